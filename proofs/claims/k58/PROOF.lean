import PyProof.Rows.All
import Wide.All
import OpenK.AllK
import Wide.FinOn
import KE.KNestM
import KE.KSortedM
import PySem.Challenge.RW_traylate_k58_whole_papers_hold_what_wait
set_option Elab.async false
set_option linter.all false
set_option maxRecDepth 100000
set_option maxHeartbeats 0
set_option synthInstance.maxSize 100000
set_option synthInstance.maxHeartbeats 0
set_option genSizeOf false
open PySem renaming wpAny_bind→ag,wpAny_pure→aF,FuncData→aQ,SetTable→bj,sizeLine→bN,starEach→cJ,mainGlobals→eD,PassesOwn→fj,NameKind→fq,wpAny_field→iO,wpAny_mono→iP,sizeLine_eq→jK,compareOp→jM,wpAny_holding→lD,binaryOp→nN,wpAny_newObj_type→oQ,wpAny_seqItems→oU,wpAny_setField→qb,builtinsNs→qm,wpAny_truthy_bool→rJ,wpAny_call_entry→rO,codeAny_builtin→rS,bootBuiltins→rW,bindArgs→r9,plainId_quiet→tD,wpAny_callSpecial?_slot→vj,pickOrder→vy,wpAny_pyIter_list→xB,wpAny_passesOwn→xG,codeAny_mono→xR,wpAny_letGo→xU,wpAny_rule→xZ,getMethod→yc,wpAny_setField_rec→z0,wpAny_Call_Name_kw→z8,wpAny_setState_of→z9,wpAny_loadPart_at→Aa,wpAny_updateSeq→Ad,keywordEach→Al,wpAny_call→Ap,isInstance→Aq,assignEach→Ar,treeTable→Az,scanBound→AA,relayAll→AJ,backToKw→AL,wpAny_execs_nil→Cr,importedModules→Cs,recursionLimit→Cv,wpAny_standAt→Cw,wpAny_attempt→Cy,wpAny_of_eq→CD,call_meets→CK,updateSeq→CV,callWith→Dc,wpAny_isInstance→Gj,letOwnedTupleGo→Gq,wpAny_tryCatch→Gy,firstArgMember→Gz,wpAny_onRaise→GN,behindInMarks→GQ,attributeBase→GR,wpAny_load→Ht,typeLookup→Hu,intKind_is→Hv,swapsWith→HS,seqItems?→HU,seqIndex?→HV,wpAny_updateSeq_pair→Ob,wpAny_setEntries_of→Of,foldedSetIterable→Oo,wpAny_askSetting→Ot,wpAny_loadPart'→Oy,codeAny_of_tree→OA,wpAny_newTuple→OF,isSubtype_stop→OG,fastBuiltinMro→OH,wpAny_newList→ON,wpAny_typeOf→OU,seqIndex_neg→OV,wpAny_comprehension_free→YB,builtinLookup_eq_fast→YJ
open Nat renaming le_refl→aB,zero_le→bU,le_of_lt→cg,le_trans→cZ,ne_of_lt→dv,lt_of_lt_of_le→eB,lt_irrefl→iH,le_succ→jL,ne_of_gt→qf,le_of_eq→qg,lt_of_le_of_lt→sZ,le_succ_of_le→tj,testBit_or→tx,lt_trichotomy→xC,lt_succ_self→xD,lt_succ_of_lt→Ac,testBit_and→Ae,not_lt_zero→Af,succ→AM,beq→AZ,succ_le_succ→Cq,mod_lt→CL,eq_of_testBit_eq→Gb,succ_ne_self→Gk,lt_of_not_le→Gm,le_add_right→Gn,and_le_left→Gs,lt_trans→Hc,testBit_lt_two_pow→N7,pow_le_pow_right→Oc,lt_of_lt_of_eq→Oj,testBit_xor→OB,min_le_left→OC,succ_pos→OY,succ_mul→OZ,add_mul_mod_self_left→Yx,lt_or_gt_of_ne→Y0,lt_or_eq_of_le→Y1,one_shiftLeft→Zb
open List renaming length_map→aH,getElem?_eq_getElem→aR,mem_of_getElem?→bw,mem_cons→bR,replicate→cY,size_toArray→du,getElem?_eq_some_iff→dC,getD_eq_getElem?_getD→dI,mem_cons_of_mem→dJ,getElem?_map→eJ,mem_singleton→eN,mem_cons_self→fJ,length_append→fQ,map_append→gf,mem_append_right→gx,length_take→gz,length_cons→gU,Perm→gY,length_set→iy,map_cons→iz,mem_range→iN,take_of_length_le→jE,getElem?_set_self→jF,mem_append→jH,mem_map→jJ,pairwise_iff_getElem→ko,take_add_one→kv,map_map→lF,mem_filter→mf,mem_append_left→nH,getElem_of_mem→nJ,range_succ→oS,mem_nil_iff→qa,length_range→rK,lookup_cons→rP,getElem_mem→rQ,length_filter_le→sX,append_nil→tu,any_cons→tE,map_set→tF,length_eq_zero_iff→vk,getElem?_set_ne→vm,replicate_succ→vn,length_replicate→xx,filter_append→xy,filter_cons→xE,all_cons→xM,lookup→xV,lookup_cons_self→zW,getElem?_of_mem→zY,length_pos_iff→zZ,all_map→Aj,flatMap_append→Cj,pairwise_map→Co,flatten_cons→Cp,forIn_cons→Ct,eq_nil_of_length_eq_zero→FU,findSome?_eq_none_iff→FY,mem_or_eq_of_mem_set→F2,getElem?_replicate→F8,filter_cons_of_pos→F9,filter_cons_of_neg→F',take_append_drop→Ga,filterMap_cons→Gd,mem_filterMap→Gg,all_eq_true→Gp,nodup_cons→Gu,set_set→Hd,getElem?_append_right→NW,getElem?_append_left→NY,length_eq_one_iff→N8,getElem?_eq_none→Oa,toList_toArray→Og,pairwise_cons→Ol,flatMap_cons→Oq,length_drop→Ou,ext_getElem→Ov,of_mem_zip→OD,map_nil→O0,any_map→O2,foldl→PJ,exists_of_findSome?_eq_some→Ym,getElem?_zip_eq_some→Yy,getElem?_eq_none_iff→Yz,pairwise_singleton→YE,getElem?_cons_succ→YF,range_succ_eq_map→YI,length_singleton→YK,replicate_succ'→YM,pairwise_append→YN,length_eraseIdx→YO,map_congr_left→YU,getD_cons_zero→YV,zip_cons_cons→Y2,length_zipIdx→Y3,take_sublist→Zc,nodup_append→Zd,take_length→Zi,perm_middle→Zj,not_mem_nil→Zk,flatMap_nil→Zl,countP_cons→Zm
open Or renaming inl→aN,inr→nR
open PySem.Heap renaming get?_push_of_some→bc,lt_size→bq,get?_push_size→dM,SameBut→gA,size_push→jI,get?_update_self→rH,get?_update_other→xw,ExtBut→Hk,get?_update_ne→Oh,get?_none_of_le→YQ
open PySem.Value renaming ref→c8,none→eK,int→gG,type→iA,bool→oY,float→Hj,str→HX
open Option renaming some→da,map_eq_some_iff→xv,map_eq_none_iff→N6,toList_some→YZ
open Bool renaming false_ne_true→dg,and_eq_true→iG,false_eq_true→p9,eq_false_iff→tm,true_and→vp,or_eq_true→xH,false_and→xK,eq_iff_iff→Gx,and_eq_true_iff→Od,or_false→OP
open Option.some renaming inj→eC,injEq→vo
open Ne renaming symm→eT
open PySem.SetTable renaming below→fh,grown→xJ,has→OX,probe→Zy,slot→ZK
open Int renaming toNat_natCast→gy,zero_add→oW,natCast_nonneg→tf,emod_nonneg→tw,emod_lt_of_pos→xA,fdiv_eq_ediv_of_nonneg→Yt,toNat_of_nonneg→YW
open PySem.PassesOwn renaming never→ie
open PyProof.Rows renaming boot_isinstance→iw,boot_tuple→mi,boot_all→Dd,callWith_type1→FV,slot_tuple_getitem→NV,get?_update_seq→Oz,subscriptTail_builtinR→YH
open PySem.SeqAt renaming EqAt→iQ,noMixAll→AK
open PySem.Obj renaming mapSeq→i7,mapFields→kx,putSet→Au,data_mapFields→Cm,isFreed_of_fields→N',cls_mapFields→Za
open PySem.Heap.SameBut renaming update→jG
open Array renaming length_toList→kr,getD→x9,getElem?_toList→zX,getD_eq_getD_getElem?→FX,mk→IQ,getElem?_eq_some_iff→NX,getElem?_eq_none→N9,getElem_toList→Oe,getElem?_setIfInBounds_ne→Yn,eq_empty_of_size_eq_zero→Yo,perm_iff_toList_perm→Yw,getElem?_eq_getElem→YA
open PySem.Str renaming ofString→lE
open False renaming elim→lH
open True renaming intro→mj
open PySem.W renaming boot_heap→nM,boot_drawn→Hw,boot_toks→HW
open Prod renaming mk→pf
open PySem.Builtin renaming bitAnd→qd,bitOr→xO,bitNot→GG
open PySem.NameKind renaming free→qe
open PySem.Builtin.SmallTypes renaming nextOf→rG,ownedTupleIsFree→FT,ownedTupleHandOut→Yl
open PySem.PyData renaming int→rY,eqv→rZ,canLayAll0→Ab,canLay0→Ag,eqvAll→Ah,strOk→Cz,depthAll→Gr,depth→Ha
open PySem.Around renaming under_plainId→sY,under→O3,frames_deeper→YR
open PySem.F renaming called_set→vq,slot_tuple_iterator_next→FZ,plain_extend_loop→Ge,slot_zip_next→Gw,args_tuple_iterator_next_1→Yp,entry_tuple_iterator_next→Yq,slot_enumerate_next→YL,entry_extend_loop→YX
open Prod.mk renaming inj→vv,injEq→GU
open Nat.succ renaming inj→Ai
open PySem.Walks renaming list→As
open PySem.W.KasT renaming kasWp_bind→Cu
open PySem.Builtin.Slice renaming slicePlaces→F5,sliceAdjust→N0,sliceApplied→Yv
open PySem.Builtin.Tuple renaming tupleExact→F6
open PySem.Builtin.List renaming listTooLong→F7,listExtendWith→Yr,listSameRef→YC
open PySem.SetTable.below renaming go→Gh
open ForInStep renaming yield→Gv
open Classical renaming byContradiction→NZ,propDecidable→N5
open PyProof.Rows.F renaming plain_set_update_loop→N2,entry_set_update_loop→YG
open PySem.Code renaming quiet_builtin→Om
open PyProof.Rows.IntsAre renaming int_at→OI
open PySem.Shared renaming TypeIs→OO
open PySem.pickOrder renaming go→OW
open PySem.Builtin.Builtins renaming bindParams→Ys
open PySem.Calls renaming Name_function_global→Yu
open PySem.Builtin.Frozenset renaming sizeOf→YD
open PySem.SeqAt.EqAt renaming none_int→YS,int_none→YT
open PySem.EntryCells renaming newEntry→YY
open PySem.SetTable.probe renaming go→Y'
open Array.Perm renaming refl→Zs
open PySem.SetTable.Met.empty renaming injEq→amg
noncomputable section
theorem dk{p:Prop}(h:p:=by decide +kernel):p:=h
theorem qc{p:Prop}(h:p:=by decide):p:=h
theorem om{p:Prop}(h:p:=by omega):p:=h
theorem li{p:Prop}(h:p:=by lia):p:=h
namespace L2
end L2
namespace L3
end L3
namespace L4
end L4
namespace L5
end L5
namespace HT
open PySem PySem.W
def Df(tb:String->Option Builtin)(p:Program)(w:World)(n₀:Nat)(ann:Option Value):Nat->SharedT->Thread->Option SharedT
 | 0,_,_=>none
 | n+1,s,t=>match through t with
  | true=>some s
  | false=>match stepOk n₀ ann t with
   | false=>none
   | true=>match stepT (denote tb) p w s t with
    | some (s',t')=>Df tb p w n₀ ann n s' t'
    | none=>none
theorem Pb{tb:String->Option Builtin}{p:Program}{w:World}{n₀:Nat}{ann:Option Value}:∀{n:Nat} {s s':SharedT} {t:Thread},Df tb p w n₀ ann n s t=some s'->topRun tb p w n₀ ann n s.abs t=some s'.abs
 | 0,_,_,_,h=>by cases h
 | n+1,s,s',t,h=>by
  unfold Df at h;unfold topRun;cases he:through t with
  | true=>rw[he]at h;cases h;rfl
  | false=>
   rw[he]at h;cases hk:stepOk n₀ ann t with
   | false=>rw[hk]at h;cases h
   | true=>
    rw[hk]at h;cases hs:stepT (denote tb) p w s t with
    | none=>rw[hs]at h;cases h
    | some r=>obtain⟨s₂,t₂⟩:=r;rw[hs]at h;rw[stepT_spec hs];exact Pb h
def Rk:List Obj->Nat->BT->BT
 | [],_,t=>t
 | o::r,i,t=>Rk r (i+1) (t.ins i o)
def KY(P:Params):BT:=Rk (nM P).objs.toList 0 .nil
def Bf(P:Params):Nat:=(nM P).objs.size
def KZ(P:Params):Life:=(nM P).life
def aiu(P:Params):Option Value:=(nM P).nsMap eD "__annotations__"
theorem boot_abs(P:Params):absHeap (KY P) (Bf P) (KZ P)=nM P:=by kernel_rfl
theorem afc(P:Params):((nM P).isNs eD,(nM P).objs.size)=(true,Bf P):=by kernel_rfl
def Sk(P:Params)(os:OsState):SharedT:=⟨KY P,Bf P,KZ P,#[],Hw,HW,os⟩
def lR(p:Program)(w:World)(N:Nat)(os:OsState):Option SharedT:=Df Az p w (Bf w.params) (aiu w.params) N (Sk w.params os) (topStub p)
def held(p:Program)(P:Params)(s:Shared):Bool:=staticsOk (Cs p.main.body) (nM P) s.heap&&namesBound p s.heap&&gensDone s&&laidKept (nM P) s.heap
theorem both{α β γ:Type}{o:Option α}{f:α->β}{g:α->γ}{b:β}{c:γ}(h1:o.map f=some b)(h2:o.map g=some c):o.map (λs=>(f s,g s))=some (b,c):=by
 cases o with
 | none=>cases h1
 | some s=>cases h1;cases h2;rfl
theorem aaj{p:Program}{w:World}{N:Nat}{s₀ s₁:Shared}(a:(s₀.heap.isNs eD&&s₀.gens.size == 0)=true)(r:topRun Az p w s₀.heap.objs.size (s₀.heap.nsMap eD "__annotations__") N s₀ (topStub p)=some s₁)
  (b:(staticsOk (Cs p.main.body) s₀.heap s₁.heap&&namesBound p s₁.heap&&gensDone s₁&&laidKept s₀.heap s₁.heap)=true):topFrom Az p w N s₀=some s₁:=by
 unfold topFrom;rw[a];dsimp only;rw[r];dsimp only[Option.bind];rw[b]
theorem ae0{p q:Program}{loose:List Str}{Xt:Shared->Bool}{α:Type}{Yf:Shared->α}{Ya:World->α}{N:Nat}(e:opening p=plainProg p.main.scope.names)(hN:Nat.ble 600 N=true)(f:∀s,fenceModules? p s=some s)
  (run:∀(w:World) (os:OsState),(lR p w N os).map (λs=>(held p w.params s.abs,(openSeen q loose (Cs p.main.body) Xt true s.abs,Yf s.abs)))=some (true,(openGood q loose,Ya w))):LeftO p q loose Xt Yf Ya N:=λw=>by
 obtain⟨⟨h,gs,d,k,os⟩,e1,e'⟩:=xv.mp (boot_open e hN f w);obtain⟨rfl,rfl,rfl,rfl⟩:h=nM w.params/\gs=IQ []/\d=Hw/\k=HW:=by simpa using e'
 obtain⟨s₁,r,l⟩:=xv.mp (run w os);obtain⟨l1,l2⟩:=vv l;obtain⟨z1,z2⟩:=vv (afc w.params);have r':=Pb r
 have ea:(Sk w.params os).abs=⟨nM w.params,IQ [],Hw,HW,os⟩:=by
  show (⟨absHeap (KY w.params) (Bf w.params) (KZ w.params),_,_,_,_⟩:Shared)=_;rw[boot_abs];rfl
 rw[ea]at r';have t:topFrom Az p w N ⟨nM w.params,IQ [],Hw,HW,os⟩=some s₁.abs:=aaj (by rw[z1];rfl) (by show topRun Az p w (nM w.params).objs.size _ N _ _=_;rw[z2];exact r') l1;unfold openEnds;rw[e1];show (topFrom Az p w N _).map _=_;rw[t];exact congrArg some l2
end HT
namespace TL
open PySem PySem.Spec PyProof.Rows PySem.SeqAt L2 L3
def qv:Program:=W.view PySem.Challenge.rw_traylate_k58_whole_papers_hold_what_wait.prog [0,2,3,4,5,6,7,9,10,11,12,13,14,15,16,17,18,19,20,21,22,23,24,26,27,28,29,30,31,33,34,35,36,37,38,39,40,41,42,43,44,45,46,48,49,51,52,53,55,56,57,58,60,61,62,63,64,65,66,67,68]
end TL
section
open PySem PySem.W PyProof.Rows
abbrev TL.rn(w:World)(os:OsState):=HT.lR PySem.Challenge.rw_traylate_k58_whole_papers_hold_what_wait.row.prog w 12724 os
abbrev TL.lo:List Str:=["fault","Machine","KINDS"]
theorem TL.lw:looseW TL.qv [PySem.Str.ofString "fault"]=TL.lo:=by kernel_rfl
theorem TL.lwS:W.OpenLaw.wellSaid PySem.Challenge.rw_traylate_k58_whole_papers_hold_what_wait=true:=by kernel_rfl
theorem TL.l0(w:World)(os:OsState):(TL.rn w os).map (λs=>((s.abs.heap.keysOk TL.lo ((recsOf TL.qv).map (·.name)) ((litsOf TL.qv).map (·.1)) ((clssOf TL.qv TL.lo).map (·.name))),((plainSeenE TL.qv TL.lo s.abs))))=some (true,(plainGoodE TL.qv TL.lo)):=by kernel_rfl
theorem TL.l1(w:World)(os:OsState):(TL.rn w os).map (λs=>(wideSeen TL.qv s.abs,clsSeenW TL.qv [PySem.Str.ofString "fault"] s.abs))=some (wideGood TL.qv,clsGoodW TL.qv [PySem.Str.ofString "fault"]):=by kernel_rfl
theorem TL.l2(w:World)(os:OsState):(TL.rn w os).map (λs=>((plainSeenD TL.qv [PySem.Str.ofString "fault"] s.abs),((HT.held PySem.Challenge.rw_traylate_k58_whole_papers_hold_what_wait.row.prog w.params s.abs),((s.abs.heap.bmainOk&&(valsOk TL.qv s.abs.heap&&(!importsNone TL.qv||s.abs.heap.noSeerOk)))))))=some (plainGoodD TL.qv [PySem.Str.ofString "fault"],(true,(true))):=by kernel_rfl
theorem TL.l3(w:World)(os:OsState):(TL.rn w os).map (λs=>((((recsOf TL.qv).map λd=>s.abs.heap.tab0Ok d.name).take 22 |>.all id),((s.abs.heap.bltView))))=some (true,(bltViewBooted)):=by kernel_rfl
theorem TL.l4(w:World)(os:OsState):(TL.rn w os).map (λs=>((recsOf TL.qv).map λd=>s.abs.heap.tab0Ok d.name).drop 22 |>.all id)=some true:=by kernel_rfl
theorem TL.l5(w:World)(os:OsState):(TL.rn w os).map (λs=>(((((recsOf TL.qv).map (·.name)).map (s.abs.heap.shapeAt eD)).take 18),(((ownsOf TL.qv).all (λo=>s.abs.heap.ownExcOk o.name o.chain o.bm o.newId&&s.abs.heap.quietOk o.name)&&(s.abs.heap.noLimitOk&&s.abs.heap.noDigitsOk)),((pinSeenD TL.qv (drecsOf TL.qv) s.abs),((s.abs.heap.accountedOkI (Cs PySem.Challenge.rw_traylate_k58_whole_papers_hold_what_wait.row.prog.main.body)&&(s.abs.heap.isNs eD&&(s.abs.heap.isNs qm&&(tablesOk TL.qv s.abs.heap&&((W.xlAt TL.qv [] s.abs&&W.recOk PySem.Challenge.rw_traylate_k58_whole_papers_hold_what_wait.row.records s.abs)&&(s.abs.gens.size == 0)))))))))))=some ((((recsOf TL.qv).take 18).map λd=>some d.shape),(true,(pinGoodD (drecsOf TL.qv),(true)))):=by kernel_rfl
theorem TL.l6(w:World)(os:OsState):(TL.rn w os).map (λs=>(((recsOf TL.qv).map (·.name)).map (s.abs.heap.shapeAt eD)).drop 18)=some ((((recsOf TL.qv).drop 18).map λd=>some d.shape)):=by kernel_rfl
end
namespace L2
open PySem PySem.Spec PyProof.Rows
def inClass(s:Stmt)(j:Nat):Stmt:=match s with
 | .ClassDef _ _ _ body _ _ _ _ _ _ _=>body.getD j (.Pass ⟨0,0,0,0⟩)
 | _=>.Pass ⟨0,0,0,0⟩
def jN(s:Stmt):Arguments:=match s with
 | .FunctionDef _ a _ _ _ _ _ _ _ _=>a
 | _=>{ posonlyargs:=[],args:=[],vararg:=none,kwonlyargs:=[],kw_defaults:=[],kwarg:=none,defaults:=[] }
def iI(s:Stmt):List Stmt:=match s with
 | .FunctionDef _ _ b _ _ _ _ _ _ _=>b
 | _=>[]
def aM(s:Stmt):Scope:=match s with
 | .FunctionDef _ _ _ _ _ _ sc _ _ _=>sc
 | _=>{ kind:=.function,names:=[],isGenerator:=false,isCoroutine:=false }
end L2
namespace TL
open PySem PySem.Spec PyProof.Rows L2 L3
abbrev k7:Int:=1000000000000000000000000000000000000000000000000000000000000
def top(i:Nat):Stmt:=PySem.Challenge.pw_traylate_k58_whole_papers_hold_what_wait.main.body.getD i (.Pass ⟨0,0,0,0⟩)
abbrev DY:Stmt:=inClass (top 13) 0
abbrev A2:Stmt:=top 21
abbrev AR:Stmt:=top 22
abbrev Dk:Stmt:=top 23
abbrev Jc:Stmt:=top 24
abbrev DX:Stmt:=inClass (top 14) 0
abbrev DZ:Stmt:=inClass (top 15) 0
abbrev DW:Stmt:=inClass (top 16) 0
abbrev DE:Stmt:=inClass (top 17) 0
abbrev DB:Stmt:=inClass (top 18) 0
abbrev DC:Stmt:=inClass (top 20) 0
end TL
namespace L2
open PySem
abbrev U5:Addr:=87
end L2
namespace L2
open PySem PySem.Spec PyProof.Rows L3
open Sem (wp)
abbrev Ek:List Value:=[.type "ValueError",.type "Exception",.type "BaseException",.type "object"]
end L2
namespace TL
open PySem PySem.Spec PyProof.Rows L2 L3
abbrev IZ:Stmt:=top 21
abbrev EK:Stmt:=inClass (top 52) 0
abbrev Kr:Stmt:=inClass (top 52) 1
abbrev Ij:Stmt:=inClass (top 52) 2
abbrev CY:Stmt:=inClass (top 52) 3
abbrev JG:Stmt:=inClass (top 52) 4
abbrev Jb:Stmt:=inClass (top 52) 5
abbrev Ii:Stmt:=inClass (top 52) 6
abbrev Ja:Stmt:=top 53
end TL
namespace TL
open PySem PySem.Spec PyProof.Rows PySem.SeqAt L2 L3 L4
abbrev DG:Stmt:=inClass (top 13) 5
abbrev CP:Stmt:=inClass (top 18) 3
abbrev CH:Stmt:=inClass (top 19) 0
abbrev DD:Stmt:=inClass (top 58) 0
abbrev JS:Stmt:=inClass (top 58) 1
abbrev JI:Stmt:=inClass (top 58) 2
abbrev Ir:Stmt:=inClass (top 58) 3
abbrev Jf:Stmt:=inClass (top 58) 4
abbrev Lp:Stmt:=inClass (top 58) 5
abbrev Ji:Stmt:=inClass (top 58) 6
abbrev JQ:Stmt:=inClass (top 58) 7
abbrev Jj:Stmt:=inClass (top 58) 8
abbrev Jh:Stmt:=inClass (top 58) 9
abbrev JR:Stmt:=inClass (top 58) 10
abbrev Kx:Stmt:=inClass (top 58) 11
abbrev Im:Stmt:=inClass (top 58) 12
abbrev JF:Stmt:=inClass (top 58) 15
abbrev Ih:Stmt:=inClass (top 58) 18
abbrev Lr:Stmt:=top 27
abbrev Kv:Stmt:=top 28
abbrev HC:Stmt:=top 29
abbrev Ik:Stmt:=top 55
abbrev Dj:Stmt:=inClass (top 13) 2
abbrev CG:Stmt:=inClass (top 20) 1
abbrev Kq:Stmt:=top 34
abbrev Ig:Stmt:=top 35
abbrev Jk:Stmt:=top 44
abbrev Io:Stmt:=top 45
abbrev DU:Stmt:=inClass (top 13) 3
abbrev DV:Stmt:=inClass (top 16) 1
abbrev DA:Stmt:=inClass (top 18) 1
abbrev Kt:Stmt:=top 33
abbrev Lo:Stmt:=top 36
abbrev JL:Stmt:=top 37
abbrev HB:Stmt:=top 30
abbrev Il:Stmt:=top 31
abbrev Jd:Stmt:=top 38
abbrev Jg:Stmt:=top 39
abbrev JP:Stmt:=top 40
abbrev Ip:Stmt:=top 41
abbrev JK:Stmt:=top 42
abbrev Ks:Stmt:=top 43
abbrev Iq:Stmt:=top 46
abbrev DF:Stmt:=top 47
abbrev Kw:Stmt:=top 60
abbrev JM:Stmt:=top 61
abbrev JO:Stmt:=top 62
abbrev JH:Stmt:=top 63
abbrev JN:Stmt:=top 64
abbrev vX:Stmt:=top 68
abbrev Je:Stmt:=top 48
abbrev JJ:Stmt:=top 49
abbrev G0:Stmt:=top 57
abbrev Ku:Stmt:=top 56
abbrev Md:Stmt:=top 66
abbrev Mf:Stmt:=top 67
abbrev Me:Stmt:=top 65
end TL
namespace HT
open PySem PySem.W PyProof.Rows
theorem qO{α β γ:Type}{o:Option α}{f:α->β}{g:α->γ}{b:β}{c:γ}(h:o.map (λs=>(f s,g s))=some (b,c)):o.map f=some b:=by
 cases o with
 | none=>cases h
 | some s=>
  have h':(f s,g s)=(b,c):=eC h;exact congrArg some (vv h').1
theorem m8{α β γ:Type}{o:Option α}{f:α->β}{g:α->γ}{b:β}{c:γ}(h:o.map (λs=>(f s,g s))=some (b,c)):o.map g=some c:=by
 cases o with
 | none=>cases h
 | some s=>
  have h':(f s,g s)=(b,c):=eC h;exact congrArg some (vv h').2
theorem sF{α:Type}{o:Option α}{f g:α->Bool}(h1:o.map f=some true)(h2:o.map g=some true):o.map (λs=>f s&&g s)=some true:=by
 cases o with
 | none=>cases h1
 | some s=>
  have p:f s=true:=eC h1;show some (f s&&g s)=some true;rw[p];exact h2
theorem ub{α:Type}{o:Option α}{f g:α->Bool}(h:o.map (λs=>f s&&g s)=some true):o.map f=some true/\o.map g=some true:=by
 cases o with
 | none=>cases h
 | some s=>
  have p:=Od.mp (eC h);exact⟨congrArg some p.1,congrArg some p.2⟩
theorem td{α β γ:Type}{o:Option α}{F:α->List β}{l:List γ}{g:γ->β}(k:Nat)(h1:o.map (λs=>(F s).take k)=some ((l.take k).map g))(h2:o.map (λs=>(F s).drop k)=some ((l.drop k).map g)):o.map F=some (l.map g):=by
 cases o with
 | none=>cases h1
 | some s=>
  refine congrArg some ?_;rw[<-Ga k (F s),show (F s).take k=(l.take k).map g from eC h1,show (F s).drop k=(l.drop k).map g from eC h2,<-gf,Ga]
theorem Jw{α:Type}{o:Option α}{F:α->List Bool}(k:Nat)(h1:o.map (λs=>((F s).take k).all id)=some true)(h2:o.map (λs=>((F s).drop k).all id)=some true):o.map (λs=>(F s).all id)=some true:=by
 cases o with
 | none=>cases h1
 | some s=>
  refine congrArg some ?_;show (F s).all id=true;rw[<-Ga k (F s),List.all_append,show ((F s).take k).all id=true from eC h1,show ((F s).drop k).all id=true from eC h2];rfl
theorem mkS{d D:List (Option FnShape)}{o g b n:Bool}(h1:d=D)(h2:o=true)(h3:g=true)(h4:b=true)(h5:n=true):(⟨d,o,[],g,b,n,0⟩:Seen)=⟨D,true,[],true,true,true,0⟩:=by
 subst h1 h2 h3 h4 h5;rfl
theorem tb_{α β:Type}{o:Option α}{l:List β}{f:α->β->Bool}(h:o.map (λs=>(l.map λd=>f s d).all id)=some true):o.map (λs=>l.all λd=>f s d)=some true:=by
 cases o with
 | none=>cases h
 | some s=>
  refine congrArg some ?_;have e:(l.map λd=>f s d).all id=true:=eC h;rw[Aj]at e;exact e
theorem ad5{p q:Program}{w:World}{N:Nat}{os:OsState}{loose mods:List Str}{Xt:Shared->Bool}{L:List Str}(hL:looseW q loose=L)
  (h3:(lR p w N os).map (λs=>s.abs.heap.keysOk L ((recsOf q).map (·.name)) ((litsOf q).map (·.1)) ((clssOf q L).map (·.name)))=some true)
  (h5:(lR p w N os).map (λs=>s.abs.heap.accountedOkI mods&&(s.abs.heap.isNs eD&&(s.abs.heap.isNs qm&&(tablesOk q s.abs.heap&&(Xt s.abs&&(s.abs.gens.size == 0))))))=some true)
  (h1:(lR p w N os).map (λs=>((recsOf q).map (·.name)).map (s.abs.heap.shapeAt eD))=some ((recsOf q).map λd=>some d.shape))
  (h6:(lR p w N os).map (λs=>(ownsOf q).all (λo=>s.abs.heap.ownExcOk o.name o.chain o.bm o.newId&&s.abs.heap.quietOk o.name)&&(s.abs.heap.noLimitOk&&s.abs.heap.noDigitsOk))=some true)
  (h2:(lR p w N os).map (λs=>s.abs.heap.bltView)=some bltViewBooted)
  (h7:(lR p w N os).map (λs=>(recsOf q).all λd=>s.abs.heap.tab0Ok d.name)=some true)
  (h8:(lR p w N os).map (λs=>s.abs.heap.bmainOk&&(valsOk q s.abs.heap&&(!importsNone q||s.abs.heap.noSeerOk)))=some true)
  (h4:(lR p w N os).map (λs=>(pinSeenD q (drecsOf q) s.abs,(plainSeenE q L s.abs,(plainSeenD q loose s.abs,(wideSeen q s.abs,clsSeenW q loose s.abs)))))=some ((pinGoodD (drecsOf q),(plainGoodE q L,(plainGoodD q loose,(wideGood q,clsGoodW q loose)))))) :
  (lR p w N os).map (λs=>openSeen q loose mods Xt true s.abs)=some (openGood q loose):=by
 subst hL;obtain⟨a1,h5⟩:=ub h5;obtain⟨a2,h5⟩:=ub h5;obtain⟨a3,h5⟩:=ub h5;obtain⟨a4,h5⟩:=ub h5;obtain⟨a5,a6⟩:=ub h5;obtain⟨b1,b2⟩:=ub h6;obtain⟨c1,h8⟩:=ub h8;obtain⟨c2,c3⟩:=ub h8
 have sn:(lR p w N os).map (λs=>seen ((recsOf q).map (·.name)) (ownsOf q) [] { heap:=s.abs.heap,drawn:=s.abs.drawn,toks:=s.abs.toks,os:=s.abs.os })=some (expectedOf q):=by
  generalize lR p w N os=o at h1 a2 a3 b1 b2 ⊢;cases o with
  | none=>cases h1
  | some s=>
   refine congrArg some ?_;exact mkS (eC h1) (eC b1) (eC a2) (eC a3) (eC b2)
 have tb:(lR p w N os).map (λs=>tabsOk q s.abs)=some true:=sF (sF (sF h7 c1) c2) c3;have a:=both sn (both h2 (both (sF (sF (sF (sF (sF (sF h3 a1) a2) a3) a4) a5) a6) (both tb h4)));exact a
end HT
namespace HT
open PySem PySem.W
theorem Jq{g:Addr->Option Obj}{a:Addr}{o:Obj}:∀l:List Addr,(l.filterMap λa=>(g a).map λo=>(a,o)).lookup a=some o->g a=some o
 | [],h=>by cases h
 | b::r,h=>by
  rw[Gd]at h;cases e:g b with
  | none=>rw[e]at h;exact Jq r h
  | some x=>
   rw[e]at h;dsimp only[Option.map]at h;rw[rP]at h;cases q:a == b with
   | true=>rw[q]at h;cases h;rw[beq_iff_eq.mp q];exact e
   | false=>rw[q]at h;exact Jq r h
def rf:Option (Option Value)->Addr
 | some (some (.ref a))=>a
 | _=>0
def EN:Option (Option Value)->Bool
 | some (some (.ref _))=>true
 | _=>false
theorem ja{o:Option (Option Value)}(h:EN o=true):o=some (some (.ref (rf o))):=by
 unfold EN at h
 split at h
 ·rfl
 ·cases h
def wA(o:Option (Option Value))(n:Int):Bool:=match o with
 | some (some (.int m _))=>decide (m=n)
 | _=>false
theorem A9{o:Option (Option Value)}{n:Int}(h:wA o n=true):∃t,o=some (some (.int n t)):=by
 unfold wA at h
 split at h
 ·rename_i m t;exact⟨t,by rw[of_decide_eq_true h]⟩
 ·cases h
def Ml(o:Option CFound)(f:Addr):Bool:=match o with
 | some (.val (.ref a))=>AZ a f
 | _=>false
theorem agk{o:Option CFound}{f:Addr}(h:Ml o f=true):o=some (.val (.ref f)):=by
 unfold Ml at h
 split at h
 ·rw[Nat.eq_of_beq_eq_true h]
 ·cases h
abbrev pQ:=Str×Str×Arguments×FuncBody×Scope×Addr×List (Str×Addr)×Value×Addr
def a7(K:Frag)(f:Addr):Option pQ:=match K.lookup f with
 | some ⟨_,_,.func d,_⟩=>some (d.name,d.qualname,d.params,d.body,d.scope,d.globals,d.closure,d.defaults,d.builtins)
 | _=>none
def codeOk(K:Frag)(f:Addr)(q:Str):Bool:=match K.lookup f with
 | some ⟨_,_,.func d,_⟩=>codeIn K d.code q
 | _=>false
theorem ua{K:Frag}{f:Addr}{n q q':Str}{A:Arguments}{B:List Stmt}{S:Scope}(h:a7 K f=some (n,q,A,.stmts B,S,eD,[],.none,qm))(hc:codeOk K f q'=true) :
  ∃(oc:Value) (od:Option Addr) (kV dc pm:Value) (an:Option Addr) (cd ct:Value) (sl:Array (Option Value)),K.lookup f=some ⟨oc,od,.func (fnOf n q A B S .none kV dc pm an cd ct),sl⟩/\codeIn K cd q'=true:=by
 unfold a7 at h;unfold codeOk at hc
 split at h
 ·rename_i oc od d sl e
  rw[e]at hc;obtain⟨d1,d2,d3,d4,d5,d6,d7,d8,d9,d10,d11,d12,d13,d14,d15⟩:=d;simp only[vo,GU]at h;obtain⟨rfl,rfl,rfl,rfl,rfl,rfl,rfl,rfl,rfl⟩:=h;exact⟨oc,od,_,_,_,_,_,_,sl,e,hc⟩
 ·cases h
def yL(K:Frag)(f:Addr):Option pQ:=match K.lookup f with
 | some ⟨_,_,.func d,_⟩=>some (d.name,d.qualname,d.params,d.body,d.scope,d.globals,d.closure,.none,d.builtins)
 | _=>none
def yN(K:Frag)(f:Addr)(x:Str):Bool:=match K.lookup f with
 | some ⟨_,_,.func d,_⟩=>(match d.defaults with
  | .ref T=>(match K.lookup T with
   | some ⟨_,_,.seq aj _,_⟩=>(match aj.toList with
    | [.str y _]=>decide (y=x)
    | _=>false)
   | _=>false)
  | _=>false)
 | _=>false
theorem SY{K:Frag}{f:Addr}{n q q' x:Str}{A:Arguments}{B:List Stmt}{S:Scope}(h:yL K f=some (n,q,A,.stmts B,S,eD,[],.none,qm))(hc:codeOk K f q'=true)(hd:yN K f x=true) :
  ∃(oc:Value) (od:Option Addr) (T:Addr) (kV dc pm:Value) (an:Option Addr) (cd ct:Value) (sl:Array (Option Value)) (c1:Value) (d1:Option Addr) (n1:Nat) (oH:Array (Option Value)) (tk:Nat),K.lookup f=some ⟨oc,od,.func (fnOf n q A B S (.ref T) kV dc pm an cd ct),sl⟩/\codeIn K cd q'=true/\K.lookup T=some ⟨c1,d1,.seq #[.str x tk] n1,oH⟩:=by
 unfold yL at h;unfold codeOk at hc;unfold yN at hd
 split at h
 ·rename_i oc od d sl e
  rw[e]at hc hd;obtain⟨d1,d2,d3,d4,d5,d6,d7,d8,d9,d10,d11,d12,d13,d14,d15⟩:=d;simp only[vo,GU]at h;obtain⟨rfl,rfl,rfl,rfl,rfl,rfl,rfl,_,rfl⟩:=h;cases d8 with
  | ref T=>
   have hd:(match K.lookup T with
    | some ⟨_,_,.seq aj _,_⟩=>(match aj.toList with
     | [.str y _]=>decide (y=x)
     | _=>false)
    | _=>false)=true:=hd
   split at hd
   ·rename_i c1 dd1 aj n1 oH e1
    split at hd
    ·rename_i y tk ei
     rw[of_decide_eq_true hd]at ei
     have alD:aj=#[.str x tk]:=by
      have:=congrArg List.toArray ei;simpa using this
     rw[alD]at e1;exact⟨oc,od,T,_,_,_,_,_,_,sl,c1,dd1,n1,oH,tk,e,hc,e1⟩
    ·cases hd
   ·cases hd
  | _=>cases hd
 ·cases h
def t9(h:Heap)(as:List Addr)(T:Addr):Frag:=as.filterMap λa=>(if AZ a T=true then none else h.get? a).map λo=>(a,o)
theorem Pq{h:Heap}{as:List Addr}{T a:Addr}{o:Obj}(e:(t9 h as T).lookup a=some o):a≠T/\h.get? a=some o:=by
 have z:=Jq (g:=λa=>if AZ a T=true then none else h.get? a) _ e
 by_cases y:AZ a T=true
 ·rw[if_pos y]at z;cases z
 ·rw[if_neg y]at z;exact⟨λq=>y (by rw[q];exact Nat.beq_refl T),z⟩
theorem adm(h:Heap)(as:List Addr)(T:Addr):(t9 h as T).In h:=λ_ _ e=>(Pq e).2
theorem adl(h:Heap)(as:List Addr)(T:Addr):(t9 h as T).lookup T=none:=by
 cases e:(t9 h as T).lookup T with
 | none=>rfl
 | some o=>exact absurd rfl (Pq e).1
def gT(s:SharedT)(a:Addr):Option Obj:=match Nat.ble (a+1) s.n with
 | true=>alive ((s.tree.get a).getD default)
 | false=>none
theorem T6(s:SharedT)(a:Addr):s.abs.heap.get? a=gT s a:=by
 show (absHeap s.tree s.n s.life).get? a=gT s a;unfold gT;cases h:Nat.ble (a+1) s.n with
 | true=>
  have h1:a<s.n:=Nat.le_of_ble_eq_true h;unfold Heap.get?;rw[absHeap_at,if_pos h1];generalize (s.tree.get a).getD default=o;show (match some o with | some ⟨_,_,.freed,_⟩=>none | o=>o)=alive o;obtain⟨c,d,dt,sl⟩:=o;cases dt <;> rfl
 | false=>exact abs_get_none λz=>by rw[Nat.ble_eq_true_of_le (show a+1<=s.n from z)]at h;cases h
def t8(s:SharedT)(as:List Addr)(T:Addr):Frag:=as.filterMap λa=>match AZ a T with
 | true=>none
 | false=>(gT s a).map λo=>(a,o)
theorem adk(s:SharedT)(as:List Addr)(T:Addr):t9 s.abs.heap as T=t8 s as T:=by
 unfold t9 t8
 congr 1
 funext a
 rw[T6];cases AZ a T <;> rfl
def vP:Option Obj->Bool
 | some ⟨.none,none,.fields vs,sl⟩=>vs.size == 0&&sl.size == 0
 | _=>false
theorem adg{o:Option Obj}(h:vP o=true):o=some (tabObj #[]):=by
 unfold vP at h
 split at h
 ·rename_i vs sl
  rw[iG]at h;have e1:=Yo (beq_iff_eq.mp h.1);have e2:=Yo (beq_iff_eq.mp h.2);subst e1;subst e2;rfl
 ·cases h
def sg(as:List Addr)(T:Addr)(obs:Frag->Bool×List (Option pQ))(val:Bool×List (Option pQ)):Hook:=
 ⟨Bool×(Bool×List (Option pQ)),λs=>(vP (s.heap.get? T),obs (t9 s.heap as T)),λ_=>(true,val),λ_ h=>∃K:Frag,K.In h/\K.lookup T=none/\h.get? T=some (tabObj #[])/\obs K=val,λ_ s e=>⟨_,adm s.heap as T,adl _ _ _,adg (vv e).1,(vv e).2⟩,λ_ _ _ ⟨K,a,n,t,b⟩ k=>⟨K,a.keeps k,n,k _ _ t,b⟩⟩
theorem agf{as:List Addr}{T:Addr}{obs:Frag->Bool×List (Option pQ)}{val:Bool×List (Option pQ)}{o:Option SharedT}(h1:o.map (λs=>vP (gT s T))=some true)(h2:o.map (λs=>obs (t8 s as T))=some val):o.map (λs=>(sg as T obs val).obs s.abs)=some (true,val):=by
 have e:(λs:SharedT=>(sg as T obs val).obs s.abs)=λs=>(vP (gT s T),obs (t8 s as T)):=by
  funext s
  show (vP (s.abs.heap.get? T),obs (t9 s.abs.heap as T))=_;rw[T6,adk]
 rw[e];exact both h1 h2
def vR:Value->Addr
 | .ref q=>q
 | _=>0
def vB:Value->Bool
 | .ref _=>true
 | _=>false
theorem ag8{v:Value}(h:vB v=true):v=.ref (vR v):=by cases v <;> first | rfl | cases h
def yO(K:Frag)(f:Addr):Addr:=match K.lookup f with
 | some ⟨_,_,.func d,_⟩=>vR d.code
 | _=>0
def Ej(K:Frag)(f:Addr):Bool:=match K.lookup f with
 | some ⟨_,_,.func d,_⟩=>vB d.code
 | _=>false
theorem agv{K:Frag}{f:Addr}{n q q':Str}{A:Arguments}{B:List Stmt}{S:Scope}(h:a7 K f=some (n,q,A,.stmts B,S,eD,[],.none,qm))(hc:codeOk K f q'=true)(hr:Ej K f=true) :
  ∃(oc:Value) (od:Option Addr) (kV dc pm:Value) (an:Option Addr) (ct:Value) (sl:Array (Option Value)),K.lookup f=some ⟨oc,od,.func (fnOf n q A B S .none kV dc pm an (.ref (yO K f)) ct),sl⟩/\codeIn K (.ref (yO K f)) q'=true:=by
 obtain⟨oc,od,kV,dc,pm,an,cd,ct,sl,e,c⟩:=ua h hc
 have e2:cd=.ref (yO K f):=by
  unfold Ej at hr;unfold yO;rw[e]at hr ⊢;exact ag8 hr
 rw[e2]at e c;exact⟨oc,od,kV,dc,pm,an,ct,sl,e,c⟩
def qq:List Value->List Str->Bool
 | [],[]=>true
 | .str y _::us,x::xs=>decide (y=x)&&qq us xs
 | _,_=>false
def tupS(K:Frag)(a:Addr)(xs:List Str):Bool:=match K.lookup a with
 | some ⟨.type "tuple",_,.seq aj _,_⟩=>qq aj.toList xs
 | _=>false
end HT
namespace TL
open PySem PySem.Spec PyProof.Rows PySem.SeqAt L2 L3
def gN(K:W.Frag)(x:Str):Addr:=HT.rf (W.nsIn K eD x)
def gM(K:W.Frag)(c:Addr)(x:Str):Addr:=HT.rf (W.findIn K (.ref c) x)
abbrev rN(K:W.Frag)(x:Str):Prop:=HT.EN (W.nsIn K eD x)=true
abbrev zN(K:W.Frag)(x:Str):Prop:=W.nsIn K eD x=some none
abbrev no(K:W.Frag)(c:Addr)(x:Str):Prop:=W.findIn K (.ref c) x=some none
abbrev fN(K:W.Frag)(x:Str):Prop:=rN K x/\HT.codeOk K (gN K x) x=true/\W.keepIn K (.ref (gN K x))=true
abbrev fM(K:W.Frag)(c:Addr)(m q:Str):Prop:=HT.EN (W.findIn K (.ref c) m)=true/\HT.codeOk K (gM K c m) q=true/\W.keepIn K (.ref (gM K c m))=true/\W.isFn K (.ref (gM K c m))=true
abbrev cK(K:W.Frag)(x:Str):Prop:=rN K x/\W.plainGet K (gN K x) Str.empty=true/\W.hasDictIn K (gN K x)=true/\W.plainOver K (gN K x)=true/\W.findIn K (.ref (gN K x)) "__setattr__" = some (some (.builtin "object.__setattr__"))
abbrev mK(K:W.Frag)(c:Addr):Prop:=W.makesIn K c=true/\W.keepIn K (.ref c)=true
abbrev xF(K:W.Frag)(x e:Addr):Prop:=W.excIn K x Ek "ValueError.__new__" = true/\W.keepIn K (.ref x)=true/\W.kitCls K (.ref x) (.ref x)=some true/\W.kitCls K (.ref x) (.type "BaseException")=some true/\W.kitOne K (.ref x) (.ref e)=some true/\W.kitOne K (.ref x) (.type "ValueError")=some true
def fp(n q:Str)(st:Stmt):Option HT.pQ:=some (n,q,jN st,.stmts (iI st),aM st,eD,[],.none,qm)
abbrev La(K:W.Frag):Addr:=gN K "TrayError"
abbrev aiC(K:W.Frag):Addr:=gN K "NoStep"
abbrev aiD(K:W.Frag):Addr:=gN K "NoMove"
abbrev aiE(K:W.Frag):Addr:=gN K "NoKind"
abbrev my(K:W.Frag):Addr:=gN K "Step"
abbrev eV(K:W.Frag):Addr:=gN K "Put"
abbrev eW(K:W.Frag):Addr:=gN K "Add"
abbrev eU(K:W.Frag):Addr:=gN K "Set"
abbrev eR(K:W.Frag):Addr:=gN K "Look"
abbrev eP(K:W.Frag):Addr:=gN K "Swap"
abbrev eQ(K:W.Frag):Addr:=gN K "Skip"
abbrev iT(K:W.Frag):Addr:=gN K "Clear"
abbrev gI(K:W.Frag):Addr:=gN K "Tray"
abbrev cU(K:W.Frag):Addr:=gN K "Machine"
abbrev Rh(K:W.Frag):Addr:=gN K "KINDS"
abbrev Va(K:W.Frag):Addr:=gN K "is_whole"
abbrev Vd(K:W.Frag):Addr:=gN K "bounds_of"
abbrev Vb(K:W.Frag):Addr:=gN K "is_step"
abbrev Vc(K:W.Frag):Addr:=gN K "step_of"
abbrev yS(K:W.Frag):Addr:=gM K (my K) "__init__"
abbrev Ki(K:W.Frag):Addr:=gM K (eV K) "__init__"
abbrev Kk(K:W.Frag):Addr:=gM K (eW K) "__init__"
abbrev Kh(K:W.Frag):Addr:=gM K (eU K) "__init__"
abbrev Jv(K:W.Frag):Addr:=gM K (eR K) "__init__"
abbrev Jt(K:W.Frag):Addr:=gM K (eP K) "__init__"
abbrev Ju(K:W.Frag):Addr:=gM K (eQ K) "__init__"
abbrev oa(K:W.Frag):Addr:=gM K (my K) "empties"
abbrev Sa(K:W.Frag):Addr:=gM K (eP K) "empties"
abbrev Sd(K:W.Frag):Addr:=gM K (iT K) "empties"
abbrev ai'(K:W.Frag):Addr:=gN K "has_clerks"
abbrev aja(K:W.Frag):Addr:=gN K "fits"
abbrev ai2(K:W.Frag):Addr:=gN K "look_over"
abbrev Ud(K:W.Frag):Addr:=gM K (gI K) "__init__"
abbrev aiP(K:W.Frag):Addr:=gM K (gI K) "add"
abbrev aiM(K:W.Frag):Addr:=gM K (gI K) "latest"
abbrev Lb(K:W.Frag):Addr:=gM K (gI K) "fronts"
abbrev aiK(K:W.Frag):Addr:=gM K (gI K) "take"
abbrev aiN(K:W.Frag):Addr:=gM K (gI K) "is_empty"
abbrev aiO(K:W.Frag):Addr:=gM K (gI K) "listed"
abbrev aiL(K:W.Frag):Addr:=gN K "tray_of"
abbrev Kj(K:W.Frag):Addr:=gM K (cU K) "__init__"
abbrev ajj(K:W.Frag):Addr:=gM K (cU K) "at_end"
abbrev aiY(K:W.Frag):Addr:=gM K (cU K) "may_do"
abbrev ajh(K:W.Frag):Addr:=gM K (cU K) "carries"
abbrev aiZ(K:W.Frag):Addr:=gM K (cU K) "moves"
abbrev aje(K:W.Frag):Addr:=gM K (cU K) "do"
abbrev ajd(K:W.Frag):Addr:=gM K (cU K) "do_step"
abbrev ajc(K:W.Frag):Addr:=gM K (cU K) "do_set"
abbrev ajf(K:W.Frag):Addr:=gM K (cU K) "do_look"
abbrev ajb(K:W.Frag):Addr:=gM K (cU K) "do_swap"
abbrev ajg(K:W.Frag):Addr:=gM K (cU K) "carry"
abbrev aji(K:W.Frag):Addr:=gM K (cU K) "come"
abbrev aiX(K:W.Frag):Addr:=gM K (cU K) "on_board"
abbrev aiF(K:W.Frag):Addr:=gM K (cU K) "waiting"
abbrev aiI(K:W.Frag):Addr:=gM K (cU K) "where"
abbrev aiV(K:W.Frag):Addr:=gN K "place_behind"
abbrev ai9(K:W.Frag):Addr:=gN K "has_form_of_move"
abbrev aiR(K:W.Frag):Addr:=gN K "steps_of"
abbrev aiT(K:W.Frag):Addr:=gN K "part_sets"
abbrev aiQ(K:W.Frag):Addr:=gN K "setters"
abbrev ai7(K:W.Frag):Addr:=gN K "has_name"
abbrev aiH(K:W.Frag):Addr:=gN K "with_name"
abbrev aiJ(K:W.Frag):Addr:=gN K "without_all"
abbrev aiG(K:W.Frag):Addr:=gN K "without_name"
abbrev ai4(K:W.Frag):Addr:=gN K "least_name"
abbrev aiW(K:W.Frag):Addr:=gN K "names_of_others"
abbrev ai8(K:W.Frag):Addr:=gN K "has_length"
abbrev ai5(K:W.Frag):Addr:=gN K "is_set_of_names"
abbrev ai6(K:W.Frag):Addr:=gN K "has_size"
abbrev ai3(K:W.Frag):Addr:=gN K "is_look_at_fault"
abbrev aiS(K:W.Frag):Addr:=gN K "is_set_at_fault"
abbrev agL(K:W.Frag):Addr:=gN K "names_behind"
abbrev aiU(K:W.Frag):Addr:=gN K "places_lacking"
abbrev agV(K:W.Frag):Addr:=gN K "fault_at"
abbrev Ue(K:W.Frag):Addr:=gN K "fault"
abbrev ai0(K:W.Frag):Addr:=gN K "marks_of_part"
abbrev ai1(K:W.Frag):Addr:=gN K "marks"
abbrev lN(K:W.Frag):Addr:=gM K (my K) "nexts"
abbrev Sb(K:W.Frag):Addr:=gM K (eQ K) "nexts"
abbrev nZ(K:W.Frag):Addr:=gM K (my K) "sets"
abbrev Te(K:W.Frag):Addr:=gM K (eU K) "sets"
abbrev Td(K:W.Frag):Addr:=gM K (eP K) "sets"
abbrev agU(K:W.Frag):Addr:=gN K "_law_draw"
abbrev agP(K:W.Frag):Addr:=gN K "_law_step"
abbrev agQ(K:W.Frag):Addr:=gN K "_law_program"
abbrev agR(K:W.Frag):Addr:=gN K "_law_needs"
abbrev agO(K:W.Frag):Addr:=gN K "_law_sets"
abbrev agN(K:W.Frag):Addr:=gN K "_law_within"
abbrev agT(K:W.Frag):Addr:=gN K "_law_faults"
abbrev agS(K:W.Frag):Addr:=gN K "_law_holds"
abbrev agM(K:W.Frag):Addr:=gN K "law"
set_option synthInstance.maxSize 100000
set_option synthInstance.maxHeartbeats 0
abbrev d9(p:Prop)[Decidable p]:Bool:=decide p
def y9(K:W.Frag)(_:Unit):List Bool:=[d9 (rN K "TrayError"),d9 (rN K "NoStep"),d9 (xF K (aiC K) (La K)),d9 (rN K "NoMove"),d9 (xF K (aiD K) (La K)),d9 (rN K "NoKind"),d9 (xF K (aiE K) (La K)),d9 (cK K "Step"),d9 (cK K "Put"),d9 (mK K (eV K)),d9 (no K (eV K) "parts"),d9 (no K (eV K) "reg"),d9 (no K (eV K) "number"),d9 (cK K "Add"),d9 (mK K (eW K)),d9 (no K (eW K) "parts"),d9 (no K (eW K) "reg"),d9 (no K (eW K) "other"),d9 (cK K "Set"),d9 (mK K (eU K)),d9 (no K (eU K) "parts"),d9 (no K (eU K) "name"),d9 (no K (eU K) "reg"),d9 (cK K "Look"),d9 (mK K (eR K)),d9 (no K (eR K) "parts"),d9 (no K (eR K) "reg"),d9 (no K (eR K) "name"),d9 (cK K "Swap"),d9 (mK K (eP K)),d9 (no K (eP K) "parts"),d9 (no K (eP K) "reg"),d9 (no K (eP K) "name"),d9 (cK K "Skip"),d9 (mK K (eQ K)),d9 (no K (eQ K) "parts"),d9 (no K (eQ K) "reg"),d9 (no K (eQ K) "place"),d9 (cK K "Clear"),d9 (mK K (iT K)),d9 (no K (iT K) "parts"),d9 (cK K "Tray"),d9 (mK K (gI K)),d9 (no K (gI K) "kind"),d9 (no K (gI K) "turn"),d9 (no K (gI K) "queues"),d9 (cK K "Machine"),d9 (mK K (cU K)),d9 (no K (cU K) "trays"),d9 (no K (cU K) "program"),d9 (no K (cU K) "kind"),d9 (no K (cU K) "steps"),d9 (no K (cU K) "places"),d9 (no K (cU K) "counts"),d9 (no K (cU K) "regs"),d9 (no K (cU K) "cells"),d9 (no K (cU K) "acts"),d9 (no K (cU K) "comers"),d9 (fN K "is_whole"),d9 (fN K "bounds_of"),d9 (fN K "is_step"),d9 (fN K "step_of"),d9 (fM K (my K) "__init__" "Step.__init__"),d9 (fM K (eV K) "__init__" "Put.__init__"),d9 (fM K (eW K) "__init__" "Add.__init__"),d9 (fM K (eU K) "__init__" "Set.__init__"),d9 (fM K (eR K) "__init__" "Look.__init__"),d9 (fM K (eP K) "__init__" "Swap.__init__"),d9 (fM K (eQ K) "__init__" "Skip.__init__"),d9 (fM K (my K) "empties" "Step.empties"),d9 (fM K (eP K) "empties" "Swap.empties"),d9 (fM K (iT K) "empties" "Clear.empties"),d9 (fN K "has_clerks"),d9 (fN K "fits"),d9 (fN K "look_over"),d9 (fM K (gI K) "__init__" "Tray.__init__"),d9 (fM K (gI K) "add" "Tray.add"),d9 (fM K (gI K) "latest" "Tray.latest"),d9 (fM K (gI K) "fronts" "Tray.fronts"),d9 (HT.Ej K (Lb K)=true),d9 (W.codeHdIn K (HT.yO K (Lb K)) 524=true),d9 (fM K (gI K) "take" "Tray.take"),d9 (fM K (gI K) "is_empty" "Tray.is_empty"),d9 (fM K (gI K) "listed" "Tray.listed"),d9 (fN K "tray_of"),d9 (fM K (cU K) "__init__" "Machine.__init__"),d9 (HT.yN K (Kj K) "row" = true),d9 (fM K (cU K) "at_end" "Machine.at_end"),d9 (fM K (cU K) "may_do" "Machine.may_do"),d9 (fM K (cU K) "carries" "Machine.carries"),d9 (fM K (cU K) "moves" "Machine.moves"),d9 (fM K (cU K) "do" "Machine.do"),d9 (fM K (cU K) "do_step" "Machine.do_step"),d9 (fM K (cU K) "do_set" "Machine.do_set"),d9 (fM K (cU K) "do_look" "Machine.do_look"),d9 (fM K (cU K) "do_swap" "Machine.do_swap"),d9 (fM K (cU K) "carry" "Machine.carry"),d9 (fM K (cU K) "come" "Machine.come"),d9 (fM K (cU K) "on_board" "Machine.on_board"),d9 (fM K (cU K) "waiting" "Machine.waiting"),d9 (fM K (cU K) "where" "Machine.where"),d9 (fN K "place_behind"),d9 (fN K "has_form_of_move"),d9 (fN K "steps_of"),d9 (fN K "part_sets"),d9 (fN K "setters"),d9 (fN K "has_name"),d9 (fN K "with_name"),d9 (fN K "without_all"),d9 (fN K "without_name"),d9 (fN K "least_name"),d9 (fN K "names_of_others"),d9 (fN K "has_length"),d9 (fN K "is_set_of_names"),d9 (fN K "has_size"),d9 (fN K "is_look_at_fault"),d9 (fN K "is_set_at_fault"),d9 (fN K "names_behind"),d9 (fN K "places_lacking"),d9 (fN K "fault_at"),d9 (fN K "fault"),d9 (HT.yN K (Ue K) "row" = true),d9 (fN K "marks_of_part"),d9 (fN K "marks"),d9 (fM K (my K) "nexts" "Step.nexts"),d9 (fM K (eQ K) "nexts" "Skip.nexts"),d9 (fM K (my K) "sets" "Step.sets"),d9 (fM K (eU K) "sets" "Set.sets"),d9 (fM K (eP K) "sets" "Swap.sets"),d9 (fN K "_law_draw"),d9 (fN K "_law_step"),d9 (fN K "_law_program"),d9 (fN K "_law_needs"),d9 (fN K "_law_sets"),d9 (fN K "_law_within"),d9 (fN K "_law_faults"),d9 (fN K "_law_holds"),d9 (fN K "law"),d9 (W.findIn K (.ref (eV K)) "empties" = some (some (.ref (oa K)))),d9 (W.findIn K (.ref (eW K)) "empties" = some (some (.ref (oa K)))),d9 (W.findIn K (.ref (eU K)) "empties" = some (some (.ref (oa K)))),d9 (W.findIn K (.ref (eR K)) "empties" = some (some (.ref (oa K)))),d9 (W.findIn K (.ref (eQ K)) "empties" = some (some (.ref (oa K)))),d9 (W.findIn K (.ref (eV K)) "nexts" = some (some (.ref (lN K)))),d9 (W.findIn K (.ref (eW K)) "nexts" = some (some (.ref (lN K)))),d9 (W.findIn K (.ref (eU K)) "nexts" = some (some (.ref (lN K)))),d9 (W.findIn K (.ref (eR K)) "nexts" = some (some (.ref (lN K)))),d9 (W.findIn K (.ref (eP K)) "nexts" = some (some (.ref (lN K)))),d9 (W.findIn K (.ref (iT K)) "nexts" = some (some (.ref (lN K)))),d9 (W.findIn K (.ref (eV K)) "sets" = some (some (.ref (nZ K)))),d9 (W.findIn K (.ref (eW K)) "sets" = some (some (.ref (nZ K)))),d9 (W.findIn K (.ref (eR K)) "sets" = some (some (.ref (nZ K)))),d9 (W.findIn K (.ref (iT K)) "sets" = some (some (.ref (nZ K)))),d9 (W.findIn K (.ref (eQ K)) "sets" = some (some (.ref (nZ K)))),d9 (W.findIn K (.ref (iT K)) "__init__" = some (some (.ref (yS K)))),d9 (W.specialIn K (.ref (my K)) "__getattribute__" = some (some (.builtin "type.__getattribute__"))),d9 (W.readsIn K (my K) (.type "type")=true),d9 (HT.Ml (W.findCls K (.ref (my K)) (.type "type") "__init__") (yS K)=true),d9 (zN K "isinstance"),d9 (zN K "int"),d9 (zN K "bool"),d9 (zN K "str"),d9 (zN K "tuple"),d9 (zN K "len"),d9 (zN K "all"),d9 (zN K "zip"),d9 (zN K "enumerate"),d9 (zN K "range"),d9 (zN K "list"),d9 (zN K "min"),d9 (zN K "max"),d9 (zN K "sorted"),d9 (zN K "any"),d9 (zN K "set"),d9 (HT.wA (W.nsIn K eD "TOP") k7=true),d9 (HT.wA (W.nsIn K eD "NAMES") 12=true),d9 (HT.wA (W.nsIn K eD "REGISTERS") 4=true),d9 (HT.wA (W.nsIn K eD "LONGEST") 120=true),d9 (HT.wA (W.nsIn K eD "CLERKS") 4=true),d9 (rN K "KINDS"),d9 (HT.tupS K (Rh K) ["row","name","none"]=true),d9 (W.specialIn K (.builtin "object.__class__") "__get__" = some (some (.builtin "getset_descriptor.__get__"))),d9 (W.takesIn K (.builtin "object.__class__")=some true),d9 (W.findIn K (.ref (eV K)) "__class__" = some (some (.builtin "object.__class__"))),d9 (W.mroIn K (eV K) (.type "object")=some true),d9 (W.kitOne K (.ref (eV K)) (.ref (eV K))=some true),d9 (W.kitOne K (.ref (eV K)) (.ref (eW K))=some false),d9 (W.kitOne K (.ref (eV K)) (.ref (eU K))=some false),d9 (W.kitOne K (.ref (eV K)) (.ref (eR K))=some false),d9 (W.kitOne K (.ref (eV K)) (.ref (eP K))=some false),d9 (W.kitOne K (.ref (eV K)) (.ref (eQ K))=some false),d9 (W.findIn K (.ref (eW K)) "__class__" = some (some (.builtin "object.__class__"))),d9 (W.mroIn K (eW K) (.type "object")=some true),d9 (W.kitOne K (.ref (eW K)) (.ref (eV K))=some false),d9 (W.kitOne K (.ref (eW K)) (.ref (eW K))=some true),d9 (W.kitOne K (.ref (eW K)) (.ref (eU K))=some false),d9 (W.kitOne K (.ref (eW K)) (.ref (eR K))=some false),d9 (W.kitOne K (.ref (eW K)) (.ref (eP K))=some false),d9 (W.kitOne K (.ref (eW K)) (.ref (eQ K))=some false),d9 (W.findIn K (.ref (eU K)) "__class__" = some (some (.builtin "object.__class__"))),d9 (W.mroIn K (eU K) (.type "object")=some true),d9 (W.kitOne K (.ref (eU K)) (.ref (eV K))=some false),d9 (W.kitOne K (.ref (eU K)) (.ref (eW K))=some false),d9 (W.kitOne K (.ref (eU K)) (.ref (eU K))=some true),d9 (W.kitOne K (.ref (eU K)) (.ref (eR K))=some false),d9 (W.kitOne K (.ref (eU K)) (.ref (eP K))=some false),d9 (W.kitOne K (.ref (eU K)) (.ref (eQ K))=some false),d9 (W.findIn K (.ref (eR K)) "__class__" = some (some (.builtin "object.__class__"))),d9 (W.mroIn K (eR K) (.type "object")=some true),d9 (W.kitOne K (.ref (eR K)) (.ref (eV K))=some false),d9 (W.kitOne K (.ref (eR K)) (.ref (eW K))=some false),d9 (W.kitOne K (.ref (eR K)) (.ref (eU K))=some false),d9 (W.kitOne K (.ref (eR K)) (.ref (eR K))=some true),d9 (W.kitOne K (.ref (eR K)) (.ref (eP K))=some false),d9 (W.kitOne K (.ref (eR K)) (.ref (eQ K))=some false),d9 (W.findIn K (.ref (eP K)) "__class__" = some (some (.builtin "object.__class__"))),d9 (W.mroIn K (eP K) (.type "object")=some true),d9 (W.kitOne K (.ref (eP K)) (.ref (eV K))=some false),d9 (W.kitOne K (.ref (eP K)) (.ref (eW K))=some false),d9 (W.kitOne K (.ref (eP K)) (.ref (eU K))=some false),d9 (W.kitOne K (.ref (eP K)) (.ref (eR K))=some false),d9 (W.kitOne K (.ref (eP K)) (.ref (eP K))=some true),d9 (W.kitOne K (.ref (eP K)) (.ref (eQ K))=some false),d9 (W.findIn K (.ref (iT K)) "__class__" = some (some (.builtin "object.__class__"))),d9 (W.mroIn K (iT K) (.type "object")=some true),d9 (W.kitOne K (.ref (iT K)) (.ref (eV K))=some false),d9 (W.kitOne K (.ref (iT K)) (.ref (eW K))=some false),d9 (W.kitOne K (.ref (iT K)) (.ref (eU K))=some false),d9 (W.kitOne K (.ref (iT K)) (.ref (eR K))=some false),d9 (W.kitOne K (.ref (iT K)) (.ref (eP K))=some false),d9 (W.kitOne K (.ref (iT K)) (.ref (eQ K))=some false),d9 (W.findIn K (.ref (eQ K)) "__class__" = some (some (.builtin "object.__class__"))),d9 (W.mroIn K (eQ K) (.type "object")=some true),d9 (W.kitOne K (.ref (eQ K)) (.ref (eV K))=some false),d9 (W.kitOne K (.ref (eQ K)) (.ref (eW K))=some false),d9 (W.kitOne K (.ref (eQ K)) (.ref (eU K))=some false),d9 (W.kitOne K (.ref (eQ K)) (.ref (eR K))=some false),d9 (W.kitOne K (.ref (eQ K)) (.ref (eP K))=some false),d9 (W.kitOne K (.ref (eQ K)) (.ref (eQ K))=some true)]
def seen(K:W.Frag):Bool:=(y9 K ()).all id
def pO:List Nat:=[3,2,0,1,6,31,44,56,75,87,99,153,174,193,219,245,285,304,330,554,762,24,30,37,43,49,55,61,74,80,86,92,98,104,152,160,173,179,192,198,218,224,244,250,284,290,303,309,329,499,553,585,761,19,21,70,72,113,115,120,122,127,129,134,136,141,143,148,150,169,171,188,190,207,209,214,216,233,235,240,242,259,261,266,268,273,275,280,282,299,301,318,320,325,327,337,339,344,346,349,351,356,358,361,363,368,370,375,377,380,382,385,387,392,394,399,401,406,408,413,415,418,420,423,425,430,432,437,439,442,444,449,451,456,458,463,465,468,470,475,477,483,485,488,490,493,495,506,508,513,515,520,522,525,527,532,534,537,539,542,544,549,551,563,565,568,570,573,575,580,582,593,595,600,602,607,609,612,614,617,619,624,626,631,633,638,640,645,647,652,654,659,661,666,668,673,675,680,682,687,689,694,696,701,703,708,710,715,717,722,724,729,731,736,738,743,745,750,752,757,759,771,773,778,780,783,785,790,792,797,799,804,806,809,811,816,818,821,823,4,5,7,8,9,10,11,12,13,14,15,16,17,18,20,22,23,25,26,27,28,29,32,33,34,35,36,38,39,40,41,42,45,46,47,48,50,51,52,53,54,57,58,59,60,62,63,64,65,66,67,68,69,71,73,76,77,78,79,81,82,83,84,85,88,89,90,91,93,94,95,96,97,100,101,102,103,105,106,107,108,109,110,111,112,114,116,117,118,119,121,123,124,125,126,128,130,131,132,133,135,137,138,139,140,142,144,145,146,147,149,151,154,155,156,157,158,159,161,162,163,164,165,166,167,168,170,172,175,176,177,178,180,181,182,183,184,185,186,187,189,191,194,195,196,197,199,200,201,202,203,204,205,206,208,210,211,212,213,215,217,220,221,222,223,225,226,227,228,229,230,231,232,234,236,237,238,239,241,243,246,247,248,249,251,252,253,254,255,256,257,258,260,262,263,264,265,267,269,270,271,272,274,276,277,278,279,281,283,286,287,288,289,291,292,293,294,295,296,297,298,300,302,305,306,307,308,310,311,312,313,314,315,316,317,319,321,322,323,324,326,328,331,332,333,334,335,336,338,340,341,342,343,345,347,348,350,352,353,354,355,357,359,360,362,364,365,366,367,369,371,372,373,374,376,378,379,381,383,384,386,388,389,390,391,393,395,396,397,398,400,402,403,404,405,407,409,410,411,412,414,416,417,419,421,422,424,426,427,428,429,431,433,434,435,436,438,440,441,443,445,446,447,448,450,452,453,454,455,457,459,460,461,462,464,466,467,469,471,472,473,474,476,478,479,480,481,482,484,486,487,489,491,492,494,496,497,498,500,501,502,503,504,505,507,509,510,511,512,514,516,517,518,519,521,523,524,526,528,529,530,531,533,535,536,538,540,541,543,545,546,547,548,550,552,555,556,557,558,559,560,561,562,564,566,567,569,571,572,574,576,577,578,579,581,583,584,586,587,588,589,590,591,592,594,596,597,598,599,601,603,604,605,606,608,610,611,613,615,616,618,620,621,622,623,625,627,628,629,630,632,634,635,636,637,639,641,642,643,644,646,648,649,650,651,653,655,656,657,658,660,662,663,664,665,667,669,670,671,672,674,676,677,678,679,681,683,684,685,686,688,690,691,692,693,695,697,698,699,700,702,704,705,706,707,709,711,712,713,714,716,718,719,720,721,723,725,726,727,728,730,732,733,734,735,737,739,740,741,742,744,746,747,748,749,751,753,754,755,756,758,760,763,764,765,766,767,768,769,770,772,774,775,776,777,779,781,782,784,786,787,788,789,791,793,794,795,796,798,800,801,802,803,805,807,808,810,812,813,814,815,817,819,820,822]
def pD(K:W.Frag):List (Option HT.pQ):=[HT.a7 K (Va K),HT.a7 K (Vd K),HT.a7 K (Vb K),HT.a7 K (Vc K),HT.a7 K (yS K),HT.a7 K (Ki K),HT.a7 K (Kk K),HT.a7 K (Kh K),HT.a7 K (Jv K),HT.a7 K (Jt K),HT.a7 K (Ju K),HT.a7 K (oa K),HT.a7 K (Sa K),HT.a7 K (Sd K),HT.a7 K (ai' K),HT.a7 K (aja K),HT.a7 K (ai2 K),HT.a7 K (Ud K),HT.a7 K (aiP K),HT.a7 K (aiM K),HT.a7 K (Lb K),HT.a7 K (aiK K),HT.a7 K (aiN K),HT.a7 K (aiO K),HT.a7 K (aiL K),HT.yL K (Kj K),HT.a7 K (ajj K),HT.a7 K (aiY K),HT.a7 K (ajh K),HT.a7 K (aiZ K),HT.a7 K (aje K),HT.a7 K (ajd K),HT.a7 K (ajc K),HT.a7 K (ajf K),HT.a7 K (ajb K),HT.a7 K (ajg K),HT.a7 K (aji K),HT.a7 K (aiX K),HT.a7 K (aiF K),HT.a7 K (aiI K),HT.a7 K (aiV K),HT.a7 K (ai9 K),HT.a7 K (aiR K),HT.a7 K (aiT K),HT.a7 K (aiQ K),HT.a7 K (ai7 K),HT.a7 K (aiH K),HT.a7 K (aiJ K),HT.a7 K (aiG K),HT.a7 K (ai4 K),HT.a7 K (aiW K),HT.a7 K (ai8 K),HT.a7 K (ai5 K),HT.a7 K (ai6 K),HT.a7 K (ai3 K),HT.a7 K (aiS K),HT.a7 K (agL K),HT.a7 K (aiU K),HT.a7 K (agV K),HT.yL K (Ue K),HT.a7 K (ai0 K),HT.a7 K (ai1 K),HT.a7 K (lN K),HT.a7 K (Sb K),HT.a7 K (nZ K),HT.a7 K (Te K),HT.a7 K (Td K),HT.a7 K (agU K),HT.a7 K (agP K),HT.a7 K (agQ K),HT.a7 K (agR K),HT.a7 K (agO K),HT.a7 K (agN K),HT.a7 K (agT K),HT.a7 K (agS K),HT.a7 K (agM K)]
def nY:List (Option HT.pQ):=[fp "is_whole" "is_whole" A2,fp "bounds_of" "bounds_of" AR,fp "is_step" "is_step" Dk,fp "step_of" "step_of" Jc,fp "__init__" "Step.__init__" DY,fp "__init__" "Put.__init__" DX,fp "__init__" "Add.__init__" DZ,fp "__init__" "Set.__init__" DW,fp "__init__" "Look.__init__" DE,fp "__init__" "Swap.__init__" DB,fp "__init__" "Skip.__init__" DC,fp "empties" "Step.empties" DG,fp "empties" "Swap.empties" CP,fp "empties" "Clear.empties" CH,fp "has_clerks" "has_clerks" Lr,fp "fits" "fits" Kv,fp "look_over" "look_over" HC,fp "__init__" "Tray.__init__" EK,fp "add" "Tray.add" Kr,fp "latest" "Tray.latest" Ij,fp "fronts" "Tray.fronts" CY,fp "take" "Tray.take" JG,fp "is_empty" "Tray.is_empty" Jb,fp "listed" "Tray.listed" Ii,fp "tray_of" "tray_of" Ja,fp "__init__" "Machine.__init__" DD,fp "at_end" "Machine.at_end" JS,fp "may_do" "Machine.may_do" JI,fp "carries" "Machine.carries" Ir,fp "moves" "Machine.moves" Jf,fp "do" "Machine.do" Lp,fp "do_step" "Machine.do_step" Ji,fp "do_set" "Machine.do_set" JQ,fp "do_look" "Machine.do_look" Jj,fp "do_swap" "Machine.do_swap" Jh,fp "carry" "Machine.carry" JR,fp "come" "Machine.come" Kx,fp "on_board" "Machine.on_board" Im,fp "waiting" "Machine.waiting" Ih,fp "where" "Machine.where" JF,fp "place_behind" "place_behind" G0,fp "has_form_of_move" "has_form_of_move" Ku,fp "steps_of" "steps_of" Ik,fp "part_sets" "part_sets" HB,fp "setters" "setters" Il,fp "has_name" "has_name" Kt,fp "with_name" "with_name" Kq,fp "without_all" "without_all" Ig,fp "without_name" "without_name" Lo,fp "least_name" "least_name" JL,fp "names_of_others" "names_of_others" Jd,fp "has_length" "has_length" Jg,fp "is_set_of_names" "is_set_of_names" JP,fp "has_size" "has_size" Ip,fp "is_look_at_fault" "is_look_at_fault" JK,fp "is_set_at_fault" "is_set_at_fault" Ks,fp "names_behind" "names_behind" Jk,fp "places_lacking" "places_lacking" Io,fp "fault_at" "fault_at" Iq,fp "fault" "fault" DF,fp "marks_of_part" "marks_of_part" Je,fp "marks" "marks" JJ,fp "nexts" "Step.nexts" Dj,fp "nexts" "Skip.nexts" CG,fp "sets" "Step.sets" DU,fp "sets" "Set.sets" DV,fp "sets" "Swap.sets" DA,fp "_law_draw" "_law_draw" Kw,fp "_law_step" "_law_step" JM,fp "_law_program" "_law_program" JO,fp "_law_needs" "_law_needs" JH,fp "_law_sets" "_law_sets" JN,fp "_law_within" "_law_within" Md,fp "_law_faults" "_law_faults" Mf,fp "_law_holds" "_law_holds" Me,fp "law" "law" vX]
def agh:Pos:=match vX with
 | .FunctionDef _ _ _ _ _ _ _ _ _ p=>p
 | _=>default
def dl:DefRec:=⟨"law",jN vX,iI vX,aM vX,agh⟩
end TL
open PySem PySem.W PyProof.Rows in
theorem TL.mark_:True:=trivial
section
open PySem PySem.W PyProof.Rows
theorem TL.l7(w:World)(os:OsState):(TL.rn w os).map (λs=>(((HT.vP (HT.gT s 524),TL.pD (HT.t8 s TL.pO 524))),(((((TL.y9 (HT.t8 s TL.pO 524) ()).drop 90).drop 50).all id))))=some ((true,TL.nY),(true)):=by kernel_rfl
theorem TL.l8(w:World)(os:OsState):(TL.rn w os).map (λs=>((TL.y9 (HT.t8 s TL.pO 524) ()).take 90).all id)=some true:=by kernel_rfl
theorem TL.l9(w:World)(os:OsState):(TL.rn w os).map (λs=>(((TL.y9 (HT.t8 s TL.pO 524) ()).drop 90).take 50).all id)=some true:=by kernel_rfl
theorem TL.r2(w:World)(os:OsState):(TL.rn w os).map (λs=>W.openSeen TL.qv [PySem.Str.ofString "fault"] (Cs PySem.Challenge.rw_traylate_k58_whole_papers_hold_what_wait.row.prog.main.body) (λs=>W.xlAt TL.qv [] s&&W.recOk PySem.Challenge.rw_traylate_k58_whole_papers_hold_what_wait.row.records s) true s.abs)=some (W.openGood TL.qv [PySem.Str.ofString "fault"]):=HT.ad5 TL.lw (HT.qO (TL.l0 w os)) (HT.m8 (HT.m8 (HT.m8 (TL.l5 w os)))) (HT.td 18 (HT.qO (TL.l5 w os)) (TL.l6 w os)) (HT.qO (HT.m8 (TL.l5 w os))) (HT.m8 (TL.l3 w os)) (HT.tb_ (HT.Jw 22 (HT.qO (TL.l3 w os)) (TL.l4 w os))) (HT.m8 (HT.m8 (TL.l2 w os))) (HT.both (HT.qO (HT.m8 (HT.m8 (TL.l5 w os)))) (HT.both (HT.m8 (TL.l0 w os)) (HT.both (HT.qO (TL.l2 w os)) (TL.l1 w os))))
theorem TL.r3(w:World)(os:OsState):(TL.rn w os).map (λs=>(HT.sg TL.pO 524 (λK=>(TL.seen K,TL.pD K)) (true,TL.nY)).obs s.abs)=some (true,(true,TL.nY)):=HT.agf (HT.qO (HT.qO (TL.l7 w os))) (HT.both (HT.Jw 90 (TL.l8 w os) (HT.Jw 50 (TL.l9 w os) (HT.m8 (TL.l7 w os)))) (HT.m8 (HT.qO (TL.l7 w os))))
end
namespace L2
universe u0 u1 u2 u3 u4 u5 u6 u7 u8 u9
section
variable{A:Sort u0}{B:Sort u1}{C:Sort u2}{D:Sort u3}{E:Sort u4}{F:Sort u5}{I:Sort u6}{J:Sort u7}{L:Sort u8}{M:Sort u9}{G:Prop}
theorem oA{p q:Prop}(H:p/\q)(K:p->q->G):G:=by
 obtain⟨k,m⟩:=H;exact K k m
theorem oE{p:A->Prop}(H:∃a,p a)(K:∀a,p a->G):G:=by
 obtain⟨a,k⟩:=H;exact K a k
theorem gu{p q r:Prop}(k:p)(m:q)(n:r):p/\q/\r:=⟨k,m,n⟩
theorem az{p q:A->Prop}(a:A)(k:p a)(m:q a):∃a,p a/\q a:=⟨a,k,m⟩
theorem uy{p:A->B->Prop}(a:A)(b:B)(k:p a b):∃a b,p a b:=⟨a,b,k⟩
theorem dU{p q r:Prop}(H:p/\q/\r)(K:p->q->r->G):G:=by
 obtain⟨k,m,n⟩:=H;exact K k m n
theorem ay{p q:A->Prop}(H:∃a,p a/\q a)(K:∀a,p a->q a->G):G:=by
 obtain⟨a,k,m⟩:=H;exact K a k m
theorem wz{p:A->B->Prop}(H:∃a b,p a b)(K:∀a b,p a b->G):G:=by
 obtain⟨a,b,k⟩:=H;exact K a b k
theorem eZ{p q r:A->Prop}(a:A)(k:p a)(m:q a)(n:r a):∃a,p a/\q a/\r a:=⟨a,k,m,n⟩
theorem iD{p q:A->B->Prop}(a:A)(b:B)(k:p a b)(m:q a b):∃a b,p a b/\q a b:=⟨a,b,k,m⟩
theorem Eh{p q r s:Prop}(H:p/\q/\r/\s)(K:p->q->r->s->G):G:=by
 obtain⟨k,m,n,o⟩:=H;exact K k m n o
theorem aX{p q r:A->Prop}(H:∃a,p a/\q a/\r a)(K:∀a,p a->q a->r a->G):G:=by
 obtain⟨a,k,m,n⟩:=H;exact K a k m n
theorem b8{p q:A->B->Prop}(H:∃a b,p a b/\q a b)(K:∀a b,p a b->q a b->G):G:=by
 obtain⟨a,b,k,m⟩:=H;exact K a b k m
theorem akg{p:A->B->C->Prop}(H:∃a b c,p a b c)(K:∀a b c,p a b c->G):G:=by
 obtain⟨a,b,c,k⟩:=H;exact K a b c k
theorem eG{p q r:A->B->Prop}(a:A)(b:B)(k:p a b)(m:q a b)(n:r a b):∃a b,p a b/\q a b/\r a b:=⟨a,b,k,m,n⟩
theorem dS{p:A->B->C->D->Prop}(a:A)(b:B)(c:C)(d:D)(k:p a b c d):∃a b c d,p a b c d:=⟨a,b,c,d,k⟩
theorem Bc{p q r s t:Prop}(H:p/\q/\r/\s/\t)(K:p->q->r->s->t->G):G:=by
 obtain⟨k,m,n,o,h⟩:=H;exact K k m n o h
theorem cQ{p q r s:A->Prop}(H:∃a,p a/\q a/\r a/\s a)(K:∀a,p a->q a->r a->s a->G):G:=by
 obtain⟨a,k,m,n,o⟩:=H;exact K a k m n o
theorem dF{p q r:A->B->Prop}(H:∃a b,p a b/\q a b/\r a b)(K:∀a b,p a b->q a b->r a b->G):G:=by
 obtain⟨a,b,k,m,n⟩:=H;exact K a b k m n
theorem kG{p q:A->B->C->Prop}(H:∃a b c,p a b c/\q a b c)(K:∀a b c,p a b c->q a b c->G):G:=by
 obtain⟨a,b,c,k,m⟩:=H;exact K a b c k m
theorem ahS{p:A->B->C->D->Prop}(H:∃a b c d,p a b c d)(K:∀a b c d,p a b c d->G):G:=by
 obtain⟨a,b,c,d,k⟩:=H;exact K a b c d k
theorem gJ{p q r s t:A->Prop}(a:A)(k:p a)(m:q a)(n:r a)(o:s a)(h:t a):∃a,p a/\q a/\r a/\s a/\t a:=⟨a,k,m,n,o,h⟩
theorem mG{p q r s t u:Prop}(H:p/\q/\r/\s/\t/\u)(K:p->q->r->s->t->u->G):G:=by
 obtain⟨k,m,n,o,h,h1⟩:=H;exact K k m n o h h1
theorem JZ{p q r s t:A->Prop}(H:∃a,p a/\q a/\r a/\s a/\t a)(K:∀a,p a->q a->r a->s a->t a->G):G:=by
 obtain⟨a,k,m,n,o,h⟩:=H;exact K a k m n o h
theorem pj{p q r s:A->B->Prop}(H:∃a b,p a b/\q a b/\r a b/\s a b)(K:∀a b,p a b->q a b->r a b->s a b->G):G:=by
 obtain⟨a,b,k,m,n,o⟩:=H;exact K a b k m n o
theorem i9{p q r:A->B->C->Prop}(H:∃a b c,p a b c/\q a b c/\r a b c)(K:∀a b c,p a b c->q a b c->r a b c->G):G:=by
 obtain⟨a,b,c,k,m,n⟩:=H;exact K a b c k m n
theorem jm{p q:A->B->C->D->Prop}(H:∃a b c d,p a b c d/\q a b c d)(K:∀a b c d,p a b c d->q a b c d->G):G:=by
 obtain⟨a,b,c,d,k,m⟩:=H;exact K a b c d k m
theorem dZ{p:A->B->C->D->E->Prop}(H:∃a b c d e,p a b c d e)(K:∀a b c d e,p a b c d e->G):G:=by
 obtain⟨a,b,c,d,e,k⟩:=H;exact K a b c d e k
theorem lJ{p q r s t u:A->Prop}(a:A)(k:p a)(m:q a)(n:r a)(o:s a)(h:t a)(h1:u a):∃a,p a/\q a/\r a/\s a/\t a/\u a:=⟨a,k,m,n,o,h,h1⟩
theorem eO{p q r s t u:A->B->Prop}(H:∃a b,p a b/\q a b/\r a b/\s a b/\t a b/\u a b)(K:∀a b,p a b->q a b->r a b->s a b->t a b->u a b->G):G:=by
 obtain⟨a,b,k,m,n,o,h,h1⟩:=H;exact K a b k m n o h h1
theorem ml{p q:A->B->C->D->E->F->Prop}(H:∃a b c d e f,p a b c d e f/\q a b c d e f)(K:∀a b c d e f,p a b c d e f->q a b c d e f->G):G:=by
 obtain⟨a,b,c,d,e,f,k,m⟩:=H;exact K a b c d e f k m
theorem nK{p q r s t u:A->B->C->D->Prop}(a:A)(b:B)(c:C)(d:D)(k:p a b c d)(m:q a b c d)(n:r a b c d)(o:s a b c d)(h:t a b c d)(h1:u a b c d):∃a b c d,p a b c d/\q a b c d/\r a b c d/\s a b c d/\t a b c d/\u a b c d:=⟨a,b,c,d,k,m,n,o,h,h1⟩
theorem xT{p q r s t u:A->B->C->D->E->Prop}(H:∃a b c d e,p a b c d e/\q a b c d e/\r a b c d e/\s a b c d e/\t a b c d e/\u a b c d e)(K:∀a b c d e,p a b c d e->q a b c d e->r a b c d e->s a b c d e->t a b c d e->u a b c d e->G):G:=by
 obtain⟨a,b,c,d,e,k,m,n,o,h,h1⟩:=H;exact K a b c d e k m n o h h1
theorem lG{p q r s t:A->B->C->D->E->F->Prop}(H:∃a b c d e f,p a b c d e f/\q a b c d e f/\r a b c d e f/\s a b c d e f/\t a b c d e f)(K:∀a b c d e f,p a b c d e f->q a b c d e f->r a b c d e f->s a b c d e f->t a b c d e f->G):G:=by
 obtain⟨a,b,c,d,e,f,k,m,n,o,h⟩:=H;exact K a b c d e f k m n o h
theorem Hg{p q r s:A->B->C->D->E->F->I->Prop}(H:∃a b c d e f g,p a b c d e f g/\q a b c d e f g/\r a b c d e f g/\s a b c d e f g)(K:∀a b c d e f g,p a b c d e f g->q a b c d e f g->r a b c d e f g->s a b c d e f g->G):G:=by
 obtain⟨a,b,c,d,e,f,g,k,m,n,o⟩:=H;exact K a b c d e f g k m n o
theorem mh{p:A->B->C->D->E->F->I->J->L->M->Prop}(H:∃a b c d e f g i j l,p a b c d e f g i j l)(K:∀a b c d e f g i j l,p a b c d e f g i j l->G):G:=by
 obtain⟨a,b,c,d,e,f,g,i,j,l,k⟩:=H;exact K a b c d e f g i j l k
end
theorem w0{p:Prop}(h:p:=by with_reducible assumption):p:=h
theorem w1{a:Nat}  : a<=a:=aB a
theorem w2{a:Nat}  : 0<=a:=bU a
theorem w3{a b:Nat}(h:a<b:=by with_reducible assumption):a<=b:=cg h
theorem w4{a b c:Nat}(h:a<=b:=by with_reducible assumption)(g:b<=c:=by decide):a<=c:=cZ h g
theorem w5{a b c:Nat}(h:a<b:=by with_reducible assumption)(g:b<=c:=by decide):a<=c:=cZ (cg h) g
theorem w6{a b c:Nat}(h:a=b:=by with_reducible assumption)(g:b<=c:=by decide):a<=c:=cZ (qg h) g
theorem w7{a b c:Nat}(h:a=b:=by with_reducible assumption)(g:b<=c:=by with_reducible assumption):a<=c:=cZ (qg h) g
theorem w8{a b c d:Nat}(h:a=b:=by with_reducible assumption)(g:b<=c:=by with_reducible assumption)(k:c<=d:=by decide):a<=d:=cZ (qg h) (cZ g k)
theorem wa{a b c:Nat}(h:a<b:=by with_reducible assumption)(g:b<=c:=by decide):a<c:=eB h g
theorem wb{a b c:Nat}(h:a<=b:=by with_reducible assumption)(g:b<c:=by decide):a<c:=sZ h g
theorem wd{a b c d:Nat}(h:a=b:=by with_reducible assumption)(g:b<=c:=by with_reducible assumption)(k:c<d:=by decide):a<d:=sZ (qg h) (sZ g k)
theorem wf{a b c:Nat}(h:a<b:=by with_reducible assumption)(g:b=c:=by with_reducible assumption):a<c:=Oj h g
theorem wg{a b c:Nat}(h:a<b:=by with_reducible assumption)(g:c=b:=by with_reducible assumption):a<c:=Oj h g.symm
theorem wh{a b c:Nat}(h:a<b:=by with_reducible assumption)(g:b<=c:=by with_reducible assumption):a<c:=eB h g
theorem wi{a b c:Nat}(h:a<=b:=by with_reducible assumption)(g:b<c:=by with_reducible assumption):a<c:=sZ h g
theorem wj{a b c:Nat}(h:a<=b:=by with_reducible assumption)(g:b<=c:=by with_reducible assumption):a<=c:=cZ h g
theorem wk{a b c m:Nat}(h:a=b+m*c:=by with_reducible assumption)(g:a<b:=by decide):False:=by omega
theorem wl{a b c m:Nat}(h:b+m*c=a:=by with_reducible assumption)(g:a<b:=by decide):False:=by omega
theorem wo{a b c:Nat}(h:a=b:=by with_reducible assumption)(g:b=c:=by with_reducible assumption):a=c:=h.trans g
theorem wp{a b c:Nat}(h:a=b:=by with_reducible assumption)(g:c=b:=by with_reducible assumption):a=c:=h.trans g.symm
theorem wr{a b c:Nat}(h:a=b:=by with_reducible assumption)(g:c<b:=by with_reducible assumption):c<a:=Oj g h.symm
theorem ws{a b c:Nat}(h:a=b:=by with_reducible assumption)(g:b<=c:=by with_reducible assumption):a<=c:=cZ (qg h) g
theorem wu{a b c d e:Nat}(h:a=b:=by with_reducible assumption)(g:b=c:=by with_reducible assumption)(k:c<=d:=by with_reducible assumption)(m:d<=e:=by decide):a<=e:=cZ (qg (h.trans g)) (cZ k m)
theorem xa{a b c d e:Nat}(h:a<b:=by with_reducible assumption)(g:b=c:=by with_reducible assumption)(k:c<=d:=by with_reducible assumption)(m:d<=e:=by decide):a<e:=eB h (cZ (qg g) (cZ k m))
theorem xc{a b c d e:Nat}(h:a<b:=by with_reducible assumption)(g:b=c:=by with_reducible assumption)(k:c<=d:=by with_reducible assumption)(m:d<=e:=by decide):a<=e:=cZ (cg h) (cZ (qg g) (cZ k m))
theorem xd{a:Nat}  : a<=a+1:=jL a
theorem xe{a b:Nat}(h:a<b:=by with_reducible assumption):a<=b+1:=tj (cg h)
theorem xf{a b:Nat}(h:a<b:=by with_reducible assumption):a+1<=b:=h
theorem xi{a b c e:Nat}(h:a<=b+1:=by with_reducible assumption)(g:b<=c:=by with_reducible assumption)(k:c+1<e:=by decide):a<e:=sZ h (sZ (Cq g) k)
theorem xk{a n:Nat}(h:a<=n:=by with_reducible assumption):min a n=a:=Nat.min_eq_left h
theorem xl{a n:Nat}  : min a n<=a:=OC a n
theorem xm{a:Int}(h:0<=a:=by with_reducible assumption):a=(a.toNat:Int):=(YW h).symm
end L2
namespace L2
open PySem PySem.Spec PyProof.Rows
abbrev Key:=Option Int
def aif:Value->Bool
 | .none=>true
 | _=>false
def TZ:Key->Value->Bool
 | some k,v=>Value.isInt k v
 | none,v=>aif v
def akm:Key->Int
 | some k=>hashInt k
 | none=>4238894112
theorem rX:∀{k:Key} {v:Value},TZ k v=true->(∃i t,k=some i/\v=gG i t)\/(k=none/\v=eK)
 | some i,v,h=>by
  obtain⟨t,e⟩:=Value.isInt_shape (k:=i) (v:=v) h;exact .inl ⟨i,t,rfl,e⟩
 | none,v,h=>by
  cases v <;> first | exact .inr ⟨rfl,rfl⟩ | cases h
theorem agj(a b:Int):decide ((some a:Key)=some b)=(a == b):=by
 by_cases e:a=b
 ·subst e;simp
 ·simp[e]
theorem abI{prog:Program}{w:World}{A:Around}{E:Value->Shared->Prop}{s:Shared}{Q:Int->Shared->Prop}(h:Q 4238894112 { s with toks:=s.toks+1 }):wpAny (model prog w) A (pyHash .none) Q E s:=by
 show wpAny (model prog w) A (pyHashByItsType .none) Q E s;refine W.pyHash_slot (T:="NoneType") rfl F.slot_NoneType_hash F.entry_NoneType_hash (F.args_NoneType_hash_1 _) rfl (.inl rfl) ?_;refine ag (show wpAny (model prog w) A.in1 (pure (eK,[])) _ E s from aF ?_)
 exact iP (wpAny_ret_mkInt (Q:=λv s'=>∃n t,v=gG n t/\Q (reduceHash n) s') ⟨_,_,rfl,h⟩) (λfin s' z=>by
  obtain⟨v,e,n,t,e2,q⟩:=z;exact⟨n,t,by rw[e,e2],q⟩) λ_ _ x=>x
def RK(prog:Program)(w:World):PySem.KeyKind prog w Key where
 is:=TZ
 hash:=akm
 inj:=λv a b ha hb=>by
  rcases rX ha with ⟨i,t,rfl,rfl⟩ | ⟨rfl,rfl⟩
  ·rcases rX hb with ⟨j,u,rfl,e⟩ | ⟨rfl,e⟩
   ·injection e with e1 _;rw[e1]
   ·exact nomatch e
  ·rcases rX hb with ⟨j,u,rfl,e⟩ | ⟨rfl,e⟩
   ·exact nomatch e
   ·rfl
 byValue:=λk v h=>by
  rcases rX h with ⟨i,t,rfl,rfl⟩ | ⟨rfl,rfl⟩ <;> rfl
 pyHash:=λhv h=>by
  rcases rX hv with ⟨i,t,rfl,rfl⟩ | ⟨rfl,rfl⟩
  ·exact wpAny_pyHash_int h
  ·exact abI h
 eqBool:=λhu hv h=>by
  rcases rX hu with ⟨i,t,rfl,rfl⟩ | ⟨rfl,rfl⟩
  ·rcases rX hv with ⟨j,u,rfl,rfl⟩ | ⟨rfl,rfl⟩
   ·rw[agj]at h;exact wpAny_eqBool_int h
   ·exact YT i t _ _ _ _ h
  ·rcases rX hv with ⟨j,u,rfl,rfl⟩ | ⟨rfl,rfl⟩
   ·exact YS j u _ _ _ _ h
   ·exact lD (wpAny_ite_split (λ_=>ag (xZ (aF h))) λz=>absurd rfl z)
 «strs»:=λk x t v h=>by
  rcases rX h with ⟨i,u,rfl,e⟩ | ⟨rfl,e⟩ <;> exact nomatch e
inductive V where
 | aE | bl (b:Bool) | int (i:Int) | str (x:Str) | oG (b:Array UInt8) | qV (b:UInt64) | ref (a:Addr) | ty (n:String)
 deriving DecidableEq
def RelV:V->Value->Prop
 | .aE,u=>u=eK
 | .bl b,u=>u=oY b
 | .int i,u=>∃t,u=gG i t
 | .str x,u=>∃t,u=HX x t
 | .oG b,u=>∃t,u=Value.bytes b t
 | .qV b,u=>∃t,u=Hj b t
 | .ref a,u=>u=c8 a
 | .ty n,u=>u=iA n
abbrev Vals:List V->List Value->Prop:=Paired RelV
theorem Vals.length{xs:List V}{us:List Value}(r:Vals xs us):xs.length=us.length:=Paired.length r
theorem Vals.get:∀{xs:List V} {us:List Value} {i:Nat} {x:V},Vals xs us->xs[i]?=some x->∃u,us[i]?=some u/\RelV x u
 | _,_,_,_,.nil,e=>by simp at e
 | _,_,0,_,.cons r _,e=>by simp at e;subst e;exact⟨_,rfl,r⟩
 | _,_,i+1,x,.cons _ t,e=>by
  obtain⟨u,h1,h2⟩:=Vals.get (i:=i) (x:=x) t (by simpa using e);exact⟨u,by simpa using h1,h2⟩
theorem Vals.set{x:V}{u:Value}(r:RelV x u):∀{xs:List V} {us:List Value} (i:Nat),Vals xs us->Vals (xs.set i x) (us.set i u)
 | _,_,_,.nil=>.nil
 | _,_,0,.cons _ t=>.cons r t
 | _,_,i+1,.cons q t=>.cons q (Vals.set r i t)
theorem Vals.append:∀{xs ys:List V} {us ws:List Value},Vals xs us->Vals ys ws->Vals (xs++ys) (us++ws)
 | _,_,_,_,.nil,s=>s
 | _,_,_,_,.cons r t,s=>.cons r (Vals.append t s)
theorem Vals.take:∀{xs:List V} {us:List Value} (n:Nat),Vals xs us->Vals (xs.take n) (us.take n)
 | _,_,0,_=>.nil
 | _,_,_+1,.nil=>.nil
 | _,_,n+1,.cons r t=>.cons r (Vals.take n t)
theorem Vals.drop:∀{xs:List V} {us:List Value} (n:Nat),Vals xs us->Vals (xs.drop n) (us.drop n)
 | _,_,0,r=>r
 | _,_,_+1,.nil=>.nil
 | _,_,n+1,.cons _ t=>Vals.drop n t
theorem Vals.none_of:∀{xs:List V} {us:List Value} {i:Nat},Vals xs us->xs[i]?=none->us[i]?=none:=λ{xs us i} r e=>by
 have h1:=r.length;have h2:xs.length<=i:=Yz.mp e;exact Yz.mpr om
def qP:Option V->Option Value->Prop
 | some v,some u=>RelV v u
 | none,none=>True
 | _,_=>False
def KV{κ:Type}:List (κ×V)->List (κ×Value)->Prop:=Paired λ(p:κ×V) (q:κ×Value)=>p.1=q.1/\RelV p.2 q.2
def kV:Key->V
 | some i=>.int i
 | none=>.aE
inductive HO where
  | lst (xs:List V)
  | tup (xs:List V)
  | dK (fg:List (Key×V)) | dT (fg:List (List Key×V))
  | set (S:Int->Bool) (n:Nat)
  | ins (C dx:Addr) (fs:List (Str×V))
  | own (x:Addr)
  | xd (fs:List (Str×V))
  | met (f x:Addr)
  | Mg (lo hi:Int)
  | jU (o:Obj) (u:HO)
  | eL (ps:Array Value)
  | ext (φ:Heap->Prop)
abbrev Hp:=Addr->Option HO
def upd(H:Hp)(a:Addr)(o:HO):Hp:=λb=>if b=a then some o else H b
theorem av{H:Hp}{a:Addr}{o:HO}:upd H a o a=some o:=by unfold upd;rw[if_pos rfl]
theorem ak{H:Hp}{a b:Addr}{o:HO}(h:b≠a):upd H a o b=H b:=by unfold upd;rw[if_neg h]
theorem mm{H:Hp}{a:Addr}{o u:HO}:upd (upd H a o) a u=upd H a u:=by
 funext b;unfold upd;split <;> rfl
theorem ik{H:Hp}{a b:Addr}{o u:HO}(h:H a=some o)(h':H b=some u)(d:o≠u):a≠b:=by
 intro e;subst e;rw[h]at h';exact d (eC h')
theorem bJ{H:Hp}{a b:Addr}{o:HO}(h:H a=some o)(h':H b=none):a≠b:=by
 intro e;subst e;rw[h]at h';cases h'
section
variable(P:Program)(w:World)
def eX(H:Hp)(h:Heap)(a:Addr):HO->Prop
 | .lst xs=>xs.length<=bN/\∃(aj:List Value) (n:Nat),Vals xs aj/\h.get? a=some { cls:=.type "list",data:=.seq aj.toArray n }
 | .tup xs=>xs.length<=bN/\∃aj:List Value,Vals xs aj/\IsTup h a aj.toArray
 | .dK fg=>fg.length<=bN/\(a == sysModules)=false/\∃vs,KV fg vs/\h.DictOf (RK P w) a vs
 | .dT fg=>fg.length<=bN/\(a == sysModules)=false/\∃xs:List (List Key×Addr×Value),Paired (λ(p:List Key×V) (q:List Key×Addr×Value)=>p.1=q.1/\H q.2.1=some (.tup (p.1.map kV))/\RelV p.2 q.2.2) fg xs/\
   ∃o es ep,h.get? a=some o/\o.ExactDict/\o.data=.dict es ep/\es.toList=xs.map (entryOfKey (tupleKind (RK P w)))/\(xs.map (·.1)).Nodup
 | .set S n=>h.SetOf (intKind P w) a S n
 | .ins C dx fs=>H dx=some (.own a)/\fs.length<=1000/\dx≠a/\h.get? a=some (W.instObj C dx)/\
   ∃mA,h.Ns1 dx mA/\(∀f,qP (fs.lookup f) (mA f))/\PySem.Within mA (fs.map (·.1))
 | .own _=>∃o,h.get? a=some o
 | .xd fs=>∃mA,h.Ns1 a mA/\∀f,qP (fs.lookup f) (mA f)
 | .Mg lo hi=>∃t u v,h.get? a=some { cls:=.type "range",data:=.fields #[.int lo t,.int hi u,.int 1 v] }
 | .jU o u=>h.get? a=some o/\eX H h a u
 | .eL ps=>h.get? a=some { cls:=.none,data:=.fields ps }
 | .met f x=>h.get? a=some (W.methodObj (.ref f) (.ref x))
 | .ext φ=>φ h/\(∃o,h.get? a=some o)/\∀h1 h2:Heap,φ h1->(∀o,h1.get? a=some o->h2.get? a=some o)->φ h2
def f9(H:Hp)(h:Heap):Prop:=∀a o,H a=some o->eX P w H h a o
end
section
variable{P:Program}{w:World}{H H':Hp}{h h':Heap}{a:Addr}{o:HO}
theorem eX.lt(x:eX P w H h a o):a<h.objs.size:=by
 cases o with
 | lst xs=>obtain⟨_,_,_,_,e⟩:=x;exact bq e
 | tup xs=>obtain⟨_,_,_,p⟩:=x;exact p.lt
 | dK fg=>obtain⟨_,_,_,_,o,_,_,e,_⟩:=x;exact bq e
 | dT fg=>obtain⟨_,_,_,_,o,_,_,e,_⟩:=x;exact bq e
 | set S n=>obtain⟨o,_,_,_,e,_⟩:=x;exact bq e
 | ins C dx fs=>obtain⟨_,_,_,e,_⟩:=x;exact bq e
 | own y=>obtain⟨_,e⟩:=x;exact bq e
 | xd fs=>obtain⟨_,⟨_,_,_,e,_⟩,_⟩:=x;exact bq e
 | Mg lo hi=>obtain⟨_,_,_,e⟩:=x;exact bq e
 | jU ob u=>obtain⟨e,_⟩:=x;exact bq e
 | eL ps=>exact bq (show h.get? a=some _ from x)
 | met f y=>exact bq (show h.get? a=some _ from x)
 | ext φ=>obtain⟨_,⟨_,e⟩,_⟩:=x;exact bq e
theorem Paired.cF{α β:Type}{F G:α->β->Prop}:∀{l₁:List α} {l₂:List β},Paired F l₁ l₂->(∀a b,F a b->G a b)->Paired G l₁ l₂
 | _,_,.nil,_=>.nil
 | _,_,.cons r t,f=>.cons (f _ _ r) (Paired.cF t f)
theorem eX.kX(x:eX P w H h a o)(k:∀b u,(b=a\/H b=some (.own a))->h.get? b=some u->h'.get? b=some u)
  (ho:∀b,H b=some (.own a)->H' b=some (.own a)) (ht:∀b xs,H b=some (.tup xs)->H' b=some (.tup xs)):eX P w H' h' a o:=by
 induction o with
 | lst xs=>obtain⟨z,aj,n,r,e⟩:=x;exact⟨z,aj,n,r,k _ _ (.inl rfl) e⟩
 | tup xs=>obtain⟨z,aj,r,ob,e,c⟩:=x;exact⟨z,aj,r,ob,k _ _ (.inl rfl) e,c⟩
 | dK fg=>obtain⟨z,y,vs,r,ob,es,ep,e,c⟩:=x;exact⟨z,y,vs,r,ob,es,ep,k _ _ (.inl rfl) e,c⟩
 | dT fg=>
  obtain⟨z,y,xs,r,ob,es,ep,e,c⟩:=x;exact⟨z,y,xs,Paired.cF r λp q z=>⟨z.1,ht _ _ z.2.1,z.2.2⟩,ob,es,ep,k _ _ (.inl rfl) e,c⟩
 | set S n=>obtain⟨ob,es,ep,t,e,c⟩:=x;exact⟨ob,es,ep,t,k _ _ (.inl rfl) e,c⟩
 | ins C dx fs=>
  obtain⟨d,z,ne,e,mA,⟨od,es,ep,e2,c⟩,r⟩:=x;exact⟨ho _ d,z,ne,k _ _ (.inl rfl) e,mA,⟨od,es,ep,k _ _ (.inr d) e2,c⟩,r⟩
 | own y=>obtain⟨ob,e⟩:=x;exact⟨ob,k _ _ (.inl rfl) e⟩
 | xd fs=>obtain⟨mA,⟨od,es,ep,e,c⟩,r⟩:=x;exact⟨mA,⟨od,es,ep,k _ _ (.inl rfl) e,c⟩,r⟩
 | Mg lo hi=>obtain⟨t,u,v,e⟩:=x;exact⟨t,u,v,k _ _ (.inl rfl) e⟩
 | jU ob u ih=>obtain⟨e,q⟩:=x;exact⟨k _ _ (.inl rfl) e,ih q⟩
 | eL ps=>
  have e:h.get? a=some { cls:=.none,data:=.fields ps }:=x;show h'.get? a=some { cls:=.none,data:=.fields ps };exact k a _ (.inl rfl) e
 | met f y=>
  have e:h.get? a=some (W.methodObj (.ref f) (.ref y)):=x;show h'.get? a=some (W.methodObj (.ref f) (.ref y));exact k a _ (.inl rfl) e
 | ext φ=>obtain⟨p,⟨o,e⟩,st⟩:=x;exact⟨st _ _ p λo q=>k _ _ (.inl rfl) q,⟨o,k _ _ (.inl rfl) e⟩,st⟩
theorem f9.lt(x:f9 P w H h)(e:H a=some o):a<h.objs.size:=(x a o e).lt
theorem f9.fresh(x:f9 P w H h)(e:h.objs.size<=a):H a=none:=by
 cases q:H a with
 | none=>rfl
 | some u=>exact absurd (eB (x.lt q) e) (iH _)
theorem f9.kept(x:f9 P w H h)(k:∀b u,h.get? b=some u->h'.get? b=some u):f9 P w H h':=λa o e=>
 (x a o e).kX (λb u _ q=>k b u q) (λ_ q=>q) λ_ _ q=>q
theorem f9.laid(x:f9 P w H h)(k:∀b u,h.get? b=some u->h'.get? b=some u)(hp:h.objs.size<=a)(new:eX P w (upd H a o) h' a o):f9 P w (upd H a o) h':=λb u e=>by
 have hn:=x.fresh hp
 by_cases hb:b=a
 ·subst hb;rw[av]at e;cases e;exact new
 ·rw[ak hb]at e;exact(x b u e).kX (λc v _ q=>k c v q) (λc q=>by rw[ak (bJ q hn)];exact q) λc xs q=>by rw[ak (bJ q hn)];exact q
end
def Rd(H:Hp)(a:Addr)(u:HO):Prop:=H a=some u\/∃o,H a=some (.jU o u)
theorem Rd.ok{P:Program}{w:World}{H:Hp}{h:Heap}{a:Addr}{u:HO}(r:Rd H a u)(x:f9 P w H h):eX P w H h a u:=by
 rcases r with r | ⟨o,r⟩
 ·exact x a u r
 ·obtain⟨_,q⟩:=x a _ r;exact q
def EY:Option HO->Prop
 | some (.lst _)=>True
 | some (.dK _)=>True
 | some (.dT _)=>True
 | some (.set _ _)=>True
 | some (.ins _ _ _)=>True
 | some (.ext _)=>True
 | _=>False
section
variable{P:Program}{w:World}{H:Hp}{h h':Heap}{x e:Addr}{o':HO}
theorem f9.write(ok:f9 P w H h)(mu:EY (H x))(he:e=x\/H e=some (.own x))(k:∀b u,b≠e->h.get? b=some u->h'.get? b=some u)(zM:∃u,h'.get? e=some u)
  (new:eX P w (upd H x o') h' x o'):f9 P w (upd H x o') h':=λb u q=>by
 have Vg:∀c y,H c=some (.own y)->c≠x:=λc y r z=>by subst z;rw[r]at mu;exact mu
 have akw:∀c xs,H c=some (.tup xs)->c≠x:=λc xs r z=>by subst z;rw[r]at mu;exact mu
 by_cases hb:b=x
 ·subst hb;rw[av]at q;cases q;exact new
 ·rw[ak hb]at q
  by_cases xo:b=e
  ·have q':H b=some (.own x):=by
    rcases he with z | z
    ·exact absurd (xo.trans z) hb
    ·rw[xo];exact z
   rw[q]at q';cases q';obtain⟨v,hv⟩:=zM;exact⟨v,by rw[xo];exact hv⟩
  ·refine(ok b u q).kX (λc v hc r=>k c v ?_ r) (λc r=>by rw[ak (Vg c b r)];exact r) λc xs r=>by rw[ak (akw c xs r)];exact r
   rcases hc with rfl | hc
   ·exact xo
   ·rintro rfl;rcases he with z | z
    ·exact Vg c b hc z
    ·rw[hc]at z;cases z;exact hb rfl
end
structure Un(fs ex:List Addr)(H H':Hp)(h h':Heap):Prop where
 keep:∀b o,h.get? b=some o->H b=none->b∉fs->b∉ex->h'.get? b=some o
 slot:∀b o,h.get? b=some o->H b=none->b∈fs->b∉ex->∃sl,h'.get? b=some { o with slots:=sl }
 free:∀b o,h.get? b=some o->H b=none->b∉ex->H' b=none
 there:∀b o,h.get? b=some o->b∉ex->∃o',h'.get? b=some o'
 qK:∀b xs,H b=some (.tup xs)->H' b=some (.tup xs)
 pI:∀b o u,H b=some (.jU o u)->H' b=some (.jU o u)
 pF:∀b ps,H b=some (.eL ps)->∃more,H' b=some (.eL (ps++more))
section
variable{fs lY ex ex':List Addr}{H H1 H2:Hp}{h h1 h2 h':Heap}{a x e:Addr}{o:HO}
theorem Un.any(u:Un fs ex H H1 h h1){b:Addr}{ob:Obj}(q:h.get? b=some ob)(n:H b=none)(hx:b∉ex):∃sl,h1.get? b=some { ob with slots:=sl }:=by
 by_cases hb:b∈fs
 ·exact u.slot b ob q n hb hx
 ·exact⟨ob.slots,u.keep b ob q n hb hx⟩
theorem Un.kept(k:∀b u,h.get? b=some u->h'.get? b=some u):Un fs ex H H h h':=
 ⟨λb ob q _ _ _=>k b ob q,λb ob q _ _ _=>⟨ob.slots,k b ob q⟩,λ_ _ _ n _=>n,λb ob q _=>⟨ob,k b ob q⟩,λ_ _ q=>q,λ_ _ _ q=>q,λ_ ps q=>⟨#[],by rw[q];simp⟩⟩
theorem Un.refl:Un fs ex H H h h:=Un.kept λ_ _ q=>q
theorem Un.laid(k:∀b u,h.get? b=some u->h'.get? b=some u)(hp:h.objs.size<=a)(hn:H a=none):Un fs ex H (upd H a o) h h' where
 keep:=λb u q _ _ _=>k b u q
 slot:=λb u q _ _ _=>⟨u.slots,k b u q⟩
 free:=λb u q n _=>by rw[ak (dv (eB (bq q) hp))];exact n
 there:=λb u q _=>⟨u,k b u q⟩
 qK:=λb xs q=>by rw[ak (bJ q hn)];exact q
 pI:=λb u xs q=>by rw[ak (bJ q hn)];exact q
 pF:=λb ps q=>⟨#[],by rw[ak (bJ q hn),q];simp⟩
theorem Un.write(mu:EY (H x))(he:e=x\/H e=some (.own x))(k:∀b u,b≠e->h.get? b=some u->h'.get? b=some u)(zM:∃u,h'.get? e=some u):Un fs ex H (upd H x o) h h':=by
 have hx:∀b,H b=none->b≠x:=λb n z=>by subst z;rw[n]at mu;exact mu
 have hb:∀b,H b=none->b≠e:=λb n z=>by
  subst z;rcases he with r | r
  ·exact hx b n r
  ·rw[n]at r;cases r
 have hm:∀b u,H b=some u->¬EY (some u)->b≠x:=λb u q nm z=>by subst z;rw[q]at mu;exact nm mu
 refine⟨λb u q n _ _=>k b u (hb b n) q,λb u q n _ _=>⟨u.slots,k b u (hb b n) q⟩,λb u q n _=>by rw[ak (hx b n)];exact n,λb u q _=>?_,λb xs q=>by rw[ak (hm b _ q λz=>z)];exact q,λb u xs q=>by rw[ak (hm b _ q λz=>z)];exact q,λb ps q=>⟨#[],by rw[ak (hm b _ q λz=>z),q];simp⟩⟩
 by_cases xo:b=e
 ·subst xo;exact zM
 ·exact⟨u,k b u xo q⟩
end
def EI(h:Heap)(H:Hp):List Addr:=(List.range h.objs.size).filter λa=>(H a).isSome
def qN(h:Heap)(H:Hp):Heap:=W.hideAll h (EI h H)
theorem abH(h:Heap)(H:Hp):(qN h H).objs.size=h.objs.size:=W.hideAll_size _ _
theorem adh{h:Heap}{H:Hp}{b:Addr}{o:Obj}(e:h.get? b=some o)(n:H b=none):(qN h H).get? b=some o:=
 W.hideAll_get _ e λhm=>by
  have q:(H b).isSome=true:=(mf.mp hm).2;rw[n]at q;simp at q
theorem aeJ{h:Heap}{H:Hp}{b:Addr}{o:Obj}(e:(qN h H).get? b=some o):h.get? b=some o/\H b=none:=by
 have e':h.get? b=some o:=W.of_hideAll (EI h H) e;refine⟨e',?_⟩;cases q:H b with
 | none=>rfl
 | some x=>
  have hm:b∈EI h H:=mf.mpr ⟨iN.mpr (bq e'),by simp[q]⟩;have z:(qN h H).get? b=none:=W.hideAll_none (EI h H) hm;rw[z]at e;cases e
def Dw(g h:Heap)(L:Addr):List (Addr×Obj):=(List.range h.objs.size).filterMap λa=>if a=L\/(g.get? a).isSome=true then none else (h.get? a).map λo=>(a,o)
theorem Z6{g h:Heap}{L a:Addr}{o:Obj}(h1:a≠L)(h2:g.get? a=none)(h3:h.get? a=some o):(a,o)∈Dw g h L:=
 Gg.mpr ⟨a,iN.mpr (bq h3),by simp[h1,h2,h3]⟩
theorem Zu{g h:Heap}{L:Addr}{p:Addr×Obj}(hp:p∈Dw g h L):p.1≠L/\g.get? p.1=none/\h.get? p.1=some p.2:=by
 obtain⟨b,_,e⟩:=Gg.mp hp
 split at e
 ·cases e
 ·rename_i hn
  cases q:h.get? b with
  | none=>rw[q]at e;simp at e
  | some u=>
   rw[q]at e;simp only[Option.map_some,vo]at e;subst e;refine⟨λz=>hn (.inl z),?_,q⟩;show g.get? b=none;cases r:g.get? b with
   | none=>rfl
   | some v=>exact(hn (.inr (by simp[r]))).elim
def rest(g h:Heap)(L d:Addr):List (Addr×Obj):=(Dw g h L).filter λp=>decide (p.1≠d)
theorem Rz{g h:Heap}{L d:Addr}:∀p∈rest g h L d,p.1≠d:=λp hp=>of_decide_eq_true (mf.mp hp).2
theorem acZ{g h:Heap}{L d a:Addr}{o:Obj}(h1:a≠L)(h2:g.get? a=none)(h3:h.get? a=some o)(h4:a≠d):(a,o)∈rest g h L d:=
 mf.mpr ⟨Z6 h1 h2 h3,decide_eq_true h4⟩
theorem acR{g h:Heap}{L:Addr}:News g L h (Dw g h L):=λp hp=>let ⟨a,b,c⟩:=Zu hp;⟨c,a,b⟩
theorem ZS{g h h':Heap}{L d:Addr}{m:Str->Option Value}(k:∀b o,g.get? b=some o->h.get? b=some o)(F:Fr g L h' m)(N:News g L h' (rest g h L d)) :
  ∀b o,b≠L->b≠d->h.get? b=some o->h'.get? b=some o:=λb o h1 h2 e=>by
 cases q:g.get? b with
 | some u=>
  have:=k b u q;rw[e]at this;cases this;exact F.keep b _ q
 | none=>exact(N (b,o) (acZ h1 q e h2)).1
structure Mod(K:W.Frag)(mg:Str->Option Value)(base:Heap):Prop where
 uw:K.In base
 glob:base.Ns eD mg
 blt:∃mb,base.Ns qm mb/\∀x:Str,x ≠ "__name__"->mb x=rW x
 nolimit:base.NoLimit
structure Cx where
 prog:Program
 w:World
 K:W.Frag
 mg:Str->Option Value
 base:Heap
 A:Around
 N:List Str
 s₀:Shared
 H₀:Hp
 env:Env
 outer:List Env
 stack:List Env
 ex:List Addr
 fn:Str->Bool
 calm:Bool
 pn:List (Addr×Obj)
 xe:Value->Shared->Prop
def jh(l:List Env):List Addr:=l.filterMap (·.frame)
abbrev Cx.fs(X:Cx):List Addr:=jh X.outer
def Mq(sc:Scope)(x:Str):Prop:=sc.names.lookup x=some .local\/sc.names.lookup x=some .cell\/sc.names.lookup x=some .free
def Loc(sc:Scope)(x:Str):Prop:=sc.names.lookup x=some .local\/sc.names.lookup x=some .cell
def Look(env:Env)(h:Heap)(m:Str->Option Value)(x:Str)(u:Value):Prop:=
 (env.kindOf x=some .local/\m x=some u)\/((env.kindOf x=some .cell\/env.kindOf x=some .free)/\∃c,env.cells.lookup x=some c/\h.IsCell c (some u))
structure Cx.Ok(X:Cx):Prop where
 mod:Mod X.K X.mg X.base
 kind:X.env.scope.kind=.function
 glob:X.env.globals=eD
 blt:X.env.builtins=qm
 above:X.s₀.heap.objs.size<=X.env.locals
 inj:∀x y c,X.env.cells.lookup x=some c->X.env.cells.lookup y=some c->x=y
 has:∀x,(X.env.kindOf x=some .cell\/X.env.kindOf x=some .free)->∃c,X.env.cells.lookup x=some c
 uz:∀x c,X.fn x=true->X.env.cells.lookup x=some c->X.s₀.heap.objs.size<=c
 hd:X.calm=true->X.A.handled=none
 frames:X.A.frames=some X.stack
 wx:X.stack=X.outer\/(X.stack=X.env::X.outer/\X.env.frame=some X.env.locals)
 sM:∀b∈X.ex,b≠X.env.locals/\∀x c,X.env.cells.lookup x=some c->c≠b
 bs:∀b o,X.base.get? b=some o->X.s₀.heap.get? b=some o/\X.H₀ b=none
 lg:X.base.objs.size<=X.s₀.heap.objs.size
 ug:∀b o,X.base.get? b=some o->b∉X.ex
 sE:∀b∈X.ex,b∉X.fs
 kY:X.s₀.heap.FunFrames X.base X.outer
 qU:∀b∈X.fs,X.H₀ b=none
structure Inv(X:Cx)(p_:List (Addr×Obj))(σ:List (Option V))(H:Hp)(s:Shared):Prop where
 ok:X.Ok
 os:s.os=X.s₀.os
 bare:AllBare s.gens
 base:Un X.fs X.ex X.H₀ H X.s₀.heap s.heap
 loc:∃m,s.heap.Ns X.env.locals m/\∀(i:Nat) (x:Str) (v:V),X.N[i]?=some x->σ[i]?=some (some v)->Mq X.env.scope x->∃u,RelV v u/\Look X.env s.heap m x u
 cell:∀x c,X.env.cells.lookup x=some c->∃v,s.heap.IsCell c v
 free:H X.env.locals=none
 jq:∀x c,X.env.cells.lookup x=some c->H c=none
 pin:∀p∈X.pn++p_,s.heap.get? p.1=some p.2/\H p.1=none/\p.1≠X.env.locals/\p.1∉X.fs/\∀v,p.2.data≠.cell v
 aL:f9 X.prog X.w H s.heap
 len:σ.length=X.N.length
section
variable{X:Cx}{p_:List (Addr×Obj)}{σ:List (Option V)}{H H':Hp}{s:Shared}{h':Heap}
theorem Cx.Ok.aki(ok:X.Ok){b:Addr}{o:Obj}(e:X.base.get? b=some o):b∉X.fs:=λhb=>by
 have:=(ok.kY.mem hb).1;rw[e]at this;cases this
theorem Inv.bs(I:Inv X p_ σ H s):∀b o,X.base.get? b=some o->s.heap.get? b=some o/\H b=none:=λb o e=>
 ⟨I.base.keep b o (I.ok.bs b o e).1 (I.ok.bs b o e).2 (I.ok.aki e) (I.ok.ug b o e),I.base.free b o (I.ok.bs b o e).1 (I.ok.bs b o e).2 (I.ok.ug b o e)⟩
theorem Inv.bk(I:Inv X p_ σ H s):∀b o,X.base.get? b=some o->s.heap.get? b=some o:=λb o e=>(I.bs b o e).1
theorem Inv.mod(I:Inv X p_ σ H s):Mod X.K X.mg X.base:=I.ok.mod
theorem Inv.cR(I:Inv X p_ σ H s):X.K.In s.heap:=I.ok.mod.uw.keeps I.bk
theorem Inv.nolimit(I:Inv X p_ σ H s):s.heap.NoLimit:=I.ok.mod.nolimit.keeps I.bk
theorem Inv.fr(I:Inv X p_ σ H s):∃m,Fr X.base X.env.locals s.heap m:=
 let ⟨m,hn,_⟩:=I.loc
 ⟨m,hn,I.bk,cZ I.ok.lg I.ok.above⟩
theorem Inv.lt(I:Inv X p_ σ H s):X.env.locals<s.heap.objs.size:=let ⟨_,hn,_⟩:=I.loc;hn.lt
theorem Inv.sz(I:Inv X p_ σ H s):X.s₀.heap.objs.size<=s.heap.objs.size:=cZ I.ok.above (cg I.lt)
theorem Inv.US(I:Inv X p_ σ H s){a:Addr}(h:s.heap.objs.size<=a):a∉X.fs:=λhb=>by
 obtain⟨_,o,ho,_⟩:=I.ok.kY.mem hb;exact absurd (eB (bq ho) (cZ I.sz h)) (iH _)
theorem Inv.wH(I:Inv X p_ σ H s):∀x c,X.env.cells.lookup x=some c->c≠X.env.locals:=λx c e z=>by
 obtain⟨v,o,ho,hd⟩:=I.cell x c e;obtain⟨m,⟨o',es,ep,pY,rA,_⟩,_⟩:=I.loc;rw[z,pY]at ho;cases ho;rw[rA]at hd;cases hd
theorem Inv.kY(I:Inv X p_ σ H s):s.heap.FunFrames X.base X.outer:=by
 have all:∀(l:List Env),(∀b∈jh l,b∈X.fs)->X.s₀.heap.FunFrames X.base l->s.heap.FunFrames X.base l:=by
  intro l
  induction l with
  | nil=>intro _ _;trivial
  | cons env r ih=>
   intro hs hl;obtain⟨hk,⟨L,o,hf,hn,ho,hd⟩,hr⟩:=hl;have hL:L∈X.fs:=hs L (by unfold jh;rw[Gd,hf];exact fJ);obtain⟨sl,e⟩:=I.base.slot L o ho (I.ok.qU L hL) hL λz=>I.ok.sE L z hL;exact⟨hk,⟨L,_,hf,hn,e,hd⟩,ih (λb hb=>hs b (by unfold jh;rw[Gd,hf];exact dJ _ hb)) hr⟩
 exact all X.outer (λ_ hb=>hb) I.ok.kY
theorem Inv.stack(I:Inv X p_ σ H s):s.heap.FunFrames X.base X.stack:=by
 rcases I.ok.wx with e | ⟨e,hf⟩
 ·rw[e];exact I.kY
 ·rw[e];obtain⟨m,hn,_⟩:=I.loc;refine .cons (by rw[I.ok.kind];decide) hf hn ?_ I.kY;exact YQ (cZ I.ok.lg I.ok.above)
theorem Inv.Dx(I:Inv X p_ σ H s):∀b∈jh X.stack,b∈X.env.locals::X.fs:=λb hb=>by
 rcases I.ok.wx with e | ⟨e,hf⟩
 ·rw[e]at hb;exact dJ _ hb
 ·rw[e]at hb;unfold jh at hb;rw[Gd,hf]at hb;exact hb
theorem Inv.Dg(I:Inv X p_ σ H s):∀b∈jh X.stack,H b=none:=λb hb=>by
 rcases bR.mp (I.Dx b hb)with e | hb
 ·rw[e];exact I.free
 ·obtain⟨_,o,ho,_⟩:=I.ok.kY.mem hb;exact I.base.free b o ho (I.ok.qU b hb) λz=>I.ok.sE b z hb
theorem Inv.step{g':Array GenState}{t':Nat}{d':Drawn}{ch:List Addr}(I:Inv X p_ σ H s)
  (kj:∀b∈ch,(b∈X.ex\/X.s₀.heap.objs.size<=b)/\b≠X.env.locals/\(∀x c,X.env.cells.lookup x=some c->c≠b)/\∀p∈X.pn++p_,p.1≠b)
  (keep:∀b o,b≠X.env.locals->b∉X.fs->b∉ch->s.heap.get? b=some o->H b=none->h'.get? b=some o)
  (slot:∀b o,b≠X.env.locals->b∈X.fs->b∉ch->s.heap.get? b=some o->H b=none->∃sl,h'.get? b=some { o with slots:=sl }) (free:∀b o,b∉ch->s.heap.get? b=some o->H b=none->H' b=none)
  (there:∀b o,b∉ch->s.heap.get? b=some o->∃o',h'.get? b=some o')
  (qK:∀b xs,H b=some (.tup xs)->H' b=some (.tup xs)) (pI:∀b o u,H b=some (.jU o u)->H' b=some (.jU o u)) (pF:∀b ps,H b=some (.eL ps)->∃more,H' b=some (.eL (ps++more)))
  (ns:∀m,s.heap.Ns X.env.locals m->h'.Ns X.env.locals m) (aL:f9 X.prog X.w H' h') (hg:AllBare g') :
  Inv X p_ σ H' { s with heap:=h',gens:=g',drawn:=d',toks:=t' }:=by
 have Wq:∀b o,X.s₀.heap.get? b=some o->b≠X.env.locals:=λb o e=>dv (eB (bq e) I.ok.above)
 have Fg:∀b o,X.s₀.heap.get? b=some o->b∉X.ex->b∉ch:=λb o e hx hb=>by
  rcases(kj b hb).1 with z | z
  ·exact hx z
  ·exact absurd (eB (bq e) z) (iH _)
 have cellK:∀x c,X.env.cells.lookup x=some c->∀v,s.heap.IsCell c v->h'.IsCell c v:=λx c e v ⟨o,ho,hd⟩=>by
  have uG:c∉ch:=λz=>(kj c z).2.2.1 x c e rfl
  by_cases hc:c∈X.fs
  ·obtain⟨sl,q⟩:=slot c o (I.wH x c e) hc uG ho (I.jq x c e);exact⟨_,q,hd⟩
  ·exact⟨o,keep c o (I.wH x c e) hc uG ho (I.jq x c e),hd⟩
 refine⟨I.ok,I.os,hg,⟨λb o e n hb hx=>?_,λb o e n hb hx=>?_,λb o e n hx=>?_,λb o e hx=>?_,λb xs e=>qK b xs (I.base.qK b xs e),λb o xs e=>pI b o xs (I.base.pI b o xs e),λb ps e=>?_⟩,?_,λx c e=>?_,?_,λx c e=>?_,λp hp=>?_,aL,I.len⟩
 ·exact keep b o (Wq b o e) hb (Fg b o e hx) (I.base.keep b o e n hb hx) (I.base.free b o e n hx)
 ·obtain⟨sl,e1⟩:=I.base.slot b o e n hb hx;obtain⟨E4,e2⟩:=slot b _ (Wq b o e) hb (Fg b o e hx) e1 (I.base.free b o e n hx);exact⟨E4,e2⟩
 ·obtain⟨o',e1⟩:=I.base.there b o e hx;exact free b o' (Fg b o e hx) e1 (I.base.free b o e n hx)
 ·obtain⟨o',e1⟩:=I.base.there b o e hx;exact there b o' (Fg b o e hx) e1
 ·obtain⟨m1,e1⟩:=I.base.pF b ps e;obtain⟨m2,e2⟩:=pF b _ e1;exact⟨m1++m2,by rw[e2,Array.append_assoc]⟩
 ·obtain⟨m,hn,hl⟩:=I.loc;refine⟨m,ns m hn,λi x v e1 e2 e3=>?_⟩;obtain⟨u,r,l⟩:=hl i x v e1 e2 e3;refine⟨u,r,?_⟩;rcases l with l | ⟨k,c,e,z⟩
  ·exact .inl l
  ·exact .inr ⟨k,c,e,cellK x c e _ z⟩
 ·obtain⟨v,z⟩:=I.cell x c e;exact⟨v,cellK x c e v z⟩
 ·obtain⟨m,⟨o,_,_,ho,_⟩,_⟩:=I.loc;exact free _ o (λz=>(kj _ z).2.1 rfl) ho I.free
 ·obtain⟨v,o,ho,hd⟩:=I.cell x c e;exact free c o (λz=>(kj c z).2.2.1 x c e rfl) ho (I.jq x c e)
 ·obtain⟨e,n,ne,nf,d⟩:=I.pin p hp;have uG:p.1∉ch:=λz=>(kj p.1 z).2.2.2 p hp rfl;exact⟨keep p.1 p.2 ne nf uG e n,free p.1 p.2 uG e n,ne,nf,d⟩
theorem Inv.un{t':Nat}(I:Inv X p_ σ H s)(u:Un X.fs [] H H' s.heap h')(aL:f9 X.prog X.w H' h'):Inv X p_ σ H' { s with heap:=h',toks:=t' }:=by
 obtain⟨m,⟨o,es,ep,ho,r⟩,_⟩:=id I.loc;obtain⟨sl,hL⟩:=u.any ho I.free (by simp)
 exact I.step (g':=s.gens) (d':=s.drawn) (ch:=[]) (λ_ z=>nomatch z) (λb o _ hb _ e n=>u.keep b o e n hb (by simp)) (λb o _ hb _ e n=>u.slot b o e n hb (by simp)) (λb o _ e n=>u.free b o e n (by simp)) (λb o _ e=>u.there b o e (by simp)) u.qK u.pI u.pF (λm' hm=>by
  obtain⟨o',km,zR,pY,r'⟩:=hm;rw[ho]at pY;cases pY;exact⟨_,km,zR,hL,r'⟩) aL I.bare
theorem Inv.call{g':Array GenState}{t':Nat}{d':Drawn}{ch:List Addr}(I:Inv X p_ σ H s)(u:Un (jh X.stack) ch H H' s.heap h')(aL:f9 X.prog X.w H' h')(hg:AllBare g')
  (kj:∀b∈ch,(b∈X.ex\/X.s₀.heap.objs.size<=b)/\b≠X.env.locals/\(∀x c,X.env.cells.lookup x=some c->c≠b)/\∀p∈X.pn++p_,p.1≠b) :
  Inv X p_ σ H' { s with heap:=h',gens:=g',drawn:=d',toks:=t' }:=by
 obtain⟨m,⟨o,es,ep,ho,r⟩,_⟩:=id I.loc;obtain⟨sl,hL⟩:=u.any ho I.free λz=>(kj _ z).2.1 rfl
 exact I.step (ch:=ch) kj (λb o hL hb hc e n=>u.keep b o e n (λz=>(bR.mp (I.Dx b z)).elim hL hb) hc) (λb o _ _ hc e n=>u.any e n hc) (λb o hc e n=>u.free b o e n hc) (λb o hc e=>u.there b o e hc) u.qK u.pI u.pF (λm' hm=>by
  obtain⟨o',km,zR,pY,r'⟩:=hm;rw[ho]at pY;cases pY;exact⟨_,km,zR,hL,r'⟩) aL hg
theorem Inv.turned{t':Nat}{it:Addr}(I:Inv X p_ σ H s)(k:∀b o,b≠it->s.heap.get? b=some o->h'.get? b=some o)(hn:H it=none)(hL:it≠X.env.locals)
  (h1:it∈X.ex\/X.s₀.heap.objs.size<=it) (h2:∀x c,X.env.cells.lookup x=some c->c≠it) (h3:∀p∈X.pn++p_,p.1≠it):Inv X p_ σ H { s with heap:=h',toks:=t' }:=by
 have Wo:∀b u,H b=some u->b≠it:=λb u e z=>by rw[z,hn]at e;cases e
 refine I.step (g':=s.gens) (d':=s.drawn) (ch:=[it]) (λb hb=>?_) (λb o _ _ hc e _=>k b o (λz=>hc (by simp[z])) e) (λb o _ _ hc e _=>⟨o.slots,k b o (λz=>hc (by simp[z])) e⟩) (λ_ _ _ _ n=>n)
  (λb o hc e=>⟨o,k b o (λz=>hc (by simp[z])) e⟩) (λ_ _ e=>e) (λ_ _ _ e=>e) (λb ps e=>⟨#[],by rw[e];simp⟩) (λm hm=>?_) (λb u e=>?_) I.bare
 ·have e:b=it:=by simpa using hb
  subst e;exact⟨h1,hL,h2,h3⟩
 ·obtain⟨o,es,ep,ho,r⟩:=hm;exact⟨o,es,ep,k _ o (eT hL) ho,r⟩
 ·refine(I.aL b u e).kX (λc v hc q=>k c v ?_ q) (λ_ q=>q) λ_ _ q=>q;rcases hc with z | z
  ·rw[z];exact Wo b u e
  ·exact Wo c _ z
theorem Inv.tok(I:Inv X p_ σ H s)(t:Nat):Inv X p_ σ H { s with toks:=t }:=I.un (h':=s.heap) (t':=t) Un.refl I.aL
theorem Inv.kept{t':Nat}(I:Inv X p_ σ H s)(k:∀b u,s.heap.get? b=some u->h'.get? b=some u):Inv X p_ σ H { s with heap:=h',toks:=t' }:=I.un (Un.kept k) (I.aL.kept k)
theorem Inv.laid{a:Addr}{o:HO}{t':Nat}(I:Inv X p_ σ H s)(k:∀b u,s.heap.get? b=some u->h'.get? b=some u)(hp:s.heap.objs.size<=a)(new:eX X.prog X.w (upd H a o) h' a o) :
  Inv X p_ σ (upd H a o) { s with heap:=h',toks:=t' }:=I.un (Un.laid k hp (I.aL.fresh hp)) (I.aL.laid k hp new)
theorem Inv.write{x e:Addr}{o:HO}{t':Nat}(I:Inv X p_ σ H s)(mu:EY (H x))(he:e=x\/H e=some (.own x))(k:∀b u,b≠e->s.heap.get? b=some u->h'.get? b=some u)(zM:∃u,h'.get? e=some u)
  (new:eX X.prog X.w (upd H x o) h' x o):Inv X p_ σ (upd H x o) { s with heap:=h',toks:=t' }:=I.un (Un.write mu he k zM) (I.aL.write mu he k zM new)
theorem Inv.weak{σ':List (Option V)}(I:Inv X p_ σ H s)(hl:σ'.length=σ.length)(w:∀(i:Nat) v,σ'[i]?=some (some v)->σ[i]?=some (some v)):Inv X p_ σ' H s:=
 ⟨I.ok,I.os,I.bare,I.base,let ⟨m,hn,BY⟩:=I.loc;⟨m,hn,λi x v e1 e2 e3=>BY i x v e1 (w i v e2) e3⟩,I.cell,I.free,I.jq,I.pin,I.aL,hl.trans I.len⟩
theorem Inv.tJ{Uh:List (Addr×Obj)}(I:Inv X p_ σ H s)(h:∀p∈Uh,s.heap.get? p.1=some p.2/\H p.1=none/\p.1≠X.env.locals/\p.1∉X.fs/\∀v,p.2.data≠.cell v):Inv X Uh σ H s:=
 ⟨I.ok,I.os,I.bare,I.base,I.loc,I.cell,I.free,I.jq,λp hp=>(jH.mp hp).elim (λz=>I.pin p (nH _ z)) (h p),I.aL,I.len⟩
theorem QS{N:List Str}(hN:N.Nodup){i j:Nat}{x:Str}(a:N[i]?=some x)(b:N[j]?=some x):i=j:=by
 obtain⟨h1,e1⟩:=dC.mp a;obtain⟨h2,e2⟩:=dC.mp b;exact(List.getElem_inj hN).mp (e1.trans e2.symm)
theorem PR{M:Model}{A:Around}{E:Value->Shared->Prop}{i:Nat}{x:Str}{v:V}{u:Value}{Q:Unit->Shared->Prop}(I:Inv X p_ σ H s)(hN:X.N.Nodup)(hi:X.N[i]?=some x)(hx:Loc X.env.scope x)(r:RelV v u)
  (h:∀s',Inv X p_ (σ.set i (some v)) H s'->(∃a,gA a s.heap s'.heap/\(a=X.env.locals\/X.env.cells.lookup x=some a))->Q () s') (hf:X.fn x=true\/X.env.scope.names.lookup x=some .local:=by first | exact .inl rfl | exact .inr rfl | assumption):wpAny M A (storeName X.env x u) Q E s:=by
 obtain⟨m,hn,hl⟩:=id I.loc;have alo:(X.env.scope.kind == .class||(X.env.scope.kind == .module&&X.env.locals != X.env.globals))=false:=by rw[I.ok.kind];rfl
 have Xc:i < σ.length:=by rw[I.len];exact(dC.mp hi).1
 have wH:=I.wH
 have tracked:∀{a:Addr} {h':Heap},(∃o,s.heap.get? a=some o/\H a=none)->gA a s.heap h'->f9 X.prog X.w H h':=λ{a h'} ha hs b ob e=>by
  obtain⟨_,_,Ui⟩:=ha;refine(I.aL b ob e).kX (λc w' hc q=>(hs.2 c ?_).trans q) (λ_ q=>q) λ_ _ q=>q;rintro rfl;rcases hc with rfl | hc
  ·rw[Ui]at e;cases e
  ·rw[Ui]at hc;cases hc
 rcases hx with hk | hk
 ·refine wpAny_storeName_local hk hn (λh' BW hs=>?_) alo;obtain⟨oL,_,_,hoL,_⟩:=id hn;refine h _ ⟨I.ok,I.os,I.bare,⟨λb o e n hb hx=>?_,λb o e n hb hx=>?_,I.base.free,λb o e hx=>?_,I.base.qK,I.base.pI,I.base.pF⟩,⟨_,BW,λj y v' e1 e2 e3=>?_⟩,λy c e=>?_,I.free,I.jq,λp hp=>?_,tracked ⟨oL,hoL,I.free⟩ hs,by simpa using I.len⟩ ⟨_,hs,.inl rfl⟩
  ·exact(hs.2 b (dv (eB (bq e) I.ok.above))).trans (I.base.keep b o e n hb hx)
  ·obtain⟨sl,e1⟩:=I.base.slot b o e n hb hx;exact⟨sl,(hs.2 b (dv (eB (bq e) I.ok.above))).trans e1⟩
  ·obtain⟨o',e1⟩:=I.base.there b o e hx;exact⟨o',(hs.2 b (dv (eB (bq e) I.ok.above))).trans e1⟩
  ·by_cases hj:j=i
   ·subst hj;rw[hi]at e1;cases e1;rw[jF Xc]at e2;cases e2;exact⟨u,r,.inl ⟨hk,by simp⟩⟩
   ·rw[vm (eT hj)]at e2;obtain⟨u',r',q⟩:=hl j y v' e1 e2 e3;refine⟨u',r',?_⟩;rcases q with ⟨k,e⟩ | ⟨k,c,e,z⟩
    ·refine .inl ⟨k,?_⟩;have:y≠x:=λe=>hj (QS hN e1 (e ▸ hi));simp[this,e]
    ·exact .inr ⟨k,c,e,z.sameBut hs (wH y c e)⟩
  ·obtain⟨w',z⟩:=I.cell y c e;exact⟨w',z.sameBut hs (wH y c e)⟩
  ·obtain⟨e,n,ne,nf,d⟩:=I.pin p hp;exact⟨(hs.2 p.1 ne).trans e,n,ne,nf,d⟩
 ·have Nm:X.fn x=true:=by
   rcases hf with z | z
   ·exact z
   ·rw[z]at hk;cases hk
  obtain⟨c,hc⟩:=I.ok.has x (.inl hk);obtain⟨w',z⟩:=I.cell x c hc;refine wpAny_storeName_cell I.ok.kind hk hc z λh' nF hs=>?_;obtain⟨oc,xh,ak0⟩:=id z;refine h { s with heap:=h' } ⟨I.ok,I.os,I.bare,⟨λb o e n hb hx=>?_,λb o e n hb hx=>?_,I.base.free,λb o e hx=>?_,I.base.qK,I.base.pI,I.base.pF⟩,⟨m,hn.sameBut hs (eT (wH x c hc)),λj y v' e1 e2 e3=>?_⟩,λy c' e=>?_,I.free,I.jq,λp hp=>?_,tracked ⟨oc,xh,I.jq x c hc⟩ hs,by simpa using I.len⟩ ⟨c,hs,.inr hc⟩
  ·exact(hs.2 b (dv (eB (bq e) (I.ok.uz x c Nm hc)))).trans (I.base.keep b o e n hb hx)
  ·obtain⟨sl,e1⟩:=I.base.slot b o e n hb hx;exact⟨sl,(hs.2 b (dv (eB (bq e) (I.ok.uz x c Nm hc)))).trans e1⟩
  ·obtain⟨o',e1⟩:=I.base.there b o e hx;exact⟨o',(hs.2 b (dv (eB (bq e) (I.ok.uz x c Nm hc)))).trans e1⟩
  ·by_cases hj:j=i
   ·subst hj;rw[hi]at e1;cases e1;rw[jF Xc]at e2;cases e2;exact⟨u,r,.inr ⟨.inl hk,c,hc,nF⟩⟩
   ·rw[vm (eT hj)]at e2;obtain⟨u',r',q⟩:=hl j y v' e1 e2 e3;refine⟨u',r',?_⟩;rcases q with q | ⟨k,c',e,z'⟩
    ·exact .inl q
    ·refine .inr ⟨k,c',e,z'.sameBut hs ?_⟩;rintro rfl;exact hj (QS hN e1 (I.ok.inj _ _ _ e hc ▸ hi))
  ·by_cases Xo:c'=c
   ·subst Xo;exact⟨_,nF⟩
   ·obtain⟨w2,z2⟩:=I.cell y c' e;exact⟨w2,z2.sameBut hs Xo⟩
  ·obtain⟨e,n,ne,nf,d⟩:=I.pin p hp;refine⟨(hs.2 p.1 ?_).trans e,n,ne,nf,d⟩;intro q;rw[q,xh]at e;have q':oc=p.2:=eC e;exact d w' (by rw[<-q'];exact ak0)
theorem Qz{M:Model}{A:Around}{E:Value->Shared->Prop}{i:Nat}{x:Str}{v:V}{u:Value}{Q:Unit->Shared->Prop}(I:Inv X p_ σ H s)(hN:X.N.Nodup)(hi:X.N[i]?=some x)(hx:Loc X.env.scope x)(r:RelV v u)
  (h:∀s',Inv X p_ (σ.set i (some v)) H s'->Q () s') (hf:X.fn x=true\/X.env.scope.names.lookup x=some .local:=by first | exact .inl rfl | exact .inr rfl | assumption):wpAny M A (storeName X.env x u) Q E s:=
 PR I hN hi hx r (λs' I' _=>h s' I') hf
theorem Inv.Ua{s':Shared}{ch:List Addr}(I:Inv X p_ σ H s)(ho:s'.os=s.os)(u:Un (jh X.stack) ch H H' s.heap s'.heap)(aL:f9 X.prog X.w H' s'.heap)(hg:AllBare s'.gens)
  (kj:∀b∈ch,(b∈X.ex\/X.s₀.heap.objs.size<=b)/\b≠X.env.locals/\(∀x c,X.env.cells.lookup x=some c->c≠b)/\∀p∈X.pn++p_,p.1≠b):Inv X p_ σ H' s':=by
 obtain⟨h',g',d',t',o'⟩:=s';have e:o'=s.os:=ho;subst e;exact I.call (g':=g') (t':=t') (d':=d') u aL hg kj
end
abbrev XK:=Value->Option Addr->Hp->Prop
abbrev St:=List (Option V)
abbrev VK:=V->Hp->Prop
abbrev TE:=St->Hp->VK->Prop
abbrev TT:=St->Hp->(Bool->Hp->Prop)->Prop
abbrev TA:=St->Hp->(List V->Hp->Prop)->Prop
structure Ends where
 nx:St->Hp->Prop
 rt:VK
 bk:St->Hp->Prop:=λ_ _=>False
 ct:St->Hp->Prop:=λ_ _=>False
abbrev TS:=Ends->St->Hp->Prop
def EP(X:Cx)(p_:List (Addr×Obj))(σ:St)(Q:VK)(u:Value)(s':Shared):Prop:=∃v H',Inv X p_ σ H' s'/\RelV v u/\Q v H'
def TP(X:Cx)(p_:List (Addr×Obj))(σ:St)(Q:Bool->Hp->Prop)(b:Bool)(s':Shared):Prop:=∃H',Inv X p_ σ H' s'/\Q b H'
def AP(X:Cx)(p_:List (Addr×Obj))(σ:St)(Q:List V->Hp->Prop)(us:List Value)(s':Shared):Prop:=∃vs H',Inv X p_ σ H' s'/\Vals vs us/\Q vs H'
def SP(X:Cx)(p_:List (Addr×Obj))(D:Ends)(f:Flow)(s':Shared):Prop:=
 match f with
 | .next=>∃σ' H',Inv X p_ σ' H' s'/\D.nx σ' H'
 | .brk=>∃σ' H',Inv X p_ σ' H' s'/\D.bk σ' H'
 | .cont=>∃σ' H',Inv X p_ σ' H' s'/\D.ct σ' H'
 | .ret u=>∃v σ' H',Inv X p_ σ' H' s'/\RelV v u/\D.rt v H'
def PE(X:Cx)(e:Expr)(t:TE):Prop:=
 ∀(p_:List (Addr×Obj)) (s:Shared) (σ:St) (H:Hp) (Q:VK),Inv X p_ σ H s->t σ H Q->wpAny (model X.prog X.w) X.A (eval e X.env) (EP X p_ σ Q) X.xe s
def PT(X:Cx)(e:Expr)(t:TT):Prop:=
 ∀(p_:List (Addr×Obj)) (s:Shared) (σ:St) (H:Hp) (Q:Bool->Hp->Prop),Inv X p_ σ H s->t σ H Q->wpAny (model X.prog X.w) X.A (isTrue e X.env (eval e X.env)) (TP X p_ σ Q) X.xe s
def PW(X:Cx)(e:Expr)(t:TT):Prop:=
 ∀(whole:Sem Value) (p_:List (Addr×Obj)) (s:Shared) (σ:St) (H:Hp) (Q:Bool->Hp->Prop),Inv X p_ σ H s->t σ H Q->wpAny (model X.prog X.w) X.A (isTrue e X.env whole) (TP X p_ σ Q) X.xe s
theorem PW.pt{X:Cx}{e:Expr}{t:TT}(h:PW X e t):PT X e t:=h _
def PA(X:Cx)(es:List Expr)(t:TA):Prop:=
 ∀(pos:Pos) (p_:List (Addr×Obj)) (s:Shared) (σ:St) (H:Hp) (Q:List V->Hp->Prop),Inv X p_ σ H s->t σ H Q->wpAny (model X.prog X.w) X.A (spliced (backTo pos (cJ es X.env))) (AP X p_ σ Q) X.xe s
def PS(X:Cx)(st:Stmt)(t:TS):Prop:=
 ∀(p_:List (Addr×Obj)) (s:Shared) (σ:St) (H:Hp) (D:Ends),Inv X p_ σ H s->t D σ H->wpAny (model X.prog X.w) X.A (exec st X.env) (SP X p_ D) X.xe s
def fG(X:Cx)(st:List Stmt)(t:TS):Prop:=
 ∀(p_:List (Addr×Obj)) (s:Shared) (σ:St) (H:Hp) (D:Ends),Inv X p_ σ H s->t D σ H->wpAny (model X.prog X.w) X.A (execs st X.env) (SP X p_ D) X.xe s
theorem aV{α:Type}{t:Sem α}{Q Q':α->Shared->Prop}{M:Model}{A:Around}{E:Value->Shared->Prop}{s:Shared}(h:wpAny M A t Q E s)(hQ:∀a s,Q a s->Q' a s):wpAny M A t Q' E s:=iP h hQ λ_ _ x=>x
theorem VO{X:Cx}{p_:List (Addr×Obj)}{σ:St}{K:VK}{t:Sem Value}{Q':Value->Shared->Prop}{M:Model}{A:Around}{E:Value->Shared->Prop}{s:Shared}(h:wpAny M A t (EP X p_ σ K) E s)(k:∀v s x H,Inv X p_ σ H s->RelV x v->K x H->Q' v s):wpAny M A t Q' E s:=aV h λv s z=>dF z (k v s)
theorem thT{X:Cx}{p_:List (Addr×Obj)}{σ:St}{K:Bool->Hp->Prop}{t:Sem Bool}{Q':Bool->Shared->Prop}{M:Model}{A:Around}{E:Value->Shared->Prop}{s:Shared}(h:wpAny M A t (TP X p_ σ K) E s)(k:∀v s H,Inv X p_ σ H s->K v H->Q' v s):wpAny M A t Q' E s:=aV h λv s z=>ay z (k v s)
theorem Bz{X:Cx}{p_:List (Addr×Obj)}{σ:St}{K:List V->Hp->Prop}{t:Sem (List Value)}{Q':List Value->Shared->Prop}{M:Model}{A:Around}{E:Value->Shared->Prop}{s:Shared}(h:wpAny M A t (AP X p_ σ K) E s)(k:∀v s x H,Inv X p_ σ H s->Vals x v->K x H->Q' v s):wpAny M A t Q' E s:=aV h λv s z=>dF z (k v s)
section
variable{X:Cx}
def qL(i:Nat):TE:=λσ H Q=>∃v,σ[i]?=some (some v)/\Q v H
abbrev tC(v:V):TE:=λ_ H Q=>Q v H
theorem afR{i:Nat}{x:Str}{pos:Pos}(hN:X.N[i]?=some x)(hv:Mq X.env.scope x)(hd:(x == ("__debug__" : Str))=false:=by decide)(ib:(x == ("__classdict__" : Str))=false:=by decide):PE X (.Name x pos) (qL i):=by
 intro p_ s σ H Q I h;obtain⟨v,e,h⟩:=h;obtain⟨m,hn,hl⟩:=I.loc;obtain⟨u,r,l⟩:=hl i x v hN e hv;have fin:EP X p_ σ Q u s:=⟨v,H,I,r,h⟩;rcases l with ⟨hk,hm⟩ | ⟨hk,c,hc,sA⟩
 ·exact wpAny_Name (wpAny_loadName_local I.ok.kind hk hn hm fin) hd
 ·rcases hk with hk | hk
  ·exact wpAny_Name (wpAny_loadName_cell I.ok.kind hk hc sA fin) hd
  ·exact wpAny_Name (wpAny_loadName_free I.ok.kind hk hc sA fin ib) hd
theorem aw{i j pos}:PE X (.Constant (.int i) j pos) (tC (.int i)):=λ_ _ _ H _ I h=>wpAny_Constant_int ⟨.int i,H,I.tok _,⟨_,rfl⟩,h⟩
theorem g9{b j pos}:PE X (.Constant (.bool b) j pos) (tC (.bl b)):=λ_ _ _ H _ I h=>Constant_bool ⟨.bl b,H,I,rfl,h⟩
theorem kz{j pos}:PE X (.Constant .none j pos) (tC .aE):=λ_ _ _ H _ I h=>Constant_none ⟨.aE,H,I,rfl,h⟩
theorem cV{x j pos}:PE X (.Constant (.str x) j pos) (tC (.str x)):=λ_ _ _ H _ I h=>Calls.Constant_str ⟨.str x,H,I.tok _,⟨_,rfl⟩,h⟩
def Gl(X:Cx)(x:Str):Prop:=X.env.kindOf x=some .globalImplicit
theorem ym{E:Value->Shared->Prop}{p_:List (Addr×Obj)}{s:Shared}{σ:St}{H:Hp}{x:Str}{u:Value}{pos:Pos}{Q:Value->Shared->Prop}(I:Inv X p_ σ H s)(hg:Gl X x)(hm:X.mg x=some u)(h:Q u s)
  (hd:(x == ("__debug__" : Str))=false:=by decide):wpAny (model X.prog X.w) X.A (eval (.Name x pos) X.env) Q E s:=
 Yu I.ok.kind hg (Calls.loadGlobal_global (by rw[I.ok.glob];exact I.mod.glob.keeps I.bk) hm h) hd
theorem vJ{E:Value->Shared->Prop}{p_:List (Addr×Obj)}{s:Shared}{σ:St}{H:Hp}{x:Str}{u:Value}{pos:Pos}{Q:Value->Shared->Prop}(I:Inv X p_ σ H s)(hg:Gl X x)(hm:X.mg x=none)(hv:rW x=some u)(h:Q u s)
  (hn:x ≠ "__name__":=by decide) (hd:(x == ("__debug__" : Str))=false:=by decide):wpAny (model X.prog X.w) X.A (eval (.Name x pos) X.env) Q E s:=by
 obtain⟨mb,h1,h2⟩:=I.mod.blt;exact Yu I.ok.kind hg (Calls.loadGlobal_builtin (by rw[I.ok.glob];exact I.mod.glob.keeps I.bk) hm (by rw[I.ok.blt];exact h1.keeps I.bk) ((h2 x hn).trans hv) h) hd
theorem eE{x:Str}{v:V}{u:Value}{pos:Pos}(hg:Gl X x)(hm:X.mg x=some u)(r:RelV v u)(hd:(x == ("__debug__" : Str))=false:=by decide):PE X (.Name x pos) (tC v):=
 λ_ _ _ H _ I h=>ym I hg hm ⟨v,H,I,r,h⟩ hd
theorem mq{x:Str}{v:V}{u:Value}{pos:Pos}(hg:Gl X x)(hm:X.mg x=none)(hv:rW x=some u)(r:RelV v u)(hn:x ≠ "__name__":=by decide)(hd:(x == ("__debug__" : Str))=false:=by decide):PE X (.Name x pos) (tC v):=
 λ_ _ _ H _ I h=>vJ I hg hm hv ⟨v,H,I,r,h⟩ hn hd
variable{a b:Expr}{ta tb:TE}{pos:Pos}
def tB(t:TE):TT:=λσ H Q=>t σ H λx H1=>∃c,x=.bl c/\Q c H1
theorem dD{e:Expr}{t:TE}(h:PE X e t)(he:∀whole,isTrue e X.env whole=(do let v <-whole;standAt e.pos;holding [v] (truthy v)):=by intro _;rfl):PT X e (tB t):=by
 intro p_ s σ H Q I hw;refine isTrue_plain (aV (h p_ s σ H _ I hw) λv s1 ⟨x,H1,I1,r1,q1⟩=>?_) (he _);obtain⟨d,rfl,q⟩:=q1;cases r1;exact rJ ⟨H1,I1,q⟩
variable{tA E2:TT}{rest:List Expr}
def ajX(t u:TT):TT:=λσ H Q=>t σ H λc H1=>if c=true then u σ H1 Q else Q false H1
def tOr(t u:TT):TT:=λσ H Q=>t σ H λc H1=>if c=true then Q true H1 else u σ H1 Q
def ajT(t:TT):TT:=λσ H Q=>t σ H λc H1=>Q (!c) H1
theorem pw_and1(ha:PT X a tA):PW X (.BoolOp .And [a] pos) tA:=by
 intro wh p_ s σ H Q I h;refine isTrue_and (aV (ha p_ s σ H Q I h) λc s1 e=>?_);cases c with
 | true=>exact isTrue_and_nil e
 | false=>exact e
theorem pw_or1(ha:PT X a tA):PW X (.BoolOp .Or [a] pos) tA:=by
 intro wh p_ s σ H Q I h;refine isTrue_or (aV (ha p_ s σ H Q I h) λc s1 e=>?_);cases c with
 | false=>exact isTrue_or_nil e
 | true=>exact e
theorem pw_and(ha:PT X a tA)(hb:PW X (.BoolOp .And (b::rest) pos) E2):PW X (.BoolOp .And (a::b::rest) pos) (ajX tA E2):=by
 intro wh p_ s σ H Q I h;refine isTrue_and (aV (ha p_ s σ H _ I h) λc s1 ⟨H1,I1,q1⟩=>?_);cases c with
 | true=>exact hb wh p_ s1 σ H1 Q I1 q1
 | false=>exact⟨H1,I1,q1⟩
theorem pw_or(ha:PT X a tA)(hb:PW X (.BoolOp .Or (b::rest) pos) E2):PW X (.BoolOp .Or (a::b::rest) pos) (tOr tA E2):=by
 intro wh p_ s σ H Q I h;refine isTrue_or (aV (ha p_ s σ H _ I h) λc s1 ⟨H1,I1,q1⟩=>?_);cases c with
 | true=>exact⟨H1,I1,q1⟩
 | false=>exact hb wh p_ s1 σ H1 Q I1 q1
theorem iV(ha:PT X a tA):PT X (.UnaryOp .Not a pos) (ajT tA):=by
 intro p_ s σ H Q I h;exact isTrue_not (ha p_ s σ H (λc H1=>Q (!c) H1) I h)
def ahl(ta tb:TE):TE:=λσ H Q=>ta σ H λx H1=>∃c,x=.bl c/\if c=true then tb σ H1 Q else Q (.bl false) H1
def ajS(ta tb:TE):TE:=λσ H Q=>ta σ H λx H1=>∃c,x=.bl c/\if c=true then Q (.bl true) H1 else tb σ H1 Q
def ahf(ta:TE):TE:=λσ H Q=>ta σ H λx H1=>∃c,x=.bl c/\Q (.bl (!c)) H1
theorem tU{op}{t:TE}(h:PE X a t):PE X (.BoolOp op [a] pos) t:=λp_ s σ H Q I hw=>BoolOp_one (h p_ s σ H Q I hw)
theorem sf(ha:PE X a ta)(hb:PE X (.BoolOp .And (b::rest) pos) tb):PE X (.BoolOp .And (a::b::rest) pos) (ahl ta tb):=by
 intro p_ s σ H Q I h;refine BoolOp_and (aV (ha p_ s σ H _ I h) λv s1 ⟨x,H1,I1,r1,q1⟩=>?_);obtain⟨c,rfl,q1⟩:=q1;cases r1;refine rJ ?_;cases c with
 | true=>exact hb p_ s1 σ H1 Q I1 q1
 | false=>exact⟨.bl false,H1,I1,rfl,q1⟩
theorem ahx(ha:PE X a ta)(hb:PE X (.BoolOp .Or (b::rest) pos) tb):PE X (.BoolOp .Or (a::b::rest) pos) (ajS ta tb):=by
 intro p_ s σ H Q I h;refine BoolOp_or (aV (ha p_ s σ H _ I h) λv s1 ⟨x,H1,I1,r1,q1⟩=>?_);obtain⟨c,rfl,q1⟩:=q1;cases r1;refine rJ ?_;cases c with
 | false=>exact hb p_ s1 σ H1 Q I1 q1
 | true=>exact⟨.bl true,H1,I1,rfl,q1⟩
theorem JV(ha:PE X a ta):PE X (.UnaryOp .Not a pos) (ahf ta):=by
 intro p_ s σ H Q I h;refine UnaryOp_ (aV (ha p_ s σ H _ I h) λv s1 ⟨x,H1,I1,r1,q1⟩=>?_);obtain⟨c,rfl,q1⟩:=q1;cases r1;exact not_of (rJ ⟨.bl (!c),H1,I1,rfl,q1⟩)
def tIf(t:TT)(ta tb:TE):TE:=λσ H Q=>t σ H λc H1=>if c=true then ta σ H1 Q else tb σ H1 Q
theorem Iy{c:Expr}(hc:PT X c tA)(ha:PE X a ta)(hb:PE X b tb):PE X (.IfExp c a b pos) (tIf tA ta tb):=by
 intro p_ s σ H Q I h;refine wpAny_IfExp (aV (hc p_ s σ H _ I h) λd s1 ⟨H1,I1,q1⟩=>?_);cases d with
 | true=>exact ha p_ s1 σ H1 Q I1 q1
 | false=>exact hb p_ s1 σ H1 Q I1 q1
end
def aq(K:PySem.W.Frag)(H:Hp)(a:Addr)(xs:List V):Prop:=
 Rd H a (.lst xs)\/
  ∃(o:Obj) (aj:Array Value) (n:Nat),K.lookup a=some o/\o.cls=.type "list"/\o.dict=none/\o.data=.seq aj n/\aj.size<=bN/\Vals xs aj.toList
def ar(K:PySem.W.Frag)(H:Hp)(a:Addr)(xs:List V):Prop:=
 Rd H a (.tup xs)\/
  ∃(o:Obj) (aj:Array Value) (n:Nat),K.lookup a=some o/\o.cls=.type "tuple"/\o.data=.seq aj n/\aj.size<=bN/\Vals xs aj.toList
def aks:Value->Option V
 | .none=>some .aE
 | .bool b=>some (.bl b)
 | .int i _=>some (.int i)
 | .str x _=>some (.str x)
 | .bytes b _=>some (.oG b)
 | .float b _=>some (.qV b)
 | .ref a=>some (.ref a)
 | .type n=>some (.ty n)
 | _=>none
theorem RelV.abs{x:V}{u:Value}(r:RelV x u):aks u=some x:=by
 cases x with
 | aE=>cases r;rfl
 | bl _=>cases r;rfl
 | int _=>obtain⟨t,rfl⟩:=r;rfl
 | str _=>obtain⟨t,rfl⟩:=r;rfl
 | oG _=>obtain⟨t,rfl⟩:=r;rfl
 | qV _=>obtain⟨t,rfl⟩:=r;rfl
 | ref _=>cases r;rfl
 | ty _=>cases r;rfl
theorem RelV.inj{x y:V}{u:Value}(r:RelV x u)(q:RelV y u):x=y:=eC (r.abs.symm.trans q.abs)
theorem Vals.inj:∀{xs ys:List V} {us:List Value},Vals xs us->Vals ys us->xs=ys
 | _,_,_,.nil,.nil=>rfl
 | _,_,_,.cons r t,.cons r' t'=>by rw[r.inj r',Vals.inj t t']
section
variable{X:Cx}{p_:List (Addr×Obj)}{σ:St}{H:Hp}{s:Shared}{a:Addr}{xs ys:List V}
theorem aq.of{K:PySem.W.Frag}(h:H a=some (.lst xs)):aq K H a xs:=.inl (.inl h)
theorem ar.of{K:PySem.W.Frag}(h:H a=some (.tup xs)):ar K H a xs:=.inl (.inl h)
theorem Inv.list(I:Inv X p_ σ H s)(h:aq X.K H a xs):∃aj:List Value,Vals xs aj/\PlainL s.heap a aj.toArray/\xs.length<=bN:=by
 rcases h with h | ⟨o,aj,n,hk,hc,hd,hs,hz,r⟩
 ·obtain⟨z,aj,n,r,e⟩:=h.ok I.aL;exact⟨aj,r,⟨_,n,e,rfl,rfl,rfl⟩,z⟩
 ·refine⟨aj.toList,r,⟨o,n,I.cR a o hk,hc,hd,by simpa using hs⟩,?_⟩;have e:=r.length;simp only[kr]at e;omega
theorem Inv.tuple(I:Inv X p_ σ H s)(h:ar X.K H a xs):∃aj:List Value,Vals xs aj/\IsTup s.heap a aj.toArray/\xs.length<=bN:=by
 rcases h with h | ⟨o,aj,n,hk,hc,hs,hz,r⟩
 ·obtain⟨z,aj,r,p⟩:=h.ok I.aL;exact⟨aj,r,p,z⟩
 ·refine⟨aj.toList,r,⟨o,I.cR a o hk,hc,n,by simpa using hs⟩,?_⟩;have e:=r.length;simp only[kr]at e;omega
theorem Inv.QV(I:Inv X p_ σ H s)(h:aq X.K H a xs)(h':aq X.K H a ys):xs=ys:=by
 obtain⟨aj,r,⟨o,n,e,_,_,d⟩,_⟩:=I.list h;obtain⟨k8,r',⟨o',n',e',_,_,d'⟩,_⟩:=I.list h';rw[e]at e';cases e';rw[d]at d';injection d' with d1 _
 have:aj=k8:=by simpa using congrArg Array.toList d1
 subst this;exact r.inj r'
theorem Inv.PQ(I:Inv X p_ σ H s)(h:ar X.K H a xs)(h':ar X.K H a ys):xs=ys:=by
 obtain⟨aj,r,⟨o,e,_,n,d⟩,_⟩:=I.tuple h;obtain⟨k8,r',⟨o',e',_,n',d'⟩,_⟩:=I.tuple h';rw[e]at e';cases e';rw[d]at d';injection d' with d1 _
 have:aj=k8:=by simpa using congrArg Array.toList d1
 subst this;exact r.inj r'
end
abbrev Cx.qJ(X:Cx)(E:Value->Shared->Prop):Cx:={ X with xe:=E }
abbrev Cx.uv(X:Cx):Cx:=X.qJ λ_ _=>False
theorem Cx.Ok.qJ{X:Cx}(ok:X.Ok)(E:Value->Shared->Prop):(X.qJ E).Ok:=
 ⟨ok.mod,ok.kind,ok.glob,ok.blt,ok.above,ok.inj,ok.has,ok.uz,ok.hd,ok.frames,ok.wx,ok.sM,ok.bs,ok.lg,ok.ug,ok.sE,ok.kY,ok.qU⟩
theorem Cx.Ok.tQ{X:Cx}{E:Value->Shared->Prop}(ok:(X.qJ E).Ok):X.Ok:=
 ⟨ok.mod,ok.kind,ok.glob,ok.blt,ok.above,ok.inj,ok.has,ok.uz,ok.hd,ok.frames,ok.wx,ok.sM,ok.bs,ok.lg,ok.ug,ok.sE,ok.kY,ok.qU⟩
section
variable{X:Cx}{p_:List (Addr×Obj)}{σ:St}{H:Hp}{s:Shared}{E:Value->Shared->Prop}
theorem Inv.qJ(I:Inv X p_ σ H s)(E:Value->Shared->Prop):Inv (X.qJ E) p_ σ H s:=⟨I.ok.qJ E,I.os,I.bare,I.base,I.loc,I.cell,I.free,I.jq,I.pin,I.aL,I.len⟩
theorem Inv.tQ(I:Inv (X.qJ E) p_ σ H s):Inv X p_ σ H s:=⟨I.ok.tQ,I.os,I.bare,I.base,I.loc,I.cell,I.free,I.jq,I.pin,I.aL,I.len⟩
theorem SP.tQ{D:Ends}{f:Flow}{s':Shared}(h:SP (X.qJ E) p_ D f s'):SP X p_ D f s':=by
 cases f with
 | next=>obtain⟨σ',H',I,q⟩:=h;exact⟨σ',H',I.tQ,q⟩
 | brk=>obtain⟨σ',H',I,q⟩:=h;exact⟨σ',H',I.tQ,q⟩
 | cont=>obtain⟨σ',H',I,q⟩:=h;exact⟨σ',H',I.tQ,q⟩
 | ret u=>obtain⟨v,σ',H',I,r,q⟩:=h;exact⟨v,σ',H',I.tQ,r,q⟩
theorem fG.uv{st:List Stmt}{t:TS}(h:fG X.uv st t):fG X st t:=λp_ s σ H D I hw=>
 iP (h p_ s σ H D (I.qJ _) hw) (λ_ _ q=>q.tQ) λ_ _ z=>lH z
end
section
variable{X:Cx}{st:Stmt}{rest:List Stmt}{t u:TS}{e:Expr}{te:TE}{pos:Pos}
abbrev ahg:TS:=λD σ H=>D.nx σ H
abbrev ajQ(t u:TS):TS:=λD σ H=>t { D with nx:=u D } σ H
theorem cq:fG X [] ahg:=λ_ _ σ H _ I h=>Cr ⟨σ,H,I,h⟩
theorem aA(h1:PS X st t)(h2:fG X rest u):fG X (st::rest) (ajQ t u):=by
 intro p_ s σ H D I h;refine wpAny_execs_cons (aV (h1 p_ s σ H { D with nx:=u D } I h) λf s1 q=>?_);cases f with
 | next=>
  obtain⟨σ',H',I',q⟩:=q;exact h2 p_ s1 σ' H' D I' q
 | ret v=>exact q
 | brk=>exact q
 | cont=>exact q
theorem ax(h1:PS X st t):fG X [st] t:=by
 intro p_ s σ H D I h;refine wpAny_execs_cons (aV (h1 p_ s σ H D I h) λf s1 q=>?_);cases f with
 | next=>exact Cr q
 | ret v=>exact q
 | brk=>exact q
 | cont=>exact q
theorem Inv.quiet{p_:List (Addr×Obj)}{σ:St}{H:Hp}{s:Shared}(I:Inv X p_ σ H s):interactive X.env=false:=by simp[interactive,I.ok.kind]
abbrev ahi(te:TE):TS:=λD σ H=>te σ H λ_ H1=>D.nx σ H1
theorem gg(he:PE X e te)(hs:HS e none pos.line X.env=pure false:=by rfl):PS X (.Expr e pos) (ahi te):=by
 intro p_ s σ H D I h;exact wpAny_Expr_any (aV (he p_ s σ H _ I h) λv s1 ⟨x,H1,I1,r1,q1⟩=>⟨σ,H1,I1,q1⟩) I.quiet hs
abbrev ajR(te:TE):TS:=λD σ H=>te σ H D.rt
theorem aS(he:PE X e te):PS X (.Return (some e) pos) (ajR te):=by
 intro p_ s σ H D I h;exact wpAny_Return_some (aV (he p_ s σ H _ I h) λv s1 ⟨x,H1,I1,r1,q1⟩=>⟨x,σ,H1,I1,r1,q1⟩)
abbrev ajV(c:TT)(t u:TS):TS:=λD σ H=>c σ H λb H1=>if b=true then t D σ H1 else u D σ H1
theorem bQ{c:Expr}{a b:List Stmt}{tc:TT}(hc:PT X c tc)(ha:fG X a t)(hb:fG X b u):PS X (.If c a b pos) (ajV tc t u):=by
 intro p_ s σ H D I h;refine wpAny_If (aV (hc p_ s σ H _ I h) λd s1 ⟨H1,I1,q1⟩=>?_);cases d with
 | true=>exact ha p_ s1 σ H1 D I1 q1
 | false=>exact hb p_ s1 σ H1 D I1 q1
def afx:TS:=λ_ _ _=>False
theorem yb{sts:List Stmt}:fG X sts afx:=λ_ _ _ _ _ _ h=>h.elim
end
abbrev TG:=V->St->Hp->(St->Hp->Prop)->Prop
abbrev wL:=List V->St->Hp->(St->Hp->Prop)->Prop
def PG(X:Cx)(target:Expr)(t:TG):Prop:=
 ∀(p_:List (Addr×Obj)) (s:Shared) (σ:St) (H:Hp) (v:V) (u:Value) (Q:St->Hp->Prop),Inv X p_ σ H s->RelV v u->t v σ H Q->
  wpAny (model X.prog X.w) X.A (assign target X.env u) (λ_ s'=>∃σ' H',Inv X p_ σ' H' s'/\Q σ' H') X.xe s
def EX(X:Cx)(ts:List Expr)(t:wL):Prop:=
 ∀(p_:List (Addr×Obj)) (s:Shared) (σ:St) (H:Hp) (vs:List V) (us:List Value) (Q:St->Hp->Prop),Inv X p_ σ H s->Vals vs us->t vs σ H Q->
  wpAny (model X.prog X.w) X.A (assignInOrder ((Ar ts X.env).map (·.2)) us) (λ_ s'=>∃σ' H',Inv X p_ σ' H' s'/\Q σ' H') X.xe s
abbrev Bu:=V->V->V->Hp->(Hp->Prop)->Prop
def LJ(X:Cx)(t:Bu):Prop:=
 ∀(p_:List (Addr×Obj)) (s:Shared) (σ:St) (H:Hp) (o i v:V) (ov iv u:Value) (Q:Hp->Prop),Inv X p_ σ H s->RelV o ov->RelV i iv->RelV v u->t o i v H Q->
  wpAny (model X.prog X.w) X.A (setItem ov iv u) (λ_ s'=>∃H',Inv X p_ σ H' s'/\Q H') X.xe s
abbrev EU:=V->V->Hp->VK->Prop
def VY(X:Cx)(op:Operator)(t:EU):Prop:=
 ∀(p_:List (Addr×Obj)) (s:Shared) (σ:St) (H:Hp) (x y:V) (v u:Value) (Q:VK),Inv X p_ σ H s->RelV x v->RelV y u->t x y H Q->
  wpAny (model X.prog X.w) X.A (inplaceOp op v u) (EP X p_ σ Q) X.xe s
section
variable{X:Cx}{pos:Pos}
abbrev iX(i:Nat):TG:=λv σ H Q=>Q (σ.set i (some v)) H
theorem br{i:Nat}{x:Str}(hN:X.N.Nodup)(hi:X.N[i]?=some x)(hx:Loc X.env.scope x)(hf:X.fn x=true\/X.env.scope.names.lookup x=some .local:=by first | exact .inl rfl | exact .inr rfl | assumption):PG X (.Name x pos) (iX i):=by
 intro p_ s σ H v u Q I r h;exact wpAny_assign_Name (Qz I hN hi hx r (λs' I'=>⟨_,H,I',h⟩) hf)
def UZ:wL:=λvs σ H Q=>vs=[]/\Q σ H
def KP(t:TG)(u:wL):wL:=λvs σ H Q=>∃v r,vs=v::r/\t v σ H λσ' H'=>u r σ' H' Q
theorem nO:EX X [] UZ:=by
 intro p_ s σ H vs us Q I r h;obtain⟨e,h⟩:=h;subst e;cases r;exact assignInOrder_nil ⟨σ,H,I,h⟩
theorem gH{e:Expr}{es:List Expr}{t:TG}{u:wL}(h1:PG X e t)(h2:EX X es u)
  (hs:(Ar (e::es) X.env).map (·.2)=assign e X.env::(Ar es X.env).map (·.2):=by rfl):EX X (e::es) (KP t u):=by
 intro p_ s σ H vs us Q I r h;obtain⟨v,vr,e1,h⟩:=h;subst e1;cases r with
 | cons r rr=>
  rw[hs];refine assignInOrder_cons (aV (h1 p_ s σ H _ _ _ I r h) λ_ s1 ⟨σ1,H1,I1,q1⟩=>?_);exact h2 p_ s1 σ1 H1 _ _ Q I1 rr q1
def UY(K:PySem.W.Frag)(n:Nat)(t:wL):TG:=λv σ H Q=>∃a xs,v=.ref a/\ar K H a xs/\xs.length=n/\t xs σ H Q
theorem nQ{es:List Expr}{k:Nat}{t:wL}{n:Nat}(hc:X.calm=true)(h:EX X es t)
  (hn:(Ar es X.env).length=n:=by rfl) (cX:(Ar es X.env).findIdx? (·.1)=none:=by rfl):PG X (.Tuple es k pos) (UY X.K n t):=by
 intro p_ s σ H v u Q I r hw;obtain⟨a,xs,e1,hq,hl,hw⟩:=hw;subst e1;cases r;obtain⟨aj,rv,ht,hz⟩:=I.tuple hq;refine assign_Tuple_tuple (I.ok.hd hc) ht (by simp[hn,<-hl,rv.length]) cX λh' hx=>?_;have I1:Inv X p_ σ H { s with heap:=h' }:=I.kept (t':=s.toks) λb o e=>hx b o (dv (bq e)) e;exact h p_ _ σ H xs _ Q I1 (by simpa using rv) hw
def ako(to ti:TE)(t:Bu):TG:=λv σ H Q=>to σ H λo H1=>ti σ H1 λi H2=>t o i v H2 λH3=>Q σ H3
theorem qy{o i:Expr}{to ti:TE}{t:Bu}(ho:PE X o to)(hi:PE X i ti)(hs:LJ X t)
  (ha:∀v,assign (.Subscript o i pos) X.env v=(do
   let ov <-holding [v] (eval o X.env)
   let iv <-holding [v,ov] (eval i X.env)
   standAt pos
   holding [v,ov,iv] (setItem ov iv v)
   release [v,ov,iv] []):=by intro _;rfl):PG X (.Subscript o i pos) (ako to ti t):=by
 intro p_ s σ H v u Q I r h;rw[ha];refine ag (lD (aV (ho p_ s σ H _ I h) λov s1 ⟨x,H1,I1,r1,q1⟩=>?_));refine ag (lD (aV (hi p_ s1 σ H1 _ I1 q1) λiv s2 ⟨y,H2,I2,r2,q2⟩=>?_));refine ag (Cw (ag (lD (aV (hs p_ s2 σ H2 x y v ov iv u _ I2 r1 r2 r q2) λ_ s3 ⟨H3,I3,q3⟩=>?_))));exact wpAny_release ⟨σ,H3,I3,q3⟩
abbrev Lj(te:TE)(g:TG):TS:=λD σ H=>te σ H λx H1=>g x σ H1 D.nx
theorem qw{tg e:Expr}{te:TE}{g:TG}(he:PE X e te)(hg:PG X tg g)(hs:swapsWithSole [tg] e pos.line X.env=pure false:=by rfl)(hw:swappedStores [tg] e X.env=pure none:=by rfl)
  (h1:(Ar [tg] X.env).map (·.2)=[assign tg X.env]:=by rfl):PS X (.Assign [tg] e pos) (Lj te g):=by
 intro p_ s σ H D I h;refine wpAny_Assign_stores (aV (he p_ s σ H _ I h) λv s1 ⟨x,H1,I1,r1,q1⟩=>?_) hs hw;rw[h1];exact aV (hg p_ s1 σ H1 x v _ I1 r1 q1) λ_ s2 q=>q
theorem cC{i:Nat}{x:Str}{e:Expr}{te:TE}{pos':Pos}(hN:X.N.Nodup)(hi:X.N[i]?=some x)(hx:Loc X.env.scope x)(he:PE X e te)(hs:HS e (some (.Name x pos')) pos.line X.env=pure false:=by rfl)(hf:X.fn x=true\/X.env.scope.names.lookup x=some .local:=by first | exact .inl rfl | exact .inr rfl | assumption) :
  PS X (.Assign [.Name x pos'] e pos) (Lj te (iX i)):=by
 intro p_ s σ H D I h;refine wpAny_Assign_Name (aV (he p_ s σ H _ I h) λv s1 ⟨y,H1,I1,r1,q1⟩=>?_) hs;exact Qz I1 hN hi hx r1 (λs2 I2=>⟨_,H1,I2,q1⟩) hf
def ahk(to ti te:TE)(En:V->V->Hp->VK->Prop)(E1:EU)(Em:Bu):TS:=λD σ H=>to σ H λo H1=>ti σ H1 λi H2=>En o i H2 λx H3=>te σ H3 λy H4=>E1 x y H4 λz H5=>Em o i z H5 λH6=>D.nx σ H6
def U7(X:Cx)(t:V->V->Hp->VK->Prop):Prop:=
 ∀(p_:List (Addr×Obj)) (s:Shared) (σ:St) (H:Hp) (o i:V) (ov iv:Value) (Q:VK),Inv X p_ σ H s->RelV o ov->RelV i iv->t o i H Q->
  wpAny (model X.prog X.w) X.A (getItem ov iv) (EP X p_ σ Q) X.xe s
theorem aer{o i e:Expr}{to ti te:TE}{En:V->V->Hp->VK->Prop}{E1:EU}{Em:Bu}{op:Operator}{v9:Pos}(ho:PE X o to)(hi:PE X i ti)(hg:U7 X En)(he:PE X e te)(hp:VY X op E1)(hs:LJ X Em)
  (ha:∀ov iv new,augStore i ov iv new=(do holding [new,ov,iv] (setItem ov iv new);release [new,ov,iv] [];pure .next):=by intros;rfl):PS X (.AugAssign (.Subscript o i v9) op e pos) (ahk to ti te En E1 Em):=by
 intro p_ s σ H D I h;refine wpAny_AugAssign_SubscriptAny (aV (ho p_ s σ H _ I h) λov s1 ⟨x1,H1,I1,r1,q1⟩=>?_) ha;refine aV (hi p_ s1 σ H1 _ I1 q1) λiv s2 ⟨x2,H2,I2,r2,q2⟩=>?_;refine aV (hg p_ s2 σ H2 x1 x2 ov iv _ I2 r1 r2 q2) λold s3 ⟨x3,H3,I3,r3,q3⟩=>?_;refine aV (he p_ s3 σ H3 _ I3 q3) λv s4 ⟨x4,H4,I4,r4,q4⟩=>?_;refine aV (hp p_ s4 σ H4 x3 x4 old v _ I4 r3 r4 q4) λnew s5 ⟨x5,H5,I5,r5,q5⟩=>?_;exact aV (hs p_ s5 σ H5 x1 x2 x5 ov iv new _ I5 r1 r2 r5 q5) λ_ s6 ⟨H6,I6,q6⟩=>⟨σ,H6,I6,q6⟩
def ipI(f:Int->Int->Int):EU:=λx y H Q=>∃i j,x=.int i/\y=.int j/\Q (.int (f i j)) H
theorem agl:VY X .Add (ipI λi j=>i+j):=by
 intro p_ s σ H x y v u Q I r1 r2 h;obtain⟨i,j,e1,e2,q⟩:=h;subst e1;subst e2;obtain⟨t,rfl⟩:=r1;obtain⟨t',rfl⟩:=r2;exact iadd_int ⟨.int _,H,I.tok _,⟨_,rfl⟩,q⟩
end
section
variable{X:Cx}{pos:Pos}
def Sh(c:TT)(tb:TS):TS:=λD σ H=>∃W:Nat->St->Hp->Prop,(∃m,W m σ H)/\∀m σ H,W m σ H->
 c σ H λb H1=>if b=true then ∃N:St->Hp->Prop,(∀σ' H',N σ' H'->∃m',m'<m/\W m' σ' H')/\tb { D with nx:=N,ct:=N,bk:=D.nx } σ H1 else D.nx σ H1
theorem acy{c:Expr}{body:List Stmt}{tc:TT}{tb:TS}(hp:fj (model X.prog X.w) X.A X.env X.xe)(hc:PT X c tc)(hb:fG X body tb):PS X (.While c body [] pos) (Sh tc tb):=by
 intro p_ s σ H D I h;obtain⟨W,⟨m0,w0⟩,turn⟩:=h;refine wpAny_While (codeAny_whileLoop (λn s'=>∃σ' H',Inv X p_ σ' H' s'/\W n σ' H') ?_ m0 ⟨σ,H,I,w0⟩);rintro n s1 ⟨σ1,H1,I1,w1⟩;refine xG hp (aV (hc p_ s1 σ1 H1 _ I1 (turn n σ1 H1 w1)) λb s2 ⟨H2,I2,q2⟩=>?_);cases b with
 | true=>
  obtain⟨N,hN,q2⟩:=q2;rw[if_pos rfl];refine xG hp (aV (hb p_ s2 σ1 H2 _ I2 q2) λf s3 q3=>?_);cases f with
  | next=>
   obtain⟨σ3,H3,I3,n3⟩:=q3;obtain⟨m',hm,w3⟩:=hN σ3 H3 n3;exact⟨m',hm,σ3,H3,I3,w3⟩
  | cont=>
   obtain⟨σ3,H3,I3,n3⟩:=q3;obtain⟨m',hm,w3⟩:=hN σ3 H3 n3;exact⟨m',hm,σ3,H3,I3,w3⟩
  | brk=>exact q3
  | ret v=>exact q3
 | false=>
  rw[if_neg dg];exact Cr ⟨σ1,H2,I2,q2⟩
end
structure It where
 go:Nat->Hp->Prop
 uq:Nat->Hp->V->Hp->Prop
 stop:Nat->Hp->Prop
def fu(X:Cx)(p_:List (Addr×Obj))(H:Hp)(b:Addr):Prop:=
 H b=none/\b≠X.env.locals/\b∉X.fs/\(b∈X.ex\/X.s₀.heap.objs.size<=b)/\(∀x c,X.env.cells.lookup x=some c->c≠b)/\∀p∈X.pn++p_,p.1≠b
theorem Inv.iE{X:Cx}{p_:List (Addr×Obj)}{σ:St}{H H':Hp}{s:Shared}{b:Addr}(I:Inv X p_ σ H s)(hb:s.heap.objs.size<=b)(hn:H' b=none):fu X p_ H' b:=by
 refine⟨hn,qf (eB I.lt hb),I.US hb,.inr (cZ I.sz hb),λx c e z=>?_,λp hp z=>?_⟩
 ·obtain⟨v,q⟩:=I.cell x c e;exact absurd (eB q.lt (by rw[z];exact hb)) (iH _)
 ·exact absurd (eB (bq (I.pin p hp).1) (by rw[z];exact hb)) (iH _)
structure Turn(P:Program)(w:World)(K:PySem.W.Frag)(tg:Expr)(J:It)(fp:List Addr)(it:Addr)(tn:Nat->Heap->Prop):Prop where
 mem:it∈fp
 obj:∀i h,tn i h->∀b∈fp,∃o,h.get? b=some o/\∀v,o.data≠.cell v
 keep:∀i h h',tn i h->(∀b∈fp,∀o,h.get? b=some o->h'.get? b=some o)->tn i h'
 item:∀(X:Cx),X.prog=P->X.w=w->X.K=K->X.calm=true->∀(i:Nat) (p_:List (Addr×Obj)) (s:Shared) (σ:St) (H:Hp) (E:Value->Shared->Prop),Inv X p_ σ H s->(∀b∈fp,fu X p_ H b)->tn i s.heap->J.go i H->
  wpAny (model P w) X.A (pyNext (.ref it)) (λr s1=>∃u,r=some u/\
   wpAny (model P w) X.A (Gq tg (.ref it) u) (λ_ s2=>∃x H',Inv X p_ σ H' s2/\RelV x u/\J.uq i H x H'/\tn (i+1) s2.heap/\∀b∈fp,H' b=none) E s1) E s
 done:∀(X:Cx),X.prog=P->X.w=w->X.K=K->X.calm=true->∀(i:Nat) (p_:List (Addr×Obj)) (s:Shared) (σ:St) (H:Hp) (E:Value->Shared->Prop),Inv X p_ σ H s->(∀b∈fp,fu X p_ H b)->tn i s.heap->J.stop i H->
  wpAny (model P w) X.A (pyNext (.ref it)) (λr s1=>r=none/\Inv X p_ σ H s1) E s
 self:∀(A:Around) (i:Nat) (s:Shared) (Q:Value->Shared->Prop) (E:Value->Shared->Prop),tn i s.heap->Q (.ref it) s->wpAny (model P w) A (pyIter (.ref it)) Q E s
abbrev TI:=St->Hp->(It->Hp->Prop)->Prop
def VZ(X:Cx)(p_:List (Addr×Obj))(σ:St)(tg:Expr)(R:It->Hp->Prop)(Fj:Value)(s2:Shared):Prop:=
 ∃(it:Addr) (fp:List Addr) (tn:Nat->Heap->Prop) (J:It) (H':Hp),Fj=.ref it/\Inv X p_ σ H' s2/\Turn X.prog X.w X.K tg J fp it tn/\tn 0 s2.heap/\(∀b∈fp,fu X p_ H' b)/\R J H'
def PI(X:Cx)(tg iter:Expr)(wi:TI):Prop:=
 ∀(p_:List (Addr×Obj)) (s:Shared) (σ:St) (H:Hp) (R:It->Hp->Prop),Inv X p_ σ H s->wi σ H R->
  wpAny (model X.prog X.w) X.A (eval iter X.env) (λv s1=>wpAny (model X.prog X.w) X.A (pyIter v) (VZ X p_ σ tg R) X.xe s1) X.xe s
theorem KO{M:Model}{A:Around}{E:Value->Shared->Prop}{s:Shared}{tg:Expr}{it:Addr}{u:Value}{o:Obj}{n:String}{vs:Array Value}{Q:Unit->Shared->Prop}(ho:s.heap.get? it=some o)(hc:o.cls=.type n)(hd:o.data=.fields vs)
  (hn:["enumerate","zip","dict_itemiterator","dict_reverseitemiterator","odict_iterator","itertools.zip_longest","itertools.pairwise"].contains n=false) (hQ:Q () s):wpAny M A (Gq tg (.ref it) u) Q E s:=by
 unfold Gq
 cases tg <;> first
  | exact aF hQ
  | (cases u <;> first
    | exact aF hQ
    | (refine ag (Ht ho ?_);rw[hc,hd];show wpAny M A (if (["enumerate","zip","dict_itemiterator","dict_reverseitemiterator","odict_iterator","itertools.zip_longest","itertools.pairwise"].contains n&&vs[0]? == some (rawInt _))=true then _ else _) Q E s;rw[if_neg (by intro h;rw[hn,xK]at h;cases h)];exact aF hQ))
def BC(K:PySem.W.Frag)(a:Addr):It:=
 ⟨λi H=>∃xs x,aq K H a xs/\xs[i]?=some x,λi H x H'=>H'=H/\∀xs,aq K H a xs->xs[i]?=some x,λi H=>∃xs,aq K H a xs/\xs.length<=i⟩
def Mt(K:PySem.W.Frag)(a:Addr):It:=
 ⟨λi H=>∃xs x,ar K H a xs/\xs[i]?=some x,λi H x H'=>H'=H/\∀xs,ar K H a xs->xs[i]?=some x,λi H=>∃xs,ar K H a xs/\xs.length<=i⟩
def zm(lo:Int)(n:Nat):It:=⟨λi _=>i<n,λi H x H'=>H'=H/\x=.int (lo+i),λi _=>n<=i⟩
theorem aaY{P:Program}{w:World}{K:PySem.W.Frag}{tg:Expr}(a it:Addr):Turn P w K tg (BC K a) [it] it (λi h=>h.IsListIter it a i) where
 mem:=by simp
 obj:=λi h st b hb=>by
  have e:b=it:=by simpa using hb
  subst e;obtain⟨o,e,c,d⟩:=st;exact⟨o,e,λv z=>by rw[d]at z;cases z⟩
 keep:=λi h h' st k=>st.at λo e=>k it (by simp) o e
 item:=by
  intro X hP hw hK hc i p_ s σ H E I hf st hg;subst hP hw hK;obtain⟨xs,x,hq,hx⟩:=hg;obtain⟨aj,rv,p,hz⟩:=I.list hq;obtain⟨u,hu,ru⟩:=rv.get hx;obtain⟨f0,f1,f2,f3,f4,f5⟩:=hf it (by simp);refine wpAny_pyNext_list_item st p.isList (x:=u) (by simpa using hu) λh' qZ sb=>?_;have I1:Inv X p_ σ H { s with heap:=h' }:=I.turned (t':=s.toks) (λb o hb e=>(sb.2 b hb).trans e) f0 f1 f3 f4 f5;obtain⟨o,e,c,d⟩:=id qZ;exact⟨u,rfl,KO (s:={ s with heap:=h' }) e c d qc ⟨x,H,I1,ru,⟨rfl,λys hy=>by rw[I.QV hy hq];exact hx⟩,qZ,λb hb=>(hf b hb).1⟩⟩
 done:=by
  intro X hP hw hK hc i p_ s σ H E I hf st hg;subst hP hw hK;obtain⟨xs,hq,hx⟩:=hg;obtain⟨aj,rv,p,hz⟩:=I.list hq;obtain⟨f0,f1,f2,f3,f4,f5⟩:=hf it (by simp);have hl:=rv.length;exact wpAny_pyNext_list_end (I.ok.hd hc) st p.isList (by simp;omega) λh' eb=>⟨rfl,I.turned (t':=s.toks) (λb o hb e=>eb b o hb e) f0 f1 f3 f4 f5⟩
 self:=λ_ _ _ _ _ st h=>wpAny_pyIter_listiter st h
theorem aah{P:Program}{w:World}{K:PySem.W.Frag}{tg:Expr}(a it:Addr):Turn P w K tg (Mt K a) [it] it (λi h=>h.IsTupleIter it a i) where
 mem:=by simp
 obj:=λi h st b hb=>by
  have e:b=it:=by simpa using hb
  subst e;obtain⟨o,e,c,d⟩:=st;exact⟨o,e,λv z=>by rw[d]at z;cases z⟩
 keep:=λi h h' st k=>st.at λo e=>k it (by simp) o e
 item:=by
  intro X hP hw hK hc i p_ s σ H E I hf st hg;subst hP hw hK;obtain⟨xs,x,hq,hx⟩:=hg;obtain⟨aj,rv,p,hz⟩:=I.tuple hq;obtain⟨u,hu,ru⟩:=rv.get hx;obtain⟨f0,f1,f2,f3,f4,f5⟩:=hf it (by simp);refine wpAny_pyNext_tuple_item st (show s.heap.IsTuple a aj.toArray from p) (x:=u) (by simpa using hu) λh' qZ sb=>?_;have I1:Inv X p_ σ H { s with heap:=h' }:=I.turned (t':=s.toks) (λb o hb e=>(sb.2 b hb).trans e) f0 f1 f3 f4 f5;obtain⟨o,e,c,d⟩:=id qZ;exact⟨u,rfl,KO (s:={ s with heap:=h' }) e c d qc ⟨x,H,I1,ru,⟨rfl,λys hy=>by rw[I.PQ hy hq];exact hx⟩,qZ,λb hb=>(hf b hb).1⟩⟩
 done:=by
  intro X hP hw hK hc i p_ s σ H E I hf st hg;subst hP hw hK;obtain⟨xs,hq,hx⟩:=hg;obtain⟨aj,rv,p,hz⟩:=I.tuple hq;obtain⟨f0,f1,f2,f3,f4,f5⟩:=hf it (by simp);have hl:=rv.length;exact wpAny_pyNext_tuple_end (I.ok.hd hc) st (show s.heap.IsTuple a aj.toArray from p) (by simp;omega) λh' eb=>⟨rfl,I.turned (t':=s.toks) (λb o hb e=>eb b o hb e) f0 f1 f3 f4 f5⟩
 self:=λ_ _ _ _ _ st h=>wpAny_pyIter_tupleiter st h
theorem aai{P:Program}{w:World}{K:PySem.W.Frag}{tg:Expr}(it:Addr)(lo:Int)(n:Nat):Turn P w K tg (zm lo n) [it] it (λi h=>IsRangeIter h it (lo+(i:Nat)*1) ((n:Int)-(i:Nat)) 1) where
 mem:=by simp
 obj:=λi h st b hb=>by
  have e:b=it:=by simpa using hb
  subst e
  exact⟨_,st,λv z=>by
   have z':Data.fields _=Data.cell v:=z;cases z'⟩
 keep:=λi h h' st k=>k it (by simp) _ st
 item:=by
  intro X hP hw hK hc i p_ s σ H E I hf st hg;subst hP hw hK;obtain⟨f0,f1,f2,f3,f4,f5⟩:=hf it (by simp);have W:=Walks.range (prog:=X.prog) (w:=X.w) (I.ok.hd hc) it lo 1 n;refine W.item i s _ _ hg st λv h' tk hv qZ kk=>?_;obtain⟨t,rfl⟩:=hv;have I1:Inv X p_ σ H { s with heap:=h',toks:=tk }:=I.turned (λb o hb e=>kk b o (by simpa using hb) e) f0 f1 f3 f4 f5;refine⟨_,rfl,KO (s:={ s with heap:=h',toks:=tk }) (n:="range_iterator") qZ rfl rfl qc ⟨.int (lo+i),H,I1,⟨t,?_⟩,⟨rfl,rfl⟩,qZ,λb hb=>(hf b hb).1⟩⟩;rw[Int.mul_one]
 done:=by
  intro X hP hw hK hc i p_ s σ H E I hf st hg;subst hP hw hK;obtain⟨f0,f1,f2,f3,f4,f5⟩:=hf it (by simp);exact wpAny_pyNext_range_end (I.ok.hd hc) st (by have:n<=i:=hg;omega) λh' eb=>⟨rfl,I.turned (t':=s.toks) (λb o hb e=>eb b o hb e) f0 f1 f3 f4 f5⟩
 self:=λ_ _ _ _ _ st h=>wpAny_pyIter_rangeiter st h
section
variable{X:Cx}{tg:Expr}
def aii(K:PySem.W.Frag)(tl:TE):TI:=λσ H R=>tl σ H λx H1=>∃a,x=.ref a/\(∃xs,aq K H1 a xs)/\R (BC K a) H1
def UX(K:PySem.W.Frag)(tl:TE):TI:=λσ H R=>tl σ H λx H1=>∃a,x=.ref a/\(∃xs,ar K H1 a xs)/\R (Mt K a) H1
theorem o7{l:Expr}{tl:TE}(hl:PE X l tl):PI X tg l (aii X.K tl):=by
 intro p_ s σ H R I h;refine aV (hl p_ s σ H _ I h) λv s1 ⟨x,H1,I1,r1,q1⟩=>?_;obtain⟨a,e,⟨xs,hq⟩,q⟩:=q1;subst e;cases r1;obtain⟨aj,rv,p,hz⟩:=I1.list hq;refine xB p.isList ?_;refine⟨s1.heap.objs.size,[s1.heap.objs.size],_,_,H1,rfl,I1.kept (t':=s1.toks) λb o e=>bc _ e,aaY a _,⟨_,dM _ rfl,rfl,rfl⟩,λb hb=>?_,q⟩;have e:b=s1.heap.objs.size:=by simpa using hb
 subst e;exact I1.iE (aB _) (I1.aL.fresh (aB _))
theorem mz{l:Expr}{tl:TE}(hl:PE X l tl):PI X tg l (UX X.K tl):=by
 intro p_ s σ H R I h;refine aV (hl p_ s σ H _ I h) λv s1 ⟨x,H1,I1,r1,q1⟩=>?_;obtain⟨a,e,⟨xs,hq⟩,q⟩:=q1;subst e;cases r1;obtain⟨aj,rv,p,hz⟩:=I1.tuple hq;refine wpAny_pyIter_tuple (show s1.heap.IsTuple a aj.toArray from p) ?_;refine⟨s1.heap.objs.size,[s1.heap.objs.size],_,_,H1,rfl,I1.kept (t':=s1.toks) λb o e=>bc _ e,aah a _,⟨_,dM _ rfl,rfl,rfl⟩,λb hb=>?_,q⟩;have e:b=s1.heap.objs.size:=by simpa using hb
 subst e;exact I1.iE (aB _) (I1.aL.fresh (aB _))
theorem acv{p_:List (Addr×Obj)}{σ:St}{H:Hp}{s:Shared}{R:It->Hp->Prop}{E:Value->Shared->Prop}{lo hi:Int}{t u v:Tok}{tk:Nat}(I:Inv X p_ σ H s)(h1:-(2^62)<=lo)(h2:lo<2^62)(h3:-(2^62)<=hi)(h4:hi<2^62)
  (q:R (zm lo (hi-lo).toNat) H):wpAny (model X.prog X.w) X.A (pyIter (.ref s.heap.objs.size)) (VZ X p_ σ tg R) E { s with heap:=s.heap.push { cls:=.type "range",data:=.fields #[.int lo t,.int hi u,.int 1 v] },toks:=tk }:=by
 refine wpAny_pyIter_range (IsRange.new ..) (small_one h1 h2 h3 h4) ?_;have I1:Inv X p_ σ H { s with heap:=s.heap.push { cls:=.type "range",data:=.fields #[.int lo t,.int hi u,.int 1 v] },toks:=tk }:=I.kept λb o e=>bc _ e;refine⟨(s.heap.push { cls:=.type "range",data:=.fields #[.int lo t,.int hi u,.int 1 v] }).objs.size,[(s.heap.push { cls:=.type "range",data:=.fields #[.int lo t,.int hi u,.int 1 v] }).objs.size],_,_,H,rfl,I1.kept (t':=tk) λb o e=>bc _ e,aai _ lo (hi-lo).toNat,?_,λb hb=>?_,q⟩
 ·have e1:lo+((0:Nat):Int)*1=lo:=by simp
  have e2:(((hi-lo).toNat:Nat):Int)-((0:Nat):Int)=Builtin.Range.rangeSize lo hi 1:=by rw[rangeSize_one];split <;> omega
  show IsRangeIter _ _ (lo+((0:Nat):Int)*1) ((((hi-lo).toNat:Nat):Int)-((0:Nat):Int)) 1;rw[e1,e2];exact dM _ rfl
 ·have e:b=(s.heap.push { cls:=.type "range",data:=.fields #[.int lo t,.int hi u,.int 1 v] }).objs.size:=by simpa using hb
  subst e;exact I1.iE (aB _) (I1.aL.fresh (aB _))
def aih(ta:TA):TI:=λσ H R=>ta σ H λvs H1=>∃j:Int,vs=[.int j]/\-(2^62)<=j/\j<2^62/\R (zm 0 j.toNat) H1
theorem jk{a:Expr}{ta:TA}{p pos:Pos}(hg:Gl X "range")(hm:X.mg "range" = none)(ha:PA X [a] ta)(hs:cJ [a] X.env=[(false,eval a X.env)]:=by rfl):PI X tg (.Call (.Name "range" p) [a] [] pos) (aih ta):=by
 intro p_ s σ H R I h;refine Call_ (vJ I hg hm boot_range (FV (aV (ha pos p_ s σ H _ I h) λus s1 ⟨vs,H1,I1,r1,q1⟩=>?_) hs rfl));obtain⟨j,e,q1,q2,q⟩:=q1;subst e;cases r1 with
 | cons r rr=>
  cases rr;obtain⟨t,rfl⟩:=r;exact call_range_1 (acv I1 om om q1 q2 (by simpa using q))
def ajW(wi:TI)(g:TG)(tb:TS):TS:=λD σ H=>wi σ H λJ H1=>∃W:Nat->Nat->St->Hp->Prop,(∃m,W 0 m σ H1)/\∀i m σ H,W i m σ H->
 (J.stop i H/\D.nx σ H)\/(J.go i H/\∃N:St->Hp->Prop,(∀σ' H',N σ' H'->∃m',m'<m/\W (i+1) m' σ' H')/\∀x H',J.uq i H x H'->g x σ H' λσ2 H2=>tb { D with nx:=N,ct:=N,bk:=D.nx } σ2 H2)
def A3(fp:List Addr)(h:Heap):List (Addr×Obj):=fp.filterMap λb=>(h.get? b).map λo=>(b,o)
theorem xY{fp:List Addr}{h:Heap}{b:Addr}{o:Obj}(hb:b∈fp)(e:h.get? b=some o):(b,o)∈A3 fp h:=Gg.mpr ⟨b,hb,by rw[e];rfl⟩
theorem P8{fp:List Addr}{h:Heap}{p:Addr×Obj}(hp:p∈A3 fp h):p.1∈fp/\h.get? p.1=some p.2:=by
 obtain⟨b,hb,e⟩:=Gg.mp hp;cases q:h.get? b with
 | none=>rw[q]at e;cases e
 | some o=>
  rw[q]at e;have e':(b,o)=p:=eC e;subst e';exact⟨hb,q⟩
theorem Inv.pinned{p_:List (Addr×Obj)}{σ:St}{H:Hp}{s:Shared}{fp:List Addr}(I:Inv X p_ σ H s)(hf:∀b∈fp,fu X p_ H b)(ho:∀b∈fp,∃o,s.heap.get? b=some o/\∀v,o.data≠.cell v):Inv X (p_++A3 fp s.heap) σ H s:=
 I.tJ λp hp=>(jH.mp hp).elim (λz=>I.pin p (gx _ z)) λz=>by
  obtain⟨hb,e⟩:=P8 z;obtain⟨f0,f1,f2,_⟩:=hf p.1 hb;obtain⟨o,e',d⟩:=ho p.1 hb;rw[e]at e';cases e';exact⟨e,f0,f1,f2,d⟩
theorem Inv.CW{p_ pl:List (Addr×Obj)}{σ:St}{H:Hp}{s:Shared}(I:Inv X (p_++pl) σ H s):Inv X p_ σ H s:=I.tJ λp hp=>I.pin p (gx _ (nH _ hp))
theorem ij{iter:Expr}{body:List Stmt}{wi:TI}{g:TG}{tb:TS}{pos:Pos}(hp:fj (model X.prog X.w) X.A X.env X.xe)(hc:X.calm=true)(hi:PI X tg iter wi)(hg:PG X tg g)(hb:fG X body tb)
  (hs:∀x,Oo iter X.env x=pure x:=by intro _;rfl):PS X (.For tg iter body [] pos) (ajW wi g tb):=by
 intro p_ s σ H D I h;refine wpAny_For (aV (hi p_ s σ H _ I h) λv s1 h1=>aV h1 λFj s2 h2=>?_) hs;obtain⟨it,fp,tn,J,H2,e,I2,T,jX,f2,W,⟨m0,w0⟩,turn⟩:=h2;subst e;have LN:∀{H':Hp},(∀b∈fp,H' b=none)->∀b∈fp,fu X p_ H' b:=λhn b hb=>⟨hn b hb,(f2 b hb).2⟩;refine codeAny_forLoop_any (λn s'=>∃i σ' H',Inv X p_ σ' H' s'/\tn i s'.heap/\(∀b∈fp,H' b=none)/\W i n σ' H') ?_ m0 ⟨0,σ,H2,I2,jX,λb hb=>(f2 b hb).1,w0⟩;rintro n s3 ⟨i,σ3,H3,I3,pU,B8,w3⟩;rcases turn i n σ3 H3 w3 with ⟨stop,qn⟩ | ⟨go,N,hN,step⟩
 ·refine xG hp (aV (T.done X rfl rfl rfl hc i p_ s3 σ3 H3 X.xe I3 (LN B8) pU stop) λr s4 ⟨hr,I4⟩=>?_);subst hr;exact Cr ⟨σ3,H3,I4,qn⟩
 ·refine xG hp (aV (T.item X rfl rfl rfl hc i p_ s3 σ3 H3 X.xe I3 (LN B8) pU go) λr s4 ⟨u,hr,h4⟩=>?_);subst hr;refine xG hp (aV h4 λ_ s5 ⟨x,H5,I5,r5,y5,lx,NH⟩=>?_);have NS:=I5.pinned (LN NH) (T.obj _ _ lx);refine xG hp (aV (hg _ s5 σ3 H5 x u _ NS r5 (step x H5 y5)) λ_ s6 ⟨σ6,H6,I6,q6⟩=>?_);refine xG hp (aV (hb _ s6 σ6 H6 _ I6 q6) λf s7 q7=>?_)
  have again:∀{σ7:St} {H7:Hp},Inv X (p_++A3 fp s5.heap) σ7 H7 s7->N σ7 H7->∃m,m<n/\∃i σ' H',Inv X p_ σ' H' s7/\tn i s7.heap/\(∀b∈fp,H' b=none)/\W i m σ' H':=λ{σ7 H7} I7 n7=>by
   obtain⟨m',hm,w7⟩:=hN σ7 H7 n7;refine⟨m',hm,i+1,σ7,H7,I7.CW,T.keep _ _ _ lx λb hb o e=>(I7.pin (b,o) (gx _ (gx _ (xY hb e)))).1,λb hb=>?_,w7⟩;obtain⟨o,e,d⟩:=T.obj _ _ lx b hb;exact(I7.pin (b,o) (gx _ (gx _ (xY hb e)))).2.1
  cases f with
  | next=>obtain⟨σ7,H7,I7,n7⟩:=q7;exact again I7 n7
  | cont=>obtain⟨σ7,H7,I7,n7⟩:=q7;exact again I7 n7
  | brk=>obtain⟨σ7,H7,I7,q7⟩:=q7;exact⟨σ7,H7,I7.CW,q7⟩
  | ret v=>obtain⟨x7,σ7,H7,I7,r7,q7⟩:=q7;exact⟨x7,σ7,H7,I7.CW,r7,q7⟩
end
theorem yg{K:PySem.W.Frag}{a:Addr}{xs:List V}{g:TG}{tb:TS}{D:Ends}{σ:St}{H:Hp}(Pv:Nat->St->Hp->Prop)(h0:Pv 0 σ H)(hl:∀i σ H,i<=xs.length->Pv i σ H->aq K H a xs)
  (hs:∀i x σ H,xs[i]?=some x->Pv i σ H->g x σ H λσ2 H2=>tb { D with nx:=Pv (i+1),ct:=Pv (i+1),bk:=D.nx } σ2 H2) (hd:∀σ H,Pv xs.length σ H->D.nx σ H) :
  ∃W:Nat->Nat->St->Hp->Prop,(∃m,W 0 m σ H)/\∀i m σ H,W i m σ H->
   ((BC K a).stop i H/\D.nx σ H)\/((BC K a).go i H/\∃N:St->Hp->Prop,(∀σ' H',N σ' H'->∃m',m'<m/\W (i+1) m' σ' H')/\∀x H',(BC K a).uq i H x H'->g x σ H' λσ2 H2=>tb { D with nx:=N,ct:=N,bk:=D.nx } σ2 H2):=by
 refine⟨λi m σ H=>m=xs.length-i/\i<=xs.length/\Pv i σ H,⟨xs.length,by simp,bU _,h0⟩,?_⟩;rintro i m σ H ⟨rfl,hi,p⟩;have q:=hl i σ H hi p
 by_cases cI:i<xs.length
 ·refine .inr ⟨⟨xs,xs[i],q,by simp[cI]⟩,Pv (i+1),λσ' H' p'=>⟨xs.length-(i+1),om,rfl,cI,p'⟩,λx H' y=>?_⟩;obtain⟨e,y⟩:=y;subst e;exact hs i x σ _ (y xs q) p
 ·have e:i=xs.length:=om;subst e;exact .inl ⟨⟨xs,q,aB _⟩,hd σ H p⟩
theorem r6{lo:Int}{n:Nat}{g:TG}{tb:TS}{D:Ends}{σ:St}{H:Hp}(Pv:Nat->St->Hp->Prop)(h0:Pv 0 σ H)
  (hs:∀i σ H,i<n->Pv i σ H->g (.int (lo+i)) σ H λσ2 H2=>tb { D with nx:=Pv (i+1),ct:=Pv (i+1),bk:=D.nx } σ2 H2) (hd:∀σ H,Pv n σ H->D.nx σ H) :
  ∃W:Nat->Nat->St->Hp->Prop,(∃m,W 0 m σ H)/\∀i m σ H,W i m σ H->
   ((zm lo n).stop i H/\D.nx σ H)\/((zm lo n).go i H/\∃N:St->Hp->Prop,(∀σ' H',N σ' H'->∃m',m'<m/\W (i+1) m' σ' H')/\∀x H',(zm lo n).uq i H x H'->g x σ H' λσ2 H2=>tb { D with nx:=N,ct:=N,bk:=D.nx } σ2 H2):=by
 refine⟨λi m σ H=>m=n-i/\i<=n/\Pv i σ H,⟨n,by simp,bU _,h0⟩,?_⟩;rintro i m σ H ⟨rfl,hi,p⟩
 by_cases cI:i<n
 ·refine .inr ⟨cI,Pv (i+1),λσ' H' p'=>⟨n-(i+1),om,rfl,cI,p'⟩,λx H' y=>?_⟩;obtain⟨e,y⟩:=y;subst e y;exact hs i σ _ cI p
 ·have e:i=n:=om;subst e;exact .inl ⟨aB _,hd σ H p⟩
theorem ab8{c:TT}{tb:TS}{D:Ends}{σ:St}{H:Hp}(Pv:St->Hp->Prop)(μ:St->Hp->Nat)(h0:Pv σ H)
  (hs:∀σ H,Pv σ H->c σ H λb H1=>if b=true then tb { D with nx:=λσ' H'=>Pv σ' H'/\μ σ' H' < μ σ H,ct:=λσ' H'=>Pv σ' H'/\μ σ' H' < μ σ H,bk:=D.nx } σ H1 else D.nx σ H1)
  (mono:∀σ H Q Q',(∀b H1,Q b H1->Q' b H1)->c σ H Q->c σ H Q'):Sh c tb D σ H:=by
 refine⟨λm σ H=>m=μ σ H/\Pv σ H,⟨_,rfl,h0⟩,?_⟩;rintro m σ H ⟨rfl,p⟩;refine mono σ H _ _ (λb H1 q=>?_) (hs σ H p);cases b with
 | true=>exact⟨_,λσ' H' ⟨p',l⟩=>⟨_,l,rfl,p'⟩,q⟩
 | false=>exact q
abbrev R2:=V->V->Hp->VK->Prop
def dW(X:Cx)(f:Value->Value->Sem Value)(r:R2):Prop:=
 ∀(p_:List (Addr×Obj)) (s:Shared) (σ:St) (H:Hp) (x y:V) (v u:Value) (Q:VK),Inv X p_ σ H s->RelV x v->RelV y u->r x y H Q->
  wpAny (model X.prog X.w) X.A (f v u) (EP X p_ σ Q) X.xe s
def ET(X:Cx)(f:Value->Sem Value)(r:V->Hp->VK->Prop):Prop:=
 ∀(p_:List (Addr×Obj)) (s:Shared) (σ:St) (H:Hp) (x:V) (v:Value) (Q:VK),Inv X p_ σ H s->RelV x v->r x H Q->
  wpAny (model X.prog X.w) X.A (f v) (EP X p_ σ Q) X.xe s
def jr(X:Cx)(f:Value)(r:List V->Hp->VK->Prop):Prop:=
 ∀(p_:List (Addr×Obj)) (s:Shared) (σ:St) (H:Hp) (xs:List V) (us:List Value) (Q:VK),Inv X p_ σ H s->Vals xs us->r xs H Q->
  wpAny (model X.prog X.w) X.A (call f us) (EP X p_ σ Q) X.xe s
abbrev y3(r:R2)(ta tb:TE):TE:=λσ H Q=>ta σ H λx H1=>tb σ H1 λy H2=>r x y H2 Q
abbrev tUn(r:V->Hp->VK->Prop)(ta:TE):TE:=λσ H Q=>ta σ H λx H1=>r x H1 Q
def rI(C:Int->Int->Prop)(g:Int->Int->V):R2:=λx y H Q=>∃i j,x=.int i/\y=.int j/\C i j/\Q (g i j) H
def sJ(g:Int->Int->V):R2:=λx y H Q=>∃i j,x=.int i/\y=.int j/\Q (g i j) H
def rU(g:Int->V):V->Hp->VK->Prop:=λx H Q=>∃i,x=.int i/\Q (g i) H
section
variable{X:Cx}{a b c:Expr}{ta tb tc:TE}{pos:Pos}
theorem LF(ha:PE X a ta)(hb:PE X b tb){p_:List (Addr×Obj)}{s:Shared}{σ:St}{H:Hp}{R:V->V->Hp->Prop}(I:Inv X p_ σ H s)
  (h:ta σ H λx H1=>tb σ H1 λy H2=>R x y H2) {Q:Value->Shared->Prop} {f:Value->Value->Sem Value}
  (hf:∀v u s2 x y H2,Inv X p_ σ H2 s2->RelV x v->RelV y u->R x y H2->wpAny (model X.prog X.w) X.A (f v u) Q X.xe s2) :
  wpAny (model X.prog X.w) X.A (eval a X.env) (λv s₁=>wpAny (model X.prog X.w) X.A (eval b X.env) (λu s₂=>wpAny (model X.prog X.w) X.A (f v u) Q X.xe s₂) X.xe s₁) X.xe s:=by
 refine aV (ha p_ s σ H _ I h) λv s1 ⟨x,H1,I1,r1,q1⟩=>?_;refine aV (hb p_ s1 σ H1 _ I1 q1) λu s2 ⟨y,H2,I2,r2,q2⟩=>?_;exact hf v u s2 x y H2 I2 r1 r2 q2
theorem aT{op:Operator}{r:R2}(ho:dW X (nN op) r)(ha:PE X a ta)(hb:PE X b tb):PE X (.BinOp a op b pos) (y3 r ta tb):=by
 intro p_ s σ H Q I h;exact wpAny_BinOp (LF ha hb I h λv u s2 x y H2 I2 rx ry q=>ho p_ s2 σ H2 x y v u Q I2 rx ry q)
theorem KA{op:UnaryOp}{r:V->Hp->VK->Prop}(ho:ET X (unaryOp op) r)(ha:PE X a ta):PE X (.UnaryOp op a pos) (tUn r ta):=by
 intro p_ s σ H Q I h;exact UnaryOp_ (aV (ha p_ s σ H _ I h) λv s1 ⟨x,H1,I1,r1,q1⟩=>ho p_ s1 σ H1 x v Q I1 r1 q1)
theorem y'{f:Value->Value->Sem Value}{C:Int->Int->Prop}{g:Int->Int->Int}
  (rule:∀(i j:Int) (t u:Tok) (s:Shared) (Q:Value->Shared->Prop) (E:Value->Shared->Prop),C i j->Q (.int (g i j) s.toks) { s with toks:=s.toks+1 }->wpAny (model X.prog X.w) X.A (f (.int i t) (.int j u)) Q E s) :
  dW X f (rI C λi j=>.int (g i j)):=by
 intro p_ s σ H x y v u Q I rx ry h;obtain⟨i,j,rfl,rfl,hc,q⟩:=h;obtain⟨t,rfl⟩:=rx;obtain⟨t',rfl⟩:=ry;exact rule i j t t' s _ _ hc ⟨.int (g i j),H,I.tok _,⟨_,rfl⟩,q⟩
theorem Eg{f:Value->Value->Sem Value}{g:Int->Int->Int}
  (rule:∀(i j:Int) (t u:Tok) (s:Shared) (Q:Value->Shared->Prop) (E:Value->Shared->Prop),Q (.int (g i j) s.toks) { s with toks:=s.toks+1 }->wpAny (model X.prog X.w) X.A (f (.int i t) (.int j u)) Q E s) :
  dW X f (sJ λi j=>.int (g i j)):=by
 intro p_ s σ H x y v u Q I rx ry h;obtain⟨i,j,rfl,rfl,q⟩:=h;obtain⟨t,rfl⟩:=rx;obtain⟨t',rfl⟩:=ry;exact rule i j t t' s _ _ ⟨.int (g i j),H,I.tok _,⟨_,rfl⟩,q⟩
theorem Ls{f:Value->Value->Sem Value}{g:Int->Int->Bool}
  (rule:∀(i j:Int) (t u:Tok) (s:Shared) (Q:Value->Shared->Prop) (E:Value->Shared->Prop),Q (.bool (g i j)) s->wpAny (model X.prog X.w) X.A (f (.int i t) (.int j u)) Q E s) :
  dW X f (sJ λi j=>.bl (g i j)):=by
 intro p_ s σ H x y v u Q I rx ry h;obtain⟨i,j,rfl,rfl,q⟩:=h;obtain⟨t,rfl⟩:=rx;obtain⟨t',rfl⟩:=ry;exact rule i j t t' s _ _ ⟨.bl (g i j),H,I,rfl,q⟩
def akv(i j:Int):Prop:=0<j/\j<1073741824
def U'(i j:Int):Prop:=0<=j/\j<=1000000/\i.natAbs<2^64
def LL(i j:Int):Prop:=(-(2^64)<i/\i<2^64)\/(-(2^64)<j/\j<2^64)
theorem LL.ok{i j:Int}(h:LL i j):IntMulOk i j:=by
 rcases h with ⟨h1,h2⟩ | ⟨h1,h2⟩
 ·exact .of_left (intBits_le_64 h1 h2)
 ·exact .of_right (intBits_le_64 h1 h2)
theorem aag(k:Nat):(0:Int)<=2^k:=by
 rw[two_pow_cast];exact tf _
theorem fR:dW X (nN .Add) (sJ λi j=>.int (i+j)):=Eg λ_ _ _ _ _ _ _ q=>add_int q
theorem SD:dW X (nN .Sub) (sJ λi j=>.int (i-j)):=Eg λ_ _ _ _ _ _ _ q=>sub_int q
theorem tV:dW X (nN .Mult) (rI LL λi j=>.int (i*j)):=y' λ_ _ _ _ _ _ _ hc q=>mul_int q hc.ok
theorem lI:dW X (nN .FloorDiv) (rI akv λi j=>.int (i/j)):=y' λi j _ _ _ _ _ hc q=>by
 have h1:(0:Int)<j:=hc.1;have h2:j<1073741824:=hc.2;exact floordiv_int om (by rw[Yt i om];exact q) (.inl (PyProof.noPylong_small om))
theorem g6:dW X (nN .Mod) (rI (λ_ j=>0<j) λi j=>.int (i%j)):=y' λi j _ _ _ _ _ hc q=>by
 have h1:(0:Int)<j:=hc;exact mod_int' om (by rw[Int.fmod_eq_emod_of_nonneg i om];exact q)
theorem afS:dW X (nN .Pow) (rI U' λi j=>.int (i^j.toNat)):=y' λ_ _ _ _ _ _ _ hc q=>pow_int_small hc.1 hc.2.1 hc.2.2 q
theorem A4:dW X (nN .LShift) (rI U' λi j=>.int (i*2^j.toNat)):=y' λ_ _ _ _ _ _ _ hc q=>lshift_int_small hc.1 hc.2.1 hc.2.2 q
theorem JW:dW X (nN .RShift) (rI (λ_ j=>0<=j) λi j=>.int (i/2^j.toNat)):=y' λi j _ _ _ _ _ hc q=>
 rshift_int hc (by rw[Yt i (aag _)];exact q)
theorem A5:dW X (nN .BitAnd) (sJ λi j=>.int (qd i j)):=Eg λ_ _ _ _ _ _ _ q=>and_int q
theorem Bb:dW X (nN .BitOr) (sJ λi j=>.int (xO i j)):=Eg λ_ _ _ _ _ _ _ q=>or_int q
theorem VM{f:Value->Sem Value}{g:Int->Int}
  (rule:∀(i:Int) (t:Tok) (s:Shared) (Q:Value->Shared->Prop) (E:Value->Shared->Prop),Q (.int (g i) s.toks) { s with toks:=s.toks+1 }->wpAny (model X.prog X.w) X.A (f (.int i t)) Q E s) :
  ET X f (rU λi=>.int (g i)):=by
 intro p_ s σ H x v Q I rx h;obtain⟨i,rfl,q⟩:=h;obtain⟨t,rfl⟩:=rx;exact rule i t s _ _ ⟨.int (g i),H,I.tok _,⟨_,rfl⟩,q⟩
theorem Sf:ET X (unaryOp .USub) (rU λi=>.int (-i)):=VM λ_ _ _ _ _ q=>neg_int q
theorem aft:ET X (unaryOp .Invert) (rU λi=>.int (GG i)):=VM λ_ _ _ _ _ q=>invert_int q
end
def Ll:V->V->Bool
 | .aE,.aE=>true | .aE,.int _=>true | .int _,.aE=>true | .aE,.bl _=>true | .bl _,.aE=>true | .aE,.str _=>true | .str _,.aE=>true
 | .int _,.int _=>true | .bl _,.bl _=>true | .str _,.str _=>true | .oG _,.oG _=>true
 | .int _,.str _=>true | .str _,.int _=>true | .bl _,.str _=>true | .str _,.bl _=>true
 | _,_=>false
def rEq:R2:=λx y H Q=>Ll x y=true/\Q (.bl (decide (x=y))) H
def rNe:R2:=λx y H Q=>Ll x y=true/\Q (.bl (!decide (x=y))) H
theorem Dv{i j:Int}:decide (V.int i=V.int j)=(i == j):=by
 rw[Gx];simp
theorem S5{i j:Bool}:decide (V.bl i=V.bl j)=(i == j):=by
 rw[Gx];simp
theorem RT{i j:Str}:decide (V.str i=V.str j)=(i == j):=by
 rw[Gx];simp
theorem RU{i j:Array UInt8}:decide (V.oG i=V.oG j)=(i.toList == j.toList):=by
 rw[Gx];cases i;cases j;simp
section
variable{X:Cx}{a b c:Expr}{ta tb tc:TE}{pos:Pos}
theorem ee{p_:List (Addr×Obj)}{σ:St}{H:Hp}{s:Shared}{Q:VK}{k k':Bool}(I:Inv X p_ σ H s)(q:Q (.bl k) H)(e:k=k'):EP X p_ σ Q (.bool k') s:=by
 subst e;exact⟨.bl k,H,I,rfl,q⟩
theorem dE:dW X (jM .Eq) rEq:=by
 intro p_ s σ H x y v u Q I rx ry h;obtain⟨hs,q⟩:=h;cases x with
 | aE=>
  cases rx;cases y with
  | aE=>cases ry;exact PySem.EqNone.eq_none_none (ee I q (by simp))
  | bl j=>cases ry;exact PySem.EqNone.eq_none_bool (ee I q (by simp))
  | int j=>obtain⟨t',rfl⟩:=ry;exact PySem.EqNone.eq_none_int (ee I q (by simp))
  | str j=>obtain⟨t',rfl⟩:=ry;exact PySem.EqNone.eq_none_str (ee I q (by simp))
  | _=>exact absurd (show false=true from hs) dg
 | bl i=>
  cases rx;cases y with
  | aE=>cases ry;exact PySem.EqNone.eq_bool_none (ee I q (by simp))
  | bl j=>cases ry;exact eq_bool (ee I q S5)
  | str j=>obtain⟨t',rfl⟩:=ry;exact PySem.EqMixed.eq_bool_str (ee I q (by simp))
  | _=>exact absurd (show false=true from hs) dg
 | int i=>
  obtain⟨t,rfl⟩:=rx;cases y with
  | aE=>cases ry;exact PySem.EqNone.eq_int_none (ee I q (by simp))
  | int j=>obtain⟨t',rfl⟩:=ry;exact eq_int (ee I q Dv)
  | str j=>obtain⟨t',rfl⟩:=ry;exact PySem.EqMixed.eq_int_str (ee I q (by simp))
  | _=>exact absurd (show false=true from hs) dg
 | str i=>
  obtain⟨t,rfl⟩:=rx;cases y with
  | aE=>cases ry;exact PySem.EqNone.eq_str_none (ee I q (by simp))
  | bl j=>cases ry;exact PySem.EqMixed.eq_str_bool (ee I q (by simp))
  | int j=>obtain⟨t',rfl⟩:=ry;exact PySem.EqMixed.eq_str_int (ee I q (by simp))
  | str j=>obtain⟨t',rfl⟩:=ry;exact eq_str (ee I q RT)
  | _=>exact absurd (show false=true from hs) dg
 | oG i=>
  obtain⟨t,rfl⟩:=rx;cases y with
  | oG j=>obtain⟨t',rfl⟩:=ry;exact W.eq_bytes (ee I q RU)
  | _=>exact absurd (show false=true from hs) dg
 | _=>cases y <;> exact absurd (show false=true from hs) dg
theorem yz:dW X (jM .NotEq) rNe:=by
 intro p_ s σ H x y v u Q I rx ry h;obtain⟨hs,q⟩:=h;cases x with
 | aE=>
  cases rx;cases y with
  | aE=>cases ry;exact PySem.EqNone.ne_none_none (ee I q (by simp))
  | bl j=>cases ry;exact PySem.EqNone.ne_none_bool (ee I q (by simp))
  | int j=>obtain⟨t',rfl⟩:=ry;exact PySem.EqNone.ne_none_int (ee I q (by simp))
  | str j=>obtain⟨t',rfl⟩:=ry;exact PySem.EqNone.ne_none_str (ee I q (by simp))
  | _=>exact absurd (show false=true from hs) dg
 | bl i=>
  cases rx;cases y with
  | aE=>cases ry;exact PySem.EqNone.ne_bool_none (ee I q (by simp))
  | bl j=>cases ry;exact ne_bool (ee I q (congrArg not S5))
  | str j=>obtain⟨t',rfl⟩:=ry;exact PySem.EqMixed.ne_bool_str (ee I q (by simp))
  | _=>exact absurd (show false=true from hs) dg
 | int i=>
  obtain⟨t,rfl⟩:=rx;cases y with
  | aE=>cases ry;exact PySem.EqNone.ne_int_none (ee I q (by simp))
  | int j=>obtain⟨t',rfl⟩:=ry;exact ne_int (ee I q (congrArg not Dv))
  | str j=>obtain⟨t',rfl⟩:=ry;exact PySem.EqMixed.ne_int_str (ee I q (by simp))
  | _=>exact absurd (show false=true from hs) dg
 | str i=>
  obtain⟨t,rfl⟩:=rx;cases y with
  | aE=>cases ry;exact PySem.EqNone.ne_str_none (ee I q (by simp))
  | bl j=>cases ry;exact PySem.EqMixed.ne_str_bool (ee I q (by simp))
  | int j=>obtain⟨t',rfl⟩:=ry;exact PySem.EqMixed.ne_str_int (ee I q (by simp))
  | str j=>obtain⟨t',rfl⟩:=ry;exact ne_str (ee I q (congrArg not RT))
  | _=>exact absurd (show false=true from hs) dg
 | oG i=>
  obtain⟨t,rfl⟩:=rx;cases y with
  | oG j=>obtain⟨t',rfl⟩:=ry;exact W.ne_bytes (ee I q (congrArg not RU))
  | _=>exact absurd (show false=true from hs) dg
 | _=>cases y <;> exact absurd (show false=true from hs) dg
theorem tY:dW X (jM .Lt) (sJ λi j=>.bl (decide (i<j))):=Ls λ_ _ _ _ _ _ _ q=>lt_int q
theorem D0:dW X (jM .LtE) (sJ λi j=>.bl (decide (i<=j))):=Ls λ_ _ _ _ _ _ _ q=>le_int q
theorem KD:dW X (jM .Gt) (sJ λi j=>.bl (decide (j<i))):=Ls λ_ _ _ _ _ _ _ q=>gt_int q
theorem JY:dW X (jM .Is) (λx y H Q=>y=.aE/\Q (.bl (decide (x=.aE))) H):=by
 intro p_ s σ H x y v u Q I rx ry h;obtain⟨rfl,q⟩:=h;cases ry;refine is_none_gen (ee I q ?_)
 cases x <;> first
  | (cases rx;rfl)
  | (obtain⟨t,rfl⟩:=rx;rfl)
theorem Jm:dW X (jM .IsNot) (λx y H Q=>y=.aE/\Q (.bl (!decide (x=.aE))) H):=by
 intro p_ s σ H x y v u Q I rx ry h;obtain⟨rfl,q⟩:=h;cases ry;refine isnot_none_gen (ee I q ?_)
 cases x <;> first
  | (cases rx;rfl)
  | (obtain⟨t,rfl⟩:=rx;rfl)
theorem bX(b:Expr){op:CmpOp}(h:op≠.In:=by decide)(h2:op≠.NotIn:=by decide):GQ op b=false:=by
 have e1:(op == CmpOp.In)=false:=by cases op <;> first | rfl | exact absurd rfl h
 have e2:(op == CmpOp.NotIn)=false:=by cases op <;> first | rfl | exact absurd rfl h2
 cases b <;> simp[GQ,e1,e2]
theorem qt{op:CmpOp}{r:R2}(ho:dW X (jM op) r)(ha:PE X a ta)(hb:PE X b tb)(hm:GQ op b=false):PE X (.Compare a [op] [b] pos) (y3 r ta tb):=by
 intro p_ s σ H Q I h;exact wpAny_Compare1 (LF ha hb I h λv u s2 x y H2 I2 rx ry q=>ho p_ s2 σ H2 x y v u Q I2 rx ry q) hm
abbrev To(t:TE):TT:=λσ H Q=>t σ H λx H'=>∃k,x=.bl k/\Q k H'
theorem cy{op:CmpOp}{r:R2}(ho:dW X (jM op) r)(ha:PE X a ta)(hb:PE X b tb)(hm:GQ op b=false):PT X (.Compare a [op] [b] pos) (To (y3 r ta tb)):=by
 intro p_ s σ H Q I h
 refine wpAny_isTrue_Compare1 (aV (ha p_ s σ H _ I h) λv s1 ⟨x,H1,I1,r1,q1⟩=>aV (hb p_ s1 σ H1 _ I1 q1) λu s2 ⟨y,H2,I2,r2,q2⟩=>
  aV (ho p_ s2 σ H2 x y v u _ I2 r1 r2 q2) λc s3 ⟨z,H3,I3,r3,k,e,q3⟩=>?_) hm
 subst e;cases r3;exact rJ ⟨H3,I3,q3⟩
def Si(r r':R2)(ta tb tc:TE):TE:=λσ H Q=>ta σ H λx H1=>tb σ H1 λy H2=>r x y H2 λz H3=>∃k,z=.bl k/\
 (if k=true then tc σ H3 λw' H4=>r' y w' H4 Q else Q (.bl false) H3)
theorem QN{op wQ:CmpOp}{r r':R2}(ho:dW X (jM op) r)(pY:dW X (jM wQ) r')(ha:PE X a ta)(hb:PE X b tb)(hc:PE X c tc)
  (hm:lastMarks [op,wQ] [b,c]=false:=by with_unfolding_all rfl):PE X (.Compare a [op,wQ] [b,c] pos) (Si r r' ta tb tc):=by
 intro p_ s σ H Q I h
 refine Compare_chain (aV (ha p_ s σ H _ I h) λv s1 ⟨x,H1,I1,r1,q1⟩=>chain_link (aV (hb p_ s1 σ H1 _ I1 q1) λu s2 ⟨y,H2,I2,r2,q2⟩=>
  aV (ho p_ s2 σ H2 x y v u _ I2 r1 r2 q2) λd s3 ⟨z,H3,I3,r3,k,e,q3⟩=>?_)) hm
 subst e;cases r3;refine rJ ?_;cases k with
 | false=>exact ite_ff ⟨.bl false,H3,I3,rfl,q3⟩
 | true=>exact ite_tt (chain_last (aV (hc p_ s3 σ H3 _ I3 q3) λw' s4 ⟨z',H4,I4,r4,q4⟩=>pY p_ s4 σ H4 y z' u w' Q I4 r2 r4 q4))
theorem acx{op wQ:CmpOp}{r r':R2}(ho:dW X (jM op) r)(pY:dW X (jM wQ) r')(ha:PE X a ta)(hb:PE X b tb)(hc:PE X c tc)
  (hm:lastMarks [op,wQ] [b,c]=false:=by with_unfolding_all rfl):PT X (.Compare a [op,wQ] [b,c] pos) (To (Si r r' ta tb tc)):=by
 intro p_ s σ H Q I h
 refine isTrue_chain (aV (ha p_ s σ H _ I h) λv s1 ⟨x,H1,I1,r1,q1⟩=>test_link (aV (hb p_ s1 σ H1 _ I1 q1) λu s2 ⟨y,H2,I2,r2,q2⟩=>
  aV (ho p_ s2 σ H2 x y v u _ I2 r1 r2 q2) λd s3 ⟨z,H3,I3,r3,k,e,q3⟩=>?_)) hm
 subst e;cases r3;refine rJ ?_;cases k with
 | false=>
  obtain⟨k',e',q'⟩:=q3;cases e';exact ite_ff ⟨H3,I3,q'⟩
 | true=>
  refine ite_tt (test_last (aV (hc p_ s3 σ H3 _ I3 q3) λw' s4 ⟨z',H4,I4,r4,q4⟩=>aV (pY p_ s4 σ H4 y z' u w' _ I4 r2 r4 q4) λd' s5 ⟨z2,H5,I5,r5,k2,e2,q5⟩=>?_));subst e2;cases r5;exact rJ ⟨H5,I5,q5⟩
theorem A7:(bN:Nat)<2^63:=by rw[jK];decide
theorem vals1{x:V}{us:List Value}(r:Vals [x] us):∃u,us=[u]/\RelV x u:=by
 cases r with
 | cons r1 r2=>cases r2;exact⟨_,rfl,r1⟩
theorem vals2{x y:V}{us:List Value}(r:Vals [x,y] us):∃u w',us=[u,w']/\RelV x u/\RelV y w':=by
 cases r with
 | cons r1 r2=>
  cases r2 with
  | cons r3 r4=>cases r4;exact⟨_,_,rfl,r1,r3⟩
theorem abU(hc:X.calm=true):jr X (.builtin "min") (λxs H Q=>∃i j,xs=[.int i,.int j]/\Q (.int (if j<i then j else i)) H):=by
 intro p_ s σ H xs us Q I r h;obtain⟨i,j,rfl,q⟩:=h;obtain⟨u,w',rfl,⟨t,rfl⟩,⟨t',rfl⟩⟩:=vals2 r;refine min_two_ints (I.ok.hd hc) λh' tk k=>⟨_,H,I.kept k,?_,q⟩
 by_cases hj:j<i
 ·rw[if_pos hj,if_pos hj];exact⟨_,rfl⟩
 ·rw[if_neg hj,if_neg hj];exact⟨_,rfl⟩
end
structure v7(h:Heap)(x dx C:Addr)(mA:Str->Option Value):Prop where
 obj:h.get? x=some (W.instObj C dx)
 ns:h.Ns1 dx mA
 ne:dx≠x
theorem abz{h:Heap}{dx:Addr}{mA:Str->Option Value}(n:h.Ns1 dx mA):∃od,h.get? dx=some od/\∀name,W.lookIn name od=some (mA name):=by
 obtain⟨o,es,ep,ho,hd,hk,_,hm⟩:=n;refine⟨o,ho,λname=>?_⟩;have e:=hm name;unfold nsFind findBy at e;rw[<-Array.find?_toList]at e;unfold W.lookIn;rw[hd];dsimp only
 split
 ·rename_i y q
  rw[q]at e;exact congrArg some e
 ·rename_i q
  rw[q]at e
  have a:es.toList.any (·.refKey)=false:=by
   rw[List.any_eq_false];intro y hy;obtain⟨z,t,alf⟩:=hk y (Array.mem_toList_iff.mp hy);simp[DictEntry.refKey,alf]
  have a':¬es.toList.any (·.refKey)=true:=by rw[a];exact dg
  rw[if_neg a'];exact congrArg some e
theorem v7.look{h:Heap}{x dx C:Addr}{mA:Str->Option Value}(I:v7 h x dx C mA):∃od,W.InstAt h x (W.instObj C dx) C (some od)/\∀name,W.lookIn name od=some (mA name):=
 let ⟨od,ho,hl⟩:=abz I.ns
 ⟨od,⟨I.obj,rfl,rfl,ho⟩,hl⟩
section
variable{prog:Program}{w:World}{A:Around}{E:Value->Shared->Prop}{s:Shared}{K:W.Frag}{x dx C f:Addr}{mA:Str->Option Value}{name:Str}{v:Value}
theorem get_map{expr:Bool}{Q:Value->Shared->Prop}(X:K.In s.heap)(I:v7 s.heap x dx C mA)(hg:W.plainGet K C name=true)(hh:W.hasDictIn K C=true)
  (ha:W.findIn K (.ref C) name=some none) (hv:mA name=some v) (uJ:W.handedIn v=true) (h:Q v { s with toks:=s.toks+1 }) :
  wpAny (model prog w) A (getAttr (.ref x) name expr) Q E s:=by
 obtain⟨od,J,hl⟩:=I.look;exact W.get_value X J (W.plainGet_of hg).1 (W.findObj_own hh ha rfl (by rw[hl,hv])) uJ h
theorem adi{pl:Sem Bool}{Q:Value×List Value->Shared->Prop}(X:K.In s.heap)(I:v7 s.heap x dx C mA)(hg:W.plainGet K C name=true)
  (hf:W.findIn K (.ref C) name=some (some (.ref f))) (ht:W.isFn K (.ref f)=true) (hv:mA name=none) (h:Q (.ref f,[.ref x]) s) :
  wpAny (model prog w) A (yc (.ref x) name pl) Q E s:=by
 obtain⟨od,J,hl⟩:=I.look;exact W.method_fn X J (W.plainGet_of hg).1 (W.plainGet_of hg).2 hf (beq_iff_eq.mp ht) (by show (W.lookIn name od).map (·.isSome)=some false;rw[hl,hv];rfl) h
theorem ad3{ns:List Str}{Q:Unit->Shared->Prop}(X:K.In s.heap)(I:v7 s.heap x dx C mA)
  (hs:W.findIn K (.ref C) "__setattr__" = some (some (.builtin "object.__setattr__"))) (hp:W.plainOver K C=true) (ht:W.takerIn K C name=some none) (hh:W.hasDictIn K C=true)
  (hw:PySem.Within mA ns) (jB:ns.length<=bN)
  (h:∀h',v7 h' x dx C (λy=>if y=name then some v else mA y)->gA dx s.heap h'->Q () { s with heap:=h',toks:=s.toks+2 }) :
  wpAny (model prog w) A (setAttr (.ref x) name v) Q E s:=by
 obtain⟨od,J,hl⟩:=I.look;refine W.set_plain X J hs (W.osa_open (s:={ s with toks:=s.toks+1 }) (r:=none) X J hp ht λb=>?_);obtain⟨cd,hc,rA⟩:=W.any_some hh;have hx:s.heap.get? x=some ⟨.ref C,some dx,.plain,#[]⟩:=I.obj;refine ag (aF (ag (ag (wpAny_loadPart hx (ag (W.Looks.here (s:={ s with toks:=s.toks+1 }) (W.looks_clsIn X hc) ?_))))));rw[rA];refine aF (a:=some dx) (ag (aF (ag ?_)));refine wpAny_nsSet1 (s:={ s with toks:=s.toks+1 }) I.ns λh' W6 wY=>?_;obtain⟨oD,esD,epD,hoD,hdD,hcD⟩:=W6.count (PySem.Within.cons name v hw);refine ag (wpAny_lookBehind hoD (by rw[hdD];exact pastItsLine_dict (cZ hcD (by rw[gU];omega))) ?_);exact aF (h _ ⟨(wY.2 _ (eT I.ne)).trans I.obj,W6,I.ne⟩ wY)
theorem ac6{R:Result->Shared->Prop}{vs:List Value}{kw:List (Str×Value)}(X:K.In s.heap)(hm:W.makesIn K C=true)
  (hi:W.findIn K (.ref C) "__init__" = some (some (.ref f))) (hf:W.typeIn K (.ref f)=some (.type "function"))
  (h:codeAny (model prog w) (A.under (.builtin "type.__call__" ⟨.ref C::vs,kw⟩)) (.call (.ref f) ⟨.ref (s.heap.objs.size+1)::vs,kw⟩) (W.InitBack (s.heap.objs.size+1) R)
   {s with heap:=(s.heap.push W.emptyDict).push (W.instObj C s.heap.objs.size) }) :
  codeAny (model prog w) A (.call (.ref C) ⟨vs,kw⟩) R s:=by
 obtain⟨hh,g,d,t,os⟩:=s;exact W.make_core (W.makes_of X hm) (W.looks_findIn X hi) (λself=>W.bind_fn X self hf) (.inl rfl) h
end
def aG(f:Str)(v:V):List (Str×V)->List (Str×V)
 | []=>[(f,v)]
 | (g,x)::r=>if g=f then (g,v)::r else (g,x)::aG f v r
theorem dn(f g:Str)(v:V):∀fs:List (Str×V),(aG f v fs).lookup g=if g=f then some v else fs.lookup g
 | []=>by
  show xV g [(f,v)]=_
  by_cases h:g=f
  ·have hb:(g == f)=true:=beq_iff_eq.mpr h;simp only[xV,hb,if_pos h]
  ·have hb:(g == f)=false:=beq_eq_false_iff_ne.mpr h;simp only[xV,hb,if_neg h]
 | (k,x)::r=>by
  have ih:=dn f g v r;rw[show aG f v ((k,x)::r)=(if k=f then (k,v)::r else (k,x)::aG f v r) from rfl]
  by_cases hk:k=f
  ·rw[if_pos hk]
   by_cases h:g=k
   ·have hb:(g == k)=true:=beq_iff_eq.mpr h;simp only[xV,hb,if_pos (h.trans hk)]
   ·have hb:(g == k)=false:=beq_eq_false_iff_ne.mpr h;simp only[xV,hb,if_neg λe:g=f=>h (e.trans hk.symm)]
  ·rw[if_neg hk]
   by_cases h:g=k
   ·have hb:(g == k)=true:=beq_iff_eq.mpr h;simp only[xV,hb,if_neg λe:g=f=>hk (h.symm.trans e)]
   ·have hb:(g == k)=false:=beq_eq_false_iff_ne.mpr h;simp only[xV,hb];exact ih
theorem HJ(f:Str)(v:V):∀fs:List (Str×V),f∈(aG f v fs).map (·.1)/\∀g,g∈fs.map (·.1)->g∈(aG f v fs).map (·.1)
 | []=>⟨by simp[aG],λg h=>by simp at h⟩
 | (k,x)::r=>by
  obtain⟨i1,i2⟩:=HJ f v r;rw[show aG f v ((k,x)::r)=(if k=f then (k,v)::r else (k,x)::aG f v r) from rfl]
  by_cases hk:k=f
  ·rw[if_pos hk];subst hk;exact⟨by simp,λg h=>by simpa using h⟩
  ·rw[if_neg hk];refine⟨?_,λg h=>?_⟩
   ·rw[iz];exact dJ _ i1
   ·rw[iz]at h ⊢;rcases bR.mp h with e | e
    ·exact bR.mpr (.inl e)
    ·exact dJ _ (i2 g e)
theorem qj(f:Str)(v:V):∀fs:List (Str×V),(aG f v fs).length<=fs.length+1
 | []=>by simp[aG]
 | (k,x)::r=>by
  have ih:=qj f v r;rw[show aG f v ((k,x)::r)=(if k=f then (k,v)::r else (k,x)::aG f v r) from rfl]
  by_cases hk:k=f
  ·rw[if_pos hk,gU,gU];omega
  ·rw[if_neg hk,gU,gU];omega
theorem qP.some_of{v:V}{o:Option Value}(r:qP (some v) o):∃u,o=some u/\RelV v u:=by
 cases o with
 | none=>exact(show False from r).elim
 | some u=>exact⟨u,rfl,r⟩
theorem qP.none_of{o:Option Value}(r:qP none o):o=none:=by
 cases o with
 | none=>rfl
 | some u=>exact(show False from r).elim
theorem abJ{v:V}{u:Value}(r:RelV v u):W.handedIn u=true:=by
 cases v with
 | aE=>cases (show u=eK from r);rfl
 | bl b=>cases (show u=oY b from r);rfl
 | int i=>obtain⟨t,e⟩:=(show ∃t,u=gG i t from r);cases e;rfl
 | str x=>obtain⟨t,e⟩:=(show ∃t,u=HX x t from r);cases e;rfl
 | oG b=>obtain⟨t,e⟩:=(show ∃t,u=Value.bytes b t from r);cases e;rfl
 | qV b=>obtain⟨t,e⟩:=(show ∃t,u=Hj b t from r);cases e;rfl
 | ref a=>cases (show u=c8 a from r);rfl
 | ty n=>cases (show u=iA n from r);rfl
section
variable{P:Program}{w:World}{H H':Hp}{h h':Heap}{a C dx:Addr}{fs lY:List (Str×V)}
theorem AU(aL:f9 P w H h)(e:H a=some (.ins C dx fs)):∃mA,v7 h a dx C mA/\(∀f,qP (fs.lookup f) (mA f))/\PySem.Within mA (fs.map (·.1))/\fs.length<=1000/\H dx=some (.own a):=by
 obtain⟨d,z,ne,ob,mA,n,r,q⟩:=(show eX P w H h a (.ins C dx fs) from aL a _ e);exact⟨mA,⟨ob,n,ne⟩,r,q,z,d⟩
end
structure dj(K:W.Frag)(C:Addr):Prop where
 pg:W.plainGet K C Str.empty=true
 hd:W.hasDictIn K C=true
 po:W.plainOver K C=true
 sa:W.findIn K (.ref C) "__setattr__" = some (some (.builtin "object.__setattr__"))
theorem dj.get{K:W.Frag}{C:Addr}(c:dj K C)(f:Str):W.plainGet K C f=true:=c.pg
def bu(K:W.Frag)(C:Addr)(f:Str):Prop:=W.findIn K (.ref C) f=some none
theorem bu.ahc{K:W.Frag}{C:Addr}{f:Str}(n:bu K C f):W.takerIn K C f=some none:=by
 unfold W.takerIn;rw[show W.findIn K (.ref C) f=some none from n];rfl
structure Con(K:W.Frag)(C:Addr)(f:Str)(v:V)(u:Value):Prop where
 at_:W.findIn K (.ref C) f=some (some u)
 rel:RelV v u
 get:W.specialIn K u "__get__" = some none
 cp:W.copiedNames.contains f=false
structure Meth(K:W.Frag)(C:Addr)(m:Str)(f:Addr):Prop where
 at_:W.findIn K (.ref C) m=some (some (.ref f))
 fn:W.isFn K (.ref f)=true
 kp:W.keepIn K (.ref f)=true
section
variable{X:Cx}{p_:List (Addr×Obj)}{σ:St}{H:Hp}{s:Shared}{a C dx:Addr}{fs:List (Str×V)}{f:Str}{v:V}{A:Around}{E:Value->Shared->Prop}
theorem Po{b:Bool}{Q:Value->Shared->Prop}(I:Inv X p_ σ H s)(e:H a=some (.ins C dx fs))(c:dj X.K C)(n:bu X.K C f)(l:fs.lookup f=some v)
  (h:∀u s',Inv X p_ σ H s'->RelV v u->Q u s'):wpAny (model X.prog X.w) A (getAttr (.ref a) f b) Q E s:=by
 obtain⟨mA,O,r,_,_,_⟩:=AU I.aL e;obtain⟨u,hu,ru⟩:=qP.some_of (v:=v) (o:=mA f) (by rw[<-l];exact r f);exact get_map I.cR O (c.get f) c.hd n hu (abJ ru) (h u _ (I.tok _) ru)
theorem CJ{m:Str}{g:Addr}{pl:Sem Bool}{Q:Value×List Value->Shared->Prop}(I:Inv X p_ σ H s)(e:H a=some (.ins C dx fs))(c:dj X.K C)(k:Meth X.K C m g)(l:fs.lookup m=none)
  (h:Q (.ref g,[.ref a]) s):wpAny (model X.prog X.w) A (yc (.ref a) m pl) Q E s:=by
 obtain⟨mA,O,r,_,_,_⟩:=AU I.aL e;have hn:mA m=none:=qP.none_of (by rw[<-l];exact r m);exact adi I.cR O (c.get m) k.at_ k.fn hn h
theorem Pd{y:V}{u:Value}{Q:Unit->Shared->Prop}(I:Inv X p_ σ H s)(e:H a=some (.ins C dx fs))(c:dj X.K C)(n:bu X.K C f)(hl:fs.length<1000)(ry:RelV y u)
  (h:∀s',Inv X p_ σ (upd H a (.ins C dx (aG f y fs))) s'->Q () s'):wpAny (model X.prog X.w) A (setAttr (.ref a) f u) Q E s:=by
 obtain⟨mA,O,r,wi,_,ho⟩:=AU I.aL e;have hz:(fs.map (·.1)).length<=bN:=by rw[aH,jK];omega
 refine ad3 I.cR O c.sa c.po n.ahc c.hd wi hz λh' O' sb=>h _ ?_;have hd:∃o,h'.get? dx=some o:=let ⟨o,_,_,e',_⟩:=O'.ns;⟨o,e'⟩
 refine I.write (x:=a) (e:=dx) (by rw[e];exact mj) (.inr ho) (λb q hb z=>(sb.2 b hb).trans z) hd ?_;refine⟨by rw[ak O.ne];exact ho,?_,O.ne,O'.obj,_,O'.ns,λg=>?_,λg hg=>?_⟩
 ·have:=qj f y fs;omega
 ·show qP ((aG f y fs).lookup g) (if g=f then some u else mA g);rw[dn]
  by_cases q:g=f
  ·rw[if_pos q,if_pos q];exact ry
  ·rw[if_neg q,if_neg q];exact r g
 ·by_cases q:g=f
  ·rw[q];exact(HJ f y fs).1
  ·refine(HJ f y fs).2 g (wi g λz=>hg ?_);show (if g=f then some u else mA g)=none;rw[if_neg q];exact z
theorem Inv.made(I:Inv X p_ σ H s):Inv X p_ σ (upd (upd H s.heap.objs.size (.own (s.heap.objs.size+1))) (s.heap.objs.size+1) (.ins C s.heap.objs.size []))
  {s with heap:=(s.heap.push W.emptyDict).push (W.instObj C s.heap.objs.size) }:=by
 have e1:(s.heap.push W.emptyDict).get? s.heap.objs.size=some W.emptyDict:=dM s.heap rfl
 have e2:((s.heap.push W.emptyDict).push (W.instObj C s.heap.objs.size)).get? (s.heap.objs.size+1)=some (W.instObj C s.heap.objs.size):=by
  have:=dM (s.heap.push W.emptyDict) (o:=W.instObj C s.heap.objs.size) rfl;rwa[jI]at this
 have e3:(s.heap.push W.emptyDict).Ns s.heap.objs.size (λ_=>none):=⟨W.emptyDict,#[],_,e1,rfl,(λe he=>absurd he (by simp)),λ_=>rfl⟩;have I1:=I.laid (a:=s.heap.objs.size) (o:=.own (s.heap.objs.size+1)) (h':=s.heap.push W.emptyDict) (t':=s.toks) (λb u q=>bc _ q) (aB _) ⟨_,e1⟩;refine I1.laid (a:=s.heap.objs.size+1) (o:=.ins C s.heap.objs.size []) (t':=s.toks) (λb u q=>bc _ q) (qg (jI _ _)) ?_;have ne:s.heap.objs.size≠s.heap.objs.size+1:=dv (xD _);refine⟨by rw[ak ne,av],bU _,ne,e2,λ_=>none,(Heap.Ns1.of_empty e3).at λo q=>bc _ q,λ_=>mj,λy hy=>absurd rfl hy⟩
theorem afh{prog:Program}{w:World}{env:Env}{e:Expr}{f:Str}{pos:Pos}{s:Shared}{Q:Value->Shared->Prop}(hb:GR e f env (eval e env)=eval e env)
  (h:wpAny (model prog w) A (eval e env) (λo s₁=>wpAny (model prog w) A (getAttr o f true) Q E s₁) E s):wpAny (model prog w) A (eval (.Attribute e f pos) env) Q E s:=
 Attribute_any_ h (by rw[arm_eval_Attribute,hb])
end
def Li(K:W.Frag)(ta:TE)(f:Str):TE:=λσ H Q=>ta σ H λx H1=>∃a C dx fs v,x=.ref a/\H1 a=some (.ins C dx fs)/\dj K C/\bu K C f/\fs.lookup f=some v/\Q v H1
def UK(K:W.Frag)(ta tv:TE)(f:Str):TS:=λD σ H=>tv σ H λy H1=>ta σ H1 λx H2=>∃a C dx fs,x=.ref a/\H2 a=some (.ins C dx fs)/\dj K C/\bu K C f/\fs.length<1000/\
 D.nx σ (upd H2 a (.ins C dx (aG f y fs)))
def U8(X:Cx)(op:Operator)(rd:V->V->Hp->VK->Prop):Prop:=
 ∀(p_:List (Addr×Obj)) (s:Shared) (σ:St) (H:Hp) (x y:V) (u v:Value) (Q:VK),Inv X p_ σ H s->RelV x u->RelV y v->rd x y H Q->wpAny (model X.prog X.w) X.A (inplaceOp op u v) (EP X p_ σ Q) X.xe s
def aej(K:W.Frag)(ta tv:TE)(rd:V->V->Hp->VK->Prop)(f:Str):TS:=λD σ H=>ta σ H λx H1=>∃a C dx fs v,x=.ref a/\H1 a=some (.ins C dx fs)/\dj K C/\bu K C f/\fs.lookup f=some v/\
 tv σ H1 λy H2=>rd v y H2 λz H3=>∃Cg lY,H3 a=some (.ins C Cg lY)/\lY.length<1000/\D.nx σ (upd H3 a (.ins C Cg (aG f z lY)))
section
variable{X:Cx}{o e value:Expr}{f:Str}{pos pos' v9:Pos}{ta tv:TE}
theorem bf(he:PE X e ta)(hb:GR e f X.env (eval e X.env)=eval e X.env):PE X (.Attribute e f pos) (Li X.K ta f):=by
 intro p_ s σ H Q I h;refine afh hb (aV (he p_ s σ H _ I h) λu s1 ⟨x,H1,I1,rx,a,C,dx,fs,v,ex,ea,c,n,l,q⟩=>?_);subst ex;obtain rfl:u=c8 a:=rx;exact Po I1 ea c n l λu' s2 I2 ru=>⟨v,H1,I2,ru,q⟩
theorem gi(ha:PE X o ta)(hv:PE X value tv)(hs:HS value (some (.Attribute o f pos')) pos.line X.env=pure false):PS X (.Assign [.Attribute o f pos'] value pos) (UK X.K ta tv f):=by
 intro p_ s σ H D I h;refine plainObj_wpAny_Assign_Attribute (aV (hv p_ s σ H _ I h) λu s1 ⟨y,H1,I1,ry,q⟩=>aV (ha p_ s1 σ H1 _ I1 q) λov s2 ⟨x,H2,I2,rx,a,C,dx,fs,ex,ea,c,n,l,q2⟩=>?_) hs;subst ex;obtain rfl:ov=c8 a:=rx;exact Pd I2 ea c n l ry λs3 I3=>⟨σ,_,I3,q2⟩
theorem abd{op:Operator}{rd:V->V->Hp->VK->Prop}(ha:PE X o ta)(hv:PE X value tv)(hop:U8 X op rd):PS X (.AugAssign (.Attribute o f v9) op value pos) (aej X.K ta tv rd f):=by
 intro p_ s σ H D I h;refine wpAny_AugAssign_AttributeAny (aV (ha p_ s σ H _ I h) λov s1 ⟨x,H1,I1,rx,a,C,dx,fs,v,ex,ea,c,n,l,q⟩=>?_);subst ex;obtain rfl:ov=c8 a:=rx;refine Po I1 ea c n l λu s2 I2 ru=>aV (hv p_ s2 σ H1 _ I2 q) λw3 s3 ⟨y,H2,I3,ry,q3⟩=>aV (hop p_ s3 σ H2 v y u w3 _ I3 ru ry q3) λw4 s4 ⟨z,H3,I4,rz,Cg,lY,ea',l',q4⟩=>?_;exact Pd I4 ea' c n l' rz λs5 I5=>⟨σ,_,I5,q4⟩
def akc:V->V->Hp->VK->Prop:=λx y H Q=>∃i j,x=.int i/\y=.int j/\Q (.int (i+j)) H
theorem agm:U8 X .Add akc:=by
 rintro p_ s σ H x y u v Q I rx ry ⟨i,j,rfl,rfl,q⟩;obtain⟨t,rfl⟩:=(show ∃t,u=gG i t from rx);obtain⟨t',rfl⟩:=(show ∃t',v=gG j t' from ry);exact PyProof.Rows.iadd_int ⟨.int (i+j),H,I.tok _,⟨_,rfl⟩,q⟩
end
section
variable{X:Cx}{p_:List (Addr×Obj)}{σ:St}{H:Hp}{s:Shared}{A:Around}{E:Value->Shared->Prop}{Q:Value->Shared->Prop}{c:Value}{b:Bool}
inductive fX (K:W.Frag) (H:Hp):V->Value->Prop where
 | aE:fX K H .aE (.type "NoneType")
 | bl (x:Bool):fX K H (.bl x) (.type "bool")
 | int (i:Int):fX K H (.int i) (.type "int")
 | str (x:Str):fX K H (.str x) (.type "str")
 | qV (x:UInt64):fX K H (.qV x) (.type "float")
 | lst {a:Addr} {xs:List V} (e:H a=some (.lst xs)):fX K H (.ref a) (.type "list")
 | jU {a:Addr} {o:Obj} {xs:List V} (e:H a=some (.jU o (.lst xs))):fX K H (.ref a) (.type "list")
 | tup {a:Addr} {xs:List V} (e:H a=some (.tup xs)):fX K H (.ref a) (.type "tuple")
 | dK {a:Addr} {fg:List (Key×V)} (e:H a=some (.dK fg)):fX K H (.ref a) (.type "dict")
 | dT {a:Addr} {fg:List (List Key×V)} (e:H a=some (.dT fg)):fX K H (.ref a) (.type "dict")
 | ins {a C dx:Addr} {fs:List (Str×V)} (e:H a=some (.ins C dx fs)) (cl:dj K C) (ha:W.findIn K (.ref C) "__class__" = some (some (.builtin "object.__class__")))
   (hn:W.specialIn K (.builtin "object.__class__") "__get__" = some (some (.builtin "getset_descriptor.__get__"))) (zC:W.takesIn K (.builtin "object.__class__")=some true)
   (hm:W.mroIn K C (.type "object")=some true):fX K H (.ref a) (.ref C)
theorem abF{x:V}{u t:Value}(I:Inv X p_ σ H s)(rx:RelV x u)(ty:fX X.K H x t)(e:W.kitOne X.K t c=some b)(h:∀tk,Q (.bool b) { s with toks:=tk }) :
  wpAny (model X.prog X.w) A (call (.builtin "isinstance") [u,c]) Q E s:=by
 cases ty with
 | aE=>cases (show u=eK from rx);exact W.kia_one W.kitx_none I.cR mj e (λz=>nomatch z) h
 | bl y=>cases (show u=oY y from rx);exact W.kia_one W.kitx_bool I.cR mj e (λz=>nomatch z) h
 | int i=>obtain⟨t,q⟩:=(show ∃t,u=gG i t from rx);cases q;exact W.kia_one W.kitx_int I.cR mj e (λz=>nomatch z) h
 | str y=>obtain⟨t,q⟩:=(show ∃t,u=HX y t from rx);cases q;exact W.kia_one W.kitx_str I.cR mj e (λz=>nomatch z) h
 | qV y=>obtain⟨t,q⟩:=(show ∃t,u=Hj y t from rx);cases q;exact W.kia_one W.kitx_float I.cR mj e (λz=>nomatch z) h
 | @lst a xs ea=>
  cases (show u=c8 a from rx);obtain⟨_,_,n,_,h1⟩:=(show eX X.prog X.w H s.heap a (.lst xs) from I.aL a _ ea);exact W.kia_one W.kitx_list I.cR ⟨_,h1,rfl⟩ e (λz=>nomatch z) h
 | @jU a ob xs ea=>
  cases (show u=c8 a from rx);obtain⟨_,_,_,n,_,h1⟩:=(show eX X.prog X.w H s.heap a (.jU ob (.lst xs)) from I.aL a _ ea);exact W.kia_one W.kitx_list I.cR ⟨_,h1,rfl⟩ e (λz=>nomatch z) h
 | @tup a xs ea=>
  cases (show u=c8 a from rx);obtain⟨_,_,_,p⟩:=(show eX X.prog X.w H s.heap a (.tup xs) from I.aL a _ ea);obtain⟨o,h1,h2,_⟩:=p;exact W.kia_one W.kitx_tuple I.cR ⟨o,h1,h2⟩ e (λz=>nomatch z) h
 | @dK a fg ea=>
  cases (show u=c8 a from rx);obtain⟨_,_,vs,_,p⟩:=(show eX X.prog X.w H s.heap a (.dK fg) from I.aL a _ ea);obtain⟨o,es,ep,h1,h2,_⟩:=p;exact W.kia_one W.kitx_dict I.cR ⟨o,h1,h2.1⟩ e (λz=>nomatch z) h
 | @dT a fg ea=>
  cases (show u=c8 a from rx);obtain⟨_,_,xs,_,o,es,ep,h1,h2,_⟩:=(show eX X.prog X.w H s.heap a (.dT fg) from I.aL a _ ea);exact W.kia_one W.kitx_dict I.cR ⟨o,h1,h2.1⟩ e (λz=>nomatch z) h
 | @ins a C dx fs ea cl ha hn zC hm=>
  cases (show u=c8 a from rx);obtain⟨mA,O,_⟩:=AU I.aL ea;obtain⟨od,J,_⟩:=O.look;exact W.kia_one (W.kitx_own (cl.get _) cl.hd ha hn zC hm) I.cR J e (λz=>nomatch z) h
end
structure eI(k:Nat)(A:Around):Prop where
 hd:A.handled=none
 dp:A.depth+3*k+5<Cv
 un:A.units+16*k+200<cLine
theorem eI.mono{j k:Nat}{A:Around}(r:eI k A)(h:j<=k):eI j A:=⟨r.hd,by have:=r.dp;omega,by have:=r.un;omega⟩
theorem eI.deeper{k:Nat}{A:Around}(r:eI (k+1) A)(env:Env):eI k (A.deeper env):=
 ⟨r.hd,by have:=r.dp;show A.depth+1+3*k+5<_;omega,by have:=r.un;show A.units+3+16*k+200<_;omega⟩
theorem aaI{A:Around}{C:Addr}{us:List Value}{kw:List (Str×Value)}:(A.under (.builtin "type.__call__" ⟨.ref C::us,kw⟩)).depth=A.depth+1:=by
 first | rfl | simp[O3,Code.weight,Code.isCreation,Code.isGuard,Code.isCaller,Code.frames,Code.isFrame,guardIds]
theorem aaH{A:Around}{C:Addr}{us:List Value}{kw:List (Str×Value)}:(A.under (.builtin "type.__call__" ⟨.ref C::us,kw⟩)).units=A.units+1:=by
 first | rfl | simp[O3,Code.cUnits,Code.frames,Code.isFrame]
theorem eI.make{k:Nat}{A:Around}(r:eI (k+1) A)(C:Addr)(us:List Value)(kw:List (Str×Value)):eI k (A.under (.builtin "type.__call__" ⟨.ref C::us,kw⟩)):=
 ⟨r.hd,by have:=r.dp;rw[aaI];omega,by have:=r.un;rw[aaH];omega⟩
theorem eI.depth{k:Nat}{A:Around}(r:eI k A):A.depth<Cv:=by have:=r.dp;omega
theorem eI.units{k:Nat}{A:Around}(r:eI k A):A.units+64<cLine:=by have:=r.un;omega
abbrev Um:TA:=λ_ H Q=>Q [] H
abbrev ahj(ta:TE)(tr:TA):TA:=λσ H Q=>ta σ H λx H1=>tr σ H1 λxs H2=>Q (x::xs) H2
section
variable{X:Cx}{e:Expr}{es:List Expr}{te:TE}{t:TA}{pos:Pos}
theorem af:PA X [] Um:=λ_ _ _ _ H Q I h=>Calls.spliced_nil ⟨[],H,I,.nil,h⟩
theorem ae(ha:PE X e te)(hr:PA X es t)(hs:cJ (e::es) X.env=(false,eval e X.env)::cJ es X.env:=by rfl):PA X (e::es) (ahj te t):=by
 intro pos p_ s σ H Q I h;rw[hs];show wpAny _ _ (spliced ((false,eval e X.env)::backTo pos (cJ es X.env))) _ _ s;refine Calls.spliced_cons (aV (ha p_ s σ H _ I h) λu s1 ⟨x,H1,I1,r1,q1⟩=>?_);exact aV (hr pos p_ s1 σ H1 _ I1 q1) λus s2 ⟨xs,H2,I2,r2,q2⟩=>⟨x::xs,H2,I2,.cons r1 r2,q2⟩
def ajP(t:TA):TE:=λσ H Q=>t σ H λxs H1=>xs.length<=bN/\∀p,H1 p=none->Q (.ref p) (upd H1 p (.tup xs))
def ajU(t:TA):TE:=λσ H Q=>t σ H λxs H1=>xs.length<=bN/\∀p,H1 p=none->Q (.ref p) (upd H1 p (.lst xs))
theorem jl{x1}(h:PA X es t):PE X (.Tuple es x1 pos) (ajP t):=by
 intro p_ s σ H Q I hq;refine wpAny_Tuple_spliced (aV (h pos p_ s σ H _ I hq) λus s1 ⟨xs,H1,I1,r,z,q⟩=>⟨by rw[<-r.length];exact z,?_⟩);have hf:H1 s1.heap.objs.size=none:=I1.aL.fresh (aB _);refine⟨.ref s1.heap.objs.size,upd H1 s1.heap.objs.size (.tup xs),I1.laid (t':=s1.toks) (λb u e=>bc _ e) (aB _) ?_,rfl,q _ hf⟩;exact⟨z,us,r,⟨_,dM _ rfl,rfl,_,rfl⟩⟩
theorem dY(h:PA X es t):PE X (.List es pos) (ajU t):=by
 intro p_ s σ H Q I hq;refine wpAny_List_spliced (aV (h pos p_ s σ H _ I hq) λus s1 ⟨xs,H1,I1,r,z,q⟩=>⟨by rw[<-r.length];exact z,?_⟩);have hf:H1 s1.heap.objs.size=none:=I1.aL.fresh (aB _);refine⟨.ref s1.heap.objs.size,upd H1 s1.heap.objs.size (.lst xs),I1.laid (t':=s1.toks) (λb u e=>bc _ e) (aB _) ?_,rfl,q _ hf⟩;exact⟨z,us,0,r,dM _ rfl⟩
end
abbrev Sp:=List V->Hp->VK->XK->Prop
abbrev lj:=List Env->Hp->Shared->XK->Value->Shared->Prop
structure v8(P:Program)(w:World)(K:W.Frag)(mg:Str->Option Value)(base:Heap)(A:Around)(outer:List Env)(s:Shared)(H:Hp):Prop where
 frames:A.frames=some outer
 mod:Mod K mg base
 bs:∀b o,base.get? b=some o->s.heap.get? b=some o/\H b=none
 lg:base.objs.size<=s.heap.objs.size
 kY:s.heap.FunFrames base outer
 qU:∀b∈jh outer,H b=none
 aL:f9 P w H s.heap
 bare:AllBare s.gens
def CE(outer:List Env)(P:Program)(w:World)(H:Hp)(s:Shared)(Q:VK)(u:Value)(s':Shared):Prop:=
 ∃v H',s'.os=s.os/\AllBare s'.gens/\Un (jh outer) [] H H' s.heap s'.heap/\f9 P w H' s'.heap/\RelV v u/\Q v H'
def CR(CX:lj)(outer:List Env)(P:Program)(w:World)(H:Hp)(s:Shared)(Q:VK)(E:XK)(r:Result)(s':Shared):Prop:=
 match r with
 | .ok (.ret u)=>CE outer P w H s Q u s'
 | .ok _=>False
 | .error e=>CX outer H s E e s'
structure ao(P:Program)(w:World)(K:W.Frag)(mg:Str->Option Value)(base:Heap)(CX:lj)(k:Nat)(f:Addr)(fd:aQ)(ps:List Str)(sp:Sp):Prop where
 len:∀vs H Q E,sp vs H Q E->vs.length=ps.length
 run:∀(A:Around) (outer:List Env) (s:Shared) (H:Hp) (args:Args) (us:List Value) (vs:List V) (Q:VK) (E:XK),eI k A->v8 P w K mg base A outer s H->BindsTo s fd args (ps.zip us)->Vals vs us->sp vs H Q E->
  codeAny (model P w) A (.call (.ref f) args) (CR CX outer P w H s Q E) s
theorem v8.make{P:Program}{w:World}{K:W.Frag}{mg:Str->Option Value}{base:Heap}{A:Around}{outer:List Env}{s:Shared}{H:Hp}(e:v8 P w K mg base A outer s H)(C:Addr)(us:List Value)(kw:List (Str×Value)) :
  v8 P w K mg base (A.under (.builtin "type.__call__" ⟨.ref C::us,kw⟩)) outer s H:=⟨by first | exact e.frames | (simpa[O3,Code.envs,Code.isFrame,pushEnvs]using e.frames),e.mod,e.bs,e.lg,e.kY,e.qU,e.aL,e.bare⟩
section
variable{X:Cx}{p_:List (Addr×Obj)}{σ:St}{H:Hp}{s s':Shared}
theorem Inv.U2(I:Inv X p_ σ H s):v8 X.prog X.w X.K X.mg X.base X.A X.stack s H:=
 ⟨I.ok.frames,I.ok.mod,I.bs,cZ I.ok.lg I.sz,I.stack,I.Dg,I.aL,I.bare⟩
theorem Inv.after{Q:VK}{u:Value}(I:Inv X p_ σ H s)(h:CE X.stack X.prog X.w H s Q u s'):EP X p_ σ Q u s':=by
 obtain⟨v,H',os,bare,un,aL,r,q⟩:=h;obtain⟨hh,g,d,t,os'⟩:=s';obtain rfl:os'=s.os:=os;exact⟨v,H',I.call (h':=hh) (g':=g) (d':=d) (t':=t) (ch:=[]) un aL bare λb z=>absurd z (by simp),r,q⟩
end
abbrev Tp(sp:Sp)(dvs:List V)(E:XK)(t:TA):TE:=λσ H Q=>t σ H λvs H1=>sp (vs++dvs) H1 Q E
def Kn(C:Addr)(m:Str)(sp:Sp)(dvs:List V)(E:XK)(ta:TE)(t:TA):TE:=λσ H Q=>ta σ H λx H1=>∃a dx fs,x=.ref a/\H1 a=some (.ins C dx fs)/\fs.lookup m=none/\
 t σ H1 λvs H2=>sp (x::(vs++dvs)) H2 Q E
def ahh(C:Addr)(sp:Sp)(dvs:List V)(E:XK)(t:TA):TE:=λσ H Q=>t σ H λvs H1=>∀x dx,H1 x=none->H1 dx=none->dx≠x->
 sp (.ref x::(vs++dvs)) (upd (upd H1 dx (.own x)) x (.ins C dx [])) (λv H2=>v=.aE/\Q (.ref x) H2) E
def Binds(K:W.Frag)(fd:aQ)(ps:List Str)(ds:List Value):Prop:=
 ∀(s:Shared) (us:List Value),K.In s.heap->(us++ds).length=ps.length->BindsTo s fd ⟨us,[]⟩ (ps.zip (us++ds))
theorem Binds.all{K:W.Frag}{fd:aQ}{ps:List Str}(h:∀us:List Value,us.length=ps.length->r9 fd ⟨us,[]⟩=pure (ps.zip us)):Binds K fd ps []:=λs us _ hl=>by
 rw[tu]at hl ⊢;exact .of_eq (h us hl)
def Passes(CX:lj)(X:Cx)(E:XK):Prop:=∀(p_:List (Addr×Obj)) (σ:St) (H:Hp) (s:Shared) (e:Value) (s':Shared),Inv X p_ σ H s->CX X.stack H s E e s'->X.xe e s'
section
variable{X:Cx}{CX:lj}{k:Nat}{f C:Addr}{fd:aQ}{ps:List Str}{sp:Sp}{dvs:List V}{ds:List Value}{E:XK}{x m:Str}{p pos apos:Pos}{e o:Expr}{es:List Expr}{ta:TE}{t:TA}
theorem yr{p_:List (Addr×Obj)}{σ:St}{H:Hp}{s:Shared}{Q:VK}{us:List Value}{vs:List V}(F:ao X.prog X.w X.K X.mg X.base CX k f fd ps sp)(hr:eI k X.A)(hb:Binds X.K fd ps ds)(hd:Vals dvs ds)(hx:Passes CX X E)
  (I:Inv X p_ σ H s) (r:Vals vs us) (h:sp (vs++dvs) H Q E):wpAny (model X.prog X.w) X.A (call (.ref f) us) (EP X p_ σ Q) X.xe s:=by
 have r2:Vals (vs++dvs) (us++ds):=r.append hd;have hl:(us++ds).length=ps.length:=by rw[<-r2.length];exact F.len _ _ _ _ h
 refine Ap (xR (F.run X.A X.stack s H ⟨us,[]⟩ (us++ds) (vs++dvs) Q E hr I.U2 (hb s us I.cR hl) r2 h) λr s' hq=>?_);cases r with
 | error e=>exact hx p_ σ H s e s' I hq
 | ok fl=>
  cases fl with
  | ret u=>exact I.after hq
  | next=>exact lH hq
  | brk=>exact lH hq
  | cont=>exact lH hq
theorem bx(F:ao X.prog X.w X.K X.mg X.base CX k f fd ps sp)(hr:eI k X.A)(hg:Gl X x)(hm:X.mg x=some (.ref f))(hk:W.keepIn X.K (.ref f)=true)(hb:Binds X.K fd ps ds)(hd:Vals dvs ds)(hx:Passes CX X E)
  (ha:PA X (e::es) t) (nE:(x == ("__debug__" : Str))=false:=by decide) (he:cJ (e::es) X.env=(false,eval e X.env)::cJ es X.env:=by rfl) (dB:(backTo pos (cJ es X.env)).any (·.1)=false:=by rfl) :
  PE X (.Call (.Name x p) (e::es) [] pos) (Tp sp dvs E t):=by
 intro p_ s σ H Q I h;refine z8 (ym I hg hm ?_ nE);refine W.callWith_K (h₀:=X.base) I.ok.mod.uw hk (aV (ha pos p_ s σ H _ I h) λus s1 ⟨vs,H1,I1,r,q⟩=>⟨I1.cR,?_⟩) he dB;exact yr F hr hb hd hx I1 r q
theorem i8{pl:Sem Bool}(he:PE X o ta)(c:dj X.K C)(hm:Meth X.K C m f)(F:ao X.prog X.w X.K X.mg X.base CX k f fd ps sp)(hr:eI k X.A)(hb:Binds X.K fd ps ds)(hd:Vals dvs ds)(hx:Passes CX X E)(ha:PA X (e::es) t)
  (cX:cJ (e::es) X.env=(false,eval e X.env)::cJ es X.env:=by rfl) (dB:(backTo pos (cJ es X.env)).any (·.1)=false:=by rfl)
  (ht:eval (.Call (.Attribute o m apos) (e::es) [] pos) X.env=(do
   let ov <-eval o X.env
   standAt apos.atName
   let (f,first) <-holding [ov] (yc ov m pl)
   Dc pos f first (backTo pos (cJ (e::es) X.env)) (AL pos (Al [] X.env))):=by rfl) :
  PE X (.Call (.Attribute o m apos) (e::es) [] pos) (Kn C m sp dvs E ta t):=by
 intro p_ s σ H Q I h;refine W.methodCall_KW (pl:=pl) (aV (he p_ s σ H _ I h) λu s1 ⟨x,H1,I1,rx,a,dx,fs,ex,ea,l,q⟩=>?_) ht;subst ex;obtain rfl:u=c8 a:=rx;refine CJ I1 ea c hm l ?_;refine W.callWith_K (first:=[.ref a]) (h₀:=X.base) I.ok.mod.uw hm.kp (aV (ha pos p_ s1 σ H1 _ I1 q) λus s2 ⟨vs,H2,I2,r,q2⟩=>⟨I2.cR,?_⟩) cX dB;exact yr (us:=.ref a::us) (vs:=.ref a::vs) F hr hb hd hx I2 (.cons rfl r) q2
theorem vz{pl:Sem Bool}(he:PE X o ta)(c:dj X.K C)(hm:Meth X.K C m f)(F:ao X.prog X.w X.K X.mg X.base CX k f fd ps sp)(hr:eI k X.A)(hb:Binds X.K fd ps ds)(hd:Vals dvs ds)(hx:Passes CX X E)
  (ht:eval (.Call (.Attribute o m apos) [] [] pos) X.env=(do
   let ov <-eval o X.env
   standAt apos.atName
   let (f,first) <-holding [ov] (yc ov m pl)
   Dc pos f first (backTo pos (cJ [] X.env)) (AL pos (Al [] X.env))):=by rfl) :
  PE X (.Call (.Attribute o m apos) [] [] pos) (Kn C m sp dvs E ta Um):=by
 intro p_ s σ H Q I h;refine W.methodCall_KW (pl:=pl) (aV (he p_ s σ H _ I h) λu s1 ⟨x,H1,I1,rx,a,dx,fs,ex,ea,l,q⟩=>?_) ht;subst ex;obtain rfl:u=c8 a:=rx;refine CJ I1 ea c hm l ?_;exact W.callWith_K0 (first:=[.ref a]) I1.cR hm.kp (yr (us:=[.ref a]) (vs:=[.ref a]) F hr hb hd hx I1 (.cons rfl .nil) q)
structure Mk(K:W.Frag)(C f:Addr):Prop where
 makes:W.makesIn K C=true
 init:W.findIn K (.ref C) "__init__" = some (some (.ref f))
 fn:W.isFn K (.ref f)=true
 kp:W.keepIn K (.ref C)=true
theorem acu{p_:List (Addr×Obj)}{σ:St}{H:Hp}{s:Shared}{Q:VK}{us:List Value}{vs:List V}(M:Mk X.K C f)(F:ao X.prog X.w X.K X.mg X.base CX k f fd ps sp)(hr:eI (k+1) X.A)(hb:Binds X.K fd ps ds)(hd:Vals dvs ds)
  (hx:Passes CX X E) (I:Inv X p_ σ H s) (r:Vals vs us)
  (h:∀x dx,H x=none->H dx=none->dx≠x->sp (.ref x::(vs++dvs)) (upd (upd H dx (.own x)) x (.ins C dx [])) (λv H2=>v=.aE/\Q (.ref x) H2) E) :
  wpAny (model X.prog X.w) X.A (call (.ref C) us) (EP X p_ σ Q) X.xe s:=by
 have hq:=h (s.heap.objs.size+1) s.heap.objs.size (I.aL.fresh (jL _)) (I.aL.fresh (aB _)) (dv (xD _));have I2:=Inv.made (C:=C) I;have r2:Vals (V.ref (s.heap.objs.size+1)::(vs++dvs)) (c8 (s.heap.objs.size+1)::(us++ds)):=.cons rfl (r.append hd)
 have hl:(c8 (s.heap.objs.size+1)::us++ds).length=ps.length:=by
  have e:=r2.length;rw[F.len _ _ _ _ hq]at e;exact e.symm
 refine Ap (ac6 (f:=f) I.cR M.makes M.init (beq_iff_eq.mp M.fn) (xR (F.run _ X.stack _ _ ⟨c8 (s.heap.objs.size+1)::us,[]⟩ (c8 (s.heap.objs.size+1)::(us++ds)) _ _ E (hr.make C us []) (I2.U2.make C us []) (hb _ (c8 (s.heap.objs.size+1)::us) I2.cR hl) r2 hq) λr s' w9=>?_));cases r with
 | error e=>exact hx p_ σ _ _ e s' I2 w9
 | ok fl=>
  cases fl with
  | ret u=>
   obtain⟨v,H',I3,rv,ev,q3⟩:=I2.after w9;subst ev;exact⟨rv,⟨V.ref (s.heap.objs.size+1),H',I3,rfl,q3⟩⟩
  | next=>exact lH w9
  | brk=>exact lH w9
  | cont=>exact lH w9
theorem se(M:Mk X.K C f)(F:ao X.prog X.w X.K X.mg X.base CX k f fd ps sp)(hr:eI (k+1) X.A)(hg:Gl X x)(hm:X.mg x=some (.ref C))(hb:Binds X.K fd ps ds)(hd:Vals dvs ds)(hx:Passes CX X E)
  (ha:PA X (e::es) t) (nE:(x == ("__debug__" : Str))=false:=by decide) (he:cJ (e::es) X.env=(false,eval e X.env)::cJ es X.env:=by rfl) (dB:(backTo pos (cJ es X.env)).any (·.1)=false:=by rfl) :
  PE X (.Call (.Name x p) (e::es) [] pos) (ahh C sp dvs E t):=by
 intro p_ s σ H Q I h;refine z8 (ym I hg hm ?_ nE);refine W.callWith_K (h₀:=X.base) I.ok.mod.uw M.kp (aV (ha pos p_ s σ H _ I h) λus s1 ⟨vs,H1,I1,r,q⟩=>⟨I1.cR,?_⟩) he dB;exact acu M F hr hb hd hx I1 r q
end
section
variable{X:Cx}{CX:lj}{k:Nat}{f C:Addr}{fd:aQ}{ps ks:List Str}{sp:Sp}{E:XK}{x m:Str}{p pos apos Vh:Pos}{e o:Expr}{es:List Expr}{kws:List Keyword}{te ta:TE}{t tk:TA}{nm:Option Str}
structure ami(K:W.Frag)(fd:aQ)(ps ks:List Str)(g:List Value->List Value->List Value)(gV:List V->List V->List V):Prop where
 to:∀(s:Shared) (us ws:List Value),K.In s.heap->(g us ws).length=ps.length->BindsTo s fd ⟨us,ks.zip ws⟩ (ps.zip (g us ws))
 rel:∀{vs:List V} {us:List Value} {zs:List V} {ws:List Value},Vals vs us->Vals zs ws->Vals (gV vs zs) (g us ws)
variable{g:List Value->List Value->List Value}{gV:List V->List V->List V}
end
structure aZ(N P:List Str)(sc:Scope):Prop where
 kind:sc.kind=.function
 co:sc.isCoroutine=false
 gen:sc.isGenerator=false
 nd:N.Nodup
 pre:N.take P.length=P
 par:∀x∈P,sc.names.lookup x=some .local\/sc.names.lookup x=some .cell
 af3:∀y∈sc.names,y.2≠.free
theorem a8{N P:List Str}{sc:Scope}(a:sc.kind=.function:=by rfl)(b:sc.isCoroutine=false:=by rfl)(c:sc.isGenerator=false:=by rfl)(d:N.Nodup:=by decide +kernel)(e:N.take P.length=P:=by rfl)(f:∀x∈P,sc.names.lookup x=some .local\/ sc.names.lookup x=some .cell:=by decide +kernel)(g:∀y∈sc.names,y.2≠.free:=by decide +kernel):aZ N P sc:=⟨a,b,c,d,e,f,g⟩
theorem Qs{kindOf:Str->Option fq}{x:Str}:∀{binds:List (Str×Value)} {m:Str->Option Value},(∀v,(x,v)∉binds)->bindL kindOf binds m x=m x
 | [],_,_=>rfl
 | (n,v)::r,m,h=>by
  unfold bindL;rw[Qs λw hw=>h w (dJ _ hw)]
  split
  ·have:x≠n:=by rintro rfl;exact h v fJ
   simp[this]
  ·rfl
theorem Qu{kindOf:Str->Option fq}{x:Str}:∀{binds:List (Str×Value)} {m:Str->Option Value},(∀v,(x,v)∉binds)->bindC kindOf binds m x=m x
 | [],_,_=>rfl
 | (n,v)::r,m,h=>by
  unfold bindC;rw[Qu λw hw=>h w (dJ _ hw)]
  split
  ·rfl
  ·have:x≠n:=by rintro rfl;exact h v fJ
   simp[this]
theorem Qt{kindOf:Str->Option fq}{x:Str}{v:Value}:∀{P:List Str} {vs:List Value} {i:Nat} {m:Str->Option Value},P.Nodup->P[i]?=some x->vs[i]?=some v->kindOf x=some .local->
  bindL kindOf (P.zip vs) m x=some v
 | [],_,_,_,_,h,_,_=>by simp at h
 | _::_,[],_,_,_,_,h,_=>by simp at h
 | p::P,w::vs,0,m,nd,h1,h2,hk=>by
  simp at h1 h2;subst h1;subst h2;show bindL kindOf ((p,w)::P.zip vs) m p=_;unfold bindL;rw[Qs λv hv=>(Gu.mp nd).1 (OD hv).1,if_pos hk];simp
 | p::P,w::vs,i+1,m,nd,h1,h2,hk=>by
  show bindL kindOf ((p,w)::P.zip vs) m x=_;unfold bindL;exact Qt (i:=i) (Gu.mp nd).2 (by simpa using h1) (by simpa using h2) hk
theorem Qv{kindOf:Str->Option fq}{x:Str}{v:Value}:∀{P:List Str} {vs:List Value} {i:Nat} {m:Str->Option Value},P.Nodup->P[i]?=some x->vs[i]?=some v->kindOf x≠some .local->
  bindC kindOf (P.zip vs) m x=some v
 | [],_,_,_,_,h,_,_=>by simp at h
 | _::_,[],_,_,_,_,h,_=>by simp at h
 | p::P,w::vs,0,m,nd,h1,h2,hk=>by
  simp at h1 h2;subst h1;subst h2;show bindC kindOf ((p,w)::P.zip vs) m p=_;unfold bindC;rw[Qu λv hv=>(Gu.mp nd).1 (OD hv).1,if_neg hk];simp
 | p::P,w::vs,i+1,m,nd,h1,h2,hk=>by
  show bindC kindOf ((p,w)::P.zip vs) m x=_;unfold bindC;exact Qv (i:=i) (Gu.mp nd).2 (by simpa using h1) (by simpa using h2) hk
def start(N:List Str)(vs:List V):St:=vs.map some++cY (N.length-vs.length) none
def oj(CX:lj)(P:Program)(w:World)(K:W.Frag)(mg:Str->Option Value)(base:Heap)(N:List Str)(qual:Str)(scope:Scope)(f:Addr)(cd:Value)(A:Around)(outer:List Env)(s:Shared)(H:Hp)(E:XK):Cx where
 prog:=P
 w:=w
 K:=K
 mg:=mg
 base:=base
 A:=A.deeper (envOfC qual scope s.heap.objs.size f cd)
 N:=N
 s₀:=s
 H₀:=H
 env:=envOfC qual scope s.heap.objs.size f cd
 outer:=outer
 stack:=envOfC qual scope s.heap.objs.size f cd::outer
 ex:=[]
 calm:=true
 fn:=λ_=>true
 pn:=[]
 xe:=λe s'=>wpAny (model P w) (A.deeper (envOfC qual scope s.heap.objs.size f cd)) (leaving (envOfC qual scope s.heap.objs.size f cd) e) (λ_ wN=>CX outer H s E e wN) (λe' wN=>CX outer H s E e' wN) s'
theorem Rc{sc:Scope}{n:Nat}{x:Str}(h:sc.names.lookup x=some .cell):∃c,(cellsFrom n sc.names []).lookup x=some c:=by
 have q:=W.cellsFrom_some sc.names n [] (.inl h);exact Option.isSome_iff_exists.mp q
theorem abG{CX:lj}{P:Program}{w:World}{K:W.Frag}{mg:Str->Option Value}{base:Heap}{N ps:List Str}{qual:Str}{scope:Scope}{f:Addr}{cd:Value}{A:Around}{outer:List Env}{s s1:Shared}{H:Hp}{E:XK}{us:List Value}{vs:List V}
  (S:aZ N ps scope) (hd:A.handled=none) (e0:v8 P w K mg base A outer s H) (hl:vs.length=ps.length) (r:Vals vs us)
  (x:InCallC s s.heap.objs.size (bindL (envOfC qual scope s.heap.objs.size f cd).kindOf (ps.zip us) λ_=>none) (cellsFrom (s.heap.objs.size+1) scope.names []) (bindC (envOfC qual scope s.heap.objs.size f cd).kindOf (ps.zip us) λ_=>none) s1) :
  Inv (oj CX P w K mg base N qual scope f cd A outer s H E) [] (start N vs) H s1:=by
 have dB:ps.length<=N.length:=by have:=congrArg List.length S.pre;rw[gz]at this;omega
 obtain⟨h1,tk,rfl,hk⟩:=x.done;have q8:∀b:Addr,b∉(oj CX P w K mg base N qual scope f cd A outer s H E).ex:=λb z=>absurd (show b∈([]:List Addr) from z) (by simp);refine⟨⟨e0.mod,S.kind,rfl,rfl,aB _,λy z c h1 h2=>?_,λy hy=>?_,λy c _ h=>?_,λ_=>hd,YR e0.frames,.inr ⟨rfl,rfl⟩,λb z=>absurd z (q8 b),e0.bs,e0.lg,λb _ _=>q8 b,λb z=>absurd z (q8 b),e0.kY,e0.qU⟩,rfl,e0.bare,Un.kept hk,⟨_,x.toInCall.ns,λi y v h1 h2 h3=>?_⟩,λy c h=>⟨_,x.cell y c h⟩,e0.aL.fresh (aB _),λy c h=>?_,λp hp=>absurd (show p∈([]:List (Addr×Obj)) from hp) (by simp),e0.aL.kept hk,?_⟩
 ·exact name_of_addr x.apart (PySem.mem_of_lookup h1) (PySem.mem_of_lookup h2)
 ·have hy:scope.names.lookup y=some .cell\/scope.names.lookup y=some .free:=hy;rcases hy with hy | hy
  ·exact Rc hy
  ·exact absurd rfl (S.af3 _ (PySem.mem_of_lookup hy))
 ·exact cg (x.above y c (PySem.mem_of_lookup h))
 ·have hi:i<vs.length:=by
   unfold start at h2
   by_cases hi:i<vs.length
   ·exact hi
   ·rw[NW (by simpa using hi)]at h2;rw[F8]at h2
    split at h2 <;> cases h2
  have ha:vs[i]?=some v:=by
   unfold start at h2;rw[NY (by simpa using hi),eJ]at h2;cases e:vs[i]? with
   | none=>rw[e]at h2;cases h2
   | some a=>rw[e]at h2;cases h2;rfl
  obtain⟨u,hu,rv⟩:=r.get ha
  have hp:ps[i]?=some y:=by
   rw[<-S.pre,List.getElem?_take_of_lt om];exact h1
  have Wr:ps.Nodup:=by rw[<-S.pre];exact S.nd.sublist (Zc _ _)
  refine⟨u,rv,?_⟩;rcases S.par y (bw hp)with k | k
  ·exact .inl ⟨k,Qt Wr hp hu k⟩
  ·obtain⟨c,e⟩:=Rc (n:=s.heap.objs.size+1) k;refine .inr ⟨.inl k,c,e,?_⟩;have q:=x.cell y c e;rw[Qv Wr hp hu (by show scope.names.lookup y≠_;rw[k];decide)]at q;exact q
 ·exact e0.aL.fresh (cg (x.above y c (PySem.mem_of_lookup h)))
 ·unfold start;show _=N.length;rw[fQ,aH,xx];omega
theorem ua{CX:lj}{P:Program}{w:World}{K:W.Frag}{mg:Str->Option Value}{base:Heap}{k:Nat}{f:Addr}{name qual:Str}{params:Arguments}{body:List Stmt}{scope:Scope}{dV kV doc pm aD ct oc:Value}{an od:Option Addr}
  {gQ:Array (Option Value)} {N ps:List Str} {sp:Sp} (lk:K.lookup f=some ⟨oc,od,.func (W.fnOf name qual params body scope dV kV doc pm an aD ct),gQ⟩) (ib:W.codeIn K aD qual=true) (S:aZ N ps scope)
  (len:∀vs H Q E,sp vs H Q E->vs.length=ps.length)
  (sC:∀(A:Around) (outer:List Env) (s:Shared) (H:Hp) (vs:List V) (Q:VK) (E:XK),eI k (A.deeper (envOfC qual scope s.heap.objs.size f aD))->sp vs H Q E->
   ∃t,fG (oj CX P w K mg base N qual scope f aD A outer s H E) body t/\t { nx:=λ_ H'=>Q .aE H',rt:=Q } (start N vs) H) :
  ao P w K mg base CX (k+1) f (W.fnOf name qual params body scope dV kV doc pm an aD ct) ps sp:=by
 refine⟨len,λA outer s H args us vs Q E hr e0 hb r ji=>?_⟩;have hl:=len _ _ _ _ ji;have KX:K.In s.heap:=e0.mod.uw.keeps λb o e=>(e0.bs b o e).1;have lim:s.heap.NoLimit:=e0.mod.nolimit.keeps λb o e=>(e0.bs b o e).1
 have aju:∀y∈ps.zip us,scope.names.lookup y.1=some .local\/(scope.names.lookup y.1=some .cell/\((cellsFrom (s.heap.objs.size+1) scope.names []).lookup y.1).isSome=true):=λ⟨n,v⟩ hy=>by
  rcases S.par n (OD hy).1 with q | q
  ·exact .inl q
  ·exact .inr ⟨q,W.cellsFrom_some _ _ _ (.inl q)⟩
 refine codeAny_call_function hr.depth (KX _ _ lk) rfl S.co S.gen rfl (W.codeRec_of KX ib) (hb _ _ _ _ ?_);refine wpAny_newFunctionEnv_cells S.kind aju λenv he s1 x=>?_;subst he;refine⟨lim.keeps x.toInCall.keep,codeAny_func ?_⟩;obtain⟨t,ht,hq⟩:=sC A outer s H vs Q E (hr.deeper _) ji;have I:Inv (oj CX P w K mg base N qual scope f aD A outer s H E) [] (start N vs) H s1:=abG S hr.hd e0 hl r x;refine iP (ht [] s1 (start N vs) H _ I hq) (λfl s' hs=>?_) λe s' hs=>hs
 have fin:∀{σ':St} {H':Hp} {v:V} {u:Value},Inv (oj CX P w K mg base N qual scope f aD A outer s H E) [] σ' H' s'->RelV v u->Q v H'->CE outer P w H s Q u s':=
  λ{σ' H' v u} J rv q=>⟨v,H',J.os,J.bare,J.base,J.aL,rv,q⟩
 cases fl with
 | ret u=>
  obtain⟨v,σ',H',J,rv,q⟩:=hs;exact fin J rv q
 | next=>
  obtain⟨σ',H',J,q⟩:=hs;exact fin (v:=V.aE) (u:=eK) J rfl q
 | brk=>
  obtain⟨_,_,_,q⟩:=hs;exact lH q
 | cont=>
  obtain⟨_,_,_,q⟩:=hs;exact lH q
section
variable{X:Cx}{x:Str}{p pos:Pos}{e:Expr}{es:List Expr}{t:TA}{id T:String}{r:List V->Hp->VK->Prop}
def VQ(r:List V->Hp->VK->Prop)(t:TA):TE:=λσ H Q=>t σ H λvs H1=>r vs H1 Q
theorem bp(hc:jr X (.builtin id) r)(hg:Gl X x)(hm:X.mg x=none)(hv:rW x=some (.builtin id))(ha:PA X (e::es) t)(hn:x ≠ "__name__":=by decide)(nE:(x == ("__debug__" : Str))=false:=by decide)
  (he:cJ (e::es) X.env=(false,eval e X.env)::cJ es X.env:=by rfl) (dB:(backTo pos (cJ es X.env)).any (·.1)=false:=by rfl):PE X (.Call (.Name x p) (e::es) [] pos) (VQ r t):=by
 intro p_ s σ H Q I h;refine z8 (vJ I hg hm hv ?_ hn nE);exact PyProof.Rows.callWith_builtin1 (aV (ha pos p_ s σ H _ I h) λus s1 ⟨vs,H1,I1,r1,q1⟩=>hc p_ s1 σ H1 vs us Q I1 r1 q1) he dB
theorem qo(hc:jr X (.type T) r)(hg:Gl X x)(hm:X.mg x=none)(hv:rW x=some (.type T))(ha:PA X (e::es) t)(hn:x ≠ "__name__":=by decide)(nE:(x == ("__debug__" : Str))=false:=by decide)
  (he:cJ (e::es) X.env=(false,eval e X.env)::cJ es X.env:=by rfl) (dB:(backTo pos (cJ es X.env)).any (·.1)=false:=by rfl):PE X (.Call (.Name x p) (e::es) [] pos) (VQ r t):=by
 intro p_ s σ H Q I h;refine z8 (vJ I hg hm hv ?_ hn nE);exact FV (aV (ha pos p_ s σ H _ I h) λus s1 ⟨vs,H1,I1,r1,q1⟩=>hc p_ s1 σ H1 vs us Q I1 r1 q1) he dB
end
end L2
namespace HT
open PySem PyProof.Rows
section
open PySem.SeqAt
open PySem.AutoSeq1 (wpAny_loadPart')
open PySem.MeetsSeq PySem.MeetsSeq2 PySem.MeetsSeq3
end
section
variable{prog:Program}{w:World}{A:Around}{E:Value->Shared->Prop}{s:Shared}
def cw(n d:Nat):Option Int->Nat
 | none=>d
 | some v=>if v<0 then (v+(n:Int)).toNat else min v.toNat n
theorem acs(n d:Nat):cw n d none=d:=rfl
theorem aei(n d k:Nat):cw n d (some (k:Int))=min k n:=by
 show (if (k:Int)<0 then ((k:Int)+(n:Int)).toNat else min (k:Int).toNat n)=min k n;rw[if_neg om,gy]
theorem afN(n d:Nat)(hd:d<=n)(o:Option Int):cw n d o<=n:=by
 cases o with
 | none=>exact hd
 | some v=>
  show (if v<0 then (v+(n:Int)).toNat else min v.toNat n)<=n
  by_cases hv:v<0
  ·rw[if_pos hv];omega
  ·rw[if_neg hv];exact Nat.min_le_right _ _
theorem RV(v:Int)(n d:Nat):(if v<0 then max (v+(n:Int)) 0 else min v (n:Int))=((cw n d (some v):Nat):Int):=by
 show (if v<0 then max (v+(n:Int)) 0 else min v (n:Int))=(((if v<0 then (v+(n:Int)).toNat else min v.toNat n):Nat):Int)
 by_cases hv:v<0
 ·simp only[if_pos hv];omega
 ·simp only[if_neg hv];omega
theorem aaP(lo hi:Option Int)(n:Nat):N0 lo hi 1 (n:Int)=(((cw n 0 lo:Nat):Int),((cw n n hi:Nat):Int)):=by
 have h1:¬((1:Int)<0):=om;unfold N0;simp only[h1,if_false];refine Prod.ext ?_ ?_
 ·cases lo with
  | none=>rfl
  | some v=>exact RV v n 0
 ·cases hi with
  | none=>rfl
  | some v=>exact RV v n n
theorem aau(i j:Nat):F5 (i:Int) (j:Int) 1=j-i:=by
 unfold F5;have h1:(1:Int) > 0:=om;simp only[h1,if_true,Int.ediv_one]
 split <;> omega
theorem Pc{v:Value}{o:Option Int}{Q:Option Int->Shared->Prop}(p:IsPart v o)(h:Q o s):wpAny (model prog w) A (Builtin.Slice.slicePartIndex v) Q E s:=by
 cases p with
 | none=>exact slicePart_none h
 | int i t=>exact slicePart_int h
theorem Ze{sl:Addr}{vl vu:Value}{lo hi:Option Int}{n:Nat}{Q:Int×Int×Nat->Shared->Prop}(hs:s.heap.IsSliceOf sl vl vu .none)(pl:IsPart vl lo)(pu:IsPart vu hi)
  (h:Q (((cw n 0 lo:Nat):Int),1,cw n n hi-cw n 0 lo) s):wpAny (model prog w) A (Yv (.ref sl) (pure (n:Int))) Q E s:=by
 obtain⟨os,BR,FH,FG⟩:=id hs;unfold Yv Builtin.Slice.sliceFields;refine ag (ag (iO BR FG (x:=vl) rfl (ag (iO BR FG (x:=vu) rfl (ag (iO BR FG (x:=.none) rfl (aF ?_)))))));refine ag (slicePart_none ?_);show wpAny _ _ (if ((1:Int) == 0)=true then _ else _) _ _ s;rw[if_neg qc];refine ag (Pc pl (ag (Pc pu (ag (aF ?_)))));show wpAny _ _ (match N0 lo hi 1 (n:Int)with | (lo,hi)=>pure (lo,(1:Int),F5 lo hi 1)) _ _ s;rw[aaP lo hi n];show wpAny _ _ (pure (((cw n 0 lo:Nat):Int),(1:Int),F5 ((cw n 0 lo:Nat):Int) ((cw n n hi:Nat):Int) 1)) _ _ s;rw[aau];exact aF h
theorem acz(xs:Array Value)(i k:Nat):((List.range k).filterMap λ(m:Nat)=>xs[((i:Int)+(m:Int)*1).toNat]?).toArray=((xs.toList.drop i).take k).toArray:=by
 have e:(λ(m:Nat)=>xs[((i:Int)+(m:Int)*1).toNat]?)=λm=>xs[i+m]?:=by
  funext m
  have:((i:Int)+(m:Int)*1).toNat=i+m:=om;rw[this]
 rw[e];have:=pick_run xs i k;rw[List.filterMap_map]at this;have e2:((λx=>xs[x]?) ∘ λx=>i+x)=λm=>xs[i+m]?:=rfl;rw[e2]at this;rw[this]
theorem Y4{t sl:Addr}{items:Array Value}{vl vu:Value}{lo hi:Option Int}{Q:Value->Shared->Prop}(ht:IsTup s.heap t items)(hs:s.heap.IsSliceOf sl vl vu .none)(pl:IsPart vl lo)(pu:IsPart vu hi)
  (hw:¬(cw items.size 0 lo=0/\cw items.size items.size hi=items.size))
  (h:Q (.ref s.heap.objs.size) { s with heap:=s.heap.push { cls:=.type "tuple",data:=.seq ((items.toList.drop (cw items.size 0 lo)).take (cw items.size items.size hi-cw items.size 0 lo)).toArray } })
  (jB:items.size<=bN):wpAny (model prog w) A (getItem (.ref t) (.ref sl)) Q E s:=by
 have Eb:sizeOk (.seq ((items.toList.drop (cw items.size 0 lo)).take (cw items.size items.size hi-cw items.size 0 lo)).toArray):=by
  show ((items.toList.drop (cw items.size 0 lo)).take (cw items.size items.size hi-cw items.size 0 lo)).toArray.size<=bN;rw[du,gz,Ou,kr];omega
 have hj:cw items.size items.size hi<=items.size:=afN _ _ (aB _) hi;obtain⟨os,BR,FH,FG⟩:=id hs;have hTs:s.TypeIs (.ref sl) "slice":=⟨os,BR,FH⟩;unfold getItem
 try with_reducible refine lD ?_
 first | refine ag (aF ?_) | skip
 refine ag (wpAny_sequenceKey ht.typeIs qc ?_);refine ag (vj (name:=lE "__getitem__") ht.typeIs NV (rO NV ht.typeIs entry_tuple_getitem ?_ (args_tuple_getitem _ _)));show wpAny _ _ (Builtin.Tuple.tupleItemsOf (.ref t) >>= _) _ _ s;refine ag (tupleItemsOf_ ht ?_);refine ag (OU hTs ?_);rw[if_pos qc];refine ag (Ze hs pl pu ?_)
 have hY:¬((((cw items.size 0 lo:Nat):Int) == 0&&(1:Int) == 1&&(cw items.size items.size hi-cw items.size 0 lo) == items.size)=true):=by
  intro q;rw[iG,iG]at q;have q1:((cw items.size 0 lo:Nat):Int)=0:=eq_of_beq q.1.1;have q2:cw items.size items.size hi-cw items.size 0 lo=items.size:=eq_of_beq q.2;exact hw ⟨om,om⟩
 show wpAny _ _ (if (((cw items.size 0 lo:Nat):Int) == 0&&(1:Int) == 1&&(cw items.size items.size hi-cw items.size 0 lo) == items.size)=true then _ else _) _ _ s;rw[if_neg hY,acz]
 first
  | exact ag (m:=F6 _) (oQ (aF ⟨_,rfl,aF h⟩) Eb)
  | exact ag (m:=F6 _) (oQ (ag (aF (aF ⟨_,rfl,aF h⟩))) Eb)
  | exact ag (ag (m:=F6 _) (oQ (aF (aF ⟨_,rfl,aF h⟩)) Eb))
  | exact ag (ag (m:=F6 _) (oQ (aF ⟨_,rfl,aF h⟩) Eb))
end
end HT
namespace L2
open PySem PySem.Spec PyProof.Rows
abbrev TO:=St->Hp->(Option Int->Hp->Prop)->Prop
def PO(X:Cx)(e:Option Expr)(t:TO):Prop:=
 ∀(p_:List (Addr×Obj)) (s:Shared) (σ:St) (H:Hp) (Q:Option Int->Hp->Prop),Inv X p_ σ H s->t σ H Q->
  wpAny (model X.prog X.w) X.A (evalPart e X.env) (λu s'=>∃o H',Inv X p_ σ H' s'/\IsPart u o/\Q o H') X.xe s
def adP:TO:=λ_ H Q=>Q none H
def ahe(t:TE):TO:=λσ H Q=>t σ H λx H1=>∃i,x=.int i/\Q (some i) H1
theorem intsAre_of{ns:List Int}:∀{us:List Value},Vals (ns.map V.int) us->IntsAre us ns:=by
 induction ns with
 | nil=>intro us r;rw[O0]at r;cases r;exact .nil
 | cons n ns ih=>
  intro us r;rw[iz]at r;cases r with
  | cons r1 r2=>
   obtain⟨t,e⟩:=r1;subst e;exact .cons n t (ih r2)
section
variable{X:Cx}{e:Expr}{te:TE}{lo hi:Option Expr}{tl th:TO}{pos p2:Pos}
theorem Dn:PO X none adP:=by
 intro p_ s σ H Q I h;rw[evalPart_none];exact aF ⟨none,H,I,.none,h⟩
theorem Dm(h:PE X e te):PO X (some e) (ahe te):=by
 intro p_ s σ H Q I hw;rw[evalPart_some];refine aV (h p_ s σ H _ I hw) λu s1 ⟨x,H1,I1,r1,q1⟩=>?_;obtain⟨i,rfl,q⟩:=q1;obtain⟨t,rfl⟩:=r1;exact⟨some i,H1,I1,.int i t,q⟩
def EV(X:Cx)(r:V->Option Int->Option Int->Hp->VK->Prop):Prop:=
 ∀(p_:List (Addr×Obj)) (s:Shared) (σ:St) (H:Hp) (x:V) (v vl vu:Value) (lo hi:Option Int) (sl:Addr) (Q:VK),Inv X p_ σ H s->RelV x v->s.heap.IsSliceOf sl vl vu .none->IsPart vl lo->IsPart vu hi->r x lo hi H Q->
  ∃T id,Hu (.type T) "__getitem__" = pure (some (.builtin id))/\s.TypeIs v T/\wpAny (model X.prog X.w) X.A (getItem v (.ref sl)) (EP X p_ σ Q) X.xe s
def tSl(r:V->Option Int->Option Int->Hp->VK->Prop)(te:TE)(tl th:TO):TE:=λσ H Q=>te σ H λx H1=>tl σ H1 λl H2=>th σ H2 λu H3=>r x l u H3 Q
theorem CZ{r:V->Option Int->Option Int->Hp->VK->Prop}(hr:EV X r)(he:PE X e te)(hl:PO X lo tl)(hu:PO X hi th):PE X (.Subscript e (.Slice lo hi none p2) pos) (tSl r te tl th):=by
 intro p_ s σ H Q I h;refine Subscript_ (aV (he p_ s σ H _ I h) λv s1 ⟨x,H1,I1,r1,q1⟩=>?_);refine wpAny_Slice (aV (hl p_ s1 σ H1 _ I1 q1) λvl s2 ⟨l,H2,I2,pl,q2⟩=>aV (hu p_ s2 σ H2 _ I2 q2) λvu s3 ⟨u,H3,I3,pu,q3⟩=>?_);rw[evalPart_none];refine aF ?_;have I4:Inv X p_ σ H3 { s3 with heap:=s3.heap.push { cls:=.type "slice",data:=.fields #[vl,vu,.none] } }:=I3.kept (t':=s3.toks) λb ob q=>bc _ q;obtain⟨T,id,hT,ht,hg⟩:=hr p_ { s3 with heap:=s3.heap.push { cls:=.type "slice",data:=.fields #[vl,vu,.none] } } σ H3 x v vl vu l u s3.heap.objs.size Q I4 r1 (Heap.IsSliceOf.new ..) pl pu q3;show wpAny (model X.prog X.w) X.A (subscriptTail e (.Slice lo hi none p2) v (.ref s3.heap.objs.size)) (EP X p_ σ Q) X.xe { s3 with heap:=s3.heap.push { cls:=.type "slice",data:=.fields #[vl,vu,.none] } };exact tail_any (ops:=[.ref s3.heap.objs.size,v]) ht hT hg (by with_unfolding_all rfl)
def oo(xs:List V)(lo hi:Option Int):List V:=(xs.drop (HT.cw xs.length 0 lo)).take (HT.cw xs.length xs.length hi-HT.cw xs.length 0 lo)
theorem O9(xs:List V)(lo hi:Option Int):(oo xs lo hi).length<=xs.length:=by
 unfold oo;rw[gz,Ou];omega
def UL(K:W.Frag):V->Option Int->Option Int->Hp->VK->Prop:=λx lo hi H Q=>∃a xs,x=.ref a/\ar K H a xs/\
 ¬(HT.cw xs.length 0 lo=0/\HT.cw xs.length xs.length hi=xs.length)/\∀p,H p=none->Q (.ref p) (upd H p (.tup (oo xs lo hi)))
theorem JC:EV X (UL X.K):=by
 intro p_ s σ H x v vl vu lo hi sl Q I rx hs pl pu h;obtain⟨a,xs,rfl,hx,hw,q⟩:=h;cases rx;obtain⟨aj,r,ht,hz⟩:=I.tuple hx;have hlen:aj.toArray.size=xs.length:=by rw[du];exact r.length.symm
 refine⟨"tuple",_,NV.lookup,ht.typeIs,?_⟩;refine HT.Y4 ht hs pl pu (by rw[hlen];exact hw) ?_ (by rw[hlen];exact hz);rw[hlen];refine⟨.ref s.heap.objs.size,_,I.laid (t':=s.toks) (o:=.tup (oo xs lo hi)) (λb ob q=>bc _ q) (aB _) ?_,rfl,q _ (I.aL.fresh (aB _))⟩;exact⟨cZ (O9 xs lo hi) hz,_,(r.drop (HT.cw xs.length 0 lo)).take (HT.cw xs.length xs.length hi-HT.cw xs.length 0 lo),IsTup.new _ _⟩
end
def ni(n:Nat)(i:Int):Option Nat:=if 0<=i then (if i<n then some i.toNat else none) else if -(n:Int)<=i then some (i+n).toNat else none
def fw{α:Type}(xs:List α)(i:Int):Option α:=(ni xs.length i).bind λj=>xs[j]?
theorem RM{n:Nat}{i:Int}{j:Nat}(h:ni n i=some j):HV i n=some j/\j<n/\-(n:Int)<=i/\i<n:=by
 unfold ni at h
 by_cases h0:0<=i
 ·rw[if_pos h0]at h
  by_cases h1:i<n
  ·rw[if_pos h1]at h;have e:i.toNat=j:=eC h;exact⟨by rw[seqIndex_of h0 h1,e],om,om,h1⟩
  ·rw[if_neg h1]at h;cases h
 ·rw[if_neg h0]at h
  by_cases h1:-(n:Int)<=i
  ·rw[if_pos h1]at h;have e:(i+n).toNat=j:=eC h;exact⟨by rw[OV om h1,e],om,h1,om⟩
  ·rw[if_neg h1]at h;cases h
theorem RX{α:Type}{xs:List α}{i:Int}{v:α}(h:fw xs i=some v):∃j,HV i xs.length=some j/\xs[j]?=some v/\j<xs.length/\-(xs.length:Int)<=i/\i<xs.length:=by
 unfold fw at h;cases e:ni xs.length i with
 | none=>rw[e]at h;cases h
 | some j=>
  rw[e]at h;obtain⟨h1,h2,h3,h4⟩:=RM e;exact⟨j,h1,h,h2,h3,h4⟩
theorem cD{α:Type}{xs:List α}{j:Nat}{v:α}(h:xs[j]?=some v):fw xs (j:Int)=some v:=by
 have hj:j<xs.length:=(dC.mp h).1
 have e:ni xs.length (j:Int)=some j:=by
  unfold ni;rw[if_pos om,if_pos om];simp
 unfold fw;rw[e];exact h
theorem Rg{α:Type}(xs:List α)(v:α):fw (xs++[v]) (-1)=some v:=by
 have hl:(xs++[v]).length=xs.length+1:=by simp
 have e:ni (xs++[v]).length (-1)=some xs.length:=by
  unfold ni;rw[hl,if_neg qc,if_pos om]
  congr 1
  omega
 unfold fw;rw[e];show (xs++[v])[xs.length]?=some v;simp
def afo(b:Expr):Prop:=∀o i,subscripted b false o i=operate [o,i] (getItem o i)
def zl(X:Cx)(r:R2):Prop:=
 ∀(value slice:Expr) (p_:List (Addr×Obj)) (s:Shared) (σ:St) (H:Hp) (x y:V) (v u:Value) (Q:VK),Inv X p_ σ H s->RelV x v->RelV y u->r x y H Q->
  subscripted slice false v u=operate [v,u] (getItem v u)->wpAny (model X.prog X.w) X.A (subscriptTail value slice v u) (EP X p_ σ Q) X.xe s
def MtR(X:Cx)(id:String)(r:V->List V->Hp->VK->Prop):Prop:=
 ∀(p_:List (Addr×Obj)) (s:Shared) (σ:St) (H:Hp) (x:V) (xs:List V) (v:Value) (us:List Value) (Q:VK),Inv X p_ σ H s->RelV x v->Vals xs us->r x xs H Q->
  wpAny (model X.prog X.w) X.A (call (.builtin id) (v::us)) (EP X p_ σ Q) X.xe s
section
variable{X:Cx}{a b:Expr}{ta tb:TE}{pos:Pos}
theorem aJ{r:R2}(hr:zl X r)(ha:PE X a ta)(hb:PE X b tb)(hs:afo b:=by intro _ _;rfl):PE X (.Subscript a b pos) (y3 r ta tb):=by
 intro p_ s σ H Q I h;exact Subscript_ (LF ha hb I h λv u s2 x y H2 I2 rx ry q=>hr a b p_ s2 σ H2 x y v u Q I2 rx ry q (hs _ _))
def yE(K:W.Frag):R2:=λx y H Q=>∃p xs i v,x=.ref p/\y=.int i/\aq K H p xs/\fw xs i=some v/\Q v H
def yD(K:W.Frag):R2:=λx y H Q=>∃p xs i v,x=.ref p/\y=.int i/\ar K H p xs/\fw xs i=some v/\Q v H
theorem cO:zl X (yE X.K):=by
 intro value slice p_ s σ H x y v u Q I rx ry h hs;obtain⟨p,xs,i,z,rfl,rfl,hq,he,q⟩:=h;cases rx;obtain⟨t,rfl⟩:=ry;obtain⟨aj,r,pl,hz⟩:=I.list hq;obtain⟨j,h1,h2,h3,h4,h5⟩:=RX he;obtain⟨w,ew,wO⟩:=r.get h2;have hl:=r.length;have hn:=A7;have fin:EP X p_ σ Q w s:=⟨z,H,I,wO,q⟩
 by_cases h0:0<=i
 ·have hj:i.toNat=j:=by
   rw[seqIndex_of h0 h5]at h1;exact eC h1
  exact item_listR pl.isList h0 om (by rw[hj];simpa using ew) fin hs
 ·have hj:(i+(aj.toArray.size:Int)).toNat=j:=by
   rw[OV om h4]at h1;rw[du,<-hl];exact eC h1
  exact YH (x:=w) pl.isList.typeIs slot_list_getitem.lookup
   (wpAny_getItem_list_neg (Q:=λr s'=>r=w/\EP X p_ σ Q r s') pl.isList om (by rw[du] <;> omega) om (by rw[hj];simpa using ew) ⟨rfl,fin⟩) hs
theorem cu:zl X (yD X.K):=by
 intro value slice p_ s σ H x y v u Q I rx ry h hs;obtain⟨p,xs,i,z,rfl,rfl,hq,he,q⟩:=h;cases rx;obtain⟨t,rfl⟩:=ry;obtain⟨aj,r,pl,hz⟩:=I.tuple hq;obtain⟨j,h1,h2,h3,h4,h5⟩:=RX he;obtain⟨w,ew,wO⟩:=r.get h2;have hl:=r.length;have hn:=A7;have fin:EP X p_ σ Q w s:=⟨z,H,I,wO,q⟩
 exact YH (x:=w) pl.typeIs slot_tuple_getitem.lookup
  (getItem_tuple (j:=j) (Q:=λr s'=>r=w/\EP X p_ σ Q r s') pl om om (by rw[du,<-hl];exact h1) (by simpa using ew) ⟨rfl,fin⟩) hs
theorem aaG(aj:List Value)(n j:Nat)(u:Value):i7 (·.setIfInBounds j u) { cls:=.type "list",data:=.seq aj.toArray n }={ cls:=.type "list",data:=.seq (aj.set j u).toArray n }:=by
 simp[i7]
theorem Inv.lst{p_:List (Addr×Obj)}{σ:St}{H:Hp}{s:Shared}{p:Addr}{xs:List V}(I:Inv X p_ σ H s)(h:H p=some (.lst xs)) :
  ∃(aj:List Value) (n:Nat),Vals xs aj/\s.heap.get? p=some { cls:=.type "list",data:=.seq aj.toArray n }/\xs.length<=bN:=by
 obtain⟨z,aj,n,r,e⟩:=I.aL p _ h;exact⟨aj,n,r,e,z⟩
theorem Inv.age{p_:List (Addr×Obj)}{σ:St}{H:Hp}{s:Shared}{p:Addr}{xs ys:List V}{aj k8:List Value}{n n':Nat}{f:Obj->Obj}(I:Inv X p_ σ H s)(h:H p=some (.lst xs))
  (ho:s.heap.get? p=some { cls:=.type "list",data:=.seq aj.toArray n }) (hf:f { cls:=.type "list",data:=.seq aj.toArray n }={ cls:=.type "list",data:=.seq k8.toArray n' }) (r:Vals ys k8) (hz:ys.length<=bN) (t:Nat) :
  Inv X p_ σ (upd H p (.lst ys)) { s with heap:=s.heap.update p f,toks:=t }:=by
 have e:(s.heap.update p f).get? p=some { cls:=.type "list",data:=.seq k8.toArray n' }:=by
  rw[rH f ho (by rw[hf] <;> rfl),hf]
 refine I.write (x:=p) (e:=p) (by rw[h];trivial) (.inl rfl) (λb u hb q=>(xw _ _ (eT hb)).trans q) ⟨_,e⟩ ?_;exact⟨hz,k8,n',r,e⟩
def ahu:V->V->V->Hp->(Hp->Prop)->Prop:=λo i v H Q=>∃p xs k j,o=.ref p/\i=.int k/\H p=some (.lst xs)/\ni xs.length k=some j/\Q (upd H p (.lst (xs.set j v)))
theorem set_list:LJ X ahu:=by
 intro p_ s σ H o i v ov iv u Q I ro ri rv h;obtain⟨p,xs,k,j,rfl,rfl,hp,hj,q⟩:=h;cases ro;obtain⟨t,rfl⟩:=ri;obtain⟨aj,n,r,ho,hz⟩:=I.lst hp;obtain⟨h1,h2,h3,h4⟩:=RM hj;have hl:=r.length;have hn:=A7
 have I':Inv X p_ σ (upd H p (.lst (xs.set j v))) { s with heap:=s.heap.update p (i7 (·.setIfInBounds j u)) }:=
  I.age hp ho (aaG aj n j u) (r.set rv j) (by rw[iy];exact hz) s.toks
 by_cases h0:0<=k
 ·have hk:k.toNat=j:=by
   rw[seqIndex_of h0 h4]at h1;exact eC h1
  exact W.ki_setAt ho h0 om (by rw[du,<-hl];exact h4) (by rw[hk];exact⟨_,I',q⟩)
 ·have hk:(k+(aj.toArray.size:Int)).toNat=j:=by
   rw[OV om h3]at h1;rw[du,<-hl];exact eC h1
  exact W.ki_setBack ho om (by rw[du,<-hl];exact h3) om (by rw[hk];exact⟨_,I',q⟩)
theorem VS(i:Int)(n d:Nat):max 0 (min (if i<0 then i+(n:Int) else i) (n:Int))=((HT.cw n d (some i):Nat):Int):=by
 show _=(((if i<0 then (i+(n:Int)).toNat else min i.toNat n:Nat)):Int)
 by_cases h:i<0
 ·rw[if_pos h,if_pos h];lia
 ·rw[if_neg h,if_neg h];lia
theorem ZM(lo hi:Option Int)(n:Nat):(sliceBounds lo hi none n).1=((HT.cw n 0 lo:Nat):Int)/\(sliceBounds lo hi none n).2.1=((HT.cw n n hi:Nat):Int)/\(sliceBounds lo hi none n).2.2=1:=by
 refine⟨?_,?_,rfl⟩
 ·cases lo with
  | none=>rfl
  | some i=>exact(VS i n 0)
 ·cases hi with
  | none=>rfl
  | some i=>exact(VS i n n)
theorem Zz(aj:List Value)(lo hi:Option Int):slicePick aj.toArray lo hi none=((aj.drop (HT.cw aj.length 0 lo)).take (HT.cw aj.length aj.length hi-HT.cw aj.length 0 lo)).toArray:=by
 obtain⟨h1,h2,h3⟩:=ZM lo hi aj.toArray.size;unfold slicePick;rw[h1,h2,h3];simp only[sliceRange_one,pick_run,du] <;> rfl
def aj7(K:W.Frag):V->Option Int->Option Int->Hp->VK->Prop:=λx lo hi H Q=>∃a xs,x=.ref a/\aq K H a xs/\∀p,H p=none->Q (.ref p) (upd H p (.lst (oo xs lo hi)))
theorem ad0:EV X (aj7 X.K):=by
 intro p_ s σ H x v vl vu lo hi sl Q I rx hs pl pu h;obtain⟨a,xs,rfl,hx,q⟩:=h;cases rx;obtain⟨aj,r,ht,hz⟩:=I.list hx;have hlen:=r.length;refine⟨"list",_,slot_list_getitem.lookup,ht.isList.typeIs,?_⟩;refine wpAny_getItem_list_slice ht.isList hs pl pu .none (by simp) ?_ (by rw[du] <;> omega);rw[Zz,<-hlen];refine⟨.ref s.heap.objs.size,_,I.laid (t':=s.toks) (o:=.lst (oo xs lo hi)) (λb ob q=>bc _ q) (aB _) ?_,rfl,q _ (I.aL.fresh (aB _))⟩;exact⟨cZ (O9 xs lo hi) hz,_,0,(r.drop (HT.cw xs.length 0 lo)).take (HT.cw xs.length xs.length hi-HT.cw xs.length 0 lo),dM _ rfl⟩
def sr:V->Bool
 | .aE=>true
 | .bl _=>true
 | .int _=>true
 | .str _=>true
 | _=>false
def nj:V->V->Bool
 | .aE,.aE=>true
 | .bl a,.bl b=>a == b
 | .bl a,.int b=>(if a then 1 else 0) == b
 | .int a,.bl b=>a == (if b then 1 else 0)
 | .int a,.int b=>a == b
 | .str a,.str b=>a == b
 | _,_=>false
theorem agx{A:Around}{s:Shared}{y x:V}{u v:Value}(ry:RelV y u)(rx:RelV x v)(fy:sr y=true)(fx:sr x=true):iQ A s u v (nj y x):=by
 cases y with
 | aE=>
  cases ry;cases x with
  | aE=>cases rx;exact iQ.same _
  | bl b=>cases rx;exact iQ.none_bool b
  | int b=>obtain⟨t,rfl⟩:=rx;exact YS b t
  | str b=>obtain⟨t,rfl⟩:=rx;exact iQ.none_str b t
  | _=>exact absurd (show false=true from fx) dg
 | bl a=>
  cases ry;cases x with
  | aE=>cases rx;exact iQ.bool_none a
  | bl b=>cases rx;exact iQ.bool_bool a b
  | int b=>obtain⟨t,rfl⟩:=rx;exact iQ.bool_int a b t
  | str b=>obtain⟨t,rfl⟩:=rx;exact iQ.bool_str a b t
  | _=>exact absurd (show false=true from fx) dg
 | int a=>
  obtain⟨t',rfl⟩:=ry;cases x with
  | aE=>cases rx;exact YT a t'
  | bl b=>cases rx;exact iQ.int_bool a t' b
  | int b=>obtain⟨t,rfl⟩:=rx;exact iQ.int_int a t' b t
  | str b=>obtain⟨t,rfl⟩:=rx;exact iQ.int_str a t' b t
  | _=>exact absurd (show false=true from fx) dg
 | str a=>
  obtain⟨t',rfl⟩:=ry;cases x with
  | aE=>cases rx;exact iQ.str_none a t'
  | bl b=>cases rx;exact iQ.str_bool a t' b
  | int b=>obtain⟨t,rfl⟩:=rx;exact iQ.str_int a t' b t
  | str b=>obtain⟨t,rfl⟩:=rx;exact iQ.str_str a t' b t
  | _=>exact absurd (show false=true from fx) dg
 | _=>exact absurd (show false=true from fy) dg
def sO(x:V)(u:Value):Bool:=match u with
 | .none=>nj .aE x
 | .bool b=>nj (.bl b) x
 | .int i _=>nj (.int i) x
 | .str z _=>nj (.str z) x
 | _=>false
theorem S0{x y:V}{u:Value}(r:RelV y u)(f:sr y=true):sO x u=nj y x:=by
 cases y with
 | aE=>cases r;rfl
 | bl b=>cases r;rfl
 | int i=>obtain⟨t,rfl⟩:=r;rfl
 | str z=>obtain⟨t,rfl⟩:=r;rfl
 | _=>exact absurd (show false=true from f) dg
theorem Js{x:V}:∀{xs:List V} {us:List Value},Vals xs us->xs.all sr=true->us.any (sO x)=xs.any λy=>nj y x
 | _,_,.nil,_=>rfl
 | y::xs,u::us,.cons r t,f=>by
  rw[xM,iG]at f;rw[tE,tE,S0 r f.1,Js t f.2]
theorem IA{A:Around}{s:Shared}{x:V}{v:Value}(rx:RelV x v)(fx:sr x=true):∀{xs:List V} {us:List Value},Vals xs us->xs.all sr=true->∀u∈us,iQ A s u v (sO x u)
 | _,_,.nil,_=>λu hu=>by cases hu
 | y::xs,u::us,.cons r t,f=>λu' hu=>by
  rw[xM,iG]at f;rcases bR.mp hu with rfl | hu
  ·rw[S0 r f.1];exact agx r rx f.1 fx
  ·exact IA rx fx t f.2 u' hu
def wB(x:V)(xs:List V):Bool:=xs.any λy=>nj y x
def rIn(K:W.Frag)(neg:Bool):R2:=λx y H Q=>∃p xs,y=.ref p/\(aq K H p xs\/ar K H p xs)/\sr x=true/\xs.all sr=true/\Q (.bl (if neg then !wB x xs else wB x xs)) H
theorem G9:dW X (jM .NotIn) (rIn X.K true):=by
 intro p_ s σ H x y v u Q I rx ry h;obtain⟨p,xs,rfl,hq,fx,fs,q⟩:=h;cases ry;rcases hq with hq | hq
 ·obtain⟨aj,r,pl,hz⟩:=I.list hq;refine SeqAt.notIn_listAt (sO x) pl.isList (λw hw=>IA rx fx r fs w (by simpa using hw)) ⟨.bl _,H,I,rfl,?_⟩;rw[show aj.toArray.any (sO x)=aj.any (sO x) by simp,Js r fs];exact q
 ·obtain⟨aj,r,pl,hz⟩:=I.tuple hq;refine SeqAt.notIn_tupleAt (sO x) pl (λw hw=>IA rx fx r fs w (by simpa using hw)) ⟨.bl _,H,I,rfl,?_⟩;rw[show aj.toArray.any (sO x)=aj.any (sO x) by simp,Js r fs];exact q
theorem dR:jr X (.builtin "len") (λxs H Q=>∃p ys,xs=[.ref p]/\(aq X.K H p ys\/ar X.K H p ys)/\Q (.int ys.length) H):=by
 intro p_ s σ H xs us Q I r h;obtain⟨p,ys,rfl,hq,q⟩:=h;obtain⟨u,rfl,rx⟩:=vals1 r;cases rx;have hn:=A7;rcases hq with hq | hq
 ·obtain⟨aj,r',pl,hz⟩:=I.list hq;have hlen:=r'.length;exact Calls.call_len_list pl.isList (by simp only[du] <;> omega) ⟨.int ys.length,H,I.tok _,⟨s.toks+1,by rw[du,hlen]⟩,q⟩
 ·obtain⟨aj,r',pl,hz⟩:=I.tuple hq;have hlen:=r'.length;exact len_tuple pl (by simp only[du] <;> omega) ⟨.int ys.length,H,I.tok _,⟨s.toks+1,by rw[du,hlen]⟩,q⟩
theorem rV:jr X (.type "tuple") (λxs H Q=>∃p ys,xs=[.ref p]/\((aq X.K H p ys/\∀l,H l=none->Q (.ref l) (upd H l (.tup ys)))\/(ar X.K H p ys/\Q (.ref p) H))):=by
 intro p_ s σ H xs us Q I r h;obtain⟨p,ys,rfl,h⟩:=h;obtain⟨u,rfl,rx⟩:=vals1 r;cases rx;rcases h with ⟨hq,q⟩ | ⟨hq,q⟩
 ·obtain⟨aj,r',pl,hz⟩:=I.list hq;have hlen:=r'.length;refine call_tuple_list pl.isList (λh' kp=>?_) (by simp only[du] <;> omega);have I1:Inv X p_ σ H { s with heap:=h' }:=I.kept (t':=s.toks) kp
  have I2:Inv X p_ σ (upd H h'.objs.size (.tup ys)) { s with heap:=h'.push { cls:=.type "tuple",data:=.seq aj.toArray } }:=
   I1.laid (t':=s.toks) (λb o e=>bc _ e) (aB _) (show eX X.prog X.w _ _ _ (.tup ys) from ⟨hz,aj,r',IsTup.new _ _⟩)
  exact⟨.ref h'.objs.size,_,I2,rfl,q _ (I1.aL.fresh (aB _))⟩
 ·obtain⟨aj,r',pl,hz⟩:=I.tuple hq;exact call_tuple_same pl ⟨.ref p,H,I,rfl,q⟩
def VN(K:W.Frag)(T:String)(x:V)(H:Hp):Prop:=match x with
 | .str _=>T = "str"
 | .int _=>T = "int"
 | .ref p=>(T = "list"/\∃xs,aq K H p xs)\/(T = "tuple"/\∃o,K.lookup p=some o/\o.cls=.type "tuple"/\o.dict=none)\/
   (T = "dict"/\((∃fg,H p=some (.dK fg))\/∃fg,H p=some (.dT fg)))\/(T = "set"/\∃S n,H p=some (.set S n))
 | _=>False
theorem afu{p_:List (Addr×Obj)}{σ:St}{H:Hp}{s:Shared}{T:String}{x:V}{v:Value}(I:Inv X p_ σ H s)(r:RelV x v)(ty:VN X.K T x H) :
  s.TypeIs v T/\∀a,v=.ref a->∃ob,s.heap.get? a=some ob/\ob.dict=none:=by
 cases x with
 | str z=>
  obtain⟨t,rfl⟩:=r;cases (show T = "str" from ty);exact⟨typeIs_str s z t,λ_ e=>nomatch e⟩
 | int i=>
  obtain⟨t,rfl⟩:=r;cases (show T = "int" from ty);exact⟨typeIs_int s i t,λ_ e=>nomatch e⟩
 | ref p=>
  cases r;rcases ty with ⟨rfl,xs,hq⟩ | ⟨rfl,o,hk,hc,hd⟩ | ⟨rfl,hk⟩ | ⟨rfl,S,n,hk⟩
  ·obtain⟨aj,_,pl,_⟩:=I.list hq;refine⟨pl.isList.typeIs,λa e=>?_⟩;cases e;obtain⟨o,n,e,c,hd,_⟩:=pl;exact⟨o,e,hd⟩
  ·refine⟨⟨o,I.cR p o hk,hc⟩,λa e=>?_⟩;cases e;exact⟨o,I.cR _ o hk,hd⟩
  ·have z:∃o,s.heap.get? p=some o/\o.ExactDict:=by
    rcases hk with ⟨fg,hk⟩ | ⟨fg,hk⟩
    ·obtain⟨_,_,_,_,o,_,_,e,ex,_⟩:=I.aL p _ hk;exact⟨o,e,ex⟩
    ·obtain⟨_,_,_,_,o,_,_,e,ex,_⟩:=I.aL p _ hk;exact⟨o,e,ex⟩
   obtain⟨o,e,ex⟩:=z;refine⟨⟨o,e,ex.1⟩,λa e2=>?_⟩;cases e2;exact⟨o,e,ex.2.1⟩
  ·obtain⟨o,_,_,_,e,ex,_⟩:=I.aL p _ hk;refine⟨⟨o,e,ex.1⟩,λa e2=>?_⟩;cases e2;exact⟨o,e,ex.2.1⟩
 | _=>exact lH ty
abbrev tBM(K:W.Frag)(T:String)(r:V->List V->Hp->VK->Prop)(to:TE)(t:TA):TE:=λσ H Q=>to σ H λx H1=>VN K T x H1/\t σ H1 λxs H2=>r x xs H2 Q
variable{o e:Expr}{es:List Expr}{to:TE}{t:TA}{name:Str}{apos oz:Pos}{T id:String}{r:V->List V->Hp->VK->Prop}
theorem qD(pa:PlainAttrs T)(slot:Slot T name id)(pX:typeOf (.builtin id)=pure (.type "method_descriptor"))(hm:MtR X id r)(ho:PE X o to)(ha:PA X (e::es) t)
  (ajw:GR o name X.env (eval o X.env)=eval o X.env:=by rfl)
  (ali:((backTo oz (cJ (e::es) X.env)).all (λx=>!x.1)&&(AL oz (Al [] X.env)).all (λx=>x.1.isSome)
   && decide ((e::es).length+([]:List Keyword).length+(if ([]:List Keyword).isEmpty then 0 else 1)<30))=true:=by rfl)
  (ajt:(apos.endLine == oz.line)=true:=by rfl) (hs:cJ (e::es) X.env=(false,eval e X.env)::cJ es X.env:=by rfl) (ag0:(backTo oz (cJ es X.env)).any (·.1)=false:=by rfl) :
  PE X (.Call (.Attribute o name apos) (e::es) [] oz) (tBM X.K T r to t):=by
 intro p_ s σ H Q I h;refine wpAny_Call_method_late ajw ali ajt rfl (aV (ho p_ s σ H _ I h) λv s1 ⟨x,H1,I1,r1,ty,q1⟩=>?_);obtain⟨h1,h2⟩:=afu I1 r1 ty;refine⟨T,id,pa,slot,pX,h1,h2,?_⟩;have hA:=ha oz p_ s1 σ H1 _ I1 q1;rw[hs]at hA ⊢;refine Calls.callWith_builtin (by show (false||(backTo oz (cJ es X.env)).any (·.1))=false;rw[ag0] <;> rfl) (Calls.evalArgs_plain ?_);exact aV hA λus s2 ⟨vs,H2,I2,r2,q2⟩=>hm p_ s2 σ H2 x vs v us Q I2 r1 r2 q2
end
def Ms(X:Cx)(id:String)(r:V->List V->Hp->VK->Prop):Prop:=
 ∀(p_:List (Addr×Obj)) (s:Shared) (σ:St) (H:Hp) (x:V) (xs:List V) (v:Value) (us:List Value) (Q:VK),Inv X p_ σ H s->RelV x v->Vals xs us->r x xs H Q->
  wpAny (model X.prog X.w) X.A (call (.builtin id) (v::us)) (EP X p_ σ Q) X.xe s
theorem Vals.one:∀{x:V} {us:List Value},Vals [x] us->∃u,us=[u]/\RelV x u
 | _,_,.cons r .nil=>⟨_,rfl,r⟩
theorem Vals.eraseIdx:∀{xs:List V} {us:List Value} (i:Nat),Vals xs us->Vals (xs.eraseIdx i) (us.eraseIdx i)
 | _,_,_,.nil=>.nil
 | _,_,0,.cons _ t=>t
 | _,_,i+1,.cons r t=>.cons r (Vals.eraseIdx i t)
theorem Vals.rep{xs:List V}{us:List Value}(h:Vals xs us):∀k:Nat,Vals (cY k xs).flatten (cY k us).flatten
 | 0=>.nil
 | k+1=>by
  rw[vn,vn,Cp,Cp];exact Vals.append h (Vals.rep h k)
theorem Qf{α:Type}:∀(l:List α) (i:Nat),(l.eraseIdx i).length<=l.length
 | [],_=>aB _
 | _::_,0=>jL _
 | _::r,i+1=>Cq (Qf r i)
theorem foldl_rep(aj:List Value):∀(k:Nat) (acc:List Value),PJ (λx1 x2=>x1++x2) acc.toArray (cY k aj.toArray)=(acc++(cY k aj).flatten).toArray
 | 0,acc=>by simp
 | k+1,acc=>by
  have e:acc.toArray++aj.toArray=(acc++aj).toArray:=by simp
  have e2:(acc++aj)++(cY k aj).flatten=acc++(cY (k+1) aj).flatten:=by
   rw[vn,Cp,List.append_assoc]
  rw[<-e2,<-foldl_rep aj k (acc++aj),<-e,vn,List.foldl_cons]
section
variable{X:Cx}{p_:List (Addr×Obj)}{σ:St}{H:Hp}{s:Shared}{l b:Addr}{xs ys zs:List V}
theorem Inv.Lu{aj k8:List Value}{n:Nat}{f:Array Value->Array Value}{t':Nat}(I:Inv X p_ σ H s)(hH:H l=some (.lst xs))
  (e:s.heap.get? l=some { cls:=.type "list",data:=.seq aj.toArray n }) (hf:f aj.toArray=k8.toArray) (hv:Vals ys k8) (hz:ys.length<=bN) :
  Inv X p_ σ (upd H l (.lst ys)) { s with heap:=s.heap.update l (i7 f),toks:=t' }:=by
 have q:=PySem.IsL.update e f;rw[hf]at q;refine I.write (x:=l) (e:=l) (by rw[hH];exact trivial) (.inl rfl) (λb' u hb hu=>(xw s.heap (i7 f) (eT hb)).trans hu) ⟨_,q⟩ ?_;exact⟨hz,k8,_,hv,q⟩
theorem Inv.UU{aj:List Value}{t':Nat}(I:Inv X p_ σ H s)(hv:Vals ys aj)(hz:ys.length<=bN) :
  Inv X p_ σ (upd H s.heap.objs.size (.lst ys)) { s with heap:=s.heap.push { cls:=.type "list",data:=.seq aj.toArray },toks:=t' }:=
 I.laid (λ_ _ q=>bc _ q) (aB _) ⟨hz,aj,0,hv,dM _ rfl⟩
theorem Inv.fresh(I:Inv X p_ σ H s):H s.heap.objs.size=none:=I.aL.fresh (aB _)
theorem Inv.sD(I:Inv X p_ σ H s)(hH:H l=some (.lst xs)):xs.length<=bN/\∃(aj:List Value) (n:Nat),Vals xs aj/\xs.length=aj.length/\s.heap.get? l=some { cls:=.type "list",data:=.seq aj.toArray n }:=by
 obtain⟨z,aj,n,r,e⟩:=I.aL l _ hH;exact⟨z,aj,n,r,r.length,e⟩
theorem QR{n:Nat}(h:n<=bN):F7 n=false:=by
 unfold F7;exact decide_eq_false om
end
section
variable{X:Cx}
def aen:V->List V->Hp->VK->Prop:=λx vs H Q=>∃l xs y,x=.ref l/\vs=[y]/\H l=some (.lst xs)/\xs.length<bN/\Q .aE (upd H l (.lst (xs++[y])))
theorem vx:Ms X "list.append" aen:=by
 intro p_ s σ H x vs v us Q I rx rv h;obtain⟨l,xs,y,rfl,rfl,hH,hz,q⟩:=h;cases rx;obtain⟨u,rfl,ru⟩:=rv.one;obtain⟨z,aj,n,r,hl,e⟩:=I.sD hH;refine CK F.slot_list_append ⟨_,e,rfl⟩ F.entry_list_append (F.args_list_append_2 _ _) (PySem.list_append l aj.toArray n u (by rw[du];omega)) ⟨e,?_⟩;refine⟨.aE,_,I.Lu (k8:=aj++[u]) hH e (by simp) (r.append (.cons ru .nil)) ?_,rfl,q⟩;rw[fQ,YK];omega
def aem:V->List V->Hp->VK->Prop:=λx vs H Q=>∃l b xs zs,x=.ref l/\vs=[.ref b]/\H l=some (.lst xs)/\H b=some (.lst zs)/\xs.length+zs.length<=bN/\Q .aE (upd H l (.lst (xs++zs)))
theorem Qc:Ms X "list.extend" aem:=by
 intro p_ s σ H x vs v us Q I rx rv h;obtain⟨l,b,xs,zs,rfl,rfl,hH,hB,hz,q⟩:=h;cases rx;obtain⟨u,rfl,ru⟩:=rv.one;cases ru;obtain⟨z,aj,n,r,hl,e⟩:=I.sD hH;obtain⟨z2,um,n2,r2,nC,e2⟩:=I.sD hB;have jB:aj.toArray.size+um.toArray.size<=bN:=by rw[du,du];omega
 have Le:¬(!aj.toArray.isEmpty&&F7 (aj.toArray.size+um.toArray.size))=true:=by
  rw[QR jB,Bool.and_false];exact dg
 refine CK F.slot_list_extend ⟨_,e,rfl⟩ F.entry_list_extend (F.args_list_extend_2 _ _)
  (AutoSeq1.list_extend_list_list_0 l aj.toArray n b um.toArray n2 Le (by rw[du];omega) om) ⟨e,e2,?_⟩
 refine⟨.aE,_,I.Lu (k8:=aj++um) hH e (by simp) (r.append r2) ?_,rfl,q⟩;rw[fQ];omega
def afP:V->List V->Hp->VK->Prop:=λx vs H Q=>∃l xs i k y,x=.ref l/\vs=[.int i]/\H l=some (.lst xs)/\-(2^63)<=i/\i<2^63/\HV i xs.length=some k/\xs[k]?=some y/\Q y (upd H l (.lst (xs.eraseIdx k)))
theorem acW:Ms X "list.pop" afP:=by
 intro p_ s σ H x vs v us Q I rx rv h;obtain⟨l,xs,i,k,y,rfl,rfl,hH,h1,h2,hk,hy,q⟩:=h;cases rx;obtain⟨u,rfl,ru⟩:=rv.one;obtain⟨t,rfl⟩:=ru;obtain⟨z,aj,n,r,hl,e⟩:=I.sD hH;obtain⟨w,hw,wO⟩:=r.get hy
 refine CK F.slot_list_pop ⟨_,e,rfl⟩ F.entry_list_pop (F.args_list_pop_2 _ _)
  (MeetsSeq.list_pop_at l aj.toArray n i t k w (fitsIndex_both h1 h2) (by rw[du,<-hl];exact hk) (by rw[<-zX];exact hw) (by rw[du];omega)) ⟨e,?_⟩
 refine⟨y,_,I.Lu (k8:=aj.eraseIdx k) hH e ?_ (r.eraseIdx k) ?_,wO,q⟩
 ·show aj.toArray.eraseIdxIfInBounds k=(aj.eraseIdx k).toArray;rw[List.eraseIdxIfInBounds_toArray]
 ·have:=Qf xs k;omega
def aj':R2:=λx y H Q=>∃l b xs zs,x=.ref l/\y=.ref b/\H l=some (.lst xs)/\H b=some (.lst zs)/\xs.length+zs.length<=bN/\∀p,H p=none->Q (.ref p) (upd H p (.lst (xs++zs)))
theorem afT:dW X (nN .Add) aj':=by
 intro p_ s σ H x y v u Q I rx ry h;obtain⟨l,b,xs,zs,rfl,rfl,hH,hB,hz,q⟩:=h;cases rx;cases ry;obtain⟨z,aj,n,r,hl,e⟩:=I.sD hH;obtain⟨z2,um,n2,r2,nC,e2⟩:=I.sD hB;refine PySem.P.add_list e e2 ?_ (by rw[du,du];omega);have ea:aj.toArray++um.toArray=(aj++um).toArray:=by simp
 rw[ea];exact⟨.ref _,_,I.UU (t':=s.toks) (r.append r2) (by rw[fQ];omega),rfl,q _ I.fresh⟩
def aj8:R2:=λx y H Q=>∃l k xs,x=.ref l/\y=.int k/\H l=some (.lst xs)/\-(2^63)<=k/\k<2^63/\xs.length*k.toNat<=bN/\
 ∀p,H p=none->Q (.ref p) (upd H p (.lst (cY k.toNat xs).flatten))
theorem len_rep{α:Type}(xs:List α)(k:Nat):(cY k xs).flatten.length=k*xs.length:=by
 induction k with
 | zero=>simp
 | succ k ih=>rw[vn,Cp,fQ,ih,OZ,Nat.add_comm]
theorem DH:dW X (nN .Mult) aj8:=by
 intro p_ s σ H x y v u Q I rx ry h;obtain⟨l,k,xs,rfl,rfl,hH,h1,h2,hz,q⟩:=h;cases rx;obtain⟨t,rfl⟩:=ry;obtain⟨z,aj,n,r,hl,e⟩:=I.sD hH;have hlen:aj.toArray.size*k.toNat<=bN:=by rw[du,<-hl];exact hz
 have alp:¬aj.toArray.size*k.toNat > (2^63-1)/8:=by
  have:(bN:Nat)<=(2^63-1)/8:=qc;omega
 have alh:¬(!Builtin.List.listFitsIndex k)=true:=by
  rw[fitsIndex_both h1 h2];exact dg
 have Le:¬F7 (aj.toArray.size*k.toNat)=true:=by
  rw[QR hlen];exact dg
 have ak4:PJ (λx1 x2=>x1++x2) #[] (cY (if aj.toArray.isEmpty=true then 0 else k.toNat) aj.toArray)=(cY k.toNat aj).flatten.toArray:=by
  have f0:∀m:Nat,PJ (λx1 x2=>x1++x2) #[] (cY m aj.toArray)=(cY m aj).flatten.toArray:=λm=>by
   have:=foldl_rep aj m [];rw[List.nil_append]at this;exact this
  rw[f0];cases aj with
  | nil=>simp
  | cons a r'=>rw[if_neg (by simp)]
 refine wpAny_binaryOp_repeat_ref (T:="list") (U:="int") qc ⟨_,e,rfl⟩ (λs'=>typeIs_int s' k t) noFill_list_mul F.fills_int_mul F.slot_int_rmul repeat_list F.slot_int_index.lookup
  (CK F.slot_int_rmul (typeIs_int s k t) F.entry_int_rmul (F.args_int_rmul_2 _ _) (int___rmul___int_list k t l aj.toArray n) ⟨e,rfl,⟨_,e,rfl⟩,CK F.slot_list_mul ⟨_,e,rfl⟩ F.entry_list_mul (F.args_list_mul_2 _ _) (AutoListH.list___mul___list_int_3 l aj.toArray n k t alh alp Le) ⟨e,?_⟩⟩)
 rw[ak4];exact⟨.ref _,_,I.UU (t':=s.toks) (r.rep k.toNat) (by rw[len_rep,Nat.mul_comm];exact hz),rfl,q _ I.fresh⟩
end
section
variable{prog:Program}{w:World}{A:Around}{E:Value->Shared->Prop}{s:Shared}
end
section
variable{X:Cx}
end
end L2
namespace Att
open PySem PySem.W PySem.Calls PyProof.Rows
theorem Zn{P:Params}{h:Heap}:∀(ns:List Int) (vs:List Value),WellAll P h vs (ns.map WData.int)->IntsAre vs ns:=by
 intro ns
 induction ns with
 | nil=>
  intro vs w;rw[O0]at w;cases w;exact .nil
 | cons n ns ih=>
  intro vs w;rw[iz]at w;cases w with
  | cons a b=>
   cases a;exact .cons _ _ (ih _ b)
theorem aa9{l:OpenLaw}{n:Nat}(hn:l.most=some n){P:Params}{h:Heap}{args:List WData}{vals:List Value}
  (qR:l.row.toRowW.claim.pre args=true) (rh:WellAll P h vals args) :
  ∃a vs ns,vals=[c8 a]/\args=[WData.list (ns.map WData.int)]/\h.get? a=some { cls:=.type "list",data:=.seq vs.toArray }/\IntsAre vs ns/\ns.length<=n:=by
 have hsh:WShape.hasAll [] args [.list .int]=true:=(pre_splitW qR).1;have hc:l.pre.holds [] { args:=args }=true:=(pre_splitW qR).2;obtain⟨d,r,rfl,h1,h2⟩:=hasAllW_cons hsh;obtain rfl:=hasAllW_nil h2;obtain⟨xs,rfl,h3⟩:=hasW_list h1;obtain⟨ns,rfl⟩:=items_int h3
 have hlen:ns.length<=n:=by
  unfold OpenLaw.pre at hc
  have h4:(WTm.not (.lt (.lit (.int (n:Int))) (.len (.arg 0)))).holds [] { args:=[.list (ns.map .int)] }=true:=by
   have h4:=(holds_andW hc).1;rw[hn]at h4;exact h4
  have h5:=condW_of h4 (w_not (w_lt w_lit (w_len_list (w_arg rfl))));rw[aH]at h5;refine Nat.le_of_not_lt λq=>?_;have q':(n:Int)<((ns.length:Nat):Int):=om
  first
   | (rw[decide_eq_true q']at h5;exact absurd h5 qc)
   | (simp at h5;omega)
 cases rh with
 | cons w1 w2=>
  cases w2;cases w1 with
  | list ho alq=>exact⟨_,_,ns,rfl,rfl,ho,Zn ns _ alq,hlen⟩
theorem abe(l:OpenLaw)(args:List WData):l.row.toRowW.claim.post args (.bool true) args=true:=
 postW_of (r:=l.row.toRowW) (X:=(true == true))
  (show WShape.has [] (.bool true) .bool=true by first | rfl | decide | simp[WShape.has,WShape.arms,WShape.armsAll])
  (show (WTm.eq .res (.lit (.bool true))).value [] { args:=args,res:=some (.bool true),after:=args }=some (.bool (true == true)) from w_eq_bool (w_res rfl) w_lit) rfl
theorem Z8{l:OpenLaw}{n:Nat}{q:Program}{loose:List Str}{XP:(Str->Option Value)->Heap->Prop}{YP:World->Heap->Prop}{d:DefRec}
  (hn:l.most=some n) (Nq:d.params.defaults=[])
  (call:∀(w:World) (s₀ s₁:Shared) (mg mb:Str->Option Value) (fa:Addr) (o:Obj) (pm cd doc:Value) (a:Addr) (vs:List Value) (ns:List Int),Ground q loose [] XP w s₀ mg mb s₁.heap->YP w s₁.heap->
   s₁.heap.get? fa=some o->o.data=.func (docDef d.name d.params d.body d.scope pm cd doc)->s₁.heap.CodeRec cd d.name->mg d.name=some (.ref fa)->
   s₁.heap.get? a=some { cls:=.type "list",data:=.seq vs.toArray }->IntsAre vs ns->ns.length<=n->s₁.gens=#[]->
   codeAny (model l.prog w) callerA (.call (.ref fa) ⟨[.ref a],[]⟩) (λr s'=>r=.ok (.ret (.bool true))/\OldK s₁.heap s'.heap/\s'.os=s₁.os/\AllBare s'.gens) s₁) :
  WalkO q loose XP YP l.row.toRowW d [] (λf vs=>PySem.call f vs):=by
 intro w s₀ s₁ mg mb G Y fa o pm cd doc dV kV ho hd ib hD uP hg args vals as qR amN hrd rh W8;obtain rfl:dV=.none:=Dflts.none hD Nq;obtain rfl:kV=.none:=Dflts.noKw hD;obtain⟨a,vs,ns,rfl,rfl,wt,hints,hlen⟩:=aa9 hn qR rh;refine enter_call (xR (call w s₀ s₁ mg mb fa o pm cd doc a vs ns G Y ho (fd_plain hd) ib uP wt hints hlen hg) λr s' hq=>?_);obtain⟨rfl,h2,h3,h4⟩:=hq;exact⟨.inl ⟨.bool true,.bool true,[],rfl,λ_=>rfl,.bool true,abe l _,λ_=>⟨List.Pairwise.nil,λ_ hm=>(nomatch hm)⟩⟩,h2,h3,h4⟩
section
variable{prog:Program}{w:World}{A:Around}{E:Value->Shared->Prop}{s:Shared}{K:Frag}
end
end Att
namespace L2
open PySem PySem.Spec PyProof.Rows
theorem Hx:∀{vs:List Value} {ns:List Int},IntsAre vs ns->Vals (ns.map V.int) vs
 | _,_,.nil=>.nil
 | _,_,.cons n t h=>.cons ⟨t,rfl⟩ (Hx h)
abbrev au:lj:=λ_ _ _ _ _ _=>False
abbrev E0:XK:=λ_ _ _=>False
theorem aO{X:Cx}:Passes au X E0:=λ_ _ _ _ _ _ _ h=>h.elim
structure aP(K:W.Frag)(x qual:Str)(st:Stmt)(f:Addr)(fd:aQ):Prop where
 ex:∃(oc:Value) (od:Option Addr) (kV doc pm:Value) (an:Option Addr) (aD ct:Value) (gQ:Array (Option Value)),fd=W.fnOf x qual (jN st) (iI st) (aM st) .none kV doc pm an aD ct/\K.lookup f=some ⟨oc,od,.func fd,gQ⟩/\W.codeIn K aD qual=true
 kp:W.keepIn K (.ref f)=true
section
variable{P:Program}{w:World}{K:W.Frag}{mg:Str->Option Value}{base:Heap}
theorem aP.ok{x qual:Str}{st:Stmt}{f:Addr}{fd:aQ}{N ps:List Str}{k:Nat}{sp:Sp}(F:aP K x qual st f fd)(S:aZ N ps (aM st))(len:∀vs H Q E,sp vs H Q E->vs.length=ps.length)
  (sC:∀(aD:Value) (A:Around) (outer:List Env) (s:Shared) (H:Hp) (vs:List V) (Q:VK) (E:XK),eI k (A.deeper (envOfC qual (aM st) s.heap.objs.size f aD))->sp vs H Q E->
   ∃t,fG (oj au P w K mg base N qual (aM st) f aD A outer s H E).uv (iI st) t/\t { nx:=λ_ H'=>Q .aE H',rt:=Q } (start N vs) H):ao P w K mg base au (k+1) f fd ps sp:=by
 obtain⟨oc,od,kV,doc,pm,an,aD,ct,gQ,rfl,lk,ib⟩:=F.ex;refine ua lk ib S len λA outer s H vs Q E hr ji=>?_;obtain⟨t,h,q⟩:=sC aD A outer s H vs Q E hr ji;exact⟨t,h.uv,q⟩
theorem aP.binds{x qual:Str}{st:Stmt}{f:Addr}{fd:aQ}{ps:List Str}(F:aP K x qual st f fd)
  (h:∀(kV doc pm:Value) (an:Option Addr) (aD ct:Value) (us:List Value),us.length=ps.length->r9 (W.fnOf x qual (jN st) (iI st) (aM st) .none kV doc pm an aD ct) ⟨us,[]⟩=pure (ps.zip us)):Binds K fd ps []:=by
 obtain⟨oc,od,kV,doc,pm,an,aD,ct,gQ,rfl,lk,ib⟩:=F.ex;exact .all (h kV doc pm an aD ct)
theorem SX{x qual:Str}{st:Stmt}{f:Addr}{oc:Value}{od an:Option Addr}{gQ:Array (Option Value)}{kV doc pm aD ct:Value}(l:K.lookup f=some ⟨oc,od,.func (W.fnOf x qual (jN st) (iI st) (aM st) .none kV doc pm an aD ct),gQ⟩)
  (c:W.codeIn K aD qual=true) (k:W.keepIn K (.ref f)=true):aP K x qual st f (W.fnOf x qual (jN st) (iI st) (aM st) .none kV doc pm an aD ct):=⟨⟨oc,od,kV,doc,pm,an,aD,ct,gQ,rfl,l,c⟩,k⟩
end
theorem cx{n:Nat}(h:n<=1000):n<bN:=sZ h qc
section
variable{X:Cx}
theorem pv(i:Nat){x:Str}{pos:Pos}(hN:X.N[i]?=some x:=by rfl)(hv:Mq X.env.scope x:=by first | exact aN rfl | exact nR (aN rfl) | exact nR (nR rfl))(hd:(x == ("__debug__" : Str))=false:=by decide)
  (ib:(x == ("__classdict__" : Str))=false:=by decide):PE X (.Name x pos) (qL i):=afR hN hv hd ib
end
theorem dN{A B:Prop}(h:B):if false=true then A else B:=by
 rw[if_neg dg];exact h
theorem iq{A B:Prop}(h:A):if true=true then A else B:=by
 rw[if_pos rfl];exact h
def ah(H H':Hp):Prop:=∀b o,H b=some o->H' b=some o
theorem ah.refl(H:Hp):ah H H:=λ_ _ h=>h
theorem ah.trans{H H1 H2:Hp}(a:ah H H1)(b:ah H1 H2):ah H H2:=λc o h=>b c o (a c o h)
theorem ah.free{H H':Hp}(e:ah H H'){l:Addr}(h:H' l=Option.none):H l=Option.none:=by
 cases q:H l with
 | none=>rfl
 | some o=>
  rw[e l o q]at h;cases h
theorem ah.seq{K:W.Frag}{H H':Hp}{a:Addr}{xs:List V}(e:ah H H')(h:aq K H a xs):aq K H' a xs:=by
 rcases h with (h | ⟨o,h⟩) | h
 ·exact .inl (.inl (e _ _ h))
 ·exact .inl (.inr ⟨o,e _ _ h⟩)
 ·exact .inr h
section
variable{K:W.Frag}{σ:St}{H:Hp}{Q:VK}{p C dx:Addr}{xs:List V}{v:V}{i:Nat}{j:Int}{fs:List (Str×V)}{f:Str}
theorem vr(h:σ[i]?=some (some v))(q:Q v H):qL i σ H Q:=⟨v,h,q⟩
theorem rT(s:ar K H p xs)(a:fw xs j=some v)(q:Q v H):yD K (.ref p) (.int j) H Q:=⟨_,_,_,_,rfl,rfl,s,a,q⟩
theorem rL(s:aq K H p xs)(a:fw xs j=some v)(q:Q v H):yE K (.ref p) (.int j) H Q:=⟨_,_,_,_,rfl,rfl,s,a,q⟩
theorem cL(s:aq K H p xs)(a:fw xs j=some v)(q:Q v H):tC (.int j) σ H λy H2=>yE K (.ref p) y H2 Q:=⟨_,_,_,_,rfl,rfl,s,a,q⟩
theorem vT(h:σ[i]?=some (some (.ref p)))(s:ar K H p xs)(a:fw xs j=some v)(q:Q v H):y3 (yD K) (qL i) (tC (.int j)) σ H Q:=⟨_,h,_,_,_,_,rfl,rfl,s,a,q⟩
theorem vF(h:σ[i]?=some (some (.ref p)))(e:H p=some (.ins C dx fs))(c:dj K C)(n:bu K C f)(l:fs.lookup f=some v)(q:Q v H):Li K (qL i) f σ H Q:=⟨_,h,_,_,_,_,_,rfl,e,c,n,l,q⟩
theorem vM{m:Str}{sp:Sp}{dvs:List V}{E:XK}{t:TA}(h:σ[i]?=some (some (.ref p)))(e:H p=some (.ins C dx fs))(l:fs.lookup m=none)(q:t σ H λvs H2=>sp (.ref p::(vs++dvs)) H2 Q E):Kn C m sp dvs E (qL i) t σ H Q:=⟨_,h,_,_,_,rfl,e,l,q⟩
end
section
variable{K:W.Frag}{σ:St}{H:Hp}{Q:VK}{p C dx:Addr}{v:V}{fs:List (Str×V)}{f:Str}
theorem rM{m:Str}{R:Prop}(e:H p=some (.ins C dx fs))(l:fs.lookup m=none)(q:R):∃a dx fs,V.ref p=.ref a/\H a=some (.ins C dx fs)/\fs.lookup m=none/\R:=⟨_,_,_,rfl,e,l,q⟩
theorem tk{R:Bool->Prop}{k:Bool}(q:R k):∃k',V.bl k=.bl k'/\R k':=⟨k,rfl,q⟩
end
theorem ur{X:Cx}{ss:List Stmt}{t:TS}{D:Ends}{σ:St}{H:Hp}(h:fG X ss t)(q:t D σ H):∃t,fG X ss t/\t D σ H:=⟨t,h,q⟩
section
variable{K:W.Frag}{σ:St}{H:Hp}{Q:VK}{p:Addr}{xs:List V}{v:V}{i j:Nat}
theorem jf(h:σ[i]?=some (some (.ref p)))(e:H p=some (.tup xs))(a:xs[j]?=some v)(q:Q v H):y3 (yD K) (qL i) (tC (.int (j:Int))) σ H Q:=vT h (ar.of e) (cD a) q
theorem Mp(e:H p=some (.lst xs))(a:xs[j]?=some v)(q:Q v H):tC (.int (j:Int)) σ H λy H2=>yE K (.ref p) y H2 Q:=cL (σ:=σ) (aq.of e) (cD a) q
end
end L2
namespace L3
open PySem
def tests(ifs:List Expr)(env:Env):Sem Bool:=
 forIn ifs true λc r=>if r=true then (do let ok <-isTrue c env (eval c env);pure (Gv ok)) else pure (Gv r)
section
variable{prog:Program}{w:World}{A:Around}{R:Result->Shared->Prop}{s:Shared}
theorem abR{elt tg iter:Expr}{ifs:List Expr}{sc:Scope}{pos:Pos}{it acc:Value}{env:Env}(J:Nat->Shared->Prop){EE:Value->Shared->Prop}
  (NC:∀e s',EE e s'->notedBy (model prog w) A env (λe s'=>R (.error e) s') e s')
  (turn:∀n s,J n s->wpAny (model prog w) A (pyNext it) (λr s₁=>(r=none->R (.ok .next) s₁)/\∀v,r=some v->
   wpAny (model prog w) A (Gq tg it v) (λ_ s₂=>wpAny (model prog w) A (assign tg env v) (λ_ s₃=>wpAny (model prog w) A (tests ifs env) (λok s₄=> (ok=true->wpAny (model prog w) A (eval elt env) (λx s₅=>wpAny (model prog w) A (call (.builtin "list.append") [acc,x]) (λ_ s₆=>∃m,m<n/\J m s₆) EE s₅) EE s₄)/\ (ok=false->∃m,m<n/\J m s₄)) EE s₃) EE s₂) EE s₁) EE s)
  (n:Nat) (h:J n s):codeAny (model prog w) A (.compLoop (.ListComp elt [⟨tg,iter,ifs,0⟩] sc pos) 0 it acc env) R s:=by
 refine codeAny_loop rfl J (λn s hJ=>?_) n h;show wpAny _ A ((compTurn (.ListComp elt [⟨tg,iter,ifs,0⟩] sc pos) 0 it acc env).onRaise _) _ _ s;refine wpAny_noted (iP (E:=EE) ?_ (λ_ _ q=>q) λe s' q=>NC e s' q);rw[compTurn_list];refine ag (Cw (ag (iP (turn n s hJ) (λr s₁ h₁=>?_) λ_ _ q=>q)));cases r with
 | none=>exact aF (h₁.1 rfl)
 | some v=>
  refine ag (iP (h₁.2 v rfl) (λ_ s₂ h₂=>?_) λ_ _ q=>q);refine ag (iP h₂ (λ_ s₃ h₃=>?_) λ_ _ q=>q);refine ag (iP h₃ (λok s₄ h₄=>?_) λ_ _ q=>q);cases ok with
  | false=>exact aF ⟨rfl,h₄.2 rfl⟩
  | true=>
   refine ag (ag (iP (h₄.1 rfl) (λx s₅ h₅=>?_) λ_ _ q=>q));exact ag (iP h₅ (λ_ s₆ h₆=>aF (aF ⟨rfl,h₆⟩)) λ_ _ q=>q)
theorem aa1{env:Env}{Q:Bool->Shared->Prop}{E:Value->Shared->Prop}(h:Q true s):wpAny (model prog w) A (tests [] env) Q E s:=aF h
theorem aa0{c:Expr}{env:Env}{Q:Bool->Shared->Prop}{E:Value->Shared->Prop}(h:wpAny (model prog w) A (isTrue c env (eval c env)) Q E s):wpAny (model prog w) A (tests [c] env) Q E s:=by
 unfold tests;rw[Ct];exact ag (ag (iP h (λok s' q=>aF (aF q)) λ_ _ q=>q))
def gr(cells:List (Str×Addr)):List (Str×fq)->List (Str×Addr)->List (Str×Addr)
 | [],acc=>acc
 | (n,k)::r,acc=>if k == .free then gr cells r (match cells.lookup n with | some c=>(n,c)::acc | none=>acc) else gr cells r acc
theorem PC{env:Env}:∀(names:List (Str×fq)) (acc:List (Str×Addr)),(∀p∈names,p.2=.free->∃c,env.cells.lookup p.1=some c)->
  (forIn names acc λ(x:Str×fq) (cs:List (Str×Addr))=>match x with
   | (name,kind)=>if (kind == qe)=true then (do let c <-cellOf env name;pure (Gv ((name,c)::cs))) else (pure (Gv cs):Sem (ForInStep (List (Str×Addr)))))=pure (gr env.cells names acc)
 | [],acc,_=>rfl
 | (n,k)::r,acc,h=>by
  have ih:=λacc=>PC r acc λp hp=>h p (dJ _ hp);rw[Ct]
  by_cases hk:(k == qe)=true
  ·obtain⟨c,hc⟩:=h (n,k) fJ (by simpa using hk);have e:cellOf env n=pure c:=by unfold cellOf;rw[hc]
   dsimp only;rw[if_pos hk,e];unfold gr;rw[if_pos hk,hc];exact ih _
  ·dsimp only;rw[if_neg hk];unfold gr;rw[if_neg hk];exact ih _
theorem Hq{env:Env}{sc:Scope}(h:∀p∈sc.names,p.2=.free->∃c,env.cells.lookup p.1=some c):closureFor sc env=pure (gr env.cells sc.names []):=by
 unfold closureFor;have e:=PC (env:=env) sc.names [] h;simp only[e];rfl
theorem C4{cells:List (Str×Addr)}:∀(names:List (Str×fq)) (acc:List (Str×Addr)),(∀x c,acc.lookup x=some c->cells.lookup x=some c)->∀x c,(gr cells names acc).lookup x=some c->cells.lookup x=some c
 | [],acc,h,x,c,e=>h x c e
 | (n,k)::r,acc,h,x,c,e=>by
  unfold gr at e
  split at e
  ·refine C4 r _ (λy d q=>?_) x c e
   split at q
   ·rename_i c' nF
    by_cases hy:y=n
    ·subst hy;rw[zW]at q;cases q;exact nF
    ·have hb:=beq_eq_false_iff_ne.mpr hy;rw[rP,hb]at q;exact h y d q
   ·exact h y d q
  ·exact C4 r acc h x c e
theorem HQ{cells:List (Str×Addr)}:∀(names:List (Str×fq)) (acc:List (Str×Addr)) (x:Str),(∃c,acc.lookup x=some c)->∃c,(gr cells names acc).lookup x=some c
 | [],acc,x,h=>h
 | (n,k)::r,acc,x,h=>by
  unfold gr
  split
  ·refine HQ r _ x ?_
   split
   ·rename_i c' nF
    by_cases hy:x=n
    ·subst hy;exact⟨c',zW⟩
    ·have hb:=beq_eq_false_iff_ne.mpr hy;rw[rP,hb];exact h
   ·exact h
  ·exact HQ r acc x h
theorem C5{cells:List (Str×Addr)}:∀(names:List (Str×fq)) (acc:List (Str×Addr)) (x:Str),(x,qe)∈names->(∃c,cells.lookup x=some c)->∃c,(gr cells names acc).lookup x=some c
 | [],acc,x,h,_=>by cases h
 | (n,k)::r,acc,x,h,hc=>by
  unfold gr;rcases bR.mp h with e | e
  ·cases e;obtain⟨c,hc⟩:=hc;rw[if_pos (beq_self_eq_true _),hc];exact HQ r _ n ⟨c,zW⟩
  ·split
   ·exact C5 r _ x e hc
   ·exact C5 r acc x e hc
end
end L3
namespace L2
open PySem PySem.Spec PyProof.Rows L3
def lQ(X:Cx)(sc:Scope)(N:List Str)(s:Shared)(H:Hp)(ex:List Addr)(C:Addr)(EE:Value->Shared->Prop):Cx:=
 {X with N:=N,s₀:=s,H₀:=H,env:=compEnvC sc (gr X.env.cells sc.names []) C X.env,outer:=X.stack,ex:=ex,fn:=λ_=>false,pn:=[],xe:=EE }
def zf(X:Cx)(sc:Scope)(N:List Str)(s:Shared)(H:Hp)(ex:List Addr)(C:Addr):Cx:=lQ X sc N s H ex C λ_ _=>False
structure c9(X:Cx)(sc:Scope)(N:List Str)(idx:List Nat):Prop where
 kind:sc.kind=.function
 DI:∀y∈sc.names,y.2≠.cell
 locs:∀y∈sc.names,y.2=.local->sc.names.lookup y.1=some .local
 frees:∀y∈sc.names,y.2=.free->X.env.scope.names.lookup y.1=some .cell
 le:idx.length<=N.length
 VW:∀(k i:Nat) (x:Str),idx[k]?=some i->N[k]?=some x->X.N[i]?=some x/\sc.names.lookup x=some .free
def jO(idx:List Nat)(n:Nat)(σ:St):St:=idx.map (λi=>(σ[i]?).join)++cY (n-idx.length) none
theorem IL{idx:List Nat}{n:Nat}{σ:St}(h:idx.length<=n):(jO idx n σ).length=n:=by
 unfold jO;rw[fQ,aH,xx];lia
theorem IM{idx:List Nat}{n k:Nat}{σ:St}{v:V}(h:(jO idx n σ)[k]?=some (some v)):∃i,idx[k]?=some i/\σ[i]?=some (some v):=by
 unfold jO at h
 by_cases hk:k<idx.length
 ·rw[NY (by simpa using hk),eJ]at h;cases e:idx[k]? with
  | none=>rw[e]at h;cases h
  | some i=>
   rw[e]at h;have h':(σ[i]?).join=some v:=eC h;refine az i rfl ?_;cases e2:σ[i]? with
   | none=>rw[e2]at h';cases h'
   | some o=>rw[e2]at h';rw[show o=some v from h']
 ·rw[NW (by simpa using hk),F8]at h
  split at h
  ·cases h
  ·cases h
def rl(env:Env)(p:Str×fq):Str×fq:=if (p.2 == qe&&env.scope.kind == .function&&env.kindOf p.1 == some .cell)=true then (p.1,fq.cell) else p
theorem JT{env:Env}{n:Str}{k:fq}(h:(k == qe&&env.scope.kind == .function&&env.kindOf n == some .cell)=true):rl env (n,k)=(n,.cell):=if_pos h
theorem Ry{env:Env}{n:Str}{k:fq}(h:¬(k == qe&&env.scope.kind == .function&&env.kindOf n == some .cell)=true):rl env (n,k)=(n,k):=if_neg h
theorem OS{env:Env}(hf:env.scope.kind=.function):∀{names:List (Str×fq)} {x:Str},names.lookup x=some .free->env.kindOf x=some .cell->(names.map (rl env)).lookup x=some .cell
 | [],_,h,_=>by simp at h
 | (n,k)::r,x,h,hc=>by
  have ih:=@OS env hf r x;rw[iz]
  by_cases hx:x=n
  ·subst hx;rw[zW]at h;cases h;rw[JT (by rw[hf,hc];decide),zW]
  ·have hb:=beq_eq_false_iff_ne.mpr hx;rw[rP,hb]at h;have e:=ih h hc
   by_cases q:(k == qe&&env.scope.kind == .function&&env.kindOf n == some .cell)=true
   ·rw[JT q,rP,hb];exact e
   ·rw[Ry q,rP,hb];exact e
theorem G2{env:Env}:∀{names:List (Str×fq)} {x:Str} {kd:fq},(names.map (rl env)).lookup x=some kd->(x,kd)∈names\/(x,qe)∈names
 | [],_,_,h=>by simp at h
 | (n,k)::r,x,kd,h=>by
  have ih:=@G2 env r x kd;rw[iz]at h
  by_cases q:(k == qe&&env.scope.kind == .function&&env.kindOf n == some .cell)=true
  ·rw[JT q]at h
   by_cases hx:x=n
   ·subst hx
    have hk:k=.free:=by
     rw[iG,iG]at q;exact eq_of_beq q.1.1
    subst hk;exact .inr fJ
   ·have hb:=beq_eq_false_iff_ne.mpr hx;rw[rP,hb]at h;exact(ih h).elim (λe=>.inl (dJ _ e)) λe=>.inr (dJ _ e)
  ·rw[Ry q]at h
   by_cases hx:x=n
   ·subst hx;rw[zW]at h;cases h;exact .inl fJ
   ·have hb:=beq_eq_false_iff_ne.mpr hx;rw[rP,hb]at h;exact(ih h).elim (λe=>.inl (dJ _ e)) λe=>.inr (dJ _ e)
theorem Inv.adopt{X:Cx}{p_:List (Addr×Obj)}{σ:St}{H:Hp}{s:Shared}{a:Addr}{o:HO}(I:Inv X p_ σ H s)(hn:H a=none)(ya:X.s₀.heap.objs.size<=a)(hL:a≠X.env.locals)
  (hc:∀x c,X.env.cells.lookup x=some c->c≠a) (hp:∀p∈X.pn++p_,p.1≠a) (new:eX X.prog X.w (upd H a o) s.heap a o):Inv X p_ σ (upd H a o) s:=by
 have ne:∀b u,H b=some u->b≠a:=λb u e=>bJ e hn;refine⟨I.ok,I.os,I.bare,⟨I.base.keep,I.base.slot,λb u q n hx=>?_,I.base.there,λb xs q=>?_,λb u xs q=>?_,λb ps q=>?_⟩,I.loc,I.cell,?_,λx c e=>?_,λp hq=>?_,λb u q=>?_,I.len⟩
 ·rw[ak (dv (eB (bq q) ya))];exact I.base.free b u q n hx
 ·have e:=I.base.qK b xs q;rw[ak (ne b _ e)];exact e
 ·have e:=I.base.pI b u xs q;rw[ak (ne b _ e)];exact e
 ·exact oE (I.base.pF b ps q) λm e=>⟨m,by rw[ak (ne b _ e)];exact e⟩
 ·rw[ak (eT hL)];exact I.free
 ·rw[ak (hc x c e)];exact I.jq x c e
 ·exact dU (I.pin p hq) λe1 e2 e3=>gu e1 (by rw[ak (hp p hq)];exact e2) e3
 ·by_cases hb:b=a
  ·subst hb;rw[av]at q;cases q;exact new
  ·rw[ak hb]at q;exact(I.aL b u q).kX (λ_ _ _ z=>z) (λc z=>by rw[ak (ne c _ z)];exact z) λc xs z=>by rw[ak (ne c _ z)];exact z
section
variable{X:Cx}{p_:List (Addr×Obj)}{σ:St}{H:Hp}{s:Shared}{sc:Scope}{N:List Str}{idx:List Nat}{fp:List Addr}
abbrev d0:Obj:={ cls:=.type "list",data:=.seq ([]:List Value).toArray }
abbrev ky(s:Shared):Shared:={ s with heap:=s.heap.push d0 }
theorem ab7(I:Inv X p_ σ H s){b:Addr}(h:fu X p_ H b):X.base.get? b=none:=by
 cases e:X.base.get? b with
 | none=>rfl
 | some o=>
  rcases h.2.2.2.1 with z | z
  ·exact absurd z (I.ok.ug b o e)
  ·exact absurd (eB (bq e) (cZ I.ok.lg z)) (iH _)
theorem adz{EE:Value->Shared->Prop}(I:Inv X p_ σ H s)(S:c9 X sc N idx)(hf:∀b∈fp,fu X p_ H b)(ho:∀b∈fp,∃o,s.heap.get? b=some o){h':Heap}{m:Str->Option Value}{t:Nat}
  (lW:h'.Ns (s.heap.push d0).objs.size m) (hk:∀b o,(s.heap.push d0).get? b=some o->h'.get? b=some o) :
  Inv (lQ X sc N (ky s) H (s.heap.objs.size::fp) (s.heap.push d0).objs.size EE) [] (jO idx N.length σ) H { ky s with heap:=h',toks:=t }:=by
 have I3:Inv X p_ σ H (ky s):=I.kept (t':=s.toks) λb o e=>bc _ e;have hC:(s.heap.push d0).objs.size=s.heap.objs.size+1:=jI _ _;have m6:∀x c,(gr X.env.cells sc.names []).lookup x=some c->X.env.cells.lookup x=some c:=C4 sc.names [] (λx c e=>by cases e)
 have clt:∀x c,(gr X.env.cells sc.names []).lookup x=some c->c<s.heap.objs.size:=λx c e=>by
  exact oE (I.cell x c (m6 x c e)) λv z=>z.lt
 have qV:∀b∈fp,b<s.heap.objs.size:=λb hb=>by
  exact oE (ho b hb) λo e=>bq e
 have back:∀x,((relabel sc X.env).names.lookup x=some .cell\/(relabel sc X.env).names.lookup x=some .free)->(x,qe)∈sc.names:=λx h=>by
  rcases h with h | h
  ·rcases G2 (env:=X.env) (names:=sc.names) (show (sc.names.map (rl X.env)).lookup x=_ from h)with e | e
   ·exact absurd rfl (S.DI _ e)
   ·exact e
  ·rcases G2 (env:=X.env) (names:=sc.names) (show (sc.names.map (rl X.env)).lookup x=_ from h)with e | e
   ·exact e
   ·exact e
 have has:∀x,(x,qe)∈sc.names->∃c,(gr X.env.cells sc.names []).lookup x=some c:=λx e=>
  C5 sc.names [] x e (I.ok.has x (.inl (S.frees _ e rfl)))
 refine⟨⟨I.ok.mod,S.kind,I.ok.glob,I.ok.blt,aB _,λx y c e1 e2=>I.ok.inj x y c (m6 x c e1) (m6 y c e2),λx h=>has x (back x h),λx c h=>(by cases h),I.ok.hd,I.ok.frames,.inl rfl,λb hb=>?_,I3.bs,cZ I.ok.lg I3.sz,λb o e hb=>?_,λb hb=>?_,I3.stack,I3.Dg⟩,I.os ▸ rfl,I.bare,Un.kept hk,⟨m,lW,λk x v e1 e2 e3=>?_⟩,λx c e=>?_,I3.aL.fresh (aB _),λx c e=>I.jq x c (m6 x c e),λp hp=>absurd (show p∈([]:List (Addr×Obj)) from hp) (by simp),I3.aL.kept hk,IL S.le⟩
 ·rcases bR.mp hb with e | hb
  ·subst e;exact⟨by rw[hC];exact dv (xD _),λx c e=>dv (clt x c e)⟩
  ·refine⟨by rw[hC];exact dv (Ac (qV b hb)),λx c e=>(hf b hb).2.2.2.2.1 x c (m6 x c e)⟩
 ·rcases bR.mp hb with z | hb
  ·subst z;exact absurd (bq (I.bk _ _ e)) (iH _)
  ·have e':X.base.get? b=some o:=e;rw[ab7 I (hf b hb)]at e';cases e'
 ·intro hs;have zE:=I.Dx b hs;rcases bR.mp hb with z | hb
  ·subst z;rcases bR.mp zE with e | e
   ·exact absurd I.lt (by rw[<-e];exact iH _)
   ·exact I.US (aB _) e
  ·rcases bR.mp zE with e | e
   ·exact(hf b hb).2.1 e
   ·exact(hf b hb).2.2.1 e
 ·refine ay (IM e2) λi h1 h2=>oA (S.VW k i x h1 e1) λh3 h4=>?_;have kh:=PySem.mem_of_lookup h4;have sA:X.env.scope.names.lookup x=some .cell:=S.frees _ kh rfl;refine ay I.loc λm' BW BY=>ay (BY i x v h3 h2 (.inr (.inl sA))) λu r l=>az u r (.inr ⟨.inl (OS I.ok.kind h4 sA),?_⟩);rcases l with ⟨q,_⟩ | ⟨_,c,ec,z⟩
  ·have q':X.env.scope.names.lookup x=some .local:=q;rw[sA]at q';cases q'
  ·refine oE (has x kh) λc' Cc=>?_;have:=m6 x c' Cc;rw[ec]at this;cases this;exact az c Cc (z.keeps λb o e=>hk b o (bc _ e))
 ·exact oE (I.cell x c (m6 x c e)) λv z=>⟨v,z.keeps λb o e=>hk b o (bc _ e)⟩
theorem ady{EE:Value->Shared->Prop}{σ':St}{H':Hp}{s':Shared}{pl:List (Addr×Obj)}(I:Inv X p_ σ H s)(hf:∀b∈fp,fu X p_ H b)
  (I':Inv (lQ X sc N (ky s) H (s.heap.objs.size::fp) (s.heap.push d0).objs.size EE) pl σ' H' s'):Inv X p_ σ H' s':=by
 have I3:Inv X p_ σ H (ky s):=I.kept (t':=s.toks) λb o e=>bc _ e;have fa:=I.iE (aB _) (I.aL.fresh (aB _));refine I3.Ua (ch:=s.heap.objs.size::fp) (I'.os.trans rfl) I'.base I'.aL I'.bare λb hb=>?_
 have q:fu X p_ H b:=by
  rcases bR.mp hb with e | hb
  ·subst e;exact fa
  ·exact hf b hb
 exact⟨q.2.2.2.1,q.2.1,q.2.2.2.2.1,q.2.2.2.2.2⟩
end
abbrev zh:=St->Hp->(Bool->Hp->Prop)->Prop
def lO:zh:=λ_ H Q=>Q true H
def BB(X:Cx)(ifs:List Expr)(t:zh):Prop:=
 ∀(p_:List (Addr×Obj)) (s:Shared) (σ:St) (H:Hp) (Q:Bool->Hp->Prop),Inv X p_ σ H s->t σ H Q->wpAny (model X.prog X.w) X.A (tests ifs X.env) (TP X p_ σ Q) X.xe s
theorem gZ{X:Cx}:BB X [] lO:=λ_ _ _ H _ I h=>aa1 ⟨H,I,h⟩
theorem yk{X:Cx}{c:Expr}{t:TT}(h:PT X c t):BB X [c] t:=λp_ s σ H Q I q=>aa0 (h p_ s σ H Q I q)
def Bh(n:Nat)(σ σ2:St):Prop:=σ2.length=σ.length/\∀i,i<n->σ2[i]?=σ[i]?
def Ea(J:It)(g:TG)(tc:zh)(te:TE)(σ0:St)(H1:Hp)(K:List V->Hp->Prop):Prop:=
 ∃W:Nat->Nat->List V->Hp->Prop,(∃m,W 0 m [] H1)/\∀i m ys H,W i m ys H->
  (J.stop i H/\K ys H)\/
  (J.go i H/\ys.length<bN/\∃N:List V->Hp->Prop,(∀zs H',N zs H'->∃m',m'<m/\W (i+1) m' zs H')/\
   ∀x H',J.uq i H x H'->g x σ0 H' λσ2 H2=>tc σ2 H2 λb H3=>if b=true then te σ2 H3 (λy H4=>N (ys++[y]) H4) else N ys H3)
def Ko(wi:TI)(g:TG)(tc:zh)(te:TE)(idx:List Nat)(n:Nat):TE:=λσ H Q=>wi σ H λJ H1=>
 Ea J g tc te (jO idx n σ) H1 λys H2=>ys.length<=bN/\∀p,H2 p=none->Q (.ref p) (upd H2 p (.lst ys))
def Bj(n:Nat)(g:TG):Prop:=∀x σ H Q,g x σ H Q->g x σ H λσ2 H2=>Q σ2 H2/\Bh n σ σ2
theorem IF{n k:Nat}{σ:St}{v:Option V}(h:n<=k):Bh n σ (σ.set k v):=⟨iy,λi hi=>vm li⟩
theorem gC{n k:Nat}(h:n<=k):Bj n (iX k):=λx σ H Q q=>⟨q,IF h⟩
theorem CI{K:PySem.W.Frag}{n k l:Nat}(h:n<=k)(h':n<=l):Bj n (UY K 2 (KP (iX k) (KP (iX l) UZ))):=λx σ H Q q=>by
 refine pj q λa xs e1 e2 e3 aa=>b8 aa λv r e4 aa=>dF aa λv' r' e5 e6 q=>⟨a,⟨xs,e1,e2,e3,v,r,e4,v',r',e5,e6,q,?_⟩⟩;have k1:Bh n σ (σ.set k (some v)):=IF h;have k2:Bh n (σ.set k (some v)) ((σ.set k (some v)).set l (some v')):=IF h';exact⟨k2.1.trans k1.1,λi hi=>(k2.2 i hi).trans (k1.2 i hi)⟩
theorem Qx{X:Cx}{p_:List (Addr×Obj)}{σ σ2:St}{H:Hp}{s:Shared}{idx:List Nat}{n:Nat}(I:Inv X p_ σ2 H s)(k:Bh idx.length (jO idx n σ) σ2):Inv X p_ (jO idx n σ) H s:=
 I.weak k.1.symm λi v e=>by
  refine ay (IM e) λj h1 _=>?_;rw[k.2 i (dC.mp h1).1];exact e
theorem fk{J:It}{g:TG}{tc:zh}{te:TE}{σ0:St}{H1:Hp}{K:List V->Hp->Prop}{n:Nat}(P:Nat->List V->Hp->Prop)(hn:n<=bN)(h0:P 0 [] H1)(hle:∀i ys H,P i ys H->ys.length<=i)
  (Ni:∀i ys H,i<n->P i ys H->J.go i H) (cX:∀ys H,P n ys H->J.stop n H)
  (hs:∀i ys H,i<n->P i ys H->∀x H',J.uq i H x H'->g x σ0 H' λσ2 H2=>tc σ2 H2 λb H3=>if b=true then te σ2 H3 (λy H4=>P (i+1) (ys++[y]) H4) else P (i+1) ys H3)
  (hd:∀ys H,P n ys H->K ys H):Ea J g tc te σ0 H1 K:=by
 refine⟨λi m ys H=>m=n-i/\i<=n/\P i ys H,⟨n,by simp,bU _,h0⟩,?_⟩;rintro i m ys H ⟨rfl,hi,p⟩
 by_cases cI:i<n
 ·refine .inr (gu (Ni i ys H cI p) (by have:=hle i ys H p;lia) ⟨P (i+1),λzs H' p'=>⟨n-(i+1),om,rfl,cI,p'⟩,hs i ys H cI p⟩)
 ·have e:i=n:=li;subst e;exact .inl ⟨cX ys H p,hd ys H p⟩
section
variable{X:Cx}{tg elt iter:Expr}{ifs:List Expr}{wi:TI}{g:TG}{tc:zh}{te:TE}{sc:Scope}{N:List Str}{idx:List Nat}{pos:Pos}
theorem Rb{p_:List (Addr×Obj)}{s:Shared}{σ:St}{H:Hp}{K:List V->Hp->Prop}{E EE:Value->Shared->Prop}{RR:Addr->Value->Result->Shared->Prop}(hc:X.calm=true)(S:c9 X sc N idx)(gk:Bj idx.length g)
  {it:Addr} {fp:List Addr} {tn:Nat->Heap->Prop} {J:It} (hg:PG (lQ X sc N (ky s) H (s.heap.objs.size::fp) (s.heap.push d0).objs.size EE) tg g) (ht:BB (lQ X sc N (ky s) H (s.heap.objs.size::fp) (s.heap.push d0).objs.size EE) ifs tc) (he:PE (lQ X sc N (ky s) H (s.heap.objs.size::fp) (s.heap.push d0).objs.size EE) elt te) (I:Inv X p_ σ H s) (T:Turn X.prog X.w X.K tg J fp it tn) (st:tn 0 s.heap) (hf:∀b∈fp,fu X p_ H b) (hW:Ea J g tc te (jO idx N.length σ) H K)
  (NC:∀e s',EE e s'->notedBy (model X.prog X.w) X.A (compEnvC sc (gr X.env.cells sc.names []) (s.heap.push d0).objs.size X.env) (λe s'=>RR (s.heap.push d0).objs.size (.ref s.heap.objs.size) (.error e) s') e s')
  (hR:∀(s':Shared) (ys:List V) (H':Hp) (m:Str->Option Value) (aj:List Value) (n:Nat),K ys H'->Inv X p_ σ H' s'->s'.heap.Ns (s.heap.push d0).objs.size m->H' (s.heap.push d0).objs.size=none->H' s.heap.objs.size=none->Vals ys aj->
   s'.heap.get? s.heap.objs.size=some { cls:=.type "list",data:=.seq aj.toArray n }->RR (s.heap.push d0).objs.size (.ref s.heap.objs.size) (.ok .next) s') :
  wpAny (model X.prog X.w) X.A (newList []) (λacc s₃=>wpAny (model X.prog X.w) X.A (newFunctionEnv sc X.env.globals (gr X.env.cells sc.names []) [] X.env.qual none .none (some X.env)) (λVC s₄=>
   codeAny (model X.prog X.w) X.A (.compStart (.ListComp elt [⟨tg,iter,ifs,0⟩] sc pos) 0 (.ref it) acc { VC with scope:=relabel sc X.env }) (RR VC.locals acc) s₄) E s₃) E s:=by
 refine ay hW λW aa turn=>oE aa λm0 w0=>oQ (wpAny_newFunctionEnv S.DI (by intro y hy;cases hy) (λh' lW zD=>?_) S.kind);have hC:(s.heap.push d0).objs.size=s.heap.objs.size+1:=jI _ _;have hk:∀b o,(s.heap.push d0).get? b=some o->h'.get? b=some o:=λb o e=>(zD.2 b (dv (bq e))).trans (bc _ e);have ho:∀b∈fp,∃o,s.heap.get? b=some o:=λb hb=>let ⟨o,e,_⟩:=T.obj _ _ st b hb;⟨o,e⟩
 have I0:=adz (EE:=EE) (t:=s.toks+([]:List (Str×Value)).length) I S hf ho lW hk
 have fn:∀b∈fp,b≠s.heap.objs.size:=λb hb=>by
  exact oE (ho b hb) λo e=>dv (bq e)
 have accN:=I.aL.fresh (aB _)
 have NI:∀{H':Hp} {pl:List (Addr×Obj)},(∀b∈fp,H' b=none)->(∀p∈pl,p.1=s.heap.objs.size)->∀b∈fp,fu (lQ X sc N (ky s) H (s.heap.objs.size::fp) (s.heap.push d0).objs.size EE) pl H' b:=λ{H' pl} hn hp b hb=>by
  refine⟨(hn b hb),((I0.ok.sM b (dJ _ hb)).1),(I0.ok.sE b (dJ _ hb)),(.inl (dJ _ hb)),((I0.ok.sM b (dJ _ hb)).2),(λp hq=>?_)⟩;have w9:p∈pl:=by simpa[lQ]using hq
  rw[hp p w9];exact eT (fn b hb)
 have loop:codeAny (model X.prog X.w) X.A (.compLoop (.ListComp elt [⟨tg,iter,ifs,0⟩] sc pos) 0 (.ref it) (.ref s.heap.objs.size) (compEnvC sc (gr X.env.cells sc.names []) (s.heap.push d0).objs.size X.env))
   (RR (s.heap.push d0).objs.size (.ref s.heap.objs.size)) { ky s with heap:=h',toks:=s.toks+([]:List (Str×Value)).length }:=by
  refine abR (EE:=EE) (λn s'=>∃i ys H' aj k,Inv (lQ X sc N (ky s) H (s.heap.objs.size::fp) (s.heap.push d0).objs.size EE) [] (jO idx N.length σ) H' s'/\tn i s'.heap/\(∀b∈fp,H' b=none)/\H' s.heap.objs.size=none/\
   Vals ys aj/\s'.heap.get? s.heap.objs.size=some { cls:=.type "list",data:=.seq aj.toArray k }/\W i n ys H') NC ?_ m0 ?_
  ·rintro n s3 ⟨i,ys,H3,aj,kk,I3,pU,B8,FQ,Fb,ac3,w3⟩
   have EB:∀{H':Hp},H' s.heap.objs.size=none->fu (lQ X sc N (ky s) H (s.heap.objs.size::fp) (s.heap.push d0).objs.size EE) [] H' s.heap.objs.size:=λ{H'} hn=>
    ⟨hn,(I0.ok.sM _ fJ).1,I0.ok.sE _ fJ,.inl fJ,(I0.ok.sM _ fJ).2,λp hq=>absurd (show p∈([]:List (Addr×Obj)) from hq) (by simp)⟩
   have P3:Inv (lQ X sc N (ky s) H (s.heap.objs.size::fp) (s.heap.push d0).objs.size EE) [(s.heap.objs.size,{ cls:=.type "list",data:=.seq aj.toArray kk })] (jO idx N.length σ) H3 s3:=I3.tJ λp hp=>by
    have e:p=(s.heap.objs.size,{ cls:=.type "list",data:=.seq aj.toArray kk }):=by simpa using hp
    subst e;exact⟨ac3,FQ,((EB FQ).2.1),((EB FQ).2.2.1),(λv z=>by cases z)⟩
   have one:∀p∈[((s.heap.objs.size,{ cls:=.type "list",data:=.seq aj.toArray kk }):Addr×Obj)],p.1=s.heap.objs.size:=λp hp=>by
    have e:p=(s.heap.objs.size,{ cls:=.type "list",data:=.seq aj.toArray kk }):=by simpa using hp
    rw[e]
   rcases turn i n ys H3 w3 with ⟨stop,kq⟩ | ⟨go,hz,NN,Xw,step⟩
   ·refine aV (T.done (lQ X sc N (ky s) H (s.heap.objs.size::fp) (s.heap.push d0).objs.size EE) rfl rfl rfl hc i _ s3 _ H3 _ P3 (NI B8 one) pU stop) λr s4 ⟨hr,I4⟩=>⟨λ_=>?_,λv e=>(by rw[hr]at e;cases e)⟩;exact ay I4.loc λm' BW _=>hR s4 ys H3 m' aj kk kq (ady I hf I4) BW I4.free FQ Fb (I4.pin _ (gx _ fJ)).1
   ·refine aV (T.item (lQ X sc N (ky s) H (s.heap.objs.size::fp) (s.heap.push d0).objs.size EE) rfl rfl rfl hc i _ s3 _ H3 _ P3 (NI B8 one) pU go) λr s4 ⟨u,hr,h4⟩=>⟨λe=>(by rw[hr]at e;cases e),λv e=>?_⟩;rw[hr]at e;cases e;refine aV h4 λ_ s5 ⟨x,H5,I5,r5,y5,lx,NH⟩=>?_;have NS:=I5.pinned (NI NH one) (T.obj _ _ lx);refine aV (hg _ s5 _ H5 x u _ NS r5 (gk _ _ _ _ (step x H5 y5))) λ_ s6 zq=>dF zq λσ6 H6 I6 q6 k6=>thT (ht _ s6 σ6 H6 _ I6 q6) λok s7 H7 I7 q7=>⟨λe=>?_,λe=>?_⟩
    ·subst e;rw[if_pos rfl]at q7;refine VO (he _ s7 σ6 H7 _ I7 q7) λv s8 y H8 I8 r8 n8=>ay (Xw _ _ n8) λm' hm w8=>?_;have pa:=I8.pin (s.heap.objs.size,{ cls:=.type "list",data:=.seq aj.toArray kk }) (gx _ (nH _ fJ));have hlen:=Fb.length;refine wpAny_list_append_plain (items:=aj.toArray) ⟨kk,pa.1⟩ (λh9 pl9 V5=>?_) (by rw[du];lia);have NR:=I8.tJ λp hp=>I8.pin p (gx _ (gx _ hp))
     have I9:=NR.turned (h':=h9) (t':=s8.toks) (it:=s.heap.objs.size) (λb o hb e=>(V5.2 b hb).trans e) pa.2.1 (EB pa.2.1).2.1 (.inl fJ) (EB pa.2.1).2.2.2.2.1 (λp hp=>by
      have uM:p∈A3 fp s5.heap:=by simpa[lQ]using hp
      exact fn p.1 (P8 uM).1)
     refine oE pl9 λk9 e9=>⟨m',⟨hm,i+1,ys++[y],H8,aj++[v],k9,Qx (I9.tJ λp hp=>absurd hp (by simp)) k6,T.keep _ _ _ lx λb hb o e=>?_,λb hb=>?_,pa.2.1,Fb.append (.cons r8 .nil),?_,w8⟩⟩
     ·have q:=(NR.pin (b,o) (gx _ (xY hb e))).1;exact(V5.2 b (fn b hb)).trans q
     ·exact ay (T.obj _ _ lx b hb) λo e _=>(NR.pin (b,o) (gx _ (xY hb e))).2.1
     ·rw[e9];simp
    ·subst e;rw[if_neg dg]at q7;refine ay (Xw _ _ q7) λm' hm w7=>?_;have pa:=I7.pin (s.heap.objs.size,{ cls:=.type "list",data:=.seq aj.toArray kk }) (gx _ (nH _ fJ));exact⟨m',⟨hm,i+1,ys,H7,aj,kk,Qx (I7.tJ λp hp=>absurd hp (by simp)) k6,T.keep _ _ _ lx λb hb o e=>(I7.pin (b,o) (gx _ (gx _ (xY hb e)))).1,λb hb=>ay (T.obj _ _ lx b hb) λo e _=>(I7.pin (b,o) (gx _ (gx _ (xY hb e)))).2.1,pa.2.1,Fb,pa.1,w7⟩⟩
  ·exact⟨0,([]),H,([]),0,I0,(T.keep _ _ _ st λb hb o e=>hk b o (bc _ e)),(λb hb=>(hf b hb).1),accN,.nil,(hk _ _ (dM _ rfl)),w0⟩
 exact codeAny_compStart_list loop (T.self _ 0 _ _ _ (T.keep _ _ _ st λb hb o e=>hk b o (bc _ e)) loop)
theorem gh(hc:X.calm=true)(S:c9 X sc N idx)(gk:Bj idx.length g)(hi:PI X tg iter wi)
  (hg:∀s H ex C,PG (zf X sc N s H ex C) tg g) (ht:∀s H ex C,BB (zf X sc N s H ex C) ifs tc) (he:∀s H ex C,PE (zf X sc N s H ex C) elt te)
  (hs:∀x,Oo iter X.env x=pure x:=by intro _;rfl):PE X (.ListComp elt [⟨tg,iter,ifs,0⟩] sc pos) (Ko wi g tc te idx N.length):=by
 intro p_ s σ H Q I h;rw[eval_ListComp];have hZ:=Hq λp hp e=>I.ok.has p.1 (.inl (S.frees p hp e));refine YB (use:=none) rfl hs hZ S.kind S.locs (aV (hi p_ s σ H _ I h) λv s1 h1=>aV h1 λFj s2 h2=>xT h2 λit fp tn J H2 e I2 T jX f2 hW=>?_);subst e;refine Rb (EE:=λ_ _=>False) (RR:=λC acc=>compPost (model X.prog X.w) X.A X.xe none (EP X p_ σ Q) acc C) hc S gk (hg _ _ _ _) (ht _ _ _ _) (he _ _ _ _) I2 T jX f2 hW (λ_ _ z=>z.elim) λs' ys H' m aj n kq I' lW ND B6 rv ea=>?_;have hC:(s2.heap.push d0).objs.size=s2.heap.objs.size+1:=jI _ _;have fa:=I2.iE (aB _) (I2.aL.fresh (aB _));have fC:fu X p_ H2 (s2.heap.push d0).objs.size:=I2.iE (by rw[hC];exact jL _) (I2.aL.fresh (by rw[hC];exact jL _));have ya:=I2.sz;have I1:=Inv.adopt (o:=.lst ys) I' B6 ya fa.2.1 fa.2.2.2.2.1 fa.2.2.2.2.2 ⟨kq.1,aj,n,rv,ea⟩;refine az m lW λh' sb=>(eG (.ref s2.heap.objs.size) _ (I1.turned (h':=h') (t':=s'.toks) (it:=(s2.heap.push d0).objs.size) (λb o hb e=>(sb.2 b hb).trans e) ?_ fC.2.1 (.inr (by rw[hC];exact tj ya)) fC.2.2.2.2.1 fC.2.2.2.2.2) rfl (kq.2 _ B6));rw[ak (by rw[hC];exact Gk _)];exact ND
theorem Hl{i:Nat}{x:Str}{pos' Ve:Pos}(hN:X.N.Nodup)(hx:X.N[i]?=some x)(hl:X.env.scope.names.lookup x=some .local)(hc:X.calm=true)(S:c9 X sc N idx)(gk:Bj idx.length g)(hi:PI X tg iter wi)
  (hg:∀s H ex C,PG (zf X sc N s H ex C) tg g) (ht:∀s H ex C,BB (zf X sc N s H ex C) ifs tc) (he:∀s H ex C,PE (zf X sc N s H ex C) elt te)
  (hsw:HS (.ListComp elt [⟨tg,iter,ifs,0⟩] sc pos) (some (.Name x pos')) Ve.line X.env=pure true:=by rfl)
  (hs:∀x,Oo iter X.env x=pure x:=by intro _;rfl):PS X (.Assign [.Name x pos'] (.ListComp elt [⟨tg,iter,ifs,0⟩] sc pos) Ve) (Lj (Ko wi g tc te idx N.length) (iX i)):=by
 intro p_ s σ H D I h;rw[exec_Assign_Name_used _ _ _ _ hsw];refine ag (Cw (ag ?_));have hZ:=Hq λp hp e=>I.ok.has p.1 (.inl (S.frees p hp e));show wpAny _ X.A (do let _ <-comprehension (.ListComp elt [⟨tg,iter,ifs,0⟩] sc pos) sc X.env _ (newList []) false (eval iter X.env) (some (assign (.Name x pos') X.env))) _ _ s;refine ag (iP (YB (use:=some (assign (.Name x pos') X.env)) (Q:=λ_ s'=>SP X p_ D .next s') rfl hs hZ S.kind S.locs (aV (hi p_ s σ H _ I h) λv s1 h1=>aV h1 λFj s2 h2=>?_)) (λ_ s' q=>aF (aF q)) λ_ _ q=>q);obtain⟨it,fp,tn,J,H2,e,I2,T,jX,f2,hW⟩:=h2;subst e;refine Rb (EE:=λ_ _=>False) (RR:=λC acc=>compPost (model X.prog X.w) X.A X.xe (some (assign (.Name x pos') X.env)) (λ_ s'=>SP X p_ D .next s') acc C) hc S gk (hg _ _ _ _) (ht _ _ _ _) (he _ _ _ _) I2 T jX f2 hW (λ_ _ z=>z.elim) λs' ys H' m aj n kq I' lW ND B6 rv ea=>?_;have hC:(s2.heap.push d0).objs.size=s2.heap.objs.size+1:=jI _ _;have fa:=I2.iE (aB _) (I2.aL.fresh (aB _));have fC:fu X p_ H2 (s2.heap.push d0).objs.size:=I2.iE (by rw[hC];exact jL _) (I2.aL.fresh (by rw[hC];exact jL _));have ya:=I2.sz;have I1:=Inv.adopt (o:=.lst ys) I' B6 ya fa.2.1 fa.2.2.2.2.1 fa.2.2.2.2.2 ⟨kq.1,aj,n,rv,ea⟩
 have alr:upd H' s2.heap.objs.size (.lst ys) (s2.heap.push d0).objs.size=none:=by
  rw[ak (by rw[hC];exact Gk _)];exact ND
 show wpAny (model X.prog X.w) X.A (assign (.Name x pos') X.env (.ref s2.heap.objs.size)) _ X.xe s';refine wpAny_assign_Name (PR (v:=.ref s2.heap.objs.size) I1 hN hx (.inl hl) rfl (λs3 I3 ⟨a,sb,ha⟩=>?_) (.inr hl))
 have aC:(s2.heap.push d0).objs.size≠a:=by
  rcases ha with e | e
  ·rw[e];exact fC.2.1
  ·exact eT (fC.2.2.2.2.1 x a e)
 refine az m (lW.sameBut sb aC) λh' sb'=>(iD _ _ (I3.turned (h':=h') (t':=s3.toks) (it:=(s2.heap.push d0).objs.size) (λb o hb e=>(sb'.2 b hb).trans e) alr fC.2.1 (.inr (by rw[hC];exact tj ya)) fC.2.2.2.2.1 fC.2.2.2.2.2) (kq.2 _ B6))
end
end L2
namespace L2
open PySem PySem.W PyProof.Rows
section
variable{cmp:Nat->Nat->(Bool->Shared->Prop)->Shared->Prop}{r:Nat->Int}{n:Nat}{p:Array Nat}{s:Shared}
def rk(r:Nat->Int)(p:Array Nat)(k:Nat):Int:=r (p.getD k 0)
def ip(n:Nat)(p:Array Nat):Prop:=p.Perm (List.range n).toArray
def sh(r:Nat->Int)(p:Array Nat)(m:Nat):Prop:=∀i j,i<j->j<m->rk r p i<rk r p j
theorem ip.size(g:ip n p):p.size=n:=by
 have:=g.size_eq;simpa using this
theorem ip.lt(g:ip n p){k:Nat}(hk:k<n):p.getD k 0<n:=by
 have hs:=g.size;have hm:p[k]'(by exact wg)∈p:=Array.getElem_mem _;have:=(g.mem_iff).mp hm;simp only[x9,show k<p.size by exact wg,dif_pos];simpa using this
theorem ip.ne(g:ip n p){i j:Nat}(hi:i<n)(hj:j<n)(h:i≠j):p.getD i 0≠p.getD j 0:=by
 have hs:=g.size;have nd:=(Yw.mp g).nodup_iff.mpr (by simpa using List.nodup_range);intro e;simp only[x9,show i<p.size by exact wg,show j<p.size by exact wg,dif_pos]at e;have e':p.toList[i]'(by simpa using (by exact wg:i<p.size))=p.toList[j]'(by simpa using (by exact wg:j<p.size)):=by simpa using e
 rcases Y0 h with q | q
 ·exact ko.mp nd i j _ _ q e'
 ·exact ko.mp nd j i _ _ q e'.symm
variable(hr:∀i j,i<n->j<n->r i=r j->i=j)(hc:∀i j (C:Bool->Shared->Prop),i<n->j<n->i≠j->C (decide (r i<r j)) s->cmp i j C s)
include hr hc
theorem Ky(g:ip n p){i j:Nat}(hi:i<n)(hj:j<n)(h:i≠j):rk r p i≠rk r p j:=λe=>g.ne hi hj h (hr _ _ (g.lt hi) (g.lt hj) e)
theorem Ke(g:ip n p){Q:Nat->Shared->Prop}:∀f m,1<=m->m+f<=n->sh r p m->(∀m',m<=m'->m'<=m+f->sh r p m'->(m'<m+f->rk r p m'<rk r p (m'-1))->Q m' s)->(kas_asc p f m).kasWp cmp Q s
 | 0,m,h1,h2,ri,k=>k m (aB _) (aB _) ri λh=>absurd h (iH _)
 | f+1,m,h1,h2,ri,k=>by
  refine hc _ _ _ (g.lt li) (g.lt li) (g.ne om om li) ?_
  by_cases hb:r (p.getD m 0)<r (p.getD (m-1) 0)
  ·simp only[hb,decide_true,if_true];exact k m (aB _) li ri λ_=>hb
  ·simp only[hb,decide_false,p9,if_false];refine Ke g f (m+1) li li (λi j nD hj=>?_) λm' a b c d=>k m' li li c λh=>d li
   by_cases e:j=m
   ·subst e
    have h3:rk r p (j-1)<rk r p j:=by
     have:=Ky hr hc g (i:=j-1) (j:=j) li li li;unfold rk at this ⊢;omega
    by_cases e2:i=j-1
    ·subst e2;exact h3
    ·have:=ri i (j-1) li om;lia
   ·exact ri i j nD li
theorem RS(g:ip n p){Q:Array Nat×Nat×Nat->Shared->Prop}:∀f m,1<=m->m+f<=n->(∀i j,i<j->j<m->rk r p j<rk r p i)->
  (∀m',m<=m'->m'<=m+f->(∀i j,i<j->j<m'->rk r p j<rk r p i)->Q (p,m',0) s)->(kas_desc f p m 0).kasWp cmp Q s
 | 0,m,h1,h2,ri,k=>k m (aB _) (aB _) ri
 | f+1,m,h1,h2,ri,k=>by
  refine hc _ _ _ (g.lt om) (g.lt om) (g.ne om om om) ?_
  by_cases hb:r (p.getD m 0)<r (p.getD (m-1) 0)
  ·simp only[hb,decide_true,if_true];rw[if_neg li];refine RS g f (m+1) om om (λi j nD hj=>?_) λm' a b c=>k m' om om c
   by_cases e:j=m
   ·subst e;have h3:rk r p j<rk r p (j-1):=hb
    by_cases e2:i=j-1
    ·subst e2;exact h3
    ·have:=ri i (j-1) om om;lia
   ·exact ri i j nD om
  ·simp only[hb,decide_false,p9,if_false];refine hc _ _ _ (g.lt li) (g.lt li) (g.ne om om li) ?_
   have h3:r (p.getD (m-1) 0)<r (p.getD m 0):=by
    have:=Ky hr hc g (i:=m-1) (j:=m) om om om;unfold rk at this;omega
   simp only[h3,decide_true,if_true];exact k m (aB _) om ri
theorem Sv(g:ip n p){m k:Nat}(hm:m<=n)(hk:k<m):rk r (kas_rev p 0 m) k=rk r p (m-1-k):=by
 have hs:=g.size;unfold rk kas_rev;rw[FX,getElem?_mirror_all li,if_pos ⟨bU _,hk⟩,FX]
 congr 3
 lia
theorem aca(g:ip n p){m:Nat}(h1:1<=m)(hm:m<=n)(ri:∀i j,i<j->j<m->rk r p j<rk r p i){Q:Nat×Array Nat->Shared->Prop}
  (k:∀m' p',1<=m'->m'<=n->ip n p'->sh r p' m'->Q (m',p') s):(kas_tail3 m n p).kasWp cmp Q s:=by
 unfold kas_tail3;rw[Cu];have g':ip n (kas_rev p 0 m):=(mirror_perm _ _ _ _).trans g;refine Ke hr hc g' _ _ h1 li (λi j nD hj=>?_) λm' a b c _=>k m' _ (by exact wj) li g' c;rw[Sv hr hc g hm li,Sv hr hc g hm hj];exact ri _ _ om om
theorem adx(g:ip n p)(h1:1<=n){Q:Nat×Array Nat->Shared->Prop}(k:∀m' p',1<=m'->m'<=n->ip n p'->sh r p' m'->Q (m',p') s):(kas_count n p).kasWp cmp Q s:=by
 unfold kas_count;rw[Cu];refine Ke hr hc g _ _ (aB _) om (λi j nD hj=>absurd nD li) λm a b ri hb=>?_
 by_cases e:m=n
 ·rw[if_pos (by simpa using e)];exact k m p (by exact w0) li g ri
 ·rw[if_neg (by simpa using e)]
  by_cases h2:m > 1
  ·rw[if_pos h2];refine hc _ _ _ (g.lt li) (g.lt li) (g.ne om om li) ?_;have h3:=ri 0 (m-1) om om;unfold rk at h3;simp only[h3,decide_true,if_true];exact k m p (by exact w0) li g ri
  ·rw[if_neg h2];have hm:m=1:=li;subst hm;have h3:=hb li;unfold kas_descPart;rw[Cu];refine RS hr hc g _ _ (by exact xd) li (λi j nD hj=>?_) λm' a b ri'=>?_
   ·have:i=0/\j=1:=li;rw[this.1,this.2];exact h3
   ·simp only[iH,gt_iff_lt,if_false];exact aca hr hc g li li ri' k
theorem Iv(g:ip n p){k:Nat}(hk:k<n)(ri:sh r p k){Q:Nat->Shared->Prop}:∀f l u,l<=u->u<=k->u-l<=f->(∀i,i<l->rk r p i<rk r p k)->(∀i,u<=i->i<k->rk r p k<rk r p i)->
  (∀l,l<=k->(∀i,i<l->rk r p i<rk r p k)->(∀i,l<=i->i<k->rk r p k<rk r p i)->Q l s)->(kas_place p k f l u).kasWp cmp Q s
 | 0,l,u,h1,h2,h3,a,b,q=>q l (by exact wj) a λi hi hk=>b i li hk
 | f+1,l,u,h1,h2,h3,a,b,q=>by
  unfold kas_place
  by_cases e:l ≥ u
  ·rw[if_pos e];exact q l (by exact wj) a λi hi hk=>b i (by exact wj) hk
  ·rw[if_neg e];refine hc _ _ _ (g.lt hk) (g.lt li) (g.ne hk om li) ?_;have hm:(l+u)/2<u:=li;have hl:l<=(l+u)/2:=li
   by_cases hb:r (p.getD k 0)<r (p.getD ((l+u)/2) 0)
   ·simp only[hb,decide_true,if_true];refine Iv g hk ri f l ((l+u)/2) hl li om a (λi hi xn=>?_) q
    by_cases e2:i=(l+u)/2
    ·subst e2;exact hb
    ·have:=ri ((l+u)/2) i li xn;have p4:rk r p k<rk r p ((l+u)/2):=hb;lia
   ·simp only[hb,decide_false,p9,if_false]
    have p4:rk r p ((l+u)/2)<rk r p k:=by
     have:=Ky hr hc g (i:=(l+u)/2) (j:=k) li hk li;unfold rk at this ⊢;omega
    refine Iv g hk ri f ((l+u)/2+1) u (by exact xf) h2 om (λi hi=>?_) b q
    by_cases e2:i=(l+u)/2
    ·subst e2;exact p4
    ·have:=ri i ((l+u)/2) li (by exact wh);lia
theorem S7(g:ip n p){k l:Nat}(hk:k<n)(hl:l<=k)(j:Nat):rk r (bubble p k (k-l)) j=if j=l then rk r p k else if l<j/\j<=k then rk r p (j-1) else rk r p j:=by
 have hs:=g.size;unfold rk;rw[FX,getElem?_bubble (by exact wg) _ li,show k-(k-l)=l by lia];simp only[FX]
 repeat' split
 all_goals first | rfl | (exfalso;omega)
theorem S8{Q:Array Nat->Shared->Prop}(q:∀p',ip n p'->sh r p' n->Q p' s):∀f k (p:Array Nat),ip n p->k+f=n->sh r p k->(kas_bin f p k).kasWp cmp Q s
 | 0,k,p,g,h,ri=>q p g (by have:k=n:=om;rwa[this]at ri)
 | f+1,k,p,g,h,ri=>by
  unfold kas_bin;rw[Cu];refine Iv hr hc g li ri k 0 k (bU _) (aB _) (by exact w1) (λi hi=>absurd hi li) (λi hi hk=>absurd hk li) λl hl a b=>S8 q f (k+1) _ ((bubble_perm _ _ _).trans g) li λi j nD hj=>?_;rw[S7 hr hc g li hl,S7 hr hc g om hl]
  by_cases e1:i=l
  ·rw[if_pos e1,if_neg li,if_pos li];exact b _ li li
  ·rw[if_neg e1]
   by_cases e2:j=l
   ·rw[if_pos e2,if_neg li];exact a i (by exact wf)
   ·rw[if_neg e2]
    by_cases h3:l<i/\i<=k
    ·rw[if_pos h3,if_pos li];exact ri _ _ om li
    ·rw[if_neg h3]
     by_cases h4:l<j/\j<=k
     ·rw[if_pos h4]
      by_cases e5:i=j-1
      ·lia
      ·exact ri _ _ li om
     ·rw[if_neg h4];exact ri _ _ nD li
theorem adY(h1:1<=n){Q:Array Nat->Shared->Prop}(q:∀p',ip n p'->sh r p' n->Q p' s):(kas_sort n).kasWp cmp Q s:=by
 unfold kas_sort;rw[Cu];refine adx hr hc (Zs _) h1 λm p' a b g ri=>?_;dsimp only
 by_cases h:m<n
 ·rw[if_pos h];exact S8 hr hc q _ _ _ g li (by rw[show max m 1=m by lia];exact ri)
 ·rw[if_neg h];have:m=n:=li;rw[this]at ri;exact q p' g ri
end
end L2
namespace L2
open PySem PySem.Spec PySem.W PyProof.Rows
theorem aeN{h:Heap}{a:Addr}{m m':Str->Option Value}(x:h.Ns a m)(y:h.Ns a m'):m=m':=by
 obtain⟨o,es,ep,e,d,_,f⟩:=x;obtain⟨o',km,zR,e',d',_,f'⟩:=y;rw[e]at e';cases e';rw[d]at d';cases d'
 funext n
 exact(f n).symm.trans (f' n)
section
variable{X:Cx}{p_:List (Addr×Obj)}{σ:St}{H:Hp}{s:Shared}
theorem Inv.regrown{h':Heap}{m:Str->Option Value}{t':Nat}{d':Drawn}(I:Inv X p_ σ H s)(h1:s.heap.Ns X.env.locals m)(h2:h'.Ns X.env.locals m)(k:∀b o,b≠X.env.locals->s.heap.get? b=some o->h'.get? b=some o) :
  Inv X p_ σ H { s with heap:=h',drawn:=d',toks:=t' }:=by
 refine I.step (g':=s.gens) (d':=d') (ch:=[]) (λ_ z=>nomatch z) (λb o hL _ _ e _=>k b o hL e) (λb o hL _ _ e _=>⟨o.slots,k b o hL e⟩) (λ_ _ _ _ n=>n) (λb o _ e=>?_) (λ_ _ e=>e) (λ_ _ _ e=>e)
  (λb ps e=>⟨#[],by rw[e];simp⟩) (λm' hm=>by rw[aeN hm h1];exact h2) (λb u e=>?_) I.bare
 ·by_cases z:b=X.env.locals
  ·obtain⟨o',_,_,q,_⟩:=h2;exact⟨o',by rw[z];exact q⟩
  ·exact⟨o,k b o z e⟩
 ·refine(I.aL b u e).kX (λd v hd q=>k d v (λz=>?_) q) (λ_ q=>q) λ_ _ q=>q;have fr:=I.free;rw[<-z]at fr;rcases hd with y | y
  ·rw[y,e]at fr;cases fr
  ·rw[y]at fr;cases fr
structure Srt(P:Program)(w:World)(L:Addr)(h:Heap)(vs:List Value)(r:Nat->Int):Prop where
 small:vs.length<64
 inj:∀i j,i<vs.length->j<vs.length->r i=r j->i=j
 ask:2<=vs.length->∃κ,∀(A:Around) (s':Shared),(∀b o,b≠L->h.get? b=some o->s'.heap.get? b=some o)->
  (∀Q:SortKind->Shared->Prop,Q κ s'->wpAny (model P w) A (keyKind' vs.toArray) Q (λ_ _=>False) s')/\
  ∀i j (C:Bool->Shared->Prop),i<vs.length->j<vs.length->i≠j->C (decide (r i<r j)) s'->kas_ask P w A κ vs i j C s'
def DR(ys:List V)(r:Nat->Int)(zs:List V):Prop:=∃p:Array Nat,ip ys.length p/\sh r p ys.length/\zs=p.toList.map λi=>ys.getD i .aE
theorem aam{P:Program}{w:World}{A:Around}{E:Value->Shared->Prop}{a:Addr}{vs:List Value}{n:Nat}{R:PySem.Fin->Shared->Prop}(ho:s.heap.get? a=some (seqObj "list" vs.toArray n))(h1:vs.length<2)
  (k:∀h' e,(∀b o,b≠a->s.heap.get? b=some o->h'.get? b=some o)->h'.get? a=some (seqObj "list" vs.toArray e)->R (.done (.ret .none)) { s with heap:=h' }) :
  wpAny (model P w) A (Builtin.«list.sort» ⟨[.ref a],[]⟩) R E s:=by
 have la:=bq ho;have hn:vs.toArray.size<2:=by rw[du];exact h1
 have zs:∀m:Nat,m<2->m<=bN:=λm hm=>by rw[jK];exact w5
 obtain⟨e1,q1⟩:∃e1,(s.heap.update a (i7 λ_=>(#[]:Array Value))).get? a=some (seqObj "list" #[] e1):=⟨_,Oz ho λ_=>#[]⟩;rw[list_sort_plain];refine ag (listItems_at ho rfl (ag (listUpdate_at ho rfl (ag (seqEpoch_at q1 rfl (ag (OF (ag (ON (lD ?_) (bU _))) (zs _ (by simpa using h1)))))) (zs _ (by simpa using h1)) (bU _))));have q3:=bc (seqObj "list" #[] 0) (bc (seqObj "tuple" vs.toArray 0) q1);dsimp only;rw[if_pos hn,if_pos hn];refine ag (aF ?_);rw[StateT.run_pure];refine ag (aF ?_);dsimp only
 have eo:(arrOf (SortSt.mk' general' (vs.toArray.zip vs.toArray) #[] 7 none)).map (·.2)=vs.toArray:=by
  show (vs.toArray.zip vs.toArray).map (·.2)=vs.toArray;apply Array.toList_inj.mp;rw[Array.toList_map,Array.toList_zip];show (vs.zip vs).map Prod.snd=vs;rw[List.map_snd_zip (aB _)]
 rw[eo];refine ag (seqEpoch_at q3 rfl (ag (listUpdate_at q3 rfl ?_ (bU _) (cZ (zs _ (by simpa using h1)) (jL _)))));rw[if_neg (by simp)];refine aF (k _ _ (λb o hb e=>?_) (Oz q3 λ_=>vs.toArray));rw[Oh _ _ _ _ hb];exact bc _ (bc _ (by rw[Oh _ _ _ _ hb];exact e))
theorem PM{ys:List V}{vs:List Value}(rv:Vals ys vs):∀l:List Nat,Vals (l.map λi=>ys.getD i .aE) (l.map λi=>vs.getD i eK)
 | []=>.nil
 | i::l=>by
  refine .cons ?_ (PM rv l);dsimp only;rw[dI,dI];cases e:ys[i]? with
  | none=>rw[rv.none_of e];rfl
  | some y=>obtain⟨u,e',q⟩:=rv.get e;rw[e'];exact q
theorem aav(ys:List V):(List.range ys.length).map (λi=>ys.getD i .aE)=ys:=by
 apply Ov
 ·simp
 ·intro i h1 h2;simp[h2]
theorem Qe{n:Nat}{p:Array Nat}(g:ip n p):p.toList.length=n:=by rw[kr,g.size]
theorem PY{x:Value}{Q:VK}(alm:wpAny (model X.prog X.w) X.A.in1 (collect x) (λvs s1=>∃ys r,Inv X p_ σ H s1/\Vals ys vs/\Srt X.prog X.w X.env.locals s1.heap vs r/\∀l zs,H l=none->DR ys r zs->Q (.ref l) (upd H l (.lst zs))) X.xe s) :
  wpAny (model X.prog X.w) X.A (call (.builtin "sorted") [x]) (EP X p_ σ Q) X.xe s:=by
 refine Calls.call_function_entry kind_sorted plain_sorted entry_sorted (args_sorted1 _) ?_;unfold Builtin.«sorted»;refine ag (aF (a:=()) (ag (iP alm (λvs s1 hq=>?_) λ_ _ z=>z)));obtain⟨ys,r,I,rv,S,q⟩:=hq;have hlen:=rv.length;have line:vs.length<=bN:=by have:=S.small;rw[jK];exact w5
 refine ag (ON ?_ line);obtain⟨dm,g,d,tk,os⟩:=s1;dsimp only at I S ⊢;have q0:(dm.push (seqObj "list" vs.toArray 0)).get? dm.objs.size=some (seqObj "list" vs.toArray 0):=dM _ rfl;obtain⟨m,F0⟩:=I.fr;have hL:X.env.locals<dm.objs.size:=I.lt;have hb:X.base.objs.size<=dm.objs.size:=cZ I.ok.lg I.sz
 have fin:∀(h2:Heap) (c:Nat) (zs:List V) (out:List Value),h2.Ns X.env.locals m->(∀b o,b≠X.env.locals->dm.get? b=some o->h2.get? b=some o)->h2.get? dm.objs.size=some (seqObj "list" out.toArray c)->
   Vals zs out->zs.length<=bN->DR ys r zs->EP X p_ σ Q (.ref dm.objs.size) ⟨h2,g,d,tk,os⟩:=λh2 c zs out n2 k2 e2 v2 l2 so=>by
  have hn:H dm.objs.size=none:=I.aL.fresh (aB _);have f:=I.iE (b:=dm.objs.size) (aB _) hn;have J:=Inv.regrown (s:=⟨dm,g,d,tk,os⟩) (t':=tk) (d':=d) I F0.ns n2 k2;exact⟨.ref dm.objs.size,_,Inv.adopt (o:=.lst zs) J hn I.sz f.2.1 f.2.2.2.2.1 f.2.2.2.2.2 ⟨l2,out,c,v2,e2⟩,rfl,q _ _ hn so⟩
 refine ag (lD (rO slot_list_sort ⟨_,q0,rfl⟩ entry_list_sort ?_ (args_list_sort _)));have kp:∀b o,dm.get? b=some o->(dm.push (seqObj "list" vs.toArray 0)).get? b=some o:=λb o e=>bc _ e
 by_cases h2:vs.length<2
 ·refine aam (s:=⟨dm.push (seqObj "list" vs.toArray 0),g,d,tk,os⟩) q0 h2 λh' e k' e'=>⟨_,rfl,aF ⟨_,rfl,?_⟩⟩;have ne:∀b o,dm.get? b=some o->b≠dm.objs.size:=λb o z=>dv (bq z);refine fin h' e ys vs ?_ (λb o _ z=>k' b o (ne b o z) (kp b o z)) e' rv w7 ⟨(List.range ys.length).toArray,Zs _,λi j nD hj=>absurd nD li,(aav ys).symm⟩;obtain⟨o,es,ep,z,rr⟩:=F0.ns;exact⟨o,es,ep,k' _ _ (ne _ _ z) (kp _ _ z),rr⟩
 ·have h3:2<=vs.length:=li
  refine kat_list_sort (s:=⟨dm.push (seqObj "list" vs.toArray 0),g,d,tk,os⟩) (h₀:=X.base) (L:=X.env.locals) (m:=m) (news:=rest X.base (dm.push (seqObj "list" vs.toArray 0)) X.env.locals dm.objs.size) (F0.push _)
   (λp hp=>acR p (mf.mp hp).1) q0 (qf hL) (YQ hb) Rz h3 S.small λe1 h' F1 N1=>?_
  have keep:∀h3:Heap,Fr X.base X.env.locals h3 m->News X.base X.env.locals h3 (rest X.base (dm.push (seqObj "list" vs.toArray 0)) X.env.locals dm.objs.size)->∀b o,b≠X.env.locals->dm.get? b=some o->h3.get? b=some o:=λh3 F3 N3 b o hb z=>
   ZS (λb o z=>kp b o (I.bk b o z)) F3 N3 b o hb (dv (bq z)) (kp b o z)
  obtain⟨κ,hκ⟩:=S.ask h3;have hk:=hκ X.A.in1.in1 ⟨h',g,d,tk,os⟩ (keep h' F1 λp hp=>N1 p (.tail _ hp));refine hk.1 _ (adY (r:=r) S.inj (λi j C hi hj ne c=>hk.2 i j C hi hj ne c) li λp' gp ri=>KasFin.intro F1 N1 (.head Rz) λh4 c F4 N4=>⟨_,rfl,aF ⟨_,rfl,fin h4 c (p'.toList.map λi=>ys.getD i .aE) _ F4.ns (keep h4 F4 λp hp=>N4 p (.tail _ hp)) (N4 _ (.head _)).1 (PM rv _) ?_ ⟨p',by rw[hlen];exact gp,by rw[hlen];exact ri,rfl⟩⟩⟩);rw[aH,Qe gp];exact line
end
end L2
namespace L2
open PySem PySem.Spec PySem.W PyProof.Rows L3
abbrev J6(X:Cx)(sc:Scope)(qual:Str)(f:Addr)(cd:Value)(L:Addr):Env:=envX qual sc L f cd (gr X.env.cells sc.names [])
def EO(X:Cx)(A:Around)(sc:Scope)(N:List Str)(qual:Str)(f:Addr)(cd:Value)(s:Shared)(H:Hp):Cx:=
 {X with A:=A.deeper (J6 X sc qual f cd s.heap.objs.size),N:=N,s₀:=s,H₀:=H,env:=J6 X sc qual f cd s.heap.objs.size,outer:=X.stack,stack:=J6 X sc qual f cd s.heap.objs.size::X.stack,ex:=[],fn:=λ_=>false,calm:=true,pn:=[],xe:=λ_ _=>False }
section
variable{X:Cx}{p_:List (Addr×Obj)}{σ:St}{H:Hp}{s:Shared}{sc:Scope}{N:List Str}{idx:List Nat}{A:Around}{f:Addr}{cd:Value}{qual px:Str}{k:Nat}{v:V}{u:Value}
theorem ae2(I:Inv X p_ σ H s)(S:c9 X sc N idx)(hA:A.frames=some X.stack)(hh:A.handled=none)(hk:N[k]?=some px)(hl:sc.names.lookup px=some .local)(hi:idx.length<=k)(r:RelV v u){h':Heap}{m:Str->Option Value}{t:Nat}
  (lW:h'.Ns s.heap.objs.size m) (hm:m px=some u) (kp:∀b o,s.heap.get? b=some o->h'.get? b=some o) :
  Inv (EO X A sc N qual f cd s H) [] ((jO idx N.length σ).set k (some v)) H { s with heap:=h',toks:=t }:=by
 have m6:∀x c,(gr X.env.cells sc.names []).lookup x=some c->X.env.cells.lookup x=some c:=C4 sc.names [] (λx c e=>by cases e);have has:=λx e=>C5 sc.names [] x e (I.ok.has x (.inl (S.frees _ e rfl)));have q8:∀b:Addr,b∉(EO X A sc N qual f cd s H).ex:=λb z=>absurd (show b∈([]:List Addr) from z) (by simp);refine⟨⟨I.ok.mod,S.kind,rfl,rfl,aB _,λx y c e1 e2=>I.ok.inj x y c (m6 x c e1) (m6 y c e2),λx h=>?_,λx c h=>(by cases h),λ_=>hh,YR hA,.inr ⟨rfl,rfl⟩,λb z=>absurd z (q8 b),I.bs,cZ I.ok.lg I.sz,λb _ _=>q8 b,λb z=>absurd z (q8 b),I.stack,I.Dg⟩,rfl,I.bare,Un.kept kp,⟨m,lW,λj x w e1 e2 e3=>?_⟩,λx c e=>?_,I.aL.fresh (aB _),λx c e=>I.jq x c (m6 x c e),λp hp=>absurd (show p∈([]:List (Addr×Obj)) from hp) (by simp),I.aL.kept kp,by rw[iy];exact IL S.le⟩
 ·have h2:sc.names.lookup x=some .cell\/sc.names.lookup x=some .free:=h;rcases h2 with z | z
  ·exact absurd rfl (S.DI _ (PySem.mem_of_lookup z))
  ·exact has x (PySem.mem_of_lookup z)
 ·have Cf:N[j]?=some x:=e1
  by_cases hj:j=k
  ·subst hj;rw[hk]at Cf;cases Cf;have cI:j<(jO idx N.length σ).length:=by rw[IL S.le];exact(dC.mp hk).1
   rw[jF cI]at e2;cases e2;exact⟨u,r,.inl ⟨hl,hm⟩⟩
  ·rw[vm (eT hj)]at e2;obtain⟨i,h1,h2⟩:=IM e2;obtain⟨h3,h4⟩:=S.VW j i x h1 Cf;have kh:=PySem.mem_of_lookup h4;have sA:X.env.scope.names.lookup x=some .cell:=S.frees _ kh rfl;obtain⟨m',BW,BY⟩:=I.loc;obtain⟨u',r',l⟩:=BY i x w h3 h2 (.inr (.inl sA));refine⟨u',r',.inr ⟨.inr h4,?_⟩⟩;rcases l with ⟨q,_⟩ | ⟨_,c,ec,z⟩
   ·have q':X.env.scope.names.lookup x=some .local:=q;rw[sA]at q';cases q'
   ·obtain⟨c',Cc⟩:=has x kh;have:=m6 x c' Cc;rw[ec]at this;cases this;exact⟨c,Cc,z.keeps λb o e=>kp b o e⟩
 ·obtain⟨v',z⟩:=I.cell x c (m6 x c e);exact⟨v',z.keeps λb o e=>kp b o e⟩
theorem ac9{params:Arguments}{body:Expr}{pm nG:Value}{c':Addr}{te:TE}{Q:VK}{E:Value->Shared->Prop}(I:Inv X p_ σ H s)(S:c9 X sc N idx)(hA:A.frames=some X.stack)(hh:A.handled=none)(ajq:A.depth<Cv)(hk:N[k]?=some px)
  (hl:sc.names.lookup px=some .local) (hi:idx.length<=k) (r:RelV v u) (ho:s.heap.get? f=some (kla_obj "<lambda>" qual params body sc (gr X.env.cells sc.names []) pm c' nG)) (ib:s.heap.CodeRec (.ref c') qual)
  (Bm:r9 (kla_fn "<lambda>" qual params body sc (gr X.env.cells sc.names []) pm (.ref c') nG) ⟨[u],[]⟩=pure [(px,u)]) (Nt:sc.isCoroutine=false) (LX:sc.isGenerator=false)
  (hb:PE (EO X A sc N qual f (.ref c') s H) body te) (q:te ((jO idx N.length σ).set k (some v)) H Q):wpAny (model X.prog X.w) A (call (.ref f) [u]) (EP X p_ σ Q) E s:=by
 refine Ap (kla_callFunE ajq ho rfl Nt LX rfl ib ?_);rw[Bm];refine aF (wpAny_newFunctionEnv S.DI (λy hy=>?_) (λh1 lW zD=>⟨I.nolimit.fresh _ zD,?_⟩) S.kind)
 ·have e:y=(px,u):=by simpa using hy
  rw[e];exact hl
 ·have kp:∀b o,s.heap.get? b=some o->h1.get? b=some o:=λb o e=>zD.extBut b o (dv (bq e)) (bc _ e);have J:=ae2 (A:=A) (f:=f) (cd:=.ref c') (qual:=qual) (t:=s.toks+[(px,u)].length) I S hA hh hk hl hi r lW (by simp[rP]) kp;refine kla_codeExpr (iP (hb [] _ _ H _ J q) (λw s2 hw=>?_) λ_ _ z=>lH z);obtain⟨v2,H2,J2,r2,q2⟩:=hw;exact⟨v2,H2,I.Ua (ch:=[]) (J2.os.trans rfl) J2.base J2.aL J2.bare λb z=>absurd z (by simp),r2,q2⟩
end
def zg(c:Addr)(qual:Str):HO:=.ext λh=>h.CodeRec (.ref c) qual
theorem agC{P:Program}{w:World}{H:Hp}{h:Heap}{c:Addr}{qual:Str}(x:h.CodeRec (.ref c) qual):eX P w H h c (zg c qual):=by
 obtain⟨c0,o,vs,t,e,q,r⟩:=id x;cases e;refine⟨x,⟨o,q⟩,λh1 h2 y k=>?_⟩;obtain⟨c1,o1,BG,t1,e1,q1,r1⟩:=y;cases e1;exact⟨c,o1,BG,t1,rfl,k _ q1,r1⟩
def de(P:Addr)(pos:Pos)(qual:Str)(H:Hp):Prop:=∃ps,H P=some (.eL ps)/\(ps=#[]\/∃c,ps=#[rawInt pos.line,rawInt pos.col,.ref c]/\H c=some (zg c qual))
def uc(P:Addr)(H H':Hp):Prop:=∀b o,b≠P->H b=some o->H' b=some o
theorem uc.refl{P:Addr}(H:Hp):uc P H H:=λ_ _ _ e=>e
def sH(mg:Str->Option Value)(base:Heap):Prop:=∃bm ob,mg "__builtins__" = some (.ref bm)/\bm≠qm/\bm≠eD/\base.get? bm=some ob/\ob.cls=.type "module"/\ob.dict=some qm/\ob.data=.plain
section
variable{X:Cx}{p_:List (Addr×Obj)}{σ:St}{H:Hp}{s:Shared}
theorem Inv.grow{h':Heap}{P:Addr}{ps more:Array Value}{t':Nat}(I:Inv X p_ σ H s)(hP:H P=some (.eL ps))(k:∀b o,b≠P->s.heap.get? b=some o->h'.get? b=some o)(e:h'.get? P=some (tabObj (ps++more))) :
  Inv X p_ σ (upd H P (.eL (ps++more))) { s with heap:=h',toks:=t' }:=by
 have ne:∀b,H b=none->b≠P:=λb n z=>by rw[z,hP]at n;cases n
 refine I.step (g':=s.gens) (d':=s.drawn) (ch:=[]) (λ_ z=>nomatch z) (λb o _ _ _ q n=>k b o (ne b n) q) (λb o _ _ _ q n=>⟨o.slots,k b o (ne b n) q⟩) (λb o _ q n=>by rw[ak (ne b n)];exact n) (λb o _ q=>?_) (λb xs q=>?_) (λb o u q=>?_) (λb qs q=>?_)
  (λm hm=>?_) (λb u q=>?_) I.bare
 ·by_cases z:b=P
  ·exact⟨_,by rw[z];exact e⟩
  ·exact⟨o,k b o z q⟩
 ·rw[ak (ik q hP (by intro z;cases z))];exact q
 ·rw[ak (ik q hP (by intro z;cases z))];exact q
 ·by_cases z:b=P
  ·subst z;rw[hP]at q;cases q;exact⟨more,av⟩
  ·exact⟨#[],by rw[ak z,q];simp⟩
 ·obtain⟨o,es,ep,q,r⟩:=hm;exact⟨o,es,ep,k _ o (ne _ I.free) q,r⟩
 ·by_cases z:b=P
  ·subst z;rw[av]at q;cases q;exact e
  ·rw[ak z]at q;refine(I.aL b u q).kX (λd v hd y=>k d v (λw=>?_) y) (λc y=>?_) λc xs y=>?_
   ·rcases hd with y1 | y1
    ·exact z (y1.symm.trans w)
    ·rw[w,hP]at y1;cases y1
   ·rw[ak (ik y hP (by intro z;cases z))];exact y
   ·rw[ak (ik y hP (by intro z;cases z))];exact y
theorem Inv.Ef{f:Addr}{o:Obj}(I:Inv X p_ σ H s)(g:fu X p_ H f)(e:s.heap.get? f=some o)(n:∀v,o.data≠.cell v):Inv X (p_++[(f,o)]) σ H s:=
 I.tJ λp hp=>by
  rcases jH.mp hp with z | z
  ·exact I.pin p (gx _ z)
  ·have z':p=(f,o):=by simpa using z
   rw[z'];exact⟨e,g.1,g.2.1,g.2.2.1,n⟩
theorem ac8{sc:Scope}{N:List Str}{idx:List Nat}{params:Arguments}{body:Expr}{pos:Pos}{c P:Addr}{E:Value->Shared->Prop}{R:Value->Shared->Prop}(I:Inv X p_ σ H s)(S:c9 X sc N idx)(Ec:X.env.code=.ref c)(C:CodeHd X.base c P)(B:sH X.mg X.base)
  (LY:defaultsOf params X.env=([],[])) (h:de P pos (X.env.qual ++ "<lambda>") H)
  (k:∀f c' H' pm nG s',Inv X (p_++[(f,kla_obj "<lambda>" (X.env.qual ++ "<lambda>") params body sc (gr X.env.cells sc.names []) pm c' nG)]) σ H' s'->uc P H H'->de P pos (X.env.qual ++ "<lambda>") H'->H' c'=some (zg c' (X.env.qual ++ "<lambda>"))->R (.ref f) s') :
  wpAny (model X.prog X.w) X.A (eval (.Lambda params body sc pos) X.env) R E s:=by
 have hZ:=Hq λp hp e=>I.ok.has p.1 (.inl (S.frees p hp e));obtain⟨ps,hP,nB⟩:=h;have oP:s.heap.get? P=some (tabObj ps):=I.aL P _ hP;obtain⟨bm,ob,b1,b2,b3,b4,b5,b6,b7⟩:=B
 have nP:∀b o,X.base.get? b=some o->b≠P:=λb o e z=>by
  have:=(I.bs b o e).2;rw[z,hP]at this;cases this
 have Xh:=I.mod.glob.keeps I.bk
 have gP:eD≠P:=by
  obtain⟨o,es,ep,e,_⟩:=I.mod.glob;exact nP _ _ e
 have hb:s.heap.BuiltinsAt X.mg P:=⟨bm,ob,b1,b2,b3,nP _ _ b4,I.bk _ _ b4,b5,b6,b7⟩;have CC:=C.keeps I.bk;refine kla_eval LY ?_;rcases nB with rfl | ⟨c0,rfl,B3⟩
 ·refine kla_makeFunction (mg:=X.mg) hZ I.ok.glob Xh Ec CC oP mj rfl gP hb λc' nG h' tk hx oM cI akV rj=>?_
  have I1:Inv X p_ σ (upd H P (.eL (#[] ++ #[rawInt pos.line,rawInt pos.col,.ref c']))) { s with heap:=h'.push (kla_obj "<lambda>" (X.env.qual ++ "<lambda>") params body sc (gr X.env.cells sc.names []) ((X.mg "__name__").getD .none) c' nG),toks:=tk }:=
   I.grow hP (λb o n e=>bc _ (hx b o n e)) (bc _ rj)
  have WA:=bq oP;have nc:=I.aL.fresh oM;have cP:=qf (eB WA oM);have nc1:upd H P (.eL (#[] ++ #[rawInt pos.line,rawInt pos.col,.ref c'])) c'=none:=by rw[ak cP];exact nc
  have fc:=I.iE (b:=c') oM nc;have I2:=Inv.adopt (o:=zg c' (X.env.qual ++ "<lambda>")) I1 nc1 (cZ I.sz oM) fc.2.1 fc.2.2.2.2.1 fc.2.2.2.2.2 (agC (akV.push _));have Nj:=cZ oM (cg cI);have fP:=qf (eB WA Nj)
  have nf:upd (upd H P (.eL (#[] ++ #[rawInt pos.line,rawInt pos.col,.ref c']))) c' (zg c' (X.env.qual ++ "<lambda>")) h'.objs.size=none:=by
   rw[ak (qf cI),ak fP];exact I.aL.fresh Nj
  have I3:=I2.Ef (I.iE (b:=h'.objs.size) Nj nf) (dM _ rfl) (λv z=>by cases z);refine k _ c' _ _ nG _ I3 (λb o n e=>?_) ⟨_,by rw[ak (eT cP),av],.inr ⟨c',by simp,av⟩⟩ av;rw[ak (bJ e nc),ak n];exact e
 ·have FJ:s.heap.CodeRec (.ref c0) (X.env.qual ++ "<lambda>"):=(I.aL c0 _ B3).1;have hf:codeAmong pos (#[rawInt pos.line,rawInt pos.col,c8 c0]:Array Value).toList=some (.ref c0):=by simp[codeAmong,rawInt]
  refine kla_makeFunctionHit (mg:=X.mg) hZ I.ok.glob Xh Ec CC oP (show TriplesOk [rawInt pos.line,rawInt pos.col,c8 c0] from mj) hf hb λnG h' tk kk oM=>?_;have I1:Inv X p_ σ H { s with heap:=h'.push (kla_obj "<lambda>" (X.env.qual ++ "<lambda>") params body sc (gr X.env.cells sc.names []) ((X.mg "__name__").getD .none) c0 nG),toks:=tk }:=I.kept λb o e=>bc _ (kk b o e);have I3:=I1.Ef (I.iE (b:=h'.objs.size) oM (I.aL.fresh oM)) (dM _ rfl) (λv z=>by cases z);exact k _ c0 _ _ nG _ I3 (uc.refl H) ⟨_,hP,.inr ⟨c0,rfl,B3⟩⟩ B3
end
end L2
namespace L2
open PySem PySem.Spec PySem.W PyProof.Rows
def Ub(ts:List Addr)(H:Hp):Prop:=(∀b,H b=none\/(∃o xs,H b=some (.jU o (.lst xs)))\/(b∈ts/\H b=some (.eL #[])))/\∀b∈ts,H b=some (.eL #[])
theorem abA{P:Program}{w:World}{K:W.Frag}{mg mb:Str->Option Value}{CX:lj}{k:Nat}{fa a:Addr}{fd:aQ}{x:Str}{sp:Sp}{s₁:Shared}{vs:List Value}{ns:List Int}{ts:List Addr}
  (KX:K.In s₁.heap) (lW:s₁.heap.Ns eD mg) (hb:s₁.heap.Ns qm mb) (Nv:∀x:Str,x ≠ "__name__"->mb x=rW x) (alc:s₁.heap.NoLimit) (hg:s₁.gens=#[]) (va:sH mg s₁.heap)
  (wX:∀b∈ts,s₁.heap.get? b=some (tabObj #[])) (htc:∀b∈ts,isCodeTable s₁.heap b) (zC:∀b∈ts,K.lookup b=none)
  (ha:s₁.heap.get? a=some { cls:=.type "list",data:=.seq vs.toArray }) (hi:IntsAre vs ns) (hl:ns.length<=bN) (hr:eI k callerA)
  (F:∀base:Heap,K.In base->base.Ns eD mg->sH mg base->ao P w K mg base CX k fa fd [x] sp) (Bm:∀(s:Shared) (u:Value),BindsTo s fd ⟨[u],[]⟩ [(x,u)])
  (ji:∀H:Hp,Ub ts H->aq K H a (ns.map V.int)->sp [.ref a] H (λv _=>v=.bl true) λ_ _ _=>False)
  (hCX:∀H e s',CX [] H s₁ (λ_ _ _=>False) e s'->False) :
  codeAny (model P w) callerA (.call (.ref fa) ⟨[.ref a],[]⟩) (λr s'=>r=.ok (.ret (.bool true))/\OldK s₁.heap s'.heap/\s'.os=s₁.os/\AllBare s'.gens) s₁:=by
 have rv:=Hx hi;have aky:=hi.length
 have X5:a∉ts:=λz=>by
  have e:=wX a z;rw[ha]at e;cases e
 have core:∀H:Hp,Ub ts H->aq K H a (ns.map V.int)->f9 P w H s₁.heap->(∀b,H b≠none->b=a\/b∈ts)->(H a≠none->K.lookup a=none)->
   codeAny (model P w) callerA (.call (.ref fa) ⟨[.ref a],[]⟩) (λr s'=>r=.ok (.ret (.bool true))/\OldK s₁.heap s'.heap/\s'.os=s₁.os/\AllBare s'.gens) s₁:=by
  intro H hO hS aL hA hK;have base_of:∀{b:Addr} {o:Obj},s₁.heap.get? b=some o->H b=none->(qN s₁.heap H).get? b=some o:=λe n=>adh e n
  have q8:∀{b:Addr} {o:Obj},s₁.heap.get? b=some o->(∀xs n,o.data≠.seq xs n)->(∀xs,o.data≠.fields xs)->H b=none:=λ{b o} e d1 d2=>by
   cases q:H b with
   | none=>rfl
   | some u=>
    rcases hA b (by rw[q];simp)with z | z
    ·subst z;rw[ha]at e;cases e;exact absurd rfl (d1 _ _)
    ·rw[wX b z]at e;cases e;exact absurd rfl (d2 _)
  have Fe:∀{b:Addr} {m:Str->Option Value},s₁.heap.Ns b m->(qN s₁.heap H).Ns b m:=λ{b m} ⟨o,es,ep,e,d,r⟩=>⟨o,es,ep,base_of e (q8 e (λ_ _ z=>by rw[d]at z;cases z) λ_ z=>by rw[d]at z;cases z),d,r⟩
  have Xx:K.In (qN s₁.heap H):=λb o e=>base_of (KX b o e) (by
   cases q:H b with
   | none=>rfl
   | some u=>
    rcases hA b (by rw[q];simp)with z | z
    ·subst z;rw[hK (by rw[q];simp)]at e;cases e
    ·rw[zC b z]at e;cases e)
  have hB:sH mg (qN s₁.heap H):=by
   obtain⟨bm,ob,b1,b2,b3,b4,b5,b6,b7⟩:=va;exact⟨bm,ob,b1,b2,b3,base_of b4 (q8 b4 (λ_ _ z=>by rw[b7]at z;cases z) λ_ z=>by rw[b7]at z;cases z),b5,b6,b7⟩
  have hM:Mod K mg (qN s₁.heap H):=⟨Xx,Fe lW,⟨mb,Fe hb,Nv⟩,let ⟨mc,h1,h2⟩:=alc;⟨mc,Fe h1,h2⟩⟩;have e0:v8 P w K mg (qN s₁.heap H) callerA [] s₁ H:=⟨rfl,hM,λb o e=>aeJ e,qg (abH _ _),trivial,λb hb=>absurd (show b∈([]:List Addr) from hb) (by simp),aL,.of_eq hg⟩;refine xR ((F _ Xx (Fe lW) hB).run callerA [] s₁ H ⟨[.ref a],[]⟩ [.ref a] [.ref a] _ _ hr e0 (Bm s₁ (.ref a)) (.cons rfl .nil) (ji H hO hS)) λr s' h=>?_;cases r with
  | error e=>exact(hCX H e s' h).elim
  | ok fl=>
   cases fl with
   | next=>exact lH h
   | brk=>exact lH h
   | cont=>exact lH h
   | ret u=>
    obtain⟨v,H',os,bare,un,Vn,r',q⟩:=h;have q':=q;subst q';obtain rfl:u=oY true:=r'
    have old:∀b o,s₁.heap.get? b=some o->asItWas s₁.heap s'.heap b o/\∃o',s'.heap.get? b=some o':=λb o e=>by
     cases q:H b with
     | none=>
      have:=un.keep b o e q (by intro z;exact absurd (show b∈([]:List Addr) from z) (by simp)) (by simp);exact⟨.inl this,_,this⟩
     | some u=>
      rcases hO.1 b with z | ⟨ob,xs,z⟩ | ⟨hm,z⟩
      ·rw[q]at z;cases z
      ·have z2:=un.pI b ob _ z;obtain⟨e1,_⟩:=aL b _ z;obtain⟨e2,_⟩:=Vn b _ z2;rw[e]at e1;cases e1;exact⟨.inl e2,_,e2⟩
      ·obtain⟨more,z2⟩:=un.pF b _ z;have e2:s'.heap.get? b=some (tabObj (#[]++more)):=Vn b _ z2;have e1:=wX b hm;rw[e]at e1;cases e1;exact⟨.inr (.inl ⟨htc b hm,rfl,#[],more,rfl,e2⟩),_,e2⟩
    exact⟨rfl,⟨λb o e=>(old b o e).1,λb o e=>(old b o e).2⟩,os,bare⟩
 have tok:∀b,b∈ts->eX P w (λb=>if b=a then none else if b∈ts then some (.eL #[]) else none) s₁.heap b (.eL #[]):=λb hb=>wX b hb;cases hk:K.lookup a with
 | some o=>
  have e:=KX a o hk;rw[ha]at e;cases e;have hta:∀b∈ts,(λb=>if b∈ts then some (HO.eL #[]) else none) b=some (.eL #[]):=λb hb=>if_pos hb;refine core (λb=>if b∈ts then some (.eL #[]) else none) ⟨λb=>?_,hta⟩ (.inr ⟨_,vs.toArray,_,hk,rfl,rfl,rfl,by rw[du,aky];exact hl,by simpa using rv⟩) (λb u z=>?_) (λb z=>?_) λz=>absurd (if_neg X5) z
  ·by_cases hb:b∈ts
   ·exact .inr (.inr ⟨hb,if_pos hb⟩)
   ·exact .inl (if_neg hb)
  ·by_cases hb:b∈ts
   ·have z':=(if_pos hb).symm.trans z;cases z';exact wX b hb
   ·have z':=(if_neg hb).symm.trans z;cases z'
  ·by_cases hb:b∈ts
   ·exact .inr hb
   ·exact absurd (if_neg hb) z
 | none=>
  have ne:∀b∈ts,b≠a:=λb hb z=>X5 (z ▸ hb);refine core (λb=>if b=a then some (.jU { cls:=.type "list",data:=.seq vs.toArray } (.lst (ns.map V.int))) else if b∈ts then some (.eL #[]) else none) ⟨λb=>?_,λb hb=>?_⟩ (.inl (.inr ⟨{ cls:=.type "list",data:=.seq vs.toArray },if_pos rfl⟩)) (λb u z=>?_) (λb z=>?_) λ_=>hk
  ·by_cases hb:b=a
   ·exact .inr (.inl ⟨_,_,if_pos hb⟩)
   ·by_cases hc:b∈ts
    ·exact .inr (.inr ⟨hc,by dsimp only;rw[if_neg hb,if_pos hc]⟩)
    ·exact .inl (by dsimp only;rw[if_neg hb,if_neg hc])
  ·dsimp only;rw[if_neg (ne b hb),if_pos hb]
  ·dsimp only at z
   by_cases hb:b=a
   ·rw[if_pos hb]at z;cases z;subst hb;exact⟨ha,by rw[aH];exact hl,vs,_,rv,ha⟩
   ·rw[if_neg hb]at z
    by_cases hc:b∈ts
    ·rw[if_pos hc]at z;cases z;exact wX b hc
    ·rw[if_neg hc]at z;cases z
  ·by_cases hb:b=a
   ·exact .inl hb
   ·by_cases hc:b∈ts
    ·exact .inr hc
    ·exact absurd (show (if b=a then _ else if b∈ts then _ else none)=none by rw[if_neg hb,if_neg hc]) z
end L2
namespace HT
open PySem PySem.W L2
theorem OQ:∀{us:List Value} {xs:List Str},qq us xs=true->Vals (xs.map V.str) us/\us.length=xs.length
 | [],[],_=>⟨.nil,rfl⟩
 | .str y t::us,x::xs,h=>by
  have h:(decide (y=x)&&qq us xs)=true:=h;rw[iG]at h;obtain⟨a,b⟩:=OQ h.2;have e:=of_decide_eq_true h.1;subst e;exact⟨.cons ⟨t,rfl⟩ a,by rw[gU,gU,b]⟩
 | [],_::_,h=>by simp[qq]at h
 | u::us,[],h=>by cases u <;> simp[qq]at h
 | .none::_,_::_,h=>by simp[qq]at h
 | .ref _::_,_::_,h=>by simp[qq]at h
 | .int _ _::_,_::_,h=>by simp[qq]at h
 | .bool _::_,_::_,h=>by simp[qq]at h
theorem adN{K:Frag}{a:Addr}{xs:List Str}(h:tupS K a xs=true)(hz:xs.length<=bN)(H:Hp):ar K H a (xs.map V.str):=by
 unfold tupS at h
 split at h
 ·rename_i d aj n sl e
  obtain⟨r,l⟩:=OQ h;exact .inr ⟨_,aj,n,e,rfl,rfl,by rw[<-kr,l];exact hz,r⟩
 ·cases h
end HT
namespace L3
open PySem
def gj(b:Bool)(h:Heap)(it l:Addr)(i:Nat):Prop:=if b=true then h.IsListIter it l i else h.IsTupleIter it l i
def gm(b:Bool)(h:Heap)(l:Addr)(xs:Array Value):Prop:=if b=true then h.IsList l xs else h.IsTuple l xs
theorem gj.ext{b:Bool}{h h':Heap}{it l c:Addr}{i:Nat}(x:gj b h it l i)(e:Hk c h h')(n:it≠c):gj b h' it l i:=by
 cases b with
 | true=>exact(show h.IsListIter it l i from x).extBut e n
 | false=>exact(show h.IsTupleIter it l i from x).extBut e n
theorem gm.ext{b:Bool}{h h':Heap}{l c:Addr}{xs:Array Value}(x:gm b h l xs)(e:Hk c h h')(n:l≠c):gm b h' l xs:=by
 cases b with
 | true=>exact(show h.IsList l xs from x).extBut e n
 | false=>exact(show h.IsTuple l xs from x).extBut e n
theorem gj.at{b:Bool}{h h':Heap}{it l:Addr}{i:Nat}(x:gj b h it l i)(e:∀o,h.get? it=some o->h'.get? it=some o):gj b h' it l i:=by
 cases b with
 | true=>exact(show h.IsListIter it l i from x).at e
 | false=>obtain⟨o,ho,r⟩:=(show h.IsTupleIter it l i from x);exact⟨o,e o ho,r⟩
theorem gm.at{b:Bool}{h h':Heap}{l:Addr}{xs:Array Value}(x:gm b h l xs)(e:∀o,h.get? l=some o->h'.get? l=some o):gm b h' l xs:=by
 cases b with
 | true=>exact(show h.IsList l xs from x).at e
 | false=>obtain⟨o,ho,r⟩:=(show h.IsTuple l xs from x);exact⟨o,e o ho,r⟩
theorem gj.obj{b:Bool}{h:Heap}{it l:Addr}{i:Nat}(x:gj b h it l i):∃o vs,h.get? it=some o/\o.data=.fields vs:=by
 cases b with
 | true=>obtain⟨o,e,_,d⟩:=(show h.IsListIter it l i from x);exact⟨o,_,e,d⟩
 | false=>obtain⟨o,e,_,d⟩:=(show h.IsTupleIter it l i from x);exact⟨o,_,e,d⟩
section
variable{prog:Program}{w:World}{A:Around}{E:Value->Shared->Prop}{s:Shared}
theorem ZC{it t:Addr}{i:Nat}{aj:Array Value}{x:Value}{Q:Value->Shared->Prop}(a1:s.heap.IsTupleIter it t i)(a2:s.heap.IsTuple t aj)(a3:aj[i]?=some x)
  (k:∀h',h'.IsTupleIter it t (i+1)->gA it s.heap h'->Q x { s with heap:=h' }):wpAny (model prog w) A (rG (.ref it)) Q E s:=by
 obtain⟨o,e,c,d⟩:=id a1;obtain⟨ot,et,_,nt,dt⟩:=a2;unfold rG;refine ag (vj (name:=lE "__next__") a1.typeIs FZ (rO FZ a1.typeIs Yq ?_ (Yp _)));show wpAny _ _ (field (.ref it) 0 >>= _) _ _ s;refine ag (iO e d (x:=.ref t) rfl ?_);show wpAny _ _ (if (c8 t == eK)=true then _ else _) _ _ s;rw[if_neg (by exact dg)];show wpAny _ _ (field (.ref it) 1 >>= _) _ _ s;refine ag (iO e d (x:=.int i 0) rfl ?_);show wpAny _ _ (HU (.ref t) >>= _) _ _ s;refine ag (oU et dt ?_);simp only[gy,a3];refine ag (qb e d (by simp) (aF ⟨x,rfl,aF (k _ ⟨_,rH _ e (N' (Cm d _)),(Za ..).trans c,?_⟩ (jG ..))⟩));rw[Cm d];simp[rawInt]
theorem ZQ{it t:Addr}{i:Nat}{aj:Array Value}{Q:Value->Shared->Prop}(hh:A.handled=none)(a1:s.heap.IsTupleIter it t i)(a2:s.heap.IsTuple t aj)(a3:aj[i]?=none)
  (k:∀h' x,Hk it s.heap h'->(∃o,h'.get? x=some o/\o.cls=.type "StopIteration")->E (.ref x) { s with heap:=h' }):wpAny (model prog w) A (rG (.ref it)) Q E s:=by
 obtain⟨o,e,c,d⟩:=id a1;obtain⟨ot,et,_,nt,dt⟩:=a2;unfold rG;refine ag (vj (name:=lE "__next__") a1.typeIs FZ (rO FZ a1.typeIs Yq ?_ (Yp _)));show wpAny _ _ (field (.ref it) 0 >>= _) _ _ s;refine ag (iO e d (x:=.ref t) rfl ?_);show wpAny _ _ (if (c8 t == eK)=true then _ else _) _ _ s;rw[if_neg (by exact dg)];show wpAny _ _ (field (.ref it) 1 >>= _) _ _ s;refine ag (iO e d (x:=.int i 0) rfl ?_);show wpAny _ _ (HU (.ref t) >>= _) _ _ s;refine ag (oU et dt ?_);simp only[gy,a3];refine ag (xZ (ag (qb e d (by simp) ?_)));show wpAny _ _ (newExc (.type "StopIteration") [] >>= _) _ _ _;refine ag ?_;unfold newExc newTuple;refine ag (oQ ?_ (by size_fits));refine ag (m:=Gz _ _) (CD (a:=eK) (by first | rfl | (simp only[Gz];rfl)) (oQ ?_ (by size_fits)));unfold raiseNew;refine ag (wpAny_handled ?_)
 first | rw[show A.in1.handled=none from hh] | rw[hh]
 exact ag (aF (wpAny_throw (k _ _ (((jG ..).extBut.push _).push _) ⟨_,dM _ rfl,rfl⟩)))
theorem next_item{b:Bool}{it l:Addr}{i:Nat}{xs:Array Value}{x:Value}{Q:Value->Shared->Prop}(a1:gj b s.heap it l i)(a2:gm b s.heap l xs)(a3:xs[i]?=some x)
  (k:∀h',gj b h' it l (i+1)->gA it s.heap h'->Q x { s with heap:=h' }):wpAny (model prog w) A (rG (.ref it)) Q E s:=by
 cases b with
 | true=>exact wpAny_nextOf_list_item a1 a2 a3 k
 | false=>exact ZC a1 a2 a3 k
theorem next_end{b:Bool}{it l:Addr}{i:Nat}{xs:Array Value}{Q:Value->Shared->Prop}(hh:A.handled=none)(a1:gj b s.heap it l i)(a2:gm b s.heap l xs)(a3:xs[i]?=none)
  (k:∀h' x,Hk it s.heap h'->(∃o,h'.get? x=some o/\o.cls=.type "StopIteration")->E (.ref x) { s with heap:=h' }):wpAny (model prog w) A (rG (.ref it)) Q E s:=by
 cases b with
 | true=>exact wpAny_nextOf_list_end hh a1 a2 a3 k
 | false=>exact ZQ hh a1 a2 a3 k
theorem ab5{b1 b2:Bool}{z TI TO i1 i2 l1 l2:Addr}{k1 k2:Nat}{xs ys:Array Value}{x y a b:Value}{Q:Option Value->Shared->Prop}(D:ZipApart z TI TO i1 i2 l1 l2)
  (hz:IsZip s.heap z TI TO .none) (NA:IsPair s.heap TI (.ref i1) (.ref i2)) (Nz:IsPair s.heap TO a b) (n1:gj b1 s.heap i1 l1 k1) (n2:gj b2 s.heap i2 l2 k2) (m1:gm b1 s.heap l1 xs) (m2:gm b2 s.heap l2 ys)
  (hx:xs[k1]?=some x) (hy:ys[k2]?=some y)
  (hQ:∀h',IsZip h' z TI TO (rawInt s.heap.objs.size)->IsPair h' TO x y->gj b1 h' i1 l1 (k1+1)->gj b2 h' i2 l2 (k2+1)->IsPair h' s.heap.objs.size x y-> (∀c o,c≠z->c≠TO->c≠i1->c≠i2->s.heap.get? c=some o->h'.get? c=some o)->Q (some (.ref s.heap.objs.size)) { s with heap:=h' }):wpAny (model prog w) A (pyNext (.ref z)) Q E s:=by
 have hT:s.TypeIs (.ref z) "zip":=⟨_,hz,rfl⟩;unfold pyNext;refine ag (Cy (vj (name:=lE "__next__") hT Gw (rO Gw hT F.entry_zip_next ?_ (F.args_zip_next_1 _))));show wpAny _ _ (field (.ref z) 2 >>= _) _ _ s;refine ag (iO hz rfl (x:=.bool false) rfl ?_);show wpAny _ _ (field (.ref z) 3 >>= _) _ _ s;refine ag (iO hz rfl (x:=.ref TI) rfl (ag (oU NA rfl ?_)));show wpAny _ _ (FT (.ref z) >>= _) _ _ s;unfold FT;refine ag (ag (iO hz rfl (x:=.none) rfl (aF ?_)));simp only[if_true];refine ag (xZ (ag (iO hz rfl (x:=.ref TO) rfl (ag (z0 hz (by simp) λg1 dr s1=>?_)))));have dr:IsZip g1 z TI TO .ellipsis:=dr;simp only[List.zipIdx_cons,List.zipIdx_nil,Ct,List.forIn_nil];refine ag (ag (ag (GN ?_)));show wpAny _ _ (rG (.ref i1) >>= _) _ _ _;refine ag (next_item (n1.ext s1.extBut D.i1z) (m1.ext s1.extBut D.l1z) hx λg2 Wy s2=>aF ?_);have t2:IsPair g2 TO a b:=s2.extBut _ _ D.TOi1 (s1.extBut _ _ D.TOz Nz);refine ag (oU t2 rfl (ag (Ob t2 λg3 t3 s3=>ag (xU (aF ?_)))));have t3:IsPair g3 TO x b:=t3;refine ag (ag (GN ?_));show wpAny _ _ (rG (.ref i2) >>= _) _ _ _;refine ag (next_item (((n2.ext s1.extBut D.i2z).ext s2.extBut D.i12.symm).ext s3.extBut D.TOi2.symm) (((m2.ext s1.extBut D.l2z).ext s2.extBut D.l2i1).ext s3.extBut D.l2TO) hy λg4 n2' s4=>aF ?_);have t4:IsPair g4 TO x b:=s4.extBut _ _ D.TOi2 t3;refine ag (oU t4 rfl (ag (Ob t4 λg5 t5 s5=>ag (xU (aF (aF ?_))))));have t5:IsPair g5 TO x y:=t5;refine ag (oU t5 rfl (ag (OF ?_)));have jB:g5.objs.size=s.heap.objs.size:=by rw[s5.1,s4.1,s3.1,s2.1,s1.1]
 have WQ:IsZip g5 z TI TO .ellipsis:=s5.extBut _ _ D.TOz.symm (s4.extBut _ _ D.i2z.symm (s3.extBut _ _ D.TOz.symm (s2.extBut _ _ D.i1z.symm dr)))
 have k5:∀c o,c≠z->c≠TO->c≠i1->c≠i2->s.heap.get? c=some o->g5.get? c=some o:=λc o c1 c2 c3 c4 e=>
  s5.extBut _ _ c2 (s4.extBut _ _ c4 (s3.extBut _ _ c2 (s2.extBut _ _ c3 (s1.extBut _ _ c1 e))))
 have BM:=((Wy.ext s3.extBut D.TOi1.symm).ext s4.extBut D.i12).ext s5.extBut D.TOi1.symm;have n25:=n2'.ext s5.extBut D.TOi2.symm;have V2:=bq WQ;show wpAny _ _ (Yl (.ref z) (.ref g5.objs.size) >>= _) _ _ _;unfold Yl;have hz6:IsZip (g5.push { cls:=.type "tuple",data:=.seq #[x,y] }) z TI TO .ellipsis:=bc _ WQ;refine ag (ag (z0 hz6 (by simp) λg7 MT s7=>?_));have MT:IsZip g7 z TI TO (rawInt g5.objs.size):=MT;refine z0 MT (by simp) λg8 Fl s8=>?_;have Fl:IsZip g8 z TI TO (rawInt g5.objs.size):=Fl;have up:∀c o,c≠z->g5.get? c=some o->g8.get? c=some o:=λc o c1 e=>s8.extBut _ _ c1 (s7.extBut _ _ c1 (bc _ e));have Xq:IsPair g8 g5.objs.size x y:=s8.extBut _ _ (qf V2) (s7.extBut _ _ (qf V2) (dM _ rfl));rw[jB]at Fl Xq;refine aF ⟨_,rfl,?_⟩;show wpAny _ _ (pure (some (c8 g5.objs.size)):Sem (Option Value)) _ _ _;rw[jB];exact aF (hQ g8 Fl (up _ _ D.TOz t5) (BM.at λo e=>up _ o D.i1z e) (n25.at λo e=>up _ o D.i2z e) Xq λc o c1 c2 c3 c4 e=>up c o c1 (k5 c o c1 c2 c3 c4 e))
theorem adJ{b1 b2:Bool}{z TI TO i1 i2 l1 l2:Addr}{k1 k2:Nat}{xs ys:Array Value}{a b:Value}{Q:Option Value->Shared->Prop}(hh:A.handled=none)(D:ZipApart z TI TO i1 i2 l1 l2)
  (hz:IsZip s.heap z TI TO .none) (NA:IsPair s.heap TI (.ref i1) (.ref i2)) (Nz:IsPair s.heap TO a b) (n1:gj b1 s.heap i1 l1 k1) (n2:gj b2 s.heap i2 l2 k2) (m1:gm b1 s.heap l1 xs) (m2:gm b2 s.heap l2 ys)
  (yX:xs[k1]?=none\/ys[k2]?=none)
  (hQ:∀h',(∀c o,c≠z->c≠TO->c≠i1->c≠i2->s.heap.get? c=some o->h'.get? c=some o)->Q none { s with heap:=h' }):wpAny (model prog w) A (pyNext (.ref z)) Q E s:=by
 have hT:s.TypeIs (.ref z) "zip":=⟨_,hz,rfl⟩
 have fin:∀(h':Heap) (e:Addr),(∀c o,c≠z->c≠TO->c≠i1->c≠i2->s.heap.get? c=some o->h'.get? c=some o)->(∃o,h'.get? e=some o/\o.cls=.type "StopIteration")->
   wpAny (model prog w) A (do if <-Aq (.ref e) (.type "StopIteration") then pure none else throw (.ref e)) Q E { s with heap:=h' }:=λh' e hk ⟨o,ho,hc⟩=>
  ag (Gj (T:="StopIteration") (b:=true) ⟨o,ho,hc⟩ OG (aF (hQ _ hk)))
 unfold pyNext;refine ag (Cy (vj (name:=lE "__next__") hT Gw (rO Gw hT F.entry_zip_next ?_ (F.args_zip_next_1 _))));show wpAny _ _ (field (.ref z) 2 >>= _) _ _ s;refine ag (iO hz rfl (x:=.bool false) rfl ?_);show wpAny _ _ (field (.ref z) 3 >>= _) _ _ s;refine ag (iO hz rfl (x:=.ref TI) rfl (ag (oU NA rfl ?_)));show wpAny _ _ (FT (.ref z) >>= _) _ _ s;unfold FT;refine ag (ag (iO hz rfl (x:=.none) rfl (aF ?_)));simp only[if_true];refine ag (xZ (ag (iO hz rfl (x:=.ref TO) rfl (ag (z0 hz (by simp) λg1 dr s1=>?_)))));have dr:IsZip g1 z TI TO .ellipsis:=dr;simp only[List.zipIdx_cons,List.zipIdx_nil,Ct,List.forIn_nil];refine ag (ag (ag (GN ?_)));show wpAny _ _ (rG (.ref i1) >>= _) _ _ _;cases hx:xs[k1]? with
 | none=>
  refine ag (next_end hh (n1.ext s1.extBut D.i1z) (m1.ext s1.extBut D.l1z) hx λg2 e s2 he=>?_);obtain⟨oe,xg,uZ⟩:=he;have jY:IsZip g2 z TI TO .ellipsis:=s2 _ _ D.i1z.symm dr;have Np:e≠z:=λq=>by subst q;rw[jY]at xg;cases xg;simp at uZ
  exact z0 jY (by simp) λg3 _ s3=>fin g3 e (λc o c1 _ c3 _ q=>s3.extBut _ _ c1 (s2 _ _ c3 (s1.extBut _ _ c1 q))) ⟨oe,s3.extBut _ _ Np xg,uZ⟩
 | some x=>
  have hy:ys[k2]?=none:=by
   rcases yX with q | q
   ·rw[hx]at q;cases q
   ·exact q
  refine ag (next_item (n1.ext s1.extBut D.i1z) (m1.ext s1.extBut D.l1z) hx λg2 Wy s2=>aF ?_);have t2:IsPair g2 TO a b:=s2.extBut _ _ D.TOi1 (s1.extBut _ _ D.TOz Nz);refine ag (oU t2 rfl (ag (Ob t2 λg3 t3 s3=>ag (xU (aF (ag (ag (GN ?_))))))));show wpAny _ _ (rG (.ref i2) >>= _) _ _ _;refine ag (next_end hh (((n2.ext s1.extBut D.i2z).ext s2.extBut D.i12.symm).ext s3.extBut D.TOi2.symm) (((m2.ext s1.extBut D.l2z).ext s2.extBut D.l2i1).ext s3.extBut D.l2TO) hy λg4 e s4 he=>?_);obtain⟨oe,xg,uZ⟩:=he;have WR:IsZip g4 z TI TO .ellipsis:=s4 _ _ D.i2z.symm (s3.extBut _ _ D.TOz.symm (s2.extBut _ _ D.i1z.symm dr));have Np:e≠z:=λq=>by subst q;rw[WR]at xg;cases xg;simp at uZ
  exact z0 WR (by simp) λg5 _ s5=>fin g5 e (λc o c1 c2 c3 c4 q=>s5.extBut _ _ c1 (s4 _ _ c4 (s3.extBut _ _ c2 (s2.extBut _ _ c3 (s1.extBut _ _ c1 q))))) ⟨oe,s5.extBut _ _ Np xg,uZ⟩
abbrev qG(b:Bool)(l:Addr):Obj:={ cls:=.type (if b=true then "list_iterator" else "tuple_iterator"),data:=.fields #[.ref l,.int 0 0] }
theorem C3{b:Bool}{l:Addr}{xs:Array Value}{Q:Value->Shared->Prop}(m:gm b s.heap l xs)(k:Q (.ref s.heap.objs.size) { s with heap:=s.heap.push (qG b l) }):wpAny (model prog w) A (pyIter (.ref l)) Q E s:=by
 cases b with
 | true=>exact xB m k
 | false=>exact wpAny_pyIter_tuple m k
theorem QX{b:Bool}{h:Heap}{a l:Addr}(e:h.get? a=some (qG b l)):gj b h a l 0:=by
 cases b with
 | true=>exact⟨_,e,rfl,rfl⟩
 | false=>exact⟨_,e,rfl,rfl⟩
end
abbrev EH(b1:Bool)(h:Heap)(l1:Addr):Heap:=h.push (qG b1 l1)
abbrev EG(b1 b2:Bool)(h:Heap)(l1 l2:Addr):Heap:=(EH b1 h l1).push (qG b2 l2)
abbrev EF(b1 b2:Bool)(h:Heap)(l1 l2:Addr):Heap:=(EG b1 b2 h l1 l2).push { cls:=.type "tuple",data:=.seq #[.ref h.objs.size,.ref (EH b1 h l1).objs.size] }
abbrev ED(b1 b2:Bool)(h:Heap)(l1 l2:Addr):Heap:=(EF b1 b2 h l1 l2).push { cls:=.type "tuple",data:=.seq #[.none,.none] }
abbrev y0(b1 b2:Bool)(h:Heap)(l1 l2:Addr):Heap:=(ED b1 b2 h l1 l2).push { cls:=.type "zip",data:=.fields #[.none,.bool false,.bool false,.ref (EG b1 b2 h l1 l2).objs.size,.ref (EF b1 b2 h l1 l2).objs.size] }
theorem gm.push{b:Bool}{h:Heap}{l:Addr}{xs:Array Value}(x:gm b h l xs)(o:Obj):gm b (h.push o) l xs:=x.at λ_ e=>bc _ e
theorem adI(b1 b2:Bool)(l1 l2:Addr)(xs ys:Array Value) :
  Meets (Builtin.«zip.__new__» ⟨[.type "zip",.ref l1,.ref l2],[]⟩) (λ_ R s=>gm b1 s.heap l1 xs/\gm b2 s.heap l2 ys/\R (.ok (.ret (.ref (ED b1 b2 s.heap l1 l2).objs.size))) { s with heap:=y0 b1 b2 s.heap l1 l2 }):=
 .of_wp λprog w A R s h=>by
  obtain⟨hp,g,d,tk,os⟩:=s;obtain⟨m1,m2,h⟩:=h;have Bw:=sub_zip;have M1:=m1;have M2:gm b2 (Shared.heap ⟨hp.push (qG b1 l1),g,d,tk,os⟩) l2 ys:=gm.push m2 _
  wp_walk using C3 M1,C3 M2
  exact⟨_,rfl,h⟩
section
variable{prog:Program}{w:World}{A:Around}{E:Value->Shared->Prop}{s:Shared}
theorem ab6{b1 b2:Bool}{l1 l2:Addr}{xs ys:Array Value}{Q:Value->Shared->Prop}(m1:gm b1 s.heap l1 xs)(m2:gm b2 s.heap l2 ys)
  (k:∀h',IsZip h' (s.heap.objs.size+4) (s.heap.objs.size+2) (s.heap.objs.size+3) .none->IsPair h' (s.heap.objs.size+2) (.ref s.heap.objs.size) (.ref (s.heap.objs.size+1))->
   IsPair h' (s.heap.objs.size+3) .none .none->gj b1 h' s.heap.objs.size l1 0->gj b2 h' (s.heap.objs.size+1) l2 0->(∀c o,s.heap.get? c=some o->h'.get? c=some o)->Q (.ref (s.heap.objs.size+4)) { s with heap:=h' }) :
  wpAny (model prog w) A (call (.type "zip") [.ref l1,.ref l2]) Q E s:=by
 refine callType_new F.called_zip qc (F.typeCall_zip_2 _ _) (F.newCall_zip_2 _ _) (λobj=>F.args_object_init_3 obj _ _) F.entry_zip_new (adI b1 b2 l1 l2 xs ys) ⟨m1,m2,?_⟩;have z1:(EH b1 s.heap l1).objs.size=s.heap.objs.size+1:=jI ..;have z2:(EG b1 b2 s.heap l1 l2).objs.size=s.heap.objs.size+2:=by rw[jI,z1]
 have z3:(EF b1 b2 s.heap l1 l2).objs.size=s.heap.objs.size+3:=by rw[jI,z2]
 have z4:(ED b1 b2 s.heap l1 l2).objs.size=s.heap.objs.size+4:=by rw[jI,z3]
 have q5:(y0 b1 b2 s.heap l1 l2).get? (ED b1 b2 s.heap l1 l2).objs.size=some _:=dM _ rfl;have q4:(y0 b1 b2 s.heap l1 l2).get? (EF b1 b2 s.heap l1 l2).objs.size=some _:=bc _ (dM _ rfl);have q3:(y0 b1 b2 s.heap l1 l2).get? (EG b1 b2 s.heap l1 l2).objs.size=some _:=bc _ (bc _ (dM _ rfl));have q2:(y0 b1 b2 s.heap l1 l2).get? (EH b1 s.heap l1).objs.size=some _:=bc _ (bc _ (bc _ (dM _ rfl)));have q1:(y0 b1 b2 s.heap l1 l2).get? s.heap.objs.size=some _:=bc _ (bc _ (bc _ (bc _ (dM _ rfl))));show _/\_;rw[z2,z3,z4]at q5;rw[z1,z2]at q3;rw[z3]at q4;rw[z1]at q2;rw[z4];exact⟨⟨_,q5,rfl⟩,k _ q5 q3 q4 (QX q1) (QX q2) λc o x=>bc _ (bc _ (bc _ (bc _ (bc _ x))))⟩
end
end L3
namespace L3
open PySem
open AutoSeq1 (wpAny_loadPart')
theorem abM(l:Addr)(aj:Array Value)(n:Nat)(NM:Option Addr)(sl:Array (Option Value)) :
  Meets (Builtin.«enumerate.__new__» ⟨[.type "enumerate",.ref l],[]⟩) (λ_ R s=>s.heap.get? l=some { cls:=.type "tuple",dict:=NM,data:=.seq aj n,slots:=sl }/\
   R (.ok (.ret (.ref (s.heap.push (qG false l)).objs.size))) { s with heap:=(s.heap.push (qG false l)).push { cls:=.type "enumerate",data:=.fields #[.none,.bool false,.ref s.heap.objs.size,rawInt 0,.none,.none] } }):=
 .of_wp λprog w A R s h=>by
  obtain⟨hp,g,d,tk,os⟩:=s;obtain⟨q,h⟩:=h;have Bw:=sub_enumerate;have M:gm false (Shared.heap ⟨hp,g,d,tk,os⟩) l aj:=⟨_,q,rfl,n,rfl⟩
  wp_walk using Oy q
  refine wpAny_stack_any λst=>aF ?_
  split
  ·rename_i c _ _ _ _ _
   cases (c == iA "enumerate") <;> (wp_walk using Oy q,C3 M;exact⟨_,rfl,h⟩)
  ·wp_walk using Oy q,C3 M
   exact⟨_,rfl,h⟩
section
variable{prog:Program}{w:World}{A:Around}{E:Value->Shared->Prop}{s:Shared}
theorem abN{b:Bool}{l:Addr}{xs:Array Value}{Q:Value->Shared->Prop}(m:gm b s.heap l xs)
  (k:∀h',IsEnum h' (s.heap.objs.size+1) s.heap.objs.size 0 .none->gj b h' s.heap.objs.size l 0->(∀c o,s.heap.get? c=some o->h'.get? c=some o)->Q (.ref (s.heap.objs.size+1)) { s with heap:=h' }) :
  wpAny (model prog w) A (call (.type "enumerate") [.ref l]) Q E s:=by
 cases b with
 | true=>exact call_enumerate_list (show s.heap.IsList l xs from m) λh' a1 a2 _ a4=>k h' a1 a2 a4
 | false=>
  obtain⟨⟨c,NM,dt,sl⟩,hl,hc,n,hd⟩:=(show s.heap.IsTuple l xs from m);have hc:c=.type "tuple":=hc;have hd:dt=.seq xs n:=hd;subst hc hd;refine callType_new F.called_enumerate qc (F.typeCall_enumerate_1 _) (F.newCall_enumerate_1 _) (λobj=>F.args_object_init_2 obj _) F.entry_enumerate_new (abM l xs n NM sl) ⟨hl,?_⟩;have hz:(s.heap.push (qG false l)).objs.size=s.heap.objs.size+1:=jI ..
  have he:IsEnum ((s.heap.push (qG false l)).push { cls:=.type "enumerate",data:=.fields #[.none,.bool false,.ref s.heap.objs.size,rawInt 0,.none,.none] }) (s.heap.objs.size+1) s.heap.objs.size 0 .none:=by
   have q:=dM (s.heap.push (qG false l)) (o:={ cls:=.type "enumerate",data:=.fields #[.none,.bool false,.ref s.heap.objs.size,rawInt 0,.none,.none] }) rfl;rw[hz]at q;exact q
  show _/\_;rw[hz];exact⟨⟨_,he,rfl⟩,k _ he ⟨_,bc _ (dM _ rfl),rfl,rfl⟩ λc o x=>bc _ (bc _ x)⟩
theorem abO{b:Bool}(hh:A.handled=none)(it l:Addr)(dX:l≠it)(xs:Array Value):Draws prog w A it [it,l] xs.size (λi v=>xs[i]?=some v) (λi h=>gj b h it l i/\gm b h l xs) where
 live:=λ_ _ st=>let ⟨o,_,e,_⟩:=st.1.obj;⟨o,e⟩
 frame:=λ_ _ _ st hk=>⟨st.1.at λo e=>hk it (by simp) o e,st.2.at λo e=>hk l (by simp) o e⟩
 item:=λi s Q E hi st hQ=>next_item st.1 st.2 (x:=xs[i]) (by simp[hi]) λh' n' sb=>hQ _ h' s.toks (by simp[hi]) ⟨n',st.2.ext sb.extBut dX⟩ sb
 done:=λs Q E st hE=>next_end hh st.1 st.2 (by simp) hE
end
end L3
namespace L2
open PySem PySem.Spec PyProof.Rows L3
theorem Inv.IT{X:Cx}{p_:List (Addr×Obj)}{σ:St}{H:Hp}{s:Shared}{h':Heap}{t':Nat}{ch:List Addr}(I:Inv X p_ σ H s)(k:∀b o,b∉ch->s.heap.get? b=some o->h'.get? b=some o)
  (hc:∀b∈ch,fu X p_ H b):Inv X p_ σ H { s with heap:=h',toks:=t' }:=by
 have uG:∀b u,H b=some u->b∉ch:=λb u e z=>by rw[(hc b z).1]at e;cases e
 refine I.step (g':=s.gens) (d':=s.drawn) (ch:=ch) (λb hb=>⟨(hc b hb).2.2.2.1,(hc b hb).2.1,(hc b hb).2.2.2.2.1,(hc b hb).2.2.2.2.2⟩) (λb o _ _ z e _=>k b o z e) (λb o _ _ z e _=>⟨o.slots,k b o z e⟩) (λ_ _ _ _ n=>n)
  (λb o z e=>⟨o,k b o z e⟩) (λ_ _ e=>e) (λ_ _ _ e=>e) (λb ps e=>⟨#[],by rw[e];simp⟩) (λm hm=>?_) (λb u e=>?_) I.bare
 ·exact kG hm λo es ep ho r=>⟨o,es,ep,(k _ o (λz=>(hc _ z).2.1 rfl) ho),r⟩
 ·refine(I.aL b u e).kX (λc v hq q=>k c v ?_ q) (λ_ q=>q) λ_ _ q=>q;rcases hq with z | z
  ·rw[z];exact uG b u e
  ·exact uG c _ z
def Sq(b:Bool)(K:W.Frag)(H:Hp)(a:Addr)(xs:List V):Prop:=if b=true then aq K H a xs else ar K H a xs
theorem qC{X:Cx}{p_:List (Addr×Obj)}{σ:St}{H:Hp}{s:Shared}{b:Bool}{a:Addr}{xs:List V}(I:Inv X p_ σ H s)(h:Sq b X.K H a xs):∃aj:List Value,Vals xs aj/\gm b s.heap a aj.toArray/\xs.length<=bN:=by
 cases b with
 | true=>
  exact aX (I.list h) λaj r p z=>eZ aj r p.isList z
 | false=>
  exact aX (I.tuple h) λaj r p z=>eZ aj r p z
theorem Jx{X:Cx}{p_:List (Addr×Obj)}{σ:St}{H:Hp}{s:Shared}{b:Bool}{a:Addr}{xs ys:List V}(I:Inv X p_ σ H s)(h:Sq b X.K H a xs)(h':Sq b X.K H a ys):xs=ys:=by
 cases b with
 | true=>exact I.QV h h'
 | false=>exact I.PQ h h'
theorem Kp{X:Cx}{p_:List (Addr×Obj)}{σ:St}{H:Hp}{s:Shared}{b:Bool}{a:Addr}{xs:List V}(I:Inv X p_ σ H s)(h:Sq b X.K H a xs):a<s.heap.objs.size:=by
 refine aX (qC I h) λaj r p z=>?_;cases b with
 | true=>obtain⟨o,e,_⟩:=(show s.heap.IsList a aj.toArray from p);exact bq e
 | false=>obtain⟨o,e,_⟩:=(show s.heap.IsTuple a aj.toArray from p);exact bq e
def V0(b1 b2:Bool)(K:W.Frag)(l1 l2:Addr):It:=
 ⟨λi H=>∃xs ys x y,Sq b1 K H l1 xs/\Sq b2 K H l2 ys/\xs[i]?=some x/\ys[i]?=some y,λi H v H'=>∃p x y,H p=none/\v=.ref p/\H'=upd H p (.tup [x,y])/\∀xs ys,Sq b1 K H l1 xs->Sq b2 K H l2 ys->xs[i]?=some x/\ys[i]?=some y,λi H=>∃xs ys,Sq b1 K H l1 xs/\Sq b2 K H l2 ys/\(xs.length<=i\/ys.length<=i)⟩
theorem xW{b:Bool}{h:Heap}{it l:Addr}{i:Nat}(x:gj b h it l i):∃o,h.get? it=some o/\∀v,o.data≠.cell v:=by
 exact b8 x.obj λo vs e d=>az o e (λv z=>by rw[d]at z;cases z)
theorem ab'{P:Program}{w:World}{K:W.Frag}{es:List Expr}{x1:Nat}{pos:Pos}{b1 b2:Bool}{z TI TO i1 i2 l1 l2:Addr}(D:ZipApart z TI TO i1 i2 l1 l2) :
  Turn P w K (.Tuple es x1 pos) (V0 b1 b2 K l1 l2) [z,TI,TO,i1,i2] z (λi h=>IsZip h z TI TO .none/\IsPair h TI (.ref i1) (.ref i2)/\(∃a b,IsPair h TO a b)/\gj b1 h i1 l1 i/\gj b2 h i2 l2 i) where
 mem:=by simp
 obj:=λi h ⟨a1,a2,⟨a,b,a3⟩,a4,a5⟩ c hc=>by
  simp only[bR,qa,or_false]at hc;rcases hc with rfl | rfl | rfl | rfl | rfl
  ·exact az _ a1 (λv z=>by cases z)
  ·exact az _ a2 (λv z=>by cases z)
  ·exact az _ a3 (λv z=>by cases z)
  ·exact xW a4
  ·exact xW a5
 keep:=λi h h' ⟨a1,a2,⟨a,b,a3⟩,a4,a5⟩ k=>⟨k z (by simp) _ a1,k TI (by simp) _ a2,⟨a,b,k TO (by simp) _ a3⟩,a4.at λo e=>k i1 (by simp) o e,a5.at λo e=>k i2 (by simp) o e⟩
 item:=by
  intro X hP hw hK hc i p_ s σ H E I hf ⟨a1,a2,⟨a,b,a3⟩,a4,a5⟩ hg;subst hP hw hK;refine jm hg λxs ys x y q1 aa=>dU aa λq2 hx hy=>aX (qC I q1) λBG r1 m1 _=>aX (qC I q2) λV3 r2 m2 _=>ay (r1.get hx) λu hu ru=>ay (r2.get hy) λv hv rv=>ab5 D a1 a2 a3 a4 a5 m1 m2 (x:=u) (y:=v) (by simpa using hu) (by simpa using hv) λh' c1 c2 c3 c4 c5 kk=>?_;have hp:=I.aL.fresh (aB _)
  have lts:∀c∈[z,TI,TO,i1,i2],c<s.heap.objs.size:=λc hc=>by
   simp only[bR,qa,or_false]at hc;rcases hc with rfl | rfl | rfl | rfl | rfl
   ·exact bq a1
   ·exact bq a2
   ·exact bq a3
   ·obtain⟨o,e,_⟩:=xW a4;exact bq e
   ·obtain⟨o,e,_⟩:=xW a5;exact bq e
  refine az _ rfl (wpAny_letOwnedTupleGo_zip c1 λxr d1 sb=>?_);have sz:∀c∈[z,TI,TO,i1,i2],c≠s.heap.objs.size:=λc hc=>dv (lts c hc)
  have k2:∀c o,c∉[z,TO,i1,i2]->s.heap.get? c=some o->xr.get? c=some o:=λc o hc e=>by
   simp only[bR,qa,or_false,not_or]at hc;exact(sb.2 c hc.1).trans (kk c o hc.1 hc.2.1 hc.2.2.1 hc.2.2.2 e)
  have fz:∀c∈[z,TO,i1,i2],fu X p_ H c:=λc hc=>hf c (by
   simp only[bR,qa,or_false]at hc ⊢;rcases hc with rfl | rfl | rfl | rfl <;> simp)
  have I1:=Inv.IT (t':=s.toks) I k2 fz;have pT:IsPair xr s.heap.objs.size u v:=(sb.2 _ (eT (sz z (by simp)))).trans c5;have fT:=I.iE (aB _) hp;have I2:Inv X p_ σ (upd H s.heap.objs.size (.tup [x,y])) { s with heap:=xr }:=Inv.adopt I1 hp I.sz fT.2.1 fT.2.2.2.2.1 fT.2.2.2.2.2 ⟨by show 2<=bN;decide,[u,v],.cons ru (.cons rv .nil),⟨_,pT,rfl,_,rfl⟩⟩;refine⟨.ref s.heap.objs.size,_,I2,rfl,⟨_,x,y,hp,rfl,rfl,λxs' ys' p1 p2=>⟨by rw[Jx I p1 q1];exact hx,by rw[Jx I p2 q2];exact hy⟩⟩,⟨d1,(sb.2 _ D.TIz).trans (kk _ _ D.TIz D.TITO D.TIi1 D.TIi2 a2),⟨u,v,(sb.2 _ D.TOz).trans c2⟩,c3.at λo e=>(sb.2 _ D.i1z).trans e,c4.at λo e=>(sb.2 _ D.i2z).trans e⟩,λc hc=>?_⟩;rw[ak (sz c hc)];exact(hf c hc).1
 done:=by
  intro X hP hw hK hc i p_ s σ H E I hf ⟨a1,a2,⟨a,b,a3⟩,a4,a5⟩ hg;subst hP hw hK;refine dF hg λxs ys q1 q2 yX=>aX (qC I q1) λBG r1 m1 _=>aX (qC I q2) λV3 r2 m2 _=>?_;have l1':=r1.length;have l2':=r2.length;refine adJ (I.ok.hd hc) D a1 a2 a3 a4 a5 m1 m2 (by rcases yX with q | q;exact .inl (by simp;lia);exact .inr (by simp;lia)) λh' kk=>⟨rfl,?_⟩
  refine Inv.IT (t':=s.toks) (ch:=[z,TO,i1,i2]) I (λc o hc e=>?_) λc hc=>hf c (by
   simp only[bR,qa,or_false]at hc ⊢;rcases hc with rfl | rfl | rfl | rfl <;> simp)
  simp only[bR,qa,or_false,not_or]at hc;exact kk c o hc.1 hc.2.1 hc.2.2.1 hc.2.2.2 e
 self:=λ_ _ _ _ _ st h=>wpAny_pyIter_zip st.1 h
section
variable{X:Cx}{pos:Pos}
def akn(b1 b2:Bool)(K:W.Frag)(ta:TA):TI:=λσ H R=>ta σ H λvs H1=>∃l1 l2 xs ys,vs=[.ref l1,.ref l2]/\Sq b1 K H1 l1 xs/\Sq b2 K H1 l2 ys/\R (V0 b1 b2 K l1 l2) H1
theorem Sy{b1 b2:Bool}{a b:Expr}{ta:TA}{p:Pos}{es:List Expr}{x1:Nat}{v9:Pos}(hg:Gl X "zip")(hm:X.mg "zip" = none)(ha:PA X [a,b] ta)
  (hs:cJ [a,b] X.env=[(false,eval a X.env),(false,eval b X.env)]:=by rfl) (wY:cJ [b] X.env=[(false,eval b X.env)]:=by rfl):PI X (.Tuple es x1 v9) (.Call (.Name "zip" p) [a,b] [] pos) (akn b1 b2 X.K ta):=by
 intro p_ s σ H R I h;refine Call_ (vJ I hg hm boot_zip (FV (Bz (ha pos p_ s σ H _ I h) λus s1 vs H1 I1 r1 q1=>?_) (by rw[hs,wY]) (by rw[wY];rfl)));obtain⟨l1,l2,xs,ys,e,q1,q2,q⟩:=q1;subst e;cases r1 with
 | cons r rr=>
  cases rr with
  | cons r' rr=>
   cases rr;cases r;cases r';obtain⟨BG,_,m1,_⟩:=qC I1 q1;obtain⟨V3,_,m2,_⟩:=qC I1 q2;have n1:=Kp I1 q1;have n2:=Kp I1 q2;refine ab6 m1 m2 λh' c1 c2 c3 c4 c5 kk=>wpAny_pyIter_zip c1 (⟨_,_,_,_,H1,rfl,(I1.kept (t':=s1.toks) kk),(ab' (D:=zipApart_new n1 n2)),⟨c1,c2,⟨_,_,c3⟩,c4,c5⟩,(λc hc=>?_),q⟩)
   have nF:s1.heap.objs.size<=c:=by
    simp only[bR,qa,or_false]at hc;rcases hc with rfl | rfl | rfl | rfl | rfl <;> lia
   exact I1.iE nF (I1.aL.fresh nF)
def V1(b:Bool)(K:W.Frag)(l:Addr):It:=
 ⟨λi H=>∃xs x,Sq b K H l xs/\xs[i]?=some x,λi H v H'=>∃p x,H p=none/\v=.ref p/\H'=upd H p (.tup [.int i,x])/\∀xs,Sq b K H l xs->xs[i]?=some x,λi H=>∃xs,Sq b K H l xs/\xs.length<=i⟩
end
theorem aaZ{P:Program}{w:World}{K:W.Frag}{es:List Expr}{x1:Nat}{pos:Pos}{b:Bool}{e it l:Addr}(n1:e≠it)(n2:l≠it)(n3:e≠l) :
  Turn P w K (.Tuple es x1 pos) (V1 b K l) [e,it] e (λi h=>(∃old,IsEnum h e it i old)/\gj b h it l i) where
 mem:=by simp
 obj:=λi h ⟨⟨old,a1⟩,a2⟩ c hc=>by
  simp only[bR,qa,or_false]at hc;rcases hc with rfl | rfl
  ·exact az _ a1 (λv z=>by cases z)
  ·exact xW a2
 keep:=λi h h' ⟨⟨old,a1⟩,a2⟩ k=>⟨⟨old,k e (by simp) _ a1⟩,a2.at λo q=>k it (by simp) o q⟩
 item:=by
  intro X hP hw hK hc i p_ s σ H E I hf ⟨⟨old,a1⟩,a2⟩ hg;subst hP hw hK;refine b8 hg λxs x q1 hx=>aX (qC I q1) λvs r1 m1 _=>ay (r1.get hx) λu hu ru=>?_
  have Xf:i<vs.toArray.size:=by
   have:=(dC.mp hu).1;simpa using this
  have hh:X.A.in1.handled=none:=I.ok.hd hc;refine wpAny_pyNext_enum_itemD (n:=vs.toArray.size) (abO (b:=b) hh it l n2 vs.toArray) a1 ⟨a2,m1⟩ Xf n1 (by simp;exact⟨n1,n3⟩) λy h' tk hy c1 c2 c3 c4 kk=>?_
  have ey:y=u:=by
   have:vs[i]?=some y:=by simpa using hy
   rw[hu]at this;exact(eC this).symm
  subst ey;have hp:=I.aL.fresh (aB _);have eS:e≠s.heap.objs.size:=dv (bq a1)
  have iS:it≠s.heap.objs.size:=by
   exact ay (xW a2) λo q _=>dv (bq q)
  refine az _ rfl (wpAny_letOwnedTupleGo_enum c1 λxr d1 sb=>?_)
  have k2:∀c o,c∉[e,it]->s.heap.get? c=some o->xr.get? c=some o:=λc o hc q=>by
   simp only[bR,qa,or_false,not_or]at hc;exact(sb.2 c hc.1).trans (kk c o hc.1 hc.2 q)
  have I1:Inv X p_ σ H { s with heap:=xr,toks:=tk+1 }:=Inv.IT I k2 hf;have pT:=(sb.2 _ (eT eS)).trans c3;have fT:=I.iE (aB _) hp
  have I2:Inv X p_ σ (upd H s.heap.objs.size (.tup [.int i,x])) { s with heap:=xr,toks:=tk+1 }:=Inv.adopt I1 hp I.sz fT.2.1 fT.2.2.2.2.1 fT.2.2.2.2.2
   ⟨by show 2<=bN;decide,[.int i tk,y],.cons ⟨_,rfl⟩ (.cons ru .nil),⟨_,pT,rfl,_,rfl⟩⟩
  refine⟨(.ref s.heap.objs.size),_,I2,rfl,⟨_,x,hp,rfl,rfl,λxs' p1=>by rw[Jx I p1 q1];exact hx⟩,⟨⟨_,by simpa using d1⟩,c2.1.at λo q=>(sb.2 _ (eT n1)).trans q⟩,(λc hc=>?_)⟩;simp only[bR,qa,or_false]at hc;rcases hc with rfl | rfl
  ·rw[ak eS];exact(hf _ (by simp)).1
  ·rw[ak iS];exact(hf _ (by simp)).1
 done:=by
  intro X hP hw hK hc i p_ s σ H E I hf ⟨⟨old,a1⟩,a2⟩ hg;subst hP hw hK;refine ay hg λxs q1 yX=>aX (qC I q1) λvs r1 m1 _=>?_;have hl:=r1.length;have hT:s.TypeIs (.ref e) "enumerate":=⟨_,a1,rfl⟩;unfold pyNext;refine ag (Cy (vj (name:=lE "__next__") hT YL (rO YL hT F.entry_enumerate_next ?_ (F.args_enumerate_next_1 _))));show wpAny _ _ (field (.ref e) 2 >>= _) _ _ s;refine ag (iO a1 rfl (x:=.ref it) rfl (ag (next_end (show X.A.in1.handled=none from I.ok.hd hc) a2 m1 (by simp;lia) λh' y hk ⟨o,ho,xh⟩=>ag (Gj (T:="StopIteration") (b:=true) ⟨o,ho,xh⟩ OG (aF ⟨rfl,I.turned (t':=s.toks) (it:=it) (λc q hc z=>hk c q hc z) (hf it (by simp)).1 (hf it (by simp)).2.1 (hf it (by simp)).2.2.2.1 (hf it (by simp)).2.2.2.2.1 (hf it (by simp)).2.2.2.2.2⟩)))))
 self:=λ_ _ _ _ _ st h=>let ⟨_,a1⟩:=st.1;wpAny_pyIter_enum a1 h
section
variable{X:Cx}{pos:Pos}
def aij(b:Bool)(K:W.Frag)(ta:TA):TI:=λσ H R=>ta σ H λvs H1=>∃l xs,vs=[.ref l]/\Sq b K H1 l xs/\R (V1 b K l) H1
theorem tK{b:Bool}{a:Expr}{ta:TA}{p:Pos}{es:List Expr}{x1:Nat}{v9:Pos}(hg:Gl X "enumerate")(hm:X.mg "enumerate" = none)(ha:PA X [a] ta)
  (hs:cJ [a] X.env=[(false,eval a X.env)]:=by rfl):PI X (.Tuple es x1 v9) (.Call (.Name "enumerate" p) [a] [] pos) (aij b X.K ta):=by
 intro p_ s σ H R I h;refine Call_ (vJ I hg hm boot_enumerate (FV (Bz (ha pos p_ s σ H _ I h) λus s1 vs H1 I1 r1 q1=>?_) hs rfl));obtain⟨l,xs,e,q1,q⟩:=q1;subst e;cases r1 with
 | cons r rr=>
  cases rr;cases r;obtain⟨BG,_,m1,_⟩:=qC I1 q1;have n1:=Kp I1 q1;refine abN m1 λh' c1 c2 kk=>wpAny_pyIter_enum c1 (⟨_,_,_,_,H1,rfl,(I1.kept (t':=s1.toks) kk),(aaZ (Gk _) (dv n1) (eT (dv (Ac n1)))),⟨⟨_,c1⟩,c2⟩,(λc hc=>?_),q⟩)
  have nF:s1.heap.objs.size<=c:=by
   simp only[bR,qa,or_false]at hc;rcases hc with rfl | rfl <;> lia
  exact I1.iE nF (I1.aL.fresh nF)
end
end L2
namespace L2
open PySem PySem.Spec PyProof.Rows PySem.SeqAt L3
def U4:V->Option Value
 | .ty n=>some (.type n)
 | .ref a=>some (.ref a)
 | _=>none
theorem adA{c:V}{cv u:Value}(h:U4 c=some cv)(r:RelV c u):u=cv:=by
 cases c with
 | ty n=>cases h;exact r
 | ref a=>cases h;exact r
 | _=>cases h
def UN(K:W.Frag):List V->Hp->VK->Prop:=λxs H Q=>∃x c t cv b,xs=[x,c]/\fX K H x t/\U4 c=some cv/\W.kitOne K t cv=some b/\Q (.bl b) H
section
variable{X:Cx}
theorem iB:jr X (.builtin "isinstance") (UN X.K):=by
 intro p_ s σ H xs us Q I r h;refine dZ h λx c t cv b aa=>Bc aa λe ty hc hk q=>?_;subst e;cases r with
 | cons r1 r2=>
  cases r2 with
  | cons r2 r3=>
   cases r3;cases adA hc r2;exact abF I r1 ty hk λtk=>(eG (.bl b) H (I.tok tk) rfl q)
theorem range_all(bs:List Bool):(List.range bs.length).all (λi=>bs.getD i false)=bs.all id:=by
 induction bs with
 | nil=>rfl
 | cons b r ih=>
  rw[gU,YI,xM,Aj,xM];simp only[YV,id]
  congr 1
theorem range_any(bs:List Bool):(List.range bs.length).any (λi=>bs.getD i false)=bs.any id:=by
 induction bs with
 | nil=>rfl
 | cons b r ih=>
  rw[gU,YI,tE,O2,tE];simp only[YV,id]
  congr 1
theorem HR:∀{bs:List Bool} {us:List Value},Vals (bs.map V.bl) us->us=bs.map oY
 | [],_,r=>by cases r;rfl
 | b::bs,_,r=>by
  cases r with
  | cons r1 r2=>
   cases r1;rw[iz,HR r2]
theorem O5{A:Around}(bs:List Bool):TruthOf X.prog X.w A (λi v=>(bs.map oY).toArray[i]?=some v) (λi=>bs.getD i false):=by
 intro i v s Q E h q;have h':(bs.map oY)[i]?=some v:=by simpa using h
 rw[eJ]at h';cases e:bs[i]? with
 | none=>rw[e]at h';cases h'
 | some b=>
  rw[e]at h';have hv:=(eC h').symm;subst hv;have hq:bs.getD i false=b:=by rw[dI,e];rfl
  have q':Q (bs.getD i false) s:=q;rw[hq]at q';exact rJ q'
def akb(K:W.Frag):List V->Hp->VK->Prop:=λxs H Q=>∃(p:Addr) (bs:List Bool),xs=[.ref p]/\aq K H p (bs.map V.bl)/\Q (.bl (bs.all id)) H
def aka(K:W.Frag):List V->Hp->VK->Prop:=λxs H Q=>∃(p:Addr) (bs:List Bool),xs=[.ref p]/\aq K H p (bs.map V.bl)/\Q (.bl (bs.any id)) H
theorem AI(hc:X.calm=true):jr X (.builtin "all") (akb X.K):=by
 intro p_ s σ H xs us Q I r h;refine dF h λp bs e hq q=>?_;subst e;refine ay (vals1 r) λu aa rx=>?_;subst aa;cases rx;refine aX (I.list hq) λaj rv pl hz=>?_;have ei:=HR rv;subst ei
 have dX:p≠s.heap.objs.size:=by
  exact ay pl.isList λo e _=>dv (bq e)
 refine call_all_walk (xB pl.isList (⟨_,_,_,_,_,_,(gJ _ rfl (As (show X.A.in1.handled=none from I.ok.hd hc) _ p dX (bs.map oY).toArray) ⟨⟨_,dM _ rfl,rfl,rfl⟩,pl.isList.push _⟩ (O5 bs) λh' tk kk=>?_)⟩))
 have e2:(List.range (bs.map oY).toArray.size).all (λi=>bs.getD i false)=bs.all id:=by
  rw[du,aH];exact range_all bs
 rw[e2];refine eG (.bl _) H (I.kept λb o e=>kk b o (λz=>?_) (bc _ e)) rfl q;have z':b=s.heap.objs.size:=by simpa using z
 rw[z']at e;exact absurd (bq e) (iH _)
theorem Rf(hc:X.calm=true):jr X (.builtin "any") (aka X.K):=by
 intro p_ s σ H xs us Q I r h;refine dF h λp bs e hq q=>?_;subst e;refine ay (vals1 r) λu aa rx=>?_;subst aa;cases rx;refine aX (I.list hq) λaj rv pl hz=>?_;have ei:=HR rv;subst ei
 have dX:p≠s.heap.objs.size:=by
  exact ay pl.isList λo e _=>dv (bq e)
 refine call_any_walk (xB pl.isList (⟨_,_,_,_,_,_,(gJ _ rfl (As (show X.A.in1.handled=none from I.ok.hd hc) _ p dX (bs.map oY).toArray) ⟨⟨_,dM _ rfl,rfl,rfl⟩,pl.isList.push _⟩ (O5 bs) λh' tk kk=>?_)⟩))
 have e2:(List.range (bs.map oY).toArray.size).any (λi=>bs.getD i false)=bs.any id:=by
  rw[du,aH];exact range_any bs
 rw[e2];refine eG (.bl _) H (I.kept λb o e=>kk b o (λz=>?_) (bc _ e)) rfl q;have z':b=s.heap.objs.size:=by simpa using z
 rw[z']at e;exact absurd (bq e) (iH _)
mutual
inductive jR (K:W.Frag) (H:Hp):V->PyData->Prop
 | aE:jR K H .aE .none
 | bl (b:Bool):jR K H (.bl b) (.bool b)
 | int (i:Int):jR K H (.int i) (.int i)
 | str (x:Str):jR K H (.str x) (.str x)
 | lst {a:Addr} {xs:List V} {ds:List PyData}:aq K H a xs->kR K H xs ds->jR K H (.ref a) (.list ds)
 | tup {a:Addr} {xs:List V} {ds:List PyData}:ar K H a xs->kR K H xs ds->jR K H (.ref a) (.tuple ds)
inductive kR (K:W.Frag) (H:Hp):List V->List PyData->Prop
 | nil:kR K H [] []
 | cons {x:V} {d:PyData} {xs:List V} {ds:List PyData}:jR K H x d->kR K H xs ds->kR K H (x::xs) (d::ds)
end
variable{p_:List (Addr×Obj)}{σ:St}{H:Hp}{s:Shared}
mutual
theorem jR.reads(I:Inv X p_ σ H s):∀{v:V} {d:PyData} {u:Value},jR X.K H v d->RelV v u->∃as,Reads s.heap u d as
 | _,_,_,.aE,r=>by cases r;exact⟨_,.none⟩
 | _,_,_,.bl b,r=>by cases r;exact⟨_,.bool b⟩
 | _,_,_,.int i,r=>by obtain⟨t,e⟩:=r;subst e;exact⟨_,.int i t⟩
 | _,_,_,.str x,r=>by obtain⟨t,e⟩:=r;subst e;exact⟨_,.str x t⟩
 | _,_,_,.lst hq hs,r=>by
  cases r;exact aX (I.list hq) λaj rv pl hz=>oE (kR.reads I hs rv) λas h=>aX pl.isList λo ho hc aa=>oE aa λn hd=>⟨_,.list ho hc hd (by simpa using h)⟩
 | _,_,_,.tup hq hs,r=>by
  cases r;exact aX (I.tuple hq) λaj rv pl hz=>oE (kR.reads I hs rv) λas h=>aX pl λo ho hc aa=>oE aa λn hd=>⟨_,.tuple ho hc hd (by simpa using h)⟩
theorem kR.reads(I:Inv X p_ σ H s):∀{vs:List V} {ds:List PyData} {us:List Value},kR X.K H vs ds->Vals vs us->∃as,ReadsAll s.heap us ds as
 | _,_,_,.nil,r=>by cases r;exact⟨_,.nil⟩
 | _,_,_,.cons h t,r=>by
  cases r with
  | cons r1 r2=>
   exact oE (jR.reads I h r1) λas q1=>oE (kR.reads I t r2) λbs q2=>⟨_,.cons q1 q2⟩
end
def UO(K:W.Frag)(neg:Bool):R2:=λx y H Q=>∃d e,jR K H x d/\jR K H y e/\shaped d=true/\shaped e=true/\noMix d e=true/\Q (.bl (if neg=true then !same d e else same d e)) H
theorem JX(hu:X.A.units+64<cLine):dW X (jM .NotEq) (UO X.K true):=by
 intro p_ s σ H x y v u Q I rx ry h;exact eO h λd e h1 h2 h3 h4 h5 q=>oE (h1.reads I rx) λas q1=>oE (h2.reads I ry) λbs q2=>ne_dataH_same q1 q2 h3 h4 hu h5 (eG (.bl _) H I rfl q)
theorem Ao{K:W.Frag}{H:Hp}:∀ns:List Int,kR K H (ns.map V.int) (ns.map rY)
 | []=>.nil
 | n::r=>.cons (.int n) (Ao r)
theorem adv{K:W.Frag}{H:Hp}{a:Addr}{ns:List Int}(h:aq K H a (ns.map V.int)):jR K H (.ref a) (.list (ns.map rY)):=.lst h (Ao ns)
end
structure K'(K:W.Frag)(C:Addr)(m:Str)(f:Addr):Prop where
 sp:W.specialIn K (.ref C) "__getattribute__" = some (some (.builtin "type.__getattribute__"))
 rd:W.readsIn K C (.type "type")=true
 fc:W.findCls K (.ref C) (.type "type") m=some (.val (.ref f))
 kp:W.keepIn K (.ref f)=true
section
variable{X:Cx}{CX:lj}{k:Nat}{f C:Addr}{fd:aQ}{ps:List Str}{sp:Sp}{dvs:List V}{ds:List Value}{E:XK}{x m:Str}{p pos apos:Pos}{e o:Expr}{es:List Expr}{ta:TE}{t:TA}
theorem xX{pl:Sem Bool}(c:K' X.K C m f)(F:ao X.prog X.w X.K X.mg X.base CX k f fd ps sp)(hr:eI k X.A)(hg:Gl X x)(hm:X.mg x=some (.ref C))(hb:Binds X.K fd ps ds)(hd:Vals dvs ds)(hx:Passes CX X E)(ha:PA X (e::es) t)
  (nE:(x == ("__debug__" : Str))=false:=by decide) (cX:cJ (e::es) X.env=(false,eval e X.env)::cJ es X.env:=by rfl) (dB:(backTo pos (cJ es X.env)).any (·.1)=false:=by rfl)
  (ht:eval (.Call (.Attribute (.Name x p) m apos) (e::es) [] pos) X.env=(do
   let ov <-eval (.Name x p) X.env
   standAt apos.atName
   let (f,first) <-holding [ov] (yc ov m pl)
   Dc pos f first (backTo pos (cJ (e::es) X.env)) (AL pos (Al [] X.env))):=by rfl) :
  PE X (.Call (.Attribute (.Name x p) m apos) (e::es) [] pos) (Tp sp dvs E t):=by
 intro p_ s σ H Q I h;refine W.methodCall_KW (pl:=pl) (ym I hg hm ?_ nE) ht;refine W.method_cls I.cR c.sp (W.cls_value I.cR c.rd c.fc rfl ?_);have I1:=I.tok (s.toks+1);refine W.callWith_K (first:=[]) (h₀:=X.base) I.ok.mod.uw c.kp (Bz (ha pos p_ _ σ H _ I1 h) λus s2 vs H2 I2 r q2=>⟨I2.cR,?_⟩) cX dB;exact yr F hr hb hd hx I2 r q2
def afy(P:Program)(w:World)(K:W.Frag)(mg:Str->Option Value)(base:Heap)(CX:lj)(k:Nat)(m:Str)(E:XK)(ta:TE):TE:=λσ H Q=>ta σ H λx H1=>∃a C dx fs f fd ps sp,x=.ref a/\H1 a=some (.ins C dx fs)/\fs.lookup m=none/\dj K C/\Meth K C m f/\
 ao P w K mg base CX k f fd ps sp/\Binds K fd ps []/\sp [.ref a] H1 Q E
theorem Iw{P:Program}{w:World}{K:W.Frag}{mg:Str->Option Value}{base:Heap}{pl:Sem Bool}(he:PE X o ta)(hr:eI k X.A)(hx:Passes CX X E)(hP:X.prog=P:=by rfl)(hw:X.w=w:=by rfl)(hK:X.K=K:=by rfl)(uP:X.mg=mg:=by rfl)(Nu:X.base=base:=by rfl)
  (ht:eval (.Call (.Attribute o m apos) [] [] pos) X.env=(do
   let ov <-eval o X.env
   standAt apos.atName
   let (f,first) <-holding [ov] (yc ov m pl)
   Dc pos f first (backTo pos (cJ [] X.env)) (AL pos (Al [] X.env))):=by rfl) :
  PE X (.Call (.Attribute o m apos) [] [] pos) (afy P w K mg base CX k m E ta):=by
 subst hP hw hK uP Nu;intro p_ s σ H Q I h;refine W.methodCall_KW (pl:=pl) (aV (he p_ s σ H _ I h) λu s1 hh=>?_) ht;refine dF hh λx H1 I1 rx aa=>dZ aa λa C dx fs f aa=>i9 aa λfd ps sp ex ea aa=>mG aa λl c hm F hb q=>?_;subst ex;obtain rfl:u=c8 a:=rx;exact CJ I1 ea c hm l (W.callWith_K0 (first:=[.ref a]) I1.cR hm.kp (yr (us:=[.ref a]) (vs:=[.ref a]) (dvs:=[]) (ds:=[]) F hr hb .nil hx I1 (.cons rfl .nil) q))
end
theorem b9{c A B:Prop}[Decidable c](h1:c->A)(h2:¬c->B):if decide c=true then A else B:=by
 by_cases h:c
 ·rw[decide_eq_true h];exact iq (h1 h)
 ·rw[decide_eq_false h];exact dN (h2 h)
theorem D4{c A B:Prop}[Decidable c](h1:¬c->A)(h2:c->B):if (!decide c)=true then A else B:=by
 by_cases h:c
 ·rw[decide_eq_true h];exact dN (h2 h)
 ·rw[decide_eq_false h];exact iq (h1 h)
theorem lP{b:Bool}{A B:Prop}(h1:b=true->A)(h2:b=false->B):if b=true then A else B:=by
 cases b with
 | true=>exact iq (h1 rfl)
 | false=>exact dN (h2 rfl)
theorem Bd{b:Bool}{A B:Prop}(h1:b=false->A)(h2:b=true->B):if (!b)=true then A else B:=by
 cases b with
 | true=>exact dN (h2 rfl)
 | false=>exact iq (h1 rfl)
def UJ(sc out:Scope)(XN N:List Str)(idx:List Nat):Bool:=
 decide (sc.kind=.function)&&(sc.names.all (λy=>decide (y.2≠.cell))&&(sc.names.all (λy=>decide (y.2≠.local)||decide (sc.names.lookup y.1=some .local)) && (sc.names.all (λy=>decide (y.2≠.free)||decide (out.names.lookup y.1=some .cell))&&(decide (idx.length<=N.length)&&(idx.zip N).all λp=>decide (XN[p.1]?=some p.2)&&decide (sc.names.lookup p.2=some .free)))))
theorem c9.of{X:Cx}{sc:Scope}{N:List Str}{idx:List Nat}(h:UJ sc X.env.scope X.N N idx=true):c9 X sc N idx:=by
 unfold UJ at h;simp only[iG,decide_eq_true_eq,Gp,xH]at h;refine mG h λh1 h2 h3 h4 h5 h6=>⟨h1,h2,λy hy e=>?_,λy hy e=>?_,h5,λk i x a b=>?_⟩
 ·rcases h3 y hy with z | z
  ·exact absurd e z
  ·exact z
 ·rcases h4 y hy with z | z
  ·exact absurd e z
  ·exact z
 ·have hm:(i,x)∈idx.zip N:=by
   have:(idx.zip N)[k]?=some (i,x):=by rw[Yy];exact⟨a,b⟩
   exact bw this
  exact h6 (i,x) hm
end L2
namespace TL
open PySem PySem.Spec PyProof.Rows L2 L3
def kinds:List String:=["NoneType","bool","int","str","list","tuple"]
def SU:List String:=["int","bool","str","tuple","list"]
def qM(T U:String):Bool:=T == U||(T == "bool" && U == "int")
theorem J7(K:W.Frag)(T U:String):W.kitOne K (.type T) (.type U) =
  (if (iA T == iA U)=true then some true else if W.kitMeta U=true then (OH T).map (·.contains (.type U)) else none):=rfl
theorem ae3:∀T∈kinds,∀U∈SU,(if (iA T == iA U)=true then some true else if W.kitMeta U=true then (OH T).map (·.contains (.type U)) else none)=some (qM T U):=dk
def tyName(H:Hp):V->Option String
 | .aE=>some "NoneType"
 | .bl _=>some "bool"
 | .int _=>some "int"
 | .str _=>some "str"
 | .ref a=>match H a with
  | some (.lst _)=>some "list"
  | some (.tup _)=>some "tuple"
  | _=>none
 | _=>none
theorem PN{K:W.Frag}{H:Hp}{v:V}{T:String}(h:tyName H v=some T):fX K H v (.type T)/\T∈kinds:=by
 cases v with
 | aE=>cases h;exact⟨.aE,qc⟩
 | bl b=>cases h;exact⟨.bl b,qc⟩
 | int i=>cases h;exact⟨.int i,qc⟩
 | str x=>cases h;exact⟨.str x,qc⟩
 | ref a=>
  unfold tyName at h;cases e:H a with
  | none=>simp only[e]at h;cases h
  | some o=>
   cases o with
   | lst xs=>simp only[e]at h;cases h;exact⟨.lst e,qc⟩
   | tup xs=>simp only[e]at h;cases h;exact⟨.tup e,qc⟩
   | _=>simp only[e]at h;cases h
 | _=>cases h
theorem oh{K:W.Frag}{H:Hp}{v:V}{T U:String}(h:tyName H v=some T)(hU:U∈SU):W.kitOne K (.type T) (.type U)=some (qM T U):=by
 rw[J7];exact ae3 T (PN (K:=K) h).2 U hU
theorem oB{K:W.Frag}{H:Hp}{v:V}{T:String}(h:tyName H v=some T):fX K H v (.type T):=(PN h).1
theorem O4{H H':Hp}{v:V}{T:String}(s:ah H H')(h:tyName H v=some T):tyName H' v=some T:=by
 cases v with
 | ref a=>
  unfold tyName at h ⊢;cases e:H a with
  | none=>simp only[e]at h;cases h
  | some o=>simp only[s a o e];simp only[e]at h;exact h
 | _=>exact h
def pM:V->Bool
 | .int _=>true
 | _=>false
theorem SV{H:Hp}{v:V}{T:String}(h:tyName H v=some T):(qM T "int" && !qM T "bool")=pM v:=by
 cases v with
 | aE=>cases h;rfl
 | bl b=>cases h;rfl
 | int i=>cases h;rfl
 | str x=>cases h;rfl
 | ref a=>
  unfold tyName at h;cases e:H a with
  | none=>simp only[e]at h;cases h
  | some o=>
   cases o with
   | lst xs=>simp only[e]at h;cases h;rfl
   | tup xs=>simp only[e]at h;cases h;rfl
   | _=>simp only[e]at h;cases h
 | _=>cases h
def dw(w:Str):Option (List Int):=
 if w = "put" then some [4,k7] else if w = "add" then some [4,4] else if w = "set" then some [12,4] else if w = "look" then some [4,12] else if w = "swap" then some [4,12]
 else if w = "clear" then some [] else if w = "skip" then some [4,121] else none
def ng:V->Int->Bool
 | .int i,b=>decide (0<=i)&&decide (i<b)
 | _,_=>false
def stepOk:List V->Bool
 | .str w::ps=>match dw w with
  | none=>false
  | some bs=>decide (ps.length=bs.length)&&(ps.zip bs).all λp=>ng p.1 p.2
 | _=>false
def sj(H:Hp):V->Option (List V)
 | .ref a=>match H a with
  | some (.tup xs)=>some xs
  | _=>none
 | _=>none
def yt(H:Hp)(v:V):Bool:=match sj H v with
 | some xs=>stepOk xs
 | none=>false
theorem aaX{H:Hp}{v:V}{xs:List V}(h:sj H v=some xs):∃a,v=.ref a/\H a=some (.tup xs):=by
 cases v with
 | ref a=>
  refine az a rfl ?_;unfold sj at h;cases e:H a with
  | none=>simp only[e]at h;cases h
  | some o=>
   cases o with
   | tup ys=>simp only[e]at h;cases h;rfl
   | _=>simp only[e]at h;cases h
 | _=>cases h
theorem Qy{H:Hp}{a:Addr}{xs:List V}(h:H a=some (.tup xs)):sj H (.ref a)=some xs:=by
 unfold sj;simp only[h]
theorem CF{H:Hp}{a:Addr}{xs:List V}(h:H a=some (.tup xs)):tyName H (.ref a)=some "tuple":=by
 unfold tyName;simp only[h]
theorem SI{H:Hp}{v:V}{T:String}(h:tyName H v=some T):qM T "tuple" = (sj H v).isSome:=by
 cases v with
 | aE=>cases h;rfl
 | bl b=>cases h;rfl
 | int i=>cases h;rfl
 | str x=>cases h;rfl
 | ref a=>
  unfold tyName at h;unfold sj;cases e:H a with
  | none=>simp only[e]at h;cases h
  | some o=>
   cases o with
   | lst xs=>simp only[e]at h ⊢;cases h;rfl
   | tup xs=>simp only[e]at h ⊢;cases h;rfl
   | _=>simp only[e]at h;cases h
 | _=>cases h
theorem DM{H:Hp}{v:V}{T:String}(h:tyName H v=some T):qM T "str" = true↔∃x,v=.str x:=by
 cases v with
 | str x=>cases h;exact⟨λ_=>⟨x,rfl⟩,λ_=>rfl⟩
 | aE=>cases h;exact⟨λz=>(by cases z),λ⟨_,z⟩=>(by cases z)⟩
 | bl b=>cases h;exact⟨λz=>(by cases z),λ⟨_,z⟩=>(by cases z)⟩
 | int i=>cases h;exact⟨λz=>(by cases z),λ⟨_,z⟩=>(by cases z)⟩
 | ref a=>
  refine⟨λz=>?_,λ⟨_,z⟩=>by cases z⟩;unfold tyName at h;cases e:H a with
  | none=>simp only[e]at h;cases h
  | some o=>
   cases o with
   | lst xs=>simp only[e]at h;cases h;cases z
   | tup xs=>simp only[e]at h;cases h;cases z
   | _=>simp only[e]at h;cases h
 | _=>cases h
theorem aI{H H':Hp}{p:Addr}{o:HO}(s:ah H H')(h:H' p=none):ah H (upd H' p o):=λb u e=>by
 rw[ak (bJ (s b u e) h)];exact s b u e
end TL
namespace L2
open PySem PySem.Spec PyProof.Rows TL
theorem nw{H:Hp}{l:Addr}{o:HO}(n:H l=none):∃H',upd H l o=H'/\ah H H'/\H' l=some o:=⟨_,rfl,aI (ah.refl _) n,av⟩
theorem sl{n:Nat}(h:n<=1000:=by decide):n<=bN:=by rw[jK];exact cZ h qc
end L2
set_option autoImplicit true
namespace L2
abbrev IV:=Nat->St->Hp->Prop
theorem pR{X:Cx}{l:List PySem.Stmt}(R:TS)(h:fG X l R):fG X l R:=h
end L2
namespace TL
open PySem PySem.Spec PyProof.Rows L2 L3
structure Bl(mg:Str->Option Value):Prop where
 hG:mg "isinstance" = none
 int:mg "int" = none
 bool:mg "bool" = none
 str:mg "str" = none
 tuple:mg "tuple" = none
 len:mg "len" = none
 all:mg "all" = none
 zip:mg "zip" = none
structure Cn(mg:Str->Option Value):Prop where
 top:∃u,mg "TOP" = some u/\RelV (.int k7) u
 names:∃u,mg "NAMES" = some u/\RelV (.int 12) u
 eY:∃u,mg "REGISTERS" = some u/\RelV (.int 4) u
 long:∃u,mg "LONGEST" = some u/\RelV (.int 120) u
section
variable{P:Program}{w:World}{K:W.Frag}{mg:Str->Option Value}{base:Heap}
def Dh:Sp:=λvs H Q _=>∃v T,vs=[v]/\tyName H v=some T/\Q (.bl (pM v)) H
theorem ad6:aZ ["thing"] ["thing"] (aM A2):=a8
theorem Iz{f:Addr}{fd:aQ}(F:aP K "is_whole" "is_whole" A2 f fd)(B:Bl mg):ao P w K mg base au 1 f fd ["thing"] Dh:=by
 refine F.ok ad6 (λvs H Q E h=>?_) λaD A _ s H vs Q E hr h=>?_
 ·refine b8 h λv T aa _=>?_;clear h;subst aa;rfl
 ·refine dF h λv T aa ht k=>?_;clear h;subst aa;refine⟨_,ax (aS (sf (bp iB rfl B.hG iw (ae (pv 0) (ae (mq (v:=.ty "int") rfl B.int boot_int rfl) af))) (tU (JV (bp iB rfl B.hG iw (ae (pv 0) (ae (mq (v:=.ty "bool") rfl B.bool boot_bool rfl) af))))))),?_⟩;have e:=SV ht;refine az v rfl (dS _ _ _ _ (gJ _ rfl (oB ht) rfl (oh ht qc) (az _ rfl (lP (λh1=>?_) λh1=>?_))))
  ·refine az v rfl (dS _ _ _ _ (gJ _ rfl (oB ht) rfl (oh ht qc) (az _ rfl ?_)));rw[h1,vp]at e;rw[e];exact k
  ·rw[h1,xK]at e;rw[e];exact k
def QI:Sp:=λvs H Q _=>∃x,vs=[.str x]/\(dw x=none->Q .aE H)/\∀bs,dw x=some bs->∀p,H p=none->Q (.ref p) (upd H p (.lst (bs.map V.int)))
theorem acq:aZ ["word"] ["word"] (aM AR):=a8
theorem str_inj{x y:Str}(h:V.str x=V.str y):x=y:=by injection h
theorem abm{f:Addr}{fd:aQ}(F:aP K "bounds_of" "bounds_of" AR f fd)(C:Cn mg):ao P w K mg base au 1 f fd ["word"] QI:=by
 refine F.ok acq (λvs H Q E h=>?_) λaD A _ s H vs Q E hr h=>?_
 ·refine ay h λv aa _=>?_;clear h;subst aa;rfl
 ·refine aX h λx aa k0 k1=>?_;clear h;subst aa;refine ay C.top λuT mT rT=>ay C.names λuN mN rN=>ay C.eY λuR mR rR=>ay C.long λuL mL rL=>?_;refine let R1:TS:=_;let R2:TS:=_;let R3:TS:=_;let R4:TS:=_;let R5:TS:=_;let R6:TS:=_;let R7:TS:=_;let R8:TS:=_;let R9:TS:=_;let i6:TS:=_;let Ci:TS:=_;⟨_,aA (bQ (cy dE (pv 0) cV (bX _)) (pR R1 (ax (aS (dY (ae (eE rfl mR rR) (ae (eE rfl mT rT) af)))))) cq) (pR Ci (aA (bQ (cy dE (pv 0) cV (bX _)) (pR R2 (ax (aS (dY (ae (eE rfl mR rR) (ae (eE rfl mR rR) af)))))) cq) (pR i6 (aA (bQ (cy dE (pv 0) cV (bX _)) (pR R3 (ax (aS (dY (ae (eE rfl mN rN) (ae (eE rfl mR rR) af)))))) cq) (pR R9 (aA (bQ (PW.pt (pw_or (cy dE (pv 0) cV (bX _)) (pw_or1 (cy dE (pv 0) cV (bX _))))) (pR R4 (ax (aS (dY (ae (eE rfl mR rR) (ae (eE rfl mN rN) af)))))) cq) (pR R8 (aA (bQ (cy dE (pv 0) cV (bX _)) (pR R5 (ax (aS (dY af)))) cq) (pR R7 (aA (bQ (cy dE (pv 0) cV (bX _)) (pR R6 (ax (aS (dY (ae (eE rfl mR rR) (ae (aT fR (eE rfl mL rL) aw) af)))))) cq) (ax (aS kz)))))))))))),?_⟩
  refine vr rfl ⟨rfl,⟨_,rfl,b9 (λe=>?_) λn1=>?_⟩⟩
  ·cases str_inj e;exact⟨qc,λp hp=>k1 [4,k7] (by unfold dw;rw[if_pos rfl]) p hp⟩
  refine az _ rfl ⟨rfl,⟨_,rfl,b9 (λe=>?_) λn2=>?_⟩⟩
  ·cases str_inj e;exact⟨qc,λp hp=>k1 [4,4] (by unfold dw;rw[if_neg dk,if_pos rfl]) p hp⟩
  refine az _ rfl ⟨rfl,⟨_,rfl,b9 (λe=>?_) λn3=>?_⟩⟩
  ·cases str_inj e;exact⟨qc,λp hp=>k1 [12,4] (by unfold dw;rw[if_neg dk,if_neg dk,if_pos rfl]) p hp⟩
  refine az _ rfl ⟨rfl,⟨_,rfl,b9 (λe=>?_) λn4=>?_⟩⟩
  ·cases str_inj e;exact iq ⟨qc,λp hp=>k1 [4,12] (by unfold dw;rw[if_neg dk,if_neg dk,if_neg dk,if_pos rfl]) p hp⟩
  refine vr rfl ⟨rfl,⟨_,rfl,b9 (λe=>?_) λn5=>?_⟩⟩
  ·cases str_inj e;exact⟨qc,λp hp=>k1 [4,12] (by unfold dw;rw[if_neg dk,if_neg dk,if_neg dk,if_neg dk,if_pos rfl]) p hp⟩
  refine az _ rfl ⟨rfl,⟨_,rfl,b9 (λe=>?_) λn6=>?_⟩⟩
  ·cases str_inj e;exact⟨qc,λp hp=>k1 [] (by unfold dw;rw[if_neg dk,if_neg dk,if_neg dk,if_neg dk,if_neg dk,if_pos rfl]) p hp⟩
  refine az _ rfl ⟨rfl,⟨_,rfl,b9 (λe=>?_) λn7=>?_⟩⟩
  ·cases str_inj e;exact⟨_,⟨_,rfl,rfl,qc,λp hp=>k1 [4,121] (by unfold dw;rw[if_neg dk,if_neg dk,if_neg dk,if_neg dk,if_neg dk,if_neg dk,if_pos rfl]) p hp⟩⟩
  refine k0 ?_;have nn:∀{y:Str},¬V.str x=V.str y->¬x=y:=λh e=>h (by rw[e]);unfold dw;rw[if_neg (nn n1),if_neg (nn n2),if_neg (nn n3),if_neg (nn n4),if_neg (nn n5),if_neg (nn n6),if_neg (nn n7)]
def QE:Sp:=λvs H Q _=>∃v T,vs=[v]/\tyName H v=some T/\(∀xs,sj H v=some xs->xs.length<=1000/\∀x∈xs,∃T,tyName H x=some T)/\∀H',ah H H'->Q (.bl (yt H v)) H'
theorem QM:aZ ["told","bounds"] ["told"] (aM Dk):=a8
theorem Lq(y:V)(ps:List V):HT.cw (y::ps).length 0 (some 1)=1:=by
 simp only[HT.cw,gU]
 first | omega | (simp;done) | (split <;> omega)
theorem U3(y:V)(ps:List V):oo (y::ps) (some 1) none=ps:=by
 unfold oo;rw[Lq];show List.take (HT.cw (y::ps).length (y::ps).length none-1) ps=ps;exact jE (by simp[HT.cw])
theorem PD{x:Str}{bs:List Int}(h:dw x=some bs):bs.length<=2:=by
 unfold dw at h
 repeat (first | (split at h;(cases h;decide)) | (cases h;done))
theorem TF:(["part","bound"]:List Str).Nodup:=dk
theorem abl{f fW fB:Addr}{fd eM i3:aQ}(F:aP K "is_step" "is_step" Dk f fd)(B:Bl mg)(C:Cn mg)
  (FW:aP K "is_whole" "is_whole" A2 fW eM) (bW:Binds K eM ["thing"] []) (mW:mg "is_whole" = some (.ref fW)) (FB:aP K "bounds_of" "bounds_of" AR fB i3) (bB:Binds K i3 ["word"] []) (mB:mg "bounds_of" = some (.ref fB)) :
  ao P w K mg base au 2 f fd ["told"] QE:=by
 have GW:ao P w K mg base au 1 fW eM ["thing"] Dh:=Iz FW B;have GB:ao P w K mg base au 1 fB i3 ["word"] QI:=abm FB C;refine F.ok QM (λvs H Q E h=>?_) λaD A _ s H vs Q E hr h=>?_
 ·refine b8 h λv T aa _=>?_;clear h;subst aa;rfl
 ·refine pj h λv T aa ht hx k=>?_;clear h;subst aa
  refine let R1:TS:=_;let R2:TS:=_;let R3:TS:=_;⟨_,aA (bQ (PW.pt (pw_or (iV (dD (bp iB rfl B.hG iw (ae (pv 0) (ae (mq (v:=.ty "tuple") rfl B.tuple mi rfl) af))))) (pw_or (cy dE (bp dR rfl B.len PySem.boot_len (ae (pv 0) af)) aw (bX _)) (pw_or1 (iV (dD (bp iB rfl B.hG iw (ae (aJ cu (pv 0) aw) (ae (mq (v:=.ty "str") rfl B.str boot_str rfl) af))))))))) (ax (aS g9)) cq) (pR R3 (aA (cC (i:=1) QM.nd rfl (aN rfl) (bx GB hr rfl mB FB.kp bB .nil aO (ae (aJ cu (pv 0) aw) af))) (pR R2 (aA (bQ (PW.pt (pw_or (cy JY (pv 1) kz (bX _)) (pw_or1 (cy yz (bp dR rfl B.len PySem.boot_len (ae (pv 0) af)) (aT fR (bp dR rfl B.len PySem.boot_len (ae (pv 1) af)) aw) (bX _))))) (ax (aS g9)) cq) (pR R1 (ax (aS (bp (AI rfl) rfl B.all Dd (ae (gh (N:=["part","bound"]) (idx:=[]) rfl (c9.of (by kernel_rfl)) (CI (bU _) (bU _))
    (Sy (b1:=false) (b2:=true) rfl B.zip (ae (CZ JC (pv 0) (Dm aw) Dn) (ae (pv 1) af)))
    (λ_ _ _ _=>nQ rfl (gH (br (i:=0) TF rfl (aN rfl) (.inr rfl)) (gH (br (i:=1) TF rfl (aN rfl) (.inr rfl)) nO)))
    (λ_ _ _ _=>gZ)
    λ_ _ _ _=>sf (bx GW hr rfl mW FW.kp bW .nil aO (ae (pv 0) af)) (tU (QN D0 tY aw (pv 0) (pv 1)))) af))))))))),?_⟩
  cases hv:sj H v with
  | none=>
   have hi:qM T "tuple" = false:=by rw[SI ht,hv];rfl
   have cX:yt H v=false:=by unfold yt;rw[hv]
   have kk:=k H (ah.refl H);rw[cX]at kk;refine az v rfl (dS _ _ _ _ (gJ _ rfl (oB ht) rfl (oh ht qc) (az _ rfl ?_)));rw[hi];exact iq (iq kk)
  | some xs=>
   refine ay (aaX hv) λa e0 ha=>?_;subst e0;refine oA (hx xs hv) λhl pX=>?_;have hi:qM T "tuple" = true:=by rw[SI ht,hv];rfl
   have kk:∀H',ah H H'->Q (.bl (stepOk xs)) H':=λH' s=>by
    have q:=k H' s;unfold yt at q;rw[hv]at q;exact q
   refine vr rfl (dS _ _ _ _ (gJ _ rfl (oB ht) rfl (oh ht qc) (az _ rfl ?_)));rw[hi];refine dN ?_;cases xs with
   | nil=>
    refine vr rfl (eG a ([]) rfl (.inr (ar.of ha)) ⟨rfl,⟨_,rfl,b9 (λe=>?_) λn0=>absurd rfl n0⟩⟩);exact iq (kk H (ah.refl H))
   | cons y ps=>
    refine vr rfl (eG a (y::ps) rfl (.inr (ar.of ha)) ⟨rfl,⟨_,rfl,b9 (λe=>?_) λn0=>?_⟩⟩)
    ·injection e with e
     exact absurd e (by simp only[gU];omega)
    refine oE (pX y fJ) λTy hy=>jf (v:=y) (j:=0) rfl ha rfl (dS _ _ _ _ (gJ _ rfl (oB hy) rfl (oh hy qc) (az _ rfl (Bd (λh1=>?_) λh1=>?_))))
    ·have e:stepOk (y::ps)=false:=by
      cases y with
      | str x=>exact absurd ((DM hy).mpr ⟨x,rfl⟩) (by rw[h1];exact dg)
      | _=>rfl
     have q:=kk H (ah.refl H);rw[e]at q;exact q
    refine oE ((DM hy).mp h1) λx0 e0=>?_;subst e0;refine jf (v:=.str x0) (j:=0) rfl ha rfl (eZ x0 rfl (λhb=>?_) λbs hb p hp=>?_)
    ·refine az _ rfl ⟨rfl,⟨_,rfl,b9 (λ_=>?_) λn=>absurd rfl n⟩⟩
     have e:stepOk (.str x0::ps)=false:=by
      show (match dw x0 with | none=>false | some bs=>decide (ps.length=bs.length)&&(ps.zip bs).all λp=>ng p.1 p.2)=false;rw[hb]
     have q:=kk H (ah.refl H);rw[e]at q;exact iq q
    have s1:ah H (upd H p (.lst (bs.map V.int))):=aI (ah.refl H) hp;have xp:=s1 _ _ ha
    have eS:stepOk (.str x0::ps)=(decide (ps.length=bs.length)&&(ps.zip bs).all λp=>ng p.1 p.2):=by
     show (match dw x0 with | none=>false | some bs=>decide (ps.length=bs.length)&&(ps.zip bs).all λp=>ng p.1 p.2)=_;rw[hb]
    rw[eS]at kk;refine az _ rfl ⟨rfl,⟨_,rfl,b9 (λz=>by cases z) λ_=>vr rfl ⟨a,⟨_,rfl,.inr (ar.of xp),_,rfl,p,_,rfl,.inl (aq.of av),_,_,rfl,rfl,rfl,_,rfl,D4 (λne=>?_) λeq=>?_⟩⟩⟩⟩
    ·have e:decide (ps.length=bs.length)=false:=decide_eq_false λz=>ne (by rw[gU,aH,z];rfl);rw[e,xK]at kk;exact kk _ s1
    have hlen:ps.length=bs.length:=by
     injection eq with eq
     rw[gU,aH]at eq;omega
    rw[decide_eq_true hlen,vp]at kk;refine az _ rfl (az 1 rfl ⟨a,⟨_,rfl,ar.of xp,?_,λq hq=>?_⟩⟩)
    ·intro z;have z1:=z.1;rw[Lq]at z1;cases z1
    rw[U3];have s2:ah H (upd (upd H p (.lst (bs.map V.int))) q (.tup ps)):=aI s1 hq;have uu:=bJ av hq;have jC:upd (upd H p (.lst (bs.map V.int))) q (.tup ps) p=some (.lst (bs.map V.int)):=by rw[ak uu];exact av
    refine vr rfl (⟨q,p,ps,(bs.map V.int),rfl,(ar.of av),(aq.of jC),?_⟩);generalize hH3:upd (upd H p (.lst (bs.map V.int))) q (.tup ps)=H3 at s2 jC;have sS:H3 q=some (.tup ps):=by rw[<-hH3];exact av
    refine fk (n:=bs.length) (λi ys H'=>i<=bs.length/\ah H3 H'/\ys=((ps.zip bs).take i).map λz=>V.bl (ng z.1 z.2)) ?_ ?_ ?_ ?_ ?_ ?_ ?_
    ·have iF:=PD hb;exact cg (cx w4)
    ·exact gu (bU _) (ah.refl _) rfl
    ·rintro i ys H' ⟨_,_,e⟩;rw[e,aH,gz];exact xl
    ·rintro i ys H' hi ⟨_,s3,_⟩;exact⟨ps,(bs.map V.int),(ps[i]'wg),(V.int bs[i]),(ar.of (s3 _ _ sS)),(aq.of (s3 _ _ jC)),(by simp[hlen,hi]),(by simp[hi])⟩
    ·rintro ys H' ⟨_,s3,_⟩;exact eG ps (bs.map V.int) (ar.of (s3 _ _ sS)) (aq.of (s3 _ _ jC)) (.inr (by rw[aH];exact aB _))
    ·rintro i ys H' hi ⟨_,s3,e⟩ v gd ⟨r,x,y,cH,ev,eH,MV⟩;refine oA (MV ps (bs.map V.int) (ar.of (s3 _ _ sS)) (aq.of (s3 _ _ jC))) λgc nA=>?_;subst ev;subst eH
     have p3:y=V.int bs[i]:=by
      rw[eJ,aR hi]at nA;exact(eC nA).symm
     subst p3;have s4:ah H3 (upd H' r (.tup [x,V.int bs[i]])):=aI s3 cH;refine oE (pX x (dJ _ (bw gc))) λTx Ny=>?_;have L0:=O4 (s2.trans s4) Ny
     have zi:(ps.zip bs)[i]?=some (x,bs[i]):=by
      rw[Yy];exact⟨gc,aR hi⟩
     have fin:∀c,c=ng x bs[i]->i+1<=bs.length/\ah H3 (upd H' r (.tup [x,V.int bs[i]]))/\ys++[V.bl c]=((ps.zip bs).take (i+1)).map λz=>V.bl (ng z.1 z.2):=λc hc=>by
      refine gu hi s4 ?_;rw[kv,zi,gf,<-e,hc];rfl
     refine⟨r,([x,V.int bs[i]]),rfl,(ar.of av),rfl,(iD x ([V.int bs[i]]) rfl (eG (V.int bs[i]) ([]) rfl rfl ?_))⟩;dsimp only[lO];rw[if_pos rfl];refine vr rfl (eG x Tx rfl L0 (az _ rfl ?_));cases x with
     | int j=>
      exact iq (az _ rfl (iD 0 j rfl ⟨rfl,⟨_,rfl,b9 (λh0=>vr rfl (eG j (bs[i]) rfl rfl (fin _ (by show _=(decide (0<=j)&&decide (j<bs[i]));rw[decide_eq_true h0,vp])))) λh0=>fin _ (by show _=(decide (0<=j)&&decide (j<bs[i]));rw[decide_eq_false h0,xK])⟩⟩))
     | _=>exact dN (fin _ rfl)
    ·rintro ys H' ⟨_,s3,e⟩;refine⟨?_,λr cH=>?_⟩
     ·rw[e,aH,gz];have iF:=PD hb;have:=cx (n:=bs.length) w4;omega
     have ey:ys=(((ps.zip bs).map λz=>ng z.1 z.2)).map V.bl:=by
      rw[e,jE (by rw[List.length_zip];omega),lF];rfl
     refine eG r ((ps.zip bs).map λz=>ng z.1 z.2) rfl (aq.of (by rw[av,ey])) ?_;rw[Aj];exact kk _ (aI (s2.trans s3) cH)
def tR(K:W.Frag):Sp:=λvs H Q _=>∃x C dx fs a xs,vs=[.ref x,.ref a]/\H x=some (.ins C dx fs)/\dj K C/\bu K C "parts"/\fs.length<900/\H a=some (.tup xs)/\Q .aE (upd H x (.ins C dx (aG "parts" (.ref a) fs)))
theorem afJ:aZ ["self","told"] ["self","told"] (aM DY):=a8
theorem vD{f:Addr}{fd:aQ}(F:aP K "__init__" "Step.__init__" DY f fd)(B:mg "tuple" = none):ao P w K mg base au 1 f fd ["self","told"] (tR K):=by
 refine F.ok afJ (λvs H Q E h=>?_) λaD A _ s H vs Q E hr h=>?_
 ·refine ml h λx C dx fs a xs aa _=>?_;subst aa;rfl
 ·refine lG h λx C dx fs a xs aa hx cl nP bg=>?_;subst aa;exact dU bg λhl ha k=>ur (ax (gi (pv 0) (qo rV rfl B mi (ae (pv 1) af)) rfl)) (vr rfl (iD a xs rfl (.inr ⟨ar.of ha,_,rfl,x,C,dx,fs,rfl,hx,cl,nP,wa,k⟩)))
theorem yJ(f:Str)(u:V):(aG f u []).length<1000:=by
 have h1:=qj f u [];have h3:([]:List (Str×V)).length=0:=rfl;exact wb
theorem yI(f g:Str)(u v:V):(aG f u (aG g v [])).length<1000:=by
 have h1:=qj f u (aG g v []);have h2:=qj g v [];have h3:([]:List (Str×V)).length=0:=rfl;exact xi
structure vS(K:W.Frag)(mg:Str->Option Value)(cS fI:Addr)(dO:aQ):Prop where
 fn:aP K "__init__" "Step.__init__" DY fI dO
 bi:Binds K dO ["self","told"] []
 cf:K' K cS "__init__" fI
 at_:mg "Step" = some (.ref cS)
 tup:mg "tuple" = none
def oC(C:Addr)(f1 f2:Str):Sp:=λvs H Q _=>∃x dx a xs v1 v2,vs=[.ref x,.ref a]/\H x=some (.ins C dx [])/\H a=some (.tup xs)/\xs[1]?=some v1/\xs[2]?=some v2/\
 Q .aE (upd H x (.ins C dx (aG f2 v2 (aG f1 v1 (aG "parts" (.ref a) [])))))
theorem afI:aZ ["self","told"] ["self","told"] (aM DX):=a8
theorem aeA{f fI cS C:Addr}{fd dO:aQ}(F:aP K "__init__" "Put.__init__" DX f fd)(I:vS K mg cS fI dO)(cl:dj K C)(nP:bu K C "parts")(n1:bu K C "reg")(n2:bu K C "number") :
  ao P w K mg base au 2 f fd ["self","told"] (oC C "reg" "number"):=by
 have GI:ao P w K mg base au 1 fI dO ["self","told"] (tR K):=vD I.fn I.tup;refine F.ok afI (λvs H Q E h=>?_) λaD A _ s H vs Q E hr h=>?_
 ·refine ml h λx dx a xs v1 v2 aa _=>?_;subst aa;rfl
 ·refine lG h λx dx a xs v1 v2 aa hx ha e1 bg=>?_;subst aa;refine oA bg λe2 k=>?_;refine let R1:TS:=_;let R2:TS:=_;⟨_,aA (gg (xX I.cf GI hr rfl I.at_ I.bi .nil aO (ae (pv 0) (ae (pv 1) af)))) (pR R2 (aA (gi (pv 0) (aJ cu (pv 1) aw) rfl) (pR R1 (ax (gi (pv 0) (aJ cu (pv 1) aw) rfl))))),?_⟩
  have hV:=ik ha hx (by intro z;cases z);refine vr rfl (vr rfl ⟨x,⟨C,dx,[],a,xs,rfl,hx,cl,nP,qc,ha,vT (v:=v1) rfl (ar.of (by rw[ak hV];exact ha)) (cD (j:=1) e1) ⟨_,rfl,x,C,dx,_,rfl,av,cl,n1,yJ _ _,vT (v:=v2) rfl (ar.of (by rw[ak hV,ak hV];exact ha)) (cD (j:=2) e2) ⟨_,rfl,x,C,dx,_,rfl,av,cl,n2,yI _ _ _ _,?_⟩⟩⟩⟩);rw[mm,mm];exact k
theorem afM:aZ ["self","told"] ["self","told"] (aM DZ):=a8
theorem aeI{f fI cS C:Addr}{fd dO:aQ}(F:aP K "__init__" "Add.__init__" DZ f fd)(I:vS K mg cS fI dO)(cl:dj K C)(nP:bu K C "parts")(n1:bu K C "reg")(n2:bu K C "other") :
  ao P w K mg base au 2 f fd ["self","told"] (oC C "reg" "other"):=by
 have GI:ao P w K mg base au 1 fI dO ["self","told"] (tR K):=vD I.fn I.tup;refine F.ok afM (λvs H Q E h=>?_) λaD A _ s H vs Q E hr h=>?_
 ·refine ml h λx dx a xs v1 v2 aa _=>?_;subst aa;rfl
 ·refine lG h λx dx a xs v1 v2 aa hx ha e1 bg=>?_;subst aa;refine oA bg λe2 k=>?_;refine let R1:TS:=_;let R2:TS:=_;⟨_,aA (gg (xX I.cf GI hr rfl I.at_ I.bi .nil aO (ae (pv 0) (ae (pv 1) af)))) (pR R2 (aA (gi (pv 0) (aJ cu (pv 1) aw) rfl) (pR R1 (ax (gi (pv 0) (aJ cu (pv 1) aw) rfl))))),?_⟩
  have hV:=ik ha hx (by intro z;cases z);refine vr rfl (vr rfl ⟨x,⟨C,dx,[],a,xs,rfl,hx,cl,nP,qc,ha,vT (v:=v1) rfl (ar.of (by rw[ak hV];exact ha)) (cD (j:=1) e1) ⟨_,rfl,x,C,dx,_,rfl,av,cl,n1,yJ _ _,vT (v:=v2) rfl (ar.of (by rw[ak hV,ak hV];exact ha)) (cD (j:=2) e2) ⟨_,rfl,x,C,dx,_,rfl,av,cl,n2,yI _ _ _ _,?_⟩⟩⟩⟩);rw[mm,mm];exact k
theorem afH:aZ ["self","told"] ["self","told"] (aM DW):=a8
theorem aez{f fI cS C:Addr}{fd dO:aQ}(F:aP K "__init__" "Set.__init__" DW f fd)(I:vS K mg cS fI dO)(cl:dj K C)(nP:bu K C "parts")(n1:bu K C "name")(n2:bu K C "reg") :
  ao P w K mg base au 2 f fd ["self","told"] (oC C "name" "reg"):=by
 have GI:ao P w K mg base au 1 fI dO ["self","told"] (tR K):=vD I.fn I.tup;refine F.ok afH (λvs H Q E h=>?_) λaD A _ s H vs Q E hr h=>?_
 ·refine ml h λx dx a xs v1 v2 aa _=>?_;subst aa;rfl
 ·refine lG h λx dx a xs v1 v2 aa hx ha e1 bg=>?_;subst aa;refine oA bg λe2 k=>?_;refine let R1:TS:=_;let R2:TS:=_;⟨_,aA (gg (xX I.cf GI hr rfl I.at_ I.bi .nil aO (ae (pv 0) (ae (pv 1) af)))) (pR R2 (aA (gi (pv 0) (aJ cu (pv 1) aw) rfl) (pR R1 (ax (gi (pv 0) (aJ cu (pv 1) aw) rfl))))),?_⟩
  have hV:=ik ha hx (by intro z;cases z);refine vr rfl (vr rfl ⟨x,⟨C,dx,[],a,xs,rfl,hx,cl,nP,qc,ha,vT (v:=v1) rfl (ar.of (by rw[ak hV];exact ha)) (cD (j:=1) e1) ⟨_,rfl,x,C,dx,_,rfl,av,cl,n1,yJ _ _,vT (v:=v2) rfl (ar.of (by rw[ak hV,ak hV];exact ha)) (cD (j:=2) e2) ⟨_,rfl,x,C,dx,_,rfl,av,cl,n2,yI _ _ _ _,?_⟩⟩⟩⟩);rw[mm,mm];exact k
theorem aed:aZ ["self","told"] ["self","told"] (aM DE):=a8
theorem acL{f fI cS C:Addr}{fd dO:aQ}(F:aP K "__init__" "Look.__init__" DE f fd)(I:vS K mg cS fI dO)(cl:dj K C)(nP:bu K C "parts")(n1:bu K C "reg")(n2:bu K C "name") :
  ao P w K mg base au 2 f fd ["self","told"] (oC C "reg" "name"):=by
 have GI:ao P w K mg base au 1 fI dO ["self","told"] (tR K):=vD I.fn I.tup;refine F.ok aed (λvs H Q E h=>?_) λaD A _ s H vs Q E hr h=>?_
 ·refine ml h λx dx a xs v1 v2 aa _=>?_;subst aa;rfl
 ·refine lG h λx dx a xs v1 v2 aa hx ha e1 bg=>?_;subst aa;refine oA bg λe2 k=>?_;refine let R1:TS:=_;let R2:TS:=_;⟨_,aA (gg (xX I.cf GI hr rfl I.at_ I.bi .nil aO (ae (pv 0) (ae (pv 1) af)))) (pR R2 (aA (gi (pv 0) (aJ cu (pv 1) aw) rfl) (pR R1 (ax (gi (pv 0) (aJ cu (pv 1) aw) rfl))))),?_⟩
  have hV:=ik ha hx (by intro z;cases z);refine vr rfl (vr rfl ⟨x,⟨C,dx,[],a,xs,rfl,hx,cl,nP,qc,ha,vT (v:=v1) rfl (ar.of (by rw[ak hV];exact ha)) (cD (j:=1) e1) ⟨_,rfl,x,C,dx,_,rfl,av,cl,n1,yJ _ _,vT (v:=v2) rfl (ar.of (by rw[ak hV,ak hV];exact ha)) (cD (j:=2) e2) ⟨_,rfl,x,C,dx,_,rfl,av,cl,n2,yI _ _ _ _,?_⟩⟩⟩⟩);rw[mm,mm];exact k
theorem ad':aZ ["self","told"] ["self","told"] (aM DB):=a8
theorem acH{f fI cS C:Addr}{fd dO:aQ}(F:aP K "__init__" "Swap.__init__" DB f fd)(I:vS K mg cS fI dO)(cl:dj K C)(nP:bu K C "parts")(n1:bu K C "reg")(n2:bu K C "name") :
  ao P w K mg base au 2 f fd ["self","told"] (oC C "reg" "name"):=by
 have GI:ao P w K mg base au 1 fI dO ["self","told"] (tR K):=vD I.fn I.tup;refine F.ok ad' (λvs H Q E h=>?_) λaD A _ s H vs Q E hr h=>?_
 ·refine ml h λx dx a xs v1 v2 aa _=>?_;subst aa;rfl
 ·refine lG h λx dx a xs v1 v2 aa hx ha e1 bg=>?_;subst aa;refine oA bg λe2 k=>?_;refine let R1:TS:=_;let R2:TS:=_;⟨_,aA (gg (xX I.cf GI hr rfl I.at_ I.bi .nil aO (ae (pv 0) (ae (pv 1) af)))) (pR R2 (aA (gi (pv 0) (aJ cu (pv 1) aw) rfl) (pR R1 (ax (gi (pv 0) (aJ cu (pv 1) aw) rfl))))),?_⟩
  have hV:=ik ha hx (by intro z;cases z);refine vr rfl (vr rfl ⟨x,⟨C,dx,[],a,xs,rfl,hx,cl,nP,qc,ha,vT (v:=v1) rfl (ar.of (by rw[ak hV];exact ha)) (cD (j:=1) e1) ⟨_,rfl,x,C,dx,_,rfl,av,cl,n1,yJ _ _,vT (v:=v2) rfl (ar.of (by rw[ak hV,ak hV];exact ha)) (cD (j:=2) e2) ⟨_,rfl,x,C,dx,_,rfl,av,cl,n2,yI _ _ _ _,?_⟩⟩⟩⟩);rw[mm,mm];exact k
theorem aea:aZ ["self","told"] ["self","told"] (aM DC):=a8
theorem acI{f fI cS C:Addr}{fd dO:aQ}(F:aP K "__init__" "Skip.__init__" DC f fd)(I:vS K mg cS fI dO)(cl:dj K C)(nP:bu K C "parts")(n1:bu K C "reg")(n2:bu K C "place") :
  ao P w K mg base au 2 f fd ["self","told"] (oC C "reg" "place"):=by
 have GI:ao P w K mg base au 1 fI dO ["self","told"] (tR K):=vD I.fn I.tup;refine F.ok aea (λvs H Q E h=>?_) λaD A _ s H vs Q E hr h=>?_
 ·refine ml h λx dx a xs v1 v2 aa _=>?_;subst aa;rfl
 ·refine lG h λx dx a xs v1 v2 aa hx ha e1 bg=>?_;subst aa;refine oA bg λe2 k=>?_;refine let R1:TS:=_;let R2:TS:=_;⟨_,aA (gg (xX I.cf GI hr rfl I.at_ I.bi .nil aO (ae (pv 0) (ae (pv 1) af)))) (pR R2 (aA (gi (pv 0) (aJ cu (pv 1) aw) rfl) (pR R1 (ax (gi (pv 0) (aJ cu (pv 1) aw) rfl))))),?_⟩
  have hV:=ik ha hx (by intro z;cases z);refine vr rfl (vr rfl ⟨x,⟨C,dx,[],a,xs,rfl,hx,cl,nP,qc,ha,vT (v:=v1) rfl (ar.of (by rw[ak hV];exact ha)) (cD (j:=1) e1) ⟨_,rfl,x,C,dx,_,rfl,av,cl,n1,yJ _ _,vT (v:=v2) rfl (ar.of (by rw[ak hV,ak hV];exact ha)) (cD (j:=2) e2) ⟨_,rfl,x,C,dx,_,rfl,av,cl,n2,yI _ _ _ _,?_⟩⟩⟩⟩);rw[mm,mm];exact k
structure aW where
 (fW fB fS fO fI LC LD LB KW KS KU ait jt ju ir iL jc pB iK:Addr)
 (eM i3 iu f6 dO D6 D7 D5 DP DN DO:aQ)
structure qA(K:W.Frag)(mg:Str->Option Value)(t:aW):Prop where
 bl:Bl mg
 cn:Cn mg
 Mm:aP K "is_whole" "is_whole" A2 t.fW t.eM
 bW:Binds K t.eM ["thing"] []
 mW:mg "is_whole" = some (.ref t.fW)
 fnB:aP K "bounds_of" "bounds_of" AR t.fB t.i3
 bB:Binds K t.i3 ["word"] []
 mB:mg "bounds_of" = some (.ref t.fB)
 VV:aP K "is_step" "is_step" Dk t.fS t.iu
 bS:Binds K t.iu ["told"] []
 mS:mg "is_step" = some (.ref t.fS)
 zc:aP K "step_of" "step_of" Jc t.fO t.f6
 bO:Binds K t.f6 ["told"] []
 mO:mg "step_of" = some (.ref t.fO)
 init:vS K mg t.ait t.fI t.dO
 vE:dj K t.pB
 aeQ:bu K t.pB "parts"
 aeT:Mk K t.pB t.fI
 aeU:mg "Clear" = some (.ref t.pB)
 su:dj K t.jt
 ah5:bu K t.jt "parts"
 TN:bu K t.jt "reg"
 TK:bu K t.jt "number"
 ah7:Mk K t.jt t.LC
 TQ:mg "Put" = some (.ref t.jt)
 ain:aP K "__init__" "Put.__init__" DX t.LC t.D6
 aiw:Binds K t.D6 ["self","told"] []
 qI:dj K t.ju
 ah6:bu K t.ju "parts"
 KG:bu K t.ju "reg"
 TM:bu K t.ju "other"
 mkAdd:Mk K t.ju t.LD
 TR:mg "Add" = some (.ref t.ju)
 aio:aP K "__init__" "Add.__init__" DZ t.LD t.D7
 aix:Binds K t.D7 ["self","told"] []
 kJ:dj K t.ir
 ah4:bu K t.ir "parts"
 tZ:bu K t.ir "name"
 TJ:bu K t.ir "reg"
 mkSet:Mk K t.ir t.LB
 D3:mg "Set" = some (.ref t.ir)
 ail:aP K "__init__" "Set.__init__" DW t.LB t.D5
 aiv:Binds K t.D5 ["self","told"] []
 lK:dj K t.iL
 af':bu K t.iL "parts"
 SN:bu K t.iL "reg"
 vI:bu K t.iL "name"
 agd:Mk K t.iL t.KW
 J3:mg "Look" = some (.ref t.iL)
 agt:aP K "__init__" "Look.__init__" DE t.KW t.DP
 agF:Binds K t.DP ["self","told"] []
 mQ:dj K t.jc
 af8:bu K t.jc "parts"
 J0:bu K t.jc "reg"
 A6:bu K t.jc "name"
 agb:Mk K t.jc t.KS
 SQ:mg "Swap" = some (.ref t.jc)
 agp:aP K "__init__" "Swap.__init__" DB t.KS t.DN
 agD:Binds K t.DN ["self","told"] []
 pA:dj K t.iK
 af9:bu K t.iK "parts"
 SM:bu K t.iK "reg"
 DJ:bu K t.iK "place"
 agc:Mk K t.iK t.KU
 J1:mg "Skip" = some (.ref t.iK)
 agr:aP K "__init__" "Skip.__init__" DC t.KU t.DO
 agE:Binds K t.DO ["self","told"] []
def cb(t:aW)(x:Str):Addr:=if x = "put" then t.jt else if x = "add" then t.ju else if x = "set" then t.ir else if x = "look" then t.iL else if x = "swap" then t.jc else if x = "clear" then t.pB else t.iK
def cW(v:V)(x:Str)(ps:List V):List (Str×V):=
 if x = "put" then aG "number" (ps.getD 1 .aE) (aG "reg" (ps.getD 0 .aE) (aG "parts" v []))
 else if x = "add" then aG "other" (ps.getD 1 .aE) (aG "reg" (ps.getD 0 .aE) (aG "parts" v []))
 else if x = "set" then aG "reg" (ps.getD 1 .aE) (aG "name" (ps.getD 0 .aE) (aG "parts" v []))
 else if x = "look" then aG "name" (ps.getD 1 .aE) (aG "reg" (ps.getD 0 .aE) (aG "parts" v []))
 else if x = "swap" then aG "name" (ps.getD 1 .aE) (aG "reg" (ps.getD 0 .aE) (aG "parts" v []))
 else if x = "clear" then aG "parts" v []
 else aG "place" (ps.getD 1 .aE) (aG "reg" (ps.getD 0 .aE) (aG "parts" v []))
theorem aeY{α:Type}{l:List α}(h:l.length=2):∃a b,l=[a,b]:=by
 cases l with
 | nil=>cases h
 | cons a t=>
  exact oE (N8.mp (show t.length=1 from Ai h)) λb e=>uy a b (by rw[e])
theorem yp{x:Str}{ps:List V}(h:stepOk (.str x::ps)=true){b c:Int}{bs:List Int}(hb:dw x=some bs)(hl:bs=[b,c]:=by rfl):∃v1 v2,ps=[v1,v2]:=by
 subst hl;have h':(match dw x with | none=>false | some bs=>decide (ps.length=bs.length)&&(ps.zip bs).all λp=>ng p.1 p.2)=true:=h;rw[hb]at h';simp only[iG,decide_eq_true_eq]at h';exact aeY h'.1
theorem abB{x:Str}{ps:List V}(h:stepOk (.str x::ps)=true)(n1:¬x = "put")(n2:¬x = "add")(n3:¬x = "set")(n4:¬x = "look")(n5:¬x = "swap")(n6:¬x = "clear"):x = "skip":=by
 apply NZ;intro n7
 have e:dw x=none:=by
  unfold dw;rw[if_neg n1,if_neg n2,if_neg n3,if_neg n4,if_neg n5,if_neg n6,if_neg n7]
 have h':(match dw x with | none=>false | some bs=>decide (ps.length=bs.length)&&(ps.zip bs).all λp=>ng p.1 p.2)=true:=h;rw[e]at h';cases h'
def yd(t:aW):Sp:=λvs H Q _=>∃a x ps,vs=[.ref a]/\H a=some (.tup (.str x::ps))/\stepOk (.str x::ps)=true/\(ps.length<=900/\∀y∈ps,∃T,tyName H y=some T)/\
 ∀z dx H',ah H H'->H z=none->H' z=some (.ins (cb t x) dx (cW (.ref a) x ps))->Q (.ref z) H'
theorem QL:aZ ["told","word"] ["told"] (aM Jc):=a8
theorem Aw{t:aW}(T:qA K mg t):ao P w K mg base au 4 t.fO t.f6 ["told"] (yd t):=by
 have GS:ao P w K mg base au 2 t.fS t.iu ["told"] QE:=abl T.VV T.bl T.cn T.Mm T.bW T.mW T.fnB T.bB T.mB;have GI:ao P w K mg base au 1 t.fI t.dO ["self","told"] (tR K):=vD T.init.fn T.init.tup;have alR:ao P w K mg base au 2 t.LC t.D6 ["self","told"] (oC t.jt "reg" "number"):=aeA T.ain T.init T.su T.ah5 T.TN T.TK;have al1:ao P w K mg base au 2 t.LD t.D7 ["self","told"] (oC t.ju "reg" "other"):=aeI T.aio T.init T.qI T.ah6 T.KG T.TM;have alQ:ao P w K mg base au 2 t.LB t.D5 ["self","told"] (oC t.ir "name" "reg"):=aez T.ail T.init T.kJ T.ah4 T.tZ T.TJ;have ajH:ao P w K mg base au 2 t.KW t.DP ["self","told"] (oC t.iL "reg" "name"):=acL T.agt T.init T.lK T.af' T.SN T.vI;have ajF:ao P w K mg base au 2 t.KS t.DN ["self","told"] (oC t.jc "reg" "name"):=acH T.agp T.init T.mQ T.af8 T.J0 T.A6;have ajG:ao P w K mg base au 2 t.KU t.DO ["self","told"] (oC t.iK "reg" "place"):=acI T.agr T.init T.pA T.af9 T.SM T.DJ;refine T.zc.ok QL (λvs H Q E h=>?_) λaD A _ s H vs Q E hr h=>?_
 ·refine kG h λa x ps aa _=>?_;clear h;subst aa;rfl
 ·refine i9 h λa x0 ps aa ha bg=>?_;clear h;subst aa;refine dU bg λhk aa k=>oA aa λhl pX=>?_;have nn:∀{y:Str},¬V.str x0=V.str y->¬x0=y:=λh e=>h (by rw[e])
  refine let R1:TS:=_;let R2:TS:=_;let R3:TS:=_;let R4:TS:=_;let R5:TS:=_;let R6:TS:=_;let R7:TS:=_;let R8:TS:=_;let R9:TS:=_;let i6:TS:=_;let Ci:TS:=_;let NQ:TS:=_;let NP:TS:=_;let R14:TS:=_;⟨_,(aA (bQ (iV (dD (bx GS (hr.mono qc) rfl T.mS T.VV.kp T.bS .nil aO (ae (pv 0) af)))) yb cq)
   (pR R14 (aA (cC (i:=1) QL.nd rfl (aN rfl) (aJ cu (pv 0) aw)) (pR NP (aA (bQ (cy dE (pv 1) cV (bX _)) (pR R1 (ax (aS (se T.ah7 alR hr rfl T.TQ T.aiw .nil aO (ae (pv 0) af))))) cq) (pR NQ (aA (bQ (cy dE (pv 1) cV (bX _)) (pR R2 (ax (aS (se T.mkAdd al1 hr rfl T.TR T.aix .nil aO (ae (pv 0) af))))) cq) (pR Ci (aA (bQ (cy dE (pv 1) cV (bX _)) (pR R3 (ax (aS (se T.mkSet alQ hr rfl T.D3 T.aiv .nil aO (ae (pv 0) af))))) cq) (pR i6 (aA (bQ (cy dE (pv 1) cV (bX _)) (pR R4 (ax (aS (se T.agd ajH hr rfl T.J3 T.agF .nil aO (ae (pv 0) af))))) cq) (pR R9 (aA (bQ (cy dE (pv 1) cV (bX _)) (pR R5 (ax (aS (se T.agb ajF hr rfl T.SQ T.agD .nil aO (ae (pv 0) af))))) cq) (pR R8 (aA (bQ (cy dE (pv 1) cV (bX _)) (pR R6 (ax (aS (se T.aeT GI (hr.mono qc) rfl T.aeU T.init.bi .nil aO (ae (pv 0) af))))) cq)
   (pR R7 (ax (aS (se T.agc ajG hr rfl T.J1 T.agE .nil aO (ae (pv 0) af)))))))))))))))))))),?_⟩
  refine vr rfl ⟨_,⟨_,rfl,CF ha,(λxs hv=>?_),λH1 hS=>?_⟩⟩
  ·rw[Qy ha]at hv;cases hv;refine⟨by simp only[gU];exact wb,λy hy=>?_⟩;rcases bR.mp hy with e | hy
   ·subst e;exact⟨_,rfl⟩
   ·exact pX y hy
  have cX:yt H (.ref a)=true:=by unfold yt;rw[Qy ha];exact hk
  rw[cX];refine az _ rfl (dN (jf (v:=.str x0) (j:=0) rfl ((hS _ _ ha)) rfl (az _ rfl ⟨rfl,⟨_,rfl,b9 (λe=>?_) λn1=>?_⟩⟩)))
  ·cases str_inj e;obtain⟨v1,v2,nB⟩:=yp hk (bs:=[4,k7]) (by unfold dw;rw[if_pos rfl]);subst nB;refine vr rfl λx dx nx gR zy=>⟨x,dx,a,[.str "put",v1,v2],v1,v2,rfl,av,?_,rfl,rfl,rfl,?_⟩
   ·rw[ak (bJ (hS _ _ ha) nx),ak (bJ (hS _ _ ha) gR)];exact hS _ _ ha
   ·refine k x dx _ (λb o q=>?_) (hS.free nx) (by rw[av];rfl);rw[ak (bJ (hS b o q) nx),ak (bJ (hS b o q) nx),ak (bJ (hS b o q) gR)];exact hS b o q
  refine az _ rfl ⟨rfl,⟨_,rfl,b9 (λe=>?_) λn2=>?_⟩⟩
  ·cases str_inj e;obtain⟨v1,v2,nB⟩:=yp hk (bs:=[4,4]) (by unfold dw;rw[if_neg dk,if_pos rfl]);subst nB;refine vr rfl λx dx nx gR zy=>⟨x,dx,a,[.str "add",v1,v2],v1,v2,rfl,av,?_,rfl,rfl,rfl,?_⟩
   ·rw[ak (bJ (hS _ _ ha) nx),ak (bJ (hS _ _ ha) gR)];exact hS _ _ ha
   ·refine k x dx _ (λb o q=>?_) (hS.free nx) (by rw[av];rfl);rw[ak (bJ (hS b o q) nx),ak (bJ (hS b o q) nx),ak (bJ (hS b o q) gR)];exact hS b o q
  refine az _ rfl ⟨rfl,⟨_,rfl,b9 (λe=>?_) λn3=>?_⟩⟩
  ·cases str_inj e;obtain⟨v1,v2,nB⟩:=yp hk (bs:=[12,4]) (by unfold dw;rw[if_neg dk,if_neg dk,if_pos rfl]);subst nB;refine vr rfl λx dx nx gR zy=>⟨x,dx,a,[.str "set",v1,v2],v1,v2,rfl,av,?_,rfl,rfl,rfl,?_⟩
   ·rw[ak (bJ (hS _ _ ha) nx),ak (bJ (hS _ _ ha) gR)];exact hS _ _ ha
   ·refine k x dx _ (λb o q=>?_) (hS.free nx) (by rw[av];rfl);rw[ak (bJ (hS b o q) nx),ak (bJ (hS b o q) nx),ak (bJ (hS b o q) gR)];exact hS b o q
  refine az _ rfl ⟨rfl,⟨_,rfl,b9 (λe=>?_) λn4=>?_⟩⟩
  ·cases str_inj e;obtain⟨v1,v2,nB⟩:=yp hk (bs:=[4,12]) (by unfold dw;rw[if_neg dk,if_neg dk,if_neg dk,if_pos rfl]);subst nB;refine vr rfl λx dx nx gR zy=>⟨x,dx,a,[.str "look",v1,v2],v1,v2,rfl,av,?_,rfl,rfl,rfl,?_⟩
   ·rw[ak (bJ (hS _ _ ha) nx),ak (bJ (hS _ _ ha) gR)];exact hS _ _ ha
   ·refine k x dx _ (λb o q=>?_) (hS.free nx) (by rw[av];rfl);rw[ak (bJ (hS b o q) nx),ak (bJ (hS b o q) nx),ak (bJ (hS b o q) gR)];exact hS b o q
  refine az _ rfl ⟨rfl,⟨_,rfl,b9 (λe=>?_) λn5=>?_⟩⟩
  ·cases str_inj e;obtain⟨v1,v2,nB⟩:=yp hk (bs:=[4,12]) (by unfold dw;rw[if_neg dk,if_neg dk,if_neg dk,if_neg dk,if_pos rfl]);subst nB;refine vr rfl λx dx nx gR zy=>⟨x,dx,a,[.str "swap",v1,v2],v1,v2,rfl,av,?_,rfl,rfl,rfl,?_⟩
   ·rw[ak (bJ (hS _ _ ha) nx),ak (bJ (hS _ _ ha) gR)];exact hS _ _ ha
   ·refine k x dx _ (λb o q=>?_) (hS.free nx) (by rw[av];rfl);rw[ak (bJ (hS b o q) nx),ak (bJ (hS b o q) nx),ak (bJ (hS b o q) gR)];exact hS b o q
  refine az _ rfl ⟨rfl,⟨_,rfl,b9 (λe=>?_) λn6=>?_⟩⟩
  ·cases str_inj e;refine vr rfl λx dx nx gR zy=>⟨x,t.pB,dx,[],a,.str "clear" :: ps,rfl,av,T.vE,T.aeQ,qc,?_,rfl,?_⟩
   ·rw[ak (bJ (hS _ _ ha) nx),ak (bJ (hS _ _ ha) gR)];exact hS _ _ ha
   ·refine k x dx _ (λb o q=>?_) (hS.free nx) (by rw[av];rfl);rw[ak (bJ (hS b o q) nx),ak (bJ (hS b o q) nx),ak (bJ (hS b o q) gR)];exact hS b o q
  have ajp:=abB hk (nn n1) (nn n2) (nn n3) (nn n4) (nn n5) (nn n6);subst ajp;obtain⟨v1,v2,nB⟩:=yp hk (bs:=[4,121]) (by unfold dw;rw[if_neg dk,if_neg dk,if_neg dk,if_neg dk,if_neg dk,if_neg dk,if_pos rfl]);subst nB;refine vr rfl λx dx nx gR zy=>⟨x,dx,a,[.str "skip",v1,v2],v1,v2,rfl,av,?_,rfl,rfl,rfl,?_⟩
  ·rw[ak (bJ (hS _ _ ha) nx),ak (bJ (hS _ _ ha) gR)];exact hS _ _ ha
  ·refine k x dx _ (λb o q=>?_) (hS.free nx) (by rw[av];rfl);rw[ak (bJ (hS b o q) nx),ak (bJ (hS b o q) nx),ak (bJ (hS b o q) gR)];exact hS b o q
end
end TL
namespace L2
open PySem PySem.Spec PyProof.Rows
section
variable{X:Cx}
theorem len_K(K:W.Frag)(h:X.K=K:=by rfl):jr X (.builtin "len") (λxs H Q=>∃p ys,xs=[.ref p]/\(aq K H p ys\/ar K H p ys)/\Q (.int ys.length) H):=by subst h;exact dR
theorem T5(K:W.Frag)(h:X.K=K:=by rfl):zl X (yE K):=by subst h;exact cO
theorem yA(K:W.Frag)(h:X.K=K:=by rfl):zl X (yD K):=by subst h;exact cu
theorem ahq(K:W.Frag)(h:X.K=K:=by rfl):EV X (UL K):=by subst h;exact JC
theorem aip{e:Expr}{f:Str}{pos:Pos}{ta:TE}(K:W.Frag)(he:PE X e ta)(hb:GR e f X.env (eval e X.env)=eval e X.env)(h:X.K=K:=by rfl):PE X (.Attribute e f pos) (Li K ta f):=by subst h;exact bf he hb
end
end L2
namespace L2
open PySem
end L2
namespace L2
open PySem PySem.Spec PyProof.Rows L3
def LK(h:Heap)(e:Addr)(cls:Value)(dd:Option Addr)(tb:Value):Prop:=
 ∃oe vs a0,h.get? e=some oe/\oe.cls=cls/\oe.dict=dd/\oe.data=.fields vs/\vs[0]?=some a0/\vs[1]?=some tb/\(cls≠.ref U5->vs[2]?=some .none)
def U6(h:Heap)(e T:Addr)(fl:Value):Prop:=T≠e/\∃oT ts,h.get? T=some oT/\oT.data=.fields ts/\ts[3]?=some fl
def BD(h:Heap)(e:Addr)(cls:Value)(dd:Option Addr)(tb:Option Addr):Prop:=
 LK h e cls dd (tb.elim .none c8)/\∀T,tb=some T->U6 h e T .none
def qQ(h:Heap)(e:Addr)(cls:Value)(dd:Option Addr)(T:Addr)(fl:Value):Prop:=LK h e cls dd (.ref T)/\U6 h e T fl
theorem abQ(o:Obj)(f:Array Value->Array Value):(o.mapFields f).dict=o.dict:=by
 obtain⟨c,d,dt,s⟩:=o;cases dt <;> rfl
section
variable{M:Model}{A:Around}{E:Value->Shared->Prop}{s:Shared}{base:Heap}{env:Env}{outer:List Env}{L e:Addr}{cls:Value}{dd:Option Addr}{Q:Unit->Shared->Prop}
theorem PB{head:Value}{had:Bool}{oe:Obj}{vs:Array Value}{a0:Value}(kh:A.frames=some (env::outer))(hl:s.heap.FunFrames base (env::outer))(hf:env.frame=some L)(q:s.heap.get? e=some oe)(hc:oe.cls=cls)(zO:oe.dict=dd)
  (hd:oe.data=.fields vs) (h0:vs[0]?=some a0) (jB:1<vs.size) (zP:cls≠.ref U5->vs[2]?=some .none)
  (k:∀h' T,(∀b o,b∉jh (env::outer)->b≠e->s.heap.get? b=some o->h'.get? b=some o)->(∀b o,s.heap.get? b=some o->b≠e->∃sl,h'.get? b=some { o with slots:=sl })->s.heap.objs.size<=T->
   qQ h' e cls dd T (rawInt L)->Q () { s with heap:=h' }) :
  wpAny M A (do let a <-frameOf env;let pl <-entryPlaceOf L had;let b <-YY head a .none (rawInt L) .none pl;setField (.ref e) 1 b) Q E s:=by
 have dX:e∉jh (env::outer):=λz=>by
  refine oA (hl.mem z) λ_ aa=>ay aa λo ho nf=>?_;rw[q]at ho;cases ho;exact nf vs hd
 refine ag (wpAny_frameOf_fun kh hl hf λh1 so=>ag (wpAny_entryPlaceOf λpl hp=>?_));unfold YY newFields;refine ag (oQ ?_ (hp.sizeOk5 _ _ _ _ _));have q1:=(so.2.1 e dX).trans q;generalize hz:({ cls:=.type "traceback",dict:=none,data:=.fields ([head,.ref L,.none,rawInt L,.none]++(if pl.isEmpty then cY 6 eK else pl)).toArray }:Obj)=ot;have q2:(h1.push ot).get? e=some oe:=bc _ q1;refine qb q2 hd jB ?_;have nT:=qf (bq q1);have d3:=Cm hd (·.setIfInBounds 1 (c8 h1.objs.size));have e3:=rH (kx (·.setIfInBounds 1 (c8 h1.objs.size))) q2 (N' d3);have fr:ot.isFreed=false:=by rw[<-hz];rfl
 have t3:((h1.push ot).update e (kx (·.setIfInBounds 1 (c8 h1.objs.size)))).get? h1.objs.size=some ot:=by
  rw[xw _ _ (eT nT)];exact dM h1 fr
 have kp:∀b o,b≠e->h1.get? b=some o->((h1.push ot).update e (kx (·.setIfInBounds 1 (c8 h1.objs.size)))).get? b=some o:=λb o n z=>by
  rw[xw _ _ (eT n)];exact bc _ z
 refine k _ h1.objs.size (λb o hb n z=>kp b o n ((so.2.1 b hb).trans z)) (λb o z n=>oE (so.2.2 b o z) λsl z1=>⟨sl,kp b _ n z1⟩) (qg so.1.symm) (gu ⟨_,_,a0,e3,?_,?_,d3,?_,?_,λz=>by rw[Yn qc];exact zP z⟩ nT ⟨ot,_,t3,by rw[<-hz],?_⟩)
 ·rw[Za];exact hc
 ·rw[abQ];exact zO
 ·rw[Yn qc];exact h0
 ·simp[jB]
 ·first | (simp;done) | (rcases hp with rfl | ⟨_,_,_,_,_,_,_,rfl⟩ <;> simp)
theorem P9{tb:Option Addr}(kh:A.frames=some (env::outer))(hl:s.heap.FunFrames base (env::outer))(hf:env.frame=some L)(x:BD s.heap e cls dd tb)
  (k:∀h' T,(∀b o,b∉jh (env::outer)->b≠e->tb≠some b->s.heap.get? b=some o->h'.get? b=some o)->(∀b o,s.heap.get? b=some o->b≠e->tb≠some b->∃sl,h'.get? b=some { o with slots:=sl })->s.heap.objs.size<=T->
   qQ h' e cls dd T (rawInt L)->Q () { s with heap:=h' }):wpAny M A (noteFrame (.ref e) env) Q E s:=by
 refine oA x λaa ht=>i9 aa λoe vs a0 q hc aa=>Bc aa λzO hd h0 h1 zP=>?_;have jB:1<vs.size:=(NX.mp h1).1;unfold noteFrame;simp only[hf];cases tb with
 | none=>
  refine ag (iO q hd h1 ?_);rw[if_neg qc];exact PB kh hl hf q hc zO hd h0 jB zP λh' T a b c d=>k h' T (λx o y z _=>a x o y z) (λx o y z _=>b x o y z) c d
 | some T0=>
  refine oA (ht T0 rfl) λnT aa=>dF aa λoT ts qT dT t3=>ag (iO q hd h1 ?_);show wpAny M A (if (c8 T0 != eK)=true then _ else _) Q E s;rw[if_pos (by simp)];refine ag (iO qT dT t3 ?_);rw[if_neg (show ¬((eK == rawInt L)=true) by simp[rawInt])];refine ag (qb qT dT (NX.mp t3).1 ?_);have jT:∀b,b≠T0->(s.heap.update T0 (kx (·.setIfInBounds 3 eK))).get? b=s.heap.get? b:=λb n=>xw _ _ (eT n);refine PB (s:={ s with heap:=s.heap.update T0 (kx (·.setIfInBounds 3 eK)) }) kh (hl.of_keeps λb o z nf=>⟨o,(jT b λw=>?_).trans z,rfl⟩) hf ((jT e (eT nT)).trans q) hc zO hd h0 jB zP λh' T a b c d=>?_
  ·rw[w,qT]at z;cases z;exact nf ts dT
  ·refine k h' T (λx o y z n w=>a x o y z ((jT x λv=>n (by rw[v])).trans w)) (λx o w z n=>b x o ((jT x λv=>n (by rw[v])).trans w) z) ?_ d;have c':(s.heap.update T0 (kx (·.setIfInBounds 3 eK))).objs.size<=T:=c;rw[Heap.size_after_update]at c';exact c'
theorem Hh{T:Addr}{fl:Value}(x:qQ s.heap e cls dd T fl)(k:∀h',(∀b o,b≠T->s.heap.get? b=some o->h'.get? b=some o)->BD h' e cls dd (some T)->Q () { s with heap:=h' }) :
  wpAny M A (setFlight (.ref e) none) Q E s:=by
 refine dU x λaa nT bg=>i9 aa λoe vs a0 q hc aa=>Bc aa λzO hd h0 h1 zP=>dF bg λoT ts qT dT t3=>?_;have s3:3<ts.size:=(NX.mp t3).1;unfold setFlight;refine ag (iO q hd h1 ?_);rw[if_pos (show (c8 T != eK)=true by simp)];have jT:∀b,b≠T->(s.heap.update T (kx (·.setIfInBounds 3 ((none:Option Addr).elim eK λf=>rawInt f)))).get? b=s.heap.get? b:=λb n=>xw _ _ (eT n);refine qb qT dT s3 (k _ (λb o n z=>(jT b n).trans z) ⟨⟨oe,vs,a0,(jT e (eT nT)).trans q,hc,zO,hd,h0,h1,zP⟩,λT' z=>?_⟩);cases z;exact⟨nT,⟨_,_,rH _ qT (N' (Cm dT _)),Cm dT _,by simp[s3]⟩⟩
end
def lU(P:Program)(w:World):lj:=λouter H s E e s'=>∃ea c dd T H',e=.ref ea/\s'.os=s.os/\AllBare s'.gens/\Un (jh outer) [] H H' s.heap s'.heap/\f9 P w H' s'.heap/\BD s'.heap ea c dd (some T)/\
 s.heap.objs.size<=ea/\s.heap.objs.size<=T/\H' ea=none/\H' T=none/\E c dd H'
structure Kf(X:Cx)(p_:List (Addr×Obj))(σ:St)(H:Hp)(s:Shared)(ea:Addr)(c:Value)(dd tb:Option Addr):Prop where
 inv:Inv X p_ σ H s
 Mn:BD s.heap ea c dd tb
 fe:fu X p_ H ea
 ft:∀T,tb=some T->fu X p_ H T
abbrev WX:=St->XK
def D9(X:Cx)(W:WX):Prop:=∀(p_:List (Addr×Obj)) (σ:St) (H:Hp) (s:Shared) (ea:Addr) (c:Value) (dd tb:Option Addr),Kf X p_ σ H s ea c dd tb->W σ c dd H->X.xe (.ref ea) s
section
variable{X:Cx}{p_:List (Addr×Obj)}{σ:St}{H:Hp}{s:Shared}
theorem Qh{h':Heap}{ch:List Addr}(I:Inv X p_ σ H s)(hc:∀b∈ch,H b=none)(k:∀b o,b∉jh X.stack->b∉ch->s.heap.get? b=some o->h'.get? b=some o):f9 X.prog X.w H h':=λb u e=>by
 refine(I.aL b u e).kX (λd v hd q=>k d v (λz=>?_) (λz=>?_) q) (λ_ q=>q) λ_ _ q=>q
 ·have n:=I.Dg d z;rcases hd with w | w
  ·rw[w,e]at n;cases n
  ·rw[w]at n;cases n
 ·have n:=hc d z;rcases hd with w | w
  ·rw[w,e]at n;cases n
  ·rw[w]at n;cases n
theorem ac7{P:Program}{w:World}{K:PySem.W.Frag}{mg:Str->Option Value}{base:Heap}{N:List Str}{qual:Str}{scope:Scope}{f:Addr}{cd:Value}{A:Around}{outer:List Env}{s0:Shared}{H0:Hp}{E:XK} :
  D9 (oj (lU P w) P w K mg base N qual scope f cd A outer s0 H0 E) (λ_=>E):=by
 intro p_ σ H s ea c dd tb x hE;show wpAny (model P w) (A.deeper (envOfC qual scope s0.heap.objs.size f cd)) (leaving (envOfC qual scope s0.heap.objs.size f cd) (.ref ea)) (λ_ wN=>lU P w outer H0 s0 E (.ref ea) wN) (λe' wN=>lU P w outer H0 s0 E e' wN) s;have I:=x.inv
 have XQ:s0.heap.objs.size<=ea:=by
  rcases x.fe.2.2.2.1 with z | z
  ·exact absurd (show ea∈([]:List Addr) from z) (by simp)
  ·exact z
 have tN:∀T,tb=some T->s0.heap.objs.size<=T:=λT z=>by
  rcases(x.ft T z).2.2.2.1 with y | y
  ·exact absurd (show T∈([]:List Addr) from y) (by simp)
  ·exact y
 unfold leaving;refine ag (P9 (base:=base) I.ok.frames I.stack rfl x.Mn λh1 T k1 k2 hT Nr=>Hh Nr λh2 k3 NJ=>?_);have MN:∀{b:Addr} {o:Obj},s0.heap.get? b=some o->b<s0.heap.objs.size:=λe=>bq e;have sN:s0.heap.objs.size<=s.heap.objs.size:=I.sz;have MK:∀{b:Addr},b<s0.heap.objs.size->b≠T:=λh z=>absurd (eB h (cZ sN hT)) (by rw[z];exact iH _);have ML:∀{b:Addr},b<s0.heap.objs.size->b≠ea:=λh z=>absurd (eB h XQ) (by rw[z];exact iH _);have MM:∀{b:Addr},b<s0.heap.objs.size->tb≠some b:=λh z=>absurd (eB h (tN _ z)) (iH _)
 have nL0:∀{b:Addr},b<s0.heap.objs.size->b∉jh outer->b∉jh (envOfC qual scope s0.heap.objs.size f cd::outer):=λh z y=>by
  rcases I.Dx _ y |> bR.mp with u | u
  ·exact absurd h (by rw[u];exact iH _)
  ·exact z u
 have Fd:∀{b:Addr} {o:Obj},s.heap.get? b=some o->b≠T:=λe z=>absurd (eB (bq e) hT) (by rw[z];exact iH _)
 have akZ:f9 P w H h2:=by
  refine Qh (ch:=ea::tb.toList) I (λb hb=>?_) λb o hb hc e=>k3 b o (Fd e) (k1 b o hb (λz=>hc (by rw[z];exact fJ)) (λz=>hc (dJ _ (by rw[z];simp))) e);rcases bR.mp hb with z | z
  ·rw[z];exact x.fe.1
  ·cases tb with
   | none=>simp at z
   | some T0=>
    have z':b=T0:=by simpa using z
    rw[z'];exact(x.ft T0 rfl).1
 refine⟨ea,c,dd,T,H,rfl,I.os,I.bare,⟨λb o e n hb hx=>?_,λb o e n hb hx=>?_,I.base.free,λb o e hx=>?_,I.base.qK,I.base.pI,I.base.pF⟩,akZ,NJ,XQ,(cZ sN hT),x.fe.1,⟨I.aL.fresh hT,hE⟩⟩
 ·have l:=MN e;exact k3 b o (MK l) (k1 b o (nL0 l hb) (ML l) (MM l) (I.base.keep b o e n hb hx))
 ·have l:=MN e;exact oE (I.base.slot b o e n hb hx) λsl q=>oE (k2 b _ q (ML l) (MM l)) λE4 q'=>⟨E4,k3 b _ (MK l) q'⟩
 ·have l:=MN e;exact oE (I.base.there b o e hx) λo' q=>oE (k2 b _ q (ML l) (MM l)) λE4 q'=>⟨_,k3 b _ (MK l) q'⟩
end
section
variable{X:Cx}{k:Nat}{f C:Addr}{fd:aQ}{ps:List Str}{sp:Sp}{dvs:List V}{ds:List Value}{W:WX}{x m:Str}{p pos apos:Pos}{e o:Expr}{es:List Expr}{ta:TE}{t:TA}{P:Program}{w:World}
end
section
variable{P:Program}{w:World}{K:PySem.W.Frag}{mg:Str->Option Value}{base:Heap}
theorem aP.Mh{x qual:Str}{st:Stmt}{f:Addr}{fd:aQ}{N ps:List Str}{k:Nat}{sp:Sp}(F:aP K x qual st f fd)(S:aZ N ps (aM st))(len:∀vs H Q E,sp vs H Q E->vs.length=ps.length)
  (sC:∀(aD:Value) (A:Around) (outer:List Env) (s:Shared) (H:Hp) (vs:List V) (Q:VK) (E:XK),eI k (A.deeper (envOfC qual (aM st) s.heap.objs.size f aD))->
   D9 (oj (lU P w) P w K mg base N qual (aM st) f aD A outer s H E) (λ_=>E)->
   fj (model P w) (A.deeper (envOfC qual (aM st) s.heap.objs.size f aD)) (envOfC qual (aM st) s.heap.objs.size f aD) (oj (lU P w) P w K mg base N qual (aM st) f aD A outer s H E).xe->sp vs H Q E->
   ∃t,fG (oj (lU P w) P w K mg base N qual (aM st) f aD A outer s H E) (iI st) t/\t { nx:=λ_ H'=>Q .aE H',rt:=Q } (start N vs) H):ao P w K mg base (lU P w) (k+1) f fd ps sp:=by
 refine dZ F.ex λoc od kV doc pm aa=>jm aa λan aD ct gQ aa bg=>?_;subst aa;exact oA bg λlk ib=>ua lk ib S len λA outer s H vs Q E hr ji=>sC aD A outer s H vs Q E hr ac7 fj.leaving ji
end
end L2
namespace L2
open PySem PySem.Spec PyProof.Rows L3
open Sem (wp)
def wK(h:Heap)(C:Addr)(oi:Option Value):Prop:=∃nm q N bs bm yY sn sub ab col dd k0 k1 k2 k3 k5 mN,h.get? C=some (excClassObj nm q C N bs bm yY sn sub ab col dd k0 k1 k2 k3 k5 "ValueError.__new__")/\h.Ns N mN/\mN "__init__" = oi/\OwnTail h Ek bm
theorem wK.keeps{h h':Heap}{C:Addr}{oi:Option Value}(x:wK h C oi)(k:∀b o,h.get? b=some o->h'.get? b=some o):wK h' C oi:=by
 exact mh x λnm q N bs bm yY sn sub ab col aa=>Hg aa λdd k0 k1 k2 k3 k5 mN hC hN hi T=>⟨nm,⟨q,N,bs,bm,yY,sn,sub,ab,col,dd,k0,k1,k2,k3,k5,mN,k _ _ hC,hN.keeps k,hi,T.keeps k⟩⟩
def El(K:W.Frag)(C:Addr):Prop:=W.excIn K C Ek "ValueError.__new__" = true
theorem El.at{K:W.Frag}{C:Addr}{h:Heap}(x:El K C)(X:K.In h):wK h C none:=by
 unfold El W.excIn at x
 split at x
 ·rename_i dd cd sl ho
  split at x
  ·rename_i C' bm k0 k1 k2 k3 n k5 hm hs
   simp only[iG,beq_iff_eq,Bool.not_eq_true']at x;refine oA x λaa BU=>oA aa λaa aL=>oA aa λaa ht=>oA aa λaa Vu=>oA aa λe1 e2=>?_;subst e1 e2;obtain⟨nm,bs,mro,ns,qn,hd,sn,sub,ab,col,del⟩:=cd;dsimp only at hm Vu aL BU;subst hm Vu
   have Fp:sl=#[k0,k1,k2,k3,some (.builtin "ValueError.__new__"),k5]:=by
    obtain⟨l⟩:=sl;exact congrArg IQ hs
   subst Fp;exact⟨nm,⟨qn,ns,bs,bm,hd,sn,sub,ab,col,dd,k0,k1,k2,k3,k5,_,X _ _ ho,.of_isNs (W.isNs_of_in X aL),W.nsMap_none_of_in X aL BU,W.tail_of_in X ht⟩⟩
  ·cases x
 ·cases x
section
variable{prog:Program}{w:World}{A:Around}{E:Value->Shared->Prop}{h:Heap}{g:Array GenState}{d:Drawn}{t:Nat}{os:OsState}{C:Addr}
abbrev newX(C t:Addr):Obj:={ cls:=.ref C,data:=.fields #[.ref t,.none,.none,.none,.bool false,.none] }
theorem ads{us:List Value}{Q:Fin->Shared->Prop}(x:wK h C none)(hz:us.length<=bN)
  (hq:∀h' t',(∀b o,h.get? b=some o->h'.get? b=some o)->h'.get? (h.objs.size+1)=some (newX C t')->Q (.done (.ret (.ref (h.objs.size+1)))) ⟨h',g,d,t,os⟩) :
  wpAny (model prog w) A (Builtin.«type.__call__» ⟨.ref C::us,[]⟩) Q E ⟨h,g,d,t,os⟩:=by
 refine mh x λnm q N bs bm yY sn sub ab col aa=>Hg aa λdd k0 k1 k2 k3 k5 mN hC hN hi T=>?_;have Fv:=PySem.F.excBase_ValueError
 repeat (first | (with_reducible refine Aa hC ?_) | (with_reducible refine wpAny_madeBy_exc hC ?_) | wp_step)
 refine codeAny_call_builtin_code (Om _ Fv.quiet) (wpAny_check_new_subU Fv rfl T hC (codeAny_exc_new_subU Fv rfl Fv T hC ?_ hz));show wpAny _ _ _ _ _ _;have kk:∀b o,h.get? b=some o->((h.push { cls:=.type "tuple",data:=.seq us.toArray }).push { cls:=.ref C,data:=.fields #[.ref h.objs.size,.none,.none,.none,.bool false,.none] }).get? b=some o:=λb o z=>bc _ (bc _ z);have c1:=kk _ _ hC;have n1:=hN.keeps kk;have T1:=T.keeps kk;have ge:((h.push { cls:=.type "tuple",data:=.seq us.toArray }).push { cls:=.ref C,data:=.fields #[.ref h.objs.size,.none,.none,.none,.bool false,.none] }).get? (h.objs.size+1)=some { cls:=.ref C,data:=.fields #[.ref h.objs.size,.none,.none,.none,.bool false,.none] }:=by heap_get
 have cc:(c8 C::bm).contains (.ref C)=true:=by simp
 unfold Aq
 repeat (first | (with_reducible refine Aa ge ?_) | (with_reducible refine wpAny_isSubtype_exc c1 ?_;rw[cc]) | wp_step)
 show wpAny _ _ (Hu (.ref C) _) _ _ _;refine wpAny_typeLookup_tail c1 n1 T1 Fv.mroIs Fv.init.lookup ?_;rw[hi];refine lD (ag (CD (Fv.init.bind _) (ag (Ap (codeAny_call_builtin Fv.init.plain Fv.initEntry (wpAny_check_init_subU Fv T1 c1 ge rfl ?_))))))
 wp_walk
 refine hq _ (h.objs.size+2) (λb o z=>?_) ?_
 ·rw[xw _ _ (qf (Ac (bq z)))];exact bc _ (kk b o z)
 ·rw[rH _ (bc _ ge) rfl];simp only[jI];rfl
theorem adt{us:List Value}{Q:Value->Shared->Prop}(x:wK h C none)(hz:us.length<=bN)
  (hq:∀h' t',(∀b o,h.get? b=some o->h'.get? b=some o)->h'.get? (h.objs.size+1)=some (newX C t')->Q (.ref (h.objs.size+1)) ⟨h',g,d,t,os⟩) :
  wpAny (model prog w) A (call (.ref C) us) Q E ⟨h,g,d,t,os⟩:=by
 refine mh (id x) λnm q N bs bm yY sn sub ab col aa=>dZ aa λdd k0 k1 k2 k3 aa=>b8 aa λk5 mN hC r=>?_;have f1:=tc_lookup;have f2:=tc_bind (.ref C);have hT:(⟨h,g,d,t,os⟩:Shared).TypeIs (.ref C) "type":=⟨_,hC,rfl⟩;refine Ap (OA ?_);show wpAny _ _ (callAny (.ref C) _) _ _ _
 repeat (any_goals (first | assumption | (with_reducible refine Aa hC ?_) | wp_step))
 exact⟨rfl,codeAny_call_builtin_at (Om _ dk) entry_typeCall (wpAny_check_type_call_sub hC (ads x hz λh' t' k q=>hq h' t' k q))⟩
end
section
variable{M:Model}{A:Around}{E:Value->Shared->Prop}{s:Shared}{env:Env}{C:Addr}
theorem aas{x:Sem Value}{Q:Flow->Shared->Prop}(hh:A.handled=none)
  (k:wpAny M A x (λv s1=>∃e oe vs a0 oi,v=.ref e/\wK s1.heap C oi/\s1.heap.get? e=some oe/\oe.cls=.ref C/\oe.data=.fields vs/\vs[0]?=some a0/\vs[1]?=some .none/\E (.ref e) s1) E s) :
  wpAny M A (raiseStmt env (some x) none) Q E s:=by
 unfold raiseStmt;refine ag (iP k (λv s1 z=>?_) λ_ _ y=>y);obtain⟨e,oe,vs,a0,oi,aa,bg,he,hc,hd,Mw⟩:=z;subst aa;refine mh bg λnm q N bs bm yY sn sub ab col aa=>Hg aa λdd k0 k1 k2 k3 k5 mN hC hN hi T=>dU Mw λh0 h1 hE=>?_;have cB:(c8 C::bm).contains (.type "BaseException")=true:=by rw[List.contains_cons,T.hasType (show Ek.contains (.type "BaseException")=true from rfl),Bool.or_true]
 obtain⟨oc,od,oda,gQ⟩:=oe;dsimp only at hc hd;subst hc hd;obtain⟨hp,g,d,tk,os⟩:=s1
 repeat (first | (with_reducible refine Aa he ?_) | (with_reducible refine Aa hC ?_) | (with_reducible refine wpAny_isSubtype_exc hC ?_;rw[cB]) | wp_step)
 rw[h1];refine aF ?_;rw[if_neg qc];exact aF (wpAny_raiseNew_none hh hE)
end
end L2
namespace L2
open PySem PySem.Spec PyProof.Rows L3
structure XC(K:PySem.W.Frag)(C:Addr):Prop where
 exc:El K C
 kp:PySem.W.keepIn K (.ref C)=true
def afw(C:Addr)(W:WX)(t:TA):TS:=λ_ σ H=>t σ H λvs H1=>vs.length<=bN/\W σ (.ref C) none H1
section
variable{X:Cx}{W:WX}{C:Addr}{x:Str}{np oz pos:Pos}{e:Expr}{es:List Expr}{t:TA}
theorem Iu(hc:X.calm=true)(hL:D9 X W)(xc:XC X.K C)(hg:Gl X x)(hm:X.mg x=some (.ref C))(ha:PA X (e::es) t)(nE:(x == ("__debug__" : Str))=false:=by decide)
  (he:cJ (e::es) X.env=(false,eval e X.env)::cJ es X.env:=by rfl) (dB:(backTo oz (cJ es X.env)).any (·.1)=false:=by rfl) :
  PS X (.Raise (some (.Call (.Name x np) (e::es) [] oz)) none pos) (afw C W t):=by
 intro p_ s σ H D I h;rw[arm_exec_Raise];refine ag (Cw (aas (C:=C) (I.ok.hd hc) (ag (iP ?_ (λv s3 z=>ag (Cw (aF z))) λ_ _ y=>y))));refine z8 (ym I hg hm ?_ nE);refine PySem.W.callWith_K (h₀:=X.base) I.ok.mod.uw xc.kp (Bz (ha oz p_ s σ H _ I h) λus s1 vs H1 I1 r zq=>oA zq λhz q=>⟨I1.cR,?_⟩) he dB;have xa:=xc.exc.at I1.cR;obtain⟨h1,g1,d1,t1,os1⟩:=s1;refine adt xa (by rw[List.nil_append,<-r.length];exact hz) λh' t' k ge=>?_;have I2:=I1.kept (t':=t1) k;refine dS _ _ _ _ (⟨_,rfl,(xa.keeps k),ge,rfl,rfl,rfl,rfl,(hL _ _ _ _ _ _ _ (tb:=none) ⟨I2,⟨⟨_,_,_,ge,rfl,rfl,rfl,rfl,rfl,λ_=>rfl⟩,λT z=>by cases z⟩,I1.iE (jL _) (I1.aL.fresh (jL _)),λT z=>by cases z⟩ q)⟩)
end
section
variable{M:Model}{A:Around}{E:Value->Shared->Prop}{s:Shared}
theorem aaF{K:PySem.W.Frag}{ea:Addr}{c cv tb:Value}{dd:Option Addr}{b:Bool}{Q:Bool->Shared->Prop}(X:K.In s.heap)(he:LK s.heap ea c dd tb)(hb:PySem.W.kitCls K c cv=some b)(hx:PySem.W.kitCls K cv (.type "BaseException")=some true)
  (hq:Q b s):wpAny M A (excMatches (.ref ea) cv) Q E s:=by
 refine dU (PySem.W.kit_cls (M:=M) X hb) λl1 l2 l3=>dU (PySem.W.kit_cls (M:=M) X hx) λ_ _ m3=>i9 he λoe vs a0 q hc _=>?_;have nt:=tc_notTuple;unfold excMatches Aq;refine ag (ag (l1.at ?_));rw[nt];refine aF ?_;rw[if_neg dg];refine ag (aF ?_);simp only[Ct,List.forIn_nil];unfold isExcClass;refine ag (ag (ag (ag (l2.at ?_))));rw[if_pos rfl];refine m3.at ?_;simp only[Bool.not_true,p9,if_false];refine aF (aF ?_);obtain⟨hp,g,d,tk,os⟩:=s;unfold typeOf;refine ag (ag (Aa q (aF ?_)));rw[hc];refine ag (ag (ag (l3.at ?_)));cases b with
 | true=>exact aF (aF (aF hq))
 | false=>exact aF (aF (aF hq))
end
abbrev Cx.body(X:Cx)(pn:List (Addr×Obj))(E:Value->Shared->Prop):Cx:={ X with pn:=pn,xe:=E }
abbrev Cx.pC(X:Cx)(ea:Addr)(pn:List (Addr×Obj)):Cx:={ X with A:=X.A.mark (some (.ref ea)),calm:=false,pn:=pn,xe:=λ_ _=>False }
section
variable{X:Cx}{p_ pl:List (Addr×Obj)}{σ:St}{H:Hp}{s:Shared}{ea:Addr}{E:Value->Shared->Prop}
theorem aew(ok:X.Ok)(pn:List (Addr×Obj))(E:Value->Shared->Prop):(X.body pn E).Ok:=
 ⟨ok.mod,ok.kind,ok.glob,ok.blt,ok.above,ok.inj,ok.has,ok.uz,ok.hd,ok.frames,ok.wx,ok.sM,ok.bs,ok.lg,ok.ug,ok.sE,ok.kY,ok.qU⟩
theorem abk{pn:List (Addr×Obj)}(ok:(X.body pn E).Ok):X.Ok:=
 ⟨ok.mod,ok.kind,ok.glob,ok.blt,ok.above,ok.inj,ok.has,ok.uz,ok.hd,ok.frames,ok.wx,ok.sM,ok.bs,ok.lg,ok.ug,ok.sE,ok.kY,ok.qU⟩
theorem acE(ok:X.Ok)(ea:Addr)(pn:List (Addr×Obj)):(X.pC ea pn).Ok:=
 ⟨ok.mod,ok.kind,ok.glob,ok.blt,ok.above,ok.inj,ok.has,ok.uz,λz=>(by cases z),ok.frames,ok.wx,ok.sM,ok.bs,ok.lg,ok.ug,ok.sE,ok.kY,ok.qU⟩
theorem Inv.body(I:Inv X p_ σ H s)(E:Value->Shared->Prop):Inv (X.body (X.pn++p_) E) [] σ H s:=
 ⟨aew I.ok _ E,I.os,I.bare,I.base,I.loc,I.cell,I.free,I.jq,λp hp=>I.pin p (by simpa using hp),I.aL,I.len⟩
theorem Inv.vH(I:Inv (X.body (X.pn++p_) E) pl σ H s):Inv X p_ σ H s:=
 ⟨abk I.ok,I.os,I.bare,I.base,I.loc,I.cell,I.free,I.jq,λp hp=>I.pin p (nH _ hp),I.aL,I.len⟩
theorem Inv.pC(I:Inv X p_ σ H s)(ea:Addr):Inv (X.pC ea (X.pn++p_)) [] σ H s:=
 ⟨acE I.ok ea _,I.os,I.bare,I.base,I.loc,I.cell,I.free,I.jq,λp hp=>I.pin p (by simpa using hp),I.aL,I.len⟩
theorem Inv.De(ok:X.Ok)(I:Inv (X.pC ea (X.pn++p_)) pl σ H s):Inv X p_ σ H s:=
 ⟨ok,I.os,I.bare,I.base,I.loc,I.cell,I.free,I.jq,λp hp=>I.pin p (nH _ hp),I.aL,I.len⟩
theorem fu.body{b:Addr}(f:fu (X.body (X.pn++p_) E) pl H b):fu X p_ H b:=
 ⟨f.1,f.2.1,f.2.2.1,f.2.2.2.1,f.2.2.2.2.1,λp hp=>f.2.2.2.2.2 p (nH _ hp)⟩
theorem SP.vH{D:Ends}{f:Flow}(h:SP (X.body (X.pn++p_) E) pl D f s):SP X p_ D f s:=by
 cases f with
 | next=>obtain⟨σ',H',I,q⟩:=h;exact⟨σ',H',I.vH,q⟩
 | brk=>obtain⟨σ',H',I,q⟩:=h;exact⟨σ',H',I.vH,q⟩
 | cont=>obtain⟨σ',H',I,q⟩:=h;exact⟨σ',H',I.vH,q⟩
 | ret u=>obtain⟨v,σ',H',I,r,q⟩:=h;exact⟨v,σ',H',I.vH,r,q⟩
theorem aby{c:Value}{dd tb:Option Addr}{Q:Unit->Shared->Prop}{E':Value->Shared->Prop}(hs:X.stack=X.env::X.outer)(hf:X.env.frame=some X.env.locals)(x:Kf X p_ σ H s ea c dd tb)
  (k:∀h' T,Inv X p_ σ H { s with heap:=h' }->BD h' ea c dd (some T)->fu X p_ H ea->fu X p_ H T->Q () { s with heap:=h' }) :
  wpAny (model X.prog X.w) X.A (noteFrame (.ref ea) X.env) (λ_ s2=>wpAny (model X.prog X.w) X.A (setFlight (.ref ea) none) Q E' s2) E' s:=by
 have I:=x.inv;have st:=I.stack;have fr:=I.ok.frames;rw[hs]at st fr;refine P9 (base:=X.base) fr st hf x.Mn λh1 T k1 k2 hT Nr=>Hh Nr λh2 k3 NJ=>?_;have Fd:∀{b:Addr} {o:Obj},s.heap.get? b=some o->b≠T:=λe z=>absurd (eB (bq e) hT) (by rw[z];exact iH _)
 have kj:∀b∈ea::tb.toList,fu X p_ H b:=λb hb=>by
  rcases bR.mp hb with z | z
  ·rw[z];exact x.fe
  ·cases tb with
   | none=>simp at z
   | some T0=>
    have z':b=T0:=by simpa using z
    rw[z'];exact x.ft T0 rfl
 have n1:∀{b:Addr},b∉ea::tb.toList->b≠ea:=λh z=>h (by rw[z];exact fJ);have n2:∀{b:Addr},b∉ea::tb.toList->tb≠some b:=λh z=>h (dJ _ (by rw[z];simp));have kk:=λb o hb hc e=>k3 b o (Fd e) (k1 b o (by rw[<-hs];exact hb) (n1 hc) (n2 hc) e)
 have ks:∀b o,b∉ea::tb.toList->s.heap.get? b=some o->∃sl,h2.get? b=some { o with slots:=sl }:=λb o hc e=>by
  exact oE (k2 b o e (n1 hc) (n2 hc)) λsl q=>⟨sl,k3 b _ (Fd e) q⟩
 have I2:Inv X p_ σ H { s with heap:=h2 }:=I.call (g':=s.gens) (d':=s.drawn) (t':=s.toks) (ch:=ea::tb.toList)
  ⟨λb o e n hb hx=>kk b o hb hx e,λb o e n hb hx=>ks b o hx e,λ_ _ _ n _=>n,λb o e hx=>let ⟨sl,q⟩:=ks b o hx e;⟨_,q⟩,λ_ _ e=>e,λ_ _ _ e=>e,λb ps e=>⟨#[],by rw[e];simp⟩⟩
  (Qh I (λb hb=>(kj b hb).1) kk) I.bare λb hb=>⟨(kj b hb).2.2.2.1,(kj b hb).2.1,(kj b hb).2.2.2.2.1,(kj b hb).2.2.2.2.2⟩
 exact k h2 T I2 NJ x.fe (I.iE hT (I.aL.fresh hT))
end
section
variable{X:Cx}{p_:List (Addr×Obj)}{σ:St}{H:Hp}{s:Shared}
end
def ahd(K:PySem.W.Frag)(cv:Value)(tb:WX->TS)(ts:TS):TS:=λD σ H=>tb (λσ' c dd H'=>PySem.W.kitCls K c cv=some true/\ts D σ' H') D σ H
section
variable{X:Cx}{body:List Stmt}{b0:Stmt}{pC:List Stmt}{x n:Str}{np pK pos:Pos}{tb:WX->TS}{ts:TS}{cv:Value}{i:Nat}
theorem aeq(hs:X.stack=X.env::X.outer)(hf:X.env.frame=some X.env.locals)(hg:Gl X x)(hm:X.mg x=some cv)(hbx:PySem.W.kitCls X.K cv (.type "BaseException")=some true)
  (hb:∀(W:WX) (pn:List (Addr×Obj)) (E:Value->Shared->Prop),D9 (X.body pn E) W->fj (model X.prog X.w) X.A X.env E->fG (X.body pn E) body (tb W))
  (hsu:∀(ea:Addr) (pn:List (Addr×Obj)),fG (X.pC ea pn) (b0::pC) ts) (nE:(x == ("__debug__" : Str))=false:=by decide) :
  PS X (.Try body [.ExceptHandler (some (.Name x np)) none (b0::pC) pK] [] [] pos) (ahd X.K cv tb ts):=by
 intro p_ s σ H D I h;have ok:=I.ok;refine wpAny_Try_except (iP (hb _ (X.pn++p_) _ ?_ fj.looking [] s σ H D (I.body _) h) (λf s1 q=>?_) λ_ _ y=>y)
 ·intro pl σ1 H1 s1 ea c dd tb1 x1 hW;refine oA hW λhk hW=>?_;have x2:Kf X p_ σ1 H1 s1 ea c dd tb1:=⟨x1.inv.vH,x1.Mn,x1.fe.body,λT z=>(x1.ft T z).body⟩;refine aby hs hf x2 λh' T I2 fl fe fT=>?_;have I3:=I2.pC ea;refine wpAny_handleBy_cons (codeAny_handlers_test (ym (X:=X.pC ea (X.pn++p_)) I3 hg hm ?_ nE)) (by intro z;cases z);refine aaF I3.cR fl.1 hk hbx (codeAny_handlers_suite (Hh (T:=T) (fl:=.none) ⟨fl.1,fl.2 T rfl⟩ λh3 k3 fl3=>?_));have I4:Inv X p_ σ1 H1 { s1 with heap:=h3 }:=Inv.turned (s:={ s1 with heap:=h' }) (h':=h3) (t':=s1.toks) (it:=T) I2 (λb o hb e=>k3 b o hb e) fT.1 fT.2.1 fT.2.2.2.1 fT.2.2.2.2.1 fT.2.2.2.2.2;refine iP (hsu ea (X.pn++p_) [] _ _ _ _ (I4.pC ea) hW) (λf s5 q=>?_) λ_ _ z=>lH z;cases f with
  | next=>obtain⟨σ',H',J,q⟩:=q;exact⟨_,_,Inv.De ok J,q⟩
  | brk=>obtain⟨σ',H',J,q⟩:=q;exact⟨_,_,Inv.De ok J,q⟩
  | cont=>obtain⟨σ',H',J,q⟩:=q;exact⟨_,_,Inv.De ok J,q⟩
  | ret u=>obtain⟨v,σ',H',J,r,q⟩:=q;exact⟨v,_,_,Inv.De ok J,r,q⟩
 ·have q':=SP.vH q;cases f with
  | next=>exact Cr q'
  | brk=>exact q'
  | cont=>exact q'
  | ret u=>exact q'
end
end L2
namespace L2
open PySem PySem.Spec PySem.W PyProof.Rows L3
end L2
namespace L2
open PySem PySem.Spec PyProof.Rows
open Sem (wp)
section
variable{X:Cx}
end
end L2
namespace HT
open PySem PySem.Spec PyProof.Rows
open Sem (wp)
section
variable{prog:Program}{w:World}{A:Around}{E:Value->Shared->Prop}{s:Shared}
end
end HT
namespace L2
open PySem PySem.Spec PyProof.Rows
section
variable{X:Cx}
end
end L2
namespace L2
open PySem PySem.Spec PyProof.Rows PySem.SeqAt
mutual
def noDict:PyData->Bool
 | .dict _=>false
 | .list xs=>tH xs
 | .tuple xs=>tH xs
 | _=>true
def tH:List PyData->Bool
 | []=>true
 | x::xs=>noDict x&&tH xs
end
mutual
theorem aaE:∀d:PyData,noDict d=true->noMix d d=true/\same d d=true
 | .none,_=>⟨rfl,rfl⟩
 | .bool b,_=>⟨rfl,by simp[same]⟩
 | .int i,_=>⟨rfl,by simp[same]⟩
 | .str x,_=>⟨rfl,by simp[same]⟩
 | .list xs,h=>by
  rw[noMix,same];exact GJ xs (by rw[noDict]at h;exact h)
 | .tuple xs,h=>by
  rw[noMix,same];exact GJ xs (by rw[noDict]at h;exact h)
 | .dict _,h=>by rw[noDict]at h;cases h
theorem GJ:∀xs:List PyData,tH xs=true->AK xs xs=true/\sameAll xs xs=true
 | [],_=>⟨by rw[AK],by rw[sameAll]⟩
 | x::xs,h=>by
  rw[tH,iG]at h;refine oA (aaE x h.1) λa b=>oA (GJ xs h.2) λc d=>?_;rw[AK,sameAll,a,b,c,d];exact⟨rfl,rfl⟩
end
mutual
theorem ZD:∀d:PyData,d.canLay0=true->noDict d=true
 | .none,_=>rfl
 | .bool b,_=>rfl
 | .int i,_=>rfl
 | .str x,_=>rfl
 | .list xs,h=>by rw[noDict];exact Gi xs (by rw[Ag]at h;exact h)
 | .tuple xs,h=>by rw[noDict];exact Gi xs (by rw[Ag]at h;exact h)
 | .dict _,h=>by rw[Ag]at h;cases h
theorem Gi:∀xs:List PyData,Ab xs=true->tH xs=true
 | [],_=>by rw[tH]
 | x::xs,h=>by
  rw[Ab,iG]at h;rw[tH,ZD x h.1,Gi xs h.2];rfl
end
theorem Hr{α:Type}{f:α->PyData}:∀{l:List α},(∀a∈l,(f a).canLay0=true)->Ab (l.map f)=true
 | [],_=>by simp[Ab]
 | a::l,h=>by
  rw[iz,Ab,h a fJ,Hr λb hb=>h b (dJ _ hb)];rfl
theorem HP{α:Type}{f:α->PyData}{k:Nat}:∀{l:List α},(∀a∈l,(f a).depth<=k)->Gr (l.map f)<=k
 | [],_=>by simp[Gr]
 | a::l,h=>by
  have h1:=h a fJ;have h2:=HP λb hb=>h b (dJ _ hb);simp only[iz,Gr];lia
theorem aao{α:Type}{f:α->PyData}{l:List α}(h1:∀a∈l,(f a).canLay0=true)(h2:∀a∈l,(f a).depth<=60):shaped (.list (l.map f))=true:=by
 have d:=HP h2;unfold shaped;rw[iG];refine⟨by simp only[Ag];exact Hr h1,decide_eq_true ?_⟩;simp only[Ha];exact wb
theorem Qr{α:Type}{K:W.Frag}{H:Hp}{F:V->α->Prop}{f:α->PyData}(h:∀v a,F v a->jR K H v (f a)):∀{vs:List V} {l:List α},Paired F vs l->kR K H vs (l.map f)
 | _,_,.nil=>.nil
 | _,_,.cons g t=>.cons (h _ _ g) (Qr h t)
def wF(h:Heap)(dx:PyData)(u:Value):Bool:=@decide (∃d as,Reads h u d as/\rZ d dx=true) (N5 _)
theorem S3{h:Heap}{dx d:PyData}{u:Value}{as:List Addr}(r:Reads h u d as):wF h dx u=rZ d dx:=by
 unfold wF;cases e:rZ d dx with
 | true=>exact @decide_eq_true _ (N5 _) ⟨d,as,r,e⟩
 | false=>
  refine @decide_eq_false _ (N5 _) ?_;rintro⟨d',as',r',e'⟩;refine oA (r.unique d' as' r') λq _=>?_;rw[q,e']at e;cases e
theorem RY{h:Heap}{dx:PyData}:∀{us:List Value} {ds:List PyData} {as:List Addr},ReadsAll h us ds as->us.any (wF h dx)=ds.any λd=>rZ d dx
 | _,_,_,.nil=>rfl
 | _,_,_,.cons r t=>by rw[tE,tE,S3 r,RY t]
theorem RL{A:Around}{s:Shared}{v:Value}{dx:PyData}{bs:List Addr}(rx:Reads s.heap v dx bs)(sx:shaped dx=true)(hu:A.in1.units+64<cLine):∀{us:List Value} {ds:List PyData} {as:List Addr},ReadsAll s.heap us ds as->(∀d∈ds,shaped d=true)->∀u∈us,EqAt A.in1 s u v (wF s.heap dx u)
 | _,_,_,.nil,_=>λu hu=>by cases hu
 | _,_,_,.cons r t,h=>λu hm=>by
  rcases bR.mp hm with rfl | hm
  ·rw[S3 r];exact W.keq_at r rx (h _ (by simp)) sx hu
  ·exact RL rx sx hu t (λd hd=>h d (dJ _ hd)) u hm
def aj9(K:W.Frag)(neg:Bool):R2:=λx y H Q=>∃p xs ds dx,y=.ref p/\aq K H p xs/\kR K H xs ds/\jR K H x dx/\shaped dx=true/\(∀d∈ds,shaped d=true)/\Q (.bl (if neg=true then !(ds.any λd=>rZ d dx) else ds.any λd=>rZ d dx)) H
section
variable{X:Cx}
theorem abi(hu:X.A.units+65<cLine):dW X (jM .NotIn) (aj9 X.K true):=by
 intro p_ s σ H x y v u Q I rx ry h;obtain⟨p,xs,ds,dx,aa,hq,hd,hx,sx,sd,q⟩:=h;subst aa;cases ry;refine aX (I.list hq) λaj r pl hz=>oE (hd.reads I r) λas q1=>oE (hx.reads I rx) λbs q2=>notIn_listAt (wF s.heap dx) pl.isList (λw hw=>RL q2 sx (by show X.A.units+1+64<cLine;exact w0) q1 sd w (by simpa using hw)) ⟨.bl _,H,I,rfl,?_⟩;rw[show aj.toArray.any (wF s.heap dx)=aj.any (wF s.heap dx) by simp,RY q1];exact q
end
theorem QP{X:Cx}(hu:X.A.units+64<cLine):dW X (jM .NotEq) (λx y H Q=>∃a b xs,x=.ref a/\y=.ref b/\H a=some (.lst xs)/\H b=some (.lst [])/\Q (.bl (!decide (xs=[]))) H):=by
 intro p_ s σ H x y v u Q I rx ry h;obtain⟨a,b,xs,rfl,rfl,ha,hb,q⟩:=h
 by_cases e:xs=[]
 ·subst e;refine JX hu p_ s σ H _ _ v u Q I rx ry ⟨.list [],.list [],.lst (aq.of ha) .nil,.lst (aq.of hb) .nil,qc,qc,by simp[noMix,AK],?_⟩;have e1:same (.list []) (.list [])=true:=by simp[same,sameAll]
  rw[if_pos rfl,e1];exact q
 ·cases rx;cases ry;obtain⟨z,aj,n,r,hl,e1⟩:=I.sD ha;obtain⟨z2,um,n2,r2,nC,e2⟩:=I.sD hb;rw[decide_eq_false e]at q;have hz:=vk.mp (by rw[<-nC];rfl);subst hz
  have hs:(aj.toArray.size != ([]:List Value).toArray.size)=true:=by
   rw[bne_iff_ne,du,<-hl];intro h0;exact e (vk.mp h0)
  show wpAny _ _ (richCompare .NotEq (.ref a) (.ref b)) _ _ s;exact richCompare_meets_room ⟨_,e1,rfl⟩ ⟨_,e2,rfl⟩ F.slot_list_ne F.entry_list_ne (F.args_list_ne_2 _ _) (list_ne_lengthsAt a b _ _ _ _ _ _ _ _ hs) ⟨e1,e2,(by intro z;cases z),⟨.bl true,H,I,rfl,q⟩⟩ om
end L2
namespace L2
open PySem PySem.Spec PySem.W PyProof.Rows L3
section
variable{X:Cx}{pz:List (Addr×Obj)}{σ:St}{H:Hp}{s:Shared}{ns:List Int}{kf:Int->Int}{l it sx f:Addr}{R:Result->Shared->Prop}
def agK(kf:Int->Int)(ns:List Int)(sx:Addr)(j:Nat)(h:Heap):Prop:=(j=0/\∃c,h.get? sx=some (seqObj "list" #[] c))\/
 (0<j/\∃nb vb tb c,h.get? sx=some (seqObj "list" #[vb,.int (kf nb) tb] c)/\RelV (.int nb) vb/\nb∈ns/\∀i n,i<j->ns[i]?=some n->kf nb<=kf n)
theorem yv{vs:List Value}(rv:Vals (ns.map V.int) vs){j:Nat}{v:Value}(e:vs[j]?=some v):∃n t,ns[j]?=some n/\v=.int n t:=by
 have hl:=rv.length;rw[aH]at hl;have hj:j<vs.length:=(dC.mp e).1;obtain⟨u,e',t,ru⟩:=rv.get (i:=j) (x:=.int ns[j]) (by simp[show j<ns.length by exact wg]);rw[e]at e';cases e';exact⟨ns[j],t,aR (by exact wg),ru⟩
theorem acX(hh:X.A.handled=none)(hl:aq X.K H l (ns.map V.int))(h0:0<ns.length)(Ng:l≠it)
  (turn:∀(n:Int) (u:Value) (pp:List (Addr×Obj)) (s:Shared),n∈ns->RelV (.int n) u->(∀p∈pz,p∈pp)->Inv X pp σ H s->wpAny (model X.prog X.w) X.A.in1 (call (.ref f) [u]) (EP X pp σ λv H'=>v=.int (kf n)/\H'=H) (λ_ _=>False) s)
  (hR:∀nb vb s',Inv X pz σ H s'->RelV (.int nb) vb->nb∈ns->(∀n∈ns,kf nb<=kf n)->R (.ok (.ret vb)) s') :
  ∀(r j:Nat) (s:Shared),ns.length-j=r->j<=ns.length->Inv X pz σ H s->fu X pz H sx->fu X pz H it->sx≠it->s.heap.IsListIter it l j->agK kf ns sx j s.heap->
   codeAny (model X.prog X.w) X.A (.builtin "min.loop" ⟨[.ref it,.ref f,.ref sx],[]⟩) R s:=by
 have Bk:(toString "min" ++ toString ".loop" : String) = "min.loop":=qc;intro r
 induction r with
 | zero=>
  intro j s hr hj I fs fi wR hit hb;have ej:j=ns.length:=li;rcases hb with ⟨z,_⟩ | ⟨_,nb,vb,tb,c,eS,rb,mb,best⟩
  ·lia
  ·obtain⟨vs,rv,pl,hz⟩:=I.list hl;have lv:=rv.length;rw[aH]at lv;have W:=As (prog:=X.prog) (w:=X.w) (A:=X.A.in1) hh it l Ng vs.toArray;refine(rS PySem.F.entry_min_loop (?_:wpAny _ _ _ _ _ s));rw[(sY PySem.F.plain_min_loop _)];show wpAny _ X.A.in1 (HU (.ref sx) >>= _) _ _ _;refine ag (oU eS rfl (?_:wpAny _ X.A.in1 (tryCatch (pyNext (.ref it)) _ >>= _) _ _ _));refine ag (Gy (W.done _ _ _ ⟨by rw[du,<-lv,<-ej];exact hit,pl.isList⟩ λh' BH xn=>?_));have k1:∀b o,b≠it->s.heap.get? b=some o->h'.get? b=some o:=λb o n e=>xn b o (by simpa using n) e;have I1:Inv X pz σ H { s with heap:=h',toks:=BH }:=I.turned k1 fi.1 fi.2.1 fi.2.2.2.1 fi.2.2.2.2.1 fi.2.2.2.2.2;have e1:=k1 sx _ wR eS;show wpAny _ X.A.in1 (CV sx (λ_=>#[]) >>= _) _ _ _;refine ag (Ad e1 rfl (ag (xU (aF ?_))));have sb:=jG h' sx (i7 λ_=>(#[]:Array Value));refine hR nb vb _ (I1.turned (h':=_) (t':=BH) (it:=sx) (λb o n e=>(sb.2 b n).trans e) fs.1 fs.2.1 fs.2.2.2.1 fs.2.2.2.2.1 fs.2.2.2.2.2) rb mb λn hn=>?_;obtain⟨i,hi,e⟩:=nJ hn;exact best i n (by exact wg) (by rw[<-e];exact aR hi)
 | succ r ih=>
  intro j s hr hj I fs fi wR hit hb;have lt:j<ns.length:=li;obtain⟨vs,rv,pl,hz⟩:=I.list hl;have lv:=rv.length;rw[aH]at lv;have W:=As (prog:=X.prog) (w:=X.w) (A:=X.A.in1) hh it l Ng vs.toArray
  have hS:∃xs c,s.heap.get? sx=some (seqObj "list" xs c)/\((j=0/\xs=#[])\/(0<j/\∃nb vb tb,xs=#[vb,.int (kf nb) tb]/\RelV (.int nb) vb/\nb∈ns/\∀i n,i<j->ns[i]?=some n->kf nb<=kf n)):=by
   rcases hb with ⟨z,c,e⟩ | ⟨z,nb,vb,tb,c,e,q⟩
   ·exact⟨_,c,e,.inl ⟨z,rfl⟩⟩
   ·exact⟨_,c,e,.inr ⟨z,nb,vb,tb,rfl,q⟩⟩
  obtain⟨xs,c,eS,hx⟩:=hS;refine(rS PySem.F.entry_min_loop (?_:wpAny _ _ _ _ _ s));rw[(sY PySem.F.plain_min_loop _)];show wpAny _ X.A.in1 (HU (.ref sx) >>= _) _ _ _;refine ag (oU eS rfl (?_:wpAny _ X.A.in1 (tryCatch (pyNext (.ref it)) _ >>= _) _ _ _));refine ag (Gy (W.item j _ _ _ (by rw[du];exact wf) ⟨hit,pl.isList⟩ λv h' BH hP akR xn=>?_));have hv:vs[j]?=some v:=by simpa using hP
  obtain⟨n,t,en,rfl⟩:=yv rv hv;have mn:=bw en;have k1:∀b o,b≠it->s.heap.get? b=some o->h'.get? b=some o:=λb o z e=>xn b o (by simpa using z) e;have I1:Inv X pz σ H { s with heap:=h',toks:=BH }:=I.turned k1 fi.1 fi.2.1 fi.2.2.2.1 fi.2.2.2.2.1 fi.2.2.2.2.2;have e1:=k1 sx _ wR eS;obtain⟨oI,hoI,xh,Nb⟩:=id akR.1
  have P1:Inv X ((pz++[(sx,seqObj "list" xs c)])++[(it,oI)]) σ H { s with heap:=h',toks:=BH }:=by
   have a:=I1.Ef fs e1 (λv z=>by cases z);refine a.Ef ⟨fi.1,fi.2.1,fi.2.2.1,fi.2.2.2.1,fi.2.2.2.2.1,λp hp=>?_⟩ hoI (λv z=>by rw[Nb]at z;cases z);rcases jH.mp hp with z | z
   ·exact fi.2.2.2.2.2 p (nH _ z)
   ·rcases jH.mp z with z | z
    ·exact fi.2.2.2.2.2 p (gx _ z)
    ·have z':p=(sx,seqObj "list" xs c):=by simpa using z
     rw[z'];exact wR
  show wpAny _ X.A.in1 (tryCatch (holding [gG n t] (call (.ref f) [gG n t])) _ >>= _) _ _ _;refine ag (Gy (lD (iP (turn n _ _ _ mn ⟨t,rfl⟩ (λp hp=>nH _ (nH _ hp)) P1) (λw s2 hw=>?_) λ_ _ z=>z.elim)));obtain⟨v2,H2,J,r2,rfl,rfl⟩:=hw;obtain⟨t2,rfl⟩:=r2;have I2:=J.tJ λp hp=>J.pin p (gx _ (nH _ (nH _ hp)));have e2:=(J.pin (sx,seqObj "list" xs c) (gx _ (nH _ (gx _ (by simp))))).1;have i2:=(J.pin (it,oI) (gx _ (gx _ (by simp)))).1
  have wr:∀(tk:Nat),(∀i m,i<j->ns[i]?=some m->kf n<=kf m)->codeAny (model X.prog X.w) X.A (.builtin "min.loop" ⟨[.ref it,.ref f,.ref sx],[]⟩) R { s2 with heap:=s2.heap.update sx (i7 λ_=>#[.int n t,.int (kf n) t2]),toks:=tk }:=λtk ajv=>by
   have sb:=jG s2.heap sx (i7 λ_=>#[gG n t,gG (kf n) t2]);have I3:Inv X pz σ H2 { s2 with heap:=s2.heap.update sx (i7 λ_=>#[.int n t,.int (kf n) t2]),toks:=tk }:=I2.turned (it:=sx) (λb o z e=>(sb.2 b z).trans e) fs.1 fs.2.1 fs.2.2.2.1 fs.2.2.2.2.1 fs.2.2.2.2.2;refine ih (j+1) _ om (by exact xf) I3 fs fi wR ⟨oI,(sb.2 it (eT wR)).trans i2,xh,Nb⟩ (.inr ⟨OY _,n,_,t2,_,Oz e2 λ_=>#[.int n t,.int (kf n) t2],⟨t,rfl⟩,mn,λi m hi em=>?_⟩)
   by_cases z:i=j
   ·subst z;rw[en]at em;cases em;exact Int.le_refl _
   ·exact ajv i m li em
  rcases hx with ⟨z,rfl⟩ | ⟨z,nb,vb,tb,rfl,rb,mb,best⟩
  ·show wpAny _ X.A.in1 (CV sx (λ_=>#[.int n t,.int (kf n) t2]) >>= _) _ _ _;refine ag (Ad e2 rfl ?_);rw[Bk];exact aF ⟨tD PySem.F.plain_min_loop _,wr s2.toks λi m hi _=>absurd hi li⟩
  ·show wpAny _ X.A.in1 (tryCatch (holding [.int n t,.int (kf n) t2] (richCompare .Lt (.int (kf n) t2) (.int (kf nb) tb) >>= _)) _ >>= _) _ _ _;refine ag (Gy (lD (ag (lt_int (?_:wpAny _ _ _ _ _ _)))));refine ag (lD (rJ (ag (xU (aF ?_)))))
   by_cases cI:kf n<kf nb
   ·simp only[cI,decide_true,if_true];refine ag (Ad e2 rfl (ag (xU ?_)));rw[Bk];refine aF ⟨tD PySem.F.plain_min_loop _,wr s2.toks λi m hi em=>?_⟩;have:=best i m hi em;lia
   ·simp only[cI,decide_false,p9,if_false];refine ag (xU ?_);rw[Bk];refine aF ⟨tD PySem.F.plain_min_loop _,ih (j+1) _ li (by exact xf) I2 fs fi wR ⟨oI,i2,xh,Nb⟩ (.inr ⟨OY _,nb,vb,tb,c,e2,rb,mb,λi m hi em=>?_⟩)⟩
    by_cases z2:i=j
    ·subst z2;rw[en]at em;cases em;lia
    ·exact best i m li em
end
section
variable{X:Cx}{p_:List (Addr×Obj)}{σ:St}{H:Hp}{s:Shared}{ns:List Int}{kf:Int->Int}{l f:Addr}
theorem acY{Q:VK}{E:Value->Shared->Prop}{pz:List (Addr×Obj)}(I:Inv X pz σ H s)(hh:X.A.handled=none)(hl:aq X.K H l (ns.map V.int))(h0:0<ns.length)
  (turn:∀(n:Int) (u:Value) (pp:List (Addr×Obj)) (s:Shared),n∈ns->RelV (.int n) u->(∀p∈pz,p∈pp)->Inv X pp σ H s->wpAny (model X.prog X.w) X.A.in1 (call (.ref f) [u]) (EP X pp σ λv H'=>v=.int (kf n)/\H'=H) (λ_ _=>False) s)
  (q:∀m∈ns,(∀n∈ns,kf m<=kf n)->Q (.int m) H):wpAny (model X.prog X.w) X.A (call (.builtin "min") [.ref l] [(lE "key",.ref f)]) (EP X pz σ Q) E s:=by
 have Bk:(toString "min" ++ toString ".loop" : String) = "min.loop":=qc;obtain⟨vs,rv,pl,hz⟩:=I.list hl
 have hll:l<s.heap.objs.size:=by
  obtain⟨o,e,_⟩:=pl.isList;exact bq e
 refine kmk_tree PySem.F.kind_min PySem.F.plain_min PySem.F.entry_min (kmk_min_key _ _) (?_:wpAny _ X.A.in1 (Ys "min" ["key","default"] 0 ⟨[],[(lE "key",.ref f)]⟩ >>= _) _ _ s);refine ag (CD (rfl:Ys "min" ["key","default"] 0 ⟨[],[(lE "key",.ref f)]⟩=pure [some (.ref f),none]) (ag (aF (ag (xB pl.isList (ag (ON ?_ (bU _))))))));rw[Bk];have z1:(s.heap.push { cls:=.type "list_iterator",data:=.fields #[.ref l,.int 0 0] }).objs.size=s.heap.objs.size+1:=jI _ _;have hI:=I.aL.fresh (aB _);have hS:H (s.heap.push { cls:=.type "list_iterator",data:=.fields #[.ref l,.int 0 0] }).objs.size=none:=I.aL.fresh (by rw[z1];exact jL _);refine aF ⟨tD PySem.F.plain_min_loop _,?_⟩;have I1:Inv X pz σ H { s with heap:=(s.heap.push { cls:=.type "list_iterator",data:=.fields #[.ref l,.int 0 0] }).push (seqObj "list" #[] 0) }:=I.kept (t':=s.toks) λb o e=>bc _ (bc _ e)
 refine acX (kf:=kf) (pz:=pz) (σ:=σ) hh hl h0 (dv hll) turn (λnb vb s' J rb mb best=>?_) (ns.length-0) 0 _ rfl (bU _) I1 (I.iE (by rw[z1];exact jL _) hS) (I.iE (aB _) hI) (by rw[z1];exact Gk _)
  ⟨_,bc _ (dM _ rfl),rfl,rfl⟩ (.inl ⟨rfl,0,dM _ rfl⟩)
 exact⟨.int nb,H,J,rb,q nb mb best⟩
def UQ(B:V->Hp->Prop):List V->Hp->Prop:=λvs H=>match vs with | [x]=>B x H | _=>False
theorem aeu{B:V->Hp->Prop}:∀{vs:List V} {H:Hp},UQ B vs H->∃x,vs=[x]/\B x H
 | [x],_,h=>⟨x,rfl,h⟩
 | [],_,h=>h.elim
 | _::_::_,_,h=>h.elim
def adQ(K:W.Frag)(P:Addr)(we:Pos)(qual:Str)(tl te:TE)(idx:List Nat)(n k:Nat):TE:=λσ H Q=>tl σ H λx H1=>∃(a:Addr) (ns:List Int) (kf:Int->Int),x=.ref a/\aq K H1 a (ns.map V.int)/\0<ns.length/\de P we qual H1/\
 ∀H2,uc P H1 H2->de P we qual H2->aq K H2 a (ns.map V.int)/\(∀m∈ns,te ((jO idx n σ).set k (some (.int m))) H2 λv H'=>v=.int (kf m)/\H'=H2)/\∀m∈ns,(∀n∈ns,kf m<=kf n)->Q (.int m) H2
theorem abg{sc:Scope}{N:List Str}{idx:List Nat}{k:Nat}{px:Str}{params:Arguments}{le body:Expr}{p pos we Vh:Pos}{c P:Addr}{tl te:TE}(hc:X.calm=true)(W0:X.A.depth+5<Cv)(hg:Gl X "min")(hm:X.mg "min" = none)(hl:PE X le tl)(S:c9 X sc N idx)
  (Ec:X.env.code=.ref c) (C:CodeHd X.base c P) (B:sH X.mg X.base) (hk:N[k]?=some px) (W8:sc.names.lookup px=some .local) (hi:idx.length<=k) (hb:∀A qual f cd s H,PE (EO X A sc N qual f cd s H) body te)
  (Bm:∀(qual:Str) (cl:List (Str×Addr)) (pm cd nG u:Value),r9 (kla_fn "<lambda>" qual params body sc cl pm cd nG) ⟨[u],[]⟩=pure [(px,u)]) (LY:defaultsOf params X.env=([],[]):=by rfl) (Nt:sc.isCoroutine=false:=by rfl) (LX:sc.isGenerator=false:=by rfl)
  (he:backTo pos (cJ [le] X.env)=(false,eval le X.env)::backTo pos (cJ [] X.env):=by rfl) (dB:(backTo pos (cJ [le] X.env)).any (·.1)=false:=by rfl) (hs:cJ [le] X.env=(false,eval le X.env)::cJ [] X.env:=by rfl) :
  PE X (.Call (.Name "min" p) [le] [⟨some "key",.Lambda params body sc we,Vh⟩] pos) (adQ X.K P we (X.env.qual ++ "<lambda>") tl te idx N.length k):=by
 intro p_ s σ H Q I h;refine z8 (vJ I hg hm (show rW "min" = some (.builtin "min") from boot_min) ?_ qc qc)
 refine callWith_kw (aV (ae (X:=X) hl af hs pos p_ s σ H (UQ λx H1=>∃(a:Addr) (ns:List Int) (kf:Int->Int),x=.ref a/\aq X.K H1 a (ns.map V.int)/\0<ns.length/\de P we (X.env.qual ++ "<lambda>") H1/\
  ∀H2,uc P H1 H2->de P we (X.env.qual ++ "<lambda>") H2->aq X.K H2 a (ns.map V.int)/\(∀m∈ns,te ((jO idx N.length σ).set k (some (.int m))) H2 λv H'=>v=.int (kf m)/\H'=H2)/\∀m∈ns,(∀n∈ns,kf m<=kf n)->Q (.int m) H2) I h) λus s1 ⟨vs,H1,I1,rv,q1⟩=>?_) he dB rfl rfl
 obtain⟨x,rfl,a,ns,kf,rfl,hL,h0,uo,hq⟩:=aeu q1;obtain⟨u,rfl,ru⟩:=vals1 rv;cases ru;refine kws_cons (ac8 I1 S Ec C B LY uo λf c' H2 pm nG s2 I2 sm Bv Xp=>kws_nil ?_);obtain⟨oO,MZ,hQ⟩:=hq H2 sm Bv;have hh:=I.ok.hd hc;refine VO (acY (kf:=kf) (f:=f) I2 hh oO h0 (λn u pp s3 hn ru hp I3=>?_) λm hm hb=>hQ m hm hb) λw s4 v H4 I4 r4 q4=>⟨v,H4,I4.CW,r4,q4⟩;refine ac9 (A:=X.A.in1) (v:=.int n) I3 S I3.ok.frames hh (by show X.A.depth<_;lia) hk W8 hi ru (I3.pin _ (gx _ (hp _ (gx _ fJ)))).1 (I3.aL c' _ Xp).1 (Bm _ _ _ _ _ _) Nt LX (hb _ _ _ _ _ _) (MZ n hn)
end
end L2
namespace L2
open PySem PySem.Spec PyProof.Rows L3
section
variable{X:Cx}{k:Nat}{f C:Addr}{fd:aQ}{ps:List Str}{sp:Sp}{dvs:List V}{ds:List Value}{W:WX}{x m:Str}{p pos apos:Pos}{e o:Expr}{es:List Expr}{ta:TE}{t:TA}{P:Program}{w:World}
end
structure uk(K:PySem.W.Frag)(x qual:Str)(st:Stmt)(f:Addr)(fd:aQ)(c:Addr):Prop where
 ex:∃(oc:Value) (od:Option Addr) (kV doc pm:Value) (an:Option Addr) (ct:Value) (gQ:Array (Option Value)),fd=PySem.W.fnOf x qual (jN st) (iI st) (aM st) .none kV doc pm an (.ref c) ct/\K.lookup f=some ⟨oc,od,.func fd,gQ⟩/\PySem.W.codeIn K (.ref c) qual=true
 kp:PySem.W.keepIn K (.ref f)=true
theorem ae6{K:PySem.W.Frag}{x qual:Str}{st:Stmt}{f c:Addr}{oc:Value}{od an:Option Addr}{gQ:Array (Option Value)}{kV doc pm ct:Value}(l:K.lookup f=some ⟨oc,od,.func (PySem.W.fnOf x qual (jN st) (iI st) (aM st) .none kV doc pm an (.ref c) ct),gQ⟩)
  (c1:PySem.W.codeIn K (.ref c) qual=true) (k:PySem.W.keepIn K (.ref f)=true):uk K x qual st f (PySem.W.fnOf x qual (jN st) (iI st) (aM st) .none kV doc pm an (.ref c) ct) c:=⟨⟨oc,od,kV,doc,pm,an,ct,gQ,rfl,l,c1⟩,k⟩
section
variable{P:Program}{w:World}{K:PySem.W.Frag}{mg:Str->Option Value}{base:Heap}
theorem uk.ok{x qual:Str}{st:Stmt}{f c:Addr}{fd:aQ}{N ps:List Str}{k:Nat}{sp:Sp}(F:uk K x qual st f fd c)(S:aZ N ps (aM st))(len:∀vs H Q E,sp vs H Q E->vs.length=ps.length)
  (sC:∀(A:Around) (outer:List Env) (s:Shared) (H:Hp) (vs:List V) (Q:VK) (E:XK),eI k (A.deeper (envOfC qual (aM st) s.heap.objs.size f (.ref c)))->sp vs H Q E->
   ∃t,fG (oj au P w K mg base N qual (aM st) f (.ref c) A outer s H E).uv (iI st) t/\t { nx:=λ_ H'=>Q .aE H',rt:=Q } (start N vs) H):ao P w K mg base au (k+1) f fd ps sp:=by
 refine dZ F.ex λoc od kV doc pm aa=>i9 aa λan ct gQ aa lk ib=>?_;subst aa;exact ua lk ib S len λA outer s H vs Q E hr ji=>ay (sC A outer s H vs Q E hr ji) λt h q=>az t h.uv q
theorem uk.fun{x qual:Str}{st:Stmt}{f c:Addr}{fd:aQ}(F:uk K x qual st f fd c):aP K x qual st f fd:=by
 exact dZ F.ex λoc od kV doc pm aa=>i9 aa λan ct gQ e lk ib=>⟨⟨oc,od,kV,doc,pm,an,_,ct,gQ,e,lk,ib⟩,F.kp⟩
end
end L2
namespace L2
open PySem PySem.Spec PySem.W PyProof.Rows
theorem OR{ps:List (Int×V)}{zs:List V}(h:DR (ps.map (·.2)) (λi=>(ps.map (·.1)).getD i 0) zs):∃qs:List (Int×V),qs.Perm ps/\qs.Pairwise (λa b=>a.1<b.1)/\zs=qs.map (·.2):=by
 obtain⟨p,g,ri,rfl⟩:=h;rw[aH]at g ri;have hlen:=Qe g;have gp:=Yw.mp g
 have er:(List.range ps.length).map (λi=>ps.getD i (0,.aE))=ps:=by
  apply Ov
  ·simp
  ·intro i h1 h2;simp[h2]
 refine⟨p.toList.map λi=>ps.getD i (0,.aE),?_,?_,?_⟩
 ·have:=gp.map λi=>ps.getD i (0,.aE);simp only[Og]at this;rw[er]at this;exact this
 ·rw[ko];intro i j hi hj nD;rw[aH]at hi hj;have:=ri i j nD wf;unfold rk at this;have jB:=g.size;simp only[List.getElem_map,Oe];have e:∀k (hk:k<p.size),p.getD k 0=p[k]:=λk hk=>by simp[x9,hk]
  rw[e i om,e j om]at this;have e2:∀k,k<ps.length->(ps.map (·.1)).getD k 0=(ps.getD k (0,.aE)).1:=λk hk=>by simp[hk]
  have lt:∀k (hk:k<p.size),p[k]<ps.length:=λk hk=>by
   have:=g.lt (k:=k) wf;rw[e k hk]at this;exact this
  dsimp only at this;rw[e2 _ (lt i om),e2 _ (lt j om)]at this;exact this
 ·rw[lF];refine YU λi hi=>?_
  have hl:i<ps.length:=by
   have:=gp.mem_iff.mp hi;simpa using this
  simp[hl]
section
variable{X:Cx}
theorem aaf(M:Model)(h:Heap)(i:Int)(t:Tok):Looks M h (typeOf (.int i t)) (.type "int"):=Looks.of_pure rfl
end
def lV(xs:Array Nat):Prop:=xs.toList.Pairwise (· < ·)
theorem DQ{xs:Array Nat}(h:lV xs){i k:Nat}(Xg:i<k)(hk:k<xs.size):xs[i]<xs[k]:=by
 have:=ko.mp h i k (by simpa using Hc Xg hk) (by simpa using hk) Xg;simpa using this
theorem IP{xs:Array Nat}(h:lV xs)(j:Nat):∀f lo hi,lo<=hi->hi<=xs.size->hi-lo<=f->(∀i (_:i<xs.size),i<lo->xs[i]<j)->(∀i (_:i<xs.size),hi<=i->j<=xs[i])->
  Gh xs j f lo hi<=xs.size/\(∀i (_:i<xs.size),i<Gh xs j f lo hi->xs[i]<j)/\∀i (_:i<xs.size),Gh xs j f lo hi<=i->j<=xs[i]
 | 0,lo,hi,h1,h2,h3,a,b=>by
  have:lo=hi:=li;subst this;exact gu h2 a b
 | f+1,lo,hi,h1,h2,h3,a,b=>by
  unfold Gh
  by_cases cI:lo<hi
  ·rw[if_pos cI];have hm:(lo+hi)/2<hi:=li;have uQ:lo<=(lo+hi)/2:=li;have uO:=wh;have eg:xs.getD ((lo+hi)/2) j=xs[(lo+hi)/2]:=by simp[x9,uO]
   dsimp only;rw[eg]
   by_cases hb:xs[(lo+hi)/2]<j
   ·rw[if_pos hb];refine IP h j f _ _ xf h2 om (λi pZ hl=>?_) b
    by_cases z:i=(lo+hi)/2
    ·subst z;exact hb
    ·exact Hc (DQ h li uO) hb
   ·rw[if_neg hb];refine IP h j f _ _ uQ w3 om a λi pZ hl=>?_
    by_cases z:i=(lo+hi)/2
    ·subst z;omega
    ·have:=DQ h (i:=(lo+hi)/2) (k:=i) li pZ;omega
  ·rw[if_neg cI];have:lo=hi:=li;subst this;exact gu h2 a b
theorem Hs{xs:Array Nat}(h:lV xs)(j:Nat):fh xs j<=xs.size/\(∀i (_:i<xs.size),i<fh xs j->xs[i]<j)/\∀i (_:i<xs.size),fh xs j<=i->j<=xs[i]:=
 IP h j xs.size 0 xs.size (bU _) (aB _) (aB _) (λ_ _ z=>absurd z (Af _)) λi hi z=>absurd hi (Nat.not_lt.mpr z)
theorem PH{xs:Array Nat}(h:lV xs){i:Nat}(hi:i<xs.size):fh xs (xs[i]+1)=i+1:=by
 refine dU (Hs h (xs[i]+1)) λh1 h2 h3=>?_;rcases xC (fh xs (xs[i]+1)) (i+1)with z | z | z
 ·have:=h3 i hi li;lia
 ·exact z
 ·have hs:=wh;have a:=h2 (i+1) hs z;have b:=DQ h (i:=i) (k:=i+1) w1 hs;omega
theorem PF{xs:Array Nat}(h:lV xs):fh xs 0=0:=by
 refine dU (Hs h 0) λh1 h2 h3=>?_;rcases Nat.eq_zero_or_pos (fh xs 0)with z | z
 ·exact z
 ·have:=h2 0 wh z;lia
theorem aaO{xs:Array Nat}{j:Nat}(h:lV xs)(hn:xs[fh xs j]? ≠ some j):lV (bj.insertAt xs (fh xs j) j):=by
 refine dU (Hs h j) λh1 h2 h3=>?_;unfold lV;rw[bj.toList_insertAt]
 have ht:∀x∈xs.toList.take (fh xs j),x<j:=λx hx=>by
  refine oE (nJ hx) λi aa=>oE aa λhi e=>?_;rw[gz,kr]at hi;rw[List.getElem_take,Oe]at e;rw[<-e];exact h2 i li li
 have hd:∀x∈xs.toList.drop (fh xs j),j<x:=λx hx=>by
  refine oE (nJ hx) λi aa=>oE aa λhi e=>?_;rw[Ou,kr]at hi;rw[List.getElem_drop,Oe]at e;have cI:fh xs j+i<xs.size:=om;have a:=h3 (fh xs j+i) cI li;rw[<-e];rcases Nat.lt_or_ge j xs[fh xs j+i]with z | z
  ·exact z
  ·exfalso;have eq:xs[fh xs j+i]=j:=li
   by_cases i0:i=0
   ·subst i0;exact hn (by rw[YA om];exact congrArg some eq)
   ·have b:=h3 (fh xs j) li (aB _);have c:=DQ h (i:=fh xs j) (k:=fh xs j+i) li cI;omega
 refine YN.mpr (gu (h.sublist (Zc _ _)) (Ol.mpr ⟨hd,h.sublist (List.drop_sublist _ _)⟩) λx hx y hy=>?_);rcases bR.mp hy with z | z
 ·rw[z];exact ht x hx
 ·exact Hc (ht x hx) (hd y z)
structure lM(led:Bool)(t:bj):Prop where
 Mo:t.dummies=#[]
 led:t.led=led
 asc:t.plain=true->lV t.place
theorem aa3(led:Bool):lM led (.fresh 0 0 led):=⟨rfl,rfl,λ_=>.nil⟩
theorem CA{led:Bool}{t:bj}(h:lM led t)(n:Nat):lM led (t.standIn n):=⟨rfl,h.led,λz=>by cases z⟩
theorem afv{led:Bool}{t:bj}(h:lM led t)(n:Nat):lM led (t.orStandIn n):=by
 unfold bj.orStandIn
 split
 ·exact h
 ·exact CA h n
theorem has_none(j:Nat):OX #[] j=false:=by simp[OX]
theorem Pf{t:bj}{hash:Nat->Int}{h:Int}(hd:t.dummies=#[])(dX:∀i,(hash i == h)=false):∀f (p:bj.Probe) j d,p.dummy=none->Y' t hash h f p=some (.empty j d)->d=none/\t.slot j=.empty
 | 0,p,j,d,_,e=>by cases e
 | f+1,p,j,d,hp,e=>by
  unfold Y' at e;cases q:t.slot p.j with
  | empty=>
   rw[q]at e;simp only[vo,amg]at e;refine oA e λaa bg=>?_;clear e;subst aa;subst bg;exact⟨hp,q⟩
  | dummy=>
   exfalso;unfold ZK at q;rw[hd,has_none]at q;dsimp only at q
   split at q
   ·cases q
   ·simp at q
  | live i=>
   rw[q]at e;simp only[dX i,p9,if_false]at e;refine Pf hd dX f _ j d ?_ e;unfold bj.advance
   split
   ·exact hp
   ·exact hp
theorem adO{led:Bool}{t:bj}{j:Nat}(h:lM led t)(hs:t.slot j=.empty):lM led (t.put j).1:=by
 refine⟨?_,h.led,λz=>?_⟩
 ·show (if OX t.dummies j then _ else t.dummies)=#[];rw[h.Mo,has_none];rfl
 ·refine aaO (h.asc z) λe=>?_;unfold ZK at hs;dsimp only at hs;rw[if_pos (by rw[e];simp)]at hs;cases hs
theorem aak{led:Bool}{t:bj}(ht:lM led t)(es:Array (Int×Value))(h:Int)(x:Value):lM led (layNew t es h x).2.1:=by
 unfold layNew
 split
 ·rename_i slot wd e
  refine afv ?_ _;unfold bj.freeSlot at e
  split at e
  ·rename_i j d q
   obtain⟨hd,hs⟩:=Pf ht.Mo (λi=>by simp;lia) _ _ _ _ rfl q;subst hd;simp only[Option.getD_none,Option.isSome_none,vo,GU]at e;refine oA e λaa _=>?_;clear e;subst aa;exact adO ht hs
  ·cases e
 ·exact CA ht _
theorem adC{mask:Nat}(g:Nat->Option Nat):lV ((((List.range (mask+1)).filterMap λj=>(g j).map (j,·)).map (·.1)).toArray):=by
 unfold lV;rw[Og,List.map_filterMap];refine List.Pairwise.filterMap (R:=(· < ·)) _ (λa b hab x hx y hy=>?_) List.pairwise_lt_range;cases ga:g a with
 | none=>rw[ga]at hx;simp at hx
 | some u=>
  cases gb:g b with
  | none=>rw[gb]at hy;simp at hy
  | some v=>
   rw[ga]at hx;rw[gb]at hy;simp at hx hy;lia
theorem aa2{led:Bool}{t:bj}(ht:lM led t)(es:Array (Int×Value))(wanted:Nat):lM led (AJ t es wanted).2.1:=by
 unfold AJ
 split
 ·rename_i t' order e
  dsimp only
  split
  ·unfold bj.relaid bj.laid at e;cases o:bj.layClean (bj.sizeAbove wanted-1) (es.map (·.1))with
   | none=>rw[o]at e;cases e
   | some owner=>
    rw[o]at e;simp only[Option.bind_eq_bind,Option.bind_some,Option.pure_def,vo,GU]at e;refine oA e λaa _=>?_;clear e;subst aa;exact⟨rfl,ht.led,λ_=>adC _⟩
  ·exact CA ht _
 ·exact CA ht _
def lS(w:World):Bool:=w.params.followText "set-order"
def m9(P:Program)(w:World)(e:Int×Value)(k:Int):Prop:=e.1=(intKind P w).hash k/\∃t,e.2=.int k t
def jv(P:Program)(w:World)(h:Heap)(a:Addr)(ns:List Int):Prop:=
 ∃o es ep t ks,h.get? a=some o/\o.ExactSet/\o.data=.set es ep t/\Paired (m9 P w) es.toList ks/\gY ks ns/\ns.Nodup/\t.fits es.size=true/\lM (!lS w) t
theorem xI{α β:Type}{F:α->β->Prop}:∀{l:List α} {r:List β},Paired F l r->l.length=r.length
 | _,_,.nil=>rfl
 | _,_,.cons _ t=>by simp[xI t]
section
variable{P:Program}{w:World}{A:Around}{E:Value->Shared->Prop}{s:Shared}{a:Addr}{ns:List Int}
theorem Q9:∀{l:List (Int×Value)} {ks:List Int},Paired (m9 P w) l ks->ElemsOf (intKind P w) l
 | _,_,.nil=>λe he=>nomatch he
 | _,_,.cons ⟨h1,t,h2⟩ r=>λe he=>by
  rcases bR.mp he with z | z
  ·rw[z];exact⟨⟨_,by rw[h2];exact Hv _ _ _ _,h1⟩,by rw[h2];rfl⟩
  ·exact Q9 r e z
theorem aie{k k':Int}{v:Value}{t:Tok}(e:v=.int k' t):(intKind P w).is k v=decide (k=k'):=by
 rw[e];exact KeyKind.is_eq_decide (Hv _ _ _ _) k
theorem QK{k:Int}:∀{l:List (Int×Value)} {ks:List Int},Paired (m9 P w) l ks->((l.findIdx? λe=>(intKind P w).is k e.2).isSome=true↔k∈ks)
 | _,_,.nil=>by simp
 | _,_,.cons (a:=e) (b:=k') ⟨h1,t,h2⟩ r=>by
  have ih:=QK (k:=k) r;rw[List.findIdx?_cons,aie h2]
  by_cases z:k=k'
  ·subst z;simp
  ·rw[decide_eq_false z,if_neg dg,Option.isSome_map,ih,bR];exact⟨.inr,λh=>h.resolve_left z⟩
theorem He{l l':List (Int×Value)}{ks:List Int}(p:gY l' l)(h:Paired (m9 P w) l ks):∃MQ,gY MQ ks/\Paired (m9 P w) l' MQ:=by
 induction p generalizing ks with
 | nil=>cases h;exact⟨[],.nil,.nil⟩
 | cons x _ ih=>
  cases h with
  | cons hx r=>
   exact ay (ih r) λMQ q r'=>az _ (q.cons _) (.cons hx r')
 | swap x y l=>
  cases h with
  | cons hx r=>
   cases r with
   | cons hy r=>exact⟨_,.swap _ _ _,.cons hy (.cons hx r)⟩
 | trans _ _ ih1 ih2=>
  exact ay (ih2 h) λk2 q2 r2=>ay (ih1 r2) λk1 q1 r1=>az k1 (q1.trans q2) r1
theorem Ph{x:Int×Value}{k:Int}(hx:m9 P w x k):∀{l:List (Int×Value)} {ks:List Int},Paired (m9 P w) l ks->Paired (m9 P w) (l++[x]) (ks++[k])
 | _,_,.nil=>.cons hx .nil
 | _,_,.cons h t=>.cons h (Ph hx t)
theorem Pe{o:Obj}{es km:Array (Int×Value)}{ep:Nat}{t t':bj}{ks:List Int}(q:s.heap.get? a=some o)(x:o.ExactSet)(d:o.data=.set es ep t)(r:Paired (m9 P w) km.toList ks)(p:gY ks ns)(nd:ns.Nodup)(f:t'.fits km.size=true)(tb:lM (!lS w) t') :
  (s.heap.update a (Au km t')).get? a=some { o with data:=.set km (ep+1) t' }/\jv P w (s.heap.update a (Au km t')) a ns:=by
 have g:(s.heap.update a (Au km t')).get? a=some { o with data:=.set km (ep+1) t' }:=by
  have z:=rH (Au km t') q (by rw[putSet_of km t' d];rfl);rw[putSet_of km t' d]at z;exact z
 exact⟨g,⟨_,km,ep+1,t',ks,g,x,rfl,r,p,nd,f,tb⟩⟩
theorem PZ{g:Bool->Sem Unit}(hg:∀(b:Bool) (s1:Shared) (Q':Unit->Shared->Prop),Q' () s1->wpAny (model P w) A (g b) Q' E s1){o:Obj}{es ic:Array (Int×Value)}{ep:Nat}{t t2:bj}{ks:List Int}{wd:Bool}{R:Option Bool->Shared->Prop}
  (q:s.heap.get? a=some o) (x:o.ExactSet) (d:o.data=.set es ep t) (r:Paired (m9 P w) ic.toList ks) (p:gY ks ns) (nd:ns.Nodup) (lb:ic.size<AA) (f:t2.fits ic.size=true) (tb:lM (!lS w) t2)
  (k:∀h',gA a s.heap h'->jv P w h' a ns->R (some true) { s with heap:=h' }) :
  wpAny (model P w) A (do storeSet a ic t2;if (!wd&&t2.tooFull)=true then (do g (AJ t2 ic (xJ ic.size)).2.2;storeSet a (AJ t2 ic (xJ ic.size)).1 (AJ t2 ic (xJ ic.size)).2.1;pure (some true)) else pure (some true)) R E s:=by
 refine oA (Pe (s:=s) q x d r p nd f tb) λq1 S1=>?_;have b1:=jG s.heap a (Au ic t2);refine ag (wpAny_storeSet_of q d ?_ (fits_of_scanBound lb))
 split
 ·have rp:=relayAll_perm t2 ic (xJ ic.size);have rf:=relayAll_fits t2 ic (xJ ic.size);have rt:=aa2 tb ic (xJ ic.size);generalize AJ t2 ic (xJ ic.size)=Y at rp rf rt ⊢;obtain⟨es2,t3,gv⟩:=Y;dsimp only at rp rf rt ⊢;refine ay (He rp r) λks2 p2 r2=>?_;have zz:es2.size=ic.size:=by rw[<-kr,rp.length_eq,kr]
  refine ag (hg _ _ _ (ag (wpAny_storeSet_of q1 rfl ?_ (fits_of_scanBound (by rw[zz];exact lb)))));exact oA (Pe (s:={ s with heap:=s.heap.update a (Au ic t2) }) q1 x rfl r2 (p2.trans p) nd rf rt) λ_ S2=>aF (k _ (b1.trans (jG _ a _)) S2)
 ·exact aF (k _ b1 S1)
def oq(k:Int)(ns:List Int):List Int:=if k∈ns then ns else ns++[k]
theorem ack{k:Int}{tk:Tok}{Q:Bool->Shared->Prop}(S:jv P w s.heap a ns)(lb:ns.length+1<AA)(h:∀b h',gA a s.heap h'->jv P w h' a (oq k ns)->Q b { s with heap:=h' }) :
  wpAny (model P w) A (setAddHashed a (.int k tk) ((intKind P w).hash k)) Q E s:=by
 refine xT S λo es ep t ks q x d r p aa=>dU aa λnd f tb=>?_;have el:=Q9 r;have hz:es.size=ns.length:=by rw[<-kr,xI r,p.length_eq]
 have kk:(intKind P w).is k (.int k tk)=true:=Hv _ _ _ _;unfold setAddHashed setAddHashedIn;refine(lD (ag (z9 q d f ?_)));dsimp only;rw[byScan_of (knd:=intKind P w) (x:=.int k tk) rfl li el];simp only[↓reduceIte];unfold setAddByScan;refine ag (ag (xZ (ag (wpAny_setScan_of kk q d f el ?_))));have sm:=QK (k:=k) r;cases sc:List.findIdx? (λe=>(intKind P w).is k e.2) es.toList with
 | some j=>
  dsimp only;have mem:=p.mem_iff.mp (sm.mp (by rw[sc];rfl));refine aF (aF ?_);have e:oq k ns=ns:=if_pos mem;exact h false s.heap (gA.refl a s.heap) (by rw[e];exact⟨o,es,ep,t,ks,q,x,d,r,p,nd,f,tb⟩)
 | none=>
  dsimp only
  have nm:k∉ns:=λz=>by
   have:=sm.mpr (p.mem_iff.mpr z);rw[sc]at this;cases this
  have e:oq k ns=ns++[k]:=if_neg nm;have gw:∀(b:Bool) {s1:Shared} {Q':Unit->Shared->Prop},Q' () s1->wpAny (model P w) A (match b with | true=>rule "set.scan.the-table-gave-way" | false=>pure ()) Q' E s1:=λb s1 Q' z=>by cases b <;> first | exact aF z | exact xZ z
  have lp:=layNew_perm t es ((intKind P w).hash k) (.int k tk);have lf:=layNew_fits t es ((intKind P w).hash k) (.int k tk);have lt:=aak tb es ((intKind P w).hash k) (.int k tk);generalize layNew t es ((intKind P w).hash k) (.int k tk)=Y at lp lf lt ⊢;obtain⟨ic,t1,wd,gv⟩:=Y;dsimp only at lp lf lt ⊢;rw[Array.toList_push]at lp;refine ay (He lp (Ph (x:=((intKind P w).hash k,.int k tk)) (k:=k) ⟨rfl,tk,rfl⟩ r)) λks1 p1 r1=>?_;have pp:gY ks1 (oq k ns):=by rw[e];exact p1.trans (p.append_right _)
  have nn:(oq k ns).Nodup:=by
   rw[e];refine Zd.mpr (gu nd (by simp) λy hy z hz=>?_);rw[eN.mp hz];intro ez;exact nm (ez ▸ hy)
  have WB:ic.size<AA:=by
   rw[<-kr,lp.length_eq,fQ,kr,hz];exact lb
  have fin:=λh'=>h true h';refine ag (gw _ ?_);have Wm:∀(b:Bool) (s1:Shared) (Q':Unit->Shared->Prop),Q' () s1->wpAny (model P w) A (match b with | true=>rule "set.scan.the-table-gave-way" | false=>pure ()) Q' E s1:=λb s1 Q' z=>gw b z
  split
  ·refine ag ?_;rw[hashByValue_scannable 8 (x:=.int k tk) rfl];refine aF (PZ Wm q x d r1 pp nn WB ?_ ?_ λh' sb S'=>?_)
   ·split
    ·exact lf
    ·exact bj.fits_plain_off lf
   ·split
    ·exact lt
    ·exact⟨lt.Mo,lt.led,λz=>by cases z⟩
   ·dsimp only;exact aF (fin h' sb S')
  ·refine ag (aF ?_);simp only[↓reduceIte];refine PZ Wm q x d r1 pp nn WB lf lt λh' sb S'=>?_;dsimp only;exact aF (fin h' sb S')
end
theorem jv.keep{P:Program}{w:World}{h h':Heap}{a:Addr}{ns:List Int}(S:jv P w h a ns)(k:∀o,h.get? a=some o->h'.get? a=some o):jv P w h' a ns:=
 let ⟨o,es,ep,t,ks,q,r⟩:=S;⟨o,es,ep,t,ks,k o q,r⟩
def qE(ns:List Int):List Int:=ns.foldl (λacc k=>oq k acc) []
def pE(val:Nat->Int)(i:Nat):List Int:=qE ((List.range i).map val)
theorem Pk(val:Nat->Int)(i:Nat):pE val (i+1)=oq (val i) (pE val i):=by
 unfold pE qE;rw[oS,gf,List.foldl_append];rfl
theorem adE(k:Int)(ns:List Int):(oq k ns).length<=ns.length+1:=by
 unfold oq
 split
 ·exact jL _
 ·rw[fQ,YK];exact aB _
theorem HE(val:Nat->Int):∀i,(pE val i).length<=i
 | 0=>aB _
 | i+1=>by
  rw[Pk];have:=adE (val i) (pE val i);have:=HE val i;lia
theorem adD{k x:Int}{ns:List Int}:x∈oq k ns↔x=k\/x∈ns:=by
 unfold oq
 split
 ·rename_i h
  exact⟨.inr,λz=>z.elim (λe=>e ▸ h) id⟩
 ·simp[or_comm]
theorem Qk{x:Int}:∀{l acc:List Int},x∈l.foldl (λacc k=>oq k acc) acc↔x∈l\/x∈acc
 | [],acc=>by simp
 | k::l,acc=>by
  rw[List.foldl_cons,Qk,adD,bR];constructor
  ·rintro(h | h | h)
   ·exact .inl (.inr h)
   ·exact .inl (.inl h)
   ·exact .inr h
  ·rintro((h | h) | h)
   ·exact .inr (.inl h)
   ·exact .inl h
   ·exact .inr (.inr h)
theorem acB{x:Int}{ns:List Int}:x∈qE ns↔x∈ns:=by
 unfold qE;rw[Qk];simp
section
variable{P:Program}{w:World}{A:Around}{E:Value->Shared->Prop}{s:Shared}
theorem acg{I S:Addr}{fp wr:List Addr}{n:Nat}{Pv:Nat->Value->Prop}{St:Nat->Heap->Prop}{R:Result->Shared->Prop}(W:Walks P w A.in1 I fp wr n Pv St)(FL:S∉fp)(val:Nat->Int)(yU:∀i v,Pv i v->∃t,v=.int (val i) t)(hb:n+1<AA) :
  ∀(k i:Nat) (s:Shared),n-i=k->i<=n->St i s.heap->jv P w s.heap S (pE val i)->
   (∀h' tk,(∀b o,b∉S::wr->s.heap.get? b=some o->h'.get? b=some o)->jv P w h' S (pE val n)->R (.ok (.ret .none)) { s with heap:=h',toks:=tk })->
   codeAny (model P w) A (.builtin "set.update.loop" ⟨[.ref S,.ref I],[]⟩) R s:=by
 have Xs:S∉wr:=λh=>FL (W.sub _ h);intro k
 induction k with
 | zero=>
  intro i s hk hi st hS hR;have ei:i=n:=li;subst ei;refine(rS YG (?_:wpAny _ _ _ _ _ s));rw[(sY N2 _)];show wpAny _ A.in1 (pyNext (.ref I) >>= _) _ _ s;refine ag (W.done s _ _ st λh' tk kk=>(?_:wpAny _ A.in1 (ret eK) _ _ _));exact aF (hR h' tk (λb o hb e=>kk b o (λz=>hb (dJ _ z)) e) (hS.keep λo e=>kk _ _ Xs e))
 | succ k ih=>
  intro i s hk hi st hS hR;refine(rS YG (?_:wpAny _ _ _ _ _ s));rw[(sY N2 _)];show wpAny _ A.in1 (pyNext (.ref I) >>= _) _ _ s;refine ag (W.item i s _ _ om st λv h' tk hP qZ kk=>oE (yU i v hP) λt aa=>?_);subst aa;have hS1:=hS.keep (h':=h') λo e=>kk _ _ Xs e;refine(ag (lD (?_:wpAny _ A.in1 (setAdd S (.int (val i) t)) _ _ { s with heap:=h',toks:=tk })));unfold setAdd;refine lD (ag ((intKind P w).pyHash (k:=val i) (Hv _ _ _ _) ?_));have hl:=HE val i;refine ack (s:={ s with heap:=h',toks:=tk+1 }) hS1 li λb h2 sb hS2=>?_;have so:∀b,b≠S->h2.get? b=h'.get? b:=λb z=>sb.2 b z;refine aF ⟨tD N2 _,ih (i+1) { s with heap:=h2,toks:=tk+1 } om li (W.frame _ _ _ qZ λb hb o e=>?_) (by rw[Pk];exact hS2) λh3 tk3 k3 hS3=>?_⟩
  ·rw[so b λz=>FL (z ▸ hb)];exact e
  ·refine hR h3 tk3 (λb o hb e=>k3 b o hb ?_) hS3;rw[so b λz=>hb (z ▸ fJ)];exact kk b o (λz=>hb (dJ _ z)) e
abbrev ph(w:World):Obj:={ cls:=.type "set",dict:=none,data:=.set #[] 0 (.fresh 0 0 (!lS w)) }
theorem acj{h:Heap}{a:Addr}(e:h.get? a=some (ph w)):jv P w h a []:=⟨_,#[],0,_,[],e,⟨rfl,rfl,rfl⟩,rfl,.nil,.nil,.nil,rfl,aa3 _⟩
theorem ad2(x:Value){Q:Value->Shared->Prop}(h:Q (.ref s.heap.objs.size) { s with heap:=s.heap.push (ph w) }):codeAny (model P w) A (.call (.builtin "set.__new__") ⟨[.type "set",x],[]⟩) (wants Q E) s:=by
 refine OA (?_:wpAny _ A.in1 (do checkBuiltinCall "set.__new__" ⟨[.type "set",x],[]⟩;again (.builtin "set.__new__" ⟨[.type "set",x],[]⟩)) _ _ s);refine ag (CD (F.newCall_set_1 x) (aF ⟨tD F.plain_set_new _,(rS F.entry_set_new (?_:wpAny _ _ _ _ _ s))⟩));rw[(sY F.plain_set_new _)];unfold Builtin.«set.__new__» Builtin.Frozenset.newClass;have Bw:=sub_set_self;obtain⟨hp,g,d,tk,os⟩:=s;dsimp only
 wp_walk
 refine Ot (aF ?_);dsimp only;simp only[newObj];exact ag (wpAny_alloc (aF (aF h)))
set_option maxHeartbeats 6000000 in
theorem aci{l:Addr}{items:Array Value}{ns:List Int}{Q:Value->Shared->Prop}(hh:A.handled=none)(hl:s.heap.IsList l items)(hi:IntsAre items.toList ns)(hb:items.size+1<AA)
  (h:∀(h':Heap) (tk:Nat),jv P w h' s.heap.objs.size (pE (λi=>ns.getD i 0) items.size)->(∀b o,s.heap.get? b=some o->h'.get? b=some o)->Q (.ref s.heap.objs.size) { s with heap:=h',toks:=tk }) :
  wpAny (model P w) A (call (.type "set") [.ref l]) Q E s:=by
 refine wz vq.mro λc tl amL=>?_;have amq:=vq.made;have Bw:=vq.sub;refine Ap (OA (?_:wpAny _ _ (callAny (.type "set") _) _ _ _));refine aF ⟨Om _ dk,(rS F.entry_type_call (?_:wpAny _ _ _ _ _ s))⟩;rw[Around.under_plain (weight_type_call_type "set" [.ref l] []) rfl];have h1:=vq.notType;have h2:=vq.canCreate;have Xl:=F.typeCall_set_1 (.ref l)
 repeat (any_goals (first | assumption | wp_step))
 refine xR (ad2 (.ref l) (E:=E) (Q:=λobj s₁=>obj=.ref s.heap.objs.size/\s₁={ s with heap:=s.heap.push (ph w) }) ⟨rfl,rfl⟩) λr s₁ hr=>?_;cases r with
 | error e=>exact hr
 | ok fl=>
  cases fl with
  | ret obj=>
   refine oA hr λaa bg=>?_;clear hr;subst aa;subst bg;have hS:(s.heap.push (ph w)).get? s.heap.objs.size=some (ph w):=dM _ rfl;have hT:OO { s with heap:=s.heap.push (ph w) } (.ref s.heap.objs.size) "set":=⟨_,hS,rfl⟩;have Ng:=vq.init.lookup;have hbi:=vq.init.bind (.ref s.heap.objs.size)
   repeat (any_goals (first | assumption | wp_step))
   refine xR (codeAny_call_builtin (R:=wants (λr s₂=>r=.none/\∃h' tk,s₂={ s with heap:=h',toks:=tk }/\jv P w h' s.heap.objs.size (pE (λi=>ns.getD i 0) items.size)/\(∀b o,s.heap.get? b=some o->h'.get? b=some o)) E) vq.init.plain F.entry_set_init (check_set_init_1 hT ?_)) λr₂ s₂ Fq=>?_
   ·refine aX hl λol Na hZ aa=>oE aa λnl Xk=>?_;obtain⟨amE,ajm,amn,agZ⟩:=ol;simp only at hZ Xk;subst hZ;subst Xk;have akY:(s.heap.push (ph w)).get? l=some { cls:=.type "list",dict:=ajm,data:=.seq items nl,slots:=agZ }:=bc _ Na;have amI:=F.sub_list_set;have amJ:=F.sub_list_frozenset;have dX:(iA "list" == iA "dict")=false:=qc;have uV:(s.heap.push (ph w)).IsList l items:=⟨_,akY,rfl,nl,rfl⟩;unfold Builtin.«set.__init__» noKeywords Builtin.Frozenset.updateFrom;generalize hPI:pyIter=PI
    wp_walk
    subst hPI;refine(xB uV (ag (wpAny_runValue ?_)));have W9:=bq Na;have hh3:A.in1.in1.in1.handled=none:=by simp[hh]
    have z1:(s.heap.push (ph w)).objs.size=s.heap.objs.size+1:=jI _ _;have ak5:l≠(s.heap.push (ph w)).objs.size:=by rw[z1];exact dv (Ac W9)
    have FL:s.heap.objs.size∉[(s.heap.push (ph w)).objs.size,l]:=by
     rw[z1];simp only[bR,eN,Zk,or_false,not_or];exact⟨dv (xD _),qf W9⟩
    have yU:∀(i:Nat) (v:Value),items[i]?=some v->∃t,v=.int ((λi=>ns.getD i 0) i) t:=λi v hv=>OI hi i v (by rw[zX];exact hv);refine acg (As hh3 _ l ak5 items) FL (λi=>ns.getD i 0) yU hb (items.size-0) 0 _ li (bU _) ⟨⟨_,dM _ rfl,rfl,rfl⟩,(uV.push _)⟩ (acj (bc _ hS)) λh' tk kk S'=>?_;refine(aF (?_:wpAny _ _ (ret eK) _ _ _));refine aF ⟨rfl,⟨h',tk,rfl,S',λb o e=>kk b o ?_ (bc _ (bc _ e))⟩⟩;have hb:=bq e;rw[z1];simp only[bR,eN,Zk,or_false,not_or];exact⟨dv hb,dv (Ac hb)⟩
   ·cases r₂ with
    | error e=>exact Fq
    | ok fl₂=>
     cases fl₂ with
     | ret r=>
      refine oA Fq λaa bg=>?_;clear Fq;subst aa;refine dF bg λh' tk aa hS' xn=>?_;clear bg;subst aa
      repeat (any_goals (first | assumption | wp_step))
      exact h _ _ hS' xn
     | _=>exact Fq.elim
  | _=>exact hr.elim
end
namespace SF
theorem slot_next:Slot "set_iterator" "__next__" "set_iterator.__next__":=
 .of (owner:="set_iterator") (n:="__next__") (by rw[typeLookup_type,YJ];kernel_rfl) dk dk dk (by first | exact .inl dk | exact .inr dk) (by rw[isSubtype_type];kernel_rfl)
theorem entry_next:entryFor table "set_iterator.__next__" = some Builtin.«set_iterator.__next__»:=entryFor_of_tree (by kernel_rfl)
theorem args_next(a:Value):argsOk "set_iterator.__next__" ⟨[a],[]⟩:=by unfold argsOk;kernel_rfl
theorem aaL:entryFor table "set.__iter__" = some Builtin.«frozenset.__iter__»:=entryFor_alias (id':="frozenset.__iter__") (by kernel_rfl) rfl dk (by kernel_rfl)
theorem aeZ:Hu (.type "set") "__len__" = pure (some (.builtin "set.__len__")):=by rw[typeLookup_type,YJ];kernel_rfl
end SF
theorem Pz{α:Type}{l:List α}{i:Nat}(h:i<l.length):gY (l[i]::l.eraseIdx i) l:=by
 have e:l.take i++l[i]::l.drop (i+1)=l:=by rw[List.getElem_cons_drop,Ga]
 rw[List.eraseIdx_eq_take_drop_succ];have p:gY (l[i]::(l.take i++l.drop (i+1))) (l.take i++l[i]::l.drop (i+1)):=Zj.symm;rw[e]at p;exact p
section
variable{M:Model}{A:Around}{E:Value->Shared->Prop}{s:Shared}
theorem aaM{src:Source}{n:Nat}{Q:Nat->Shared->Prop}(hn:n≠0)(h:∀i d,i<n->Q i { s with drawn:=d }):wpAny M A (choose src n) Q E s:=
 λΓ p _=>⟨hn,h _ _ (CL _ (Nat.pos_of_ne_zero hn))⟩
theorem Qq{α:Type}:∀(n:Nat) (xs:List α) (s:Shared) {Q:List α->Shared->Prop},xs.length=n->(∀ys d,gY ys xs->Q ys { s with drawn:=d })->wpAny M A (drawOrder n xs) Q E s
 | 0,xs,s,Q,hl,h=>by
  have e:=vk.mp hl;subst e;exact aF (h [] s.drawn .nil)
 | n+1,[],s,Q,hl,h=>by cases hl
 | n+1,x::xs,s,Q,hl,h=>by
  unfold drawOrder;refine ag (aaM (by simp) λi d hi=>?_);have e:(x::xs)[i]?=some ((x::xs)[i]):=aR hi;rw[e];dsimp only;exact ag (Qq n _ _ (by rw[YO,if_pos hi,hl];rfl) λys d' hp=>aF (h _ d' ((hp.cons _).trans (Pz hi))))
end
theorem RC{α:Type}(next:Nat->Nat):∀(n k:Nat) (left:List α) (out:Array α),left.length=n->∃ys,gY ys left/\(OW next n k left out).toList=out.toList++ys
 | 0,k,left,out,hl=>by
  have e:=vk.mp hl;subst e;exact az ([]) .nil (by unfold OW;simp)
 | n+1,k,left,out,hl=>by
  have hi:next k%left.length<left.length:=CL _ om;unfold OW;rw[aR hi];dsimp only;obtain⟨ys,hp,e⟩:=RC next n (k+1) (left.eraseIdx (next k%left.length)) (out.push left[next k%left.length]) (by rw[YO,if_pos hi,hl];rfl);exact az (left[next k%left.length]::ys) ((hp.cons _).trans (Pz hi)) (by rw[e];simp)
theorem abf{α:Type}(next:Nat->Nat)(xs:Array α):gY (vy next xs).toList xs.toList:=by
 refine ay (RC next xs.size 0 xs.toList #[] (by simp)) λys hp e=>?_;unfold vy;rw[e];simpa using hp
def slotAt(place:Array Nat)(i:Nat):Nat:=if i=0 then 0 else place.getD (i-1) 0+1
def K7(P:Program)(w:World)(h:Heap)(a:Addr)(es:Array (Int×Value))(ep:Nat)(t:bj)(ks ord:List Int)(first:Value)(i:Nat):Prop:=
 (lS w=true/\(∃f u,first=.int f u)/\Paired (m9 P w) (vy (w.params.setOrder a ep) es).toList ord)\/
 (lS w=false/\(!t.plain&&decide (es.size > 1))=false/\lV t.place/\ord=ks/\first=rawInt (slotAt t.place i))\/
 (lS w=false/\∃(tp:Addr) (pl:List Nat),first=.ref tp/\IsTup h tp (pl.map λj=>rawInt (j:Nat)).toArray/\gY pl (List.range es.size)/\ord=pl.map λj=>ks.getD j 0)
def uD(P:Program)(w:World)(h:Heap)(it a:Addr)(ord:List Int)(i:Nat):Prop:=
 ∃o es ep t ks first,h.get? a=some o/\o.cls=.type "set"/\o.data=.set es ep t/\t.fits es.size=true/\Paired (m9 P w) es.toList ks/\t.led=(!lS w)/\ord.length=es.size/\a≠it/\
  h.get? it=some { cls:=.type "set_iterator",data:=.fields #[first,rawInt i,.ref a,rawInt es.size,rawInt ep] }/\K7 P w h a es ep t ks ord first i
section
variable{P:Program}{w:World}{A:Around}{E:Value->Shared->Prop}{s:Shared}{it a:Addr}{ord:List Int}{i:Nat}
theorem uD.keep{h h':Heap}(g:uD P w h it a ord i)(k:∀b o,o.cls≠.type "list"->h.get? b=some o->h'.get? b=some o):uD P w h' it a ord i:=by
 refine lG g λo es ep t ks first q c d f aa=>mG aa λr l n ne e m=>⟨o,es,ep,t,ks,first,(k _ _ (by rw[c];simp) q),c,d,f,r,l,n,ne,⟨k _ _ (by simp) e,?_⟩⟩;rcases m with m | m | ⟨m1,tp,pl,m2,⟨ot,e1,e2,e3⟩,m4⟩
 ·exact .inl m
 ·exact .inr (.inl m)
 ·exact .inr (.inr ⟨m1,⟨tp,pl,m2,⟨ot,k _ _ (by rw[e2];simp) e1,e2,e3⟩,m4⟩⟩)
theorem HD{es:List (Int×Value)}{ks:List Int}(r:Paired (m9 P w) es ks){j:Nat}(hj:j<ks.length):∃hh t,es[j]?=some (hh,.int ks[j] t):=by
 induction r generalizing j with
 | nil=>simp at hj
 | cons h _ ih=>
  cases j with
  | zero=>
   refine oA h λh1 aa=>oE aa λt h2=>?_
   rename_i e k _ _ _
   obtain⟨e1,e2⟩:=e;simp only at h2;subst h2;exact uy e1 t rfl
  | succ j=>
   exact wz (ih (j:=j) (by simpa using hj)) λhh t e=>uy hh t (by simpa using e)
theorem CU{Q:Bool->Shared->Prop}(h:Q (lS w) s):wpAny (model P w) A setsByText Q E s:=by
 unfold setsByText;exact ag (Ot (aF h))
theorem P'{o:Obj}{es:Array (Int×Value)}{ep slot given:Nat}{t:bj}{Q:Option (Value×Nat)->Shared->Prop}(q:s.heap.get? a=some o)(d:o.data=.set es ep t)(f:t.fits es.size=true)(hb:lS w=true)
  (h:Q (((vy (w.params.setOrder a ep) es)[given]?).map λe=>(e.2,slot)) s):wpAny (model P w) A (setNext a slot given ep) Q E s:=by
 unfold setNext;refine ag (z9 q d f (ag (CU ?_)));dsimp only;rw[hb,if_pos rfl,if_neg (by simp)];unfold setWalk;refine ag (ag (z9 q d f (ag (CU ?_))));rw[hb,if_pos rfl];exact ag (Ot (aF (aF h)))
theorem Pm{o:Obj}{es:Array (Int×Value)}{ep slot given:Nat}{t:bj}{Q:Option (Value×Nat)->Shared->Prop}(q:s.heap.get? a=some o)(d:o.data=.set es ep t)(f:t.fits es.size=true)(hb:lS w=false)(hl:t.led=true)(hd:(!t.plain&&decide (es.size > 1))=false)
  (h:Q (match es[fh t.place slot]?,t.place[fh t.place slot]? with | some (_,x),some j=>some (x,j+1) | _,_=>none) s):wpAny (model P w) A (setNext a slot given ep) Q E s:=by
 unfold setNext;refine ag (z9 q d f (ag (CU ?_)));dsimp only;rw[hb,if_neg dg];show wpAny _ _ (if (!t.plain&&decide (es.size > 1))=true then _ else _) _ _ _;rw[hd,if_neg dg];refine ag (?_:wpAny _ _ (if (!t.led && !es.isEmpty)=true then _ else _) _ _ _);rw[hl];exact aF (aF h)
theorem HK{t:bj}{n:Nat}(f:t.fits n=true):t.place.size=n:=by
 simp only[bj.fits,iG,beq_iff_eq]at f;exact f.1
theorem DL{h:Heap}{vs:Array Value}{j:Nat}{v:Value}(e:h.get? it=some { cls:=.type "set_iterator",data:=.fields vs }):(h.update it (kx (·.setIfInBounds j v))).get? it=some { cls:=.type "set_iterator",data:=.fields (vs.setIfInBounds j v) }:=
 rH _ e rfl
theorem adb{Q:Option Value->Shared->Prop}(g:uD P w s.heap it a ord i)(hi:i<ord.length)(k:∀h' t,uD P w h' it a ord (i+1)->gA it s.heap h'->Q (some (.int ord[i] t)) { s with heap:=h' }):wpAny (model P w) A (pyNext (.ref it)) Q E s:=by
 refine lG g λo es ep t ks first q c d f aa=>mG aa λr l n ne e m=>?_;have pS:s.TypeIs (.ref it) "set_iterator":=⟨_,e,rfl⟩;have kl:=xI r;rw[kr]at kl;unfold pyNext;refine ag (Cy (vj (name:=lE "__next__") pS SF.slot_next (rO SF.slot_next pS SF.entry_next (?_:wpAny _ _ (fieldsOf (.ref it) >>= _) _ _ s) (SF.args_next _))));unfold fieldsOf;refine ag (ag (Ht e (aF ?_)));show wpAny _ _ (setEntries a >>= _) _ _ s;refine ag (Of q d f ?_);simp only[bne_self_eq_false,p9,if_false,gy]
 have VE:∀(nx:Nat) (u:Tok),K7 P w ((s.heap.update it (kx (·.setIfInBounds 0 (rawInt (nx:Nat))))).update it (kx (·.setIfInBounds 1 (rawInt ((i:Int)+1))))) a es ep t ks ord (rawInt (nx:Nat)) (i+1)->
   wpAny (model P w) A.in1 (do setField (.ref it) 0 (rawInt (nx:Nat));setField (.ref it) 1 (rawInt ((i:Int)+1));ret (.int ord[i] u)) (λfin s'=>∃v,fin=Fin.done (Flow.ret v)/\wpAny (model P w) A (pure (some v)) Q E s') (λe s'=>wpAny (model P w) A (do
     let __do_lift <-Aq e (iA "StopIteration")
     if __do_lift=true then pure none else throw e) Q E s') s:=λnx u md=>by
  have e1:=DL (j:=0) (v:=rawInt (nx:Nat)) e;have e2:=DL (j:=1) (v:=rawInt ((i:Int)+1)) e1;refine ag (qb e rfl (by simp) (ag (qb e1 rfl (by simp) (aF (az _ rfl (aF (k _ u ?_ ((jG _ it _).trans (jG _ it _)))))))));have sb:=(jG s.heap it (kx (·.setIfInBounds 0 (rawInt (nx:Nat))))).trans (jG _ it (kx (·.setIfInBounds 1 (rawInt ((i:Int)+1)))));exact⟨o,es,ep,t,ks,_,((sb.2 a ne).trans q),c,d,f,r,l,n,ne,⟨e2,md⟩⟩
 rcases m with ⟨m1,⟨f0,u0,rfl⟩,m3⟩ | ⟨m1,m2,m3,rfl,rfl⟩ | ⟨m1,tp,pl,rfl,m3,m4,m5⟩
 ·refine wz (HD m3 hi) λhh u eu=>ag (P' q d f m1 ?_);have eg:(vy (w.params.setOrder a ep) es)[i]?=some (hh,.int ord[i] u):=by rw[<-zX];exact eu
  rw[eg];exact VE _ u (.inl (gu m1 ⟨_,_,rfl⟩ m3))
 ·have ps:=HK f;have hs:i<t.place.size:=om;refine wz (HD r hi) λhh u eu=>?_
  have eb:fh t.place ((slotAt t.place i:Nat):Int).toNat=i:=by
   rw[gy];unfold slotAt
   by_cases z:i=0
   ·rw[if_pos z,z];exact PF m3
   ·rw[if_neg z];have:=PH m3 (i:=i-1) om;rw[show t.place.getD (i-1) 0=t.place[i-1]' om by simp[x9,show i-1<t.place.size by omega],this];omega
  refine ag (Pm q d f m1 (by rw[l,m1];rfl) m2 ?_);have eg:es[fh t.place ((slotAt t.place i:Nat):Int).toNat]?=some (hh,.int ord[i] u):=by rw[eb,<-zX];exact eu
  have zR:t.place[fh t.place ((slotAt t.place i:Nat):Int).toNat]?=some (t.place[i]):=by rw[eb];exact YA hs
  rw[eg,zR];refine VE _ u (.inr (.inl (⟨m1,m2,m3,rfl,?_⟩)));unfold slotAt;rw[if_neg (Nat.succ_ne_zero _),Nat.add_sub_cancel,show t.place.getD i 0=t.place[i] by simp[x9,hs]]
 ·have Wk:pl.length=es.size:=by have:=m4.length_eq;simpa using this
  have hp:i<pl.length:=om
  have hj:pl[i]<ks.length:=by
   have:=m4.mem_iff.mp (rQ hp);rw[iN]at this;exact wf
  refine aX (id m3) λot t1 t2 aa=>oE aa λn3 t3=>ag (oU t1 t3 ?_);have eg:((pl.map λj=>rawInt (j:Nat)).toArray)[i]?=some (rawInt (pl[i]:Nat)):=by simp[hp]
  dsimp only;rw[eg];refine wz (HD r hj) λhh u eu=>?_;show wpAny _ _ (setNextDrawn a ((pl[i]:Nat):Int).toNat ep >>= _) _ _ s;unfold setNextDrawn;refine ag (ag (z9 q d f ?_));dsimp only;rw[if_neg (by simp),gy,<-zX,eu]
  have eo:ord[i]=ks[pl[i]]:=by
   subst m5;simp[hj]
  refine aF (ag (qb e rfl (by simp) (aF (az _ rfl (aF ?_)))));have e2:=DL (j:=1) (v:=rawInt ((i:Int)+1)) e;have sb:=jG s.heap it (kx (·.setIfInBounds 1 (rawInt ((i:Int)+1))))
  have ntp:tp≠it:=λz=>by
   rw[z,e]at t1;cases t1;simp at t2
  rw[<-eo];exact k _ u ⟨o,es,ep,t,ks,_,(sb.2 a ne).trans q,c,d,f,r,l,n,ne,e2,.inr (.inr ⟨m1,tp,pl,rfl,⟨ot,(sb.2 tp ntp).trans t1,t2,n3,t3⟩,m4,m5⟩)⟩ sb
end
section
variable{P:Program}{w:World}{A:Around}{E:Value->Shared->Prop}{s:Shared}{it a:Addr}{ord:List Int}{i:Nat}
theorem Rn{Q:Option Value->Shared->Prop}{R:PySem.Fin->Shared->Prop}(hh:A.handled=none)(k:∀h',(∀b o,s.heap.get? b=some o->h'.get? b=some o)->Q none { s with heap:=h' }) :
  wpAny (model P w) A.in1 (do let e <-newExc (iA "StopIteration") [];raiseNew e) R (λe s'=>wpAny (model P w) A (do
     let __do_lift <-Aq e (iA "StopIteration")
     if __do_lift=true then pure none else throw e) Q E s') s:=by
 refine ag ?_;simp only[newExc,newTuple];refine ag (oQ (ag (m:=Gz _ _) (CD (a:=eK) (by first | rfl | (simp only[Gz];rfl)) (oQ ?_ (by size_fits)))) (by size_fits));simp only[raiseNew];refine ag (wpAny_handled ?_);rw[show A.in1.handled=none from hh];refine ag (aF (wpAny_throw ?_));refine(ag (Gj (T:="StopIteration") (b:=true) ⟨_,dM _ rfl,rfl⟩ OG ?_));exact aF (k _ λb o e=>bc _ (bc _ e))
theorem ade{Q:Option Value->Shared->Prop}(hh:A.handled=none)(g:uD P w s.heap it a ord ord.length)(k:∀h',(∀b o,b≠it->s.heap.get? b=some o->h'.get? b=some o)->Q none { s with heap:=h' }):wpAny (model P w) A (pyNext (.ref it)) Q E s:=by
 refine lG g λo es ep t ks first q c d f aa=>mG aa λr l n ne e m=>?_;have pS:s.TypeIs (.ref it) "set_iterator":=⟨_,e,rfl⟩;have kl:=xI r;rw[kr]at kl;unfold pyNext;refine ag (Cy (vj (name:=lE "__next__") pS SF.slot_next (rO SF.slot_next pS SF.entry_next (?_:wpAny _ _ (fieldsOf (.ref it) >>= _) _ _ s) (SF.args_next _))));unfold fieldsOf;refine ag (ag (Ht e (aF ?_)));show wpAny _ _ (setEntries a >>= _) _ _ s;refine ag (Of q d f ?_);simp only[bne_self_eq_false,p9,if_false,gy]
 have VA:wpAny (model P w) A.in1 (do setField (.ref it) 2 eK;let e <-newExc (iA "StopIteration") [];raiseNew e) (λfin s'=>∃v,fin=Fin.done (Flow.ret v)/\wpAny (model P w) A (pure (some v)) Q E s') (λe s'=>wpAny (model P w) A (do
     let __do_lift <-Aq e (iA "StopIteration")
     if __do_lift=true then pure none else throw e) Q E s') s:=by
  have sb:=jG s.heap it (kx (·.setIfInBounds 2 eK));exact ag (qb e rfl (by simp) (Rn hh λh' kk=>k h' λb o z y=>kk b o ((sb.2 b z).trans y)))
 rcases m with ⟨m1,⟨f0,u0,rfl⟩,m3⟩ | ⟨m1,m2,m3,rfl,rfl⟩ | ⟨m1,tp,pl,rfl,m3,m4,m5⟩
 ·refine ag (P' q d f m1 ?_);have pl:=xI m3;rw[kr]at pl;rw[N9 li];exact VA
 ·have ps:=HK f;refine ag (Pm q d f m1 (by rw[l,m1];rfl) m2 ?_)
  have eb:fh t.place (slotAt t.place ord.length)=ord.length:=by
   unfold slotAt
   by_cases z:ord.length=0
   ·rw[if_pos z,z];exact PF m3
   ·rw[if_neg z];have:=PH m3 (i:=ord.length-1) om;rw[show t.place.getD (ord.length-1) 0=t.place[ord.length-1]' om by simp[x9,show ord.length-1<t.place.size by omega],this];omega
  have eg:es[fh t.place (slotAt t.place ord.length)]?=none:=by rw[eb];exact N9 li
  simp only[gy];rw[eg];exact VA
 ·refine aX (id m3) λot t1 t2 aa=>oE aa λn3 t3=>?_;have Wk:pl.length=ord.length:=by rw[m5,aH]
  refine ag (oU t1 t3 ?_);have eg:((pl.map λj=>rawInt (j:Nat)).toArray)[ord.length]?=none:=N9 (by simp[Wk]);dsimp only;rw[eg];have e1:=DL (j:=0) (v:=rawInt 0) e;have sb:=(jG s.heap it (kx (·.setIfInBounds 0 (rawInt 0)))).trans (jG _ it (kx (·.setIfInBounds 2 eK)));exact ag (qb e rfl (by simp) (ag (qb e1 rfl (by simp) (Rn hh λh' kk=>k h' λb o z y=>kk b o ((sb.2 b z).trans y)))))
theorem adq{S:Addr}{res:Value}{R:Result->Shared->Prop}(hh:A.handled=none)(Xu:S≠it)(hz:ord.length<=bN):∀(k i:Nat) (s:Shared) (acc:List Value) (c:Nat),ord.length-i=k->i<=ord.length->uD P w s.heap it a ord i->s.heap.get? S=some { cls:=.type "list",data:=.seq acc.toArray c }->IntsAre acc (ord.take i)->
  (∀h' EC c',(∀b o,b≠it->b≠S->s.heap.get? b=some o->h'.get? b=some o)->h'.get? S=some { cls:=.type "list",data:=.seq EC.toArray c' }->IntsAre EC ord->R (.ok (.ret res)) { s with heap:=h' })->
  codeAny (model P w) A (.builtin "list.extend.loop" ⟨[.ref S,.ref it,res],[]⟩) R s:=by
 intro k
 induction k with
 | zero=>
  intro i s acc c hk hi g eS ha hR;have ei:i=ord.length:=li;subst ei;refine(rS YX (?_:wpAny _ _ _ _ _ s));rw[(sY Ge _)];refine(ag (ade (A:=A.in1) hh g λh' kk=>?_):wpAny _ A.in1 (pyNext (.ref it) >>= _) _ _ s);rw[Zi]at ha;exact aF (hR h' acc c (λb o z _ y=>kk b o z y) (kk S _ Xu eS) ha)
 | succ k ih=>
  intro i s acc c hk hi g eS ha hR;have cI:i<ord.length:=li;refine(rS YX (?_:wpAny _ _ _ _ _ s));rw[(sY Ge _)];refine(ag (adb (A:=A.in1) g cI λh' t g' sb=>?_):wpAny _ A.in1 (pyNext (.ref it) >>= _) _ _ s);have NK:=(sb.2 S Xu).trans eS;have al:acc.length=i:=by rw[ha.length,gz];exact xk
  have V6:=jG h' S (i7 (·.push (gG ord[i] t)));show wpAny _ A.in1 (CV S (·.push (gG ord[i] t)) >>= _) _ _ _;refine ag (Ad NK rfl (aF ⟨tD Ge _,?_⟩) (by rw[du];lia) (by show (acc.toArray.push (gG ord[i] t)).size<=bN+1;rw[Array.size_push,du];lia))
  have Ce:(h'.update S (i7 (·.push (gG ord[i] t)))).get? S=some { cls:=.type "list",data:=.seq (acc++[gG ord[i] t]).toArray (c+1) }:=by
   have:=rH (i7 (·.push (gG ord[i] t))) NK rfl;rw[this];simp[i7]
  refine ih (i+1) _ (acc++[gG ord[i] t]) (c+1) li xf (g'.keep λb o z y=>(V6.2 b λw=>?_).trans y) Ce ?_ λh3 EC c' kk e3 a3=>?_
  ·rw[w,NK]at y;cases y;exact z rfl
  ·rw[kv,aR cI];exact ksk_snoc ha
  ·refine hR h3 EC c' (λb o z1 z2 y=>kk b o z1 z2 ((V6.2 b z2).trans ((sb.2 b z1).trans y))) e3 a3
end
theorem ab1{xs:Array Nat}(h:xs.size<=1):lV xs:=by
 obtain⟨l⟩:=xs;unfold lV
 match l,h with
 | [],_=>exact .nil
 | [x],_=>exact YE _ _
 | _::_::_,h=>simp at h
theorem range_getD(ks:List Int):(List.range ks.length).map (λj=>ks.getD j 0)=ks:=by
 apply Ov
 ·simp
 ·intro i h1 h2;simp[h2]
section
variable{P:Program}{w:World}{A:Around}{E:Value->Shared->Prop}{s:Shared}{a:Addr}{ns:List Int}
theorem ach{Q:Value->Shared->Prop}(S:jv P w s.heap a ns)(hz:ns.length<=bN)(k:∀it ord h' d,gY ord ns->s.heap.objs.size<=it->uD P w h' it a ord 0->(∀b o,s.heap.get? b=some o->h'.get? b=some o)->Q (.ref it) { s with heap:=h',drawn:=d }) :
  wpAny (model P w) A (pyIter (.ref a)) Q E s:=by
 refine xT S λo es ep t ks q x d r p aa=>dU aa λnd f tb=>?_;have pS:s.TypeIs (.ref a) "set":=⟨o,q,x.1⟩;have kl:=xI r;rw[kr]at kl;have la:=bq q
 refine wpAny_pyIter_slot pS F.slot_set_iter (rO F.slot_set_iter pS SF.aaL (?_:wpAny _ _ (do
  let n <-YD a
  let first <-if <-setDrawn a then newTuple ((<-drawOrder n (List.range n)).map λ(i:Nat)=>rawInt i) else pure (rawInt 0)
  ret (<-newFields "set_iterator" [first,rawInt 0,.ref a,rawInt n,rawInt (<-setEpoch a)])) _ _ s) (F.args_set_iter_1 _))
 unfold YD setDrawn;refine ag (ag (Of q d f (aF (ag (ag (z9 q d f (ag (CU (aF ?_)))))))));show wpAny _ _ (if (!lS w&&(!t.plain&&decide (es.size > 1)))=true then _ else _) _ _ _
 have mk:∀(first:Value) (ord:List Int) (h1:Heap) (d1:Drawn),gY ord ks->(∀b o,s.heap.get? b=some o->h1.get? b=some o)->s.heap.objs.size<=h1.objs.size->(∀h2:Heap,(∀b o,h1.get? b=some o->h2.get? b=some o)->K7 P w h2 a es ep t ks ord first 0)->
   wpAny (model P w) A.in1 (do ret (<-newFields "set_iterator" [first,rawInt 0,.ref a,rawInt es.size,rawInt (<-setEpoch a)])) (λfin s'=>∃v,fin=Fin.done (Flow.ret v)/\∃T f,s'.TypeIs v T/\Hu (.type T) "__next__" = pure (some f)/\Q v s') E { s with heap:=h1,drawn:=d1 }:=λfirst ord h1 d1 po k1 hs md=>by
  refine ag (wpAny_setEpoch_of (k1 _ _ q) d f (ag (oQ (aF (az _ rfl (eG ("set_iterator") _ ⟨_,dM _ rfl,rfl⟩ SF.slot_next.lookup ?_))))));have kp:∀b o,h1.get? b=some o->(h1.push { cls:=.type "set_iterator",data:=.fields [first,rawInt 0,.ref a,rawInt es.size,rawInt ep].toArray }).get? b=some o:=λb o e=>bc _ e;refine k _ ord _ d1 (po.trans p) hs ⟨o,es,ep,t,ks,first,kp _ _ (k1 _ _ q),x.1,d,f,r,tb.led,by rw[po.length_eq,kl],dv (eB la hs),dM _ rfl,md _ kp⟩ λb o e=>kp b o (k1 b o e)
 by_cases hb:lS w=true
 ·refine ay (He (abf (w.params.setOrder a ep) es) r) λord p1 r1=>?_;rw[if_neg (by rw[hb];simp)];exact ag (aF (mk (rawInt 0) ord s.heap s.drawn p1 (λ_ _ e=>e) (aB _) λh2 _=>.inl (gu hb ⟨_,_,rfl⟩ r1)))
 ·have p4:lS w=false:=by simpa using hb
  by_cases hd:(!t.plain&&decide (es.size > 1))=true
  ·rw[if_pos (by rw[p4,hd];rfl)];refine ag (Qq es.size (List.range es.size) s (by simp) λys d1 hp=>ag (OF ?_ ?_))
   ·have ht:∀h2:Heap,(∀b o,(s.heap.push { cls:=.type "tuple",data:=.seq (ys.map λ(i:Nat)=>rawInt i).toArray }).get? b=some o->h2.get? b=some o)->IsTup h2 s.heap.objs.size (ys.map λ(i:Nat)=>rawInt (i:Nat)).toArray:=λh2 k2=>⟨_,k2 _ _ (dM _ rfl),rfl,_,rfl⟩;refine mk (.ref s.heap.objs.size) (ys.map λj=>ks.getD j 0) (s.heap.push { cls:=.type "tuple",data:=.seq (ys.map λ(i:Nat)=>rawInt i).toArray }) d1 ?_ (λb o e=>bc _ e) (by rw[jI];exact jL _) λh2 k2=>.inr (.inr ⟨p4,_,ys,rfl,ht h2 k2,hp,rfl⟩);have:=hp.map λj=>ks.getD j 0;rw[kl,range_getD]at this;exact this
   ·rw[aH,hp.length_eq,rK,kl,p.length_eq];exact hz
  ·have rA:(!t.plain&&decide (es.size > 1))=false:=by simpa using hd
   rw[if_neg (by rw[rA];simp)];refine ag (aF (mk (rawInt 0) ks s.heap s.drawn (gY.refl _) (λ_ _ e=>e) (aB _) λh2 _=>.inr (.inl (⟨p4,rA,?_,rfl,rfl⟩))));cases hp:t.plain with
   | true=>exact tb.asc hp
   | false=>
    rw[hp]at rA;refine ab1 ?_;rw[HK f];simpa using rA
theorem Z7{Q:List Value->Shared->Prop}(hh:A.handled=none)(S:jv P w s.heap a ns)(hz:ns.length<=bN)(k:∀vs ord h' d,IntsAre vs ord->gY ord ns->(∀b o,s.heap.get? b=some o->h'.get? b=some o)->Q vs { s with heap:=h',drawn:=d }) :
  wpAny (model P w) A (collect (.ref a)) Q E s:=by
 have la:a<s.heap.objs.size:=by
  exact dZ S λo es ep t ks aa=>oA aa λq _=>bq q
 unfold collect;refine ag (wpAny_runValue (rS F.entry_proto_collect (?_:wpAny _ _ _ _ _ s)));rw[(sY F.plain_proto_collect _)];show wpAny _ A.in1 (newList [] >>= λl=>again (.builtin "list.__iadd__" ⟨[l,.ref a],[]⟩)) _ _ s;refine(ag (oQ (aF ⟨tD F.plain_list_iadd _,(rS F.entry_list_iadd ?_)⟩)));rw[(sY F.plain_list_iadd _)];show wpAny _ A.in1 (Yr (.ref s.heap.objs.size) (.ref a) (.ref s.heap.objs.size)) _ _ _;unfold Yr;generalize hH:s.heap.push { cls:=.type "list",data:=.seq ([]:List Value).toArray }=H1;have kp:∀b o,s.heap.get? b=some o->H1.get? b=some o:=λb o e=>by rw[<-hH];exact bc _ e
 have eS:H1.get? s.heap.objs.size=some { cls:=.type "list",data:=.seq ([]:List Value).toArray }:=by rw[<-hH];exact dM _ rfl
 have z1:H1.objs.size=s.heap.objs.size+1:=by rw[<-hH];exact jI _ _
 have S1:=S.keep λo e=>kp _ _ e
 have pS:OO { s with heap:=H1 } (.ref a) "set":=by
  exact dZ S1 λo es ep t ks aa=>dU aa λq x _=>az o q x.1
 refine ag (OU pS ?_);have g1:YC (.ref s.heap.objs.size) (.ref a)=false:=by simp[YC,qf la]
 have g2:(iA "set" == iA "list")=false:=qc;have g3:(iA "set" == iA "tuple")=false:=qc;simp only[g1,g2,g3,OP,p9,if_false];refine ag (ach (s:={ s with heap:=H1 }) S1 hz λit ord h2 d2 po oM g k2=>ag (lD ?_))
 have LM:OO { s with heap:=h2,drawn:=d2 } (.ref a) "set":=by
  exact ay pS λo e c=>az o (k2 _ _ e) c
 unfold Builtin.List.listLengthHint;refine ag (wpAny_specialOf LM SF.aeZ ?_)
 wp_delta
 refine(ag (Gj LM (b:=true) (by rw[isSubtype_type];kernel_rfl) (?_:wpAny _ A.in1 (typeOf (c8 a) >>= _) _ _ _)));refine ag (OU LM (aF ?_));rw[if_pos qc];have nS:s.heap.objs.size≠it:=λz=>absurd oM (by rw[<-z,z1];exact Nat.not_succ_le_self _);have Ce:=k2 _ _ eS;have XR:=rH (i7 (·.push eK)) Ce rfl;have eS4:=rH (i7 (·.pop)) XR rfl;have sb:=(jG h2 s.heap.objs.size (i7 (·.push eK))).trans (jG _ s.heap.objs.size (i7 (·.pop)));refine ag (xZ (ag (?_:wpAny _ A.in1 (CV s.heap.objs.size (·.push .none) >>= λ_=>CV s.heap.objs.size (·.pop)) _ _ _)));refine ag (Ad Ce rfl (Ad XR rfl (aF ⟨tD Ge _,adq (P:=P) (w:=w) (it:=it) (a:=a) (ord:=ord) hh nS (by rw[po.length_eq];exact hz) (ord.length-0) 0 _ [] 2 rfl (bU _) (g.keep λb o z y=>(sb.2 b λw=>?_).trans y) eS4 .nil λh3 acc c k3 e3 a3=>?_⟩)))
 ·rw[w,Ce]at y;cases y;exact z rfl
 show wpAny _ A (load s.heap.objs.size >>= _) _ _ _;refine(ag (Ht e3 (aF ?_)))
 have nb:∀b o,s.heap.get? b=some o->b≠it/\b≠s.heap.objs.size:=λb o e=>by
  have:=bq e;have Vt:H1.objs.size<=it:=oM;rw[z1]at Vt;exact⟨dv (eB this (cZ (jL _) Vt)),dv this⟩
 exact k _ ord h3 d2 a3 po λb o e=>k3 b o (nb b o e).1 (nb b o e).2 ((sb.2 b (nb b o e).2).trans (k2 b o (kp b o e)))
end
def Bo(P:Program)(w:World)(a:Addr)(ns:List Int):HO:=.ext λh=>jv P w h a ns
theorem ad4{P:Program}{w:World}{H:Hp}{h:Heap}{a:Addr}{ns:List Int}(S:jv P w h a ns):eX P w H h a (Bo P w a ns):=by
 exact dZ (id S) λo es ep t ks aa=>oA aa λq _=>gu S ⟨o,q⟩ λh1 h2 g k=>g.keep k
theorem RD(ns:List Int):pE (λi=>ns.getD i 0) ns.length=qE ns:=by
 unfold pE;rw[range_getD]
theorem acC(ns:List Int):(qE ns).length<=ns.length:=by
 rw[<-RD];exact HE _ _
section
variable{X:Cx}
def Tv(P:Program)(w:World)(K:W.Frag):List V->Hp->VK->Prop:=λxs H Q=>∃(p:Addr) (ns:List Int),xs=[.ref p]/\aq K H p (ns.map V.int)/\ns.length<4000/\∀a,H a=none->Q (.ref a) (upd H a (Bo P w a (qE ns)))
theorem abS(hc:X.calm=true):jr X (.type "set") (Tv X.prog X.w X.K):=by
 intro p_ s σ H xs us Q I r h;refine pj h λp ns aa hl hz q=>?_;clear h;subst aa;refine ay (vals1 r) λu aa rx=>?_;subst aa;cases rx;refine aX (I.list hl) λaj rv pl jY=>?_;have il:=rv.length;rw[aH]at il;have hs:aj.toArray.size=aj.length:=du;refine aci (items:=aj.toArray) (ns:=ns) (I.ok.hd hc) pl.isList (by rw[Og];exact intsAre_of rv) (by rw[hs];unfold AA;lia) λh' tk S k=>?_;rw[hs,<-il,RD]at S;have hn:=I.aL.fresh (aB _);have f:=I.iE (b:=s.heap.objs.size) (aB _) hn;have J:Inv X p_ σ H { s with heap:=h',toks:=tk }:=I.kept k;exact eG (.ref s.heap.objs.size) _ (Inv.adopt (o:=Bo X.prog X.w s.heap.objs.size (qE ns)) J hn I.sz f.2.1 f.2.2.2.2.1 f.2.2.2.2.2 (ad4 S)) rfl (q _ hn)
def Sx(P:Program)(w:World):List V->Hp->VK->Prop:=λxs H Q=>∃(a:Addr) (ns:List Int),xs=[.ref a]/\H a=some (Bo P w a ns)/\ns.length<64/\∀l zs,H l=none->gY zs ns->zs.Pairwise (· < ·)->Q (.ref l) (upd H l (.lst (zs.map V.int)))
theorem ZU(hc:X.calm=true):jr X (.builtin "sorted") (Sx X.prog X.w):=by
 intro p_ s σ H xs us Q I r h;refine pj h λa ns aa ha h64 q=>?_;clear h;subst aa;refine ay (vals1 r) λu aa rx=>?_;subst aa;cases rx;have S:jv X.prog X.w s.heap a ns:=(I.aL a _ ha).1
 have nd:ns.Nodup:=by
  exact xT S λo es ep t ks _ _ _ _ _ aa=>oA aa λnd _=>nd
 refine PY (H:=H) (Z7 (I.ok.hd hc) S (by rw[jK];exact w5) λvs ord h' d ia po k=>?_);have ol:=po.length_eq;have vl:=ia.length;have Ws:=po.nodup_iff.mpr nd;refine oE I.fr λm F=>?_;have J:Inv X p_ σ H { s with heap:=h',drawn:=d }:=Inv.regrown (t':=s.toks) I F.ns (let ⟨o,es,ep,e,rr⟩:=F.ns;⟨o,es,ep,k _ _ e,rr⟩) λb o _ e=>k b o e
 have inj:∀i j,i<vs.length->j<vs.length->ord.getD i 0=ord.getD j 0->i=j:=λi j hi hj e=>by
  have pZ:i<ord.length:=wf;have uW:j<ord.length:=wf;have e':ord[i]=ord[j]:=by simpa[pZ,uW]using e
  rcases xC i j with z | z | z
  ·exact absurd e' (ko.mp Ws i j _ _ z)
  ·exact z
  ·exact absurd e'.symm (ko.mp Ws j i _ _ z)
 refine⟨ord.map V.int,⟨λi=>ord.getD i 0,J,Hx ia,⟨li,inj,λh2=>?_⟩,λl zs hn so=>?_⟩⟩
 ·refine⟨oneType',λA s' kk=>⟨λQ' hQ=>?_,λi j C hi hj ne c=>?_⟩⟩
  ·match vs,ia,h2 with
   | v1::v2::rest,ia,_=>rw[keyKind_ints ia];exact aF hQ
  ·unfold kas_ask;refine oE (OI ia i _ (aR hi)) λt1 e1=>?_;refine oE (OI ia j _ (aR hj)) λt2 e2=>?_;have g1:vs.getD i eK=.int (ord.getD i 0) t1:=by rw[<-e1];simp[hi]
   have g2:vs.getD j eK=.int (ord.getD j 0) t2:=by rw[<-e2];simp[hj]
   rw[g1,g2];exact kat_lt_int c
 ·have so':DR ((ord.map λn=>(n,V.int n)).map (·.2)) (λi=>((ord.map λn=>(n,V.int n)).map (·.1)).getD i 0) zs:=by
   rw[lF,lF];have e1:(ord.map ((λx:Int×V=>x.2) ∘ λn=>(n,V.int n)))=ord.map V.int:=rfl
   have e2:(ord.map ((λx:Int×V=>x.1) ∘ λn=>(n,V.int n)))=ord:=by
    show ord.map (λn=>n)=ord;simp
   rw[e1,e2];exact so
  refine aX (OR so') λqs g pw aa=>?_;subst aa
  have hq:∀x∈qs,x.2=V.int x.1:=λx hx=>by
   refine ay (jJ.mp (g.mem_iff.mp hx)) λn _ e=>?_;rw[<-e]
  have em:qs.map (·.2)=(qs.map (·.1)).map V.int:=by
   rw[lF];exact YU λx hx=>hq x hx
  rw[em];refine q l (qs.map (·.1)) hn ?_ ?_
  ·have:=g.map (·.1);rw[lF]at this
   have e2:(ord.map ((λx:Int×V=>x.1) ∘ λn=>(n,V.int n)))=ord:=by
    show ord.map (λn=>n)=ord;simp
   rw[e2]at this;exact this.trans po
  ·exact Co.mpr pw
end
end L2
namespace TL
open PySem PySem.Spec PyProof.Rows L2 L3
variable{P:Program}{w:World}{K:PySem.W.Frag}{mg:Str->Option Value}{base:Heap}
structure Ent where
 (t n num d:Int)
 deriving DecidableEq
def cG(es:List Ent)(i:Nat):List Ent:=es.filter λe=>decide (e.n=(i:Int))
def jd(H:Hp)(v:V)(e:Ent):Prop:=∃p s,v=.ref p/\H p=some (.tup [.int e.t,.ref s])/\H s=some (.tup [.int e.n,.int e.num,.int e.d])
def EW(H:Hp)(b:Addr)(es:List Ent):Prop:=∃vs,H b=some (.lst vs)/\Paired (jd H) vs es
def Sg:List Str:=["add","latest","fronts","take","is_empty","listed","twin"]
structure nv(tn:Int)(es:List Ent):Prop where
 asc:es.Pairwise λx y=>x.t<y.t
 nm:∀e∈es,0<=e.n/\e.n<12
 lt:∀e∈es,e.t<tn
structure dy(H:Hp)(a C:Addr)(kd:Str)(tn:Int)(es:List Ent)(q:Addr)(qr:List Addr):Prop where
 obj:∃dx fs,H a=some (.ins C dx fs)/\fs.lookup ("kind" : Str)=some (V.str kd)/\fs.lookup ("turn" : Str)=some (V.int tn)/\fs.lookup ("queues" : Str)=some (V.ref q)/\(∀m∈Sg,fs.lookup m=none)/\fs.length<=20
 qs:H q=some (.lst (qr.map V.ref))
 len:qr.length=12
 nd:qr.Nodup
 nq:q∉qr
 jg:∀i b,qr[i]?=some b->EW H b (cG es i)
 wf:nv tn es
structure gq(F:List Addr)(H H':Hp):Prop where
 k:∀b o,b∉F->(∀ps,o≠.eL ps)->H b=some o->H' b=some o
 t:∀b,H' b=none->H b=none
theorem gq.of{F:List Addr}{H H':Hp}(s:ah H H'):gq F H H':=⟨λb o _ _ e=>s b o e,λb h=>s.free h⟩
theorem gq.trans{F:List Addr}{H H1 H2:Hp}(a:gq F H H1)(b:gq F H1 H2):gq F H H2:=⟨λc o h1 h2 e=>b.k c o h1 h2 (a.k c o h1 h2 e),λc h=>a.t c (b.t c h)⟩
theorem gq.VT{P:Addr}{H H':Hp}{ps Fc:Array Value}(s:uc P H H')(hP:H P=some (.eL ps))(NB:H' P=some (.eL Fc)):gq [] H H':=
 ⟨λb o _ n e=>s b o (λz=>by rw[z,hP]at e;cases e;exact n ps rfl) e,λb h=>by
  cases e:H b with
  | none=>rfl
  | some o=>
   by_cases z:b=P
   ·rw[z,NB]at h;cases h
   ·rw[s b o z e]at h;cases h⟩
theorem An{P:Addr}{pos:Pos}{qual:Str}{F:List Addr}{H H':Hp}(h:de P pos qual H)(k:∀b o,b∉F->H b=some o->H' b=some o)(hF:∀b∈F,∀o,H b=some o->(∃C dx fs,o=.ins C dx fs)\/∃xs,o=.lst xs):de P pos qual H':=by
 refine ay h λps hP hc=>?_
 have nP:P∉F:=λz=>by
  rcases hF P z _ hP with ⟨_,_,_,e⟩ | ⟨_,e⟩ <;> cases e
 refine az ps (k P _ nP hP) ?_;rcases hc with e | ⟨c,e,hc⟩
 ·exact .inl e
 ·refine .inr (az c e (k c _ (λz=>?_) hc));rcases hF c z _ hc with ⟨_,_,_,e⟩ | ⟨_,e⟩ <;> cases e
theorem oX{P:Addr}{pos:Pos}{qual:Str}{H H':Hp}(h:de P pos qual H)(k:ah H H'):de P pos qual H':=An (F:=[]) h (λb o _ e=>k b o e) λb hb=>nomatch hb
theorem jd.keep{F:List Addr}{H H':Hp}{v:V}{e:Ent}(h:jd H v e)(k:∀b xs,H b=some (.tup xs)->H' b=some (.tup xs)):jd H' v e:=let ⟨p,s,e1,e2,e3⟩:=h;⟨p,s,e1,k _ _ e2,k _ _ e3⟩
theorem vC{α β:Type}{F G:α->β->Prop}(f:∀a b,F a b->G a b):∀{l:List α} {r:List β},Paired F l r->Paired G l r
 | _,_,.nil=>.nil
 | _,_,.cons h t=>.cons (f _ _ h) (vC f t)
theorem EW.keep{H H':Hp}{b:Addr}{es:List Ent}(h:EW H b es)(kb:∀o,H b=some o->H' b=some o)(k:∀b xs,H b=some (.tup xs)->H' b=some (.tup xs)):EW H' b es:=let ⟨vs,e,r⟩:=h;⟨vs,kb _ e,vC (λ_ _ z=>z.keep (F:=[]) k) r⟩
theorem dy.keep{H H':Hp}{a C q:Addr}{kd:Str}{tn:Int}{es:List Ent}{qr:List Addr}(T:dy H a C kd tn es q qr)(k:∀b∈a::q::qr,∀o,H b=some o->H' b=some o)(kt:∀b xs,H b=some (.tup xs)->H' b=some (.tup xs)):dy H' a C kd tn es q qr:=by
 obtain⟨⟨dx,fs,e,r⟩,qs,len,nd,nq,jg,wf⟩:=T;exact⟨⟨dx,fs,k a (by simp) _ e,r⟩,k q (by simp) _ qs,len,nd,nq,λi b hb=>(jg i b hb).keep (λo=>k b (by simp[bw hb]) o) kt,wf⟩
theorem dy.aic{F:List Addr}{H H':Hp}{a C q:Addr}{kd:Str}{tn:Int}{es:List Ent}{qr:List Addr}(T:dy H a C kd tn es q qr)(k:gq F H H')(hF:∀b∈F,b∉a::q::qr)(hT:∀b∈F,∀xs,H b≠some (.tup xs)):dy H' a C kd tn es q qr:=by
 refine T.keep (λb hb o e=>k.k b o (λz=>hF b z hb) (λps z=>?_) e) λb xs e=>k.k b _ (λz=>hT b z xs e) (λps z=>by cases z) e;subst z;rcases bR.mp hb with z | z
 ·refine b8 T.obj λdx fs e' _=>?_;rw[z,e']at e;cases e
 ·rcases bR.mp z with z | z
  ·rw[z,T.qs]at e;cases e
  ·refine oE (nJ z) λi aa=>oE aa λhi ez=>?_;obtain⟨vs,e',_⟩:=T.jg i b (by rw[<-ez];exact aR hi);rw[e']at e;cases e
theorem dy.vN{H H':Hp}{a C q:Addr}{kd:Str}{tn:Int}{es:List Ent}{qr:List Addr}(T:dy H a C kd tn es q qr)(k:gq [] H H'):dy H' a C kd tn es q qr:=T.aic k (λb hb=>nomatch hb) λb hb=>nomatch hb
theorem dy.kinds{H:Hp}{a C q:Addr}{kd:Str}{tn:Int}{es:List Ent}{qr:List Addr}(T:dy H a C kd tn es q qr):∀b∈a::q::qr,∀o,H b=some o->(∃C dx fs,o=.ins C dx fs)\/∃xs,o=.lst xs:=λb hb o e=>by
 rcases bR.mp hb with z | z
 ·refine b8 T.obj λdx fs e' _=>?_;rw[z,e']at e;cases e;exact .inl (⟨_,_,_,rfl⟩)
 ·rcases bR.mp z with z | z
  ·rw[z,T.qs]at e;cases e;exact .inr ⟨_,rfl⟩
  ·refine oE (nJ z) λi aa=>oE aa λhi ez=>?_;obtain⟨vs,e',_⟩:=T.jg i b (by rw[<-ez];exact aR hi);rw[e']at e;cases e;exact .inr ⟨_,rfl⟩
theorem dy.there{H:Hp}{a C q:Addr}{kd:Str}{tn:Int}{es:List Ent}{qr:List Addr}(T:dy H a C kd tn es q qr):∀b∈a::q::qr,∃o,H b=some o:=λb hb=>by
 rcases bR.mp hb with z | z
 ·exact b8 T.obj λdx fs e' _=>⟨_,by rw[z];exact e'⟩
 ·rcases bR.mp z with z | z
  ·exact⟨_,by rw[z];exact T.qs⟩
  ·refine oE (nJ z) λi aa=>oE aa λhi ez=>?_;obtain⟨vs,e',_⟩:=T.jg i b (by rw[<-ez];exact aR hi);exact⟨_,e'⟩
def Dr(es:List Ent)(i:Nat):Option Ent:=(cG es i).getLast?
def kC(es:List Ent):List Int:=((List.range 12).filter λi=>decide (cG es i≠[])).map λ(i:Nat)=>(i:Int)
def iU(kd:Str)(es:List Ent):List Int:=if kd = "row" then (es.head?.map (·.n)).toList else kC es
def qH(es:List Ent)(n:Int):List Ent:=es.eraseP λe=>decide (e.n=n)
theorem aeo(i:Nat):cG [] i=[]:=rfl
theorem RB(es:List Ent)(e:Ent)(i:Nat):cG (es++[e]) i=if e.n=(i:Int) then cG es i++[e] else cG es i:=by
 unfold cG;rw[xy]
 by_cases h:e.n=(i:Int)
 ·rw[if_pos h];simp[h]
 ·rw[if_neg h];simp[h]
theorem Ax{es:List Ent}{n:Int}:n∈kC es↔∃i:Nat,i<12/\n=i/\cG es i≠[]:=by
 unfold kC;rw[jJ];constructor
 ·rintro⟨i,hi,rfl⟩;rw[mf,iN]at hi;exact eZ i hi.1 rfl (by simpa using hi.2)
 ·rintro⟨i,h1,rfl,h2⟩;exact az i (by rw[mf,iN];exact⟨h1,by simpa using h2⟩) rfl
theorem Q3{es:List Ent}{e:Ent}{i:Nat}(h:es.head?=some e)(hi:e.n=(i:Int)):(cG es i).head?=some e:=by
 cases es with
 | nil=>cases h
 | cons x r=>
  cases h;unfold cG;rw[xE,if_pos (by simpa using hi)];rfl
theorem afs{tn:Int}{es:List Ent}{n num d:Int}(w:nv tn es)(h0:0<=n)(h1:n<12):nv (tn+1) (es++[⟨tn,n,num,d⟩]):=by
 refine⟨YN.mpr ⟨w.asc,YE _ _,λx hx y hy=>?_⟩,λe he=>?_,λe he=>?_⟩
 ·rw[eN.mp hy];exact w.lt x hx
 ·rcases jH.mp he with z | z
  ·exact w.nm e z
  ·rw[eN.mp z];exact⟨h0,h1⟩
 ·rcases jH.mp he with z | z
  ·have:=w.lt e z;lia
  ·rw[eN.mp z];show tn<tn+1;lia
theorem adL{tn:Int}{es:List Ent}(w:nv tn es)(n:Int):nv tn (qH es n):=by
 have sub:(qH es n).Sublist es:=List.eraseP_sublist;exact⟨w.asc.sublist sub,λe he=>w.nm e (sub.subset he),λe he=>w.lt e (sub.subset he)⟩
theorem acw(es:List Ent)(n:Int)(i:Nat):cG (qH es n) i=if n=(i:Int) then (cG es i).tail else cG es i:=by
 induction es with
 | nil=>unfold qH cG;simp
 | cons e r ih=>
  unfold qH at ih ⊢;rw[List.eraseP_cons]
  by_cases h:e.n=n
  ·rw[decide_eq_true h,cond_true];unfold cG
   by_cases hi:n=(i:Int)
   ·rw[if_pos hi,xE,if_pos (by simpa using h.trans hi)];rfl
   ·rw[if_neg hi,xE,if_neg (by simpa using λz:e.n=(i:Int)=>hi (h.symm.trans z))]
  ·rw[decide_eq_false h,cond_false];unfold cG at ih ⊢;rw[xE,xE]
   by_cases he:e.n=(i:Int)
   ·have BU:¬n=(i:Int):=λz=>h (he.trans z.symm);rw[if_neg BU]at ih;simp only[decide_eq_true he,if_true];rw[if_neg BU,ih]
   ·simp only[decide_eq_false he,p9,if_false];rw[ih]
structure BT(mg:Str->Option Value):Prop where
 hG:mg "isinstance" = none
 int:mg "int" = none
 bool:mg "bool" = none
 str:mg "str" = none
 len:mg "len" = none
 all:mg "all" = none
 range:mg "range" = none
 enum:mg "enumerate" = none
 min:mg "min" = none
 sorted:mg "sorted" = none
structure kN(K:W.Frag)(C:Addr):Prop where
 cl:dj K C
 kind:bu K C "kind"
 turn:bu K C "turn"
 tS:bu K C "queues"
def QA:Sp:=λvs H Q _=>∃v T,vs=[v]/\tyName H v=some T/\Q (.bl (pM v)) H
theorem acm:aZ ["thing"] ["thing"] (aM IZ):=a8
theorem abj{f:Addr}{fd:aQ}(F:aP K "is_whole" "is_whole" IZ f fd)(B:BT mg):ao P w K mg base au 1 f fd ["thing"] QA:=by
 refine F.ok acm (λvs H Q E h=>?_) λaD A _ s H vs Q E hr h=>?_
 ·refine b8 h λv T aa _=>?_;clear h;subst aa;rfl
 ·refine dF h λv T aa ht k=>?_;clear h;subst aa;refine⟨_,ax (aS (sf (bp iB rfl B.hG iw (ae (pv 0) (ae (mq (v:=.ty "int") rfl B.int boot_int rfl) af))) (tU (JV (bp iB rfl B.hG iw (ae (pv 0) (ae (mq (v:=.ty "bool") rfl B.bool boot_bool rfl) af))))))),?_⟩;have e:=SV ht;refine az v rfl (dS _ _ _ _ (gJ _ rfl (oB ht) rfl (oh ht qc) (az _ rfl (lP (λh1=>?_) λh1=>?_))))
  ·refine az v rfl (dS _ _ _ _ (gJ _ rfl (oB ht) rfl (oh ht qc) (az _ rfl ?_)));rw[h1,vp]at e;rw[e];exact k
  ·rw[h1,xK]at e;rw[e];exact k
def Up(C:Addr):Sp:=λvs H Q _=>∃x dx kd,vs=[.ref x,.str kd]/\H x=some (.ins C dx [])/\∀H' q qr,dy H' x C kd 0 [] q qr->(∀b o,b≠x->H b=some o->H' b=some o)->(∀b∈q::qr,H b=none)->Q .aE H'
theorem ajY:aZ ["self","kind"] ["self","kind"] (aM EK):=a8
theorem aeO:(["name"]:List Str).Nodup:=dk
theorem ah'(f:Str)(u:V):(aG f u []).length<1000:=by
 have h1:=qj f u [];have h3:([]:List (Str×V)).length=0:=rfl;exact wb
theorem ah9(f g:Str)(u v:V):(aG f u (aG g v [])).length<1000:=by
 have h1:=qj f u (aG g v []);have h2:=qj g v [];have h3:([]:List (Str×V)).length=0:=rfl;exact xi
theorem Rl:∀m∈Sg,¬m = "kind"/\¬m = "turn"/\¬m = "queues":=dk
theorem pN(kd:Str)(q:Addr):(aG "queues" (.ref q) (aG "turn" (.int 0) (aG "kind" (.str kd) [])))=[(("kind" : Str),V.str kd),(("turn" : Str),V.int 0),(("queues" : Str),V.ref q)]:=by
 have n1:¬("kind" : Str) = "turn":=dk;have n2:¬("kind" : Str) = "queues":=dk;have n3:¬("turn" : Str) = "queues":=dk;simp only[aG,n1,n2,n3,if_false]
theorem ahA{f C:Addr}{fd:aQ}(F:aP K "__init__" "Tray.__init__" EK f fd)(B:BT mg)(cT:kN K C)(mN:∃u,mg "NAMES" = some u/\RelV (.int 12) u):ao P w K mg base au 1 f fd ["self","kind"] (Up C):=by
 refine ay mN λuN mN rN=>F.ok ajY (λvs H Q E h=>?_) λaD A _ s H vs Q E hr h=>?_
 ·refine kG h λx dx kd aa _=>?_;clear h;subst aa;rfl
 ·refine i9 h λx dx kd aa hx k=>?_;clear h;subst aa
  refine let R1:TS:=_;let R2:TS:=_;⟨_,aA (gi (pv 0) (pv 1) rfl) (pR R2 (aA (gi (pv 0) aw rfl) (pR R1 (ax (gi (pv 0) (gh (N:=["name"]) (idx:=[]) rfl (c9.of (by kernel_rfl)) (gC (bU _))
   (jk rfl B.range (ae (eE rfl mN rN) af)) (λ_ _ _ _=>br (i:=0) aeO rfl (aN rfl) (.inr rfl)) (λ_ _ _ _=>gZ) λ_ _ _ _=>dY af) rfl))))),?_⟩
  refine vr rfl (vr rfl (nK x C dx ([]) rfl hx cT.cl cT.kind qc (az _ rfl (⟨x,C,dx,(lJ _ rfl av cT.cl cT.turn (ah' _ _) ?_)⟩))));rw[mm];refine⟨12,rfl,qc,qc,?_⟩;generalize xq:upd H x (.ins C dx (aG "turn" (.int 0) (aG "kind" (.str kd) [])))=H1;have gc:H1 x=some (.ins C dx (aG "turn" (.int 0) (aG "kind" (.str kd) []))):=by rw[<-xq];exact av
  have n1:∀b,H1 b=none->H b=none:=λb e=>by
   rw[<-xq]at e
   by_cases z:b=x
   ·rw[z,av]at e;cases e
   ·rwa[ak z]at e
  refine fk (n:=12) (λi ys H'=>∃qr:List Addr,ys=qr.map V.ref/\qr.length=i/\qr.Nodup/\(∀b∈qr,H' b=some (.lst [])/\H1 b=none)/\ah H1 H') qc ⟨[],rfl,rfl,.nil,(λb hb=>nomatch hb),ah.refl _⟩ ?_ ?_ ?_ ?_ ?_
  ·rintro i ys H' ⟨qr,rfl,hl,_⟩;rw[aH,hl];exact aB _
  ·rintro i ys H' hi _;exact hi
  ·rintro ys H' _;exact aB _
  ·rintro i ys H' hi ⟨qr,rfl,hl,nd,hq,sm⟩ y gd ⟨eH,ey⟩;subst eH;dsimp only[iX,lO];rw[if_pos rfl];refine⟨qc,λp hp=>⟨qr++[p],by simp,by simp[hl],?_,λb hb=>?_,aI sm hp⟩⟩
   ·refine Zd.mpr (gu nd (by simp) λb hb c hc=>?_);rw[eN.mp hc];exact bJ (hq b hb).1 hp
   ·rcases jH.mp hb with z | z
    ·exact⟨by rw[ak (bJ (hq b z).1 hp)];exact(hq b z).1,(hq b z).2⟩
    ·rw[eN.mp z];refine⟨av,?_⟩;cases e:H1 p with
     | none=>rfl
     | some o=>rw[sm _ _ e]at hp;cases hp
  ·rintro ys H' ⟨qr,rfl,hl,nd,hq,sm⟩;refine⟨by rw[aH,hl];decide,λq zF=>?_⟩;have nx:=bJ (sm _ _ gc) zF;refine vr rfl (⟨x,C,dx,(lJ _ rfl (by rw[ak nx];exact sm _ _ gc) cT.cl cT.tS (ah9 _ _ _ _) ?_)⟩);have za:q∉qr:=λz=>by rw[(hq q z).1]at zF;cases zF
   have xqr:x∉qr:=λz=>by have:=(hq x z).2;rw[gc]at this;cases this
   refine k _ q qr ⟨⟨dx,_,av,?_,?_,?_,?_,?_⟩,by rw[ak (eT nx),av],hl,nd,za,λi b hb=>⟨[],?_,by rw[aeo];exact .nil⟩,⟨.nil,(λe he=>nomatch he),(λe he=>nomatch he)⟩⟩ (λb o hb e=>?_) λb hb=>?_
   ·rw[dn,if_neg dk,dn,if_neg dk,dn,if_pos rfl]
   ·rw[dn,if_neg dk,dn,if_pos rfl]
   ·rw[dn,if_pos rfl]
   ·intro m hm;refine dU (Rl m hm) λm1 m2 m3=>?_;rw[dn,if_neg m3,dn,if_neg m2,dn,if_neg m1];rfl
   ·rw[pN];show 3<=20;decide
   ·have hm:=bw hb;have nbx:b≠x:=λz=>xqr (z ▸ hm);have nbq:b≠q:=λz=>za (z ▸ hm);rw[ak nbx,ak nbq];exact(hq b hm).1
   ·have e1:H1 b=some o:=by rw[<-xq,ak hb];exact e
    have e2:=sm _ _ e1;rw[ak hb,ak (bJ e2 zF)];exact e2
   ·refine n1 b ?_;rcases bR.mp hb with z | z
    ·subst z;cases e:H1 b with
     | none=>rfl
     | some o=>rw[sm _ _ e]at zF;cases zF
    ·exact(hq b z).2
def D'(F:List Addr)(H H':Hp):Prop:=∀b o,b∉F->H b=some o->H' b=some o
theorem agg{n:Nat}(h:n<=20000):n<bN:=by rw[jK];exact wb
theorem Jl(es:List Ent)(i:Nat):(cG es i).length<=es.length:=sX _ _
theorem Hn{α β:Type}{F:α->β->Prop}{a:α}{b:β}:∀{l:List α} {r:List β},Paired F l r->F a b->Paired F (l++[a]) (r++[b])
 | _,_,.nil,h=>.cons h .nil
 | _,_,.cons g t,h=>.cons g (Hn t h)
theorem dy.UP{H:Hp}{a C q:Addr}{kd:Str}{tn:Int}{es:List Ent}{qr:List Addr}(T:dy H a C kd tn es q qr){n:Int}(h0:0<=n)(h1:n<12):∃i:Nat,n=i/\i<12/\∃b,qr[i]?=some b/\fw (qr.map V.ref) n=some (.ref b):=by
 have hl:=T.len;obtain⟨i,rfl⟩:∃i:Nat,n=i:=⟨n.toNat,xm⟩;have hi:i<qr.length:=li;refine eZ i rfl li (az (qr[i]) (aR hi) (cD ?_));rw[eJ,aR hi];rfl
theorem SS{f:Str}{v:V}:∀(fs:List (Str×V)) (u:V),fs.lookup f=some v->(aG f u fs).length=fs.length
 | [],_,e=>by cases e
 | (g,x)::r,u,e=>by
  by_cases h:g=f
  ·simp only[aG,if_pos h,gU]
  ·simp only[aG,if_neg h,gU];rw[SS r u];have hb:(f == g)=false:=by simpa using λz=>h z.symm
   rw[rP,hb]at e;exact e
def Tu(C:Addr):Sp:=λvs H Q _=>∃a n num d kd tn es q qr,vs=[.ref a,.int n,.int num,.int d]/\dy H a C kd tn es q qr/\0<=n/\n<12/\es.length<=20000/\
 ∀H',dy H' a C kd (tn+1) (es++[⟨tn,n,num,d⟩]) q qr->D' (a::q::qr) H H'->Q .aE H'
theorem afE:aZ ["self","name","number","deed"] ["self","name","number","deed"] (aM Kr):=a8
theorem aey{f C:Addr}{fd:aQ}(F:aP K "add" "Tray.add" Kr f fd)(cT:kN K C):ao P w K mg base au 1 f fd ["self","name","number","deed"] (Tu C):=by
 refine F.ok afE (λvs H Q E h=>?_) λaD A _ s H vs Q E hr h=>?_
 ·refine dZ h λa n num d kd aa=>jm aa λtn es q qr aa _=>?_;subst aa;rfl
 ·refine dZ h λa n num d kd aa=>jm aa λtn es q qr aa bg=>?_;subst aa;obtain⟨T,h0,h1,hz,k⟩:=bg;refine let R1:TS:=_;⟨_,aA (gg (qD PySem.F.plainAttrs_list PySem.F.slot_list_append PySem.F.type_list_append vx (aJ cO (bf (pv 0) rfl) (pv 1)) (ae (jl (ae (bf (pv 0) rfl) (ae (jl (ae (pv 1) (ae (pv 2) (ae (pv 3) af)))) af))) af))) (pR R1 (ax (abd (pv 0) aw agm))),?_⟩
  refine eO (id T.obj) λdx fs ea e1 e2 e3 em el=>aX (T.UP h0 h1) λi aa hi bg=>?_;subst aa;refine ay bg λb hb hat=>ay (T.jg i b hb) λvs eb rb=>?_;have va:=bw hb;have lv:=Paired.length rb;have lq:=Jl es i;refine vF rfl ea cT.cl cT.tS e3 (vr rfl (rL (v:=.ref b) (aq.of T.qs) (hat) ⟨.inl ⟨rfl,_,aq.of eb⟩,vF rfl ea cT.cl cT.turn e2 (az _ rfl (vr rfl (vr rfl ⟨(sl (n:=3)),(λst cX=>⟨(sl (n:=2)),λp hp=>?_⟩)⟩)))⟩));have zw:∀c o,H c=some o->c≠st:=λc o e=>bJ e cX;have np:=λc o e=>bJ (by rw[ak (zw c o e)];exact e) hp;have nsp:=bJ av hp;have up:∀c o,H c=some o->upd (upd H st (.tup [.int (i:Int),.int num,.int d])) p (.tup [.int tn,.ref st]) c=some o:=λc o e=>by rw[ak (np c o e),ak (zw c o e)];exact e
  have BL:=ik ea eb (by intro z;cases z);have MH:q≠b:=λz=>T.nq (z ▸ va);refine⟨b,vs,(.ref p),rfl,rfl,(up _ _ eb),(agg li),(az _ rfl (dS a C dx fs (lJ _ rfl (by rw[ak BL];exact up _ _ ea) cT.cl cT.turn e2 ⟨_,_,rfl,rfl,dx,fs,by rw[ak BL];exact up _ _ ea,wb,?_⟩)))⟩;have pb:=eT (np b _ eb);have pa:=eT (np a _ ea);have sb:=eT (zw b _ eb);have sa:=eT (zw a _ ea);generalize B4:upd (upd (upd (upd H st (.tup [.int (i:Int),.int num,.int d])) p (.tup [.int tn,.ref st])) b (.lst (vs++[.ref p]))) a (.ins C dx (aG "turn" (.int (tn+1)) fs))=H2;have g0:∀c o,c≠a->c≠b->H c=some o->H2 c=some o:=λc o z1 z2 e=>by rw[<-B4,ak z1,ak z2];exact up c o e
  have ga:H2 a=some (.ins C dx (aG "turn" (.int (tn+1)) fs)):=by rw[<-B4];exact av
  have gb:H2 b=some (.lst (vs++[.ref p])):=by rw[<-B4,ak (eT BL)];exact av
  have gp:H2 p=some (.tup [.int tn,.ref st]):=by rw[<-B4,ak pa,ak pb];exact av
  have gs:H2 st=some (.tup [.int (i:Int),.int num,.int d]):=by rw[<-B4,ak sa,ak sb,ak nsp];exact av
  have kt:∀c xs,H c=some (.tup xs)->H2 c=some (.tup xs):=λc xs e=>g0 c _ (ik e ea (by intro z;cases z)) (ik e eb (by intro z;cases z)) e;refine k H2 ⟨⟨dx,_,ga,?_,?_,?_,λm hm=>?_,?_⟩,g0 q _ (ik T.qs ea (by intro z;cases z)) MH T.qs,T.len,T.nd,T.nq,λj c hc=>?_,afs T.wf h0 h1⟩ λc o hc e=>g0 c o (λz=>hc (by simp[z])) (λz=>hc (by simp[z,va])) e
  ·rw[dn,if_neg dk];exact e1
  ·rw[dn,if_pos rfl]
  ·rw[dn,if_neg dk];exact e3
  ·rw[dn,if_neg (Rl m hm).2.1];exact em m hm
  ·have:=SS fs (.int (tn+1)) e2;exact w7
  ·rw[RB]
   by_cases z:j=i
   ·subst z;rw[hb]at hc;cases hc;rw[if_pos rfl];exact az _ gb (Hn (vC (λ_ _ y=>y.keep (F:=[]) kt) rb) ⟨p,st,rfl,gp,gs⟩)
   ·rw[if_neg λy=>z (by have:(i:Int)=(j:Int):=y;lia)]
    have MJ:c≠b:=λy=>z (by
     subst y;have n1:=dC.mp hc;have n2:=dC.mp hb;refine oE n1 λp1 q1=>oE n2 λp2 q2=>?_;rcases xC j i with y | y | y
     ·exact absurd (q1.trans q2.symm) (ko.mp T.nd j i p1 p2 y)
     ·exact y
     ·exact absurd (q2.trans q1.symm) (ko.mp T.nd i j p2 p1 y))
    refine(T.jg j c hc).keep (λo e=>g0 c o (λy=>?_) MJ e) kt;refine ay (T.jg j c hc) λnz e' _=>?_;rw[y,ea]at e';cases e'
theorem aaw{α β:Type}{F:α->β->Prop}{r:List β}(h:Paired F [] r):r=[]:=by cases h;rfl
theorem OT{H:Hp}:∀{vs:List V} {l:List Ent},Paired (jd H) vs l->vs≠[]->∃nz v e,vs=nz++[v]/\l.getLast?=some e/\jd H v e
 | _,_,.nil,h=>absurd rfl h
 | _,_,.cons (a:=v) (b:=e) g t,_=>by
  cases t with
  | nil=>exact⟨[],v,e,rfl,rfl,g⟩
  | cons h t=>
   exact i9 (OT (.cons h t) (by simp)) λnz v' e' q1 q2 q3=>⟨(v::nz),v',e',(by rw[q1];rfl),(by rw[List.getLast?_cons_cons];exact q2),q3⟩
def QD(C:Addr):Sp:=λvs H Q _=>∃a n kd tn es q qr,vs=[.ref a,.int n]/\dy H a C kd tn es q qr/\0<=n/\n<12/\es.length<=20000/\
 (Dr es n.toNat=none->Q .aE H)/\∀e st,Dr es n.toNat=some e->H st=some (.tup [.int e.n,.int e.num,.int e.d])->Q (.ref st) H
theorem P2:aZ ["self","name","queue"] ["self","name"] (aM Ij):=a8
theorem aaA{f C:Addr}{fd:aQ}(F:aP K "latest" "Tray.latest" Ij f fd)(B:BT mg)(cT:kN K C):ao P w K mg base au 1 f fd ["self","name"] (QD C):=by
 refine F.ok P2 (λvs H Q E h=>?_) λaD A _ s H vs Q E hr h=>?_
 ·refine dZ h λa n kd tn es aa=>b8 aa λq qr aa _=>?_;subst aa;rfl
 ·obtain⟨a,n,kd,tn,es,q,qr,aa,T,h0,bg⟩:=h;subst aa;obtain⟨h1,hz,k0,k1⟩:=bg;refine let R1:TS:=_;⟨_,aA (cC (i:=2) P2.nd rfl (aN rfl) (aJ cO (bf (pv 0) rfl) (pv 1))) (pR R1 (ax (aS (Iy (cy dE (bp dR rfl B.len PySem.boot_len (ae (pv 2) af)) aw (bX _)) kz (aJ cu (aJ cO (pv 2) (KA Sf aw)) aw))))),?_⟩
  refine eO (id T.obj) λdx fs ea e1 e2 e3 em el=>aX (T.UP h0 h1) λi aa hi bg=>?_;subst aa;refine ay bg λb hb hat=>?_;rw[gy]at k0 k1;refine ay (T.jg i b hb) λvs eb rb=>vF rfl ea cT.cl cT.tS e3 (vr rfl (rL (v:=.ref b) (aq.of T.qs) (hat) (vr rfl ⟨b,⟨_,rfl,.inl (aq.of eb),rfl,_,rfl,b9 (λz=>?_) λz=>?_⟩⟩)))
  ·have hv:vs=[]:=by
    injection z with z
    exact vk.mp li
   subst hv;refine k0 ?_;unfold Dr;rw[aaw rb];rfl
  ·have hv:vs≠[]:=λy=>z (by rw[y];rfl);refine i9 (OT rb hv) λnz v e q1 q2 aa=>dF aa λp st aa q3 q4=>?_;subst aa;subst q1;refine vr rfl (az _ rfl (rL (v:=.ref p) (aq.of eb) (Rg _ _) (rT (v:=.ref st) (ar.of q3) (rfl) (k1 e st q2 q4))))
def Rt(C:Addr):Sp:=λvs H Q _=>∃a kd tn es q qr,vs=[.ref a]/\dy H a C kd tn es q qr/\∀H',ah H H'->Q (.bl (decide (es=[]))) H'
theorem aco:aZ ["self"] ["self"] (aM Jb):=a8
theorem acU:(["queue"]:List Str).Nodup:=dk
theorem aaV{tn:Int}{es:List Ent}(w:nv tn es)(h:∀i,i<12->cG es i=[]):es=[]:=by
 cases es with
 | nil=>rfl
 | cons e r=>
  refine oA (w.nm e fJ) λh0 h1=>?_;have:=h e.n.toNat li;unfold cG at this;rw[xE,if_pos (by simp;lia)]at this;cases this
theorem all_empty{tn:Int}{es:List Ent}(w:nv tn es):((List.range 12).map λi=>decide (cG es i=[])).all id=decide (es=[]):=by
 by_cases h:es=[]
 ·subst h;rfl
 ·rw[decide_eq_false h,Aj];cases e:(List.range 12).all (id ∘ λi=>decide (cG es i=[]))with
  | false=>rfl
  | true=>
   exfalso;exact h (aaV w λi hi=>by simpa using Gp.mp e i (iN.mpr hi))
theorem abo{f C:Addr}{fd:aQ}(F:aP K "is_empty" "Tray.is_empty" Jb f fd)(B:BT mg)(cT:kN K C):ao P w K mg base au 1 f fd ["self"] (Rt C):=by
 refine F.ok aco (λvs H Q E h=>?_) λaD A _ s H vs Q E hr h=>?_
 ·refine ml h λa kd tn es q qr aa _=>?_;subst aa;rfl
 ·refine dZ h λa kd tn es q aa=>aX aa λqr aa T k=>?_;subst aa
  refine⟨_,ax (aS (bp (AI rfl) rfl B.all Dd (ae (gh (N:=["queue"]) (idx:=[]) rfl (c9.of (by kernel_rfl)) (gC (bU _)) (o7 (bf (pv 0) rfl))
   (λ_ _ _ _=>br (i:=0) acU rfl (aN rfl) (.inr rfl)) (λ_ _ _ _=>gZ) λ_ _ _ _=>qt dE (bp (len_K K) rfl B.len PySem.boot_len (ae (pv 0) af)) aw (bX _)) af))),?_⟩
  refine eO (id T.obj) λdx fs ea e1 e2 e3 em el=>az _ rfl (dS a C dx fs (lJ _ rfl ea cT.cl cT.tS e3 (eZ q rfl ⟨_,aq.of T.qs⟩ ?_)));have hl:=T.len;refine fk (n:=12) (λi ys H'=>H'=H/\ys=(List.range i).map λj=>V.bl (decide (cG es j=[]))) qc ⟨rfl,rfl⟩ ?_ ?_ ?_ ?_ ?_
  ·rintro i ys H' ⟨_,rfl⟩;rw[aH,rK];exact aB _
  ·rintro i ys H' hi ⟨rfl,_⟩;exact iD _ (V.ref (qr[i]'wg)) (aq.of T.qs) (by rw[eJ,aR wg];rfl)
  ·rintro ys H' ⟨rfl,_⟩;exact az _ (aq.of T.qs) (by rw[aH,hl];exact aB _)
  ·rintro i ys H' hi ⟨rfl,rfl⟩ y gd ⟨eH,hy⟩;subst eH;have nA:=hy _ (aq.of T.qs);rw[eJ,aR wg]at nA;cases nA;refine ay (T.jg i _ (aR wg)) λvs eb rb=>?_;dsimp only[iX,lO];rw[if_pos rfl];refine vr rfl ⟨_,⟨_,rfl,.inl (aq.of eb),rfl,rfl,?_⟩⟩;rw[oS,gf]
   congr 1
   have lv:=Paired.length rb;simp only[iz,O0,List.cons.injEq,V.bl.injEq,and_true];refine decide_eq_decide.mpr ⟨λz=>?_,λz=>?_⟩
   ·injection z with z
    exact vk.mp li
   ·rw[z]at lv;rw[lv];rfl
  ·rintro ys H' ⟨rfl,rfl⟩;refine⟨by rw[aH,rK];decide,λp hp=>eG p ((List.range 12).map λj=>decide (cG es j=[])) rfl (aq.of (by rw[av,lF];rfl)) ?_⟩;rw[all_empty T.wf];exact k _ (aI (ah.refl _) hp)
def tW(es:List Ent)(i:Nat):List Int:=((List.range i).filter λj=>decide (cG es j≠[])).map λ(j:Nat)=>(j:Int)
theorem Pa(es:List Ent)(i:Nat):tW es (i+1)=tW es i++(if cG es i≠[] then [(i:Int)] else []):=by
 unfold tW;rw[oS,xy,gf]
 congr 1
 by_cases h:cG es i≠[]
 ·rw[if_pos h,F9 (by simpa using h)];rfl
 ·rw[if_neg h,F' (by simpa using h)];rfl
theorem PL(es:List Ent)(i:Nat):(tW es i).length<=i:=by
 unfold tW;rw[aH];have h:=sX (λj=>decide (cG es j≠[])) (List.range i);rw[rK]at h;exact h
def ux(es:List Ent)(n:Int):Int:=((cG es n.toNat).head?.map (·.t)).getD 0
theorem G'{tn:Int}{es:List Ent}{e:Ent}(w:nv tn es)(h:es.head?=some e):e.n∈kC es:=by
 have hm:e∈es:=by
  cases es with
  | nil=>cases h
  | cons x r=>cases h;exact fJ
 refine oA (w.nm e hm) λh0 h1=>Ax.mpr (eZ e.n.toNat li xm λz=>?_);have:=Q3 (i:=e.n.toNat) h xm;rw[z]at this;cases this
theorem aek{tn:Int}{es:List Ent}{m:Int}(w:nv tn es)(hm:m∈kC es)(hb:∀n∈kC es,ux es m<=ux es n):(es.head?.map (·.n)).toList=[m]:=by
 refine aX (Ax.mp hm) λi hi aa dX=>?_;subst aa;cases es with
 | nil=>exact absurd rfl dX
 | cons e r=>
  have h1:=hb e.n (G' w rfl);refine oA (w.nm e fJ) λn0 n1=>?_
  have k1:ux (e::r) e.n=e.t:=by
   unfold ux;rw[Q3 (i:=e.n.toNat) (e:=e) rfl xm];rfl
  cases q:cG (e::r) i with
  | nil=>exact absurd q dX
  | cons x l=>
   have k2:ux (e::r) (i:Int)=x.t:=by
    unfold ux;rw[gy,q];rfl
   have hx:x∈cG (e::r) i:=by rw[q];exact fJ
   unfold cG at hx;refine oA (mf.mp hx) λgc uI=>?_;have hn:x.n=(i:Int):=by simpa using uI
   rcases bR.mp gc with z | z
   ·show [e.n]=[(i:Int)];rw[<-z,hn]
   ·have:=(Ol.mp w.asc).1 x z;rw[k1,k2]at h1;lia
theorem ael{tn:Int}{es:List Ent}(w:nv tn es)(h:¬1<(kC es).length):(es.head?.map (·.n)).toList=kC es:=by
 cases es with
 | nil=>rfl
 | cons e r=>
  have hm:=G' (e:=e) w rfl
  match q:kC (e::r)with
  | []=>rw[q]at hm;cases hm
  | [x]=>
   rw[q]at hm;rw[<-eN.mp hm];rfl
  | _::_::_=>
   rw[q]at h;simp at h
abbrev LP:Pos:=⟨263,35,263,71⟩
abbrev LQ:Str:=("Tray.fronts" : Str) ++ ".<locals>." ++ "<lambda>"
def HY(C PT:Addr):Sp:=λvs H Q _=>∃a kd tn es q qr,vs=[.ref a]/\dy H a C kd tn es q qr/\de PT LP LQ H/\
 ∀H' l,gq [] H H'->de PT LP LQ H'->H l=none->H' l=some (.lst ((iU kd es).map V.int))->Q (.ref l) H'
theorem P4:aZ ["self","names"] ["self"] (aM CY):=a8
theorem TH:(["name","queue"]:List Str).Nodup:=dk
theorem Ed{x y:Str}(h:V.str x=V.str y):x=y:=by injection h
theorem aar{PT:Addr}{H H1 H2:Hp}{ps:Array Value}(s:ah H H1){Fc:Array Value}(t:uc PT H1 H2)(hP:H1 PT=some (.eL ps))(NB:H2 PT=some (.eL Fc)):gq [] H H2:=(gq.of s).trans (gq.VT t hP NB)
theorem Pl{f C PT c:Addr}{fd:aQ}(F:uk K "fronts" "Tray.fronts" CY f fd c)(B:BT mg)(cT:kN K C)(hC:W.CodeHd base c PT)(hB:sH mg base):ao P w K mg base au 2 f fd ["self"] (HY C PT):=by
 refine F.ok P4 (λvs H Q E h=>?_) λA outer s H vs Q E hr h=>?_
 ·refine ml h λa kd tn es q qr aa _=>?_;subst aa;rfl
 ·refine dZ h λa kd tn es q aa=>cQ aa λqr aa T uo k=>?_;subst aa;have W0:=hr.dp
  refine let R1:TS:=_;let R2:TS:=_;⟨_,aA (Hl (i:=1) (N:=["name","queue"]) (idx:=[]) P4.nd rfl rfl rfl (c9.of (by kernel_rfl)) (CI (bU _) (bU _)) (tK (b:=true) rfl B.enum (ae (bf (pv 0) rfl) af))
    (λ_ _ _ _=>nQ rfl (gH (br (i:=0) TH rfl (aN rfl) (.inr rfl)) (gH (br (i:=1) TH rfl (aN rfl) (.inr rfl)) nO)))
    (λ_ _ _ _=>yk (cy KD (bp (len_K K) rfl B.len PySem.boot_len (ae (pv 1) af)) aw (bX _))) λ_ _ _ _=>pv 0)
   (pR R2 (aA (bQ (PW.pt (pw_and (cy dE (bf (pv 0) rfl) cV (bX _)) (pw_and1 (cy KD (bp dR rfl B.len PySem.boot_len (ae (pv 1) af)) aw (bX _))))) (pR R1 (ax (aS (dY (ae (abg (N:=["self","name"]) (idx:=[0]) (k:=1) (px:="name") (P:=PT) rfl (by show A.depth+1+5<_;have h1:A.depth+1+3*1+5<Cv:=W0;lia) rfl B.min (pv 1) (c9.of (by kernel_rfl)) rfl hC hB rfl rfl qc
     (λ_ _ _ _ _ _=>aJ (yA K) (aJ (T5 K) (aJ (T5 K) (aip K (pv 0) rfl) (pv 1)) aw) aw) λ_ _ _ _ _ _=>rfl) af))))) cq)
   (ax (aS (pv 1))))),?_⟩
  refine eO (id T.obj) λdx fs ea e1 e2 e3 em el=>?_;have hl:=T.len;refine vF rfl ea cT.cl cT.tS e3 ⟨q,⟨_,rfl,aq.of T.qs,fk (n:=12) (λi ys H'=>ah H H'/\ys=(tW es i).map V.int) qc ⟨ah.refl _,rfl⟩ ?_ ?_ ?_ ?_ ?_⟩⟩
  ·rintro i ys H' ⟨_,rfl⟩;rw[aH];exact PL es i
  ·rintro i ys H' hi ⟨sm,_⟩;exact iD _ (V.ref (qr[i]'wg)) (aq.of (sm _ _ T.qs)) (by rw[eJ,aR wg];rfl)
  ·rintro ys H' ⟨sm,_⟩;exact az _ (aq.of (sm _ _ T.qs)) (by rw[aH,hl];exact aB _)
  ·rintro i ys H' hi ⟨sm,rfl⟩ y gd ⟨p,x,hp,ey,eH,hx⟩;subst ey;subst eH;have gc:=hx _ (aq.of (sm _ _ T.qs));rw[eJ,aR wg]at gc;cases gc;refine ay (T.jg i _ (aR wg)) λvs eb rb=>?_;have s2:ah H (upd H' p (.tup [.int i,.ref qr[i]])):=aI sm hp;have lv:=Paired.length rb;refine⟨p,⟨_,rfl,ar.of av,rfl,_,_,rfl,_,_,rfl,rfl,vr rfl ⟨_,⟨_,rfl,.inl (aq.of (s2 _ _ eb)),_,_,rfl,rfl,_,rfl,b9 (λz=>?_) λz=>?_⟩⟩⟩⟩
   ·refine vr rfl ⟨s2,?_⟩;rw[Pa,if_pos (λy=>by rw[y]at lv;rw[lv]at z;exact absurd z (by simp)),gf];rfl
   ·refine⟨s2,?_⟩;rw[Pa,if_neg λy=>y (vk.mp li),tu]
  ·rintro ys H' ⟨sm,rfl⟩;have wl:=PL es 12;refine⟨by rw[aH];exact cg (cx w4),λl1 Nf=>?_⟩;have s1:ah H (upd H' l1 (.lst ((tW es 12).map V.int))):=aI sm Nf;generalize xq:upd H' l1 (.lst ((tW es 12).map V.int))=H1 at s1;have uV:H1 l1=some (.lst ((kC es).map V.int)):=by rw[<-xq];exact av
   have BK:H l1=none:=by
    cases e:H l1 with
    | none=>rfl
    | some o=>rw[sm _ _ e]at Nf;cases Nf
   have wm:=oX uo s1;have T1:=T.vN (gq.of s1);refine eO (id T1.obj) λvi rE Cd f1 f2 f3 _ _=>?_;have done:(kC es).length<=12:=wl;refine az _ rfl (dS a C vi rE (⟨_,rfl,Cd,cT.cl,cT.kind,f1,rfl,(az _ rfl ?_)⟩))
   by_cases hk:kd = "row"
   ·rw[decide_eq_true (show V.str kd=V.str "row" by rw[hk])];refine iq (vr rfl ⟨l1,⟨_,rfl,.inl (aq.of uV),_,_,rfl,rfl,_,rfl,b9 (λz=>?_) λz=>?_⟩⟩)
    ·rw[aH]at z;refine az _ rfl (⟨l1,(kC es),(ux es),rfl,(aq.of uV),li,wm,(λH2 sp Bv=>ay (id wm) λps Xv _=>ay (id Bv) λFc Vx _=>?_)⟩);have kp:=gq.VT sp Xv Vx;have T2:=T1.vN kp;have nC:=kp.k l1 _ (by simp) (λps z=>by cases z) uV;refine gu (aq.of nC) (λm hm=>?_) λm hm hb=>?_
     ·refine aX (Ax.mp hm) λi hi aa dX=>?_;subst aa;refine eO (id T2.obj) λvh rD ea2 g1 g2 g3 _ _=>ay (T2.jg i _ (aR wg)) λvs eb rb=>?_;cases ME:cG es i with
      | nil=>exact absurd ME dX
      | cons x r=>
       rw[ME]at rb;cases rb with
       | cons hx Ft=>
        refine dF hx λp st aa q1 q2=>?_;clear hx;subst aa;refine vF rfl ea2 cT.cl cT.tS g3 (vr rfl (rL (v:=.ref (qr[i]'wg)) (aq.of T2.qs) ((cD (by rw[eJ,aR wg];rfl))) (Mp (v:=.ref p) (j:=0) eb rfl (rT (v:=.int x.t) (ar.of q1) (cD (j:=0) rfl) ⟨?_,rfl⟩))))
        ·unfold ux;rw[gy,ME];rfl
     ·refine⟨(sl (n:=1)),λl hn=>k _ l ((aar s1 sp Xv Vx).trans (gq.of (aI (ah.refl _) hn))) (oX Bv (aI (ah.refl _) hn)) ?_ ?_⟩
      ·cases e:H l with
       | none=>rfl
       | some o=>
        by_cases zp:l=PT
        ·refine ay Bv λps2 h2 _=>?_;rw[zp,h2]at hn;cases hn
        ·rw[sp _ _ zp (s1 _ _ e)]at hn;cases hn
      ·rw[av];unfold iU;rw[if_pos hk,aek T.wf hm hb];rfl
    ·rw[aH]at z;refine vr rfl (k H1 l1 (gq.of s1) wm BK ?_);rw[uV];unfold iU;rw[if_pos hk,ael T.wf li]
   ·rw[decide_eq_false (show ¬V.str kd=V.str "row" from λz=>hk (Ed z))];refine dN (dN (vr rfl (k H1 l1 (gq.of s1) wm BK ?_)));rw[uV];unfold iU;rw[if_neg hk]
theorem ae5(n:Int)(ns:List Int):wB (.int n) (ns.map V.int)=decide (n∈ns):=by
 unfold wB
 induction ns with
 | nil=>rfl
 | cons m r ih=>
  rw[iz,tE,ih]
  by_cases h:m=n
  ·subst h;simp[nj]
  ·have:nj (.int m) (.int n)=false:=by simp[nj,h]
   rw[this,Bool.false_or];exact decide_eq_decide.mpr ⟨λz=>dJ _ z,λz=>(bR.mp z).resolve_left λy=>h y.symm⟩
theorem abL(ns:List Int):(ns.map V.int).all sr=true:=by
 rw[Aj];exact Gp.mpr λ_ _=>rfl
theorem Qj{kd:Str}{tn:Int}{es:List Ent}{n:Int}(w:nv tn es)(h:n∈iU kd es):∃i:Nat,i<12/\n=i/\∃e r,cG es i=e::r:=by
 have hw:n∈kC es:=by
  unfold iU at h
  by_cases hk:kd = "row"
  ·rw[if_pos hk]at h;cases es with
   | nil=>cases h
   | cons e r=>
    have e1:n=e.n:=by simpa using h
    rw[e1];exact G' w rfl
  ·rw[if_neg hk]at h;exact h
 refine aX (Ax.mp hw) λi hi e dX=>eZ i hi e ?_;cases q:cG es i with
 | nil=>exact absurd q dX
 | cons x r=>exact⟨x,r,rfl⟩
def Sl(C PT kU:Addr):Sp:=λvs H Q E=>∃a n kd tn es q qr,vs=[.ref a,.int n]/\dy H a C kd tn es q qr/\de PT LP LQ H/\
 (n∈iU kd es->∀H' e st,(cG es n.toNat).head?=some e->dy H' a C kd tn (qH es n) q qr->gq (a::q::qr) H H'->de PT LP LQ H'->H' st=some (.tup [.int e.n,.int e.num,.int e.d])->Q (.ref st) H')/\
 (n∉iU kd es->∀H',gq [] H H'->de PT LP LQ H'->E (.ref kU) none H')
theorem ad8:aZ ["self","name"] ["self","name"] (aM JG):=a8
theorem acG{f fW fF C PT c kU:Addr}{fd eM jj:aQ}(F:aP K "take" "Tray.take" JG f fd)(B:BT mg)(cT:kN K C)(hC:W.CodeHd base c PT)(hB:sH mg base)
  (FW:aP K "is_whole" "is_whole" IZ fW eM) (bW:Binds K eM ["thing"] []) (mW:mg "is_whole" = some (.ref fW)) (FF:uk K "fronts" "Tray.fronts" CY fF jj c) (bF:Binds K jj ["self"] []) (mF:Meth K C "fronts" fF)
  (xc:XC K kU) (mM:mg "NoMove" = some (.ref kU)):ao P w K mg base (lU P w) 3 f fd ["self","name"] (Sl C PT kU):=by
 have GW:ao P w K mg base au 1 fW eM ["thing"] QA:=abj FW B;have GF:ao P w K mg base au 2 fF jj ["self"] (HY C PT):=Pl FF B cT hC hB;refine F.Mh ad8 (λvs H Q E h=>?_) λaD A outer s H vs Q E hr hL hp h=>?_
 ·refine dZ h λa n kd tn es aa=>b8 aa λq qr aa _=>?_;subst aa;rfl
 ·obtain⟨a,n,kd,tn,es,q,qr,aa,T,uo,bg⟩:=h;subst aa;obtain⟨k1,k2⟩:=bg
  refine let R1:TS:=_;let R2:TS:=_;⟨_,aA (bQ (PW.pt (pw_or (iV (dD (bx GW (hr.mono qc) rfl mW FW.kp bW .nil aO (ae (pv 1) af))))
    (pw_or1 (cy G9 (pv 1) (vz (pv 0) cT.cl mF GF hr bF .nil aO) rfl)))) (pR R1 (ax (Iu rfl hL xc rfl mM (ae cV af)))) cq)
   (pR R2 (ax (aS (aJ cu (qD PySem.F.plainAttrs_list PySem.F.slot_list_pop PySem.F.type_list_pop acW (aJ cO (bf (pv 0) rfl) (pv 1)) (ae aw af)) aw)))),?_⟩
  refine eO (id T.obj) λdx fs ea e1 e2 e3 em el=>vr rfl (eG (.int n) ("int") rfl rfl (az _ rfl (dN (vr rfl (vM rfl ea (em "fronts" dk) (⟨a,kd,tn,es,q,qr,rfl,T,uo,(λH1 l kp wm hn hl=>⟨l,⟨_,rfl,.inl (aq.of hl),rfl,abL _,_,rfl,?_⟩⟩)⟩))))));rw[if_pos rfl,ae5];refine Bd (λz=>⟨qc,k2 (of_decide_eq_false z) H1 kp wm⟩) λz=>?_
  ·have kg:=of_decide_eq_true z;have T1:=T.vN kp;refine aX (Qj T.wf kg) λi hi aa bg=>?_;subst aa;refine wz bg λe r he=>eO (id T1.obj) λvi rE Cd f1 f2 f3 fm fl=>?_;have amO:=T1.len;have hb:qr[i]?=some (qr[i]'wg):=aR wg;refine ay (T1.jg i _ hb) λvs eb rb=>?_;have va:=bw hb;generalize qr[i]'wg=b at hb eb va;rw[he]at rb;cases rb with
   | cons hx Ft=>
    refine dF hx λp st aa q1 q2=>?_;clear hx;subst aa
    rename_i nz
    refine az _ rfl (dS a C vi rE (lJ _ rfl Cd cT.cl cT.tS f3 (vr rfl (rL (v:=.ref b) (aq.of T1.qs) (cD (by rw[eJ,hb];rfl)) ⟨.inl ⟨rfl,_,aq.of eb⟩,?_⟩))));refine⟨b,_,0,0,(.ref p),rfl,rfl,eb,qc,qc,(by simp[HV]),rfl,?_⟩;have npb:=ik q1 eb (by intro z;cases z);have nsb:=ik q2 eb (by intro z;cases z);refine rT (v:=.ref st) (ar.of (by rw[ak npb];exact q1)) (cD (j:=1) rfl) ?_
    have ka:D' (a::q::qr) H1 (upd H1 b (.lst nz)):=λc o hc ec=>by
     rw[ak λz=>hc (by simp[z,va])];exact ec
    have kt:∀c xs,H1 c=some (.tup xs)->upd H1 b (.lst nz) c=some (.tup xs):=λc xs ec=>by rw[ak (ik ec eb (by intro z;cases z))];exact ec
    have BL:=ik Cd eb (by intro z;cases z);have MH:q≠b:=λz=>T1.nq (z ▸ va)
    refine k1 kg _ e st (by rw[gy,he];rfl) ⟨⟨vi,rE,by rw[ak BL];exact Cd,f1,f2,f3,fm,fl⟩,by rw[ak MH];exact T1.qs,T1.len,T1.nd,T1.nq,λj c hc=>?_,adL T1.wf _⟩
     ⟨λc o hc ht ec=>ka c o hc (kp.k c o (by simp) ht ec),λc h=>kp.t c (by
      by_cases z:c=b
      ·rw[z,av]at h;cases h
      ·rwa[ak z]at h)⟩ (An wm ka T1.kinds) (by rw[ak nsb];exact q2)
    rw[acw]
    by_cases zj:j=i
    ·subst zj;rw[hb]at hc;cases hc;rw[if_pos rfl,he];exact az nz av (vC (λ_ _ y=>y.keep (F:=[]) kt) Ft)
    ·rw[if_neg λy=>zj (by have:(i:Int)=(j:Int):=y;lia)]
     have MJ:c≠b:=λy=>zj (by
      subst y;refine oE (dC.mp hc) λp1 q1=>?_;refine oE (dC.mp hb) λp2 q2=>?_;rcases xC j i with y | y | y
      ·exact absurd (q1.trans q2.symm) (ko.mp T1.nd j i p1 p2 y)
      ·exact y
      ·exact absurd (q2.trans q1.symm) (ko.mp T1.nd i j p2 p1 y))
     exact(T1.jg j c hc).keep (λo e=>by rw[ak MJ];exact e) kt
def QB(C PT vV:Addr):Sp:=λvs H Q E=>∃v T,vs=[v]/\tyName H v=some T/\
 ((v=.str "row"\/v=.str "name"\/v=.str "none")->∀kd H' x q qr,v=.str kd->dy H' x C kd 0 [] q qr->D' [] H H'->(∀b∈x::q::qr,H b=none)->Q (.ref x) H')/\
 (¬(v=.str "row"\/v=.str "name"\/v=.str "none")->E (.ref vV) none H)
theorem acn:aZ ["kind"] ["kind"] (aM Ja):=a8
theorem RO{H:Hp}{v:V}{T:String}(h:tyName H v=some T):qM T "str" = true↔∃x,v=.str x:=by
 constructor
 ·intro z;cases v with
  | str x=>exact⟨x,rfl⟩
  | aE=>cases h;cases z
  | bl b=>cases h;cases z
  | int i=>cases h;cases z
  | ref a=>
   unfold tyName at h;cases e:H a with
   | none=>simp only[e]at h;cases h
   | some o=>
    cases o with
    | lst xs=>simp only[e]at h;cases h;cases z
    | tup xs=>simp only[e]at h;cases h;cases z
    | _=>simp only[e]at h;cases h
  | _=>cases h
 ·rintro⟨x,rfl⟩;cases h;rfl
theorem Qm{e:Ent}{f:Nat->List Ent}:∀n:Nat,((∃k:Nat,k<n/\e.n=(k:Int))->gY ((List.range n).flatMap λ(i:Nat)=>if e.n=(i:Int) then e::f i else f i) (e::(List.range n).flatMap f))/\
  ((¬∃k:Nat,k<n/\e.n=(k:Int))->((List.range n).flatMap λ(i:Nat)=>if e.n=(i:Int) then e::f i else f i)=(List.range n).flatMap f)
 | 0=>⟨λ⟨k,hk,_⟩=>absurd hk (Af _),λ_=>rfl⟩
 | n+1=>by
  refine oA (Qm (e:=e) (f:=f) n) λi1 i2=>?_;have eF:∀g:Nat->List Ent,(List.range (n+1)).flatMap g=(List.range n).flatMap g++g n:=λg=>by rw[oS,Cj];simp
  rw[eF,eF];constructor
  ·rintro⟨k,hk,ek⟩
   by_cases h:e.n=(n:Int)
   ·have hY:¬∃k:Nat,k<n/\e.n=(k:Int):=λ⟨j,hj,ej⟩=>li;rw[i2 hY,if_pos h];exact Zj
   ·rw[if_neg h];exact(i1 ⟨k,li,ek⟩).append_right _
  ·intro hY;rw[i2 λ⟨j,hj,ej⟩=>hY ⟨j,li,ej⟩,if_neg λh=>hY ⟨n,w1,h⟩]
theorem O6:∀{es:List Ent},(∀e∈es,0<=e.n/\e.n<12)->gY ((List.range 12).flatMap (cG es)) es
 | [],_=>by
  have:(List.range 12).flatMap (cG [])=[]:=List.flatMap_eq_nil_iff.mpr λi _=>rfl;rw[this]
 | e::r,h=>by
  have hf:(cG (e::r))=λi=>if e.n=((i:Nat):Int) then e::cG r i else cG r i:=by
   funext i
   unfold cG;rw[xE]
   by_cases z:e.n=(i:Int)
   ·simp only[decide_eq_true z,if_true,if_pos z]
   ·simp only[decide_eq_false z,p9,if_false,if_neg z]
  refine oA (h e fJ) λh0 h1=>?_;rw[hf];exact((Qm (e:=e) (f:=cG r) 12).1 ⟨e.n.toNat,li,xm⟩).trans ((O6 λx hx=>h x (dJ _ hx)).cons e)
theorem O7{H:Hp}(qv:Nat->List V)(ql:Nat->List Ent):∀n:Nat,(∀i:Nat,i<n->Paired (jd H) (qv i) (ql i))->Paired (jd H) ((List.range n).flatMap qv) ((List.range n).flatMap ql)
 | 0,_=>.nil
 | n+1,h=>by
  have eF:∀{α:Type} (g:Nat->List α),(List.range (n+1)).flatMap g=(List.range n).flatMap g++g n:=λg=>by rw[oS,Cj];simp
  rw[eF,eF];exact paired_cat (O7 qv ql n λi hi=>h i li) (h n (xD n))
where
 paired_cat {H:Hp}:∀{l l':List V} {r r':List Ent},Paired (jd H) l r->Paired (jd H) l' r'->Paired (jd H) (l++l') (r++r')
 | _,_,_,_,.nil,h=>h
 | _,_,_,_,.cons g t,h=>.cons g (paired_cat t h)
theorem P7{α β:Type}{F:α->β->Prop}:∀{l:List α} {r:List β},l.length=r.length->(∀(i:Nat) a b,l[i]?=some a->r[i]?=some b->F a b)->Paired F l r
 | [],[],_,_=>.nil
 | [],_::_,h,_=>by cases h
 | _::_,[],h,_=>by cases h
 | a::l,b::r,h,k=>.cons (k 0 a b rfl rfl) (P7 (by simpa using h) λi x y hx hy=>k (i+1) x y (by simpa using hx) (by simpa using hy))
theorem Hm{H:Hp}:∀{l:List V} {r:List Ent},Paired (jd H) l r->∀q∈(l.zip r).map λz=>(z.2.t,z.1),∃e∈r,q.1=e.t/\jd H q.2 e
 | _,_,.nil,q,h=>by cases h
 | _,_,.cons (a:=v) (b:=e) g t,q,h=>by
  rw[Y2,iz]at h;rcases bR.mp h with z | z
  ·rw[z];exact eZ e fJ rfl g
  ·exact ay (Hm t q z) λe' h1 h2=>az e' (dJ _ h1) h2
theorem zip_parts{H:Hp}:∀{l:List V} {r:List Ent},Paired (jd H) l r->((l.zip r).map λz=>(z.2.t,z.1)).map (·.2)=l/\((l.zip r).map λz=>(z.2.t,z.1)).map (·.1)=r.map (·.t)
 | _,_,.nil=>⟨rfl,rfl⟩
 | _,_,.cons g t=>by
  refine oA (zip_parts t) λh1 h2=>?_;rw[Y2,iz,iz,iz,h1,h2];exact⟨rfl,rfl⟩
theorem Z1{H:Hp}{tn:Int}{es:List Ent}{vs:List V}{qs:List (Int×V)}{L:List Ent}(w:nv tn es)(hL:gY L es)(r:Paired (jd H) vs L)(hp:gY qs ((vs.zip L).map λz=>(z.2.t,z.1)))(ha:qs.Pairwise λa b=>a.1<b.1):Paired (jd H) (qs.map (·.2)) es:=by
 have e1:qs.map (·.1)=es.map (·.t):=by
  refine W.ksm_same ?_ (Co.mpr (ha.imp λh=>Int.le_of_lt h)) (Co.mpr (w.asc.imp λh=>Int.le_of_lt h));have:=hp.map (·.1);rw[(zip_parts r).2]at this;exact this.trans (hL.map _)
 have hl:qs.length=es.length:=by have:=congrArg List.length e1;simpa using this
 refine P7 (by rw[aH,hl]) λi v e hv he=>?_;rw[eJ]at hv;refine ay (xv.mp hv) λq hq aa=>?_;subst aa;refine aX (Hm r q (hp.mem_iff.mp (bw hq))) λe' he' ht hE=>?_
 have BP:q.1=e.t:=by
  have:(qs.map (·.1))[i]?=some q.1:=by rw[eJ,hq];rfl
  rw[e1,eJ,he]at this;exact(eC this).symm
 have he2:=hL.mem_iff.mp he'
 have:e'=e:=by
  refine oE (nJ he2) λj aa=>oE aa λhj ej=>oE (dC.mp he) λhi ei=>?_;have tt:es[j].t=es[i].t:=by rw[ej,ei,<-ht,BP]
  rcases xC j i with z | z | z
  ·have:=ko.mp w.asc j i hj hi z;lia
  ·subst z;rw[<-ej,<-ei]
  ·have:=ko.mp w.asc i j hi hj z;lia
 rw[<-this];exact hE
theorem Z5{tn:Int}{es L:List Ent}(w:nv tn es)(hL:gY L es):(L.map (·.t)).Nodup:=by
 exact(hL.map (·.t)).nodup_iff.mpr (Co.mpr (w.asc.imp λh=>Int.ne_of_lt h))
theorem abn{f fI C vV aK:Addr}{fd dO:aQ}(F:aP K "tray_of" "tray_of" Ja f fd)(B:BT mg)(cT:kN K C)(M:Mk K C fI)(FI:aP K "__init__" "Tray.__init__" EK fI dO)(bI:Binds K dO ["self","kind"] [])(mT:mg "Tray" = some (.ref C))(mN:∃u,mg "NAMES" = some u/\RelV (.int 12) u)
  (mK:mg "KINDS" = some (.ref aK)) (hK:∀H:Hp,ar K H aK [.str "row",.str "name",.str "none"]) (xc:XC K vV) (mX:mg "NoKind" = some (.ref vV)) {PT:Addr}:ao P w K mg base (lU P w) 3 f fd ["kind"] (QB C PT vV):=by
 have GI:ao P w K mg base au 1 fI dO ["self","kind"] (Up C):=ahA FI B cT mN;refine F.Mh acn (λvs H Q E h=>?_) λaD A outer s H vs Q E hr hL hp h=>?_
 ·refine b8 h λv T aa _=>?_;clear h;subst aa;rfl
 ·refine pj h λv T aa ht k1 k2=>?_;clear h;subst aa;refine let R1:TS:=_;let R2:TS:=_;⟨_,aA (bQ (PW.pt (pw_or (iV (dD (bp iB rfl B.hG iw (ae (pv 0) (ae (mq (v:=.ty "str") rfl B.str boot_str rfl) af))))) (pw_or1 (cy G9 (pv 0) (eE (v:=.ref aK) rfl mK rfl) rfl)))) (pR R1 (ax (Iu rfl hL xc rfl mX (ae cV af)))) cq) (pR R2 (ax (aS (se M GI hr rfl mT bI .nil aO (ae (pv 0) af))))),?_⟩
  refine vr rfl (dS _ _ _ _ (gJ _ rfl (oB ht) rfl (oh ht qc) (az _ rfl (Bd (λz=>?_) λz=>?_))))
  ·refine iq ⟨qc,k2 λy=>?_⟩;have:∃x,v=.str x:=by rcases y with y | y | y <;> exact⟨_,y⟩
   rw[(RO ht).mpr this]at z;cases z
  ·refine oE ((RO ht).mp z) λx aa=>?_;subst aa;refine vr rfl ⟨aK,⟨_,rfl,.inr (hK H),rfl,rfl,_,rfl,?_⟩⟩;rw[if_pos rfl]
   have ei:wB (.str x) [.str "row",.str "name",.str "none"]=decide (V.str x=.str "row"\/V.str x=.str "name"\/V.str x=.str "none"):=by
    unfold wB
    have g:∀y:Str,nj (.str y) (.str x)=decide (V.str x=V.str y):=λy=>by
     simp only[nj]
     by_cases q:x=y
     ·subst q;simp
     ·have:¬V.str x=V.str y:=λe=>q (Ed e);rw[decide_eq_false this];exact beq_eq_false_iff_ne.mpr λe=>q e.symm
    simp only[tE,List.any_nil,g,OP]
    by_cases q1:V.str x=.str "row" <;> by_cases q2:V.str x=.str "name" <;> by_cases q3:V.str x=.str "none" <;> simp[q1,q2,q3]
   rw[ei];refine Bd (λy=>⟨qc,k2 (of_decide_eq_false y)⟩) λy=>?_
   ·refine vr rfl λo dx no gR ne=>⟨o,dx,x,rfl,av,(λH' q qr T1 kp fr=>⟨rfl,k1 (of_decide_eq_true y) x H' o q qr rfl T1 (λb u _ e=>kp b u (bJ e no) ?_) λb hb=>?_⟩)⟩
    ·rw[ak (bJ e no),ak (bJ e gR)];exact e
    ·rcases bR.mp hb with z | z
     ·rw[z];exact no
     ·have:=fr b z;have nbo:b≠o:=λe=>by rw[e,av]at this;cases this
      rw[ak nbo]at this;have nbd:b≠dx:=λe=>by rw[e,av]at this;cases this
      rw[ak nbd]at this;exact this
end TL
namespace L2
open PySem PySem.Spec PySem.W PyProof.Rows
section
variable{X:Cx}
def afO(K:W.Frag):List V->Hp->VK->Prop:=λxs H Q=>∃(p:Addr) (ps:List (Int×V)),xs=[.ref p]/\aq K H p (ps.map (·.2))/\ps.length<64/\(∀q∈ps,∃a ys,q.2=.ref a/\ar K H a (.int q.1::ys))/\(ps.map (·.1)).Nodup/\
 ∀l qs,H l=none->gY qs ps->qs.Pairwise (λa b=>a.1<b.1)->Q (.ref l) (upd H l (.lst (qs.map (·.2))))
theorem ZT:jr X (.builtin "sorted") (afO X.K):=by
 intro p_ s σ H xs us Q I r h;obtain⟨p,ps,rfl,hl,h64,ht,nd,q⟩:=h;obtain⟨u,rfl,rx⟩:=vals1 r;cases rx;obtain⟨aj,rv,pl,hz⟩:=I.list hl;have hlen:=rv.length;rw[aH]at hlen;refine PY (H:=H) (collect_list pl.isList ?_ (by rw[jK];lia))
 have kp:∀b o,s.heap.get? b=some o->((s.heap.push (seqObj "list" #[] 0)).update s.heap.objs.size (i7 (· ++ aj.toArray))).get? b=some o:=λb o e=>by
  rw[Oh _ _ _ _ (dv (bq e))];exact bc _ e
 have tup:∀i,i<ps.length->∃a o vs n,aj.getD i eK=.ref a/\s.heap.get? a=some o/\o.cls=.type "tuple"/\o.data=.seq vs n/\∃t rest,vs.toList=gG ((ps.map (·.1)).getD i 0) t::rest:=λi hi=>by
  obtain⟨a,ys,e1,e2⟩:=ht _ (rQ hi);obtain⟨vs,rv2,⟨o,eo,co,n,do_⟩,_⟩:=I.tuple e2;obtain⟨u,eu,ru⟩:=rv.get (i:=i) (x:=.ref a) (by simp[hi,e1]);cases ru;cases rv2 with
  | cons ra rr=>
   obtain⟨t,rfl⟩:=ra;exact⟨a,o,_,n,by rw[dI,eu];rfl,eo,co,do_,t,_,by simp[hi];rfl⟩
 refine⟨ps.map (·.2),λi=>(ps.map (·.1)).getD i 0,I.kept kp,rv,⟨li,λi j hi hj e=>?_,λh2=>?_⟩,λl zs hn so=>?_⟩
 ·have pZ:i<ps.length:=wg;have uW:j<ps.length:=wg;have e':(ps.map (·.1))[i]'(by simpa using pZ)=(ps.map (·.1))[j]'(by simpa using uW):=by simpa[pZ,uW]using e
  rcases xC i j with z | z | z
  ·exact absurd e' (ko.mp nd i j _ _ z)
  ·exact z
  ·exact absurd e'.symm (ko.mp nd j i _ _ z)
 ·refine⟨tuples' true,λA s' k=>?_⟩
  have nL:∀b o,s.heap.get? b=some o->o.cls=.type "tuple"->(∃vs n,o.data=.seq vs n)->b≠X.env.locals:=λb o e _ d z=>by
   obtain⟨m,F⟩:=I.fr;obtain⟨o',es,ep,e',d',_⟩:=F.ns;rw[z,e']at e;cases e;obtain⟨vs,n,d⟩:=d;rw[d']at d;cases d
  have at':∀i,i<ps.length->∃a o vs n,aj.getD i eK=.ref a/\s'.heap.get? a=some o/\o.cls=.type "tuple"/\o.data=.seq vs n/\∃t rest,vs.toList=gG ((ps.map (·.1)).getD i 0) t::rest:=λi hi=>by
   obtain⟨a,o,vs,n,e1,e2,e3,e4,e5⟩:=tup i hi;exact⟨a,o,vs,n,e1,k _ _ (nL a o e2 e3 ⟨vs,n,e4⟩) (kp _ _ e2),e3,e4,e5⟩
  constructor
  ·intro Q' hQ
   have kt:∀m,m<=ps.length->∃fs:List Value,fs.length=m/\KatTups s'.heap (aj.drop (ps.length-m)) fs/\∀v∈fs,∃i t,v=gG i t:=λm=>by
    induction m with
    | zero=>
     intro _;refine⟨[],rfl,?_,λv hv=>nomatch hv⟩;rw[List.drop_of_length_le li];exact .nil
    | succ m ih=>
     intro hm;obtain⟨fs,h1,h2,h3⟩:=ih li;obtain⟨a,o,vs,n,e1,e2,e3,e4,t,rest,e5⟩:=at' (ps.length-(m+1)) om
     have hd:aj.drop (ps.length-(m+1))=.ref a::aj.drop (ps.length-m):=by
      rw[List.drop_eq_getElem_cons om,show ps.length-(m+1)+1=ps.length-m by lia]
      congr 1
      rw[<-e1];simp[show ps.length-(m+1)<aj.length by omega]
     rw[hd];refine⟨gG ((ps.map (·.1)).getD (ps.length-(m+1)) 0) t::fs,by rw[gU,h1],.cons e2 e3 e4 ?_ h2,λv hv=>?_⟩
     ·have:vs.toList[0]?=some (gG ((ps.map (·.1)).getD (ps.length-(m+1)) 0) t):=by rw[e5];rfl
      rw[zX]at this;exact this
     ·rcases bR.mp hv with z | z
      ·exact⟨_,_,z⟩
      ·exact h3 v z
   obtain⟨fs,h1,h2,h3⟩:=kt ps.length (aB _);rw[Nat.sub_self,List.drop_zero]at h2;refine kat_kind (T:=.type "int") h2 li (λv hv=>?_) qc (by rw[show (iA "int" != iA "tuple")=true by decide];exact hQ);obtain⟨i,t,e⟩:=h3 v hv;rw[e];exact aaf _ _ _ _
  ·intro i j C hi hj ne c;obtain⟨a,o,vs,n,e1,e2,e3,e4,t,rest,e5⟩:=at' i wg;obtain⟨a',o',nz,n',Cf,e2',e3',e4',t',amm,e5'⟩:=at' j wg;unfold kas_ask;rw[e1,Cf];refine kat_lt e2 e4 e2' e4' ?_;rw[e5,e5'];refine kat_cons (wpAny_eqBool_int ?_)
   have dX:(ps.map (·.1)).getD i 0≠(ps.map (·.1)).getD j 0:=λe=>by
    have pZ:i<ps.length:=wg;have uW:j<ps.length:=wg;have e':(ps.map (·.1))[i]'(by simpa using pZ)=(ps.map (·.1))[j]'(by simpa using uW):=by simpa[pZ,uW]using e
    rcases Y0 ne with z | z
    ·exact absurd e' (ko.mp nd i j _ _ z)
    ·exact absurd e'.symm (ko.mp nd j i _ _ z)
   rw[show ((ps.map (·.1)).getD i 0 == (ps.map (·.1)).getD j 0)=false by simpa using dX];exact kat_no (oneLt_int c)
 ·obtain⟨qs,g,pw,rfl⟩:=OR so;exact q l qs hn g pw
end
end L2
namespace TL
open PySem PySem.Spec PyProof.Rows L2 L3
theorem Q7{α:Type}{qv:Nat->List α}{m:Nat}:∀n:Nat,(∀i,i<n->(qv i).length<=m)->((List.range n).flatMap qv).length<=n*m
 | 0,_=>by simp
 | n+1,h=>by
  rw[oS,Cj,fQ];have h1:=Q7 n λi hi=>h i li;have h2:=h n (xD n);simp only[Oq,Zl,tu];rw[OZ];lia
theorem Ak{α β:Type}{F:α->β->Prop}:∀{l:List α} {r:List β} {i:Nat} {x:α},Paired F l r->l[i]?=some x->∃y,r[i]?=some y/\F x y
 | _,_,_,_,.nil,e=>by simp at e
 | _,_,0,_,.cons h _,e=>by simp at e;subst e;exact⟨_,rfl,h⟩
 | _,_,i+1,x,.cons _ t,e=>by
  exact ay (Ak (i:=i) t (by simpa using e)) λy h1 h2=>az y (by simpa using h1) h2
theorem akq(x y z:V):oo [x,y,z] none (some 2)=[x,y]:=rfl
section
variable{P:Program}{w:World}{K:W.Frag}{mg:Str->Option Value}{base:Heap}
def Kg(H:Hp)(v:V)(e:Ent):Prop:=∃p,v=.ref p/\H p=some (.tup [.int e.n,.int e.num])
def QC(C:Addr):Sp:=λvs H Q _=>∃a kd tn es q qr,vs=[.ref a]/\dy H a C kd tn es q qr/\es.length<64/\
 ∀H' l us,ah H H'->H l=none->H' l=some (.lst us)->Paired (Kg H') us es->Q (.ref l) H'
theorem HA:aZ ["self","waiting","queue"] ["self"] (aM Ii):=a8
theorem TC:(["turn","setting"]:List Str).Nodup:=dk
theorem aaz{f C:Addr}{fd:aQ}(F:aP K "listed" "Tray.listed" Ii f fd)(B:BT mg)(cT:kN K C):ao P w K mg base au 1 f fd ["self"] (QC C):=by
 refine F.ok HA (λvs H Q E h=>?_) λaD A _ s H vs Q E hr h=>?_
 ·refine ml h λa kd tn es q qr aa _=>?_;subst aa;rfl
 ·refine dZ h λa kd tn es q aa=>cQ aa λqr aa T hz k=>?_;subst aa
  refine let R1:TS:=_;let R2:TS:=_;let R3:TS:=_;⟨_,aA (cC (i:=1) HA.nd rfl (aN rfl) (dY af)) (pR R3 (aA (ij ie rfl (o7 (bf (pv 0) rfl)) (br (i:=2) HA.nd rfl (aN rfl)) (pR R1 (ax (gg (qD PySem.F.plainAttrs_list PySem.F.slot_list_extend PySem.F.type_list_extend Qc (pv 1) (ae (pv 2) af)))))) (pR R2 (ax (aS (gh (N:=["turn","setting"]) (idx:=[]) rfl (c9.of (by kernel_rfl)) (CI (bU _) (bU _)) (o7 (bp ZT rfl B.sorted boot_sorted (ae (pv 1) af)))
    (λ_ _ _ _=>nQ rfl (gH (br (i:=0) TC rfl (aN rfl) (.inr rfl)) (gH (br (i:=1) TC rfl (aN rfl) (.inr rfl)) nO)))
    (λ_ _ _ _=>gZ) λ_ _ _ _=>CZ (ahq K) (pv 1) Dn (Dm aw))))))),?_⟩
  refine eO (id T.obj) λdx fs ea e1 e2 e3 em el=>?_;have hl:=T.len
  obtain⟨qv,M7⟩:∃qv:Nat->List V,∀i (hi:i<qr.length),H qr[i]=some (.lst (qv i))/\Paired (jd H) (qv i) (cG es i):=by
   refine⟨λi=>match H (qr.getD i 0)with | some (.lst vs)=>vs | _=>[],λi hi=>ay (T.jg i _ (aR hi)) λvs h1 h2=>?_⟩;have eg:qr.getD i 0=qr[i]:=by simp[hi]
   dsimp only;rw[eg,h1];exact⟨rfl,h2⟩
  refine⟨qc,λlw nw=>?_⟩;have s0:ah H (upd H lw (.lst [])):=aI (ah.refl _) nw;have naw:=bJ ea nw;have nqw:=bJ T.qs nw;refine az _ rfl (dS a C dx fs (lJ _ rfl (by rw[ak naw];exact ea) cT.cl cT.tS e3 ⟨q,rfl,⟨_,aq.of (by rw[ak nqw];exact T.qs)⟩,?_⟩))
  let W1:IV:=λi σ H'=>∃qx,σ=[some (.ref a),some (.ref lw),qx]/\ah H H'/\H' lw=some (.lst ((List.range i).flatMap qv))
  refine yg (xs:=qr.map V.ref) W1 ⟨none,rfl,s0,by rw[av];rfl⟩ ?_ ?_ ?_
  ·rintro i σ H' _ ⟨qx,rfl,sm,_⟩;exact aq.of (sm _ _ T.qs)
  ·rintro i x σ H' hx ⟨qx,rfl,sm,hw⟩;rw[eJ]at hx;refine ay (xv.mp hx) λb hb aa=>?_;subst aa;refine oE (dC.mp hb) λhi eb=>?_;refine oA (M7 i hi) λh1 h2=>?_;rw[eb]at h1;have lq:=Paired.length h2;have lq2:=Jl es i
   have fl:=Q7 (qv:=qv) (m:=64) i λj hj=>by
    have:=Paired.length (M7 j li).2;have:=Jl es j;lia
   refine vr rfl ⟨.inl ⟨rfl,_,aq.of hw⟩,⟨_,rfl,lw,b,_,_,rfl,rfl,hw,sm _ _ h1,?_,⟨_,rfl,λc o e=>?_,?_⟩⟩⟩
   ·rw[jK];lia
   ·rw[ak (bJ e nw)];exact sm _ _ e
   ·rw[av,oS,Cj];simp
  ·rintro σ H' ⟨qx,rfl,sm,hw⟩;rw[aH,hl]at hw;have rp:=O7 qv (cG es) 12 λi hi=>(M7 i wg).2;have hL:=O6 T.wf.nm;have ll:=hL.length_eq;have lr:=Paired.length rp;refine oA (zip_parts rp) λz1 z2=>?_;have V':Paired (jd H') ((List.range 12).flatMap qv) ((List.range 12).flatMap (cG es)):=vC (λ_ _ y=>y.keep (F:=[]) λb xs e=>sm _ _ e) rp;refine vr rfl (⟨lw,((((List.range 12).flatMap qv).zip ((List.range 12).flatMap (cG es))).map λz=>(z.2.t,z.1)),rfl,(aq.of (by rw[z1];exact hw)),(by rw[aH,List.length_zip];omega),(λy hy=>aX (Hm V' y hy) λe _ et aa=>dF aa λp st ep h1 h2=>iD p ([.ref st]) ep (ar.of (by rw[et];exact h1))),(by rw[z2];exact Z5 T.wf hL),(λls qs hn hp ha=>?_)⟩)
   ·have rs:=Z1 T.wf hL V' hp ha;have s1:ah H' (upd H' ls (.lst (qs.map (·.2)))):=aI (ah.refl _) hn;generalize xq:upd H' ls (.lst (qs.map (·.2)))=H1 at s1;have sU:H1 ls=some (.lst (qs.map (·.2))):=by rw[<-xq];exact av
    have lqs:=Paired.length rs;refine eZ ls rfl ⟨_,aq.of sU⟩ ?_;generalize hW:qs.map (·.2)=us at sU rs lqs;refine fk (n:=es.length) (λi ys H2=>ah H1 H2/\Paired (Kg H2) ys (es.take i)) (by rw[jK];exact w5) ⟨ah.refl _,by rw[List.take_zero];exact .nil⟩ ?_ ?_ ?_ ?_ ?_
    ·rintro i ys H2 ⟨_,r2⟩;rw[Paired.length r2,gz];exact xl
    ·rintro i ys H2 hi ⟨s2,_⟩;exact iD us (us[i]'wg) (aq.of (s2 _ _ sU)) (aR wg)
    ·rintro ys H2 ⟨s2,_⟩;exact az us (aq.of (s2 _ _ sU)) li
    ·rintro i ys H2 hi ⟨s2,r2⟩ y H3 ⟨eH,hy⟩;subst eH;have nA:=hy us (aq.of (s2 _ _ sU));refine ay (Ak rs nA) λe he aa=>dF aa λp st aa h1 h2=>?_;subst aa;have g1:=s2 _ _ (s1 _ _ h1);have g2:=s2 _ _ (s1 _ _ h2);refine⟨p,⟨_,rfl,ar.of g1,rfl,_,_,rfl,_,_,rfl,rfl,?_⟩⟩;dsimp only[lO];rw[if_pos rfl];refine vr rfl (az 2 rfl ⟨st,⟨_,rfl,ar.of g2,by show ¬(HT.cw 3 0 none=0/\HT.cw 3 3 (some 2)=3);decide,λr cH=>?_⟩⟩);have s3:ah H3 (upd H3 r (.tup (oo [.int e.n,.int e.num,.int e.d] none (some 2)))):=aI (ah.refl _) cH;refine⟨s2.trans s3,?_⟩;rw[kv,he];exact Hn (vC (λ_ _ ⟨p,q1,q2⟩=>⟨p,q1,s3 _ _ q2⟩) r2) (az r rfl (by rw[av,akq]))
    ·rintro ys H2 ⟨s2,r2⟩;rw[Zi]at r2;have ly:=Paired.length r2;refine⟨by rw[jK];lia,λlr nr=>?_⟩;have s3:ah H2 (upd H2 lr (.lst ys)):=aI (ah.refl _) nr;refine k _ lr ys (sm.trans (s1.trans (s2.trans s3))) ?_ av (vC (λ_ _ ⟨p,q1,q2⟩=>⟨p,q1,s3 _ _ q2⟩) r2);cases e:H lr with
     | none=>rfl
     | some o=>rw[s2 _ _ (s1 _ _ (sm _ _ e))]at nr;cases nr
end
end TL
namespace L4
open PySem PySem.Builtin PySem.Builtin.Str
abbrev Tl:=Str×List Nat
inductive cA (sz:Nat):Tl->Prop
 | put (r m:Nat):r<4->m<10^60->cA sz ("put",[r,m])
 | add (r o:Nat):r<4->o<4->cA sz ("add",[r,o])
 | set (n r:Nat):n<12->r<4->cA sz ("set",[n,r])
 | look (r n:Nat):r<4->n<12->cA sz ("look",[r,n])
 | swap (r n:Nat):r<4->n<12->cA sz ("swap",[r,n])
 | clear:cA sz ("clear",[])
 | skip (r q:Nat):r<4->q<=sz->q<=120->cA sz ("skip",[r,q])
theorem cA.len{sz:Nat}{t:Tl}(g:cA sz t):t.2.length<=2:=by cases g <;> simp
abbrev Pt:=List Tl
structure kQ(ps:List Pt):Prop where
 ne:1<=ps.length
 le:ps.length<=4
 part:∀p∈ps,p.length<=120/\∀t∈p,cA p.length t
end L4
namespace L2
open PySem PySem.Spec PyProof.Rows
section
variable{X:Cx}
def ahw(K:W.Frag):List V->Hp->VK->Prop:=λxs H Q=>∃x p T1 T2 t b,xs=[x,.ref p]/\H p=some (.tup [.ty T1,.ty T2])/\fX K H x t/\W.kitAny K t [.type T1,.type T2]=some b/\Q (.bl b) H
theorem aaK{p_:List (Addr×Obj)}{σ:St}{H:Hp}{s:Shared}{A:Around}{E:Value->Shared->Prop}{Q:Value->Shared->Prop}{tp:Addr}{aj:List Value}{b:Bool}{x:V}{u t:Value}(I:Inv X p_ σ H s)(rx:RelV x u)(ty:fX X.K H x t)
  {dd:Option Addr} {n:Nat} {sl:Array (Option Value)} (jA:s.heap.get? tp=some ⟨.type "tuple",dd,.seq aj.toArray n,sl⟩) (e:W.kitAny X.K t aj=some b) (h:∀tk,Q (.bool b) { s with toks:=tk }) :
  wpAny (model X.prog X.w) A (call (.builtin "isinstance") [u,.ref tp]) Q E s:=by
 cases ty with
 | aE=>cases (show u=eK from rx);exact W.kia_tup W.kitx_none I.cR mj jA e (λz=>nomatch z) h
 | bl y=>cases (show u=oY y from rx);exact W.kia_tup W.kitx_bool I.cR mj jA e (λz=>nomatch z) h
 | int i=>obtain⟨t,q⟩:=(show ∃t,u=gG i t from rx);cases q;exact W.kia_tup W.kitx_int I.cR mj jA e (λz=>nomatch z) h
 | str y=>obtain⟨t,q⟩:=(show ∃t,u=HX y t from rx);cases q;exact W.kia_tup W.kitx_str I.cR mj jA e (λz=>nomatch z) h
 | qV y=>obtain⟨t,q⟩:=(show ∃t,u=Hj y t from rx);cases q;exact W.kia_tup W.kitx_float I.cR mj jA e (λz=>nomatch z) h
 | @lst a xs ea=>
  cases (show u=c8 a from rx);exact oA ((show eX X.prog X.w H s.heap a (.lst xs) from I.aL a _ ea)) λ_ aa=>b8 aa λ_ n _ h1=>W.kia_tup W.kitx_list I.cR ⟨_,h1,rfl⟩ jA e (λz=>nomatch z) h
 | @jU a ob xs ea=>
  cases (show u=c8 a from rx);exact dU ((show eX X.prog X.w H s.heap a (.jU ob (.lst xs)) from I.aL a _ ea)) λ_ _ aa=>b8 aa λ_ n _ h1=>W.kia_tup W.kitx_list I.cR ⟨_,h1,rfl⟩ jA e (λz=>nomatch z) h
 | @tup a xs ea=>
  cases (show u=c8 a from rx);exact oA ((show eX X.prog X.w H s.heap a (.tup xs) from I.aL a _ ea)) λ_ aa=>ay aa λ_ _ p=>aX p λo h1 h2 _=>W.kia_tup W.kitx_tuple I.cR ⟨o,h1,h2⟩ jA e (λz=>nomatch z) h
 | @dK a fg ea=>
  cases (show u=c8 a from rx);exact dU ((show eX X.prog X.w H s.heap a (.dK fg) from I.aL a _ ea)) λ_ _ aa=>ay aa λvs _ p=>i9 p λo es ep h1 h2 _=>W.kia_tup W.kitx_dict I.cR ⟨o,h1,h2.1⟩ jA e (λz=>nomatch z) h
 | @dT a fg ea=>
  cases (show u=c8 a from rx);exact dU ((show eX X.prog X.w H s.heap a (.dT fg) from I.aL a _ ea)) λ_ _ aa=>ay aa λxs _ aa=>i9 aa λo es ep h1 h2 _=>W.kia_tup W.kitx_dict I.cR ⟨o,h1,h2.1⟩ jA e (λz=>nomatch z) h
 | @ins a C dx fs ea cl ha hn zC hm=>
  cases (show u=c8 a from rx);exact ay (AU I.aL ea) λmA O _=>ay O.look λod J _=>W.kia_tup (W.kitx_own (cl.get _) cl.hd ha hn zC hm) I.cR J jA e (λz=>nomatch z) h
theorem abV:jr X (.builtin "isinstance") (ahw X.K):=by
 intro p_ s σ H xs us Q I r h;refine lG h λx p T1 T2 t b e hp ty hk q=>?_;subst e;refine dF (vals2 r) λu v aa rx rp=>?_;subst aa;cases rp;refine oA ((show eX X.prog X.w H s.heap p (.tup [.ty T1,.ty T2]) from I.aL p _ hp)) λhz aa=>ay aa λaj rv pl=>dF (vals2 rv) λc d ei r1 r2=>?_;subst ei;cases r1;cases r2;refine aX pl λo h1 h2 aa=>oE aa λn h3=>?_;obtain⟨oc,od,odt,gQ⟩:=o;cases h2;cases h3;exact aaK I rx ty h1 hk λtk=>(eG (.bl b) H (I.tok tk) rfl q)
def ahv(K:W.Frag):List V->Hp->VK->Prop:=λxs H Q=>∃(p:Addr) (ns:List Int),xs=[.ref p]/\aq K H p (ns.map V.int)/\ns≠[]/\∀M,M∈ns->(∀a∈ns,M<=a)->Q (.int M) H
theorem abT(hc:X.calm=true):jr X (.builtin "min") (ahv X.K):=by
 intro p_ s σ H xs us Q I r h;refine pj h λp ns e hq ak6 q=>?_;subst e;refine ay (vals1 r) λu aa rx=>?_;subst aa;cases rx;refine aX (I.list hq) λaj rv pl hz=>?_;have hi:=intsAre_of rv;have hlen:aj.length=ns.length:=by have:=rv.length;rw[aH]at this;exact this.symm
 have dX:p≠s.heap.objs.size:=by
  exact ay pl.isList λo e _=>dv (bq e)
 have pK:0<aj.toArray.size:=by
  rw[du,hlen];exact zZ.mpr ak6
 have yU:∀i v,aj.toArray[i]?=some v->∃t,v=gG (ns.getD i 0) t:=λi v hv=>by
  have uJ:aj[i]?=some v:=by simpa using hv
  have Xf:i<aj.length:=(dC.mp uJ).1
  obtain⟨u,hu,ru⟩:=rv.get (i:=i) (x:=V.int (ns.getD i 0)) (by
   rw[eJ,aR wf,dI,aR wf];rfl)
  rw[uJ]at hu;cases hu;exact ru
 refine call_min_walk (xB pl.isList (⟨_,_,_,_,_,_,(⟨_,rfl,(As (show X.A.in1.handled=none from I.ok.hd hc) _ p dX aj.toArray),⟨⟨_,dM _ rfl,rfl,rfl⟩,pl.isList.push _⟩,?_,pK,(CmpOf.ints_lt (λi=>ns.getD i 0) yU),(λv h' tk hv kk=>?_)⟩)⟩))
 ·intro b hb;refine ay pl.isList λo e _=>?_;have cI:=bq e;have jB:(s.heap.push { cls:=.type "list_iterator",data:=.fields #[.ref p,.int 0 0] }).objs.size=s.heap.objs.size+1:=jI _ _;have p4:b=s.heap.objs.size\/b=p:=by simpa using hb
  rw[jB];rcases p4 with e | e
  ·rw[e];exact xD _
  ·rw[e];exact Ac cI
 ·refine oE (yU _ _ hv) λt aa=>?_;subst aa;refine oA (argBest_lt (λi=>ns.getD i 0) (aj.toArray.size-1)) λh1 h2=>?_;rw[du,hlen]at h1 h2 pK ⊢;refine eG (.int _) H (I.kept λb o e=>kk b o (λz=>?_) (bc _ e)) ⟨t,rfl⟩ (q _ ?_ λa ha=>?_)
  ·have z':b=s.heap.objs.size:=by simpa using z
   rw[z']at e;exact absurd (bq e) (iH _)
  ·show ns.getD _ 0∈ns;rw[dI,aR om];exact rQ _
  ·refine oE (nJ ha) λj aa=>oE aa λhj e=>?_;have:=h2 j om;have e2:ns.getD j 0=a:=by rw[dI,aR hj,e];rfl
   rw[e2]at this;exact this
end
section
variable{X:Cx}{CX:lj}{k:Nat}{E:XK}{m:Str}{pos apos:Pos}{e o:Expr}{es:List Expr}{ta:TE}{t:TA}
def adR(P:Program)(w:World)(K:W.Frag)(mg:Str->Option Value)(base:Heap)(CX:lj)(k:Nat)(m:Str)(E:XK)(ta:TE)(t:TA):TE:=λσ H Q=>ta σ H λx H1=>∃a C dx fs f fd ps sp,x=.ref a/\H1 a=some (.ins C dx fs)/\fs.lookup m=none/\dj K C/\Meth K C m f/\
 ao P w K mg base CX k f fd ps sp/\Binds K fd ps []/\t σ H1 λvs H2=>sp (.ref a::vs) H2 Q E
theorem abh{P:Program}{w:World}{K:W.Frag}{mg:Str->Option Value}{base:Heap}{pl:Sem Bool}(he:PE X o ta)(hr:eI k X.A)(hx:Passes CX X E)(ha:PA X (e::es) t)(hP:X.prog=P:=by rfl)(hw:X.w=w:=by rfl)(hK:X.K=K:=by rfl)(uP:X.mg=mg:=by rfl)(Nu:X.base=base:=by rfl)
  (cX:(cJ (e::es) X.env)=((false,eval e X.env)::cJ es X.env):=by rfl) (dB:((backTo pos (cJ es X.env)).any (·.1))=false:=by rfl)
  (ht:eval (.Call (.Attribute o m apos) (e::es) [] pos) X.env=(do
   let ov <-(eval o X.env)
   standAt apos.atName
   let (f,first) <-(holding [ov] (yc ov m pl))
   (Dc pos f first (backTo pos (cJ (e::es) X.env)) (AL pos (Al [] X.env)))):=by rfl) :
  PE X (.Call (.Attribute o m apos) (e::es) [] pos) (adR P w K mg base CX k m E ta t):=by
 subst hP hw hK uP Nu;intro p_ s σ H Q I h;refine W.methodCall_KW (pl:=pl) (aV (he p_ s σ H _ I h) λu s1 hh=>?_) ht;refine dF hh λx H1 I1 rx aa=>dZ aa λa C dx fs f aa=>i9 aa λfd ps sp ex ea aa=>mG aa λl c hm F hb q=>?_;subst ex;obtain rfl:u=c8 a:=rx;refine CJ I1 ea c hm l (W.callWith_K (first:=[.ref a]) (h₀:=X.base) I.ok.mod.uw hm.kp (Bz (ha pos p_ s1 σ H1 _ I1 q) λus s2 vs H2 I2 r q2=>⟨I2.cR,?_⟩) cX dB);exact yr (us:=.ref a::us) (vs:=.ref a::vs) (dvs:=[]) (ds:=[]) F hr hb .nil hx I2 (.cons rfl r) (by rw[tu];exact q2)
end
end L2
namespace L2
open PySem PySem.Spec PyProof.Rows L3
section
variable{prog:Program}{w:World}{A:Around}{E:Value->Shared->Prop}{s:Shared}{K:W.Frag}{x C:Addr}{ox:Obj}{od:Option Obj}{name:Str}{tk:Tok}
end
section
variable{prog:Program}{w:World}{A:Around}{K:W.Frag}{C x:Addr}{s:Shared}{ox:Obj}{od:Option Obj}{name:Str}{tk:Tok}{v:Value}
end
section
variable{prog:Program}{w:World}{A:Around}{E:Value->Shared->Prop}{h:Heap}{g:Array GenState}{d:Drawn}{t:Nat}{os:OsState}{C f:Addr}
end
section
variable{X:Cx}{p_:List (Addr×Obj)}{σ:St}{H:Hp}{s:Shared}{a C d:Addr}{fs:List (Str×V)}{f:Str}{v:V}{A:Around}{E:Value->Shared->Prop}
end
section
variable{X:Cx}{o e value:Expr}{f:Str}{pos pos':Pos}{ta tv:TE}
end
section
variable{X:Cx}{W:WX}{k:Nat}{C f:Addr}{fd:aQ}{ps:List Str}{sp:Sp}{x:Str}{np oz pos:Pos}{e:Expr}{es:List Expr}{t:TA}{P:Program}{w:World}
end
end L2
namespace L2
open PySem PySem.Spec PySem.W PyProof.Rows L3
structure XK1(K:Frag)(D:Addr):Prop where
 ga:findIn K (.ref D) (lE "__getattribute__")=some (some (.builtin amQ))
 gn:findIn K (.ref D) (lE "__getattr__")=some none
 be:mroIn K D (.type "BaseException")=some true
 hd:hasDictIn K D=true
 cl:findIn K (.ref D) (lE "__class__")=some (some (.builtin "object.__class__"))
 gt:specialIn K (.builtin "object.__class__") (lE "__get__")=some (some (.builtin "getset_descriptor.__get__"))
 tk:takesIn K (.builtin "object.__class__")=some true
 mr:mroIn K D (.type "object")=some true
end L2
namespace L2
open PySem PySem.Spec PySem.W PyProof.Rows
section
variable{X:Cx}
end
end L2
namespace L2
open PySem PySem.Spec PyProof.Rows
theorem vK{J:It}{n:Nat}{g:TG}{tb:TS}{D:Ends}{σ:St}{H:Hp}(Pv:Nat->St->Hp->Prop)(h0:Pv 0 σ H)(Ni:∀i σ H,i<n->Pv i σ H->J.go i H)(cX:∀σ H,Pv n σ H->J.stop n H)
  (hs:∀i σ H,i<n->Pv i σ H->∀x H',J.uq i H x H'->g x σ H' λσ2 H2=>tb { D with nx:=Pv (i+1),ct:=Pv (i+1),bk:=D.nx } σ2 H2) (hd:∀σ H,Pv n σ H->D.nx σ H) :
  ∃W:Nat->Nat->St->Hp->Prop,(∃m,W 0 m σ H)/\∀i m σ H,W i m σ H->
   (J.stop i H/\D.nx σ H)\/(J.go i H/\∃N:St->Hp->Prop,(∀σ' H',N σ' H'->∃m',m'<m/\W (i+1) m' σ' H')/\∀x H',J.uq i H x H'->g x σ H' λσ2 H2=>tb { D with nx:=N,ct:=N,bk:=D.nx } σ2 H2):=by
 refine⟨λi m σ H=>m=n-i/\i<=n/\Pv i σ H,⟨n,by simp,bU _,h0⟩,?_⟩;intro i m σ H aU;refine dU aU λaa hi p=>?_;clear aU;subst aa
 by_cases cI:i<n
 ·exact .inr ⟨Ni i σ H cI p,⟨Pv (i+1),λσ' H' p'=>⟨n-(i+1),om,rfl,cI,p'⟩,hs i σ H cI p⟩⟩
 ·have e:i=n:=li;subst e;exact .inl ⟨cX σ H p,hd σ H p⟩
end L2
namespace TL
open PySem PySem.Spec PyProof.Rows PySem.SeqAt L2 L3
structure Tb(K:W.Frag)(c cE:Addr):Prop where
 xc:XC K c
 self:W.kitCls K (.ref c) (.ref c)=some true
 base:W.kitCls K (.ref c) (.type "BaseException")=some true
 te:W.kitOne K (.ref c) (.ref cE)=some true
 ve:W.kitOne K (.ref c) (.type "ValueError")=some true
end TL
namespace L2
open PySem PySem.Spec PyProof.Rows
section
variable{X:Cx}
end
end L2
namespace L2
open PySem PySem.Spec PyProof.Rows PySem.SeqAt
section
variable{X:Cx}
end
end L2
namespace L5
structure Sp where
 set:Option Nat
 kill:Bool
 nx:List Nat
def behind(s:Sp)(names:Nat):Nat:=if s.kill=true then 0 else match s.set with
 | some m=>names ||| (1 <<< m)
 | none=>names
inductive R (p:List Sp) (k:Nat):Nat->Prop
 | start {j:Nat} {s:Sp}:p[j]?=some s->s.set=some k->s.kill=false->R p k (j+1)
 | step {j a:Nat} {s:Sp}:R p k j->p[j]?=some s->s.kill=false->a∈s.nx->R p k a
structure sG(p:List Sp):Prop where
 name:∀s∈p,∀m,s.set=some m->m<12/\s.kill=false
 next:∀(j:Nat) (s:Sp),p[j]?=some s->∀a∈s.nx,a<=p.length
 succ:∀(j:Nat) (s:Sp),p[j]?=some s->j+1∈s.nx
 one:∀(j:Nat) (s:Sp) (m:Nat),p[j]?=some s->s.set=some m->∀a∈s.nx,a=j+1
theorem R.le{p:List Sp}(f:sG p){k i:Nat}(h:R p k i):k<12/\i<=p.length:=by
 induction h with
 | start h1 h2 h3=>
  have:=f.name _ (bw h1) _ h2;have:=(dC.mp h1).1;omega
 | step h1 h2 h3 h4 ih=>exact⟨ih.1,f.next _ _ h2 _ h4⟩
def Sub(a b:Nat):Prop:=∀k,a.testBit k=true->b.testBit k=true
theorem without{a b:Nat}:a-(a &&& b)=0↔Sub a b:=by
 have hle:a &&& b<=a:=Gs;constructor
 ·intro h k hk;have e:a &&& b=a:=om;have:(a &&& b).testBit k=true:=by rw[e];exact hk
  rw[Ae,iG]at this;exact this.2
 ·intro h
  have e:a &&& b=a:=by
   apply Gb;intro k;rw[Ae];cases hk:a.testBit k with
   | false=>rfl
   | true=>rw[h k hk];rfl
  omega
theorem ahy{a b:Nat}(h:¬Sub b a):a<a ||| b:=by
 have hle:a<=a ||| b:=Nat.left_le_or
 rcases Y1 hle with h1 | h1
 ·exact h1
 ·exfalso;apply h;intro k hk;rw[h1,tx,hk,Bool.or_true]
theorem yn{m k:Nat}:(1 <<< m).testBit k=decide (m=k):=by
 rw[Zb,Nat.testBit_two_pow]
theorem qk{s:Sp}{names k:Nat}:(behind s names).testBit k=true↔s.kill=false/\(names.testBit k=true\/s.set=some k):=by
 unfold behind;cases hk:s.kill with
 | true=>simp
 | false=>
  cases hs:s.set with
  | none=>simp
  | some m=>
   show (names ||| 1 <<< m).testBit k=true↔_;rw[tx,yn,xH,decide_eq_true_eq];simp
abbrev bb(row:List Nat)(i:Nat):Nat:=row.getD i 0
structure Sound(p:List Sp)(row:List Nat):Prop where
 len:row.length=p.length+1
 ok:∀i k,(bb row i).testBit k=true->R p k i
def si(p:List Sp)(m:Nat)(row:List Nat):Prop:=∀(j:Nat) (s:Sp),j<m->p[j]?=some s->∀a∈s.nx,Sub (behind s (bb row j)) (bb row a)
def vG(p:List Sp)(row:List Nat):Prop:=row.length=p.length+1/\∀i k,i<=p.length->((bb row i).testBit k=true↔R p k i)
theorem ac0{p:List Sp}(f:sG p){row:List Nat}(s:Sound p row)(c:si p p.length row):vG p row:=by
 refine⟨s.len,λi k hi=>⟨s.ok i k,λh=>?_⟩⟩;clear hi
 induction h with
 | @start j st h1 h2 h3=>
  have hj:=(dC.mp h1).1;exact c j st hj h1 (j+1) (f.succ j st h1) k (qk.mpr ⟨h3,.inr h2⟩)
 | @step j a st h1 h2 h3 h4 ih=>
  have hj:=(dC.mp h2).1;exact c j st hj h2 a h4 k (qk.mpr ⟨h3,.inl ih⟩)
theorem Dq{x:Nat}(h:∀k,x.testBit k=true->k<12):x<4096:=by
 apply Gm;intro hx
 obtain⟨k,hk,hb⟩:∃k,12<=k/\x.testBit k=true:=by
  obtain⟨k,hk,hb⟩:=Nat.exists_ge_and_testBit_of_ge_two_pow (n:=12) (x:=x) (by simpa using hx);exact⟨k,hk,hb⟩
 have:=h k hb;omega
theorem AY{row:List Nat}{a v i:Nat}(ha:a<row.length):bb (row.set a v) i=if i=a then v else bb row i:=by
 unfold bb;rw[dI,dI]
 by_cases h:i=a
 ·subst h;rw[jF ha,if_pos rfl];rfl
 ·rw[vm (eT h),if_neg h]
theorem aa4{p:List Sp}(f:sG p){row:List Nat}(s:Sound p row){j a b:Nat}{st:Sp}(hj:p[j]?=some st)(ha:a∈st.nx)(hb:∀k,b.testBit k=true->st.kill=false/\(R p k j\/st.set=some k)):Sound p (row.set a (bb row a ||| b)):=by
 have hl:=f.next j st hj a ha;have hal:a<row.length:=by have:=s.len;omega
 refine⟨by rw[iy];exact s.len,λi k h=>?_⟩;rw[AY hal]at h
 by_cases e:i=a
 ·rw[if_pos e,tx,xH]at h;rw[e];rcases h with h | h
  ·exact s.ok a k h
  ·obtain⟨h1,h2⟩:=hb k h;rcases h2 with h2 | h2
   ·exact .step h2 hj h1 ha
   ·rw[f.one j st k hj h2 a ha];exact .start hj h2 h1
 ·rw[if_neg e]at h;exact s.ok i k h
theorem ZL{p:List Sp}{row:List Nat}(s:Sound p row){j:Nat}{st:Sp}:∀k,(behind st (bb row j)).testBit k=true->st.kill=false/\(R p k j\/st.set=some k):=λk h=>by
 obtain⟨h1,h2⟩:=qk.mp h;exact⟨h1,h2.imp (s.ok j k) id⟩
theorem sum_set{row:List Nat}{a v:Nat}(ha:a<row.length):(row.set a v).sum+bb row a=row.sum+v:=by
 induction row generalizing a with
 | nil=>simp at ha
 | cons x r ih=>
  cases a with
  | zero=>simp[bb];omega
  | succ a=>
   have:=ih (a:=a) (by simpa using ha);simp only[List.set_cons_succ,List.sum_cons];have e:bb (x::r) (a+1)=bb r a:=by simp[bb]
   rw[e];omega
theorem Sj{p:List Sp}(f:sG p){row:List Nat}(s:Sound p row):row.sum<=(p.length+1)*4096:=by
 have h:∀x∈row,x<=4096:=λx hx=>by
  obtain⟨i,hi,e⟩:=nJ hx;have e2:bb row i=x:=by simp[bb,dI,hi,e]
  exact cg (Dq λk hk=>(R.le f (s.ok i k (by rw[e2];exact hk))).1)
 have:∀(l:List Nat),(∀x∈l,x<=4096)->l.sum<=l.length*4096:=by
  intro l
  induction l with
  | nil=>simp
  | cons x l ih=>
   intro h;have h1:=h x (by simp);have h2:=ih λy hy=>h y (dJ _ hy);rw[List.sum_cons,gU,OZ];omega
 have:=this row h;rw[s.len]at this;exact this
theorem aal(p:List Sp):Sound p (cY (p.length+1) 0):=by
 refine⟨by simp,λi k h=>?_⟩
 have e:bb (cY (p.length+1) 0) i=0:=by
  simp[bb,dI,F8]
  split <;> rfl
 rw[e]at h;simp at h
structure Way(p:List Sp)(k:Nat)(way:List Nat):Prop where
 ok:∀i∈way,R p k i
 nd:way.Nodup
theorem P6:∀{l m:List Nat},l.Pairwise (· < ·)->m.Pairwise (· < ·)->(∀a,a∈l↔a∈m)->l=m
 | [],[],_,_,_=>rfl
 | [],b::m,_,_,h=>by have:=(h b).mpr (by simp);simp at this
 | a::l,[],_,_,h=>by have:=(h a).mp (by simp);simp at this
 | a::l,b::m,h1,h2,h=>by
  rw[Ol]at h1 h2
  have e:a=b:=by
   rcases xC a b with z | z | z
   ·have:=(h a).mp (by simp);rcases bR.mp this with q | q
    ·omega
    ·have:=h2.1 a q;omega
   ·exact z
   ·have:=(h b).mpr (by simp);rcases bR.mp this with q | q
    ·omega
    ·have:=h1.1 b q;omega
  subst e
  have:l=m:=P6 h1.2 h2.2 λx=>by
   constructor
   ·intro hx;rcases bR.mp ((h x).mp (dJ _ hx))with q | q
    ·have:=h1.1 x hx;omega
    ·exact q
   ·intro hx;rcases bR.mp ((h x).mpr (dJ _ hx))with q | q
    ·have:=h2.1 x hx;omega
    ·exact q
  rw[this]
def two(x y:Nat):List Nat:=if y=x then [x] else if y<x then [y,x] else [x,y]
theorem ab9(x y:Nat):(two x y).Pairwise (· < ·):=by
 unfold two
 split
 ·simp
 ·split
  ·simp;omega
  ·simp;omega
theorem yj(x y a:Nat):a∈two x y↔a=x\/a=y:=by
 unfold two
 split
 ·rename_i h;subst h;simp
 ·split <;> simp <;> omega
def least(names m:Nat):Option Nat:=(List.range 12).find? λk=>decide (k≠m)&&names.testBit k
theorem Pn{names m:Nat}(h:names<4096):least names m=none↔names-(names &&& (1 <<< m))=0:=by
 rw[without];unfold least;rw[List.find?_eq_none];constructor
 ·intro q k hk;rw[yn,decide_eq_true_eq]
  have alg:k<12:=by
   apply Gm;intro z;have h2:names<2^k:=eB h (by simpa using Oc (by decide:0<2) z);rw[N7 h2]at hk;cases hk
  have:=q k (iN.mpr alg);rw[hk]at this;simp at this;exact this.symm
 ·intro q k hk;simp only[iG,decide_eq_true_eq,not_and];intro dX hb;have:=q k hb;rw[yn,decide_eq_true_eq]at this;exact dX this.symm
theorem adS(a b:Nat):a-(a &&& b)=a ^^^ (a &&& b):=by
 have h1:(a &&& b) ||| (a ^^^ (a &&& b))=a:=by
  apply Gb;intro j;rw[tx,OB,Ae];cases a.testBit j <;> cases b.testBit j <;> rfl
 have h2:(a &&& b) &&& (a ^^^ (a &&& b))=0:=by
  apply Gb;intro j;rw[Ae,OB,Ae,Nat.zero_testBit];cases a.testBit j <;> cases b.testBit j <;> rfl
 have h:=PyProof.Rows.nat_or_add_and (a &&& b) (a ^^^ (a &&& b));rw[h1,h2]at h;omega
theorem Rm{names m k:Nat}:(names-(names &&& (1 <<< m))).testBit k=(names.testBit k&&decide (k≠m)):=by
 rw[adS,OB,Ae,yn]
 by_cases h:m=k
 ·subst h;simp
 ·have h':k≠m:=λz=>h z.symm;simp[h,h']
theorem Qg{names m M:Nat}(h1:M<12)(h2:(names-(names &&& (1 <<< m))).testBit M=true)(h3:∀a,a<12->(names-(names &&& (1 <<< m))).testBit a=true->M<=a):least names m=some M:=by
 unfold least;rw[List.find?_range_eq_some];rw[Rm,iG,decide_eq_true_eq]at h2;refine⟨by simp[h2.1,h2.2],iN.mpr h1,λj hj=>?_⟩;have:=h3 j om;rw[Rm]at this;cases e:(decide (j≠m)&&names.testBit j)with
 | false=>exact rfl
 | true=>
  rw[Bool.and_comm]at e;have:=this e;omega
theorem afl(a k:Nat):(a/2^k) &&& 1=(a.testBit k).toNat:=by
 rw[Nat.and_one_is_mod,Nat.testBit_eq_decide_div_mod_eq];have:=Nat.mod_two_eq_zero_or_one (a/2^k);rcases this with e | e <;> simp[e]
theorem Pr{β:Type}{f:Nat->Option β}{n j:Nat}{x:β}(hj:j<n)(h0:∀i,i<j->f i=none)(h:f j=some x):(List.range n).findSome? f=some x:=by
 induction n with
 | zero=>omega
 | succ n ih=>
  rw[oS,List.findSome?_append]
  by_cases e:j=n
  ·subst e;have:(List.range j).findSome? f=none:=FY.mpr λi hi=>h0 i (iN.mp hi);rw[this];simp[h]
  ·rw[ih om];rfl
theorem find_none{β:Type}{f:Nat->Option β}{n:Nat}(h0:∀i,i<n->f i=none):(List.range n).findSome? f=none:=FY.mpr λi hi=>h0 i (iN.mp hi)
def Mr(s:Sp)(j:Nat)(r r':List Nat):Prop:=r'.length=r.length/\∀a k,(bb r' a).testBit k=true↔(bb r a).testBit k=true\/(a∈s.nx/\(behind s (bb r j)).testBit k=true)
def Mu(p:List Sp)(k:Nat)(r:List Nat):Prop:=∀(j:Nat) (s:Sp),p[j]?=some s->∀a∈s.nx,(behind s (bb r j)).testBit k=true->(bb r a).testBit k=true
structure Sw(p:List Sp)(r0:List Nat)(i:Nat)(r:List Nat):Prop where
 len:r.length=r0.length
 mono:∀a k,(bb r0 a).testBit k=true->(bb r a).testBit k=true
 push:∀(j:Nat) (s:Sp),j<i->p[j]?=some s->∀a∈s.nx,∀k,(behind s (bb r0 j)).testBit k=true->(bb r a).testBit k=true
 kX:∀k,Mu p k r0->∀a,(bb r a).testBit k=true->(bb r0 a).testBit k=true
theorem Sw.zero(p:List Sp)(r:List Nat):Sw p r 0 r:=⟨rfl,λ_ _ h=>h,λ_ _ h=>absurd h (Af _),λ_ _ _ h=>h⟩
theorem Hi{s:Sp}{x y k:Nat}(h:x.testBit k=true->y.testBit k=true)(b:(behind s x).testBit k=true):(behind s y).testBit k=true:=by
 rw[qk]at b ⊢;exact⟨b.1,b.2.imp h id⟩
theorem Sw.step{p:List Sp}{r0 r r':List Nat}{i:Nat}{s:Sp}(w:Sw p r0 i r)(h:p[i]?=some s)(u:Mr s i r r'):Sw p r0 (i+1) r' where
 len:=u.1.trans w.len
 mono a k x:=(u.2 a k).mpr (.inl (w.mono a k x))
 push j t hj ht a ha k b:=by
  rcases Y1 (Nat.le_of_lt_succ hj)with e | e
  ·exact(u.2 a k).mpr (.inl (w.push j t e ht a ha k b))
  ·subst e;rw[h]at ht;cases ht;exact(u.2 a k).mpr (.inr ⟨ha,Hi (w.mono j k) b⟩)
 kX k c a x:=by
  rcases(u.2 a k).mp x with e | ⟨ha,b⟩
  ·exact w.kX k c a e
  ·exact c i s h a ha (Hi (w.kX k c i) b)
def cnt(k:Nat)(r:List Nat):Nat:=(List.range r.length).countP λa=>(bb r a).testBit k
theorem S6{p q:Nat->Bool}{a:Nat}:∀{l:List Nat},(∀x,p x=true->q x=true)->a∈l->q a=true->p a=false->l.countP p<l.countP q
 | [],_,ha,_,_=>nomatch ha
 | x::l,h,ha,h1,h2=>by
  rw[Zm,Zm];have hm:=List.countP_mono_left (l:=l) λx _=>h x;rcases bR.mp ha with e | e
  ·subst e;rw[h1,h2];simp;omega
  ·have ih:=S6 h e h1 h2;cases e1:p x with
   | false=>simp;omega
   | true=>rw[h x e1];simp;omega
theorem Sw.closed{p:List Sp}{r0 r:List Nat}(w:Sw p r0 p.length r){k:Nat}(e:∀a,(bb r a).testBit k=true->(bb r0 a).testBit k=true):Mu p k r:=λj s h a ha b=>
 w.push j s (dC.mp h).1 h a ha k (Hi (e j) b)
def Tn(p:List Sp)(t:Nat)(r:List Nat):Prop:=∀k,Mu p k r\/t<=cnt k r
theorem Tn.zero(p:List Sp)(r:List Nat):Tn p 0 r:=λ_=>.inr (bU _)
theorem Tn.step{p:List Sp}{t:Nat}{r0 r:List Nat}(h:Tn p t r0)(w:Sw p r0 p.length r):Tn p (t+1) r:=λk=>by
 rcases h k with c | c
 ·exact .inl (w.closed (w.kX k c))
 ·by_cases e:∀a,(bb r a).testBit k=true->(bb r0 a).testBit k=true
  ·exact .inl (w.closed e)
  ·refine .inr ?_;simp only[Classical.not_forall]at e;obtain⟨a,h1,h2⟩:=e
   have ha:a<r.length:=Gm λz=>by
    have:bb r a=0:=by simp[bb,dI,Oa z]
    rw[this]at h1;simp at h1
   have:=S6 (l:=List.range r.length) (p:=λa=>(bb r0 a).testBit k) (q:=λa=>(bb r a).testBit k) (λx=>w.mono x k) (iN.mpr ha) h1 (by simpa using h2);unfold cnt at c ⊢;rw[<-w.len]at c;omega
theorem Tn.done{p:List Sp}{r:List Nat}(f:sG p)(h:Tn p (p.length+1) r)(l:r.length=p.length+1):si p p.length r:=λj s _ hs a ha k b=>by
 rcases h k with c | c
 ·exact c j s hs a ha b
 ·have e:cnt k r=(List.range r.length).length:=by
   refine Nat.le_antisymm List.countP_le_length ?_;rw[rK,l];exact c
  have:=f.next j s hs a ha;exact List.countP_eq_length.mp e a (iN.mpr om)
theorem afQ{s:Sp}{j c:Nat}{r:List Nat}(hc:c<r.length)(hn:∀a,a∈s.nx↔a=c):Mr s j r (r.set c (bb r c ||| behind s (bb r j))):=by
 refine⟨iy,λa k=>?_⟩;rw[AY hc,hn]
 by_cases e:a=c
 ·subst e;rw[if_pos rfl,tx,xH];simp
 ·simp[e]
theorem aep{s:Sp}{j c d:Nat}{r:List Nat}(hc:c<r.length)(hd:d<r.length)(hn:∀a,a∈s.nx↔a=c\/a=d):Mr s j r ((r.set c (bb r c ||| behind s (bb r j))).set d (bb (r.set c (bb r c ||| behind s (bb r j))) d ||| behind s (bb r j))):=by
 refine⟨by rw[iy,iy],λa k=>?_⟩;rw[AY (by rw[iy];exact hd),hn,AY hc,AY hc]
 by_cases e:a=d
 ·subst e;rw[if_pos rfl,tx,xH]
  by_cases e:a=c
  ·subst e;rw[if_pos rfl,tx,xH];simp
  ·simp[e]
 ·rw[if_neg e]
  by_cases e2:a=c
  ·subst e2;rw[if_pos rfl,tx,xH];simp
  ·simp[e,e2]
theorem Tw{x y:Nat}(h:x<4096)(g:y<4096):x ||| y<4096:=Nat.or_lt_two_pow (n:=12) h g
theorem abZ{s:Sp}{x:Nat}(h:x<4096)(g:∀m,s.set=some m->m<12):behind s x<4096:=Dq λk b=>by
 rcases(qk.mp b).2 with e | e
 ·exact Gm λz=>by
   rw[N7 (eB h (by simpa using Oc (by decide:0<2) z))]at e;cases e
 ·exact g k e
theorem A0{r:List Nat}{c v:Nat}(h:∀x∈r,x<4096)(g:v<4096):∀x∈r.set c v,x<4096:=λx hx=>(F2 hx).elim (h x) λe=>e ▸ g
theorem Bg{r:List Nat}{c:Nat}(h:∀x∈r,x<4096):bb r c<4096:=by
 unfold bb;rw[dI];cases e:r[c]? with
 | none=>decide
 | some x=>exact h x (bw e)
theorem ZR{p:List Sp}(f:sG p){r:List Nat}(h:vG p r):si p p.length r:=λj s hj hs a ha k b=>by
 have:=f.next j s hs a ha;refine(h.2 a k this).mpr ?_;obtain⟨h1,h2⟩:=qk.mp b;rcases h2 with h2 | h2
 ·exact .step ((h.2 j k (cg hj)).mp h2) hs h1 ha
 ·rw[f.one j s k hs h2 a ha];exact .start hs h2 h1
theorem abv{p:List Sp}(f:sG p){r q:List Nat}(h:vG p r)(c:si p p.length q)(i:Nat)(hi:i<=p.length):Sub (bb r i) (bb q i):=λk b=>by
 have:=(h.2 i k hi).mp b;clear b hi
 induction this with
 | @start j st h1 h2 h3=>exact c j st (dC.mp h1).1 h1 (j+1) (f.succ j st h1) k (qk.mpr ⟨h3,.inr h2⟩)
 | @step j a st h1 h2 h3 h4 ih=>exact c j st (dC.mp h2).1 h2 a h4 k (qk.mpr ⟨h3,.inl ih⟩)
theorem ac4{p:List Sp}(f:sG p){r:List Nat}(h:vG p r):∀x∈r,x<4096:=λx hx=>by
 obtain⟨i,hi,e⟩:=nJ hx;have e2:bb r i=x:=by simp[bb,dI,hi,e]
 have:=h.1;exact Dq λk hk=>(R.le f ((h.2 i k om).mp (by rw[e2];exact hk))).1
end L5
namespace TL
open PySem PySem.Spec PyProof.Rows PySem.SeqAt L2 L3 L4
variable{P:Program}{w:World}{K:PySem.W.Frag}{mg:Str->Option Value}{base:Heap}
def tv(t:Tl):List V:=.str t.1::t.2.map λ(n:Nat)=>V.int (n:Int)
def jn(H:Hp)(v:V)(t:Tl):Prop:=∃a,v=.ref a/\H a=some (.tup (tv t))
def IsPart(H:Hp)(v:V)(p:Pt):Prop:=∃a vs,v=.ref a/\H a=some (.tup vs)/\Paired (jn H) vs p
def jo(H:Hp)(v:V)(ps:List Pt):Prop:=∃a vs,v=.ref a/\H a=some (.tup vs)/\Paired (IsPart H) vs ps
theorem jn.keep{H H':Hp}{v:V}{t:Tl}(k:∀b xs,H b=some (.tup xs)->H' b=some (.tup xs))(h:jn H v t):jn H' v t:=by
 exact ay h λa e h=>az a e (k _ _ h)
theorem IsPart.keep{H H':Hp}{v:V}{p:Pt}(k:∀b xs,H b=some (.tup xs)->H' b=some (.tup xs))(h:IsPart H v p):IsPart H' v p:=by
 exact dF h λa vs e h r=>eG a vs e (k _ _ h) (Paired.cF r λ_ _ q=>q.keep k)
theorem jo.keep{H H':Hp}{v:V}{p:List Pt}(k:∀b xs,H b=some (.tup xs)->H' b=some (.tup xs))(h:jo H v p):jo H' v p:=by
 exact dF h λa vs e h r=>eG a vs e (k _ _ h) (Paired.cF r λ_ _ q=>q.keep k)
def Lk(b:Bool):Sp:=λvs H Q _=>∃a,vs=[.ref a]/\Q (.bl b) H
theorem aef:aZ ["self"] ["self"] (aM DG):=a8
theorem aaq:aZ ["self"] ["self"] (aM CP):=a8
theorem Z3:aZ ["self"] ["self"] (aM CH):=a8
theorem AF{f:Addr}{fd:aQ}(F:aP K "empties" "Step.empties" DG f fd):ao P w K mg base au 1 f fd ["self"] (Lk false):=by
 refine F.ok aef (λvs H Q E h=>?_) λaD A _ s H vs Q E hr h=>?_
 ·refine ay h λa aa _=>?_;clear h;subst aa;rfl
 ·refine ay h λa aa k=>?_;clear h;subst aa;exact ur (ax (aS g9)) k
theorem Z4{f:Addr}{fd:aQ}(F:aP K "empties" "Swap.empties" CP f fd):ao P w K mg base au 1 f fd ["self"] (Lk true):=by
 refine F.ok aaq (λvs H Q E h=>?_) λaD A _ s H vs Q E hr h=>?_
 ·refine ay h λa aa _=>?_;clear h;subst aa;rfl
 ·refine ay h λa aa k=>?_;clear h;subst aa;exact ur (ax (aS g9)) k
theorem ZP{f:Addr}{fd:aQ}(F:aP K "empties" "Clear.empties" CH f fd):ao P w K mg base au 1 f fd ["self"] (Lk true):=by
 refine F.ok Z3 (λvs H Q E h=>?_) λaD A _ s H vs Q E hr h=>?_
 ·refine ay h λa aa _=>?_;clear h;subst aa;rfl
 ·refine ay h λa aa k=>?_;clear h;subst aa;exact ur (ax (aS g9)) k
structure C6(K:W.Frag)(c:Addr)(t:aW)(L8 L' L7 Lh Lf Lg:Bool):Prop where
 cl:W.findIn K (.ref c) "__class__" = some (some (.builtin "object.__class__"))
 mr:W.mroIn K c (.type "object")=some true
 akf:W.kitOne K (.ref c) (.ref t.jt)=some L8
 akh:W.kitOne K (.ref c) (.ref t.ju)=some L'
 UR:W.kitOne K (.ref c) (.ref t.ir)=some L7
 TB:W.kitOne K (.ref c) (.ref t.iL)=some Lh
 ahR:W.kitOne K (.ref c) (.ref t.jc)=some Lf
 Tz:W.kitOne K (.ref c) (.ref t.iK)=some Lg
structure jW where
 (ze T7 T9:Addr)
 (LA Ka Kc:aQ)
structure v5(K:W.Frag)(mg:Str->Option Value)(t:aW)(u:jW):Prop where
 st:qA K mg t
 Bt:aP K "empties" "Step.empties" DG u.ze u.LA
 wJ:Binds K u.LA ["self"] []
 agq:aP K "empties" "Swap.empties" CP u.T7 u.Ka
 K0:Binds K u.Ka ["self"] []
 agu:aP K "empties" "Clear.empties" CH u.T9 u.Kc
 K2:Binds K u.Kc ["self"] []
 gt:W.specialIn K (.builtin "object.__class__") "__get__" = some (some (.builtin "getset_descriptor.__get__"))
 tk:W.takesIn K (.builtin "object.__class__")=some true
 air:Meth K t.jt "empties" u.ze
 ais:Meth K t.ju "empties" u.ze
 aiq:Meth K t.ir "empties" u.ze
 agA:Meth K t.iL "empties" u.ze
 agy:Meth K t.jc "empties" u.T7
 afa:Meth K t.pB "empties" u.T9
 agz:Meth K t.iK "empties" u.ze
 Lw:C6 K t.jt t true false false false false false
 Lx:C6 K t.ju t false true false false false false
 Lv:C6 K t.ir t false false true false false false
 KJ:C6 K t.iL t false false false true false false
 KH:C6 K t.jc t false false false false true false
 J8:C6 K t.pB t false false false false false false
 KI:C6 K t.iK t false false false false false true
def iY(t:aW)(H:Hp)(v:V)(s:Tl):Prop:=∃z a dx,v=.ref z/\H z=some (.ins (cb t s.1) dx (cW (.ref a) s.1 (s.2.map λ(n:Nat)=>V.int (n:Int))))
theorem iY.keep{t:aW}{H H':Hp}{v:V}{s:Tl}(k:∀b C dx fs,H b=some (.ins C dx fs)->v=.ref b->H' b=some (.ins C dx fs))(h:iY t H v s):iY t H' v s:=by
 exact kG h λz a dx e1 h=>⟨z,a,dx,e1,(k _ _ _ _ h e1)⟩
theorem tO(m:Str)(h:∀f∈(["number","reg","parts","other","name","place"]:List Str),m≠f)(v:V)(x:Str)(ps:List V):(cW v x ps).lookup m=none:=by
 have h1:=h "number" (by simp);have h2:=h "reg" (by simp);have h3:=h "parts" (by simp);have h4:=h "other" (by simp);have h5:=h "name" (by simp);have h6:=h "place" (by simp);unfold cW
 repeat (first | (split;(simp only[dn,if_neg h1,if_neg h2,if_neg h3,if_neg h4,if_neg h5,if_neg h6];rfl)) | (simp only[dn,if_neg h1,if_neg h2,if_neg h3,if_neg h4,if_neg h5,if_neg h6];rfl))
def iJ(s:Tl):Bool:=decide (s.1 = "swap")||decide (s.1 = "clear")
theorem AV(t:aW):cb t "put" = t.jt:=by kernel_rfl
theorem ac'(ns:List Nat):iJ ("put",ns)=false:=by show (decide (("put" : Str) = "swap")||decide (("put" : Str) = "clear"))=_;decide +kernel
theorem AW(t:aW):cb t "add" = t.ju:=by kernel_rfl
theorem ada(ns:List Nat):iJ ("add",ns)=false:=by show (decide (("add" : Str) = "swap")||decide (("add" : Str) = "clear"))=_;decide +kernel
theorem tP(t:aW):cb t "set" = t.ir:=by kernel_rfl
theorem C2(ns:List Nat):iJ ("set",ns)=false:=by show (decide (("set" : Str) = "swap")||decide (("set" : Str) = "clear"))=_;decide +kernel
theorem vA(t:aW):cb t "look" = t.iL:=by kernel_rfl
theorem abE(ns:List Nat):iJ ("look",ns)=false:=by show (decide (("look" : Str) = "swap")||decide (("look" : Str) = "clear"))=_;decide +kernel
theorem AG(t:aW):cb t "swap" = t.jc:=by kernel_rfl
theorem abC(ns:List Nat):iJ ("swap",ns)=true:=by show (decide (("swap" : Str) = "swap")||decide (("swap" : Str) = "clear"))=_;decide +kernel
theorem CS(t:aW):cb t "clear" = t.pB:=by kernel_rfl
theorem aaJ(ns:List Nat):iJ ("clear",ns)=true:=by show (decide (("clear" : Str) = "swap")||decide (("clear" : Str) = "clear"))=_;decide +kernel
theorem AH(t:aW):cb t "skip" = t.iK:=by kernel_rfl
theorem abD(ns:List Nat):iJ ("skip",ns)=false:=by show (decide (("skip" : Str) = "swap")||decide (("skip" : Str) = "clear"))=_;decide +kernel
theorem S4{t:aW}{u:jW}(T:v5 K mg t u){z a dx:Addr}{H:Hp}{s:Tl}{sz:Nat}(g:cA sz s)(hz:H z=some (.ins (cb t s.1) dx (cW (.ref a) s.1 (s.2.map λ(n:Nat)=>V.int (n:Int))))) :
  ∃C f fd pn sp,H z=some (.ins C dx (cW (.ref a) s.1 (s.2.map λ(n:Nat)=>V.int (n:Int))))/\dj K C/\Meth K C "empties" f/\ao P w K mg base au 1 f fd pn sp/\Binds K fd pn []/\∀(Q:VK) (E:XK),Q (.bl (iJ s)) H->sp [.ref z] H Q E:=by
 cases g with
 | put r m h1 h2=>
  rw[ac'];have hz:H z=some (.ins (cb t "put") dx _):=hz;rw[AV]at hz;exact⟨_,_,_,_,_,hz,T.st.su,T.air,(AF T.Bt),T.wJ,(λQ E q=>⟨z,rfl,q⟩)⟩
 | add r m h1 h2=>
  rw[ada];have hz:H z=some (.ins (cb t "add") dx _):=hz;rw[AW]at hz;exact⟨_,_,_,_,_,hz,T.st.qI,T.ais,(AF T.Bt),T.wJ,(λQ E q=>⟨z,rfl,q⟩)⟩
 | set r m h1 h2=>
  rw[C2];have hz:H z=some (.ins (cb t "set") dx _):=hz;rw[tP]at hz;exact⟨_,_,_,_,_,hz,T.st.kJ,T.aiq,(AF T.Bt),T.wJ,(λQ E q=>⟨z,rfl,q⟩)⟩
 | look r m h1 h2=>
  rw[abE];have hz:H z=some (.ins (cb t "look") dx _):=hz;rw[vA]at hz;exact⟨_,_,_,_,_,hz,T.st.lK,T.agA,(AF T.Bt),T.wJ,(λQ E q=>⟨z,rfl,q⟩)⟩
 | swap r m h1 h2=>
  rw[abC];have hz:H z=some (.ins (cb t "swap") dx _):=hz;rw[AG]at hz;exact⟨_,_,_,_,_,hz,T.st.mQ,T.agy,(Z4 T.agq),T.K0,(λQ E q=>⟨z,rfl,q⟩)⟩
 | clear=>
  rw[aaJ];have hz:H z=some (.ins (cb t "clear") dx _):=hz;rw[CS]at hz;exact⟨_,_,_,_,_,hz,T.st.vE,T.afa,(ZP T.agu),T.K2,(λQ E q=>⟨z,rfl,q⟩)⟩
 | skip r m h1 h2 h3=>
  rw[abD];have hz:H z=some (.ins (cb t "skip") dx _):=hz;rw[AH]at hz;exact⟨_,_,_,_,_,hz,T.st.pA,T.agz,(AF T.Bt),T.wJ,(λQ E q=>⟨z,rfl,q⟩)⟩
theorem A8{t:aW}{u:jW}(T:v5 K mg t u){z a dx:Addr}{H:Hp}{s:Tl}{sz:Nat}(g:cA sz s)(hz:H z=some (.ins (cb t s.1) dx (cW (.ref a) s.1 (s.2.map λ(n:Nat)=>V.int (n:Int))))) :
  ∃C:Addr,fX K H (.ref z) (.ref C)/\C6 K C t (decide (s.1 = "put")) (decide (s.1 = "add")) (decide (s.1 = "set")) (decide (s.1 = "look")) (decide (s.1 = "swap")) (decide (s.1 = "skip")):=by
 cases g with
 | put r m h1 h2=>
  have hz:H z=some (.ins (cb t "put") dx _):=hz;rw[AV]at hz;exact az _ (fX.ins hz T.st.su T.Lw.cl T.gt T.tk T.Lw.mr) T.Lw
 | add r m h1 h2=>
  have hz:H z=some (.ins (cb t "add") dx _):=hz;rw[AW]at hz;exact az _ (fX.ins hz T.st.qI T.Lx.cl T.gt T.tk T.Lx.mr) T.Lx
 | set r m h1 h2=>
  have hz:H z=some (.ins (cb t "set") dx _):=hz;rw[tP]at hz;exact az _ (fX.ins hz T.st.kJ T.Lv.cl T.gt T.tk T.Lv.mr) T.Lv
 | look r m h1 h2=>
  have hz:H z=some (.ins (cb t "look") dx _):=hz;rw[vA]at hz;exact az _ (fX.ins hz T.st.lK T.KJ.cl T.gt T.tk T.KJ.mr) T.KJ
 | swap r m h1 h2=>
  have hz:H z=some (.ins (cb t "swap") dx _):=hz;rw[AG]at hz;exact az _ (fX.ins hz T.st.mQ T.KH.cl T.gt T.tk T.KH.mr) T.KH
 | clear=>
  have hz:H z=some (.ins (cb t "clear") dx _):=hz;rw[CS]at hz;exact az _ (fX.ins hz T.st.vE T.J8.cl T.gt T.tk T.J8.mr) T.J8
 | skip r m h1 h2 h3=>
  have hz:H z=some (.ins (cb t "skip") dx _):=hz;rw[AH]at hz;exact az _ (fX.ins hz T.st.pA T.KI.cl T.gt T.tk T.KI.mr) T.KI
structure Act where
 (k:Str) (c n:Nat) (got gave seen:Option Int)
def oV:Option Int->V
 | none=>.aE
 | some i=>.int i
def akr(a:Act):List V:=[.str a.k,.int (a.c:Nat),.int (a.n:Nat),oV a.got,oV a.gave,oV a.seen]
def yB(H:Hp)(v:V)(a:Act):Prop:=∃p,v=.ref p/\H p=some (.tup (akr a))
structure Ck where
 (pl ct:Nat) (rg:List Int) (tn:Int) (es:List Ent)
structure Mc where
 (kd:Str) (ps:List Pt) (ck:List Ck) (bd:List Int) (ac:List Act) (ov:List (List Int))
structure MA where
 (lt:Addr) (ts:List (Addr×Addr×List Addr)) (pg st pl ct rg:Addr) (rs:List Addr) (ce ac cm:Addr) (cs:List Addr)
def SR:List Str:=["at_end","may_do","carries","moves","do","do_step","do_set","do_look","do_swap","carry","come","on_board","settle","ended","where","steps_done","registers","waiting","board","deeds","deeds_done","deed_at","over","twin"]
structure ui(fs:List (Str×V))(A:MA)(S:Mc):Prop where
 gK:fs.lookup ("trays" : Str)=some (.ref A.lt)
 program:fs.lookup ("program" : Str)=some (.ref A.pg)
 kind:fs.lookup ("kind" : Str)=some (.str S.kd)
 steps:fs.lookup ("steps" : Str)=some (.ref A.st)
 places:fs.lookup ("places" : Str)=some (.ref A.pl)
 counts:fs.lookup ("counts" : Str)=some (.ref A.ct)
 eY:fs.lookup ("regs" : Str)=some (.ref A.rg)
 cells:fs.lookup ("cells" : Str)=some (.ref A.ce)
 iZ:fs.lookup ("acts" : Str)=some (.ref A.ac)
 mJ:fs.lookup ("comers" : Str)=some (.ref A.cm)
 ms:∀m∈SR,fs.lookup m=none
 wC:fs.length<=20
abbrev VX(CT:Addr)(kd:Str)(H:Hp)(x:Addr×Addr×List Addr)(k:Ck):Prop:=dy H x.1 CT kd k.tn k.es x.2.1 x.2.2
def yo(t:aW)(H:Hp)(v:V)(p:Pt):Prop:=∃b us,v=.ref b/\H b=some (.tup us)/\Paired (iY t H) us p
structure bo(t:aW)(C CT:Addr)(H:Hp)(m:Addr)(A:MA)(S:Mc):Prop where
 obj:∃dx fs,H m=some (.ins C dx fs)/\ui fs A S
 lt:H A.lt=some (.lst (A.ts.map λx=>V.ref x.1))
 ts:Paired (VX CT S.kd H) A.ts S.ck
 pg:jo H (.ref A.pg) S.ps
 st:∃vs,H A.st=some (.tup vs)/\Paired (yo t H) vs S.ps
 pl:H A.pl=some (.lst (S.ck.map λk=>V.int (k.pl:Nat)))
 ct:H A.ct=some (.lst (S.ck.map λk=>V.int (k.ct:Nat)))
 rg:H A.rg=some (.lst (A.rs.map V.ref))
 rs:Paired (λa (k:Ck)=>H a=some (.lst (k.rg.map V.int))) A.rs S.ck
 ce:H A.ce=some (.lst (S.bd.map V.int))
 ac:∃vs,H A.ac=some (.lst vs)/\Paired (yB H) vs S.ac
 cm:H A.cm=some (.lst (A.cs.map V.ref))
 cs:Paired (λa (o:List Int)=>H a=some (.lst (o.map V.int))) A.cs S.ov
structure jQ(lab:Addr->Nat)(m:Addr)(A:MA):Prop where
 m:lab m=2
 lt:lab A.lt=4
 pl:lab A.pl=6
 ct:lab A.ct=8
 rg:lab A.rg=10
 ce:lab A.ce=12
 ac:lab A.ac=14
 cm:lab A.cm=16
 rs:∀i a,A.rs[i]?=some a->lab a=24+6*i
 cs:∀i a,A.cs[i]?=some a->lab a=26+6*i
 ts:∀i x,A.ts[i]?=some x->∀b∈x.1::x.2.1::x.2.2,lab b=28+6*i
inductive dq (m:Addr) (A:MA):Addr->Prop
 | m:dq m A m
 | lt:dq m A A.lt
 | pl:dq m A A.pl
 | ct:dq m A A.ct
 | rg:dq m A A.rg
 | ce:dq m A A.ce
 | ac:dq m A A.ac
 | cm:dq m A A.cm
 | rs {a:Addr}:a∈A.rs->dq m A a
 | cs {a:Addr}:a∈A.cs->dq m A a
 | ts {x:Addr×Addr×List Addr} {b:Addr}:x∈A.ts->b∈x.1::x.2.1::x.2.2->dq m A b
structure a9(F:Addr->Prop)(H H':Hp):Prop where
 k:∀b o,¬F b->(∀ps,o≠.eL ps)->H b=some o->H' b=some o
 t:∀b,H' b=none->H b=none
theorem a9.of{F:Addr->Prop}{H H':Hp}(s:ah H H'):a9 F H H':=⟨λb o _ _ e=>s b o e,λb h=>s.free h⟩
theorem a9.refl{F:Addr->Prop}(H:Hp):a9 F H H:=⟨λ_ _ _ _ e=>e,λ_ h=>h⟩
theorem a9.trans{F:Addr->Prop}{H H1 H2:Hp}(a:a9 F H H1)(b:a9 F H1 H2):a9 F H H2:=⟨λc o h1 h2 e=>b.k c o h1 h2 (a.k c o h1 h2 e),λc h=>a.t c (b.t c h)⟩
theorem a9.mono{F G:Addr->Prop}{H H':Hp}(a:a9 F H H')(h:∀b,F b->G b):a9 G H H':=⟨λc o h1 h2 e=>a.k c o (λz=>h1 (h c z)) h2 e,a.t⟩
theorem a9.Mi{F:List Addr}{G:Addr->Prop}{H H':Hp}(a:gq F H H')(h:∀b∈F,G b):a9 G H H':=⟨λc o h1 h2 e=>a.k c o (λz=>h1 (h c z)) h2 e,a.t⟩
theorem a9.upd{F:Addr->Prop}{H:Hp}{x:Addr}{o:HO}(h:F x):a9 F H (upd H x o):=⟨λb q n _ e=>by rw[ak λz=>n (by rw[z];exact h)];exact e,λb e=>by
 by_cases z:b=x
 ·rw[z,av]at e;cases e
 ·rwa[ak z]at e⟩
theorem gq.ofA{H H':Hp}{a C q:Addr}{kd:Str}{tn:Int}{es:List Ent}{qr:List Addr}(k:D' (a::q::qr) H H')(T:dy H' a C kd tn es q qr):gq (a::q::qr) H H':=
 ⟨λc o h1 _ e=>k c o h1 e,λc h=>by
  by_cases z:c∈a::q::qr
  ·refine oE (T.there c z) λo e=>?_;rw[e]at h;cases h
  ·cases e:H c with
   | none=>rfl
   | some o=>rw[k c o z e]at h;cases h⟩
def sP:Addr->Prop:=λ_=>False
theorem gX{α β:Type}{F:α->β->Prop}{G:α->β->Prop}:∀{l:List α} {r:List β},Paired F l r->(∀(i:Nat) a b,l[i]?=some a->r[i]?=some b->F a b->G a b)->Paired G l r
 | _,_,.nil,_=>.nil
 | _,_,.cons h t,k=>.cons (k 0 _ _ rfl rfl h) (gX t λi a b e1 e2 q=>k (i+1) a b (by simpa using e1) (by simpa using e2) q)
theorem yo.keep{t:aW}{H H':Hp}{v:V}{p:Pt}(kt:∀b xs,H b=some (.tup xs)->H' b=some (.tup xs))(ki:∀b C dx fs,H b=some (.ins C dx fs)->(∃x ps v,C=cb t x/\fs=cW v x ps)->H' b=some (.ins C dx fs))(h:yo t H v p):yo t H' v p:=by
 exact dF h λb us e h1 h2=>eG b us e (kt _ _ h1) (Paired.cF h2 λv s q=>kG q λz a dx e1 q=>⟨z,a,dx,e1,(ki _ _ _ _ q (uy _ _ (az _ rfl rfl)))⟩)
theorem yB.keep{H H':Hp}{v:V}{a:Act}(k:∀b xs,H b=some (.tup xs)->H' b=some (.tup xs))(h:yB H v a):yB H' v a:=by
 exact ay h λp e h=>az p e (k _ _ h)
theorem qi{α β:Type}{F:α->β->Prop}:∀{l:List α} {r:List β} {i:Nat} {y:β},Paired F l r->r[i]?=some y->∃x,l[i]?=some x/\F x y
 | _,_,_,_,.nil,e=>by simp at e
 | _,_,0,_,.cons h _,e=>by simp at e;subst e;exact⟨_,rfl,h⟩
 | _,_,i+1,x,.cons _ t,e=>by
  exact ay (qi (i:=i) t (by simpa using e)) λy h1 h2=>az y (by simpa using h1) h2
theorem Hf{α β:Type}{F:α->β->Prop}{l':List α}{r':List β}(h':Paired F l' r'):∀{l:List α} {r:List β},Paired F l r->Paired F (l++l') (r++r')
 | _,_,.nil=>h'
 | _,_,.cons g t=>.cons g (Hf h' t)
theorem qh{α β:Type}{F:α->β->Prop}:∀{l:List α} {m:List β} {b:α},Paired F l m->b∈l->∃y,y∈m/\F b y
 | _,_,_,.nil,h=>by simp at h
 | _,_,_,.cons h t,e=>by
  rcases bR.mp e with z | z
  ·subst z;exact⟨_,by simp,h⟩
  ·exact ay (qh t z) λy hy q=>az y (dJ _ hy) q
theorem bo.keep{t:aW}{C CT:Addr}{H H':Hp}{m:Addr}{A:MA}{S:Mc}(M:bo t C CT H m A S)(k:∀b,dq m A b->∀o,H b=some o->H' b=some o)(kt:∀b xs,H b=some (.tup xs)->H' b=some (.tup xs))(ki:∀b C dx fs,H b=some (.ins C dx fs)->H' b=some (.ins C dx fs)):bo t C CT H' m A S:=by
 obtain⟨⟨dx,fs,h1,h2⟩,lt,ts,pg,⟨vs,s1,s2⟩,pl,ct,rg,rs,ce,⟨us,a1,a2⟩,cm,cs⟩:=M;exact⟨⟨dx,fs,k _ .m _ h1,h2⟩,k _ .lt _ lt,gX ts λi x c hx _ q=>q.keep (λb hb o e=>k b (.ts (bw hx) hb) o e) kt,pg.keep kt,⟨vs,kt _ _ s1,Paired.cF s2 λ_ _ q=>q.keep kt λb C dx fs e _=>ki b C dx fs e⟩,k _ .pl _ pl,k _ .ct _ ct,k _ .rg _ rg,gX rs λi x c hx _ q=>k x (.rs (bw hx)) _ q,k _ .ce _ ce,⟨us,k _ .ac _ a1,Paired.cF a2 λ_ _ q=>q.keep kt⟩,k _ .cm _ cm,gX cs λi x c hx _ q=>k x (.cs (bw hx)) _ q⟩
theorem bo.aib{t:aW}{C CT:Addr}{H H':Hp}{m:Addr}{A:MA}{S:Mc}{F:Addr->Prop}(M:bo t C CT H m A S)(k:a9 F H H')(hF:∀b,F b->¬dq m A b/\∀o,H b=some o->∃xs,o=.lst xs):bo t C CT H' m A S:=by
 have nt:∀b o,dq m A b->H b=some o->∀ps,o≠.eL ps:=by
  intro b o hb e ps z;subst z;cases hb with
  | m=>obtain⟨dx,fs,h,_⟩:=M.obj;rw[h]at e;cases e
  | lt=>rw[M.lt]at e;cases e
  | pl=>rw[M.pl]at e;cases e
  | ct=>rw[M.ct]at e;cases e
  | rg=>rw[M.rg]at e;cases e
  | ce=>rw[M.ce]at e;cases e
  | ac=>obtain⟨vs,h,_⟩:=M.ac;rw[h]at e;cases e
  | cm=>rw[M.cm]at e;cases e
  | rs h=>
   refine ay (qh M.rs h) λc _ q=>?_;rw[q]at e;cases e
  | cs h=>
   refine ay (qh M.cs h) λc _ q=>?_;rw[q]at e;cases e
  | ts h h2=>
   refine ay (qh M.ts h) λc _ q=>?_;rcases q.kinds _ h2 _ e with ⟨_,_,_,z⟩ | ⟨_,z⟩ <;> cases z
 refine M.keep (λb hb o e=>k.k b o (λz=>(hF b z).1 hb) (nt b o hb e) e) (λb xs e=>k.k b _ (λz=>?_) (λps z=>by cases z) e) λb C dx fs e=>k.k b _ (λz=>?_) (λps z=>by cases z) e
 ·refine oE ((hF b z).2 _ e) λys q=>?_;cases q
 ·refine oE ((hF b z).2 _ e) λys q=>?_;cases q
theorem bo.same{t:aW}{C CT:Addr}{H H':Hp}{m:Addr}{A:MA}{S:Mc}(M:bo t C CT H m A S)(s:ah H H'):bo t C CT H' m A S:=M.keep (λb _ o e=>s b o e) (λb xs e=>s b _ e) λb C dx fs e=>s b _ e
theorem bo.vN{t:aW}{C CT:Addr}{H H':Hp}{m:Addr}{A:MA}{S:Mc}(M:bo t C CT H m A S)(k:a9 sP H H'):bo t C CT H' m A S:=M.aib k λb z=>z.elim
theorem gF{a b c m:Nat}(l:a<b:=by decide):a≠b+m*c:=λh=>iH a (eB l (h ▸ Gn b (m*c)))
theorem oF{a b c m:Nat}(l:a<b:=by decide):b+m*c≠a:=λe=>gF (l:=l) e.symm
theorem uu{a b i c m:Nat}(l:a%m≠b%m:=by decide):a+m*i≠b+m*c:=λh=>l (by rw[<-Yx a m i,h,Yx])
theorem za{a b i c:Nat}(h:i≠c:=by with_reducible assumption):a+(b+1)*i≠a+(b+1)*c:=λe=>h (Nat.eq_of_mul_eq_mul_left (OY b) (Nat.add_left_cancel e))
theorem fv{a b:Nat}(n:a≠b:=by decide):a≠b:=n
theorem bG{p q a b:Nat}(e1:p=a)(e2:q=b)(n:a≠b):p≠q:=λh=>n (e1.symm.trans (h.trans e2))
theorem pL{p q a:Nat}(e1:p=a)(n:a≠q):p≠q:=λh=>n (e1.symm.trans h)
theorem bz{lab:Addr->Nat}{a b:Addr}(h:lab a≠lab b):a≠b:=λe=>h (by rw[e])
theorem xP{α β:Type}{f:α->β}{r:List α}{c:Nat}{k k':α}(h:r[c]?=some k)(e:f k'=f k):(r.set c k').map f=r.map f:=by
 rw[tF,e];refine oE (dC.mp h) λhc hk=>?_;rw[<-hk]
 exact List.ext_getElem? λi=>by
  rw[List.getElem?_set]
  split
  ·rename_i hi
   subst hi
   split
   ·rw[eJ,aR hc];rfl
   ·rename_i hn;rw[aH]at hn;exact absurd hc hn
  ·rfl
theorem vw{α β:Type}{F:α->β->Prop}{b':β}:∀{l:List α} {r:List β} {c:Nat} {b:β},Paired F l r->r[c]?=some b->(∀a,l[c]?=some a->F a b->F a b')->Paired F l (r.set c b')
 | _,_,_,_,.nil,_,_=>.nil
 | _,_,0,b,.cons h t,e,k=>by
  simp only[List.getElem?_cons_zero,vo]at e;subst e;exact .cons (k _ rfl h) t
 | _,_,c+1,b,.cons h t,e,k=>by
  rw[YF]at e;exact .cons h (vw t e λa ha=>k a (by simpa using ha))
theorem CB{α β:Type}{F G:α->β->Prop}{b':β}:∀{l:List α} {r:List β} {c:Nat},Paired F l r->(∀i a b,i≠c->l[i]?=some a->r[i]?=some b->F a b->G a b)->(∀a b,l[c]?=some a->r[c]?=some b->F a b->G a b')->Paired G l (r.set c b')
 | _,_,_,.nil,_,_=>.nil
 | _,_,0,.cons h t,k,k'=>by
  refine .cons (k' _ _ rfl rfl h) (gX t λi a b e1 e2 q=>k (i+1) a b li (by simpa using e1) (by simpa using e2) q)
 | _,_,c+1,.cons h t,k,k'=>by
  refine .cons (k 0 _ _ li rfl rfl h) (CB t (λi a b hi e1 e2 q=>k (i+1) a b li (by simpa using e1) (by simpa using e2) q) λa b e1 e2 q=>k' a b (by simpa using e1) (by simpa using e2) q)
theorem xS{α β:Type}{F:α->β->Prop}{a:α}{b:β}:∀{l:List α} {r:List β},Paired F l r->F a b->Paired F (l++[a]) (r++[b])
 | _,_,.nil,h=>.cons h .nil
 | _,_,.cons g t,h=>.cons g (xS t h)
section
variable{t:aW}{C CT:Addr}{H:Hp}{m:Addr}{A:MA}{S:Mc}{lab:Addr->Nat}
theorem yh{x:Addr}{xs:List V}{o:HO}(hx:H x=some (.lst xs)):∀b ys,H b=some (.tup ys)->upd H x o b=some (.tup ys):=λb ys e=>by rw[ak (ik e hx (by intro z;cases z))];exact e
theorem yi{x:Addr}{xs:List V}{o:HO}(hx:H x=some (.lst xs)):∀b C dx fs,H b=some (.ins C dx fs)->upd H x o b=some (.ins C dx fs):=λb C dx fs e=>by rw[ak (ik e hx (by intro z;cases z))];exact e
theorem ae1{PT x:Addr}{pos:Pos}{q:Str}{xs:List V}{o:HO}(hx:H x=some (.lst xs))(h:de PT pos q H):de PT pos q (upd H x o):=
 An (F:=[x]) h (λb o' n e=>by rw[ak λz=>n (by rw[z];exact eN.mpr rfl)];exact e) λb hb o' e=>by rw[eN.mp hb,hx]at e;cases e;exact .inr ⟨_,rfl⟩
theorem ag9(M:bo t C CT H m A S)(L:jQ lab m A){c:Nat}{k:Ck}(hk:S.ck[c]?=some k)(v:Nat):bo t C CT (upd H A.pl (.lst ((S.ck.map λk=>V.int (k.pl:Nat)).set c (.int (v:Nat))))) m A { S with ck:=S.ck.set c { k with pl:=v } }:=by
 obtain⟨⟨dx,fs,h1,h2⟩,lt,ts,pg,⟨vs,s1,s2⟩,pl,ct,rg,rs,ce,⟨us,a1,a2⟩,cm,cs⟩:=M;have bh:=L.pl;have kt:=yh (o:=.lst ((S.ck.map λk=>V.int (k.pl:Nat)).set c (.int (v:Nat)))) pl;have ki:=yi (o:=.lst ((S.ck.map λk=>V.int (k.pl:Nat)).set c (.int (v:Nat)))) pl;have h2:ui fs A { S with ck:=S.ck.set c { k with pl:=v } }:=⟨h2.gK,h2.program,h2.kind,h2.steps,h2.places,h2.counts,h2.eY,h2.cells,h2.iZ,h2.mJ,h2.ms,h2.wC⟩
 exact⟨⟨dx,fs,(ak (bz (lab:=lab) (bG L.m bh fv))).trans h1,h2⟩,(ak (bz (lab:=lab) (bG L.lt bh fv))).trans lt,vw (gX ts λi x c hx _ q=>dy.keep q (λb hb o e=>(ak (bz (lab:=lab) (bG (L.ts i x hx b hb) bh oF))).trans e) kt) hk λa _ q=>q,pg.keep kt,⟨vs,kt _ _ s1,Paired.cF s2 λ_ _ q=>q.keep kt λb C dx fs e _=>ki b C dx fs e⟩,by
   show upd H _ _ A.pl=some (.lst ((S.ck.set c { k with pl:=v }).map λk=>V.int (k.pl:Nat)));rw[av,tF],by
   show upd H _ _ A.ct=some (.lst ((S.ck.set c { k with pl:=v }).map λk=>V.int (k.ct:Nat)));rw[xP (f:=λk:Ck=>V.int (k.ct:Nat)) (k':={ k with pl:=v }) hk rfl];exact(ak (bz (lab:=lab) (bG L.ct bh fv))).trans ct,(ak (bz (lab:=lab) (bG L.rg bh fv))).trans rg,vw (gX rs λi x c hx _ q=>(ak (bz (lab:=lab) (bG (L.rs i x hx) bh oF))).trans q) hk λa _ q=>q,(ak (bz (lab:=lab) (bG L.ce bh fv))).trans ce,⟨us,(ak (bz (lab:=lab) (bG L.ac bh fv))).trans a1,Paired.cF a2 λ_ _ q=>q.keep kt⟩,(ak (bz (lab:=lab) (bG L.cm bh fv))).trans cm,gX cs λi x c hx _ q=>(ak (bz (lab:=lab) (bG (L.cs i x hx) bh oF))).trans q⟩
theorem aha(M:bo t C CT H m A S)(L:jQ lab m A){c:Nat}{k:Ck}(hk:S.ck[c]?=some k)(v:Nat):bo t C CT (upd H A.ct (.lst ((S.ck.map λk=>V.int (k.ct:Nat)).set c (.int (v:Nat))))) m A { S with ck:=S.ck.set c { k with ct:=v } }:=by
 obtain⟨⟨dx,fs,h1,h2⟩,lt,ts,pg,⟨vs,s1,s2⟩,pl,ct,rg,rs,ce,⟨us,a1,a2⟩,cm,cs⟩:=M;have bh:=L.ct;have kt:=yh (o:=.lst ((S.ck.map λk=>V.int (k.ct:Nat)).set c (.int (v:Nat)))) ct;have ki:=yi (o:=.lst ((S.ck.map λk=>V.int (k.ct:Nat)).set c (.int (v:Nat)))) ct;have h2:ui fs A { S with ck:=S.ck.set c { k with ct:=v } }:=⟨h2.gK,h2.program,h2.kind,h2.steps,h2.places,h2.counts,h2.eY,h2.cells,h2.iZ,h2.mJ,h2.ms,h2.wC⟩
 exact⟨⟨dx,fs,(ak (bz (lab:=lab) (bG L.m bh fv))).trans h1,h2⟩,(ak (bz (lab:=lab) (bG L.lt bh fv))).trans lt,vw (gX ts λi x c hx _ q=>dy.keep q (λb hb o e=>(ak (bz (lab:=lab) (bG (L.ts i x hx b hb) bh oF))).trans e) kt) hk λa _ q=>q,pg.keep kt,⟨vs,kt _ _ s1,Paired.cF s2 λ_ _ q=>q.keep kt λb C dx fs e _=>ki b C dx fs e⟩,by
   show upd H _ _ A.pl=some (.lst ((S.ck.set c { k with ct:=v }).map λk=>V.int (k.pl:Nat)));rw[xP (f:=λk:Ck=>V.int (k.pl:Nat)) (k':={ k with ct:=v }) hk rfl];exact(ak (bz (lab:=lab) (bG L.pl bh fv))).trans pl,by
   show upd H _ _ A.ct=some (.lst ((S.ck.set c { k with ct:=v }).map λk=>V.int (k.ct:Nat)));rw[av,tF],(ak (bz (lab:=lab) (bG L.rg bh fv))).trans rg,vw (gX rs λi x c hx _ q=>(ak (bz (lab:=lab) (bG (L.rs i x hx) bh oF))).trans q) hk λa _ q=>q,(ak (bz (lab:=lab) (bG L.ce bh fv))).trans ce,⟨us,(ak (bz (lab:=lab) (bG L.ac bh fv))).trans a1,Paired.cF a2 λ_ _ q=>q.keep kt⟩,(ak (bz (lab:=lab) (bG L.cm bh fv))).trans cm,gX cs λi x c hx _ q=>(ak (bz (lab:=lab) (bG (L.cs i x hx) bh oF))).trans q⟩
theorem DS(M:bo t C CT H m A S)(L:jQ lab m A){c:Nat}{k:Ck}(hk:S.ck[c]?=some k){a:Addr}(ha:A.rs[c]?=some a)(r:Nat)(v:Int):bo t C CT (upd H a (.lst ((k.rg.map V.int).set r (.int v)))) m A { S with ck:=S.ck.set c { k with rg:=k.rg.set r v } }:=by
 obtain⟨⟨dx,fs,h1,h2⟩,lt,ts,pg,⟨vs,s1,s2⟩,pl,ct,rg,rs,ce,⟨us,a1,a2⟩,cm,cs⟩:=M
 have i5:H a=some (.lst (k.rg.map V.int)):=by
  refine ay (Ak rs ha) λk2 e2 q=>?_;rw[hk]at e2;cases e2;exact q
 have bh:=L.rs c a ha;have kt:=yh (o:=.lst ((k.rg.map V.int).set r (.int v))) i5;have ki:=yi (o:=.lst ((k.rg.map V.int).set r (.int v))) i5;have h2:ui fs A { S with ck:=S.ck.set c { k with rg:=k.rg.set r v } }:=⟨h2.gK,h2.program,h2.kind,h2.steps,h2.places,h2.counts,h2.eY,h2.cells,h2.iZ,h2.mJ,h2.ms,h2.wC⟩
 exact⟨⟨dx,fs,(ak (bz (lab:=lab) (bG L.m bh gF))).trans h1,h2⟩,(ak (bz (lab:=lab) (bG L.lt bh gF))).trans lt,vw (gX ts λi x c hx _ q=>dy.keep q (λb hb o e=>(ak (bz (lab:=lab) (bG (L.ts i x hx b hb) bh uu))).trans e) kt) hk λa _ q=>q,pg.keep kt,⟨vs,kt _ _ s1,Paired.cF s2 λ_ _ q=>q.keep kt λb C dx fs e _=>ki b C dx fs e⟩,by
   show upd H _ _ A.pl=some (.lst ((S.ck.set c { k with rg:=k.rg.set r v }).map λk=>V.int (k.pl:Nat)));rw[xP (f:=λk:Ck=>V.int (k.pl:Nat)) (k':={ k with rg:=k.rg.set r v }) hk rfl];exact(ak (bz (lab:=lab) (bG L.pl bh gF))).trans pl,by
   show upd H _ _ A.ct=some (.lst ((S.ck.set c { k with rg:=k.rg.set r v }).map λk=>V.int (k.ct:Nat)));rw[xP (f:=λk:Ck=>V.int (k.ct:Nat)) (k':={ k with rg:=k.rg.set r v }) hk rfl];exact(ak (bz (lab:=lab) (bG L.ct bh gF))).trans ct,(ak (bz (lab:=lab) (bG L.rg bh gF))).trans rg,CB rs (λi x b hi hx _ q=>(ak (bz (lab:=lab) (bG (L.rs i x hx) bh za))).trans q) λx b hx hb q=>by
   rw[ha]at hx;cases hx;show upd H a _ a=some (.lst ((k.rg.set r v).map V.int));rw[av,tF],(ak (bz (lab:=lab) (bG L.ce bh gF))).trans ce,⟨us,(ak (bz (lab:=lab) (bG L.ac bh gF))).trans a1,Paired.cF a2 λ_ _ q=>q.keep kt⟩,(ak (bz (lab:=lab) (bG L.cm bh gF))).trans cm,gX cs λi x c hx _ q=>(ak (bz (lab:=lab) (bG (L.cs i x hx) bh uu))).trans q⟩
theorem ahb(M:bo t C CT H m A S)(L:jQ lab m A)(n:Nat)(v:Int):bo t C CT (upd H A.ce (.lst ((S.bd.map V.int).set n (.int v)))) m A { S with bd:=S.bd.set n v }:=by
 obtain⟨⟨dx,fs,h1,h2⟩,lt,ts,pg,⟨vs,s1,s2⟩,pl,ct,rg,rs,ce,⟨us,a1,a2⟩,cm,cs⟩:=M;have bh:=L.ce;have kt:=yh (o:=.lst ((S.bd.map V.int).set n (.int v))) ce;have ki:=yi (o:=.lst ((S.bd.map V.int).set n (.int v))) ce;have h2:ui fs A { S with bd:=S.bd.set n v }:=⟨h2.gK,h2.program,h2.kind,h2.steps,h2.places,h2.counts,h2.eY,h2.cells,h2.iZ,h2.mJ,h2.ms,h2.wC⟩
 exact⟨⟨dx,fs,(ak (bz (lab:=lab) (bG L.m bh fv))).trans h1,h2⟩,(ak (bz (lab:=lab) (bG L.lt bh fv))).trans lt,gX ts λi x c hx _ q=>dy.keep q (λb hb o e=>(ak (bz (lab:=lab) (bG (L.ts i x hx b hb) bh oF))).trans e) kt,pg.keep kt,⟨vs,kt _ _ s1,Paired.cF s2 λ_ _ q=>q.keep kt λb C dx fs e _=>ki b C dx fs e⟩,(ak (bz (lab:=lab) (bG L.pl bh fv))).trans pl,(ak (bz (lab:=lab) (bG L.ct bh fv))).trans ct,(ak (bz (lab:=lab) (bG L.rg bh fv))).trans rg,gX rs λi x c hx _ q=>(ak (bz (lab:=lab) (bG (L.rs i x hx) bh oF))).trans q,by
   show upd H _ _ A.ce=some (.lst ((S.bd.set n v).map V.int));rw[av,tF],⟨us,(ak (bz (lab:=lab) (bG L.ac bh fv))).trans a1,Paired.cF a2 λ_ _ q=>q.keep kt⟩,(ak (bz (lab:=lab) (bG L.cm bh fv))).trans cm,gX cs λi x c hx _ q=>(ak (bz (lab:=lab) (bG (L.cs i x hx) bh oF))).trans q⟩
theorem Km(M:bo t C CT H m A S)(L:jQ lab m A){ws:List V}(hw:H A.ac=some (.lst ws)){x:V}{a:Act}(hx:yB H x a):bo t C CT (upd H A.ac (.lst (ws++[x]))) m A { S with ac:=S.ac++[a] }:=by
 obtain⟨⟨dx,fs,h1,h2⟩,lt,ts,pg,⟨vs,s1,s2⟩,pl,ct,rg,rs,ce,⟨us,a1,a2⟩,cm,cs⟩:=M;obtain rfl:ws=us:=by rw[hw]at a1;cases a1;rfl
 have bh:=L.ac;have kt:=yh (o:=.lst (ws++[x])) hw;have ki:=yi (o:=.lst (ws++[x])) hw;have h2:ui fs A { S with ac:=S.ac++[a] }:=⟨h2.gK,h2.program,h2.kind,h2.steps,h2.places,h2.counts,h2.eY,h2.cells,h2.iZ,h2.mJ,h2.ms,h2.wC⟩;exact⟨⟨dx,fs,(ak (bz (lab:=lab) (bG L.m bh fv))).trans h1,h2⟩,(ak (bz (lab:=lab) (bG L.lt bh fv))).trans lt,gX ts λi x c hx _ q=>dy.keep q (λb hb o e=>(ak (bz (lab:=lab) (bG (L.ts i x hx b hb) bh oF))).trans e) kt,pg.keep kt,⟨vs,kt _ _ s1,Paired.cF s2 λ_ _ q=>q.keep kt λb C dx fs e _=>ki b C dx fs e⟩,(ak (bz (lab:=lab) (bG L.pl bh fv))).trans pl,(ak (bz (lab:=lab) (bG L.ct bh fv))).trans ct,(ak (bz (lab:=lab) (bG L.rg bh fv))).trans rg,gX rs λi x c hx _ q=>(ak (bz (lab:=lab) (bG (L.rs i x hx) bh oF))).trans q,(ak (bz (lab:=lab) (bG L.ce bh fv))).trans ce,⟨ws++[x],av,xS (Paired.cF a2 λ_ _ q=>q.keep kt) (hx.keep kt)⟩,(ak (bz (lab:=lab) (bG L.cm bh fv))).trans cm,gX cs λi x c hx _ q=>(ak (bz (lab:=lab) (bG (L.cs i x hx) bh oF))).trans q⟩
theorem ag'(M:bo t C CT H m A S)(L:jQ lab m A){n:Nat}{ov:List Int}(hn:S.ov[n]?=some ov){a:Addr}(ha:A.cs[n]?=some a)(d:Int):bo t C CT (upd H a (.lst (ov.map V.int++[.int d]))) m A { S with ov:=S.ov.set n (ov++[d]) }:=by
 obtain⟨⟨dx,fs,h1,h2⟩,lt,ts,pg,⟨vs,s1,s2⟩,pl,ct,rg,rs,ce,⟨us,a1,a2⟩,cm,cs⟩:=M
 have rB:H a=some (.lst (ov.map V.int)):=by
  refine ay (Ak cs ha) λo2 e2 q=>?_;rw[hn]at e2;cases e2;exact q
 have bh:=L.cs n a ha;have kt:=yh (o:=.lst (ov.map V.int++[.int d])) rB;have ki:=yi (o:=.lst (ov.map V.int++[.int d])) rB;have h2:ui fs A { S with ov:=S.ov.set n (ov++[d]) }:=⟨h2.gK,h2.program,h2.kind,h2.steps,h2.places,h2.counts,h2.eY,h2.cells,h2.iZ,h2.mJ,h2.ms,h2.wC⟩
 exact⟨⟨dx,fs,(ak (bz (lab:=lab) (bG L.m bh gF))).trans h1,h2⟩,(ak (bz (lab:=lab) (bG L.lt bh gF))).trans lt,gX ts λi x c hx _ q=>dy.keep q (λb hb o e=>(ak (bz (lab:=lab) (bG (L.ts i x hx b hb) bh uu))).trans e) kt,pg.keep kt,⟨vs,kt _ _ s1,Paired.cF s2 λ_ _ q=>q.keep kt λb C dx fs e _=>ki b C dx fs e⟩,(ak (bz (lab:=lab) (bG L.pl bh gF))).trans pl,(ak (bz (lab:=lab) (bG L.ct bh gF))).trans ct,(ak (bz (lab:=lab) (bG L.rg bh gF))).trans rg,gX rs λi x c hx _ q=>(ak (bz (lab:=lab) (bG (L.rs i x hx) bh uu))).trans q,(ak (bz (lab:=lab) (bG L.ce bh gF))).trans ce,⟨us,(ak (bz (lab:=lab) (bG L.ac bh gF))).trans a1,Paired.cF a2 λ_ _ q=>q.keep kt⟩,(ak (bz (lab:=lab) (bG L.cm bh gF))).trans cm,CB cs (λi x b hi hx _ q=>(ak (bz (lab:=lab) (bG (L.cs i x hx) bh za))).trans q) λx b hx hb q=>by
   rw[ha]at hx;cases hx;rw[av,gf];rfl⟩
theorem Tj{H':Hp}{c:Nat}{k:Ck}{x:Addr×Addr×List Addr}{tn:Int}{es:List Ent}(M:bo t C CT H m A S)(L:jQ lab m A)(hk:S.ck[c]?=some k)(hx:A.ts[c]?=some x)(kp:gq (x.1::x.2.1::x.2.2) H H')(T:dy H' x.1 CT S.kd tn es x.2.1 x.2.2) :
  bo t C CT H' m A { S with ck:=S.ck.set c { k with tn:=tn,es:=es } }:=by
 obtain⟨⟨dx,fs,h1,h2⟩,lt,ts,pg,⟨vs,s1,s2⟩,pl,ct,rg,rs,ce,⟨us,a1,a2⟩,cm,cs⟩:=M;refine ay (Ak ts hx) λk0 e0 T0=>?_;rw[hk]at e0;cases e0;have bh:=L.ts c x hx;have out:∀b o,lab b≠28+6*c->(∀ps,o≠.eL ps)->H b=some o->H' b=some o:=λb o n z e=>kp.k b o (λhb=>n (bh b hb)) z e;have kt:∀b ys,H b=some (.tup ys)->H' b=some (.tup ys):=λb ys e=>kp.k b _ (λhb=>by rcases T0.kinds b hb _ e with ⟨_,_,_,z⟩ | ⟨_,z⟩ <;> cases z) (λps z=>by cases z) e
 have ki:∀b C dx fs,H b=some (.ins C dx fs)->(∃x ps v,C=cb t x/\fs=cW v x ps)->H' b=some (.ins C dx fs):=λb C dx fs e hs=>kp.k b _ (λhb=>by
  refine kG hs λx' ps v _ aa=>?_;clear hs;subst aa;rcases bR.mp hb with z | z
  ·refine dF T0.obj λCg lY e' rq _=>?_;rw[z,e']at e;cases e;rw[tO "kind" dk]at rq;cases rq
  ·rcases bR.mp z with z | z
   ·rw[z,T0.qs]at e;cases e
   ·refine oE (nJ z) λi aa=>oE aa λhi ez=>?_;obtain⟨nz,e',_⟩:=T0.jg i b (by rw[<-ez];exact aR hi);rw[e']at e;cases e) (λps z=>by cases z) e
 have nl:∀ys:List V,∀ps,HO.lst ys≠.eL ps:=λys ps z=>by cases z
 have h2:ui fs A { S with ck:=S.ck.set c { k with tn:=tn,es:=es } }:=⟨h2.gK,h2.program,h2.kind,h2.steps,h2.places,h2.counts,h2.eY,h2.cells,h2.iZ,h2.mJ,h2.ms,h2.wC⟩;refine⟨⟨dx,fs,out _ _ (pL L.m gF) (λps z=>by cases z) h1,h2⟩,out _ _ (pL L.lt gF) (nl _) lt,?_,pg.keep kt,⟨vs,kt _ _ s1,Paired.cF s2 λ_ _ q=>q.keep kt ki⟩,?_,?_,out _ _ (pL L.rg gF) (nl _) rg,?_,out _ _ (pL L.ce gF) (nl _) ce,⟨us,out _ _ (pL L.ac gF) (nl _) a1,Paired.cF a2 λ_ _ q=>q.keep kt⟩,out _ _ (pL L.cm gF) (nl _) cm,gX cs λi y b hy _ q=>out _ _ (pL (L.cs i y hy) uu) (nl _) q⟩
 ·refine CB ts (λi y b hi hy _ q=>dy.keep q (λb' p4 o e=>out b' o (pL (L.ts i y hy b' p4) za) (λps z=>?_) e) kt) λy b hy hb q=>?_
  ·rcases q.kinds b' p4 _ e with ⟨_,_,_,w⟩ | ⟨_,w⟩ <;> (rw[z]at w;cases w)
  ·rw[hx]at hy;cases hy;exact T
 ·show H' A.pl=some (.lst ((S.ck.set c { k with tn:=tn,es:=es }).map λk=>V.int (k.pl:Nat)));rw[xP (f:=λk:Ck=>V.int (k.pl:Nat)) (k':={ k with tn:=tn,es:=es }) hk rfl];exact out _ _ (pL L.pl gF) (nl _) pl
 ·show H' A.ct=some (.lst ((S.ck.set c { k with tn:=tn,es:=es }).map λk=>V.int (k.ct:Nat)));rw[xP (f:=λk:Ck=>V.int (k.ct:Nat)) (k':={ k with tn:=tn,es:=es }) hk rfl];exact out _ _ (pL L.ct gF) (nl _) ct
 ·exact vw (gX rs λi y b hy _ q=>out _ _ (pL (L.rs i y hy) uu) (nl _) q) hk λa _ q=>q
end
structure je(K:W.Frag)(C:Addr):Prop where
 cl:dj K C
 gK:bu K C "trays"
 program:bu K C "program"
 kind:bu K C "kind"
 steps:bu K C "steps"
 places:bu K C "places"
 counts:bu K C "counts"
 eY:bu K C "regs"
 cells:bu K C "cells"
 iZ:bu K C "acts"
 mJ:bu K C "comers"
theorem iW{α:Type}{f:α->V}{r:List α}{c:Nat}{k:α}(h:r[c]?=some k):fw (r.map f) (c:Int)=some (f k):=cD (by rw[eJ,h];rfl)
theorem Am{l:List (Addr×Addr×List Addr)}{c:Nat}{x:Addr×Addr×List Addr}(h:l[c]?=some x):fw (l.map λx=>V.ref x.1) (c:Int)=some (.ref x.1):=iW (f:=λx:Addr×Addr×List Addr=>V.ref x.1) h
structure lh(S:Mc):Prop where
 good:kQ S.ps
 len:S.ck.length=S.ps.length
 bd:S.bd.length=12
 ov:S.ov.length=12
 rg:∀k∈S.ck,k.rg.length=4
 pl:∀(c:Nat) k p,S.ck[c]?=some k->S.ps[c]?=some p->k.pl<=p.length
 ac:S.ac.length<=15000
 es:∀k∈S.ck,k.es.length<=S.ac.length
section
variable{t:aW}{C CT:Addr}{H:Hp}{m:Addr}{A:MA}{S:Mc}
theorem bo.vW(M:bo t C CT H m A S){c:Nat}{k:Ck}(h:S.ck[c]?=some k):∃x,A.ts[c]?=some x/\VX CT S.kd H x k:=qi M.ts h
theorem bo.eY(M:bo t C CT H m A S){c:Nat}{k:Ck}(h:S.ck[c]?=some k):∃a,A.rs[c]?=some a/\H a=some (.lst (k.rg.map V.int)):=qi (F:=λa (k:Ck)=>H a=some (.lst (k.rg.map V.int))) M.rs h
theorem bo.over(M:bo t C CT H m A S){n:Nat}{o:List Int}(h:S.ov[n]?=some o):∃a,A.cs[n]?=some a/\H a=some (.lst (o.map V.int)):=qi (F:=λa (o:List Int)=>H a=some (.lst (o.map V.int))) M.cs h
theorem bo.part(M:bo t C CT H m A S){c:Nat}{p:Pt}(h:S.ps[c]?=some p):∃vs b us,H A.st=some (.tup vs)/\vs[c]?=some (.ref b)/\H b=some (.tup us)/\Paired (iY t H) us p:=by
 refine ay M.st λvs h1 h2=>ay (qi h2 h) λv hv aa=>dF aa λb us aa h3 h4=>?_;subst aa;exact⟨vs,b,us,h1,hv,h3,h4⟩
end
section
variable{t:aW}{C CT:Addr}
def Rv(t:aW)(C CT:Addr):Sp:=λvs H Q _=>∃m A S c k p,vs=[.ref m,.int (c:Nat)]/\bo t C CT H m A S/\S.ck[c]?=some k/\S.ps[c]?=some p/\p.length<=1000/\Q (.bl (decide (k.pl=p.length))) H
theorem aeh:aZ ["self","clerk"] ["self","clerk"] (aM JS):=a8
theorem Dv(a b:Nat):decide (V.int (a:Int)=V.int (b:Int))=decide (a=b):=decide_eq_decide.mpr ⟨λz=>by injection z with z;lia,λz=>by rw[z]⟩
theorem acP{f:Addr}{fd:aQ}(F:aP K "at_end" "Machine.at_end" JS f fd)(iF:mg "len" = none)(cM:je K C):ao P w K mg base au 1 f fd ["self","clerk"] (Rv t C CT):=by
 refine F.ok aeh (λvs H Q E h=>?_) λaD A _ s H vs Q E hr h=>?_
 ·refine ml h λm A S c k p aa _=>?_;subst aa;rfl
 ·refine lG h λm A S c k p aa M hk hp bg=>?_;subst aa;refine oA bg λhl q=>ur (ax (aS (qt dE (aJ cO (bf (pv 0) rfl) (pv 1)) (bp dR rfl iF PySem.boot_len (ae (aJ cu (bf (pv 0) rfl) (pv 1)) af)) (bX _)))) (b8 (id M.obj) λdx fs hm G=>i9 (M.part hp) λvs b us h1 h2 aa=>oA aa λh3 h4=>vF rfl hm cM.cl cM.places G.places (vr rfl (rL (aq.of M.pl) (iW (f:=λk:Ck=>V.int (k.pl:Nat)) hk) (vF rfl hm cM.cl cM.steps G.steps (vr rfl (rT (v:=.ref b) (ar.of h1) (cD h2) (⟨b,us,rfl,(.inr (ar.of h3)),rfl,?_⟩)))))));rw[Paired.length h4,Dv];exact q
def Ro(t:aW)(C CT:Addr)(g:Ck->Nat):Sp:=λvs H Q _=>∃m A S c k,vs=[.ref m,.int (c:Nat)]/\bo t C CT H m A S/\S.ck[c]?=some k/\Q (.int (g k:Nat)) H
theorem ad7:aZ ["self","clerk"] ["self","clerk"] (aM JF):=a8
theorem acF{f:Addr}{fd:aQ}(F:aP K "where" "Machine.where" JF f fd)(cM:je K C):ao P w K mg base au 1 f fd ["self","clerk"] (Ro t C CT Ck.pl):=by
 refine F.ok ad7 (λvs H Q E h=>?_) λaD A _ s H vs Q E hr h=>?_
 ·refine dZ h λm A S c k aa=>oA aa λaa _=>?_;subst aa;rfl
 ·refine dZ h λm A S c k aa=>Eh aa λaa M hk q=>?_;subst aa;exact ur (ax (aS (aJ cO (bf (pv 0) rfl) (pv 1)))) (b8 (id M.obj) λdx fs hm G=>vF rfl hm cM.cl cM.places G.places (vr rfl (rL (aq.of M.pl) (iW (f:=λk:Ck=>V.int (k.pl:Nat)) hk) q)))
def PU(t:aW)(C CT:Addr):Sp:=λvs H Q _=>∃m A S c k,vs=[.ref m,.int (c:Nat)]/\bo t C CT H m A S/\S.ck[c]?=some k/\k.es.length<64/\∀H' l us,ah H H'->H l=none->H' l=some (.lst us)->Paired (Kg H') us k.es->Q (.ref l) H'
theorem abb:aZ ["self","clerk"] ["self","clerk"] (aM Ih):=a8
theorem aay{f fL:Addr}{fd jD:aQ}(F:aP K "waiting" "Machine.waiting" Ih f fd)(cM:je K C)(cT:kN K CT)(GL:ao P w K mg base au 1 fL jD ["self"] (QC CT))(bL:Binds K jD ["self"] [])(mL:Meth K CT "listed" fL):ao P w K mg base au 2 f fd ["self","clerk"] (PU t C CT):=by
 refine F.ok abb (λvs H Q E h=>?_) λaD A _ s H vs Q E hr h=>?_
 ·refine dZ h λm A S c k aa=>oA aa λaa _=>?_;subst aa;rfl
 ·refine dZ h λm A S c k aa=>Bc aa λaa M hk hl q=>?_;subst aa;exact ur (ax (aS (vz (aJ cO (bf (pv 0) rfl) (pv 1)) cT.cl mL GL hr bL .nil aO))) (b8 (id M.obj) λdx fs hm G=>ay (M.vW hk) λx hx T=>eO (id T.obj) λvh rD ea e1 e2 e3 em el=>vF rfl hm cM.cl cM.gK G.gK (vr rfl (rL (v:=.ref x.1) (aq.of M.lt) (Am hx) (rM ea (em _ dk) (⟨x.1,_,_,_,_,(⟨_,rfl,T,hl,q⟩)⟩)))))
end
abbrev Mv:=Str×List Int
def nh(mv:Mv):List V:=.str mv.1::mv.2.map V.int
def pJ(H:Hp)(v:V)(mv:Mv):Prop:=∃p,v=.ref p/\H p=some (.tup (nh mv))
theorem pJ.keep{H H':Hp}{v:V}{mv:Mv}(k:∀b xs,H b=some (.tup xs)->H' b=some (.tup xs))(h:pJ H v mv):pJ H' v mv:=by
 exact ay h λp e h=>az p e (k _ _ h)
theorem a9.tup{F:Addr->Prop}{H H':Hp}(k:a9 F H H')(h:∀b,F b->∀xs,H b≠some (.tup xs)):∀b xs,H b=some (.tup xs)->H' b=some (.tup xs):=λb xs e=>k.k b _ (λz=>h b z xs e) (λps z=>by cases z) e
theorem a9.Bn{H H':Hp}(k:a9 sP H H'):∀b xs,H b=some (.tup xs)->H' b=some (.tup xs):=k.tup λb z=>z.elim
theorem a9.yH{H H':Hp}(k:a9 sP H H'){b:Addr}{xs:List V}(e:H b=some (.lst xs)):H' b=some (.lst xs):=k.k b _ (λz=>z) (λps z=>by cases z) e
def pH(k:Ck)(p:Pt):Bool:=match p[k.pl]? with
 | none=>false
 | some s=>decide (k.es=[]) || !iJ s
def D8(kd:Str)(x:Ck×Nat):List Mv:=(iU kd x.1.es).map λn=>(("carry" : Str),[(x.2:Int),n])
def v3(kd:Str)(l:List (Ck×Nat)):List Mv:=l.flatMap (D8 kd)
def C7(S:Mc):List Mv:=v3 S.kd S.ck.zipIdx
def vZ(S:Mc)(c:Nat):Bool:=match S.ck[c]?,S.ps[c]? with
 | some k,some p=>pH k p
 | _,_=>false
def uh(S:Mc)(n:Nat):List Mv:=((List.range n).filter (vZ S)).map λ(c:Nat)=>(("do" : Str),[(c:Int)])
def pk(S:Mc):List Mv:=uh S S.ck.length++C7 S
theorem Pp(kd:Str)(es:List Ent):(iU kd es).length<=12:=by
 unfold iU
 split
 ·cases es.head? <;> simp
 ·unfold kC;rw[aH];exact cZ (sX _ _) (by rw[rK];exact aB _)
theorem IK(kd:Str):∀l:List (Ck×Nat),(v3 kd l).length<=12*l.length
 | []=>by simp[v3]
 | x::l=>by
  have h:=IK kd l;unfold v3 at h ⊢;rw[Oq,fQ,gU];have h2:(D8 kd x).length<=12:=by unfold D8;rw[aH];exact Pp _ _
  lia
section
variable{t:aW}{C CT:Addr}{u:jW}
def Rp(t:aW)(C CT:Addr):Sp:=λvs H Q _=>∃m A S c k p,vs=[.ref m,.int (c:Nat)]/\bo t C CT H m A S/\S.ck[c]?=some k/\S.ps[c]?=some p/\p.length<=1000/\k.pl<=p.length/\(∀s∈p,∃sz,cA sz s)/\∀H',ah H H'->Q (.bl (pH k p)) H'
theorem Rw:aZ ["self","clerk","step"] ["self","clerk"] (aM JI):=a8
theorem acJ{f fA fE:Addr}{fd vg B':aQ}(F:aP K "may_do" "Machine.may_do" JI f fd)(cM:je K C)(cT:kN K CT)(O:v5 K mg t u)
  (GA:ao P w K mg base au 1 fA vg ["self","clerk"] (Rv t C CT)) (bA:Binds K vg ["self","clerk"] []) (mA:Meth K C "at_end" fA)
  (GE:ao P w K mg base au 1 fE B' ["self"] (Rt CT)) (bE:Binds K B' ["self"] []) (mE:Meth K CT "is_empty" fE):ao P w K mg base au 2 f fd ["self","clerk"] (Rp t C CT):=by
 refine F.ok Rw (λvs H Q E h=>?_) λaD A _ s H vs Q E hr h=>?_
 ·refine ml h λm A S c k p aa _=>?_;subst aa;rfl
 ·refine lG h λm A S c k p aa M hk hp bg=>?_;subst aa;obtain⟨hl,hle,hg,q⟩:=bg;refine let R1:TS:=_;let R2:TS:=_;⟨_,aA (bQ (dD (i8 (pv 0) cM.cl mA GA hr bA .nil aO (ae (pv 1) af))) (ax (aS g9)) cq) (pR R2 (aA (cC (i:=2) Rw.nd rfl (aN rfl) (aJ cu (aJ cu (bf (pv 0) rfl) (pv 1)) (aJ cO (bf (pv 0) rfl) (pv 1)))) (pR R1 (ax (aS (ahx (vz (aJ cO (bf (pv 0) rfl) (pv 1)) cT.cl mE GE hr bE .nil aO) (tU (JV (Iw (k:=1) (CX:=au) (E:=E0) (P:=P) (w:=w) (K:=K) (mg:=mg) (base:=base) (pv 2) hr aO))))))))),?_⟩
  refine b8 (id M.obj) λdx fs hm G=>ay (M.vW hk) λx hx T=>eO (id T.obj) λvh rD ea e1 e2 e3 em el=>i9 (M.part hp) λvs b us h1 h2 aa=>oA aa λh3 h4=>vM rfl hm (G.ms _ dk) (vr rfl (⟨m,A,S,c,k,p,rfl,M,hk,hp,hl,(tk (b9 (λhe=>?_) λhe=>?_))⟩))
  ·have e:pH k p=false:=by unfold pH;rw[Oa li]
   have q:=q H (ah.refl H);rw[e]at q;exact q
  have cI:k.pl<p.length:=li;have hs:p[k.pl]?=some p[k.pl]:=aR cI;refine ay (qi h4 hs) λv hv aa=>kG aa λz a dz aa hz=>?_;subst aa;refine oE (hg _ (rQ cI)) λsz gs=>az _ rfl (dS m C dx fs (lJ _ rfl hm cM.cl cM.steps G.steps (vr rfl (rT (v:=.ref b) (ar.of h1) (cD h2) (vF rfl hm cM.cl cM.places G.places (vr rfl (rL (aq.of M.pl) (iW (f:=λk:Ck=>V.int (k.pl:Nat)) hk) (rT (v:=.ref z) (ar.of h3) (cD hv) (az _ rfl (dS m C dx fs (lJ _ rfl hm cM.cl cM.gK G.gK (vr rfl (rL (v:=.ref x.1) (aq.of M.lt) (Am hx) (rM ea (em _ dk) (⟨x.1,_,_,_,_,(eZ _ rfl T λH1 s1=>(tk (b9 (λhe=>?_) λhe=>?_)))⟩)))))))))))))))
  ·have e:pH k p=true:=by unfold pH;rw[hs];show (decide (k.es=[])||_)=true;rw[decide_eq_true he];rfl
   have q:=q H1 s1;rw[e]at q;exact q
  ·have e:pH k p=!iJ p[k.pl]:=by unfold pH;rw[hs];show (decide (k.es=[])||_)=_;rw[decide_eq_false he];rfl
   have q:=q H1 s1;rw[e]at q;have no:=tO "empties" dk (.ref a) p[k.pl].1 (p[k.pl].2.map λ(n:Nat)=>V.int (n:Int));exact xT (S4 (P:=P) (w:=w) (base:=base) (mg:=mg) O gs (s1 _ _ hz)) λC1 f1 Ca pn sp hc cl me G1 bi q1=>az _ rfl (⟨z,C1,dz,_,f1,Ca,pn,sp,rfl,hc,no,cl,me,G1,⟨bi,(q1 _ _ ⟨_,rfl,q⟩)⟩⟩)
def PX(t:aW)(C CT PT:Addr):Sp:=λvs H Q _=>∃m A S,vs=[.ref m]/\bo t C CT H m A S/\S.ck.length<=4/\de PT LP LQ H/\∀H' l vs,a9 sP H H'->de PT LP LQ H'->H l=none->H' l=some (.lst vs)->Paired (pJ H') vs (C7 S)->Q (.ref l) H'
theorem CO:aZ ["self","found","clerk","tray"] ["self"] (aM Ir):=a8
theorem ah3:(["clerk","name"]:List Str).Nodup:=dk
theorem aaD{f fF PT:Addr}{fd jj:aQ}(F:aP K "carries" "Machine.carries" Ir f fd)(cM:je K C)(cT:kN K CT)(p0:mg "enumerate" = none)
  (GF:ao P w K mg base au 2 fF jj ["self"] (HY CT PT)) (bF:Binds K jj ["self"] []) (mF:Meth K CT "fronts" fF):ao P w K mg base au 3 f fd ["self"] (PX t C CT PT):=by
 refine F.ok CO (λvs H Q E h=>?_) λaD A _ s H vs Q E hr h=>?_
 ·refine kG h λm A S aa _=>?_;clear h;subst aa;rfl
 ·obtain⟨m,A,S,aa,M,h4,hL,q⟩:=h;subst aa
  refine let R1:TS:=_;let R2:TS:=_;⟨_,aA (cC (i:=1) CO.nd rfl (aN rfl) (dY af)) (pR R2 (aA (ij ie rfl (tK (b:=true) rfl p0 (ae (bf (pv 0) rfl) af)) (nQ rfl (gH (br (i:=2) CO.nd rfl (nR rfl)) (gH (br (i:=3) CO.nd rfl (aN rfl)) nO))) (pR R1 (ax (gg (qD PySem.F.plainAttrs_list PySem.F.slot_list_extend PySem.F.type_list_extend Qc (pv 1) (ae (gh (N:=["clerk","name"]) (idx:=[2]) rfl (c9.of (by kernel_rfl)) (gC (aB _))
     (o7 (vz (pv 3) cT.cl mF GF hr bF .nil aO)) (λ_ _ _ _=>br (i:=1) ah3 rfl (aN rfl) (.inr rfl)) (λ_ _ _ _=>gZ) λ_ _ _ _=>jl (ae cV (ae (pv 0) (ae (pv 1) af)))) af))))))
   (ax (aS (pv 1))))),?_⟩
  refine b8 (id M.obj) λdx fs hm G=>⟨qc,λlw nw=>?_⟩;have s0:ah H (upd H lw (.lst [])):=aI (ah.refl _) nw;have hlen:=Paired.length M.ts;have hlm:(A.ts.map λx=>V.ref x.1).length=A.ts.length:=aH _;refine vF rfl (s0 _ _ hm) cM.cl cM.gK G.gK ⟨A.lt,⟨_,rfl,aq.of (s0 _ _ M.lt),?_⟩⟩
  let W1:IV:=λi σ H'=>i<=A.ts.length/\∃c y vs,σ=[some (.ref m),some (.ref lw),c,y]/\a9 sP H H'/\de PT LP LQ H'/\H' lw=some (.lst vs)/\Paired (pJ H') vs (v3 S.kd (S.ck.zipIdx.take i))
  refine vK (n:=A.ts.length) W1 ⟨bU _,none,none,[],rfl,a9.of s0,oX hL s0,av,.nil⟩ ?_ ?_ ?_ ?_
  ·rintro i σ H' hi ⟨_,_,_,_,_,kp,_,_,_⟩;exact iD _ (V.ref A.ts[i].1) (aq.of (kp.yH M.lt)) (by rw[eJ,aR hi];rfl)
  ·rintro σ H' ⟨_,_,_,_,_,kp,_,_,_⟩;exact az _ (aq.of (kp.yH M.lt)) (by rw[hlm];exact aB _)
  ·rintro i σ H1 hi ⟨_,c,y,vs,rfl,kp,p5,hw,jz⟩ z H2 ⟨r,x,cH,ez,eH,gc⟩;subst ez;subst eH;have zA:=gc _ (aq.of (kp.yH M.lt));rw[eJ,aR hi]at zA;cases zA;have s2:ah H1 (upd H1 r (.tup [.int i,.ref A.ts[i].1])):=aI (ah.refl _) cH;have MX:=s2 _ _ hw;have Vj:=Paired.cF jz λ_ _ q=>pJ.keep (λb xs e=>s2 _ _ e) q;have oO:=oX p5 s2;have WZ:upd H1 r (.tup [.int i,.ref A.ts[i].1]) r=some (.tup [.int i,.ref A.ts[i].1]):=av;generalize upd H1 r (.tup [.int i,.ref A.ts[i].1])=H2 at s2 MX Vj oO WZ ⊢;have q9:=kp.trans (a9.of s2);have M2:=M.vN q9;have Xn:=wf;refine ay (M2.vW (aR Xn)) λx' WU T=>?_;rw[aR hi]at WU;cases WU;refine eO (id T.obj) λvh rD ea e1 e2 e3 em el=>⟨r,⟨_,rfl,ar.of WZ,rfl,.int i,[.ref A.ts[i].1],rfl,.ref A.ts[i].1,[],rfl,rfl,vr rfl ⟨.inl ⟨rfl,_,aq.of MX⟩,⟨_,rfl,_,vh,rD,rfl,ea,em _ dk,_,_,_,_,_,_,rfl,T,oO,λH3 lf k3 sV nf hf=>?_⟩⟩⟩⟩;have MS:a9 sP H2 H3:=a9.Mi k3 λb hb=>nomatch hb;refine eZ lf rfl ⟨_,aq.of hf⟩ ?_;have Xj:=Pp S.kd S.ck[i].es;refine fk (n:=(iU S.kd S.ck[i].es).length) (λj ys H4=>j<=(iU S.kd S.ck[i].es).length/\ah H3 H4/\Paired (pJ H4) ys (((iU S.kd S.ck[i].es).take j).map λn=>(("carry" : Str),[(i:Int),n]))) (cg (cx w4)) (gu (bU _) (ah.refl _) .nil) ?_ ?_ ?_ ?_ ?_
   ·rintro j ys H4 ⟨_,_,e⟩;rw[Paired.length e,aH,gz];exact xl
   ·rintro j ys H4 hj ⟨_,s4,_⟩;exact iD _ (V.int (iU S.kd S.ck[i].es)[j]) (aq.of (s4 _ _ hf)) (by rw[eJ,aR hj];rfl)
   ·rintro ys H4 ⟨_,s4,_⟩;exact az _ (aq.of (s4 _ _ hf)) (by rw[aH];exact aB _)
   ·rintro j ys H4 hj ⟨_,s4,e⟩ v H5 ⟨eH,hv1⟩;subst eH;have hv:=hv1 _ (aq.of (s4 _ _ hf));rw[eJ,aR hj]at hv;cases hv;refine az _ rfl (vr rfl ⟨(sl (n:=3)),(λtp ht=>⟨hj,aI s4 ht,?_⟩)⟩);rw[kv,aR hj,gf];exact xS (Paired.cF e λ_ _ q=>q.keep λb xs e=>aI (ah.refl _) ht _ _ e) (az tp rfl av)
   ·rintro ys H4 ⟨_,s4,e⟩;rw[jE (aB _)]at e;refine⟨by rw[Paired.length e,aH];exact cg (cx li),λrl dP=>?_⟩;have s5:=aI (o:=.lst ys) s4 dP;have wW:=s5 _ _ (MS.yH MX);have cl:=IK S.kd (S.ck.zipIdx.take i);rw[gz]at cl;have Fo:=Paired.length jz;refine⟨lw,rl,vs,ys,rfl,rfl,wW,av,?_,hi,(uy _ _ (gJ _ rfl ?_ ?_ av ?_))⟩
    ·rw[Fo,Paired.length e,aH];exact cg (cx li)
    ·have kk:=MS.trans (a9.of s5);refine⟨λb o nb nt eb=>?_,λb eb=>(q9.trans kk).t b ?_⟩
     ·have:b≠lw:=bJ eb nw;rw[ak this];exact(q9.trans kk).k b o nb nt eb
     ·by_cases z:b=lw
      ·rw[z,av]at eb;cases eb
      ·rwa[ak z]at eb
    ·exact ae1 wW (oX sV s5)
    ·have et:S.ck.zipIdx.take (i+1)=S.ck.zipIdx.take i++[(S.ck[i],i)]:=by
      rw[kv,List.getElem?_zipIdx,aR Xn];simp
     rw[et];unfold v3;rw[Cj,Oq,Zl,tu];have WC:∀b xs,upd H4 rl (.lst ys) b=some (.tup xs)->upd (upd H4 rl (.lst ys)) lw (.lst (vs++ys)) b=some (.tup xs):=λb xs e=>by rw[ak (ik e wW (by intro z;cases z))];exact e
     exact Hf (Paired.cF e λ_ _ q=>q.keep λb xs e=>WC b xs (aI (ah.refl _) dP _ _ e)) (Paired.cF Vj λ_ _ q=>(q.keep MS.Bn).keep λb xs e=>WC b xs (s5 _ _ e))
  ·rintro σ H1 ⟨_,c,y,vs,rfl,kp,p5,hw,jz⟩;rw[jE (by rw[Y3];lia)]at jz;exact vr rfl (q H1 lw vs kp p5 nw hw jz)
end
theorem J'{P:Program}{w:World}{K:W.Frag}{mg:Str->Option Value}{base:Heap}{k:Nat}{f:Addr}{fd:aQ}{ps:List Str}{sp:Sp}(F:ao P w K mg base (lU P w) k f fd ps sp):ao P w K mg base au k f fd ps (λvs H Q _=>sp vs H Q λ_ _ _=>False):=
 ⟨λvs H Q E h=>F.len vs H Q _ h,λA outer s H args us vs Q E hr e0 hb hv hs=>xR (F.run A outer s H args us vs Q (λ_ _ _=>False) hr e0 hb hv hs) λr s' h=>by
  cases r with
  | error e=>
   exact xT h λea c dd T H' _ _ _ _ _ aa=>mG aa λ_ _ _ _ _ q=>q.elim
  | ok fl=>cases fl <;> exact h⟩
def KL(H H':Hp):Prop:=∀b o,(∀xs,o≠.lst xs)->H b=some o->H' b=some o
theorem KL.trans{H H1 H2:Hp}(a:KL H H1)(b:KL H1 H2):KL H H2:=λc o n e=>b c o n (a c o n e)
theorem KL.of{H H':Hp}(s:ah H H'):KL H H':=λb o _ e=>s b o e
theorem KL.upd{H:Hp}{x:Addr}{xs:List V}{o:HO}(hx:H x=some (.lst xs)):KL H (upd H x o):=λb q n e=>by
 rw[ak λz=>?_]
 ·exact e
 ·rw[z,hx]at e;cases e;exact n _ rfl
theorem KL.lam{H H':Hp}(k:KL H H'){PT:Addr}{pos:Pos}{q:Str}(h:de PT pos q H):de PT pos q H':=by
 refine ay h λps hP hc=>az ps (k _ _ (λxs z=>by cases z) hP) ?_;rcases hc with e | ⟨c,e,hc⟩
 ·exact .inl e
 ·exact .inr (az c e (k _ _ (λxs z=>by unfold zg at z;cases z) hc))
theorem KL.tup{H H':Hp}(k:KL H H'):∀b xs,H b=some (.tup xs)->H' b=some (.tup xs):=λb xs e=>k b _ (λys z=>by cases z) e
def qu(S:Mc)(n:Nat)(num d:Int):Mc:={ S with bd:=S.bd.set n num,ov:=S.ov.set n (S.ov.getD n []++[d]) }
def qz(S:Mc)(c n:Nat):Mc:=match S.ck[c]? with
 | none=>S
 | some k=>match (cG k.es n).head? with
  | none=>S
  | some e=>qu { S with ck:=S.ck.set c { k with es:=qH k.es n } } n e.num e.d
def A'(S:Mc)(n:Nat):List V:=[.int (n:Nat),.int (S.bd.getD n 0),oV (S.ov.getD n []).getLast?]
theorem tM{α:Type}{l:List α}{n:Nat}{x d:α}(h:l[n]?=some x):l.getD n d=x:=by rw[dI,h];rfl
section
variable{t:aW}{C CT:Addr}{u:jW}
def JB(t:aW)(C CT:Addr):Sp:=λvs H Q _=>∃m A S st n num d lab,vs=[.ref m,.ref st]/\bo t C CT H m A S/\jQ lab m A/\H st=some (.tup [.int (n:Nat),.int num,.int d])/\n<12/\S.bd.length=12/\S.ov.length=12/\(∀o∈S.ov,o.length<=16000)/\
 ∀H',bo t C CT H' m A (qu S n num d)->a9 (dq m A) H H'->KL H H'->Q .aE H'
theorem Su:aZ ["self","setting","name"] ["self","setting"] (aM Kx):=a8
theorem vO{n j:Nat}(h:j<n):ni n (j:Int)=some j:=by
 unfold ni
 first | (rw[if_pos om];simp;done) | (simp;exact w0)
theorem aeH{f:Addr}{fd:aQ}(F:aP K "come" "Machine.come" Kx f fd)(cM:je K C):ao P w K mg base au 1 f fd ["self","setting"] (JB t C CT):=by
 refine F.ok Su (λvs H Q E h=>?_) λaD A _ s H vs Q E hr h=>?_
 ·refine dZ h λm A S st n aa=>kG aa λnum d lab aa _=>?_;subst aa;rfl
 ·refine dZ h λm A S st n aa=>i9 aa λnum d lab aa M bg=>?_;subst aa;refine mG bg λL cX hn hb ho aa=>oA aa λlC q=>?_;refine let R1:TS:=_;let R2:TS:=_;⟨_,aA (cC (i:=2) Su.nd rfl (aN rfl) (aJ cu (pv 1) aw)) (pR R2 (aA (qw (aJ cu (pv 1) aw) (qy (bf (pv 0) rfl) (pv 2) set_list)) (pR R1 (ax (gg (qD PySem.F.plainAttrs_list PySem.F.slot_list_append PySem.F.type_list_append vx (aJ cO (bf (pv 0) rfl) (pv 2)) (ae (aJ cu (pv 1) aw) af))))))),?_⟩
  refine b8 (id M.obj) λdx fs hm G=>jf (j:=0) rfl cX rfl (jf (j:=1) rfl cX rfl (vF rfl hm cM.cl cM.cells G.cells (vr rfl (⟨A.ce,_,_,n,rfl,rfl,M.ce,(vO (by rw[aH,hb];exact hn)),?_⟩))));have M1:=ahb M L n num;have k1:a9 (dq m A) H (upd H A.ce (.lst ((S.bd.map V.int).set n (.int num)))):=a9.upd .ce;have l1:KL H (upd H A.ce (.lst ((S.bd.map V.int).set n (.int num)))):=KL.upd M.ce;generalize upd H A.ce (.lst ((S.bd.map V.int).set n (.int num)))=H1 at M1 k1 l1 ⊢;refine b8 (id M1.obj) λvi rE lX G1=>?_;have hY:S.ov[n]?=some (S.ov[n]'wg):=aR wg;refine ay (M1.over hY) λa ha rB=>az _ rfl (dS m C vi rE (lJ _ rfl lX cM.cl cM.mJ G1.mJ (vr rfl (rL (v:=.ref a) (aq.of M1.cm) (iW ha) ⟨.inl ⟨rfl,_,aq.of rB⟩,(jf (j:=2) rfl ((l1.tup _ _ cX)) rfl ?_)⟩))));have Na:=lC _ (bw hY);refine uy a _ (gJ _ rfl rfl rB (by rw[aH,jK];exact wb) ?_);have M2:=ag' M1 L hY ha d;refine q _ ?_ (k1.trans (a9.upd (.cs (bw ha)))) (l1.trans (KL.upd rB));unfold qu;rw[tM hY];exact M2
def Hz(t:aW)(C CT:Addr):Sp:=λvs H Q _=>∃m A S n,vs=[.ref m,.int (n:Nat)]/\bo t C CT H m A S/\n<12/\S.bd.length=12/\S.ov.length=12/\∀tp,H tp=none->Q (.ref tp) (upd H tp (.tup (A' S n)))
theorem P5:aZ ["self","name","comers"] ["self","name"] (aM Im):=a8
theorem aaC{f:Addr}{fd:aQ}(F:aP K "on_board" "Machine.on_board" Im f fd)(cM:je K C)(iF:mg "len" = none):ao P w K mg base au 1 f fd ["self","name"] (Hz t C CT):=by
 refine F.ok P5 (λvs H Q E h=>?_) λaD A _ s H vs Q E hr h=>?_
 ·refine jm h λm A S n aa _=>?_;clear h;subst aa;rfl
 ·obtain⟨m,A,S,n,aa,M,hn,hb,ho,q⟩:=h;subst aa;refine let R1:TS:=_;⟨_,aA (cC (i:=2) P5.nd rfl (aN rfl) (aJ cO (bf (pv 0) rfl) (pv 1))) (pR R1 (ax (aS (jl (ae (pv 1) (ae (aJ cO (bf (pv 0) rfl) (pv 1)) (ae (Iy (cy dE (bp dR rfl iF PySem.boot_len (ae (pv 2) af)) aw (bX _)) kz (aJ cO (pv 2) (KA Sf aw))) af))))))),?_⟩
  refine b8 (id M.obj) λdx fs hm G=>?_;have hY:S.ov[n]?=some (S.ov[n]'wg):=aR wg;have W5:S.bd[n]?=some (S.bd[n]'wg):=aR wg;refine ay (M.over hY) λa ha rB=>?_
  have q':∀v,oV (S.ov[n]'wg).getLast?=v->∀tp,H tp=none->Q (.ref tp) (upd H tp (.tup [.int (n:Nat),.int (S.bd[n]'wg),v])):=λv hv tp ht=>by
   have q:=q tp ht;unfold A' at q;rw[tM hY,tM W5,hv]at q;exact q
  generalize S.ov[n]'wg=o at hY rB q';refine vF rfl hm cM.cl cM.mJ G.mJ (vr rfl (rL (v:=.ref a) (aq.of M.cm) (iW ha) (az _ rfl (vF rfl hm cM.cl cM.cells G.cells (vr rfl (rL (aq.of M.ce) (iW W5) (vr rfl ⟨a,⟨_,rfl,.inl (aq.of rB),rfl,_,rfl,b9 (λz=>?_) λz=>?_⟩⟩)))))))
  ·have e0:o=[]:=by
    have z':=z;injection z' with z'
    rw[aH]at z';exact vk.mp om
   subst e0;exact⟨(sl (n:=3)),q' .aE rfl⟩
  ·have dX:o≠[]:=λe=>z (by rw[e];rfl);obtain⟨o',d,rfl⟩:∃o' d,o=o'++[d]:=⟨o.dropLast,o.getLast dX,(List.dropLast_concat_getLast dX).symm⟩;refine vr rfl (az _ rfl (rL (v:=.int d) (aq.of rB) (by rw[gf];exact Rg _ _) ⟨(sl (n:=3)),(q' (.int d) ?_)⟩));rw[List.getLast?_append];rfl
end
theorem lh.four{S:Mc}(w:lh S):S.ck.length<=4:=by rw[w.len];exact w.good.le
theorem lh.part{S:Mc}(w:lh S){c:Nat}{k:Ck}(h:S.ck[c]?=some k):∃p,S.ps[c]?=some p/\p.length<=120/\k.pl<=p.length/\∀s∈p,cA p.length s:=by
 refine oE (dC.mp h) λhc _=>?_;have hp:S.ps[c]?=some (S.ps[c]'(by rw[<-w.len];exact hc)):=aR _;exact oA (w.good.part _ (bw hp)) λg1 g2=>⟨_,hp,g1,(w.pl c k _ h hp),g2⟩
theorem Jp{S:Mc}{c:Nat}{k:Ck}{p:Pt}(h:S.ck[c]?=some k)(h':S.ps[c]?=some p):vZ S c=pH k p:=by unfold vZ;rw[h,h']
theorem Ra(S:Mc)(n:Nat):(uh S n).length<=n:=by
 unfold uh;rw[aH];exact cZ (sX _ _) (by rw[rK];exact aB _)
theorem abP(S:Mc)(n:Nat):uh S (n+1)=uh S n++(if vZ S n=true then [(("do" : Str),[(n:Int)])] else []):=by
 unfold uh;rw[oS,xy,gf]
 congr 1
 cases h:vZ S n with
 | true=>simp[List.filter,h]
 | false=>simp[List.filter,h]
theorem ahW:(["self","clerk"]:List Str).Nodup:=dk
section
variable{t:aW}{C CT:Addr}{u:jW}
def IX(t:aW)(C CT PT:Addr):Sp:=λvs H Q _=>∃m A S,vs=[.ref m]/\bo t C CT H m A S/\lh S/\de PT LP LQ H/\∀H' l vs,a9 sP H H'->de PT LP LQ H'->H l=none->H' l=some (.lst vs)->Paired (pJ H') vs (pk S)->Q (.ref l) H'
theorem acp:aZ ["self"] ["self"] (aM Jf):=a8
theorem abp{f fY fC PT:Addr}{fd XH ma:aQ}(F:aP K "moves" "Machine.moves" Jf f fd)(cM:je K C)(iF:mg "len" = none)(dH:mg "range" = none)
  (GY:ao P w K mg base au 2 fY XH ["self","clerk"] (Rp t C CT)) (bY:Binds K XH ["self","clerk"] []) (mY:Meth K C "may_do" fY)
  (GC:ao P w K mg base au 3 fC ma ["self"] (PX t C CT PT)) (bC:Binds K ma ["self"] []) (mC:Meth K C "carries" fC):ao P w K mg base au 4 f fd ["self"] (IX t C CT PT):=by
 refine F.ok acp (λvs H Q E h=>?_) λaD A _ s H vs Q E hr h=>?_
 ·refine kG h λm A S aa _=>?_;clear h;subst aa;rfl
 ·obtain⟨m,A,S,aa,M,W,hL,q⟩:=h;subst aa;have kc:=hr.mono (show 2<=3 by decide)
  refine⟨_,ax (aS (aT afT (gh (N:=["self","clerk"]) (idx:=[0]) rfl (c9.of (by kernel_rfl)) (gC (aB _)) (jk rfl dH (ae (bp dR rfl iF PySem.boot_len (ae (bf (pv 0) rfl) af)) af))
   (λ_ _ _ _=>br (i:=1) ahW rfl (aN rfl) (.inr rfl)) (λ_ _ _ _=>yk (dD (i8 (pv 0) cM.cl mY GY kc bY .nil aO (ae (pv 1) af)))) λ_ _ _ _=>jl (ae cV (ae (pv 1) af)))
   (vz (pv 0) cM.cl mC GC hr bC .nil aO))),?_⟩
  refine b8 (id M.obj) λdx fs hm G=>?_;have hlen:=Paired.length M.ts;have h4:=W.four;refine vF rfl hm cM.cl cM.gK G.gK ⟨A.lt,⟨_,rfl,.inl (aq.of M.lt),_,rfl,by rw[aH];lia,by rw[aH];lia,?_⟩⟩;have en:(((A.ts.map λx=>V.ref x.1).length:Int)).toNat=S.ck.length:=by rw[aH];lia
  rw[en];refine fk (n:=S.ck.length) (λi ys H'=>i<=S.ck.length/\ah H H'/\Paired (pJ H') ys (uh S i)) (cg (cx w4)) (gu (bU _) (ah.refl _) .nil) ?_ ?_ ?_ ?_ ?_
  ·rintro i ys H' ⟨_,_,e⟩;rw[Paired.length e];exact Ra S i
  ·rintro i ys H' hi _;exact hi
  ·rintro ys H' _;exact aB _
  ·rintro i ys H1 hi ⟨_,s1,e⟩ x H2 ⟨eH,ex⟩;subst eH;subst ex;have hk:S.ck[i]?=some S.ck[i]:=aR hi;refine cQ (W.part hk) λp hp dm jC hp3=>vM rfl (s1 _ _ hm) (G.ms _ dk) (vr rfl (⟨m,A,S,i,_,p,?_,(M.same s1),hk,hp,w4,jC,(λs hs=>⟨_,hp3 s hs⟩),(λH3 s3=>(az _ rfl ?_))⟩))
   ·show [V.ref m,V.int (0+(i:Int))]=_;rw[oW]
   rw[abP,Jp hk hp];refine lP (λhb=>?_) λhb=>?_
   ·refine vr rfl ⟨(sl (n:=2)),(λtp ht=>⟨hi,s1.trans (aI s3 ht),?_⟩)⟩;rw[hb,if_pos rfl];refine xS (Paired.cF e λ_ _ q=>q.keep λb xs e=>aI s3 ht _ _ e) (az tp rfl ?_);rw[av];show some (HO.tup [.str "do",V.int (0+(i:Int))])=_;rw[oW];rfl
   ·refine gu hi (s1.trans s3) ?_;rw[hb,if_neg dg,tu];exact Paired.cF e λ_ _ q=>q.keep λb xs e=>s3 _ _ e
  ·rintro ys H1 ⟨_,s1,e⟩;have hd:=Ra S S.ck.length;refine⟨by rw[Paired.length e];exact cg (cx li),λr cH=>?_⟩;have s2:=aI (o:=.lst ys) s1 cH;refine vM rfl (s2 _ _ hm) (G.ms _ dk) (⟨m,A,S,rfl,(M.same s2),h4,(oX hL s2),(λH3 lc us k3 sV nc hc lA=>?_)⟩);have cl:=IK S.kd S.ck.zipIdx;rw[Y3]at cl;have BO:=Paired.length lA
   have amG:us.length<=48:=by
    rw[BO];unfold C7;lia
   refine nK r lc ys us rfl rfl (k3.yH av) hc ?_ λl3 n3=>?_
   ·rw[Paired.length e];exact cg (cx li)
   have k4:a9 sP H (upd H3 l3 (.lst (ys++us))):=((a9.of s2).trans k3).trans (a9.of (aI (ah.refl _) n3));have hn:=((a9.of s2).trans k3).t l3 n3;refine q _ l3 _ k4 (oX sV (aI (ah.refl _) n3)) hn av ?_;unfold pk;have kt:∀b xs,H3 b=some (.tup xs)->upd H3 l3 (.lst (ys++us)) b=some (.tup xs):=λb xs e=>aI (ah.refl _) n3 _ _ e;exact Hf (Paired.cF lA λ_ _ q=>q.keep kt) (Paired.cF e λ_ _ q=>(q.keep λb xs e=>k3.Bn _ _ (aI (ah.refl _) cH _ _ e)).keep kt)
end
theorem aiz:dw "put" = some [4,k7]:=by kernel_rfl
theorem aiA:dw "add" = some [4,4]:=by kernel_rfl
theorem aiy:dw "set" = some [12,4]:=by kernel_rfl
theorem agI:dw "look" = some [4,12]:=by kernel_rfl
theorem agG:dw "swap" = some [4,12]:=by kernel_rfl
theorem afg:dw "clear" = some []:=by kernel_rfl
theorem agH:dw "skip" = some [4,121]:=by kernel_rfl
theorem yx{x:Str}{a b:Nat}{u v:Int}(e:dw x=some [u,v])(h1:(a:Int)<u)(h2:(b:Int)<v):stepOk [.str x,.int a,.int b]=true:=by
 show (match dw x with | none=>false | some bs=>decide ([V.int a,V.int b].length=bs.length)&&([V.int a,V.int b].zip bs).all λp=>ng p.1 p.2)=true;rw[e];show (decide (2=2)&&((decide (0<=(a:Int))&&decide ((a:Int)<u))&&((decide (0<=(b:Int))&&decide ((b:Int)<v))&&true)))=true;rw[decide_eq_true h1,decide_eq_true h2,decide_eq_true (tf a),decide_eq_true (tf b)];rfl
theorem top_lt{m:Nat}(h:m<10^60):(m:Int)<k7:=by
 have e:((10^60:Nat):Int)=k7:=dk;rw[<-e];exact Int.ofNat_lt.mpr h
theorem Ay{sz:Nat}{t:Tl}(g:cA sz t):stepOk (tv t)=true:=by
 cases g with
 | put r m h1 h2=>exact yx aiz li (top_lt h2)
 | add r m h1 h2=>exact yx aiA om li
 | set r m h1 h2=>exact yx aiy li om
 | look r m h1 h2=>exact yx agI om li
 | swap r m h1 h2=>exact yx agG om om
 | clear=>
  show (match dw "clear" with | none=>false | some bs=>decide (([]:List V).length=bs.length)&&(([]:List V).zip bs).all λp=>ng p.1 p.2)=true;rw[afg];rfl
 | skip r m h1 h2 h3=>exact yx agH li li
theorem Q4{sz:Nat}{t:Tl}(g:cA sz t):(t.2.map λ(n:Nat)=>V.int (n:Int)).length<=900:=by
 rw[aH];have:=g.len;exact w4
theorem RP{H:Hp}(l:List Nat):∀y∈l.map λ(n:Nat)=>V.int (n:Int),∃T,tyName H y=some T:=λy hy=>by
 refine ay (jJ.mp hy) λn _ aa=>?_;subst aa;exact⟨_,rfl⟩
theorem abK{sz:Nat}{s:Tl}(g:cA sz s)(h:s.1 = "skip"):∃r q:Nat,s=(("skip" : Str),[r,q])/\q<=sz:=by
 cases g with
 | skip r q _ h2 _=>exact⟨r,q,rfl,h2⟩
 | put r n _ _=>exact absurd (show ("put" : Str) = "skip" from h) dk
 | add r n _ _=>exact absurd (show ("add" : Str) = "skip" from h) dk
 | set r n _ _=>exact absurd (show ("set" : Str) = "skip" from h) dk
 | look r n _ _=>exact absurd (show ("look" : Str) = "skip" from h) dk
 | swap r n _ _=>exact absurd (show ("swap" : Str) = "skip" from h) dk
 | clear=>exact absurd (show ("clear" : Str) = "skip" from h) dk
theorem aid{X:Cx}(K:PySem.W.Frag)(h:X.K=K:=by rfl):jr X (.builtin "isinstance") (UN K):=by subst h;exact iB
theorem RH:(["part"]:List Str).Nodup:=dk
theorem vt{α β:Type}{F:α->β->Prop}:∀{l:List α} {r:List β} {i:Nat} {x:α},Paired F l r->l[i]?=some x->∃y,r[i]?=some y/\F x y
 | _,_,_,_,.nil,e=>by simp at e
 | _,_,0,_,.cons h _,e=>by simp at e;subst e;exact⟨_,rfl,h⟩
 | _,_,i+1,x,.cons _ t,e=>by
  exact ay (vt (i:=i) t (by simpa using e)) λy h1 h2=>az y (by simpa using h1) h2
theorem afn(n:Nat):(cY n true).all id=true:=by
 induction n with
 | zero=>rfl
 | succ n ih=>rw[vn,xM,ih];rfl
section
variable{t:aW}{u:jW}
def Ts:Sp:=λvs H Q _=>∃v ps,vs=[v]/\jo H v ps/\kQ ps/\∀H',ah H H'->Q (.bl true) H'
theorem aht:aZ ["program"] ["program"] (aM Lr):=a8
theorem afY{f:Addr}{fd:aQ}(F:aP K "has_clerks" "has_clerks" Lr f fd)(B:Bl mg)(C:∃u,mg "CLERKS" = some u/\RelV (.int 4) u):ao P w K mg base au 1 f fd ["program"] Ts:=by
 refine ay C λuC mC rC=>F.ok aht (λvs H Q E h=>?_) λaD A _ s H vs Q E hr h=>?_
 ·refine b8 h λv ps aa _=>?_;clear h;subst aa;rfl
 ·refine pj h λv ps aa bg g k=>?_;clear h;subst aa;refine dF bg λa xs aa ha hp=>?_;clear bg;subst aa
  refine let R1:TS:=_;⟨_,aA (bQ (PW.pt (pw_or (iV (dD (bp iB rfl B.hG iw (ae (pv 0) (ae (mq (v:=.ty "tuple") rfl B.tuple mi rfl) af))))) (pw_or1 (iV (acx D0 D0 aw (bp dR rfl B.len PySem.boot_len (ae (pv 0) af)) (eE rfl mC rC))))))
    yb cq)
   (pR R1 (ax (aS (bp (AI rfl) rfl B.all Dd (ae (gh (N:=["part"]) (idx:=[]) rfl (c9.of (by kernel_rfl)) (gC (bU _))
    (mz (pv 0)) (λ_ _ _ _=>br (i:=0) RH rfl (aN rfl) (.inr rfl)) (λ_ _ _ _=>gZ)
    λ_ _ _ _=>bp (aid K) rfl B.hG iw (ae (pv 0) (ae (mq (v:=.ty "tuple") rfl B.tuple mi rfl) af))) af))))),?_⟩
  have hT:=CF ha;have hi:qM "tuple" "tuple" = true:=qc;have hl:=Paired.length hp;have g1:=g.ne;have g2:=g.le;refine vr rfl (dS _ _ _ _ (gJ _ rfl (oB hT) rfl (oh hT qc) (az _ rfl ?_)));rw[hi];refine dN (vr rfl (eG a xs rfl (.inr (ar.of ha)) ⟨_,⟨_,rfl,rfl,_,rfl,b9 (λh1=>?_) λh1=>absurd (show (1:Int)<=(xs.length:Int) by lia) h1⟩⟩));refine⟨_,⟨_,rfl,rfl,_,rfl,D4 (λh2=>absurd (show (xs.length:Int)<=4 by lia) h2) λh2=>az _ rfl (eZ a rfl ⟨xs,ar.of ha⟩ (fk (n:=xs.length) (λi ys H'=>i<=xs.length/\ah H H'/\ys=(cY i true).map V.bl) (cg (cx w8)) (gu (bU _) (ah.refl _) rfl) ?_ ?_ ?_ ?_ ?_))⟩⟩
  ·intro i ys H' aU;refine dU aU λ_ _ e=>?_;rw[e,aH,xx];exact aB _
  ·intro i ys H' hi aU;exact dU aU λ_ s1 _=>iD xs (xs[i]) (ar.of (s1 _ _ ha)) (aR hi)
  ·intro ys H' aU;exact dU aU λ_ s1 _=>az xs (ar.of (s1 _ _ ha)) (aB _)
  ·intro i ys H' FC aU x gd jy;refine dU aU λ_ s1 e=>oA jy λeH gc=>?_;subst eH;have zA:=gc xs (ar.of (s1 _ _ ha));refine ay (vt hp zA) λp _ aa=>dF aa λb us aa hb _=>?_;subst aa;have Xr:=CF (s1 _ _ hb);refine vr rfl (dS _ _ _ _ (⟨_,rfl,(oB Xr),rfl,(oh Xr qc),FC,s1,?_⟩));rw[hi,e,YM,gf];rfl
  ·intro ys H' aU;refine dU aU λ_ s1 e=>⟨?_,λr cH=>?_⟩
   ·rw[e,aH,xx];exact cg (cx w8)
   refine eG r (cY xs.length true) rfl (aq.of (by rw[av,e])) ?_;rw[afn];exact k _ (aI s1 cH)
def So:Sp:=λvs H Q _=>∃(v:V) (s:Tl) (p n:Nat),vs=[v,.int (p:Nat),.int (n:Nat)]/\jn H v s/\cA n s/\p<120/\∀H',ah H H'->Q (.bl true) H'
theorem Ss:aZ ["told","place","length","step"] ["told","place","length"] (aM Kv):=a8
theorem aeF{f cN cE:Addr}{fd:aQ}(F:aP K "fits" "fits" Kv f fd)(O:v5 K mg t u)(xN:Tb K cN cE)(mX:mg "NoStep" = some (.ref cN)):ao P w K mg base au 5 f fd ["told","place","length"] So:=by
 have T:=O.st;have GX:ao P w K mg base au 4 t.fO t.f6 ["told"] (yd t):=Aw T;refine ay T.cn.long λuL mL rL=>F.ok Ss (λvs H Q E h=>?_) λaD A _ s H vs Q E hr h=>?_
 ·refine jm h λv s p n aa _=>?_;clear h;subst aa;rfl
 ·obtain⟨v,st,p,n,aa,hI,g,hp,k⟩:=h;subst aa;refine let R1:TS:=_;let R2:TS:=_;⟨_,aA (aeq rfl rfl rfl mX xN.base (λW pn E hL hp=>ax (cC (i:=3) Ss.nd rfl (aN rfl) (bx GX hr rfl T.mO T.zc.kp T.bO .nil aO (ae (pv 0) af)))) λea pn=>yb) (pR R2 (aA (bQ (PW.pt (pw_and (dD (bp iB rfl T.bl.hG iw (ae (pv 3) (ae (eE (v:=.ref t.iK) rfl T.J1 rfl) af)))) (pw_and1 (cy KD (bf (pv 3) rfl) (pv 2) (bX _))))) yb cq) (pR R1 (ax (aS (qt tY (pv 1) (eE rfl mL rL) (bX _))))))),?_⟩
  refine ay hI λa aa ha=>?_;clear hI;subst aa;have alF:decide ((p:Int)<120)=true:=decide_eq_true li;refine vr rfl (uy a st.1 (gJ _ rfl ha (Ay g) ⟨Q4 g,RP st.2⟩ λz dx H1 s1 hz dr=>?_));have kk:=k H1 s1;rw[<-alF]at kk;refine ay (A8 O g dr) λC ty c6=>vr rfl (⟨_,(.ref t.iK),(.ref C),(.ref t.iK),(decide (st.1 = "skip")),rfl,ty,rfl,c6.Tz,(tk (b9 (λhx=>?_) λhx=>dN (az _ rfl ⟨_,⟨_,rfl,rfl,kk⟩⟩)))⟩);refine b8 (abK g hx) λr q aa hq=>?_;subst aa;refine vF (v:=.int (q:Nat)) rfl dr T.pA T.DJ rfl (vr rfl ⟨_,⟨_,rfl,rfl,_,rfl,b9 (λFu=>?_) λ_=>⟨_,rfl,_,_,rfl,rfl,kk⟩⟩⟩);exact absurd Fu (by show ¬((n:Int)<(q:Int));lia)
def Sm:Sp:=λvs H Q _=>∃v ps,vs=[v]/\jo H v ps/\kQ ps/\∀H',ah H H'->Q .aE H'
theorem A1:aZ ["program","clerk","part","place","told"] ["program"] (aM HC):=a8
theorem aeB{f fH fF:Addr}{fd lZ jj:aQ}(F:aP K "look_over" "look_over" HC f fd)(B:Bl mg)(p0:mg "enumerate" = none)
  (GH:ao P w K mg base au 1 fH lZ ["program"] Ts) (kH:PySem.W.keepIn K (.ref fH)=true) (bH:Binds K lZ ["program"] []) (mH:mg "has_clerks" = some (.ref fH))
  (GF:ao P w K mg base au 5 fF jj ["told","place","length"] So) (kF:PySem.W.keepIn K (.ref fF)=true) (bF:Binds K jj ["told","place","length"] []) (mF:mg "fits" = some (.ref fF)) :
  ao P w K mg base au 6 f fd ["program"] Sm:=by
 refine F.ok A1 (λvs H Q E h=>?_) λaD A _ s H vs Q E hr h=>?_
 ·refine b8 h λv ps aa _=>?_;clear h;subst aa;rfl
 ·refine pj h λv ps aa bg g k=>?_;clear h;subst aa;refine dF bg λa xs aa ha hp=>?_;clear bg;subst aa
  refine let R1:TS:=_;let R2:TS:=_;let R3:TS:=_;⟨_,aA (bQ (iV (dD (bx GH (hr.mono qc) rfl mH kH bH .nil aO (ae (pv 0) af)))) yb cq)
   (pR R3 (ax (ij ie rfl (tK (b:=false) rfl p0 (ae (pv 0) af)) (nQ rfl (gH (br (i:=1) A1.nd rfl (aN rfl)) (gH (br (i:=2) A1.nd rfl (aN rfl)) nO))) (pR R2 (ax (ij ie rfl (tK (b:=false) rfl p0 (ae (pv 2) af)) (nQ rfl (gH (br (i:=3) A1.nd rfl (aN rfl)) (gH (br (i:=4) A1.nd rfl (aN rfl)) nO))) (pR R1 (ax (bQ (iV (dD (bx GF hr rfl mF kF bF .nil aO (ae (pv 4) (ae (pv 3) (ae (bp dR rfl B.len PySem.boot_len (ae (pv 2) af)) af)))))) yb cq))))))))),?_⟩
  refine vr rfl (⟨(.ref a),ps,rfl,⟨a,xs,rfl,ha,hp⟩,g,(λH1 s1=>(az _ rfl (dN ?_)))⟩)
  let W1:IV:=λi σ H'=>∃c q p d,σ=[some (.ref a),c,q,p,d]/\ah H H'
  refine vr rfl (eG a xs rfl (ar.of (s1 _ _ ha)) (vK (n:=xs.length) W1 ⟨none,none,none,none,rfl,s1⟩ ?_ ?_ ?_ ?_))
  ·intro i σ H' hi aU;exact jm aU λ_ _ _ _ _ s2=>iD xs (xs[i]) (ar.of (s2 _ _ ha)) (aR hi)
  ·intro σ H' aU;exact jm aU λ_ _ _ _ _ s2=>az xs (ar.of (s2 _ _ ha)) (aB _)
  ·intro i σ H2 hi aU z H3 jy;refine jm aU λc q p d aa s2=>?_;clear aU;subst aa;refine pj jy λr x cH ez eH gc=>?_;subst ez;subst eH;have zA:=gc xs (ar.of (s2 _ _ ha));refine ay (vt hp zA) λpt rm aa=>dF aa λb us aa p3 lA=>?_;subst aa;refine oA (g.part pt (bw rm)) λg3 g4=>?_;have BO:=Paired.length lA;rw[<-BO]at g3 g4;have s3:ah H (upd H2 r (.tup [.int i,.ref b])):=aI s2 cH;refine⟨r,([.int i,.ref b]),rfl,(ar.of av),rfl,(iD (.int i) ([.ref b]) rfl (eG (.ref b) ([]) rfl rfl ?_))⟩
   let W2:IV:=λj σ H'=>∃p d,σ=[some (.ref a),some (.int i),some (.ref b),p,d]/\ah H H'
   refine vr rfl (eG b us rfl (ar.of (s3 _ _ p3)) (vK (n:=us.length) W2 ⟨p,d,rfl,s3⟩ ?_ ?_ ?_ ?_))
   ·intro j σ H' hj aU;exact b8 aU λ_ _ _ s4=>iD _ (us[j]) (ar.of (s4 _ _ p3)) (aR hj)
   ·intro σ H' aU;exact b8 aU λ_ _ _ s4=>az _ (ar.of (s4 _ _ p3)) (aB _)
   ·intro j σ H4 hj aU z' H5 jy;refine b8 aU λp' d' aa s4=>?_;clear aU;subst aa;refine pj jy λr' y Ft ez' NL nA=>?_;subst ez';subst NL;have hyj:=nA _ (ar.of (s4 _ _ p3));refine ay (vt lA hyj) λst cX hI=>?_;have s5:ah H (upd H4 r' (.tup [.int j,y])):=aI s4 Ft;exact⟨r',([.int j,y]),rfl,(ar.of av),rfl,(iD (.int j) ([y]) rfl (eG y ([]) rfl rfl (az _ rfl (vr rfl (vr rfl ⟨b,⟨_,rfl,.inr (ar.of (s5 _ _ p3)),y,st,j,us.length,rfl,hI.keep λb xs e=>s5 _ _ e,g4 st (bw cX),wh,λH6 s6=>⟨_,rfl,dN ⟨_,_,rfl,s5.trans s6⟩⟩⟩⟩)))))⟩
   ·intro σ H4 aU;refine b8 aU λp' d' aa s4=>?_;clear aU;subst aa;exact⟨_,_,_,(az _ rfl s4)⟩
  ·intro σ H2 aU;refine jm aU λ_ _ _ _ aa s2=>?_;clear aU;subst aa;exact k H2 s2
end
structure Own(H0:Hp)(m:Addr)(H:Hp)(R:Addr->Nat->Prop):Prop where
 l:∃lab:Addr->Nat,∀a v,R a v->lab a=v
 p:∀a v,R a v->H a≠none
 f:∀a v,R a v->a=m\/H0 a=none
 t:∀b,H b=none->H0 b=none
section
variable{H0 H H':Hp}{m:Addr}{R R':Addr->Nat->Prop}
theorem Own.keep(h:Own H0 m H R)(k:∀b,H' b=none->H b=none):Own H0 m H' R:=⟨h.l,λa v r z=>h.p a v r (k a z),h.f,λb z=>h.t b (k b z)⟩
theorem Own.adds(h:Own H0 m H R)(k:∀b,H' b=none->H b=none){B:Addr->Prop}{n:Nat}(hB:∀b,B b->H b=none)(B5:∀b,B b->H' b≠none):Own H0 m H' λa v=>R a v\/(B a/\v=n):=by
 obtain⟨⟨lab,h1⟩,h2,h3,h4⟩:=h
 classical
 refine⟨⟨λa=>if B a then n else lab a,λa v r=>?_⟩,λa v r=>?_,λa v r=>?_,λb z=>h4 b (k b z)⟩
 ·rcases r with r | ⟨r,rfl⟩
  ·show (if B a then n else lab a)=v;rw[if_neg λz=>h2 a v r (hB a z)];exact h1 a v r
  ·show (if B a then v else lab a)=v;rw[if_pos r]
 ·rcases r with r | ⟨r,rfl⟩
  ·exact λz=>h2 a v r (k a z)
  ·exact B5 a r
 ·rcases r with r | ⟨r,rfl⟩
  ·exact h3 a v r
  ·exact .inr (h4 a (hB a r))
theorem Own.add(h:Own H0 m H R)(k:∀b,H' b=none->H b=none){b:Addr}{n:Nat}(hB:H b=none)(B5:H' b≠none):Own H0 m H' λa v=>R a v\/(a=b/\v=n):=
 h.adds k (B:=λa=>a=b) (λc z=>by rw[z];exact hB) (λc z=>by rw[z];exact B5)
theorem C0{H:Hp}{x:Addr}{o:HO}:∀b,upd H x o b=none->H b=none:=λb e=>by
 by_cases z:b=x
 ·rw[z,av]at e;cases e
 ·rwa[ak z]at e
theorem Own.new(h:Own H0 m H R){b:Addr}{n:Nat}{o:HO}(hB:H b=none):Own H0 m (upd H b o) λa v=>R a v\/(a=b/\v=n):=h.add C0 hB (by rw[av];intro z;cases z)
end
structure eh(m:Addr)(H H':Hp):Prop where
 k:∀b o,b≠m->H b=some o->H' b=some o
 t:∀b,H' b=none->H b=none
theorem eh.of{m:Addr}{H H':Hp}(s:ah H H'):eh m H H':=⟨λb o _ e=>s b o e,λb h=>s.free h⟩
theorem eh.trans{m:Addr}{H H1 H2:Hp}(a:eh m H H1)(b:eh m H1 H2):eh m H H2:=⟨λc o n e=>b.k c o n (a.k c o n e),λc h=>a.t c (b.t c h)⟩
theorem eh.upd{m:Addr}{H:Hp}{o:HO}:eh m H (upd H m o):=⟨λb q n e=>by rw[ak n];exact e,C0⟩
section
variable{t:aW}{C CT:Addr}{u:jW}
theorem iY.same{H H':Hp}{v:V}{s:Tl}(s':ah H H')(h:iY t H v s):iY t H' v s:=h.keep λb C dx fs e _=>s' _ _ e
def PV(t:aW):Sp:=λvs H Q _=>∃v p,vs=[v]/\IsPart H v p/\p.length<=120/\(∀s∈p,cA p.length s)/\∀H' b us,ah H H'->H b=none->H' b=some (.tup us)->Paired (iY t H') us p->Q (.ref b) H'
theorem abc:aZ ["part"] ["part"] (aM Ik):=a8
theorem RG:(["told"]:List Str).Nodup:=dk
theorem G6{α β:Type}{F:α->β->Prop}{x:α}{y:β}(h:F x y):∀{l:List α} {r:List β},Paired F l r->Paired F (l++[x]) (r++[y])
 | _,_,.nil=>.cons h .nil
 | _,_,.cons g t=>.cons g (G6 h t)
theorem aaB{f:Addr}{fd:aQ}(F:aP K "steps_of" "steps_of" Ik f fd)(T:qA K mg t)(jA:mg "tuple" = none):ao P w K mg base au 5 f fd ["part"] (PV t):=by
 have GX:ao P w K mg base au 4 t.fO t.f6 ["told"] (yd t):=Aw T;refine F.ok abc (λvs H Q E h=>?_) λaD A _ s H vs Q E hr h=>?_
 ·refine b8 h λv p aa _=>?_;clear h;subst aa;rfl
 ·refine pj h λv p aa bg hl Mw=>?_;clear h;subst aa;refine dF bg λa vs aa ha hp=>?_;clear bg;subst aa;refine oA Mw λhg k=>?_
  refine⟨_,ax (aS (qo rV rfl jA mi (ae (gh (N:=["told"]) (idx:=[]) rfl (c9.of (by kernel_rfl)) (gC (bU _)) (mz (pv 0))
   (λ_ _ _ _=>br (i:=0) RG rfl (aN rfl) (.inr rfl)) (λ_ _ _ _=>gZ) λ_ _ _ _=>bx GX hr rfl T.mO T.zc.kp T.bO .nil aO (ae (pv 0) af)) af))),?_⟩
  have hlen:=Paired.length hp;refine az _ rfl (eZ a rfl ⟨_,ar.of ha⟩ (fk (n:=vs.length) (λi ys H'=>i<=vs.length/\ah H H'/\Paired (iY t H') ys (p.take i)) (cg (cx w8)) (gu (bU _) (ah.refl _) .nil) ?_ ?_ ?_ ?_ ?_))
  ·intro i ys H' aU;refine dU aU λ_ _ e=>?_;rw[Paired.length e,gz];exact xl
  ·intro i ys H' hi aU;exact dU aU λ_ s1 _=>iD _ _ (ar.of (s1 _ _ ha)) (aR hi)
  ·intro ys H' aU;exact dU aU λ_ s1 _=>az _ (ar.of (s1 _ _ ha)) (aB _)
  ·intro i ys H1 hi aU z H2 jy;refine dU aU λ_ s1 e=>oA jy λeH dr=>?_;subst eH;have hz:=dr _ (ar.of (s1 _ _ ha));refine ay (vt hp hz) λst cX hI=>?_;have Xz:=hg st (bw cX);have Xy:jn H2 z st:=hI.keep λb xs e=>s1 _ _ e;refine ay Xy λb aa hb=>?_;clear Xy;subst aa;dsimp only[lO,iX];rw[if_pos rfl];refine vr rfl (uy b st.1 (gJ _ rfl hb (Ay Xz) ⟨Q4 Xz,RP st.2⟩ λz dx H3 s3 Fn Fm=>(gu hi (s1.trans s3) ?_)));rw[kv,cX];exact G6 ⟨z,b,dx,rfl,Fm⟩ (Paired.cF e λ_ _ q=>q.same s3)
  ·intro ys H1 aU;refine dU aU λ_ s1 e=>?_;have hle:=Paired.length e;rw[gz]at hle;refine⟨cg (cx li),λr cH=>⟨r,ys,rfl,.inl ⟨aq.of av,λl hl=>?_⟩⟩⟩;have s2:=aI (o:=.lst ys) s1 cH;have s3:=aI (o:=.tup ys) s2 hl;rw[jE li]at e;exact k _ l ys s3 (s2.free hl) av (Paired.cF e λ_ _ q=>(q.same (aI (ah.refl _) cH)).same (aI (ah.refl _) hl))
end
structure uj(K:W.Frag)(x qual:Str)(st:Stmt)(f:Addr)(fd:aQ)(d:Str):Prop where
 ex:∃(oc:Value) (od:Option Addr) (T:Addr) (kV doc pm:Value) (an:Option Addr) (aD ct:Value) (gQ:Array (Option Value)) (c1:Value) (d1:Option Addr) (n1:Nat) (oH:Array (Option Value)) (tk:Nat),fd=W.fnOf x qual (jN st) (iI st) (aM st) (.ref T) kV doc pm an aD ct/\K.lookup f=some ⟨oc,od,.func fd,gQ⟩/\W.codeIn K aD qual=true/\K.lookup T=some ⟨c1,d1,.seq #[.str d tk] n1,oH⟩
 kp:W.keepIn K (.ref f)=true
def k0:Ck:=⟨0,0,[0,0,0,0],0,[]⟩
def yF(kd:Str)(ps:List Pt):Mc:=⟨kd,ps,ps.map λ_=>k0,cY 12 0,[],cY 12 []⟩
theorem G8{α β γ:Type}{F:α->β->Prop}{y:β}:∀{l:List α} {r:List γ},l.length=r.length->(∀x∈l,F x y)->Paired F l (r.map λ_=>y)
 | [],[],_,_=>.nil
 | [],_::_,h,_=>by cases h
 | _::_,[],h,_=>by cases h
 | x::l,z::r,h,g=>.cons (g x (by simp)) (G8 (by simpa using h) λx hx=>g x (dJ _ hx))
theorem Pg{α β:Type}{F:α->β->Prop}{y:β}:∀{l:List α} {n:Nat},l.length=n->(∀x∈l,F x y)->Paired F l (cY n y)
 | [],0,_,_=>.nil
 | [],_+1,h,_=>by cases h
 | _::_,0,h,_=>by cases h
 | x::l,n+1,h,g=>.cons (g x (by simp)) (Pg (by simpa using h) λx hx=>g x (dJ _ hx))
theorem ah0:(["kind","part"]:List Str).Nodup:=dk
theorem D2:(["part"]:List Str).Nodup:=dk
theorem ahZ:(["name"]:List Str).Nodup:=dk
theorem Ia{α:Type}{l:List α}{x y:α}{i:Nat}(h:(l++[x])[i]?=some y):l[i]?=some y\/(i=l.length/\y=x):=by
 by_cases hi:i<l.length
 ·left;rwa[NY hi]at h
 ·right
  rw[NW li]at h
  by_cases e:i-l.length=0
  ·rw[e]at h;simp at h;exact⟨li,h.symm⟩
  ·rw[Oa (by simp;lia)]at h;cases h
theorem Own.nx{H0 H:Hp}{m b:Addr}{R:Addr->Nat->Prop}{o:HO}(n:Nat)(h:Own H0 m H R)(hB:H b=none):∃R',Own H0 m (upd H b o) R'/\(∀a v,R a v->R' a v)/\R' b n:=⟨_,h.new (n:=n) hB,λa v z=>.inl z,.inr ⟨rfl,rfl⟩⟩
theorem Own.nw{H0 H:Hp}{m b:Addr}{R:Addr->Nat->Prop}{o:HO}(n:Nat)(h:Own H0 m H R)(hB:H b=none):∃H' R',H'=upd H b o/\ah H H'/\H' b=some o/\Own H0 m H' R'/\(∀a v,R a v->R' a v)/\R' b n:=aX (h.nx (o:=o) n hB) λR' a i r=>⟨_,R',rfl,aI (ah.refl _) hB,av,a,i,r⟩
theorem ue{H h:Hp}{m C dx:Addr}{fs:List (Str×V)}{R:Addr->Nat->Prop}{k:Nat}(x:Str)(v:V)(_:h m=some (.ins C dx fs))(hf:fs.length<=k)(O:Own H m h R):∃f h',f=aG x v fs/\h'=upd h m (.ins C dx f)/\f.length<=k+1/\eh m h h'/\h' m=some (.ins C dx f)/\Own H m h' R:=⟨_,_,rfl,rfl,cZ (qj x v fs) (Cq hf),eh.upd,av,O.keep C0⟩
theorem Own.nxs{H0 H H':Hp}{m:Addr}{R:Addr->Nat->Prop}(n:Nat)(B:Addr->Prop)(h:Own H0 m H R)(k:∀b,H' b=none->H b=none)(hB:∀b,B b->H b=none)(B5:∀b,B b->H' b≠none):∃R',Own H0 m H' R'/\(∀a v,R a v->R' a v)/\∀b,B b->R' b n:=⟨_,h.adds (n:=n) k hB B5,λa v z=>.inl z,λb z=>.inr ⟨z,rfl⟩⟩
theorem eh.tup{m C dx:Addr}{fs:List (Str×V)}{H H':Hp}(k:eh m H H')(hm:H m=some (.ins C dx fs)):∀b xs,H b=some (.tup xs)->H' b=some (.tup xs):=λb xs e=>k.k b _ (λz=>by rw[z,hm]at e;cases e) e
theorem eh.lst{m C dx:Addr}{fs:List (Str×V)}{H H':Hp}(k:eh m H H')(hm:H m=some (.ins C dx fs)){b:Addr}{xs:List V}(e:H b=some (.lst xs)):H' b=some (.lst xs):=k.k b _ (λz=>by rw[z,hm]at e;cases e) e
theorem pq{x:Str}{v:V}{fs lY:List (Str×V)}(e:lY=aG x v fs):lY.lookup x=some v:=by rw[e,dn,if_pos rfl]
theorem cj{x y:Str}{v:V}{r:Option V}{fs lY:List (Str×V)}(h:fs.lookup y=r)(e:lY=aG x v fs)(n:y≠x):lY.lookup y=r:=by rw[e,dn,if_neg n];exact h
theorem QZ{K:W.Frag}{H h:Hp}{m C dx pg:Addr}{fs:List (Str×V)}{fld:Str}{aY:List V}{ps:List Pt}{D:Ends}{σ:L2.St}{R:Addr->Nat->Prop}{k:Nat}(n:Nat)(e0:σ[0]?=some (some (.ref m)))(e1:σ[1]?=some (some (.ref pg)))(hp:h pg=some (.tup aY))(hl:aY.length=ps.length)(h4:ps.length<=4)(hm:h m=some (.ins C dx fs))(cl:dj K C)(na:bu K C fld)(hf:fs.length<=k)(hk:k<900)(O:Own H m h R)
  (q:∀l h' f' R',f'=aG fld (.ref l) fs->f'.length<=k+1->h' m=some (.ins C dx f')->h' l=some (.lst (ps.map λ_=>V.int 0))->eh m h h'->Own H m h' R'->(∀a v,R a v->R' a v)->R' l n->D.nx σ h') :
  UK K (qL 0) (Ko (UX K (qL 1)) (iX 0) lO (tC (.int 0)) [] 1) fld D σ h:=by
 refine⟨_,e1,pg,rfl,⟨_,ar.of hp⟩,fk (n:=aY.length) (λi ys H'=>i<=aY.length/\H'=h/\ys=(ps.take i).map λ_=>V.int 0) (cg (cx li)) (gu (bU _) rfl rfl) ?_ ?_ ?_ ?_ ?_⟩
 ·intro i ys H' aU;obtain⟨_,_,e⟩:=aU;rw[e,aH,gz];lia
 ·intro i ys H' hi aU;obtain⟨_,rfl,_⟩:=aU;exact iD _ _ (ar.of hp) (aR hi)
 ·intro ys H' aU;obtain⟨_,rfl,_⟩:=aU;exact az _ (ar.of hp) (aB _)
 ·intro i ys H' hi aU z gd jy;obtain⟨_,rfl,e⟩:=aU;obtain⟨eH,dr⟩:=jy;subst eH;dsimp only[lO,iX];rw[if_pos rfl];refine gu hi rfl ?_;rw[kv,aR (show i<ps.length by lia),gf,<-e];rfl
 intro ys H' aU;obtain⟨_,NL,e⟩:=aU;subst NL;rw[jE li]at e;subst e;refine⟨by rw[aH];exact cg (cx li),λl nl=>?_⟩;have s1:ah H' (upd H' l (.lst (ps.map λ_=>V.int 0))):=aI (ah.refl _) nl;have g1:upd H' l (.lst (ps.map λ_=>V.int 0)) l=some (.lst (ps.map λ_=>V.int 0)):=av;obtain⟨R1,O1,i1,r1⟩:=O.nx (o:=.lst (ps.map λ_=>V.int 0)) n nl;have lX:=s1 _ _ hm;generalize upd H' l (.lst (ps.map λ_=>V.int 0))=v at s1 g1 O1 lX ⊢;refine⟨_,e0,m,C,dx,fs,rfl,lX,cl,na,li,?_⟩;have ku:eh m v (upd v m (.ins C dx (aG fld (.ref l) fs))):=eh.upd;exact q l _ _ R1 rfl (by have:=qj fld (V.ref l) fs;lia) av (ku.lst lX g1) ((eh.of s1).trans ku) (O1.keep (C0 (H:=v) (x:=m))) i1 r1
section
variable{t:aW}{C CT:Addr}{u:jW}
theorem uj.ok{x qual d:Str}{st:Stmt}{f:Addr}{fd:aQ}{N ps:List Str}{k:Nat}{sp:Sp}(F:uj K x qual st f fd d)(S:aZ N ps (aM st))(len:∀vs H Q E,sp vs H Q E->vs.length=ps.length)
  (sC:∀(aD:Value) (A:Around) (outer:List Env) (s:Shared) (H:Hp) (vs:List V) (Q:VK) (E:XK),eI k (A.deeper (envOfC qual (aM st) s.heap.objs.size f aD))->sp vs H Q E->
   ∃t,fG (oj au P w K mg base N qual (aM st) f aD A outer s H E).uv (iI st) t/\t { nx:=λ_ H'=>Q .aE H',rt:=Q } (start N vs) H):ao P w K mg base au (k+1) f fd ps sp:=by
 refine mh F.ex λoc od T kV doc pm an aD ct gQ aa=>dZ aa λc1 d1 n1 oH tk aa=>Eh aa λaa lk ib _=>?_;subst aa;exact ua lk ib S len λA outer s H vs Q E hr ji=>ay (sC aD A outer s H vs Q E hr ji) λt h q=>az t h.uv q
theorem VU{us:List Value}(h:us.length=3):∃a b c,us=[a,b,c]/\True:=by
 cases us with
 | nil=>cases h
 | cons a l=>
  cases l with
  | nil=>cases h
  | cons b l=>exact oE (N8.mp (Ai (Ai h))) λc z=>⟨a,b,c,by rw[z],trivial⟩
theorem aeW{f:Addr}{fd:aQ}(F:uj K "__init__" "Machine.__init__" DD f fd "row"):Binds K fd ["self","program","kind"] []:=by
 refine mh F.ex λoc od T kV doc pm an aD ct gQ aa=>dZ aa λc1 d1 n1 oH tk aa=>Eh aa λaa lk ib lT=>?_;subst aa;intro s us hK hl;refine kG (VU (by rw[tu]at hl;exact hl)) λa b c z _=>?_;subst z;exact W.binds_K hK rfl lT rfl rfl rfl
def Rq(t:aW)(C CT:Addr):Sp:=λvs H Q _=>∃m dx v ps kd,vs=[.ref m,v,.str kd]/\H m=some (.ins C dx [])/\jo H v ps/\kQ ps/\(kd = "row"\/kd = "name"\/kd = "none")/\
 ∀H' A lab,bo t C CT H' m A (yF kd ps)->jQ lab m A->v=.ref A.pg->eh m H H'->(∀b,dq m A b->b=m\/H b=none)->Q .aE H'
theorem aec:aZ ["self","program","kind"] ["self","program","kind"] (aM DD):=a8
theorem acK{f fK fT fS PT vV:Addr}{fd B9 vc iu:aQ}(F:uj K "__init__" "Machine.__init__" DD f fd "row")(cM:je K C)(T:qA K mg t)(jA:mg "tuple" = none)(dH:mg "range" = none)
  (GK:ao P w K mg base au 6 fK B9 ["program"] Sm) (kK:W.keepIn K (.ref fK)=true) (bK:Binds K B9 ["program"] []) (mK:mg "look_over" = some (.ref fK))
  (GT:ao P w K mg base (lU P w) 3 fT vc ["kind"] (QB CT PT vV)) (kT:W.keepIn K (.ref fT)=true) (bT:Binds K vc ["kind"] []) (mT:mg "tray_of" = some (.ref fT))
  (GS:ao P w K mg base au 5 fS iu ["part"] (PV t)) (kS:W.keepIn K (.ref fS)=true) (bS:Binds K iu ["part"] []) (mS:mg "steps_of" = some (.ref fS)) :
  ao P w K mg base au 7 f fd ["self","program","kind"] (Rq t C CT):=by
 have NU:=J' GT;refine ay T.cn.names λuN mN rN=>ay T.cn.eY λuR mR rR=>F.ok aec (λvs H Q E h=>?_) λaD A _ s H vs Q E hr h=>?_
 ·refine dZ h λm dx v ps kd aa=>oA aa λaa _=>?_;subst aa;rfl
 ·obtain⟨m,dx,v,ps,kd,aa,hm,hP,g,rq,q⟩:=h;subst aa;have wZ:=hr.mono (show 3<=6 by decide);have M6:=hr.mono (show 5<=6 by decide)
  refine let R1:TS:=_;let R2:TS:=_;let R3:TS:=_;let R4:TS:=_;let R5:TS:=_;let R6:TS:=_;let R7:TS:=_;let R8:TS:=_;let R9:TS:=_;let i6:TS:=_;⟨_,aA (gg (bx GK hr rfl mK kK bK .nil aO (ae (pv 1) af))) (pR i6 (aA (gi (pv 0) (gh (N:=["kind","part"]) (idx:=[2]) rfl (c9.of (by kernel_rfl)) (gC (aB _)) (mz (pv 1)) (λ_ _ _ _=>br (i:=1) ah0 rfl (aN rfl) (.inr rfl)) (λ_ _ _ _=>gZ)
     λ_ _ _ _=>bx NU wZ rfl mT kT bT .nil aO (ae (pv 0) af)) rfl)
   (pR R9 (aA (gi (pv 0) (pv 1) rfl) (pR R8 (aA (gi (pv 0) (pv 2) rfl) (pR R7 (aA (gi (pv 0) (qo rV rfl jA mi (ae (gh (N:=["part"]) (idx:=[]) rfl (c9.of (by kernel_rfl)) (gC (bU _)) (mz (pv 1)) (λ_ _ _ _=>br (i:=0) D2 rfl (aN rfl) (.inr rfl)) (λ_ _ _ _=>gZ)
     λ_ _ _ _=>bx GS M6 rfl mS kS bS .nil aO (ae (pv 0) af)) af)) rfl)
   (pR R6 (aA (gi (pv 0) (gh (N:=["part"]) (idx:=[]) rfl (c9.of (by kernel_rfl)) (gC (bU _)) (mz (pv 1)) (λ_ _ _ _=>br (i:=0) D2 rfl (aN rfl) (.inr rfl)) (λ_ _ _ _=>gZ) λ_ _ _ _=>aw) rfl)
   (pR R5 (aA (gi (pv 0) (gh (N:=["part"]) (idx:=[]) rfl (c9.of (by kernel_rfl)) (gC (bU _)) (mz (pv 1)) (λ_ _ _ _=>br (i:=0) D2 rfl (aN rfl) (.inr rfl)) (λ_ _ _ _=>gZ) λ_ _ _ _=>aw) rfl)
   (pR R4 (aA (gi (pv 0) (gh (N:=["part"]) (idx:=[]) rfl (c9.of (by kernel_rfl)) (gC (bU _)) (mz (pv 1)) (λ_ _ _ _=>br (i:=0) D2 rfl (aN rfl) (.inr rfl)) (λ_ _ _ _=>gZ) λ_ _ _ _=>aT DH (dY (ae aw af)) (eE rfl mR rR)) rfl)
   (pR R3 (aA (gi (pv 0) (aT DH (dY (ae aw af)) (eE rfl mN rN)) rfl) (pR R2 (aA (gi (pv 0) (dY af) rfl) (pR R1 (ax (gi (pv 0) (gh (N:=["name"]) (idx:=[]) rfl (c9.of (by kernel_rfl)) (gC (bU _)) (jk rfl dH (ae (eE rfl mN rN) af)) (λ_ _ _ _=>br (i:=0) ahZ rfl (aN rfl) (.inr rfl)) (λ_ _ _ _=>gZ) λ_ _ _ _=>dY af) rfl))))))))))))))))))))),?_⟩
  refine dF (id hP) λpg aY aa lB xb=>?_;subst aa;refine vr rfl (⟨(.ref pg),ps,rfl,hP,g,(λH1 s1=>?_)⟩);have dB:=Paired.length xb;have hle:=g.le;have npm:=ik lB hm (by intro z;cases z);have lX:=s1 _ _ hm;obtain⟨R0,o0,r0⟩:∃R,Own H m H1 R/\R m 2:=⟨λa v=>a=m/\v=2,⟨⟨λ_=>2,λa v z=>z.2.symm⟩,λa v z e=>(by rw[z.1,lX]at e;cases e),λa v z=>.inl z.1,λb z=>s1.free z⟩,rfl,rfl⟩
  have yW:V.str kd=.str "row"\/V.str kd=.str "name"\/V.str kd=.str "none":=by
   rcases rq with e | e | e
   ·exact .inl (by rw[e])
   ·exact .inr (.inl (by rw[e]))
   ·exact .inr (.inr (by rw[e]))
  refine az _ rfl (eZ pg rfl ⟨_,ar.of (s1 _ _ lB)⟩ (fk (n:=aY.length) (λi ys H'=>i<=aY.length/\∃ts:List (Addr×Addr×List Addr),ys=(ts.map λx=>V.ref x.1)/\ts.length=i/\ah H1 H'/\(∀x∈ts,dy H' x.1 CT kd 0 [] x.2.1 x.2.2)/\∃R,Own H m H' R/\(∀a v,R0 a v->R a v)/\∀j x,ts[j]?=some x->∀b∈x.1::x.2.1::x.2.2,R b (28+6*j)) (cg (cx (by exact w8))) ⟨bU _,⟨[],rfl,rfl,ah.refl _,λx hx=>(by cases hx),R0,o0,λ_ _ z=>z,λj x z=>(by simp at z)⟩⟩ ?_ ?_ ?_ ?_ ?_))
  ·intro i ys H' aU;obtain⟨_,ts,rfl,rfl,_⟩:=aU;rw[aH];exact aB _
  ·intro i ys H' hi aU;obtain⟨_,ts,_,_,s2,_⟩:=aU;exact iD _ _ (ar.of ((s1.trans s2) _ _ lB)) (aR hi)
  ·intro ys H' aU;obtain⟨_,ts,_,_,s2,_⟩:=aU;exact az _ (ar.of ((s1.trans s2) _ _ lB)) (aB _)
  ·intro i ys H2 hi aU z H3 jy;obtain⟨_,ts,rfl,rfl,s2,ht,R,o2,r2,r3⟩:=aU;obtain⟨eH,dr⟩:=jy;subst eH;dsimp only[lO,iX];rw[if_pos rfl];refine vr rfl (⟨(.str kd),("str"),rfl,rfl,(λ_ kd' H4 x q' qr e T4 k4 kh=>?_),(λy=>y yW)⟩);injection e with e
   subst e;have s4:ah H3 H4:=λb o e=>k4 b o (by simp) e
   obtain⟨R',o4,i4,n4⟩:=o2.nxs (28+6*ts.length) (λb=>b∈x::q'::qr) (λb z=>s4.free z) kh (λb hb y=>by
    refine oE (T4.there b hb) λo e=>?_;rw[e]at y;cases y)
   refine⟨hi,⟨ts++[(x,q',qr)],by rw[gf];rfl,by rw[fQ];rfl,s2.trans s4,λy hy=>?_,R',o4,λa v z=>i4 a v (r2 a v z),λj y hy b hb=>?_⟩⟩
   ·rcases jH.mp hy with hy | hy
    ·exact(ht y hy).keep (λb _ o e=>s4 b o e) λb xs e=>s4 b _ e
    ·rw[eN.mp hy];exact T4
   ·rcases Ia hy with hy | ⟨e1,e2⟩
    ·exact i4 _ _ (r3 j y hy b hb)
    ·subst e1;subst e2;exact n4 b hb
  intro ys H2 aU;obtain⟨_,ts,rfl,wX,s2,ht,R1,o2,i1,r1⟩:=aU;refine⟨by rw[aH];exact cg (cx (by exact wu)),λlt nlt=>?_⟩;refine eO (o2.nw (o:=.lst (ts.map λx=>V.ref x.1)) 4 nlt) λH3 R2 e s3 cI o3 i2 r2=>?_;rw[<-e];clear e;have ke:=s3 _ _ (s2 _ _ lX);have T3:=λx hx=>(ht x hx).keep (λb _ o e=>s3 b o e) λb xs e=>s3 b _ e;have K3:eh m H H3:=eh.of (s1.trans (s2.trans s3));refine vr rfl (nK m C dx ([]) rfl ke cM.cl cM.gK qc ?_);refine eO (ue "trays" (V.ref lt) ke (aB 0) o3) λrE H4 FN e FE k4 Fy o4=>?_;rw[<-FN,<-e];clear e;have K4:=K3.trans k4;refine az _ rfl (vr rfl (nK m C dx rE rfl Fy cM.cl cM.program (by exact wb) ?_));refine eO (ue "program" (V.ref pg) Fy FE o4) λrD H5 Cb e zL k5 Fx o5=>?_;rw[<-Cb,<-e];clear e;have K5:=K4.trans k5;refine az _ rfl (vr rfl (nK m C dx rD rfl Fx cM.cl cM.kind (by exact wb) ?_));refine eO (ue "kind" (V.str kd) Fx zL o5) λpN H6 zU e FD k6 hm6 o6=>?_;rw[<-zU,<-e];clear e;have K6:=K5.trans k6;have Et:=K6.tup hm _ _ lB;refine az _ rfl (eZ pg rfl ⟨_,ar.of Et⟩ (fk (n:=aY.length) (λi ys H'=>i<=aY.length/\ah H6 H'/\Paired (yo t H') ys (ps.take i)) (cg (cx (by exact w8))) (gu (bU _) (ah.refl _) .nil) ?_ ?_ ?_ ?_ ?_))
  ·intro i ys H' aU;obtain⟨_,_,e⟩:=aU;rw[Paired.length e,gz];exact xl
  ·intro i ys H' hi aU;obtain⟨_,s,_⟩:=aU;exact iD _ _ (ar.of (s _ _ Et)) (aR hi)
  ·intro ys H' aU;obtain⟨_,s,_⟩:=aU;exact az _ (ar.of (s _ _ Et)) (aB _)
  ·intro i ys H' hi aU z gd jy;obtain⟨_,s7,e⟩:=aU;obtain⟨eH,dr⟩:=jy;subst eH;have hz:=dr _ (ar.of (s7 _ _ Et));refine ay (vt xb hz) λp hp hI=>oA (g.part p (bw hp)) λg1 g2=>?_;dsimp only[lO,iX];rw[if_pos rfl];refine vr rfl (⟨z,p,rfl,((hI.keep (K6.tup hm)).keep λb xs e=>s7 _ _ e),g1,g2,(λH8 b us s8 nb hb lA=>⟨hi,s7.trans s8,?_⟩)⟩);rw[kv,hp];exact G6 ⟨b,us,rfl,hb,lA⟩ (Paired.cF e λ_ _ q=>q.keep (λb xs e=>s8 _ _ e) λb C dx fs e _=>s8 _ _ e)
  intro ys H7 aU;obtain⟨_,s7,e7⟩:=aU;have ald:=Paired.length e7;rw[gz]at ald;rw[jE li]at e7;refine⟨cg (cx li),λr7 nr7=>⟨r7,ys,rfl,.inl ⟨aq.of av,λst zw=>?_⟩⟩⟩;have s8:ah H7 (upd (upd H7 r7 (.lst ys)) st (.tup ys)):=aI (aI (ah.refl _) nr7) zw;have cX:upd (upd H7 r7 (.lst ys)) st (.tup ys) st=some (.tup ys):=av;generalize upd (upd H7 r7 (.lst ys)) st (.tup ys)=H8 at s8 cX ⊢;have hs8:Paired (yo t H8) ys ps:=Paired.cF e7 λ_ _ q=>q.keep (λb xs e=>s8 _ _ e) λb C dx fs e _=>s8 _ _ e;have E6:=s7.trans s8;have BX:=E6 _ _ hm6;have o8:=o6.keep (λb z=>E6.free z);have K8:=K6.trans (eh.of E6);refine vr rfl (nK m C dx pN rfl BX cM.cl cM.steps (by exact wb) ?_);refine eO (ue "steps" (V.ref st) BX FD o8) λfs4 H9 zT e uY k9 hm9 o9=>?_;rw[<-zT,<-e];clear e;have K9:=K8.trans k9;have akW:=K9.tup hm _ _ lB;refine QZ (ps:=ps) 6 rfl rfl akW dB hle hm9 cM.cl cM.places uY qc o9 λpl H11 fs5 R3 zS zK Vp gpl WN o11 i10 Wj=>?_;have X9:=K9.trans WN;have ajr:=X9.tup hm _ _ lB;refine QZ (ps:=ps) 8 rfl rfl ajr dB hle Vp cM.cl cM.counts zK qc o11 λct H13 fs6 R4 xt B0 Vo Xl WM o13 i12 Wi=>?_;have X8:=X9.trans WM;have Lc:=X8.tup hm _ _ lB;refine az _ rfl (eZ pg rfl ⟨_,ar.of Lc⟩ (fk (n:=aY.length) (λi ys H'=>i<=aY.length/\∃rs:List Addr,ys=rs.map V.ref/\rs.length=i/\ah H13 H'/\(∀a∈rs,H' a=some (.lst (([0,0,0,0]:List Int).map V.int)))/\∃R,Own H m H' R/\(∀a v,R4 a v->R a v)/\∀(j:Nat) a,rs[j]?=some a->R a (24+6*j)) (cg (cx (by exact w8))) ⟨bU _,⟨[],rfl,rfl,ah.refl _,λx hx=>(by cases hx),R4,o13,λ_ _ z=>z,λj x z=>(by simp at z)⟩⟩ ?_ ?_ ?_ ?_ ?_))
  ·intro i ys H' aU;obtain⟨_,rs,rfl,rfl,_⟩:=aU;rw[aH];exact aB _
  ·intro i ys H' hi aU;obtain⟨_,rs,_,_,s,_⟩:=aU;exact iD _ _ (ar.of (s _ _ Lc)) (aR hi)
  ·intro ys H' aU;obtain⟨_,rs,_,_,s,_⟩:=aU;exact az _ (ar.of (s _ _ Lc)) (aB _)
  ·intro i ys H' hi aU z gd jy;obtain⟨_,rs,rfl,rfl,s,BQ,R,oR,iR,MF⟩:=aU;obtain⟨eH,dr⟩:=jy;subst eH;dsimp only[lO,iX];rw[if_pos rfl];refine⟨qc,λy ny=>⟨y,4,_,rfl,rfl,av,qc,qc,qc,λx nx=>?_⟩⟩;have sy:ah gd (upd gd y (.lst [.int 0])):=aI (ah.refl _) ny;have oy:=oR.keep (λb z=>sy.free z);refine aX (oy.nx (o:=.lst (([0,0,0,0]:List Int).map V.int)) (24+6*rs.length) nx) λR' o' i' r'=>?_;have sx:ah gd (upd (upd gd y (.lst [.int 0])) x (.lst (([0,0,0,0]:List Int).map V.int))):=aI sy nx;have hx:upd (upd gd y (.lst [.int 0])) x (.lst (([0,0,0,0]:List Int).map V.int)) x=some (.lst (([0,0,0,0]:List Int).map V.int)):=av;refine⟨hi,⟨rs++[x],by rw[gf];rfl,by rw[fQ];rfl,s.trans sx,λy hy=>?_,R',o',λa v z=>i' a v (iR a v z),λj y hy=>?_⟩⟩
   ·rcases jH.mp hy with hy | hy
    ·exact sx _ _ (BQ y hy)
    ·rw[eN.mp hy];exact hx
   ·rcases Ia hy with hy | ⟨e1,e2⟩
    ·exact i' _ _ (MF j y hy)
    ·subst e1;subst e2;exact r'
  intro ys H14 aU;obtain⟨_,rs,rfl,amM,wM,BQ,R5,o14,i14,Wh⟩:=aU;refine⟨by rw[aH];exact cg (cx (by exact wu)),λrg nrg=>?_⟩;refine eO (o14.nw (o:=.lst (rs.map V.ref)) 10 nrg) λH15 R6 e uE dH o15 i15 Wg=>?_;rw[<-e];clear e;have Ex:=uE _ _ (wM _ _ Vo);have akS:=λa ha=>uE _ _ (BQ a ha);have K15:=X8.trans (eh.of (wM.trans uE));refine vr rfl (nK m C dx fs6 rfl Ex cM.cl cM.eY (by exact wb) ?_);refine eO (ue "regs" (V.ref rg) Ex B0 o15) λXF zV sW e BZ WL alb o16=>?_;rw[<-sW,<-e];clear e;have K16:=K15.trans WL;refine⟨qc,λy ny=>⟨y,12,_,rfl,rfl,av,qc,qc,qc,λce Wt=>?_⟩⟩;have sy:ah zV (upd zV y (.lst [.int 0])):=aI (ah.refl _) ny;have oy:=o16.keep (λb z=>sy.free z);refine aX (oy.nx (o:=.lst ((cY 12 (0:Int)).map V.int)) 12 Wt) λR7 Wl i17 Wf=>?_;have E8:ah zV (upd (upd zV y (.lst [.int 0])) ce (.lst ((cY 12 (0:Int)).map V.int))):=aI sy Wt;have uZ:upd (upd zV y (.lst [.int 0])) ce (.lst ((cY 12 (0:Int)).map V.int)) ce=some (.lst ((cY 12 (0:Int)).map V.int)):=av;rw[show (cY (12:Int).toNat [V.int 0]).flatten=(cY 12 (0:Int)).map V.int from rfl];generalize upd (upd zV y (.lst [.int 0])) ce (.lst ((cY 12 (0:Int)).map V.int))=H17 at E8 uZ Wl ⊢;have LW:=E8 _ _ alb;have K17:=K16.trans (eh.of E8);refine vr rfl (nK m C dx XF rfl LW cM.cl cM.cells (by exact wb) ?_);refine eO (ue "cells" (V.ref ce) LW BZ Wl) λfs8 H18 rF e hf8 WK ala o18=>?_;rw[<-rF,<-e];clear e;have K18:=K17.trans WK;refine⟨qc,λac nac=>?_⟩;refine eO (o18.nw (o:=.lst []) 14 nac) λH19 R8 e MD oN o19 i19 We=>?_;rw[<-e];clear e;have LV:=MD _ _ ala;have K19:=K18.trans (eh.of MD);refine vr rfl (nK m C dx fs8 rfl LV cM.cl cM.iZ (by exact wb) ?_);refine eO (ue "acts" (V.ref ac) LV hf8 o19) λfs9 H20 p7 e hf9 WJ ak' o20=>?_;rw[<-p7,<-e];clear e;have K20:=K19.trans WJ;refine⟨12,rfl,qc,qc,?_⟩;rw[show (12:Int).toNat=12 from rfl];refine fk (n:=12) (λi ys H'=>i<=12/\∃rs:List Addr,ys=rs.map V.ref/\rs.length=i/\ah H20 H'/\(∀a∈rs,H' a=some (.lst (([]:List Int).map V.int)))/\∃R,Own H m H' R/\(∀a v,R8 a v->R a v)/\∀(j:Nat) a,rs[j]?=some a->R a (26+6*j)) (cg (cx li)) ⟨bU _,⟨[],rfl,rfl,ah.refl _,λx hx=>(by cases hx),R8,o20,λ_ _ z=>z,λj x z=>(by simp at z)⟩⟩ ?_ ?_ ?_ ?_ ?_
  ·intro i ys H' aU;obtain⟨_,rs,rfl,rfl,_⟩:=aU;rw[aH];exact aB _
  ·intro i ys H' hi aU;obtain⟨_,rs,_,_,s,_⟩:=aU;exact hi
  ·intro ys H' aU;obtain⟨_,rs,_,_,s,_⟩:=aU;exact aB _
  ·intro i ys H' hi aU z gd jy;obtain⟨_,rs,rfl,rfl,s,BQ,R,oR,iR,MF⟩:=aU;obtain⟨eH,dr⟩:=jy;subst eH;dsimp only[lO,iX];rw[if_pos rfl];refine⟨qc,λx nx=>aX (oR.nx (o:=.lst (([]:List Int).map V.int)) (26+6*rs.length) nx) λR' o' i' r'=>?_⟩;have sx:ah gd (upd gd x (.lst (([]:List Int).map V.int))):=aI (ah.refl _) nx;have hx:upd gd x (.lst (([]:List Int).map V.int)) x=some (.lst (([]:List Int).map V.int)):=av;refine⟨hi,⟨rs++[x],by rw[gf];rfl,by rw[fQ];rfl,s.trans sx,λy hy=>?_,R',o',λa v z=>i' a v (iR a v z),λj y hy=>?_⟩⟩
   ·rcases jH.mp hy with hy | hy
    ·exact sx _ _ (BQ y hy)
    ·rw[eN.mp hy];exact hx
   ·rcases Ia hy with hy | ⟨e1,e2⟩
    ·exact i' _ _ (MF j y hy)
    ·subst e1;subst e2;exact r'
  intro ys H21 aU;obtain⟨_,cs,rfl,ale,MC,FH,R9,o21,i21,Wd⟩:=aU;refine⟨by rw[aH];exact cg (cx (by exact w6)),λcm ncm=>?_⟩;refine eO (o21.nw (o:=.lst (cs.map V.ref)) 16 ncm) λH22 i6 e E7 hcm o22 i22 Wc=>?_;rw[<-e];clear e;have Ew:=E7 _ _ (MC _ _ ak');have alk:=λa ha=>E7 _ _ (FH a ha);have K22:=K20.trans (eh.of (MC.trans E7));refine vr rfl (nK m C dx fs9 rfl Ew cM.cl cM.mJ (by exact wb) ?_);refine eO (ue "comers" (V.ref cm) Ew hf9 o22) λVz FR ow e amP Fi ak9 pW=>?_;rw[<-ow,<-e];clear e;have X7:=K22.trans Fi;have n20:=(eh.of (m:=m) (MC.trans E7)).trans Fi;have Wu:=WJ.trans n20;have n18:=(eh.of (m:=m) MD).trans Wu;have Wv:=WK.trans n18;have n16:=(eh.of (m:=m) E8).trans Wv;have BM:=WL.trans n16;have Ww:=(eh.of (m:=m) (wM.trans uE)).trans BM;have Wx:=WM.trans Ww;have n9:=WN.trans Wx;have n8:=k9.trans n9;have n6:=(eh.of (m:=m) E6).trans n8;have n3:=k4.trans (k5.trans (k6.trans n6));have j9:=i22;have j8:∀a v,R8 a v->i6 a v:=λa v z=>j9 _ _ (i21 _ _ z);have j7:∀a v,R7 a v->i6 a v:=λa v z=>j8 _ _ (i19 _ _ z);have j6:∀a v,R6 a v->i6 a v:=λa v z=>j7 _ _ (i17 _ _ z);have j5:∀a v,R5 a v->i6 a v:=λa v z=>j6 _ _ (i15 _ _ z);have j4:∀a v,R4 a v->i6 a v:=λa v z=>j5 _ _ (i14 _ _ z);have j3:∀a v,R3 a v->i6 a v:=λa v z=>j4 _ _ (i12 _ _ z);have j2:∀a v,R2 a v->i6 a v:=λa v z=>j3 _ _ (i10 _ _ z);have j1:∀a v,R1 a v->i6 a v:=λa v z=>j2 _ _ (i2 _ _ z);have j0:∀a v,R0 a v->i6 a v:=λa v z=>j1 _ _ (i1 _ _ z);refine oE pW.l λlab ou=>?_;have lm:=ou _ _ (j0 _ _ r0);have tk:=cj (cj (pq FN) Cb dk) zU dk;have akO:ts.length=ps.length:=by exact wo
  have dP:rs.length=ps.length:=by exact wo
  have no:∀x∈SR,Vz.lookup x=none:=by
   intro x hx
   have n:∀y∈(["trays","program","kind","steps","places","counts","regs","cells","acts","comers"]:List Str),x≠y:=by
    intro y hy e;subst e
    revert hx
    revert x
    decide +kernel
   have hn:([]:List (Str×V)).lookup x=none:=rfl;exact cj (cj (cj (cj (cj (cj (cj (cj (cj (cj hn FN (n _ (by simp))) Cb (n _ (by simp))) zU (n _ (by simp))) zT (n _ (by simp))) zS (n _ (by simp))) xt (n _ (by simp))) sW (n _ (by simp))) rF (n _ (by simp))) p7 (n _ (by simp))) ow (n _ (by simp))
  have M:bo t C CT FR m ⟨lt,ts,pg,st,pl,ct,rg,rs,ce,ac,cm,cs⟩ (yF kd ps):=by
   refine⟨⟨dx,Vz,ak9,⟨cj (cj (cj (cj (cj (cj (cj (cj (cj (pq FN) Cb dk) zU dk) zT dk) zS dk) xt dk) sW dk) rF dk) p7 dk) ow dk,cj (cj (cj (cj (cj (cj (cj (cj (pq Cb) zU dk) zT dk) zS dk) xt dk) sW dk) rF dk) p7 dk) ow dk,cj (cj (cj (cj (cj (cj (cj (pq zU) zT dk) zS dk) xt dk) sW dk) rF dk) p7 dk) ow dk,cj (cj (cj (cj (cj (cj (pq zT) zS dk) xt dk) sW dk) rF dk) p7 dk) ow dk,cj (cj (cj (cj (cj (pq zS) xt dk) sW dk) rF dk) p7 dk) ow dk,cj (cj (cj (cj (pq xt) sW dk) rF dk) p7 dk) ow dk,cj (cj (cj (pq sW) rF dk) p7 dk) ow dk,cj (cj (pq rF) p7 dk) ow dk,cj (pq p7) ow dk,pq ow,no,by exact w4⟩⟩,n3.lst ke cI,?_,hP.keep (X7.tup hm),⟨ys,n8.tup BX _ _ cX,?_⟩,?_,?_,BM.lst Ex dH,?_,Wv.lst LW uZ,⟨[],Wu.lst LV oN,.nil⟩,Fi.lst Ew hcm,?_⟩
   ·refine G8 akO λx hx=>(T3 x hx).keep (λb hb o e=>n3.k b o (λz=>?_) e) (n3.tup ke);refine oE (zY hx) λj hj=>?_;have:=ou _ _ (j1 _ _ (r1 j x hj b hb));rw[z,lm]at this;exact wk
   ·refine Paired.cF hs8 λ_ _ q=>q.keep (n8.tup BX) λb C' Cg lY e h=>n8.k b _ (λz=>?_) e;refine kG h λx us v e1 e2=>?_;rw[z,BX]at e;cases e;rw[e2,tO "trays" dk]at tk;cases tk
   ·have h:=Wx.lst Vp gpl;rw[h];show _=some (HO.lst ((ps.map λ_=>k0).map λk=>V.int (k.pl:Nat)));rw[lF];rfl
   ·have h:=Ww.lst Vo Xl;rw[h];show _=some (HO.lst ((ps.map λ_=>k0).map λk=>V.int (k.ct:Nat)));rw[lF];rfl
   ·exact G8 (F:=λa (k:Ck)=>FR a=some (.lst (k.rg.map V.int))) (y:=k0) dP λa ha=>BM.lst Ex (akS a ha)
   ·exact Pg (F:=λa (o:List Int)=>FR a=some (.lst (o.map V.int))) (y:=[]) ale λa ha=>Fi.lst Ew (alk a ha)
  have L:jQ lab m ⟨lt,ts,pg,st,pl,ct,rg,rs,ce,ac,cm,cs⟩:=⟨lm,ou _ _ (j2 _ _ r2),ou _ _ (j3 _ _ Wj),ou _ _ (j4 _ _ Wi),ou _ _ (j6 _ _ Wg),ou _ _ (j7 _ _ Wf),ou _ _ (j8 _ _ We),ou _ _ Wc,λi a z=>ou _ _ (j5 _ _ (Wh i a z)),λi a z=>ou _ _ (j9 _ _ (Wd i a z)),λi x z b hb=>ou _ _ (j1 _ _ (r1 i x z b hb))⟩;refine q FR _ lab M L rfl X7 λb hb=>?_;cases hb with
  | m=>exact .inl rfl
  | lt=>exact pW.f _ _ (j2 _ _ r2)
  | pl=>exact pW.f _ _ (j3 _ _ Wj)
  | ct=>exact pW.f _ _ (j4 _ _ Wi)
  | rg=>exact pW.f _ _ (j6 _ _ Wg)
  | ce=>exact pW.f _ _ (j7 _ _ Wf)
  | ac=>exact pW.f _ _ (j8 _ _ We)
  | cm=>exact pW.f _ _ Wc
  | rs h=>
   refine oE (zY h) λj hj=>?_;exact pW.f _ _ (j5 _ _ (Wh j _ hj))
  | cs h=>
   refine oE (zY h) λj hj=>?_;exact pW.f _ _ (j9 _ _ (Wd j _ hj))
  | ts h h2=>
   refine oE (zY h) λj hj=>?_;exact pW.f _ _ (j1 _ _ (r1 j _ hj _ h2))
end
structure SA where
 (cl bd ac ov:Addr) (ks:List (Addr×Addr×Addr)) (os:List Addr)
def aiB(H:Hp)(v:V)(e:Ent):Prop:=∃p,v=.ref p/\H p=some (.tup [.int e.n,.int e.num,.int e.d])
structure aku(H:Hp)(x:Addr×Addr×Addr)(k:Ck):Prop where
 st:H x.1=some (.lst [.int (k.pl:Nat),.int (k.ct:Nat),.ref x.2.1,.ref x.2.2])
 rg:H x.2.1=some (.lst (k.rg.map V.int))
 es:∃vs,H x.2.2=some (.lst vs)/\Paired (aiB H) vs k.es
structure amh(H:Hp)(s:Addr)(B:SA)(S:Mc):Prop where
 st:H s=some (.lst [.ref B.cl,.ref B.bd,.ref B.ac,.ref B.ov])
 cl:H B.cl=some (.lst (B.ks.map λx=>V.ref x.1))
 ks:Paired (aku H) B.ks S.ck
 bd:H B.bd=some (.lst (S.bd.map V.int))
 ac:∃vs,H B.ac=some (.lst vs)/\Paired (yB H) vs S.ac
 ov:H B.ov=some (.lst (B.os.map V.ref))
 os:Paired (λa (o:List Int)=>H a=some (.lst (o.map V.int))) B.os S.ov
structure amC(lab:Addr->Nat)(s:Addr)(B:SA):Prop where
 s:lab s=1
 cl:lab B.cl=3
 bd:lab B.bd=5
 ac:lab B.ac=7
 ov:lab B.ov=9
 k1:∀i x,B.ks[i]?=some x->lab x.1=21+8*i
 k2:∀i x,B.ks[i]?=some x->lab x.2.1=23+8*i
 k3:∀i x,B.ks[i]?=some x->lab x.2.2=25+8*i
 os:∀i a,B.os[i]?=some a->lab a=27+8*i
inductive sQ (s:Addr) (B:SA):Addr->Prop
 | s:sQ s B s
 | cl:sQ s B B.cl
 | bd:sQ s B B.bd
 | ac:sQ s B B.ac
 | ov:sQ s B B.ov
 | k1 {x:Addr×Addr×Addr}:x∈B.ks->sQ s B x.1
 | k2 {x:Addr×Addr×Addr}:x∈B.ks->sQ s B x.2.1
 | k3 {x:Addr×Addr×Addr}:x∈B.ks->sQ s B x.2.2
 | os {a:Addr}:a∈B.os->sQ s B a
section
variable{H H':Hp}{s:Addr}{B:SA}{S:Mc}{lab:Addr->Nat}
end
theorem jn.same{H H':Hp}{v:V}{t:Tl}(s:ah H H')(h:jn H v t):jn H' v t:=h.keep λ_ _ e=>s _ _ e
theorem IsPart.same{H H':Hp}{v:V}{p:Pt}(s:ah H H')(h:IsPart H v p):IsPart H' v p:=h.keep λ_ _ e=>s _ _ e
theorem jo.same{H H':Hp}{v:V}{p:List Pt}(s:ah H H')(h:jo H v p):jo H' v p:=h.keep λ_ _ e=>s _ _ e
theorem Paired.at'{α β:Type}{F:α->β->Prop}:∀{l:List α} {m:List β} {i:Nat} {x:α},Paired F l m->l[i]?=some x->∃y,m[i]?=some y/\F x y
 | _,_,_,_,.nil,h=>by simp at h
 | _,_,0,_,.cons h _,e=>by
  simp only[List.getElem?_cons_zero,vo]at e;subst e;exact⟨_,rfl,h⟩
 | _,_,i+1,_,.cons _ t,e=>by
  rw[YF]at e ⊢;exact Paired.at' t e
theorem ye{H H':Hp}{l:Addr}{o:HO}(s:ah H H')(h:H l=none):ah H (upd H' l o):=λb u e=>by
 rw[ak (bJ e h)];exact s b u e
theorem abW:rW "set" = some (.type "set"):=dk
theorem afC{X:Cx}(P:Program)(w:World)(K:W.Frag)(hc:X.calm=true)(h1:X.prog=P:=by rfl)(h2:X.w=w:=by rfl)(h3:X.K=K:=by rfl):jr X (.type "set") (Tv P w K):=by subst h1 h2 h3;exact abS hc
theorem adZ{X:Cx}(P:Program)(w:World)(hc:X.calm=true)(h1:X.prog=P:=by rfl)(h2:X.w=w:=by rfl):jr X (.builtin "sorted") (Sx P w):=by subst h1 h2;exact ZU hc
def adX:Sp:=λvs H Q _=>∃a p,vs=[.ref a,.int p]/\∀l,H l=none->Q (.ref l) (upd H l (.lst [.int (p+1)]))
def adW(K:W.Frag):Sp:=λvs H Q _=>∃a C dx fs p q,vs=[.ref a,.int p]/\H a=some (.ins C dx fs)/\dj K C/\bu K C "place"/\fs.lookup ("place" : Str)=some (.int q)/\
 ∀H' l zs,ah H H'->H l=none->H' l=some (.lst (zs.map V.int))->gY zs (qE [p+1,q])->zs.Pairwise (· < ·)->Q (.ref l) H'
theorem Z2:aZ ["self","place"] ["self","place"] (aM CG):=a8
theorem ZO{f:Addr}{fd:aQ}(F:aP K "nexts" "Skip.nexts" CG f fd)(hs:mg "sorted" = none)(ht:mg "set" = none):ao P w K mg base au 1 f fd ["self","place"] (adW K):=by
 refine F.ok Z2 (λvs H Q E h=>?_) λaD A _ s H vs Q E hr h=>?_
 ·obtain⟨a,C,dx,fs,p,q,rfl,_⟩:=h;rfl
 ·obtain⟨a,C,dx,fs,p,q,rfl,ha,cl,na,hl,k⟩:=h;refine⟨_,ax (aS (bp (adZ P w rfl) rfl hs boot_sorted (ae (qo (afC P w K rfl) rfl ht abW (ae (dY (ae (aT fR (pv 1) aw) (ae (bf (pv 0) rfl) af))) af)) af))),?_⟩;refine⟨_,rfl,_,_,rfl,rfl,_,rfl,a,C,dx,fs,_,rfl,ha,cl,na,hl,by show 2<=bN;decide,λl0 n0=>?_⟩;refine⟨l0,[p+1,q],rfl,aq.of av,by show 2<4000;decide,λb nb=>⟨b,_,rfl,av,?_,λl zs nl hp hs=>?_⟩⟩
  ·have:=acC [p+1,q];simp only[gU,List.length_nil]at this;omega
  ·have s1:ah H (upd (upd (upd H l0 (.lst [.int (p+1),.int q])) b (Bo P w b (qE [p+1,q]))) l (.lst (zs.map V.int))):=aI (aI (aI (ah.refl _) n0) nb) nl;exact k _ l zs s1 ((aI (aI (ah.refl _) n0) nb).free nl) av hp hs
theorem aeb:aZ ["self","place"] ["self","place"] (aM Dj):=a8
theorem yf{f:Addr}{fd:aQ}(F:aP K "nexts" "Step.nexts" Dj f fd):ao P w K mg base au 1 f fd ["self","place"] adX:=by
 refine F.ok aeb (λvs H Q E h=>?_) λaD A _ s H vs Q E hr h=>?_
 ·obtain⟨a,p,rfl,_⟩:=h;rfl
 ·obtain⟨a,p,rfl,k⟩:=h;exact⟨_,ax (aS (dY (ae (aT fR (pv 1) aw) af))),_,rfl,_,_,rfl,rfl,by show 1<=bN;decide,λl nl=>k l nl⟩
def ahp:Sp:=λvs H Q _=>∃a,vs=[.ref a]/\Q .aE H
theorem afF:aZ ["self"] ["self"] (aM DU):=a8
theorem AS{f:Addr}{fd:aQ}(F:aP K "sets" "Step.sets" DU f fd):ao P w K mg base au 1 f fd ["self"] ahp:=by
 refine F.ok afF (λvs H Q E h=>?_) λaD A _ s H vs Q E hr h=>?_
 ·obtain⟨a,rfl,_⟩:=h;rfl
 ·obtain⟨a,rfl,k⟩:=h;exact⟨_,ax (aS kz),k⟩
def Tt(K:W.Frag)(nm:Str):Sp:=λvs H Q _=>∃a C dx fs v,vs=[.ref a]/\H a=some (.ins C dx fs)/\dj K C/\bu K C nm/\fs.lookup nm=some v/\Q v H
theorem afG:aZ ["self"] ["self"] (aM DV):=a8
theorem aev{f:Addr}{fd:aQ}(F:aP K "sets" "Set.sets" DV f fd):ao P w K mg base au 1 f fd ["self"] (Tt K "name"):=by
 refine F.ok afG (λvs H Q E h=>?_) λaD A _ s H vs Q E hr h=>?_
 ·obtain⟨a,C,dx,fs,v,rfl,_⟩:=h;rfl
 ·obtain⟨a,C,dx,fs,v,rfl,ha,cl,na,hl,k⟩:=h;exact⟨_,ax (aS (bf (pv 0) rfl)),_,rfl,a,C,dx,fs,v,rfl,ha,cl,na,hl,k⟩
theorem ad9:aZ ["self"] ["self"] (aM DA):=a8
theorem acD{f:Addr}{fd:aQ}(F:aP K "sets" "Swap.sets" DA f fd):ao P w K mg base au 1 f fd ["self"] (Tt K "name"):=by
 refine F.ok ad9 (λvs H Q E h=>?_) λaD A _ s H vs Q E hr h=>?_
 ·obtain⟨a,C,dx,fs,v,rfl,_⟩:=h;rfl
 ·obtain⟨a,C,dx,fs,v,rfl,ha,cl,na,hl,k⟩:=h;exact⟨_,ax (aS (bf (pv 0) rfl)),_,rfl,a,C,dx,fs,v,rfl,ha,cl,na,hl,k⟩
structure lu where
 (a6:jW)
 (wD T8 zd U1 U0:Addr)
 (Lz Kb Ly KR KQ:aQ)
structure jP(K:W.Frag)(mg:Str->Option Value)(t:aW)(u:lu):Prop where
 ob:v5 K mg t u.a6
 sorted:mg "sorted" = none
 set:mg "set" = none
 yM:aP K "nexts" "Step.nexts" Dj u.wD u.Lz
 uB:Binds K u.Lz ["self","place"] []
 ags:aP K "nexts" "Skip.nexts" CG u.T8 u.Kb
 K1:Binds K u.Kb ["self","place"] []
 ahU:Meth K t.jt "nexts" u.wD
 ahV:Meth K t.ju "nexts" u.wD
 ahT:Meth K t.ir "nexts" u.wD
 af2:Meth K t.iL "nexts" u.wD
 af0:Meth K t.jc "nexts" u.wD
 aeM:Meth K t.pB "nexts" u.wD
 af1:Meth K t.iK "nexts" u.T8
 Bs:aP K "sets" "Step.sets" DU u.zd u.Ly
 wI:Binds K u.Ly ["self"] []
 aim:aP K "sets" "Set.sets" DV u.U1 u.KR
 LH:Binds K u.KR ["self"] []
 aik:aP K "sets" "Swap.sets" DA u.U0 u.KQ
 LG:Binds K u.KQ ["self"] []
 ahn:Meth K t.jt "sets" u.zd
 aho:Meth K t.ju "sets" u.zd
 ahm:Meth K t.ir "sets" u.U1
 afB:Meth K t.iL "sets" u.zd
 afz:Meth K t.jc "sets" u.U0
 adV:Meth K t.pB "sets" u.zd
 afA:Meth K t.iK "sets" u.zd
theorem jP.st{K:W.Frag}{mg:Str->Option Value}{t:aW}{u:lu}(T:jP K mg t u):qA K mg t:=T.ob.st
def setB(s:Tl):Option Nat:=if s.1 = "set" then s.2.head? else none
def dh(s:Tl)(i:Nat):List Nat:=if s.1 = "skip" then L5.two (i+1) (s.2.getD 1 0) else [i+1]
def jb(s:Tl):Option Nat:=if s.1 = "look" then s.2[1]? else none
def nU(s:Tl):Option Nat:=if s.1 = "set" then s.2.head? else if s.1 = "swap" then s.2[1]? else none
def jx(i:Nat)(s:Tl):L5.Sp:=⟨setB s,iJ s,dh s i⟩
theorem AO(ns:List Nat):setB ("put",ns)=none:=by kernel_rfl
theorem SG(ns:List Nat)(i:Nat):dh ("put",ns) i=[i+1]:=by kernel_rfl
theorem ID(ns:List Nat):jb ("put",ns)=none:=by kernel_rfl
theorem acd(ns:List Nat):nU ("put",ns)=none:=by kernel_rfl
theorem AQ(ns:List Nat):setB ("add",ns)=none:=by kernel_rfl
theorem SH(ns:List Nat)(i:Nat):dh ("add",ns) i=[i+1]:=by kernel_rfl
theorem IE(ns:List Nat):jb ("add",ns)=none:=by kernel_rfl
theorem ace(ns:List Nat):nU ("add",ns)=none:=by kernel_rfl
theorem set_set(ns:List Nat):setB ("set",ns)=ns.head?:=by kernel_rfl
theorem SE(ns:List Nat)(i:Nat):dh ("set",ns) i=[i+1]:=by kernel_rfl
theorem IC(ns:List Nat):jb ("set",ns)=none:=by kernel_rfl
theorem acb(ns:List Nat):nU ("set",ns)=ns.head?:=by kernel_rfl
theorem AE(ns:List Nat):setB ("look",ns)=none:=by kernel_rfl
theorem RF(ns:List Nat)(i:Nat):dh ("look",ns) i=[i+1]:=by kernel_rfl
theorem HI(ns:List Nat):jb ("look",ns)=ns[1]?:=by kernel_rfl
theorem aa7(ns:List Nat):nU ("look",ns)=none:=by kernel_rfl
theorem AB(ns:List Nat):setB ("swap",ns)=none:=by kernel_rfl
theorem RE(ns:List Nat)(i:Nat):dh ("swap",ns) i=[i+1]:=by kernel_rfl
theorem HF(ns:List Nat):jb ("swap",ns)=none:=by kernel_rfl
theorem aa5(ns:List Nat):nU ("swap",ns)=ns[1]?:=by kernel_rfl
theorem Av(ns:List Nat):setB ("clear",ns)=none:=by kernel_rfl
theorem QQ(ns:List Nat)(i:Nat):dh ("clear",ns) i=[i+1]:=by kernel_rfl
theorem Ho(ns:List Nat):jb ("clear",ns)=none:=by kernel_rfl
theorem aap(ns:List Nat):nU ("clear",ns)=none:=by kernel_rfl
theorem AD(ns:List Nat):setB ("skip",ns)=none:=by kernel_rfl
theorem Jn(ns:List Nat)(i:Nat):dh ("skip",ns) i=L5.two (i+1) (ns.getD 1 0):=by kernel_rfl
theorem HG(ns:List Nat):jb ("skip",ns)=none:=by kernel_rfl
theorem aa6(ns:List Nat):nU ("skip",ns)=none:=by kernel_rfl
theorem RN{t:aW}{u:lu}(T:jP K mg t u){z a dx:Addr}{H:Hp}{s:Tl}{sz:Nat}(g:cA sz s)(hz:H z=some (.ins (cb t s.1) dx (cW (.ref a) s.1 (s.2.map λ(n:Nat)=>V.int (n:Int))))):∃C:Addr,fX K H (.ref z) (.ref C)/\W.kitOne K (.ref C) (.ref t.ir)=some (setB s).isSome:=by
 refine ay (A8 T.ob g hz) λC ty c=>⟨C,ty,?_⟩;rw[c.UR];cases g <;> kernel_rfl
theorem adf{t:aW}{u:lu}(T:jP K mg t u){z a dx:Addr}{H:Hp}{s:Tl}{sz:Nat}(g:cA sz s)(hz:H z=some (.ins (cb t s.1) dx (cW (.ref a) s.1 (s.2.map λ(n:Nat)=>V.int (n:Int))))):∃C:Addr,fX K H (.ref z) (.ref C)/\W.kitOne K (.ref C) (.ref t.iL)=some (jb s).isSome:=by
 refine ay (A8 T.ob g hz) λC ty c=>⟨C,ty,?_⟩;rw[c.TB];cases g <;> kernel_rfl
theorem RI:∀{zs:List Int},(∀x∈zs,0<=x)->∃ks:List Nat,zs=ks.map λ(n:Nat)=>(n:Int)
 | [],_=>⟨[],rfl⟩
 | z::zs,h=>by
  obtain⟨ks,e⟩:=RI (zs:=zs) λx hx=>h x (dJ _ hx);have h0:=h z (by simp);exact⟨z.toNat::ks,by rw[iz,<-e,YW h0]⟩
theorem acQ{t:aW}{u:lu}(T:jP K mg t u){z a dx:Addr}{H:Hp}{s:Tl}{sz:Nat}(i:Nat)(g:cA sz s)(hz:H z=some (.ins (cb t s.1) dx (cW (.ref a) s.1 (s.2.map λ(n:Nat)=>V.int (n:Int))))) :
  ∃C f fd pn sp,H z=some (.ins C dx (cW (.ref a) s.1 (s.2.map λ(n:Nat)=>V.int (n:Int))))/\dj K C/\Meth K C "nexts" f/\ao P w K mg base au 1 f fd pn sp/\Binds K fd pn []/\∀(Q:VK) (E:XK),(∀l H',ah H H'->H l=none->H' l=some (.lst ((dh s i).map λ(n:Nat)=>V.int (n:Int)))->Q (.ref l) H')->sp [.ref z,.int (i:Int)] H Q E:=by
 have one:∀(Q:VK),(∀l H',ah H H'->H l=none->H' l=some (.lst ((dh s i).map λ(n:Nat)=>V.int (n:Int)))->Q (.ref l) H')->∀(l:Addr),H l=none->dh s i=[i+1]->Q (.ref l) (upd H l (.lst [.int ((i:Int)+1)])):=λQ q l hl hm=>
  q l _ (aI (ah.refl H) hl) hl (by rw[av,hm];rfl)
 cases g with
 | put r m h1 h2=>
  have hz:H z=some (.ins (cb t "put") dx _):=hz;rw[AV]at hz;exact⟨_,_,_,_,_,hz,T.st.su,T.ahU,yf T.yM,T.uB,λQ E q=>⟨z,(i:Int),rfl,λl hl=>one Q q l hl (SG _ _)⟩⟩
 | add r m h1 h2=>
  have hz:H z=some (.ins (cb t "add") dx _):=hz;rw[AW]at hz;exact⟨_,_,_,_,_,hz,T.st.qI,T.ahV,yf T.yM,T.uB,λQ E q=>⟨z,(i:Int),rfl,λl hl=>one Q q l hl (SH _ _)⟩⟩
 | set r m h1 h2=>
  have hz:H z=some (.ins (cb t "set") dx _):=hz;rw[tP]at hz;exact⟨_,_,_,_,_,hz,T.st.kJ,T.ahT,yf T.yM,T.uB,λQ E q=>⟨z,(i:Int),rfl,λl hl=>one Q q l hl (SE _ _)⟩⟩
 | look r m h1 h2=>
  have hz:H z=some (.ins (cb t "look") dx _):=hz;rw[vA]at hz;exact⟨_,_,_,_,_,hz,T.st.lK,T.af2,yf T.yM,T.uB,λQ E q=>⟨z,(i:Int),rfl,λl hl=>one Q q l hl (RF _ _)⟩⟩
 | swap r m h1 h2=>
  have hz:H z=some (.ins (cb t "swap") dx _):=hz;rw[AG]at hz;exact⟨_,_,_,_,_,hz,T.st.mQ,T.af0,yf T.yM,T.uB,λQ E q=>⟨z,(i:Int),rfl,λl hl=>one Q q l hl (RE _ _)⟩⟩
 | clear=>
  have hz:H z=some (.ins (cb t "clear") dx _):=hz;rw[CS]at hz;exact⟨_,_,_,_,_,hz,T.st.vE,T.aeM,yf T.yM,T.uB,λQ E q=>⟨z,(i:Int),rfl,λl hl=>one Q q l hl (QQ _ _)⟩⟩
 | skip r m h1 h2 h3=>
  have hz:H z=some (.ins (cb t "skip") dx _):=hz;rw[AH]at hz;refine⟨_,_,_,_,_,hz,T.st.pA,T.af1,ZO T.ags T.sorted T.set,T.K1,λQ E q=>⟨z,_,dx,_,(i:Int),(m:Int),rfl,hz,T.st.pA,T.st.DJ,?_,λH' l zs s1 hl h4 hp hs=>?_⟩⟩
  ·show (cW (.ref a) "skip" [V.int (r:Int),V.int (m:Int)]).lookup ("place" : Str)=some (.int (m:Int));unfold cW;rw[if_neg dk,if_neg dk,if_neg dk,if_neg dk,if_neg dk,if_neg dk,dn,if_pos rfl];rfl
  ·have jS:∀x,x∈zs↔x=(i:Int)+1\/x=(m:Int):=λx=>by
    rw[hp.mem_iff,acB];simp
   obtain⟨ks,hk⟩:=RI (zs:=zs) λx hx=>by
    rcases(jS x).mp hx with e | e <;> omega
   subst hk
   have e:ks=L5.two (i+1) m:=L5.P6 (by
     rw[Co]at hs;exact hs.imp λh=>om) (L5.ab9 _ _) λa=>by
    rw[L5.yj]
    have e1:a∈ks↔(a:Int)∈ks.map λ(n:Nat)=>(n:Int):=by
     rw[jJ];constructor
     ·intro h;exact⟨a,h,rfl⟩
     ·rintro⟨b,hb,e⟩;have:b=a:=om;rw[<-this];exact hb
    rw[e1,jS];omega
   subst e;refine q l H' s1 hl ?_;rw[h4,lF,Jn];rfl
def Br:Option Nat->V
 | none=>.aE
 | some n=>.int (n:Int)
theorem ad1{t:aW}{u:lu}(T:jP K mg t u){z a dx:Addr}{H:Hp}{s:Tl}{sz:Nat}(g:cA sz s)(hz:H z=some (.ins (cb t s.1) dx (cW (.ref a) s.1 (s.2.map λ(n:Nat)=>V.int (n:Int))))) :
  ∃C f fd pn sp,H z=some (.ins C dx (cW (.ref a) s.1 (s.2.map λ(n:Nat)=>V.int (n:Int))))/\dj K C/\Meth K C "sets" f/\ao P w K mg base au 1 f fd pn sp/\Binds K fd pn []/\∀(Q:VK) (E:XK),Q (Br (nU s)) H->sp [.ref z] H Q E:=by
 cases g with
 | put r m h1 h2=>
  rw[acd];have hz:H z=some (.ins (cb t "put") dx _):=hz;rw[AV]at hz;exact⟨_,_,_,_,_,hz,T.st.su,T.ahn,AS T.Bs,T.wI,λQ E q=>⟨z,rfl,q⟩⟩
 | add r m h1 h2=>
  rw[ace];have hz:H z=some (.ins (cb t "add") dx _):=hz;rw[AW]at hz;exact⟨_,_,_,_,_,hz,T.st.qI,T.aho,AS T.Bs,T.wI,λQ E q=>⟨z,rfl,q⟩⟩
 | set r m h1 h2=>
  rw[acb];have hz:H z=some (.ins (cb t "set") dx _):=hz;rw[tP]at hz;refine⟨_,_,_,_,_,hz,T.st.kJ,T.ahm,aev T.aim,T.LH,λQ E q=>⟨z,_,dx,_,.int (r:Int),rfl,hz,T.st.kJ,T.st.tZ,?_,q⟩⟩;show (aG "reg" (V.int (m:Int)) (aG "name" (V.int (r:Int)) (aG "parts" (.ref a) []))).lookup ("name" : Str)=some (V.int (r:Int));rw[dn,if_neg dk,dn,if_pos rfl]
 | look r m h1 h2=>
  rw[aa7];have hz:H z=some (.ins (cb t "look") dx _):=hz;rw[vA]at hz;exact⟨_,_,_,_,_,hz,T.st.lK,T.afB,AS T.Bs,T.wI,λQ E q=>⟨z,rfl,q⟩⟩
 | swap r m h1 h2=>
  rw[aa5];have hz:H z=some (.ins (cb t "swap") dx _):=hz;rw[AG]at hz;refine⟨_,_,_,_,_,hz,T.st.mQ,T.afz,acD T.aik,T.LG,λQ E q=>⟨z,_,dx,_,.int (m:Int),rfl,hz,T.st.mQ,T.st.A6,?_,q⟩⟩;show (aG "name" (V.int (m:Int)) (aG "reg" (V.int (r:Int)) (aG "parts" (.ref a) []))).lookup ("name" : Str)=some (V.int (m:Int));rw[dn,if_pos rfl]
 | clear=>
  rw[aap];have hz:H z=some (.ins (cb t "clear") dx _):=hz;rw[CS]at hz;exact⟨_,_,_,_,_,hz,T.st.vE,T.adV,AS T.Bs,T.wI,λQ E q=>⟨z,rfl,q⟩⟩
 | skip r m h1 h2 h3=>
  rw[aa6];have hz:H z=some (.ins (cb t "skip") dx _):=hz;rw[AH]at hz;exact⟨_,_,_,_,_,hz,T.st.pA,T.afA,AS T.Bs,T.wI,λQ E q=>⟨z,rfl,q⟩⟩
theorem HH{t:aW}{a:Addr}{r m:Nat}:(cW (.ref a) "look" [V.int (r:Int),V.int (m:Int)]).lookup ("name" : Str)=some (V.int (m:Int)):=by
 show (aG "name" (V.int (m:Int)) (aG "reg" (V.int (r:Int)) (aG "parts" (.ref a) []))).lookup ("name" : Str)=some (V.int (m:Int));rw[dn,if_pos rfl]
theorem QJ{t:aW}{a:Addr}{r m:Nat}:(cW (.ref a) "set" [V.int (r:Int),V.int (m:Int)]).lookup ("name" : Str)=some (V.int (r:Int)):=by
 show (aG "reg" (V.int (m:Int)) (aG "name" (V.int (r:Int)) (aG "parts" (.ref a) []))).lookup ("name" : Str)=some (V.int (r:Int));rw[dn,if_neg dk,dn,if_pos rfl]
end TL
namespace L2
open PySem PySem.Spec PyProof.Rows
def Seq(H:Hp)(l:Addr)(xs:List V):Prop:=H l=some (.lst xs)\/H l=some (.tup xs)
theorem Seq.same{H H':Hp}{l:Addr}{xs:List V}(h:Seq H l xs)(s:ah H H'):Seq H' l xs:=h.imp (s _ _) (s _ _)
def UM(K:W.Frag):R2:=λx y H Q=>yE K x y H Q\/yD K x y H Q
theorem J9{X:Cx}(K:W.Frag)(h:X.K=K:=by rfl):zl X (UM K):=by
 subst h;intro value slice p_ s σ H x y v u Q I rx ry h hs;rcases h with h | h
 ·exact cO value slice p_ s σ H x y v u Q I rx ry h hs
 ·exact cu value slice p_ s σ H x y v u Q I rx ry h hs
theorem JE{K:W.Frag}{H:Hp}{l:Addr}{xs:List V}{i:Int}{v:V}{Q:VK}(h:Seq H l xs)(e:fw xs i=some v)(q:Q v H):UM K (.ref l) (.int i) H Q:=
 h.elim (λh=>.inl ⟨l,_,_,_,rfl,rfl,aq.of h,e,q⟩) λh=>.inr ⟨l,_,_,_,rfl,rfl,ar.of h,e,q⟩
end L2
namespace TL
open PySem PySem.Spec PyProof.Rows PySem.SeqAt L2 L3 L4
variable{P:Program}{w:World}{K:PySem.W.Frag}{mg:Str->Option Value}{base:Heap}
abbrev nV(n:Nat):V:=.int (n:Int)
theorem AX(a b:Nat):xO (a:Int) (b:Int)=((a ||| b:Nat):Int):=by
 rw[bitOr_and,bitAnd_pp (tf a) (tf b),gy,gy];have:=nat_or_add_and a b;omega
theorem C8(a b:Nat):qd (a:Int) (b:Int)=((a &&& b:Nat):Int):=by
 rw[bitAnd_pp (tf a) (tf b),gy,gy]
theorem Di(m:Nat):(1:Int)*(2:Int)^(m:Int).toNat=((1 <<< m:Nat):Int):=by
 rw[gy,Zb,Int.one_mul];simp
def gD(s:Tl)(a:Nat):Nat:=L5.behind ⟨setB s,iJ s,[]⟩ a
theorem tI{k:Nat}{x y:V}{σ:L2.St}{H:Hp}{Q:L2.St->Hp->Prop}(e:x=y)(h:iX k y σ H Q):iX k x σ H Q:=by rw[e];exact h
def Jy:Sp:=λvs H Q _=>∃a m:Nat,vs=[nV a,nV m]/\m<12/\Q (nV (a ||| (1 <<< m))) H
theorem afD:aZ ["names","name"] ["names","name"] (aM Kq):=a8
theorem aex{f:Addr}{fd:aQ}(F:aP K "with_name" "with_name" Kq f fd):ao P w K mg base au 1 f fd ["names","name"] Jy:=by
 refine F.ok afD (λvs H Q E h=>?_) λaD A _ s H vs Q E hr h=>?_
 ·obtain⟨a,m,rfl,_⟩:=h;rfl
 ·obtain⟨a,m,rfl,hm,k⟩:=h;refine⟨_,ax (aS (aT Bb (pv 0) (aT A4 aw (pv 1)))),?_⟩;refine⟨_,rfl,_,rfl,_,_,rfl,rfl,⟨om,om,qc⟩,_,_,rfl,rfl,?_⟩;show Q (V.int (xO (a:Int) ((1:Int)*(2:Int)^(m:Int).toNat))) H;rw[Di,AX];exact k
def Hy:Sp:=λvs H Q _=>∃a b:Nat,vs=[nV a,nV b]/\Q (nV (a-(a &&& b))) H
theorem aba:aZ ["names","others"] ["names","others"] (aM Ig):=a8
theorem aax{f:Addr}{fd:aQ}(F:aP K "without_all" "without_all" Ig f fd):ao P w K mg base au 1 f fd ["names","others"] Hy:=by
 refine F.ok aba (λvs H Q E h=>?_) λaD A _ s H vs Q E hr h=>?_
 ·obtain⟨a,b,rfl,_⟩:=h;rfl
 ·obtain⟨a,b,rfl,k⟩:=h;refine⟨_,ax (aS (aT SD (pv 0) (aT A5 (pv 0) (pv 1)))),?_⟩;refine⟨_,rfl,_,rfl,_,rfl,_,_,rfl,rfl,_,_,rfl,rfl,?_⟩;have hle:a &&& b<=a:=Gs;have e:(a:Int)-((a &&& b:Nat):Int)=((a-(a &&& b):Nat):Int):=om;show Q (V.int ((a:Int)-qd (a:Int) (b:Int))) H;rw[C8,e];exact k
def HZ(t:aW):Sp:=λvs H Q _=>∃(v:V) (s:Tl) (sz a:Nat),vs=[v,nV a]/\iY t H v s/\cA sz s/\Q (nV (gD s a)) H
theorem acr:aZ ["step","names"] ["step","names"] (aM Jk):=a8
theorem abu{t:aW}{u:lu}(T:jP K mg t u){f fW:Addr}{fd eM:aQ}(F:aP K "names_behind" "names_behind" Jk f fd)(GW:ao P w K mg base au 1 fW eM ["names","name"] Jy)(kW:W.keepIn K (.ref fW)=true)(bW:Binds K eM ["names","name"] [])(mW:mg "with_name" = some (.ref fW)) :
  ao P w K mg base au 2 f fd ["step","names"] (HZ t):=by
 refine F.ok acr (λvs H Q E h=>?_) λaD A _ s H vs Q E hr h=>?_
 ·obtain⟨v,s,sz,a,rfl,_⟩:=h;rfl
 ·obtain⟨v,st,sz,n,rfl,⟨z,a,dx,rfl,hz⟩,hg,k⟩:=h;refine⟨_,aA (bQ (dD (Iw (k:=1) (CX:=au) (E:=E0) (P:=P) (w:=w) (K:=K) (mg:=mg) (base:=base) (pv 0) hr aO)) (ax (aS aw)) cq) (aA (bQ (dD (bp iB rfl T.st.bl.hG iw (ae (pv 0) (ae (eE (v:=.ref t.ir) rfl T.st.D3 rfl) af)))) (ax (aS (bx GW hr rfl mW kW bW .nil aO (ae (pv 1) (ae (bf (pv 0) rfl) af))))) cq) (ax (aS (pv 1)))),?_⟩;have no:=tO "empties" dk (.ref a) st.1 (st.2.map λ(n:Nat)=>V.int (n:Int));obtain⟨C1,ty,one⟩:=RN T hg hz;obtain⟨C,f1,Ca,pn,sp,hc,cl,me,G,bi,q⟩:=S4 (P:=P) (w:=w) (base:=base) (mg:=mg) T.ob hg hz;refine⟨_,rfl,z,C,dx,_,f1,Ca,pn,sp,rfl,hc,no,cl,me,G,bi,q _ _ ?_⟩
  ·refine⟨_,rfl,lP (λhk=>?_) λhk=>?_⟩
   ·have e:gD st n=0:=by unfold gD L5.behind;rw[if_pos hk]
    rw[e]at k;exact k
   ·refine⟨_,rfl,_,_,_,_,_,rfl,ty,rfl,one,_,rfl,lP (λhs=>?_) λhs=>?_⟩
    ·cases hg with
     | set nm r h1 h2=>
      have sR:H z=some (.ins (cb t "set") dx (cW (.ref a) "set" [V.int (nm:Int),V.int (r:Int)])):=hz;rw[tP]at sR;refine⟨_,rfl,_,rfl,z,_,dx,_,.int (nm:Int),rfl,sR,T.st.kJ,T.st.tZ,?_,n,nm,rfl,h1,?_⟩
      ·unfold cW;rw[if_neg dk,if_neg dk,if_pos rfl,dn,if_neg dk,dn,if_pos rfl];rfl
      ·have e:gD ("set",[nm,r]) n=n ||| (1 <<< nm):=by unfold gD L5.behind;rw[C2,set_set];rfl
       rw[e]at k;exact k
     | put=>rw[AO]at hs;cases hs
     | add=>rw[AQ]at hs;cases hs
     | look=>rw[AE]at hs;cases hs
     | swap=>rw[AB]at hs;cases hs
     | clear=>rw[Av]at hs;cases hs
     | skip=>rw[AD]at hs;cases hs
    ·have e:gD st n=n:=by
      unfold gD L5.behind;rw[hk]
      have:setB st=none:=by cases h:setB st with
       | none=>rfl
       | some m=>rw[h]at hs;cases hs
      rw[this];rfl
     rw[e]at k;exact⟨_,rfl,k⟩
theorem RW(a m:Nat):qd ((a:Int)/(2:Int)^(m:Int).toNat) 1=((a.testBit m).toNat:Int):=by
 have e:(a:Int)/(2:Int)^(m:Int).toNat=((a/2^m:Nat):Int):=by
  rw[gy];simp
 rw[e,show (1:Int)=((1:Nat):Int) from rfl,C8,L5.afl]
theorem afe(b:Bool):decide (V.int (b.toNat:Int)=V.int 1)=b:=by cases b <;> decide
def JA:Sp:=λvs H Q _=>∃a m:Nat,vs=[nV a,nV m]/\Q (.bl (a.testBit m)) H
theorem afK:aZ ["names","name"] ["names","name"] (aM Kt):=a8
theorem aeD{f:Addr}{fd:aQ}(F:aP K "has_name" "has_name" Kt f fd):ao P w K mg base au 1 f fd ["names","name"] JA:=by
 refine F.ok afK (λvs H Q E h=>?_) λaD A _ s H vs Q E hr h=>?_
 ·obtain⟨a,m,rfl,_⟩:=h;rfl
 ·obtain⟨a,m,rfl,k⟩:=h;refine⟨_,ax (aS (qt dE (aT A5 (aT JW (pv 0) (pv 1)) aw) aw (bX _))),?_⟩;refine⟨_,rfl,_,rfl,_,_,rfl,rfl,(by show (0:Int)<=(m:Int);omega),_,_,rfl,rfl,rfl,?_⟩;show Q (.bl (decide (V.int (qd ((a:Int)/(2:Int)^(m:Int).toNat) 1)=V.int 1))) H;rw[RW,afe];exact k
def DT:Sp:=λvs H Q _=>∃a m:Nat,vs=[nV a,nV m]/\m<12/\Q (nV (a-(a &&& (1 <<< m)))) H
theorem ahr:aZ ["names","name"] ["names","name"] (aM Lo):=a8
theorem afV{f fO:Addr}{fd f6:aQ}(F:aP K "without_name" "without_name" Lo f fd)(GO:ao P w K mg base au 1 fO f6 ["names","others"] Hy)(kO:W.keepIn K (.ref fO)=true)(bO:Binds K f6 ["names","others"] [])(mO:mg "without_all" = some (.ref fO)) :
  ao P w K mg base au 2 f fd ["names","name"] DT:=by
 refine F.ok ahr (λvs H Q E h=>?_) λaD A _ s H vs Q E hr h=>?_
 ·obtain⟨a,m,rfl,_⟩:=h;rfl
 ·obtain⟨a,m,rfl,hm,k⟩:=h;refine⟨_,ax (aS (bx GO hr rfl mO kO bO .nil aO (ae (pv 0) (ae (aT A4 aw (pv 1)) af)))),?_⟩;refine⟨_,rfl,_,rfl,_,_,rfl,rfl,⟨om,om,qc⟩,a,1 <<< m,?_,k⟩;show [V.int (a:Int),V.int ((1:Int)*(2:Int)^(m:Int).toNat)]=_;rw[Di]
theorem abX:rW "min" = some (.builtin "min"):=dk
def Rr:Sp:=λvs H Q _=>∃a:Nat,vs=[nV a]/\a≠0/\a<4096/\∀(M:Nat) (H':Hp),ah H H'->M<12->a.testBit M=true->(∀b,b<12->a.testBit b=true->M<=b)->Q (nV M) H'
theorem aee:aZ ["names"] ["names"] (aM JL):=a8
theorem ahY:(["names","name"]:List Str).Nodup:=dk
theorem afd{a:Nat}(h0:a≠0)(h:a<4096):∃k,k<12/\a.testBit k=true:=by
 apply NZ;intro z;apply h0;apply Gb;intro k;rw[Nat.zero_testBit]
 by_cases hk:k<12
 ·cases e:a.testBit k with
  | false=>rfl
  | true=>exact absurd ⟨k,hk,e⟩ z
 ·exact N7 (eB h (by simpa using Oc (by decide:0<2) (Nat.le_of_not_lt hk)))
theorem acM{f fH:Addr}{fd lZ:aQ}(F:aP K "least_name" "least_name" JL f fd)(C:Cn mg)(dH:mg "range" = none)(hmn:mg "min" = none)(GH:ao P w K mg base au 1 fH lZ ["names","name"] JA)(kH:W.keepIn K (.ref fH)=true)(bH:Binds K lZ ["names","name"] [])(mH:mg "has_name" = some (.ref fH)) :
  ao P w K mg base au 2 f fd ["names"] Rr:=by
 refine F.ok aee (λvs H Q E h=>?_) λaD A _ s H vs Q E hr h=>?_
 ·obtain⟨a,rfl,_⟩:=h;rfl
 ·obtain⟨a,rfl,h0,h4,k⟩:=h;obtain⟨uN,mN,rN⟩:=C.names
  refine⟨_,ax (aS (bp (abT rfl) rfl hmn abX (ae (gh (N:=["names","name"]) (idx:=[0]) rfl (c9.of (by kernel_rfl)) (gC (aB _)) (jk rfl dH (ae (eE (v:=.int 12) rfl mN rN) af))
   (λ_ _ _ _=>br (i:=1) ahY rfl (aN rfl) (.inr rfl)) (λ_ _ _ _=>yk (dD (bx GH hr rfl mH kH bH .nil aO (ae (pv 0) (ae (pv 1) af))))) λ_ _ _ _=>pv 1) af))),?_⟩
  refine⟨12,rfl,qc,qc,?_⟩;refine fk (n:=12) (λj ys H'=>H'=H/\ys=((List.range j).filter a.testBit).map nV) ?_ ?_ ?_ ?_ ?_ ?_ ?_
  ·exact cg (cx om)
  ·exact⟨rfl,rfl⟩
  ·rintro j ys H' ⟨_,e⟩;rw[e,aH];have:=sX a.testBit (List.range j);rw[rK]at this;exact this
  ·rintro j ys H' hj _;exact hj
  ·rintro ys H' _;exact aB _
  ·rintro j ys H' hj ⟨rfl,e⟩ x gd ⟨eH,ex⟩;subst eH;subst ex;refine tI (y:=nV j) (by show V.int (0+(j:Int))=V.int (j:Int);rw[oW]) ?_;refine⟨_,rfl,_,rfl,a,j,rfl,_,rfl,lP (λh=>?_) λh=>?_⟩
   ·refine⟨_,rfl,rfl,?_⟩;rw[oS,xy,gf,<-e,F9 h];rfl
   ·refine⟨rfl,?_⟩;rw[oS,xy,gf,<-e,F' (by rw[h];exact dg)];simp
  ·rintro ys H' ⟨rfl,e⟩
   have hlen:ys.length<=12:=by
    rw[e,aH];have:=sX a.testBit (List.range 12);rw[rK]at this;exact this
   refine⟨cg (cx om),λr cH=>?_⟩;have ey:ys=(((List.range 12).filter a.testBit).map λ(n:Nat)=>(n:Int)).map V.int:=by rw[e,lF];rfl
   refine⟨r,((List.range 12).filter a.testBit).map λ(n:Nat)=>(n:Int),rfl,aq.of (by rw[av,ey]),λz=>?_,λM hM hle=>?_⟩
   ·obtain⟨b,p3,Nx⟩:=afd h0 h4;have:b∈(List.range 12).filter a.testBit:=mf.mpr ⟨iN.mpr p3,Nx⟩;rw[List.map_eq_nil_iff]at z;rw[z]at this;cases this
   ·obtain⟨m,hm,rfl⟩:=jJ.mp hM;obtain⟨q1,q2⟩:=mf.mp hm;refine k m _ (aI (ah.refl _) cH) (iN.mp q1) q2 λb p3 Nx=>?_;have:=hle (b:Int) (jJ.mpr ⟨b,mf.mpr ⟨iN.mpr p3,Nx⟩,rfl⟩);omega
def lL(s:Tl)(i:Nat)(row:List Nat):List Nat:=(dh s i).filter λa=>decide (gD s (row.getD i 0)-(gD s (row.getD i 0) &&& row.getD a 0)≠0)
theorem afZ(s:Tl)(i:Nat):(dh s i).length<=2:=by
 unfold dh L5.two
 split
 ·split
  ·simp
  ·split <;> simp
 ·simp
def Jz(t:aW):Sp:=λvs H Q _=>∃(v:V) (s:Tl) (sz i:Nat) (l:Addr) (row:List Nat),vs=[v,nV i,.ref l]/\iY t H v s/\cA sz s/\Seq H l (row.map nV)/\i<row.length/\(∀a∈dh s i,a<row.length)/\
 ∀(l':Addr) (H':Hp),ah H H'->H l'=none->H' l'=some (.lst ((lL s i row).map nV))->Q (.ref l') H'
theorem Sr:aZ ["step","place","row","behind"] ["step","place","row"] (aM Io):=a8
theorem af6:(["behind","row","after"]:List Str).Nodup:=dk
theorem mU{row:List Nat}{i:Nat}(h:i<row.length):fw (row.map nV) (i:Int)=some (nV (row.getD i 0)):=by
 refine cD ?_;rw[eJ,aR h,dI,aR h];rfl
theorem aeC{t:aW}{u:lu}(T:jP K mg t u){f fB fO:Addr}{fd i3 f6:aQ}(F:aP K "places_lacking" "places_lacking" Io f fd)(GB:ao P w K mg base au 2 fB i3 ["step","names"] (HZ t))(kB:W.keepIn K (.ref fB)=true)(bB:Binds K i3 ["step","names"] [])(mB:mg "names_behind" = some (.ref fB))
  (GO:ao P w K mg base au 1 fO f6 ["names","others"] Hy) (kO:W.keepIn K (.ref fO)=true) (bO:Binds K f6 ["names","others"] []) (mO:mg "without_all" = some (.ref fO)) :
  ao P w K mg base au 3 f fd ["step","place","row"] (Jz t):=by
 refine F.ok Sr (λvs H Q E h=>?_) λaD A _ s H vs Q E hr h=>?_
 ·obtain⟨v,s,sz,i,l,row,rfl,_⟩:=h;rfl
 ·obtain⟨v,st,sz,i,l,row,rfl,ho,hg,hl,hi,xj,k⟩:=h;have dQ:=hr.mono (show 1<=2 by decide)
  refine⟨_,aA (cC (i:=3) Sr.nd rfl (nR rfl) (bx GB hr rfl mB kB bB .nil aO (ae (pv 0) (ae (aJ (J9 K) (pv 2) (pv 1)) af)))) (ax (aS (gh (N:=["behind","row","after"]) (idx:=[3,2]) rfl (c9.of (by kernel_rfl)) (gC (aB _))
    (o7 (abh (k:=1) (CX:=au) (E:=E0) (P:=P) (w:=w) (K:=K) (mg:=mg) (base:=base) (pv 0) dQ aO (ae (pv 1) af)))
    (λ_ _ _ _=>br (i:=2) af6 rfl (aN rfl) (.inr rfl))
    (λ_ _ _ _=>yk (cy yz (bx GO dQ rfl mO kO bO .nil aO (ae (pv 0) (ae (aJ (J9 K) (pv 1) (pv 2)) af))) aw (bX _)))
    λ_ _ _ _=>pv 2))),?_⟩
  refine⟨_,rfl,_,rfl,_,rfl,JE hl (mU hi) ⟨_,st,sz,_,rfl,ho,hg,?_⟩⟩;obtain⟨z,a,dx,rfl,hz⟩:=ho;have no:=tO "nexts" dk (.ref a) st.1 (st.2.map λ(n:Nat)=>V.int (n:Int));generalize hb:gD st (row.getD i 0)=b;obtain⟨C,f1,Ca,pn,sp,hc,cl,me,G,bi,q⟩:=acQ (P:=P) (w:=w) (base:=base) (mg:=mg) T i hg hz;refine⟨_,rfl,z,C,dx,_,f1,Ca,pn,sp,rfl,hc,no,cl,me,G,bi,_,rfl,q _ _ λlz H1 s1 n1 h1=>?_⟩;have nC:=afZ st i;refine⟨lz,rfl,⟨_,aq.of h1⟩,?_⟩;have Er:=hl.same s1
  let ok:Nat->Bool:=λa=>decide (b-(b &&& row.getD a 0)≠0)
  refine fk (n:=((dh st i).map nV).length) (λm ys H'=>H'=H1/\ys=(((dh st i).take m).filter ok).map nV) ?_ ?_ ?_ ?_ ?_ ?_ ?_
  ·exact cg (cx (by rw[aH];omega))
  ·exact⟨rfl,rfl⟩
  ·rintro m ys H' ⟨_,e⟩;rw[e,aH];have:=sX ok ((dh st i).take m);rw[gz]at this;omega
  ·rintro m ys H' uQ ⟨rfl,_⟩;exact⟨_,_,aq.of h1,aR uQ⟩
  ·rintro ys H' ⟨rfl,_⟩;exact⟨_,aq.of h1,aB _⟩
  ·rintro m ys H' uQ ⟨rfl,e⟩ x gd ⟨eH,gc⟩;subst eH;have hx:=gc _ (aq.of h1);rw[aH]at uQ;rw[eJ,aR uQ]at hx;cases hx;have jS:(dh st i)[m]∈dh st i:=rQ uQ;have cI:=xj _ jS;refine⟨_,rfl,_,rfl,_,rfl,JE Er (mU cI) ⟨b,_,rfl,rfl,_,rfl,?_⟩⟩;have et:(dh st i).take (m+1)=(dh st i).take m++[(dh st i)[m]]:=by rw[kv,aR uQ];rfl
   rw[et,xy,gf];refine D4 (λh=>?_) λh=>?_
   ·have ho:ok (dh st i)[m]=true:=decide_eq_true λz=>h (by rw[z];rfl);refine⟨_,rfl,rfl,?_⟩;rw[e,F9 ho];rfl
   ·have ho:ok (dh st i)[m]=false:=decide_eq_false λz=>z (by
     injection h with h
     omega)
    refine⟨rfl,?_⟩;rw[e,F' (by rw[ho];exact dg)];simp
  ·rintro ys H' ⟨rfl,e⟩;rw[aH,jE (aB _)]at e;have Xj:=sX ok (dh st i);refine⟨by rw[e,aH];exact cg (cx om),λr cH=>?_⟩;refine k r _ (aI s1 cH) (s1.free cH) ?_;rw[av,e];unfold lL;rw[hb]
def vL(part:Pt)(n:Nat):Bool:=part.any λs=>decide (nU s=some n)
def m7(ps:List Pt)(n i:Nat):List Nat:=(List.range i).filter λc=>vL (ps.getD c []) n
def jT(ps:List Pt)(c n:Nat):Bool:=(m7 ps n ps.length).any λo=>!decide (o=c)
theorem PK(ps:List Pt)(n i:Nat):m7 ps n (i+1)=m7 ps n i++(if vL (ps.getD i []) n=true then [i] else []):=by
 unfold m7;rw[oS,xy]
 congr 1
 by_cases h:vL (ps.getD i []) n=true
 ·rw[if_pos h,F9 (p:=λc=>vL (ps.getD c []) n) h];rfl
 ·rw[if_neg h,F' (p:=λc=>vL (ps.getD c []) n) h];rfl
theorem IS(ps:List Pt)(n i:Nat):(m7 ps n i).length<=i:=by
 unfold m7;have h:=sX (λc=>vL (ps.getD c []) n) (List.range i);rw[rK]at h;exact h
theorem aet(o:Option Nat)(n:Nat):decide (Br o=nV n)=decide (o=some n):=by
 cases o with
 | none=>rfl
 | some m=>
  by_cases h:m=n
  ·subst h;simp[Br]
  ·have:¬Br (some m)=nV n:=λz=>h (by injection z with z;omega);rw[decide_eq_false this,decide_eq_false λz=>h (by injection z)]
theorem acA(o:Option Nat)(n:Nat):Ll (Br o) (nV n)=true:=by cases o <;> rfl
theorem Ds{n a:Nat}(h:a<n):ni n (a:Int)=some a:=by
 unfold ni;rw[if_pos om,if_pos om,gy]
def Uu:Sp:=λvs H Q _=>∃(v:V) (n:Nat) (part:Pt),vs=[v,nV n]/\IsPart H v part/\part.length<=120/\(∀t∈part,cA part.length t)/\∀H',ah H H'->Q (.bl (vL part n)) H'
theorem aj1:aZ ["part","name"] ["part","name"] (aM HB):=a8
theorem ahX:(["name","told"]:List Str).Nodup:=dk
theorem ahF{t:aW}{u:lu}(T:jP K mg t u){f:Addr}{fd:aQ}(F:aP K "part_sets" "part_sets" HB f fd)(LZ:mg "any" = none):ao P w K mg base au 5 f fd ["part","name"] Uu:=by
 have GO:ao P w K mg base au 4 t.fO t.f6 ["told"] (yd t):=Aw T.st;refine F.ok aj1 (λvs H Q E h=>?_) λaD A _ s H vs Q E hr h=>?_
 ·obtain⟨v,n,part,rfl,_⟩:=h;rfl
 ·obtain⟨v,n,part,rfl,⟨a,vs,rfl,ha,hv⟩,hl,hg,k⟩:=h
  refine⟨_,ax (aS (bp (Rf rfl) rfl LZ boot_any (ae (gh (N:=["name","told"]) (idx:=[1]) rfl (c9.of (by kernel_rfl)) (gC (aB _))
   (mz (pv 0)) (λ_ _ _ _=>br (i:=1) ahX rfl (aN rfl) (.inr rfl)) (λ_ _ _ _=>gZ)
   λ_ _ _ _=>qt dE (Iw (P:=P) (w:=w) (K:=K) (mg:=mg) (base:=base) (k:=1) (CX:=au) (E:=E0) (bx GO hr rfl T.st.mO T.st.zc.kp T.st.bO .nil aO (ae (pv 1) af)) (hr.mono qc) aO) (pv 0) (bX _)) af))),?_⟩
  have hlen:vs.length=part.length:=Paired.length hv;refine⟨_,rfl,a,rfl,⟨vs,ar.of ha⟩,?_⟩;refine fk (n:=vs.length) (λi ys H'=>i<=vs.length/\ah H H'/\ys=(part.take i).map λs=>V.bl (decide (nU s=some n))) ?_ ?_ ?_ ?_ ?_ ?_ ?_
  ·exact cg (cx om)
  ·exact⟨bU _,ah.refl _,rfl⟩
  ·rintro i ys H' ⟨hi,_,e⟩;rw[e,aH,gz];omega
  ·rintro i ys H' hi ⟨_,s1,_⟩;exact⟨vs,vs[i],ar.of (s1 _ _ ha),aR hi⟩
  ·rintro ys H' ⟨_,s1,_⟩;exact⟨vs,ar.of (s1 _ _ ha),aB _⟩
  ·rintro i ys H' hi ⟨_,s1,e⟩ z gd ⟨eH,hz⟩;subst eH;obtain⟨td,jZ,b,rfl,hb⟩:=Paired.at' hv (hz vs (ar.of (s1 _ _ ha)));have gt:=hg td (bw jZ);refine⟨_,rfl,b,td.1,td.2.map λ(n:Nat)=>V.int (n:Int),rfl,s1 _ _ hb,Ay gt,⟨by rw[aH];have:=gt.len;omega,λy hy=>?_⟩,λo dx H2 s2 _ ho=>?_⟩
   ·obtain⟨n,_,rfl⟩:=jJ.mp hy;exact⟨_,rfl⟩
   obtain⟨C,f,fd,pn,sp,hc,cl,me,G,bi,q⟩:=ad1 (P:=P) (w:=w) (base:=base) (mg:=mg) T gt ho;refine⟨o,C,dx,_,f,fd,pn,sp,rfl,hc,tO "sets" dk _ _ _,cl,me,G,bi,q _ _ ?_⟩;refine⟨_,rfl,acA _ _,hi,s1.trans s2,?_⟩;rw[aet,kv,jZ,gf,<-e];rfl
  ·rintro ys H' ⟨_,s1,e⟩;refine⟨?_,λr cH=>?_⟩
   ·rw[e,aH,gz];have:=cx (n:=part.length) om;omega
   have ey:ys=(part.map λs=>decide (nU s=some n)).map V.bl:=by
    rw[e,jE om,lF];rfl
   refine⟨r,part.map λs=>decide (nU s=some n),rfl,aq.of (by rw[av,ey]),?_⟩;rw[O2];exact k _ (aI s1 cH)
def Uq:Sp:=λvs H Q _=>∃(v:V) (n:Nat) (ps:List Pt),vs=[v,nV n]/\jo H v ps/\kQ ps/\∀l H',ah H H'->H l=none->H' l=some (.lst ((m7 ps n ps.length).map nV))->Q (.ref l) H'
theorem ajZ:aZ ["program","name"] ["program","name"] (aM Il):=a8
theorem SK:(["name","clerk","part"]:List Str).Nodup:=dk
theorem ahB{f fP:Addr}{fd p6:aQ}(F:aP K "setters" "setters" Il f fd)(p0:mg "enumerate" = none)(GP:ao P w K mg base au 5 fP p6 ["part","name"] Uu)(kP:W.keepIn K (.ref fP)=true)(bP:Binds K p6 ["part","name"] [])(mP:mg "part_sets" = some (.ref fP)) :
  ao P w K mg base au 6 f fd ["program","name"] Uq:=by
 refine F.ok ajZ (λvs H Q E h=>?_) λaD A _ s H vs Q E hr h=>?_
 ·obtain⟨v,n,ps,rfl,_⟩:=h;rfl
 ·obtain⟨v,n,ps,rfl,⟨a,vs,rfl,ha,hv⟩,hg,k⟩:=h
  refine⟨_,ax (aS (gh (N:=["name","clerk","part"]) (idx:=[1]) rfl (c9.of (by kernel_rfl)) (CI (aB _) (jL _))
   (tK (b:=false) rfl p0 (ae (pv 0) af))
   (λ_ _ _ _=>nQ rfl (gH (br (i:=1) SK rfl (aN rfl) (.inr rfl)) (gH (br (i:=2) SK rfl (aN rfl) (.inr rfl)) nO)))
   (λ_ _ _ _=>yk (dD (bx GP hr rfl mP kP bP .nil aO (ae (pv 2) (ae (pv 0) af)))))
   λ_ _ _ _=>pv 1)),?_⟩
  have hlen:vs.length=ps.length:=Paired.length hv;have hle:=hg.le;refine⟨_,rfl,a,vs,rfl,ar.of ha,?_⟩;refine fk (n:=vs.length) (λi ys H'=>i<=vs.length/\ah H H'/\ys=(m7 ps n i).map nV) ?_ ?_ ?_ ?_ ?_ ?_ ?_
  ·exact cg (cx om)
  ·exact⟨bU _,ah.refl _,rfl⟩
  ·rintro i ys H' ⟨hi,_,e⟩;rw[e,aH];exact IS ps n i
  ·rintro i ys H' hi ⟨_,s1,_⟩;exact⟨vs,vs[i],ar.of (s1 _ _ ha),aR hi⟩
  ·rintro ys H' ⟨_,s1,_⟩;exact⟨vs,ar.of (s1 _ _ ha),aB _⟩
  ·rintro i ys H' hi ⟨_,s1,e⟩ z gd ⟨p,x,hp,ez,eH,hx⟩;subst ez;subst eH;obtain⟨part,dm,Ld⟩:=Paired.at' hv (hx vs (ar.of (s1 _ _ ha)));have s2:ah H (upd H' p (.tup [.int i,x])):=aI s1 hp;obtain⟨dB,lB⟩:=hg.part part (bw dm);have ep:ps.getD i []=part:=by rw[dI,dm];rfl
   refine⟨p,[.int i,x],rfl,ar.of av,rfl,.int i,[x],rfl,x,[],rfl,rfl,?_⟩;refine⟨_,rfl,_,rfl,x,n,part,rfl,Ld.same s2,dB,lB,λH2 s3=>⟨_,rfl,lP (λh1=>?_) λh1=>?_⟩⟩
   ·refine⟨_,rfl,hi,s2.trans s3,?_⟩;rw[PK,ep,if_pos h1,gf,<-e];rfl
   ·refine⟨hi,s2.trans s3,?_⟩;rw[PK,ep,h1,if_neg dg,tu];exact e
  ·rintro ys H' ⟨_,s1,e⟩;refine⟨?_,λr cH=>k r _ (aI s1 cH) (s1.free cH) ?_⟩
   ·rw[e,aH];have h1:=IS ps n vs.length;have:=cx (n:=ps.length) om;omega
   ·rw[av,e,hlen]
def afp(ps:List Pt)(fs:List Nat):Prop:=fs.length=ps.length/\∀c,c<ps.length->∀k,(fs.getD c 0).testBit k=(decide (k<12)&&jT ps c k)
def Uc(ps:List Pt)(m j:Nat)(fs:List Nat):Prop:=fs.length=ps.length/\∀c,c<ps.length->∀k,(fs.getD c 0).testBit k=(decide (k<m\/(k=m/\c<j))&&jT ps c k)
def Tq:Sp:=λvs H Q _=>∃(v:V) (ps:List Pt),vs=[v]/\jo H v ps/\kQ ps/\∀l H' fs,ah H H'->H l=none->H' l=some (.lst (fs.map nV))->afp ps fs->Q (.ref l) H'
theorem Ba:aZ ["program","found","name","clerks","clerk"] ["program"] (aM Jd):=a8
theorem akj:(["part"]:List Str).Nodup:=dk
theorem ah2:(["clerk","setter"]:List Str).Nodup:=dk
theorem afW{f fS fW:Addr}{fd iu eM:aQ}(F:aP K "names_of_others" "names_of_others" Jd f fd)(B:Bl mg)(C:Cn mg)(dH:mg "range" = none)(LZ:mg "any" = none)
  (GS:ao P w K mg base au 6 fS iu ["program","name"] Uq) (kS:W.keepIn K (.ref fS)=true) (bS:Binds K iu ["program","name"] []) (mS:mg "setters" = some (.ref fS))
  (GW:ao P w K mg base au 1 fW eM ["names","name"] Jy) (kW:W.keepIn K (.ref fW)=true) (bW:Binds K eM ["names","name"] []) (mW:mg "with_name" = some (.ref fW)) :
  ao P w K mg base au 7 f fd ["program"] Tq:=by
 refine F.ok Ba (λvs H Q E h=>?_) λaD A _ s H vs Q E hr h=>?_
 ·obtain⟨v,ps,rfl,_⟩:=h;rfl
 ·obtain⟨v,ps,rfl,⟨a,aY,rfl,ha,hv⟩,hg,k⟩:=h;obtain⟨uN,mN,rN⟩:=C.names;have dQ:=hr.mono (show 1<=6 by decide);have hlen:aY.length=ps.length:=Paired.length hv;have hle:=hg.le
  refine⟨_,aA (Hl (i:=1) (N:=["part"]) (idx:=[]) Ba.nd rfl rfl rfl (c9.of (by kernel_rfl)) (gC (bU _)) (mz (pv 0)) (λ_ _ _ _=>br (i:=0) akj rfl (aN rfl) (.inr rfl)) (λ_ _ _ _=>gZ) λ_ _ _ _=>aw)
   (aA (ij ie rfl (jk rfl dH (ae (eE (v:=.int 12) rfl mN rN) af)) (br (i:=2) Ba.nd rfl (aN rfl)) (aA (cC (i:=3) Ba.nd rfl (aN rfl) (bx GS hr rfl mS kS bS .nil aO (ae (pv 0) (ae (pv 2) af)))) (ax (ij ie rfl (jk rfl dH (ae (bp dR rfl B.len PySem.boot_len (ae (pv 0) af)) af)) (br (i:=4) Ba.nd rfl (nR rfl)) (ax (bQ (dD (bp (Rf rfl) rfl LZ boot_any (ae (gh (N:=["clerk","setter"]) (idx:=[4]) rfl (c9.of (by kernel_rfl)) (gC (aB _)) (o7 (pv 3)) (λ_ _ _ _=>br (i:=1) ah2 rfl (aN rfl) (.inr rfl)) (λ_ _ _ _=>gZ)
       λ_ _ _ _=>qt yz (pv 1) (pv 0) (bX _)) af)))
      (ax (qw (bx GW dQ rfl mW kW bW .nil aO (ae (aJ cO (pv 1) (pv 4)) (ae (pv 2) af))) (qy (pv 1) (pv 4) set_list))) cq))))))
   (ax (aS (pv 1)))),?_⟩
  refine⟨_,rfl,a,rfl,⟨aY,ar.of ha⟩,?_⟩;refine fk (n:=aY.length) (λi ys H'=>H'=H/\ys=(cY i 0).map nV) ?_ ?_ ?_ ?_ ?_ ?_ ?_
  ·exact cg (cx om)
  ·exact⟨rfl,rfl⟩
  ·rintro i ys H' ⟨_,e⟩;rw[e,aH,xx];exact aB _
  ·rintro i ys H' hi ⟨rfl,_⟩;exact⟨aY,aY[i],ar.of ha,aR hi⟩
  ·rintro ys H' ⟨rfl,_⟩;exact⟨aY,ar.of ha,aB _⟩
  ·rintro i ys H' hi ⟨rfl,e⟩ z gd ⟨eH,hz⟩;subst eH;refine⟨rfl,?_⟩;rw[YM,gf,<-e];rfl
  rintro ys H' ⟨rfl,e⟩;refine⟨by rw[e,aH,xx];exact cg (cx om),λlf Nh=>?_⟩;have s1:=aI (o:=.lst ys) (ah.refl H') Nh;have FE:upd H' lf (.lst ys) lf=some (.lst ((cY ps.length 0).map nV)):=by rw[av,e,hlen]
  generalize upd H' lf (.lst ys)=H1 at s1 FE
  refine⟨12,rfl,qc,qc,r6 (n:=12) (λm σ H2=>∃(fs:List Nat) (x2 x3 x4:Option V),σ=[some (.ref a),some (.ref lf),x2,x3,x4]/\ah H' H2/\H2 lf=some (.lst (fs.map nV))/\Uc ps m 0 fs)
   ⟨_,none,none,none,rfl,s1,FE,by simp,λc hc k=>?_⟩ ?_ ?_⟩
  ·rw[dI,F8,if_pos hc];simp
  ·rintro m σ H2 hm ⟨fs,x2,x3,x4,rfl,s2,zL,⟨fl,fb⟩⟩;refine tI (y:=nV m) (by show V.int (0+(m:Int))=V.int (m:Int);rw[oW]) ?_;refine⟨_,rfl,_,rfl,.ref a,m,ps,rfl,⟨a,aY,rfl,s2 _ _ ha,Paired.cF hv λ_ _ q=>q.same s2⟩,hg,λlw H3 s3 nw hw=>?_⟩;have nlw:lw≠lf:=λz=>by rw[z,zL]at nw;cases nw
   refine⟨_,rfl,a,aY,rfl,.inr (ar.of (s3 _ _ (s2 _ _ ha))),_,rfl,om,om,r6 (n:=_) (λj σ H4=>∃(fs:List Nat) (x4:Option V),σ=[some (.ref a),some (.ref lf),some (nV m),some (.ref lw),x4]/\ah H' H4/\H4 lf=some (.lst (fs.map nV))/\H4 lw=some (.lst ((m7 ps m ps.length).map nV))/\Uc ps m j fs)
    ⟨fs,x4,rfl,s2.trans s3,s3 _ _ zL,hw,fl,fb⟩ ?_ ?_⟩
   ·rintro j σ H4 hj ⟨gs,y4,rfl,s4,uY,zB,⟨gl,gb⟩⟩;have uW:j<ps.length:=om;refine tI (y:=nV j) (by show V.int (0+(j:Int))=V.int (j:Int);rw[oW]) ?_;refine⟨_,rfl,lw,rfl,⟨_,aq.of zB⟩,?_⟩;have rh:=IS ps m ps.length;refine fk (n:=(m7 ps m ps.length).length) (λi ys H5=>H5=H4/\ys=(((m7 ps m ps.length).take i).map λo=>!decide (o=j)).map V.bl) ?_ ?_ ?_ ?_ ?_ ?_ ?_
    ·exact cg (cx om)
    ·exact⟨rfl,rfl⟩
    ·rintro i ys H5 ⟨_,e⟩;rw[e,aH,aH,gz];omega
    ·rintro i ys H5 hi ⟨rfl,_⟩;exact⟨_,_,aq.of zB,aR (by rw[aH];exact hi)⟩
    ·rintro ys H5 ⟨rfl,_⟩;exact⟨_,aq.of zB,by rw[aH];exact aB _⟩
    ·rintro i ys H5 hi ⟨rfl,e⟩ z gd ⟨eH,hz⟩;subst eH;have dr:=hz _ (aq.of zB);rw[eJ,aR hi]at dr;cases dr;refine⟨_,rfl,_,rfl,rfl,rfl,?_⟩;rw[kv,aR hi,YZ,gf,gf,<-e];show ys++[V.bl (!decide (nV _=nV j))]=ys++[V.bl (!decide (_=j))]
     congr 3
     by_cases q:(m7 ps m ps.length)[i]=j
     ·rw[q];simp
     ·rw[decide_eq_false q,decide_eq_false λz=>q (by injection z with z;omega)]
    ·rintro ys H5 ⟨rfl,e⟩;rw[jE (aB _)]at e;refine⟨by rw[e,aH,aH];exact cg (cx om),λr cH=>?_⟩;have s5:=aI (o:=.lst ys) (ah.refl H5) cH;refine⟨r,_,rfl,aq.of (by rw[av,e]),_,rfl,?_⟩;have zK:=s5 _ _ uY;have wW:=s5 _ _ zB;have uE:=s4.trans s5;generalize upd H5 r (.lst ys)=H6 at zK wW uE;rw[O2];have eo:((m7 ps m ps.length).any (id ∘ λo=>!decide (o=j)))=jT ps j m:=rfl;rw[eo]
     have nb:∀c,c<ps.length->¬c=j->∀k,(gs.getD c 0).testBit k=(decide (k<m\/(k=m/\c<j+1))&&jT ps c k):=λc hc dX k=>by
      rw[gb c hc k]
      congr 2
      simp only[eq_iff_iff];omega
     refine lP (λho=>?_) λho=>?_
     ·have zI:j<gs.length:=om;refine⟨_,rfl,_,rfl,lf,_,_,_,rfl,rfl,aq.of zK,mU zI,_,rfl,_,m,rfl,hm,?_⟩;refine⟨_,rfl,_,rfl,lf,_,_,j,rfl,rfl,zK,Ds (by rw[aH];exact zI),?_⟩;have L6:(gs.map nV).set j (nV (gs.getD j 0 ||| (1 <<< m)))=(gs.set j (gs.getD j 0 ||| (1 <<< m))).map nV:=by rw[tF]
      rw[L6];refine⟨gs.set j (gs.getD j 0 ||| (1 <<< m)),_,rfl,ye uE Nh,av,?_,by rw[iy];exact gl,λc hc k=>?_⟩
      ·rw[ak nlw];exact wW
      ·by_cases zQ:c=j
       ·subst zQ;rw[dI,jF zI];show (gs.getD c 0 ||| 1 <<< m).testBit k=_;rw[tx,L5.yn,gb c hc k]
        by_cases hk:m=k
        ·subst hk;rw[ho];simp
        ·have:decide (k<m\/(k=m/\c<c+1))=decide (k<m\/(k=m/\c<c)):=by
          congr 1
          simp only[eq_iff_iff];omega
         rw[this,decide_eq_false hk,OP]
       ·rw[dI,vm λz=>zQ z.symm,<-dI];exact nb c hc zQ k
     ·refine⟨gs,_,rfl,uE,zK,wW,gl,λc hc k=>?_⟩
      by_cases zQ:c=j
      ·subst zQ;rw[gb c hc k]
       by_cases hk:k=m
       ·subst hk;rw[ho];simp
       ·congr 2
        simp only[eq_iff_iff];omega
      ·exact nb c hc zQ k
   ·rintro σ H4 ⟨gs,y4,rfl,s4,uY,zB,⟨gl,gb⟩⟩;refine⟨gs,_,_,_,rfl,s4,uY,gl,λc hc k=>?_⟩;rw[gb c hc k]
    congr 2
    simp only[eq_iff_iff];omega
  ·rintro σ H2 ⟨fs,x2,x3,x4,rfl,s2,zL,⟨fl,fb⟩⟩;refine⟨_,rfl,k lf H2 fs s2 Nh zL ⟨fl,λc hc k=>?_⟩⟩;rw[fb c hc k]
   congr 2
   simp only[eq_iff_iff];omega
def sv(H:Hp)(v:V)(row:List Nat):Prop:=∃a,v=.ref a/\H a=some (.tup (row.map nV))
def jw(H:Hp)(v:V)(rows:List (List Nat)):Prop:=∃a us,v=.ref a/\H a=some (.tup us)/\Paired (sv H) us rows
theorem sv.same{H H':Hp}{v:V}{row:List Nat}(s:ah H H')(h:sv H v row):sv H' v row:=ay h λa e h=>⟨a,e,s _ _ h⟩
theorem jw.same{H H':Hp}{v:V}{rows:List (List Nat)}(s:ah H H')(h:jw H v rows):jw H' v rows:=dF h λa us e h r=>⟨a,us,e,s _ _ h,Paired.cF r λ_ _ q=>q.same s⟩
def zr(rows:List (List Nat))(ps:List Pt):Prop:=Paired (λ(row:List Nat) (p:Pt)=>row.length=p.length+1/\∀x∈row,x<4096) rows ps
theorem afk{K:W.Frag}:W.kitAny K (.type "tuple") [.type "list",.type "tuple"]=some true:=by
 unfold W.kitAny;rw[J7,show (if (iA "tuple" == iA "list")=true then some true else if W.kitMeta "list" = true then (OH "tuple").map (·.contains (.type "list")) else none)=some false by decide +kernel];unfold W.kitAny;rw[J7,if_pos dk]
def UD:Sp:=λvs H Q _=>∃a xs,vs=[.ref a,.int (xs.length:Nat)]/\H a=some (.tup xs)/\∀H',ah H H'->Q (.bl true) H'
theorem aj6:aZ ["thing","length"] ["thing","length"] (aM Jg):=a8
theorem ahO{f:Addr}{fd:aQ}(F:aP K "has_length" "has_length" Jg f fd)(B:Bl mg)(sU:mg "list" = none):ao P w K mg base au 1 f fd ["thing","length"] UD:=by
 refine F.ok aj6 (λvs H Q E h=>?_) λaD A _ s H vs Q E hr h=>?_
 ·refine b8 h λa xs aa _=>?_;subst aa;rfl
 ·refine dF h λa xs aa ha k=>?_;subst aa;refine⟨_,ax (aS (sf (bp abV rfl B.hG iw (ae (pv 0) (ae (jl (ae (mq (v:=.ty "list") rfl sU boot_list rfl) (ae (mq (v:=.ty "tuple") rfl B.tuple mi rfl) af))) af))) (tU (qt dE (bp dR rfl B.len PySem.boot_len (ae (pv 0) af)) (pv 1) (bX _))))),?_⟩;refine⟨_,rfl,by show 2<=bN;decide,λq hq=>?_⟩;have s1:=aI (o:=.tup [.ty "list",.ty "tuple"]) (ah.refl H) hq;refine⟨.ref a,q,_,_,_,_,rfl,av,.tup (s1 _ _ ha),afk,_,rfl,iq ⟨_,rfl,a,xs,rfl,.inr (ar.of (s1 _ _ ha)),_,rfl,rfl,?_⟩⟩;show Q (.bl (decide (V.int (xs.length:Int)=V.int (xs.length:Int)))) _;rw[decide_eq_true rfl];exact k _ s1
def UA:Sp:=λvs H Q _=>∃n:Nat,vs=[nV n]/\n<4096/\Q (.bl true) H
theorem aj5:aZ ["thing"] ["thing"] (aM JP):=a8
theorem ahL{f fW:Addr}{fd eM:aQ}(F:aP K "is_set_of_names" "is_set_of_names" JP f fd)(C:Cn mg)(GW:ao P w K mg base au 1 fW eM ["thing"] Dh)(kW:W.keepIn K (.ref fW)=true)(bW:Binds K eM ["thing"] [])(mW:mg "is_whole" = some (.ref fW)) :
  ao P w K mg base au 2 f fd ["thing"] UA:=by
 refine F.ok aj5 (λvs H Q E h=>?_) λaD A _ s H vs Q E hr h=>?_
 ·refine ay h λn aa _=>?_;subst aa;rfl
 ·refine aX h λn aa hn k=>?_;subst aa;obtain⟨uN,mN,rN⟩:=C.names;refine⟨_,ax (aS (sf (bx GW hr rfl mW kW bW .nil aO (ae (pv 0) af)) (tU (QN D0 tY aw (pv 0) (aT A4 aw (eE (v:=.int 12) rfl mN rN)))))),?_⟩;refine⟨_,rfl,nV n,"int",rfl,rfl,_,rfl,iq ?_⟩;refine⟨_,rfl,_,_,rfl,rfl,_,rfl,b9 (λh=>⟨_,_,rfl,rfl,⟨qc,qc,qc⟩,_,_,rfl,rfl,?_⟩) λh=>absurd (tf n) h⟩;have e:decide ((n:Int)<1*2^(12:Int).toNat)=true:=decide_eq_true (by show (n:Int)<4096;lia);show Q (.bl (decide ((n:Int)<1*2^(12:Int).toNat))) H;rw[e];exact k
def UC:Sp:=λvs H Q _=>∃(v x:V) (ps:List Pt) (rows:List (List Nat)),vs=[v,x]/\jo H v ps/\kQ ps/\jw H x rows/\zr rows ps/\∀H',ah H H'->Q (.bl true) H'
theorem Lm:aZ ["program","paper","part","row"] ["program","paper"] (aM Ip):=a8
theorem acS:(["thing"]:List Str).Nodup:=dk
theorem ahN{f fL fI:Addr}{fd jD dO:aQ}(F:aP K "has_size" "has_size" Ip f fd)(B:Bl mg)
  (GL:ao P w K mg base au 1 fL jD ["thing","length"] UD) (kL:W.keepIn K (.ref fL)=true) (bL:Binds K jD ["thing","length"] []) (mL:mg "has_length" = some (.ref fL))
  (GI:ao P w K mg base au 2 fI dO ["thing"] UA) (kI:W.keepIn K (.ref fI)=true) (bI:Binds K dO ["thing"] []) (mI:mg "is_set_of_names" = some (.ref fI)) :
  ao P w K mg base au 3 f fd ["program","paper"] UC:=by
 refine F.ok Lm (λvs H Q E h=>?_) λaD A _ s H vs Q E hr h=>?_
 ·refine jm h λv x ps rows aa _=>?_;subst aa;rfl
 ·obtain⟨v,x,ps,rows,aa,hv,hg,hx,hf,k⟩:=h;subst aa;obtain⟨a,aY,rfl,ha,hv⟩:=hv;obtain⟨b,us,rfl,hb,lA⟩:=hx;have dQ:=hr.mono (show 1<=2 by decide);have hlen:aY.length=ps.length:=Paired.length hv;have BO:us.length=rows.length:=Paired.length lA;have Xj:rows.length=ps.length:=Paired.length hf;have hle:=hg.le
  refine let R1:TS:=_;let R2:TS:=_;let R3:TS:=_;⟨_,aA (bQ (iV (dD (bx GL dQ rfl mL kL bL .nil aO (ae (pv 1) (ae (bp dR rfl B.len PySem.boot_len (ae (pv 0) af)) af))))) (ax (aS g9)) cq) (pR R3 (aA (ij ie rfl (Sy (b1:=false) (b2:=false) rfl B.zip (ae (pv 0) (ae (pv 1) af))) (nQ rfl (gH (br (i:=2) Lm.nd rfl (aN rfl)) (gH (br (i:=3) Lm.nd rfl (aN rfl)) nO))) (pR R2 (ax (bQ (PW.pt (pw_or (iV (dD (bx GL dQ rfl mL kL bL .nil aO (ae (pv 3) (ae (aT fR (bp dR rfl B.len PySem.boot_len (ae (pv 2) af)) aw) af))))) (pw_or1 (iV (dD (bp (AI rfl) rfl B.all Dd (ae (gh (N:=["thing"]) (idx:=[]) rfl (c9.of (by kernel_rfl)) (gC (bU _)) (mz (pv 3)) (λ_ _ _ _=>br (i:=0) acS rfl (aN rfl) (.inr rfl)) (λ_ _ _ _=>gZ)
      λ_ _ _ _=>bx GI hr rfl mI kI bI .nil aO (ae (pv 0) af)) af)))))))
     (ax (aS g9)) cq))))
   (pR R1 (ax (aS g9))))),?_⟩
  refine⟨_,rfl,_,rfl,a,aY,rfl,.inr (ar.of ha),b,us,by show [V.ref b,V.int (aY.length:Int)]=_;rw[show aY.length=us.length by lia],hb,λH1 s1=>⟨_,rfl,dN ?_⟩⟩;refine⟨_,rfl,_,rfl,a,b,aY,us,rfl,ar.of (s1 _ _ ha),ar.of (s1 _ _ hb),vK (n:=aY.length) (λj σ H'=>∃x2 x3,σ=[some (.ref a),some (.ref b),x2,x3]/\ah H H') ⟨none,none,rfl,s1⟩ ?_ ?_ ?_ ?_⟩
  ·rintro j σ H2 hj ⟨x2,x3,rfl,s2⟩;exact⟨aY,us,aY[j],us[j]' li,ar.of (s2 _ _ ha),ar.of (s2 _ _ hb),aR hj,aR li⟩
  ·rintro σ H2 ⟨x2,x3,rfl,s2⟩;exact⟨aY,us,ar.of (s2 _ _ ha),ar.of (s2 _ _ hb),.inl (aB _)⟩
  ·rintro j σ H2 hj ⟨x2,x3,rfl,s2⟩ z H3 ⟨p,x1,y1,hp0,ez,eH,MV⟩;subst ez;subst eH;obtain⟨gc,nA⟩:=MV aY us (ar.of (s2 _ _ ha)) (ar.of (s2 _ _ hb));obtain⟨part,dm,pa,pV,rfl,sT,rm⟩:=Paired.at' hv gc;obtain⟨row,cH,c,rfl,hc⟩:=Paired.at' lA nA;obtain⟨part2,jC,dP,j'⟩:=Paired.at' hf cH;rw[dm]at jC;cases jC;have M8:pV.length=part.length:=Paired.length rm;have dB:=(hg.part part (bw dm)).1;have s3:=aI (o:=.tup [.ref pa,.ref c]) s2 hp0;refine⟨p,[.ref pa,.ref c],rfl,ar.of av,rfl,.ref pa,[.ref c],rfl,.ref c,[],rfl,rfl,?_⟩;generalize upd H2 p (.tup [.ref pa,.ref c])=H4 at s3;refine⟨_,rfl,_,rfl,pa,pV,rfl,.inr (ar.of (s3 _ _ sT)),_,_,rfl,rfl,c,row.map nV,?_,s3 _ _ hc,λH5 s5=>⟨_,rfl,dN ?_⟩⟩
   ·show [V.ref c,V.int ((pV.length:Int)+1)]=_;rw[aH,dP,M8];rfl
   have BJ:=s3.trans s5;refine⟨_,rfl,c,rfl,⟨_,ar.of (BJ _ _ hc)⟩,fk (n:=row.length) (λi zs H'=>H'=H5/\zs=(row.take i).map λ_=>V.bl true) ?_ ⟨rfl,rfl⟩ ?_ ?_ ?_ ?_ ?_⟩
   ·exact cg (cx li)
   ·rintro i zs H' ⟨_,e⟩;rw[e,aH,gz];lia
   ·rintro i zs H' hi ⟨rfl,_⟩;exact⟨_,nV row[i],ar.of (BJ _ _ hc),by rw[eJ,aR hi];rfl⟩
   ·rintro zs H' ⟨rfl,_⟩;exact⟨_,ar.of (BJ _ _ hc),by rw[aH];exact aB _⟩
   ·rintro i zs H' hi ⟨rfl,e⟩ z gd ⟨eH,hz⟩;subst eH;have dr:=hz _ (ar.of (BJ _ _ hc));rw[eJ,aR hi]at dr;cases dr;refine⟨_,rfl,row[i],rfl,j' _ (rQ hi),rfl,?_⟩;rw[kv,aR hi,YZ,gf,<-e];rfl
   ·rintro zs H' ⟨rfl,e⟩;rw[jE (aB _)]at e;refine⟨by rw[e,aH];exact cg (cx li),λq hq=>⟨q,row.map λ_=>true,rfl,aq.of (by rw[av,e,lF];rfl),_,rfl,?_⟩⟩;have e2:(row.map λ_=>true).all id=true:=by simp
    rw[e2];exact dN ⟨_,_,rfl,aI BJ hq⟩
  ·rintro σ H2 ⟨x2,x3,rfl,s2⟩;exact k H2 s2
def nX(s:Tl)(n:Nat)(g:Nat->Bool):Bool:=match jb s with
 | none=>false
 | some m=>g m&&decide (n-(n &&& (1 <<< m))≠0)
def og(s:Tl)(n:Nat)(kn:Bool):Bool:=match setB s with
 | none=>false
 | some m=>kn&&decide (n-(n &&& (1 <<< m))≠0)
def qW(g:Nat->Bool)(kn:Bool)(s:Tl)(i:Nat)(row:List Nat):Option (Str×Nat):=
 if nX s (row.getD i 0) g=true then (L5.least (row.getD i 0) ((jb s).getD 0)).map λn=>("look",n)
 else if og s (row.getD i 0) kn=true then (L5.least (row.getD i 0) ((setB s).getD 0)).map λn=>("set",n)
 else ((lL s i row).head?).map λn=>("open",n)
def akt(H:Hp)(v:V):Option (Str×Nat)->Prop
 | none=>v=.aE
 | some (x,n)=>jn H v (x,[n])
theorem SJ(n:Nat):(!decide (V.int (n:Int)=V.int 0))=decide (n≠0):=by
 by_cases h:n=0
 ·subst h;rfl
 ·rw[decide_eq_true h,decide_eq_false λz=>h (by injection z with z;omega)];rfl
theorem yP{a b:Bool}(h:(a&&b)=true):a=true/\b=true:=by rw[iG]at h;exact h
theorem sub_lt{n m:Nat}(h:n<4096):n-(n &&& (1 <<< m))<4096:=om
def Uz(t:aW):Sp:=λvs H Q _=>∃(v:V) (s:Tl) (sz n fo:Nat) (g:Nat->Bool),vs=[v,nV n,nV fo]/\iY t H v s/\cA sz s/\(∀m,m<12->fo.testBit m=g m)/\Q (.bl (nX s n g)) H
theorem aj4:aZ ["step","names","foreign"] ["step","names","foreign"] (aM JK):=a8
theorem ahK{t:aW}{u:lu}(T:jP K mg t u){f fH fO:Addr}{fd lZ f6:aQ}(F:aP K "is_look_at_fault" "is_look_at_fault" JK f fd)
  (GH:ao P w K mg base au 1 fH lZ ["names","name"] JA) (kH:W.keepIn K (.ref fH)=true) (bH:Binds K lZ ["names","name"] []) (mH:mg "has_name" = some (.ref fH))
  (GO:ao P w K mg base au 2 fO f6 ["names","name"] DT) (kO:W.keepIn K (.ref fO)=true) (bO:Binds K f6 ["names","name"] []) (mO:mg "without_name" = some (.ref fO)) :
  ao P w K mg base au 3 f fd ["step","names","foreign"] (Uz t):=by
 refine F.ok aj4 (λvs H Q E h=>?_) λaD A _ s H vs Q E hr h=>?_
 ·obtain⟨v,s,sz,n,fo,g,rfl,_⟩:=h;rfl
 ·obtain⟨v,st,sz,n,fo,g,rfl,⟨z,a,dx,rfl,hz⟩,hg,Nl,k⟩:=h;have dQ:=hr.mono (show 1<=2 by decide);refine⟨_,ax (aS (sf (bp iB rfl T.st.bl.hG iw (ae (pv 0) (ae (eE (v:=.ref t.iL) rfl T.st.J3 rfl) af))) (sf (bx GH dQ rfl mH kH bH .nil aO (ae (pv 2) (ae (bf (pv 0) rfl) af))) (tU (qt yz (bx GO hr rfl mO kO bO .nil aO (ae (pv 1) (ae (bf (pv 0) rfl) af))) aw (bX _)))))),?_⟩;obtain⟨C1,ty,one⟩:=adf T hg hz;refine⟨_,rfl,_,_,_,_,_,rfl,ty,rfl,one,_,rfl,lP (λhs=>?_) λhs=>?_⟩
  ·cases hg with
   | look r m h1 h2=>
    have sR:H z=some (.ins (cb t "look") dx (cW (.ref a) "look" [V.int (r:Int),V.int (m:Int)])):=hz;rw[vA]at sR
    have k:Q (.bl (g m&&decide (n-(n &&& (1 <<< m))≠0))) H:=by
     unfold nX at k;rw[HI]at k;exact k
    refine⟨_,rfl,_,rfl,z,_,dx,_,.int (m:Int),rfl,sR,T.st.lK,T.st.vI,HH (t:=t),fo,m,rfl,_,rfl,?_⟩;rw[Nl m h2];refine lP (λhb=>?_) λhb=>?_
    ·rw[hb,vp]at k;refine⟨_,rfl,_,rfl,z,_,dx,_,.int (m:Int),rfl,sR,T.st.lK,T.st.vI,HH (t:=t),n,m,rfl,h2,rfl,?_⟩;show Q (.bl (!decide (V.int ((n-(n &&& (1 <<< m)):Nat):Int)=V.int 0))) H;rw[SJ];exact k
    ·rw[hb,xK]at k;exact k
   | put=>rw[ID]at hs;cases hs
   | add=>rw[IE]at hs;cases hs
   | set=>rw[IC]at hs;cases hs
   | swap=>rw[HF]at hs;cases hs
   | clear=>rw[Ho]at hs;cases hs
   | skip=>rw[HG]at hs;cases hs
  ·have e:nX st n g=false:=by
    unfold nX;cases h:jb st with
    | none=>rfl
    | some m=>rw[h]at hs;cases hs
   rw[e]at k;exact k
def Us(t:aW):Sp:=λvs H Q _=>∃(v:V) (s:Tl) (sz n:Nat) (kd:Str),vs=[v,nV n,.str kd]/\iY t H v s/\cA sz s/\Q (.bl (og s n (decide (kd = "name")))) H
theorem aj0:aZ ["step","names","kind"] ["step","names","kind"] (aM Ks):=a8
theorem adT(x y:Str):decide (V.str x=V.str y)=decide (x=y):=by
 by_cases h:x=y
 ·rw[decide_eq_true h,decide_eq_true (by rw[h])]
 ·rw[decide_eq_false h,decide_eq_false λz=>h (str_inj z)]
theorem ahD{t:aW}{u:lu}(T:jP K mg t u){f fO:Addr}{fd f6:aQ}(F:aP K "is_set_at_fault" "is_set_at_fault" Ks f fd)
  (GO:ao P w K mg base au 2 fO f6 ["names","name"] DT) (kO:W.keepIn K (.ref fO)=true) (bO:Binds K f6 ["names","name"] []) (mO:mg "without_name" = some (.ref fO)) :
  ao P w K mg base au 3 f fd ["step","names","kind"] (Us t):=by
 refine F.ok aj0 (λvs H Q E h=>?_) λaD A _ s H vs Q E hr h=>?_
 ·obtain⟨v,s,sz,n,kd,rfl,_⟩:=h;rfl
 ·obtain⟨v,st,sz,n,kd,rfl,⟨z,a,dx,rfl,hz⟩,hg,k⟩:=h;refine⟨_,ax (aS (sf (bp iB rfl T.st.bl.hG iw (ae (pv 0) (ae (eE (v:=.ref t.ir) rfl T.st.D3 rfl) af))) (sf (qt dE (pv 2) cV (bX _)) (tU (qt yz (bx GO hr rfl mO kO bO .nil aO (ae (pv 1) (ae (bf (pv 0) rfl) af))) aw (bX _)))))),?_⟩;obtain⟨C1,ty,one⟩:=RN T hg hz;refine⟨_,rfl,_,_,_,_,_,rfl,ty,rfl,one,_,rfl,lP (λhs=>?_) λhs=>?_⟩
  ·cases hg with
   | set m r h1 h2=>
    have sR:H z=some (.ins (cb t "set") dx (cW (.ref a) "set" [V.int (m:Int),V.int (r:Int)])):=hz;rw[tP]at sR
    have k:Q (.bl (decide (kd = "name")&&decide (n-(n &&& (1 <<< m))≠0))) H:=by
     unfold og at k;rw[set_set]at k;exact k
    refine⟨_,rfl,rfl,_,rfl,?_⟩;rw[adT];refine lP (λhb=>?_) λhb=>?_
    ·rw[hb,vp]at k;refine⟨_,rfl,_,rfl,z,_,dx,_,.int (m:Int),rfl,sR,T.st.kJ,T.st.tZ,QJ (t:=t),n,m,rfl,h1,rfl,?_⟩;show Q (.bl (!decide (V.int ((n-(n &&& (1 <<< m)):Nat):Int)=V.int 0))) H;rw[SJ];exact k
    ·rw[hb,xK]at k;exact k
   | put=>rw[AO]at hs;cases hs
   | add=>rw[AQ]at hs;cases hs
   | look=>rw[AE]at hs;cases hs
   | swap=>rw[AB]at hs;cases hs
   | clear=>rw[Av]at hs;cases hs
   | skip=>rw[AD]at hs;cases hs
  ·have e:og st n (decide (kd = "name"))=false:=by
    unfold og;cases h:setB st with
    | none=>rfl
    | some m=>rw[h]at hs;cases hs
   rw[e]at k;exact k
theorem aeX{sz:Nat}{s:Tl}{m:Nat}(g:cA sz s)(h:jb s=some m):m<12:=by
 cases g with
 | look r n h1 h2=>rw[HI]at h;cases h;exact h2
 | put=>rw[ID]at h;cases h
 | add=>rw[IE]at h;cases h
 | set=>rw[IC]at h;cases h
 | swap=>rw[HF]at h;cases h
 | clear=>rw[Ho]at h;cases h
 | skip=>rw[HG]at h;cases h
theorem A0{sz:Nat}{s:Tl}{m:Nat}(g:cA sz s)(h:setB s=some m):m<12:=by
 cases g with
 | set n r h1 h2=>rw[set_set]at h;cases h;exact h1
 | put=>rw[AO]at h;cases h
 | add=>rw[AQ]at h;cases h
 | look=>rw[AE]at h;cases h
 | swap=>rw[AB]at h;cases h
 | clear=>rw[Av]at h;cases h
 | skip=>rw[AD]at h;cases h
theorem QT{t:aW}{u:lu}(T:jP K mg t u){z a dx:Addr}{H:Hp}{s:Tl}{sz m:Nat}(g:cA sz s)(hz:H z=some (.ins (cb t s.1) dx (cW (.ref a) s.1 (s.2.map λ(n:Nat)=>V.int (n:Int)))))(h:jb s=some m\/setB s=some m) :
  ∃C fs,H z=some (.ins C dx fs)/\dj K C/\bu K C "name"/\fs.lookup ("name" : Str)=some (V.int (m:Int)):=by
 cases g with
 | look r n h1 h2=>
  rw[HI,AE]at h;rcases h with h | h
  ·cases h;have hz:H z=some (.ins (cb t "look") dx (cW (.ref a) "look" [V.int (r:Int),V.int (m:Int)])):=hz;rw[vA]at hz;exact⟨_,_,hz,T.st.lK,T.st.vI,HH (t:=t)⟩
  ·cases h
 | set n r h1 h2=>
  rw[IC,set_set]at h;rcases h with h | h
  ·cases h
  ·cases h;have hz:H z=some (.ins (cb t "set") dx (cW (.ref a) "set" [V.int (m:Int),V.int (r:Int)])):=hz;rw[tP]at hz;exact⟨_,_,hz,T.st.kJ,T.st.tZ,QJ (t:=t)⟩
 | put=>rw[ID,AO]at h;rcases h with h | h <;> cases h
 | add=>rw[IE,AQ]at h;rcases h with h | h <;> cases h
 | swap=>rw[HF,AB]at h;rcases h with h | h <;> cases h
 | clear=>rw[Ho,Av]at h;rcases h with h | h <;> cases h
 | skip=>rw[HG,AD]at h;rcases h with h | h <;> cases h
def UG(t:aW):Sp:=λvs H Q _=>∃(v:V) (s:Tl) (sz i:Nat) (l:Addr) (row:List Nat) (fo:Nat) (g:Nat->Bool) (kd:Str),vs=[v,nV i,.ref l,nV fo,.str kd]/\iY t H v s/\cA sz s/\Seq H l (row.map nV)/\i<row.length/\(∀a∈dh s i,a<row.length)/\(∀x∈row,x<4096)/\(∀m,m<12->fo.testBit m=g m)/\
 ∀v' H',ah H H'->akt H' v' (qW g (decide (kd = "name")) s i row)->Q v' H'
theorem Ln:aZ ["step","place","row","foreign","kind","names","lacking"] ["step","place","row","foreign","kind"] (aM Iq):=a8
theorem ahQ{t:aW}{u:lu}(T:jP K mg t u){f fL fS fO fM fK:Addr}{fd jD iu f6 vd B9:aQ}(F:aP K "fault_at" "fault_at" Iq f fd)
  (GL:ao P w K mg base au 3 fL jD ["step","names","foreign"] (Uz t)) (kL:W.keepIn K (.ref fL)=true) (bL:Binds K jD ["step","names","foreign"] []) (mL:mg "is_look_at_fault" = some (.ref fL))
  (GS:ao P w K mg base au 3 fS iu ["step","names","kind"] (Us t)) (kS:W.keepIn K (.ref fS)=true) (bS:Binds K iu ["step","names","kind"] []) (mS:mg "is_set_at_fault" = some (.ref fS))
  (GO:ao P w K mg base au 2 fO f6 ["names","name"] DT) (kO:W.keepIn K (.ref fO)=true) (bO:Binds K f6 ["names","name"] []) (mO:mg "without_name" = some (.ref fO))
  (GM:ao P w K mg base au 2 fM vd ["names"] Rr) (kM:W.keepIn K (.ref fM)=true) (bM:Binds K vd ["names"] []) (mM:mg "least_name" = some (.ref fM))
  (GK:ao P w K mg base au 3 fK B9 ["step","place","row"] (Jz t)) (kK:W.keepIn K (.ref fK)=true) (bK:Binds K B9 ["step","place","row"] []) (mK:mg "places_lacking" = some (.ref fK)) :
  ao P w K mg base au 4 f fd ["step","place","row","foreign","kind"] (UG t):=by
 refine F.ok Ln (λvs H Q E h=>?_) λaD A _ s H vs Q E hr h=>?_
 ·obtain⟨v,s,sz,i,l,row,fo,g,kd,rfl,_⟩:=h;rfl
 ·obtain⟨v,st,sz,i,l,row,fo,g,kd,rfl,ho,hg,hl,hi,xj,h4,Nl,k⟩:=h;have kc:=hr.mono (show 2<=3 by decide);refine⟨_,aA (cC (i:=5) Ln.nd rfl (aN rfl) (aJ (J9 K) (pv 2) (pv 1))) (aA (bQ (dD (bx GL hr rfl mL kL bL .nil aO (ae (pv 0) (ae (pv 5) (ae (pv 3) af))))) (ax (aS (jl (ae cV (ae (bx GM kc rfl mM kM bM .nil aO (ae (bx GO kc rfl mO kO bO .nil aO (ae (pv 5) (ae (bf (pv 0) rfl) af))) af)) af))))) cq) (aA (bQ (dD (bx GS hr rfl mS kS bS .nil aO (ae (pv 0) (ae (pv 5) (ae (pv 4) af))))) (ax (aS (jl (ae cV (ae (bx GM kc rfl mM kM bM .nil aO (ae (bx GO kc rfl mO kO bO .nil aO (ae (pv 5) (ae (bf (pv 0) rfl) af))) af)) af))))) cq) (aA (cC (i:=6) Ln.nd rfl (aN rfl) (bx GK hr rfl mK kK bK .nil aO (ae (pv 0) (ae (pv 1) (ae (pv 2) af))))) (ax (aS (Iy (cy dE (bp dR rfl T.st.bl.len PySem.boot_len (ae (pv 6) af)) aw (bX _)) kz (jl (ae cV (ae (aJ cO (pv 6) aw) af))))))))),?_⟩
  have BV:row.getD i 0<4096:=by
   rw[dI,aR hi];exact h4 _ (rQ hi)
  refine⟨_,rfl,_,rfl,JE hl (mU hi) ?_⟩
  have hat:qW g (decide (kd = "name")) st i row=(if nX st (row.getD i 0) g=true then (L5.least (row.getD i 0) ((jb st).getD 0)).map λn=>(("look" : Str),n)
   else if og st (row.getD i 0) (decide (kd = "name"))=true then (L5.least (row.getD i 0) ((setB st).getD 0)).map λn=>(("set" : Str),n)
   else ((lL st i row).head?).map λn=>(("open" : Str),n)):=rfl
  rw[hat]at k;generalize Nc:row.getD i 0=n at BV k;refine⟨_,rfl,_,rfl,_,rfl,v,st,sz,n,fo,g,rfl,ho,hg,Nl,_,rfl,lP (λoK=>?_) λoK=>?_⟩
  ·rw[if_pos oK]at k
   obtain⟨m,hm,hw⟩:∃m,jb st=some m/\n-(n &&& (1 <<< m))≠0:=by
    unfold nX at oK;cases e:jb st with
    | none=>rw[e]at oK;cases oK
    | some m=>
     rw[e]at oK;exact⟨m,rfl,of_decide_eq_true (yP oK).2⟩
   rw[hm]at k;obtain⟨z,a,dx,rfl,hz⟩:=ho;obtain⟨C,fs,jY,cl,na,hf⟩:=QT T hg hz (.inl hm);refine⟨_,rfl,_,rfl,z,C,dx,fs,_,rfl,jY,cl,na,hf,n,m,rfl,aeX hg hm,_,rfl,hw,sub_lt BV,λM H1 s1 hM hb hle=>⟨by show 2<=bN;decide,λr cH=>?_⟩⟩;have el:L5.least n ((some m).getD 0)=some M:=L5.Qg hM hb hle;rw[el]at k;exact k (.ref r) _ (aI s1 cH) ⟨r,rfl,av⟩
  ·rw[if_neg (by rw[oK];exact dg)]at k;refine⟨_,rfl,_,rfl,_,rfl,v,st,sz,n,kd,rfl,ho,hg,_,rfl,lP (λuK=>?_) λuK=>?_⟩
   ·rw[if_pos uK]at k
    obtain⟨m,hm,hw⟩:∃m,setB st=some m/\n-(n &&& (1 <<< m))≠0:=by
     unfold og at uK;cases e:setB st with
     | none=>rw[e]at uK;cases uK
     | some m=>
      rw[e]at uK;exact⟨m,rfl,of_decide_eq_true (yP uK).2⟩
    rw[hm]at k;obtain⟨z,a,dx,rfl,hz⟩:=ho;obtain⟨C,fs,jY,cl,na,hf⟩:=QT T hg hz (.inr hm);refine⟨_,rfl,_,rfl,z,C,dx,fs,_,rfl,jY,cl,na,hf,n,m,rfl,A0 hg hm,_,rfl,hw,sub_lt BV,λM H1 s1 hM hb hle=>⟨by show 2<=bN;decide,λr cH=>?_⟩⟩;have el:L5.least n ((some m).getD 0)=some M:=L5.Qg hM hb hle;rw[el]at k;exact k (.ref r) _ (aI s1 cH) ⟨r,rfl,av⟩
   ·rw[if_neg (by rw[uK];exact dg)]at k;refine⟨_,rfl,_,rfl,_,rfl,v,st,sz,i,l,row,rfl,ho,hg,hl,hi,xj,λlk H1 s1 _ hk=>?_⟩;refine⟨_,rfl,lk,_,rfl,.inl (aq.of hk),rfl,_,rfl,b9 (λe=>?_) λe=>?_⟩
    ·have e0:lL st i row=[]:=by
      have:((lL st i row).map nV).length=0:=by injection e with e;omega
      rw[aH]at this;exact FU this
     rw[e0]at k;exact k .aE H1 s1 rfl
    ·cases el:lL st i row with
     | nil=>rw[el]at e;exact absurd rfl e
     | cons b bs=>
      rw[el]at k hk;refine⟨_,rfl,lk,_,_,nV b,rfl,rfl,aq.of hk,cD (j:=0) rfl,by show 2<=bN;decide,λr cH=>?_⟩;exact k (.ref r) _ (aI s1 cH) ⟨r,rfl,av⟩
theorem adp{f:Addr}{fd:aQ}(F:uj K "fault" "fault" DF f fd "row"):Binds K fd ["program","paper","kind"] []:=by
 refine mh F.ex λoc od T kV doc pm an aD ct gQ aa=>dZ aa λc1 d1 n1 oH tk aa=>Eh aa λaa lk ib lT=>?_;subst aa;intro s us hK hl;refine kG (VU (by rw[tu]at hl;exact hl)) λa b c z _=>?_;subst z;exact W.binds_K hK rfl lT rfl rfl rfl
def yw(ps:List Pt)(c i:Nat):Tl:=(ps.getD c []).getD i ("clear",[])
def tT(ps:List Pt)(kn:Bool)(rows:List (List Nat))(c i:Nat):Option Tl:=(qW (jT ps c) kn (yw ps c i) i (rows.getD c [])).map λp=>(p.1,[c,i,p.2])
def vY(ps:List Pt)(kn:Bool)(rows:List (List Nat))(c:Nat):Option Tl:=(List.range (ps.getD c []).length).findSome? λi=>tT ps kn rows c i
def nW(ps:List Pt)(kn:Bool)(rows:List (List Nat)):Option Tl:=(List.range ps.length).findSome? λc=>vY ps kn rows c
def vQ(H:Hp)(v:V):Option Tl->Prop
 | none=>v=.aE
 | some t=>jn H v t
def VR:Sp:=λvs H Q _=>∃(v x:V) (ps:List Pt) (rows:List (List Nat)) (kd:Str),vs=[v,x,.str kd]/\jo H v ps/\kQ ps/\jw H x rows/\zr rows ps/\∀v' H',ah H H'->vQ H' v' (nW ps (decide (kd = "name")) rows)->Q v' H'
theorem wy:aZ ["program","paper","kind","foreign","clerk","part","place","told","found"] ["program","paper","kind"] (aM DF):=a8
theorem D1{sz i:Nat}{s:Tl}(g:cA sz s)(hi:i<sz):∀a∈dh s i,a<=sz:=by
 cases g with
 | skip r m h1 h2 h3=>
  rw[Jn];intro a ha;rcases(L5.yj _ _ _).mp ha with e | e
  ·omega
  ·rw[e];exact h2
 | put=>rw[SG];intro a ha;rw[eN.mp ha];omega
 | add=>rw[SH];intro a ha;rw[eN.mp ha];omega
 | set=>rw[SE];intro a ha;rw[eN.mp ha];omega
 | look=>rw[RF];intro a ha;rw[eN.mp ha];omega
 | swap=>rw[RE];intro a ha;rw[eN.mp ha];omega
 | clear=>rw[QQ];intro a ha;rw[eN.mp ha];omega
theorem ake{t:aW}{u:lu}(T:jP K mg t u){f fZ fO fA:Addr}{fd XG f6 vg:aQ}(F:uj K "fault" "fault" DF f fd "row")(p0:mg "enumerate" = none)
  (GZ:ao P w K mg base au 3 fZ XG ["program","paper"] UC) (kZ:W.keepIn K (.ref fZ)=true) (bZ:Binds K XG ["program","paper"] []) (mZ:mg "has_size" = some (.ref fZ))
  (GO:ao P w K mg base au 7 fO f6 ["program"] Tq) (kO:W.keepIn K (.ref fO)=true) (bO:Binds K f6 ["program"] []) (mO:mg "names_of_others" = some (.ref fO))
  (GA:ao P w K mg base au 4 fA vg ["step","place","row","foreign","kind"] (UG t)) (kA:W.keepIn K (.ref fA)=true) (bA:Binds K vg ["step","place","row","foreign","kind"] []) (mA:mg "fault_at" = some (.ref fA)) :
  ao P w K mg base au 8 f fd ["program","paper","kind"] VR:=by
 have GS:ao P w K mg base au 4 t.fO t.f6 ["told"] (yd t):=Aw T.st;refine F.ok wy (λvs H Q E h=>?_) λaD A _ s H vs Q E hr h=>?_
 ·obtain⟨v,x,ps,rows,kd,rfl,_⟩:=h;rfl
 ·obtain⟨v,x,ps,rows,kd,rfl,MY,hg,WT,Nn,k⟩:=h;obtain⟨a,aY,rfl,ha,hv⟩:=id MY;obtain⟨b,xs,rfl,hb,uH⟩:=id WT;have wZ:=hr.mono (show 3<=7 by decide);have j':=hr.mono (show 4<=7 by decide);have hlen:aY.length=ps.length:=Paired.length hv;have hle:=hg.le;refine⟨_,aA (bQ (iV (dD (bx GZ wZ rfl mZ kZ bZ .nil aO (ae (pv 0) (ae (pv 1) af))))) (ax (aS (jl (ae cV af)))) cq) (aA (cC (i:=3) wy.nd rfl (aN rfl) (bx GO hr rfl mO kO bO .nil aO (ae (pv 0) af))) (aA (ij ie rfl (tK (b:=false) rfl p0 (ae (pv 0) af)) (nQ rfl (gH (br (i:=4) wy.nd rfl (aN rfl)) (gH (br (i:=5) wy.nd rfl (aN rfl)) nO))) (ax (ij ie rfl (tK (b:=false) rfl p0 (ae (pv 5) af)) (nQ rfl (gH (br (i:=6) wy.nd rfl (aN rfl)) (gH (br (i:=7) wy.nd rfl (aN rfl)) nO))) (aA (cC (i:=8) wy.nd rfl (aN rfl) (bx GA j' rfl mA kA bA .nil aO (ae (bx GS j' rfl T.st.mO T.st.zc.kp T.st.bO .nil aO (ae (pv 7) af)) (ae (pv 6) (ae (aJ cu (pv 1) (pv 4)) (ae (aJ cO (pv 3) (pv 4)) (ae (pv 2) af))))))) (ax (bQ (cy Jm (pv 8) kz (bX _)) (ax (aS (jl (ae (aJ cu (pv 8) aw) (ae (pv 4) (ae (pv 6) (ae (aJ cu (pv 8) aw) af))))))) cq)))))) (ax (aS kz)))),?_⟩;refine⟨_,rfl,_,rfl,_,_,ps,rows,rfl,MY,hg,WT,Nn,λH1 s1=>⟨_,rfl,dN ?_⟩⟩;refine⟨_,rfl,_,ps,rfl,MY.same s1,hg,λlf H2 fs s2 _ hf ⟨fl,fb⟩=>?_⟩;have oJ:=s1.trans s2;refine⟨_,rfl,a,aY,rfl,ar.of (oJ _ _ ha),vK (n:=aY.length) (λj σ H'=>∃x4 x5 x6 x7 x8,σ=[some (.ref a),some (.ref b),some (.str kd),some (.ref lf),x4,x5,x6,x7,x8]/\ah H H'/\H' lf=some (.lst (fs.map nV))/\∀c,c<j->vY ps (decide (kd = "name")) rows c=none) ⟨none,none,none,none,none,rfl,oJ,hf,λc hc=>absurd hc (Af _)⟩ ?_ ?_ ?_ ?_⟩
  ·rintro j σ H3 hj ⟨_,_,_,_,_,_,s3,_⟩;exact⟨aY,aY[j],ar.of (s3 _ _ ha),aR hj⟩
  ·rintro σ H3 ⟨_,_,_,_,_,_,s3,_⟩;exact⟨aY,ar.of (s3 _ _ ha),aB _⟩
  ·rintro j σ H3 hj ⟨x4,x5,x6,x7,x8,rfl,s3,FD,hY⟩ z H4 ⟨r,y,cH,ez,eH,nA⟩;subst ez;subst eH;have hy:=nA aY (ar.of (s3 _ _ ha));obtain⟨part,dm,pa,pV,rfl,sT,rm⟩:=Paired.at' hv hy;obtain⟨dB,lB⟩:=hg.part part (bw dm);have M8:pV.length=part.length:=Paired.length rm;have ep:ps.getD j []=part:=by rw[dI,dm];rfl
   have Xa:j<ps.length:=om;have hxl:xs.length=rows.length:=Paired.length uH;have amK:rows.length=ps.length:=Paired.length Nn;have BN:xs[j]?=some (xs[j]' li):=aR li;obtain⟨row,dQ,rb,hxe,hys⟩:=Paired.at' uH BN;obtain⟨part2,jC,hyn,hya⟩:=Paired.at' Nn dQ;rw[dm]at jC;cases jC;have alC:rows.getD j []=row:=by rw[dI,dQ];rfl
   have akJ:fw xs (j:Int)=some (.ref rb):=by rw[<-hxe];exact cD BN
   have s4:=aI (o:=.tup [.int j,.ref pa]) s3 cH;have uY:=(aI (o:=.tup [.int j,.ref pa]) (ah.refl H3) cH) _ _ FD;refine⟨r,[.int j,.ref pa],rfl,ar.of av,rfl,.int j,[.ref pa],rfl,.ref pa,[],rfl,rfl,?_⟩;generalize upd H3 r (.tup [.int j,.ref pa])=H5 at s4 uY;have XM:vY ps (decide (kd = "name")) rows j=(List.range part.length).findSome? λi=>tT ps (decide (kd = "name")) rows j i:=by unfold vY;rw[ep]
   refine⟨_,rfl,pa,pV,rfl,ar.of (s4 _ _ sT),vK (n:=pV.length) (λi σ H'=>∃x6 x7 x8,σ=[some (.ref a),some (.ref b),some (.str kd),some (.ref lf),some (nV j),some (.ref pa),x6,x7,x8]/\ah H H'/\H' lf=some (.lst (fs.map nV))/\∀c,c<i->tT ps (decide (kd = "name")) rows j c=none) ⟨x6,x7,x8,rfl,s4,uY,λc hc=>absurd hc (Af _)⟩ ?_ ?_ ?_ ?_⟩
   ·rintro i σ H6 hi ⟨_,_,_,_,s6,_⟩;exact⟨pV,pV[i],ar.of (s6 _ _ sT),aR hi⟩
   ·rintro σ H6 ⟨_,_,_,_,s6,_⟩;exact⟨pV,ar.of (s6 _ _ sT),aB _⟩
   ·rintro i σ H6 hi ⟨y6,y7,y8,rfl,s6,B0,Eu⟩ z H7 ⟨r7,y7',Fs,ez,eH,dr⟩;subst ez;subst eH;obtain⟨td,jZ,tb,rfl,rj⟩:=Paired.at' rm (dr pV (ar.of (s6 _ _ sT)));have gt:=lB td (bw jZ);have Xe:i<part.length:=om;have est:yw ps j i=td:=by unfold yw;rw[ep,dI,jZ];rfl
    have s7:=aI (o:=.tup [.int i,.ref tb]) s6 Fs;have BZ:=(aI (o:=.tup [.int i,.ref tb]) (ah.refl H6) Fs) _ _ B0;refine⟨r7,[.int i,.ref tb],rfl,ar.of av,rfl,.int i,[.ref tb],rfl,.ref tb,[],rfl,rfl,?_⟩;generalize upd H6 r7 (.tup [.int i,.ref tb])=H8 at s7 BZ;refine⟨_,rfl,tb,td.1,td.2.map λ(n:Nat)=>V.int (n:Int),rfl,s7 _ _ rj,Ay gt,⟨by rw[aH];have:=gt.len;omega,λy hy=>?_⟩,λz dx H9 s9 _ hz=>?_⟩
    ·obtain⟨n,_,rfl⟩:=jJ.mp hy;exact⟨_,rfl⟩
    have zv:=s7.trans s9;have hjf:j<fs.length:=om;refine⟨_,rfl,_,rfl,_,rfl,b,_,_,_,rfl,rfl,ar.of (zv _ _ hb),akJ,_,rfl,_,rfl,lf,_,_,_,rfl,rfl,aq.of (s9 _ _ BZ),mU hjf,_,rfl,?_⟩;refine⟨.ref z,td,part.length,i,rb,row,fs.getD j 0,jT ps j,kd,rfl,⟨z,tb,dx,rfl,hz⟩,gt,.inr (zv _ _ hys),li,λa ha=>by have:=D1 gt Xe a ha;lia,hya,λm hm=>?_,λv' H10 E9 hat=>?_⟩
    ·rw[fb j Xa m,decide_eq_true hm,vp]
    have XO:tT ps (decide (kd = "name")) rows j i=(qW (jT ps j) (decide (kd = "name")) td i (row)).map λp=>(p.1,[j,i,p.2]):=by
     unfold tT;rw[est,alC]
    have Vf:=zv.trans E9;cases Es:qW (jT ps j) (decide (kd = "name")) td i (row)with
    | none=>
     rw[Es]at hat;have hat:v'=.aE:=hat;subst hat;refine⟨_,rfl,rfl,_,rfl,dN ⟨_,_,_,rfl,Vf,E9 _ _ (s9 _ _ BZ),λc hc=>?_⟩⟩
     by_cases ec:c<i
     ·exact Eu c ec
     ·have:c=i:=om;rw[this,XO,Es];rfl
    | some pr=>
     obtain⟨wd,n⟩:=pr;rw[Es]at hat;obtain⟨q,rfl,hq⟩:=hat;refine⟨_,rfl,rfl,_,rfl,iq ?_⟩;refine⟨_,rfl,q,_,_,.str wd,rfl,rfl,ar.of hq,cD (j:=0) rfl,_,rfl,_,rfl,_,rfl,q,_,_,nV n,rfl,rfl,ar.of hq,cD (j:=1) rfl,by show 4<=bN;decide,λr0 cH=>?_⟩;have e1:tT ps (decide (kd = "name")) rows j i=some (wd,[j,i,n]):=by rw[XO,Es];rfl
     have e2:vY ps (decide (kd = "name")) rows j=some (wd,[j,i,n]):=by rw[XM];exact L5.Pr Xe Eu e1
     have e3:nW ps (decide (kd = "name")) rows=some (wd,[j,i,n]):=L5.Pr Xa hY e2;refine k (.ref r0) _ (aI Vf cH) ?_;rw[e3];exact⟨r0,rfl,av⟩
   ·rintro σ H6 ⟨y6,y7,y8,rfl,s6,B0,Eu⟩;refine⟨_,_,_,_,_,rfl,s6,B0,λc hc=>?_⟩
    by_cases ec:c<j
    ·exact hY c ec
    ·have:c=j:=om;rw[this,XM];exact L5.find_none λi hi=>Eu i om
  ·rintro σ H3 ⟨x4,x5,x6,x7,x8,rfl,s3,FD,hY⟩;refine k .aE H3 s3 ?_;have:nW ps (decide (kd = "name")) rows=none:=L5.find_none λc hc=>hY c om;rw[this];rfl
end TL
namespace L2
open PySem PySem.Spec PyProof.Rows
section
variable{X:Cx}{e:Expr}{es:List Expr}
theorem PE.imp{t t':TE}(h:PE X e t)(hi:∀σ H Q,t' σ H Q->t σ H Q):PE X e t':=λp_ s σ H Q I q=>h p_ s σ H Q I (hi σ H Q q)
theorem PA.imp{t t':TA}(h:PA X es t)(hi:∀σ H Q,t' σ H Q->t σ H Q):PA X es t':=λpos p_ s σ H Q I q=>h pos p_ s σ H Q I (hi σ H Q q)
end
end L2
namespace TL
open PySem PySem.Spec PyProof.Rows PySem.SeqAt L2 L3 L4
variable{P:Program}{w:World}{K:PySem.W.Frag}{mg:Str->Option Value}{base:Heap}
def notStar:Expr->Bool
 | .Starred _ _=>false
 | _=>true
theorem Dz{e:Expr}{es:List Expr}{env:Env}(h:notStar e=true):cJ (e::es) env=(false,eval e env)::cJ es env:=by
 rw[cJ];intro e' p z;subst z;cases h
def tN(pre:L2.St->Prop)(B:Nat):TE:=λσ H Q=>pre σ/\∀n:Nat,n<B->Q (.int n) H
def tG(pre:L2.St->Prop)(sz:Nat):TE:=λσ H Q=>pre σ/\∀v t H',ah H H'->jn H' v t->cA sz t->Q v H'
def Bi(sz:Nat)(H:Hp)(v:V):Prop:=∃t,jn H v t/\cA sz t
def EJ(pre:L2.St->Prop)(sz n:Nat):TA:=λσ H Q=>pre σ/\∀(vs:List V) H',vs.length=n->ah H H'->(∀v∈vs,Bi sz H' v)->Q vs H'
def tGL(pre:L2.St->Prop)(sz n:Nat):TE:=λσ H Q=>pre σ/\∀l (vs:List V) H',vs.length=n->ah H H'->H l=none->H' l=some (.lst vs)->(∀v∈vs,Bi sz H' v)->Q (.ref l) H'
theorem Bi.same{sz:Nat}{H H':Hp}{v:V}(h:Bi sz H v)(s:ah H H'):Bi sz H' v:=by
 obtain⟨t,a,b⟩:=h;exact⟨t,a.same s,b⟩
section
variable{X:Cx}{pre:L2.St->Prop}{e e1 e2:Expr}{es:List Expr}{n m sz B1 B2:Nat}{p q:Pos}
theorem sq{i B:Nat}(h:PE X e (qL i))(hi:∀σ,pre σ->∃k:Nat,k<B/\σ[i]?=some (some (.int k))):PE X e (tN pre B):=h.imp λσ H Q q=>by
 obtain⟨k,hb,hk⟩:=hi σ q.1;exact⟨_,hk,q.2 k hb⟩
theorem yu{x:Str}{k:Nat}(h1:PE X e1 (tN pre B1))(n1:notStar e1=true)(h2:PE X e2 (tN pre B2))(n2:notStar e2=true)(hg:∀a b,a<B1->b<B2->cA sz (x,[a,b])):PE X (.Tuple [.Constant (.str x) m p,e1,e2] k q) (tG pre sz):=
 (jl (ae cV (ae h1 (ae h2 af (Dz n2)) (Dz n1)))).imp λσ H Q h=>
  ⟨h.1,λa ha=>⟨h.1,λb hb=>⟨by show 3<=bN;decide,λr hr=>h.2 (.ref r) (x,[a,b]) _ (aI (ah.refl H) hr) ⟨r,rfl,av⟩ (hg a b ha hb)⟩⟩⟩
theorem agn{x:Str}{k:Nat}(hg:cA sz (x,[])):PE X (.Tuple [.Constant (.str x) m p] k q) (tG pre sz):=
 (jl (ae cV af)).imp λσ H Q h=>⟨by show 1<=bN;decide,λr hr=>h.2 (.ref r) (x,[]) _ (aI (ah.refl H) hr) ⟨r,rfl,av⟩ hg⟩
theorem SW:PA X [] (EJ pre sz 0):=af.imp λ_ H _ h=>h.2 [] H rfl (ah.refl H) (λ_ z=>by cases z)
theorem Dt(he:PE X e (tG pre sz))(hn:notStar e=true)(hr:PA X es (EJ pre sz n)):PA X (e::es) (EJ pre sz (n+1)):=(ae he hr (Dz hn)).imp λσ H Q h=>
 ⟨h.1,λv t H1 s1 hv hg=>⟨h.1,λvs H2 hl s2 jz=>h.2 (v::vs) H2 (by rw[gU,hl]) (s1.trans s2) λx hx=>by rcases bR.mp hx with e | e;(rw[e];exact⟨t,hv.same s2,hg⟩);exact jz x e⟩⟩
theorem gl(h:PA X es (EJ pre sz n))(hn:n<=1000:=by decide):PE X (.List es p) (tGL pre sz n):=(dY h).imp λσ H Q q=>
 ⟨q.1,λvs H1 hl s1 jz=>⟨cg (cx om),λr hr=>q.2 r vs _ hl (aI s1 hr) (s1.free hr) av λv hv=>(jz v hv).same (aI (ah.refl _) hr)⟩⟩
end
theorem tL(d:Int){b:Nat}(hb:0<b):∃k:Nat,k<b/\d%(b:Int)=(k:Int):=by
 have h1:0<=d%(b:Int):=tw _ om;have h2:d%(b:Int)<b:=xA _ om;exact⟨(d%(b:Int)).toNat,om,om⟩
theorem RJ(ds:List PyData):noMix (.list ds) (.list [])=true/\same (.list ds) (.list [])=decide (ds=[]):=by
 cases ds with
 | nil=>simp[noMix,AK,same,sameAll]
 | cons d r=>simp[noMix,AK,same,sameAll]
theorem ZN(ns:List Int):shaped (.list (ns.map rY))=true:=aao (λe _=>by simp[Ag]) λe _=>by simp[Ha]
theorem aan:shaped (.list [])=true:=dk
theorem ne_nil{K:W.Frag}{H:Hp}{a p:Addr}{ns:List Int}{Q:VK}(ha:aq K H a (ns.map V.int))(hp:H p=some (.lst []))(q:Q (.bl (decide (ns≠[]))) H):UO K true (.ref a) (.ref p) H Q:=by
 refine⟨.list (ns.map rY),.list [],adv ha,.lst (aq.of hp) .nil,ZN ns,aan,(RJ _).1,?_⟩;rw[if_pos rfl,(RJ _).2]
 have e:(!decide (ns.map rY=[]))=decide (ns≠[]):=by
  cases ns <;> simp
 rw[e];exact q
def Dy(K:W.Frag):Sp:=λvs H Q _=>∃(a:Addr) (ns:List Int) (k:Int),vs=[.ref a,.int k]/\aq K H a (ns.map V.int)/\ns.length<=63/\0<=k/\k<1000/\∀(d:Nat) (H':Hp),ah H H'->d<2147483647->Q (nV d) H'
theorem yq:aZ ["_law_script","_law_k","_law_cell","_law_number"] ["_law_script","_law_k"] (aM Kw):=a8
theorem yv{ns:List Int}{i:Int}(h0:0<=i)(h1:i<ns.length):∃c,fw (ns.map V.int) i=some (.int c):=by
 obtain⟨j,rfl⟩:=Int.eq_ofNat_of_zero_le h0;have cI:j<ns.length:=om;refine⟨ns[j],cD ?_⟩;rw[eJ,aR cI];rfl
theorem yG{d:Int}{m:Nat}(hm:0<m)(hl:m<=2147483647){Q:VK}{H:Hp}(q:∀n:Nat,n<2147483647->Q (nV n) H):Q (.int (d%(m:Int))) H:=by
 obtain⟨n,h1,h2⟩:=tL d hm;rw[h2];exact q n om
theorem aeG{f:Addr}{fd:aQ}(F:aP K "_law_draw" "_law_draw" Kw f fd)(iF:mg "len" = none):ao P w K mg base au 1 f fd ["_law_script","_law_k"] (Dy K):=by
 refine F.ok yq (λvs H Q E h=>?_) λaD A _ s H vs Q E hr h=>?_
 ·obtain⟨a,ns,k,rfl,_⟩:=h;rfl
 ·obtain⟨a,ns,k,rfl,ha,hn,hk0,hk1,kk⟩:=h;refine⟨_,aA (cC (i:=2) yq.nd rfl (aN rfl) aw) (aA (bQ (PW.pt (pw_and (cy (JX hr.units) (pv 0) (dY af) (bX _)) (pw_and1 (cy dE (aT g6 (aJ cO (pv 0) aw) aw) aw (bX _))))) (aA (bQ (cy tY (aT fR aw (aT lI (pv 1) aw)) (bp dR rfl iF PySem.boot_len (ae (pv 0) af)) (bX _)) (ax (cC (i:=2) yq.nd rfl (aN rfl) (aJ cO (pv 0) (aT fR aw (aT lI (pv 1) aw))))) cq) (ax (aS (aT g6 (aT JW (pv 2) (aT tV aw (aT g6 (pv 1) aw))) (aT afS aw aw))))) cq) (aA (bQ (cy (JX hr.units) (pv 0) (dY af) (bX _)) (ax (cC (i:=2) yq.nd rfl (aN rfl) (aJ cO (pv 0) (aT g6 (pv 1) (bp dR rfl iF PySem.boot_len (ae (pv 0) af)))))) cq) (aA (cC (i:=3) yq.nd rfl (aN rfl) (aT g6 (aT tV (aT fR (aT fR (pv 2) (aT tV aw (pv 1))) aw) aw) aw)) (aA (cC (i:=3) yq.nd rfl (aN rfl) (aT g6 (aT tV (pv 3) (aT fR (aT lI (pv 3) aw) aw)) aw)) (ax (aS (aT g6 (aT tV (pv 3) (aT fR (aT lI (pv 3) aw) aw)) aw))))))),?_⟩;have b1:∀c:Int,0<=(c+7919*k+1)*48271%2147483647/\(c+7919*k+1)*48271%2147483647<2147483647:=λc=>⟨tw _ qc,xA _ qc⟩;have b2:∀x:Int,0<=x*(x/1009+69621)%2147483647/\x*(x/1009+69621)%2147483647<2147483647:=λx=>⟨tw _ qc,xA _ qc⟩;refine⟨_,rfl,qc,λp1 dm=>?_⟩;have s1:=aI (o:=.lst []) (ah.refl H) dm;have xp:=s1.seq ha;refine ne_nil xp av ⟨_,rfl,b9 (λdX=>?_) λdX=>?_⟩
  ·have pK:0<ns.length:=zZ.mpr dX;obtain⟨c0,B3⟩:=yv (ns:=ns) (i:=0) om om;refine⟨_,rfl,a,_,_,_,rfl,rfl,xp,B3,_,_,rfl,rfl,(by show (0:Int)<2;decide),rfl,_,rfl,b9 (λ_=>?_) λ_=>?_⟩
   ·refine⟨_,rfl,_,_,rfl,rfl,⟨qc,qc⟩,_,_,rfl,rfl,_,rfl,a,_,rfl,.inl xp,_,_,rfl,rfl,_,rfl,b9 (λcI=>?_) λ_=>?_⟩
    ·rw[aH]at cI;have hq:0<=k/50:=Int.ediv_nonneg hk0 qc;obtain⟨c,hc⟩:=yv (ns:=ns) (i:=1+k/50) om cI;refine⟨_,rfl,_,rfl,_,_,rfl,rfl,⟨qc,qc⟩,_,_,rfl,rfl,a,_,_,_,rfl,rfl,xp,hc,?_⟩;refine⟨_,rfl,_,rfl,_,_,rfl,rfl,(by show (0:Int)<50;decide),_,_,rfl,rfl,.inl ⟨qc,qc⟩,_,_,rfl,rfl,?_,_,_,rfl,rfl,⟨qc,qc,qc⟩,_,_,rfl,rfl,?_,?_⟩
     ·show 0<=20*(k%50);have:=tw k (show (50:Int)≠0 by decide);omega
     ·show (0:Int)<2^(20:Int).toNat;decide +kernel
     ·exact yG (d:=c/2^(20*(k%50)).toNat) (m:=2^20) qc qc (Q:=Q) λn hn=>kk n _ s1 hn
    ·refine⟨_,rfl,_,rfl,_,_,rfl,rfl,(by show (0:Int)<50;decide),_,_,rfl,rfl,.inl ⟨qc,qc⟩,_,_,rfl,rfl,?_,_,_,rfl,rfl,⟨qc,qc,qc⟩,_,_,rfl,rfl,?_,?_⟩
     ·show 0<=20*(k%50);have:=tw k (show (50:Int)≠0 by decide);omega
     ·show (0:Int)<2^(20:Int).toNat;decide +kernel
     ·exact yG (d:=0/2^(20*(k%50)).toNat) (m:=2^20) qc qc (Q:=Q) λn hn=>kk n _ s1 hn
   ·skip
    refine⟨_,rfl,qc,λp2 jC=>?_⟩;have s2:=aI (o:=.lst []) s1 jC;refine ne_nil (s2.seq ha) av ⟨_,rfl,b9 (λBy=>?_) λBy=>?_⟩
    ·have pK:0<ns.length:=zZ.mpr By;have uS:=tw k (show (ns.length:Int)≠0 by omega);have lX:=xA k (show (0:Int)<ns.length by omega);obtain⟨c,hc⟩:=yv (ns:=ns) uS lX;refine⟨_,rfl,_,rfl,_,rfl,a,_,rfl,.inl (s2.seq ha),_,_,rfl,rfl,by rw[aH];show (0:Int)<ns.length;omega,a,_,_,_,rfl,rfl,s2.seq ha,by rw[aH];exact hc,?_⟩;refine⟨_,rfl,_,rfl,_,_,rfl,rfl,.inl ⟨qc,qc⟩,_,_,rfl,rfl,_,_,rfl,rfl,_,_,rfl,rfl,.inr ⟨qc,qc⟩,_,_,rfl,rfl,(by show (0:Int)<2147483647;decide),?_⟩;have c1:=b1 c;refine⟨_,rfl,_,rfl,_,_,rfl,rfl,⟨qc,qc⟩,_,_,rfl,rfl,_,_,rfl,rfl,.inl ⟨om,om⟩,_,_,rfl,rfl,(by show (0:Int)<2147483647;decide),?_⟩;have c2:=b2 ((c+7919*k+1)*48271%2147483647);refine⟨_,rfl,_,rfl,_,_,rfl,rfl,⟨qc,qc⟩,_,_,rfl,rfl,_,_,rfl,rfl,.inl ⟨om,om⟩,_,_,rfl,rfl,(by show (0:Int)<2147483399;decide),?_⟩;exact yG (d:=_) (m:=2147483399) qc qc (Q:=Q) λn hn=>kk n _ s2 hn
    ·skip
     refine⟨_,rfl,_,rfl,_,_,rfl,rfl,.inl ⟨qc,qc⟩,_,_,rfl,rfl,_,_,rfl,rfl,_,_,rfl,rfl,.inr ⟨qc,qc⟩,_,_,rfl,rfl,(by show (0:Int)<2147483647;decide),?_⟩;have c1:=b1 0;refine⟨_,rfl,_,rfl,_,_,rfl,rfl,⟨qc,qc⟩,_,_,rfl,rfl,_,_,rfl,rfl,.inl ⟨om,om⟩,_,_,rfl,rfl,(by show (0:Int)<2147483647;decide),?_⟩;have c2:=b2 ((0+7919*k+1)*48271%2147483647);refine⟨_,rfl,_,rfl,_,_,rfl,rfl,⟨qc,qc⟩,_,_,rfl,rfl,_,_,rfl,rfl,.inl ⟨om,om⟩,_,_,rfl,rfl,(by show (0:Int)<2147483399;decide),?_⟩;exact yG (d:=_) (m:=2147483399) qc qc (Q:=Q) λn hn=>kk n _ s2 hn
  ·skip
   refine⟨_,rfl,qc,λp2 jC=>?_⟩;have s2:=aI (o:=.lst []) s1 jC;refine ne_nil (s2.seq ha) av ⟨_,rfl,b9 (λBy=>?_) λBy=>?_⟩
   ·have pK:0<ns.length:=zZ.mpr By;have uS:=tw k (show (ns.length:Int)≠0 by omega);have lX:=xA k (show (0:Int)<ns.length by omega);obtain⟨c,hc⟩:=yv (ns:=ns) uS lX;refine⟨_,rfl,_,rfl,_,rfl,a,_,rfl,.inl (s2.seq ha),_,_,rfl,rfl,by rw[aH];show (0:Int)<ns.length;omega,a,_,_,_,rfl,rfl,s2.seq ha,by rw[aH];exact hc,?_⟩;refine⟨_,rfl,_,rfl,_,_,rfl,rfl,.inl ⟨qc,qc⟩,_,_,rfl,rfl,_,_,rfl,rfl,_,_,rfl,rfl,.inr ⟨qc,qc⟩,_,_,rfl,rfl,(by show (0:Int)<2147483647;decide),?_⟩;have c1:=b1 c;refine⟨_,rfl,_,rfl,_,_,rfl,rfl,⟨qc,qc⟩,_,_,rfl,rfl,_,_,rfl,rfl,.inl ⟨om,om⟩,_,_,rfl,rfl,(by show (0:Int)<2147483647;decide),?_⟩;have c2:=b2 ((c+7919*k+1)*48271%2147483647);refine⟨_,rfl,_,rfl,_,_,rfl,rfl,⟨qc,qc⟩,_,_,rfl,rfl,_,_,rfl,rfl,.inl ⟨om,om⟩,_,_,rfl,rfl,(by show (0:Int)<2147483399;decide),?_⟩;exact yG (d:=_) (m:=2147483399) qc qc (Q:=Q) λn hn=>kk n _ s2 hn
   ·skip
    refine⟨_,rfl,_,rfl,_,_,rfl,rfl,.inl ⟨qc,qc⟩,_,_,rfl,rfl,_,_,rfl,rfl,_,_,rfl,rfl,.inr ⟨qc,qc⟩,_,_,rfl,rfl,(by show (0:Int)<2147483647;decide),?_⟩;have c1:=b1 0;refine⟨_,rfl,_,rfl,_,_,rfl,rfl,⟨qc,qc⟩,_,_,rfl,rfl,_,_,rfl,rfl,.inl ⟨om,om⟩,_,_,rfl,rfl,(by show (0:Int)<2147483647;decide),?_⟩;have c2:=b2 ((0+7919*k+1)*48271%2147483647);refine⟨_,rfl,_,rfl,_,_,rfl,rfl,⟨qc,qc⟩,_,_,rfl,rfl,_,_,rfl,rfl,.inl ⟨om,om⟩,_,_,rfl,rfl,(by show (0:Int)<2147483399;decide),?_⟩;exact yG (d:=_) (m:=2147483399) qc qc (Q:=Q) λn hn=>kk n _ s2 hn
theorem Ta{xs:List V}{d:Int}{n:Nat}(h:xs.length=n)(hn:0<n):∃v,fw xs (d%(n:Int))=some v/\v∈xs:=by
 have b1:0<=d%(n:Int):=tw _ om;have b2:d%(n:Int)<n:=xA _ om;have e:d%(n:Int)=((d%(n:Int)).toNat:Int):=om;have cI:(d%(n:Int)).toNat<xs.length:=om;refine⟨xs[(d%(n:Int)).toNat],?_,rQ cI⟩;have q:=cD (aR cI);rw[<-e]at q;exact q
def uf(sz:Nat):L2.St->Prop:=λσ=>∃(d wd b n:Nat) (ln:Addr),d<2147483647/\b<4/\n<12/\σ=[some (nV d),some (.ref ln),some (nV sz),some (nV wd),some (nV b),some (nV n)]
theorem yy{sz:Nat}:∀σ,uf sz σ->∃k:Nat,k<4/\σ[4]?=some (some (.int k)):=by rintro σ ⟨d,wd,b,n,ln,h0,h1,h2,rfl⟩;exact⟨b,h1,rfl⟩
theorem Kz{sz:Nat}:∀σ,uf sz σ->∃k:Nat,k<12/\σ[5]?=some (some (.int k)):=by rintro σ ⟨d,wd,b,n,ln,h0,h1,h2,rfl⟩;exact⟨n,h2,rfl⟩
def Uy:Sp:=λvs H Q _=>∃(d:Nat) (ln:Addr) (hX:List Nat) (sz:Nat),vs=[nV d,.ref ln,nV sz]/\H ln=some (.lst (hX.map nV))/\hX≠[]/\(∀n∈hX,n<12)/\hX.length<=12/\d<2147483647/\sz<=12/\∀(v:V) (t:Tl) (H':Hp),ah H H'->jn H' v t->cA sz t->Q v H'
theorem Ee:aZ ["_law_draw_here","_law_names","_law_size","_law_word","_law_box","_law_name"] ["_law_draw_here","_law_names","_law_size"] (aM JM):=a8
theorem adB{vs:List V}{n i:Nat}(h:vs.length=n)(hi:i<n):∃v,fw vs (i:Int)=some v/\v∈vs:=by
 have cI:i<vs.length:=om;exact⟨vs[i],cD (aR cI),rQ cI⟩
theorem ahJ{f:Addr}{fd:aQ}(F:aP K "_law_step" "_law_step" JM f fd)(iF:mg "len" = none):ao P w K mg base au 1 f fd ["_law_draw_here","_law_names","_law_size"] Uy:=by
 refine F.ok Ee (λvs H Q E h=>?_) λaD A _ s H vs Q E hr h=>?_
 ·obtain⟨d,ln,hX,sz,rfl,_⟩:=h;rfl
 ·obtain⟨d,ln,hX,sz,rfl,zG,dX,ak7,Nd,hd,jB,k⟩:=h
  refine⟨_,aA (cC (i:=3) Ee.nd rfl (aN rfl) (aT g6 (pv 0) aw)) (aA (cC (i:=4) Ee.nd rfl (aN rfl) (aT g6 (aT lI (pv 0) aw) aw)) (aA (cC (i:=5) Ee.nd rfl (aN rfl) (aJ cO (pv 1) (aT g6 (aT lI (pv 0) aw) (bp dR rfl iF PySem.boot_len (ae (pv 1) af))))) (aA (bQ (cy tY (pv 3) aw (bX _)) (ax (aS (aJ cO (gl (pre:=uf sz) (sz:=sz) (Dt (yu (e2:=.BinOp _ _ _ _) (B2:=10^60) (sq (pv 4) yy) rfl ((aT lI (pv 0) aw).imp λσ H Q q=>by
      obtain⟨⟨d,wd,b,n,ln,h0,h1,h2,rfl⟩,q⟩:=q;have q:=q (d/512) (sZ (Nat.div_le_self _ _) (Hc h0 dk));exact⟨_,rfl,_,_,rfl,rfl,⟨qc,qc⟩,q⟩) rfl (λa b h1 h2=>.put a b h1 h2)) rfl
     (Dt (yu (e2:=.BinOp _ _ _ _) (B2:=4) (sq (pv 4) yy) rfl ((aT SD aw (pv 4)).imp λσ H Q q=>by
      obtain⟨⟨d,wd,b,n,ln,h0,h1,h2,rfl⟩,q⟩:=q;have q:=q (3-b) om;have e:((3-b:Nat):Int)=3-(b:Int):=om;rw[e]at q;exact⟨_,rfl,_,_,rfl,rfl,q⟩) rfl (λa b h1 h2=>.add a b h1 h2)) rfl SW))) (pv 3) (λ_ _=>rfl)))) cq)
   (aA (bQ (cy tY (pv 3) aw (bX _)) (ax (aS (yu (pre:=uf sz) (sz:=sz) (sq (pv 5) Kz) rfl (sq (pv 4) yy) rfl λa b h1 h2=>.set a b h1 h2))) cq) (aA (bQ (cy tY (pv 3) aw (bX _)) (ax (aS (yu (pre:=uf sz) (sz:=sz) (sq (pv 4) yy) rfl (sq (pv 5) Kz) rfl λa b h1 h2=>.look a b h1 h2))) cq) (aA (bQ (cy tY (pv 3) aw (bX _)) (ax (aS (aJ cO (gl (pre:=uf sz) (sz:=sz) (Dt (yu (sq (pv 4) yy) rfl (sq (pv 5) Kz) rfl λa b h1 h2=>.swap a b h1 h2) rfl (Dt (agn .clear) rfl SW))) (aT g6 (aT lI (pv 0) aw) aw) λ_ _=>rfl))) cq) (ax (aS (yu (pre:=uf sz) (sz:=sz) (e2:=.BinOp (.BinOp _ _ _ _) _ _ _) (B2:=sz+1) (sq (pv 4) yy) rfl ((aT g6 (aT lI (pv 0) aw) (aT fR (pv 2) aw)).imp λσ H Q q=>by
      obtain⟨⟨d,wd,b,n,ln,h0,h1,h2,rfl⟩,q⟩:=q;obtain⟨j,hj,ej⟩:=tL ((d:Int)/512) (show 0<sz+1 by omega);have q:=q j hj;rw[<-ej]at q;exact⟨_,rfl,_,_,rfl,rfl,⟨qc,qc⟩,_,rfl,_,_,rfl,rfl,_,_,rfl,rfl,(by show (0:Int)<(sz:Int)+1;omega),q⟩) rfl (λa b h1 h2=>.skip a b h1 om om)))))))))),?_⟩
  obtain⟨wd,hwd,ewd⟩:=tL (d:Int) (show 0<16 by decide);obtain⟨b,hb,eb⟩:=tL ((d:Int)/16) (show 0<4 by decide);have pK:0<hX.length:=zZ.mpr dX;obtain⟨ix,Xd,eix⟩:=tL ((d:Int)/64) pK;refine⟨_,rfl,_,_,rfl,rfl,(by show (0:Int)<16;decide),tI (y:=nV wd) (by show V.int ((d:Int)%16)=_;rw[show (d:Int)%16=(wd:Int) from ewd]) ?_⟩;refine⟨_,rfl,_,_,rfl,rfl,⟨qc,qc⟩,_,_,rfl,rfl,(by show (0:Int)<4;decide),tI (y:=nV b) (by show V.int ((d:Int)/16%4)=_;rw[show (d:Int)/16%4=(b:Int) from eb]) ?_⟩;have Nc:=ak7 _ (rQ Xd);refine⟨_,rfl,_,rfl,_,_,rfl,rfl,⟨qc,qc⟩,_,rfl,ln,_,rfl,.inl (aq.of zG),_,_,rfl,rfl,by rw[aH];show (0:Int)<hX.length;omega,ln,_,_,nV hX[ix],rfl,rfl,aq.of zG,?_,?_⟩
  ·rw[aH,eix];exact cD (by rw[eJ,aR Xd];rfl)
  generalize hX[ix]=nm at Nc;have qR:uf sz [some (nV d),some (.ref ln),some (nV sz),some (nV wd),some (nV b),some (nV nm)]:=⟨d,wd,b,nm,ln,hd,hb,Nc,rfl⟩;refine⟨_,rfl,_,_,rfl,rfl,_,rfl,b9 (λh=>?_) λh1=>?_⟩
  ·refine⟨qR,λl vs H1 nC s1 _ hl ht=>?_⟩;obtain⟨v,hv,jS⟩:=adB (i:=wd) nC om;obtain⟨t,M0,BP⟩:=ht v jS;exact⟨_,rfl,l,_,_,v,rfl,rfl,aq.of hl,hv,k v t H1 s1 M0 BP⟩
  refine⟨_,rfl,_,_,rfl,rfl,_,rfl,b9 (λh=>?_) λh2=>?_⟩
  ·exact⟨qR,k⟩
  refine⟨_,rfl,_,_,rfl,rfl,_,rfl,b9 (λh=>?_) λh3=>?_⟩
  ·exact⟨qR,k⟩
  refine⟨_,rfl,_,_,rfl,rfl,_,rfl,b9 (λh=>?_) λh4=>?_⟩
  ·refine⟨qR,λl vs H1 nC s1 _ hl ht=>?_⟩;obtain⟨v,hv,jS⟩:=Ta (xs:=vs) (d:=(d:Int)/512) (n:=2) nC qc;obtain⟨t,M0,BP⟩:=ht v jS;exact⟨_,rfl,_,_,rfl,rfl,⟨qc,qc⟩,_,_,rfl,rfl,(by show (0:Int)<2;decide),l,_,_,v,rfl,rfl,aq.of hl,hv,k v t H1 s1 M0 BP⟩
  exact⟨qR,k⟩
def Ut(K:W.Frag):Sp:=λvs H Q _=>∃(a:Addr) (ns:List Int),vs=[.ref a]/\aq K H a (ns.map V.int)/\ns.length<=63/\∀(v:V) (ps:List Pt) (H':Hp),ah H H'->jo H' v ps->kQ ps->Q v H'
theorem yC:aZ ["_law_script","_law_first","_law_names","_law_parts","_law_clerk","_law_size"] ["_law_script"] (aM JO):=a8
theorem ah1:(["_law_first","_law_k"]:List Str).Nodup:=dk
theorem acT:(["_law_script","_law_clerk","_law_names","_law_size","_law_k"]:List Str).Nodup:=dk
theorem QO{H:Hp}{v:V}{p:Pt}{l:Addr}{xs:List V}{o:HO}(h:IsPart H v p)(hl:H l=some (.lst xs)):IsPart (upd H l o) v p:=by
 obtain⟨a,vs,e,h,r⟩:=h;refine⟨a,vs,e,?_,Paired.cF r λ_ _ q=>?_⟩
 ·rw[ak λz=>by rw[z,hl]at h;cases h];exact h
 ·obtain⟨b,e,hb⟩:=q;refine⟨b,e,?_⟩;rw[ak λz=>by rw[z,hl]at hb;cases hb];exact hb
theorem ahE{f fD fS:Addr}{fd vf iu:aQ}(F:aP K "_law_program" "_law_program" JO f fd)(B:Bl mg)(dH:mg "range" = none)
  (GD:ao P w K mg base au 1 fD vf ["_law_script","_law_k"] (Dy K)) (kD:W.keepIn K (.ref fD)=true) (bD:Binds K vf ["_law_script","_law_k"] []) (mD:mg "_law_draw" = some (.ref fD))
  (GS:ao P w K mg base au 1 fS iu ["_law_draw_here","_law_names","_law_size"] Uy) (kS:W.keepIn K (.ref fS)=true) (bS:Binds K iu ["_law_draw_here","_law_names","_law_size"] []) (mS:mg "_law_step" = some (.ref fS)) :
  ao P w K mg base au 2 f fd ["_law_script"] (Ut K):=by
 refine F.ok yC (λvs H Q E h=>?_) λaD A _ s H vs Q E hr h=>?_
 ·obtain⟨a,ns,rfl,_⟩:=h;rfl
 ·obtain⟨a,ns,rfl,ha,hn,kk⟩:=h
  refine⟨_,aA (cC (i:=1) yC.nd rfl (nR rfl) (bx GD hr rfl mD kD bD .nil aO (ae (pv 0) (ae aw af)))) (aA (cC (i:=2) yC.nd rfl (nR rfl) (gh (N:=["_law_first","_law_k"]) (idx:=[1]) rfl (c9.of (by kernel_rfl)) (gC (aB _))
     (jk rfl dH (ae (aJ cO (dY (ae aw (ae aw (ae aw (ae aw af))))) (aT g6 (aT lI (pv 1) aw) aw)) af))
     (λ_ _ _ _=>br (i:=1) ah1 rfl (aN rfl) (.inr rfl)) (λ_ _ _ _=>gZ) λ_ _ _ _=>aT g6 (aT fR (aT lI (pv 0) aw) (aT tV aw (pv 1))) aw))
   (aA (cC (i:=3) yC.nd rfl (aN rfl) (dY af)) (aA (ij ie rfl (jk rfl dH (ae (aT fR aw (aT g6 (pv 1) aw)) af)) (br (i:=4) yC.nd rfl (nR rfl)) (aA (cC (i:=5) yC.nd rfl (nR rfl) (aT g6 (bx GD hr rfl mD kD bD .nil aO (ae (pv 0) (ae (aT fR aw (pv 4)) af))) aw)) (ax (gg (qD PySem.F.plainAttrs_list PySem.F.slot_list_append PySem.F.type_list_append vx (pv 3) (ae (qo rV rfl B.tuple mi (ae (gh (N:=["_law_script","_law_clerk","_law_names","_law_size","_law_k"]) (idx:=[0,4,2,5]) rfl (c9.of (by kernel_rfl)) (gC (aB _)) (jk rfl dH (ae (pv 5) af))
      (λ_ _ _ _=>br (i:=4) acT rfl (aN rfl) (.inr rfl)) (λ_ _ _ _=>gZ)
      λ_ _ _ _=>bx GS hr rfl mS kS bS .nil aO (ae (bx GD hr rfl mD kD bD .nil aO (ae (pv 0) (ae (aT fR (aT fR aw (aT tV aw (pv 1))) (pv 4)) af))) (ae (pv 2) (ae (pv 3) af)))) af)) af))))))
   (ax (aS (qo rV rfl B.tuple mi (ae (pv 3) af))))))),?_⟩
  refine⟨_,rfl,a,ns,0,rfl,ha,hn,qc,qc,λd H1 s1 hd=>?_⟩;obtain⟨i4,hi4,ei4⟩:=tL ((d:Int)/4) (show 0<4 by decide);refine⟨by show 4<=bN;decide,λq hq=>?_⟩;have s2:=aI (o:=.lst [.int 1,.int 2,.int 3,.int 12]) s1 hq
  have aln:∃c:Nat,1<=c/\c<=12/\fw [V.int 1,V.int 2,V.int 3,V.int 12] ((d:Int)/4%4)=some (.int (c:Int)):=by
   have e:(d:Int)/4%4=(i4:Int):=ei4;rw[e];have h:i4=0\/i4=1\/i4=2\/i4=3:=om;rcases h with rfl | rfl | rfl | rfl
   ·exact⟨1,qc,qc,cD (j:=0) rfl⟩
   ·exact⟨2,qc,qc,cD (j:=1) rfl⟩
   ·exact⟨3,qc,qc,cD (j:=2) rfl⟩
   ·exact⟨12,qc,qc,cD (j:=3) rfl⟩
  obtain⟨c,FK,Xp,hat⟩:=aln;refine⟨_,rfl,_,_,rfl,rfl,⟨qc,qc⟩,_,_,rfl,rfl,(by show (0:Int)<4;decide),q,_,_,_,rfl,rfl,aq.of av,hat,_,rfl,om,om,?_⟩;generalize upd H1 q (.lst [.int 1,.int 2,.int 3,.int 12])=H2 at s2;refine fk (n:=c) (λj ys H'=>H'=H2/\∃hX:List Nat,hX.length=j/\(∀n∈hX,n<12)/\ys=hX.map nV) ?_ ?_ ?_ ?_ ?_ ?_ ?_
  ·exact cg (cx om)
  ·exact⟨rfl,[],rfl,λ_ z=>(by cases z),rfl⟩
  ·rintro j ys H' ⟨_,hX,e1,_,e2⟩;rw[e2,aH,e1];exact aB _
  ·rintro j ys H' hj _;exact hj
  ·rintro ys H' _;exact aB _
  ·rintro j ys H' hj ⟨rfl,hX,e1,e2,e3⟩ x gd ⟨eH,ex⟩;subst eH;subst ex;obtain⟨m,hm,em⟩:=tL ((d:Int)/16+5*(0+(j:Int))) (show 0<12 by decide);have em':((d:Int)/16+5*(0+(j:Int)))%12=(m:Int):=em;refine⟨_,rfl,_,_,rfl,rfl,⟨qc,qc⟩,_,rfl,_,_,rfl,rfl,.inl ⟨qc,qc⟩,_,_,rfl,rfl,_,_,rfl,rfl,(by show (0:Int)<12;decide),rfl,hX++[m],by rw[fQ,e1];rfl,λn hn=>?_,?_⟩
   ·rcases jH.mp hn with z | z
    ·exact e2 n z
    ·rw[eN.mp z];exact hm
   ·rw[e3,gf];show hX.map nV++[V.int (((d:Int)/16+5*(0+(j:Int)))%12)]=_;rw[em'];rfl
  rintro ys H' ⟨rfl,hX,e1,e2,e3⟩;refine⟨by rw[e3,aH,e1];exact cg (cx om),λln iF=>?_⟩;have s3:=aI (o:=.lst ys) s2 iF;have zG:upd H' ln (.lst ys) ln=some (.lst (hX.map nV)):=by rw[av,e3]
  have ajs:hX≠[]:=λz=>by rw[z]at e1;simp at e1;omega
  generalize upd H' ln (.lst ys)=H3 at s3 zG;refine⟨qc,λlp zx=>?_⟩;have s4:=aI (o:=.lst []) s3 zx;have ak2:=(aI (o:=.lst []) (ah.refl H3) zx) _ _ zG;have akx:H lp=none:=s3.free zx;have ajn:ln≠lp:=bJ zG zx;have hc4:0<=(d:Int)%4/\(d:Int)%4<4:=⟨tw _ qc,xA _ qc⟩;refine⟨_,rfl,_,_,rfl,rfl,(by show (0:Int)<4;decide),_,_,rfl,rfl,_,rfl,om,om,?_⟩;have FP:(1+(d:Int)%4).toNat<=4/\1<=(1+(d:Int)%4).toNat:=om;generalize (1+(d:Int)%4).toNat=cn at FP
  refine r6 (n:=cn) (λi σ H'=>∃(ck sz:Option V) (aY:List V) (ps:List Pt),σ=[some (.ref a),some (nV d),some (.ref ln),some (.ref lp),ck,sz]/\ah H H'/\H' ln=some (.lst (hX.map nV))/\H' lp=some (.lst aY)/\Paired (IsPart H') aY ps/\ps.length=i/\∀p∈ps,p.length<=120/\∀t∈p,cA p.length t)
   ⟨none,none,[],[],rfl,s4,ak2,av,.nil,rfl,λ_ h=>by cases h⟩ ?_ ?_
  ·rintro i σ H5 hi ⟨ck,sz0,aY,ps,rfl,t1,LU,h5,Fw,FC,Nk⟩;have dB:aY.length=ps.length:=Paired.length Fw;refine⟨_,rfl,_,rfl,_,_,rfl,rfl,a,ns,_,rfl,t1.seq ha,hn,om,om,λd2 H6 s6 hd2=>?_⟩;obtain⟨z,hz,ez⟩:=tL (d2:Int) (show 0<11 by decide);refine⟨_,_,rfl,rfl,(by show (0:Int)<11;decide),tI (y:=nV z) (by show V.int ((d2:Int)%11)=_;rw[show (d2:Int)%11=(z:Int) from ez]) ?_⟩;have t6:=t1.trans s6;have h6:=s6 _ _ h5;have ak1:=s6 _ _ LU;refine⟨_,rfl,.inl ⟨rfl,_,aq.of h6⟩,_,rfl,_,rfl,om,om,?_⟩;refine fk (n:=z) (λj ys H2=>j<=z/\ah H6 H2/\∃p:Pt,p.length=j/\Paired (jn H2) ys p/\∀t∈p,cA z t) ?_ ?_ ?_ ?_ ?_ ?_ ?_
   ·exact cg (cx om)
   ·exact⟨bU _,ah.refl _,[],rfl,.nil,λ_ h=>by cases h⟩
   ·rintro j ys H2 ⟨_,_,p,e,r,_⟩;rw[Paired.length r,e];exact aB _
   ·rintro j ys H2 hj _;exact hj
   ·rintro ys H2 _;exact aB _
   ·rintro j ys H2 hj ⟨_,s7,p,e,r,gp⟩ x H3' ⟨eH,ex⟩;subst eH;subst ex;refine⟨_,rfl,_,rfl,_,_,rfl,rfl,.inl ⟨qc,qc⟩,_,_,rfl,rfl,_,rfl,_,_,rfl,rfl,a,ns,_,rfl,(t6.trans s7).seq ha,hn,om,om,λd3 H8 s8 hd3=>?_⟩;refine⟨_,rfl,_,rfl,d3,ln,hX,z,rfl,s8 _ _ (s7 _ _ ak1),ajs,e2,om,hd3,om,λv t H4 s9 hv4 hg4=>⟨hj,s7.trans (s8.trans s9),p++[t],?_,Paired.snoc (Paired.cF r λ_ _ q=>q.same (s8.trans s9)) hv4,λy hy=>?_⟩⟩
    ·rw[fQ,e];rfl
    ·rcases jH.mp hy with h | h
     ·exact gp y h
     ·rw[eN.mp h];exact hg4
   ·rintro ys H2 ⟨_,s7,p,e,r,gp⟩;refine⟨by rw[Paired.length r,e];exact cg (cx om),λr1 dQ=>?_⟩;refine⟨r1,ys,rfl,.inl ⟨aq.of av,λq hq=>?_⟩⟩;have s8:=aI (o:=.lst ys) s7 dQ;have s9:=aI (o:=.tup ys) s8 hq;have FA:=s9 _ _ h6;have W3:upd (upd H2 r1 (.lst ys)) q (.tup ys) q=some (.tup ys):=av;have V7:ah H2 (upd (upd H2 r1 (.lst ys)) q (.tup ys)):=aI (aI (ah.refl H2) dQ) hq;generalize upd (upd H2 r1 (.lst ys)) q (.tup ys)=H9 at s9 FA W3 V7 ⊢;have My:=s6.trans s9;refine⟨lp,aY,.ref q,rfl,rfl,FA,cx (by rw[dB];omega),_,_,aY++[.ref q],ps++[p],rfl,ye (t1.trans My) akx,?_,av,?_,by rw[fQ,FC];rfl,λp' uM=>?_⟩
    ·rw[ak ajn];exact My _ _ LU
    ·exact Paired.snoc (Paired.cF Fw λ_ _ h=>QO (h.same My) FA) (QO ⟨q,ys,rfl,W3,Paired.cF r λ_ _ h=>h.same V7⟩ FA)
    ·rcases jH.mp uM with h | h
     ·exact Nk p' h
     ·rw[eN.mp h];exact⟨om,by rw[e];exact gp⟩
  ·rintro σ H5 ⟨ck,sz0,aY,ps,rfl,t1,LU,h5,Fw,FC,Nk⟩;refine⟨_,rfl,lp,aY,rfl,.inl ⟨aq.of h5,λq hq=>?_⟩⟩;exact kk _ ps _ (t1.trans (aI (ah.refl _) hq)) ⟨q,aY,rfl,av,Paired.cF Fw λ_ _ h=>h.same (aI (ah.refl _) hq)⟩ ⟨om,om,Nk⟩
theorem AN(s:Tl):fw (tv s) 0=some (.str s.1):=cD (j:=0) rfl
def Uv:Sp:=λvs H Q _=>∃(v:V) (s:Tl) (sz n:Nat),vs=[v,nV n]/\jn H v s/\cA sz s/\Q (nV (gD s n)) H
theorem aj2:aZ ["_law_step_here","_law_some"] ["_law_step_here","_law_some"] (aM JH):=a8
theorem ahG{f:Addr}{fd:aQ}(F:aP K "_law_needs" "_law_needs" JH f fd):ao P w K mg base au 1 f fd ["_law_step_here","_law_some"] Uv:=by
 refine F.ok aj2 (λvs H Q E h=>?_) λaD A _ s H vs Q E hr h=>?_
 ·obtain⟨v,s,sz,n,rfl,_⟩:=h;rfl
 ·obtain⟨v,st,sz,n,rfl,⟨a,rfl,ha⟩,hg,k⟩:=h;refine⟨_,aA (bQ (PW.pt (pw_or (cy dE (aJ cu (pv 0) aw) cV (bX _)) (pw_or1 (cy dE (aJ cu (pv 0) aw) cV (bX _))))) (ax (aS aw)) cq) (aA (bQ (cy dE (aJ cu (pv 0) aw) cV (bX _)) (ax (aS (aT Bb (pv 1) (aT A4 aw (aJ cu (pv 0) aw))))) cq) (ax (aS (pv 1)))),?_⟩
  have kill:iJ st=true->Q (.int 0) H:=λhk=>by
   have e:gD st n=0:=by unfold gD L5.behind;rw[if_pos hk]
   rw[e]at k;exact k
  refine⟨_,rfl,a,_,_,_,rfl,rfl,ar.of ha,AN st,rfl,_,rfl,b9 (λh=>iq ?_) λh1=>?_⟩
  ·exact kill (by unfold iJ;rw[str_inj h];decide +kernel)
  refine⟨_,rfl,a,_,_,_,rfl,rfl,ar.of ha,AN st,rfl,_,rfl,b9 (λh=>?_) λh2=>?_⟩
  ·exact kill (by unfold iJ;rw[str_inj h];decide +kernel)
  have hk:iJ st=false:=by
   unfold iJ;rw[decide_eq_false λe=>h2 (by rw[e]),decide_eq_false λe=>h1 (by rw[e])];rfl
  refine⟨_,rfl,a,_,_,_,rfl,rfl,ar.of ha,AN st,rfl,_,rfl,b9 (λh=>?_) λh3=>?_⟩
  ·have hw:=str_inj h;cases hg with
   | set m r q1 q2=>
    refine⟨_,rfl,_,rfl,a,_,_,nV m,rfl,rfl,ar.of ha,cD (j:=1) rfl,_,_,rfl,rfl,⟨om,om,qc⟩,_,_,rfl,rfl,?_⟩;show Q (V.int (xO (n:Int) ((1:Int)*(2:Int)^(m:Int).toNat))) H;rw[Di,AX];have e:gD ("set",[m,r]) n=n ||| (1 <<< m):=by unfold gD L5.behind;rw[C2,set_set];rfl
    rw[e]at k;exact k
   | put=>exact absurd hw (by show ¬(("put" : Str) = "set");decide +kernel)
   | add=>exact absurd hw (by show ¬(("add" : Str) = "set");decide +kernel)
   | skip=>exact absurd hw (by show ¬(("skip" : Str) = "set");decide +kernel)
   | look=>exact absurd hw (by show ¬(("look" : Str) = "set");decide +kernel)
   | swap=>exact absurd hw (by show ¬(("swap" : Str) = "set");decide +kernel)
   | clear=>exact absurd hw (by show ¬(("clear" : Str) = "set");decide +kernel)
  ·have hs:setB st=none:=by unfold setB;rw[if_neg λe=>h3 (by rw[e])]
   have e:gD st n=n:=by unfold gD L5.behind;rw[hk,hs];rfl
   rw[e]at k;exact⟨_,rfl,k⟩
def fU(part:Pt):List L5.Sp:=part.mapIdx jx
theorem oZ(part:Pt):(fU part).length=part.length:=by unfold fU;simp
theorem IW{part:Pt}{i:Nat}:(fU part)[i]?=part[i]?.map (jx i):=by unfold fU;rw[List.getElem?_mapIdx]
theorem CM{part:Pt}{i:Nat}{s:L5.Sp}(h:(fU part)[i]?=some s):∃t,part[i]?=some t/\s=jx i t:=by
 rw[IW]at h;cases e:part[i]? with
 | none=>rw[e]at h;cases h
 | some t=>rw[e]at h;cases h;exact⟨t,rfl,rfl⟩
theorem JD{sz:Nat}{t:Tl}{m:Nat}(g:cA sz t)(h:setB t=some m):m<12/\iJ t=false/\t.1 = "set":=by
 cases g with
 | set n r h1 h2=>rw[set_set]at h;cases h;exact⟨h1,C2 _,rfl⟩
 | put=>rw[AO]at h;cases h
 | add=>rw[AQ]at h;cases h
 | look=>rw[AE]at h;cases h
 | swap=>rw[AB]at h;cases h
 | clear=>rw[Av]at h;cases h
 | skip=>rw[AD]at h;cases h
theorem aeL(t:Tl)(i:Nat):i+1∈dh t i:=by
 unfold dh
 split
 ·exact(L5.yj _ _ _).mpr (.inl rfl)
 ·simp
theorem CN{part:Pt}(g:∀t∈part,cA part.length t):L5.sG (fU part):=by
 refine⟨λs hs m h=>?_,λj s h a ha=>?_,λj s h=>?_,λj s m h hm a ha=>?_⟩
 ·obtain⟨i,hi⟩:=zY hs;obtain⟨t,ht,rfl⟩:=CM hi;have:=JD (g t (bw ht)) h;exact⟨this.1,this.2.1⟩
 ·obtain⟨t,ht,rfl⟩:=CM h;rw[oZ];exact D1 (g t (bw ht)) (dC.mp ht).1 a ha
 ·obtain⟨t,ht,rfl⟩:=CM h;exact aeL t j
 ·obtain⟨t,ht,rfl⟩:=CM h;have:=JD (g t (bw ht)) hm;have ha:a∈dh t j:=ha;unfold dh at ha;rw[this.2.2,if_neg dk]at ha;simpa using ha
theorem aff(s:Tl)(i a:Nat):L5.behind (jx i s) a=gD s a:=rfl
theorem aeK{t:aW}{H:Hp}{v:V}{s:Tl}{l:Addr}{xs:List V}{o:HO}(h:iY t H v s)(hl:H l=some (.lst xs)):iY t (upd H l o) v s:=by
 obtain⟨z,a,dx,e,h⟩:=h;refine⟨z,a,dx,e,?_⟩;rw[ak λq=>by rw[q,hl]at h;cases h];exact h
def natOf:V->Nat
 | .int i=>i.toNat
 | _=>0
theorem Qa(row:List Nat):(row.map nV).map natOf=row:=by
 rw[lF];have:(natOf ∘ nV)=id:=by funext n;rfl
 rw[this,List.map_id]
def EM(lr:Addr)(B:Nat)(σ:L2.St)(H:Hp):Nat:=match (σ[3]? : Option (Option V)),H lr with
 | some (some (V.bl true)),some (HO.lst vs)=>1+B-(vs.map natOf).sum
 | _,_=>0
structure qX(t:aW)(part:Pt)(H0 H:Hp)(ls lr:Addr)(gL:List V)(row:List Nat):Prop where
 same:ah H0 H
 new:H0 lr=none
 steps:H ls=some (.lst gL)
 objs:Paired (iY t H) gL part
 row:H lr=some (.lst (row.map nV))
 ne:ls≠lr
theorem qX.grow{t:aW}{part:Pt}{H0 H H':Hp}{ls lr:Addr}{gL:List V}{row:List Nat}(s:qX t part H0 H ls lr gL row)(e:ah H H'):qX t part H0 H' ls lr gL row:=
 ⟨s.same.trans e,s.new,e _ _ s.steps,Paired.cF s.objs λ_ _ q=>q.same e,e _ _ s.row,s.ne⟩
theorem qX.set{t:aW}{part:Pt}{H0 H:Hp}{ls lr:Addr}{gL:List V}{row:List Nat}(s:qX t part H0 H ls lr gL row)(gE:List Nat):qX t part H0 (upd H lr (.lst (gE.map nV))) ls lr gL gE:=
 ⟨ye s.same s.new,s.new,by rw[ak s.ne];exact s.steps,Paired.cF s.objs λ_ _ q=>aeK q s.row,av,s.ne⟩
def Ux:Sp:=λvs H Q _=>∃(v:V) (part:Pt),vs=[v]/\IsPart H v part/\part.length<=120/\(∀t∈part,cA part.length t)/\∀(v':V) (row:List Nat) (H':Hp),ah H H'->(∃a,v'=.ref a/\H' a=some (.tup (row.map nV)))->L5.vG (fU part) row->Q v' H'
theorem pG:aZ ["part","steps","row","grown","place","step","behind","lacking","after"] ["part"] (aM Je):=a8
theorem RA(n:Nat):(cY n ([V.int 0]:List V)).flatten=(cY n 0).map nV:=by
 induction n with
 | zero=>rfl
 | succ n ih=>rw[vn,Cp,ih,vn];rfl
theorem ahI{t:aW}{u:lu}(T:jP K mg t u){f fB fL:Addr}{fd i3 jD:aQ}(F:aP K "marks_of_part" "marks_of_part" Je f fd)(p0:mg "enumerate" = none)
  (GB:ao P w K mg base au 2 fB i3 ["step","names"] (HZ t)) (kB:W.keepIn K (.ref fB)=true) (bB:Binds K i3 ["step","names"] []) (mB:mg "names_behind" = some (.ref fB))
  (GL:ao P w K mg base au 3 fL jD ["step","place","row"] (Jz t)) (kL:W.keepIn K (.ref fL)=true) (bL:Binds K jD ["step","place","row"] []) (mL:mg "places_lacking" = some (.ref fL)) :
  ao P w K mg base au 5 f fd ["part"] Ux:=by
 have GO:ao P w K mg base au 4 t.fO t.f6 ["told"] (yd t):=Aw T.st;refine F.ok pG (λvs H Q E h=>?_) λaD A _ s H vs Q E hr h=>?_
 ·obtain⟨v,part,rfl,_⟩:=h;rfl
 ·obtain⟨v,part,rfl,⟨a,aY,rfl,ha,vU⟩,hlen,hg,k⟩:=h;have kc:=hr.mono (show 2<=4 by decide);have wZ:=hr.mono (show 3<=4 by decide);have dB:aY.length=part.length:=Paired.length vU;have yZ:=CN hg
  refine⟨_,aA (Hl (i:=1) (N:=["told"]) (idx:=[]) pG.nd rfl rfl rfl (c9.of (by kernel_rfl)) (gC (bU _)) (mz (pv 0)) (λ_ _ _ _=>br (i:=0) RG rfl (aN rfl) (.inr rfl)) (λ_ _ _ _=>gZ)
    λ_ _ _ _=>bx GO hr rfl T.st.mO T.st.zc.kp T.st.bO .nil aO (ae (pv 0) af))
   (aA (cC (i:=2) pG.nd rfl (aN rfl) (aT DH (dY (ae aw af)) (aT fR (bp dR rfl T.st.bl.len PySem.boot_len (ae (pv 0) af)) aw))) (aA (cC (i:=3) pG.nd rfl (aN rfl) g9) (aA (acy ie (dD (pv 3)) (aA (cC (i:=3) pG.nd rfl (aN rfl) g9) (ax (ij ie rfl (tK (b:=true) rfl p0 (ae (pv 1) af)) (nQ rfl (gH (br (i:=4) pG.nd rfl (aN rfl)) (gH (br (i:=5) pG.nd rfl (aN rfl)) nO))) (aA (cC (i:=6) pG.nd rfl (aN rfl) (bx GB kc rfl mB kB bB .nil aO (ae (pv 5) (ae (aJ cO (pv 2) (pv 4)) af)))) (aA (cC (i:=7) pG.nd rfl (aN rfl) (bx GL wZ rfl mL kL bL .nil aO (ae (pv 5) (ae (pv 4) (ae (pv 2) af))))) (ax (ij ie rfl (o7 (pv 7)) (br (i:=8) pG.nd rfl (aN rfl)) (aA (qw (aT Bb (aJ cO (pv 2) (pv 8)) (pv 6)) (qy (pv 2) (pv 8) set_list)) (ax (cC (i:=3) pG.nd rfl (aN rfl) g9))))))))))) (ax (aS (qo rV rfl T.st.bl.tuple mi (ae (pv 2) af))))))),?_⟩
  refine⟨_,rfl,a,rfl,⟨_,ar.of ha⟩,?_⟩;refine fk (n:=aY.length) (λi ys H'=>i<=aY.length/\ah H H'/\Paired (iY t H') ys (part.take i)) ?_ ?_ ?_ ?_ ?_ ?_ ?_
  ·exact cg (cx om)
  ·exact⟨bU _,ah.refl _,.nil⟩
  ·rintro i ys H' ⟨_,_,e⟩;rw[Paired.length e,gz];omega
  ·rintro i ys H' hi ⟨_,s1,_⟩;exact⟨_,aY[i],ar.of (s1 _ _ ha),aR hi⟩
  ·rintro ys H' ⟨_,s1,_⟩;exact⟨_,ar.of (s1 _ _ ha),aB _⟩
  ·rintro i ys H' hi ⟨_,s1,e⟩ x gd ⟨eH,gc⟩;subst eH;obtain⟨td,jZ,b,rfl,hb⟩:=Paired.at' vU (gc _ (ar.of (s1 _ _ ha)));have gt:=hg td (bw jZ);refine⟨_,rfl,b,td.1,td.2.map λ(n:Nat)=>V.int (n:Int),rfl,s1 _ _ hb,Ay gt,⟨by rw[aH];have:=gt.len;omega,λy hy=>?_⟩,λz dx H2 s2 _ hz=>⟨hi,s1.trans s2,?_⟩⟩
   ·obtain⟨n,_,rfl⟩:=jJ.mp hy;exact⟨_,rfl⟩
   ·rw[kv,jZ];exact Paired.snoc (Paired.cF e λ_ _ q=>q.same s2) ⟨z,b,dx,rfl,hz⟩
  rintro gL H1 ⟨_,s1,wt⟩;rw[dB,jE (aB _)]at wt;have Fp:gL.length=part.length:=Paired.length wt;refine⟨by rw[Fp];exact cg (cx om),λls sU=>?_⟩;have e1:=aI (o:=.lst gL) (ah.refl H1) sU;refine⟨qc,λl0 hl0=>?_⟩;have e2:=aI (o:=.lst [.int 0]) (ah.refl _) hl0;refine⟨_,rfl,a,aY,rfl,.inr (ar.of (((s1.trans e1).trans e2) _ _ ha)),_,_,rfl,rfl,l0,_,_,rfl,rfl,av,om,om,?_,λlr uU=>?_⟩
  ·rw[show ([V.int 0]:List V).length=1 from rfl,jK];omega
  have elr:((aY.length:Int)+1).toNat=(fU part).length+1:=by rw[oZ];omega
  have e3:=aI (o:=.lst (cY ((aY.length:Int)+1).toNat [V.int 0]).flatten) (ah.refl _) uU
  have V4:qX t part H (upd (upd (upd H1 ls (.lst gL)) l0 (.lst [.int 0])) lr (.lst (cY ((aY.length:Int)+1).toNat [V.int 0]).flatten)) ls lr gL (cY ((fU part).length+1) 0):=by
   refine⟨((s1.trans e1).trans e2).trans e3,((s1.trans e1).trans e2).free uU,e3 _ _ (e2 _ _ av),Paired.cF wt λ_ _ q=>q.same ((e1.trans e2).trans e3),?_,?_⟩
   ·rw[av,RA,elr]
   ·exact bJ (e2 _ _ av) uU
  generalize upd (upd (upd H1 ls (.lst gL)) l0 (.lst [.int 0])) lr (.lst (cY ((aY.length:Int)+1).toNat [V.int 0]).flatten)=H2 at V4
  let B:Nat:=((fU part).length+1)*4096
  refine ab8 (λσ H'=>∃(row:List Nat) (g:Bool) (x4 x5 x6 x7 x8:Option V),σ=[some (.ref a),some (.ref ls),some (.ref lr),some (.bl g),x4,x5,x6,x7,x8]/\qX t part H H' ls lr gL row/\L5.Sound (fU part) row/\(g=false->L5.si (fU part) (fU part).length row))
   (EM lr B) ⟨_,true,none,none,none,none,none,rfl,V4,L5.aal _,λz=>by cases z⟩ ?_ ?_
  ·rintro σ H3 ⟨wc,g,x4,x5,x6,x7,x8,rfl,BI,Mx,Mp⟩;refine⟨_,rfl,g,rfl,?_⟩;cases g with
   | false=>
    refine dN ⟨_,rfl,lr,_,rfl,.inl ⟨aq.of BI.row,λq hq=>?_⟩⟩;exact k (.ref q) wc _ (BI.same.trans (aI (ah.refl _) hq)) ⟨q,rfl,av⟩ (L5.ac0 yZ Mx (Mp rfl))
   | true=>
    refine iq ?_;have hs0:=L5.Sj yZ Mx
    have hmu:EM lr B [some (V.ref a),some (V.ref ls),some (V.ref lr),some (V.bl true),x4,x5,x6,x7,x8] H3=1+B-wc.sum:=by
     unfold EM;rw[BI.row];show 1+B-((wc.map nV).map natOf).sum=_;rw[Qa]
    refine⟨_,rfl,ls,gL,rfl,aq.of BI.steps,vK (n:=gL.length) (λj σ H'=>∃(row:List Nat) (g:Bool) (x4 x5 x6 x7 x8:Option V),σ=[some (.ref a),some (.ref ls),some (.ref lr),some (.bl g),x4,x5,x6,x7,x8]/\qX t part H H' ls lr gL row/\L5.Sound (fU part) row/\ ((g=false/\row=wc/\L5.si (fU part) j wc)\/(g=true/\wc.sum<row.sum))) ⟨wc,false,x4,x5,x6,x7,x8,rfl,BI,Mx,.inl ⟨rfl,rfl,λj s hj=>absurd hj (Af _)⟩⟩ ?_ ?_ ?_ ?_⟩
    ·rintro j σ H4 hj ⟨_,_,_,_,_,_,_,_,jX,_⟩;exact⟨gL,gL[j],aq.of jX.steps,aR hj⟩
    ·rintro σ H4 ⟨_,_,_,_,_,_,_,_,jX,_⟩;exact⟨gL,aq.of jX.steps,aB _⟩
    ·rintro j σ H4 hj ⟨row,g,y4,y5,y6,y7,y8,rfl,jX,zu,BS⟩ zt H5 ⟨r,x,cH,ez,eH,gc⟩;subst ez;subst eH;have hx:=gc gL (aq.of jX.steps);obtain⟨td,jZ,hob⟩:=Paired.at' jX.objs hx;have gt:=hg td (bw jZ);have Xb:j<part.length:=om;have pU:=jX.grow (aI (o:=.tup [.int j,x]) (ah.refl _) cH);have dP:=zu.len;rw[oZ]at dP;have zI:j<row.length:=om;have MG:=hob.same (aI (o:=.tup [.int j,x]) (ah.refl _) cH);have ji:(fU part)[j]?=some (jx j td):=by rw[IW,jZ];rfl
     refine⟨r,[.int j,x],rfl,ar.of av,rfl,.int j,[x],rfl,x,[],rfl,rfl,?_⟩;generalize upd H4 r (.tup [.int j,x])=H6 at pU MG ⊢;refine⟨_,rfl,_,rfl,_,rfl,lr,_,_,_,rfl,rfl,aq.of pU.row,mU zI,x,td,_,_,rfl,MG,gt,?_⟩;refine⟨_,rfl,_,rfl,_,rfl,x,td,_,j,lr,row,rfl,MG,gt,.inl pU.row,zI,λa ha=>by have:=D1 gt Xb a ha;omega,λlk H7 s7 nk hk=>?_⟩;have jS:∀c,c∈lL td j row↔c∈dh td j/\gD td (row.getD j 0)-(gD td (row.getD j 0) &&& row.getD c 0)≠0:=λc=>by unfold lL;rw[mf,decide_eq_true_eq]
     generalize lL td j row=zs at hk jS ⊢;have st4:=pU.grow s7;have oK:lk≠lr:=λz=>by rw[z,pU.row]at nk;cases nk
     generalize hb:gD td (row.getD j 0)=b at jS ⊢
     have Nv:∀k,b.testBit k=true->(jx j td).kill=false/\(L5.R (fU part) k j\/(jx j td).set=some k):=by
      rw[<-hb];exact L5.ZL zu (j:=j) (st:=jx j td)
     refine⟨_,rfl,lk,rfl,⟨_,aq.of hk⟩,yg (xs:=zs.map nV) (λm σ H'=>∃(gE:List Nat) (g':Bool) (y:Option V),σ=[some (.ref a),some (.ref ls),some (.ref lr),some (.bl g'),some (.int j),some x,some (nV b),some (.ref lk),y]/\qX t part H H' ls lr gL gE/\H' lk=some (.lst (zs.map nV))/\L5.Sound (fU part) gE/\ (m=0->gE=row/\g'=g)/\(0<m->g'=true/\row.sum<gE.sum)) ⟨row,g,y8,rfl,st4,hk,zu,λ_=>⟨rfl,rfl⟩,λz=>absurd z (iH _)⟩ (λm σ H' _ ⟨_,_,_,_,_,h,_⟩=>aq.of h) ?_ ?_⟩
     ·rintro m v σ H8 hv ⟨gE,g',y,rfl,lx,W',E3,h0,h1⟩;rw[eJ]at hv;cases ez:zs[m]? with
      | none=>rw[ez]at hv;cases hv
      | some c=>
       rw[ez]at hv;cases hv;obtain⟨Xm,hZ⟩:=(jS c).mp (bw ez);have akT:=E3.len;have FJ:c<gE.length:=by have:=D1 gt Xb c Xm;rw[oZ]at akT;omega
       refine⟨_,rfl,_,rfl,lr,_,_,_,rfl,rfl,aq.of lx.row,mU FJ,_,rfl,_,_,rfl,rfl,?_⟩;refine⟨_,rfl,_,rfl,lr,_,_,c,rfl,rfl,lx.row,Ds (by rw[aH];exact FJ),?_⟩
       have L6:(gE.map nV).set c (V.int (xO ((gE.getD c 0:Nat):Int) (b:Int)))=(gE.set c (L5.bb gE c ||| b)).map nV:=by
        rw[AX,tF]
       refine⟨gE.set c (L5.bb gE c ||| b),true,some (nV c),rfl,?_,?_,L5.aa4 yZ E3 ji Xm Nv,λz=>absurd z (Nat.succ_ne_zero _),λ_=>⟨rfl,?_⟩⟩
       ·have:=lx.set (gE.set c (L5.bb gE c ||| b));rw[<-L6]at this;exact this
       ·rw[ak oK];exact W'
       ·have amH:=L5.sum_set (v:=L5.bb gE c ||| b) FJ;have oM:L5.bb gE c<=L5.bb gE c ||| b:=Nat.left_le_or
        by_cases uS:m=0
        ·obtain⟨er,_⟩:=h0 uS;subst er;have:L5.bb gE c<L5.bb gE c ||| b:=L5.ahy λz=>hZ (L5.without.mpr z)
         omega
        ·have:=(h1 om).2;omega
     ·rintro σ H8 ⟨gE,g',y,rfl,lx,W',E3,h0,h1⟩;rw[aH]at h0 h1;refine⟨gE,g',_,_,_,_,_,rfl,lx,E3,?_⟩
      by_cases uS:zs.length=0
      ·obtain⟨er,eg⟩:=h0 uS;subst er;subst eg;rcases BS with ⟨zJ,dQ,FK⟩ | ⟨uX,M5⟩
       ·refine .inl ⟨zJ,dQ,?_⟩;subst dQ;intro i' s' pZ zE c hc
        by_cases e:i'<j
        ·exact FK i' s' e zE c hc
        ·have e':i'=j:=om;subst e';rw[ji]at zE;cases zE;rw[<-L5.without];have ak3:zs=[]:=FU uS;rw[ak3]at jS;have nF:=mt (jS c).mpr (by simp);rw[aff,show gD td (L5.bb gE i')=b from hb];exact NZ λz=>nF ⟨hc,z⟩
       ·exact .inr ⟨uX,M5⟩
      ·obtain⟨eg,wY⟩:=h1 om;refine .inr ⟨eg,?_⟩;rcases BS with ⟨_,dQ,_⟩ | ⟨_,M5⟩
       ·rw[<-dQ];exact wY
       ·omega
    ·rintro σ H4 ⟨row,g,y4,y5,y6,y7,y8,rfl,jX,zu,BS⟩;refine⟨⟨row,g,y4,y5,y6,y7,y8,rfl,jX,zu,λzJ=>?_⟩,?_⟩
     ·rcases BS with ⟨_,dQ,FK⟩ | ⟨uX,_⟩
      ·rw[dQ];have e:gL.length=(fU part).length:=by rw[oZ];exact Fp
       rw[<-e];exact FK
      ·rw[uX]at zJ;cases zJ
     ·rw[hmu];rcases BS with ⟨zJ,_,_⟩ | ⟨uX,M5⟩
      ·rw[zJ];show 0<_;omega
      ·rw[uX];unfold EM;rw[jX.row];show 1+B-((row.map nV).map natOf).sum<_;rw[Qa];have:=L5.Sj yZ zu;omega
  ·rintro σ H' Q1 Q2 hQ ⟨v,e,d,ed,q⟩;exact⟨v,e,d,ed,hQ _ _ q⟩
def yR(rows:List (List Nat))(ps:List Pt):Prop:=Paired (λrow p=>L5.vG (fU p) row) rows ps
def Uw:Sp:=λvs H Q _=>∃(v:V) (ps:List Pt),vs=[v]/\jo H v ps/\kQ ps/\∀(v':V) (rows:List (List Nat)) (H':Hp),ah H H'->jw H' v' rows->yR rows ps->Q v' H'
theorem aj3:aZ ["program"] ["program"] (aM JJ):=a8
theorem aeS{v0:Option V}{a:Addr}{aY:List V}{ps:List Pt}{H:Hp}{n:Nat}{te:TE}{σ0:L2.St}{KK:List V->Hp->Prop}(vU:Paired (IsPart H) aY ps)(hg:kQ ps)(ha:H a=some (.tup aY)){H1:Hp}(s0:ah H H1)
  (MZ:∀(x:V) (part:Pt) (H2:Hp) (Q:VK),ah H H2->IsPart H2 x part->part.length<=120->(∀t∈part,cA part.length t)->(∀(v':V) (row:List Nat) (H':Hp),ah H2 H'->sv H' v' row->L5.vG (fU part) row->Q v' H')->te (σ0.set n (some x)) H2 Q)
  (yX:∀(us:List V) (rows:List (List Nat)) (H2:Hp),ah H1 H2->Paired (sv H2) us rows->yR rows ps->us.length<=4->KK us H2):Ea (Mt K a) (iX n) lO te σ0 H1 KK:=by
 have dB:aY.length=ps.length:=Paired.length vU;have hle:=hg.le;refine fk (n:=aY.length) (λi ys H'=>i<=aY.length/\ah H1 H'/\∃rows,Paired (sv H') ys rows/\yR rows (ps.take i)) ?_ ?_ ?_ ?_ ?_ ?_ ?_
 ·exact cg (cx om)
 ·exact⟨bU _,ah.refl _,[],.nil,.nil⟩
 ·rintro i ys H' ⟨_,_,rows,e1,e2⟩;rw[Paired.length e1,Paired.length e2,gz];omega
 ·rintro i ys H' hi ⟨_,s1,_⟩;exact⟨_,aY[i],ar.of ((s0.trans s1) _ _ ha),aR hi⟩
 ·rintro ys H' ⟨_,s1,_⟩;exact⟨_,ar.of ((s0.trans s1) _ _ ha),aB _⟩
 ·rintro i ys H' hi ⟨_,s1,rows,e1,e2⟩ x gd ⟨eH,gc⟩;subst eH;obtain⟨p,hp,rm⟩:=Paired.at' vU (gc _ (ar.of ((s0.trans s1) _ _ ha)));obtain⟨g1,g2⟩:=hg.part p (bw hp);refine MZ x p _ _ (s0.trans s1) (rm.same (s0.trans s1)) g1 g2 λv' row H2 s2 hr hm=>⟨hi,s1.trans s2,rows++[row],Paired.snoc (Paired.cF e1 λ_ _ q=>q.same s2) hr,?_⟩;rw[kv,hp];exact Paired.snoc e2 hm
 ·rintro ys H' ⟨_,s1,rows,e1,e2⟩;rw[dB,jE (aB _)]at e2;refine yX ys rows H' s1 e1 e2 ?_;rw[Paired.length e1,Paired.length e2];exact hle
theorem ahH{f fP:Addr}{fd p6:aQ}(F:aP K "marks" "marks" JJ f fd)(B:Bl mg)(GP:ao P w K mg base au 5 fP p6 ["part"] Ux)(kP:W.keepIn K (.ref fP)=true)(bP:Binds K p6 ["part"] [])(mP:mg "marks_of_part" = some (.ref fP)) :
  ao P w K mg base au 6 f fd ["program"] Uw:=by
 refine F.ok aj3 (λvs H Q E h=>?_) λaD A _ s H vs Q E hr h=>?_
 ·obtain⟨v,ps,rfl,_⟩:=h;rfl
 ·obtain⟨v,ps,rfl,⟨a,aY,rfl,ha,vU⟩,hg,k⟩:=h
  refine⟨_,ax (aS (qo rV rfl B.tuple mi (ae (gh (N:=["part"]) (idx:=[]) rfl (c9.of (by kernel_rfl)) (gC (bU _)) (mz (pv 0))
   (λ_ _ _ _=>br (i:=0) RH rfl (aN rfl) (.inr rfl)) (λ_ _ _ _=>gZ) λ_ _ _ _=>bx GP hr rfl mP kP bP .nil aO (ae (pv 0) af)) af))),?_⟩
  refine⟨_,rfl,a,rfl,⟨_,ar.of ha⟩,aeS (v0:=none) vU hg ha (ah.refl H) (λx part H2 Q2 s2 hp h1 h2 q=>?_) λus rows H2 s2 hr hm hl=>?_⟩
  ·exact⟨_,rfl,x,part,rfl,hp,h1,h2,q⟩
  ·refine⟨cg (cx om),λr cH=>⟨r,us,rfl,.inl ⟨aq.of av,λq hq=>?_⟩⟩⟩;have s3:=aI (o:=.lst us) (ah.refl H2) cH;have s4:=aI (o:=.tup us) s3 hq;exact k _ rows _ (s2.trans s4) ⟨q,us,rfl,av,Paired.cF hr λ_ _ z=>z.same s4⟩ hm
def VP(pre:L2.St->Prop):TE:=λσ H Q=>pre σ/\∀n:Nat,n<4096->Q (nV n) H
def Mb(pre:L2.St->Prop)(n:Nat):TA:=λσ H Q=>pre σ/\∀vs:List V,vs.length=n->(∀v∈vs,∃k:Nat,v=nV k/\k<4096)->Q vs H
section
variable{X:Cx}{pre:L2.St->Prop}{e:Expr}{es:List Expr}{n:Nat}
theorem af7:PA X [] (Mb pre 0):=af.imp λ_ H _ h=>h.2 [] rfl (λ_ z=>by cases z)
theorem Dp(he:PE X e (VP pre))(hn:notStar e=true)(hr:PA X es (Mb pre n)):PA X (e::es) (Mb pre (n+1)):=(ae he hr (Dz hn)).imp λσ H Q h=>
 ⟨h.1,λk hk=>⟨h.1,λvs hl jz=>h.2 (nV k::vs) (by rw[gU,hl]) λx hx=>by rcases bR.mp hx with e | e;(rw[e];exact⟨k,rfl,hk⟩);exact jz x e⟩⟩
theorem UT{m:Nat}{p:Pos}:PE X (.Constant (.int 0) m p) (VP pre):=aw.imp λσ H Q h=>h.2 0 qc
end
theorem IU{part:Pt}{i:Nat}{td:Tl}(h:part[i]?=some td):(fU part)[i]?=some (jx i td):=by rw[IW,h];rfl
def Ur(K:W.Frag):Sp:=λvs H Q _=>∃(sa:Addr) (ns:List Int) (c:Nat) (v:V) (part:Pt),vs=[.ref sa,nV c,v]/\aq K H sa (ns.map V.int)/\ns.length<=63/\c<4/\IsPart H v part/\part.length<=120/\(∀t∈part,cA part.length t)/\
 ∀(v':V) (row:List Nat) (H':Hp),ah H H'->sv H' v' row->row.length=part.length+1->(∀x∈row,x<4096)->L5.si (fU part) part.length row->Q v' H'
theorem ud:aZ ["_law_script","_law_clerk","_law_steps","_law_sets_here","_law_place","_law_draw_here","_law_turn","_law_needs_here"] ["_law_script","_law_clerk","_law_steps"] (aM JN):=a8
def akd:L2.St->Prop:=λσ=>∃d:Nat,σ[5]?=some (some (nV d))
theorem ahC{f fD fE:Addr}{fd vf B':aQ}(F:aP K "_law_sets" "_law_sets" JN f fd)(B:Bl mg)(dH:mg "range" = none)
  (GD:ao P w K mg base au 1 fD vf ["_law_script","_law_k"] (Dy K)) (kD:W.keepIn K (.ref fD)=true) (bD:Binds K vf ["_law_script","_law_k"] []) (mD:mg "_law_draw" = some (.ref fD))
  (GE:ao P w K mg base au 1 fE B' ["_law_step_here","_law_some"] Uv) (kE:W.keepIn K (.ref fE)=true) (bE:Binds K B' ["_law_step_here","_law_some"] []) (mE:mg "_law_needs" = some (.ref fE)) :
  ao P w K mg base au 2 f fd ["_law_script","_law_clerk","_law_steps"] (Ur K):=by
 refine F.ok ud (λvs H Q E h=>?_) λaD A _ s H vs Q E hr h=>?_
 ·obtain⟨sa,ns,c,v,part,rfl,_⟩:=h;rfl
 ·obtain⟨sa,ns,c,v,part,rfl,WY,Nd,hc,⟨a,aY,rfl,ha,hv⟩,dB,lB,k⟩:=h;have hlen:aY.length=part.length:=Paired.length hv;have yZ:=CN lB
  refine let R1:TS:=_;let R2:TS:=_;let R3:TS:=_;let R4:TS:=_;let R5:TS:=_;let R6:TS:=_;let R7:TS:=_;⟨_,aA (cC (i:=3) ud.nd rfl (aN rfl) (dY af)) (pR R7 (aA (ij ie rfl (jk rfl dH (ae (aT fR (bp dR rfl B.len PySem.boot_len (ae (pv 2) af)) aw) af)) (br (i:=4) ud.nd rfl (aN rfl)) (aA (cC (i:=5) ud.nd rfl (aN rfl) (bx GD hr rfl mD kD bD .nil aO (ae (pv 0) (ae (aT fR (aT fR aw (aT tV aw (pv 1))) (pv 4)) af)))) (pR R1 (ax (gg (qD PySem.F.plainAttrs_list PySem.F.slot_list_append PySem.F.type_list_append vx (pv 3) (ae (aJ cO (dY (PA.imp (Dp (pre:=akd) UT rfl (Dp UT rfl (Dp ((aT A4 aw (aT g6 (aT lI (pv 5) aw) aw)).imp λσ H Q q=>by
       obtain⟨⟨d,hd⟩,q⟩:=q;have hm:d/64%12<12:=CL _ qc;have q:=q (1 <<< (d/64%12)) (L5.Dq λk hk=>by rw[L5.yn,decide_eq_true_eq]at hk;omega);rw[show nV (1 <<< (d/64%12))=V.int ((1:Int)*(2:Int)^((d/64%12:Nat):Int).toNat) by rw[Di]]at q;exact⟨_,hd,_,_,rfl,rfl,⟨qc,qc⟩,_,_,rfl,rfl,(by show (0:Int)<12;decide),_,_,rfl,rfl,⟨(by show (0:Int)<=((d/64%12:Nat):Int);omega),(by show ((d/64%12:Nat):Int)<=_;omega),qc⟩,q⟩) rfl
      (Dp ((aT A5 (aT g6 (aT lI (pv 5) aw) aw) (aT lI (pv 5) aw)).imp λσ H Q q=>by
       obtain⟨⟨d,hd⟩,q⟩:=q;have q:=q (d/64%4096 &&& d/512) (sZ Gs (CL _ qc));rw[show nV (d/64%4096 &&& d/512)=V.int (qd ((d/64%4096:Nat):Int) ((d/512:Nat):Int)) by rw[C8]]at q;exact⟨_,hd,_,_,rfl,rfl,⟨qc,qc⟩,_,_,rfl,rfl,(by show (0:Int)<4096;decide),_,hd,_,_,rfl,rfl,⟨qc,qc⟩,_,_,rfl,rfl,q⟩) rfl af7)))) (λσ H Q q=>q)))
     (aT g6 (pv 5) aw) λ_ _=>rfl) af)))))))
   (pR R6 (aA (bQ (cy dE (aT g6 (bx GD hr rfl mD kD bD .nil aO (ae (pv 0) (ae (aw) af))) aw) aw (bX _)) (ax (cC (i:=3) ud.nd rfl (aN rfl) (aT DH (dY (ae aw af)) (bp dR rfl B.len PySem.boot_len (ae (pv 3) af))))) cq) (pR R5 (aA (ij ie rfl (jk rfl dH (ae (aT fR (bp dR rfl B.len PySem.boot_len (ae (pv 2) af)) aw) af)) (br (i:=6) ud.nd rfl (aN rfl)) (ax (ij ie rfl (jk rfl dH (ae (bp dR rfl B.len PySem.boot_len (ae (pv 2) af)) af)) (br (i:=4) ud.nd rfl (aN rfl)) (aA (cC (i:=7) ud.nd rfl (aN rfl) (bx GE hr rfl mE kE bE .nil aO (ae (aJ cu (pv 2) (pv 4)) (ae (aJ cO (pv 3) (pv 4)) af)))) (pR R3 (aA (qw (aT Bb (aJ cO (pv 3) (aT fR (pv 4) aw)) (pv 7)) (qy (pv 3) (aT fR (pv 4) aw) set_list)) (pR R2 (ax (bQ (cy dE (aJ cu (aJ cu (pv 2) (pv 4)) (aw)) cV (bX _)) (ax (qw (aT Bb (aJ cO (pv 3) (aJ cu (aJ cu (pv 2) (pv 4)) (aw))) (pv 7)) (qy (pv 3) (aJ cu (aJ cu (pv 2) (pv 4)) (aw)) set_list))) cq))))))))) (pR R4 (ax (aS (qo rV rfl B.tuple mi (ae (pv 3) af))))))))))),?_⟩
  have uJ:∀{H':Hp},ah H H'->∀{i:Nat},i<part.length->∃td tb,part[i]?=some td/\fw aY (i:Int)=some (.ref tb)/\H' tb=some (.tup (tv td)):=λ{H'} s' {i} hi=>by
   have hx:aY[i]?=some (aY[i]' om):=aR om;obtain⟨td,jZ,tb,e,rj⟩:=Paired.at' hv hx;exact⟨td,tb,jZ,by rw[<-e];exact cD hx,s' _ _ rj⟩
  refine⟨qc,λlr uU=>?_⟩;have s0:=aI (o:=.lst []) (ah.refl H) uU;refine⟨_,rfl,a,aY,rfl,.inr (ar.of (s0 _ _ ha)),_,_,rfl,rfl,_,rfl,om,om,?_⟩;have FP:((aY.length:Int)+1).toNat=part.length+1:=om;rw[FP]
  have fin:∀(l:Addr) (row:List Nat) (H1:Hp) (x4 x5:Option V),H l=none->ah H H1->H1 l=some (.lst (row.map nV))->row.length=part.length+1->(∀x∈row,x<4096)->R5 { nx:=λ_ H'=>Q .aE H',rt:=Q } [some (.ref sa),some (nV c),some (.ref a),some (.ref l),x4,x5,none,none] H1:=λl row H1 x4 x5 hl s1 h1 dP h4=>by
   refine⟨_,rfl,a,aY,rfl,.inr (ar.of (s1 _ _ ha)),_,_,rfl,rfl,_,rfl,om,om,?_⟩;rw[FP]
   refine r6 (n:=part.length+1) (λj σ H'=>∃(row:List Nat) (x4 x5 x6 x7:Option V),σ=[some (.ref sa),some (nV c),some (.ref a),some (.ref l),x4,x5,x6,x7]/\ah H H'/\H' l=some (.lst (row.map nV))/\row.length=part.length+1/\(∀x∈row,x<4096)/\L5.Tn (fU part) j row)
    ⟨row,_,_,_,_,rfl,s1,h1,dP,h4,L5.Tn.zero _ _⟩ ?_ ?_
   ·rintro j σ H3 hj ⟨Eo,y4,y5,y6,y7,rfl,s3,h3,Bx,NF,tn⟩;refine⟨_,rfl,a,aY,rfl,.inr (ar.of (s3 _ _ ha)),_,rfl,om,om,?_⟩;have alE:((aY.length:Int)).toNat=part.length:=om;rw[alE]
    refine r6 (n:=part.length) (λi σ H'=>∃(row:List Nat) (x4 x5 x6 x7:Option V),σ=[some (.ref sa),some (nV c),some (.ref a),some (.ref l),x4,x5,x6,x7]/\ah H H'/\H' l=some (.lst (row.map nV))/\row.length=part.length+1/\(∀x∈row,x<4096)/\L5.Sw (fU part) Eo i row)
     ⟨Eo,_,_,_,_,rfl,s3,h3,Bx,NF,L5.Sw.zero _ _⟩ ?_ ?_
    ·rintro i σ H4 hi ⟨ff,z4,z5,z6,z7,rfl,s4,h4,wq,B7,sw⟩;refine tI (y:=nV i) (by show V.int (0+(i:Int))=V.int (i:Int);rw[oW]) ?_;obtain⟨td,tb,jZ,hat,rj⟩:=uJ s4 hi;have gt:=lB td (bw jZ);have ji:=IU jZ;refine⟨_,rfl,_,rfl,a,_,_,_,rfl,rfl,ar.of (s4 _ _ ha),hat,_,rfl,_,rfl,l,_,_,_,rfl,rfl,aq.of h4,mU om,.ref tb,td,part.length,_,rfl,⟨tb,rfl,rj⟩,gt,?_⟩;have Nw:gD td (ff.getD i 0)<4096:=L5.abZ (s:=⟨setB td,iJ td,[]⟩) (L5.Bg B7) λm hm=>A0 gt hm;have ebe:L5.behind (jx i td) (L5.bb ff i)=gD td (ff.getD i 0):=rfl;have LO:=λ(hn:∀x,x∈(jx i td).nx↔x=i+1)=>L5.afQ (s:=jx i td) (j:=i) (c:=i+1) (r:=ff) om hn;have put2:=λ(q:Nat) (hq:q<=part.length) (hn:∀x,x∈(jx i td).nx↔x=i+1\/x=q)=>L5.aep (s:=jx i td) (j:=i) (c:=i+1) (d:=q) (r:=ff) om om hn;rw[ebe]at LO put2;generalize gD td (ff.getD i 0)=b at Nw LO put2 ⊢;have ei:((i:Nat):Int)+1=((i+1:Nat):Int):=om;refine⟨_,rfl,_,rfl,_,_,rfl,rfl,l,_,_,nV (ff.getD (i+1) 0),rfl,rfl,aq.of h4,(by rw[ei];exact mU om),_,rfl,_,_,rfl,rfl,_,rfl,_,rfl,_,_,rfl,rfl,l,_,_,i+1,rfl,rfl,h4,(by rw[ei,aH];exact Ds om),?_⟩;rw[show (ff.map nV).set (i+1) (V.int (xO ((ff.getD (i+1) 0:Nat):Int) (b:Int)))=(ff.set (i+1) (ff.getD (i+1) 0 ||| b)).map nV by rw[AX,tF]];have s5:=ye (o:=.lst ((ff.set (i+1) (ff.getD (i+1) 0 ||| b)).map nV)) s4 hl;have h5:upd H4 l (.lst ((ff.set (i+1) (ff.getD (i+1) 0 ||| b)).map nV)) l=some (.lst ((ff.set (i+1) (ff.getD (i+1) 0 ||| b)).map nV)):=av;have Fh:=L5.A0 (c:=i+1) B7 (L5.Tw (L5.Bg (c:=i+1) B7) Nw)
     have Ep:upd H4 l (.lst ((ff.set (i+1) (ff.getD (i+1) 0 ||| b)).map nV)) tb=some (.tup (tv td)):=by
      rw[ak λz=>by rw[z,h4]at rj;cases rj];exact rj
     generalize upd H4 l (.lst ((ff.set (i+1) (ff.getD (i+1) 0 ||| b)).map nV))=H5 at s5 h5 Ep ⊢;refine⟨_,rfl,_,rfl,a,_,_,_,rfl,rfl,ar.of (s5 _ _ ha),hat,tb,_,_,_,rfl,rfl,ar.of Ep,AN td,rfl,_,rfl,b9 (λh=>?_) λh=>?_⟩
     ·have hw:=str_inj h;cases gt with
      | skip r q q1 q2 q3=>
       have xj:∀x,x∈(jx i (("skip" : Str),[r,q])).nx↔x=i+1\/x=q:=λx=>by
        show x∈dh (("skip" : Str),[r,q]) i↔_;rw[Jn];exact L5.yj _ _ _
       have M':q<(ff.set (i+1) (ff.getD (i+1) 0 ||| b)).length:=by rw[iy];omega
       have X4:fw (tv (("skip" : Str),[r,q])) 2=some (nV q):=cD (j:=2) rfl;refine⟨_,rfl,_,rfl,_,rfl,a,_,_,_,rfl,rfl,ar.of (s5 _ _ ha),hat,tb,_,_,_,rfl,rfl,ar.of Ep,X4,l,_,_,_,rfl,rfl,aq.of h5,mU M',_,rfl,_,_,rfl,rfl,_,rfl,_,rfl,_,rfl,a,_,_,_,rfl,rfl,ar.of (s5 _ _ ha),hat,tb,_,_,_,rfl,rfl,ar.of Ep,X4,l,_,_,q,rfl,rfl,h5,(by rw[aH];exact Ds M'),?_⟩;generalize M6:ff.set (i+1) (ff.getD (i+1) 0 ||| b)=yT at h5 Fh put2 M' ⊢;rw[show (yT.map nV).set q (V.int (xO ((yT.getD q 0:Nat):Int) (b:Int)))=(yT.set q (yT.getD q 0 ||| b)).map nV by rw[AX,tF]];have pu:=put2 q q2 xj;refine⟨yT.set q (yT.getD q 0 ||| b),_,_,_,_,rfl,ye s5 hl,av,by rw[iy,<-M6,iy];exact wq,L5.A0 Fh (L5.Tw (L5.Bg (c:=q) Fh) Nw),sw.step ji ?_⟩;exact pu
      | put=>exact absurd hw (by show ¬(("put" : Str) = "skip");decide +kernel)
      | add=>exact absurd hw (by show ¬(("add" : Str) = "skip");decide +kernel)
      | set=>exact absurd hw (by show ¬(("set" : Str) = "skip");decide +kernel)
      | look=>exact absurd hw (by show ¬(("look" : Str) = "skip");decide +kernel)
      | swap=>exact absurd hw (by show ¬(("swap" : Str) = "skip");decide +kernel)
      | clear=>exact absurd hw (by show ¬(("clear" : Str) = "skip");decide +kernel)
     ·have xj:∀x,x∈(jx i td).nx↔x=i+1:=λx=>by
       show x∈dh td i↔_;unfold dh;rw[if_neg λz=>h (by rw[z])];simp
      exact⟨ff.set (i+1) (ff.getD (i+1) 0 ||| b),_,_,_,_,rfl,s5,h5,by rw[iy];exact wq,Fh,sw.step ji (LO xj)⟩
    ·rintro σ H4 ⟨ff,z4,z5,z6,z7,rfl,s4,h4,wq,B7,sw⟩;rw[<-oZ part]at sw;exact⟨ff,_,_,_,_,rfl,s4,h4,wq,B7,tn.step sw⟩
   ·rintro σ H3 ⟨Eo,y4,y5,y6,y7,rfl,s3,h3,Bx,NF,tn⟩;refine⟨_,rfl,l,_,rfl,.inl ⟨aq.of h3,λtp jA=>?_⟩⟩;rw[<-oZ part]at tn Bx;refine k (.ref tp) Eo _ (aI s3 jA) ⟨tp,rfl,av⟩ (by rw[Bx,oZ]) NF ?_;rw[<-oZ part];exact tn.done yZ Bx
  refine r6 (n:=part.length+1) (λj σ H'=>∃(row:List Nat) (x4 x5:Option V),σ=[some (.ref sa),some (nV c),some (.ref a),some (.ref lr),x4,x5,none,none]/\ah H H'/\H' lr=some (.lst (row.map nV))/\row.length=j/\∀x∈row,x<4096)
   ⟨[],none,none,rfl,s0,av,rfl,λx hx=>nomatch hx⟩ ?_ ?_
  ·rintro j σ H1 hj ⟨row,x4,x5,rfl,s1,h1,dP,h4⟩;refine tI (y:=nV j) (by show V.int (0+(j:Int))=V.int (j:Int);rw[oW]) ?_;refine⟨_,rfl,_,rfl,_,_,rfl,rfl,.inl ⟨qc,qc⟩,_,_,rfl,rfl,_,rfl,_,_,rfl,rfl,sa,ns,_,rfl,s1.seq WY,Nd,om,om,λd H2 s2 hd=>?_⟩;have h2:=s2 _ _ h1;refine⟨_,rfl,.inl ⟨rfl,_,aq.of h2⟩,⟨d,rfl⟩,λvs Fo jz=>⟨by rw[Fo];decide,λq hq=>?_⟩⟩;obtain⟨x,hx,jS⟩:=Ta (xs:=vs) (d:=(d:Int)) (n:=4) Fo qc;obtain⟨n,rfl,BV⟩:=jz x jS;have s3:=aI (o:=.lst vs) (ah.refl H2) hq;refine⟨_,rfl,_,_,rfl,rfl,(by show (0:Int)<4;decide),q,_,_,_,rfl,rfl,aq.of av,hx,?_⟩;have h3:=s3 _ _ h2;have uF:=s1.trans (s2.trans s3);generalize upd H2 q (.lst vs)=H3 at h3 uF;refine⟨lr,_,_,rfl,rfl,h3,cx (by rw[aH];omega),row++[n],_,_,rfl,ye uF uU,?_,by rw[fQ,dP];rfl,λx hx=>?_⟩
   ·rw[av,gf];rfl
   ·rcases jH.mp hx with z | z
    ·exact h4 x z
    ·rw[eN.mp z];exact BV
  ·rintro σ H1 ⟨row,x4,x5,rfl,s1,h1,dP,h4⟩;refine⟨_,rfl,sa,ns,3,rfl,s1.seq WY,Nd,qc,qc,λd H2 s2 hd=>?_⟩;have oJ:=s1.trans s2;have h2:=s2 _ _ h1;refine⟨_,_,rfl,rfl,(by show (0:Int)<2;decide),rfl,_,rfl,b9 (λ_=>?_) λ_=>?_⟩
   ·refine⟨qc,λl1 BK=>?_⟩;have s3:=aI (o:=.lst [.int 0]) oJ BK;refine⟨_,rfl,lr,_,rfl,.inl (aq.of (aI (ah.refl _) BK _ _ h2)),l1,_,_,rfl,rfl,av,om,by rw[aH];omega,by rw[aH];exact cg (cx (by show 1*((row.length:Int)).toNat<=1000;omega)),λp hp=>?_⟩
    have e:(cY (((row.map nV).length:Int)).toNat ([V.int 0]:List V)).flatten=(cY (part.length+1) 0).map nV:=by
     rw[aH,dP,gy];exact RA _
    rw[e];exact fin p (cY (part.length+1) 0) _ _ _ (s3.free hp) (aI s3 hp) av (xx) λx hx=>by rw[(List.mem_replicate.mp hx).2];decide
   ·exact fin lr row H2 _ _ uU oJ h2 dP h4
theorem lh.bounds{S:Mc}(w:lh S){c:Nat}{k:Ck}(h:S.ck[c]?=some k):k.es.length<=15000:=cZ (w.es k (bw h)) w.ac
def zk(S:Mc):Prop:=∀o∈S.ov,o.length<=16000
theorem aat{es:List Ent}{n:Nat}{e:Ent}(h:(cG es n).head?=some e):e.n=(n:Int):=by
 have hm:=List.mem_of_mem_head? h;unfold cG at hm;have:=(mf.mp hm).2;simpa using this
def iM(S:Mc)(a:Act):Mc:={ S with ac:=S.ac++[a] }
def yQ(S:Mc)(c n:Nat)(k:Ck)(g:Int):Mc:={ S with ck:=S.ck.set c { k with tn:=k.tn+1,es:=k.es++[⟨k.tn,n,g,S.ac.length⟩] } }
def setM(S:Mc)(c n r:Nat):Mc:=match S.ck[c]? with
 | none=>S
 | some k=>
  let g:=k.rg.getD r 0
  let S':=iM (yQ S c n k g) ⟨"set",c,n,none,some g,none⟩
  if S.kd = "none" then qz S' c n else S'
def iC(S:Mc)(c r:Nat)(v:Int):Mc:=match S.ck[c]? with
 | none=>S
 | some k=>{ S with ck:=S.ck.set c { k with rg:=k.rg.set r v } }
def dA(S:Mc)(k:Ck)(n:Nat):Int×Option Int:=match Dr k.es n with
 | some e=>(e.num,some e.d)
 | none=>(S.bd.getD n 0,(S.ov.getD n []).getLast?)
def qF(S:Mc)(c r n:Nat):Mc:=match S.ck[c]? with
 | none=>S
 | some k=>iC (iM S ⟨"look",c,n,some (dA S k n).1,none,(dA S k n).2⟩) c r (dA S k n).1
def sk(S:Mc)(c r n:Nat):Mc:=match S.ck[c]? with
 | none=>S
 | some k=>
  let g:=k.rg.getD r 0
  iC (iM (qu S n g S.ac.length) ⟨"swap",c,n,some (S.bd.getD n 0),some g,(S.ov.getD n []).getLast?⟩) c r (S.bd.getD n 0)
section
variable{t:aW}{C CT:Addr}{u:jW}
def IY(t:aW)(C CT PT:Addr):Sp:=λvs H Q _=>∃m A S c k n lab,vs=[.ref m,.int (c:Nat),.int (n:Nat)]/\bo t C CT H m A S/\jQ lab m A/\de PT LP LQ H/\S.ck[c]?=some k/\(n:Int)∈iU S.kd k.es/\n<12/\S.bd.length=12/\S.ov.length=12/\zk S/\
 ∀H',bo t C CT H' m A (qz S c n)->a9 (dq m A) H H'->de PT LP LQ H'->Q .aE H'
theorem aeg:aZ ["self","clerk","name"] ["self","clerk","name"] (aM JR):=a8
theorem acO{f fT fC PT kU:Addr}{fd vc ma:aQ}(F:aP K "carry" "Machine.carry" JR f fd)(cM:je K C)(cT:kN K CT)
  (GT:ao P w K mg base (lU P w) 3 fT vc ["self","name"] (Sl CT PT kU)) (bT:Binds K vc ["self","name"] []) (mT:Meth K CT "take" fT)
  (GC:ao P w K mg base au 1 fC ma ["self","setting"] (JB t C CT)) (bC:Binds K ma ["self","setting"] []) (mC:Meth K C "come" fC):ao P w K mg base au 4 f fd ["self","clerk","name"] (IY t C CT PT):=by
 have NU:=J' GT;refine F.ok aeg (λvs H Q E h=>?_) λaD A _ s H vs Q E hr h=>?_
 ·refine dZ h λm A S c k aa=>b8 aa λn lab aa _=>?_;subst aa;rfl
 ·obtain⟨m,A,S,c,k,n,lab,aa,M,L,bg⟩:=h;subst aa;refine mG bg λhL hk hf hn hb aa=>dU aa λho lC q=>?_;have dQ:=hr.mono (show 1<=3 by decide);refine ur (ax (gg (i8 (pv 0) cM.cl mC GC dQ bC .nil aO (ae (i8 (aJ cO (bf (pv 0) rfl) (pv 1)) cT.cl mT NU hr bT .nil aO (ae (pv 2) af)) af)))) (b8 (id M.obj) λdx fs hm G=>ay (M.vW hk) λx hx T=>eO (id T.obj) λvh rD ea e1 e2 e3 em el=>vM rfl hm (G.ms _ dk) (vF rfl hm cM.cl cM.gK G.gK (vr rfl (rL (v:=.ref x.1) (aq.of M.lt) (Am hx) (rM ea (em _ dk) (vr rfl (⟨x.1,n,_,_,_,_,(gJ _ rfl T hL (λ_ H1 e st he T1 k1 p5 cX=>?_) λz=>absurd hf z)⟩)))))));rw[gy]at he;have en:=aat he;rw[en]at cX;have M1:=Tj M L hk hx k1 T1;refine⟨m,A,_,st,n,e.num,e.d,lab,rfl,M1,L,cX,hn,hb,(gu ho lC λH2 M2 k2 l2=>q H2 ?_ ((a9.Mi k1 λb hb=>.ts (bw hx) hb).trans k2) (l2.lam p5))⟩;unfold qz;rw[hk];dsimp only;rw[he];exact M2
theorem ae8(a:Addr)(n r:Nat):cW (.ref a) "set" ([n,r].map λ(n:Nat)=>V.int (n:Int))=aG "reg" (.int (r:Nat)) (aG "name" (.int (n:Nat)) (aG "parts" (.ref a) [])):=by kernel_rfl
theorem aaW{es:List Ent}{n:Nat}{e:Ent}(hn:n<12)(he:e.n=(n:Int)):(n:Int)∈kC (es++[e]):=by
 refine Ax.mpr (eZ n hn rfl λz=>?_);rw[RB,if_pos he]at z;simp at z
def Ru(t:aW)(C CT PT:Addr):Sp:=λvs H Q _=>∃m A S c k z dz a n r lab,vs=[.ref m,.int (c:Nat),.ref z]/\bo t C CT H m A S/\jQ lab m A/\lh S/\zk S/\de PT LP LQ H/\S.ck[c]?=some k/\H z=some (.ins t.ir dz (cW (.ref a) "set" ([n,r].map λ(n:Nat)=>V.int (n:Int))))/\n<12/\r<4/\
 ∀H',bo t C CT H' m A (setM S c n r)->a9 (dq m A) H H'->de PT LP LQ H'->Q .aE H'
theorem Rx:aZ ["self","clerk","step","gave"] ["self","clerk","step"] (aM JQ):=a8
theorem acN{f fA fC PT:Addr}{fd vg ma:aQ}(F:aP K "do_set" "Machine.do_set" JQ f fd)(cM:je K C)(cT:kN K CT)(iF:mg "len" = none)(ST:qA K mg t)
  (GA:ao P w K mg base au 1 fA vg ["self","name","number","deed"] (Tu CT)) (bA:Binds K vg ["self","name","number","deed"] []) (mA:Meth K CT "add" fA)
  (GC:ao P w K mg base au 4 fC ma ["self","clerk","name"] (IY t C CT PT)) (bC:Binds K ma ["self","clerk","name"] []) (mC:Meth K C "carry" fC):ao P w K mg base au 5 f fd ["self","clerk","step"] (Ru t C CT PT):=by
 refine F.ok Rx (λvs H Q E h=>?_) λaD A _ s H vs Q E hr h=>?_
 ·refine mh h λm A S c k z dz a n r aa=>ay aa λlab aa _=>?_;subst aa;rfl
 ·refine mh h λm A S c k z dz a n r aa=>JZ aa λlab aa M L W bg=>?_;subst aa;refine mG bg λlC hL hk hz hn aa=>oA aa λj' q=>?_;have dQ:=hr.mono (show 1<=4 by decide);refine let R1:TS:=_;let R2:TS:=_;let R3:TS:=_;let R4:TS:=_;⟨_,aA (cC (i:=3) Rx.nd rfl (aN rfl) (aJ cO (aJ cO (bf (pv 0) rfl) (pv 1)) (bf (pv 2) rfl))) (pR R4 (aA (gg (i8 (aJ cO (bf (pv 0) rfl) (pv 1)) cT.cl mA GA dQ bA .nil aO (ae (bf (pv 2) rfl) (ae (pv 3) (ae (bp dR rfl iF PySem.boot_len (ae (bf (pv 0) rfl) af)) af))))) (pR R3 (aA (gg (qD PySem.F.plainAttrs_list PySem.F.slot_list_append PySem.F.type_list_append vx (bf (pv 0) rfl) (ae (jl (ae cV (ae (pv 1) (ae (bf (pv 2) rfl) (ae kz (ae (pv 3) (ae kz af))))))) af))) (pR R2 (ax (bQ (cy dE (bf (pv 0) rfl) cV (bX _)) (pR R1 (ax (gg (i8 (pv 0) cM.cl mC GC hr bC .nil aO (ae (pv 1) (ae (bf (pv 2) rfl) af)))))) cq))))))),?_⟩
  rw[ae8]at hz;refine b8 (id M.obj) λdx fs hm G=>ay (M.eY hk) λra i5 dP=>ay (M.vW hk) λx hx T=>eO (id T.obj) λvh rD ea e1 e2 e3 em el=>ay M.ac λws oN wV=>?_;have rh:=Paired.length wV;have Vw:=W.ac;have alj:=W.bounds hk;have dH:=W.rg k (bw hk)
  have MO:∀(nm:Str),(aG "reg" (.int (r:Nat)) (aG "name" (.int (n:Nat)) (aG "parts" (.ref a) []))).lookup nm=if nm = "reg" then some (.int (r:Nat)) else if nm = "name" then some (.int (n:Nat)) else if nm = "parts" then some (.ref a) else none:=λnm=>by
   rw[dn,dn,dn];rfl
  have lr:(aG "reg" (.int (r:Nat)) (aG "name" (.int (n:Nat)) (aG "parts" (.ref a) []))).lookup ("reg" : Str)=some (V.int (r:Nat)):=by rw[MO,if_pos rfl]
  have ln:(aG "reg" (.int (r:Nat)) (aG "name" (.int (n:Nat)) (aG "parts" (.ref a) []))).lookup ("name" : Str)=some (V.int (n:Nat)):=by rw[MO,if_neg dk,if_pos rfl]
  have hg:k.rg[r]?=some (k.rg[r]'wg):=aR wg;have eg:k.rg.getD r 0=k.rg[r]'wg:=tM hg;refine vF rfl hm cM.cl cM.eY G.eY (vr rfl (rL (v:=.ref ra) (aq.of M.rg) (iW i5) (vF rfl hz ST.kJ ST.TJ lr (rL (aq.of dP) (iW hg) ?_))));generalize hgv:k.rg[r]'wg=g at eg;refine az _ rfl (dS m C dx fs (lJ _ rfl hm cM.cl cM.gK G.gK (vr rfl (rL (v:=.ref x.1) (aq.of M.lt) (Am hx) (rM ea (em _ dk) (vF rfl hz ST.kJ ST.tZ ln (vr rfl (vF rfl hm cM.cl cM.iZ G.iZ (eG A.ac ws rfl (.inl (aq.of oN)) (⟨x.1,n,g,_,_,_,_,_,(lJ _ rfl T li li w4 λH1 T1 k1=>?_)⟩))))))))));have kf:=gq.ofA k1 T1;have M1:=Tj M L hk hx kf T1;have ew:((ws.length:Nat):Int)=((S.ac.length:Nat):Int):=by rw[rh]
  rw[ew]at M1 T1
  have dr:H1 z=some (.ins t.ir dz (aG "reg" (.int (r:Nat)) (aG "name" (.int (n:Nat)) (aG "parts" (.ref a) [])))):=k1 _ _ (λzb=>by
   rcases bR.mp zb with y | y
   ·rw[y,ea]at hz;cases hz;rw[MO,if_neg dk,if_neg dk,if_neg dk]at e1;cases e1
   ·rcases T.kinds z zb _ hz with ⟨_,_,_,_⟩ | ⟨_,y2⟩
    ·rcases bR.mp y with y | y
     ·rw[y,T.qs]at hz;cases hz
     ·refine oE (nJ y) λi aa=>oE aa λhi ez=>?_;obtain⟨nz,e',_⟩:=T.jg i z (by rw[<-ez];exact aR hi);rw[e']at hz;cases hz
    ·cases y2) hz
  have p5:=An hL k1 T.kinds;have kp1:a9 (dq m A) H H1:=a9.Mi kf λb hb=>.ts (bw hx) hb;refine b8 (id M1.obj) λvi rE lX G1=>ay M1.ac λEZ EA akL=>az _ rfl (dS m C vi rE (⟨_,rfl,lX,cM.cl,cM.iZ,G1.iZ,(.inl ⟨rfl,_,aq.of EA⟩),(az _ rfl (vF rfl dr ST.kJ ST.tZ ln (vr rfl ⟨(sl (n:=6)),(λtp ht=>?_)⟩)))⟩));have s2:=aI (o:=.tup [.str "set",.int (c:Nat),.int (n:Nat),.aE,.int g,.aE]) (ah.refl H1) ht;have akN:=Paired.length akL;refine⟨A.ac,EZ,(.ref tp),rfl,rfl,(s2 _ _ EA),(by rw[akN,jK];show S.ac.length<_;exact wb),?_⟩;have M2:=Km (M1.same s2) L (s2 _ _ EA) (x:=.ref tp) (a:=⟨"set",c,n,none,some g,none⟩) ⟨tp,rfl,av⟩;have q9:a9 (dq m A) H (upd (upd H1 tp (.tup [.str "set",.int (c:Nat),.int (n:Nat),.aE,.int g,.aE])) A.ac (.lst (EZ++[.ref tp]))):=kp1.trans ((a9.of s2).trans (a9.upd .ac));have l2:KL H1 (upd (upd H1 tp (.tup [.str "set",.int (c:Nat),.int (n:Nat),.aE,.int g,.aE])) A.ac (.lst (EZ++[.ref tp]))):=(KL.of s2).trans (KL.upd (s2 _ _ EA));have oO:=l2.lam p5;have jY:=l2 _ _ (λxs z=>by cases z) dr;generalize upd (upd H1 tp (.tup [.str "set",.int (c:Nat),.int (n:Nat),.aE,.int g,.aE])) A.ac (.lst (EZ++[.ref tp]))=H2 at M2 q9 l2 oO jY ⊢;refine b8 (id M2.obj) λxu pN ke G3=>?_
  have eS:setM S c n r=if S.kd = "none" then qz (iM (yQ S c n k g) ⟨"set",c,n,none,some g,none⟩) c n else iM (yQ S c n k g) ⟨"set",c,n,none,some g,none⟩:=by
   unfold setM;rw[hk];dsimp only;rw[eg]
  rw[eS]at q;refine az _ rfl (dS m C xu pN (lJ _ rfl ke cM.cl cM.kind G3.kind ⟨rfl,⟨_,rfl,b9 (λrq=>?_) λrq=>?_⟩⟩))
  ·have yW:S.kd = "none":=Ed rq;rw[if_pos yW]at q;have hZ:c<S.ck.length:=(dC.mp hk).1;refine vM rfl ke (G3.ms _ dk) (vr rfl (vF rfl jY ST.kJ ST.tZ ln (⟨m,A,(iM (yQ S c n k g) ⟨"set",c,n,none,some g,none⟩),c,({ k with tn:=k.tn+1,es:=k.es++[⟨k.tn,n,g,S.ac.length⟩] }),n,lab,rfl,M2,L,oO,?_,?_,hn,(⟨W.bd,W.ov,lC,(λH3 M3 k3 sV=>q H3 M3 (q9.trans k3) sV)⟩)⟩)))
   ·show (S.ck.set c _)[c]?=some _;rw[jF hZ]
   ·show (n:Int)∈iU S.kd (k.es++[⟨k.tn,n,g,S.ac.length⟩]);unfold iU;rw[yW,if_neg dk];exact aaW hn rfl
  ·have yW:¬S.kd = "none":=λe=>rq (by rw[e]);rw[if_neg yW]at q;exact q H2 M2 q9 oO
end
end TL
namespace L2
open PySem PySem.Spec PyProof.Rows PySem.SeqAt
theorem adj{X:Cx}:U7 X (λx y H Q=>∃p xs,∃i:Nat,∃v,x=.ref p/\y=.int (i:Nat)/\H p=some (.lst xs)/\xs[i]?=some v/\Q v H):=by
 intro p_ s σ H o i ov iv Q I r1 r2 h;refine jm h λp xs j z aa bg=>?_;clear h;subst aa;obtain⟨aa,hq,he,q⟩:=bg;subst aa;cases r1;refine oE r2 λt aa=>?_;clear r2;subst aa;refine aX (I.list (aq.of hq)) λaj r pl hz=>ay (r.get he) λw ew wO=>?_;have hl:=r.length;have hn:=A7;have hj:j<xs.length:=(dC.mp he).1;exact wpAny_getItem_list pl.isList li li (by rw[gy];simpa using ew) ⟨z,H,I,wO,q⟩
end L2
namespace TL
open PySem PySem.Spec PyProof.Rows PySem.SeqAt L2 L3 L4
theorem ae9(a:Addr)(r n:Nat):cW (.ref a) "put" ([r,n].map λ(n:Nat)=>V.int (n:Int))=aG "number" (.int (n:Nat)) (aG "reg" (.int (r:Nat)) (aG "parts" (.ref a) [])):=by kernel_rfl
theorem ae'(a:Addr)(r n:Nat):cW (.ref a) "add" ([r,n].map λ(n:Nat)=>V.int (n:Int))=aG "other" (.int (n:Nat)) (aG "reg" (.int (r:Nat)) (aG "parts" (.ref a) [])):=by kernel_rfl
theorem ado(a:Addr)(r n:Nat):cW (.ref a) "skip" ([r,n].map λ(n:Nat)=>V.int (n:Int))=aG "place" (.int (n:Nat)) (aG "reg" (.int (r:Nat)) (aG "parts" (.ref a) [])):=by kernel_rfl
theorem J4{x y:Str}{v u:V}{a:Addr}:(aG x v (aG y u (aG "parts" (.ref a) []))).lookup x=some v:=by rw[dn,if_pos rfl]
theorem DK{x y:Str}{v u:V}{a:Addr}(h:y≠x):(aG x v (aG y u (aG "parts" (.ref a) []))).lookup y=some u:=by rw[dn,if_neg h,dn,if_pos rfl]
def ig(s:Tl)(rg:List Int)(pl:Nat):Nat:=if s.1 = "skip"/\rg.getD (s.2.getD 0 0) 0=0 then s.2.getD 1 0 else pl+1
def c7(S:Mc)(c:Nat)(s:Tl):Mc:=
 if s.1 = "put" then iC S c (s.2.getD 0 0) (s.2.getD 1 0:Nat)
 else if s.1 = "add" then (match S.ck[c]? with
  | none=>S
  | some k=>iC S c (s.2.getD 0 0) ((k.rg.getD (s.2.getD 0 0) 0+k.rg.getD (s.2.getD 1 0) 0)%k7))
 else if s.1 = "set" then setM S c (s.2.getD 0 0) (s.2.getD 1 0)
 else if s.1 = "look" then qF S c (s.2.getD 0 0) (s.2.getD 1 0)
 else if s.1 = "swap" then sk S c (s.2.getD 0 0) (s.2.getD 1 0)
 else S
def yK(S:Mc)(c:Nat)(s:Tl):Mc:=match S.ck[c]? with
 | none=>S
 | some k=>{ S with ck:=S.ck.set c { k with pl:=ig s k.rg k.pl,ct:=k.ct+1 } }
def wG(S:Mc)(c:Nat):Mc:=match S.ck[c]?,S.ps[c]? with
 | some k,some p=>(match p[k.pl]? with
  | some s=>yK (c7 S c s) c s
  | none=>S)
 | _,_=>S
section
variable{t:aW}{C CT:Addr}{H:Hp}{m:Addr}{A:MA}{S:Mc}
theorem bo.adU(M:bo t C CT H m A S){z cz dz a:Addr}{x:Str}{ps:List V}(hz:H z=some (.ins cz dz (cW (.ref a) x ps))):¬dq m A z:=by
 intro hb;cases hb with
 | m=>
  refine b8 M.obj λdx fs h G=>?_;rw[h]at hz;cases hz;have e:=G.gK;rw[tO "trays" dk]at e;cases e
 | lt=>rw[M.lt]at hz;cases hz
 | pl=>rw[M.pl]at hz;cases hz
 | ct=>rw[M.ct]at hz;cases hz
 | rg=>rw[M.rg]at hz;cases hz
 | ce=>rw[M.ce]at hz;cases hz
 | ac=>obtain⟨vs,h,_⟩:=M.ac;rw[h]at hz;cases hz
 | cm=>rw[M.cm]at hz;cases hz
 | rs h=>
  refine ay (qh M.rs h) λc _ q=>?_;rw[q]at hz;cases hz
 | cs h=>
  refine ay (qh M.cs h) λc _ q=>?_;rw[q]at hz;cases hz
 | ts h h2=>
  refine ay (qh M.ts h) λc _ T=>eO (id T.obj) λvh rD ea e1 e2 e3 em el=>?_;rcases bR.mp h2 with y | y
  ·rw[y,ea]at hz;cases hz;rw[tO _ dk]at e1;cases e1
  ·rcases bR.mp y with y | y
   ·rw[y,T.qs]at hz;cases hz
   ·refine oE (nJ y) λi aa=>oE aa λhi ez=>?_;obtain⟨nz,e',_⟩:=T.jg i z (by rw[<-ez];exact aR hi);rw[e']at hz;cases hz
end
section
variable{P:Program}{w:World}{K:W.Frag}{mg:Str->Option Value}{base:Heap}{t:aW}{C CT:Addr}{u:jW}
def OJ(t:aW):Sp:=λvs H Q _=>∃z a dz s sz ra rg,∃pl:Nat,vs=[.ref z,.int (pl:Nat),.ref ra]/\H z=some (.ins (cb t s.1) dz (cW (.ref a) s.1 (s.2.map λ(n:Nat)=>V.int (n:Int))))/\cA sz s/\H ra=some (.lst (rg.map V.int))/\rg.length=4/\Q (.int (ig s rg pl:Nat)) H
theorem ZA:aZ ["step","place","regs"] ["step","place","regs"] (aM G0):=a8
theorem Zt{f:Addr}{fd:aQ}(F:aP K "place_behind" "place_behind" G0 f fd)(O:v5 K mg t u):ao P w K mg base au 1 f fd ["step","place","regs"] (OJ t):=by
 refine F.ok ZA (λvs H Q E h=>?_) λaD A _ s H vs Q E hr h=>?_
 ·refine dZ h λz a dz s sz aa=>kG aa λra rg pl aa _=>?_;subst aa;rfl
 ·refine dZ h λz a dz s sz aa=>i9 aa λra rg pl aa hz bg=>?_;subst aa;obtain⟨g,i5,dP,q⟩:=bg;refine let R1:TS:=_;let R2:TS:=_;⟨_,aA (bQ (PW.pt (pw_and (dD (bp iB rfl O.st.bl.hG iw (ae (pv 0) (ae (eE (v:=.ref t.iK) rfl O.st.J1 rfl) af)))) (pw_and1 (cy dE (aJ cO (pv 2) (bf (pv 0) rfl)) aw (bX _))))) (pR R1 (ax (aS (bf (pv 0) rfl)))) cq) (pR R2 (ax (aS (aT fR (pv 1) aw)))),?_⟩
  refine ay (A8 O g hz) λD ty c6=>vr rfl (dS _ (.ref t.iK) _ (.ref t.iK) (gJ _ rfl ty rfl c6.Tz (tk (b9 (λhs=>?_) λhs=>?_))))
  ·cases g with
   | skip r p h1 h2 h3=>
    have hz:H z=some (.ins (cb t "skip") dz (cW (.ref a) "skip" ([r,p].map λ(n:Nat)=>V.int (n:Int)))):=hz;rw[AH,ado]at hz;have hg:rg[r]?=some (rg[r]'wg):=aR wg;have eg:rg.getD r 0=rg[r]'wg:=tM hg;refine vr rfl (vF rfl hz O.st.pA O.st.SM (DK dk) (rL (aq.of i5) (iW hg) ⟨rfl,⟨_,rfl,b9 (λh0=>?_) λh0=>?_⟩⟩))
    ·have e:ig ("skip",[r,p]) rg pl=p:=by
      unfold ig;rw[if_pos ⟨rfl,by show rg.getD r 0=0;rw[eg];injection h0⟩];rfl
     rw[e]at q;exact vF rfl hz O.st.pA O.st.DJ J4 q
    ·have e:ig ("skip",[r,p]) rg pl=pl+1:=by
      unfold ig;rw[if_neg λh=>h0 (by have:=h.2;rw[<-show rg.getD r 0=rg[r]'wg from eg];show V.int (rg.getD r 0)=_;rw[show rg.getD r 0=0 from this])]
     rw[e]at q;exact az _ rfl ⟨_,⟨_,rfl,rfl,q⟩⟩
   | put=>exact absurd (show ("put" : Str) = "skip" from hs) dk
   | add=>exact absurd (show ("add" : Str) = "skip" from hs) dk
   | set=>exact absurd (show ("set" : Str) = "skip" from hs) dk
   | look=>exact absurd (show ("look" : Str) = "skip" from hs) dk
   | swap=>exact absurd (show ("swap" : Str) = "skip" from hs) dk
   | clear=>exact absurd (show ("clear" : Str) = "skip" from hs) dk
  ·have e:ig s rg pl=pl+1:=by
    unfold ig;rw[if_neg λh=>hs h.1]
   rw[e]at q;exact az _ rfl ⟨_,⟨_,rfl,rfl,q⟩⟩
end
end TL
namespace L2
open PySem PySem.Spec PyProof.Rows
theorem fG.UW{X:Cx}{ss:List Stmt}{t t':TS}(h:fG X ss t)(hi:∀D σ H,t' D σ H->t D σ H):fG X ss t':=λp_ s σ H D I q=>h p_ s σ H D I (hi D σ H q)
end L2
namespace TL
open PySem PySem.Spec PyProof.Rows PySem.SeqAt L2 L3 L4
variable{P:Program}{w:World}{K:PySem.W.Frag}{mg:Str->Option Value}{base:Heap}
theorem Q6(a:Addr)(r n:Nat):cW (.ref a) "look" ([r,n].map λ(n:Nat)=>V.int (n:Int))=aG "name" (.int (n:Nat)) (aG "reg" (.int (r:Nat)) (aG "parts" (.ref a) [])):=by kernel_rfl
theorem adn(a:Addr)(r n:Nat):cW (.ref a) "swap" ([r,n].map λ(n:Nat)=>V.int (n:Int))=aG "name" (.int (n:Nat)) (aG "reg" (.int (r:Nat)) (aG "parts" (.ref a) [])):=by kernel_rfl
theorem yl(n r:Nat)(a:Addr):(aG "name" (.int (n:Nat)) (aG "reg" (.int (r:Nat)) (aG "parts" (.ref a) []))).lookup ("name" : Str)=some (V.int (n:Nat)):=by rw[dn,if_pos rfl]
theorem J5(n r:Nat)(a:Addr):(aG "name" (.int (n:Nat)) (aG "reg" (.int (r:Nat)) (aG "parts" (.ref a) []))).lookup ("reg" : Str)=some (V.int (r:Nat)):=by rw[dn,if_neg dk,dn,if_pos rfl]
section
variable{t:aW}{C CT:Addr}{u:jW}
def QH(t:aW)(C CT:Addr):Sp:=λvs H Q _=>∃m A S c k z dz a r n lab,vs=[.ref m,.int (c:Nat),.ref z]/\bo t C CT H m A S/\jQ lab m A/\lh S/\S.ck[c]?=some k/\H z=some (.ins t.iL dz (cW (.ref a) "look" ([r,n].map λ(n:Nat)=>V.int (n:Int))))/\r<4/\n<12/\
 ∀H',bo t C CT H' m A (qF S c r n)->a9 (dq m A) H H'->KL H H'->Q .aE H'
theorem Ie:aZ ["self","clerk","step","setting"] ["self","clerk","step"] (aM Jj):=a8
theorem abt{f fL fB:Addr}{fd jD i3:aQ}(F:aP K "do_look" "Machine.do_look" Jj f fd)(cM:je K C)(cT:kN K CT)(ST:qA K mg t)
  (GL:ao P w K mg base au 1 fL jD ["self","name"] (QD CT)) (bL:Binds K jD ["self","name"] []) (mL:Meth K CT "latest" fL)
  (GB:ao P w K mg base au 1 fB i3 ["self","name"] (Hz t C CT)) (bB:Binds K i3 ["self","name"] []) (mB:Meth K C "on_board" fB):ao P w K mg base au 2 f fd ["self","clerk","step"] (QH t C CT):=by
 refine F.ok Ie (λvs H Q E h=>?_) λaD A _ s H vs Q E hr h=>?_
 ·refine mh h λm A S c k z dz a r n aa=>ay aa λlab aa _=>?_;subst aa;rfl
 ·refine mh h λm A S c k z dz a r n aa=>JZ aa λlab aa M L W bg=>?_;subst aa;obtain⟨hk,hz,j',hn,q⟩:=bg;refine let R1:TS:=_;let R2:TS:=_;let R3:TS:=_;let R4:TS:=_;⟨_,aA (cC (i:=3) Ie.nd rfl (aN rfl) (i8 (aJ cO (bf (pv 0) rfl) (pv 1)) cT.cl mL GL hr bL .nil aO (ae (bf (pv 2) rfl) af))) (pR R4 (aA (bQ (cy JY (pv 3) kz (bX _)) (pR R1 (ax (cC (i:=3) Ie.nd rfl (aN rfl) (i8 (pv 0) cM.cl mB GB hr bB .nil aO (ae (bf (pv 2) rfl) af))))) cq) (fG.UW (t':=λD σ H1=>∃st x,σ=[some (.ref m),some (.int (c:Nat)),some (.ref z),some (.ref st)]/\H1 st=some (.tup [x,.int (dA S k n).1,oV (dA S k n).2])/\ah H H1/\∀σ' H',bo t C CT H' m A (qF S c r n)->a9 (dq m A) H H'->KL H H'->D.nx σ' H') (pR R3 (aA (gg (qD PySem.F.plainAttrs_list PySem.F.slot_list_append PySem.F.type_list_append vx (bf (pv 0) rfl) (ae (jl (ae cV (ae (pv 1) (ae (bf (pv 2) rfl) (ae (aJ cu (pv 3) aw) (ae kz (ae (aJ cu (pv 3) aw) af))))))) af))) (pR R2 (ax (qw (aJ cu (pv 3) aw) (qy (aJ cO (bf (pv 0) rfl) (pv 1)) (bf (pv 2) rfl) set_list)))))) ?tl))),?_⟩
  case tl=>
   rintro D σ H1 ⟨st,x,rfl,cX,s1,q⟩;rw[Q6]at hz;have M1:=M.same s1;refine b8 (id M1.obj) λdx fs hm G=>ay M1.ac λws oN wV=>?_;have dr:=s1 _ _ hz;refine vF rfl hm cM.cl cM.iZ G.iZ ⟨.inl ⟨rfl,_,aq.of oN⟩,az _ rfl (vF rfl dr ST.lK ST.vI (yl n r a) (jf (j:=1) rfl cX rfl (jf (j:=2) rfl cX rfl ⟨(sl (n:=6)),(λtp ht=>?_)⟩)))⟩;have s2:=aI (o:=.tup [.str "look",.int (c:Nat),.int (n:Nat),.int (dA S k n).1,.aE,oV (dA S k n).2]) (ah.refl H1) ht;have rh:=Paired.length wV;have Vw:=W.ac;refine⟨A.ac,ws,(.ref tp),rfl,rfl,(s2 _ _ oN),(by rw[rh,jK];exact wb),?_⟩;have M2:=Km (M1.same s2) L (s2 _ _ oN) (x:=.ref tp) (a:=⟨"look",c,n,some (dA S k n).1,none,(dA S k n).2⟩) ⟨tp,rfl,av⟩;have q9:a9 (dq m A) H (upd (upd H1 tp (.tup [.str "look",.int (c:Nat),.int (n:Nat),.int (dA S k n).1,.aE,oV (dA S k n).2])) A.ac (.lst (ws++[.ref tp]))):=(a9.of s1).trans ((a9.of s2).trans (a9.upd .ac));have l2:KL H1 (upd (upd H1 tp (.tup [.str "look",.int (c:Nat),.int (n:Nat),.int (dA S k n).1,.aE,oV (dA S k n).2])) A.ac (.lst (ws++[.ref tp]))):=(KL.of s2).trans (KL.upd (s2 _ _ oN));have jY:=l2 _ _ (λxs z=>by cases z) dr;have yV:=l2.tup _ _ cX;generalize upd (upd H1 tp (.tup [.str "look",.int (c:Nat),.int (n:Nat),.int (dA S k n).1,.aE,oV (dA S k n).2])) A.ac (.lst (ws++[.ref tp]))=H2 at M2 q9 l2 jY yV ⊢;refine b8 (id M2.obj) λxu pN ke G3=>ay (M2.eY (k:=k) hk) λra i5 dP=>?_;have dH:=W.rg k (bw hk);refine jf (j:=1) rfl yV rfl (vF rfl ke cM.cl cM.eY G3.eY (vr rfl (rL (v:=.ref ra) (aq.of M2.rg) (iW i5) (vF rfl jY ST.lK ST.SN (J5 n r a) (⟨ra,_,_,r,rfl,rfl,dP,(vO (by rw[aH,dH];exact j')),?_⟩)))));have M3:=DS M2 L (k:=k) hk i5 r (dA S k n).1;refine q _ _ ?_ (q9.trans (a9.upd (.rs (bw i5)))) ((KL.of s1).trans (l2.trans (KL.upd dP)))
   have e:qF S c r n={ (iM S ⟨"look",c,n,some (dA S k n).1,none,(dA S k n).2⟩)with ck:=S.ck.set c { k with rg:=k.rg.set r (dA S k n).1 } }:=by
    unfold qF;rw[hk];dsimp only;unfold iC;rw[show (iM S ⟨"look",c,n,some (dA S k n).1,none,(dA S k n).2⟩).ck[c]?=some k from hk];rfl
   rw[e];exact M3
  refine b8 (id M.obj) λdx fs hm G=>ay (M.vW hk) λx hx T=>eO (id T.obj) λvh rD ea e1 e2 e3 em el=>?_;have alj:=W.bounds hk;have Fn:=hz;rw[Q6]at Fn;refine vF rfl hm cM.cl cM.gK G.gK (vr rfl (rL (v:=.ref x.1) (aq.of M.lt) (Am hx) (rM ea (em _ dk) (vF rfl Fn ST.lK ST.vI (yl n r a) (⟨x.1,n,_,_,_,_,(⟨_,rfl,T,li,li,w4,(λhY=>?_),(λe st he cX=>?_)⟩)⟩)))))
  ·rw[gy]at hY;refine az _ rfl ⟨rfl,⟨_,rfl,b9 (λ_=>?_) λy=>absurd rfl y⟩⟩;refine vM rfl hm (G.ms _ dk) (vF rfl Fn ST.lK ST.vI (yl n r a) (nK m A S n rfl M hn W.bd W.ov λtp ht=>?_));have es:dA S k n=(S.bd.getD n 0,(S.ov.getD n []).getLast?):=by unfold dA;rw[hY]
   refine⟨tp,(.int (n:Nat)),rfl,?_,(aI (ah.refl H) ht),(λσ' H' h1 h2 h3=>q H' h1 h2 h3)⟩;rw[av,es];rfl
  ·rw[gy]at he;refine az _ rfl ⟨rfl,⟨_,rfl,b9 (λy=>by cases y) λ_=>?_⟩⟩;have es:dA S k n=(e.num,some e.d):=by unfold dA;rw[he]
   exact⟨st,(.int e.n),rfl,(by rw[es];exact cX),(ah.refl H),(λσ' H' h1 h2 h3=>q H' h1 h2 h3)⟩
def QF(t:aW)(C CT:Addr):Sp:=λvs H Q _=>∃m A S c k z dz a r n lab,vs=[.ref m,.int (c:Nat),.ref z]/\bo t C CT H m A S/\jQ lab m A/\lh S/\zk S/\S.ck[c]?=some k/\H z=some (.ins t.jc dz (cW (.ref a) "swap" ([r,n].map λ(n:Nat)=>V.int (n:Int))))/\r<4/\n<12/\
 ∀H',bo t C CT H' m A (sk S c r n)->a9 (dq m A) H H'->KL H H'->Q .aE H'
theorem Ib:aZ ["self","clerk","step","gave","setting"] ["self","clerk","step"] (aM Jh):=a8
theorem abq{f fB fC:Addr}{fd i3 ma:aQ}(F:aP K "do_swap" "Machine.do_swap" Jh f fd)(cM:je K C)(ST:qA K mg t)(iF:mg "len" = none)
  (GB:ao P w K mg base au 1 fB i3 ["self","name"] (Hz t C CT)) (bB:Binds K i3 ["self","name"] []) (mB:Meth K C "on_board" fB)
  (GC:ao P w K mg base au 1 fC ma ["self","setting"] (JB t C CT)) (bC:Binds K ma ["self","setting"] []) (mC:Meth K C "come" fC):ao P w K mg base au 2 f fd ["self","clerk","step"] (QF t C CT):=by
 refine F.ok Ib (λvs H Q E h=>?_) λaD A _ s H vs Q E hr h=>?_
 ·refine mh h λm A S c k z dz a r n aa=>ay aa λlab aa _=>?_;subst aa;rfl
 ·refine mh h λm A S c k z dz a r n aa=>JZ aa λlab aa M L W bg=>?_;subst aa;refine mG bg λlC hk hz j' hn q=>?_;refine let R1:TS:=_;let R2:TS:=_;let R3:TS:=_;let R4:TS:=_;⟨_,aA (cC (i:=3) Ib.nd rfl (aN rfl) (aJ cO (aJ cO (bf (pv 0) rfl) (pv 1)) (bf (pv 2) rfl))) (pR R4 (aA (cC (i:=4) Ib.nd rfl (aN rfl) (i8 (pv 0) cM.cl mB GB hr bB .nil aO (ae (bf (pv 2) rfl) af))) (pR R3 (aA (gg (i8 (pv 0) cM.cl mC GC hr bC .nil aO (ae (jl (ae (bf (pv 2) rfl) (ae (pv 3) (ae (bp dR rfl iF PySem.boot_len (ae (bf (pv 0) rfl) af)) af)))) af))) (pR R2 (aA (gg (qD PySem.F.plainAttrs_list PySem.F.slot_list_append PySem.F.type_list_append vx (bf (pv 0) rfl) (ae (jl (ae cV (ae (pv 1) (ae (bf (pv 2) rfl) (ae (aJ cu (pv 4) aw) (ae (pv 3) (ae (aJ cu (pv 4) aw) af))))))) af))) (pR R1 (ax (qw (aJ cu (pv 4) aw) (qy (aJ cO (bf (pv 0) rfl) (pv 1)) (bf (pv 2) rfl) set_list)))))))))),?_⟩
  rw[adn]at hz;refine b8 (id M.obj) λdx fs hm G=>ay (M.eY hk) λra i5 dP=>?_;have dH:=W.rg k (bw hk);have hg:k.rg[r]?=some (k.rg[r]'wg):=aR wg;have eg:k.rg.getD r 0=k.rg[r]'wg:=tM hg;refine vF rfl hm cM.cl cM.eY G.eY (vr rfl (rL (v:=.ref ra) (aq.of M.rg) (iW i5) (vF rfl hz ST.mQ ST.J0 (J5 n r a) (rL (aq.of dP) (iW hg) ?_))));generalize k.rg[r]'wg=g at eg;refine vM rfl hm (G.ms _ dk) (vF rfl hz ST.mQ ST.A6 (yl n r a) (nK m A S n rfl M hn W.bd W.ov λst akQ=>?_));have s1:=aI (o:=.tup (A' S n)) (ah.refl H) akQ;have cX:upd H st (.tup (A' S n)) st=some (.tup [.int (n:Nat),.int (S.bd.getD n 0),oV (S.ov.getD n []).getLast?]):=av;have M1:=M.same s1;generalize upd H st (.tup (A' S n))=H1 at s1 cX M1 ⊢;refine ay M1.ac λws oN wV=>?_;have rh:=Paired.length wV;have Vw:=W.ac;refine vM rfl (s1 _ _ hm) (G.ms _ dk) (vF rfl (s1 _ _ hz) ST.mQ ST.A6 (yl n r a) (vr rfl (vF rfl (s1 _ _ hm) cM.cl cM.iZ G.iZ (⟨A.ac,ws,rfl,(.inl (aq.of oN)),(sl (n:=3)),(λtp ht=>?_)⟩))));have s2:=aI (o:=.tup [.int (n:Nat),.int g,.int (ws.length:Nat)]) (ah.refl H1) ht;refine⟨m,A,S,tp,n,g,(ws.length:Nat),lab,rfl,(M1.same s2),L,av,hn,W.bd,(gu W.ov lC λH2 M2 k2 l2=>?_)⟩;have MP:=(KL.of s2).trans l2;have jY:=MP _ _ (λxs z=>by cases z) (s1 _ _ hz);have yV:=MP.tup _ _ cX;refine b8 (id M2.obj) λxu pN ke G3=>ay M2.ac λBF Ez akK=>?_;have akM:BF.length=S.ac.length:=Paired.length akK;refine az _ rfl (dS m C xu pN (⟨_,rfl,ke,cM.cl,cM.iZ,G3.iZ,(.inl ⟨rfl,_,aq.of Ez⟩),(az _ rfl (vF rfl jY ST.mQ ST.A6 (yl n r a) (jf (j:=1) rfl yV rfl (vr rfl (jf (j:=2) rfl yV rfl ⟨(sl (n:=6)),(λtq hq=>?_)⟩)))))⟩));have s3:=aI (o:=.tup [.str "swap",.int (c:Nat),.int (n:Nat),.int (S.bd.getD n 0),.int g,oV (S.ov.getD n []).getLast?]) (ah.refl H2) hq;refine⟨A.ac,BF,(.ref tq),rfl,rfl,(s3 _ _ Ez),(by rw[akM,jK];exact wb),?_⟩;have M3:=Km (M2.same s3) L (s3 _ _ Ez) (x:=.ref tq) (a:=⟨"swap",c,n,some (S.bd.getD n 0),some g,(S.ov.getD n []).getLast?⟩) ⟨tq,rfl,av⟩;have WD:a9 (dq m A) H (upd (upd H2 tq (.tup [.str "swap",.int (c:Nat),.int (n:Nat),.int (S.bd.getD n 0),.int g,oV (S.ov.getD n []).getLast?])) A.ac (.lst (BF++[.ref tq]))):=((a9.of s1).trans ((a9.of s2).trans k2)).trans ((a9.of s3).trans (a9.upd .ac));have l3:KL H2 (upd (upd H2 tq (.tup [.str "swap",.int (c:Nat),.int (n:Nat),.int (S.bd.getD n 0),.int g,oV (S.ov.getD n []).getLast?])) A.ac (.lst (BF++[.ref tq]))):=(KL.of s3).trans (KL.upd (s3 _ _ Ez));have Fm:=l3 _ _ (λxs z=>by cases z) jY;have Vk:=l3.tup _ _ yV;generalize upd (upd H2 tq (.tup [.str "swap",.int (c:Nat),.int (n:Nat),.int (S.bd.getD n 0),.int g,oV (S.ov.getD n []).getLast?])) A.ac (.lst (BF++[.ref tq]))=H3 at M3 WD l3 Fm Vk ⊢;refine b8 (id M3.obj) λdx4 fs4 Fy G4=>ay (M3.eY (k:=k) hk) λWa LS wq=>jf (j:=1) rfl Vk rfl (vF rfl Fy cM.cl cM.eY G4.eY (vr rfl (rL (v:=.ref Wa) (aq.of M3.rg) (iW LS) (vF rfl Fm ST.mQ ST.J0 (J5 n r a) (⟨Wa,_,_,r,rfl,rfl,wq,(vO (by rw[aH,dH];exact j')),?_⟩)))));have M4:=DS M3 L (k:=k) hk LS r (S.bd.getD n 0);refine q _ ?_ (WD.trans (a9.upd (.rs (bw LS)))) ((KL.of s1).trans (MP.trans (l3.trans (KL.upd wq))))
  have e:sk S c r n={ (iM (qu S n g (ws.length:Nat)) ⟨"swap",c,n,some (S.bd.getD n 0),some g,(S.ov.getD n []).getLast?⟩)with ck:=S.ck.set c { k with rg:=k.rg.set r (S.bd.getD n 0) } }:=by
   unfold sk;rw[hk];dsimp only;rw[eg,rh];unfold iC;rw[show (iM (qu S n g (S.ac.length:Nat)) ⟨"swap",c,n,some (S.bd.getD n 0),some g,(S.ov.getD n []).getLast?⟩).ck[c]?=some k from hk];rfl
  rw[e];exact M4
end
section
variable{S:Mc}{c:Nat}{k:Ck}
structure U9(S S':Mc)(c:Nat)(k k':Ck):Prop where
 at':S'.ck[c]?=some k'
 pl:k'.pl=k.pl
 ct:k'.ct=k.ct
 rg:k'.rg.length=k.rg.length
theorem Dl{r:Nat}{v:Int}(hk:S.ck[c]?=some k):U9 S (iC S c r v) c k { k with rg:=k.rg.set r v }:=by
 have e:iC S c r v={ S with ck:=S.ck.set c { k with rg:=k.rg.set r v } }:=by unfold iC;rw[hk]
 rw[e];exact⟨jF (dC.mp hk).1,rfl,rfl,iy⟩
theorem agB{sz:Nat}{s:Tl}(g:cA sz s)(hk:S.ck[c]?=some k):∃k',U9 S (c7 S c s) c k k':=by
 have hc:c<S.ck.length:=(dC.mp hk).1;cases g with
 | put r n h1 h2=>exact⟨_,Dl hk⟩
 | add r o h1 h2=>
  have e:c7 S c ("add",[r,o])=iC S c r ((k.rg.getD r 0+k.rg.getD o 0)%k7):=by
   unfold c7;rw[if_neg (show ¬("add" : Str) = "put" from dk),if_pos rfl,hk];rfl
  rw[e];exact⟨_,Dl hk⟩
 | set n r h1 h2=>
  have e:c7 S c ("set",[n,r])=setM S c n r:=by kernel_rfl
  rw[e];unfold setM;rw[hk];dsimp only
  split
  ·unfold qz;rw[show (iM (yQ S c n k (k.rg.getD r 0)) ⟨"set",c,n,none,some (k.rg.getD r 0),none⟩).ck[c]?=some { k with tn:=k.tn+1,es:=k.es++[⟨k.tn,n,k.rg.getD r 0,S.ac.length⟩] } from jF hc];dsimp only
   split
   ·exact⟨_,⟨jF hc,rfl,rfl,rfl⟩⟩
   ·exact⟨{ k with tn:=k.tn+1,es:=qH (k.es++[⟨k.tn,n,k.rg.getD r 0,S.ac.length⟩]) n },⟨jF (by show c<(S.ck.set c _).length;rw[iy];exact hc),rfl,rfl,rfl⟩⟩
  ·exact⟨_,⟨jF hc,rfl,rfl,rfl⟩⟩
 | look r n h1 h2=>
  have e:c7 S c ("look",[r,n])=iC (iM S ⟨"look",c,n,some (dA S k n).1,none,(dA S k n).2⟩) c r (dA S k n).1:=by
   unfold c7;rw[if_neg (show ¬("look" : Str) = "put" from dk),if_neg (show ¬("look" : Str) = "add" from dk),if_neg (show ¬("look" : Str) = "set" from dk),if_pos rfl];show qF S c r n=_;unfold qF;rw[hk]
  rw[e];have r:=Dl (S:=iM S ⟨"look",c,n,some (dA S k n).1,none,(dA S k n).2⟩) (r:=r) (v:=(dA S k n).1) hk;exact⟨_,⟨r.at',r.pl,r.ct,r.rg⟩⟩
 | swap r n h1 h2=>
  have e:c7 S c ("swap",[r,n])=iC (iM (qu S n (k.rg.getD r 0) S.ac.length) ⟨"swap",c,n,some (S.bd.getD n 0),some (k.rg.getD r 0),(S.ov.getD n []).getLast?⟩) c r (S.bd.getD n 0):=by
   unfold c7;rw[if_neg (show ¬("swap" : Str) = "put" from dk),if_neg (show ¬("swap" : Str) = "add" from dk),if_neg (show ¬("swap" : Str) = "set" from dk),if_neg (show ¬("swap" : Str) = "look" from dk),if_pos rfl];show sk S c r n=_;unfold sk;rw[hk]
  rw[e];have r:=Dl (S:=iM (qu S n (k.rg.getD r 0) S.ac.length) ⟨"swap",c,n,some (S.bd.getD n 0),some (k.rg.getD r 0),(S.ov.getD n []).getLast?⟩) (r:=r) (v:=(S.bd.getD n 0)) hk;exact⟨_,⟨r.at',r.pl,r.ct,r.rg⟩⟩
 | clear=>
  have e:c7 S c ("clear",[])=S:=by kernel_rfl
  rw[e];exact⟨k,⟨hk,rfl,rfl,rfl⟩⟩
 | skip r q h1 h2 h3=>
  have e:c7 S c ("skip",[r,q])=S:=by kernel_rfl
  rw[e];exact⟨k,⟨hk,rfl,rfl,rfl⟩⟩
end
section
variable{t:aW}{C CT:Addr}{u:jW}
def QG(t:aW)(C CT PT:Addr):Sp:=λvs H Q _=>∃m A S c k p s sz lab,vs=[.ref m,.int (c:Nat)]/\bo t C CT H m A S/\jQ lab m A/\lh S/\zk S/\de PT LP LQ H/\S.ck[c]?=some k/\S.ps[c]?=some p/\p[k.pl]?=some s/\cA sz s/\
 ∀H',bo t C CT H' m A (wG S c)->a9 (dq m A) H H'->de PT LP LQ H'->Q .aE H'
theorem Ic:aZ ["self","clerk","step","regs"] ["self","clerk"] (aM Ji):=a8
theorem JU{S:Mc}{c r:Nat}{k:Ck}{v:Int}(hk:S.ck[c]?=some k):iC S c r v={ S with ck:=S.ck.set c { k with rg:=k.rg.set r v } }:=by unfold iC;rw[hk]
theorem abr{f fP fS fL fW PT:Addr}{fd p6 iu jD eM:aQ}(F:aP K "do_step" "Machine.do_step" Ji f fd)(cM:je K C)(O:v5 K mg t u)
  (GP:ao P w K mg base au 1 fP p6 ["step","place","regs"] (OJ t)) (kP:PySem.W.keepIn K (.ref fP)=true) (bP:Binds K p6 ["step","place","regs"] []) (mP:mg "place_behind" = some (.ref fP))
  (GS:ao P w K mg base au 5 fS iu ["self","clerk","step"] (Ru t C CT PT)) (bS:Binds K iu ["self","clerk","step"] []) (mS:Meth K C "do_set" fS)
  (GL:ao P w K mg base au 2 fL jD ["self","clerk","step"] (QH t C CT)) (bL:Binds K jD ["self","clerk","step"] []) (mL:Meth K C "do_look" fL)
  (GW:ao P w K mg base au 2 fW eM ["self","clerk","step"] (QF t C CT)) (bW:Binds K eM ["self","clerk","step"] []) (mW:Meth K C "do_swap" fW):ao P w K mg base au 6 f fd ["self","clerk"] (QG t C CT PT):=by
 refine ay O.st.cn.top λuT mT rT=>F.ok Ic (λvs H Q E h=>?_) λaD A _ s H vs Q E hr h=>?_
 ·refine dZ h λm A S c k aa=>jm aa λp s sz lab aa _=>?_;subst aa;rfl
 ·refine dZ h λm A S c k aa=>jm aa λp st sz lab aa bg=>?_;subst aa;refine mG bg λM L W lC hL aa=>Bc aa λhk hp hs g q=>?_;have dQ:=hr.mono (show 1<=5 by decide);have kc:=hr.mono (show 2<=5 by decide);refine ay (M.eY hk) λra i5 dP=>?_;have dH:=W.rg k (bw hk);refine i9 (M.part hp) λvs b us h1 h2 aa=>oA aa λh3 h4=>ay (qi h4 hs) λv hv aa=>kG aa λz a dz aa hz=>?_;subst aa;have akX:=M.adU hz
  have hdo:wG S c=yK (c7 S c st) c st:=by
   unfold wG;rw[hk,hp];dsimp only;rw[hs]
  refine let R1:TS:=_;let R2:TS:=_;let R3:TS:=_;let R4:TS:=_;let R5:TS:=_;let R6:TS:=_;let R7:TS:=_;let R8:TS:=_;let R9:TS:=_;let i6:TS:=_;let Ci:TS:=_;let NQ:TS:=_;let NP:TS:=_;⟨_,aA (cC (i:=2) Ic.nd rfl (aN rfl) (aJ cu (aJ cu (bf (pv 0) rfl) (pv 1)) (aJ cO (bf (pv 0) rfl) (pv 1)))) (pR NP (aA (cC (i:=3) Ic.nd rfl (aN rfl) (aJ cO (bf (pv 0) rfl) (pv 1))) (pR NQ (aA (bQ (dD (bp iB rfl O.st.bl.hG iw (ae (pv 2) (ae (eE (v:=.ref t.jt) rfl O.st.TQ rfl) af)))) (pR R1 (ax (qw (bf (pv 2) rfl) (qy (pv 3) (bf (pv 2) rfl) set_list)))) (pR R9 (ax (bQ (dD (bp iB rfl O.st.bl.hG iw (ae (pv 2) (ae (eE (v:=.ref t.ju) rfl O.st.TR rfl) af)))) (pR R2 (ax (qw (aT g6 (aT fR (aJ cO (pv 3) (bf (pv 2) rfl)) (aJ cO (pv 3) (bf (pv 2) rfl))) (eE rfl mT rT)) (qy (pv 3) (bf (pv 2) rfl) set_list)))) (pR R8 (ax (bQ (dD (bp iB rfl O.st.bl.hG iw (ae (pv 2) (ae (eE (v:=.ref t.ir) rfl O.st.D3 rfl) af)))) (pR R3 (ax (gg (i8 (pv 0) cM.cl mS GS hr bS .nil aO (ae (pv 1) (ae (pv 2) af)))))) (pR R7 (ax (bQ (dD (bp iB rfl O.st.bl.hG iw (ae (pv 2) (ae (eE (v:=.ref t.iL) rfl O.st.J3 rfl) af)))) (pR R4 (ax (gg (i8 (pv 0) cM.cl mL GL kc bL .nil aO (ae (pv 1) (ae (pv 2) af)))))) (pR R6 (ax (bQ (dD (bp iB rfl O.st.bl.hG iw (ae (pv 2) (ae (eE (v:=.ref t.jc) rfl O.st.SQ rfl) af)))) (pR R5 (ax (gg (i8 (pv 0) cM.cl mW GW kc bW .nil aO (ae (pv 1) (ae (pv 2) af))))))
         cq)))))))))))))
   (fG.UW (t':=λD σ H1=>σ=[some (.ref m),some (.int (c:Nat)),some (.ref z),some (.ref ra)]/\bo t C CT H1 m A (c7 S c st)/\a9 (dq m A) H H1/\de PT LP LQ H1/\∀σ' H',bo t C CT H' m A (wG S c)->a9 (dq m A) H H'->de PT LP LQ H'->D.nx σ' H') (pR Ci (aA (qw (bx GP dQ rfl mP kP bP .nil aO (ae (pv 2) (ae (aJ cO (bf (pv 0) rfl) (pv 1)) (ae (pv 3) af)))) (qy (bf (pv 0) rfl) (pv 1) set_list)) (pR i6 (ax (aer (bf (pv 0) rfl) (pv 1) adj aw agl set_list))))) ?tl))))),?_⟩
  case tl=>
   rintro D σ H1 ⟨rfl,M1,k1,p5,q⟩;refine oE (agB g hk) λk' ef=>b8 (id M1.obj) λdx fs hm G=>?_;have dr:=k1.k z _ akX (λps y=>by cases y) hz;refine ay (M1.eY ef.at') λWb Vm akU=>?_;have era:Wb=ra:=by rw[i5]at Vm;exact(eC Vm).symm
   subst era;have hc:c<(c7 S c st).ck.length:=(dC.mp ef.at').1;refine vr rfl (vF rfl hm cM.cl cM.places G.places (vr rfl (rL (aq.of M1.pl) (iW (f:=λk:Ck=>V.int (k.pl:Nat)) ef.at') (vr rfl (⟨z,a,dz,st,sz,Wb,k'.rg,k'.pl,rfl,dr,g,akU,(by rw[ef.rg];exact dH),(vF rfl hm cM.cl cM.places G.places (vr rfl (⟨A.pl,_,_,c,rfl,rfl,M1.pl,(vO (by rw[aH];exact hc)),?_⟩)))⟩)))));have M2:=ag9 M1 L ef.at' (ig st k'.rg k'.pl);have k2:a9 (dq m A) H1 (upd H1 A.pl (.lst (((c7 S c st).ck.map λk=>V.int (k.pl:Nat)).set c (.int (ig st k'.rg k'.pl:Nat))))):=a9.upd .pl;have l2:KL H1 (upd H1 A.pl (.lst (((c7 S c st).ck.map λk=>V.int (k.pl:Nat)).set c (.int (ig st k'.rg k'.pl:Nat))))):=KL.upd M1.pl;generalize upd H1 A.pl (.lst (((c7 S c st).ck.map λk=>V.int (k.pl:Nat)).set c (.int (ig st k'.rg k'.pl:Nat))))=H2 at M2 k2 l2 ⊢;refine b8 (id M2.obj) λxu pN ke G3=>?_;have e2:((c7 S c st).ck.set c { k' with pl:=ig st k'.rg k'.pl })[c]?=some { k' with pl:=ig st k'.rg k'.pl }:=jF hc;refine az _ rfl (dS m C xu pN (lJ _ rfl ke cM.cl cM.counts G3.counts (vr rfl (⟨A.ct,_,c,(.int (k'.ct:Nat)),rfl,rfl,M2.ct,(by rw[eJ,e2];rfl),⟨_,_,rfl,rfl,A.ct,_,_,c,rfl,rfl,M2.ct,vO (by rw[aH,iy];exact hc),?_⟩⟩))));have M3:=aha M2 L e2 (k'.ct+1);refine q _ _ ?_ ((k1.trans k2).trans (a9.upd .ct)) ((l2.trans (KL.upd M2.ct)).lam p5);rw[hdo]
   have e:yK (c7 S c st) c st={ (c7 S c st)with ck:=((c7 S c st).ck.set c { k' with pl:=ig st k'.rg k'.pl }).set c { k' with pl:=ig st k'.rg k'.pl,ct:=k'.ct+1 } }:=by
    unfold yK;rw[ef.at',Hd]
   rw[e];exact M3
  refine b8 (id M.obj) λdx fs hm G=>vF rfl hm cM.cl cM.steps G.steps (vr rfl (⟨A.st,_,_,(.ref b),rfl,rfl,(ar.of h1),(cD h2),(vF rfl hm cM.cl cM.places G.places (vr rfl (rL (aq.of M.pl) (iW (f:=λk:Ck=>V.int (k.pl:Nat)) hk) (⟨b,_,_,(.ref z),rfl,rfl,(ar.of h3),(cD hv),(az _ rfl (dS m C dx fs (lJ _ rfl hm cM.cl cM.eY G.eY (vr rfl (rL (v:=.ref ra) (aq.of M.rg) (iW i5) (ay (A8 O g hz) λD ty c6=>vr rfl (dS _ (.ref t.jt) _ (.ref t.jt) (gJ _ rfl ty rfl c6.akf (tk (b9 (λh=>?_) λn1=>?_))))))))))⟩))))⟩))
  ·cases g with
   | put r n g1 g2=>
    have hz:H z=some (.ins (cb t "put") dz (cW (.ref a) "put" ([r,n].map λ(n:Nat)=>V.int (n:Int)))):=hz;rw[AV,ae9]at hz;refine vF rfl hz O.st.su O.st.TK J4 (vr rfl (vF rfl hz O.st.su O.st.TN (DK dk) (⟨ra,_,_,r,rfl,rfl,dP,(vO (by rw[aH,dH];exact g1)),(⟨rfl,?_,(a9.upd (.rs (bw i5))),((KL.upd dP).lam hL),(λσ' H' h1 h2 h3=>q H' h1 h2 h3)⟩)⟩)));have e:c7 S c ("put",[r,n])=iC S c r (n:Nat):=rfl;rw[e,JU hk];exact DS M L hk i5 r (n:Nat)
   | add=>exact absurd (show ("add" : Str) = "put" from h) dk
   | set=>exact absurd (show ("set" : Str) = "put" from h) dk
   | look=>exact absurd (show ("look" : Str) = "put" from h) dk
   | swap=>exact absurd (show ("swap" : Str) = "put" from h) dk
   | clear=>exact absurd (show ("clear" : Str) = "put" from h) dk
   | skip=>exact absurd (show ("skip" : Str) = "put" from h) dk
  refine vr rfl (dS _ (.ref t.ju) _ (.ref t.ju) (gJ _ rfl ty rfl c6.akh (tk (b9 (λh=>?_) λn2=>?_))))
  ·cases g with
   | add r o g1 g2=>
    have hz:H z=some (.ins (cb t "add") dz (cW (.ref a) "add" ([r,o].map λ(n:Nat)=>V.int (n:Int)))):=hz;rw[AW,ae']at hz;have uX:k.rg[r]?=some (k.rg[r]'wg):=aR wg;have Xi:k.rg[o]?=some (k.rg[o]'wg):=aR wg;have eg1:k.rg.getD r 0=k.rg[r]'wg:=tM uX;have eg2:k.rg.getD o 0=k.rg[o]'wg:=tM Xi;refine vr rfl (vF rfl hz O.st.qI O.st.KG (DK dk) (rL (aq.of dP) (iW uX) (vr rfl (vF rfl hz O.st.qI O.st.TM J4 (rL (aq.of dP) (iW Xi) ⟨_,⟨_,rfl,rfl,_,_,rfl,rfl,by show (0:Int)<k7;decide +kernel,vr rfl (vF rfl hz O.st.qI O.st.KG (DK dk) (⟨ra,_,_,r,rfl,rfl,dP,(vO (by rw[aH,dH];exact g1)),(⟨rfl,?_,(a9.upd (.rs (bw i5))),((KL.upd dP).lam hL),(λσ' H' h1 h2 h3=>q H' h1 h2 h3)⟩)⟩))⟩⟩)))))
    have e:c7 S c ("add",[r,o])=iC S c r ((k.rg[r]'wg+k.rg[o]'wg)%k7):=by
     unfold c7;rw[if_neg (show ¬("add" : Str) = "put" from dk),if_pos rfl,hk];show iC S c r ((k.rg.getD r 0+k.rg.getD o 0)%k7)=_;rw[eg1,eg2]
    rw[e,JU hk];exact DS M L hk i5 r _
   | put=>exact absurd (show ("put" : Str) = "add" from h) dk
   | set=>exact absurd (show ("set" : Str) = "add" from h) dk
   | look=>exact absurd (show ("look" : Str) = "add" from h) dk
   | swap=>exact absurd (show ("swap" : Str) = "add" from h) dk
   | clear=>exact absurd (show ("clear" : Str) = "add" from h) dk
   | skip=>exact absurd (show ("skip" : Str) = "add" from h) dk
  refine vr rfl (dS _ (.ref t.ir) _ (.ref t.ir) (gJ _ rfl ty rfl c6.UR (tk (b9 (λh=>?_) λn3=>?_))))
  ·cases g with
   | set n r g1 g2=>
    have hz:H z=some (.ins (cb t "set") dz (cW (.ref a) "set" ([n,r].map λ(n:Nat)=>V.int (n:Int)))):=hz;rw[tP]at hz;refine vM rfl hm (G.ms _ dk) (vr rfl (vr rfl ⟨m,⟨A,S,c,k,z,dz,a,n,r,lab,rfl,M,L,W,lC,hL,hk,hz,g1,g2,λH1 M1 k1 p5=>⟨rfl,?_,k1,p5,(λσ' H' h1 h2 h3=>q H' h1 h2 h3)⟩⟩⟩));have e:c7 S c ("set",[n,r])=setM S c n r:=by kernel_rfl
    rw[e];exact M1
   | put=>exact absurd (show ("put" : Str) = "set" from h) dk
   | add=>exact absurd (show ("add" : Str) = "set" from h) dk
   | look=>exact absurd (show ("look" : Str) = "set" from h) dk
   | swap=>exact absurd (show ("swap" : Str) = "set" from h) dk
   | clear=>exact absurd (show ("clear" : Str) = "set" from h) dk
   | skip=>exact absurd (show ("skip" : Str) = "set" from h) dk
  refine vr rfl (dS _ (.ref t.iL) _ (.ref t.iL) (gJ _ rfl ty rfl c6.TB (tk (b9 (λh=>?_) λn4=>?_))))
  ·cases g with
   | look r n g1 g2=>
    have hz:H z=some (.ins (cb t "look") dz (cW (.ref a) "look" ([r,n].map λ(n:Nat)=>V.int (n:Int)))):=hz;rw[vA]at hz;refine vM rfl hm (G.ms _ dk) (vr rfl (vr rfl ⟨m,⟨A,S,c,k,z,dz,a,r,n,lab,rfl,M,L,W,hk,hz,g1,g2,λH1 M1 k1 l1=>⟨rfl,?_,k1,(l1.lam hL),(λσ' H' h1 h2 h3=>q H' h1 h2 h3)⟩⟩⟩));have e:c7 S c ("look",[r,n])=qF S c r n:=by kernel_rfl
    rw[e];exact M1
   | put=>exact absurd (show ("put" : Str) = "look" from h) dk
   | add=>exact absurd (show ("add" : Str) = "look" from h) dk
   | set=>exact absurd (show ("set" : Str) = "look" from h) dk
   | swap=>exact absurd (show ("swap" : Str) = "look" from h) dk
   | clear=>exact absurd (show ("clear" : Str) = "look" from h) dk
   | skip=>exact absurd (show ("skip" : Str) = "look" from h) dk
  refine vr rfl (dS _ (.ref t.jc) _ (.ref t.jc) (gJ _ rfl ty rfl c6.ahR (tk (b9 (λh=>?_) λn5=>?_))))
  ·cases g with
   | swap r n g1 g2=>
    have hz:H z=some (.ins (cb t "swap") dz (cW (.ref a) "swap" ([r,n].map λ(n:Nat)=>V.int (n:Int)))):=hz;rw[AG]at hz;refine vM rfl hm (G.ms _ dk) (vr rfl (vr rfl ⟨m,⟨A,S,c,k,z,dz,a,r,n,lab,rfl,M,L,W,lC,hk,hz,g1,g2,λH1 M1 k1 l1=>⟨rfl,?_,k1,(l1.lam hL),(λσ' H' h1 h2 h3=>q H' h1 h2 h3)⟩⟩⟩));have e:c7 S c ("swap",[r,n])=sk S c r n:=by kernel_rfl
    rw[e];exact M1
   | put=>exact absurd (show ("put" : Str) = "swap" from h) dk
   | add=>exact absurd (show ("add" : Str) = "swap" from h) dk
   | set=>exact absurd (show ("set" : Str) = "swap" from h) dk
   | look=>exact absurd (show ("look" : Str) = "swap" from h) dk
   | clear=>exact absurd (show ("clear" : Str) = "swap" from h) dk
   | skip=>exact absurd (show ("skip" : Str) = "swap" from h) dk
  have e:c7 S c st=S:=by
   unfold c7;rw[if_neg n1,if_neg n2,if_neg n3,if_neg n4,if_neg n5]
  exact⟨rfl,(by rw[e];exact M),(a9.refl H),hL,(λσ' H' h1 h2 h3=>q H' h1 h2 h3)⟩
end
def Be:List V->Bool
 | .str _::r=>r.all pM
 | _=>false
theorem QY:∀{r:List V},r.all pM=true->∃is:List Int,r=is.map V.int
 | [],_=>⟨[],rfl⟩
 | x::r,h=>by
  rw[xM,iG]at h;refine oE (QY h.2) λis aa=>?_;subst aa;cases x with
  | int i=>exact⟨i::is,rfl⟩
  | _=>cases h.1
theorem RZ:∀is:List Int,(is.map V.int).all pM=true
 | []=>rfl
 | i::is=>by rw[iz,xM,RZ is];rfl
theorem ae7{xs:List V}(h:Be xs=true):∃mv,xs=nh mv:=by
 cases xs with
 | nil=>cases h
 | cons x r=>
  cases x with
  | str x=>
   refine oE (QY (show r.all pM=true from h)) λis aa=>?_;subst aa;exact⟨(x,is),rfl⟩
  | _=>cases h
theorem aeR(mv:Mv):Be (nh mv)=true:=RZ mv.2
theorem Jo{a b:Mv}(h:nh a=nh b):a=b:=by
 obtain⟨x,is⟩:=a;obtain⟨y,js⟩:=b;unfold nh at h;injection h with h1 h2
 injection h1 with h1
 have e:∀(is js:List Int),is.map V.int=js.map V.int->is=js:=by
  intro is
  induction is with
  | nil=>intro js h;cases js with
   | nil=>rfl
   | cons _ _=>cases h
  | cons i is ih=>intro js h;cases js with
   | nil=>cases h
   | cons j js=>
    rw[iz,iz]at h;injection h with h1 h2
    injection h1 with h1
    rw[h1,ih js h2]
 rw[show x=y from h1,e is js h2]
def sL(mv:Mv):PyData:=.tuple (.str mv.1::mv.2.map rY)
theorem Q8:∀l m:List Int,Ah (l.map rY) (m.map rY)=decide (l=m)
 | [],[]=>by simp[Ah]
 | [],_::_=>by simp[Ah]
 | _::_,[]=>by simp[Ah]
 | a::l,b::m=>by
  rw[iz,iz];simp only[Ah,rZ];rw[Q8 l m]
  by_cases h1:a=b
  ·subst h1
   by_cases h2:l=m
   ·subst h2;simp
   ·simp[h2]
  ·simp[h1]
theorem agw(a b:Mv):rZ (sL a) (sL b)=decide (a=b):=by
 obtain⟨x,is⟩:=a;obtain⟨y,js⟩:=b;unfold sL;simp only[rZ,Ah];rw[Q8]
 by_cases h1:x=y
 ·subst h1
  by_cases h2:is=js
  ·subst h2;simp
  ·simp[h2]
 ·simp[h1]
theorem agJ(l:List Mv)(b:Mv):(l.map sL).any (λd=>rZ d (sL b))=decide (b∈l):=by
 induction l with
 | nil=>simp
 | cons a l ih=>
  rw[iz,tE,ih,agw]
  by_cases h:a=b
  ·subst h;simp
  ·have h':¬b=a:=λz=>h z.symm;simp[h,h']
theorem Qb{mv:Mv}(h:Cz mv.1=true):shaped (sL mv)=true:=by
 unfold sL shaped;rw[iG];refine⟨?_,decide_eq_true ?_⟩
 ·simp only[Ag,Ab];rw[h,vp];exact Hr λa _=>rfl
 ·have h:=HP (f:=rY) (k:=1) (l:=mv.2) (λa _=>by simp[Ha]);simp only[Ha,Gr];lia
theorem Ao{K:W.Frag}{H:Hp}:∀is:List Int,kR K H (is.map V.int) (is.map rY)
 | []=>.nil
 | i::is=>.cons (.int i) (Ao is)
theorem SO{K:W.Frag}{H:Hp}{p:Addr}{mv:Mv}(h:H p=some (.tup (nh mv))):jR K H (.ref p) (sL mv):=.tup (ar.of h) (.cons (.str mv.1) (Ao mv.2))
section
variable{t:aW}{C CT:Addr}{u:jW}
def Sn:Sp:=λvs H Q _=>∃p xs,vs=[.ref p]/\H p=some (.tup xs)/\(∀x∈xs,∃T,tyName H x=some T)/\xs.length<=1000/\∀H',ah H H'->Q (.bl (Be xs)) H'
theorem afL:aZ ["move"] ["move"] (aM Ku):=a8
theorem acV:(["part"]:List Str).Nodup:=dk
theorem aeE{f:Addr}{fd:aQ}(F:aP K "has_form_of_move" "has_form_of_move" Ku f fd)(T:qA K mg t):ao P w K mg base au 2 f fd ["move"] Sn:=by
 have GW:ao P w K mg base au 1 t.fW t.eM ["thing"] Dh:=Iz T.Mm T.bl;refine F.ok afL (λvs H Q E h=>?_) λaD A _ s H vs Q E hr h=>?_
 ·refine b8 h λp xs aa _=>?_;clear h;subst aa;rfl
 ·obtain⟨a,xs,aa,ha,pX,hl,k⟩:=h;subst aa;have B:=T.bl
  refine let R1:TS:=_;⟨_,aA (bQ (PW.pt (pw_or (iV (dD (bp iB rfl B.hG iw (ae (pv 0) (ae (mq (v:=.ty "tuple") rfl B.tuple mi rfl) af))))) (pw_or (cy dE (bp dR rfl B.len PySem.boot_len (ae (pv 0) af)) aw (bX _)) (pw_or1 (iV (dD (bp iB rfl B.hG iw (ae (aJ cu (pv 0) aw) (ae (mq (v:=.ty "str") rfl B.str boot_str rfl) af))))))))) (ax (aS g9)) cq) (pR R1 (ax (aS (bp (AI rfl) rfl B.all Dd (ae (gh (N:=["part"]) (idx:=[]) rfl (c9.of (by kernel_rfl)) (gC (bU _))
    (mz (CZ JC (pv 0) (Dm aw) Dn))
    (λ_ _ _ _=>br (i:=0) acV rfl (aN rfl) (.inr rfl))
    (λ_ _ _ _=>gZ)
    λ_ _ _ _=>bx GW hr rfl T.mW T.Mm.kp T.bW .nil aO (ae (pv 0) af)) af))))),?_⟩
  have hT:=CF ha;refine vr rfl (dS _ _ _ _ (gJ _ rfl (oB hT) rfl (oh hT qc) (az _ rfl (dN ?_))));cases xs with
  | nil=>
   refine vr rfl (eG a ([]) rfl (.inr (ar.of ha)) ⟨rfl,⟨_,rfl,b9 (λe=>?_) λn0=>absurd rfl n0⟩⟩);exact iq (k H (ah.refl H))
  | cons y ps=>
   refine vr rfl (eG a (y::ps) rfl (.inr (ar.of ha)) ⟨rfl,⟨_,rfl,b9 (λe=>?_) λn0=>?_⟩⟩)
   ·injection e with e
    exact absurd e (by simp only[gU];lia)
   refine oE (pX y fJ) λTy hy=>jf (v:=y) (j:=0) rfl ha rfl (dS _ _ _ _ (gJ _ rfl (oB hy) rfl (oh hy qc) (az _ rfl (Bd (λh1=>?_) λh1=>?_))))
   ·have e:Be (y::ps)=false:=by
     cases y with
     | str x=>exact absurd ((DM hy).mpr ⟨x,rfl⟩) (by rw[h1];exact dg)
     | _=>rfl
    have q:=k H (ah.refl H);rw[e]at q;exact q
   refine oE ((DM hy).mp h1) λx0 e0=>?_;subst e0;have k:∀H',ah H H'->Q (.bl (ps.all pM)) H':=k;refine az _ rfl (az 1 rfl ⟨a,⟨_,rfl,ar.of ha,?_,λq hq=>?_⟩⟩)
   ·intro z;have z1:=z.1;rw[Lq]at z1;cases z1
   rw[U3];have s2:ah H (upd H q (.tup ps)):=aI (ah.refl H) hq;have sS:upd H q (.tup ps) q=some (.tup ps):=av;generalize upd H q (.tup ps)=H3 at s2 sS ⊢;have nC:ps.length<=1000:=by rw[gU]at hl;lia
   refine eZ q rfl ⟨_,ar.of sS⟩ (fk (n:=ps.length) (λi ys H'=>i<=ps.length/\H'=H3/\ys=(ps.take i).map λz=>V.bl (pM z)) (cg (cx w0)) (gu (bU _) rfl rfl) ?_ ?_ ?_ ?_ ?_)
   ·rintro i ys H' ⟨_,_,e⟩;rw[e,aH,gz];exact xl
   ·rintro i ys H' hi ⟨_,rfl,_⟩;exact iD _ _ (ar.of sS) (aR hi)
   ·rintro ys H' ⟨_,rfl,_⟩;exact az _ (ar.of sS) (aB _)
   ·rintro i ys H' hi ⟨_,rfl,e⟩ z gd ⟨eH,dr⟩;subst eH;have hz:=dr _ (ar.of sS);refine oE (pX z (dJ _ (bw hz))) λTx Ny=>?_;have L0:=O4 s2 Ny;dsimp only[lO,iX];rw[if_pos rfl];refine vr rfl (⟨z,Tx,rfl,L0,hi,rfl,?_⟩);rw[kv,hz,gf,<-e];rfl
   ·rintro ys H' ⟨_,rfl,e⟩;refine⟨?_,λr cH=>?_⟩
    ·rw[e,aH,gz];have:=cx (n:=ps.length) w0;lia
    have ey:ys=(ps.map pM).map V.bl:=by
     rw[e,jE (aB _),lF];rfl
    refine eG r (ps.map pM) rfl (aq.of (by rw[av,ey])) ?_;rw[Aj];exact k _ (aI s2 cH)
end
def t7(S:Mc)(mv:Mv):Mc:=if mv.1 = "do" then wG S (mv.2.getD 0 0).toNat else qz S (mv.2.getD 0 0).toNat (mv.2.getD 1 0).toNat
theorem CQ{S:Mc}{mv:Mv}(h:mv∈pk S):(∃c:Nat,mv=(("do" : Str),[(c:Int)])/\c<S.ck.length/\vZ S c=true)\/(∃(c:Nat) (k:Ck) (n:Int),mv=(("carry" : Str),[(c:Int),n])/\S.ck[c]?=some k/\n∈iU S.kd k.es):=by
 unfold pk at h;rcases jH.mp h with h | h
 ·left
  unfold uh at h;refine ay (jJ.mp h) λc hc aa=>?_;subst aa;exact oA (mf.mp hc) λh1 h2=>eZ c rfl (iN.mp h1) h2
 ·right
  unfold C7 v3 at h;refine ay (List.mem_flatMap.mp h) λaa hx hm=>?_;obtain⟨k,c⟩:=aa;unfold D8 at hm;refine ay (jJ.mp hm) λn hn aa=>?_;subst aa;have hc:S.ck[c]?=some k:=List.mem_zipIdx_iff_getElem?.mp hx;exact⟨c,k,n,rfl,hc,hn⟩
theorem Qd{S:Mc}{mv:Mv}(h:mv∈pk S):Cz mv.1=true:=by
 rcases CQ h with ⟨c,rfl,_,_⟩ | ⟨c,k,n,rfl,_,_⟩
 ·show Cz "do" = true;decide +kernel
 ·show Cz "carry" = true;decide +kernel
theorem QU{S:Mc}{c:Nat}(W:lh S)(hc:c<S.ck.length)(h:vZ S c=true):∃k p s sz,S.ck[c]?=some k/\S.ps[c]?=some p/\p[k.pl]?=some s/\cA sz s:=by
 have hk:S.ck[c]?=some S.ck[c]:=aR hc;refine cQ (W.part hk) λp hp _ _ hg=>?_;rw[Jp hk hp]at h;unfold pH at h;cases e:p[S.ck[c].pl]? with
 | none=>rw[e]at h;cases h
 | some s=>exact⟨_,p,s,_,hk,hp,e,hg s (bw e)⟩
section
variable{t:aW}{C CT:Addr}{u:jW}
def UH(t:aW)(C CT PT kU:Addr):Sp:=λvs H Q E=>∃m A S p xs lab,vs=[.ref m,.ref p]/\bo t C CT H m A S/\jQ lab m A/\lh S/\zk S/\de PT LP LQ H/\H p=some (.tup xs)/\(∀x∈xs,∃T,tyName H x=some T)/\xs.length<=1000/\(∀mv,xs=nh mv->Cz mv.1=true)/\
 (∀mv,xs=nh mv->mv∈pk S->∀H',bo t C CT H' m A (t7 S mv)->a9 (dq m A) H H'->de PT LP LQ H'->Q .aE H')/\
 ((∀mv,xs=nh mv->mv∉pk S)->∀H',a9 sP H H'->de PT LP LQ H'->E (.ref kU) none H')
theorem ahs:aZ ["self","move"] ["self","move"] (aM Lp):=a8
theorem adM{k:Nat}{A:Around}(r:eI k A):A.units+65<cLine:=by have:=r.un;lia
theorem adw{K:PySem.W.Frag}{H:Hp}{vs:List V}{l:List Mv}(h:Paired (pJ H) vs l):kR K H vs (l.map sL):=Qr (F:=pJ H) (λv a q=>by
 obtain⟨p,rfl,q⟩:=q;exact SO q) h
theorem afX{f fF fM fS fC PT kU:Addr}{fd jj vd iu ma:aQ}(F:aP K "do" "Machine.do" Lp f fd)(cM:je K C)
  (GF:ao P w K mg base au 2 fF jj ["move"] Sn) (kF:PySem.W.keepIn K (.ref fF)=true) (bF:Binds K jj ["move"] []) (mF:mg "has_form_of_move" = some (.ref fF))
  (GM:ao P w K mg base au 4 fM vd ["self"] (IX t C CT PT)) (bM:Binds K vd ["self"] []) (mM:Meth K C "moves" fM)
  (GS:ao P w K mg base au 6 fS iu ["self","clerk"] (QG t C CT PT)) (bS:Binds K iu ["self","clerk"] []) (mS:Meth K C "do_step" fS)
  (GC:ao P w K mg base au 4 fC ma ["self","clerk","name"] (IY t C CT PT)) (bC:Binds K ma ["self","clerk","name"] []) (mC:Meth K C "carry" fC)
  (xc:XC K kU) (mX:mg "NoMove" = some (.ref kU)):ao P w K mg base (lU P w) 7 f fd ["self","move"] (UH t C CT PT kU):=by
 refine F.Mh ahs (λvs H Q E h=>?_) λaD A outer s H vs Q E hr hL hp h=>?_
 ·refine ml h λm A S p xs lab aa _=>?_;subst aa;rfl
 ·refine lG h λm A S p xs lab aa M L W bg=>?_;subst aa;refine mG bg λlC uo uH pX hl aa=>dU aa λakP q1 q2=>?_;have kc:=hr.mono (show 2<=6 by decide);have j':=hr.mono (show 4<=6 by decide);refine let R1:TS:=_;let R2:TS:=_;let R3:TS:=_;let R4:TS:=_;⟨_,aA (bQ (PW.pt (pw_or (iV (dD (bx GF kc rfl mF kF bF .nil aO (ae (pv 1) af)))) (pw_or1 (cy (abi (adM hr)) (pv 1) (vz (pv 0) cM.cl mM GM j' bM .nil aO) rfl)))) (pR R1 (ax (Iu rfl hL xc rfl mX (ae cV af)))) cq) (pR R4 (ax (bQ (cy dE (aJ cu (pv 1) aw) cV (bX _)) (pR R2 (ax (gg (i8 (pv 0) cM.cl mS GS hr bS .nil aO (ae (aJ cu (pv 1) aw) af))))) (pR R3 (ax (gg (i8 (pv 0) cM.cl mC GC j' bC .nil aO (ae (aJ cu (pv 1) aw) (ae (aJ cu (pv 1) aw) af))))))))),?_⟩
  refine vr rfl (⟨p,xs,rfl,uH,pX,hl,(λH1 s1=>(az _ rfl ?_))⟩);cases hf:Be xs with
  | false=>exact iq (iq ⟨qc,q2 (λmv e=>by rw[e,aeR]at hf;cases hf) H1 (a9.of s1) (oX uo s1)⟩)
  | true=>
  refine oE (ae7 hf) λmv aa=>?_;subst aa;have M1:=M.same s1;refine b8 (id M1.obj) λdx fs hm G=>dN (vr rfl (vM rfl hm (G.ms _ dk) (⟨m,A,S,rfl,M1,W,(oX uo s1),(λH2 l vs k2 oO hn nC jz=>?_)⟩)));have uI:=k2.Bn _ _ (s1 _ _ uH);refine⟨l,vs,_,(⟨_,rfl,(aq.of nC),(adw jz),(SO uI),(Qb (akP mv rfl)),(λd hd=>?_),(az _ rfl ?_)⟩)⟩
  ·refine ay (jJ.mp hd) λa ha aa=>?_;subst aa;exact Qb (Qd ha)
  rw[if_pos rfl,agJ];have WO:=(a9.of s1).trans k2
  by_cases kg:mv∈pk S
  ·rw[decide_eq_true kg];refine dN ?_;have q:=q1 mv rfl kg;have M2:=M1.vN k2;refine b8 (id M2.obj) λxu pN ke G3=>?_;have kk:∀H',a9 (dq m A) H2 H'->a9 (dq m A) H H':=λH' k=>(WO.mono λb z=>z.elim).trans k;rcases CQ kg with ⟨c,rfl,hc,sI⟩ | ⟨c,k,n,rfl,hk,kh⟩
   ·refine jm (QU W hc sI) λk pt st sz hk aa=>dU aa λrm cX g=>jf (j:=0) rfl uI rfl ⟨rfl,⟨_,rfl,b9 (λ_=>?_) λy=>absurd rfl y⟩⟩;exact vM rfl ke (G3.ms _ dk) (jf (j:=1) rfl uI rfl (⟨m,A,S,c,k,pt,st,sz,lab,rfl,M2,L,W,lC,(⟨oO,hk,rm,cX,g,(λH3 M3 k3 sV=>q H3 M3 (kk _ k3) sV)⟩)⟩))
   ·refine ay (M.vW hk) λx hx T=>aX (Qj T.wf kh) λi hi aa _=>?_;subst aa;exact jf (j:=0) rfl uI rfl ⟨rfl,⟨_,rfl,b9 (λy=>absurd (show ("carry" : Str) = "do" from Ed y) dk) λ_=>vM rfl ke (G3.ms _ dk) (jf (j:=1) rfl uI rfl (jf (j:=2) rfl uI rfl (⟨m,A,S,c,k,i,lab,rfl,M2,L,oO,hk,kh,hi,(⟨W.bd,W.ov,lC,(λH3 M3 k3 sV=>q H3 M3 (kk _ k3) sV)⟩)⟩)))⟩⟩
  ·rw[decide_eq_false kg];exact iq ⟨qc,q2 (λWz e z=>kg (by rw[Jo e];exact z)) H2 WO oO⟩
end
structure jV(n:Nat)(S:Mc):Prop where
 wf:lh S
 ac:S.ac.length<=n
 ov:∀o∈S.ov,o.length<=n
theorem jV.ovf{n:Nat}{S:Mc}(W:jV n S)(h:n<=16000):zk S:=λo ho=>cZ (W.ov o ho) h
structure pP(n:Nat)(nm:Option Nat)(S S':Mc)(c:Nat)(k k':Ck):Prop where
 ck:S'.ck=S.ck.set c k'
 ps:S'.ps=S.ps
 kd:S'.kd=S.kd
 rg:k'.rg.length=k.rg.length
 bd:S'.bd.length=S.bd.length
 EL:S'.ov.length=S.ov.length
 ES:S.ac.length<=S'.ac.length
 ER:S'.ac.length<=S.ac.length+1
 es:k'.es.length<=S'.ac.length
 ov:∀o∈S'.ov,o.length<=n+1
 en:∀e∈k'.es,e∈k.es\/∃i:Nat,nm=some i/\e.n=(i:Int)
theorem aes{S:Mc}{n:Nat}(W:jV n S)(i:Nat):(S.ov.getD i []).length<=n:=by
 cases h:S.ov[i]? with
 | none=>rw[dI,h];exact bU _
 | some o=>rw[dI,h];exact W.ov o (bw h)
theorem Sz{S:Mc}{n i:Nat}{d:Int}(W:jV n S):∀o∈S.ov.set i (S.ov.getD i []++[d]),o.length<=n+1:=by
 intro o ho;rcases F2 ho with h | h
 ·exact tj (W.ov o h)
 ·rw[h,fQ];exact Cq (aes W i)
theorem KC{S:Mc}{n:Nat}(W:jV n S):∀o∈S.ov,o.length<=n+1:=λo ho=>tj (W.ov o ho)
theorem adu(es:List Ent)(n:Int):(qH es n).length<=es.length:=List.length_eraseP_le
theorem aa8{α:Type}{l:List α}{c:Nat}{k:α}(h:l[c]?=some k):l.set c k=l:=by
 refine oE (dC.mp h) λhc e=>?_;rw[<-e];exact List.set_getElem_self hc
section
variable{S:Mc}{n c:Nat}{k:Ck}{nm:Option Nat}
theorem Q5(W:jV n S)(hk:S.ck[c]?=some k):pP n nm S S c k k:=⟨(aa8 hk).symm,rfl,rfl,rfl,rfl,rfl,aB _,jL _,W.wf.es k (bw hk),KC W,λe he=>.inl he⟩
theorem Du{S':Mc}{k':Ck}(h:pP n nm S S' c k k')(hc:c<S.ck.length)(r:Nat)(v:Int):pP n nm S (iC S' c r v) c k { k' with rg:=k'.rg.set r v }:=by
 have e:S'.ck[c]?=some k':=by rw[h.ck];exact jF hc
 rw[JU e];exact⟨by show S'.ck.set c _=_;rw[h.ck,Hd],h.ps,h.kd,by show (k'.rg.set r v).length=_;rw[iy];exact h.rg,h.bd,h.EL,h.ES,h.ER,h.es,h.ov,h.en⟩
theorem Ql{S':Mc}{k':Ck}(W:jV n S)(h:pP n nm S S' c k k')(lC:S'.ov=S.ov)(hc:c<S.ck.length)(i:Nat):∃wU,pP n nm S (qz S' c i) c k wU/\wU.pl=k'.pl/\wU.ct=k'.ct:=by
 have e:S'.ck[c]?=some k':=by rw[h.ck];exact jF hc
 unfold qz;rw[e];dsimp only;cases (cG k'.es i).head? with
 | none=>exact⟨k',h,rfl,rfl⟩
 | some x=>
  refine eZ ({ k' with es:=qH k'.es i }) ⟨by show S'.ck.set c _=_;rw[h.ck,Hd],h.ps,h.kd,h.rg,?_,?_,h.ES,h.ER,cZ (adu _ _) h.es,?_,λe he=>h.en e (List.mem_of_mem_eraseP he)⟩ rfl rfl
  ·show (S'.bd.set i x.num).length=_;rw[iy];exact h.bd
  ·show (S'.ov.set i (S'.ov.getD i []++[x.d])).length=_;rw[iy];exact h.EL
  ·show ∀o∈S'.ov.set i (S'.ov.getD i []++[x.d]),o.length<=n+1;rw[lC];exact Sz W
theorem afb{sz:Nat}{s:Tl}(W:jV n S)(g:cA sz s)(hk:S.ck[c]?=some k):∃k',pP n (if s.1 = "set" then s.2.head? else none) S (c7 S c s) c k k'/\k'.pl=k.pl/\k'.ct=k.ct:=by
 have hc:c<S.ck.length:=(dC.mp hk).1;have f0:=λnm=>Q5 (nm:=nm) W hk;cases g with
 | put r m h1 h2=>exact⟨_,Du (f0 _) hc _ _,rfl,rfl⟩
 | add r o h1 h2=>
  have e:c7 S c ("add",[r,o])=iC S c r ((k.rg.getD r 0+k.rg.getD o 0)%k7):=by
   unfold c7;rw[if_neg (show ¬("add" : Str) = "put" from dk),if_pos rfl,hk];rfl
  rw[e];exact eZ _ (Du (f0 _) hc _ _) rfl rfl
 | set i r h1 h2=>
  have e:c7 S c ("set",[i,r])=setM S c i r:=by kernel_rfl
  rw[e];unfold setM;rw[hk];dsimp only
  have f1:pP n (some i) S (iM (yQ S c i k (k.rg.getD r 0)) ⟨"set",c,i,none,some (k.rg.getD r 0),none⟩) c k { k with tn:=k.tn+1,es:=k.es++[⟨k.tn,i,k.rg.getD r 0,S.ac.length⟩] }:=by
   refine⟨rfl,rfl,rfl,rfl,rfl,rfl,?_,?_,?_,λo ho=>KC W o ho,λe he=>?_⟩
   ·show S.ac.length<=(S.ac++[_]).length;rw[fQ];exact Gn _ _
   ·show (S.ac++[_]).length<=_;rw[fQ];exact aB _
   ·show (k.es++[_]).length<=(S.ac++[_]).length;rw[fQ,fQ];exact Cq (W.wf.es k (bw hk))
   ·exact(jH.mp he).imp id λz=>⟨i,rfl,by rw[eN.mp z]⟩
  rw[show (if (("set",[i,r]):Tl).1 = "set" then (("set",[i,r]):Tl).2.head? else none)=some i by kernel_rfl]
  split
  ·exact aX (Ql W f1 rfl hc i) λwU f2 e1 e2=>eZ wU f2 e1 e2
  ·exact eZ _ f1 rfl rfl
 | look r i h1 h2=>
  have e:c7 S c ("look",[r,i])=iC (iM S ⟨"look",c,i,some (dA S k i).1,none,(dA S k i).2⟩) c r (dA S k i).1:=by
   unfold c7;rw[if_neg (show ¬("look" : Str) = "put" from dk),if_neg (show ¬("look" : Str) = "add" from dk),if_neg (show ¬("look" : Str) = "set" from dk),if_pos rfl];show qF S c r i=_;unfold qF;rw[hk]
  rw[e]
  have f1:∀nm,pP n nm S (iM S ⟨"look",c,i,some (dA S k i).1,none,(dA S k i).2⟩) c k k:=by
   refine λnm=>⟨(f0 none).ck,rfl,rfl,rfl,rfl,rfl,?_,?_,?_,λo ho=>KC W o ho,λe he=>.inl he⟩
   ·show S.ac.length<=(S.ac++[_]).length;rw[fQ];exact Gn _ _
   ·show (S.ac++[_]).length<=_;rw[fQ];exact aB _
   ·show k.es.length<=(S.ac++[_]).length;rw[fQ];exact tj (W.wf.es k (bw hk))
  exact eZ _ (Du (f1 _) hc _ _) rfl rfl
 | swap r i h1 h2=>
  have e:c7 S c ("swap",[r,i])=iC (iM (qu S i (k.rg.getD r 0) S.ac.length) ⟨"swap",c,i,some (S.bd.getD i 0),some (k.rg.getD r 0),(S.ov.getD i []).getLast?⟩) c r (S.bd.getD i 0):=by
   unfold c7;rw[if_neg (show ¬("swap" : Str) = "put" from dk),if_neg (show ¬("swap" : Str) = "add" from dk),if_neg (show ¬("swap" : Str) = "set" from dk),if_neg (show ¬("swap" : Str) = "look" from dk),if_pos rfl];show sk S c r i=_;unfold sk;rw[hk]
  rw[e]
  have f1:∀nm,pP n nm S (iM (qu S i (k.rg.getD r 0) S.ac.length) ⟨"swap",c,i,some (S.bd.getD i 0),some (k.rg.getD r 0),(S.ov.getD i []).getLast?⟩) c k k:=by
   refine λnm=>⟨(f0 none).ck,rfl,rfl,rfl,?_,?_,?_,?_,?_,?_,λe he=>.inl he⟩
   ·show (S.bd.set i _).length=_;rw[iy]
   ·show (S.ov.set i _).length=_;rw[iy]
   ·show S.ac.length<=(S.ac++[_]).length;rw[fQ];exact Gn _ _
   ·show (S.ac++[_]).length<=_;rw[fQ];exact aB _
   ·show k.es.length<=(S.ac++[_]).length;rw[fQ];exact tj (W.wf.es k (bw hk))
   ·exact Sz W
  exact eZ _ (Du (f1 _) hc _ _) rfl rfl
 | clear=>
  have e:c7 S c ("clear",[])=S:=by kernel_rfl
  rw[e];exact eZ k (f0 _) rfl rfl
 | skip r q h1 h2 h3=>
  have e:c7 S c ("skip",[r,q])=S:=by kernel_rfl
  rw[e];exact eZ k (f0 _) rfl rfl
theorem ago{S':Mc}{k':Ck}(W:jV n S)(hn:n<15000)(h:pP n nm S S' c k k')(hk:S.ck[c]?=some k)(dB:∀p,S.ps[c]?=some p->k'.pl<=p.length):jV (n+1) S':=by
 have oN:=W.ac;have h2:=h.ER;have h1:=h.ES;have hc:c<S.ck.length:=(dC.mp hk).1;refine⟨⟨by rw[h.ps];exact W.wf.good,by rw[h.ck,iy,h.ps];exact W.wf.len,by rw[h.bd];exact W.wf.bd,by rw[h.EL];exact W.wf.ov,?_,?_,li,?_⟩,li,h.ov⟩
 ·intro x hx;rw[h.ck]at hx;rcases F2 hx with y | y
  ·exact W.wf.rg x y
  ·rw[y,h.rg];exact W.wf.rg k (bw hk)
 ·intro i x p hx hp;rw[h.ps]at hp;rw[h.ck]at hx
  by_cases e:c=i
  ·subst e;rw[jF hc]at hx;cases hx;exact dB p hp
  ·rw[vm e]at hx;exact W.wf.pl i x p hx hp
 ·intro x hx;rw[h.ck]at hx;rcases F2 hx with y | y
  ·exact cZ (W.wf.es x y) h1
  ·rw[y];exact h.es
theorem ab0{s:Tl}{rg:List Int}{pl:Nat}{p:Pt}(g:cA p.length s)(h:pl<p.length):ig s rg pl<=p.length:=by
 unfold ig
 split
 ·rename_i hs
  cases g with
  | skip r q h1 h2 h3=>exact h2
  | put=>exact absurd (show ("put" : Str) = "skip" from hs.1) dk
  | add=>exact absurd (show ("add" : Str) = "skip" from hs.1) dk
  | set=>exact absurd (show ("set" : Str) = "skip" from hs.1) dk
  | look=>exact absurd (show ("look" : Str) = "skip" from hs.1) dk
  | swap=>exact absurd (show ("swap" : Str) = "skip" from hs.1) dk
  | clear=>exact absurd (show ("clear" : Str) = "skip" from hs.1) dk
 ·exact h
theorem IB{mv:Mv}(W:jV n S)(h:mv∈pk S):∃(c:Nat) (k k':Ck) (nm:Option Nat) (p:Pt),S.ck[c]?=some k/\S.ps[c]?=some p/\pP n nm S (t7 S mv) c k k'/\((nm=none/\k'.pl=k.pl)\/∃s rg,p[k.pl]?=some s/\cA p.length s/\nm=(if s.1 = "set" then s.2.head? else none)/\k'.pl=ig s rg k.pl/\(k.es=[]\/iJ s=false)):=by
 rcases CQ h with ⟨c,rfl,hc,sI⟩ | ⟨c,k,i,rfl,hk,kh⟩
 ·refine jm (QU W.wf hc sI) λk p s _ hk aa=>dU aa λhp hs _=>cQ (W.wf.part hk) λp' uM _ _ hg=>?_;have ep:p'=p:=by rw[hp]at uM;exact(eC uM).symm
  subst ep;have g:=hg s (bw hs);refine aX (afb W g hk) λk' f e1 e2=>?_
  have e:t7 S ("do",[(c:Int)])=yK (c7 S c s) c s:=by
   unfold t7;rw[if_pos rfl];show wG S ((c:Int)).toNat=_;rw[gy];unfold wG;rw[hk,hp];dsimp only;rw[hs]
  rw[e];have ec:(c7 S c s).ck[c]?=some k':=by rw[f.ck];exact jF hc
  refine⟨c,k,{ k' with pl:=ig s k'.rg k'.pl,ct:=k'.ct+1 },(if s.1 = "set" then s.2.head? else none),p',hk,hp,?_,.inr ⟨s,k'.rg,hs,g,rfl,by rw[<-e1],?_⟩⟩
  ·unfold yK;rw[ec];exact⟨by show (c7 S c s).ck.set c _=_;rw[f.ck,Hd],f.ps,f.kd,f.rg,f.bd,f.EL,f.ES,f.ER,f.es,f.ov,f.en⟩
  ·rw[Jp hk hp]at sI;unfold pH at sI;rw[hs]at sI;simpa using sI
 ·have hc:c<S.ck.length:=(dC.mp hk).1
  have e:t7 S ("carry",[(c:Int),i])=qz S c i.toNat:=by
   unfold t7;rw[if_neg (show ¬("carry" : Str) = "do" from dk)];show qz S ((c:Int)).toNat _=_;rw[gy];rfl
  rw[e];refine aX (Ql (nm:=none) W (Q5 W hk) rfl hc i.toNat) λwU f e1 e2=>cQ (W.wf.part hk) λp' uM _ _ hg=>?_;exact⟨c,k,wU,none,p',hk,uM,f,.inl ⟨rfl,e1⟩⟩
theorem aeV{mv:Mv}(W:jV n S)(hn:n<15000)(h:mv∈pk S):jV (n+1) (t7 S mv):=by
 obtain⟨c,k,k',nm,p,hk,hp,f,o⟩:=IB W h;refine ago W hn f hk λq hq=>?_;rw[hp]at hq;cases hq;rcases o with ⟨_,e⟩ | ⟨s,rg,hs,g,_,e,_⟩
 ·rw[e];exact W.wf.pl c k p hk hp
 ·rw[e];exact ab0 g (dC.mp hs).1
end
theorem af4{kd:Str}{ps:List Pt}(g:kQ ps):jV 0 (yF kd ps):=by
 refine⟨⟨g,by show (ps.map _).length=_;rw[aH];rfl,by show (cY 12 (0:Int)).length=12;rfl,by show (cY 12 ([]:List Int)).length=12;rfl,?_,?_,bU _,?_⟩,aB _,?_⟩
 ·intro k hk;refine ay (jJ.mp hk) λ_ _ aa=>?_;subst aa;rfl
 ·intro c k p hk hp;have:k∈(ps.map λ_=>k0):=bw hk;refine ay (jJ.mp this) λ_ _ aa=>?_;subst aa;exact bU _
 ·intro k hk;refine ay (jJ.mp hk) λ_ _ aa=>?_;subst aa;exact aB _
 ·intro o ho;rw[List.eq_of_mem_replicate ho];exact aB _
def qQ(rows:List (List Nat))(S:Mc):Prop:=∀(c:Nat) (k:Ck),S.ck[c]?=some k->∀e∈k.es,∃m:Nat,e.n=(m:Int)/\(L5.bb (rows.getD c []) k.pl).testBit m=true
def BE(rows:List (List Nat))(ps:List Pt):Prop:=∀(c:Nat) (p:Pt),ps[c]?=some p->L5.si (fU p) p.length (rows.getD c [])
theorem abY(s:Tl)(rg:List Int)(i:Nat):ig s rg i∈dh s i:=by
 unfold ig dh
 by_cases h:s.1 = "skip"
 ·rw[if_pos h]
  split
  ·exact(L5.yj _ _ _).mpr (.inr rfl)
  ·exact(L5.yj _ _ _).mpr (.inl rfl)
 ·rw[if_neg h,if_neg λz=>h z.1];simp
theorem Q0(rows:List (List Nat))(kd:Str)(ps:List Pt):qQ rows (yF kd ps):=λc k hk e he=>by
 have:k∈(ps.map λ_=>k0):=bw hk;obtain⟨_,_,rfl⟩:=jJ.mp this;cases he
theorem Qi{rows:List (List Nat)}{S:Mc}{n:Nat}{mv:Mv}(W:jV n S)(cl:BE rows S.ps)(h:qQ rows S)(hm:mv∈pk S):qQ rows (t7 S mv):=by
 obtain⟨c,k,k',nm,p,hk,hp,f,o⟩:=IB W hm;have hc:c<S.ck.length:=(dC.mp hk).1;intro i x hx e he;rw[f.ck]at hx
 by_cases ec:c=i
 ·subst ec;rw[jF hc]at hx;cases hx;rcases o with ⟨e0,e1⟩ | ⟨s,rg,hs,g,e0,e1,sI⟩
  ·rcases f.en e he with z | ⟨m,z,_⟩
   ·rw[e1];exact h c k hk e z
   ·rw[e0]at z;cases z
  ·have Vl:nm=setB s:=e0;have hZ:=λm hb=>cl c p hp k.pl (jx k.pl s) (dC.mp hs).1 (IU hs) _ (abY s rg k.pl) m hb;rw[<-e1]at hZ;rcases f.en e he with z | ⟨m,z,en⟩
   ·obtain⟨m,en,hb⟩:=h c k hk e z;refine⟨m,en,hZ m (L5.qk.mpr ⟨sI.resolve_left λq=>?_,.inl hb⟩)⟩;rw[q]at z;cases z
   ·exact⟨m,en,hZ m (L5.qk.mpr ⟨(JD g (Vl.symm.trans z)).2.1,.inr (Vl.symm.trans z)⟩)⟩
 ·rw[vm ec]at hx;exact h i x hx e he
theorem afi{g:Nat->Bool}{kn:Bool}{s:Tl}{i:Nat}{row:List Nat}(hZ:lL s i row=[]):∀x,qW g kn s i row=some x->x.1 = "look"\/x.1 = "set":=by
 intro x h;unfold qW at h
 split at h
 ·obtain⟨n,_,rfl⟩:=xv.mp h;exact .inl rfl
 ·split at h
  ·obtain⟨n,_,rfl⟩:=xv.mp h;exact .inr rfl
  ·rw[hZ]at h;cases h
theorem Pj{n q m:Nat}(h:L5.Sub n q)(g:n-(n &&& (1 <<< m))≠0):q-(q &&& (1 <<< m))≠0:=λz=>g (L5.without.mpr λk hk=>L5.without.mp z k (h k hk))
theorem abx{s:Tl}{n q:Nat}{g:Nat->Bool}(h:L5.Sub n q)(e:nX s q g=false):nX s n g=false:=by
 unfold nX at e ⊢;cases hl:jb s with
 | none=>rfl
 | some m=>
  rw[hl]at e;refine tm.mpr λz=>tm.mp e ?_;have z:=yP z;show (g m&&_)=true;rw[z.1,decide_eq_true (Pj h (of_decide_eq_true z.2))];rfl
theorem acf{s:Tl}{n q:Nat}{kn:Bool}(h:L5.Sub n q)(e:og s q kn=false):og s n kn=false:=by
 unfold og at e ⊢;cases hl:setB s with
 | none=>rfl
 | some m=>
  rw[hl]at e;refine tm.mpr λz=>tm.mp e ?_;have z:=yP z;show (kn&&_)=true;rw[z.1,decide_eq_true (Pj h (of_decide_eq_true z.2))];rfl
theorem afj{g:Nat->Bool}{kn:Bool}{s:Tl}{i:Nat}{row q:List Nat}(hq:∀x∈q,x<4096)(hs:L5.Sub (L5.bb row i) (L5.bb q i))(hZ:lL s i row=[])(h:qW g kn s i q=none):qW g kn s i row=none:=by
 unfold qW at h ⊢
 have e1:nX s (q.getD i 0) g=false:=by
  refine tm.mpr λz=>?_;rw[if_pos z]at h;have hn:=(L5.Pn (L5.Bg hq)).mp (N6.mp h);unfold nX at z;cases hl:jb s with
  | none=>rw[hl]at z;cases z
  | some m=>
   rw[hl]at z hn;exact of_decide_eq_true (yP z).2 hn
 rw[if_neg (tm.mp e1)]at h
 have e2:og s (q.getD i 0) kn=false:=by
  refine tm.mpr λz=>?_;rw[if_pos z]at h;have hn:=(L5.Pn (L5.Bg hq)).mp (N6.mp h);unfold og at z;cases hl:setB s with
  | none=>rw[hl]at z;cases z
  | some m=>
   rw[hl]at z hn;exact of_decide_eq_true (yP z).2 hn
 rw[if_neg (tm.mp (abx hs e1)),if_neg (tm.mp (acf hs e2)),hZ];rfl
theorem QW{rows:List (List Nat)}{ps:List Pt}(cl:BE rows ps){c i:Nat}(hc:c<ps.length)(hi:i<(ps.getD c []).length):lL (yw ps c i) i (rows.getD c [])=[]:=by
 have hp:ps[c]?=some (ps.getD c []):=by rw[dI,aR hc];rfl
 have hs:(ps.getD c [])[i]?=some (yw ps c i):=by
  unfold yw;generalize ps.getD c []=p at hi ⊢;rw[dI,aR hi];rfl
 unfold lL;rw[List.filter_eq_nil_iff];intro a ha z;exact of_decide_eq_true z (L5.without.mpr (cl c _ hp i _ hi (IU hs) a ha))
theorem P0{rows:List (List Nat)}{ps:List Pt}{kn:Bool}(cl:BE rows ps){x:Tl}(h:nW ps kn rows=some x):x.1 = "look"\/x.1 = "set":=by
 unfold nW at h;obtain⟨c,hc,h⟩:=Ym h;unfold vY at h;obtain⟨i,hi,h⟩:=Ym h;unfold tT at h;obtain⟨y,hy,rfl⟩:=xv.mp h;exact afi (QW cl (iN.mp hc) (iN.mp hi)) y hy
theorem aa'{rows qs:List (List Nat)}{ps:List Pt}{kn:Bool}(cl:BE rows ps)(hq:∀r∈qs,∀x∈r,x<4096)(hs:∀c i,c<ps.length->i<(ps.getD c []).length->L5.Sub (L5.bb (rows.getD c []) i) (L5.bb (qs.getD c []) i))(h:nW ps kn qs=none):nW ps kn rows=none:=by
 unfold nW vY at h ⊢;rw[FY]at h ⊢;intro c hc;have h:=h c hc;rw[FY]at h ⊢;intro i hi;have h:=h i hi;unfold tT at h ⊢;rw[N6]at h ⊢;have hc:=iN.mp hc;have hi:=iN.mp hi;refine afj (λx hx=>?_) (hs c i hc hi) (QW cl hc hi) h;rw[dI]at hx;cases e:qs[c]? with
 | none=>rw[e]at hx;cases hx
 | some r=>rw[e]at hx;exact hq r (bw e) x hx
theorem aeP:(["_law_least","_law_k","_law_paper","_law_at"]:List Str).Nodup:=dk
theorem Rj{k:Nat}{A:Around}(r:eI k A):A.units+64<cLine:=by have:=r.un;lia
theorem afm{a b:Nat}(h:L5.Sub a b):qd (a:Int) (GG (b:Int))=0:=by
 rw[bitAnd_not,C8];have:=L5.without.mpr h;have hle:a &&& b<=a:=Gs;lia
def Within(rows qs:List (List Nat)):Prop:=Paired (λ(r q:List Nat)=>r.length=q.length/\q.length<=200/\∀i,i<q.length->L5.Sub (L5.bb r i) (L5.bb q i)) rows qs
def Uo:Sp:=λvs H Q _=>∃(v x:V) (rows qs:List (List Nat)),vs=[v,x]/\jw H v rows/\jw H x qs/\qs.length<=4/\Within rows qs/\∀H',ah H H'->Q (.bl true) H'
theorem UI:aZ ["_law_least","_law_paper","_law_k"] ["_law_least","_law_paper"] (aM Md):=a8
theorem ahz{f:Addr}{fd:aQ}(F:aP K "_law_within" "_law_within" Md f fd)(iF:mg "len" = none)(dH:mg "range" = none):ao P w K mg base au 1 f fd ["_law_least","_law_paper"] Uo:=by
 refine F.ok UI (λvs H Q E h=>?_) λaD A _ s H vs Q E hr h=>?_
 ·refine jm h λv x rows qs aa _=>?_;subst aa;rfl
 ·obtain⟨v,x,rows,qs,aa,hv,hx,hq4,hw,k⟩:=h;subst aa;obtain⟨a,us,rfl,ha,lA⟩:=hv;obtain⟨b,xs,rfl,hb,uH⟩:=hx;have BO:us.length=rows.length:=Paired.length lA;have hxl:xs.length=qs.length:=Paired.length uH;have dP:rows.length=qs.length:=Paired.length hw;have hu:=Rj hr
  refine let R1:TS:=_;⟨_,aA (ij ie rfl (jk rfl dH (ae (bp dR rfl iF PySem.boot_len (ae (pv 1) af)) af)) (br (i:=2) UI.nd rfl (nR rfl)) (ax (bQ (cy (QP hu) (gh (N:=["_law_least","_law_k","_law_paper","_law_at"]) (idx:=[0,2,1]) rfl (c9.of (by kernel_rfl)) (gC (aB _)) (jk rfl dH (ae (bp dR rfl iF PySem.boot_len (ae (aJ cu (pv 1) (pv 2)) af)) af))
     (λ_ _ _ _=>br (i:=3) aeP rfl (aN rfl) (.inr rfl)) (λ_ _ _ _=>yk (cy yz (aT A5 (aJ (yA K) (aJ (yA K) (pv 0) (pv 1)) (pv 3)) (KA aft (aJ (yA K) (aJ (yA K) (pv 2) (pv 1)) (pv 3)))) aw (bX _))) λ_ _ _ _=>pv 3) (dY af) (bX _)) (ax (aS g9)) cq)))
   (pR R1 (ax (aS g9))),?_⟩
  refine⟨_,rfl,b,xs,rfl,.inr (ar.of hb),_,rfl,li,li,?_⟩;rw[show ((xs.length:Int)).toNat=qs.length by lia];refine r6 (n:=qs.length) (λj σ H'=>∃x2,σ=[some (.ref a),some (.ref b),x2]/\ah H H') ⟨none,rfl,ah.refl _⟩ ?_ ?_
  ·rintro j σ H1 hj ⟨x2,rfl,s1⟩;rw[oW];have BN:xs[j]?=some (xs[j]' li):=aR li;obtain⟨q,hq,c,ec,hc⟩:=Paired.at' uH BN;have WW:us[j]?=some (us[j]' li):=aR li;obtain⟨r,cH,d,ed,hd⟩:=Paired.at' lA WW;obtain⟨q2,Fu,uU,amo,Bw⟩:=Paired.at' hw cH;rw[hq]at Fu;cases Fu;have X3:fw xs (j:Int)=some (.ref c):=by rw[<-ec];exact cD BN
   have atu:fw us (j:Int)=some (.ref d):=by rw[<-ed];exact cD WW
   refine⟨_,rfl,_,rfl,b,_,_,_,rfl,rfl,ar.of (s1 _ _ hb),X3,c,_,rfl,.inr (ar.of (s1 _ _ hc)),_,rfl,li,by rw[aH];lia,?_⟩;rw[aH,show ((q.length:Int)).toNat=q.length by lia];refine fk (n:=q.length) (λi ys H'=>H'=H1/\ys=[]) (cg (cx li)) ⟨rfl,rfl⟩ ?_ ?_ ?_ ?_ ?_
   ·rintro i ys H' ⟨_,rfl⟩;exact bU _
   ·rintro i ys H' hi _;exact hi
   ·rintro ys H' _;exact aB _
   ·rintro i ys H2 hi ⟨rfl,rfl⟩ x H3 ⟨eH,ex⟩;subst eH;subst ex;rw[oW];refine⟨_,rfl,_,rfl,a,_,_,_,rfl,rfl,ar.of (s1 _ _ ha),atu,_,rfl,d,_,_,_,rfl,rfl,ar.of (s1 _ _ hd),mU li,_,rfl,_,rfl,b,_,_,_,rfl,rfl,ar.of (s1 _ _ hb),X3,_,rfl,c,_,_,_,rfl,rfl,ar.of (s1 _ _ hc),mU hi,_,rfl,_,_,rfl,rfl,rfl,_,rfl,?_⟩
    have e:(!decide ((λi j=>V.int (qd i j)) ((r.getD i 0:Nat):Int) (GG ((q.getD i 0:Nat):Int))=V.int 0))=false:=by
     show (!decide (V.int (qd ((r.getD i 0:Nat):Int) (GG ((q.getD i 0:Nat):Int)))=V.int 0))=false;rw[afm (Bw i hi)];rfl
    rw[e];exact dN ⟨rfl,rfl⟩
   ·rintro ys H2 ⟨rfl,rfl⟩;refine⟨bU _,λl nl=>⟨qc,λl2 Ff=>⟨l,l2,[],rfl,rfl,aI (ah.refl _) Ff _ _ av,av,_,rfl,dN ⟨_,rfl,aI (aI s1 nl) Ff⟩⟩⟩⟩
  ·rintro σ H1 ⟨x2,rfl,s1⟩;exact k H1 s1
theorem vQ.same{H H':Hp}{v:V}{o:Option Tl}(s:ah H H')(h:vQ H v o):vQ H' v o:=by
 cases o with
 | none=>exact h
 | some t=>exact jn.same s h
theorem vQ.aE{H:Hp}{v:V}{o:Option Tl}(h:vQ H v o):decide (v=.aE)=decide (o=none):=by
 cases o with
 | none=>rw[show v=.aE from h];rfl
 | some t=>obtain⟨a,rfl,_⟩:=h;rfl
theorem adK{x:Str}(h:x = "look"\/x = "set"):wB (.str x) [.str "look",.str "set"]=true:=by
 rcases h with rfl | rfl <;> decide +kernel
def UE:Sp:=λvs H Q _=>∃(v x y:V) (ps:List Pt) (rows qs:List (List Nat)),vs=[v,x,y]/\jo H v ps/\kQ ps/\jw H x rows/\zr rows ps/\jw H y qs/\zr qs ps/\
 (∀kn,(nW ps kn qs=none->nW ps kn rows=none)/\(∀t,nW ps kn qs=some t->t.1 = "look"\/t.1 = "set")/\∀t,nW ps kn rows=some t->t.1 = "look"\/t.1 = "set")/\∀H',ah H H'->Q (.bl true) H'
theorem Bq:aZ ["_law_program_here","_law_least","_law_paper","_law_kind","_law_one","_law_other","_law_told"] ["_law_program_here","_law_least","_law_paper"] (aM Mf):=a8
theorem ahP{f fF:Addr}{fd jj:aQ}(F:aP K "_law_faults" "_law_faults" Mf f fd)
  (GF:ao P w K mg base au 8 fF jj ["program","paper","kind"] VR) (kF:W.keepIn K (.ref fF)=true) (bF:Binds K jj ["program","paper","kind"] []) (mF:mg "fault" = some (.ref fF)):ao P w K mg base au 9 f fd ["_law_program_here","_law_least","_law_paper"] UE:=by
 refine F.ok Bq (λvs H Q E h=>?_) λaD A _ s H vs Q E hr h=>?_
 ·obtain⟨v,x,y,ps,rows,qs,rfl,_⟩:=h;rfl
 ·obtain⟨v,x,y,ps,rows,qs,rfl,hP,hg,hx,hfx,hy,hfy,hk,k⟩:=h;refine let R1:TS:=_;let R2:TS:=_;let R3:TS:=_;let R4:TS:=_;let R5:TS:=_;let R6:TS:=_;⟨_,aA (ij ie rfl (o7 (dY (ae (cV) (ae (cV) af)))) (br (i:=3) Bq.nd rfl (aN rfl)) (pR R5 (aA (cC (i:=4) Bq.nd rfl (aN rfl) (bx GF hr rfl mF kF bF .nil aO (ae (pv 0) (ae (pv 2) (ae (pv 3) af))))) (pR R4 (aA (cC (i:=5) Bq.nd rfl (aN rfl) (bx GF hr rfl mF kF bF .nil aO (ae (pv 0) (ae (pv 1) (ae (pv 3) af))))) (pR R3 (aA (bQ (PW.pt (pw_and (cy JY (pv 4) kz (bX _)) (pw_and1 (cy Jm (pv 5) kz (bX _))))) (ax (aS g9)) cq) (pR R2 (ax (ij ie rfl (o7 (dY (ae (pv 4) (ae (pv 5) af)))) (br (i:=6) Bq.nd rfl (aN rfl)) (pR R1 (ax (bQ (PW.pt (pw_and (cy Jm (pv 6) kz (bX _)) (pw_and1 (cy G9 (aJ cu (pv 6) (aw)) (dY (ae (cV) (ae (cV) af))) rfl)))) (ax (aS g9)) cq))))))))))))) (pR R6 (ax (aS g9))),?_⟩
  have body:∀(kd:Str) (l:Addr) (D:Ends) (z4 z5 z6:Option V) (H1:Hp),ah H H1->H l=none->H1 l=some (.lst [.str "row",.str "name"])->(∀z4 z5 z6 H2,ah H H2->H2 l=some (.lst [.str "row",.str "name"])->D.nx [some v,some x,some y,some (.str kd),z4,z5,z6] H2)->
    R5 D [some v,some x,some y,some (.str kd),z4,z5,z6] H1:=λkd l D z4 z5 z6 H1 s1 nl hl hD=>by
   refine⟨_,rfl,_,rfl,_,rfl,v,y,ps,qs,kd,rfl,hP.same s1,hg,hy.same s1,hfy,λv1 H2 s2 r1=>?_⟩;have oJ:=s1.trans s2;refine⟨_,rfl,_,rfl,_,rfl,v,x,ps,rows,kd,rfl,hP.same oJ,hg,hx.same oJ,hfx,λv2 H3 s3 r2=>?_⟩;have r1:=r1.same s3;have uF:=oJ.trans s3;have hl3:=s3 _ _ (s2 _ _ hl);obtain⟨m1,m2,m3⟩:=hk (decide (kd = "name"))
   have tail:R2 D [some v,some x,some y,some (.str kd),some v1,some v2,z6] H3:=by
    refine⟨_,rfl,_,rfl,by show 2<=bN;decide,λl2 Ff=>?_⟩;have s4:=aI (o:=.lst [v1,v2]) (ah.refl H3) Ff;refine⟨l2,rfl,⟨_,aq.of av⟩,yg (xs:=[v1,v2]) (λm σ H'=>∃z6,σ=[some v,some x,some y,some (.str kd),some v1,some v2,z6]/\ah H3 H'/\H' l2=some (.lst [v1,v2])) ⟨z6,rfl,s4,av⟩ (λm σ H' _ ⟨_,_,_,h⟩=>aq.of h) ?_ ?_⟩
    ·rintro m u σ H5 hu ⟨y6,rfl,s5,zH⟩
     obtain⟨o,ho,hw⟩:∃o,vQ H3 u o/\∀t,o=some t->t.1 = "look"\/t.1 = "set":=by
      match m,hu with
      | 0,e=>cases e;exact⟨_,r1,λt z=>m2 t z⟩
      | 1,e=>cases e;exact⟨_,r2,λt z=>m3 t z⟩
      | m+2,e=>cases e
     have W4:=ho.same s5;refine⟨_,rfl,rfl,_,rfl,?_⟩;rw[W4.aE];cases o with
     | none=>exact dN (dN ⟨_,rfl,s5,zH⟩)
     | some td=>
      obtain⟨a,rfl,ha⟩:=W4;refine iq ⟨_,rfl,a,_,_,_,rfl,rfl,ar.of ha,AN td,qc,λl3 Wn=>?_⟩;refine⟨l3,_,rfl,.inl (aq.of av),rfl,rfl,_,rfl,?_⟩;rw[if_pos rfl,adK (hw td rfl)];exact dN ⟨_,rfl,aI s5 Wn,aI (ah.refl _) Wn _ _ zH⟩
    ·rintro σ H5 ⟨y6,rfl,s5,zH⟩;exact hD _ _ _ H5 (uF.trans s5) (s5 _ _ hl3)
   refine⟨_,rfl,rfl,_,rfl,?_⟩;rw[r1.aE];refine b9 (λe1=>⟨_,rfl,rfl,_,rfl,?_⟩) λ_=>dN tail;rw[r2.aE,m1 e1];exact dN tail
  refine⟨qc,λl nl=>?_⟩;have s0:=aI (o:=.lst [.str "row",.str "name"]) (ah.refl H) nl;refine⟨l,rfl,⟨_,aq.of av⟩,yg (xs:=[.str "row",.str "name"]) (λm σ H'=>∃z3 z4 z5 z6,σ=[some v,some x,some y,z3,z4,z5,z6]/\ah H H'/\H' l=some (.lst [.str "row",.str "name"])) ⟨none,none,none,none,rfl,s0,av⟩ (λm σ H' _ ⟨_,_,_,_,_,_,h⟩=>aq.of h) ?_ ?_⟩
  ·rintro m u σ H5 hu ⟨z3,z4,z5,z6,rfl,s5,zH⟩
   obtain⟨kd,rfl⟩:∃kd,u=.str kd:=by
    match m,hu with
    | 0,e=>cases e;exact⟨_,rfl⟩
    | 1,e=>cases e;exact⟨_,rfl⟩
    | m+2,e=>cases e
   exact body kd l _ z4 z5 z6 H5 s5 nl zH λz4 z5 z6 H2 s2 h2=>⟨_,_,_,_,rfl,s2,h2⟩
  ·rintro σ H5 ⟨z3,z4,z5,z6,rfl,s5,zH⟩;exact k H5 s5
structure zo(H:Hp)(x:V)(S:Mc):Prop where
 ex:∃rows,jw H x rows/\zr rows S.ps/\qQ rows S
theorem zo.same{H H':Hp}{x:V}{S:Mc}(h:zo H x S)(s:ah H H'):zo H' x S:=⟨aX h.ex λr a b c=>⟨r,a.same s,b,c⟩⟩
section
variable{t:aW}{C CT:Addr}
def UB(t:aW)(C CT:Addr):Sp:=λvs H Q _=>∃m A S lp x y,vs=[.ref m,.ref lp,.int (S.ps.length:Nat)]/\bo t C CT H m A S/\lh S/\S.ac.length<=60/\H lp=some (.lst [x,y])/\zo H x S/\zo H y S/\∀H',ah H H'->Q (.bl true) H'
theorem Bp:aZ ["_law_machine","_law_papers","_law_many","_law_clerk","_law_name","_law_number","_law_paper"] ["_law_machine","_law_papers","_law_many"] (aM Me):=a8
theorem ahM{f fW fH:Addr}{fd eM lZ:aQ}(F:aP K "_law_holds" "_law_holds" Me f fd)(cM:je K C)(dH:mg "range" = none)
  (GW:ao P w K mg base au 2 fW eM ["self","clerk"] (PU t C CT)) (bW:Binds K eM ["self","clerk"] []) (mW:Meth K C "waiting" fW)
  (GH:ao P w K mg base au 1 fH lZ ["self","clerk"] (Ro t C CT λk=>k.pl)) (bH:Binds K lZ ["self","clerk"] []) (mH:Meth K C "where" fH):ao P w K mg base au 3 f fd ["_law_machine","_law_papers","_law_many"] (UB t C CT):=by
 refine F.ok Bp (λvs H Q E h=>?_) λaD A _ s H vs Q E hr h=>?_
 ·obtain⟨m,A,S,lp,x,y,rfl,_⟩:=h;rfl
 ·obtain⟨m,A,S,lp,x,y,rfl,M,W,oN,Fz,hx,hy,k⟩:=h;have dQ:=hr.mono (show 1<=2 by decide);refine let R1:TS:=_;let R2:TS:=_;let R3:TS:=_;let R4:TS:=_;⟨_,aA (ij ie rfl (jk rfl dH (ae (pv 2) af)) (br (i:=3) Bp.nd rfl (aN rfl)) (pR R3 (ax (ij ie rfl (o7 (i8 (pv 0) cM.cl mW GW hr bW .nil aO (ae (pv 3) af))) (nQ rfl (gH (br (i:=4) Bp.nd rfl (aN rfl)) (gH (br (i:=5) Bp.nd rfl (aN rfl)) nO))) (pR R2 (ax (ij ie rfl (o7 (pv 1)) (br (i:=6) Bp.nd rfl (aN rfl)) (pR R1 (ax (bQ (cy dE (aT A5 (aT JW (aJ cu (aJ cu (pv 6) (pv 3)) (i8 (pv 0) cM.cl mH GH dQ bH .nil aO (ae (pv 3) af))) (pv 4)) aw) aw (bX _)) (ax (aS g9)) cq)))))))))) (pR R4 (ax (aS g9))),?_⟩
  have h4:=W.good.le;refine b8 (id M.obj) λdx fs hm Gf=>⟨_,rfl,_,rfl,li,li,?_⟩;rw[show ((S.ps.length:Int)).toNat=S.ck.length by rw[W.len];lia];refine r6 (n:=S.ck.length) (λi σ H'=>∃z3 z4 z5 z6,σ=[some (.ref m),some (.ref lp),some (.int (S.ps.length:Nat)),z3,z4,z5,z6]/\ah H H') ⟨none,none,none,none,rfl,ah.refl _⟩ ?_ ?_
  ·rintro c σ H1 hc ⟨z3,z4,z5,z6,rfl,s1⟩;rw[oW];have hk:S.ck[c]?=some S.ck[c]:=aR hc;have hkl:=W.es _ (bw hk);obtain⟨p,hp,_,_,_⟩:=W.part hk;have dB:=W.pl c _ p hk hp;refine vM rfl (s1 _ _ hm) (Gf.ms _ dk) (vr rfl (⟨m,A,S,c,_,rfl,(M.same s1),hk,li,(λH2 l us s2 nl hl lA=>?_)⟩));have oJ:=s1.trans s2;refine⟨l,rfl,⟨_,aq.of hl⟩,yg (xs:=us) (λj σ H'=>∃z4 z5 z6,σ=[some (.ref m),some (.ref lp),some (.int (S.ps.length:Nat)),some (.int (c:Nat)),z4,z5,z6]/\ah H2 H') ⟨z4,z5,z6,rfl,ah.refl _⟩ (λj σ H' _ ⟨_,_,_,_,h⟩=>aq.of (h _ _ hl)) ?_ ?_⟩
   ·rintro j u σ H3 hu ⟨y4,y5,y6,rfl,s3⟩;obtain⟨e,he,q,rfl,hq⟩:=Paired.at' lA hu;have he:=bw he;have uF:=oJ.trans s3;refine⟨q,_,rfl,ar.of (s3 _ _ hq),rfl,_,_,rfl,_,[],rfl,rfl,?_⟩;refine⟨_,rfl,lp,rfl,⟨_,aq.of (uF _ _ Fz)⟩,yg (xs:=[x,y]) (λi σ H'=>∃z6,σ=[some (.ref m),some (.ref lp),some (.int (S.ps.length:Nat)),some (.int (c:Nat)),some (.int e.n),some (.int e.num),z6]/\ah H3 H') ⟨y6,rfl,ah.refl _⟩ (λi σ H' _ ⟨_,_,h⟩=>aq.of (h _ _ (uF _ _ Fz))) ?_ ?_⟩
    ·rintro i u σ H4 hu4 ⟨x6,rfl,s4⟩;have wM:=uF.trans s4
     have ho:zo H u S:=by
      match i,hu4 with
      | 0,z=>cases z;exact hx
      | 1,z=>cases z;exact hy
      | i+2,z=>cases z
     obtain⟨rows,⟨a,vs,rfl,ha,jz⟩,hft,hd⟩:=(ho.same wM).ex;obtain⟨row,Er,dP,_⟩:=qi (F:=λ(row:List Nat) (p:Pt)=>row.length=p.length+1/\∀x∈row,x<4096) hft hp;obtain⟨v,hv,b,rfl,hb⟩:=qi jz Er;obtain⟨n,en,Vv⟩:=hd c _ hk e he;rw[show rows.getD c []=row by rw[dI,Er];rfl]at Vv;refine⟨_,rfl,_,rfl,a,_,_,_,rfl,rfl,ar.of ha,cD hv,?_⟩;refine vM rfl (wM _ _ hm) (Gf.ms _ dk) (vr rfl ⟨m,A,S,c,_,rfl,M.same wM,hk,b,_,_,_,rfl,rfl,ar.of hb,mU li,_,rfl,_,_,rfl,rfl,?_,_,_,rfl,rfl,rfl,_,rfl,?_⟩)
     ·rw[en];exact tf n
     have ev:decide ((λi j=>V.int (qd i j)) (((row.getD S.ck[c].pl 0:Nat):Int)/2^e.n.toNat) 1=V.int 0)=false:=by
      rw[en];show decide (V.int (qd (((row.getD S.ck[c].pl 0:Nat):Int)/2^((n:Int)).toNat) 1)=V.int 0)=false;rw[RW,Vv];decide
     rw[ev];exact dN ⟨_,rfl,s4⟩
    ·rintro σ H4 ⟨x6,rfl,s4⟩;exact⟨_,_,_,rfl,s3.trans s4⟩
   ·rintro σ H3 ⟨y4,y5,y6,rfl,s3⟩;exact⟨_,_,_,_,rfl,oJ.trans s3⟩
  ·rintro σ H1 ⟨z3,z4,z5,z6,rfl,s1⟩;exact k H1 s1
end
theorem bo.aia{t:aW}{C CT:Addr}{H:Hp}{m:Addr}{A:MA}{S:Mc}(M:bo t C CT H m A S){b:Addr}(hb:dq m A b):∃o,H b=some o/\((∃C dx fs,o=.ins C dx fs)\/∃xs,o=.lst xs):=by
 cases hb with
 | m=>obtain⟨dx,fs,h,_⟩:=M.obj;exact⟨_,h,.inl ⟨_,_,_,rfl⟩⟩
 | lt=>exact⟨_,M.lt,.inr ⟨_,rfl⟩⟩
 | pl=>exact⟨_,M.pl,.inr ⟨_,rfl⟩⟩
 | ct=>exact⟨_,M.ct,.inr ⟨_,rfl⟩⟩
 | rg=>exact⟨_,M.rg,.inr ⟨_,rfl⟩⟩
 | ce=>exact⟨_,M.ce,.inr ⟨_,rfl⟩⟩
 | ac=>obtain⟨vs,h,_⟩:=M.ac;exact⟨_,h,.inr ⟨_,rfl⟩⟩
 | cm=>exact⟨_,M.cm,.inr ⟨_,rfl⟩⟩
 | rs h=>obtain⟨c,_,q⟩:=qh M.rs h;exact⟨_,q,.inr ⟨_,rfl⟩⟩
 | cs h=>obtain⟨c,_,q⟩:=qh M.cs h;exact⟨_,q,.inr ⟨_,rfl⟩⟩
 | ts h h2=>
  exact ay (qh M.ts h) λc _ q=>oE (q.there _ h2) λo e=>⟨o,e,q.kinds _ h2 _ e⟩
theorem bo.ajO{t:aW}{C CT:Addr}{H:Hp}{m:Addr}{A:MA}{S:Mc}(M:bo t C CT H m A S):∀b,dq m A b->∀xs,H b≠some (.tup xs):=λb hb xs e=>by
 refine ay (M.aia hb) λo e' h=>?_;rw[e]at e';cases e';rcases h with ⟨_,_,_,z⟩ | ⟨_,z⟩ <;> cases z
theorem aga{H:Hp}(mv:Mv):∀x∈nh mv,∃T,tyName H x=some T:=by
 intro x hx;unfold nh at hx;rcases bR.mp hx with e | e
 ·rw[e];exact⟨_,rfl⟩
 ·refine ay (jJ.mp e) λi _ aa=>?_;subst aa;exact⟨_,rfl⟩
theorem aaN:rW "min" = some (.builtin "min"):=dk
theorem akp(us:List V)(i:Nat):oo us none (some (i:Int))=us.take i:=by
 unfold oo;rw[HT.aei,HT.acs,List.drop_zero,Nat.sub_zero]
 by_cases h:i<=us.length
 ·rw[Nat.min_eq_left h]
 ·rw[Nat.min_eq_right li,jE (aB _),jE li]
theorem agi{PT m C dx:Addr}{H H':Hp}{fs:List (Str×V)}(k:eh m H H')(hm:H m=some (.ins C dx fs))(h:de PT LP LQ H):de PT LP LQ H':=
 An (F:=[m]) h (λb o n e=>k.k b o (λz=>n (by rw[z];exact eN.mpr rfl)) e) λb hb o e=>by rw[eN.mp hb,hm]at e;cases e;exact .inl ⟨_,_,_,rfl⟩
theorem ae4(d:Nat):∃kd:Str,fw ([.str "row",.str "name",.str "row",.str "none"]:List V) ((d:Int)%4)=some (.str kd)/\(kd = "row"\/kd = "name"\/kd = "none"):=by
 have h:d%4=0\/d%4=1\/d%4=2\/d%4=3:=li;rw[show (d:Int)%4=((d%4:Nat):Int) by lia];rcases h with e | e | e | e <;> rw[e]
 ·exact az ("row") (cD (j:=0) rfl) (.inl rfl)
 ·exact az ("name") (cD (j:=1) rfl) (.inr (.inl rfl))
 ·exact az ("row") (cD (j:=2) rfl) (.inl rfl)
 ·exact az ("none") (cD (j:=3) rfl) (.inr (.inr rfl))
def qY(rows:List (List Nat))(ps:List Pt):Prop:=Paired (λ(row:List Nat) (p:Pt)=>row.length=p.length+1/\(∀x∈row,x<4096)/\L5.si (fU p) p.length row) rows ps
theorem qY.fit{rows:List (List Nat)}{ps:List Pt}(h:qY rows ps):zr rows ps:=Paired.cF h λ_ _ q=>⟨q.1,q.2.1⟩
theorem qY.BA{rows:List (List Nat)}{ps:List Pt}(h:qY rows ps):BE rows ps:=λc p hp=>by
 obtain⟨row,hr,q⟩:=qi h hp;rw[dI,hr];exact q.2.2
theorem qY.lt{rows:List (List Nat)}{ps:List Pt}(h:qY rows ps):∀r∈rows,∀x∈r,x<4096:=λr hr=>by
 obtain⟨i,hi⟩:=zY hr;obtain⟨p,_,q⟩:=Paired.at' h hi;exact q.2.1
theorem abw{rows:List (List Nat)}{ps:List Pt}(g:kQ ps)(h:yR rows ps):qY rows ps:=by
 have:∀{rows:List (List Nat)} {ps:List Pt},(∀p∈ps,∀t∈p,cA p.length t)->yR rows ps->qY rows ps:=by
  intro rows ps g h
  induction h with
  | nil=>exact .nil
  | @cons r p l m h _ ih=>
   have f:=CN (g p (by simp));have e:=oZ p;refine .cons ⟨by rw[h.1,e],L5.ac4 f h,by rw[<-e];exact L5.ZR f h⟩ (ih λp hp=>g p (dJ _ hp))
 exact this (λp hp=>(g.part p hp).2) h
theorem ac5{rows qs:List (List Nat)}{ps:List Pt}(g:kQ ps)(h:yR rows ps)(q:qY qs ps):Within rows qs/\∀c i,c<ps.length->i<(ps.getD c []).length->L5.Sub (L5.bb (rows.getD c []) i) (L5.bb (qs.getD c []) i):=by
 have key:∀(c:Nat) p,ps[c]?=some p->∀r q',rows[c]?=some r->qs[c]?=some q'->r.length=q'.length/\q'.length<=200/\∀i,i<q'.length->L5.Sub (L5.bb r i) (L5.bb q' i):=λc p hp r q' hr hq=>by
  obtain⟨p1,e1,h1⟩:=Paired.at' h hr;obtain⟨p2,e2,h2,_,h3⟩:=Paired.at' q hq;rw[hp]at e1 e2;cases e1;cases e2;have gp:=g.part p (bw hp);have el:=oZ p;rw[<-el]at h3;exact⟨by rw[h1.1,h2,el],by have:=gp.1;lia,λi hi=>L5.abv (CN gp.2) h1 h3 i li⟩
 have l1:rows.length=ps.length:=Paired.length h;have l2:qs.length=ps.length:=Paired.length q;refine⟨?_,λc i hc hi=>?_⟩
 ·have:∀(ps:List Pt) (rows qs:List (List Nat)),rows.length=ps.length->qs.length=ps.length->(∀(c:Nat) p,ps[c]?=some p->∀r q',rows[c]?=some r->qs[c]?=some q'->r.length=q'.length/\q'.length<=200/\∀i,i<q'.length->L5.Sub (L5.bb r i) (L5.bb q' i))->Within rows qs:=by
   intro ps
   induction ps with
   | nil=>
    intro rows qs a b _;rw[FU a,FU b];exact .nil
   | cons p ps ih=>
    intro rows qs a b k;cases rows with
    | nil=>cases a
    | cons r rows=>
     cases qs with
     | nil=>cases b
     | cons q' qs=>exact .cons (k 0 p rfl r q' rfl rfl) (ih rows qs (Ai a) (Ai b) λc p hp r q' hr hq=>k (c+1) p hp r q' hr hq)
  exact this ps rows qs l1 l2 key
 ·have hp:ps[c]?=some (ps.getD c []):=by rw[dI,aR hc];rfl
  have hr:rows[c]?=some (rows.getD c []):=by rw[dI,aR li];rfl
  have hq:qs[c]?=some (qs.getD c []):=by rw[dI,aR li];rfl
  obtain⟨p2,e2,h2,_⟩:=Paired.at' q hq;rw[hp]at e2;cases e2;exact(key c _ hp _ _ hr hq).2.2 i li
theorem jw.keep{H H':Hp}{v:V}{rows:List (List Nat)}(k:∀b xs,H b=some (.tup xs)->H' b=some (.tup xs))(h:jw H v rows):jw H' v rows:=dF h λa us e h r=>⟨a,us,e,k _ _ h,Paired.cF r λ_ _ q=>ay q λb e h=>⟨b,e,k _ _ h⟩⟩
structure LI(t:aW)(C CT PT:Addr)(H:Hp)(ls:Addr)(ms:List Int)(m:Addr)(A:MA)(S:Mc)(n:Nat)(x y:V)(rows qs:List (List Nat))(ps:List Pt):Prop where
 M:bo t C CT H m A S
 W:jV n S
 lam:de PT LP LQ H
 ls:H ls=some (.lst (ms.map V.int))
 hx:jw H x rows
 hy:jw H y qs
 hr:qQ rows S
 hq:qQ qs S
 ps:S.ps=ps
theorem LI.same{t:aW}{C CT PT:Addr}{H H':Hp}{ls:Addr}{ms:List Int}{m:Addr}{A:MA}{S:Mc}{n:Nat}{x y:V}{rows qs:List (List Nat)}{ps:List Pt}(I:LI t C CT PT H ls ms m A S n x y rows qs ps)(s:ah H H'):LI t C CT PT H' ls ms m A S n x y rows qs ps:=⟨I.M.same s,I.W,oX I.lam s,s _ _ I.ls,I.hx.same s,I.hy.same s,I.hr,I.hq,I.ps⟩
section
variable{t:aW}{C CT PT:Addr}
def Tr(K:PySem.W.Frag)(PT:Addr):Sp:=λvs H Q _=>∃(a:Addr) (ns:List Int),vs=[.ref a]/\aq K H a (ns.map V.int)/\ns.length<=63/\de PT LP LQ H/\∀H',Q (.bl true) H'
theorem tX:aZ ["_law_script","_law_program_here","_law_paper","_law_least","_law_machine","_law_k","_law_moves"] ["_law_script"] (aM vX):=a8
theorem af5:(["_law_script","_law_program_here","_law_clerk"]:List Str).Nodup:=dk
theorem afU{f fD fP fT fM fW fF fI fV XJ fH kU:Addr}{fd vf p6 vc vd eM jj dO XI VB lZ:aQ}(F:aP K "law" "law" vX f fd)(cM:je K C)(B:Bl mg)(dH:mg "range" = none)(ak8:mg "min" = none)
  (GD:ao P w K mg base au 1 fD vf ["_law_script","_law_k"] (Dy K)) (kD:PySem.W.keepIn K (.ref fD)=true) (bD:Binds K vf ["_law_script","_law_k"] []) (mD:mg "_law_draw" = some (.ref fD))
  (GP:ao P w K mg base au 2 fP p6 ["_law_script"] (Ut K)) (kP:PySem.W.keepIn K (.ref fP)=true) (bP:Binds K p6 ["_law_script"] []) (mP:mg "_law_program" = some (.ref fP))
  (GT:ao P w K mg base au 2 fT vc ["_law_script","_law_clerk","_law_steps"] (Ur K)) (kT:PySem.W.keepIn K (.ref fT)=true) (bT:Binds K vc ["_law_script","_law_clerk","_law_steps"] []) (mT:mg "_law_sets" = some (.ref fT))
  (GM:ao P w K mg base au 6 fM vd ["program"] Uw) (kM:PySem.W.keepIn K (.ref fM)=true) (bM:Binds K vd ["program"] []) (mM:mg "marks" = some (.ref fM))
  (GW:ao P w K mg base au 1 fW eM ["_law_least","_law_paper"] Uo) (kW:PySem.W.keepIn K (.ref fW)=true) (bW:Binds K eM ["_law_least","_law_paper"] []) (mW:mg "_law_within" = some (.ref fW))
  (GF:ao P w K mg base au 9 fF jj ["_law_program_here","_law_least","_law_paper"] UE) (kF:PySem.W.keepIn K (.ref fF)=true) (bF:Binds K jj ["_law_program_here","_law_least","_law_paper"] []) (mF:mg "_law_faults" = some (.ref fF))
  (mk:Mk K C fI) (GI:ao P w K mg base au 7 fI dO ["self","program","kind"] (Rq t C CT)) (ajo:mg "Machine" = some (.ref C)) (b3:Binds K dO ["self","program","kind"] [])
  (GV:ao P w K mg base au 4 fV XI ["self"] (IX t C CT PT)) (bV:Binds K XI ["self"] []) (mV:Meth K C "moves" fV)
  (GDo:ao P w K mg base (lU P w) 7 XJ VB ["self","move"] (UH t C CT PT kU)) (bDo:Binds K VB ["self","move"] []) (mDo:Meth K C "do" XJ)
  (GH:ao P w K mg base au 3 fH lZ ["_law_machine","_law_papers","_law_many"] (UB t C CT)) (kH:PySem.W.keepIn K (.ref fH)=true) (bH:Binds K lZ ["_law_machine","_law_papers","_law_many"] []) (mH:mg "_law_holds" = some (.ref fH)) :
  ao P w K mg base au 10 f fd ["_law_script"] (Tr K PT):=by
 have al0:=J' GDo;refine F.ok tX (λvs H Q E h=>?_) λaD A _ s H vs Q E hr h=>?_
 ·refine b8 h λa ns aa _=>?_;subst aa;rfl
 ·obtain⟨a,ns,aa,hS,hlen,lam,q⟩:=h;subst aa;have hu:=Rj hr;have dQ:=hr.mono (show 1<=9 by decide);have kc:=hr.mono (show 2<=9 by decide);have wZ:=hr.mono (show 3<=9 by decide);have j':=hr.mono (show 4<=9 by decide);have hr6:=hr.mono (show 6<=9 by decide);have Fs:=hr.mono (show 7<=9 by decide);have hr8:=hr.mono (show 8<=9 by decide)
  refine let R1:TS:=_;let R2:TS:=_;let R3:TS:=_;let R4:TS:=_;let R5:TS:=_;let R6:TS:=_;let R7:TS:=_;let R8:TS:=_;let R9:TS:=_;let i6:TS:=_;⟨_,aA (cC (i:=0) tX.nd rfl (nR rfl) (CZ ad0 (pv 0) Dn (Dm aw))) (pR i6 (aA (cC (i:=1) tX.nd rfl (nR rfl) (bx GP kc rfl mP kP bP .nil aO (ae (pv 0) af))) (pR R9 (aA (cC (i:=2) tX.nd rfl (aN rfl) (qo rV rfl B.tuple mi (ae (gh (N:=["_law_script","_law_program_here","_law_clerk"]) (idx:=[0,1]) rfl (c9.of (by kernel_rfl)) (gC (aB _)) (jk rfl dH (ae (bp dR rfl B.len PySem.boot_len (ae (pv 1) af)) af))
     (λ_ _ _ _=>br (i:=2) af5 rfl (aN rfl) (.inr rfl)) (λ_ _ _ _=>gZ) λ_ _ _ _=>bx GT kc rfl mT kT bT .nil aO (ae (pv 0) (ae (pv 2) (ae (aJ (yA K) (pv 1) (pv 2)) af)))) af)))
   (pR R8 (aA (cC (i:=3) tX.nd rfl (aN rfl) (bx GM hr6 rfl mM kM bM .nil aO (ae (pv 1) af))) (pR R7 (aA (bQ (PW.pt (pw_or (iV (dD (bx GW dQ rfl mW kW bW .nil aO (ae (pv 3) (ae (pv 2) af))))) (pw_or1 (iV (dD (bx GF hr rfl mF kF bF .nil aO (ae (pv 1) (ae (pv 3) (ae (pv 2) af))))))))) (ax (aS g9)) cq) (pR R6 (aA (cC (i:=4) tX.nd rfl (aN rfl) (se mk GI hr8 rfl ajo b3 .nil aO (ae (pv 1) (ae (aJ cO (dY (ae cV (ae cV (ae cV (ae cV af))))) (aT g6 (bx GD dQ rfl mD kD bD .nil aO (ae (pv 0) (ae (aw) af))) aw)) af)))) (pR R5 (aA (ij ie rfl (jk rfl dH (ae (bp (abU rfl) rfl ak8 aaN (ae aw (ae (bp dR rfl B.len PySem.boot_len (ae (pv 0) af)) af))) af)) (br (i:=5) tX.nd rfl (aN rfl)) (pR R3 (aA (cC (i:=6) tX.nd rfl (aN rfl) (vz (pv 4) cM.cl mV GV j' bV .nil aO)) (pR R2 (aA (bQ (cy (QP hu) (pv 6) (dY af) (bX _)) (ax (gg (i8 (pv 4) cM.cl mDo al0 Fs bDo .nil aO (ae (aJ cO (pv 6) (aT g6 (bx GD dQ rfl mD kD bD .nil aO (ae (pv 0) (ae (aT fR aw (pv 5)) af))) (bp dR rfl B.len PySem.boot_len (ae (pv 6) af)))) af)))) cq) (pR R1 (ax (bQ (iV (dD (bx GH wZ rfl mH kH bH .nil aO (ae (pv 4) (ae (dY (ae (pv 2) (ae (pv 3) af))) (ae (bp dR rfl B.len PySem.boot_len (ae (pv 1) af)) af)))))) (ax (aS g9)) cq)))))))) (pR R4 (ax (aS g9))))))))))))))),?_⟩
  have jB:=jK;refine vr rfl (az _ rfl ⟨a,⟨_,rfl,hS,λls nls=>?_⟩⟩);rw[show ((63:Int))=((63:Nat):Int) from rfl,akp,<-List.map_take];have uO:(ns.take 63).length<=63:=by rw[gz];exact OC _ _
  generalize ns.take 63=ms at uO ⊢;refine aX (nw (o:=.lst (ms.map V.int)) nls) λH1 e1 s1 Vs=>?_;rw[e1];clear e1;refine vr rfl ⟨ls,ms,rfl,aq.of Vs,uO,λv ps H2 s2 hP hg=>?_⟩;obtain⟨pa,aY,rfl,sT,xb⟩:=id hP;have dB:aY.length=ps.length:=Paired.length xb;have h4:=hg.le;have Vr:=s2 _ _ Vs;refine vr rfl ⟨pa,aY,rfl,.inr (ar.of sT),_,rfl,li,li,?_⟩;rw[show ((aY.length:Int)).toNat=ps.length by lia];refine fk (n:=ps.length) (λi ys H'=>i<=ps.length/\ah H2 H'/\∃rows,Paired (sv H') ys rows/\qY rows (ps.take i)) (cg (cx li)) ⟨bU _,ah.refl _,[],.nil,.nil⟩ ?_ ?_ ?_ ?_ ?_
  ·rintro i ys H' ⟨_,_,rows,e1,e2⟩;rw[Paired.length e1,Paired.length e2,gz];exact OC _ _
  ·rintro i ys H' hi _;exact hi
  ·rintro ys H' _;exact aB _
  ·rintro i ys H3 hi ⟨_,s3,rows,e1,e2⟩ z H4 ⟨eH,ez⟩;subst eH;subst ez;rw[oW];have hx:aY[i]?=some (aY[i]' li):=aR li;obtain⟨part,dm,Ld⟩:=Paired.at' xb hx;have gp:=hg.part part (bw dm);refine⟨_,rfl,_,rfl,_,rfl,_,rfl,pa,_,_,_,rfl,rfl,ar.of (s3 _ _ sT),cD hx,ls,ms,i,_,part,rfl,aq.of (s3 _ _ Vr),uO,li,Ld.same s3,gp.1,gp.2,λv' row H5 s5 uJ dP j' hZ=>⟨hi,s3.trans s5,rows++[row],xS (Paired.cF e1 λ_ _ q=>q.same s5) uJ,?_⟩⟩;rw[kv,dm];exact xS e2 ⟨dP,j',hZ⟩
  rintro ys H3 ⟨_,s3,qs,e1,e2⟩;rw[jE (aB _)]at e2;have hyl:=Paired.length e1;have M8:=Paired.length e2;refine⟨cg (cx li),λlq nlq=>⟨lq,ys,rfl,.inl ⟨aq.of av,λy ny=>?_⟩⟩⟩;have Mz:=aI (o:=.tup ys) (aI (o:=.lst ys) (ah.refl H3) nlq) ny;have WS:jw (upd (upd H3 lq (.lst ys)) y (.tup ys)) (.ref y) qs:=⟨y,ys,rfl,av,Paired.cF e1 λ_ _ q=>q.same Mz⟩;generalize upd (upd H3 lq (.lst ys)) y (.tup ys)=H4 at Mz WS ⊢;have V9:=s3.trans Mz;refine vr rfl ⟨_,ps,rfl,hP.same V9,hg,λx rows H5 s5 MW W7=>?_⟩;have s25:=V9.trans s5;have MU:=WS.same s5;have pr:=abw hg W7;obtain⟨hwi,zD⟩:=ac5 hg W7 e2;refine⟨_,rfl,_,rfl,x,.ref y,rows,qs,rfl,MW,MU,li,hwi,λH6 s6=>⟨_,rfl,dN ?_⟩⟩;have V8:=s25.trans s6;refine⟨_,rfl,_,rfl,_,rfl,_,x,.ref y,ps,rows,qs,rfl,hP.same V8,hg,MW.same s6,pr.fit,MU.same s6,e2.fit,λkn=>⟨aa' pr.BA e2.lt zD,λt z=>P0 e2.BA z,λt z=>P0 pr.BA z⟩,λH7 s7=>⟨_,rfl,dN ?_⟩⟩;have MB:=V8.trans s7;have hx7:=(MW.same s6).same s7;have hy7:=(MU.same s6).same s7;have Vq:=MB _ _ Vr;refine vr rfl ⟨qc,λlk nlk=>aX (nw (o:=.lst [.str "row",.str "name",.str "row",.str "none"]) nlk) λH8 e8 s8 oK=>?_⟩;rw[e8];clear e8;refine vr rfl ⟨ls,ms,1,rfl,aq.of (s8 _ _ Vq),uO,qc,qc,λd3 H9 s9 _=>ay (ae4 d3) λkd hka rq=>⟨_,⟨_,rfl,rfl,(show (0:Int)<4 by decide),lk,_,_,.str kd,rfl,rfl,aq.of (s9 _ _ oK),hka,λm dx nm gR ne=>?_⟩⟩⟩;have nm2:upd H9 dx (.own m) m=none:=by rw[ak ne.symm];exact nm
  have sa:=aI (o:=.ins C dx []) (aI (o:=.own m) (ah.refl H9) gR) nm2;have hm:upd (upd H9 dx (.own m)) m (.ins C dx []) m=some (.ins C dx []):=av;generalize upd (upd H9 dx (.own m)) m (.ins C dx [])=Hb at sa hm ⊢;have zv:=s8.trans s9;have E5:=zv.trans sa;have Ey:=zv _ _ Vq;refine⟨m,dx,_,ps,kd,rfl,hm,(hP.same (MB.trans E5)),hg,rq,(λH4 A lab M L ev k4 fr=>⟨rfl,?_⟩)⟩;cases ev
  have nI:¬dq m A ls:=λz=>by
   rcases fr ls z with e | e
   ·rw[e,nm]at Ey;cases Ey
   ·rw[sa _ _ Ey]at e;cases e
  have I0:LI t C CT PT H4 ls ms m A (yF kd ps) 0 x (.ref y) rows qs ps:=⟨M,af4 hg,agi k4 hm (oX lam (((s1.trans s2).trans MB).trans E5)),k4.lst hm (sa _ _ Ey),(hx7.same E5).keep (k4.tup hm),(hy7.same E5).keep (k4.tup hm),Q0 _ _ _,Q0 _ _ _,rfl⟩;refine vr rfl ⟨ls,⟨_,rfl,.inl (aq.of I0.ls),_,_,rfl,?_⟩⟩
  have hmx:(if ((ms.map V.int).length:Int)<60 then ((ms.map V.int).length:Int) else 60)<=60/\0<=(if ((ms.map V.int).length:Int)<60 then ((ms.map V.int).length:Int) else 60):=by
   split <;> lia
  generalize (if ((ms.map V.int).length:Int)<60 then ((ms.map V.int).length:Int) else 60)=mx at hmx ⊢;refine⟨_,rfl,li,li,?_⟩
  let W1:IV:=λi σ H'=>i<=mx.toNat/\∃S z5 z6,σ=[some (.ref ls),some (.ref A.pg),some (.ref y),some x,some (.ref m),z5,z6]/\LI t C CT PT H' ls ms m A S i x (.ref y) rows qs ps
  refine r6 (n:=mx.toNat) W1 ⟨bU _,yF kd ps,none,none,rfl,I0⟩ ?_ ?_
  ·rintro i σ H5 hi ⟨_,S,z5,z6,rfl,I5⟩;rw[oW]
   have tC:∀{D:Ends} {H9:Hp} {S9:Mc} {z6:Option V},(∀σ H,W1 (i+1) σ H->D.nx σ H)->LI t C CT PT H9 ls ms m A S9 (i+1) x (.ref y) rows qs ps->R1 D [some (.ref ls),some (.ref A.pg),some (.ref y),some x,some (.ref m),some (.int (i:Nat)),z6] H9:=λ{D H9 S9 z6} hD I9=>by
    refine⟨_,rfl,_,rfl,_,rfl,by show 2<=bN;decide,λlp zx=>aX (nw (o:=.lst [.ref y,x]) zx) λH10 XS E9 Fz=>?_⟩;rw[XS];clear XS;have p8:=I9.same E9;obtain⟨pa,aY,e,hp,xb⟩:=p8.M.pg;cases e;refine⟨_,rfl,A.pg,aY,rfl,.inr (ar.of hp),m,A,S9,lp,.ref y,x,by show [V.ref m,V.ref lp,V.int (aY.length:Int)]=_;rw[Paired.length xb],p8.M,p8.W.wf,by have:=p8.W.ac;lia,Fz,⟨qs,p8.hy,by rw[p8.ps];exact e2.fit,p8.hq⟩,⟨rows,p8.hx,by rw[p8.ps];exact pr.fit,p8.hr⟩,λH11 s11=>⟨_,rfl,dN (hD _ _ ⟨hi,S9,_,_,rfl,p8.same s11⟩)⟩⟩
   refine b8 (id I5.M.obj) λdx5 fs5 Fx G5=>vM rfl Fx (G5.ms _ dk) (⟨m,A,S,rfl,I5.M,I5.W.wf,I5.lam,(λH6 l ws k6 akA nl hl wV=>?_)⟩);have I6:LI t C CT PT H6 ls ms m A S i x (.ref y) rows qs ps:=⟨I5.M.vN k6,I5.W,akA,k6.yH I5.ls,I5.hx.keep k6.Bn,I5.hy.keep k6.Bn,I5.hr,I5.hq,I5.ps⟩;refine eZ _ rfl qc λle nle=>aX (nw (o:=.lst []) nle) λH7 e7 s7 hle=>?_;rw[e7];clear e7;have I7:=I6.same s7;refine⟨l,le,ws,rfl,rfl,(s7 _ _ hl),hle,(az _ rfl (D4 (λhe=>?_) λhe=>?_))⟩
   ·have pK:=zZ.mpr he;refine b8 (id I7.M.obj) λdx7 XF hm7 G7=>vM rfl hm7 (G7.ms _ dk) (vr rfl (vr rfl (vr rfl ⟨_,⟨_,rfl,rfl,ls,ms,_,rfl,aq.of I7.ls,uO,li,li,λd8 H8 s8 _=>⟨_,rfl,l,ws,rfl,.inl (aq.of (s8 _ _ (s7 _ _ hl))),_,_,rfl,rfl,(show (0:Int)<(ws.length:Nat) by lia),?_⟩⟩⟩)));have I8:=I7.same s8;have hj:d8%ws.length<ws.length:=CL _ pK;have WV:ws[d8%ws.length]?=some ws[d8%ws.length]:=aR hj;refine ay (vt wV WV) λmv hmv aa=>ay aa λp ep hp=>?_;have kg:=bw hmv;refine rL (v:=.ref p) (aq.of (s8 _ _ (s7 _ _ hl))) (by rw[<-Int.natCast_emod,<-ep];exact cD WV) ⟨m,A,S,p,_,lab,rfl,I8.M,L,I8.W.wf,I8.W.ovf li,I8.lam,s8 _ _ (s7 _ _ hp),aga _,?_,λWz e=>(by rw[<-Jo e];exact Qd kg),λWz e _ H9 M9 k9 akz=>?_,λz _ _ _=>absurd kg (z mv rfl)⟩
    ·rcases CQ kg with ⟨c,rfl,_⟩ | ⟨c,k,n,rfl,_⟩ <;> simp[nh]
    have emv:=Jo e;subst emv;obtain⟨_,_,_,_,_,_,_,fo,_⟩:=IB I8.W kg;have kt:=k9.tup I8.M.ajO;exact tC (λσ H h=>h) ⟨M9,aeV I8.W li kg,akz,k9.k _ _ nI (λps z=>by cases z) I8.ls,I8.hx.keep kt,I8.hy.keep kt,Qi I8.W (by rw[I8.ps];exact pr.BA) I8.hr kg,Qi I8.W (by rw[I8.ps];exact e2.BA) I8.hq kg,fo.ps.trans I8.ps⟩
   ·exact tC (λσ H h=>h) ⟨I7.M,⟨I7.W.wf,tj I7.W.ac,λo ho=>tj (I7.W.ov o ho)⟩,I7.lam,I7.ls,I7.hx,I7.hy,I7.hr,I7.hq,I7.ps⟩
  ·rintro σ H5 ⟨_,S,z5,z6,rfl,I5⟩;exact q H5
end
end TL
namespace TL
open PySem PySem.Spec PyProof.Rows PySem.SeqAt L2 L3
theorem TY{us:List Value}(h:us.length=1):∃a,us=[a]:=N8.mp h
theorem Ei{us:List Value}{n:Nat}(h:us.length=n+1):∃a l,us=a::l/\l.length=n:=by
 cases us with
 | nil=>cases h
 | cons a l=>exact⟨a,l,rfl,Ai h⟩
theorem TX{us:List Value}(h:us.length=2):∃a b,us=[a,b]:=b8 (Ei h) λa _ e h=>oE (TY h) λb z=>⟨a,b,by rw[e,z]⟩
theorem TV{us:List Value}(h:us.length=3):∃a b c,us=[a,b,c]:=b8 (Ei h) λa _ e h=>wz (TX h) λb c z=>⟨a,b,c,by rw[e,z]⟩
theorem TU{us:List Value}(h:us.length=4):∃a b c d,us=[a,b,c,d]:=b8 (Ei h) λa _ e h=>akg (TV h) λb c d z=>⟨a,b,c,d,by rw[e,z]⟩
theorem ah8{us:List Value}(h:us.length=5):∃a b c d e,us=[a,b,c,d,e]:=b8 (Ei h) λa _ e h=>ahS (TU h) λb c d f z=>⟨a,b,c,d,f,by rw[e,z]⟩
abbrev uA(x q:Str)(st:Stmt)(ps:List Str):Prop:=∀(kV doc pm:Value) (an:Option Addr) (aD ct:Value) (us:List Value),us.length=ps.length->r9 (W.fnOf x q (jN st) (iI st) (aM st) .none kV doc pm an aD ct) ⟨us,[]⟩=pure (ps.zip us)
section
variable{K:W.Frag}{h:Heap}{mg:Str->Option Value}{x q m:Str}{st:Stmt}{f c e:Addr}
theorem di(X:K.In h)(G:h.Ns eD mg)(p:fN K x)(l:HT.a7 K (gN K x)=fp x x st)(ps:List Str)(hb:uA x x st ps):∃fd,aP K x x st (gN K x) fd/\W.keepIn K (.ref (gN K x))=true/\Binds K fd ps []/\mg x=some (.ref (gN K x)):=by
 obtain⟨oc,od,kV,dc,pm,an,cd,ct,sl,l1,c1⟩:=HT.ua l p.2.1;have F:=SX (st:=st) l1 c1 p.2.2;exact⟨_,F,p.2.2,F.binds hb,W.mg_of X G (HT.ja p.1)⟩
theorem dG(p:fM K c m q)(l:HT.a7 K (gM K c m)=fp m q st)(ps:List Str)(hb:uA m q st ps):∃fd,aP K m q st (gM K c m) fd/\Binds K fd ps []/\Meth K c m (gM K c m):=by
 obtain⟨oc,od,kV,dc,pm,an,cd,ct,sl,l1,c1⟩:=HT.ua l p.2.1;have F:=SX (st:=st) l1 c1 p.2.2.1;exact⟨_,F,F.binds hb,HT.ja p.1,p.2.2.2,p.2.2.1⟩
theorem akl(p:fM K c m q)(l:HT.a7 K (gM K c m)=fp m q st)(ci:HT.Ej K (gM K c m)=true)(ps:List Str)(hb:uA m q st ps):∃fd,uk K m q st (gM K c m) fd (HT.yO K (gM K c m))/\Binds K fd ps []/\Meth K c m (gM K c m):=by
 obtain⟨oc,od,kV,dc,pm,an,ct,sl,l1,c1⟩:=HT.agv l p.2.1 ci;have F:=ae6 (st:=st) l1 c1 p.2.2.1;exact⟨_,F,F.fun.binds hb,HT.ja p.1,p.2.2.2,p.2.2.1⟩
theorem mkD{d:Str}(p:fM K c m q)(l:HT.yL K (gM K c m)=fp m q st)(df:HT.yN K (gM K c m) d=true):∃fd,uj K m q st (gM K c m) fd d:=by
 obtain⟨oc,od,T,kV,dc,pm,an,cd,ct,sl,c1,d1,n1,oH,tk,e1,e2,e3⟩:=HT.SY l p.2.1 df;exact⟨_,⟨⟨oc,od,T,kV,dc,pm,an,cd,ct,sl,c1,d1,n1,oH,tk,rfl,e1,e2,e3⟩,p.2.2.1⟩⟩
theorem akk{d:Str}(X:K.In h)(G:h.Ns eD mg)(p:fN K x)(l:HT.yL K (gN K x)=fp x x st)(df:HT.yN K (gN K x) d=true):∃fd,uj K x x st (gN K x) fd d/\W.keepIn K (.ref (gN K x))=true/\mg x=some (.ref (gN K x)):=by
 obtain⟨oc,od,T,kV,dc,pm,an,cd,ct,sl,c1,d1,n1,oH,tk,e1,e2,e3⟩:=HT.SY l p.2.1 df;exact⟨_,⟨⟨oc,od,T,kV,dc,pm,an,cd,ct,sl,c1,d1,n1,oH,tk,rfl,e1,e2,e3⟩,p.2.2⟩,p.2.2,W.mg_of X G (HT.ja p.1)⟩
theorem qS(X:K.In h)(G:h.Ns eD mg)(p:cK K x):dj K (gN K x)/\mg x=some (.ref (gN K x)):=⟨⟨p.2.1,p.2.2.1,p.2.2.2.1,p.2.2.2.2⟩,W.mg_of X G (HT.ja p.1)⟩
theorem Mj(p:xF K c e):Tb K c e:=⟨⟨p.1,p.2.1⟩,p.2.2.1,p.2.2.2.1,p.2.2.2.2.1,p.2.2.2.2.2⟩
end
def Tc(l:W.OpenLaw)(w:World)(K:W.Frag)(mg:Str->Option Value)(fa:Addr):Prop:=
  ∃fd:aQ,(∀(s:Shared) (v:Value),BindsTo s fd ⟨[v],[]⟩ [("_law_script",v)])/\(∃c,W.codeHdIn K c 524=true)/\∀base:Heap,K.In base->base.Ns eD mg->sH mg base->ao l.prog w K mg base au 10 fa fd ["_law_script"] (Tr K 524)
theorem sL9{K:W.Frag}(E:seen K=true)(i:Nat){b:Bool}(h:(y9 K ())[i]?=some b):b=true:=Gp.mp E b (bw h)
section
variable{K:W.Frag}(E:seen K=true)
theorem ai{K:W.Frag}(E:seen K=true)(i:Nat){p:Prop}{d:Decidable p}(h:(y9 K ())[i]?=some (@decide p d)):p:=@of_decide_eq_true p d (sL9 E i h)
def Qo:=ai E 9 rfl
def Qp:=ai E 14 rfl
def Qn:=ai E 19 rfl
def Py:=ai E 24 rfl
def Pw:=ai E 29 rfl
def Px:=ai E 34 rfl
def O8:=ai E 39 rfl
def Pu:=ai E 42 rfl
def OK:=ai E 47 rfl
def Kd:=ai E 62 rfl
def IH:=ai E 63 rfl
def IJ:=ai E 64 rfl
def IG:=ai E 65 rfl
def HN:=ai E 66 rfl
def HL:=ai E 67 rfl
def HM:=ai E 68 rfl
def pe:=ai E 69 rfl
def Jr:=ai E 75 rfl
def RQ:=ai E 80 rfl
def II:=ai E 85 rfl
def mw:=ai E 124 rfl
def pd:=ai E 126 rfl
end
theorem ba{K:W.Frag}(E:pD K=nY)(i:Nat){a b:Option HT.pQ}(h:(pD K)[i]?=some a)(g:nY[i]?=some b):a=b:=by rw[E,g]at h;exact(eC h).symm
theorem f7{x q:Str}{st:Stmt}{ps:List Str}(l:ps.length=1:=by rfl)(h:∀(kV doc pm:Value) (an:Option Addr) (aD ct:Value) (u0:Value),r9 (W.fnOf x q (jN st) (iI st) (aM st) .none kV doc pm an aD ct) ⟨[u0],[]⟩=pure (ps.zip [u0]):=by intros;rfl):uA x q st ps:=by
 intro k1 k2 k3 k4 k5 k6 us hl;obtain⟨u0,e⟩:=TY (hl.trans l);subst e;exact h k1 k2 k3 k4 k5 k6 u0
theorem eA{x q:Str}{st:Stmt}{ps:List Str}(l:ps.length=2:=by rfl)(h:∀(kV doc pm:Value) (an:Option Addr) (aD ct:Value) (u0 u1:Value),r9 (W.fnOf x q (jN st) (iI st) (aM st) .none kV doc pm an aD ct) ⟨[u0,u1],[]⟩=pure (ps.zip [u0,u1]):=by intros;rfl):uA x q st ps:=by
 intro k1 k2 k3 k4 k5 k6 us hl;obtain⟨u0,u1,e⟩:=TX (hl.trans l);subst e;exact h k1 k2 k3 k4 k5 k6 u0 u1
theorem nu{x q:Str}{st:Stmt}{ps:List Str}(l:ps.length=3:=by rfl)(h:∀(kV doc pm:Value) (an:Option Addr) (aD ct:Value) (u0 u1 u2:Value),r9 (W.fnOf x q (jN st) (iI st) (aM st) .none kV doc pm an aD ct) ⟨[u0,u1,u2],[]⟩=pure (ps.zip [u0,u1,u2]):=by intros;rfl):uA x q st ps:=by
 intro k1 k2 k3 k4 k5 k6 us hl;obtain⟨u0,u1,u2,e⟩:=TV (hl.trans l);subst e;exact h k1 k2 k3 k4 k5 k6 u0 u1 u2
theorem bn4{x q:Str}{st:Stmt}{ps:List Str}(l:ps.length=4:=by rfl)(h:∀(kV doc pm:Value) (an:Option Addr) (aD ct:Value) (u0 u1 u2 u3:Value),r9 (W.fnOf x q (jN st) (iI st) (aM st) .none kV doc pm an aD ct) ⟨[u0,u1,u2,u3],[]⟩=pure (ps.zip [u0,u1,u2,u3]):=by intros;rfl):uA x q st ps:=by
 intro k1 k2 k3 k4 k5 k6 us hl;obtain⟨u0,u1,u2,u3,e⟩:=TU (hl.trans l);subst e;exact h k1 k2 k3 k4 k5 k6 u0 u1 u2 u3
theorem bn5{x q:Str}{st:Stmt}{ps:List Str}(l:ps.length=5:=by rfl)(h:∀(kV doc pm:Value) (an:Option Addr) (aD ct:Value) (u0 u1 u2 u3 u4:Value),r9 (W.fnOf x q (jN st) (iI st) (aM st) .none kV doc pm an aD ct) ⟨[u0,u1,u2,u3,u4],[]⟩=pure (ps.zip [u0,u1,u2,u3,u4]):=by intros;rfl):uA x q st ps:=by
 intro k1 k2 k3 k4 k5 k6 us hl;obtain⟨u0,u1,u2,u3,u4,e⟩:=ah8 (hl.trans l);subst e;exact h k1 k2 k3 k4 k5 k6 u0 u1 u2 u3 u4
theorem facts{l:W.OpenLaw}{w:World}{K:W.Frag}{h:Heap}{mg:Str->Option Value}{fa:Addr}(E:(seen K,pD K)=(true,nY))(X:K.In h)(G:h.Ns eD mg)(hfa:mg "law" = some (.ref fa)):Tc l w K mg fa:=by
 have hb:=(vv E).1;have hl:=(vv E).2;refine cQ (di X G (ai hb 58 rfl) (ba hl 0 rfl rfl) ["thing"] f7) λeM FW kW bW gW=>?_;refine cQ (di X G (ai hb 59 rfl) (ba hl 1 rfl rfl) ["word"] f7) λi3 FB kB bB gB=>?_;refine cQ (di X G (ai hb 60 rfl) (ba hl 2 rfl rfl) ["told"] f7) λiu FS kS bS gS=>?_;refine cQ (di X G (ai hb 61 rfl) (ba hl 3 rfl rfl) ["told"] f7) λf6 FO kO bO gO=>?_;refine aX (dG (Kd hb) (ba hl 4 rfl rfl) ["self","told"] eA) λdO FI bI MI=>?_;refine aX (dG (IH hb) (ba hl 5 rfl rfl) ["self","told"] eA) λD6 al5 L8 VG=>?_;refine aX (dG (IJ hb) (ba hl 6 rfl rfl) ["self","told"] eA) λD7 amf L' VH=>?_;refine aX (dG (IG hb) (ba hl 7 rfl rfl) ["self","told"] eA) λD5 al3 L7 VF=>?_;refine aX (dG (HN hb) (ba hl 8 rfl rfl) ["self","told"] eA) λDP ajM Lh Ul=>?_;refine aX (dG (HL hb) (ba hl 9 rfl rfl) ["self","told"] eA) λDN ajI Lf Uj=>?_;refine aX (dG (HM hb) (ba hl 10 rfl rfl) ["self","told"] eA) λDO ajK Lg Uk=>?_;refine aX (dG (pe hb) (ba hl 11 rfl rfl) ["self"] f7) λLA FEm wJ MEm=>?_;refine aX (dG (ai hb 70 rfl) (ba hl 12 rfl rfl) ["self"] f7) λKa ajJ K0 ajC=>?_;refine aX (dG (ai hb 71 rfl) (ba hl 13 rfl rfl) ["self"] f7) λKc ajN K2 ajE=>?_;refine cQ (di X G (ai hb 72 rfl) (ba hl 14 rfl rfl) ["program"] f7) λanp FHC kHC bHC gHC=>?_;refine cQ (di X G (ai hb 73 rfl) (ba hl 15 rfl rfl) ["told","place","length"] nu) λanr FFI kFI bFI gFI=>?_;refine cQ (di X G (ai hb 74 rfl) (ba hl 16 rfl rfl) ["program"] f7) λang FLO kLO bLO gLO=>?_;refine aX (dG (Jr hb) (ba hl 17 rfl rfl) ["self","kind"] eA) λamZ FTI bTI MTI=>?_;refine aX (dG (ai hb 76 rfl) (ba hl 18 rfl rfl) ["self","name","number","deed"] bn4) λam3 FTA bTA MTA=>?_;refine aX (dG (ai hb 77 rfl) (ba hl 19 rfl rfl) ["self","name"] eA) λamY FTL bTL MTL=>?_;refine aX (akl (ai hb 78 rfl) (ba hl 20 rfl rfl) (ai hb 79 rfl) ["self"] f7) λam0 Yj XW MTF=>?_;refine aX (dG (ai hb 81 rfl) (ba hl 21 rfl rfl) ["self","name"] eA) λamW FTT bTT MTT=>?_;refine aX (dG (ai hb 82 rfl) (ba hl 22 rfl rfl) ["self"] f7) λam1 FTE bTE MTE=>?_;refine aX (dG (ai hb 83 rfl) (ba hl 23 rfl rfl) ["self"] f7) λam2 FTD bTD MTD=>?_;refine cQ (di X G (ai hb 84 rfl) (ba hl 24 rfl rfl) ["kind"] f7) λamX FTO kTO bTO gTO=>?_;refine oE (mkD (II hb) (ba hl 25 rfl rfl) (ai hb 86 rfl)) λams VJ=>?_;refine aX (dG (ai hb 87 rfl) (ba hl 26 rfl rfl) ["self","clerk"] eA) λanC FAE bAE MAE=>?_;refine aX (dG (ai hb 88 rfl) (ba hl 27 rfl rfl) ["self","clerk"] eA) λanb FMY bMY MMY=>?_;refine aX (dG (ai hb 89 rfl) (ba hl 28 rfl rfl) ["self"] f7) λanA FCR bCR MCR=>?_;refine aX (dG (ai hb 90 rfl) (ba hl 29 rfl rfl) ["self"] f7) λanc FMV XZ MMV=>?_;refine aX (dG (ai hb 91 rfl) (ba hl 30 rfl rfl) ["self","move"] eA) λanw FDO bDO MDO=>?_;refine aX (dG (ai hb 92 rfl) (ba hl 31 rfl rfl) ["self","clerk"] eA) λanv FDS bDS MDS=>?_;refine aX (dG (ai hb 93 rfl) (ba hl 32 rfl rfl) ["self","clerk","step"] nu) λanu FDT bDT MDT=>?_;refine aX (dG (ai hb 94 rfl) (ba hl 33 rfl rfl) ["self","clerk","step"] nu) λanx FDL bDL MDL=>?_;refine aX (dG (ai hb 95 rfl) (ba hl 34 rfl rfl) ["self","clerk","step"] nu) λans FDW bDW MDW=>?_;refine aX (dG (ai hb 96 rfl) (ba hl 35 rfl rfl) ["self","clerk","name"] nu) λanz FCY X1 MCY=>?_;refine aX (dG (ai hb 97 rfl) (ba hl 36 rfl rfl) ["self","setting"] eA) λanB FCM X2 MCM=>?_;refine aX (dG (ai hb 98 rfl) (ba hl 37 rfl rfl) ["self","name"] eA) λana FOB XY MOB=>?_;refine aX (dG (ai hb 99 rfl) (ba hl 38 rfl rfl) ["self","clerk"] eA) λamR FWT bWT MWT=>?_;refine aX (dG (ai hb 100 rfl) (ba hl 39 rfl rfl) ["self","clerk"] eA) λamU FWH bWH MWH=>?_;refine cQ (di X G (ai hb 101 rfl) (ba hl 40 rfl rfl) ["step","place","regs"] nu) λam9 FPB kPB bPB gPB=>?_;refine cQ (di X G (ai hb 102 rfl) (ba hl 41 rfl rfl) ["move"] f7) λano FHF kHF bHF gHF=>?_;refine cQ (di X G (ai hb 103 rfl) (ba hl 42 rfl rfl) ["part"] f7) λam5 FSO kSO bSO gSO=>?_;refine cQ (di X G (ai hb 104 rfl) (ba hl 43 rfl rfl) ["part","name"] eA) λam7 FPS kPS bPS gPS=>?_;refine cQ (di X G (ai hb 105 rfl) (ba hl 44 rfl rfl) ["program","name"] eA) λam4 FSe kSe bSe gSe=>?_;refine cQ (di X G (ai hb 106 rfl) (ba hl 45 rfl rfl) ["names","name"] eA) λanl FHN WI X0 XE=>?_;refine cQ (di X G (ai hb 107 rfl) (ba hl 46 rfl rfl) ["names","name"] eA) λamT FWN WE XT XA=>?_;refine cQ (di X G (ai hb 108 rfl) (ba hl 47 rfl rfl) ["names","others"] eA) λamV FWA WG XU XB=>?_;refine cQ (di X G (ai hb 109 rfl) (ba hl 48 rfl rfl) ["names","name"] eA) λamS FWO MR NO NG=>?_;refine cQ (di X G (ai hb 110 rfl) (ba hl 49 rfl rfl) ["names"] f7) λani FLE kLE bLE gLE=>?_;refine cQ (di X G (ai hb 111 rfl) (ba hl 50 rfl rfl) ["program"] f7) λam' FOT kOT bOT gOT=>?_;refine cQ (di X G (ai hb 112 rfl) (ba hl 51 rfl rfl) ["thing","length"] eA) λanm FHL kHL bHL gHL=>?_;refine cQ (di X G (ai hb 113 rfl) (ba hl 52 rfl rfl) ["thing"] f7) λanj FIS kIS bIS gIS=>?_;refine cQ (di X G (ai hb 114 rfl) (ba hl 53 rfl rfl) ["program","paper"] eA) λank FHS kHS bHS gHS=>?_;refine cQ (di X G (ai hb 115 rfl) (ba hl 54 rfl rfl) ["step","names","foreign"] nu) λanh FLF kLF bLF gLF=>?_;refine cQ (di X G (ai hb 116 rfl) (ba hl 55 rfl rfl) ["step","names","kind"] nu) λam6 FSF kSF bSF gSF=>?_;refine cQ (di X G (ai hb 117 rfl) (ba hl 56 rfl rfl) ["step","names"] eA) λamr al6 Vi VD Vy=>?_;refine cQ (di X G (ai hb 118 rfl) (ba hl 57 rfl rfl) ["step","place","row"] nu) λam8 FPL WH XX XD=>?_;refine cQ (di X G (ai hb 119 rfl) (ba hl 58 rfl rfl) ["step","place","row","foreign","kind"] bn5) λamB ame akI alN alB=>?_;refine aX (akk X G (ai hb 120 rfl) (ba hl 59 rfl rfl) (ai hb 121 rfl)) λanq Yk kFT gFT=>?_;refine cQ (di X G (ai hb 122 rfl) (ba hl 60 rfl rfl) ["part"] f7) λane FMP kMP bMP gMP=>?_;refine cQ (di X G (ai hb 123 rfl) (ba hl 61 rfl rfl) ["program"] f7) λanf FMA kMA bMA gMA=>?_;refine aX (dG (mw hb) (ba hl 62 rfl rfl) ["self","place"] eA) λLz FNx uB MNx=>?_;refine aX (dG (ai hb 125 rfl) (ba hl 63 rfl rfl) ["self","place"] eA) λKb ajL K1 ajD=>?_;refine aX (dG (pd hb) (ba hl 64 rfl rfl) ["self"] f7) λLy FSt wI MSt=>?_;refine aX (dG (ai hb 127 rfl) (ba hl 65 rfl rfl) ["self"] f7) λKR al4 LH alP=>?_;refine aX (dG (ai hb 128 rfl) (ba hl 66 rfl rfl) ["self"] f7) λKQ al2 LG alO=>?_;refine cQ (di X G (ai hb 129 rfl) (ba hl 67 rfl rfl) ["_law_script","_law_k"] eA) λamA amd LR L9 L1=>?_;refine cQ (di X G (ai hb 130 rfl) (ba hl 68 rfl rfl) ["_law_draw_here","_law_names","_law_size"] nu) λamv al9 akD alI alw=>?_;refine cQ (di X G (ai hb 131 rfl) (ba hl 69 rfl rfl) ["_law_script"] f7) λamw al' akE alJ alx=>?_;refine cQ (di X G (ai hb 132 rfl) (ba hl 70 rfl rfl) ["_law_step_here","_law_some"] eA) λamx ama akF alK aly=>?_;refine cQ (di X G (ai hb 133 rfl) (ba hl 71 rfl rfl) ["_law_script","_law_clerk","_law_steps"] nu) λamu al8 akC alH alv=>?_;refine cQ (di X G (ai hb 134 rfl) (ba hl 72 rfl rfl) ["_law_least","_law_paper"] eA) λamt al7 akB alG alu=>?_;refine cQ (di X G (ai hb 135 rfl) (ba hl 73 rfl rfl) ["_law_program_here","_law_least","_law_paper"] nu) λamz amc akH alM alA=>?_;refine cQ (di X G (ai hb 136 rfl) (ba hl 74 rfl rfl) ["_law_machine","_law_papers","_law_many"] nu) λamy amb akG alL alz=>?_;refine cQ (di X G (ai hb 137 rfl) (ba hl 75 rfl rfl) ["_law_script"] f7) λajA VL amF anD als=>?_;have e:=hfa.symm.trans als;cases e;refine oA (qS X G (ai hb 7 rfl)) λamk ag3=>?_;refine oA (qS X G (ai hb 8 rfl)) λsu ajy=>?_;refine oA (qS X G (ai hb 13 rfl)) λqI ajz=>?_;refine oA (qS X G (ai hb 18 rfl)) λkJ ajx=>?_;refine oA (qS X G (ai hb 23 rfl)) λlK ag5=>?_;refine oA (qS X G (ai hb 28 rfl)) λmQ ag2=>?_;refine oA (qS X G (ai hb 33 rfl)) λpA ag4=>?_;refine oA (qS X G (ai hb 38 rfl)) λvE afr=>?_;refine oA (qS X G (ai hb 41 rfl)) λag6 ag1=>?_;refine oA (qS X G (ai hb 46 rfl)) λab4 ab3=>?_;have VG:Mk K (eV K) (Ki K):=⟨(Qo hb).1,HT.ja (IH hb).1,(IH hb).2.2.2,(Qo hb).2⟩;have VH:Mk K (eW K) (Kk K):=⟨(Qp hb).1,HT.ja (IJ hb).1,(IJ hb).2.2.2,(Qp hb).2⟩;have VF:Mk K (eU K) (Kh K):=⟨(Qn hb).1,HT.ja (IG hb).1,(IG hb).2.2.2,(Qn hb).2⟩;have Ul:Mk K (eR K) (Jv K):=⟨(Py hb).1,HT.ja (HN hb).1,(HN hb).2.2.2,(Py hb).2⟩;have Uj:Mk K (eP K) (Jt K):=⟨(Pw hb).1,HT.ja (HL hb).1,(HL hb).2.2.2,(Pw hb).2⟩;have Uk:Mk K (eQ K) (Ju K):=⟨(Px hb).1,HT.ja (HM hb).1,(HM hb).2.2.2,(Px hb).2⟩;have ag7:Mk K (iT K) (yS K):=⟨(O8 hb).1,(ai hb 154 rfl),(Kd hb).2.2.2,(O8 hb).2⟩;have ajB:Mk K (gI K) (Ud K):=⟨(Pu hb).1,HT.ja (Jr hb).1,(Jr hb).2.2.2,(Pu hb).2⟩;have adH:Mk K (cU K) (Kj K):=⟨(OK hb).1,HT.ja (II hb).1,(II hb).2.2.2,(OK hb).2⟩;have aaR:=MTA;have ZF:=MTL;have OM:=MTF;have Z9:=MTT;have Zo:=MTE;have ZE:=MTD;have Zh:=MAE;have Zf:=MMY;have Y9:=MCR;have Ow:=MMV;have ZY:=MDO;have Y7:=MDS;have Zg:=MDT;have Y8:=MDL;have Y6:=MDW;have Ox:=MCY;have OE:=MCM;have Oi:=MOB;have Y5:=MWT;have Zp:=MWH;have ZH:Meth K (eV K) "empties" (oa K):=⟨(ai hb 138 rfl),(pe hb).2.2.2,(pe hb).2.2.1⟩;have ZJ:Meth K (eW K) "empties" (oa K):=⟨(ai hb 139 rfl),(pe hb).2.2.2,(pe hb).2.2.1⟩;have ZG:Meth K (eU K) "empties" (oa K):=⟨(ai hb 140 rfl),(pe hb).2.2.2,(pe hb).2.2.1⟩;have Zx:Meth K (eR K) "empties" (oa K):=⟨(ai hb 141 rfl),(pe hb).2.2.2,(pe hb).2.2.1⟩;have Zv:=ajC;have Zq:=ajE;have Zw:Meth K (eQ K) "empties" (oa K):=⟨(ai hb 142 rfl),(pe hb).2.2.2,(pe hb).2.2.1⟩;have aac:Meth K (eV K) "nexts" (lN K):=⟨(ai hb 143 rfl),(mw hb).2.2.2,(mw hb).2.2.1⟩;have aae:Meth K (eW K) "nexts" (lN K):=⟨(ai hb 144 rfl),(mw hb).2.2.2,(mw hb).2.2.1⟩;have aab:Meth K (eU K) "nexts" (lN K):=⟨(ai hb 145 rfl),(mw hb).2.2.2,(mw hb).2.2.1⟩;have ZZ:Meth K (eR K) "nexts" (lN K):=⟨(ai hb 146 rfl),(mw hb).2.2.2,(mw hb).2.2.1⟩;have ZW:Meth K (eP K) "nexts" (lN K):=⟨(ai hb 147 rfl),(mw hb).2.2.2,(mw hb).2.2.1⟩;have ZI:Meth K (iT K) "nexts" (lN K):=⟨(ai hb 148 rfl),(mw hb).2.2.2,(mw hb).2.2.1⟩;have ZX:=ajD;have aaT:Meth K (eV K) "sets" (nZ K):=⟨(ai hb 149 rfl),(pd hb).2.2.2,(pd hb).2.2.1⟩;have aaU:Meth K (eW K) "sets" (nZ K):=⟨(ai hb 150 rfl),(pd hb).2.2.2,(pd hb).2.2.1⟩;have aaS:=alP;have aad:Meth K (eR K) "sets" (nZ K):=⟨(ai hb 151 rfl),(pd hb).2.2.2,(pd hb).2.2.1⟩;have Z':=alO;have Z0:Meth K (iT K) "sets" (nZ K):=⟨(ai hb 152 rfl),(pd hb).2.2.2,(pd hb).2.2.1⟩;have aaa:Meth K (eQ K) "sets" (nZ K):=⟨(ai hb 153 rfl),(pd hb).2.2.2,(pd hb).2.2.1⟩;have Zr:K' K (my K) "__init__" (yS K):=⟨(ai hb 155 rfl),(ai hb 156 rfl),HT.agk (ai hb 157 rfl),(Kd hb).2.2.1⟩;have OL:=W.mg_none_of X G (ai hb 158 rfl);have Tg:=W.mg_none_of X G (ai hb 159 rfl);have Se:=W.mg_none_of X G (ai hb 160 rfl);have Tf:=W.mg_none_of X G (ai hb 161 rfl);have C9:=W.mg_none_of X G (ai hb 162 rfl);have qB:=W.mg_none_of X G (ai hb 163 rfl);have Ti:=W.mg_none_of X G (ai hb 164 rfl);have agW:=W.mg_none_of X G (ai hb 165 rfl);have xQ:=W.mg_none_of X G (ai hb 166 rfl);have qp:=W.mg_none_of X G (ai hb 167 rfl);have afq:=W.mg_none_of X G (ai hb 168 rfl);have Kl:=W.mg_none_of X G (ai hb 169 rfl);have amj:=W.mg_none_of X G (ai hb 170 rfl);have Qw:=W.mg_none_of X G (ai hb 171 rfl);have Th:=W.mg_none_of X G (ai hb 172 rfl);have agX:=W.mg_none_of X G (ai hb 173 rfl);have agY:∃u,mg "TOP" = some u/\RelV (.int k7) u:=by obtain⟨t,e⟩:=HT.A9 (ai hb 174 rfl);exact⟨_,W.mg_of X G e,_,rfl⟩
 have Ri:∃u,mg "NAMES" = some u/\RelV (.int 12) u:=by obtain⟨t,e⟩:=HT.A9 (ai hb 175 rfl);exact⟨_,W.mg_of X G e,_,rfl⟩
 have ZV:∃u,mg "REGISTERS" = some u/\RelV (.int 4) u:=by obtain⟨t,e⟩:=HT.A9 (ai hb 176 rfl);exact⟨_,W.mg_of X G e,_,rfl⟩
 have aaQ:∃u,mg "LONGEST" = some u/\RelV (.int 120) u:=by obtain⟨t,e⟩:=HT.A9 (ai hb 177 rfl);exact⟨_,W.mg_of X G e,_,rfl⟩
 have ab2:∃u,mg "CLERKS" = some u/\RelV (.int 4) u:=by obtain⟨t,e⟩:=HT.A9 (ai hb 178 rfl);exact⟨_,W.mg_of X G e,_,rfl⟩
 have aml:=W.mg_of X G (HT.ja (ai hb 0 rfl));have ajk:=W.mg_of X G (HT.ja (ai hb 1 rfl));have XNo:=Mj (ai hb 2 rfl);have Ug:=W.mg_of X G (HT.ja (ai hb 3 rfl));have X6:=Mj (ai hb 4 rfl);have ajl:=W.mg_of X G (HT.ja (ai hb 5 rfl));have XKd:=Mj (ai hb 6 rfl);have adF:=W.mg_of X G (HT.ja (ai hb 179 rfl));have adG:∀H:Hp,ar K H (Rh K) [.str "row",.str "name",.str "none"]:=λH=>HT.adN (ai hb 180 rfl) (by show 3<=bN;decide) H;have bl:Bl mg:=⟨OL,Tg,Se,Tf,C9,qB,Ti,agW⟩;have bt:BT mg:=⟨OL,Tg,Se,Tf,qB,Ti,qp,xQ,Kl,Qw⟩;have cn:Cn mg:=⟨agY,Ri,ZV,aaQ⟩
 have T1:qA K mg ⟨(Va K),(Vd K),(Vb K),(Vc K),(yS K),(Ki K),(Kk K),(Kh K),(Jv K),(Jt K),(Ju K),(my K),(eV K),(eW K),(eU K),(eR K),(eP K),(iT K),(eQ K),_,_,_,_,_,_,_,_,_,_,_⟩:=
  ⟨bl,cn,FW,bW,gW,FB,bB,gB,FS,bS,gS,FO,bO,gO,⟨FI,bI,Zr,ag3,C9⟩,vE,(ai hb 40 rfl),ag7,afr,su,(ai hb 10 rfl),(ai hb 11 rfl),(ai hb 12 rfl),VG,ajy,al5,L8,qI,(ai hb 15 rfl),(ai hb 16 rfl),(ai hb 17 rfl),VH,ajz,amf,L',kJ,(ai hb 20 rfl),(ai hb 21 rfl),(ai hb 22 rfl),VF,ajx,al3,L7,lK,(ai hb 25 rfl),(ai hb 26 rfl),(ai hb 27 rfl),Ul,ag5,ajM,Lh,mQ,(ai hb 30 rfl),(ai hb 31 rfl),(ai hb 32 rfl),Uj,ag2,ajI,Lf,pA,(ai hb 35 rfl),(ai hb 36 rfl),(ai hb 37 rfl),Uk,ag4,ajK,Lg⟩
 obtain⟨t,u5,PA⟩:∃t u5,jP K mg t u5:=⟨_,⟨⟨(oa K),(Sa K),(Sd K),_,_,_⟩,(lN K),(Sb K),(nZ K),(Te K),(Td K),_,_,_,_,_⟩,⟨⟨T1,FEm,wJ,ajJ,K0,ajN,K2,(ai hb 181 rfl),(ai hb 182 rfl),ZH,ZJ,ZG,Zx,Zv,Zq,Zw,⟨(ai hb 183 rfl),(ai hb 184 rfl),(ai hb 185 rfl),(ai hb 186 rfl),(ai hb 187 rfl),(ai hb 188 rfl),(ai hb 189 rfl),(ai hb 190 rfl)⟩,⟨(ai hb 191 rfl),(ai hb 192 rfl),(ai hb 193 rfl),(ai hb 194 rfl),(ai hb 195 rfl),(ai hb 196 rfl),(ai hb 197 rfl),(ai hb 198 rfl)⟩,⟨(ai hb 199 rfl),(ai hb 200 rfl),(ai hb 201 rfl),(ai hb 202 rfl),(ai hb 203 rfl),(ai hb 204 rfl),(ai hb 205 rfl),(ai hb 206 rfl)⟩,⟨(ai hb 207 rfl),(ai hb 208 rfl),(ai hb 209 rfl),(ai hb 210 rfl),(ai hb 211 rfl),(ai hb 212 rfl),(ai hb 213 rfl),(ai hb 214 rfl)⟩,⟨(ai hb 215 rfl),(ai hb 216 rfl),(ai hb 217 rfl),(ai hb 218 rfl),(ai hb 219 rfl),(ai hb 220 rfl),(ai hb 221 rfl),(ai hb 222 rfl)⟩,⟨(ai hb 223 rfl),(ai hb 224 rfl),(ai hb 225 rfl),(ai hb 226 rfl),(ai hb 227 rfl),(ai hb 228 rfl),(ai hb 229 rfl),(ai hb 230 rfl)⟩,⟨(ai hb 231 rfl),(ai hb 232 rfl),(ai hb 233 rfl),(ai hb 234 rfl),(ai hb 235 rfl),(ai hb 236 rfl),(ai hb 237 rfl),(ai hb 238 rfl)⟩⟩,Qw,agX,FNx,uB,ajL,K1,aac,aae,aab,ZZ,ZW,ZI,ZX,FSt,wI,al4,LH,al2,LG,aaT,aaU,aaS,aad,Z',Z0,aaa⟩⟩;have O:=PA.ob;have T:=O.st;have cM:je K (cU K):=⟨ab4,(ai hb 48 rfl),(ai hb 49 rfl),(ai hb 50 rfl),(ai hb 51 rfl),(ai hb 52 rfl),(ai hb 53 rfl),(ai hb 54 rfl),(ai hb 55 rfl),(ai hb 56 rfl),(ai hb 57 rfl)⟩;have cT:kN K (gI K):=⟨ag6,(ai hb 43 rfl),(ai hb 44 rfl),(ai hb 45 rfl)⟩;have b3:=aeW VJ;have bFT:=adp Yk;unfold Tc;refine⟨ajA,λs v=>?_,⟨_,RQ hb⟩,λbase h1 h2 h3=>?_⟩
 ·obtain⟨_,_,_,_,_,_,_,_,_,e,_⟩:=VL.ex;rw[e];exact .of_eq rfl
 ·exact(by
  have hC:=W.codeHd_of_K h1 (RQ hb);have GTD:=aaz (P:=l.prog) (w:=w) (mg:=mg) (base:=base) FTD bt cT;have GTE:=abo (P:=l.prog) (w:=w) (mg:=mg) (base:=base) FTE bt cT;have GTF:=Pl (P:=l.prog) (w:=w) (mg:=mg) (base:=base) Yj bt cT hC h3;have GTT:=acG (P:=l.prog) (w:=w) (mg:=mg) (base:=base) FTT bt cT hC h3 FW bW gW Yj XW OM X6.xc Ug;have GTA:=aey (P:=l.prog) (w:=w) (mg:=mg) (base:=base) FTA cT;have GTL:=aaA (P:=l.prog) (w:=w) (mg:=mg) (base:=base) FTL bt cT;have GTO:=abn (P:=l.prog) (w:=w) (mg:=mg) (base:=base) FTO bt cT ajB FTI bTI ag1 Ri adF adG XKd.xc ajl (PT:=524);have GAE:=acP (P:=l.prog) (w:=w) (mg:=mg) (base:=base) (t:=t) (CT:=(gI K)) FAE qB cM;have GWH:=acF (P:=l.prog) (w:=w) (mg:=mg) (base:=base) (t:=t) (CT:=(gI K)) FWH cM;have GWT:=aay (t:=t) FWT cM cT GTD bTD ZE;have GMY:=acJ FMY cM cT O GAE bAE Zh GTE bTE Zo;have GCR:=aaD (t:=t) FCR cM cT xQ GTF XW OM;have Ye:=abp FMV cM qB qp GMY bMY Zf GCR bCR Y9;have Yi:=aeH (P:=l.prog) (w:=w) (mg:=mg) (base:=base) (t:=t) (CT:=(gI K)) FCM cM;have Yd:=aaC (P:=l.prog) (w:=w) (mg:=mg) (base:=base) (t:=t) (CT:=(gI K)) FOB cM qB;have Yh:=acO FCY cM cT GTT bTT Z9 Yi X2 OE;have GDT:=acN FDT cM cT qB T GTA bTA aaR Yh X1 Ox;have GDL:=abt FDL cM cT T GTL bTL ZF Yd XY Oi;have GDW:=abq FDW cM T qB Yd XY Oi Yi X2 OE;have GPB:=Zt (P:=l.prog) (w:=w) (mg:=mg) (base:=base) FPB O;have GDS:=abr FDS cM O GPB kPB bPB gPB GDT bDT Zg GDL bDL Y8 GDW bDW Y6;have GHF:=aeE (P:=l.prog) (w:=w) (mg:=mg) (base:=base) FHF T;have GDO:=afX FDO cM GHF kHF bHF gHF Ye XZ Ow GDS bDS Y7 Yh X1 Ox X6.xc Ug;have GSO:=aaB (P:=l.prog) (w:=w) (mg:=mg) (base:=base) FSO T C9;have GLO:=(aeB (P:=l.prog) (w:=w) (mg:=mg) (base:=base) FLO bl xQ (afY FHC bl ab2) kHC bHC gHC (aeF FFI O XNo ajk) kFI bFI gFI);have GMI:=acK VJ cM T C9 qp GLO kLO bLO gLO GTO kTO bTO gTO GSO kSO bSO gSO;have Yg:=aeD (P:=l.prog) (w:=w) (mg:=mg) (base:=base) FHN;have X':=aex (P:=l.prog) (w:=w) (mg:=mg) (base:=base) FWN;have Yb:=aax (P:=l.prog) (w:=w) (mg:=mg) (base:=base) FWA;have NT:=afV FWO Yb WG XU XB;have GLE:=acM FLE cn qp Kl Yg WI X0 XE;have VI:=abu PA al6 X' WE XT XA;have Yc:=aeC PA FPL VI Vi VD Vy Yb WG XU XB;have GPS:=ahF (P:=l.prog) (w:=w) (mg:=mg) (base:=base) PA FPS Th;have GSe:=ahB FSe xQ GPS kPS bPS gPS;have GOT:=afW FOT bl cn qp Th GSe kSe bSe gSe X' WE XT XA;have GHL:=ahO (P:=l.prog) (w:=w) (mg:=mg) (base:=base) FHL bl afq;have GIS:=ahL FIS cn (Iz (P:=l.prog) (w:=w) (mg:=mg) (base:=base) FW bl) kW bW gW;have GHS:=ahN FHS bl GHL kHL bHL gHL GIS kIS bIS gIS;have GLF:=ahK PA FLF Yg WI X0 XE NT MR NO NG;have GSF:=ahD PA FSF NT MR NO NG;have alZ:=ahQ PA ame GLF kLF bLF gLF GSF kSF bSF gSF NT MR NO NG GLE kLE bLE gLE Yc WH XX XD;have GFT:=ake PA Yk xQ GHS kHS bHS gHS GOT kOT bOT gOT alZ akI alN alB;have GMP:=ahI PA FMP xQ VI Vi VD Vy Yc WH XX XD;have GMA:=ahH FMA bl GMP kMP bMP gMP;have Ma:=aeG (P:=l.prog) (w:=w) (mg:=mg) (base:=base) amd qB;have alU:=ahJ (P:=l.prog) (w:=w) (mg:=mg) (base:=base) al9 qB;have alV:=ahE al' bl qp Ma LR L9 L1 alU akD alI alw;have alW:=ahG (P:=l.prog) (w:=w) (mg:=mg) (base:=base) ama;have alT:=ahC al8 bl qp Ma LR L9 L1 alW akF alK aly;have alS:=ahz (P:=l.prog) (w:=w) (mg:=mg) (base:=base) al7 qB qp;have alY:=ahP amc GFT kFT bFT gFT;have alX:=ahM amb cM qp GWT bWT Y5 GWH bWH Zp;exact afU VL cM bl qp Kl Ma LR L9 L1 alV akE alJ alx alT akC alH alv GMA kMA bMA gMA alS akB alG alu alY akH alM alA adH GMI ab3 b3 Ye XZ Ow GDO bDO ZY alX akG alL alz)
theorem walk{l:W.OpenLaw}{q:Program}{loose:List Str}{XP:(Str->Option Value)->Heap->Prop}{d:DefRec}(hn:l.most=some 63)(Nq:d.params.defaults=[])(hdn:d.name = "law") :
  W.WalkO q loose XP (HT.sg TL.pO 524 (λK=>(seen K,pD K)) (true,nY)).says l.row.toRowW d [] (λf vs=>PySem.call f vs):=by
 refine Att.Z8 hn Nq λw s₀ s₁ mg mb fa o pm cd doc a vs ns G Y ho hd ib uP wt hints hlen hg=>?_;obtain⟨K,KX,KN,hT,E⟩:=Y;rw[hdn]at uP;obtain⟨fd,hb,⟨c,hc⟩,hF⟩:=facts (l:=l) (w:=w) E KX G.T.g uP
 have bm:sH mg s₁.heap:=by
  obtain⟨bm,ob,b1,b2,b3,b4,b5,b6⟩:=G.T.bmain;refine⟨bm,ob,b1,b2,λz=>?_,b3,b4,b5,b6⟩;obtain⟨o',es,ep,e,rA,_⟩:=G.T.g;rw[z,e]at b3;cases b3;rw[rA]at b6;cases b6
 exact abA (ts:=[524]) KX G.T.g G.T.b G.T.builtins G.T.nolimit hg bm (λb hb=>by rw[eN.mp hb];exact hT) (λb hb=>by rw[eN.mp hb];exact((W.codeHd_of_K KX hc).tab hT).isCodeTable) (λb hb=>by rw[eN.mp hb];exact KN) wt hints (cZ hlen qc) ⟨rfl,qc,qc⟩ hF hb (λH hO hS=>⟨a,ns,rfl,hS,hlen,⟨#[],hO.2 524 (by simp),.inl rfl⟩,λ_=>rfl⟩) λH e s' z=>z
end TL
open PySem PySem.W PyProof.Rows
theorem TL.left:W.LeftO PySem.Challenge.rw_traylate_k58_whole_papers_hold_what_wait.row.prog TL.qv [PySem.Str.ofString "fault"] (λs=>W.xlAt TL.qv [] s&&W.recOk PySem.Challenge.rw_traylate_k58_whole_papers_hold_what_wait.row.records s) (HT.sg TL.pO 524 (λK=>(TL.seen K,TL.pD K)) (true,TL.nY)).obs (HT.sg TL.pO 524 (λK=>(TL.seen K,TL.pD K)) (true,TL.nY)).val 12724:=by
 refine HT.ae0 ?a ?b ?c ?d
 case a=>kernel_rfl
 case b=>kernel_rfl
 case c=>intro s;kernel_rfl
 case d=>intro w os;exact HT.both (HT.qO (HT.m8 (TL.l2 w os))) (HT.both (TL.r2 w os) (TL.r3 w os))
theorem PySem.Challenge.cw_traylate_k58_whole_papers_hold_what_wait_holds : PySem.Challenge.rw_traylate_k58_whole_papers_hold_what_wait.Holds := by
 refine W.holds_law TL.lwS λamD=>?_;refine W.holds_open (q:=TL.qv) (loose:=[PySem.Str.ofString "fault"]) (XP:=W.XL TL.qv []) (YP:=(HT.sg TL.pO 524 (λK=>(TL.seen K,TL.pD K)) (true,TL.nY)).says) (d:=TL.dl) (kwd:=[]) TL.left (HT.sg TL.pO 524 (λK=>(TL.seen K,TL.pD K)) (true,TL.nY)).of (HT.sg TL.pO 524 (λK=>(TL.seen K,TL.pD K)) (true,TL.nY)).keeps (λs e=>W.xl_of s (Od.mp e).1) W.XL.keeps ?h1 ?h2 ?h3 (λs e=>W.recFacts_of (Od.mp e).2) ?h4 (by assumption) ?h5 ⟨rfl,rfl,rfl,rfl,rfl,dk⟩ ?hw (TL.walk (l:=PySem.Challenge.rw_traylate_k58_whole_papers_hold_what_wait) ?w1 ?w2 ?w3)
 case h1=>kernel_rfl
 case h2=>kernel_rfl
 case h3=>kernel_rfl
 case h4=>kernel_rfl
 case h5=>kernel_rfl
 case hw=>w_witness2
 case w1=>kernel_rfl
 case w2=>kernel_rfl
 case w3=>kernel_rfl
#print axioms PySem.Challenge.cw_traylate_k58_whole_papers_hold_what_wait_holds
