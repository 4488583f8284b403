import PyProof.Rows.All
import OpenK.AllK
import PySem.Challenge.RW_ranksure_k13_whole_worst_run
import KE.RegKIsAll
import Wide.All
import OpenK.KWalk
import OpenK.KMake
import OpenK.KDescr
import OpenK.KCall
import OpenK.KOwn
import KE.KIsAll
import KE.KItem
import KE.KxBytes
import Wide.FinOn
import Lean
import PyProof.EqAt
import PyProof.EqKinds
import PyProof.TupleCall
import KE.KLam
import KE.LcSums
import PyProof.Rows.EqDataRows
import PyProof.RulesAs
import PyProof.ZipIter
import PyProof.Draws
import KE.KMinKey
import PyProof.Rows.TupAdd
import PyProof.ListMulRoad
import PyProof.AutoListH
import PyProof.Rows.Range3
import PyProof.ListRange
import PyProof.EnumMake
import PyProof.EnumFor
import PyProof.Rows.SetFrom
import PyProof.WalksMore
import PyProof.StrOps2
import PyProof.Rows.MinMaxN
import PyProof.ConsumeWalk
import PyProof.Rows.SortWalk
import PyProof.ExcArgsOwn
import PyProof.StrBlock2
import PyProof.Rows.CallKwBuiltin
import KE.KDictLaws
import KE.KDictMeth
import KE.KDictObj
import KE.KDictLetter
import OpenK.KDict
import KE.KDictOf
import PyProof.Rows.RegDictMethods
import PySem.PyData
import KE.KNestM
import PyProof.DictWalks
import PyProof.AttrMissHeap
noncomputable section
set_option genSizeOf false
set_option genSizeOfSpec false
set_option genInjectivity false
set_option compiler.extract_closed false
set_option bootstrap.genMatcherCode false
set_option Elab.async false
set_option linter.all false
open List renaming getElem?_eq_getElem->My,mem_cons_of_mem->N0,mem_cons_self->N1,map_cons->N2,length_map->N8,getD_eq_getElem?_getD->N9,getElem?_map->NA,mem_cons->NB,getElem?_eq_some_iff->NC,mem_append_right->NF,mem_map->NH,mem_filter->NK,size_toArray->NM,map_map->NO,length_cons->NP,mem_singleton->NQ,map_congr_left->NR,length_append->NS,all_eq_true->NT,getElem_mem->NV,getElem?_set_ne->NW,foldl_cons->NY,mem_append->NZ,not_mem_nil->O0,mem_append_left->O1,getElem?_mapIdx->O3,getElem?_set_self->O4,getElem?_append_left->O6,nodup_cons->O7,mem_of_getElem?->O8,getElem?_append_right->O9,sum_cons->Oa,find?_cons->Oc,getElem_of_mem->Od,mem_of_mem_take->Oe,mem_range->Of,map_append->Ol,mem_of_find?_eq_some->Oo,length_singleton->Ou,getElem?_cons_succ->Ov,getElem?_cons_zero->Ow,mem_of_mem_drop->Ox,lookup_cons->Oy,any_eq_true->Oz,drop_eq_getElem_cons->OA,getElem?_range->OB,getElem?_eq_none->OD,length_nil->OE,nil_append->OF,map_id->OH,map_nil->OI,find?_eq_none->OJ,append_assoc->OK,append_nil->OL,replicate_succ->ON,any_cons->OR,mem_iff_getElem?->OU,pairwise_iff_getElem->OV,flatten_cons->OY,ext_getElem?->OZ,cons_append->P4,length_set->P7,take_append_drop->P8,find?_some->P9,nodup_append->Pb,getElem?_take_of_lt->Pf,length_drop->Pg,range'_succ->Ph,take_succ_cons->Pj,length_eq_zero_iff->Pk,set_cons_succ->Pm,set_cons_zero->Pn,pairwise_cons->Po,length_mapIdx->Pp,length_take->Pr,filter_cons->Pu,ext_getElem->Pw,all_cons->Px,exists_cons_of_ne_nil->Py,filterMap_cons->Pz,mem_map_of_mem->PB,zip_cons_cons->PF,getElem?_replicate->PM,length_range->PQ,drop_of_length_le->PU,getElem_map->PV,of_mem_zip->Q1,nodup_nil->Q3,mem_filterMap->Q5,ne_nil_of_mem->Q6,any_eq_false->Qa,getLast?_map->Qc,findIdx_cons->Qd,drop_length->Qg,mapIdx_cons->Qi,replicate->L',range->M',length_pos_iff->QK,range'->Rn,lookup->S5,foldl->Si,getElem?_zip_eq_some->SM,getLast?_eq_getElem?->SN,take_of_length_le->Th,forIn_cons->Tj,length_replicate->Tp,getElem?_toArray->Tr,range_eq_range'->TK,getElem?_of_mem->TL,findIdx_getElem->TM,filter_sublist->TX,map_take->U3,getElem?_drop->Ug,take_sublist->Uo,find?_append->UA,foldl_append->UD,getElem_inj->UH,nodup_range->UQ,take_length->UR,range_succ->Va,sum_append->Vb,filter_map->Vf,take_zero->Vu,take_succ->Vw,map_set->VT,length->W4,map->W6
open PySem.Heap renaming get?_push_of_some->N5,lt_size->NI,get?_push_size->NN,get?_update_other->O5,get?_update_self->OS,SameBut->R0,size_push->R8,MadeExcOf->Vq
open Nat renaming le_refl->ND,ne_of_lt->NJ,lt_of_lt_of_le->NX,zero_add->Ob,lt_succ_of_lt->Oj,zero_le->Ot,le_trans->OG,ne_of_gt->OP,lt_irrefl->OQ,le_succ->Pd,lt_succ_self->Pe,sub_self->PH,le_of_lt->Q0,succ_ne_self->Qe,lt_trans->Qh,not_le->Ue,le_of_eq->Uk,mul_comm->Uv,le_succ_of_le->Ux,min_eq_left->V9,not_lt_zero->Vc,add_zero->VR,sub_zero->VS
open Bool renaming and_eq_true->NG,false_ne_true->NL,and_eq_false_iff->OC,false_eq_true->OT,true_and->Pa,and_eq_true_iff->Pc,false_or->Q8,and_true->Q9,not_eq_true'->Qb,and_self->U2,or_eq_true->V5,and_false->Vx,or_false->VA,true_or->VP
open Int renaming mul_le_mul_of_nonneg_right->NU,toNat_natCast->O2,le_refl->Om,toNat_of_nonneg->OO,emod_nonneg->OX,ediv_eq_zero_of_lt->P5,emod_lt_of_pos->P6,ediv_nonneg->Pl,add_mul->Pq,natCast_nonneg->PJ,not_lt->PL,mul_ediv_add_emod->PY,add_mul_ediv_left->PZ,le_trans->Q2,mul_nonneg->Q4,lt_of_lt_of_le->Q7,zero_add->Qj,one_mul->Qk,eq_ofNat_of_zero_le->T4,add_zero->UC,add_assoc->VD,add_comm->VQ,mul_one->W0,sub_mul->W7,not_le->Wd
open Option renaming bind_eq_some_iff->Og,map_some->Oh,bind_some->Oi,map_eq_some_iff->Oq,isSome_iff_exists->OW,getD_some->P0,isSome_map->PR,some->Y,none->S,getD_none->UK,or_none->Vv
open Array renaming length_toList->OM,getElem?_toList->PX,toList_append->TV,getElem_mem->Uz,toList->VL
open PySem.Value renaming isInt_shape->PN,ref->Qw,none->Rq,int->Se,bool->Sz,type->SA,isInt->Tt,notImplemented->TC,str->UE,isStrOf->Vy,builtin->VE,bytes->VV,float->VW
open _root_ renaming Int->Z,List->J,Nat->O,Option->F1,if_pos->HL,if_neg->I',decide_eq_false->P',decide_eq_true->Ql,decide_eq_true_eq->Qm,Bool->Qo,absurd->Qr,if_true->QA,of_decide_eq_true->QC,beq_self_eq_true->QF,beq_eq_false_iff_ne->QJ,decide_eq_false_iff_not->QM,Array->QR,of_decide_eq_false->Ru,String->RI,beq_iff_eq->RK,if_false->RL,or_false->S3,decide_true->V0,Unit->Vz,and_self->W8,not_or->Wc
open PySem renaming PyData->L,wpAny_bind->F',Value->GC,Addr->J',wpAny_pure->K',Shared->LN,Str->Qn,Builtin->Qq,Around->Qs,Expr->Qt,NameKind->Qx,wpAny_tryCatch->Qy,Heap->QD,codeAny_builtin->QE,wpAny_truthy_bool->QG,sizeLine_eq->QI,wpAny_holding->QN,plainId_quiet->QP,Program->QS,wpAny_mono->QU,wpAny_newObj_type->QW,wpAny_seqItems->QX,World->QY,TriplesOk->Rc,wpAny_loadPart'->Rf,wpAny_updateSeq->Rg,wpAny_Call_Name_kw->Rh,wpAny_letGo->Rj,Obj->Rv,wpAny_passesOwn->Ry,codeAny_mono->Rz,Keyword->RA,wpAny_callSpecial?_slot->RG,wpAny_pyIter_tuple->RJ,wpAny_pyIter_list->RO,call_meets->RT,wpAny_call_entry->RW,wpAny_field->S6,wpAny_rule->Sk,wpAny_execs_nil->Sn,tupleKind_room_in1->SJ,wpAny_binaryOp_repeat_ref->SK,Scope->SO,wpAny_pyIter_enum->SS,Walks->SU,wpAny_standAt->SW,PassesOwn->S',noFill_tuple_add->T1,Stmt->T7,wpAny_pyNext_range_end->T9,wpAny_pyIter_rangeiter->Ta,IsPart->Tc,wpAny_typeOf->Td,typeIs_int->Tf,wpAny_Call_method_late->Tg,wpAny_specialOf->Tn,wpAny_isTrue_Compare1->To,builtinLookup_eq_fast->Tq,Pos->Ts,wpAny_loadName_local->Tu,IsRangeIter->Tv,wpAny_loadPart->Tw,Result->Tz,wpAny_newFunctionEnv->TF,wpAny_of_eq->TH,wpAny_loadName_cell->TN,seq_tuple_add->U0,wpAny_pyIter_range->U7,wpAny_call->U9,FuncData->Ui,wpAny_assign_Name->Uj,concat_meets->Uq,wpAny_sequenceKey->Ur,seqIndex_neg->Us,slot_list_getitem->Ut,wpAny_eqBool_int->UG,wpAny_execs_cons->UI,DictEntry->UN,entryFor_of_tree->US,CmpOp->UT,seqIndex_of->UZ,Env->V1,wpAny_ite_false->V7,typeLookup_type->Ve,wpAny_Name->Vj,wpAny_Compare1->Vk,fitsIndex_both->Vp,wpAny_setField->Vr,isSubtype_type->Vs,wpAny_runValue->Vt,Tok->VI,BindsTo->VM,Operator->VY,Meets->W5,Params->W9,DefRec->Wb,Sem->Wh
open PySem.PyData renaming int->FC,eqv->Rb,bool->RB,eqvAll->RN,tuple->RX,canLay0->Sb,canLayAll0->Sd,list->Sm,depthAll->Ss,depth->Sy,none->TJ
open Option.some renaming inj->N4
open PySem.W renaming Frag->Qp,boot_heap->RM,emptyDict->RR,findIn->S7,keepIn->S8,instObj->Sf,hideAll_get->SV,fnOf->SX,kia_one->T2,boot_drawn->U4,codeIn->Up,cellsFrom_some->UJ,methodObj->UW,hasDictIn->UY,OpenLaw->Vg,excIn->Vh,nsIn->Vi,plainGet->Vm,boot_toks->VF,takerIn->VG,makesIn->VH,of_hideAll->VJ,callWith_K->VN,envX->VO,lookIn->W2,WData->We,mg_of->Wg
open PySem.Around renaming under_plainId->Qu,frames_deeper->TB,under->Ul
open PyProof.Rows renaming callWith_type1->Qv,slot_tuple_getitem->QH,step_dedup->QT,IntsAre->RF,callWith_builtin1->Sg,AllBare->Sv,subscriptTail_builtinR->Te,entry_tuple_getitem->TQ,Constant_none->TZ,boot_range->U8,args_tuple_getitem->Ub,Top->UO,IsTup->UU,get?_update_seq->Vd,Call_->Vl,slicePart_none->Vn,Subscript_->Vo
open PySem.SeqAt renaming EqAt->Qz,shaped->QV
open PySem.F renaming plain_max_loop->QB,plain_min_loop->Ro,slot_tuple_iterator_next->Rt,entry_max_loop->RH,slot_NoneType_hash->RV,slot_list_append->S4,plainAttrs_list->Sa,slot_int_rmul->So,args_tuple_iterator_next_1->Sq,entry_tuple_iterator_next->Sw,type_list_append->SH,slot_tuple_mul->T3,entry_min_loop->T6,slot_tuple_index->Ud,slot_dict_values->Uh,args_int_rmul_2->Uu,slot_tuple_rmul->Uy,slot_int_index->UL,entry_int_rmul->UM,slot_list_pop->V3,fills_int_mul->V4
open PySem.Builtin.Range renaming rangeSize->QL,small->Su
open PySem.NameKind renaming free->QO,cell->U1
open False renaming elim->QQ
open PySem.Builtin.Builtins renaming bindParams->QZ
open PySem.Str renaming ofString->R9
open PySem.Obj renaming mapSeq->Ri,data_mapFields->Uc
open Sum renaming inl->Rk,inr->T8
open ForInStep renaming yield->Rl
open Ne renaming symm->Rm
open PySem.Builtin.Slice renaming slicePlaces->Rw,sliceAdjust->RY,sliceApplied->SF
open PySem.Builtin.SmallTypes renaming nextOf->Rx
open True renaming intro->RC
open PySem.Builtin.Tuple renaming tupleExact->RD,tupleItemsOf->SG,tupleTooMany->SI
open Classical renaming not_forall->RU
open PySem.Heap.SameBut renaming update->RZ
open PySem.Builtin.List renaming listTooLong->S0
open PySem.Calls renaming callWith_builtin->S9,evalArgs_plain->Sl,Name_function_global->SD,spliced_cons->SE,spliced_nil->SR
open PySem.Walks renaming list->Sj,range->V'
open Sum.inl renaming inj->SQ
open PySem.AutoSeq1 renaming sub_tuple_tuple->SY
open PySem.Builtin.Dict renaming updateFrom->T5,pairItems->Ti
open PyProof renaming noPylong_small->Tb
open PySem.SeqAt.EqAt renaming none_int->TR,int_none->TU,int_str->U5,str_int->U6,int_int->Ua,same->V2
open Prod.mk renaming injEq->TY
open PySem.Code renaming isFrame->Um,frames->W3
open List.Pairwise renaming nil->Uw,map->UB
open PySem.PyData.int renaming injEq->UP
open PySem.IsRange renaming new->UX
open PySem.Shared renaming heap->U',TypeIs->VB
open List.cons renaming injEq->V6
open PySem.Heap.DictOf renaming new->V8
open Int.ofNat renaming inj->VC
open Prod renaming ext->VU
open PySem.CmpOp renaming NotIn->VX,In->Wl
open PySem.Data renaming fields->VZ,cell->Wi
open PySem.W.WShape renaming has->Wa
open PySem.W.WData renaming int->Wj
variable {p pos pos' cpos spos pn pa p2 tp kp:Ts}{q P prog:QS}{loose N M ps:J Qn}{α β:Type}{us its':J GC}{a b it c C dx D:J'}{h base h':QD}{items its:QR GC}{w:QY}{ob:Rv}{g':QR GenState}{i n0 m:O}{x qual:Qn}{A fp B:J J'}{E Q:GC->LN->Prop}{u cd pm ct oc:GC}{s' s:LN}{z8:J (J'×Rv)}{op:UT}{K:PySem.W.Frag}{n t T xb:Z}{tg body iter elt:Qt}{l:J (Z×Z)}{lo hi:F1 Z}{mA mg mb:Qn->F1 GC}{f:L->L->F1 L}{env:V1}{outer:J V1}{fd:Ui}{scope:SO}{params:Arguments}{an od:F1 J'}{osl sl:QR (F1 GC)}{sp ns rs row:J Z}{XP:(Qn->F1 GC)->QD->Prop}{YP:QY->QD->Prop}{st:T7}{cl:J (Qn×J')}{ifs elts:J Qt}{ds:J L}{newId:RI}{EE cap:J O}{ss:J T7}{z6 nss n':J (J Z)}{z7 R:L}{x8 x9 x10 x11 x12 x13 x7:F1 L}{asked:Qo}{mean:ExcName->F1 GC}
namespace RS
open PySem PySem.W PyProof.Rows
def AJ(p:QS)(w:QY)(m:O)(ann:F1 GC):O->SharedT->Thread->F1 SharedT
 |0,_,_=>S
 |n+1,s,t=>match through t with
  |true=>Y s
  |false=>match Fast.tw6613529449190102663 m ann t with
   |false=>S
   |true=>match Fast.tw10156331382660048174 (Fast.tw11892475500146522536 Fast.tw14364793385576792824) p w s t with
    |some x=>AJ p w m ann n x.1 x.2
    |none=>S
theorem vR{p:QS}{w:QY}{m:O}{ann:F1 GC}:∀{n:O}{s s':SharedT}{t:Thread},AJ p w m ann n s t=Y s'->topRun treeTable p w m ann n s.abs t=Y s'.abs
 |0,_,_,_,h=>by cases h
 |n+1,s,s',t,h=>by
  unfold AJ at h;rw[<-Fast.te6613529449190102663,<-Fast.te10156331382660048174,<-Fast.te11892475500146522536,<-Fast.te14364793385576792824]at h;unfold topRun;cases ht:through t with
  |true=>rw[ht]at h;cases h;rfl
  |false =>
   rw[ht]at h;cases hk:stepOk m ann t with
   |false=>rw[hk]at h;cases h
   |true =>
    rw[hk]at h;cases hs:stepT (denote treeTable) p w s t with
    |none=>rw[hs]at h;cases h
    |some x =>rw[hs]at h;rw[stepT_spec (s':=x.1) (t':=x.2) hs];exact vR h
noncomputable def JK(l:J Rv):BT:=(l.foldl (λx o=>(x.1.ins x.2 o,x.2+1)) (BT.nil,0)).1
def hdS(w:QY)(os:OsState):SharedT:=⟨JK (RM w.params).objs.toList,11,(RM w.params).life,QR.mk [],U4,VF,os⟩
theorem Gw(w:QY):(λos=>(hdS w os).abs)=λos=>⟨RM w.params,QR.mk [],U4,VF,os⟩:=by kernel_rfl
theorem JC(w:QY):((RM w.params).isNs mainGlobals&&(QR.mk []:QR GenState).size==0,(RM w.params).objs.size,(RM w.params).nsMap mainGlobals "__annotations__")=(true,11,Y (.ref 6)):=by kernel_rfl
def FQ(p q:QS)(loose:J Qn)(Xt:LN->Qo){α:Type}(Yf:LN->α)(h:QD)(s:LN) :=
 (staticsOk (importedModules p.main.body) h s.heap&&namesBound p s.heap&&gensDone s&&laidKept h s.heap,Fast.tw4187177175401517315 q loose (importedModules p.main.body) Xt true s,Yf s)
theorem Ll{p:QS}{Xt:LN->Qo}{Yf:LN->α}{Ya:QY->α}{N M:O}
  (e:opening p=plainProg p.main.scope.names) (a:O.ble 600 N=true) (f:∀s,fenceModules? p s=Y s) (le:O.ble M N=true)
  (h:∀w,(λos=>(AJ p w 11 (Y (.ref 6)) M (hdS w os) (topStub p)).map λs=>FQ p q loose Xt Yf (RM w.params) s.abs)=λ_=>Y (true,openGood q loose,Ya w)):LeftO p q loose Xt Yf Ya N:=λw=>by
 obtain⟨⟨hp,gs,d,k,os⟩,e1,b⟩:=Oq.mp (boot_open e a f w);obtain⟨rfl,rfl,rfl,rfl⟩:hp=RM w.params/\gs=QR.mk []/\d=U4/\k=boot_toks:=by simpa using b
 obtain⟨z1,z2,z3⟩:_/\_/\_:=by simpa only[TY] using JC w
 obtain⟨s,c,hv⟩:=Oq.mp (congrFun (h w) os);obtain⟨l1,l2,l3⟩:_/\_/\_:=by simpa only[FQ,<-Fast.te4187177175401517315,TY] using hv
 have r:=vR c;rw[congrFun (Gw w) os]at r;have r:=topRun_mono (N-M) _ _ _ _ r;rw[show M+(N-M)=N by have:=O.le_of_ble_eq_true le;omega]at r;unfold openEnds;rw[e1];show (topFrom treeTable p w N _).map _=_;have t:topFrom treeTable p w N ⟨RM w.params,QR.mk [],U4,VF,os⟩=Y s.abs:=by unfold topFrom;dsimp only;rw[z1,z2,z3,r];show (match staticsOk (importedModules p.main.body) (RM w.params) s.abs.heap&&namesBound p s.abs.heap&&gensDone s.abs&&laidKept (RM w.params) s.abs.heap with|true=>_|false=>_)=_;rw[l1]
 rw[t];exact congrArg Y (VU l2 l3)
end RS
def PySem.W.Fast.tw10278577108985839615:PySem.Program:=PySem.Challenge.pw_ranksure_k13_whole_worst_run
theorem PySem.W.Fast.te10278577108985839615:PySem.Challenge.pw_ranksure_k13_whole_worst_run=PySem.W.Fast.tw10278577108985839615:=rfl
section
open PySem PySem.W PyProof.Rows
def RS.vw:Program:=view PySem.Challenge.pw_ranksure_k13_whole_worst_run [1,2,3,4,6,7,8,9,10,11,12,13,14,15,16,17,18,19,20,21,22,23,24,25,27,28,29,30,31,32,33,34,35,36,38,39,40,42,43,44,45,46,47,48,49,50,51,52,53,54]
local macro_rules | `(tactic| o_head $H)=>`(tactic| (refine holds_open (N:=4710) (Xt:=λs=>xlAt RS.vw [] s&&recOk (RowW.records (OpenRow.toRowW (OpenLaw.row PySem.Challenge.rw_ranksure_k13_whole_worst_run))) s) (XP:=XL RS.vw []) (q:=RS.vw) (loose:=[]) (Yf:=Hook.obs $H) (Ya:=Hook.val $H) (YP:=Hook.says $H) ?hl (Hook.of $H) (Hook.keeps $H) (λs e=>xl_of s (Pc.mp e).1) XL.keeps (by rfl) (by rfl) (by rfl) (λs e=>recFacts_of (Pc.mp e).2) (by rfl) (by assumption) (by decide +kernel) ⟨rfl,rfl,rfl,rfl,rfl,by decide +kernel⟩ ?hw ?hc;(case hl=>refine RS.Ll (M:=2405) (by kernel_rfl) (by rfl) (by intro s;kernel_rfl) (by rfl) λw=>?_;kernel_rfl)))
set_option maxRecDepth 100000 in
set_option maxHeartbeats 0 in
open_top RS.hdTop for PySem.Challenge.rw_ranksure_k13_whole_worst_run
end
set_option maxRecDepth 100000
set_option hygiene false
local macro_rules|`(⋯)=>`(by omega)|`(#[1])=>`(by decide)|`(#[2])=>`(by simp)|`(↑$x)=>`(gC (.int $x))|`(⇑$x)=>`(Y (.int $x))|`(↥$x)=>`(Y (.list $x))|`(#[0,$x:num])=>`(af (ae $x) ah)|`(#[0,$x])=>`(af $x ah)|`(#[0,$x:num,$y,*])=>`(af (ae $x) #[0,$y,*])|`(#[0,$x,$y,*])=>`(af $x #[0,$y,*])
local macro_rules|`(tactic|dsimp[$x,*])=>`(tactic|simp only[$x,*])|`(tactic|dsimp[$x,*]$l:location)=>`(tactic|simp only[$x,*]$l:location)
local macro_rules|`(#[3,$x,*])=>`([Y (aj es),Y (ai rs),$x,*])
namespace L2
open PySem PySem.Spec PyProof.Rows
variable {e c:Qt}{A:Qs}{M:Model}{es:J Qt}{g:Z->Z->Z}{body:J T7}
abbrev Key:=Sum Z Qn
def sr:Key->GC->Qo
 |.inl k,v=>Tt k v
 |.inr x,v=>Vy x v
def eV(w:QY):Key->Z
 |.inl k=>hashInt k
 |.inr x=>hashStr w x
theorem cK:∀{k:Key}{v:GC},sr k v=true->(∃i t,k=Rk i/\v=Se i t)\/(∃x t,k=T8 x/\v=UE x t)
 |.inl i,v,h=>by obtain⟨t,e⟩:=PN (k:=i) (v:=v) h;exact .inl ⟨i,t,rfl,e⟩
 |.inr x,v,h=>by obtain⟨t,e⟩:=GC.isStrOf_shape (x:=x) (v:=v) h;exact .inr ⟨x,t,rfl,e⟩
theorem CP(i:Z)(t:VI):sr (.inl i) (.int i t)=true:=by simp[sr,Tt]
theorem CF(x:Qn)(t:VI):sr (.inr x) (.str x t)=true:=by simp[sr,Vy]
theorem JN(a b:Z):decide ((Rk a:Key)=Rk b)=(a==b):=by
 by_cases e:a=b
 .subst e;simp
 .have h:¬ (Rk a:Key)=Rk b:=λq=>e (SQ q)
  rw[P' h];exact (QJ.mpr e).symm
theorem Jf(a b:Qn):decide ((T8 a:Key)=T8 b)=decide (a=b):=by
 by_cases e:a=b
 .subst e;simp
 .have h:¬ (T8 a:Key)=T8 b:=λq=>e (T8.inj q)
  rw[P' h,P' e]
theorem JR(a:Z)(b:Qn):decide ((Rk a:Key)=T8 b)=false:=P' (λq=>nomatch q)
theorem JG(a:Qn)(b:Z):decide ((T8 a:Key)=Rk b)=false:=P' (λq=>nomatch q)
def br(prog:QS)(w:QY):PySem.KeyKind prog w Key where
 is:=sr
 hash:=eV w
 inj:=λv a b ha c=>by
  rcases cK ha with⟨i,t,rfl,rfl⟩|⟨x,t,rfl,rfl⟩
  .rcases cK c with⟨j,u,rfl,e⟩|⟨y,u,rfl,e⟩
   .injection e with e1 _;rw[e1]
   .exact nomatch e
  .rcases cK c with⟨j,u,rfl,e⟩|⟨y,u,rfl,e⟩
   .exact nomatch e
   .injection e with e1 _;rw[e1]
 byValue:=λk v h=>by rcases cK h with⟨i,t,rfl,rfl⟩|⟨x,t,rfl,rfl⟩ <;> rfl
 pyHash:=λhv h=>by
  rcases cK hv with⟨i,t,rfl,rfl⟩|⟨x,t,rfl,rfl⟩
  .exact wpAny_pyHash_int h
  .exact wpAny_pyHash_str h
 eqBool:=λf hv h=>by
  rcases cK f with⟨i,t,rfl,rfl⟩|⟨x,t,rfl,rfl⟩
  .rcases cK hv with⟨j,u,rfl,rfl⟩|⟨y,u,rfl,rfl⟩
   .rw[JN]at h;exact UG h
   .rw[JR]at h;exact U5 i t y u _ _ _ _ h
  .rcases cK hv with⟨j,u,rfl,rfl⟩|⟨y,u,rfl,rfl⟩
   .rw[JG]at h;exact U6 x t j u _ _ _ _ h
   .rw[Jf]at h;exact wpAny_eqBool_str h
 «strs»:=λk x t v h=>by
  rcases cK h with⟨i,u,rfl,e⟩|⟨y,u,rfl,e⟩
  .exact nomatch e
  .injection e with e1 _
   subst e1;cases v <;> rfl
theorem og(prog:QS)(w:QY)(i:Z)(t:VI):(br prog w).is (.inl i) (.int i t)=true:=CP i t
theorem wx(prog:QS)(w:QY)(x:Qn)(t:VI):(br prog w).is (.inr x) (.str x t)=true:=CF x t
inductive V where
 |non|bl (b:Qo)|int (i:Z)|str (x:Qn)|byt (b:QR UInt8)|flt (b:UInt64)|ref (a:J')|ty (n:RI)
 deriving DecidableEq
variable {xs vs:J V}{v:V}
noncomputable def RelV:V->GC->Prop
 |.non,u=>u=Rq
 |.bl b,u=>u=Sz b
 |.int i,u=>∃t,u=Se i t
 |.str x,u=>∃t,u=UE x t
 |.byt b,u=>∃t,u=VV b t
 |.flt b,u=>∃t,u=VW b t
 |.ref a,u=>u=Qw a
 |.ty n,u=>u=SA n
abbrev Vals:J V->J GC->Prop:=Paired RelV
theorem Vals.length(r:Vals xs us):xs.length=us.length:=Paired.length r
theorem Vals.get:∀{xs:J V}{us:J GC}{i:O}{x:V},Vals xs us->xs[i]?=Y x->∃u,us[i]?=Y u/\RelV x u
 |_,_,_,_,.nil,e=>by simp at e
 |_,_,0,_,.cons r _,e=>by simp at e;subst e;exact⟨_,rfl,r⟩
 |_,_,i+1,x,.cons _ t,e=>by obtain⟨u,h1,h2⟩:=Vals.get (i:=i) (x:=x) t (by simpa using e);exact⟨u,by simpa using h1,h2⟩
theorem Vals.set{x:V}{u:GC}(r:RelV x u):∀{xs:J V}{us:J GC}(i:O),Vals xs us->Vals (xs.set i x) (us.set i u)
 |_,_,_,.nil=>.nil
 |_,_,0,.cons _ t=>.cons r t
 |_,_,i+1,.cons q t=>.cons q (Vals.set r i t)
theorem Vals.append{ys:J V}{ws:J GC}(h:Vals xs us)(s:Vals ys ws):Vals (xs++ys) (us++ws):=by
 induction h with
 |nil=>exact s
 |cons r t ih=>exact .cons r ih
theorem Vals.take:∀{xs:J V}{us:J GC}(n:O),Vals xs us->Vals (xs.take n) (us.take n)
 |_,_,0,_=>.nil
 |_,_,_+1,.nil=>.nil
 |_,_,n+1,.cons r t=>.cons r (Vals.take n t)
theorem Vals.drop:∀{xs:J V}{us:J GC}(n:O),Vals xs us->Vals (xs.drop n) (us.drop n)
 |_,_,0,r=>r
 |_,_,_+1,.nil=>.nil
 |_,_,n+1,.cons _ t=>Vals.drop n t
def nA:F1 V->F1 GC->Prop
 |some v,Y u=>RelV v u
 |none,S=>True
 |_,_=>False
def KV{κ:Type}:J (κ×V)->J (κ×GC)->Prop:=Paired λ(p:κ×V)(q:κ×GC)=>p.1=q.1/\RelV p.2 q.2
def kV:Key->V
 |.inl i=>.int i
 |.inr x=>.str x
inductive HO where
 |lst (xs:J V)
 |tup (xs:J V)
 |dK (kvs:J (Key×V))|dT (kvs:J (J Key×V))
 |set (D':Z->Qo) (n:O)
 |ins (C dx:J') (fs:J (Qn×V))
 |own (x:J')
 |xd (fs:J (Qn×V))
 |met (f x:J')
 |rng (lo hi:Z)
 |frz (o:Rv) (u:HO)
 |tbl (q:Qn)
 |ext (φ:QD->Prop)
variable {o:HO}
abbrev Hp:=J'->F1 HO
variable {R:V->V->Hp->Prop}{H:Hp}
noncomputable def upd(H:Hp)(a:J')(o:HO):Hp:=λb=>if b=a then Y o else H b
theorem aM:upd H a o a=Y o:=by unfold upd;rw[HL rfl]
theorem aB(h:b≠a):upd H a o b=H b:=by unfold upd;rw[I' h]
theorem L9{u:HO}(h:H a=Y o)(h':H b=Y u)(d:o≠u):a≠b:=by intro e;subst e;rw[h]at h';exact d (N4 h')
theorem aI(h:H a=Y o)(h':H b=S):a≠b:=by intro e;subst e;rw[h]at h';cases h'
def uh(h:QD)(a:J')(items:QR GC):Prop:=∃o,h.get? a=Y o/\o.cls=.type "tuple"/\o.dict=S/\∃n,o.data=.seq items n
theorem uh.tup(x:uh h a items):UU h a items:=by obtain⟨o,e,c,_,n,d⟩:=x;exact⟨o,e,c,n,d⟩
theorem uh.new(h:QD)(items:QR GC):uh (h.push {cls:=.type "tuple",data:=.seq items}) h.objs.size items:=⟨_,NN _ rfl,rfl,rfl,_,rfl⟩
section
variable (P:QS)(w:QY)
def cC(H:Hp)(h:QD)(a:J'):HO->Prop
 |.lst xs=>xs.length<=sizeLine/\∃(its:J GC)(n:O),Vals xs its/\h.get? a=Y {cls:=.type "list",data:=.seq its.toArray n}
 |.tup xs=>xs.length<=sizeLine/\∃its:J GC,Vals xs its/\uh h a its.toArray
 |.dK kvs=>kvs.length<=sizeLine/\(a==sysModules)=false/\∃vs,KV kvs vs/\h.DictOf (br P w) a vs
 |.dT kvs=>kvs.length<=sizeLine/\(a==sysModules)=false/\∃xs:J (J Key×J'×GC),
  Paired (λ(p:J Key×V)(q:J Key×J'×GC)=>p.1=q.1/\H q.2.1=Y (.tup (p.1.map kV))/\RelV p.2 q.2.2) kvs xs /\
  ∃o es ep,h.get? a=Y o/\o.ExactDict/\o.data=.dict es ep/\es.toList=xs.map (entryOfKey (tupleKind (br P w)))/\(xs.map (·.1)).Nodup
 |.set D' n=>h.SetOf (intKind P w) a D' n
 |.ins C dx fs=>H dx=Y (.own a)/\fs.length<=1000/\dx≠a/\h.get? a=Y (Sf C dx) /\
  ∃mA,h.Ns1 dx mA/\(∀f,nA (fs.lookup f) (mA f))/\PySem.Within mA (fs.map (·.1))
 |.own _=>∃o,h.get? a=Y o
 |.xd fs=>∃mA,h.Ns1 a mA/\∀f,nA (fs.lookup f) (mA f)
 |.rng lo hi=>∃t u v,h.get? a=Y {cls:=.type "range",data:=.fields #[.int lo t,.int hi u,.int 1 v]}
 |.frz o u=>h.get? a=Y o/\cC H h a u
 |.tbl q=>∃ps:QR GC,h.get? a=Y {cls:=.none,data:=.fields ps}/\Rc ps.toList/\∀pos b,codeAmong pos ps.toList=Y b->∃c' o vs t,b=.ref c'/\H c'=Y (.frz o (.own c'))/\o.data=.fields vs/\vs[1]?=Y (.str q t)
 |.met f x=>h.get? a=Y (UW (.ref f) (.ref x))
 |.ext φ=>φ h/\(∃o,h.get? a=Y o)/\∀h1 h2:QD,φ h1->(∀o,h1.get? a=Y o->h2.get? a=Y o)->φ h2
def HOk(H:Hp)(h:QD):Prop:=∀a o,H a=Y o->cC P w H h a o
end
section
variable {H':Hp}
theorem cC.lt(x:cC P w H h a o):a<h.objs.size:=by
 cases o with
 |lst xs=>obtain⟨_,_,_,_,e⟩:=x;exact NI e
 |tup xs=>obtain⟨_,_,_,p⟩:=x;exact p.tup.lt
 |dK kvs=>obtain⟨_,_,_,_,o,_,_,e,_⟩:=x;exact NI e
 |dT kvs=>obtain⟨_,_,_,_,o,_,_,e,_⟩:=x;exact NI e
 |set D' n=>obtain⟨o,_,_,_,e,_⟩:=x;exact NI e
 |ins C dx fs=>obtain⟨_,_,_,e,_⟩:=x;exact NI e
 |own y=>obtain⟨_,e⟩:=x;exact NI e
 |xd fs=>obtain⟨_,⟨_,_,_,e,_⟩,_⟩:=x;exact NI e
 |rng lo hi=>obtain⟨_,_,_,e⟩:=x;exact NI e
 |frz ob u=>obtain⟨e,_⟩:=x;exact NI e
 |tbl q=>obtain⟨_,e,_⟩:=x;exact NI e
 |met f y=>exact NI (show h.get? a=Y _ from x)
 |ext φ=>obtain⟨_,⟨_,e⟩,_⟩:=x;exact NI e
theorem Paired.mapP{F G:α->β->Prop}{c:J α}{e:J β}(h:Paired F c e)(f:∀a b,F a b->G a b):Paired G c e:=by
 induction h with
 |nil=>exact .nil
 |cons r t ih=>exact .cons (f _ _ r) ih
theorem cC.stay(x:cC P w H h a o)(k:∀b u,(b=a\/H b=Y (.own a))->h.get? b=Y u->h'.get? b=Y u)
  (g:∀b,H b=Y (.own a)->H' b=Y (.own a)) (i:∀b xs,H b=Y (.tup xs)->H' b=Y (.tup xs)) (j:∀b o u,H b=Y (.frz o u)->H' b=Y (.frz o u):=by exact λ_ _ _ q=>q):cC P w H' h' a o:=by
 induction o with
 |lst xs=>obtain⟨z,its,n,r,e⟩:=x;exact⟨z,its,n,r,k _ _ (.inl rfl) e⟩
 |tup xs=>obtain⟨z,its,r,ob,e,c⟩:=x;exact⟨z,its,r,ob,k _ _ (.inl rfl) e,c⟩
 |dK kvs=>obtain⟨z,y,vs,r,ob,es,ep,e,c⟩:=x;exact⟨z,y,vs,r,ob,es,ep,k _ _ (.inl rfl) e,c⟩
 |dT kvs =>obtain⟨z,y,xs,r,ob,es,ep,e,c⟩:=x;exact⟨z,y,xs,Paired.mapP r λp q z=>⟨z.1,i _ _ z.2.1,z.2.2⟩,ob,es,ep,k _ _ (.inl rfl) e,c⟩
 |set D' n=>obtain⟨ob,es,ep,t,e,c⟩:=x;exact⟨ob,es,ep,t,k _ _ (.inl rfl) e,c⟩
 |ins C dx fs =>obtain⟨d,z,ne,e,mA,⟨od,es,ep,e2,c⟩,r⟩:=x;exact⟨g _ d,z,ne,k _ _ (.inl rfl) e,mA,⟨od,es,ep,k _ _ (.inr d) e2,c⟩,r⟩
 |own y=>obtain⟨ob,e⟩:=x;exact⟨ob,k _ _ (.inl rfl) e⟩
 |xd fs=>obtain⟨mA,⟨od,es,ep,e,c⟩,r⟩:=x;exact⟨mA,⟨od,es,ep,k _ _ (.inl rfl) e,c⟩,r⟩
 |rng lo hi=>obtain⟨t,u,v,e⟩:=x;exact⟨t,u,v,k _ _ (.inl rfl) e⟩
 |frz ob u ih=>obtain⟨e,q⟩:=x;exact⟨k _ _ (.inl rfl) e,ih q⟩
 |tbl q =>obtain⟨ps,e,t,c⟩:=x;exact⟨ps,k a _ (.inl rfl) e,t,λpos l z=>by obtain⟨c',o,vs,t',e1,e2,m⟩:=c pos l z;exact⟨c',o,vs,t',e1,j _ _ _ e2,m⟩⟩
 |met f y =>have e:h.get? a=Y (UW (.ref f) (.ref y)):=x;show h'.get? a=Y (UW (.ref f) (.ref y));exact k a _ (.inl rfl) e
 |ext φ=>obtain⟨p,⟨o,e⟩,st⟩:=x;exact⟨st _ _ p λo q=>k _ _ (.inl rfl) q,⟨o,k _ _ (.inl rfl) e⟩,st⟩
theorem HOk.lt(x:HOk P w H h)(e:H a=Y o):a<h.objs.size:=(x a o e).lt
theorem HOk.fresh(x:HOk P w H h)(e:h.objs.size<=a):H a=none:=by
 cases q:H a with
 |none=>rfl
 |some u=>exact Qr (NX (x.lt q) e) (OQ _)
theorem HOk.kept(x:HOk P w H h)(k:∀b u,h.get? b=Y u->h'.get? b=Y u):HOk P w H h':=λa o e =>
 (x a o e).stay (λb u _ q=>k b u q) (λ_ q=>q) λ_ _ q=>q
theorem HOk.laid(x:HOk P w H h)(k:∀b u,h.get? b=Y u->h'.get? b=Y u)(hp:h.objs.size<=a)(new:cC P w (upd H a o) h' a o):HOk P w (upd H a o) h':=λb u e=>by
 have hn:=x.fresh hp;by_cases hb:b=a
 .subst hb;rw[aM]at e;cases e;exact new
 .rw[aB hb]at e;exact (x b u e).stay (λc v _ q=>k c v q) (λc q=>by rw[aB (aI q hn)];exact q) (λc xs q=>by rw[aB (aI q hn)];exact q) λc ob w' q=>by rw[aB (aI q hn)];exact q
end
def Rd(H:Hp)(a:J')(u:HO):Prop:=H a=Y u\/∃o,H a=Y (.frz o u)
theorem Rd.ok{u:HO}(r:Rd H a u)(x:HOk P w H h):cC P w H h a u:=by
 rcases r with r|⟨o,r⟩
 .exact x a u r
 .obtain⟨_,q⟩:=x a _ r;exact q
def Mut:F1 HO->Prop
 |some (.lst _)=>True
 |some (.dK _)=>True
 |some (.dT _)=>True
 |some (.set _ _)=>True
 |some (.ins _ _ _)=>True
 |some (.ext _)=>True
 |_=>False
section
variable {x e:J'}{o':HO}
theorem HOk.write(ok:HOk P w H h)(f:Mut (H x))(l:e=x\/H e=Y (.own x))(k:∀b u,b≠e->h.get? b=Y u->h'.get? b=Y u)(j:∃u,h'.get? e=Y u)
  (new:cC P w (upd H x o') h' x o'):HOk P w (upd H x o') h':=λb u q=>by
 have a:∀c y,H c=Y (.own y)->c≠x:=λc y r z=>by subst z;rw[r]at f;exact f
 have g:∀c xs,H c=Y (.tup xs)->c≠x:=λc xs r z=>by subst z;rw[r]at f;exact f
 have i:∀c o u,H c=Y (.frz o u)->c≠x:=λc o u r z=>by subst z;rw[r]at f;exact f
 by_cases hb:b=x
 .subst hb;rw[aM]at q;cases q;exact new
 .rw[aB hb]at q;by_cases hbe:b=e
  .have m:H b=Y (.own x):=by
    rcases l with z|z
    .exact Qr (hbe.trans z) hb
    .rw[hbe];exact z
   rw[q]at m;cases m;obtain⟨v,hv⟩:=j;exact⟨v,by rw[hbe];exact hv⟩
  .refine (ok b u q).stay (λc v hc r=>k c v ?_ r) (λc r=>by rw[aB (a c b r)];exact r) (λc xs r=>by rw[aB (g c xs r)];exact r) λc o n r=>by rw[aB (i c o n r)];exact r
   rcases hc with rfl|hc
   .exact hbe
   .rintro rfl
    rcases l with z|z
    .exact a c b hc z
    .rw[hc]at z;cases z;exact hb rfl
end
structure Un(fs ex:J J')(H H':Hp)(h h':QD):Prop where
 keep:∀b o,h.get? b=Y o->H b=S->b∉fs->b∉ex->h'.get? b=Y o
 slot:∀b o,h.get? b=Y o->H b=S->b∈fs->b∉ex->∃sl,h'.get? b=Y {o with slots:=sl}
 free:∀b o,h.get? b=Y o->H b=S->b∉ex->H' b=S
 there:∀b o,h.get? b=Y o->b∉ex->∃o',h'.get? b=Y o'
 tups:∀b xs,H b=Y (.tup xs)->H' b=Y (.tup xs)
 frzs:∀b o u,H b=Y (.frz o u)->H' b=Y (.frz o u)
 tbls:∀b q,H b=Y (.tbl q)->H' b=Y (.tbl q)
section
variable {fs fs' ex ex':J J'}{H1 H2:Hp}{h1 h2:QD}{x e:J'}
theorem Un.any(u:Un fs ex H H1 h h1)(q:h.get? b=Y ob)(n:H b=S)(a:b∉ex):∃c,h1.get? b=Y {ob with slots:=c}:=by
 by_cases hb:b∈fs
 .exact u.slot b ob q n hb a
 .exact⟨ob.slots,u.keep b ob q n hb a⟩
theorem Un.kept(k:∀b u,h.get? b=Y u->h'.get? b=Y u):Un fs ex H H h h' :=
 ⟨λb ob q _ _ _=>k b ob q,λb ob q _ _ _=>⟨ob.slots,k b ob q⟩,λ_ _ _ n _=>n,λb ob q _=>⟨ob,k b ob q⟩,λ_ _ q=>q,λ_ _ _ q=>q,λ_ _ q=>q⟩
theorem Un.refl:Un fs ex H H h h:=Un.kept λ_ _ q=>q
theorem Un.laid(k:∀b u,h.get? b=Y u->h'.get? b=Y u)(hp:h.objs.size<=a)(hn:H a=S):Un fs ex H (upd H a o) h h' where
 keep:=λb u q _ _ _=>k b u q
 slot:=λb u q _ _ _=>⟨u.slots,k b u q⟩
 free:=λb u q n _=>by rw[aB (NJ (NX (NI q) hp))];exact n
 there:=λb u q _=>⟨u,k b u q⟩
 tups:=λb xs q=>by rw[aB (aI q hn)];exact q
 frzs:=λb u xs q=>by rw[aB (aI q hn)];exact q
 tbls:=λb ps q=>by rw[aB (aI q hn)];exact q
theorem Un.write(a:Mut (H x))(i:e=x\/H e=Y (.own x))(k:∀b u,b≠e->h.get? b=Y u->h'.get? b=Y u)(c:∃u,h'.get? e=Y u):Un fs ex H (upd H x o) h h':=by
 have f:∀b,H b=S->b≠x:=λb n z=>by subst z;rw[n]at a;exact a
 have g:∀b,H b=S->b≠e:=λb n z=>by
  subst z;rcases i with r|r
  .exact f b n r
  .rw[n]at r;cases r
 have hm:∀b u,H b=Y u->¬ Mut (Y u)->b≠x:=λb u q nm z=>by subst z;rw[q]at a;exact nm a
 refine⟨λb u q n _ _=>k b u (g b n) q,λb u q n _ _=>⟨u.slots,k b u (g b n) q⟩,λb u q n _=>by rw[aB (f b n)];exact n,λb u q _=>?_,
  λb xs q=>by rw[aB (hm b _ q λz=>z)];exact q,λb u xs q=>by rw[aB (hm b _ q λz=>z)];exact q,λb ps q=>by rw[aB (hm b _ q λz=>z)];exact q⟩
 by_cases hbe:b=e
 .subst hbe;exact c
 .exact⟨u,k b u hbe q⟩
end
def trk(h:QD)(H:Hp):J Addr:=(M' h.objs.size).filter λa=>(H a).isSome
def rq(h:QD)(H:Hp):Heap:=W.hideAll h (trk h H)
theorem BN(h:QD)(H:Hp):(rq h H).objs.size=h.objs.size:=W.hideAll_size _ _
theorem EG{o:Rv}(e:h.get? b=Y o)(n:H b=S):(rq h H).get? b=Y o :=
 SV _ e λhm=>by have q:(H b).isSome=true:=(NK.mp hm).2;rw[n]at q;simp at q
theorem GF{o:Rv}(e:(rq h H).get? b=Y o):h.get? b=Y o/\H b=none:=by
 have a:h.get? b=Y o:=VJ (trk h H) e;refine⟨a,?_⟩;cases q:H b with
 |none=>rfl
 |some x =>have hm:b∈trk h H:=NK.mpr ⟨Of.mpr (NI a),by simp[q]⟩;have z:(rq h H).get? b=none:=W.hideAll_none (trk h H) hm;rw[z]at e;cases e
structure Mod(K:Qp)(mg:Qn->F1 GC)(base:QD):Prop where
 kin:K.In base
 glob:base.Ns mainGlobals mg
 blt:∃mb,base.Ns builtinsNs mb/\∀x:Qn,x≠"__name__"->mb x=bootBuiltins x
 nolimit:base.NoLimit
def ml:J Str:=["worst_run"]
def TabOf(K:Qp)(P:J')(q:Qn):Prop:=∃x∈ml,∃f oc od fd a c,Vi K mainGlobals x=Y (Y (.ref f))/\K.lookup f=Y ⟨oc,od,.func fd,a⟩/\fd.code=.ref c/\(∃o vs,K.lookup c=Y o/\o.data=.fields vs/\vs[11]?=Y (.ref P))/\q=x++".<locals>.<lambda>"
structure Cx where
 prog:QS
 w:QY
 K:Qp
 mg:Qn->F1 GC
 base:QD
 A:Qs
 N:J Qn
 s₀:LN
 H₀:Hp
 env:V1
 outer:J V1
 stack:J V1
 ex:J J'
 fn:Qn->Qo
 calm:Qo
 pn:J (J'×Rv)
 xe:GC->LN->Prop
variable {X:Cx}
def frs(l:J V1):J Addr:=l.filterMap (·.frame)
abbrev Cx.fs(X:Cx):J Addr:=frs X.outer
def Vis(sc:SO)(x:Qn):Prop:=sc.names.lookup x=Y .local\/sc.names.lookup x=Y .cell\/sc.names.lookup x=Y .free
def Loc(sc:SO)(x:Qn):Prop:=sc.names.lookup x=Y .local\/sc.names.lookup x=Y .cell
def Look(env:V1)(h:QD)(m:Qn->F1 GC)(x:Qn)(u:GC):Prop :=
 (env.kindOf x=Y .local/\m x=Y u)\/((env.kindOf x=Y .cell\/env.kindOf x=Y .free)/\∃c,env.cells.lookup x=Y c/\h.IsCell c (Y u))
structure Cx.Ok(X:Cx):Prop where
 mod:Mod X.K X.mg X.base
 kind:X.env.scope.kind=.function
 glob:X.env.globals=mainGlobals
 blt:X.env.builtins=builtinsNs
 above:X.s₀.heap.objs.size<=X.env.locals
 inj:∀x y c,X.env.cells.lookup x=Y c->X.env.cells.lookup y=Y c->x=y
 has:∀x,(X.env.kindOf x=Y .cell\/X.env.kindOf x=Y .free)->∃c,X.env.cells.lookup x=Y c
 cab:∀x c,X.fn x=true->X.env.cells.lookup x=Y c->X.s₀.heap.objs.size<=c
 hd:X.calm=true->X.A.handled=S
 frames:X.A.frames=Y X.stack
 stk:X.stack=X.outer\/(X.stack=X.env::X.outer/\X.env.frame=Y X.env.locals)
 exf:∀b∈X.ex,b≠X.env.locals/\∀x c,X.env.cells.lookup x=Y c->c≠b
 bs:∀b o,X.base.get? b=Y o->X.s₀.heap.get? b=Y o/\X.H₀ b=S
 bsz:X.base.objs.size<=X.s₀.heap.objs.size
 noex:∀b o,X.base.get? b=Y o->b∉X.ex
 exfs:∀b∈X.ex,b∉X.fs
 funs:X.s₀.heap.FunFrames X.base X.outer
 frf:∀b∈X.fs,X.H₀ b=S
structure Inv(X:Cx)(z8:J (J'×Rv))(σ:J (F1 V))(H:Hp)(s:LN):Prop where
 ok:X.Ok
 os:s.os=X.s₀.os
 bare:Sv s.gens
 base:Un X.fs X.ex X.H₀ H X.s₀.heap s.heap
 loc:∃m,s.heap.Ns X.env.locals m/\∀(i:O)(x:Qn)(v:V),X.N[i]?=Y x->σ[i]?=Y (Y v)->Vis X.env.scope x->∃u,RelV v u/\Look X.env s.heap m x u
 cell:∀x c,X.env.cells.lookup x=Y c->∃v,s.heap.IsCell c v
 free:H X.env.locals=S
 freeC:∀x c,X.env.cells.lookup x=Y c->H c=S
 pin:∀p∈X.pn++z8,s.heap.get? p.1=Y p.2/\H p.1=S/\p.1≠X.env.locals/\p.1∉X.fs/\∀v,p.2.data≠.cell v
 hok:HOk X.prog X.w H s.heap
 len:σ.length=X.N.length
 tab:∀P q,TabOf X.K P q->H P=Y (.tbl q)
section
variable {σ:J (F1 V)}{H':Hp}
theorem Cx.Ok.nofr(ok:X.Ok){o:Rv}(e:X.base.get? b=Y o):b∉X.fs:=λa=>by have:=(ok.funs.mem a).1;rw[e]at this;cases this
theorem Inv.bs(I:Inv X z8 σ H s):∀b o,X.base.get? b=Y o->s.heap.get? b=Y o/\H b=none:=λb o e =>
 ⟨I.base.keep b o (I.ok.bs b o e).1 (I.ok.bs b o e).2 (I.ok.nofr e) (I.ok.noex b o e),I.base.free b o (I.ok.bs b o e).1 (I.ok.bs b o e).2 (I.ok.noex b o e)⟩
theorem Inv.bk(I:Inv X z8 σ H s):∀b o,X.base.get? b=Y o->s.heap.get? b=Y o:=λb o e=>(I.bs b o e).1
theorem Inv.mod(I:Inv X z8 σ H s):Mod X.K X.mg X.base:=I.ok.mod
theorem Inv.kIn(I:Inv X z8 σ H s):X.K.In s.heap:=I.ok.mod.kin.keeps I.bk
theorem Inv.lt(I:Inv X z8 σ H s):X.env.locals<s.heap.objs.size:=let ⟨_,hn,_⟩:=I.loc;hn.lt
theorem Inv.sz(I:Inv X z8 σ H s):X.s₀.heap.objs.size<=s.heap.objs.size:=OG I.ok.above (Q0 I.lt)
theorem Inv.nofs(I:Inv X z8 σ H s)(h:s.heap.objs.size<=a):a∉X.fs:=λb=>by obtain⟨_,o,c,_⟩:=I.ok.funs.mem b;exact Qr (NX (NI c) (OG I.sz h)) (OQ _)
theorem Inv.cne(I:Inv X z8 σ H s):∀x c,X.env.cells.lookup x=Y c->c≠X.env.locals:=λx c e z=>by obtain⟨v,o,f,hd⟩:=I.cell x c e;obtain⟨m,⟨o',es,ep,a,b,_⟩,_⟩:=I.loc;rw[z,a]at f;cases f;rw[b]at hd;cases hd
theorem Inv.funs(I:Inv X z8 σ H s):s.heap.FunFrames X.base X.outer:=by
 have all:∀(l:J V1),(∀b∈frs l,b∈X.fs)->X.s₀.heap.FunFrames X.base l->s.heap.FunFrames X.base l:=by
  intro l
  induction l with
  |nil=>intro _ _;trivial
  |cons env r ih =>
   intro f hl;obtain⟨g,⟨Dd,o,a,hn,h,hd⟩,i⟩:=hl;have hL:Dd∈X.fs:=f Dd (by unfold frs;rw[Pz,a];exact N1);obtain⟨sl,e⟩:=I.base.slot Dd o h (I.ok.frf Dd hL) hL λz=>I.ok.exfs Dd z hL
   exact⟨g,⟨Dd,_,a,hn,e,hd⟩,ih (λb c=>f b (by unfold frs;rw[Pz,a];exact N0 _ c)) i⟩
 exact all X.outer (λ_ c=>c) I.ok.funs
theorem Inv.stack(I:Inv X z8 σ H s):s.heap.FunFrames X.base X.stack:=by
 rcases I.ok.stk with e|⟨e,a⟩
 .rw[e];exact I.funs
 .rw[e];obtain⟨m,hn,_⟩:=I.loc;refine .cons (by rw[I.ok.kind];decide) a hn ?_ I.funs;exact QD.get?_none_of_le (OG I.ok.bsz I.ok.above)
theorem Inv.stkSub(I:Inv X z8 σ H s):∀b∈frs X.stack,b∈X.env.locals::X.fs:=λb a=>by
 rcases I.ok.stk with e|⟨e,c⟩
 .rw[e]at a;exact N0 _ a
 .rw[e]at a;unfold frs at a;rw[Pz,c]at a;exact a
theorem Inv.stkFree(I:Inv X z8 σ H s):∀b∈frs X.stack,H b=none:=λb a=>by
 rcases NB.mp (I.stkSub b a) with e|a
 .rw[e];exact I.free
 .obtain⟨_,o,c,_⟩:=I.ok.funs.mem a;exact I.base.free b o c (I.ok.frf b a) λz=>I.ok.exfs b z a
theorem Inv.step{t':O}{d':Drawn}{ch:J J'}(I:Inv X z8 σ H s)
  (f:∀b∈ch,(b∈X.ex\/X.s₀.heap.objs.size<=b)/\b≠X.env.locals/\(∀x c,X.env.cells.lookup x=Y c->c≠b)/\∀p∈X.pn++z8,p.1≠b)
  (keep:∀b o,b≠X.env.locals->b∉X.fs->b∉ch->s.heap.get? b=Y o->H b=S->h'.get? b=Y o)
  (slot:∀b o,b≠X.env.locals->b∈X.fs->b∉ch->s.heap.get? b=Y o->H b=S->∃B,h'.get? b=Y {o with slots:=B}) (free:∀b o,b∉ch->s.heap.get? b=Y o->H b=S->H' b=S)
  (there:∀b o,b∉ch->s.heap.get? b=Y o->∃o',h'.get? b=Y o')
  (tups:∀b xs,H b=Y (.tup xs)->H' b=Y (.tup xs)) (frzs:∀b o u,H b=Y (.frz o u)->H' b=Y (.frz o u)) (tbls:∀b q,H b=Y (.tbl q)->H' b=Y (.tbl q))
  (ns:∀m,s.heap.Ns X.env.locals m->h'.Ns X.env.locals m) (hok:HOk X.prog X.w H' h') (F:Sv g') :
  Inv X z8 σ H' {s with heap:=h',gens:=g',drawn:=d',toks:=t'}:=by
 have A:∀b o,X.s₀.heap.get? b=Y o->b≠X.env.locals:=λb o e=>NJ (NX (NI e) I.ok.above)
 have h:∀b o,X.s₀.heap.get? b=Y o->b∉X.ex->b∉ch:=λb o e a j=>by
  rcases (f b j).1 with z|z
  .exact a z
  .exact Qr (NX (NI e) z) (OQ _)
 have cellK:∀x c,X.env.cells.lookup x=Y c->∀v,s.heap.IsCell c v->h'.IsCell c v:=λx c e v C=>by
  obtain⟨o,y,hd⟩:=C;have g:c∉ch:=λz=>(f c z).2.2.1 x c e rfl
  by_cases hc:c∈X.fs
  .obtain⟨B,q⟩:=slot c o (I.cne x c e) hc g y (I.freeC x c e);exact⟨_,q,hd⟩
  .exact⟨o,keep c o (I.cne x c e) hc g y (I.freeC x c e),hd⟩
 refine⟨I.ok,I.os,F,⟨λb o e n j a=>?_,λb o e n j a=>?_,λb o e n a=>?_,λb o e a=>?_,λb xs e=>tups b xs (I.base.tups b xs e),λb o xs e=>frzs b o xs (I.base.frzs b o xs e),λb ps e=>?_⟩,?_,λx c e=>?_,?_,λx c e=>?_,λp hp=>?_,hok,I.len,λP q t=>tbls P q (I.tab P q t)⟩
 .exact keep b o (A b o e) j (h b o e a) (I.base.keep b o e n j a) (I.base.free b o e n a)
 .obtain⟨B,e1⟩:=I.base.slot b o e n j a;obtain⟨D,e2⟩:=slot b _ (A b o e) j (h b o e a) e1 (I.base.free b o e n a);exact⟨D,e2⟩
 .obtain⟨o',e1⟩:=I.base.there b o e a;exact free b o' (h b o e a) e1 (I.base.free b o e n a)
 .obtain⟨o',e1⟩:=I.base.there b o e a;exact there b o' (h b o e a) e1
 .exact tbls b _ (I.base.tbls b ps e)
 .obtain⟨m,hn,hl⟩:=I.loc;refine⟨m,ns m hn,λi x v e1 e2 G=>?_⟩;obtain⟨u,r,l⟩:=hl i x v e1 e2 G;refine⟨u,r,?_⟩;rcases l with l|⟨k,c,e,z⟩
  .exact .inl l
  .exact .inr ⟨k,c,e,cellK x c e _ z⟩
 .obtain⟨v,z⟩:=I.cell x c e;exact⟨v,cellK x c e v z⟩
 .obtain⟨m,⟨o,_,_,y,_⟩,_⟩:=I.loc;exact free _ o (λz=>(f _ z).2.1 rfl) y I.free
 .obtain⟨v,o,y,hd⟩:=I.cell x c e;exact free c o (λz=>(f c z).2.2.1 x c e rfl) y (I.freeC x c e)
 .obtain⟨e,n,ne,E,d⟩:=I.pin p hp;have g:p.1∉ch:=λz=>(f p.1 z).2.2.2 p hp rfl
  exact⟨keep p.1 p.2 ne E g e n,free p.1 p.2 g e n,ne,E,d⟩
theorem Inv.un{t':O}(I:Inv X z8 σ H s)(u:Un X.fs [] H H' s.heap h')(hok:HOk X.prog X.w H' h'):Inv X z8 σ H' {s with heap:=h',toks:=t'}:=by obtain⟨m,⟨o,es,ep,h,r⟩,_⟩:=id I.loc;obtain⟨sl,hL⟩:=u.any h I.free #[2];exact I.step (g':=s.gens) (d':=s.drawn) (ch:=[]) (λ_ z=>nomatch z) (λb o _ c _ e n=>u.keep b o e n c #[2]) (λb o _ c _ e n=>u.slot b o e n c #[2]) (λb o _ e n=>u.free b o e n #[2]) (λb o _ e=>u.there b o e #[2]) u.tups u.frzs u.tbls (λm' hm=>by obtain⟨o',f,g,a,i⟩:=hm;rw[h]at a;cases a;exact⟨_,f,g,hL,i⟩) hok I.bare
theorem Inv.call{t':O}{d':Drawn}{ch:J J'}(I:Inv X z8 σ H s)(u:Un (frs X.stack) ch H H' s.heap h')(hok:HOk X.prog X.w H' h')(j:Sv g')
  (a:∀b∈ch,(b∈X.ex\/X.s₀.heap.objs.size<=b)/\b≠X.env.locals/\(∀x c,X.env.cells.lookup x=Y c->c≠b)/\∀p∈X.pn++z8,p.1≠b) :
  Inv X z8 σ H' {s with heap:=h',gens:=g',drawn:=d',toks:=t'}:=by
 obtain⟨m,⟨o,es,ep,i,r⟩,_⟩:=id I.loc;obtain⟨sl,hL⟩:=u.any i I.free λz=>(a _ z).2.1 rfl
 exact I.step (ch:=ch) a (λb o hL l hc e n=>u.keep b o e n (λz=>(NB.mp (I.stkSub b z)).elim hL l) hc) (λb o _ _ hc e n=>u.any e n hc) (λb o hc e n=>u.free b o e n hc) (λb o hc e=>u.there b o e hc) u.tups u.frzs u.tbls (λm' hm=>by obtain⟨o',g,h,f,q⟩:=hm;rw[i]at f;cases f;exact⟨_,g,h,hL,q⟩) hok j
theorem Inv.turned{t':O}(I:Inv X z8 σ H s)(k:∀b o,b≠it->s.heap.get? b=Y o->h'.get? b=Y o)(hn:H it=S)(hL:it≠X.env.locals)
  (h1:it∈X.ex\/X.s₀.heap.objs.size<=it) (h2:∀x c,X.env.cells.lookup x=Y c->c≠it) (f:∀p∈X.pn++z8,p.1≠it):Inv X z8 σ H {s with heap:=h',toks:=t'}:=by
 have a:∀b u,H b=Y u->b≠it:=λb u e z=>by rw[z,hn]at e;cases e
 refine I.step (g':=s.gens) (d':=s.drawn) (ch:=[it]) (λb g=>?_) (λb o _ _ hc e _=>k b o (λz=>hc (by simp[z])) e) (λb o _ _ hc e _=>⟨o.slots,k b o (λz=>hc (by simp[z])) e⟩) (λ_ _ _ _ n=>n)
  (λb o hc e=>⟨o,k b o (λz=>hc (by simp[z])) e⟩) (λ_ _ e=>e) (λ_ _ _ e=>e) (λb ps e=>e) (λm hm=>?_) (λb u e=>?_) I.bare
 .have e:b=it:=by simpa using g
  subst e;exact⟨h1,hL,h2,f⟩
 .obtain⟨o,es,ep,h,r⟩:=hm;exact⟨o,es,ep,k _ o (Rm hL) h,r⟩
 .refine (I.hok b u e).stay (λc v hc q=>k c v ?_ q) (λ_ q=>q) λ_ _ q=>q
  rcases hc with z|z
  .rw[z];exact a b u e
  .exact a c _ z
theorem Inv.tok(I:Inv X z8 σ H s)(t:O):Inv X z8 σ H {s with toks:=t}:=I.un (h':=s.heap) (t':=t) Un.refl I.hok
theorem Inv.kept{t':O}(I:Inv X z8 σ H s)(k:∀b u,s.heap.get? b=Y u->h'.get? b=Y u):Inv X z8 σ H {s with heap:=h',toks:=t'}:=I.un (Un.kept k) (I.hok.kept k)
theorem Inv.laid{t':O}(I:Inv X z8 σ H s)(k:∀b u,s.heap.get? b=Y u->h'.get? b=Y u)(hp:s.heap.objs.size<=a)(new:cC X.prog X.w (upd H a o) h' a o) :
 Inv X z8 σ (upd H a o) {s with heap:=h',toks:=t'}:=I.un (Un.laid k hp (I.hok.fresh hp)) (I.hok.laid k hp new)
theorem Inv.write{x e:J'}{t':O}(I:Inv X z8 σ H s)(c:Mut (H x))(f:e=x\/H e=Y (.own x))(k:∀b u,b≠e->s.heap.get? b=Y u->h'.get? b=Y u)(a:∃u,h'.get? e=Y u)
 (new:cC X.prog X.w (upd H x o) h' x o):Inv X z8 σ (upd H x o) {s with heap:=h',toks:=t'}:=I.un (Un.write c f k a) (I.hok.write c f k a new)
theorem Inv.pins_of{pins':J (J'×Rv)}(I:Inv X z8 σ H s)(h:∀p∈pins',s.heap.get? p.1=Y p.2/\H p.1=S/\p.1≠X.env.locals/\p.1∉X.fs/\∀v,p.2.data≠.cell v):Inv X pins' σ H s :=
 ⟨I.ok,I.os,I.bare,I.base,I.loc,I.cell,I.free,I.freeC,λp hp=>(NZ.mp hp).elim (λz=>I.pin p (O1 _ z)) (h p),I.hok,I.len,I.tab⟩
theorem vI(c:N.Nodup){j:O}(a:N[i]?=Y x)(b:N[j]?=Y x):i=j:=by obtain⟨h1,e1⟩:=NC.mp a;obtain⟨h2,e2⟩:=NC.mp b;exact (UH c).mp (e1.trans e2.symm)
theorem sC{Q:Vz->LN->Prop}(I:Inv X z8 σ H s)(A2:X.N.Nodup)(hi:X.N[i]?=Y x)(g:Loc X.env.scope x)(r:RelV v u)
  (h:∀s',Inv X z8 (σ.set i (Y v)) H s'->(∃a,R0 a s.heap s'.heap/\(a=X.env.locals\/X.env.cells.lookup x=Y a))->Q () s') (hf:X.fn x=true\/X.env.scope.names.lookup x=Y .local:=by first|exact .inl rfl|exact .inr rfl|assumption):wpAny M A (storeName X.env x u) Q E s:=by
 obtain⟨m,hn,hl⟩:=id I.loc;have F:(X.env.scope.kind==.class||(X.env.scope.kind==.module&&X.env.locals != X.env.globals))=false:=by rw[I.ok.kind];rfl
 have t:i<σ.length:=by rw[I.len];exact (NC.mp hi).1
 have cne:=I.cne;have tracked:∀{a:J'}{h':QD},(∃o,s.heap.get? a=Y o/\H a=S)->R0 a s.heap h'->HOk X.prog X.w H h':=λ{a h'} ha f b ob e=>by
  obtain⟨_,_,l⟩:=ha;refine (I.hok b ob e).stay (λc Dd hc q=>(f.2 c ?_).trans q) (λ_ q=>q) λ_ _ q=>q
  rintro rfl
  rcases hc with rfl|hc
  .rw[l]at e;cases e
  .rw[l]at hc;cases hc
 rcases g with B|B
 .refine wpAny_storeName_local B hn (λh' EE f=>?_) F;obtain⟨oL,_,_,P,_⟩:=id hn;refine h _ ⟨I.ok,I.os,I.bare,⟨λb o e n C g=>?_,λb o e n C g=>?_,I.base.free,λb o e g=>?_,I.base.tups,I.base.frzs,I.base.tbls⟩,⟨_,EE,λj y R e1 e2 D'=>?_⟩,λy c e=>?_,I.free,I.freeC,λp hp=>?_,tracked ⟨oL,P,I.free⟩ f,by simpa using I.len,I.tab⟩ ⟨_,f,.inl rfl⟩
  .exact (f.2 b (NJ (NX (NI e) I.ok.above))).trans (I.base.keep b o e n C g)
  .obtain⟨T,e1⟩:=I.base.slot b o e n C g;exact⟨T,(f.2 b (NJ (NX (NI e) I.ok.above))).trans e1⟩
  .obtain⟨o',e1⟩:=I.base.there b o e g;exact⟨o',(f.2 b (NJ (NX (NI e) I.ok.above))).trans e1⟩
  .by_cases hj:j=i
   .subst hj;rw[hi]at e1;cases e1;rw[O4 t]at e2;cases e2;exact⟨u,r,.inl ⟨B,by simp⟩⟩
   .rw[NW (Rm hj)]at e2;obtain⟨U,W,q⟩:=hl j y R e1 e2 D';refine⟨U,W,?_⟩;rcases q with⟨k,e⟩|⟨k,c,e,z⟩
    .refine .inl ⟨k,?_⟩;have:y≠x:=λe=>hj (vI A2 e1 (e▸hi))
     simp[this,e]
    .exact .inr ⟨k,c,e,z.sameBut f (cne y c e)⟩
  .obtain⟨Dd,z⟩:=I.cell y c e;exact⟨Dd,z.sameBut f (cne y c e)⟩
  .obtain⟨e,n,ne,A4,d⟩:=I.pin p hp;exact⟨(f.2 p.1 ne).trans e,n,ne,A4,d⟩
 .have D:X.fn x=true:=by
   rcases hf with z|z
   .exact z
   .rw[z]at B;cases B
  obtain⟨c,hc⟩:=I.ok.has x (.inl B);obtain⟨Dd,z⟩:=I.cell x c hc;refine wpAny_storeName_cell I.ok.kind B hc z (λh' G f=>?_);obtain⟨oc,B',K⟩:=id z;refine h {s with heap:=h'} ⟨I.ok,I.os,I.bare,⟨λb o e n C g=>?_,λb o e n C g=>?_,I.base.free,λb o e g=>?_,I.base.tups,I.base.frzs,I.base.tbls⟩,⟨m,hn.sameBut f (Rm (cne x c hc)),λj y R e1 e2 D'=>?_⟩,λy c' e=>?_,I.free,I.freeC,λp hp=>?_,tracked ⟨oc,B',I.freeC x c hc⟩ f,by simpa using I.len,I.tab⟩ ⟨c,f,.inr hc⟩
  .exact (f.2 b (NJ (NX (NI e) (I.ok.cab x c D hc)))).trans (I.base.keep b o e n C g)
  .obtain⟨T,e1⟩:=I.base.slot b o e n C g;exact⟨T,(f.2 b (NJ (NX (NI e) (I.ok.cab x c D hc)))).trans e1⟩
  .obtain⟨o',e1⟩:=I.base.there b o e g;exact⟨o',(f.2 b (NJ (NX (NI e) (I.ok.cab x c D hc)))).trans e1⟩
  .by_cases hj:j=i
   .subst hj;rw[hi]at e1;cases e1;rw[O4 t]at e2;cases e2;exact⟨u,r,.inr ⟨.inl B,c,hc,G⟩⟩
   .rw[NW (Rm hj)]at e2;obtain⟨U,W,q⟩:=hl j y R e1 e2 D';refine⟨U,W,?_⟩;rcases q with q|⟨k,c',e,z'⟩
    .exact .inl q
    .refine .inr ⟨k,c',e,z'.sameBut f ?_⟩
     rintro rfl
     exact hj (vI A2 e1 (I.ok.inj _ _ _ e hc▸hi))
  .by_cases hcc:c'=c
   .subst hcc;exact⟨_,G⟩
   .obtain⟨w2,z2⟩:=I.cell y c' e;exact⟨w2,z2.sameBut f hcc⟩
  .obtain⟨e,n,ne,A4,d⟩:=I.pin p hp;refine⟨(f.2 p.1 ?_).trans e,n,ne,A4,d⟩;intro q;rw[q,B']at e;have q':oc=p.2:=N4 e;exact d Dd (by rw[<-q'];exact K)
theorem pD{Q:Vz->LN->Prop}(I:Inv X z8 σ H s)(a:X.N.Nodup)(hi:X.N[i]?=Y x)(b:Loc X.env.scope x)(r:RelV v u)
  (h:∀s',Inv X z8 (σ.set i (Y v)) H s'->Q () s') (c:X.fn x=true\/X.env.scope.names.lookup x=Y .local:=by first|exact .inl rfl|exact .inr rfl|assumption):wpAny M A (storeName X.env x u) Q E s :=
 sC I a hi b r (λs' e _=>h s' e) c
theorem Inv.call'{ch:J J'}(I:Inv X z8 σ H s)(f:s'.os=s.os)(u:Un (frs X.stack) ch H H' s.heap s'.heap)(hok:HOk X.prog X.w H' s'.heap)(g:Sv s'.gens)
  (a:∀b∈ch,(b∈X.ex\/X.s₀.heap.objs.size<=b)/\b≠X.env.locals/\(∀x c,X.env.cells.lookup x=Y c->c≠b)/\∀p∈X.pn++z8,p.1≠b):Inv X z8 σ H' s':=by
 obtain⟨h',g',d',t',o'⟩:=s';have e:o'=s.os:=f;subst e;exact I.call (g':=g') (t':=t') (d':=d') u hok g a
end
abbrev XK:=GC->F1 J'->Hp->Prop
abbrev St:=J (F1 V)
variable {σ:St}
abbrev VK:=V->Hp->Prop
abbrev TE:=St->Hp->VK->Prop
variable {t:TE}
abbrev TT:=St->Hp->(Qo->Hp->Prop)->Prop
abbrev TA:=St->Hp->(J V->Hp->Prop)->Prop
structure Ends where
 nx:St->Hp->Prop
 rt:VK
 bk:St->Hp->Prop:=λ_ _=>False
 ct:St->Hp->Prop:=λ_ _=>False
abbrev TS:=Ends->St->Hp->Prop
def EP(X:Cx)(z8:J (J'×Rv))(σ:St)(Q:VK)(u:GC)(s':LN):Prop:=∃v H',Inv X z8 σ H' s'/\RelV v u/\Q v H'
def TP(X:Cx)(z8:J (J'×Rv))(σ:St)(Q:Qo->Hp->Prop)(b:Qo)(s':LN):Prop:=∃H',Inv X z8 σ H' s'/\Q b H'
def AP(X:Cx)(z8:J (J'×Rv))(σ:St)(Q:J V->Hp->Prop)(us:J GC)(s':LN):Prop:=∃vs H',Inv X z8 σ H' s'/\Vals vs us/\Q vs H'
def SP(X:Cx)(z8:J (J'×Rv))(D:Ends)(f:Flow)(s':LN):Prop :=
 match f with
 |.next=>∃a H',Inv X z8 a H' s'/\D.nx a H'
 |.brk=>∃a H',Inv X z8 a H' s'/\D.bk a H'
 |.cont=>∃a H',Inv X z8 a H' s'/\D.ct a H'
 |.ret u=>∃v a H',Inv X z8 a H' s'/\RelV v u/\D.rt v H'
def PE(X:Cx)(e:Qt)(t:TE):Prop :=
 ∀(z8:J (J'×Rv))(s:LN)(σ:St)(H:Hp)(Q:VK),Inv X z8 σ H s->t σ H Q->wpAny (model X.prog X.w) X.A (eval e X.env) (EP X z8 σ Q) X.xe s
def PT(X:Cx)(e:Qt)(t:TT):Prop :=
 ∀(z8:J (J'×Rv))(s:LN)(σ:St)(H:Hp)(Q:Qo->Hp->Prop),Inv X z8 σ H s->t σ H Q->wpAny (model X.prog X.w) X.A (isTrue e X.env (eval e X.env)) (TP X z8 σ Q) X.xe s
def PW(X:Cx)(e:Qt)(t:TT):Prop :=
 ∀(whole:Wh GC)(z8:J (J'×Rv))(s:LN)(σ:St)(H:Hp)(Q:Qo->Hp->Prop),Inv X z8 σ H s->t σ H Q->wpAny (model X.prog X.w) X.A (isTrue e X.env whole) (TP X z8 σ Q) X.xe s
theorem PW.pt{t:TT}(h:PW X e t):PT X e t:=h _
def PA(X:Cx)(es:J Qt)(t:TA):Prop :=
 ∀(pos:Ts)(z8:J (J'×Rv))(s:LN)(σ:St)(H:Hp)(Q:J V->Hp->Prop),Inv X z8 σ H s->t σ H Q->wpAny (model X.prog X.w) X.A (spliced (backTo pos (starEach es X.env))) (AP X z8 σ Q) X.xe s
def PS(X:Cx)(st:T7)(t:TS):Prop :=
 ∀(z8:J (J'×Rv))(s:LN)(σ:St)(H:Hp)(D:Ends),Inv X z8 σ H s->t D σ H->wpAny (model X.prog X.w) X.A (exec st X.env) (SP X z8 D) X.xe s
def PSs(X:Cx)(st:J T7)(t:TS):Prop :=
 ∀(z8:J (J'×Rv))(s:LN)(σ:St)(H:Hp)(D:Ends),Inv X z8 σ H s->t D σ H->wpAny (model X.prog X.w) X.A (execs st X.env) (SP X z8 D) X.xe s
theorem thn{t:Wh α}{Q b:α->LN->Prop}(h:wpAny M A t Q E s)(c:∀a s,Q a s->b a s):wpAny M A t b E s:=QU h c λ_ _ x=>x
section
theorem bin{a b:Qt}{ta tb:TE}(ha:PE X a ta)(i:PE X b tb)(I:Inv X z8 σ H s)(h:ta σ H λx H1=>tb σ H1 λy H2=>R x y H2)
  {Q:α->LN->Prop} {f:GC->GC->Wh α}
  (j:∀v u s2 x y H2,Inv X z8 σ H2 s2->RelV x v->RelV y u->R x y H2->wpAny (model X.prog X.w) X.A (f v u) Q X.xe s2) :
  wpAny (model X.prog X.w) X.A (eval a X.env) (λv e=>wpAny (model X.prog X.w) X.A (eval b X.env) (λu g=>wpAny (model X.prog X.w) X.A (f v u) Q X.xe g) X.xe e) X.xe s:=by
 refine thn (ha z8 s σ H _ I h) λv l c=>?_
 obtain⟨x,H1,m,n,o⟩:=c;refine thn (i z8 l σ H1 _ m o) λu s2 c=>?_
 obtain⟨y,H2,p,q,r⟩:=c;exact j v u s2 x y H2 p n q r
def Mj(i:O):TE:=λσ H Q=>∃v,σ[i]?=Y (Y v)/\Q v H
def tC(v:V):TE:=λ_ H Q=>Q v H
theorem gQ(g:X.N[i]?=Y x)(hv:Vis X.env.scope x)(hd:(x==("__debug__":Qn))=false:=by decide)(f:(x==("__classdict__":Qn))=false:=by decide):PE X (.Name x pos) (Mj i):=by
 intro z8 s σ H Q I h;obtain⟨v,e,h⟩:=h;obtain⟨m,hn,hl⟩:=I.loc;obtain⟨u,r,l⟩:=hl i x v g e hv;have fin:EP X z8 σ Q u s:=⟨v,H,I,r,h⟩
 rcases l with⟨b,hm⟩|⟨b,c,hc,a⟩
 .exact Vj (Tu I.ok.kind b hn hm fin) hd
 .rcases b with b|b
  .exact Vj (TN I.ok.kind b hc a fin) hd
  .exact Vj (wpAny_loadName_free I.ok.kind b hc a fin f) hd
theorem ji{i j pos}:PE X (.Constant (.int i) j pos) (tC (.int i)):=λ_ _ _ H _ I h=>wpAny_Constant_int ⟨.int i,H,I.tok _,⟨_,rfl⟩,h⟩
theorem LK{b j pos}:PE X (.Constant (.bool b) j pos) (tC (.bl b)):=λ_ _ _ H _ I h=>Constant_bool ⟨.bl b,H,I,rfl,h⟩
theorem Lj{j pos}:PE X (.Constant .none j pos) (tC .non):=λ_ _ _ H _ I h=>TZ ⟨.non,H,I,rfl,h⟩
theorem Lp{x j pos}:PE X (.Constant (.str x) j pos) (tC (.str x)):=λ_ _ _ H _ I h=>Calls.Constant_str ⟨.str x,H,I.tok _,⟨_,rfl⟩,h⟩
def Gl(X:Cx)(x:Qn):Prop:=X.env.kindOf x=Y .globalImplicit
theorem oV(I:Inv X z8 σ H s)(a:Gl X x)(hm:X.mg x=Y u)(h:Q u s)
  (hd:(x==("__debug__":Qn))=false:=by decide):wpAny (model X.prog X.w) X.A (eval (.Name x pos) X.env) Q E s :=
 SD I.ok.kind a (Calls.loadGlobal_global (by rw[I.ok.glob];exact I.mod.glob.keeps I.bk) hm h) hd
theorem fz(I:Inv X z8 σ H s)(a:Gl X x)(hm:X.mg x=S)(hv:bootBuiltins x=Y u)(h:Q u s)
  (hn:x≠"__name__":=by decide) (hd:(x==("__debug__":Qn))=false:=by decide):wpAny (model X.prog X.w) X.A (eval (.Name x pos) X.env) Q E s:=by
 obtain⟨mb,h1,h2⟩:=I.mod.blt;exact SD I.ok.kind a (Calls.loadGlobal_builtin (by rw[I.ok.glob];exact I.mod.glob.keeps I.bk) hm (by rw[I.ok.blt];exact h1.keeps I.bk) ((h2 x hn).trans hv) h) hd
theorem HS(a:Gl X x)(hm:X.mg x=Y u)(r:RelV v u)(hd:(x==("__debug__":Qn))=false:=by decide):PE X (.Name x pos) (tC v) :=
 λ_ _ _ H _ I h=>oV I a hm ⟨v,H,I,r,h⟩ hd
theorem Ht(a:Gl X x)(hm:X.mg x=S)(hv:bootBuiltins x=Y u)(r:RelV v u)(hn:x≠"__name__":=by decide)(hd:(x==("__debug__":Qn))=false:=by decide):PE X (.Name x pos) (tC v) :=
 λ_ _ _ H _ I h=>fz I a hm hv ⟨v,H,I,r,h⟩ hn hd
noncomputable def t2I(ta tb:TE)(k:Z->Z->Hp->Prop):St->Hp->Prop:=λσ H=>ta σ H λx H1=>tb σ H1 λy H2=>∃i j,x=.int i/\y=.int j/\k i j H2
variable {a b:Qt}{ta tb:TE}
def PC(X:Cx)(op:UT)(a b:Qt)(t:TE):Prop :=
 ∀(z8:J (J'×Rv))(s:LN)(σ:St)(H:Hp)(Q:VK),Inv X z8 σ H s->t σ H Q ->
  wpAny (model X.prog X.w) X.A (eval a X.env) (λv c=>wpAny (model X.prog X.w) X.A (eval b X.env) (λu e=>wpAny (model X.prog X.w) X.A (compareOp op v u) (EP X z8 σ Q) X.xe e) X.xe c) X.xe s
theorem vX(b:Qt)(h:op≠.In)(h2:op≠.NotIn):behindInMarks op b=false:=by
 have e1:(op==Wl)=false:=by cases op <;> first|rfl|cases h rfl
 have e2:(op==VX)=false:=by cases op <;> first|rfl|cases h2 rfl
 cases b <;> simp[behindInMarks,e1,e2]
def MF(p:Z->Z->Qo)(ta tb:TE):TE:=λσ H Q=>t2I ta tb (λi j H2=>Q (.bl (p i j)) H2) σ H
abbrev tLt:TE->TE->TE:=MF λi j=>decide (i<j)
theorem Le{p:Z->Z->Qo}(ha:PE X a ta)(c:PE X b tb)
  (rule:∀(i j:Z)(t u:VI)(Q:GC->LN->Prop)(s:LN),Q (.bool (p i j)) s->wpAny (model X.prog X.w) X.A (compareOp op (.int i t) (.int j u)) Q X.xe s):PC X op a b (MF p ta tb):=by
 intro z8 s σ H Q I h;refine bin ha c I h λv u s2 x y H2 e f g q=>?_
 obtain⟨i,j,rfl,rfl,q⟩:=q;obtain⟨t,rfl⟩:=f;obtain⟨t',rfl⟩:=g;exact rule i j t t' _ s2 ⟨.bl _,H2,e,rfl,q⟩
theorem LZ(ha:PE X a ta)(c:PE X b tb):PC X .Lt a b (tLt ta tb):=Le ha c λ_ _ _ _ _ _ h=>lt_int h
def M7(ta:TE):TE:=λσ H Q=>ta σ H λx H1=>Q (.bl (decide (x=.non))) H1
def Mn(ta:TE):TE:=λσ H Q=>ta σ H λx H1=>Q (.bl (!decide (x=.non))) H1
theorem RelV.none_iff{x:V}{v:GC}(r:RelV x v):(v==Rq)=decide (x=.non):=by
 cases x with
 |non=>cases r;rfl
 |bl _=>cases r;rfl
 |int _=>obtain⟨t,rfl⟩:=r;rfl
 |str _=>obtain⟨t,rfl⟩:=r;rfl
 |byt _=>obtain⟨t,rfl⟩:=r;rfl
 |flt _=>obtain⟨t,rfl⟩:=r;rfl
 |ref _=>cases r;rfl
 |ty _=>cases r;rfl
theorem Fe{j pos'}(ha:PE X a ta):PC X .Is a (.Constant .none j pos') (M7 ta):=by
 intro z8 s σ H Q I h;refine thn (ha z8 s σ H _ I h) λv s1 b=>?_
 obtain⟨x,H1,c,e,f⟩:=b;exact TZ (is_none_gen ⟨.bl _,H1,c,by rw[e.none_iff];rfl,f⟩)
theorem GV{j pos'}(ha:PE X a ta):PC X .IsNot a (.Constant .none j pos') (Mn ta):=by
 intro z8 s σ H Q I h;refine thn (ha z8 s σ H _ I h) λv s1 b=>?_
 obtain⟨x,H1,c,e,f⟩:=b;exact TZ (isnot_none_gen ⟨.bl _,H1,c,by rw[e.none_iff];rfl,f⟩)
def tB(t:TE):TT:=λσ H Q=>t σ H λx H1=>∃c,x=.bl c/\Q c H1
theorem Eo(h:PC X op a b t)(h1:behindInMarks op b=false:=by first|exact vX _ #[1] #[1]|rfl):PE X (.Compare a [op] [b] pos) t:=λz8 s σ H Q I hw=>Vk (h z8 s σ H Q I hw) h1
theorem yJ(h:PC X op a b t)(h1:behindInMarks op b=false:=by first|exact vX _ #[1] #[1]|rfl):PT X (.Compare a [op] [b] pos) (tB t):=by intro z8 s σ H Q I hw;refine To (thn (h z8 s σ H _ I hw) λv s1 h1=>thn h1 λu s2 h2=>thn h2 λc s3 e=>?_) h1;obtain⟨x,H1,f,g,i⟩:=e;obtain⟨d,rfl,q⟩:=i;cases g;exact QG ⟨H1,f,q⟩
theorem Jp(h:PE X e t)(b:∀whole,isTrue e X.env whole=(do let v <-whole;standAt e.pos;holding [v] (truthy v)):=by intro _;rfl):PT X e (tB t):=by intro z8 s σ H Q I hw;refine isTrue_plain (thn (h z8 s σ H _ I hw) λv s1 a=>?_) (b _);obtain⟨x,H1,c,f,g⟩:=a;obtain⟨d,rfl,q⟩:=g;cases f;exact QG ⟨H1,c,q⟩
variable {tA tB':TT}{rest:J Qt}
def Nn(t u:TT):TT:=λσ H Q=>t σ H λc H1=>if c=true then u σ H1 Q else Q false H1
def tOr(t u:TT):TT:=λσ H Q=>t σ H λc H1=>if c=true then Q true H1 else u σ H1 Q
def M4(t:TT):TT:=λσ H Q=>t σ H λc H1=>Q (!c) H1
theorem HU(ha:PT X a tA):PW X (.BoolOp .And [a] pos) tA:=by
 intro wh z8 s σ H Q I h;refine isTrue_and (thn (ha z8 s σ H Q I h) λc s1 e=>?_);cases c with
 |true=>exact isTrue_and_nil e
 |false=>exact e
theorem K4(ha:PT X a tA):PW X (.BoolOp .Or [a] pos) tA:=by
 intro wh z8 s σ H Q I h;refine isTrue_or (thn (ha z8 s σ H Q I h) λc s1 e=>?_);cases c with
 |false=>exact isTrue_or_nil e
 |true=>exact e
theorem Jv(ha:PT X a tA)(i:PW X (.BoolOp .And (b::rest) pos) tB'):PW X (.BoolOp .And (a::b::rest) pos) (Nn tA tB'):=by
 intro wh z8 s σ H Q I h;refine isTrue_and (thn (ha z8 s σ H _ I h) λc j e=>?_);obtain⟨H1,f,g⟩:=e;cases c with
 |true=>exact i wh z8 j σ H1 Q f g
 |false=>exact⟨H1,f,g⟩
theorem Mt(ha:PT X a tA)(i:PW X (.BoolOp .Or (b::rest) pos) tB'):PW X (.BoolOp .Or (a::b::rest) pos) (tOr tA tB'):=by
 intro wh z8 s σ H Q I h;refine isTrue_or (thn (ha z8 s σ H _ I h) λc j e=>?_);obtain⟨H1,f,g⟩:=e;cases c with
 |true=>exact⟨H1,f,g⟩
 |false=>exact i wh z8 j σ H1 Q f g
theorem Jn(ha:PT X a tA):PT X (.UnaryOp .Not a pos) (M4 tA):=by intro z8 s σ H Q I h;exact isTrue_not (ha z8 s σ H (λc H1=>Q (!c) H1) I h)
def MD(ta tb:TE):TE:=λσ H Q=>ta σ H λx H1=>∃c,x=.bl c/\if c=true then tb σ H1 Q else Q (.bl false) H1
def MT(ta tb:TE):TE:=λσ H Q=>ta σ H λx H1=>∃c,x=.bl c/\if c=true then Q (.bl true) H1 else tb σ H1 Q
theorem K7{op}(h:PE X a t):PE X (.BoolOp op [a] pos) t:=λz8 s σ H Q I hw=>BoolOp_one (h z8 s σ H Q I hw)
theorem Ln(ha:PE X a ta)(i:PE X (.BoolOp .And (b::rest) pos) tb):PE X (.BoolOp .And (a::b::rest) pos) (MD ta tb):=by
 intro z8 s σ H Q I h;refine BoolOp_and (thn (ha z8 s σ H _ I h) λv j f=>?_);obtain⟨x,H1,g,l,e⟩:=f;obtain⟨c,rfl,e⟩:=e;cases l;refine QG ?_;cases c with
 |true=>exact i z8 j σ H1 Q g e
 |false=>exact⟨.bl false,H1,g,rfl,e⟩
theorem LM(ha:PE X a ta)(i:PE X (.BoolOp .Or (b::rest) pos) tb):PE X (.BoolOp .Or (a::b::rest) pos) (MT ta tb):=by
 intro z8 s σ H Q I h;refine BoolOp_or (thn (ha z8 s σ H _ I h) λv j f=>?_);obtain⟨x,H1,g,l,e⟩:=f;obtain⟨c,rfl,e⟩:=e;cases l;refine QG ?_;cases c with
 |false=>exact i z8 j σ H1 Q g e
 |true=>exact⟨.bl true,H1,g,rfl,e⟩
def tIf(t:TT)(ta tb:TE):TE:=λσ H Q=>t σ H λc H1=>if c=true then ta σ H1 Q else tb σ H1 Q
theorem FO(hc:PT X c tA)(ha:PE X a ta)(j:PE X b tb):PE X (.IfExp c a b pos) (tIf tA ta tb):=by
 intro z8 s σ H Q I h;refine wpAny_IfExp (thn (hc z8 s σ H _ I h) λd f e=>?_);obtain⟨H1,g,i⟩:=e;cases d with
 |true=>exact ha z8 f σ H1 Q g i
 |false=>exact j z8 f σ H1 Q g i
end
def SqL(K:Qp)(H:Hp)(a:J')(xs:J V):Prop :=
 Rd H a (.lst xs) \/
  ∃(o:Rv)(its:QR GC)(n:O),K.lookup a=Y o/\o.cls=.type "list"/\o.dict=S/\o.data=.seq its n/\its.size<=sizeLine/\Vals xs its.toList
def SqT(K:Qp)(H:Hp)(a:J')(xs:J V):Prop :=
 Rd H a (.tup xs) \/
  ∃(o:Rv)(its:QR GC)(n:O),K.lookup a=Y o/\o.cls=.type "tuple"/\o.data=.seq its n/\its.size<=sizeLine/\Vals xs its.toList
def M5:GC->F1 V
 |.none=>Y .non
 |.bool b=>Y (.bl b)
 |.int i _=>⇑i
 |.str x _=>Y (.str x)
 |.bytes b _=>Y (.byt b)
 |.float b _=>Y (.flt b)
 |.ref a=>Y (.ref a)
 |.type n=>Y (.ty n)
 |_=>S
theorem RelV.abs{x:V}(r:RelV x u):M5 u=Y x:=by
 cases x with
 |non=>cases r;rfl
 |bl _=>cases r;rfl
 |int _=>obtain⟨t,rfl⟩:=r;rfl
 |str _=>obtain⟨t,rfl⟩:=r;rfl
 |byt _=>obtain⟨t,rfl⟩:=r;rfl
 |flt _=>obtain⟨t,rfl⟩:=r;rfl
 |ref _=>cases r;rfl
 |ty _=>cases r;rfl
theorem RelV.inj{x y:V}(r:RelV x u)(q:RelV y u):x=y:=N4 (r.abs.symm.trans q.abs)
theorem Vals.inj{ys:J V}(h:Vals xs us)(h':Vals ys us):xs=ys:=by
 induction h generalizing ys with
 |nil=>cases h';rfl
 |cons r t ih =>
  cases h' with
  |cons r' t'=>rw[r.inj r',ih t']
section
variable {ys:J V}
theorem SqL.of(h:H a=Y (.lst xs)):SqL K H a xs:=.inl (.inl h)
theorem SqT.of(h:H a=Y (.tup xs)):SqT K H a xs:=.inl (.inl h)
theorem Inv.list(I:Inv X z8 σ H s)(h:SqL X.K H a xs):∃its:J GC,Vals xs its/\PlainL s.heap a its.toArray/\xs.length<=sizeLine:=by
 rcases h with h|⟨o,its,n,b,hc,hd,c,hz,r⟩
 .obtain⟨z,its,n,r,e⟩:=h.ok I.hok;exact⟨its,r,⟨_,n,e,rfl,rfl,rfl⟩,z⟩
 .refine⟨its.toList,r,⟨o,n,I.kIn a o b,hc,hd,by simpa using c⟩,?_⟩;have e:=r.length;dsimp[OM]at e;omega
theorem Inv.tuple(I:Inv X z8 σ H s)(h:SqT X.K H a xs):∃its:J GC,Vals xs its/\UU s.heap a its.toArray/\xs.length<=sizeLine:=by
 rcases h with h|⟨o,its,n,b,hc,c,hz,r⟩
 .obtain⟨z,its,r,p⟩:=h.ok I.hok;exact⟨its,r,p.tup,z⟩
 .refine⟨its.toList,r,⟨o,I.kIn a o b,hc,n,by simpa using c⟩,?_⟩;have e:=r.length;dsimp[OM]at e;omega
theorem Inv.list_inj(I:Inv X z8 σ H s)(h:SqL X.K H a xs)(h':SqL X.K H a ys):xs=ys:=by
 obtain⟨its,r,⟨o,n,e,_,_,d⟩,_⟩:=I.list h;obtain⟨its',c,⟨o',n',b,_,_,d'⟩,_⟩:=I.list h';rw[e]at b;cases b;rw[d]at d';injection d' with d1 _
 have:its=its':=by simpa using congrArg VL d1
 subst this;exact r.inj c
theorem Inv.tuple_inj(I:Inv X z8 σ H s)(h:SqT X.K H a xs)(h':SqT X.K H a ys):xs=ys:=by
 obtain⟨its,r,⟨o,e,_,n,d⟩,_⟩:=I.tuple h;obtain⟨its',c,⟨o',b,_,n',d'⟩,_⟩:=I.tuple h';rw[e]at b;cases b;rw[d]at d';injection d' with d1 _
 have:its=its':=by simpa using congrArg VL d1
 subst this;exact r.inj c
end
abbrev Cx.wish(X:Cx)(E:GC->LN->Prop):Cx:={X with xe:=E}
abbrev Cx.nox(X:Cx):Cx:=X.wish λ_ _=>False
theorem Cx.Ok.wish(ok:X.Ok)(E:GC->LN->Prop):(X.wish E).Ok :=
 ⟨ok.mod,ok.kind,ok.glob,ok.blt,ok.above,ok.inj,ok.has,ok.cab,ok.hd,ok.frames,ok.stk,ok.exf,ok.bs,ok.bsz,ok.noex,ok.exfs,ok.funs,ok.frf⟩
theorem Cx.Ok.unwish(ok:(X.wish E).Ok):X.Ok :=
 ⟨ok.mod,ok.kind,ok.glob,ok.blt,ok.above,ok.inj,ok.has,ok.cab,ok.hd,ok.frames,ok.stk,ok.exf,ok.bs,ok.bsz,ok.noex,ok.exfs,ok.funs,ok.frf⟩
section
theorem Inv.wish(I:Inv X z8 σ H s)(E:GC->LN->Prop):Inv (X.wish E) z8 σ H s:=⟨I.ok.wish E,I.os,I.bare,I.base,I.loc,I.cell,I.free,I.freeC,I.pin,I.hok,I.len,I.tab⟩
theorem Inv.unwish(I:Inv (X.wish E) z8 σ H s):Inv X z8 σ H s:=⟨I.ok.unwish,I.os,I.bare,I.base,I.loc,I.cell,I.free,I.freeC,I.pin,I.hok,I.len,I.tab⟩
theorem SP.unwish{D:Ends}{f:Flow}(h:SP (X.wish E) z8 D f s'):SP X z8 D f s':=by
 cases f with
 |next=>obtain⟨a,H',I,q⟩:=h;exact⟨a,H',I.unwish,q⟩
 |brk=>obtain⟨a,H',I,q⟩:=h;exact⟨a,H',I.unwish,q⟩
 |cont=>obtain⟨a,H',I,q⟩:=h;exact⟨a,H',I.unwish,q⟩
 |ret u=>obtain⟨v,a,H',I,r,q⟩:=h;exact⟨v,a,H',I.unwish,r,q⟩
theorem PSs.nox{st:J T7}{t:TS}(h:PSs X.nox st t):PSs X st t:=λz8 s σ H D I hw =>
 QU (h z8 s σ H D (I.wish _) hw) (λ_ _ q=>q.unwish) λ_ _ z=>QQ z
end
section
variable {rest:J T7}{t u:TS}{te:TE}
def LP:TS:=λD σ H=>D.nx σ H
def M9(t u:TS):TS:=λD σ H=>t {D with nx:=u D} σ H
theorem oX:PSs X [] LP:=λ_ _ σ H _ I h=>Sn ⟨σ,H,I,h⟩
theorem fB(h1:PS X st t)(h2:PSs X rest u):PSs X (st::rest) (M9 t u):=by
 intro z8 s σ H D I h;refine UI (thn (h1 z8 s σ H {D with nx:=u D} I h) λf b q=>?_);cases f with
 |next =>obtain⟨a,H',c,q⟩:=q;exact h2 z8 b a H' D c q
 |ret v=>exact q
 |brk=>exact q
 |cont=>exact q
theorem ik(h1:PS X st t):PSs X [st] t:=by
 intro z8 s σ H D I h;refine UI (thn (h1 z8 s σ H D I h) λf s1 q=>?_);cases f with
 |next=>exact Sn q
 |ret v=>exact q
 |brk=>exact q
 |cont=>exact q
theorem Inv.quiet(I:Inv X z8 σ H s):interactive X.env=false:=by simp[interactive,I.ok.kind]
def Lx(te:TE):TS:=λD σ H=>te σ H λ_ H1=>D.nx σ H1
theorem oY(b:PE X e te)(c:swapsWith e S pos.line X.env=pure false:=by rfl):PS X (.Expr e pos) (Lx te):=by intro z8 s σ H D I h;exact wpAny_Expr_any (thn (b z8 s σ H _ I h) λv s1 a=>(by obtain⟨x,H1,f,r1,g⟩:=a;exact⟨σ,H1,f,g⟩)) I.quiet c
def M3(te:TE):TS:=λD σ H=>te σ H D.rt
theorem nr(b:PE X e te):PS X (.Return (Y e) pos) (M3 te):=by intro z8 s σ H D I h;exact wpAny_Return_some (thn (b z8 s σ H _ I h) λv s1 a=>(by obtain⟨x,H1,c,f,g⟩:=a;exact⟨x,σ,H1,c,f,g⟩))
def Nl(c:TT)(t u:TS):TS:=λD σ H=>c σ H λb H1=>if b=true then t D σ H1 else u D σ H1
theorem A9{a b:J T7}{tc:TT}(hc:PT X c tc)(ha:PSs X a t)(j:PSs X b u):PS X (.If c a b pos) (Nl tc t u):=by
 intro z8 s σ H D I h;refine wpAny_If (thn (hc z8 s σ H _ I h) λd f e=>?_);obtain⟨H1,g,i⟩:=e;cases d with
 |true=>exact ha z8 f σ H1 D g i
 |false=>exact j z8 f σ H1 D g i
end
abbrev TG:=V->St->Hp->(St->Hp->Prop)->Prop
abbrev TGs:=J V->St->Hp->(St->Hp->Prop)->Prop
def PG(X:Cx)(target:Qt)(t:TG):Prop :=
 ∀(z8:J (J'×Rv))(s:LN)(σ:St)(H:Hp)(v:V)(u:GC)(Q:St->Hp->Prop),Inv X z8 σ H s->RelV v u->t v σ H Q ->
  wpAny (model X.prog X.w) X.A (assign target X.env u) (λ_ s'=>∃a H',Inv X z8 a H' s'/\Q a H') X.xe s
def PGs(X:Cx)(ts:J Qt)(t:TGs):Prop :=
 ∀(z8:J (J'×Rv))(s:LN)(σ:St)(H:Hp)(vs:J V)(us:J GC)(Q:St->Hp->Prop),Inv X z8 σ H s->Vals vs us->t vs σ H Q ->
  wpAny (model X.prog X.w) X.A (assignInOrder ((assignEach ts X.env).map (·.2)) us) (λ_ s'=>∃a H',Inv X z8 a H' s'/\Q a H') X.xe s
abbrev Jj:=V->V->V->Hp->(Hp->Prop)->Prop
def Mo(X:Cx)(t:Jj):Prop :=
 ∀(z8:J (J'×Rv))(s:LN)(σ:St)(H:Hp)(o i v:V)(a iv u:GC)(Q:Hp->Prop),Inv X z8 σ H s->RelV o a->RelV i iv->RelV v u->t o i v H Q ->
  wpAny (model X.prog X.w) X.A (setItem a iv u) (λ_ s'=>∃H',Inv X z8 σ H' s'/\Q H') X.xe s
abbrev TIp:=V->V->Hp->VK->Prop
def PIp(X:Cx)(op:VY)(t:TIp):Prop :=
 ∀(z8:J (J'×Rv))(s:LN)(σ:St)(H:Hp)(x y:V)(v u:GC)(Q:VK),Inv X z8 σ H s->RelV x v->RelV y u->t x y H Q ->
  wpAny (model X.prog X.w) X.A (inplaceOp op v u) (EP X z8 σ Q) X.xe s
section
def kX(i:O):TG:=λv σ H Q=>Q (σ.set i (Y v)) H
theorem Hb(a:X.N.Nodup)(hi:X.N[i]?=Y x)(b:Loc X.env.scope x)(c:X.fn x=true\/X.env.scope.names.lookup x=Y .local:=by first|exact .inl rfl|exact .inr rfl|assumption):PG X (.Name x pos) (kX i):=by intro z8 s σ H v u Q I r h;exact Uj (pD I a hi b r (λs' e=>⟨_,H,e,h⟩) c)
def LS:TGs:=λvs σ H Q=>vs=[]/\Q σ H
def ID(t:TG)(u:TGs):TGs:=λvs σ H Q=>∃v r,vs=v::r/\t v σ H λa H'=>u r a H' Q
theorem Ga:PGs X [] LS:=by intro z8 s σ H vs us Q I r h;obtain⟨e,h⟩:=h;subst e;cases r;exact assignInOrder_nil ⟨σ,H,I,h⟩
theorem Dy{t:TG}{u:TGs}(h1:PG X e t)(h2:PGs X es u)
  (c:(assignEach (e::es) X.env).map (·.2)=assign e X.env::(assignEach es X.env).map (·.2):=by rfl):PGs X (e::es) (ID t u):=by
 intro z8 s σ H vs us Q I r h;obtain⟨v,vr,e1,h⟩:=h;subst e1;cases r with
 |cons r rr =>rw[c];refine assignInOrder_cons (thn (h1 z8 s σ H _ _ _ I r h) λ_ f a=>?_);obtain⟨b,H1,g,i⟩:=a;exact h2 z8 f b H1 _ _ Q g rr i
def Ju(K:Qp)(n:O)(t:TGs):TG:=λv σ H Q=>∃a xs,v=.ref a/\SqT K H a xs/\xs.length=n/\t xs σ H Q
theorem KU{k:O}{t:TGs}{n:O}(hc:X.calm=true)(h:PGs X es t)
  (hn:(assignEach es X.env).length=n:=by rfl) (c:(assignEach es X.env).findIdx? (·.1)=none:=by rfl):PG X (.Tuple es k pos) (Ju X.K n t):=by
 intro z8 s σ H v u Q I r hw;obtain⟨a,xs,e1,g,hl,hw⟩:=hw;subst e1;cases r;obtain⟨its,f,i,hz⟩:=I.tuple g;refine assign_Tuple_tuple (I.ok.hd hc) i (by simp[hn,<-hl,f.length]) c λh' j=>?_
 have l:Inv X z8 σ H {s with heap:=h'}:=I.kept (t':=s.toks) λb o e=>j b o (NJ (NI e)) e
 exact h z8 _ σ H xs _ Q l (by simpa using f) hw
def MY(to a:TE)(t:Jj):TG:=λv σ H Q=>to σ H λo H1=>a σ H1 λi H2=>t o i v H2 λb=>Q σ b
theorem zB{o i:Qt}{to c:TE}{t:Jj}(e:PE X o to)(hi:PE X i c)(f:Mo X t)
  (ha:∀v,assign (.Subscript o i pos) X.env v=(do
   let b <-holding [v] (eval o X.env);let iv <-holding [v,b] (eval i X.env)
   standAt pos
   holding [v,b,iv] (setItem b iv v)
   release [v,b,iv] []):=by intro _;rfl):PG X (.Subscript o i pos) (MY to c t):=by
 intro z8 s σ H v u Q I r h;rw[ha];refine F' (QN (thn (e z8 s σ H _ I h) λb g a=>?_));obtain⟨x,H1,j,l,m⟩:=a;refine F' (QN (thn (hi z8 g σ H1 _ j m) λiv s2 a=>?_));obtain⟨y,H2,n,p,q⟩:=a;refine F' (SW (F' (QN (thn (f z8 s2 σ H2 x y v b iv u _ n l p r q) λ_ s3 a=>?_))));obtain⟨w,z,A⟩:=a;exact wpAny_release ⟨σ,w,z,A⟩
def Cf(te:TE)(g:TG):TS:=λD σ H=>te σ H λx H1=>g x σ H1 D.nx
theorem uW{te:TE}{g:TG}(b:PE X e te)(c:PG X tg g)(f:swapsWithSole [tg] e pos.line X.env=pure false:=by rfl)(hw:swappedStores [tg] e X.env=pure none:=by rfl)
  (h1:(assignEach [tg] X.env).map (·.2)=[assign tg X.env]:=by rfl):PS X (.Assign [tg] e pos) (Cf te g):=by
 intro z8 s σ H D I h;refine wpAny_Assign_stores (thn (b z8 s σ H _ I h) λv i a=>?_) f hw;obtain⟨x,H1,j,l,m⟩:=a;rw[h1];exact thn (c z8 i σ H1 x v _ j l m) λ_ s2 q=>q
theorem mK{te:TE}(b:X.N.Nodup)(hi:X.N[i]?=Y x)(c:Loc X.env.scope x)(f:PE X e te)(g:swapsWith e (Y (.Name x pos')) pos.line X.env=pure false:=by rfl)(j:X.fn x=true\/X.env.scope.names.lookup x=Y .local:=by first|exact .inl rfl|exact .inr rfl|assumption) :
  PS X (.Assign [.Name x pos'] e pos) (Cf te (kX i)):=by
 intro z8 s σ H D I h;refine wpAny_Assign_Name (thn (f z8 s σ H _ I h) λv s1 a=>?_) g;obtain⟨y,H1,l,m,n⟩:=a;exact pD l b hi c m (λs2 o=>⟨_,H1,o,n⟩) j
def Nh(i:O)(te:TE)(a:TIp):TS:=λD σ H=>∃x,σ[i]?=Y (Y x)/\te σ H λy H1=>a x y H1 λz H2=>D.nx (σ.set i (Y z)) H2
theorem Ke{te:TE}{op:VY}{p:TIp}(q:X.N.Nodup)(hi:X.N[i]?=Y x)(n:Loc X.env.scope x)(t:PE X e te)(B:PIp X op p)(C:X.fn x=true\/X.env.scope.names.lookup x=Y .local:=by first|exact .inl rfl|exact .inr rfl|assumption) :
  PS X (.AugAssign (.Name x pos') op e pos) (Nh i te p):=by
 intro z8 s σ H D I h;obtain⟨v,e1,h⟩:=h;obtain⟨m,hn,hl⟩:=I.loc;have o:Vis X.env.scope x:=by rcases n with k|k;exact .inl k;exact .inr (.inl k)
 obtain⟨u,r,l⟩:=hl i x v hi e1 o;refine wpAny_AugAssign_Name ?_;have go:wpAny (model X.prog X.w) X.A (eval e X.env) (λw g=>wpAny (model X.prog X.w) X.A (inplaceOp op u w) (λr j=>wpAny (model X.prog X.w) X.A (storeName X.env x r) (λ_=>SP X z8 D .next) X.xe j) X.xe g) X.xe s:=by
  refine thn (t z8 s σ H _ I h) λw E b=>?_
  obtain⟨y,H1,F,G,B'⟩:=b;refine thn (B z8 E σ H1 v y u w _ F r G B') λz s2 b=>?_
  obtain⟨zv,H2,K,Dd,M⟩:=b;exact pD K q hi n Dd (λs3 EE=>⟨_,H2,EE,M⟩) C
 rcases l with⟨a,hm⟩|⟨a,c,hc,f⟩
 .exact Tu I.ok.kind a hn hm go
 .rcases a with a|a
  .exact TN I.ok.kind a hc f go
  .rcases n with k|k
   .have:X.env.scope.names.lookup x=Y .free:=a;rw[k]at this;cases this
   .have:X.env.scope.names.lookup x=Y .free:=a;rw[k]at this;cases this
def ipI(f:Z->Z->Z):TIp:=λx y H Q=>∃i j,x=.int i/\y=.int j/\Q (.int (f i j)) H
theorem Kv:PIp X .Add (ipI λi j=>i+j):=by intro z8 s σ H x y v u Q I a b h;obtain⟨i,j,e1,e2,q⟩:=h;subst e1;subst e2;obtain⟨t,rfl⟩:=a;obtain⟨t',rfl⟩:=b;exact iadd_int ⟨.int _,H,I.tok _,⟨_,rfl⟩,q⟩
end
section
def K0(c:TT)(tb:TS):TS:=λD σ H=>∃W:O->St->Hp->Prop,(∃m,W m σ H)/\∀m σ H,W m σ H ->
 c σ H λb H1=>if b=true then ∃N:St->Hp->Prop,(∀a H',N a H'->∃e,e < m/\W e a H')/\tb {D with nx:=N,ct:=N,bk:=D.nx} σ H1 else D.nx σ H1
theorem Fg{tc:TT}{tb:TS}(hp:S' (model X.prog X.w) X.A X.env X.xe)(hc:PT X c tc)(x:PSs X body tb):PS X (.While c body [] pos) (K0 tc tb):=by
 intro z8 s σ H D I h;obtain⟨W,⟨y,z⟩,turn⟩:=h;refine wpAny_While (codeAny_whileLoop (λn s'=>∃g H',Inv X z8 g H' s'/\W n g H') ?_ y ⟨σ,H,I,z⟩)
 rintro n B ⟨e,H1,C,E⟩
 refine Ry hp (thn (hc z8 B e H1 _ C (turn n e H1 E)) λb s2 m=>?_);obtain⟨H2,t,j⟩:=m;cases b with
 |true =>
  obtain⟨N,u,j⟩:=j;rw[HL rfl];refine Ry hp (thn (x z8 s2 e H2 _ t j) λf s3 l=>?_);cases f with
  |next =>obtain⟨a,i,o,p⟩:=l;obtain⟨q,hm,r⟩:=u a i p;exact⟨q,hm,a,i,o,r⟩
  |cont =>obtain⟨a,i,o,p⟩:=l;obtain⟨q,hm,r⟩:=u a i p;exact⟨q,hm,a,i,o,r⟩
  |brk=>exact l
  |ret v=>exact l
 |false =>rw[I' NL];exact Sn ⟨e,H2,t,j⟩
end
structure It where
 go:O->Hp->Prop
 yld:O->Hp->V->Hp->Prop
 stop:O->Hp->Prop
def pk(X:Cx)(z8:J (J'×Rv))(H:Hp)(b:J'):Prop :=
 H b=S/\b≠X.env.locals/\b∉X.fs/\(b∈X.ex\/X.s₀.heap.objs.size<=b)/\(∀x c,X.env.cells.lookup x=Y c->c≠b)/\∀p∈X.pn++z8,p.1≠b
theorem Inv.fpOk{H':Hp}(I:Inv X z8 σ H s)(a:s.heap.objs.size<=b)(hn:H' b=S):pk X z8 H' b:=by
 refine⟨hn,OP (NX I.lt a),I.nofs a,.inr (OG I.sz a),λx c e z=>?_,λp hp z=>?_⟩
 .obtain⟨v,q⟩:=I.cell x c e;exact Qr (NX q.lt (by rw[z];exact a)) (OQ _)
 .exact Qr (NX (NI (I.pin p hp).1) (by rw[z];exact a)) (OQ _)
structure Turn(P:QS)(w:QY)(K:Qp)(tg:Qt)(B':It)(fp:J J')(it:J')(tn:O->QD->Prop):Prop where
 mem:it∈fp
 obj:∀i h,tn i h->∀b∈fp,∃o,h.get? b=Y o/\∀v,o.data≠.cell v
 keep:∀i h h',tn i h->(∀b∈fp,∀o,h.get? b=Y o->h'.get? b=Y o)->tn i h'
 item:∀(X:Cx),X.prog=P->X.w=w->X.K=K->X.calm=true->∀(i:O)(z8:J (J'×Rv))(s:LN)(σ:St)(H:Hp)(E:GC->LN->Prop),Inv X z8 σ H s->(∀b∈fp,pk X z8 H b)->tn i s.heap->B'.go i H ->
  wpAny (model P w) X.A (pyNext (.ref it)) (λr s1=>∃u,r=Y u /\
   wpAny (model P w) X.A (letOwnedTupleGo tg (.ref it) u) (λ_ s2=>∃x H',Inv X z8 σ H' s2/\RelV x u/\B'.yld i H x H'/\tn (i+1) s2.heap/\∀b∈fp,H' b=S) E s1) E s
 done:∀(X:Cx),X.prog=P->X.w=w->X.K=K->X.calm=true->∀(i:O)(z8:J (J'×Rv))(s:LN)(σ:St)(H:Hp)(E:GC->LN->Prop),Inv X z8 σ H s->(∀b∈fp,pk X z8 H b)->tn i s.heap->B'.stop i H ->
  wpAny (model P w) X.A (pyNext (.ref it)) (λr s1=>r=S/\Inv X z8 σ H s1) E s
 self:∀(A:Qs)(i:O)(s:LN)(Q:GC->LN->Prop)(E:GC->LN->Prop),tn i s.heap->Q (.ref it) s->wpAny (model P w) A (pyIter (.ref it)) Q E s
abbrev TI:=St->Hp->(It->Hp->Prop)->Prop
def PIE(X:Cx)(z8:J (J'×Rv))(σ:St)(tg:Qt)(R:It->Hp->Prop)(a:GC)(s2:LN):Prop :=
 ∃(it:J')(fp:J J')(tn:O->QD->Prop)(B':It)(H':Hp),a=.ref it/\Inv X z8 σ H' s2/\Turn X.prog X.w X.K tg B' fp it tn/\tn 0 s2.heap/\(∀b∈fp,pk X z8 H' b)/\R B' H'
def PI(X:Cx)(tg iter:Qt)(a:TI):Prop :=
 ∀(z8:J (J'×Rv))(s:LN)(σ:St)(H:Hp)(R:It->Hp->Prop),Inv X z8 σ H s->a σ H R ->
  wpAny (model X.prog X.w) X.A (eval iter X.env) (λv b=>wpAny (model X.prog X.w) X.A (pyIter v) (PIE X z8 σ tg R) X.xe b) X.xe s
theorem xw{o:Rv}{n:RI}{vs:QR GC}{Q:Vz->LN->Prop}(b:s.heap.get? it=Y o)(hc:o.cls=.type n)(hd:o.data=.fields vs)
    (hn:["enumerate", "zip", "dict_itemiterator", "dict_reverseitemiterator", "odict_iterator", "itertools.zip_longest", "itertools.pairwise"].contains n=false) (a:Q () s):wpAny M A (letOwnedTupleGo tg (.ref it) u) Q E s:=by
  unfold letOwnedTupleGo
  cases tg <;> first
    |exact K' a
    | (cases u <;> first
        |exact K' a
        | (refine F' (wpAny_load b ?_)
           rw[hc,hd]
           show wpAny M A (if (["enumerate", "zip", "dict_itemiterator", "dict_reverseitemiterator", "odict_iterator", "itertools.zip_longest", "itertools.pairwise"].contains n&&vs[0]?==Y (rawInt _))=true then _ else _) Q E s
           rw[I' (by intro h;rw[hn,Qo.false_and]at h;cases h)]
           exact K' a))
def Itl(K:Qp)(a:J'):It :=
 ⟨λi H=>∃xs x,SqL K H a xs/\xs[i]?=Y x,λi H x H'=>H'=H/\∀xs,SqL K H a xs->xs[i]?=Y x,λi H=>∃xs,SqL K H a xs/\xs.length<=i⟩
def Itt(K:Qp)(a:J'):It :=
 ⟨λi H=>∃xs x,SqT K H a xs/\xs[i]?=Y x,λi H x H'=>H'=H/\∀xs,SqT K H a xs->xs[i]?=Y x,λi H=>∃xs,SqT K H a xs/\xs.length<=i⟩
noncomputable def Itr(lo:Z)(n:O):It:=⟨λi _=>i<n,λi H x H'=>H'=H/\x=.int (lo+i),λi _=>n<=i⟩
theorem Cg(a it:J'):Turn P w K tg (Itl K a) [it] it (λi h=>h.IsListIter it a i) where
 mem:=by simp
 obj:=λi h st b f=>by
  have e:b=it:=by simpa using f
  subst e;obtain⟨o,e,c,d⟩:=st;exact⟨o,e,λv z=>by rw[d]at z;cases z⟩
 keep:=λi h h' st k=>st.at λo e=>k it #[2] o e
 item:=by
  intro X m hw hK hc i z8 s σ H E I j st n;subst m hw hK;obtain⟨xs,x,l,q⟩:=n;obtain⟨its,r,p,C⟩:=I.list l;obtain⟨u,D,F⟩:=r.get q;obtain⟨t,f1,f2,y,A,B⟩:=j it #[2];refine wpAny_pyNext_list_item st p.isList (x:=u) (by simpa using D) λh' g G=>?_
  have B':Inv X z8 σ H {s with heap:=h'}:=I.turned (t':=s.toks) (λb o f e=>(G.2 b f).trans e) t f1 y A B;obtain⟨o,e,c,d⟩:=id g;exact⟨u,rfl,xw (s:={s with heap:=h'}) e c d #[1] ⟨x,H,B',F,⟨rfl,λys Dd=>by rw[I.list_inj Dd l];exact q⟩,g,λb f=>(j b f).1⟩⟩
 done:=by intro X m hw hK hc i z8 s σ H E I j st n;subst m hw hK;obtain⟨xs,l,q⟩:=n;obtain⟨its,r,p,C⟩:=I.list l;obtain⟨t,f1,f2,y,A,B⟩:=j it #[2];have hl:=r.length;exact wpAny_pyNext_list_end (I.ok.hd hc) st p.isList (by simp;omega) λh' M=>⟨rfl,I.turned (t':=s.toks) (λb o f e=>M b o f e) t f1 y A B⟩
 self:=λ_ _ _ _ _ st h=>wpAny_pyIter_listiter st h
theorem yW(a it:J'):Turn P w K tg (Itt K a) [it] it (λi h=>h.IsTupleIter it a i) where
 mem:=by simp
 obj:=λi h st b f=>by
  have e:b=it:=by simpa using f
  subst e;obtain⟨o,e,c,d⟩:=st;exact⟨o,e,λv z=>by rw[d]at z;cases z⟩
 keep:=λi h h' st k=>st.at λo e=>k it #[2] o e
 item:=by
  intro X m hw hK hc i z8 s σ H E I j st n;subst m hw hK;obtain⟨xs,x,l,q⟩:=n;obtain⟨its,r,p,C⟩:=I.tuple l;obtain⟨u,D,F⟩:=r.get q;obtain⟨t,f1,f2,y,A,B⟩:=j it #[2];refine wpAny_pyNext_tuple_item st (show s.heap.IsTuple a its.toArray from p) (x:=u) (by simpa using D) λh' g G=>?_
  have B':Inv X z8 σ H {s with heap:=h'}:=I.turned (t':=s.toks) (λb o f e=>(G.2 b f).trans e) t f1 y A B;obtain⟨o,e,c,d⟩:=id g;exact⟨u,rfl,xw (s:={s with heap:=h'}) e c d #[1] ⟨x,H,B',F,⟨rfl,λys Dd=>by rw[I.tuple_inj Dd l];exact q⟩,g,λb f=>(j b f).1⟩⟩
 done:=by intro X m hw hK hc i z8 s σ H E I j st n;subst m hw hK;obtain⟨xs,l,q⟩:=n;obtain⟨its,r,p,C⟩:=I.tuple l;obtain⟨t,f1,f2,y,A,B⟩:=j it #[2];have hl:=r.length;exact wpAny_pyNext_tuple_end (I.ok.hd hc) st (show s.heap.IsTuple a its.toArray from p) (by simp;omega) λh' M=>⟨rfl,I.turned (t':=s.toks) (λb o f e=>M b o f e) t f1 y A B⟩
 self:=λ_ _ _ _ _ st h=>wpAny_pyIter_tupleiter st h
theorem zr(it:J')(lo:Z)(n:O):Turn P w K tg (Itr lo n) [it] it (λi h=>Tv h it (lo+(i:O)*1) ((n:Z)-(i:O)) 1) where
 mem:=by simp
 obj:=λi h st b a=>by
  have e:b=it:=by simpa using a
  subst e;exact⟨_,st,λv z=>by have r:VZ _=Wi v:=z;cases r⟩
 keep:=λi h h' st k=>k it #[2] _ st
 item:=by
  intro X g hw hK hc i z8 s σ H E I f st j;subst g hw hK;obtain⟨l,f1,f2,m,p,q⟩:=f it #[2];have W:=V' (prog:=X.prog) (w:=X.w) (I.ok.hd hc) it lo 1 n;refine W.item i s _ _ j st λv h' tk hv c u=>?_
  obtain⟨t,rfl⟩:=hv;have x:Inv X z8 σ H {s with heap:=h',toks:=tk}:=I.turned (λb o a e=>u b o (by simpa using a) e) l f1 m p q;refine⟨_,rfl,xw (s:={s with heap:=h',toks:=tk}) (n:="range_iterator") c rfl rfl #[1] ⟨.int (lo+i),H,x,⟨t,?_⟩,⟨rfl,rfl⟩,c,λb a=>(f b a).1⟩⟩;rw[W0]
 done:=by intro X g hw hK hc i z8 s σ H E I f st j;subst g hw hK;obtain⟨l,f1,f2,m,p,q⟩:=f it #[2];exact T9 (I.ok.hd hc) st (by have:n<=i:=j;omega) λh' y=>⟨rfl,I.turned (t':=s.toks) (λb o a e=>y b o a e) l f1 m p q⟩
 self:=λ_ _ _ _ _ st h=>Ta st h
section
def LO(K:Qp)(tl:TE):TI:=λσ H R=>tl σ H λx H1=>∃a,x=.ref a/\(∃xs,SqL K H1 a xs)/\R (Itl K a) H1
def Nf(K:Qp)(tl:TE):TI:=λσ H R=>tl σ H λx H1=>∃a,x=.ref a/\(∃xs,SqT K H1 a xs)/\R (Itt K a) H1
theorem Gu{l:Qt}{tl:TE}(hl:PE X l tl):PI X tg l (LO X.K tl):=by
 intro z8 s σ H R I h;refine thn (hl z8 s σ H _ I h) λv c g=>?_
 obtain⟨x,H1,f,i,j⟩:=g;obtain⟨a,e,⟨xs,m⟩,q⟩:=j;subst e;cases i;obtain⟨its,rv,p,hz⟩:=f.list m;refine RO p.isList ?_;refine⟨c.heap.objs.size,[c.heap.objs.size],_,_,H1,rfl,f.kept (t':=c.toks) λb o e=>N5 _ e,Cg a _,⟨_,NN _ rfl,rfl,rfl⟩,λb n=>?_,q⟩;have e:b=c.heap.objs.size:=by simpa using n
 subst e;exact f.fpOk (ND _) (f.hok.fresh (ND _))
theorem KJ{l:Qt}{tl:TE}(hl:PE X l tl):PI X tg l (Nf X.K tl):=by
 intro z8 s σ H R I h;refine thn (hl z8 s σ H _ I h) λv c g=>?_
 obtain⟨x,H1,f,i,j⟩:=g;obtain⟨a,e,⟨xs,m⟩,q⟩:=j;subst e;cases i;obtain⟨its,rv,p,hz⟩:=f.tuple m;refine RJ (show c.heap.IsTuple a its.toArray from p) ?_;refine⟨c.heap.objs.size,[c.heap.objs.size],_,_,H1,rfl,f.kept (t':=c.toks) λb o e=>N5 _ e,yW a _,⟨_,NN _ rfl,rfl,rfl⟩,λb n=>?_,q⟩;have e:b=c.heap.objs.size:=by simpa using n
 subst e;exact f.fpOk (ND _) (f.hok.fresh (ND _))
theorem xG{R:It->Hp->Prop}{lo hi:Z}{t u v:VI}{tk:O}(I:Inv X z8 σ H s)(h1:-(2 ^ 62)<=lo)(h2:lo<2 ^ 62)(c:-(2 ^ 62)<=hi)(f:hi<2 ^ 62)
  (q:R (Itr lo (hi-lo).toNat) H):wpAny (model X.prog X.w) X.A (pyIter (.ref s.heap.objs.size)) (PIE X z8 σ tg R) E {s with heap:=s.heap.push {cls:=.type "range",data:=.fields #[.int lo t,.int hi u,.int 1 v]},toks:=tk}:=by
 refine U7 (UX ..) (small_one h1 h2 c f) ?_;have a:Inv X z8 σ H {s with heap:=s.heap.push {cls:=.type "range",data:=.fields #[.int lo t,.int hi u,.int 1 v]},toks:=tk}:=I.kept λb o e=>N5 _ e
 refine⟨(s.heap.push {cls:=.type "range",data:=.fields #[.int lo t,.int hi u,.int 1 v]}).objs.size,[(s.heap.push {cls:=.type "range",data:=.fields #[.int lo t,.int hi u,.int 1 v]}).objs.size],_,_,H,rfl,
  a.kept (t':=tk) λb o e=>N5 _ e,zr _ lo (hi-lo).toNat,?_,λb g=>?_,q⟩
 .have e1:lo+((0:O):Z)*1=lo:=by simp
  have e2:(((hi-lo).toNat:O):Z)-((0:O):Z)=QL lo hi 1:=by rw[rangeSize_one];split <;> omega
  show Tv _ _ (lo+((0:O):Z)*1) ((((hi-lo).toNat:O):Z)-((0:O):Z)) 1;rw[e1,e2];exact NN _ rfl
 .have e:b=(s.heap.push {cls:=.type "range",data:=.fields #[.int lo t,.int hi u,.int 1 v]}).objs.size:=by simpa using g
  subst e;exact a.fpOk (ND _) (a.hok.fresh (ND _))
def LQ(ta:TA):TI:=λσ H R=>ta σ H λvs H1=>∃j:Z,vs=[.int j]/\-(2 ^ 62)<=j/\j<2 ^ 62/\R (Itr 0 j.toNat) H1
def Mp(ta:TA):TI:=λσ H R=>ta σ H λvs H1=>∃i j:Z,vs=[.int i,.int j]/\(-(2 ^ 62)<=i/\i<2 ^ 62/\-(2 ^ 62)<=j/\j<2 ^ 62)/\R (Itr i (j-i).toNat) H1
theorem Cc{a:Qt}{ta:TA}(f:Gl X "range")(hm:X.mg "range"=S)(ha:PA X [a] ta)(g:starEach [a] X.env=[(false,eval a X.env)]:=by rfl):PI X tg (.Call (.Name "range" p) [a] [] pos) (LQ ta):=by
 intro z8 s σ H R I h;refine Vl (fz I f hm U8 (Qv (thn (ha pos z8 s σ H _ I h) λus s1 b=>?_) g rfl));obtain⟨vs,H1,i,l,c⟩:=b;obtain⟨j,e,c,m,q⟩:=c;subst e;cases l with
 |cons r rr =>cases rr;obtain⟨t,rfl⟩:=r;exact call_range_1 (xG i ⋯ ⋯ c m (by simpa using q))
theorem Bq{a b:Qt}{ta:TA}(l:Gl X "range")(hm:X.mg "range"=S)(ha:PA X [a,b] ta)(m:starEach [a,b] X.env=[(false,eval a X.env),(false,eval b X.env)]:=by rfl)(c:starEach [b] X.env=[(false,eval b X.env)]:=by rfl) :
  PI X tg (.Call (.Name "range" p) [a,b] [] pos) (Mp ta):=by
 intro z8 s σ H R I h;refine Vl (fz I l hm U8 (Qv (thn (ha pos z8 s σ H _ I h) λus s1 f=>?_) (by rw[m,c]) (by rw[c];rfl)));obtain⟨vs,H1,n,o,g⟩:=f;obtain⟨i,j,e,⟨g,u,v,w⟩,q⟩:=g;subst e;cases o with
 |cons r rr =>
  cases rr with
  |cons r' rr =>cases rr;obtain⟨t,rfl⟩:=r;obtain⟨t',rfl⟩:=r';exact call_range_2 (xG n g u v w q)
def Ni(e:TI)(g:TG)(tb:TS):TS:=λD σ H=>e σ H λB' H1=>∃W:O->O->St->Hp->Prop,(∃m,W 0 m σ H1)/\∀i m σ H,W i m σ H ->
 (B'.stop i H/\D.nx σ H)\/(B'.go i H/\∃N:St->Hp->Prop,(∀a H',N a H'->∃c,c < m/\W (i+1) c a H')/\∀x H',B'.yld i H x H'->g x σ H' λb H2=>tb {D with nx:=N,ct:=N,bk:=D.nx} b H2)
def qh(fp:J J')(h:QD):J (J'×Rv):=fp.filterMap λb=>(h.get? b).map λo=>(b,o)
theorem jh{o:Rv}(a:b∈fp)(e:h.get? b=Y o):(b,o)∈qh fp h:=Q5.mpr ⟨b,a,by rw[e];rfl⟩
theorem BP{p:J'×Rv}(hp:p∈qh fp h):p.1∈fp/\h.get? p.1=Y p.2:=by
 obtain⟨b,a,e⟩:=Q5.mp hp;cases q:h.get? b with
 |none=>rw[q]at e;cases e
 |some o =>rw[q]at e;have c:(b,o)=p:=N4 e;subst c;exact⟨a,q⟩
theorem Inv.pinned(I:Inv X z8 σ H s)(f:∀b∈fp,pk X z8 H b)(g:∀b∈fp,∃o,s.heap.get? b=Y o/\∀v,o.data≠.cell v):Inv X (z8++qh fp s.heap) σ H s :=
 I.pins_of λp hp=>(NZ.mp hp).elim (λz=>I.pin p (NF _ z)) λz=>by obtain⟨a,e⟩:=BP z;obtain⟨h,f1,f2,_⟩:=f p.1 a;obtain⟨o,c,d⟩:=g p.1 a;rw[e]at c;cases c;exact⟨e,h,f1,f2,d⟩
theorem Inv.unpinned{pl:J (J'×Rv)}(I:Inv X (z8++pl) σ H s):Inv X z8 σ H s:=I.pins_of λp hp=>I.pin p (NF _ (O1 _ hp))
theorem D0{R:TI}{g:TG}{tb:TS}(hp:S' (model X.prog X.w) X.A X.env X.xe)(hc:X.calm=true)(hi:PI X tg iter R)(hg:PG X tg g)(j:PSs X body tb)
  (hs:∀x,foldedSetIterable iter X.env x=pure x:=by intro _;rfl):PS X (.For tg iter body [] pos) (Ni R g tb):=by
 intro z8 s σ H D I h;refine wpAny_For (thn (hi z8 s σ H _ I h) λv s1 h1=>thn h1 λitv s2 h2=>?_) hs;obtain⟨it,fp,tn,B',H2,e,I2,T,K,f2,W,⟨m0,w0⟩,turn⟩:=h2;subst e
 -- what stays true of the iterator's objects through the loop
 have l:∀{H':Hp},(∀b∈fp,H' b=S)->∀b∈fp,pk X z8 H' b:=λhn b j=>⟨hn b j,(f2 b j).2⟩
 refine codeAny_forLoop_any (λn s'=>∃i p H',Inv X z8 p H' s'/\tn i s'.heap/\(∀b∈fp,H' b=S)/\W i n p H') ?_ m0 ⟨0,σ,H2,I2,K,λb j=>(f2 b j).1,w0⟩
 rintro n D' ⟨i,q,G,U,C,E,w3⟩
 rcases turn i n q G w3 with⟨stop,qn⟩|⟨go,N,hN,step⟩
 .refine Ry hp (thn (T.done X rfl rfl rfl hc i z8 D' q G X.xe U (l E) C stop) λr s4 c=>?_);obtain⟨Dd,I4⟩:=c;subst Dd;exact Sn ⟨q,G,I4,qn⟩
 .refine Ry hp (thn (T.item X rfl rfl rfl hc i z8 D' q G X.xe U (l E) C go) λr s4 c=>?_);obtain⟨u,Dd,h4⟩:=c;subst Dd;refine Ry hp (thn h4 λ_ A4 c=>?_);obtain⟨x,A2,I5,r5,y5,B,M⟩:=c;have EE:=I5.pinned (l M) (T.obj _ _ B);refine Ry hp (thn (hg _ A4 q A2 x u _ EE r5 (step x A2 y5)) λ_ s6 c=>?_);obtain⟨P,H6,I6,q6⟩:=c;refine Ry hp (thn (j _ s6 P H6 _ I6 q6) λf Q z=>?_);have again:∀{a:St}{t:Hp},Inv X (z8++qh fp A4.heap) a t Q->N a t->∃m,m<n/\∃i p H',Inv X z8 p H' Q/\tn i Q.heap/\(∀b∈fp,H' b=S)/\W i m p H':=λ{a t} y F=>by obtain⟨m',hm,w7⟩:=hN a t F;refine⟨m',hm,i+1,a,t,y.unpinned,T.keep _ _ _ B λb j o e=>(y.pin (b,o) (NF _ (NF _ (jh j e)))).1,λb j=>?_,w7⟩;obtain⟨o,e,d⟩:=T.obj _ _ B b j;exact (y.pin (b,o) (NF _ (NF _ (jh j e)))).2.1
  cases f with
  |next=>obtain⟨a,t,y,F⟩:=z;exact again y F
  |cont=>obtain⟨a,t,y,F⟩:=z;exact again y F
  |brk=>obtain⟨a,t,y,z⟩:=z;exact⟨a,t,y.unpinned,z⟩
  |ret v=>obtain⟨x7,a,t,y,r7,z⟩:=z;exact⟨x7,a,t,y.unpinned,r7,z⟩
end
abbrev R2:=V->V->Hp->VK->Prop
variable {r:R2}
def OpR(X:Cx)(f:GC->GC->Wh GC)(r:R2):Prop :=
 ∀(z8:J (J'×Rv))(s:LN)(σ:St)(H:Hp)(x y:V)(v u:GC)(Q:VK),Inv X z8 σ H s->RelV x v->RelV y u->r x y H Q ->
  wpAny (model X.prog X.w) X.A (f v u) (EP X z8 σ Q) X.xe s
def UnR(X:Cx)(f:GC->Wh GC)(r:V->Hp->VK->Prop):Prop :=
 ∀(z8:J (J'×Rv))(s:LN)(σ:St)(H:Hp)(x:V)(v:GC)(Q:VK),Inv X z8 σ H s->RelV x v->r x H Q ->
  wpAny (model X.prog X.w) X.A (f v) (EP X z8 σ Q) X.xe s
def kf(X:Cx)(f:GC)(r:J V->Hp->VK->Prop):Prop :=
 ∀(z8:J (J'×Rv))(s:LN)(σ:St)(H:Hp)(xs:J V)(us:J GC)(Q:VK),Inv X z8 σ H s->Vals xs us->r xs H Q ->
  wpAny (model X.prog X.w) X.A (call f us) (EP X z8 σ Q) X.xe s
def tOp(r:R2)(ta tb:TE):TE:=λσ H Q=>ta σ H λx H1=>tb σ H1 λy H2=>r x y H2 Q
def tUn(r:V->Hp->VK->Prop)(ta:TE):TE:=λσ H Q=>ta σ H λx H1=>r x H1 Q
def rI(C:Z->Z->Prop)(g:Z->Z->V):R2:=λx y H Q=>∃i j,x=.int i/\y=.int j/\C i j/\Q (g i j) H
def rI0(g:Z->Z->V):R2:=λx y H Q=>∃i j,x=.int i/\y=.int j/\Q (g i j) H
def rU(g:Z->V):V->Hp->VK->Prop:=λx H Q=>∃i,x=.int i/\Q (g i) H
section
variable {a b:Qt}{ta tb tc:TE}
theorem Jt(ha:PE X a ta)(i:PE X b tb)(I:Inv X z8 σ H s)
  (h:ta σ H λx H1=>tb σ H1 λy H2=>R x y H2) {f:GC->GC->Wh GC}
  (j:∀v u s2 x y H2,Inv X z8 σ H2 s2->RelV x v->RelV y u->R x y H2->wpAny (model X.prog X.w) X.A (f v u) Q X.xe s2) :
  wpAny (model X.prog X.w) X.A (eval a X.env) (λv e=>wpAny (model X.prog X.w) X.A (eval b X.env) (λu g=>wpAny (model X.prog X.w) X.A (f v u) Q X.xe g) X.xe e) X.xe s:=by
 refine thn (ha z8 s σ H _ I h) λv l c=>?_
 obtain⟨x,H1,m,n,o⟩:=c;refine thn (i z8 l σ H1 _ m o) λu s2 c=>?_
 obtain⟨y,H2,p,q,r⟩:=c;exact j v u s2 x y H2 p n q r
theorem fg{op:VY}(c:OpR X (binaryOp op) r)(ha:PE X a ta)(e:PE X b tb):PE X (.BinOp a op b pos) (tOp r ta tb):=by intro z8 s σ H Q I h;exact wpAny_BinOp (Jt ha e I h λv u s2 x y H2 f g i q=>c z8 s2 σ H2 x y v u Q f g i q)
theorem MK{op:UnaryOp}{r:V->Hp->VK->Prop}(c:UnR X (unaryOp op) r)(ha:PE X a ta):PE X (.UnaryOp op a pos) (tUn r ta):=by intro z8 s σ H Q I h;exact UnaryOp_ (thn (ha z8 s σ H _ I h) λv e b=>(by obtain⟨x,H1,f,g,i⟩:=b;exact c z8 e σ H1 x v Q f g i))
theorem opI{f:GC->GC->Wh GC}{C:Z->Z->Prop}
  (rule:∀(i j:Z)(t u:VI)(s:LN)(Q:GC->LN->Prop)(E:GC->LN->Prop),C i j->Q (.int (g i j) s.toks) {s with toks:=s.toks+1}->wpAny (model X.prog X.w) X.A (f (.int i t) (.int j u)) Q E s) :
  OpR X f (rI C λi j=>.int (g i j)):=by
 intro z8 s σ H x y v u Q I a b h;obtain⟨i,j,rfl,rfl,hc,q⟩:=h;obtain⟨t,rfl⟩:=a;obtain⟨t',rfl⟩:=b;exact rule i j t t' s _ _ hc ⟨.int (g i j),H,I.tok _,⟨_,rfl⟩,q⟩
theorem Lz{f:GC->GC->Wh GC}
  (rule:∀(i j:Z)(t u:VI)(s:LN)(Q:GC->LN->Prop)(E:GC->LN->Prop),Q (.int (g i j) s.toks) {s with toks:=s.toks+1}->wpAny (model X.prog X.w) X.A (f (.int i t) (.int j u)) Q E s) :
  OpR X f (rI0 λi j=>.int (g i j)):=by
 intro z8 s σ H x y v u Q I a b h;obtain⟨i,j,rfl,rfl,q⟩:=h;obtain⟨t,rfl⟩:=a;obtain⟨t',rfl⟩:=b;exact rule i j t t' s _ _ ⟨.int (g i j),H,I.tok _,⟨_,rfl⟩,q⟩
theorem Kt{f:GC->GC->Wh GC}{g:Z->Z->Qo}
  (rule:∀(i j:Z)(t u:VI)(s:LN)(Q:GC->LN->Prop)(E:GC->LN->Prop),Q (.bool (g i j)) s->wpAny (model X.prog X.w) X.A (f (.int i t) (.int j u)) Q E s) :
  OpR X f (rI0 λi j=>.bl (g i j)):=by
 intro z8 s σ H x y v u Q I a b h;obtain⟨i,j,rfl,rfl,q⟩:=h;obtain⟨t,rfl⟩:=a;obtain⟨t',rfl⟩:=b;exact rule i j t t' s _ _ ⟨.bl (g i j),H,I,rfl,q⟩
def LI(i j:Z):Prop:=0<j/\j<1073741824
def Hn(i j:Z):Prop:=(-(2 ^ 64)<i/\i<2 ^ 64)\/(-(2 ^ 64)<j/\j<2 ^ 64)
theorem Hn.ok{i j:Z}(h:Hn i j):IntMulOk i j:=by
 rcases h with⟨h1,h2⟩|⟨h1,h2⟩
 .exact .of_left (intBits_le_64 h1 h2)
 .exact .of_right (intBits_le_64 h1 h2)
theorem mG:OpR X (binaryOp .Add) (rI0 λi j=>.int (i+j)):=Lz λ_ _ _ _ _ _ _ q=>add_int q
theorem Jx:OpR X (binaryOp .Sub) (rI0 λi j=>.int (i-j)):=Lz λ_ _ _ _ _ _ _ q=>sub_int q
theorem mJ:OpR X (binaryOp .Mult) (rI Hn λi j=>.int (i*j)):=opI λ_ _ _ _ _ _ _ hc q=>mul_int q hc.ok
theorem GP:OpR X (binaryOp .FloorDiv) (rI LI λi j=>.int (i / j)):=opI λi j _ _ _ _ _ hc q=>by have h1:(0:Z)<j:=hc.1;have h2:j<1073741824:=hc.2;exact floordiv_int ⋯ (by rw[Z.fdiv_eq_ediv_of_nonneg i ⋯];exact q) (.inl (Tb ⋯))
theorem qm:OpR X (binaryOp .Mod) (rI (λ_ j=>0<j) λi j=>.int (i % j)):=opI λi j _ _ _ _ _ hc q=>by have h1:(0:Z)<j:=hc;exact mod_int' ⋯ (by rw[Z.fmod_eq_emod_of_nonneg i ⋯];exact q)
theorem unI{f:GC->Wh GC}{g:Z->Z}
  (rule:∀(i:Z)(t:VI)(s:LN)(Q:GC->LN->Prop)(E:GC->LN->Prop),Q (.int (g i) s.toks) {s with toks:=s.toks+1}->wpAny (model X.prog X.w) X.A (f (.int i t)) Q E s) :
  UnR X f (rU λi=>.int (g i)):=by
 intro z8 s σ H x v Q I a h;obtain⟨i,rfl,q⟩:=h;obtain⟨t,rfl⟩:=a;exact rule i t s _ _ ⟨.int (g i),H,I.tok _,⟨_,rfl⟩,q⟩
theorem Kx:UnR X (unaryOp .USub) (rU λi=>.int (-i)):=unI λ_ _ _ _ _ q=>neg_int q
end
section
variable {a b:Qt}{ta tb tc:TE}
theorem IS:OpR X (compareOp .Lt) (rI0 λi j=>.bl (decide (i<j))):=Kt λ_ _ _ _ _ _ _ q=>lt_int q
theorem xq:OpR X (compareOp .LtE) (rI0 λi j=>.bl (decide (i<=j))):=Kt λ_ _ _ _ _ _ _ q=>le_int q
theorem Jc:OpR X (compareOp .Gt) (rI0 λi j=>.bl (decide (j<i))):=Kt λ_ _ _ _ _ _ _ q=>gt_int q
theorem OpR.or{f:GC->GC->Wh GC}{a:R2}(h:OpR X f r)(h':OpR X f a):OpR X f (λx y H Q=>r x y H Q\/a x y H Q):=by
 intro z8 s σ H x y v u Q I b c q;rcases q with q|q
 .exact h z8 s σ H x y v u Q I b c q
 .exact h' z8 s σ H x y v u Q I b c q
theorem kj(b:Qt)(h:op≠.In:=by decide)(h2:op≠.NotIn:=by decide):behindInMarks op b=false:=by
 have e1:(op==Wl)=false:=by cases op <;> first|rfl|cases h rfl
 have e2:(op==VX)=false:=by cases op <;> first|rfl|cases h2 rfl
 cases b <;> simp[behindInMarks,e1,e2]
theorem uR(c:OpR X (compareOp op) r)(ha:PE X a ta)(e:PE X b tb)(hm:behindInMarks op b=false):PE X (.Compare a [op] [b] pos) (tOp r ta tb):=by intro z8 s σ H Q I h;exact Vk (Jt ha e I h λv u s2 x y H2 f g i q=>c z8 s2 σ H2 x y v u Q f g i q) hm
def EC(t:TE):TT:=λσ H Q=>t σ H λx H'=>∃k,x=.bl k/\Q k H'
theorem jB(g:OpR X (compareOp op) r)(ha:PE X a ta)(i:PE X b tb)(hm:behindInMarks op b=false):PT X (.Compare a [op] [b] pos) (EC (tOp r ta tb)):=by
 intro z8 s σ H Q I h;refine To (thn (ha z8 s σ H _ I h) λv j f=>?_) hm;obtain⟨x,H1,l,m,n⟩:=f;refine thn (i z8 j σ H1 _ l n) λu s2 f=>?_
 obtain⟨y,H2,o,p,q⟩:=f;refine thn (g z8 s2 σ H2 x y v u _ o m p q) λc s3 f=>?_
 obtain⟨z,t,w,A,k,e,B⟩:=f;subst e;cases A;exact QG ⟨t,w,B⟩
def yI(r b:R2)(ta tb tc:TE):TE:=λσ H Q=>ta σ H λx H1=>tb σ H1 λy H2=>r x y H2 λz a=>∃k,z=.bl k /\
 (if k=true then tc σ a λc e=>b y c e Q else Q (.bl false) a)
theorem DF{g:UT}{l:R2}(q:OpR X (compareOp op) r)(i:OpR X (compareOp g) l)(ha:PE X a ta)(t:PE X b tb)(hc:PE X c tc)
  (hm:lastMarks [op,g] [b,c]=false:=by with_unfolding_all rfl):PE X (.Compare a [op,g] [b,c] pos) (yI r l ta tb tc):=by
 intro z8 s σ H Q I h;refine Compare_chain (thn (ha z8 s σ H _ I h) λv w f=>?_) hm;obtain⟨x,H1,A,B,C⟩:=f;refine chain_link (thn (t z8 w σ H1 _ A C) λu s2 f=>?_);obtain⟨y,H2,D,m,E⟩:=f;refine thn (q z8 s2 σ H2 x y v u _ D B m E) λd F f=>?_
 obtain⟨z,n,o,G,k,e,p⟩:=f;subst e;cases G;refine QG ?_;cases k with
 |false=>exact ite_ff ⟨.bl false,n,o,rfl,p⟩
 |true=>exact ite_tt (chain_last (thn (hc z8 F σ n _ o p) λB' K j=>(by obtain⟨Dd,M,N,EE,P⟩:=j;exact i z8 K σ M y Dd u B' Q N m EE P)))
theorem C5{g:UT}{j:R2}(p:OpR X (compareOp op) r)(i:OpR X (compareOp g) j)(ha:PE X a ta)(q:PE X b tb)(hc:PE X c tc)
  (hm:lastMarks [op,g] [b,c]=false:=by with_unfolding_all rfl):PT X (.Compare a [op,g] [b,c] pos) (EC (yI r j ta tb tc)):=by
 intro z8 s σ H Q I h;refine isTrue_chain (thn (ha z8 s σ H _ I h) λv t f=>?_) hm;obtain⟨x,H1,w,A,B⟩:=f;refine test_link (thn (q z8 t σ H1 _ w B) λu s2 f=>?_);obtain⟨y,H2,C,l,D⟩:=f;refine thn (p z8 s2 σ H2 x y v u _ C A l D) λd E f=>?_
 obtain⟨z,m,n,F,k,e,o⟩:=f;subst e;cases F;refine QG ?_;cases k with
 |false =>obtain⟨k',G,B'⟩:=o;cases G;exact ite_ff ⟨m,n,B'⟩
 |true =>
  refine ite_tt (test_last (thn (hc z8 E σ m _ n o) λK Dd f=>?_));obtain⟨M,N,EE,P,R⟩:=f;refine thn (i z8 Dd σ N y M u K _ EE l P R) λd' s5 f=>?_
  obtain⟨z2,D',T,U,k2,e2,W⟩:=f;subst e2;cases U;exact QG ⟨D',T,W⟩
theorem vo:(sizeLine:O)<2 ^ 63:=by rw[QI];decide
theorem vals1{x:V}(r:Vals [x] us):∃u,us=[u]/\RelV x u:=by
 cases r with
 |cons r1 r2=>cases r2;exact⟨_,rfl,r1⟩
theorem vals2{x y:V}(r:Vals [x,y] us):∃u a,us=[u,a]/\RelV x u/\RelV y a:=by
 cases r with
 |cons r1 r2 =>
  cases r2 with
  |cons r3 r4=>cases r4;exact⟨_,_,rfl,r1,r3⟩
theorem BX(hc:X.calm=true):kf X (.builtin "max") (λxs H Q=>∃i j,xs=[.int i,.int j]/\Q (.int (if j>i then j else i)) H):=by
 intro z8 s σ H xs us Q I r h;obtain⟨i,j,rfl,q⟩:=h;obtain⟨u,w',rfl,⟨t,rfl⟩,⟨t',rfl⟩⟩:=vals2 r;refine max_two_ints (I.ok.hd hc) λh' tk k=>⟨_,H,I.kept k,?_,q⟩
 by_cases hj:j>i
 .rw[HL hj,HL hj];exact⟨_,rfl⟩
 .rw[I' hj,I' hj];exact⟨_,rfl⟩
theorem B4(hc:X.calm=true):kf X (.builtin "min") (λxs H Q=>∃i j,xs=[.int i,.int j]/\Q (.int (if j<i then j else i)) H):=by
 intro z8 s σ H xs us Q I r h;obtain⟨i,j,rfl,q⟩:=h;obtain⟨u,w',rfl,⟨t,rfl⟩,⟨t',rfl⟩⟩:=vals2 r;refine min_two_ints (I.ok.hd hc) λh' tk k=>⟨_,H,I.kept k,?_,q⟩
 by_cases hj:j<i
 .rw[HL hj,HL hj];exact⟨_,rfl⟩
 .rw[I' hj,I' hj];exact⟨_,rfl⟩
theorem CK:kf X (.type "int") (λxs H Q=>(∃i,xs=[.int i]/\Q (.int i) H)\/∃k,xs=[.bl k]/\Q (.int (if k then 1 else 0)) H):=by
 intro z8 s σ H xs us Q I r h;rcases h with⟨i,rfl,q⟩|⟨k,rfl,q⟩
 .obtain⟨u,rfl,t,rfl⟩:=vals1 r;exact call_int_int ⟨.int i,H,I,⟨_,rfl⟩,q⟩
 .obtain⟨u,rfl,a⟩:=vals1 r;cases a;exact call_int_bool ⟨.int (if k then 1 else 0),H,I.tok _,⟨_,rfl⟩,q⟩
end
structure B9(h:QD)(x dx C:J')(mA:Qn->F1 GC):Prop where
 obj:h.get? x=Y (Sf C dx)
 ns:h.Ns1 dx mA
 ne:dx≠x
theorem CN(n:h.Ns1 dx mA):∃od,h.get? dx=Y od/\∀name,W2 name od=Y (mA name):=by
 obtain⟨o,es,ep,c,hd,f,_,hm⟩:=n;refine⟨o,c,λname=>?_⟩;have e:=hm name;unfold nsFind findBy at e;rw[<-QR.find?_toList]at e;unfold W2;rw[hd];dsimp only;split
 .rename_i y q;rw[q]at e;exact congrArg Y e
 .rename_i q;rw[q]at e;have a:es.toList.any (·.refKey)=false:=by rw[Qa];intro y g;obtain⟨z,t,b⟩:=f y (QR.mem_toList_iff.mp g);simp[UN.refKey,b]
  have i:¬ es.toList.any (·.refKey)=true:=by rw[a];exact NL
  rw[I' i];exact congrArg Y e
theorem B9.look{x:J'}(I:B9 h x dx C mA):∃od,W.InstAt h x (Sf C dx) C (Y od)/\∀name,W2 name od=Y (mA name) :=
 let ⟨od,ho,hl⟩:=CN I.ns
 ⟨od,⟨I.obj,rfl,rfl,ho⟩,hl⟩
section
variable {x f:J'}{name:Qn}{v:GC}
theorem get_map{expr:Qo}(X:K.In s.heap)(I:B9 s.heap x dx C mA)(b:Vm K C name=true)(c:UY K C=true)
  (ha:S7 K (.ref C) name=Y S) (hv:mA name=Y v) (a:W.handedIn v=true) (h:Q v {s with toks:=s.toks+1}) :
  wpAny (model prog w) A (getAttr (.ref x) name expr) Q E s:=by
 obtain⟨od,B',hl⟩:=I.look;exact W.get_value X B' (W.plainGet_of b).1 (W.findObj_own c ha rfl (by rw[hl,hv])) a h
theorem FX{ns:J Qn}{Q:Vz->LN->Prop}(X:K.In s.heap)(I:B9 s.heap x dx C mA)
  (j:S7 K (.ref C) "__setattr__"=Y (Y (.builtin "object.__setattr__"))) (hp:W.plainOver K C=true) (l:VG K C name=Y S) (m:UY K C=true)
  (hw:PySem.Within mA ns) (hsz:ns.length<=sizeLine)
  (h:∀h',B9 h' x dx C (λy=>if y=name then Y v else mA y)->R0 dx s.heap h'->Q () {s with heap:=h',toks:=s.toks+2}) :
  wpAny (model prog w) A (setAttr (.ref x) name v) Q E s:=by
 obtain⟨od,B',hl⟩:=I.look;refine W.set_plain X B' j (W.osa_open (s:={s with toks:=s.toks+1}) (r:=S) X B' hp l λb=>?_);obtain⟨cd,hc,f⟩:=W.any_some m;have n:s.heap.get? x=Y ⟨.ref C,Y dx,.plain,#[]⟩:=I.obj;refine F' (K' (F' (F' (Tw n (F' (W.Looks.here (s:={s with toks:=s.toks+1}) (W.looks_clsIn X hc) ?_))))));rw[f];refine K' (a:=Y dx) (F' (K' (F' ?_)));refine wpAny_nsSet1 (s:={s with toks:=s.toks+1}) I.ns λh' c e=>?_
 obtain⟨oD,esD,epD,g,hdD,i⟩:=c.count (PySem.Within.cons name v hw);refine F' (wpAny_lookBehind g (by rw[hdD];exact pastItsLine_dict (OG i (by rw[NP];omega))) ?_);exact K' (h _ ⟨(e.2 _ (Rm I.ne)).trans I.obj,c,I.ne⟩ e)
theorem C6{R:Tz->LN->Prop}{vs:J GC}{a:J (Qn×GC)}(X:K.In s.heap)(hm:VH K C=true)
  (hi:S7 K (.ref C) "__init__"=Y (Y (.ref f))) (b:W.typeIn K (.ref f)=Y (.type "function"))
  (h:codeAny (model prog w) (A.under (.builtin "type.__call__" ⟨.ref C::vs,a⟩)) (.call (.ref f) ⟨.ref (s.heap.objs.size+1)::vs,a⟩) (W.InitBack (s.heap.objs.size+1) R)
   {s with heap:=(s.heap.push RR).push (Sf C s.heap.objs.size)}) :
  codeAny (model prog w) A (.call (.ref C) ⟨vs,a⟩) R s:=by
 obtain⟨hh,g,d,t,os⟩:=s;exact W.make_core (W.makes_of X hm) (W.looks_findIn X hi) (λself=>W.bind_fn X self b) (.inl rfl) h
end
def kO(f:Qn)(v:V):J (Qn×V)->J (Qn×V)
 |[]=>[(f,v)]
 |(g,x)::r=>if g=f then (g,v)::r else (g,x)::kO f v r
theorem nH(f g:Qn)(v:V):∀fs:J (Qn×V),(kO f v fs).lookup g=if g=f then Y v else fs.lookup g
 |[]=>by
  show S5 g [(f,v)]=_;by_cases h:g=f
  .have a:(g==f)=true:=RK.mpr h;dsimp[S5,a,HL h]
  .have a:(g==f)=false:=QJ.mpr h;dsimp[S5,a,I' h]
 |(k,x)::r=>by
  have b:=nH f g v r;rw[show kO f v ((k,x)::r)=(if k=f then (k,v)::r else (k,x)::kO f v r) from rfl];by_cases hk:k=f
  .rw[HL hk];by_cases h:g=k
   .have a:(g==k)=true:=RK.mpr h;dsimp[S5,a,HL (h.trans hk)]
   .have a:(g==k)=false:=QJ.mpr h;dsimp[S5,a,I' (λe:g=f=>h (e.trans hk.symm))]
  .rw[I' hk];by_cases h:g=k
   .have a:(g==k)=true:=RK.mpr h;dsimp[S5,a,I' (λe:g=f=>hk (h.symm.trans e))]
   .have a:(g==k)=false:=QJ.mpr h;dsimp[S5,a];exact b
theorem nu(f:Qn)(v:V):∀fs:J (Qn×V),f∈(kO f v fs).map (·.1)/\∀g,g∈fs.map (·.1)->g∈(kO f v fs).map (·.1)
 |[]=>⟨by simp[kO],λg h=>by simp at h⟩
 |(k,x)::r=>by
  obtain⟨i1,i2⟩:=nu f v r;rw[show kO f v ((k,x)::r)=(if k=f then (k,v)::r else (k,x)::kO f v r) from rfl];by_cases hk:k=f
  .rw[HL hk];subst hk;exact⟨by simp,λg h=>by simpa using h⟩
  .rw[I' hk];refine⟨?_,λg h=>?_⟩
   .rw[N2];exact N0 _ i1
   .rw[N2]at h ⊢;rcases NB.mp h with e|e
    .exact NB.mpr (.inl e)
    .exact N0 _ (i2 g e)
theorem nJ(f:Qn)(v:V):∀fs:J (Qn×V),(kO f v fs).length<=fs.length+1
 |[]=>by simp[kO]
 |(k,x)::r=>by
  have ih:=nJ f v r;rw[show kO f v ((k,x)::r)=(if k=f then (k,v)::r else (k,x)::kO f v r) from rfl];by_cases hk:k=f
  .rw[HL hk,NP,NP];omega
  .rw[I' hk,NP,NP];omega
theorem nA.some_of{o:F1 GC}(r:nA (Y v) o):∃u,o=Y u/\RelV v u:=by
 cases o with
 |none=>exact (show False from r).elim
 |some u=>exact⟨u,rfl,r⟩
theorem Bh(r:RelV v u):W.handedIn u=true:=by
 cases v with
 |non=>cases (show u=Rq from r);rfl
 |bl b=>cases (show u=Sz b from r);rfl
 |int i=>obtain⟨t,e⟩:=(show ∃t,u=Se i t from r);cases e;rfl
 |str x=>obtain⟨t,e⟩:=(show ∃t,u=UE x t from r);cases e;rfl
 |byt b=>obtain⟨t,e⟩:=(show ∃t,u=VV b t from r);cases e;rfl
 |flt b=>obtain⟨t,e⟩:=(show ∃t,u=VW b t from r);cases e;rfl
 |ref a=>cases (show u=Qw a from r);rfl
 |ty n=>cases (show u=SA n from r);rfl
section
variable {H':Hp}{fs fs':J (Qn×V)}
theorem Ap(hok:HOk P w H h)(e:H a=Y (.ins C dx fs)):∃mA,B9 h a dx C mA/\(∀f,nA (fs.lookup f) (mA f))/\PySem.Within mA (fs.map (·.1))/\fs.length<=1000/\H dx=Y (.own a):=by
 obtain⟨d,z,ne,ob,mA,n,r,q⟩:=(show cC P w H h a (.ins C dx fs) from hok a _ e)
 exact⟨mA,⟨ob,n,ne⟩,r,q,z,d⟩
end
structure Cls(K:Qp)(C:J'):Prop where
 pg:Vm K C Qn.empty=true
 hd:UY K C=true
 po:W.plainOver K C=true
 sa:S7 K (.ref C) "__setattr__"=Y (Y (.builtin "object.__setattr__"))
theorem Cls.get(c:Cls K C)(f:Qn):Vm K C f=true:=c.pg
def iK(K:Qp)(C:J')(f:Qn):Prop:=S7 K (.ref C) f=Y S
theorem iK.taker{f:Qn}(n:iK K C f):VG K C f=Y none:=by unfold VG;rw[show S7 K (.ref C) f=Y S from n];rfl
structure Meth(K:Qp)(C:J')(m:Qn)(f:J'):Prop where
 at_:S7 K (.ref C) m=Y (Y (.ref f))
 fn:W.isFn K (.ref f)=true
 kp:S8 K (.ref f)=true
section
variable {fs:J (Qn×V)}{f:Qn}
theorem yK{b:Qo}(I:Inv X z8 σ H s)(e:H a=Y (.ins C dx fs))(c:Cls X.K C)(n:iK X.K C f)(l:fs.lookup f=Y v)
  (h:∀u s',Inv X z8 σ H s'->RelV v u->Q u s'):wpAny (model X.prog X.w) A (getAttr (.ref a) f b) Q E s:=by
 obtain⟨mA,EE,r,_,_,_⟩:=Ap I.hok e;obtain⟨u,i,g⟩:=nA.some_of (v:=v) (o:=mA f) (by rw[<-l];exact r f);exact get_map I.kIn EE (c.get f) c.hd n i (Bh g) (h u _ (I.tok _) g)
theorem yH{y:V}{Q:Vz->LN->Prop}(I:Inv X z8 σ H s)(e:H a=Y (.ins C dx fs))(c:Cls X.K C)(n:iK X.K C f)(hl:fs.length<1000)(l:RelV y u)
  (h:∀s',Inv X z8 σ (upd H a (.ins C dx (kO f y fs))) s'->Q () s'):wpAny (model X.prog X.w) A (setAttr (.ref a) f u) Q E s:=by
 obtain⟨mA,EE,r,i,_,j⟩:=Ap I.hok e;have m:(fs.map (·.1)).length<=sizeLine:=by rw[N8,QI];omega
 refine FX I.kIn EE c.sa c.po n.taker c.hd i m λh' O' p=>h _ ?_
 have hd:∃o,h'.get? dx=Y o:=let ⟨o,_,_,e',_⟩:=O'.ns;⟨o,e'⟩;refine I.write (x:=a) (e:=dx) (by rw[e];exact RC) (.inr j) (λb q t z=>(p.2 b t).trans z) hd ?_;refine⟨by rw[aB EE.ne];exact j,?_,EE.ne,O'.obj,_,O'.ns,λg=>?_,λg v=>?_⟩
 .have:=nJ f y fs;omega
 .show nA ((kO f y fs).lookup g) (if g=f then Y u else mA g);rw[nH];by_cases q:g=f
  .rw[HL q,HL q];exact l
  .rw[I' q,I' q];exact r g
 .by_cases q:g=f
  .rw[q];exact (nu f y fs).1
  .refine (nu f y fs).2 g (i g λz=>v ?_);show (if g=f then Y u else mA g)=S;rw[I' q];exact z
theorem Inv.made(I:Inv X z8 σ H s):Inv X z8 σ (upd (upd H s.heap.objs.size (.own (s.heap.objs.size+1))) (s.heap.objs.size+1) (.ins C s.heap.objs.size []))
  {s with heap:=(s.heap.push RR).push (Sf C s.heap.objs.size)}:=by
 have e1:(s.heap.push RR).get? s.heap.objs.size=Y W.emptyDict:=NN s.heap rfl;have e2:((s.heap.push RR).push (Sf C s.heap.objs.size)).get? (s.heap.objs.size+1)=Y (Sf C s.heap.objs.size):=by
  have:=NN (s.heap.push RR) (o:=Sf C s.heap.objs.size) rfl
  rwa[R8]at this
 have c:(s.heap.push RR).Ns s.heap.objs.size (λ_=>S):=⟨RR,#[],_,e1,rfl,(λe f=>Qr f #[2]),λ_=>rfl⟩
 have g:=I.laid (a:=s.heap.objs.size) (o:=.own (s.heap.objs.size+1)) (h':=s.heap.push RR) (t':=s.toks) (λb u q=>N5 _ q) (ND _) ⟨_,e1⟩;refine g.laid (a:=s.heap.objs.size+1) (o:=.ins C s.heap.objs.size []) (t':=s.toks) (λb u q=>N5 _ q) (Uk (R8 _ _)) ?_;have ne:s.heap.objs.size≠s.heap.objs.size+1:=NJ (Pe _);refine⟨by rw[aB ne,aM],Ot _,ne,e2,λ_=>S,(QD.Ns1.of_empty c).at λo q=>N5 _ q,λ_=>RC,λy h=>Qr rfl h⟩
theorem Gd{f:Qn}(b:attributeBase e f env (eval e env)=eval e env)
  (h:wpAny (model prog w) A (eval e env) (λo a=>wpAny (model prog w) A (getAttr o f true) Q E a) E s):wpAny (model prog w) A (eval (.Attribute e f pos) env) Q E s :=
 Attribute_any_ h (by rw[arm_eval_Attribute,b])
end
def MZ(K:Qp)(ta:TE)(f:Qn):TE:=λσ H Q=>ta σ H λx H1=>∃a C dx fs v,x=.ref a/\H1 a=Y (.ins C dx fs)/\Cls K C/\iK K C f/\fs.lookup f=Y v/\Q v H1
def MN(K:Qp)(ta tv:TE)(f:Qn):TS:=λD σ H=>tv σ H λy H1=>ta σ H1 λx H2=>∃a C dx fs,x=.ref a/\H2 a=Y (.ins C dx fs)/\Cls K C/\iK K C f/\fs.length<1000 /\
 D.nx σ (upd H2 a (.ins C dx (kO f y fs)))
section
variable {o value:Qt}{f:Qn}{tpos:Ts}{ta tv:TE}
theorem J7(g:PE X e ta)(i:attributeBase e f X.env (eval e X.env)=eval e X.env):PE X (.Attribute e f pos) (MZ X.K ta f):=by intro z8 s σ H Q I h;refine Gd i (thn (g z8 s σ H _ I h) λu s1 b=>?_);obtain⟨x,H1,j,m,a,C,dx,fs,v,ex,ea,c,n,l,q⟩:=b;subst ex;obtain rfl:u=Qw a:=m;exact yK j ea c n l λu' s2 o p=>⟨v,H1,o,p,q⟩
theorem tY(ha:PE X o ta)(hv:PE X value tv)(e:swapsWith value (Y (.Attribute o f pos')) pos.line X.env=pure false):PS X (.Assign [.Attribute o f pos'] value pos) (MN X.K ta tv f):=by
 intro z8 s σ H D I h;refine plainObj_wpAny_Assign_Attribute (thn (hv z8 s σ H _ I h) λu g b=>?_) e;obtain⟨y,H1,i,j,q⟩:=b;refine thn (ha z8 g σ H1 _ i q) λm s2 b=>?_
 obtain⟨x,H2,p,r,a,C,dx,fs,ex,ea,c,n,l,t⟩:=b;subst ex;obtain rfl:m=Qw a:=r;exact yH p ea c n l j λs3 v=>⟨σ,_,v,t⟩
end
section
variable {c:GC}{b:Qo}
inductive qf (K:Qp) (H:Hp):V->GC->Prop where
 |non:qf K H .non (.type "NoneType")
 |bl (x:Qo):qf K H (.bl x) (.type "bool")
 |int (i:Z):qf K H (.int i) (.type "int")
 |str (x:Qn):qf K H (.str x) (.type "str")
 |flt (x:UInt64):qf K H (.flt x) (.type "float")
 |lst {a:J'} {xs:J V} (e:H a=Y (.lst xs)):qf K H (.ref a) (.type "list")
 |frz {a:J'} {o:Rv} {xs:J V} (e:H a=Y (.frz o (.lst xs))):qf K H (.ref a) (.type "list")
 |tup {a:J'} {xs:J V} (e:H a=Y (.tup xs)):qf K H (.ref a) (.type "tuple")
 |dK {a:J'} {kvs:J (Key×V)} (e:H a=Y (.dK kvs)):qf K H (.ref a) (.type "dict")
 |dT {a:J'} {kvs:J (J Key×V)} (e:H a=Y (.dT kvs)):qf K H (.ref a) (.type "dict")
 |ins {a C dx:J'} {fs:J (Qn×V)} (e:H a=Y (.ins C dx fs)) (cl:Cls K C) (ha:S7 K (.ref C) "__class__"=Y (Y (.builtin "object.__class__")))
  (hn:W.specialIn K (.builtin "object.__class__") "__get__"=Y (Y (.builtin "getset_descriptor.__get__"))) (htk:W.takesIn K (.builtin "object.__class__")=Y true)
  (hm:W.mroIn K C (.type "object")=Y true):qf K H (.ref a) (.ref C)
end
structure cO(k:O)(A:Qs):Prop where
 hd:A.handled=S
 dp:A.depth+3*k+5<recursionLimit
 un:A.units+16*k+200<cLine
theorem cO.mono{j k:O}(r:cO k A)(h:j<=k):cO j A:=⟨r.hd,by have:=r.dp;omega,by have:=r.un;omega⟩
theorem cO.deeper{k:O}(r:cO (k+1) A)(env:V1):cO k (A.deeper env) :=
 ⟨r.hd,by have:=r.dp;show A.depth+1+3*k+5<_;omega,by have:=r.un;show A.units+3+16*k+200<_;omega⟩
theorem cO.in1{k:O}(r:cO (k+1) A):cO k A.in1 :=
 ⟨r.hd,by have:=r.dp;show A.depth+3*k+5<_;omega,by have:=r.un;show A.units+1+16*k+200<_;omega⟩
theorem yw{a:J (Qn×GC)}:(A.under (.builtin "type.__call__" ⟨.ref C::us,a⟩)).depth=A.depth+1:=by first|rfl|simp[Ul,Code.weight,Code.isCreation,Code.isGuard,Code.isCaller,W3,Um,guardIds]
theorem xI{a:J (Qn×GC)}:(A.under (.builtin "type.__call__" ⟨.ref C::us,a⟩)).units=A.units+1:=by first|rfl|simp[Ul,Code.cUnits,W3,Um]
theorem cO.make{k:O}(r:cO (k+1) A)(C:J')(us:J GC)(a:J (Qn×GC)):cO k (A.under (.builtin "type.__call__" ⟨.ref C::us,a⟩)) :=
 ⟨r.hd,by have:=r.dp;rw[yw];omega,by have:=r.un;rw[xI];omega⟩
theorem cO.depth{k:O}(r:cO k A):A.depth<recursionLimit:=by have:=r.dp;omega
theorem cO.units{k:O}(r:cO k A):A.units+64<cLine:=by have:=r.un;omega
def Mh:TA:=λ_ H Q=>Q [] H
def IP(ta:TE)(a:TA):TA:=λσ H Q=>ta σ H λx H1=>a σ H1 λxs H2=>Q (x::xs) H2
section
variable {te:TE}{t:TA}
theorem fO:PA X [] Mh:=λ_ _ _ _ H Q I h=>SR ⟨[],H,I,.nil,h⟩
theorem dJ(ha:PE X e te)(c:PA X es t)(f:starEach (e::es) X.env=(false,eval e X.env)::starEach es X.env:=by rfl):PA X (e::es) (IP te t):=by intro pos z8 s σ H Q I h;rw[f];show wpAny _ _ (spliced ((false,eval e X.env)::backTo pos (starEach es X.env))) _ _ s;refine SE (thn (ha z8 s σ H _ I h) λu g a=>?_);obtain⟨x,H1,i,j,l⟩:=a;exact thn (c pos z8 g σ H1 _ i l) λus s2 b=>(by obtain⟨xs,H2,m,n,o⟩:=b;exact⟨x::xs,H2,m,.cons j n,o⟩)
def M1(t:TA):TE:=λσ H Q=>t σ H λxs H1=>xs.length<=sizeLine/\∀p,H1 p=S->Q (.ref p) (upd H1 p (.tup xs))
def Nk(t:TA):TE:=λσ H Q=>t σ H λxs H1=>xs.length<=sizeLine/\∀p,H1 p=S->Q (.ref p) (upd H1 p (.lst xs))
theorem Kq{x1}(h:PA X es t):PE X (.Tuple es x1 pos) (M1 t):=by intro z8 s σ H Q I g;refine wpAny_Tuple_spliced (thn (h pos z8 s σ H _ I g) λus a c=>?_);obtain⟨xs,H1,f,r,z,q⟩:=c;refine⟨by rw[<-r.length];exact z,?_⟩;have i:H1 a.heap.objs.size=none:=f.hok.fresh (ND _);refine⟨.ref a.heap.objs.size,upd H1 a.heap.objs.size (.tup xs),f.laid (t':=a.toks) (λb u e=>N5 _ e) (ND _) ?_,rfl,q _ i⟩;exact⟨z,us,r,⟨_,NN _ rfl,rfl,rfl,_,rfl⟩⟩
theorem zD(h:PA X es t):PE X (.List es pos) (Nk t):=by intro z8 s σ H Q I g;refine wpAny_List_spliced (thn (h pos z8 s σ H _ I g) λus a c=>?_);obtain⟨xs,H1,f,r,z,q⟩:=c;refine⟨by rw[<-r.length];exact z,?_⟩;have i:H1 a.heap.objs.size=none:=f.hok.fresh (ND _);refine⟨.ref a.heap.objs.size,upd H1 a.heap.objs.size (.lst xs),f.laid (t':=a.toks) (λb u e=>N5 _ e) (ND _) ?_,rfl,q _ i⟩;exact⟨z,us,0,r,NN _ rfl⟩
end
abbrev Sp:=J V->Hp->VK->XK->Prop
abbrev CXT:=J V1->Hp->LN->XK->GC->LN->Prop
structure uC(P:QS)(w:QY)(K:Qp)(mg:Qn->F1 GC)(base:QD)(A:Qs)(outer:J V1)(s:LN)(H:Hp):Prop where
 frames:A.frames=Y outer
 mod:Mod K mg base
 bs:∀b o,base.get? b=Y o->s.heap.get? b=Y o/\H b=S
 bsz:base.objs.size<=s.heap.objs.size
 funs:s.heap.FunFrames base outer
 frf:∀b∈frs outer,H b=S
 hok:HOk P w H s.heap
 bare:Sv s.gens
 tab:∀P q,TabOf K P q->H P=Y (.tbl q)
def CE(outer:J V1)(P:QS)(w:QY)(H:Hp)(s:LN)(Q:VK)(u:GC)(s':LN):Prop :=
 ∃v H',s'.os=s.os/\Sv s'.gens/\Un (frs outer) [] H H' s.heap s'.heap/\HOk P w H' s'.heap/\RelV v u/\Q v H'
def CR(CX:CXT)(outer:J V1)(P:QS)(w:QY)(H:Hp)(s:LN)(Q:VK)(E:XK)(r:Tz)(s':LN):Prop :=
 match r with
 |.ok (.ret u)=>CE outer P w H s Q u s'
 |.ok _=>False
 |.error e=>CX outer H s E e s'
structure iH(P:QS)(w:QY)(K:Qp)(mg:Qn->F1 GC)(base:QD)(CX:CXT)(k:O)(f:J')(fd:Ui)(ps:J Qn)(sp:Sp):Prop where
 len:∀vs H Q E,sp vs H Q E->vs.length=ps.length
 run:∀(A:Qs)(outer:J V1)(s:LN)(H:Hp)(args:Args)(us:J GC)(vs:J V)(Q:VK)(E:XK),cO k A->uC P w K mg base A outer s H->VM s fd args (ps.zip us)->Vals vs us->sp vs H Q E ->
  codeAny (model P w) A (.call (.ref f) args) (CR CX outer P w H s Q E) s
theorem uC.make(e:uC P w K mg base A outer s H)(C:J')(us:J GC)(a:J (Qn×GC)) :
 uC P w K mg base (A.under (.builtin "type.__call__" ⟨.ref C::us,a⟩)) outer s H:=⟨by first|exact e.frames|(simpa[Ul,Code.envs,Um,pushEnvs] using e.frames),e.mod,e.bs,e.bsz,e.funs,e.frf,e.hok,e.bare,e.tab⟩
section
theorem Inv.env0(I:Inv X z8 σ H s):uC X.prog X.w X.K X.mg X.base X.A X.stack s H :=
 ⟨I.ok.frames,I.ok.mod,I.bs,OG I.ok.bsz I.sz,I.stack,I.stkFree,I.hok,I.bare,I.tab⟩
theorem Inv.after{Q:VK}(I:Inv X z8 σ H s)(h:CE X.stack X.prog X.w H s Q u s'):EP X z8 σ Q u s':=by obtain⟨v,H',os,bare,un,hok,r,q⟩:=h;obtain⟨c,g,d,t,a⟩:=s';obtain rfl:a=s.os:=os;exact⟨v,H',I.call (h':=c) (g':=g) (d':=d) (t':=t) (ch:=[]) un hok bare (λb z=>Qr z #[2]),r,q⟩
end
def LU(sp:Sp)(dvs:J V)(E:XK)(t:TA):TE:=λσ H Q=>t σ H λvs H1=>sp (vs++dvs) H1 Q E
def LR(C:J')(sp:Sp)(dvs:J V)(E:XK)(t:TA):TE:=λσ H Q=>t σ H λvs H1=>∀x dx,H1 x=S->H1 dx=S->dx≠x ->
 sp (.ref x::(vs++dvs)) (upd (upd H1 dx (.own x)) x (.ins C dx [])) (λv H2=>v=.non/\Q (.ref x) H2) E
def Binds(K:Qp)(fd:Ui)(ps:J Qn)(ds:J GC):Prop :=
 ∀(s:LN)(us:J GC),K.In s.heap->(us++ds).length=ps.length->VM s fd ⟨us,[]⟩ (ps.zip (us++ds))
theorem Binds.all(h:∀us:J GC,us.length=ps.length->bindArgs fd ⟨us,[]⟩=pure (ps.zip us)):Binds K fd ps []:=λs us _ hl=>by rw[OL]at hl ⊢;exact .of_eq (h us hl)
def Passes(CX:CXT)(X:Cx)(E:XK):Prop:=∀(z8:J (J'×Rv))(σ:St)(H:Hp)(s:LN)(e:GC)(s':LN),Inv X z8 σ H s->CX X.stack H s E e s'->X.xe e s'
section
variable {CX:CXT}{k:O}{f:J'}{sp:Sp}{dvs:J V}{ds:J GC}{E:XK}{m:Qn}{apos:Ts}{o:Qt}{ta:TE}{t:TA}
theorem Ko{Q:VK}(F:iH X.prog X.w X.K X.mg X.base CX k f fd ps sp)(c:cO k X.A)(g:Binds X.K fd ps ds)(hd:Vals dvs ds)(i:Passes CX X E)
  (I:Inv X z8 σ H s) (r:Vals vs us) (h:sp (vs++dvs) H Q E):wpAny (model X.prog X.w) X.A (call (.ref f) us) (EP X z8 σ Q) X.xe s:=by
 have b:Vals (vs++dvs) (us++ds):=r.append hd;have hl:(us++ds).length=ps.length:=by rw[<-b.length];exact F.len _ _ _ _ h
 refine U9 (Rz (F.run X.A X.stack s H ⟨us,[]⟩ (us++ds) (vs++dvs) Q E c I.env0 (g s us I.kIn hl) b h) λr s' a=>?_);cases r with
 |error e=>exact i z8 σ H s e s' I a
 |ok fl =>
  cases fl with
  |ret u=>exact I.after a
  |next=>exact QQ a
  |brk=>exact QQ a
  |cont=>exact QQ a
theorem zW(F:iH X.prog X.w X.K X.mg X.base CX k f fd ps sp)(i:cO k X.A)(j:Gl X x)(hm:X.mg x=Y (.ref f))(l:S8 X.K (.ref f)=true)(m:Binds X.K fd ps ds)(hd:Vals dvs ds)(n:Passes CX X E)
  (ha:PA X (e::es) t) (a:(x==("__debug__":Qn))=false:=by decide) (o:starEach (e::es) X.env=(false,eval e X.env)::starEach es X.env:=by rfl) (b:(backTo pos (starEach es X.env)).any (·.1)=false:=by rfl) :
  PE X (.Call (.Name x p) (e::es) [] pos) (LU sp dvs E t):=by
 intro z8 s σ H Q I h;refine Rh (oV I j hm ?_ a);refine VN (h₀:=X.base) I.ok.mod.kin l (thn (ha pos z8 s σ H _ I h) λus s1 c=>?_) o b;obtain⟨vs,H1,g,r,q⟩:=c;refine⟨g.kIn,?_⟩;exact Ko F i m hd n g r q
structure Mk(K:Qp)(C f:J'):Prop where
 makes:VH K C=true
 init:S7 K (.ref C) "__init__"=Y (Y (.ref f))
 fn:W.isFn K (.ref f)=true
 kp:S8 K (.ref C)=true
theorem EM{Q:VK}(M:Mk X.K C f)(F:iH X.prog X.w X.K X.mg X.base CX k f fd ps sp)(i:cO (k+1) X.A)(j:Binds X.K fd ps ds)(hd:Vals dvs ds)
  (l:Passes CX X E) (I:Inv X z8 σ H s) (r:Vals vs us)
  (h:∀x dx,H x=S->H dx=S->dx≠x->sp (.ref x::(vs++dvs)) (upd (upd H dx (.own x)) x (.ins C dx [])) (λv H2=>v=.non/\Q (.ref x) H2) E) :
  wpAny (model X.prog X.w) X.A (call (.ref C) us) (EP X z8 σ Q) X.xe s:=by
 have c:=h (s.heap.objs.size+1) s.heap.objs.size (I.hok.fresh (Pd _)) (I.hok.fresh (ND _)) (NJ (Pe _));have b:=Inv.made (C:=C) I;have g:Vals (V.ref (s.heap.objs.size+1)::(vs++dvs)) (Qw (s.heap.objs.size+1)::(us++ds)):=.cons rfl (r.append hd);have hl:(Qw (s.heap.objs.size+1)::us++ds).length=ps.length:=by have e:=g.length;rw[F.len _ _ _ _ c]at e;exact e.symm
 refine U9 (C6 (f:=f) I.kIn M.makes M.init (RK.mp M.fn) (Rz (F.run _ X.stack _ _ ⟨Qw (s.heap.objs.size+1)::us,[]⟩ (Qw (s.heap.objs.size+1)::(us++ds)) _ _ E (i.make C us [])
  (b.env0.make C us []) (j _ (Qw (s.heap.objs.size+1)::us) b.kIn hl) g c) λr s' a=>?_))
 cases r with
 |error e=>exact l z8 σ _ _ e s' b a
 |ok fl =>
  cases fl with
  |ret u =>obtain⟨v,H',m,n,ev,o⟩:=b.after a;subst ev;exact⟨n,⟨V.ref (s.heap.objs.size+1),H',m,rfl,o⟩⟩
  |next=>exact QQ a
  |brk=>exact QQ a
  |cont=>exact QQ a
theorem Gz(M:Mk X.K C f)(F:iH X.prog X.w X.K X.mg X.base CX k f fd ps sp)(i:cO (k+1) X.A)(j:Gl X x)(hm:X.mg x=Y (.ref C))(l:Binds X.K fd ps ds)(hd:Vals dvs ds)(m:Passes CX X E)
  (ha:PA X (e::es) t) (a:(x==("__debug__":Qn))=false:=by decide) (n:starEach (e::es) X.env=(false,eval e X.env)::starEach es X.env:=by rfl) (b:(backTo pos (starEach es X.env)).any (·.1)=false:=by rfl) :
  PE X (.Call (.Name x p) (e::es) [] pos) (LR C sp dvs E t):=by
 intro z8 s σ H Q I h;refine Rh (oV I j hm ?_ a);refine VN (h₀:=X.base) I.ok.mod.kin M.kp (thn (ha pos z8 s σ H _ I h) λus s1 c=>?_) n b;obtain⟨vs,H1,g,r,q⟩:=c;refine⟨g.kIn,?_⟩;exact EM M F i l hd m g r q
end
def PK(X:Cx)(kws:J RA)(t:TA):Prop :=
 ∀(pos:Ts)(z8:J (J'×Rv))(s:LN)(σ:St)(H:Hp)(Q:J V->Hp->Prop),Inv X z8 σ H s->t σ H Q->wpAny (model X.prog X.w) X.A (evalAll ((backToKw pos (keywordEach kws X.env)).map (·.2))) (AP X z8 σ Q) X.xe s
section
variable {CX:CXT}{k:O}{f:J'}{ks:J Qn}{sp:Sp}{E:XK}{m:Qn}{apos kpos:Ts}{o:Qt}{kws:J RA}{te ta:TE}{t tk:TA}{nm:F1 Qn}
theorem Fu:PK X [] Mh:=λ_ _ _ _ H Q I h=>wpAny_evalAll_nil ⟨[],H,I,.nil,h⟩
theorem zT(ha:PE X e te)(c:PK X kws t):PK X (⟨nm,e,kpos⟩::kws) (IP te t):=by intro pos z8 s σ H Q I h;show wpAny _ _ (evalAll ((do let v <-eval e X.env;standAt pos;pure v)::(backToKw pos (keywordEach kws X.env)).map (·.2))) _ _ s;refine wpAny_evalAll_cons (F' (thn (ha z8 s σ H _ I h) λu f a=>?_));obtain⟨x,H1,g,i,j⟩:=a;refine F' (SW (K' ?_));exact thn (c pos z8 f σ H1 _ g j) λus s2 b=>(by obtain⟨xs,H2,l,m,n⟩:=b;exact⟨x::xs,H2,l,.cons i m,n⟩)
variable {g:J GC->J GC->J GC}{gV:J V->J V->J V}
end
structure eS(N P:J Qn)(sc:SO):Prop where
 kind:sc.kind=.function
 co:sc.isCoroutine=false
 gen:sc.isGenerator=false
 nd:N.Nodup
 pre:N.take P.length=P
 par:∀x∈P,sc.names.lookup x=Y .local\/sc.names.lookup x=Y .cell
 nofree:∀y∈sc.names,y.2≠.free
theorem tT{kindOf:Qn->F1 Qx}{x:Qn}:∀{binds:J (Qn×GC)}{m:Qn->F1 GC},(∀v,(x,v)∉binds)->bindL kindOf binds m x=m x
 |[],_,_=>rfl
 |(n,v)::r,m,h=>by
  unfold bindL;rw[tT λw hw=>h w (N0 _ hw)];split
  .have:x≠n:=by rintro rfl;exact h v N1
   simp[this]
  .rfl
theorem sF{kindOf:Qn->F1 Qx}{x:Qn}:∀{binds:J (Qn×GC)}{m:Qn->F1 GC},(∀v,(x,v)∉binds)->bindC kindOf binds m x=m x
 |[],_,_=>rfl
 |(n,v)::r,m,h=>by
  unfold bindC;rw[sF λw hw=>h w (N0 _ hw)];split
  .rfl
  .have:x≠n:=by rintro rfl;exact h v N1
   simp[this]
theorem sv{kindOf:Qn->F1 Qx}{x:Qn}{v:GC}:∀{P:J Qn}{vs:J GC}{i:O}{m:Qn->F1 GC},P.Nodup->P[i]?=Y x->vs[i]?=Y v->kindOf x=Y .local ->
  bindL kindOf (P.zip vs) m x=Y v
 |[],_,_,_,_,h,_,_=>by simp at h
 |_::_,[],_,_,_,_,h,_=>by simp at h
 |p::P,w::vs,0,m,nd,h1,h2,hk=>by simp at h1 h2;subst h1;subst h2;show bindL kindOf ((p,w)::P.zip vs) m p=_;unfold bindL;rw[tT λv hv=>(O7.mp nd).1 (Q1 hv).1,HL hk];simp
 |p::P,w::vs,i+1,m,nd,h1,h2,hk=>by show bindL kindOf ((p,w)::P.zip vs) m x=_;unfold bindL;exact sv (i:=i) (O7.mp nd).2 (by simpa using h1) (by simpa using h2) hk
theorem sT{kindOf:Qn->F1 Qx}{x:Qn}{v:GC}:∀{P:J Qn}{vs:J GC}{i:O}{m:Qn->F1 GC},P.Nodup->P[i]?=Y x->vs[i]?=Y v->kindOf x≠Y .local ->
  bindC kindOf (P.zip vs) m x=Y v
 |[],_,_,_,_,h,_,_=>by simp at h
 |_::_,[],_,_,_,_,h,_=>by simp at h
 |p::P,w::vs,0,m,nd,h1,h2,hk=>by simp at h1 h2;subst h1;subst h2;show bindC kindOf ((p,w)::P.zip vs) m p=_;unfold bindC;rw[sF λv hv=>(O7.mp nd).1 (Q1 hv).1,I' hk];simp
 |p::P,w::vs,i+1,m,nd,h1,h2,hk=>by show bindC kindOf ((p,w)::P.zip vs) m x=_;unfold bindC;exact sT (i:=i) (O7.mp nd).2 (by simpa using h1) (by simpa using h2) hk
def start(N:J Qn)(vs:J V):St:=vs.map Y++L' (N.length-vs.length) S
def dg(CX:CXT)(P:QS)(w:QY)(K:Qp)(mg:Qn->F1 GC)(base:QD)(N:J Qn)(qual:Qn)(scope:SO)(f:J')(cd:GC)(A:Qs)(outer:J V1)(s:LN)(H:Hp)(E:XK):Cx where
 prog:=P
 w:=w
 K:=K
 mg:=mg
 base:=base
 A:=A.deeper (envOfC qual scope s.heap.objs.size f cd)
 N:=N
 s₀:=s
 H₀:=H
 env:=envOfC qual scope s.heap.objs.size f cd
 outer:=outer
 stack:=envOfC qual scope s.heap.objs.size f cd::outer
 ex:=[]
 calm:=true
 fn:=λ_=>true
 pn:=[]
 xe:=λe s'=>wpAny (model P w) (A.deeper (envOfC qual scope s.heap.objs.size f cd)) (leaving (envOfC qual scope s.heap.objs.size f cd) e) (λ_ a=>CX outer H s E e a) (λb a=>CX outer H s E b a) s'
theorem pW{sc:SO}{n:O}(h:sc.names.lookup x=Y .cell):∃c,(cellsFrom n sc.names []).lookup x=Y c:=by have q:=UJ sc.names n [] (.inl h);exact OW.mp q
theorem B7{CX:CXT}{f:J'}{o:LN}{E:XK}
  (D':eS N ps scope) (hd:A.handled=S) (g:uC P w K mg base A outer s H) (hl:vs.length=ps.length) (r:Vals vs us)
  (x:InCallC s s.heap.objs.size (bindL (envOfC qual scope s.heap.objs.size f cd).kindOf (ps.zip us) λ_=>S) (cellsFrom (s.heap.objs.size+1) scope.names []) (bindC (envOfC qual scope s.heap.objs.size f cd).kindOf (ps.zip us) λ_=>S) o) :
  Inv (dg CX P w K mg base N qual scope f cd A outer s H E) [] (start N vs) H o:=by
 have hpl:ps.length<=N.length:=by have:=congrArg W4 D'.pre;rw[Pr]at this;omega
 obtain⟨h1,tk,rfl,t⟩:=x.done;have j:∀b:J',b∉(dg CX P w K mg base N qual scope f cd A outer s H E).ex:=λb z=>Qr (show b∈([]:J J') from z) #[2]
 refine⟨⟨g.mod,D'.kind,rfl,rfl,ND _,λy z c h1 h2=>?_,λy l=>?_,λy c _ h=>?_,λ_=>hd,TB g.frames,.inr ⟨rfl,rfl⟩,λb z=>Qr z (j b),g.bs,g.bsz,λb _ _=>j b,λb z=>Qr z (j b),g.funs,g.frf⟩,
  rfl,g.bare,Un.kept t,⟨_,x.toInCall.ns,λi y v h1 h2 h3=>?_⟩,λy c h=>⟨_,x.cell y c h⟩,g.hok.fresh (ND _),λy c h=>?_,λp hp=>Qr (show p∈([]:J (J'×Rv)) from hp) #[2],g.hok.kept t,?_,g.tab⟩
 .exact name_of_addr x.apart (PySem.mem_of_lookup h1) (PySem.mem_of_lookup h2)
 .have l:scope.names.lookup y=Y .cell\/scope.names.lookup y=Y .free:=l;rcases l with l|l
  .exact pW l
  .exact Qr rfl (D'.nofree _ (PySem.mem_of_lookup l))
 .exact Q0 (x.above y c (PySem.mem_of_lookup h))
 .have hi:i<vs.length:=by
   unfold start at h2;by_cases hi:i<vs.length
   .exact hi
   .rw[O9 (by simpa using hi)]at h2;rw[PM]at h2;split at h2 <;> cases h2
  have ha:vs[i]?=Y v:=by
   unfold start at h2;rw[O6 (by simpa using hi),NA]at h2;cases e:vs[i]? with
   |none=>rw[e]at h2;cases h2
   |some a=>rw[e]at h2;cases h2;rfl
  obtain⟨u,B,C⟩:=r.get ha;have hp:ps[i]?=Y y:=by rw[<-D'.pre,Pf ⋯];exact h1
  have m:ps.Nodup:=by rw[<-D'.pre];exact D'.nd.sublist (Uo _ _)
  refine⟨u,C,?_⟩;rcases D'.par y (O8 hp) with k|k
  .exact .inl ⟨k,sv m hp B k⟩
  .obtain⟨c,e⟩:=pW (n:=s.heap.objs.size+1) k;refine .inr ⟨.inl k,c,e,?_⟩;have q:=x.cell y c e;rw[sT m hp B (by show scope.names.lookup y≠_;rw[k];decide)]at q;exact q
 .exact g.hok.fresh (Q0 (x.above y c (PySem.mem_of_lookup h)))
 .unfold start;show _=N.length;rw[NS,N8,Tp];omega
theorem E6{CX:CXT}{k:O}{f:J'}{name:Qn}{B kV doc cdv:GC}
  {sp:Sp} (F:K.lookup f=Y ⟨oc,od,.func (SX name qual params body scope B kV doc pm an cdv ct),osl⟩) (l:Up K cdv qual=true) (D':eS N ps scope)
  (len:∀vs H Q E,sp vs H Q E->vs.length=ps.length)
  (c:∀(A:Qs)(outer:J V1)(s:LN)(H:Hp)(vs:J V)(Q:VK)(E:XK),cO k (A.deeper (envOfC qual scope s.heap.objs.size f cdv))->sp vs H Q E ->
   ∃t,PSs (dg CX P w K mg base N qual scope f cdv A outer s H E) body t/\t {nx:=λ_ H'=>Q .non H',rt:=Q} (start N vs) H) :
  iH P w K mg base CX (k+1) f (SX name qual params body scope B kV doc pm an cdv ct) ps sp:=by
 refine⟨len,λA outer s H args us vs Q E m i G r j=>?_⟩;have hl:=len _ _ _ _ j;have C:K.In s.heap:=i.mod.kin.keeps λb o e=>(i.bs b o e).1
 have lim:s.heap.NoLimit:=i.mod.nolimit.keeps λb o e=>(i.bs b o e).1
 have g:∀y∈ps.zip us,scope.names.lookup y.1=Y .local\/(scope.names.lookup y.1=Y .cell/\((cellsFrom (s.heap.objs.size+1) scope.names []).lookup y.1).isSome=true):=λp Dd=>by
  obtain⟨n,v⟩:=p;rcases D'.par n (Q1 Dd).1 with q|q
  .exact .inl q
  .exact .inr ⟨q,UJ _ _ _ (.inl q)⟩
 refine codeAny_call_function m.depth (C _ _ F) rfl D'.co D'.gen rfl (W.codeRec_of C l) (G _ _ _ _ ?_);refine wpAny_newFunctionEnv_cells D'.kind g λenv M D x=>?_
 subst M;refine⟨lim.keeps x.toInCall.keep,codeAny_func ?_⟩;obtain⟨t,EE,R⟩:=c A outer s H vs Q E (m.deeper _) j;have I:Inv (dg CX P w K mg base N qual scope f cdv A outer s H E) [] (start N vs) H D:=B7 D' m.hd i hl r x;refine QU (EE [] D (start N vs) H _ I R) (λT s' h=>?_) λe s' h=>h
 have fin:∀{a:St}{H':Hp}{v:V}{u:GC},Inv (dg CX P w K mg base N qual scope f cdv A outer s H E) [] a H' s'->RelV v u->Q v H'->CE outer P w H s Q u s' :=
  λ{a H' v u} B' z q=>⟨v,H',B'.os,B'.bare,B'.base,B'.hok,z,q⟩
 cases T with
 |ret u =>obtain⟨v,a,H',B',z,q⟩:=h;exact fin B' z q
 |next =>obtain⟨a,H',B',q⟩:=h;exact fin (v:=V.non) (u:=Rq) B' rfl q
 |brk =>obtain⟨_,_,_,q⟩:=h;exact QQ q
 |cont =>obtain⟨_,_,_,q⟩:=h;exact QQ q
section
variable {t:TA}{id T:RI}{r:J V->Hp->VK->Prop}
def tCB(r:J V->Hp->VK->Prop)(t:TA):TE:=λσ H Q=>t σ H λvs H1=>r vs H1 Q
theorem fo(hc:kf X (.builtin id) r)(f:Gl X x)(hm:X.mg x=S)(hv:bootBuiltins x=Y (.builtin id))(ha:PA X (e::es) t)(hn:x≠"__name__":=by decide)(a:(x==("__debug__":Qn))=false:=by decide)
  (g:starEach (e::es) X.env=(false,eval e X.env)::starEach es X.env:=by rfl) (b:(backTo pos (starEach es X.env)).any (·.1)=false:=by rfl):PE X (.Call (.Name x p) (e::es) [] pos) (tCB r t):=by
 intro z8 s σ H Q I h;refine Rh (fz I f hm hv ?_ hn a);exact Sg (thn (ha pos z8 s σ H _ I h) λus i c=>(by obtain⟨vs,H1,j,l,m⟩:=c;exact hc z8 i σ H1 vs us Q j l m)) g b
theorem sy(hc:kf X (.type T) r)(f:Gl X x)(hm:X.mg x=S)(hv:bootBuiltins x=Y (.type T))(ha:PA X (e::es) t)(hn:x≠"__name__":=by decide)(a:(x==("__debug__":Qn))=false:=by decide)
  (g:starEach (e::es) X.env=(false,eval e X.env)::starEach es X.env:=by rfl) (b:(backTo pos (starEach es X.env)).any (·.1)=false:=by rfl):PE X (.Call (.Name x p) (e::es) [] pos) (tCB r t):=by
 intro z8 s σ H Q I h;refine Rh (fz I f hm hv ?_ hn a);exact Qv (thn (ha pos z8 s σ H _ I h) λus i c=>(by obtain⟨vs,H1,j,l,m⟩:=c;exact hc z8 i σ H1 vs us Q j l m)) g b
end
end L2
variable {xs vs:J L2.V}{ws:J (F1 L2.V)}{H H' H1 G:L2.Hp}{o:L2.HO}{v y:L2.V}{X:L2.Cx}{σ:L2.St}{ta:L2.TA}{r:L2.V->F1 Z->F1 Z->L2.Hp->L2.VK->Prop}{CX:L2.CXT}{kvs:J (J L2.Key×L2.V)}{κ:O->L2.V->L2.Hp->Prop}
namespace HT
open PySem PyProof.Rows
noncomputable def lexLt:J Z->J Z->Qo
 |[],[]=>false
 |[],_::_=>true
 |_::_,[]=>false
 |x::xs,y::ys=>if x=y then lexLt xs ys else decide (x<y)
theorem c8(x y:Z)(xs ys:J Z):lexLt (x::xs) (y::ys)=if x=y then lexLt xs ys else decide (x<y):=rfl
theorem iN:lexLt [] []=false:=rfl
theorem pR(y:Z)(ys:J Z):lexLt [] (y::ys)=true:=rfl
theorem qP(x:Z)(xs:J Z):lexLt (x::xs) []=false:=rfl
theorem EJ(A:Qs)(s:LN)(a:Z)(t:VI)(c:Z)(u:VI):∃e,Qz A s (.int a t) (.int c u) e/\(e=true↔a=c) :=
 ⟨(a==c),Ua a t c u,by simp⟩
theorem EF(A:Qs)(s:LN)(a:Z)(t:VI)(c:Z)(u:VI)(prog:QS)(w:QY)(E:GC->LN->Prop)(Q:GC->LN->Prop)(h:Q (.bool (decide (a<c))) s) :
  wpAny (model prog w) A (richCompare .Lt (.int a t) (.int c u)) Q E s :=
 (PyProof.Rows.lt_int h:wpAny (model prog w) A (compareOp .Lt (.int a t) (.int c u)) Q E s)
section
open PySem.SeqAt
open PySem.AutoSeq1 (wpAny_loadPart')
open PySem.MeetsSeq PySem.MeetsSeq2 PySem.MeetsSeq3
theorem rG(l b:J')(items f:QR GC)(n n2:O)(dd D:F1 J')(I E:QR (F1 GC))(ns C:J Z)(hi:RF items.toList ns)(H:RF f.toList C) :
  W5 (Qq.«tuple.__lt__» ⟨[.ref l,.ref b],[]⟩)
   (λ_ R s=>s.heap.get? l=Y {cls:=.type "tuple",dict:=dd,data:=.seq items n,slots:=I}/\s.heap.get? b=Y {cls:=.type "tuple",dict:=D,data:=.seq f n2,slots:=E} /\
    R (.ok (.ret (.bool (lexLt ns C)))) s) :=
 .of_wp λprog w A R s h=>by
  obtain⟨hp,g,d,tk,os⟩:=s;obtain⟨hl,B',h⟩:=h;have f2:=SY;have z1:items.size=ns.length:=by rw[<-hi.length];simp
  have z2:f.size=C.length:=by rw[<-H.length];simp
  wp_walk using Rf hl,Rf B',wpAny_forIn_list _ (λrest b s'=>b.1=S/\s'=⟨hp,g,d,tk,os⟩/\∃(vs ws:J GC)(i j:J Z),rest=vs.zip ws /\
   RF vs i/\RF ws j/\i.length+f.size=j.length+items.size/\R (.ok (.ret (.bool (lexLt i j)))) ⟨hp,g,d,tk,os⟩) _
  case turn =>
   rintro⟨y,x⟩ rest b s' ⟨v,rfl,vs,ws,i,j,m,z,o,wb,p⟩
   cases z with
   |nil=>rw[J.zip_nil_left]at m;cases m
   |cons a t hvi' =>
    cases o with
    |nil=>rw[J.zip_nil_right]at m;cases m
    |cons c u hwi' =>
     rw[PF]at m;injection m with F B
     injection F with K Dd
     subst K Dd;rw[c8]at p;dsimp[NP]at wb;obtain⟨e,M,r⟩:=EJ A.in1 ⟨hp,g,d,tk,os⟩ a t c u;refine F' (M prog w _ _ ?_);cases e with
     |true =>
      rw[HL (r.mp rfl)]at p
      wp_walk
      exact⟨rfl,rfl,_,_,_,_,B,hvi',hwi',⋯,p⟩
     |false =>
      rw[I' (λq=>Qr (r.mpr q) NL)]at p;have G:=EF A.in1 ⟨hp,g,d,tk,os⟩ a t c u prog w
      wp_walk using G
      exact⟨_,rfl,by simpa using p⟩
  case fin =>
   rintro⟨b1,b2⟩ s' ⟨v,rfl,vs,ws,i,j,m,z,o,wb,p⟩
   simp only at v;subst v;have hv:lexLt i j=decide (items.size<f.size):=by
    cases z with
    |nil =>
     cases o with
     |nil =>dsimp[OE]at wb;rw[iN];exact (P' ⋯).symm
     |cons c u hw =>dsimp[OE,NP]at wb;rw[pR];exact (Ql ⋯).symm
    |cons a t hv =>
     cases o with
     |nil =>dsimp[OE,NP]at wb;rw[qP];exact (P' ⋯).symm
     |cons c u hw =>rw[PF]at m;cases m
   rw[hv]at p
   wp_walk
   exact⟨_,rfl,by simpa[Qq.Tuple.tupleCompareSizes] using p⟩
  case h =>exact⟨rfl,rfl,items.toList,f.toList,ns,C,rfl,hi,H,⋯,h⟩
end
section
variable {A:Qs}
theorem zC{l:J'}{a:QR GC}{c:J Z}(hl:UU s.heap l items)(m:UU s.heap b a)(hi:RF items.toList ns)(o:RF a.toList c)
  (p:A.units<cLine) (h:Q (.bool (lexLt ns c)) s):wpAny (model prog w) A (compareOp .Lt (.ref l) (.ref b)) Q E s:=by
 obtain⟨⟨cls,dd,data,q⟩,j,hc,n,hd⟩:=id hl;obtain⟨⟨cls2,g,data2,i⟩,e,f,n2,hd2⟩:=id m;simp only at hc hd f hd2;subst hc hd f hd2;exact richCompare_meets_room (op:=.Lt) ⟨_,j,rfl⟩ ⟨_,e,rfl⟩ PySem.F.slot_tuple_lt PySem.F.entry_tuple_lt (PySem.F.args_tuple_lt_2 _ _) (rG l b items a n n2 dd g q i ns c hi o)
  ⟨j,e,show Sz (lexLt ns c)≠TC/\Q (.bool (lexLt ns c)) s from⟨(λx=>nomatch x),h⟩⟩ p
theorem Gn{t:J'}{vs ws:J GC}(j:UU s.heap t vs.toArray)(l:UU s.heap b ws.toArray)(hv:vs≠[])
  (h1:ws=[]->Q (.ref t) s) (h2:ws≠[]->Q (.ref s.heap.objs.size) {s with heap:=s.heap.push {cls:=.type "tuple",data:=.seq (vs++ws).toArray}})
  (hsz:vs.length+ws.length<=sizeLine):wpAny (model prog w) A (binaryOp .Add (.ref t) (.ref b)) Q E s:=by
 obtain⟨⟨cls,dd,data,i⟩,h,hc,n,hd⟩:=id j;obtain⟨⟨cls2,c,data2,f⟩,a,g,n2,hd2⟩:=id l;simp only at hc hd g hd2;subst hc hd g hd2;have e:vs.toArray++ws.toArray=(vs++ws).toArray:=by simp
 by_cases hw:ws=[]
 .exact Uq ⟨_,h,rfl⟩ ⟨_,a,rfl⟩ T1 U0 PySem.F.slot_tuple_add PySem.F.entry_tuple_add (PySem.F.args_tuple_add_2 _ _)
   (tuple_addW1 t b vs.toArray ws.toArray n n2 dd c i f (by simpa using hv) (by simp[hw])) ⟨h,a,h1 hw⟩
 .refine Uq ⟨_,h,rfl⟩ ⟨_,a,rfl⟩ T1 U0 PySem.F.slot_tuple_add PySem.F.entry_tuple_add (PySem.F.args_tuple_add_2 _ _)
   (tuple_addW2 t b vs.toArray ws.toArray n n2 dd c i f (by simpa using hv) (by simpa using hw) (by rw[NM,NM];exact hsz)) ⟨h,a,?_⟩
  rw[e];exact h2 hw
noncomputable def sIx(n d:O):F1 Z->O
 |none=>d
 |some v=>if v<0 then (v+(n:Z)).toNat else min v.toNat n
theorem AB(n d k:O):sIx n d (Y (k:Z))=min k n:=by show (if (k:Z)<0 then ((k:Z)+(n:Z)).toNat else min (k:Z).toNat n)=min k n;rw[I' ⋯,O2]
theorem Kk(n d:O)(hd:d<=n)(o:F1 Z):sIx n d o<=n:=by
 cases o with
 |none=>exact hd
 |some v =>
  show (if v<0 then (v+(n:Z)).toNat else min v.toNat n)<=n;by_cases hv:v<0
  .rw[HL hv];omega
  .rw[I' hv];exact O.min_le_right _ _
theorem AI(v:Z)(n d:O):(if v<0 then max (v+(n:Z)) 0 else min v (n:Z))=((sIx n d (Y v):O):Z):=by
 show (if v<0 then max (v+(n:Z)) 0 else min v (n:Z))=(((if v<0 then (v+(n:Z)).toNat else min v.toNat n):O):Z)
 by_cases hv:v<0
 .dsimp[HL hv];omega
 .dsimp[I' hv];omega
theorem zt(lo hi:F1 Z)(n:O):RY lo hi 1 (n:Z)=(((sIx n 0 lo:O):Z),((sIx n n hi:O):Z)):=by
 have h1:¬ ((1:Z)<0):=⋯
 unfold RY;dsimp[h1,RL];refine VU ?_ ?_
 .cases lo with
  |none=>rfl
  |some v=>exact AI v n 0
 .cases hi with
  |none=>rfl
  |some v=>exact AI v n n
theorem yt(i j:O):Rw (i:Z) (j:Z) 1=j-i:=by
 unfold Rw;have h1:(1:Z)>0:=⋯
 dsimp[h1,QA,Z.ediv_one];split <;> omega
theorem oZ{v:GC}{o:F1 Z}{Q:F1 Z->LN->Prop}(p:Tc v o)(h:Q o s):wpAny (model prog w) A (Qq.Slice.slicePartIndex v) Q E s:=by
 cases p with
 |none=>exact Vn h
 |int i t=>exact slicePart_int h
theorem i7{f:J'}{c e:GC}{n:O}{Q:Z×Z×O->LN->Prop}(g:s.heap.IsSliceOf f c e .none)(pl:Tc c lo)(i:Tc e hi)
  (h:Q (((sIx n 0 lo:O):Z),1,sIx n n hi-sIx n 0 lo) s):wpAny (model prog w) A (SF (.ref f) (pure (n:Z))) Q E s:=by
 obtain⟨os,a,hcs,b⟩:=id g;unfold SF Qq.Slice.sliceFields;refine F' (F' (S6 a b (x:=c) rfl (F' (S6 a b (x:=e) rfl (F' (S6 a b (x:=.none) rfl (K' ?_)))))));refine F' (Vn ?_);show wpAny _ _ (if ((1:Z)==0)=true then _ else _) _ _ s;rw[I' #[1]];refine F' (oZ pl (F' (oZ i (F' (K' ?_)))));show wpAny _ _ (match RY lo hi 1 (n:Z) with|(lo,hi)=>pure (lo,(1:Z),Rw lo hi 1)) _ _ s;rw[zt lo hi n];show wpAny _ _ (pure (((sIx n 0 lo:O):Z),(1:Z),Rw ((sIx n 0 lo:O):Z) ((sIx n n hi:O):Z) 1)) _ _ s;rw[yt];exact K' h
theorem Ef(xs:QR GC)(i k:O):((M' k).filterMap λ(m:O)=>xs[((i:Z)+(m:Z)*1).toNat]?).toArray=((xs.toList.drop i).take k).toArray:=by
 have e:(λ(m:O)=>xs[((i:Z)+(m:Z)*1).toNat]?)=λm=>xs[i+m]?:=by
  funext m;have:((i:Z)+(m:Z)*1).toNat=i+m:=⋯
  rw[this]
 rw[e];have:=pick_run xs i k;rw[J.filterMap_map]at this;have e2:((λx=>xs[x]?)∘λx=>i+x)=λm=>xs[i+m]?:=rfl
 rw[e2]at this;rw[this]
theorem mw{t:J'}{j l:GC}(b:UU s.heap t items)(n:s.heap.IsSliceOf c j l .none)(pl:Tc j lo)(o:Tc l hi)
  (hw:¬ (sIx items.size 0 lo=0/\sIx items.size items.size hi=items.size))
  (h:Q (.ref s.heap.objs.size) {s with heap:=s.heap.push {cls:=.type "tuple",data:=.seq ((items.toList.drop (sIx items.size 0 lo)).take (sIx items.size items.size hi-sIx items.size 0 lo)).toArray}})
  (hsz:items.size<=sizeLine):wpAny (model prog w) A (getItem (.ref t) (.ref c)) Q E s:=by
 have a:sizeOk (.seq ((items.toList.drop (sIx items.size 0 lo)).take (sIx items.size items.size hi-sIx items.size 0 lo)).toArray):=by show ((items.toList.drop (sIx items.size 0 lo)).take (sIx items.size items.size hi-sIx items.size 0 lo)).toArray.size<=sizeLine;rw[NM,Pr,Pg,OM];omega
 have hj:sIx items.size items.size hi<=items.size:=Kk _ _ (ND _) hi;obtain⟨os,e,f,hds⟩:=id n;have g:s.TypeIs (.ref c) "slice":=⟨os,e,f⟩
 unfold getItem
 try with_reducible refine QN ?_
 first|refine F' (K' ?_)|skip
 refine F' (Ur b.typeIs #[1] ?_);refine F' (RG (name:=R9 "__getitem__") b.typeIs QH
  (RW QH b.typeIs TQ ?_ (Ub _ _)))
 show wpAny _ _ (SG (.ref t) >>= _) _ _ s;refine F' (tupleItemsOf_ b ?_);refine F' (Td g ?_);rw[HL #[1]];refine F' (i7 n pl o ?_);have i:¬ ((((sIx items.size 0 lo:O):Z)==0&&(1:Z)==1&&(sIx items.size items.size hi-sIx items.size 0 lo)==items.size)=true):=by intro q;rw[NG,NG]at q;have q1:((sIx items.size 0 lo:O):Z)=0:=eq_of_beq q.1.1;have q2:sIx items.size items.size hi-sIx items.size 0 lo=items.size:=eq_of_beq q.2;exact hw ⟨⋯,⋯⟩
 show wpAny _ _ (if (((sIx items.size 0 lo:O):Z)==0&&(1:Z)==1&&(sIx items.size items.size hi-sIx items.size 0 lo)==items.size)=true then _ else _) _ _ s;rw[I' i,Ef]
 first
  |exact F' (m:=RD _) (QW (K' ⟨_,rfl,K' h⟩) a)
  |exact F' (m:=RD _) (QW (F' (K' (K' ⟨_,rfl,K' h⟩))) a)
  |exact F' (F' (m:=RD _) (QW (K' (K' ⟨_,rfl,K' h⟩)) a))
  |exact F' (F' (m:=RD _) (QW (K' ⟨_,rfl,K' h⟩) a))
end
end HT
namespace L2
open PySem PySem.Spec PyProof.Rows
variable {its:J GC}{n:O}
abbrev TO:=St->Hp->(F1 Z->Hp->Prop)->Prop
def PO(X:Cx)(e:F1 Qt)(t:TO):Prop :=
 ∀(z8:J (J'×Rv))(s:LN)(σ:St)(H:Hp)(Q:F1 Z->Hp->Prop),Inv X z8 σ H s->t σ H Q ->
  wpAny (model X.prog X.w) X.A (evalPart e X.env) (λu s'=>∃o H',Inv X z8 σ H' s'/\Tc u o/\Q o H') X.xe s
def Ho:TO:=λ_ H Q=>Q S H
def Ml(t:TE):TO:=λσ H Q=>t σ H λx H1=>∃i,x=.int i/\Q (Y i) H1
theorem intsAre_of:∀{us:J GC},Vals (ns.map V.int) us->RF us ns:=by
 induction ns with
 |nil=>intro us r;rw[OI]at r;cases r;exact .nil
 |cons n ns ih =>
  intro us r;rw[N2]at r;cases r with
  |cons r1 r2 =>obtain⟨t,e⟩:=r1;subst e;exact .cons n t (ih r2)
section
variable {e:Qt}{te:TE}{lo hi:F1 Qt}{tl th:TO}
theorem F0:PO X S Ho:=by intro z8 s σ H Q I h;rw[evalPart_none];exact K' ⟨S,H,I,.none,h⟩
theorem FY(h:PE X e te):PO X (Y e) (Ml te):=by
 intro z8 s σ H Q I hw;rw[evalPart_some];refine thn (h z8 s σ H _ I hw) λu s1 a=>?_
 obtain⟨x,H1,b,c,f⟩:=a;obtain⟨i,rfl,q⟩:=f;obtain⟨t,rfl⟩:=c;exact⟨Y i,H1,b,.int i t,q⟩
def SlR(X:Cx)(r:V->F1 Z->F1 Z->Hp->VK->Prop):Prop :=
 ∀(z8:J (J'×Rv))(s:LN)(σ:St)(H:Hp)(x:V)(v a b:GC)(lo hi:F1 Z)(c:J')(Q:VK),Inv X z8 σ H s->RelV x v->s.heap.IsSliceOf c a b .none->Tc a lo->Tc b hi->r x lo hi H Q ->
  ∃T id,typeLookup (.type T) "__getitem__"=pure (Y (.builtin id))/\s.TypeIs v T/\wpAny (model X.prog X.w) X.A (getItem v (.ref c)) (EP X z8 σ Q) X.xe s
theorem SlR.or{a:V->F1 Z->F1 Z->Hp->VK->Prop}(h:SlR X r)(h':SlR X a):SlR X (λx lo hi H Q=>r x lo hi H Q\/a x lo hi H Q):=by
 intro z8 s σ H x v b c lo hi e Q I f g pl i q;rcases q with q|q
 .exact h z8 s σ H x v b c lo hi e Q I f g pl i q
 .exact h' z8 s σ H x v b c lo hi e Q I f g pl i q
def tSl(r:V->F1 Z->F1 Z->Hp->VK->Prop)(te:TE)(tl th:TO):TE:=λσ H Q=>te σ H λx H1=>tl σ H1 λl H2=>th σ H2 λu a=>r x l u a Q
theorem ES(j:SlR X r)(m:PE X e te)(hl:PO X lo tl)(n:PO X hi th):PE X (.Subscript e (.Slice lo hi S p2) pos) (tSl r te tl th):=by
 intro z8 s σ H Q I h;refine Vo (thn (m z8 s σ H _ I h) λv o a=>?_);obtain⟨x,H1,p,t,y⟩:=a;refine wpAny_Slice (thn (hl z8 o σ H1 _ p y) λf s2 a=>?_);obtain⟨l,H2,z,pl,B⟩:=a;refine thn (n z8 s2 σ H2 _ z B) λg c a=>?_
 obtain⟨u,i,C,D,E⟩:=a;rw[evalPart_none];refine K' ?_;have F:Inv X z8 σ i {c with heap:=c.heap.push {cls:=.type "slice",data:=.fields #[f,g,.none]}}:=C.kept (t':=c.toks) λb ob q=>N5 _ q
 obtain⟨T,id,G,B',K⟩:=j z8 {c with heap:=c.heap.push {cls:=.type "slice",data:=.fields #[f,g,.none]}} σ i x v f g l u c.heap.objs.size Q F t (QD.IsSliceOf.new ..) pl D E;show wpAny (model X.prog X.w) X.A (subscriptTail e (.Slice lo hi S p2) v (.ref c.heap.objs.size)) (EP X z8 σ Q) X.xe {c with heap:=c.heap.push {cls:=.type "slice",data:=.fields #[f,g,.none]}};exact tail_any (ops:=[.ref c.heap.objs.size,v]) B' G K (by with_unfolding_all rfl)
def xr(xs:J V)(lo hi:F1 Z):J V:=(xs.drop (HT.sIx xs.length 0 lo)).take (HT.sIx xs.length xs.length hi-HT.sIx xs.length 0 lo)
theorem n9(xs:J V)(lo hi:F1 Z):(xr xs lo hi).length<=xs.length:=by unfold xr;rw[Pr,Pg];omega
def Nb(K:Qp):V->F1 Z->F1 Z->Hp->VK->Prop:=λx lo hi H Q=>∃a xs,x=.ref a/\SqT K H a xs /\
 ¬ (HT.sIx xs.length 0 lo=0/\HT.sIx xs.length xs.length hi=xs.length)/\∀p,H p=S->Q (.ref p) (upd H p (.tup (xr xs lo hi)))
theorem Ka:SlR X (Nb X.K):=by
 intro z8 s σ H x v vl vu lo hi sl Q I f g pl i h;obtain⟨a,xs,rfl,j,hw,q⟩:=h;cases f;obtain⟨its,r,c,e⟩:=I.tuple j;have wb:its.toArray.size=xs.length:=by rw[NM];exact r.length.symm
 refine⟨"tuple",_,QH.lookup,c.typeIs,?_⟩;refine HT.mw c g pl i (by rw[wb];exact hw) ?_ (by rw[wb];exact e);rw[wb];refine⟨.ref s.heap.objs.size,_,I.laid (t':=s.toks) (o:=.tup (xr xs lo hi)) (λb ob q=>N5 _ q) (ND _) ?_,rfl,q _ (I.hok.fresh (ND _))⟩;exact⟨OG (n9 xs lo hi) e,_,(r.drop (HT.sIx xs.length 0 lo)).take (HT.sIx xs.length xs.length hi-HT.sIx xs.length 0 lo),uh.new _ _⟩
def Mv(K:Qp):R2:=λx y H Q=>∃a b xs ys,x=.ref a/\y=.ref b/\SqT K H a xs/\SqT K H b ys/\xs≠[]/\xs.length+ys.length<=sizeLine /\
 (ys=[]->Q (.ref a) H)/\(ys≠[]->∀p,H p=S->Q (.ref p) (upd H p (.tup (xs++ys))))
theorem Vals.nil_iff(r:Vals xs us):us=[]↔xs=[]:=by
 cases r with
 |nil=>simp
 |cons _ _=>simp
theorem Gk:OpR X (binaryOp .Add) (Mv X.K):=by intro z8 s σ H x y v u Q I g i h;obtain⟨a,b,xs,ys,rfl,rfl,ha,j,l,f,m,n⟩:=h;cases g;cases i;obtain⟨its,e,p1,_⟩:=I.tuple ha;obtain⟨its2,c,p2,_⟩:=I.tuple j;refine HT.Gn p1 p2 (λz=>l (e.nil_iff.mp z)) (λz=>⟨.ref a,H,I,rfl,m (c.nil_iff.mp z)⟩) (λz=>?_) (by rw[<-e.length,<-c.length];exact f);refine⟨.ref s.heap.objs.size,_,I.laid (t':=s.toks) (o:=.tup (xs++ys)) (λb ob q=>N5 _ q) (ND _) ?_,rfl,n (λw=>z (c.nil_iff.mpr w)) _ (I.hok.fresh (ND _))⟩;exact⟨by rw[NS];exact f,_,e.append c,uh.new _ _⟩
end
def ixN(n:O)(i:Z):F1 Nat:=if 0<=i then (if i<n then Y i.toNat else S) else if -(n:Z)<=i then Y (i+n).toNat else S
def atI{α:Type}(xs:J α)(i:Z):F1 α:=(ixN xs.length i).bind λj=>xs[j]?
theorem uo{i:Z}{j:O}(h:ixN n i=Y j):seqIndex? i n=Y j/\j<n/\-(n:Z)<=i/\i<n:=by
 unfold ixN at h;by_cases h0:0<=i
 .rw[HL h0]at h;by_cases h1:i<n
  .rw[HL h1]at h;have e:i.toNat=j:=N4 h;exact⟨by rw[UZ h0 h1,e],⋯,⋯,h1⟩
  .rw[I' h1]at h;cases h
 .rw[I' h0]at h;by_cases h1:-(n:Z)<=i
  .rw[HL h1]at h;have e:(i+n).toNat=j:=N4 h;exact⟨by rw[Us ⋯ h1,e],⋯,h1,⋯⟩
  .rw[I' h1]at h;cases h
theorem A5{xs:J α}{i:Z}{v:α}(h:atI xs i=Y v):∃j,seqIndex? i xs.length=Y j/\xs[j]?=Y v/\j<xs.length/\-(xs.length:Z)<=i/\i<xs.length:=by
 unfold atI at h;cases e:ixN xs.length i with
 |none=>rw[e]at h;cases h
 |some j =>rw[e]at h;obtain⟨h1,h2,a,b⟩:=uo e;exact⟨j,h1,h,h2,a,b⟩
theorem kD{xs:J α}{j:O}{v:α}(h:xs[j]?=Y v):atI xs (j:Z)=Y v:=by
 have hj:j<xs.length:=(NC.mp h).1;have e:ixN xs.length (j:Z)=Y j:=by unfold ixN;rw[HL ⋯,HL ⋯];simp
 unfold atI;rw[e];exact h
def u2(b:Qt):Prop:=∀o i,subscripted b false o i=operate [o,i] (getItem o i)
def IxR(X:Cx)(r:R2):Prop :=
 ∀(value slice:Qt)(z8:J (J'×Rv))(s:LN)(σ:St)(H:Hp)(x y:V)(v u:GC)(Q:VK),Inv X z8 σ H s->RelV x v->RelV y u->r x y H Q ->
  subscripted slice false v u=operate [v,u] (getItem v u)->wpAny (model X.prog X.w) X.A (subscriptTail value slice v u) (EP X z8 σ Q) X.xe s
def MtR(X:Cx)(id:RI)(r:V->J V->Hp->VK->Prop):Prop :=
 ∀(z8:J (J'×Rv))(s:LN)(σ:St)(H:Hp)(x:V)(xs:J V)(v:GC)(us:J GC)(Q:VK),Inv X z8 σ H s->RelV x v->Vals xs us->r x xs H Q ->
  wpAny (model X.prog X.w) X.A (call (.builtin id) (v::us)) (EP X z8 σ Q) X.xe s
section
variable {a b:Qt}{ta tb:TE}
theorem IxR.or{r a:R2}(h:IxR X r)(h':IxR X a):IxR X (λx y H Q=>r x y H Q\/a x y H Q):=by
 intro value slice z8 s σ H x y v u Q I b c q e;rcases q with q|q
 .exact h value slice z8 s σ H x y v u Q I b c q e
 .exact h' value slice z8 s σ H x y v u Q I b c q e
theorem A1{r:R2}(c:IxR X r)(ha:PE X a ta)(e:PE X b tb)(f:u2 b):PE X (.Subscript a b pos) (tOp r ta tb):=by intro z8 s σ H Q I h;exact Vo (Jt ha e I h λv u s2 x y H2 g i j q=>c a b z8 s2 σ H2 x y v u Q g i j q (f _ _))
def ME(K:Qp):R2:=λx y H Q=>∃p xs i v,x=.ref p/\y=.int i/\SqL K H p xs/\atI xs i=Y v/\Q v H
def Mb(K:Qp):R2:=λx y H Q=>∃p xs i v,x=.ref p/\y=.int i/\SqT K H p xs/\atI xs i=Y v/\Q v H
theorem oQ:IxR X (ME X.K):=by
 intro value slice z8 s σ H x y v u Q I f g h c;obtain⟨p,xs,i,z,rfl,rfl,l,m,q⟩:=h;cases f;obtain⟨t,rfl⟩:=g;obtain⟨its,r,pl,hz⟩:=I.list l;obtain⟨j,h1,h2,h3,n,o⟩:=A5 m;obtain⟨w,e,a⟩:=r.get h2;have hl:=r.length;have hn:=vo;have fin:EP X z8 σ Q w s:=⟨z,H,I,a,q⟩
 by_cases h0:0<=i
 .have b:i.toNat=j:=by rw[UZ h0 o]at h1;exact N4 h1
  exact item_listR pl.isList h0 ⋯ (by rw[b];simpa using e) fin c
 .have b:(i+(its.toArray.size:Z)).toNat=j:=by rw[Us ⋯ n]at h1;rw[NM,<-hl];exact N4 h1
  exact Te (x:=w) pl.isList.typeIs Ut.lookup
   (wpAny_getItem_list_neg (Q:=λr s'=>r=w/\EP X z8 σ Q r s') pl.isList ⋯ (by rw[NM] <;> omega) ⋯ (by rw[b];simpa using e) ⟨rfl,fin⟩) c
theorem KP:IxR X (Mb X.K):=by
 intro value slice z8 s σ H x y v u Q I b c h e;obtain⟨p,xs,i,z,rfl,rfl,f,g,q⟩:=h;cases b;obtain⟨t,rfl⟩:=c;obtain⟨its,r,pl,hz⟩:=I.tuple f;obtain⟨j,h1,h2,h3,h4,h5⟩:=A5 g;obtain⟨w,l,a⟩:=r.get h2;have hl:=r.length;have hn:=vo;have fin:EP X z8 σ Q w s:=⟨z,H,I,a,q⟩
 exact Te (x:=w) pl.typeIs slot_tuple_getitem.lookup
  (getItem_tuple (j:=j) (Q:=λr s'=>r=w/\EP X z8 σ Q r s') pl ⋯ ⋯ (by rw[NM,<-hl];exact h1) (by simpa using l) ⟨rfl,fin⟩) e
theorem yO(its:J GC)(n j:O)(u:GC):Ri (·.setIfInBounds j u) {cls:=.type "list",data:=.seq its.toArray n}={cls:=.type "list",data:=.seq (its.set j u).toArray n}:=by simp[Ri]
theorem Inv.lst{p:J'}(I:Inv X z8 σ H s)(h:H p=Y (.lst xs)) :
  ∃(its:J GC)(n:O),Vals xs its/\s.heap.get? p=Y {cls:=.type "list",data:=.seq its.toArray n}/\xs.length<=sizeLine:=by
 obtain⟨z,its,n,r,e⟩:=I.hok p _ h;exact⟨its,n,r,e,z⟩
theorem Inv.lstUpd{p:J'}{ys:J V}{n':O}{f:Rv->Rv}(I:Inv X z8 σ H s)(h:H p=Y (.lst xs))
  (c:s.heap.get? p=Y {cls:=.type "list",data:=.seq its.toArray n}) (a:f {cls:=.type "list",data:=.seq its.toArray n}={cls:=.type "list",data:=.seq its'.toArray n'}) (r:Vals ys its') (g:ys.length<=sizeLine) (t:O) :
  Inv X z8 σ (upd H p (.lst ys)) {s with heap:=s.heap.update p f,toks:=t}:=by
 have e:(s.heap.update p f).get? p=Y {cls:=.type "list",data:=.seq its'.toArray n'}:=by rw[OS f c (by rw[a] <;> rfl),a]
 refine I.write (x:=p) (e:=p) (by rw[h];trivial) (.inl rfl) (λb u i q=>(O5 _ _ (Rm i)).trans q) ⟨_,e⟩ ?_;exact⟨g,its',n',r,e⟩
def LC:V->V->V->Hp->(Hp->Prop)->Prop:=λo i v H Q=>∃p xs k j,o=.ref p/\i=.int k/\H p=Y (.lst xs)/\ixN xs.length k=Y j/\Q (upd H p (.lst (xs.set j v)))
theorem set_list:Mo X LC:=by
 intro z8 s σ H o i v ov iv u Q I g l m h;obtain⟨p,xs,k,j,rfl,rfl,hp,w,q⟩:=h;cases g;obtain⟨t,rfl⟩:=l;obtain⟨its,n,r,a,x⟩:=I.lst hp;obtain⟨h1,h2,c,e⟩:=uo w;have hl:=r.length;have hn:=vo;have f:Inv X z8 σ (upd H p (.lst (xs.set j v))) {s with heap:=s.heap.update p (Ri (·.setIfInBounds j u))} :=
  I.lstUpd hp a (yO its n j u) (r.set m j) (by rw[P7];exact x) s.toks
 by_cases h0:0<=k
 .have b:k.toNat=j:=by rw[UZ h0 e]at h1;exact N4 h1
  exact W.ki_setAt a h0 ⋯ (by rw[NM,<-hl];exact e) (by rw[b];exact⟨_,f,q⟩)
 .have b:(k+(its.toArray.size:Z)).toNat=j:=by rw[Us ⋯ c]at h1;rw[NM,<-hl];exact N4 h1
  exact W.ki_setBack a ⋯ (by rw[NM,<-hl];exact c) ⋯ (by rw[b];exact⟨_,f,q⟩)
theorem u5(lo hi:F1 Z)(n:O):(sliceBounds lo hi S n).1=((HT.sIx n 0 lo:O):Z)/\(sliceBounds lo hi S n).2.1=((HT.sIx n n hi:O):Z)/\(sliceBounds lo hi S n).2.2=1:=by
 refine⟨?_,?_,rfl⟩
 .cases lo with
  |none=>simp[sliceBounds,HT.sIx]
  |some i =>
   dsimp[sliceBounds,HT.sIx,UK,show (1:Z)>0 by decide,QA];by_cases h:i<0
   .dsimp[h,QA] <;> omega
   .dsimp[h,RL] <;> omega
 .cases hi with
  |none=>simp[sliceBounds,HT.sIx]
  |some i =>
   dsimp[sliceBounds,HT.sIx,UK,show (1:Z)>0 by decide,QA];by_cases h:i<0
   .dsimp[h,QA] <;> omega
   .dsimp[h,RL] <;> omega
theorem qY(its:J GC)(lo hi:F1 Z):slicePick its.toArray lo hi S=((its.drop (HT.sIx its.length 0 lo)).take (HT.sIx its.length its.length hi-HT.sIx its.length 0 lo)).toArray:=by obtain⟨h1,h2,a⟩:=u5 lo hi its.toArray.size;unfold slicePick;rw[h1,h2,a];dsimp[sliceRange_one,pick_run,NM] <;> rfl
def MM(K:Qp):V->F1 Z->F1 Z->Hp->VK->Prop:=λx lo hi H Q=>∃a xs,x=.ref a/\SqL K H a xs/\∀p,H p=S->Q (.ref p) (upd H p (.lst (xr xs lo hi)))
theorem Hv:SlR X (MM X.K):=by intro z8 s σ H x v vl vu lo hi sl Q I e f pl g h;obtain⟨a,xs,rfl,i,q⟩:=h;cases e;obtain⟨its,r,c,j⟩:=I.list i;have wb:=r.length;refine⟨"list",_,Ut.lookup,c.isList.typeIs,?_⟩;refine wpAny_getItem_list_slice c.isList f pl g .none #[2] ?_ (by rw[NM] <;> omega);rw[qY,<-wb];refine⟨.ref s.heap.objs.size,_,I.laid (t':=s.toks) (o:=.lst (xr xs lo hi)) (λb ob q=>N5 _ q) (ND _) ?_,rfl,q _ (I.hok.fresh (ND _))⟩;exact⟨OG (n9 xs lo hi) j,_,0,(r.drop (HT.sIx xs.length 0 lo)).take (HT.sIx xs.length xs.length hi-HT.sIx xs.length 0 lo),NN _ rfl⟩
def jL:V->Qo
 |.non=>true
 |.bl _=>true
 |.int _=>true
 |.str _=>true
 |_=>false
noncomputable def eqV:V->V->Qo
 |.non,.non=>true
 |.bl a,.bl b=>a==b
 |.bl a,.int b=>(if a then 1 else 0)==b
 |.int a,.bl b=>a==(if b then 1 else 0)
 |.int a,.int b=>a==b
 |.str a,.str b=>a==b
 |_,_=>false
theorem Lo{A:Qs}{x:V}{v:GC}(e:RelV y u)(c:RelV x v)(g:jL y=true)(f:jL x=true):Qz A s u v (eqV y x):=by
 cases y with
 |non =>
  cases e;cases x with
  |non=>cases c;exact V2 _
  |bl b=>cases c;exact Qz.none_bool b
  |int b=>obtain⟨t,rfl⟩:=c;exact TR b t
  |str b=>obtain⟨t,rfl⟩:=c;exact Qz.none_str b t
  |_=>exact Qr (show false=true from f) NL
 |bl a =>
  cases e;cases x with
  |non=>cases c;exact Qz.bool_none a
  |bl b=>cases c;exact Qz.bool_bool a b
  |int b=>obtain⟨t,rfl⟩:=c;exact Qz.bool_int a b t
  |str b=>obtain⟨t,rfl⟩:=c;exact Qz.bool_str a b t
  |_=>exact Qr (show false=true from f) NL
 |int a =>
  obtain⟨t',rfl⟩:=e;cases x with
  |non=>cases c;exact TU a t'
  |bl b=>cases c;exact Qz.int_bool a t' b
  |int b=>obtain⟨t,rfl⟩:=c;exact Ua a t' b t
  |str b=>obtain⟨t,rfl⟩:=c;exact U5 a t' b t
  |_=>exact Qr (show false=true from f) NL
 |str a =>
  obtain⟨t',rfl⟩:=e;cases x with
  |non=>cases c;exact Qz.str_none a t'
  |bl b=>cases c;exact Qz.str_bool a t' b
  |int b=>obtain⟨t,rfl⟩:=c;exact U6 a t' b t
  |str b=>obtain⟨t,rfl⟩:=c;exact Qz.str_str a t' b t
  |_=>exact Qr (show false=true from f) NL
 |_=>exact Qr (show false=true from g) NL
def eqU(x:V)(u:GC):Bool:=match u with
 |.none=>eqV .non x
 |.bool b=>eqV (.bl b) x
 |.int i _=>eqV (.int i) x
 |.str z _=>eqV (.str z) x
 |_=>false
theorem zG{x:V}(r:RelV y u)(f:jL y=true):eqU x u=eqV y x:=by
 cases y with
 |non=>cases r;rfl
 |bl b=>cases r;rfl
 |int i=>obtain⟨t,rfl⟩:=r;rfl
 |str z=>obtain⟨t,rfl⟩:=r;rfl
 |_=>exact Qr (show false=true from f) NL
theorem vg{x:V}:∀{xs:J V}{us:J GC},Vals xs us->xs.all jL=true->us.any (eqU x)=xs.any λy=>eqV y x
 |_,_,.nil,_=>rfl
 |y::xs,u::us,.cons r t,f=>by rw[Px,NG]at f;rw[OR,OR,zG r f.1,vg t f.2]
theorem me{A:Qs}{s:LN}{x:V}{v:GC}(b:RelV x v)(c:jL x=true):∀{xs:J V}{us:J GC},Vals xs us->xs.all jL=true->∀u∈us,Qz A s u v (eqU x u)
 |_,_,.nil,_=>λu a=>by cases a
 |y::xs,u::us,.cons r t,f=>λe a=>by
  rw[Px,NG]at f;rcases NB.mp a with rfl|a
  .rw[zG r f.1];exact Lo r b f.1 c
  .exact me b c t f.2 e a
def inV(x:V)(xs:J V):Bool:=xs.any λy=>eqV y x
def rIn(K:Qp)(neg:Qo):R2:=λx y H Q=>∃p xs,y=.ref p/\(SqL K H p xs\/SqT K H p xs)/\jL x=true/\xs.all jL=true/\Q (.bl (if neg then !inV x xs else inV x xs)) H
theorem Co:OpR X (compareOp .In) (rIn X.K false):=by
 intro z8 s σ H x y v u Q I b e h;obtain⟨p,xs,rfl,a,c,fs,q⟩:=h;cases e;rcases a with a|a
 .obtain⟨its,r,pl,f⟩:=I.list a;refine SeqAt.in_listAt (eqU x) pl.isList (λw hw=>me b c r fs w (by simpa using hw)) ⟨.bl _,H,I,rfl,?_⟩;rw[show its.toArray.any (eqU x)=its.any (eqU x) by simp,vg r fs];exact q
 .obtain⟨its,r,pl,f⟩:=I.tuple a;refine SeqAt.in_tupleAt (eqU x) pl (λw hw=>me b c r fs w (by simpa using hw)) ⟨.bl _,H,I,rfl,?_⟩;rw[show its.toArray.any (eqU x)=its.any (eqU x) by simp,vg r fs];exact q
theorem jt:kf X (.builtin "len") (λxs H Q=>∃p ys,xs=[.ref p]/\(SqL X.K H p ys\/SqT X.K H p ys)/\Q (.int ys.length) H):=by
 intro z8 s σ H xs us Q I r h;obtain⟨p,ys,rfl,a,q⟩:=h;obtain⟨u,rfl,c⟩:=vals1 r;cases c;have hn:=vo;rcases a with a|a
 .obtain⟨its,b,pl,e⟩:=I.list a;have wb:=b.length;exact Calls.call_len_list pl.isList (by dsimp[NM] <;> omega) ⟨.int ys.length,H,I.tok _,⟨s.toks+1,by rw[NM,wb]⟩,q⟩
 .obtain⟨its,b,pl,e⟩:=I.tuple a;have wb:=b.length;exact len_tuple pl (by dsimp[NM] <;> omega) ⟨.int ys.length,H,I.tok _,⟨s.toks+1,by rw[NM,wb]⟩,q⟩
theorem qW:kf X (.type "tuple") (λxs H Q=>∃p ys,xs=[.ref p]/\((SqL X.K H p ys/\∀l,H l=S->Q (.ref l) (upd H l (.tup ys)))\/(SqT X.K H p ys/\Q (.ref p) H))):=by
 intro z8 s σ H xs us Q I r h;obtain⟨p,ys,rfl,h⟩:=h;obtain⟨u,rfl,i⟩:=vals1 r;cases i;rcases h with⟨a,q⟩|⟨a,q⟩
 .obtain⟨its,c,pl,f⟩:=I.list a;have wb:=c.length;refine call_tuple_list pl.isList (λh' kp=>?_) (by dsimp[NM] <;> omega);have g:Inv X z8 σ H {s with heap:=h'}:=I.kept (t':=s.toks) kp;have j:Inv X z8 σ (upd H h'.objs.size (.tup ys)) {s with heap:=h'.push {cls:=.type "tuple",data:=.seq its.toArray}} :=
   g.laid (t':=s.toks) (λb o e=>N5 _ e) (ND _) (show cC X.prog X.w _ _ _ (.tup ys) from⟨f,its,c,uh.new _ _⟩)
  exact⟨.ref h'.objs.size,_,j,rfl,q _ (g.hok.fresh (ND _))⟩
 .obtain⟨its,c,pl,f⟩:=I.tuple a;exact call_tuple_same pl ⟨.ref p,H,I,rfl,q⟩
def tyV(K:Qp)(T:RI)(x:V)(H:Hp):Prop:=match x with
 |.str _=>T="str"
 |.int _=>T="int"
 |.ref p=>(T="list"/\∃xs,SqL K H p xs)\/(T="tuple"/\∃o,K.lookup p=Y o/\o.cls=.type "tuple"/\o.dict=S) \/
  (T="dict"/\((∃kvs,H p=Y (.dK kvs))\/∃kvs,H p=Y (.dT kvs)))\/(T="set"/\∃D' n,H p=Y (.set D' n))
 |_=>False
theorem KN{T:RI}{x:V}{v:GC}(I:Inv X z8 σ H s)(r:RelV x v)(ty:tyV X.K T x H) :
  s.TypeIs v T/\∀a,v=.ref a->∃ob,s.heap.get? a=Y ob/\ob.dict=none:=by
 cases x with
 |str z =>obtain⟨t,rfl⟩:=r;cases (show T="str" from ty);exact⟨typeIs_str s z t,λ_ e=>nomatch e⟩
 |int i =>obtain⟨t,rfl⟩:=r;cases (show T="int" from ty);exact⟨Tf s i t,λ_ e=>nomatch e⟩
 |ref p =>
  cases r;rcases ty with⟨rfl,xs,f⟩|⟨rfl,o,b,hc,hd⟩|⟨rfl,b⟩|⟨rfl,D',n,b⟩
  .obtain⟨its,_,pl,_⟩:=I.list f;refine⟨pl.isList.typeIs,λa e=>?_⟩;cases e;obtain⟨o,n,e,c,hd,_⟩:=pl;exact⟨o,e,hd⟩
  .refine⟨⟨o,I.kIn p o b,hc⟩,λa e=>?_⟩;cases e;exact⟨o,I.kIn _ o b,hd⟩
  .have z:∃o,s.heap.get? p=Y o/\o.ExactDict:=by
    rcases b with⟨kvs,b⟩|⟨kvs,b⟩
    .obtain⟨_,_,_,_,o,_,_,e,ex,_⟩:=I.hok p _ b;exact⟨o,e,ex⟩
    .obtain⟨_,_,_,_,o,_,_,e,ex,_⟩:=I.hok p _ b;exact⟨o,e,ex⟩
   obtain⟨o,e,ex⟩:=z;refine⟨⟨o,e,ex.1⟩,λa e2=>?_⟩;cases e2;exact⟨o,e,ex.2.1⟩
  .obtain⟨o,_,_,_,e,ex,_⟩:=I.hok p _ b;refine⟨⟨o,e,ex.1⟩,λa e2=>?_⟩;cases e2;exact⟨o,e,ex.2.1⟩
 |_=>exact QQ ty
def tBM(K:Qp)(T:RI)(r:V->J V->Hp->VK->Prop)(to:TE)(t:TA):TE:=λσ H Q=>to σ H λx H1=>tyV K T x H1/\t σ H1 λxs H2=>r x xs H2 Q
variable {o e:Qt}{es:J Qt}{to:TE}{t:TA}{name:Qn}{apos:Ts}{T id:RI}{r:V->J V->Hp->VK->Prop}
theorem Ba(pa:PlainAttrs T)(slot:Slot T name id)(g:typeOf (.builtin id)=pure (.type "method_descriptor"))(hm:MtR X id r)(p:PE X o to)(ha:PA X (e::es) t)
  (b:attributeBase o name X.env (eval o X.env)=eval o X.env:=by rfl)
  (f:((backTo cpos (starEach (e::es) X.env)).all (λx=>!x.1)&&(backToKw cpos (keywordEach [] X.env)).all (λx=>x.1.isSome)
  &&decide ((e::es).length+([]:J RA).length+(if ([]:J RA).isEmpty then 0 else 1)<30))=true:=by rfl)
  (c:(apos.endLine==cpos.line)=true:=by rfl) (q:starEach (e::es) X.env=(false,eval e X.env)::starEach es X.env:=by rfl) (a:(backTo cpos (starEach es X.env)).any (·.1)=false:=by rfl) :
  PE X (.Call (.Attribute o name apos) (e::es) [] cpos) (tBM X.K T r to t):=by
 intro z8 s σ H Q I h;refine Tg b f c rfl (thn (p z8 s σ H _ I h) λv u i=>?_);obtain⟨x,H1,l,m,ty,w⟩:=i;obtain⟨h1,h2⟩:=KN l m ty;refine⟨T,id,pa,slot,g,h1,h2,?_⟩;have n:=ha cpos z8 u σ H1 _ l w;rw[q]at n ⊢;refine S9 (by show (false||(backTo cpos (starEach es X.env)).any (·.1))=false;rw[a] <;> rfl) (Sl ?_);exact thn n λus s2 j=>(by obtain⟨vs,H2,y,z,A⟩:=j;exact hm z8 s2 σ H2 x vs v us Q y m z A)
end
def MtM(X:Cx)(id:RI)(r:V->J V->Hp->VK->Prop):Prop :=
 ∀(z8:J (J'×Rv))(s:LN)(σ:St)(H:Hp)(x:V)(xs:J V)(v:GC)(us:J GC)(Q:VK),Inv X z8 σ H s->RelV x v->Vals xs us->r x xs H Q ->
  wpAny (model X.prog X.w) X.A (call (.builtin id) (v::us)) (EP X z8 σ Q) X.xe s
theorem Vals.one{x:V}(h:Vals [x] us):∃u,us=[u]/\RelV x u:=by
 cases h with
 |cons r t=>cases t;exact⟨_,rfl,r⟩
theorem Vals.eraseIdx:∀{xs:J V}{us:J GC}(i:O),Vals xs us->Vals (xs.eraseIdx i) (us.eraseIdx i)
 |_,_,_,.nil=>.nil
 |_,_,0,.cons _ t=>t
 |_,_,i+1,.cons r t=>.cons r (Vals.eraseIdx i t)
theorem Vals.rep{xs:J V}{us:J GC}(h:Vals xs us):∀k:O,Vals (L' k xs).flatten (L' k us).flatten
 |0=>.nil
 |k+1=>by rw[ON,ON,OY,OY];exact Vals.append h (Vals.rep h k)
theorem tO{α:Type}:∀(l:J α)(i:O),(l.eraseIdx i).length<=l.length
 |[],_=>ND _
 |_::_,0=>Pd _
 |_::r,i+1=>O.succ_le_succ (tO r i)
theorem foldl_rep(its:J GC):∀(k:O)(z5:J GC),
  Si (λa b=>a++b) z5.toArray (L' k its.toArray)=(z5++(L' k its).flatten).toArray
 |0,z5=>by simp
 |k+1,z5=>by
  have e:z5.toArray++its.toArray=(z5++its).toArray:=by simp
  have e2:(z5++its)++(L' k its).flatten=z5++(L' (k+1) its).flatten:=by rw[ON,OY,OK]
  rw[<-e2,<-foldl_rep its k (z5++its),<-e,ON,NY]
section
variable {l:J'}{ys zs:J V}
theorem Inv.lset{f:QR GC->QR GC}{t':O}(I:Inv X z8 σ H s)(a:H l=Y (.lst xs))
  (e:s.heap.get? l=Y {cls:=.type "list",data:=.seq its.toArray n}) (b:f its.toArray=its'.toArray) (hv:Vals ys its') (c:ys.length<=sizeLine) :
  Inv X z8 σ (upd H l (.lst ys)) {s with heap:=s.heap.update l (Ri f),toks:=t'}:=by
 have q:=PySem.IsL.update e f;rw[b]at q;refine I.write (x:=l) (e:=l) (by rw[a];exact trivial) (.inl rfl) (λb' u g h=>(O5 s.heap (Ri f) (Rm g)).trans h) ⟨_,q⟩ ?_;exact⟨c,its',_,hv,q⟩
theorem Inv.lnew{t':O}(I:Inv X z8 σ H s)(hv:Vals ys its)(a:ys.length<=sizeLine) :
  Inv X z8 σ (upd H s.heap.objs.size (.lst ys)) {s with heap:=s.heap.push {cls:=.type "list",data:=.seq its.toArray},toks:=t'} :=
 I.laid (λ_ _ q=>N5 _ q) (ND _) ⟨a,its,0,hv,NN _ rfl⟩
theorem Inv.fresh(I:Inv X z8 σ H s):H s.heap.objs.size=none:=I.hok.fresh (ND _)
theorem Inv.lstM(I:Inv X z8 σ H s)(a:H l=Y (.lst xs)):xs.length<=sizeLine/\∃(its:J GC)(n:O),Vals xs its/\xs.length=its.length/\s.heap.get? l=Y {cls:=.type "list",data:=.seq its.toArray n}:=by obtain⟨z,its,n,r,e⟩:=I.hok l _ a;exact⟨z,its,n,r,r.length,e⟩
theorem Ea(h:n<=sizeLine):S0 n=false:=by unfold S0;exact P' ⋯
end
section
def Ig:V->J V->Hp->VK->Prop:=λx vs H Q=>∃l xs y,x=.ref l/\vs=[y]/\H l=Y (.lst xs)/\xs.length<sizeLine/\Q .non (upd H l (.lst (xs++[y])))
theorem ky:MtM X "list.append" Ig:=by intro z8 s σ H x vs v us Q I b c h;obtain⟨l,xs,y,rfl,rfl,a,hz,q⟩:=h;cases b;obtain⟨u,rfl,f⟩:=c.one;obtain⟨z,its,n,r,hl,e⟩:=I.lstM a;refine RT S4 ⟨_,e,rfl⟩ F.entry_list_append (F.args_list_append_2 _ _) (PySem.list_append l its.toArray n u (by rw[NM];omega)) ⟨e,?_⟩;refine⟨.non,_,I.lset (its':=its++[u]) a e #[2] (r.append (.cons f .nil)) ?_,rfl,q⟩;rw[NS,Ou];omega
def Kf:V->J V->Hp->VK->Prop:=λx vs H Q=>∃l xs i k y,x=.ref l/\vs=[.int i]/\H l=Y (.lst xs)/\-(2 ^ 63)<=i/\i<2 ^ 63/\seqIndex? i xs.length=Y k/\xs[k]?=Y y/\Q y (upd H l (.lst (xs.eraseIdx k)))
theorem E8:MtM X "list.pop" Kf:=by
 intro z8 s σ H x vs v us Q I c f h;obtain⟨l,xs,i,k,y,rfl,rfl,b,h1,h2,g,j,q⟩:=h;cases c;obtain⟨u,rfl,m⟩:=f.one;obtain⟨t,rfl⟩:=m;obtain⟨z,its,n,r,hl,e⟩:=I.lstM b;obtain⟨w,hw,a⟩:=r.get j;refine RT V3 ⟨_,e,rfl⟩ F.entry_list_pop (F.args_list_pop_2 _ _)
  (MeetsSeq.list_pop_at l its.toArray n i t k w (Vp h1 h2) (by rw[NM,<-hl];exact g) (by rw[<-PX];exact hw) (by rw[NM];omega)) ⟨e,?_⟩
 refine⟨y,_,I.lset (its':=its.eraseIdx k) b e ?_ (r.eraseIdx k) ?_,a,q⟩
 .show its.toArray.eraseIdxIfInBounds k=(its.eraseIdx k).toArray;rw[J.eraseIdxIfInBounds_toArray]
 .have:=tO xs k;omega
def MG:R2:=λx y H Q=>∃l b xs zs,x=.ref l/\y=.ref b/\H l=Y (.lst xs)/\H b=Y (.lst zs)/\xs.length+zs.length<=sizeLine/\∀p,H p=S->Q (.ref p) (upd H p (.lst (xs++zs)))
theorem KC:OpR X (binaryOp .Add) MG:=by
 intro z8 s σ H x y v u Q I c f h;obtain⟨l,b,xs,zs,rfl,rfl,g,hB,hz,q⟩:=h;cases c;cases f;obtain⟨z,its,n,r,hl,e⟩:=I.lstM g;obtain⟨z2,a,n2,i,hl2,e2⟩:=I.lstM hB;refine PySem.P.add_list e e2 ?_ (by rw[NM,NM];omega);have ea:its.toArray++a.toArray=(its++a).toArray:=by simp
 rw[ea];exact⟨.ref _,_,I.lnew (t':=s.toks) (r.append i) (by rw[NS];omega),rfl,q _ I.fresh⟩
def MI:R2:=λx y H Q=>∃l k xs,x=.ref l/\y=.int k/\H l=Y (.lst xs)/\-(2 ^ 63)<=k/\k<2 ^ 63/\xs.length*k.toNat<=sizeLine /\
 ∀p,H p=S->Q (.ref p) (upd H p (.lst (L' k.toNat xs).flatten))
theorem len_rep(xs:J α)(k:O):(L' k xs).flatten.length=k*xs.length:=by
 induction k with
 |zero=>simp
 |succ k ih=>rw[ON,OY,NS,ih,O.succ_mul,O.add_comm]
theorem KD:OpR X (binaryOp .Mult) MI:=by
 intro z8 s σ H x y v u Q I p w h;obtain⟨l,k,xs,rfl,rfl,A,h1,h2,o,q⟩:=h;cases p;obtain⟨t,rfl⟩:=w;obtain⟨z,its,n,r,hl,e⟩:=I.lstM A;have wb:its.toArray.size*k.toNat<=sizeLine:=by rw[NM,<-hl];exact o
 have c:¬ its.toArray.size*k.toNat>(2 ^ 63-1) / 8:=by
  have:(sizeLine:O)<=(2 ^ 63-1) / 8:=by decide
  omega
 have f:¬ (!Qq.List.listFitsIndex k)=true:=by rw[Vp h1 h2];exact NL
 have b:¬ S0 (its.toArray.size*k.toNat)=true:=by rw[Ea wb];exact NL
 have g:Si (λi j=>i++j) #[] (L' (if its.toArray.isEmpty=true then 0 else k.toNat) its.toArray)=(L' k.toNat its).flatten.toArray:=by
  have B:∀m:O,Si (λi j=>i++j) #[] (L' m its.toArray)=(L' m its).flatten.toArray:=λm=>by have:=foldl_rep its m [];rw[OF]at this;exact this
  rw[B];cases its with
  |nil=>simp
  |cons a r'=>rw[I' #[2]]
 refine SK (T:="list") (U:="int") #[1] ⟨_,e,rfl⟩ (λs'=>Tf s' k t) noFill_list_mul V4 So repeat_list UL.lookup
  (RT So (Tf s k t) UM (Uu _ _) (int___rmul___int_list k t l its.toArray n)
   ⟨e,rfl,⟨_,e,rfl⟩,RT F.slot_list_mul ⟨_,e,rfl⟩ F.entry_list_mul (F.args_list_mul_2 _ _) (AutoListH.list___mul___list_int_3 l its.toArray n k t f c b) ⟨e,?_⟩⟩)
 rw[g];exact⟨.ref _,_,I.lnew (t':=s.toks) (r.rep k.toNat) (by rw[len_rep,Uv];exact o),rfl,q _ I.fresh⟩
end
section
variable {A:Qs}
end
section
end
end L2
namespace Att
open PySem PySem.W PySem.Calls PyProof.Rows
theorem oy{P:W9}:∀(ns:J Z)(vs:J GC),WellAll P h vs (ns.map Wj)->RF vs ns:=by
 intro ns
 induction ns with
 |nil =>intro vs w;rw[OI]at w;cases w;exact .nil
 |cons n ns ih =>
  intro vs w;rw[N2]at w;cases w with
  |cons a b =>cases a;exact .cons _ _ (ih _ b)
theorem CT{l:Vg}{n:O}(hn:l.most=Y n){P:W9}{args:J We}{vals:J GC}
  (b:l.row.toRowW.claim.pre args=true) (f:WellAll P h vals args) :
  ∃a vs ns,vals=[Qw a]/\args=[We.list (ns.map Wj)]/\h.get? a=Y {cls:=.type "list",data:=.seq vs.toArray}/\RF vs ns/\ns.length<=n:=by
 have g:WShape.hasAll [] args [.list .int]=true:=(pre_splitW b).1;have hc:l.pre.holds [] {args:=args}=true:=(pre_splitW b).2;obtain⟨d,r,rfl,h1,h2⟩:=hasAllW_cons g;obtain rfl:=hasAllW_nil h2;obtain⟨xs,rfl,i⟩:=hasW_list h1;obtain⟨ns,rfl⟩:=items_int i;have wb:ns.length<=n:=by
  unfold Vg.pre at hc;have c:(WTm.not (.lt (.lit (.int (n:Z))) (.len (.arg 0)))).holds [] {args:=[.list (ns.map .int)]}=true:=by have c:=(holds_andW hc).1;rw[hn]at c;exact c
  have e:=condW_of c (w_not (w_lt w_lit (w_len_list (w_arg rfl))));rw[N8]at e;refine O.le_of_not_lt λq=>?_
  have j:(n:Z)<((ns.length:O):Z):=⋯
  first
   |(rw[Ql j]at e;exact Qr e #[1])
   |(simp at e;omega)
 cases f with
 |cons w1 w2 =>
  cases w2;cases w1 with
  |list ho hall=>exact⟨_,_,ns,rfl,rfl,ho,oy ns _ hall,wb⟩
theorem CM(l:Vg)(args:J We):l.row.toRowW.claim.post args (.bool true) args=true :=
 postW_of (r:=l.row.toRowW) (X:=(true==true))
  (show Wa [] (.bool true) .bool=true by first|rfl|decide|simp[Wa,WShape.arms,WShape.armsAll])
  (show (WTm.eq .res (.lit (.bool true))).value [] {args:=args,res:=Y (.bool true),after:=args}=Y (.bool (true==true)) from w_eq_bool (w_res rfl) w_lit) rfl
theorem wu{l:Vg}{n:O}{d:Wb}
  (hn:l.most=Y n) (h:d.params.defaults=[])
  (call:∀(w:QY)(s₀ b:LN)(mg i:Qn->F1 GC)(c:J')(o:Rv)(pm cd doc:GC)(a:J')(vs:J GC)(ns:J Z),
   Ground q loose [] XP w s₀ mg i b.heap->YP w b.heap ->
   b.heap.get? c=Y o->o.data=.func (docDef d.name d.params d.body d.scope pm cd doc)->b.heap.CodeRec cd d.name->mg d.name=Y (.ref c) ->
   b.heap.get? a=Y {cls:=.type "list",data:=.seq vs.toArray}->RF vs ns->ns.length<=n->b.gens=#[] ->
   codeAny (model l.prog w) callerA (.call (.ref c) ⟨[.ref a],[]⟩) (λr s'=>r=.ok (.ret (.bool true))/\OldK b.heap s'.heap/\s'.os=b.os/\Sv s'.gens) b) :
  WalkO q loose XP YP l.row.toRowW d [] (λf vs=>PySem.call f vs):=by
 intro w s₀ b mg i G A4 c o pm cd doc t kV u hd j s m v args vals as e hlay hrd p hlo;obtain rfl:t=.none:=Dflts.none s h;obtain rfl:kV=.none:=Dflts.noKw s;obtain⟨a,vs,ns,rfl,rfl,g,hints,wb⟩:=CT hn e p;refine enter_call (Rz (call w s₀ b mg i c o pm cd doc a vs ns G A4 u (fd_plain hd) j m g hints wb v) λr s' x=>?_);obtain⟨rfl,h2,y,z⟩:=x;exact⟨.inl ⟨.bool true,.bool true,[],rfl,λ_=>rfl,.bool true,CM l _,λ_=>⟨Uw,λ_ hm=>(nomatch hm)⟩⟩,h2,y,z⟩
section
variable {A:Qs}{K:Frag}
end
end Att
namespace L2
open PySem PySem.Spec PyProof.Rows
variable {f:J'}
theorem sH:∀{vs:J GC}{ns:J Z},RF vs ns->Vals (ns.map V.int) vs
 |_,_,.nil=>.nil
 |_,_,.cons n t h=>.cons ⟨t,rfl⟩ (sH h)
def Jk(H:Hp):Prop:=∀b,H b=S\/(∃o xs,H b=Y (.frz o (.lst xs)))\/∃q,H b=Y (.tbl q)
def mS(K:Qp)(h:QD):Prop:=(∀P q,TabOf K P q->h.get? P=Y {cls:=.none,data:=.fields #[]}/\K.lookup P=S/\isCodeTable h P)/\∀P q a,TabOf K P q->TabOf K P a->q=a
section
open Classical
def kU(K:Qp):Hp:=λb=>if h:∃q,TabOf K b q then Y (.tbl h.choose) else S
theorem c4(K:Qp)(b:J'):kU K b=S\/∃q,TabOf K b q/\kU K b=Y (.tbl q):=by
 unfold kU;split
 .rename_i h;exact .inr ⟨_,h.choose_spec,rfl⟩
 .exact .inl rfl
theorem rX(a:mS K h){P:J'}{q:Qn}(t:TabOf K P q):kU K P=Y (.tbl q):=by
 rcases c4 K P with e|⟨b,t',e⟩
 .unfold kU at e;rw[dif_pos ⟨q,t⟩]at e;cases e
 .rw[e,a.2 P q b t t']
end
def n6(mg:Qn->F1 GC)(base:QD):Prop:=∃bm o,mg "__builtins__"=Y (.ref bm)/\bm≠builtinsNs/\bm≠mainGlobals/\base.get? bm=Y o/\o.cls=.type "module"/\o.dict=Y builtinsNs/\o.data=.plain
theorem law_call{N:Qn->F1 GC}{k:O}{EE:J'}{sp:Sp}{c:LN}{vs:J GC}
  (KX:K.In c.heap) (E:c.heap.Ns mainGlobals mg) (i:c.heap.Ns builtinsNs N) (Q:∀x:Qn,x≠"__name__"->N x=bootBuiltins x) (G:c.heap.NoLimit) (hg:c.gens=#[])
  (ha:c.heap.get? a=Y {cls:=.type "list",data:=.seq vs.toArray}) (hi:RF vs ns) (hl:ns.length<=sizeLine) (hr:cO k callerA)
  (R:n6 mg c.heap) (F:∀base:QD,K.In base->base.Ns mainGlobals mg->n6 mg base->iH P w K mg base CX k EE fd [x] sp) (A:∀(s:LN)(u:GC),VM s fd ⟨[u],[]⟩ [(x,u)])
  (D':∀H:Hp,Jk H->SqL K H a (ns.map V.int)->sp [.ref a] H (λv _=>v=.bl true) λ_ _ _=>False)
  (T:∀H e s',CX [] H c (λ_ _ _=>False) e s'->False) (j:mS K c.heap) :
  codeAny (model P w) callerA (.call (.ref EE) ⟨[.ref a],[]⟩) (λr s'=>r=.ok (.ret (.bool true))/\OldK c.heap s'.heap/\s'.os=c.os/\Sv s'.gens) c:=by
 have rv:=sH hi;have I:=hi.length
 -- from an abstract heap in which nothing but the script may be tracked
 have core:∀H:Hp,Jk H->SqL K H a (ns.map V.int)->HOk P w H c.heap->(∀b,H b≠S->b=a\/∃q,TabOf K b q)->(H a≠S->K.lookup a=S)->(∀P q,TabOf K P q->H P=Y (.tbl q)) ->
   codeAny (model P w) callerA (.call (.ref EE) ⟨[.ref a],[]⟩) (λr s'=>r=.ok (.ret (.bool true))/\OldK c.heap s'.heap/\s'.os=c.os/\Sv s'.gens) c:=by
  intro H hO hS hok M hK U;have f:∀{b:J'}{o:Rv},c.heap.get? b=Y o->H b=S->(rq c.heap H).get? b=Y o:=λe n=>EG e n
  have X:∀{b:J'}{o:Rv}{es:QR UN}{ep:O},c.heap.get? b=Y o->o.data=.dict es ep->H b=none:=λ{b o es ep} e d=>by
   cases q:H b with
   |none=>rfl
   |some u =>
    rcases M b (by rw[q];simp) with g|⟨B,g⟩
    case inr=>rw[(j.1 b B g).1]at e;cases e;cases d
    subst g;rw[ha]at e;cases e;have d':Data.seq vs.toArray _=Data.dict es ep:=d;cases d'
  have l:∀{b:J'}{m:Qn->F1 GC},c.heap.Ns b m->(rq c.heap H).Ns b m:=λ{b m} qz2=>(by obtain⟨o,es,ep,e,d,r⟩:=qz2;exact⟨o,es,ep,f e (X e d),d,r⟩)
  have B':K.In (rq c.heap H):=λb o e=>f (KX b o e) (by
   cases q:H b with
   |none=>rfl
   |some u =>
    rcases M b (by rw[q];simp) with g|⟨B,g⟩
    case inr=>rw[(j.1 b B g).2.1]at e;cases e
    subst g;rw[hK (by rw[q];simp)]at e;cases e)
  have hM:Mod K mg (rq c.heap H):=⟨B',l E,⟨N,l i,Q⟩,let ⟨mc,h1,h2⟩:=G;⟨mc,l h1,h2⟩⟩
  have e0:uC P w K mg (rq c.heap H) callerA [] c H:=⟨rfl,hM,λb o e=>GF e,Uk (BN _ _),trivial,λb i=>Qr (show b∈([]:J J') from i) #[2],hok,.of_eq hg,U⟩
  have A4:n6 mg (rq c.heap H):=by
   obtain⟨bm,ob,b1,b2,b3,Dd,A2,b6,b7⟩:=R;refine⟨bm,ob,b1,b2,b3,f Dd ?_,A2,b6,b7⟩;cases q:H bm with
   |none=>rfl
   |some u =>
    rcases M bm (by rw[q];simp) with g|⟨B,g⟩
    case inr=>rw[(j.1 bm B g).1]at Dd;cases Dd;cases A2
    subst g;rw[ha]at Dd;cases Dd;simp at A2
  refine Rz ((F _ B' (l E) A4).run callerA [] c H ⟨[.ref a],[]⟩ [.ref a] [.ref a] _ _ hr e0 (A c (.ref a)) (.cons rfl .nil) (D' H hO hS)) λr s' h=>?_
  cases r with
  |error e=>exact (T H e s' h).elim
  |ok fl =>
   cases fl with
   |next=>exact QQ h
   |brk=>exact QQ h
   |cont=>exact QQ h
   |ret u =>
    obtain⟨v,H',os,bare,un,p,r',q⟩:=h;have q':v=.bl true:=q;subst q';obtain rfl:u=Sz true:=r';have old:∀b o,c.heap.get? b=Y o->s'.heap.get? b=Y o\/(isCodeTable c.heap b/\o.cls=.none/\∃vs more,o.data=.fields vs/\s'.heap.get? b=Y {o with data:=.fields (vs++more)}):=λb o e=>?old
    case old =>
     cases q:H b with
     |none=>exact .inl <|un.keep b o e q (by intro z;exact Qr (show b∈([]:J J') from z) #[2]) #[2]
     |some u =>
      rcases hO b with z|⟨ob,xs,z⟩|⟨B,z⟩
      .rw[q]at z;cases z
      .have z2:=un.frzs b ob _ z;obtain⟨e1,_⟩:=hok b _ z;obtain⟨e2,_⟩:=p b _ z2;rw[e]at e1;cases e1;exact .inl e2
      .have z2:=un.tbls b B z;obtain⟨ps,e2,_⟩:=p b _ z2;rcases M b (by rw[z];simp) with g|⟨q2,g⟩
       .obtain⟨ps0,D,_⟩:=hok b _ z;rw[g]at D;rw[ha]at D;cases D
       .obtain⟨D,_,e4⟩:=j.1 b q2 g;rw[e]at D;cases D;exact .inr ⟨e4,rfl,#[],ps,rfl,by simpa using e2⟩
    exact⟨rfl,⟨λb o e=>(old b o e).imp id λz=>.inl z,λb o e=>by rcases old b o e with z|⟨_,_,_,_,_,z⟩ <;> exact⟨_,z⟩⟩,os,bare⟩
 have tok:∀b q,TabOf K b q->cC P w (λ_=>S) c.heap b (.tbl q):=λb q t=>⟨#[],(j.1 b q t).1,trivial,λpos cv z=>nomatch z⟩
 have y:∀(H:Hp) b q,TabOf K b q->cC P w H c.heap b (.tbl q):=λH b q t=>⟨#[],(j.1 b q t).1,trivial,λpos cv z=>nomatch z⟩
 have na:∀q,¬ TabOf K a q:=λq t=>by have:=(j.1 a q t).1;rw[ha]at this;cases this
 cases hk:K.lookup a with
 |some o =>
  have e:=KX a o hk;rw[ha]at e;cases e;refine core (kU K) (λb=>(c4 K b).imp id λC=>(by obtain⟨q,_,e⟩:=C;exact .inr ⟨q,e⟩)) (.inr ⟨_,vs.toArray,_,hk,rfl,rfl,rfl,by rw[NM,I];exact hl,by simpa using rv⟩) (λb u z=>?_) (λb z=>?_) (λz=>?_) λP q t=>rX j t
  .rcases c4 K b with e|⟨q,t,e⟩
   .rw[z]at e;cases e
   .rw[z]at e;cases e;exact y _ b q t
  .rcases c4 K b with e|⟨q,t,e⟩
   .exact Qr e z
   .exact .inr ⟨q,t⟩
  .rcases c4 K a with e|⟨q,t,e⟩
   .exact Qr e z
   .exact Qr t (na q)
 |none =>
  have eT:∀b,b≠a->(λb=>if b=a then Y (HO.frz {cls:=.type "list",data:=.seq vs.toArray} (.lst (ns.map V.int))) else kU K b) b=kU K b:=λb h=>I' h
  have eA:(λb=>if b=a then Y (HO.frz {cls:=.type "list",data:=.seq vs.toArray} (.lst (ns.map V.int))) else kU K b) a=Y (HO.frz {cls:=.type "list",data:=.seq vs.toArray} (.lst (ns.map V.int))):=HL rfl;refine core (λb=>if b=a then Y (.frz {cls:=.type "list",data:=.seq vs.toArray} (.lst (ns.map V.int))) else kU K b) (λb=>?_) (.inl (.inr ⟨{cls:=.type "list",data:=.seq vs.toArray},HL rfl⟩)) (λb u z=>?_) (λb z=>?_) (λ_=>hk) λP q t=>?_
  .by_cases i:b=a
   .exact .inr (.inl ⟨_,_,HL i⟩)
   .rw[eT b i];exact (c4 K b).imp id λC=>(by obtain⟨q,_,e⟩:=C;exact .inr ⟨q,e⟩)
  .by_cases i:b=a
   .subst i;rw[eA]at z;cases z;exact⟨ha,by rw[N8];exact hl,vs,_,rv,ha⟩
   .rw[eT b i]at z;rcases c4 K b with e|⟨q,t,e⟩
    · rw[z]at e;cases e
    · rw[z]at e;cases e;exact y _ b q t
  .by_cases i:b=a
   .exact .inl i
   .rcases c4 K b with e|⟨q,t,e⟩
    · exact Qr ((I' i).trans e) z
    · exact .inr ⟨q,t⟩
  .exact (I' (λz=>na q (by rw[<-z];exact t))).trans (rX j t)
abbrev KOf{K:Qp}{h:QD}(_:K.In h):W.Frag:=K
theorem AL{l:W.OpenLaw}{n k:O}{d:Wb}{K:W9->Qp}{CX:QY->CXT}{sp:QY->Sp}
  (hn:l.most=Y n) (r:n<=sizeLine) (t:d.params.defaults=[]) (I:cO k callerA)
  (B':∀(w:QY)(h:QD),YP w h->(K w.params).In h)
  (F:∀(w:QY)(mg:Qn->F1 GC)(p:J')(h:QD),(K w.params).In h->h.Ns mainGlobals mg->mg d.name=Y (.ref p) ->
   ∃fd:Ui,(∀(s:LN)(u:GC),VM s fd ⟨[u],[]⟩ [(x,u)]) /\
    ∀base:QD,(K w.params).In base->base.Ns mainGlobals mg->n6 mg base->iH l.prog w (K w.params) mg base (CX w) k p fd [x] (sp w))
  (y:∀(w:QY)(H:Hp)(a:J')(ns:J Z),ns.length<=n->Jk H->SqL (K w.params) H a (ns.map V.int)->sp w [.ref a] H (λv _=>v=.bl true) λ_ _ _=>False)
  (A:∀(w:QY)(H:Hp)(s:LN)(e:GC)(s':LN),CX w [] H s (λ_ _ _=>False) e s'->False) (B:∀(w:QY)(h:QD)(c:J Qn)(i:ExcName->F1 GC)(mg E:Qn->F1 GC),UO q c i mg E h->(K w.params).In h->mS (K w.params) h) :
  W.WalkO q loose XP YP l.row.toRowW d [] (λf vs=>PySem.call f vs):=by
 refine Att.wu hn t λw s₀ j mg E p o pm cd doc a vs ns G A4 ho hd hcd C m hints wb Dd=>?_
 have D:=B' w _ A4;obtain⟨fd,N,EE⟩:=F w mg p _ D G.T.g C;exact law_call D G.T.g G.T.b G.T.builtins G.T.nolimit Dd m hints (OG wb r) I (by obtain⟨bm,ob,M⟩:=W.bmod_of_top G.T;exact⟨bm,ob,M.name,M.ne,(λz=>by obtain⟨o,es,ep,e1,e2,_⟩:=M.ns;rw[<-z,M.obj]at e1;cases e1;rw[M.data]at e2;cases e2),M.obj,M.cls,M.dict,M.data⟩) EE N (λH P Q=>y w H a ns wb P Q) (λH e s'=>A w H j e s') (B w _ _ _ _ _ G.T D)
def inClass(s:T7)(j:O):Stmt:=match s with
 |.ClassDef _ _ _ body _ _ _ _ _ _ _=>body.getD j (.Pass ⟨0,0,0,0⟩)
 |_=>.Pass ⟨0,0,0,0⟩
def gy(s:T7):Arguments:=match s with
 |.FunctionDef _ a _ _ _ _ _ _ _ _=>a
 |_=>{posonlyargs:=[],args:=[],vararg:=S,kwonlyargs:=[],kw_defaults:=[],kwarg:=S,defaults:=[]}
def cR(s:T7):J Stmt:=match s with
 |.FunctionDef _ _ b _ _ _ _ _ _ _=>b
 |_=>[]
def aH(s:T7):Scope:=match s with
 |.FunctionDef _ _ _ _ _ _ sc _ _ _=>sc
 |_=>{kind:=.function,names:=[],isGenerator:=false,isCoroutine:=false}
abbrev CX0:CXT:=λ_ _ _ _ _ _=>False
abbrev E0:XK:=λ_ _ _=>False
theorem L7:Passes CX0 X E0:=λ_ _ _ _ _ _ _ h=>h.elim
structure Fun(K:Qp)(x qual:Qn)(st:T7)(f:J')(fd:Ui):Prop where
 ex:∃(oc:GC)(od:F1 J')(kV doc pm:GC)(an:F1 J')(cdv ct:GC)(osl:QR (F1 GC)),
  fd=SX x qual (gy st) (cR st) (aH st) .none kV doc pm an cdv ct/\K.lookup f=Y ⟨oc,od,.func fd,osl⟩/\Up K cdv qual=true
 kp:S8 K (.ref f)=true
section
theorem Fun.ok{k:O}{sp:Sp}(F:Fun K x qual st f fd)(D':eS N ps (aH st))(len:∀vs H Q E,sp vs H Q E->vs.length=ps.length)
  (a:∀(cdv:GC)(A:Qs)(outer:J V1)(s:LN)(H:Hp)(vs:J V)(Q:VK)(E:XK),cO k (A.deeper (envOfC qual (aH st) s.heap.objs.size f cdv))->sp vs H Q E ->
   ∃t,PSs (dg CX0 P w K mg base N qual (aH st) f cdv A outer s H E).nox (cR st) t/\t {nx:=λ_ H'=>Q .non H',rt:=Q} (start N vs) H):iH P w K mg base CX0 (k+1) f fd ps sp:=by
 obtain⟨oc,od,kV,doc,pm,an,cdv,ct,osl,rfl,e,b⟩:=F.ex;refine E6 e b D' len λA outer s H vs Q E g c=>?_
 obtain⟨t,h,q⟩:=a cdv A outer s H vs Q E g c;exact⟨t,h.nox,q⟩
theorem Fun.binds(F:Fun K x qual st f fd)
  (h:∀(kV doc pm:GC)(an:F1 J')(cdv ct:GC)(us:J GC),us.length=ps.length->bindArgs (SX x qual (gy st) (cR st) (aH st) .none kV doc pm an cdv ct) ⟨us,[]⟩=pure (ps.zip us)):Binds K fd ps []:=by
 obtain⟨oc,od,kV,doc,pm,an,cdv,ct,osl,rfl,lk,hcd⟩:=F.ex;exact .all (h kV doc pm an cdv ct)
theorem D6{kV doc cdv:GC}(l:K.lookup f=Y ⟨oc,od,.func (SX x qual (gy st) (cR st) (aH st) .none kV doc pm an cdv ct),osl⟩)
 (c:Up K cdv qual=true) (k:S8 K (.ref f)=true):Fun K x qual st f (SX x qual (gy st) (cR st) (aH st) .none kV doc pm an cdv ct):=⟨⟨oc,od,kV,doc,pm,an,cdv,ct,osl,rfl,l,c⟩,k⟩
end
section
theorem pv(i:O)(b:X.N[i]?=Y x:=by rfl)(hv:Vis X.env.scope x:=by first|exact Or.inl rfl|exact Or.inr (Or.inl rfl)|exact Or.inr (Or.inr rfl))(hd:(x==("__debug__":Qn))=false:=by decide)
 (a:(x==("__classdict__":Qn))=false:=by decide):PE X (.Name x pos) (Mj i):=gQ b hv hd a
end
theorem LV{c A B:Prop}[Decidable c](h1:c->A)(h2:¬ c->B):if c then A else B:=by
 by_cases h:c
 .rw[HL h];exact h1 h
 .rw[I' h];exact h2 h
def aw(H H':Hp):Prop:=∀b o,H b=Y o->H' b=Y o
theorem aw.refl(H:Hp):aw H H:=λ_ _ h=>h
theorem aw.trans{H2:Hp}(a:aw H H1)(b:aw H1 H2):aw H H2:=λc o h=>b c o (a c o h)
theorem aw.free(e:aw H H'){l:J'}(h:H' l=F1.none):H l=F1.none:=by
 cases q:H l with
 |none=>rfl
 |some o =>rw[e l o q]at h;cases h
theorem aw.seq(e:aw H H')(h:SqL K H a xs):SqL K H' a xs:=by
 rcases h with (h|⟨o,h⟩)|h
 .exact .inl (.inl (e _ _ h))
 .exact .inl (.inr ⟨o,e _ _ h⟩)
 .exact .inr h
end L2
set_option maxHeartbeats 4000000
namespace L2
open PySem PySem.Spec PyProof.Rows
variable {e:Qt}{E:XK}{es:J Qt}{g:TG}{t:J V->Hp->Prop}
def tM(CX:CXT)(P:QS)(w:QY)(K:Qp)(mg:Qn->F1 GC)(base:QD)(N:J Qn)(qual:Qn)(scope:SO)(f:J')(cd:GC)(cl:J (Qn×J'))(A:Qs)(outer:J V1)(s:LN)(H:Hp)(E:XK):Cx where
 prog:=P
 w:=w
 K:=K
 mg:=mg
 base:=base
 A:=A.deeper (VO qual scope s.heap.objs.size f cd cl)
 N:=N
 s₀:=s
 H₀:=H
 env:=VO qual scope s.heap.objs.size f cd cl
 outer:=outer
 stack:=VO qual scope s.heap.objs.size f cd cl::outer
 ex:=[]
 calm:=true
 fn:=λ_=>false
 pn:=[]
 xe:=λe s'=>wpAny (model P w) (A.deeper (VO qual scope s.heap.objs.size f cd cl)) (leaving (VO qual scope s.heap.objs.size f cd cl) e) (λ_ a=>CX outer H s E e a) (λb a=>CX outer H s E b a) s'
theorem tL{α:Type}{y:Qn}{u:α}:∀{l:J (Qn×α)},(l.map (·.1)).Nodup->(y,u)∈l->l.lookup y=Y u
 |[],_,h=>by cases h
 |(z,w)::l,nd,h=>by
  rw[Oy];rw[N2,O7]at nd;rcases NB.mp h with h|h
  .cases h;simp
  .have m:y∈l.map (·.1):=PB (f:=(·.1)) h;have:y≠z:=λq=>nd.1 (by subst q;exact m)
   rw[show (y==z)=false by simpa using this];exact tL nd.2 h
theorem Bu{y:Qn}{u:α}{us:J α}(nd:ps.Nodup)(hl:us.length=ps.length)(h1:ps[i]?=Y y)(h2:us[i]?=Y u):(ps.zip us).reverse.lookup y=Y u:=by
 refine tL ?_ ?_
 .rw[J.map_reverse,J.map_fst_zip ⋯];exact (J.reverse_perm ps).symm.nodup nd
 .rw[J.mem_reverse];refine O8 (i:=i) ?_;rw[SM];exact⟨h1,h2⟩
structure mr(N ps:J Qn)(sc:SO):Prop where
 kind:sc.kind=.function
 co:sc.isCoroutine=false
 gen:sc.isGenerator=false
 nd:N.Nodup
 pre:N.take ps.length=ps
 par:∀x∈ps,sc.names.lookup x=Y .local
 nocell:∀x∈sc.names,x.2≠.cell
structure Ku(s:LN)(H:Hp)(cl:J (Qn×J'))(sc:SO)(N:J Qn)(n:O)(ws:J (F1 V)):Prop where
 inj:∀x y c,cl.lookup x=Y c->cl.lookup y=Y c->x=y
 has:∀x,sc.names.lookup x=Y .free->∃c,cl.lookup x=Y c
 cell:∀x c,cl.lookup x=Y c->∃v,s.heap.IsCell c v
 free:∀x c,cl.lookup x=Y c->H c=S
 len:N.length=n+ws.length
 val:∀(i:O)(x:Qn)(v:V),N[n+i]?=Y x->ws[i]?=Y (Y v)->∃u c,RelV v u/\sc.names.lookup x=Y .free/\cl.lookup x=Y c/\s.heap.IsCell c (Y u)
theorem Hl{f:J'}{A:Qs}{h1:QD}{tk:O}
  (D':mr N ps scope) (hd:A.handled=S) (g:uC P w K mg base A outer s H) (hl:vs.length=ps.length) (r:Vals vs us) (C:Ku s H cl scope N ps.length ws)
  (n:h1.Ns s.heap.objs.size (λx=>(ps.zip us).reverse.lookup x)) (t:∀b o,s.heap.get? b=Y o->h1.get? b=Y o) :
  Inv (tM CX P w K mg base N qual scope f cd cl A outer s H E) [] (vs.map Y++ws) H {s with heap:=h1,toks:=tk}:=by
 have j:∀b:J',b∉(tM CX P w K mg base N qual scope f cd cl A outer s H E).ex:=λb z=>Qr (show b∈([]:J J') from z) #[2]
 have F:∀c v,s.heap.IsCell c v->h1.IsCell c v:=λc v q=>by obtain⟨o,e,d⟩:=q;exact⟨o,t _ _ e,d⟩
 refine⟨⟨g.mod,D'.kind,rfl,rfl,ND _,λy z c h1 h2=>C.inj y z c h1 h2,λy m=>?_,λy c z _=>(by cases z),λ_=>hd,TB g.frames,.inr ⟨rfl,rfl⟩,λb z=>Qr z (j b),g.bs,g.bsz,λb _ _=>j b,λb z=>Qr z (j b),g.funs,g.frf⟩,
  rfl,g.bare,Un.kept t,⟨_,n,λi y v h1 h2 h3=>?_⟩,λy c h=>?_,g.hok.fresh (ND _),λy c h=>C.free y c h,λp hp=>Qr (show p∈([]:J (J'×Rv)) from hp) #[2],g.hok.kept t,?_,g.tab⟩
 .have m:scope.names.lookup y=Y .cell\/scope.names.lookup y=Y .free:=m;rcases m with m|m
  .exact Qr rfl (D'.nocell _ (PySem.mem_of_lookup m))
  .exact C.has y m
 .have h1:N[i]?=Y y:=h1;by_cases hi:i<vs.length
  .have ha:vs[i]?=Y v:=by
    rw[O6 (by simpa using hi),NA]at h2;cases e:vs[i]? with
    |none=>rw[e]at h2;cases h2
    |some a=>rw[e]at h2;cases h2;rfl
   obtain⟨u,G,B⟩:=r.get ha;have hp:ps[i]?=Y y:=by rw[<-D'.pre,Pf ⋯];exact h1
   have D:ps.Nodup:=by rw[<-D'.pre];exact D'.nd.sublist (Uo _ _)
   refine⟨u,B,.inl ⟨D'.par y (O8 hp),?_⟩⟩;exact Bu D (by rw[<-r.length,hl]) hp G
  .rw[O9 (by simpa using hi),N8]at h2;have e:N[ps.length+(i-vs.length)]?=Y y:=by rw[<-hl,O.add_sub_cancel' ⋯];exact h1
   obtain⟨u,c,B,k,l,q⟩:=C.val _ _ _ e h2;exact⟨u,B,.inr ⟨.inr k,c,l,F _ _ q⟩⟩
 .obtain⟨v,q⟩:=C.cell y c h;exact⟨v,F _ _ q⟩
 .show _=N.length;rw[NS,N8,hl,C.len]
theorem F3{k:O}{name:Qn}{f c':J'}{h:GC}{A:Qs}{Q:VK}{t:TE}
  (D':mr N ps scope) (p:cO (k+1) A) (j:uC P w K mg base A outer s H) (hl:vs.length=ps.length) (r:Vals vs us) (C:Ku s H cl scope N ps.length ws)
  (x:s.heap.get? f=Y (W.kla_obj name qual params body scope cl pm c' h)) (l:s.heap.CodeRec (.ref c') qual)
  (z:bindArgs (W.kla_fn name qual params body scope cl pm (.ref c') h) ⟨us,[]⟩=pure (ps.zip us))
  (c:PE (tM CX P w K mg base N qual scope f (.ref c') cl A outer s H E) body t) (B:t (vs.map Y++ws) H Q) :
  codeAny (model P w) A (.call (.ref f) ⟨us,[]⟩) (CR CX outer P w H s Q E) s:=by
 have lim:s.heap.NoLimit:=j.mod.nolimit.keeps λb o e=>(j.bs b o e).1
 refine W.kla_callFunE p.depth x rfl D'.co D'.gen rfl l ?_;rw[z];refine K' (TF D'.nocell (λy D=>D'.par y.1 (Q1 (a:=y.1) (b:=y.2) D).1) (λh₁ m i=>⟨lim.fresh _ i,?_⟩) D'.kind);have g:∀b o,s.heap.get? b=Y o->h₁.get? b=Y o:=λb o e=>i.extBut b o (NJ (NI e)) (N5 _ e)
 have I:=Hl (CX:=CX) (qual:=qual) (f:=f) (cd:=.ref c') (E:=E) (tk:=s.toks+(ps.zip us).length) D' p.hd j hl r C m g;exact W.kla_codeExpr (QU (c [] _ _ H Q I B) (λu s' n=>(by obtain⟨v,H',B',F,q⟩:=n;exact⟨v,H',B'.os,B'.bare,B'.base,B'.hok,F,q⟩)) λ_ _ y=>y)
def mT:J (Qn×Qx)->J (Qn×J')->J (Qn×J')->J (Qn×J')
 |[],_,z5=>z5
 |(n,k)::r,cells,z5=>mT r cells (if k==.free then (match cells.lookup n with|some c=>(n,c)::z5|none=>z5) else z5)
theorem jk(env:V1):∀(names:J (Qn×Qx))(z5:J (Qn×J')),(∀y∈names,y.2=.free->∃c,env.cells.lookup y.1=Y c) ->
  (forIn names z5 (λ(x:Qn×Qx)(cs:J (Qn×J'))=>match x with
   | (name,kind)=>if (kind==QO)=true then do let c <-cellOf env name;pure (Rl ((name,c)::cs)) else pure (Rl cs)):Wh (J (Qn×J')))=pure (mT names env.cells z5)
 |[],z5,_=>rfl
 |(n,k)::r,z5,h=>by
  rw[Tj];have b:∀y∈r,y.2=.free->∃c,env.cells.lookup y.1=Y c:=λy g=>h y (N0 _ g)
  dsimp only[mT];by_cases hk:k=.free
  .subst hk;obtain⟨c,hc⟩:=h (n,.free) N1 rfl;have a:env.cells.lookup n=Y c:=hc;have e:cellOf env n=pure c:=by unfold cellOf;rw[a]
   rw[HL (show (QO==QO)=true by decide),HL (show (QO==QO)=true by decide),e,a];exact jk env r ((n,c)::z5) b
  .have f:¬ (k==QO)=true:=by simpa using hk
   rw[I' f,I' f];exact jk env r z5 b
theorem jK(h:∀y∈scope.names,y.2=.free->∃c,env.cells.lookup y.1=Y c):closureFor scope env=pure (mT scope.names env.cells []):=by have e:=jk env scope.names [] h;unfold closureFor;rw[<-bind_pure (forIn scope.names [] _)]at e;exact e
theorem pj:∀(names:J (Qn×Qx))(cells z5:J (Qn×J'))(x:Qn)(c:J'),(∀x c,z5.lookup x=Y c->cells.lookup x=Y c)->(mT names cells z5).lookup x=Y c->cells.lookup x=Y c
 |[],_,_,x,c,h,e=>h x c e
 |(n,k)::r,cells,z5,x,c,h,e=>by
  refine pj r cells _ x c (λy d a=>?_) e;split at a
  .split at a
   .rename_i c' b;rw[Oy]at a;by_cases hyn:(y==n)=true
    .rw[hyn]at a;have f:y=n:=eq_of_beq hyn;subst f;cases a;exact b
    .have:(y==n)=false:=by simpa using hyn
     rw[this]at a;exact h y d a
   .exact h y d a
  .exact h y d a
theorem sL:∀(names:J (Qn×Qx))(cells z5:J (Qn×J'))(x:Qn),(∃c,z5.lookup x=Y c)->∃c,(mT names cells z5).lookup x=Y c
 |[],_,_,_,h=>h
 |(n,k)::r,cells,z5,x,h=>by
  refine sL r cells _ x ?_;split
  .split
   .rw[Oy];cases (x==n)
    .exact h
    .exact⟨_,rfl⟩
   .exact h
  .exact h
theorem lI:∀(names:J (Qn×Qx))(cells z5:J (Qn×J'))(x:Qn)(c:J'),(x,QO)∈names->cells.lookup x=Y c->∃c,(mT names cells z5).lookup x=Y c
 |[],_,_,_,_,h,_=>by simp at h
 |(n,k)::r,cells,z5,x,c,h,e=>by
  rcases NB.mp h with h|h
  .injection h with h1 h2
   subst h1;subst h2;refine sL r cells _ x ?_;rw[HL #[1],e];exact⟨c,by simp[Oy]⟩
  .exact lI r cells _ x c h e
def blk(X:Cx)(M:J Qn)(scope:SO)(own:J Qn)(C:J')(s2:LN)(H2:Hp)(fp:J J'):Cx where
 prog:=X.prog
 w:=X.w
 K:=X.K
 mg:=X.mg
 base:=X.base
 A:=X.A
 N:=M++own
 s₀:=s2
 H₀:=H2
 env:=compEnvC scope (mT scope.names X.env.cells []) C X.env
 outer:=X.stack
 stack:=X.stack
 ex:=fp
 fn:=λ_=>false
 calm:=X.calm
 pn:=[]
 xe:=λ_ _=>False
structure jU(X:Cx)(M:J Qn)(scope:SO)(own:J Qn):Prop where
 kind:scope.kind=.function
 nocell:∀y∈scope.names,y.2≠.cell
 names:∀y∈scope.names,y.2=.local->scope.names.lookup y.1=Y .local
 free:∀y∈scope.names,y.2=.free->Vis X.env.scope y.1/\X.env.scope.names.lookup y.1≠Y .local
 own:∀x∈own,scope.names.lookup x=Y .local
 outer:∀p∈X.N.zip M,(p.1=p.2/\scope.names.lookup p.2≠Y .local)\/scope.names.lookup p.2=S
 len:M.length=X.N.length
def tE(N M:J Qn)(a scope:SO)(own:J Qn):Qo :=
 (scope.kind==.function)&&scope.names.all (λy=>y.2 != .cell)&&scope.names.all (λy=>y.2 != .local||scope.names.lookup y.1==Y .local) &&
 scope.names.all (λy=>y.2 != .free||(a.names.lookup y.1==Y .cell||a.names.lookup y.1==Y .free)) &&
 own.all (λx=>scope.names.lookup x==Y .local)&&(N.zip M).all (λp=>(p.1==p.2&&scope.names.lookup p.2 != Y .local)||scope.names.lookup p.2==S)&&(M.length==N.length)
theorem jU.of{own:J Qn}(h:tE X.N M X.env.scope scope own=true):jU X M scope own:=by
 unfold tE at h;dsimp[NG,NT,V5,bne_iff_ne,RK,ne_eq]at h;obtain⟨⟨⟨⟨⟨⟨h1,h2⟩,b⟩,c⟩,f⟩,g⟩,i⟩:=h;refine⟨h1,h2,λy a e=>(b y a).resolve_left λz=>z e,λy a e=>?_,f,g,i⟩;rcases (c y a).resolve_left λz=>z e with q|q
 .exact⟨.inr (.inl q),by rw[q];intro z;cases z⟩
 .exact⟨.inr (.inr q),by rw[q];intro z;cases z⟩
theorem eB{env:V1}:∀{names:J (Qn×Qx)}{x:Qn}{k:Qx},
  (names.map λ(n,k)=>if (k==QO&&env.scope.kind==.function&&env.kindOf n==Y .cell) then (n,U1) else (n,k)).lookup x=Y k->(k=.cell\/k=.free)->(∀y∈names,y.2≠.cell)->(x,QO)∈names
 |[],_,_,h,_,_=>by simp at h
 |(n,k')::r,x,k,h,a,hn=>by
  have b:∀y∈r,y.2≠Qx.cell:=λy c=>hn y (N0 _ c)
  rw[N2,Oy]at h;by_cases hc:(k'==QO&&env.scope.kind==.function&&env.kindOf n==Y .cell)=true
  .have f:k'=.free:=by have:=hc;dsimp[NG]at this;exact eq_of_beq this.1.1
   dsimp[HL hc]at h;cases hx:x==n with
   |true =>have:x=n:=eq_of_beq hx;subst this;subst f;exact N1
   |false =>rw[hx]at h;exact N0 _ (eB h a b)
  .dsimp[I' hc]at h;cases hx:x==n with
   |true =>
    rw[hx]at h;have e:k'=k:=N4 h;have:x=n:=eq_of_beq hx;subst this;subst e;rcases a with a|a
    .exact Qr a (hn _ N1)
    .subst a;exact N1
   |false =>rw[hx]at h;exact N0 _ (eB h a b)
theorem eu{env:V1}:∀{names:J (Qn×Qx)}{x:Qn}{k:Qx},
  (names.map λ(n,k)=>if (k==QO&&env.scope.kind==.function&&env.kindOf n==Y .cell) then (n,U1) else (n,k)).lookup x=Y k->(∃k0,names.lookup x=Y k0/\(k=k0\/(k=.cell/\k0=.free)))
 |[],_,_,h=>by simp at h
 |(n,k')::r,x,k,h=>by
  rw[N2,Oy]at h;rw[Oy];by_cases hc:(k'==QO&&env.scope.kind==.function&&env.kindOf n==Y .cell)=true
  .have a:k'=.free:=by have:=hc;dsimp[NG]at this;exact eq_of_beq this.1.1
   dsimp[HL hc]at h;cases hx:x==n with
   |true =>rw[hx]at h;exact⟨k',rfl,.inr ⟨(N4 h).symm,a⟩⟩
   |false =>rw[hx]at h;exact eu h
  .dsimp[I' hc]at h;cases hx:x==n with
   |true =>rw[hx]at h;exact⟨k',rfl,.inl (N4 h).symm⟩
   |false =>rw[hx]at h;exact eu h
section
variable {H2:Hp}{s2:LN}{own:J Qn}
theorem Inv.blk{h1:QD}{t':O}(I:Inv X z8 σ H2 s2)(B:jU X M scope own)(H:∀b∈fp,pk X z8 H2 b)(B':∀b∈fp,b<s2.heap.objs.size)
  (A:D=s2.heap.objs.size) (G:C=s2.heap.objs.size+1) (hl:h1.get? D=Y {cls:=.type "list",data:=.seq ([]:J GC).toArray 0})
  (hn:h1.Ns C (λ_=>S)) (g:∀b o,s2.heap.get? b=Y o->h1.get? b=Y o) :
  Inv (L2.blk X M scope own C s2 H2 fp) [] (σ++L' own.length S) (upd H2 D (.lst [])) {s2 with heap:=h1,toks:=t'}:=by
 have a:∀x c,(mT scope.names X.env.cells []).lookup x=Y c->X.env.cells.lookup x=Y c:=λx c e=>pj _ _ _ _ _ (λ_ _ z=>by simp at z) e
 have K:∀x c,(mT scope.names X.env.cells []).lookup x=Y c->c<s2.heap.objs.size:=λx c e=>by obtain⟨v,q⟩:=I.cell x c (a x c e);exact q.lt
 have n:H2 D=none:=I.hok.fresh (by rw[A];exact ND _);have freeC:H2 C=none:=I.hok.fresh (by rw[G];exact Pd _);have Dd:C≠D:=by rw[G,A];exact Qe _
 have W:Un (frs X.stack) fp H2 (upd H2 D (.lst [])) s2.heap h1:=Un.laid g (by rw[A];exact ND _) n;refine⟨⟨I.ok.mod,?_,I.ok.glob,I.ok.blt,?_,?_,?_,?_,I.ok.hd,I.ok.frames,.inl rfl,?_,I.bs,OG I.ok.bsz I.sz,?_,?_,I.stack,I.stkFree⟩,rfl,I.bare,W,?_,?_,?_,?_,?_,?_,?_,λP q t=>W.tbls P q (I.tab P q t)⟩
 .exact B.kind
 .show s2.heap.objs.size<=C;rw[G];exact Pd _
 .intro x y c e1 e2;exact I.ok.inj x y c (a x c e1) (a y c e2)
 .intro x h;have hm:(x,QO)∈scope.names:=by
   rcases h with h|h
   .exact eB h (.inl rfl) B.nocell
   .exact eB h (.inr rfl) B.nocell
  obtain⟨hv,s⟩:=B.free _ hm rfl;have hh:X.env.kindOf x=Y .cell\/X.env.kindOf x=Y .free:=by
   rcases hv with z|z|z
   .exact Qr z s
   .exact .inl z
   .exact .inr z
  obtain⟨c,e⟩:=I.ok.has x hh;exact lI _ _ _ x c hm e
 .intro x c EE _;exact Qr (show false=true from EE) #[1]
 .intro b w;refine⟨?_,λx c e z=>?_⟩
  .show b≠C;rw[G];exact NJ (Oj (B' b w))
  .exact (H b w).2.2.2.2.1 x c (a x c e) z
 .intro b o e w;obtain⟨_,_,_,f3,_⟩:=H b w;rcases f3 with z|z
  .exact I.ok.noex b o e z
  .exact Qr (NX (NI (I.ok.bs b o e).1) z) (OQ _)
 .intro b w hs;obtain⟨_,f1,f2,_⟩:=H b w;rcases NB.mp (I.stkSub b hs) with z|z
  .exact f1 z
  .exact f2 z
 .refine⟨_,hn,λi x v e1 e2 A4=>?_⟩;have hi:i<σ.length:=by
   by_cases hi:i<σ.length
   .exact hi
   .rw[O9 ⋯,PM]at e2;split at e2 <;> cases e2
  rw[O6 hi]at e2;have E:i<X.N.length:=by rw[<-I.len];exact hi
  have Q:i<M.length:=by rw[B.len];exact E
  have R:M[i]?=Y x:=by
   have:(M++own)[i]?=Y x:=e1
   rwa[O6 Q]at this
  obtain⟨y,A2⟩:∃y,X.N[i]?=Y y:=⟨_,My E⟩
  have hz:(y,x)∈X.N.zip M:=O8 (i:=i) (by rw[SM];exact⟨A2,R⟩);have D':∃k,scope.names.lookup x=Y k:=by
   rcases A4 with z|z|z
   .obtain⟨k0,f,_⟩:=eu (show _=Y Qx.local from z);exact⟨k0,f⟩
   .obtain⟨k0,f,_⟩:=eu (show _=Y U1 from z);exact⟨k0,f⟩
   .obtain⟨k0,f,_⟩:=eu (show _=Y QO from z);exact⟨k0,f⟩
  have j:y=x/\scope.names.lookup x≠Y .local:=by
   rcases B.outer _ hz with q|q
   .exact q
   .obtain⟨k,g⟩:=D';rw[q]at g;cases g
  have T:X.N[i]?=Y x:=by rw[<-j.1];exact A2
  have h:(relabel scope X.env).names.lookup x=Y .cell\/(relabel scope X.env).names.lookup x=Y .free:=by
   rcases A4 with z|z
   .obtain⟨k0,f,g⟩:=eu (show _=Y Qx.local from z);rcases g with g|⟨g,_⟩
    .subst g;exact Qr f j.2
    .cases g
   .exact z
  have hm:(x,QO)∈scope.names:=by
   rcases h with h|h
   .exact eB h (.inl rfl) B.nocell
   .exact eB h (.inr rfl) B.nocell
  obtain⟨hv,s⟩:=B.free _ hm rfl;obtain⟨m,_,U⟩:=I.loc;obtain⟨u,r,l⟩:=U i x v T e2 hv;refine⟨u,r,.inr ⟨h,?_⟩⟩;rcases l with⟨z,_⟩|⟨_,c,hc,z⟩
  .exact Qr z s
  .obtain⟨c',F⟩:=lI scope.names X.env.cells [] x c hm hc;have:=a x c' F;rw[hc]at this;cases this;exact⟨c,F,z.keeps g⟩
 .intro x c e;obtain⟨v,q⟩:=I.cell x c (a x c e);exact⟨v,q.keeps g⟩
 .show upd H2 D (.lst []) C=S;rw[aB Dd];exact freeC
 .intro x c e;have h1:=K x c e;rw[aB (by rw[A];exact NJ h1)];exact I.freeC x c (a x c e)
 .intro p hp;exact Qr (show p∈([]:J (J'×Rv))++[] from hp) #[2]
 .exact I.hok.laid g (by rw[A];exact ND _) ⟨Ot _,[],0,.nil,hl⟩
 .show (σ++L' own.length S).length=(M++own).length;rw[NS,NS,Tp,I.len,B.len]
theorem Inv.unblk{a:St}(I:Inv X z8 σ H2 s2)(i:∀b∈fp,pk X z8 H2 b)(f:s2.heap.objs.size<=C)
  (B':Inv (L2.blk X M scope own C s2 H2 fp) [] a H' s') (j:R0 C s'.heap h'):Inv X z8 σ H' {s' with heap:=h'}:=by
 have h:H' C=none:=B'.free;have k:∀b o,b≠C->s'.heap.get? b=Y o->h'.get? b=Y o:=λb o g e=>(j.2 b g).trans e
 have old:∀b o,s2.heap.get? b=Y o->b≠C:=λb o e=>NJ (NX (NI e) f)
 have u:Un (frs X.stack) fp H2 H' s2.heap s'.heap:=B'.base;refine I.call' (s':={s' with heap:=h'}) (ch:=fp) B'.os ?_ ?_ B'.bare λb g=>?_
 .refine⟨λb o e n h1 h2=>k b o (old b o e) (u.keep b o e n h1 h2),λb o e n h1 h2=>?_,u.free,λb o e h1=>?_,u.tups,u.frzs,u.tbls⟩
  .obtain⟨l,q⟩:=u.slot b o e n h1 h2;exact⟨l,k b _ (old b o e) q⟩
  .obtain⟨o',q⟩:=u.there b o e h1;exact⟨o',k b o' (old b o e) q⟩
 .intro b o e;refine (B'.hok b o e).stay (λc v hc q=>k c v ?_ q) (λ_ q=>q) λ_ _ q=>q
  rintro rfl
  rcases hc with z|z
  .subst z;rw[h]at e;cases e
  .rw[h]at z;cases z
 .obtain⟨f0,f1,f2,m,p,r⟩:=i b g;exact⟨m,f1,p,r⟩
end
section
variable {A:Qs}{R:Tz->LN->Prop}
theorem uT{target:Qt}{it z5:GC}(I:O->LN->Prop)
  (turn:∀n s,I n s->wpAny (model prog w) A (pyNext it) (λr a=>match r with
   |none=>R (.ok .next) a
   |some v=>wpAny (model prog w) A (letOwnedTupleGo target it v) (λ_ j=>wpAny (model prog w) A (assign target env v) (λ_ e =>
    wpAny (model prog w) A (forIn ifs true λc r=>if r=true then do let ok <-isTrue c env (eval c env);pure (Rl ok) else pure (Rl r)) (λok b =>
     if ok=true then wpAny (model prog w) A (eval elt env) (λx f =>
      wpAny (model prog w) A (call (.builtin "list.append") [z5,x]) (λ_ g=>∃m,m<n/\I m g) (λ_ _=>False) f) (λ_ _=>False) b
     else ∃m,m<n/\I m b) (λ_ _=>False) e) (λ_ _=>False) j) (λ_ _=>False) a) (λ_ _=>False) s)
  (n:O) (h:I n s) :
  codeAny (model prog w) A (.compLoop (.ListComp elt [⟨target,iter,ifs,0⟩] scope pos) 0 it z5 env) R s:=by
 refine codeAny_loop rfl I (λn s t=>?_) n h;show wpAny _ A ((compTurn (.ListComp elt [⟨target,iter,ifs,0⟩] scope pos) 0 it z5 env).onRaise (λx=>do noteFrame x env;theTreesLotGoes x)) _ _ s;refine wpAny_noted ?_;rw[compTurn_list];refine F' (SW (F' (QU (turn n s t) (λr a h₁=>?_) λ_ _ h'=>h'.elim)));cases r with
 |none=>exact K' h₁
 |some v =>
  refine F' (QU h₁ (λ_ j q=>?_) λ_ _ h'=>h'.elim);refine F' (QU q (λ_ e l=>F' (QU l (λok b i=>?_) λ_ _ h'=>h'.elim)) λ_ _ h'=>h'.elim);cases ok with
  |false=>exact K' ⟨rfl,i⟩
  |true =>exact F' (F' (QU i (λx f o=>F' (QU o (λ_ g p=>K' (K' ⟨rfl,p⟩)) λ_ _ h'=>h'.elim)) λ_ _ h'=>h'.elim))
end
def IJ:TT:=λ_ H Q=>Q true H
inductive PTs (X:Cx):J Qt->TT->Prop
 |nil:PTs X [] IJ
 |one {c:Qt} {t:TT} (h:PT X c t):PTs X [c] t
theorem PTs.run{t:TT}(h:PTs X ifs t){Q:Qo->Hp->Prop}(I:Inv X z8 σ H s)(q:t σ H Q) :
  wpAny (model X.prog X.w) X.A (forIn ifs true λc r=>if r=true then do let ok <-isTrue c X.env (eval c X.env);pure (Rl ok) else pure (Rl r)) (TP X z8 σ Q) X.xe s:=by
 cases h with
 |nil=>exact wpAny_tests_nil ⟨H,I,q⟩
 |one h=>exact wpAny_tests_one (h z8 s σ H Q I q)
def LCR(B':It)(n:O)(g:TG)(tt:TT)(te:TE)(σ:St)(H1:Hp)(Q:VK):Prop:=∀D,H1 D=S->∃W:O->O->J V->Hp->Prop,(∃m,W 0 m [] (upd H1 D (.lst []))) /\
 ∀i m ys H,W i m ys H->H D=Y (.lst ys)/\((B'.stop i H/\Q (.ref D) H)\/(B'.go i H/\∀x H' e,e.length=n->B'.yld i H x H'->g x (σ++e) H' λc H2=>tt c H2 λb h =>
  if b=true then te c h λv j=>j D=Y (.lst ys)/\ys.length<sizeLine/\(∃a,c=σ++a/\a.length=n)/\∃f,f < m/\W (i+1) f (ys++[v]) (upd j D (.lst (ys++[v])))
  else (∃a,c=σ++a/\a.length=n)/\∃f,f < m/\W (i+1) f ys h))
def tLC(n:O)(a:TI)(g:TG)(tt:TT)(te:TE):TE:=λσ H Q=>a σ H λB' H1=>LCR B' n g tt te σ H1 Q
theorem pK{own:J Qn}{wi:TI}{tt:TT}{te:TE}{use:F1 (GC->Wh Vz)}{Qf:GC->LN->Prop}(hc:X.calm=true)(hi:PI X tg iter wi)
  (hg:∀C s2 H2 fp,PG (blk X M scope own C s2 H2 fp) tg g) (ht:∀C s2 H2 fp,PTs (blk X M scope own C s2 H2 fp) ifs tt) (he:∀C s2 H2 fp,PE (blk X M scope own C s2 H2 fp) elt te)
  (hB:tE X.N M X.env.scope scope own=true) (hs:∀x,foldedSetIterable iter X.env x=pure x) {Q:VK} (I:Inv X z8 σ H s) (h:tLC own.length wi g tt te σ H Q)
  (fin:∀(C D:J')(EE:LN)(Dd:Hp),(∀h',R0 C EE.heap h'->Inv X z8 σ Dd {EE with heap:=h'})->(∃m,EE.heap.Ns C m)->Dd C=S->C≠X.env.locals->(∀x c,X.env.cells.lookup x=Y c->c≠C)->(∀p∈X.pn++z8,p.1≠C)->X.s₀.heap.objs.size<=C->Q (.ref D) Dd ->
   compPost (model X.prog X.w) X.A X.xe use Qf (.ref D) C (.ok .next) EE) :
  wpAny (model X.prog X.w) X.A (comprehension (.ListComp elt [⟨tg,iter,ifs,0⟩] scope pos) scope X.env cpos (newList []) false (eval iter X.env) use) Qf X.xe s:=by
 have B:jU X M scope own:=jU.of hB;have P:closureFor scope X.env=pure (mT scope.names X.env.cells []):=jK λy hy hf=>by
  obtain⟨hv,hnl⟩:=B.free y hy hf;have hh:X.env.kindOf y.1=Y .cell\/X.env.kindOf y.1=Y .free:=by
   rcases hv with z|z|z
   .exact Qr z hnl
   .exact .inl z
   .exact .inr z
  exact I.ok.has y.1 hh
 refine wpAny_comprehension_free (use:=use) rfl hs P B.kind B.names (thn (hi z8 s σ H _ I h) λv s1 h1=>thn h1 λitv s2 h2=>?_);obtain⟨it,fp,tn,B',H2,e,R,T,D',f2,hD⟩:=h2;subst e;have U:∀b∈fp,b<s2.heap.objs.size:=λb l=>by obtain⟨o,q,_⟩:=T.obj _ _ D' b l;exact NI q
 obtain⟨W,⟨m0,w0⟩,turn⟩:=hD s2.heap.objs.size (R.hok.fresh (ND _));refine QW (TF B.nocell (by intro y hy;simp at hy) (λh₁ j f=>?_) B.kind);dsimp only at j f ⊢;generalize hG:s2.heap.push {cls:=.type "list",dict:=S,data:=.seq ([]:J GC).toArray}=G at j f ⊢;have hC:G.objs.size=s2.heap.objs.size+1:=by rw[<-hG,R8]
 have hk:∀b o,s2.heap.get? b=Y o->h₁.get? b=Y o:=λb o e=>f.extBut b o (by rw[hC];exact NJ (Oj (NI e))) (N5 _ (hG▸N5 _ e))
 have hDC:s2.heap.objs.size≠G.objs.size:=by rw[hC];exact NJ (Pe _)
 have hl:h₁.get? s2.heap.objs.size=Y {cls:=.type "list",data:=.seq ([]:J GC).toArray 0}:=f.extBut _ _ hDC (N5 _ (hG▸NN _ rfl));have hns:h₁.Ns G.objs.size (λ_=>S):=by
  have e:(λx=>([]:J (Qn×GC)).reverse.lookup x)=λ_=>none:=by funext x;rfl
  rw[<-e];exact j
 have I3:=λt'=>R.blk (t':=t') (C:=G.objs.size) (D:=s2.heap.objs.size) B f2 U rfl hC hl hns hk
 have t:∀{H':Hp},(∀b∈fp,H' b=S)->∀b∈fp,pk (blk X M scope own G.objs.size s2 H2 fp) [] H' b:=λhn b l=>by
  refine⟨hn b l,?_,?_,.inl l,λx c e z=>?_,λp hp=>Qr (show p∈([]:J (J'×Rv))++[] from hp) #[2]⟩
  .show b≠G.objs.size;rw[hC];exact NJ (Oj (U b l))
  .exact (I3 0).ok.exfs b l
  .exact ((I3 0).ok.exf b l).2 x c e z
 have loop:∀s3:LN,(∃t',s3={s2 with heap:=h₁,toks:=t'})->codeAny (model X.prog X.w) X.A (.compLoop (.ListComp elt [⟨tg,iter,ifs,0⟩] scope pos) 0 (.ref it) (.ref s2.heap.objs.size) (compEnvC scope (mT scope.names X.env.cells []) G.objs.size X.env))
   (compPost (model X.prog X.w) X.A X.xe use Qf (.ref s2.heap.objs.size) G.objs.size) s3:=by
  rintro s3 ⟨t',rfl⟩
  refine uT (λn s'=>∃i ys K H',K.length=own.length/\Inv (blk X M scope own G.objs.size s2 H2 fp) [] (σ++K) H' s'/\tn i s'.heap/\(∀b∈fp,H' b=S)/\W i n ys H') ?_ m0
   ⟨0,[],_,_,by simp,I3 t',T.keep _ _ _ D' λb l o e=>hk b o e,λb l=>by rw[aB (NJ (U b l))];exact (f2 b l).1,w0⟩
  rintro n s4 ⟨i,ys,K,Dd,hl',I4,st4,fr4,w4⟩
  obtain⟨hDl,alt⟩:=turn i n ys Dd w4;rcases alt with⟨stop,qn⟩|⟨go,step⟩
  .refine thn (T.done (blk X M scope own G.objs.size s2 H2 fp) rfl rfl rfl hc i [] s4 _ Dd _ I4 (t fr4) st4 stop) λr EE a=>?_
   obtain⟨hr,I5⟩:=a;subst hr;obtain⟨m,hn,_⟩:=I5.loc;have cS:s2.heap.objs.size<=G.objs.size:=by rw[hC];exact Pd _
   refine fin G.objs.size s2.heap.objs.size EE Dd (λh' hs'=>R.unblk (C:=G.objs.size) f2 cS I5 hs') ⟨m,hn⟩ I5.free ?_ (λx c e=>?_) (λp hp=>?_) (OG R.sz cS) qn
   .obtain⟨_,hl0,_⟩:=R.loc;exact OP (NX hl0.lt cS)
   .obtain⟨_,q⟩:=R.cell x c e;exact NJ (NX q.lt cS)
   .exact NJ (NX (NI (R.pin p hp).1) cS)
  .refine thn (T.item (blk X M scope own G.objs.size s2 H2 fp) rfl rfl rfl hc i [] s4 _ Dd _ I4 (t fr4) st4 go) λr EE a=>?_
   obtain⟨u,hr,h5⟩:=a;subst hr;refine thn h5 λ_ s6 a=>?_
   obtain⟨x,H6,I6,r6,y6,A4,fr6⟩:=a;have I6':=I6.pinned (t fr6) (T.obj _ _ A4);have kp:∀{E:St}{H7:Hp}{s7:LN},Inv (blk X M scope own G.objs.size s2 H2 fp) ([]++qh fp s6.heap) E H7 s7->tn (i+1) s7.heap/\∀b∈fp,H7 b=none:=λ{E H7 s7} I7=>by refine⟨T.keep _ _ _ A4 λb l o e=>(I7.pin (b,o) (NF _ (NF _ (jh l e)))).1,λb l=>?_⟩;obtain⟨o,e,d⟩:=T.obj _ _ A4 b l;exact (I7.pin (b,o) (NF _ (NF _ (jh l e)))).2.1
   refine thn (hg _ _ _ _ _ s6 _ H6 x u _ I6' r6 (step x H6 K hl' y6)) λ_ s7 a=>?_
   obtain⟨E,H7,I7,q7⟩:=a;refine thn ((ht _ _ _ _).run I7 q7) λok s8 a=>?_
   obtain⟨H8,I8,q8⟩:=a;cases ok with
   |false =>
    obtain⟨⟨F,e,A2⟩,m',hm,w8⟩:=(show if false=true then _ else _ from q8)
    subst e;obtain⟨k1,k2⟩:=kp I8;exact⟨m',hm,i+1,ys,F,H8,A2,I8.unpinned,k1,k2,w8⟩
   |true =>
    have q8:te E H8 _:=q8;refine thn (he _ _ _ _ _ s8 E H8 _ I8 q8) λy s9 a=>?_
    obtain⟨v,H9,I9,r9,d9,z9,⟨F,e,A2⟩,m',hm,w9⟩:=a;subst e;refine thn (ky (X:=blk X M scope own G.objs.size s2 H2 fp) _ s9 _ H9 (.ref s2.heap.objs.size) [v] (.ref s2.heap.objs.size) [y] (λ_ H'=>H'=upd H9 s2.heap.objs.size (.lst (ys++[v]))) I9 rfl (.cons r9 .nil) ⟨_,ys,v,rfl,rfl,d9,z9,rfl⟩) λ_ s10 a=>?_
    obtain⟨_,H10,I10,_,e10⟩:=a;subst e10;obtain⟨k1,k2⟩:=kp I10;exact⟨m',hm,i+1,ys++[v],F,_,A2,I10.unpinned,k1,k2,w9⟩
 exact codeAny_compStart_list (loop _ ⟨_,rfl⟩) (T.self _ 0 _ _ _ (T.keep _ _ _ D' λb l o e=>hk b o e) (loop _ ⟨_,rfl⟩))
theorem DT{own:J Qn}{c:TI}{tt:TT}{te:TE}(hc:X.calm=true)(hi:PI X tg iter c)
  (e:∀C s2 H2 fp,PG (blk X M scope own C s2 H2 fp) tg g) (f:∀C s2 H2 fp,PTs (blk X M scope own C s2 H2 fp) ifs tt) (i:∀C s2 H2 fp,PE (blk X M scope own C s2 H2 fp) elt te)
  (hB:tE X.N M X.env.scope scope own=true:=by rfl) (j:∀x,foldedSetIterable iter X.env x=pure x:=by intro _;rfl):PE X (.ListComp elt [⟨tg,iter,ifs,0⟩] scope pos) (tLC own.length c g tt te):=by
 intro z8 s σ H Q I h;rw[eval_ListComp];refine pK hc hi e f i hB j I h λC D s5 l k a _ _ _ _ _ q=>?_
 obtain⟨m,hn⟩:=a;exact⟨m,hn,λh' b=>⟨.ref D,l,k h' b,rfl,q⟩⟩
theorem wM{own:J Qn}{A:TI}{tt:TT}{te:TE}(hc:X.calm=true)(Dd:X.N.Nodup)(j:X.N[i]?=Y x)(EE:Loc X.env.scope x)
  (l:swapsWith (.ListComp elt [⟨tg,iter,ifs,0⟩] scope pos) (Y (.Name x pos')) spos.line X.env=pure true) (hi:PI X tg iter A)
  (P:∀C s2 H2 fp,PG (blk X M scope own C s2 H2 fp) tg g) (Q:∀C s2 H2 fp,PTs (blk X M scope own C s2 H2 fp) ifs tt) (R:∀C s2 H2 fp,PE (blk X M scope own C s2 H2 fp) elt te)
  (hB:tE X.N M X.env.scope scope own=true:=by rfl) (D':∀x,foldedSetIterable iter X.env x=pure x:=by intro _;rfl) (T:X.fn x=true\/X.env.scope.names.lookup x=Y .local:=by first|exact .inl rfl|exact .inr rfl|assumption) :
  PS X (.Assign [.Name x pos'] (.ListComp elt [⟨tg,iter,ifs,0⟩] scope pos) spos) (Cf (tLC own.length A g tt te) (kX i)):=by
 intro z8 s σ H D I h;show wpAny _ _ (exec _ X.env) _ _ s;rw[exec_Assign_Name_used _ _ _ _ l];refine F' (SW (F' ?_));rw[arm_evalThenUse_ListComp];refine F' (thn (pK (use:=Y (assign (.Name x pos') X.env)) (Qf:=λ_ s'=>SP X z8 D .next s') hc hi P Q R hB D' I h λC B E U k p F G B' W ns q=>?_) λ_ s' A4=>K' (K' A4));obtain⟨m,hn⟩:=p;have A2:=k E.heap (R0.refl _ _);show wpAny _ _ (assign (.Name x pos') X.env (.ref B)) _ _ E;refine Uj (sC (v:=.ref B) A2 Dd j EE rfl (λK r t=>?_) T);obtain⟨a,sb,ha⟩:=t;have u:C≠a:=by
  rcases ha with rfl|ha
  .exact G
  .exact λz=>B' x a ha z.symm
 refine⟨m,hn.sameBut sb u,λh' w=>⟨_,U,?_,q⟩⟩;have f:∀b o,b≠C->K.heap.get? b=Y o->h'.get? b=Y o:=λb o y e=>(w.2 b y).trans e
 refine r.call' (s':={K with heap:=h'}) (ch:=[C]) rfl ?_ ?_ r.bare λb y=>?_
 .refine⟨λb o e _ _ z=>f b o (λq=>z (by rw[q];exact NQ.mpr rfl)) e,λb o e _ _ z=>⟨o.slots,f b o (λq=>z (by rw[q];exact NQ.mpr rfl)) e⟩,λ_ _ _ n _=>n,λb o e z=>⟨o,f b o (λq=>z (by rw[q];exact NQ.mpr rfl)) e⟩,λ_ _ q=>q,λ_ _ _ q=>q,λ_ _ q=>q⟩
 .intro b o e;refine (r.hok b o e).stay (λc v hc q=>f c v ?_ q) (λ_ q=>q) λ_ _ q=>q
  rintro rfl
  rcases hc with z|z
  .subst z;rw[F]at e;cases e
  .rw[F]at z;cases z
 .rw[NQ.mp y];exact⟨.inr ns,λz=>G z,B',W⟩
mutual
def IsD(K:Qp)(H:Hp):L->V->Prop
 |.none,v=>v=.non
 |.bool b,v=>v=.bl b
 |.int i,v=>v=.int i
 |.str x,v=>v=.str x
 |.list ds,v=>∃a xs,v=.ref a/\SqL K H a xs/\fc K H ds xs
 |.tuple ds,v=>∃a xs,v=.ref a/\SqT K H a xs/\fc K H ds xs
 |.dict _,_=>False
def fc(K:Qp)(H:Hp):J L->J V->Prop
 |[],vs=>vs=[]
 |d::ds,vs=>∃v r,vs=v::r/\IsD K H d v/\fc K H ds r
end
theorem aw.tupS(e:aw H H')(h:SqT K H a xs):SqT K H' a xs:=by
 rcases h with (h|⟨o,h⟩)|h
 .exact .inl (.inl (e _ _ h))
 .exact .inl (.inr ⟨o,e _ _ h⟩)
 .exact .inr h
mutual
theorem IsD.same{K:Qp}{H H':Hp}(e:aw H H'):∀{d:L}{v:V},IsD K H d v->IsD K H' d v
 |.none,_,h=>by unfold IsD at h ⊢;exact h
 |.bool _,_,h=>by unfold IsD at h ⊢;exact h
 |.int _,_,h=>by unfold IsD at h ⊢;exact h
 |.str _,_,h=>by unfold IsD at h ⊢;exact h
 |.list ds,_,h=>by unfold IsD at h ⊢;obtain⟨a,xs,e1,h1,h2⟩:=h;exact⟨a,xs,e1,e.seq h1,fc.same e h2⟩
 |.tuple ds,_,h=>by unfold IsD at h ⊢;obtain⟨a,xs,e1,h1,h2⟩:=h;exact⟨a,xs,e1,e.tupS h1,fc.same e h2⟩
 |.dict _,_,h=>by unfold IsD at h;exact h.elim
theorem fc.same{K:Qp}{H H':Hp}(e:aw H H'):∀{ds:J L}{vs:J V},fc K H ds vs->fc K H' ds vs
 |[],_,h=>by unfold fc at h ⊢;exact h
 |d::ds,_,h=>by unfold fc at h ⊢;obtain⟨v,r,e1,h1,h2⟩:=h;exact⟨v,r,e1,IsD.same e h1,fc.same e h2⟩
end
section
theorem ui{i:Z}:IsD K H (.int i) (.int i):=by unfold IsD;rfl
theorem DK{b:Qo}:IsD K H (.bool b) (.bl b):=by unfold IsD;rfl
theorem E7:IsD K H .none .non:=by unfold IsD;rfl
theorem HB:IsD K H (.str x) (.str x):=by unfold IsD;rfl
theorem Ih(h:SqT K H a xs)(h2:fc K H ds xs):IsD K H (.tuple ds) (.ref a):=by unfold IsD;exact⟨a,xs,rfl,h,h2⟩
theorem uP(h:SqL K H a xs)(h2:fc K H ds xs):IsD K H (.list ds) (.ref a):=by unfold IsD;exact⟨a,xs,rfl,h,h2⟩
theorem pZ:fc K H [] []:=by unfold fc;rfl
theorem sW{d:L}(h:IsD K H d v)(h2:fc K H ds vs):fc K H (d::ds) (v::vs):=by unfold fc;exact⟨v,vs,rfl,h,h2⟩
theorem IsD.ofInt{i:Z}(h:IsD K H (.int i) v):v=.int i:=by unfold IsD at h;exact h
theorem IsD.ofBool{i:Qo}(h:IsD K H (.bool i) v):v=.bl i:=by unfold IsD at h;exact h
theorem IsD.ofNone(h:IsD K H .none v):v=.non:=by unfold IsD at h;exact h
theorem IsD.ofStr(h:IsD K H (.str x) v):v=.str x:=by unfold IsD at h;exact h
theorem IsD.ofTup(h:IsD K H (.tuple ds) v):∃a xs,v=.ref a/\SqT K H a xs/\fc K H ds xs:=by unfold IsD at h;exact h
theorem IsD.ofLst(h:IsD K H (.list ds) v):∃a xs,v=.ref a/\SqL K H a xs/\fc K H ds xs:=by unfold IsD at h;exact h
theorem fc.nil_of(h:fc K H [] vs):vs=[]:=by unfold fc at h;exact h
theorem fc.cons_of{d:L}(h:fc K H (d::ds) vs):∃v r,vs=v::r/\IsD K H d v/\fc K H ds r:=by unfold fc at h;exact h
theorem rR:∀(ns:J Z),fc K H (ns.map FC) (ns.map V.int)
 |[]=>pZ
 |_::r=>sW ui (rR r)
end
section
mutual
theorem Inv.reads(I:Inv X z8 σ H s):∀{d:L}{v:V}{u:GC},IsD X.K H d v->RelV v u->∃as,Reads s.heap u d as
 |.none,_,_,h,r=>by rw[h.ofNone]at r;cases r;exact⟨_,.none⟩
 |.bool _,_,_,h,r=>by rw[h.ofBool]at r;cases r;exact⟨_,.bool _⟩
 |.int _,_,_,h,r=>by rw[h.ofInt]at r;obtain⟨t,rfl⟩:=r;exact⟨_,.int _ _⟩
 |.str _,_,_,h,r=>by rw[h.ofStr]at r;obtain⟨t,rfl⟩:=r;exact⟨_,.str _ _⟩
 |.list ds,_,_,h,r=>by obtain⟨a,xs,e,h1,h2⟩:=h.ofLst;subst e;cases r;obtain⟨its,b,⟨o,n,g,c,_,d⟩,_⟩:=I.list h1;obtain⟨as,f⟩:=Inv.readsAll I h2 b;exact⟨_,.list g c d (by simpa using f)⟩
 |.tuple ds,_,_,h,r=>by obtain⟨a,xs,e,h1,h2⟩:=h.ofTup;subst e;cases r;obtain⟨its,b,⟨o,g,c,n,d⟩,_⟩:=I.tuple h1;obtain⟨as,f⟩:=Inv.readsAll I h2 b;exact⟨_,.tuple g c d (by simpa using f)⟩
 |.dict _,_,_,h,_=>by unfold IsD at h;exact h.elim
theorem Inv.readsAll(I:Inv X z8 σ H s):∀{ds:J L}{vs:J V}{us:J GC},fc X.K H ds vs->Vals vs us->∃as,ReadsAll s.heap us ds as
 |[],_,_,h,r=>by rw[h.nil_of]at r;cases r;exact⟨_,.nil⟩
 |d::ds,_,_,h,r=>by
  obtain⟨v,t,e,h1,h2⟩:=h.cons_of;subst e;cases r with
  |cons r1 r2 =>obtain⟨as,a⟩:=Inv.reads I h1 r1;obtain⟨bs,b⟩:=Inv.readsAll I h2 r2;exact⟨_,.cons a b⟩
end
open PySem.SeqAt in
theorem zE(a:X.A.units+64<cLine):OpR X (compareOp .Eq) (λx y H Q=>∃d e,IsD X.K H d x/\IsD X.K H e y/\shaped d=true/\shaped e=true/\Q (.bl (Rb d e)) H):=by intro z8 s σ H x y v u Q I b c h;obtain⟨d,e,hd,f,g,i,q⟩:=h;obtain⟨as,j⟩:=I.reads hd b;obtain⟨bs,l⟩:=I.reads f c;exact eq_dataH j l g i a ⟨.bl _,H,I,rfl,q⟩
open PySem.SeqAt in
theorem Jq(a:X.A.units+64<cLine):OpR X (compareOp .NotEq) (λx y H Q=>∃d e,IsD X.K H d x/\IsD X.K H e y/\shaped d=true/\shaped e=true/\Q (.bl (!Rb d e)) H):=by intro z8 s σ H x y v u Q I b c h;obtain⟨d,e,hd,f,g,i,q⟩:=h;obtain⟨as,j⟩:=I.reads hd b;obtain⟨bs,l⟩:=I.reads f c;exact ne_dataH j l g i a ⟨.bl _,H,I,rfl,q⟩
noncomputable def tyD:L->RI
 |.none=>"NoneType"
 |.bool _=>"bool"
 |.int _=>"int"
 |.str _=>"str"
 |.list _=>"list"
 |.tuple _=>"tuple"
 |.dict _=>"dict"
def uc(d:L)(T:RI):Bool:=tyD d==T||(T=="int"&&tyD d=="bool")
theorem HN(K:Qp){a T:RI}(ha:a∈["NoneType", "bool", "int", "str", "list", "tuple"])(b:T∈["bool", "int", "list", "tuple"]) :
  W.kitOne K (.type a) (.type T)=Y (a==T||(T=="int"&&a=="bool")):=by
 dsimp[NB,O0,S3]at ha b;rcases ha with rfl|rfl|rfl|rfl|rfl|rfl <;> rcases b with rfl|rfl|rfl|rfl <;> rfl
theorem HW{d:L}(h:IsD K H d v):tyD d∈["NoneType", "bool", "int", "str", "list", "tuple"]:=by
 cases d with
 |dict _=>unfold IsD at h;exact h.elim
 |_=>simp[tyD]
theorem xp:kf X (.builtin "isinstance") (λxs H Q=>∃d v T,xs=[v,.ty T]/\IsD X.K H d v/\T∈["bool", "int", "list", "tuple"]/\Q (.bl (uc d T)) H):=by
 intro z8 s σ H xs us Q I r h;obtain⟨d,v,T,rfl,hd,j,q⟩:=h;obtain⟨u,c,rfl,f,l⟩:=vals2 r;cases l;have e:W.kitOne X.K (.type (tyD d)) (.type T)=Y (uc d T):=HN X.K (HW hd) j;have fin:∀tk,EP X z8 σ Q (.bool (uc d T)) {s with toks:=tk}:=λtk=>⟨.bl _,H,I.tok tk,rfl,q⟩
 cases d with
 |none=>rw[hd.ofNone]at f;cases f;exact T2 W.kitx_none I.kIn RC e (λz=>nomatch z) fin
 |bool b=>rw[hd.ofBool]at f;cases f;exact T2 W.kitx_bool I.kIn RC e (λz=>nomatch z) fin
 |int i=>rw[hd.ofInt]at f;obtain⟨t,rfl⟩:=f;exact T2 W.kitx_int I.kIn RC e (λz=>nomatch z) fin
 |str x=>rw[hd.ofStr]at f;obtain⟨t,rfl⟩:=f;exact T2 W.kitx_str I.kIn RC e (λz=>nomatch z) fin
 |list ds =>obtain⟨a,xs,e1,h1,h2⟩:=hd.ofLst;subst e1;cases f;obtain⟨its,m,⟨o,n,g,c,_,_⟩,_⟩:=I.list h1;exact T2 W.kitx_list I.kIn ⟨o,g,c⟩ e (λz=>nomatch z) fin
 |tuple ds =>obtain⟨a,xs,e1,h1,h2⟩:=hd.ofTup;subst e1;cases f;obtain⟨its,m,⟨o,g,c,n,_⟩,_⟩:=I.tuple h1;exact T2 W.kitx_tuple I.kIn ⟨o,g,c⟩ e (λz=>nomatch z) fin
 |dict _=>unfold IsD at hd;exact hd.elim
theorem qw:∀{bs:J Qo}{us:J GC},Vals (bs.map V.bl) us->LSm.BoolsAre us bs
 |[],_,.nil=>.nil
 |b::r,_,.cons h t=>by cases (show _=Sz b from h);exact .cons b (qw t)
theorem Dz(hc:X.calm=true):kf X (.builtin "all") (λxs H Q=>∃(a:J')(bs:J Qo),xs=[.ref a]/\SqL X.K H a (bs.map V.bl)/\Q (.bl (bs.all id)) H):=by
 intro z8 s σ H xs us Q I r h;obtain⟨a,bs,rfl,j,q⟩:=h;obtain⟨u,rfl,l⟩:=vals1 r;cases l;obtain⟨its,m,p,_⟩:=I.list j;have hl:=p.isList;have f:=qw m;have c:a<s.heap.objs.size:=by obtain⟨_,e,_⟩:=hl;exact NI e
 refine call_all_walk (RO hl ?_);refine⟨s.heap.objs.size,[s.heap.objs.size,a],[s.heap.objs.size],its.toArray.size,_,_,λi=>(bs[i]?).getD true,rfl,Sj (A:=X.A.in1) (I.ok.hd hc) _ a (NJ c) its.toArray,
  ⟨⟨_,NN _ rfl,rfl,rfl⟩,hl.push _⟩,λi v s' Q' E' n g=>?_,λh' tk o=>?_⟩
 .obtain⟨b,e,rfl⟩:=f.get i v (by simpa using n);dsimp[e,P0]at g;exact QG g
 .have e:((M' its.toArray.size).all λi=>(bs[i]?).getD true)=bs.all id:=by rw[NM,f.length];exact LSm.range_all bs
  rw[e];exact⟨.bl _,H,I.kept (LSm.kept_iter o),rfl,q⟩
theorem Fq(hc:X.calm=true):kf X (.builtin "sum") (λxs H Q=>∃(a:J')(ns:J Z),xs=[.ref a]/\SqL X.K H a (ns.map V.int)/\Q (.int ns.sum) H):=by
 intro z8 s σ H xs us Q I r h;obtain⟨a,ns,rfl,e,q⟩:=h;obtain⟨u,rfl,f⟩:=vals1 r;cases f;obtain⟨its,g,p,_⟩:=I.list e;have hi:RF its ns:=intsAre_of g;obtain⟨xs,c⟩:=hi.allInts.items;have b:s.heap.IsList a (intItems xs):=c▸p.isList;refine sum_intListG (I.ok.hd hc) b λh' tk t' i=>?_
 have e1:ns=xs.toList.map (·.1):=by rw[<-nums_intItems,<-c];exact (show numsOf its.toArray.toList=ns from hi.numsOf).symm
 have e2:preSum (numAt xs) xs.size=ns.sum:=by rw[preSum_eq,Th #[2],e1]
 rw[e2];exact⟨.int _,H,I.kept i,⟨_,rfl⟩,q⟩
end
structure Np(P:QS)(w:QY)(outer:J V1)(H:Hp)(s:LN)(H':Hp)(B:QD)(ea:J')(cls a0:GC)(s':LN):Prop where
 os:s'.os=s.os
 bare:Sv s'.gens
 hok:HOk P w H' B
 keep:∀b o,s.heap.get? b=Y o->H b=S->b∉frs outer->B.get? b=Y o
 there:∀b o,s.heap.get? b=Y o->b∉frs outer->∃o',B.get? b=Y o'
 slot:∀b o,s.heap.get? b=Y o->b∈frs outer->∃sl,s'.heap.get? b=Y {o with slots:=sl}
 free:∀b o,s.heap.get? b=Y o->H b=S->H' b=S
 tups:∀b xs,H b=Y (.tup xs)->H' b=Y (.tup xs)
 frzs:∀b o u,H b=Y (.frz o u)->H' b=Y (.frz o u)
 tbls:∀b q,H b=Y (.tbl q)->H' b=Y (.tbl q)
 fly:QD.FlyingW B outer ea cls a0 s'.heap
def CXW(P:QS)(w:QY):CXT:=λouter H s E e s'=>∃ea cls a0 H' B,e=.ref ea/\E cls S H'/\Np P w outer H s H' B ea cls a0 s'
section
variable {f:J'}{A:Qs}
theorem xn{Dd:J'}(a:env.frame=Y Dd):frs (env::outer)=Dd::frs outer:=by unfold frs;rw[Pz,a]
theorem wR{CX:CXT}{g:LN}{ea:J'}{cls:GC}{vs:J GC}
  (I:Inv (dg (CXW P w) P w K mg base N qual scope f cd A outer s H E) z8 σ H1 g) (p:Vq g.heap h' ea cls vs) (r:E cls S H1) :
  (dg (CXW P w) P w K mg base N qual scope f cd A outer s H E).xe (.ref ea) {g with heap:=h'}:=by
 have i:=I.stack;have j:frs (dg (CXW P w) P w K mg base N qual scope f cd A outer s H E).stack=s.heap.objs.size::frs outer:=xn rfl;have l:∀env∈(dg (CXW P w) P w K mg base N qual scope f cd A outer s H E).stack,∀b,env.frame=Y b->b∈frs (dg (CXW P w) P w K mg base N qual scope f cd A outer s H E).stack:=λenv v b c=>Q5.mpr ⟨env,v,c⟩
 have out:∀b o,s.heap.get? b=Y o->b∉frs outer->b∉frs (dg (CXW P w) P w K mg base N qual scope f cd A outer s H E).stack:=λb o e n z=>by
  rw[j]at z;rcases NB.mp z with z|z
  .rw[z]at e;exact Qr (NI e) (OQ _)
  .exact n z
 refine wpAny_leaves_madeW (base:=W.hideAll g.heap (frs (dg (CXW P w) P w K mg base N qual scope f cd A outer s H E).stack)) I.ok.frames rfl (λb o q=>VJ _ q) (W.funFrames_hide i l) p λh2 t x x2 x3 x4=>?_
 refine⟨ea,cls,.ref t,H1,_,rfl,r,⟨I.os,I.bare,?_,?_,?_,?_,?_,I.base.tups,I.base.frzs,I.base.tbls,x⟩⟩
 .intro a o e;refine (I.hok a o e).stay (λb u c q=>SV _ q λz=>?_) (λ_ q=>q) λ_ _ q=>q
  have:=I.stkFree b z;rcases c with c|c
  .rw[c,e]at this;cases this
  .rw[c]at this;cases this
 .intro b o e n c;exact SV _ (I.base.keep b o e n c (O0)) (out b o e c)
 .intro b o e c;obtain⟨o',q⟩:=I.base.there b o e (O0);exact⟨o',SV _ q (out b o e c)⟩
 .intro b o e c;obtain⟨sl,q⟩:=I.base.slot b o e (I.ok.frf b c) c (O0);obtain⟨_,y,h,d2⟩:=I.ok.funs.mem c;have h:s.heap.get? b=Y y:=h;rw[e]at h;cases h;obtain⟨m,B⟩:=x4 b _ (p.keeps b _ q) d2;exact⟨m,B⟩
 .intro b o e n;exact I.base.free b o e n (O0)
theorem Ie:Passes (CXW P w) (dg (CXW P w) P w K mg base N qual scope f cd A outer s H E) E:=by
 intro z8 σ H1 s1 e s2 I hc;obtain⟨ea,cls,a0,H2,B,rfl,i,F⟩:=hc;have c:frs (dg (CXW P w) P w K mg base N qual scope f cd A outer s H E).stack=s.heap.objs.size::frs outer:=xn rfl;have out:∀b o,s.heap.get? b=Y o->b∉frs outer->b∉frs (dg (CXW P w) P w K mg base N qual scope f cd A outer s H E).stack:=λb o e n z=>by
  rw[c]at z;rcases NB.mp z with z|z
  .rw[z]at e;exact Qr (NI e) (OQ _)
  .exact n z
 refine wpAny_leaves_onW I.ok.frames rfl F.fly λh2 j l=>⟨ea,cls,a0,H2,B,rfl,i,⟨F.os.trans I.os,F.bare,F.hok,?_,?_,?_,?_,?_,?_,?_,j⟩⟩
 .intro b o e n a;exact F.keep b o (I.base.keep b o e n a (O0)) (I.base.free b o e n (O0)) (out b o e a)
 .intro b o e a;obtain⟨o',q⟩:=I.base.there b o e (O0);exact F.there b o' q (out b o e a)
 .intro b o e a;obtain⟨sl,q⟩:=I.base.slot b o e (I.ok.frf b a) a (O0);obtain⟨_,m,g,d2⟩:=I.ok.funs.mem a;have g:s.heap.get? b=Y m:=g;rw[e]at g;cases g;obtain⟨sl1,p⟩:=F.slot b _ q (by rw[c];exact N0 _ a);obtain⟨h,r⟩:=l b _ p d2;exact⟨h,r⟩
 .intro b o e n;obtain⟨o',q⟩:=I.base.there b o e (O0);exact F.free b o' q (I.base.free b o e n (O0))
 .intro b xs e;exact F.tups b xs (I.base.tups b xs e)
 .intro b o u e;exact F.frzs b o u (I.base.frzs b o u e)
 .intro b ps e;exact F.tbls b ps (I.base.tbls b ps e)
end
theorem GA{a:J GC}(X:K.In h)(q:Vh K C a newId=true) :
  ∃bm N nm r bs hdct sn sub ab col dd k0 k1 k2 k3 k5 mN,h.get? C=Y (excClassObj nm r C N bs bm hdct sn sub ab col dd k0 k1 k2 k3 k5 newId)/\h.Ns N mN/\mN "__init__"=S/\OwnTail h a bm:=by
 unfold Vh at q;split at q
 .rename_i d1 s l1 g1;split at q
  .rename_i C2 b g i j m n2 n hm t;dsimp[NG,RK,Qb]at q;obtain⟨⟨⟨⟨⟨u,v⟩,o⟩,w⟩,c⟩,p⟩:=q;subst u;subst v;obtain⟨z1,z2,z3,x,y,z,A,B,D,e,z11⟩:=s;dsimp only at hm o c p;subst hm;subst o;have hl:l1=#[g,i,j,m,Y (.builtin n2),n]:=by obtain⟨l⟩:=l1;have f:l=_:=t;rw[f]
   subst hl;exact⟨b,x,z1,y,z2,z,A,B,D,e,d1,g,i,j,m,n,_,X _ _ g1,.of_isNs (W.isNs_of_in X c),W.nsMap_none_of_in X c p,W.tail_of_in X w⟩
  .cases q
 .cases q
def yz(X:Cx)(E:XK):Prop:=∀(z8:J (J'×Rv))(σ:St)(H:Hp)(s:LN)(h':QD)(ea:J')(cls:GC)(vs:J GC),Inv X z8 σ H s->Vq s.heap h' ea cls vs->E cls S H->X.xe (.ref ea) {s with heap:=h'}
def JZ(C:J')(E:XK)(t:TA):TS:=λ_ σ H=>t σ H λvs H1=>vs.length<=sizeLine/\E (.ref C) S H1
theorem FH{B a:RI}{bm:J GC}{m:Ts}{t:TA}(hc:X.calm=true)(M:yz X E)(FB:ExcBaseFacts B newId a bm)(n:Gl X x)(hm:X.mg x=Y (.ref C))(o:Vh X.K C bm newId=true)
  (ha:PA X (e::es) t) (c:(x==("__debug__":Qn))=false:=by decide) (j:starEach (e::es) X.env=(false,eval e X.env)::starEach es X.env:=by rfl) (f:(backTo cpos (starEach es X.env)).any (·.1)=false:=by rfl) :
  PS X (.Raise (Y (.Call (.Name x m) (e::es) [] cpos)) S pos) (JZ C E t):=by
 intro z8 s σ H D I h;obtain⟨tl,N,nm,q,bs,hdct,sn,sub,ab,col,dd,k0,k1,k2,k3,k5,mN,g,p,i,T⟩:=GA I.mod.kin o;refine wpAny_Raise_call_subT (C:=C) (nm:=nm) (q:=q) (N:=N) (bs:=bs) (bm:=tl) (hdct:=hdct) (sn:=sn) (sub:=sub) (ab:=ab) (col:=col) (dd:=dd) (k0:=k0) (k1:=k1) (k2:=k2) (k3:=k3) (k5:=k5)
  FB (mN:=mN) (T.hasType FB.hasBase) (I.ok.hd hc) (by rw[j];show (false||(backTo cpos (starEach es X.env)).any (·.1))=false;rw[f];rfl) i (oV I n hm ⟨rfl,?_⟩ c)
 have l:=ha cpos z8 s σ H _ I h;rw[j]at l ⊢;refine Sl (QU l (λus s2 h2=>?_) λ_ _ y=>y);obtain⟨vs,H2,b,r,z,u⟩:=h2;exact⟨rfl,by rw[<-r.length];exact z,b.bk _ _ g,p.keeps b.bk,T.keeps b.bk,λh' ea v=>M z8 σ H2 s2 h' ea _ _ b v u⟩
theorem gP(h:H D=S):aw H (upd H D o):=λb u e=>by rw[aB (aI e h)];exact e
theorem aw.put(s:aw H H')(h:H D=S):aw H (upd H' D o):=λb u e=>by rw[aB (aI e h)];exact s b u e
mutual
def dM:L->Qo
 |.list _=>false
 |.tuple ds=>lA ds
 |.dict _=>false
 |_=>true
def lA:J L->Qo
 |[]=>true
 |d::ds=>dM d&&lA ds
end
theorem set_own(σ:St)(x:F1 V)(v:V)(a:St)(h:a.length=1):(σ++a).set σ.length (Y v)=σ++[Y v]:=by obtain⟨y,rfl⟩:=J.length_eq_one_iff.mp h;simp
structure Rows(H H':Hp)(D:J')(qs:J J')(rs:J (J Z)):Prop where
 d:H' D=Y (.lst (qs.map V.ref))
 len:qs.length=rs.length
 at':∀(i:O) q r,qs[i]?=Y q->rs[i]?=Y r->H' q=Y (.lst (r.map V.int))
 new:∀q∈qs,H q=S
 nd:qs.Nodup
 nD:D∉qs
section
variable {A:Qs}{E:GC->LN->Prop}
theorem y0{t:J'}{x:GC}(hi:s.heap.IsTupleIter it t i)(b:s.heap.IsTuple t its)(c:its[i]?=Y x)
  (e:∀h',h'.IsTupleIter it t (i+1)->R0 it s.heap h'->Q x {s with heap:=h'}):wpAny (model prog w) A (Rx (.ref it)) Q E s:=by
 obtain⟨oi,gi,f,a⟩:=id hi;obtain⟨ot,g,_,nt,h⟩:=b;unfold Rx;refine F' (RG (name:=R9 "__next__") hi.typeIs Rt (RW Rt hi.typeIs Sw ?_ (Sq _)));refine F' (m:=field (.ref it) 0) (S6 gi a (x:=.ref t) rfl ?_);show wpAny (model prog w) _ (if (Qw t==Rq)=true then _ else _) _ _ s;have j:¬ (Qw t==Rq)=true:=λq=>NL q
 rw[I' j];refine F' (m:=field (.ref it) 1) (S6 gi a (x:=.int i 0) rfl ?_);refine F' (m:=seqItems? (.ref t)) (QX g h ?_);dsimp[O2,c];refine F' (Vr gi a #[2] (K' ⟨x,rfl,K' (e _ ⟨_,OS _ gi (Rv.isFreed_of_fields (Uc a _)),(Rv.cls_mapFields ..).trans f,?_⟩ (RZ ..))⟩));rw[Uc a];simp[rawInt]
theorem pM{t:J'}(f:A.handled=S)(hi:s.heap.IsTupleIter it t i)(g:s.heap.IsTuple t its)(h:its[i]?=S)
  (j:∀h' e,QD.ExtBut it s.heap h'->(∃o,h'.get? e=Y o/\o.cls=.type "StopIteration")->E (.ref e) {s with heap:=h'}):wpAny (model prog w) A (Rx (.ref it)) Q E s:=by
 obtain⟨oi,gi,ci,c⟩:=id hi;obtain⟨ot,l,_,nt,n⟩:=g;unfold Rx;refine F' (RG (name:=R9 "__next__") hi.typeIs Rt (RW Rt hi.typeIs Sw ?_ (Sq _)));refine F' (m:=field (.ref it) 0) (S6 gi c (x:=.ref t) rfl ?_);show wpAny (model prog w) _ (if (Qw t==Rq)=true then _ else _) _ _ s;have p:¬ (Qw t==Rq)=true:=λq=>NL q
 rw[I' p];refine F' (m:=field (.ref it) 1) (S6 gi c (x:=.int i 0) rfl ?_);refine F' (m:=seqItems? (.ref t)) (QX l n ?_);dsimp[O2,h];refine F' (Sk (F' (Vr gi c #[2] ?_)));refine F' (m:=newExc (.type "StopIteration") []) ?_;unfold newExc newTuple;refine F' (QW ?_ (by size_fits ));refine F' (m:=firstArgMember _ _) (TH (a:=Rq) (by first|rfl|(unfold firstArgMember;rfl)) ?_);refine QW ?_ (by size_fits );unfold raiseNew;refine F' (wpAny_handled ?_)
 first|rw[show A.in1.handled=S from f]|rw[f]
 refine F' (K' (wpAny_throw ?_));refine j _ _ (λb o r e=>?_) ⟨_,NN _ rfl,rfl⟩;exact N5 _ (N5 _ ((O5 _ _ (Rm r)).trans e))
theorem BS(f:A.handled=S)(it t:J')(b:t≠it)(its:QR GC):Draws prog w A it [it,t] its.size (λi v=>its[i]?=Y v) (λi h=>h.IsTupleIter it t i/\h.IsTuple t its) where
 live:=λ_ _ st=>by obtain⟨⟨o,g,_⟩,_⟩:=st;exact⟨o,g⟩
 frame:=λ_ _ _ st k=>by obtain⟨⟨o,g,r⟩,⟨a,g2,c⟩⟩:=st;exact⟨⟨o,k it #[2] o g,r⟩,⟨a,k t #[2] a g2,c⟩⟩
 item:=λi s Q E hi st j=>y0 st.1 st.2 (x:=its[i]) (by simp[hi]) λh' i' e=>by refine j _ h' s.toks (by simp[hi]) ⟨i',?_⟩ e;obtain⟨a,g2,c⟩:=st.2;exact⟨a,(e.2 t b).trans g2,c⟩
 done:=λs Q E st l=>pM f st.1 st.2 #[2] l
end
section
variable {A:Qs}{E:GC->LN->Prop}{z TI TO i1 i2:J'}{f1 f2:J J'}{n1 n2 k:O}{P1 P2:O->GC->Prop}{S1 S2:O->QD->Prop}{a b:GC}
end
section
variable {σ:L2.St}
theorem Inv.turnLay{ch:J J'}{t':O}{T:J'}(I:Inv X z8 σ H s)(g:∀b∈ch,pk X z8 H b)(h:s.heap.objs.size<=T)(k:∀b u,b∉ch->s.heap.get? b=Y u->h'.get? b=Y u)
  (new:cC X.prog X.w (upd H T o) h' T o):Inv X z8 σ (upd H T o) {s with heap:=h',toks:=t'}:=by
 have hn:H T=none:=I.hok.fresh h;have a:∀b u,H b=Y u->b∉ch:=λb u e z=>by rw[(g b z).1]at e;cases e
 have neT:∀b u,s.heap.get? b=Y u->b≠T:=λb u e=>NJ (NX (NI e) h)
 refine I.step (g':=s.gens) (d':=s.drawn) (ch:=ch) (λb f=>?_) (λb u _ _ hc e _=>k b u hc e) (λb u _ _ hc e _=>⟨u.slots,k b u hc e⟩) (λb u _ e n=>by rw[aB (neT b u e)];exact n)
  (λb u hc e=>⟨u,k b u hc e⟩) (λb xs e=>by rw[aB (aI e hn)];exact e) (λb u v e=>by rw[aB (aI e hn)];exact e) (λb ps e=>by rw[aB (aI e hn)];exact e) (λm hm=>?_) (λb u e=>?_) I.bare
 .obtain⟨f0,f1,f2,j,l,p⟩:=g b f;exact⟨j,f1,l,p⟩
 .obtain⟨i,es,ep,t,r⟩:=hm;exact⟨i,es,ep,k _ i (λz=>(g _ z).2.1 rfl) t,r⟩
 .by_cases f:b=T
  .subst f;rw[aM]at e;cases e;exact new
  .rw[aB f]at e;refine (I.hok b u e).stay (λc v hc q=>k c v ?_ q) (λc q=>by rw[aB (aI q hn)];exact q) (λc xs q=>by rw[aB (aI q hn)];exact q) λc o' w' q=>by rw[aB (aI q hn)];exact q
   rcases hc with z|z
   .rw[z];exact a b u e
   .exact a c _ z
theorem Inv.turneds{ch:J J'}{t':O}(I:Inv X z8 σ H s)(f:∀b∈ch,pk X z8 H b)(k:∀b u,b∉ch->s.heap.get? b=Y u->h'.get? b=Y u):Inv X z8 σ H {s with heap:=h',toks:=t'}:=by
 have a:∀b u,H b=Y u->b∉ch:=λb u e z=>by rw[(f b z).1]at e;cases e
 refine I.step (g':=s.gens) (d':=s.drawn) (ch:=ch) (λb h=>?_) (λb u _ _ hc e _=>k b u hc e) (λb u _ _ hc e _=>⟨u.slots,k b u hc e⟩) (λb u _ e n=>n)
  (λb u hc e=>⟨u,k b u hc e⟩) (λb xs e=>e) (λb u v e=>e) (λb ps e=>e) (λm hm=>?_) (λb u e=>?_) I.bare
 .obtain⟨f0,f1,f2,i,j,l⟩:=f b h;exact⟨i,f1,j,l⟩
 .obtain⟨g,es,ep,o,r⟩:=hm;exact⟨g,es,ep,k _ g (λz=>(f _ z).2.1 rfl) o,r⟩
 .refine (I.hok b u e).stay (λc v hc q=>k c v ?_ q) (λ_ q=>q) λ_ _ q=>q
  rcases hc with z|z
  .rw[z];exact a b u e
  .exact a c _ z
end
inductive Rs (α:Type) where
 |ok (a:α)
 |rz (C:J')
 |no
namespace Rs
noncomputable def bind{α β:Type}:Rs α->(α->Rs β)->Rs β
 |ok a,f=>f a
 |rz C,_=>rz C
 |no,_=>no
def dS{α:Type}:F1 α->Rs α
 |some a=>ok a
 |none=>no
noncomputable def calm{α:Type}:Rs α->Rs α
 |ok a=>ok a
 |_=>no
@[simp]theorem ag(a:α)(f:α->Rs β):(ok a).bind f=f a:=rfl
@[simp]theorem dH(C:J')(f:α->Rs β):(rz C).bind f=rz C:=rfl
@[simp]theorem bR(f:α->Rs β):(no:Rs α).bind f=no:=rfl
@[simp]theorem ak(a:α):dS (Y a)=ok a:=rfl
@[simp]theorem Kg:dS (S:F1 α)=no:=rfl
@[simp]theorem fU(a:α):(ok a).calm=ok a:=rfl
end Rs
variable {gf:J L->Rs L}
noncomputable def del(H:Hp)(A:J J'):Hp:=λb=>if b∈A then S else H b
theorem Ar:del H []=H:=by funext b;simp[del]
theorem kq(h:b∈A):del H A b=none:=by simp[del,h]
theorem bb(h:b∉A):del H A b=H b:=by simp[del,h]
theorem df(h:del H A b=Y o):b∉A/\H b=Y o:=by
 by_cases z:b∈A
 .rw[kq z]at h;cases h
 .rw[bb z]at h;exact⟨z,h⟩
theorem ay:aw (del H A) H:=λ_ _ e=>(df e).2
theorem aw.del(s:aw H H'):aw (del H A) (L2.del H' A):=λb o e=>by obtain⟨z,e⟩:=df e;rw[bb z];exact s b o e
def Hz:HO->Qo
 |.lst _=>true
 |.dK _=>true
 |.dT _=>true
 |_=>false
def Ls(H:Hp)(A:J J'):Prop:=∀a∈A,∃o,H a=Y o/\Hz o=true
theorem Ls.same(h:Ls H A)(s:aw H H'):Ls H' A:=λa ha=>by obtain⟨o,e,q⟩:=h a ha;exact⟨o,s _ _ e,q⟩
theorem Ls.nil:Ls H []:=λ_ h=>by cases h
theorem Ls.new{p:J'}(h:Ls H A)(hp:H p=S):p∉A:=λz=>by obtain⟨xs,e,_⟩:=h p z;rw[hp]at e;cases e
def ar(ns:J Z):PyData:=.dict [(.none,.list (ns.map .int))]
abbrev dtK(l:J ((Z×Z)×Z)):J (L×L):=(.bool true,.none)::l.map λp=>(.tuple [.int p.1.1,.int p.1.2],.int p.2)
abbrev dtO(l:J ((Z×Z)×Z)):HO:=.dT (l.map λp=>([.inl p.1.1,.inl p.1.2],V.int p.2))
abbrev dfK(l:J (Z×Z)):J (L×L):=(.bool false,.none)::l.map λp=>(.int p.1,.int p.2)
def Hu(kvs:J (L×L))(o:HO):Prop:=(∃l:J (Z×Z),kvs=l.map (λp=>(FC p.1,FC p.2))/\o=.dK (l.map λp=>(.inl p.1,V.int p.2)))\/(∃l,kvs=dtK l/\o=dtO l)\/∃l ob,kvs=dfK l/\o=.frz ob (.dK (l.map λp=>(.inl p.1,V.int p.2)))
mutual
def Is(K:Qp)(H:Hp):L->V->Prop
 |.none,v=>v=.non
 |.bool b,v=>v=.bl b
 |.int i,v=>v=.int i
 |.str x,v=>v=.str x
 |.list ds,v=>∃a xs,v=.ref a/\H a=Y (.lst xs)/\Iss K H ds xs
 |.tuple ds,v=>∃a xs,v=.ref a/\H a=Y (.tup xs)/\Iss K H ds xs
 |.dict kvs,v=>((∃a ns,v=.ref a/\kvs=[(TJ,Sm (W6 FC ns))]/\SqL K H a (W6 V.int ns)) \/
  ∃(a:J')(o:HO),v=.ref a/\Hu kvs o/\H a=Y o) \/
  ∃(a C dx:J')(fs:J (Qn×V)),v=.ref a/\H a=Y (.ins C dx fs)/\fs.lookup ("@":Qn)=S/\(Isk K H kvs (("",.int (C:Z))::fs)\/Isk K H kvs (("",.int (C:Z))::("@",.int (a:Z))::fs))
def Iss(K:Qp)(H:Hp):J L->J V->Prop
 |[],vs=>vs=[]
 |d::ds,vs=>∃v r,vs=v::r/\Is K H d v/\Iss K H ds r
def Isk(K:Qp)(H:Hp):J (L×L)->J (Qn×V)->Prop
 |[],fs=>fs=[]
 |(k,d)::r,fs=>∃f v fs',fs=(f,v)::fs'/\k=.str f/\Is K H d v/\Isk K H r fs'
end
noncomputable def Ji(C a:J')(fds:J (Qn×L)):PyData:=.dict ((.str "",.int (C:Z))::(.str "@",.int (a:Z))::fds.map λp=>(.str p.1,p.2))
noncomputable def yf(C:J')(fds:J (Qn×L)):PyData:=.dict ((.str "",.int (C:Z))::fds.map λp=>(.str p.1,p.2))
section
theorem bP{i:Z}:Is K H (.int i) (.int i):=by unfold Is;rfl
theorem is_bool{b:Qo}:Is K H (.bool b) (.bl b):=by unfold Is;rfl
theorem is_none:Is K H .none .non:=by unfold Is;rfl
theorem Ez:Is K H (.str x) (.str x):=by unfold Is;rfl
theorem kg(h:H a=Y (.tup xs))(h2:Iss K H ds xs):Is K H (.tuple ds) (.ref a):=by unfold Is;exact⟨a,xs,rfl,h,h2⟩
theorem k9(h:H a=Y (.lst xs))(h2:Iss K H ds xs):Is K H (.list ds) (.ref a):=by unfold Is;exact⟨a,xs,rfl,h,h2⟩
theorem BY(h:SqL K H a (ns.map V.int)):Is K H (ar ns) (.ref a):=by unfold ar Is;exact .inl (.inl ⟨a,ns,rfl,rfl,h⟩)
theorem eR:Iss K H [] []:=by unfold Iss;rfl
theorem dQ{d:L}(h:Is K H d v)(h2:Iss K H ds vs):Iss K H (d::ds) (v::vs):=by unfold Iss;exact⟨v,vs,rfl,h,h2⟩
theorem lP{d:L}(h:Is K H d v):Iss K H [d] [v]:=dQ h eR
theorem Is.ofInt{i:Z}(h:Is K H (.int i) v):v=.int i:=by unfold Is at h;exact h
theorem Is.ofBool{i:Qo}(h:Is K H (.bool i) v):v=.bl i:=by unfold Is at h;exact h
theorem Is.ofNone(h:Is K H .none v):v=.non:=by unfold Is at h;exact h
theorem Is.ofStr(h:Is K H (.str x) v):v=.str x:=by unfold Is at h;exact h
theorem Is.ofTup(h:Is K H (.tuple ds) v):∃a xs,v=.ref a/\H a=Y (.tup xs)/\Iss K H ds xs:=by unfold Is at h;exact h
theorem Is.ofLst(h:Is K H (.list ds) v):∃a xs,v=.ref a/\H a=Y (.lst xs)/\Iss K H ds xs:=by unfold Is at h;exact h
theorem Is.ofScript(h:Is K H (ar ns) v):∃a,v=.ref a/\SqL K H a (ns.map V.int):=by
 unfold ar Is at h;rcases h with (h|⟨a,l,_,e,_⟩)|⟨a,C,dx,fs,_,_,_,h|h⟩
 case inl.inr=>rcases e with⟨m,e,_⟩|⟨m,e,_⟩|⟨m,_,e,_⟩ <;> first|(cases e;done)|(cases m <;> cases e)
 case inr.inl=>unfold Isk at h;obtain⟨f,_,_,_,h,_⟩:=h;cases h
 case inr.inr=>unfold Isk at h;obtain⟨f,_,_,_,h,_⟩:=h;cases h
 obtain⟨a,g,e,e2,h⟩:=h;have i:ns.map FC=g.map L.int:=by injection e2 with e2 _;injection e2 with _ e2;injection e2
 have j:ns=g:=by
  have inj:∀(a b:J Z),a.map FC=b.map FC->a=b:=by
   intro a
   induction a with
   |nil=>intro b c;cases b with|nil=>rfl|cons _ _=>simp at c
   |cons x r ih =>
    intro b c;cases b with
    |nil=>simp at c
    |cons y s =>dsimp[N2,V6,UP]at c;rw[c.1,ih s c.2]
  exact inj _ _ i
 subst j;exact⟨a,e,h⟩
theorem Iss.nil_of(h:Iss K H [] vs):vs=[]:=by unfold Iss at h;exact h
theorem Iss.cons_of{d:L}(h:Iss K H (d::ds) vs):∃v r,vs=v::r/\Is K H d v/\Iss K H ds r:=by unfold Iss at h;exact h
theorem Iss.length:∀{ds:J L}{vs:J V},Iss K H ds vs->vs.length=ds.length
 |[],_,h=>by rw[h.nil_of];rfl
 |_::_,_,h=>by obtain⟨v,r,e,_,h2⟩:=h.cons_of;rw[e,NP,NP,Iss.length h2]
mutual
theorem Is.same(e:aw H H'):∀{d:L}{v:V},Is K H d v->Is K H' d v
 |.none,_,h=>by unfold Is at h ⊢;exact h
 |.bool _,_,h=>by unfold Is at h ⊢;exact h
 |.int _,_,h=>by unfold Is at h ⊢;exact h
 |.str _,_,h=>by unfold Is at h ⊢;exact h
 |.list ds,_,h=>by unfold Is at h ⊢;obtain⟨a,xs,e1,h1,h2⟩:=h;exact⟨a,xs,e1,e _ _ h1,Iss.same e h2⟩
 |.tuple ds,_,h=>by unfold Is at h ⊢;obtain⟨a,xs,e1,h1,h2⟩:=h;exact⟨a,xs,e1,e _ _ h1,Iss.same e h2⟩
 |.dict _,_,h=>by
  unfold Is at h ⊢;rcases h with (⟨a,ns,e1,e2,h2⟩|⟨a,l,e1,e2,h2⟩)|⟨a,C,dx,fs,e1,h1,hn,h2|h2⟩
  .exact .inl (.inl ⟨a,ns,e1,e2,e.seq h2⟩)
  .exact .inl (.inr ⟨a,l,e1,e2,e _ _ h2⟩)
  .exact .inr ⟨a,C,dx,fs,e1,e _ _ h1,hn,.inl (Isk.same e h2)⟩
  .exact .inr ⟨a,C,dx,fs,e1,e _ _ h1,hn,.inr (Isk.same e h2)⟩
theorem Iss.same(e:aw H H'):∀{ds:J L}{vs:J V},Iss K H ds vs->Iss K H' ds vs
 |[],_,h=>by unfold Iss at h ⊢;exact h
 |d::ds,_,h=>by unfold Iss at h ⊢;obtain⟨v,r,e1,h1,h2⟩:=h;exact⟨v,r,e1,Is.same e h1,Iss.same e h2⟩
theorem Isk.same(e:aw H H'):∀{ds:J (L×L)}{fs:J (Qn×V)},Isk K H ds fs->Isk K H' ds fs
 |[],_,h=>by unfold Isk at h ⊢;exact h
 |(k,d)::ds,_,h=>by unfold Isk at h ⊢;obtain⟨f,v,r,e1,e2,h1,h2⟩:=h;exact⟨f,v,r,e1,e2,Is.same e h1,Isk.same e h2⟩
end
theorem zV:Isk K H [] []:=by unfold Isk;rfl
theorem xf{f:Qn}{d:L}{r:J (L×L)}{fs:J (Qn×V)}(h:Is K H d v)(h2:Isk K H r fs):Isk K H ((.str f,d)::r) ((f,v)::fs):=by unfold Isk;exact⟨f,v,fs,rfl,rfl,h,h2⟩
theorem JA{fds:J (Qn×L)}{fs:J (Qn×V)}(h:H a=Y (.ins C dx fs))(hn:fs.lookup ("@":Qn)=S)(h2:Isk K H (fds.map λp=>(.str p.1,p.2)) fs):Is K H (yf C fds) (.ref a):=by unfold yf Is;exact .inr ⟨a,C,dx,fs,rfl,h,hn,.inl (xf bP h2)⟩
theorem Km(b:Ls H A)(h:H a=Y (.tup xs)):del H A a=Y (.tup xs):=by rw[bb (λq=>by obtain⟨ys,e2,c⟩:=b a q;rw[h]at e2;cases e2;cases c)];exact h
mutual
theorem Is.dl{A:J J'}(b:Ls H A):∀{d:L}{v:V},dM d=true->Is K H d v->Is K (del H A) d v
 |.none,_,_,h=>by unfold Is at h ⊢;exact h
 |.bool _,_,_,h=>by unfold Is at h ⊢;exact h
 |.int _,_,_,h=>by unfold Is at h ⊢;exact h
 |.str _,_,_,h=>by unfold Is at h ⊢;exact h
 |.list _,_,n,_=>by unfold dM at n;cases n
 |.dict _,_,n,_=>by unfold dM at n;cases n
 |.tuple ds,_,n,h=>by unfold dM at n;obtain⟨a,xs,e,h1,h2⟩:=h.ofTup;subst e;exact kg (Km b h1) (Iss.dl b n h2)
theorem Iss.dl{A:J J'}(a:Ls H A):∀{ds:J L}{vs:J V},lA ds=true->Iss K H ds vs->Iss K (del H A) ds vs
 |[],_,_,h=>by rw[h.nil_of];exact eR
 |d::ds,_,n,h=>by unfold lA at n;obtain⟨n1,n2⟩:=Pc.mp n;obtain⟨v,r,e,h1,h2⟩:=h.cons_of;subst e;exact dQ (Is.dl a n1 h1) (Iss.dl a n2 h2)
end
mutual
def aY:L->Qo
 |.list ds=>fN ds
 |.tuple ds=>fN ds
 |.dict _=>false
 |_=>true
def fN:J L->Qo
 |[]=>true
 |d::ds=>aY d&&fN ds
end
mutual
theorem Is.isd:∀{d:L}{v:V},aY d=true->Is K H d v->IsD K H d v
 |.none,_,_,h=>by rw[h.ofNone];exact E7
 |.bool _,_,_,h=>by rw[h.ofBool];exact DK
 |.int _,_,_,h=>by rw[h.ofInt];exact ui
 |.str _,_,_,h=>by rw[h.ofStr];exact HB
 |.list ds,_,n,h=>by unfold aY at n;obtain⟨a,xs,e,h1,h2⟩:=h.ofLst;subst e;exact uP (SqL.of h1) (Iss.isd n h2)
 |.tuple ds,_,n,h=>by unfold aY at n;obtain⟨a,xs,e,h1,h2⟩:=h.ofTup;subst e;exact Ih (SqT.of h1) (Iss.isd n h2)
 |.dict _,_,n,_=>by unfold aY at n;cases n
theorem Iss.isd:∀{ds:J L}{vs:J V},fN ds=true->Iss K H ds vs->fc K H ds vs
 |[],_,_,h=>by rw[h.nil_of];exact pZ
 |d::ds,_,n,h=>by unfold fN at n;obtain⟨n1,n2⟩:=Pc.mp n;obtain⟨v,r,e,h1,h2⟩:=h.cons_of;subst e;exact sW (Is.isd n1 h1) (Iss.isd n2 h2)
end
def gp:L->Qo
 |.none=>true
 |.bool _=>true
 |.int _=>true
 |.str _=>true
 |_=>false
theorem IsD.is{d:L}(n:gp d=true)(h:IsD K H d v):Is K H d v:=by
 cases d with
 |none=>rw[h.ofNone];exact is_none
 |bool _=>rw[h.ofBool];exact is_bool
 |int _=>rw[h.ofInt];exact bP
 |str _=>rw[h.ofStr];exact Ez
 |_=>cases n
theorem yZ{d:L}(n:gp d=true):dM d=true:=by
 cases d with
 |list _=>cases n
 |tuple _=>cases n
 |dict _=>cases n
 |_=>unfold dM;rfl
theorem Iss.get:∀{ds:J L}{vs:J V}{i:O}{v:V},Iss K H ds vs->vs[i]?=Y v->∃d,ds[i]?=Y d/\Is K H d v
 |[],_,i,v,h,e=>by rw[h.nil_of]at e;simp at e
 |d::ds,_,i,v,h,e=>by
  obtain⟨w,r,e1,h1,h2⟩:=h.cons_of;subst e1;cases i with
  |zero=>simp at e;subst e;exact⟨d,rfl,h1⟩
  |succ i=>simpa using Iss.get (i:=i) h2 (by simpa using e)
theorem Iss.getD:∀{ds:J L}{vs:J V}{i:O}{d:L},Iss K H ds vs->ds[i]?=Y d->∃v,vs[i]?=Y v/\Is K H d v
 |[],_,i,v,h,e=>by simp at e
 |d::ds,_,i,v,h,e=>by
  obtain⟨w,r,e1,h1,h2⟩:=h.cons_of;subst e1;cases i with
  |zero=>simp at e;subst e;exact⟨w,rfl,h1⟩
  |succ i=>simpa using Iss.getD (i:=i) h2 (by simpa using e)
theorem Iss.append:∀{ds es:J L}{vs us:J V},Iss K H ds vs->Iss K H es us->Iss K H (ds++es) (vs++us)
 |[],_,_,_,h,h'=>by rw[h.nil_of];exact h'
 |d::ds,es,_,us,h,h'=>by obtain⟨v,r,e,h1,h2⟩:=h.cons_of;subst e;exact dQ h1 (Iss.append h2 h')
theorem Iss.take:∀{ds:J L}{vs:J V}(n:O),Iss K H ds vs->Iss K H (ds.take n) (vs.take n)
 |[],_,n,h=>by rw[h.nil_of];simpa using eR
 |d::ds,_,0,h=>by simpa using eR
 |d::ds,_,n+1,h=>by obtain⟨v,r,e,h1,h2⟩:=h.cons_of;subst e;exact dQ h1 (Iss.take n h2)
theorem Iss.drop:∀{ds:J L}{vs:J V}(n:O),Iss K H ds vs->Iss K H (ds.drop n) (vs.drop n)
 |[],_,n,h=>by rw[h.nil_of];simpa using eR
 |d::ds,_,0,h=>h
 |d::ds,_,n+1,h=>by obtain⟨v,r,e,h1,h2⟩:=h.cons_of;subst e;exact Iss.drop n h2
theorem Iss.set{d:L}{v:V}(hv:Is K H d v):∀{ds:J L}{vs:J V}(i:O),Iss K H ds vs->Iss K H (ds.set i d) (vs.set i v)
 |[],_,n,h=>by rw[h.nil_of];simpa using eR
 |e::ds,_,0,h=>by obtain⟨u,r,z,h1,h2⟩:=h.cons_of;subst z;exact dQ hv h2
 |e::ds,_,n+1,h=>by obtain⟨u,r,z,h1,h2⟩:=h.cons_of;subst z;exact dQ h1 (Iss.set hv n h2)
theorem Iss.eraseIdx:∀{ds:J L}{vs:J V}(i:O),Iss K H ds vs->Iss K H (ds.eraseIdx i) (vs.eraseIdx i)
 |[],_,n,h=>by rw[h.nil_of];simpa using eR
 |e::ds,_,0,h=>by obtain⟨u,r,z,h1,h2⟩:=h.cons_of;subst z;exact h2
 |e::ds,_,n+1,h=>by obtain⟨u,r,z,h1,h2⟩:=h.cons_of;subst z;exact dQ h1 (Iss.eraseIdx n h2)
theorem Iss.rep{ds:J L}{vs:J V}(h:Iss K H ds vs):∀k:O,Iss K H (L' k ds).flatten (L' k vs).flatten
 |0=>eR
 |k+1=>by rw[ON,ON,OY,OY];exact h.append (Iss.rep h k)
theorem mB:∀(ns:J Z),Iss K H (ns.map FC) (ns.map V.int)
 |[]=>eR
 |_::r=>dQ bP (mB r)
theorem Iss.ofInts:∀{ns:J Z}{vs:J V},Iss K H (ns.map FC) vs->vs=ns.map V.int
 |[],_,h=>h.nil_of
 |n::r,_,h=>by obtain⟨v,t,e,h1,h2⟩:=h.cons_of;rw[e,h1.ofInt,Iss.ofInts h2];rfl
theorem Iss.ofBools:∀{ns:J Qo}{vs:J V},Iss K H (ns.map RB) vs->vs=ns.map V.bl
 |[],_,h=>h.nil_of
 |n::r,_,h=>by obtain⟨v,t,e,h1,h2⟩:=h.cons_of;rw[e,h1.ofBool,Iss.ofBools h2];rfl
theorem Is.isNone{d:L}(h:Is K H d v):(v=.non)↔d=.none:=by
 cases d with
 |none=>simp[h.ofNone]
 |bool b=>simp[h.ofBool]
 |int i=>simp[h.ofInt]
 |str x=>simp[h.ofStr]
 |list ds=>obtain⟨a,xs,e,_⟩:=h.ofLst;simp[e]
 |tuple ds=>obtain⟨a,xs,e,_⟩:=h.ofTup;simp[e]
 |dict _=>unfold Is at h;rcases h with (⟨a,ns,e,_⟩|⟨a,l,e,_⟩)|⟨a,C,dx,fs,e,_⟩ <;> simp[e]
theorem bS{p:J'}(h:H p=S):aw H (upd H p o):=gP h
theorem lK{p:J'}(h:p∈A):del (upd H p o) A=del H A:=by
 funext b;by_cases z:b∈A
 .rw[kq z,kq z]
 .rw[bb z,bb z,aB (by rintro rfl;exact z h)]
theorem lF{p:J'}(a:Ls H A)(hp:H p=S)(h:Iss K (del H A) ds xs):Is K (del (upd H p (.tup xs)) A) (.tuple ds) (.ref p) :=
 kg (by rw[bb (a.new hp)];exact aM) (h.same (aw.del (bS hp)))
theorem oS{p:J'}(a:Ls H A)(hp:H p=S)(h:Iss K (del H A) ds xs):Is K (del (upd H p (.lst xs)) A) (.list ds) (.ref p) :=
 k9 (by rw[bb (a.new hp)];exact aM) (h.same (aw.del (bS hp)))
end
abbrev Ds:=J (F1 L)
variable {gi gs:Ds->Rs (J L)}{ge:Ds->Rs L}{δ:Ds}{cond:Ds->Rs Qo}{tgt:L->F1 Ds}
structure eI(K:Qp)(H:Hp)(A:J J')(δ:Ds)(σ:St):Prop where
 ls:Ls H A
 len:δ.length=σ.length
 get:∀(i:O)(d:L),δ[i]?=Y (Y d)->∃v,σ[i]?=Y (Y v)/\Is K (del H A) d v
theorem eI.same(R:eI K H A δ σ)(s:aw H H'):eI K H' A δ σ :=
 ⟨R.ls.same s,R.len,λi d e=>by obtain⟨v,e1,h⟩:=R.get i d e;exact⟨v,e1,h.same s.del⟩⟩
def ic(K:Qp)(E:XK)(A:J J')(H:Hp)(r:Rs L)(Q:VK):Prop:=match r with
 |.ok d=>∀v H',aw H H'->Is K (del H' A) d v->Q v H'
 |.rz C=>∀H',aw H H'->E (.ref C) S H'
 |.no=>False
def Nj(K:Qp)(E:XK)(A:J J')(H:Hp)(r:Rs (J L))(Q:J V->Hp->Prop):Prop:=match r with
 |.ok d=>∀v H',aw H H'->Iss K (del H' A) d v->Q v H'
 |.rz C=>∀H',aw H H'->E (.ref C) S H'
 |.no=>False
def xE(E:XK)(H:Hp)(r:Rs Qo)(Q:Qo->Hp->Prop):Prop:=match r with
 |.ok d=>∀H',aw H H'->Q d H'
 |.rz C=>∀H',aw H H'->E (.ref C) S H'
 |.no=>False
def eD(K:Qp)(E:XK)(g:Ds->Rs L):TE:=λσ H Q=>∃A δ,eI K H A δ σ/\ic K E A H (g δ) Q
def aD(K:Qp)(E:XK)(g:Ds->Rs (J L)):TA:=λσ H Q=>∃A δ,eI K H A δ σ/\Nj K E A H (g δ) Q
noncomputable def cD(K:Qp)(E:XK)(g:Ds->Rs Qo):TT:=λσ H Q=>∃A δ,eI K H A δ σ/\xE E H (g δ) Q
def PD(X:Cx)(E:XK)(e:Qt)(g:Ds->Rs L):Prop:=PE X e (eD X.K E g)
def PAD(X:Cx)(E:XK)(es:J Qt)(g:Ds->Rs (J L)):Prop:=PA X es (aD X.K E g)/\∀δ ds,g δ=.ok ds->ds.length=es.length
def PCD(X:Cx)(E:XK)(e:Qt)(g:Ds->Rs Qo):Prop:=PT X e (cD X.K E g)
def PWD(X:Cx)(E:XK)(e:Qt)(g:Ds->Rs Qo):Prop:=PW X e (cD X.K E g)
theorem PE.imp{t t':TE}(h:PE X e t)(k:∀σ H Q,t' σ H Q->t σ H Q):PE X e t':=λz8 s σ H Q I q=>h z8 s σ H Q I (k σ H Q q)
theorem PT.imp{t t':TT}(h:PT X e t)(k:∀σ H Q,t' σ H Q->t σ H Q):PT X e t':=λz8 s σ H Q I q=>h z8 s σ H Q I (k σ H Q q)
theorem PW.imp{t t':TT}(h:PW X e t)(k:∀σ H Q,t' σ H Q->t σ H Q):PW X e t':=λw z8 s σ H Q I q=>h w z8 s σ H Q I (k σ H Q q)
theorem PA.imp{e:J Qt}{t t':TA}(h:PA X e t)(k:∀σ H Q,t' σ H Q->t σ H Q):PA X e t':=λp z8 s σ H Q I q=>h p z8 s σ H Q I (k σ H Q q)
theorem PS.imp{e:T7}{t t':TS}(h:PS X e t)(k:∀D σ H,t' D σ H->t D σ H):PS X e t':=λz8 s σ H D I q=>h z8 s σ H D I (k D σ H q)
theorem PSs.imp{e:J T7}{t t':TS}(h:PSs X e t)(k:∀D σ H,t' D σ H->t D σ H):PSs X e t':=λz8 s σ H D I q=>h z8 s σ H D I (k D σ H q)
theorem ic.mono{r:Rs L}{Q:VK}(h:ic K E A H r Q)(s:aw H H1):ic K E A H1 r Q:=by
 cases r with
 |ok d=>exact λv H' s' q=>h v H' (s.trans s') q
 |rz C=>exact λH' s'=>h H' (s.trans s')
 |no=>exact h
theorem xE.mono{r:Rs Qo}{Q:Qo->Hp->Prop}(h:xE E H r Q)(s:aw H H1):xE E H1 r Q:=by
 cases r with
 |ok d=>exact λH' s'=>h H' (s.trans s')
 |rz C=>exact λH' s'=>h H' (s.trans s')
 |no=>exact h
theorem eD.run{g:Ds->Rs L}{Q:VK}(R:eI K H A δ σ)
  (ok:∀d,g δ=.ok d->∀v H',aw H H'->eI K H' A δ σ->Is K (del H' A) d v->Q v H') (rz:∀C,g δ=.rz C->∀H',aw H H'->E (.ref C) S H') (no:g δ=.no->False):eD K E g σ H Q:=by
 refine⟨A,δ,R,?_⟩;cases e:g δ with
 |ok d=>exact λv H' s q=>ok d e v H' s (R.same s) q
 |rz C=>exact λH' s=>rz C e H' s
 |no=>exact no e
theorem aD.run{g:Ds->Rs (J L)}{Q:J V->Hp->Prop}(R:eI K H A δ σ)
  (ok:∀d,g δ=.ok d->∀v H',aw H H'->eI K H' A δ σ->Iss K (del H' A) d v->Q v H') (rz:∀C,g δ=.rz C->∀H',aw H H'->E (.ref C) S H') (no:g δ=.no->False):aD K E g σ H Q:=by
 refine⟨A,δ,R,?_⟩;cases e:g δ with
 |ok d=>exact λv H' s q=>ok d e v H' s (R.same s) q
 |rz C=>exact λH' s=>rz C e H' s
 |no=>exact no e
theorem cD.run{g:Ds->Rs Qo}{Q:Qo->Hp->Prop}(R:eI K H A δ σ)
  (ok:∀d,g δ=.ok d->∀H',aw H H'->eI K H' A δ σ->Q d H') (rz:∀C,g δ=.rz C->∀H',aw H H'->E (.ref C) S H') (no:g δ=.no->False):cD K E g σ H Q:=by
 refine⟨A,δ,R,?_⟩;cases e:g δ with
 |ok d=>exact λH' s=>ok d e H' s (R.same s)
 |rz C=>exact λH' s=>rz C e H' s
 |no=>exact no e
structure DR(X:Cx)(c P:J'):Prop where
 tab:TabOf X.K P (X.env.qual++"<lambda>")
 code:X.env.code=.ref c
 hd:W.CodeHd X.base c P
 bl:∃bm o,X.mg "__builtins__"=Y (.ref bm)/\bm≠builtinsNs/\bm≠mainGlobals/\X.base.get? bm=Y o/\o.cls=.type "module"/\o.dict=Y builtinsNs/\o.data=.plain
theorem mz{a b:Z}{t u:O}{c:GC}:∀{l:J GC},Rc l->Rc (l++[.int a t,.int b u,c])
 |[],_=>by simp[Rc]
 |[_],h=>by simp[Rc]at h
 |[x,y],h=>by cases x <;> cases y <;> (unfold Rc at h;exact h.elim)
 |x::y::z::r,h=>by
  cases x <;> first|(unfold Rc at h;exact h.elim)|skip
  cases y <;> first|(unfold Rc at h;exact h.elim)|skip
  unfold Rc at h;show Rc (_::_::_::(r++_));unfold Rc;exact mz h
theorem qF{pos:Ts}{a b:Z}{t u:O}{c f:GC}:∀{l:J GC},Rc l->codeAmong pos (l++[.int a t,.int b u,c])=Y f->codeAmong pos l=Y f\/f=c
 |[],_,e=>by
  dsimp[OF,codeAmong]at e;split at e
  .cases e;exact .inr rfl
  .cases e
 |[_],h,_=>by simp[Rc]at h
 |[x,y],h,_=>by cases x <;> cases y <;> (unfold Rc at h;exact h.elim)
 |x::y::z::r,h,e=>by
  cases x <;> first|(unfold Rc at h;exact h.elim)|skip
  cases y <;> first|(unfold Rc at h;exact h.elim)|skip
  unfold Rc at h;dsimp[P4,codeAmong]at e ⊢;split at e
  .rename_i q;rw[HL q];exact .inl e
  .rename_i q;rw[I' q];exact qF h e
def Nd(qual:Qn)(mk:J'->GC->Rv):TE:=λ_ H Q=>∀f c' a H',H f=S->H' f=Y (.frz (mk c' a) (.own f))->aw H H' ->
 (∃o vs t,H' c'=Y (.frz o (.own c'))/\o.data=.fields vs/\vs[1]?=Y (.str qual t))->Q (.ref f) H'
theorem JO{P:J'}{g:J (Qn×J')}(T:DR X c P)(x:closureFor scope X.env=pure g)(A:defaultsOf params X.env=([],[]):=by rfl) :
  PE X (.Lambda params body scope pos) (Nd (X.env.qual++"<lambda>") λc' f=>W.kla_obj "<lambda>" (X.env.qual++"<lambda>") params body scope g ((X.mg "__name__").getD .none) c' f):=by
 intro z8 s σ H Q I h;have i:=I.tab P _ T.tab;obtain⟨ps,B,Dd,hc⟩:=I.hok P _ i;obtain⟨bm,ob,A2,b2,b3,R,b5,b6,b7⟩:=T.bl;have D':∀b o,X.base.get? b=Y o->b≠P:=λb o e z=>by have:=(I.bs b o e).2;rw[z,i]at this;cases this
 have C:s.heap.BuiltinsAt X.mg P:=⟨bm,ob,A2,b2,b3,D' _ _ R,I.bk _ _ R,b5,b6,b7⟩
 have U:s.heap.Ns mainGlobals X.mg:=I.mod.glob.keeps I.bk;have M:mainGlobals≠P:=by obtain⟨o,es,ep,e,_⟩:=I.mod.glob;exact D' _ _ e
 have A4:=T.hd.keeps I.bk;have fin:∀{H1:Hp}{h1:QD}{tk:O}{o:Rv},Inv X z8 σ H1 {s with heap:=h1,toks:=tk}->o.isFreed=false->Inv X z8 σ (upd H1 h1.objs.size (.frz o (.own h1.objs.size))) {s with heap:=h1.push o,toks:=tk}:=λ{H1 h1 tk o} B' j =>
  B'.laid (h':=h1.push o) (t':=tk) (λb u q=>N5 _ q) (ND _) ⟨NN _ j,o,NN _ j⟩
 refine W.kla_eval A ?_;cases hf:codeAmong pos ps.toList with
 |some N =>
  obtain⟨c',o,vs,t,rfl,D,d1,d2⟩:=hc pos N hf;refine W.kla_makeFunctionHit (mg:=X.mg) x I.ok.glob U T.code A4 B Dd hf C λf h' tk hk hsz=>?_
  have n:H h'.objs.size=none:=I.hok.fresh hsz;exact⟨.ref _,_,fin (I.kept (h':=h') (t':=tk) hk) rfl,rfl,h _ c' f _ n aM (gP n) ⟨o,vs,t,by rw[aB (aI D n)];exact D,d1,d2⟩⟩
 |none =>
  refine W.kla_makeFunction (mg:=X.mg) x I.ok.glob U T.code A4 B Dd hf M C λc' f h' tk E l EE F G=>?_
  obtain⟨c₂,oc,vs,t,e2,K,hd,hv⟩:=F;cases e2;have hn:H c'=none:=I.hok.fresh l;have cP:c'≠P:=λz=>by rw[z,i]at hn;cases hn
  have a:∀b u,H b=Y u->b≠c':=λb u e z=>by rw[z,hn]at e;cases e
  have B':Inv X z8 σ (upd H c' (.frz oc (.own c'))) {s with heap:=h',toks:=tk}:=by
   refine I.step (g':=s.gens) (d':=s.drawn) (ch:=[]) (λ_ z=>nomatch z) (λb o _ _ _ e n=>?_) (λb o _ _ _ e n=>⟨o.slots,?_⟩) (λb o _ e n=>?_) (λb o _ e=>?_) (λb xs e=>?_) (λb o u e=>?_) (λb qs e=>?_) (λm hm=>?_) (λb u e=>?_) I.bare
   .exact E b o (λz=>by rw[z,i]at n;cases n) e
   .exact E b o (λz=>by rw[z,i]at n;cases n) e
   .rw[aB (NJ (NX (NI e) l))];exact n
   .by_cases z:b=P
    .subst z;exact⟨_,G⟩
    .exact⟨o,E b o z e⟩
   .rw[aB (a b _ e)];exact e
   .rw[aB (a b _ e)];exact e
   .rw[aB (a b _ e)];exact e
   .obtain⟨o,es,ep,ho,r⟩:=hm;refine⟨o,es,ep,E _ o (λz=>?_) ho,r⟩;have:=I.free;rw[z,i]at this;cases this
   .by_cases z:b=c'
    .subst z;rw[aM]at e;cases e;exact⟨K,oc,K⟩
    .rw[aB z]at e;by_cases y:b=P
     .subst y;rw[i]at e;cases e;refine⟨ps++#[rawInt pos.line,rawInt pos.col,.ref c'],G,?_,λpos' N e=>?_⟩
      .rw[TV];exact mz Dd
      .rw[TV]at e;rcases qF Dd e with e|rfl
       .obtain⟨c2,o,vs,t,rfl,q,d⟩:=hc pos' N e;exact⟨c2,o,vs,t,rfl,by rw[aB (a _ _ q)];exact q,d⟩
       .exact⟨c',oc,vs,t,rfl,aM,hd,hv⟩
     .refine (I.hok b u e).stay (λp v w q=>E p v (λy'=>?_) q) (λp q=>?_) (λp xs q=>?_) λp o' u' q=>?_
      .subst y';rcases w with w|w
       .exact y w.symm
       .rw[i]at w;cases w
      .rw[aB (a p _ q)];exact q
      .rw[aB (a p _ q)];exact q
      .rw[aB (a p _ q)];exact q
  have n:upd H c' (.frz oc (.own c')) h'.objs.size=none:=B'.hok.fresh (ND _);have n0:H h'.objs.size=none:=I.hok.fresh (OG l (Q0 EE));exact⟨.ref _,_,fin B' rfl,rfl,h _ c' f _ n0 aM ((gP hn).trans (gP n)) ⟨oc,vs,t,by rw[aB (aI aM n)];exact aM,hd,hv⟩⟩
abbrev Cx.in1(X:Cx):Cx:={X with A:=X.A.in1}
section
theorem Inv.in1(I:Inv X z8 σ H s):Inv X.in1 z8 σ H s :=
 ⟨⟨I.ok.mod,I.ok.kind,I.ok.glob,I.ok.blt,I.ok.above,I.ok.inj,I.ok.has,I.ok.cab,I.ok.hd,I.ok.frames,I.ok.stk,I.ok.exf,I.ok.bs,I.ok.bsz,I.ok.noex,I.ok.exfs,I.ok.funs,I.ok.frf⟩,I.os,I.bare,I.base,I.loc,I.cell,I.free,I.freeC,I.pin,I.hok,I.len,I.tab⟩
theorem Inv.of1(I:Inv X.in1 z8 σ H s):Inv X z8 σ H s :=
 ⟨⟨I.ok.mod,I.ok.kind,I.ok.glob,I.ok.blt,I.ok.above,I.ok.inj,I.ok.has,I.ok.cab,I.ok.hd,I.ok.frames,I.ok.stk,I.ok.exf,I.ok.bs,I.ok.bsz,I.ok.noex,I.ok.exfs,I.ok.funs,I.ok.frf⟩,I.os,I.bare,I.base,I.loc,I.cell,I.free,I.freeC,I.pin,I.hok,I.len,I.tab⟩
end
noncomputable def bst(lt:O->O->Qo):O->O
 |0=>0
 |j+1=>if lt (j+1) (bst lt j) then j+1 else bst lt j
theorem gU(lt:O->O->Qo):∀j,bst lt j<=j
 |0=>ND _
 |j+1=>by
  unfold bst;split
  .exact ND _
  .exact Ux (gU lt j)
section
variable {q l:J'}{Φ:Hp->Prop}{lt:O->O->Qo}{R:Tz->LN->Prop}
theorem Inv.turnPin{ps:J (J'×Rv)}{o o':Rv}{t':O}(I:Inv X ((it,o)::ps) σ H s)(k:∀b u,b≠it->s.heap.get? b=Y u->h'.get? b=Y u)(a:h'.get? it=Y o')
  (h1:X.s₀.heap.objs.size<=it) (f:∀p∈X.pn++ps,p.1≠it) (hc:∀v,o'.data≠.cell v):Inv X ((it,o')::ps) σ H {s with heap:=h',toks:=t'}:=by
 obtain⟨e,n,ne,g,d⟩:=I.pin (it,o) (NF _ (.head _));have h:Inv X ps σ H s:=I.pins_of λp hp=>I.pin p (NF _ (.tail _ hp))
 have B':Inv X ps σ H {s with heap:=h',toks:=t'}:=h.turned k n ne (.inr h1) (λx c hl z=>by obtain⟨v,o2,e2,d2⟩:=I.cell x c hl;subst z;rw[e]at e2;cases e2;exact d v d2) f
 refine B'.pins_of λp hp=>?_
 rcases NB.mp hp with rfl|hp
 .exact⟨a,n,ne,g,hc⟩
 .exact B'.pin p (NF _ hp)
theorem Inv.swap{ps:J (J'×Rv)}{a b:J'×Rv}(I:Inv X (a::b::ps) σ H s):Inv X (b::a::ps) σ H s:=I.pins_of λp hp=>I.pin p (NF _ (by
 rcases NB.mp hp with rfl|hp
 .exact .tail _ (.head _)
 .rcases NB.mp hp with rfl|hp
  .exact .head _
  .exact .tail _ (.tail _ hp)))
end
def ae(i:O):Ds->Rs PyData:=λδ=>match δ[i]? with
 |some (Y d)=>.ok d
 |_=>.no
def gC(d:L):Ds->Rs PyData:=λ_=>.ok d
def g1(f:L->F1 L)(a:Ds->Rs L):Ds->Rs PyData:=λδ=>(a δ).bind λx=>Rs.dS (f x)
def g2(f:L->L->F1 L)(a b:Ds->Rs L):Ds->Rs PyData:=λδ=>(a δ).bind λx=>(b δ).bind λy=>Rs.dS (f x y)
def gF(f:J L->F1 L)(as:Ds->Rs (J L)):Ds->Rs PyData:=λδ=>(as δ).bind λds=>Rs.dS (f ds)
def ah:Ds->Rs (J L):=λ_=>.ok []
def af(a:Ds->Rs L)(r:Ds->Rs (J L)):Ds->Rs (J L):=λδ=>(a δ).bind λx=>(r δ).bind λxs=>.ok (x::xs)
def cQ(as:Ds->Rs (J L)):Ds->Rs PyData:=λδ=>(as δ).bind λds=>.ok (.tuple ds)
def iY(as:Ds->Rs (J L)):Ds->Rs PyData:=λδ=>(as δ).bind λds=>.ok (.list ds)
def ao(gf:J L->Rs L)(as:Ds->Rs (J L)):Ds->Rs PyData:=λδ=>(as δ).bind gf
def truth:L->Rs Qo
 |.bool b=>.ok b
 |_=>.no
def gT(a:Ds->Rs L):Ds->Rs Bool:=λδ=>(a δ).bind truth
def dD(a:Ds->Rs Qo):Ds->Rs Bool:=λδ=>(a δ).bind λb=>.ok (!b)
def rH(a b:Ds->Rs Qo):Ds->Rs Bool:=λδ=>(a δ).bind λx=>if x=true then b δ else .ok false
def cOr(a b:Ds->Rs Qo):Ds->Rs Bool:=λδ=>(a δ).bind λx=>if x=true then .ok true else b δ
def F5(a b:Ds->Rs L):Ds->Rs PyData:=λδ=>(a δ).bind λx=>(truth x).bind λt=>if t=true then b δ else .ok (.bool false)
def gOr(a b:Ds->Rs L):Ds->Rs PyData:=λδ=>(a δ).bind λx=>(truth x).bind λt=>if t=true then .ok (.bool true) else b δ
def MU(a:Ds->Rs L):Ds->Rs PyData:=λδ=>(a δ).bind λx=>(truth x).bind λt=>.ok (.bool (!t))
def gIf(c:Ds->Rs Qo)(a b:Ds->Rs L):Ds->Rs PyData:=λδ=>(c δ).bind λx=>if x=true then a δ else b δ
section
variable {a b c:Qt}{ga gb gc:Ds->Rs L}
theorem JX(i:O)(c:X.N[i]?=Y x)(hv:Vis X.env.scope x)(hd:(x==("__debug__":Qn))=false)
  (a:(x==("__classdict__":Qn))=false):PD X E (.Name x pos) (ae i) :=
 (gQ c hv hd a).imp λσ H Q b=>by
  obtain⟨A,δ,R,o⟩:=b;unfold ae at o;split at o
  .rename_i d e;obtain⟨v,e1,h⟩:=R.get i d e;exact⟨v,e1,o v H (aw.refl H) h⟩
  .exact o.elim
theorem Dj{d:L}(h:PE X e (tC v))(hi:∀K H,Is K H d v):PD X E e (gC d):=h.imp λσ H Q a=>(by obtain⟨A,δ,R,o⟩:=a;exact o v H (aw.refl H) (hi _ _))
theorem Kc{i j pos}:PD X E (.Constant (.int i) j pos) ↑i:=Dj ji λ_ _=>bP
theorem LW{i j pos}:PD X E (.Constant (.bool i) j pos) (gC (.bool i)):=Dj LK λ_ _=>is_bool
theorem J6{j pos}:PD X E (.Constant .none j pos) (gC .none):=Dj Lj λ_ _=>is_none
theorem Kd{i j pos}:PD X E (.Constant (.str i) j pos) (gC (.str i)):=Dj Lp λ_ _=>Ez
theorem Gb{i:Z}(hm:∃t,X.mg x=Y (.int i t))(a:Gl X x)(hd:(x==("__debug__":Qn))=false):PD X E (.Name x pos) ↑i:=by obtain⟨t,hm⟩:=hm;exact Dj (HS (v:=.int i) a hm ⟨_,rfl⟩ hd) λ_ _=>bP
def OpD(K:Qp)(f:L->L->F1 L)(r:R2):Prop :=
 ∀(d1 d2 d:L)(x y:V)(H:Hp)(A:J J')(Q:VK),f d1 d2=Y d->Ls H A->Is K (del H A) d1 x->Is K (del H A) d2 y->(∀v H',aw H H'->Is K (del H' A) d v->Q v H')->r x y H Q
theorem g2.read{r:R2}{Q:VK}(b:OpD K f r)(R:eI K H A δ σ)(o:ic K E A H (g2 f ga gb δ) Q) :
  tOp r (eD K E ga) (eD K E gb) σ H Q:=by
 unfold g2 at o;refine eD.run R (λd1 e1 v H1 a c h1=>?_) (λC e1 H' s'=>?_) (λe1=>?_)
 .rw[e1]at o;refine eD.run c (λd2 e2 u H2 s2 R2 h2=>?_) (λC e2 H' s'=>?_) (λe2=>?_)
  .dsimp[Rs.ag,e2]at o;cases e3:f d1 d2 with
   |none=>rw[e3]at o;exact o.elim
   |some d =>rw[e3]at o;exact b d1 d2 d v u H2 A Q e3 R2.ls (h1.same s2.del) h2 λw H' s q=>o w H' (a.trans (s2.trans s)) q
  .dsimp[Rs.ag,e2,Rs.dH]at o;exact o H' (a.trans s')
  .dsimp[Rs.ag,e2,Rs.bR]at o;exact o
 .rw[e1]at o;exact o H' s'
 .rw[e1]at o;exact o
theorem jl{r:R2}(g:OpD X.K f r)(ha:PD X E a ga)(h:PD X E b gb)(mk:∀{ta tb:TE},PE X a ta->PE X b tb->PE X e (tOp r ta tb)):PD X E e (g2 f ga gb) :=
 (mk ha h).imp λσ H Q c=>(by obtain⟨A,δ,R,o⟩:=c;exact g2.read g R o)
theorem kB{r:R2}(g:OpD X.K f r)(ha:PD X E a ga)(i:PD X E b gb)(mk:∀{ta tb:TE},PE X a ta->PE X b tb->PT X e (EC (tOp r ta tb))):PCD X E e (gT (g2 f ga gb)) :=
 (mk ha i).imp λσ H Q c=>by
  obtain⟨A,δ,R,o⟩:=c;refine g2.read (Q:=λx H'=>∃k,x=.bl k/\Q k H') g R ?_;unfold gT at o;cases q:g2 f ga gb δ with
  |no=>rw[q]at o;exact o
  |rz C=>rw[q]at o;exact o
  |ok d =>
   rw[q]at o;cases d with
   |bool k=>exact λv H' s h=>⟨k,h.ofBool,o H' s⟩
   |_=>exact o.elim
noncomputable def dI(f:Z->Z->F1 L):L->L->F1 L
 |.int i,.int j=>f i j
 |_,_=>S
theorem Af{f:Z->Z->F1 L}{d1 d2 d:L}(h:dI f d1 d2=Y d):∃i j,d1=.int i/\d2=.int j/\f i j=Y d:=by
 unfold dI at h;split at h
 .exact⟨_,_,rfl,rfl,h⟩
 .cases h
def fI:=dI λi j=>⇑(i-j)
def q9:=dI λi j=>if 0<j then ⇑(i % j) else S
def xV:=dI λi j=>if 0<j/\j<1073741824 then ⇑(i / j) else S
def dLt:=dI λi j=>Y (.bool (decide (i<j)))
def dLe:=dI λi j=>Y (.bool (decide (i<=j)))
def dGt:=dI λi j=>Y (.bool (decide (j<i)))
def dGe:=dI λi j=>Y (.bool (decide (j<=i)))
theorem jv{f:Z->Z->L}{v:Z->Z->V}(hv:∀i j K H,Is K H (f i j) (v i j)):OpD K (dI λi j=>Y (f i j)) (rI0 v):=λd1 d2 d x y H A Q e hA h1 h2 k=>by obtain⟨i,j,rfl,rfl,e⟩:=Af e;cases e;exact⟨i,j,h1.ofInt,h2.ofInt,k _ H (aw.refl H) (hv _ _ _ _)⟩
theorem IQ{C a:Z->Z->Prop}[∀i j,Decidable (a i j)]{f:Z->Z->L}{v:Z->Z->V}(hc:∀i j,a i j->C i j)(hv:∀i j K H,Is K H (f i j) (v i j)):OpD K (dI λi j=>if a i j then Y (f i j) else S) (rI C v):=λd1 d2 d x y H A Q e hA h1 h2 k=>by
 obtain⟨i,j,rfl,rfl,e2⟩:=Af e;by_cases z:a i j
 .dsimp[HL z]at e2;cases e2;exact⟨i,j,h1.ofInt,h2.ofInt,hc i j z,k _ H (aw.refl H) (hv _ _ _ _)⟩
 .dsimp[I' z]at e2;cases e2
theorem KW(ha:PD X E a ga)(c:PD X E b gb):PD X E (.BinOp a .Sub b pos) (g2 fI ga gb):=jl (jv λ_ _ _ _=>bP) ha c (fg Jx)
theorem KO(ha:PD X E a ga)(c:PD X E b gb):PD X E (.BinOp a .Mod b pos) (g2 q9 ga gb):=jl (IQ (λ_ _ h=>h) λ_ _ _ _=>bP) ha c (fg qm)
theorem Ld(ha:PD X E a ga)(c:PD X E b gb):PD X E (.BinOp a .FloorDiv b pos) (g2 xV ga gb):=jl (IQ (C:=LI) (λ_ _ h=>h) λ_ _ _ _=>bP) ha c (fg GP)
theorem LF(ha:PD X E a ga)(c:PD X E b gb):PD X E (.Compare a [.LtE] [b] pos) (g2 dLe ga gb):=jl (jv λ_ _ _ _=>is_bool) ha c λh1 h2=>uR xq h1 h2 (kj _)
theorem JS(ha:PD X E a ga)(c:PD X E b gb):PCD X E (.Compare a [.Lt] [b] pos) (gT (g2 dLt ga gb)):=kB (jv λ_ _ _ _=>is_bool) ha c λh1 h2=>jB IS h1 h2 (kj _)
theorem Jg(ha:PD X E a ga)(c:PD X E b gb):PCD X E (.Compare a [.LtE] [b] pos) (gT (g2 dLe ga gb)):=kB (jv λ_ _ _ _=>is_bool) ha c λh1 h2=>jB xq h1 h2 (kj _)
theorem KZ(ha:PD X E a ga)(c:PD X E b gb):PCD X E (.Compare a [.Gt] [b] pos) (gT (g2 dGt ga gb)):=kB (jv λ_ _ _ _=>is_bool) ha c λh1 h2=>jB Jc h1 h2 (kj _)
open PySem.SeqAt in
def dEq(x y:L):F1 PyData:=if aY x&&aY y&&shaped x&&shaped y then Y (.bool (Rb x y)) else S
open PySem.SeqAt in
def dNe(x y:L):F1 PyData:=if aY x&&aY y&&shaped x&&shaped y then Y (.bool (!Rb x y)) else S
open PySem.SeqAt in
theorem Ee:OpD K dEq (λx y H Q=>∃d e,IsD K H d x/\IsD K H e y/\shaped d=true/\shaped e=true/\Q (.bl (Rb d e)) H):=λd1 d2 d x y H A Q e hA h1 h2 k=>by
 unfold dEq at e;split at e
 .rename_i z;dsimp[NG]at z;cases e;exact⟨d1,d2,(h1.same ay).isd z.1.1.1,(h2.same ay).isd z.1.1.2,z.1.2,z.2,k _ H (aw.refl H) is_bool⟩
 .cases e
open PySem.SeqAt in
theorem Jd:OpD K dNe (λx y H Q=>∃d e,IsD K H d x/\IsD K H e y/\shaped d=true/\shaped e=true/\Q (.bl (!Rb d e)) H):=λd1 d2 d x y H A Q e hA h1 h2 k=>by
 unfold dNe at e;split at e
 .rename_i z;dsimp[NG]at z;cases e;exact⟨d1,d2,(h1.same ay).isd z.1.1.1,(h2.same ay).isd z.1.1.2,z.1.2,z.2,k _ H (aw.refl H) is_bool⟩
 .cases e
theorem Mf(c:X.A.units+64<cLine)(ha:PD X E a ga)(e:PD X E b gb):PD X E (.Compare a [.Eq] [b] pos) (g2 dEq ga gb):=jl Ee ha e λh1 h2=>uR (zE c) h1 h2 (kj _)
theorem KQ(c:X.A.units+64<cLine)(ha:PD X E a ga)(e:PD X E b gb):PCD X E (.Compare a [.Eq] [b] pos) (gT (g2 dEq ga gb)):=kB Ee ha e λh1 h2=>jB (zE c) h1 h2 (kj _)
theorem JE(c:X.A.units+64<cLine)(ha:PD X E a ga)(e:PD X E b gb):PCD X E (.Compare a [.NotEq] [b] pos) (gT (g2 dNe ga gb)):=kB Jd ha e λh1 h2=>jB (Jq c) h1 h2 (kj _)
noncomputable def fX:L->Qo
 |.none=>true
 |_=>false
def xB(x:L):F1 PyData:=Y (.bool (fX x))
def iw(x:L):F1 PyData:=Y (.bool (!fX x))
theorem g1.read{tt:(VK)->VK}{f:L->F1 L}{Q:VK}(R:eI K H A δ σ)(o:ic K E A H (g1 f ga δ) Q)
  (b:∀d1 d x H',f d1=Y d->Ls H' A->aw H H'->Is K (del H' A) d1 x->(∀v H2,aw H' H2->Is K (del H2 A) d v->Q v H2)->tt Q x H'):eD K E ga σ H (tt Q):=by
 unfold g1 at o;refine eD.run R (λd1 e1 v H1 a c h1=>?_) (λC e1 H' s'=>?_) (λe1=>?_)
 .dsimp[e1,Rs.ag]at o;cases e3:f d1 with
  |none=>rw[e3]at o;exact o.elim
  |some d=>rw[e3]at o;exact b d1 d v H1 e3 c.ls a h1 λw H' s q=>o w H' (a.trans s) q
 .rw[e1]at o;exact o H' s'
 .rw[e1]at o;exact o
theorem xJ{d:L}(h:Is K H d v):decide (v=.non)=fX d:=by
 by_cases z:v=.non
 .rw[Ql z,h.isNone.mp z];rfl
 .rw[P' z];have:d≠.none:=λq=>z (h.isNone.mpr q)
  cases d <;> first|(cases this rfl)|rfl
theorem Kb{j pos'}(ha:PD X E a ga):PD X E (.Compare a [.Is] [.Constant .none j pos'] pos) (g1 xB ga) :=
 (Eo (Fe ha)).imp λσ H Q ⟨A,δ,R,o⟩=>g1.read (tt:=λQ x H1=>Q (.bl (decide (x=.non))) H1) R o λd1 d x H' e _ _ h k=>by cases e;rw[xJ h];exact k _ H' (aw.refl _) is_bool
theorem vj{t:TE}(h:PT X e (tB t))(k:∀σ H Q,eD X.K E ga σ H Q->t σ H Q):PCD X E e (gT ga):=h.imp λσ H Q ⟨A,δ,R,o⟩=>k σ H _ ⟨A,δ,R,by
 unfold gT at o;cases q:ga δ with
 |no=>rw[q]at o;exact o
 |rz C=>rw[q]at o;exact o
 |ok d =>
  rw[q]at o;cases d with
  |bool c=>exact λv H' s h=>⟨c,h.ofBool,o H' s⟩
  |_=>exact o.elim⟩
theorem Iq(h:PD X E e ga)(a:∀whole,isTrue e X.env whole=(do let v <-whole;standAt e.pos;holding [v] (truthy v))):PCD X E e (gT ga):=vj (Jp h a) λ_ _ _ h=>h
theorem HQ{j pos'}(ha:PD X E a ga):PCD X E (.Compare a [.Is] [.Constant .none j pos'] pos) (gT (g1 xB ga)) :=
 vj (yJ (Fe ha)) λσ H Q ⟨A,δ,R,o⟩=>g1.read (tt:=λQ x H1=>Q (.bl (decide (x=.non))) H1) R o λd1 d x H' e _ _ h k=>by cases e;rw[xJ h];exact k _ H' (aw.refl _) is_bool
theorem Dt{j pos'}(ha:PD X E a ga):PCD X E (.Compare a [.IsNot] [.Constant .none j pos'] pos) (gT (g1 iw ga)) :=
 vj (yJ (GV ha)) λσ H Q ⟨A,δ,R,o⟩=>g1.read (tt:=λQ x H1=>Q (.bl (!decide (x=.non))) H1) R o λd1 d x H' e _ _ h k=>by cases e;rw[xJ h];exact k _ H' (aw.refl _) is_bool
theorem E3{ca:Ds->Rs Qo}{f:Qo->Rs Qo}{Q:Qo->Hp->Prop}{t:Qo->Hp->Prop}(R:eI K H A δ σ)(o:xE E H ((ca δ).bind f) Q)
  (k:∀b H1,aw H H1->eI K H1 A δ σ->xE E H1 (f b) Q->t b H1):cD K E ca σ H t:=by
 refine cD.run R (λb e H1 a c=>?_) (λC e H' s'=>?_) (λe=>?_)
 .rw[e]at o;exact k b H1 a c (xE.mono (show xE E H (f b) Q from o) a)
 .rw[e]at o;exact o H' s'
 .rw[e]at o;exact o
variable {ca cb:Ds->Rs Qo}{rest:J Qt}
theorem Hi(ha:PCD X E a ca):PCD X E (.UnaryOp .Not a pos) (dD ca):=(Jn ha).imp λσ H Q c=>(by obtain⟨A,δ,R,o⟩:=c;exact E3 R o λb H1 s1 R1 o=>o H1 (aw.refl _))
theorem DO(ha:PCD X E a ca):PWD X E (.BoolOp .And [a] pos) ca:=HU ha
theorem HE(ha:PCD X E a ca):PWD X E (.BoolOp .Or [a] pos) ca:=K4 ha
theorem A7(ha:PCD X E a ca)(c:PWD X E (.BoolOp .And (b::rest) pos) cb):PWD X E (.BoolOp .And (a::b::rest) pos) (rH ca cb):=PW.imp (Jv ha c) λσ H Q ⟨A,δ,R,o⟩=>E3 R o λb H1 s1 e o=>by
 cases b with
 |true=>exact⟨A,δ,e,o⟩
 |false=>exact o H1 (aw.refl _)
theorem Dr(ha:PCD X E a ca)(c:PWD X E (.BoolOp .Or (b::rest) pos) cb):PWD X E (.BoolOp .Or (a::b::rest) pos) (cOr ca cb):=PW.imp (Mt ha c) λσ H Q ⟨A,δ,R,o⟩=>E3 R o λb H1 s1 e o=>by
 cases b with
 |false=>exact⟨A,δ,e,o⟩
 |true=>exact o H1 (aw.refl _)
theorem IG(h:PWD X E e ca):PCD X E e ca:=PW.pt h
theorem IW{f:L->Rs L}{Q:VK}{t:VK}(R:eI K H A δ σ)(o:ic K E A H ((ga δ).bind f) Q)
  (k:∀d v H1,aw H H1->eI K H1 A δ σ->Is K (del H1 A) d v->ic K E A H1 (f d) Q->t v H1):eD K E ga σ H t:=by
 refine eD.run R (λd e v H1 a b h1=>?_) (λC e H' s'=>?_) (λe=>?_)
 .rw[e]at o;exact k d v H1 a b h1 (ic.mono (show ic K E A H (f d) Q from o) a)
 .rw[e]at o;exact o H' s'
 .rw[e]at o;exact o
theorem ma{d:L}{f:Qo->Rs L}{Q:VK}(o:ic K E A H ((truth d).bind f) Q):∃t,d=.bool t/\ic K E A H (f t) Q:=by
 cases d with
 |bool t=>exact⟨t,rfl,o⟩
 |_=>exact o.elim
theorem La{op}(ha:PD X E a ga):PD X E (.BoolOp op [a] pos) ga:=K7 ha
theorem JB(ha:PD X E a ga)(c:PD X E (.BoolOp .And (b::rest) pos) gb):PD X E (.BoolOp .And (a::b::rest) pos) (F5 ga gb):=(Ln ha c).imp λσ H Q ⟨A,δ,R,o⟩=>IW R o λd v H1 s1 e h1 o=>by
 obtain⟨t,rfl,o⟩:=ma o;refine⟨t,h1.ofBool,?_⟩;cases t with
 |true=>exact⟨A,δ,e,o⟩
 |false=>exact o _ H1 (aw.refl _) is_bool
theorem LX(ha:PD X E a ga)(c:PD X E (.BoolOp .Or (b::rest) pos) gb):PD X E (.BoolOp .Or (a::b::rest) pos) (gOr ga gb):=(LM ha c).imp λσ H Q ⟨A,δ,R,o⟩=>IW R o λd v H1 s1 e h1 o=>by
 obtain⟨t,rfl,o⟩:=ma o;refine⟨t,h1.ofBool,?_⟩;cases t with
 |false=>exact⟨A,δ,e,o⟩
 |true=>exact o _ H1 (aw.refl _) is_bool
theorem LB(hc:PCD X E c ca)(ha:PD X E a ga)(h:PD X E b gb):PD X E (.IfExp c a b pos) (gIf ca ga gb):=(FO hc ha h).imp λσ H Q f=>by
 obtain⟨A,δ,R,o⟩:=f;unfold gIf at o;refine cD.run R (λt e H1 i g=>?_) (λC e H' s'=>?_) (λe=>?_)
 .rw[e]at o;have o:=ic.mono (show ic X.K E A H (if t=true then ga δ else gb δ) Q from o) i;cases t with
  |true=>exact⟨A,δ,g,o⟩
  |false=>exact⟨A,δ,g,o⟩
 .rw[e]at o;exact o H' s'
 .rw[e]at o;exact o
def jN:L->F1 L
 |.int i=>⇑(-i)
 |_=>S
theorem J1(ha:PD X E a ga):PD X E (.UnaryOp .USub a pos) (g1 jN ga):=(MK Kx ha).imp λσ H Q ⟨A,δ,R,o⟩=>g1.read (tt:=λQ x H1=>∃i,x=.int i/\Q (.int (-i)) H1) R o λd1 d x H' e _ _ h k=>by
 cases d1 with
 |int i=>cases e;exact⟨i,h.ofInt,k _ H' (aw.refl _) bP⟩
 |_=>cases e
theorem F2:PAD X E [] ah:=⟨fO.imp λσ H Q a=>(by obtain⟨A,δ,R,o⟩:=a;exact o [] H (aw.refl _) eR),λδ ds e=>by cases e;rfl⟩
theorem DY(ha:PD X E a ga)(b:PAD X E es gs)(f:starEach (a::es) X.env=(false,eval a X.env)::starEach es X.env):PAD X E (a::es) (af ga gs):=by
 refine⟨(dJ ha b.1 f).imp λσ H Q ⟨A,δ,R,o⟩=>?_,λδ ds e=>?_⟩
 .unfold af at o;refine eD.run R (λd e v H1 c g h1=>?_) (λC e H' s'=>?_) (λe=>?_)
  .dsimp[e,Rs.ag]at o;refine aD.run g (λds e2 vs H2 s2 R2 h2=>?_) (λC e2 H' s'=>?_) (λe2=>?_)
   .dsimp[e2,Rs.ag]at o;exact o _ H2 (c.trans s2) (dQ (h1.same s2.del) h2)
   .dsimp[e2,Rs.dH]at o;exact o H' (c.trans s')
   .dsimp[e2,Rs.bR]at o;exact o
  .dsimp[e,Rs.dH]at o;exact o H' s'
  .dsimp[e,Rs.bR]at o;exact o
 .unfold af at e;cases q:ga δ with
  |ok d =>
   cases q2:gs δ with
   |ok l =>dsimp[q,q2,Rs.ag]at e;cases e;simp[b.2 δ l q2]
   |rz C=>dsimp[q,q2,Rs.ag,Rs.dH]at e;cases e
   |no=>dsimp[q,q2,Rs.ag,Rs.bR]at e;cases e
  |rz C=>dsimp[q,Rs.dH]at e;cases e
  |no=>dsimp[q,Rs.bR]at e;cases e
theorem tH{f:J L->Rs L}{Q:VK}(R:eI K H A δ σ)(o:ic K E A H ((gs δ).bind f) Q)
  (k:∀ds vs H1,gs δ=.ok ds->aw H H1->eI K H1 A δ σ->Iss K (del H1 A) ds vs->ic K E A H1 (f ds) Q->t vs H1):aD K E gs σ H t:=by
 refine aD.run R (λd e v H1 a b h1=>?_) (λC e H' s'=>?_) (λe=>?_)
 .rw[e]at o;exact k d v H1 e a b h1 (ic.mono (show ic K E A H (f d) Q from o) a)
 .rw[e]at o;exact o H' s'
 .rw[e]at o;exact o
theorem K8{x1}(h:PAD X E es gs)(hl:es.length<=1000):PD X E (.Tuple es x1 pos) (cQ gs):=(Kq h.1).imp λσ H Q ⟨A,δ,R,o⟩=>tH R o λds vs H1 e s1 a h1 o=>by have n:=h.2 δ ds e;have m:=h1.length;exact⟨by rw[QI];omega,λp hp=>o _ _ (bS hp) (lF a.ls hp h1)⟩
theorem Kj(h:PAD X E es gs)(hl:es.length<=1000):PD X E (.List es pos) (iY gs):=(zD h.1).imp λσ H Q ⟨A,δ,R,o⟩=>tH R o λds vs H1 e s1 a h1 o=>by have n:=h.2 δ ds e;have m:=h1.length;exact⟨by rw[QI];omega,λp hp=>o _ _ (bS hp) (oS a.ls hp h1)⟩
def spD(K:Qp)(n:O)(gf:J L->Rs L):Sp:=λvs H Q E=>∃A ds,Ls H A/\Iss K (del H A) ds vs/\ds.length=n/\ic K E A H (gf ds) Q
structure jP(P:QS)(w:QY)(K:Qp)(mg:Qn->F1 GC)(base:QD)(k:O)(x:Qn)(n:O)(gf:J L->Rs L):Prop where
 ex:∃f fd ps,iH P w K mg base (CXW P w) k f fd ps (spD K n gf)/\mg x=Y (.ref f)/\S8 K (.ref f)=true/\Binds K fd ps []
theorem Fj:Passes (CXW X.prog X.w) X E0:=λ_ _ _ _ _ _ _ a=>(by obtain⟨_,_,_,_,_,_,h,_⟩:=a;exact h.elim)
theorem HF{k j:O}(D:jP X.prog X.w X.K X.mg X.base k x (e::es).length gf)(h:cO j X.A)(i:Passes (CXW X.prog X.w) X E)(ha:PAD X E (e::es) gs)(l:k<=j)(m:Gl X x)
  (a:(x==("__debug__":Qn))=false) (n:starEach (e::es) X.env=(false,eval e X.env)::starEach es X.env) (b:(backTo pos (starEach es X.env)).any (·.1)=false) :
  PD X E (.Call (.Name x p) (e::es) [] pos) (ao gf gs):=by
 obtain⟨f,fd,ps,F,hm,c,q⟩:=D.ex;refine (zW F (h.mono l) m hm c q .nil i ha.1 a n b).imp λσ H Q g=>?_
 obtain⟨A,δ,R,o⟩:=g;refine tH R o λds vs H1 e s1 r h1 o=>?_
 refine⟨A,ds,r.ls,by simpa using h1,ha.2 δ ds e,o⟩
def FnD(K:Qp)(f:J L->F1 L)(r:J V->Hp->VK->Prop):Prop :=
 ∀(ds:J L)(d:L)(vs:J V)(H:Hp)(A:J J')(Q:VK),f ds=Y d->Ls H A->Iss K (del H A) ds vs->(∀v H',aw H H'->Is K (del H' A) d v->Q v H')->r vs H Q
theorem fZ{r:J V->Hp->VK->Prop}{f:J L->F1 L}(a:FnD X.K f r)(ha:PAD X E es gs)(mk:∀{t:TA},PA X es t->PE X e (tCB r t)):PD X E e (gF f gs) :=
 (mk ha.1).imp λσ H Q ⟨A,δ,R,o⟩=>tH R o λds vs H1 e s1 b h1 o=>by
  cases q:f ds with
  |none=>rw[q]at o;exact o.elim
  |some d=>rw[q]at o;exact a ds d vs H1 A Q q b.ls h1 o
end
section
variable {a b c:Qt}{ga gb gc:Ds->Rs L}
def IK(K:Qp):R2:=λx y H Q=>∃a b xs ys,x=.ref a/\y=.ref b/\SqT K H a xs/\SqT K H b ys/\xs.length+ys.length<=sizeLine /\
 (xs=[]->Q (.ref b) H)/\(xs≠[]->ys=[]->Q (.ref a) H)/\(xs≠[]->ys≠[]->∀p,H p=S->Q (.ref p) (upd H p (.tup (xs++ys))))
theorem GX:OpR X (binaryOp .Add) (IK X.K):=by
 intro z8 s σ H x y v u Q I i j h;obtain⟨a,b,xs,ys,rfl,rfl,ha,l,o,p,q,r⟩:=h;by_cases hx:xs=[]
 .cases i;cases j;obtain⟨vs,t,p1,_⟩:=I.tuple ha;obtain⟨ws,r2,p2,_⟩:=I.tuple l;obtain⟨⟨cls,dd,data,w⟩,m,hc,n,hd⟩:=id p1;obtain⟨⟨cls2,f,data2,g⟩,c,e,n2,hd2⟩:=id p2;simp only at hc hd e hd2;subst hc hd e hd2;have hv:vs=[]:=t.nil_iff.mpr hx;exact Uq ⟨_,m,rfl⟩ ⟨_,c,rfl⟩ T1 U0 F.slot_tuple_add F.entry_tuple_add (F.args_tuple_add_2 _ _)
   (tuple_addW0 a b vs.toArray ws.toArray n n2 dd f w g (by simp[hv])) ⟨m,c,⟨.ref b,H,I,rfl,p hx⟩⟩
 .exact Gk z8 s σ H _ _ v u Q I i j ⟨a,b,xs,ys,rfl,rfl,ha,l,hx,o,q hx,r hx⟩
def bq:L->L->F1 L
 |.int i,.int j=>⇑(i+j)
 |.list x,.list y=>if x.length+y.length<=1000000 then ↥(x++y) else S
 |.tuple x,.tuple y=>if x.length+y.length<=1000000 then Y (.tuple (x++y)) else S
 |_,_=>S
theorem F7:OpD K bq (λx y H Q=>rI0 (λi j=>.int (i+j)) x y H Q\/MG x y H Q\/IK K x y H Q):=λd1 d2 d x y H A Q e g h1 h2 k=>by
 unfold bq at e;split at e
 .cases e;exact .inl ⟨_,_,h1.ofInt,h2.ofInt,k _ H (aw.refl _) bP⟩
 .rename_i l1 l2;split at e
  .rename_i h;cases e;obtain⟨p,xs,rfl,hp,a⟩:=h1.ofLst;obtain⟨q,ys,rfl,f,b⟩:=h2.ofLst;refine .inr (.inl ⟨p,q,xs,ys,rfl,rfl,ay _ _ hp,ay _ _ f,by rw[a.length,b.length,QI];omega,λr c=>k _ _ (bS c) (oS g c (a.append b))⟩)
  .cases e
 .rename_i l1 l2;split at e
  .rename_i h;cases e;obtain⟨p,xs,rfl,hp,a⟩:=h1.ofTup;obtain⟨q,ys,rfl,f,b⟩:=h2.ofTup;refine .inr (.inr ⟨p,q,xs,ys,rfl,rfl,SqT.of (ay _ _ hp),SqT.of (ay _ _ f),by rw[a.length,b.length,QI];omega,λz=>?_,λ_ z=>?_,λ_ _ r c=>k _ _ (bS c) (lF g c (a.append b))⟩)
   .subst z;have:l1=[]:=Pk.mp (by rw[<-a.length];rfl);subst this;exact k _ H (aw.refl _) (kg f b)
   .subst z;have:l2=[]:=Pk.mp (by rw[<-b.length];rfl);subst this;rw[OL]at k;exact k _ H (aw.refl _) (kg hp a)
  .cases e
 .cases e
theorem Kl(ha:PD X E a ga)(c:PD X E b gb):PD X E (.BinOp a .Add b pos) (g2 bq ga gb):=jl F7 ha c (fg (mG.or (KC.or GX)))
def dIx:L->L->F1 L
 |.list x,.int i=>atI x i
 |.tuple x,.int i=>atI x i
 |_,_=>S
theorem Bc{i:Z}{d:L}(h:Iss K H ds vs)(e:atI ds i=Y d):∃v,atI vs i=Y v/\Is K H d v:=by
 unfold atI at e ⊢;rw[h.length];cases q:ixN ds.length i with
 |none=>rw[q]at e;cases e
 |some j=>rw[q]at e;exact h.getD e
theorem K2:OpD K dIx (λx y H Q=>ME K x y H Q\/Mb K x y H Q):=λd1 d2 d x y H A Q e hA h1 h2 k=>by
 unfold dIx at e;split at e
 .obtain⟨p,xs,rfl,hp,a⟩:=h1.ofLst;obtain⟨v,ev,hv⟩:=Bc a e;exact .inl ⟨p,xs,_,v,rfl,h2.ofInt,SqL.of (ay _ _ hp),ev,k _ H (aw.refl _) hv⟩
 .obtain⟨p,xs,rfl,hp,a⟩:=h1.ofTup;obtain⟨v,ev,hv⟩:=Bc a e;exact .inr ⟨p,xs,_,v,rfl,h2.ofInt,SqT.of (ay _ _ hp),ev,k _ H (aw.refl _) hv⟩
 .cases e
theorem LH(ha:PD X E a ga)(c:PD X E b gb)(e:u2 b):PD X E (.Subscript a b pos) (g2 dIx ga gb):=jl K2 ha c λh1 h2=>A1 (oQ.or KP) h1 h2 e
def bp:J L->F1 L
 |[.list x]=>⇑x.length
 |[.tuple x]=>⇑x.length
 |_=>S
theorem lg{d:L}(h:Iss K H [d] vs):∃v,vs=[v]/\Is K H d v:=by obtain⟨v,r,rfl,h1,h2⟩:=h.cons_of;rw[h2.nil_of];exact⟨v,rfl,h1⟩
theorem Dh{d e:L}(h:Iss K H [d,e] vs):∃v u,vs=[v,u]/\Is K H d v/\Is K H e u:=by obtain⟨v,r,rfl,h1,h2⟩:=h.cons_of;obtain⟨u,rfl,a⟩:=lg h2;exact⟨v,u,rfl,h1,a⟩
theorem GR:FnD K bp (λxs H Q=>∃p ys,xs=[.ref p]/\(SqL K H p ys\/SqT K H p ys)/\Q (.int ys.length) H):=λds d vs H A Q e hA h k=>by
 unfold bp at e;split at e
 .cases e;obtain⟨v,rfl,a⟩:=lg h;obtain⟨p,xs,rfl,hp,b⟩:=a.ofLst;exact⟨p,xs,rfl,.inl (SqL.of (ay _ _ hp)),k _ H (aw.refl _) (by rw[b.length];exact bP)⟩
 .cases e;obtain⟨v,rfl,a⟩:=lg h;obtain⟨p,xs,rfl,hp,b⟩:=a.ofTup;exact⟨p,xs,rfl,.inr (SqT.of (ay _ _ hp)),k _ H (aw.refl _) (by rw[b.length];exact bP)⟩
 .cases e
theorem JH(hm:X.mg "len"=S)(ha:PAD X E (a::es) gs)(c:Gl X "len")(e:starEach (a::es) X.env=(false,eval a X.env)::starEach es X.env)(b:(backTo pos (starEach es X.env)).any (·.1)=false) :
 PD X E (.Call (.Name "len" p) (a::es) [] pos) (gF bp gs):=fZ GR ha λh=>fo jt c hm PySem.boot_len h #[1] #[1] e b
theorem Fw:bootBuiltins "int"=Y (.type "int"):=by decide +kernel
theorem wB:bootBuiltins "tuple"=Y (.type "tuple"):=by decide +kernel
theorem zY:bootBuiltins "list"=Y (.type "list"):=by decide +kernel
theorem BU:bootBuiltins "isinstance"=Y (.builtin "isinstance"):=by decide +kernel
theorem Jz:bootBuiltins "all"=Y (.builtin "all"):=by decide +kernel
theorem Jl:bootBuiltins "sum"=Y (.builtin "sum"):=by decide +kernel
theorem JF:bootBuiltins "min"=Y (.builtin "min"):=by decide +kernel
theorem KA:bootBuiltins "max"=Y (.builtin "max"):=by decide +kernel
noncomputable def iC:J L->F1 (J Z)
 |[]=>Y []
 |.int i::r=>(iC r).map (i::·)
 |_::_=>S
theorem fL:∀{ds:J L}{ns:J Z},iC ds=Y ns->ds=ns.map FC
 |[],_,h=>by cases h;rfl
 |.int i::r,ns,h=>by
  unfold iC at h;cases q:iC r with
  |none=>rw[q]at h;cases h
  |some l=>rw[q]at h;cases h;rw[fL q];rfl
 |.none::_,_,h=>by cases h
 |.bool _::_,_,h=>by cases h
 |.str _::_,_,h=>by cases h
 |.list _::_,_,h=>by cases h
 |.tuple _::_,_,h=>by cases h
 |.dict _::_,_,h=>by cases h
theorem i9:∀(ns:J Z),iC (ns.map FC)=Y ns
 |[]=>rfl
 |n::r=>by rw[N2];unfold iC;rw[i9 r];rfl
def iG:J L->F1 (J Qo)
 |[]=>Y []
 |.bool i::r=>(iG r).map (i::·)
 |_::_=>S
theorem nO:∀{ds:J L}{ns:J Qo},iG ds=Y ns->ds=ns.map RB
 |[],_,h=>by cases h;rfl
 |.bool i::r,ns,h=>by
  unfold iG at h;cases q:iG r with
  |none=>rw[q]at h;cases h
  |some l=>rw[q]at h;cases h;rw[nO q];rfl
 |.none::_,_,h=>by cases h
 |.int _::_,_,h=>by cases h
 |.str _::_,_,h=>by cases h
 |.list _::_,_,h=>by cases h
 |.tuple _::_,_,h=>by cases h
 |.dict _::_,_,h=>by cases h
theorem pN:∀(ns:J Qo),iG (ns.map RB)=Y ns
 |[]=>rfl
 |n::r=>by rw[N2];unfold iG;rw[pN r];rfl
def uS:J L->F1 L
 |[.list x]=>(iC x).map λns=>.int ns.sum
 |_=>S
def ye:J L->F1 L
 |[.list x]=>(iG x).map λns=>.bool (ns.all id)
 |_=>S
theorem G5:FnD K uS (λxs H Q=>∃(a:J')(ns:J Z),xs=[.ref a]/\SqL K H a (ns.map V.int)/\Q (.int ns.sum) H):=λds d vs H A Q e hA h k=>by
 unfold uS at e;split at e
 .rename_i x;cases q:iC x with
  |none=>rw[q]at e;cases e
  |some ns =>rw[q]at e;cases e;obtain⟨v,rfl,c⟩:=lg h;obtain⟨p,xs,rfl,hp,b⟩:=c.ofLst;rw[fL q]at b;rw[b.ofInts]at hp;exact⟨p,ns,rfl,SqL.of (ay _ _ hp),k _ H (aw.refl _) bP⟩
 .cases e
theorem FV:FnD K ye (λxs H Q=>∃(a:J')(ns:J Qo),xs=[.ref a]/\SqL K H a (ns.map V.bl)/\Q (.bl (ns.all id)) H):=λds d vs H A Q e hA h k=>by
 unfold ye at e;split at e
 .rename_i x;cases q:iG x with
  |none=>rw[q]at e;cases e
  |some ns =>rw[q]at e;cases e;obtain⟨v,rfl,c⟩:=lg h;obtain⟨p,xs,rfl,hp,b⟩:=c.ofLst;rw[nO q]at b;rw[b.ofBools]at hp;exact⟨p,ns,rfl,SqL.of (ay _ _ hp),k _ H (aw.refl _) is_bool⟩
 .cases e
theorem Jr(hc:X.calm=true)(hm:X.mg "sum"=S)(ha:PAD X E (a::es) gs)(c:Gl X "sum")(e:starEach (a::es) X.env=(false,eval a X.env)::starEach es X.env)(b:(backTo pos (starEach es X.env)).any (·.1)=false) :
 PD X E (.Call (.Name "sum" p) (a::es) [] pos) (gF uS gs):=fZ G5 ha λh=>fo (Fq hc) c hm Jl h #[1] #[1] e b
theorem Kw(hc:X.calm=true)(hm:X.mg "all"=S)(ha:PAD X E (a::es) gs)(c:Gl X "all")(e:starEach (a::es) X.env=(false,eval a X.env)::starEach es X.env)(b:(backTo pos (starEach es X.env)).any (·.1)=false) :
 PD X E (.Call (.Name "all" p) (a::es) [] pos) (gF ye gs):=fZ FV ha λh=>fo (Dz hc) c hm Jz h #[1] #[1] e b
def jH:J L->F1 L
 |[.int i,.int j]=>⇑(if j<i then j else i)
 |_=>S
def su:J L->F1 L
 |[.int i,.int j]=>⇑(if j>i then j else i)
 |_=>S
theorem EW:FnD K jH (λxs H Q=>∃i j,xs=[.int i,.int j]/\Q (.int (if j<i then j else i)) H):=λds d vs H A Q e hA h k=>by
 unfold jH at e;split at e
 .cases e;obtain⟨v,u,rfl,h1,h2⟩:=Dh h;rw[h1.ofInt,h2.ofInt];exact⟨_,_,rfl,k _ H (aw.refl _) bP⟩
 .cases e
theorem Dv:FnD K su (λxs H Q=>∃i j,xs=[.int i,.int j]/\Q (.int (if j>i then j else i)) H):=λds d vs H A Q e hA h k=>by
 unfold su at e;split at e
 .cases e;obtain⟨v,u,rfl,h1,h2⟩:=Dh h;rw[h1.ofInt,h2.ofInt];exact⟨_,_,rfl,k _ H (aw.refl _) bP⟩
 .cases e
theorem FU(hc:X.calm=true)(hm:X.mg "min"=S)(ha:PAD X E (a::es) gs)(c:Gl X "min")(e:starEach (a::es) X.env=(false,eval a X.env)::starEach es X.env)(b:(backTo pos (starEach es X.env)).any (·.1)=false) :
 PD X E (.Call (.Name "min" p) (a::es) [] pos) (gF jH gs):=fZ EW ha λh=>fo (B4 hc) c hm JF h #[1] #[1] e b
theorem GZ(hc:X.calm=true)(hm:X.mg "max"=S)(ha:PAD X E (a::es) gs)(c:Gl X "max")(e:starEach (a::es) X.env=(false,eval a X.env)::starEach es X.env)(b:(backTo pos (starEach es X.env)).any (·.1)=false) :
 PD X E (.Call (.Name "max" p) (a::es) [] pos) (gF su gs):=fZ Dv ha λh=>fo (BX hc) c hm KA h #[1] #[1] e b
def oz:J L->F1 L
 |[.int i]=>⇑i
 |[.bool k]=>⇑(if k then 1 else 0)
 |_=>S
theorem GS:FnD K oz (λxs H Q=>(∃i,xs=[.int i]/\Q (.int i) H)\/∃k,xs=[.bl k]/\Q (.int (if k then 1 else 0)) H):=λds d vs H A Q e hA h k=>by
 unfold oz at e;split at e
 .cases e;obtain⟨v,rfl,h1⟩:=lg h;rw[h1.ofInt];exact .inl ⟨_,rfl,k _ H (aw.refl _) bP⟩
 .cases e;obtain⟨v,rfl,h1⟩:=lg h;rw[h1.ofBool];exact .inr ⟨_,rfl,k _ H (aw.refl _) bP⟩
 .cases e
theorem FE(hm:X.mg "int"=S)(ha:PAD X E (a::es) gs)(c:Gl X "int")(e:starEach (a::es) X.env=(false,eval a X.env)::starEach es X.env)(b:(backTo pos (starEach es X.env)).any (·.1)=false) :
 PD X E (.Call (.Name "int" p) (a::es) [] pos) (gF oz gs):=fZ GS ha λh=>sy CK c hm Fw h #[1] #[1] e b
def jR:J L->F1 L
 |[.list x]=>Y (.tuple x)
 |[.tuple x]=>Y (.tuple x)
 |_=>S
theorem Bm:FnD K jR (λxs H Q=>∃p ys,xs=[.ref p]/\((SqL K H p ys/\∀l,H l=S->Q (.ref l) (upd H l (.tup ys)))\/(SqT K H p ys/\Q (.ref p) H))):=λds d vs H A Q e c h k=>by
 unfold jR at e;split at e
 .cases e;obtain⟨v,rfl,a⟩:=lg h;obtain⟨p,xs,rfl,hp,b⟩:=a.ofLst;exact⟨p,xs,rfl,.inl ⟨SqL.of (ay _ _ hp),λl hl=>k _ _ (bS hl) (lF c hl b)⟩⟩
 .cases e;obtain⟨v,rfl,a⟩:=lg h;obtain⟨p,xs,rfl,hp,b⟩:=a.ofTup;exact⟨p,xs,rfl,.inr ⟨SqT.of (ay _ _ hp),k _ H (aw.refl _) (kg hp b)⟩⟩
 .cases e
theorem yq(hm:X.mg "tuple"=S)(ha:PAD X E (a::es) gs)(c:Gl X "tuple")(e:starEach (a::es) X.env=(false,eval a X.env)::starEach es X.env)(b:(backTo pos (starEach es X.env)).any (·.1)=false) :
 PD X E (.Call (.Name "tuple" p) (a::es) [] pos) (gF jR gs):=fZ Bm ha λh=>sy qW c hm wB h #[1] #[1] e b
def fF(T:RI)(d:L):F1 PyData:=if aY d then Y (.bool (uc d T)) else S
theorem Bw{T:Qn}{b:RI}{c:Ts}(hm:X.mg "isinstance"=S)(f:X.mg T=S)(q:bootBuiltins T=Y (.type b))(r:b∈["bool", "int", "list", "tuple"])(ha:PD X E a ga)
  (s:Gl X "isinstance") (g:Gl X T) (hn:T≠"__name__") (i:(T==("__debug__":Qn))=false) (n:starEach [a,.Name T c] X.env=(false,eval a X.env)::starEach [.Name T c] X.env)
  (j:starEach [.Name T c] X.env=(false,eval (.Name T c) X.env)::starEach [] X.env) (l:(backTo pos (starEach [.Name T c] X.env)).any (·.1)=false) :
  PD X E (.Call (.Name "isinstance" p) [a,.Name T c] [] pos) (g1 (fF b) ga):=by
 refine (fo xp s hm BU (dJ ha (dJ (Ht (v:=.ty b) g f q rfl hn i) fO j) n) #[1] #[1] n l).imp λσ H Q m=>?_
 obtain⟨A,δ,R,o⟩:=m;refine g1.read (tt:=λQ x H1=>∃d v T,[x,V.ty b]=[v,.ty T]/\IsD X.K H1 d v/\T∈["bool", "int", "list", "tuple"]/\Q (.bl (uc d T)) H1) R o λd1 d x H' e _ _ h k=>?_
 unfold fF at e;split at e
 .rename_i z;cases e;exact⟨d1,x,b,rfl,(h.same ay).isd z,r,k _ H' (aw.refl _) is_bool⟩
 .cases e
end
def yp(K:Qp)(B':It)(ds:J L)(G:Hp):Prop:=∀(H1:Hp)(B:J J'),aw G H1->Ls H1 B->(∀b∈B,G b=S) ->
 (∀i,i<ds.length->B'.go i H1)/\B'.stop ds.length H1/\∀i x H2,i<ds.length->B'.yld i H1 x H2->aw H1 H2/\∃d,ds[i]?=Y d/\Is K (del H2 B) d x
def outI(K:Qp)(E:XK)(A:J J')(H:Hp)(r:Rs (J L))(R:It->Hp->Prop):Prop:=match r with
 |.ok ds=>∀B' H',aw H H'->yp K B' ds (del H' A)->R B' H'
 |.rz C=>∀H',aw H H'->E (.ref C) S H'
 |.no=>False
def iD(K:Qp)(E:XK)(g:Ds->Rs (J L)):TI:=λσ H R=>∃A δ,eI K H A δ σ/\outI K E A H (g δ) R
def PID(X:Cx)(E:XK)(tg iter:Qt)(g:Ds->Rs (J L)):Prop:=PI X tg iter (iD X.K E g)
theorem PI.imp{it:Qt}{t t':TI}(h:PI X tg it t)(k:∀σ H R,t' σ H R->t σ H R):PI X tg it t':=λz8 s σ H R I q=>h z8 s σ H R I (k σ H R q)
theorem PI.or{it:Qt}{t t':TI}(h:PI X tg it t)(h':PI X tg it t'):PI X tg it (λσ H R=>t σ H R\/t' σ H R):=λz8 s σ H R I q=>q.elim (h z8 s σ H R I) (h' z8 s σ H R I)
section
variable {a:Qt}{ga:Ds->Rs L}
def AE:L->Rs (J L)
 |.list ds=>.ok ds
 |.tuple ds=>.ok ds
 |_=>.no
theorem oG(s:aw G H1)(hB:∀b∈B,G b=S):aw G (del H1 B):=λb o e=>by rw[bb (λz=>by rw[hB b z]at e;cases e)];exact s b o e
theorem Bp{p:J'}(hp:G p=Y (.lst xs))(h:Iss K G ds xs):yp K (Itl K p) ds G:=λH1 B s _ hB=>by have hl:=h.length;have a:SqL K H1 p xs:=SqL.of (s _ _ hp);refine⟨λi hi=>⟨xs,xs[i]'⋯,a,My _⟩,⟨xs,a,⋯⟩,λi x H2 hi y=>?_⟩;obtain⟨rfl,y⟩:=y;obtain⟨d,e,hd⟩:=h.get (y xs a);exact⟨aw.refl _,d,e,hd.same (oG s hB)⟩
theorem DM{p:J'}(hp:G p=Y (.tup xs))(h:Iss K G ds xs):yp K (Itt K p) ds G:=λH1 B s _ hB=>by have hl:=h.length;have a:SqT K H1 p xs:=SqT.of (s _ _ hp);refine⟨λi hi=>⟨xs,xs[i]'⋯,a,My _⟩,⟨xs,a,⋯⟩,λi x H2 hi y=>?_⟩;obtain⟨rfl,y⟩:=y;obtain⟨d,e,hd⟩:=h.get (y xs a);exact⟨aw.refl _,d,e,hd.same (oG s hB)⟩
def bx(g:Ds->Rs L):Ds->Rs (J L):=λδ=>(g δ).bind AE
theorem HH(h:PD X E a ga):PID X E tg a (bx ga):=(PI.or (Gu h) (KJ h)).imp λσ H R b=>by
 obtain⟨A,δ,c,o⟩:=b;unfold bx at o;cases q:ga δ with
 |no=>rw[q]at o;exact o.elim
 |rz C=>rw[q]at o;exact .inl (eD.run c (λd e=>by rw[q]at e;cases e) (λi e H' s=>by rw[q]at e;cases e;exact o H' s) (λe=>by rw[q]at e;cases e))
 |ok d =>
  rw[q]at o;cases d with
  |list ds =>refine .inl (eD.run c (λd e v H1 f j h1=>?_) (λi e=>by rw[q]at e;cases e) (λe=>by rw[q]at e;cases e));rw[q]at e;cases e;obtain⟨p,xs,rfl,hp,g⟩:=h1.ofLst;exact⟨p,rfl,⟨xs,SqL.of (ay _ _ hp)⟩,o _ H1 f (Bp hp g)⟩
  |tuple ds =>refine .inr (eD.run c (λd e v H1 f j h1=>?_) (λi e=>by rw[q]at e;cases e) (λe=>by rw[q]at e;cases e));rw[q]at e;cases e;obtain⟨p,xs,rfl,hp,g⟩:=h1.ofTup;exact⟨p,rfl,⟨xs,SqT.of (ay _ _ hp)⟩,o _ H1 f (DM hp g)⟩
  |_=>exact o.elim
noncomputable def bF(lo:Z)(n:O):J PyData:=(M' n).map λ(i:O)=>FC (lo+(i:Z))
theorem cL(lo:Z)(n:O):(bF lo n).length=n:=by simp[bF]
theorem qg{lo:Z}{n:O}:yp K (Itr lo n) (bF lo n) G:=λH1 B s _ hB=>by refine⟨λi hi=>by rw[cL]at hi;exact hi,by rw[cL];exact ND _,λi x H2 hi y=>?_⟩;obtain⟨rfl,rfl⟩:=y;rw[cL]at hi;exact⟨aw.refl _,_,by simp[bF,hi],bP⟩
def Fv:J L->Rs (J L)
 |[.int j]=>if -(2 ^ 62)<=j/\j<2 ^ 62 then .ok (bF 0 j.toNat) else .no
 |_=>.no
def DX:J L->Rs (J L)
 |[.int i,.int j]=>if -(2 ^ 62)<=i/\i<2 ^ 62/\-(2 ^ 62)<=j/\j<2 ^ 62 then .ok (bF i (j-i).toNat) else .no
 |_=>.no
def dG(g:Ds->Rs (J L)):Ds->Rs (J L):=λδ=>(g δ).bind Fv
def AV(g:Ds->Rs (J L)):Ds->Rs (J L):=λδ=>(g δ).bind DX
theorem ug{f:J L->Rs (J L)}{R:It->Hp->Prop}(b:eI K H A δ σ)(o:outI K E A H ((gs δ).bind f) R)
  (k:∀ds vs H1,gs δ=.ok ds->aw H H1->eI K H1 A δ σ->Iss K (del H1 A) ds vs->outI K E A H1 (f ds) R->t vs H1):aD K E gs σ H t:=by
 refine aD.run b (λd e v H1 a c h1=>?_) (λC e H' s'=>?_) (λe=>?_)
 .rw[e]at o;refine k d v H1 e a c h1 ?_;have o:outI K E A H (f d) R:=o;cases q:f d with
  |ok ds=>rw[q]at o;exact λB' H' s j=>o B' H' (a.trans s) j
  |rz C=>rw[q]at o;exact λH' s=>o H' (a.trans s)
  |no=>rw[q]at o;exact o
 .rw[e]at o;exact o H' s'
 .rw[e]at o;exact o
theorem yk(hm:X.mg "range"=S)(ha:PAD X E [a] gs)(b:Gl X "range")(c:starEach [a] X.env=[(false,eval a X.env)]) :
  PID X E tg (.Call (.Name "range" p) [a] [] pos) (dG gs):=(Cc b hm ha.1 c).imp λσ H R ⟨A,δ,Rp,o⟩=>ug Rp o λds vs H1 e s1 R1 h1 o=>by
 unfold Fv at o;split at o
 .split at o
  .rename_i z;obtain⟨v,rfl,h⟩:=lg h1;rw[h.ofInt];exact⟨_,rfl,z.1,z.2,o _ H1 (aw.refl _) qg⟩
  .exact o.elim
 .exact o.elim
theorem yC{b:Qt}(hm:X.mg "range"=S)(ha:PAD X E [a,b] gs)(f:Gl X "range")(g:starEach [a,b] X.env=[(false,eval a X.env),(false,eval b X.env)])(c:starEach [b] X.env=[(false,eval b X.env)]) :
  PID X E tg (.Call (.Name "range" p) [a,b] [] pos) (AV gs):=(Bq f hm ha.1 g c).imp λσ H R ⟨A,δ,Rp,o⟩=>ug Rp o λds vs H1 e s1 R1 h1 o=>by
 unfold DX at o;split at o
 .split at o
  .rename_i z;obtain⟨v,u,rfl,h,h'⟩:=Dh h1;rw[h.ofInt,h'.ofInt];exact⟨_,_,rfl,z,o _ H1 (aw.refl _) qg⟩
  .exact o.elim
 .exact o.elim
def TgD(K:Qp)(n0 n:O)(tgt:L->F1 Ds)(g:TG):Prop:=∀(d:L)(v:V)(σ a:St)(H:Hp)(A:J J')(Q:St->Hp->Prop)(own:Ds),σ.length=n0->a.length=n->Ls H A->Is K (del H A) d v->tgt d=Y own ->
 own.length=n/\((∀vs:St,vs.length=n->(∀(i:O) e,own[i]?=Y (Y e)->∃u,vs[i]?=Y (Y u)/\Is K (del H A) e u)->Q (σ++vs) H)->g v (σ++a) H Q)
def aF:L->F1 Ds:=λd=>Y [Y d]
theorem FK:TgD K n0 1 aF (kX n0):=λd v σ a H A Q own h1 h2 hA hd e=>by
 cases e;refine⟨rfl,λk=>?_⟩;unfold kX;subst h1;rw[set_own σ S v a h2];refine k _ rfl λi e z=>?_
 match i,z with
 |0,z=>cases z;exact⟨v,rfl,hd⟩
def eG(cond:Ds->Rs Qo)(elt:Ds->Rs L)(tgt:L->F1 Ds)(δ:Ds):J L->Rs (J L)
 |[]=>.ok []
 |d::r=>match tgt d with
  |none=>.no
  |some own=>(cond (δ++own)).calm.bind λb=>if b=true then (elt (δ++own)).calm.bind λx=>(eG cond elt tgt δ r).bind λxs=>.ok (x::xs) else eG cond elt tgt δ r
def aO(n0:O)(src:Ds->Rs (J L))(cond:Ds->Rs Qo)(elt:Ds->Rs L)(tgt:L->F1 Ds):Ds->Rs (J L):=λδ=>if δ.length=n0 then (src δ).bind λds=>if ds.length<=1000000 then eG cond elt tgt δ ds else .no else .no
def aZ:Ds->Rs Bool:=λ_=>.ok true
def Mr(K:Qp)(E:XK)(A:J J')(H:Hp)(r:Rs (J L))(Q:VK):Prop:=match r with
 |.ok ds=>∀a xs H',H a=S->aw H H'->H' a=Y (.lst xs)->Iss K (del H' (a::A)) ds xs->Q (.ref a) H'
 |.rz C=>∀H',aw H H'->E (.ref C) S H'
 |.no=>False
def lD(K:Qp)(E:XK)(g:Ds->Rs (J L)):TE:=λσ H Q=>∃A δ,eI K H A δ σ/\Mr K E A H (g δ) Q
def PLD(X:Cx)(E:XK)(e:Qt)(g:Ds->Rs (J L)):Prop:=PE X e (lD X.K E g)
def gL(g:Ds->Rs (J L)):Ds->Rs PyData:=λδ=>(g δ).bind λds=>.ok (.list ds)
theorem sS{a:J'}:aw (del H (a::A)) (del H A):=λb o e=>by obtain⟨z,e⟩:=df e;rw[bb (λq=>z (N0 _ q))];exact e
theorem KL{g:Ds->Rs (J L)}(h:PLD X E e g):PD X E e (gL g):=PE.imp h λσ H Q ⟨A,δ,R,o⟩=>⟨A,δ,R,by
 unfold gL at o;cases q:g δ with
 |no=>rw[q]at o;exact o
 |rz C=>rw[q]at o;exact o
 |ok ds =>rw[q]at o;intro a xs H' hn s hl hi;exact o _ H' s (k9 (by rw[bb (R.ls.new hn)];exact hl) (hi.same sS))⟩
theorem G7(h:PAD X E es gs)(hl:es.length<=1000):PLD X E (.List es pos) gs:=(zD h.1).imp λσ H Q a=>by
 obtain⟨A,δ,R,o⟩:=a;refine aD.run R (λds e vs H1 c R1 h1=>?_) (λC e H' s'=>by rw[e]at o;exact o H' s') (λe=>by rw[e]at o;exact o);rw[e]at o;have n:=h.2 δ ds e;have m:=h1.length;refine⟨by rw[QI];omega,λp hp=>o p vs _ (c.free hp) (c.trans (bS hp)) aM (h1.same ?_)⟩;refine λb o e=>?_
 obtain⟨z,e⟩:=df e;have:b≠p:=aI e hp;rw[bb (by simp[this,z]),aB this];exact e
theorem DC{own:J Qn}{tt:TT}(hT:TgD K n0 own.length tgt g)(U:∀σ H Q,cD K E0 cond σ H Q->tt σ H Q) :
  ∀σ H Q,lD K E (aO n0 gi cond ge tgt) σ H Q->tLC own.length (iD K E gi) g tt (eD K E0 ge) σ H Q:=by
 intro σ H Q ⟨A,δ,R,o⟩;unfold aO at o;by_cases hn0:δ.length=n0
 case neg=>rw[I' hn0]at o;exact o.elim
 rw[HL hn0]at o;have X:σ.length=n0:=by rw[<-R.len];exact hn0
 refine⟨A,δ,R,?_⟩;cases q:gi δ with
 |no=>rw[q]at o;exact o
 |rz C=>rw[q]at o;exact o
 |ok ds =>
  rw[q]at o;have o:Mr K E A H (if ds.length<=1000000 then eG cond ge tgt δ ds else .no) Q:=o;by_cases hz:ds.length<=1000000
  case neg=>rw[I' hz]at o;exact o.elim
  rw[HL hz]at o;intro B' H1 A4 hJ D s;have D':=R.same A4;have nD:D∉A:=D'.ls.new s;cases qo:eG cond ge tgt δ ds with
  |rz C =>
   exfalso;have:∀l,eG cond ge tgt δ l≠.rz C:=by
    intro l
    induction l with
    |nil=>intro z;cases z
    |cons d r ih =>
     intro z;unfold eG at z;split at z
     .cases z
     .rename_i h _;cases a:cond (δ++h) with
      |ok b =>
       dsimp[a,Rs.fU,Rs.ag]at z;split at z
       .cases j:ge (δ++h) with
        |ok x =>
         dsimp[j,Rs.fU,Rs.ag]at z;cases n:eG cond ge tgt δ r with
         |ok l=>dsimp[n,Rs.ag]at z;cases z
         |rz C'=>dsimp[n,Rs.dH]at z;cases z;exact ih n
         |no=>dsimp[n,Rs.bR]at z;cases z
        |rz C'=>dsimp[j,Rs.calm,Rs.bR]at z;cases z
        |no=>dsimp[j,Rs.calm,Rs.bR]at z;cases z
       .exact ih z
      |rz C'=>dsimp[a,Rs.calm,Rs.bR]at z;cases z
      |no=>dsimp[a,Rs.calm,Rs.bR]at z;cases z
   exact this ds qo
  |no=>rw[qo]at o;exact o.elim
  |ok out =>
   rw[qo]at o;have base:aw (del H1 A) (del (upd H1 D (.lst [])) (D::A)):=λb o e=>by obtain⟨z,e⟩:=df e;have nb:b≠D:=aI e s;rw[bb (by simp[nb,z]),aB nb];exact e
   refine⟨λi m ys H'=>m=ds.length-i/\i<=ds.length/\aw H1 H'/\H' D=Y (.lst ys)/\ys.length<=i/\∃B rest,eG cond ge tgt δ (ds.drop i)=.ok rest/\out=B++rest/\Iss K (del H' (D::A)) B ys,
    ⟨ds.length,by simp,Ot _,bS s,aM,ND _,[],out,qo,rfl,eR⟩,?_⟩
   rintro i m ys H' ⟨rfl,hi,t,hl,hy,B,rest,a,j,n⟩
   refine⟨hl,?_⟩;have sG:aw (del H1 A) H':=ay.trans t;have F:∀b∈D::A,(del H1 A) b=none:=λb G=>by
    rcases NB.mp G with z|z
    .rw[z,bb nD];exact s
    .exact kq z
   obtain⟨jg,js,jy⟩:=hJ H' (D::A) sG (λb G=>by
    rcases NB.mp G with z|z
    .exact⟨_,by rw[z];exact hl,rfl⟩
    .exact (D'.ls.same t) b z) F
   by_cases hlt:i<ds.length
   .refine .inr ⟨jg i hlt,λx H2 A2 I y=>?_⟩;obtain⟨s2,d,ed,hd⟩:=jy i x H2 hlt y;have edr:ds.drop i=d::ds.drop (i+1):=by
     rw[OA hlt];have:ds[i]=d:=by have:=My hlt;rw[this]at ed;exact N4 ed
     rw[this]
    rw[edr]at a;unfold eG at a;cases et:tgt d with
    |none=>rw[et]at a;cases a
    |some ow =>
     rw[et]at a;have l2:H2 D=Y (.lst ys):=s2 _ _ hl;have Dd:Ls H2 (D::A):=λb G=>by
      rcases NB.mp G with z|z
      .exact⟨_,by rw[z];exact l2,rfl⟩
      .exact (D'.ls.same (t.trans s2)) b z
     obtain⟨hol,hgo⟩:=hT d x σ A2 H2 (D::A) (λf H2=>tt f H2 λb H3 =>
      if b=true then eD K E0 ge f H3 λv M=>M D=Y (.lst ys)/\ys.length<sizeLine/\(∃c,f=σ++c/\c.length=own.length)/\∃m',m' < ds.length-i/\_
      else (∃c,f=σ++c/\c.length=own.length)/\∃m',m' < ds.length-i/\_) ow X I Dd hd et
     refine hgo λvs p N=>?_
     have EE:aw (del H1 A) (del H2 (D::A)):=oG (sG.trans s2) F;have RE:eI K H2 (D::A) (δ++ow) (σ++vs):=by
      refine⟨Dd,by rw[NS,NS,R.len,p,hol],λk e T=>?_⟩;by_cases hk:k<δ.length
      .rw[O6 hk]at T;obtain⟨u,e1,hu⟩:=D'.get k e T;exact⟨u,by rw[O6 (by rw[<-R.len];exact hk)];exact e1,hu.same EE⟩
      .rw[O9 ⋯]at T;obtain⟨u,e1,hu⟩:=N _ e T;exact⟨u,by rw[O9 (by rw[<-R.len];omega),<-R.len];exact e1,hu⟩
     have bad:∀r:Rs Qo,r=.rz 0->r.calm=.no:=λr e=>by rw[e];rfl
     refine U _ _ _ (cD.run RE (λb P H3 w R3=>?_) (λC P=>?_) (λP=>?_))
     .dsimp[P,Rs.fU,Rs.ag]at a;cases b with
      |true =>
       dsimp[QA]at a;refine eD.run R3 (λxd ex v M s4 R4 hv=>?_) (λC ex=>?_) (λex=>?_)
       .dsimp[ex,Rs.fU,Rs.ag]at a;cases cr:eG cond ge tgt δ (ds.drop (i+1)) with
        |ok rs =>
         dsimp[cr,Rs.ag]at a;cases a;have l4:M D=Y (.lst ys):=s4 _ _ (w _ _ l2);have dU:del (upd M D (.lst (ys++[v]))) (D::A)=del M (D::A):=lK (N1);refine⟨l4,by rw[QI];omega,⟨vs,rfl,p⟩,ds.length-(i+1),⋯,rfl,hlt,?_,aM,by simp;omega,B++[xd],rs,cr,by rw[j];simp,?_⟩
         .exact aw.put (((t.trans s2).trans w).trans s4) s
         .rw[dU];exact (n.same (aw.del (s2.trans (w.trans s4)))).append (lP hv)
        |rz C=>dsimp[cr,Rs.dH]at a;cases a
        |no=>dsimp[cr,Rs.bR]at a;cases a
       .dsimp[ex,Rs.calm,Rs.bR]at a;cases a
       .dsimp[ex,Rs.calm,Rs.bR]at a;cases a
      |false =>dsimp[OT,RL]at a;exact⟨⟨vs,rfl,p⟩,ds.length-(i+1),⋯,rfl,hlt,(t.trans s2).trans w,w _ _ l2,⋯,B,rest,a,j,n.same (aw.del (s2.trans w))⟩
     .dsimp[P,Rs.calm,Rs.bR]at a;cases a
     .dsimp[P,Rs.calm,Rs.bR]at a;cases a
   .have e:i=ds.length:=⋯
    subst e;rw[Qg]at a;cases a;rw[OL]at j;subst j;exact .inl ⟨js,o D ys H' (A4.free s) (A4.trans t) hl n⟩
def fT:Qt->J Qn
 |.Name x _=>[x]
 |.Tuple [.Name x _,.Name y _] _ _=>[x,y]
 |_=>[]
def IF(own N:J Qn):J Str:=N.map λx=>bif own.elem x then x++"__" else x
abbrev bk(X:Cx)(tg:Qt)(scope:SO):=blk X (IF (fT tg) X.N) scope (fT tg)
abbrev KY(X:Cx)(tg:Qt)(scope:SO):Bool:=tE X.N (IF (fT tg) X.N) X.env.scope scope (fT tg)
inductive PIf (X:Cx):J Qt->(Ds->Rs Qo)->Prop
 |nil:PIf X [] aZ
 |one {c:Qt} {g:Ds->Rs Qo} (h:PCD X E0 c g):PIf X [c] g
def LY(K:Qp)(ifs:J Qt)(g:Ds->Rs Qo):TT:=match ifs with
 |[]=>IJ
 |_=>cD K E0 g
theorem PIf.pts{g:Ds->Rs Qo}(h:PIf X ifs g):PTs X ifs (LY X.K ifs g):=by
 cases h with
 |nil=>exact .nil
 |one h=>exact .one h
theorem PIf.tt{g:Ds->Rs Qo}(h:PIf X ifs g):∀σ H Q,cD K E0 g σ H Q->LY K ifs g σ H Q:=by
 cases h with
 |nil=>exact λσ H Q a=>(by obtain⟨A,δ,R,o⟩:=a;exact o H (aw.refl _))
 |one h=>exact λ_ _ _ h=>h
theorem D1(hc:X.calm=true)(hi:PID X E tg iter gi)
  (b:TgD X.K n0 (fT tg).length tgt g) (c:∀C s2 H2 fp,PG (bk X tg scope C s2 H2 fp) tg g) (a:∀C s2 H2 fp,PIf (bk X tg scope C s2 H2 fp) ifs cond) (e:∀C s2 H2 fp,PD (bk X tg scope C s2 H2 fp) E0 elt ge)
  (hB:KY X tg scope=true) (f:∀x,foldedSetIterable iter X.env x=pure x):PLD X E (.ListComp elt [⟨tg,iter,ifs,0⟩] scope pos) (aO n0 gi cond ge tgt) :=
 (DT (own:=fT tg) (te:=eD X.K E0 ge) hc hi c (λC s2 H2 fp=>(a C s2 H2 fp).pts) (λC s2 H2 fp=>e C s2 H2 fp) hB f).imp (DC b (PIf.tt (a 0 X.s₀ X.H₀ [])))
def PLS(X:Cx)(E:XK)(i:O)(st:T7)(a:Ds->Rs (J L)):Prop:=PS X st (Cf (lD X.K E a) (kX i))
theorem xl(a:swapsWith (.ListComp elt [⟨tg,iter,ifs,0⟩] scope pos) (Y (.Name x pos')) spos.line X.env=pure true)(hc:X.calm=true)(e:X.N.Nodup)(hi:PID X E tg iter gi)
  (f:TgD X.K n0 (fT tg).length tgt g) (j:∀C s2 H2 fp,PG (bk X tg scope C s2 H2 fp) tg g) (c:∀C s2 H2 fp,PIf (bk X tg scope C s2 H2 fp) ifs cond) (l:∀C s2 H2 fp,PD (bk X tg scope C s2 H2 fp) E0 elt ge)
  (b:X.N[i]?=Y x) (m:Loc X.env.scope x) (hB:KY X tg scope=true) (n:∀x,foldedSetIterable iter X.env x=pure x) (o:X.fn x=true\/X.env.scope.names.lookup x=Y .local) :
  PLS X E i (.Assign [.Name x pos'] (.ListComp elt [⟨tg,iter,ifs,0⟩] scope pos) spos) (aO n0 gi cond ge tgt) :=
 PS.imp (wM (own:=fT tg) (te:=eD X.K E0 ge) hc e b m a hi j (λC s2 H2 fp=>(c C s2 H2 fp).pts) (λC s2 H2 fp=>l C s2 H2 fp) hB n o) λD σ H h=>DC f (PIf.tt (c 0 X.s₀ X.H₀ [])) σ H _ h
end
inductive Sr where
 |nx (δ:Ds)
 |rt (d:L)
 |rz (C:J')
 |bk (δ:Ds)
 |ct (δ:Ds)
 |no
def iU(K:Qp)(G:Hp):L->HO->Prop
 |.list ds,.lst xs=>Iss K G ds xs
 |.dict kvs,o=>Hu kvs o
 |_,_=>False
theorem iU.same{G':Hp}{d:L}(h:iU K G d o)(s:aw G G'):iU K G' d o:=by
 unfold iU at h ⊢;split at h
 .exact Iss.same s h
 .exact h
 .exact h.elim
theorem iU.is{d:L}(h:iU K G d o)(ha:G a=Y o):Is K G d (.ref a):=by
 unfold iU at h;split at h
 .exact k9 ha h
 .unfold Is;exact .inl (.inr ⟨a,_,rfl,h,ha⟩)
 .exact h.elim
theorem iU.lst(h:iU K G (.list ds) o):∃xs,o=.lst xs/\Iss K G ds xs:=by
 unfold iU at h;split at h
 .rename_i e;cases e;exact⟨_,rfl,h⟩
 .rename_i e;cases e
 .exact h.elim
structure bA(K:Qp)(H0:Hp)(A0:J J')(H:Hp)(A:J J')(EE:J O)(δ:Ds)(σ:St):Prop where
 same:aw H0 H
 ls0:Ls H0 A0
 new:∀a∈A,H0 a=S
 ls:Ls H A
 len:δ.length=σ.length
 pl:∀(i:O) d,i∉EE->δ[i]?=Y (Y d)->∃v,σ[i]?=Y (Y v)/\Is K (del H (A++A0)) d v
 own:∀(i:O) d,i∈EE->δ[i]?=Y (Y d)->∃a o d',σ[i]?=Y (Y (.ref a))/\a∈A/\H a=Y o/\d=d'/\iU K (del H (A++A0)) d' o
 inj:∀(i j:O) d e a,i∈EE->j∈EE->δ[i]?=Y (Y d)->δ[j]?=Y (Y e)->σ[i]?=Y (Y (.ref a))->σ[j]?=Y (Y (.ref a))->i=j
def mask(EE:J O)(δ:Ds):Ds:=if EE=[] then δ else δ.mapIdx λi d=>if i∈EE then S else d
theorem eK(δ:Ds):mask [] δ=δ:=by simp[mask]
theorem EN{d:L}(h:(mask EE δ)[i]?=Y (Y d)):i∉EE/\δ[i]?=Y (Y d):=by
 unfold mask at h;split at h
 .rename_i z;subst z;exact⟨by simp,h⟩
 .rw[O3]at h;cases q:δ[i]? with
  |none=>rw[q]at h;cases h
  |some x =>
   rw[q]at h;dsimp[Oh,F1.some.injEq]at h;by_cases z:i∈EE
   .rw[HL z]at h;cases h
   .rw[I' z]at h;exact⟨z,by rw[h]⟩
theorem vS:(mask EE δ).length=δ.length:=by unfold mask;split <;> simp
theorem qD:aw (del H (A++B)) (del H B):=λb o e=>by obtain⟨z,e⟩:=df e;rw[bb (λq=>z (NF _ q))];exact e
section
variable {H0:Hp}{A0:J J'}
theorem bA.lsA(R:bA K H0 A0 H A EE δ σ):Ls H (A++A0):=λa h=>(NZ.mp h).elim (R.ls a) λz=>(R.ls0.same R.same) a z
theorem bA.step(R:bA K H0 A0 H A EE δ σ)(s:aw H H1):bA K H0 A0 H1 A EE δ σ where
 same:=R.same.trans s
 ls0:=R.ls0
 new:=R.new
 ls:=R.ls.same s
 len:=R.len
 pl:=λi d h e=>by obtain⟨v,e1,h1⟩:=R.pl i d h e;exact⟨v,e1,h1.same s.del⟩
 own:=λi d h e=>by obtain⟨a,xs,ds,e1,h1,h2,b,c⟩:=R.own i d h e;exact⟨a,xs,ds,e1,h1,s _ _ h2,b,c.same s.del⟩
 inj:=R.inj
theorem bA.apart(R:bA K H0 A0 H A EE δ σ)(h:a∈A):a∉A0:=λz=>by obtain⟨xs,e,_⟩:=R.ls0 a z;rw[R.new a h]at e;cases e
theorem bA.ownL(R:bA K H0 A0 H A EE δ σ)(h:i∈EE)(e:δ[i]?=Y ↥ds):∃a xs b,σ[i]?=Y (Y (.ref a))/\a∈A/\H a=Y (.lst xs)/\Sm ds=.list b/\Iss K (del H (A++A0)) b xs:=by obtain⟨a,o,d',e1,h1,h2,c,f⟩:=R.own i _ h e;subst c;obtain⟨xs,rfl,g⟩:=f.lst;exact⟨a,xs,ds,e1,h1,h2,rfl,g⟩
theorem bA.full(R:bA K H0 A0 H A EE δ σ):eI K H A0 δ σ where
 ls:=R.ls0.same R.same
 len:=R.len
 get:=λi d e=>by
  by_cases h:i∈EE
  .obtain⟨a,xs,ds,e1,h1,h2,b,c⟩:=R.own i d h e;subst b;exact⟨_,e1,(c.same qD).is (by rw[bb (R.apart h1)];exact h2)⟩
  .obtain⟨v,e1,h1⟩:=R.pl i d h e;exact⟨v,e1,h1.same qD⟩
theorem bA.part(R:bA K H0 A0 H A EE δ σ):eI K H (A++A0) (mask EE δ) σ where
 ls:=R.lsA
 len:=by rw[vS];exact R.len
 get:=λi d e=>by obtain⟨h,e⟩:=EN e;exact R.pl i d h e
theorem get_set{l:J α}{j:O}{x y:α}(h:(l.set i x)[j]?=Y y):(i=j/\y=x)\/(i≠j/\l[j]?=Y y):=by
 by_cases z:i=j
 .subst z;rw[J.getElem?_set_self']at h;cases q:l[i]? with
  |none=>rw[q]at h;cases h
  |some w=>rw[q]at h;simp at h;exact .inl ⟨rfl,h.symm⟩
 .rw[NW z]at h;exact .inr ⟨z,h⟩
theorem jf{l:J α}{j:O}{x y:α}(hn:i≠j)(h:l[j]?=Y y):(l.set i x)[j]?=Y y:=by rw[NW hn];exact h
theorem bA.set{d:L}(R:bA K H0 A0 H A EE δ σ)(hi:i∉EE)(hl:i<δ.length)(h:Is K (del H (A++A0)) d v):bA K H0 A0 H A EE (δ.set i (Y d)) (σ.set i (Y v)) where
 same:=R.same
 ls0:=R.ls0
 new:=R.new
 ls:=R.ls
 len:=by simp[R.len]
 pl:=λj e b q=>by
  rcases get_set q with⟨z,q⟩|⟨z,q⟩
  .cases q;subst z;exact⟨v,by rw[O4 (by rw[<-R.len];exact hl)],h⟩
  .obtain⟨u,e1,h1⟩:=R.pl j e b q;exact⟨u,jf z e1,h1⟩
 own:=λj e b q=>by
  rcases get_set q with⟨z,q⟩|⟨z,q⟩
  .subst z;exact Qr b hi
  .obtain⟨a,xs,ds,e1,h1⟩:=R.own j e b q;exact⟨a,xs,ds,jf z e1,h1⟩
 inj:=λj k d' e a b c f g p1 p2=>by
  have n1:i≠j:=λz=>hi (z▸b)
  have n2:i≠k:=λz=>hi (z▸c)
  rw[NW n1]at f p1;rw[NW n2]at g p2;exact R.inj j k d' e a b c f g p1 p2
theorem bA.setOwn(R:bA K H0 A0 H A EE δ σ)(hi:i∈EE)(hl:i<δ.length)(hn:H a=S)(s:aw H H1)(ha:H1 a=Y (.lst xs))(h:Iss K (del H1 (a::(A++A0))) ds xs) :
  bA K H0 A0 H1 (a::A) EE (δ.set i ↥ds) (σ.set i (Y (.ref a))) where
 same:=R.same.trans s
 ls0:=R.ls0
 new:=λb m=>by
  rcases NB.mp m with z|z
  .rw[z];exact R.same.free hn
  .exact R.new b z
 ls:=λb m=>by
  rcases NB.mp m with z|z
  .exact⟨_,by rw[z];exact ha,rfl⟩
  .exact (R.ls.same s) b z
 len:=by simp[R.len]
 pl:=λj e c q=>by
  rcases get_set q with⟨z,q⟩|⟨z,q⟩
  .subst z;exact Qr hi c
  .obtain⟨u,e1,h1⟩:=R.pl j e c q;refine⟨u,jf z e1,h1.same λb o e=>?_⟩;obtain⟨y,e⟩:=df e;have n:b≠a:=aI e hn;rw[bb (by simpa[n] using y)];exact s _ _ e
 own:=λj e c q=>by
  have r:∀b o,del H (A++A0) b=Y o->del H1 (a::A++A0) b=Y o:=λb o e=>by obtain⟨y,e⟩:=df e;have n:b≠a:=aI e hn;rw[bb (by simpa[n] using y)];exact s _ _ e
  rcases get_set q with⟨z,q⟩|⟨z,q⟩
  .cases q;subst z;exact⟨a,_,_,by rw[O4 (by rw[<-R.len];exact hl)],N1,ha,rfl,h⟩
  .obtain⟨b,ys,es,e1,h1,h2,t,v⟩:=R.own j e c q;exact⟨b,ys,es,jf z e1,N0 _ h1,s _ _ h2,t,v.same r⟩
 inj:=λj k d' e b c f g l p1 p2=>by
  have old:∀k,k∈EE->i≠k->∀e,δ[k]?=Y (Y e)->σ[k]?=Y (Y (.ref a))->False:=λk f _ e q p=>by obtain⟨b,ys,es,e1,h1,h2,_⟩:=R.own k e f q;rw[p]at e1;cases e1;rw[hn]at h2;cases h2
  by_cases z1:i=j
  .by_cases z2:i=k
   .rw[<-z1,z2]
   .subst z1;rw[O4 (by rw[<-R.len];exact hl)]at p1;cases p1;rw[NW z2]at l p2;exact (old k f z2 e l p2).elim
  .by_cases z2:i=k
   .subst z2;rw[O4 (by rw[<-R.len];exact hl)]at p2;cases p2;rw[NW z1]at g p1;exact (old j c z1 d' g p1).elim
   .rw[NW z1]at g p1;rw[NW z2]at l p2;exact R.inj j k d' e b c f g l p1 p2
theorem bA.put{ys:J V}{l:L}(R:bA K H0 A0 H A EE δ σ)(hi:i∈EE)(hd:δ[i]?=Y (Y l))(p:σ[i]?=Y (Y (.ref a)))(ha:a∈A)(h:Iss K (del H (A++A0)) ds ys) :
  bA K H0 A0 (upd H a (.lst ys)) A EE (δ.set i ↥ds) σ:=by
 have m:del (upd H a (.lst ys)) (A++A0)=del H (A++A0):=lK (O1 _ ha);have hl:i<δ.length:=(NC.mp hd).1;refine⟨λb o e=>?_,R.ls0,R.new,λb s=>?_,by simp[R.len],λj e c q=>?_,λj e c q=>?_,λj k d' e b c r f g p1 p2=>?_⟩
 .have n:b≠a:=λz=>by rw[z,R.new a ha]at e;cases e
  rw[aB n];exact R.same b o e
 .by_cases z:b=a
  .exact⟨_,by rw[z,aM],rfl⟩
  .rw[aB z];exact R.ls b s
 .rcases get_set q with⟨z,q⟩|⟨z,q⟩
  .subst z;exact Qr hi c
  .rw[m];exact R.pl j e c q
 .rcases get_set q with⟨z,q⟩|⟨z,q⟩
  .cases q;subst z;exact⟨a,_,_,p,ha,aM,rfl,by rw[m];exact h⟩
  .obtain⟨b,zs,es,e1,h1,h2,t,u⟩:=R.own j e c q;have n:b≠a:=λw=>z (R.inj i j _ _ a hi c hd q p (by rw[<-w];exact e1))
   exact⟨b,zs,es,e1,h1,by rw[aB n];exact h2,t,by rw[m];exact u⟩
 .rcases get_set f with⟨z1,f⟩|⟨z1,f⟩ <;> rcases get_set g with⟨z2,g⟩|⟨z2,g⟩
  .rw[<-z1,z2]
  .subst z1;exact R.inj i k l e b hi r hd g p1 p2
  .subst z2;exact R.inj j i d' l b c hi f hd p1 p2
  .exact R.inj j k d' e b c r f g p1 p2
def un(H0 G:Hp):Hp:=λb=>match H0 b with|some o=>Y o|none=>G b
theorem Bj{H0:Hp}:aw H0 (un H0 G):=λb o e=>by unfold un;rw[e]
theorem Me{H0:Hp}(a:aw H0 H)(c:aw G H):aw G (un H0 G):=λb o e=>by
 unfold un;cases q:H0 b with
 |none=>exact e
 |some o2=>have h2:=a b o2 q;rw[c b o e]at h2;exact h2.symm
theorem Ly{H0:Hp}(a:aw H0 H)(c:aw G H):aw (un H0 G) H:=λb o e=>by
 unfold un at e;cases q:H0 b with
 |none=>rw[q]at e;exact c b o e
 |some o2=>rw[q]at e;rw[<-N4 e];exact a b o2 q
theorem bA.more(R:bA K H0 A0 H A EE δ σ):bA K (un H0 (del H (A++A0))) A0 H A EE δ σ :=
 ⟨Ly R.same ay,R.ls0.same Bj,λa h=>by unfold un;rw[R.new a h];exact kq (O1 _ h),R.ls,R.len,R.pl,R.own,R.inj⟩
theorem bA.less{b:Hp}(R:bA K b A0 H A EE δ σ)(s:aw H0 b)(l:Ls H0 A0):bA K H0 A0 H A EE δ σ:=⟨s.trans R.same,l,λa h=>s.free (R.new a h),R.ls,R.len,R.pl,R.own,R.inj⟩
end
def rE(K:Qp)(E:XK)(H0:Hp)(A0:J J')(EE:J O)(r:Sr)(D:Ends):Prop:=match r with
 |.nx δ=>∀A σ H,bA K H0 A0 H A EE δ σ->D.nx σ H
 |.rt d=>∀v H,aw H0 H->Is K (del H A0) d v->D.rt v H
 |.rz C=>∀H,aw H0 H->E (.ref C) S H
 |.bk δ=>∀A σ H,bA K H0 A0 H A EE δ σ->D.bk σ H
 |.ct δ=>∀A σ H,bA K H0 A0 H A EE δ σ->D.ct σ H
 |.no=>False
def sD(K:Qp)(E:XK)(EE:J O)(G:Ds->Sr):TS:=λD σ H=>∃H0 A0 A δ,bA K H0 A0 H A EE δ σ/\rE K E H0 A0 EE (G δ) D
def PSD(X:Cx)(E:XK)(EE:J O)(s:T7)(G:Ds->Sr):Prop:=PS X s (sD X.K E EE G)
def PBD(X:Cx)(E:XK)(EE:J O)(ss:J T7)(G:Ds->Sr):Prop:=PSs X ss (sD X.K E EE G)
def aT:Ds->Sr:=λδ=>.nx δ
def az(a b:Ds->Sr):Ds->Sr:=λδ=>match a δ with
 |.nx δ'=>b δ'
 |r=>r
noncomputable def ofR{α:Type}(r:Rs α)(k:α->Sr):Sr:=match r with
 |.ok a=>k a
 |.rz C=>.rz C
 |.no=>.no
@[simp]theorem av(a:α)(k:α->Sr):ofR (.ok a) k=k a:=rfl
@[simp]theorem jW(C:J')(k:α->Sr):ofR (.rz C) k=.rz C:=rfl
@[simp]theorem kl(k:α->Sr):ofR (.no:Rs α) k=.no:=rfl
def sIf(c:Ds->Rs Qo)(a b:Ds->Sr):Ds->Sr:=λδ=>ofR (c δ) λt=>if t=true then a δ else b δ
def a9(g:Ds->Rs L):Ds->Sr:=λδ=>ofR (g δ) .rt
def nX(g:Ds->Rs L):Ds->Sr:=λδ=>ofR (g δ) λ_=>.nx δ
def aW(EE:J O)(i:O)(g:Ds->Rs L):Ds->Sr:=λδ=>if i<δ.length then ofR (g (mask EE δ)) λd=>.nx (δ.set i (Y d)) else .no
def pT(i:O)(g:Ds->Rs L):Ds->Sr:=λδ=>if i<δ.length then ofR (g δ) λd=>if dM d then .nx (δ.set i (Y d)) else .no else .no
def dh(EE:J O)(i:O)(g:Ds->Rs (J L)):Ds->Sr:=λδ=>if i<δ.length then ofR (g (mask EE δ)) λds=>.nx (δ.set i ↥ds) else .no
def gx(EE:J O)(i:O)(g:Ds->Rs L):Ds->Sr:=λδ=>match δ[i]? with
 |some ↥ds=>ofR (g (mask EE δ)) λd=>if ds.length<1000000 then .nx (δ.set i ↥(ds++[d])) else .no
 |_=>.no
def qz(i:O)(g:Ds->Rs L):Ds->Sr:=λδ=>match δ[i]? with
 |some ↥ds=>ofR (g δ) λd=>if dM d/\ds.length<1000000 then .nx (δ.set i ↥(ds++[d])) else .no
 |_=>.no
section
variable {G G':Ds->Sr}{a b c:Qt}{ga gb:Ds->Rs L}{ca:Ds->Rs Qo}
theorem vt:PBD X E EE [] aT:=oX.imp λD σ H a=>(by obtain⟨H0,A0,A,δ,R,o⟩:=a;exact o A σ H R)
theorem cw(h1:PSD X E EE st G)(h2:PBD X E EE ss G'):PBD X E EE (st::ss) (az G G'):=(fB h1 h2).imp λD σ H ⟨H0,A0,A,δ,R,o⟩=>⟨H0,A0,A,δ,R,by
 unfold az at o;cases q:G δ with
 |nx δ'=>rw[q]at o;exact λa σ' H' b=>⟨H0,A0,a,δ',b,o⟩
 |rt d=>rw[q]at o;exact o
 |rz C=>rw[q]at o;exact o
 |bk d=>rw[q]at o;exact o
 |ct d=>rw[q]at o;exact o
 |no=>rw[q]at o;exact o⟩
theorem AA(h1:PSD X E EE st G):PBD X E EE [st] G:=(ik h1).imp λD σ H h=>h
theorem yS{a:J T7}(hc:PCD X E c ca)(h1:PBD X E EE ss G)(h2:PBD X E EE a G'):PSD X E EE (.If c ss a pos) (sIf ca G G'):=(A9 hc h1 h2).imp λD σ H e=>by
 obtain⟨H0,A0,A,δ,R,o⟩:=e;unfold sIf at o;refine cD.run R.full (λt b H1 f R1=>?_) (λC b H' s'=>?_) (λb=>?_)
 .rw[b]at o;cases t with
  |true=>exact⟨H0,A0,A,δ,R.step f,o⟩
  |false=>exact⟨H0,A0,A,δ,R.step f,o⟩
 .rw[b]at o;exact o H' (R.same.trans s')
 .rw[b]at o;exact o
theorem G8(h:PD X E e ga):PSD X E EE (.Return (Y e) pos) (a9 ga):=(nr h).imp λD σ H a=>by
 obtain⟨H0,A0,A,δ,R,o⟩:=a;unfold a9 at o;refine eD.run R.full (λd c v H1 f R1 hv=>?_) (λC b H' s'=>?_) (λb=>?_)
 .rw[c]at o;exact o v H1 (R.same.trans f) hv
 .rw[b]at o;exact o H' (R.same.trans s')
 .rw[b]at o;exact o
theorem E5(h:PD X E e ga)(c:swapsWith e S pos.line X.env=pure false):PSD X E EE (.Expr e pos) (nX ga):=(oY h c).imp λD σ H a=>by
 obtain⟨H0,A0,A,δ,R,o⟩:=a;unfold nX at o;refine eD.run R.full (λd f v H1 g R1 hv=>?_) (λC b H' s'=>?_) (λb=>?_)
 .rw[f]at o;exact o A σ H1 (R.step g)
 .rw[b]at o;exact o H' (R.same.trans s')
 .rw[b]at o;exact o
theorem Ak(h:PD X E e ga)(c:X.N.Nodup)(f:i∉EE)(hi:X.N[i]?=Y x)(g:Loc X.env.scope x)(j:swapsWith e (Y (.Name x pos')) pos.line X.env=pure false)
  (l:X.fn x=true\/X.env.scope.names.lookup x=Y .local):PSD X E EE (.Assign [.Name x pos'] e pos) (aW EE i ga):=(mK c hi g h j l).imp λD σ H a=>by
 obtain⟨H0,A0,A,δ,R,o⟩:=a;unfold aW at o;split at o
 .rename_i hl;refine eD.run R.part (λd m v H1 n R1 hv=>?_) (λC b H' s'=>?_) (λb=>?_)
  .rw[m]at o;exact o A _ H1 ((R.step n).set f hl hv)
  .rw[b]at o;exact o H' (R.same.trans s')
  .rw[b]at o;exact o
 .exact o.elim
theorem DN(h:PD X E e ga)(f:X.N.Nodup)(g:i∉EE)(hi:X.N[i]?=Y x)(j:Loc X.env.scope x)(l:swapsWith e (Y (.Name x pos')) pos.line X.env=pure false)
  (m:X.fn x=true\/X.env.scope.names.lookup x=Y .local):PSD X E EE (.Assign [.Name x pos'] e pos) (pT i ga):=(mK f hi j h l m).imp λD σ H a=>by
 obtain⟨H0,A0,A,δ,R,o⟩:=a;unfold pT at o;split at o
 .rename_i hl;refine eD.run R.full (λd n v H1 c R1 hv=>?_) (λC b H' s'=>?_) (λb=>?_)
  .rw[n]at o;have o:rE X.K E H0 A0 EE (if dM d=true then .nx (δ.set i (Y d)) else .no) D:=o;split at o
   .rename_i hd;exact o A _ H1 ((R.step c).set g hl ((hv.same ay).dl (R.step c).lsA hd))
   .exact o.elim
  .rw[b]at o;exact o H' (R.same.trans s')
  .rw[b]at o;exact o
 .exact o.elim
theorem GO{a:Ds->Rs (J L)}(h:PLD X E e a)(f:X.N.Nodup)(g:i∈EE)(hi:X.N[i]?=Y x)(j:Loc X.env.scope x)(l:swapsWith e (Y (.Name x pos')) pos.line X.env=pure false)
  (m:X.fn x=true\/X.env.scope.names.lookup x=Y .local):PSD X E EE (.Assign [.Name x pos'] e pos) (dh EE i a):=(mK f hi j h l m).imp λD σ H b=>by
 obtain⟨H0,A0,A,δ,R,o⟩:=b;unfold dh at o;split at o
 .rename_i hl;refine⟨A++A0,mask EE δ,R.part,?_⟩;cases q:a (mask EE δ) with
  |ok ds =>rw[q]at o;exact λp xs H' hn s hp c=>o (p::A) _ H' (R.setOwn g hl hn s hp c)
  |rz C=>rw[q]at o;exact λH' s'=>o H' (R.same.trans s')
  |no=>rw[q]at o;exact o
 .exact o.elim
theorem Fd{a:Ds->Rs (J L)}(h:PLS X E i st a)(e:i∈EE):PSD X E EE st (dh EE i a):=PS.imp h λD σ H b=>by
 obtain⟨H0,A0,A,δ,R,o⟩:=b;unfold dh at o;split at o
 .rename_i hl;refine⟨A++A0,mask EE δ,R.part,?_⟩;cases q:a (mask EE δ) with
  |ok ds =>rw[q]at o;exact λp xs H' hn s hp c=>o (p::A) _ H' (R.setOwn e hl hn s hp c)
  |rz C=>rw[q]at o;exact λH' s'=>o H' (R.same.trans s')
  |no=>rw[q]at o;exact o
 .exact o.elim
theorem EY{a:Ds->Rs (J L)}(h:PLS X E i st a)(f:i∉EE):PSD X E EE st (aW EE i (gL a)):=PS.imp h λD σ H b=>by
 obtain⟨H0,A0,A,δ,R,o⟩:=b;unfold aW gL at o;split at o
 .rename_i hl;have e:=R.part;refine⟨A++A0,mask EE δ,e,?_⟩;cases q:a (mask EE δ) with
  |ok ds =>rw[q]at o;intro p xs H' hn s hp c;exact o A _ H' ((R.step s).set f hl (k9 (by rw[bb (e.ls.new hn)];exact hp) (c.same sS)))
  |rz C=>rw[q]at o;exact λH' s'=>o H' (R.same.trans s')
  |no=>rw[q]at o;exact o
 .exact o.elim
theorem tyL{p:J'}(h:H p=Y (.lst xs)):tyV K "list" (.ref p) H:=.inl ⟨rfl,xs,SqL.of h⟩
theorem Hc{c:Ts}(h:PD X E e ga)(r:i∈EE)(hi:X.N[i]?=Y x)(hv:Vis X.env.scope x)
  (hd:(x==("__debug__":Qn))=false) (j:(x==("__classdict__":Qn))=false) (f:starEach [e] X.env=(false,eval e X.env)::starEach [] X.env)
  (a:attributeBase (.Name x pn) "append" X.env (eval (.Name x pn) X.env)=eval (.Name x pn) X.env)
  (g:((backTo c (starEach [e] X.env)).all (λx=>!x.1)&&(backToKw c (keywordEach [] X.env)).all (λx=>x.1.isSome)&&decide (([e]:J Qt).length+([]:J RA).length+(if ([]:J RA).isEmpty then 0 else 1)<30))=true)
  (b:(pa.endLine==c.line)=true) (t:swapsWith (.Call (.Attribute (.Name x pn) "append" pa) [e] [] c) S pos.line X.env=pure false) :
  PSD X E EE (.Expr (.Call (.Attribute (.Name x pn) "append" pa) [e] [] c) pos) (gx EE i ga) :=
 (oY (Ba Sa S4 SH ky (gQ hi hv hd j) (dJ h fO f) a g b f rfl) t).imp λD σ H l=>by
  obtain⟨H0,A0,A,δ,R,o⟩:=l;unfold gx at o;split at o
  .rename_i ds q;obtain⟨p,xs,ds',e1,hp,hl,e2,s⟩:=R.ownL r q;cases e2;refine⟨_,e1,tyL hl,?_⟩;refine eD.run R.part (λd u v H1 m R1 hv=>?_) (λC n H' s'=>?_) (λn=>?_)
   .rw[u]at o;have o:rE X.K E H0 A0 EE (if ds.length<1000000 then .nx (δ.set i ↥(ds++[d])) else .no) D:=o;split at o
    .rename_i hz;refine⟨p,xs,v,rfl,rfl,m _ _ hl,by rw[s.length,QI];omega,?_⟩;exact o A _ _ ((R.step m).put r q e1 hp ((s.same m.del).append (lP hv)))
    .exact o.elim
   .rw[n]at o;exact o H' (R.same.trans s')
   .rw[n]at o;exact o
  .exact o.elim
theorem DQ{c:Ts}(h:PD X E e ga)(r:i∈EE)(hi:X.N[i]?=Y x)(hv:Vis X.env.scope x)
  (hd:(x==("__debug__":Qn))=false) (l:(x==("__classdict__":Qn))=false) (f:starEach [e] X.env=(false,eval e X.env)::starEach [] X.env)
  (a:attributeBase (.Name x pn) "append" X.env (eval (.Name x pn) X.env)=eval (.Name x pn) X.env)
  (g:((backTo c (starEach [e] X.env)).all (λx=>!x.1)&&(backToKw c (keywordEach [] X.env)).all (λx=>x.1.isSome)&&decide (([e]:J Qt).length+([]:J RA).length+(if ([]:J RA).isEmpty then 0 else 1)<30))=true)
  (b:(pa.endLine==c.line)=true) (t:swapsWith (.Call (.Attribute (.Name x pn) "append" pa) [e] [] c) S pos.line X.env=pure false) :
  PSD X E EE (.Expr (.Call (.Attribute (.Name x pn) "append" pa) [e] [] c) pos) (qz i ga) :=
 (oY (Ba Sa S4 SH ky (gQ hi hv hd l) (dJ h fO f) a g b f rfl) t).imp λD σ H m=>by
  obtain⟨H0,A0,A,δ,R,o⟩:=m;unfold qz at o;split at o
  .rename_i ds q;obtain⟨p,xs,ds',e1,hp,hl,e2,s⟩:=R.ownL r q;cases e2;refine⟨_,e1,tyL hl,?_⟩;refine eD.run R.full (λd u v H1 j R1 hv=>?_) (λC n H' s'=>?_) (λn=>?_)
   .rw[u]at o;have o:rE X.K E H0 A0 EE (if dM d=true/\ds.length<1000000 then .nx (δ.set i ↥(ds++[d])) else .no) D:=o;split at o
    .rename_i w;refine⟨p,xs,v,rfl,rfl,j _ _ hl,by rw[s.length,QI];omega,?_⟩;exact o A _ _ ((R.step j).put r q e1 hp ((s.same j.del).append (lP ((hv.same ay).dl (R.step j).lsA w.1))))
    .exact o.elim
   .rw[n]at o;exact o H' (R.same.trans s')
   .rw[n]at o;exact o
  .exact o.elim
def TgS(K:Qp)(EE:J O)(tgt:L->Ds->F1 Ds)(g:TG):Prop:=∀(d:L)(v:V)(H0:Hp)(A0:J J')(H:Hp)(A:J J')(δ a:Ds)(σ:St)(Q:St->Hp->Prop),bA K H0 A0 H A EE δ σ->Is K (del H (A++A0)) d v->tgt d δ=Y a ->
 (∀b,bA K H0 A0 H A EE a b->Q b H)->g v σ H Q
def aP(i:O):L->Ds->F1 Ds:=λd δ=>if i<δ.length then Y (δ.set i (Y d)) else S
theorem DU(hi:i∉EE):TgS K EE (aP i) (kX i):=λd v H0 A0 H A δ δ' σ Q R h e k=>by
 unfold aP at e;split at e
 .rename_i hl;cases e;exact k _ (R.set hi hl h)
 .cases e
def jT:J O->J L->Ds->F1 Ds
 |[],[],δ=>Y δ
 |i::is,d::ds,δ=>if i<δ.length then jT is ds (δ.set i (Y d)) else S
 |_,_,_=>S
def b9(is:J O):L->Ds->F1 Ds
 |.tuple ds,δ=>jT is ds δ
 |_,_=>S
def m9:J O->TGs
 |[]=>L2.LS
 |i::is=>L2.ID (kX i) (m9 is)
theorem oj{K:Qp}:∀(is:J O)(ds:J L)(vs:J V)(H0:Hp)(A0:J J')(H:Hp)(A:J J')(δ a:Ds)(σ:St)(Q:St->Hp->Prop),(∀i∈is,i∉EE)->bA K H0 A0 H A EE δ σ->Iss K (del H (A++A0)) ds vs->jT is ds δ=Y a ->
  (∀b,bA K H0 A0 H A EE a b->Q b H)->m9 is vs σ H Q
 |[],[],vs,H0,A0,H,A,δ,a,σ,Q,_,R,h,e,k=>by cases e;exact⟨h.nil_of,k σ R⟩
 |i::is,d::ds,vs,H0,A0,H,A,δ,a,σ,Q,hO,R,h,e,k=>by
  obtain⟨v,r,rfl,h1,h2⟩:=h.cons_of;unfold jT at e;split at e
  .rename_i hl;exact⟨v,r,rfl,oj is ds r H0 A0 H A _ a _ Q (λj c=>hO j (N0 _ c)) (R.set (hO i N1) hl h1) h2 e k⟩
  .cases e
 |[],_::_,_,_,_,_,_,_,_,_,_,_,_,_,e,_=>by cases e
 |_::_,[],_,_,_,_,_,_,_,_,_,_,_,_,e,_=>by cases e
theorem qe:∀{is:J O}{ds:J L}{δ a:Ds},jT is ds δ=Y a->ds.length=is.length
 |[],[],_,_,_=>rfl
 |_::is,_::ds,δ,a,e=>by
  unfold jT at e;split at e
  .simp[qe e]
  .cases e
 |[],_::_,_,_,e=>by cases e
 |_::_,[],_,_,e=>by cases e
theorem Ax{is:J O}(hi:∀i∈is,i∉EE):TgS K EE (b9 is) (L2.Ju K is.length (m9 is)):=λd v H0 A0 H A δ a σ Q R h e k=>by
 unfold b9 at e;split at e
 .obtain⟨p,xs,rfl,hp,b⟩:=h.ofTup;exact⟨p,xs,rfl,SqT.of (ay _ _ hp),by rw[b.length,qe e],oj is _ xs H0 A0 H A δ a σ Q hi R b e k⟩
 .cases e
def forL(tgt:L->Ds->F1 Ds)(body:Ds->Sr):J L->Ds->Sr
 |[],δ=>.nx δ
 |d::r,δ=>match tgt d δ with
  |none=>.no
  |some δ1=>match body δ1 with
   |.nx δ2=>forL tgt body r δ2
   |.ct δ2=>forL tgt body r δ2
   |.bk δ2=>.nx δ2
   |.rt v=>.rt v
   |.rz C=>.rz C
   |.no=>.no
def dN(EE:J O)(src:Ds->Rs (J L))(tgt:L->Ds->F1 Ds)(body:Ds->Sr):Ds->Sr:=λδ=>ofR (src (mask EE δ)) λds=>forL tgt body ds δ
theorem Ij{tgt:L->Ds->F1 Ds}(hp:S' (model X.prog X.w) X.A X.env X.xe)(hc:X.calm=true)(hi:PID X E tg iter gi)(P:TgS X.K EE tgt g)(Q:PG X tg g)(t:PBD X E EE ss G)
  (D':∀x,foldedSetIterable iter X.env x=pure x):PSD X E EE (.For tg iter ss [] pos) (dN EE gi tgt G):=(D0 hp hc hi Q t D').imp λD σ H u=>by
 obtain⟨H0,A0,A,δ,R,o⟩:=u;unfold dN at o;refine⟨A++A0,mask EE δ,R.part,?_⟩;cases q:gi (mask EE δ) with
 |no=>rw[q]at o;exact o
 |rz C=>rw[q]at o;exact λH' s'=>o H' (R.same.trans s')
 |ok ds =>
  rw[q]at o;intro B' H1 Dd T;have U:=(R.step Dd).more;have o:rE X.K E H0 A0 EE (forL tgt G ds δ) D:=o;refine⟨λi m f H'=>m=ds.length-i/\i<=ds.length/\∃l c,bA X.K (un H0 (del H1 (A++A0))) A0 H' l EE c f/\rE X.K E H0 A0 EE (forL tgt G (ds.drop i) c) D,⟨ds.length,by simp,Ot _,A,δ,U,o⟩,?_⟩
  rintro i m f H' ⟨rfl,hi',l,c,n,o'⟩
  have M:aw (del H1 (A++A0)) (un H0 (del H1 (A++A0))):=Me (R.same.trans Dd) ay;have hB:∀b∈l++A0,(del H1 (A++A0)) b=none:=λb t=>by
   rcases NZ.mp t with z|z
   .exact M.free (n.new b z)
   .exact kq (NF _ z)
  obtain⟨W,js,A4⟩:=T H' (l++A0) (M.trans n.same) n.lsA hB;by_cases hlt:i<ds.length
  .refine .inr ⟨W i hlt,?_⟩;have B:ds.drop i=ds[i]::ds.drop (i+1):=OA hlt;rw[B]at o';unfold forL at o';refine⟨λp H2=>∃F a,bA X.K (un H0 (del H1 (A++A0))) A0 H2 F EE a p/\rE X.K E H0 A0 EE (forL tgt G (ds.drop (i+1)) a) D,λp H2 ⟨F,a,R2,o2⟩=>⟨ds.length-(i+1),⋯,rfl,hlt,F,a,R2,o2⟩,λx H2 y=>?_⟩;obtain⟨s2,d,N,hd⟩:=A4 i x H2 hlt y;have:ds[i]=d:=by have:=My hlt;rw[this]at N;exact N4 N
   rw[this]at o';cases et:tgt d c with
   |none=>rw[et]at o';exact o'.elim
   |some δ1 =>
    dsimp[et]at o';refine P d x _ _ _ _ _ _ _ _ (n.step s2) hd et λσ3 A2=>⟨_,_,_,_,A2,?_⟩
    cases eb:G δ1 with
    |nx a=>rw[eb]at o';exact λr h j s=>⟨r,a,s,o'⟩
    |ct a=>rw[eb]at o';exact λr h j s=>⟨r,a,s,o'⟩
    |bk a=>rw[eb]at o';exact λr h j s=>o' r h j (s.less Bj R.ls0)
    |rt v=>rw[eb]at o';exact λv4 j I h4=>o' v4 j (Bj.trans I) h4
    |rz C=>rw[eb]at o';exact λj I=>o' j (Bj.trans I)
    |no=>rw[eb]at o';exact o'
  .have e:i=ds.length:=⋯
   subst e;rw[Qg]at o';exact .inl ⟨js,o' l f H' (n.less Bj R.ls0)⟩
end
section
variable {G G':Ds->Sr}{a b c:Qt}{ga gb gk:Ds->Rs L}{ca:Ds->Rs Qo}
def cj(c:Ds->Rs Qo)(b:Ds->Sr):O->Ds->Sr
 |0,_=>.no
 |n+1,δ=>ofR (c δ) λt=>if t=true then (match b δ with
  |.nx δ2=>cj c b n δ2
  |.ct δ2=>cj c b n δ2
  |.bk δ2=>.nx δ2
  |.rt v=>.rt v
  |.rz C=>.rz C
  |.no=>.no) else .nx δ
theorem BL(fuel:O)(hp:S' (model X.prog X.w) X.A X.env X.xe)(hc:PCD X E c ca)(j:PBD X E EE ss G):PSD X E EE (.While c ss [] pos) (λδ=>cj ca G fuel δ):=(Fg hp hc j).imp λD σ H e=>by
 obtain⟨H0,A0,A,δ,R,o⟩:=e;refine⟨λm σ H=>∃A δ,bA X.K H0 A0 H A EE δ σ/\rE X.K E H0 A0 EE (cj ca G m δ) D,⟨fuel,A,δ,R,o⟩,?_⟩
 rintro m σ H ⟨A,δ,R,o⟩
 cases m with
 |zero=>exact o.elim
 |succ m =>
  unfold cj at o;refine cD.run R.full (λt a H1 i R1=>?_) (λC a H' s'=>?_) (λa=>?_)
  .rw[a]at o;cases t with
   |false=>exact o A σ H1 (R.step i)
   |true =>
    refine⟨λb H'=>∃A δ,bA X.K H0 A0 H' A EE δ b/\rE X.K E H0 A0 EE (cj ca G m δ) D,λb H' q=>⟨m,Pe m,q⟩,H0,A0,A,δ,R.step i,?_⟩;have o:rE X.K E H0 A0 EE (match G δ with
     |.nx δ2=>cj ca G m δ2
     |.ct δ2=>cj ca G m δ2
     |.bk δ2=>.nx δ2
     |.rt v=>.rt v
     |.rz C=>.rz C
     |.no=>.no) D:=o
    cases eb:G δ with
    |nx δ2=>rw[eb]at o;exact λf g l h=>⟨f,δ2,h,o⟩
    |ct δ2=>rw[eb]at o;exact λf g l h=>⟨f,δ2,h,o⟩
    |bk δ2=>rw[eb]at o;exact o
    |rt v=>rw[eb]at o;exact o
    |rz C=>rw[eb]at o;exact o
    |no=>rw[eb]at o;exact o
  .rw[a]at o;exact o H' (R.same.trans s')
  .rw[a]at o;exact o
def lV(EE:J O)(tgt:L->Ds->F1 Ds)(g:Ds->Rs L):Ds->Sr:=λδ=>ofR (g (mask EE δ)) λd=>match tgt d δ with
 |some δ'=>.nx δ'
 |none=>.no
theorem Hx{tgt:L->Ds->F1 Ds}(h:PD X E e ga)(f:TgS X.K EE tgt g)(i:PG X tg g)(j:swapsWithSole [tg] e pos.line X.env=pure false)(hw:swappedStores [tg] e X.env=pure S)
  (h1:(assignEach [tg] X.env).map (·.2)=[assign tg X.env]):PSD X E EE (.Assign [tg] e pos) (lV EE tgt ga):=(uW h i j hw h1).imp λD σ H a=>by
 obtain⟨H0,A0,A,δ,R,o⟩:=a;unfold lV at o;refine eD.run R.part (λd l v H1 m R1 hv=>?_) (λC b H' s'=>?_) (λb=>?_)
 .dsimp[l,av]at o;cases q:tgt d δ with
  |none=>rw[q]at o;exact o.elim
  |some δ'=>rw[q]at o;exact f d v H0 A0 H1 A δ δ' σ _ (R.step m) hv q λc n=>o A c H1 n
 .rw[b]at o;exact o H' (R.same.trans s')
 .rw[b]at o;exact o
def jA(i:O)(gk ge:Ds->Rs L):Ds->Sr:=λδ=>match δ[i]? with
 |some ↥ds=>ofR (ge δ) λd=>ofR (gk δ) λk=>match k with
  |.int k=>match ixN ds.length k with
   |some j=>if dM d then .nx (δ.set i ↥(ds.set j d)) else .no
   |none=>.no
  |_=>.no
 |_=>.no
theorem G1{k:Qt}{ps:Ts}(h:PD X E e ga)(n:PD X E k gk)(g:i∈EE)(hi:X.N[i]?=Y x)(hv:Vis X.env.scope x)
  (hd:(x==("__debug__":Qn))=false) (c:(x==("__classdict__":Qn))=false)
  (ha:∀v,assign (.Subscript (.Name x pn) k ps) X.env v=(do
   let ov <-holding [v] (eval (.Name x pn) X.env);let iv <-holding [v,ov] (eval k X.env)
   standAt ps
   holding [v,ov,iv] (setItem ov iv v)
   release [v,ov,iv] []))
  (r:swapsWithSole [.Subscript (.Name x pn) k ps] e pos.line X.env=pure false) (hw:swappedStores [.Subscript (.Name x pn) k ps] e X.env=pure S)
  (h1:(assignEach [.Subscript (.Name x pn) k ps] X.env).map (·.2)=[assign (.Subscript (.Name x pn) k ps) X.env]):PSD X E EE (.Assign [.Subscript (.Name x pn) k ps] e pos) (jA i gk ga) :=
 (uW h (zB (gQ hi hv hd c) n set_list ha) r hw h1).imp λD σ H f=>by
  obtain⟨H0,A0,A,δ,R,o⟩:=f;unfold jA at o;split at o
  .rename_i ds q;obtain⟨p,xs,ds',e1,hp,hl,e2,l⟩:=R.ownL g q;cases e2;refine eD.run R.full (λd s v H1 m t hv=>?_) (λC b H' s'=>?_) (λb=>?_)
   .dsimp[s,av]at o;refine⟨_,e1,?_⟩;refine eD.run t (λkd w u H2 s2 R2 y=>?_) (λC b H' s'=>?_) (λb=>?_)
    .dsimp[w,av]at o;split at o
     .rename_i z;split at o
      .rename_i j B;split at o
       .rename_i hn;have a:=m.trans s2;refine⟨p,xs,z,j,rfl,y.ofInt,a _ _ hl,by rw[l.length];exact B,?_⟩;exact o A _ _ ((R.step a).put g q e1 hp (Iss.set (((hv.same s2.del).same ay).dl (R.step a).lsA hn) j (l.same a.del)))
       .exact o.elim
      .exact o.elim
     .exact o.elim
    .dsimp[b,jW]at o;exact o H' (R.same.trans (m.trans s'))
    .dsimp[b,kl]at o;exact o
   .dsimp[b,jW]at o;exact o H' (R.same.trans s')
   .dsimp[b,kl]at o;exact o
  .exact o.elim
structure v9(K:Qp)(mg:Qn->F1 GC)(x:Qn)(C:J'):Prop where
 m:mg x=Y (.ref C)
 e:Vh K C [.type "ValueError",.type "Exception",.type "BaseException",.type "object"] "ValueError.__new__"=true
def k4(C:J')(gs:Ds->Rs (J L)):Ds->Sr:=λδ=>ofR (gs δ) λ_=>.rz C
theorem CQ{i:Ts}(hc:X.calm=true)(M:yz X E)(g:v9 X.K X.mg x C)(ha:PAD X E (e::es) gs)(hl:(e::es).length<=1000)(j:Gl X x)
  (a:(x==("__debug__":Qn))=false) (l:starEach (e::es) X.env=(false,eval e X.env)::starEach es X.env) (b:(backTo cpos (starEach es X.env)).any (·.1)=false) :
  PSD X E EE (.Raise (Y (.Call (.Name x i) (e::es) [] cpos)) S pos) (k4 C gs) :=
 (FH hc M F.excBase_ValueError j g.m g.e ha.1 a l b).imp λD σ H c=>by
  obtain⟨H0,A0,A,δ,R,o⟩:=c;unfold k4 at o;refine aD.run R.full (λds h vs H1 n R1 hv=>?_) (λC f H' s'=>?_) (λf=>?_)
  .dsimp[h,av]at o;exact⟨by rw[hv.length,ha.2 δ ds h,QI];omega,o H1 (R.same.trans n)⟩
  .dsimp[f,jW]at o;exact o H' (R.same.trans s')
  .dsimp[f,kl]at o;exact o
end
section
theorem uw{f:J'}{k:O}{sp:Sp}(F:Fun K x qual st f fd)(D':eS N ps (aH st))(len:∀vs H Q E,sp vs H Q E->vs.length=ps.length)
  (a:∀(cdv:GC)(A:Qs)(outer:J V1)(s:LN)(H:Hp)(vs:J V)(Q:VK)(E:XK),cO k (A.deeper (envOfC qual (aH st) s.heap.objs.size f cdv))->sp vs H Q E ->
   ∃t,PSs (dg CX P w K mg base N qual (aH st) f cdv A outer s H E) (cR st) t/\t {nx:=λ_ H'=>Q .non H',rt:=Q} (start N vs) H):iH P w K mg base CX (k+1) f fd ps sp:=by
 obtain⟨oc,od,kV,doc,pm,an,cdv,ct,osl,rfl,e,b⟩:=F.ex;exact E6 e b D' len λA outer s H vs Q E g c=>a cdv A outer s H vs Q E g c
def bo:Sr->Rs L
 |.rt d=>.ok d
 |.nx _=>.ok .none
 |.rz C=>.rz C
 |_=>.no
theorem Ky{f:J'}{A:Qs}:yz (dg (CXW P w) P w K mg base N qual scope f cd A outer s H E) E :=
 λ_ _ _ _ _ _ _ _ I a b=>wR (CX:=CX0) I a b
theorem bA.start{A0:J J'}(f:Ls H A0)(hi:Iss K (del H A0) ds vs)(hl:ds.length=ps.length)(c:∀i∈EE,ps.length<=i) :
  bA K H A0 H [] EE (ds.map Y++L' (N.length-ps.length) S) (L2.start N vs):=by
 have hv:=hi.length;have at':∀(i:O) d,(ds.map Y++L' (N.length-ps.length) S)[i]?=Y (Y d)->i<ds.length/\ds[i]?=Y d:=λi d e=>by
  by_cases h:i<ds.length
  .rw[O6 (by simpa using h),NA]at e;refine⟨h,?_⟩;cases q:ds[i]? with
   |none=>rw[q]at e;cases e
   |some z=>rw[q]at e;simp at e;rw[e]
  .rw[O9 (by simpa using h),PM]at e;split at e <;> cases e
 refine⟨aw.refl _,f,(λa h=>by cases h),(λa h=>by cases h),?_,λi d _ e=>?_,λi d h e=>?_,λi j d e a h _ q _ _ _=>?_⟩
 .unfold L2.start;simp[hv,hl]
 .obtain⟨b,e⟩:=at' i d e;obtain⟨v,ev,hd⟩:=hi.getD e;refine⟨v,?_,hd⟩;unfold L2.start;rw[O6 (by simp;omega),NA,ev];rfl
 .obtain⟨b,_⟩:=at' i d e;exact Qr (c i h) ⋯
 .obtain⟨b,_⟩:=at' i d q;exact Qr (c i h) ⋯
theorem jP.of{f:J'}{k:O}{G:Ds->Sr}(F:Fun K x qual st f fd)(D':eS N ps (aH st))(b:Binds K fd ps [])(m:mg x=Y (.ref f))(e:∀i∈EE,ps.length<=i)
  (body:∀(cdv:GC)(A:Qs)(outer:J V1)(s:LN)(H:Hp)(E:XK),cO k (A.deeper (envOfC qual (aH st) s.heap.objs.size f cdv))->PBD (dg (CXW P w) P w K mg base N qual (aH st) f cdv A outer s H E) E EE (cR st) G)
  (g:∀ds,ds.length=ps.length->gf ds≠.no->bo (G (ds.map Y++L' (N.length-ps.length) S))=gf ds):jP P w K mg base (k+1) x ps.length gf:=by
 refine⟨f,fd,ps,uw F D' (λvs H Q E h=>?_) (λcdv A outer s H vs Q E j h=>?_),m,F.kp,b⟩
 .obtain⟨A,ds,c,hi,hl,o⟩:=h;rw[hi.length,hl]
 .obtain⟨A0,ds,c,hi,hl,o⟩:=h;refine⟨_,body cdv A outer s H E j,H,A0,[],_,bA.start c hi hl e,?_⟩;have a:=g ds hl (λz=>by rw[z]at o;exact o);cases q:G (ds.map Y++L' (N.length-ps.length) S) with
  |rt d=>rw[q]at a;rw[<-a]at o;exact λv H' s' hv=>o v H' s' hv
  |nx δ=>rw[q]at a;rw[<-a]at o;exact λA' σ H' l=>o .non H' l.same is_none
  |rz C=>rw[q]at a;rw[<-a]at o;exact λH' s'=>o H' s'
  |bk δ=>rw[q]at a;rw[<-a]at o;exact o.elim
  |ct δ=>rw[q]at a;rw[<-a]at o;exact o.elim
  |no=>rw[q]at a;rw[<-a]at o;exact o.elim
theorem jP.old{f:J'}{k:O}{sp:Sp}(F:iH P w K mg base CX0 k f fd ps sp)(m:mg x=Y (.ref f))(kp:S8 K (.ref f)=true)(b:Binds K fd ps [])
  (h:∀ds,ds.length=ps.length->gf ds≠.no->∃d,gf ds=.ok d/\gp d=true/\∀vs H Q,Iss K H ds vs->(∀v H',aw H H'->IsD K H' d v->Q v H')->sp vs H Q E0):jP P w K mg base k x ps.length gf:=by
 refine⟨f,fd,ps,⟨λvs H Q E h'=>?_,λA outer s H args us vs Q E j l n hv h'=>?_⟩,m,kp,b⟩
 .obtain⟨A,ds,g,hi,hl,o⟩:=h';rw[hi.length,hl]
 .obtain⟨A0,ds,g,hi,hl,o⟩:=h';obtain⟨d,e,i,c⟩:=h ds hl (λz=>by rw[z]at o;exact o);rw[e]at o;refine Rz (F.run A outer s H args us vs Q E0 j l n hv (c vs H Q (hi.same ay) λv H' s' hd=>o v H' s' ((hd.is i).dl (g.same s') (yZ i)))) λr s' a=>?_
  cases r with
  |error ev=>exact QQ a
  |ok fl =>
   cases fl with
   |ret u=>exact a
   |next=>exact QQ a
   |brk=>exact QQ a
   |cont=>exact QQ a
end
open AutoSeq1 (wpAny_loadPart')
theorem mQ:fillsNumberSlot (.type "tuple") "mul"=pure false :=
 PySem.fillsNumberSlot_seq (id:="tuple.__mul__") (r:=Y (.builtin "tuple.__rmul__")) T3.lookup (by decide +kernel) Uy.lookup (by decide +kernel)
theorem vh:seqRepeat? (.type "tuple")=pure (Y (.builtin "tuple.__mul__")):=by unfold seqRepeat?;rw[PySem.seqSlot_of (T:="tuple") (name:="__mul__") (id:="tuple.__mul__") T3.lookup (by decide +kernel),PySem.seqSlot_of (T:="tuple") (name:="__rmul__") (id:="tuple.__rmul__") Uy.lookup (by decide +kernel)];rfl
theorem u0(a:Z)(t:VI)(l:J')(items:QR GC)(n:O)(dd:F1 J')(b:QR (F1 GC)) :
  W5 (Qq.«int.__rmul__» ⟨[.int a t,.ref l],[]⟩) (λ_ R s=>s.heap.get? l=Y {cls:=.type "tuple",dict:=dd,data:=.seq items n,slots:=b}/\R (.ok (.ret TC)) s) :=
 .of_wp λprog w A R s h=>by obtain⟨hp,g,d,tk,os⟩:=s;obtain⟨hl,h⟩:=h;wp_walk;exact⟨_,rfl,h⟩
theorem DP(l:J')(items:QR GC)(n:O)(x:Z)(u:VI)(dd:F1 J')(c:QR (F1 GC))(h1:(decide (x < -(2 ^ 63))||decide (x≥2 ^ 63))=false)(h2:(items.isEmpty||x==1)=false)(h3:(decide (x<=0)||items.isEmpty)=false)
  (e:decide ((items.size:Z)*x>(2 ^ 63-1) / 8)=false) (h5:SI ((items.size:Z)*x)=false) (hsz:(Si (λa b=>a++b) #[] (L' x.toNat items)).size<=sizeLine) :
  W5 (Qq.«tuple.__mul__» ⟨[.ref l,.int x u],[]⟩) (λ_ R s=>s.heap.get? l=Y {cls:=.type "tuple",dict:=dd,data:=.seq items n,slots:=c}/\R (.ok (.ret (Qw s.heap.objs.size))) {s with heap:=s.heap.push {cls:=SA "tuple",data:=Data.seq (Si (λa b=>a++b) #[] (L' x.toNat items))}}) :=
 .of_wp λprog w A R s h=>by
  obtain⟨hp,g,d,tk,os⟩:=s;obtain⟨hl,h⟩:=h;have f1:=AutoSeq1.idx_int;have f2:=SY
  wp_walk using Rf hl
  refine V7 (by rw[h1];rfl) ?_
  wp_walk using Rf hl
  refine V7 e ?_
  wp_walk using Rf hl
  exact⟨_,rfl,h⟩
section
variable {a b c:Qt}{ga gb gc:Ds->Rs L}
def IM(K:Qp):R2:=λx y H Q=>∃l k xs,x=.ref l/\y=.int k/\SqT K H l xs/\xs≠[]/\2<=k/\k<1000000/\xs.length*k.toNat<=1000000/\∀p,H p=S->Q (.ref p) (upd H p (.tup (L' k.toNat xs).flatten))
theorem GY:OpR X (binaryOp .Mult) (IM X.K):=by
 intro z8 s σ H x y v u Q I j m h;obtain⟨l,k,xs,rfl,rfl,hl,g,hk1,hk2,p,q⟩:=h;cases j;obtain⟨t,rfl⟩:=m;obtain⟨its,r,p1,_⟩:=I.tuple hl;obtain⟨⟨cls,dd,data,i⟩,f,hc,n,hd⟩:=id p1;simp only at hc hd;subst hc hd;have wb:=r.length;have c:its≠[]:=λz=>g (r.nil_iff.mp z)
 have hpos:0<its.length:=QK.mpr c;have a:Si (λw A=>w++A) #[] (L' k.toNat its.toArray)=(L' k.toNat its).flatten.toArray:=by have:=foldl_rep its k.toNat [];rw[OF]at this;exact this
 have e:its.toArray.isEmpty=false:=by simp[c]
 have hmul:(its.length:Z)*k<=1000000:=by
  have e1:((its.length*k.toNat:O):Z)=(its.length:Z)*k:=by rw[Z.natCast_mul,OO ⋯]
  rw[<-e1,<-wb];omega
 have hsz2:(L' k.toNat its).flatten.length<=1000000:=by rw[len_rep,Uv,<-wb];exact p
 refine SK (T:="tuple") (U:="int") #[1] ⟨_,f,rfl⟩ (λs'=>Tf s' k t) mQ V4 So vh UL.lookup
  (RT So (Tf s k t) UM (Uu _ _) (u0 k t l its.toArray n dd i)
   ⟨f,rfl,⟨_,f,rfl⟩,RT T3 ⟨_,f,rfl⟩ F.entry_tuple_mul (F.args_tuple_mul_2 _ _) (DP l its.toArray n k t dd i ?_ ?_ ?_ ?_ ?_ ?_) ⟨f,?_⟩⟩)
 .rw[P' ⋯,P' ⋯];rfl
 .rw[e,Q8];simp;omega
 .rw[e,VA];exact P' ⋯
 .rw[NM];exact P' ⋯
 .rw[NM];unfold SI;rw[QI];exact P' ⋯
 .rw[a,NM,QI];omega
 .rw[a];refine⟨.ref s.heap.objs.size,_,I.laid (t':=s.toks) (o:=.tup (L' k.toNat xs).flatten) (λb ob q=>N5 _ q) (ND _) ?_,rfl,q _ (I.hok.fresh (ND _))⟩;exact⟨by rw[len_rep,Uv,QI];omega,_,r.rep k.toNat,uh.new _ _⟩
def lj:L->L->F1 L
 |.int i,.int j=>if (-(2 ^ 64)<i/\i<2 ^ 64)\/(-(2 ^ 64)<j/\j<2 ^ 64) then ⇑(i*j) else S
 |.list x,.int k=>if 0<=k/\k<1000000/\x.length*k.toNat<=1000000 then Y (.list (L' k.toNat x).flatten) else S
 |.tuple x,.int k=>if x≠[]/\2<=k/\k<1000000/\x.length*k.toNat<=1000000 then Y (.tuple (L' k.toNat x).flatten) else S
 |_,_=>S
theorem Ge:OpD K lj (λx y H Q=>rI Hn (λi j=>.int (i*j)) x y H Q\/MI x y H Q\/IM K x y H Q):=λd1 d2 d x y H A Q e c h1 h2 k=>by
 unfold lj at e;split at e
 .split at e
  .rename_i z;cases e;exact .inl ⟨_,_,h1.ofInt,h2.ofInt,z,k _ H (aw.refl _) bP⟩
  .cases e
 .split at e
  .rename_i z;cases e;obtain⟨p,xs,rfl,hp,a⟩:=h1.ofLst;exact .inr (.inl ⟨p,_,xs,rfl,h2.ofInt,ay _ _ hp,⋯,⋯,by rw[a.length,QI];omega,λr b=>k _ _ (bS b) (oS c b (a.rep _))⟩)
  .cases e
 .split at e
  .rename_i z;cases e;obtain⟨p,xs,rfl,hp,a⟩:=h1.ofTup;refine .inr (.inr ⟨p,_,xs,rfl,h2.ofInt,SqT.of (ay _ _ hp),λq=>z.1 ?_,z.2.1,z.2.2.1,by rw[a.length];exact z.2.2.2,λr b=>k _ _ (bS b) (lF c b (a.rep _))⟩);exact Pk.mp (by rw[<-a.length,q];rfl)
  .cases e
 .cases e
theorem JD(ha:PD X E a ga)(c:PD X E b gb):PD X E (.BinOp a .Mult b pos) (g2 lj ga gb):=jl Ge ha c (fg (mJ.or (KD.or GY)))
end
section
variable {A:Qs}{E:GC->LN->Prop}
theorem kN{t:J'}{i j:GC}(a:UU s.heap t items)(l:s.heap.IsSliceOf c i j .none)(pl:Tc i lo)(n:Tc j hi)
  (hw:HT.sIx items.size 0 lo=0/\HT.sIx items.size items.size hi=items.size) (h:Q (.ref t) s):wpAny (model prog w) A (getItem (.ref t) (.ref c)) Q E s:=by
 obtain⟨os,e,f,hds⟩:=id l;have g:s.TypeIs (.ref c) "slice":=⟨os,e,f⟩
 unfold getItem
 try with_reducible refine QN ?_
 first|refine F' (K' ?_)|skip
 refine F' (Ur a.typeIs #[1] ?_);refine F' (RG (name:=R9 "__getitem__") a.typeIs QH
  (RW QH a.typeIs TQ ?_ (Ub _ _)))
 show wpAny _ _ (SG (.ref t) >>= _) _ _ s;refine F' (tupleItemsOf_ a ?_);refine F' (Td g ?_);rw[HL #[1]];refine F' (HT.i7 l pl n ?_);have b:(((HT.sIx items.size 0 lo:O):Z)==0&&(1:Z)==1&&(HT.sIx items.size items.size hi-HT.sIx items.size 0 lo)==items.size)=true:=by rw[hw.1,hw.2];simp
 show wpAny _ _ (if (((HT.sIx items.size 0 lo:O):Z)==0&&(1:Z)==1&&(HT.sIx items.size items.size hi-HT.sIx items.size 0 lo)==items.size)=true then _ else _) _ _ s;rw[HL b];refine F' (m:=Qq.Tuple.tupleIsExact (.ref t)) (F' (Td a.typeIs (K' ?_)));rw[HL #[1]]
 first
  |exact F' (Sk (K' ⟨_,rfl,K' h⟩))
  |(refine F' (Sk ?_);trace_state;exact K' ⟨_,rfl,K' h⟩)
end
end L2
variable {g gv gk:L2.Ds->L2.Rs L}{δ:L2.Ds}{ca:L2.Ds->L2.Rs Qo}{gf:J L->L2.Rs L}{gs gi src gw:L2.Ds->L2.Rs (J L)}{tgt:L->L2.Ds->F1 L2.Ds}{tg1:L->F1 L2.Ds}
namespace L2
open PySem PySem.Spec PyProof.Rows
section
variable {E:XK}{a b c e:Qt}{ga gb gc:Ds->Rs L}{es:J Qt}
def L5(K:Qp):V->F1 Z->F1 Z->Hp->VK->Prop:=λx lo hi H Q=>∃a xs,x=.ref a/\SqT K H a xs/\(HT.sIx xs.length 0 lo=0/\HT.sIx xs.length xs.length hi=xs.length)/\Q (.ref a) H
theorem Gx:SlR X (L5 X.K):=by
 intro z8 s σ H x v vl vu lo hi sl Q I c e pl f h;obtain⟨a,xs,rfl,g,hw,q⟩:=h;cases c;obtain⟨its,r,b,hz⟩:=I.tuple g;have wb:its.toArray.size=xs.length:=by rw[NM,r.length]
 refine⟨"tuple",_,QH.lookup,b.typeIs,?_⟩;exact kN b e pl f (by rw[wb];exact hw) ⟨.ref a,H,I,rfl,q⟩
def cutD(xs:J L)(lo hi:F1 Z):J PyData:=(xs.drop (HT.sIx xs.length 0 lo)).take (HT.sIx xs.length xs.length hi-HT.sIx xs.length 0 lo)
def GH:L->F1 Z->F1 Z->F1 L
 |.list x,lo,hi=>↥(cutD x lo hi)
 |.tuple x,lo,hi=>Y (.tuple (cutD x lo hi))
 |_,_,_=>S
def DE:L->Rs (F1 Z)
 |.int i=>.ok (Y i)
 |_=>.no
def c6:Ds->Rs (F1 Z):=λ_=>.ok S
def gm(g:Ds->Rs L):Ds->Rs (F1 Z):=λδ=>(g δ).bind DE
def Nm(E:XK)(H:Hp)(r:Rs (F1 Z))(Q:F1 Z->Hp->Prop):Prop:=match r with
 |.ok o=>∀H',aw H H'->Q o H'
 |.rz C=>∀H',aw H H'->E (.ref C) S H'
 |.no=>False
def oD(K:Qp)(E:XK)(g:Ds->Rs (F1 Z)):TO:=λσ H Q=>∃A δ,eI K H A δ σ/\Nm E H (g δ) Q
def POD(X:Cx)(E:XK)(e:F1 Qt)(g:Ds->Rs (F1 Z)):Prop:=PO X e (oD X.K E g)
theorem PO.imp{e:F1 Qt}{t t':TO}(h:PO X e t)(k:∀σ H Q,t' σ H Q->t σ H Q):PO X e t':=λz8 s σ H Q I q=>h z8 s σ H Q I (k σ H Q q)
theorem ED:POD X E S c6:=F0.imp λσ H Q a=>(by obtain⟨A,δ,R,o⟩:=a;exact o H (aw.refl _))
theorem Fz(h:PD X E e ga):POD X E (Y e) (gm ga):=(FY h).imp λσ H Q ⟨A,δ,R,o⟩=>⟨A,δ,R,by
 unfold gm at o;cases q:ga δ with
 |no=>rw[q]at o;exact o
 |rz C=>rw[q]at o;exact o
 |ok d =>
  rw[q]at o;cases d with
  |int i=>exact λv H' s h=>⟨i,h.ofInt,o H' s⟩
  |_=>exact o.elim⟩
theorem oD.run{g:Ds->Rs (F1 Z)}{Q:F1 Z->Hp->Prop}(R:eI K H A δ σ)
  (ok:∀d,g δ=.ok d->∀H',aw H H'->eI K H' A δ σ->Q d H') (rz:∀C,g δ=.rz C->∀H',aw H H'->E (.ref C) S H') (no:g δ=.no->False):oD K E g σ H Q:=by
 refine⟨A,δ,R,?_⟩;cases e:g δ with
 |ok d=>exact λH' s=>ok d e H' s (R.same s)
 |rz C=>exact λH' s=>rz C e H' s
 |no=>exact no e
def eJ(g:Ds->Rs L)(lo hi:Ds->Rs (F1 Z)):Ds->Rs PyData:=λδ=>(g δ).bind λd=>(lo δ).bind λl=>(hi δ).bind λh=>Rs.dS (GH d l h)
theorem Iss.cut(h:Iss K H ds vs)(lo hi:F1 Z):Iss K H (cutD ds lo hi) (xr vs lo hi):=by unfold cutD xr;rw[h.length];exact (h.drop _).take _
theorem FF{lo hi:F1 Qt}{m n:Ds->Rs (F1 Z)}(t:PD X E e ga)(hl:POD X E lo m)(u:POD X E hi n):PD X E (.Subscript e (.Slice lo hi S p2) pos) (eJ ga m n) :=
 (ES (Hv.or (Ka.or Gx)) t hl u).imp λσ H Q i=>by
  obtain⟨A,δ,R,o⟩:=i;unfold eJ at o;refine eD.run R (λd w v H1 j x hv=>?_) (λC a H' s'=>by rw[a]at o;exact o H' s') (λa=>by rw[a]at o;exact o);dsimp[w,Rs.ag]at o;refine oD.run x (λl y H2 s2 R2=>?_) (λC a H' s'=>by rw[a]at o;exact o H' (j.trans s')) (λa=>by rw[a]at o;exact o);dsimp[y,Rs.ag]at o;refine oD.run R2 (λh z H3 r s=>?_) (λC a H' s'=>by rw[a]at o;exact o H' (j.trans (s2.trans s'))) (λa=>by rw[a]at o;exact o);dsimp[z,Rs.ag]at o;have f:=hv.same (s2.trans r).del;have b:=j.trans (s2.trans r);cases d with
  |list ds =>obtain⟨p,xs,rfl,hp,c⟩:=f.ofLst;exact .inl ⟨p,xs,rfl,SqL.of (ay _ _ hp),λq g=>o _ _ (b.trans (bS g)) (oS s.ls g (c.cut l h))⟩
  |tuple ds =>
   obtain⟨p,xs,rfl,hp,c⟩:=f.ofTup;by_cases hw:HT.sIx xs.length 0 l=0/\HT.sIx xs.length xs.length h=xs.length
   .refine .inr (.inr ⟨p,xs,rfl,SqT.of (ay _ _ hp),hw,o _ _ b ?_⟩);have e:cutD ds l h=ds:=by unfold cutD;rw[<-c.length,hw.1,hw.2];simp[c.length]
    show Is X.K _ (.tuple (cutD ds l h)) _;rw[e];exact kg hp c
   .exact .inr (.inl ⟨p,xs,rfl,SqT.of (ay _ _ hp),hw,λq g=>o _ _ (b.trans (bS g)) (lF s.ls g (c.cut l h))⟩)
  |_=>exact o.elim
def toV:L->V
 |.none=>.non
 |.bool b=>.bl b
 |.int i=>.int i
 |.str x=>.str x
 |_=>.non
def inD(x:L)(xs:J L):Bool:=inV (toV x) (xs.map toV)
def Dl(neg:Qo):L->L->F1 L
 |x,.list xs=>if gp x&&xs.all gp then Y (.bool (if neg then !inD x xs else inD x xs)) else S
 |x,.tuple xs=>if gp x&&xs.all gp then Y (.bool (if neg then !inD x xs else inD x xs)) else S
 |_,_=>S
theorem Is.flat{d:L}(h:Is K H d v)(f:gp d=true):v=toV d/\jL v=true:=by
 cases d with
 |none=>rw[h.ofNone];exact⟨rfl,rfl⟩
 |bool b=>rw[h.ofBool];exact⟨rfl,rfl⟩
 |int i=>rw[h.ofInt];exact⟨rfl,rfl⟩
 |str x=>rw[h.ofStr];exact⟨rfl,rfl⟩
 |_=>cases f
theorem Iss.flat{K:Qp}{H:Hp}:∀{ds:J L}{vs:J V},Iss K H ds vs->ds.all gp=true->vs=ds.map toV/\vs.all jL=true
 |[],_,h,_=>by rw[h.nil_of];exact⟨rfl,rfl⟩
 |d::ds,_,h,f=>by rw[Px,NG]at f;obtain⟨v,r,rfl,h1,h2⟩:=h.cons_of;obtain⟨e1,f1⟩:=h1.flat f.1;obtain⟨e2,f2⟩:=Iss.flat h2 f.2;exact⟨by rw[e1,e2];rfl,by rw[Px,f1,f2];rfl⟩
theorem KR{neg:Qo}:OpD K (Dl neg) (rIn K neg):=λd1 d2 d x y H A Q e hA h1 h2 k=>by
 unfold Dl at e;split at e
 .split at e
  .rename_i z;rw[NG]at z;cases e;obtain⟨p,xs,rfl,hp,a⟩:=h2.ofLst;obtain⟨e1,f1⟩:=h1.flat z.1;obtain⟨e2,f2⟩:=a.flat z.2;refine⟨p,xs,rfl,.inl (SqL.of (ay _ _ hp)),f1,f2,?_⟩;rw[e1,e2];exact k _ H (aw.refl _) is_bool
  .cases e
 .split at e
  .rename_i z;rw[NG]at z;cases e;obtain⟨p,xs,rfl,hp,a⟩:=h2.ofTup;obtain⟨e1,f1⟩:=h1.flat z.1;obtain⟨e2,f2⟩:=a.flat z.2;refine⟨p,xs,rfl,.inr (SqT.of (ay _ _ hp)),f1,f2,?_⟩;rw[e1,e2];exact k _ H (aw.refl _) is_bool
  .cases e
 .cases e
theorem LG(ha:PD X E a ga)(c:PD X E b gb)(hm:behindInMarks .In b=false):PD X E (.Compare a [.In] [b] pos) (g2 (Dl false) ga gb):=jl KR ha c λh1 h2=>uR Co h1 h2 hm
def fR(f e:L->L->F1 L)(a b c:Ds->Rs L):Ds->Rs PyData:=λδ=>(a δ).bind λx=>(b δ).bind λy=>(Rs.dS (f x y)).bind λz=>(truth z).bind λt=>if t=true then (c δ).bind λw=>Rs.dS (e y w) else .ok (.bool false)
theorem DS{g:UT}{r p:R2}{i:L->L->F1 L}(y:OpR X (compareOp op) r)(l:OpR X (compareOp g) p)(B:OpD X.K f r)(m:OpD X.K i p)(ha:PD X E a ga)(D:PD X E b gb)(hc:PD X E c gc)
  (hm:lastMarks [op,g] [b,c]=false:=by with_unfolding_all rfl):PD X E (.Compare a [op,g] [b,c] pos) (fR f i ga gb gc):=(DF y l ha D hc hm).imp λσ H Q n=>by
 obtain⟨A,δ,R,o⟩:=n;unfold fR at o;refine eD.run R (λd1 e1 v H1 j F h1=>?_) (λC e H' s'=>by rw[e]at o;exact o H' s') (λe=>by rw[e]at o;exact o);dsimp[e1,Rs.ag]at o;refine eD.run F (λd2 e2 u H2 s2 R2 h2=>?_) (λC e H' s'=>by rw[e]at o;exact o H' (j.trans s')) (λe=>by rw[e]at o;exact o);dsimp[e2,Rs.ag]at o;cases e3:f d1 d2 with
 |none=>rw[e3]at o;exact o.elim
 |some z =>
  dsimp[e3,Rs.ak,Rs.ag]at o;refine B d1 d2 z v u H2 A _ e3 R2.ls (h1.same s2.del) h2 λw G h I=>?_
  obtain⟨t,rfl,o⟩:=ma o;refine⟨t,I.ofBool,?_⟩;cases t with
  |false=>exact o _ G (j.trans (s2.trans h)) is_bool
  |true =>
   have o:ic X.K E A H ((gc δ).bind λw=>Rs.dS (i d2 w)) Q:=o;refine eD.run (R2.same h) (λq B' Dd M s N EE=>?_) (λC e H' s'=>by rw[e]at o;exact o H' (j.trans (s2.trans (h.trans s')))) (λe=>by rw[e]at o;exact o);dsimp[B',Rs.ag]at o;cases e5:i d2 q with
   |none=>rw[e5]at o;exact o.elim
   |some d=>rw[e5]at o;exact m d2 q d u Dd M A Q e5 N.ls (h2.same (h.trans s).del) EE λx P D' T=>o x P (j.trans (s2.trans (h.trans (s.trans D')))) T
theorem Il(ha:PD X E a ga)(e:PD X E b gb)(hc:PD X E c gc)(hm:lastMarks [.LtE,.LtE] [b,c]=false):PD X E (.Compare a [.LtE,.LtE] [b,c] pos) (fR dLe dLe ga gb gc):=DS xq xq (jv λ_ _ _ _=>is_bool) (jv λ_ _ _ _=>is_bool) ha e hc hm
end
def Itc(lo c:Z)(n:O):It:=⟨λi _=>i<n,λi H x H'=>H'=H/\x=.int (lo+i*c),λi _=>n<=i⟩
theorem wZ(it:J')(lo c:Z)(n:O):Turn P w K tg (Itc lo c n) [it] it (λi h=>Tv h it (lo+(i:O)*c) ((n:Z)-(i:O)) c) where
 mem:=by simp
 obj:=λi h st b a=>by
  have e:b=it:=by simpa using a
  subst e;exact⟨_,st,λv z=>by have u:VZ _=Wi v:=z;cases u⟩
 keep:=λi h h' st k=>k it #[2] _ st
 item:=by
  intro X j hw hK hc i z8 s σ H E I g st l;subst j hw hK;obtain⟨m,f1,f2,p,q,r⟩:=g it #[2];have W:=V' (prog:=X.prog) (w:=X.w) (I.ok.hd hc) it lo c n;refine W.item i s _ _ l st λv h' tk hv f x=>?_
  obtain⟨t,rfl⟩:=hv;have y:Inv X z8 σ H {s with heap:=h',toks:=tk}:=I.turned (λb o a e=>x b o (by simpa using a) e) m f1 p q r;exact⟨_,rfl,xw (s:={s with heap:=h',toks:=tk}) (n:="range_iterator") f rfl rfl #[1] ⟨.int (lo+i*c),H,y,⟨t,rfl⟩,⟨rfl,rfl⟩,f,λb a=>(g b a).1⟩⟩
 done:=by intro X j hw hK hc i z8 s σ H E I g st l;subst j hw hK;obtain⟨m,f1,f2,p,q,r⟩:=g it #[2];exact T9 (I.ok.hd hc) st (by have:n<=i:=l;omega) λh' A=>⟨rfl,I.turned (t':=s.toks) (λb o a e=>A b o a e) m f1 p q r⟩
 self:=λ_ _ _ _ _ st h=>Ta st h
section
variable {E:XK}{a b c:Qt}
def xU(i j c:Z):Nat:=(QL i j c).toNat
theorem uQ(a b c:Z):0<=QL a b c:=by
 unfold QL;split
 .split
  .rename_i h1 h2;have:0<=(b-a-1) / c:=Pl ⋯ ⋯;omega
  .omega
 .split
  .rename_i h1 h2;by_cases hc:c=0
   .subst hc;simp
   .have:0<=(a-b-1) / (-c):=Pl ⋯ ⋯;omega
  .omega
noncomputable def qH(i j c:Z):Bool:=decide (-(1000000)<=i/\i<=1000000/\-(1000000)<=j/\j<=1000000/\-(1000000)<=c/\c<=1000000/\c≠0)&&Su i j c
def MC(ta:TA):TI:=λσ H R=>ta σ H λvs H1=>∃i j c:Z,vs=[.int i,.int j,.int c]/\qH i j c=true/\R (Itc i c (xU i j c)) H1
theorem CJ(v:Gl X "range")(hm:X.mg "range"=S)(ha:PA X [a,b,c] ta)(w:starEach [a,b,c] X.env=[(false,eval a X.env),(false,eval b X.env),(false,eval c X.env)]:=by rfl)(m:starEach [b,c] X.env=[(false,eval b X.env),(false,eval c X.env)]:=by rfl) :
  PI X tg (.Call (.Name "range" p) [a,b,c] [] pos) (MC ta):=by
 intro z8 s σ H R I h;refine Vl (fz I v hm U8 (Qv (thn (ha pos z8 s σ H _ I h) λus g n=>?_) (by rw[w,m]) (by rw[m];rfl)));obtain⟨vs,H1,x,y,l⟩:=n;obtain⟨i,j,c,e,l,q⟩:=l;subst e;unfold qH at l;rw[NG]at l;have z:=QC l.1;cases y with
 |cons r rr =>
  cases rr with
  |cons r' rr =>
   cases rr with
   |cons r'' rr =>
    cases rr;obtain⟨t,rfl⟩:=r;obtain⟨t',rfl⟩:=r';obtain⟨f,rfl⟩:=r'';refine PySem.call_range_3 z.2.2.2.2.2.2 ?_ (.inl (Tb ⋯));refine U7 (UX ..) l.2 ?_;have u:Inv X z8 σ H1 {g with heap:=g.heap.push {cls:=.type "range",data:=.fields #[.int i t,.int j t',.int c f]},toks:=g.toks}:=x.kept λb o e=>N5 _ e
    refine⟨(g.heap.push {cls:=.type "range",data:=.fields #[.int i t,.int j t',.int c f]}).objs.size,[(g.heap.push {cls:=.type "range",data:=.fields #[.int i t,.int j t',.int c f]}).objs.size],_,_,H1,rfl,
     u.kept (t':=g.toks) λb o e=>N5 _ e,wZ _ i c (xU i j c),?_,λb A=>?_,q⟩
    .have e1:i+((0:O):Z)*c=i:=by simp
     have e2:((xU i j c:O):Z)-((0:O):Z)=QL i j c:=by have:=uQ i j c;unfold xU;omega
     show Tv _ _ (i+((0:O):Z)*c) (((xU i j c:O):Z)-((0:O):Z)) c;rw[e1,e2];exact NN _ rfl
    .have e:b=(g.heap.push {cls:=.type "range",data:=.fields #[.int i t,.int j t',.int c f]}).objs.size:=by simpa using A
     subst e;exact u.fpOk (ND _) (u.hok.fresh (ND _))
def gN(lo c:Z)(n:O):J PyData:=(M' n).map λ(i:O)=>FC (lo+(i:Z)*c)
theorem ib(lo c:Z)(n:O):(gN lo c n).length=n:=by simp[gN]
theorem xk{lo c:Z}{n:O}:yp K (Itc lo c n) (gN lo c n) G:=λH1 B s _ hB=>by refine⟨λi hi=>by rw[ib]at hi;exact hi,by rw[ib];exact ND _,λi x H2 hi y=>?_⟩;obtain⟨rfl,rfl⟩:=y;rw[ib]at hi;exact⟨aw.refl _,_,by simp[gN,hi],bP⟩
def FR:J L->Rs (J L)
 |[.int i,.int j,.int c]=>if qH i j c then .ok (gN i c (xU i j c)) else .no
 |_=>.no
def AS(g:Ds->Rs (J L)):Ds->Rs (J L):=λδ=>(g δ).bind FR
theorem MQ{d e f:L}(h:Iss K H [d,e,f] vs):∃v u w,vs=[v,u,w]/\Is K H d v/\Is K H e u/\Is K H f w:=by obtain⟨v,r,rfl,h1,h2⟩:=h.cons_of;obtain⟨u,w,rfl,a,b⟩:=Dh h2;exact⟨v,u,w,rfl,h1,a,b⟩
theorem yM(hm:X.mg "range"=S)(ha:PAD X E [a,b,c] gs)(i:Gl X "range")(j:starEach [a,b,c] X.env=[(false,eval a X.env),(false,eval b X.env),(false,eval c X.env)])(f:starEach [b,c] X.env=[(false,eval b X.env),(false,eval c X.env)]) :
  PID X E tg (.Call (.Name "range" p) [a,b,c] [] pos) (AS gs):=(CJ i hm ha.1 j f).imp λσ H R ⟨A,δ,Rp,o⟩=>ug Rp o λds vs H1 e s1 R1 h1 o=>by
 unfold FR at o;split at o
 .split at o
  .rename_i z;obtain⟨v,u,w,rfl,h,h',g⟩:=MQ h1;rw[h.ofInt,h'.ofInt,g.ofInt];exact⟨_,_,_,rfl,z,o _ H1 (aw.refl _) xk⟩
  .exact o.elim
 .exact o.elim
def tLR(ta:TA):TE:=λσ H Q=>ta σ H λvs H1=>∃j:Z,vs=[.int j]/\0<=j/\j<=1000000/\∀p,H1 p=S->Q (.ref p) (upd H1 p (.lst ((M' j.toNat).map λ(i:O)=>V.int (i:Z))))
theorem KH{s2:LN}{Q:VK}{j:Z}{tk:O}{a:QR GC}{c':O}(c:Inv X z8 σ H1 s2)(g:∀b o,s2.heap.get? b=Y o->h'.get? b=Y o)
 (hl:h'.get? s2.heap.objs.size=Y {cls:=.type "list",dict:=S,data:=.seq a c',slots:=#[]}) (hi:ItemsOf (λi v=>∃t,v=.int ((0:Z)+(i:Z)*1) t) a j.toNat) (q1:0<=j) (q2:j<=1000000)
 (q:∀p,H1 p=S->Q (.ref p) (upd H1 p (.lst ((M' j.toNat).map λ(i:O)=>V.int (i:Z))))):EP X z8 σ Q (.ref s2.heap.objs.size) {s2 with heap:=h',toks:=tk}:=by
 have hv:Vals ((M' j.toNat).map λ(i:O)=>V.int (i:Z)) a.toList:=by
  have aux:∀(l:J GC)(k:O),(∀(m:O) v,l[m]?=Y v->∃t,v=.int ((0:Z)+((k+m:O):Z)*1) t)->Vals ((Rn k l.length).map λ(i:O)=>V.int (i:Z)) l:=by
   intro l
   induction l with
   |nil=>intro k _;exact .nil
   |cons x r ih =>
    intro k f;rw[NP,Ph,N2];refine .cons ?_ (ih (k+1) λm v hm=>?_)
    .obtain⟨t,e⟩:=f 0 x rfl;exact⟨t,by rw[e];simp⟩
    .obtain⟨t,e⟩:=f (m+1) v (by simpa using hm);exact⟨t,by rw[e,show k+(m+1)=k+1+m by omega]⟩
  have h1:=aux a.toList 0 (λm v hm=>by obtain⟨t,e⟩:=hi.2 m v (by rw[<-PX];exact hm);exact⟨t,by rw[e];simp⟩)
  rw[OM,hi.1]at h1;rw[TK];exact h1
 exact⟨.ref s2.heap.objs.size,_,c.laid (t':=tk) g (ND _) (show cC X.prog X.w _ h' _ (.lst ((M' j.toNat).map λ(i:O)=>V.int (i:Z))) from⟨by rw[N8,PQ,QI];omega,a.toList,c',hv,by simpa using hl⟩),rfl,q _ (c.hok.fresh (ND _))⟩
theorem ve{c:Ts}(hc:X.calm=true)(v:Gl X "range")(hm:X.mg "range"=S)(g:Gl X "list")(i:X.mg "list"=S)(ha:PA X [a] ta)(w:starEach [a] X.env=[(false,eval a X.env)]:=by rfl)
  (f:starEach [.Call (.Name "range" p) [a] [] pos] X.env=[(false,eval (.Call (.Name "range" p) [a] [] pos) X.env)]:=by rfl) :
  PE X (.Call (.Name "list" p2) [.Call (.Name "range" p) [a] [] pos] [] c) (tLR ta):=by
 intro z8 s σ H Q I h;refine Vl (fz I g i zY (Qv ?_ f rfl));rw[f];show wpAny _ _ (spliced ((false,eval (.Call (.Name "range" p) [a] [] pos) X.env)::backTo c [])) _ _ s;refine SE (Vl (fz I v hm U8 (Qv (thn (ha pos z8 s σ H _ I h) λus s1 l=>?_) w rfl)));obtain⟨vs,H1,u,x,m⟩:=l;obtain⟨j,e,m,y,q⟩:=m;subst e;cases x with
 |cons r rr =>
  cases rr;obtain⟨t,rfl⟩:=r;refine call_range_1 (SR ?_);have e2:QL 0 j 1=((j.toNat:O):Z):=by rw[rangeSize_one];split <;> omega
  refine call_list_range (n:=j.toNat) (u.ok.hd hc) (UX ..) (small_one ⋯ ⋯ ⋯ ⋯) e2 ⋯ λh' tk acc' c' z hl hi=>?_
  exact KH (u.kept λb o e=>N5 _ e) z hl hi m y q
def uM:J L->Rs (J L)
 |[.int j]=>if 0<=j/\j<=1000000 then .ok (bF 0 j.toNat) else .no
 |_=>.no
def gLR(g:Ds->Rs (J L)):Ds->Rs (J L):=λδ=>(g δ).bind uM
theorem B2{b:Ts}(hc:X.calm=true)(hm:X.mg "range"=S)(c:X.mg "list"=S)(ha:PAD X E [a] gs)(r:Gl X "range")(f:Gl X "list")(s:starEach [a] X.env=[(false,eval a X.env)])
  (g:starEach [.Call (.Name "range" p) [a] [] pos] X.env=[(false,eval (.Call (.Name "range" p) [a] [] pos) X.env)]):PLD X E (.Call (.Name "list" p2) [.Call (.Name "range" p) [a] [] pos] [] b) (gLR gs) :=
 (ve hc r hm f c ha.1 s g).imp λσ H Q l=>by
  obtain⟨A,δ,R,o⟩:=l;unfold gLR at o;refine aD.run R (λds e vs H1 m R1 h1=>?_) (λC e H' s'=>by rw[e]at o;exact o H' s') (λe=>by rw[e]at o;exact o);dsimp[e,Rs.ag]at o;unfold uM at o;split at o
  .split at o
   .rename_i j z;obtain⟨v,rfl,h⟩:=lg h1;rw[h.ofInt];refine⟨j,rfl,z.1,z.2,λq n=>o q _ _ (m.free n) (m.trans (bS n)) aM ?_⟩;have:bF 0 j.toNat=((M' j.toNat).map λ(i:O)=>(i:Z)).map L.int:=by unfold bF;rw[NO];congr 1;funext i;simp
    rw[this,show ((M' j.toNat).map λ(i:O)=>V.int (i:Z))=((M' j.toNat).map λ(i:O)=>(i:Z)).map V.int by rw[NO];rfl];exact mB _
   .exact o.elim
  .exact o.elim
end
theorem wV(t:J')(xs:QR GC):W5 (Qq.«enumerate.__new__» ⟨[.type "enumerate",.ref t],[]⟩) (λ_ R s=>s.heap.IsTuple t xs /\
   R (.ok (.ret (.ref (s.heap.push {cls:=.type "tuple_iterator",data:=.fields #[.ref t,.int 0 0]}).objs.size)))
    {s with heap:=(s.heap.push {cls:=.type "tuple_iterator",data:=.fields #[.ref t,.int 0 0]}).push {cls:=.type "enumerate",data:=.fields #[.none,.bool false,.ref s.heap.objs.size,rawInt 0,.none,.none]}}) :=
 .of_wp λprog w A R s h=>by
  obtain⟨hp,g,d,tk,os⟩:=s;obtain⟨hl,h⟩:=h;have hsub:=sub_enumerate;have hL:QD.IsTuple (U' ⟨hp,g,d,tk,os⟩) t xs:=hl
  wp_walk
  refine wpAny_stack_any λst=>K' ?_
  split
  .rename_i c _ _ _ _ _;cases (c==SA "enumerate")
   .wp_walk using RJ hL
    exact⟨_,rfl,h⟩
   .wp_walk using RJ hL
    exact⟨_,rfl,h⟩
  .wp_walk using RJ hL
   exact⟨_,rfl,h⟩
theorem xZ{A:Qs}{l:J'}(hL:s.heap.IsTuple l items)
  (h:∀h',IsEnum h' (s.heap.objs.size+1) s.heap.objs.size 0 .none->h'.IsTupleIter s.heap.objs.size l 0->(∀b o,s.heap.get? b=Y o->h'.get? b=Y o)->Q (.ref (s.heap.objs.size+1)) {s with heap:=h'}) :
  wpAny (model prog w) A (call (.type "enumerate") [.ref l]) Q E s:=by
 refine callType_new F.called_enumerate #[1] (F.typeCall_enumerate_1 _) (F.newCall_enumerate_1 _) (λobj=>F.args_object_init_2 obj _) F.entry_enumerate_new (wV l items) ⟨hL,?_⟩;have a:(s.heap.push {cls:=.type "tuple_iterator",data:=.fields #[.ref l,.int 0 0]}).objs.size=s.heap.objs.size+1:=R8 ..;show _/\_;rw[a];have c:IsEnum ((s.heap.push {cls:=.type "tuple_iterator",data:=.fields #[.ref l,.int 0 0]}).push
   {cls:=.type "enumerate",data:=.fields #[.none,.bool false,.ref s.heap.objs.size,rawInt 0,.none,.none]}) (s.heap.objs.size+1) s.heap.objs.size 0 .none:=by
  have:=NN (s.heap.push {cls:=.type "tuple_iterator",data:=.fields #[.ref l,.int 0 0]})
   (o:={cls:=.type "enumerate",data:=.fields #[.none,.bool false,.ref s.heap.objs.size,rawInt 0,.none,.none]}) rfl
  rw[a]at this;exact this
 refine⟨⟨_,c,rfl⟩,h _ c ⟨_,N5 _ (NN _ rfl),rfl,rfl⟩ λb o e=>N5 _ (N5 _ e)⟩
def Ite(P:Hp->J V->Prop)(n:O):It :=
 ⟨λi H=>i<n/\∃xs,P H xs/\xs.length=n,
  λi H v H'=>∃t x,v=.ref t/\H t=S/\H'=upd H t (.tup [.int i,x])/\∀xs,P H xs->xs[i]?=Y x,
  λi H=>i=n/\∃xs,P H xs/\xs.length=n⟩
theorem sE{N:O}{e:J'}{n:O}{p:Hp->J V->Prop}{D':O->QD->Prop}{B:QD->QR GC->Prop}(b:e≠it)(y:e≠a)
  (G:∀(A:Qs),A.handled=S->∀its:QR GC,Draws P w A it [it,a] its.size (λi v=>its[i]?=Y v) (λi h=>D' i h/\B h its))
  (hB:∀(X:Cx),X.prog=P->X.w=w->X.K=K->∀{z8:J (J'×Rv)}{s:LN}{σ:St}{H:Hp}{xs:J V},Inv X z8 σ H s->p H xs->∃its:J GC,Vals xs its/\B s.heap its.toArray)
  (EE:∀(X:Cx),X.prog=P->X.w=w->X.K=K->∀{z8:J (J'×Rv)}{s:LN}{σ:St}{H:Hp}{xs ys:J V},Inv X z8 σ H s->p H xs->p H ys->xs=ys)
  (B':∀i h,D' i h->∃o,h.get? it=Y o/\∀v,o.data≠.cell v) (hK:∀i h h',D' i h->(∀o,h.get? it=Y o->h'.get? it=Y o)->D' i h') :
  Turn P w K (.Tuple elts N tp) (Ite p n) [e,it] e (λi h=>(∃old,IsEnum h e it i old)/\D' i h) where
 mem:=by simp
 obj:=λi h st c hc=>by
  obtain⟨⟨old,h1⟩,h2⟩:=st;dsimp[NB,O0,S3]at hc;rcases hc with rfl|rfl
  .exact⟨_,h1,λv q=>by cases q⟩
  .exact B' i h h2
 keep:=λi h h' st k=>by obtain⟨⟨old,h1⟩,h2⟩:=st;exact⟨⟨old,k e #[2] _ h1⟩,hK i h h' h2 λo q=>k it #[2] o q⟩
 item:=by
  intro X z hw f hc i z8 s σ H E I r st C;subst z hw f;obtain⟨hi,xs,t,Q⟩:=C;obtain⟨⟨old,h1⟩,h2⟩:=st;obtain⟨its,u,D⟩:=hB X rfl rfl rfl I t;have la:=u.length;refine wpAny_pyNext_enum_itemD (G X.A.in1 (I.ok.hd hc) its.toArray) h1 ⟨h2,D⟩ (by simp;omega) b (by simp[b,y]) λx h' tk R T U A4 hsz A2=>⟨_,rfl,?_⟩
  refine wpAny_letOwnedTupleGo_enum (s:={s with heap:=h',toks:=tk+1}) T λF d1 d2=>?_
  have Dd:e<s.heap.objs.size:=NI h1;have il:it<s.heap.objs.size:=by obtain⟨o,q,_⟩:=B' i _ h2;exact NI q
  have up:∀c o,c≠e->h'.get? c=Y o->F.get? c=Y o:=λc o hc q=>(d2.2 c hc).trans q
  obtain⟨j,ex,rx⟩:∃j,xs[i]?=Y j/\RelV j x:=by
   have l:i<xs.length:=⋯
   obtain⟨u',e1,e2⟩:=u.get (My l);refine⟨xs[i],My l,?_⟩;have m:its[i]?=Y x:=by simpa using R
   rw[e1]at m;cases m;exact e2
  have fr:H s.heap.objs.size=none:=I.hok.fresh (ND _);refine⟨.ref s.heap.objs.size,upd H s.heap.objs.size (.tup [.int i,j]),?_,rfl,⟨_,j,rfl,fr,rfl,λys h=>by rw[EE X rfl rfl rfl I h t];exact ex⟩,?_,λc g=>?_⟩
  .refine I.turnLay (t':=tk+1) (ch:=[e,it]) r (ND _) (λc o hn q=>?_) ⟨by show 2<=sizeLine;decide,[.int i tk,x],.cons ⟨tk,rfl⟩ (.cons rx .nil),⟨_,up _ _ (OP Dd) A4,rfl,rfl,_,rfl⟩⟩;dsimp[NB,O0,S3,Wc]at hn;exact up c o hn.1 (A2 c o hn.1 hn.2 q)
  .exact⟨⟨x,by simpa using d1⟩,hK _ _ _ U.1 λo q=>up it o b.symm q⟩
  .have M:=(r c g).1;dsimp[NB,O0,S3]at g;rcases g with rfl|rfl
   .rw[aB (NJ Dd)];exact M
   .rw[aB (NJ il)];exact M
 done:=by
  intro X z hw f hc i z8 s σ H E I r st C;subst z hw f;obtain⟨hi,xs,t,Q⟩:=C;obtain⟨⟨old,h1⟩,h2⟩:=st;obtain⟨its,u,D⟩:=hB X rfl rfl rfl I t;have la:=u.length;have e':its.toArray.size=i:=by simp;omega
  refine wpAny_pyNext_enum_endD (G X.A.in1 (I.ok.hd hc) its.toArray) h1 ⟨by rw[e'];exact h2,D⟩ λh' k=>⟨rfl,?_⟩
  refine I.turneds (t':=s.toks) (ch:=[e,it]) r λc o hn q=>?_
  dsimp[NB,O0,S3,Wc]at hn;exact k c o hn.2 q
 self:=λ_ _ _ _ _ st h=>by obtain⟨⟨old,h1⟩,_⟩:=st;exact SS h1 h
theorem F8:bootBuiltins "enumerate"=Y (.type "enumerate"):=by decide +kernel
def L8(K:Qp)(ta:TA):TI:=λσ H R=>ta σ H λvs H1=>∃a xs,vs=[.ref a]/\((SqT K H1 a xs/\R (Ite (λH ys=>SqT K H a ys) xs.length) H1)\/(SqL K H1 a xs/\R (Ite (λH ys=>SqL K H a ys) xs.length) H1))
theorem GW{E:O}{a:Qt}(F:Gl X "enumerate")(hm:X.mg "enumerate"=S)(ha:PA X [a] ta)(G:starEach [a] X.env=[(false,eval a X.env)]:=by rfl) :
  PI X (.Tuple elts E tp) (.Call (.Name "enumerate" p) [a] [] pos) (L8 X.K ta):=by
 intro z8 s σ H R I h;refine Vl (fz I F hm F8 (Qv (thn (ha pos z8 s σ H _ I h) λus b w=>?_) G rfl));obtain⟨vs,H1,j,B',Dd⟩:=w;obtain⟨f,xs,e,q⟩:=Dd;subst e;obtain⟨u1,e1,M⟩:=vals1 B';subst e1;cases M;have big:∀c∈[b.heap.objs.size+1,b.heap.objs.size],b.heap.objs.size<=c:=λc hc=>by
  dsimp[NB,O0,S3]at hc;rcases hc with rfl|rfl
  .exact Pd _
  .exact ND _
 have l:b.heap.objs.size+1≠b.heap.objs.size:=Qe _;rcases q with⟨x,q⟩|⟨x,q⟩
 .obtain⟨its,m,pt,_⟩:=j.tuple x;have n:b.heap.IsTuple f its.toArray:=pt;have t:f<b.heap.objs.size:=by obtain⟨_,g,_⟩:=n;exact NI g
  refine xZ n λh' u hit y=>SS u ?_
  have z:Inv X z8 σ H1 {b with heap:=h'}:=j.kept (t':=b.toks) y;refine⟨_,_,_,_,H1,rfl,z,sE (a:=f) (D':=λi h=>h.IsTupleIter b.heap.objs.size f i) (B:=λh its=>h.IsTuple f its) l (OP (Oj t)) (λA C its=>BS C b.heap.objs.size f (NJ t) its)
   (λX' _ _ hK{_ _ _ _ _} I h=>?_) (λX' _ _ hK{_ _ _ _ _ _} I h1 h2=>?_) (λi h st=>?_) (λi h D st k=>?_),⟨⟨_,u⟩,hit⟩,λc hc=>j.fpOk (big c hc) (j.hok.fresh (big c hc)),q⟩
  .rw[<-hK]at h;obtain⟨its,m,p,_⟩:=I.tuple h;exact⟨its,m,p⟩
  .rw[<-hK]at h1 h2;exact I.tuple_inj h1 h2
  .obtain⟨o,g,_,d⟩:=st;exact⟨o,g,λv q=>by rw[d]at q;cases q⟩
  .obtain⟨o,g,r⟩:=st;exact⟨o,k o g,r⟩
 .obtain⟨its,m,pl,_⟩:=j.list x;have t:f<b.heap.objs.size:=by obtain⟨_,_,g,_⟩:=pl;exact NI g
  refine call_enumerate_list pl.isList λh' u hit hz y=>SS u ?_
  have z:Inv X z8 σ H1 {b with heap:=h'}:=j.kept (t':=b.toks) y;refine⟨_,_,_,_,H1,rfl,z,sE (a:=f) (D':=λi h=>h.IsListIter b.heap.objs.size f i) (B:=λh its=>h.IsList f its) l (OP (Oj t)) (λA C its=>Draws.list C b.heap.objs.size f (NJ t) its)
   (λX' _ _ hK{_ _ _ _ _} I h=>?_) (λX' _ _ hK{_ _ _ _ _ _} I h1 h2=>?_) (λi h st=>?_) (λi h D st k=>?_),⟨⟨_,u⟩,hit⟩,λc hc=>j.fpOk (big c hc) (j.hok.fresh (big c hc)),q⟩
  .rw[<-hK]at h;obtain⟨its,m,p,_⟩:=I.list h;exact⟨its,m,p.isList⟩
  .rw[<-hK]at h1 h2;exact I.list_inj h1 h2
  .obtain⟨o,g,_,d⟩:=st;exact⟨o,g,λv q=>by rw[d]at q;cases q⟩
  .obtain⟨o,g,r⟩:=st;exact⟨o,k o g,r⟩
def ij(ds:J L):J PyData:=ds.mapIdx λi d=>.tuple [.int i,d]
theorem BF(ds:J L):(ij ds).length=ds.length:=by simp[ij]
theorem sX{c:Hp->J V->Prop}(h:Iss K G ds xs)(hp:∀H1,aw G H1->c H1 xs):yp K (Ite c xs.length) (ij ds) G:=λH1 B s g hB=>by have hl:=h.length;rw[BF];refine⟨λi hi=>⟨⋯,xs,hp H1 s,rfl⟩,⟨hl.symm,xs,hp H1 s,rfl⟩,λi x H2 hi y=>?_⟩;obtain⟨t,x0,rfl,a,rfl,j⟩:=y;obtain⟨d,e,hd⟩:=h.get (j xs (hp H1 s));refine⟨bS a,.tuple [.int i,d],by unfold ij;rw[O3,e];rfl,?_⟩;have l:t∉B:=g.new a;exact kg (by rw[bb l];exact aM) (dQ bP (lP (hd.same (λb o q=>by have f:=s b o q;have m:b≠t:=aI f a;rw[bb (λz=>by rw[hB b z]at q;cases q),aB m];exact f))))
section
variable {E:XK}{a b c e k:Qt}{ga gb:Ds->Rs L}{es:J Qt}
def qG:J L->Rs (J L)
 |[.list ds]=>.ok (ij ds)
 |[.tuple ds]=>.ok (ij ds)
 |_=>.no
def iq(g:Ds->Rs (J L)):Ds->Rs (J L):=λδ=>(g δ).bind qG
theorem Ed{c:O}(hm:X.mg "enumerate"=S)(ha:PAD X E [a] gs)(f:Gl X "enumerate")(g:starEach [a] X.env=[(false,eval a X.env)]) :
  PID X E (.Tuple elts c tp) (.Call (.Name "enumerate" p) [a] [] pos) (iq gs):=(GW f hm ha.1 g).imp λσ H R ⟨A,δ,Rp,o⟩=>ug Rp o λds vs H1 e s1 R1 h1 o=>by
 unfold qG at o;split at o
 .obtain⟨v,rfl,h⟩:=lg h1;obtain⟨p,xs,rfl,hp,b⟩:=h.ofLst;exact⟨p,xs,rfl,.inr ⟨SqL.of (ay _ _ hp),o _ H1 (aw.refl _) (sX b λH2 s2=>SqL.of (s2 _ _ hp))⟩⟩
 .obtain⟨v,rfl,h⟩:=lg h1;obtain⟨p,xs,rfl,hp,b⟩:=h.ofTup;exact⟨p,xs,rfl,.inl ⟨SqT.of (ay _ _ hp),o _ H1 (aw.refl _) (sX b λH2 s2=>SqT.of (s2 _ _ hp))⟩⟩
 .exact o.elim
def jo(y x:O)(gk:Ds->Rs L):Ds->Sr:=λδ=>match δ[y]?,δ[x]? with
 |some ↥ys,Y ↥xs=>ofR (gk δ) λk=>match k with
  |.int k=>if -(1000000)<=k/\k<=1000000/\ys.length<1000000 then (match ixN xs.length k with
   |some j=>match xs[j]? with
    |some d=>.nx ((δ.set x ↥(xs.eraseIdx j)).set y ↥(ys++[d]))
    |none=>.no
   |none=>.no) else .no
  |_=>.no
 |_,_=>.no
theorem xX{y x:O}{a nx:Qn}{t v b h c:Ts}(hk:PD X E k gk)(B:x≠y)(i:y∈EE)(l:x∈EE)(Dd:X.N[y]?=Y a)(M:X.N[x]?=Y nx)
  (P:Vis X.env.scope a) (Q:Vis X.env.scope nx)
  (D':(a==("__debug__":Qn))=false) (G:(a==("__classdict__":Qn))=false) (T:(nx==("__debug__":Qn))=false) (I:(nx==("__classdict__":Qn))=false)
  (B':starEach [k] X.env=(false,eval k X.env)::starEach [] X.env) (g:starEach [.Call (.Attribute (.Name nx b) "pop" h) [k] [] c] X.env=(false,eval (.Call (.Attribute (.Name nx b) "pop" h) [k] [] c) X.env)::starEach [] X.env)
  (m:attributeBase (.Name nx b) "pop" X.env (eval (.Name nx b) X.env)=eval (.Name nx b) X.env) (e:attributeBase (.Name a t) "append" X.env (eval (.Name a t) X.env)=eval (.Name a t) X.env)
  (K:((backTo c (starEach [k] X.env)).all (λx=>!x.1)&&(backToKw c (keywordEach [] X.env)).all (λx=>x.1.isSome)&&decide (([k]:J Qt).length+([]:J RA).length+(if ([]:J RA).isEmpty then 0 else 1)<30))=true)
  (n:((backTo v (starEach [.Call (.Attribute (.Name nx b) "pop" h) [k] [] c] X.env)).all (λx=>!x.1)&&(backToKw v (keywordEach [] X.env)).all (λx=>x.1.isSome)&&decide (([.Call (.Attribute (.Name nx b) "pop" h) [k] [] c]:J Qt).length+([]:J RA).length+(if ([]:J RA).isEmpty then 0 else 1)<30))=true)
  (q:(h.endLine==c.line)=true) (f:(pa.endLine==v.line)=true)
  (hs:swapsWith (.Call (.Attribute (.Name a t) "append" pa) [.Call (.Attribute (.Name nx b) "pop" h) [k] [] c] [] v) S pos.line X.env=pure false) :
  PSD X E EE (.Expr (.Call (.Attribute (.Name a t) "append" pa) [.Call (.Attribute (.Name nx b) "pop" h) [k] [] c] [] v) pos) (jo y x gk) :=
 (oY (Ba Sa S4 SH ky (gQ Dd P D' G) (dJ (Ba Sa V3 F.type_list_pop E8 (gQ M Q T I) (dJ hk fO B') m K q B' rfl) fO g) e n f g rfl) hs).imp λD σ H U=>by
  obtain⟨H0,A0,A,δ,R,o⟩:=U;unfold jo at o;split at o
  .rename_i ys xs W A4;obtain⟨p,vy,dy,e1,hp,hl,e2,hx⟩:=R.ownL i W;cases e2;obtain⟨r,A2,dx,f1,hr,hm,f2,hz⟩:=R.ownL l A4;cases f2;have npr:p≠r:=λz=>B (R.inj x y _ _ p l i A4 W (by rw[z];exact f1) e1)
   refine⟨_,e1,tyL hl,_,f1,tyL hm,?_⟩;refine eD.run R.full (λkd ek u H1 s R1 hu=>?_) (λC et H' s'=>by rw[et]at o;exact o H' (R.same.trans s')) (λet=>by rw[et]at o;exact o);dsimp[ek,av]at o;split at o
   .rename_i kk;split at o
    .rename_i hb;split at o
     .rename_i j hj;split at o
      .rename_i d hd;obtain⟨w,hw,hwd⟩:=hz.getD hd;have hj':=hj;obtain⟨g1,g2,g3,g4⟩:=uo hj;have RS:=R.step s;have RS2:=RS.put (ds:=xs.eraseIdx j) (ys:=A2.eraseIdx j) l A4 f1 hr ((hz.same s.del).eraseIdx j);refine⟨r,A2,kk,j,w,rfl,by rw[hu.ofInt],s _ _ hm,⋯,⋯,by rw[hz.length];exact g1,hw,?_⟩;have dU:del (upd H1 r (.lst (A2.eraseIdx j))) (A++A0)=del H1 (A++A0):=lK (O1 _ hr);refine⟨p,vy,w,rfl,rfl,by rw[aB npr];exact s _ _ hl,by rw[hx.length,QI];omega,?_⟩;refine o A _ _ (RS2.put (ds:=ys++[d]) i (by rw[NW B];exact W) e1 hp ?_);rw[dU];exact (hx.same s.del).append (lP (hwd.same s.del))
      .exact o.elim
     .exact o.elim
    .exact o.elim
   .exact o.elim
  .exact o.elim
end
theorem vW:isSubtype (.type "tuple") (.type "set")=pure false:=by rw[Vs];kernel_rfl
theorem wq:isSubtype (.type "tuple") (.type "frozenset")=pure false:=by rw[Vs];kernel_rfl
section
variable {A:Qs}
noncomputable def seen(ns:J Z)(n:O):J Int:=firstMet (λi=>ns.getD i 0) n
theorem CG(C:A.handled=S)(D:s.heap.IsTuple a its)(hi:RF its.toList ns)(j:its.size+1<scanBound)
  (G:∀(h':QD)(tk:O),h'.SetOf (intKind prog w) s.heap.objs.size (λk=>(seen ns its.size).any (·==k)) (seen ns its.size).length->(∀b o,b<s.heap.objs.size->s.heap.get? b=Y o->h'.get? b=Y o)->Q (.ref s.heap.objs.size) {s with heap:=h',toks:=tk}) :
  wpAny (model prog w) A (call (.type "set") [.ref a]) Q E s:=by
 obtain⟨c,tl,mro⟩:=F.called_set.mro;have m1:=F.called_set.made;have m2:=F.called_set.sub;refine U9 (codeAny_of_tree ?_);show wpAny _ _ (callAny (.type "set") _) _ _ _;refine K' ⟨Code.quiet_builtin _ (by decide +kernel),QE F.entry_type_call ?_⟩;rw[Qs.under_plain (weight_type_call_type "set" [.ref a] []) rfl];have m3:=F.called_set.notType;have m4:=F.called_set.canCreate;have m5:=F.typeCall_set_1 (.ref a)
 repeat (any_goals (first|assumption|wp_step))
 refine Rz (PySem.code_set_new_1 (.ref a) (E:=E) (Q₁:=λob x=>∃led:Qo,ob=.ref s.heap.objs.size/\x={s with heap:=s.heap.push {cls:=.type "set",dict:=S,data:=.set #[] 0 (.fresh 0 0 led)}}) λled=>⟨led,rfl,rfl⟩) λr x m=>?_
 cases r with
 |error ev=>exact m
 |ok fl =>
  cases fl with
  |ret ob =>
   obtain⟨led,rfl,rfl⟩:=m;have y:(s.heap.push {cls:=.type "set",dict:=S,data:=.set #[] 0 (.fresh 0 0 led)}).get? s.heap.objs.size=Y {cls:=.type "set",dict:=S,data:=.set #[] 0 (.fresh 0 0 led)}:=NN _ rfl;have H:VB {s with heap:=s.heap.push {cls:=.type "set",dict:=S,data:=.set #[] 0 (.fresh 0 0 led)}} (.ref s.heap.objs.size) "set":=⟨_,y,rfl⟩
   have m6:=F.called_set.init.lookup;have m7:=F.called_set.init.bind (.ref s.heap.objs.size)
   repeat (any_goals (first|assumption|wp_step))
   refine Rz (codeAny_call_builtin (R:=wants (λz s2=>z=.none/\∃h' tk,s2={s with heap:=h',toks:=tk}/\h'.SetOf (intKind prog w) s.heap.objs.size (λk=>(seen ns its.size).any (·==k)) (seen ns its.size).length /\
     (∀b o,b<s.heap.objs.size->s.heap.get? b=Y o->h'.get? b=Y o)) E) F.called_set.init.plain F.entry_set_init (PySem.check_set_init_1 H ?_)) λI s2 f=>?_
   .obtain⟨⟨oc,od,oda,osl⟩,go,gc,n,B⟩:=D;simp only at gc B;subst gc;subst B;have go':(s.heap.push {cls:=.type "set",dict:=S,data:=.set #[] 0 (.fresh 0 0 led)}).get? a=Y {cls:=.type "tuple",dict:=od,data:=.seq its n,slots:=osl}:=N5 _ go;have n1:=vW;have n2:=wq;have n3:(SA "tuple"==SA "dict")=false:=by decide
    have B':(s.heap.push {cls:=.type "set",dict:=S,data:=.set #[] 0 (.fresh 0 0 led)}).IsTuple a its:=⟨_,go',rfl,n,rfl⟩
    unfold Qq.«set.__init__» noKeywords Qq.Frozenset.updateFrom;generalize zz:pyIter=PI
    wp_walk
    subst zz;refine RJ B' (F' (Vt ?_));have h:a<s.heap.objs.size:=NI go;have K:A.in1.in1.in1.handled=none:=by simp[C]
    have ne1:a≠(s.heap.push {cls:=.type "set",dict:=S,data:=.set #[] 0 (.fresh 0 0 led)}).objs.size:=by rw[R8];exact NJ (Oj h)
    have p:s.heap.objs.size∉[(s.heap.push {cls:=.type "set",dict:=S,data:=.set #[] 0 (.fresh 0 0 led)}).objs.size,a]:=by rw[R8];dsimp[NB,NQ,O0,S3,Wc];exact⟨NJ (Pe _),OP h⟩
    have Dd:∀(i:O)(v:GC),its[i]?=Y v->∃t,v=.int ((λi=>ns.getD i 0) i) t:=λi v hv=>RF.int_at hi i v (by rw[PX];exact hv)
    refine codeAny_set_update_loopS ((SU.tuple K _ a ne1 its).toS) s.heap.objs.size p (λi=>ns.getD i 0) Dd j (its.size-0) 0 _ ⋯ (Ot _) ⟨⟨_,NN _ rfl,rfl,rfl⟩,⟨_,N5 _ go',rfl,n,rfl⟩⟩ ?_ ?_
    .have M:((s.heap.push {cls:=.type "set",dict:=S,data:=.set #[] 0 (.fresh 0 0 led)}).push {cls:=.type "tuple_iterator",data:=.fields #[.ref a,.int 0 0]}).get? s.heap.objs.size=Y {cls:=.type "set",dict:=S,data:=.set #[] 0 (.fresh 0 0 led)}:=N5 _ y;exact SetOf_congr ((setObjOf_fresh (knd:=intKind prog w) led).setOf M (by unfold scanBound;omega)) (λ_=>rfl) rfl
    .intro s' l g;obtain⟨h',g',d',q,u⟩:=s';have e1:g'=s.gens:=l.gens;have e2:d'=s.drawn:=l.drawn;have N:u=s.os:=l.os;subst e1;subst e2;subst N;show wpAny _ _ _ _ _ _;refine K' ?_;show wpAny _ _ (ret Rq) _ _ _;refine K' ⟨rfl,h',q,rfl,g,λb o j e=>?_⟩;have EE:b≠(s.heap.push {cls:=.type "set",dict:=S,data:=.set #[] 0 (.fresh 0 0 led)}).objs.size:=by rw[R8];exact NJ (Oj j)
     exact l.heap b o (by dsimp[NB,NQ,O0,S3,Wc];exact⟨NJ j,EE⟩) (N5 _ (N5 _ e))
   .cases I with
    |error ev=>exact f
    |ok fl2 =>
     cases fl2 with
     |ret z =>
      obtain⟨rfl,h',tk,rfl,g,P⟩:=f
      repeat (any_goals (first|assumption|wp_step))
      exact G _ _ g P
     |_=>exact f.elim
  |_=>exact m.elim
end
section
variable {E:XK}{a b c e:Qt}{ga gb gc:Ds->Rs L}{es:J Qt}
theorem K9:bootBuiltins "set"=Y (.type "set"):=by decide +kernel
def tLS(K:Qp)(ta:TA):TE:=λσ H Q=>ta σ H λvs H1=>∃(p:J')(ns:J Z),vs=[.ref p]/\SqT K H1 p (ns.map V.int)/\ns.length<=1000/\Q (.int (seen ns ns.length).length) H1
theorem Cd{c:Ts}(hc:X.calm=true)(x:Gl X "set")(hm:X.mg "set"=S)(g:Gl X "len")(i:X.mg "len"=S)(ha:PA X [a] ta)(y:starEach [a] X.env=[(false,eval a X.env)]:=by rfl)
  (f:starEach [.Call (.Name "set" p) [a] [] pos] X.env=(false,eval (.Call (.Name "set" p) [a] [] pos) X.env)::starEach [] X.env:=by rfl) (j:(backTo c (starEach [] X.env)).any (·.1)=false:=by rfl) :
  PE X (.Call (.Name "len" p2) [.Call (.Name "set" p) [a] [] pos] [] c) (tLS X.K ta):=by
 intro z8 s σ H Q I h;refine Rh (fz I g i PySem.boot_len ?_);refine Sg ?_ f j;rw[f];show wpAny _ _ (spliced ((false,eval (.Call (.Name "set" p) [a] [] pos) X.env)::backTo c [])) _ _ s;refine SE (Vl (fz I x hm K9 (Qv (thn (ha pos z8 s σ H _ I h) λus r l=>?_) y rfl)));obtain⟨vs,H1,m,z,A⟩:=l;obtain⟨q,ns,e,B,hz,fin⟩:=A;subst e;obtain⟨u,rfl,C⟩:=vals1 z;cases C;obtain⟨its,v,pt,_⟩:=m.tuple B;have hl:=v.length;rw[N8]at hl;refine CG (m.ok.hd hc) (show r.heap.IsTuple q its.toArray from pt) (intsAre_of v) (by rw[NM];unfold scanBound;omega) λh' tk w D=>SR ?_
 have E:Inv X z8 σ H1 {r with heap:=h',toks:=tk}:=m.kept λb o e=>D b o (NI e) e
 have n:its.toArray.size=ns.length:=by rw[NM];exact hl.symm
 rw[n]at w;obtain⟨o,es',ep,t,F,ex,hd,_,_,G,B',hsz⟩:=w;refine PySem.call_len_set F ex hd B' (by unfold scanBound at G;omega) ⟨.int (seen ns ns.length).length,H1,E.tok _,⟨_,by rw[hsz]⟩,fin⟩
def mD:J L->F1 L
 |[.tuple x]=>(iC x).bind λns=>if ns.length<=1000 then Y (.int (seen ns ns.length).length) else S
 |_=>S
theorem B8{b:Ts}(hc:X.calm=true)(hm:X.mg "set"=S)(c:X.mg "len"=S)(ha:PAD X E [a] gs)(j:Gl X "set")(f:Gl X "len")(l:starEach [a] X.env=[(false,eval a X.env)])
  (g:starEach [.Call (.Name "set" p) [a] [] pos] X.env=(false,eval (.Call (.Name "set" p) [a] [] pos) X.env)::starEach [] X.env) (h:(backTo b (starEach [] X.env)).any (·.1)=false) :
  PD X E (.Call (.Name "len" p2) [.Call (.Name "set" p) [a] [] pos] [] b) (gF mD gs):=(Cd hc j hm f c ha.1 l g h).imp λσ H Q ⟨A,δ,R,o⟩=>tH R o λds vs H1 e s1 R1 h1 o=>by
 unfold mD at o;split at o
 .rename_i x;cases q:iC x with
  |none=>rw[q]at o;exact o.elim
  |some ns =>
   rw[q]at o;obtain⟨v,rfl,m⟩:=lg h1;obtain⟨p,xs,rfl,hp,i⟩:=m.ofTup;rw[fL q]at i;rw[i.ofInts]at hp;by_cases z:ns.length<=1000
   .dsimp[Oi,HL z]at o;exact⟨p,ns,rfl,SqT.of (ay _ _ hp),z,o _ H1 (aw.refl _) bP⟩
   .dsimp[Oi,I' z]at o;exact o.elim
 .exact o.elim
end
open AutoSeq1 (wpAny_loadPart')
open SeqAt (EqAt)
theorem wH{prog:QS}{w:QY}{A:Qs}{E:GC->LN->Prop}{s:LN}{its:QR GC}{x:GC}{e:GC->Qo}{j:O}{Q:F1 PySem.Fin×Vz->LN->Prop}(c:j<its.size)(hit:e its[j]=true)(a:∀m(hm:m<its.size),m<j->e its[m]=false)
  (f:∀y,y∈its->EqAt A s y x (e y)) (g:Q (Y (.done (.ret (.int j s.toks))),()) {s with toks:=s.toks+1}):∀(k i m:O),i+k=j->j<i+m ->
  wpAny (model prog w) A (forIn (Rn i m) ((S:F1 PySem.Fin),()) λ(i:O) _=>match its[i]? with
   |some y=>do
    let b <-eqBool y x
    if b=true then do
      let r <-retInt (i:Z)
      pure (ForInStep.done (Y r,()))
     else pure (Rl (S,()))
   |_=>pure (Rl (S,()))) Q E s
 |0,i,0,h1,h2=>by omega
 |0,i,m+1,h1,h2=>by
  have:i=j:=⋯
  subst this;rw[Ph,Tj];have q:its[i]?=Y its[i]:=by simp[c]
  dsimp[q];refine F' (F' (f _ (Uz c) prog w _ _ ?_));rw[hit,HL rfl];unfold retInt;exact F' (F' (wpAny_mkInt (K' (K' (K' g)))))
 |k+1,i,0,h1,h2=>by omega
 |k+1,i,m+1,h1,h2=>by
  have hi:i<its.size:=⋯
  rw[Ph,Tj];have q:its[i]?=Y its[i]:=by simp[hi]
  dsimp[q];refine F' (F' (f _ (Uz hi) prog w _ _ ?_));rw[a i hi ⋯,I' NL];exact K' (wH c hit a f g k (i+1) m ⋯ ⋯)
theorem Cu(b:J')(its:QR GC)(n:O)(dd:F1 J')(c:QR (F1 GC))(x:GC)(e:GC->Qo)(j:O)(f:j<its.size)(hit:e its[j]=true)(a:∀m(hm:m<its.size),m<j->e its[m]=false) :
  W5 (Qq.«tuple.index» ⟨[.ref b,x],[]⟩)
   (λA R s=>s.heap.get? b=Y {cls:=.type "tuple",dict:=dd,data:=.seq its n,slots:=c}/\(∀y,y∈its->EqAt A.in1 s y x (e y))/\R (.ok (.ret (.int j s.toks))) {s with toks:=s.toks+1}):=by
 intro prog w A R s h;obtain⟨hp,g,d,tk,os⟩:=s;obtain⟨hl,i,l⟩:=h;unfold Qq.«tuple.index»;dsimp[Std.Legacy.Range.forIn_eq_forIn_range',Std.Legacy.Range.size];generalize hF:(@forIn Wh (J O))=F
 wp_walk using Rf hl
 subst hF;refine wH f hit a i ?_ j 0 _ ⋯ (by simp;omega);exact K' l
section
variable {E:XK}{a o e:Qt}{ga go:Ds->Rs L}{es:J Qt}
def JQ:V->J V->Hp->VK->Prop:=λx vs H Q=>∃l xs y j,x=.ref l/\vs=[y]/\H l=Y (.tup xs)/\jL y=true/\xs.all jL=true/\(xs.findIdx? λz=>eqV z y)=Y j/\Q (.int j) H
def tIx(to:TE)(t:TA):TE:=λσ H Q=>to σ H λx H1=>(∃l xs,x=.ref l/\H1 l=Y (.tup xs))/\t σ H1 λvs H2=>JQ x vs H2 Q
theorem D2{to:TE}{t:TA}{apos:Ts}(T:PE X o to)(ha:PA X [e] t)(c:attributeBase o "index" X.env (eval o X.env)=eval o X.env:=by rfl)
  (r:((backTo cpos (starEach [e] X.env)).all (λx=>!x.1)&&(backToKw cpos (keywordEach [] X.env)).all (λx=>x.1.isSome)&&decide (([e]:J Qt).length+([]:J RA).length+(if ([]:J RA).isEmpty then 0 else 1)<30))=true:=by rfl)
  (f:(apos.endLine==cpos.line)=true:=by rfl) (U:starEach [e] X.env=(false,eval e X.env)::starEach [] X.env:=by rfl) (b:(backTo cpos (starEach [] X.env)).any (·.1)=false:=by rfl) :
  PE X (.Call (.Attribute o "index" apos) [e] [] cpos) (tIx to t):=by
 intro z8 s σ H Q I h;refine Tg c r f rfl (thn (T z8 s σ H _ I h) λv W g=>?_);obtain⟨x,H1,EE,A4,⟨l,xs,A2,hl⟩,q1⟩:=g;subst A2;cases A4;obtain⟨P,its,rv,ob,ge,gc,gd,n,gq⟩:=EE.hok l _ hl;refine⟨"tuple", "tuple.index",F.plainAttrs_tuple,Ud,F.type_tuple_index,⟨ob,ge,gc⟩,λa ea=>by cases ea;exact⟨ob,ge,gd⟩,?_⟩;have R:=ha cpos z8 W σ H1 _ EE q1;rw[U]at R ⊢;refine S9 (by show (false||(backTo cpos (starEach [] X.env)).any (·.1))=false;rw[b];rfl) (Sl ?_);refine thn R λus s2 g=>?_
 obtain⟨vs,H2,D',r2,q2⟩:=g;obtain⟨l',i,y,j,e1,e2,D,fy,fs,hj,q⟩:=q2;cases e1;subst e2;obtain⟨hz',its',p,E,w,A,B,n',C⟩:=D'.hok l _ D;obtain⟨u,rfl,ru⟩:=vals1 r2;obtain⟨oc,od,oda,osl⟩:=E;simp only at A B C;subst A B C;have wb:=p.length;obtain⟨G,B',K⟩:=J.findIdx?_eq_some_iff_getElem.mp hj;have at':∀(m:O)(hm:m<i.length),eqU y (its'[m]'⋯)=eqV i[m] y:=λm hm=>by
  obtain⟨w',hw,Dd⟩:=p.get (My hm);have:its'[m]'⋯=w':=by have h2:=My (show m<its'.length by omega);rw[h2]at hw;exact N4 hw
  rw[this];exact zG Dd (NT.mp fs _ (NV hm))
 refine RT Ud ⟨_,w,rfl⟩ F.entry_tuple_index (F.args_tuple_index_2 _ _) (Cu l its'.toArray n' S osl u (eqU y) j (by simp;omega) (by simpa[at' j G] using B') (λm hm M=>?_)) ⟨w,λz P=>me ru fy p fs z (by simpa using P),⟨.int j,H2,D'.tok _,⟨_,rfl⟩,q⟩⟩;have N:m<i.length:=by simp at hm;omega
 have:=K m M;simpa[at' m N] using this
def iI(xs:J L)(y:L):F1 PyData:=if gp y&&xs.all gp then ((xs.map toV).findIdx? λz=>eqV z (toV y)).map λj=>.int j else S
def iL(go ga:Ds->Rs L):Ds->Rs PyData:=λδ=>(go δ).bind λd=>match d with
 |.tuple xs=>(ga δ).bind λy=>Rs.dS (iI xs y)
 |_=>.no
theorem Dn{apos:Ts}(n:PD X E o go)(ha:PD X E e ga)(c:attributeBase o "index" X.env (eval o X.env)=eval o X.env)
  (h:((backTo cpos (starEach [e] X.env)).all (λx=>!x.1)&&(backToKw cpos (keywordEach [] X.env)).all (λx=>x.1.isSome)&&decide (([e]:J Qt).length+([]:J RA).length+(if ([]:J RA).isEmpty then 0 else 1)<30))=true)
  (f:(apos.endLine==cpos.line)=true) (l:starEach [e] X.env=(false,eval e X.env)::starEach [] X.env) (b:(backTo cpos (starEach [] X.env)).any (·.1)=false) :
  PD X E (.Call (.Attribute o "index" apos) [e] [] cpos) (iL go ga):=(D2 n (dJ ha fO l) c h f l b).imp λσ H Q i=>by
 obtain⟨A,δ,R,a⟩:=i;unfold iL at a;refine eD.run R (λd1 e1 v H1 m r h1=>?_) (λC g H' s'=>by rw[g]at a;exact a H' s') (λg=>by rw[g]at a;exact a);dsimp[e1,Rs.ag]at a;cases d1 with
 |tuple xs =>
  obtain⟨p,vs,rfl,hp,s⟩:=h1.ofTup;refine⟨⟨p,vs,rfl,ay _ _ hp⟩,?_⟩;have a:ic X.K E A H ((ga δ).bind λy=>Rs.dS (iI xs y)) Q:=a;refine eD.run r (λd2 e2 u H2 s2 R2 h2=>?_) (λC g H' s'=>by rw[g]at a;exact a H' (m.trans s')) (λg=>by rw[g]at a;exact a);dsimp[e2,Rs.ag]at a;unfold iI at a;split at a
  .rename_i z;rw[NG]at z;obtain⟨f1,f2⟩:=h2.flat z.1;obtain⟨t,w⟩:=s.flat z.2;cases q:((xs.map toV).findIdx? λz=>eqV z (toV d2)) with
   |none=>rw[q]at a;exact a.elim
   |some j =>rw[q]at a;exact⟨p,vs,u,j,rfl,rfl,s2 _ _ (ay _ _ hp),f2,w,by rw[f1,t];exact q,a _ H2 (m.trans s2) bP⟩
  .exact a.elim
 |_=>exact a.elim
end
end L2
namespace L2
open PySem PySem.Spec PyProof.Rows
def wz:J Z->F1 Z
 |[]=>S
 |x::r=>Y (r.foldl (λa b=>if b>a then b else a) x)
theorem fold_max:∀(r:J Z)(x:Z),(r.foldl (λa b=>if b>a then b else a) x)∈x::r/\∀a∈x::r,a<=r.foldl (λa b=>if b>a then b else a) x
 |[],x=>⟨N1,λa ha=>by cases NQ.mp ha;exact Om _⟩
 |y::r,x=>by
  obtain⟨h1,h2⟩:=fold_max r (if y>x then y else x);rw[NY];have c:=h2 _ N1;refine⟨?_,λa ha=>?_⟩
  .rcases NB.mp h1 with z|z
   .rw[z];split <;> simp
   .exact N0 _ (N0 _ z)
  .have e:x<=(if y>x then y else x):=by split <;> omega
   have f:y<=(if y>x then y else x):=by split <;> omega
   rcases NB.mp ha with rfl|ha
   .exact Q2 e c
   .rcases NB.mp ha with rfl|ha
    .exact Q2 f c
    .exact h2 a (N0 _ ha)
theorem GL{M m:Z}(h1:M∈ns)(h2:∀a∈ns,a<=M)(e:wz ns=Y m):M=m:=by
 cases ns with
 |nil=>cases e
 |cons x r =>cases e;obtain⟨g1,g2⟩:=fold_max r x;have a1:=h2 _ g1;have a2:=g2 _ h1;omega
section
variable {E:XK}{a:Qt}{es:J Qt}
theorem AN:bootBuiltins "max"=Y (.builtin "max"):=by decide +kernel
theorem HI:bootBuiltins "min"=Y (.builtin "min"):=by decide +kernel
end
section
variable {E:XK}{H0:Hp}{A0:J J'}
theorem gH{C:J J'}(h:∀a∈C,a∈B):aw (del H B) (del H C):=λb o e=>by obtain⟨h1,h2⟩:=df e;rw[bb λz=>h1 (h b z)];exact h2
theorem bA.release(R:bA K H0 A0 H A EE δ σ)(hi:i∈EE)(e:δ[i]?=Y ↥ds):∃o,bA K H0 A0 H o (EE.filter (·≠i)) δ σ:=by
 obtain⟨a,xs,ds',e1,h1,h2,p,r⟩:=R.ownL hi e;cases p;have sub:∀b∈A.filter (·≠a)++A0,b∈A++A0:=λb c=>by
  rcases NZ.mp c with z|z
  .exact O1 _ (NK.mp z).1
  .exact NF _ z
 have na:a∉A.filter (·≠a)++A0:=λz=>by
  rcases NZ.mp z with z|z
  .have:=(NK.mp z).2;simp at this
  .exact R.apart h1 z
 refine⟨A.filter (·≠a),?_⟩;exact {
  same:=R.same
  ls0:=R.ls0
  new:=λb c=>R.new b (NK.mp c).1
  ls:=λb c=>R.ls b (NK.mp c).1
  len:=R.len
  pl:=λj d f q=>by
   by_cases z:j=i
   .subst z;rw[e]at q;cases q;exact⟨.ref a,e1,k9 (xs:=xs) (by rw[bb na];exact h2) (r.same (gH sub))⟩
   .have h:j∉EE:=λw=>f (NK.mpr ⟨w,by simpa using z⟩)
    obtain⟨v,g,l⟩:=R.pl j d h q;exact⟨v,g,l.same (gH sub)⟩
  own:=λj d f q=>by
   obtain⟨n,m⟩:=NK.mp f;have m:j≠i:=by simpa using m
   obtain⟨b,ys,es,g,l,s,t,u⟩:=R.own j d n q;refine⟨b,ys,es,g,NK.mpr ⟨l,?_⟩,s,t,u.same (gH sub)⟩;have:b≠a:=λw=>by subst w;exact m (R.inj j i d _ b n hi q e g e1)
   simpa using this
  inj:=λj k d e a f x=>R.inj j k d e a (NK.mp f).1 (NK.mp x).1}
def DJ(i:O)(G:Ds->Sr):Ds->Sr:=λδ=>match δ[i]? with
 |some ↥_=>(match G δ with
  |.rt d=>.rt d
  |.rz C=>.rz C
  |_=>.no)
 |_=>.no
theorem Ik{O':J O}{G:Ds->Sr}(h:PBD X E O' ss G)(hi:i∈EE:=by decide)(b:EE.filter (·≠i)=O':=by decide):PBD X E EE ss (DJ i G):=by
 subst b;exact h.imp λD σ H a=>by
  obtain⟨H0,A0,A,δ,R,o⟩:=a;unfold DJ at o;split at o
  .rename_i ds q;obtain⟨c,e⟩:=R.release hi q;refine⟨H0,A0,c,δ,e,?_⟩;cases g:G δ with
   |rt d=>rw[g]at o;exact o
   |rz C=>rw[g]at o;exact o
   |nx _=>rw[g]at o;exact o.elim
   |bk _=>rw[g]at o;exact o.elim
   |ct _=>rw[g]at o;exact o.elim
   |no=>rw[g]at o;exact o.elim
  .exact o.elim
end
section
variable {E:XK}{a b c:Qt}{ga gb gc:Ds->Rs L}
theorem yA{r i:R2}{c:L->L->F1 L}(m:OpD K f r)(g:OpD K c i){Q:VK}(h:eD K E (fR f c ga gb gc) σ H Q):yI r i (eD K E ga) (eD K E gb) (eD K E gc) σ H Q:=by
 obtain⟨A,δ,R,o⟩:=h;unfold fR at o;refine eD.run R (λd1 e1 v H1 e n h1=>?_) (λC a H' s'=>by rw[a]at o;exact o H' s') (λa=>by rw[a]at o;exact o);dsimp[e1,Rs.ag]at o;refine eD.run n (λd2 e2 u H2 s2 R2 h2=>?_) (λC a H' s'=>by rw[a]at o;exact o H' (e.trans s')) (λa=>by rw[a]at o;exact o);dsimp[e2,Rs.ag]at o;cases e3:f d1 d2 with
 |none=>rw[e3]at o;exact o.elim
 |some z =>
  dsimp[e3,Rs.ak,Rs.ag]at o;refine m d1 d2 z v u H2 A _ e3 R2.ls (h1.same s2.del) h2 λw p b q=>?_
  obtain⟨t,rfl,o⟩:=ma o;refine⟨t,q.ofBool,?_⟩;cases t with
  |false=>exact o _ p (e.trans (s2.trans b)) is_bool
  |true =>
   have o:ic K E A H ((gc δ).bind λw=>Rs.dS (c d2 w)) Q:=o;refine eD.run (R2.same b) (λj s y B l D F=>?_) (λC a H' s'=>by rw[a]at o;exact o H' (e.trans (s2.trans (b.trans s')))) (λa=>by rw[a]at o;exact o);dsimp[s,Rs.ag]at o;cases e5:c d2 j with
   |none=>rw[e5]at o;exact o.elim
   |some d=>rw[e5]at o;exact g d2 j d u y B A Q e5 D.ls (h2.same (b.trans l).del) F λx G I B'=>o x G (e.trans (s2.trans (b.trans (l.trans I)))) B'
theorem Bg{e:UT}{r j:R2}{l:L->L->F1 L}(m:OpR X (compareOp op) r)(g:OpR X (compareOp e) j)(n:OpD X.K f r)(i:OpD X.K l j)(ha:PD X E a ga)(o:PD X E b gb)(hc:PD X E c gc)
 (hm:lastMarks [op,e] [b,c]=false:=by with_unfolding_all rfl):PCD X E (.Compare a [op,e] [b,c] pos) (gT (fR f l ga gb gc)):=vj (C5 m g ha o hc hm) λσ H Q h=>yA n i h
theorem Fh(ha:PD X E a ga)(e:PD X E b gb)(hc:PD X E c gc)(hm:lastMarks [.LtE,.Lt] [b,c]=false):PCD X E (.Compare a [.LtE,.Lt] [b,c] pos) (gT (fR dLe dLt ga gb gc)):=Bg xq IS (jv λ_ _ _ _=>is_bool) (jv λ_ _ _ _=>is_bool) ha e hc hm
end
section
variable {E:XK}{a:Qt}{es:J Qt}
end
section
variable {E:XK}{a:Qt}
end
end L2
namespace PyProof.Rows
open PySem
section
variable {A:Qs}
end
end PyProof.Rows
namespace L2
open PySem PySem.Spec PyProof.Rows
section
variable {E:XK}{a:Qt}{es:J Qt}
end
end L2
namespace L2
open PySem PySem.Spec PySem.Calls PyProof.Rows PySem.W PySem.Builtin Builtin.ObjectAttr Builtin.Getset_descriptor
section
variable {A:Qs}{K:Frag}{x:J'}{ox:Rv}
structure IZ(h:QD)(x:J')(D:J'):Prop where
 ex:∃o,h.get? x=Y o/\o.cls=.ref D
theorem IZ.type{M:Model}(I:IZ h x D):Looks M h (typeOf (.ref x)) (.ref D):=by obtain⟨o,h1,h2⟩:=I.ex;exact h2▸(Looks.ld h1).andThen .now
end
end L2
namespace L2
open PySem PySem.Spec PyProof.Rows
section
variable {E:XK}{ea:J'}{oe:Rv}
end
section
variable {E:XK}{ea:J'}{oe:Rv}
end
variable {xs:J (J Key×J'×GC)}
def yl(EE:J O)(i:O)(g:Ds->Rs L):Ds->Sr:=λδ=>match δ[i]? with
 |some ⇑a=>ofR (g (mask EE δ)) λd=>match d with
  |.int b=>.nx (δ.set i ⇑(a+b))
  |_=>.no
 |_=>.no
section
variable {E:XK}{e a b:Qt}{ga gb:Ds->Rs L}{es:J Qt}
theorem G6(h:PD X E e ga)(g:X.N.Nodup)(c:i∉EE)(hi:X.N[i]?=Y x)(j:Loc X.env.scope x)
  (l:X.fn x=true\/X.env.scope.names.lookup x=Y .local):PSD X E EE (.AugAssign (.Name x pos') .Add e pos) (yl EE i ga):=(Ke g hi j h Kv l).imp λD σ H a=>by
 obtain⟨H0,A0,A,δ,R,o⟩:=a;unfold yl at o;split at o
 .rename_i z f;obtain⟨v,ev,hv⟩:=R.pl i _ c f;have hl:i<δ.length:=(NC.mp f).1;refine⟨v,ev,?_⟩;refine eD.run R.part (λd m u H1 n R1 p=>?_) (λC b H' s'=>?_) (λb=>?_)
  .rw[m,av]at o;split at o
   .refine⟨_,_,hv.ofInt,p.ofInt,o A _ H1 ((R.step n).set c hl bP)⟩
   .exact o.elim
  .rw[b,jW]at o;exact o H' (R.same.trans s')
  .rw[b,kl]at o;exact o
 .exact o.elim
noncomputable def jF(f:Qn):J (L×L)->F1 L
 |[]=>S
 |(k,d)::r=>match k with
  |.str g=>if g=f then Y d else jF f r
  |_=>S
def cY(C:J')(f:Qn):L->F1 L
 |.dict (k::r)=>match k with
  |(.str z,.int c)=>if z=""/\c=(C:Z) then jF f r else S
  |_=>S
 |_=>S
theorem Isk.jF{K:Qp}{H:Hp}:∀{r:J (L×L)}{fs:J (Qn×V)}{f:Qn}{d:L},Isk K H r fs->L2.jF f r=Y d->∃v,fs.lookup f=Y v/\Is K H d v
 |[],_,f,d,_,l=>by simp[L2.jF]at l
 |(k,x)::r,fs,f,d,h,l=>by
  unfold Isk at h;obtain⟨g,v,fs',rfl,rfl,h1,h2⟩:=h;dsimp[L2.jF]at l;rw[Oy];by_cases z:g=f
  .subst z;rw[HL rfl]at l;cases l;exact⟨v,by simp,h1⟩
  .rw[I' z]at l;have:(f==g)=false:=by simpa using λq=>z q.symm
   rw[this];exact Isk.jF h2 l
theorem Ic{f:Qn}{d x:L}(s:f≠"@")(e:cY C f d=Y x)(h:Is K H d v):∃a dx fs u,v=.ref a/\H a=Y (.ins C dx fs)/\fs.lookup f=Y u/\Is K H x u:=by
 unfold cY at e;split at e
 .rename_i k r;split at e
  .rename_i z c;split at e
   .rename_i q;obtain⟨rfl,rfl⟩:=q;unfold Is at h;rcases h with (⟨a,ns,_,b,_⟩|⟨a,l,_,b,_⟩)|⟨a,p,dx,fs,ev,h1,hn,h2|h2⟩
    .injection b with b _;cases b
    .rcases b with⟨m,b,_⟩|⟨m,b,_⟩|⟨m,_,b,_⟩ <;> first|(cases b;done)|(cases m <;> cases b)
    .unfold Isk at h2;obtain⟨g,u,fs',e1,e2,j,n⟩:=h2;cases e1;have i:=j.ofInt;injection i with i
     obtain rfl:p=C:=VC i;obtain⟨u,l,o⟩:=n.jF e;exact⟨a,dx,fs,u,ev,h1,l,o⟩
    .unfold Isk at h2;obtain⟨g,u,fs',e1,e2,j,n⟩:=h2;cases e1;have i:=j.ofInt;injection i with i
     obtain rfl:p=C:=VC i;obtain⟨u,l,o⟩:=n.jF e;rw[Oy,show (f==("@":Qn))=false by simpa using s]at l;exact⟨a,dx,fs,u,ev,h1,l,o⟩
   .cases e
  .cases e
 .cases e
theorem Jh{f:Qn}(cl:Cls X.K C)(n:iK X.K C f)(ha:PD X E a ga)(b:attributeBase a f X.env (eval a X.env)=eval a X.env)(c:f≠"@"):PD X E (.Attribute a f pos) (g1 (cY C f) ga) :=
 (J7 ha b).imp λσ H Q ⟨A,δ,R,o⟩=>g1.read (tt:=λQ x H1=>∃a C dx fs v,x=.ref a/\H1 a=Y (.ins C dx fs)/\Cls X.K C/\iK X.K C f/\fs.lookup f=Y v/\Q v H1) R o λd1 d x H' e _ _ h k=>by obtain⟨p,dx,fs,u,rfl,hp,l,g⟩:=Ic c e h;exact⟨p,C,dx,fs,u,rfl,ay _ _ hp,cl,n,l,k _ H' (aw.refl _) g⟩
def KI(C:J')(names:J Qn):Sp:=λvs H Q _=>∃(x dx:J')(args:J V),vs=.ref x::args/\args.length=names.length/\H x=Y (.ins C dx []) /\
 ∀H':Hp,(∀b,b≠x->H' b=H b)->H' x=Y (.ins C dx (names.zip args))->Q .non H'
structure pO(P:QS)(w:QY)(K:Qp)(mg:Qn->F1 GC)(base:QD)(k:O)(x:Qn)(C:J')(names:J Qn):Prop where
 ex:∃f fd ps,Mk K C f/\iH P w K mg base (CXW P w) k f fd ps (KI C names)/\Binds K fd ps []/\mg x=Y (.ref C)
def sP(C:J')(names:J Qn):J L->Rs PyData:=λds=>if ds.length=names.length then .ok (yf C (names.zip ds)) else .no
theorem zL{K:Qp}{H:Hp}:∀{names:J Qn}{ds:J L}{vs:J V},Iss K H ds vs->Isk K H ((names.zip ds).map λp=>(.str p.1,p.2)) (names.zip vs)
 |[],_,_,_=>by simpa using zV
 |_::_,[],_,h=>by rw[h.nil_of];simpa using zV
 |n::ns,d::ds,_,h=>by obtain⟨v,r,rfl,h1,h2⟩:=h.cons_of;dsimp[PF,N2];exact xf h1 (zL h2)
theorem Eg{f:Qn}:∀{names:J Qn}{vs:J V},f∉names->(names.zip vs).lookup f=S
 |[],_,_=>rfl
 |_::_,[],_=>rfl
 |n::ns,v::vs,h=>by rw[PF,Oy,show (f==n)=false by simpa using λq=>h (by rw[q];exact N1)];exact Eg λq=>h (N0 _ q)
theorem Iv{k j:O}{names:J Qn}(D:pO X.prog X.w X.K X.mg X.base k x C names)(m:cO j X.A)(n:Passes (CXW X.prog X.w) X E)(ha:PAD X E (e::es) gs)(r:k+1<=j)(s:Gl X x)
  (a:(x==("__debug__":Qn))=false) (t:starEach (e::es) X.env=(false,eval e X.env)::starEach es X.env) (c:(backTo pos (starEach es X.env)).any (·.1)=false) (hn:("@":Qn)∉names) :
  PD X E (.Call (.Name x p) (e::es) [] pos) (ao (sP C names) gs):=by
 obtain⟨f,fd,ps,M,F,u,hm⟩:=D.ex;refine (Gz M F (m.mono r) s hm u .nil n ha.1 a t c).imp λσ H Q g=>?_
 obtain⟨A,δ,R,o⟩:=g;refine tH R o λds vs H1 e s1 v h1 o=>?_
 unfold sP at o;split at o
 .rename_i hl;intro x dx nx h ne;refine⟨x,dx,vs++[],rfl,by rw[OL,h1.length,hl],aM,λH' k1 k2=>⟨rfl,?_⟩⟩;rw[OL]at k2;have l:aw H1 H':=λb q i=>by have n1:b≠x:=aI i nx;rw[k1 b n1,aB n1,aB (aI i h)];exact i
  refine o (.ref x) H' l (JA (dx:=dx) (fs:=names.zip vs) ?_ (Eg hn) (zL (h1.same l.del)));rw[bb (v.ls.new nx)];exact k2
 .exact o.elim
def xD:L->L->F1 L
 |.list x,.int d=>(iC x).map λns=>.int ((wz ns).getD d)
 |_,_=>S
end
section
variable {A:Qs}{R:Tz->LN->Prop}{I:J'}{wr:J J'}{n:O}{T:O->GC->Prop}{St:O->QD->Prop}{dv:GC}
theorem Fx(a v:GC):argsOk "max" ⟨[a],[(R9 "default",v)]⟩:=by unfold argsOk;kernel_rfl
theorem u3:(toString "max"++toString ".loop":RI)="max.loop":=by decide
theorem qp(W:SU prog w A.in1 I fp wr n T St)(g:O->O->Qo)(hc:CmpOf prog w A.in1 .Gt T g)(D':J')(m:D'∉fp):∀(k j:O)(s:LN)(f:GC)(c:O),n=j+1+k->St (j+1) s.heap->T (argBest g j) f ->
  s.heap.get? D'=Y {cls:=.type "list",dict:=S,data:=.seq #[f,f] c,slots:=#[]}->(∀v h' tk,T (argBest g (n-1)) v->(∀b o,b∉wr->b≠D'->s.heap.get? b=Y o->h'.get? b=Y o)->R (.ok (.ret v)) {s with heap:=h',toks:=tk}) ->
  codeAny (model prog w) A (.builtin "max.loop" ⟨[.ref I,.none,.ref D'],[(R9 "default",dv)]⟩) R s
 |0,j,s,f,c,hn,hst,hb,hS,hR=>by
  have r:D'∉wr:=λh=>m (W.sub _ h)
  refine QE RH ?_;rw[Qu QB _];show wpAny _ A.in1 (seqItems? (.ref D') >>= _) _ _ s;refine F' (QX hS rfl ?_);show wpAny _ A.in1 (tryCatch (pyNext (.ref I)) _ >>= _) _ _ s;refine F' (Qy (W.done s _ _ (by rw[show n=j+1 from hn];exact hst) λh1 y k1=>?_));have a:=k1 D' _ r hS;show wpAny _ A.in1 (updateSeq D' (λ_=>#[]) >>= _) _ _ _;refine F' (Rg a rfl (F' (Rj (K' ?_))));exact hR f _ y (by rw[show n-1=j by omega];exact hb) λb o i l z=>(O5 _ _ (Rm l)).trans (k1 b o i z)
 |k+1,j,s,f,c,hn,hst,hb,hS,hR=>by
  have r:D'∉wr:=λh=>m (W.sub _ h)
  refine QE RH ?_;rw[Qu QB _];show wpAny _ A.in1 (seqItems? (.ref D') >>= _) _ _ s;refine F' (QX hS rfl ?_);show wpAny _ A.in1 (tryCatch (pyNext (.ref I)) _ >>= _) _ _ s;refine F' (Qy (W.item (j+1) s _ _ ⋯ hst λv h1 y hv p k1=>?_));have a:=k1 D' _ r hS;show wpAny _ A.in1 (tryCatch (holding [v,v] (richCompare .Gt v f >>= _)) _ >>= _) _ _ _;refine F' (Qy (QN (F' (hc (j+1) (argBest g j) v f _ _ _ hv hb (F' (QN (QG (F' (Rj (K' ?_))))))))));cases q:g (j+1) (argBest g j) with
  |true =>
   rw[HL rfl];refine F' (Rg a rfl (F' (Rj ?_)));rw[u3];refine K' ⟨QP QB _,qp W g hc D' m k (j+1) _ v _ ⋯ (W.frame _ _ _ p λb t o e=>?_) (by unfold argBest;rw[q];exact hv) (OS _ a rfl) λu h2 x p2 k2=>?_⟩
   .exact (O5 _ _ (λz:D'=b=>m (z▸t))).trans e
   .exact hR u h2 x p2 λb o i l z=>k2 b o i l ((O5 _ _ (Rm l)).trans (k1 b o i z))
  |false =>rw[I' #[1]];refine F' (Rj ?_);rw[u3];refine K' ⟨QP QB _,qp W g hc D' m k (j+1) _ f c ⋯ p (by unfold argBest;rw[q];exact hb) a λu h2 x p2 k2=>?_⟩;exact hR u h2 x p2 λb o i l z=>k2 b o i l (k1 b o i z)
variable {l:J'}{xs:QR (Z×VI)}
theorem CY(t:A.handled=S)(hl:s.heap.IsList l (intItems xs))
  (u:xs.size=0->∀h' tk,(∀b o,s.heap.get? b=Y o->h'.get? b=Y o)->Q dv {s with heap:=h',toks:=tk})
  (h:0<xs.size->∀v h' tk,(intItems xs)[argBest (λi j=>decide (numAt xs i>numAt xs j)) (xs.size-1)]?=Y v->(∀b o,s.heap.get? b=Y o->h'.get? b=Y o)->Q v {s with heap:=h',toks:=tk}) :
  wpAny (model prog w) A (call (.builtin "max") [.ref l] [(R9 "default",dv)]) Q E s:=by
 refine kmk_tree F.kind_max F.plain_max F.entry_max (Fx _ _) ?_;show wpAny _ A.in1 (QZ "max" ["key", "default"] 0 ⟨[],[(R9 "default",dv)]⟩ >>= _) _ _ s;refine F' (TH (show QZ "max" ["key", "default"] 0 ⟨[],[(R9 "default",dv)]⟩=pure [S,Y dv] from rfl) (F' (K' ?_)));refine F' (iter_intList hl λs2 e st g m=>F' (QW ?_));subst e;have W:=Sj (prog:=prog) (w:=w) (A:=A.in1) t s.heap.objs.size l m (intItems xs);have hsz:(intItems xs).size=xs.size:=by simp[intItems]
 have a:(s.heap.push {cls:=.type "list_iterator",data:=.fields #[.ref l,.int 0 0]}).objs.size∉[s.heap.objs.size,l]:=λhm=>OQ _ (g _ hm)
 rw[u3];refine K' ⟨QP QB _,QE RH ?_⟩;rw[Qu QB _];show wpAny _ A.in1 (seqItems? (.ref _) >>= _) _ _ _;refine F' (QX (NN _ rfl) rfl ?_);show wpAny _ A.in1 (tryCatch (pyNext (.ref _)) _ >>= _) _ _ _;have c:=W.frame _ _ _ st λb _ o e=>N5 {cls:=.type "list",data:=.seq #[]} e
 have x:(s.heap.push {cls:=.type "list_iterator",data:=.fields #[.ref l,.int 0 0]}).objs.size∉[s.heap.objs.size]:=λz=>a (NB.mpr (.inl (NQ.mp z)))
 have kp:∀b o,s.heap.get? b=Y o->b∉[s.heap.objs.size]/\((s.heap.push {cls:=.type "list_iterator",data:=.fields #[.ref l,.int 0 0]}).push {cls:=.type "list",data:=.seq #[]}).get? b=Y o/\b≠(s.heap.push {cls:=.type "list_iterator",data:=.fields #[.ref l,.int 0 0]}).objs.size:=λb o e=>by
  have n:b<s.heap.objs.size:=NI e;refine⟨λz=>?_,N5 _ (N5 _ e),?_⟩
  .rw[NQ.mp z]at n;exact OQ _ n
  .rw[R8];exact NJ (Oj n)
 by_cases hz:xs.size=0
 .refine F' (Qy (W.done _ _ _ (by rw[hsz,hz];exact c) λh1 r k1=>?_));show wpAny _ A.in1 (rule _ >>= _) _ _ _;refine F' (Sk (K' ?_));exact u hz h1 r λb o e=>k1 b o (kp b o e).1 (kp b o e).2.1
 .refine F' (Qy (W.item 0 _ _ _ (by rw[hsz];omega) c λv h1 r hv p k1=>?_));have f:=k1 _ _ x (NN _ rfl);show wpAny _ A.in1 (updateSeq _ (λ_=>#[v,v]) >>= _) _ _ _;refine F' (Rg f rfl ?_);rw[u3];refine K' ⟨QP QB _,qp W _ (CmpOf.ints_gt (numAt xs) λ_ _=>intItems_at) _ a (xs.size-1) 0 _ v _ (by rw[hsz];omega) (W.frame _ _ _ p λb q o e=>?_) hv (OS _ f rfl) λy h2 B p2 k2=>?_⟩
  .exact (O5 _ _ (λz:(s.heap.push {cls:=.type "list_iterator",data:=.fields #[.ref l,.int 0 0]}).objs.size=b=>a (by rw[z];exact q))).trans e
  .refine h ⋯ y h2 B (by rw[hsz]at p2;exact p2) λb o e=>k2 b o (kp b o e).1 (kp b o e).2.2 ?_
   exact (O5 _ _ (Rm (kp b o e).2.2)).trans (k1 b o (kp b o e).1 (kp b o e).2.1)
end
section
variable {E:XK}{e a b:Qt}{ga gb:Ds->Rs L}{es:J Qt}
theorem BW(h:ns.length=0)(d:Z):(wz ns).getD d=d:=by cases ns with|nil=>rfl|cons _ _=>simp at h
theorem eD.weak{Q a:VK}(h:eD K E g σ H Q)(k:∀v H',Q v H'->a v H'):eD K E g σ H a:=by
 obtain⟨A,δ,R,o⟩:=h;refine⟨A,δ,R,?_⟩;cases q:g δ with
 |ok d=>rw[q]at o;exact λv H' b h1=>k v H' (o v H' b h1)
 |rz C=>rw[q]at o;exact o
 |no=>rw[q]at o;exact o
theorem HD(hc:X.calm=true)(hm:X.mg "max"=S)(ha:PD X E a ga)(g:PD X E b gb)(D:Gl X "max")(r:starEach [a] X.env=[(false,eval a X.env)]) :
  PD X E (.Call (.Name "max" p) [a] [⟨Y "default",b,kp⟩] pos) (g2 xD ga gb):=by
 have key:PE X (.Call (.Name "max" p) [a] [⟨Y "default",b,kp⟩] pos) (tOp (λx y H Q=>∃(p:J')(ns:J Z)(d:Z),x=.ref p/\y=.int d/\SqL X.K H p (ns.map V.int)/\Q (.int ((wz ns).getD d)) H) (eD X.K E ga) (eD X.K E gb)):=by
  intro z8 s σ H Q I h;refine Rh (fz I D hm AN ?_ #[1] #[1]);refine callWith_kw ?_ (by rw[r];rfl) (by rw[r];rfl) rfl rfl;refine thn ((dJ ha fO r) pos z8 s σ H (λvs H1=>∃x,vs=[x]/\eD X.K E gb σ H1 λy H2=>∃(p:J')(ns:J Z)(d:Z),x=.ref p/\y=.int d/\SqL X.K H2 p (ns.map V.int)/\Q (.int ((wz ns).getD d)) H2) I
   (eD.weak h λx H1 q=>⟨x,rfl,q⟩)) λus s1 ⟨vs,H1,I1,r1,x,q0,q1⟩=>?_
  subst q0;obtain⟨u,rfl,F⟩:=vals1 r1;refine thn ((zT g Fu) pos z8 s1 σ H1 (λvs H2=>∃y,vs=[y]/\∃(p:J')(ns:J Z)(d:Z),x=.ref p/\y=.int d/\SqL X.K H2 p (ns.map V.int)/\Q (.int ((wz ns).getD d)) H2) I1
   (eD.weak q1 λy H2 q=>⟨y,rfl,q⟩)) λws s2 ⟨zs,H2,I2,r2,y,q2,p,ns,d,ex,ey,hS,q3⟩=>?_
  subst q2;obtain⟨v,rfl,G⟩:=vals1 r2;subst ex ey;obtain rfl:u=Qw p:=F;obtain⟨td,rfl⟩:=(show ∃t,v=Se d t from G)
  obtain⟨its,B',pl,_⟩:=I2.list hS;have hi:RF its ns:=intsAre_of B';obtain⟨xs,f⟩:=hi.allInts.items;have c:ns=xs.toList.map (·.1):=by rw[<-hi.numsOf,<-nums_intItems,<-f]
  have w:s2.heap.IsList p (intItems xs):=f▸pl.isList;have z:ns.length=xs.size:=by rw[c,N8,OM]
  refine CY (I2.ok.hd hc) w (λDd h' tk B=>?_) λDd v h' tk hv B=>?_
  .rw[BW ⋯ d]at q3;exact⟨.int d,H2,I2.kept B,⟨_,rfl⟩,q3⟩
  .obtain⟨t,rfl⟩:=intItems_at hv;obtain⟨h1,h2⟩:=argBest_gt (numAt xs) (xs.size-1);obtain⟨m,C⟩:∃m,wz ns=Y m:=by
    cases ns with
    |nil=>simp at z;omega
    |cons _ _=>exact⟨_,rfl⟩
   have e:numAt xs (argBest (λi j=>decide (numAt xs i>numAt xs j)) (xs.size-1))=m:=by
    refine GL ?_ (λb g=>?_) C
    .rw[c,numAt_eq];exact getD_mem (by rw[N8,OM];omega)
    .rw[c]at g;obtain⟨j,M,rfl⟩:=mem_getD g;rw[N8,OM]at M;rw[<-numAt_eq];exact h2 j ⋯
   rw[C]at q3;exact⟨.int m,H2,I2.kept B,⟨_,by rw[<-e]⟩,q3⟩
 exact key.imp λσ H Q ⟨A,δ,R,o⟩=>g2.read (λd1 d2 d x y H' A' Q' n hA h1 h2 k=>by
  unfold xD at n;split at n
  .rename_i l dd;obtain⟨ns,q,rfl⟩:=Oq.mp n;obtain⟨p,xs,rfl,hp,f⟩:=h1.ofLst;rw[fL q]at f;rw[f.ofInts]at hp;exact⟨p,ns,dd,rfl,h2.ofInt,SqL.of (ay _ _ hp),k _ H' (aw.refl _) bP⟩
  .cases n) R o
end
theorem Iy{f:J'}{b:QR (F1 GC)}{kV e:GC}
  (g:∀(kV doc pm:GC)(an:F1 J')(cdv ct:GC)(us:J GC),us.length=ps.length->bindArgs (SX "__init__" qual (gy st) (cR st) (aH st) .none kV doc pm an cdv ct) ⟨us,[]⟩=pure (ps.zip us))
  (a:S7 K (.ref C) "__init__"=Y (Y (.ref f))) (i:W.isFn K (.ref f)=true)
  (l:K.lookup f=Y ⟨oc,od,.func (SX "__init__" qual (gy st) (cR st) (aH st) .none kV e pm an cd ct),b⟩)
  (c:Up K cd qual=true) (k:S8 K (.ref f)=true) (mk:VH K C=true) (h:S8 K (.ref C)=true):∃f fd,Mk K C f/\Fun K "__init__" qual st f fd/\Binds K fd ps [] :=
 have F:=D6 (st:=st) l c k
 ⟨f,_,⟨mk,a,i,h⟩,F,F.binds g⟩
section
variable {a b:Qt}{ta tb:TE}
end
section
variable {E:XK}{a b:Qt}
end
section
variable {E:XK}{H0:Hp}{A0:J J'}
end
structure DW(P:QS)(w:QY)(K:Qp)(mg:Qn->F1 GC)(base:QD)(k:O)(C:J')(m:Qn)(n:O)(gf:J L->Rs L):Prop where
 ex:∃f fd ps,Cls K C/\Meth K C m f/\iH P w K mg base (CXW P w) k f fd ps (spD K n gf)/\Binds K fd ps []
section
variable {E:XK}{o e:Qt}{es:J Qt}{ga:Ds->Rs L}{apos:Ts}
end
def intsOf:J L->F1 (J Z)
 |[]=>Y []
 |.int a::r=>(intsOf r).map (a::·)
 |_::_=>S
def E2:L->F1 (Qo×J Z)
 |.int a=>Y (false,[a])
 |.tuple ds=>(intsOf ds).map λl=>(true,l)
 |_=>S
def ltD(a b:L):Bool:=match E2 a,E2 b with
 |some (_,l),Y (_,m)=>HT.lexLt l m
 |_,_=>false
def allR(g:L->Rs L):J L->Rs (J L)
 |[]=>.ok []
 |d::r=>(g d).bind λk=>(allR g r).bind λks=>.ok (k::ks)
theorem wN{g:L->Rs L}:∀{ds ks:J L},allR g ds=.ok ks->ks.length=ds.length/\∀(i:O)(d:L),ds[i]?=Y d->∃k,ks[i]?=Y k/\g d=.ok k
 |[],ks,h=>by cases h;exact⟨rfl,λi d e=>by simp at e⟩
 |d::r,ks,h=>by
  unfold allR at h;cases e1:g d with
  |rz _=>rw[e1]at h;cases h
  |no=>rw[e1]at h;cases h
  |ok k =>
   rw[e1]at h;cases e2:allR g r with
   |rz _=>rw[Rs.ag,e2]at h;cases h
   |no=>rw[Rs.ag,e2]at h;cases h
   |ok t =>
    rw[Rs.ag,e2]at h;cases h;obtain⟨hl,a⟩:=wN e2;refine⟨by simp[hl],λi d' e=>?_⟩;cases i with
    |zero=>simp at e;subst e;exact⟨k,rfl,e1⟩
    |succ i=>simpa using a i d' (by simpa using e)
def wU(cap:J O)(δ:Ds):Ds:=cap.map λm=>(δ[m]?).join
def okR:Rs (J L)->(J L->Rs L)->Rs L
 |.ok a,f=>f a
 |_,_=>.no
theorem mO:∀{ds:J L}{l:J Z},intsOf ds=Y l->ds=l.map FC
 |[],l,e=>by cases e;rfl
 |d::r,l,e=>by
  cases d <;> first|(cases e;done)|skip
  rename_i a;unfold intsOf at e;cases q:intsOf r with
  |none=>rw[q]at e;cases e
  |some t=>rw[q]at e;cases e;rw[mO q];rfl
section
end
section
noncomputable def zu:J (L×L)->Qo
 |[]=>true
 |(_,d)::r=>aY d&&zu r
def Js:J (L×L)->F1 Z
 |(.str x,.int _)::(.str y,.int b)::r=>if x=""/\y="@"/\zu r then Y b else S
 |_=>S
mutual
def objs:L->Qo
 |.list ds=>Em ds
 |.tuple ds=>Em ds
 |.dict kvs=>(Js kvs).isSome
 |_=>true
def Em:J L->Qo
 |[]=>true
 |d::ds=>objs d&&Em ds
end
end
section
end
section
variable {as:J J'}{E:XK}{G G':Ds->Sr}{c:Qt}
end
def LJ(fds:J (Qn×L)):Bool:=zu (fds.map λp=>(.str p.1,p.2))
section
variable {as:J J'}{E:XK}{o value:Qt}{tpos:Ts}{f:Qn}
end
def spM(K:Qp)(C:J')(g:J (Qn×L)->F1 (J (Qn×L))):Sp:=λvs H Q E=>∃A a fds b,vs=[.ref a]/\Ls H A/\Is K (del H A) (Ji C a fds) (.ref a)/\LJ fds=true/\fds.length<1000/\g fds=Y b /\
 ∀H',aw (del H [a]) H'->Is K (del H' A) (Ji C a b) (.ref a)->Q .non H'
structure EH(P:QS)(w:QY)(K:Qp)(mg:Qn->F1 GC)(base:QD)(k:O)(C:J')(m:Qn)(g:J (Qn×L)->F1 (J (Qn×L))):Prop where
 ex:∃f fd ps,Cls K C/\Meth K C m f/\iH P w K mg base (CXW P w) k f fd ps (spM K C g)/\Binds K fd ps []
section
variable {as:J J'}{E:XK}{o:Qt}{apos:Ts}{m:Qn}{g:J (Qn×L)->F1 (J (Qn×L))}
end
section
variable {E:XK}{e:Qt}{es:J Qt}
end
section
variable {E:XK}
end
section
variable {κ:Type}[DecidableEq κ]
def gA(kvs:J (κ×V))(k:κ):F1 V:=(kvs.find? λa=>decide (a.1=k)).map (·.2)
def putK(kvs:J (κ×V))(k:κ)(v:V):J (κ×V) :=
 if (kvs.any λa=>decide (a.1=k))=true then kvs.map (λa=>if a.1=k then (a.1,v) else a) else kvs++[(k,v)]
theorem dZ{p:κ×V}{r:J (κ×V)}{k:κ}(e:p.1=k):gA (p::r) k=Y p.2:=by simp[gA,Oc,e]
theorem dO{p:κ×V}{r:J (κ×V)}{k:κ}(e:¬ p.1=k):gA (p::r) k=gA r k:=by simp[gA,Oc,e]
theorem lH(k:κ):∀kvs:J (κ×V),(kvs.any λa=>decide (a.1=k))=(gA kvs k).isSome
 |[]=>rfl
 |p::r=>by
  rw[OR];by_cases e:p.1=k
  .dsimp[dZ e,Ql e,VP,F1.isSome_some]
  .rw[dO e,P' e,Q8];exact lH k r
theorem vH(k j:κ)(y:V):∀kvs:J (κ×V),gA (kvs.map λa=>if a.1=k then (a.1,y) else a) j=(gA kvs j).map λx=>if j=k then y else x
 |[]=>rfl
 |p::r=>by
  have b:=vH k j y r;rw[N2];by_cases h:p.1=k
  .rw[HL h];by_cases e:p.1=j
   .rw[dZ (p:=(p.1,y)) e,dZ e,Oh,HL (e.symm.trans h)]
   .rw[dO (p:=(p.1,y)) e,dO e,b]
  .rw[I' h];by_cases e:p.1=j
   .rw[dZ (p:=p) e,dZ e,Oh,I' (λz=>h (e.trans z))]
   .rw[dO (p:=p) e,dO e,b]
theorem sQ(k j:κ)(y:V):∀kvs:J (κ×V),gA kvs k=S->gA (kvs++[(k,y)]) j=if j=k then Y y else gA kvs j
 |[],_=>by
  by_cases e:k=j
  .rw[HL e.symm];exact dZ (p:=(k,y)) e
  .rw[I' (λz=>e z.symm)];exact dO (p:=(k,y)) e
 |p::r,hn=>by
  rw[P4];have a:¬ p.1=k:=λz=>by rw[dZ z]at hn;cases hn
  rw[dO a]at hn;have b:=sQ k j y r hn;by_cases e:p.1=j
  .rw[dZ e,dZ e,I' (λz=>a (e.trans z))]
  .rw[dO e,dO e,b]
theorem CV(kvs:J (κ×V))(k j:κ)(y:V):gA (putK kvs k y) j=if j=k then Y y else gA kvs j:=by
 unfold putK;by_cases a:(kvs.any λb=>decide (b.1=k))=true
 .rw[HL a,vH];rw[lH]at a;by_cases e:j=k
  .obtain⟨x,c⟩:=OW.mp a;rw[HL e,e,c,Oh,HL rfl]
  .rw[I' e];cases gA kvs j with
   |none=>rfl
   |some x=>rw[Oh,I' e]
 .rw[I' a];refine sQ k j y kvs ?_;rw[lH]at a;cases q:gA kvs k with
  |none=>rfl
  |some x=>rw[q]at a;exact (a rfl).elim
theorem ke(kvs:J (κ×V))(k:κ)(v:V):(putK kvs k v).length<=kvs.length+1:=by
 unfold putK;split
 .rw[N8];omega
 .rw[NS,NP,OE];omega
theorem nA.isSome_eq{o:F1 V}{u:F1 GC}(r:nA o u):o.isSome=u.isSome:=by
 cases o with
 |none=>cases u with
  |none=>rfl
  |some _=>exact (show False from r).elim
 |some _=>cases u with
  |none=>exact (show False from r).elim
  |some _=>rfl
theorem KV.val{kvs:J (κ×V)}{vs:J (κ×GC)}(r:KV kvs vs)(k:κ):nA (gA kvs k) (valueAt vs k):=by
 unfold KV at r
 induction r with
 |nil=>exact RC
 |@cons p q ps qs h t ih =>
  obtain⟨h1,h2⟩:=h;by_cases e:p.1=k
  .have a:q.1=k:=h1.symm.trans e;have b:valueAt (q::qs) k=Y q.2:=by simp[valueAt,Oc,a]
   rw[dZ e,b];exact h2
  .have a:¬ q.1=k:=λz=>e (h1.trans z)
   have b:valueAt (q::qs) k=valueAt qs k:=by simp[valueAt,Oc,a]
   rw[dO e,b];exact ih
theorem KV.any{kvs:J (κ×V)}{vs:J (κ×GC)}(r:KV kvs vs)(k:κ):(kvs.any λa=>decide (a.1=k))=vs.any λa=>decide (a.1=k):=by
 unfold KV at r
 induction r with
 |nil=>rfl
 |cons h t ih=>rw[OR,OR,ih,h.1]
theorem KV.repl{kvs:J (κ×V)}{vs:J (κ×GC)}(r:KV kvs vs)(k:κ)(b:RelV y u) :
  KV (kvs.map λa=>if a.1=k then (a.1,y) else a) (vs.map λa=>if a.1=k then (a.1,u) else a):=by
 unfold KV at r ⊢
 induction r with
 |nil=>exact .nil
 |@cons p q ps qs h t ih =>
  rw[N2,N2];refine .cons ?_ ih;obtain⟨h1,h2⟩:=h;by_cases e:p.1=k
  .rw[HL e,HL (h1.symm.trans e)];exact⟨h1,b⟩
  .rw[I' e,I' (λz=>e (h1.trans z))];exact⟨h1,h2⟩
theorem KV.put{kvs:J (κ×V)}{vs:J (κ×GC)}(r:KV kvs vs)(k:κ)(a:RelV y u):KV (putK kvs k y) (stored vs k u):=by
 unfold putK stored;rw[r.any k];by_cases e:(vs.any λb=>decide (b.1=k))=true
 .rw[HL e,HL e];exact r.repl k a
 .rw[I' e,I' e];exact Paired.snoc r ⟨rfl,a⟩
theorem KV.keys{kvs:J (κ×V)}{vs:J (κ×GC)}(r:KV kvs vs):kvs.map (·.1)=vs.map (·.1):=by
 unfold KV at r
 induction r with
 |nil=>rfl
 |cons h t ih=>rw[N2,N2,ih,h.1]
theorem KV.length{kvs:J (κ×V)}{vs:J (κ×GC)}(r:KV kvs vs):kvs.length=vs.length:=Paired.length r
end
theorem Au{k:Key}(r:RelV (kV k) u):(br P w).is k u=true:=by
 cases k with
 |inl i=>obtain⟨t,e⟩:=(show ∃t,u=Se i t from r);subst e;exact og P w i t
 |inr x=>obtain⟨t,e⟩:=(show ∃t,u=UE x t from r);subst e;exact wx P w x t
theorem tX{P:QS}{w:QY}:∀{ks:J Key}{us:J GC},Vals (ks.map kV) us->ItemsAre (br P w) ks us
 |[],_,r=>by rw[OI]at r;cases r;exact .nil
 |k::ks,_,r=>by
  rw[N2]at r;cases r with
  |cons h t=>exact .cons (Au h) (tX t)
abbrev KT(H:Hp):J (J Key×V)->J (J Key×J'×GC)->Prop:=Paired λp q=>p.1=q.1/\H q.2.1=Y (.tup (p.1.map kV))/\RelV p.2 q.2.2
theorem KT.val(r:KT H kvs xs)(k:J Key):nA (gA kvs k) ((atKey xs k).map (·.2)):=by
 induction r with
 |nil=>exact RC
 |@cons p q ps qs h t ih =>
  obtain⟨h1,_,h2⟩:=h;by_cases e:p.1=k
  .have a:q.1=k:=h1.symm.trans e;have b:atKey (q::qs) k=Y q.2:=by simp[atKey,Oc,a]
   rw[dZ e,b];exact h2
  .have a:¬ q.1=k:=λz=>e (h1.trans z)
   have b:atKey (q::qs) k=atKey qs k:=by simp[atKey,Oc,a]
   rw[dO e,b];exact ih
theorem KT.repl(r:KT H kvs xs)(k:J Key)(b:RelV y u) :
  KT H (kvs.map λa=>if a.1=k then (a.1,y) else a) (xs.map (putAt k u)):=by
 induction r with
 |nil=>exact .nil
 |@cons p q ps qs h t ih =>
  rw[N2,N2];refine .cons ?_ ih;obtain⟨h1,h2,c⟩:=h;unfold putAt;by_cases e:p.1=k
  .rw[HL e,HL (h1.symm.trans e)];exact⟨h1,h2,b⟩
  .rw[I' e,I' (λz=>e (h1.trans z))];exact⟨h1,h2,c⟩
theorem KT.put(r:KT H kvs xs)(k:J Key)(c:H b=Y (.tup (k.map kV)))(a:RelV y u) :
  KT H (putK kvs k y) (storedH xs k b u):=by
 have e:(kvs.any λf=>decide (f.1=k))=(atKey xs k).isSome:=by rw[lH,(r.val k).isSome_eq,PR]
 unfold putK storedH;rw[e];by_cases q:(atKey xs k).isSome=true
 .rw[HL q,HL q];exact r.repl k a
 .rw[I' q,I' q];exact Paired.snoc r ⟨rfl,c,a⟩
theorem KT.keeps(r:KT H kvs xs)(a:∀b ys,H b=Y (.tup ys)->H' b=Y (.tup ys)):KT H' kvs xs :=
 Paired.mapP r λ_ _ z=>⟨z.1,a _ _ z.2.1,z.2.2⟩
section
theorem IV{u:HO}(ok:HOk P w H h)(e:Rd H a u):cC P w H h a u:=e.ok ok
theorem pf{kvs:J (Key×V)}(ok:HOk P w H h)(e:Rd H a (.dK kvs)):kvs.length<=sizeLine/\(a==sysModules)=false/\∃vs,KV kvs vs/\h.DictOf (br P w) a vs :=
 show cC P w H h a (.dK kvs) from IV ok e
theorem IC{kvs:J (Key×V)}(ok:HOk P w H h)(e:H a=Y (.dK kvs)):kvs.length<=sizeLine/\(a==sysModules)=false/\∃vs,KV kvs vs/\h.DictOf (br P w) a vs:=pf ok (.inl e)
theorem ur{ks:J Key}(ok:HOk P w H h)(e:H a=Y (.tup (ks.map kV))):(tupleKind (br P w)).is h ks a:=by
 obtain⟨_,its,r,o,h1,h2,_,n,b⟩:=(show cC P w H h a (.tup (ks.map kV)) from ok a _ e)
 exact⟨o,its.toArray,n,h1,h2,b,by simpa using tX r⟩
theorem vF(ok:HOk P w H h)(e:Rd H a (.dT kvs)):kvs.length<=sizeLine/\(a==sysModules)=false /\
  ∃xs,KT H kvs xs/\h.DictOfH (tupleKind (br P w)) a xs:=by
 obtain⟨z,y,xs,r,o,es,ep,h1,h2,c,f,g⟩:=(show cC P w H h a (.dT kvs) from IV ok e)
 refine⟨z,y,xs,r,o,es,ep,h1,h2,c,f,λx b=>?_,g⟩;have all:∀{l:J (J Key×V)}{m:J (J Key×J'×GC)},KT H l m->∀x∈m,(tupleKind (br P w)).is h x.1 x.2.1:=by
  intro l m q
  induction q with
  |nil=>intro x b;exact nomatch b
  |@cons p q ps qs hq t ih =>
   intro x b;rcases NB.mp b with e|b
   .subst e;exact ur ok (by rw[<-hq.1];exact hq.2.1)
   .exact ih x b
 exact all r x b
theorem MJ(ok:HOk P w H h)(e:H a=Y (.dT kvs)):kvs.length<=sizeLine/\(a==sysModules)=false /\
 ∃xs,KT H kvs xs/\h.DictOfH (tupleKind (br P w)) a xs:=vF ok (.inl e)
end
def u6(H:Hp)(a:J')(y:V)(r:F1 V):Prop :=
 (∃kvs k,Rd H a (.dK kvs)/\y=kV k/\r=gA kvs k)\/∃kvs k b,Rd H a (.dT kvs)/\y=.ref b/\H b=Y (.tup (k.map kV))/\r=gA kvs k
def D3(H:Hp)(a:J')(y v:V)(H':Hp):Prop :=
 (∃kvs k,H a=Y (.dK kvs)/\y=kV k/\kvs.length<sizeLine/\H'=upd H a (.dK (putK kvs k v))) \/
 ∃kvs k b,H a=Y (.dT kvs)/\y=.ref b/\H b=Y (.tup (k.map kV))/\kvs.length<sizeLine/\H'=upd H a (.dT (putK kvs k v))
theorem u6.k{kvs:J (Key×V)}{k:Key}(e:H a=Y (.dK kvs)):u6 H a (kV k) (gA kvs k):=.inl ⟨kvs,k,.inl e,rfl,rfl⟩
theorem D3.k{kvs:J (Key×V)}{k:Key}(e:H a=Y (.dK kvs))(hl:kvs.length<sizeLine):D3 H a (kV k) v (upd H a (.dK (putK kvs k v))):=.inl ⟨kvs,k,e,rfl,hl,rfl⟩
section
variable {r:GC}{o:F1 V}{A:Qs}
theorem Inv.big(I:Inv X z8 σ H s):sysModules<s.heap.objs.size:=by have h:mainGlobals<s.heap.objs.size:=(I.mod.glob.keeps I.bk).lt;exact Qh #[1] h
theorem Br(n:A.units+1<cLine)(I:Inv X z8 σ H s)(g:u6 H a y (Y v))(m:RelV y u)(h:∀f s',Inv X z8 σ H s'->RelV v f->Q f s') :
  wpAny (model X.prog X.w) A (getItem (.ref a) u) Q E s:=by
 rcases g with⟨kvs,k,e,i,l⟩|⟨kvs,k,b,e,i,q,l⟩
 .subst i;obtain⟨z,hd,vs,rel,dd⟩:=pf I.hok e;obtain⟨f,hw,c⟩:=nA.some_of (v:=v) (o:=valueAt vs k) (by rw[l];exact rel.val k);exact wpAny_getItem_of (Au m) dd.mapOf hw (h f _ (I.tok _) c)
 .subst i;cases (show u=Qw b from m);obtain⟨z,hd,xs,rel,dd⟩:=vF I.hok e;obtain⟨f,hw,c⟩:=nA.some_of (v:=v) (o:=(atKey xs k).map (·.2)) (by rw[l];exact rel.val k);obtain⟨p,hp,j⟩:=Oq.mp hw;refine wpAny_getItem_heap (SJ n) (ur I.hok q) dd hp ?_;rw[j];exact h f _ (I.tok _) c
theorem Nq(i:A.units+1<cLine)(I:Inv X z8 σ H s)(g:u6 H a y o)(f:RelV y u)(h:∀s',Inv X z8 σ H s'->Q (.bool o.isSome) s') :
  wpAny (model X.prog X.w) A (compareOp .In u (.ref a)) Q E s:=by
 rcases g with⟨kvs,k,e,c,l⟩|⟨kvs,k,b,e,c,j,l⟩
 .subst c;obtain⟨z,hd,vs,rel,dd⟩:=pf I.hok e;refine wpAny_in_of (Au f) hd dd.mapOf ?_;rw[<- (rel.val k).isSome_eq,<-l];exact h _ (I.tok _)
 .subst c;cases (show u=Qw b from f);obtain⟨z,hd,xs,rel,dd⟩:=vF I.hok e;refine wpAny_in_heap (SJ i) (ur I.hok j) hd dd ?_;have q:=(rel.val k).isSome_eq;rw[PR]at q;rw[<-q,<-l];exact h _ (I.tok _)
theorem uJ{t':O}{ob:HO}(I:Inv X z8 σ H s)(c:Mut (H a))(f:R0 a s.heap h')(g:∃q,h'.get? a=Y q)(new:cC X.prog X.w (upd H a ob) h' a ob) :
  Inv X z8 σ (upd H a ob) {s with heap:=h',toks:=t'} :=
 I.write (x:=a) (e:=a) c (.inl rfl) (λb q h z=>(f.2 b h).trans z) g new
theorem EX{kvs:J (Key×V)}{vs:J (Key×GC)}(z:kvs.length<=sizeLine)(hd:(a==sysModules)=false)(rel:KV kvs vs)(dd:h'.DictOf (br P w) a vs) :
 cC P w H' h' a (.dK kvs):=⟨z,hd,vs,rel,dd⟩
theorem Bv{Q:Vz->LN->Prop}(C:A.units+1<cLine)(I:Inv X z8 σ H s)(g:D3 H a y v H')(p:RelV y u)(t:RelV v r)(h:∀s',Inv X z8 σ H' s'->Q () s') :
  wpAny (model X.prog X.w) A (setItem (.ref a) u r) Q E s:=by
 rcases g with⟨kvs,k,e,j,l,m⟩|⟨kvs,k,b,e,j,x,l,m⟩
 .subst j m;obtain⟨z,hd,vs,rel,dd⟩:=IC I.hok e;have n:vs.length<=sizeLine:=by rw[<-rel.length];exact z
  have hl:(putK kvs k v).length<=sizeLine:=by have:=ke kvs k v;omega
  refine wpAny_setItem_pairs (hsz:=n) (Au p) dd λh' f o=>h _ ?_
  have D:∃q,h'.get? a=Y q:=let ⟨q,_,_,i,_⟩:=f;⟨q,i⟩;exact uJ I (by rw[e];exact RC) o D (EX hl hd (rel.put k t) f)
 .subst j m;cases (show u=Qw b from p);obtain⟨z,hd,xs,rel,dd⟩:=MJ I.hok e;have n:xs.length<=sizeLine:=by rw[<-Paired.length rel];exact z
  have hl:(putK kvs k v).length<=sizeLine:=by have:=ke kvs k v;omega
  refine wpAny_setItem_heap (hsz:=n) (SJ C) (ur I.hok x) dd λh' f o=>h _ ?_
  obtain⟨q,es,ep,i,h2,F,G,_,B'⟩:=f;refine uJ I (by rw[e];exact RC) o ⟨q,i⟩ ⟨hl,hd,_,(rel.put k x t).keeps λc ys B=>?_,q,es,ep,i,h2,F,G,B'⟩;rw[aB (L9 B e (λz=>nomatch z))];exact B
end
section
variable {kvs:J (Key×V)}{k:Key}{A:Qs}
end
def Iu(i:Qt):Prop:=∀a iv,subscripted i false a iv=operate [a,iv] (getItem a iv)
theorem Hw{A:Qs}{value slice:Qt}{T id:RI}
  (hl:typeLookup (.type T) "__getitem__"=pure (Y (.builtin id))) (j:Iu slice)
  (h:wpAny (model prog w) A (eval value env) (λo c=>wpAny (model prog w) A (eval slice env) (λi a=>a.TypeIs o T/\wpAny (model prog w) A (getItem o i) Q E a) E c) E s) :
  wpAny (model prog w) A (eval (.Subscript value slice pos) env) Q E s:=by
 refine Vo (QU h (λo c h₁=>QU h₁ (λi a b=>?_) λ_ _ x=>x) λ_ _ x=>x);obtain⟨g,b⟩:=b;unfold subscriptTail;refine F' ?_;rw[getitemInPython_of_ne g.not_modules];refine F' (Tn g hl ?_);have fin:wpAny (model prog w) A (subscripted slice false o i) (λr e=>wpAny (model prog w) A (letTemporaryGo value o r >>= λ_=>pure r) Q E e) E a:=by rw[j o i];exact wpAny_operating (QU b (λr e f=>F' (wpAny_letTemporaryGo (K' f))) λ_ _ x=>x)
 first
  |exact K' (F' fin)
  |exact F' (K' (F' fin))
  |exact F' fin
theorem wO{o:F1 V}(I:Inv X z8 σ H s)(g:u6 H a y o):s.TypeIs (.ref a) "dict":=by
 rcases g with⟨kvs,k,e,_,_⟩|⟨kvs,k,b,e,_,_,_⟩
 .obtain⟨_,_,vs,_,dd⟩:=pf I.hok e;exact dd.typeIs
 .obtain⟨_,_,xs,_,dd⟩:=vF I.hok e;exact dd.typeIs
def L0(td ty:TE):TE:=λσ H Q=>td σ H λx H1=>ty σ H1 λy H2=>∃a v,x=.ref a/\u6 H2 a y (Y v)/\Q v H2
def LL(td ty tv:TE):TS:=λD σ H=>tv σ H λv H1=>td σ H1 λx H2=>ty σ H2 λy c=>∃a b,x=.ref a/\D3 c a y v b/\D.nx σ b
section
variable {o i e value:Qt}{tpos:Ts}{td ty tv:TE}
theorem zH(f:X.A.units+1<cLine)(j:PE X o td)(hi:PE X i ty)(l:Iu i):PE X (.Subscript o i pos) (L0 td ty):=by
 intro z8 s σ H Q I h;refine Hw F.slot_dict_getitem.lookup l (thn (j z8 s σ H _ I h) λu m b=>?_);obtain⟨x,H1,n,p,q⟩:=b;refine thn (hi z8 m σ H1 _ n q) λiv s2 b=>?_
 obtain⟨y,H2,e,r,a,v,ex,g,t⟩:=b;subst ex;obtain rfl:u=Qw a:=p;exact⟨wO e g,Br f e g r λw' s3 w c=>⟨v,H2,w,c,t⟩⟩
theorem HV(c:X.A.units+1<cLine)(e:PE X o td)(hi:PE X i ty)(hv:PE X value tv)(f:swapsWith value (Y (.Subscript o i pos')) pos.line X.env=pure false) :
  PS X (.Assign [.Subscript o i pos'] value pos) (LL td ty tv):=by
 intro z8 s σ H D I h;refine wpAny_Assign_Subscript (thn (hv z8 s σ H _ I h) λr j b=>?_) f;obtain⟨v,H1,l,m,n⟩:=b;refine thn (e z8 j σ H1 _ l n) λu s2 b=>?_
 obtain⟨x,H2,p,q,t⟩:=b;refine thn (hi z8 s2 σ H2 _ p t) λiv s3 b=>?_
 obtain⟨y,H3,w,z,a,B,ex,g,C⟩:=b;subst ex;obtain rfl:u=Qw a:=q;exact Bv c w g z m λs4 E=>⟨σ,B,E,C⟩
end
theorem FD(h:QD)(a:sysModules<h.objs.size):cC P w H (h.push {cls:=.type "dict",data:=.dict #[]}) h.objs.size (.dK []) :=
 ⟨Ot _,QJ.mpr (Rm (NJ a)),[],.nil,V8 h⟩
def JW:TE:=λ_ H Q=>∀p,H p=S->Q (.ref p) (upd H p (.dK []))
section
theorem Eu:PE X (.Dict [] [] pos) JW:=λz8 s σ H Q I h =>
 wpAny_Dict_empty ⟨.ref s.heap.objs.size,_,I.laid (a:=s.heap.objs.size) (o:=.dK []) (t':=s.toks) (λ_ _ q=>N5 _ q) (ND _) (FD s.heap I.big),rfl,h _ (I.hok.fresh (ND _))⟩
end
def MO(H:Hp)(a:J'):Prop:=(∃kvs,Rd H a (.dK kvs))\/∃kvs,Rd H a (.dT kvs)
theorem Jo(I:Inv X z8 σ H s)(d:MO H a) :
  s.TypeIs (.ref a) "dict"/\(∀b,Qw a=.ref b->∃ob,s.heap.get? b=Y ob/\ob.dict=S)/\(a==sysModules)=false:=by
 rcases d with⟨kvs,e⟩|⟨kvs,e⟩
 .obtain⟨_,hd,vs,_,dd⟩:=pf I.hok e;refine⟨dd.typeIs,λb q=>?_,hd⟩;cases q;obtain⟨ob,_,_,h1,h2,_⟩:=dd;exact⟨ob,h1,h2.2.1⟩
 .obtain⟨_,hd,xs,_,dd⟩:=vF I.hok e;refine⟨dd.typeIs,λb q=>?_,hd⟩;cases q;obtain⟨ob,_,_,h1,h2,_⟩:=dd;exact⟨ob,h1,h2.2.1⟩
section
variable {d:V}{r:GC}{o:F1 V}{A:Qs}
end
section
variable {o e f:Qt}{apos:Ts}{td ty tx:TE}
end
section
variable {kvs:J (Key×V)}{A:Qs}
end
section
variable {A:Qs}
end
section
variable {H0:Hp}{A0:J J'}
theorem bA.setOwnO{t:L}(R:bA K H0 A0 H A EE δ σ)(hi:i∈EE)(hl:i<δ.length)(hn:H a=S)(s:aw H H1)(ha:H1 a=Y o)(m:Hz o=true)(h:iU K (del H1 (a::(A++A0))) t o) :
  bA K H0 A0 H1 (a::A) EE (δ.set i (Y t)) (σ.set i (Y (.ref a))) where
 same:=R.same.trans s
 ls0:=R.ls0
 new:=λb n=>by
  rcases NB.mp n with z|z
  .rw[z];exact R.same.free hn
  .exact R.new b z
 ls:=λb n=>by
  rcases NB.mp n with z|z
  .exact⟨_,by rw[z];exact ha,m⟩
  .exact (R.ls.same s) b z
 len:=by simp[R.len]
 pl:=λj e c q=>by
  rcases get_set q with⟨z,q⟩|⟨z,q⟩
  .subst z;exact Qr hi c
  .obtain⟨u,e1,h1⟩:=R.pl j e c q;refine⟨u,jf z e1,h1.same λb o e=>?_⟩;obtain⟨y,e⟩:=df e;have r:b≠a:=aI e hn;rw[bb (by simpa[r] using y)];exact s _ _ e
 own:=λj e c q=>by
  have v:∀b o,del H (A++A0) b=Y o->del H1 (a::A++A0) b=Y o:=λb o e=>by obtain⟨y,e⟩:=df e;have r:b≠a:=aI e hn;rw[bb (by simpa[r] using y)];exact s _ _ e
  rcases get_set q with⟨z,q⟩|⟨z,q⟩
  .cases q;subst z;exact⟨a,_,_,by rw[O4 (by rw[<-R.len];exact hl)],N1,ha,rfl,h⟩
  .obtain⟨b,ys,es,e1,h1,h2,w,x⟩:=R.own j e c q;exact⟨b,ys,es,jf z e1,N0 _ h1,s _ _ h2,w,x.same v⟩
 inj:=λj k d' e b c f g l p1 p2=>by
  have old:∀k,k∈EE->i≠k->∀e,δ[k]?=Y (Y e)->σ[k]?=Y (Y (.ref a))->False:=λk f _ e q p=>by obtain⟨b,ys,es,e1,h1,h2,_⟩:=R.own k e f q;rw[p]at e1;cases e1;rw[hn]at h2;cases h2
  by_cases z1:i=j
  .by_cases z2:i=k
   .rw[<-z1,z2]
   .subst z1;rw[O4 (by rw[<-R.len];exact hl)]at p1;cases p1;rw[NW z2]at l p2;exact (old k f z2 e l p2).elim
  .by_cases z2:i=k
   .subst z2;rw[O4 (by rw[<-R.len];exact hl)]at p2;cases p2;rw[NW z1]at g p1;exact (old j c z1 d' g p1).elim
   .rw[NW z1]at g p1;rw[NW z2]at l p2;exact R.inj j k d' e b c f g l p1 p2
theorem bA.putO{d1 l:L}(R:bA K H0 A0 H A EE δ σ)(hi:i∈EE)(hd:δ[i]?=Y (Y l))(r:σ[i]?=Y (Y (.ref a)))(ha:a∈A)(m:Hz o=true)(h:iU K (del H (A++A0)) d1 o) :
  bA K H0 A0 (upd H a o) A EE (δ.set i (Y d1)) σ:=by
 have n:del (upd H a (o)) (A++A0)=del H (A++A0):=lK (O1 _ ha);have hl:i<δ.length:=(NC.mp hd).1;refine⟨λb o e=>?_,R.ls0,R.new,λb t=>?_,by simp[R.len],λj e c q=>?_,λj e c q=>?_,λj k d' e b c s f g p1 p2=>?_⟩
 .have p:b≠a:=λz=>by rw[z,R.new a ha]at e;cases e
  rw[aB p];exact R.same b o e
 .by_cases z:b=a
  .exact⟨_,by rw[z,aM],m⟩
  .rw[aB z];exact R.ls b t
 .rcases get_set q with⟨z,q⟩|⟨z,q⟩
  .subst z;exact Qr hi c
  .rw[n];exact R.pl j e c q
 .rcases get_set q with⟨z,q⟩|⟨z,q⟩
  .cases q;subst z;exact⟨a,_,_,r,ha,aM,rfl,by rw[n];exact h⟩
  .obtain⟨b,zs,es,e1,h1,h2,u,v⟩:=R.own j e c q;have p:b≠a:=λw=>z (R.inj i j _ _ a hi c hd q r (by rw[<-w];exact e1))
   exact⟨b,zs,es,e1,h1,by rw[aB p];exact h2,u,by rw[n];exact v⟩
 .rcases get_set f with⟨z1,f⟩|⟨z1,f⟩ <;> rcases get_set g with⟨z2,g⟩|⟨z2,g⟩
  .rw[<-z1,z2]
  .subst z1;exact R.inj i k l e b hi s hd g p1 p2
  .subst z2;exact R.inj j i d' l b c hi f hd p1 p2
  .exact R.inj j k d' e b c s f g p1 p2
end
noncomputable def eY(l:J (Z×Z)):PyData:=.dict (l.map λp=>(FC p.1,FC p.2))
noncomputable def dkO(l:J (Z×Z)):HO:=.dK (l.map λp=>(.inl p.1,V.int p.2))
theorem ki:∀{l m:J (Z×Z)},l.map (λp=>(FC p.1,FC p.2))=m.map (λp=>(FC p.1,FC p.2))->l=m
 |[],[],_=>rfl
 |[],_::_,h=>by simp at h
 |_::_,[],h=>by simp at h
 |(a,b)::l,(c,d)::m,h=>by dsimp[N2,V6,TY,UP]at h;obtain⟨⟨rfl,rfl⟩,h⟩:=h;rw[ki h]
theorem Is.ofDic(h:Is K H (eY l) v):∃a,v=.ref a/\H a=Y (dkO l):=by
 unfold eY Is at h;rcases h with (⟨a,ns,_,e,_⟩|⟨a,m,e1,e,h2⟩)|⟨a,C,dx,fs,_,_,_,h|h⟩
 .cases l with
  |nil=>simp at e
  |cons p l=>simp at e
 .rcases e with⟨b,e,rfl⟩|⟨b,e,rfl⟩|⟨b,_,e,rfl⟩
  .rw[ki e];exact⟨a,e1,h2⟩
  .cases l <;> cases e
  .cases l <;> cases e
 .cases l with
  |nil=>unfold Isk at h;simp at h
  |cons p l=>rw[N2]at h;unfold Isk at h;obtain⟨f,_,_,_,q,_⟩:=h;cases q
 .cases l with
  |nil=>unfold Isk at h;simp at h
  |cons p l=>rw[N2]at h;unfold Isk at h;obtain⟨f,_,_,_,q,_⟩:=h;cases q
noncomputable def kh:J (L×L)->F1 (J (Z×Z))
 |[]=>Y []
 |(.int a,.int b)::r=>(kh r).map λl=>(a,b)::l
 |_=>S
theorem nC:∀{r:J (L×L)}{l:J (Z×Z)},kh r=Y l->r=l.map λp=>(FC p.1,FC p.2)
 |[],l,e=>by cases e;rfl
 |(a,b)::r,l,e=>by
  cases a <;> cases b <;> first|(cases e;done)|skip
  unfold kh at e;cases q:kh r with
  |none=>rw[q]at e;cases e
  |some m=>rw[q]at e;cases e;rw[nC q];rfl
theorem ly:∀l:J (Z×Z),kh (l.map λp=>(FC p.1,FC p.2))=Y l
 |[]=>rfl
 |p::r=>by rw[N2];unfold kh;rw[ly r];rfl
def tK:L->F1 (J (Z×Z))
 |.dict kvs=>kh kvs
 |_=>S
theorem qS{d:L}(h:tK d=Y l):d=eY l:=by
 unfold tK at h;split at h
 .unfold eY;rw[nC h]
 .cases h
theorem kL(l:J (Z×Z)):tK (eY l)=Y l:=ly l
noncomputable def a8(l:J (Z×Z))(k:Z):F1 Int:=(l.find? λp=>decide (p.1=k)).map (·.2)
noncomputable def fe(l:J (Z×Z))(k v:Z):J (Z×Z):=if (l.any λp=>decide (p.1=k))=true then l.map (λp=>if p.1=k then (p.1,v) else p) else l++[(k,v)]
theorem jZ(l:J (Z×Z))(k:Z):gA (l.map λp=>((.inl p.1,V.int p.2):Key×V)) (.inl k)=(a8 l k).map V.int:=by
 unfold gA a8
 induction l with
 |nil=>rfl
 |cons p r ih =>
  rw[N2,Oc,Oc];by_cases z:p.1=k
  .have h1:decide ((Rk p.1:Key)=.inl k)=true:=Ql (by rw[z]);dsimp[h1,Ql z];rfl
  .have h1:decide ((Rk p.1:Key)=.inl k)=false:=P' λq=>z (SQ q)
   dsimp[h1,P' z];exact ih
theorem uH(l:J (Z×Z))(k v:Z):putK (l.map λp=>((.inl p.1,V.int p.2):Key×V)) (.inl k) (.int v)=(fe l k v).map λp=>(.inl p.1,V.int p.2):=by
 have ha:((l.map λp=>((.inl p.1,V.int p.2):Key×V)).any λa=>decide (a.1=.inl k))=l.any λp=>decide (p.1=k):=by
  rw[J.any_map];congr 1;funext p;by_cases z:p.1=k
  .simp[z]
  .have:¬ ((Rk p.1:Key)=.inl k):=λq=>z (SQ q)
   simp[z,this]
 unfold putK fe;rw[ha];split
 .rw[NO,NO];refine NR λp _=>?_
  by_cases z:p.1=k
  .simp[z]
  .have:¬ ((Rk p.1:Key)=.inl k):=λq=>z (SQ q)
   simp[z,this]
 .rw[Ol];rfl
section
variable {E:XK}{o e f i' value:Qt}{go ge gf:Ds->Rs L}{apos:Ts}
end
section
variable {E:XK}{o e f k value:Qt}{go ge gf:Ds->Rs L}{apos:Ts}
def Ad(i:O):Ds->Sr:=λδ=>if i<δ.length then .nx (δ.set i (Y (eY []))) else .no
theorem Ec(b:X.N.Nodup)(c:i∈EE)(hi:X.N[i]?=Y x)(e:Loc X.env.scope x)(f:swapsWith (.Dict [] [] pos') (Y (.Name x apos)) pos.line X.env=pure false)
  (g:X.fn x=true\/X.env.scope.names.lookup x=Y .local):PSD X E EE (.Assign [.Name x apos] (.Dict [] [] pos') pos) (Ad i):=(mK b hi e Eu f g).imp λD σ H a=>by
 obtain⟨H0,A0,A,δ,R,o⟩:=a;unfold Ad at o;split at o
 .rename_i hl;intro p hp;exact o (p::A) _ _ (R.setOwnO (o:=dkO []) c hl hp (bS hp) aM rfl (.inl ⟨[],rfl,rfl⟩))
 .exact o.elim
def gX(i:O)(gk gv:Ds->Rs L):Ds->Sr:=λδ=>match δ[i]? with
 |some (Y d)=>(match tK d with
  |some l=>ofR (gv δ) λv=>ofR (gk δ) λk=>(match k,v with
   |.int k,.int v=>if l.length<1000000 then .nx (δ.set i (Y (eY (fe l k v)))) else .no
   |_,_=>.no)
  |none=>.no)
 |_=>.no
theorem Eh(B:X.A.units+1<cLine)(h:PD X E value gv)(F:PD X E k gk)(w:i∈EE)(hi:X.N[i]?=Y x)(hv:Vis X.env.scope x)
  (hd:(x==("__debug__":Qn))=false) (f:(x==("__classdict__":Qn))=false) (G:swapsWith value (Y (.Subscript (.Name x pn) k pos')) pos.line X.env=pure false):PSD X E EE (.Assign [.Subscript (.Name x pn) k pos'] value pos) (gX i gk gv) :=
 (HV B (gQ hi hv hd f) F h G).imp λD σ H g=>by
  obtain⟨H0,A0,A,δ,R,a⟩:=g;unfold gX at a;split at a
  .rename_i d q;split at a
   .rename_i l hl;rw[qS hl]at q;obtain⟨p,o',d',e1,hp,j,e2,n⟩:=R.own i _ w q;subst e2;have r:o'=dkO l:=by
     have n:Hu _ o':=n;rcases n with⟨m,b,rfl⟩|⟨m,b,_⟩|⟨m,_,b,_⟩
     .rw[ki b];rfl
     .cases l <;> cases b
     .cases l <;> cases b
    subst r;refine eD.run R.full (λvd I v H1 y B' s=>?_) (λC c H' s'=>?_) (λc=>?_)
    .dsimp[I,av]at a;refine⟨_,e1,?_⟩;refine eD.run B' (λkd K u H2 s2 R2 t=>?_) (λC c H' s'=>?_) (λc=>?_)
     .dsimp[K,av]at a;split at a
      .rename_i z Dd;split at a
       .rename_i wb;have b:=t.ofInt;have M:=s.ofInt;subst b M;have e:=y.trans s2;refine⟨p,_,rfl,D3.k (k:=.inl z) (e _ _ j) (by rw[N8,QI];omega),?_⟩;rw[uH];exact a A _ _ ((R.step e).putO (o:=dkO (fe l z Dd)) w q e1 hp rfl (.inl ⟨_,rfl,rfl⟩))
       .exact a.elim
      .exact a.elim
     .dsimp[c,jW]at a;exact a H' (R.same.trans (y.trans s'))
     .dsimp[c,kl]at a;exact a
    .dsimp[c,jW]at a;exact a H' (R.same.trans s')
    .dsimp[c,kl]at a;exact a
   .exact a.elim
  .exact a.elim
end
theorem cO.u1{k:O}{A:Qs}(r:cO k A):A.units+1<cLine:=by have:=r.un;omega
def IX(b N:J Qn)(p:Qn)(cap:J O)(a sc:SO):Qo :=
 (sc.kind==.function)&&!sc.isCoroutine&&!sc.isGenerator&&decide N.Nodup&&decide (N.take 1=[p])&&(sc.names.lookup p==Y .local)&&sc.names.all (λx=>x.2 != .cell) &&
 sc.names.all (λy=>y.2 != .free||a.names.lookup y.1==Y .cell)&&decide (N.length=1+cap.length) &&
 (M' cap.length).all (λi=>match N[1+i]?,cap[i]? with
  |some x,Y m=>(b[m]?==Y x)&&(sc.names.lookup x==Y .free)&&(a.names.lookup x==Y .cell)
  |_,_=>false)
theorem nW{α:Type}{x:Qn}{k:α}:∀{l:J (Qn×α)},l.lookup x=Y k->(x,k)∈l
 |[],h=>by cases h
 |(y,j)::r,h=>by
  rw[Oy]at h;cases q:(x==y) with
  |true=>rw[q]at h;cases h;rw[eq_of_beq q];exact N1
  |false=>rw[q]at h;exact N0 _ (nW h)
end L2
namespace RS
open PySem
set_option genInjectivity true in
structure Er where
 every:Z
 due:Z
 late:Z
 parts:J (Z×F1 Z)
noncomputable def bc:F1 Z->L
 |none=>.none
 |some i=>.int i
def aG(p:Z×F1 Z):PyData:=.tuple [.int p.1,bc p.2]
def Er.d(e:Er):PyData:=.tuple [.int e.every,.int e.due,.int e.late,.tuple (e.parts.map aG)]
def aj(es:J Er):PyData:=.tuple (es.map Er.d)
noncomputable def isWhole(d:L)(lo hi:Z):Bool:=match d with
 |.int i=>decide (lo<=i)&&decide (i<=hi)
 |_=>false
def bW(d:L)(lo hi:Z):Bool:=match d with
 |.tuple ds=>decide (lo<=(ds.length:Z))&&decide ((ds.length:Z)<=hi)
 |_=>false
def cX(d:L):Bool:=match d with
 |.tuple [a,b]=>isWhole a 1 20&&(match b with|.none=>true|b=>isWhole b 0 3)
 |_=>false
def iV(ds:J L):Bool:=match ds.getLast? with
 |some (.tuple [_,.none])=>true
 |_=>false
def dW(d:L):Bool:=match d with
 |.tuple ds=>decide (1<=ds.length)&&decide (ds.length<=4)&&ds.all cX&&iV ds
 |_=>false
def bH(d:L):Bool:=match d with
 |.tuple [.int e,du,.int l,ps]=>decide (2<=e)&&decide (e<=60)&&(decide (0<=l)&&decide (l<=(if e-1<20 then e-1 else 20)))&&isWhole du 1 (e-l)&&dW ps
 |_=>false
def cW(d:L):Bool:=match d with
 |.tuple ds=>decide (1<=ds.length)&&decide (ds.length<=6)&&ds.all bH
 |_=>false
structure Er.Ok(e:Er):Prop where
 e1:2<=e.every
 e2:e.every<=60
 l1:0<=e.late
 l2:e.late<=20
 l3:e.late<e.every
 d1:1<=e.due
 d2:e.due<=e.every-e.late
 p1:e.parts≠[]
 p2:e.parts.length<=4
 pl:∀p∈e.parts,1<=p.1/\p.1<=20/\∀t,p.2=Y t->0<=t/\t<=3
 la:∀p,e.parts.getLast?=Y p->p.2=S
theorem Cy{p:Z×F1 Z}(h1:1<=p.1)(h2:p.1<=20)(c:∀t,p.2=Y t->0<=t/\t<=3):cX (aG p)=true:=by
 obtain⟨l,t⟩:=p;cases t with
 |none=>simp[cX,aG,bc,isWhole,h1,h2]
 |some t =>obtain⟨a,b⟩:=c t rfl;simp[cX,aG,bc,isWhole,h1,h2,a,b]
theorem wJ{e:Er}(h:e.Ok):bH e.d=true:=by
 have hp:(e.parts.map aG).all cX=true:=by rw[NT];intro d hd;obtain⟨p,hp,rfl⟩:=NH.mp hd;obtain⟨a,b,c⟩:=h.pl p hp;exact Cy a b c
 have hl:iV (e.parts.map aG)=true:=by
  unfold iV;rw[Qc];cases q:e.parts.getLast? with
  |none=>exact Qr (J.getLast?_eq_none_iff.mp q) h.p1
  |some p =>obtain⟨l,t⟩:=p;have:t=none:=h.la _ q;subst this;rfl
 have hn:1<=e.parts.length:=by
  cases q:e.parts with
  |nil=>exact Qr q h.p1
  |cons _ _=>simp
 have h1:=h.e1;have h2:=h.e2;have g:=h.l1;have h4:=h.l2;have h5:=h.l3;have i:=h.d1;have j:=h.d2;have m:=h.p2;have f:e.late<=if e.every-1<20 then e.every-1 else 20:=by split <;> omega
 simp[bH,Er.d,dW,isWhole,hp,hl,hn,h1,h2,g,i,j,m,f]
theorem md{es:J Er}(h1:1<=es.length)(h2:es.length<=6)(h:∀e∈es,e.Ok):cW (aj es)=true:=by
 have hp:(es.map Er.d).all bH=true:=by rw[NT];intro d hd;obtain⟨e,a,rfl⟩:=NH.mp hd;exact wJ (h e a)
 simp[cW,aj,h1,h2,hp]
noncomputable def cellAt(ns:J Z)(k:Z):Z :=
 if k<(ns.length:Z) then ns.getD k.toNat 0 else if ns=[] then 0 else ns.getD (k % (ns.length:Z)).toNat 0*31+k
def BV(ns:J Z)(k:Z):Int:=(cellAt ns k+7919*k+1)*48271 % 2147483647
def mixed(ns:J Z)(k xb:Z):Int:=(BV ns k*BV ns k+7*BV ns k+k) % 2147483629 % xb
theorem Gq(ns:J Z)(k:Z):0<=BV ns k:=OX _ #[1]
theorem GD(ns:J Z)(k:Z):BV ns k<2147483647:=P6 _ #[1]
theorem cH(ns:J Z)(k:Z)(h:0<xb):0<=mixed ns k xb:=OX _ ⋯
theorem cU(ns:J Z)(k:Z)(h:0<xb):mixed ns k xb<xb:=P6 _ h
def kR(i:Z):F1 Int:=if i=0 then Y 0 else if i=1 then Y 1 else if i=2 then Y 1 else if i=3 then Y 0 else S
def eW(ns:J Z)(j:Z)(a:Qo):Z×F1 Int:=(1+mixed ns j 40 % 4,if a then kR (mixed ns j 40 / 4 % 5) else S)
def iO(ns:J Z)(at' a:Z):Z :=
 if a-1<mixed ns (at' + 1) 4*(if mixed ns (at' + 2) 3=0 then 1 else 0) then a-1 else mixed ns (at' + 1) 4*(if mixed ns (at' + 2) 3=0 then 1 else 0)
def nL(ns:J Z)(at' a:Z):Int:=if mixed ns (at' + 1) 3=0 then a-mixed ns (at' + 2) a else a
def mkE(ns:J Z)(at' top:Z)(a:Qo):Er where
 every:=3+mixed ns at' top
 late:=iO ns at' (3+mixed ns at' top)
 due:=nL ns at' (3+mixed ns at' top-iO ns at' (3+mixed ns at' top))
 parts:=((M' (mixed ns (at' + 3) 3).toNat).map λ(k:O)=>eW ns (at' + 4+(k:Z)) a)++[(1+mixed ns (at' + 6) 3,S)]
def oB(ns:J Z)(at' most top:Z)(a:Qo):J Er:=(M' (1+mixed ns at' most).toNat).map λ(k:O)=>mkE ns (at' + 1+7*(k:Z)) top a
theorem xy(ns:J Z)(at' a:Z)(h:3<=a):0<=iO ns at' a/\iO ns at' a<=3/\iO ns at' a<a:=by
 have h1:=cH ns (at' + 1) (xb:=4) #[1];have h2:=cU ns (at' + 1) (xb:=4) #[1];unfold iO;generalize mixed ns (at' + 1) 4=x at *;by_cases hc:mixed ns (at' + 2) 3=0
 .dsimp[hc,QA,W0];split <;> omega
 .dsimp[hc,RL,Z.mul_zero];split <;> omega
theorem Ia(ns:J Z)(at' a:Z)(h:1<=a):1<=nL ns at' a/\nL ns at' a<=a:=by have h1:=cH ns (at' + 2) (xb:=a) ⋯;have h2:=cU ns (at' + 2) (xb:=a) ⋯;unfold nL;split <;> omega
theorem F4(i t:Z)(h:kR i=Y t):0<=t/\t<=1:=by
 unfold kR at h
 repeat' split at h
 all_goals (first|(cases h;decide)|cases h)
theorem C0(ns:J Z)(j:Z)(a:Qo):1<=(eW ns j a).1/\(eW ns j a).1<=4/\∀t,(eW ns j a).2=Y t->0<=t/\t<=1:=by
 have h1:0<=mixed ns j 40 % 4:=OX _ #[1];have h2:mixed ns j 40 % 4<4:=P6 _ #[1];refine⟨by unfold eW;simp only;omega,by unfold eW;simp only;omega,λt h=>?_⟩;unfold eW at h;simp only at h;cases a with
 |false=>simp at h
 |true=>simp at h;exact F4 _ _ h
theorem Lf(ns:J Z)(at' top:Z)(a:Qo)(h1:0<top)(h2:top<=58):(mkE ns at' top a).Ok:=by
 have a1:=cH ns at' h1;have a2:=cU ns at' h1;have l:=xy ns at' (3+mixed ns at' top) ⋯;have d:=Ia ns at' (3+mixed ns at' top-iO ns at' (3+mixed ns at' top)) ⋯;have n1:=cH ns (at' + 3) (xb:=3) #[1];have n2:=cU ns (at' + 3) (xb:=3) #[1];have n3:=cH ns (at' + 6) (xb:=3) #[1];have n4:=cU ns (at' + 6) (xb:=3) #[1];refine⟨?_,?_,l.1,?_,l.2.2,d.1,d.2,?_,?_,?_,?_⟩
 .show 2<=3+mixed ns at' top;omega
 .show 3+mixed ns at' top<=60;omega
 .have:=l.2.1;show iO ns at' (3+mixed ns at' top)<=20;omega
 .simp[mkE]
 .dsimp[mkE,NS,N8,PQ,Ou];omega
 .intro p hp;dsimp[mkE,NZ,NH,NQ]at hp;rcases hp with⟨k,_,rfl⟩|rfl
  .have:=C0 ns (at' + 4+(k:Z)) a;refine⟨this.1,⋯,λt b=>?_⟩;have:=this.2.2 t b;omega
  .exact⟨by simp only;omega,by simp only;omega,λt b=>by cases b⟩
 .intro p hp;dsimp[mkE,J.getLast?_append,J.getLast?_singleton,F1.some_or]at hp;cases hp;rfl
theorem Ep(ns:J Z)(at' most top:Z)(a:Qo)(h:0<most):1<=(oB ns at' most top a).length/\((oB ns at' most top a).length:Z)<=most:=by have h1:=cH ns at' h;have h2:=cU ns at' h;dsimp[oB,N8,PQ];omega
theorem Gv(ns:J Z)(at' most top:Z)(a:Qo)(h1:0<top)(h2:top<=58):∀e∈oB ns at' most top a,e.Ok:=by intro e b;dsimp[oB,NH]at b;obtain⟨k,_,rfl⟩:=b;exact Lf _ _ _ _ h1 h2
end RS
variable {e:RS.Er}{es:J RS.Er}
namespace RS
open PySem L2
structure Cs where
 RankError:J'
 NoErrands:J'
 NoRanks:J'
 NoComings:J'
 NoErrand:J'
 NoNumber:J'
 TooLong:J'
 NoText:J'
 Holding:J'
 Jobs:J'
abbrev Gf:=J L->Rs L
def bM(K:Qp)(mg:Qn->F1 GC)(x:Qn)(st:T7)(ps:J Qn):Prop:=∃f fd,Fun K x x st f fd/\Binds K fd ps []/\mg x=Y (.ref f)
def jr(cs:Cs):Ds->Sr :=
 (az (sIf (cOr (dD (gT (g1 (fF "int") (ae 0)))) (gT (g1 (fF "bool") (ae 0)))) (a9 (gC (.bool false))) aT)
  (a9 (fR dLe dLe (ae 1) (ae 0) (ae 2))))
def jd(cs:Cs):Ds->Sr :=
 (a9 (F5 (g1 (fF "tuple") (ae 0)) (fR dLe dLe (ae 1) (gF bp #[0,0]) (ae 2))))
def gG(cs:Cs)(aS aV:Gf):Ds->Sr :=
 (az (sIf (cOr (dD (gT (ao aV #[0,0,↑2,↑2]))) (dD (gT (ao aS #[0,g2 dIx (ae 0) ↑0,↑1,↑20])))) (a9 (gC (.bool false))) aT)
  (a9 (gOr (g1 xB (g2 dIx (ae 0) ↑1)) (ao aS #[0,g2 dIx (ae 0) ↑1,↑0,g2 fI ↑4 ↑1]))))
def f7(cs:Cs)(aV a:Gf):Ds->Sr :=
 (az (sIf (cOr (dD (gT (ao aV #[0,0,↑1,↑4]))) (dD (gT (gF ye #[0,gL (aO 1 (bx (ae 0)) aZ (ao a #[0,1]) aF)])))) (a9 (gC (.bool false))) aT)
  (a9 (g1 xB (g2 dIx (g2 dIx (ae 0) (g1 jN ↑1)) ↑1))))
def dX(cs:Cs)(aS a aV:Gf):Ds->Sr :=
 (az (sIf (dD (gT (ao aV #[0,0,↑4,↑4]))) (a9 (gC (.bool false))) aT)
  (az (aW [] 1 (g2 dIx (ae 0) ↑0))
  (az (aW [] 2 (g2 dIx (ae 0) ↑1))
  (az (aW [] 3 (g2 dIx (ae 0) ↑2))
  (az (sIf (dD (gT (ao aS #[0,1,↑2,↑60]))) (a9 (gC (.bool false))) aT)
  (az (sIf (dD (gT (ao aS #[0,3,↑0,gF jH #[0,↑20,g2 fI (ae 1) ↑1]]))) (a9 (gC (.bool false))) aT)
  (a9 (F5 (ao aS #[0,2,↑1,g2 fI (ae 1) (ae 3)]) (ao a #[0,g2 dIx (ae 0) ↑3])))))))))
def i5(cs:Cs)(aV a:Gf):Ds->Sr :=
 (az (sIf (cOr (dD (gT (ao aV #[0,0,↑1,↑6]))) (dD (gT (gF ye #[0,gL (aO 1 (bx (ae 0)) aZ (ao a #[0,1]) aF)])))) (k4 cs.NoErrands #[0,gC (.str "errands are a tuple of 1 to 6 errands (every, due, late, parts)")]) aT)
  (a9 (ae 0)))
def cB(cs:Cs)(aV aS:Gf):Ds->Sr :=
 (az (aW [] 2 (g2 fI (gF bp #[0,0]) ↑1))
  (az (sIf (cOr (dD (gT (ao aV #[0,1,gF bp #[0,0],gF bp #[0,0]]))) (dD (gT (gF ye #[0,gL (aO 3 (bx (ae 1)) aZ (ao aS #[0,3,↑0,2]) aF)])))) (k4 cs.NoRanks #[0,gC (.str "ranks are a tuple of the numbers of all errands")]) aT)
  (az (sIf (gT (g2 dLt (gF mD #[0,1]) (gF bp #[0,1]))) (k4 cs.NoRanks #[0,gC (.str "ranks have each errand's number once")]) aT)
  (a9 (ae 1)))))
def eo(cs:Cs)(aS:Gf):Ds->Sr :=
 (az (sIf (dD (gT (ao aS #[0,1,↑0,g2 fI (gF bp #[0,0]) ↑1]))) (k4 cs.NoErrand #[0,gC (.str "no errand has this number")]) aT)
  (a9 (ae 1)))
def fY(cs:Cs)(bh bB cx:Gf):Ds->Sr :=
 (az (nX (ao cx #[0,0]))
  (az (nX (ao bB #[0,0,1]))
  (nX (ao bh #[0,0,2]))))
def sU(cs:Cs):Ds->Sr :=
 (a9 (gF uS #[0,gL (aO 1 (bx (g2 dIx (ae 0) ↑3)) aZ (g2 dIx (ae 1) ↑0) aF)]))
def jC(cs:Cs):Ds->Sr :=
 (a9 (g2 (Dl false) (ae 1) (gL (aO 2 (bx (g2 dIx (ae 0) ↑3)) aZ (g2 dIx (ae 2) ↑1) aF))))
def mq(cs:Cs)(cm:Gf):Ds->Sr :=
 (az (dN [] (iq #[0,1]) (b9 [3,4]) (sIf (gT (ao cm #[0,g2 dIx (ae 0) (ae 4),2])) (a9 (ae 3)) aT))
  (a9 (gC .none)))
def gr(cs:Cs)(dq:Gf):Ds->Sr :=
 (a9 (gL (aO 2 (dG #[0,↑4]) aZ (ao dq #[0,0,1,2]) aF)))
def jE(cs:Cs)(bU:Gf):Ds->Sr :=
 (az (aW [5] 3 (iL (ae 1) (ae 2)))
  (az (aW [5] 4 (ao bU #[0,0,1]))
  (az (dh [5] 5 ah)
  (az (dN [5] (bx (eJ (ae 1) (gm (g2 bq (ae 3) ↑1)) c6)) (aP 6) (dN [5] (iq #[0,g2 dIx (g2 dIx (ae 0) (ae 6)) ↑3]) (b9 [7,8]) (sIf (rH (gT (g1 iw (g2 dIx (ae 8) ↑1))) (gT (g2 dLe (g2 dIx (ae 4) (g2 dIx (ae 8) ↑1)) (ae 3)))) (gx [5] 5 (ao (sP cs.Holding ["number", "part", "tool", "times"]) #[0,6,7,g2 dIx (ae 8) ↑1,g2 fI (g2 dIx (ae 8) ↑0) ↑1])) aT)))
  (a9 (ae 5))))))
def fG(cs:Cs)(a7:Gf):Ds->Sr :=
 (a9 (g2 xD (gL (aO 3 (bx (ao a7 #[0,0,1,2])) aZ (g1 (cY cs.Holding "times") (ae 3)) aF)) ↑0))
def gu(cs:Cs):Ds->Sr :=
 (a9 (g2 xV (g2 fI (g2 bq (ae 0) (ae 1)) ↑1) (ae 1)))
def ua(cs:Cs)(a bI:Gf):Ds->Sr :=
 (az (aW [] 5 (g2 bq (ae 3) (ao a #[0,g2 dIx (ae 0) (ae 2)])))
  (az (dN [] (bx (eJ (ae 1) c6 (gm (iL (ae 1) (ae 2))))) (aP 6) (az (aW [] 7 (g2 dIx (ae 0) (ae 6)))
  (yl [] 5 (g2 lj (ao a #[0,7]) (ao bI #[0,g2 bq (ae 4) (g2 dIx (ae 7) ↑2),g2 dIx (ae 7) ↑0])))))
  (a9 (ae 5))))
def ip(cs:Cs)(cT:Gf):Ds->Sr :=
 (az (aW [5] 4 (g2 fI (g2 dIx (g2 dIx (ae 0) (ae 2)) ↑0) (g2 dIx (g2 dIx (ae 0) (ae 2)) ↑2)))
  (az (dh [5] 5 ah)
  (az (aW [5] 6 (ao cT #[0,0,1,2,3,↑1]))
  (az (λδ=>cj (gT (g2 dLe (ae 6) (ae 4))) (az (gx [5] 5 (ae 6))
  (az (aW [5] 7 (ao cT #[0,0,1,2,3,6]))
  (az (sIf (gT (g2 dEq (ae 7) (ae 6))) (a9 (ae 5)) aT)
  (aW [5] 6 (ae 7))))) 1000000 δ)
  (a9 (gC .none))))))
def fH(cs:Cs)(cF:Gf):Ds->Sr :=
 (az (aW [] 4 (ao cF #[0,0,1,2,3]))
  (a9 (gIf (gT (g1 xB (ae 4))) (gC .none) (g2 dIx (ae 4) (g1 jN ↑1)))))
def dF(cs:Cs)(bO cn:Gf):Ds->Sr :=
 (a9 (ao cn #[0,0,1,2,ao bO #[0,0,1,2]]))
def kF(cs:Cs)(bu aU:Gf):Ds->Sr :=
 (az (nX (ao aU #[0,0,1,2]))
  (a9 (ao bu #[0,0,1,2])))
def gz(cs:Cs)(aq:Gf):Ds->Sr :=
 (az (aW [7] 4 (g2 bq ↑3 (ao aq #[0,0,1,2])))
  (az (aW [7] 5 (g2 lj (ao aq #[0,0,g2 bq (ae 1) ↑1,↑4]) (gF oz #[0,g2 dEq (ao aq #[0,0,g2 bq (ae 1) ↑2,↑3]) ↑0])))
  (az (aW [7] 5 (gF jH #[0,5,g2 fI (ae 4) ↑1]))
  (az (aW [7] 6 (g2 fI (ae 4) (ae 5)))
  (az (sIf (gT (g2 dEq (ao aq #[0,0,g2 bq (ae 1) ↑1,↑3]) ↑0)) (aW [7] 6 (g2 fI (ae 6) (ao aq #[0,0,g2 bq (ae 1) ↑2,6]))) aT)
  (az (dh [7] 7 ah)
  (az (dN [7] (dG #[0,ao aq #[0,0,g2 bq (ae 1) ↑3,↑3]]) (aP 8) (az (aW [7] 9 (ao aq #[0,0,g2 bq (g2 bq (ae 1) ↑4) (ae 8),↑40]))
  (az (gx [7] 7 (cQ #[0,g2 bq ↑1 (g2 q9 (ae 9) ↑4),g2 dIx (iY #[0,↑0,↑1,↑1,↑0,gC .none]) (g2 q9 (g2 xV (ae 9) ↑4) ↑5)]))
  (sIf (dD (gT (ae 3))) (jA 7 (g1 jN ↑1) (cQ #[0,g2 dIx (g2 dIx (ae 7) (g1 jN ↑1)) ↑0,gC .none])) aT))))
  (a9 (cQ #[0,4,6,5,gF jR #[0,g2 bq (ae 7) (iY #[0,cQ #[0,g2 bq ↑1 (ao aq #[0,0,g2 bq (ae 1) ↑6,↑3]),gC .none]])]])))))))))
def fS(cs:Cs)(bY aq:Gf):Ds->Sr :=
 (az (aW [] 5 (g2 bq ↑1 (ao aq #[0,0,1,2])))
  (a9 (gF jR #[0,gL (aO 6 (dG #[0,5]) aZ (ao bY #[0,0,g2 bq (g2 bq (ae 1) ↑1) (g2 lj ↑7 (ae 6)),3,4]) aF)])))
def iy(cs:Cs)(aq:Gf):Ds->Sr :=
 (az (dh [3,4] 3 (gLR #[0,2]))
  (az (dh [3,4] 4 ah)
  (az (dN [3,4] (dG #[0,2]) (aP 5) (jo 4 3 (ao aq #[0,0,g2 bq (ae 1) (ae 5),gF bp #[0,3]])))
  (a9 (gF jR #[0,4])))))
def fW(cs:Cs):Ds->Sr :=
 (az (dh [2] 2 #[0,gC .none,gC .none,gC .none,gC .none])
  (az (dN [2] (AS #[0,g2 fI (gF bp #[0,1]) ↑1,g1 jN ↑1,g1 jN ↑1]) (aP 3) (dN [2] (bx (g2 dIx (g2 dIx (ae 0) (g2 dIx (ae 1) (ae 3))) ↑3)) (b9 [4,5]) (sIf (gT (g1 iw (ae 5))) (jA 2 (ae 5) (ae 3)) aT)))
  (a9 (ae 2))))
def ql(cs:Cs):Ds->Sr :=
 (a9 (gF uS #[0,gL (aO 1 (bx (g2 dIx (ae 0) ↑3)) aZ (g2 dIx (ae 1) ↑0) aF)]))
end RS
set_option maxHeartbeats 1000000
variable {cs:RS.Cs}
namespace RS
open PySem L2
variable {xs:J L}{g:L->Qo}{a b:Z}
theorem GQ(h:i∉EE):(mask EE δ)[i]?=δ[i]?:=by
 unfold mask;by_cases z:EE=[]
 .rw[HL z]
 .rw[I' z,O3];cases δ[i]? with
  |none=>rfl
  |some d=>simp[h]
theorem ax(h:i∉EE):ae i (mask EE δ)=ae i δ:=by unfold ae;rw[GQ h]
@[simp]theorem aC(d:L)(δ:Ds):ae 0 (Y d::δ)=.ok d:=rfl
@[simp]theorem aE(i:O)(x:F1 L)(δ:Ds):ae (i+1) (x::δ)=ae i δ:=rfl
@[simp]theorem fh(d:L)(δ:Ds):gC d δ=.ok d:=rfl
@[simp]theorem G2(f:L->F1 L)(a:Ds->Rs L)(δ:Ds):g1 f a δ=(a δ).bind λx=>Rs.dS (f x):=rfl
@[simp]theorem dP(f:L->L->F1 L)(a b:Ds->Rs L)(δ:Ds):g2 f a b δ=(a δ).bind λx=>(b δ).bind λy=>Rs.dS (f x y):=rfl
@[simp]theorem jM(f:J L->F1 L)(a:Ds->Rs (J L))(δ:Ds):gF f a δ=(a δ).bind λx=>Rs.dS (f x):=rfl
@[simp]theorem aL(δ:Ds):ah δ=.ok []:=rfl
@[simp]theorem aA(a:Ds->Rs L)(r:Ds->Rs (J L))(δ:Ds):af a r δ=(a δ).bind λx=>(r δ).bind λxs=>.ok (x::xs):=rfl
@[simp]theorem jw(a:Ds->Rs (J L))(δ:Ds):cQ a δ=(a δ).bind λds=>.ok (.tuple ds):=rfl
@[simp]theorem DL(a:Ds->Rs (J L))(δ:Ds):iY a δ=(a δ).bind λds=>.ok (.list ds):=rfl
@[simp]theorem bQ(f:Gf)(a:Ds->Rs (J L))(δ:Ds):ao f a δ=(a δ).bind f:=rfl
@[simp]theorem iM(a:Ds->Rs L)(δ:Ds):gT a δ=(a δ).bind truth:=rfl
@[simp]theorem bX(b:Qo):truth (.bool b)=.ok b:=rfl
@[simp]theorem Fi(a:Ds->Rs Qo)(δ:Ds):dD a δ=(a δ).bind λb=>.ok (!b):=rfl
@[simp]theorem yB(a b:Ds->Rs Qo)(δ:Ds):rH a b δ=(a δ).bind λx=>if x=true then b δ else .ok false:=rfl
@[simp]theorem Mc(a b:Ds->Rs Qo)(δ:Ds):cOr a b δ=(a δ).bind λx=>if x=true then .ok true else b δ:=rfl
@[simp]theorem MW(a b:Ds->Rs L)(δ:Ds):F5 a b δ=(a δ).bind λx=>(truth x).bind λt=>if t=true then b δ else .ok (.bool false):=rfl
@[simp]theorem Nu(a b:Ds->Rs L)(δ:Ds):gOr a b δ=(a δ).bind λx=>(truth x).bind λt=>if t=true then .ok (.bool true) else b δ:=rfl
@[simp]theorem Ng(a:Ds->Rs L)(δ:Ds):MU a δ=(a δ).bind λx=>(truth x).bind λt=>.ok (.bool (!t)):=rfl
@[simp]theorem yh(a:Ds->Rs (J L))(δ:Ds):gL a δ=(a δ).bind λds=>.ok (.list ds):=rfl
@[simp]theorem kZ(a:Ds->Rs L)(δ:Ds):bx a δ=(a δ).bind AE:=rfl
@[simp]theorem MX(ds:J L):AE (.list ds)=.ok ds:=rfl
@[simp]theorem yX(ds:J L):AE (.tuple ds)=.ok ds:=rfl
@[simp]theorem lQ(a:Ds->Rs (J L))(δ:Ds):dG a δ=(a δ).bind Fv:=rfl
@[simp]theorem Gs(a:Ds->Rs (J L))(δ:Ds):AV a δ=(a δ).bind DX:=rfl
@[simp]theorem Iw(a:Ds->Rs (J L))(δ:Ds):AS a δ=(a δ).bind FR:=rfl
@[simp]theorem MH(a:Ds->Rs (J L))(δ:Ds):gLR a δ=(a δ).bind uM:=rfl
@[simp]theorem uO(a:Ds->Rs (J L))(δ:Ds):iq a δ=(a δ).bind qG:=rfl
@[simp]theorem ML(ds:J L):qG [.list ds]=.ok (ij ds):=rfl
@[simp]theorem uK(ds:J L):qG [.tuple ds]=.ok (ij ds):=rfl
@[simp]theorem Di(f f':L->L->F1 L)(a b c:Ds->Rs L)(δ:Ds):fR f f' a b c δ=(a δ).bind λx=>(b δ).bind λy=>(Rs.dS (f x y)).bind λz=>(truth z).bind λt=>if t=true then (c δ).bind λw=>Rs.dS (f' y w) else .ok (.bool false):=rfl
@[simp]theorem kE(δ:Ds):c6 δ=.ok none:=rfl
@[simp]theorem oH(g:Ds->Rs L)(δ:Ds):gm g δ=(g δ).bind DE:=rfl
@[simp]theorem oN(i:Z):DE (.int i)=.ok (Y i):=rfl
@[simp]theorem lX(g:Ds->Rs L)(lo hi:Ds->Rs (F1 Z))(δ:Ds):eJ g lo hi δ=(g δ).bind λd=>(lo δ).bind λl=>(hi δ).bind λh=>Rs.dS (GH d l h):=rfl
@[simp]theorem MV(x:J L)(lo hi:F1 Z):GH (.list x) lo hi=↥(cutD x lo hi):=rfl
@[simp]theorem uE(x:J L)(lo hi:F1 Z):GH (.tuple x) lo hi=Y (.tuple (cutD x lo hi)):=rfl
@[simp]theorem bg(a b:Ds->Sr)(δ:Ds):az a b δ=match a δ with|.nx δ'=>b δ'|r=>r:=rfl
@[simp]theorem uG(δ:Ds):aT δ=.nx δ:=rfl
@[simp]theorem fm(c:Ds->Rs Qo)(a b:Ds->Sr)(δ:Ds):sIf c a b δ=ofR (c δ) λt=>if t=true then a δ else b δ:=rfl
@[simp]theorem c7(g:Ds->Rs L)(δ:Ds):a9 g δ=ofR (g δ) .rt:=rfl
@[simp]theorem vz(g:Ds->Rs L)(δ:Ds):nX g δ=ofR (g δ) λ_=>.nx δ:=rfl
@[simp]theorem oK(i:O)(g:Ds->Rs L)(δ:Ds):aW [] i g δ=if i<δ.length then ofR (g δ) λd=>.nx (δ.set i (Y d)) else .no:=by unfold aW;rw[eK]
@[simp]theorem L6(C:J')(gs:Ds->Rs (J L))(δ:Ds):k4 C gs δ=ofR (gs δ) λ_=>.rz C:=rfl
theorem iJ(EE:J O)(src:Ds->Rs (J L))(tgt:L->Ds->F1 Ds)(body:Ds->Sr)(δ:Ds):dN EE src tgt body δ=ofR (src (mask EE δ)) λds=>forL tgt body ds δ:=rfl
@[simp]theorem cA(d:L):bo (.rt d)=.ok d:=rfl
@[simp]theorem Lq(δ:Ds):bo (.nx δ)=.ok .none:=rfl
@[simp]theorem Lr(C:J'):bo (.rz C)=.rz C:=rfl
@[simp]theorem Lu:bo .no=.no:=rfl
@[simp]theorem eO(a b:Z):bq (.int a) (.int b)=⇑(a+b):=rfl
@[simp]theorem lO(a b:Z):fI (.int a) (.int b)=⇑(a-b):=rfl
@[simp]theorem Mg(a b:Z):q9 (.int a) (.int b)=if 0<b then ⇑(a % b) else none:=rfl
@[simp]theorem IT(a b:Z):xV (.int a) (.int b)=if 0<b/\b<1073741824 then ⇑(a / b) else none:=rfl
@[simp]theorem Kn(a b:Z):dLt (.int a) (.int b)=Y (.bool (decide (a<b))):=rfl
@[simp]theorem Fm(a b:Z):dLe (.int a) (.int b)=Y (.bool (decide (a<=b))):=rfl
@[simp]theorem Ma(a b:Z):dGt (.int a) (.int b)=Y (.bool (decide (b<a))):=rfl
@[simp]theorem Nw(a b:Z):dGe (.int a) (.int b)=Y (.bool (decide (b<=a))):=rfl
@[simp]theorem IL(a:Z):jN (.int a)=⇑(-a):=rfl
@[simp]theorem Nt(d:L):xB d=Y (.bool (fX d)):=rfl
@[simp]theorem Nr(d:L):iw d=Y (.bool (!fX d)):=rfl
@[simp]theorem Mz:fX .none=true:=rfl
@[simp]theorem Lv(i:Z):fX (.int i)=false:=rfl
@[simp]theorem xh(x:J L)(i:Z):dIx (.tuple x) (.int i)=atI x i:=rfl
@[simp]theorem IE(x:J L)(i:Z):dIx (.list x) (.int i)=atI x i:=rfl
@[simp]theorem uf(x:J L):bp [.tuple x]=⇑x.length:=rfl
@[simp]theorem Df(x:J L):bp [.list x]=⇑x.length:=rfl
@[simp]theorem Ek(a b:Z):jH [.int a,.int b]=⇑(if b<a then b else a):=rfl
@[simp]theorem M8(a b:Z):su [.int a,.int b]=⇑(if b>a then b else a):=rfl
@[simp]theorem Lg(b:Qo):oz [.bool b]=⇑(if b then 1 else 0):=rfl
@[simp]theorem FG(x:J L):jR [.list x]=Y (.tuple x):=rfl
@[simp]theorem MP(x:J L):jR [.tuple x]=Y (.tuple x):=rfl
@[simp]theorem r8(a b:Z):dEq (.int a) (.int b)=Y (.bool (a==b)):=by
 have h:∀i:Z,QV (.int i)=true:=λi=>by simp[QV,Sb,Sy]
 unfold dEq;rw[h,h];simp[aY,Rb]
@[simp]theorem EA(a b:Z):dNe (.int a) (.int b)=Y (.bool (!(a==b))):=by
 have h:∀i:Z,QV (.int i)=true:=λi=>by simp[QV,Sb,Sy]
 unfold dNe;rw[h,h];simp[aY,Rb]
theorem k7{xs:J α}{i:Z}{j:O}(h:i=j):atI xs i=xs[j]?:=by
 subst h;unfold atI ixN;by_cases z:(j:Z)<xs.length
 .rw[HL ⋯,HL z];simp
 .rw[HL ⋯,I' z];simp;omega
@[simp]theorem Nz(xs:J α):atI xs 0=xs[0]?:=k7 (j:=0) rfl
@[simp]theorem Nv(xs:J α):atI xs 1=xs[1]?:=k7 (j:=1) rfl
@[simp]theorem Ny(xs:J α):atI xs 2=xs[2]?:=k7 (j:=2) rfl
@[simp]theorem Nx(xs:J α):atI xs 3=xs[3]?:=k7 (j:=3) rfl
theorem m8(xs:J α):atI xs (-1)=xs.getLast?:=by
 unfold atI ixN;rw[I' #[1]];by_cases z:xs=[]
 .subst z;rfl
 .have:0<xs.length:=QK.mpr z;rw[HL ⋯,SN];dsimp[Oi];congr 1;omega
theorem pF(g:α->Qo)(xs:J α):ye [.list (xs.map λd=>.bool (g d))]=Y (.bool (xs.all g)):=by
 have a:iG (xs.map λd=>RB (g d))=Y (xs.map g):=by rw[show (xs.map λd=>RB (g d))=(xs.map g).map RB by rw[NO];rfl];exact pN _
 show (iG (xs.map λd=>RB (g d))).map (λns=>RB (ns.all id))=_;rw[a,Oh,J.all_map];rfl
theorem v3(g:α->Z)(xs:J α):uS [.list (xs.map λd=>.int (g d))]=Y (.int (xs.map g).sum):=by
 have a:iC (xs.map λd=>FC (g d))=Y (xs.map g):=by rw[show (xs.map λd=>FC (g d))=(xs.map g).map FC by rw[NO];rfl];exact i9 _
 show (iC (xs.map λd=>FC (g d))).map (λns=>FC ns.sum)=_;rw[a,Oh]
theorem comp_map{elt:Ds->Rs L}{δ:Ds}{f:L->L}:∀(ds:J L),(∀d∈ds,elt (δ++[Y d])=.ok (f d))->eG aZ elt aF δ ds=.ok (ds.map f)
 |[],_=>rfl
 |d::r,h=>by unfold eG;dsimp[aF,aZ,Rs.fU,Rs.ag,QA,h d N1,comp_map r λe a=>h e (N0 _ a),N2]
theorem bN{elt:Ds->Rs L}{f:L->L}(hn:δ.length=n0)(a:src δ=.ok ds)(hl:ds.length<=1000000)(h:∀d∈ds,elt (δ++[Y d])=.ok (f d)) :
  aO n0 src aZ elt aF δ=.ok (ds.map f):=by
 unfold aO;rw[HL hn,a];dsimp[Rs.ag,HL hl];exact comp_map ds h
theorem qK:∀{ds:J L},fN ds=true->∀d∈ds,aY d=true
 |[],_,d,hd=>by cases hd
 |e::r,h,d,hd=>by
  unfold fN at h;obtain⟨h1,h2⟩:=Pc.mp h;rcases NB.mp hd with z|z
  .rw[z];exact h1
  .exact qK h2 d z
theorem d4(h:aY (.tuple ds)=true):∀d∈ds,aY d=true:=by unfold aY at h;exact qK h
def aS:Gf
 |[d,.int a,.int b]=>if aY d then .ok (.bool (isWhole d a b)) else .no
 |_=>.no
theorem oP{f:L->Z->Z->Rs L}(h:(match ds with|[c,.int a,.int b]=>f c a b|_=>.no)≠.no):∃c a b,ds=[c,.int a,.int b]/\f c a b≠.no:=by
 rcases ds with _|⟨c,_|⟨a,_|⟨b,_|⟨y,ys⟩⟩⟩⟩
 .cases h rfl
 .cases h rfl
 .first|cases h rfl|(cases a <;> cases h rfl)
 .skip
  cases a with
  |int a =>
   cases b with
   |int b =>exact⟨_,_,_,rfl,h⟩
   |_=>cases h rfl
  |_=>first|cases h rfl|(cases b <;> cases h rfl)
 .first|cases h rfl|(cases a <;> first|cases h rfl|(cases b <;> cases h rfl))
abbrev LLq(G:Ds->Sr)(n k:O)(g:Gf):Prop:=∀ds,ds.length=n->g ds≠.no->bo (G (ds.map Y++L' k S))=g ds
theorem xH(cs:Cs):LLq (jr cs) 3 0 aS:=by
 intro ds hl c;obtain⟨d,a,b,f,e⟩:=oP c;clear c;subst f;have c:=e;clear e;unfold aS
 .skip
  split at c
  .rename_i hd;dsimp[hd,QA];cases d with
   |int i=>by_cases h:a<=i <;> simp[jr,fF,hd,uc,tyD,isWhole,h]
   |dict _=>simp[aY]at hd
   |_=>simp[jr,fF,hd,uc,tyD,isWhole]
  .cases c rfl
def aV:Gf
 |[d,.int a,.int b]=>if aY d then .ok (.bool (bW d a b)) else .no
 |_=>.no
theorem yY(cs:Cs):LLq (jd cs) 3 0 aV:=by
 intro ds hl c;obtain⟨d,a,b,f,e⟩:=oP c;clear c;subst f;have c:=e;clear e;unfold aV
 .skip
  split at c
  .rename_i hd;dsimp[hd,QA];cases d with
   |tuple x=>by_cases h:a<=(x.length:Z) <;> simp[jd,fF,hd,uc,tyD,bW,h]
   |dict _=>simp[aY]at hd
   |_=>simp[jd,fF,hd,uc,tyD,bW]
  .cases c rfl
def gj(g:L->Qo):Gf
 |[d]=>if aY d then .ok (.bool (g d)) else .no
 |_=>.no
theorem pB(h:gj g ds≠.no):∃d,ds=[d]/\aY d=true/\gj g ds=.ok (.bool (g d)):=by
 unfold gj at h ⊢;split at h
 .rename_i d;split at h
  .rename_i hd;exact⟨d,rfl,hd,by simp[hd]⟩
  .cases h rfl
 .cases h rfl
theorem pV{d:L}(h:aY d=true):gj g [d]=.ok (.bool (g d)):=by unfold gj;simp[h]
@[simp]theorem Lw{d:L}(h:aY d=true):aV [d,.int a,.int b]=.ok (.bool (bW d a b)):=by unfold aV;simp[h]
@[simp]theorem IH{d:L}(h:aY d=true):aS [d,.int a,.int b]=.ok (.bool (isWhole d a b)):=by unfold aS;simp[h]
theorem xj{d:L}(h:bW d 2 2=true):∃a b,d=.tuple [a,b]:=by
 cases d with
 |tuple ds =>
  simp[bW]at h
  match ds,h with
  |[a,b],_=>exact⟨a,b,rfl⟩
  |[],h=>simp at h
  |[_],h=>simp at h
  |_::_::_::_,h=>simp at h;omega
 |_=>cases h
theorem B6(cs:Cs):LLq (gG cs aS aV) 1 0 (gj cX):=by
 intro ds hl c;obtain⟨d,rfl,hd,e⟩:=pB c;rw[e];cases e1:bW d 2 2 with
 |false =>
  have:cX d=false:=by
   unfold cX;split
   .simp[bW]at e1
   .rfl
  simp[gG,hd,e1,this]
 |true =>
  obtain⟨a,b,rfl⟩:=xj e1;have ha:=d4 hd a #[2];have f:=d4 hd b #[2];cases e2:isWhole a 1 20 with
  |false=>simp[gG,hd,ha,e1,e2,cX]
  |true =>
   cases b with
   |none=>simp[gG,hd,ha,e1,e2,cX]
   |_=>simp[gG,hd,ha,f,e1,e2,cX,fX]
theorem vV(cs:Cs):LLq (f7 cs aV (gj cX)) 1 0 (gj dW):=by
 intro ds hl c;obtain⟨d,rfl,hd,e⟩:=pB c;rw[e];cases e1:bW d 1 4 with
 |false =>
  have:dW d=false:=by
   cases d with
   |tuple ds =>dsimp[bW,OC,QM]at e1;dsimp[dW,OC,QM];refine .inl (.inl ?_);omega
   |_=>rfl
  simp[f7,hd,e1,this]
 |true =>
  obtain⟨xs,rfl⟩:∃ds,d=.tuple ds:=by cases d <;> first|exact⟨_,rfl⟩|cases e1
  have hn:1<=xs.length/\xs.length<=4:=by dsimp[bW,NG,Qm]at e1;omega
  have hc:aO 1 (bx (ae 0)) aZ (ao (gj cX) #[0,1]) aF [Y (.tuple xs)]=.ok (xs.map λd=>.bool (cX d)) :=
   bN rfl rfl ⋯ λd g=>by simp[pV (d4 hd d g)]
  have j:=pF cX xs;cases e2:xs.all cX with
  |false=>simp[f7,hd,e1,hc,j,e2,dW]
  |true =>
   have c:xs≠[]:=by intro z;subst z;simp at hn
   have f:xs.getLast?=Y (xs.getLast c):=J.getLast?_eq_some_getLast c;have hp:=NT.mp e2 _ (J.getLast_mem c);obtain⟨a,b,h⟩:∃a b,xs.getLast c=.tuple [a,b]:=by
    revert hp;generalize xs.getLast c=z;intro hp;unfold cX at hp;split at hp
    .exact⟨_,_,rfl⟩
    .cases hp
   rw[h]at f;have i:iV xs=fX b:=by unfold iV;rw[f];cases b <;> rfl
   simp[f7,hd,e1,hc,j,e2,dW,m8,f,i,hn.1,hn.2]
theorem uZ{d:L}(h:bW d 4 4=true):∃a b c e,d=.tuple [a,b,c,e]:=by
 cases d with
 |tuple ds =>
  simp[bW]at h
  match ds,h with
  |[a,b,c,e],_=>exact⟨a,b,c,e,rfl⟩
  |[],h=>simp at h
  |[_],h=>simp at h
  |[_,_],h=>simp at h
  |[_,_,_],h=>simp at h
  |_::_::_::_::_::_,h=>simp at h;omega
 |_=>cases h
theorem cZ{d:L}(h:isWhole d a b=true):∃i,d=.int i/\a<=i/\i<=b:=by
 cases d with
 |int i=>simp[isWhole]at h;exact⟨i,rfl,h⟩
 |_=>cases h
theorem pY{a b c e:L}(h:isWhole a 2 60=false):bH (.tuple [a,b,c,e])=false:=by
 cases a with
 |int i =>
  cases c with
  |int l =>dsimp[isWhole,OC,QM]at h;dsimp[bH,OC,QM];omega
  |_=>rfl
 |_=>rfl
theorem rM{b c e:L}{i:Z}(h:isWhole c 0 (if i-1<20 then i-1 else 20)=false):bH (.tuple [.int i,b,c,e])=false:=by
 cases c with
 |int l =>dsimp[isWhole,OC,QM]at h;dsimp[bH,OC,QM];exact .inl (.inl (.inr h))
 |_=>rfl
theorem qX{b e:L}{i l:Z}(h1:2<=i/\i<=60)(h2:0<=l/\l<=if i-1<20 then i-1 else 20):bH (.tuple [.int i,b,.int l,e])=(isWhole b 1 (i-l)&&dW e):=by simp[bH,h1.1,h1.2,h2.1,h2.2]
theorem wF(cs:Cs):LLq (dX cs aS (gj dW) aV) 1 3 (gj bH):=by
 intro ds hl h;obtain⟨d,rfl,hd,e⟩:=pB h;rw[e];cases e1:bW d 4 4 with
 |false =>
  have:bH d=false:=by
   unfold bH;split
   .simp[bW]at e1
   .rfl
  simp[dX,hd,e1,this]
 |true =>
  obtain⟨a,b,c,q,rfl⟩:=uZ e1;have ha:=d4 hd a #[2];have g:=d4 hd b #[2];have hc:=d4 hd c #[2];have f:=d4 hd q #[2];cases e2:isWhole a 2 60 with
  |false=>simp[dX,hd,ha,g,hc,f,e1,e2,pY e2]
  |true =>
   obtain⟨i,rfl,i1,i2⟩:=cZ e2;cases e3:isWhole c 0 (if i-1<20 then i-1 else 20) with
   |false=>simp[dX,hd,ha,g,hc,f,e1,e2,e3,rM e3]
   |true =>
    obtain⟨l,rfl,l1,l2⟩:=cZ e3;have j:=qX (b:=b) (e:=q) ⟨i1,i2⟩ ⟨l1,l2⟩;cases e4:isWhole b 1 (i-l) with
    |false=>simp[dX,hd,ha,g,hc,f,e1,e2,e3,e4,j]
    |true=>simp[dX,hd,ha,g,hc,f,e1,e2,e3,e4,j,pV f]
def cx(cs:Cs):Gf
 |[d]=>if aY d then (if cW d then .ok d else .rz cs.NoErrands) else .no
 |_=>.no
theorem Ct(cs:Cs):LLq (i5 cs aV (gj bH)) 1 0 (cx cs):=by
 intro ds hl a;obtain⟨d,rfl⟩:∃d,ds=[d]:=by
  match ds,hl with
  |[d],_=>exact⟨d,rfl⟩
 have hd:aY d=true:=by
  unfold cx at a;by_cases z:aY d=true
  .exact z
  .simp[z]at a
 have e:cx cs [d]=if cW d then .ok d else .rz cs.NoErrands:=by unfold cx;simp[hd]
 rw[e];cases e1:bW d 1 6 with
 |false =>
  have:cW d=false:=by
   cases d with
   |tuple ds =>dsimp[bW,OC,QM]at e1;dsimp[cW,OC,QM];refine .inl ?_;omega
   |_=>rfl
  simp[i5,hd,e1,this]
 |true =>
  obtain⟨xs,rfl⟩:∃ds,d=.tuple ds:=by cases d <;> first|exact⟨_,rfl⟩|cases e1
  have hn:1<=xs.length/\xs.length<=6:=by dsimp[bW,NG,Qm]at e1;omega
  have hc:aO 1 (bx (ae 0)) aZ (ao (gj bH) #[0,1]) aF [Y (.tuple xs)]=.ok (xs.map λd=>.bool (bH d)) :=
   bN rfl rfl ⋯ λd b=>by simp[pV (d4 hd d b)]
  have c:=pF bH xs;cases e2:xs.all bH with
  |false=>simp[i5,hd,e1,hc,c,e2,cW]
  |true=>simp[i5,hd,e1,hc,c,e2,cW,hn.1,hn.2]
theorem jq{β:Type}{tgt:L->Ds->F1 Ds}{body:Ds->Sr}(inv:O->Ds->Prop):∀(ds:J L)(k:O),(∀(i:O) d δ,ds[i]?=Y d->inv (k+i) δ->∃δ1 a,tgt d δ=Y δ1/\body δ1=.nx a/\inv (k+i+1) a) ->
  ∀δ,inv k δ->∃b,forL tgt body ds δ=.nx b/\inv (k+ds.length) b
 |[],k,_,δ,h=>⟨δ,rfl,h⟩
 |d::r,k,hs,δ,h=>by
  obtain⟨δ1,a,e1,e2,h2⟩:=hs 0 d δ rfl h;obtain⟨b,c,e⟩:=jq (β:=β) inv r (k+1) (λi x δ f hi=>by have:=hs (i+1) x δ (by simpa using f) (by rw[show k+(i+1)=k+1+i by omega];exact hi);rw[show k+1+i+1=k+(i+1)+1 by omega];exact this) a h2
  exact⟨b,by unfold forL;rw[e1];dsimp[e2];exact c,by rw[NP,show k+(r.length+1)=k+1+r.length by omega];exact e⟩
noncomputable def Dq:L->F1 Z
 |.int i=>Y i
 |_=>S
def cg:L->Z×F1 Z
 |.tuple [.int l,t]=>(l,Dq t)
 |_=>(0,S)
def deE:L->Er
 |.tuple [.int e,.int d,.int l,.tuple ps]=>⟨e,d,l,ps.map cg⟩
 |_=>⟨0,0,0,[]⟩
theorem tV(e:Z)(d:Z)(l:Z)(ps:J L):deE (.tuple [.int e,.int d,.int l,.tuple ps])=⟨e,d,l,ps.map cg⟩:=rfl
def cz:L->J Er
 |.tuple ds=>ds.map deE
 |_=>[]
theorem xW(o:F1 Z):Dq (bc o)=o:=by cases o <;> rfl
theorem j6(p:Z×F1 Z):cg (aG p)=p:=by obtain⟨l,t⟩:=p;simp[aG,cg,xW]
theorem Fo(e:Er):deE e.d=e:=by
 obtain⟨a,b,c,ps⟩:=e;simp[Er.d,tV,NO]
 conv=>rhs;rw[<-OH ps]
 exact NR λp _=>j6 p
theorem fE(es:J Er):cz (aj es)=es:=by
 simp[aj,cz,NO]
 conv=>rhs;rw[<-OH es]
 exact NR λe _=>Fo e
theorem part_of{d:L}(h:cX d=true):aG (cg d)=d/\1<=(cg d).1/\(cg d).1<=20/\∀t,(cg d).2=Y t->0<=t/\t<=3:=by
 unfold cX at h;split at h
 .rename_i a b;rw[NG]at h;obtain⟨i,rfl,h1,h2⟩:=cZ h.1;have c:=h.2;cases b with
  |none=>exact⟨rfl,h1,h2,λt q=>by cases q⟩
  |int t =>obtain⟨t',q,e,f⟩:=cZ c;cases q;exact⟨rfl,h1,h2,λt q=>by cases q;exact⟨e,f⟩⟩
  |_=>cases c
 .cases h
theorem sM{d:L}(h:bH d=true):(deE d).d=d/\(deE d).Ok:=by
 unfold bH at h;split at h
 .rename_i e g l ps;dsimp[NG,Qm]at h;obtain⟨⟨⟨⟨h1,h2⟩,i,j⟩,m⟩,b⟩:=h;obtain⟨g,rfl,d1,d2⟩:=cZ m;unfold dW at b;split at b
  .rename_i ps;dsimp[NG,Qm]at b;obtain⟨⟨⟨p1,p2⟩,n⟩,c⟩:=b;have pa:=NT.mp n;have f:l<=20/\l<e:=by split at j <;> omega
   refine⟨?_,?_⟩
   .have o:ps.map (aG∘cg)=ps:=by
     conv=>rhs;rw[<-OH ps]
     exact NR λp hp=>(part_of (pa p hp)).1
    dsimp[tV,Er.d,NO,o]
   .refine⟨h1,h2,i,f.1,f.2,d1,d2,λz=>?_,by simpa[tV] using p2,λp hp=>?_,λp hp=>?_⟩
    .have:ps=[]:=by simpa[tV] using z
     subst this;simp at p1
    .obtain⟨q,r,rfl⟩:=NH.mp (show p∈ps.map cg from hp);exact (part_of (pa q r)).2
    .have hp:(ps.map cg).getLast?=Y p:=hp;rw[Qc]at hp;unfold iV at c;cases q:ps.getLast? with
     |none=>rw[q]at hp;cases hp
     |some z =>
      rw[q]at hp c;simp at hp;split at c
      .rename_i a heq;cases heq;subst hp;unfold cg;split
       .rename_i l t e1;injection e1 with e1;injection e1 with _ e1;injection e1 with e1 _
        rw[<-e1];rfl
       .rfl
      .cases c
  .cases b
 .cases h
theorem yF{d:L}(h:cW d=true):aj (cz d)=d/\1<=(cz d).length/\(cz d).length<=6/\∀e∈cz d,e.Ok:=by
 unfold cW at h;split at h
 .rename_i ds;dsimp[NG,Qm]at h;obtain⟨⟨h1,h2⟩,a⟩:=h;have pa:=NT.mp a;refine⟨?_,by simpa[cz] using h1,by simpa[cz] using h2,λe b=>?_⟩
  .dsimp[cz,aj,NO];congr 1
   conv=>rhs;rw[<-OH ds]
   exact NR λp hp=>(sM (pa p hp)).1
  .obtain⟨q,c,rfl⟩:=NH.mp (show e∈ds.map deE from b);exact (sM (pa q c)).2
 .cases h
def deI:L->Z
 |.int i=>i
 |_=>0
def b0:L->J Z
 |.tuple ds=>ds.map deI
 |_=>[]
def ai(ns:J Z):PyData:=.tuple (ns.map .int)
theorem eM(ns:J Z):b0 (ai ns)=ns:=by
 simp[ai,b0,NO]
 conv=>rhs;rw[<-OH ns]
 exact NR λ_ _=>rfl
def c9(n:O):L->Qo
 |.tuple ds=>decide (ds.length=n)&&ds.all (λd=>isWhole d 0 ((n:Z)-1))&&decide (ds.map deI).Nodup
 |_=>false
structure bK(n:O)(rs:J Z):Prop where
 len:rs.length=n
 rng:∀r∈rs,0<=r/\r<n
 nd:rs.Nodup
theorem jV{n:O}{d:L}(h:c9 n d=true):ai (b0 d)=d/\bK n (b0 d):=by
 unfold c9 at h;split at h
 .rename_i ds;dsimp[NG,Qm]at h;obtain⟨⟨h1,h2⟩,c⟩:=h;have pa:=NT.mp h2;refine⟨?_,by simpa[b0] using h1,λr e=>?_,c⟩
  .dsimp[b0,ai,NO];congr 1
   conv=>rhs;rw[<-OH ds]
   refine NR λp hp=>?_
   obtain⟨i,rfl,_⟩:=cZ (pa p hp);rfl
  .obtain⟨q,f,rfl⟩:=NH.mp (show r∈ds.map deI from e);obtain⟨i,rfl,a,b⟩:=cZ (pa q f);exact⟨a,by show i<n;omega⟩
 .cases h
theorem fK{n:O}(h:bK n rs):c9 n (ai rs)=true:=by
 have e:(rs.map FC).map deI=rs:=by
  rw[NO];conv=>rhs;rw[<-OH rs]
  exact NR λ_ _=>rfl
 unfold c9 ai;dsimp[N8,h.len,V0,Pa,e,h.nd,Q9];rw[NT];intro d hd;obtain⟨r,a,rfl⟩:=NH.mp hd;have:=h.rng r a;simp[isWhole,this.1];omega
theorem mH:∀(l z5:J Z),z5.Nodup->((l.foldl QT z5).length<=z5.length+l.length)/\((l.foldl QT z5).length=z5.length+l.length↔(z5++l).Nodup)
 |[],z5,h=>by simpa using h
 |x::r,z5,h=>by
  rw[NY];by_cases z:z5.any (·==x)=true
  .have e:QT z5 x=z5:=by unfold QT;rw[HL z]
   rw[e];have:=mH r z5 h;refine⟨by rw[NP];omega,λq=>?_,λq=>?_⟩
   .rw[NP]at q;omega
   .exfalso;obtain⟨y,c,f⟩:=Oz.mp z;have:y=x:=by simpa using f
    subst this;rw[Pb]at q;exact q.2.2 y c y N1 rfl
  .have e:QT z5 x=z5++[x]:=by unfold QT;rw[I' z]
   have g:x∉z5:=λq=>z (Oz.mpr ⟨x,q,by simp⟩)
   have hn:(z5++[x]).Nodup:=by rw[Pb];exact⟨h,by simp,λa ha b i=>by rw[NQ.mp i];rintro rfl;exact g ha⟩
   rw[e];have:=mH r (z5++[x]) hn;rw[NS,Ou,OK]at this;refine⟨by rw[NP];omega,?_⟩;rw[NP,show z5.length+(r.length+1)=z5.length+1+r.length by omega];exact this.2
theorem yc(ns:J Z):((seen ns ns.length).length:Z)<ns.length↔¬ ns.Nodup:=by
 have e:(M' ns.length).map (λi=>ns.getD i 0)=ns:=by
  apply OZ;intro i;rw[NA];by_cases h:i<ns.length
  .rw[OB h,My h];simp[N9,My h]
  .rw[OD (by simpa using h),OD (by simpa using h)];rfl
 have:=mH ns [] Q3;unfold seen PyProof.Rows.firstMet;rw[e];dsimp[OE,Ob,OF]at this;constructor
 .intro h q;have:=this.2.mpr q;omega
 .intro h;have h1:=this.1;have h2:¬ (Si QT [] ns).length=ns.length:=λq=>h (this.2.mp q)
  omega
def bB(cs:Cs):Gf
 |[.tuple es,r]=>if aY r&&decide (es.length<=100) then (if c9 es.length r then .ok r else .rz cs.NoRanks) else .no
 |_=>.no
theorem EO{f:J L->L->Rs L}(h:(match ds with|[.tuple a,b]=>f a b|_=>.no)≠.no):∃a b,ds=[.tuple a,b]/\f a b≠.no:=by
 rcases ds with _|⟨a,_|⟨b,_|⟨y,ys⟩⟩⟩
 .cases h rfl
 .first|cases h rfl|(cases a <;> cases h rfl)
 .skip
  cases a with
  |tuple a =>exact⟨_,_,rfl,h⟩
  |_=>cases h rfl
 .first|cases h rfl|(cases a <;> cases h rfl)
theorem oA(cs:Cs):LLq (cB cs aV aS) 2 1 (bB cs):=by
 intro ds hl a;obtain⟨es,r,l,j⟩:=EO a;clear a;subst l;have a:=j;clear j;unfold bB
 .skip
  split at a
  .rename_i c;dsimp[c,QA];rw[NG,Qm]at c;obtain⟨hd,h100⟩:=c;cases e1:bW r es.length es.length with
   |false =>
    have:c9 es.length r=false:=by
     cases r with
     |tuple xs =>
      have:xs.length≠es.length:=λq=>by simp[bW,q]at e1
      simp[c9,this]
     |_=>rfl
    simp[cB,hd,e1,this]
   |true =>
    obtain⟨xs,rfl⟩:∃ds,r=.tuple ds:=by cases r <;> first|exact⟨_,rfl⟩|cases e1
    have hn:xs.length=es.length:=by dsimp[bW,NG,Qm]at e1;omega
    have hc:aO 3 (bx (ae 1)) aZ (ao aS #[0,3,↑0,2]) aF [Y (.tuple es),Y (.tuple xs),⇑((es.length:Z)-1)]=.ok (xs.map λd=>.bool (isWhole d 0 ((es.length:Z)-1))) :=
     bN rfl rfl ⋯ λd e=>by simp[d4 hd d e]
    have f:=pF (λd=>isWhole d 0 ((es.length:Z)-1)) xs;cases e2:xs.all (λd=>isWhole d 0 ((es.length:Z)-1)) with
    |false=>simp[cB,hd,e1,hc,f,e2,c9]
    |true =>
     have pa:=NT.mp e2;have m:xs=(xs.map deI).map L.int:=by
      rw[NO]
      conv=>lhs;rw[<-OH xs]
      refine NR λp hp=>?_
      obtain⟨i,rfl,_⟩:=cZ (pa p hp);rfl
     have g:mD [.tuple xs]=Y (.int (seen (xs.map deI) (xs.map deI).length).length):=by
      unfold mD
      conv=>lhs;rw[m]
      dsimp[i9,Oi];rw[HL (by simp;omega)]
     have b:=yc (xs.map deI);have h:(xs.map deI).length=es.length:=by rw[N8];exact hn
     rw[h]at g b;by_cases hnd:(xs.map deI).Nodup
     .have h2:¬ (seen (xs.map deI) es.length).length<es.length:=λq=>b.mp ⋯ hnd
      simp[cB,hd,e1,hc,f,e2,g,hn,h2,c9,hnd]
     .have h2:(seen (xs.map deI) es.length).length<es.length:=by have:=b.mpr hnd;omega
      simp[cB,hd,e1,hc,f,e2,g,hn,h2,c9,hnd]
  .cases a rfl
noncomputable def j9:L->Qo
 |.tuple [.int l,b]=>decide (0<=l)&&decide (l<=1000000)&&(match b with|.none=>true|.int t=>decide (0<=t)&&decide (t<=3)|_=>false)
 |_=>false
def yL:L->Qo
 |.tuple [.int e,.int _,.int l,.tuple ps]=>decide (1<=e)&&decide (e<1073741824)&&decide (-1000000000<=l)&&decide (l<=1000000000)&&decide (ps.length<=1000)&&ps.all j9
 |_=>false
def nU:L->Qo
 |.tuple ds=>decide (ds.length<=100)&&ds.all yL
 |_=>false
structure Er.Sh(e:Er):Prop where
 e1:1<=e.every
 e2:e.every<1073741824
 l1:-1000000000<=e.late
 l2:e.late<=1000000000
 pn:e.parts.length<=1000
 pl:∀p∈e.parts,0<=p.1/\p.1<=1000000/\∀t,p.2=Y t->0<=t/\t<=3
theorem sO{d:L}(h:j9 d=true):aG (cg d)=d/\0<=(cg d).1/\(cg d).1<=1000000/\∀t,(cg d).2=Y t->0<=t/\t<=3:=by
 unfold j9 at h;split at h
 .rename_i l b;dsimp[NG,Qm]at h;obtain⟨⟨h1,h2⟩,a⟩:=h;cases b with
  |none=>exact⟨rfl,h1,h2,λt q=>by cases q⟩
  |int t =>dsimp[NG,Qm]at a;exact⟨rfl,h1,h2,λt q=>by cases q;exact a⟩
  |_=>cases a
 .cases h
theorem AW{d:L}(h:yL d=true):(deE d).d=d/\(deE d).Sh:=by
 unfold yL at h;split at h
 .rename_i e du l ps;dsimp[NG,Qm]at h;obtain⟨⟨⟨⟨⟨h1,h2⟩,a⟩,b⟩,c⟩,f⟩:=h;have pa:=NT.mp f;have g:ps.map (aG∘cg)=ps:=by
   conv=>rhs;rw[<-OH ps]
   exact NR λp hp=>(sO (pa p hp)).1
  refine⟨by dsimp[tV,Er.d,NO,g],h1,h2,a,b,by simpa[tV] using c,λp hp=>?_⟩;obtain⟨q,i,rfl⟩:=NH.mp (show p∈ps.map cg from hp);exact (sO (pa q i)).2
 .cases h
theorem uF(h:e.Sh):yL e.d=true:=by
 unfold yL Er.d;dsimp[h.e1,h.e2,h.l1,h.l2,V0,Pa,N8,h.pn];rw[NT];intro d hd;obtain⟨p,hp,rfl⟩:=NH.mp hd;obtain⟨a,b,c⟩:=h.pl p hp;obtain⟨l,t⟩:=p;cases t with
 |none=>simp at a b;simp[j9,aG,bc,a,b]
 |some t=>have:=c t rfl;simp at a b;simp[j9,aG,bc,a,b,this.1,this.2]
theorem Er.Ok.sh(h:e.Ok):e.Sh:=⟨by have:=h.e1;omega,by have:=h.e2;omega,by have:=h.l1;omega,by have:=h.l2;omega,by have:=h.p2;omega,λp hp=>by obtain⟨a,b,c⟩:=h.pl p hp;exact⟨⋯,⋯,c⟩⟩
theorem uj{d:L}(h:nU d=true):aj (cz d)=d/\(cz d).length<=100/\∀e∈cz d,e.Sh:=by
 unfold nU at h;split at h
 .rename_i ds;dsimp[NG,Qm]at h;have pa:=NT.mp h.2;refine⟨?_,by simpa[cz] using h.1,λe a=>?_⟩
  .dsimp[cz,aj,NO];congr 1
   conv=>rhs;rw[<-OH ds]
   exact NR λp hp=>(AW (pa p hp)).1
  .obtain⟨q,b,rfl⟩:=NH.mp (show e∈ds.map deE from a);exact (AW (pa q b)).2
 .cases h
theorem mx(h1:es.length<=100)(h:∀e∈es,e.Sh):nU (aj es)=true:=by unfold nU aj;dsimp[N8,h1,V0,Pa];rw[NT];intro d hd;obtain⟨e,a,rfl⟩:=NH.mp hd;exact uF (h e a)
def Er.work(e:Er):Int:=(e.parts.map (·.1)).sum
def Er.has(e:Er)(t:Z):Bool:=e.parts.any λp=>p.2==Y t
noncomputable def er0:Er:=⟨1,1,0,[]⟩
def au(es:J Er)(n:Z):Er:=es.getD n.toNat er0
def hts(es:J Er):J Z->Z->Z->F1 Z
 |[],_,_=>S
 |r::rs,k,t=>if (au es r).has t then Y k else hts es rs (k+1) t
def aX(es:J Er)(rs:J Z)(t:Z):F1 Int:=hts es rs 0 t
def placeOf(rs:J Z)(n:Z):Nat:=rs.findIdx (·==n)
def iS(es:J Er)(rs:J Z)(pl:Z)(z5:Z)(p:Z×F1 Z):Int:=match p.2 with
 |some t=>(match aX es rs t with
  |some h=>if h<=pl then max z5 (p.1-1) else z5
  |none=>z5)
 |none=>z5
def fj(es:J Er)(rs:J Z)(n:Z):Int:=(((rs.drop (placeOf rs n+1)).map λm=>(au es m).parts).flatten).foldl (iS es rs (placeOf rs n)) 0
def Er.times(e:Er)(t:Z):Int:=(t+e.late) / e.every+(if (t+e.late) % e.every>0 then 1 else 0)
def jz(es:J Er)(rs:J Z)(n t:Z):Int:=fj es rs n+(au es n).work+((rs.take (placeOf rs n)).map λm=>(au es m).times t*(au es m).work).sum
def bL(es:J Er)(rs:J Z)(n:Z):F1 Int:=((M' ((au es n).every-(au es n).late).toNat).map λ(i:O)=>(1+(i:Z))).find? λt=>decide (jz es rs n t<=t)
theorem jY(h0:0<=n)(h1:n<es.length):es[n.toNat]?=Y (au es n):=by unfold au;rw[N9,My ⋯];rfl
theorem bG(a:0<=n)(h1:n<es.length):au es n∈es:=O8 (jY a h1)
theorem eQ(a:0<=n)(h1:n<es.length):atI (es.map Er.d) n=Y (au es n).d:=by rw[k7 (j:=n.toNat) ⋯,NA,jY a h1];rfl
theorem C4(h0:0<=n)(h1:n<ns.length):atI (ns.map FC) n=⇑(ns.getD n.toNat 0):=by rw[k7 (j:=n.toNat) ⋯,NA,N9,My ⋯];rfl
def cf:Gf
 |[d]=>if yL d then .ok (.int (deE d).work) else .no
 |_=>.no
theorem gW(h:e.Sh):cf [e.d]=.ok (.int e.work):=by unfold cf;simp[uF h,Fo]
theorem El(p:Z×F1 Z):dIx (aG p) (.int 0)=⇑p.1:=rfl
theorem Ff(p:Z×F1 Z):dIx (aG p) (.int 1)=Y (bc p.2):=rfl
theorem zw(e:Er):dIx e.d (.int 3)=Y (.tuple (e.parts.map aG)):=rfl
theorem Mm{f:L->Rs L}(h:(match ds with|[a]=>f a|_=>.no)≠.no):∃a,ds=[a]/\f a≠.no:=by
 rcases ds with _|⟨a,_|⟨y,ys⟩⟩
 .cases h rfl
 .skip
  exact⟨_,rfl,h⟩
 .cases h rfl
theorem yT(cs:Cs):LLq (ql cs) 1 0 cf:=by
 intro ds hl a;obtain⟨d,f,c⟩:=Mm a;clear a;subst f;have a:=c;clear c
 .skip
  split at a
  .rename_i hd;obtain⟨e1,sh⟩:=AW hd;rw[<-e1];generalize deE d=e at sh;rw[gW sh];have hc:aO 1 (bx (g2 dIx (ae 0) ↑3)) aZ (g2 dIx (ae 1) ↑0) aF [Y e.d]=.ok ((e.parts.map aG).map λd=>.int (cg d).1) :=
    bN rfl (by simp[zw]) (by have:=sh.pn;simp;omega) λd b=>by obtain⟨p,hp,rfl⟩:=NH.mp b;simp[El,j6]
   have hm:((e.parts.map aG).map λd=>FC (cg d).1)=e.parts.map λp=>.int p.1:=by rw[NO];exact NR λp _=>by simp[j6]
   rw[hm]at hc;simp[ql,hc,v3,Er.work]
  .cases a rfl
theorem rangeSize_down(n:O):QL ((n:Z)-1) (-1) (-1)=n:=by
 unfold QL;rw[I' #[1]];split
 .simp
 .omega
theorem Bl(n:O)(h:n<=1000):FR [.int ((n:Z)-1),.int (-1),.int (-1)]=.ok (gN ((n:Z)-1) (-1) n):=by
 have a:Su ((n:Z)-1) (-1) (-1)=true:=by unfold Su;rw[rangeSize_down];simp[Qq.Range.rangeFitsLong];omega
 have b:qH ((n:Z)-1) (-1) (-1)=true:=by unfold qH;rw[a,Q9];exact Ql ⋯
 unfold FR;dsimp[b,QA];unfold xU;rw[rangeSize_down];rfl
def aK:Gf
 |[d,r]=>if nU d&&c9 (cz d).length r then .ok (.list ((M' 4).map λ(t:O)=>bc (aX (cz d) (b0 r) t))) else .no
 |_=>.no
theorem iB(h1:es.length<=100)(h:∀e∈es,e.Sh)(a:bK es.length rs):aK [aj es,ai rs]=.ok (.list ((M' 4).map λ(t:O)=>bc (aX es rs t))):=by unfold aK;simp[mx h1 h,fE,fK a,eM]
def qu(k:Z)(Dd:J L)(p:Z×F1 Z):J PyData:=match p.2 with
 |some t=>Dd.set t.toNat (.int k)
 |none=>Dd
theorem p6(k:Z)(Dd:J L)(p:Z×F1 Z):(qu k Dd p).length=Dd.length:=by unfold qu;split <;> simp
theorem sk(k:Z):∀(ps:J (Z×F1 Z))(Dd:J L),(ps.foldl (qu k) Dd).length=Dd.length
 |[],Dd=>rfl
 |p::r,Dd=>by rw[NY,sk k r,p6]
theorem sY(k:Z):∀(ps:J (Z×F1 Z))(Dd:J L)(t:O),(∀p∈ps,∀t,p.2=Y t->0<=t/\t<=3)->t<Dd.length->(ps.foldl (qu k) Dd)[t]?=if ps.any (λp=>p.2==Y (t:Z)) then ⇑k else Dd[t]?
 |[],Dd,t,_,_=>rfl
 |p::r,Dd,t,h,hl=>by
  rw[NY,sY k r _ t (λq a=>h q (N0 _ a)) (by rw[p6];exact hl)];rw[OR];cases hr:r.any (λp=>p.2==Y (t:Z)) with
  |true=>simp
  |false =>
   obtain⟨l,o⟩:=p;cases o with
   |none=>simp[qu]
   |some u =>
    have hu:=h (l,Y u) N1 u rfl;dsimp[OT,RL,VA,qu];by_cases z:u=(t:Z)
    .subst z;simp[hl]
    .rw[NW ⋯];have:(Y u==Y (t:Z))=false:=by simpa using z
     rw[this];rfl
theorem kW(E R:L)(k:Z):∀(ps:J (Z×F1 Z))(Dd:J L)(x4 a:F1 L),Dd.length=4->(∀p∈ps,∀t,p.2=Y t->0<=t/\t<=3) ->
  ∃b c,forL (b9 [4,5]) (sIf (gT (g1 iw (ae 5))) (jA 2 (ae 5) (ae 3)) aT) (ps.map aG) [Y E,Y R,↥Dd,⇑k,x4,a]=.nx [Y E,Y R,↥(ps.foldl (qu k) Dd),⇑k,b,c]
 |[],Dd,x4,a,_,_=>⟨x4,a,rfl⟩
 |p::r,Dd,x4,a,hL,h=>by
  obtain⟨b,c,e⟩:=kW E R k r (qu k Dd p) ⇑p.1 (Y (bc p.2)) (by rw[p6];exact hL) (λq f=>h q (N0 _ f));refine⟨b,c,?_⟩;rw[N2,NY];unfold forL;obtain⟨l,o⟩:=p;cases o with
  |none =>simp[aG,b9,jT,bc];simpa[qu,bc] using e
  |some u =>
   have g:=h (l,Y u) N1 u rfl;have i:ixN Dd.length u=Y u.toNat:=by unfold ixN;rw[HL g.1,HL ⋯]
   have j:dM (.int k)=true:=by unfold dM;rfl
   simp[aG,b9,jT,bc,jA,i,j];simpa[qu,bc] using e
theorem D4(es:J Er)(rs:J Z)(k:O)(t:Z)(h:k<rs.length):hts es (rs.drop k) k t=if (au es (rs.getD k 0)).has t then Y (k:Z) else hts es (rs.drop (k+1)) ((k+1:O):Z) t:=by rw[OA h];show (if _ then _ else _)=_;rw[N9,My h];simp
theorem rL(cs:Cs):LLq (fW cs) 2 4 aK:=by
 intro ds hl a;obtain⟨d,r,rfl⟩:∃d r,ds=[d,r]:=by
  match ds,hl with
  |[d,r],_=>exact⟨d,r,rfl⟩
 unfold aK at a;simp only at a;split at a
 .rename_i hc;rw[NG]at hc;obtain⟨e1,wb,g⟩:=uj hc.1;obtain⟨e2,m⟩:=jV hc.2;rw[<-e1,<-e2];generalize cz d=es at *;generalize b0 r=rs at *;rw[iB wb g m];have hn:=m.len
  -- the outer loop
  have outer:∃c,forL (aP 3) (dN [2] (bx (g2 dIx (g2 dIx (ae 0) (g2 dIx (ae 1) (ae 3))) ↑3)) (b9 [4,5]) (sIf (gT (g1 iw (ae 5))) (jA 2 (ae 5) (ae 3)) aT))
    (gN ((rs.length:Z)-1) (-1) rs.length) #[3,↥[.none,.none,.none,.none],S,S,S]=.nx c /\
    (∃x3 x4 b,c=#[3,↥((M' 4).map λ(t:O)=>bc (hts es (rs.drop (rs.length-(0+(gN ((rs.length:Z)-1) (-1) rs.length).length))) (((rs.length-(0+(gN ((rs.length:Z)-1) (-1) rs.length).length):O):Z)) t)),x3,x4,b]):=by
   refine jq (β:=Vz) (λi δ=>∃x3 x4 b,δ=#[3,↥((M' 4).map λ(t:O)=>bc (hts es (rs.drop (rs.length-i)) ((rs.length-i:O):Z) t)),x3,x4,b]) _ 0 ?_ _ ⟨S,S,S,?_⟩
   .rintro i dd δ hi ⟨x3,x4,b,rfl⟩
    rw[Ob]at *;have n:i<rs.length:=by
     have:=(NC.mp hi).1
     rwa[ib]at this
    have o:dd=.int (((rs.length-(i+1):O):Z)):=by unfold gN at hi;rw[NA,OB n]at hi;simp at hi;rw[<-hi];congr 1;omega
    subst o;generalize hk:rs.length-(i+1)=k at *;have q:rs.length-i=k+1:=⋯
    rw[q];have f:k<rs.length:=⋯
    have h:=m.rng (rs.getD k 0) (by rw[N9,My f];exact NV f);have j:=g _ (bG h.1 ⋯);obtain⟨s,u,e⟩:=kW (aj es) (ai rs) k (au es (rs.getD k 0)).parts ((M' 4).map λ(t:O)=>bc (hts es (rs.drop (k+1)) ((k+1:O):Z) t)) x4 b #[2] (λp hp=>(j.pl p hp).2.2);have v:atI (rs.map FC) (k:Z)=⇑(rs.getD k 0):=by rw[C4 ⋯ ⋯];simp
    have w:atI (es.map Er.d) (rs.getD k 0)=Y (au es (rs.getD k 0)).d:=eQ h.1 ⋯;refine⟨[Y (aj es),Y (ai rs),↥((M' 4).map λ(t:O)=>bc (hts es (rs.drop (k+1)) ((k+1:O):Z) t)),⇑k,x4,b],_,by simp[aP],?_,⇑k,s,u,rfl⟩;rw[iJ];have src:bx (g2 dIx (g2 dIx (ae 0) (g2 dIx (ae 1) (ae 3))) ↑3) (mask [2] #[3,↥((M' 4).map λ(t:O)=>bc (hts es (rs.drop (k+1)) ((k+1:O):Z) t)),⇑(k:Z),x4,b])=.ok ((au es (rs.getD k 0)).parts.map aG):=by dsimp[kZ,dP,ax (show 0∉[2] by decide),ax (show 1∉[2] by decide),ax (show 3∉[2] by decide),aC,aE,fh,Rs.ag];dsimp[aj,ai,xh,v,w,zw,Rs.ak,Rs.ag,yX]
    rw[src,av,e];have hL:(au es (rs.getD k 0)).parts.foldl (qu k) ((M' 4).map λ(t:O)=>bc (hts es (rs.drop (k+1)) ((k+1:O):Z) t))=(M' 4).map λ(t:O)=>bc (hts es (rs.drop k) k t):=?hL
    rw[hL]
    case hL =>
    apply OZ;intro t;by_cases ht:t<4
    .rw[sY _ _ _ _ (λp hp=>(j.pl p hp).2.2) (by simpa using ht),NA,NA,OB ht];rw[Oh,Oh,D4 es rs k t f];unfold Er.has;split <;> rfl
    .rw[OD (by rw[sk];simp;omega),OD (by simp;omega)]
   .simp[hts];rfl
  rw[ib,Ob,PH]at outer;obtain⟨c,e,x3,x4,b,rfl⟩:=outer;have x:=Bl rs.length ⋯;have l:dh [2] 2 #[0,gC .none,gC .none,gC .none,gC .none] #[3,S,S,S,S]=.nx #[3,↥[.none,.none,.none,.none],S,S,S]:=rfl;have src:AS #[0,g2 fI (gF bp #[0,1]) ↑1,g1 jN ↑1,g1 jN ↑1] (mask [2] #[3,↥[.none,.none,.none,.none],S,S,S])=.ok (gN ((rs.length:Z)-1) (-1) rs.length):=by dsimp[Iw,aA,aL,dP,G2,jM,ax (show 1∉[2] by decide),aC,aE,fh,Rs.ag,ai,uf,Rs.ak,lO,IL,N8];exact x
  show bo (fW cs #[3,S,S,S,S])=_;dsimp[fW,bg,l,iJ,src,av];rw[e];simp[aX]
 .cases a rfl
theorem lq(h:n∈rs):placeOf rs n<rs.length:=J.findIdx_lt_length_of_exists ⟨n,h,by simp⟩
theorem vU:∀{l m:J Z},l.Nodup->(∀x∈l,x∈m)->l.length<=m.length
 |[],m,_,_=>Ot _
 |x::r,m,hn,hs=>by
  rw[O7]at hn;have a:=hs x N1;have:=vU (l:=r) (m:=m.erase x) hn.2 λy b=>by rw[J.mem_erase_of_ne (by rintro rfl;exact hn.1 b)];exact hs y (N0 _ b)
  rw[J.length_erase_of_mem a]at this;have hp:=J.length_pos_of_mem a;rw[NP];omega
theorem bK.mem{k:O}(h:bK k rs)(c:0<=n)(h1:n<k):n∈rs:=by
 have base:∀x:Z,0<=x->x<k->x∈(M' k).map λ(i:O)=>(i:Z):=λx a b=>NH.mpr ⟨x.toNat,Of.mpr ⋯,⋯⟩
 by_cases z:n∈rs
 .exact z
 .exfalso;have:=vU (l:=n::rs) (m:=(M' k).map λ(i:O)=>(i:Z)) (O7.mpr ⟨z,h.nd⟩) λx e=>by
   rcases NB.mp e with q|q
   .rw[q];exact base n c h1
   .have:=h.rng x q;exact base x this.1 this.2
  have hl:=h.len;simp at this;omega
theorem BE(ns:J Z):(ns.map FC).all gp=true:=by rw[NT];intro d hd;obtain⟨n,_,rfl⟩:=NH.mp hd;rfl
theorem l8(n:Z):∀rs:J Z,n∈rs->(((rs.map FC).map toV).findIdx? λz=>eqV z (.int n))=Y (placeOf rs n)
 |[],h=>by cases h
 |r::rs,h=>by
  have ev:eqV (.int r) (.int n)=(r==n):=rfl;rw[N2,N2,J.findIdx?_cons];unfold placeOf;rw[Qd];show (if eqV (.int r) (.int n)=true then Y 0 else _)=_;rw[ev];cases hr:r==n with
  |true=>rfl
  |false =>
   have a:r≠n:=by simpa using hr
   have:=l8 n rs ((NB.mp h).resolve_left λq=>a q.symm);rw[I' NL,this];rfl
theorem ie(h:n∈rs):iI (rs.map .int) (.int n)=⇑(placeOf rs n):=by unfold iI;rw[BE,show gp (.int n)=true from rfl];dsimp[U2,QA];rw[show toV (.int n)=.int n from rfl,l8 n rs h];rfl
@[simp]theorem uB(go ga:Ds->Rs L)(δ:Ds):iL go ga δ=(go δ).bind λd=>match d with|.tuple xs=>(ga δ).bind λy=>Rs.dS (iI xs y)|_=>.no:=rfl
theorem EI{k:O}:cutD xs (Y (k:Z)) S=xs.drop k:=by
 unfold cutD;have e1:HT.sIx xs.length 0 (Y (k:Z))=min k xs.length:=HT.AB _ _ _;have e2:HT.sIx xs.length xs.length S=xs.length:=rfl;rw[e1,e2];by_cases h:k<=xs.length
 .rw[V9 h];exact Th #[2]
 .rw[O.min_eq_right ⋯,PU (ND _),PU ⋯];simp
theorem xN{k:O}:cutD xs S (Y (k:Z))=xs.take k:=by unfold cutD;have e1:HT.sIx xs.length 0 S=0:=rfl;have e2:HT.sIx xs.length xs.length (Y (k:Z))=min k xs.length:=HT.AB _ _ _;rw[e1,e2];simp
theorem pH(es:J Er)(t:Z):∀(rs:J Z)(k:Z)(m:Z),m∈rs->(au es m).has t=true->∃h,hts es rs k t=Y h
 |[],_,_,h,_=>by cases h
 |r::rs,k,m,h,ht=>by
  unfold hts;by_cases z:(au es r).has t=true
  .exact⟨k,by rw[HL z]⟩
  .rw[I' z];rcases NB.mp h with q|q
   .subst q;exact Qr ht z
   .exact pH es t rs (k+1) m q ht
theorem yr(a:0<=t)(h3:t<=3):atI ((M' 4).map λ(t:O)=>bc (aX es rs t)) t=Y (bc (aX es rs t)):=by rw[k7 (j:=t.toNat) ⋯,NA,OB ⋯];dsimp[Oh];rw[OO a]
theorem Lm{p:Z×F1 Z}(hp:p∈e.parts)(h:p.2=Y t):e.has t=true:=Oz.mpr ⟨p,hp,by simp[h]⟩
theorem pU:∀(ps:J (Z×F1 Z)),(∀p∈ps,0<=p.1/\p.1<=1000000)->0<=(ps.map (·.1)).sum/\(ps.map (·.1)).sum<=1000000*ps.length
 |[],_=>by simp
 |p::r,h=>by
  have h1:=h p N1;have h2:=pU r λq a=>h q (N0 _ a)
  dsimp[N2,Oa,NP];omega
theorem Er.Sh.work_b(h:e.Sh):0<=e.work/\e.work<=1000000000:=by
 have:=pU e.parts λp hp=>⟨(h.pl p hp).1,(h.pl p hp).2.1⟩
 have h2:=h.pn;unfold Er.work;omega
theorem JV(h1:-(2 ^ 64)<b)(h2:b<2 ^ 64):lj (.int a) (.int b)=⇑(a*b):=by show (if _ then _ else _)=_;rw[HL (.inr ⟨h1,h2⟩)]
theorem yd(h1:-(2 ^ 64)<a)(h2:a<2 ^ 64):lj (.int a) (.int b)=⇑(a*b):=by show (if _ then _ else _)=_;rw[HL (.inl ⟨h1,h2⟩)]
def ft:L->F1 (J Z)
 |.dict [(.none,.list l)]=>iC l
 |_=>S
theorem fQ(ns:J Z):ft (ar ns)=Y ns:=i9 ns
def aq:Gf
 |[s,.int k,.int xb]=>(match ft s with
  |some ns=>if 0<=k/\0<xb then .ok (.int (mixed ns k xb)) else .no
  |none=>.no)
 |_=>.no
theorem dj{k:Z}(h1:0<=k)(h2:0<xb):aq [ar ns,.int k,.int xb]=.ok (.int (mixed ns k xb)):=by unfold aq;simp[fQ,h1,h2]
theorem f9(EE:J O)(i:O)(g:Ds->Rs L)(δ:Ds):aW EE i g δ=if i<δ.length then ofR (g (mask EE δ)) λd=>.nx (δ.set i (Y d)) else .no:=rfl
def bY:Gf
 |[s,.int a,.int top,.bool tools]=>(match ft s with
  |some ns=>if 0<=a/\0<top/\top<=58 then .ok (mkE ns a top tools).d else .no
  |none=>.no)
 |_=>.no
theorem iX{top:Z}{b:Qo}(h1:0<=a)(h2:0<top)(c:top<=58):bY [ar ns,.int a,.int top,.bool b]=.ok (mkE ns a top b).d:=by unfold bY;simp[fQ,h1,h2,c]
theorem BR(o:F1 Z):dM (bc o)=true:=by cases o <;> (unfold bc dM;rfl)
theorem yi(p:Z×F1 Z):dM (aG p)=true:=by unfold aG dM lA;rw[show dM (.int p.1)=true by unfold dM;rfl];unfold lA;rw[BR];unfold lA;rfl
theorem Eb{i:Z}(h0:0<=i)(h1:i<5):atI [FC 0,FC 1,FC 1,FC 0,TJ] i=Y (bc (kR i)):=by
 have:i=0\/i=1\/i=2\/i=3\/i=4:=⋯
 rcases this with rfl|rfl|rfl|rfl|rfl <;> rfl
theorem w6(ns:J Z)(a top:Z)(b:Qo)(ev la e:L)(ha:0<=a)(Dd:J L)(hL:Dd.length<1000)(i:O)(x8 x9:F1 L) :
   az (aW [7] 9 (ao aq #[0,0,g2 bq (g2 bq (ae 1) ↑4) (ae 8),↑40]))
   (az (gx [7] 7 (cQ #[0,g2 bq ↑1 (g2 q9 (ae 9) ↑4),g2 dIx (iY #[0,↑0,↑1,↑1,↑0,gC .none]) (g2 q9 (g2 xV (ae 9) ↑4) ↑5)]))
   (sIf (dD (gT (ae 3))) (jA 7 (g1 jN ↑1) (cQ #[0,g2 dIx (g2 dIx (ae 7) (g1 jN ↑1)) ↑0,gC .none])) aT))
     [Y (ar ns),⇑a,⇑top,Y (.bool b),Y ev,Y la,Y e,↥Dd,⇑(0+(i:Z)),x9]
  =.nx [Y (ar ns),⇑a,⇑top,Y (.bool b),Y ev,Y la,Y e,↥(Dd++[aG (eW ns (a+4+(i:Z)) b)]),⇑(0+(i:Z)),⇑(mixed ns (a+4+(0+(i:Z))) 40)]:=by
 have hm:=dj (ns:=ns) (k:=a+4+(0+(i:Z))) (xb:=40) ⋯ #[1];have m0:=cH ns (a+4+(0+(i:Z))) (xb:=40) #[1];have m1:=cU ns (a+4+(0+(i:Z))) (xb:=40) #[1];have f:a+4+(0+(i:Z))=a+4+(i:Z):=⋯
 generalize hc:mixed ns (a+4+(0+(i:Z))) 40=c at *;have g:0<=c / 4 % 5:=OX _ #[1];have h:c / 4 % 5<5:=P6 _ #[1];have j:=Eb g h;have hp:eW ns (a+4+(i:Z)) b=(1+c % 4,if b then kR (c / 4 % 5) else S):=by unfold eW;rw[<-f,hc]
 have l:aW [7] 9 (ao aq #[0,0,g2 bq (g2 bq (ae 1) ↑4) (ae 8),↑40]) [Y (ar ns),⇑a,⇑top,Y (.bool b),Y ev,Y la,Y e,↥Dd,⇑(0+(i:Z)),x9]
    =.nx [Y (ar ns),⇑a,⇑top,Y (.bool b),Y ev,Y la,Y e,↥Dd,⇑(0+(i:Z)),⇑c]:=by
   rw[f9,HL #[2]];dsimp[bQ,aA,aL,dP,ax (show 0∉[7] by decide),ax (show 1∉[7] by decide),ax (show 8∉[7] by decide),aC,aE,fh,Rs.ag,eO,Rs.ak,hm,av];rfl
 have s2:gx [7] 7 (cQ #[0,g2 bq ↑1 (g2 q9 (ae 9) ↑4),g2 dIx (iY #[0,↑0,↑1,↑1,↑0,gC .none]) (g2 q9 (g2 xV (ae 9) ↑4) ↑5)])
     [Y (ar ns),⇑a,⇑top,Y (.bool b),Y ev,Y la,Y e,↥Dd,⇑(0+(i:Z)),⇑c]
    =.nx [Y (ar ns),⇑a,⇑top,Y (.bool b),Y ev,Y la,Y e,↥(Dd++[aG (1+c % 4,kR (c / 4 % 5))]),⇑(0+(i:Z)),⇑c]:=by
   unfold gx;dsimp[Ov,Ow];dsimp[jw,DL,aA,aL,dP,ax (show 9∉[7] by decide),aC,aE,fh,Rs.ag,eO,Rs.ak,Mg,IT,HL (show (0:Z)<4 by decide),HL (show (0:Z)<5 by decide),HL (show (0:Z)<4/\(4:Z)<1073741824 by decide),IE,j,av,HL (show Dd.length<1000000 by omega)];rfl
 rw[bg,l];simp only;rw[bg,s2];simp only;cases b with
 |true =>rw[hp];simp
 |false =>
   rw[hp];have hl:atI (Dd++[aG (1+c % 4,kR (c / 4 % 5))]) (-1)=Y (aG (1+c % 4,kR (c / 4 % 5))):=by rw[m8];simp
   have m:ixN (Dd++[aG (1+c % 4,kR (c / 4 % 5))]).length (-1)=Y Dd.length:=by unfold ixN;rw[I' #[1],NS,Ou,HL ⋯];congr 1;omega
   have n:(Dd++[aG (1+c % 4,kR (c / 4 % 5))]).set Dd.length (.tuple [.int (1+c % 4),.none])=Dd++[aG (1+c % 4,S)]:=by rw[J.set_append_right _ _ (ND _)];simp;rfl
   have o:dM (.tuple [.int (1+c % 4),.none])=true:=yi (1+c % 4,S);rw[fm];dsimp[Fi,iM,aC,aE,Rs.ag,bX,av,Qo.not_false,QA];unfold jA;dsimp[Ov,Ow,jw,aA,aL,dP,G2,aC,aE,fh,Rs.ag,IL,Rs.ak,IE,hl,El,av,m,o,QA,n];rfl
theorem kA{j:Z}(h0:0<=j)(h1:j<1000000):Fv [.int j]=.ok (bF 0 j.toNat):=by show (if _ then _ else _)=_;rw[HL ⋯]
theorem hV{lo:Z}{n:O}{d:L}(h:(bF lo n)[i]?=Y d):i<n/\d=.int (lo+(i:Z)):=by have hi:=(NC.mp h).1;rw[cL]at hi;unfold bF at h;rw[NA,OB hi]at h;exact⟨hi,(N4 h).symm⟩
theorem qR(n:O)(g:O->α):(M' (n+1)).map g=(M' n).map g++[g n]:=by rw[Va,Ol];rfl
theorem Dk{f:L->Z->Z->Qo->Rs L}(h:(match ds with|[c,.int a,.int b,.bool x3]=>f c a b x3|_=>.no)≠.no):∃c a b x3,ds=[c,.int a,.int b,.bool x3]/\f c a b x3≠.no:=by
 rcases ds with _|⟨c,_|⟨a,_|⟨b,_|⟨x3,_|⟨y,ys⟩⟩⟩⟩⟩
 .cases h rfl
 .cases h rfl
 .first|cases h rfl|(cases a <;> cases h rfl)
 .first|cases h rfl|(cases a <;> first|cases h rfl|(cases b <;> cases h rfl))
 .skip
  cases a with
  |int a =>
   cases b with
   |int b =>
    cases x3 with
    |bool x3 =>exact⟨_,_,_,_,rfl,h⟩
    |_=>cases h rfl
   |_=>first|cases h rfl|(cases x3 <;> cases h rfl)
  |_=>first|cases h rfl|(cases b <;> first|cases h rfl|(cases x3 <;> cases h rfl))
 .first|cases h rfl|(cases a <;> first|cases h rfl|(cases b <;> first|cases h rfl|(cases x3 <;> cases h rfl)))
theorem vk(cs:Cs):LLq (gz cs aq) 4 6 bY:=by
 intro ds hl c;obtain⟨s,a,top,b,p,o⟩:=Dk c;clear c;subst p;have c:=o;clear o
 .skip
  split at c
  .rename_i ns g;have es:s=ar ns:=by
    unfold ft at g;split at g
    .rename_i l;rw[fL g];rfl
    .cases g
   subst es;split at c
   .rename_i hc;obtain⟨ha,h,j⟩:=hc;rw[iX ha h j];show bo (gz cs aq [Y (ar ns),⇑a,⇑top,Y (.bool b),S,S,S,S,S,S])=_;have hm:∀k xb:Z,0<=k->0<xb->aq [ar ns,.int k,.int xb]=.ok (.int (mixed ns k xb)):=λk xb h1 h2=>dj h1 h2
    have a1:=cH ns a h;have lb:=xy ns a (3+mixed ns a top) ⋯;have b1:=cH ns (a+1) (xb:=4) #[1];have b2:=cU ns (a+1) (xb:=4) #[1];have n1:=cH ns (a+3) (xb:=3) #[1];have n2:=cU ns (a+3) (xb:=3) #[1];have c1:=cH ns (a+6) (xb:=3) #[1];have c2:=cU ns (a+6) (xb:=3) #[1]
    -- every
    have q:aW [7] 4 (g2 bq ↑3 (ao aq #[0,0,1,2])) [Y (ar ns),⇑a,⇑top,Y (.bool b),S,S,S,S,S,S]
      =.nx [Y (ar ns),⇑a,⇑top,Y (.bool b),⇑(3+mixed ns a top),S,S,S,S,S]:=by
     rw[f9,HL #[2]];dsimp[bQ,aA,aL,dP,ax (show 0∉[7] by decide),ax (show 1∉[7] by decide),ax (show 2∉[7] by decide),aC,aE,fh,Rs.ag,hm a top ha h,eO,Rs.ak,av];rfl
    generalize hev:3+mixed ns a top=ev at *;have evp:3<=ev:=⋯
    have s2:aW [7] 5 (g2 lj (ao aq #[0,0,g2 bq (ae 1) ↑1,↑4]) (gF oz #[0,g2 dEq (ao aq #[0,0,g2 bq (ae 1) ↑2,↑3]) ↑0])) [Y (ar ns),⇑a,⇑top,Y (.bool b),⇑ev,S,S,S,S,S]
      =.nx [Y (ar ns),⇑a,⇑top,Y (.bool b),⇑ev,⇑(mixed ns (a+1) 4*(if mixed ns (a+2) 3=0 then 1 else 0)),S,S,S,S]:=by
     rw[f9,HL #[2]];dsimp[bQ,aA,aL,dP,jM,ax (show 0∉[7] by decide),ax (show 1∉[7] by decide),aC,aE,fh,Rs.ag,eO,Rs.ak,hm (a+1) 4 ⋯ #[1],hm (a+2) 3 ⋯ #[1],r8,Lg];rw[yd ⋯ ⋯];dsimp[Rs.ak,av,RK];rfl
    have r:aW [7] 5 (gF jH #[0,5,g2 fI (ae 4) ↑1]) [Y (ar ns),⇑a,⇑top,Y (.bool b),⇑ev,⇑(mixed ns (a+1) 4*(if mixed ns (a+2) 3=0 then 1 else 0)),S,S,S,S]
      =.nx [Y (ar ns),⇑a,⇑top,Y (.bool b),⇑ev,⇑(iO ns a ev),S,S,S,S]:=by
     rw[f9,HL #[2]];dsimp[jM,aA,aL,dP,ax (show 4∉[7] by decide),ax (show 5∉[7] by decide),aC,aE,fh,Rs.ag,lO,Rs.ak,Ek,av];rfl
    generalize hla:iO ns a ev=la at *;have t:aW [7] 6 (g2 fI (ae 4) (ae 5)) [Y (ar ns),⇑a,⇑top,Y (.bool b),⇑ev,⇑la,S,S,S,S]
      =.nx [Y (ar ns),⇑a,⇑top,Y (.bool b),⇑ev,⇑la,⇑(ev-la),S,S,S]:=by
     rw[f9,HL #[2]];dsimp[dP,ax (show 4∉[7] by decide),ax (show 5∉[7] by decide),aC,aE,Rs.ag,lO,Rs.ak,av];rfl
    have u:sIf (gT (g2 dEq (ao aq #[0,0,g2 bq (ae 1) ↑1,↑3]) ↑0)) (aW [7] 6 (g2 fI (ae 6) (ao aq #[0,0,g2 bq (ae 1) ↑2,6]))) aT
        [Y (ar ns),⇑a,⇑top,Y (.bool b),⇑ev,⇑la,⇑(ev-la),S,S,S]
      =.nx [Y (ar ns),⇑a,⇑top,Y (.bool b),⇑ev,⇑la,⇑(nL ns a (ev-la)),S,S,S]:=by
     rw[fm];dsimp[iM,dP,bQ,aA,aL,aC,aE,fh,Rs.ag,eO,Rs.ak,hm (a+1) 3 ⋯ #[1],r8,bX,av];by_cases z:mixed ns (a+1) 3=0
     · rw[HL (by simp[z]),f9,HL #[2]];dsimp[bQ,aA,aL,dP,ax (show 0∉[7] by decide),ax (show 1∉[7] by decide),ax (show 6∉[7] by decide),aC,aE,fh,Rs.ag,eO,Rs.ak,hm (a+2) (ev-la) ⋯ ⋯,lO,av];unfold nL;rw[HL z];rfl
     · rw[I' (by simp[z])];unfold nL;rw[I' z];rfl
    generalize hdu:nL ns a (ev-la)=du at *;have v:dh [7] 7 ah [Y (ar ns),⇑a,⇑top,Y (.bool b),⇑ev,⇑la,⇑du,S,S,S]
      =.nx [Y (ar ns),⇑a,⇑top,Y (.bool b),⇑ev,⇑la,⇑du,↥[],S,S]:=rfl
    have src:dG #[0,ao aq #[0,0,g2 bq (ae 1) ↑3,↑3]] (mask [7] [Y (ar ns),⇑a,⇑top,Y (.bool b),⇑ev,⇑la,⇑du,↥[],S,S])=.ok (bF 0 (mixed ns (a+3) 3).toNat):=by dsimp[lQ,bQ,aA,aL,dP,ax (show 0∉[7] by decide),ax (show 1∉[7] by decide),aC,aE,fh,Rs.ag,eO,Rs.ak,hm (a+3) 3 ⋯ #[1]];exact kA n1 ⋯
    obtain⟨δ',e,x8,x9,m⟩:=jq (β:=Vz) (tgt:=aP 8) (body:=az (aW [7] 9 (ao aq #[0,0,g2 bq (g2 bq (ae 1) ↑4) (ae 8),↑40]))
  (az (gx [7] 7 (cQ #[0,g2 bq ↑1 (g2 q9 (ae 9) ↑4),g2 dIx (iY #[0,↑0,↑1,↑1,↑0,gC .none]) (g2 q9 (g2 xV (ae 9) ↑4) ↑5)]))
  (sIf (dD (gT (ae 3))) (jA 7 (g1 jN ↑1) (cQ #[0,g2 dIx (g2 dIx (ae 7) (g1 jN ↑1)) ↑0,gC .none])) aT)))
     (λi δ=>∃x8 x9,δ=[Y (ar ns),⇑a,⇑top,Y (.bool b),⇑ev,⇑la,⇑du,↥((M' i).map λ(k:O)=>aG (eW ns (a+4+(k:Z)) b)),x8,x9])
     (bF 0 (mixed ns (a+3) 3).toNat) 0 (λi d δ hi n=>by obtain⟨x8,x9,w⟩:=n;subst w;rw[Ob]at *;obtain⟨hil,rfl⟩:=hV hi;refine⟨[Y (ar ns),⇑a,⇑top,Y (.bool b),⇑ev,⇑la,⇑du,↥((M' i).map λ(k:O)=>aG (eW ns (a+4+(k:Z)) b)),⇑(0+(i:Z)),x9],_,rfl,w6 ns a top b (.int ev) (.int la) (.int du) ha _ (by simp;omega) i S x9,⇑(0+(i:Z)),⇑(mixed ns (a+4+(0+(i:Z))) 40),?_⟩;rw[qR]) [Y (ar ns),⇑a,⇑top,Y (.bool b),⇑ev,⇑la,⇑du,↥[],S,S] ⟨S,S,rfl⟩
    subst m;rw[Ob,cL]at e;have hd:(mkE ns a top b).d=.tuple [.int ev,.int du,.int la,.tuple (((M' (mixed ns (a+3) 3).toNat).map λ(k:O)=>aG (eW ns (a+4+(k:Z)) b))++[aG (1+mixed ns (a+6) 3,S)])]:=by dsimp[mkE,Er.d,Ol,NO,hev,hla,hdu];rfl
    rw[hd];dsimp[gz];rw[bg,q];simp only;rw[bg,s2];simp only;rw[bg,r];simp only;rw[bg,t];simp only;rw[bg,u];simp only;rw[bg,v];simp only;rw[bg,iJ,src,av,e];simp only;dsimp[c7,jw,DL,aA,aL,dP,jM,bQ,aC,aE,fh,Rs.ag,eO,Rs.ak,hm (a+6) 3 ⋯ #[1]];have f:bq (.list ((M' (mixed ns (a+3) 3).toNat).map λ(k:O)=>aG (eW ns (a+4+(k:Z)) b))) (.list [.tuple [.int (1+mixed ns (a+6) 3),.none]])=↥(((M' (mixed ns (a+3) 3).toNat).map λ(k:O)=>aG (eW ns (a+4+(k:Z)) b))++[aG (1+mixed ns (a+6) 3,S)]):=by show (if _ then _ else _)=_;rw[HL (by simp;omega)];rfl
    rw[f];simp
   .cases c rfl
  .cases c rfl
def bw:Gf
 |[s,.int a,.int most,.int top,.bool tools]=>(match ft s with
  |some ns=>if 0<=a/\0<most/\most<=6/\0<top/\top<=58 then .ok (aj (oB ns a most top tools)) else .no
  |none=>.no)
 |_=>.no
theorem ig{most top:Z}{b:Qo}(h1:0<=a)(h2:0<most)(c:most<=6)(e:0<top)(f:top<=58):bw [ar ns,.int a,.int most,.int top,.bool b]=.ok (aj (oB ns a most top b)):=by unfold bw;simp[fQ,h1,h2,c,e,f]
theorem iE{s:L}(a:ft s=Y ns):s=ar ns:=by
 unfold ft at a;split at a
 .rename_i l;rw[fL a];rfl
 .cases a
theorem Cb{f:L->Z->Z->Z->Qo->Rs L}(h:(match ds with|[c,.int a,.int b,.int x3,.bool x4]=>f c a b x3 x4|_=>.no)≠.no):∃c a b x3 x4,ds=[c,.int a,.int b,.int x3,.bool x4]/\f c a b x3 x4≠.no:=by
 rcases ds with _|⟨c,_|⟨a,_|⟨b,_|⟨x3,_|⟨x4,_|⟨y,ys⟩⟩⟩⟩⟩⟩
 .cases h rfl
 .cases h rfl
 .first|cases h rfl|(cases a <;> cases h rfl)
 .first|cases h rfl|(cases a <;> first|cases h rfl|(cases b <;> cases h rfl))
 .first|cases h rfl|(cases a <;> first|cases h rfl|(cases b <;> first|cases h rfl|(cases x3 <;> cases h rfl)))
 .skip
  cases a with
  |int a =>
   cases b with
   |int b =>
    cases x3 with
    |int x3 =>
     cases x4 with
     |bool x4 =>exact⟨_,_,_,_,_,rfl,h⟩
     |_=>cases h rfl
    |_=>first|cases h rfl|(cases x4 <;> cases h rfl)
   |_=>first|cases h rfl|(cases x3 <;> first|cases h rfl|(cases x4 <;> cases h rfl))
  |_=>first|cases h rfl|(cases b <;> first|cases h rfl|(cases x3 <;> first|cases h rfl|(cases x4 <;> cases h rfl)))
 .first|cases h rfl|(cases a <;> first|cases h rfl|(cases b <;> first|cases h rfl|(cases x3 <;> first|cases h rfl|(cases x4 <;> cases h rfl))))
theorem rJ(cs:Cs):LLq (fS cs bY aq) 5 1 bw:=by
 intro ds hl c;obtain⟨s,a,most,top,b,n,l⟩:=Cb c;clear c;subst n;have c:=l;clear l
 .skip
  split at c
  .rename_i ns o;have es:=iE o;subst es;split at c
   .rename_i hc;obtain⟨ha,e,g,m,f⟩:=hc;rw[ig ha e g m f];have hm:=dj (ns:=ns) ha e;have m1:=cH ns a e;have m2:=cU ns a e;have h:aO 6 (dG #[0,5]) aZ (ao bY #[0,0,g2 bq (g2 bq (ae 1) ↑1) (g2 lj ↑7 (ae 6)),3,4]) aF
      [Y (ar ns),⇑a,⇑most,⇑top,Y (.bool b),⇑(1+mixed ns a most)]=.ok ((bF 0 (1+mixed ns a most).toNat).map λd=>(mkE ns (a+1+7*deI d) top b).d) :=
     bN rfl (by dsimp[lQ,aA,aL,aC,aE,Rs.ag];exact kA ⋯ ⋯) (by rw[cL];omega) λd hd=>by obtain⟨i,hi⟩:=TL hd;obtain⟨_,rfl⟩:=hV hi;dsimp[P4,OF,bQ,aA,aL,dP,aC,aE,fh,Rs.ag,eO,Rs.ak];rw[yd #[1] #[1]];dsimp[Rs.ak,Rs.ag,eO];exact iX ⋯ m f
    have j:aj (oB ns a most top b)=.tuple ((bF 0 (1+mixed ns a most).toNat).map λd=>(mkE ns (a+1+7*deI d) top b).d):=by
     unfold aj oB bF;rw[NO,NO];congr 1;refine NR λk _=>?_
     simp[deI]
    rw[j];show bo (fS cs bY aq [Y (ar ns),⇑a,⇑most,⇑top,Y (.bool b),S])=_;dsimp[fS,bg,oK,NP,OE,O.reduceAdd,O.reduceLT,QA,bQ,aA,aL,dP,aC,aE,fh,Rs.ag,hm,eO,Rs.ak,av,Pm,Pn,c7,jM,yh,h,FG,cA]
   .cases c rfl
  .cases c rfl
end RS
namespace RS
open PySem PySem.Spec PyProof.Rows L2
section
theorem Ir{f:J'}{k:O}{G:Ds->Sr}(F:Fun K x qual st f fd)(D':eS N ps (aH st))(c:∀i∈EE,ps.length<=i)
  (body:∀(cdv:GC)(A:Qs)(outer:J V1)(s:LN)(H:Hp)(E:XK),cO k (A.deeper (envOfC qual (aH st) s.heap.objs.size f cdv))->PBD (dg (CXW P w) P w K mg base N qual (aH st) f cdv A outer s H E) E EE (cR st) G)
  (e:∀ds,ds.length=ps.length->gf ds≠.no->bo (G (ds.map Y++L' (N.length-ps.length) S))=gf ds):iH P w K mg base (CXW P w) (k+1) f fd ps (spD K ps.length gf):=by
 refine uw F D' (λvs H Q E h=>?_) (λcdv A outer s H vs Q E g h=>?_)
 .obtain⟨A,ds,b,hi,hl,o⟩:=h;rw[hi.length,hl]
 .obtain⟨A0,ds,b,hi,hl,o⟩:=h;refine⟨_,body cdv A outer s H E g,H,A0,[],_,bA.start b hi hl c,?_⟩;have a:=e ds hl (λz=>by rw[z]at o;exact o);cases q:G (ds.map Y++L' (N.length-ps.length) S) with
  |rt d=>rw[q]at a;rw[<-a]at o;exact λv H' s' hv=>o v H' s' hv
  |nx δ=>rw[q]at a;rw[<-a]at o;exact λA' σ H' j=>o .non H' j.same is_none
  |rz C=>rw[q]at a;rw[<-a]at o;exact λH' s'=>o H' s'
  |bk δ=>rw[q]at a;rw[<-a]at o;exact o.elim
  |ct δ=>rw[q]at a;rw[<-a]at o;exact o.elim
  |no=>rw[q]at a;rw[<-a]at o;exact o.elim
theorem DZ{f:J'}{b:QR (F1 GC)}{kV e:GC}(X:K.In h)(G:h.Ns mainGlobals mg)
  (g:∀(kV doc pm:GC)(an:F1 J')(cdv ct:GC)(us:J GC),us.length=ps.length->bindArgs (SX x x (gy st) (cR st) (aH st) .none kV doc pm an cdv ct) ⟨us,[]⟩=pure (ps.zip us))
  (a:Vi K mainGlobals x=Y (Y (.ref f)))
  (l:K.lookup f=Y ⟨oc,od,.func (SX x x (gy st) (cR st) (aH st) .none kV e pm an cd ct),b⟩)
  (c:Up K cd x=true) (k:S8 K (.ref f)=true):bM K mg x st ps :=
 have F:=D6 (st:=st) l c k
 ⟨f,_,F,F.binds g,Wg X G a⟩
theorem AK(X:K.In h)(G:h.Ns mainGlobals mg)(a:Vi K mainGlobals x=Y (Y (.ref C)))
 (e:Vh K C [.type "ValueError",.type "Exception",.type "BaseException",.type "object"] "ValueError.__new__"=true):v9 K mg x C:=⟨Wg X G a,e⟩
theorem HX{t:_}(X:K.In h)(G:h.Ns mainGlobals mg)(a:Vi K mainGlobals x=Y (Y (.int n t))):∃t,mg x=Y (.int n t):=⟨t,Wg X G a⟩
end
def fV(n:O):Gf
 |[s]=>(match ft s with
  |some ns=>if ns.length<=n then .ok (.bool true) else .no
  |none=>.no)
 |_=>.no
theorem MA{l:W.OpenLaw}{n k:O}{d:Wb}{K:W9->Qp}
  (hn:l.most=Y n) (i:n<=sizeLine) (j:d.params.defaults=[]) (y:cO k callerA)
  (A:∀(w:QY)(h:QD),YP w h->(K w.params).In h)
  (B:∀(kV doc pm:GC)(an:F1 J')(cdv ct:GC)(us:J GC),us.length=1->bindArgs (SX d.name d.name (gy st) (cR st) (aH st) .none kV doc pm an cdv ct) ⟨us,[]⟩=pure ([x].zip us))
  (F:∀(w:QY)(mg:Qn->F1 GC)(h:QD),(K w.params).In h->h.Ns mainGlobals mg->
   bM (K w.params) mg d.name st [x]/\∀f fd,Fun (K w.params) d.name d.name st f fd->∀base:QD,(K w.params).In base->base.Ns mainGlobals mg->L2.n6 mg base->iH l.prog w (K w.params) mg base (CXW l.prog w) k f fd [x] (spD (K w.params) 1 (fV n)))
  (o:∀(w:QY)(h:QD)(c:J Qn)(g:ExcName->F1 GC)(mg C:Qn->F1 GC),UO q c g mg C h->(K w.params).In h->L2.mS (K w.params) h:=by exact λ_ _ _ _ _ _ _ _=>L2.tabsIn_nil rfl) :
  W.WalkO q loose XP YP l.row.toRowW d [] (λf vs=>PySem.call f vs) :=
 L2.AL (n:=n) (k:=k) (x:=x) (CX:=λw=>CXW l.prog w) (sp:=λw=>spD (K w.params) 1 (fV n)) hn i j y A
  (λw mg D h X G p=>by obtain⟨⟨f,fd,t,b,m⟩,E⟩:=F w mg h X G;have e:=p.symm.trans m;cases e;refine⟨fd,λs u=>?_,E D fd t⟩;obtain⟨oc,od,kV,doc,pm,an,cdv,ct,osl,rfl,lk,hcd⟩:=t.ex;exact .of_eq (B kV doc pm an cdv ct [u] rfl))
  (λw H a ns hl hO I=>by
   refine⟨[],[ar ns],?_,?_,rfl,?_⟩
   .exact Ls.nil
   .rw[Ar];exact⟨_,[],rfl,BY I,rfl⟩
   .have B':fV n [ar ns]=.ok (.bool true):=by unfold fV;simp[fQ,hl]
    rw[B'];intro v H' _ hv;rw[Ar]at hv;unfold Is at hv;exact hv)
  (λw H s e s' r=>(by obtain⟨_,_,_,_,_,_,z,_⟩:=r;exact z)) o
end RS
set_option maxHeartbeats 4000000
namespace L2
open PySem PySem.Spec PyProof.Rows
def Im(K:Qp)(x:Qn):Prop:=∃f oc od fd a c P o vs,Vi K mainGlobals x=Y (Y (.ref f))/\K.lookup f=Y ⟨oc,od,.func fd,a⟩/\fd.code=.ref c/\K.lookup c=Y o/\o.data=.fields vs/\vs[11]?=Y (.ref P)/\W.codeHdIn K c P=true
section
theorem jP.ofL{f:J'}{k:O}{G:Ds->Sr}(F:Fun K x x st f fd)(D':eS N ps (aH st))(b:Binds K fd ps [])(m:mg x=Y (.ref f))(B:∀i∈EE,ps.length<=i)
  (D:x∈ml) (hm:∀g,Vi K mainGlobals x=Y (Y (.ref g))->mg x=Y (.ref g)) (I:Im K x) (hB:n6 mg base) (hK:K.In base) (B':∀(Dd:J')(cdv:GC),(envOfC x (aH st) Dd f cdv).qual++"<lambda>"=x++".<locals>.<lambda>")
  (body:∀(cdv:GC)(A:Qs)(outer:J V1)(s:LN)(H:Hp)(E:XK),cO k (A.deeper (envOfC x (aH st) s.heap.objs.size f cdv))->∀c l,DR (dg (CXW P w) P w K mg base N x (aH st) f cdv A outer s H E) c l->PBD (dg (CXW P w) P w K mg base N x (aH st) f cdv A outer s H E) E EE (cR st) G)
  (M:∀ds,ds.length=ps.length->gf ds≠.no->bo (G (ds.map Y++L' (N.length-ps.length) S))=gf ds):jP P w K mg base (k+1) x ps.length gf:=by
 obtain⟨oc,od,kV,doc,pm,an,cdv,ct,osl,rfl,n,p⟩:=F.ex;obtain⟨j,oc',od',fd',sl',c,l,o,vs,t,u,R,T,U,X,A4⟩:=I;have A2:j=f:=by have:=hm j t;rw[m]at this;cases this;rfl
 subst A2;rw[n]at u;have r:cdv=.ref c:=by cases u;exact R
 subst r;obtain⟨bm,ob,b1,b2,b3,b4,b5,b6,b7⟩:=hB;refine⟨j,_,ps,E6 n p D' (λvs H Q E h=>?_) (λA outer s H vs' Q E hr h=>?_),m,F.kp,b⟩
 .obtain⟨A,ds,y,hi,hl,o⟩:=h;rw[hi.length,hl]
 .obtain⟨A0,ds,y,hi,hl,e⟩:=h;refine⟨_,body (.ref c) A outer s H E hr c l ⟨?_,rfl,W.codeHd_of_K hK A4,bm,ob,b1,b2,b3,b4,b5,b6,b7⟩,H,A0,[],_,bA.start y hi hl B,?_⟩
  .exact⟨x,D,j,_,_,_,_,c,t,n,rfl,⟨o,vs,T,U,X⟩,B' _ _⟩
  .have a:=M ds hl (λz=>by rw[z]at e;exact e);cases q:G (ds.map Y++L' (N.length-ps.length) S) with
   |rt d=>rw[q]at a;rw[<-a]at e;exact λv H' s' hv=>e v H' s' hv
   |nx δ=>rw[q]at a;rw[<-a]at e;exact λA' σ H' R'=>e .non H' R'.same is_none
   |rz C=>rw[q]at a;rw[<-a]at e;exact λH' s'=>e H' s'
   |bk δ=>rw[q]at a;rw[<-a]at e;exact e.elim
   |ct δ=>rw[q]at a;rw[<-a]at e;exact e.elim
   |no=>rw[q]at a;rw[<-a]at e;exact e.elim
end
section
variable {E:XK}
end
section
variable {E:XK}{a b:Qt}
end
end L2
namespace RS
open PySem L2
end RS
namespace L2
open PySem PySem.Spec PyProof.Rows
section
variable {E:XK}{k:Qt}{apos:Ts}
end
section
variable {E:XK}{e:Qt}{ga:Ds->Rs L}
end
abbrev PTl:=J ((Z×Z)×Z)
noncomputable def eP(l:PTl)(k:Z×Z):F1 Int:=(l.find? λp=>decide (p.1=k)).map (·.2)
noncomputable def uv(l:PTl)(k:Z×Z)(v:Z):PTl:=if (l.any λp=>decide (p.1=k))=true then l.map (λp=>if p.1=k then (p.1,v) else p) else l++[(k,v)]
def gO:L->F1 (Z×Z)
 |.tuple [.int a,.int b]=>Y (a,b)
 |_=>S
section
variable {E:XK}{o e f k value:Qt}{go ge gf:Ds->Rs L}{apos:Ts}
end
end L2
namespace RS
open PySem L2
end RS
set_option maxHeartbeats 1000000
namespace RS
open PySem L2
variable {p:Z×F1 Z}
def cm:Gf
 |[d,.int t]=>if yL d then .ok (.bool ((deE d).has t)) else .no
 |_=>.no
theorem jQ(h:e.Sh):cm [e.d,.int t]=.ok (.bool (e.has t)):=by unfold cm;simp[uF h,Fo]
theorem xv(t:Z):∀ps:J (Z×F1 Z),inD (.int t) ((ps.map aG).map λd=>bc (cg d).2)=ps.any λp=>p.2==Y t
 |[]=>rfl
 |p::r=>by
  have h1:eqV (toV (bc p.2)) (.int t)=(p.2==Y t):=by
   rcases hp:p.2 with _|z
   .rfl
   .show (z==t)=(Y z==Y t)
    simp
  have:=xv t r;unfold inD inV at this ⊢;rw[N2,N2,N2,OR,OR,this,j6];show (eqV (toV (bc p.2)) (.int t)||_)=_;rw[h1]
theorem Cq(ps:J (Z×F1 Z)):((ps.map aG).map λd=>bc (cg d).2).all gp=true:=by rw[NT];intro d hd;obtain⟨n,_,rfl⟩:=NH.mp hd;cases (cg n).2 <;> rfl
theorem K5{f:L->Z->Rs L}(h:(match ds with|[b,.int a]=>f b a|_=>.no)≠.no):∃b a,ds=[b,.int a]/\f b a≠.no:=by
 rcases ds with _|⟨b,_|⟨a,_|⟨y,ys⟩⟩⟩
 .cases h rfl
 .cases h rfl
 .skip
  cases a with
  |int a =>exact⟨_,_,rfl,h⟩
  |_=>cases h rfl
 .first|cases h rfl|(cases a <;> cases h rfl)
theorem yE(cs:Cs):LLq (jC cs) 2 0 cm:=by
 intro ds hl a;obtain⟨d,t,f,c⟩:=K5 a;clear a;subst f;have a:=c;clear c
 .skip
  split at a
  .rename_i hd;obtain⟨e1,sh⟩:=AW hd;rw[<-e1];generalize deE d=e at sh;rw[jQ sh];have hc:aO 2 (bx (g2 dIx (ae 0) ↑3)) aZ (g2 dIx (ae 2) ↑1) aF [Y e.d,⇑t]=.ok ((e.parts.map aG).map λd=>bc (cg d).2) :=
    bN rfl (by simp[zw]) (by have:=sh.pn;simp;omega) λd b=>by obtain⟨p,hp,rfl⟩:=NH.mp b;simp[Ff,j6]
   have hi:Dl false (.int t) (.list ((e.parts.map aG).map λd=>bc (cg d).2))=Y (.bool (e.has t)):=by show (if (gp (.int t)&&_)=true then Y (RB (if false=true then _ else inD _ _)) else S)=_;rw[Cq,xv];rfl
   show bo (jC cs [Y e.d,⇑t])=_;dsimp[jC,c7,dP,aC,aE,yh,hc,Rs.ag,hi,Rs.ak,av,cA]
  .cases a rfl
def dq:Gf
 |[d,r,.int t]=>if nU d&&c9 (cz d).length r then .ok (bc (aX (cz d) (b0 r) t)) else .no
 |_=>.no
theorem l9(h1:es.length<=100)(h:∀e∈es,e.Sh)(a:bK es.length rs):dq [aj es,ai rs,.int t]=.ok (bc (aX es rs t)):=by unfold dq;simp[mx h1 h,fE,fK a,eM]
theorem nP(es:J Er)(a:∀e∈es,e.Sh)(R:L)(t:Z):∀(rs:J Z)(k:O)(x3 x4:F1 L),(∀m∈rs,0<=m/\m<es.length) ->
   (∃i,hts es rs k t=Y i/\forL (b9 [3,4]) (sIf (gT (ao cm #[0,g2 dIx (ae 0) (ae 4),2])) (a9 (ae 3)) aT) ((rs.map FC).mapIdx λi d=>.tuple [.int ((k+i:O):Z),d]) [Y (aj es),Y R,⇑t,x3,x4]=.rt (.int i))
  \/(hts es rs k t=S/\∃δ,forL (b9 [3,4]) (sIf (gT (ao cm #[0,g2 dIx (ae 0) (ae 4),2])) (a9 (ae 3)) aT) ((rs.map FC).mapIdx λi d=>.tuple [.int ((k+i:O):Z),d]) [Y (aj es),Y R,⇑t,x3,x4]=.nx δ)
 |[],k,x3,x4,_=>.inr ⟨rfl,_,rfl⟩
 |m::r,k,x3,x4,hm=>by
   have b:=hm m N1;have f:atI (es.map Er.d) m=Y (au es m).d:=eQ b.1 b.2;have g:=jQ (t:=t) (a _ (bG b.1 b.2));rw[N2,Qi];unfold forL;have e1:b9 [3,4] (RX [.int ((k+0:O):Z),.int m]) [Y (aj es),Y R,⇑t,x3,x4]=Y [Y (aj es),Y R,⇑t,⇑(k:Z),⇑m]:=rfl;rw[e1];dsimp[fm,iM,bQ,aA,aL,dP,aC,aE,Rs.ag,aj,xh,f,Rs.ak,g,bX,av,c7,uG];unfold hts;cases hh:(au es m).has t with
   |true=>exact .inl ⟨k,rfl,rfl⟩
   |false =>
    dsimp[OT,RL];have c:=nP es a R t r (k+1) ⇑(k:Z) ⇑m (λx h=>hm x (N0 _ h));rw[show ((k+1:O):Z)=(k:Z)+1 by omega]at c;have j:(λ(i:O)(d:L)=>RX [.int ((k+(i+1):O):Z),d])=λi d=>.tuple [.int ((k+1+i:O):Z),d]:=by funext i d;rw[show k+(i+1)=k+1+i by omega]
    rw[j];exact c
theorem kC{f:L->L->Z->Rs L}(h:(match ds with|[b,c,.int a]=>f b c a|_=>.no)≠.no):∃b c a,ds=[b,c,.int a]/\f b c a≠.no:=by
 rcases ds with _|⟨b,_|⟨c,_|⟨a,_|⟨y,ys⟩⟩⟩⟩
 .cases h rfl
 .cases h rfl
 .cases h rfl
 .skip
  cases a with
  |int a =>exact⟨_,_,_,rfl,h⟩
  |_=>cases h rfl
 .first|cases h rfl|(cases a <;> cases h rfl)
theorem CZ(cs:Cs):LLq (mq cs cm) 3 2 dq:=by
 intro ds hl a;obtain⟨d,r,t,h,f⟩:=kC a;clear a;subst h;have a:=f;clear f
 .skip
  split at a
  .rename_i hc;dsimp[NG]at hc;obtain⟨j,l⟩:=hc;obtain⟨e1,wb,c⟩:=uj j;obtain⟨e2,g⟩:=jV l;rw[<-e1,<-e2];generalize cz d=es at *;generalize b0 r=rs at *;rw[l9 wb c g];have loop:=nP es c (ai rs) t rs 0 S S g.rng;show bo (mq cs cm #[3,⇑t,S,S])=_;have src:iq #[0,1] #[3,⇑t,S,S]=.ok ((rs.map FC).mapIdx λi d=>.tuple [.int ((0+i:O):Z),d]):=by dsimp[uO,aA,aL,aC,aE,Rs.ag,ai,uK,ij,Ob]
   dsimp[mq];rw[bg,iJ,eK,src,av];unfold aX;rcases loop with⟨i,b,e⟩|⟨b,δ,e⟩
   .rw[e];have b:hts es rs 0 t=Y i:=b;rw[b];rfl
   .rw[e];have b:hts es rs 0 t=none:=b;rw[b];rfl
  .cases a rfl
def aJ(es:J Er)(rs:J Z):PyData:=.list ((M' 4).map λ(t:O)=>bc (aX es rs t))
def bU:Gf
 |[d,r]=>if nU d&&c9 (cz d).length r then .ok (aJ (cz d) (b0 r)) else .no
 |_=>.no
theorem iZ(h1:es.length<=100)(h:∀e∈es,e.Sh)(a:bK es.length rs):bU [aj es,ai rs]=.ok (aJ es rs):=by unfold bU;simp[mx h1 h,fE,fK a,eM]
theorem Kr{f:L->L->Rs L}(h:(match ds with|[a,b]=>f a b|_=>.no)≠.no):∃a b,ds=[a,b]/\f a b≠.no:=by
 rcases ds with _|⟨a,_|⟨b,_|⟨y,ys⟩⟩⟩
 .cases h rfl
 .cases h rfl
 .skip
  exact⟨_,_,rfl,h⟩
 .cases h rfl
theorem uN(cs:Cs):LLq (gr cs dq) 2 0 bU:=by
 intro ds hl a;obtain⟨d,r,g,e⟩:=Kr a;clear a;subst g;have a:=e;clear e
 .skip
  split at a
  .rename_i hc;dsimp[NG]at hc;obtain⟨h,j⟩:=hc;obtain⟨e1,wb,b⟩:=uj h;obtain⟨e2,f⟩:=jV j;rw[<-e1,<-e2];generalize cz d=es at *;generalize b0 r=rs at *;rw[iZ wb b f];have l:∀t:Z,dq [aj es,ai rs,.int t]=.ok (bc (aX es rs t)):=λt=>l9 wb b f
   have c:aO 2 (dG #[0,↑4]) aZ (ao dq #[0,0,1,2]) aF [Y (aj es),Y (ai rs)]=.ok ((bF 0 (4:Z).toNat).map λx=>bc (aX es rs (deI x))) :=
    bN rfl (by dsimp[lQ,aA,aL,fh,Rs.ag];exact kA #[1] #[1]) (by rw[cL];decide) λx m=>by obtain⟨i,hi⟩:=TL m;obtain⟨_,rfl⟩:=hV hi;dsimp[P4,OF,bQ,aA,aL,aC,aE,Rs.ag,l];rfl
   have hd:aJ es rs=.list ((bF 0 (4:Z).toNat).map λx=>bc (aX es rs (deI x))):=by
    unfold aJ bF;rw[NO];congr 1
    try exact NR λk _=>by simp[deI]
   rw[hd];show bo (gr cs dq [Y (aj es),Y (ai rs)])=_;dsimp[gr,c7,yh,c,Rs.ag,av,cA]
  .cases a rfl
def dC(ns:J Z)(a:Z)(xb:O):O->J Z×J Z
 |0=>((M' xb).map λ(i:O)=>(i:Z),[])
 |i+1=>((dC ns a xb i).1.eraseIdx (mixed ns (a+(i:Z)) ((dC ns a xb i).1.length:Z)).toNat,(dC ns a xb i).2++[(dC ns a xb i).1.getD (mixed ns (a+(i:Z)) ((dC ns a xb i).1.length:Z)).toNat 0])
def oF(ns:J Z)(a:Z)(xb:O):J Int:=(dC ns a xb xb).2
theorem pC{α:Type}:∀(l:J α)(j:O)(h:j<l.length),(l[j]::l.eraseIdx j).Perm l
 |[],j,h=>by simp at h
 |x::r,0,h=>by simp
 |x::r,j+1,h=>by
  dsimp[J.getElem_cons_succ,J.eraseIdx_cons_succ];have h':j<r.length:=by simpa using h
  exact (J.Perm.swap _ _ _).trans ((pC r j h').cons x)
theorem tw{α β:Type}(f:α->β):∀(l:J α)(j:O),(l.map f).eraseIdx j=(l.eraseIdx j).map f
 |[],j=>by simp
 |x::r,0=>by simp
 |x::r,j+1=>by simp[tw f r j]
theorem pw(ns:J Z)(a:Z)(xb:O):∀i,i<=xb->(dC ns a xb i).1.length=xb-i/\(dC ns a xb i).2.length=i/\((dC ns a xb i).1++(dC ns a xb i).2).Perm ((M' xb).map λ(i:O)=>(i:Z))
 |0,_=>⟨by simp[dC],rfl,by simp[dC]⟩
 |i+1,h=>by
  obtain⟨h1,h2,c⟩:=pw ns a xb i ⋯;dsimp[dC];generalize (dC ns a xb i).1=Dd at *;generalize (dC ns a xb i).2=M at *;have hL:0<(Dd.length:Z):=⋯
  have m0:=cH ns (a+(i:Z)) hL;have m1:=cU ns (a+(i:Z)) hL;generalize mixed ns (a+(i:Z)) (Dd.length:Z)=z at *;have b:z.toNat<Dd.length:=⋯
  refine⟨by rw[J.length_eraseIdx_of_lt b];omega,by simp[h2],?_⟩;refine J.Perm.trans ?_ c;rw[N9,My b,P0];have p1:(Dd[z.toNat]::Dd.eraseIdx z.toNat).Perm Dd:=pC Dd z.toNat b;have p2:(Dd.eraseIdx z.toNat++(M++[Dd[z.toNat]])).Perm ((Dd[z.toNat]::Dd.eraseIdx z.toNat)++M):=by rw[<-OK];exact (J.perm_append_singleton _ _)
  exact p2.trans (p1.append_right M)
theorem yu(ns:J Z)(a:Z)(xb:O):bK xb (oF ns a xb):=by
 obtain⟨h1,h2,b⟩:=pw ns a xb xb (ND _);unfold oF;have e:(dC ns a xb xb).1=[]:=Pk.mp ⋯;rw[e,OF]at b;refine⟨h2,λr c=>?_,b.nodup_iff.mpr ?_⟩
 .obtain⟨k,g,rfl⟩:=NH.mp (b.mem_iff.mp c);have:=Of.mp g;omega
 .exact (UQ).map (f:=λ(i:O)=>(i:Z)) λx y h=>by intro q;have q:(x:Z)=(y:Z):=q;exact h ⋯
def bV:Gf
 |[s,.int a,.int xb]=>(match ft s with
  |some ns=>if 0<=a/\0<=xb/\xb<=100 then .ok (ai (oF ns a xb.toNat)) else .no
  |none=>.no)
 |_=>.no
theorem jJ{a:Z}(h1:0<=a)(h2:0<=xb)(b:xb<=100):bV [ar ns,.int a,.int xb]=.ok (ai (oF ns a xb.toNat)):=by unfold bV;simp[fQ,h1,h2,b]
theorem Cw(ns:J Z)(a:Z)(n i:O)(Dd M:J Z)(ha:0<=a)(hL:0<(Dd.length:Z))(hL2:Dd.length<=100)(hM:M.length<=100) :
   jo 4 3 (ao aq #[0,0,g2 bq (ae 1) (ae 5),gF bp #[0,3]]) [Y (ar ns),⇑a,⇑(n:Z),↥(Dd.map .int),↥(M.map .int),⇑(0+(i:Z))]
  =.nx [Y (ar ns),⇑a,⇑(n:Z),↥((Dd.eraseIdx (mixed ns (a+(i:Z)) (Dd.length:Z)).toNat).map .int),↥((M++[Dd.getD (mixed ns (a+(i:Z)) (Dd.length:Z)).toNat 0]).map .int),⇑(0+(i:Z))]:=by
 have b:=dj (ns:=ns) (k:=a+(0+(i:Z))) (xb:=(Dd.length:Z)) ⋯ hL;have g:=cH ns (a+(i:Z)) hL;have m1:=cU ns (a+(i:Z)) hL;rw[show a+(0+(i:Z))=a+(i:Z) by omega]at b;generalize mixed ns (a+(i:Z)) (Dd.length:Z)=z at *;have f:z.toNat<Dd.length:=⋯
 have h:ao aq #[0,0,g2 bq (ae 1) (ae 5),gF bp #[0,3]] [Y (ar ns),⇑a,⇑(n:Z),↥(Dd.map .int),↥(M.map .int),⇑(0+(i:Z))]=.ok (.int z):=by dsimp[bQ,aA,aL,dP,jM,aC,aE,Rs.ag,eO,Rs.ak,Df,N8];rw[show a+(0+(i:Z))=a+(i:Z) by omega];exact b
 have c:ixN (Dd.map FC).length z=Y z.toNat:=by unfold ixN;rw[HL g,HL (by rw[N8];omega)]
 have e:(Dd.map FC)[z.toNat]?=⇑(Dd.getD z.toNat 0):=by rw[NA,My f,N9,My f];rfl
 unfold jo;dsimp[Ov,Ow,h,av];rw[HL (by refine⟨⋯,⋯,?_⟩;rw[N8];omega)];dsimp[c,e,Pm,Pn,Ol,N2,OI];rw[tw]
theorem Cv(ns:J Z)(a:Z)(n i:O)(ha:0<=a)(hi:i<n)(hn:n<=100) :
   jo 4 3 (ao aq #[0,0,g2 bq (ae 1) (ae 5),gF bp #[0,3]]) [Y (ar ns),⇑a,⇑(n:Z),↥((dC ns a n i).1.map .int),↥((dC ns a n i).2.map .int),⇑(0+(i:Z))]
  =.nx [Y (ar ns),⇑a,⇑(n:Z),↥((dC ns a n (i+1)).1.map .int),↥((dC ns a n (i+1)).2.map .int),⇑(0+(i:Z))]:=by
 obtain⟨h1,h2,h3⟩:=pw ns a n i ⋯;dsimp[dC];exact Cw ns a n i _ _ ha ⋯ ⋯ ⋯
theorem rk1(ns:J Z)(a:Z)(n:O)(hm2:(n:Z)<=100):dh [3,4] 3 (gLR #[0,2]) [Y (ar ns),⇑a,⇑(n:Z),S,S,S]=.nx [Y (ar ns),⇑a,⇑(n:Z),↥((dC ns a n 0).1.map .int),S,S]:=by
 have b:gLR #[0,2] (mask [3,4] [Y (ar ns),⇑a,⇑(n:Z),S,S,S])=.ok (bF 0 n):=by dsimp[MH,aA,aL,ax (show 2∉[3,4] by decide),aC,aE,Rs.ag];unfold uM;simp only;rw[HL ⋯,O2]
 have c:(dC ns a n 0).1.map FC=bF 0 n:=by
  dsimp[dC,bF,NO];refine NR λk _=>?_
  simp
 rw[c];unfold dh;rw[b,HL #[2]];dsimp[av,Pm,Pn]
theorem rk2(ns:J Z)(a:Z)(n:O):dh [3,4] 4 ah [Y (ar ns),⇑a,⇑(n:Z),↥((dC ns a n 0).1.map .int),S,S]=.nx [Y (ar ns),⇑a,⇑(n:Z),↥((dC ns a n 0).1.map .int),↥((dC ns a n 0).2.map .int),S]:=by unfold dh;rw[HL #[2]];dsimp[aL,av,Pm,Pn];rfl
theorem rk3(ns:J Z)(a:Z)(n:O)(hm2:(n:Z)<=100):dG #[0,2] (mask [3,4] [Y (ar ns),⇑a,⇑(n:Z),↥((dC ns a n 0).1.map .int),↥((dC ns a n 0).2.map .int),S])=.ok (bF 0 n):=by have hv:af (ae 2) ah (mask [3,4] [Y (ar ns),⇑a,⇑(n:Z),↥((dC ns a n 0).1.map .int),↥((dC ns a n 0).2.map .int),S])=.ok [.int (n:Z)]:=rfl;have b:=kA (j:=(n:Z)) (PJ n) ⋯;rw[O2]at b;rw[lQ,hv,Rs.ag,b]
theorem wL(cs:Cs):LLq (iy cs aq) 3 3 bV:=by
 intro ds hl b;obtain⟨s,a,xb,m,l⟩:=oP b;clear b;subst m;have b:=l;clear l
 .skip
  split at b
  .rename_i ns o;have es:=iE o;subst es;split at b
   .rename_i hc;obtain⟨ha,hm,c⟩:=hc;rw[jJ ha hm c];obtain⟨n,rfl⟩:∃n:O,xb=(n:Z):=⟨xb.toNat,⋯⟩
    rw[O2];show bo (iy cs aq [Y (ar ns),⇑a,⇑(n:Z),S,S,S])=_;have p:=rk1 ns a n c;have s2:=rk2 ns a n;have src:=rk3 ns a n c;obtain⟨δ',e,f,g⟩:=jq (β:=Vz) (tgt:=aP 5) (body:=jo 4 3 (ao aq #[0,0,g2 bq (ae 1) (ae 5),gF bp #[0,3]]))
     (λi δ=>∃f,δ=[Y (ar ns),⇑a,⇑(n:Z),↥((dC ns a n i).1.map .int),↥((dC ns a n i).2.map .int),f])
     (bF 0 n) 0 (λi d δ hi h=>by obtain⟨f,q⟩:=h;subst q;rw[Ob]at *;obtain⟨j,rfl⟩:=hV hi;refine⟨[Y (ar ns),⇑a,⇑(n:Z),↥((dC ns a n i).1.map .int),↥((dC ns a n i).2.map .int),⇑(0+(i:Z))],_,rfl,?_,⇑(0+(i:Z)),rfl⟩;exact Cv ns a n i ha j ⋯) [Y (ar ns),⇑a,⇑(n:Z),↥((dC ns a n 0).1.map .int),↥((dC ns a n 0).2.map .int),S] ⟨S,rfl⟩
    subst g;rw[Ob,cL]at e;dsimp[iy];rw[bg,p];simp only;rw[bg,s2];simp only;rw[bg,iJ,src,av,e];simp only;dsimp[c7,jM,aA,aL,aC,aE,Rs.ag,FG,Rs.ak,av,cA];rfl
   .cases b rfl
  .cases b rfl
def hvM(b a:Z):Z->J Z->Qo
 |_,[]=>true
 |m,c::r=>if c<(if c-a>m then c-a else m) then false else hvM b a ((if c-a>m then c-a else m)+b) r
def hvE(e:Er)(ns:J Z):Bool:=hvM e.every e.late (0-e.late) ns
structure qL(ns:J Z):Prop where
 few:ns.length<=60
 lo:∀c∈ns,0<=c
 hi:∀c∈ns,c<=9999
def zQ(ns:J Z):Bool:=decide (ns.length<=60)&&ns.all λc=>decide (0<=c)&&decide (c<=9999)
theorem nN(ns:J Z):aY (.list (ns.map FC))=true:=by
 induction ns with
 |nil=>rfl
 |cons a r ih =>
  have:aY (.list (FC a::r.map FC))=aY (.list (r.map FC)):=by simp[aY,fN]
  rw[N2,this];exact ih
def gB(B:O)(p:Z->Qo):F1 Int:=((M' B).map λ(i:O)=>(1+(i:Z))).find? p
theorem uq(B:O)(p:Z->Qo):gB (B+1) p=(gB B p).or (if p (1+(B:Z)) then Y (1+(B:Z)) else S):=by unfold gB;rw[Va,Ol,UA];congr 1;dsimp[N2,OI,Oc,J.find?_nil];cases p (1+(B:Z)) <;> rfl
theorem my{p:Z->Qo}:∀{B:O}{t:Z},gB B p=Y t->1<=t/\t<=B/\p t=true/\∀s,1<=s->s<t->p s=false
 |0,t,h=>by cases h
 |B+1,t,h=>by
  rw[uq]at h;cases q:gB B p with
  |some u =>rw[q]at h;cases h;obtain⟨h1,h2,a,b⟩:=my q;exact⟨h1,⋯,a,b⟩
  |none =>
   rw[q,F1.none_or]at h;split at h
   .rename_i hp;cases h;refine⟨⋯,⋯,hp,λs h1 h2=>?_⟩;unfold gB at q;have:=OJ.mp q s (NH.mpr ⟨(s-1).toNat,Of.mpr ⋯,⋯⟩);simpa using this
   .cases h
theorem uz{B:O}{p:Z->Qo}(h:gB B p=S):∀s:Z,1<=s->s<=(B:Z)->p s=false:=λs h1 h2=>by unfold gB at h;have:=OJ.mp h s (NH.mpr ⟨(s-1).toNat,Of.mpr ⋯,⋯⟩);simpa using this
theorem Er.times_mono(h:1<=e.every){u:Z}(ht:t<=u):e.times t<=e.times u:=by
 unfold Er.times;have q:=Z.ediv_le_ediv (c:=e.every) ⋯ (show t+e.late<=u+e.late by omega);have r1:=OX (t+e.late) (b:=e.every) ⋯;have r2:=OX (u+e.late) (b:=e.every) ⋯;have d1:=PY (t+e.late) e.every;have d2:=PY (u+e.late) e.every;by_cases z:(t+e.late) / e.every=(u+e.late) / e.every
 .rw[<-z]at d2 ⊢;split <;> split <;> omega
 .split <;> split <;> omega
theorem wy{α:Type}(f g:α->Z):∀l:J α,(∀x∈l,f x<=g x)->(l.map f).sum<=(l.map g).sum
 |[],_=>Om _
 |x::r,h=>by
  have h1:=h x N1;have h2:=wy f g r λy a=>h y (N0 _ a)
  dsimp[N2,Oa];omega
theorem lz{α:Type}(f:α->Z):∀l:J α,(∀x∈l,0<=f x)->0<=(l.map f).sum
 |[],_=>Om _
 |x::r,h=>by
  have h1:=h x N1;have h2:=lz f r λy a=>h y (N0 _ a)
  dsimp[N2,Oa];omega
theorem wo{u:Z}(b:∀e∈es,e.Sh)(f:bK es.length rs)(g:t<=u):jz es rs n t<=jz es rs n u:=by
 unfold jz;have:=wy (λm=>(au es m).times t*(au es m).work) (λm=>(au es m).times u*(au es m).work) (rs.take (placeOf rs n)) λm hm=>by have a:=f.rng m (Oe hm);have c:=b _ (bG a.1 a.2);exact NU (Er.times_mono c.e1 g) c.work_b.1
 omega
structure mR(f:Z->Z):Prop where
 mono:∀t u,1<=t->t<=u->f t<=f u
 one:∀t,1<=t->1<=f t
theorem mR.fix{f:Z->Z}(R:mR f)(h1:1<=t)(h:f t<=t)(a:∀s,1<=s->s<t->¬ f s<=s):f t=t:=by
 by_cases z:f t<t
 .exact Qr (R.mono _ _ (R.one t h1) h) (λq=>a (f t) (R.one t h1) z q)
 .omega
theorem Er.times_pos(h:1<=e.every)(a:0<=t+e.late):0<=e.times t:=by unfold Er.times;have:=Pl a (show 0<=e.every by omega);split <;> omega
inductive Fa2 {α β:Type} (R:α->β->Prop):J α->J β->Prop where
 |nil:Fa2 R [] []
 |cons {a:α} {b:β} {l:J α} {m:J β} (h:R a b) (t:Fa2 R l m):Fa2 R (a::l) (b::m)
def cnd(es:J Er)(rs:J Z)(pl:Z)(t:Z):Bool:=match aX es rs t with
 |some h=>decide (h<=pl)
 |none=>false
def vK(c:Z->Qo)(z5:Z)(p:Z×F1 Z):Int:=match p.2 with
 |some t=>if c t then max z5 (p.1-1) else z5
 |none=>z5
theorem vQ(es:J Er)(rs:J Z)(pl:Z):iS es rs pl=vK (cnd es rs pl):=by
 funext z5 p;unfold iS vK cnd;cases p.2 with
 |none=>rfl
 |some t =>
  simp only;cases aX es rs t with
  |none=>rfl
  |some h=>simp
theorem FP{c:Z->Qo}{z5 M:Z}:vK c z5 p<=M↔z5<=M/\∀t,p.2=Y t->c t=true->p.1-1<=M:=by
 unfold vK;rcases hp:p.2 with _|t
 .simp
 .simp only;cases hc:c t with
  |false=>simp[hc]
  |true =>
   dsimp[QA];constructor
   .intro h;refine⟨⋯,λu a _=>by cases a;omega⟩
   .rintro⟨h1,h2⟩
    have:=h2 t rfl hc;omega
theorem vO{c:Z->Qo}{M:Z}:∀(l:J (Z×F1 Z))(z5:Z),l.foldl (vK c) z5<=M↔z5<=M/\∀p∈l,∀t,p.2=Y t->c t=true->p.1-1<=M
 |[],z5=>by simp
 |p::l,z5=>by
  rw[NY,vO l,FP];constructor
  .rintro⟨⟨h1,h2⟩,b⟩
   exact⟨h1,λq a=>(NB.mp a).elim (λz=>by rw[z];exact h2) (b q)⟩
  .rintro⟨h1,h2⟩
   exact⟨⟨h1,h2 p N1⟩,λq a=>h2 q (N0 _ a)⟩
theorem qk(es:J Er)(t:Z):∀(rs:J Z)(k:Z)(j:O),(∃h,hts es rs k t=Y h/\h<=k+j)↔∃m∈rs.take (j+1),(au es m).has t=true
 |[],k,j=>by simp[hts]
 |r::rs,k,j=>by
  unfold hts;rw[Pj];by_cases hr:(au es r).has t=true
  .rw[HL hr];exact⟨λ_=>⟨r,N1,hr⟩,λ_=>⟨k,rfl,⋯⟩⟩
  .rw[I' hr];cases j with
   |zero =>
    have lo:∀(rs:J Z)(k:Z) h,hts es rs k t=Y h->k<=h:=by
     intro rs
     induction rs with
     |nil=>intro k h e;cases e
     |cons a l c =>
      intro k h e;unfold hts at e;split at e
      .cases e;exact Om _
      .have:=c _ _ e;omega
    constructor
    .rintro⟨h,e,hl⟩
     have:=lo rs (k+1) h e;omega
    .rintro⟨m,hm,b⟩
     simp at hm;subst hm;exact Qr b hr
   |succ j =>
    have c:=qk es t rs (k+1) j;constructor
    .rintro⟨h,e,hl⟩
     obtain⟨m,hm,b⟩:=c.mp ⟨h,e,⋯⟩;exact⟨m,N0 _ hm,b⟩
    .rintro⟨m,hm,b⟩
     rcases NB.mp hm with z|z
     .rw[z]at b;exact Qr b hr
     .obtain⟨h,e,hl⟩:=c.mpr ⟨m,z,b⟩;exact⟨h,e,⋯⟩
theorem A8{pl:O}:cnd es rs (pl:Z) t=true↔∃m∈rs.take (pl+1),(au es m).has t=true:=by
 rw[<-qk es t rs 0 pl];unfold cnd aX;cases hts es rs 0 t with
 |none=>simp
 |some h=>simp
def vE(es:J Er)(a:J Z):J (Z×F1 Z):=(a.map λm=>(au es m).parts).flatten
theorem AG{a:J Z}:p∈vE es a↔∃m∈a,p∈(au es m).parts:=by
 unfold vE;rw[J.mem_flatten];constructor
 .rintro⟨l,hl,hp⟩
  obtain⟨m,hm,rfl⟩:=NH.mp hl;exact⟨m,hm,hp⟩
 .rintro⟨m,hm,hp⟩
  exact⟨_,NH.mpr ⟨m,hm,rfl⟩,hp⟩
theorem sq{M:Z}:fj es rs n<=M↔0<=M/\∀m∈rs.drop (placeOf rs n+1),∀p∈(au es m).parts,∀t,p.2=Y t->(∃u∈rs.take (placeOf rs n+1),(au es u).has t=true)->p.1-1<=M:=by
 unfold fj;rw[vQ,vO];constructor
 .rintro⟨h1,h2⟩
  exact⟨h1,λm hm p hp t a b=>h2 p (AG.mpr ⟨m,hm,hp⟩) t a (A8.mpr b)⟩
 .rintro⟨h1,h2⟩
  refine⟨h1,λp hp t a hc=>?_⟩;obtain⟨m,hm,hp⟩:=AG.mp hp;exact h2 m hm p hp t a (A8.mp hc)
theorem yb{A r:J Z}(h:n∈A):placeOf (A++r) n=placeOf A n:=by
 unfold placeOf
 induction A with
 |nil=>cases h
 |cons a l ih =>
  rw[P4,Qd,Qd];cases hn:a==n with
  |true=>rfl
  |false =>
   have b:a≠n:=by simpa using hn
   rw[cond_false,cond_false,ih ((NB.mp h).resolve_left λq=>b q.symm)]
theorem qQ(es:J Er)(rs:J Z)(n:Z):0<=fj es rs n:=(sq.mp (Om _)).1
theorem nG:∀(ps:J (Z×F1 Z)),(∀p∈ps,0<=p.1)->∀p∈ps,p.1<=(ps.map (·.1)).sum
 |[],_,p,hp=>by cases hp
 |q::r,h,p,hp=>by
  have h0:=h q N1;have h1:=lz (λp:Z×F1 Z=>p.1) r λp hp=>h p (N0 _ hp)
  dsimp[N2,Oa];rcases NB.mp hp with rfl|hp
  .omega
  .have:=nG r (λp hp=>h p (N0 _ hp)) p hp;omega
theorem Er.Sh.part_le(h:e.Sh)(hp:p∈e.parts):p.1<=e.work:=nG e.parts (λp hp=>(h.pl p hp).1) p hp
section
variable {A B:J Z}{x y:Z}
end
theorem eF(h:n∈rs):rs[placeOf rs n]?=Y n:=by have lt:=lq h;rw[My lt];have a:(rs[placeOf rs n]==n)=true:=TM (p:=(·==n)) (xs:=rs) (w:=lt);rw[RK.mp a]
section
variable {ot:J Z}
end
theorem mU:∀{ds:J L},(∀d∈ds,aY d=true)->fN ds=true
 |[],_=>by unfold fN;rfl
 |d::r,h=>by unfold fN;rw[h d N1,mU λe a=>h e (N0 _ a)];rfl
theorem hZ(h:∀d∈ds,aY d=true):aY (.tuple ds)=true:=by unfold aY;exact mU h
theorem ju(h:∀d∈ds,aY d=true):aY (.list ds)=true:=by unfold aY;exact mU h
theorem gJ(i:Z):aY (.int i)=true:=by unfold aY;rfl
theorem CU(o:F1 Z):aY (bc o)=true:=by cases o <;> (unfold bc aY;rfl)
theorem yP(p:Z×F1 Z):aY (aG p)=true:=hZ λd hd=>by
 rcases NB.mp hd with rfl|hd
 .exact gJ _
 .cases NQ.mp hd;exact CU _
theorem Fc(e:Er):aY e.d=true:=hZ λd hd=>by
 rcases NB.mp hd with rfl|hd
 .exact gJ _
 .rcases NB.mp hd with rfl|hd
  .exact gJ _
  .rcases NB.mp hd with rfl|hd
   .exact gJ _
   .cases NQ.mp hd;exact hZ λd hd=>by obtain⟨p,_,rfl⟩:=NH.mp hd;exact yP p
theorem BD(es:J Er):aY (aj es)=true:=hZ λd hd=>by obtain⟨p,_,rfl⟩:=NH.mp hd;exact Fc p
theorem gM(rs:J Z):∀d∈rs.map FC,aY d=true:=λd hd=>by obtain⟨p,_,rfl⟩:=NH.mp hd;exact gJ p
theorem xT(rs:J Z):aY (ai rs)=true:=hZ (gM rs)
end RS
namespace RS
open PySem PySem.Spec PyProof.Rows L2
section
theorem ue{xs:J α}{k:Z}{v:α}(a:0<=k)(h:xs[k.toNat]?=Y v):atI xs k=Y v:=by
 have:=kD h
 rwa[OO a]at this
theorem depthAll_ints:∀ns:J Z,Ss (ns.map FC)<=1
 |[]=>by simp[Ss]
 |n::r=>by have:=depthAll_ints r;dsimp[N2,Ss,Sy];omega
theorem om:∀ns:J Z,Sd (ns.map FC)=true
 |[]=>by simp[Sd]
 |n::r=>by simp[Sd,Sb,om r]
theorem shaped_ints(ns:J Z):QV (.list (ns.map FC))=true:=by
 have:=depthAll_ints ns;have h2:(Sm (ns.map FC)).depth<=64:=by dsimp[Sy];omega
 simp[QV,Sb,om,h2]
theorem yU:QV (.list [])=true:=shaped_ints []
theorem DH:∀ns:J Z,Rb (.list (ns.map FC)) (.list [])=decide (ns=[])
 |[]=>by simp[Rb,RN]
 |_::_=>by simp[Rb,RN]
def Dw(K:Qp):Sp:=λvs H Q _=>∃(a:J')(ns:J Z)(k:Z),vs=[.ref a,.int k]/\SqL K H a (ns.map V.int)/\0<=k/\∀H',aw H H'->Q (.int (cellAt ns k)) H'
def Ja(K:Qp):Sp:=λvs H Q _=>∃(a:J')(ns:J Z)(k xb:Z),vs=[.ref a,.int k,.int xb]/\SqL K H a (ns.map V.int)/\0<=k/\0<xb/\∀H',aw H H'->Q (.int (mixed ns k xb)) H'
theorem Gm(ds:J L)(hl:ds.length=3)(b:aq ds≠.no):∃d,aq ds=.ok d/\gp d=true/\∀vs H Q,Iss K H ds vs->(∀v H',aw H H'->IsD K H' d v->Q v H')->Ja K vs H Q E0:=by
 obtain⟨s,k,xb,e,c⟩:=oP b;clear b;subst e;have b:=c;clear c
 .skip
  split at b
  .rename_i ns f;have es:=iE f;subst es;split at b
   .rename_i hc;refine⟨_,dj hc.1 hc.2,rfl,λvs H Q hi g=>?_⟩;obtain⟨v0,r0,rfl,h,v1,r1,rfl,h1,v2,r2,rfl,h2,rfl⟩:=hi;obtain⟨a,rfl,i⟩:=h.ofScript;rw[h1.ofInt,h2.ofInt];exact⟨a,ns,k,xb,rfl,i,hc.1,hc.2,λH' s'=>g _ _ s' ui⟩
   .cases b rfl
  .cases b rfl
end
end RS
namespace RS
open PySem L2
def okIn(d r:L):Bool:=cW d&&c9 (cz d).length r
def okN(d r:L)(n:Z):Bool:=okIn d r&&decide (0<=n)&&decide (n<(cz d).length)
def cM:Gf
 |[d,r,.int n]=>if okN d r n then .ok (bc (bL (cz d) (b0 r) n)) else .no
 |_=>.no
section
theorem Gg(h1:1<=es.length)(h2:es.length<=6)(h:∀e∈es,e.Ok)(a:bK es.length rs):okIn (aj es) (ai rs)=true:=by unfold okIn;rw[md h1 h2 h,fE,fK a];rfl
theorem D7(h1:1<=es.length)(h2:es.length<=6)(h:∀e∈es,e.Ok)(a:bK es.length rs)(n0:0<=n)(n1:n<es.length):okN (aj es) (ai rs) n=true:=by unfold okN;rw[Gg h1 h2 h a,fE];simp[n0,n1]
theorem kQ(h1:1<=es.length)(h2:es.length<=6)(h:∀e∈es,e.Ok)(a:bK es.length rs)(n0:0<=n)(n1:n<es.length):cM [aj es,ai rs,.int n]=.ok (bc (bL es rs n)):=by unfold cM;dsimp[D7 h1 h2 h a n0 n1,QA,fE,eM]
end
theorem kT{l:J L}(h:aY (.list l)=true):fF "list" (.list l)=Y (.bool true):=by unfold fF;rw[h];rfl
theorem nY{cond:Ds->Rs Qo}{elt:Ds->Rs L}{δ:Ds}{p:L->Qo}:∀(ds:J L),(∀d∈ds,cond (δ++[Y d])=.ok (p d)/\elt (δ++[Y d])=.ok d)->eG cond elt aF δ ds=.ok (ds.filter p)
 |[],_=>rfl
 |d::r,h=>by
  obtain⟨h1,h2⟩:=h d N1;have a:=nY r λe b=>h e (N0 _ b)
  unfold eG;cases hp:p d with
  |true=>dsimp[aF,h1,hp,Rs.fU,Rs.ag,QA,h2,a,Pu]
  |false=>dsimp[aF,h1,hp,Rs.fU,Rs.ag,RL,OT,a,Pu]
theorem um{cond:Ds->Rs Qo}{elt:Ds->Rs L}{p:L->Qo}(hn:δ.length=n0)(a:src δ=.ok ds)(hl:ds.length<=1000000)(h:∀d∈ds,cond (δ++[Y d])=.ok (p d)/\elt (δ++[Y d])=.ok d) :
  aO n0 src cond elt aF δ=.ok (ds.filter p):=by
 unfold aO;rw[HL hn,a];dsimp[Rs.ag,HL hl];exact nY ds h
theorem C7(ns:J Z)(a top:Z)(ha:0<=a)(g:0<top)(b:top<=58):∃es rs,oB ns a 4 top true=es/\1<=es.length/\es.length<=4/\(∀e∈es,e.Ok)/\bK es.length rs/\bw [ar ns,.int a,.int 4,.int top,.bool true]=.ok (aj es)/\bV [ar ns,.int 0,.int (es.length:Z)]=.ok (ai rs):=by have hl:=Ep ns a 4 top true #[1];have hok:=Gv ns a 4 top true g b;have f:bw [ar ns,.int a,.int 4,.int top,.bool true]=.ok (aj (oB ns a 4 top true)):=ig ha #[1] #[1] g b;generalize oB ns a 4 top true=es at *;have c:=jJ (ns:=ns) (a:=0) (xb:=(es.length:Z)) #[1] ⋯ ⋯;rw[O2]at c;exact⟨es,_,rfl,hl.1,⋯,hok,yu ns 0 es.length,f,c⟩
theorem JI(es:J Er):bp [aj es]=⇑(es.length:Z):=by unfold aj;rw[uf,N8]
theorem lawT_of{n:O}{G:Ds->Sr}{k:O}(h:∀ns:J Z,G (Y (ar ns)::L' k S)=.rt (.bool true)):∀ds,ds.length=1->fV n ds≠.no->bo (G (ds.map Y++L' k S))=fV n ds:=by
 intro ds hl a
 match ds,hl with
 |[s],_ =>
  unfold fV at a ⊢;simp only at a ⊢;split at a
  .rename_i ns b;have es:=iE b;subst es;split at a
   .rename_i hc;dsimp[fQ,HL hc];show bo (G (Y (ar ns)::L' k S))=_;rw[h];rfl
   .cases a rfl
  .cases a rfl
theorem By(cs:Cs):LLq (sU cs) 1 0 cf:=yT cs
def bh(cs:Cs):Gf
 |[.tuple es,x]=>if aY x then (if isWhole x 0 ((es.length:Z)-1) then .ok x else .rz cs.NoErrand) else .no
 |_=>.no
theorem nz(cs:Cs):LLq (eo cs aS) 2 0 (bh cs):=by
 intro ds hl a;obtain⟨es,x,c,b⟩:=EO a;clear a;subst c;have a:=b;clear b;unfold bh
 .skip
  split at a
  .rename_i hd;dsimp[hd,QA];cases e:isWhole x 0 ((es.length:Z)-1) with
   |true=>simp[eo,hd,e]
   |false=>simp[eo,hd,e]
  .cases a rfl
theorem sR{d r:L}(h:okN d r n=true):∃es rs,d=aj es/\r=ai rs/\cz d=es/\b0 r=rs/\1<=es.length/\es.length<=6/\(∀e∈es,e.Ok)/\bK es.length rs/\0<=n/\n<es.length:=by unfold okN okIn at h;dsimp[NG,Qm]at h;obtain⟨⟨⟨a,b⟩,n0⟩,n1⟩:=h;obtain⟨e1,l1,l6,hok⟩:=yF a;obtain⟨e2,c⟩:=jV b;exact⟨cz d,b0 r,e1.symm,e2.symm,rfl,rfl,l1,l6,hok,c,n0,n1⟩
theorem rA(cs:Cs)(h1:1<=es.length)(h2:es.length<=6)(h:∀e∈es,e.Ok):cx cs [aj es]=.ok (aj es):=by unfold cx;simp[BD,md h1 h2 h]
theorem kM(cs:Cs)(h2:es.length<=6)(a:bK es.length rs):bB cs [aj es,ai rs]=.ok (ai rs):=by unfold aj bB;dsimp[N8,xT,fK a,Pa,QA];rw[HL (by simp;omega)]
theorem kr(cs:Cs)(n0:0<=n)(n1:n<es.length):bh cs [aj es,.int n]=.ok (.int n):=by unfold aj bh;dsimp[gJ,QA,N8,isWhole];rw[HL (by simp;omega)]
def aU:Gf
 |[d,r,.int n]=>if okN d r n then .ok .none else .no
 |_=>.no
theorem fq(h1:1<=es.length)(h2:es.length<=6)(h:∀e∈es,e.Ok)(a:bK es.length rs)(n0:0<=n)(n1:n<es.length):aU [aj es,ai rs,.int n]=.ok .none:=by unfold aU;dsimp[D7 h1 h2 h a n0 n1,QA]
theorem rD(cs:Cs):LLq (fY cs (bh cs) (bB cs) (cx cs)) 3 0 aU:=by
 intro ds hl a;obtain⟨d,r,n,e,b⟩:=kC a;clear a;subst e;have a:=b;clear b
 .skip
  split at a
  .rename_i hc;obtain⟨es,rs,rfl,rfl,_,_,l1,l6,hok,c,n0,n1⟩:=sR hc;rw[fq l1 l6 hok c n0 n1];show bo (fY cs (bh cs) (bB cs) (cx cs) #[3,⇑n])=_;simp[fY,rA cs l1 l6 hok,kM cs l6 c,kr cs n0 n1]
  .cases a rfl
noncomputable def ff(r:J Z):PyData:=.list (r.map FC)
def cmD(z6:J (J Z)):PyData:=.list (z6.map ff)
inductive Cms:J Er->J (J Z)->Prop
 |nil:Cms [] []
 |cons {e:Er} {r:J Z} {es:J Er} {z6:J (J Z)}:qL r->hvE e r=true->Cms es z6->Cms (e::es) (r::z6)
theorem Cms.len(h:Cms es z6):z6.length=es.length:=by
 induction h with
 |nil=>rfl
 |cons _ _ _ ih=>simp[ih]
theorem Cms.zQ(h:Cms es z6):∀r∈z6,qL r:=by
 induction h with
 |nil=>intro r a;cases a
 |cons a _ _ ih =>
  intro b h';rcases NB.mp h' with rfl|h'
  .exact a
  .exact ih b h'
structure Ms(es:J Er):Prop where
 l1:1<=es.length
 l6:es.length<=6
 ok:∀e∈es,e.Ok
theorem qC(z6:J (J Z)):aY (cmD z6)=true:=by
 unfold cmD
 induction z6 with
 |nil=>rfl
 |cons a r ih =>
  have h1:=nN a;have:aY (.list (ff a::r.map ff))=(aY (ff a)&&aY (.list (r.map ff))):=by simp[aY,fN]
  rw[N2,this,ih];dsimp[Q9];exact h1
structure Jb where
 num:Z
 parts:J (Z×F1 Z)
 rank:Z
 row:J Z
 job:O
 part:O
 spent:O
variable {js:J Jb}{j:Jb}{ts:J (J'×Jb)}
def Jb.fds(j:Jb):J (Qn×L):=[("number",.int j.num),("parts",.tuple (j.parts.map aG)),("rank",.int j.rank),("row",ff j.row),("job",.int j.job),("part",.int j.part),("spent",.int j.spent)]
def Jb.d(C a:J')(j:Jb):PyData:=Ji C a j.fds
section
end
def gfG(n k:O)(G:Ds->Sr):Gf:=λds=>if ds.length=n then bo (G (ds.map Y++L' k S)) else .no
theorem l5{n k:O}{G:Ds->Sr}:∀ds,ds.length=n->gfG n k G ds≠.no->bo (G (ds.map Y++L' k S))=gfG n k G ds:=by intro ds hl _;unfold gfG;rw[HL hl]
def Jb.tool(j:Jb):F1 Int:=(j.parts[j.part]?.map (·.2)).getD S
theorem part1(p:Z×F1 Z):dIx (aG p) (.int 1)=Y (bc p.2):=rfl
def Jb.there(j:Jb)(t:Z):Bool:=match j.row[j.job]? with
 |some c=>decide (c<=t)
 |none=>false
def jD(C:J')(p:J'×Jb):PyData:=p.2.d C p.1
def Jb.held(j:Jb):F1 Int:=if j.spent=0 then S else j.tool
def Jb.wanted(j:Jb):F1 Int:=if j.spent=0 then j.tool else S
def holdsT(t:Z)(p:J'×Jb):Bool:=p.2.held==Y t
def sJ(C:J')(ts:J (J'×Jb))(tool:F1 Z):PyData:=match tool with
 |none=>.none
 |some t=>match ts.find? (holdsT t) with
  |none=>.none
  |some p=>jD C p
theorem DI(h:ts≠[]):∃p∈ts,sJ C ts p.2.wanted=.none:=by
 by_cases z:∃p∈ts,p.2.spent≠0
 .obtain⟨p,hp,a⟩:=z;refine⟨p,hp,?_⟩;unfold Jb.wanted;rw[I' a];rfl
 .have b:∀p∈ts,p.2.spent=0:=λp hp=>by
   by_cases q:p.2.spent=0
   .exact q
   .exact Qr ⟨p,hp,q⟩ z
  obtain⟨p,r,rfl⟩:=Py h;refine⟨p,N1,?_⟩;unfold sJ;cases p.2.wanted with
  |none=>rfl
  |some t =>
   have:(p::r).find? (holdsT t)=none:=by rw[OJ];intro q c;unfold holdsT Jb.held;rw[HL (b q c)];exact NL
   dsimp[this]
theorem eq_str{s t:Qn}(h1:QV (.str s)=true)(h2:QV (.str t)=true):dEq (.str s) (.str t)=Y (.bool (s==t)):=by unfold dEq;rw[h1,h2];simp[aY,Rb]
structure ko(s:Qn):Prop where
 sh:QV (.str s)=true
theorem Aw:QV (.str "high")=true:=by decide +kernel
theorem Fy:QV (.str "asked")=true:=by decide +kernel
section
end
def Jb.step1(j:Jb)(n:Z):Jb:=if (j.spent:Z)+1=n then {j with spent:=0,part:=j.part+1} else {j with spent:=j.spent+1}
def Jb.step2(j:Jb):Jb:=if j.part=j.parts.length then {j with part:=0,job:=j.job+1} else j
def Jb.len(j:Jb):Int:=(j.parts[j.part]?.map (·.1)).getD 0
def Jb.next(j:Jb):Jb:=(j.step1 j.len).step2
instance:Inhabited Jb:=⟨⟨0,[],0,[],0,0,0⟩⟩
def gR(ks:J L):Nat:=bst (λi j=>ltD (ks.getD i .none) (ks.getD j .none)) (ks.length-1)
def eZ(key:Jb->L)(js:J Jb):Jb:=js.getD (gR (js.map key)) default
def f6(js:J Jb)(tool:F1 Z):F1 Jb:=tool.bind λt=>js.find? λj=>j.held==Y t
theorem GI{tool:F1 Z}:(f6 (ts.map (·.2)) tool=S/\sJ C ts tool=.none)\/∃q∈ts,f6 (ts.map (·.2)) tool=Y q.2/\sJ C ts tool=jD C q:=by
 unfold f6 sJ;cases tool with
 |none=>exact .inl ⟨rfl,rfl⟩
 |some t =>
  have hm:(ts.map (·.2)).find? (λj=>j.held==Y t)=(ts.find? (holdsT t)).map (·.2):=by rw[J.find?_map];rfl
  dsimp[Oi,hm];cases h:ts.find? (holdsT t) with
  |none=>exact .inl ⟨rfl,rfl⟩
  |some p=>exact .inr ⟨p,Oo h,rfl,rfl⟩
def D8(js:J Jb)(l:J (Z×Z))(j:Jb):J (Z×Z):=match f6 js j.wanted with
 |none=>l
 |some o=>fe l o.num (if (a8 l o.num).getD o.rank<j.rank then (a8 l o.num).getD o.rank else j.rank)
def p7(js:J Jb):J (Z×Z):=js.foldl (D8 js) []
def dE(z7:L)(t:Z):Int:=match dIx z7 (.int t) with
 |some (.int n)=>n
 |_=>0
def eV(z7:L)(j:Jb):PyData:=match j.held with
 |none=>.tuple [.int j.rank,.int 1]
 |some t=>.tuple [.int (if dE z7 t<j.rank then dE z7 t else j.rank),.int 0]
def e9(js:J Jb)(j:Jb):Bool:=(f6 js j.wanted).isNone
def nv(l:J (Z×Z))(j:Jb):PyData:=.int ((a8 l j.num).getD j.rank)
def bZ(z7:L)(len:Qn)(js:J Jb):Jb:=if (len==("high":Qn))=true then eZ (eV z7) js else eZ (nv (if (len==("asked":Qn))=true then p7 js else [])) (js.filter (e9 js))
theorem Fp{tool:F1 Z}:fX (sJ C ts tool)=(f6 (ts.map (·.2)) tool).isNone:=by
 rcases GI (C:=C) (ts:=ts) (tool:=tool) with⟨a,e⟩|⟨q,_,a,e⟩
 .rw[e,a];rfl
 .rw[e,a];rfl
theorem wA(h:ts≠[]):ts.filter (λp=>e9 (ts.map (·.2)) p.2)≠[]:=by obtain⟨p,hp,e⟩:=DI h (C:=0);refine Q6 (a:=p) (NK.mpr ⟨hp,?_⟩);unfold e9;rw[<-Fp (C:=0),e];rfl
def Jb.done(j:Jb):Bool:=(j.job:Z)==(j.row.length:Z)
section
variable {E W:L}{len:Qn}{qs:J (J'×Jb)}{told:J L}
end
section
variable {E W:L}{len:Qn}{qs:J (J'×Jb)}{told:J L}{q:J'×Jb}{as:J J'}
end
section
variable {E W:L}{len:Qn}{qs:J (J'×Jb)}{told:J L}{q:J'×Jb}{as:J J'}
end
section
variable {E W:L}{len:Qn}{qs:J (J'×Jb)}{told:J L}
end
def aQ(told:J L)(js:J Jb):J Jb:=js.filter λj=>j.there (told.length:Z)
def cN(b:Jb)(js:J Jb):J Jb:=js.map λj=>if j.num=b.num then b.next else j
def eX(b:Jb):PyData:=.tuple [.int b.num,.int (b.job:Z)]
def cy(z7:L)(len:Qn)(s:J Jb×J L):J Jb×J L :=
 if aQ s.2 s.1=[] then (s.1,s.2++[.none]) else (cN (bZ z7 len (aQ s.2 s.1)) s.1,s.2++[eX (bZ z7 len (aQ s.2 s.1))])
section
variable {E W:L}{len:Qn}{qs:J (J'×Jb)}{told:J L}{as:J J'}
end
structure JOk(z7:L)(j:Jb):Prop where
 pt:j.part<j.parts.length
 jb:j.job<=j.row.length
 ln:∀p∈j.parts,1<=p.1
 sp:(j.spent:Z)<j.len
 tl:∀p∈j.parts,∀t,p.2=Y t->∃n:Z,dIx z7 (.int t)=⇑n
theorem JOk.held(h:JOk z7 j):∀t,j.held=Y t->∃n:Z,dIx z7 (.int t)=⇑n:=by
 intro t e;have hpt:=h.pt;have hp:j.parts[j.part]?=Y j.parts[j.part]:=My h.pt;unfold Jb.held Jb.tool at e;rw[hp]at e;by_cases z:j.spent=0
 .rw[HL z]at e;cases e
 .rw[I' z]at e;exact h.tl _ (NV h.pt) t e
theorem len_pos{z7:L}(h:∀p∈j.parts,1<=p.1)(hp:j.part<j.parts.length):1<=j.len:=by unfold Jb.len;rw[My hp];exact h _ (NV hp)
theorem HM(h:JOk z7 j)(c:j.job<j.row.length):JOk z7 j.next:=by
 have a:0<j.parts.length:=O.lt_of_le_of_lt (Ot _) h.pt;have hsp:=h.sp;unfold Jb.next Jb.step1;by_cases z:(j.spent:Z)+1=j.len
 .rw[HL z];unfold Jb.step2;by_cases y:j.part+1=j.parts.length
  .rw[HL (show ({j with spent:=0,part:=j.part+1}:Jb).part=({j with spent:=0,part:=j.part+1}:Jb).parts.length from y)];refine⟨a,c,h.ln,?_,h.tl⟩;have:=len_pos (z7:=z7) (j:={j with spent:=0,part:=0,job:=j.job+1}) h.ln a;show (0:Z)<_;exact Q7 #[1] this
  .rw[I' (show ¬ ({j with spent:=0,part:=j.part+1}:Jb).part=({j with spent:=0,part:=j.part+1}:Jb).parts.length from y)];have b:j.part+1<j.parts.length:=by have:=h.pt;omega
   refine⟨b,h.jb,h.ln,?_,h.tl⟩;have:=len_pos (z7:=z7) (j:={j with spent:=0,part:=j.part+1}) h.ln b;show (0:Z)<_;exact Q7 #[1] this
 .rw[I' z];unfold Jb.step2;rw[I' (show ¬ ({j with spent:=j.spent+1}:Jb).part=({j with spent:=j.spent+1}:Jb).parts.length from NJ h.pt)];refine⟨h.pt,h.jb,h.ln,?_,h.tl⟩;show ((j.spent+1:O):Z)<j.len;omega
theorem nk{key:Jb->L}(h:js≠[]):eZ key js∈js:=by
 have hl:0<js.length:=QK.mpr h;have hb:=gU (λi j=>ltD ((js.map key).getD i .none) ((js.map key).getD j .none)) (js.length-1);have a:gR (js.map key)<js.length:=by unfold gR;rw[N8];omega
 unfold eZ;rw[N9,My a];exact NV a
theorem fM{len:Qn}(h:js≠[]):bZ z7 len js∈js:=by
 unfold bZ;split
 .exact nk h
 .have hn:=wA (ts:=js.map λj=>((0:J'),j)) (by simpa using h);have hm:(js.map λj=>((0:J'),j)).map (·.2)=js:=by rw[NO];exact OH js
  rw[hm]at hn;have a:js.filter (e9 js)≠[]:=by
   obtain⟨p,r,e⟩:=Py hn;have hp:p∈(js.map λj=>((0:J'),j)).filter (λp=>e9 js p.2):=by rw[e];exact N1
   obtain⟨h1,h2⟩:=NK.mp hp;obtain⟨j,b,rfl⟩:=NH.mp h1;exact Q6 (NK.mpr ⟨b,h2⟩)
  exact (NK.mp (nk a)).1
theorem pA(h:j.there t=true):j.job<j.row.length:=by
 unfold Jb.there at h;by_cases z:j.job<j.row.length
 .exact z
 .rw[OD ⋯]at h;cases h
theorem qB(j:Jb):j.next.num=j.num:=by unfold Jb.next Jb.step1 Jb.step2;split <;> split <;> rfl
structure Dp(z7:L)(js:J Jb):Prop where
 ok:∀j∈js,JOk z7 j
 nd:(js.map (·.num)).Nodup
theorem Bt{b:Jb}:(cN b js).map (·.num)=js.map (·.num):=by
 unfold cN;rw[NO];refine NR λj hj=>?_
 show (if j.num=b.num then b.next else j).num=j.num;by_cases z:j.num=b.num
 .rw[HL z,qB,z]
 .rw[I' z]
theorem Bb{len:Qn}{told:J L}(h:Dp z7 js):Dp z7 (cy z7 len (js,told)).1:=by
 unfold cy;by_cases z:aQ told js=[]
 .rw[HL z];exact h
 .rw[I' z];have a:=fM (z7:=z7) (len:=len) z;obtain⟨hm,b⟩:=NK.mp a;refine⟨λj c=>?_,by rw[Bt];exact h.nd⟩;obtain⟨k,e,rfl⟩:=NH.mp c;by_cases y:k.num=(bZ z7 len (aQ told js)).num
  .dsimp[y,QA];exact HM (h.ok _ hm) (pA b)
  .dsimp[I' y];exact h.ok k e
def vn(z7:L)(len:Qn):O->J Jb×J L->F1 (J L)
 |0,_=>S
 |n+1,s=>if s.1.all Jb.done=true then Y s.2 else vn z7 len n (cy z7 len s)
theorem xo{len:Qn}{s:J Jb×J L}:(cy z7 len s).2.length=s.2.length+1:=by unfold cy;split <;> simp
section
variable {E W:L}{len:Qn}{as:J J'}
end
noncomputable def bj(ps:J (Z×F1 Z)):Int:=(ps.map (·.1)).sum
theorem d8(p:Z×F1 Z)(r:J (Z×F1 Z)):bj (p::r)=p.1+bj r:=by unfold bj;rw[N2,Oa]
def Jb.work(j:Jb):Int:=bj j.parts
def Jb.cur(j:Jb):Int:=bj (j.parts.take j.part)+j.spent
def Jb.tot(j:Jb):Int:=j.job*j.work+j.cur
theorem eE:∀{ps:J (Z×F1 Z)}{k:O}(h:k<ps.length),bj (ps.take (k+1))=bj (ps.take k)+ps[k].1
 |[],k,h=>by cases h
 |p::r,0,_=>by rw[Pj,Vu,d8];show p.1+bj []=bj []+p.1;omega
 |p::r,k+1,h=>by
  have a:k<r.length:=by simpa using h
  have b:=eE (ps:=r) (k:=k) a;rw[Pj,Pj,d8,d8,b];show p.1+(bj (r.take k)+r[k].1)=p.1+bj (r.take k)+r[k].1;omega
theorem pq(h:JOk z7 j):j.next.tot=j.tot+1:=by
 have hpt:=h.pt;have wb:j.len=j.parts[j.part].1:=by unfold Jb.len;rw[My h.pt];rfl
 have ht:=eE h.pt;unfold Jb.next Jb.step1;by_cases z:(j.spent:Z)+1=j.len
 .rw[HL z];unfold Jb.step2;by_cases y:j.part+1=j.parts.length
  .rw[HL (show ({j with spent:=0,part:=j.part+1}:Jb).part=({j with spent:=0,part:=j.part+1}:Jb).parts.length from y)];have hw:bj (j.parts.take (j.part+1))=bj j.parts:=by rw[y,UR]
   show ((j.job+1:O):Z)*bj j.parts+(bj (j.parts.take 0)+((0:O):Z))=(j.job:Z)*bj j.parts+(bj (j.parts.take j.part)+(j.spent:Z))+1;have a:bj (j.parts.take 0)=0:=rfl;have e1:((j.job+1:O):Z)*bj j.parts=(j.job:Z)*bj j.parts+bj j.parts:=by rw[Z.natCast_add,Pq];simp
   rw[a,e1];omega
  .rw[I' (show ¬ ({j with spent:=0,part:=j.part+1}:Jb).part=({j with spent:=0,part:=j.part+1}:Jb).parts.length from y)];show (j.job:Z)*bj j.parts+(bj (j.parts.take (j.part+1))+((0:O):Z))=(j.job:Z)*bj j.parts+(bj (j.parts.take j.part)+(j.spent:Z))+1;omega
 .rw[I' z];unfold Jb.step2;rw[I' (show ¬ ({j with spent:=j.spent+1}:Jb).part=({j with spent:=j.spent+1}:Jb).parts.length from NJ h.pt)];show (j.job:Z)*bj j.parts+(bj (j.parts.take j.part)+((j.spent+1:O):Z))=(j.job:Z)*bj j.parts+(bj (j.parts.take j.part)+(j.spent:Z))+1;omega
theorem oq:∀(a b:J (Z×F1 Z)),bj (a++b)=bj a+bj b
 |[],b=>by show bj b=0+bj b;omega
 |p::r,b=>by rw[P4,d8,d8,oq r b];omega
theorem iF:∀{ps:J (Z×F1 Z)},(∀p∈ps,1<=p.1)->0<=bj ps
 |[],_=>Om 0
 |p::r,h=>by
  have:=h p N1;have ih:=iF (ps:=r) λq a=>h q (N0 _ a)
  rw[d8];omega
theorem fD{ps:J (Z×F1 Z)}(h:∀p∈ps,1<=p.1)(k:O):bj (ps.take k)<=bj ps:=by
 have e:=oq (ps.take k) (ps.drop k);rw[P8]at e;have:=iF (ps:=ps.drop k) λq a=>h q (Ox a)
 omega
theorem kY(h:JOk z7 j):0<=j.cur/\j.cur<j.work:=by
 have hpt:=h.pt;have wb:j.len=j.parts[j.part].1:=by unfold Jb.len;rw[My h.pt];rfl
 have ht:=eE h.pt;have h1:=fD h.ln (j.part+1);have h2:=iF (ps:=j.parts.take j.part) λq a=>h.ln q (Oe a)
 have h3:=h.sp;unfold Jb.cur Jb.work;omega
theorem yV(h:JOk z7 j){k:O}(hj:j.job<k):j.tot<(k:Z)*j.work:=by obtain⟨c0,c1⟩:=kY h;have:=NU (a:=(j.job:Z)+1) (b:=(k:Z)) (c:=j.work) ⋯ ⋯;rw[Pq,Qk]at this;unfold Jb.tot;omega
theorem i4(j:Jb):j.next.row=j.row:=by unfold Jb.next Jb.step1 Jb.step2;split <;> split <;> rfl
theorem je(j:Jb):j.next.parts=j.parts:=by unfold Jb.next Jb.step1 Jb.step2;split <;> split <;> rfl
def Jb.left(j:Jb):Nat:=((j.row.length:Z)*j.work-j.tot).toNat
theorem sV(j:Jb):j.next.work=j.work:=by unfold Jb.work;rw[je]
theorem CS(h:JOk z7 j)(a:j.job<j.row.length):j.next.left+1=j.left:=by have h1:=pq h;have h2:=yV h a;unfold Jb.left;rw[i4,sV,h1];omega
theorem AR{b:Jb}:∀{r:J Jb},(∀k∈r,k.num≠b.num)->cN b r=r
 |[],_=>rfl
 |k::t,h=>by show (if k.num=b.num then b.next else k)::cN b t=_;rw[I' (h k N1),AR λx a=>h x (N0 _ a)]
theorem kx{b:Jb}{r:J Jb}(nd:((j::r).map (·.num)).Nodup)(a:b∈j::r):(j=b/\cN b (j::r)=b.next::r)\/(j.num≠b.num/\b∈r/\cN b (j::r)=j::cN b r):=by
 rw[N2,O7]at nd;have e:cN b (j::r)=(if j.num=b.num then b.next else j)::cN b r:=rfl;by_cases z:j.num=b.num
 .left;have c:j=b:=by
   rcases NB.mp a with h|h
   .exact h.symm
   .exact (nd.1 (NH.mpr ⟨b,h,z.symm⟩)).elim
  refine⟨c,?_⟩;rw[e,HL z,AR λk f q=>nd.1 (NH.mpr ⟨k,f,q.trans z.symm⟩)]
 .right;refine⟨z,?_,by rw[e,I' z]⟩;rcases NB.mp a with h|h
  .exact (z (by rw[h])).elim
  .exact h
theorem vJ{f:Jb->O}{b:Jb}:∀{js:J Jb},(js.map (·.num)).Nodup->b∈js->f b.next+1=f b->((cN b js).map f).sum+1=(js.map f).sum
 |[],_,a,_=>by cases a
 |j::r,nd,a,hf=>by
  rcases kx nd a with⟨g,e⟩|⟨_,c,e⟩
  .rw[e,N2,N2,Oa,Oa,g];omega
  .rw[N2,O7]at nd;have:=vJ nd.2 c hf;rw[e,N2,N2,Oa,Oa];omega
def Ae(js:J Jb):Nat:=(js.map Jb.left).sum
theorem lZ{b k:Jb}(hb:b∈js)(a:k∈cN b js):k∈js\/k=b.next:=by
 obtain⟨j,c,rfl⟩:=NH.mp a;by_cases z:j.num=b.num
 .right;exact HL z
 .left;rw[I' z];exact c
theorem gD{len:Qn}{told:J L}(z:aQ told js=[]):cy z7 len (js,told)=(js,told++[.none]):=by unfold cy;exact HL z
theorem kJ{len:Qn}{told:J L}(z:aQ told js≠[]):∃b,b∈js/\b.there (told.length:Z)=true/\cy z7 len (js,told)=(cN b js,told++[eX b]):=by obtain⟨hm,a⟩:=NK.mp (fM (z7:=z7) (len:=len) z);refine⟨_,hm,a,?_⟩;unfold cy;exact I' z
theorem zM(h:JOk z7 j)(hd:j.done=false):j.job<j.row.length:=by have:=h.jb;unfold Jb.done at hd;rw[QJ]at hd;omega
theorem qT{z7:L}{len:Qn}{B:O}:∀(n:O)(js:J Jb)(told:J L),Dp z7 js->(∀j∈js,∀c∈j.row,c<(B:Z))->Ae js+(B-told.length)<n->∃t,vn z7 len n (js,told)=Y t
 |0,_,_,_,_,hn=>by omega
 |n+1,js,told,h,hr,hn=>by
  unfold vn;by_cases z:js.all Jb.done=true
  .exact⟨told,HL z⟩
  .rw[I' (show ¬ ((js,told).1.all Jb.done=true) from z)];by_cases y:aQ told js=[]
   .rw[gD y];refine qT n js _ h hr ?_;rw[NT]at z;obtain⟨j,o⟩:=RU.mp z;obtain⟨hm,hd⟩:=Classical.not_imp.mp o;have a:=zM (h.ok j hm) (Qo.eq_false_iff.mpr hd);have hc:=hr j hm _ (NV a);have g:¬ j.there (told.length:Z)=true:=λe=>by have:j∈aQ told js:=NK.mpr ⟨hm,e⟩;rw[y]at this;cases this
    unfold Jb.there at g;rw[My a]at g;dsimp[Qm]at g;rw[NS,Ou];omega
   .obtain⟨b,l,g,e⟩:=kJ (z7:=z7) (len:=len) y;have i:=Bb (len:=len) (told:=told) h;rw[e]at i ⊢;have hs:=vJ (f:=Jb.left) h.nd l (CS (h.ok _ l) (pA g));refine qT (B:=B) n _ _ i (λk m=>?_) ?_
    .rcases lZ l m with m|rfl
     .exact hr k m
     .rw[i4];exact hr b l
    .rw[NS,Ou];unfold Ae at hn ⊢;omega
def dB(r:J Z)(t:Z):Nat:=(r.filter λc=>decide (c<=t)).length
theorem cV(a:Z)(s:J Z)(t:Z):dB (a::s) t=(if a<=t then 1 else 0)+dB s t:=by
 unfold dB;rw[Pu];by_cases z:a<=t
 .rw[HL (Ql z),HL z,NP];omega
 .rw[I' (by simpa using z),I' z];omega
theorem xc(r:J Z)(t:Z):dB r t<=r.length:=J.length_filter_le _ _
theorem rQ{t u:Z}(h:t<=u):∀r:J Z,dB r t<=dB r u
 |[]=>ND _
 |a::s=>by
  have ih:=rQ h s;rw[cV,cV];by_cases z:a<=t
  .rw[HL z,HL ⋯];omega
  .rw[I' z];omega
theorem iT{t:Z}:∀{r:J Z},(∀c∈r,t<c)->dB r t=0
 |[],_=>rfl
 |a::s,h=>by have:=h a N1;rw[cV,I' ⋯,iT λc hc=>h c (N0 _ hc)]
theorem oT{t:Z}:∀{r:J Z}{k:O}(b:k<r.length),r.Pairwise (· < ·)->t<r[k]->dB r t<=k
 |[],_,b,_,_=>by cases b
 |a::s,0,_,hp,h=>by rw[Po]at hp;have h:t<a:=h;have:=hp.1;rw[cV,I' ⋯,iT λc hc=>Z.lt_trans h (this c hc)];exact ND _
 |a::s,k+1,b,hp,h=>by
  rw[Po]at hp;have e:k<s.length:=by simpa using b
  have ih:=oT e hp.2 (show t<s[k] from h);rw[cV];split <;> omega
theorem lM{t:Z}:∀{r:J Z}{k:O}(c:k<r.length),r.Pairwise (· < ·)->r[k]<=t->k<dB r t
 |[],_,c,_,_=>by cases c
 |a::s,0,_,hp,h=>by have h:a<=t:=h;rw[cV,HL h];omega
 |a::s,k+1,c,hp,h=>by
  rw[Po]at hp;have b:k<s.length:=by simpa using c
  have h:s[k]<=t:=h;have ih:=lM b hp.2 h;have:=hp.1 _ (NV b);rw[cV,HL ⋯];omega
def fi(t:Z)(j:Jb):Int:=(dB j.row t:Z)*j.work-j.tot
structure IvJ(z7:L)(t:Z)(js:J Jb):Prop where
 ok:Dp z7 js
 srt:∀j∈js,j.row.Pairwise (· < ·)
 low:∀j∈js,0<=fi t j
theorem pJ(h:JOk z7 j)(c:j.row.Pairwise (· < ·))(b:j.there t=true):0<fi t j:=by have a:=pA b;unfold Jb.there at b;rw[My a]at b;have:=yV h (lM a c (QC b));unfold fi;omega
theorem xm(h:JOk z7 j)(f:j.row.Pairwise (· < ·))(hl:0<=fi t j)(e:j.there t=false):fi t j=0:=by
 have hc:dB j.row t<=j.job:=by
  by_cases z:j.job<j.row.length
  .unfold Jb.there at e;rw[My z]at e;have:=Ru e;exact oT z f ⋯
  .have:=xc j.row t;omega
 obtain⟨c0,c1⟩:=kY h;have:=NU (a:=(dB j.row t:Z)) (b:=(j.job:Z)) (c:=j.work) ⋯ ⋯;unfold fi Jb.tot at hl ⊢;omega
theorem yv{α:Type}(f:α->Z):∀{l:J α},(∀x∈l,0<=f x)->0<=(l.map f).sum
 |[],_=>Om 0
 |a::r,h=>by
  have h1:=h a N1;have ih:=yv f (l:=r) λx b=>h x (N0 _ b)
  rw[N2,Oa];omega
theorem Fb{α:Type}(f:α->Z){b:α}:∀{l:J α},(∀x∈l,0<=f x)->b∈l->f b<=(l.map f).sum
 |[],_,c=>by cases c
 |a::r,h,c=>by
  have h1:=h a N1;have h2:=yv f (l:=r) λx g=>h x (N0 _ g)
  rw[N2,Oa];rcases NB.mp c with e|c
  .rw[e];omega
  .have:=Fb f (λx g=>h x (N0 _ g)) c;omega
theorem km{α:Type}(f:α->Z):∀{l:J α},(∀x∈l,f x=0)->(l.map f).sum=0
 |[],_=>rfl
 |a::r,h=>by rw[N2,Oa,h a N1,km f λx b=>h x (N0 _ b)];rfl
theorem ng{u:Z}(e:t<=u)(h:JOk z7 j):fi t j<=fi u j:=by have h1:=rQ e j.row;have h2:=kY h;have:=NU (a:=(dB j.row t:Z)) (b:=(dB j.row u:Z)) (c:=j.work) ⋯ ⋯;unfold fi;omega
theorem Aq{len:Qn}{told:J L}(h:IvJ z7 (told.length:Z) js):IvJ z7 ((cy z7 len (js,told)).2.length:Z) (cy z7 len (js,told)).1:=by
 have c:=Bb (len:=len) (told:=told) h.ok;by_cases z:aQ told js=[]
 .rw[gD z]at c ⊢;refine⟨c,h.srt,λj a=>?_⟩;have:=h.low j a;have:=ng (u:=(((told++[TJ]).length:O):Z)) (t:=(told.length:Z)) (by rw[NS];omega) (h.ok.ok j a);show 0<=fi (((told++[TJ]).length:O):Z) j;omega
 .obtain⟨b,f,g,e⟩:=kJ (z7:=z7) (len:=len) z;rw[e]at c ⊢;refine⟨c,λj a=>?_,λj a=>?_⟩
  .rcases lZ f a with a|rfl
   .exact h.srt j a
   .rw[i4];exact h.srt b f
  .show 0<=fi (((told++[eX b]).length:O):Z) j;rcases lZ f a with a|rfl
   .have:=h.low j a;have:=ng (u:=(((told++[eX b]).length:O):Z)) (t:=(told.length:Z)) (by rw[NS];omega) (h.ok.ok j a);omega
   .have h2:=pJ (h.ok.ok b f) (h.srt b f) g;have i:=ng (u:=(((told++[eX b]).length:O):Z)) (t:=(told.length:Z)) (by rw[NS];omega) (h.ok.ok b f);have l:=pq (h.ok.ok b f);unfold fi at h2 i ⊢;rw[i4,sV,l];omega
theorem HK(h:JOk z7 j):j.tot / j.work=(j.job:Z):=by obtain⟨a,b⟩:=kY h;unfold Jb.tot;rw[VQ,Z.add_mul_ediv_right _ _ ⋯,P5 a b];omega
def dk(j:Jb):Z×J (Z×F1 Z)×J Int:=(j.num,j.parts,j.row)
theorem kG{b:Jb}:∀{js:J Jb},(js.map (·.num)).Nodup->b∈js->(cN b js).map dk=js.map dk
 |[],_,a=>by cases a
 |j::r,nd,a=>by
  rcases kx nd a with⟨f,e⟩|⟨_,c,e⟩
  .rw[e,N2,N2,f];unfold dk;rw[qB,je,i4]
  .rw[N2,O7]at nd;rw[e,N2,N2,kG nd.2 c]
theorem eU{d:L}(hi:i<δ.length)(a:g (mask EE δ)=.ok d):aW EE i g δ=.nx (δ.set i (Y d)):=by unfold aW;rw[HL hi,a];rfl
def mkJ(es:J Er)(rs:J Z)(k:O)(row:J Z):Jb:=⟨(k:Z),(au es (k:Z)).parts,(placeOf rs (k:Z):Z),row,0,0,0⟩
def startJ(es:J Er)(rs:J Z)(z6:J (J Z)):J Jb:=z6.mapIdx (mkJ es rs)
section
theorem mX(i:O):(startJ es rs z6)[i]?=(z6[i]?).map (mkJ es rs i):=O3
theorem dz(h:j∈startJ es rs z6):∃(k:O)(row:J Z),k<z6.length/\row∈z6/\z6[k]?=Y row/\j=mkJ es rs k row:=by obtain⟨k,b⟩:=OU.mp h;rw[mX]at b;obtain⟨row,a,e⟩:=Oq.mp b;exact⟨k,row,(NC.mp a).1,O8 a,a,e.symm⟩
theorem kK:(startJ es rs z6).length=z6.length:=Pp
theorem yj:(startJ es rs z6).map (·.num)=(M' z6.length).map λ(k:O)=>(k:Z) :=
 Pw (by simp[startJ]) (λi h1 h2=>by simp[startJ,mkJ])
theorem yQ:(startJ es rs z6).map (·.row)=z6 :=
 Pw (by simp[startJ]) (λi h1 h2=>by simp[startJ,mkJ])
theorem HA(n:O):((M' n).map λ(k:O)=>(k:Z)).Nodup:=UB _ (λa b h e=>h ⋯) UQ
theorem i8(k:O)(row:J Z):(mkJ es rs k row).tot=0:=by show ((0:O):Z)*_+(bj (J.take 0 _)+((0:O):Z))=0;rw[Vu];have:bj []=0:=rfl;rw[this];simp
end
theorem oU:∀{ps:J (Z×F1 Z)},(∀p∈ps,p.1<=20)->bj ps<=20*(ps.length:Z)
 |[],_=>Om 0
 |p::r,h=>by
  have:=h p N1;have ih:=oU (ps:=r) λq a=>h q (N0 _ a)
  rw[d8,NP];omega
theorem AD{α:Type}(f:α->O){c:O}:∀{l:J α},(∀x∈l,f x<=c)->(l.map f).sum<=l.length*c
 |[],_=>Ot _
 |a::r,h=>by
  have h1:=h a N1;have ih:=AD f (l:=r) λx b=>h x (N0 _ b)
  rw[N2,Oa,NP,O.add_mul];omega
theorem jx(t0:0<=t)(t3:t<=3)(h:aX es rs t=Y n):dIx (aJ es rs) (.int t)=⇑n:=by
 obtain⟨m,rfl⟩:∃m:O,t=(m:Z):=⟨t.toNat,⋯⟩
 show atI ((M' 4).map λ(t:O)=>bc (aX es rs t)) (m:Z)=_;refine kD ?_;rw[NA,OB ⋯,Oh,h];rfl
structure Ran(es:J Er)(rs:J Z)(z6:J (J Z))(len:Qn):Prop where
 eok:Ms es
 rok:bK es.length rs
 ln:z6.length=es.length
 le:ko len
def xS(es:J Er)(rs:J Z)(z6:J (J Z))(len:Qn):F1 (J L):=vn (aJ es rs) len 1000000 (startJ es rs z6,[])
section
variable {len:Qn}{t:J L}
theorem pP(h:Ms es)(e:bK es.length rs)(hl:z6.length=es.length):Dp (aJ es rs) (startJ es rs z6):=by
 refine⟨λj f=>?_,by rw[yj];exact HA _⟩;obtain⟨k,row,hk,_,_,rfl⟩:=dz f;have b:(0:Z)<=(k:Z):=⋯
 have h1:(k:Z)<es.length:=⋯
 have ok:=h.ok _ (bG b h1);have a:0<(au es (k:Z)).parts.length:=QK.mpr ok.p1;refine⟨a,Ot _,λp hp=>(ok.pl p hp).1,?_,λp hp u c=>?_⟩
 .have:=len_pos (z7:=.none) (j:=mkJ es rs k row) (λp hp=>(ok.pl p hp).1) a;show (0:Z)<_;exact Q7 #[1] this
 .obtain⟨g,i⟩:=(ok.pl p hp).2.2 u c;have l:(au es (k:Z)).has u=true:=by unfold Er.has;rw[Oz];exact⟨p,hp,by rw[c];exact QF _⟩
  obtain⟨n,hn⟩:=pH es u rs 0 (k:Z) (e.mem b h1) l;exact⟨n,jx g i hn⟩
theorem DV(R:Ran es rs z6 len)(C:Cms es z6):∃t,xS es rs z6 len=Y t:=by
 have a:=C.zQ;refine qT (B:=10000) 1000000 _ [] (pP R.eok R.rok R.ln) (λj b c hc=>?_) ?_
 .obtain⟨k,row,_,hm,_,rfl⟩:=dz b;have:=(a row hm).hi c hc;omega
 .have e:Ae (startJ es rs z6)<=(startJ es rs z6).length*4800:=AD Jb.left λj b=>by
   obtain⟨k,row,hk,hm,_,rfl⟩:=dz b;have ok:=R.eok.ok _ (bG (n:=(k:Z)) ⋯ (by have:=R.ln;omega));have h1:=oU λp hp=>(ok.pl p hp).2.1
   have h2:=ok.p2;have h3:=(a row hm).few;have f:=iF λp hp=>(ok.pl p hp).1
   unfold Jb.left;rw[i8];have h5:((mkJ es rs k row).row.length:Z)*(mkJ es rs k row).work<=60*80:=Z.mul_le_mul (by show (row.length:Z)<=60;omega) (by show bj (au es (k:Z)).parts<=80;omega) f #[1];omega
  rw[kK]at e;have h6:=R.eok.l6;have h7:=R.ln;show Ae (startJ es rs z6)+(10000-0)<1000000;have h8:z6.length*4800<=6*4800:=O.mul_le_mul_right _ ⋯;omega
end
section
variable {len:Qn}{t:J L}
end
end RS
variable {j:RS.Jb}{js ks ts:J RS.Jb}
namespace L2
open PySem PySem.Spec PyProof.Rows
end L2
namespace RS
open PySem L2
variable {p B:O}{h:Z}
theorem pe:∀a b:J Z,RN (a.map FC) (b.map FC)=decide (a=b)
 |[],[]=>by simp[RN]
 |[],_::_=>by simp[RN]
 |_::_,[]=>by simp[RN]
 |x::a,y::b=>by
  have h:(x==y)=decide (x=y):=by by_cases z:x=y <;> simp[z]
  simp[RN,Rb,pe a b,h]
theorem Hs(a b:J Z):dEq (.list (a.map FC)) (.list (b.map FC))=Y (.bool (decide (a=b))):=by unfold dEq;rw[ju (gM a),ju (gM b),shaped_ints,shaped_ints];simp[Rb,pe]
theorem Hj(a b:J Z):dNe (.list (a.map FC)) (.list (b.map FC))=Y (.bool (!decide (a=b))):=by unfold dNe;rw[ju (gM a),ju (gM b),shaped_ints,shaped_ints];simp[Rb,pe]
theorem Fs(a:J Z):dEq (.list (a.map FC)) (.list [])=Y (.bool (decide (a=[]))):=Hs a []
theorem rN{f b:Z}(hl:b<f)(i:0<=b):∀(row:J Z)(m:Z),hvM f b m row=true->(∀c∈row,m<=c)/\row.Pairwise (· < ·)
 |[],_,_=>⟨λc hc=>(by cases hc),Uw⟩
 |a::r,m,h=>by
  unfold hvM at h;by_cases z:a<(if a-b>m then a-b else m)
  .rw[HL z]at h;cases h
  .rw[I' z]at h;obtain⟨h1,h2⟩:=rN hl i r _ h;have hm:m<=a:=by split at z <;> omega
   have g:∀c∈r,a<c:=λc hc=>by have:=h1 c hc;split at this <;> omega
   refine⟨λc hc=>?_,Po.mpr ⟨g,h2⟩⟩;rcases NB.mp hc with e|hc
   .rw[e];exact hm
   .have:=g c hc;omega
theorem FT{d:L}(hi:i<δ.length)(a:g δ=.ok d)(hn:dM d=true):pT i g δ=.nx (δ.set i (Y d)):=by unfold pT;rw[HL hi,a,av,HL hn]
section
variable {D' A:L}{x5 vx z4:Z}{made:J Z}
end
section
variable {D' A:L}{x5 vx z4:Z}{made:J Z}
end
theorem gK{xs:J α}{k:O}{v:α}(h:xs[k]?=Y v):atI xs (k:Z)=Y v:=ue (PJ k) (by rw[O2];exact h)
def lE(js:J Jb):PyData:=cmD (js.map (·.row))
structure Sx(js:J Jb):Prop where
 num:∀(i:O)(h:i<js.length),js[i].num=(i:Z)
 row:∀j∈js,j.row.length<=1000
 wk:∀j∈js,j.work<=1000
section
variable {D' E D:L}
theorem Ac(h:i<js.length):dIx (lE js) (.int (i:Z))=Y (ff js[i].row):=gK (by rw[NA,NA,My h];rfl)
theorem a6{a b:Ds->Rs L}{x y z:L}(ha:a δ=.ok x)(c:b δ=.ok y)(e:f x y=Y z):g2 f a b δ=.ok z:=by rw[dP,ha,Rs.ag,c,Rs.ag,e];rfl
end
def i6(k:O)(l:J L):J PyData:=l.mapIdx λi d=>.tuple [.int ((k+i:O):Z),d]
theorem fP{body:Ds->Sr}{d:L}{r:J L}{δ1 a:Ds}(h1:tgt d δ=Y δ1)(h2:body δ1=.nx a):forL tgt body (d::r) δ=forL tgt body r a:=by rw[forL,h1];dsimp[h2]
theorem qb(k:O)(d:L)(r:J L):i6 k (d::r)=.tuple [.int (k:Z),d]::i6 (k+1) r:=by
 unfold i6;rw[Qi];have a:(λ(i:O)(d:L)=>RX [.int ((k+(i+1):O):Z),d])=λi d=>.tuple [.int ((k+1+i:O):Z),d]:=by funext i d;rw[show k+(i+1)=k+1+i by omega]
 rw[a];rfl
theorem BK(h:ks.map dk=js.map dk):lE ks=lE js:=by have:=congrArg (W6 λx=>x.2.2) h;rw[NO,NO]at this;exact congrArg cmD this
theorem lR(h:ks.map dk=js.map dk):ks.length=js.length:=by
 have:=congrArg W4 h
 rwa[N8,N8]at this
theorem uA(h:ks.map dk=js.map dk)(s:Sx js):Sx ks:=by
 have hl:=lR h;have hm:∀k∈ks,∃j∈js,dk j=dk k:=λk a=>by have:dk k∈ks.map dk:=NH.mpr ⟨k,a,rfl⟩;rw[h]at this;exact NH.mp this
 refine⟨λi hi=>?_,λk a=>?_,λk a=>?_⟩
 .have e:(ks.map dk)[i]?=(js.map dk)[i]?:=by rw[h]
  rw[NA,NA,My hi,My (hl▸hi)]at e;have e2:dk ks[i]=dk (js[i]'(hl▸hi)):=N4 e;have:=congrArg (·.1) e2;exact this.trans (s.num i (hl▸hi))
 .obtain⟨j,b,e⟩:=hm k a;have e2:j.row=k.row:=congrArg (·.2.2) e;rw[<-e2];exact s.row j b
 .obtain⟨j,b,e⟩:=hm k a;have e2:j.parts=k.parts:=congrArg (·.2.1) e;have:=s.wk j b;unfold Jb.work at this ⊢;rw[<-e2];exact this
theorem vq{lt:O->O->Qo}(a:∀i,lt i i=false)(b:∀i j k,lt i j=true->lt j k=true->lt i k=true):∀(n i:O),i<=n->lt i (bst lt n)=false
 |0,i,h=>by
  have:i=0:=⋯
  rw[this];exact a 0
 |n+1,i,h=>by
  unfold bst;cases q:lt (n+1) (bst lt n) with
  |true =>
   rw[HL rfl];by_cases z:i=n+1
   .rw[z];exact a _
   .have c:=vq a b n i ⋯;cases y:lt i (n+1) with
    |false=>rfl
    |true=>rw[b _ _ _ y q]at c;cases c
  |false =>
   rw[I' NL];by_cases z:i=n+1
   .rw[z];exact q
   .exact vq a b n i ⋯
theorem J0(d:L):ltD d d=false:=by
 have h:∀l:J Z,HT.lexLt l l=false:=λl=>by
  induction l with
  |nil=>rfl
  |cons a r ih=>show (if a=a then HT.lexLt r r else _)=false;rw[HL rfl,ih]
 unfold ltD;split
 .rename_i e1 e2;rw[e1]at e2;cases e2;exact h _
 .rfl
theorem E9:∀a b c:J Z,HT.lexLt a b=true->HT.lexLt b c=true->HT.lexLt a c=true
 |[],[],_,h,_=>by cases h
 |[],_::_,[],_,h=>by cases h
 |[],_::_,_::_,_,_=>rfl
 |_::_,[],_,h,_=>by cases h
 |_::_,_::_,[],_,h=>by cases h
 |x::a,y::b,z::c,h1,h2=>by
  have h1:(if x=y then HT.lexLt a b else decide (x<y))=true:=h1;have h2:(if y=z then HT.lexLt b c else decide (y<z))=true:=h2;show (if x=z then HT.lexLt a c else decide (x<z))=true;by_cases e1:x=y
  .rw[HL e1]at h1;by_cases e2:y=z
   .rw[HL e2]at h2;rw[HL (e1.trans e2)];exact E9 a b c h1 h2
   .rw[I' e2]at h2;rw[I' (λq=>e2 (e1.symm.trans q)),e1];exact h2
  .rw[I' e1]at h1;have l1:=QC h1;by_cases e2:y=z
   .rw[I' (λq=>e1 (q.trans e2.symm)),<-e2];exact h1
   .rw[I' e2]at h2;have l2:=QC h2;rw[I' ⋯];exact Ql ⋯
theorem Kh(a b c:L)(h1:ltD a b=true)(h2:ltD b c=true):ltD a c=true:=by
 unfold ltD at h1 h2 ⊢;cases ka:E2 a with
 |none=>rw[ka]at h1;cases h1
 |some p =>
  cases kb:E2 b with
  |none=>rw[ka,kb]at h1;cases h1
  |some q =>
   cases kc:E2 c with
   |none=>rw[kb,kc]at h2;cases h2
   |some r =>rw[ka,kb]at h1;rw[kb,kc]at h2;exact E9 _ _ _ h1 h2
theorem tW{key:Jb->L}(c:js≠[])(e:j∈js):ltD (key j) (key (eZ key js))=false:=by
 have hl:0<js.length:=QK.mpr c;have hm:=vq (lt:=λi j=>ltD ((js.map key).getD i .none) ((js.map key).getD j .none)) (λi=>J0 _) (λi j k=>Kh _ _ _) (js.length-1);have hb:=gU (λi j=>ltD ((js.map key).getD i .none) ((js.map key).getD j .none)) (js.length-1);obtain⟨i,hi,rfl⟩:=Od e;have h1:=hm i ⋯;have b:gR (js.map key)=bst (λi j=>ltD ((js.map key).getD i .none) ((js.map key).getD j .none)) (js.length-1):=by unfold gR;rw[N8]
 have a:gR (js.map key)<js.length:=by rw[b];omega
 have e1:(js.map key).getD i .none=key js[i]:=by rw[N9,NA,My hi];rfl
 have e2:(js.map key).getD (gR (js.map key)) .none=key (eZ key js):=by unfold eZ;rw[N9,NA,My a,N9,My a];rfl
 rw[<-b]at h1;rw[e1,e2]at h1;exact h1
theorem As(a b c d:Z):ltD (.tuple [.int a,.int b]) (.tuple [.int c,.int d])=if a=c then (if b=d then false else decide (b<d)) else decide (a<c):=rfl
theorem vL(h:js≠[]):js.filter (e9 js)≠[]:=by
 have hn:=wA (ts:=js.map λj=>((0:J'),j)) (by simpa using h);have hm:(js.map λj=>((0:J'),j)).map (·.2)=js:=by rw[NO];exact OH js
 rw[hm]at hn;obtain⟨p,r,e⟩:=Py hn;have hp:p∈(js.map λj=>((0:J'),j)).filter (λp=>e9 js p.2):=by rw[e];exact N1
 obtain⟨h1,h2⟩:=NK.mp hp;obtain⟨j,a,rfl⟩:=NH.mp h1;exact Q6 (NK.mpr ⟨a,h2⟩)
theorem tI(h:j.held=Y T):eV z7 j=.tuple [.int (if dE z7 T<j.rank then dE z7 T else j.rank),.int 0]:=by unfold eV;rw[h]
theorem tJ(h:j.held=S):eV z7 j=.tuple [.int j.rank,.int 1]:=by unfold eV;rw[h]
theorem Cz{len:Qn}(g:ts≠[])(c:(bZ z7 len ts).spent=0)(e:(bZ z7 len ts).tool=Y T)(a:dE z7 T<=(bZ z7 len ts).rank):∀j∈ts,j.held≠Y T:=by
 intro j h i;unfold bZ at c e a;split at c
 .rename_i z;rw[HL z]at e a;have hm:=tW (key:=eV z7) g h;have l:(eZ (eV z7) ts).held=none:=by unfold Jb.held;rw[HL c]
  rw[tI i,tJ l,As]at hm;generalize (eZ (eV z7) ts).rank=r at *;generalize dE z7 T=u at *;by_cases q:(if u<j.rank then u else j.rank)=r
  .rw[HL q]at hm;revert hm;decide
  .rw[I' q]at hm;have:=Ru hm;split at this <;> split at q <;> omega
 .rename_i z;rw[I' z]at e;have f:=(NK.mp (nk (key:=nv (if (len==("asked":Qn))=true then p7 ts else [])) (vL g))).2;generalize eZ (nv (if (len==("asked":Qn))=true then p7 ts else [])) (ts.filter (e9 ts))=b at *;have hw:b.wanted=Y T:=by unfold Jb.wanted;rw[HL c,e]
  unfold e9 f6 at f;rw[hw]at f;have hn:ts.find? (λk=>k.held==Y T)=none:=F1.isNone_iff_eq_none.mp f;have:=OJ.mp hn j h;rw[i]at this;exact this (QF _)
theorem oh(iv:IvJ z7 t js)(e:j∈js)(hs:j.spent≠0):j.there t=true:=by
 cases ht:j.there t with
 |true=>rfl
 |false =>
  have h:=iv.ok.ok j e;have hl:=iv.low j e;have hc:dB j.row t<=j.job:=by
   by_cases z:j.job<j.row.length
   .unfold Jb.there at ht;rw[My z]at ht;have:=Ru ht;exact oT z (iv.srt j e) ⋯
   .have:=xc j.row t;omega
  obtain⟨c0,c1⟩:=kY h;have:=NU (a:=(dB j.row t:Z)) (b:=(j.job:Z)) (c:=j.work) ⋯ ⋯;have h2:=iF (ps:=j.parts.take j.part) λq f=>h.ln q (Oe f)
  unfold fi Jb.tot Jb.cur at hl;omega
theorem nq(h:JOk z7 j)(e:j.next.held=Y T):j.tool=Y T:=by
 unfold Jb.next Jb.step1 at e;by_cases z:(j.spent:Z)+1=j.len
 .rw[HL z]at e;unfold Jb.step2 at e;split at e
  .unfold Jb.held at e;rw[HL rfl]at e;cases e
  .unfold Jb.held at e;rw[HL rfl]at e;cases e
 .rw[I' z]at e;unfold Jb.step2 at e;rw[I' (show ¬ ({j with spent:=j.spent+1}:Jb).part=({j with spent:=j.spent+1}:Jb).parts.length from NJ h.pt)]at e;unfold Jb.held at e;rw[I' (show ¬ ({j with spent:=j.spent+1}:Jb).spent=0 from O.succ_ne_zero _)]at e;exact e
theorem ja(h:j.held=Y T):j.tool=Y T/\j.spent≠0:=by
 unfold Jb.held at h;by_cases z:j.spent=0
 .rw[HL z]at h;cases h
 .rw[I' z]at h;exact⟨h,z⟩
theorem kI(j:Jb):j.next.rank=j.rank:=by unfold Jb.next Jb.step1 Jb.step2;split <;> split <;> rfl
structure HvJ(z7:L)(js:J Jb):Prop where
 one:∀i∈js,∀j∈js,∀T,i.held=Y T->j.held=Y T->i.num=j.num
 top:∀j∈js,∀p∈j.parts,∀T,p.2=Y T->dE z7 T<=j.rank
theorem ku{b k:Jb}(a:k∈cN b js):(k∈js/\k.num≠b.num)\/k=b.next:=by
 obtain⟨j,c,rfl⟩:=NH.mp a;by_cases z:j.num=b.num
 .right;exact HL z
 .left;rw[I' z];exact⟨c,z⟩
theorem tU(h:JOk z7 j)(b:j.tool=Y T):∃p∈j.parts,p.2=Y T:=by have a:=h.pt;unfold Jb.tool at b;rw[My a]at b;exact⟨_,NV a,b⟩
theorem B0{len:Qn}{told:J L}(iv:IvJ z7 (told.length:Z) js)(hv:HvJ z7 js)(z:aQ told js≠[])(a:(bZ z7 len (aQ told js)).tool=Y T):∀j∈js,j.held=Y T->j.num=(bZ z7 len (aQ told js)).num:=by
 obtain⟨hm,hth⟩:=NK.mp (fM (z7:=z7) (len:=len) z);intro j b c;obtain⟨h1,h2⟩:=ja c;by_cases y:(bZ z7 len (aQ told js)).spent=0
 .obtain⟨p,hp,e⟩:=tU (iv.ok.ok _ hm) a;exact (Cz z y a (hv.top _ hm p hp T e) j (NK.mpr ⟨b,oh iv b h2⟩) c).elim
 .exact hv.one j b _ hm T c (by unfold Jb.held;rw[I' y];exact a)
theorem z0{len:Qn}{told:J L}(iv:IvJ z7 (told.length:Z) js)(hv:HvJ z7 js):HvJ z7 (cy z7 len (js,told)).1:=by
 by_cases z:aQ told js=[]
 .rw[gD z];exact hv
 .have e:cy z7 len (js,told)=(cN (bZ z7 len (aQ told js)) js,told++[eX (bZ z7 len (aQ told js))]):=by unfold cy;exact I' z
  have hm:bZ z7 len (aQ told js)∈js:=(NK.mp (fM (z7:=z7) (len:=len) z)).1;have a:=λT g=>B0 (len:=len) (T:=T) iv hv z g
  rw[e];generalize bZ z7 len (aQ told js)=b at *;refine⟨λi hi j c T h1 h2=>?_,λj c p hp T e=>?_⟩
  .rcases ku hi with⟨hi,h⟩|rfl
   .rcases ku c with⟨c,f⟩|rfl
    .exact hv.one i hi j c T h1 h2
    .exact (h (a T (nq (iv.ok.ok b hm) h2) i hi h1)).elim
   .rcases ku c with⟨c,f⟩|rfl
    .exact (f (a T (nq (iv.ok.ok b hm) h1) j c h2)).elim
    .rfl
  .rcases lZ hm c with c|rfl
   .exact hv.top j c p hp T e
   .rw[je]at hp;rw[kI];exact hv.top b hm p hp T e
def lawAt:J (Z×F1 Z)->O->Z->O×F1 Z×Z
 |[],k,_=>(k,S,0)
 |p::r,k,s=>if s<p.1 then (k,p.2,s) else lawAt r (k+1) (s-p.1)
theorem lawAt_in:∀{ps:J (Z×F1 Z)}{k:O}(k0:O)(h:k<ps.length){s:Z},(∀p∈ps,1<=p.1)->0<=s->s<ps[k].1->lawAt ps k0 (bj (ps.take k)+s)=(k0+k,ps[k].2,s)
 |[],_,_,h,_,_,_,_=>by cases h
 |p::r,0,k0,_,s,hp,h0,h1=>by
  have h1:s<p.1:=h1;show (if bj []+s<p.1 then (k0,p.2,bj []+s) else _)=_;have e:bj []+s=s:=by show 0+s=s;omega
  rw[e,HL h1];rfl
 |p::r,k+1,k0,h,s,hp,h0,h1=>by
  have b:k<r.length:=by simpa using h
  have h1:s<r[k].1:=h1;have hnn:=iF (ps:=r.take k) λq a=>hp q (N0 _ (Oe a))
  have c:=lawAt_in (k0+1) b (λq a=>hp q (N0 _ a)) h0 h1;have e:bj ((p::r).take (k+1))=p.1+bj (r.take k):=by rw[Pj,d8]
  show (if bj ((p::r).take (k+1))+s<p.1 then _ else lawAt r (k0+1) (bj ((p::r).take (k+1))+s-p.1))=_;rw[e,I' ⋯,show p.1+bj (r.take k)+s-p.1=bj (r.take k)+s by omega,c];show (k0+1+k,r[k].2,s)=(k0+(k+1),r[k].2,s)
  rw[show k0+1+k=k0+(k+1) by omega]
theorem lawAt_end:∀{ps:J (Z×F1 Z)}(k0:O),(∀p∈ps,1<=p.1)->lawAt ps k0 (bj ps)=(k0+ps.length,S,0)
 |[],k0,_=>rfl
 |p::r,k0,hp=>by
  have hnn:=iF (ps:=r) λq a=>hp q (N0 _ a)
  show (if bj (p::r)<p.1 then _ else lawAt r (k0+1) (bj (p::r)-p.1))=_;rw[d8,I' ⋯,show p.1+bj r-p.1=bj r by omega,lawAt_end (k0+1) λq a=>hp q (N0 _ a),NP,show k0+1+r.length=k0+(r.length+1) by omega]
section
theorem Li(h:JOk z7 j):lawAt j.parts 0 j.cur=(j.part,j.tool,(j.spent:Z)):=by
 have a:=h.pt;have wb:j.len=j.parts[j.part].1:=by unfold Jb.len;rw[My a];rfl
 have b:j.tool=j.parts[j.part].2:=by unfold Jb.tool;rw[My a];rfl
 have hsp:=h.sp;have:=lawAt_in 0 a (s:=(j.spent:Z)) h.ln ⋯ ⋯;unfold Jb.cur;rw[this,b,Ob]
end
theorem cG{f:Gf}{a:Ds->Rs (J L)}{d:L}(ha:a δ=.ok ds)(b:f ds=.ok d):ao f a δ=.ok d:=by rw[bQ,ha,Rs.ag,b]
theorem aN{a b:Ds->Sr}{c:Ds}(h:a δ=.nx c):az a b δ=b c:=by rw[bg,h]
theorem lr{body:Ds->Sr}(h:src (mask EE δ)=.ok ds):dN EE src tgt body δ=forL tgt body ds δ:=by rw[iJ,h,av]
theorem mI{g:Ds->Rs (J L)}(hi:i<δ.length)(a:g (mask EE δ)=.ok ds):dh EE i g δ=.nx (δ.set i ↥ds):=by unfold dh;rw[HL hi,a,av]
theorem Cms.sorted(h:Cms es z6)(ok:∀e∈es,e.Ok):∀r∈z6,r.Pairwise (· < ·):=by
 induction h with
 |nil=>intro r a;cases a
 |cons a hv _ ih =>
  intro b h';rcases NB.mp h' with rfl|h'
  .have o:=ok _ N1;exact (rN o.l3 o.l1 _ _ hv).2
  .exact ih (λe c=>ok e (N0 _ c)) b h'
section
variable {len:Qn}
theorem p8(h:i<(startJ es rs z6).length):∃row,(startJ es rs z6)[i]=mkJ es rs i row:=by
 have e:=mX (es:=es) (rs:=rs) (z6:=z6) i;rw[My h]at e;cases q:z6[i]? with
 |none=>rw[q]at e;cases e
 |some row=>rw[q]at e;exact⟨row,N4 e⟩
theorem wQ(R:Ran es rs z6 len)(C:Cms es z6):IvJ (aJ es rs) ((([]:J L).length:O):Z) (startJ es rs z6):=by
 refine⟨pP R.eok R.rok R.ln,λj a=>?_,λj a=>?_⟩
 .obtain⟨k,row,_,hm,_,rfl⟩:=dz a;exact C.sorted R.eok.ok row hm
 .have hw:=kY ((pP R.eok R.rok R.ln).ok j a);obtain⟨k,row,_,hm,_,rfl⟩:=dz a;unfold fi;rw[i8];have:=Q4 (PJ (dB (mkJ es rs k row).row ((([]:J L).length:O):Z))) (show 0<=(mkJ es rs k row).work by omega);omega
theorem xx(R:Ran es rs z6 len)(C:Cms es z6):Sx (startJ es rs z6):=by
 refine⟨λi hi=>?_,λj a=>?_,λj a=>?_⟩
 .obtain⟨row,e⟩:=p8 hi;rw[e];rfl
 .obtain⟨k,row,_,hm,_,rfl⟩:=dz a;have:=(C.zQ row hm).few;show row.length<=1000;omega
 .obtain⟨k,row,hk,hm,_,rfl⟩:=dz a;have ok:=R.eok.ok _ (bG (n:=(k:Z)) ⋯ (by have:=R.ln;omega));have h1:=oU λp hp=>(ok.pl p hp).2.1
  have h2:=ok.p2;show bj (au es (k:Z)).parts<=1000;omega
end
structure Er.Wk(e:Er):Prop where
 sh:e.Sh
 e2:e.every<=60
 l1:0<=e.late
 p2:e.parts.length<=4
 pl:∀p∈e.parts,1<=p.1/\p.1<=1000000
 p1:e.parts≠[]
theorem Er.Ok.wk(h:e.Ok):e.Wk:=⟨h.sh,h.e2,h.l1,h.p2,λp hp=>by have:=h.pl p hp;exact⟨this.1,⋯⟩,h.p1⟩
theorem Er.Wk.work1(h:e.Wk):1<=e.work:=by obtain⟨p,hp⟩:=J.exists_mem_of_ne_nil _ h.p1;have h1:=h.sh.part_le hp;have h2:=(h.pl p hp).1;omega
def wkB(e:Er):Bool:=decide (e.every<=60)&&decide (0<=e.late)&&decide (e.parts.length<=4)&&e.parts.all (λp=>decide (1<=p.1))&&decide (e.parts≠[])
theorem Lk(h:e.Wk):wkB e=true:=by unfold wkB;dsimp[NG,Qm,NT];exact⟨⟨⟨⟨h.e2,h.l1⟩,h.p2⟩,λp hp=>(h.pl p hp).1⟩,h.p1⟩
theorem K3(h:wkB e=true)(g:e.Sh):e.Wk:=by unfold wkB at h;dsimp[NG,Qm,NT]at h;obtain⟨⟨⟨⟨a,b⟩,c⟩,d⟩,f⟩:=h;exact⟨g,a,b,c,λp hp=>⟨d p hp,(g.pl p hp).2.1⟩,f⟩
def wa(d:L):Bool:=nU d&&decide (1<=(cz d).length)&&decide ((cz d).length<=6)&&(cz d).all wkB
theorem Dm(h1:1<=es.length)(h2:es.length<=6)(h:∀e∈es,e.Wk):wa (aj es)=true:=by unfold wa;rw[mx ⋯ λe a=>(h e a).sh,fE];dsimp[NG,Qm,NT];exact⟨⟨⟨trivial,h1⟩,h2⟩,λe a=>Lk (h e a)⟩
theorem JY{d:L}(h:wa d=true):aj (cz d)=d/\1<=(cz d).length/\(cz d).length<=6/\∀e∈cz d,e.Wk:=by unfold wa at h;dsimp[NG,Qm,NT]at h;obtain⟨⟨⟨a,b⟩,c⟩,f⟩:=h;obtain⟨e1,_,i⟩:=uj a;exact⟨e1,b,c,λe g=>K3 (f e g) (i e g)⟩
def okW(d r:L)(n:Z):Bool:=wa d&&c9 (cz d).length r&&decide (0<=n)&&decide (n<(cz d).length)
theorem mF(h1:1<=es.length)(h2:es.length<=6)(h:∀e∈es,e.Wk)(a:bK es.length rs)(n0:0<=n)(n1:n<es.length):okW (aj es) (ai rs) n=true:=by unfold okW;rw[Dm h1 h2 h,fE,fK a];dsimp[NG,Qm];exact⟨⟨⟨trivial,trivial⟩,n0⟩,n1⟩
theorem gE{d r:L}(h:okW d r n=true):∃es rs,d=aj es/\r=ai rs/\cz d=es/\b0 r=rs/\1<=es.length/\es.length<=6/\(∀e∈es,e.Wk)/\bK es.length rs/\0<=n/\n<es.length:=by unfold okW at h;dsimp[NG,Qm]at h;obtain⟨⟨⟨a,b⟩,n0⟩,n1⟩:=h;obtain⟨e1,l1,l6,hok⟩:=JY a;obtain⟨e2,c⟩:=jV b;exact⟨cz d,b0 r,e1.symm,e2.symm,rfl,rfl,l1,l6,hok,c,n0,n1⟩
theorem E4{ev la:Z}(b:0<ev){t:Z}:∀{row:J Z}{m:Z},hvM ev la m row=true->dB row t=0\/((dB row t:Z)-1)*ev<=t-m
 |[],m,_=>.inl rfl
 |c::r,m,h=>by
  unfold hvM at h;have hm:m<=(if c-la>m then c-la else m):=by split <;> omega
  generalize (if c-la>m then c-la else m)=mo at h hm;split at h
  .cases h
  .rename_i hc;rw[cV];have a:=E4 b (t:=t) h;by_cases hct:c<=t
   .rw[HL hct];right;rcases a with a|a
    .rw[a];show (1-1)*ev<=t-m;rw[show (1:Z)-1=0 from rfl,Z.zero_mul];omega
    .rw[show ((1+dB r t:O):Z)-1=(dB r t:Z)-1+1 by omega,Pq,Qk];omega
   .rw[I' hct,Ob];rcases a with a|a
    .exact .inl a
    .right;omega
theorem FA{ev la:Z}(f:0<ev)(hl:0<=la){u t:Z}(g:u<t):∀{row:J Z}{m:Z},hvM ev la m row=true->row.Pairwise (· < ·)->(dB row t:Z)-dB row u<=(t-u-1+la) / ev+1
 |[],m,_,_=>by have:=Pl (a:=t-u-1+la) (b:=ev) ⋯ ⋯;show ((0:O):Z)-((0:O):Z)<=_;omega
 |c::r,m,h,hs=>by
  obtain⟨e,i⟩:=Po.mp hs;unfold hvM at h;have hm:c-la<=(if c-la>m then c-la else m):=by split <;> omega
  generalize (if c-la>m then c-la else m)=mo at h hm;split at h
  .cases h
  .rename_i hc;rw[cV,cV];by_cases hcu:c<=u
   .rw[HL hcu,HL ⋯];have ih:=FA f hl g h i;omega
   .rw[I' hcu];have z:dB r u=0:=iT λx j=>by have:=e x j;omega
    rw[z];have nn:=Pl (a:=t-u-1+la) (b:=ev) ⋯ ⋯;by_cases hct:c<=t
    .rw[HL hct];rcases E4 f (t:=t) h with q|q
     .rw[q];omega
     .have:(dB r t:Z)<=(t-u-1+la) / ev:=by refine Z.le_ediv_of_mul_le f ?_;rw[W7,Qk]at q;omega
      omega
    .rw[I' hct];have z2:dB r t=0:=iT λx j=>by have:=e x j;omega
     rw[z2];omega
def stJ(z7:L)(len:Qn)(js:J Jb):O->J Jb×J L
 |0=>(js,[])
 |i+1=>cy z7 len (stJ z7 len js i)
section
variable {len:Qn}
theorem fA:∀i,(stJ z7 len js i).2.length=i
 |0=>rfl
 |i+1=>by show (cy z7 len _).2.length=_;rw[xo,fA i]
theorem pz{b:Jb}:∀{js:J Jb},(js.map (·.num)).Nodup->b∈js->(cN b js).map (·.rank)=js.map (·.rank)
 |[],_,a=>(nomatch a)
 |j::r,nd,a=>by
  rcases kx nd a with⟨f,e⟩|⟨_,c,e⟩
  .rw[e,N2,N2,f,kI]
  .rw[N2,O7]at nd;rw[e,N2,N2,pz nd.2 c]
theorem uu(iv:IvJ z7 0 js)(hv:HvJ z7 js):∀i:O,IvJ z7 (i:Z) (stJ z7 len js i).1/\HvJ z7 (stJ z7 len js i).1/\(stJ z7 len js i).1.map dk=js.map dk/\(stJ z7 len js i).1.map (·.rank)=js.map (·.rank)
 |0=>⟨iv,hv,rfl,rfl⟩
 |i+1=>by
  obtain⟨h1,h2,f,g⟩:=uu iv hv i;have hl:=fA (z7:=z7) (len:=len) (js:=js) i;have h1:IvJ z7 ((stJ z7 len js i).2.length:Z) (stJ z7 len js i).1:=by rw[hl];exact h1
  have q:=Aq (len:=len) h1;have a:=z0 (len:=len) h1 h2;have e:cy z7 len ((stJ z7 len js i).1,(stJ z7 len js i).2)=stJ z7 len js (i+1):=rfl;rw[e]at q a;rw[fA]at q;refine⟨q,a,?_,?_⟩
  all_goals
   rw[<-e];by_cases z:aQ (stJ z7 len js i).2 (stJ z7 len js i).1=[]
   .rw[gD z];assumption
   .obtain⟨b,c,_,e2⟩:=kJ (z7:=z7) (len:=len) z;rw[e2]
    first|exact (kG h1.ok.nd c).trans f|exact (pz h1.ok.nd c).trans g
end
structure Trc(z7:L)(n:O)(q:O->O->Jb)(vb:O->F1 O):Prop where
 lt:∀{i m:O},vb i=Y m->m<n
 on:∀{i m},vb i=Y m->q m (i+1)=(q m i).next
 off:∀{i m},m<n->vb i≠Y m->q m (i+1)=q m i
 ok:∀{m} i,m<n->JOk z7 (q m i)
 thr:∀{i m:O},vb i=Y m->(q m i).there (i:Z)=true
 idl:∀{i m:O},vb i=S->m<n->(q m i).there (i:Z)=false
 srt:∀{m} i,m<n->(q m i).row.Pairwise (· < ·)
 low:∀{m:O}(i:O),m<n->0<=fi (i:Z) (q m i)
 spt:∀{m:O}(i:O),m<n->(q m i).spent≠0->(q m i).there (i:Z)=true
 tp:∀{m:O}(i:O){T:Z},m<n->(q m i).held=Y T->dE z7 T<=(q m i).rank
 num:∀{m:O}(i:O),m<n->(q m i).num=(m:Z)
section
variable {n:O}{q:O->O->Jb}{vb:O->F1 O}
theorem Trc.stay(R:Trc z7 n q vb)(hm:m<n):∀i,(q m i).parts=(q m 0).parts/\(q m i).row=(q m 0).row/\(q m i).rank=(q m 0).rank
 |0=>⟨rfl,rfl,rfl⟩
 |i+1=>by
  have h:=R.stay hm i;by_cases w:vb i=Y m
  .rw[R.on w,je,i4,kI];exact h
  .rw[R.off hm w];exact h
theorem Trc.tot1(R:Trc z7 n q vb)(hm:m<n):(q m (i+1)).tot=(q m i).tot+(if vb i=Y m then 1 else 0):=by
 by_cases w:vb i=Y m
 .rw[R.on w,HL w,pq (R.ok i hm)]
 .rw[R.off hm w,I' w];omega
theorem Trc.mono(R:Trc z7 n q vb)(hm:m<n){j:O}(h:i<=j):(q m i).tot<=(q m j).tot:=by
 induction h with
 |refl=>exact Om _
 |step _ ih=>rw[R.tot1 hm];split <;> omega
theorem Trc.wk(R:Trc z7 n q vb)(hm:m<n)(i:O):(q m i).work=(q m 0).work:=by unfold Jb.work;rw[(R.stay hm i).1]
theorem Trc.wpos(R:Trc z7 n q vb)(hm:m<n)(i:O):0<(q m i).work:=by have:=kY (R.ok i hm);omega
theorem Trc.job_tot(R:Trc z7 n q vb)(hm:m<n)(i:O):((q m i).job:Z)=(q m i).tot / (q m 0).work:=by rw[<-R.wk hm i];exact (HK (R.ok i hm)).symm
theorem Trc.come(R:Trc z7 n q vb)(hm:m<n)(i:O):(q m (i+1)).tot<=(dB (q m 0).row (i:Z):Z)*(q m 0).work:=by
 have h:=R.low i hm;unfold fi at h;rw[R.wk hm,(R.stay hm i).2.1]at h;rw[R.tot1 hm];split
 .rename_i w;have:=pJ (R.ok i hm) (R.srt i hm) (R.thr w);unfold fi at this;rw[R.wk hm,(R.stay hm i).2.1]at this;omega
 .omega
def Trc.Clr(q:O->O->Jb)(m i:O):Prop:=(q m i).tot=(dB (q m 0).row ((i:Z)-1):Z)*(q m 0).work
theorem Trc.not_clr(R:Trc z7 n q vb)(hm:m<n)(h:¬ Trc.Clr q m (i+1)):(q m i).there (i:Z)=true/\(q m (i+1)).tot<(dB (q m 0).row (i:Z):Z)*(q m 0).work:=by
 have h1:=R.come hm i;unfold Trc.Clr at h;rw[show ((i+1:O):Z)-1=(i:Z) by omega]at h;refine⟨?_,⋯⟩;by_cases t:(q m i).there (i:Z)=true
 .exact t
 .have t:(q m i).there (i:Z)=false:=by simpa using t
  have w:vb i≠Y m:=λw=>by rw[R.thr w]at t;cases t
  have:=xm (R.ok i hm) (R.srt i hm) (R.low i hm) t;unfold fi at this;rw[R.wk hm,(R.stay hm i).2.1]at this;rw[R.tot1 hm,I' w]at h h1;omega
theorem Trc.left(R:Trc z7 n q vb)(hm:m<n)(h:(q m i).tot<(dB (q m 0).row (i:Z):Z)*(q m 0).work):(q m i).there (i:Z)=true:=by
 by_cases t:(q m i).there (i:Z)=true
 .exact t
 .have t:(q m i).there (i:Z)=false:=by simpa using t
  have:=xm (R.ok i hm) (R.srt i hm) (R.low i hm) t;unfold fi at this;rw[R.wk hm,(R.stay hm i).2.1]at this;omega
end
def qJ(z7:L)(len:Qn)(js:J Jb)(m i:O):Jb:=(stJ z7 len js i).1.getD m default
def thA(z7:L)(len:Qn)(js:J Jb)(i:O):J Jb:=aQ (stJ z7 len js i).2 (stJ z7 len js i).1
open Classical in
def rh(z7:L)(len:Qn)(js:J Jb)(i:O):F1 Nat:=if thA z7 len js i=[] then S else Y (bZ z7 len (thA z7 len js i)).num.toNat
section
variable {len:Qn}
theorem k6(h:m<(stJ z7 len js i).1.length):qJ z7 len js m i=(stJ z7 len js i).1[m]:=by unfold qJ;rw[N9,My h];rfl
theorem uL(iv:IvJ z7 0 js)(hv:HvJ z7 js)(i:O):(stJ z7 len js i).1.length=js.length:=lR (uu iv hv i).2.2.1
theorem sf(h:j∈thA z7 len js i):j∈(stJ z7 len js i).1/\j.there (i:Z)=true:=by have:=NK.mp h;rw[fA]at this;exact this
theorem jc(iv:IvJ z7 0 js)(hv:HvJ z7 js)(sx:Sx js)(h:rh z7 len js i=Y m):m<js.length/\thA z7 len js i≠[]/\qJ z7 len js m i=bZ z7 len (thA z7 len js i):=by
 unfold rh at h;split at h
 .cases h
 .rename_i z;have hm:=(sf (fM (z7:=z7) (len:=len) z)).1;obtain⟨k,a,e⟩:=Od hm;have hn:=(uA (uu iv hv i).2.2.1 sx).num k a;rw[e]at hn;have:m=k:=by injection h with h;omega
  subst this;exact⟨by rw[<-uL iv hv i];exact a,z,by rw[k6 a,e]⟩
theorem Ag(i:O):(stJ z7 len js (i+1)).1=if thA z7 len js i=[] then (stJ z7 len js i).1 else cN (bZ z7 len (thA z7 len js i)) (stJ z7 len js i).1:=by show (cy z7 len (stJ z7 len js i)).1=_;unfold cy thA;split <;> rfl
theorem G3{T:O}(h:i<T):(stJ z7 len js T).2[i]?=Y (if thA z7 len js i=[] then .none else eX (bZ z7 len (thA z7 len js i))):=by
 induction h with
 |refl =>show (cy z7 len (stJ z7 len js i)).2[i]?=_;unfold cy thA;split <;> (show (_++[_])[i]?=_;rw[O9 (by rw[fA];omega),fA,PH];rfl)
 |step a ih =>
  rename_i T;have hl:=fA (z7:=z7) (len:=len) (js:=js) T;have:(stJ z7 len js (T+1)).2[i]?=(stJ z7 len js T).2[i]?:=by show (cy z7 len (stJ z7 len js T)).2[i]?=_;unfold cy;have a:i<T:=a;split <;> (show (_++[_])[i]?=_;rw[O6 ⋯])
  rw[this,ih]
theorem J5(iv:IvJ z7 0 js)(hv:HvJ z7 js)(sx:Sx js):Trc z7 js.length (qJ z7 len js) (rh z7 len js):=by
 have inv:=λi=>uu (len:=len) iv hv i
 have b:=λi=>uL (len:=len) iv hv i
 have mem:∀{m} i,m<js.length->qJ z7 len js m i∈(stJ z7 len js i).1:=λ{m} i h=>by
  have hm:m<(stJ z7 len js i).1.length:=by rw[b];exact h
  rw[k6 hm];exact NV hm
 have num:∀{m} i,m<js.length->(qJ z7 len js m i).num=(m:Z):=λ{m} i h=>by
  have hm:m<(stJ z7 len js i).1.length:=by rw[b];exact h
  rw[k6 hm];exact (uA (inv i).2.2.1 sx).num m hm
 have iv':∀i,IvJ z7 ((stJ z7 len js i).2.length:Z) (stJ z7 len js i).1:=λi=>by rw[fA];exact (inv i).1
 refine⟨λh=>(jc iv hv sx h).1,λ{i m} h=>?_,λ{i m} hm h=>?_,λ{m} i h=>(inv i).1.ok.ok _ (mem i h),λ{i m} h=>?_,λ{i m} h hm=>?_,λ{m} i h=>(inv i).1.srt _ (mem i h),λ{m} i h=>(inv i).1.low _ (mem i h),λ{m} i h hs=>oh (inv i).1 (mem i h) hs,λ{m} i {T} h ht=>?_,λ{m} i h=>num i h⟩
 .obtain⟨hm,z,e⟩:=jc iv hv sx h;have h1:m<(stJ z7 len js (i+1)).1.length:=by rw[b];exact hm
  have a:m<(stJ z7 len js i).1.length:=by rw[b];exact hm
  have e1:qJ z7 len js m (i+1)=(cN (bZ z7 len (thA z7 len js i)) (stJ z7 len js i).1).getD m default:=by unfold qJ;rw[Ag,I' z]
  rw[e1,<-e];unfold cN;rw[N9,NA,My a,<-k6 a];simp
 .unfold qJ;rw[Ag];split
  .rfl
  .rename_i z;have a:m<(stJ z7 len js i).1.length:=by rw[b];exact hm
   have hn:=num i hm;rw[k6 a]at hn;have hw:rh z7 len js i=Y (bZ z7 len (thA z7 len js i)).num.toNat:=by unfold rh;rw[I' z]
   have hw':=jc iv hv sx hw;have c:¬ (stJ z7 len js i).1[m].num=(bZ z7 len (thA z7 len js i)).num:=λe=>h (by rw[hw,<-e,hn];rfl)
   unfold cN;rw[N9,NA,My a,N9,My a];simp[c]
 .obtain⟨hm,z,e⟩:=jc iv hv sx h;rw[e];exact (sf (fM z)).2
 .unfold rh at h;split at h
  .rename_i z;by_cases t:(qJ z7 len js m i).there (i:Z)=true
   .have:qJ z7 len js m i∈thA z7 len js i:=NK.mpr ⟨mem i hm,by rw[fA];exact t⟩;rw[z]at this;cases this
   .simpa using t
  .cases h
 .obtain⟨h1,h2⟩:=ja ht;obtain⟨p,hp,e⟩:=tU ((inv i).1.ok.ok _ (mem i h)) h1;exact (inv i).2.1.top _ (mem i h) p hp T e
theorem F9(iv:IvJ z7 0 js)(hv:HvJ z7 js)(sx:Sx js)(h:rh z7 "high" js i=Y m)(hp:p<js.length)(t:(qJ z7 "high" js p i).there (i:Z)=true):ltD (eV z7 (qJ z7 "high" js p i)) (eV z7 (qJ z7 "high" js m i))=false:=by
 obtain⟨hm,z,e⟩:=jc iv hv sx h;have a:p<(stJ z7 "high" js i).1.length:=by rw[uL iv hv];exact hp
 have:qJ z7 "high" js p i∈thA z7 "high" js i:=NK.mpr ⟨by rw[k6 a];exact NV a,by rw[fA];exact t⟩;rw[e];have e2:bZ z7 "high" (thA z7 "high" js i)=eZ (eV z7) (thA z7 "high" js i):=by unfold bZ;exact HL #[1]
 rw[e2];exact tW z this
end
def nR(z7:L)(n:O)(q:O->O->Jb)(vb:O->F1 O):Prop:=∀{i m p:O},vb i=Y m->p<n->(q p i).there (i:Z)=true->ltD (eV z7 (q p i)) (eV z7 (q m i))=false
def hgt(z7:L)(j:Jb):Int:=match j.held with
 |some T=>if dE z7 T<j.rank then dE z7 T else j.rank
 |none=>j.rank
theorem vB{a b:Jb}(h:ltD (eV z7 a) (eV z7 b)=false):hgt z7 b<=hgt z7 a/\(hgt z7 b=hgt z7 a->b.held=S->a.held=S):=by
 have key:∀j:Jb,eV z7 j=.tuple [.int (hgt z7 j),.int (if j.held=S then 1 else 0)]:=λj=>by
  unfold hgt;cases e:j.held with
  |none=>rw[tJ e];rfl
  |some T=>rw[tI e];rfl
 rw[key,key,As]at h;by_cases e:hgt z7 a=hgt z7 b
 .rw[HL e]at h;refine⟨⋯,λ_ c=>?_⟩;rw[HL c]at h;cases ha:a.held with
  |none=>rfl
  |some T=>rw[ha]at h;simp at h
 .rw[I' e]at h;have:=Ru h;exact⟨⋯,λz=>Qr z.symm e⟩
theorem Jw(z7:L)(j:Jb):hgt z7 j<=j.rank:=by
 unfold hgt;split
 .split <;> omega
 .exact Om _
theorem qd(h:j.held=Y T)(ht:dE z7 T<=j.rank):hgt z7 j=dE z7 T:=by unfold hgt;rw[h];show (if _ then _ else _)=_;split <;> omega
theorem qE(h:j.held=S):hgt z7 j=j.rank:=by unfold hgt;rw[h]
section
variable {n:O}{q:O->O->Jb}{vb:O->F1 O}
theorem Trc.pair(R:Trc z7 n q vb)(c:nR z7 n q vb)(f:∀m,m<n->(q m 0).held=S):∀(i:O){a b:O}{D' T:Z},a<n->b<n->a≠b->(q a i).held=Y D'->(q b i).held=Y T->(q a i).rank<dE z7 T\/(q b i).rank<dE z7 D'
 |0,a,_,D',_,ha,_,_,e,_=>by rw[f a ha]at e;cases e
 |i+1,a,b,D',T,ha,hb,hab,ea,eb=>by
  have step:∀{a b:O}{D' T:Z},a<n->b<n->a≠b->vb i=Y a->(q a (i+1)).held=Y D'->(q b (i+1)).held=Y T->(q a i).spent=0->(q a (i+1)).rank<dE z7 T:=λ{a b D' T} ha hb hab w ea eb hs=>by
   have g:vb i≠Y b:=λz=>hab (by rw[w]at z;cases z;rfl)
   rw[R.off hb g]at eb;have na:(q a i).held=none:=by unfold Jb.held;rw[HL hs]
   have k:=vB (c w hb (R.spt i hb (ja eb).2));rw[qE na,qd eb (R.tp i hb eb)]at k;have:¬ (q a i).rank=dE z7 T:=λz=>by rw[k.2 z na]at eb;cases eb
   rw[(R.stay ha (i+1)).2.2,<- (R.stay ha i).2.2];omega
  have old:∀{a:O}{D':Z},a<n->(q a (i+1)).held=Y D'->¬ (vb i=Y a/\(q a i).spent=0)->(q a i).held=Y D':=λ{a D'} ha ea hn=>by
   by_cases w:vb i=Y a
   .rw[R.on w]at ea;have:=nq (R.ok i ha) ea;unfold Jb.held;rw[I' (λz=>hn ⟨w,z⟩)];exact this
   .rw[R.off ha w]at ea;exact ea
  by_cases na:vb i=Y a/\(q a i).spent=0
  .exact .inl (step ha hb hab na.1 ea eb na.2)
  .by_cases nb:vb i=Y b/\(q b i).spent=0
   .exact .inr (step hb ha (Rm hab) nb.1 eb ea nb.2)
   .have:=R.pair c f i ha hb hab (old ha ea na) (old hb eb nb);rw[(R.stay ha (i+1)).2.2,<- (R.stay ha i).2.2,(R.stay hb (i+1)).2.2,<- (R.stay hb i).2.2];exact this
theorem Trc.below(R:Trc z7 n q vb)(a:nR z7 n q vb){r:Z}(w:vb i=Y m)(hp:p<n)(t:(q p i).there (i:Z)=true)(h1:(q p i).rank<=r)(h2:r<(q m i).rank):∃T,(q m i).held=Y T/\dE z7 T<=r:=by
 have k:=(vB (a w hp t)).1;have:=Jw z7 (q p i);cases e:(q m i).held with
 |none=>rw[qE e]at k;omega
 |some T=>rw[qd e (R.tp i (R.lt w) e)]at k;exact⟨T,rfl,⋯⟩
theorem Trc.begun(R:Trc z7 n q vb)(b:nR z7 n q vb){E:O}{r:Z}(hw:∀t,B<=t->t<E->∃p,p<n/\(q p t).there (t:Z)=true/\(q p t).rank<=r)(hm:m<n)(c:r<(q m 0).rank):∀{t:O},B<=t->t<E->(q m t).spent≠0->∀u,B<=u->u<=t->(q m u).job=(q m t).job/\(q m u).part=(q m t).part/\(q m u).spent≠0/\(q m u).spent<=(q m t).spent
 |0,h1,h2,hs,u,h3,h4=>by
  have:u=0:=⋯
  subst this;exact⟨rfl,rfl,hs,ND _⟩
 |t+1,h1,h2,hs,u,h3,h4=>by
  by_cases e:u=t+1
  .subst e;exact⟨rfl,rfl,hs,ND _⟩
  .by_cases w:vb t=Y m
   .obtain⟨p,hp,tp,h⟩:=hw t ⋯ ⋯;obtain⟨T,i,_⟩:=R.below b w hp tp h (by rw[(R.stay hm t).2.2];exact c);have f:=(ja i).2;have g:=R.begun b hw hm c (t:=t) ⋯ ⋯ f u h3 ⋯;have nx:=R.on w;have a:(q m (t+1)).job=(q m t).job/\(q m (t+1)).part=(q m t).part/\(q m (t+1)).spent=(q m t).spent+1:=by
     rw[nx]at hs ⊢;unfold Jb.next Jb.step1 at hs ⊢;split at hs
     .exfalso;apply hs;unfold Jb.step2;split <;> rfl
     .rename_i z;rw[I' z];unfold Jb.step2;rw[I' (by have:=(R.ok t hm).pt;simp only;omega)];exact⟨rfl,rfl,rfl⟩
    exact⟨g.1.trans a.1.symm,g.2.1.trans a.2.1.symm,g.2.2.1,⋯⟩
   .have nx:=R.off hm w;rw[nx]at hs ⊢;exact R.begun b hw hm c (t:=t) ⋯ ⋯ hs u h3 ⋯
end
theorem uY{α:Type}{f g:α->Z}:∀{l:J α},(∀x∈l,f x<=g x)->(l.map f).sum<=(l.map g).sum
 |[],_=>by simp
 |x::r,h=>by
  rw[N2,N2,Oa,Oa];have:=h x N1;have:=uY (l:=r) λy a=>h y (N0 _ a)
  omega
theorem AO{α:Type}{f:α->Z}{P:α->Prop}{H:Z}(c:0<=H):∀{l:J α},l.Nodup->(∀x∈l,f x=0\/(P x/\f x<=H))->(∀x∈l,∀y∈l,P x->P y->x=y)->(l.map f).sum<=H
 |[],_,_,_=>by simpa using c
 |x::r,nd,h,u=>by
  rw[N2,Oa];have b:=O7.mp nd;rcases h x N1 with e|⟨hp,hx⟩
  .have:=AO c (l:=r) b.2 (λy a=>h y (N0 _ a)) (λy a z g=>u y (N0 _ a) z (N0 _ g));omega
  .have:(r.map f).sum=0:=km f λy a=>by
    rcases h y (N0 _ a) with e|⟨i,_⟩
    .exact e
    .have:=u x N1 y (N0 _ a) hp i;subst this;exact (b.1 a).elim
   omega
theorem ux{m:O}:∀{l:J Z},l.Nodup->(∀x∈l,0<=x)->(m:Z)∈l->(l.map λx=>if m=x.toNat then (1:Z) else 0).sum=1
 |[],_,_,h=>(nomatch h)
 |x::r,nd,hp,h=>by
  rw[N2,Oa];have a:=O7.mp nd;have hx:=hp x N1;by_cases e:m=x.toNat
  .have:(r.map λx=>if m=x.toNat then (1:Z) else 0).sum=0:=km _ λy b=>by
    rw[I'];intro z;have:=hp y (N0 _ b);have:y=x:=⋯
    subst this;exact a.1 b
   rw[HL e];omega
  .rw[I' e];have:(m:Z)∈r:=by
    rcases NB.mp h with z|z
    .exact Qr (by omega:m=x.toNat) e
    .exact z
   have:=ux a.2 (λy b=>hp y (N0 _ b)) this;omega
section
variable {n:O}{q:O->O->Jb}{vb:O->F1 O}
theorem Trc.low_one(R:Trc z7 n q vb)(a:nR z7 n q vb){r:Z}(hm:m<n)(b:r<(q m 0).rank):∀(d:O),(∀t,B<=t->t<B+d->∃p,p<n/\(q p t).there (t:Z)=true/\(q p t).rank<=r) ->
  (q m (B+d)).tot=(q m B).tot\/∃p∈(q m 0).parts,∃T,p.2=Y T/\dE z7 T<=r/\(q m (B+d)).tot-(q m B).tot<=p.1-1/\(q m B).held=Y T
 |0,_=>.inl rfl
 |d+1,hw=>by
  by_cases w:vb (B+d)=Y m
  .right;obtain⟨p,hp,tp,h⟩:=hw (B+d) ⋯ ⋯;obtain⟨T,j,l⟩:=R.below a w hp tp h (by rw[(R.stay hm _).2.2];exact b);obtain⟨e1,o⟩:=ja j;obtain⟨s,g,u,j4⟩:=R.begun a (E:=B+d+1) (λt h1 h2=>hw t h1 ⋯) hm b (t:=B+d) ⋯ ⋯ o B (ND _) ⋯;have ok:=R.ok (B+d) hm;have pt:=ok.pt;have c:(q m (B+d)).parts[(q m (B+d)).part]'pt∈(q m 0).parts:=by rw[<- (R.stay hm (B+d)).1];exact NV pt
   have hl:(q m (B+d)).len=((q m (B+d)).parts[(q m (B+d)).part]'pt).1:=by unfold Jb.len;rw[My pt];rfl
   have f:(q m (B+d)).tool=((q m (B+d)).parts[(q m (B+d)).part]'pt).2:=by unfold Jb.tool;rw[My pt];rfl
   refine⟨_,c,T,by rw[<-f];exact e1,l,?_,?_⟩
   .have h1:=R.tot1 (i:=B+d) hm;rw[HL w]at h1;have h2:(q m (B+d)).tot-(q m B).tot=((q m (B+d)).spent:Z)-(q m B).spent:=by unfold Jb.tot Jb.cur;rw[R.wk hm (B+d),R.wk hm B,(R.stay hm (B+d)).1,(R.stay hm B).1,s,g];omega
    have:=ok.sp;show (q m (B+d+1)).tot-(q m B).tot<=_;omega
   .unfold Jb.held;rw[I' u];have:(q m B).tool=(q m (B+d)).tool:=by unfold Jb.tool;rw[g,(R.stay hm B).1,(R.stay hm (B+d)).1]
    rw[this];exact e1
  .have h1:=R.tot1 (i:=B+d) hm;rw[I' w]at h1;have v:=R.low_one a hm b d λt h1 h2=>hw t h1 ⋯
   show (q m (B+d+1)).tot=_\/_;rw[h1,UC];rcases v with e|⟨p,x,T,y,z,A,C⟩
   .exact .inl e
   .exact .inr ⟨p,x,T,y,z,by show (q m (B+d+1)).tot-_<=_;rw[h1,UC];exact A,C⟩
theorem Trc.works(R:Trc z7 n q vb)(b:bK n rs):∀(d:O),(∀t,B<=t->t<B+d->vb t≠S)->(rs.map λx=>(q x.toNat (B+d)).tot-(q x.toNat B).tot).sum=(d:Z)
 |0,_=>km _ λx _=>by show (q x.toNat B).tot-(q x.toNat B).tot=0;omega
 |d+1,h=>by
  have c:=R.works b d λt h1 h2=>h t h1 ⋯
  obtain⟨m,hm⟩:=F1.ne_none_iff_exists'.mp (h (B+d) ⋯ ⋯);have hit:=ux (m:=m) b.nd (λx j=>(b.rng x j).1) (b.mem ⋯ (by have:=R.lt hm;omega));have:(rs.map λx=>(q x.toNat (B+(d+1))).tot-(q x.toNat B).tot)=rs.map λx=>((q x.toNat (B+d)).tot-(q x.toNat B).tot)+(if m=x.toNat then (1:Z) else 0):=by
   refine NR λx j=>?_
   have hx':=b.rng x j;have h1:=R.tot1 (i:=B+d) (m:=x.toNat) ⋯;show (q x.toNat (B+d+1)).tot-_=_;rw[h1,hm];by_cases e:m=x.toNat
   .rw[HL (by rw[e]),HL e];omega
   .rw[I' (by intro z;cases z;exact e rfl),I' e];omega
  rw[this];have add:∀(f g:Z->Z)(l:J Z),(l.map λx=>f x+g x).sum=(l.map f).sum+(l.map g).sum:=λf g l=>by
   induction l with
   |nil=>rfl
   |cons a r c=>dsimp[N2,Oa,c];omega
  rw[add,c,hit];omega
theorem rS(h:JOk z7 j)(hl:∀p,j.parts.getLast?=Y p->p.2=S)(hc:j.cur=j.work-1):j.held=none:=by
 have pt:=h.pt;have wb:j.len=j.parts[j.part].1:=by unfold Jb.len;rw[My pt];rfl
 have sp:=h.sp;have htk:=eE pt;have e:j.part+1=j.parts.length:=by
  by_cases z:j.part+1=j.parts.length
  .exact z
  .exfalso;have lt:j.part+1<j.parts.length:=⋯
   have h1:=eE lt;have h2:=fD h.ln (j.part+1+1);have h3:=h.ln _ (NV lt);unfold Jb.cur Jb.work at hc;omega
 have a:j.tool=none:=by unfold Jb.tool;rw[My pt];refine hl _ ?_;rw[SN,<-My pt];congr 1;omega
 unfold Jb.held;split
 .rfl
 .exact a
end
theorem Cp(a:row.Pairwise (· < ·)){k:O}(b:k<row.length):dB row (row[k]-1)=k:=by
 have h1:=oT b a (t:=row[k]-1) ⋯;by_cases z:k=0
 .omega
 .have h2:=lM (t:=row[k]-1) (k:=k-1) ⋯ a (by have:=OV.mp a (k-1) k ⋯ b ⋯;omega)
  omega
theorem qA{m:Z}(h:m∈rs.take p):placeOf rs m<p:=by have e:placeOf (rs.take p++rs.drop p) m=placeOf (rs.take p) m:=yb h;rw[P8]at e;have h1:=lq h;rw[Pr]at h1;omega
theorem sI{P:O->Prop}(a:P 0):∀c,∃B,B<=c/\P B/\∀b,B<b->b<=c->¬ P b
 |0=>⟨0,ND _,a,λb h1 h2=>by omega⟩
 |c+1=>by
  by_cases h:P (c+1)
  .exact⟨c+1,ND _,h,λb h1 h2=>by omega⟩
  .obtain⟨B,a1,f,g⟩:=sI a c;refine⟨B,⋯,f,λb h1 h2=>?_⟩;by_cases e:b=c+1
   .subst e;exact h
   .exact g b h1 ⋯
section
variable {n:O}{q:O->O->Jb}{vb:O->F1 O}
theorem Trc.passed(R:Trc z7 n q vb)(hm:m<n){v:Z}:∀(d:O),(q m B).tot<v->v<=(q m (B+d)).tot->∃t,B<=t/\t<B+d/\vb t=Y m/\(q m t).tot=v-1
 |0,h1,h2=>by rw[VR]at h2;omega
 |d+1,h1,h2=>by
  by_cases h:v<=(q m (B+d)).tot
  .obtain⟨t,a,a2,b⟩:=R.passed hm d h1 h;exact⟨t,a,⋯,b⟩
  .have:=R.tot1 (i:=B+d) hm;have h2:v<=(q m (B+d+1)).tot:=h2;by_cases w:vb (B+d)=Y m
   .rw[HL w]at this;exact⟨B+d,⋯,⋯,w,⋯⟩
   .rw[I' w]at this;omega
theorem Trc.answer(R:Trc z7 n q vb)(U:nR z7 n q vb)(W:∀m,m<n->(q m 0).tot=0)(G:∀m,m<n->(q m 0).held=S)(F:bK n rs)(rk:∀m,m<n->(q m 0).rank=(placeOf rs (m:Z):Z))(pos:∀m,m<n->∀c∈(q m 0).row,0<=c)
  {a:O} (ha:a<n) {H:Z} {Dd:O} {tm:Z->Z} (I:0<=H) (hH:∀m,m<n->placeOf rs (a:Z)<placeOf rs (m:Z)->∀p∈(q m 0).parts,∀T,p.2=Y T->dE z7 T<=(placeOf rs (a:Z):Z)->p.1-1<=H)
  (l:∀p,(q a 0).parts.getLast?=Y p->p.2=S) (C:∀m,m<n->placeOf rs (m:Z)<placeOf rs (a:Z)->∀B:O,(dB (q m 0).row ((B:Z)+Dd-1):Z)-dB (q m 0).row ((B:Z)-1)<=tm (m:Z))
  (hL:1<=Dd) (need:H+(q a 0).work+((rs.take (placeOf rs (a:Z))).map λx=>tm x*(q x.toNat 0).work).sum<=(Dd:Z)) (gap:∀k(h:k+1<(q a 0).row.length),(q a 0).row[k]+Dd<=(q a 0).row[k+1]) :
  ∀k(X:k<(q a 0).row.length),((k:Z)+1)*(q a 0).work<=(q a ((q a 0).row[k].toNat+Dd)).tot
 |k,X=>by
  have hs:=R.srt 0 ha;have c0:=pos a ha _ (NV X);have wp:=R.wpos ha 0
  -- the earlier ones are done when it comes
  have e1:(k:Z)*(q a 0).work<=(q a (q a 0).row[k].toNat).tot:=by
   by_cases z:k=0
   .subst z;have:=R.mono ha (Ot (q a 0).row[0].toNat);rw[W a ha]at this;simpa using this
   .have B':k-1<(q a 0).row.length:=⋯
    have ih:=R.answer U W G F rk pos ha I hH l C hL need gap (k-1) B';have g:=gap (k-1) ⋯;have ek:k-1+1=k:=⋯
    dsimp[ek]at g;have c1:=pos a ha _ (NV B');have m1:=R.mono ha (i:=(q a 0).row[k-1].toNat+Dd) (j:=(q a 0).row[k].toNat) ⋯;rw[show ((k-1:O):Z)+1=(k:Z) by omega]at ih;exact Q2 ih m1
  have e2:(q a (q a 0).row[k].toNat).tot<=(k:Z)*(q a 0).work:=by
   by_cases z:(q a 0).row[k].toNat=0
   .rw[z,W a ha];exact Q4 ⋯ ⋯
   .have:=R.come ha ((q a 0).row[k].toNat-1);rw[show (q a 0).row[k].toNat-1+1=(q a 0).row[k].toNat by omega,show (((q a 0).row[k].toNat-1:O):Z)=(q a 0).row[k]-1 by omega,Cp hs X]at this;exact this
  generalize hc:(q a 0).row[k].toNat=c at *;have hcI:(q a 0).row[k]=(c:Z):=⋯
  refine PL.mp λno=>?_
  -- the last time up to its coming at which nothing higher is left from before
  obtain⟨B,b1,b2,b3⟩:=sI (P:=λb=>∀m,m<n->placeOf rs (m:Z)<placeOf rs (a:Z)->Trc.Clr q m b) (λm hm _=>by unfold Trc.Clr;rw[W m hm,iT (λc hc=>by have:=pos m hm c hc;omega)];simp) c
  have up:∀t,B<=t->t<c->∃p,p<n/\(q p t).there (t:Z)=true/\(q p t).rank<(q a 0).rank:=λt h1 h2=>by have E:=b3 (t+1) ⋯ ⋯;obtain⟨m,E⟩:=RU.mp E;obtain⟨hm,E⟩:=RU.mp E;obtain⟨hp,E⟩:=RU.mp E;refine⟨m,hm,(R.not_clr hm E).1,?_⟩;rw[(R.stay hm t).2.2,rk m hm,rk a ha];omega
  have self:∀t,c<=t->t<c+Dd->(q a t).there (t:Z)=true:=λt h1 h2=>by refine R.left ha ?_;have K:=lM X hs (t:=(t:Z)) ⋯;have h4:=R.mono ha (i:=t) (j:=c+Dd) ⋯;have A2:=NU (a:=(k:Z)+1) (b:=(dB (q a 0).row (t:Z):Z)) (c:=(q a 0).work) ⋯ ⋯;omega
  have M:∀t,B<=t->t<B+Dd->∃p,p<n/\(q p t).there (t:Z)=true/\(q p t).rank<=(q a 0).rank:=λt h1 h2=>by
   by_cases z:t<c
   .obtain⟨p,f,D,x3⟩:=up t h1 z;exact⟨p,f,D,⋯⟩
   .exact⟨a,ha,self t ⋯ ⋯,by rw[(R.stay ha t).2.2];exact Om _⟩
  -- its own earlier jobs are done by then
  have own:(k:Z)*(q a 0).work<=(q a B).tot:=by
   refine PL.mp λlt=>?_
   obtain⟨t,h1,h2,w,K⟩:=R.passed ha (B:=B) (v:=(k:Z)*(q a 0).work) (c-B) lt (by rw[show B+(c-B)=c by omega];exact e1);obtain⟨p,f,D,x3⟩:=up t h1 ⋯;obtain⟨T,A4,_⟩:=R.below U w f D (Om _) (by rw[(R.stay ha t).2.2];exact x3);have ok:=R.ok t ha;have N:(q a t).cur=(q a t).work-1:=by
    have cb:=kY ok;have e:(q a t).tot=((q a t).job:Z)*(q a t).work+(q a t).cur:=rfl;rw[K,R.wk ha t]at e;rw[R.wk ha t]at cb ⊢;have hj:((q a t).job:Z)<k:=by
     refine Wd.mp λz=>?_
     have:=NU (a:=(k:Z)) (b:=((q a t).job:Z)) (c:=(q a 0).work) z ⋯;omega
    have hj2:(k:Z)<=(q a t).job+1:=by
     refine PL.mp λz=>?_
     have:=NU (a:=((q a t).job:Z)+2) (b:=(k:Z)) (c:=(q a 0).work) ⋯ ⋯;rw[Pq]at this;omega
    have:(k:Z)=(q a t).job+1:=⋯
    rw[this,Pq]at e;omega
   rw[rS ok (by rw[(R.stay ha t).1];exact l) N]at A4;cases A4
  -- all that is done from there on
  have sum:=R.works F (B:=B) Dd λt h1 h2 z=>by obtain⟨p,f,D,_⟩:=M t h1 h2;rw[R.idl z f]at D;cases D
  have EE:(a:Z)∈rs:=F.mem ⋯ ⋯;have u:=eF EE;have Q:placeOf rs (a:Z)<rs.length:=by
   refine Ue.mp λz=>?_
   rw[OD z]at u;cases u
  have split:rs=rs.take (placeOf rs (a:Z))++(a:Z)::rs.drop (placeOf rs (a:Z)+1):=by
   conv=>lhs;rw[<-P8 (placeOf rs (a:Z)) rs]
   congr 1;rw[OA Q];rw[My Q]at u;rw[N4 u]
  have s1:((rs.take (placeOf rs (a:Z))).map λx=>(q x.toNat (B+Dd)).tot-(q x.toNat B).tot).sum<=((rs.take (placeOf rs (a:Z))).map λx=>tm x*(q x.toNat 0).work).sum:=uY λx s=>by
   have hxr:=F.rng x (Oe s);have A:x.toNat<n:=⋯
   have ex:((x.toNat:O):Z)=x:=⋯
   have hp:placeOf rs ((x.toNat:O):Z)<placeOf rs (a:Z):=by rw[ex];exact qA s
   have h1:=b2 x.toNat A hp;unfold Trc.Clr at h1;have h2:=R.come A (B+Dd-1);rw[show B+Dd-1+1=B+Dd by omega,show ((B+Dd-1:O):Z)=(B:Z)+Dd-1 by omega]at h2;have K:=C x.toNat A hp B;rw[ex]at K;have h4:=NU K (Z.le_of_lt (R.wpos A 0));rw[W7]at h4;show (q x.toNat (B+Dd)).tot-(q x.toNat B).tot<=tm x*(q x.toNat 0).work;omega
  have s2:((rs.drop (placeOf rs (a:Z)+1)).map λx=>(q x.toNat (B+Dd)).tot-(q x.toNat B).tot).sum<=H:=by
   have nd:=F.nd;have o:∀x∈rs.drop (placeOf rs (a:Z)+1),x.toNat<n/\((x.toNat:O):Z)=x/\placeOf rs (a:Z)<placeOf rs ((x.toNat:O):Z):=λx s=>by
    have hxr:=F.rng x (Ox s);have ex:((x.toNat:O):Z)=x:=⋯
    refine⟨⋯,ex,?_⟩;rw[ex];refine Ue.mp λz=>?_
    obtain⟨i,hi,e⟩:=Od s;rw[J.getElem_drop]at e;have A2:=eF (Ox s);have hi2:placeOf rs (a:Z)+1+i<rs.length:=by rw[Pg]at hi;omega
    have h6:placeOf rs x<rs.length:=⋯
    rw[My h6]at A2;exact (OV.mp nd (placeOf rs x) (placeOf rs (a:Z)+1+i) h6 hi2 ⋯) ((N4 A2).trans e.symm)
   refine AO (P:=λx=>∃T,(q x.toNat B).held=Y T/\dE z7 T<=(q a 0).rank) I (J.Nodup.sublist (J.drop_sublist _ _) nd) (λx s=>?_) (λx s y hy hX hY=>?_)
   .obtain⟨f,D,x3⟩:=o x s;rcases R.low_one U f (B:=B) (r:=(q a 0).rank) (by rw[rk _ f,rk a ha];omega) Dd M with e|⟨p,p1,T,p2,p3,p4,p5⟩
    .left;show (q x.toNat (B+Dd)).tot-(q x.toNat B).tot=0;omega
    .right;refine⟨⟨T,p5,p3⟩,?_⟩;have:=hH _ f x3 p p1 T p2 (by rw[<-rk a ha];exact p3);show (q x.toNat (B+Dd)).tot-(q x.toNat B).tot<=H;omega
   .obtain⟨f,D,x3⟩:=o x s;obtain⟨y1,y2,y3⟩:=o y hy;obtain⟨D',hS,lS⟩:=hX;obtain⟨T,A4,lT⟩:=hY;by_cases e:x.toNat=y.toNat
    .omega
    .exfalso;have hx4:=rk _ f;have hy4:=rk _ y1;have ha4:=rk a ha;rcases R.pair U G B f y1 e hS A4 with z|z
     .rw[(R.stay f B).2.2]at z;omega
     .rw[(R.stay y1 B).2.2]at z;omega
  have s3:(q a (B+Dd)).tot-(q a B).tot<=(q a 0).work-1:=by have:=R.mono ha (i:=B+Dd) (j:=c+Dd) ⋯;rw[Pq]at no;omega
  rw[split,Ol,Vb,N2,Oa]at sum;rw[show ((a:Z)).toNat=a by omega]at sum;omega
end
theorem dm(l:PTl)(k:Z×Z)(v:Z)(a:Z×Z):eP (uv l k v) a=if a=k then Y v else eP l a:=by
 unfold uv;by_cases ha:(l.any λp=>decide (p.1=k))=true
 .rw[HL ha];unfold eP
  induction l with
  |nil=>cases ha
  |cons p r ih =>
   rw[N2];by_cases z:p.1=k
   .rw[HL z,Oc,Oc];by_cases y:a=k
    .rw[HL y];have:decide (p.1=a)=true:=Ql (by rw[z,y]);dsimp[this];rfl
    .rw[I' y];have:decide (p.1=a)=false:=P' λq=>y (q.symm.trans z)
     dsimp[this];cases b:(r.any λp=>decide (p.1=k)) with
     |true=>rw[ih b,I' y]
     |false =>
      have:r.map (λp=>if p.1=k then (p.1,v) else p)=r:=by
       have h:∀q∈r,(λp:(Z×Z)×Z=>if p.1=k then (p.1,v) else p) q=id q:=λq c=>I' λe=>by have:=Qa.mp b q c;exact this (Ql e)
       rw[NR h,OH]
      rw[this]
   .rw[I' z,Oc,Oc];have b:(r.any λp=>decide (p.1=k))=true:=by rw[OR,P' z,Q8]at ha;exact ha
    by_cases y:p.1=a
    .dsimp[Ql y];rw[I' λq=>z (y.trans q)]
    .dsimp[P' y];exact ih b
 .rw[I' ha];unfold eP;rw[UA];by_cases y:a=k
  .rw[HL y];have:l.find? (λp=>decide (p.1=a))=none:=OJ.mpr λp hp q=>ha (Oz.mpr ⟨p,hp,by rw[<-y];exact q⟩)
   rw[this,y];show ((([(k,v)]:PTl).find? λp=>decide (p.1=k))).map (·.2)=_;rw[Oc];simp
  .rw[I' y];have:([(k,v)]:PTl).find? (λp=>decide (p.1=a))=none:=by
    rw[Oc];have:decide (k=a)=false:=P' λq=>y q.symm
    dsimp[this];rfl
   rw[this,Vv]
def vm(d:L):Prop:=d=.none\/∃k:Z×Z,d=.tuple [.int k.1,.int k.2]
def endsF:O->J L->PTl->PTl
 |_,[],l=>l
 |i,d::r,l=>endsF (i+1) r (match gO d with
  |some k=>uv l k ((i:Z)+1)
  |none=>l)
theorem nB{k:Z×Z}:∀(t:J L)(i:O)(l:PTl){v:Z},eP (endsF i t l) k=Y v->(∃(j:O)(d:L),t[j]?=Y d/\gO d=Y k/\v=(i:Z)+j+1)\/eP l k=Y v
 |[],i,l,v,h=>.inr h
 |d::r,i,l,v,h=>by
  unfold endsF at h;rcases nB r (i+1) _ h with⟨j,e,h1,h2,h3⟩|h
  .exact .inl ⟨j+1,e,h1,h2,⋯⟩
  .split at h
   .rename_i k0 a;rw[dm]at h;split at h
    .rename_i z;cases h;exact .inl ⟨0,d,rfl,by rw[a,z],⋯⟩
    .exact .inr h
   .exact .inr h
theorem qI{k:Z×Z}:∀(t:J L)(i:O)(l:PTl),((∃(j:O)(d:L),t[j]?=Y d/\gO d=Y k)\/∃v,eP l k=Y v)->∃v,eP (endsF i t l) k=Y v
 |[],i,l,h=>by
  rcases h with⟨j,d,h,_⟩|h
  .simp at h
  .exact h
 |d::r,i,l,h=>by
  unfold endsF;refine qI r (i+1) _ ?_;rcases h with⟨j,e,h1,h2⟩|⟨v,h⟩
  .cases j with
   |zero =>cases h1;right;rw[h2];exact⟨_,by show eP (uv l k _) k=_;rw[dm,HL rfl]⟩
   |succ j=>exact .inl ⟨j,e,h1,h2⟩
  .right;split
   .rename_i k0 hk;rw[dm];split
    .exact⟨_,rfl⟩
    .exact⟨v,h⟩
   .exact⟨v,h⟩
theorem Ib(l:J L):ij l=i6 0 l:=by unfold ij i6;congr 1;funext i d;rw[Ob]
theorem GB(h:δ[i]?=Y ↥ds)(hl:ds.length<=1000000):iq #[0,ae i] δ=.ok (ij ds):=by
 have e:ae i δ=.ok (.list ds):=by unfold ae;rw[h]
 unfold iq;rw[aA,e,aL];rfl
theorem xA{len:Qn}(R:Ran es rs z6 len):HvJ (aJ es rs) (startJ es rs z6):=by
 refine⟨λi hi j f T h1 h2=>?_,λj f p hp T e=>?_⟩
 .obtain⟨k,row,_,_,_,rfl⟩:=dz hi;cases h1
 .obtain⟨k,row,hk,_,_,rfl⟩:=dz f;have hln:=R.ln;have g:(0:Z)<=(k:Z):=⋯
  have h1:(k:Z)<es.length:=⋯
  have ok:=R.eok.ok _ (bG g h1);obtain⟨h,l⟩:=(ok.pl p hp).2.2 T e;have m:(au es (k:Z)).has T=true:=by unfold Er.has;rw[Oz];exact⟨p,hp,by rw[e];exact QF _⟩
  have hm:=R.rok.mem g h1;have a:=lq hm;have b:rs[placeOf rs (k:Z)]?=Y (k:Z):=by have:=TM (xs:=rs) (p:=(·==(k:Z))) (w:=a);rw[My a];exact congrArg Y (eq_of_beq this)
  have c:(k:Z)∈rs.take (placeOf rs (k:Z)+1):=by rw[Vw,b];exact NF _ N1
  obtain⟨n,hn,hle⟩:=(qk es T rs 0 (placeOf rs (k:Z))).mpr ⟨(k:Z),c,m⟩;have:dE (aJ es rs) T=n:=by unfold dE;rw[jx h l hn]
  rw[this];show n<=(placeOf rs (k:Z):Z);omega
def hdD(C:J')(m k t l:Z):PyData:=yf C [("number",.int m),("part",.int k),("tool",.int t),("times",.int l)]
def iA(C:J')(es:J Er)(rs:J Z)(pl m k:Z)(p:Z×F1 Z):J PyData:=match p.2 with
 |some t=>(match aX es rs t with
  |some h=>if h<=pl then [hdD C m k t (p.1-1)] else []
  |none=>[])
 |none=>[]
def hdM(C:J')(es:J Er)(rs:J Z)(pl m:Z):O->J (Z×F1 Z)->J L
 |_,[]=>[]
 |k,p::r=>iA C es rs pl m k p++hdM C es rs pl m (k+1) r
def de(C:J')(es:J Er)(rs:J Z)(pl:Z):J Z->J L
 |[]=>[]
 |m::r=>hdM C es rs pl m 0 (au es m).parts++de C es rs pl r
theorem tP(C:J')(es:J Er)(rs:J Z)(pl m k:Z)(p:Z×F1 Z):(iA C es rs pl m k p).length<=1:=by
 unfold iA;split
 .split
  .split <;> simp
  .simp
 .simp
theorem vf(C:J')(es:J Er)(rs:J Z)(pl m:Z):∀(ps:J (Z×F1 Z))(k:O),(hdM C es rs pl m k ps).length<=ps.length
 |[],_=>by simp[hdM]
 |p::r,k=>by have h1:=tP C es rs pl m k p;have h2:=vf C es rs pl m r (k+1);unfold hdM;rw[NS,NP];omega
abbrev D9(cs:Cs):Ds->Sr:=gx [5] 5 (ao (sP cs.Holding ["number", "part", "tool", "times"]) #[0,6,7,g2 dIx (ae 8) ↑1,g2 fI (g2 dIx (ae 8) ↑0) ↑1])
abbrev lp(cs:Cs):Ds->Sr:=sIf (rH (gT (g1 iw (g2 dIx (ae 8) ↑1))) (gT (g2 dLe (g2 dIx (ae 4) (g2 dIx (ae 8) ↑1)) (ae 3)))) (D9 cs) aT
theorem G9(cs:Cs)(es:J Er)(rs:J Z)(E R n:L)(pl:O)(m:Z)(a:J L)(c:∀t:Z,0<=t->t<=3->atI a t=Y (bc (aX es rs t)))(p:Z×F1 Z)(k:O)(z5:J L)(hl:z5.length<1000000)(h:∀t,p.2=Y t->0<=t/\t<=3/\∃h,aX es rs t=Y h) :
  lp cs [Y E,Y R,Y n,⇑pl,↥a,↥z5,⇑m,⇑k,Y (aG p)]
   =.nx [Y E,Y R,Y n,⇑pl,↥a,↥(z5++iA cs.Holding es rs pl m k p),⇑m,⇑k,Y (aG p)]:=by
 obtain⟨l,o⟩:=p;cases o with
 |none=>simp[lp,Ff,bc,iA]
 |some t =>
  obtain⟨i,j,e,g⟩:=h t rfl;have ha:=c t i j;rw[g]at ha;have e1:dIx (aG (l,Y t)) (.int 1)=⇑t:=rfl;have q:dIx (aG (l,Y t)) (.int 0)=⇑l:=rfl;have b:dIx (.list a) (.int t)=⇑e:=ha;have add:D9 cs [Y E,Y R,Y n,⇑pl,↥a,↥z5,⇑m,⇑k,Y (aG (l,Y t))]=.nx [Y E,Y R,Y n,⇑pl,↥a,↥(z5++[hdD cs.Holding m k t (l-1)]),⇑m,⇑k,Y (aG (l,Y t))]:=by unfold D9 gx;dsimp[Ov,Ow];dsimp[bQ,aA,aL,dP,ax (show 6∉[5] by decide),ax (show 7∉[5] by decide),ax (show 8∉[5] by decide),aC,aE,fh,Rs.ag,e1,q,lO,Rs.ak];have hm:sP cs.Holding ["number", "part", "tool", "times"] [.int m,.int (k:Z),.int t,.int (l-1)]=.ok (hdD cs.Holding m k t (l-1)):=rfl;rw[hm,av,HL hl];rfl
  have f:iA cs.Holding es rs pl m k (l,Y t)=if e<=(pl:Z) then [hdD cs.Holding m k t (l-1)] else []:=by unfold iA;dsimp[g]
  rw[f];by_cases hle:e<=(pl:Z)
  · rw[HL hle,<-add];simp[lp,e1,b,hle]
  · rw[I' hle,OL];simp[lp,e1,b,hle]
theorem wd(cs:Cs)(es:J Er)(rs:J Z)(E R n:L)(pl:O)(m:Z)(a:J L)(b:∀t:Z,0<=t->t<=3->atI a t=Y (bc (aX es rs t))):∀(ps:J (Z×F1 Z))(k:O)(z5:J L)(x7 x8:F1 L),z5.length+ps.length<1000000->(∀p∈ps,∀t,p.2=Y t->0<=t/\t<=3/\∃h,aX es rs t=Y h) ->
  ∃c f,forL (b9 [7,8]) (lp cs) ((ps.map aG).mapIdx λi d=>.tuple [.int ((k+i:O):Z),d])
    [Y E,Y R,Y n,⇑pl,↥a,↥z5,⇑m,x7,x8]
   =.nx [Y E,Y R,Y n,⇑pl,↥a,↥(z5++hdM cs.Holding es rs pl m k ps),⇑m,c,f]
 |[],k,z5,x7,x8,_,_=>⟨x7,x8,by simp[forL,hdM]⟩
 |p::r,k,z5,x7,x8,hz,h=>by
  have hz':z5.length+(r.length+1)<1000000:=hz;have hl1:=tP cs.Holding es rs pl m k p;obtain⟨c,f,e⟩:=wd cs es rs E R n pl m a b r (k+1) (z5++iA cs.Holding es rs pl m k p) ⇑(k:Z) (Y (aG p)) (by rw[NS];omega) (λq g=>h q (N0 _ g));refine⟨c,f,?_⟩;rw[N2,Qi];unfold forL;have e1:b9 [7,8] (RX [.int ((k+0:O):Z),aG p]) [Y E,Y R,Y n,⇑pl,↥a,↥z5,⇑m,x7,x8]=Y [Y E,Y R,Y n,⇑pl,↥a,↥z5,⇑m,⇑(k:Z),Y (aG p)]:=rfl;rw[e1];dsimp[G9 cs es rs E R n pl m a b p k z5 ⋯ (h p N1)];have j:(λ(i:O)(d:L)=>RX [.int ((k+(i+1):O):Z),d])=λi d=>.tuple [.int ((k+1+i:O):Z),d]:=by funext i d;rw[show k+(i+1)=k+1+i by omega]
  rw[j,e];rw[show hdM cs.Holding es rs pl m k (p::r)=iA cs.Holding es rs pl m k p++hdM cs.Holding es rs pl m (k+1) r from rfl,OK]
theorem vN{es:J Er}{rs:J Z}(cs:Cs)(f:∀e∈es,e.Sh)(w:bK es.length rs)(n:L)(pl:O):∀(l:J Z)(z5:J L)(x6 x7 x8:F1 L),z5.length+1000*l.length<1000000->(∀m∈l,m∈rs) ->
  ∃q s u,forL (aP 6) (dN [5] (iq #[0,g2 dIx (g2 dIx (ae 0) (ae 6)) ↑3]) (b9 [7,8]) (lp cs)) (l.map FC)
    #[3,Y n,⇑pl,Y (aJ es rs),↥z5,x6,x7,x8]
   =.nx #[3,Y n,⇑pl,Y (aJ es rs),↥(z5++de cs.Holding es rs pl l),q,s,u]
 |[],z5,x6,x7,x8,_,_=>⟨x6,x7,x8,by simp[forL,de]⟩
 |m::r,z5,x6,x7,x8,hz,h=>by
  have hz':z5.length+1000*(r.length+1)<1000000:=hz;have hm:=h m N1;have g:=w.rng m hm;have j:=f _ (bG g.1 ⋯);have hpn:=j.pn;have hml:=vf cs.Holding es rs pl m (au es m).parts 0;obtain⟨y,z,e1⟩:=wd cs es rs (aj es) (ai rs) n pl m ((M' 4).map λ(t:O)=>bc (aX es rs t)) (λt a b=>yr a b) (au es m).parts 0 z5 x7 x8 ⋯ λp hp t o=>by obtain⟨_,_,c⟩:=j.pl p hp;have:=c t o;exact⟨this.1,this.2,pH es t rs 0 m hm (Lm hp o)⟩
  obtain⟨q,s,u,e2⟩:=vN cs f w n pl r (z5++hdM cs.Holding es rs pl m 0 (au es m).parts) ⇑m y z (by rw[NS];omega) λx A=>h x (N0 _ A)
  refine⟨q,s,u,?_⟩;rw[N2];unfold forL;have B:atI (es.map Er.d) m=Y (au es m).d:=eQ g.1 ⋯;have src:iq #[0,g2 dIx (g2 dIx (ae 0) (ae 6)) ↑3] (mask [5] #[3,Y n,⇑pl,Y (aJ es rs),↥z5,⇑m,x7,x8])=.ok (((au es m).parts.map aG).mapIdx λi d=>.tuple [.int ((0+i:O):Z),d]):=by dsimp[uO,aA,aL,dP,ax (show 0∉[5] by decide),ax (show 6∉[5] by decide),aC,aE,fh,Rs.ag,aj,xh,B,Rs.ak,zw,uK,ij,Ob]
  have o:aP 6 (.int m) #[3,Y n,⇑pl,Y (aJ es rs),↥z5,x6,x7,x8]=Y #[3,Y n,⇑pl,Y (aJ es rs),↥z5,⇑m,x7,x8]:=rfl;have v:forL (b9 [7,8]) (lp cs) (((au es m).parts.map aG).mapIdx λi d=>.tuple [.int ((0+i:O):Z),d]) #[3,Y n,⇑pl,Y (aJ es rs),↥z5,⇑m,x7,x8]=.nx #[3,Y n,⇑pl,Y (aJ es rs),↥(z5++hdM cs.Holding es rs pl m 0 (au es m).parts),⇑m,y,z]:=e1;rw[o];dsimp[iJ,src,av,v,e2];rw[show de cs.Holding es rs pl (m::r)=hdM cs.Holding es rs pl m 0 (au es m).parts++de cs.Holding es rs pl r from rfl,OK]
def a7(cs:Cs):Gf
 |[d,r,.int n]=>if okW d r n then .ok (.list (de cs.Holding (cz d) (b0 r) (placeOf (b0 r) n) ((b0 r).drop (placeOf (b0 r) n+1)))) else .no
 |_=>.no
theorem ia(cs:Cs)(h1:1<=es.length)(h2:es.length<=6)(h:∀e∈es,e.Wk)(a:bK es.length rs)(n0:0<=n)(n1:n<es.length):a7 cs [aj es,ai rs,.int n]=.ok (.list (de cs.Holding es rs (placeOf rs n) (rs.drop (placeOf rs n+1)))):=by unfold a7;dsimp[mF h1 h2 h a n0 n1,QA,fE,eM]
theorem yR(cs:Cs):LLq (jE cs bU) 3 6 (a7 cs):=by
 intro ds hl a;obtain⟨d,r,n,i,h⟩:=kC a;clear a;subst i;have a:=h;clear h
 .skip
  split at a
  .rename_i hc;obtain⟨es,rs,rfl,rfl,_,_,l1,l6,hok,b,n0,n1⟩:=gE hc;rw[ia cs l1 l6 hok b n0 n1];have c:∀e∈es,e.Sh:=λe j=>(hok e j).sh
   have f:=b.mem n0 ⋯;have g:=ie f;have l:=iZ ⋯ c b;have hrl:=b.len;obtain⟨y6,y7,y8,e⟩:=vN cs c b (.int n) (placeOf rs n) (rs.drop (placeOf rs n+1)) [] S S S (by rw[Pg];simp;omega) (λm hm=>Ox hm);have src:bx (eJ (ae 1) (gm (g2 bq (ae 3) ↑1)) c6) (mask [5] #[3,⇑n,⇑(placeOf rs n),Y (aJ es rs),↥[],S,S,S])=.ok ((rs.drop (placeOf rs n+1)).map FC):=by dsimp[kZ,lX,oH,kE,dP,ax (show 1∉[5] by decide),ax (show 3∉[5] by decide),aC,aE,fh,Rs.ag,eO,Rs.ak,oN,ai,uE,yX];rw[show (placeOf rs n:Z)+1=((placeOf rs n+1:O):Z) by omega,EI,J.map_drop]
   have o:aW [5] 3 (iL (ae 1) (ae 2)) #[3,⇑n,S,S,S,S,S,S]=.nx #[3,⇑n,⇑(placeOf rs n),S,S,S,S,S]:=by rw[f9,HL #[2]];dsimp[uB,ax (show 1∉[5] by decide),ax (show 2∉[5] by decide),aC,aE,Rs.ag,ai,g,Rs.ak,av];rfl
   have s2:aW [5] 4 (ao bU #[0,0,1]) #[3,⇑n,⇑(placeOf rs n),S,S,S,S,S]=.nx #[3,⇑n,⇑(placeOf rs n),Y (aJ es rs),S,S,S,S]:=by rw[f9,HL #[2]];dsimp[bQ,aA,aL,ax (show 0∉[5] by decide),ax (show 1∉[5] by decide),aC,aE,Rs.ag,l,av];rfl
   have p:dh [5] 5 ah #[3,⇑n,⇑(placeOf rs n),Y (aJ es rs),S,S,S,S]=.nx #[3,⇑n,⇑(placeOf rs n),Y (aJ es rs),↥[],S,S,S]:=rfl;show bo (jE cs bU #[3,⇑n,S,S,S,S,S,S])=_;dsimp[jE];rw[bg,o];simp only;rw[bg,s2];simp only;rw[bg,p];simp only;rw[bg,iJ,src,av,e];rfl
  .cases a rfl
def kS(es:J Er)(rs:J Z)(pl:Z)(p:Z×F1 Z):J Int:=match p.2 with
 |some t=>(match aX es rs t with
  |some h=>if h<=pl then [p.1-1] else []
  |none=>[])
 |none=>[]
def tms(es:J Er)(rs:J Z)(pl:Z):J (Z×F1 Z)->J Z
 |[]=>[]
 |p::r=>kS es rs pl p++tms es rs pl r
theorem zN(es:J Er)(rs:J Z)(pl:Z)(b:J (Z×F1 Z)):∀a,tms es rs pl (a++b)=tms es rs pl a++tms es rs pl b
 |[]=>rfl
 |p::r=>by show kS es rs pl p++tms es rs pl (r++b)=(kS es rs pl p++tms es rs pl r)++_;rw[zN es rs pl b r,OK]
theorem qO(es:J Er)(rs:J Z)(pl:Z):∀(ps:J (Z×F1 Z))(z5:Z),ps.foldl (iS es rs pl) z5=(tms es rs pl ps).foldl max z5
 |[],_=>rfl
 |p::r,z5=>by
  rw[NY,qO es rs pl r];show _=(kS es rs pl p++tms es rs pl r).foldl max z5;rw[UD];have e:iS es rs pl z5 p=(kS es rs pl p).foldl max z5:=by
   unfold iS kS;cases p.2 with
   |none=>rfl
   |some t =>
    simp only;cases aX es rs t with
    |none=>rfl
    |some h=>simp only;split <;> rfl
  rw[e]
theorem pG(es:J Er)(rs:J Z)(pl:Z):∀(ps:J (Z×F1 Z)),(∀p∈ps,1<=p.1)->∀a∈tms es rs pl ps,0<=a
 |[],_,a,h=>by cases h
 |p::r,hp,a,h=>by
  have h1:=hp p N1;unfold tms at h;rcases NZ.mp h with h|h
  .unfold kS at h;split at h
   .split at h
    .split at h
     .cases NQ.mp h;omega
     .cases h
    .cases h
   .cases h
  .exact pG es rs pl r (λq b=>hp q (N0 _ b)) a h
theorem Cj(h:∀a∈ns,0<=a):(wz ns).getD 0=ns.foldl max 0:=by
 have c:(λa b:Z=>if b>a then b else a)=max:=by funext a b;split <;> omega
 cases ns with
 |nil=>rfl
 |cons x r =>have hx:=h x N1;show r.foldl (λa b:Z=>if b>a then b else a) x=r.foldl max (max 0 x);rw[c,show max 0 x=x by omega]
def tmD(C:J')(d:L):PyData:=(cY C "times" d).getD .none
theorem lL(C:J')(m k t l:Z):cY C "times" (hdD C m k t l)=⇑l:=by
 have n1:¬ (("number":Qn)="times"):=by decide +kernel
 have n2:¬ (("part":Qn)="times"):=by decide +kernel
 have a:¬ (("tool":Qn)="times"):=by decide +kernel
 dsimp[hdD,yf,N2,OI,cY,W8,QA,jF,n1,n2,a,RL]
theorem BJ(C:J')(es:J Er)(rs:J Z)(pl m k:Z)(p:Z×F1 Z):(iA C es rs pl m k p).map (tmD C)=(kS es rs pl p).map FC/\∀d∈iA C es rs pl m k p,cY C "times" d=Y (tmD C d):=by
 unfold iA kS;cases p.2 with
 |none=>exact⟨rfl,λd hd=>by cases hd⟩
 |some t =>
  simp only;cases aX es rs t with
  |none=>exact⟨rfl,λd hd=>by cases hd⟩
  |some h =>
   simp only;split
   .rw[N2,OI];refine⟨by unfold tmD;rw[lL];rfl,λd hd=>?_⟩;cases NQ.mp hd;unfold tmD;rw[lL];rfl
   .exact⟨rfl,λd hd=>by cases hd⟩
theorem zK(C:J')(es:J Er)(rs:J Z)(pl m:Z):∀(ps:J (Z×F1 Z))(k:O),(hdM C es rs pl m k ps).map (tmD C)=(tms es rs pl ps).map FC/\∀d∈hdM C es rs pl m k ps,cY C "times" d=Y (tmD C d)
 |[],_=>⟨rfl,λd hd=>by cases hd⟩
 |p::r,k=>by
  obtain⟨a,b⟩:=BJ C es rs pl m k p;obtain⟨c,e⟩:=zK C es rs pl m r (k+1);rw[show hdM C es rs pl m k (p::r)=iA C es rs pl m k p++hdM C es rs pl m (k+1) r from rfl,show tms es rs pl (p::r)=kS es rs pl p++tms es rs pl r from rfl];refine⟨by rw[Ol,Ol,a,c],λd hd=>?_⟩;rcases NZ.mp hd with h|h
  .exact b d h
  .exact e d h
theorem mL(C:J')(es:J Er)(rs:J Z)(pl:Z):∀(a:J Z),(de C es rs pl a).map (tmD C)=(tms es rs pl ((a.map λm=>(au es m).parts).flatten)).map FC/\∀d∈de C es rs pl a,cY C "times" d=Y (tmD C d)
 |[]=>⟨rfl,λd hd=>by cases hd⟩
 |m::r=>by
  obtain⟨b,c⟩:=zK C es rs pl m (au es m).parts 0;obtain⟨e,f⟩:=mL C es rs pl r;unfold de;refine⟨by rw[Ol,N2,OY,zN,Ol,b,e],λd hd=>?_⟩;rcases NZ.mp hd with h|h
  .exact c d h
  .exact f d h
theorem nF(C:J')(es:J Er)(rs:J Z)(pl:Z)(b:O):∀(a:J Z),(∀m∈a,(au es m).parts.length<=b)->(de C es rs pl a).length<=b*a.length
 |[],_=>by simp[de]
 |m::r,h=>by
  have h1:=h m N1;have h2:=vf C es rs pl m (au es m).parts 0;have h3:=nF C es rs pl b r λx c=>h x (N0 _ c)
  unfold de;rw[NS,NP,O.mul_succ];omega
def bO:Gf
 |[d,r,.int n]=>if okW d r n then .ok (.int (fj (cz d) (b0 r) n)) else .no
 |_=>.no
theorem hU(h1:1<=es.length)(h2:es.length<=6)(h:∀e∈es,e.Wk)(a:bK es.length rs)(n0:0<=n)(n1:n<es.length):bO [aj es,ai rs,.int n]=.ok (.int (fj es rs n)):=by unfold bO;dsimp[mF h1 h2 h a n0 n1,QA,fE,eM]
theorem pL(cs:Cs):LLq (fG cs (a7 cs)) 3 0 bO:=by
 intro ds hl a;obtain⟨d,r,n,i,h⟩:=kC a;clear a;subst i;have a:=h;clear h
 .skip
  split at a
  .rename_i hc;obtain⟨es,rs,rfl,rfl,_,_,l1,l6,hok,c,n0,n1⟩:=gE hc;rw[hU l1 l6 hok c n0 n1];have j:=ia cs l1 l6 hok c n0 n1;obtain⟨o,q⟩:=mL cs.Holding es rs (placeOf rs n) (rs.drop (placeOf rs n+1));have hrl:=c.len;have b:∀m∈rs.drop (placeOf rs n+1),(au es m).Wk:=λm hm=>by have:=c.rng m (Ox hm);exact hok _ (bG this.1 ⋯)
   have hln:=nF cs.Holding es rs (placeOf rs n) 4 (rs.drop (placeOf rs n+1)) λm hm=>(b m hm).p2
   have hdl:(rs.drop (placeOf rs n+1)).length<=6:=by rw[Pg];omega
   have e:aO 3 (bx (ao (a7 cs) #[0,0,1,2])) aZ (g1 (cY cs.Holding "times") (ae 3)) aF #[3,⇑n]=.ok ((de cs.Holding es rs (placeOf rs n) (rs.drop (placeOf rs n+1))).map (tmD cs.Holding)) :=
    bN rfl (by dsimp[kZ,bQ,aA,aL,aC,aE,Rs.ag,j];rfl) ⋯ λx s=>by dsimp[P4,OF,G2,aC,aE,Rs.ag,q x s,Rs.ak]
   have f:xD (.list ((de cs.Holding es rs (placeOf rs n) (rs.drop (placeOf rs n+1))).map (tmD cs.Holding))) (.int 0)=⇑(fj es rs n):=by
    unfold xD;simp only;rw[o,i9,Oh,Cj (pG _ _ _ _ λp hp=>?_),<-qO]
    .rfl
    .obtain⟨l,hl,g⟩:=J.mem_flatten.mp hp;obtain⟨m,hm,rfl⟩:=NH.mp hl;exact ((b m hm).pl p g).1
   show bo (fG cs (a7 cs) #[3,⇑n])=_;dsimp[fG,c7,dP,yh,e,Rs.ag,fh,f,Rs.ak,av,cA]
  .cases a rfl
def nV(f:Z->Z)(T:Z):O->Z->J Z
 |0,l=>[l]
 |m+1,l=>if l=T then [l] else l::nV f T m (f l)
def Ci:F1 (J Z)->L
 |some l=>.list (l.map .int)
 |none=>.none
structure Top(f:Z->Z)(T:Z):Prop where
 fix:f T=T
 one:1<=T
 low:∀s,1<=s->s<T->¬ f s<=s
theorem qi{f:Z->Z}{T:Z}(R:mR f)(P:Top f T):∀(m:O)(l:Z),1<=l->l<=T->T-l<=m->(nV f T m l).getLast?=Y T
 |0,l,h1,h2,h3=>by
  have:l=T:=⋯
  rw[this];rfl
 |m+1,l,h1,h2,h3=>by
  unfold nV;by_cases z:l=T
  .rw[HL z,z];rfl
  .rw[I' z,J.getLast?_cons];have hf:=P.low l h1 ⋯;have a:=R.mono l T h1 h2;rw[P.fix]at a;rw[qi R P m (f l) ⋯ a ⋯];rfl
def bI:Gf
 |[.int t,.int e]=>if 0<e/\e<1073741824 then .ok (.int ((t+e-1) / e)) else .no
 |_=>.no
theorem Lb{f:Z->Z->Rs L}(h:(match ds with|[.int a,.int b]=>f a b|_=>.no)≠.no):∃a b,ds=[.int a,.int b]/\f a b≠.no:=by
 rcases ds with _|⟨a,_|⟨b,_|⟨y,ys⟩⟩⟩
 .cases h rfl
 .first|cases h rfl|(cases a <;> cases h rfl)
 .skip
  cases a with
  |int a =>
   cases b with
   |int b =>exact⟨_,_,rfl,h⟩
   |_=>cases h rfl
  |_=>first|cases h rfl|(cases b <;> cases h rfl)
 .first|cases h rfl|(cases a <;> first|cases h rfl|(cases b <;> cases h rfl))
theorem uD(cs:Cs):LLq (gu cs) 2 0 bI:=by
 intro ds hl a;obtain⟨t,e,c,b⟩:=Lb a;clear a;subst c;have a:=b;clear b;unfold bI
 .skip
  split at a
  .rename_i hc;dsimp[HL hc];show bo (gu cs [⇑t,⇑e])=_;dsimp[gu,c7,dP,aC,aE,fh,Rs.ag,eO,lO,Rs.ak,IT,HL hc,av,cA]
  .cases a rfl
theorem zR{x e:Z}(h:0<e):(x+e-1) / e=x / e+(if x % e>0 then 1 else 0):=by
 have h1:=PY x e;have h2:=OX x (show e≠0 by omega);have h3:=P6 x h;generalize x / e=q at *;generalize x % e=r at *;have ex:x+e-1=r+e-1+e*q:=⋯
 rw[ex,PZ _ _ ⋯];by_cases z:r>0
 .rw[HL z,show r+e-1=(r-1)+e*1 by omega,PZ _ _ ⋯,P5 ⋯ ⋯];omega
 .rw[I' z,P5 ⋯ ⋯];omega
theorem rf(h:e.Sh):bI [.int (t+e.late),.int e.every]=.ok (.int (e.times t)):=by have h1:=h.e1;have h2:=h.e2;unfold bI;dsimp[HL (show 0<e.every/\e.every<1073741824 from⟨⋯,h2⟩)];rw[zR ⋯];rfl
def dR(es:J Er)(rs:J Z)(n h t:Z):Int:=h+(au es n).work+((rs.take (placeOf rs n)).map λm=>(au es m).times t*(au es m).work).sum
theorem l7(hok:∀e∈es,e.Wk)(c:bK es.length rs)(n0:0<=n)(n1:n<es.length)(h0:0<=h):mR (dR es rs n h) where
 mono:=λt u _ f=>by have:=wo (n:=n) (λe g=>(hok e g).sh) c f;unfold jz at this;unfold dR;omega
 one:=λt f=>by
  unfold dR;have h2:=(hok _ (bG n0 n1)).work1;have h3:=lz (λm=>(au es m).times t*(au es m).work) (rs.take (placeOf rs n)) λm hm=>by have a:=c.rng m (Oe hm);have b:=hok _ (bG a.1 a.2);have l0:=b.l1;exact Q4 (Er.times_pos b.sh.e1 ⋯) b.sh.work_b.1
  omega
def cT:Gf
 |[d,r,.int n,.int h,.int t]=>if okW d r n then .ok (.int (dR (cz d) (b0 r) n h t)) else .no
 |_=>.no
theorem qc(h1:1<=es.length)(h2:es.length<=6)(a:∀e∈es,e.Wk)(b:bK es.length rs)(n0:0<=n)(n1:n<es.length):cT [aj es,ai rs,.int n,.int h,.int t]=.ok (.int (dR es rs n h t)):=by unfold cT;dsimp[mF h1 h2 a b n0 n1,QA,fE,eM]
theorem Gh{a b:Z}(h:δ[i]?=Y ⇑a)(c:g δ=.ok (.int b)):yl [] i g δ=.nx (δ.set i ⇑(a+b)):=by unfold yl;rw[eK,h];dsimp[c,av]
abbrev DA:Ds->Sr:=az (aW [] 7 (g2 dIx (ae 0) (ae 6)))
 (yl [] 5 (g2 lj (ao cf #[0,7]) (ao bI #[0,g2 bq (ae 4) (g2 dIx (ae 7) ↑2),g2 dIx (ae 7) ↑0])))
theorem Ah{es:J Er}{rs:J Z}(f:∀e∈es,e.Sh)(u:bK es.length rs)(n h:L)(t:Z):∀(i:J Z)(z5:Z)(x6 x7:F1 L),(∀m∈i,m∈rs) ->
  ∃j l,forL (aP 6) DA (i.map FC) #[3,Y n,Y h,⇑t,⇑z5,x6,x7]
   =.nx #[3,Y n,Y h,⇑t,⇑(z5+(i.map λm=>(au es m).times t*(au es m).work).sum),j,l]
 |[],z5,x6,x7,_=>⟨x6,x7,by simp[forL]⟩
 |m::r,z5,x6,x7,hm'=>by
  have hm:=hm' m N1;have g:=u.rng m hm;have c:=f _ (bG g.1 ⋯);have v:atI (es.map Er.d) m=Y (au es m).d:=eQ g.1 ⋯;obtain⟨j,l,e2⟩:=Ah f u n h t r (z5+(au es m).times t*(au es m).work) ⇑m (Y (au es m).d) λx w=>hm' x (N0 _ w)
  refine⟨j,l,?_⟩;have hw:=c.work_b;have o:=gW c;have p:=rf (t:=t) c;rw[N2,N2,Oa,<-VD];unfold forL;generalize hE:au es m=e at *;have i2:dIx e.d (.int 2)=⇑e.late:=rfl;have y:dIx e.d (.int 0)=⇑e.every:=rfl;have q:aW [] 7 (g2 dIx (ae 0) (ae 6)) #[3,Y n,Y h,⇑t,⇑z5,⇑m,x7]=.nx #[3,Y n,Y h,⇑t,⇑z5,⇑m,Y e.d]:=by rw[oK,HL #[2]];dsimp[dP,aC,aE,Rs.ag,aj,xh,v,Rs.ak,av];rfl
  have s:yl [] 5 (g2 lj (ao cf #[0,7]) (ao bI #[0,g2 bq (ae 4) (g2 dIx (ae 7) ↑2),g2 dIx (ae 7) ↑0])) #[3,Y n,Y h,⇑t,⇑z5,⇑m,Y e.d]=.nx #[3,Y n,Y h,⇑t,⇑(z5+e.times t*e.work),⇑m,Y e.d]:=by
    rw[Gh (a:=z5) (b:=e.times t*e.work) rfl]
    .rfl
    .dsimp[dP,bQ,aA,aL,aC,aE,fh,Rs.ag,i2,y,Rs.ak,eO,o,p,yd (b:=e.times t) (show -(2 ^ 64)<e.work by omega) (show e.work<2 ^ 64 by omega)];rw[Z.mul_comm e.work]
  have z:aP 6 (.int m) #[3,Y n,Y h,⇑t,⇑z5,x6,x7]=Y #[3,Y n,Y h,⇑t,⇑z5,⇑m,x7]:=rfl;rw[z];dsimp[DA,bg,q,s];exact e2
theorem CC{f:L->L->Z->Z->Z->Rs L}(h:(match ds with|[b,c,.int a,.int x3,.int x4]=>f b c a x3 x4|_=>.no)≠.no):∃b c a x3 x4,ds=[b,c,.int a,.int x3,.int x4]/\f b c a x3 x4≠.no:=by
 rcases ds with _|⟨b,_|⟨c,_|⟨a,_|⟨x3,_|⟨x4,_|⟨y,ys⟩⟩⟩⟩⟩⟩
 .cases h rfl
 .cases h rfl
 .cases h rfl
 .first|cases h rfl|(cases a <;> cases h rfl)
 .first|cases h rfl|(cases a <;> first|cases h rfl|(cases x3 <;> cases h rfl))
 .skip
  cases a with
  |int a =>
   cases x3 with
   |int x3 =>
    cases x4 with
    |int x4 =>exact⟨_,_,_,_,_,rfl,h⟩
    |_=>cases h rfl
   |_=>first|cases h rfl|(cases x4 <;> cases h rfl)
  |_=>first|cases h rfl|(cases x3 <;> first|cases h rfl|(cases x4 <;> cases h rfl))
 .first|cases h rfl|(cases a <;> first|cases h rfl|(cases x3 <;> first|cases h rfl|(cases x4 <;> cases h rfl)))
theorem KG(cs:Cs):LLq (ua cs cf bI) 5 3 cT:=by
 intro ds hl a;obtain⟨d,r,n,h,t,p,o⟩:=CC a;clear a;subst p;have a:=o;clear o
 .skip
  split at a
  .rename_i hc;obtain⟨es,rs,rfl,rfl,_,_,l1,l6,hok,f,n0,n1⟩:=gE hc;rw[qc l1 l6 hok f n0 n1];have b:∀e∈es,e.Sh:=λe q=>(hok e q).sh
   have c:=f.mem n0 ⋯;have g:=ie c;have i:=b _ (bG n0 n1);have s:atI (es.map Er.d) n=Y (au es n).d:=eQ n0 n1;have j:=gW i;obtain⟨y6,y7,e⟩:=Ah b f (.int n) (.int h) t (rs.take (placeOf rs n)) (h+(au es n).work) S S (λm hm=>Oe hm);have src:bx (eJ (ae 1) c6 (gm (iL (ae 1) (ae 2)))) #[3,⇑n,⇑h,⇑t,⇑(h+(au es n).work),S,S]=.ok ((rs.take (placeOf rs n)).map FC):=by dsimp[kZ,lX,oH,kE,uB,aC,aE,Rs.ag,ai,g,Rs.ak,oN,uE,yX];rw[xN,U3]
   have l:aW [] 5 (g2 bq (ae 3) (ao cf #[0,g2 dIx (ae 0) (ae 2)])) #[3,⇑n,⇑h,⇑t,S,S,S]=.nx #[3,⇑n,⇑h,⇑t,⇑(h+(au es n).work),S,S]:=by rw[oK,HL #[2]];dsimp[dP,bQ,aA,aL,aC,aE,Rs.ag,aj,xh,s,Rs.ak,j,eO,av];rfl
   show bo (ua cs cf bI #[3,⇑n,⇑h,⇑t,S,S,S])=_;dsimp[ua];rw[bg,l];simp only;rw[bg,iJ,eK,src,av,e];rfl
  .cases a rfl
def qv(es:J Er)(rs:J Z)(n h:Z):F1 Int:=gB ((au es n).every-(au es n).late).toNat λt=>decide (dR es rs n h t<=t)
theorem yD(es:J Er)(rs:J Z)(n:Z):qv es rs n (fj es rs n)=bL es rs n:=rfl
def iz(es:J Er)(rs:J Z)(n h:Z):F1 (J Z):=(qv es rs n h).map λT=>nV (dR es rs n h) T T.toNat (dR es rs n h 1)
abbrev uX:Ds->Rs Bool:=gT (g2 dLe (ae 6) (ae 4))
abbrev vp:Ds->Sr:=az (gx [5] 5 (ae 6))
 (az (aW [5] 7 (ao cT #[0,0,1,2,3,6]))
 (az (sIf (gT (g2 dEq (ae 7) (ae 6))) (a9 (ae 5)) aT)
 (aW [5] 6 (ae 7))))
section
variable {E Rr N h:L}{f:Z->Z}{most:Z}
theorem u4(a:∀t,cT [E,Rr,N,h,.int t]=.ok (.int (f t)))(l:Z)(z5:J L)(hl:z5.length<1000000)(x7:F1 L) :
  vp [Y E,Y Rr,Y N,Y h,⇑most,↥z5,⇑l,x7]
   =if f l=l then .rt (.list (z5++[.int l])) else .nx [Y E,Y Rr,Y N,Y h,⇑most,↥(z5++[.int l]),⇑(f l),⇑(f l)]:=by
 have b:gx [5] 5 (ae 6) [Y E,Y Rr,Y N,Y h,⇑most,↥z5,⇑l,x7]=.nx [Y E,Y Rr,Y N,Y h,⇑most,↥(z5++[.int l]),⇑l,x7]:=by unfold gx;dsimp[Ov,Ow,ax (show 6∉[5] by decide),aC,aE,av,HL hl];rfl
 have s2:aW [5] 7 (ao cT #[0,0,1,2,3,6]) [Y E,Y Rr,Y N,Y h,⇑most,↥(z5++[.int l]),⇑l,x7]=.nx [Y E,Y Rr,Y N,Y h,⇑most,↥(z5++[.int l]),⇑l,⇑(f l)]:=by rw[f9,HL #[2]];dsimp[bQ,aA,aL,ax (show 0∉[5] by decide),ax (show 1∉[5] by decide),ax (show 2∉[5] by decide),ax (show 3∉[5] by decide),ax (show 6∉[5] by decide),aC,aE,Rs.ag,a,av];rfl
 have c:aW [5] 6 (ae 7) [Y E,Y Rr,Y N,Y h,⇑most,↥(z5++[.int l]),⇑l,⇑(f l)]=.nx [Y E,Y Rr,Y N,Y h,⇑most,↥(z5++[.int l]),⇑(f l),⇑(f l)]:=by rw[f9,HL #[2]];dsimp[ax (show 7∉[5] by decide),aC,aE,av];rfl
 unfold vp;rw[bg,b];simp only;rw[bg,s2];simp only;rw[bg];by_cases z:f l=l
 .rw[HL z];have q:(f l==l)=true:=by simpa using z
  dsimp[fm,iM,dP,aC,aE,Rs.ag,r8,q,Rs.ak,bX,QA,av,c7]
 .rw[I' z];have q:(f l==l)=false:=by simpa using z
  dsimp[fm,iM,dP,aC,aE,Rs.ag,r8,q,Rs.ak,bX,RL,OT,av,uG,c]
theorem oR(l:Z)(a x7:F1 L):uX [Y E,Y Rr,Y N,Y h,⇑most,a,⇑l,x7]=.ok (decide (l<=most)):=by dsimp[uX,iM,dP,aC,aE,Rs.ag,Fm,Rs.ak,bX]
theorem AQ(a:∀t,cT [E,Rr,N,h,.int t]=.ok (.int (f t)))(R:mR f){T:Z}(P:Top f T)(c:T<=most):∀(j fuel:O)(l:Z)(z5:J L)(x7:F1 L),1<=l->l<=T->T-l<=j->j<fuel->z5.length+j<1000000 ->
  cj uX vp fuel [Y E,Y Rr,Y N,Y h,⇑most,↥z5,⇑l,x7]=.rt (.list (z5++(nV f T j l).map FC))
 |j,0,l,z5,x7,_,_,_,hf,_=>Qr hf (Vc _)
 |0,fuel+1,l,z5,x7,h1,h2,h3,hf,hc=>by
  have e:l=T:=⋯
  have b:f l=l:=by rw[e];exact P.fix
  unfold cj;rw[oR,av,Ql (show l<=most by omega),HL rfl,u4 a l z5 ⋯,HL b];rfl
 |j+1,fuel+1,l,z5,x7,h1,h2,h3,hf,hc=>by
  unfold cj;rw[oR,av,Ql (show l<=most by omega),HL rfl,u4 a l z5 ⋯];unfold nV;by_cases e:l=T
  .have b:f l=l:=by rw[e];exact P.fix
   rw[HL b,HL e];rfl
  .have hl:=P.low l h1 ⋯;have hm:=R.mono l T h1 h2;rw[P.fix]at hm;rw[I' (show ¬ f l=l by omega),I' e];simp only;rw[AQ a R P c j fuel (f l) (z5++[FC l]) _ ⋯ hm ⋯ ⋯ (by rw[NS,Ou];omega)];rw[N2,OK];rfl
theorem AZ(a:∀t,cT [E,Rr,N,h,.int t]=.ok (.int (f t)))(no:∀s,1<=s->s<=most->¬ f s<=s):∀(j fuel:O)(l:Z)(z5:J L)(x7:F1 L),1<=l->most-l<j->j<fuel->z5.length+j<1000000 ->
  ∃δ,cj uX vp fuel [Y E,Y Rr,Y N,Y h,⇑most,↥z5,⇑l,x7]=.nx δ
 |j,0,l,z5,x7,_,_,hf,_=>Qr hf (Vc _)
 |0,fuel+1,l,z5,x7,h1,h3,hf,hc=>by unfold cj;rw[oR,av,P' (show ¬ l<=most by omega),I' #[1]];exact⟨_,rfl⟩
 |j+1,fuel+1,l,z5,x7,h1,h3,hf,hc=>by
  unfold cj;rw[oR,av];by_cases e:l<=most
  .rw[Ql e,HL rfl,u4 a l z5 ⋯];have hl:=no l h1 e;rw[I' (show ¬ f l=l by omega)];simp only;exact AZ a no j fuel (f l) (z5++[FC l]) _ ⋯ ⋯ ⋯ (by rw[NS,Ou];omega)
  .rw[P' e,I' #[1]];exact⟨_,rfl⟩
end
def cF:Gf
 |[d,r,.int n,.int h]=>if okW d r n&&decide (0<=h) then .ok (Ci (iz (cz d) (b0 r) n h)) else .no
 |_=>.no
theorem jI(h1:1<=es.length)(h2:es.length<=6)(a:∀e∈es,e.Wk)(b:bK es.length rs)(n0:0<=n)(n1:n<es.length)(c:0<=h):cF [aj es,ai rs,.int n,.int h]=.ok (Ci (iz es rs n h)):=by unfold cF;dsimp[mF h1 h2 a b n0 n1,Ql c,U2,QA,fE,eM]
theorem Al(R:mR (dR es rs n h))(e:qv es rs n h=Y T):Top (dR es rs n h) T/\T<=(au es n).every-(au es n).late:=by
 obtain⟨h1,h2,f,g⟩:=my e;have c:∀s,1<=s->s<T->¬ dR es rs n h s<=s:=λs a b=>Ru (g s a b)
 exact⟨⟨R.fix h1 (QC f) c,h1,c⟩,⋯⟩
theorem wm{f:L->L->Z->Z->Rs L}(h:(match ds with|[b,c,.int a,.int x3]=>f b c a x3|_=>.no)≠.no):∃b c a x3,ds=[b,c,.int a,.int x3]/\f b c a x3≠.no:=by
 rcases ds with _|⟨b,_|⟨c,_|⟨a,_|⟨x3,_|⟨y,ys⟩⟩⟩⟩⟩
 .cases h rfl
 .cases h rfl
 .cases h rfl
 .first|cases h rfl|(cases a <;> cases h rfl)
 .skip
  cases a with
  |int a =>
   cases x3 with
   |int x3 =>exact⟨_,_,_,_,rfl,h⟩
   |_=>cases h rfl
  |_=>first|cases h rfl|(cases x3 <;> cases h rfl)
 .first|cases h rfl|(cases a <;> first|cases h rfl|(cases x3 <;> cases h rfl))
theorem we(cs:Cs):LLq (ip cs cT) 4 4 cF:=by
 intro ds hl c;obtain⟨d,r,n,h,m,i⟩:=wm c;clear c;subst m;have c:=i;clear i
 .skip
  split at c
  .rename_i hc;dsimp[NG,Qm]at hc;obtain⟨hc,j⟩:=hc;obtain⟨es,rs,rfl,rfl,_,_,l1,l6,hok,g,n0,n1⟩:=gE hc;rw[jI l1 l6 hok g n0 n1 j];have e:∀t,cT [aj es,ai rs,.int n,.int h,.int t]=.ok (.int (dR es rs n h t)):=λt=>qc l1 l6 hok g n0 n1
   have R:=l7 (h:=h) hok g n0 n1 j;have f:=hok _ (bG n0 n1);have o:atI (es.map Er.d) n=Y (au es n).d:=eQ n0 n1;have p:dIx (aj es) (.int n)=Y (au es n).d:=o;have i2:dIx (au es n).d (.int 2)=Y (.int (au es n).late):=rfl;have u:dIx (au es n).d (.int 0)=Y (.int (au es n).every):=rfl;have e60:=f.e2;have la0:=f.l1;have f1:=R.one 1 #[1];generalize hM:(au es n).every-(au es n).late=M at *;have v:aW [5] 4 (g2 fI (g2 dIx (g2 dIx (ae 0) (ae 2)) ↑0) (g2 dIx (g2 dIx (ae 0) (ae 2)) ↑2)) #[3,⇑n,⇑h,S,S,S,S]=.nx #[3,⇑n,⇑h,⇑M,S,S,S]:=by rw[f9,HL #[2]];dsimp[dP,ax (show 0∉[5] by decide),ax (show 2∉[5] by decide),aC,aE,fh,Rs.ag,p,i2,u,Rs.ak,lO,av,hM];rfl
   have s2:dh [5] 5 ah #[3,⇑n,⇑h,⇑M,S,S,S]=.nx #[3,⇑n,⇑h,⇑M,↥[],S,S]:=rfl;have x:aW [5] 6 (ao cT #[0,0,1,2,3,↑1]) #[3,⇑n,⇑h,⇑M,↥[],S,S]=.nx #[3,⇑n,⇑h,⇑M,↥[],⇑(dR es rs n h 1),S]:=by rw[f9,HL #[2]];dsimp[bQ,aA,aL,ax (show 0∉[5] by decide),ax (show 1∉[5] by decide),ax (show 2∉[5] by decide),ax (show 3∉[5] by decide),aC,aE,fh,Rs.ag,e,av];rfl
   show bo (ip cs cT #[3,⇑n,⇑h,S,S,S,S])=_;dsimp[ip];rw[bg,v];simp only;rw[bg,s2];simp only;rw[bg,x];simp only;rw[bg];cases q:qv es rs n h with
   |some T =>
    obtain⟨P,l⟩:=Al R q;rw[hM]at l;have hle:dR es rs n h 1<=T:=by have:=R.mono 1 T #[1] P.one;rw[P.fix]at this;exact this
    have w:=AQ e R P l T.toNat 1000000 (dR es rs n h 1) [] S f1 hle ⋯ ⋯ (by simp;omega);rw[w];dsimp[iz,q,Oh,Ci,OF,cA]
   |none =>
    have no:∀s,1<=s->s<=M->¬ dR es rs n h s<=s:=λs a b=>by have:=uz q s a ⋯;exact Ru this
    obtain⟨δ,w⟩:=AZ e no 100 1000000 (dR es rs n h 1) [] S f1 ⋯ #[1] #[1];rw[w];dsimp[iz,q,F1.map_none,Ci,c7,fh,av,cA]
  .cases c rfl
def cn:Gf
 |[d,r,.int n,.int h]=>if okW d r n&&decide (0<=h) then .ok (bc (qv (cz d) (b0 r) n h)) else .no
 |_=>.no
theorem iR(h1:1<=es.length)(h2:es.length<=6)(a:∀e∈es,e.Wk)(b:bK es.length rs)(n0:0<=n)(n1:n<es.length)(c:0<=h):cn [aj es,ai rs,.int n,.int h]=.ok (bc (qv es rs n h)):=by unfold cn;dsimp[mF h1 h2 a b n0 n1,Ql c,U2,QA,fE,eM]
theorem t8(cs:Cs):LLq (fH cs cF) 4 1 cn:=by
 intro ds hl a;obtain⟨d,r,n,h,j,i⟩:=wm a;clear a;subst j;have a:=i;clear i
 .skip
  split at a
  .rename_i hc;dsimp[NG,Qm]at hc;obtain⟨hc,f⟩:=hc;obtain⟨es,rs,rfl,rfl,_,_,l1,l6,hok,g,n0,n1⟩:=gE hc;rw[iR l1 l6 hok g n0 n1 f];have c:=jI l1 l6 hok g n0 n1 f;have R:=l7 (h:=h) hok g n0 n1 f;show bo (fH cs cF #[3,⇑n,⇑h,S])=_;cases q:qv es rs n h with
   |none =>
    have e:iz es rs n h=none:=by unfold iz;rw[q];rfl
    rw[e]at c;simp[fH,c,Ci,bc,gIf]
   |some T =>
    obtain⟨P,hT⟩:=Al R q;have hle:dR es rs n h 1<=T:=by have:=R.mono 1 T #[1] P.one;rw[P.fix]at this;exact this
    have f1:=R.one 1 #[1];have e:iz es rs n h=Y (nV (dR es rs n h) T T.toNat (dR es rs n h 1)):=by unfold iz;rw[q];rfl
    rw[e]at c;have b:=qi R P T.toNat (dR es rs n h 1) f1 hle ⋯;have l:dIx (.list ((nV (dR es rs n h) T T.toNat (dR es rs n h 1)).map FC)) (.int (-1))=⇑T:=by show atI _ (-1)=_;rw[m8,Qc,b];rfl
    simp[fH,c,Ci,bc,l,gIf];rfl
  .cases a rfl
def bu:Gf
 |[d,r,.int n]=>if okW d r n then .ok (bc (bL (cz d) (b0 r) n)) else .no
 |_=>.no
theorem fJ(h1:1<=es.length)(h2:es.length<=6)(h:∀e∈es,e.Wk)(a:bK es.length rs)(n0:0<=n)(n1:n<es.length):bu [aj es,ai rs,.int n]=.ok (bc (bL es rs n)):=by unfold bu;dsimp[mF h1 h2 h a n0 n1,QA,fE,eM]
theorem mf(cs:Cs):LLq (dF cs bO cn) 3 0 bu:=by
 intro ds hl a;obtain⟨d,r,n,e,c⟩:=kC a;clear a;subst e;have a:=c;clear c
 .skip
  split at a
  .rename_i hc;obtain⟨es,rs,rfl,rfl,_,_,l1,l6,hok,b,n0,n1⟩:=gE hc;rw[fJ l1 l6 hok b n0 n1];have h1:=hU l1 l6 hok b n0 n1;have h2:=iR l1 l6 hok b n0 n1 (qQ es rs n);rw[yD]at h2;show bo (dF cs bO cn #[3,⇑n])=_;dsimp[dF,c7,bQ,aA,aL,aC,aE,Rs.ag,h1,h2,av,cA]
  .cases a rfl
theorem CA(cs:Cs):LLq (kF cs bu aU) 3 0 cM:=by
 intro ds hl a;obtain⟨d,r,n,f,c⟩:=kC a;clear a;subst f;have a:=c;clear c
 .skip
  split at a
  .rename_i hc;obtain⟨es,rs,rfl,rfl,_,_,l1,l6,hok,b,n0,n1⟩:=sR hc;have h1:=kQ l1 l6 hok b n0 n1;have g:=fJ l1 l6 (λe h=>(hok e h).wk) b n0 n1;have h2:=fq l1 l6 hok b n0 n1;show bo (kF cs bu aU #[3,⇑n])=_;dsimp[kF,bg,vz,bQ,aA,aL,aC,aE,Rs.ag,h2,av,c7,g,h1,cA]
  .cases a rfl
theorem Am{z7:L}{len:Qn}{js:J Jb}{out:J L}:∀(n k:O),vn z7 len n (stJ z7 len js k)=Y out->∃T,k<=T/\T<k+n/\out=(stJ z7 len js T).2/\(stJ z7 len js T).1.all Jb.done=true
 |0,k,h=>by cases h
 |n+1,k,h=>by
  unfold vn at h;split at h
  .rename_i hd;cases h;exact⟨k,ND _,⋯,rfl,hd⟩
  .obtain⟨T,h1,h2,a,b⟩:=Am n (k+1) h;exact⟨T,⋯,⋯,a,b⟩
section
variable {len:Qn}{t:J L}
theorem ud(R:Ran es rs z6 len)(C:Cms es z6)(b:xS es rs z6 len=Y t) :
  ∃q vb T,Trc (aJ es rs) es.length q vb/\(len="high"->nR (aJ es rs) es.length q vb)/\(∀m,m<es.length->∃row,z6[m]?=Y row/\q m 0=mkJ es rs m row)/\t.length=T/\T<1000000 /\
   (∀i,i<T->t[i]?=Y (match vb i with
    |some m=>eX (q m i)
    |none=>.none))/\∀m,m<es.length->(q m T).job=(q m T).row.length:=by
 have iv:IvJ (aJ es rs) 0 (startJ es rs z6):=wQ R C;have hv:=xA R;have sx:=xx R C;have hl:(startJ es rs z6).length=es.length:=by rw[kK,R.ln]
 have b:vn (aJ es rs) len 1000000 (stJ (aJ es rs) len (startJ es rs z6) 0)=Y t:=b;obtain⟨T,_,h2,c,h⟩:=Am 1000000 0 b;have f:=J5 (len:=len) iv hv sx;rw[hl]at f;refine⟨qJ (aJ es rs) len (startJ es rs z6),rh (aJ es rs) len (startJ es rs z6),T,f,λe{i m p} w hp th=>?_,λm hm=>?_,by rw[c,fA],⋯,λi hi=>?_,λm hm=>?_⟩
 .subst e;exact F9 iv hv sx w (by rw[hl];exact hp) th
 .have a:m<z6.length:=by rw[R.ln];exact hm
  refine⟨z6[m],My a,?_⟩;unfold qJ;show (startJ es rs z6).getD m default=_;rw[N9,mX,My a];rfl
 .rw[c,G3 hi];cases w:rh (aJ es rs) len (startJ es rs z6) i with
  |none =>
   unfold rh at w;split at w
   .rename_i z;rw[HL z]
   .cases w
  |some m =>obtain⟨_,z,e⟩:=jc iv hv sx w;rw[I' z];show _=Y (eX (qJ _ _ _ m i));rw[e]
 .have g:m<(stJ (aJ es rs) len (startJ es rs z6) T).1.length:=by rw[uL iv hv,hl];exact hm
  rw[k6 g];have:=NT.mp h _ (NV g);unfold Jb.done at this;have:=eq_of_beq this;omega
end
section
variable {len:Qn}{t:J L}
theorem kz(j:Jb):gO (eX j)=Y (j.num,(j.job:Z)):=rfl
theorem Trc.told{n:O}{q:O->O->Jb}{vb:O->F1 O}(R:Trc z7 n q vb){t:J L}{T:O} (f:∀i,i<T->t[i]?=Y (match vb i with
    |some m=>eX (q m i)
    |none=>.none)) (hl:t.length=T) (g:∀m,m<n->(q m 0).tot=0) (h:∀m,m<n->(q m T).job=(q m T).row.length) {a:O} (ha:a<n) {k:O} (hk:k<(q a 0).row.length) :
  (∃(j:O)(d:L),t[j]?=Y d/\gO d=Y ((a:Z),(k:Z)))/\∀(j:O)(d:L),t[j]?=Y d->gO d=Y ((a:Z),(k:Z))->(q a j).tot<((k:Z)+1)*(q a 0).work:=by
 have wp:=R.wpos ha 0;constructor
 .have h1:((k:Z)+1)*(q a 0).work<=(q a T).tot:=by have e:(q a T).tot=((q a T).job:Z)*(q a T).work+(q a T).cur:=rfl;have cb:=kY (R.ok T ha);rw[R.wk ha T,h a ha,(R.stay ha T).2.1]at e;have:=NU (a:=(k:Z)+1) (b:=((q a 0).row.length:Z)) (c:=(q a 0).work) ⋯ ⋯;omega
  have hkn:0<=(k:Z)*(q a 0).work:=Q4 ⋯ ⋯;have h2:(k:Z)*(q a 0).work+1<=(q a T).tot:=by rw[Pq]at h1;omega
  obtain⟨i,_,hi,w,e⟩:=R.passed ha (B:=0) (v:=(k:Z)*(q a 0).work+1) T (by rw[g a ha];omega) (by rw[Ob];exact h2);rw[Ob]at hi;have:=f i hi;rw[w]at this;refine⟨i,_,this,?_⟩;show gO (eX (q a i))=_;rw[kz,R.num i ha,R.job_tot ha i,e];rw[show (k:Z)*(q a 0).work+1-1=(k:Z)*(q a 0).work by omega,Z.mul_ediv_cancel _ ⋯]
 .intro j d hd hp;have l:j<T:=by rw[<-hl];exact (NC.mp hd).1
  rw[f j l]at hd;cases w:vb j with
  |none=>rw[w]at hd;cases hd;cases hp
  |some m =>
   rw[w]at hd;cases hd;rw[kz]at hp;have e1:=N4 hp;have hm:=R.lt w;have e2:=congrArg Prod.fst e1;have o:=congrArg Prod.snd e1;simp only at e2 o;rw[R.num j hm]at e2;have:m=a:=⋯
   subst this;have:=yV (R.ok j hm) (k:=k+1) ⋯;rw[R.wk hm j]at this;rw[show ((k+1:O):Z)=(k:Z)+1 by omega]at this;exact this
end
theorem Cms.at(h:Cms es z6):∀{i:O}{e:Er}{row:J Z},es[i]?=Y e->z6[i]?=Y row->qL row/\hvE e row=true:=by
 induction h with
 |nil=>intro i e row h;simp at h
 |cons h1 h2 _ ih =>
  intro i e row a b;cases i with
  |zero=>cases a;cases b;exact⟨h1,h2⟩
  |succ i=>exact ih a b
theorem De{ev la:Z}:∀{row:J Z}{m:Z},hvM ev la m row=true->∀k(h:k+1<row.length),row[k]+ev-la<=row[k+1]
 |[],_,_,k,h=>by simp at h
 |[_],_,_,k,h=>by simp at h
 |c::d::r,m,hh,k,h=>by
  unfold hvM at hh;have hw:c-la<=(if c-la>m then c-la else m):=by split <;> omega
  generalize (if c-la>m then c-la else m)=w at hh hw;by_cases h1:c<w
  .rw[HL h1]at hh;cases hh
  .rw[I' h1]at hh;cases k with
   |zero =>
    unfold hvM at hh;have a:w+ev<=(if d-la>w+ev then d-la else w+ev):=by split <;> omega
    generalize (if d-la>w+ev then d-la else w+ev)=u at hh a;by_cases h2:d<u
    .rw[HL h2]at hh;cases hh
    .show c+ev-la<=d;omega
   |succ k=>exact De hh k (by simpa using h)
theorem vY(ok:e.Ok){Dd:Z}(h:1<=Dd):(Dd-1+e.late) / e.every+1=e.times Dd:=by unfold Er.times;have e1:=ok.e1;have:=zR (x:=Dd+e.late) (e:=e.every) ⋯;rw[<-this];rw[show Dd+e.late+e.every-1=Dd-1+e.late+e.every*1 by omega,PZ _ _ ⋯]
theorem sN{Dd:Z}(h:bL es rs n=Y Dd):1<=Dd/\Dd<=(au es n).every-(au es n).late/\jz es rs n Dd<=Dd:=by unfold bL at h;have h1:=P9 h;obtain⟨i,hi,e⟩:=NH.mp (Oo h);have:=Of.mp hi;exact⟨⋯,⋯,QC h1⟩
theorem HC{t:J L}(R:Ran es rs z6 "high")(C:Cms es z6)(A2:xS es rs z6 "high"=Y t) :
  (∀d∈t,vm d)/\t.length<1000000/\(∀(a:O)(row:J Z),z6[a]?=Y row->∀k,k<row.length->∃v,eP (endsF 0 t []) ((a:Z),(k:Z))=Y v) /\
   ∀(a:O)(row:J Z)(Dd:Z),z6[a]?=Y row->bL es rs (a:Z)=Y Dd->∀k(y:k<row.length) v,eP (endsF 0 t []) ((a:Z),(k:Z))=Y v->v-row[k]<=Dd:=by
 obtain⟨q,vb,T,F,y,A,wb,K,f,r⟩:=ud R C A2;have Hk:nR (aJ es rs) es.length q vb:=y rfl;have M:∀m,m<es.length->(q m 0).tot=0:=λm hm=>by obtain⟨row,_,e⟩:=A m hm;rw[e];exact i8 m row
 have b:∀{a:O}{row:J Z},z6[a]?=Y row->a<es.length/\(q a 0).row=row/\(q a 0).parts=(au es (a:Z)).parts/\(q a 0).rank=(placeOf rs (a:Z):Z):=λ{a row} h=>by
  have ha:a<es.length:=by rw[<-R.ln];exact (NC.mp h).1
  obtain⟨s,h',e⟩:=A a ha;rw[h]at h';cases h';rw[e];exact⟨ha,rfl,rfl,rfl⟩
 have G:∀m:O,m<es.length->es[m]?=Y (au es (m:Z)):=λm hm=>by have:=jY (es:=es) (n:=(m:Z)) ⋯ ⋯;rw[O2]at this;exact this
 have D:∀m:O,m<es.length->(au es (m:Z)).Ok:=λm hm=>R.eok.ok _ (bG ⋯ ⋯)
 have g:∀m:O,m<es.length->∃row,z6[m]?=Y row/\qL row/\hvE (au es (m:Z)) row=true:=λm hm=>by obtain⟨row,h,_⟩:=A m hm;exact⟨row,h,C.at (G m hm) h⟩
 refine⟨λd hd=>?_,⋯,λa row h k y=>?_,λa row Dd h hL k y v hv=>?_⟩
 .obtain⟨i,hi,e⟩:=Od hd;have:=f i ⋯;rw[My hi,e]at this;cases w:vb i with
  |none=>rw[w]at this;left;exact N4 this
  |some m=>rw[w]at this;right;exact⟨((q m i).num,((q m i).job:Z)),N4 this⟩
 .obtain⟨ha,e1,_,_⟩:=b h;exact qI t 0 [] (.inl (F.told f wb M r ha (k:=k) (by rw[e1];exact y)).1)
 .obtain⟨ha,e1,e2,e3⟩:=b h;have I:k<(q a 0).row.length:=by rw[e1];exact y
  obtain⟨L1,L2,L3⟩:=sN hL;have N:((Dd.toNat:O):Z)=Dd:=⋯
  have main:=F.answer Hk M (λm hm=>by obtain⟨row,_,e⟩:=A m hm;rw[e];rfl) R.rok (λm hm=>by obtain⟨row,h,_⟩:=A m hm;exact (b h).2.2.2)
   (λm hm c hc=>by obtain⟨row,h,i1,_⟩:=g m hm;rw[(b h).2.1]at hc;exact i1.lo c hc)
   ha (H:=fj es rs (a:Z)) (Dd:=Dd.toNat) (tm:=λx=>(au es x).times Dd) (qQ es rs _)
   (λm hm hp p o T K X=>by
    have EE:(m:Z)∈rs.drop (placeOf rs (a:Z)+1):=by have l:=R.rok.mem (n:=(m:Z)) ⋯ ⋯;have hg:=eF l;rw[OU];refine⟨placeOf rs (m:Z)-(placeOf rs (a:Z)+1),?_⟩;rw[Ug,show placeOf rs (a:Z)+1+(placeOf rs (m:Z)-(placeOf rs (a:Z)+1))=placeOf rs (m:Z) by omega];exact hg
    obtain⟨row,h',_⟩:=A m hm;rw[(b h').2.2.1]at o;obtain⟨P,Q⟩:=((D m hm).pl p o).2.2 T K;have hh:(au es (m:Z)).has T=true:=by unfold Er.has;rw[Oz];exact⟨p,o,by rw[K];exact QF _⟩
    have l:=R.rok.mem (n:=(m:Z)) ⋯ ⋯;have D':(m:Z)∈rs.take (placeOf rs (m:Z)+1):=by rw[Vw,eF l];exact NF _ N1
    obtain⟨x,E,_⟩:=(qk es T rs 0 (placeOf rs (m:Z))).mpr ⟨(m:Z),D',hh⟩;have E:aX es rs T=Y x:=E;have B':dE (aJ es rs) T=x:=by unfold dE;rw[jx P Q E]
    rw[B']at X;exact (sq.mp (Om _)).2 (m:Z) EE p o T K (by
     first
     |exact⟨x,E,X⟩
     |exact (qk es T rs 0 (placeOf rs (a:Z))).mp ⟨x,E,⋯⟩))
   (by rw[e2];exact (D a ha).la)
   (λm hm hp B=>by
    obtain⟨row,h',i1,i2⟩:=g m hm;rw[(b h').2.1];have ok:=D m hm;have:=FA (ev:=(au es (m:Z)).every) (la:=(au es (m:Z)).late) (u:=(B:Z)-1) (t:=(B:Z)+Dd.toNat-1) (by have:=ok.e1;omega) ok.l1 ⋯ i2 (by have:=F.srt 0 hm;rw[(b h').2.1]at this;exact this)
    rw[N]at this ⊢;rw[show (B:Z)+Dd-1-((B:Z)-1)-1+(au es (m:Z)).late=Dd-1+(au es (m:Z)).late by omega,vY ok L1]at this;exact this)
   ⋯
   (by
    rw[N];have A4:∀m:O,m<es.length->(q m 0).work=(au es (m:Z)).work:=λm hm=>by obtain⟨row,h',_⟩:=A m hm;unfold Jb.work;rw[(b h').2.2.1];rfl
    have U:((rs.take (placeOf rs (a:Z))).map λx=>(au es x).times Dd*(q x.toNat 0).work)=(rs.take (placeOf rs (a:Z))).map λx=>(au es x).times Dd*(au es x).work:=NR λx E=>by have hr':=R.rok.rng x (Oe E);rw[A4 x.toNat ⋯,show ((x.toNat:O):Z)=x by omega]
    rw[U,A4 a ha];exact L3)
   (λj hj=>by
    have W:j+1<row.length:=by rw[<-e1];exact hj
    obtain⟨s,h',_,i2⟩:=g a ha;rw[h]at h';cases h';have:=De i2 j W;have g1:(q a 0).row[j]=row[j]:=by dsimp[e1]
    have g2:(q a 0).row[j+1]=row[j+1]:=by dsimp[e1]
    rw[g1,g2,N];omega) k I
  have g1:(q a 0).row[k]=row[k]:=by dsimp[e1]
  have c0:0<=row[k]:=by obtain⟨s,h',i1,_⟩:=g a ha;rw[h]at h';cases h';exact i1.lo _ (NV y)
  rcases nB t 0 [] hv with⟨j,d,d1,d2,d3⟩|z
  .have lt:=(F.told f wb M r ha I).2 j d d1 d2;have:j<row[k].toNat+Dd.toNat:=by
    refine Ue.mp λz=>?_
    have:=F.mono ha z;rw[g1]at main;omega
   omega
  .cases z
theorem uU{k:Z×Z}:∀(t:J L)(i:O)(l:PTl){v:Z},(∀u,eP l k=Y u->u<=(i:Z))->eP (endsF i t l) k=Y v->(∀u,eP l k=Y u->u<=v)/\∀(j:O)(d:L),t[j]?=Y d->gO d=Y k->(i:Z)+j+1<=v
 |[],i,l,v,_,h=>⟨λu c=>by rw[show eP l k=Y v from h]at c;cases c;exact Om _,λj d hd=>by simp at hd⟩
 |d::r,i,l,v,hl,h=>by
  have h:eP (endsF (i+1) r (match gO d with|some k=>uv l k ((i:Z)+1)|none=>l)) k=Y v:=h;cases hp:gO d with
  |none =>
   rw[hp]at h;obtain⟨a,b⟩:=uU r (i+1) l (λu c=>by have:=hl u c;omega) h;refine⟨a,λj d' hd f=>?_⟩;cases j with
   |zero=>have hd:Y d=Y d':=hd;cases hd;rw[hp]at f;cases f
   |succ j=>have:=b j d' (by simpa using hd) f;omega
  |some k' =>
   rw[hp]at h;have g:∀u,eP (uv l k' ((i:Z)+1)) k=Y u->u<=((i+1:O):Z):=λu c=>by
    rw[dm]at c;split at c
    .cases c;omega
    .have:=hl u c;omega
   obtain⟨a,b⟩:=uU r (i+1) _ g h;refine⟨λu c=>?_,λj d' hd f=>?_⟩
   .by_cases e:k=k'
    .have:=a ((i:Z)+1) (by rw[dm,HL e]);have:=hl u c;omega
    .exact a u (by rw[dm,I' e];exact c)
   .cases j with
    |zero =>have hd:Y d=Y d':=hd;cases hd;rw[hp]at f;cases f;have:=a ((i:Z)+1) (by rw[dm,HL rfl]);omega
    |succ j=>have:=b j d' (by simpa using hd) f;omega
section
variable {n:O}{q:O->O->Jb}{vb:O->F1 O}
theorem Trc.sum_le(R:Trc z7 n q vb)(b:bK n rs)(j:∀m,m<n->(q m 0).tot=0):∀i:O,(rs.map λx=>(q x.toNat i).tot).sum<=(i:Z)
 |0=>by rw[km _ λx c=>j _ (by have:=b.rng x c;omega)];exact Om _
 |i+1=>by
  have o:=R.sum_le b j i;have add:∀(f g:Z->Z)(l:J Z),(l.map λx=>f x+g x).sum=(l.map f).sum+(l.map g).sum:=λf g l=>by
   induction l with
   |nil=>rfl
   |cons a r o=>dsimp[N2,Oa,o];omega
  cases hw:vb i with
  |none =>
   have:(rs.map λx=>(q x.toNat (i+1)).tot)=rs.map λx=>(q x.toNat i).tot:=NR λx c=>by have h:=b.rng x c;rw[R.tot1 (i:=i) (m:=x.toNat) ⋯,hw,I' (by intro z;cases z)];omega
   rw[this];omega
  |some m =>
   have hit:=ux (m:=m) b.nd (λx c=>(b.rng x c).1) (b.mem ⋯ (by have:=R.lt hw;omega));have:(rs.map λx=>(q x.toNat (i+1)).tot)=rs.map λx=>(q x.toNat i).tot+(if m=x.toNat then (1:Z) else 0):=NR λx c=>by
    have h:=b.rng x c;rw[R.tot1 (i:=i) (m:=x.toNat) ⋯,hw];by_cases e:m=x.toNat
    .rw[HL (by rw[e]),HL e]
    .rw[I' (by intro z;cases z;exact e rfl),I' e]
   rw[this,add,hit];omega
theorem tQ{ps:J (Z×F1 Z)}(h:∀p∈ps,1<=p.1){a b:O}(c:a<=b):bj (ps.take a)<=bj (ps.take b):=by
 have:=fD (ps:=ps.take b) (λp hp=>h p (Oe hp)) a
 rwa[J.take_take,V9 c]at this
theorem HZ(h:JOk z7 j)(hp:p<j.parts.length)(h1:bj (j.parts.take p)+1<=j.cur)(h2:j.cur<bj (j.parts.take p)+j.parts[p].1):j.part=p/\j.spent≠0:=by
 have pt:=h.pt;have wb:j.len=j.parts[j.part].1:=by unfold Jb.len;rw[My pt];rfl
 have sp:=h.sp;have e1:=eE pt;have e2:=eE hp;unfold Jb.cur at h1 h2;have e:j.part=p:=by
  rcases O.lt_trichotomy j.part p with z|z|z
  .have:=tQ h.ln (a:=j.part+1) (b:=p) z;omega
  .exact z
  .have:=tQ h.ln (a:=p+1) (b:=j.part) z;omega
 refine⟨e,λz=>?_⟩;rw[e,z]at h1;simp at h1;omega
end
def bD(e:Er)(s:Z):J Int:=s::(M' 59).map λ(k:O)=>s+((k:Z)+1)*e.every-e.late
theorem fk(e:Er)(s:Z):(bD e s).length=60:=by simp[bD]
theorem u9(e:Er)(s:Z):(bD e s)[0]?=Y s:=rfl
theorem Bf(e:Er)(s:Z){k:O}(h1:1<=k)(h2:k<60):(bD e s)[k]?=Y (s+(k:Z)*e.every-e.late):=by
 obtain⟨j,rfl⟩:∃j,k=j+1:=⟨k-1,⋯⟩
 unfold bD;rw[Ov,NA,OB ⋯];show Y (s+((j:Z)+1)*e.every-e.late)=_;congr 1
structure Wst(es:J Er)(rs:J Z)(z6:J (J Z))(a start:O):Prop where
 hi:∀m:O,m<es.length->placeOf rs (m:Z)<=placeOf rs (a:Z)->z6[m]?=Y (bD (au es (m:Z)) start)
 bl:(start=0/\fj es rs (a:Z)<=0)\/∃(g p:O)(T:Z)(hp:p<(au es (g:Z)).parts.length),g<es.length/\placeOf rs (a:Z)<placeOf rs (g:Z)/\(au es (g:Z)).parts[p].2=Y T /\
  dE (aJ es rs) T<=(placeOf rs (a:Z):Z)/\(start:Z)=bj ((au es (g:Z)).parts.take p)+1/\fj es rs (a:Z)<=(au es (g:Z)).parts[p].1-1/\z6[g]?=Y [0] /\
  ∀m:O,m<es.length->m≠g->placeOf rs (a:Z)<placeOf rs (m:Z)->z6[m]?=Y []
section
variable {t:J L}{a start:O}
theorem vM{n:O}(f:bK n rs)(ha:a<n):rs=rs.take (placeOf rs (a:Z))++(a:Z)::rs.drop (placeOf rs (a:Z)+1):=by have b:=f.mem (n:=(a:Z)) ⋯ ⋯;have e:=eF b;have c:placeOf rs (a:Z)<rs.length:=(NC.mp e).1;have:=OA c;rw[(NC.mp e).2]at this;rw[<-this,P8]
theorem yo{n:O}(b:bK n rs){k:O}(hm:m<n)(h:k<=placeOf rs (m:Z)):(m:Z)∈rs.drop k:=by have a:=b.mem (n:=(m:Z)) ⋯ ⋯;have c:=eF a;rw[OU];exact⟨placeOf rs (m:Z)-k,by rw[Ug,show k+(placeOf rs (m:Z)-k)=placeOf rs (m:Z) by omega];exact c⟩
theorem Hm(R:Ran es rs z6 "high")(C:Cms es z6)(hr:xS es rs z6 "high"=Y t)(W:Wst es rs z6 a start)(ha:a<es.length){v:Z}(hv:eP (endsF 0 t []) ((a:Z),(0:Z))=Y v)
  (hf:v-start<=(au es (a:Z)).every-(au es (a:Z)).late):1<=v-start/\jz es rs (a:Z) (v-start)<=v-start:=by
 obtain⟨q,vb,T,f,X,h0,wb,hT,D,G⟩:=ud R C hr;have Hk:nR (aJ es rs) es.length q vb:=X rfl;have B':∀m,m<es.length->(q m 0).tot=0:=λm hm=>by obtain⟨row,_,e⟩:=h0 m hm;rw[e];exact i8 m row
 have o:∀{a:O}{row:J Z},z6[a]?=Y row->a<es.length/\(q a 0).row=row/\(q a 0).parts=(au es (a:Z)).parts/\(q a 0).rank=(placeOf rs (a:Z):Z):=λ{a row} h=>by
  have ha:a<es.length:=by rw[<-R.ln];exact (NC.mp h).1
  obtain⟨row',h',e⟩:=h0 a ha;rw[h]at h';cases h';rw[e];exact⟨ha,rfl,rfl,rfl⟩
 have r:∀m:O,m<es.length->(au es (m:Z)).Ok:=λm hm=>R.eok.ok _ (bG ⋯ ⋯)
 have all:∀m:O,m<es.length->∃row,z6[m]?=Y row:=λm hm=>by obtain⟨row,h,_⟩:=h0 m hm;exact⟨row,h⟩
 have ew:∀m:O,m<es.length->(q m 0).work=(au es (m:Z)).work:=λm hm=>by obtain⟨row,h'⟩:=all m hm;unfold Jb.work;rw[(o h').2.2.1];rfl
 have rk:∀m:O,m<es.length->∀i,(q m i).rank=(placeOf rs (m:Z):Z):=λm hm i=>by obtain⟨row,h'⟩:=all m hm;rw[(f.stay hm i).2.2,(o h').2.2.2]
 have tn:∀m:O,m<es.length->∀i,0<=(q m i).tot:=λm hm i=>by have:=f.mono hm (Ot i);rw[B' m hm]at this;exact this
 have wp:=f.wpos ha 0;have K:=W.hi a ha (ND _);obtain⟨_,ra,pa,_⟩:=o K
 -- its last time
 have hTa:(q a 0).work<=(q a T).tot:=by have e:(q a T).tot=((q a T).job:Z)*(q a T).work+(q a T).cur:=rfl;have cb:=kY (f.ok T ha);rw[f.wk ha T,G a ha,(f.stay ha T).2.1,ra,fk]at e;omega
 obtain⟨i,_,hi,w,e⟩:=f.passed ha (B:=0) (v:=(q a 0).work) T (by rw[B' a ha];omega) (by rw[Ob];exact hTa);rw[Ob]at hi;have E:(q a i).job=0:=by have:=f.job_tot ha i;rw[e,P5 ⋯ ⋯]at this;omega
 have M:=D i hi;rw[w]at M;have hpi:gO (eX (q a i))=Y ((a:Z),(0:Z)):=by rw[kz,f.num i ha,E];rfl
 have hvi:v=(i:Z)+1:=by
  have h1:=(uU t 0 [] (λu hu=>by cases hu) hv).2 i _ M hpi;rcases nB t 0 [] hv with⟨j,d,hd,hp,e2⟩|z
  .have h2:=(f.told D wb B' G ha (k:=0) (by rw[ra,fk];decide)).2 j d hd hp;by_cases hij:i<j
   .have h3:=f.mono ha (i:=i+1) (j:=j) hij;rw[f.tot1 ha,HL w]at h3;omega
   .omega
  .cases z
 have hst:(start:Z)<=i:=by have th:=f.thr w;unfold Jb.there at th;rw[(f.stay ha i).2.1,ra,E,u9]at th;simpa using th
 have s:(q a i).held=none:=rS (f.ok i ha) (by rw[(f.stay ha i).1,pa];exact (r a ha).la) (by have N:(q a i).tot=((q a i).job:Z)*(q a i).work+(q a i).cur:=rfl;rw[E,e]at N;rw[f.wk ha i];simp at N;omega)
 -- S above is there
 have up:∀m:O,m<es.length->placeOf rs (m:Z)<placeOf rs (a:Z)->(au es (m:Z)).times (v-start)*(au es (m:Z)).work<=(q m (i+1)).tot:=λm hm hp=>by
  have nth:¬ (q m i).there (i:Z)=true:=λth=>by obtain⟨T',EE,_⟩:=f.below Hk w hm th (Om _) (by rw[rk m hm,rk a ha];omega);rw[s]at EE;cases EE
  have h1:(dB (q m 0).row (i:Z):Z)*(q m 0).work<=(q m i).tot:=PL.mp λz=>nth (f.left hm z)
  have ok:=r m hm;have rm:=W.hi m hm (Q0 hp);obtain⟨_,y,_,_⟩:=o rm;have hs:=f.srt 0 hm;rw[<-vY ok (Dd:=v-start) ⋯];have e1:=ok.e1;have l1:=ok.l1;have l3:=ok.l3;have e2:=ok.e2;have ea2:=(r a ha).e2;have la1:=(r a ha).l1;have k0:0<=(v-start-1+(au es (m:Z)).late) / (au es (m:Z)).every:=Pl ⋯ ⋯;obtain⟨k,X⟩:=T4 k0;have hke:(k:Z)*(au es (m:Z)).every<=v-start-1+(au es (m:Z)).late:=by rw[<-X];exact Z.ediv_mul_le _ ⋯
  have P:k<60:=by
   by_cases z:k<60
   .exact z
   .exfalso;have:=NU (a:=(60:Z)) (b:=(k:Z)) (c:=(au es (m:Z)).every) ⋯ ⋯;omega
  have Q:k<(q m 0).row.length:=by rw[y,fk];exact P
  have D':(q m 0).row[k]<=(i:Z):=by
   have l:(q m 0).row[k]?=Y (q m 0).row[k]:=My Q;by_cases z:k=0
   .subst z;have A:(q m 0).row[0]?=Y (start:Z):=by rw[y];exact u9 _ _
    rw[l]at A;rw[N4 A];exact hst
   .have A:(q m 0).row[k]?=Y ((start:Z)+(k:Z)*(au es (m:Z)).every-(au es (m:Z)).late):=by rw[y];exact Bf _ _ ⋯ P
    rw[l]at A;rw[N4 A];omega
  have hc:=lM Q hs D';have h2:=NU (a:=(k:Z)+1) (b:=(dB (q m 0).row (i:Z):Z)) (c:=(q m 0).work) ⋯ (by have:=f.wpos hm 0;omega);have h3:=f.mono hm (Pd i);rw[X];rw[ew m hm]at h1 h2;exact Q2 h2 (Q2 h1 h3)
 have own:(q a (i+1)).tot=(au es (a:Z)).work:=by rw[f.tot1 ha,HL w,e,<-ew a ha];omega
 -- what is below
 have low:(start:Z)+fj es rs (a:Z)<=((rs.drop (placeOf rs (a:Z)+1)).map λx=>(q x.toNat (i+1)).tot).sum:=by
  have nn:∀x∈rs.drop (placeOf rs (a:Z)+1),0<=(q x.toNat (i+1)).tot:=λx A4=>tn _ (by have:=R.rok.rng x (Ox A4);omega) _
  rcases W.bl with⟨s0,h00⟩|⟨g,p,T',hp,l,hpl,hpt,htop,hsE,hH,rg,oth⟩
  .have:=yv (λx:Z=>(q x.toNat (i+1)).tot) nn;omega
  .have hgm:=yo R.rok l (k:=placeOf rs (a:Z)+1) hpl;have H:=Fb (λx:Z=>(q x.toNat (i+1)).tot) nn hgm;dsimp[O2]at H;obtain⟨_,rrg,pg,_⟩:=o rg;have hwg:bj ((au es (g:Z)).parts.take p)+(au es (g:Z)).parts[p].1<=(q g 0).work:=by unfold Jb.work;rw[pg,<-eE hp];exact fD (λp hp=>((r g l).pl p hp).1) (p+1)
   have hp1:=((r g l).pl _ (NV hp)).1
   -- it goes alone until start
   have alone:∀n:O,n<=start->(q g n).tot=(n:Z):=by
    intro n
    induction n with
    |zero=>intro _;exact B' g l
    |succ n A2 =>
     intro hn;have A2:=A2 ⋯;have I:(q g n).there (n:Z)=true:=f.left l (by
      rw[rrg,A2];have:dB [0] (n:Z)=1:=by rw[cV,HL ⋯];rfl
      rw[this];omega)
     have hwn:vb n=Y g:=by
      cases hw:vb n with
      |none=>have:=f.idl hw l;rw[I]at this;cases this
      |some m =>
       have hm:=f.lt hw;have thm:=f.thr hw;by_cases z:m=g
       .rw[z]
       .exfalso;unfold Jb.there at thm;rw[(f.stay hm n).2.1]at thm;by_cases zp:placeOf rs (m:Z)<=placeOf rs (a:Z)
        .obtain⟨_,y,_,_⟩:=o (W.hi m hm zp);rw[y]at thm;have ok:=r m hm;cases hjb:(q m n).job with
         |zero =>rw[hjb,u9]at thm;have:=QC thm;omega
         |succ j =>
          rw[hjb]at thm;split at thm
          .rename_i c hc;have hj:j+1<60:=by have:=(NC.mp hc).1;rwa[fk]at this
           rw[Bf _ _ ⋯ hj]at hc;have:=QC thm;have l3:=ok.l3;have e1:=ok.e1;have:=NU (a:=(1:Z)) (b:=((j+1:O):Z)) (c:=(au es (m:Z)).every) ⋯ ⋯;cases hc;omega
          .cases thm
        .obtain⟨_,y,_,_⟩:=o (oth m hm z ⋯);rw[y]at thm;simp at thm
     rw[f.tot1 l,HL hwn,A2];omega
   have hg1:=f.mono l (i:=start) (j:=i) ⋯;rw[alone start (ND _)]at hg1;have A:(start:Z)+((au es (g:Z)).parts[p].1-1)<=(q g i).tot:=PL.mp λno=>by
    have okg:=f.ok i l;have hjg:(q g i).job=0:=by have:=f.job_tot l i;rw[P5 ⋯ ⋯]at this;omega
    have ec:(q g i).cur=(q g i).tot:=by have N:(q g i).tot=((q g i).job:Z)*(q g i).work+(q g i).cur:=rfl;rw[hjg]at N;simp at N;omega
    have F:(q g i).parts=(au es (g:Z)).parts:=by rw[(f.stay l i).1,pg]
    have hp':p<(q g i).parts.length:=by rw[F];exact hp
    obtain⟨x1,x2⟩:=HZ okg hp' (by rw[ec,F];omega) (by
     rw[ec];have:(q g i).parts[p].1=(au es (g:Z)).parts[p].1:=by dsimp[F]
     rw[this,F];omega)
    have hh:(q g i).held=Y T':=by unfold Jb.held Jb.tool;rw[x1,F,My hp];simp[x2,hpt]
    have I:=f.spt i l x2;have k:=vB (Hk w l I);rw[qE s,qd hh (f.tp i l hh),rk a ha]at k;have:=k.2 ⋯ s;rw[hh]at this;cases this
   have hg3:=f.mono l (Pd i);have hsum':(q g (i+1)).tot<=((rs.drop (placeOf rs (a:Z)+1)).map λx=>(q x.toNat (i+1)).tot).sum:=H;have hg3':(q g i).tot<=(q g (i+1)).tot:=hg3;omega
 have sum:=f.sum_le R.rok B' (i+1);have high:((rs.take (placeOf rs (a:Z))).map λm=>(au es m).times (v-start)*(au es m).work).sum<=((rs.take (placeOf rs (a:Z))).map λx=>(q x.toNat (i+1)).tot).sum:=uY λx A4=>by
  have U:=R.rok.rng x (Oe A4);have:=up x.toNat ⋯ (by rw[OO U.1];exact qA A4)
  rwa[OO U.1]at this
 have dec:(rs.map λx=>(q x.toNat (i+1)).tot).sum=((rs.take (placeOf rs (a:Z))).map λx=>(q x.toNat (i+1)).tot).sum+((q a (i+1)).tot+((rs.drop (placeOf rs (a:Z)+1)).map λx=>(q x.toNat (i+1)).tot).sum):=by
  conv=>lhs;rw[vM R.rok ha]
  rw[Ol,N2,Vb,Oa,O2]
 refine⟨⋯,?_⟩;unfold jz;rw[dec,own]at sum;omega
theorem Kz(R:Ran es rs z6 "high")(C:Cms es z6)(p:xS es rs z6 "high"=Y t)(W:Wst es rs z6 a start)(ha:a<es.length){v:Z}(hv:eP (endsF 0 t []) ((a:Z),(0:Z))=Y v) :
  match bL es rs (a:Z) with
  |some Dd=>v-start=Dd
  |none=>(au es (a:Z)).due<v-start:=by
 have least:v-start<=(au es (a:Z)).every-(au es (a:Z)).late->∃Dd,bL es rs (a:Z)=Y Dd/\Dd<=v-start:=λr=>by
  obtain⟨h1,h2⟩:=Hm R C p W ha hv r;obtain⟨f,m⟩:∃f:O,v-start=1+(f:Z):=⟨(v-start-1).toNat,⋯⟩
  have c:1+(f:Z)∈(M' ((au es (a:Z)).every-(au es (a:Z)).late).toNat).map λ(i:O)=>(1+(i:Z)):=NH.mpr ⟨f,Of.mpr ⋯,rfl⟩
  have b:decide (jz es rs (a:Z) (1+(f:Z))<=1+(f:Z))=true:=Ql (by rw[<-m];exact h2);cases hL:bL es rs (a:Z) with
  |none =>unfold bL at hL;have:=OJ.mp hL _ c;exact Qr b this
  |some Dd =>
   refine⟨Dd,rfl,PL.mp λno=>?_⟩;unfold bL at hL;obtain⟨_,as,bs,e1,e2⟩:=J.find?_eq_some_iff_append.mp hL
   -- all ahead of Dd are no such
   obtain⟨j,hj,ej⟩:∃j:O,as.length=j/\Dd=1+(j:Z):=by
    refine⟨as.length,rfl,?_⟩;have h:((M' ((au es (a:Z)).every-(au es (a:Z)).late).toNat).map λ(i:O)=>(1+(i:Z)))[as.length]?=Y Dd:=by rw[e1];simp
    rw[NA]at h;obtain⟨x,q,ex⟩:=Oq.mp h;have:=OB (n:=((au es (a:Z)).every-(au es (a:Z)).late).toNat) (i:=as.length) (by have:=(NC.mp q).1;simpa using this);rw[q]at this;cases this;exact ex.symm
   have o:f<as.length:=⋯
   have h:as[f]?=Y (1+(f:Z)):=by
    have l:((M' ((au es (a:Z)).every-(au es (a:Z)).late).toNat).map λ(i:O)=>(1+(i:Z)))[f]?=Y (1+(f:Z)):=by rw[NA,OB ⋯];rfl
    rw[e1,O6 o]at l;exact l
   have:=e2 _ (O8 h);dsimp[b]at this;exact Qr this #[1]
 have g:=W.hi a ha (ND _);have up:=(HC R C p).2.2.2 a (bD (au es (a:Z)) (start:Z));cases hL:bL es rs (a:Z) with
 |some Dd =>have h1:=up Dd g hL 0 (by rw[fk];decide) v hv;have h2:(bD (au es (a:Z)) (start:Z))[0]'(by rw[fk];decide)=(start:Z):=rfl;rw[h2]at h1;obtain⟨L1,L2,L3⟩:=sN hL;obtain⟨s,e,l⟩:=least ⋯;rw[hL]at e;cases e;show v-start=Dd;omega
 |none =>
  show (au es (a:Z)).due<v-start;refine Wd.mp λno=>?_
  have d2:=(R.eok.ok _ (bG (es:=es) (n:=(a:Z)) ⋯ ⋯)).d2;obtain⟨s,e,l⟩:=least ⋯;rw[hL]at e;cases e
end
end RS
set_option maxHeartbeats 4000000
namespace L2
open PySem PySem.Spec PyProof.Rows
variable {ga gb:Ds->Rs L}{f:O}{es:QR UN}
structure jm(X:Cx)(σ:St)(z8:J (J'×Rv))(q l:J')(xs:J V)(Φ:Hp->Prop)(κ:O->V->Hp->Prop)(lt:O->O->Qo):Prop where
 lst:∀H,Φ H->H l=Y (.lst xs)
 turn:∀(i:O)(x:V),xs[i]?=Y x->∀(pins':J (J'×Rv))(H:Hp)(s:LN)(u:GC),(∀p∈z8,p∈pins')->Inv X.in1 pins' σ H s->Φ H->RelV x u ->
  wpAny (model X.prog X.w) X.A.in1 (call (.ref q) [u]) (EP X.in1 pins' σ λv H'=>Φ H'/\κ i v H'/\∀j v',κ j v' H->κ j v' H') (λ_ _=>False) s
 cmp:∀(i j:O)(x y:V)(pins':J (J'×Rv))(H:Hp)(s:LN)(u v:GC),Inv X.in1 pins' σ H s->Φ H->κ i x H->κ j y H->RelV x u->RelV y v ->
  wpAny (model X.prog X.w) X.A.in1 (richCompare .Gt u v) (λr s'=>r=.bool (lt i j)/\Inv X.in1 pins' σ H s') (λ_ _=>False) s
section
variable {q l:J'}{Φ:Hp->Prop}{lt:O->O->Qo}{R:Tz->LN->Prop}
theorem HR(KK:jm X σ z8 q l xs Φ κ lt)(hh:X.A.handled=S)
  (hR:∀H' s' x u,xs[bst lt (xs.length-1)]?=Y x->RelV x u->Inv X z8 σ H' s'->Φ H'->R (.ok (.ret u)) s') :
  ∀(r j:O)(H:Hp)(s:LN)(g f:GC)(A2 kb:V)(c:O)(It D':J')(C:Rv),xs.length-(j+1)=r->j+1<=xs.length->X.s₀.heap.objs.size<=It->X.s₀.heap.objs.size<=D'->D'≠It ->
   (∀p∈X.pn++z8,p.1≠It)->(∀p∈X.pn++z8,p.1≠D') ->
   Inv X.in1 ((D',seqObj "list" #[g,f] c)::(It,C)::z8) σ H s->C.cls=.type "list_iterator"->C.data=.fields #[.ref l,.int ((j+1:O):Z) 0]->Φ H->xs[bst lt j]?=Y A2->RelV A2 g->κ (bst lt j) kb H->RelV kb f ->
   codeAny (model X.prog X.w) X.A (.builtin "max.loop" ⟨[.ref It,.ref q,.ref D'],[]⟩) R s:=by
 have m:(toString "max"++toString ".loop":RI)="max.loop":=by decide
 intro r
 induction r with
 |zero =>
  intro j H s g f A2 kb c It D' C hr hj zI zS h Dd nS I M N t hb rb EE rk;have hin:j+1=xs.length:=⋯
  have pS:=I.pin (D',seqObj "list" #[g,f] c) (NF _ (.head _));have D:=I.pin (It,C) (NF _ (.tail _ (.head _)));have hl:=KK.lst H t;obtain⟨its,n,rv,eL,_⟩:=I.lst hl;have P:l≠It:=aI hl D.2.1;have hsz:its.toArray.size=xs.length:=by rw[NM,<-rv.length]
  have W:=Sj (prog:=X.prog) (w:=X.w) (A:=X.A.in1) hh It l P its.toArray;refine QE RH ?_;rw[Qu QB _];show wpAny _ X.A.in1 (seqItems? (.ref D') >>= _) _ _ _;refine F' (QX pS.1 rfl ?_);show wpAny _ X.A.in1 (tryCatch (pyNext (.ref It)) _ >>= _) _ _ _;refine F' (Qy (W.done _ _ _ ⟨by rw[hsz,<-hin];exact⟨C,D.1,M,N⟩,⟨_,eL,rfl,n,rfl⟩⟩ λh' i Q=>?_));have I1:Inv X.in1 ((D',seqObj "list" #[g,f] c)::z8) σ H {s with heap:=h',toks:=i}:=by
   have I0:Inv X.in1 ((D',seqObj "list" #[g,f] c)::z8) σ H s:=I.pins_of λp hp=>I.pin p (NF _ (by
    rcases NB.mp hp with rfl|hp
    .exact .head _
    .exact .tail _ (.tail _ hp)))
   refine I0.turned (λb o T e=>Q b o (by simpa using T) e) D.2.1 D.2.2.1 (.inr zI) (λx cc U z=>?_) λp hp=>?_
   .obtain⟨v,o2,e2,d2⟩:=I.cell x cc U;subst z;rw[D.1]at e2;cases e2;exact D.2.2.2.2 v d2
   .rcases NZ.mp hp with hp|hp
    .exact Dd p (O1 _ hp)
    .rcases NB.mp hp with rfl|hp
     .exact h
     .exact Dd p (NF _ hp)
  have y:=I1.pin (D',seqObj "list" #[g,f] c) (NF _ (.head _));have s1:=RZ h' D' (Ri λ_=>(#[]:QR GC));show wpAny _ X.A.in1 (updateSeq D' (λ_=>#[]) >>= _) _ _ _;refine F' ?_;refine Rg y.1 rfl (F' (Rj (K' ?_)));have I2:Inv X.in1 z8 σ H {s with heap:=h'.update D' (Ri λ_=>(#[]:QR GC)),toks:=i}:=by
   have I0:Inv X.in1 z8 σ H {s with heap:=h',toks:=i}:=I1.pins_of λp hp=>I1.pin p (NF _ (.tail _ hp))
   refine I0.turned (h':=h'.update D' (Ri λ_=>(#[]:QR GC))) (t':=i) (λb o T e=>(s1.2 b T).trans e) y.2.1 y.2.2.1 (.inr zS) (λx cc U z=>?_) nS;obtain⟨v,o2,e2,d2⟩:=I1.cell x cc U;subst z;rw[y.1]at e2;cases e2;exact y.2.2.2.2 v d2
  exact hR H _ A2 g (by rw[<-hin];exact hb) rb I2.of1 t
 |succ r ih =>
  intro j H s g f A2 kb c It D' C hr hj zI zS h Dd nS I M N t hb rb EE rk;have E:j+1<xs.length:=⋯
  have pS:=I.pin (D',seqObj "list" #[g,f] c) (NF _ (.head _));have D:=I.pin (It,C) (NF _ (.tail _ (.head _)));have hl:=KK.lst H t;obtain⟨its,n,rv,eL,_⟩:=I.lst hl;have P:l≠It:=aI hl D.2.1;have hsz:its.toArray.size=xs.length:=by rw[NM,<-rv.length]
  have W:=Sj (prog:=X.prog) (w:=X.w) (A:=X.A.in1) hh It l P its.toArray;refine QE RH ?_;rw[Qu QB _];show wpAny _ X.A.in1 (seqItems? (.ref D') >>= _) _ _ _;refine F' (QX pS.1 rfl ?_);show wpAny _ X.A.in1 (tryCatch (pyNext (.ref It)) _ >>= _) _ _ _;refine F' (Qy (W.item (j+1) _ _ _ (by rw[hsz];exact E) ⟨⟨C,D.1,M,N⟩,⟨_,eL,rfl,n,rfl⟩⟩ λv h' i hP hst' Q=>?_));have hv:its[j+1]?=Y v:=by simpa using hP
  obtain⟨x,hx⟩:∃x,xs[j+1]?=Y x:=⟨_,My E⟩
  obtain⟨v',hv',rx⟩:=rv.get hx;rw[hv]at hv';cases hv';obtain⟨G,hoI',hoc,A4⟩:=id hst'.1;have B':Inv X.in1 ((It,G)::(D',seqObj "list" #[g,f] c)::z8) σ H {s with heap:=h',toks:=i} :=
   I.swap.turnPin (λb o T e=>Q b o (by simpa using T) e) hoI' zI (λp hp=>by
    rcases NZ.mp hp with hp|hp
    .exact Dd p (O1 _ hp)
    .rcases NB.mp hp with rfl|hp
     .exact h
     .exact Dd p (NF _ hp)) λvv z=>by rw[A4]at z;cases z
  show wpAny _ X.A.in1 (tryCatch (holding [v] (call (.ref q) [v])) _ >>= _) _ _ _;refine F' (Qy (QN (QU (KK.turn (j+1) x hx _ H _ v (λp hp=>.tail _ (.tail _ hp)) B' t rx) (λa s2 he=>?_) λ_ _ hF=>hF.elim)));obtain⟨kv,H2,J2,rk2,B,K,hst⟩:=he;show wpAny _ X.A.in1 (tryCatch (holding [v,a] (richCompare .Gt a f >>= _)) _ >>= _) _ _ _;refine F' (Qy (QN (F' (QU (KK.cmp (j+1) (bst lt j) kv kb _ H2 s2 a f J2 B K (hst _ _ EE) rk2 rk) (λrr s3 hc3=>?_) λ_ _ hF=>hF.elim))));obtain⟨rfl,J3⟩:=hc3;refine F' (QN (QG ?_));refine F' (Rj (K' ?_));have pS3:=J3.pin (D',seqObj "list" #[g,f] c) (NF _ (.tail _ (.head _)));cases hb':lt (j+1) (bst lt j) with
  |true =>
   have s1:=RZ s3.heap D' (Ri λ_=>#[v,a]);obtain⟨c2,hc2⟩:∃c2,(s3.heap.update D' (Ri λ_=>#[v,a])).get? D'=Y (seqObj "list" #[v,a] c2):=⟨_,Vd pS3.1 λ_=>#[v,a]⟩
   dsimp[QA];refine F' ?_;refine Rg pS3.1 rfl (F' (Rj ?_));rw[m];have J4:Inv X.in1 ((D',seqObj "list" #[v,a] c2)::(It,G)::z8) σ H2 {s3 with heap:=s3.heap.update D' (Ri λ_=>#[v,a]),toks:=s3.toks} :=
    J3.swap.turnPin (λb o T e=>(s1.2 b T).trans e) hc2 zS (λp hp=>by
     rcases NZ.mp hp with hp|hp
     .exact nS p (O1 _ hp)
     .rcases NB.mp hp with rfl|hp
      .exact h.symm
      .exact nS p (NF _ hp)) λvv z=>by cases z
   have eb:bst lt (j+1)=j+1:=by unfold bst;rw[HL hb']
   exact K' ⟨QP QB _,ih (j+1) H2 _ v a x kv c2 It D' G ⋯ E zI zS h Dd nS J4 hoc A4 B (by rw[eb];exact hx) rx (by rw[eb];exact K) rk2⟩
  |false =>
   dsimp[OT,RL];refine F' (Rj ?_);rw[m];have eb:bst lt (j+1)=bst lt j:=by rw[bst,I' (by rw[hb'];decide)]
   exact K' ⟨QP QB _,ih (j+1) H2 _ g f A2 kb c It D' G ⋯ E zI zS h Dd nS J3.swap hoc A4 B (by rw[eb];exact hb) rb (by rw[eb];exact hst _ _ EE) rk⟩
theorem Kp(KK:jm X σ z8 q l xs Φ κ lt)(hh:X.A.handled=S)(I:Inv X z8 σ H s)(m:Φ H)(f:0<xs.length)
  (hQ:∀H' s' x u,xs[bst lt (xs.length-1)]?=Y x->RelV x u->Inv X z8 σ H' s'->Φ H'->Q u s') :
  wpAny (model X.prog X.w) X.A (call (.builtin "max") [.ref l] [(R9 "key",.ref q)]) Q E s:=by
 have c:(toString "max"++toString ".loop":RI)="max.loop":=by decide
 have hl:=KK.lst H m;obtain⟨its,n,rv,M,_⟩:=I.lst hl;have N:s.heap.IsList l its.toArray:=⟨_,M,rfl,n,rfl⟩
 refine kmk_tree F.kind_max F.plain_max F.entry_max (kmk_max_key _ _) ?_;show wpAny _ X.A.in1 (QZ "max" ["key", "default"] 0 ⟨[],[(R9 "key",.ref q)]⟩ >>= _) _ _ s;refine F' (TH (show QZ "max" ["key", "default"] 0 ⟨[],[(R9 "key",.ref q)]⟩=pure [Y (.ref q),S] from rfl) ?_);refine F' (K' ?_);refine F' (RO N ?_);refine F' (wpAny_newList ?_ (Ot _));rw[c];have EE:(s.heap.push {cls:=.type "list_iterator",data:=.fields #[.ref l,.int 0 0]}).objs.size=s.heap.objs.size+1:=size_push' ..;have P:l<s.heap.objs.size:=NI M;have R:l≠s.heap.objs.size:=NJ P;have g:(s.heap.push {cls:=.type "list_iterator",data:=.fields #[.ref l,.int 0 0]}).objs.size≠s.heap.objs.size:=by rw[EE];exact OP (Pe _)
 have T:∀p∈X.pn++z8,p.1≠s.heap.objs.size:=λp hp=>NJ (NI (I.pin p hp).1)
 have U:∀p∈X.pn++z8,p.1≠(s.heap.push {cls:=.type "list_iterator",data:=.fields #[.ref l,.int 0 0]}).objs.size:=λp hp=>by rw[EE];exact NJ (Oj (NI (I.pin p hp).1))
 refine K' ⟨QP QB _,?_⟩;have gI:((s.heap.push {cls:=.type "list_iterator",data:=.fields #[.ref l,.int 0 0]}).push (seqObj "list" #[] 0)).get? s.heap.objs.size=Y {cls:=.type "list_iterator",data:=.fields #[.ref l,.int 0 0]} :=
  N5 _ (NN _ rfl)
 have gS:((s.heap.push {cls:=.type "list_iterator",data:=.fields #[.ref l,.int 0 0]}).push (seqObj "list" #[] 0)).get? (s.heap.push {cls:=.type "list_iterator",data:=.fields #[.ref l,.int 0 0]}).objs.size=Y (seqObj "list" #[] 0):=NN _ rfl;have A4:X.s₀.heap.objs.size<=s.heap.objs.size:=I.sz;have zS:X.s₀.heap.objs.size<=(s.heap.push {cls:=.type "list_iterator",data:=.fields #[.ref l,.int 0 0]}).objs.size:=by rw[EE];exact Ux A4
 generalize eSa:(s.heap.push {cls:=.type "list_iterator",data:=.fields #[.ref l,.int 0 0]}).objs.size=D' at *;generalize eIa:s.heap.objs.size=It at *;have I0:Inv X.in1 z8 σ H {s with heap:=(s.heap.push {cls:=.type "list_iterator",data:=.fields #[.ref l,.int 0 0]}).push (seqObj "list" #[] 0),toks:=s.toks}:=I.in1.kept λb u e=>N5 _ (N5 _ e)
 have h:s.heap.objs.size<=It:=Uk eIa;have i:s.heap.objs.size<=D':=⋯
 have I1:Inv X.in1 ((D',seqObj "list" #[] 0)::(It,{cls:=.type "list_iterator",data:=.fields #[.ref l,.int 0 0]})::z8) σ H {s with heap:=(s.heap.push {cls:=.type "list_iterator",data:=.fields #[.ref l,.int 0 0]}).push (seqObj "list" #[] 0),toks:=s.toks}:=by
  refine I0.pins_of λp hp=>?_
  rcases NB.mp hp with rfl|hp
  .exact⟨gS,I.hok.fresh i,OP (NX I.lt i),I.nofs i,λv z=>by cases z⟩
  .rcases NB.mp hp with rfl|hp
   .exact⟨gI,I.hok.fresh h,OP (NX I.lt h),I.nofs h,λv z=>by cases z⟩
   .exact I0.pin p (NF _ hp)
 have hsz:its.toArray.size=xs.length:=by rw[NM,<-rv.length]
 have W:=Sj (prog:=X.prog) (w:=X.w) (A:=X.A.in1) hh It l R its.toArray;refine QE RH ?_;rw[Qu QB _];show wpAny _ X.A.in1 (seqItems? (.ref _) >>= _) _ _ _;refine F' (QX gS rfl ?_);show wpAny _ X.A.in1 (tryCatch (pyNext (.ref It)) _ >>= _) _ _ _;refine F' (Qy (W.item 0 _ _ _ (by rw[hsz];exact f) ⟨⟨_,gI,rfl,rfl⟩,⟨_,N5 _ (N5 _ M),rfl,n,rfl⟩⟩ λv h' A2 hP r hk'=>?_));have hv:its[0]?=Y v:=by simpa using hP
 obtain⟨x,t⟩:∃x,xs[0]?=Y x:=⟨_,My f⟩
 obtain⟨v',y,rx⟩:=rv.get t;rw[hv]at y;cases y;obtain⟨j,B,hoc,C⟩:=id r.1;have B':Inv X.in1 ((It,j)::(D',seqObj "list" #[] 0)::z8) σ H {s with heap:=h',toks:=A2} :=
  I1.swap.turnPin (λb o nb e=>hk' b o (by simpa using nb) e) B A4 (λp hp=>by
   rcases NZ.mp hp with hp|hp
   .exact T p (O1 _ hp)
   .rcases NB.mp hp with rfl|hp
    .exact g
    .exact T p (NF _ hp)) λvv z=>by rw[C]at z;cases z
 show wpAny _ X.A.in1 (tryCatch (holding [v] (call (.ref q) [v])) _ >>= _) _ _ _;refine F' (Qy (QN (QU (KK.turn 0 x t _ H _ v (λp hp=>.tail _ (.tail _ hp)) B' m rx) (λa s2 he=>?_) λ_ _ hF=>hF.elim)));obtain⟨kv,H2,J2,rk2,D,G,_⟩:=he;have K:=J2.pin (D',seqObj "list" #[] 0) (NF _ (.tail _ (.head _)));have s1:=RZ s2.heap D' (Ri λ_=>#[v,a]);obtain⟨Dd,hc2⟩:∃Dd,(s2.heap.update D' (Ri λ_=>#[v,a])).get? D'=Y (seqObj "list" #[v,a] Dd):=⟨_,Vd K.1 λ_=>#[v,a]⟩
 show wpAny _ X.A.in1 (updateSeq D' (λ_=>#[v,a]) >>= _) _ _ _;refine F' ?_;refine Rg K.1 rfl ?_;rw[c];have J4:Inv X.in1 ((D',seqObj "list" #[v,a] Dd)::(It,j)::z8) σ H2 {s2 with heap:=s2.heap.update D' (Ri λ_=>#[v,a]),toks:=s2.toks} :=
  J2.swap.turnPin (λb o nb e=>(s1.2 b nb).trans e) hc2 zS (λp hp=>by
   rcases NZ.mp hp with hp|hp
   .exact U p (O1 _ hp)
   .rcases NB.mp hp with rfl|hp
    .exact g.symm
    .exact U p (NF _ hp)) λvv z=>by cases z
 exact K' ⟨QP QB _,HR KK hh (λH' s' x u t ru B' hp=>hQ H' s' x u t ru B' hp) _ 0 H2 _ v a x kv Dd It D' j rfl f A4 zS g T U J4 hoc C D t rx G rk2⟩
end
theorem jm.more{q l:J'}{Φ:Hp->Prop}{lt:O->O->Qo}(K:jm X σ [] q l xs Φ κ lt):jm X σ z8 q l xs Φ κ lt :=
 ⟨K.lst,λi x a pins' H s u _=>K.turn i x a pins' H s u (λ_ h=>nomatch h),K.cmp⟩
def GJ(X:Cx)(ta tb:TE):TE:=λσ H Q=>ta σ H λx H1=>tb σ H1 λy H2=>∃(l q:J')(xs:J V)(Φ:Hp->Prop)(κ:O->V->Hp->Prop)(lt:O->O->Qo),x=.ref l/\y=.ref q/\0<xs.length/\Φ H2/\jm X σ [] q l xs Φ κ lt /\
 ∀a v,Φ a->xs[bst lt (xs.length-1)]?=Y v->Q v a
section
variable {a b:Qt}{ta tb:TE}
theorem CI(hc:X.calm=true)(hm:X.mg "max"=S)(ha:PE X a ta)(j:PE X b tb)(m:Gl X "max":=by rfl)(f:starEach [a] X.env=[(false,eval a X.env)]:=by rfl)(wk:∀{σ H} {Q c:VK},ta σ H Q->(∀x H,Q x H->c x H)->ta σ H c)(g:∀{σ H} {Q c:VK},tb σ H Q->(∀x H,Q x H->c x H)->tb σ H c) :
  PE X (.Call (.Name "max" p) [a] [⟨Y "key",b,kp⟩] pos) (GJ X ta tb):=by
 intro z8 s σ H Q I h;refine Rh (fz I m hm AN ?_ #[1] #[1]);refine callWith_kw ?_ (by rw[f];rfl) (by rw[f];rfl) rfl rfl;refine thn ((dJ ha fO f) pos z8 s σ H (λvs H1=>∃x,vs=[x]/\tb σ H1 λy H2=>∃(l q:J')(xs:J V)(Φ:Hp->Prop)(κ:O->V->Hp->Prop)(lt:O->O->Qo),x=.ref l/\y=.ref q/\0<xs.length/\Φ H2/\jm X σ [] q l xs Φ κ lt /\
   ∀e v,Φ e->xs[bst lt (xs.length-1)]?=Y v->Q v e) I
  (wk h λx H1 q=>⟨x,rfl,q⟩)) λus s1 ⟨vs,H1,I1,r1,x,q0,q1⟩=>?_
 subst q0;obtain⟨u,rfl,i⟩:=vals1 r1;refine thn ((zT j Fu) pos z8 s1 σ H1 (λvs H2=>∃y,vs=[y]/\∃(l q:J')(xs:J V)(Φ:Hp->Prop)(κ:O->V->Hp->Prop)(lt:O->O->Qo),x=.ref l/\y=.ref q/\0<xs.length/\Φ H2/\jm X σ [] q l xs Φ κ lt /\
   ∀e v,Φ e->xs[bst lt (xs.length-1)]?=Y v->Q v e) I1
  (g q1 λy H2 q=>⟨y,rfl,q⟩)) λws s2 ⟨zs,H2,I2,r2,y,q2,l,q,xs,Φ,κ,lt,ex,ey,hn,hΦ,KK,hQ⟩=>?_
 subst q2;obtain⟨v,rfl,n⟩:=vals1 r2;subst ex ey;obtain rfl:u=Qw l:=i;obtain rfl:v=Qw q:=n;exact Kp KK.more (I2.ok.hd hc) I2 hΦ hn λH' s' x u o i B' hp=>⟨x,H',B',i,hQ H' x hp o⟩
theorem xQ{q l c':J'}{Φ:Hp->Prop}{lt:O->O->Qo}{k:O}{p:Qn}{n:GC}{t:TE}
  (D':mr N [p] scope) (T:cO (k+2) X.A) (f:∀x c,cl.lookup x=Y c->X.env.cells.lookup x=Y c) (has:∀x,scope.names.lookup x=Y .free->∃c,cl.lookup x=Y c) (U:N.length=1+cap.length)
  (B:∀(i m:O)(x:Qn),N[1+i]?=Y x->cap[i]?=Y m->X.N[m]?=Y x/\scope.names.lookup x=Y .free/\(X.env.kindOf x=Y .cell\/X.env.kindOf x=Y .free)/\Vis X.env.scope x)
  (A4:∀u,bindArgs (PySem.W.kla_fn "<lambda>" qual params body scope cl pm (.ref c') n) ⟨[u],[]⟩=pure ([p].zip [u]))
  (D:∀H,Φ H->H l=Y (.lst xs)) (Dd:∀H,Φ H->H q=Y (.frz (PySem.W.kla_obj "<lambda>" qual params body scope cl pm c' n) (.own q))/\∃o vs t,H c'=Y (.frz o (.own c'))/\o.data=.fields vs/\vs[1]?=Y (.str qual t))
  (g:∀(s:LN)(H:Hp),PE (tM (CXW X.prog X.w) X.prog X.w X.K X.mg X.base N qual scope q (.ref c') cl X.A.in1 X.stack s H E0) body t)
  (turn:∀(i:O)(x:V)(H:Hp),xs[i]?=Y x->Φ H->t (Y x::cap.map λm=>(σ[m]?).join) H λv H'=>Φ H'/\κ i v H'/\∀j EE,κ j EE H->κ j EE H')
  (cmp:∀(i j:O)(x y:V)(pins':J (J'×Rv))(H:Hp)(s:LN)(u v:GC),Inv X.in1 pins' σ H s->Φ H->κ i x H->κ j y H->RelV x u->RelV y v ->
   wpAny (model X.prog X.w) X.A.in1 (richCompare .Gt u v) (λr s'=>r=.bool (lt i j)/\Inv X.in1 pins' σ H s') (λ_ _=>False) s):jm X σ [] q l xs Φ κ lt:=by
 refine⟨D,λi x A2 pins' H s u _ I F ru=>?_,cmp⟩;obtain⟨h,oc,vs,tt,h1,h2,h3⟩:=Dd H F;have C:Ku s H cl scope N [p].length (cap.map λm=>(σ[m]?).join):=by
  refine⟨λa b c e1 e2=>I.ok.inj a b c (f a c e1) (f b c e2),has,λa c e=>I.cell a c (f a c e),λa c e=>I.freeC a c (f a c e),by rw[N8];exact U,λj y v e1 e2=>?_⟩;rw[NA]at e2;cases hm:cap[j]? with
  |none=>rw[hm]at e2;cases e2
  |some m =>
   rw[hm]at e2;have G:(σ[m]?).join=Y v:=by simpa using e2
   obtain⟨hX,P,B',hv⟩:=B j m y e1 hm;have e4:σ[m]?=Y (Y v):=by
    cases z:σ[m]? with
    |none=>rw[z]at G;cases G
    |some w=>rw[z]at G;cases w with
     |none=>cases G
     |some w=>cases G;rfl
   obtain⟨mm,hn,hl⟩:=I.loc;obtain⟨u,rv,lk⟩:=hl m y v hX e4 hv;rcases lk with⟨z,_⟩|⟨_,c,M,e6⟩
   .have z:X.env.kindOf y=Y .local:=z;rcases B' with B'|B' <;> (rw[z]at B';cases B')
   .obtain⟨c2,Q⟩:=has y P;have R:=f y c2 Q;have M:X.env.cells.lookup y=Y c:=M;rw[M]at R;cases R;exact⟨u,c,rv,P,Q,e6⟩
 refine U9 (Rz (F3 (CX:=CXW X.prog X.w) (E:=E0) D' T.in1 I.env0 rfl (.cons ru .nil) C (I.hok q _ h).1 ⟨c',oc,vs,tt,rfl,(I.hok c' _ h1).1,h2,h3⟩ (A4 u) (g s H) (turn i x H A2 F)) λr s' h=>?_);cases r with
 |error e=>obtain⟨_,_,_,_,_,_,z,_⟩:=h;exact z.elim
 |ok fl =>
  cases fl with
  |ret u=>exact I.after h
  |next=>exact QQ h
  |brk=>exact QQ h
  |cont=>exact QQ h
end
def isI:L->Qo
 |.int _=>true
 |_=>false
def gtD:L->L->Qo
 |.int a,.int b=>decide (b<a)
 |_,_=>false
def iu(cap:J O)(ga gb:Ds->Rs L):Ds->Rs PyData:=λδ=>(ga δ).bind λd=>match d with
 |.list ds=>if 0<ds.length then okR (allR (λx=>gb (Y x::wU cap δ)) ds) λks=>if ks.all isI then .dS (ds[bst (λi j=>gtD (ks.getD i .none) (ks.getD j .none)) (ds.length-1)]?) else .no else .no
 |_=>.no
section
theorem BC{ks:J L}(hu:X.A.in1.units<cLine)(e:ks.all isI=true){j:O}{x:V}{v:GC}{a b:L}(I:Inv X.in1 z8 σ H s)
  (ea:ks[i]?=Y a) (f:ks[j]?=Y b) (g:Is X.K (del H A) a x) (h:Is X.K (del H A) b y) (l:RelV x u) (o:RelV y v) :
  wpAny (model X.prog X.w) X.A.in1 (richCompare .Gt u v) (λr s'=>r=.bool (gtD a b)/\Inv X.in1 z8 σ H s') (λ_ _=>False) s:=by
 have B':=I.wish λ_ _=>False
 have p:=NT.mp e a (O8 ea);have q:=NT.mp e b (O8 f);cases a <;> first|(cases p;done)|skip
 rename_i n;cases b <;> first|(cases q;done)|skip
 rename_i m;cases g.ofInt;cases h.ofInt;refine thn (Jc (X:=X.in1.wish λ_ _=>False) z8 s σ H (.int n) (.int m) u v (λr H'=>r=.bl (decide (n>m))/\H'=H) B' l o ⟨n,m,rfl,rfl,rfl,rfl⟩) λr s' c=>?_
 obtain⟨v',H',t,z,B,C⟩:=c;subst B C;exact⟨z,t.unwish⟩
theorem B3{E:XK}{a:Qt}{G p0:Ts}{g:J (Qn×J')}{P:J'}{k:O}{p:Qn}
  (hc:X.calm=true) (hm:X.mg "max"=S) (hr:cO (k+2) X.A) (ha:PD X E a ga) (T:DR X c P) (U:closureFor scope X.env=pure g) (D':mr N [p] scope)
  (B':∀x c,g.lookup x=Y c->X.env.cells.lookup x=Y c) (has:∀x,scope.names.lookup x=Y .free->∃c,g.lookup x=Y c) (hN:N.length=1+cap.length)
  (Dd:∀(i m:O)(x:Qn),N[1+i]?=Y x->cap[i]?=Y m->X.N[m]?=Y x/\scope.names.lookup x=Y .free/\(X.env.kindOf x=Y .cell\/X.env.kindOf x=Y .free)/\Vis X.env.scope x)
  (hb:∀(c':J')(pm r u:GC),bindArgs (PySem.W.kla_fn "<lambda>" (X.env.qual++"<lambda>") params body scope g pm (.ref c') r) ⟨[u],[]⟩=pure ([p].zip [u]))
  (D:∀(q c':J')(s:LN)(H:Hp),PD (tM (CXW X.prog X.w) X.prog X.w X.K X.mg X.base N (X.env.qual++"<lambda>") scope q (.ref c') g X.A.in1 X.stack s H E0) E0 body gb)
  (hg:Gl X "max":=by rfl) (he:starEach [a] X.env=[(false,eval a X.env)]:=by rfl) (M:defaultsOf params X.env=([],[]):=by rfl) :
  PD X E (.Call (.Name "max" p0) [a] [⟨Y "key",.Lambda params body scope G,kp⟩] pos) (iu cap ga gb):=by
 refine (CI hc hm ha (JO T U M) hg he (λh k=>eD.weak h k) (λh k f c' r H' n e s c=>k _ _ (h f c' r H' n e s c))).imp λσ H Q A4=>?_
 obtain⟨A,δ,R,b⟩:=A4;unfold iu at b;refine eD.run R (λd ed v H1 s1 R1 h1=>?_) (λC A2 H' s'=>?_) (λA2=>?_)
 .rw[ed,Rs.ag]at b;cases d with
  |list ds =>
   by_cases hpos:0<ds.length
   case neg=>dsimp[I' hpos]at b;exact b.elim
   dsimp[HL hpos]at b;cases ek:allR (λx=>gb (Y x::wU cap δ)) ds with
   |rz _=>rw[ek]at b;exact b.elim
   |no=>rw[ek]at b;exact b.elim
   |ok ks =>
    rw[ek]at b;cases hko:ks.all isI with
    |false=>dsimp[okR,hko]at b;exact b.elim
    |true =>
     dsimp[okR,hko,QA]at b;intro f c' r H2 hn hf s2 F;obtain⟨l,xs,rfl,hl,hx⟩:=h1.ofLst;have wb:=hx.length;obtain⟨hkl,hkg⟩:=wN ek;refine⟨l,f,xs,λH=>aw H2 H,λi v H=>∃EE,ks[i]?=Y EE/\Is X.K (del H A) EE v,λi j=>gtD (ks.getD i .none) (ks.getD j .none),rfl,rfl,⋯,aw.refl _,?_,λH3 v s3 ev=>?_⟩
     .refine xQ (t:=eD X.K E0 gb) (c':=c') (cap:=cap) D' hr B' has hN Dd (hb c' _ r) (λH s=>s _ _ (s2 _ _ (ay _ _ hl))) (λH s=>⟨s _ _ hf,?_⟩) (λs H=>D f c' s H) (λi x H ex s=>?_) (λi j x y pins' H s u v I sΦ hx' hy' rx ry=>?_)
      .obtain⟨o,vs,t,e1,e2,B⟩:=F;exact⟨o,vs,t,s _ _ e1,e2,B⟩
      .obtain⟨d,e1,hd⟩:=hx.get ex;obtain⟨EE,e2,gk⟩:=hkg i d e1;have R':eI X.K H A δ σ:=R.same (s1.trans (s2.trans s));refine⟨A,Y d::wU cap δ,⟨R'.ls,by simp[wU],λn d' e=>?_⟩,?_⟩
       .cases n with
        |zero =>have e:Y (Y d)=Y (Y d'):=e;cases e;exact⟨x,rfl,hd.same (aw.del (s2.trans s))⟩
        |succ n =>
         have e:(wU cap δ)[n]?=Y (Y d'):=by simpa using e
         unfold wU at e;rw[NA]at e;cases hm':cap[n]? with
         |none=>rw[hm']at e;cases e
         |some m =>
          rw[hm']at e;have B:(δ[m]?).join=Y d':=by simpa using e
          have e4:δ[m]?=Y (Y d'):=by
           cases z:δ[m]? with
           |none=>rw[z]at B;cases B
           |some w=>rw[z]at B;cases w with
            |none=>cases B
            |some w=>cases B;rfl
          obtain⟨v',e5,h5⟩:=R'.get m d' e4;exact⟨v',by simp[hm',e5],h5⟩
       .have gk':gb (Y d::wU cap δ)=.ok EE:=gk;rw[gk'];exact λv H' s' q=>⟨s.trans s',⟨EE,e2,q⟩,λj v' qz2=>(by obtain⟨kd',B,e4⟩:=qz2;exact⟨kd',B,e4.same s'.del⟩)⟩
      .obtain⟨ka,e1,h1'⟩:=hx';obtain⟨kb,e2,h2'⟩:=hy';have:=BC (X:=X) (by have:=hr.un;show X.A.units+1<_;omega) hko I e1 e2 h1' h2' rx ry;rw[N9,N9,e1,e2];exact this
     .rw[wb]at ev;obtain⟨d,e1,hd⟩:=hx.get ev;rw[e1]at b;exact b v H3 (s1.trans (s2.trans s3)) (hd.same (aw.del (s2.trans s3)))
  |_=>exact b.elim
 .rw[A2]at b;exact b H' s'
 .rw[A2]at b;exact b
end
theorem ya{e:J Qn}{b:SO}{f:J'}{A:Qs}{E:XK}
  {C:XK} {a:Qt} {n G:Ts} {I:J'} {k:O} {p:Qn}
  (hm:mg "max"=S) (B':cO (k+2) (dg CX P w K mg base e qual b f cd A outer s H E).A) (ha:PD (dg CX P w K mg base e qual b f cd A outer s H E) C a ga) (T:DR (dg CX P w K mg base e qual b f cd A outer s H E) c I)
  (l:∀(q c':J')(s':LN)(H':Hp),PD (tM (CXW P w) P w K mg base N ((dg CX P w K mg base e qual b f cd A outer s H E).env.qual++"<lambda>") scope q (.ref c') (mT scope.names (dg CX P w K mg base e qual b f cd A outer s H E).env.cells []) (dg CX P w K mg base e qual b f cd A outer s H E).A.in1 (dg CX P w K mg base e qual b f cd A outer s H E).stack s' H' E0) E0 body gb)
  (hok:IX e N p cap b scope=true:=by decide +kernel)
  (Dd:∀(q:Qn)(cl:J (Qn×J'))(c':J')(pm t u:GC),bindArgs (PySem.W.kla_fn "<lambda>" q params body scope cl pm (.ref c') t) ⟨[u],[]⟩=pure ([p].zip [u]):=by intro _ _ _ _ _ _;rfl)
  (M:Gl (dg CX P w K mg base e qual b f cd A outer s H E) "max":=by rfl) (EE:starEach [a] (dg CX P w K mg base e qual b f cd A outer s H E).env=[(false,eval a (dg CX P w K mg base e qual b f cd A outer s H E).env)]:=by rfl) (o:defaultsOf params (dg CX P w K mg base e qual b f cd A outer s H E).env=([],[]):=by rfl) :
  PD (dg CX P w K mg base e qual b f cd A outer s H E) C (.Call (.Name "max" G) [a] [⟨Y "key",.Lambda params body scope n,kp⟩] pos) (iu cap ga gb):=by
 unfold IX at hok;dsimp[NG,NT,Qm,RK,bne_iff_ne,V5,Qb]at hok;obtain⟨⟨⟨⟨⟨⟨⟨⟨⟨Q,R⟩,D'⟩,U⟩,X⟩,A4⟩,A2⟩,D⟩,o9⟩,v⟩:=hok;have g:∀x,b.names.lookup x=Y .cell->∃c,(dg CX P w K mg base e qual b f cd A outer s H E).env.cells.lookup x=Y c:=λx r=>pW r
 refine B3 (cap:=cap) rfl hm B' ha T (jK λy hy hf=>?_) ⟨Q,R,D',U,X,λx r=>by rw[NQ.mp r];exact A4,A2⟩ (λx c h=>pj _ _ _ x c (λ_ _ z=>by cases z) h) (λx r=>?_) o9 (λi m x h1 h2=>?_) (Dd _ _) (λq c' s' H'=>l q c' s' H') M EE o
 .rcases D y hy with z|z
  .exact Qr hf z
  .exact g y.1 z
 .have j:=nW r;rcases D (x,.free) j with z|z
  .cases z rfl
  .obtain⟨c,hc⟩:=g x z;exact lI _ _ _ x c j hc
 .have B:i<cap.length:=(NC.mp h2).1;have:=v i (Of.mpr B);rw[h1,h2]at this;dsimp[NG,RK]at this;obtain⟨⟨q1,q2⟩,F⟩:=this;exact⟨q1,q2,.inl F,.inr (.inl F)⟩
section
variable {E:XK}
end
section
variable {E:XK}{e:Qt}
def mj(EE:J O)(i:O)(gk ge:Ds->Rs L):Ds->Sr:=λδ=>match δ[i]? with
 |some ↥ds=>ofR (ge (mask EE δ)) λd=>ofR (gk (mask EE δ)) λk=>match k with
  |.int k=>match ixN ds.length k with
   |some j=>.nx (δ.set i ↥(ds.set j d))
   |none=>.no
  |_=>.no
 |_=>.no
theorem EK{k:Qt}{ps:Ts}(h:PD X E e ga)(n:PD X E k gk)(g:i∈EE)(hi:X.N[i]?=Y x)(hv:Vis X.env.scope x)
  (hd:(x==("__debug__":Qn))=false) (c:(x==("__classdict__":Qn))=false)
  (ha:∀v,assign (.Subscript (.Name x pn) k ps) X.env v=(do
   let ov <-holding [v] (eval (.Name x pn) X.env);let iv <-holding [v,ov] (eval k X.env)
   standAt ps
   holding [v,ov,iv] (setItem ov iv v)
   release [v,ov,iv] []))
  (r:swapsWithSole [.Subscript (.Name x pn) k ps] e pos.line X.env=pure false) (hw:swappedStores [.Subscript (.Name x pn) k ps] e X.env=pure S)
  (h1:(assignEach [.Subscript (.Name x pn) k ps] X.env).map (·.2)=[assign (.Subscript (.Name x pn) k ps) X.env]):PSD X E EE (.Assign [.Subscript (.Name x pn) k ps] e pos) (mj EE i gk ga) :=
 (uW h (zB (gQ hi hv hd c) n set_list ha) r hw h1).imp λD σ H f=>by
  obtain⟨H0,A0,A,δ,R,o⟩:=f;unfold mj at o;split at o
  .rename_i ds q;obtain⟨p,xs,ds',e1,hp,hl,e2,l⟩:=R.ownL g q;cases e2;refine eD.run R.part (λd s v H1 m t hv=>?_) (λC a H' s'=>?_) (λa=>?_)
   .dsimp[s,av]at o;refine⟨_,e1,?_⟩;refine eD.run t (λkd w u H2 s2 R2 y=>?_) (λC a H' s'=>?_) (λa=>?_)
    .dsimp[w,av]at o;split at o
     .rename_i z;split at o
      .rename_i j B;have b:=m.trans s2;refine⟨p,xs,z,j,rfl,y.ofInt,b _ _ hl,by rw[l.length];exact B,?_⟩;exact o A _ _ ((R.step b).put g q e1 hp (Iss.set (hv.same s2.del) j (l.same b.del)))
      .exact o.elim
     .exact o.elim
    .dsimp[a,jW]at o;exact o H' (R.same.trans (m.trans s'))
    .dsimp[a,kl]at o;exact o
   .dsimp[a,jW]at o;exact o H' (R.same.trans s')
   .dsimp[a,kl]at o;exact o
  .exact o.elim
end
theorem u7(d:J'):W5 (Qq.«dict.values» ⟨[.ref d],[]⟩) (λ_ R s=>(∃o,s.heap.get? d=Y o/\o.ExactDict)/\(d==sysModules)=false/\R (.ok (.ret (.ref s.heap.objs.size))) {s with heap:=s.heap.push {cls:=.type "dict_values",data:=.fields #[.ref d]}}) :=
 .of_wp λprog w A R s h=>by
  obtain⟨hp,g,b,tk,os⟩:=s;obtain⟨⟨o,c,e⟩,hd,h⟩:=h;obtain⟨hc,hdi,hs⟩:=e;have a:(U' ⟨hp,g,b,tk,os⟩).get? d=Y o:=c
  wp_walk using Tw a
  exact⟨_,rfl,h⟩
section
variable {E:XK}{o:Qt}{go:Ds->Rs L}{apos:Ts}{td:TE}
structure M0(X:Cx)(o:Qt)(m:Qn)(apos cpos:Ts):Prop where
 base:attributeBase o m X.env (eval o X.env)=eval o X.env
 few:((backTo cpos (starEach [] X.env)).all (λx=>!x.1)&&(backToKw cpos (keywordEach [] X.env)).all (λx=>x.1.isSome)
 &&decide (([]:J Qt).length+([]:J RA).length+(if ([]:J RA).isEmpty then 0 else 1)<30))=true
 line:(apos.endLine==cpos.line)=true
 trees:backTo cpos (starEach [] X.env)=[]
end
def isOpt:F1 Z->GC->Qo
 |some n,v=>Tt n v
 |none,v=>v==.none
theorem c5{v:GC}(h:isOpt S v=true):v=.none:=eq_of_beq h
section
variable {A:Qs}
theorem B1{Q:Z->LN->Prop}(h:Q 0xFCA86420 {s with toks:=s.toks+1}):wpAny (model prog w) A (pyHash .none) Q E s:=by
 have a:s.TypeIs .none "NoneType":=rfl;unfold pyHash;refine F' (wpAny_cRoomFor_byValue rfl ?_);refine F' (Tn a RV.lookup ?_);show wpAny _ _ (if (Y (VE "NoneType.__hash__")==Y Rq)=true then _ else _) Q E s;rw[I' (by rw[beq_builtin_none];exact NL)];refine F' (Tn a RV.lookup ?_);show wpAny _ _ (callSpecialIfBoundUnlessNone? .none "__hash__" _ >>= _) Q E s;refine F' (wpAny_callSpecialIfBoundUnlessNone?_slot a RV (RW RV a F.entry_NoneType_hash
  (show wpAny _ _ (do ret (<-mkInt 0xFCA86420)) _ _ s from wpAny_ret_mkInt ?_) (F.args_NoneType_hash_1 _)))
 show wpAny _ _ (if (decide (-(2:Z) ^ 63<=0xFCA86420)&&decide ((0xFCA86420:Z)<2 ^ 63))=true then _ else _) Q E _;rw[HL #[1]];exact K' h
end
def optKind(prog:QS)(w:QY):KeyKind prog w (F1 Z) where
 is:=isOpt
 hash:=λk=>match k with|some n=>(intKind prog w).hash n|none=>0xFCA86420
 inj:=λv a b ha c=>by
  cases a with
  |none =>
   have:=c5 ha;subst this;cases b with
   |none=>rfl
   |some n=>cases c
  |some n =>
   cases b with
   |none=>have:=c5 c;subst this;cases ha
   |some m=>rw[(intKind prog w).inj v n m ha c]
 byValue:=λk v h=>by
  cases k with
  |none=>rw[c5 h];rfl
  |some n=>exact (intKind prog w).byValue n v h
 pyHash:=λ{A E s k v Q} hv h=>by
  cases k with
  |none=>rw[c5 hv];exact B1 h
  |some n=>exact (intKind prog w).pyHash (k:=n) hv h
 eqBool:=λ{A E s a b u v Q} hu hv h=>by
  cases a with
  |none =>
   rw[c5 hu];cases b with
   |none=>rw[c5 hv];exact V2 .none prog w E Q h
   |some n =>obtain⟨t,rfl⟩:=PN hv;exact TR n t prog w E Q h
  |some m =>
   cases b with
   |none =>rw[c5 hv];obtain⟨t,rfl⟩:=PN hu;exact TU m t prog w E Q h
   |some n =>
    refine (intKind prog w).eqBool (a:=m) (b:=n) hu hv ?_;by_cases z:m=n
    .rw[Ql z];rw[Ql (by rw[z])]at h;exact h
    .rw[P' z];rw[P' (λq=>z (N4 q))]at h;exact h
 «strs»:=λk x t v h=>by
  cases k with
  |none=>cases c5 h
  |some n=>cases h
theorem Es{A:Qs}(I:Inv X z8 σ H s)(e:Rd H a (dkO l))(h:∀s',Inv X z8 σ H s'->Q (.bool false) s'):wpAny (model X.prog X.w) A (compareOp .In .none (.ref a)) Q E s:=by
 obtain⟨z,hd,vs,rel,ob,es,ep,g1,g2,i,j,m,g6⟩:=pf I.hok e;have o:∀p∈vs,∃n:Z,p.1=.inl n:=λp hp=>by have:p.1∈vs.map (·.1):=PB hp;rw[<-rel.keys]at this;obtain⟨q,t,e⟩:=NH.mp this;obtain⟨r,_,rfl⟩:=NH.mp t;exact⟨r.1,e.symm⟩
 have f:∀c∈es,∃n:Z,Tt n c.key=true/\c.hash=(intKind X.prog X.w).hash n:=λc b=>by
  have aux:∀{E:J UN}{B:J (Key×GC)},Pairs (br X.prog X.w) E B->∀x∈E,∃p∈B,(br X.prog X.w).is p.1 x.key=true:=by
   intro E B r
   induction r with
   |nil=>intro x g;cases g
   |cons h1 _ _ ih =>
    intro x g;rcases NB.mp g with rfl|g
    .exact⟨_,N1,h1⟩
    .obtain⟨p,hp,h⟩:=ih x g;exact⟨p,N0 _ hp,h⟩
  obtain⟨k,h1,h2⟩:=j c b;obtain⟨p,hp,u⟩:=aux m c (by simpa using b);have:=(br X.prog X.w).inj _ _ _ h1 u;obtain⟨n,hn⟩:=o p hp;rw[this,hn]at h1 h2;exact⟨n,h1,h2⟩
 have hm:s.heap.MapOf (optKind X.prog X.w) a (λk=>findBy isOpt es k):=⟨ob,es,ep,g1,g2,i,λc b=>by obtain⟨n,h1,h2⟩:=f c b;exact⟨Y n,h1,h2⟩,λ_=>rfl⟩
 refine wpAny_in_of (knd:=optKind X.prog X.w) (k:=S) rfl hd hm ?_;have v:findBy isOpt es S=none:=by
  unfold findBy;rw[show (es.find? λe=>isOpt S e.key)=S from ?_]
  .rfl
  .rw[QR.find?_eq_none];intro c b q;obtain⟨n,h1,_⟩:=f c b;rw[c5 q]at h1;cases h1
 rw[v];exact h _ (I.tok _)
section
variable {E:XK}{a b o k:Qt}{go:Ds->Rs L}
def gDI(go gk:Ds->Rs L):Ds->Rs PyData:=λδ=>(go δ).bind λd=>(gk δ).bind λk=>match tK d,k with
 |some l,.int n=>(match a8 l n with
  |some v=>.ok (.int v)
  |none=>.no)
 |_,_=>.no
theorem Mw(i:X.A.units+1<cLine)(j:PD X E o go)(m:PD X E k gk)(p:Iu k):PD X E (.Subscript o k pos) (gDI go gk) :=
 (zH i j m p).imp λσ H Q e=>by
  obtain⟨A,δ,R,b⟩:=e;unfold gDI at b;refine eD.run R (λd q v H1 h r h1=>?_) (λC c H' s'=>?_) (λc=>?_)
  .dsimp[q,Rs.ag]at b;refine eD.run r (λkd s u H2 s2 R2 f=>?_) (λC c H' s'=>?_) (λc=>?_)
   .dsimp[s,Rs.ag]at b;split at b
    .rename_i l n hl;rw[qS hl]at h1;obtain⟨a,rfl,ha⟩:=h1.ofDic;cases f.ofInt;split at b
     .rename_i w hw;have g:=u6.k (k:=Rk n) (s2 _ _ (ay _ _ ha));rw[jZ,hw]at g;exact⟨a,_,rfl,g,b _ H2 (h.trans s2) bP⟩
     .exact b.elim
    .exact b.elim
   .dsimp[c,Rs.dH]at b;exact b H' (h.trans s')
   .dsimp[c,Rs.bR]at b;exact b
  .dsimp[c,Rs.dH]at b;exact b H' s'
  .dsimp[c,Rs.bR]at b;exact b
end
def dfD(l:J (Z×Z)):PyData:=.dict (dfK l)
def yn:L->F1 (J (Z×Z))
 |.dict ((.bool false,.none)::kvs)=>kh kvs
 |_=>S
theorem mn{d:L}(h:yn d=Y l):d=dfD l:=by
 unfold yn at h;split at h
 .unfold dfD dfK;rw[nC h]
 .cases h
theorem oM(l:J (Z×Z)):yn (dfD l)=Y l:=ly l
theorem Is.ofDf(h:Is K H (dfD l) v):∃a ob,v=.ref a/\H a=Y (.frz ob (dkO l)):=by
 unfold dfD Is at h;rcases h with (⟨a,ns,_,e,_⟩|⟨a,o,e1,e,h2⟩)|⟨a,C,dx,fs,_,_,_,h|h⟩
 .cases e
 .rcases e with⟨m,e,_⟩|⟨m,e,_⟩|⟨m,ob,e,rfl⟩
  .cases m <;> cases e
  .cases e
  .rw[ki (J.cons.inj e).2];exact⟨a,ob,e1,h2⟩
 .unfold Isk at h;obtain⟨f,_,_,_,q,_⟩:=h;cases q
 .unfold Isk at h;obtain⟨f,_,_,_,q,_⟩:=h;cases q
theorem Mq(h:H a=Y (.frz ob (dkO l))):Is K H (dfD l) (.ref a):=by unfold dfD Is;exact .inl (.inr ⟨a,_,rfl,.inr (.inr ⟨l,ob,rfl,rfl⟩),h⟩)
theorem Inv.freeze{kvs:J (Key×V)}(I:Inv X z8 σ H s)(e:H a=Y (.dK kvs)):∃ob,Inv X z8 σ (upd H a (.frz ob (.dK kvs))) s:=by obtain⟨z,hd,vs,rel,ob,es,ep,g1,g2⟩:=IC I.hok e;exact⟨ob,uJ (t':=s.toks) I (by rw[e];exact RC) ⟨rfl,λ_ _=>rfl⟩ ⟨ob,g1⟩ ⟨g1,z,hd,vs,rel,ob,es,ep,g1,g2⟩⟩
section
variable {E:XK}{a b o k:Qt}{go:Ds->Rs L}
def MR(i:O):TE:=λσ H Q=>∃a kvs,σ[i]?=Y (Y (.ref a))/\H a=Y (.dK kvs)/\∀ob,Q (.ref a) (upd H a (.frz ob (.dK kvs)))
theorem JM(hi:X.N[i]?=Y x)(hv:Vis X.env.scope x)(hd:(x==("__debug__":Qn))=false)(b:(x==("__classdict__":Qn))=false):PE X (.Name x pn) (MR i):=λz8 s σ H Q I c=>by
 obtain⟨a,kvs,e,ha,q⟩:=c;refine thn (gQ hi hv hd b z8 s σ H (λv H1=>v=.ref a/\H1=H) I ⟨_,e,rfl,rfl⟩) λv s1 f=>?_
 obtain⟨x,H1,g,h,j,l⟩:=f;subst j l;obtain⟨ob,m⟩:=g.freeze ha;exact⟨.ref a,_,m,h,q ob⟩
def Be(i:O):Ds->Sr:=λδ=>match δ[i]? with
 |some (Y d)=>(match tK d with
  |some l=>.rt (dfD l)
  |none=>.no)
 |_=>.no
theorem Du(o:i∈EE)(hi:X.N[i]?=Y x)(hv:Vis X.env.scope x)(hd:(x==("__debug__":Qn))=false)(e:(x==("__classdict__":Qn))=false):PSD X E EE (.Return (Y (.Name x pn)) pos) (Be i) :=
 (nr (JM hi hv hd e)).imp λD σ H f=>by
  obtain⟨H0,A0,A,δ,R,a⟩:=f;unfold Be at a;split at a
  .rename_i d q;split at a
   .rename_i l hl;rw[qS hl]at q;obtain⟨p,o',d',e1,hp,g,e2,h⟩:=R.own i _ o q;subst e2;have j:o'=dkO l:=by
     have h:Hu _ o':=h;rcases h with⟨m,b,rfl⟩|⟨m,b,_⟩|⟨m,_,b,_⟩
     .rw[ki b];rfl
     .cases l <;> cases b
     .cases l <;> cases b
    subst j;refine⟨p,_,e1,g,λob=>a _ _ (λc u n=>?_) (Mq (ob:=ob) ?_)⟩
    .have r:c≠p:=λz=>by rw[z,R.new p hp]at n;cases n
     rw[aB r];exact R.same c u n
    .rw[bb (R.apart hp)];exact aM
   .exact a.elim
  .exact a.elim
def MB:R2:=λx y H Q=>∃a ob l,y=.ref a/\H a=Y (.frz ob (dkO l))/\((x=.non/\Q (.bl false) H)\/∃n,x=.int n/\Q (.bl (a8 l n).isSome) H)
theorem JJ(e:X.A.units+1<cLine):OpR X (compareOp .In) MB:=by
 intro z8 s σ H x y v u Q I c f h;obtain⟨a,ob,l,rfl,ha,h⟩:=h;cases (show u=Qw a from f);rcases h with⟨rfl,q⟩|⟨n,rfl,q⟩
 .cases (show v=Rq from c);exact Es I (.inr ⟨ob,ha⟩) λs' b=>⟨.bl _,H,b,rfl,q⟩
 .have g:u6 H a (kV (Rk n)) (gA (l.map λp=>((.inl p.1,V.int p.2):Key×V)) (.inl n)):=.inl ⟨_,Rk n,.inr ⟨ob,ha⟩,rfl,rfl⟩;rw[jZ]at g;refine Nq e I g c λs' b=>⟨.bl _,H,b,rfl,?_⟩
  rw[PR];exact q
def uI:L->L->F1 PyData:=λx d=>match yn d,x with
 |some _,.none=>Y (.bool false)
 |some l,.int n=>Y (.bool (a8 l n).isSome)
 |_,_=>S
theorem Hg:OpD K uI MB:=λd1 d2 d x y H A Q e hA h1 h2 k=>by
 unfold uI at e;split at e
 .rename_i l hl;cases e;rw[mn hl]at h2;obtain⟨a,ob,rfl,ha⟩:=h2.ofDf;exact⟨a,ob,l,rfl,ay _ _ ha,.inl ⟨h1.ofNone,k _ H (aw.refl H) is_bool⟩⟩
 .rename_i l n hl;cases e;rw[mn hl]at h2;obtain⟨a,ob,rfl,ha⟩:=h2.ofDf;exact⟨a,ob,l,rfl,ay _ _ ha,.inr ⟨n,h1.ofInt,k _ H (aw.refl H) is_bool⟩⟩
 .cases e
theorem Gp(c:X.A.units+1<cLine)(ha:PD X E a ga)(e:PD X E b gb)(hm:behindInMarks .In b=false):PCD X E (.Compare a [.In] [b] pos) (gT (g2 uI ga gb)):=kB Hg ha e λh1 h2=>jB (JJ c) h1 h2 hm
def gDF(go gk:Ds->Rs L):Ds->Rs PyData:=λδ=>(go δ).bind λd=>(gk δ).bind λk=>match yn d,k with
 |some l,.int n=>(match a8 l n with
  |some v=>.ok (.int v)
  |none=>.no)
 |_,_=>.no
theorem LA(i:X.A.units+1<cLine)(j:PD X E o go)(m:PD X E k gk)(q:Iu k):PD X E (.Subscript o k pos) (gDF go gk) :=
 (zH i j m q).imp λσ H Q e=>by
  obtain⟨A,δ,R,b⟩:=e;unfold gDF at b;refine eD.run R (λd r v H1 h s h1=>?_) (λC c H' s'=>?_) (λc=>?_)
  .dsimp[r,Rs.ag]at b;refine eD.run s (λkd t u H2 s2 R2 f=>?_) (λC c H' s'=>?_) (λc=>?_)
   .dsimp[t,Rs.ag]at b;split at b
    .rename_i l n hl;rw[mn hl]at h1;obtain⟨a,ob,rfl,ha⟩:=h1.ofDf;cases f.ofInt;split at b
     .rename_i w hw;have g:u6 H2 a (kV (Rk n)) (gA (l.map λp=>((.inl p.1,V.int p.2):Key×V)) (.inl n)):=.inl ⟨_,Rk n,.inr ⟨ob,s2 _ _ (ay _ _ ha)⟩,rfl,rfl⟩;rw[jZ,hw]at g;exact⟨a,_,rfl,g,b _ H2 (h.trans s2) bP⟩
     .exact b.elim
    .exact b.elim
   .dsimp[c,Rs.dH]at b;exact b H' (h.trans s')
   .dsimp[c,Rs.bR]at b;exact b
  .dsimp[c,Rs.dH]at b;exact b H' s'
  .dsimp[c,Rs.bR]at b;exact b
end
def Itf(a:J')(ob:Rv)(l:J (Z×Z)):It:=⟨λi H=>H a=Y (.frz ob (dkO l))/\i<l.length,λi H x H'=>H'=H/\∃p,l[i]?=Y p/\x=.int p.1,λi H=>H a=Y (.frz ob (dkO l))/\l.length<=i⟩
theorem EB{ep:O}(I:Inv X z8 σ H s)(e:H a=Y (.frz ob (dkO l)))(hd:ob.data=.dict es ep):(a==sysModules)=false/\∃vs,KV (l.map λp=>((.inl p.1,V.int p.2):Key×V)) vs/\s.heap.DictAt (br X.prog X.w) a vs ep:=by
 obtain⟨g,z,h1,vs,rel,o2,es2,ep2,g1,g2,b,c⟩:=(show cC X.prog X.w H s.heap a (.frz ob (dkO l)) from I.hok a _ e)
 rw[g]at g1;cases g1;rw[hd]at b;cases b;exact⟨h1,vs,rel,ob,es,g,g2,hd,c⟩
theorem KV.at_{A:J (Key×V)}{B:J (Key×GC)}(r:KV A B):∀(i:O)(p:Key×V),A[i]?=Y p->∃v,B[i]?=Y (p.1,v)/\RelV p.2 v:=by
 induction r with
 |nil=>intro i p h;simp at h
 |cons h1 _ ih =>
  intro i p h;cases i with
  |zero=>cases h;exact⟨_,by rw[Ow];exact congrArg Y (VU h1.1.symm rfl),h1.2⟩
  |succ i=>exact ih i p h
theorem EV(a it:J'){ep:O}(hd:ob.data=.dict es ep):Turn P w K tg (Itf a ob l) [it] it (λi h=>h.IsKeyIter it a i l.length ep) where
 mem:=by simp
 obj:=λi h st b f=>by
  have e:b=it:=by simpa using f
  subst e;obtain⟨o,e,c,d⟩:=st;exact⟨o,e,λv z=>by rw[d]at z;cases z⟩
 keep:=λi h h' st k=>let ⟨o,e,r⟩:=st;⟨o,k it #[2] o e,r⟩
 item:=by
  intro X n hw hK hc i z8 s σ H E I j st p;subst n hw hK;obtain⟨e,hi⟩:=p;obtain⟨_,vs,rel,m⟩:=EB I e hd;have hl:vs.length=l.length:=by have:=rel.length;rw[N8]at this;omega
  obtain⟨v,hv,_⟩:=rel.at_ i (.inl l[i].1,V.int l[i].2) (by rw[NA,My hi];rfl);obtain⟨q,f1,f2,u,x,y⟩:=j it #[2];refine wpAny_pyNext_dict_item (knd:=br X.prog X.w) (kvs:=vs) (by rw[hl];exact st) m hv λkey h' A g B=>?_
  have C:Inv X z8 σ H {s with heap:=h'}:=I.turned (t':=s.toks) (λb o f e=>(B.2 b f).trans e) q f1 u x y;obtain⟨o,D,c,d⟩:=id g;obtain⟨t,rfl⟩:=PN A;exact⟨_,rfl,xw (s:={s with heap:=h'}) D c d #[1] ⟨.int l[i].1,H,C,⟨t,rfl⟩,⟨rfl,l[i],My hi,rfl⟩,by rw[hl]at g;exact g,λb f=>(j b f).1⟩⟩
 done:=by
  intro X n hw hK hc i z8 s σ H E I j st p;subst n hw hK;obtain⟨e,hi⟩:=p;obtain⟨_,vs,rel,m⟩:=EB I e hd;have hl:vs.length=l.length:=by have:=rel.length;rw[N8]at this;omega
  obtain⟨q,f1,f2,u,x,y⟩:=j it #[2];exact wpAny_pyNext_dict_end (knd:=br X.prog X.w) (kvs:=vs) (I.ok.hd hc) (by rw[hl];exact st) m (OD ⋯) λh' F=>⟨rfl,I.turned (t':=s.toks) (λb o f e=>F b o f e) q f1 u x y⟩
 self:=λ_ _ _ _ _ st h=>wpAny_pyIter_keyiter st h
section
variable {E:XK}{a:Qt}
def Na(tl:TE):TI:=λσ H R=>tl σ H λx H1=>∃a ob l,x=.ref a/\H1 a=Y (.frz ob (dkO l))/\R (Itf a ob l) H1
theorem KS{l:Qt}{tl:TE}(hl:PE X l tl):PI X tg l (Na tl):=by
 intro z8 s σ H R I h;refine thn (hl z8 s σ H _ I h) λv c i=>?_
 obtain⟨x,H1,f,m,n⟩:=i;obtain⟨a,ob,l,e,ha,q⟩:=n;subst e;cases m;obtain⟨g,z,h1,vs,rel,o2,es,ep,g1,g2,j,p⟩:=(show cC X.prog X.w H1 c.heap a (.frz ob (dkO l)) from f.hok a _ ha)
 rw[g]at g1;cases g1;have hl:vs.length=l.length:=by have:=rel.length;rw[N8]at this;omega
 refine wpAny_pyIter_dict (knd:=br X.prog X.w) (kvs:=vs) (ep:=ep) h1 ⟨ob,es,g,g2,j,p⟩ ?_;rw[hl];refine⟨c.heap.objs.size,[c.heap.objs.size],_,_,H1,rfl,f.kept (t':=c.toks) λb o e=>N5 _ e,EV a _ j,⟨_,NN _ rfl,rfl,rfl⟩,λb r=>?_,q⟩;have e:b=c.heap.objs.size:=by simpa using r
 subst e;exact f.fpOk (ND _) (f.hok.fresh (ND _))
theorem Ey{a:J'}(ha:G a=Y (.frz ob (dkO l))):yp K (Itf a ob l) (l.map λp=>.int p.1) G:=λH1 B s _ hB=>by refine⟨λi hi=>⟨s _ _ ha,by rw[N8]at hi;exact hi⟩,⟨s _ _ ha,by rw[N8];exact ND _⟩,λi x H2 hi b=>?_⟩;obtain⟨e,p,hp,ex⟩:=b;subst e ex;exact⟨aw.refl _,.int p.1,by rw[NA,hp];rfl,bP⟩
def lh(ga:Ds->Rs L):Ds->Rs (J L):=λδ=>(ga δ).bind λd=>match yn d with
 |some l=>.ok (l.map λp=>.int p.1)
 |none=>.no
theorem Ei(ha:PD X E a ga):PID X E tg a (lh ga):=(KS ha).imp λσ H R c=>by
 obtain⟨A,δ,f,b⟩:=c;unfold lh at b;refine eD.run f (λd g v H1 h R1 h1=>?_) (λC e H' s'=>by rw[e]at b;exact b H' s') (λe=>by rw[e]at b;exact b);dsimp[g,Rs.ag]at b;split at b
 .rename_i l hl;rw[mn hl]at h1;obtain⟨a,ob,rfl,ha⟩:=h1.ofDf;exact⟨a,ob,l,rfl,ay _ _ ha,b _ H1 h (Ey ha)⟩
 .exact b.elim
end
theorem wX:entryFor table "proto.contains_iter"=Y Qq.«proto.contains_iter»:=US (by kernel_rfl)
theorem qt:plainId "proto.contains_iter"=true:=by decide +kernel
theorem GU:typeLookup (.type "dict_values") "__contains__"=pure none:=by rw[Ve,Tq];kernel_rfl
section
variable {A:Qs}{R:Tz->LN->Prop}{I:J'}{wr:J J'}{n:O}{P:O->GC->Prop}{St:O->QD->Prop}
theorem lu(W:SU prog w A.in1 I fp wr n P St)(val:O->Z)(c:∀i v,P i v->∃t,v=.int (val i) t)(x:Z)(q:VI):∀(k i:O)(s:LN),n-i=k->i<=n->St i s.heap ->
  (∀h' tk,(∀b o,b∉wr->s.heap.get? b=Y o->h'.get? b=Y o)->R (.ok (.ret (.bool ((Rn i (n-i)).any λj=>decide (val j=x))))) {s with heap:=h',toks:=tk}) ->
  codeAny (model prog w) A (.builtin "proto.contains_iter" ⟨[.ref I,.int x q],[]⟩) R s:=by
 intro k
 induction k with
 |zero =>
  intro i s u hi a f;have l:i=n:=⋯
  subst l;refine QE wX ?_;rw[Qu qt _];show wpAny _ A.in1 (pyNext (.ref I) >>= _) _ _ s;refine F' (W.done s _ _ a λh' tk hm=>?_);refine F' (Sk (K' ?_));have:=f h' tk hm;rw[PH]at this;exact this
 |succ k ih =>
  intro i s u hi a f;have g:i<n:=⋯
  have y:Rn i (n-i)=i::Rn (i+1) (n-(i+1)):=by rw[show n-i=(n-(i+1))+1 by omega,Ph]
  rw[y,OR]at f;refine QE wX ?_;rw[Qu qt _];show wpAny _ A.in1 (pyNext (.ref I) >>= _) _ _ s;refine F' (W.item i s _ _ g a λv h' tk B h hm=>?_);obtain⟨t,rfl⟩:=c i v B;show wpAny _ A.in1 (eqBool (.int (val i) t) (.int x q) >>= _) _ _ _;refine F' (UG ?_);by_cases z:val i=x
  .rw[show (val i==x)=true by simpa using z];refine F' (Sk (K' ?_));have:=f h' tk hm;rw[Ql z,VP]at this;exact this
  .rw[show (val i==x)=false by simpa using z];refine K' ⟨QP qt _,ih (i+1) _ ⋯ g h λh2 m p=>?_⟩;have:=f h2 m λb o r e=>p b o r (hm b o r e)
   rw[P' z,Q8]at this;exact this
end
section
variable {A:Qs}
theorem rK{v:J'}{x:Z}{t:VI}{Q:Qo->LN->Prop}(hT:s.TypeIs (.ref v) "dict_values")
  (h:∀f:GC->LN->Prop,wpAny (model prog w) A (pyIter (.ref v)) (λit c=>codeAny (model prog w) A (.builtin "proto.contains_iter" ⟨[it,.int x t],[]⟩) (λr s2=>∃b,r=.ok (.ret (.bool b))/\Q b s2) c) f s):wpAny (model prog w) A (contains (.ref v) (.int x t)) Q E s:=by
 have hl:=GU;unfold contains;generalize hPI:pyIter=PI
 wp_walk
 subst hPI;refine Qy (QU (h _) (λit c hc=>?_) λ_ _ e=>e);refine F' (Vt (Rz hc λr s2 a=>?_));obtain⟨b,e,q⟩:=a;subst e;exact K' q
end
section
variable {E:XK}{a o:Qt}{go:Ds->Rs L}{apos:Ts}{ta td:TE}
def M6(ta td:TE):TE:=λσ H Q=>ta σ H λx H1=>td σ H1 λy H2=>∃n a ob l,x=.int n/\y=.ref a/\H2 a=Y (.frz ob (dkO l))/\Q (.bl (!l.any λp=>decide (p.2=n))) H2
theorem K1(hc:X.calm=true)(ha:PE X a ta)(EE:PE X o td)(m:M0 X o "values" apos cpos):PC X .NotIn a (.Call (.Attribute o "values" apos) [] [] cpos) (M6 ta td):=by
 intro z8 s σ H Q I h;refine thn (ha z8 s σ H _ I h) λiv P f=>?_
 obtain⟨x,H0,R,D',T⟩:=f;refine wpAny_Call_method m.base m.few m.line F.plainAttrs_dict Uh F.type_dict_values (thn (EE z8 P σ H0 _ R T) λu c f=>?_);obtain⟨y,H1,B,U,n,a,q,l,ex,W,ha,A4⟩:=f;subst ex W;obtain rfl:u=Qw a:=U;obtain⟨B',A2,_⟩:=Jo B (.inl ⟨_,.inr ⟨q,ha⟩⟩);refine⟨B',A2,?_⟩;rw[m.trees];refine S9 rfl (PySem.evalArgs_none ?_);obtain⟨z,hd,vs,rel,ob,es,ep,g1,g2,K,Dd,M,N⟩:=pf B.hok (.inr ⟨q,ha⟩);refine RT Uh B' F.entry_dict_values (F.args_dict_values_1 _) (u7 a) ⟨⟨ob,g1,g2⟩,hd,?_⟩;obtain⟨t,rfl⟩:=D';have al:a<c.heap.objs.size:=NI g1;have gv:(c.heap.push {cls:=.type "dict_values",data:=.fields #[.ref a]}).IsValuesView c.heap.objs.size a:=⟨_,NN _ rfl,rfl,rfl⟩
 have gd:QD.DictAt (br X.prog X.w) (c.heap.push {cls:=.type "dict_values",data:=.fields #[.ref a]}) a vs ep:=⟨ob,es,N5 _ g1,g2,K,Dd,M,N⟩
 have sz:(c.heap.push {cls:=.type "dict_values",data:=.fields #[.ref a]}).objs.size=c.heap.objs.size+1:=R8 ..;have hh:X.A.in1.handled=none:=B.ok.hd hc;have wb:vs.length=l.length:=by have:=rel.length;rw[N8]at this;omega
 have C:∀(i:O)(v:GC),(∃k,vs[i]?=Y (k,v))->∃t,v=Se ((l.map (·.2)).getD i 0) t:=λi v D=>by
  obtain⟨k,r⟩:=D;have hi:i<l.length:=by rw[<-wb];exact (NC.mp r).1
  obtain⟨v',E,r'⟩:=rel.at_ i (.inl l[i].1,V.int l[i].2) (by rw[NA,My hi];rfl);rw[E]at r;cases r;obtain⟨t,e⟩:=r';refine⟨t,?_⟩;rw[N9,NA,My hi];exact e
 show wpAny (model X.prog X.w) X.A (do return Sz (!(<-contains (.ref c.heap.objs.size) (.int n t)))) _ _ _;refine F' (rK gv.typeIs λE'=>wpAny_pyIter_values gv gd ?_);refine lu (SU.dictValues hh (c.heap.push {cls:=.type "dict_values",data:=.fields #[.ref a]}).objs.size a (by rw[sz];exact NJ (Oj al)) vs ep) (λi=>(l.map (·.2)).getD i 0) C n t (vs.length-0) 0 _ rfl (Ot _) ⟨⟨_,NN _ rfl,rfl,rfl⟩,⟨ob,es,N5 _ (N5 _ g1),g2,K,Dd,M,N⟩⟩ λh' tk r=>⟨_,rfl,K' ?_⟩
 refine⟨.bl _,H1,B.kept (t':=tk) λb G e=>r b G (λz=>?_) (N5 _ (N5 _ e)),rfl,?_⟩
 .dsimp[NQ]at z;rw[z,sz]at e;exact Qr (NI e) (O.not_lt.mpr (Pd _))
 .have:((Rn 0 (vs.length-0)).any λj=>decide ((l.map (·.2)).getD j 0=n))=l.any λp=>decide (p.2=n):=by
   rw[VS,wb,<-TK];apply Qo.eq_iff_iff.mpr;rw[Oz,Oz];constructor
   .rintro⟨j,g,e⟩
    have g:=Of.mp g;rw[N9,NA,My g]at e;exact⟨l[j],NV g,e⟩
   .rintro⟨p,hp,e⟩
    obtain⟨j,g,rfl⟩:=Od hp;refine⟨j,Of.mpr g,?_⟩;rw[N9,NA,My g];exact e
  rw[this];exact A4
def qZ(ga go:Ds->Rs L):Ds->Rs PyData:=λδ=>(ga δ).bind λx=>(go δ).bind λd=>match x,yn d with
 |.int n,Y l=>.ok (.bool (!l.any λp=>decide (p.2=n)))
 |_,_=>.no
theorem J8(hc:X.calm=true)(ha:PD X E a ga)(h:PD X E o go)(m:M0 X o "values" apos cpos)(hm:behindInMarks .NotIn (.Call (.Attribute o "values" apos) [] [] cpos)=false):PD X E (.Compare a [.NotIn] [.Call (.Attribute o "values" apos) [] [] cpos] pos) (qZ ga go) :=
 (Eo (K1 hc ha h m) hm).imp λσ H Q f=>by
  obtain⟨A,δ,R,b⟩:=f;unfold qZ at b;refine eD.run R (λd i v H1 g j h1=>?_) (λC c H' s'=>?_) (λc=>?_)
  .dsimp[i,Rs.ag]at b;refine eD.run j (λkd p u H2 s2 R2 e=>?_) (λC c H' s'=>?_) (λc=>?_)
   .dsimp[p,Rs.ag]at b;split at b
    .rename_i n l hl;rw[mn hl]at e;obtain⟨a,ob,rfl,ha⟩:=e.ofDf;exact⟨n,a,ob,l,h1.ofInt,rfl,ay _ _ ha,b _ H2 (g.trans s2) is_bool⟩
    .exact b.elim
   .dsimp[c,Rs.dH]at b;exact b H' (g.trans s')
   .dsimp[c,Rs.bR]at b;exact b
  .dsimp[c,Rs.dH]at b;exact b H' s'
  .dsimp[c,Rs.bR]at b;exact b
end
theorem HJ:typeLookup (.type "list") "keys"=pure none:=by rw[Ve,Tq];kernel_rfl
theorem vZ:entryFor table "dict.update.loop"=Y Qq.«dict.update.loop»:=US (by kernel_rfl)
theorem lJ:plainId "dict.update.loop"=true:=by decide +kernel
section
variable {A:Qs}
theorem Bn{xs:QR GC}{k:O}{Q:F1 GC->LN->Prop}(i:s.heap.get? a=Y {cls:=.type "list",data:=.seq xs k})(l:A.handled=S)
  (h:∀h' tk,(∀b ob,s.heap.get? b=Y ob->h'.get? b=Y ob)->Q S {s with heap:=h',toks:=tk}):wpAny (model prog w) A (getAttr? (.ref a) "keys") Q E s:=by
 obtain⟨hp,g,d,tk,os⟩:=s;have j:∀c,(⟨hp,g,d,c,os⟩:LN).TypeIs (.ref a) "list":=λ_=>⟨_,i,rfl⟩
 have f1:=sub_AttributeError;have f3:=F.slot_list_getattribute.lookup;have f4:=F.slot_list_getattribute.bind (.ref a);have f5:=am_list_getattr_none;unfold getAttr? getAttrBy? getAttrBy
 repeat (any_goals (first|assumption|exact j _|((with_reducible show wpAny _ _ (call (VE "list.__getattribute__") _ _) _ _ _);refine RT F.slot_list_getattribute (j _) am_entry_list_getattribute (F.args_list_getattribute_2 _ _) (meets_getattribute_miss_list a xs k #[] "keys" _ HJ #[1] (by size_fits)) ⟨i,l,λh' c e f=>?_⟩)|wp_step))
 obtain⟨t',u',he⟩:=f.there;show wpAny _ _ (getattributeRaised _ _ _ _ _ _ _) _ _ _;unfold getattributeRaised
 repeat (any_goals (first|assumption|wp_step))
 exact h _ _ f.keeps
end
def vD(h:QD)(b:J')(k v:Z):Prop:=∃o t u m,h.get? b=Y o/\o.cls=.type "tuple"/\o.data=.seq #[.int k t,.int v u] m
section
variable {A:Qs}{R:Tz->LN->Prop}{I:J'}{wr:J J'}{n:O}{P:O->GC->Prop}{St:O->QD->Prop}
theorem pair_items{k v:Z}{Q:J GC->LN->Prop}(hp:vD s.heap b k v)(h:∀t u,Q [.int k t,.int v u] s):wpAny (model prog w) A (Ti (.ref b)) Q E s:=by
 obtain⟨o,t,u,m,e,c,d⟩:=hp;obtain⟨a,g,f,tk,os⟩:=s;obtain⟨oc,od,odt,osl⟩:=o;simp only at c d;subst c d;have hT:(⟨a,g,f,tk,os⟩:LN).TypeIs (.ref b) "tuple":=⟨_,e,rfl⟩
 have i:(U' ⟨a,g,f,tk,os⟩).get? b=Y {cls:=.type "tuple",dict:=od,data:=.seq #[.int k t,.int v u] m,slots:=osl}:=e;unfold Ti
 wp_walk using Tw i
 exact h t u
theorem CO(W:SU prog w A.in1 I fp wr n P St)(g:D∉fp)(tb:O->J')(ks vs:O->Z)(Q:∀i v,P i v->v=.ref (tb i))(p:∀i,i<n->tb i≠D/\tb i∉wr)(t0:O->VI):∀(k i:O)(s:LN)(kvs:J (Key×V))(us:J (Key×GC)),n-i=k->i<=n->St i s.heap->(∀j,j<n->vD s.heap (tb j) (ks j) (vs j)) ->
  KV kvs us->s.heap.DictOf (br prog w) D us->kvs.length+(n-i)<=sizeLine ->
  (∀h' tk,(∀b o,b∉D::wr->s.heap.get? b=Y o->h'.get? b=Y o)->(∃x,KV ((Rn i (n-i)).foldl (λl j=>putK l (.inl (ks j)) (.int (vs j))) kvs) x/\h'.DictOf (br prog w) D x)->R (.ok (.ret .none)) {s with heap:=h',toks:=tk}) ->
  ∀m t,codeAny (model prog w) A (.builtin "dict.update.loop" ⟨[.ref D,.ref I,.int m t,.none],[]⟩) R s:=by
 have y:D∉wr:=λh=>g (W.sub _ h)
 intro k
 induction k with
 |zero =>
  intro i s kvs us D' hi a hp rel hd T F m t;have H:i=n:=⋯
  subst H;refine QE vZ ?_;rw[Qu lJ _];show wpAny _ A.in1 (pyNext (.ref I) >>= _) _ _ s;refine F' (W.done s _ _ a λh' tk hm=>?_);show wpAny _ A.in1 (Qq.Dict.addKeywords D [] >>= _) _ _ _;refine F' (K' (K' ?_));refine F h' tk (λb o c e=>hm b o (λz=>c (N0 _ z)) e) ⟨us,?_,?_⟩
  .rw[PH];exact rel
  .obtain⟨o,es,ep,e,r⟩:=hd;exact⟨o,es,ep,hm D o y e,r⟩
 |succ k ih =>
  intro i s kvs us D' hi a hp rel hd T F m t;have f:i<n:=⋯
  have U:Rn i (n-i)=i::Rn (i+1) (n-(i+1)):=by rw[show n-i=(n-(i+1))+1 by omega,Ph]
  rw[U,NY]at F;refine QE vZ ?_;rw[Qu lJ _];show wpAny _ A.in1 (pyNext (.ref I) >>= _) _ _ s;refine F' (W.item i s _ _ f a λv h' tk B' B hm=>?_);cases Q i v B';have C:∀j,j<n->vD h' (tb j) (ks j) (vs j):=λj E=>by obtain⟨o,t,u,m,e,r⟩:=hp j E;exact⟨o,t,u,m,hm _ o (p j E).2 e,r⟩
  have K:h'.DictOf (br prog w) D us:=by obtain⟨o,es,ep,e,r⟩:=hd;exact⟨o,es,ep,hm D o y e,r⟩
  show wpAny _ A.in1 (holding [Qw (tb i)] _ >>= _) _ _ _;refine F' (QN ?_);refine F' (Qy (pair_items (C i f) λDd G=>?_));show wpAny _ A.in1 (holding [Se (ks i) Dd,Se (vs i) G] (dictSet D (.int (ks i) Dd) (.int (vs i) G))) _ _ _;refine QN ?_;refine wpAny_dictSet_pairs (knd:=br prog w) (k:=.inl (ks i)) (og prog w (ks i) Dd) K (λh2 hd2 M=>?_) (by rw[<-rel.length];omega);refine K' ⟨QP lJ _,?_⟩;refine ih (i+1) _ (putK kvs (.inl (ks i)) (.int (vs i))) (stored us (.inl (ks i)) (.int (vs i) G)) ⋯ f (W.frame _ _ _ B λb c o e=>?_) (λj E=>?_) (rel.put _ ⟨G,rfl⟩) hd2 (by have:=ke kvs (.inl (ks i)) (.int (vs i));omega) (λX N EE q=>?_) _ _
  .rw[M.2 b (λz=>g (by rw[<-z];exact c))];exact e
  .obtain⟨o,t,u,m,e,r⟩:=C j E;exact⟨o,t,u,m,by rw[M.2 _ (p j E).1];exact e,r⟩
  .refine F X N (λb o c e=>EE b o c ?_) q;rw[M.2 b (λz=>c (by rw[z];exact N1))];exact hm b o (λz=>c (N0 _ z)) e
end
section
variable {A:Qs}
theorem oE{l:J'}{g:O}(hl:s.heap.get? l=Y {cls:=.type "list",data:=.seq its g})(B:A.handled=S)(tb:O->J')(ks vs:O->Z)(hits:∀(i:O) v,its[i]?=Y v->v=.ref (tb i))(hp:∀j,j<its.size->vD s.heap (tb j) (ks j) (vs j))(hz:its.size<=sizeLine)
  (h:∀h' tk,(∀b o,s.heap.get? b=Y o->h'.get? b=Y o)->(∃n,KV ((Rn 0 its.size).foldl (λl j=>putK l (.inl (ks j)) (.int (vs j))) []) n/\h'.DictOf (br prog w) s.heap.objs.size n)->Q (.ref s.heap.objs.size) {s with heap:=h',toks:=tk}) :
  wpAny (model prog w) A (call (.type "dict") [.ref l]) Q E s:=by
 refine callType_codes (Q₁:=λobj c=>obj=.ref s.heap.objs.size/\c={s with heap:=s.heap.push {cls:=.type "dict",data:=.dict #[]}}) F.kt_called_dict (F.kt_typeCall_dict_1 _) F.entry_dict_init (kt_code_dict_new _ ⟨rfl,rfl⟩) ?_
 rintro obj c ⟨rfl,rfl⟩
 have a:(s.heap.push {cls:=.type "dict",data:=.dict #[]}).DictOf (br prog w) s.heap.objs.size []:=V8 s.heap;have f:(s.heap.push {cls:=.type "dict",data:=.dict #[]}).get? l=Y {cls:=.type "list",data:=.seq its g}:=N5 _ hl;have G:VB {s with heap:=s.heap.push {cls:=.type "dict",data:=.dict #[]}} (.ref l) "list":=⟨_,f,rfl⟩
 refine⟨a.typeIs,F.args_dict_init_2 _ _,?_⟩;unfold Qq.«dict.__init__»;refine F' ?_;unfold Qq.Dict.selfAndRest;refine F' (wpAny_notOrdered_dict a.typeIs ?_);show wpAny _ _ (pure (s.heap.objs.size,[Qw l])) _ _ _;refine K' ?_;show wpAny _ _ (T5 "dict.__init__" s.heap.objs.size (.ref l) [] .none) _ _ _;unfold T5;refine F' (Td G ?_);rw[HL #[1]];refine F' (Bn f (by simpa using B) λh1 tk1 k1=>?_);rw[HL (show (S:F1 GC).isNone=true from rfl)];refine F' (Sk ?_);have p:h1.get? l=Y {cls:=.type "list",data:=.seq its g}:=k1 _ _ f;refine F' (RO (items:=its) ⟨_,p,rfl,g,rfl⟩ ?_);have x:h1.DictOf (br prog w) s.heap.objs.size []:=by obtain⟨o,es,ep,e,r⟩:=a;exact⟨o,es,ep,k1 _ _ e,r⟩
 have lt:l<s.heap.objs.size:=NI hl;have ltD:s.heap.objs.size<h1.objs.size:=by obtain⟨o,_,_,e,_⟩:=x;exact NI e
 have kp:∀b o,s.heap.get? b=Y o->h1.get? b=Y o:=λb o e=>k1 _ _ (N5 _ e)
 have y:l≠h1.objs.size:=NJ (Qh lt ltD);refine K' ⟨QP lJ _,?_⟩;refine CO (A:=A.in1) (I:=h1.objs.size) (D:=s.heap.objs.size) (Sj (by simpa using B) h1.objs.size l y its) (λz=>?_) tb ks vs (λi v hv=>hits i v hv) (λi hi=>?_) (λ_=>0) its.size 0 _ [] [] (VS _) (Ot _) ⟨⟨_,NN _ rfl,rfl,rfl⟩,⟨_,N5 _ p,rfl,g,rfl⟩⟩ (λj H=>?_) .nil ?_ (by rw[OE];omega) (λh' tk B' q=>⟨rfl,h h' tk (λb o e=>B' b o (λz=>?_) (N5 _ (kp b o e))) q⟩) _ _
 .dsimp[NB,O0,S3]at z;rcases z with z|z
  .exact Qr z (NJ ltD)
  .exact Qr z (OP lt)
 .obtain⟨o,_,_,_,e,_⟩:=hp i hi;have:=NI e;refine⟨NJ this,λz=>?_⟩;dsimp[NQ]at z;exact Qr z (NJ (Qh this ltD))
 .obtain⟨o,t,u,m,e,r⟩:=hp j H;exact⟨o,t,u,m,N5 _ (kp _ _ e),r⟩
 .obtain⟨o,es,ep,e,r⟩:=x;exact⟨o,es,ep,N5 _ e,r⟩
 .have C:=NI e;dsimp[NB,O0,S3]at z;rcases z with z|z
  .exact Qr z (NJ C)
  .exact Qr z (NJ (Qh C ltD))
end
theorem G0:bootBuiltins "dict"=Y (.type "dict"):=by decide +kernel
def mE(ps:J (Z×Z)):J (Z×Z):=ps.foldl (λl p=>fe l p.1 p.2) []
theorem tj(ps:J (Z×Z)):∀(d i:O)(l:J (Z×Z)),i+d=ps.length->(Rn i d).foldl (λl j=>putK l (.inl (ps.getD j (0,0)).1) (V.int (ps.getD j (0,0)).2)) (l.map λp=>((.inl p.1,V.int p.2):Key×V))=((ps.drop i).foldl (λl p=>fe l p.1 p.2) l).map λp=>(.inl p.1,V.int p.2)
 |0,i,l,h=>by rw[PU ⋯];rfl
 |d+1,i,l,h=>by
  have hi:i<ps.length:=⋯
  rw[Ph,NY,OA hi,NY,uH];have e:ps.getD i (0,0)=ps[i]:=by rw[N9,My hi];rfl
  rw[e];exact tj ps d (i+1) _ ⋯
def zP(H:Hp)(ps:J (Z×Z))(xs:J V):Prop:=xs.length=ps.length/\∀(i:O) p,ps[i]?=Y p->∃b,xs[i]?=Y (.ref b)/\H b=Y (.tup [.int p.1,.int p.2])
def tbV(xs:J V)(i:O):Addr:=match xs[i]? with
 |some (.ref b)=>b
 |_=>0
def JU(ta:TA):TE:=λσ H Q=>ta σ H λvs H1=>∃a xs ps,vs=[.ref a]/\H1 a=Y (.lst xs)/\zP H1 ps xs/\∀p,H1 p=S->Q (.ref p) (upd H1 p (dkO (mE ps)))
section
variable {E:XK}{e:Qt}{ge:Ds->Rs (J L)}
theorem EU(hc:X.calm=true)(E:Gl X "dict")(hm:X.mg "dict"=S)(ha:PA X [e] ta)(F:starEach [e] X.env=[(false,eval e X.env)]):PE X (.Call (.Name "dict" p) [e] [] pos) (JU ta):=by
 intro z8 s σ H Q I h;refine Vl (fz I E hm G0 (Qv (thn (ha pos z8 s σ H _ I h) λus A B=>?_) F rfl));obtain⟨vs,H1,f,C,G⟩:=B;obtain⟨a,xs,ps,e1,hl,⟨wb,g⟩,q⟩:=G;subst e1;cases C with
 |cons r rr =>
  cases rr;cases r;obtain⟨its,n,D,B',K⟩:=f.lst hl;have c:its.length=ps.length:=by rw[<-D.length,wb]
  refine oE B' (f.ok.hd hc) (tbV xs) (λi=>(ps.getD i (0,0)).1) (λi=>(ps.getD i (0,0)).2) (λi v hv=>?_) (λj y=>?_) (by simp;rw[<-D.length];exact K) λh' tk hk ⟨us',rel,hd⟩=>?_
  .rw[Tr]at hv;have hi:i<ps.length:=by rw[<-c];exact (NC.mp hv).1
   obtain⟨b,z,_⟩:=g i ps[i] (My hi);obtain⟨u,Dd,M⟩:=D.get z;rw[Dd]at hv;cases hv;cases M;unfold tbV;rw[z]
  .have y:j<ps.length:=by simpa[c] using y
   obtain⟨b,z,N⟩:=g j ps[j] (My y);have EE:tbV xs j=b:=by unfold tbV;rw[z]
   obtain⟨_,ts,rt,o,g1,g2,_,m,P⟩:=(show cC X.prog X.w H1 A.heap b (.tup [.int ps[j].1,.int ps[j].2]) from f.hok b _ N)
   cases rt with
   |cons C rr =>
    cases rr with
    |cons r2 rr =>
     cases rr;obtain⟨t,rfl⟩:=C;obtain⟨u,rfl⟩:=r2;have R:ps.getD j (0,0)=ps[j]:=by rw[N9,My y];rfl
     rw[EE,R];exact⟨o,t,u,m,g1,g2,P⟩
  .rw[NM,c]at rel;have x:KV ((mE ps).map λp=>((.inl p.1,V.int p.2):Key×V)) us':=by have:=tj ps ps.length 0 [] ⋯;rw[OI,J.drop_zero]at this;rw[this]at rel;exact rel
   refine⟨.ref A.heap.objs.size,_,f.laid (a:=A.heap.objs.size) (o:=dkO (mE ps)) (t':=tk) (λb q D'=>hk b q D') (ND _) (EX ?_ (QJ.mpr (Rm (NJ f.big))) x hd),rfl,q _ (f.hok.fresh (ND _))⟩;rw[N8];have hd:∀(qs:J (Z×Z))(l:J (Z×Z)),(qs.foldl (λl p=>fe l p.1 p.2) l).length<=l.length+qs.length:=by
    intro qs
    induction qs with
    |nil=>intro l;exact ND _
    |cons p r ih =>
     intro l;rw[NY,NP];have h1:=ih (fe l p.1 p.2);have h2:(fe l p.1 p.2).length<=l.length+1:=by unfold fe;split <;> simp
     omega
   have h1:(mE ps).length<=0+ps.length:=hd ps [];omega
end
def nM:J L->F1 (J (Z×Z))
 |[]=>Y []
 |.tuple [.int a,.int b]::r=>(nM r).map λl=>(a,b)::l
 |_=>S
theorem wt:∀{r:J L}{l:J (Z×Z)},nM r=Y l->r=l.map λp=>.tuple [.int p.1,.int p.2]
 |[],l,e=>by cases e;rfl
 |x::r,l,e=>by
  unfold nM at e;split at e
  .rename_i z;cases z
  .rename_i z;injection z with z1 z2
   subst z1 z2;cases q:nM r with
   |none=>rw[q]at e;cases e
   |some m=>rw[q]at e;cases e;rw[wt q];rfl
  .cases e
theorem tN:∀l:J (Z×Z),nM (l.map λp=>.tuple [.int p.1,.int p.2])=Y l
 |[]=>rfl
 |p::r=>by rw[N2];unfold nM;rw[tN r];rfl
theorem wW{K:PySem.W.Frag}{G H:Hp}(s:aw G H):∀{ps:J (Z×Z)}{xs:J V},Iss K G (ps.map λp=>.tuple [.int p.1,.int p.2]) xs->zP H ps xs
 |[],xs,h=>by cases h.nil_of;exact⟨rfl,λi p e=>by cases e⟩
 |p::ps,xs,h=>by
  obtain⟨v,r,rfl,h1,h2⟩:=Iss.cons_of h;obtain⟨c,f⟩:=wW s h2;refine⟨by simp[c],λi g e=>?_⟩;cases i with
  |succ i=>exact f i g e
  |zero =>cases e;obtain⟨b,ys,rfl,a,j⟩:=h1.ofTup;obtain⟨u,w,rfl,l,hw⟩:=Dh j;rw[l.ofInt,hw.ofInt]at a;exact⟨b,rfl,s _ _ a⟩
def rT(EE:J O)(i:O)(ge:Ds->Rs L):Ds->Sr:=λδ=>if i<δ.length then ofR (ge (mask EE δ)) λd=>match d with
 |.list ds=>(match nM ds with
  |some ps=>.nx (δ.set i (Y (eY (mE ps))))
  |none=>.no)
 |_=>.no else .no
section
variable {E:XK}{e:Qt}{ge:Ds->Rs L}{apos:Ts}
theorem Dc(hc:X.calm=true)(h:PD X E e ge)(n:Gl X "dict")(hm:X.mg "dict"=S)(c:starEach [e] X.env=[(false,eval e X.env)])(s:X.N.Nodup)(t:i∈EE)(hi:X.N[i]?=Y x)(u:Loc X.env.scope x)(w:swapsWith (.Call (.Name "dict" p) [e] [] pos') (Y (.Name x apos)) pos.line X.env=pure false)
  (y:X.fn x=true\/X.env.scope.names.lookup x=Y .local) (z:PAD X E [e] #[0,ge]):PSD X E EE (.Assign [.Name x apos] (.Call (.Name "dict" p) [e] [] pos') pos) (rT EE i ge):=(mK s hi u (EU hc n hm z.1 c) w y).imp λD σ H f=>by
 obtain⟨H0,A0,A,δ,R,o⟩:=f;unfold rT at o;split at o
 case isFalse=>exact o.elim
 rename_i hl;have ea:af ge ah (mask EE δ)=(ge (mask EE δ)).bind λd=>.ok [d]:=rfl
 refine aD.run R.part (λds e1 vs H1 l R1 h1=>?_) (λC b H' s'=>?_) (λb=>?_)
 .rw[ea]at e1;cases eg:ge (mask EE δ) with
  |rz C=>rw[eg]at e1;cases e1
  |no=>rw[eg]at e1;cases e1
  |ok d =>
   rw[eg]at e1 o;cases e1;rw[av]at o;split at o
   .split at o
    .rename_i ds ps hp;obtain⟨v,r,rfl,h2,B⟩:=Iss.cons_of h1;cases B.nil_of;rw[wt hp]at h2;obtain⟨a,xs,rfl,g,j⟩:=h2.ofLst;refine⟨a,xs,ps,rfl,ay _ _ g,wW ay j,λq m=>?_⟩;exact o (q::A) _ _ (R.setOwnO (o:=dkO (mE ps)) t hl (l.free m) (l.trans (bS m)) aM rfl (.inl ⟨_,rfl,rfl⟩))
    .exact o.elim
   .exact o.elim
 .rw[ea]at b;cases eg:ge (mask EE δ) with
  |rz C'=>rw[eg]at b o;cases b;exact o H' (R.same.trans s')
  |no=>rw[eg]at b;cases b
  |ok d=>rw[eg]at b;cases b
 .rw[ea]at b;cases eg:ge (mask EE δ) with
  |rz C'=>rw[eg]at b;cases b
  |no=>rw[eg]at o;exact o
  |ok d=>rw[eg]at b;cases b
end
def Bz(h:QD)(b:J')(ns:J Z):Prop:=∃items:QR GC,UU h b items/\RF items.toList ns
theorem Bz.at_(t:Bz h b ns)(k:∀o,h.get? b=Y o->h'.get? b=Y o):Bz h' b ns:=by obtain⟨its,⟨o,e,r⟩,i⟩:=t;exact⟨its,⟨o,k o e,r⟩,i⟩
theorem oJ:(toString "min"++toString ".loop":RI)="min.loop":=by decide
section
variable {A:Qs}{R:Tz->LN->Prop}{I D':J'}{wr:J J'}{n:O}{T:O->GC->Prop}{St:O->QD->Prop}{tb:O->J'}{nss:O->J Z}
theorem mP(W:SU prog w A.in1 I fp wr n T St)(r:A.in1.units<cLine)(t:∀i v,T i v->v=.ref (tb i))(hw:∀i,i<n->tb i∉wr/\tb i≠D')(m:D'∉fp):∀(k j:O)(s:LN)(c:O),n=j+1+k->St (j+1) s.heap->(∀i,i<n->Bz s.heap (tb i) (nss i)) ->
  s.heap.get? D'=Y {cls:=.type "list",dict:=S,data:=.seq #[.ref (tb (bst (λi j=>HT.lexLt (nss i) (nss j)) j)),.ref (tb (bst (λi j=>HT.lexLt (nss i) (nss j)) j))] c,slots:=#[]}->(∀h' tk,(∀b o,b∉wr->b≠D'->s.heap.get? b=Y o->h'.get? b=Y o)->R (.ok (.ret (.ref (tb (bst (λi j=>HT.lexLt (nss i) (nss j)) (n-1)))))) {s with heap:=h',toks:=tk}) ->
  codeAny (model prog w) A (.builtin "min.loop" ⟨[.ref I,.none,.ref D'],[]⟩) R s
 |0,j,s,c,hn,hst,ht,hS,hR=>by
  have u:D'∉wr:=λh=>m (W.sub _ h)
  refine QE T6 ?_;rw[Qu Ro _];show wpAny _ A.in1 (seqItems? (.ref D') >>= _) _ _ s;refine F' (QX hS rfl ?_);show wpAny _ A.in1 (tryCatch (pyNext (.ref I)) _ >>= _) _ _ s;refine F' (Qy (W.done s _ _ (by rw[show n=j+1 from hn];exact hst) λh1 D k1=>?_));have a:=k1 D' _ u hS;show wpAny _ A.in1 (updateSeq D' (λ_=>#[]) >>= _) _ _ _;refine F' (Rg a rfl (F' (Rj (K' ?_))));rw[show n-1=j by omega]at hR;exact hR _ D λb o f l z=>(O5 _ _ (Rm l)).trans (k1 b o f z)
 |k+1,j,s,c,hn,hst,ht,hS,hR=>by
  have u:D'∉wr:=λh=>m (W.sub _ h)
  refine QE T6 ?_;rw[Qu Ro _];show wpAny _ A.in1 (seqItems? (.ref D') >>= _) _ _ s;refine F' (QX hS rfl ?_);show wpAny _ A.in1 (tryCatch (pyNext (.ref I)) _ >>= _) _ _ s;refine F' (Qy (W.item (j+1) s _ _ ⋯ hst λv h1 D hv p k1=>?_));cases t _ _ hv;have a:=k1 D' _ u hS;have g:∀i,i<n->Bz h1 (tb i) (nss i):=λi hi=>(ht i hi).at_ λo e=>k1 _ o (hw i hi).1 e
  have x:bst (λi j=>HT.lexLt (nss i) (nss j)) j<n:=by have:=gU (λi j=>HT.lexLt (nss i) (nss j)) j;omega
  show wpAny _ A.in1 (tryCatch (holding [Qw (tb (j+1)),Qw (tb (j+1))] (richCompare .Lt _ _ >>= _)) _ >>= _) _ _ _;obtain⟨i1,p1,f⟩:=g (j+1) ⋯;obtain⟨i2,p2,l⟩:=g _ x;refine F' (Qy (QN (F' (show wpAny _ _ (compareOp .Lt _ _) _ _ _ from HT.zC p1 p2 f l r (F' (QN (QG (F' (Rj (K' ?_))))))))));cases q:HT.lexLt (nss (j+1)) (nss (bst (λi j=>HT.lexLt (nss i) (nss j)) j)) with
  |true =>
   have y:bst (λi j=>HT.lexLt (nss i) (nss j)) (j+1)=j+1:=by rw[bst,HL q]
   rw[HL rfl];refine F' (Rg a rfl (F' (Rj ?_)));rw[oJ];refine K' ⟨QP Ro _,mP W r t hw m k (j+1) _ _ ⋯ (W.frame _ _ _ p λb B o e=>?_) (λi hi=>(g i hi).at_ λo e=>?_) (by rw[y];exact OS _ a rfl) λh2 C k2=>?_⟩
   .exact (O5 _ _ (λz:D'=b=>m (z▸B))).trans e
   .exact (O5 _ _ (Rm (hw i hi).2)).trans e
   .exact hR h2 C λb o f l z=>k2 b o f l ((O5 _ _ (Rm l)).trans (k1 b o f z))
  |false =>
   have y:bst (λi j=>HT.lexLt (nss i) (nss j)) (j+1)=bst (λi j=>HT.lexLt (nss i) (nss j)) j:=by rw[bst,I' (by rw[q];decide)]
   rw[I' #[1]];refine F' (Rj ?_);rw[oJ];refine K' ⟨QP Ro _,mP W r t hw m k (j+1) _ c ⋯ p g (by rw[y];exact a) λh2 C k2=>?_⟩;exact hR h2 C λb o f l z=>k2 b o f l (k1 b o f z)
variable {l:J'}
theorem Bo(r:A.handled=S)(t:A.units+1<cLine)(hl:s.heap.IsList l its)(hits:∀(i:O) v,its[i]?=Y v->v=.ref (tb i))(m:∀i,i<its.size->Bz s.heap (tb i) (nss i))(hn:0<its.size)
  (h:∀h' tk,(∀b o,s.heap.get? b=Y o->h'.get? b=Y o)->Q (.ref (tb (bst (λi j=>HT.lexLt (nss i) (nss j)) (its.size-1)))) {s with heap:=h',toks:=tk}):wpAny (model prog w) A (call (.builtin "min") [.ref l]) Q E s:=by
 refine call_function_tree F.kind_min F.plain_min F.entry_min (F.args_min1 _) ?_;have u:QZ "min" ["key", "default"] 0 ⟨[],[]⟩=pure [S,S]:=rfl;refine F' (TH u (F' (K' ?_)));refine F' (RO hl (F' (QW ?_)));obtain⟨x,n,cl,y,dl⟩:=hl;have p:l<s.heap.objs.size:=NI n;have sz:(s.heap.push {cls:=.type "list_iterator",data:=.fields #[.ref l,.int 0 0]}).objs.size=s.heap.objs.size+1:=R8 ..;have W:=Sj (prog:=prog) (w:=w) (A:=A.in1) (by simpa using r) s.heap.objs.size l (NJ p) its;have a:(s.heap.push {cls:=.type "list_iterator",data:=.fields #[.ref l,.int 0 0]}).objs.size∉[s.heap.objs.size,l]:=λhm=>by
  dsimp[NB,O0,S3]at hm;rw[sz]at hm;rcases hm with z|z
  .exact Qr z (Qe _)
  .exact Qr z (OP (Oj p))
 have lt:∀i,i<its.size->tb i<s.heap.objs.size:=λi hi=>by obtain⟨_,⟨o,e,_⟩,_⟩:=m i hi;exact NI e
 have hw:∀i,i<its.size->tb i∉[s.heap.objs.size]/\tb i≠(s.heap.push {cls:=.type "list_iterator",data:=.fields #[.ref l,.int 0 0]}).objs.size:=λi hi=>⟨λz=>by rw[NQ]at z;exact Qr z (NJ (lt i hi)),by rw[sz];exact NJ (Oj (lt i hi))⟩
 rw[oJ];refine K' ⟨QP Ro _,QE T6 ?_⟩;rw[Qu Ro _];show wpAny _ A.in1 (seqItems? (.ref _) >>= _) _ _ _;refine F' (QX (NN _ rfl) rfl ?_);show wpAny _ A.in1 (tryCatch (pyNext _) _ >>= _) _ _ _;refine F' (Qy (W.item 0 _ _ _ hn ⟨⟨_,N5 _ (NN _ rfl),rfl,rfl⟩,⟨x,N5 _ (N5 _ n),cl,y,dl⟩⟩ λv h1 t1 hv f k1=>?_));cases hits 0 v hv;have c:=k1 _ _ (λz=>a (by rw[NQ]at z;rw[z];exact N1)) (NN (s.heap.push {cls:=.type "list_iterator",data:=.fields #[.ref l,.int 0 0]}) (o:={cls:=.type "list",data:=.seq #[]}) rfl);show wpAny _ A.in1 (updateSeq _ (λ_=>#[_,_]) >>= _) _ _ _;refine F' (Rg c rfl ?_);rw[oJ];refine K' ⟨QP Ro _,mP (nss:=nss) W (by simpa using t) hits hw a (its.size-1) 0 _ _ ⋯ (W.frame _ _ _ f λb g o e=>?_) (λi hi=>((m i hi).at_ λo e=>?_)) (OS _ c rfl) λh2 B k2=>h h2 B λb o e=>?_⟩
 .exact (O5 _ _ (λz=>a (by rw[z];exact g))).trans e
 .exact (O5 _ _ (Rm (hw i hi).2)).trans (k1 _ o (hw i hi).1 (N5 _ (N5 _ e)))
 .have q:=NI e;have n1:b∉[s.heap.objs.size]:=λz=>by rw[NQ]at z;exact Qr z (NJ q)
  have n2:b≠(s.heap.push {cls:=.type "list_iterator",data:=.fields #[.ref l,.int 0 0]}).objs.size:=by rw[sz];exact NJ (Oj q)
  exact k2 b o n1 n2 ((O5 _ _ (Rm n2)).trans (k1 b o n1 (N5 _ (N5 _ e))))
end
abbrev mV(ns:J Z):PyData:=.tuple (ns.map .int)
def ltN(nss:J (J Z))(i j:O):Bool:=HT.lexLt (nss.getD i []) (nss.getD j [])
def DG(H:Hp)(nss:J (J Z))(ys:J V):Prop:=ys.length=nss.length/\∀(i:O) ns,nss[i]?=Y ns->∃b,ys[i]?=Y (.ref b)/\H b=Y (.tup (ns.map V.int))
def IU:J V->Hp->VK->Prop:=λxs H Q=>∃a ys nss,xs=[.ref a]/\H a=Y (.lst ys)/\DG H nss ys/\0<nss.length/\∀b,ys[bst (ltN nss) (nss.length-1)]?=Y (.ref b)->Q (.ref b) H
section
variable {E:XK}{a:Qt}{es:J Qt}
theorem B5(hc:X.calm=true)(f:X.A.units+1<cLine):kf X (.builtin "min") IU:=by
 intro z8 s σ H xs us Q I r h;obtain⟨a,ys,nss,rfl,hl,⟨wb,hts⟩,hn,q⟩:=h;obtain⟨u,rfl,m⟩:=vals1 r;cases m;obtain⟨its,n,l,o,hz⟩:=I.lst hl;have c:its.length=nss.length:=by rw[<-l.length,wb]
 have g:bst (ltN nss) (nss.length-1)<nss.length:=by have:=gU (ltN nss) (nss.length-1);omega
 refine Bo (tb:=tbV ys) (nss:=λi=>nss.getD i []) (its:=its.toArray) (I.ok.hd hc) f ⟨_,o,rfl,n,rfl⟩ (λi v hv=>?_) (λi hi=>?_) (by simp;omega) λh' tk t=>?_
 .rw[Tr]at hv;have hi:i<nss.length:=by rw[<-c];exact (NC.mp hv).1
  obtain⟨b,e,_⟩:=hts i nss[i] (My hi);obtain⟨u,f,x⟩:=l.get e;rw[f]at hv;cases hv;cases x;unfold tbV;rw[e]
 .have hi:i<nss.length:=by simpa[c] using hi
  obtain⟨b,e,y⟩:=hts i nss[i] (My hi);have j:tbV ys i=b:=by unfold tbV;rw[e]
  obtain⟨_,ts,rt,p⟩:=(show cC X.prog X.w H s.heap b (.tup (nss[i].map V.int)) from I.hok b _ y)
  have z:nss.getD i []=nss[i]:=by rw[N9,My hi];rfl
  rw[j,z];exact⟨ts.toArray,p.tup,intsAre_of rt⟩
 .rw[NM,c];obtain⟨b,e,_⟩:=hts _ _ (My g);have j:tbV ys (bst (ltN nss) (nss.length-1))=b:=by unfold tbV;rw[e]
  exact⟨.ref b,H,I.kept t,congrArg Qw j,q b e⟩
def mY:J L->F1 (J (J Z))
 |[]=>Y []
 |.tuple ds::r=>(intsOf ds).bind λns=>(mY r).map (ns::·)
 |_=>S
theorem rP:∀{ds:J L}{nss:J (J Z)},mY ds=Y nss->ds=nss.map mV
 |[],nss,h=>by cases h;rfl
 |.tuple ds::r,nss,h=>by unfold mY at h;obtain⟨ns,e1,h⟩:=Og.mp h;obtain⟨l,e2,h⟩:=Oq.mp h;subst h;rw[mO e1,rP e2];rfl
 |.none::_,_,h=>by cases h
 |.bool _::_,_,h=>by cases h
 |.int _::_,_,h=>by cases h
 |.str _::_,_,h=>by cases h
 |.list _::_,_,h=>by cases h
 |.dict _::_,_,h=>by cases h
theorem t9{K:PySem.W.Frag}{G H:Hp}(s:aw G H):∀{nss:J (J Z)}{xs:J V},Iss K G (nss.map mV) xs->DG H nss xs
 |[],xs,h=>by cases h.nil_of;exact⟨rfl,λi p e=>by cases e⟩
 |ns::nss,xs,h=>by
  obtain⟨v,r,rfl,h1,h2⟩:=Iss.cons_of h;obtain⟨c,f⟩:=t9 s h2;refine⟨by simp[c],λi g e=>?_⟩;cases i with
  |succ i=>exact f i g e
  |zero =>cases e;obtain⟨b,ys,rfl,a,j⟩:=h1.ofTup;rw[j.ofInts]at a;exact⟨b,rfl,s _ _ a⟩
def j8:J L->F1 L
 |[.list x]=>(mY x).bind λnss=>if 0<nss.length then Y (mV (nss.getD (bst (ltN nss) (nss.length-1)) [])) else S
 |_=>S
theorem Dg:FnD K j8 IU:=λds d vs H A Q e hA h k=>by
 unfold j8 at e;split at e
 .rename_i x;obtain⟨nss,q,e⟩:=Og.mp e;split at e
  .rename_i hn;cases e;obtain⟨v,rfl,g⟩:=lg h;obtain⟨p,xs,rfl,hp,f⟩:=g.ofLst;rw[rP q]at f;have a:bst (ltN nss) (nss.length-1)<nss.length:=by have:=gU (ltN nss) (nss.length-1);omega
   refine⟨p,xs,nss,rfl,ay _ _ hp,t9 ay f,hn,λb i=>k _ H (aw.refl _) ?_⟩;obtain⟨_,j⟩:=t9 (aw.refl _) f;obtain⟨b',c,l⟩:=j _ _ (My a);rw[i]at c;cases c;rw[show nss.getD (bst (ltN nss) (nss.length-1)) []=nss[bst (ltN nss) (nss.length-1)] by rw[N9,My a];rfl];exact kg l (mB _)
  .cases e
 .cases e
theorem Hh(hc:X.calm=true)(c:X.A.units+1<cLine)(hm:X.mg "min"=S)(ha:PAD X E (a::es) gs)(e:Gl X "min")(f:starEach (a::es) X.env=(false,eval a X.env)::starEach es X.env)(b:(backTo pos (starEach es X.env)).any (·.1)=false) :
 PD X E (.Call (.Name "min" p) (a::es) [] pos) (gF j8 gs):=fZ Dg ha λh=>fo (B5 hc c) e hm HI h #[1] #[1] f b
end
section
variable {E:XK}{H0:Hp}{A0:J J'}
theorem bA.releaseO{m:L}(R:bA K H0 A0 H A EE δ σ)(hi:i∈EE)(e:δ[i]?=Y (Y m)):∃p,bA K H0 A0 H p (EE.filter (·≠i)) δ σ:=by
 obtain⟨a,o,d',e1,h1,h2,r,s⟩:=R.own i m hi e;subst r;have sub:∀b∈A.filter (·≠a)++A0,b∈A++A0:=λb c=>(NZ.mp c).elim (λz=>O1 _ (NK.mp z).1) (NF _)
 have na:a∉A.filter (·≠a)++A0:=λz=>(NZ.mp z).elim (λz=>by simpa using (NK.mp z).2) (R.apart h1)
 refine⟨A.filter (·≠a),R.same,R.ls0,λb c=>R.new b (NK.mp c).1,λb c=>R.ls b (NK.mp c).1,R.len,λj d f q=>?_,λj d f q=>?_,λj k d e a f t=>R.inj j k d e a (NK.mp f).1 (NK.mp t).1⟩
 .by_cases z:j=i
  .subst z;rw[e]at q;cases q;exact⟨.ref a,e1,(s.same (gH sub)).is (by rw[bb na];exact h2)⟩
  .obtain⟨v,g,h⟩:=R.pl j d (λw=>f (NK.mpr ⟨w,by simpa using z⟩)) q;exact⟨v,g,h.same (gH sub)⟩
 .obtain⟨n,l⟩:=NK.mp f;have l:j≠i:=by simpa using l
  obtain⟨b,ys,es,g,h,u,x,y⟩:=R.own j d n q;refine⟨b,ys,es,g,NK.mpr ⟨h,?_⟩,u,x,y.same (gH sub)⟩;have:b≠a:=λw=>by subst w;exact l (R.inj j i d _ b n hi q e g e1)
  simpa using this
def nZ(i:O)(G:Ds->Sr):Ds->Sr:=λδ=>match δ[i]? with
 |some (Y _)=>(match G δ with
  |.rt d=>.rt d
  |.rz C=>.rz C
  |_=>.no)
 |_=>.no
theorem wc{O':J O}{G:Ds->Sr}(h:PBD X E O' ss G)(hi:i∈EE)(b:EE.filter (·≠i)=O'):PBD X E EE ss (nZ i G):=by
 subst b;exact h.imp λD σ H a=>by
  obtain⟨H0,A0,A,δ,R,o⟩:=a;unfold nZ at o;split at o
  .rename_i d q;obtain⟨c,e⟩:=R.releaseO hi q;refine⟨H0,A0,c,δ,e,?_⟩;cases g:G δ with
   |rt d=>rw[g]at o;exact o
   |rz C=>rw[g]at o;exact o
   |nx _=>rw[g]at o;exact o.elim
   |bk _=>rw[g]at o;exact o.elim
   |ct _=>rw[g]at o;exact o.elim
   |no=>rw[g]at o;exact o.elim
  .exact o.elim
end
abbrev liD(ns:J Z):PyData:=.list (ns.map .int)
abbrev Bi(nss:J (J Z)):PyData:=.list (nss.map liD)
structure nh(H:Hp)(D:J')(bs:J J')(nss:J (J Z)):Prop where
 hd:H D=Y (.lst (bs.map V.ref))
 nd:(D::bs).Nodup
 len:bs.length=nss.length
 get:∀(i:O) b ns,bs[i]?=Y b->nss[i]?=Y ns->H b=Y (.lst (ns.map V.int))
theorem nh.same{bs:J J'}(N:nh H D bs nss)(s:aw H H'):nh H' D bs nss:=⟨s _ _ N.hd,N.nd,N.len,λi b ns h1 h2=>s _ _ (N.get i b ns h1 h2)⟩
theorem nh.own{bs:J J'}(N:nh H D bs nss):Ls H (D::bs):=λa ha=>by
 rcases NB.mp ha with z|z
 .exact⟨_,by rw[z];exact N.hd,rfl⟩
 .obtain⟨i,hi,e⟩:=J.mem_iff_getElem.mp z;have b:i<nss.length:=by rw[<-N.len];exact hi
  exact⟨_,N.get i a nss[i] (by rw[<-e];exact My hi) (My b),rfl⟩
theorem wj{K:PySem.W.Frag}{H:Hp}:∀{bs:J J'}{nss:J (J Z)},bs.length=nss.length->(∀(i:O) b ns,bs[i]?=Y b->nss[i]?=Y ns->H b=Y (.lst (ns.map V.int)))->Iss K H (nss.map liD) (bs.map V.ref)
 |[],[],_,_=>eR
 |b::bs,ns::nss,hl,h=>dQ (k9 (h 0 b ns rfl rfl) (mB ns)) (wj (by simpa using hl) λi b ns h1 h2=>h (i+1) b ns h1 h2)
 |[],_::_,hl,_=>by cases hl
 |_::_,[],hl,_=>by cases hl
theorem nh.is{bs:J J'}(N:nh H D bs nss)(c:∀a∈D::bs,a∉A):Is K (del H A) (Bi nss) (.ref D) :=
 k9 (by rw[bb (c D N1)];exact N.hd) (wj N.len λi b ns h1 h2=>by rw[bb (c b (N0 _ (O8 h1)))];exact N.get i b ns h1 h2)
theorem nK{K:PySem.W.Frag}{H:Hp}:∀{ns:J Z}{xs:J V},Iss K H (ns.map FC) xs->xs=ns.map V.int
 |[],xs,h=>h.nil_of
 |n::ns,xs,h=>by obtain⟨v,r,rfl,h1,h2⟩:=Iss.cons_of h;rw[h1.ofInt,nK h2];rfl
def lN(K:PySem.W.Frag)(E:XK)(n0:O)(gi gs:Ds->Rs (J L))(tgt:L->F1 Ds):TE:=λσ H Q=>∃A δ,eI K H A δ σ/\δ.length=n0/\∃ds nss,gi δ=.ok ds/\ds.length<=1000000/\nss.length=ds.length /\
 (∀(i:O) d,ds[i]?=Y d->∃b ns,tgt d=Y b/\nss[i]?=Y ns/\gs (δ++b)=.ok (ns.map .int)) /\
 ∀(bs:J J')(D:J')(H':Hp),nh H' D bs nss->(∀a∈D::bs,H a=S)->aw H H'->Q (.ref D) H'
theorem Lc{E:XK}{own:J Qn}{g:TG}{tt:TT}{tgt:L->F1 Ds}(hT:TgD K n0 own.length tgt g)(A4:∀σ H Q,cD K E0 aZ σ H Q->tt σ H Q) :
  ∀σ H Q,lN K E n0 gi gs tgt σ H Q->tLC own.length (iD K E gi) g tt (lD K E0 gs) σ H Q:=by
 intro σ H Q ⟨A,δ,R,A2,ds,nss,q,hz,C,hel,o⟩;have hσ:σ.length=n0:=by rw[<-R.len];exact A2
 refine⟨A,δ,R,?_⟩;rw[q];intro B' H1 P hJ D F;have D':=R.same P;have nD:D∉A:=D'.ls.new F;refine⟨λi m ys H'=>m=ds.length-i/\i<=ds.length/\aw H1 H'/\H' D=Y (.lst ys)/\∃bs:J J',bs.length=i/\ys=bs.map V.ref/\bs.Nodup/\(∀a∈bs,H1 a=S/\a≠D/\∃u,H' a=Y u)/\∀(k:O) b ns,bs[k]?=Y b->nss[k]?=Y ns->H' b=Y (.lst (ns.map V.int)),
  ⟨ds.length,by simp,Ot _,bS F,aM,[],rfl,rfl,Q3,λa h=>(O0 h).elim,λk b ns h=>by cases h⟩,?_⟩
 rintro i m ys H' ⟨rfl,hi,B,hl,bs,l,rfl,nd,f,c3⟩
 refine⟨hl,?_⟩;have sG:aw (del H1 A) H':=ay.trans B;have G:∀b∈D::A,(del H1 A) b=none:=λb n=>by
  rcases NB.mp n with z|z
  .rw[z,bb nD];exact F
  .exact kq z
 obtain⟨jg,js,jy⟩:=hJ H' (D::A) sG (λb n=>by
  rcases NB.mp n with z|z
  .exact⟨_,by rw[z];exact hl,rfl⟩
  .exact (D'.ls.same B) b z) G
 by_cases hlt:i<ds.length
 .refine .inr ⟨jg i hlt,λx H2 σ' I y=>?_⟩;obtain⟨s2,d,ed,hd⟩:=jy i x H2 hlt y;obtain⟨T,ns,et,ef,eg⟩:=hel i d ed;have l2:H2 D=Y (.lst (bs.map V.ref)):=s2 _ _ hl;have Dd:Ls H2 (D::A):=λb n=>by
   rcases NB.mp n with z|z
   .exact⟨_,by rw[z];exact l2,rfl⟩
   .exact (D'.ls.same (B.trans s2)) b z
  obtain⟨hol,hgo⟩:=hT d x σ σ' H2 (D::A) (λr H2=>tt r H2 λb H3 =>
   if b=true then lD K E0 gs r H3 λv H4=>H4 D=Y (.lst (bs.map V.ref))/\(bs.map V.ref).length<sizeLine/\(∃j,r=σ++j/\j.length=own.length)/\∃m',m' < ds.length-i/\_
   else (∃j,r=σ++j/\j.length=own.length)/\∃m',m' < ds.length-i/\_) T hσ I Dd hd et
  refine hgo λvs M N=>?_
  have EE:aw (del H1 A) (del H2 (D::A)):=oG (sG.trans s2) G;have RE:eI K H2 (D::A) (δ++T) (σ++vs):=by
   refine⟨Dd,by rw[NS,NS,R.len,M,hol],λk e U=>?_⟩;by_cases hk:k<δ.length
   .rw[O6 hk]at U;obtain⟨u,e1,t⟩:=D'.get k e U;exact⟨u,by rw[O6 (by rw[<-R.len];exact hk)];exact e1,t.same EE⟩
   .rw[O9 ⋯]at U;obtain⟨u,e1,t⟩:=N _ e U;exact⟨u,by rw[O9 (by rw[<-R.len];omega),<-R.len];exact e1,t⟩
  refine A4 _ _ _ ⟨D::A,δ++T,RE,?_⟩;intro H3 s;have hI:∀{p q:Prop},p->(if true=true then p else q):=λh=>by rw[HL rfl];exact h
  refine hI ⟨D::A,δ++T,RE.same s,?_⟩;rw[eg];intro a xs H4 na X ha hx;cases nK hx;have l4:H4 D=Y (.lst (bs.map V.ref)):=X _ _ (s _ _ l2);have w:a≠D:=λz=>by rw[z,s _ _ l2]at na;cases na
  have naA:a∉bs:=λz=>by obtain⟨_,_,u,t⟩:=f a z;rw[s _ _ (s2 _ _ t)]at na;cases na
  have hlt2:i<nss.length:=by rw[C];exact hlt
  refine⟨l4,by rw[QI,N8,l];omega,⟨vs,rfl,M⟩,ds.length-(i+1),⋯,rfl,hlt,?_,aM,bs++[a],by rw[NS,l];rfl,by rw[Ol];rfl,?_,λb n=>?_,λk b ms h1 h2=>?_⟩
  .exact aw.put (((B.trans s2).trans s).trans X) F
  .exact Pb.mpr ⟨nd,by simp,λb n c hc e=>by rw[NQ.mp hc]at e;exact naA (e▸n)⟩
  .rcases NZ.mp n with z|z
   .obtain⟨h1,h2,u,t⟩:=f b z;exact⟨h1,h2,u,by rw[aB h2];exact X _ _ (s _ _ (s2 _ _ t))⟩
   .cases NQ.mp z;exact⟨((B.trans s2).trans s).free na,w,_,by rw[aB w];exact ha⟩
  .by_cases hk:k<bs.length
   .rw[O6 hk]at h1;have nb:=(f b (O8 h1)).2.1;rw[aB nb];exact X _ _ (s _ _ (s2 _ _ (c3 k b ms h1 h2)))
   .rw[O9 ⋯]at h1;have:k=i:=by have:=(NC.mp h1).1;simp at this;omega
    subst this;rw[l,PH]at h1;cases h1;rw[ef]at h2;cases h2;rw[aB w];exact ha
 .have e:i=ds.length:=⋯
  refine .inl ⟨by rw[e];exact js,o bs D H' ⟨hl,O7.mpr ⟨λz=>(f D z).2.1 rfl,nd⟩,by rw[l,C,e],c3⟩ (λa ha=>?_) (P.trans B)⟩;rcases NB.mp ha with z|z
  .rw[z];exact P.free F
  .exact P.free (f a z).1
theorem n8{f:O}{H:Hp}{Q b:St->Hp->Prop}:∀(is:J O)(vs:J V)(σ:St),f∉is->m9 is vs σ H Q->(∀a,Q a H->a[f]?=σ[f]?->b a H)->m9 is vs σ H b
 |[],vs,σ,_,h,k=>⟨h.1,k σ h.2 rfl⟩
 |i::is,vs,σ,hf,⟨v,r,e,h⟩,k=>⟨v,r,e,n8 is r _ (λz=>hf (N0 _ z)) h λa q z=>k a q (z.trans (NW λw=>hf (by rw[w];exact N1)))⟩
def TgF(K:PySem.W.Frag)(f:O)(tgt:L->Ds->F1 Ds)(g:TG):Prop:=∀(d:L)(v:V)(H0:Hp)(A0:J J')(H:Hp)(A:J J')(δ b:Ds)(σ:St)(Q:St->Hp->Prop),bA K H0 A0 H A [] δ σ->Is K (del H (A++A0)) d v->tgt d δ=Y b ->
 (∀a,bA K H0 A0 H A [] b a->a[f]?=σ[f]?->Q a H)->g v σ H Q
theorem Ii{is:J O}(hi:f∉is):TgF K f (b9 is) (L2.Ju K is.length (m9 is)):=λd v H0 A0 H A δ b σ Q R h e k=>by
 obtain⟨p,xs,e1,h1,h2,g⟩:=Ax (EE:=[]) (is:=is) (λ_ _=>O0) d v H0 A0 H A δ b σ (λa _=>bA K H0 A0 H A [] b a) R h e λa c=>c
 exact⟨p,xs,e1,h1,h2,n8 is xs σ hi g λa c z=>k a c z⟩
section
variable {H0:Hp}{A0:J J'}
theorem bA.hide(R:bA K H0 A0 H A [] δ σ)(s:aw H H')(hn:∀a∈B,H a=S)(hB:Ls H' B):bA K H0 A0 H' (B++A) [] (δ.set f S) (σ.set f (Y v)) where
 same:=R.same.trans s
 ls0:=R.ls0
 new:=λa ha=>(NZ.mp ha).elim (λz=>R.same.free (hn a z)) (R.new a)
 ls:=λa ha=>(NZ.mp ha).elim (hB a) ((R.ls.same s) a)
 len:=by simp[R.len]
 pl:=λi d hi e=>by
  rcases get_set e with⟨z,e⟩|⟨z,e⟩
  .cases e
  .obtain⟨u,e1,h1⟩:=R.pl i d hi e;refine⟨u,jf z e1,h1.same λb o q=>?_⟩;obtain⟨y,q⟩:=df q;rw[bb (λw=>?_)]
   .exact s _ _ q
   .rcases NZ.mp w with w|w
    .rcases NZ.mp w with w|w
     .rw[hn b w]at q;cases q
     .exact y (O1 _ w)
    .exact y (NF _ w)
 own:=λi d hi=>by cases hi
 inj:=λi j d e a hi=>by cases hi
theorem bA.hid(R:bA K H0 A0 H A [] δ σ)(f:b∈A)(g:Hz o=true):bA K H0 A0 (upd H b o) A [] δ σ where
 same:=λc u e=>by
  have h:c≠b:=λz=>by rw[z,R.new b f]at e;cases e
  rw[aB h];exact R.same c u e
 ls0:=R.ls0
 new:=R.new
 ls:=λc hc=>by
  by_cases z:c=b
  .exact⟨_,by rw[z,aM],g⟩
  .rw[aB z];exact R.ls c hc
 len:=R.len
 pl:=λi d hi e=>by rw[lK (O1 _ f)];exact R.pl i d hi e
 own:=λi d hi=>by cases hi
 inj:=λi j d e a hi=>by cases hi
theorem bA.show{b:L}(R:bA K H0 A0 H A [] δ σ)(c:σ[f]?=Y (Y v))(h:Is K (del H A0) b v):bA K H0 A0 H [] [] (δ.set f (Y b)) σ where
 same:=R.same
 ls0:=R.ls0
 new:=λa h=>by cases h
 ls:=λa h=>by cases h
 len:=by simp[R.len]
 pl:=λi d hi e=>by
  rcases get_set e with⟨z,e⟩|⟨z,e⟩
  .cases e;subst z;exact⟨v,c,h⟩
  .obtain⟨u,e1,h1⟩:=R.pl i d hi e;exact⟨u,e1,h1.same qD⟩
 own:=λi d hi=>by cases hi
 inj:=λi j d e a hi=>by cases hi
end
def put2(nss:J (J Z))(i j z:Z):F1 (J (J Z)):=(ixN nss.length i).bind λk=>nss[k]?.bind λns=>(ixN ns.length j).bind λl=>Y (nss.set k (ns.set l z))
theorem Hr{i j z:Z}(h:put2 nss i j z=Y n'):∃k ns l,ixN nss.length i=Y k/\nss[k]?=Y ns/\ixN ns.length j=Y l/\n'=nss.set k (ns.set l z):=by unfold put2 at h;obtain⟨k,e1,h⟩:=Og.mp h;obtain⟨ns,e2,h⟩:=Og.mp h;obtain⟨l,a,h⟩:=Og.mp h;exact⟨k,ns,l,e1,e2,a,(N4 h).symm⟩
def ph(g1 g2 gv:Ds->Rs L)(δ:Ds)(n:J (J Z)):F1 (J (J Z)):=match gv δ,g1 δ,g2 δ with
 |.ok (.int z),.ok (.int i),.ok (.int j)=>put2 n i j z
 |_,_,_=>S
theorem Et{g1 g2:Ds->Rs L}{n:J (J Z)}(h:ph g1 g2 gv δ n=Y n'):∃z i j,gv δ=.ok (.int z)/\g1 δ=.ok (.int i)/\g2 δ=.ok (.int j)/\put2 n i j z=Y n':=by
 unfold ph at h;split at h
 .exact⟨_,_,_,by assumption,by assumption,by assumption,h⟩
 .cases h
def lW(tgt:L->Ds->F1 Ds)(ca:Ds->Rs Qo)(g1 g2 gv:Ds->Rs L):J L->Ds->J (J Z)->F1 (Ds×J (J Z))
 |[],δ,n=>Y (δ,n)
 |d::r,δ,n=>(tgt d δ).bind λδ1=>match ca δ1 with
  |.ok true=>(ph g1 g2 gv δ1 n).bind λn'=>lW tgt ca g1 g2 gv r δ1 n'
  |.ok false=>lW tgt ca g1 g2 gv r δ1 n
  |_=>S
def rO:J L->F1 (J (J Z))
 |[]=>Y []
 |.list ds::r=>(intsOf ds).bind λns=>(rO r).map (ns::·)
 |_=>S
theorem wG:∀{ds:J L}{nss:J (J Z)},rO ds=Y nss->ds=nss.map liD
 |[],nss,h=>by cases h;rfl
 |.list ds::r,nss,h=>by unfold rO at h;obtain⟨ns,e1,h⟩:=Og.mp h;obtain⟨l,e2,h⟩:=Oq.mp h;subst h;rw[mO e1,wG e2];rfl
 |.none::_,_,h=>by cases h
 |.bool _::_,_,h=>by cases h
 |.int _::_,_,h=>by cases h
 |.str _::_,_,h=>by cases h
 |.tuple _::_,_,h=>by cases h
 |.dict _::_,_,h=>by cases h
theorem p9{gs:Ds->Rs (J L)}{tgt:L->F1 Ds}{δ:Ds}:∀{ds:J L}{nss:J (J Z)},eG aZ (gL gs) tgt δ ds=.ok (nss.map liD)->nss.length=ds.length/\∀(i:O) d,ds[i]?=Y d->∃a ns,tgt d=Y a/\nss[i]?=Y ns/\gs (δ++a)=.ok (ns.map .int)
 |[],nss,h=>by
  unfold eG at h;cases nss with
  |nil=>exact⟨rfl,λi d e=>by cases e⟩
  |cons=>cases h
 |d::r,nss,h=>by
  unfold eG at h;cases et:tgt d with
  |none=>rw[et]at h;cases h
  |some a =>
   dsimp[et,aZ,Rs.fU,Rs.ag,QA]at h;cases eg:gs (δ++a) with
   |rz C=>dsimp[gL,eg,Rs.dH]at h;cases h
   |no=>dsimp[gL,eg,Rs.bR]at h;cases h
   |ok l =>
    dsimp[gL,eg,Rs.ag,Rs.fU]at h;cases ec:eG aZ (gL gs) tgt δ r with
    |rz C=>rw[ec]at h;cases h
    |no=>rw[ec]at h;cases h
    |ok l2 =>
     rw[ec,Rs.ag]at h;cases nss with
     |nil=>cases h
     |cons ns nss =>
      injection h with h
      rw[N2]at h;injection h with h1 h2
      injection h1 with h1
      subst h1 h2;obtain⟨c,f⟩:=p9 ec;refine⟨by simp[c],λi e b=>?_⟩;cases i with
      |zero=>cases b;exact⟨a,ns,et,rfl,eg⟩
      |succ i=>exact f i e b
def nT(f n0:O)(gi gs:Ds->Rs (J L))(tg1:L->F1 Ds)(gw:Ds->Rs (J L))(tgt:L->Ds->F1 Ds)(ca:Ds->Rs Qo)(g1 g2 gv:Ds->Rs L):Ds->Sr:=λδ=>if f<δ.length then match aO n0 gi aZ (gL gs) tg1 δ with
 |.ok dss=>match rO dss,gw (δ.set f S) with
  |some nss,.ok ds=>match lW tgt ca g1 g2 gv ds (δ.set f S) nss with
   |some (δ',n')=>.nx (δ'.set f (Y (Bi n')))
   |none=>.no
  |_,_=>.no
 |_=>.no else .no
theorem Fn{g1 g2:Ds->Rs L}:nT f n0 gi gs tg1 gw tgt ca g1 g2 gv δ=.no\/∃ds nss b a n',f<δ.length/\δ.length=n0/\gi δ=.ok ds/\ds.length<=1000000/\eG aZ (gL gs) tg1 δ ds=.ok (nss.map liD)/\gw (δ.set f S)=.ok b/\lW tgt ca g1 g2 gv b (δ.set f S) nss=Y (a,n')/\nT f n0 gi gs tg1 gw tgt ca g1 g2 gv δ=.nx (a.set f (Y (Bi n'))):=by
 unfold nT;split
 case isFalse=>exact .inl rfl
 rename_i c;split
 case h_2=>exact .inl rfl
 rename_i dss e;split
 case h_2=>exact .inl rfl
 rename_i nss ds e1 e2;split
 case h_2=>exact .inl rfl
 rename_i a n' g;right;unfold aO at e;split at e
 case isFalse=>cases e
 rename_i hn;cases eg:gi δ with
 |rz C=>rw[eg]at e;cases e
 |no=>rw[eg]at e;cases e
 |ok di =>
  rw[eg,Rs.ag]at e;split at e
  case isFalse=>cases e
  rename_i h;rw[wG e1]at e;exact⟨di,nss,ds,a,n',c,hn,rfl,h,e,e2,g,rfl⟩
theorem nh.put{bs:J J'}{k l:O}{z:Z}(N:nh H D bs nss)(a:bs[k]?=Y b)(hn:nss[k]?=Y ns):nh (upd H b (.lst ((ns.map V.int).set l (.int z)))) D bs (nss.set k (ns.set l z)):=by
 obtain⟨n1,n2⟩:=O7.mp N.nd;have g:D≠b:=λe=>n1 (e▸O8 a)
 refine⟨by rw[aB g];exact N.hd,N.nd,by rw[P7];exact N.len,λi c h h1 h2=>?_⟩;rcases get_set h2 with⟨e,f⟩|⟨e,f⟩
 .subst e;rw[a]at h1;cases h1;rw[f,aM,VT]
 .have j:c≠b:=λw=>by subst w;obtain⟨p1,p2⟩:=NC.mp h1;obtain⟨m,n⟩:=NC.mp a;exact e ((UH (h₀:=m) (h₁:=p1) n2).mp (by rw[p2,n]))
  rw[aB j];exact N.get i c h h1 f
theorem DD{E:XK}{g1 g2:Ds->Rs L}{Gr:Ds->Sr}{g:TG}{c k1 k2 e:Qt}{p1 p3 p4 p5:Ts}
  (hS:PS X st (Cf (lN X.K E n0 gi gs tg1) (kX f))) (hi:X.N[f]?=Y x) (hv:Vis X.env.scope x)
  (hw:PID X E tg iter gw) (hT:TgF X.K f tgt g) (hg:PG X tg g) (T:PCD X E c ca) (h1:PD X E k1 g1) (h2:PD X E k2 g2) (he:PD X E e gv) (hr:PBD X E [] ss Gr)
  (hp:S' (model X.prog X.w) X.A X.env X.xe) (hc:X.calm=true) (hs:∀x,foldedSetIterable iter X.env x=pure x)
  (hd:(x==("__debug__":Qn))=false) (U:(x==("__classdict__":Qn))=false) (W:u2 k1)
  (ha:∀v,assign (.Subscript (.Subscript (.Name x pn) k1 p1) k2 p2) X.env v=(do
   let ov <-holding [v] (eval (.Subscript (.Name x pn) k1 p1) X.env);let iv <-holding [v,ov] (eval k2 X.env)
   standAt p2
   holding [v,ov,iv] (setItem ov iv v)
   release [v,ov,iv] []))
  (A4:swapsWithSole [.Subscript (.Subscript (.Name x pn) k1 p1) k2 p2] e p3.line X.env=pure false) (A2:swappedStores [.Subscript (.Subscript (.Name x pn) k1 p1) k2 p2] e X.env=pure S)
  (h11:(assignEach [.Subscript (.Subscript (.Name x pn) k1 p1) k2 p2] X.env).map (·.2)=[assign (.Subscript (.Subscript (.Name x pn) k1 p1) k2 p2) X.env]) :
  PBD X E [] (st::.For tg iter [.If c [.Assign [.Subscript (.Subscript (.Name x pn) k1 p1) k2 p2] e p3] [] p4] [] p5::ss) (az (nT f n0 gi gs tg1 gw tgt ca g1 g2 gv) Gr):=by
 refine (fB hS (fB (D0 hp hc hw hg (ik (A9 T (ik (uW he (zB (A1 oQ (gQ hi hv hd U) h1 W) h2 set_list ha) A4 A2 h11)) oX)) hs) hr)).imp λD σ H rz3=>?_
 obtain⟨H0,A0,A,δ,R,o⟩:=rz3;rcases Fn (f:=f) (n0:=n0) (gi:=gi) (gs:=gs) (tg1:=tg1) (gw:=gw) (tgt:=tgt) (ca:=ca) (g1:=g1) (g2:=g2) (gv:=gv) (δ:=δ) with z|⟨di,nss,n,G,ne,hf,hn,e1,hz,e2,e3,e4,z⟩
 .unfold az at o;rw[z]at o;exact o.elim
 unfold az at o;rw[z]at o;obtain⟨hl,hel⟩:=p9 e2;have RP:=R.part;rw[eK]at RP;refine⟨A++A0,δ,RP,hn,di,nss,e1,hz,hl,hel,λbs j Ha N fr s1=>?_⟩;have Ra:=R.hide (f:=f) (v:=.ref j) s1 fr N.own;have hσ:(σ.set f (Y (V.ref j)))[f]?=Y (Y (.ref j)):=O4 (by rw[<-R.len];exact hf);have RQ:=Ra.part;rw[eK]at RQ;refine⟨_,_,RQ,?_⟩;rw[e3];intro B' H1 s2 hJ;have R1:=(Ra.step s2).more;refine⟨λi m s H'=>m=n.length-i/\i<=n.length/\∃u n',bA X.K (un H0 (del H1 ((j::bs)++A++A0))) A0 H' ((j::bs)++A) [] u s/\s[f]?=Y (Y (.ref j))/\nh H' j bs n'/\lW tgt ca g1 g2 gv (n.drop i) u n'=Y (G,ne),⟨n.length,by simp,Ot _,_,nss,R1,hσ,N.same s2,e4⟩,?_⟩
 rintro i m s H' ⟨rfl,hi',u,n',I,r,N',o'⟩
 have sG:aw (del H1 ((j::bs)++A++A0)) (un H0 (del H1 ((j::bs)++A++A0))):=Me (Ra.same.trans s2) ay;have hB:∀b∈(j::bs)++A++A0,(del H1 ((j::bs)++A++A0)) b=none:=λb Dd=>kq Dd
 obtain⟨jg,js,jy⟩:=hJ H' ((j::bs)++A++A0) (sG.trans I.same) I.lsA hB;by_cases hlt:i<n.length
 .refine .inr ⟨jg i hlt,?_⟩;have edr:n.drop i=n[i]::n.drop (i+1):=OA hlt;rw[edr]at o';unfold lW at o';obtain⟨δ1,et,o'⟩:=Og.mp o';refine⟨λB H2=>∃p n2,bA X.K (un H0 (del H1 ((j::bs)++A++A0))) A0 H2 ((j::bs)++A) [] p B/\B[f]?=Y (Y (.ref j))/\nh H2 j bs n2/\lW tgt ca g1 g2 gv (n.drop (i+1)) p n2=Y (G,ne),λB H2 ⟨p,n2,q⟩=>⟨n.length-(i+1),⋯,rfl,hlt,p,n2,q⟩,λy H2 yy=>?_⟩;obtain⟨s3,d,ed,hd'⟩:=jy i y H2 hlt yy;have:n[i]=d:=by have:=My hlt;rw[this]at ed;exact N4 ed
  rw[this]at et;refine hT d y _ _ _ _ _ _ _ _ (I.step s3) hd' et λσ3 R3 k3=>?_
  rw[r]at k3;have N3:=N'.same s3;refine cD.run R3.full (λt h H4 s4 _=>?_) (λC h _ _=>?_) (λh=>?_)
  .rw[h]at o';have R4:=R3.step s4;have D':=N3.same s4;cases t with
   |false=>exact⟨δ1,n',R4,k3,D',o'⟩
   |true =>
    obtain⟨n2,e5,o'⟩:=Og.mp o';obtain⟨zz,ii,jj,ez,F,ej,e6⟩:=Et e5;obtain⟨k,ns,l,ek,en,el,rfl⟩:=Hr e6;rw[HL rfl];refine eD.run R4.full (λd5 M v5 H5 s5 R5 hv5=>?_) (λC h _ _=>by rw[ez]at h;cases h) (λh=>by rw[ez]at h;cases h);rw[ez]at M;cases M;cases hv5.ofInt;refine⟨_,k3,?_⟩;refine eD.run R5 (λd6 EE v6 H6 s6 R6 hv6=>?_) (λC h _ _=>by rw[F]at h;cases h) (λh=>by rw[F]at h;cases h);rw[F]at EE;cases EE;cases hv6.ofInt;have N6:=(D'.same s5).same s6;obtain⟨hk,_⟩:=NC.mp en;have P:k<bs.length:=by rw[D'.len];exact hk
    have Dd:bs[k]?=Y bs[k]:=My P;refine⟨j,bs.map V.ref,ii,.ref bs[k],rfl,rfl,SqL.of N6.hd,?_,?_⟩
    .unfold atI;rw[N8,D'.len,ek];show (bs.map V.ref)[k]?=_;rw[NA,Dd];rfl
    refine eD.run R6 (λd7 Q v7 H7 s7 R7 hv7=>?_) (λC h _ _=>by rw[ej]at h;cases h) (λh=>by rw[ej]at h;cases h);rw[ej]at Q;cases Q;cases hv7.ofInt;have N7:=N6.same s7;refine⟨bs[k],ns.map V.int,jj,l,rfl,rfl,N7.get k _ ns Dd en,by rw[N8];exact el,?_⟩;have R7':=((R4.step s5).step s6).step s7;exact⟨δ1,_,R7'.hid (O1 _ (N0 _ (NV P))) rfl,k3,N7.put Dd en,o'⟩
  .rw[h]at o';cases o'
  .rw[h]at o';cases o'
 .have F:i=n.length:=⋯
  rw[F,Qg]at o';cases o';refine .inl ⟨by rw[F];exact js,H0,A0,[],_,(I.less Bj R.ls0).show r (N'.is λa ha=>I.apart (O1 _ ha)),o⟩
theorem Gy{E:XK}{g:TG}{tgt:L->F1 Ds}(a:swapsWith (.ListComp elt [⟨tg,iter,[],0⟩] scope pos) (Y (.Name x pos')) spos.line X.env=pure true)(hc:X.calm=true)(c:X.N.Nodup)(hi:PID X E tg iter gi)
  (e:TgD X.K n0 (fT tg).length tgt g) (f:∀C s2 H2 fp,PG (bk X tg scope C s2 H2 fp) tg g) (j:∀C s2 H2 fp,PLD (bk X tg scope C s2 H2 fp) E0 elt gs)
  (b:X.N[i]?=Y x) (l:Loc X.env.scope x) (hB:KY X tg scope=true) (m:∀x,foldedSetIterable iter X.env x=pure x) (n:X.fn x=true\/X.env.scope.names.lookup x=Y .local) :
  PS X (.Assign [.Name x pos'] (.ListComp elt [⟨tg,iter,[],0⟩] scope pos) spos) (Cf (lN X.K E n0 gi gs tgt) (kX i)) :=
 PS.imp (wM (own:=fT tg) (te:=lD X.K E0 gs) hc c b l a hi f (λC s2 H2 fp=>PIf.nil.pts) (λC s2 H2 fp=>j C s2 H2 fp) hB m n) λD σ H h=>Lc e (PIf.tt (X:=X) PIf.nil) σ H _ h
end L2
namespace RS
open PySem L2
def jX(cs:Cs):Ds->Sr :=
 (az (dN [] (iq #[0,g2 dIx (ae 0) ↑3]) (b9 [2,3]) (az (sIf (gT (g2 dLt (ae 1) (g2 dIx (ae 3) ↑0))) (a9 (cQ #[0,2,g2 dIx (ae 3) ↑1,1])) aT)
  (aW [] 1 (g2 fI (ae 1) (g2 dIx (ae 3) ↑0)))))
  (a9 (cQ #[0,gF bp #[0,g2 dIx (ae 0) ↑3],gC .none,↑0])))
def gY(cs:Cs)(ba:Gf):Ds->Sr :=
 (az (Ad 3)
  (az (dN [3] (bx (ae 2)) (aP 4) (az (lV [3] (b9 [5,6,7]) (ao ba #[0,g2 dIx (ae 0) (ae 4),g2 dIx (ae 1) (ae 4)]))
  (sIf (rH (gT (g2 dGt (ae 7) ↑0)) (gT (g1 iw (ae 6)))) (gX 3 (ae 6) (ae 4)) aT)))
  (Be 3)))
def fu(cs:Cs)(ba ck aK:Gf):Ds->Sr :=
 (az (aW [7,10] 5 (ao aK #[0,0,1]))
  (az (aW [7,10] 6 (ao ck #[0,0,3,4]))
  (az (rT [7,10] 7 (gL (aO 14 (bx (ae 4)) aZ (cQ #[0,14,iL (ae 1) (ae 14)]) aF)))
  (az (sIf (gT (g2 dEq (ae 2) (gC (.str "high")))) (az (dN [7,10] (lh (ae 6)) (aP 8) (gX 7 (gDF (ae 6) (ae 8)) (gF jH #[0,gDI (ae 7) (gDF (ae 6) (ae 8)),g2 dIx (ae 5) (ae 8)])))
  (nZ 7 (az (aW [10] 9 (gL (aO 14 (bx (ae 4)) aZ (cQ #[0,gDI (ae 7) (ae 14),gF oz #[0,qZ (ae 14) (ae 6)],14]) aF)))
  (a9 (g2 dIx (gF j8 #[0,9]) ↑2))))) aT)
  (az (dh [7,10] 10 ah)
  (az (dN [7,10] (bx (ae 4)) (aP 11) (az (lV [7,10] (b9 [12,8,13]) (ao ba #[0,g2 dIx (ae 0) (ae 11),g2 dIx (ae 3) (ae 11)]))
  (sIf (rH (gT (g2 dEq (ae 13) ↑0)) (gT (g2 uI (ae 8) (ae 6)))) (sIf (gT (g2 dEq (ae 2) (gC (.str "asked")))) (gX 7 (gDF (ae 6) (ae 8)) (gF jH #[0,gDI (ae 7) (gDF (ae 6) (ae 8)),iL (ae 1) (ae 11)])) aT) (gx [7,10] 10 (ae 11)))))
  (DJ 10 (nZ 7 (a9 (g2 dIx (gF j8 #[0,gL (aO 14 (bx (ae 10)) aZ (cQ #[0,gDI (ae 7) (ae 14),14]) aF)]) ↑1))))))))))
def iP(cs:Cs)(ba bT:Gf):Ds->Sr :=
 (az (dh [4,5,6,7] 4 (aO 10 (bx (ae 0)) aZ ↑0 aF))
  (az (dh [4,5,6,7] 5 (aO 10 (bx (ae 0)) aZ ↑0 aF))
  (az (dh [4,5,6,7] 6 ah)
  (az (λδ=>cj (gT (g2 dNe (gL (aO 10 (dG #[0,gF bp #[0,0]]) (gT (g2 dLt (g2 dIx (ae 4) (ae 10)) (gF bp #[0,g2 dIx (ae 2) (ae 10)]))) (ae 10) aF)) (iY ah))) (az (dh [4,5,6,7] 7 ah)
  (az (dN [4,5,6,7] (dG #[0,gF bp #[0,0]]) (aP 8) (sIf (rH (gT (g2 dLt (g2 dIx (ae 4) (ae 8)) (gF bp #[0,g2 dIx (ae 2) (ae 8)]))) (gT (g2 dLe (g2 dIx (g2 dIx (ae 2) (ae 8)) (g2 dIx (ae 4) (ae 8))) (gF bp #[0,6])))) (gx [4,5,6,7] 7 (ae 8)) aT))
  (sIf (gT (g2 dEq (ae 7) (iY ah))) (gx [4,5,6,7] 6 (gC .none)) (az (pT 9 (ao bT #[0,0,1,3,5,7]))
  (az (qz 6 (cQ #[0,9,g2 dIx (ae 4) (ae 9)]))
  (az (jA 5 (ae 9) (g2 bq (g2 dIx (ae 5) (ae 9)) ↑1))
  (sIf (gT (g2 dEq (g2 dIx (ao ba #[0,g2 dIx (ae 0) (ae 9),g2 dIx (ae 5) (ae 9)]) ↑0) (gF bp #[0,g2 dIx (g2 dIx (ae 0) (ae 9)) ↑3]))) (az (jA 5 (ae 9) ↑0)
  (jA 4 (ae 9) (g2 bq (g2 dIx (ae 4) (ae 9)) ↑1))) aT))))))) 1000000 δ)
  (a9 (ae 6))))))
def eN(cs:Cs):Ds->Sr :=
 (az (nT 3 6 (bx (ae 1)) (aO 7 (bx (ae 6)) aZ ↑0 aF) aF (iq #[0,2]) (b9 [4,5]) (gT (g1 iw (ae 5))) (g2 dIx (ae 5) ↑0) (g2 dIx (ae 5) ↑1) (g2 fI (g2 bq (ae 4) ↑1) (g2 dIx (g2 dIx (ae 1) (g2 dIx (ae 5) ↑0)) (g2 dIx (ae 5) ↑1))))
  (a9 (ae 3)))
def iQ(cs:Cs):Ds->Sr :=
 (a9 (g2 bq (iY #[0,1]) (gL (aO 2 (AV #[0,↑1,↑60]) aZ (g2 fI (g2 bq (ae 1) (g2 lj (ae 2) (g2 dIx (ae 0) ↑0))) (g2 dIx (ae 0) ↑2)) aF))))
def dY(cs:Cs):Ds->Sr :=
 (az (aW [] 2 (g2 dIx (g2 dIx (ae 0) (g1 (cY cs.Holding "number") (ae 1))) ↑3))
  (a9 (g2 bq (gF uS #[0,gL (aO 3 (bx (eJ (ae 2) c6 (gm (g1 (cY cs.Holding "part") (ae 1))))) aZ (g2 dIx (ae 3) ↑0) aF)]) ↑1)))
def cI(cs:Cs)(cp bf a7 aU:Gf):Ds->Sr :=
 (az (nX (ao aU #[0,0,1,2]))
  (az (dh [3] 3 (aO 8 (bx (ae 0)) aZ (iY ah) aF))
  (az (aW [3] 4 ↑0)
  (az (aW [3] 5 (gL (aO 8 (bx (ao a7 #[0,0,1,2])) (gT (g2 dGt (g1 (cY cs.Holding "times") (ae 8)) ↑0)) (ae 8) aF)))
  (az (sIf (gT (g2 dGt (gF bp #[0,5]) ↑0)) (az (aW [3] 6 (iu [] (ae 5) (g1 (cY cs.Holding "times") (ae 0))))
  (az (mj [3] 3 (g1 (cY cs.Holding "number") (ae 6)) (iY #[0,↑0]))
  (aW [3] 4 (ao bf #[0,0,6])))) aT)
  (az (dN [3] (bx (eJ (ae 1) c6 (gm (g2 bq (iL (ae 1) (ae 2)) ↑1)))) (aP 7) (mj [3] 3 (ae 7) (ao cp #[0,g2 dIx (ae 0) (ae 7),4])))
  (a9 (cQ #[0,3,cQ #[0,2,↑0]]))))))))
def cJ(cs:Cs):Ds->Sr :=
 (az (aW [] 2 (g1 jN ↑1000))
  (az (aW [] 3 (g1 jN ↑1))
  (az (dN [] (bx (ae 1)) (aP 4) (az (sIf (cOr (gT (g1 (fF "bool") (ae 4))) (cOr (dD (gT (g1 (fF "int") (ae 4)))) (cOr (gT (g2 dLe (ae 4) (ae 3))) (gT (g2 dGt (ae 4) ↑9999))))) (a9 (gC (.bool false))) aT)
  (az (aW [] 2 (gF su #[0,g2 bq (ae 2) (g2 dIx (ae 0) ↑0),g2 fI (ae 4) (g2 dIx (ae 0) ↑2)]))
  (az (sIf (gT (g2 dGt (ae 2) (ae 4))) (a9 (gC (.bool false))) aT)
  (aW [] 3 (ae 4))))))
  (a9 (g2 dLe (gF bp #[0,1]) ↑60)))))
def Ai(cs:Cs)(cM cq bJ bz cE bV bw:Gf):Ds->Sr :=
 (az (aW [] 1 (ao bw #[0,0,↑8,↑4,↑28,gC (.bool true)]))
  (az (aW [] 2 (ao bV #[0,0,↑0,gF bp #[0,1]]))
  (az (dN [] (dG #[0,gF bp #[0,1]]) (aP 3) (az (aW [] 4 (ao cE #[0,1,2,3]))
  (az (sIf (cOr (dD (gT (g1 (fF "tuple") (ae 4)))) (cOr (gT (g2 dNe (gF bp #[0,4]) ↑2)) (dD (gT (g1 (fF "list") (g2 dIx (ae 4) ↑0)))))) (a9 (gC (.bool false))) aT)
  (az (lV [] (b9 [5,6]) (ae 4))
  (az (sIf (cOr (gT (g2 dNe (gF bp #[0,5]) (gF bp #[0,1]))) (cOr (dD (gT (g1 (fF "tuple") (ae 6)))) (gT (g2 dNe (eJ (ae 6) c6 (gm ↑1)) (cQ #[0,3]))))) (a9 (gC (.bool false))) aT)
  (az (dN [] (dG #[0,gF bp #[0,1]]) (aP 7) (sIf (cOr (dD (gT (g1 (fF "list") (g2 dIx (ae 5) (ae 7))))) (dD (gT (ao bz #[0,g2 dIx (ae 1) (ae 7),g2 dIx (ae 5) (ae 7)])))) (a9 (gC (.bool false))) aT))
  (az (sIf (dD (gT (fR dLe dLt ↑0 (g2 dIx (ae 6) ↑1) (gF bp #[0,g2 dIx (ae 5) (ae 3)])))) (a9 (gC (.bool false))) aT)
  (az (aW [] 8 (g2 dIx (g2 dIx (ao bJ #[0,1,5,ao cq #[0,1,2,5,gC (.str "high")]]) (ae 3)) (g2 dIx (ae 6) ↑1)))
  (az (aW [] 9 (ao cM #[0,1,2,3]))
  (sIf (gT (g1 xB (ae 9))) (sIf (gT (g2 dLe (ae 8) (g2 dIx (g2 dIx (ae 1) (ae 3)) ↑1))) (a9 (gC (.bool false))) aT) (sIf (gT (g2 dNe (ae 8) (ae 9))) (a9 (gC (.bool false))) aT)))))))))))
  (a9 (gC (.bool true))))))
end RS
set_option maxHeartbeats 1000000
namespace RS
open PySem L2
variable {c:Ds->Rs Qo}{ge a b go:Ds->Rs L}{v:Z}
def cp(cs:Cs):Gf:=gfG 2 0 (iQ cs)
def bf(cs:Cs):Gf:=gfG 2 1 (dY cs)
def cE(cs:Cs):Gf:=gfG 3 5 (cI cs (cp cs) (bf cs) (a7 cs) aU)
theorem pQ{n k:O}{G:Ds->Sr}{r:Rs L}(hl:ds.length=n)(h:bo (G (ds.map Y++L' k S))=r):gfG n k G ds=r:=by unfold gfG;rw[HL hl,h]
theorem JP:DX [.int 1,.int 60]=.ok (bF 1 59):=by unfold DX;simp only;rw[HL ⋯];rfl
section
theorem ym{s:Z}(h:e.Ok):cp cs [e.d,.int s]=.ok (ff (bD e s)):=by
 refine pQ rfl ?_;show bo (iQ cs [Y e.d,⇑s])=_;unfold iQ;have a0:∀{δ:Ds},ae 0 δ=.ok e.d->g2 dIx (ae 0) ↑0 δ=.ok (.int e.every):=λ{δ} h=>a6 h rfl rfl
 have b:∀{δ:Ds},ae 0 δ=.ok e.d->g2 dIx (ae 0) ↑2 δ=.ok (.int e.late):=λ{δ} h=>a6 h rfl rfl
 have a:AV #[0,↑1,↑60] [Y e.d,⇑s]=.ok (bF 1 59):=by rw[Gs];exact JP
 have hc:=bN (n0:=2) (elt:=g2 fI (g2 bq (ae 1) (g2 lj (ae 2) (g2 dIx (ae 0) ↑0))) (g2 dIx (ae 0) ↑2)) (δ:=[Y e.d,⇑s])
  (f:=λd=>match d with|.int k=>.int (s+k*e.every-e.late)|_=>.none) rfl a (by rw[cL];decide) λd hd=>by obtain⟨k,hk,rfl⟩:=NH.mp hd;have:=h.e1;have:=h.e2;have hm:g2 lj (ae 2) (g2 dIx (ae 0) ↑0) ([Y e.d,⇑s]++[⇑(1+(k:Z))])=.ok (.int ((1+(k:Z))*e.every)):=a6 rfl (a0 rfl) (JV ⋯ ⋯);exact a6 (a6 (f:=bq) (x:=.int s) rfl hm (eO _ _)) (b rfl) (lO _ _)
 have e1:(bF 1 59).map (λd=>match d with|.int k=>FC (s+k*e.every-e.late)|_=>.none)=((M' 59).map λ(k:O)=>s+((k:Z)+1)*e.every-e.late).map L.int:=by
  unfold bF;rw[NO,NO];refine NR λk _=>?_
  show FC (s+(1+(k:Z))*e.every-e.late)=_;rw[VQ 1 (k:Z)];rfl
 rw[e1]at hc;rw[c7,a6 (f:=bq) (x:=.list [.int s]) (y:=.list (((M' 59).map λ(k:O)=>s+((k:Z)+1)*e.every-e.late).map FC)) (z:=ff (bD e s)) rfl (by rw[yh,hc];rfl) (by unfold bq;simp only;rw[HL #[2]];rfl)]
 rfl
theorem tR(C:J')(m k t l:Z):cY C "number" (hdD C m k t l)=⇑m:=by dsimp[hdD,yf,N2,OI,cY,W8,QA,jF]
theorem GK(C:J')(m k t l:Z):cY C "part" (hdD C m k t l)=⇑k:=by
 have n1:¬ (("number":Qn)="part"):=by decide +kernel
 dsimp[hdD,yf,N2,OI,cY,W8,QA,jF,n1,RL]
theorem lG{f:L->F1 L}{x z:L}(ha:a δ=.ok x)(b:f x=Y z):g1 f a δ=.ok z:=by rw[G2,ha,Rs.ag,b];rfl
theorem BZ{p:O}{l:Z}(hm:m<es.length)(hok:(au es (m:Z)).Ok):bf cs [aj es,hdD cs.Holding (m:Z) (p:Z) T l]=.ok (.int (bj ((au es (m:Z)).parts.take p)+1)):=by
 refine pQ rfl ?_;show bo (dY cs [Y (aj es),Y (hdD cs.Holding (m:Z) (p:Z) T l),S])=_;unfold dY;generalize he:au es (m:Z)=e at hok ⊢;have a:g2 dIx (ae 0) (g1 (cY cs.Holding "number") (ae 1)) [Y (aj es),Y (hdD cs.Holding (m:Z) (p:Z) T l),S]=.ok e.d :=
  a6 (x:=aj es) rfl (lG rfl (tR ..)) (by rw[<-he];exact eQ ⋯ ⋯)
 have b:g2 dIx (g2 dIx (ae 0) (g1 (cY cs.Holding "number") (ae 1))) ↑3 [Y (aj es),Y (hdD cs.Holding (m:Z) (p:Z) T l),S]=.ok (.tuple (e.parts.map aG)):=a6 a rfl rfl;rw[aN (eU (EE:=[]) (show 2<3 by decide) b)];show bo (a9 _ [Y (aj es),Y (hdD cs.Holding (m:Z) (p:Z) T l),Y (.tuple (e.parts.map aG))])=_;have c:bx (eJ (ae 2) c6 (gm (g1 (cY cs.Holding "part") (ae 1)))) [Y (aj es),Y (hdD cs.Holding (m:Z) (p:Z) T l),Y (.tuple (e.parts.map aG))]=.ok ((e.parts.take p).map aG):=by rw[kZ,lX,show ae 2 [Y (aj es),Y (hdD cs.Holding (m:Z) (p:Z) T l),Y (.tuple (e.parts.map aG))]=.ok (.tuple (e.parts.map aG)) from rfl,Rs.ag,kE,Rs.ag,oH,lG (z:=.int (p:Z)) rfl (GK ..),Rs.ag,oN,Rs.ag,uE,xN,U3];rfl
 have hc:=bN (n0:=3) (elt:=g2 dIx (ae 3) ↑0) (f:=λd=>(dIx d (.int 0)).getD .none) rfl c (by rw[N8];have:=hok.p2;rw[Pr];omega) λd hd=>by obtain⟨q,_,rfl⟩:=NH.mp hd;exact a6 (x:=aG q) (y:=.int 0) rfl rfl rfl
 rw[NO]at hc;have g:=v3 (λq:Z×F1 Z=>q.1) (e.parts.take p);have h:gF uS #[0,gL (aO 3 (bx (eJ (ae 2) c6 (gm (g1 (cY cs.Holding "part") (ae 1))))) aZ (g2 dIx (ae 3) ↑0) aF)] [Y (aj es),Y (hdD cs.Holding (m:Z) (p:Z) T l),Y (.tuple (e.parts.map aG))]=.ok (.int (bj (e.parts.take p))):=by rw[jM,aA,aL,yh,hc,Rs.ag,Rs.ag,Rs.ag];show Rs.dS (uS [.list ((e.parts.take p).map λq=>.int q.1)])=_;rw[g];rfl
 rw[c7,a6 (f:=bq) h rfl (eO _ _)];rfl
theorem zO{C:J'}{pl m:Z}{d:L}:∀{ps:J (Z×F1 Z)}{k:O},d∈hdM C es rs pl m k ps->∃(j:O)(p:Z×F1 Z)(T h:Z),ps[j]?=Y p/\p.2=Y T/\aX es rs T=Y h/\h<=pl/\d=hdD C m ((k+j:O):Z) T (p.1-1)
 |[],_,h=>by cases h
 |p::r,k,h=>by
  unfold hdM at h;rcases NZ.mp h with h|h
  .unfold iA at h;split at h
   .rename_i T a;split at h
    .rename_i x b;split at h
     .rename_i hle;exact⟨0,p,T,x,rfl,a,b,hle,by simpa using NQ.mp h⟩
     .cases h
    .cases h
   .cases h
  .obtain⟨j,c,T,x,h1,h2,e,f,g⟩:=zO h;exact⟨j+1,c,T,x,by simpa using h1,h2,e,f,by rw[g,show k+1+j=k+(j+1) by omega]⟩
theorem mZ{C:J'}{pl:Z}{d:L}:∀{a:J Z},d∈de C es rs pl a->∃m∈a,∃(j:O)(p:Z×F1 Z)(T h:Z),(au es m).parts[j]?=Y p/\p.2=Y T/\aX es rs T=Y h/\h<=pl/\d=hdD C m (j:Z) T (p.1-1)
 |[],h=>by cases h
 |m::r,h=>by
  unfold de at h;rcases NZ.mp h with h|h
  .obtain⟨j,p,T,x,h1,h2,b,c,e⟩:=zO h;exact⟨m,N1,j,p,T,x,h1,h2,b,c,by rw[e,Ob]⟩
  .obtain⟨f,hm,r⟩:=mZ h;exact⟨f,N0 _ hm,r⟩
theorem wC{M:Z}(g:0<=M)(h:∀d∈de C es rs (placeOf rs n) (rs.drop (placeOf rs n+1)),∀l,cY C "times" d=⇑l->l<=M):fj es rs n<=M:=by
 unfold fj;rw[qO];obtain⟨hm,i⟩:=mL C es rs (placeOf rs n) (rs.drop (placeOf rs n+1));have c:∀a∈tms es rs (placeOf rs n) (((rs.drop (placeOf rs n+1)).map λm=>(au es m).parts).flatten),a<=M:=λa ha=>by
  have:FC a∈(de C es rs (placeOf rs n) (rs.drop (placeOf rs n+1))).map (tmD C):=by rw[hm];exact PB ha
  obtain⟨d,hd,e⟩:=NH.mp this;exact h d hd a (by rw[i d hd,e])
 generalize tms es rs (placeOf rs n) (((rs.drop (placeOf rs n+1)).map λm=>(au es m).parts).flatten)=l at c;have:∀(l:J Z)(x:Z),x<=M->(∀a∈l,a<=M)->l.foldl max x<=M:=by
  intro l
  induction l with
  |nil=>intro x f _;exact f
  |cons a r ih=>intro x f hl;exact ih _ (by have:=hl a N1;omega) λb j=>hl b (N0 _ j)
 exact this l 0 g c
end
theorem sg{n0:O}{cond:Ds->Rs Qo}{δ:Ds}{p:L->Qo}(hn:δ.length=n0):∀ds:J L,(∀d∈ds,cond (δ++[Y d])=.ok (p d))->eG cond (ae n0) aF δ ds=.ok (ds.filter p)
 |[],_=>rfl
 |d::r,h=>by
  have a:=sg (p:=p) hn r λe b=>h e (N0 _ b)
  have hv:ae n0 (δ++[Y d])=.ok d:=by unfold ae;rw[O9 ⋯,hn,PH];rfl
  unfold eG;dsimp[aF,h d N1,Rs.fU,Rs.ag,hv,a];cases hp:p d with
  |true=>rw[HL rfl,J.filter_cons_of_pos hp]
  |false=>rw[I' #[1],J.filter_cons_of_neg (by rw[hp];decide)]
theorem Az{f:O->Z}{g:O->O->Qo}(h:∀i j,g i j=decide (f j<f i)):∀n i,i<=n->f i<=f (bst g n)
 |0,i,hi=>by rw[show i=0 by omega];exact Om _
 |n+1,i,hi=>by
  have a:=Az h n;unfold bst;rw[h];by_cases z:f (bst g n)<f (n+1)
  .rw[Ql z,HL rfl];by_cases e:i=n+1
   .rw[e];exact Om _
   .have:=a i ⋯;omega
  .rw[P' z,I' #[1]];by_cases e:i=n+1
   .rw[e];omega
   .exact a i ⋯
theorem xF{g:L->Rs L}{f:L->L}:∀{ds:J L},(∀d∈ds,g d=.ok (f d))->allR g ds=.ok (ds.map f)
 |[],_=>rfl
 |d::r,h=>by unfold allR;rw[h d N1,Rs.ag,xF λe a=>h e (N0 _ a)];rfl
theorem BA{fs:J L}(hv:ae i δ=.ok (.list fs))(r:fs≠[])(o:∀d∈fs,∃l,cY C "times" d=⇑l) :
  ∃d∈fs,∃l,cY C "times" d=⇑l/\(∀e∈fs,∀p,cY C "times" e=⇑p->p<=l)/\iu [] (ae i) (g1 (cY C "times") (ae 0)) δ=.ok d:=by
 have m:0<fs.length:=QK.mpr r;have c:allR (λx=>g1 (cY C "times") (ae 0) (Y x::wU [] δ)) fs=.ok (fs.map (tmD C)):=xF λd hd=>by obtain⟨l,hl⟩:=o d hd;exact lG (x:=d) rfl (by unfold tmD;rw[hl];rfl)
 have v:(fs.map (tmD C)).all isI=true:=NT.mpr λk c=>by obtain⟨d,hd,rfl⟩:=NH.mp c;obtain⟨l,hl⟩:=o d hd;unfold tmD;rw[hl];rfl
 let f:O->Int:=λj=>match (fs.map (tmD C)).getD j .none with|.int l=>l|_=>0
 have w:∀i j,i<fs.length->j<fs.length->gtD ((fs.map (tmD C)).getD i .none) ((fs.map (tmD C)).getD j .none)=decide (f j<f i):=λi j hi q=>by
  have at':∀k,k<fs.length->∃l,(fs.map (tmD C)).getD k .none=.int l:=λk c=>by obtain⟨l,hl⟩:=o fs[k] (NV c);refine⟨l,?_⟩;rw[N9,NA,My c];show tmD C fs[k]=_;unfold tmD;rw[hl];rfl
  obtain⟨a,ea⟩:=at' i hi;obtain⟨b,y⟩:=at' j q;show _=decide ((match (fs.map (tmD C)).getD j .none with|.int l=>l|_=>0)<(match (fs.map (tmD C)).getD i .none with|.int l=>l|_=>0));rw[ea,y];rfl
 have z:∀n,n<fs.length->bst (λi j=>gtD ((fs.map (tmD C)).getD i .none) ((fs.map (tmD C)).getD j .none)) n=bst (λi j=>decide (f j<f i)) n:=by
  intro n
  induction n with
  |zero=>intro _;rfl
  |succ n s =>intro hn;have s:=s ⋯;unfold bst;rw[s,w (n+1) _ hn (by have:=gU (λi j=>decide (f j<f i)) n;omega)]
 have hbl:=gU (λi j=>decide (f j<f i)) (fs.length-1);obtain⟨j,q⟩:∃j,bst (λi j=>decide (f j<f i)) (fs.length-1)=j:=⟨_,rfl⟩
 have h:j<fs.length:=⋯
 obtain⟨l,hl⟩:=o fs[j] (NV h);have u:∀(k:O)(c:k<fs.length)(l:Z),cY C "times" fs[k]=⇑l->f k=l:=λk c l hl=>by show (match (fs.map (tmD C)).getD k .none with|.int l=>l|_=>0)=l;rw[N9,NA,My c];show (match tmD C fs[k] with|.int l=>l|_=>0)=l;unfold tmD;rw[hl];rfl
 refine⟨fs[j],NV h,l,hl,λe A p t=>?_,?_⟩
 .obtain⟨k,c,B⟩:=Od A;have h1:=Az (f:=f) (g:=λi j=>decide (f j<f i)) (λ_ _=>rfl) (fs.length-1) k ⋯;rw[q,u j h l hl,u k c p (by rw[B];exact t)]at h1;exact h1
 .unfold iu;rw[hv,Rs.ag];dsimp[HL m,c,okR,v,QA];rw[z _ ⋯,q,My h];rfl
def stR(es:J Er)(s:Z)(z6:J (J Z))(x:Z):J (J Z):=z6.set x.toNat (bD (au es x) s)
theorem AF{es:J Er}{s:Z}:∀(xs:J Z)(z6:J (J Z)),(xs.foldl (stR es s) z6).length=z6.length
 |[],_=>rfl
 |x::xs,z6=>by rw[NY,AF xs];unfold stR;exact P7
theorem xP{es:J Er}{s:Z}{m:O}:∀(xs:J Z)(z6:J (J Z)),(∀x∈xs,0<=x)->m<z6.length->(xs.foldl (stR es s) z6)[m]?=if (m:Z)∈xs then Y (bD (au es (m:Z)) s) else z6[m]?
 |[],_,_,_=>by simp
 |x::xs,z6,h,hm=>by
  have hx:=h x N1;rw[NY,xP xs _ (λy a=>h y (N0 _ a)) (by unfold stR;rw[P7];exact hm)];by_cases z:(m:Z)∈xs
  .rw[HL z,HL (N0 _ z)]
  .rw[I' z];unfold stR;by_cases e:(m:Z)=x
   .rw[HL (by rw[e];exact N1),<-e,O2,O4 hm]
   .rw[I' (λw=>by rcases NB.mp w with w|w;exact e w;exact z w),NW ⋯]
section
abbrev wD(es:J Er)(rs:J Z)(n:Z)(z6:J (J Z))(s:Z)(fd:L)(g o:F1 L):Ds:=#[3,⇑n,Y (cmD z6),⇑s,Y fd,g,o]
theorem AH{s:Z}{fd:L}{g o:F1 L}{r:J Z}(hm:m<z6.length)(b:ge (mask [3] (wD es rs n z6 s fd g o))=.ok (ff r))(c:gk (mask [3] (wD es rs n z6 s fd g o))=.ok (.int (m:Z))) :
  mj [3] 3 gk ge (wD es rs n z6 s fd g o)=.nx (wD es rs n (z6.set m r) s fd g o):=by
 have a:ixN (z6.map ff).length (m:Z)=Y m:=by unfold ixN;rw[HL ⋯,HL (by rw[N8];omega)];simp
 have hd:(wD es rs n z6 s fd g o)[3]?=Y ↥(z6.map ff):=rfl;unfold mj;rw[hd];dsimp[b,c,av,a];have:(z6.map ff).set m (ff r)=(z6.set m r).map ff:=(VT ..).symm;rw[this];rfl
def wrB(cs:Cs):Ds->Sr:=mj [3] 3 (ae 7) (ao (cp cs) #[0,g2 dIx (ae 0) (ae 7),4])
theorem Aj{s:Z}{fd:L}{g:F1 L}(ok:∀e∈es,e.Ok):∀(xs:J Z)(z6:J (J Z))(o:F1 L),z6.length=es.length->(∀x∈xs,0<=x/\x<es.length) ->
  ∃o',forL (aP 7) (wrB cs) (xs.map FC) (wD es rs n z6 s fd g o)=.nx (wD es rs n (xs.foldl (stR es s) z6) s fd g o')
 |[],z6,o,_,_=>⟨o,rfl⟩
 |x::xs,z6,o,hl,hx=>by
  obtain⟨a,c⟩:=hx x N1;have h1:aP 7 (.int x) (wD es rs n z6 s fd g o)=Y (wD es rs n z6 s fd g ⇑x):=rfl;have b:ao (cp cs) #[0,g2 dIx (ae 0) (ae 7),4] (mask [3] (wD es rs n z6 s fd g ⇑x))=.ok (ff (bD (au es x) s)):=by refine cG (ds:=[(au es x).d,.int s]) ?_ (ym (ok _ (bG a c)));have h2:g2 dIx (ae 0) (ae 7) (mask [3] (wD es rs n z6 s fd g ⇑x))=.ok (au es x).d:=a6 (x:=aj es) (y:=.int x) rfl rfl (eQ a c);rw[aA,h2];rfl
  have h2:wrB cs (wD es rs n z6 s fd g ⇑x)=.nx (wD es rs n (z6.set x.toNat (bD (au es x) s)) s fd g ⇑x) :=
   AH ⋯ b (by show Rs.ok (FC x)=_;rw[OO a])
  rw[N2,fP h1 h2];exact Aj ok xs _ _ (by rw[P7];exact hl) λy f=>hx y (N0 _ f)
theorem xt(es:J Er)(h:m<es.length):(es.map λ_=>([]:J Z))[m]?=Y []:=by rw[NA,My h];rfl
theorem Dx{a:O}(l1:1<=es.length)(l6:es.length<=6)(ok:∀e∈es,e.Ok)(v:bK es.length rs)(ha:a<es.length) :
  ∃z6 start,cE cs [aj es,ai rs,.int (a:Z)]=.ok (.tuple [cmD z6,.tuple [.int (a:Z),.int 0]])/\z6.length=es.length/\start<=81/\Wst es rs z6 a start/\∀(m:O)(r:J Z),z6[m]?=Y r->r=[]\/r=[0]\/r=bD (au es (m:Z)) start:=by
 have hW:∀e∈es,e.Wk:=λe E=>(ok e E).wk
 have I:=fq l1 l6 ok v (n:=(a:Z)) ⋯ ⋯;have D':=ia (es:=es) (rs:=rs) (n:=(a:Z)) cs l1 l6 hW v ⋯ ⋯;have B:=v.mem (n:=(a:Z)) ⋯ ⋯;have U:=ie B;have hpl:placeOf rs (a:Z)<rs.length:=(NC.mp (eF B)).1;have F:∀x∈rs.take (placeOf rs (a:Z)+1),0<=x/\x<es.length:=λx G=>v.rng x (Oe G)
 -- from what is found on
 have rest:∀(c:J (J Z))(start:O)(fd:L)(g:F1 L),c.length=es.length->∃z6,z6=(rs.take (placeOf rs (a:Z)+1)).foldl (stR es start) c /\
   bo (az (dN [3] (bx (eJ (ae 1) c6 (gm (g2 bq (iL (ae 1) (ae 2)) ↑1)))) (aP 7) (wrB cs)) (a9 (cQ #[0,3,cQ #[0,2,↑0]])) (wD es rs a c start fd g S))=.ok (.tuple [cmD z6,.tuple [.int (a:Z),.int 0]]):=λc start fd g hl=>by
  obtain⟨o',e⟩:=Aj (cs:=cs) (rs:=rs) (n:=(a:Z)) (s:=(start:Z)) (fd:=fd) (g:=g) ok (rs.take (placeOf rs (a:Z)+1)) c S hl F;refine⟨_,rfl,?_⟩;have src:bx (eJ (ae 1) c6 (gm (g2 bq (iL (ae 1) (ae 2)) ↑1))) (mask [3] (wD es rs a c start fd g S))=.ok ((rs.take (placeOf rs (a:Z)+1)).map FC):=by
   have g1:iL (ae 1) (ae 2) (mask [3] (wD es rs a c start fd g S))=.ok (.int (placeOf rs (a:Z):Z)):=by rw[uB,show ae 1 (mask [3] (wD es rs a c start fd g S))=.ok (ai rs) from rfl,Rs.ag];show ((ae 2 (mask [3] (wD es rs a c start fd g S))).bind λy=>Rs.dS (iI (rs.map FC) y))=_;rw[show ae 2 (mask [3] (wD es rs a c start fd g S))=.ok (.int (a:Z)) from rfl,Rs.ag,U];rfl
   have g2:=a6 (f:=bq) (b:=↑1) g1 rfl (eO _ _);rw[kZ,lX,show ae 1 (mask [3] (wD es rs a c start fd g S))=.ok (.tuple (rs.map FC)) from rfl,Rs.ag,kE,Rs.ag,oH,g2,Rs.ag,oN,Rs.ag,uE,show ((placeOf rs (a:Z):Z)+1)=((placeOf rs (a:Z)+1:O):Z) by omega,xN,U3];rfl
  rw[aN ((lr src).trans e)];rfl
 have s1:dh [3] 3 (aO 8 (bx (ae 0)) aZ (iY ah) aF) #[3,⇑(a:Z),S,S,S,S,S]=.nx #[3,⇑(a:Z),Y (cmD (es.map λ_=>[])),S,S,S,S]:=by
  have w:aO 8 (bx (ae 0)) aZ (iY ah) aF #[3,⇑(a:Z),S,S,S,S,S]=.ok ((es.map Er.d).map λ_=>.list []) :=
   bN rfl rfl (by rw[N8];omega) λd B'=>rfl
  have e1:((es.map Er.d).map λ_=>Sm [])=(es.map λ_=>([]:J Z)).map ff:=by rw[NO,NO];rfl
  rw[e1]at w;exact mI (show 3<8 by decide) w
 have s2:aW [3] 4 ↑0 #[3,⇑(a:Z),Y (cmD (es.map λ_=>[])),S,S,S,S]=.nx #[3,⇑(a:Z),Y (cmD (es.map λ_=>[])),⇑0,S,S,S]:=eU (show 4<8 by decide) rfl;obtain⟨fs,A⟩:∃fs,fs=(de cs.Holding es rs (placeOf rs (a:Z)) (rs.drop (placeOf rs (a:Z)+1))).filter λd=>match cY cs.Holding "times" d with|some (.int l)=>decide (0<l)|_=>false:=⟨_,rfl⟩
 have W:(de cs.Holding es rs (placeOf rs (a:Z)) (rs.drop (placeOf rs (a:Z)+1))).length<=1000000:=by
  have:=nF cs.Holding es rs (placeOf rs (a:Z)) 4 (rs.drop (placeOf rs (a:Z)+1)) λm hm=>(ok _ (bG (v.rng m (Ox hm)).1 (v.rng m (Ox hm)).2)).p2
  have h2:(rs.drop (placeOf rs (a:Z)+1)).length<=rs.length:=by rw[Pg];omega
  have:=v.len;omega
 have D:∀d∈de cs.Holding es rs (placeOf rs (a:Z)) (rs.drop (placeOf rs (a:Z)+1)),∃l,cY cs.Holding "times" d=⇑l:=λd hd=>by obtain⟨m,_,j,p,T,x,_,_,_,_,e⟩:=mZ hd;exact⟨_,by rw[e];exact lL ..⟩
 have s3:aW [3] 5 (gL (aO 8 (bx (ao (a7 cs) #[0,0,1,2])) (gT (g2 dGt (g1 (cY cs.Holding "times") (ae 8)) ↑0)) (ae 8) aF)) #[3,⇑(a:Z),Y (cmD (es.map λ_=>[])),⇑0,S,S,S]=.nx (wD es rs a (es.map λ_=>[]) 0 (.list fs) S S):=by
  have hs:bx (ao (a7 cs) #[0,0,1,2]) (mask [3] #[3,⇑(a:Z),Y (cmD (es.map λ_=>[])),⇑0,S,S,S])=.ok (de cs.Holding es rs (placeOf rs (a:Z)) (rs.drop (placeOf rs (a:Z)+1))):=by rw[kZ,cG (ds:=[aj es,ai rs,.int (a:Z)]) rfl D'];rfl
  have X:=sg (n0:=8) (cond:=gT (g2 dGt (g1 (cY cs.Holding "times") (ae 8)) ↑0)) (δ:=mask [3] #[3,⇑(a:Z),Y (cmD (es.map λ_=>[])),⇑0,S,S,S]) (p:=λd=>match cY cs.Holding "times" d with|some (.int l)=>decide (0<l)|_=>false) rfl
   (de cs.Holding es rs (placeOf rs (a:Z)) (rs.drop (placeOf rs (a:Z)+1))) λd hd=>by obtain⟨l,hl⟩:=D d hd;rw[iM,a6 (f:=dGt) (y:=.int 0) (lG (x:=d) rfl hl) rfl (Ma _ _),Rs.ag,bX];dsimp[hl]
  refine eU (show 5<8 by decide) ?_;rw[yh];unfold aO;rw[HL (by rw[vS];rfl),hs,Rs.ag,HL W,X,<-A];rfl
 have hG:∀δ,cI cs (cp cs) (bf cs) (a7 cs) aU δ=cI cs (cp cs) (bf cs) (a7 cs) aU δ:=λ_=>rfl
 have o:(es.map λ_=>([]:J Z)).length=es.length:=N8 ..
 -- what is got,from the z6
 have fin:∀(c z6:J (J Z))(start:O),c.length=es.length->z6=(rs.take (placeOf rs (a:Z)+1)).foldl (stR es start) c->z6.length=es.length/\(∀m:O,m<es.length->placeOf rs (m:Z)<=placeOf rs (a:Z)->z6[m]?=Y (bD (au es (m:Z)) start)) /\
   ∀m:O,m<es.length->placeOf rs (a:Z)<placeOf rs (m:Z)->z6[m]?=c[m]?:=λc z6 start hl e=>by
  subst e;have tk:∀m:O,m<es.length->((m:Z)∈rs.take (placeOf rs (a:Z)+1)↔placeOf rs (m:Z)<placeOf rs (a:Z)+1):=λm hm=>by refine⟨λh=>qA h,λh=>?_⟩;have w:=eF (v.mem (n:=(m:Z)) ⋯ ⋯);rw[OU];exact⟨placeOf rs (m:Z),by rw[Pf h];exact w⟩
  refine⟨by rw[AF];exact hl,λm hm hp=>?_,λm hm hp=>?_⟩
  .rw[xP _ _ (λx G=>(F x G).1) ⋯,HL ((tk m hm).mpr ⋯)]
  .rw[xP _ _ (λx G=>(F x G).1) ⋯,I' (λz=>by have:=(tk m hm).mp z;omega)]
 by_cases hne:fs=[]
 .obtain⟨z6,e,E⟩:=rest (es.map λ_=>[]) 0 (.list []) S o;obtain⟨f1,f2,K⟩:=fin _ z6 0 o e;refine⟨z6,0,pQ rfl ?_,f1,by decide,⟨f2,.inl ⟨rfl,?_⟩⟩,λm r hm=>?_⟩
  .show bo (cI cs (cp cs) (bf cs) (a7 cs) aU #[3,⇑(a:Z),S,S,S,S,S])=_;unfold cI;rw[bg,vz,cG (ds:=[aj es,ai rs,.int (a:Z)]) rfl I,av];dsimp only;rw[aN s1,aN s2,aN s3,hne];have A4:∀b:Ds->Sr,sIf (gT (g2 dGt (gF bp #[0,5]) ↑0)) b aT (wD es rs a (es.map λ_=>[]) 0 (.list []) S S)=.nx (wD es rs a (es.map λ_=>[]) 0 (.list []) S S):=λb=>rfl
   rw[aN (A4 _)];exact E
  .refine wC (C:=cs.Holding) (Om _) λd hd l hl=>PL.mp λz=>?_
   have:d∈fs:=by rw[A];exact NK.mpr ⟨hd,by dsimp[hl];exact Ql z⟩
   rw[hne]at this;cases this
  .have q:m<es.length:=by rw[<-f1];exact (NC.mp hm).1
   by_cases z:placeOf rs (m:Z)<=placeOf rs (a:Z)
   .rw[f2 m q z]at hm;cases hm;exact .inr (.inr rfl)
   .rw[K m q ⋯,xt es q]at hm;cases hm;exact .inl rfl
 .obtain⟨d,hd,l,hl,Dd,A2⟩:=BA (C:=cs.Holding) (fs:=fs) (δ:=mask [3] (wD es rs a (es.map λ_=>[]) 0 (.list fs) S S)) (i:=5) rfl hne λd hd=>D d (by rw[A]at hd;exact (NK.mp hd).1)
  have B':d∈de cs.Holding es rs (placeOf rs (a:Z)) (rs.drop (placeOf rs (a:Z)+1))/\0<l:=by rw[A]at hd;obtain⟨h1,h2⟩:=NK.mp hd;dsimp[hl]at h2;exact⟨h1,QC h2⟩
  obtain⟨m,hm,j,p,T,x,hp,M,G,hxl,ed⟩:=mZ B'.1;have hmr:=v.rng m (Ox hm);obtain⟨g,rfl⟩:=T4 hmr.1;have w:g<es.length:=⋯
  have u:=ok _ (bG (es:=es) (n:=(g:Z)) ⋯ ⋯);have hll:l=p.1-1:=by rw[ed,lL]at hl;cases hl;rfl
  have hjl:j<(au es (g:Z)).parts.length:=(NC.mp hp).1;have N:(au es (g:Z)).parts[j]=p:=(NC.mp hp).2;have EE:placeOf rs (a:Z)<placeOf rs (g:Z):=by
   refine Ue.mp λz=>?_
   have hgg:=eF (v.mem (n:=(g:Z)) ⋯ ⋯);have h1:(g:Z)∈rs.take (placeOf rs (a:Z)+1):=by rw[OU];exact⟨placeOf rs (g:Z),by rw[Pf ⋯];exact hgg⟩
   have nd:=v.nd;rw[<-P8 (placeOf rs (a:Z)+1) rs]at nd;exact (Pb.mp nd).2.2 _ h1 _ hm rfl
  have hps:=fD (λp hp=>(u.pl p hp).1) j;have hpn:=iF (ps:=(au es (g:Z)).parts.take j) λp hp=>(u.pl p (Oe hp)).1
  have hph:=oU (ps:=(au es (g:Z)).parts) λp hp=>(u.pl p hp).2.1
  have hp4:=u.p2;obtain⟨start,t⟩:∃start:O,(start:Z)=bj ((au es (g:Z)).parts.take j)+1:=⟨(bj ((au es (g:Z)).parts.take j)+1).toNat,⋯⟩
  have P:=BZ (cs:=cs) (es:=es) (p:=j) (T:=T) (l:=p.1-1) w u;rw[<-ed,<-t]at P;have Q:((es.map λ_=>([]:J Z)).set g [0]).length=es.length:=by rw[P7];exact o
  obtain⟨z6,e,E⟩:=rest ((es.map λ_=>[]).set g [0]) start (.list fs) (Y d) Q;obtain⟨f1,f2,K⟩:=fin _ z6 start Q e;have H:∀m:O,m<es.length->((es.map λ_=>([]:J Z)).set g [0])[m]?=if m=g then Y [0] else Y []:=λm hm=>by
   by_cases z:m=g
   .rw[HL z,z,O4 (by rw[o];exact w)]
   .rw[I' z,NW (Rm z),xt es hm]
  obtain⟨t0',t3'⟩:=(u.pl p (O8 hp)).2.2 T M;refine⟨z6,start,pQ rfl ?_,f1,⋯,⟨f2,.inr ⟨g,j,T,hjl,w,EE,by rw[N];exact M,?_,t,?_,by rw[K g w EE,H g w,HL rfl],λm hm z hz=>by rw[K m hm hz,H m hm,I' z]⟩⟩,λm r hm=>?_⟩
  .show bo (cI cs (cp cs) (bf cs) (a7 cs) aU #[3,⇑(a:Z),S,S,S,S,S])=_;unfold cI;rw[bg,vz,cG (ds:=[aj es,ai rs,.int (a:Z)]) rfl I,av];dsimp only;rw[aN s1,aN s2,aN s3];have hpos:0<fs.length:=QK.mpr hne;have c1:gT (g2 dGt (gF bp #[0,5]) ↑0) (wD es rs a (es.map λ_=>[]) 0 (.list fs) S S)=.ok true:=by rw[iM,a6 (f:=dGt) (x:=.int (fs.length:Z)) (y:=.int 0) rfl rfl (Ma _ _),Rs.ag,bX,Ql ⋯]
   have t1:aW [3] 6 (iu [] (ae 5) (g1 (cY cs.Holding "times") (ae 0))) (wD es rs a (es.map λ_=>[]) 0 (.list fs) S S)=.nx (wD es rs a (es.map λ_=>[]) 0 (.list fs) (Y d) S):=eU (show 6<8 by decide) A2;have t2:mj [3] 3 (g1 (cY cs.Holding "number") (ae 6)) (iY #[0,↑0]) (wD es rs a (es.map λ_=>[]) 0 (.list fs) (Y d) S)=.nx (wD es rs a ((es.map λ_=>[]).set g [0]) 0 (.list fs) (Y d) S) :=
    AH (r:=[0]) (by rw[o];exact w) rfl (lG (x:=d) rfl (by rw[ed];exact tR ..))
   have t3:aW [3] 4 (ao (bf cs) #[0,0,6]) (wD es rs a ((es.map λ_=>[]).set g [0]) 0 (.list fs) (Y d) S)=.nx (wD es rs a ((es.map λ_=>[]).set g [0]) start (.list fs) (Y d) S):=eU (show 4<8 by decide) (cG (ds:=[aj es,d]) rfl P);have A4:sIf (gT (g2 dGt (gF bp #[0,5]) ↑0)) (az (aW [3] 6 (iu [] (ae 5) (g1 (cY cs.Holding "times") (ae 0)))) (az (mj [3] 3 (g1 (cY cs.Holding "number") (ae 6)) (iY #[0,↑0])) (aW [3] 4 (ao (bf cs) #[0,0,6])))) aT (wD es rs a (es.map λ_=>[]) 0 (.list fs) S S)=.nx (wD es rs a ((es.map λ_=>[]).set g [0]) start (.list fs) (Y d) S):=by rw[fm,c1,av,HL rfl,aN t1,aN t2,t3]
   rw[aN A4];exact E
  .unfold dE;rw[jx t0' t3' G];exact hxl
  .rw[N];refine wC (C:=cs.Holding) ⋯ λe E l' R=>?_
   by_cases z:0<l'
   .have:=Dd e (by rw[A];exact NK.mpr ⟨E,by dsimp[R];exact Ql z⟩) l' R;omega
   .omega
  .have q:m<es.length:=by rw[<-f1];exact (NC.mp hm).1
   by_cases z:placeOf rs (m:Z)<=placeOf rs (a:Z)
   .rw[f2 m q z]at hm;cases hm;exact .inr (.inr rfl)
   .rw[K m q ⋯,H m q]at hm;split at hm
    .cases hm;exact .inr (.inl rfl)
    .cases hm;exact .inl rfl
end
def bz(cs:Cs):Gf:=gfG 2 3 (cJ cs)
def Mx:L->Qo
 |.none=>true
 |.bool _=>true
 |.int _=>true
 |_=>false
def wh(d:L):Bool:=isWhole d 0 9999
theorem JT{d:L}(h:wh d=true):∃n,d=.int n/\0<=n/\n<=9999:=by
 cases d <;> first|(cases h;done)|skip
 rename_i n;unfold wh isWhole at h;rw[NG,Qm,Qm]at h;exact⟨n,rfl,h⟩
def intOf:L->Z
 |.int n=>n
 |_=>0
theorem Ce(ns:J Z):(ns.map FC).map intOf=ns:=by rw[NO];exact OH _
def En(e:Er)(l:J L):Bool:=decide (l.length<=60)&&(l.all wh&&hvE e (l.map intOf))
def lwM(a b:Z):Z->Z->J L->Qo
 |_,_,[]=>true
 |m,la,.int c::r=>if c<=la\/9999<c then false else if c<(if c-b>m+a then c-b else m+a) then false else lwM a b (if c-b>m+a then c-b else m+a) c r
 |_,_,_::_=>false
def lawB(e:Er)(l:J L):Bool:=lwM e.every e.late (-1000) (-1) l&&decide (l.length<=60)
theorem ET{c:Z}(a:0<=c)(h1:c<=9999):wh (.int c)=true:=by show (decide (0<=c)&&decide (c<=9999))=true;rw[Ql a,Ql h1];rfl
theorem IA{c:Z}(h:c<0\/9999<c):wh (.int c)=false:=by
 cases q:wh (.int c) with
 |false=>rfl
 |true=>obtain⟨n,e,h1,h2⟩:=JT q;cases e;omega
theorem II{a b:Z}(h1:b<a):∀{l:J L}{m la:Z},la-b<=m->0<=la->lwM a b m la l=(l.all wh&&hvM a b (m+a) (l.map intOf))
 |[],_,_,_,_=>rfl
 |d::l,m,la,hm,hla=>by
  cases d <;> first|rfl|skip
  rename_i c;rw[Px,N2];show (if c<=la\/9999<c then false else if c<(if c-b>m+a then c-b else m+a) then false else lwM a b (if c-b>m+a then c-b else m+a) c l)=(wh (.int c)&&l.all wh&&(if c<(if c-b>m+a then c-b else m+a) then false else hvM a b ((if c-b>m+a then c-b else m+a)+a) (l.map intOf)))
  have e:c-b<=(if c-b>m+a then c-b else m+a)/\m+a<=(if c-b>m+a then c-b else m+a):=by split <;> omega
  generalize (if c-b>m+a then c-b else m+a)=m' at e ⊢;by_cases hc:c<=la\/9999<c
  .rw[HL hc];by_cases hz:c<0\/9999<c
   .rw[IA hz];rfl
   .rw[HL (show c<m' by omega),Vx]
  .rw[I' hc,ET ⋯ ⋯,Pa];by_cases hq:c<m'
   .rw[HL hq,HL hq,Vx]
   .rw[I' hq,I' hq];exact II h1 e.1 ⋯
theorem law_row(h:e.Ok)(l:J L):lawB e l=En e l:=by
 have l1:=h.l1;have l3:=h.l3;have hev:e.every<=60:=h.e2;unfold lawB En hvE;rw[Qo.and_comm];congr 1;cases l with
 |nil=>rfl
 |cons d l =>
  cases d <;> first|rfl|skip
  rename_i c;rw[Px,N2];show (if c<=-1\/9999<c then false else if c<(if c-e.late > -1000+e.every then c-e.late else -1000+e.every) then false else lwM e.every e.late (if c-e.late > -1000+e.every then c-e.late else -1000+e.every) c l)=(wh (.int c)&&l.all wh&&(if c<(if c-e.late>0-e.late then c-e.late else 0-e.late) then false else hvM e.every e.late ((if c-e.late>0-e.late then c-e.late else 0-e.late)+e.every) (l.map intOf)))
  by_cases hc:c<=-1\/9999<c
  .rw[HL hc,IA ⋯];rfl
  .have e1:(if c-e.late > -1000+e.every then c-e.late else -1000+e.every)=c-e.late:=HL ⋯;have e2:(if c-e.late>0-e.late then c-e.late else 0-e.late)=c-e.late:=by split <;> omega
   rw[I' hc,e1,e2,ET ⋯ ⋯,I' ⋯,I' ⋯,Pa];exact II ⋯ ⋯ ⋯
def acB:Ds->Sr:=(az (sIf (cOr (gT (g1 (fF "bool") (ae 4))) (cOr (dD (gT (g1 (fF "int") (ae 4)))) (cOr (gT (g2 dLe (ae 4) (ae 3))) (gT (g2 dGt (ae 4) ↑9999))))) (a9 (gC (.bool false))) aT)
 (az (aW [] 2 (gF su #[0,g2 bq (ae 2) (g2 dIx (ae 0) ↑0),g2 fI (ae 4) (g2 dIx (ae 0) ↑2)]))
 (az (sIf (gT (g2 dGt (ae 2) (ae 4))) (a9 (gC (.bool false))) aT)
 (aW [] 3 (ae 4)))))
theorem zX(e:Er)(Dd:L):∀(l:J L)(m la:Z)(x4:F1 L),(∀d∈l,Mx d=true) ->
   (lwM e.every e.late m la l=true/\∃j h x,forL (aP 4) acB l [Y e.d,Y Dd,⇑m,⇑la,x4]=.nx [Y e.d,Y Dd,⇑j,⇑h,x])
  \/(lwM e.every e.late m la l=false/\forL (aP 4) acB l [Y e.d,Y Dd,⇑m,⇑la,x4]=.rt (.bool false))
 |[],m,la,x4,_=>.inl ⟨rfl,_,_,_,rfl⟩
 |d::r,m,la,x4,hd=>by
   have h1:aP 4 d [Y e.d,Y Dd,⇑m,⇑la,x4]=Y [Y e.d,Y Dd,⇑m,⇑la,Y d]:=rfl;have a0:dIx e.d (.int 0)=⇑e.every:=rfl;have i:dIx e.d (.int 2)=⇑e.late:=rfl;unfold forL;rw[h1];have hok:=hd d N1;cases d <;> first|(cases hok;done)|skip
   .have f:acB [Y e.d,Y Dd,⇑m,⇑la,Y .none]=.rt (.bool false):=rfl;exact .inr ⟨rfl,by dsimp[f]⟩
   .rename_i b;have f:acB [Y e.d,Y Dd,⇑m,⇑la,Y (.bool b)]=.rt (.bool false):=rfl;exact .inr ⟨rfl,by dsimp[f]⟩
   .rename_i c;unfold lwM;have i1:fF "bool" (.int c)=Y (.bool false):=rfl;have i2:fF "int" (.int c)=Y (.bool true):=rfl;by_cases hc:c<=la\/9999<c
    .have f:acB [Y e.d,Y Dd,⇑m,⇑la,⇑c]=.rt (.bool false):=by
      by_cases a:c<=la
      .simp[acB,i1,i2,a]
      .have g:9999<c:=⋯
       simp[acB,i1,i2,a,g]
     refine .inr ⟨HL hc,?_⟩;dsimp[f]
    .have a:¬ c<=la:=⋯
     have g:¬ 9999<c:=⋯
     rw[I' hc];by_cases hm:c<(if c-e.late>m+e.every then c-e.late else m+e.every)
     .have f:acB [Y e.d,Y Dd,⇑m,⇑la,⇑c]=.rt (.bool false):=by simp[acB,i1,i2,a,g,a0,i,hm]
      refine .inr ⟨HL hm,?_⟩;dsimp[f]
     .have f:acB [Y e.d,Y Dd,⇑m,⇑la,⇑c]=.nx [Y e.d,Y Dd,⇑(if c-e.late>m+e.every then c-e.late else m+e.every),⇑c,⇑c]:=by simp[acB,i1,i2,a,g,a0,i,hm]
      rw[I' hm];dsimp[f];exact zX e Dd r _ _ _ λx n=>hd x (N0 _ n)
section
theorem law_comings_is{l:J L}(b:e.Ok)(hd:∀d∈l,Mx d=true):bz cs [e.d,.list l]=.ok (.bool (En e l)):=by
 rw[<-law_row b];refine pQ rfl ?_;show bo (cJ cs [Y e.d,↥l,S,S,S])=_;unfold cJ;have c:aW [] 2 (g1 jN ↑1000) [Y e.d,↥l,S,S,S]=.nx [Y e.d,↥l,⇑(-1000),S,S]:=eU (show 2<5 by decide) rfl;have s2:aW [] 3 (g1 jN ↑1) [Y e.d,↥l,⇑(-1000),S,S]=.nx [Y e.d,↥l,⇑(-1000),⇑(-1),S]:=eU (show 3<5 by decide) rfl;rw[aN c,aN s2];have g:dN [] (bx (ae 1)) (aP 4) acB [Y e.d,↥l,⇑(-1000),⇑(-1),S]=forL (aP 4) acB l [Y e.d,↥l,⇑(-1000),⇑(-1),S]:=rfl;show bo (match dN [] (bx (ae 1)) (aP 4) acB [Y e.d,↥l,⇑(-1000),⇑(-1),S] with|.nx a=>a9 (g2 dLe (gF bp #[0,1]) ↑60) a|r=>r)=_;rw[g];unfold lawB;rcases zX e (.list l) l (-1000) (-1) S hd with⟨h1,m',la',x,h2⟩|⟨h1,h2⟩
 .rw[h2,h1,Pa];show bo (a9 _ _)=_;rw[c7,a6 (f:=dLe) (x:=.int (l.length:Z)) (y:=.int 60) rfl rfl (Fm _ _)];show Rs.ok (RB (decide ((l.length:Z)<=60)))=_;rw[show decide ((l.length:Z)<=60)=decide (l.length<=60) from decide_eq_decide.mpr ⋯]
 .rw[h2,h1];rfl
end
theorem AX{ev la s:Z}(h:0<=la):∀(n j:O),hvM ev la (s-la+((j:Z)+1)*ev) ((M' n).map λ(k:O)=>s+(((j+k:O):Z)+1)*ev-la)=true
 |0,_=>rfl
 |n+1,j=>by
  have a:=AX (ev:=ev) (s:=s) h n (j+1);rw[J.range_succ_eq_map,N2,NO];have e1:((M' n).map ((λ(k:O)=>s+(((j+k:O):Z)+1)*ev-la)∘O.succ))=(M' n).map λ(k:O)=>s+(((j+1+k:O):Z)+1)*ev-la:=NR λk _=>by show s+(((j+(k+1):O):Z)+1)*ev-la=_;rw[show j+(k+1)=j+1+k by omega]
  rw[e1];show (if s+(((j+0:O):Z)+1)*ev-la<(if s+(((j+0:O):Z)+1)*ev-la-la>s-la+((j:Z)+1)*ev then s+(((j+0:O):Z)+1)*ev-la-la else s-la+((j:Z)+1)*ev) then false else hvM ev la ((if s+(((j+0:O):Z)+1)*ev-la-la>s-la+((j:Z)+1)*ev then s+(((j+0:O):Z)+1)*ev-la-la else s-la+((j:Z)+1)*ev)+ev) _)=true;rw[VR,I' (show ¬ (s+((j:Z)+1)*ev-la-la>s-la+((j:Z)+1)*ev) by omega),I' ⋯];rw[show s-la+((j:Z)+1)*ev+ev=s-la+(((j+1:O):Z)+1)*ev by rw[show (((j+1:O):Z)+1)=((j:Z)+1)+1 by omega,Pq ((j:Z)+1) 1 ev,Qk];omega]
  exact a
theorem Hy{s:O}(h:e.Ok)(hs:s<=81):qL (bD e s)/\hvE e (bD e s)=true:=by
 have e1:=h.e1;have e2:=h.e2;have l1:=h.l1;have l3:=h.l3;have cell:∀c∈bD e (s:Z),0<=c/\c<=9999:=λc hc=>by
  rcases NB.mp hc with rfl|hc
  .omega
  .obtain⟨k,f,rfl⟩:=NH.mp hc;have f:=Of.mp f;have h1:=NU (a:=(1:Z)) (b:=(k:Z)+1) (c:=e.every) ⋯ ⋯;have h2:=NU (a:=(k:Z)+1) (b:=(59:Z)) (c:=e.every) ⋯ ⋯;omega
 refine⟨⟨by rw[fk];decide,λc hc=>(cell c hc).1,λc hc=>(cell c hc).2⟩,?_⟩;unfold hvE bD;show (if (s:Z)<(if (s:Z)-e.late>0-e.late then (s:Z)-e.late else 0-e.late) then false else hvM e.every e.late ((if (s:Z)-e.late>0-e.late then (s:Z)-e.late else 0-e.late)+e.every) _)=true;rw[show (if (s:Z)-e.late>0-e.late then (s:Z)-e.late else 0-e.late)=(s:Z)-e.late by split <;> omega,I' ⋯];have:=AX (ev:=e.every) (s:=(s:Z)) l1 59 0;dsimp[Ob]at this;rw[show ((s:Z)-e.late+(((0:O):Z)+1)*e.every)=(s:Z)-e.late+e.every by simp]at this;exact this
theorem A3:∀{es:J Er}{z6:J (J Z)},z6.length=es.length->(∀(i:O)(e:Er)(r:J Z),es[i]?=Y e->z6[i]?=Y r->qL r/\hvE e r=true)->Cms es z6
 |[],[],_,_=>.nil
 |[],_::_,h,_=>by cases h
 |_::_,[],h,_=>by cases h
 |e::es,r::z6,hl,h=>by obtain⟨a,b⟩:=h 0 e r rfl rfl;exact .cons a b (A3 (by simpa using hl) λi c f h1 h2=>h (i+1) c f (by simpa using h1) (by simpa using h2))
theorem CB{start:O}(ok:∀e∈es,e.Ok)(hl:z6.length=es.length)(f:start<=81)(h:∀(m:O)(r:J Z),z6[m]?=Y r->r=[]\/r=[0]\/r=bD (au es (m:Z)) start):Cms es z6:=by
 refine A3 hl λi e r b g=>?_
 have hi:i<es.length:=(NC.mp b).1;have j:au es (i:Z)=e:=by have:=jY (es:=es) (n:=(i:Z)) ⋯ ⋯;rw[O2,b]at this;exact (N4 this).symm
 have a:=ok e (O8 b);have l1:=a.l1;rcases h i r g with rfl|rfl|rfl
 .exact⟨⟨by decide,(λc hc=>nomatch hc),(λc hc=>nomatch hc)⟩,rfl⟩
 .refine⟨⟨by decide,(λc hc=>by rw[NQ.mp hc];decide),(λc hc=>by rw[NQ.mp hc];decide)⟩,?_⟩;show (if (0:Z)<(if (0:Z)-e.late>0-e.late then 0-e.late else 0-e.late) then false else hvM e.every e.late _ [])=true;rw[I' (by split <;> omega)];rfl
 .rw[j];exact Hy a f
theorem BH{r:J Z}(h:e.Ok)(a:qL r)(hv:hvE e r=true):bz cs [e.d,ff r]=.ok (.bool true):=by
 have:=law_comings_is (cs:=cs) (l:=r.map FC) h λd hd=>by obtain⟨n,_,rfl⟩:=NH.mp hd;rfl
 rw[show En e (r.map FC)=true by unfold En;rw[Ce,hv,Ql (by rw[N8];exact a.few),Q9,Pa];exact NT.mpr λd hd=>by obtain⟨c,hc,rfl⟩:=NH.mp hd;exact ET (a.lo c hc) (a.hi c hc)]at this
 exact this
theorem Ft{len:Qn}{t:J L}(R:Ran es rs z6 len)(C:Cms es z6)(p:xS es rs z6 len=Y t) :
  (∀d∈t,vm d)/\t.length<1000000/\(∀(a:O)(row:J Z),z6[a]?=Y row->∀k,k<row.length->∃v,eP (endsF 0 t []) ((a:Z),(k:Z))=Y v) /\
   ∀d∈t,∀k:Z×Z,gO d=Y k->∃(n j:O)(row:J Z),k=((n:Z),(j:Z))/\z6[n]?=Y row/\j<row.length:=by
 obtain⟨q,vb,T,f,_,o,wb,hT,b,g⟩:=ud R C p;have r:∀m,m<es.length->(q m 0).tot=0:=λm hm=>by obtain⟨row,_,e⟩:=o m hm;rw[e];exact i8 m row
 refine⟨λd hd=>?_,⋯,λa row h k l=>?_,λd hd k l=>?_⟩
 .obtain⟨i,hi,e⟩:=Od hd;have:=b i ⋯;rw[My hi,e]at this;cases w:vb i with
  |none=>rw[w]at this;left;exact N4 this
  |some m=>rw[w]at this;right;exact⟨((q m i).num,((q m i).job:Z)),N4 this⟩
 .have ha:a<es.length:=by rw[<-R.ln];exact (NC.mp h).1
  obtain⟨row',h',e⟩:=o a ha;rw[h]at h';cases h';exact qI t 0 [] (.inl (f.told b wb r g ha (k:=k) (by rw[e];exact l)).1)
 .obtain⟨i,hi,e⟩:=Od hd;have:=b i ⋯;rw[My hi,e]at this;cases w:vb i with
  |none=>rw[w]at this;cases N4 this;cases l
  |some m =>
   rw[w]at this;rw[N4 this,kz]at l;have hm:=f.lt w;obtain⟨row,h',s⟩:=o m hm;have th:=f.thr w;have st:=(f.stay hm i).2.1;rw[s]at st;refine⟨m,(q m i).job,row,by rw[<-N4 l,f.num i hm],h',?_⟩;unfold Jb.there at th;rw[st]at th;show (q m i).job<(mkJ es rs m row).row.length;split at th
   .rename_i c hc;exact (NC.mp hc).1
   .cases th
theorem qj:∀l:J Z,intsOf (l.map FC)=Y l
 |[]=>rfl
 |a::r=>by show (intsOf (r.map FC)).map (a::·)=_;rw[qj r];rfl
theorem tF:∀l:J (J Z),rO (l.map liD)=Y l
 |[]=>rfl
 |a::r=>by show (intsOf (a.map FC)).bind (λns=>(rO (r.map liD)).map (ns::·))=_;rw[qj,tF r];rfl
theorem Hf{f:O}{g1 g2:Ds->Rs L}{a:Ds}(b:f<δ.length)(c:aO n0 gi aZ (gL gs) tg1 δ=.ok (nss.map liD))(hw:gw (δ.set f S)=.ok ds)(hn:lW tgt ca g1 g2 gv ds (δ.set f S) nss=Y (a,n')) :
  nT f n0 gi gs tg1 gw tgt ca g1 g2 gv δ=.nx (a.set f (Y (Bi n'))):=by
 unfold nT;rw[HL b,c];dsimp[tF,hw,hn]
def jG(l:PTl)(n k:O)(c:Z):Int:=match eP l ((n:Z),(k:Z)) with
 |some v=>v-c
 |none=>0
def iW(z6:J (J Z))(l:PTl):J (J Z):=z6.mapIdx λn row=>row.mapIdx (jG l n)
theorem GG{l:PTl}{n k:O}(hn:z6[n]?=Y row)(a:k<row.length):put2 (iW z6 l) (n:Z) (k:Z) (v-row[k])=Y (iW z6 (uv l ((n:Z),(k:Z)) v)):=by
 have hl:n<z6.length:=(NC.mp hn).1;have i1:ixN (iW z6 l).length (n:Z)=Y n:=by unfold ixN iW;rw[Pp,HL ⋯,HL ⋯];rfl
 have i2:(iW z6 l)[n]?=Y (row.mapIdx (jG l n)):=by unfold iW;rw[O3,hn];rfl
 have b:ixN (row.mapIdx (jG l n)).length (k:Z)=Y k:=by unfold ixN;rw[Pp,HL ⋯,HL ⋯];rfl
 unfold put2;rw[i1,Oi,i2,Oi,b,Oi];congr 1;refine OZ λi=>?_
 unfold iW;by_cases z:n=i
 .subst z;rw[O4 (by rw[Pp];exact hl),O3,hn];show Y _=Y _;congr 1;refine OZ λj=>?_
  by_cases y:k=j
  .subst y;rw[O4 (by rw[Pp];exact a),O3,My a];show Y _=Y (jG _ _ _ _);unfold jG;rw[dm,HL rfl]
  .rw[NW y,O3,O3];congr 1;funext c;unfold jG;rw[dm,I' λe=>y (by injection e with _ e;omega)]
 .rw[NW z,O3,O3];cases z6[i]? with
  |none=>rfl
  |some r =>
   show Y _=Y _;congr 1;refine OZ λj=>?_
   rw[O3,O3];congr 1;funext c;unfold jG;rw[dm,I' λe=>z (by injection e with e _;omega)]
def bJ(cs:Cs):Gf:=gfG 3 3 (eN cs)
def laD(E W D:L)(x4 a:F1 L):Ds:=[Y E,Y W,Y D,S,x4,a]
def v5:Ds->Rs PyData:=g2 fI (g2 bq (ae 4) ↑1) (g2 dIx (g2 dIx (ae 1) (g2 dIx (ae 5) ↑0)) (g2 dIx (ae 5) ↑1))
def n5:=lW (b9 [4,5]) (gT (g1 iw (ae 5))) (g2 dIx (ae 5) ↑0) (g2 dIx (ae 5) ↑1) v5
theorem zU{E D:L}{z6:J (J Z)}:∀(t:J L)(i:O)(l:PTl)(x4 a:F1 L),(∀d∈t,vm d)->(∀d∈t,∀k:Z×Z,gO d=Y k->∃(n j:O)(row:J Z),k=((n:Z),(j:Z))/\z6[n]?=Y row/\j<row.length) ->
  ∃b c,n5 (i6 i t) (laD E (cmD z6) D x4 a) (iW z6 l)=Y (laD E (cmD z6) D b c,iW z6 (endsF i t l))
 |[],i,l,x4,a,_,_=>⟨x4,a,rfl⟩
 |d::r,i,l,x4,a,g,hk=>by
  obtain⟨b,c,m⟩:=zU (E:=E) (D:=D) (z6:=z6) r (i+1) (match gO d with
   |some k=>uv l k ((i:Z)+1)
   |none=>l) ⇑(i:Z) (Y d) (λd h=>g d (N0 _ h)) (λd h=>hk d (N0 _ h))
  refine⟨b,c,?_⟩;rw[qb];have p:b9 [4,5] (.tuple [.int (i:Z),d]) (laD E (cmD z6) D x4 a)=Y (laD E (cmD z6) D ⇑(i:Z) (Y d)):=rfl;show (b9 [4,5] (.tuple [.int (i:Z),d]) (laD E (cmD z6) D x4 a)).bind (λδ1=>match gT (g1 iw (ae 5)) δ1 with
   |.ok true=>(ph (g2 dIx (ae 5) ↑0) (g2 dIx (ae 5) ↑1) v5 δ1 (iW z6 l)).bind λn'=>n5 (i6 (i+1) r) δ1 n'
   |.ok false=>n5 (i6 (i+1) r) δ1 (iW z6 l)
   |_=>S)=_
  rw[p,Oi];rcases g d N1 with rfl|⟨k,rfl⟩
  .exact m
  .obtain⟨n,j,row,e1,e2,o⟩:=hk _ N1 k rfl;have q:gT (g1 iw (ae 5)) (laD E (cmD z6) D ⇑(i:Z) (Y (.tuple [.int k.1,.int k.2])))=.ok true:=rfl;rw[q];subst e1;have hv:v5 (laD E (cmD z6) D ⇑(i:Z) (Y (.tuple [.int (n:Z),.int (j:Z)])))=.ok (.int ((i:Z)+1-row[j])):=by have s:dIx (cmD z6) (.int (n:Z))=Y (ff row):=gK (by rw[NA,e2];rfl);have u:dIx (ff row) (.int (j:Z))=Y (.int row[j]):=gK (by rw[NA,My o];rfl);exact a6 (x:=.int ((i:Z)+1)) (y:=.int row[j]) rfl (a6 (x:=ff row) (y:=.int (j:Z)) (a6 (x:=cmD z6) (y:=.int (n:Z)) rfl rfl s) rfl u) rfl
   have h1:ph (g2 dIx (ae 5) ↑0) (g2 dIx (ae 5) ↑1) v5 (laD E (cmD z6) D ⇑(i:Z) (Y (.tuple [.int (n:Z),.int (j:Z)]))) (iW z6 l)=Y (iW z6 (uv l ((n:Z),(j:Z)) ((i:Z)+1))):=by have e:g2 dIx (ae 5) ↑0 (laD E (cmD z6) D ⇑(i:Z) (Y (.tuple [.int (n:Z),.int (j:Z)])))=.ok (.int (n:Z)):=rfl;have f:g2 dIx (ae 5) ↑1 (laD E (cmD z6) D ⇑(i:Z) (Y (.tuple [.int (n:Z),.int (j:Z)])))=.ok (.int (j:Z)):=rfl;unfold ph;dsimp[hv,e,f];exact GG e2 o
   show (ph _ _ _ _ _).bind _=_;rw[h1,Oi];exact m
theorem HG(z6:J (J Z)):iW z6 []=z6.map λr=>r.map λ_=>0:=by
 unfold iW;refine OZ λi=>?_
 rw[O3,NA];congr 1;funext r;refine OZ λj=>?_
 rw[O3,NA];rfl
theorem law_answers_is{E:L}{t:J L}(hr:z6.length<=1000)(hl:∀r∈z6,r.length<=1000)(tl:t.length<1000000)(b:∀d∈t,vm d)(c:∀d∈t,∀k:Z×Z,gO d=Y k->∃(n j:O)(row:J Z),k=((n:Z),(j:Z))/\z6[n]?=Y row/\j<row.length) :
  bJ cs [E,cmD z6,.list t]=.ok (Bi (iW z6 (endsF 0 t []))):=by
 obtain⟨y4,y5,e⟩:=zU (E:=E) (D:=.list t) (z6:=z6) t 0 [] S S b c;have g:aO 6 (bx (ae 1)) aZ (gL (aO 7 (bx (ae 6)) aZ ↑0 aF)) aF (laD E (cmD z6) (.list t) S S)=.ok ((iW z6 []).map liD):=by
  have h:=bN (n0:=6) (src:=bx (ae 1)) (elt:=gL (aO 7 (bx (ae 6)) aZ ↑0 aF)) (δ:=laD E (cmD z6) (.list t) S S) (f:=λd=>match d with
   |.list ds=>.list (ds.map λ_=>.int 0)
   |d=>d) (ds:=z6.map ff) rfl rfl (by rw[N8];omega) λd hd=>by
    obtain⟨r,a,rfl⟩:=NH.mp hd;have:=bN (n0:=7) (src:=bx (ae 6)) (elt:=↑0) (δ:=laD E (cmD z6) (.list t) S S++[Y (ff r)]) (f:=λ_=>.int 0) (ds:=r.map FC) rfl rfl (by rw[N8];have:=hl r a;omega) λd _=>rfl
    unfold gL;rw[this];rfl
  rw[h,HG,NO,NO];congr 1;refine NR λr _=>?_
  show Sm ((r.map FC).map λ_=>.int 0)=.list ((r.map λ_=>(0:Z)).map FC);rw[NO,NO];rfl
 have hw:iq #[0,2] (laD E (cmD z6) (.list t) S S)=.ok (i6 0 t):=by rw[GB rfl ⋯,Ib]
 unfold n5 at e;have e1:=Hf (f:=3) (n0:=6) (δ:=laD E (cmD z6) (.list t) S S) (by decide:3<6) g hw e;unfold v5 at e1;show bo (eN cs [Y E,Y (cmD z6),↥t,S,S,S])=_;unfold eN;have e2:az _ (a9 (ae 3)) (laD E (cmD z6) (.list t) S S)=_:=aN e1;exact congrArg bo e2
theorem kP(l:J (Z×Z))(k v a:Z):a8 (fe l k v) a=if a=k then Y v else a8 l a:=by
 have hv:=CV (l.map λp=>((.inl p.1,V.int p.2):Key×V)) (.inl k) (.inl a) (.int v);rw[uH,jZ,jZ]at hv;by_cases z:a=k
 .rw[HL z];rw[HL (by rw[z])]at hv;cases q:a8 (fe l k v) a with
  |none=>rw[q]at hv;cases hv
  |some x=>rw[q]at hv;cases hv;rfl
 .rw[I' z];rw[I' (λe=>z (SQ e))]at hv;cases q:a8 (fe l k v) a with
  |none =>
   rw[q]at hv;cases p:a8 l a with
   |none=>rfl
   |some y=>rw[p]at hv;cases hv
  |some x =>
   rw[q]at hv;cases p:a8 l a with
   |none=>rw[p]at hv;cases hv
   |some y=>rw[p]at hv;cases hv;rfl
def gZ(l:J (Z×Z))(j:Jb):J (Z×Z):=match j.held with
 |some T=>fe l T j.num
 |none=>l
def aR(js:J Jb):J (Z×Z):=js.foldl gZ []
theorem rY{js:J Jb}(one:∀i∈js,∀j∈js,∀T,i.held=Y T->j.held=Y T->i.num=j.num)(T:Z):∀(us:J Jb)(l:J (Z×Z)),(∀j∈us,j∈js)->a8 (us.foldl gZ l) T=(((us.find? λj=>j.held==Y T).map (·.num)).or (a8 l T))
 |[],l,_=>rfl
 |j::r,l,h=>by
  rw[NY,rY one T r _ (λj a=>h j (N0 _ a)),Oc];unfold gZ;by_cases z:j.held=Y T
  .have e1:(j.held==Y T)=true:=by rw[z];exact QF _
   rw[e1,z];simp only;rw[kP,HL rfl];cases q:r.find? (λj=>j.held==Y T) with
   |none=>rfl
   |some k =>have b:=Oo q;have c:=P9 q;have:=one k (h k (N0 _ b)) j (h j N1) T (by simpa using c) z;show Y k.num=Y j.num;rw[this]
  .have e1:(j.held==Y T)=false:=by
    cases q:(j.held==Y T) with
    |false=>rfl
    |true=>exact Qr (eq_of_beq q) z
   rw[e1];simp only;cases q:j.held with
   |none=>rfl
   |some D' =>simp only;rw[kP,I' (λe=>z (by rw[q,e]))]
theorem k8(one:∀i∈js,∀j∈js,∀T,i.held=Y T->j.held=Y T->i.num=j.num)(T:Z):a8 (aR js) T=(f6 js (Y T)).map (·.num):=by unfold aR;rw[rY one T js [] (λ_ h=>h),show a8 [] T=S from rfl,Vv];rfl
def bE(js:J Jb):J (Z×Z):=mE (js.map λj=>(j.num,j.rank))
theorem oa:∀(us:J Jb)(l:J (Z×Z))(n:Z),(us.map (·.num)).Nodup->a8 ((us.map λj=>(j.num,j.rank)).foldl (λl p=>fe l p.1 p.2) l) n=(((us.find? λj=>j.num==n).map (·.rank)).or (a8 l n))
 |[],l,n,_=>rfl
 |j::r,l,n,h=>by
  have hn:=(O7.mp h)
  rw[N2,NY,oa r _ n hn.2,Oc];by_cases z:j.num=n
  .have e1:(j.num==n)=true:=by rw[z];exact QF _
   rw[e1,kP,HL z.symm];cases q:r.find? (λj=>j.num==n) with
   |none=>rfl
   |some k =>have a:=Oo q;have b:=P9 q;exact Qr (NH.mpr ⟨k,a,(eq_of_beq b).trans z.symm⟩) hn.1
  .have e1:(j.num==n)=false:=by
    cases q:(j.num==n) with
    |false=>rfl
    |true=>exact Qr (eq_of_beq q) z
   rw[e1,kP,I' (λe=>z e.symm)]
theorem jS(nd:(js.map (·.num)).Nodup)(a:j∈js):js.find? (λk=>k.num==j.num)=Y j:=by
 induction js with
 |nil=>cases a
 |cons k r ih =>
  rw[N2]at nd;obtain⟨n1,n2⟩:=O7.mp nd;rw[Oc];rcases NB.mp a with rfl|a
  .rw[QF]
  .have:(k.num==j.num)=false:=by
    cases q:(k.num==j.num) with
    |false=>rfl
    |true=>exact Qr (NH.mpr ⟨j,a,(eq_of_beq q).symm⟩) n1
   rw[this];exact ih n2 a
theorem eC(nd:(js.map (·.num)).Nodup)(a:j∈js):a8 (bE js) j.num=Y j.rank:=by unfold bE mE;rw[oa js [] j.num nd,jS nd a];rfl
theorem EZ{k:Z}(h:(l.map (·.1)).Nodup):((fe l k v).map (·.1)).Nodup:=by
 unfold fe;split
 .rw[NO];have:(l.map ((·.1)∘λp:Z×Z=>if p.1=k then (p.1,v) else p))=l.map (·.1):=NR λp _=>by show (if p.1=k then (p.1,v) else p).1=p.1;split <;> rfl
  rw[this];exact h
 .rename_i z;rw[Ol];refine Pb.mpr ⟨h,by simp,λa ha b c e=>?_⟩;dsimp[N2,OI,NQ]at c;obtain⟨p,hp,rfl⟩:=NH.mp ha;exact z (Oz.mpr ⟨p,hp,Ql (e.trans c)⟩)
theorem He{k:Z}{p:Z×Z}(h:p∈fe l k v):p=(k,v)\/p∈l:=by
 unfold fe at h;split at h
 .obtain⟨q,a,rfl⟩:=NH.mp h;split
  .rename_i z;left;rw[z]
  .exact .inr a
 .rcases NZ.mp h with h|h
  .exact .inr h
  .exact .inl (NQ.mp h)
theorem FN{k:Z}(h:a8 l k=Y v):(k,v)∈l:=by unfold a8 at h;obtain⟨p,hp,rfl⟩:=Oq.mp h;have h1:=Oo hp;have h2:p.1=k:=QC (P9 (p:=λp:Z×Z=>decide (p.1=k)) hp);rw[<-h2];exact h1
theorem tG:∀(us:J Jb)(l:J (Z×Z)),(l.map (·.1)).Nodup->((us.foldl gZ l).map (·.1)).Nodup
 |[],l,h=>h
 |j::r,l,h=>by
  rw[NY];refine tG r _ ?_;unfold gZ;split
  .exact EZ h
  .exact h
theorem lU:∀(us:J Jb)(l:J (Z×Z)){p:Z×Z},p∈us.foldl gZ l->(∃j∈us,j.held=Y p.1/\j.num=p.2)\/p∈l
 |[],l,p,h=>.inr h
 |j::r,l,p,h=>by
  rw[NY]at h;rcases lU r _ h with⟨k,a,h1⟩|h
  .exact .inl ⟨k,N0 _ a,h1⟩
  .unfold gZ at h;split at h
   .rename_i T b;rcases He h with rfl|h
    .exact .inl ⟨j,N1,b,rfl⟩
    .exact .inr h
   .exact .inr h
section
theorem pX(nd:(js.map (·.num)).Nodup){i:Jb}(hi:i∈js)(a:j∈js)(e:i.num=j.num):i=j:=by have h1:=jS nd hi;rw[e,jS nd a]at h1;exact (N4 h1).symm
theorem wI(nd:(js.map (·.num)).Nodup)(one:∀i∈js,∀j∈js,∀T,i.held=Y T->j.held=Y T->i.num=j.num)(a:j∈js)(b:j.held=Y T):(T,j.num)∈aR js:=by
 refine FN ?_;rw[k8 one];unfold f6;rw[Oi];cases q:js.find? (λk=>k.held==Y T) with
 |none=>exact Qr (by rw[b];exact QF _) (OJ.mp q j a)
 |some k =>have:=one k (Oo q) j a T (by simpa using P9 q) b;show Y k.num=Y j.num;rw[this]
theorem BI(nd:(js.map (·.num)).Nodup)(one:∀i∈js,∀j∈js,∀T,i.held=Y T->j.held=Y T->i.num=j.num)(a:j∈js):((aR js).any λp=>decide (p.2=j.num))=j.held.isSome:=by
 cases q:j.held with
 |some T=>exact Oz.mpr ⟨_,wI nd one a q,Ql rfl⟩
 |none =>
  refine Qa.mpr λp hp=>?_
  intro z;rcases lU js [] hp with⟨k,b,h1,h2⟩|h
  .have e:=pX nd b a (h2.trans (QC z));rw[e,q]at h1;cases h1
  .cases h
end
def hiS(z7:L)(l:J (Z×Z))(p:Z×Z):J (Z×Z):=fe l p.2 (let a:=(a8 l p.2).getD 0;if dE z7 p.1<a then dE z7 p.1 else a)
def placesH(z7:L)(js:J Jb):J (Z×Z):=(aR js).foldl (hiS z7) (bE js)
def kH(z7:L)(j:Jb):Int:=match j.held with
 |none=>j.rank
 |some t=>if dE z7 t<j.rank then dE z7 t else j.rank
theorem oW{z7:L}{n:Z}:∀{ps l:J (Z×Z)},(∀p∈ps,p.2≠n)->a8 (ps.foldl (hiS z7) l) n=a8 l n
 |[],l,_=>rfl
 |p::r,l,h=>by rw[NY,oW λq a=>h q (N0 _ a)];unfold hiS;rw[kP,I' (λe=>h p N1 e.symm)]
theorem uV(nd:(js.map (·.num)).Nodup)(one:∀i∈js,∀j∈js,∀T,i.held=Y T->j.held=Y T->i.num=j.num)(f:j∈js):a8 (placesH z7 js) j.num=Y (kH z7 j):=by
 unfold placesH kH;have src:∀p∈aR js,p.2=j.num->j.held=Y p.1:=λp hp e=>by
  rcases lU js [] hp with⟨k,c,h1,h2⟩|h
  .rw[<-pX nd c f (h2.trans e)];exact h1
  .cases h
 cases q:j.held with
 |none =>
  rw[oW λp hp e=>?_]
  .exact eC nd f
  .have:=src p hp e;rw[q]at this;cases this
 |some T =>
  obtain⟨a,b,e⟩:=J.append_of_mem (wI nd one f q);have c:=tG js [] Q3;have c:((aR js).map (·.1)).Nodup:=c;rw[e,Ol,N2]at c;obtain⟨_,h2,g⟩:=Pb.mp c;have na:∀p∈a,p.2≠j.num:=λp hp z=>by have:=src p (by rw[e];exact O1 _ hp) z;rw[q]at this;exact g p.1 (PB hp) T N1 (N4 this).symm
  have m:∀p∈b,p.2≠j.num:=λp hp z=>by have:=src p (by rw[e];exact NF _ (N0 _ hp)) z;rw[q]at this;exact (O7.mp h2).1 (NH.mpr ⟨p,hp,(N4 this).symm⟩)
  have ea:=oW (z7:=z7) (l:=bE js) na;rw[eC nd f]at ea;rw[e,UD,NY,oW m];show a8 (fe _ j.num _) j.num=_;rw[kP,HL rfl];show Y (if dE z7 T<(a8 (a.foldl (hiS z7) (bE js)) j.num).getD 0 then dE z7 T else (a8 (a.foldl (hiS z7) (bE js)) j.num).getD 0)=_;rw[ea];rfl
theorem vc{f g:O->O->Qo}:∀k,(∀i j,i<=k->j<i->f i j=g i j)->bst f k=bst g k
 |0,_=>rfl
 |k+1,h=>by
  have a:=vc k λi j hi b=>h i j ⋯ b
  unfold bst;rw[a,h (k+1) (bst g k) (ND _) (by have:=gU g k;omega)]
def mM(z7:L)(j:Jb):J Int:=[kH z7 j,if j.held.isSome then 0 else 1,j.num]
theorem Bx(e:js≠[])(up:js.Pairwise λi j=>i.num<j.num):((js.map (mM z7)).getD (bst (ltN (js.map (mM z7))) ((js.map (mM z7)).length-1)) [])=mM z7 (eZ (eV z7) js):=by
 have hl:0<js.length:=QK.mpr e;have key:∀i(hi:i<js.length),(js.map (eV z7)).getD i .none=eV z7 js[i]:=λi hi=>by rw[N9,NA,My hi];rfl
 have row:∀i(hi:i<js.length),(js.map (mM z7)).getD i []=mM z7 js[i]:=λi hi=>by rw[N9,NA,My hi];rfl
 have f:bst (ltN (js.map (mM z7))) ((js.map (mM z7)).length-1)=gR (js.map (eV z7)):=by
  unfold gR;rw[N8,N8];refine vc _ λi j hi g=>?_
  have a:i<js.length:=⋯
  have b:j<js.length:=⋯
  unfold ltN;rw[row i a,row j b,key i a,key j b];have hn:js[j].num<js[i].num:=OV.mp up j i b a g;have e1:∀k:Jb,∃x:Z,eV z7 k=.tuple [.int (kH z7 k),.int (if k.held.isSome then 0 else 1)]:=λk=>⟨0,by unfold eV kH;cases k.held <;> rfl⟩
  obtain⟨_,e2⟩:=e1 js[i];obtain⟨_,h⟩:=e1 js[j];rw[e2,h];show HT.lexLt _ _=HT.lexLt [_,_] [_,_];unfold mM;have l:HT.lexLt [js[i].num] [js[j].num]=false:=by rw[HT.c8,I' ⋯];exact P' ⋯
  rw[HT.c8,HT.c8,l,HT.c8,HT.c8,HT.iN]
 have c:gR (js.map (eV z7))<js.length:=by unfold gR;have:=gU (λi j=>ltD ((js.map (eV z7)).getD i .none) ((js.map (eV z7)).getD j .none)) ((js.map (eV z7)).length-1);rw[N8]at this ⊢;omega
 rw[f,row _ c];unfold eZ;rw[N9,My c];rfl
theorem tq{w:F1 Z}{o:Jb}(h:f6 js w=Y o):o∈js:=by unfold f6 at h;obtain⟨t,_,h⟩:=Og.mp h;exact Oo h
def rF(js:J Jb)(l:J (Z×Z))(j:Jb):J (Z×Z):=match f6 js j.wanted with
 |some o=>fe l o.num (let a:=(a8 l o.num).getD 0;if j.rank<a then j.rank else a)
 |none=>l
def lY(js:J Jb)(asked:Qo):J (Z×Z):=if asked=true then js.foldl (rF js) (bE js) else bE js
theorem Ab{js:J Jb}(nd:(js.map (·.num)).Nodup):∀(us:J Jb)(l m:J (Z×Z)),(∀k∈js,a8 l k.num=Y ((a8 m k.num).getD k.rank))->∀k∈js,a8 (us.foldl (rF js) l) k.num=Y ((a8 (us.foldl (D8 js) m) k.num).getD k.rank)
 |[],l,m,h=>h
 |j::r,l,m,h=>by
  rw[NY,NY];refine Ab nd r _ _ λk a=>?_
  unfold rF D8;cases q:f6 js j.wanted with
  |none=>exact h k a
  |some o =>
   have b:=tq q;simp only;rw[kP,kP];by_cases z:k.num=o.num
   .have e:=pX nd a b z;subst e;rw[HL rfl,HL rfl,h k a];show Y _=Y _;congr 1;show (if j.rank<(a8 m k.num).getD k.rank then j.rank else (a8 m k.num).getD k.rank)=(Y _:F1 Z).getD k.rank;rw[P0];split <;> split <;> omega
   .rw[I' z,I' z];exact h k a
theorem vi(nd:(js.map (·.num)).Nodup)(asked:Qo){k:Jb}(a:k∈js):a8 (lY js asked) k.num=Y ((a8 (if asked=true then p7 js else []) k.num).getD k.rank):=by
 unfold lY;cases asked with
 |false=>rw[I' #[1],I' #[1]];exact eC nd a
 |true =>rw[HL rfl,HL rfl];exact Ab nd js _ [] (λk a=>by rw[eC nd a];rfl) k a
def qV(l:J (Z×Z))(j:Jb):J Int:=[(a8 l j.num).getD j.rank,j.num]
theorem Bs(e:js≠[])(up:js.Pairwise λi j=>i.num<j.num):((js.map (qV l)).getD (bst (ltN (js.map (qV l))) ((js.map (qV l)).length-1)) [])=qV l (eZ (nv l) js):=by
 have hl:0<js.length:=QK.mpr e;have key:∀i(hi:i<js.length),(js.map (nv l)).getD i .none=nv l js[i]:=λi hi=>by rw[N9,NA,My hi];rfl
 have row:∀i(hi:i<js.length),(js.map (qV l)).getD i []=qV l js[i]:=λi hi=>by rw[N9,NA,My hi];rfl
 have f:bst (ltN (js.map (qV l))) ((js.map (qV l)).length-1)=gR (js.map (nv l)):=by
  unfold gR;rw[N8,N8];refine vc _ λi j hi g=>?_
  have a:i<js.length:=⋯
  have b:j<js.length:=⋯
  unfold ltN;rw[row i a,row j b,key i a,key j b];have hn:js[j].num<js[i].num:=OV.mp up j i b a g;show HT.lexLt _ _=HT.lexLt [_] [_];unfold qV;have h:HT.lexLt [js[i].num] [js[j].num]=false:=by rw[HT.c8,I' ⋯];exact P' ⋯
  rw[HT.c8,h,HT.c8,HT.iN]
 have c:gR (js.map (nv l))<js.length:=by unfold gR;have:=gU (λi j=>ltD ((js.map (nv l)).getD i .none) ((js.map (nv l)).getD j .none)) ((js.map (nv l)).length-1);rw[N8]at this ⊢;omega
 rw[f,row _ c];unfold eZ;rw[N9,My c];rfl
def ba(cs:Cs):Gf:=gfG 2 2 (jX cs)
def Hq(x:O×F1 Z×Z):PyData:=.tuple [.int (x.1:Z),bc x.2.1,.int x.2.2]
def atB:Ds->Sr:=(az (sIf (gT (g2 dLt (ae 1) (g2 dIx (ae 3) ↑0))) (a9 (cQ #[0,2,g2 dIx (ae 3) ↑1,1])) aT)
 (aW [] 1 (g2 fI (ae 1) (g2 dIx (ae 3) ↑0))))
theorem C9(p:Z×F1 Z):dIx (aG p) (.int 0)=⇑p.1:=rfl
theorem A6{E:L}:∀(ps:J (Z×F1 Z))(k:O)(s:Z)(a x3:F1 L),
  forL (b9 [2,3]) atB (i6 k (ps.map aG)) [Y E,⇑s,a,x3]=.rt (Hq (lawAt ps k s)) \/
  (lawAt ps k s=(k+ps.length,S,0)/\∃b c e,forL (b9 [2,3]) atB (i6 k (ps.map aG)) [Y E,⇑s,a,x3]=.nx [Y E,b,c,e])
 |[],k,s,a,x3=>.inr ⟨rfl,_,_,_,rfl⟩
 |p::r,k,s,a,x3=>by
  rw[N2,qb];unfold forL;rw[show b9 [2,3] (RX [.int (k:Z),aG p]) [Y E,⇑s,a,x3]=Y [Y E,⇑s,⇑(k:Z),Y (aG p)] from rfl];unfold lawAt;by_cases z:s<p.1
  .left;rw[HL z];have f:atB [Y E,⇑s,⇑(k:Z),Y (aG p)]=.rt (.tuple [.int (k:Z),bc p.2,.int s]):=by unfold atB;dsimp[bg,fm,iM,dP,aC,aE,fh,Rs.ag,C9,part1,Kn,Ql z,Rs.ak,bX,av,QA,c7,jw,aA,aL]
   dsimp[f];rfl
  .rw[I' z];have f:atB [Y E,⇑s,⇑(k:Z),Y (aG p)]=.nx [Y E,⇑(s-p.1),⇑(k:Z),Y (aG p)]:=by unfold atB;dsimp[bg,fm,iM,dP,aC,aE,fh,Rs.ag,C9,Kn,P' z,Rs.ak,bX,av,OT,RL,uG,oK,lO];rfl
   dsimp[f];rcases A6 r (k+1) (s-p.1) ⇑(k:Z) (Y (aG p)) with h|⟨h1,b,c,e,h2⟩
   .exact .inl h
   .refine .inr ⟨?_,b,c,e,h2⟩;rw[h1,NP,show k+1+r.length=k+(r.length+1) by omega]
theorem law_at_of{s:Z}:ba cs [e.d,.int s]=.ok (Hq (lawAt e.parts 0 s)):=by
 show bo (jX cs [Y e.d,⇑s,S,S])=_;have a:jX cs=az (dN [] (iq #[0,g2 dIx (ae 0) ↑3]) (b9 [2,3]) atB) (a9 (cQ #[0,gF bp #[0,g2 dIx (ae 0) ↑3],gC .none,↑0])):=rfl;have src:iq #[0,g2 dIx (ae 0) ↑3] (mask [] [Y e.d,⇑s,S,S])=.ok (i6 0 (e.parts.map aG)):=by rw[eK];dsimp[uO,aA,aL,dP,aC,fh,Rs.ag,zw,Rs.ak,uK];unfold ij i6;refine congrArg (λf=>Rs.ok ((e.parts.map aG).mapIdx f)) ?_;funext i d;rw[Ob]
 rw[a,bg,iJ,src,av];rcases A6 (E:=e.d) e.parts 0 s S S with h|⟨h1,y1,y2,y3,h2⟩
 .rw[h];rfl
 .rw[h2,h1];dsimp[c7,jw,aA,aL,jM,dP,aC,fh,Rs.ag,zw,uf,N8,Rs.ak,av,cA];unfold Hq;rw[Ob];rfl
def BO(es:J Er)(sp:J Z)(j:Jb):Prop:=∃e:Er,dIx (aj es) (.int j.num)=Y e.d/\e.parts=j.parts/\dIx (.list (sp.map FC)) (.int j.num)=⇑j.cur
theorem IB(h:BO es sp j)(ok:JOk z7 j)(ha:a δ=.ok (aj es))(c:b δ=.ok (.list (sp.map FC))){n:Ds->Rs L}(hn:n δ=.ok (.int j.num)) :
  ao (ba cs) #[0,g2 dIx a n,g2 dIx b n] δ=.ok (.tuple [.int (j.part:Z),bc j.tool,.int (j.spent:Z)]):=by
 obtain⟨e,h1,h2,f⟩:=h;refine cG (ds:=[e.d,.int j.cur]) ?_ ?_
 .have g1:=a6 ha hn h1;have g2:=a6 c hn f;dsimp[aA,aL,g1,g2,Rs.ag]
 .rw[law_at_of,h2,Li ok];rfl
theorem tup_is{a:Ds}{d:L}(b:g (mask EE δ)=.ok d)(c:tgt d δ=Y a):lV EE tgt g δ=.nx a:=by unfold lV;rw[b,av,c]
def ck(cs:Cs):Gf:=gfG 3 5 (gY cs (ba cs))
def heB(cs:Cs):Ds->Sr:=(az (lV [3] (b9 [5,6,7]) (ao (ba cs) #[0,g2 dIx (ae 0) (ae 4),g2 dIx (ae 1) (ae 4)]))
 (sIf (rH (gT (g2 dGt (ae 7) ↑0)) (gT (g1 iw (ae 6)))) (gX 3 (ae 6) (ae 4)) aT))
def heD(E D' T:L)(l:J (Z×Z))(x4 a x6 x7:F1 L):Ds:=[Y E,Y D',Y T,Y (eY l),x4,a,x6,x7]
theorem Hd{T:L}(h:BO es sp j)(ok:JOk z7 j)(hl:l.length<1000000)(a x6 x7:F1 L) :
  ∃b c e,heB cs (heD (aj es) (.list (sp.map FC)) T l ⇑j.num a x6 x7)=.nx (heD (aj es) (.list (sp.map FC)) T (gZ l j) ⇑j.num b c e):=by
 have f:lV [3] (b9 [5,6,7]) (ao (ba cs) #[0,g2 dIx (ae 0) (ae 4),g2 dIx (ae 1) (ae 4)]) (heD (aj es) (.list (sp.map FC)) T l ⇑j.num a x6 x7)=.nx (heD (aj es) (.list (sp.map FC)) T l ⇑j.num ⇑(j.part:Z) (Y (bc j.tool)) ⇑(j.spent:Z)) :=
  tup_is (IB h ok rfl rfl rfl) rfl
 refine⟨⇑(j.part:Z),Y (bc j.tool),⇑(j.spent:Z),?_⟩;unfold heB;rw[aN f];have g:gT (g2 dGt (ae 7) ↑0) (heD (aj es) (.list (sp.map FC)) T l ⇑j.num ⇑(j.part:Z) (Y (bc j.tool)) ⇑(j.spent:Z))=.ok (decide (0<(j.spent:Z))):=rfl;have i:gT (g1 iw (ae 6)) (heD (aj es) (.list (sp.map FC)) T l ⇑j.num ⇑(j.part:Z) (Y (bc j.tool)) ⇑(j.spent:Z))=.ok j.tool.isSome:=by cases j.tool <;> rfl
 unfold gZ Jb.held;rw[fm,yB,g,Rs.ag];by_cases z:j.spent=0
 .rw[HL z,z];rfl
 .rw[I' z,Ql ⋯,HL rfl,i,av];cases q:j.tool with
  |none=>rfl
  |some t =>rw[HL (show (Y t).isSome=true from rfl)];unfold gX heD;dsimp[Ov,Ow,kL];show (if l.length<1000000 then _ else _)=_;rw[HL hl];rfl
theorem sZ(l:J (Z×Z))(j:Jb):(gZ l j).length<=l.length+1:=by
 unfold gZ;split
 .unfold fe;split <;> simp
 .omega
theorem AM{cs:Cs}{z7:L}{es:J Er}{sp:J Z}{T:L}:∀(ts:J Jb)(l:J (Z×Z))(x4 a x6 x7:F1 L),(∀j∈ts,BO es sp j/\JOk z7 j)->l.length+ts.length<1000000 ->
  ∃i b f g,forL (aP 4) (heB cs) (ts.map λj=>.int j.num) (heD (aj es) (.list (sp.map FC)) T l x4 a x6 x7)=.nx (heD (aj es) (.list (sp.map FC)) T (ts.foldl gZ l) i b f g)
 |[],l,x4,a,x6,x7,_,_=>⟨x4,a,x6,x7,rfl⟩
 |j::r,l,x4,a,x6,x7,h,hl=>by rw[NP]at hl;obtain⟨c,ok⟩:=h j N1;obtain⟨b,f,g,e⟩:=Hd (cs:=cs) (T:=T) c ok (l:=l) ⋯ a x6 x7;obtain⟨m,n,o,p,q⟩:=AM (cs:=cs) (T:=T) r (gZ l j) ⇑j.num b f g (λk s=>h k (N0 _ s)) (by have:=sZ l j;omega);refine⟨m,n,o,p,?_⟩;rw[N2,fP (δ1:=heD (aj es) (.list (sp.map FC)) T l ⇑j.num a x6 x7) rfl e];exact q
theorem law_held_is(h:∀j∈ts,BO es sp j/\JOk z7 j)(hl:ts.length<=1000):ck cs [aj es,.list (sp.map FC),.list (ts.map λj=>.int j.num)]=.ok (dfD (aR ts)):=by obtain⟨a,b,c,f,e⟩:=AM (cs:=cs) (T:=.list (ts.map λj=>.int j.num)) ts [] S S S S h (by simp;omega);show bo (gY cs (ba cs) [Y (aj es),↥(sp.map FC),↥(ts.map λj=>.int j.num),S,S,S,S,S])=_;have g:Ad 3 [Y (aj es),↥(sp.map FC),↥(ts.map λj=>.int j.num),S,S,S,S,S]=.nx (heD (aj es) (.list (sp.map FC)) (.list (ts.map λj=>.int j.num)) [] S S S S):=rfl;have s2:dN [3] (bx (ae 2)) (aP 4) (heB cs) (heD (aj es) (.list (sp.map FC)) (.list (ts.map λj=>.int j.num)) [] S S S S)=.nx (heD (aj es) (.list (sp.map FC)) (.list (ts.map λj=>.int j.num)) (aR ts) a b c f):=(lr rfl).trans e;unfold heB at s2;unfold gY;rw[aN g,aN s2];unfold Be heD;dsimp[Ov,Ow,kL,cA]
def chD(E R:L)(len:Qn)(D' T z7:L)(hl pl:J (Z×Z))(x8 x9 x10 x11 x12 x13:F1 L):Ds:=[Y E,Y R,Y (.str len),Y D',Y T,Y z7,Y (dfD hl),Y (eY pl),x8,x9,x10,x11,x12,x13]
section
variable {E D' T:L}{len:Qn}{hl pl:J (Z×Z)}
theorem Iz{k:Z}(h1:go δ=.ok (dfD l))(h2:gk δ=.ok (.int k))(h:a8 l k=Y v):gDF go gk δ=.ok (.int v):=by unfold gDF;rw[h1,h2,Rs.ag,Rs.ag];dsimp[oM,h]
theorem Aa{k:Z}(h1:go δ=.ok (eY l))(h2:gk δ=.ok (.int k))(h:a8 l k=Y v):gDI go gk δ=.ok (.int v):=by unfold gDI;rw[h1,h2,Rs.ag,Rs.ag];dsimp[kL,h]
theorem AU{k:Z}(hd:δ[i]?=Y (Y (eY l)))(h1:gv δ=.ok (.int v))(h2:gk δ=.ok (.int k))(hl:l.length<1000000):gX i gk gv δ=.nx (δ.set i (Y (eY (fe l k v)))):=by unfold gX;rw[hd];dsimp[kL,h1,h2,av];rw[HL hl]
theorem An{x y:Z}(ha:a δ=.ok (.int x))(c:b δ=.ok (.int y)):gF jH #[0,a,b] δ=.ok (.int (if y<x then y else x)):=by dsimp[jM,aA,aL,ha,c,Rs.ag,Ek,Rs.ak]
def hiB:Ds->Sr:=gX 7 (gDF (ae 6) (ae 8)) (gF jH #[0,gDI (ae 7) (gDF (ae 6) (ae 8)),g2 dIx (ae 5) (ae 8)])
theorem HP{a:Z}(h1:a8 hl t=Y n)(h2:a8 pl n=Y a)(c:dIx z7 (.int t)=⇑(dE z7 t))(e:pl.length<1000000) :
  hiB (chD E R len D' T z7 hl pl ⇑t x9 x10 x11 x12 x13)=.nx (chD E R len D' T z7 hl (hiS z7 pl (t,n)) ⇑t x9 x10 x11 x12 x13):=by
 have g1:gDF (ae 6) (ae 8) (chD E R len D' T z7 hl pl ⇑t x9 x10 x11 x12 x13)=.ok (.int n):=Iz rfl rfl h1;have b:gDI (ae 7) (gDF (ae 6) (ae 8)) (chD E R len D' T z7 hl pl ⇑t x9 x10 x11 x12 x13)=.ok (.int a):=Aa rfl g1 h2;have f:g2 dIx (ae 5) (ae 8) (chD E R len D' T z7 hl pl ⇑t x9 x10 x11 x12 x13)=.ok (.int (dE z7 t)):=a6 rfl rfl c;unfold hiB;rw[AU (l:=pl) rfl (An b f) g1 e];unfold hiS;dsimp[h2,P0];rfl
theorem AY:∀(ps:J (Z×Z))(pl:J (Z×Z))(x8:F1 L),(∀p∈ps,a8 hl p.1=Y p.2/\(a8 pl p.2).isSome/\dIx z7 (.int p.1)=⇑(dE z7 p.1))->pl.length+ps.length<1000000 ->
  ∃b,forL (aP 8) hiB (ps.map λp=>.int p.1) (chD E R len D' T z7 hl pl x8 x9 x10 x11 x12 x13)=.nx (chD E R len D' T z7 hl (ps.foldl (hiS z7) pl) b x9 x10 x11 x12 x13)
 |[],pl,x8,_,_=>⟨x8,rfl⟩
 |p::r,pl,x8,h,hz=>by
  rw[NP]at hz;obtain⟨h1,h2,c⟩:=h p N1;obtain⟨a,h2⟩:=OW.mp h2;have e:=HP (E:=E) (R:=R) (D':=D') (T:=T) (len:=len) (x9:=x9) (x10:=x10) (x11:=x11) (x12:=x12) (x13:=x13) h1 h2 c ⋯;have hl2:(hiS z7 pl (p.1,p.2)).length<=pl.length+1:=by unfold hiS fe;split <;> simp
  obtain⟨b,f⟩:=AY r (hiS z7 pl (p.1,p.2)) ⇑p.1 (λq g=>by
   obtain⟨k1,k2,k3⟩:=h q (N0 _ g);refine⟨k1,?_,k3⟩;unfold hiS;rw[kP];split
   .rfl
   .exact k2) ⋯
  refine⟨b,?_⟩;rw[N2,fP (δ1:=chD E R len D' T z7 hl pl ⇑p.1 x9 x10 x11 x12 x13) rfl e];exact f
end
structure ChO(es:J Er)(rs:J Z)(sp:J Z)(z7:L)(ts:J Jb):Prop where
 cur:∀j∈ts,BO es sp j/\JOk z7 j
 few:ts.length<=1000
 ix:∀j∈ts,iI (rs.map FC) (.int j.num)=⇑j.rank
 up:ts.Pairwise λi j=>i.num<j.num
 one:∀i∈ts,∀j∈ts,∀T,i.held=Y T->j.held=Y T->i.num=j.num
section
variable {len:Qn}
theorem ChO.nd(C:ChO es rs sp z7 ts):(ts.map (·.num)).Nodup:=UB _ (λa b h e=>by omega) C.up
theorem nE{elt:Ds->Rs L}{us:J Jb}{g:Jb->L}(nd:(us.map (·.num)).Nodup)(hn:δ.length=n0)(b:src δ=.ok (us.map λj=>.int j.num))(hl:us.length<=1000)(h:∀j∈us,elt (δ++[⇑j.num])=.ok (g j)):aO n0 src aZ elt aF δ=.ok (us.map g):=by
 have c:=bN (elt:=elt) (f:=λd=>match d with
  |.int n=>((us.find? λj=>j.num==n).map g).getD .none
  |_=>.none) hn b (by rw[N8];omega) λd hd=>by obtain⟨j,a,rfl⟩:=NH.mp hd;rw[h j a];dsimp[jS nd a,Oh,P0]
 rw[c,NO];congr 1;refine NR λj a=>?_
 dsimp[Function.comp,jS nd a,Oh,P0]
theorem BB(C:ChO es rs sp z7 ts):rT [7,10] 7 (gL (aO 14 (bx (ae 4)) aZ (cQ #[0,14,iL (ae 1) (ae 14)]) aF)) #[3,Y (.str len),↥(sp.map FC),↥(ts.map λj=>.int j.num),Y z7,Y (dfD (aR ts)),S,x8,x9,x10,x11,x12,x13] =
  .nx (chD (aj es) (ai rs) len (.list (sp.map FC)) (.list (ts.map λj=>.int j.num)) z7 (aR ts) (bE ts) x8 x9 x10 x11 x12 x13):=by
 have a:aO 14 (bx (ae 4)) aZ (cQ #[0,14,iL (ae 1) (ae 14)]) aF (mask [7,10] #[3,Y (.str len),↥(sp.map FC),↥(ts.map λj=>.int j.num),Y z7,Y (dfD (aR ts)),S,x8,x9,x10,x11,x12,x13])=.ok (ts.map λj=>.tuple [.int j.num,.int j.rank]) :=
  nE C.nd rfl rfl C.few λj b=>by show cQ #[0,14,iL (ae 1) (ae 14)] #[3,Y (.str len),↥(sp.map FC),↥(ts.map λj=>.int j.num),Y z7,Y (dfD (aR ts)),S,x8,x9,S,x11,x12,x13,⇑j.num]=_;dsimp[jw,aA,aL,uB,aC,aE,ai,Rs.ag,C.ix j b,Rs.ak]
 unfold rT;rw[HL (by show 7<14;decide)];unfold gL;rw[a,Rs.ag,av];have hp:nM (ts.map λj=>.tuple [.int j.num,.int j.rank])=Y (ts.map λj=>(j.num,j.rank)):=by have:=tN (ts.map λj=>(j.num,j.rank));rw[NO]at this;exact this
 dsimp[hp];rfl
end
theorem ints_map:∀l:J Z,intsOf (l.map FC)=Y l
 |[]=>rfl
 |n::r=>by rw[N2];unfold intsOf;rw[ints_map r];rfl
theorem xu:∀nss:J (J Z),mY (nss.map mV)=Y nss
 |[]=>rfl
 |ns::r=>by rw[N2];unfold mY;rw[ints_map,xu r];rfl
theorem Ao{us:J Jb}{row:Jb->J Z}{b:Jb}(a:g δ=.ok (.list (us.map λj=>mV (row j))))(c:us≠[])(f:((us.map row).getD (bst (ltN (us.map row)) ((us.map row).length-1)) [])=row b):gF j8 #[0,g] δ=.ok (mV (row b)):=by
 have e:us.map (λj=>mV (row j))=(us.map row).map mV:=by rw[NO];rfl
 dsimp[jM,aA,aL,a,Rs.ag];unfold j8;dsimp[e,xu,Oi];rw[HL (by rw[N8];exact QK.mpr c),f];rfl
theorem tD(l:J (Z×Z))(k v:Z):(fe l k v).length<=l.length+1:=by unfold fe;split <;> simp
theorem xi:∀(us:J Jb)(l:J (Z×Z)),(us.foldl gZ l).length<=l.length+us.length
 |[],l=>ND _
 |j::r,l=>by have:=xi r (gZ l j);have:=sZ l j;rw[NY,NP];omega
theorem wY:∀(ps l:J (Z×Z)),(ps.foldl (λl p=>fe l p.1 p.2) l).length<=l.length+ps.length
 |[],l=>ND _
 |p::r,l=>by have:=wY r (fe l p.1 p.2);have:=tD l p.1 p.2;rw[NY,NP];omega
theorem Cn(us:J Jb):(aR us).length<=us.length:=by have:=xi us [];unfold aR;simpa using this
theorem nQ(us:J Jb):(bE us).length<=us.length:=by have:=wY (us.map λj=>(j.num,j.rank)) [];unfold bE mE;simpa using this
theorem Gj(h:∃n:Z,dIx z7 (.int t)=⇑n):dIx z7 (.int t)=⇑(dE z7 t):=by obtain⟨n,e⟩:=h;unfold dE;dsimp[e]
theorem L4(h:g δ=.ok (dfD l)):lh g δ=.ok (l.map λp=>.int p.1):=by unfold lh;rw[h,Rs.ag];dsimp[oM]
theorem J9(ha:a δ=.ok (.int n))(h:g δ=.ok (dfD l)):qZ a g δ=.ok (.bool (!l.any λp=>decide (p.2=n))):=by unfold qZ;rw[ha,h,Rs.ag,Rs.ag];dsimp[oM]
section
variable {len:Qn}
theorem ChO.look(C:ChO es rs sp z7 ts)(a:j∈ts)(b:j.held=Y T):a8 (aR ts) T=Y j.num:=by
 rw[k8 C.one];unfold f6;rw[Oi];cases q:ts.find? (λk=>k.held==Y T) with
 |none=>exact Qr (by rw[b];exact QF _) (OJ.mp q j a)
 |some k =>have:=C.one k (Oo q) j a T (by simpa using P9 q) b;show Y k.num=Y j.num;rw[this]
def hiR:Ds->Sr:=(az (dN [7,10] (lh (ae 6)) (aP 8) hiB)
 (nZ 7 (az (aW [10] 9 (gL (aO 14 (bx (ae 4)) aZ (cQ #[0,gDI (ae 7) (ae 14),gF oz #[0,qZ (ae 14) (ae 6)],14]) aF)))
 (a9 (g2 dIx (gF j8 #[0,9]) ↑2)))))
theorem HY(C:ChO es rs sp z7 ts)(c:ts≠[]):hiR (chD (aj es) (ai rs) len (.list (sp.map FC)) (.list (ts.map λj=>.int j.num)) z7 (aR ts) (bE ts) x8 x9 x10 x11 x12 x13)=.rt (.int (eZ (eV z7) ts).num):=by
 have l1:=Cn ts;have l2:=nQ ts;have few:=C.few;obtain⟨a,e1⟩:=AY (E:=aj es) (R:=ai rs) (D':=.list (sp.map FC)) (T:=.list (ts.map λj=>.int j.num)) (z7:=z7) (len:=len) (hl:=aR ts) (x9:=x9) (x10:=x10) (x11:=x11) (x12:=x12) (x13:=x13) (aR ts) (bE ts) x8 (λp hp=>by
  rcases lU ts [] hp with⟨j,b,h1,h2⟩|h
  .refine⟨?_,?_,Gj ((C.cur j b).2.held _ h1)⟩
   .rw[<-h2];exact C.look b h1
   .rw[<-h2,eC C.nd b];rfl
  .cases h) ⋯
 have e:dN [7,10] (lh (ae 6)) (aP 8) hiB (chD (aj es) (ai rs) len (.list (sp.map FC)) (.list (ts.map λj=>.int j.num)) z7 (aR ts) (bE ts) x8 x9 x10 x11 x12 x13)=.nx (chD (aj es) (ai rs) len (.list (sp.map FC)) (.list (ts.map λj=>.int j.num)) z7 (aR ts) (placesH z7 ts) a x9 x10 x11 x12 x13):=by refine (lr ?_).trans e1;exact L4 rfl
 have i:aO 14 (bx (ae 4)) aZ (cQ #[0,gDI (ae 7) (ae 14),gF oz #[0,qZ (ae 14) (ae 6)],14]) aF (mask [10] (chD (aj es) (ai rs) len (.list (sp.map FC)) (.list (ts.map λj=>.int j.num)) z7 (aR ts) (placesH z7 ts) a x9 x10 x11 x12 x13))=.ok (ts.map λj=>mV (mM z7 j)):=nE C.nd rfl rfl C.few λj b=>by
  show cQ #[0,gDI (ae 7) (ae 14),gF oz #[0,qZ (ae 14) (ae 6)],14] #[3,Y (.str len),↥(sp.map FC),↥(ts.map λj=>.int j.num),Y z7,Y (dfD (aR ts)),Y (eY (placesH z7 ts)),a,x9,S,x11,x12,x13,⇑j.num]=_;have l:gDI (ae 7) (ae 14) #[3,Y (.str len),↥(sp.map FC),↥(ts.map λj=>.int j.num),Y z7,Y (dfD (aR ts)),Y (eY (placesH z7 ts)),a,x9,S,x11,x12,x13,⇑j.num]=.ok (.int (kH z7 j)):=Aa rfl rfl (uV C.nd C.one b);have m:qZ (ae 14) (ae 6) #[3,Y (.str len),↥(sp.map FC),↥(ts.map λj=>.int j.num),Y z7,Y (dfD (aR ts)),Y (eY (placesH z7 ts)),a,x9,S,x11,x12,x13,⇑j.num]=.ok (.bool (!j.held.isSome)):=by rw[<-BI C.nd C.one b];exact J9 rfl rfl
  have n:oz [.bool (!j.held.isSome)]=⇑(if j.held.isSome then 0 else 1):=by cases j.held <;> rfl
  dsimp[jw,aA,aL,l,jM,m,n,aC,aE,Rs.ag,Rs.ak];rfl
 have s2:aW [10] 9 (gL (aO 14 (bx (ae 4)) aZ (cQ #[0,gDI (ae 7) (ae 14),gF oz #[0,qZ (ae 14) (ae 6)],14]) aF)) (chD (aj es) (ai rs) len (.list (sp.map FC)) (.list (ts.map λj=>.int j.num)) z7 (aR ts) (placesH z7 ts) a x9 x10 x11 x12 x13)=.nx (chD (aj es) (ai rs) len (.list (sp.map FC)) (.list (ts.map λj=>.int j.num)) z7 (aR ts) (placesH z7 ts) a ↥(ts.map λj=>mV (mM z7 j)) x10 x11 x12 x13) :=
  eU (show 9<14 by decide) (by unfold gL;rw[i];rfl)
 have o:=Ao (g:=ae 9) (δ:=chD (aj es) (ai rs) len (.list (sp.map FC)) (.list (ts.map λj=>.int j.num)) z7 (aR ts) (placesH z7 ts) a ↥(ts.map λj=>mV (mM z7 j)) x10 x11 x12 x13) rfl c (Bx (z7:=z7) c C.up);have q:a9 (g2 dIx (gF j8 #[0,9]) ↑2) (chD (aj es) (ai rs) len (.list (sp.map FC)) (.list (ts.map λj=>.int j.num)) z7 (aR ts) (placesH z7 ts) a ↥(ts.map λj=>mV (mM z7 j)) x10 x11 x12 x13)=.rt (.int (eZ (eV z7) ts).num):=by rw[c7,a6 (f:=dIx) o rfl rfl];rfl
 unfold hiR;rw[aN e];unfold nZ;rw[show (chD (aj es) (ai rs) len (.list (sp.map FC)) (.list (ts.map λj=>.int j.num)) z7 (aR ts) (placesH z7 ts) a x9 x10 x11 x12 x13)[7]?=Y (Y (eY (placesH z7 ts))) from rfl];dsimp[aN s2,q]
end
def asB(cs:Cs):Ds->Sr:=(az (lV [7,10] (b9 [12,8,13]) (ao (ba cs) #[0,g2 dIx (ae 0) (ae 11),g2 dIx (ae 3) (ae 11)]))
 (sIf (rH (gT (g2 dEq (ae 13) ↑0)) (gT (g2 uI (ae 8) (ae 6)))) (sIf (gT (g2 dEq (ae 2) (gC (.str "asked")))) (gX 7 (gDF (ae 6) (ae 8)) (gF jH #[0,gDI (ae 7) (gDF (ae 6) (ae 8)),iL (ae 1) (ae 11)])) aT) (gx [7,10] 10 (ae 11))))
def asS(ts:J Jb)(asked:Qo)(l:J (Z×Z))(j:Jb):J (Z×Z):=if asked=true then rF ts l j else l
def leS(ts:J Jb)(l:J L)(j:Jb):J PyData:=if e9 ts j=true then l++[.int j.num] else l
theorem K6{o:F1 Z}:uI (bc o) (dfD l)=Y (.bool (o.bind λt=>a8 l t).isSome):=by unfold uI;rw[oM];cases o <;> rfl
theorem Jm{d:L}(ha:a δ=.ok (ai rs))(c:b δ=.ok (.int n))(h:iI (rs.map FC) (.int n)=Y d):iL a b δ=.ok d:=by unfold iL;rw[ha,Rs.ag];show (b δ).bind (λy=>Rs.dS (iI (rs.map FC) y))=_;rw[c,Rs.ag,h];rfl
section
variable {len:Qn}
theorem FZ(C:ChO es rs sp z7 ts)(lo:ko len)(m:j∈ts){pl:J (Z×Z)}{left:J L}(hp:∀k∈ts,(a8 pl k.num).isSome)(p:pl.length<1000000)(e:left.length<1000000)(x8 x9 x12 x13:F1 L) :
  ∃r g h,asB cs (chD (aj es) (ai rs) len (.list (sp.map FC)) (.list (ts.map λj=>.int j.num)) z7 (aR ts) pl x8 x9 ↥left ⇑j.num x12 x13) =
   .nx (chD (aj es) (ai rs) len (.list (sp.map FC)) (.list (ts.map λj=>.int j.num)) z7 (aR ts) (asS ts (len==("asked":Qn)) pl j) r x9 ↥(leS ts left j) ⇑j.num g h):=by
 obtain⟨cu,ok⟩:=C.cur j m;have s:lV [7,10] (b9 [12,8,13]) (ao (ba cs) #[0,g2 dIx (ae 0) (ae 11),g2 dIx (ae 3) (ae 11)]) (chD (aj es) (ai rs) len (.list (sp.map FC)) (.list (ts.map λj=>.int j.num)) z7 (aR ts) pl x8 x9 ↥left ⇑j.num x12 x13) =
   .nx (chD (aj es) (ai rs) len (.list (sp.map FC)) (.list (ts.map λj=>.int j.num)) z7 (aR ts) pl (Y (bc j.tool)) x9 ↥left ⇑j.num ⇑(j.part:Z) ⇑(j.spent:Z)) :=
  tup_is (IB cu ok rfl rfl rfl) rfl
 refine⟨Y (bc j.tool),⇑(j.part:Z),⇑(j.spent:Z),?_⟩;unfold asB;rw[aN s];have u:gT (g2 dEq (ae 13) ↑0) (chD (aj es) (ai rs) len (.list (sp.map FC)) (.list (ts.map λj=>.int j.num)) z7 (aR ts) pl (Y (bc j.tool)) x9 ↥left ⇑j.num ⇑(j.part:Z) ⇑(j.spent:Z))=.ok ((j.spent:Z)==0):=by have:=a6 (f:=dEq) (a:=ae 13) (b:=↑0) (δ:=chD (aj es) (ai rs) len (.list (sp.map FC)) (.list (ts.map λj=>.int j.num)) z7 (aR ts) pl (Y (bc j.tool)) x9 ↥left ⇑j.num ⇑(j.part:Z) ⇑(j.spent:Z)) rfl rfl (r8 (j.spent:Z) 0);rw[iM,this,Rs.ag,bX]
 have v:gT (g2 uI (ae 8) (ae 6)) (chD (aj es) (ai rs) len (.list (sp.map FC)) (.list (ts.map λj=>.int j.num)) z7 (aR ts) pl (Y (bc j.tool)) x9 ↥left ⇑j.num ⇑(j.part:Z) ⇑(j.spent:Z))=.ok (f6 ts j.tool).isSome:=by
  have:=a6 (f:=uI) (a:=ae 8) (b:=ae 6) (δ:=chD (aj es) (ai rs) len (.list (sp.map FC)) (.list (ts.map λj=>.int j.num)) z7 (aR ts) pl (Y (bc j.tool)) x9 ↥left ⇑j.num ⇑(j.part:Z) ⇑(j.spent:Z)) rfl rfl (K6 (o:=j.tool));rw[iM,this,Rs.ag,bX];congr 1;cases q:j.tool with
  |none=>rfl
  |some t=>rw[Oi,k8 C.one,PR]
 have app:gx [7,10] 10 (ae 11) (chD (aj es) (ai rs) len (.list (sp.map FC)) (.list (ts.map λj=>.int j.num)) z7 (aR ts) pl (Y (bc j.tool)) x9 ↥left ⇑j.num ⇑(j.part:Z) ⇑(j.spent:Z))=.nx (chD (aj es) (ai rs) len (.list (sp.map FC)) (.list (ts.map λj=>.int j.num)) z7 (aR ts) pl (Y (bc j.tool)) x9 ↥(left++[.int j.num]) ⇑j.num ⇑(j.part:Z) ⇑(j.spent:Z)):=by unfold gx;rw[show (chD (aj es) (ai rs) len (.list (sp.map FC)) (.list (ts.map λj=>.int j.num)) z7 (aR ts) pl (Y (bc j.tool)) x9 ↥left ⇑j.num ⇑(j.part:Z) ⇑(j.spent:Z))[10]?=Y ↥left from rfl];show (if left.length<1000000 then Sr.nx _ else Sr.no)=_;rw[HL e];rfl
 have free:f6 ts j.wanted=S->asS ts (len==("asked":Qn)) pl j=pl/\leS ts left j=left++[.int j.num]:=λz=>by unfold asS rF leS e9;rw[z];refine⟨?_,HL rfl⟩;split <;> rfl
 rw[fm,yB,u,Rs.ag];by_cases z:j.spent=0
 .have c:j.wanted=j.tool:=by unfold Jb.wanted;rw[HL z]
  rw[show ((j.spent:Z)==0)=true by rw[z];rfl,HL rfl,v,av];cases q:f6 ts j.tool with
  |none =>obtain⟨f1,f2⟩:=free (by rw[c,q]);rw[f1,f2];exact app
  |some o =>
   rw[HL (show (Y o).isSome=true from rfl)];obtain⟨t,w,x⟩:=Og.mp q;have n:=tq q;have A:o.held=Y t:=by simpa using P9 x
   obtain⟨a,ha⟩:=OW.mp (hp o n);have B:leS ts left j=left:=by unfold leS e9;rw[c,q];rfl
   have D:gT (g2 dEq (ae 2) (gC (.str "asked"))) (chD (aj es) (ai rs) len (.list (sp.map FC)) (.list (ts.map λj=>.int j.num)) z7 (aR ts) pl (Y (bc j.tool)) x9 ↥left ⇑j.num ⇑(j.part:Z) ⇑(j.spent:Z))=.ok (len==("asked":Qn)):=by have:=a6 (f:=dEq) (a:=ae 2) (b:=gC (.str "asked")) (δ:=chD (aj es) (ai rs) len (.list (sp.map FC)) (.list (ts.map λj=>.int j.num)) z7 (aR ts) pl (Y (bc j.tool)) x9 ↥left ⇑j.num ⇑(j.part:Z) ⇑(j.spent:Z)) rfl rfl (eq_str lo.sh Fy);rw[iM,this,Rs.ag,bX]
   rw[fm,D,av,B];unfold asS;cases y:(len==("asked":Qn)) with
   |false=>rw[I' NL,I' NL];rfl
   |true =>
    rw[HL rfl,HL rfl];have g1:gDF (ae 6) (ae 8) (chD (aj es) (ai rs) len (.list (sp.map FC)) (.list (ts.map λj=>.int j.num)) z7 (aR ts) pl (Y (bc j.tool)) x9 ↥left ⇑j.num ⇑(j.part:Z) ⇑(j.spent:Z))=.ok (.int o.num):=by rw[w];exact Iz rfl rfl (C.look n A)
    have i:=Aa (go:=ae 7) rfl g1 ha;have E:iL (ae 1) (ae 11) (chD (aj es) (ai rs) len (.list (sp.map FC)) (.list (ts.map λj=>.int j.num)) z7 (aR ts) pl (Y (bc j.tool)) x9 ↥left ⇑j.num ⇑(j.part:Z) ⇑(j.spent:Z))=.ok (.int j.rank):=Jm rfl rfl (C.ix j m);rw[AU (l:=pl) rfl (An i E) g1 p];unfold rF;rw[c,q];dsimp[ha,P0];rfl
 .have c:j.wanted=none:=by unfold Jb.wanted;rw[I' z]
  rw[show ((j.spent:Z)==0)=false from by rw[QJ];omega,I' NL,av,I' NL];obtain⟨f1,f2⟩:=free (by rw[c];rfl);rw[f1,f2];exact app
end
theorem FL(h:(a8 l n).isSome):(a8 (asS ts asked l j) n).isSome:=by
 unfold asS rF;split
 .split
  .rw[kP];split
   .rfl
   .exact h
  .exact h
 .exact h
theorem GN:(asS ts asked l j).length<=l.length+1:=by
 unfold asS rF;split
 .split
  .exact tD _ _ _
  .omega
 .omega
theorem Io{l:J L}:(leS ts l j).length<=l.length+1:=by
 unfold leS;split
 .simp
 .omega
theorem FI{ts:J Jb}:∀(us:J Jb)(l:J L),us.foldl (leS ts) l=l++(us.filter (e9 ts)).map λj=>.int j.num
 |[],l=>by simp
 |j::r,l=>by
  rw[NY,FI r,Pu];unfold leS;split
  .simp
  .rfl
theorem Lh:∀(us:J Jb)(l:J (Z×Z)),us.foldl (asS ts asked) l=if asked=true then us.foldl (rF ts) l else l:=by
 intro us l;cases asked with
 |true=>rw[HL rfl];rfl
 |false =>
  rw[I' NL]
  induction us generalizing l with
  |nil=>rfl
  |cons j r ih=>rw[NY];exact ih l
section
variable {len:Qn}
theorem zZ(C:ChO es rs sp z7 ts)(lo:ko len){x9:F1 L}:∀(us:J Jb)(pl:J (Z×Z))(left:J L)(x8 x11 x12 x13:F1 L),(∀j∈us,j∈ts)->(∀k∈ts,(a8 pl k.num).isSome)->pl.length+us.length<1000000->left.length+us.length<1000000 ->
  ∃c f a b,forL (aP 11) (asB cs) (us.map λj=>.int j.num) (chD (aj es) (ai rs) len (.list (sp.map FC)) (.list (ts.map λj=>.int j.num)) z7 (aR ts) pl x8 x9 ↥left x11 x12 x13)=.nx (chD (aj es) (ai rs) len (.list (sp.map FC)) (.list (ts.map λj=>.int j.num)) z7 (aR ts) (us.foldl (asS ts (len==("asked":Qn))) pl) c x9 ↥(us.foldl (leS ts) left) f a b)
 |[],pl,left,x8,x11,x12,x13,_,_,_,_=>⟨x8,x11,x12,x13,rfl⟩
 |j::r,pl,left,x8,x11,x12,x13,hu,hp,h1,h2=>by rw[NP]at h1 h2;obtain⟨c,a,b,e⟩:=FZ (cs:=cs) C lo (hu j N1) (pl:=pl) (left:=left) hp ⋯ ⋯ x8 x9 x12 x13;have k1:=GN (ts:=ts) (asked:=(len==("asked":Qn))) (l:=pl) (j:=j);have k2:=Io (ts:=ts) (l:=left) (j:=j);obtain⟨n,g,h,i,o⟩:=zZ C lo (x9:=x9) r (asS ts (len==("asked":Qn)) pl j) (leS ts left j) c ⇑j.num a b (λk m=>hu k (N0 _ m)) (λk m=>FL (hp k m)) ⋯ ⋯;refine⟨n,g,h,i,?_⟩;rw[N2,fP (δ1:=chD (aj es) (ai rs) len (.list (sp.map FC)) (.list (ts.map λj=>.int j.num)) z7 (aR ts) pl x8 x9 ↥left ⇑j.num x12 x13) rfl e];exact o
end
def loR(cs:Cs):Ds->Sr:=(az (dh [7,10] 10 ah)
 (az (dN [7,10] (bx (ae 4)) (aP 11) (asB cs))
 (DJ 10 (nZ 7 (a9 (g2 dIx (gF j8 #[0,gL (aO 14 (bx (ae 10)) aZ (cQ #[0,gDI (ae 7) (ae 14),14]) aF)]) ↑1))))))
def bT(cs:Cs):Gf:=gfG 5 9 (fu cs (ba cs) (ck cs) aK)
section
variable {len:Qn}
theorem Ki(C:ChO es rs sp z7 ts)(lo:ko len)(o:ts≠[]):loR cs (chD (aj es) (ai rs) len (.list (sp.map FC)) (.list (ts.map λj=>.int j.num)) z7 (aR ts) (bE ts) x8 x9 x10 x11 x12 x13)=.rt (.int (eZ (nv (if (len==("asked":Qn))=true then p7 ts else [])) (ts.filter (e9 ts))).num):=by
 have l2:=nQ ts;have few:=C.few;obtain⟨m,a,b,c,e⟩:=zZ (cs:=cs) C lo (x9:=x9) ts (bE ts) [] x8 x11 x12 x13 (λ_ h=>h) (λk p=>by rw[eC C.nd p];rfl) ⋯ (by rw[OE];omega);rw[Lh,FI,OF]at e;have ep:(if (len==("asked":Qn))=true then ts.foldl (rF ts) (bE ts) else bE ts)=lY ts (len==("asked":Qn)):=rfl;rw[ep]at e;have q:dh [7,10] 10 ah (chD (aj es) (ai rs) len (.list (sp.map FC)) (.list (ts.map λj=>.int j.num)) z7 (aR ts) (bE ts) x8 x9 x10 x11 x12 x13)=.nx (chD (aj es) (ai rs) len (.list (sp.map FC)) (.list (ts.map λj=>.int j.num)) z7 (aR ts) (bE ts) x8 x9 ↥[] x11 x12 x13):=mI (show 10<14 by decide) rfl;have s2:=(lr (EE:=[7,10]) (src:=bx (ae 4)) (tgt:=aP 11) (body:=asB cs) (δ:=chD (aj es) (ai rs) len (.list (sp.map FC)) (.list (ts.map λj=>.int j.num)) z7 (aR ts) (bE ts) x8 x9 ↥[] x11 x12 x13) rfl).trans e;have h1:=vL o;have sub:(ts.filter (e9 ts)).Sublist ts:=TX;have look:∀j∈ts.filter (e9 ts),a8 (lY ts (len==("asked":Qn))) j.num=Y ((a8 (if (len==("asked":Qn))=true then p7 ts else []) j.num).getD j.rank):=λj n=>vi C.nd _ (NK.mp n).1
 have nd:((ts.filter (e9 ts)).map (·.num)).Nodup:=C.nd.sublist (sub.map _);have up:(ts.filter (e9 ts)).Pairwise λi j=>i.num<j.num:=C.up.sublist sub
 have r:(ts.filter (e9 ts)).length<=1000:=OG sub.length_le few;generalize (if (len==("asked":Qn))=true then p7 ts else [])=l at *;generalize ts.filter (e9 ts)=us at *;generalize lY ts (len==("asked":Qn))=pl at *;have s:aO 14 (bx (ae 10)) aZ (cQ #[0,gDI (ae 7) (ae 14),14]) aF (chD (aj es) (ai rs) len (.list (sp.map FC)) (.list (ts.map λj=>.int j.num)) z7 (aR ts) pl m x9 ↥(us.map λj=>.int j.num) a b c)=.ok (us.map λj=>mV (qV l j)):=nE nd rfl rfl r λj n=>by show cQ #[0,gDI (ae 7) (ae 14),14] #[3,Y (.str len),↥(sp.map FC),↥(ts.map λj=>.int j.num),Y z7,Y (dfD (aR ts)),Y (eY pl),m,x9,↥(us.map λj=>.int j.num),a,b,c,⇑j.num]=_;have t:gDI (ae 7) (ae 14) #[3,Y (.str len),↥(sp.map FC),↥(ts.map λj=>.int j.num),Y z7,Y (dfD (aR ts)),Y (eY pl),m,x9,↥(us.map λj=>.int j.num),a,b,c,⇑j.num]=_:=Aa rfl rfl (look j n);dsimp[jw,aA,aL,t,aC,aE,Rs.ag,Rs.ak];rfl
 have u:=Ao (g:=gL (aO 14 (bx (ae 10)) aZ (cQ #[0,gDI (ae 7) (ae 14),14]) aF)) (δ:=chD (aj es) (ai rs) len (.list (sp.map FC)) (.list (ts.map λj=>.int j.num)) z7 (aR ts) pl m x9 ↥(us.map λj=>.int j.num) a b c) (by unfold gL;rw[s];rfl) h1 (Bs (l:=l) h1 up);have v:a9 (g2 dIx (gF j8 #[0,gL (aO 14 (bx (ae 10)) aZ (cQ #[0,gDI (ae 7) (ae 14),14]) aF)]) ↑1) (chD (aj es) (ai rs) len (.list (sp.map FC)) (.list (ts.map λj=>.int j.num)) z7 (aR ts) pl m x9 ↥(us.map λj=>.int j.num) a b c)=.rt (.int (eZ (nv l) us).num):=by rw[c7,a6 (f:=dIx) u rfl rfl];rfl
 unfold loR;rw[aN q,aN s2];unfold DJ nZ;rw[show (chD (aj es) (ai rs) len (.list (sp.map FC)) (.list (ts.map λj=>.int j.num)) z7 (aR ts) pl m x9 ↥(us.map λj=>.int j.num) a b c)[10]?=Y ↥(us.map λj=>.int j.num) from rfl,show (chD (aj es) (ai rs) len (.list (sp.map FC)) (.list (ts.map λj=>.int j.num)) z7 (aR ts) pl m x9 ↥(us.map λj=>.int j.num) a b c)[7]?=Y (Y (eY pl)) from rfl];dsimp[v]
end
theorem law_choose_is{len:Qn}(C:ChO es rs sp z7 ts)(lo:ko len)(h:aK [aj es,ai rs]=.ok z7)(c:ts≠[]):bT cs [aj es,ai rs,.str len,.list (sp.map FC),.list (ts.map λj=>.int j.num)]=.ok (.int (bZ z7 len ts).num):=by
 have i:fu cs (ba cs) (ck cs) aK=az (aW [7,10] 5 (ao aK #[0,0,1]))
  (az (aW [7,10] 6 (ao (ck cs) #[0,0,3,4]))
  (az (rT [7,10] 7 (gL (aO 14 (bx (ae 4)) aZ (cQ #[0,14,iL (ae 1) (ae 14)]) aF)))
  (az (sIf (gT (g2 dEq (ae 2) (gC (.str "high")))) hiR aT) (loR cs)))):=rfl
 have l:aW [7,10] 5 (ao aK #[0,0,1]) #[3,Y (.str len),↥(sp.map FC),↥(ts.map λj=>.int j.num),S,S,S,S,S,S,S,S,S]=.nx #[3,Y (.str len),↥(sp.map FC),↥(ts.map λj=>.int j.num),Y z7,S,S,S,S,S,S,S,S] :=
  eU (show 5<14 by decide) (cG (ds:=[aj es,ai rs]) rfl h)
 have m:=law_held_is (cs:=cs) (ts:=ts) (es:=es) (sp:=sp) C.cur C.few;have ha:(af (ae 0) #[0,3,4]) (mask [7,10] #[3,Y (.str len),↥(sp.map FC),↥(ts.map λj=>.int j.num),Y z7,S,S,S,S,S,S,S,S])=.ok [aj es,.list (sp.map FC),.list (ts.map λj=>.int j.num)]:=rfl;have hc:ao (ck cs) #[0,0,3,4] (mask [7,10] #[3,Y (.str len),↥(sp.map FC),↥(ts.map λj=>.int j.num),Y z7,S,S,S,S,S,S,S,S])=.ok (dfD (aR ts)):=cG ha m;have s2:aW [7,10] 6 (ao (ck cs) #[0,0,3,4]) #[3,Y (.str len),↥(sp.map FC),↥(ts.map λj=>.int j.num),Y z7,S,S,S,S,S,S,S,S]=.nx #[3,Y (.str len),↥(sp.map FC),↥(ts.map λj=>.int j.num),Y z7,Y (dfD (aR ts)),S,S,S,S,S,S,S] :=
  eU (show 6<14 by decide) hc
 have n:=BB (len:=len) C (x8:=S) (x9:=S) (x10:=S) (x11:=S) (x12:=S) (x13:=S);have g:gT (g2 dEq (ae 2) (gC (.str "high"))) (chD (aj es) (ai rs) len (.list (sp.map FC)) (.list (ts.map λj=>.int j.num)) z7 (aR ts) (bE ts) S S S S S S)=.ok (len==("high":Qn)):=by have:=a6 (f:=dEq) (a:=ae 2) (b:=gC (.str "high")) (δ:=chD (aj es) (ai rs) len (.list (sp.map FC)) (.list (ts.map λj=>.int j.num)) z7 (aR ts) (bE ts) S S S S S S) rfl rfl (eq_str lo.sh Aw);rw[iM,this,Rs.ag,bX]
 show bo (fu cs (ba cs) (ck cs) aK #[3,Y (.str len),↥(sp.map FC),↥(ts.map λj=>.int j.num),S,S,S,S,S,S,S,S,S])=_;rw[i,aN l,aN s2,aN n];unfold bZ;cases z:(len==("high":Qn)) with
 |true =>
  have e:sIf (gT (g2 dEq (ae 2) (gC (.str "high")))) hiR aT (chD (aj es) (ai rs) len (.list (sp.map FC)) (.list (ts.map λj=>.int j.num)) z7 (aR ts) (bE ts) S S S S S S)=.rt (.int (eZ (eV z7) ts).num):=by rw[fm,g,z,av,HL rfl];exact HY C c
  rw[bg,e,HL rfl];rfl
 |false =>
  have e:sIf (gT (g2 dEq (ae 2) (gC (.str "high")))) hiR aT (chD (aj es) (ai rs) len (.list (sp.map FC)) (.list (ts.map λj=>.int j.num)) z7 (aR ts) (bE ts) S S S S S S)=.nx (chD (aj es) (ai rs) len (.list (sp.map FC)) (.list (ts.map λj=>.int j.num)) z7 (aR ts) (bE ts) S S S S S S):=by rw[fm,g,z,av,I' NL];rfl
  rw[aN e,Ki C lo c,I' NL];rfl
theorem wK{α:Type}{f:Jb->α}{b:Jb}:∀{js:J Jb},(js.map (·.num)).Nodup->b∈js->∀(i:O)(hi:i<js.length),js[i].num=b.num->(cN b js).map f=(js.map f).set i (f b.next)
 |[],_,c,_,_,_=>by cases c
 |j::r,nd,c,i,hi,hn=>by
  rcases kx nd c with⟨l,e⟩|⟨g,h,e⟩
  .rw[N2,O7]at nd;cases i with
   |zero=>rw[e,N2,N2,Pn]
   |succ i =>
    have a:i<r.length:=by simpa using hi
    have hn:r[i].num=b.num:=hn;exact (nd.1 (NH.mpr ⟨r[i],NV a,by rw[hn,l]⟩)).elim
  .cases i with
   |zero=>exact (g hn).elim
   |succ i =>
    have a:i<r.length:=by simpa using hi
    have hn:r[i].num=b.num:=hn;rw[N2,O7]at nd;rw[e,N2,N2,Pm,wK nd.2 h i a hn]
theorem yx(h:ks.map dk=js.map dk)(hp:∀(i:O)(h:i<js.length),js[i].parts=(au es (i:Z)).parts):∀(i:O)(h:i<ks.length),ks[i].parts=(au es (i:Z)).parts:=λi hi=>by
 have hl:=lR h;have e:(ks.map dk)[i]?=(js.map dk)[i]?:=by rw[h]
 rw[NA,NA,My hi,My (hl▸hi)]at e;have e2:dk ks[i]=dk (js[i]'(hl▸hi)):=N4 e;have:=congrArg (·.2.1) e2;exact this.trans (hp i (hl▸hi))
theorem Je(h:JOk z7 j):((lawAt j.parts 0 (j.cur+1)).1≠j.parts.length/\j.next.cur=j.cur+1/\j.next.job=j.job)\/((lawAt j.parts 0 (j.cur+1)).1=j.parts.length/\j.next.cur=0/\j.next.job=j.job+1):=by
 have a:=h.pt;have wb:j.len=j.parts[j.part].1:=by unfold Jb.len;rw[My a];rfl
 have hsp:=h.sp;have htk:=eE a;by_cases z:(j.spent:Z)+1=j.len
 .have e:j.cur+1=bj (j.parts.take (j.part+1)):=by unfold Jb.cur;omega
  by_cases y:j.part+1=j.parts.length
  .have e1:bj (j.parts.take (j.part+1))=bj j.parts:=by rw[y,UR]
   have b:j.next={j with spent:=0,part:=0,job:=j.job+1}:=by unfold Jb.next Jb.step1;rw[HL z];unfold Jb.step2;rw[HL (show ({j with spent:=0,part:=j.part+1}:Jb).part=({j with spent:=0,part:=j.part+1}:Jb).parts.length from y)]
   refine .inr ⟨?_,by rw[b];rfl,by rw[b]⟩;rw[e,e1,lawAt_end 0 h.ln,Ob]
  .have c:j.part+1<j.parts.length:=⋯
   have b:j.next={j with spent:=0,part:=j.part+1}:=by unfold Jb.next Jb.step1;rw[HL z];unfold Jb.step2;rw[I' (show ¬ ({j with spent:=0,part:=j.part+1}:Jb).part=({j with spent:=0,part:=j.part+1}:Jb).parts.length from y)]
   refine .inl ⟨?_,?_,by rw[b]⟩
   .have:=lawAt_in 0 c (s:=0) h.ln ⋯ (by have:=h.ln _ (NV c);omega);rw[Ob,UC]at this;rw[e,this];exact y
   .rw[b];show bj (j.parts.take (j.part+1))+((0:O):Z)=_;rw[e];omega
 .have b:j.next={j with spent:=j.spent+1}:=by unfold Jb.next Jb.step1;rw[I' z];unfold Jb.step2;rw[I' (show ¬ ({j with spent:=j.spent+1}:Jb).part=({j with spent:=j.spent+1}:Jb).parts.length from NJ h.pt)]
  refine .inl ⟨?_,?_,by rw[b]⟩
  .have:=lawAt_in 0 a (s:=(j.spent:Z)+1) h.ln ⋯ ⋯;rw[Ob]at this;unfold Jb.cur;rw[VD,this];exact NJ a
  .rw[b];show bj (j.parts.take j.part)+((j.spent+1:O):Z)=bj (j.parts.take j.part)+(j.spent:Z)+1;omega
theorem xK{k:O}{d:L}(hd:δ[i]?=Y ↥ds)(b:ge δ=.ok d)(c:gk δ=.ok (.int (k:Z)))(hl:k<ds.length)(hn:dM d=true):jA i gk ge δ=.nx (δ.set i ↥(ds.set k d)):=by
 have a:ixN ds.length (k:Z)=Y k:=by unfold ixN;rw[HL (PJ k),HL ⋯,O2]
 unfold jA;rw[hd];dsimp[b,c,av,a];rw[HL hn]
theorem Ip{d:L}(hd:δ[i]?=Y ↥ds)(a:g δ=.ok d)(hn:dM d=true)(hl:ds.length<1000000):qz i g δ=.nx (δ.set i ↥(ds++[d])):=by unfold qz;rw[hd];dsimp[a,av];rw[HL ⟨hn,hl⟩]
theorem Fl{d:L}(hd:δ[i]?=Y ↥ds)(a:g (mask EE δ)=.ok d)(hl:ds.length<1000000):gx EE i g δ=.nx (δ.set i ↥(ds++[d])):=by unfold gx;rw[hd];dsimp[a,av];rw[HL hl]
def pE(js:J Jb):PyData:=.list (js.map λj=>.int (j.job:Z))
def sA(js:J Jb):PyData:=.list ((js.map Jb.cur).map FC)
def rlD(E R:L)(len:Qn)(js:J Jb)(told:J L)(x7 x8 x9:F1 L):Ds:=[Y E,Y R,Y (lE js),Y (.str len),Y (pE js),Y (sA js),↥told,x7,x8,x9]
structure RnO(es:J Er)(rs:J Z)(z7:L)(t:Z)(js:J Jb):Prop where
 iv:IvJ z7 t js
 hv:HvJ z7 js
 sx:Sx js
 ln:js.length=es.length
 pa:∀(i:O)(h:i<js.length),js[i].parts=(au es (i:Z)).parts
 rk:∀j∈js,j.rank=(placeOf rs j.num:Z)
theorem oO(h:i<js.length):dIx (pE js) (.int (i:Z))=⇑(js[i].job:Z):=gK (by rw[NA,My h];rfl)
theorem Ay(h:i<js.length):dIx (sA js) (.int (i:Z))=Y (.int js[i].cur):=gK (by rw[NA,NA,My h];rfl)
theorem Gi(r:J Z):bp [ff r]=⇑(r.length:Z):=by unfold ff;rw[Df,N8]
def si(n:O):Ds->Rs Bool:=gT (g2 dLt (g2 dIx (ae 4) (ae n)) (gF bp #[0,g2 dIx (ae 2) (ae n)]))
theorem zJ(h:i<js.length)(ok:JOk z7 js[i]){n:O}(b:ae 4 δ=.ok (pE js))(h2:ae 2 δ=.ok (lE js))(hn:ae n δ=.ok (.int (i:Z))):si n δ=.ok (!js[i].done):=by
 have g1:=a6 b hn (oO h);have a:=a6 h2 hn (Ac h);have c:gF bp #[0,g2 dIx (ae 2) (ae n)] δ=.ok (.int (js[i].row.length:Z)):=by dsimp[jM,aA,aL,a,Rs.ag,Gi,Rs.ak]
 have e:=a6 (f:=dLt) g1 c (Kn _ _);unfold si;rw[iM,e,Rs.ag,bX];have:=ok.jb;unfold Jb.done;congr 1;by_cases z:js[i].job=js[i].row.length
 .rw[z,P' ⋯,QF];rfl
 .rw[Ql ⋯,show ((js[i].job:Z)==(js[i].row.length:Z))=false by rw[QJ];omega];rfl
theorem IY(l6:es.length<=6)(h:ae 0 δ=.ok (aj es)):dG #[0,gF bp #[0,0]] δ=.ok (bF 0 es.length):=by
 have a:=kA (j:=(es.length:Z)) ⋯ ⋯;rw[O2]at a;have hv:(af (gF bp #[0,0]) ah) δ=.ok [.int (es.length:Z)]:=by dsimp[aA,aL,jM,h,Rs.ag,JI,Rs.ak]
 rw[lQ,hv,Rs.ag,a]
def rC:Ds->Rs Bool:=gT (g2 dNe (gL (aO 10 (dG #[0,gF bp #[0,0]]) (si 10) (ae 10) aF)) (iY ah))
theorem xg(n:O):bF 0 n=((M' n).map λk:O=>(k:Z)).map L.int:=by unfold bF;rw[NO];exact NR λk _=>by show FC (0+(k:Z))=.int (k:Z);rw[Qj]
theorem Mi(EE:RnO es rs z7 t js)(l6:es.length<=6){len:Qn}{told:J L}:rC (rlD (aj es) R len js told x7 x8 x9)=.ok (!js.all Jb.done):=by
 have l:=um (n0:=10) (src:=dG #[0,gF bp #[0,0]]) (cond:=si 10) (elt:=ae 10) (δ:=rlD (aj es) R len js told x7 x8 x9) (p:=λd=>!(js.getD (deI d).toNat default).done) rfl (IY l6 rfl) (by rw[cL];omega) λd hd=>by
  obtain⟨i,hi⟩:=OU.mp hd;obtain⟨c,rfl⟩:=hV hi;have a:i<js.length:=by rw[EE.ln];exact c
  rw[Qj];refine⟨?_,rfl⟩;have:=zJ a (EE.iv.ok.ok _ (NV a)) (n:=10) (δ:=rlD (aj es) R len js told x7 x8 x9++[⇑(i:Z)]) rfl rfl rfl;rw[this];congr 2;show js[i].done=(js.getD ((i:Z)).toNat default).done;rw[O2,N9,My a];rfl
 rw[xg,Vf]at l;have hd:(((M' es.length).map λk:O=>(k:Z)).filter ((λd=>!(js.getD (deI d).toNat default).done)∘FC)=[])↔js.all Jb.done=true:=by
  rw[J.filter_eq_nil_iff,NT];constructor
  .intro h j m;obtain⟨i,hi,rfl⟩:=Od m;have:=h (i:Z) (NH.mpr ⟨i,Of.mpr (by rw[<-EE.ln];exact hi),rfl⟩);have e:(js.getD ((i:Z)).toNat default)=js[i]:=by rw[O2,N9,My hi];rfl
   have this:¬ (!(js.getD ((i:Z)).toNat default).done)=true:=this;rw[e]at this;cases q:js[i].done with
   |true=>rfl
   |false=>rw[q]at this;exact (this rfl).elim
  .intro h k o;obtain⟨i,hi,rfl⟩:=NH.mp o;have a:i<js.length:=by rw[EE.ln];exact Of.mp hi
   show ¬ (!(js.getD ((i:Z)).toNat default).done)=true;rw[O2,N9,My a];show ¬ (!js[i].done)=true;rw[h _ (NV a)];exact NL
 have hn:=Hj (((M' es.length).map λk:O=>(k:Z)).filter ((λd=>!(js.getD (deI d).toNat default).done)∘FC)) [];have g1:gL (aO 10 (dG #[0,gF bp #[0,0]]) (si 10) (ae 10) aF) (rlD (aj es) R len js told x7 x8 x9)=.ok (.list ((((M' es.length).map λk:O=>(k:Z)).filter ((λd=>!(js.getD (deI d).toNat default).done)∘FC)).map FC)):=by unfold gL;rw[l];rfl
 have g:=a6 (f:=dNe) (b:=iY ah) g1 (y:=.list []) rfl hn;unfold rC;rw[iM,g,Rs.ag,bX];refine congrArg (λb=>Rs.ok (!b)) ?_;by_cases z:js.all Jb.done=true
 .rw[z,Ql (hd.mpr z)]
 .rw[P' (λq=>z (hd.mp q))];cases q:js.all Jb.done with
  |true=>exact (z q).elim
  |false=>rfl
def rtB:Ds->Sr:=sIf (rH (si 8) (gT (g2 dLe (g2 dIx (g2 dIx (ae 2) (ae 8)) (g2 dIx (ae 4) (ae 8))) (gF bp #[0,6])))) (gx [4,5,6,7] 7 (ae 8)) aT
theorem FW(sx:Sx js):js.Pairwise λi j=>i.num<j.num:=by rw[OV];intro i j hi a h;rw[sx.num i hi,sx.num j a];omega
theorem RnO.cu(EE:RnO es rs z7 t js)(a:j∈js):BO es (js.map Jb.cur) j:=by
 obtain⟨i,hi,rfl⟩:=Od a;have hl:=EE.ln;refine⟨au es (i:Z),?_,(EE.pa i hi).symm,?_⟩
 .rw[EE.sx.num i hi];exact eQ ⋯ ⋯
 .rw[EE.sx.num i hi];exact Ay hi
theorem RnO.ch(EE:RnO es rs z7 t js)(l6:es.length<=6)(c:bK es.length rs)(told:J L):ChO es rs (js.map Jb.cur) z7 (aQ told js):=by
 have sub:(aQ told js).Sublist js:=TX;have hl:=EE.ln;refine⟨λj a=>⟨EE.cu (sub.subset a),EE.iv.ok.ok j (sub.subset a)⟩,?_,λj a=>?_,(FW EE.sx).sublist sub,λi hi j a=>EE.hv.one i (sub.subset hi) j (sub.subset a)⟩
 .have:=sub.length_le;omega
 .have b:=sub.subset a;rw[EE.rk j b];obtain⟨i,hi,rfl⟩:=Od b;have e:=EE.sx.num i hi;exact ie (c.mem ⋯ ⋯)
theorem F6{E:L}{len:Qn}{told us:J L}(hi:i<js.length)(ok:JOk z7 js[i])(hl:us.length<1000000) :
  rtB (rlD E R len js told ↥us ⇑(i:Z) x9)=.nx (rlD E R len js told ↥(us++(if js[i].there (told.length:Z)=true then [.int (i:Z)] else [])) ⇑(i:Z) x9):=by
 have h1:=zJ hi ok (n:=8) (δ:=rlD E R len js told ↥us ⇑(i:Z) x9) rfl rfl rfl;unfold rtB;rw[fm,yB,h1,Rs.ag];cases q:js[i].done with
 |true =>
  have e:js[i].there (told.length:Z)=false:=by
   unfold Jb.done at q;unfold Jb.there;have:js[i].job=js[i].row.length:=by have:=eq_of_beq q;omega
   rw[OD ⋯]
  rw[e,I' #[1],I' #[1],OL,av,I' #[1]];rfl
 |false =>
  have c:=zM ok q;have g1:=a6 (f:=dIx) (a:=ae 2) (b:=ae 8) (δ:=rlD E R len js told ↥us ⇑(i:Z) x9) rfl rfl (Ac hi);have h:=a6 (f:=dIx) (a:=ae 4) (b:=ae 8) (δ:=rlD E R len js told ↥us ⇑(i:Z) x9) rfl rfl (oO hi);have g:dIx (ff js[i].row) (.int (js[i].job:Z))=Y (.int js[i].row[js[i].job]):=gK (by rw[NA,My c];rfl);have j:=a6 g1 h g;have l:gF bp #[0,6] (rlD E R len js told ↥us ⇑(i:Z) x9)=.ok (.int (told.length:Z)):=rfl;have m:=a6 (f:=dLe) j l (Fm _ _);have e:js[i].there (told.length:Z)=decide (js[i].row[js[i].job]<=(told.length:Z)):=by unfold Jb.there;rw[My c]
  rw[HL #[1],iM,m,Rs.ag,bX,av,<-e];cases z:js[i].there (told.length:Z) with
  |true =>rw[HL rfl,HL rfl];exact Fl (ds:=us) (d:=.int (i:Z)) rfl rfl hl
  |false =>rw[I' NL,I' NL,OL];rfl
theorem Av{E R:L}{len:Qn}{js:J Jb}{told:J L}{x9:F1 L}{z7:L}(ok:∀j∈js,JOk z7 j):∀(ks:J O)(us:J L)(x8:F1 L)(b:∀k∈ks,k<js.length),us.length+ks.length<1000000 ->
  ∃c,forL (aP 8) rtB (ks.map λk:O=>.int (k:Z)) (rlD E R len js told ↥us x8 x9)=.nx (rlD E R len js told ↥(us++(ks.filter λk=>(js.getD k default).there (told.length:Z)).map λk:O=>.int (k:Z)) c x9)
 |[],us,x8,_,_=>⟨x8,by rw[J.filter_nil,OI,OL];rfl⟩
 |k::r,us,x8,b,hl=>by
  rw[NP]at hl;have a:=b k N1;have e:=F6 (E:=E) (R:=R) (len:=len) (told:=told) (us:=us) (x9:=x9) a (ok _ (NV a)) ⋯;obtain⟨c,g⟩:=Av (E:=E) (R:=R) (len:=len) (told:=told) (x9:=x9) ok r (us++(if js[k].there (told.length:Z)=true then [.int (k:Z)] else [])) ⇑(k:Z) (λk f=>b k (N0 _ f)) (by rw[NS];split <;> dsimp[Ou,OE] <;> omega);refine⟨c,?_⟩;have h:js.getD k default=js[k]:=by rw[N9,My a];rfl
  rw[N2,fP (δ1:=rlD E R len js told ↥us ⇑(k:Z) x9) rfl e,g,OK,Pu,h];cases js[k].there (told.length:Z) with
  |true=>rw[HL rfl,HL rfl];rfl
  |false=>rw[I' NL,I' NL];rfl
theorem zy(sx:Sx js)(told:J L):((M' js.length).filter λk=>(js.getD k default).there (told.length:Z)).map (λk:O=>FC (k:Z))=(aQ told js).map λj=>.int j.num:=by
 have e:(M' js.length).map (λk=>js.getD k default)=js:=Pw #[2] λi h1 h2=>by rw[PV,J.getElem_range,N9,My h2];rfl
 have h:aQ told js=((M' js.length).filter λk=>(js.getD k default).there (told.length:Z)).map λk=>js.getD k default:=by
  unfold aQ
  conv=>lhs;rw[<-e]
  rw[Vf];rfl
 rw[h,NO];refine NR λk b=>?_
 have a:=Of.mp (NK.mp b).1;show FC (k:Z)=.int (js.getD k default).num;rw[N9,My a];show FC (k:Z)=.int js[k].num;rw[sx.num k a]
def rW(cs:Cs):Ds->Sr:=sIf (gT (g2 dEq (g2 dIx (ao (ba cs) #[0,g2 dIx (ae 0) (ae 9),g2 dIx (ae 5) (ae 9)]) ↑0) (gF bp #[0,g2 dIx (g2 dIx (ae 0) (ae 9)) ↑3]))) (az (jA 5 (ae 9) ↑0)
 (jA 4 (ae 9) (g2 bq (g2 dIx (ae 4) (ae 9)) ↑1))) aT
def rV(cs:Cs):Ds->Sr:=az (pT 9 (ao (bT cs) #[0,0,1,3,5,7]))
 (az (qz 6 (cQ #[0,9,g2 dIx (ae 4) (ae 9)]))
 (az (jA 5 (ae 9) (g2 bq (g2 dIx (ae 5) (ae 9)) ↑1)) (rW cs)))
def rB(cs:Cs):Ds->Sr:=az (dh [4,5,6,7] 7 ah)
 (az (dN [4,5,6,7] (dG #[0,gF bp #[0,0]]) (aP 8) rtB)
 (sIf (gT (g2 dEq (ae 7) (iY ah))) (gx [4,5,6,7] 6 (gC .none)) (rV cs)))
def rlX(E R W:L)(len:Qn)(B' C told:J L)(x7 x8 x9:F1 L):Ds:=[Y E,Y R,Y W,Y (.str len),↥B',↥C,↥told,x7,x8,x9]
theorem set_same{f:α->β}{js:J α}(h:i<js.length){v:β}(e:f js[i]=v):(js.map f).set i v=js.map f:=by
 have h':i<(js.map f).length:=by rw[N8];exact h
 have:(js.map f)[i]=v:=by rw[PV];exact e
 rw[<-this,J.set_getElem_self]
section
theorem Mu(EE:RnO es rs z7 t js){b:Jb}(n:b∈js){len:Qn}{told:J L}:rW cs (rlX (aj es) R (lE js) len (js.map λj=>.int (j.job:Z)) (((js.map Jb.cur).map FC).set b.num.toNat (.int (b.cur+1))) told x7 x8 ⇑b.num)=.nx (rlD (aj es) R len (cN b js) told x7 x8 ⇑b.num):=by
 obtain⟨i,hi,e⟩:=Od n;have hn:b.num=(i:Z):=by rw[<-e];exact EE.sx.num i hi
 have hl:=EE.ln;have hok:=EE.iv.ok.ok b n;have hp:(au es (i:Z)).parts=b.parts:=by rw[<-e];exact (EE.pa i hi).symm
 have l:=BK (kG EE.iv.ok.nd n);have c:∀{α:Type}(f:Jb->α),(cN b js).map f=(js.map f).set i (f b.next):=λf=>wK EE.iv.ok.nd n i hi (by rw[e])
 have m:=Je hok;have g:(cN b js).map (λj=>FC j.cur)=(js.map λj=>FC j.cur).set i (.int b.next.cur):=c _;have h:(cN b js).map (λj=>FC (j.job:Z))=(js.map λj=>FC (j.job:Z)).set i (.int (b.next.job:Z)):=c _;have o:∀ks:J Jb,(ks.map Jb.cur).map FC=ks.map λj=>FC j.cur:=λks=>by rw[NO];rfl
 have wb:(js.map λj=>FC j.cur).length=js.length:=N8 _;have hlenJ:(js.map λj=>FC (j.job:Z)).length=js.length:=N8 _;have p:dIx (.list (js.map λj=>.int (j.job:Z))) (.int (i:Z))=⇑(b.job:Z):=by rw[<-e];exact oO hi
 unfold rlD pE sA;rw[l,o,o,g,h,hn,O2];clear g h c l o;have y:(js.map λj=>FC (j.job:Z)).set i (.int (b.job:Z))=js.map λj=>FC (j.job:Z):=set_same hi (by rw[e])
 generalize (js.map λj=>FC j.cur)=CL at *;generalize (js.map λj=>FC (j.job:Z))=JL at *;generalize lE js=W;have q:dIx (.list (CL.set i (.int (b.cur+1)))) (.int (i:Z))=⇑(b.cur+1):=gK (O4 ⋯);have hex:dIx (aj es) (.int (i:Z))=Y (au es (i:Z)).d:=eQ ⋯ ⋯;have g1:=a6 (f:=dIx) (a:=ae 0) (b:=ae 9) (δ:=rlX (aj es) R W len JL (CL.set i (.int (b.cur+1))) told x7 x8 ⇑(i:Z)) rfl rfl hex;have z:=a6 (f:=dIx) (a:=ae 5) (b:=ae 9) (δ:=rlX (aj es) R W len JL (CL.set i (.int (b.cur+1))) told x7 x8 ⇑(i:Z)) rfl rfl q;have ha:(af (g2 dIx (ae 0) (ae 9)) #[0,g2 dIx (ae 5) (ae 9)]) (rlX (aj es) R W len JL (CL.set i (.int (b.cur+1))) told x7 x8 ⇑(i:Z))=.ok [(au es (i:Z)).d,.int (b.cur+1)]:=by dsimp[aA,aL,g1,z,Rs.ag]
 have w:=cG ha (law_at_of (cs:=cs) (e:=au es (i:Z)) (s:=b.cur+1));rw[hp]at w;have A:=a6 (f:=dIx) (b:=↑0) w rfl (show dIx (Hq (lawAt b.parts 0 (b.cur+1))) (.int 0)=⇑((lawAt b.parts 0 (b.cur+1)).1:Z) from rfl);have x:=a6 (f:=dIx) (b:=↑3) g1 rfl (zw _);rw[hp]at x;have B:gF bp #[0,g2 dIx (g2 dIx (ae 0) (ae 9)) ↑3] (rlX (aj es) R W len JL (CL.set i (.int (b.cur+1))) told x7 x8 ⇑(i:Z))=.ok (.int (b.parts.length:Z)):=by dsimp[jM,aA,aL,x,Rs.ag,uf,N8,Rs.ak]
 have C:=a6 (f:=dEq) A B (r8 _ _);unfold rW;rw[fm,iM,C,Rs.ag,bX,av];rcases m with⟨h1,h2,r⟩|⟨h1,h2,r⟩
 .have u:(((lawAt b.parts 0 (b.cur+1)).1:Z)==(b.parts.length:Z))=false:=by rw[QJ];omega
  rw[u,I' NL,h2,r,y];rfl
 .have u:(((lawAt b.parts 0 (b.cur+1)).1:Z)==(b.parts.length:Z))=true:=by rw[h1];exact QF _
  rw[u,HL rfl,h2,r];have p1:jA 5 (ae 9) ↑0 (rlX (aj es) R W len JL (CL.set i (.int (b.cur+1))) told x7 x8 ⇑(i:Z))=.nx (rlX (aj es) R W len JL (CL.set i (.int 0)) told x7 x8 ⇑(i:Z)):=by have:=xK (i:=5) (gk:=ae 9) (ge:=↑0) (δ:=rlX (aj es) R W len JL (CL.set i (.int (b.cur+1))) told x7 x8 ⇑(i:Z)) (k:=i) (d:=.int 0) rfl rfl rfl (by rw[P7];omega) rfl;rw[J.set_set]at this;exact this
  have D:=a6 (f:=dIx) (a:=ae 4) (b:=ae 9) (δ:=rlX (aj es) R W len JL (CL.set i (.int 0)) told x7 x8 ⇑(i:Z)) rfl rfl p;have v:=a6 (f:=bq) (b:=↑1) D rfl (eO _ _);have p2:=xK (i:=4) (gk:=ae 9) (δ:=rlX (aj es) R W len JL (CL.set i (.int 0)) told x7 x8 ⇑(i:Z)) (k:=i) rfl v rfl ⋯ rfl;rw[aN p1,p2];rfl
theorem LD(EE:RnO es rs z7 t js)(l6:es.length<=6){len:Qn}{told:J L}(o:bK es.length rs)(lo:ko len)(p:aK [aj es,ai rs]=.ok z7)(m:aQ told js≠[])(hl:told.length<1000000):rV cs (rlD (aj es) (ai rs) len js told ↥((aQ told js).map λj=>.int j.num) x8 x9)=.nx (rlD (aj es) (ai rs) len (cN (bZ z7 len (aQ told js)) js) (told++[eX (bZ z7 len (aQ told js))]) ↥((aQ told js).map λj=>.int j.num) x8 (Y (.int (bZ z7 len (aQ told js)).num))):=by
 have hc:=law_choose_is (cs:=cs) (EE.ch l6 o told) lo p m;have n:bZ z7 len (aQ told js)∈js:=(NK.mp (fM (z7:=z7) (len:=len) m)).1;have ha:(af (ae 0) #[0,1,3,5,7]) (rlD (aj es) (ai rs) len js told ↥((aQ told js).map λj=>.int j.num) x8 x9)=.ok [aj es,ai rs,.str len,.list ((js.map Jb.cur).map FC),.list ((aQ told js).map λj=>.int j.num)]:=rfl;have c:=cG ha hc;clear hc ha;generalize bZ z7 len (aQ told js)=b at *;generalize (Y (Sm ((aQ told js).map λj=>.int j.num)))=x7 at *;have g:=FT (i:=9) (δ:=rlD (aj es) (ai rs) len js told x7 x8 x9) (show 9<10 by decide) c rfl;have g:pT 9 (ao (bT cs) #[0,0,1,3,5,7]) (rlD (aj es) (ai rs) len js told x7 x8 x9)=.nx (rlD (aj es) (ai rs) len js told x7 x8 ⇑b.num):=g;obtain⟨i,hi,e⟩:=Od n;have hn:b.num=(i:Z):=by rw[<-e];exact EE.sx.num i hi
 have h:dIx (pE js) (.int b.num)=⇑(b.job:Z):=by rw[hn,<-e];exact oO hi
 have l:dIx (sA js) (.int b.num)=⇑b.cur:=by rw[hn,<-e];exact Ay hi
 have g1:=a6 (f:=dIx) (a:=ae 4) (b:=ae 9) (δ:=rlD (aj es) (ai rs) len js told x7 x8 ⇑b.num) rfl rfl h;have q:cQ #[0,9,g2 dIx (ae 4) (ae 9)] (rlD (aj es) (ai rs) len js told x7 x8 ⇑b.num)=.ok (eX b):=by have r:ae 9 (rlD (aj es) (ai rs) len js told x7 x8 ⇑b.num)=.ok (.int b.num):=rfl;dsimp[jw,aA,aL,r,g1,Rs.ag];rfl
 have s2:qz 6 (cQ #[0,9,g2 dIx (ae 4) (ae 9)]) (rlD (aj es) (ai rs) len js told x7 x8 ⇑b.num)=.nx (rlD (aj es) (ai rs) len js (told++[eX b]) x7 x8 ⇑b.num):=Ip rfl q rfl hl;have s:=a6 (f:=dIx) (a:=ae 5) (b:=ae 9) (δ:=rlD (aj es) (ai rs) len js (told++[eX b]) x7 x8 ⇑b.num) rfl rfl l;have u:=a6 (f:=bq) (b:=↑1) s rfl (eO _ _);have gk:ae 9 (rlD (aj es) (ai rs) len js (told++[eX b]) x7 x8 ⇑b.num)=.ok (.int (b.num.toNat:Z)):=by rw[OO ⋯];rfl
 have v:=xK (i:=5) (ds:=(js.map Jb.cur).map FC) (δ:=rlD (aj es) (ai rs) len js (told++[eX b]) x7 x8 ⇑b.num) rfl u gk (by rw[N8,N8];omega) rfl;unfold rV;rw[aN g,aN s2,aN v];exact Mu (cs:=cs) EE n
theorem D5(EE:RnO es rs z7 t js)(l6:es.length<=6){len:Qn}{told:J L}(et:t=(told.length:Z))(m:bK es.length rs)(lo:ko len)(n:aK [aj es,ai rs]=.ok z7)(hl:told.length<1000000):∃o c p,rB cs (rlD (aj es) (ai rs) len js told x7 x8 x9)=.nx (rlD (aj es) (ai rs) len (cy z7 len (js,told)).1 (cy z7 len (js,told)).2 o c p):=by
 have g:=EE.ln;have i:dh [4,5,6,7] 7 ah (rlD (aj es) (ai rs) len js told x7 x8 x9)=.nx (rlD (aj es) (ai rs) len js told ↥[] x8 x9):=mI (show 7<10 by decide) rfl;obtain⟨c,e⟩:=Av (E:=aj es) (R:=ai rs) (len:=len) (told:=told) (x9:=x9) EE.iv.ok.ok (M' js.length) [] x8 (λk r=>Of.mp r) (by rw[PQ,OE];omega);rw[OF,zy EE.sx]at e;have s:dG #[0,gF bp #[0,0]] (mask [4,5,6,7] (rlD (aj es) (ai rs) len js told ↥[] x8 x9))=.ok ((M' js.length).map λk:O=>.int (k:Z)):=by rw[IY l6 rfl,xg,NO,g];rfl
 have s2:=(lr (EE:=[4,5,6,7]) (tgt:=aP 8) (body:=rtB) s).trans e;have u:dEq (.list ((aQ told js).map λj=>.int j.num)) (.list [])=Y (.bool (decide ((aQ told js).map (·.num)=[]))):=by have:=Fs ((aQ told js).map (·.num));rw[NO]at this;exact this
 have l:=a6 (f:=dEq) (a:=ae 7) (b:=iY ah) (δ:=rlD (aj es) (ai rs) len js told ↥((aQ told js).map λj=>.int j.num) c x9) rfl rfl u;by_cases z:aQ told js=[]
 .have hd:decide ((aQ told js).map (·.num)=[])=true:=by rw[z];rfl
  refine⟨↥((aQ told js).map λj=>.int j.num),c,x9,?_⟩;rw[gD z];unfold rB;rw[aN i,aN s2,fm,iM,l,Rs.ag,bX,av,hd,HL rfl];exact Fl (ds:=told) rfl rfl hl
 .have hd:decide ((aQ told js).map (·.num)=[])=false:=P' λq=>z (J.map_eq_nil_iff.mp q)
  have h:cy z7 len (js,told)=(cN (bZ z7 len (aQ told js)) js,told++[eX (bZ z7 len (aQ told js))]):=by unfold cy;exact I' z
  refine⟨↥((aQ told js).map λj=>.int j.num),c,Y (.int (bZ z7 len (aQ told js)).num),?_⟩;rw[h];unfold rB;rw[aN i,aN s2,fm,iM,l,Rs.ag,bX,av,hd,I' NL];exact LD (cs:=cs) EE l6 m lo n z hl
end
theorem RnO.step{len:Qn}{told:J L}(EE:RnO es rs z7 (told.length:Z) js):RnO es rs z7 ((cy z7 len (js,told)).2.length:Z) (cy z7 len (js,told)).1:=by
 have a:=Aq (len:=len) EE.iv;have c:=z0 (len:=len) EE.iv EE.hv;by_cases z:aQ told js=[]
 .rw[gD z]at a c ⊢;exact⟨a,c,EE.sx,EE.ln,EE.pa,EE.rk⟩
 .obtain⟨b,h,_,e⟩:=kJ (z7:=z7) (len:=len) z;rw[e]at a c ⊢;have f:=kG EE.iv.ok.nd h;refine⟨a,c,uA f EE.sx,by rw[lR f];exact EE.ln,yx f EE.pa,λj g=>?_⟩;rcases ku g with⟨g,_⟩|rfl
  .exact EE.rk j g
  .rw[kI,qB];exact EE.rk b h
theorem FJ{b:Ds->Sr}{n:O}(hc:c δ=.ok false):cj c b (n+1) δ=.nx δ:=by unfold cj;rw[hc];rfl
theorem EL{b:Ds->Sr}{n:O}{a:Ds}(hc:c δ=.ok true)(e:b δ=.nx a):cj c b (n+1) δ=cj c b n a:=by
 conv=>lhs;unfold cj
 rw[hc];dsimp[av,QA,e]
theorem Ew{len:Qn}(l6:es.length<=6)(g:bK es.length rs)(lo:ko len)(i:aK [aj es,ai rs]=.ok z7)(m:O)(hm:m<=1000000)(n:O):∀(js:J Jb)(told t:J L)(x7 x8 x9:F1 L),vn z7 len n (js,told)=Y t->RnO es rs z7 (told.length:Z) js->told.length+n<=m ->
  ∃a b c f,cj rC (rB cs) n (rlD (aj es) (ai rs) len js told x7 x8 x9)=.nx (rlD (aj es) (ai rs) len a t b c f):=by
 induction n with
 |zero=>intro _ _ _ _ _ _ h;cases h
 |succ n ih =>
  intro js told t x7 x8 x9 h EE hn;have hc:=Mi EE l6 (R:=ai rs) (len:=len) (told:=told) (x7:=x7) (x8:=x8) (x9:=x9);unfold vn at h;cases z:js.all Jb.done with
  |true =>rw[HL (show (js,told).1.all Jb.done=true from z)]at h;cases h;rw[z]at hc;exact⟨js,x7,x8,x9,FJ hc⟩
  |false =>rw[I' (show ¬ ((js,told).1.all Jb.done=true) by rw[show (js,told).1=js from rfl,z];exact NL)]at h;rw[z]at hc;obtain⟨b,c,f,e⟩:=D5 (cs:=cs) EE l6 (len:=len) rfl (x7:=x7) (x8:=x8) (x9:=x9) g lo i ⋯;rw[EL hc e];have O':=EE.step (len:=len);have hs:(cy z7 len (js,told)).2.length=told.length+1:=xo;generalize cy z7 len (js,told)=s at *;exact ih s.1 s.2 t b c f h O' ⋯
def cq(cs:Cs):Gf:=gfG 4 6 (iP cs (ba cs) (bT cs))
section
variable {len:Qn}
theorem w5:∀(i:O)(h:i<(startJ es rs z6).length),(startJ es rs z6)[i].parts=(au es (i:Z)).parts:=λi h=>by obtain⟨row,e⟩:=p8 h;rw[e];rfl
theorem qM{f:Jb->L}(a:∀(i:O)(row:J Z),f (mkJ es rs i row)=.int 0)(hl:z6.length=es.length):(startJ es rs z6).map f=(es.map Er.d).map λ_=>.int 0 :=
 Pw (by rw[N8,N8,N8,kK,hl]) (λi h1 h2=>by
  have b:i<(startJ es rs z6).length:=by rwa[N8]at h1
  obtain⟨row,e⟩:=p8 b;rw[PV,PV,e];exact a i row)
theorem C3(R:Ran es rs z6 len)(C:Cms es z6):RnO es rs (aJ es rs) (([]:J L).length:Z) (startJ es rs z6):=by refine⟨wQ R C,xA R,xx R C,by rw[kK,R.ln],w5,λj a=>?_⟩;obtain⟨k,row,_,_,_,rfl⟩:=dz a;rfl
theorem law_run_is(R:Ran es rs z6 len)(C:Cms es z6){t:J L}(h:xS es rs z6 len=Y t):cq cs [aj es,ai rs,cmD z6,.str len]=.ok (.list t):=by
 have l6:=R.eok.l6;have b:aK [aj es,ai rs]=.ok (aJ es rs):=iB ⋯ (λe c=>(R.eok.ok e c).sh) R.rok;obtain⟨js',y7,y8,y9,e⟩:=Ew (cs:=cs) l6 R.rok R.le b 1000000 (ND _) 1000000 (startJ es rs z6) [] t S S S h (C3 R C) (by rw[OE];omega);have f:iP cs (ba cs) (bT cs)=az (dh [4,5,6,7] 4 (aO 10 (bx (ae 0)) aZ ↑0 aF))
  (az (dh [4,5,6,7] 5 (aO 10 (bx (ae 0)) aZ ↑0 aF))
  (az (dh [4,5,6,7] 6 ah)
  (az (λδ=>cj rC (rB cs) 1000000 δ) (a9 (ae 6))))):=rfl
 have hw:lE (startJ es rs z6)=cmD z6:=by unfold lE;rw[yQ]
 have g:pE (startJ es rs z6)=.list ((es.map Er.d).map λ_=>.int 0):=by unfold pE;rw[qM (λi row=>rfl) R.ln]
 have hc:sA (startJ es rs z6)=.list ((es.map Er.d).map λ_=>.int 0):=by unfold sA;rw[NO,qM (λi row=>rfl) R.ln]
 unfold rlD at e;rw[hw,g,hc]at e;have g1:aO 10 (bx (ae 0)) aZ ↑0 aF (mask [4,5,6,7] #[3,Y (cmD z6),Y (.str len),S,S,S,S,S,S])=.ok ((es.map Er.d).map λ_=>.int 0):=bN rfl rfl (by rw[N8];omega) λd _=>rfl
 have j:dh [4,5,6,7] 4 (aO 10 (bx (ae 0)) aZ ↑0 aF) #[3,Y (cmD z6),Y (.str len),S,S,S,S,S,S]=.nx #[3,Y (cmD z6),Y (.str len),↥((es.map Er.d).map λ_=>.int 0),S,S,S,S,S]:=mI (show 4<10 by decide) g1;have a:aO 10 (bx (ae 0)) aZ ↑0 aF (mask [4,5,6,7] #[3,Y (cmD z6),Y (.str len),↥((es.map Er.d).map λ_=>.int 0),S,S,S,S,S])=.ok ((es.map Er.d).map λ_=>.int 0):=bN rfl rfl (by rw[N8];omega) λd _=>rfl
 have s2:dh [4,5,6,7] 5 (aO 10 (bx (ae 0)) aZ ↑0 aF) #[3,Y (cmD z6),Y (.str len),↥((es.map Er.d).map λ_=>.int 0),S,S,S,S,S]=.nx #[3,Y (cmD z6),Y (.str len),↥((es.map Er.d).map λ_=>.int 0),↥((es.map Er.d).map λ_=>.int 0),S,S,S,S]:=mI (show 5<10 by decide) a;have l:dh [4,5,6,7] 6 ah #[3,Y (cmD z6),Y (.str len),↥((es.map Er.d).map λ_=>.int 0),↥((es.map Er.d).map λ_=>.int 0),S,S,S,S]=.nx #[3,Y (cmD z6),Y (.str len),↥((es.map Er.d).map λ_=>.int 0),↥((es.map Er.d).map λ_=>.int 0),↥[],S,S,S]:=mI (show 6<10 by decide) rfl;show bo (iP cs (ba cs) (bT cs) #[3,Y (cmD z6),Y (.str len),S,S,S,S,S,S])=_;have m:(λδ=>cj rC (rB cs) 1000000 δ) #[3,Y (cmD z6),Y (.str len),↥((es.map Er.d).map λ_=>.int 0),↥((es.map Er.d).map λ_=>.int 0),↥[],S,S,S]=_:=e;rw[f,aN j,aN s2,aN l,aN m];rfl
end
abbrev lD(D':L)(es:J Er)(rs:J Z)(x3 x4 a x6 x7 x8 x9:F1 L):Ds:=[Y D',Y (aj es),Y (ai rs),x3,x4,a,x6,x7,x8,x9]
theorem xY{a b:Ds->Sr}(h:c δ=.ok false):sIf c a b δ=b δ:=by rw[fm,h];rfl
theorem MS{a b:Ds->Sr}(h:c δ=.ok true):sIf c a b δ=a δ:=by rw[fm,h];rfl
theorem C1{a b:Ds->Rs Qo}(ha:a δ=.ok false)(c:b δ=.ok false):cOr a b δ=.ok false:=by rw[Mc,ha,Rs.ag,I' #[1],c]
theorem rZ{a:Ds->Rs Qo}(ha:a δ=.ok true):dD a δ=.ok false:=by rw[Fi,ha,Rs.ag];rfl
theorem j7{b:Qo}(ha:a δ=.ok (.bool b)):gT a δ=.ok b:=by rw[iM,ha,Rs.ag,bX]
section
variable {D':L}
def CH(cs:Cs):Ds->Sr:=sIf (cOr (dD (gT (g1 (fF "list") (g2 dIx (ae 5) (ae 7))))) (dD (gT (ao (bz cs) #[0,g2 dIx (ae 1) (ae 7),g2 dIx (ae 5) (ae 7)])))) (a9 (gC (.bool false))) aT
theorem c13{z6:J (J Z)}(ok:∀e∈es,e.Ok)(C:Cms es z6){x3 x4 x6 x8 x9:F1 L}:∀(ks:J O)(x7:F1 L),(∀k∈ks,k<es.length)->∃g,forL (aP 7) (CH cs) (ks.map λ(k:O)=>FC ((0:Z)+(k:Z))) (lD D' es rs x3 x4 (Y (cmD z6)) x6 x7 x8 x9)=.nx (lD D' es rs x3 x4 (Y (cmD z6)) x6 g x8 x9)
 |[],x7,_=>⟨x7,rfl⟩
 |k::ks,x7,h=>by
  have i:=h k N1;obtain⟨r,b⟩:∃r,z6[k]?=Y r:=⟨_,My (by rw[C.len];exact i)⟩
  have c:es[k]?=Y (au es (k:Z)):=by have:=jY (es:=es) (n:=(k:Z)) ⋯ ⋯;rw[O2]at this;exact this
  obtain⟨i1,i2⟩:=C.at c b;have h1:aP 7 (.int ((0:Z)+(k:Z))) (lD D' es rs x3 x4 (Y (cmD z6)) x6 x7 x8 x9)=Y (lD D' es rs x3 x4 (Y (cmD z6)) x6 ⇑(k:Z) x8 x9):=by rw[Qj];rfl
  have f:g2 dIx (ae 5) (ae 7) (lD D' es rs x3 x4 (Y (cmD z6)) x6 ⇑(k:Z) x8 x9)=.ok (ff r):=a6 (x:=cmD z6) (y:=.int (k:Z)) rfl rfl (kD (by rw[NA,b];rfl));have a:g2 dIx (ae 1) (ae 7) (lD D' es rs x3 x4 (Y (cmD z6)) x6 ⇑(k:Z) x8 x9)=.ok (au es (k:Z)).d:=a6 (x:=aj es) (y:=.int (k:Z)) rfl rfl (eQ ⋯ ⋯);have h2:CH cs (lD D' es rs x3 x4 (Y (cmD z6)) x6 ⇑(k:Z) x8 x9)=.nx (lD D' es rs x3 x4 (Y (cmD z6)) x6 ⇑(k:Z) x8 x9):=by unfold CH;rw[xY (C1 (rZ (j7 (lG f (kT (nN r))))) (rZ (j7 (cG (ds:=[(au es (k:Z)).d,ff r]) (by rw[aA,a,Rs.ag,aA,f];rfl) (BH (ok _ (O8 c)) i1 i2)))))];rfl
  rw[N2,fP h1 h2];exact c13 ok C ks _ λj l=>h j (N0 _ l)
theorem Bd(l6:es.length<=6)(h:ae 1 δ=.ok (aj es)):dG #[0,gF bp #[0,1]] δ=.ok ((M' es.length).map λ(k:O)=>FC ((0:Z)+(k:Z))):=by
 have hl:gF bp #[0,1] δ=.ok (.int (es.length:Z)):=by rw[jM,aA,h,Rs.ag,aL,Rs.ag,Rs.ag,JI];rfl
 show ((af (gF bp #[0,1]) ah δ).bind Fv)=_;rw[aA,hl,Rs.ag,aL,Rs.ag,Rs.ag,kA ⋯ ⋯,O2];rfl
def Ej(cs:Cs):Ds->Sr:=(az (aW [] 4 (ao (cE cs) #[0,1,2,3]))
 (az (sIf (cOr (dD (gT (g1 (fF "tuple") (ae 4)))) (cOr (gT (g2 dNe (gF bp #[0,4]) ↑2)) (dD (gT (g1 (fF "list") (g2 dIx (ae 4) ↑0)))))) (a9 (gC (.bool false))) aT)
 (az (lV [] (b9 [5,6]) (ae 4))
 (az (sIf (cOr (gT (g2 dNe (gF bp #[0,5]) (gF bp #[0,1]))) (cOr (dD (gT (g1 (fF "tuple") (ae 6)))) (gT (g2 dNe (eJ (ae 6) c6 (gm ↑1)) (cQ #[0,3]))))) (a9 (gC (.bool false))) aT)
 (az (dN [] (dG #[0,gF bp #[0,1]]) (aP 7) (CH cs))
 (az (sIf (dD (gT (fR dLe dLt ↑0 (g2 dIx (ae 6) ↑1) (gF bp #[0,g2 dIx (ae 5) (ae 3)])))) (a9 (gC (.bool false))) aT)
 (az (aW [] 8 (g2 dIx (g2 dIx (ao (bJ cs) #[0,1,5,ao (cq cs) #[0,1,2,5,gC (.str "high")]]) (ae 3)) (g2 dIx (ae 6) ↑1)))
 (az (aW [] 9 (ao cM #[0,1,2,3]))
 (sIf (gT (g1 xB (ae 9))) (sIf (gT (g2 dLe (ae 8) (g2 dIx (g2 dIx (ae 1) (ae 3)) ↑1))) (a9 (gC (.bool false))) aT) (sIf (gT (g2 dNe (ae 8) (ae 9))) (a9 (gC (.bool false))) aT))))))))))
theorem Jy(n:Z):dNe (.tuple [.int n]) (.tuple [.int n])=Y (.bool false):=by
 unfold dNe;have h:QV (.tuple [.int n])=true:=by simp[QV,Sb,Sd,Sy,Ss]
 rw[show aY (.tuple [.int n])=true from rfl,h,SeqAt.eqv_refl _ (SeqAt.canLay_of_shaped h)];rfl
theorem n13{a:O}(l1:1<=es.length)(l6:es.length<=6)(ok:∀e∈es,e.Ok)(s:bK es.length rs)(ha:a<es.length)(x4 o x6 x7 x8 x9:F1 L) :
  ∃B' K M b N EE,Ej cs (lD D' es rs ⇑(a:Z) x4 o x6 x7 x8 x9)=.nx (lD D' es rs ⇑(a:Z) B' K M b N EE):=by
 obtain⟨z6,start,hw,hl,P,W,p⟩:=Dx (cs:=cs) l1 l6 ok s ha;have C:=CB ok hl P p;have R:Ran es rs z6 "high":=⟨⟨l1,l6,ok⟩,s,hl,⟨Aw⟩⟩
 obtain⟨t,u⟩:=DV R C;have q:=law_run_is (cs:=cs) R C u;obtain⟨h1,h2,Q,T⟩:=Ft R C u;have w:=law_answers_is (cs:=cs) (E:=aj es) (z6:=z6) ⋯ (λr h=>by have:=(C.zQ r h).few;omega) h2 h1 T;have c:=W.hi a ha (ND _);obtain⟨v,hv⟩:=Q a _ c 0 (by rw[fk];decide);have key:=Kz R C u W ha hv;have A:=kQ l1 l6 ok s (n:=(a:Z)) ⋯ ⋯;have eA:=bG (es:=es) (n:=(a:Z)) ⋯ ⋯;have G:aW [] 4 (ao (cE cs) #[0,1,2,3]) (lD D' es rs ⇑(a:Z) x4 o x6 x7 x8 x9)=.nx (lD D' es rs ⇑(a:Z) (Y (.tuple [cmD z6,.tuple [.int (a:Z),.int 0]])) o x6 x7 x8 x9):=eU (by decide:4<10) (cG rfl hw);have B:aY (.tuple [cmD z6,.tuple [.int (a:Z),.int 0]])=true:=by have:=qC z6;simp[aY,fN,this]
 have H:sIf (cOr (dD (gT (g1 (fF "tuple") (ae 4)))) (cOr (gT (g2 dNe (gF bp #[0,4]) ↑2)) (dD (gT (g1 (fF "list") (g2 dIx (ae 4) ↑0)))))) (a9 (gC (.bool false))) aT (lD D' es rs ⇑(a:Z) (Y (.tuple [cmD z6,.tuple [.int (a:Z),.int 0]])) o x6 x7 x8 x9)=.nx (lD D' es rs ⇑(a:Z) (Y (.tuple [cmD z6,.tuple [.int (a:Z),.int 0]])) o x6 x7 x8 x9) :=
  xY (C1 (rZ (j7 (lG (x:=.tuple [cmD z6,.tuple [.int (a:Z),.int 0]]) rfl (by unfold fF;rw[HL B];rfl)))) (C1 (j7 (a6 (f:=dNe) (x:=.int 2) (y:=.int 2) rfl rfl (EA 2 2))) (rZ (j7 (lG (a6 (x:=.tuple [cmD z6,.tuple [.int (a:Z),.int 0]]) (y:=.int 0) (z:=cmD z6) rfl rfl rfl) (kT (qC z6)))))))
 have I:lV [] (b9 [5,6]) (ae 4) (lD D' es rs ⇑(a:Z) (Y (.tuple [cmD z6,.tuple [.int (a:Z),.int 0]])) o x6 x7 x8 x9)=.nx (lD D' es rs ⇑(a:Z) (Y (.tuple [cmD z6,.tuple [.int (a:Z),.int 0]])) (Y (cmD z6)) (Y (.tuple [.int (a:Z),.int 0])) x7 x8 x9):=rfl;generalize hF:RX [cmD z6,.tuple [.int (a:Z),.int 0]]=F at G H I;have U:sIf (cOr (gT (g2 dNe (gF bp #[0,5]) (gF bp #[0,1]))) (cOr (dD (gT (g1 (fF "tuple") (ae 6)))) (gT (g2 dNe (eJ (ae 6) c6 (gm ↑1)) (cQ #[0,3]))))) (a9 (gC (.bool false))) aT (lD D' es rs ⇑(a:Z) (Y F) (Y (cmD z6)) (Y (.tuple [.int (a:Z),.int 0])) x7 x8 x9)=.nx (lD D' es rs ⇑(a:Z) (Y F) (Y (cmD z6)) (Y (.tuple [.int (a:Z),.int 0])) x7 x8 x9):=by
  have e1:g2 dNe (gF bp #[0,5]) (gF bp #[0,1]) (lD D' es rs ⇑(a:Z) (Y F) (Y (cmD z6)) (Y (.tuple [.int (a:Z),.int 0])) x7 x8 x9)=.ok (.bool false) :=
   a6 (x:=.int ((z6.map ff).length:Z)) (y:=.int ((es.map Er.d).length:Z)) rfl rfl (by rw[EA,N8,N8,hl,QF];rfl)
  exact xY (C1 (j7 e1) (C1 (rZ (j7 (lG (x:=.tuple [.int (a:Z),.int 0]) rfl rfl))) (j7 (a6 (x:=.tuple [.int (a:Z)]) (y:=.tuple [.int (a:Z)]) rfl rfl (Jy _)))))
 obtain⟨b,X⟩:=c13 (cs:=cs) (D':=D') (es:=es) (rs:=rs) (z6:=z6) ok C (x3:=⇑(a:Z)) (x4:=Y F) (x6:=Y (.tuple [.int (a:Z),.int 0])) (x8:=x8) (x9:=x9) (M' es.length) x7 λk A4=>Of.mp A4
 have A2:dN [] (dG #[0,gF bp #[0,1]]) (aP 7) (CH cs) (lD D' es rs ⇑(a:Z) (Y F) (Y (cmD z6)) (Y (.tuple [.int (a:Z),.int 0])) x7 x8 x9)=.nx (lD D' es rs ⇑(a:Z) (Y F) (Y (cmD z6)) (Y (.tuple [.int (a:Z),.int 0])) b x8 x9):=(lr (by rw[eK];exact Bd (δ:=lD D' es rs ⇑(a:Z) (Y F) (Y (cmD z6)) (Y (.tuple [.int (a:Z),.int 0])) x7 x8 x9) l6 rfl)).trans X;have g5:g2 dIx (ae 5) (ae 3) (lD D' es rs ⇑(a:Z) (Y F) (Y (cmD z6)) (Y (.tuple [.int (a:Z),.int 0])) b x8 x9)=.ok (ff (bD (au es (a:Z)) start)):=a6 (x:=cmD z6) (y:=.int (a:Z)) rfl rfl (kD (by rw[NA,c];rfl));have b6:sIf (dD (gT (fR dLe dLt ↑0 (g2 dIx (ae 6) ↑1) (gF bp #[0,g2 dIx (ae 5) (ae 3)])))) (a9 (gC (.bool false))) aT (lD D' es rs ⇑(a:Z) (Y F) (Y (cmD z6)) (Y (.tuple [.int (a:Z),.int 0])) b x8 x9)=.nx (lD D' es rs ⇑(a:Z) (Y F) (Y (cmD z6)) (Y (.tuple [.int (a:Z),.int 0])) b x8 x9):=by
  refine xY (rZ (j7 ?_));have h6:g2 dIx (ae 6) ↑1 (lD D' es rs ⇑(a:Z) (Y F) (Y (cmD z6)) (Y (.tuple [.int (a:Z),.int 0])) b x8 x9)=.ok (.int 0):=rfl;have D:gF bp #[0,g2 dIx (ae 5) (ae 3)] (lD D' es rs ⇑(a:Z) (Y F) (Y (cmD z6)) (Y (.tuple [.int (a:Z),.int 0])) b x8 x9)=.ok (.int 60):=by rw[jM,aA,g5,aL,Rs.ag,Rs.ag,Rs.ag];show Rs.ok (FC (((bD (au es (a:Z)) start).map FC).length:Z))=_;rw[N8,fk];rfl
  rw[Di,show ↑0 (lD D' es rs ⇑(a:Z) (Y F) (Y (cmD z6)) (Y (.tuple [.int (a:Z),.int 0])) b x8 x9)=.ok (.int 0) from rfl,Rs.ag,h6,Rs.ag,Fm,D];rfl
 have g:ao (cq cs) #[0,1,2,5,gC (.str "high")] (lD D' es rs ⇑(a:Z) (Y F) (Y (cmD z6)) (Y (.tuple [.int (a:Z),.int 0])) b x8 x9)=.ok (.list t):=cG (ds:=[aj es,ai rs,cmD z6,.str "high"]) rfl q;have i:ao (bJ cs) #[0,1,5,ao (cq cs) #[0,1,2,5,gC (.str "high")]] (lD D' es rs ⇑(a:Z) (Y F) (Y (cmD z6)) (Y (.tuple [.int (a:Z),.int 0])) b x8 x9)=.ok (Bi (iW z6 (endsF 0 t []))) :=
  cG (ds:=[aj es,cmD z6,.list t]) (by rw[aA,show ae 1 (lD D' es rs ⇑(a:Z) (Y F) (Y (cmD z6)) (Y (.tuple [.int (a:Z),.int 0])) b x8 x9)=.ok (aj es) from rfl,Rs.ag,aA,show ae 5 (lD D' es rs ⇑(a:Z) (Y F) (Y (cmD z6)) (Y (.tuple [.int (a:Z),.int 0])) b x8 x9)=.ok (cmD z6) from rfl,Rs.ag,aA,g];rfl) w
 have l:(iW z6 (endsF 0 t []))[a]?=Y ((bD (au es (a:Z)) start).mapIdx (jG (endsF 0 t []) a)):=by unfold iW;rw[O3,c];rfl
 have m:((bD (au es (a:Z)) start).mapIdx (jG (endsF 0 t []) a))[0]?=Y (v-start):=by rw[O3,u9];show Y (jG (endsF 0 t []) a 0 start)=_;unfold jG;rw[hv]
 have b7:aW [] 8 (g2 dIx (g2 dIx (ao (bJ cs) #[0,1,5,ao (cq cs) #[0,1,2,5,gC (.str "high")]]) (ae 3)) (g2 dIx (ae 6) ↑1)) (lD D' es rs ⇑(a:Z) (Y F) (Y (cmD z6)) (Y (.tuple [.int (a:Z),.int 0])) b x8 x9)=.nx (lD D' es rs ⇑(a:Z) (Y F) (Y (cmD z6)) (Y (.tuple [.int (a:Z),.int 0])) b ⇑(v-start) x9):=by
  refine eU (by decide:8<10) ?_;rw[eK];have z1:g2 dIx (ao (bJ cs) #[0,1,5,ao (cq cs) #[0,1,2,5,gC (.str "high")]]) (ae 3) (lD D' es rs ⇑(a:Z) (Y F) (Y (cmD z6)) (Y (.tuple [.int (a:Z),.int 0])) b x8 x9)=.ok (liD ((bD (au es (a:Z)) start).mapIdx (jG (endsF 0 t []) a))) :=
   a6 (y:=.int (a:Z)) i rfl (kD (by rw[NA,l];rfl))
  exact a6 (y:=.int 0) z1 rfl (kD (j:=0) (by rw[NA,m];rfl))
 have b8:aW [] 9 (ao cM #[0,1,2,3]) (lD D' es rs ⇑(a:Z) (Y F) (Y (cmD z6)) (Y (.tuple [.int (a:Z),.int 0])) b ⇑(v-start) x9)=.nx (lD D' es rs ⇑(a:Z) (Y F) (Y (cmD z6)) (Y (.tuple [.int (a:Z),.int 0])) b ⇑(v-start) (Y (bc (bL es rs (a:Z))))):=eU (by decide:9<10) (cG (ds:=[aj es,ai rs,.int (a:Z)]) rfl A);refine⟨Y F,Y (cmD z6),Y (.tuple [.int (a:Z),.int 0]),b,⇑(v-start),Y (bc (bL es rs (a:Z))),?_⟩;unfold Ej;rw[aN G,aN H,aN I,aN U,aN A2,aN b6,aN b7,aN b8];cases hL:bL es rs (a:Z) with
 |none =>
  rw[hL]at key;have key:(au es (a:Z)).due<v-start:=key;rw[MS rfl];have d1:g2 dIx (g2 dIx (ae 1) (ae 3)) ↑1 (lD D' es rs ⇑(a:Z) (Y F) (Y (cmD z6)) (Y (.tuple [.int (a:Z),.int 0])) b ⇑(v-start) (Y (bc S)))=.ok (.int (au es (a:Z)).due) :=
   a6 (a6 (x:=aj es) (y:=.int (a:Z)) rfl rfl (eQ ⋯ ⋯)) rfl rfl
  exact xY (j7 (by rw[a6 (f:=dLe) (x:=.int (v-start)) rfl d1 (Fm _ _),P' ⋯]))
 |some Dd =>rw[hL]at key;have key:v-start=Dd:=key;rw[xY rfl];exact xY (j7 (by rw[a6 (f:=dNe) (x:=.int (v-start)) (y:=.int Dd) rfl rfl (EA _ _),key,QF];rfl))
theorem l13(l1:1<=es.length)(l6:es.length<=6)(ok:∀e∈es,e.Ok)(b:bK es.length rs):∀(ks:J O)(x3 x4 a x6 x7 x8 x9:F1 L),(∀k∈ks,k<es.length)->∃δ,forL (aP 3) (Ej cs) (ks.map λ(k:O)=>FC ((0:Z)+(k:Z))) (lD D' es rs x3 x4 a x6 x7 x8 x9)=.nx δ
 |[],_,_,_,_,_,_,_,_=>⟨_,rfl⟩
 |k::ks,x3,x4,a,x6,x7,x8,x9,h=>by
  obtain⟨y4,y5,y6,y7,y8,y9,e⟩:=n13 (cs:=cs) (D':=D') l1 l6 ok b (h k N1) x4 a x6 x7 x8 x9;have h1:aP 3 (.int ((0:Z)+(k:Z))) (lD D' es rs x3 x4 a x6 x7 x8 x9)=Y (lD D' es rs ⇑(k:Z) x4 a x6 x7 x8 x9):=by rw[Qj];rfl
  rw[N2,fP h1 e];exact l13 l1 l6 ok b ks _ _ _ _ _ _ _ λj c=>h j (N0 _ c)
end
theorem law_holds(cs:Cs)(ns:J Z):Ai cs cM (cq cs) (bJ cs) (bz cs) (cE cs) bV bw (Y (ar ns)::L' 9 S)=.rt (.bool true):=by
 obtain⟨es,rs,_,l1,l4,hok,g,c,f⟩:=C7 ns 8 28 #[1] #[1] #[1];have l6:es.length<=6:=⋯
 have h:aW [] 1 (ao bw #[0,0,↑8,↑4,↑28,gC (.bool true)]) [Y (ar ns),S,S,S,S,S,S,S,S,S]=.nx [Y (ar ns),Y (aj es),S,S,S,S,S,S,S,S]:=eU (by decide:1<10) (cG rfl c);have s2:aW [] 2 (ao bV #[0,0,↑0,gF bp #[0,1]]) [Y (ar ns),Y (aj es),S,S,S,S,S,S,S,S]=.nx (lD (ar ns) es rs S S S S S S S):=by refine eU (by decide:2<10) (cG (ds:=[ar ns,.int 0,.int (es.length:Z)]) ?_ f);show #[0,0,↑0,gF bp #[0,1]] [Y (ar ns),Y (aj es),S,S,S,S,S,S,S,S]=_;dsimp[aA,aL,jM,aC,aE,fh,Rs.ag,JI,Rs.ak]
 obtain⟨δ,e⟩:=l13 (cs:=cs) (D':=ar ns) l1 l6 hok g (M' es.length) S S S S S S S λk i=>Of.mp i
 have j:dN [] (dG #[0,gF bp #[0,1]]) (aP 3) (Ej cs) (lD (ar ns) es rs S S S S S S S)=.nx δ:=(lr (by rw[eK];exact Bd (δ:=lD (ar ns) es rs S S S S S S S) l6 rfl)).trans e;unfold Ai;show az _ _ [Y (ar ns),S,S,S,S,S,S,S,S,S]=_;rw[aN h,aN s2];have a:=aN (b:=a9 (gC (.bool true))) j;unfold Ej CH at a;exact a
theorem Md(cs:Cs):LLq (Ai cs cM (cq cs) (bJ cs) (bz cs) (cE cs) bV bw) 1 9 (fV 63):=lawT_of (law_holds cs)
end RS
set_option maxHeartbeats 4000000
namespace L2
open PySem PySem.Spec PyProof.Rows
def ndB:J Qn->Qo
 |[]=>true
 |x::r=>!r.elem x&&ndB r
theorem E1:∀{l:J Qn},ndB l=true->l.Nodup
 |[],_=>Q3
 |x::r,h=>by dsimp[ndB,NG,Qb]at h;exact O7.mpr ⟨λz=>(by have:=J.elem_eq_true_of_mem z;rw[h.1]at this;cases this),E1 h.2⟩
section
variable {k n n':O}{m:Qn}
def AtX(X:Cx)(P:QS)(w:QY)(K:PySem.W.Frag)(mg:Qn->F1 GC)(base:QD):Prop:=X.prog=P/\X.w=w/\X.K=K/\X.mg=mg/\X.base=base
theorem jP.to(h:jP P w K mg base k x n gf)(a:AtX X P w K mg base)(hn:n=n'):jP X.prog X.w X.K X.mg X.base k x n' gf:=by obtain⟨rfl,rfl,rfl,rfl,rfl⟩:=a;subst hn;exact h
theorem DW.to(h:DW P w K mg base k C m n gf)(a:AtX X P w K mg base)(hn:n=n'):DW X.prog X.w X.K X.mg X.base k C m n' gf:=by obtain⟨rfl,rfl,rfl,rfl,rfl⟩:=a;subst hn;exact h
theorem EH.to{g:J (Qn×L)->F1 (J (Qn×L))}(h:EH P w K mg base k C m g)(a:AtX X P w K mg base):EH X.prog X.w X.K X.mg X.base k C m g:=by obtain⟨rfl,rfl,rfl,rfl,rfl⟩:=a;exact h
theorem pO.to{l:J Qn}(h:pO P w K mg base k x C l)(a:AtX X P w K mg base):pO X.prog X.w X.K X.mg X.base k x C l:=by obtain⟨rfl,rfl,rfl,rfl,rfl⟩:=a;exact h
end
def Nc(K:PySem.W.Frag)(C:J')(q:Qn)(st:T7)(ps:J Qn):Prop:=∃f fd,Mk K C f/\Fun K "__init__" q st f fd/\Binds K fd ps []
end L2
namespace RS
open PySem PySem.Spec PyProof.Rows L2
theorem Ex(d:α){us:J α}{n:O}(h:us.length=n):∃f:O->α,us=(M' n).map f :=
 ⟨λi=>us.getD i d,Pw (by simp[h]) λi h1 h2=>by simp[N9,My h1]⟩
section
variable {m q:Qn}{G:Ds->Sr}{gf:Gf}
abbrev Bod(P:QS)(w:QY)(K:PySem.W.Frag)(mg:Qn->F1 GC)(base:QD)(q:Qn)(st:T7)(k:O)(EE:J O)(N:J Qn)(G:Ds->Sr):Prop:=∀(f:J')(cdv:GC)(A:Qs)(outer:J V1)(s:LN)(H:Hp)(E:XK),N.Nodup->cO k (A.deeper (envOfC q (aH st) s.heap.objs.size f cdv))->PBD (dg (CXW P w) P w K mg base N q (aH st) f cdv A outer s H E) E EE (cR st) G
theorem dA(P:QS)(w:QY)(base:QD)(k:O)(EE:J O)(N:J Qn)(h:bM K mg x st ps)(a:∀ds,ds.length=ps.length->gf ds≠.no->bo (G (ds.map Y++L' (N.length-ps.length) S))=gf ds)
  (body:Bod P w K mg base x st k EE N G) (D':eS N ps (aH st):=by exact⟨rfl,rfl,rfl,by decide +kernel,rfl,by decide +kernel,by decide +kernel⟩) (c:∀i∈EE,ps.length<=i:=by decide):jP P w K mg base (k+1) x ps.length gf:=by
 obtain⟨f,fd,F,b,m⟩:=h;exact jP.of F D' b m c (λcdv A outer s H E=>body f cdv A outer s H E D'.nd) a
theorem dT(k:O)(EE:J O)(N:J Qn)(h:bM K mg x st ps)(hm:∀g,PySem.W.nsIn K mainGlobals x=Y (Y (.ref g))->mg x=Y (.ref g))(a:Im K x)(hB:n6 mg base)(hK:K.In base)(e:∀ds,ds.length=ps.length->gf ds≠.no->bo (G (ds.map Y++L' (N.length-ps.length) S))=gf ds)
  (body:∀(f:J')(cdv:GC)(A:Qs)(outer:J V1)(s:LN)(H:Hp)(E:XK),N.Nodup->cO k (A.deeper (envOfC x (aH st) s.heap.objs.size f cdv))->∀c j,DR (dg (CXW P w) P w K mg base N x (aH st) f cdv A outer s H E) c j->PBD (dg (CXW P w) P w K mg base N x (aH st) f cdv A outer s H E) E EE (cR st) G) (D':eS N ps (aH st):=by exact⟨rfl,rfl,rfl,by decide +kernel,rfl,by decide +kernel,by decide +kernel⟩) (l:∀i∈EE,ps.length<=i:=by decide) (n:x∈ml:=by decide) (o:∀(f Dd:J')(cdv:GC),(envOfC x (aH st) Dd f cdv).qual++"<lambda>"=x++".<locals>.<lambda>":=by exact λ_ _ _=>rfl):jP P w K mg base (k+1) x ps.length gf:=by
 obtain⟨f,fd,F,b,m⟩:=h;exact jP.ofL F D' b m l n hm a hB hK (o f) (λcdv A outer s H E=>body f cdv A outer s H E D'.nd) e
theorem dL(k:O)(EE:J O)(N:J Qn){f:J'}(F:Fun K x x st f fd)(a:∀ds,ds.length=ps.length->gf ds≠.no->bo (G (ds.map Y++L' (N.length-ps.length) S))=gf ds)
  (body:Bod P w K mg base x st k EE N G) (D':eS N ps (aH st):=by exact⟨rfl,rfl,rfl,by decide +kernel,rfl,by decide +kernel,by decide +kernel⟩) (b:∀i∈EE,ps.length<=i:=by decide):iH P w K mg base (CXW P w) (k+1) f fd ps (spD K ps.length gf) :=
 Ir F D' b (λcdv A outer s H E=>body f cdv A outer s H E D'.nd) a
end
end RS
set_option maxHeartbeats 0
namespace RS
open PySem PySem.Spec PyProof.Rows L2
variable {f:J'}
def top(i:Nat):Stmt:=PySem.Challenge.pw_ranksure_k13_whole_worst_run.main.body.getD i (.Pass ⟨0,0,0,0⟩)
structure qN(K:PySem.W.Frag)(C:J'):Prop where
 cl:Cls K C
 na:∀f∈["number", "part", "tool", "times"],iK K C f
 mi:Nc K C "Holding.__init__" (inClass (top 27) 0) ["self", "number", "part", "tool", "times"]
structure Tx(K:PySem.W.Frag)(mg:Qn->F1 GC)(cs:Cs):Prop where
 f_is_whole:bM K mg "is_whole" (top 13) ["thing", "least", "most"]
 f_is_tuple:bM K mg "is_tuple" (top 14) ["thing", "fewest", "most"]
 f_is_part:bM K mg "is_part" (top 15) ["thing"]
 f_are_parts:bM K mg "are_parts" (top 16) ["thing"]
 f_is_errand:bM K mg "is_errand" (top 17) ["thing"]
 f_checked:bM K mg "checked" (top 18) ["errands"]
 f_checked_ranks:bM K mg "checked_ranks" (top 19) ["errands", "ranks"]
 f_checked_number:bM K mg "checked_number" (top 20) ["errands", "number"]
 f_check_place:bM K mg "check_place" (top 21) ["errands", "ranks", "number"]
 f_work_of:bM K mg "work_of" (top 22) ["errand"]
 f_has_tool:bM K mg "has_tool" (top 23) ["errand", "tool"]
 f_height:bM K mg "height" (top 24) ["errands", "ranks", "tool"]
 f_heights_of:bM K mg "heights_of" (top 25) ["errands", "ranks"]
 f_holdings:bM K mg "holdings" (top 28) ["errands", "ranks", "number"]
 f_hold_by_high:bM K mg "hold_by_high" (top 29) ["errands", "ranks", "number"]
 f_rounded_up:bM K mg "rounded_up" (top 30) ["times", "every"]
 f_need:bM K mg "need" (top 31) ["errands", "ranks", "number", "held_up", "times"]
 f_levels_by:bM K mg "levels_by" (top 32) ["errands", "ranks", "number", "held_up"]
 f_longest_by:bM K mg "longest_by" (top 33) ["errands", "ranks", "number", "held_up"]
 f_longest_by_high:bM K mg "longest_by_high" (top 34) ["errands", "ranks", "number"]
 f_longest:bM K mg "longest" (top 35) ["errands", "ranks", "number"]
 f_soonest:bM K mg "soonest" (top 38) ["errand", "start"]
 f_start_behind:bM K mg "start_behind" (top 39) ["errands", "holding"]
 f_worst_run:bM K mg "worst_run" (top 40) ["errands", "ranks", "number"]
 f_law_cell_at:bM K mg "_law_cell_at" (top 42) ["_law_script", "_law_k"]
 f_law_mixed:bM K mg "_law_mixed" (top 43) ["_law_script", "_law_k", "_law_many"]
 f_law_errand:bM K mg "_law_errand" (top 44) ["_law_script", "_law_at_here", "_law_top", "_law_tools"]
 f_law_errands:bM K mg "_law_errands" (top 45) ["_law_script", "_law_at_here", "_law_most", "_law_top", "_law_tools"]
 f_law_ranks:bM K mg "_law_ranks" (top 46) ["_law_script", "_law_at_here", "_law_many"]
 f_law_are_comings:bM K mg "_law_are_comings" (top 47) ["_law_errand_here", "_law_row"]
 f_law_heights:bM K mg "_law_heights" (top 48) ["_law_errands_here", "_law_ranks_here"]
 f_law_at:bM K mg "_law_at" (top 49) ["_law_errand_here", "_law_spent"]
 f_law_held:bM K mg "_law_held" (top 50) ["_law_errands_here", "_law_spent", "_law_there"]
 f_law_choose:bM K mg "_law_choose" (top 51) ["_law_errands_here", "_law_ranks_here", "_law_lending", "_law_spent", "_law_there"]
 f_law_run:bM K mg "_law_run" (top 52) ["_law_errands_here", "_law_ranks_here", "_law_comings", "_law_lending"]
 f_law_answers:bM K mg "_law_answers" (top 53) ["_law_errands_here", "_law_comings", "_law_done"]
 f_law:bM K mg "law" (top 54) ["_law_script"]
 bs:∀x∈["all", "bool", "dict", "enumerate", "int", "isinstance", "len", "list", "max", "min", "range", "set", "sum", "tuple"],mg x=S
 cst:∀q∈([("LEAST_EVERY",2),("MOST_COMINGS",60),("MOST_ERRANDS",6),("MOST_EVERY",60),("MOST_LATE",20),("MOST_LENGTH",20),("MOST_PARTS",4),("TOOLS",4)]:J (Qn×Z)),∃t,mg q.1=Y (.int q.2 t)
 e_NoErrand:v9 K mg "NoErrand" cs.NoErrand
 e_NoErrands:v9 K mg "NoErrands" cs.NoErrands
 e_NoRanks:v9 K mg "NoRanks" cs.NoRanks
 m_Holding:mg "Holding"=Y (.ref cs.Holding)
 k_Holding:qN K cs.Holding
 tb_worst_run:Im K "worst_run"
 nm_worst_run:∀g,PySem.W.nsIn K mainGlobals "worst_run"=Y (Y (.ref g))->mg "worst_run"=Y (.ref g)
structure Ty(K:PySem.W.Frag)(mg:Qn->F1 GC)(cs:Cs)(base:QD):Prop extends Tx K mg cs where
 hB:n6 mg base
 hK:K.In base
section
theorem xM:eS ["_law_script", "_law_k"] ["_law_script", "_law_k"] (aH (top 42)):=⟨rfl,rfl,rfl,by decide +kernel,rfl,by decide +kernel,by decide +kernel⟩
theorem yN(F:Fun K "_law_cell_at" "_law_cell_at" (top 42) f fd)(bl:mg "len"=S):iH P w K mg base CX0 1 f fd ["_law_script", "_law_k"] (Dw K):=by
 refine F.ok xM (λvs H Q E h=>?_) (λcdv A outer s H vs Q E j h=>?_)
 .obtain⟨a,ns,k,rfl,_⟩:=h;rfl
 .obtain⟨a,ns,k,rfl,e,l,g⟩:=h;refine⟨_,fB (A9 (yJ (LZ (pv 1) (fo jt rfl bl PySem.boot_len (dJ (pv 0) fO)))) (ik (nr (A1 oQ (pv 0) (pv 1) (λ_ _=>rfl)))) oX)
   (fB (A9 (jB (zE j.units) (pv 0) (zD fO) (kj _)) (ik (nr ji)) oX)
   (ik (nr (fg mG (fg mJ (A1 oQ (pv 0) (fg qm (pv 1) (fo jt rfl bl PySem.boot_len (dJ (pv 0) fO))) (λ_ _=>rfl)) ji) (pv 1))))),?_⟩
  refine⟨_,rfl,_,rfl,a,_,rfl,.inl e,k,_,rfl,rfl,_,rfl,?_⟩;have wb:(ns.map V.int).length=ns.length:=N8 ..;rw[wb];refine LV (λhc=>?_) (λhc=>?_)
  .have hc:k<(ns.length:Z):=QC hc;have hi:k.toNat<ns.length:=⋯
   refine⟨_,rfl,_,rfl,a,_,k,.int (ns.getD k.toNat 0),rfl,rfl,e,ue l ?_,?_⟩
   .rw[NA,My hi,N9,My hi];rfl
   .have:=g H (aw.refl H);rw[show cellAt ns k=ns.getD k.toNat 0 by unfold cellAt;rw[HL hc]]at this;exact this
  .have hc:¬ k<(ns.length:Z):=λz=>hc (Ql z)
   refine⟨_,rfl,Ot _,λp hp=>⟨.list (ns.map .int),.list [],(uP e (rR ns)).same (gP hp),uP (SqL.of aM) pZ,shaped_ints ns,yU,_,rfl,?_⟩⟩;rw[DH];refine LV (λb=>?_) (λb=>?_)
   .have b:ns=[]:=QC b;have:=g _ (gP (o:=.lst []) hp);rw[show cellAt ns k=0 by unfold cellAt;rw[I' hc,HL b]]at this;exact this
   .have b:¬ ns=[]:=λz=>b (Ql z)
    have c:0<(ns.length:Z):=by
     cases ns with
     |nil=>cases b rfl
     |cons _ _=>simp
    have h1:0<=k % (ns.length:Z):=OX _ ⋯;have h2:k % (ns.length:Z)<(ns.length:Z):=P6 _ c;have hi:(k % (ns.length:Z)).toNat<ns.length:=⋯
    have i:aw H (upd H p (.lst [])):=gP hp;refine⟨_,rfl,_,rfl,_,rfl,a,_,rfl,.inl (i.seq e),_,_,rfl,rfl,by rw[wb];exact c,a,_,_,.int (ns.getD (k % (ns.length:Z)).toNat 0),rfl,rfl,i.seq e,?_,_,_,rfl,rfl,.inr ⟨by decide,by decide⟩,_,rfl,_,_,rfl,rfl,?_⟩
    .rw[wb];refine ue h1 ?_;rw[NA,My hi,N9,My hi];rfl
    .have:=g _ i;rw[show cellAt ns k=ns.getD (k % (ns.length:Z)).toNat 0*31+k by unfold cellAt;rw[I' hc,I' b]]at this;exact this
theorem xC:eS ["_law_script", "_law_k", "_law_many", "_law_drawn"] ["_law_script", "_law_k", "_law_many"] (aH (top 43)):=⟨rfl,rfl,rfl,by decide +kernel,rfl,by decide +kernel,by decide +kernel⟩
theorem ER{b:Ui}(F:Fun K "_law_mixed" "_law_mixed" (top 43) f fd)(e:Fun K "_law_cell_at" "_law_cell_at" (top 42) c b)(g:Binds K b ["_law_script", "_law_k"] [])(j:mg "_law_cell_at"=Y (.ref c))(bl:mg "len"=S):iH P w K mg base CX0 2 f fd ["_law_script", "_law_k", "_law_many"] (Ja K):=by
 have l:iH P w K mg base CX0 1 c b _ (Dw K):=yN e bl;refine F.ok xC (λvs H Q E h=>?_) (λcdv A outer s H vs Q E m h=>?_)
 .obtain⟨a,ns,k,xb,rfl,_⟩:=h;rfl
 .obtain⟨a,ns,k,xb,rfl,n,o,hm,p⟩:=h;refine⟨_,fB (mK (i:=3) xC.nd rfl (Or.inl rfl) (fg qm (fg mJ (fg mG (fg mG (zW l m rfl j e.kp g .nil L7 (dJ (pv 0) (dJ (pv 1) fO))) (fg mJ ji (pv 1))) ji) ji) ji))
   (ik (nr (fg qm (fg qm (fg mG (fg mG (fg mJ (pv 3) (pv 3)) (fg mJ ji (pv 3))) (pv 1)) ji) (pv 2)))),?_⟩
  refine⟨_,rfl,_,rfl,a,ns,k,rfl,n,o,λH1 q=>?_⟩;refine⟨_,rfl,_,_,rfl,rfl,.inl ⟨by decide,by decide⟩,_,_,rfl,rfl,_,_,rfl,rfl,_,_,rfl,rfl,.inr ⟨by decide,by decide⟩,_,_,rfl,rfl,(by show (0:Z)<2147483647;decide),?_⟩;have b1:=Gq ns k;have b2:=GD ns k;have eD:(cellAt ns k+7919*k+1)*48271 % 2147483647=BV ns k:=rfl;refine⟨_,rfl,_,rfl,_,_,rfl,rfl,.inl ⟨?_,?_⟩,_,rfl,_,_,rfl,rfl,.inl ⟨by decide,by decide⟩,_,_,rfl,rfl,_,rfl,_,_,rfl,rfl,_,_,rfl,rfl,(by show (0:Z)<2147483629;decide),_,rfl,_,_,rfl,rfl,hm,p H1 q⟩
  .show -(2 ^ 64)<(cellAt ns k+7919*k+1)*48271 % 2147483647;rw[eD];omega
  .show (cellAt ns k+7919*k+1)*48271 % 2147483647<2 ^ 64;rw[eD];omega
theorem wg(T:Tx K mg cs):jP P w K mg base 2 "_law_mixed" 3 aq:=by obtain⟨f,fd,F,b,m⟩:=T.f_law_mixed;obtain⟨fC,fdC,a,c,e⟩:=T.f_law_cell_at;exact jP.old (ER F a c e (T.bs _ #[1])) m F.kp b Gm
theorem BG(T:Tx K mg cs):pO P w K mg base 1 "Holding" cs.Holding ["number", "part", "tool", "times"]:=by
 obtain⟨f,fd,M,F,b⟩:=T.k_Holding.mi;refine⟨f,fd,_,M,uw (k:=0) (N:=["self", "number", "part", "tool", "times"]) F ⟨rfl,rfl,rfl,by decide +kernel,rfl,by decide +kernel,by decide +kernel⟩ (λvs H Q E h=>?_) (λcdv A outer s H vs Q E hr h=>?_),b,T.m_Holding⟩
 .obtain⟨x,dx,args,rfl,hl,_⟩:=h;rw[NP,hl];rfl
 .obtain⟨x,dx,args,rfl,hl,c,k⟩:=h;obtain⟨g,rfl⟩:=Ex .non hl;refine⟨_,(fB (tY (pv 0) (pv 1) rfl) (fB (tY (pv 0) (pv 2) rfl) (fB (tY (pv 0) (pv 3) rfl) (ik (tY (pv 0) (pv 4) rfl))))),?_⟩;refine⟨_,rfl,_,rfl,x,cs.Holding,dx,_,rfl,c,T.k_Holding.cl,T.k_Holding.na _ #[1],(by show 0<1000;decide),_,rfl,_,rfl,x,cs.Holding,dx,_,rfl,aM,T.k_Holding.cl,T.k_Holding.na _ #[1],(by show 1<1000;decide),_,rfl,_,rfl,x,cs.Holding,dx,_,rfl,aM,T.k_Holding.cl,T.k_Holding.na _ #[1],(by show 2<1000;decide),_,rfl,_,rfl,x,cs.Holding,dx,_,rfl,aM,T.k_Holding.cl,T.k_Holding.na _ #[1],(by show 3<1000;decide),?_⟩;exact k _ (λb a=>by rw[aB a,aB a,aB a,aB a]) (by rw[aM];rfl)
set_option hygiene false
local macro_rules | `(tactic| exists $r)=>`(tactic| refine' $r ..) |`(tactic| exists $r,$rs,*)=>`(tactic| first|refine' $r ..|exists $rs,*)
local macro_rules | `(tactic| infer_instance)=>`(tactic| first|((with_reducible show _=_);exact rfl)|(with_reducible first|(show PD _ _ _ _;first|exists JX,Kc,Gb,LW,J6,Kd,LA,Mw,LH,Kl,KW,JD,KO,Ld,J1,La,JB,LX,LB,K8,Kj,KL,FF,Jh|(show PD _ _ _ (ao (sP _ _) _);apply Iv)|refine' HD ..|(show PD _ _ _ (ao _ _);apply HF)|exists B8,Bw,JH,Jr,Kw,FE,yq,FU,GZ,Hh,Dn,LF,Mf,J8,LG,Kb,Il)|(show PAD _ _ _ _;first|exists DY,F2)|(show PCD _ _ _ _;first|exists JS,Jg,KZ,KQ,JE,Gp,HQ,Dt,Fh,Hi|refine' IG (A7 ..)|refine' IG (Dr ..)|refine' Iq ..)|(show PSD _ _ _ _ _;first|exists Du,G8,yS,CQ,Dc,Ec|(show PSD _ _ _ (.Assign _ (.ListComp _ _ _ _) _) (aW _ _ (gL _));apply EY;apply xl;focus with_unfolding_all exact rfl)|(show PSD _ _ _ (.Assign _ (.ListComp _ _ _ _) _) (dh _ _ _);apply Fd;apply xl;focus with_unfolding_all exact rfl)|exists GO,DN,Ak|(show PSD _ _ _ _ (lV _ _ _);apply Hx)|exists Eh,EK,G1,G6,xX,DQ,Hc,E5|(show PSD _ _ _ _ (dN _ _ _ _);apply Ij)|refine' BL ..)|(show PBD _ _ _ _ _;first|exists vt,AA,cw)|(show PLD _ _ _ _;first|(show PLD _ _ _ (aO _ _ _ _ _);apply D1)|exists G7,B2)|(show PID _ _ _ _ _;first|exists yk,yC,yM,Ed,Ei,HH)|(show PIf _ _ _;first|exact PIf.nil|refine' PIf.one ..)|(show PWD _ _ _ _;first|exists A7,Dr,DO,HE)|(show TgS _ _ _ _;first|exists DU,Ax)|(show POD _ _ _ _;first|exists ED,Fz)) <;> infer_instance|((with_reducible show PBD _ _ _ _ (az (nT _ _ _ _ _ _ _ _ _ _ _) _));apply DD) <;> infer_instance|((with_reducible show PS _ _ _);apply Gy;focus with_unfolding_all exact rfl) <;> infer_instance|exact Ii #[1]|((with_reducible show PBD _ _ _ _ _); first|refine' cw ?_ ?_|refine' AA ?_) <;> infer_instance|((with_reducible show PG _ _ _); first|refine' Hb ?_ ?_ ?_|refine' KU ?_ ?_) <;> infer_instance|((with_reducible show PGs _ _ _); first|refine' Dy ?_ ?_|exact Ga) <;> infer_instance|exact rfl|((with_reducible show jP _ _ _ _ _ _ _ _ _);(with_reducible refine' jP.to ?z1 ?z2 ?z3);(case z1=>with_reducible assumption);(case z2=>exact⟨rfl,rfl,rfl,rfl,rfl⟩);(case z3=>rfl))|((with_reducible show pO _ _ _ _ _ _ _ _ _);(with_reducible refine' pO.to ?z1 ?z2);(case z1=>with_reducible assumption);(case z2=>exact⟨rfl,rfl,rfl,rfl,rfl⟩))|exact hr|exact Ie|exact Fj|exact T.bs _ (by decide +kernel)|exact T.cst (_,_) (by decide +kernel)|exact .inl rfl|exact .inr rfl|exact .inr (.inl rfl)|exact .inr (.inr rfl)|exact nd|exact E1 (by kernel_rfl)|exact S'.leaving|exact FK|exact tgd_pair|exact λ_=>rfl|exact λ_ _=>rfl|((with_reducible intro _ _ _ _);infer_instance)|exact T.e_NoErrand|exact T.e_NoErrands|exact T.e_NoRanks|exact Ky|exact T.k_Holding.cl|exact T.k_Holding.na _ (by decide +kernel)|exact Fw|exact bt_bool|exact wB|exact zY|exact cO.u1 hr|exact hr.units|exact⟨rfl,rfl,rfl,rfl⟩|exact hr.in1.deeper _|exact cO.u1 (hr.in1.deeper _)|decide|with_unfolding_all rfl)
local macro_rules | `(tactic| nofun)=>`(tactic| (try have:=BG (P:=P) (w:=w) (base:=base) T.toTx;try have:=xR P w T;try have:=CW P w T;try have:=vA P w T;try have:=yg P w T;try have:=qr P w T;try have:=Ca P w T;try have:=tZ P w T;try have:=Ks P w T;try have:=vT P w T;try have:=va P w T;try have:=lC P w T;try have:=zA P w T;try have:=mW P w T;try have:=yG P w T;try have:=oC P w T;try have:=Cr P w T;try have:=xa P w T;try have:=vP P w T;try have:=Bk P w T;try have:=rn P w T;try have:=CD P w T;try have:=C8 P w T;try have:=zF P w T;try have:=rj P w T;try have:=vC P w T;try have:=Cm P w T;try have:=qU P w T;try have:=mh P w T;try have:=BQ P w T;try have:=qa P w T;try have:=vG P w T;try have:=wg (P:=P) (w:=w) (base:=base) T.toTx;try have:=v8 P w T;try have:=uy P w T;try have:=rd P w T))
local macro_rules | `(tactic| and_intros)=>`(tactic| (nofun;intro f cdv A outer s H E nd hr;infer_instance))
variable (P w)(T:Ty K mg cs base)
def xR:=dA P w base 0 [] ["errand", "tool"] T.f_has_tool (yE cs) (by delta jC;and_intros)
def CW:=dA P w base 1 [] ["errands", "ranks", "tool", "place", "number"] T.f_height (CZ cs) (by delta mq;and_intros)
def vA:=dA P w base 2 [] ["errands", "ranks"] T.f_heights_of (uN cs) (by delta gr;and_intros)
def yg:=dA P w base 3 [5] ["errands", "ranks", "number", "place", "tops", "found", "lower", "part", "pair"] T.f_holdings (yR cs) (by delta jE;and_intros)
def qr:=dA P w base 4 [] ["errands", "ranks", "number"] T.f_hold_by_high (pL cs) (by delta fG;and_intros)
def Ca:=dA P w base 0 [] ["errand"] T.f_work_of (By cs) (by delta sU;and_intros)
def tZ:=dA P w base 0 [] ["times", "every"] T.f_rounded_up (uD cs) (by delta gu;and_intros)
def Ks:=dA P w base 1 [] ["errands", "ranks", "number", "held_up", "times", "total", "higher", "errand"] T.f_need (KG cs) (by delta ua;and_intros)
def vT:=dA P w base 2 [5] ["errands", "ranks", "number", "held_up", "most", "found", "level", "following"] T.f_levels_by (we cs) (by delta ip;and_intros)
def va:=dA P w base 3 [] ["errands", "ranks", "number", "held_up", "found"] T.f_longest_by (t8 cs) (by delta fH;and_intros)
def lC:=dA P w base 5 [] ["errands", "ranks", "number"] T.f_longest_by_high (mf cs) (by delta dF;and_intros)
def zA:=dA P w base 0 [] ["thing", "least", "most"] T.f_is_whole (xH cs) (by delta jr;and_intros)
def mW:=dA P w base 1 [] ["errands", "number"] T.f_checked_number (nz cs) (by delta eo;and_intros)
def yG:=dA P w base 0 [] ["thing", "fewest", "most"] T.f_is_tuple (yY cs) (by delta jd;and_intros)
def oC:=dA P w base 1 [] ["errands", "ranks", "last"] T.f_checked_ranks (oA cs) (by delta cB;and_intros)
def Cr:=dA P w base 1 [] ["thing"] T.f_is_part (B6 cs) (by delta gG;and_intros)
def xa:=dA P w base 2 [] ["thing"] T.f_are_parts (vV cs) (by delta f7;and_intros)
def vP:=dA P w base 3 [] ["thing", "every", "due", "late"] T.f_is_errand (wF cs) (by delta dX;and_intros)
def Bk:=dA P w base 4 [] ["errands"] T.f_checked (Ct cs) (by delta i5;and_intros)
def rn:=dA P w base 5 [] ["errands", "ranks", "number"] T.f_check_place (rD cs) (by delta fY;and_intros)
def CD:=dA P w base 6 [] ["errands", "ranks", "number"] T.f_longest (CA cs) (by delta kF;and_intros)
def C8:=dA P w base 0 [] ["_law_errand_here", "_law_spent", "_law_k", "_law_part"] (gf:=ba cs) (G:=jX cs) T.f_law_at l5 (by delta jX;and_intros)
def zF:=dA P w base 1 [3] ["_law_errands_here", "_law_spent", "_law_there", "_law_found", "_law_number", "_law_k", "_law_tool", "_law_begun"] (gf:=ck cs) (G:=gY cs _) T.f_law_held l5 (by delta gY;and_intros)
def rj:=dA P w base 0 [2] ["_law_errands_here", "_law_ranks_here", "_law_found", "_law_place", "_law_length", "_law_tool"] T.f_law_heights (rL cs) (by delta fW;and_intros)
def vC:=dA P w base 2 [7,10] ["_law_errands_here", "_law_ranks_here", "_law_lending", "_law_spent", "_law_there", "_law_tools", "_law_held_here", "_law_places", "_law_tool", "_law_rows", "_law_left", "_law_number", "_law_k", "_law_begun"] (gf:=bT cs) (G:=fu cs _ _ _) T.f_law_choose l5 (by delta fu;nofun;intro f cdv A outer s H E nd hr;exact (cw (by infer_instance)
 (cw (by infer_instance)
 (cw (by infer_instance)
 (cw (yS (by infer_instance) (cw (by infer_instance)
 (wc (i:=7) (O':=[10]) (by infer_instance) #[1] #[1])) vt)
 (cw (by infer_instance)
 (cw (by infer_instance)
 (Ik (i:=10) (O':=[7]) (wc (i:=7) (O':=[]) (by infer_instance) #[1] #[1])))))))))
def Cm:=dA P w base 3 [4,5,6,7] ["_law_errands_here", "_law_ranks_here", "_law_comings", "_law_lending", "_law_jobs", "_law_spent", "_law_made", "_law_there", "_law_k", "_law_one"] (gf:=cq cs) (G:=iP cs _ _) T.f_law_run l5 (by delta iP;and_intros)
def qU:=dA P w base 0 [] ["_law_errands_here", "_law_comings", "_law_done", "_law_found", "_law_time", "_law_job"] (gf:=bJ cs) (G:=eN cs) T.f_law_answers l5 (by delta eN;and_intros)
def mh:=dA P w base 0 [] ["_law_errand_here", "_law_row", "_law_moment", "_law_last", "_law_come"] (gf:=bz cs) (G:=cJ cs) T.f_law_are_comings l5 (by delta cJ;and_intros)
def BQ:=dA P w base 0 [] ["errand", "start"] (gf:=cp cs) (G:=iQ cs) T.f_soonest l5 (by delta iQ;and_intros)
def qa:=dA P w base 0 [] ["errands", "holding", "parts"] (gf:=bf cs) (G:=dY cs) T.f_start_behind l5 (by delta dY;and_intros)
def vG:=dT (P:=P) (w:=w) 8 [3] ["errands", "ranks", "number", "comings", "start", "found", "greatest", "one"] (gf:=cE cs) (G:=cI cs _ _ _ _) T.f_worst_run T.nm_worst_run T.tb_worst_run T.hB T.hK l5 λf cdv A outer s H E nd hr c Pt TAB=>by delta cI;nofun;exact (cw (by infer_instance)      (cw (by infer_instance)      (cw (by infer_instance)      (cw (by infer_instance)      (cw (yS (by infer_instance) (cw (Ak (i:=6) (ya (N:=["holding"]) (p:="holding") (cap:=[]) (T.bs _ #[1]) hr (by infer_instance) TAB (λq c' s H=>(by infer_instance))) nd (by infer_instance) (by infer_instance) (by infer_instance) (by infer_instance) (by infer_instance))      (by infer_instance)) vt)      (by infer_instance))))))
def v8:=dA P w base 2 [3,4] ["_law_script", "_law_at_here", "_law_many", "_law_left", "_law_made", "_law_k"] T.f_law_ranks (wL cs) (by delta iy;and_intros)
def uy:=dA P w base 2 [7] ["_law_script", "_law_at_here", "_law_top", "_law_tools", "_law_every", "_law_late", "_law_due", "_law_parts", "_law_k", "_law_cell"] T.f_law_errand (vk cs) (by delta gz;and_intros)
def rd:=dA P w base 3 [] ["_law_script", "_law_at_here", "_law_most", "_law_top", "_law_tools", "_law_many"] T.f_law_errands (rJ cs) (by delta fS;and_intros)
theorem law_ok(T:Ty K mg cs base)(F:Fun K "law" "law" (top 54) f fd):iH P w K mg base (CXW P w) 10 f fd ["_law_script"] (spD K 1 (fV 63)) :=
 dL (ps:=["_law_script"]) 9 [] ["_law_script", "_law_errands_here", "_law_ranks_here", "_law_number", "_law_found", "_law_comings", "_law_job", "_law_k", "_law_answer", "_law_most"] F (Md cs) (by delta Ai;and_intros)
end
end RS
namespace L2
open PySem PySem.Spec PyProof.Rows
end L2
set_option maxHeartbeats 4000000
namespace L2
open PySem PySem.Spec PyProof.Rows
variable {P:J'}{vs:QR GC}
theorem DB{f:J'}{o:Rv}(h1:PySem.W.nsIn K mainGlobals x=Y (Y (.ref f)))(h2:K.lookup f=Y ⟨oc,od,.func fd,sl⟩)(h3:fd.code=.ref c)(h4:K.lookup c=Y o)(h5:o.data=.fields vs)(h6:vs[11]?=Y (.ref P)):PySem.W.tabIn K x=Y (c,P):=by obtain⟨cl,di,da,so⟩:=o;cases h5;unfold PySem.W.tabIn;rw[h1];simp only;rw[h2];simp only;rw[h3];simp only;rw[h4];simp only;rw[h6]
theorem Ck(hl:ml=[x]){p:QS}{d:Wb}(hr:(recsOf p).find? (λe=>e.name==x)=Y d)(hn:PySem.W.noTabs K=true)(T:Top p loose mean mg mb h)(X:K.In h):mS K h:=by
 refine⟨λP q ⟨x',hx,f,oc,od,fd,sl,c,h1,h2,h3,⟨o,vs,h4,h5,h6⟩,hq⟩=>?_,λP q q' ⟨x1,hx1,_,_,_,_,_,_,_,_,_,_,e1⟩ ⟨x2,hx2,_,_,_,_,_,_,_,_,_,_,e2⟩=>?_⟩
 .rw[hl]at hx;cases NQ.mp hx;have ht:=DB h1 h2 h3 h4 h5 h6;obtain⟨hc,hp⟩:=PySem.W.tab_of T X hr ht;refine⟨hp,?_,?_⟩
  .cases z:K.lookup P with
   |none=>rfl
   |some o' =>exfalso;have e:=X P o' z;rw[hp]at e;cases e;have h7:=NT.mp hn (P,_) (PySem.W.mem_of_lookupK z);exact Qr (show false=true from h7) NL
  .obtain⟨o2,vs2,_,_,_,_,_,_,_,g1,g2,g3,g4,_⟩:=hc;exact⟨c,o2,vs2,g1,g2,g3,g4⟩
 .rw[hl]at hx1 hx2;rw[e1,e2,NQ.mp hx1,NQ.mp hx2]
theorem BM{file:Qn}{tf:O}{flags text:Z}{tg tt:O}{inF:Qo}(l:K.lookup c=Y ⟨.type "code",od,.fields vs,sl⟩)(h11:vs[11]?=Y (.ref P))(h18:vs.getD 18 .none=.str file tf)(h7:vs.getD 7 .none=.int flags tg)(h9:vs.getD 9 .none=.bool inF)(h10:vs.getD 10 .none=.int text tt)(ne:(c != P)=true):PySem.W.codeHdIn K c P=true:=by unfold PySem.W.codeHdIn;rw[l];simp only;rw[h11,h18,h7,h9,h10,ne];simp
theorem G4{f:J'}{od2:F1 J'}{sl2:QR (F1 GC)}{file:Qn}{tf:O}{flags text:Z}{tg tt:O}{inF:Qo}(h1:PySem.W.nsIn K mainGlobals x=Y (Y (.ref f)))(h2:K.lookup f=Y ⟨oc,od,.func fd,sl⟩)(h3:fd.code=.ref c)(l:K.lookup c=Y ⟨.type "code",od2,.fields vs,sl2⟩)(h11:vs[11]?=Y (.ref P))(h18:vs.getD 18 .none=.str file tf)(h7:vs.getD 7 .none=.int flags tg)(h9:vs.getD 9 .none=.bool inF)(h10:vs.getD 10 .none=.int text tt)(ne:(c != P)=true):Im K x :=
 ⟨f,oc,od,fd,sl,c,P,_,vs,h1,h2,h3,l,rfl,h11,BM l h11 h18 h7 h9 h10 ne⟩
theorem xO(hl:ml=[x]){p:QS}(hr:((recsOf p).find? (λe=>e.name==x)).isSome=true)(hn:PySem.W.noTabs K=true)(T:Top p loose mean mg mb h)(X:K.In h):mS K h:=by obtain⟨d,hd⟩:=OW.mp hr;exact Ck hl hd hn T X
end L2
set_option hygiene false
local macro_rules | `(tactic| and_intros)=>`(tactic| first|(refine' RS.DZ KX G (λ_ _ _ _ _ _ us hl=>by obtain⟨f,rfl⟩:=RS.Ex PySem.Value.none hl;rfl) ?za ?zl ?zc ?zk;(case za=>k_is);(case zl=>k_is);(case zc=>k_is);(case zk=>k_is))|(refine' L2.meth_mk (λ_ _ _ _ _ _ us hl=>by obtain⟨f,rfl⟩:=RS.Ex PySem.Value.none hl;rfl) ⟨?zm,?zf,?zp⟩ ?zl ?zc ?zq;(case zm=>k_is);(case zf=>k_is);(case zp=>k_is);(case zl=>k_is);(case zc=>k_is);(case zq=>k_is))|(refine' PySem.W.mg_of KX G ?za;(case za=>k_is))|(refine' PySem.W.mg_none_of KX G ?zz;(case zz=>k_is))|(refine' RS.HX KX G ?zz;(case zz=>k_is))|(refine' RS.AK KX G ?za ?ze;(case za=>k_is);(case ze=>k_exc))|(refine'⟨_,RS.AK KX G ?za ?ze⟩;(case za=>k_is);(case ze=>k_exc))|(refine'⟨?zp,?zh,?zo,?zs⟩;(case zp=>k_is);(case zh=>k_is);(case zo=>k_is);(case zs=>k_is))|(refine' L2.Iy (λ_ _ _ _ _ _ us hl=>by obtain⟨f,rfl⟩:=RS.Ex PySem.Value.none hl;rfl) ?za ?zi ?zl ?zc ?zk ?zm ?zx;(case za=>k_is);(case zi=>k_is);(case zl=>k_is);(case zc=>k_is);(case zk=>k_is);(case zm=>k_is);(case zx=>k_is))|exact J.forall_mem_nil _|((first|refine J.forall_mem_cons.2 ⟨?_,?_⟩|refine J.forall_mem_singleton.2 ?_) <;> (try dsimp only) <;> and_intros)|(refine' L2.G4 ?za ?zb ?zc ?zd ?ze ?zf ?zg ?zh ?zi ?zj;(case za=>k_is);(case zb=>k_is);(case zc=>exact rfl);(case zd=>k_is);(case ze=>exact rfl);(case zf=>exact rfl);(case zg=>exact rfl);(case zh=>exact rfl);(case zi=>exact rfl);(case zj=>decide))|exact λg e=>PySem.W.mg_of KX G e|(delta L2.iK;k_is)|(dsimp only;and_intros))
open PySem PySem.W PyProof.Rows
set_option maxRecDepth 100000 in
set_option maxHeartbeats 0 in
theorem PySem.Challenge.cw_ranksure_k13_whole_worst_run_holds : PySem.Challenge.rw_ranksure_k13_whole_worst_run.Holds := by
 refine RS.hdTop ?_
 k_fill
 refine RS.MA (l:=PySem.Challenge.rw_ranksure_k13_whole_worst_run) (n:=63) (k:=10) (x:="_law_script") (st:=RS.top 54) rfl (by decide) rfl ⟨rfl,by decide,by decide⟩ (λw h Y=>PySem.W.km_in_of Y) (λ_ _ _ _ _ _ us hl=>by obtain⟨f,rfl⟩:=RS.Ex PySem.Value.none hl;rfl) ?F (λw h l m mg mb T X=>L2.xO (x:="worst_run") rfl (by kernel_rfl) (by kernel_rfl) T X)
 case F =>
  intro w mg h KX G;obtain⟨c_NoErrand,h_NoErrand⟩:∃C,L2.v9 (L2.KOf KX) mg "NoErrand" C:=by delta L2.KOf;and_intros
  obtain⟨c_NoErrands,h_NoErrands⟩:∃C,L2.v9 (L2.KOf KX) mg "NoErrands" C:=by delta L2.KOf;and_intros
  obtain⟨c_NoRanks,h_NoRanks⟩:∃C,L2.v9 (L2.KOf KX) mg "NoRanks" C:=by delta L2.KOf;and_intros
  obtain⟨c_Holding,h_Holding,k_Holding⟩:∃C,mg "Holding"=Y (.ref C)/\RS.qN (L2.KOf KX) C:=by
   delta L2.KOf
   refine'⟨_,PySem.W.mg_of KX G ?za,⟨?zp,?zh,?zo,?zs⟩,?yHolding0,?yHolding1⟩
   (case za=>k_is);(case zp=>k_is);(case zh=>k_is);(case zo=>k_is);(case zs=>k_is);all_goals and_intros
  have T:RS.Tx (L2.KOf KX) mg ⟨0,c_NoErrands,c_NoRanks,0,c_NoErrand,0,0,0,c_Holding,0⟩:=by constructor <;> first|assumption|((try delta L2.KOf);and_intros)
  exact⟨T.f_law,λf fd F base hb hn hB=>RS.law_ok _ _ ⟨T,hB,hb⟩ F⟩
end
