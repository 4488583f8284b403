import PyProof.Rows.All
import OpenK.AllK
import PySem.Challenge.RW_ranksure_k27_whole_asked_no_longer
import KE.RegKIsAll
import Wide.All
import OpenK.KWalk
import OpenK.KMake
import OpenK.KDescr
import OpenK.KCall
import OpenK.KOwn
import KE.KIsAll
import KE.KItem
import KE.KxBytes
import Wide.FinOn
import Lean
import PyProof.EqAt
import PyProof.EqKinds
import PyProof.TupleCall
import KE.KLam
import KE.LcSums
import PyProof.Rows.EqDataRows
import PyProof.RulesAs
import PyProof.ZipIter
import PyProof.Draws
import KE.KMinKey
import PyProof.Rows.TupAdd
import PyProof.ListMulRoad
import PyProof.AutoListH
import PyProof.Rows.Range3
import PyProof.ListRange
import PyProof.EnumMake
import PyProof.EnumFor
import PyProof.Rows.SetFrom
import PyProof.WalksMore
import PyProof.StrOps2
import PyProof.Rows.MinMaxN
import PyProof.ConsumeWalk
import PyProof.Rows.SortWalk
import PyProof.ExcArgsOwn
import PyProof.StrBlock2
import PyProof.Rows.CallKwBuiltin
import KE.KDictLaws
import KE.KDictMeth
import KE.KDictObj
import KE.KDictLetter
import OpenK.KDict
import KE.KDictOf
import PyProof.Rows.RegDictMethods
import PySem.PyData
import KE.KNestM
noncomputable section
set_option genSizeOf false
set_option genSizeOfSpec false
set_option genInjectivity false
set_option compiler.extract_closed false
set_option bootstrap.genMatcherCode false
set_option Elab.async false
set_option linter.all false
open List renaming getElem?_eq_getElem->My,map_cons->P0,mem_cons_of_mem->P4,length_map->P6,mem_cons_self->P7,mem_cons->P8,mem_map->PQ,mem_append_right->PR,length_append->PU,mem_singleton->PV,size_toArray->PX,length_cons->PZ,getD_eq_getElem?_getD->Q2,map_congr_left->Q3,getElem?_map->Q5,all_eq_true->Q6,map_map->Q8,not_mem_nil->Q9,getElem?_eq_some_iff->Qa,getElem?_append_left->Qc,find?_cons->Qd,sum_cons->Qe,mem_filter->Qg,getElem?_append_right->Qh,getElem?_set_ne->Qi,lookup_cons->Qj,getElem_mem->Qk,mem_append->Ql,map_append->Qm,filter_cons->Qn,nodup_cons->Qq,length_singleton->Qr,nil_append->Qs,mem_of_mem_drop->Qt,mem_append_left->Qu,map_nil->Qv,foldl_cons->Qw,cons_append->Qx,mem_of_getElem?->Qz,getElem?_set_self->QA,append_nil->QC,length_nil->QF,map_id->QJ,any_eq_true->QO,mem_of_mem_take->QP,append_assoc->QR,getElem?_eq_none->QS,getElem?_cons_succ->QV,getElem?_cons_zero->QW,flatten_cons->QX,flatMap_cons->QY,replicate_succ->QZ,length_pos_iff->R5,getElem?_range->R6,any_cons->R8,mem_range->Ra,set_cons_succ->Rc,set_cons_zero->Rg,find?_eq_none->Rh,drop_eq_getElem_cons->Ri,getElem?_mapIdx->Rj,length_filter_le->Rk,length_drop->Rl,length_eq_zero_iff->Rn,ne_nil_of_mem->Rq,pairwise_cons->Rt,length_take->Rw,all_cons->Ry,exists_cons_of_ne_nil->Rz,filterMap_cons->RB,take_succ_cons->RC,getElem_of_mem->RD,of_mem_zip->RF,forIn_cons->RG,mem_of_find?_eq_some->RI,zip_cons_cons->RJ,nodup_nil->RM,getElem?_replicate->RN,length_range->RO,nodup_append->RP,getLast?_map->RQ,take_of_length_le->RR,range'_succ->RV,mapIdx_cons->RW,set_append_right->RY,take_append_drop->S0,mem_iff_getElem?->S3,range_eq_range'->S5,mem_filterMap->S7,any_eq_false->Sb,findIdx_cons->Se,foldl_append->Sf,find?_append->Sg,drop_length->Sj,ext_getElem->Sk,mem_flatMap->Sm,replicate->I',range->LN,length->U6,foldl->U8,lookup->Uj,range'->Ul,getElem?_zip_eq_some->UQ,getLast?_eq_none_iff->UR,getLast?_eq_getElem?->US,getElem?_take_of_lt->U',drop_of_length_le->Vk,length_replicate->Vo,getElem?_of_mem->VC,findIdx_getElem->VD,take_zero->VE,length_zipWith->VI,map_drop->VQ,getElem?_drop->W8,take_sublist->Wg,ext_getElem?->WC,drop_sublist->WG,getElem_inj->WJ,map_fst_zip->WR,zipIdx_cons->WU,take_length->WX,nodup_range->W',zipIdx_nil->Xc,range_succ->Xf,filter_map->Xg,find?_some->Xi,sum_append->Xj,forIn_nil->XC,map_take->XM,any_map->Y2,all_nil->Y4,sum_nil->Y6
open PySem.Heap renaming get?_push_of_some->P5,get?_push_size->PY,lt_size->Q0,get?_update_other->QI,get?_update_self->Rv,size_push->SJ,SameBut->T8,MadeExcOf->XA,IsTuple->Y1
open Bool renaming and_eq_true->P9,false_ne_true->Q1,false_eq_true->Qb,and_eq_false_iff->QK,and_eq_true_iff->QN,and_true->Ro,true_and->RU,false_or->S9,and_self->Sa,not_eq_true'->Sd,or_eq_true->Vl,not_false->VB,not_true->VS,eq_false_iff->WD,or_false->XJ
open Nat renaming le_refl->PN,ne_of_lt->Q4,lt_of_lt_of_le->Q7,lt_succ_of_lt->Qy,le_trans->QD,zero_add->QG,zero_le->QH,ne_of_gt->QT,le_add_right->QU,lt_irrefl->R7,lt_succ_self->R9,le_succ->Ru,le_of_lt->Si,reduceAdd->Uw,reduceLT->UG,le_of_eq->Wc,mul_comm->Wq,le_succ_of_le->Wu,add_zero->WE,succ_ne_self->WS,succ_lt_succ->X0,not_lt_zero->Xh,sub_self->Y3,succ_pos->Y5,not_le->Yq
open Int renaming mul_le_mul_of_nonneg_right->Qo,toNat_natCast->Qp,le_refl->QB,emod_nonneg->QM,emod_lt_of_pos->Rb,toNat_of_nonneg->Rm,add_mul->RA,ediv_nonneg->RH,le_trans->RK,natCast_nonneg->RL,ediv_eq_zero_of_lt->RT,mul_ediv_add_emod->RZ,add_mul_ediv_left->S4,mul_nonneg->S6,lt_of_lt_of_le->S8,add_zero->Sl,add_assoc->VR,one_mul->X8,not_lt->XG,mul_one->Ye,sub_mul->Yi
open Array renaming length_toList->QE,getElem?_toList->RX,toList_append->VH,getElem_mem->Wx,toList->XX
open Option renaming map_some->QL,map_eq_some_iff->QQ,bind_some->Rx,some->Y,none->S,isSome_iff_exists->UZ,getD_none->WM,getD_some->WT,or_none->XF
open _root_ renaming Int->Z,List->J,Nat->O,Option->D',if_pos->FC,if_neg->GC,decide_eq_true_eq->L3,decide_eq_false->L',decide_eq_true->O',Bool->R0,if_true->Sn,absurd->So,of_decide_eq_true->Sw,decide_eq_false_iff_not->SD,beq_eq_false_iff_ne->SE,if_false->SK,Array->SN,beq_self_eq_true->T6,or_false->Tp,of_decide_eq_false->Tr,beq_iff_eq->TB,String->U2,decide_eq_decide->V8,and_self->Wy,decide_true->X7,not_or->XD,Unit->XI,and_true->Yh
open PySem renaming PyData->L,wpAny_bind->F1,Value->F',Addr->HL,wpAny_pure->J',Shared->K',Str->M',Builtin->Rf,Expr->Sq,Around->Ss,NameKind->Sv,Heap->Sy,sizeLine_eq->SA,Program->SQ,wpAny_seqItems->SS,wpAny_mono->SW,wpAny_truthy_bool->SY,wpAny_field->S',World->T1,wpAny_tryCatch->T3,wpAny_Call_Name_kw->T4,wpAny_callSpecial?_slot->T5,wpAny_holding->T7,wpAny_newObj_type->T9,TriplesOk->Tb,wpAny_loadPart'->Tc,Keyword->Tg,wpAny_pyIter_tuple->Tn,Obj->Tt,wpAny_passesOwn->Tv,codeAny_builtin->Tw,wpAny_letGo->Tz,plainId_quiet->TH,wpAny_call_entry->TM,IsPair->TN,codeAny_mono->TY,wpAny_setField_rec->T',wpAny_updateSeq->U0,call_meets->U9,wpAny_pyIter_list->Um,Stmt->Ur,wpAny_execs_nil->Ux,wpAny_rule->UL,tupleKind_room_in1->UN,wpAny_binaryOp_repeat_ref->UP,Scope->UT,IsZip->UU,wpAny_pyIter_enum->UW,wpAny_standAt->UY,PassesOwn->V2,noFill_tuple_add->V3,wpAny_pyNext_range_end->Vb,wpAny_pyIter_rangeiter->Vc,IsPart->Ve,typeIs_int->Vg,wpAny_Call_method_late->Vh,wpAny_isTrue_Compare1->Vn,Pos->Vp,wpAny_loadName_local->Vr,IsRangeIter->Vs,wpAny_newFunctionEnv->Vv,wpAny_updateSeq_pair->Vw,isSubtype_type->Vx,wpAny_loadName_cell->VF,seq_tuple_add->VM,nums_intItems->VO,wpAny_onRaise->VP,wpAny_pyIter_range->VW,wpAny_call->VZ,FuncData->W9,Operator->Wa,wpAny_assign_Name->Wb,concat_meets->Wi,wpAny_sequenceKey->Wj,wpAny_typeOf->Wl,seqIndex_neg->Wm,slot_list_getitem->Wn,Draws->Ws,wpAny_Call_method->WA,Env->WH,wpAny_execs_cons->WK,wpAny_pyIter_zip->WW,wpAny_Dict_empty->WY,seqIndex_of->X4,wpAny_of_eq->X5,intItems_at->X6,wpAny_ite_false->Xe,wpAny_Name->Xp,wpAny_Compare1->Xq,wpAny_loadPart->Xu,fitsIndex_both->Xx,wpAny_setField->XB,numAt_eq->XE,CmpOp->XN,Sem->XQ,Meets->XT,Result->XY,BindsTo->XZ,Tok->Yj,Params->Yl,DefRec->Yn
open PySem.PyData renaming int->EE,eqv->SX,tuple->Ta,eqvAll->TK,canLay0->TQ,bool->TR,depth->Ub,list->Uk,canLayAll0->Uq,depthAll->UB,str->Vj,none->VA
open PySem.W renaming Frag->N',boot_heap->U1,emptyDict->U5,findIn->Ug,keepIn->Uo,instObj->Ut,hideAll_get->UX,fnOf->V0,kia_one->V4,plainGet_of->VL,boot_drawn->VT,plainGet->VY,callWith_K->Wf,codeIn->Wh,cellsFrom_some->WL,methodObj->X1,hasDictIn->X3,methodCall_KW->X9,OpenLaw->Xk,excIn->Xl,nsIn->Xo,lookIn->Xs,kla_fn->Xz,boot_toks->XO,takerIn->XR,makesIn->XS,kla_obj->XU,of_hideAll->XW,envX->Y0,isFn->Yk,WData->Yr,mg_of->Ys
open Option.some renaming inj->P',injEq->Wv
open PyProof.Rows renaming callWith_type1->Su,slot_tuple_getitem->SH,step_dedup->SU,IntsAre->Ts,callWith_builtin1->TL,AllBare->UD,subscriptTail_builtinR->Vf,entry_tuple_getitem->VG,Constant_none->VJ,boot_range->VX,args_tuple_getitem->W0,Top->WQ,get?_update_seq->Xd,IsTup->Xn,Call_->Xr,slicePart_none->Xv,Subscript_->Xw
open PySem.Value renaming ref->Sz,none->TV,type->U4,int->Us,bool->Va,notImplemented->Vu,str->WI,isStrOf->XH,isInt->Y7,bytes->Y8,float->Y9
open PySem.SeqAt renaming shaped->SF,EqAt->SG
open PySem.Builtin.Range renaming rangeSize->SI,small->UC
open PySem.NameKind renaming free->SM,cell->VN
open PySem.Builtin.SmallTypes renaming nextOf->SO,ownedTupleIsFree->T2,ownedTupleHandOut->Ue
open False renaming elim->SR
open PySem.Str renaming ofString->SV
open PySem.Obj renaming mapSeq->Td,data_mapFields->W3
open PySem.Around renaming under_plainId->Te,frames_deeper->Vt,under->Wd
open ForInStep renaming yield->Tf
open PySem.Builtin.Builtins renaming bindParams->Th
open PySem.F renaming plain_min_loop->Ti,plain_max_loop->Tj,slot_tuple_iterator_next->Tq,plainAttrs_list->Up,slot_int_rmul->Uy,args_tuple_iterator_next_1->Uz,slot_zip_next->UA,entry_tuple_iterator_next->UE,slot_list_append->UK,entry_min_loop->V5,slot_tuple_mul->V6,entry_max_loop->V7,slot_dict_get->Vm,slot_list_extend->W2,type_list_append->W4,slot_tuple_index->W5,slot_dict_values->W7,args_int_rmul_2->Wo,args_zip_next_1->Wt,slot_tuple_rmul->Ww,args_dict_get_3->Wz,plainAttrs_dict->WB,slot_int_index->WN,entry_int_rmul->WO,entry_zip_next->WV,entry_dict_get->WZ,slot_list_pop->Xa,fills_int_mul->Xb
open PySem.Calls renaming spliced_cons->To,callWith_builtin->TZ,spliced_nil->U3,evalArgs_plain->U7,Name_function_global->UH
open PySem.Builtin.Slice renaming slicePlaces->Tu,sliceAdjust->Uc,sliceApplied->UI
open PySem.Builtin.Tuple renaming tupleExact->TC,tupleItemsOf->UJ,tupleTooMany->UM
open PySem.Builtin.List renaming listTooLong->TF
open Int.ofNat renaming inj->TJ
open Sum renaming inl->TU,inr->V9
open True renaming intro->TX
open Classical renaming not_forall->Ua
open PySem.Heap.SameBut renaming update->Ud
open Ne renaming symm->Uh
open List.cons renaming injEq->Ui
open PySem.PyData.int renaming injEq->Uu
open Prod.mk renaming injEq->Uv
open List.Nodup renaming sublist->UO
open PySem.AutoSeq1 renaming sub_tuple_tuple->V1
open PyProof renaming noPylong_small->Vd
open PySem.Walks renaming list->Vi,range->Yd
open Sum.inl renaming inj->Vq
open PySem.Shared renaming heap->Vy
open PySem.Value.type renaming inj->Vz
open PySem.SeqAt.EqAt renaming int_str->VU,str_int->VV,int_int->V'
open PySem.PyData.tuple renaming injEq->W6
open PySem.Code renaming isFrame->We,frames->Yg
open List.Pairwise renaming nil->Wr
open PySem.IsRange renaming new->X2
open Prod renaming ext->Xm
open Or renaming inl->Xy,inr->Yo
open PySem.CmpOp renaming NotIn->Yb,In->Yv
open PySem.Data renaming fields->Yc,cell->Yt
open PySem.W.WShape renaming has->Ym
open PySem.Draws renaming list->Yp
open PySem.W.WData renaming int->Yu
variable {p pos pos' cpos spos tp pn kp:Vp}{q P prog:SQ}{loose N M ps own names:J M'}{α β:Type}{us its':J F'}{a b it c C dx f D:HL}{h base h':Sy}{items:SN F'}{w:T1}{g':SN GenState}{ch A fp B A0 as:J HL}{i j m x1 n0:O}{x qual:M'}{E Q:F'->K'->Prop}{u cd pm ct oc:F'}{s' s:K'}{z7:J (HL×Tt)}{op:XN}{K:PySem.W.Frag}{n T y1 y0:Z}{tg body iter elt:Sq}{g:J (M'×L)->D' (J (M'×L))}{lo hi:D' Z}{mA mg mb:M'->D' F'}{env:WH}{outer:J WH}{fd:W9}{scope:UT}{params:Arguments}{an od:D' HL}{osl sl:SN (D' F')}{l:J (Z×Z)}{ns ms rs row:J Z}{XP:(M'->D' F')->Sy->Prop}{YP:T1->Sy->Prop}{st:Ur}{cl:J (M'×HL)}{ifs elts:J Sq}{ds:J L}{newId:U2}{D2 cap:J O}{nd z6:L}{tl:J (M'×Z)}{z5:J (J Z)}{ve:O->D' O}{mean:ExcName->D' F'}
namespace RS
open PySem PySem.W PyProof.Rows
def C0(p:SQ)(w:T1)(m:O)(ann:D' F'):O->SharedT->Thread->D' SharedT
 |0,_,_=>S
 |n+1,s,t=>match through t with
  |true=>Y s
  |false=>match Fast.tw6613529449190102663 m ann t with
   |false=>S
   |true=>match Fast.tw10156331382660048174 (Fast.tw11892475500146522536 Fast.tw14364793385576792824) p w s t with
    |some x=>C0 p w m ann n x.1 x.2
    |none=>S
theorem zO{p:SQ}{w:T1}{m:O}{ann:D' F'}:∀{n:O}{s s':SharedT}{t:Thread},C0 p w m ann n s t=Y s'->topRun treeTable p w m ann n s.abs t=Y s'.abs
 |0,_,_,_,h=>by cases h
 |n+1,s,s',t,h=>by
  unfold C0 at h;rw[<-Fast.te6613529449190102663,<-Fast.te10156331382660048174,<-Fast.te11892475500146522536,<-Fast.te14364793385576792824]at h;unfold topRun;cases ht:through t with
  |true=>rw[ht]at h;cases h;rfl
  |false =>
   rw[ht]at h;cases hk:stepOk m ann t with
   |false=>rw[hk]at h;cases h
   |true =>
    rw[hk]at h;cases hs:stepT (denote treeTable) p w s t with
    |none=>rw[hs]at h;cases h
    |some x =>rw[hs]at h;rw[stepT_spec (s':=x.1) (t':=x.2) hs];exact zO h
noncomputable def ML(l:J Tt):BT:=(l.foldl (λx o=>(x.1.ins x.2 o,x.2+1)) (BT.nil,0)).1
def hdS(w:T1)(os:OsState):SharedT:=⟨ML (U1 w.params).objs.toList,11,(U1 w.params).life,SN.mk [],VT,XO,os⟩
theorem IG(w:T1):(λos=>(hdS w os).abs)=λos=>⟨U1 w.params,SN.mk [],VT,XO,os⟩:=by kernel_rfl
theorem LM(w:T1):((U1 w.params).isNs mainGlobals&&(SN.mk []:SN GenState).size==0,(U1 w.params).objs.size,(U1 w.params).nsMap mainGlobals "__annotations__")=(true,11,Y (.ref 6)):=by kernel_rfl
def FP(p q:SQ)(loose:J M')(Xt:K'->R0){α:Type}(Yf:K'->α)(h:Sy)(s:K') :=
 (staticsOk (importedModules p.main.body) h s.heap&&namesBound p s.heap&&gensDone s&&laidKept h s.heap,Fast.tw4187177175401517315 q loose (importedModules p.main.body) Xt true s,Yf s)
theorem Mj{p:SQ}{Xt:K'->R0}{Yf:K'->α}{Ya:T1->α}{N M:O}
  (e:opening p=plainProg p.main.scope.names) (a:O.ble 600 N=true) (f:∀s,fenceModules? p s=Y s) (le:O.ble M N=true)
  (h:∀w,(λos=>(C0 p w 11 (Y (.ref 6)) M (hdS w os) (topStub p)).map λs=>FP p q loose Xt Yf (U1 w.params) s.abs)=λ_=>Y (true,openGood q loose,Ya w)):LeftO p q loose Xt Yf Ya N:=λw=>by
 obtain⟨⟨b,gs,d,k,os⟩,e1,c⟩:=QQ.mp (boot_open e a f w);obtain⟨rfl,rfl,rfl,rfl⟩:b=U1 w.params/\gs=SN.mk []/\d=VT/\k=boot_toks:=by simpa using c
 obtain⟨z1,z2,z3⟩:_/\_/\_:=by simpa only[Uv] using LM w
 obtain⟨s,g,hv⟩:=QQ.mp (congrFun (h w) os);obtain⟨l1,l2,l3⟩:_/\_/\_:=by simpa only[FP,<-Fast.te4187177175401517315,Uv] using hv
 have r:=zO g;rw[congrFun (IG w) os]at r;have r:=topRun_mono (N-M) _ _ _ _ r;rw[show M+(N-M)=N by have:=O.le_of_ble_eq_true le;omega]at r;unfold openEnds;rw[e1];show (topFrom treeTable p w N _).map _=_;have t:topFrom treeTable p w N ⟨U1 w.params,SN.mk [],VT,XO,os⟩=Y s.abs:=by unfold topFrom;dsimp only;rw[z1,z2,z3,r];show (match staticsOk (importedModules p.main.body) (U1 w.params) s.abs.heap&&namesBound p s.abs.heap&&gensDone s.abs&&laidKept (U1 w.params) s.abs.heap with|true=>_|false=>_)=_;rw[l1]
 rw[t];exact congrArg Y (Xm l2 l3)
end RS
def PySem.W.Fast.tw13811809058688636515:PySem.Program:=PySem.Challenge.pw_ranksure_k27_whole_asked_no_longer
theorem PySem.W.Fast.te13811809058688636515:PySem.Challenge.pw_ranksure_k27_whole_asked_no_longer=PySem.W.Fast.tw13811809058688636515:=rfl
section
open PySem PySem.W PyProof.Rows
def RS.vw:Program:=view PySem.Challenge.pw_ranksure_k27_whole_asked_no_longer [1,2,3,4,5,7,8,9,10,11,12,13,14,15,16,17,18,19,20,21,22,23,24,25,26,28,29,30,31,32,33,34,35,36,37,38,39,41,42,43,44,45,46,47,48,49,50,51,52,53,54,55,57,58,59,60,61,62,63,64,65,66,67,68,69,70,71]
local macro_rules | `(tactic| o_head $H)=>`(tactic| (refine holds_open (N:=6778) (Xt:=λs=>xlAt RS.vw [] s&&recOk (RowW.records (OpenRow.toRowW (OpenLaw.row PySem.Challenge.rw_ranksure_k27_whole_asked_no_longer))) s) (XP:=XL RS.vw []) (q:=RS.vw) (loose:=[]) (Yf:=Hook.obs $H) (Ya:=Hook.val $H) (YP:=Hook.says $H) ?hl (Hook.of $H) (Hook.keeps $H) (λs e=>xl_of s (QN.mp e).1) XL.keeps (by rfl) (by rfl) (by rfl) (λs e=>recFacts_of (QN.mp e).2) (by rfl) (by assumption) (by decide +kernel) ⟨rfl,rfl,rfl,rfl,rfl,by decide +kernel⟩ ?hw ?hc;(case hl=>refine RS.Mj (M:=3439) (by kernel_rfl) (by rfl) (by intro s;kernel_rfl) (by rfl) λw=>?_;kernel_rfl)))
set_option maxRecDepth 100000 in
set_option maxHeartbeats 0 in
open_top RS.hdTop for PySem.Challenge.rw_ranksure_k27_whole_asked_no_longer
end
set_option maxRecDepth 100000
set_option hygiene false
local macro_rules|`(⋯)=>`(by omega)|`(#[1])=>`(by decide)|`(#[2])=>`(by simp)|`(↑$x)=>`(gC (.int $x))|`(⇑$x)=>`(Y (.int $x))|`(↥$x)=>`(Y (.list $x))|`(#[0,$x:num])=>`(af (ae $x) ah)|`(#[0,$x])=>`(af $x ah)|`(#[0,$x:num,$y,*])=>`(af (ae $x) #[0,$y,*])|`(#[0,$x,$y,*])=>`(af $x #[0,$y,*])
local macro_rules|`(tactic|dsimp[$x,*])=>`(tactic|simp only[$x,*])|`(tactic|dsimp[$x,*]$l:location)=>`(tactic|simp only[$x,*]$l:location)
local macro_rules|`(#[3,$x,*])=>`([Y (ar es),Y (aj rs),$x,*])
namespace L2
open PySem PySem.Spec PyProof.Rows
variable {g:Z->Z->Z}{es:J Sq}{body:J Ur}{c e:Sq}{M:Model}{A:Ss}
abbrev Key:=Sum Z M'
def u0:Key->F'->R0
 |.inl k,v=>Y7 k v
 |.inr x,v=>XH x v
def oM(w:T1):Key->Z
 |.inl k=>hashInt k
 |.inr x=>hashStr w x
theorem dq:∀{k:Key}{v:F'},u0 k v=true->(∃i t,k=TU i/\v=Us i t)\/(∃x t,k=V9 x/\v=WI x t)
 |.inl i,v,h=>by obtain⟨t,e⟩:=F'.isInt_shape (k:=i) (v:=v) h;exact .inl ⟨i,t,rfl,e⟩
 |.inr x,v,h=>by obtain⟨t,e⟩:=F'.isStrOf_shape (x:=x) (v:=v) h;exact .inr ⟨x,t,rfl,e⟩
theorem EM(i:Z)(t:Yj):u0 (.inl i) (.int i t)=true:=by simp[u0,Y7]
theorem En(x:M')(t:Yj):u0 (.inr x) (.str x t)=true:=by simp[u0,XH]
theorem Mt(a b:Z):decide ((TU a:Key)=TU b)=(a==b):=by
 by_cases e:a=b
 .subst e;simp
 .have h:¬ (TU a:Key)=TU b:=λq=>e (Vq q)
  rw[L' h];exact (SE.mpr e).symm
theorem Mf(a b:M'):decide ((V9 a:Key)=V9 b)=decide (a=b):=by
 by_cases e:a=b
 .subst e;simp
 .have h:¬ (V9 a:Key)=V9 b:=λq=>e (V9.inj q)
  rw[L' h,L' e]
theorem Nf(a:Z)(b:M'):decide ((TU a:Key)=V9 b)=false:=L' (λq=>nomatch q)
theorem LK(a:M')(b:Z):decide ((V9 a:Key)=TU b)=false:=L' (λq=>nomatch q)
def dN(prog:SQ)(w:T1):PySem.KeyKind prog w Key where
 is:=u0
 hash:=oM w
 inj:=λv a b ha c=>by
  rcases dq ha with⟨i,t,rfl,rfl⟩|⟨x,t,rfl,rfl⟩
  .rcases dq c with⟨j,u,rfl,e⟩|⟨y,u,rfl,e⟩
   .injection e with e1 _;rw[e1]
   .exact nomatch e
  .rcases dq c with⟨j,u,rfl,e⟩|⟨y,u,rfl,e⟩
   .exact nomatch e
   .injection e with e1 _;rw[e1]
 byValue:=λk v h=>by rcases dq h with⟨i,t,rfl,rfl⟩|⟨x,t,rfl,rfl⟩ <;> rfl
 pyHash:=λhv h=>by
  rcases dq hv with⟨i,t,rfl,rfl⟩|⟨x,t,rfl,rfl⟩
  .exact wpAny_pyHash_int h
  .exact wpAny_pyHash_str h
 eqBool:=λf hv h=>by
  rcases dq f with⟨i,t,rfl,rfl⟩|⟨x,t,rfl,rfl⟩
  .rcases dq hv with⟨j,u,rfl,rfl⟩|⟨y,u,rfl,rfl⟩
   .rw[Mt]at h;exact wpAny_eqBool_int h
   .rw[Nf]at h;exact VU i t y u _ _ _ _ h
  .rcases dq hv with⟨j,u,rfl,rfl⟩|⟨y,u,rfl,rfl⟩
   .rw[LK]at h;exact VV x t j u _ _ _ _ h
   .rw[Mf]at h;exact wpAny_eqBool_str h
 «strs»:=λk x t v h=>by
  rcases dq h with⟨i,u,rfl,e⟩|⟨y,u,rfl,e⟩
  .exact nomatch e
  .injection e with e1 _
   subst e1;cases v <;> rfl
theorem yi(prog:SQ)(w:T1)(i:Z)(t:Yj):(dN prog w).is (.inl i) (.int i t)=true:=EM i t
theorem yQ(prog:SQ)(w:T1)(x:M')(t:Yj):(dN prog w).is (.inr x) (.str x t)=true:=En x t
inductive V where
 |non|bl (b:R0)|int (i:Z)|str (x:M')|byt (b:SN UInt8)|flt (b:UInt64)|ref (a:HL)|ty (n:U2)
 deriving DecidableEq
variable {vs xs:J V}{v:V}
noncomputable def RelV:V->F'->Prop
 |.non,u=>u=TV
 |.bl b,u=>u=Va b
 |.int i,u=>∃t,u=Us i t
 |.str x,u=>∃t,u=WI x t
 |.byt b,u=>∃t,u=Y8 b t
 |.flt b,u=>∃t,u=Y9 b t
 |.ref a,u=>u=Sz a
 |.ty n,u=>u=U4 n
abbrev Vals:J V->J F'->Prop:=Paired RelV
theorem Vals.length(r:Vals xs us):xs.length=us.length:=Paired.length r
theorem Vals.get:∀{xs:J V}{us:J F'}{i:O}{x:V},Vals xs us->xs[i]?=Y x->∃u,us[i]?=Y u/\RelV x u
 |_,_,_,_,.nil,e=>by simp at e
 |_,_,0,_,.cons r _,e=>by simp at e;subst e;exact⟨_,rfl,r⟩
 |_,_,i+1,x,.cons _ t,e=>by obtain⟨u,h1,h2⟩:=Vals.get (i:=i) (x:=x) t (by simpa using e);exact⟨u,by simpa using h1,h2⟩
theorem Vals.set{x:V}{u:F'}(r:RelV x u):∀{xs:J V}{us:J F'}(i:O),Vals xs us->Vals (xs.set i x) (us.set i u)
 |_,_,_,.nil=>.nil
 |_,_,0,.cons _ t=>.cons r t
 |_,_,i+1,.cons q t=>.cons q (Vals.set r i t)
theorem Vals.append{ys:J V}{ws:J F'}(h:Vals xs us)(s:Vals ys ws):Vals (xs++ys) (us++ws):=by
 induction h with
 |nil=>exact s
 |cons r t ih=>exact .cons r ih
theorem Vals.take:∀{xs:J V}{us:J F'}(n:O),Vals xs us->Vals (xs.take n) (us.take n)
 |_,_,0,_=>.nil
 |_,_,_+1,.nil=>.nil
 |_,_,n+1,.cons r t=>.cons r (Vals.take n t)
theorem Vals.drop:∀{xs:J V}{us:J F'}(n:O),Vals xs us->Vals (xs.drop n) (us.drop n)
 |_,_,0,r=>r
 |_,_,_+1,.nil=>.nil
 |_,_,n+1,.cons _ t=>Vals.drop n t
def kZ:D' V->D' F'->Prop
 |some v,Y u=>RelV v u
 |none,S=>True
 |_,_=>False
def KV{κ:Type}:J (κ×V)->J (κ×F')->Prop:=Paired λ(p:κ×V)(q:κ×F')=>p.1=q.1/\RelV p.2 q.2
def kV:Key->V
 |.inl i=>.int i
 |.inr x=>.str x
inductive HO where
 |lst (xs:J V)
 |tup (xs:J V)
 |dK (kvs:J (Key×V))|dT (kvs:J (J Key×V))
 |set (D1:Z->R0) (n:O)
 |ins (C dx:HL) (fs:J (M'×V))
 |own (x:HL)
 |xd (fs:J (M'×V))
 |met (f x:HL)
 |rng (lo hi:Z)
 |frz (o:Tt) (u:HO)
 |tbl (q:M')
 |ext (φ:Sy->Prop)
variable {o:HO}
abbrev Hp:=HL->D' HO
variable {R:V->V->Hp->Prop}{H:Hp}
noncomputable def upd(H:Hp)(a:HL)(o:HO):Hp:=λb=>if b=a then Y o else H b
theorem aM:upd H a o a=Y o:=by unfold upd;rw[FC rfl]
theorem aE(h:b≠a):upd H a o b=H b:=by unfold upd;rw[GC h]
theorem N1{u:HO}(h:H a=Y o)(h':H b=Y u)(d:o≠u):a≠b:=by intro e;subst e;rw[h]at h';exact d (P' h')
theorem aR(h:H a=Y o)(h':H b=S):a≠b:=by intro e;subst e;rw[h]at h';cases h'
def xD(h:Sy)(a:HL)(items:SN F'):Prop:=∃o,h.get? a=Y o/\o.cls=.type "tuple"/\o.dict=S/\∃n,o.data=.seq items n
theorem xD.tup(x:xD h a items):Xn h a items:=by obtain⟨o,e,c,_,n,d⟩:=x;exact⟨o,e,c,n,d⟩
theorem xD.new(h:Sy)(items:SN F'):xD (h.push {cls:=.type "tuple",data:=.seq items}) h.objs.size items:=⟨_,PY _ rfl,rfl,rfl,_,rfl⟩
section
variable (P:SQ)(w:T1)
def dY(H:Hp)(h:Sy)(a:HL):HO->Prop
 |.lst xs=>xs.length<=sizeLine/\∃(b:J F')(n:O),Vals xs b/\h.get? a=Y {cls:=.type "list",data:=.seq b.toArray n}
 |.tup xs=>xs.length<=sizeLine/\∃b:J F',Vals xs b/\xD h a b.toArray
 |.dK kvs=>kvs.length<=sizeLine/\(a==sysModules)=false/\∃vs,KV kvs vs/\h.DictOf (dN P w) a vs
 |.dT kvs=>kvs.length<=sizeLine/\(a==sysModules)=false/\∃xs:J (J Key×HL×F'),
  Paired (λ(p:J Key×V)(q:J Key×HL×F')=>p.1=q.1/\H q.2.1=Y (.tup (p.1.map kV))/\RelV p.2 q.2.2) kvs xs /\
  ∃o es e,h.get? a=Y o/\o.ExactDict/\o.data=.dict es e/\es.toList=xs.map (entryOfKey (tupleKind (dN P w)))/\(xs.map (·.1)).Nodup
 |.set D1 n=>h.SetOf (intKind P w) a D1 n
 |.ins C dx fs=>H dx=Y (.own a)/\fs.length<=1000/\dx≠a/\h.get? a=Y (Ut C dx) /\
  ∃mA,h.Ns1 dx mA/\(∀f,kZ (fs.lookup f) (mA f))/\PySem.Within mA (fs.map (·.1))
 |.own _=>∃o,h.get? a=Y o
 |.xd fs=>∃mA,h.Ns1 a mA/\∀f,kZ (fs.lookup f) (mA f)
 |.rng lo hi=>∃t u v,h.get? a=Y {cls:=.type "range",data:=.fields #[.int lo t,.int hi u,.int 1 v]}
 |.frz o u=>h.get? a=Y o/\dY H h a u
 |.tbl q=>∃ps:SN F',h.get? a=Y {cls:=.none,data:=.fields ps}/\Tb ps.toList/\∀pos c,codeAmong pos ps.toList=Y c->∃c' o vs t,c=.ref c'/\H c'=Y (.frz o (.own c'))/\o.data=.fields vs/\vs[1]?=Y (.str q t)
 |.met f x=>h.get? a=Y (X1 (.ref f) (.ref x))
 |.ext φ=>φ h/\(∃o,h.get? a=Y o)/\∀h1 h2:Sy,φ h1->(∀o,h1.get? a=Y o->h2.get? a=Y o)->φ h2
def HOk(H:Hp)(h:Sy):Prop:=∀a o,H a=Y o->dY P w H h a o
end
section
variable {H':Hp}
theorem dY.lt(x:dY P w H h a o):a<h.objs.size:=by
 cases o with
 |lst xs=>obtain⟨_,_,_,_,e⟩:=x;exact Q0 e
 |tup xs=>obtain⟨_,_,_,p⟩:=x;exact p.tup.lt
 |dK kvs=>obtain⟨_,_,_,_,o,_,_,e,_⟩:=x;exact Q0 e
 |dT kvs=>obtain⟨_,_,_,_,o,_,_,e,_⟩:=x;exact Q0 e
 |set D1 n=>obtain⟨o,_,_,_,e,_⟩:=x;exact Q0 e
 |ins C dx fs=>obtain⟨_,_,_,e,_⟩:=x;exact Q0 e
 |own y=>obtain⟨_,e⟩:=x;exact Q0 e
 |xd fs=>obtain⟨_,⟨_,_,_,e,_⟩,_⟩:=x;exact Q0 e
 |rng lo hi=>obtain⟨_,_,_,e⟩:=x;exact Q0 e
 |frz ob u=>obtain⟨e,_⟩:=x;exact Q0 e
 |tbl q=>obtain⟨_,e,_⟩:=x;exact Q0 e
 |met f y=>exact Q0 (show h.get? a=Y _ from x)
 |ext φ=>obtain⟨_,⟨_,e⟩,_⟩:=x;exact Q0 e
theorem Paired.mapP{F G:α->β->Prop}{c:J α}{e:J β}(h:Paired F c e)(f:∀a b,F a b->G a b):Paired G c e:=by
 induction h with
 |nil=>exact .nil
 |cons r t ih=>exact .cons (f _ _ r) ih
theorem dY.stay(x:dY P w H h a o)(k:∀b u,(b=a\/H b=Y (.own a))->h.get? b=Y u->h'.get? b=Y u)
  (l:∀b,H b=Y (.own a)->H' b=Y (.own a)) (m:∀b xs,H b=Y (.tup xs)->H' b=Y (.tup xs)) (s:∀b o u,H b=Y (.frz o u)->H' b=Y (.frz o u):=by exact λ_ _ _ q=>q):dY P w H' h' a o:=by
 induction o with
 |lst xs=>obtain⟨z,j,n,r,e⟩:=x;exact⟨z,j,n,r,k _ _ (.inl rfl) e⟩
 |tup xs=>obtain⟨z,j,r,g,e,c⟩:=x;exact⟨z,j,r,g,k _ _ (.inl rfl) e,c⟩
 |dK kvs=>obtain⟨z,y,vs,r,g,es,i,e,c⟩:=x;exact⟨z,y,vs,r,g,es,i,k _ _ (.inl rfl) e,c⟩
 |dT kvs =>obtain⟨z,y,xs,r,g,es,i,e,c⟩:=x;exact⟨z,y,xs,Paired.mapP r λp q z=>⟨z.1,m _ _ z.2.1,z.2.2⟩,g,es,i,k _ _ (.inl rfl) e,c⟩
 |set D1 n=>obtain⟨g,es,i,t,e,c⟩:=x;exact⟨g,es,i,t,k _ _ (.inl rfl) e,c⟩
 |ins C dx fs =>obtain⟨d,z,ne,e,mA,⟨od,es,i,e2,c⟩,r⟩:=x;exact⟨l _ d,z,ne,k _ _ (.inl rfl) e,mA,⟨od,es,i,k _ _ (.inr d) e2,c⟩,r⟩
 |own y=>obtain⟨g,e⟩:=x;exact⟨g,k _ _ (.inl rfl) e⟩
 |xd fs=>obtain⟨mA,⟨od,es,i,e,c⟩,r⟩:=x;exact⟨mA,⟨od,es,i,k _ _ (.inl rfl) e,c⟩,r⟩
 |rng lo hi=>obtain⟨t,u,v,e⟩:=x;exact⟨t,u,v,k _ _ (.inl rfl) e⟩
 |frz g u ih=>obtain⟨e,q⟩:=x;exact⟨k _ _ (.inl rfl) e,ih q⟩
 |tbl q =>obtain⟨ps,e,t,c⟩:=x;exact⟨ps,k a _ (.inl rfl) e,t,λpos A z=>by obtain⟨c',o,vs,t',e1,e2,B⟩:=c pos A z;exact⟨c',o,vs,t',e1,s _ _ _ e2,B⟩⟩
 |met f y =>have e:h.get? a=Y (X1 (.ref f) (.ref y)):=x;show h'.get? a=Y (X1 (.ref f) (.ref y));exact k a _ (.inl rfl) e
 |ext φ=>obtain⟨p,⟨o,e⟩,st⟩:=x;exact⟨st _ _ p λo q=>k _ _ (.inl rfl) q,⟨o,k _ _ (.inl rfl) e⟩,st⟩
theorem HOk.lt(x:HOk P w H h)(e:H a=Y o):a<h.objs.size:=(x a o e).lt
theorem HOk.fresh(x:HOk P w H h)(e:h.objs.size<=a):H a=none:=by
 cases q:H a with
 |none=>rfl
 |some u=>exact So (Q7 (x.lt q) e) (R7 _)
theorem HOk.kept(x:HOk P w H h)(k:∀b u,h.get? b=Y u->h'.get? b=Y u):HOk P w H h':=λa o e =>
 (x a o e).stay (λb u _ q=>k b u q) (λ_ q=>q) λ_ _ q=>q
theorem HOk.laid(x:HOk P w H h)(k:∀b u,h.get? b=Y u->h'.get? b=Y u)(f:h.objs.size<=a)(new:dY P w (upd H a o) h' a o):HOk P w (upd H a o) h':=λb u e=>by
 have hn:=x.fresh f;by_cases hb:b=a
 .subst hb;rw[aM]at e;cases e;exact new
 .rw[aE hb]at e;exact (x b u e).stay (λc v _ q=>k c v q) (λc q=>by rw[aE (aR q hn)];exact q) (λc xs q=>by rw[aE (aR q hn)];exact q) λc ob w' q=>by rw[aE (aR q hn)];exact q
end
def Rd(H:Hp)(a:HL)(u:HO):Prop:=H a=Y u\/∃o,H a=Y (.frz o u)
theorem Rd.ok{u:HO}(r:Rd H a u)(x:HOk P w H h):dY P w H h a u:=by
 rcases r with r|⟨o,r⟩
 .exact x a u r
 .obtain⟨_,q⟩:=x a _ r;exact q
def Mut:D' HO->Prop
 |some (.lst _)=>True
 |some (.dK _)=>True
 |some (.dT _)=>True
 |some (.set _ _)=>True
 |some (.ins _ _ _)=>True
 |some (.ext _)=>True
 |_=>False
section
variable {x e:HL}{o':HO}
theorem HOk.write(ok:HOk P w H h)(f:Mut (H x))(l:e=x\/H e=Y (.own x))(k:∀b u,b≠e->h.get? b=Y u->h'.get? b=Y u)(j:∃u,h'.get? e=Y u)
  (new:dY P w (upd H x o') h' x o'):HOk P w (upd H x o') h':=λb u q=>by
 have a:∀c y,H c=Y (.own y)->c≠x:=λc y r z=>by subst z;rw[r]at f;exact f
 have g:∀c xs,H c=Y (.tup xs)->c≠x:=λc xs r z=>by subst z;rw[r]at f;exact f
 have i:∀c o u,H c=Y (.frz o u)->c≠x:=λc o u r z=>by subst z;rw[r]at f;exact f
 by_cases hb:b=x
 .subst hb;rw[aM]at q;cases q;exact new
 .rw[aE hb]at q;by_cases hbe:b=e
  .have m:H b=Y (.own x):=by
    rcases l with z|z
    .exact So (hbe.trans z) hb
    .rw[hbe];exact z
   rw[q]at m;cases m;obtain⟨v,hv⟩:=j;exact⟨v,by rw[hbe];exact hv⟩
  .refine (ok b u q).stay (λc v hc r=>k c v ?_ r) (λc r=>by rw[aE (a c b r)];exact r) (λc xs r=>by rw[aE (g c xs r)];exact r) λc o n r=>by rw[aE (i c o n r)];exact r
   rcases hc with rfl|hc
   .exact hbe
   .rintro rfl
    rcases l with z|z
    .exact a c b hc z
    .rw[hc]at z;cases z;exact hb rfl
end
structure Un(fs ex:J HL)(H H':Hp)(h h':Sy):Prop where
 keep:∀b o,h.get? b=Y o->H b=S->b∉fs->b∉ex->h'.get? b=Y o
 slot:∀b o,h.get? b=Y o->H b=S->b∈fs->b∉ex->∃sl,h'.get? b=Y {o with slots:=sl}
 free:∀b o,h.get? b=Y o->H b=S->b∉ex->H' b=S
 there:∀b o,h.get? b=Y o->b∉ex->∃o',h'.get? b=Y o'
 tups:∀b xs,H b=Y (.tup xs)->H' b=Y (.tup xs)
 frzs:∀b o u,H b=Y (.frz o u)->H' b=Y (.frz o u)
 tbls:∀b q,H b=Y (.tbl q)->H' b=Y (.tbl q)
section
variable {fs fs' ex ex':J HL}{H1 H2:Hp}{h1 h2:Sy}{x e:HL}
theorem Un.any(u:Un fs ex H H1 h h1){a:Tt}(q:h.get? b=Y a)(n:H b=S)(c:b∉ex):∃e,h1.get? b=Y {a with slots:=e}:=by
 by_cases hb:b∈fs
 .exact u.slot b a q n hb c
 .exact⟨a.slots,u.keep b a q n hb c⟩
theorem Un.kept(k:∀b u,h.get? b=Y u->h'.get? b=Y u):Un fs ex H H h h' :=
 ⟨λb a q _ _ _=>k b a q,λb a q _ _ _=>⟨a.slots,k b a q⟩,λ_ _ _ n _=>n,λb a q _=>⟨a,k b a q⟩,λ_ _ q=>q,λ_ _ _ q=>q,λ_ _ q=>q⟩
theorem Un.refl:Un fs ex H H h h:=Un.kept λ_ _ q=>q
theorem Un.laid(k:∀b u,h.get? b=Y u->h'.get? b=Y u)(c:h.objs.size<=a)(hn:H a=S):Un fs ex H (upd H a o) h h' where
 keep:=λb u q _ _ _=>k b u q
 slot:=λb u q _ _ _=>⟨u.slots,k b u q⟩
 free:=λb u q n _=>by rw[aE (Q4 (Q7 (Q0 q) c))];exact n
 there:=λb u q _=>⟨u,k b u q⟩
 tups:=λb xs q=>by rw[aE (aR q hn)];exact q
 frzs:=λb u xs q=>by rw[aE (aR q hn)];exact q
 tbls:=λb ps q=>by rw[aE (aR q hn)];exact q
theorem Un.write(a:Mut (H x))(i:e=x\/H e=Y (.own x))(k:∀b u,b≠e->h.get? b=Y u->h'.get? b=Y u)(c:∃u,h'.get? e=Y u):Un fs ex H (upd H x o) h h':=by
 have f:∀b,H b=S->b≠x:=λb n z=>by subst z;rw[n]at a;exact a
 have g:∀b,H b=S->b≠e:=λb n z=>by
  subst z;rcases i with r|r
  .exact f b n r
  .rw[n]at r;cases r
 have hm:∀b u,H b=Y u->¬ Mut (Y u)->b≠x:=λb u q nm z=>by subst z;rw[q]at a;exact nm a
 refine⟨λb u q n _ _=>k b u (g b n) q,λb u q n _ _=>⟨u.slots,k b u (g b n) q⟩,λb u q n _=>by rw[aE (f b n)];exact n,λb u q _=>?_,
  λb xs q=>by rw[aE (hm b _ q λz=>z)];exact q,λb u xs q=>by rw[aE (hm b _ q λz=>z)];exact q,λb ps q=>by rw[aE (hm b _ q λz=>z)];exact q⟩
 by_cases hbe:b=e
 .subst hbe;exact c
 .exact⟨u,k b u hbe q⟩
end
def trk(h:Sy)(H:Hp):J Addr:=(LN h.objs.size).filter λa=>(H a).isSome
def uP(h:Sy)(H:Hp):Heap:=W.hideAll h (trk h H)
theorem DM(h:Sy)(H:Hp):(uP h H).objs.size=h.objs.size:=W.hideAll_size _ _
theorem EY{o:Tt}(e:h.get? b=Y o)(n:H b=S):(uP h H).get? b=Y o :=
 UX _ e λhm=>by have q:(H b).isSome=true:=(Qg.mp hm).2;rw[n]at q;simp at q
theorem Jt{o:Tt}(e:(uP h H).get? b=Y o):h.get? b=Y o/\H b=none:=by
 have a:h.get? b=Y o:=XW (trk h H) e;refine⟨a,?_⟩;cases q:H b with
 |none=>rfl
 |some x =>have hm:b∈trk h H:=Qg.mpr ⟨Ra.mpr (Q0 a),by simp[q]⟩;have z:(uP h H).get? b=none:=W.hideAll_none (trk h H) hm;rw[z]at e;cases e
structure Mod(K:N')(mg:M'->D' F')(base:Sy):Prop where
 kin:K.In base
 glob:base.Ns mainGlobals mg
 blt:∃mb,base.Ns builtinsNs mb/\∀x:M',x≠"__name__"->mb x=bootBuiltins x
 nolimit:base.NoLimit
def oB:J Str:=["picked"]
def TabOf(K:N')(P:HL)(q:M'):Prop:=∃x∈oB,∃f oc od fd a c,Xo K mainGlobals x=Y (Y (.ref f))/\K.lookup f=Y ⟨oc,od,.func fd,a⟩/\fd.code=.ref c/\(∃o vs,K.lookup c=Y o/\o.data=.fields vs/\vs[11]?=Y (.ref P))/\q=x++".<locals>.<lambda>"
structure Cx where
 prog:SQ
 w:T1
 K:N'
 mg:M'->D' F'
 base:Sy
 A:Ss
 N:J M'
 s₀:K'
 H₀:Hp
 env:WH
 outer:J WH
 stack:J WH
 ex:J HL
 fn:M'->R0
 calm:R0
 pn:J (HL×Tt)
 xe:F'->K'->Prop
variable {X:Cx}
def frs(l:J WH):J Addr:=l.filterMap (·.frame)
abbrev Cx.fs(X:Cx):J Addr:=frs X.outer
def Vis(sc:UT)(x:M'):Prop:=sc.names.lookup x=Y .local\/sc.names.lookup x=Y .cell\/sc.names.lookup x=Y .free
def Loc(sc:UT)(x:M'):Prop:=sc.names.lookup x=Y .local\/sc.names.lookup x=Y .cell
def Look(env:WH)(h:Sy)(m:M'->D' F')(x:M')(u:F'):Prop :=
 (env.kindOf x=Y .local/\m x=Y u)\/((env.kindOf x=Y .cell\/env.kindOf x=Y .free)/\∃c,env.cells.lookup x=Y c/\h.IsCell c (Y u))
structure Cx.Ok(X:Cx):Prop where
 mod:Mod X.K X.mg X.base
 kind:X.env.scope.kind=.function
 glob:X.env.globals=mainGlobals
 blt:X.env.builtins=builtinsNs
 above:X.s₀.heap.objs.size<=X.env.locals
 inj:∀x y c,X.env.cells.lookup x=Y c->X.env.cells.lookup y=Y c->x=y
 has:∀x,(X.env.kindOf x=Y .cell\/X.env.kindOf x=Y .free)->∃c,X.env.cells.lookup x=Y c
 cab:∀x c,X.fn x=true->X.env.cells.lookup x=Y c->X.s₀.heap.objs.size<=c
 hd:X.calm=true->X.A.handled=S
 frames:X.A.frames=Y X.stack
 stk:X.stack=X.outer\/(X.stack=X.env::X.outer/\X.env.frame=Y X.env.locals)
 exf:∀b∈X.ex,b≠X.env.locals/\∀x c,X.env.cells.lookup x=Y c->c≠b
 bs:∀b o,X.base.get? b=Y o->X.s₀.heap.get? b=Y o/\X.H₀ b=S
 bsz:X.base.objs.size<=X.s₀.heap.objs.size
 noex:∀b o,X.base.get? b=Y o->b∉X.ex
 exfs:∀b∈X.ex,b∉X.fs
 funs:X.s₀.heap.FunFrames X.base X.outer
 frf:∀b∈X.fs,X.H₀ b=S
structure Inv(X:Cx)(z7:J (HL×Tt))(σ:J (D' V))(H:Hp)(s:K'):Prop where
 ok:X.Ok
 os:s.os=X.s₀.os
 bare:UD s.gens
 base:Un X.fs X.ex X.H₀ H X.s₀.heap s.heap
 loc:∃m,s.heap.Ns X.env.locals m/\∀(i:O)(x:M')(v:V),X.N[i]?=Y x->σ[i]?=Y (Y v)->Vis X.env.scope x->∃u,RelV v u/\Look X.env s.heap m x u
 cell:∀x c,X.env.cells.lookup x=Y c->∃v,s.heap.IsCell c v
 free:H X.env.locals=S
 freeC:∀x c,X.env.cells.lookup x=Y c->H c=S
 pin:∀p∈X.pn++z7,s.heap.get? p.1=Y p.2/\H p.1=S/\p.1≠X.env.locals/\p.1∉X.fs/\∀v,p.2.data≠.cell v
 hok:HOk X.prog X.w H s.heap
 len:σ.length=X.N.length
 tab:∀P q,TabOf X.K P q->H P=Y (.tbl q)
section
variable {σ:J (D' V)}{H':Hp}
theorem Cx.Ok.nofr(ok:X.Ok){o:Tt}(e:X.base.get? b=Y o):b∉X.fs:=λa=>by have:=(ok.funs.mem a).1;rw[e]at this;cases this
theorem Inv.bs(I:Inv X z7 σ H s):∀b o,X.base.get? b=Y o->s.heap.get? b=Y o/\H b=none:=λb o e =>
 ⟨I.base.keep b o (I.ok.bs b o e).1 (I.ok.bs b o e).2 (I.ok.nofr e) (I.ok.noex b o e),I.base.free b o (I.ok.bs b o e).1 (I.ok.bs b o e).2 (I.ok.noex b o e)⟩
theorem Inv.bk(I:Inv X z7 σ H s):∀b o,X.base.get? b=Y o->s.heap.get? b=Y o:=λb o e=>(I.bs b o e).1
theorem Inv.mod(I:Inv X z7 σ H s):Mod X.K X.mg X.base:=I.ok.mod
theorem Inv.kIn(I:Inv X z7 σ H s):X.K.In s.heap:=I.ok.mod.kin.keeps I.bk
theorem Inv.lt(I:Inv X z7 σ H s):X.env.locals<s.heap.objs.size:=let ⟨_,hn,_⟩:=I.loc;hn.lt
theorem Inv.sz(I:Inv X z7 σ H s):X.s₀.heap.objs.size<=s.heap.objs.size:=QD I.ok.above (Si I.lt)
theorem Inv.nofs(I:Inv X z7 σ H s)(h:s.heap.objs.size<=a):a∉X.fs:=λb=>by obtain⟨_,o,c,_⟩:=I.ok.funs.mem b;exact So (Q7 (Q0 c) (QD I.sz h)) (R7 _)
theorem Inv.cne(I:Inv X z7 σ H s):∀x c,X.env.cells.lookup x=Y c->c≠X.env.locals:=λx c e z=>by obtain⟨v,o,f,hd⟩:=I.cell x c e;obtain⟨m,⟨o',es,ep,a,b,_⟩,_⟩:=I.loc;rw[z,a]at f;cases f;rw[b]at hd;cases hd
theorem Inv.funs(I:Inv X z7 σ H s):s.heap.FunFrames X.base X.outer:=by
 have all:∀(l:J WH),(∀b∈frs l,b∈X.fs)->X.s₀.heap.FunFrames X.base l->s.heap.FunFrames X.base l:=by
  intro l
  induction l with
  |nil=>intro _ _;trivial
  |cons env r ih =>
   intro f hl;obtain⟨g,⟨B',o,a,hn,h,hd⟩,i⟩:=hl;have hL:B'∈X.fs:=f B' (by unfold frs;rw[RB,a];exact P7);obtain⟨sl,e⟩:=I.base.slot B' o h (I.ok.frf B' hL) hL λz=>I.ok.exfs B' z hL
   exact⟨g,⟨B',_,a,hn,e,hd⟩,ih (λb c=>f b (by unfold frs;rw[RB,a];exact P4 _ c)) i⟩
 exact all X.outer (λ_ c=>c) I.ok.funs
theorem Inv.stack(I:Inv X z7 σ H s):s.heap.FunFrames X.base X.stack:=by
 rcases I.ok.stk with e|⟨e,a⟩
 .rw[e];exact I.funs
 .rw[e];obtain⟨m,hn,_⟩:=I.loc;refine .cons (by rw[I.ok.kind];decide) a hn ?_ I.funs;exact Sy.get?_none_of_le (QD I.ok.bsz I.ok.above)
theorem Inv.stkSub(I:Inv X z7 σ H s):∀b∈frs X.stack,b∈X.env.locals::X.fs:=λb a=>by
 rcases I.ok.stk with e|⟨e,c⟩
 .rw[e]at a;exact P4 _ a
 .rw[e]at a;unfold frs at a;rw[RB,c]at a;exact a
theorem Inv.stkFree(I:Inv X z7 σ H s):∀b∈frs X.stack,H b=none:=λb a=>by
 rcases P8.mp (I.stkSub b a) with e|a
 .rw[e];exact I.free
 .obtain⟨_,o,c,_⟩:=I.ok.funs.mem a;exact I.base.free b o c (I.ok.frf b a) λz=>I.ok.exfs b z a
theorem Inv.step{t':O}{d':Drawn}(I:Inv X z7 σ H s)
  (f:∀b∈ch,(b∈X.ex\/X.s₀.heap.objs.size<=b)/\b≠X.env.locals/\(∀x c,X.env.cells.lookup x=Y c->c≠b)/\∀p∈X.pn++z7,p.1≠b)
  (keep:∀b o,b≠X.env.locals->b∉X.fs->b∉ch->s.heap.get? b=Y o->H b=S->h'.get? b=Y o)
  (slot:∀b o,b≠X.env.locals->b∈X.fs->b∉ch->s.heap.get? b=Y o->H b=S->∃B,h'.get? b=Y {o with slots:=B}) (free:∀b o,b∉ch->s.heap.get? b=Y o->H b=S->H' b=S)
  (there:∀b o,b∉ch->s.heap.get? b=Y o->∃o',h'.get? b=Y o')
  (tups:∀b xs,H b=Y (.tup xs)->H' b=Y (.tup xs)) (frzs:∀b o u,H b=Y (.frz o u)->H' b=Y (.frz o u)) (tbls:∀b q,H b=Y (.tbl q)->H' b=Y (.tbl q))
  (ns:∀m,s.heap.Ns X.env.locals m->h'.Ns X.env.locals m) (hok:HOk X.prog X.w H' h') (G:UD g') :
  Inv X z7 σ H' {s with heap:=h',gens:=g',drawn:=d',toks:=t'}:=by
 have A:∀b o,X.s₀.heap.get? b=Y o->b≠X.env.locals:=λb o e=>Q4 (Q7 (Q0 e) I.ok.above)
 have h:∀b o,X.s₀.heap.get? b=Y o->b∉X.ex->b∉ch:=λb o e a j=>by
  rcases (f b j).1 with z|z
  .exact a z
  .exact So (Q7 (Q0 e) z) (R7 _)
 have cellK:∀x c,X.env.cells.lookup x=Y c->∀v,s.heap.IsCell c v->h'.IsCell c v:=λx c e v C=>by
  obtain⟨o,y,hd⟩:=C;have g:c∉ch:=λz=>(f c z).2.2.1 x c e rfl
  by_cases hc:c∈X.fs
  .obtain⟨B,q⟩:=slot c o (I.cne x c e) hc g y (I.freeC x c e);exact⟨_,q,hd⟩
  .exact⟨o,keep c o (I.cne x c e) hc g y (I.freeC x c e),hd⟩
 refine⟨I.ok,I.os,G,⟨λb o e n j a=>?_,λb o e n j a=>?_,λb o e n a=>?_,λb o e a=>?_,λb xs e=>tups b xs (I.base.tups b xs e),λb o xs e=>frzs b o xs (I.base.frzs b o xs e),λb ps e=>?_⟩,?_,λx c e=>?_,?_,λx c e=>?_,λp E=>?_,hok,I.len,λP q t=>tbls P q (I.tab P q t)⟩
 .exact keep b o (A b o e) j (h b o e a) (I.base.keep b o e n j a) (I.base.free b o e n a)
 .obtain⟨B,e1⟩:=I.base.slot b o e n j a;obtain⟨D,e2⟩:=slot b _ (A b o e) j (h b o e a) e1 (I.base.free b o e n a);exact⟨D,e2⟩
 .obtain⟨o',e1⟩:=I.base.there b o e a;exact free b o' (h b o e a) e1 (I.base.free b o e n a)
 .obtain⟨o',e1⟩:=I.base.there b o e a;exact there b o' (h b o e a) e1
 .exact tbls b _ (I.base.tbls b ps e)
 .obtain⟨m,hn,hl⟩:=I.loc;refine⟨m,ns m hn,λi x v e1 e2 Bk=>?_⟩;obtain⟨u,r,l⟩:=hl i x v e1 e2 Bk;refine⟨u,r,?_⟩;rcases l with l|⟨k,c,e,z⟩
  .exact .inl l
  .exact .inr ⟨k,c,e,cellK x c e _ z⟩
 .obtain⟨v,z⟩:=I.cell x c e;exact⟨v,cellK x c e v z⟩
 .obtain⟨m,⟨o,_,_,y,_⟩,_⟩:=I.loc;exact free _ o (λz=>(f _ z).2.1 rfl) y I.free
 .obtain⟨v,o,y,hd⟩:=I.cell x c e;exact free c o (λz=>(f c z).2.2.1 x c e rfl) y (I.freeC x c e)
 .obtain⟨e,n,ne,F,d⟩:=I.pin p E;have g:p.1∉ch:=λz=>(f p.1 z).2.2.2 p E rfl
  exact⟨keep p.1 p.2 ne F g e n,free p.1 p.2 g e n,ne,F,d⟩
theorem Inv.un{t':O}(I:Inv X z7 σ H s)(u:Un X.fs [] H H' s.heap h')(hok:HOk X.prog X.w H' h'):Inv X z7 σ H' {s with heap:=h',toks:=t'}:=by obtain⟨m,⟨o,es,ep,h,r⟩,_⟩:=id I.loc;obtain⟨sl,hL⟩:=u.any h I.free #[2];exact I.step (g':=s.gens) (d':=s.drawn) (ch:=[]) (λ_ z=>nomatch z) (λb o _ c _ e n=>u.keep b o e n c #[2]) (λb o _ c _ e n=>u.slot b o e n c #[2]) (λb o _ e n=>u.free b o e n #[2]) (λb o _ e=>u.there b o e #[2]) u.tups u.frzs u.tbls (λm' hm=>by obtain⟨o',f,g,a,i⟩:=hm;rw[h]at a;cases a;exact⟨_,f,g,hL,i⟩) hok I.bare
theorem Inv.call{t':O}{d':Drawn}(I:Inv X z7 σ H s)(u:Un (frs X.stack) ch H H' s.heap h')(hok:HOk X.prog X.w H' h')(j:UD g')
  (a:∀b∈ch,(b∈X.ex\/X.s₀.heap.objs.size<=b)/\b≠X.env.locals/\(∀x c,X.env.cells.lookup x=Y c->c≠b)/\∀p∈X.pn++z7,p.1≠b) :
  Inv X z7 σ H' {s with heap:=h',gens:=g',drawn:=d',toks:=t'}:=by
 obtain⟨m,⟨o,es,ep,i,r⟩,_⟩:=id I.loc;obtain⟨sl,hL⟩:=u.any i I.free λz=>(a _ z).2.1 rfl
 exact I.step (ch:=ch) a (λb o hL l hc e n=>u.keep b o e n (λz=>(P8.mp (I.stkSub b z)).elim hL l) hc) (λb o _ _ hc e n=>u.any e n hc) (λb o hc e n=>u.free b o e n hc) (λb o hc e=>u.there b o e hc) u.tups u.frzs u.tbls (λm' hm=>by obtain⟨o',g,h,f,q⟩:=hm;rw[i]at f;cases f;exact⟨_,g,h,hL,q⟩) hok j
theorem Inv.turned{t':O}(I:Inv X z7 σ H s)(k:∀b o,b≠it->s.heap.get? b=Y o->h'.get? b=Y o)(hn:H it=S)(hL:it≠X.env.locals)
  (h1:it∈X.ex\/X.s₀.heap.objs.size<=it) (h2:∀x c,X.env.cells.lookup x=Y c->c≠it) (h3:∀p∈X.pn++z7,p.1≠it):Inv X z7 σ H {s with heap:=h',toks:=t'}:=by
 have a:∀b u,H b=Y u->b≠it:=λb u e z=>by rw[z,hn]at e;cases e
 refine I.step (g':=s.gens) (d':=s.drawn) (ch:=[it]) (λb f=>?_) (λb o _ _ hc e _=>k b o (λz=>hc (by simp[z])) e) (λb o _ _ hc e _=>⟨o.slots,k b o (λz=>hc (by simp[z])) e⟩) (λ_ _ _ _ n=>n)
  (λb o hc e=>⟨o,k b o (λz=>hc (by simp[z])) e⟩) (λ_ _ e=>e) (λ_ _ _ e=>e) (λb ps e=>e) (λm hm=>?_) (λb u e=>?_) I.bare
 .have e:b=it:=by simpa using f
  subst e;exact⟨h1,hL,h2,h3⟩
 .obtain⟨o,es,g,h,r⟩:=hm;exact⟨o,es,g,k _ o (Uh hL) h,r⟩
 .refine (I.hok b u e).stay (λc v hc q=>k c v ?_ q) (λ_ q=>q) λ_ _ q=>q
  rcases hc with z|z
  .rw[z];exact a b u e
  .exact a c _ z
theorem Inv.tok(I:Inv X z7 σ H s)(t:O):Inv X z7 σ H {s with toks:=t}:=I.un (h':=s.heap) (t':=t) Un.refl I.hok
theorem Inv.kept{t':O}(I:Inv X z7 σ H s)(k:∀b u,s.heap.get? b=Y u->h'.get? b=Y u):Inv X z7 σ H {s with heap:=h',toks:=t'}:=I.un (Un.kept k) (I.hok.kept k)
theorem Inv.laid{t':O}(I:Inv X z7 σ H s)(k:∀b u,s.heap.get? b=Y u->h'.get? b=Y u)(c:s.heap.objs.size<=a)(new:dY X.prog X.w (upd H a o) h' a o) :
 Inv X z7 σ (upd H a o) {s with heap:=h',toks:=t'}:=I.un (Un.laid k c (I.hok.fresh c)) (I.hok.laid k c new)
theorem Inv.write{x e:HL}{t':O}(I:Inv X z7 σ H s)(c:Mut (H x))(f:e=x\/H e=Y (.own x))(k:∀b u,b≠e->s.heap.get? b=Y u->h'.get? b=Y u)(a:∃u,h'.get? e=Y u)
 (new:dY X.prog X.w (upd H x o) h' x o):Inv X z7 σ (upd H x o) {s with heap:=h',toks:=t'}:=I.un (Un.write c f k a) (I.hok.write c f k a new)
theorem Inv.pins_of{pins':J (HL×Tt)}(I:Inv X z7 σ H s)(h:∀p∈pins',s.heap.get? p.1=Y p.2/\H p.1=S/\p.1≠X.env.locals/\p.1∉X.fs/\∀v,p.2.data≠.cell v):Inv X pins' σ H s :=
 ⟨I.ok,I.os,I.bare,I.base,I.loc,I.cell,I.free,I.freeC,λp a=>(Ql.mp a).elim (λz=>I.pin p (Qu _ z)) (h p),I.hok,I.len,I.tab⟩
theorem yI(c:N.Nodup)(a:N[i]?=Y x)(b:N[j]?=Y x):i=j:=by obtain⟨h1,e1⟩:=Qa.mp a;obtain⟨h2,e2⟩:=Qa.mp b;exact (WJ c).mp (e1.trans e2.symm)
theorem uU{Q:XI->K'->Prop}(I:Inv X z7 σ H s)(hN:X.N.Nodup)(hi:X.N[i]?=Y x)(g:Loc X.env.scope x)(r:RelV v u)
  (h:∀s',Inv X z7 (σ.set i (Y v)) H s'->(∃a,T8 a s.heap s'.heap/\(a=X.env.locals\/X.env.cells.lookup x=Y a))->Q () s') (hf:X.fn x=true\/X.env.scope.names.lookup x=Y .local:=by first|exact .inl rfl|exact .inr rfl|assumption):wpAny M A (storeName X.env x u) Q E s:=by
 obtain⟨m,hn,hl⟩:=id I.loc;have G:(X.env.scope.kind==.class||(X.env.scope.kind==.module&&X.env.locals != X.env.globals))=false:=by rw[I.ok.kind];rfl
 have B:i<σ.length:=by rw[I.len];exact (Qa.mp hi).1
 have cne:=I.cne;have tracked:∀{a:HL}{h':Sy},(∃o,s.heap.get? a=Y o/\H a=S)->T8 a s.heap h'->HOk X.prog X.w H h':=λ{a h'} ha f b ob e=>by
  obtain⟨_,_,l⟩:=ha;refine (I.hok b ob e).stay (λc D2 hc q=>(f.2 c ?_).trans q) (λ_ q=>q) λ_ _ q=>q
  rintro rfl
  rcases hc with rfl|hc
  .rw[l]at e;cases e
  .rw[l]at hc;cases hc
 rcases g with C|C
 .refine wpAny_storeName_local C hn (λh' P f=>?_) G;obtain⟨oL,_,_,R,_⟩:=id hn;refine h _ ⟨I.ok,I.os,I.bare,⟨λb o e n D g=>?_,λb o e n D g=>?_,I.base.free,λb o e g=>?_,I.base.tups,I.base.frzs,I.base.tbls⟩,⟨_,P,λj y D1 e1 e2 T=>?_⟩,λy c e=>?_,I.free,I.freeC,λp U=>?_,tracked ⟨oL,R,I.free⟩ f,by simpa using I.len,I.tab⟩ ⟨_,f,.inl rfl⟩
  .exact (f.2 b (Q4 (Q7 (Q0 e) I.ok.above))).trans (I.base.keep b o e n D g)
  .obtain⟨W,e1⟩:=I.base.slot b o e n D g;exact⟨W,(f.2 b (Q4 (Q7 (Q0 e) I.ok.above))).trans e1⟩
  .obtain⟨o',e1⟩:=I.base.there b o e g;exact⟨o',(f.2 b (Q4 (Q7 (Q0 e) I.ok.above))).trans e1⟩
  .by_cases hj:j=i
   .subst hj;rw[hi]at e1;cases e1;rw[QA B]at e2;cases e2;exact⟨u,r,.inl ⟨C,by simp⟩⟩
   .rw[Qi (Uh hj)]at e2;obtain⟨A2,A4,q⟩:=hl j y D1 e1 e2 T;refine⟨A2,A4,?_⟩;rcases q with⟨k,e⟩|⟨k,c,e,z⟩
    .refine .inl ⟨k,?_⟩;have:y≠x:=λe=>hj (yI hN e1 (e▸hi))
     simp[this,e]
    .exact .inr ⟨k,c,e,z.sameBut f (cne y c e)⟩
  .obtain⟨D2,z⟩:=I.cell y c e;exact⟨D2,z.sameBut f (cne y c e)⟩
  .obtain⟨e,n,ne,nf,d⟩:=I.pin p U;exact⟨(f.2 p.1 ne).trans e,n,ne,nf,d⟩
 .have F:X.fn x=true:=by
   rcases hf with z|z
   .exact z
   .rw[z]at C;cases C
  obtain⟨c,hc⟩:=I.ok.has x (.inl C);obtain⟨D2,z⟩:=I.cell x c hc;refine wpAny_storeName_cell I.ok.kind C hc z (λh' Bk f=>?_);obtain⟨oc,K,B'⟩:=id z;refine h {s with heap:=h'} ⟨I.ok,I.os,I.bare,⟨λb o e n D g=>?_,λb o e n D g=>?_,I.base.free,λb o e g=>?_,I.base.tups,I.base.frzs,I.base.tbls⟩,⟨m,hn.sameBut f (Uh (cne x c hc)),λj y D1 e1 e2 T=>?_⟩,λy c' e=>?_,I.free,I.freeC,λp U=>?_,tracked ⟨oc,K,I.freeC x c hc⟩ f,by simpa using I.len,I.tab⟩ ⟨c,f,.inr hc⟩
  .exact (f.2 b (Q4 (Q7 (Q0 e) (I.ok.cab x c F hc)))).trans (I.base.keep b o e n D g)
  .obtain⟨W,e1⟩:=I.base.slot b o e n D g;exact⟨W,(f.2 b (Q4 (Q7 (Q0 e) (I.ok.cab x c F hc)))).trans e1⟩
  .obtain⟨o',e1⟩:=I.base.there b o e g;exact⟨o',(f.2 b (Q4 (Q7 (Q0 e) (I.ok.cab x c F hc)))).trans e1⟩
  .by_cases hj:j=i
   .subst hj;rw[hi]at e1;cases e1;rw[QA B]at e2;cases e2;exact⟨u,r,.inr ⟨.inl C,c,hc,Bk⟩⟩
   .rw[Qi (Uh hj)]at e2;obtain⟨A2,A4,q⟩:=hl j y D1 e1 e2 T;refine⟨A2,A4,?_⟩;rcases q with q|⟨k,c',e,z'⟩
    .exact .inl q
    .refine .inr ⟨k,c',e,z'.sameBut f ?_⟩
     rintro rfl
     exact hj (yI hN e1 (I.ok.inj _ _ _ e hc▸hi))
  .by_cases hcc:c'=c
   .subst hcc;exact⟨_,Bk⟩
   .obtain⟨w2,z2⟩:=I.cell y c' e;exact⟨w2,z2.sameBut f hcc⟩
  .obtain⟨e,n,ne,nf,d⟩:=I.pin p U;refine⟨(f.2 p.1 ?_).trans e,n,ne,nf,d⟩;intro q;rw[q,K]at e;have q':oc=p.2:=P' e;exact d D2 (by rw[<-q'];exact B')
theorem rZ{Q:XI->K'->Prop}(I:Inv X z7 σ H s)(a:X.N.Nodup)(hi:X.N[i]?=Y x)(b:Loc X.env.scope x)(r:RelV v u)
  (h:∀s',Inv X z7 (σ.set i (Y v)) H s'->Q () s') (c:X.fn x=true\/X.env.scope.names.lookup x=Y .local:=by first|exact .inl rfl|exact .inr rfl|assumption):wpAny M A (storeName X.env x u) Q E s :=
 uU I a hi b r (λs' e _=>h s' e) c
theorem Inv.call'(I:Inv X z7 σ H s)(f:s'.os=s.os)(u:Un (frs X.stack) ch H H' s.heap s'.heap)(hok:HOk X.prog X.w H' s'.heap)(g:UD s'.gens)
  (a:∀b∈ch,(b∈X.ex\/X.s₀.heap.objs.size<=b)/\b≠X.env.locals/\(∀x c,X.env.cells.lookup x=Y c->c≠b)/\∀p∈X.pn++z7,p.1≠b):Inv X z7 σ H' s':=by
 obtain⟨h',g',d',t',o'⟩:=s';have e:o'=s.os:=f;subst e;exact I.call (g':=g') (t':=t') (d':=d') u hok g a
end
abbrev XK:=F'->D' HL->Hp->Prop
abbrev St:=J (D' V)
variable {σ:St}
abbrev VK:=V->Hp->Prop
abbrev TE:=St->Hp->VK->Prop
abbrev TT:=St->Hp->(R0->Hp->Prop)->Prop
abbrev TA:=St->Hp->(J V->Hp->Prop)->Prop
structure Ends where
 nx:St->Hp->Prop
 rt:VK
 bk:St->Hp->Prop:=λ_ _=>False
 ct:St->Hp->Prop:=λ_ _=>False
abbrev TS:=Ends->St->Hp->Prop
def EP(X:Cx)(z7:J (HL×Tt))(σ:St)(Q:VK)(u:F')(s':K'):Prop:=∃v H',Inv X z7 σ H' s'/\RelV v u/\Q v H'
def TP(X:Cx)(z7:J (HL×Tt))(σ:St)(Q:R0->Hp->Prop)(b:R0)(s':K'):Prop:=∃H',Inv X z7 σ H' s'/\Q b H'
def AP(X:Cx)(z7:J (HL×Tt))(σ:St)(Q:J V->Hp->Prop)(us:J F')(s':K'):Prop:=∃vs H',Inv X z7 σ H' s'/\Vals vs us/\Q vs H'
def SP(X:Cx)(z7:J (HL×Tt))(D:Ends)(f:Flow)(s':K'):Prop :=
 match f with
 |.next=>∃a H',Inv X z7 a H' s'/\D.nx a H'
 |.brk=>∃a H',Inv X z7 a H' s'/\D.bk a H'
 |.cont=>∃a H',Inv X z7 a H' s'/\D.ct a H'
 |.ret u=>∃v a H',Inv X z7 a H' s'/\RelV v u/\D.rt v H'
def PE(X:Cx)(e:Sq)(t:TE):Prop :=
 ∀(z7:J (HL×Tt))(s:K')(σ:St)(H:Hp)(Q:VK),Inv X z7 σ H s->t σ H Q->wpAny (model X.prog X.w) X.A (eval e X.env) (EP X z7 σ Q) X.xe s
def PT(X:Cx)(e:Sq)(t:TT):Prop :=
 ∀(z7:J (HL×Tt))(s:K')(σ:St)(H:Hp)(Q:R0->Hp->Prop),Inv X z7 σ H s->t σ H Q->wpAny (model X.prog X.w) X.A (isTrue e X.env (eval e X.env)) (TP X z7 σ Q) X.xe s
def PW(X:Cx)(e:Sq)(t:TT):Prop :=
 ∀(whole:XQ F')(z7:J (HL×Tt))(s:K')(σ:St)(H:Hp)(Q:R0->Hp->Prop),Inv X z7 σ H s->t σ H Q->wpAny (model X.prog X.w) X.A (isTrue e X.env whole) (TP X z7 σ Q) X.xe s
theorem PW.pt{t:TT}(h:PW X e t):PT X e t:=h _
def PA(X:Cx)(es:J Sq)(t:TA):Prop :=
 ∀(pos:Vp)(z7:J (HL×Tt))(s:K')(σ:St)(H:Hp)(Q:J V->Hp->Prop),Inv X z7 σ H s->t σ H Q->wpAny (model X.prog X.w) X.A (spliced (backTo pos (starEach es X.env))) (AP X z7 σ Q) X.xe s
def PS(X:Cx)(st:Ur)(t:TS):Prop :=
 ∀(z7:J (HL×Tt))(s:K')(σ:St)(H:Hp)(D:Ends),Inv X z7 σ H s->t D σ H->wpAny (model X.prog X.w) X.A (exec st X.env) (SP X z7 D) X.xe s
def PSs(X:Cx)(st:J Ur)(t:TS):Prop :=
 ∀(z7:J (HL×Tt))(s:K')(σ:St)(H:Hp)(D:Ends),Inv X z7 σ H s->t D σ H->wpAny (model X.prog X.w) X.A (execs st X.env) (SP X z7 D) X.xe s
theorem thn{t:XQ α}{Q b:α->K'->Prop}(h:wpAny M A t Q E s)(c:∀a s,Q a s->b a s):wpAny M A t b E s:=SW h c λ_ _ x=>x
section
theorem bin{a b:Sq}{ta tb:TE}(ha:PE X a ta)(i:PE X b tb)(I:Inv X z7 σ H s)(h:ta σ H λx H1=>tb σ H1 λy H2=>R x y H2)
  {Q:α->K'->Prop} {f:F'->F'->XQ α}
  (j:∀v u s2 x y H2,Inv X z7 σ H2 s2->RelV x v->RelV y u->R x y H2->wpAny (model X.prog X.w) X.A (f v u) Q X.xe s2) :
  wpAny (model X.prog X.w) X.A (eval a X.env) (λv e=>wpAny (model X.prog X.w) X.A (eval b X.env) (λu g=>wpAny (model X.prog X.w) X.A (f v u) Q X.xe g) X.xe e) X.xe s:=by
 refine thn (ha z7 s σ H _ I h) λv l c=>?_
 obtain⟨x,H1,m,n,o⟩:=c;refine thn (i z7 l σ H1 _ m o) λu s2 c=>?_
 obtain⟨y,H2,p,q,r⟩:=c;exact j v u s2 x y H2 p n q r
def Ob(i:O):TE:=λσ H Q=>∃v,σ[i]?=Y (Y v)/\Q v H
def tC(v:V):TE:=λ_ H Q=>Q v H
theorem ku(g:X.N[i]?=Y x)(hv:Vis X.env.scope x)(hd:(x==("__debug__":M'))=false:=by decide)(f:(x==("__classdict__":M'))=false:=by decide):PE X (.Name x pos) (Ob i):=by
 intro z7 s σ H Q I h;obtain⟨v,e,h⟩:=h;obtain⟨m,hn,hl⟩:=I.loc;obtain⟨u,r,l⟩:=hl i x v g e hv;have fin:EP X z7 σ Q u s:=⟨v,H,I,r,h⟩
 rcases l with⟨b,hm⟩|⟨b,c,hc,a⟩
 .exact Xp (Vr I.ok.kind b hn hm fin) hd
 .rcases b with b|b
  .exact Xp (VF I.ok.kind b hc a fin) hd
  .exact Xp (wpAny_loadName_free I.ok.kind b hc a fin f) hd
theorem iC{i j pos}:PE X (.Constant (.int i) j pos) (tC (.int i)):=λ_ _ _ H _ I h=>wpAny_Constant_int ⟨.int i,H,I.tok _,⟨_,rfl⟩,h⟩
theorem N0{b j pos}:PE X (.Constant (.bool b) j pos) (tC (.bl b)):=λ_ _ _ H _ I h=>Constant_bool ⟨.bl b,H,I,rfl,h⟩
theorem MD{j pos}:PE X (.Constant .none j pos) (tC .non):=λ_ _ _ H _ I h=>VJ ⟨.non,H,I,rfl,h⟩
theorem Nr{x j pos}:PE X (.Constant (.str x) j pos) (tC (.str x)):=λ_ _ _ H _ I h=>Calls.Constant_str ⟨.str x,H,I.tok _,⟨_,rfl⟩,h⟩
def Gl(X:Cx)(x:M'):Prop:=X.env.kindOf x=Y .globalImplicit
theorem qW(I:Inv X z7 σ H s)(a:Gl X x)(hm:X.mg x=Y u)(h:Q u s)
  (hd:(x==("__debug__":M'))=false:=by decide):wpAny (model X.prog X.w) X.A (eval (.Name x pos) X.env) Q E s :=
 UH I.ok.kind a (Calls.loadGlobal_global (by rw[I.ok.glob];exact I.mod.glob.keeps I.bk) hm h) hd
theorem fR(I:Inv X z7 σ H s)(a:Gl X x)(hm:X.mg x=S)(hv:bootBuiltins x=Y u)(h:Q u s)
  (hn:x≠"__name__":=by decide) (hd:(x==("__debug__":M'))=false:=by decide):wpAny (model X.prog X.w) X.A (eval (.Name x pos) X.env) Q E s:=by
 obtain⟨mb,h1,h2⟩:=I.mod.blt;exact UH I.ok.kind a (Calls.loadGlobal_builtin (by rw[I.ok.glob];exact I.mod.glob.keeps I.bk) hm (by rw[I.ok.blt];exact h1.keeps I.bk) ((h2 x hn).trans hv) h) hd
theorem Kd(a:Gl X x)(hm:X.mg x=Y u)(r:RelV v u)(hd:(x==("__debug__":M'))=false:=by decide):PE X (.Name x pos) (tC v) :=
 λ_ _ _ H _ I h=>qW I a hm ⟨v,H,I,r,h⟩ hd
theorem Kl(a:Gl X x)(hm:X.mg x=S)(hv:bootBuiltins x=Y u)(r:RelV v u)(hn:x≠"__name__":=by decide)(hd:(x==("__debug__":M'))=false:=by decide):PE X (.Name x pos) (tC v) :=
 λ_ _ _ H _ I h=>fR I a hm hv ⟨v,H,I,r,h⟩ hn hd
noncomputable def t2I(ta tb:TE)(k:Z->Z->Hp->Prop):St->Hp->Prop:=λσ H=>ta σ H λx H1=>tb σ H1 λy H2=>∃i j,x=.int i/\y=.int j/\k i j H2
variable {a b:Sq}{ta tb:TE}
def PC(X:Cx)(op:XN)(a b:Sq)(t:TE):Prop :=
 ∀(z7:J (HL×Tt))(s:K')(σ:St)(H:Hp)(Q:VK),Inv X z7 σ H s->t σ H Q ->
  wpAny (model X.prog X.w) X.A (eval a X.env) (λv c=>wpAny (model X.prog X.w) X.A (eval b X.env) (λu e=>wpAny (model X.prog X.w) X.A (compareOp op v u) (EP X z7 σ Q) X.xe e) X.xe c) X.xe s
theorem Aa(b:Sq)(h:op≠.In)(h2:op≠.NotIn):behindInMarks op b=false:=by
 have e1:(op==Yv)=false:=by cases op <;> first|rfl|cases h rfl
 have e2:(op==Yb)=false:=by cases op <;> first|rfl|cases h2 rfl
 cases b <;> simp[behindInMarks,e1,e2]
def Om(p:Z->Z->R0)(ta tb:TE):TE:=λσ H Q=>t2I ta tb (λi j H2=>Q (.bl (p i j)) H2) σ H
abbrev tLt:TE->TE->TE:=Om λi j=>decide (i<j)
theorem Ng{p:Z->Z->R0}(ha:PE X a ta)(c:PE X b tb)
  (rule:∀(i j:Z)(t u:Yj)(Q:F'->K'->Prop)(s:K'),Q (.bool (p i j)) s->wpAny (model X.prog X.w) X.A (compareOp op (.int i t) (.int j u)) Q X.xe s):PC X op a b (Om p ta tb):=by
 intro z7 s σ H Q I h;refine bin ha c I h λv u s2 x y H2 e f g q=>?_
 obtain⟨i,j,rfl,rfl,q⟩:=q;obtain⟨t,rfl⟩:=f;obtain⟨t',rfl⟩:=g;exact rule i j t t' _ s2 ⟨.bl _,H2,e,rfl,q⟩
theorem NU(ha:PE X a ta)(c:PE X b tb):PC X .Lt a b (tLt ta tb):=Ng ha c λ_ _ _ _ _ _ h=>lt_int h
def Po(ta:TE):TE:=λσ H Q=>ta σ H λx H1=>Q (.bl (decide (x=.non))) H1
def Ol(ta:TE):TE:=λσ H Q=>ta σ H λx H1=>Q (.bl (!decide (x=.non))) H1
theorem RelV.none_iff{x:V}{v:F'}(r:RelV x v):(v==TV)=decide (x=.non):=by
 cases x with
 |non=>cases r;rfl
 |bl _=>cases r;rfl
 |int _=>obtain⟨t,rfl⟩:=r;rfl
 |str _=>obtain⟨t,rfl⟩:=r;rfl
 |byt _=>obtain⟨t,rfl⟩:=r;rfl
 |flt _=>obtain⟨t,rfl⟩:=r;rfl
 |ref _=>cases r;rfl
 |ty _=>cases r;rfl
theorem FG{j pos'}(ha:PE X a ta):PC X .Is a (.Constant .none j pos') (Po ta):=by
 intro z7 s σ H Q I h;refine thn (ha z7 s σ H _ I h) λv s1 b=>?_
 obtain⟨x,H1,c,e,f⟩:=b;exact VJ (is_none_gen ⟨.bl _,H1,c,by rw[e.none_iff];rfl,f⟩)
theorem Jw{j pos'}(ha:PE X a ta):PC X .IsNot a (.Constant .none j pos') (Ol ta):=by
 intro z7 s σ H Q I h;refine thn (ha z7 s σ H _ I h) λv s1 b=>?_
 obtain⟨x,H1,c,e,f⟩:=b;exact VJ (isnot_none_gen ⟨.bl _,H1,c,by rw[e.none_iff];rfl,f⟩)
def tB(t:TE):TT:=λσ H Q=>t σ H λx H1=>∃c,x=.bl c/\Q c H1
theorem MG{t:TE}(h:PC X op a b t)(h1:behindInMarks op b=false:=by first|exact Aa _ #[1] #[1]|rfl):PE X (.Compare a [op] [b] pos) t:=λz7 s σ H Q I hw=>Xq (h z7 s σ H Q I hw) h1
theorem AL{t:TE}(h:PC X op a b t)(h1:behindInMarks op b=false:=by first|exact Aa _ #[1] #[1]|rfl):PT X (.Compare a [op] [b] pos) (tB t):=by intro z7 s σ H Q I hw;refine Vn (thn (h z7 s σ H _ I hw) λv s1 h1=>thn h1 λu s2 h2=>thn h2 λc s3 e=>?_) h1;obtain⟨x,H1,f,g,i⟩:=e;obtain⟨d,rfl,q⟩:=i;cases g;exact SY ⟨H1,f,q⟩
theorem Nz{t:TE}(h:PE X e t)(b:∀whole,isTrue e X.env whole=(do let v <-whole;standAt e.pos;holding [v] (truthy v)):=by intro _;rfl):PT X e (tB t):=by intro z7 s σ H Q I hw;refine isTrue_plain (thn (h z7 s σ H _ I hw) λv s1 a=>?_) (b _);obtain⟨x,H1,c,f,g⟩:=a;obtain⟨d,rfl,q⟩:=g;cases f;exact SY ⟨H1,c,q⟩
variable {tA tB':TT}{rest:J Sq}
def Pz(t u:TT):TT:=λσ H Q=>t σ H λc H1=>if c=true then u σ H1 Q else Q false H1
def tOr(t u:TT):TT:=λσ H Q=>t σ H λc H1=>if c=true then Q true H1 else u σ H1 Q
def O2(t:TT):TT:=λσ H Q=>t σ H λc H1=>Q (!c) H1
theorem IH(ha:PT X a tA):PW X (.BoolOp .And [a] pos) tA:=by
 intro wh z7 s σ H Q I h;refine isTrue_and (thn (ha z7 s σ H Q I h) λc s1 e=>?_);cases c with
 |true=>exact isTrue_and_nil e
 |false=>exact e
theorem MK(ha:PT X a tA):PW X (.BoolOp .Or [a] pos) tA:=by
 intro wh z7 s σ H Q I h;refine isTrue_or (thn (ha z7 s σ H Q I h) λc s1 e=>?_);cases c with
 |false=>exact isTrue_or_nil e
 |true=>exact e
theorem LS(ha:PT X a tA)(i:PW X (.BoolOp .And (b::rest) pos) tB'):PW X (.BoolOp .And (a::b::rest) pos) (Pz tA tB'):=by
 intro j z7 s σ H Q I h;refine isTrue_and (thn (ha z7 s σ H _ I h) λc l e=>?_);obtain⟨H1,f,g⟩:=e;cases c with
 |true=>exact i j z7 l σ H1 Q f g
 |false=>exact⟨H1,f,g⟩
theorem Oh(ha:PT X a tA)(i:PW X (.BoolOp .Or (b::rest) pos) tB'):PW X (.BoolOp .Or (a::b::rest) pos) (tOr tA tB'):=by
 intro j z7 s σ H Q I h;refine isTrue_or (thn (ha z7 s σ H _ I h) λc l e=>?_);obtain⟨H1,f,g⟩:=e;cases c with
 |true=>exact⟨H1,f,g⟩
 |false=>exact i j z7 l σ H1 Q f g
theorem Nb(ha:PT X a tA):PT X (.UnaryOp .Not a pos) (O2 tA):=by intro z7 s σ H Q I h;exact isTrue_not (ha z7 s σ H (λc H1=>Q (!c) H1) I h)
def Oi(ta tb:TE):TE:=λσ H Q=>ta σ H λx H1=>∃c,x=.bl c/\if c=true then tb σ H1 Q else Q (.bl false) H1
def OY(ta tb:TE):TE:=λσ H Q=>ta σ H λx H1=>∃c,x=.bl c/\if c=true then Q (.bl true) H1 else tb σ H1 Q
theorem LY{op}{t:TE}(h:PE X a t):PE X (.BoolOp op [a] pos) t:=λz7 s σ H Q I hw=>BoolOp_one (h z7 s σ H Q I hw)
theorem M3(ha:PE X a ta)(i:PE X (.BoolOp .And (b::rest) pos) tb):PE X (.BoolOp .And (a::b::rest) pos) (Oi ta tb):=by
 intro z7 s σ H Q I h;refine BoolOp_and (thn (ha z7 s σ H _ I h) λv j f=>?_);obtain⟨x,H1,g,l,e⟩:=f;obtain⟨c,rfl,e⟩:=e;cases l;refine SY ?_;cases c with
 |true=>exact i z7 j σ H1 Q g e
 |false=>exact⟨.bl false,H1,g,rfl,e⟩
theorem Ov(ha:PE X a ta)(i:PE X (.BoolOp .Or (b::rest) pos) tb):PE X (.BoolOp .Or (a::b::rest) pos) (OY ta tb):=by
 intro z7 s σ H Q I h;refine BoolOp_or (thn (ha z7 s σ H _ I h) λv j f=>?_);obtain⟨x,H1,g,l,e⟩:=f;obtain⟨c,rfl,e⟩:=e;cases l;refine SY ?_;cases c with
 |false=>exact i z7 j σ H1 Q g e
 |true=>exact⟨.bl true,H1,g,rfl,e⟩
def tIf(t:TT)(ta tb:TE):TE:=λσ H Q=>t σ H λc H1=>if c=true then ta σ H1 Q else tb σ H1 Q
theorem G1(hc:PT X c tA)(ha:PE X a ta)(j:PE X b tb):PE X (.IfExp c a b pos) (tIf tA ta tb):=by
 intro z7 s σ H Q I h;refine wpAny_IfExp (thn (hc z7 s σ H _ I h) λd f e=>?_);obtain⟨H1,g,i⟩:=e;cases d with
 |true=>exact ha z7 f σ H1 Q g i
 |false=>exact j z7 f σ H1 Q g i
end
def SqL(K:N')(H:Hp)(a:HL)(xs:J V):Prop :=
 Rd H a (.lst xs) \/
  ∃(o:Tt)(b:SN F')(n:O),K.lookup a=Y o/\o.cls=.type "list"/\o.dict=S/\o.data=.seq b n/\b.size<=sizeLine/\Vals xs b.toList
def SqT(K:N')(H:Hp)(a:HL)(xs:J V):Prop :=
 Rd H a (.tup xs) \/
  ∃(o:Tt)(b:SN F')(n:O),K.lookup a=Y o/\o.cls=.type "tuple"/\o.data=.seq b n/\b.size<=sizeLine/\Vals xs b.toList
def Py:F'->D' V
 |.none=>Y .non
 |.bool b=>Y (.bl b)
 |.int i _=>⇑i
 |.str x _=>Y (.str x)
 |.bytes b _=>Y (.byt b)
 |.float b _=>Y (.flt b)
 |.ref a=>Y (.ref a)
 |.type n=>Y (.ty n)
 |_=>S
theorem RelV.abs{x:V}(r:RelV x u):Py u=Y x:=by
 cases x with
 |non=>cases r;rfl
 |bl _=>cases r;rfl
 |int _=>obtain⟨t,rfl⟩:=r;rfl
 |str _=>obtain⟨t,rfl⟩:=r;rfl
 |byt _=>obtain⟨t,rfl⟩:=r;rfl
 |flt _=>obtain⟨t,rfl⟩:=r;rfl
 |ref _=>cases r;rfl
 |ty _=>cases r;rfl
theorem RelV.inj{x y:V}(r:RelV x u)(q:RelV y u):x=y:=P' (r.abs.symm.trans q.abs)
theorem Vals.inj{ys:J V}(h:Vals xs us)(h':Vals ys us):xs=ys:=by
 induction h generalizing ys with
 |nil=>cases h';rfl
 |cons r t ih =>
  cases h' with
  |cons r' t'=>rw[r.inj r',ih t']
section
variable {ys:J V}
theorem SqL.of(h:H a=Y (.lst xs)):SqL K H a xs:=.inl (.inl h)
theorem SqT.of(h:H a=Y (.tup xs)):SqT K H a xs:=.inl (.inl h)
theorem Inv.list(I:Inv X z7 σ H s)(h:SqL X.K H a xs):∃b:J F',Vals xs b/\PlainL s.heap a b.toArray/\xs.length<=sizeLine:=by
 rcases h with h|⟨o,b,n,c,hc,hd,f,hz,r⟩
 .obtain⟨z,b,n,r,e⟩:=h.ok I.hok;exact⟨b,r,⟨_,n,e,rfl,rfl,rfl⟩,z⟩
 .refine⟨b.toList,r,⟨o,n,I.kIn a o c,hc,hd,by simpa using f⟩,?_⟩;have e:=r.length;dsimp[QE]at e;omega
theorem Inv.tuple(I:Inv X z7 σ H s)(h:SqT X.K H a xs):∃b:J F',Vals xs b/\Xn s.heap a b.toArray/\xs.length<=sizeLine:=by
 rcases h with h|⟨o,b,n,c,hc,f,hz,r⟩
 .obtain⟨z,b,r,p⟩:=h.ok I.hok;exact⟨b,r,p.tup,z⟩
 .refine⟨b.toList,r,⟨o,I.kIn a o c,hc,n,by simpa using f⟩,?_⟩;have e:=r.length;dsimp[QE]at e;omega
theorem Inv.list_inj(I:Inv X z7 σ H s)(h:SqL X.K H a xs)(h':SqL X.K H a ys):xs=ys:=by
 obtain⟨b,r,⟨o,n,e,_,_,d⟩,_⟩:=I.list h;obtain⟨its',f,⟨o',n',c,_,_,d'⟩,_⟩:=I.list h';rw[e]at c;cases c;rw[d]at d';injection d' with d1 _
 have:b=its':=by simpa using congrArg XX d1
 subst this;exact r.inj f
theorem Inv.tuple_inj(I:Inv X z7 σ H s)(h:SqT X.K H a xs)(h':SqT X.K H a ys):xs=ys:=by
 obtain⟨b,r,⟨o,e,_,n,d⟩,_⟩:=I.tuple h;obtain⟨its',f,⟨o',c,_,n',d'⟩,_⟩:=I.tuple h';rw[e]at c;cases c;rw[d]at d';injection d' with d1 _
 have:b=its':=by simpa using congrArg XX d1
 subst this;exact r.inj f
end
abbrev Cx.wish(X:Cx)(E:F'->K'->Prop):Cx:={X with xe:=E}
abbrev Cx.nox(X:Cx):Cx:=X.wish λ_ _=>False
theorem Cx.Ok.wish(ok:X.Ok)(E:F'->K'->Prop):(X.wish E).Ok :=
 ⟨ok.mod,ok.kind,ok.glob,ok.blt,ok.above,ok.inj,ok.has,ok.cab,ok.hd,ok.frames,ok.stk,ok.exf,ok.bs,ok.bsz,ok.noex,ok.exfs,ok.funs,ok.frf⟩
theorem Cx.Ok.unwish(ok:(X.wish E).Ok):X.Ok :=
 ⟨ok.mod,ok.kind,ok.glob,ok.blt,ok.above,ok.inj,ok.has,ok.cab,ok.hd,ok.frames,ok.stk,ok.exf,ok.bs,ok.bsz,ok.noex,ok.exfs,ok.funs,ok.frf⟩
section
theorem Inv.wish(I:Inv X z7 σ H s)(E:F'->K'->Prop):Inv (X.wish E) z7 σ H s:=⟨I.ok.wish E,I.os,I.bare,I.base,I.loc,I.cell,I.free,I.freeC,I.pin,I.hok,I.len,I.tab⟩
theorem Inv.unwish(I:Inv (X.wish E) z7 σ H s):Inv X z7 σ H s:=⟨I.ok.unwish,I.os,I.bare,I.base,I.loc,I.cell,I.free,I.freeC,I.pin,I.hok,I.len,I.tab⟩
theorem SP.unwish{D:Ends}{f:Flow}(h:SP (X.wish E) z7 D f s'):SP X z7 D f s':=by
 cases f with
 |next=>obtain⟨a,H',I,q⟩:=h;exact⟨a,H',I.unwish,q⟩
 |brk=>obtain⟨a,H',I,q⟩:=h;exact⟨a,H',I.unwish,q⟩
 |cont=>obtain⟨a,H',I,q⟩:=h;exact⟨a,H',I.unwish,q⟩
 |ret u=>obtain⟨v,a,H',I,r,q⟩:=h;exact⟨v,a,H',I.unwish,r,q⟩
theorem PSs.nox{st:J Ur}{t:TS}(h:PSs X.nox st t):PSs X st t:=λz7 s σ H D I hw =>
 SW (h z7 s σ H D (I.wish _) hw) (λ_ _ q=>q.unwish) λ_ _ z=>SR z
end
section
variable {rest:J Ur}{t u:TS}{te:TE}
def OM:TS:=λD σ H=>D.nx σ H
def Pb(t u:TS):TS:=λD σ H=>t {D with nx:=u D} σ H
theorem wX:PSs X [] OM:=λ_ _ σ H _ I h=>Ux ⟨σ,H,I,h⟩
theorem cU(h1:PS X st t)(h2:PSs X rest u):PSs X (st::rest) (Pb t u):=by
 intro z7 s σ H D I h;refine WK (thn (h1 z7 s σ H {D with nx:=u D} I h) λf b q=>?_);cases f with
 |next =>obtain⟨a,H',c,q⟩:=q;exact h2 z7 b a H' D c q
 |ret v=>exact q
 |brk=>exact q
 |cont=>exact q
theorem jt(h1:PS X st t):PSs X [st] t:=by
 intro z7 s σ H D I h;refine WK (thn (h1 z7 s σ H D I h) λf s1 q=>?_);cases f with
 |next=>exact Ux q
 |ret v=>exact q
 |brk=>exact q
 |cont=>exact q
theorem Inv.quiet(I:Inv X z7 σ H s):interactive X.env=false:=by simp[interactive,I.ok.kind]
def OH(te:TE):TS:=λD σ H=>te σ H λ_ H1=>D.nx σ H1
theorem og(b:PE X e te)(c:swapsWith e S pos.line X.env=pure false:=by rfl):PS X (.Expr e pos) (OH te):=by intro z7 s σ H D I h;exact wpAny_Expr_any (thn (b z7 s σ H _ I h) λv s1 a=>(by obtain⟨x,H1,f,r1,g⟩:=a;exact⟨σ,H1,f,g⟩)) I.quiet c
def Pn(te:TE):TS:=λD σ H=>te σ H D.rt
theorem t9(b:PE X e te):PS X (.Return (Y e) pos) (Pn te):=by intro z7 s σ H D I h;exact wpAny_Return_some (thn (b z7 s σ H _ I h) λv s1 a=>(by obtain⟨x,H1,c,f,g⟩:=a;exact⟨x,σ,H1,c,f,g⟩))
def Pu(c:TT)(t u:TS):TS:=λD σ H=>c σ H λb H1=>if b=true then t D σ H1 else u D σ H1
theorem B1{a b:J Ur}{tc:TT}(hc:PT X c tc)(ha:PSs X a t)(j:PSs X b u):PS X (.If c a b pos) (Pu tc t u):=by
 intro z7 s σ H D I h;refine wpAny_If (thn (hc z7 s σ H _ I h) λd f e=>?_);obtain⟨H1,g,i⟩:=e;cases d with
 |true=>exact ha z7 f σ H1 D g i
 |false=>exact j z7 f σ H1 D g i
end
abbrev TG:=V->St->Hp->(St->Hp->Prop)->Prop
abbrev TGs:=J V->St->Hp->(St->Hp->Prop)->Prop
def PG(X:Cx)(target:Sq)(t:TG):Prop :=
 ∀(z7:J (HL×Tt))(s:K')(σ:St)(H:Hp)(v:V)(u:F')(Q:St->Hp->Prop),Inv X z7 σ H s->RelV v u->t v σ H Q ->
  wpAny (model X.prog X.w) X.A (assign target X.env u) (λ_ s'=>∃a H',Inv X z7 a H' s'/\Q a H') X.xe s
def PGs(X:Cx)(ts:J Sq)(t:TGs):Prop :=
 ∀(z7:J (HL×Tt))(s:K')(σ:St)(H:Hp)(vs:J V)(us:J F')(Q:St->Hp->Prop),Inv X z7 σ H s->Vals vs us->t vs σ H Q ->
  wpAny (model X.prog X.w) X.A (assignInOrder ((assignEach ts X.env).map (·.2)) us) (λ_ s'=>∃a H',Inv X z7 a H' s'/\Q a H') X.xe s
abbrev Nw:=V->V->V->Hp->(Hp->Prop)->Prop
def Og(X:Cx)(t:Nw):Prop :=
 ∀(z7:J (HL×Tt))(s:K')(σ:St)(H:Hp)(o i v:V)(a b u:F')(Q:Hp->Prop),Inv X z7 σ H s->RelV o a->RelV i b->RelV v u->t o i v H Q ->
  wpAny (model X.prog X.w) X.A (setItem a b u) (λ_ s'=>∃H',Inv X z7 σ H' s'/\Q H') X.xe s
abbrev TIp:=V->V->Hp->VK->Prop
def PIp(X:Cx)(op:Wa)(t:TIp):Prop :=
 ∀(z7:J (HL×Tt))(s:K')(σ:St)(H:Hp)(x y:V)(v u:F')(Q:VK),Inv X z7 σ H s->RelV x v->RelV y u->t x y H Q ->
  wpAny (model X.prog X.w) X.A (inplaceOp op v u) (EP X z7 σ Q) X.xe s
section
def lg(i:O):TG:=λv σ H Q=>Q (σ.set i (Y v)) H
theorem wV(a:X.N.Nodup)(hi:X.N[i]?=Y x)(b:Loc X.env.scope x)(c:X.fn x=true\/X.env.scope.names.lookup x=Y .local:=by first|exact .inl rfl|exact .inr rfl|assumption):PG X (.Name x pos) (lg i):=by intro z7 s σ H v u Q I r h;exact Wb (rZ I a hi b r (λs' e=>⟨_,H,e,h⟩) c)
def LQ:TGs:=λvs σ H Q=>vs=[]/\Q σ H
def C9(t:TG)(u:TGs):TGs:=λvs σ H Q=>∃v r,vs=v::r/\t v σ H λa H'=>u r a H' Q
theorem C8:PGs X [] LQ:=by intro z7 s σ H vs us Q I r h;obtain⟨e,h⟩:=h;subst e;cases r;exact assignInOrder_nil ⟨σ,H,I,h⟩
theorem rD{t:TG}{u:TGs}(h1:PG X e t)(h2:PGs X es u)
  (c:(assignEach (e::es) X.env).map (·.2)=assign e X.env::(assignEach es X.env).map (·.2):=by rfl):PGs X (e::es) (C9 t u):=by
 intro z7 s σ H vs us Q I r h;obtain⟨v,vr,e1,h⟩:=h;subst e1;cases r with
 |cons r rr =>rw[c];refine assignInOrder_cons (thn (h1 z7 s σ H _ _ _ I r h) λ_ f a=>?_);obtain⟨b,H1,g,i⟩:=a;exact h2 z7 f b H1 _ _ Q g rr i
def M4(K:N')(n:O)(t:TGs):TG:=λv σ H Q=>∃a xs,v=.ref a/\SqT K H a xs/\xs.length=n/\t xs σ H Q
theorem FY{k:O}{t:TGs}{n:O}(hc:X.calm=true)(h:PGs X es t)
  (hn:(assignEach es X.env).length=n:=by rfl) (c:(assignEach es X.env).findIdx? (·.1)=none:=by rfl):PG X (.Tuple es k pos) (M4 X.K n t):=by
 intro z7 s σ H v u Q I r hw;obtain⟨a,xs,e1,g,hl,hw⟩:=hw;subst e1;cases r;obtain⟨its,f,i,hz⟩:=I.tuple g;refine assign_Tuple_tuple (I.ok.hd hc) i (by simp[hn,<-hl,f.length]) c λh' j=>?_
 have l:Inv X z7 σ H {s with heap:=h'}:=I.kept (t':=s.toks) λb o e=>j b o (Q4 (Q0 e)) e
 exact h z7 _ σ H xs _ Q l (by simpa using f) hw
def Pf(to a:TE)(t:Nw):TG:=λv σ H Q=>to σ H λo H1=>a σ H1 λi H2=>t o i v H2 λb=>Q σ b
theorem Mn{o i:Sq}{to e:TE}{t:Nw}(f:PE X o to)(hi:PE X i e)(g:Og X t)
  (ha:∀v,assign (.Subscript o i pos) X.env v=(do
   let b <-holding [v] (eval o X.env);let c <-holding [v,b] (eval i X.env)
   standAt pos
   holding [v,b,c] (setItem b c v)
   release [v,b,c] []):=by intro _;rfl):PG X (.Subscript o i pos) (Pf to e t):=by
 intro z7 s σ H v u Q I r h;rw[ha];refine F1 (T7 (thn (f z7 s σ H _ I h) λb j a=>?_));obtain⟨x,H1,l,m,n⟩:=a;refine F1 (T7 (thn (hi z7 j σ H1 _ l n) λc s2 a=>?_));obtain⟨y,H2,p,q,w⟩:=a;refine F1 (UY (F1 (T7 (thn (g z7 s2 σ H2 x y v b c u _ p m q r w) λ_ s3 a=>?_))));obtain⟨z,A,B⟩:=a;exact wpAny_release ⟨σ,z,A,B⟩
def HX(te:TE)(g:TG):TS:=λD σ H=>te σ H λx H1=>g x σ H1 D.nx
theorem Fh{te:TE}{g:TG}(b:PE X e te)(c:PG X tg g)(f:swapsWithSole [tg] e pos.line X.env=pure false:=by rfl)(hw:swappedStores [tg] e X.env=pure none:=by rfl)
  (h1:(assignEach [tg] X.env).map (·.2)=[assign tg X.env]:=by rfl):PS X (.Assign [tg] e pos) (HX te g):=by
 intro z7 s σ H D I h;refine wpAny_Assign_stores (thn (b z7 s σ H _ I h) λv i a=>?_) f hw;obtain⟨x,H1,j,l,m⟩:=a;rw[h1];exact thn (c z7 i σ H1 x v _ j l m) λ_ s2 q=>q
theorem oV{te:TE}(b:X.N.Nodup)(hi:X.N[i]?=Y x)(c:Loc X.env.scope x)(f:PE X e te)(g:swapsWith e (Y (.Name x pos')) pos.line X.env=pure false:=by rfl)(j:X.fn x=true\/X.env.scope.names.lookup x=Y .local:=by first|exact .inl rfl|exact .inr rfl|assumption) :
  PS X (.Assign [.Name x pos'] e pos) (HX te (lg i)):=by
 intro z7 s σ H D I h;refine wpAny_Assign_Name (thn (f z7 s σ H _ I h) λv s1 a=>?_) g;obtain⟨y,H1,l,m,n⟩:=a;exact rZ l b hi c m (λs2 o=>⟨_,H1,o,n⟩) j
def Ph(i:O)(te:TE)(a:TIp):TS:=λD σ H=>∃x,σ[i]?=Y (Y x)/\te σ H λy H1=>a x y H1 λz H2=>D.nx (σ.set i (Y z)) H2
theorem M8{te:TE}{op:Wa}{p:TIp}(q:X.N.Nodup)(hi:X.N[i]?=Y x)(n:Loc X.env.scope x)(B:PE X e te)(C:PIp X op p)(E:X.fn x=true\/X.env.scope.names.lookup x=Y .local:=by first|exact .inl rfl|exact .inr rfl|assumption) :
  PS X (.AugAssign (.Name x pos') op e pos) (Ph i te p):=by
 intro z7 s σ H D I h;obtain⟨v,e1,h⟩:=h;obtain⟨m,hn,hl⟩:=I.loc;have o:Vis X.env.scope x:=by rcases n with k|k;exact .inl k;exact .inr (.inl k)
 obtain⟨u,r,l⟩:=hl i x v hi e1 o;refine wpAny_AugAssign_Name ?_;have go:wpAny (model X.prog X.w) X.A (eval e X.env) (λw g=>wpAny (model X.prog X.w) X.A (inplaceOp op u w) (λr j=>wpAny (model X.prog X.w) X.A (storeName X.env x r) (λ_=>SP X z7 D .next) X.xe j) X.xe g) X.xe s:=by
  refine thn (B z7 s σ H _ I h) λw F b=>?_
  obtain⟨y,H1,G,Bk,K⟩:=b;refine thn (C z7 F σ H1 v y u w _ G r Bk K) λz s2 b=>?_
  obtain⟨zv,H2,B',M,D2⟩:=b;exact rZ B' q hi n M (λs3 P=>⟨_,H2,P,D2⟩) E
 rcases l with⟨a,hm⟩|⟨a,c,hc,f⟩
 .exact Vr I.ok.kind a hn hm go
 .rcases a with a|a
  .exact VF I.ok.kind a hc f go
  .rcases n with k|k
   .have:X.env.scope.names.lookup x=Y .free:=a;rw[k]at this;cases this
   .have:X.env.scope.names.lookup x=Y .free:=a;rw[k]at this;cases this
def ipI(f:Z->Z->Z):TIp:=λx y H Q=>∃i j,x=.int i/\y=.int j/\Q (.int (f i j)) H
theorem L6:PIp X .Add (ipI λi j=>i+j):=by intro z7 s σ H x y v u Q I a b h;obtain⟨i,j,e1,e2,q⟩:=h;subst e1;subst e2;obtain⟨t,rfl⟩:=a;obtain⟨t',rfl⟩:=b;exact iadd_int ⟨.int _,H,I.tok _,⟨_,rfl⟩,q⟩
end
section
def Lr(c:TT)(tb:TS):TS:=λD σ H=>∃W:O->St->Hp->Prop,(∃m,W m σ H)/\∀m σ H,W m σ H ->
 c σ H λb H1=>if b=true then ∃N:St->Hp->Prop,(∀a H',N a H'->∃e,e < m/\W e a H')/\tb {D with nx:=N,ct:=N,bk:=D.nx} σ H1 else D.nx σ H1
theorem yh{tc:TT}{tb:TS}(u:V2 (model X.prog X.w) X.A X.env X.xe)(hc:PT X c tc)(z:PSs X body tb):PS X (.While c body [] pos) (Lr tc tb):=by
 intro z7 s σ H D I h;obtain⟨W,⟨B,C⟩,turn⟩:=h;refine wpAny_While (codeAny_whileLoop (λn s'=>∃g H',Inv X z7 g H' s'/\W n g H') ?_ B ⟨σ,H,I,C⟩)
 rintro n E ⟨e,H1,F,G⟩
 refine Tv u (thn (hc z7 E e H1 _ F (turn n e H1 G)) λb s2 m=>?_);obtain⟨H2,x,j⟩:=m;cases b with
 |true =>
  obtain⟨N,y,j⟩:=j;rw[FC rfl];refine Tv u (thn (z z7 s2 e H2 _ x j) λf s3 l=>?_);cases f with
  |next =>obtain⟨a,i,o,p⟩:=l;obtain⟨q,hm,r⟩:=y a i p;exact⟨q,hm,a,i,o,r⟩
  |cont =>obtain⟨a,i,o,p⟩:=l;obtain⟨q,hm,r⟩:=y a i p;exact⟨q,hm,a,i,o,r⟩
  |brk=>exact l
  |ret v=>exact l
 |false =>rw[GC Q1];exact Ux ⟨e,H2,x,j⟩
end
structure It where
 go:O->Hp->Prop
 yld:O->Hp->V->Hp->Prop
 stop:O->Hp->Prop
def sS(X:Cx)(z7:J (HL×Tt))(H:Hp)(b:HL):Prop :=
 H b=S/\b≠X.env.locals/\b∉X.fs/\(b∈X.ex\/X.s₀.heap.objs.size<=b)/\(∀x c,X.env.cells.lookup x=Y c->c≠b)/\∀p∈X.pn++z7,p.1≠b
theorem Inv.fpOk{H':Hp}(I:Inv X z7 σ H s)(a:s.heap.objs.size<=b)(hn:H' b=S):sS X z7 H' b:=by
 refine⟨hn,QT (Q7 I.lt a),I.nofs a,.inr (QD I.sz a),λx c e z=>?_,λp f z=>?_⟩
 .obtain⟨v,q⟩:=I.cell x c e;exact So (Q7 q.lt (by rw[z];exact a)) (R7 _)
 .exact So (Q7 (Q0 (I.pin p f).1) (by rw[z];exact a)) (R7 _)
structure Turn(P:SQ)(w:T1)(K:N')(tg:Sq)(Bk:It)(fp:J HL)(it:HL)(tn:O->Sy->Prop):Prop where
 mem:it∈fp
 obj:∀i h,tn i h->∀b∈fp,∃o,h.get? b=Y o/\∀v,o.data≠.cell v
 keep:∀i h h',tn i h->(∀b∈fp,∀o,h.get? b=Y o->h'.get? b=Y o)->tn i h'
 item:∀(X:Cx),X.prog=P->X.w=w->X.K=K->X.calm=true->∀(i:O)(z7:J (HL×Tt))(s:K')(σ:St)(H:Hp)(E:F'->K'->Prop),Inv X z7 σ H s->(∀b∈fp,sS X z7 H b)->tn i s.heap->Bk.go i H ->
  wpAny (model P w) X.A (pyNext (.ref it)) (λr s1=>∃u,r=Y u /\
   wpAny (model P w) X.A (letOwnedTupleGo tg (.ref it) u) (λ_ s2=>∃x H',Inv X z7 σ H' s2/\RelV x u/\Bk.yld i H x H'/\tn (i+1) s2.heap/\∀b∈fp,H' b=S) E s1) E s
 done:∀(X:Cx),X.prog=P->X.w=w->X.K=K->X.calm=true->∀(i:O)(z7:J (HL×Tt))(s:K')(σ:St)(H:Hp)(E:F'->K'->Prop),Inv X z7 σ H s->(∀b∈fp,sS X z7 H b)->tn i s.heap->Bk.stop i H ->
  wpAny (model P w) X.A (pyNext (.ref it)) (λr s1=>r=S/\Inv X z7 σ H s1) E s
 self:∀(A:Ss)(i:O)(s:K')(Q:F'->K'->Prop)(E:F'->K'->Prop),tn i s.heap->Q (.ref it) s->wpAny (model P w) A (pyIter (.ref it)) Q E s
abbrev TI:=St->Hp->(It->Hp->Prop)->Prop
def PIE(X:Cx)(z7:J (HL×Tt))(σ:St)(tg:Sq)(R:It->Hp->Prop)(a:F')(s2:K'):Prop :=
 ∃(it:HL)(fp:J HL)(tn:O->Sy->Prop)(Bk:It)(H':Hp),a=.ref it/\Inv X z7 σ H' s2/\Turn X.prog X.w X.K tg Bk fp it tn/\tn 0 s2.heap/\(∀b∈fp,sS X z7 H' b)/\R Bk H'
def PI(X:Cx)(tg iter:Sq)(a:TI):Prop :=
 ∀(z7:J (HL×Tt))(s:K')(σ:St)(H:Hp)(R:It->Hp->Prop),Inv X z7 σ H s->a σ H R ->
  wpAny (model X.prog X.w) X.A (eval iter X.env) (λv b=>wpAny (model X.prog X.w) X.A (pyIter v) (PIE X z7 σ tg R) X.xe b) X.xe s
theorem B4{o:Tt}{n:U2}{vs:SN F'}{Q:XI->K'->Prop}(b:s.heap.get? it=Y o)(hc:o.cls=.type n)(hd:o.data=.fields vs)
    (hn:["enumerate", "zip", "dict_itemiterator", "dict_reverseitemiterator", "odict_iterator", "itertools.zip_longest", "itertools.pairwise"].contains n=false) (a:Q () s):wpAny M A (letOwnedTupleGo tg (.ref it) u) Q E s:=by
  unfold letOwnedTupleGo
  cases tg <;> first
    |exact J' a
    | (cases u <;> first
        |exact J' a
        | (refine F1 (wpAny_load b ?_)
           rw[hc,hd]
           show wpAny M A (if (["enumerate", "zip", "dict_itemiterator", "dict_reverseitemiterator", "odict_iterator", "itertools.zip_longest", "itertools.pairwise"].contains n&&vs[0]?==Y (rawInt _))=true then _ else _) Q E s
           rw[GC (by intro h;rw[hn,R0.false_and]at h;cases h)]
           exact J' a))
def Itl(K:N')(a:HL):It :=
 ⟨λi H=>∃xs x,SqL K H a xs/\xs[i]?=Y x,λi H x H'=>H'=H/\∀xs,SqL K H a xs->xs[i]?=Y x,λi H=>∃xs,SqL K H a xs/\xs.length<=i⟩
def Itt(K:N')(a:HL):It :=
 ⟨λi H=>∃xs x,SqT K H a xs/\xs[i]?=Y x,λi H x H'=>H'=H/\∀xs,SqT K H a xs->xs[i]?=Y x,λi H=>∃xs,SqT K H a xs/\xs.length<=i⟩
noncomputable def Itr(lo:Z)(n:O):It:=⟨λi _=>i<n,λi H x H'=>H'=H/\x=.int (lo+i),λi _=>n<=i⟩
theorem Eb(a it:HL):Turn P w K tg (Itl K a) [it] it (λi h=>h.IsListIter it a i) where
 mem:=by simp
 obj:=λi h st b f=>by
  have e:b=it:=by simpa using f
  subst e;obtain⟨o,e,c,d⟩:=st;exact⟨o,e,λv z=>by rw[d]at z;cases z⟩
 keep:=λi h h' st k=>st.at λo e=>k it #[2] o e
 item:=by
  intro X m hw hK hc i z7 s σ H E I j st n;subst m hw hK;obtain⟨xs,x,l,q⟩:=n;obtain⟨r,y,p,F⟩:=I.list l;obtain⟨u,G,Bk⟩:=y.get q;obtain⟨A,f1,f2,B,C,D⟩:=j it #[2];refine wpAny_pyNext_list_item st p.isList (x:=u) (by simpa using G) λh' g B'=>?_
  have M:Inv X z7 σ H {s with heap:=h'}:=I.turned (t':=s.toks) (λb o f e=>(B'.2 b f).trans e) A f1 B C D;obtain⟨o,e,c,d⟩:=id g;exact⟨u,rfl,B4 (s:={s with heap:=h'}) e c d #[1] ⟨x,H,M,Bk,⟨rfl,λys N=>by rw[I.list_inj N l];exact q⟩,g,λb f=>(j b f).1⟩⟩
 done:=by intro X m hw hK hc i z7 s σ H E I j st n;subst m hw hK;obtain⟨xs,l,q⟩:=n;obtain⟨r,y,p,F⟩:=I.list l;obtain⟨A,f1,f2,B,C,D⟩:=j it #[2];have hl:=y.length;exact wpAny_pyNext_list_end (I.ok.hd hc) st p.isList (by simp;omega) λh' D2=>⟨rfl,I.turned (t':=s.toks) (λb o f e=>D2 b o f e) A f1 B C D⟩
 self:=λ_ _ _ _ _ st h=>wpAny_pyIter_listiter st h
theorem A6(a it:HL):Turn P w K tg (Itt K a) [it] it (λi h=>h.IsTupleIter it a i) where
 mem:=by simp
 obj:=λi h st b f=>by
  have e:b=it:=by simpa using f
  subst e;obtain⟨o,e,c,d⟩:=st;exact⟨o,e,λv z=>by rw[d]at z;cases z⟩
 keep:=λi h h' st k=>st.at λo e=>k it #[2] o e
 item:=by
  intro X n hw hK hc i z7 s σ H E I l st q;subst n hw hK;obtain⟨xs,x,m,r⟩:=q;obtain⟨g,y,p,F⟩:=I.tuple m;obtain⟨u,G,Bk⟩:=y.get r;obtain⟨A,f1,f2,B,C,D⟩:=l it #[2];refine wpAny_pyNext_tuple_item st (show s.heap.IsTuple a g.toArray from p) (x:=u) (by simpa using G) λh' j B'=>?_
  have M:Inv X z7 σ H {s with heap:=h'}:=I.turned (t':=s.toks) (λb o f e=>(B'.2 b f).trans e) A f1 B C D;obtain⟨o,e,c,d⟩:=id j;exact⟨u,rfl,B4 (s:={s with heap:=h'}) e c d #[1] ⟨x,H,M,Bk,⟨rfl,λys N=>by rw[I.tuple_inj N m];exact r⟩,j,λb f=>(l b f).1⟩⟩
 done:=by intro X n hw hK hc i z7 s σ H E I l st q;subst n hw hK;obtain⟨xs,m,r⟩:=q;obtain⟨g,y,p,F⟩:=I.tuple m;obtain⟨A,f1,f2,B,C,D⟩:=l it #[2];have hl:=y.length;exact wpAny_pyNext_tuple_end (I.ok.hd hc) st (show s.heap.IsTuple a g.toArray from p) (by simp;omega) λh' D2=>⟨rfl,I.turned (t':=s.toks) (λb o f e=>D2 b o f e) A f1 B C D⟩
 self:=λ_ _ _ _ _ st h=>wpAny_pyIter_tupleiter st h
theorem Ay(it:HL)(lo:Z)(n:O):Turn P w K tg (Itr lo n) [it] it (λi h=>Vs h it (lo+(i:O)*1) ((n:Z)-(i:O)) 1) where
 mem:=by simp
 obj:=λi h st b a=>by
  have e:b=it:=by simpa using a
  subst e;exact⟨_,st,λv z=>by have r:Yc _=Yt v:=z;cases r⟩
 keep:=λi h h' st k=>k it #[2] _ st
 item:=by
  intro X g hw hK hc i z7 s σ H E I f st j;subst g hw hK;obtain⟨l,f1,f2,m,p,q⟩:=f it #[2];have W:=Yd (prog:=X.prog) (w:=X.w) (I.ok.hd hc) it lo 1 n;refine W.item i s _ _ j st λv h' tk hv c u=>?_
  obtain⟨t,rfl⟩:=hv;have x:Inv X z7 σ H {s with heap:=h',toks:=tk}:=I.turned (λb o a e=>u b o (by simpa using a) e) l f1 m p q;refine⟨_,rfl,B4 (s:={s with heap:=h',toks:=tk}) (n:="range_iterator") c rfl rfl #[1] ⟨.int (lo+i),H,x,⟨t,?_⟩,⟨rfl,rfl⟩,c,λb a=>(f b a).1⟩⟩;rw[Ye]
 done:=by intro X g hw hK hc i z7 s σ H E I f st j;subst g hw hK;obtain⟨l,f1,f2,m,p,q⟩:=f it #[2];exact Vb (I.ok.hd hc) st (by have:n<=i:=j;omega) λh' y=>⟨rfl,I.turned (t':=s.toks) (λb o a e=>y b o a e) l f1 m p q⟩
 self:=λ_ _ _ _ _ st h=>Vc st h
section
def NP(K:N')(tl:TE):TI:=λσ H R=>tl σ H λx H1=>∃a,x=.ref a/\(∃xs,SqL K H1 a xs)/\R (Itl K a) H1
def O8(K:N')(tl:TE):TI:=λσ H R=>tl σ H λx H1=>∃a,x=.ref a/\(∃xs,SqT K H1 a xs)/\R (Itt K a) H1
theorem Ip{l:Sq}{tl:TE}(hl:PE X l tl):PI X tg l (NP X.K tl):=by
 intro z7 s σ H R I h;refine thn (hl z7 s σ H _ I h) λv c g=>?_
 obtain⟨x,H1,f,i,j⟩:=g;obtain⟨a,e,⟨xs,m⟩,q⟩:=j;subst e;cases i;obtain⟨its,rv,p,hz⟩:=f.list m;refine Um p.isList ?_;refine⟨c.heap.objs.size,[c.heap.objs.size],_,_,H1,rfl,f.kept (t':=c.toks) λb o e=>P5 _ e,Eb a _,⟨_,PY _ rfl,rfl,rfl⟩,λb n=>?_,q⟩;have e:b=c.heap.objs.size:=by simpa using n
 subst e;exact f.fpOk (PN _) (f.hok.fresh (PN _))
theorem Mh{l:Sq}{tl:TE}(hl:PE X l tl):PI X tg l (O8 X.K tl):=by
 intro z7 s σ H R I h;refine thn (hl z7 s σ H _ I h) λv c g=>?_
 obtain⟨x,H1,f,j,m⟩:=g;obtain⟨a,e,⟨xs,n⟩,q⟩:=m;subst e;cases j;obtain⟨i,rv,p,hz⟩:=f.tuple n;refine Tn (show c.heap.IsTuple a i.toArray from p) ?_;refine⟨c.heap.objs.size,[c.heap.objs.size],_,_,H1,rfl,f.kept (t':=c.toks) λb o e=>P5 _ e,A6 a _,⟨_,PY _ rfl,rfl,rfl⟩,λb r=>?_,q⟩;have e:b=c.heap.objs.size:=by simpa using r
 subst e;exact f.fpOk (PN _) (f.hok.fresh (PN _))
theorem An{R:It->Hp->Prop}{lo hi:Z}{t u v:Yj}{tk:O}(I:Inv X z7 σ H s)(h1:-(2 ^ 62)<=lo)(h2:lo<2 ^ 62)(h3:-(2 ^ 62)<=hi)(c:hi<2 ^ 62)
  (q:R (Itr lo (hi-lo).toNat) H):wpAny (model X.prog X.w) X.A (pyIter (.ref s.heap.objs.size)) (PIE X z7 σ tg R) E {s with heap:=s.heap.push {cls:=.type "range",data:=.fields #[.int lo t,.int hi u,.int 1 v]},toks:=tk}:=by
 refine VW (X2 ..) (small_one h1 h2 h3 c) ?_;have a:Inv X z7 σ H {s with heap:=s.heap.push {cls:=.type "range",data:=.fields #[.int lo t,.int hi u,.int 1 v]},toks:=tk}:=I.kept λb o e=>P5 _ e
 refine⟨(s.heap.push {cls:=.type "range",data:=.fields #[.int lo t,.int hi u,.int 1 v]}).objs.size,[(s.heap.push {cls:=.type "range",data:=.fields #[.int lo t,.int hi u,.int 1 v]}).objs.size],_,_,H,rfl,
  a.kept (t':=tk) λb o e=>P5 _ e,Ay _ lo (hi-lo).toNat,?_,λb f=>?_,q⟩
 .have e1:lo+((0:O):Z)*1=lo:=by simp
  have e2:(((hi-lo).toNat:O):Z)-((0:O):Z)=SI lo hi 1:=by rw[rangeSize_one];split <;> omega
  show Vs _ _ (lo+((0:O):Z)*1) ((((hi-lo).toNat:O):Z)-((0:O):Z)) 1;rw[e1,e2];exact PY _ rfl
 .have e:b=(s.heap.push {cls:=.type "range",data:=.fields #[.int lo t,.int hi u,.int 1 v]}).objs.size:=by simpa using f
  subst e;exact a.fpOk (PN _) (a.hok.fresh (PN _))
def OW(ta:TA):TI:=λσ H R=>ta σ H λvs H1=>∃j:Z,vs=[.int j]/\-(2 ^ 62)<=j/\j<2 ^ 62/\R (Itr 0 j.toNat) H1
def NQ(ta:TA):TI:=λσ H R=>ta σ H λvs H1=>∃i j:Z,vs=[.int i,.int j]/\(-(2 ^ 62)<=i/\i<2 ^ 62/\-(2 ^ 62)<=j/\j<2 ^ 62)/\R (Itr i (j-i).toNat) H1
theorem EL{a:Sq}{ta:TA}(f:Gl X "range")(hm:X.mg "range"=S)(ha:PA X [a] ta)(g:starEach [a] X.env=[(false,eval a X.env)]:=by rfl):PI X tg (.Call (.Name "range" p) [a] [] pos) (OW ta):=by
 intro z7 s σ H R I h;refine Xr (fR I f hm VX (Su (thn (ha pos z7 s σ H _ I h) λus s1 b=>?_) g rfl));obtain⟨vs,H1,i,l,c⟩:=b;obtain⟨j,e,c,m,q⟩:=c;subst e;cases l with
 |cons r rr =>cases rr;obtain⟨t,rfl⟩:=r;exact call_range_1 (An i ⋯ ⋯ c m (by simpa using q))
theorem DE{a b:Sq}{ta:TA}(l:Gl X "range")(hm:X.mg "range"=S)(ha:PA X [a,b] ta)(m:starEach [a,b] X.env=[(false,eval a X.env),(false,eval b X.env)]:=by rfl)(c:starEach [b] X.env=[(false,eval b X.env)]:=by rfl) :
  PI X tg (.Call (.Name "range" p) [a,b] [] pos) (NQ ta):=by
 intro z7 s σ H R I h;refine Xr (fR I l hm VX (Su (thn (ha pos z7 s σ H _ I h) λus s1 f=>?_) (by rw[m,c]) (by rw[c];rfl)));obtain⟨vs,H1,n,o,g⟩:=f;obtain⟨i,j,e,⟨g,u,v,w⟩,q⟩:=g;subst e;cases o with
 |cons r rr =>
  cases rr with
  |cons r' rr =>cases rr;obtain⟨t,rfl⟩:=r;obtain⟨t',rfl⟩:=r';exact call_range_2 (An n g u v w q)
def Pd(e:TI)(g:TG)(tb:TS):TS:=λD σ H=>e σ H λBk H1=>∃W:O->O->St->Hp->Prop,(∃m,W 0 m σ H1)/\∀i m σ H,W i m σ H ->
 (Bk.stop i H/\D.nx σ H)\/(Bk.go i H/\∃N:St->Hp->Prop,(∀a H',N a H'->∃c,c < m/\W (i+1) c a H')/\∀x H',Bk.yld i H x H'->g x σ H' λb H2=>tb {D with nx:=N,ct:=N,bk:=D.nx} b H2)
def r8(fp:J HL)(h:Sy):J (HL×Tt):=fp.filterMap λb=>(h.get? b).map λo=>(b,o)
theorem kB{o:Tt}(a:b∈fp)(e:h.get? b=Y o):(b,o)∈r8 fp h:=S7.mpr ⟨b,a,by rw[e];rfl⟩
theorem Df{p:HL×Tt}(a:p∈r8 fp h):p.1∈fp/\h.get? p.1=Y p.2:=by
 obtain⟨b,c,e⟩:=S7.mp a;cases q:h.get? b with
 |none=>rw[q]at e;cases e
 |some o =>rw[q]at e;have f:(b,o)=p:=P' e;subst f;exact⟨c,q⟩
theorem Inv.pinned(I:Inv X z7 σ H s)(f:∀b∈fp,sS X z7 H b)(g:∀b∈fp,∃o,s.heap.get? b=Y o/\∀v,o.data≠.cell v):Inv X (z7++r8 fp s.heap) σ H s :=
 I.pins_of λp h=>(Ql.mp h).elim (λz=>I.pin p (PR _ z)) λz=>by obtain⟨a,e⟩:=Df z;obtain⟨i,f1,f2,_⟩:=f p.1 a;obtain⟨o,c,d⟩:=g p.1 a;rw[e]at c;cases c;exact⟨e,i,f1,f2,d⟩
theorem Inv.unpinned{pl:J (HL×Tt)}(I:Inv X (z7++pl) σ H s):Inv X z7 σ H s:=I.pins_of λp a=>I.pin p (PR _ (Qu _ a))
theorem MY{U:TI}{g:TG}{tb:TS}(E:V2 (model X.prog X.w) X.A X.env X.xe)(hc:X.calm=true)(hi:PI X tg iter U)(hg:PG X tg g)(j:PSs X body tb)
  (hs:∀x,foldedSetIterable iter X.env x=pure x:=by intro _;rfl):PS X (.For tg iter body [] pos) (Pd U g tb):=by
 intro z7 s σ H D I h;refine wpAny_For (thn (hi z7 s σ H _ I h) λv s1 h1=>thn h1 λitv s2 h2=>?_) hs;obtain⟨it,fp,tn,Bk,H2,e,I2,T,M,f2,W,⟨m0,w0⟩,turn⟩:=h2;subst e
 -- what stays true of the iterator's objects through the loop
 have l:∀{H':Hp},(∀b∈fp,H' b=S)->∀b∈fp,sS X z7 H' b:=λhn b j=>⟨hn b j,(f2 b j).2⟩
 refine codeAny_forLoop_any (λn s'=>∃i p H',Inv X z7 p H' s'/\tn i s'.heap/\(∀b∈fp,H' b=S)/\W i n p H') ?_ m0 ⟨0,σ,H2,I2,M,λb j=>(f2 b j).1,w0⟩
 rintro n A2 ⟨i,q,B',A4,F,G,w3⟩
 rcases turn i n q B' w3 with⟨stop,qn⟩|⟨go,N,hN,step⟩
 .refine Tv E (thn (T.done X rfl rfl rfl hc i z7 A2 q B' X.xe A4 (l G) F stop) λr s4 c=>?_);obtain⟨D2,I4⟩:=c;subst D2;exact Ux ⟨q,B',I4,qn⟩
 .refine Tv E (thn (T.item X rfl rfl rfl hc i z7 A2 q B' X.xe A4 (l G) F go) λr s4 c=>?_);obtain⟨u,D2,h4⟩:=c;subst D2;refine Tv E (thn h4 λ_ s5 c=>?_);obtain⟨x,H5,I5,r5,y5,C,P⟩:=c;have Q:=I5.pinned (l P) (T.obj _ _ C);refine Tv E (thn (hg _ s5 q H5 x u _ Q r5 (step x H5 y5)) λ_ s6 c=>?_);obtain⟨R,H6,I6,q6⟩:=c;refine Tv E (thn (j _ s6 R H6 _ I6 q6) λf D1 B=>?_);have again:∀{a:St}{y:Hp},Inv X (z7++r8 fp s5.heap) a y D1->N a y->∃m,m<n/\∃i p H',Inv X z7 p H' D1/\tn i D1.heap/\(∀b∈fp,H' b=S)/\W i m p H':=λ{a y} z K=>by obtain⟨m',hm,w7⟩:=hN a y K;refine⟨m',hm,i+1,a,y,z.unpinned,T.keep _ _ _ C λb j o e=>(z.pin (b,o) (PR _ (PR _ (kB j e)))).1,λb j=>?_,w7⟩;obtain⟨o,e,d⟩:=T.obj _ _ C b j;exact (z.pin (b,o) (PR _ (PR _ (kB j e)))).2.1
  cases f with
  |next=>obtain⟨a,y,z,K⟩:=B;exact again z K
  |cont=>obtain⟨a,y,z,K⟩:=B;exact again z K
  |brk=>obtain⟨a,y,z,B⟩:=B;exact⟨a,y,z.unpinned,B⟩
  |ret v=>obtain⟨x7,a,y,z,r7,B⟩:=B;exact⟨x7,a,y,z.unpinned,r7,B⟩
end
abbrev R2:=V->V->Hp->VK->Prop
variable {r:R2}
def OpR(X:Cx)(f:F'->F'->XQ F')(r:R2):Prop :=
 ∀(z7:J (HL×Tt))(s:K')(σ:St)(H:Hp)(x y:V)(v u:F')(Q:VK),Inv X z7 σ H s->RelV x v->RelV y u->r x y H Q ->
  wpAny (model X.prog X.w) X.A (f v u) (EP X z7 σ Q) X.xe s
def UnR(X:Cx)(f:F'->XQ F')(r:V->Hp->VK->Prop):Prop :=
 ∀(z7:J (HL×Tt))(s:K')(σ:St)(H:Hp)(x:V)(v:F')(Q:VK),Inv X z7 σ H s->RelV x v->r x H Q ->
  wpAny (model X.prog X.w) X.A (f v) (EP X z7 σ Q) X.xe s
def kP(X:Cx)(f:F')(r:J V->Hp->VK->Prop):Prop :=
 ∀(z7:J (HL×Tt))(s:K')(σ:St)(H:Hp)(xs:J V)(us:J F')(Q:VK),Inv X z7 σ H s->Vals xs us->r xs H Q ->
  wpAny (model X.prog X.w) X.A (call f us) (EP X z7 σ Q) X.xe s
def tOp(r:R2)(ta tb:TE):TE:=λσ H Q=>ta σ H λx H1=>tb σ H1 λy H2=>r x y H2 Q
def tUn(r:V->Hp->VK->Prop)(ta:TE):TE:=λσ H Q=>ta σ H λx H1=>r x H1 Q
def rI(C:Z->Z->Prop)(g:Z->Z->V):R2:=λx y H Q=>∃i j,x=.int i/\y=.int j/\C i j/\Q (g i j) H
def rI0(g:Z->Z->V):R2:=λx y H Q=>∃i j,x=.int i/\y=.int j/\Q (g i j) H
def rU(g:Z->V):V->Hp->VK->Prop:=λx H Q=>∃i,x=.int i/\Q (g i) H
section
variable {a b:Sq}{ta tb tc:TE}
theorem LG(ha:PE X a ta)(i:PE X b tb)(I:Inv X z7 σ H s)
  (h:ta σ H λx H1=>tb σ H1 λy H2=>R x y H2) {f:F'->F'->XQ F'}
  (j:∀v u s2 x y H2,Inv X z7 σ H2 s2->RelV x v->RelV y u->R x y H2->wpAny (model X.prog X.w) X.A (f v u) Q X.xe s2) :
  wpAny (model X.prog X.w) X.A (eval a X.env) (λv e=>wpAny (model X.prog X.w) X.A (eval b X.env) (λu g=>wpAny (model X.prog X.w) X.A (f v u) Q X.xe g) X.xe e) X.xe s:=by
 refine thn (ha z7 s σ H _ I h) λv l c=>?_
 obtain⟨x,H1,m,n,o⟩:=c;refine thn (i z7 l σ H1 _ m o) λu s2 c=>?_
 obtain⟨y,H2,p,q,r⟩:=c;exact j v u s2 x y H2 p n q r
theorem fY{op:Wa}(c:OpR X (binaryOp op) r)(ha:PE X a ta)(e:PE X b tb):PE X (.BinOp a op b pos) (tOp r ta tb):=by intro z7 s σ H Q I h;exact wpAny_BinOp (LG ha e I h λv u s2 x y H2 f g i q=>c z7 s2 σ H2 x y v u Q f g i q)
theorem OO{op:UnaryOp}{r:V->Hp->VK->Prop}(c:UnR X (unaryOp op) r)(ha:PE X a ta):PE X (.UnaryOp op a pos) (tUn r ta):=by intro z7 s σ H Q I h;exact UnaryOp_ (thn (ha z7 s σ H _ I h) λv e b=>(by obtain⟨x,H1,f,g,i⟩:=b;exact c z7 e σ H1 x v Q f g i))
theorem opI{f:F'->F'->XQ F'}{C:Z->Z->Prop}
  (rule:∀(i j:Z)(t u:Yj)(s:K')(Q:F'->K'->Prop)(E:F'->K'->Prop),C i j->Q (.int (g i j) s.toks) {s with toks:=s.toks+1}->wpAny (model X.prog X.w) X.A (f (.int i t) (.int j u)) Q E s) :
  OpR X f (rI C λi j=>.int (g i j)):=by
 intro z7 s σ H x y v u Q I a b h;obtain⟨i,j,rfl,rfl,hc,q⟩:=h;obtain⟨t,rfl⟩:=a;obtain⟨t',rfl⟩:=b;exact rule i j t t' s _ _ hc ⟨.int (g i j),H,I.tok _,⟨_,rfl⟩,q⟩
theorem OJ{f:F'->F'->XQ F'}
  (rule:∀(i j:Z)(t u:Yj)(s:K')(Q:F'->K'->Prop)(E:F'->K'->Prop),Q (.int (g i j) s.toks) {s with toks:=s.toks+1}->wpAny (model X.prog X.w) X.A (f (.int i t) (.int j u)) Q E s) :
  OpR X f (rI0 λi j=>.int (g i j)):=by
 intro z7 s σ H x y v u Q I a b h;obtain⟨i,j,rfl,rfl,q⟩:=h;obtain⟨t,rfl⟩:=a;obtain⟨t',rfl⟩:=b;exact rule i j t t' s _ _ ⟨.int (g i j),H,I.tok _,⟨_,rfl⟩,q⟩
theorem LP{f:F'->F'->XQ F'}{g:Z->Z->R0}
  (rule:∀(i j:Z)(t u:Yj)(s:K')(Q:F'->K'->Prop)(E:F'->K'->Prop),Q (.bool (g i j)) s->wpAny (model X.prog X.w) X.A (f (.int i t) (.int j u)) Q E s) :
  OpR X f (rI0 λi j=>.bl (g i j)):=by
 intro z7 s σ H x y v u Q I a b h;obtain⟨i,j,rfl,rfl,q⟩:=h;obtain⟨t,rfl⟩:=a;obtain⟨t',rfl⟩:=b;exact rule i j t t' s _ _ ⟨.bl (g i j),H,I,rfl,q⟩
def NL(i j:Z):Prop:=0<j/\j<1073741824
def OF(i j:Z):Prop:=0<=j/\j<=1000000/\i.natAbs<2 ^ 64
def IY(i j:Z):Prop:=(-(2 ^ 64)<i/\i<2 ^ 64)\/(-(2 ^ 64)<j/\j<2 ^ 64)
theorem IY.ok{i j:Z}(h:IY i j):IntMulOk i j:=by
 rcases h with⟨h1,h2⟩|⟨h1,h2⟩
 .exact .of_left (intBits_le_64 h1 h2)
 .exact .of_right (intBits_le_64 h1 h2)
theorem pH:OpR X (binaryOp .Add) (rI0 λi j=>.int (i+j)):=OJ λ_ _ _ _ _ _ _ q=>add_int q
theorem Mr:OpR X (binaryOp .Sub) (rI0 λi j=>.int (i-j)):=OJ λ_ _ _ _ _ _ _ q=>sub_int q
theorem pA:OpR X (binaryOp .Mult) (rI IY λi j=>.int (i*j)):=opI λ_ _ _ _ _ _ _ hc q=>mul_int q hc.ok
theorem JS:OpR X (binaryOp .FloorDiv) (rI NL λi j=>.int (i / j)):=opI λi j _ _ _ _ _ hc q=>by have h1:(0:Z)<j:=hc.1;have h2:j<1073741824:=hc.2;exact floordiv_int ⋯ (by rw[Z.fdiv_eq_ediv_of_nonneg i ⋯];exact q) (.inl (Vd ⋯))
theorem rn:OpR X (binaryOp .Mod) (rI (λ_ j=>0<j) λi j=>.int (i % j)):=opI λi j _ _ _ _ _ hc q=>by have h1:(0:Z)<j:=hc;exact mod_int' ⋯ (by rw[Z.fmod_eq_emod_of_nonneg i ⋯];exact q)
theorem Lv:OpR X (binaryOp .Pow) (rI OF λi j=>.int (i ^ j.toNat)):=opI λ_ _ _ _ _ _ _ hc q=>pow_int_small hc.1 hc.2.1 hc.2.2 q
theorem unI{f:F'->XQ F'}{g:Z->Z}
  (rule:∀(i:Z)(t:Yj)(s:K')(Q:F'->K'->Prop)(E:F'->K'->Prop),Q (.int (g i) s.toks) {s with toks:=s.toks+1}->wpAny (model X.prog X.w) X.A (f (.int i t)) Q E s) :
  UnR X f (rU λi=>.int (g i)):=by
 intro z7 s σ H x v Q I a h;obtain⟨i,rfl,q⟩:=h;obtain⟨t,rfl⟩:=a;exact rule i t s _ _ ⟨.int (g i),H,I.tok _,⟨_,rfl⟩,q⟩
theorem Me:UnR X (unaryOp .USub) (rU λi=>.int (-i)):=unI λ_ _ _ _ _ q=>neg_int q
end
section
variable {a b:Sq}{ta tb tc:TE}
theorem F2:OpR X (compareOp .Lt) (rI0 λi j=>.bl (decide (i<j))):=LP λ_ _ _ _ _ _ _ q=>lt_int q
theorem C4:OpR X (compareOp .LtE) (rI0 λi j=>.bl (decide (i<=j))):=LP λ_ _ _ _ _ _ _ q=>le_int q
theorem La:OpR X (compareOp .Gt) (rI0 λi j=>.bl (decide (j<i))):=LP λ_ _ _ _ _ _ _ q=>gt_int q
theorem OpR.or{f:F'->F'->XQ F'}{a:R2}(h:OpR X f r)(h':OpR X f a):OpR X f (λx y H Q=>r x y H Q\/a x y H Q):=by
 intro z7 s σ H x y v u Q I b c q;rcases q with q|q
 .exact h z7 s σ H x y v u Q I b c q
 .exact h' z7 s σ H x y v u Q I b c q
theorem jI(b:Sq)(h:op≠.In:=by decide)(h2:op≠.NotIn:=by decide):behindInMarks op b=false:=by
 have e1:(op==Yv)=false:=by cases op <;> first|rfl|cases h rfl
 have e2:(op==Yb)=false:=by cases op <;> first|rfl|cases h2 rfl
 cases b <;> simp[behindInMarks,e1,e2]
theorem nV(c:OpR X (compareOp op) r)(ha:PE X a ta)(e:PE X b tb)(hm:behindInMarks op b=false):PE X (.Compare a [op] [b] pos) (tOp r ta tb):=by intro z7 s σ H Q I h;exact Xq (LG ha e I h λv u s2 x y H2 f g i q=>c z7 s2 σ H2 x y v u Q f g i q) hm
def K7(t:TE):TT:=λσ H Q=>t σ H λx H'=>∃k,x=.bl k/\Q k H'
theorem lZ(g:OpR X (compareOp op) r)(ha:PE X a ta)(i:PE X b tb)(hm:behindInMarks op b=false):PT X (.Compare a [op] [b] pos) (K7 (tOp r ta tb)):=by
 intro z7 s σ H Q I h;refine Vn (thn (ha z7 s σ H _ I h) λv j f=>?_) hm;obtain⟨x,H1,l,m,n⟩:=f;refine thn (i z7 j σ H1 _ l n) λu s2 f=>?_
 obtain⟨y,H2,o,p,q⟩:=f;refine thn (g z7 s2 σ H2 x y v u _ o m p q) λc s3 f=>?_
 obtain⟨z,w,A,B,k,e,C⟩:=f;subst e;cases B;exact SY ⟨w,A,C⟩
def MM(r b:R2)(ta tb tc:TE):TE:=λσ H Q=>ta σ H λx H1=>tb σ H1 λy H2=>r x y H2 λz a=>∃k,z=.bl k /\
 (if k=true then tc σ a λc e=>b y c e Q else Q (.bl false) a)
theorem Ha{g:XN}{l:R2}(q:OpR X (compareOp op) r)(i:OpR X (compareOp g) l)(ha:PE X a ta)(w:PE X b tb)(hc:PE X c tc)
  (hm:lastMarks [op,g] [b,c]=false:=by with_unfolding_all rfl):PE X (.Compare a [op,g] [b,c] pos) (MM r l ta tb tc):=by
 intro z7 s σ H Q I h;refine Compare_chain (thn (ha z7 s σ H _ I h) λv A f=>?_) hm;obtain⟨x,H1,B,C,D⟩:=f;refine chain_link (thn (w z7 A σ H1 _ B D) λu s2 f=>?_);obtain⟨y,H2,E,m,F⟩:=f;refine thn (q z7 s2 σ H2 x y v u _ E C m F) λd G f=>?_
 obtain⟨z,n,o,Bk,k,e,p⟩:=f;subst e;cases Bk;refine SY ?_;cases k with
 |false=>exact ite_ff ⟨.bl false,n,o,rfl,p⟩
 |true=>exact ite_tt (chain_last (thn (hc z7 G σ n _ o p) λK B' j=>(by obtain⟨M,N,D2,P,R⟩:=j;exact i z7 B' σ N y M u K Q D2 m P R)))
theorem xn:(sizeLine:O)<2 ^ 63:=by rw[SA];decide
theorem vals1{x:V}(r:Vals [x] us):∃u,us=[u]/\RelV x u:=by
 cases r with
 |cons r1 r2=>cases r2;exact⟨_,rfl,r1⟩
theorem vals2{x y:V}(r:Vals [x,y] us):∃u a,us=[u,a]/\RelV x u/\RelV y a:=by
 cases r with
 |cons r1 r2 =>
  cases r2 with
  |cons r3 r4=>cases r4;exact⟨_,_,rfl,r1,r3⟩
theorem EJ(hc:X.calm=true):kP X (.builtin "max") (λxs H Q=>∃i j,xs=[.int i,.int j]/\Q (.int (if j>i then j else i)) H):=by
 intro z7 s σ H xs us Q I r h;obtain⟨i,j,rfl,q⟩:=h;obtain⟨u,w',rfl,⟨t,rfl⟩,⟨t',rfl⟩⟩:=vals2 r;refine max_two_ints (I.ok.hd hc) λh' tk k=>⟨_,H,I.kept k,?_,q⟩
 by_cases hj:j>i
 .rw[FC hj,FC hj];exact⟨_,rfl⟩
 .rw[GC hj,GC hj];exact⟨_,rfl⟩
theorem DX(hc:X.calm=true):kP X (.builtin "min") (λxs H Q=>∃i j,xs=[.int i,.int j]/\Q (.int (if j<i then j else i)) H):=by
 intro z7 s σ H xs us Q I r h;obtain⟨i,j,rfl,q⟩:=h;obtain⟨u,w',rfl,⟨t,rfl⟩,⟨t',rfl⟩⟩:=vals2 r;refine min_two_ints (I.ok.hd hc) λh' tk k=>⟨_,H,I.kept k,?_,q⟩
 by_cases hj:j<i
 .rw[FC hj,FC hj];exact⟨_,rfl⟩
 .rw[GC hj,GC hj];exact⟨_,rfl⟩
theorem Dk:kP X (.type "int") (λxs H Q=>(∃i,xs=[.int i]/\Q (.int i) H)\/∃k,xs=[.bl k]/\Q (.int (if k then 1 else 0)) H):=by
 intro z7 s σ H xs us Q I r h;rcases h with⟨i,rfl,q⟩|⟨k,rfl,q⟩
 .obtain⟨u,rfl,t,rfl⟩:=vals1 r;exact call_int_int ⟨.int i,H,I,⟨_,rfl⟩,q⟩
 .obtain⟨u,rfl,a⟩:=vals1 r;cases a;exact call_int_bool ⟨.int (if k then 1 else 0),H,I.tok _,⟨_,rfl⟩,q⟩
end
structure Av(h:Sy)(x dx C:HL)(mA:M'->D' F'):Prop where
 obj:h.get? x=Y (Ut C dx)
 ns:h.Ns1 dx mA
 ne:dx≠x
theorem D3(n:h.Ns1 dx mA):∃od,h.get? dx=Y od/\∀name,Xs name od=Y (mA name):=by
 obtain⟨o,es,ep,c,hd,f,_,hm⟩:=n;refine⟨o,c,λname=>?_⟩;have e:=hm name;unfold nsFind findBy at e;rw[<-SN.find?_toList]at e;unfold Xs;rw[hd];dsimp only;split
 .rename_i y q;rw[q]at e;exact congrArg Y e
 .rename_i q;rw[q]at e;have a:es.toList.any (·.refKey)=false:=by rw[Sb];intro y g;obtain⟨z,t,b⟩:=f y (SN.mem_toList_iff.mp g);simp[DictEntry.refKey,b]
  have i:¬ es.toList.any (·.refKey)=true:=by rw[a];exact Q1
  rw[GC i];exact congrArg Y e
theorem Av.look{x:HL}(I:Av h x dx C mA):∃od,W.InstAt h x (Ut C dx) C (Y od)/\∀name,Xs name od=Y (mA name) :=
 let ⟨od,ho,hl⟩:=D3 I.ns
 ⟨od,⟨I.obj,rfl,rfl,ho⟩,hl⟩
section
variable {x:HL}{name:M'}{v:F'}
theorem get_map{expr:R0}(X:K.In s.heap)(I:Av s.heap x dx C mA)(b:VY K C name=true)(c:X3 K C=true)
  (ha:Ug K (.ref C) name=Y S) (hv:mA name=Y v) (a:W.handedIn v=true) (h:Q v {s with toks:=s.toks+1}) :
  wpAny (model prog w) A (getAttr (.ref x) name expr) Q E s:=by
 obtain⟨od,Bk,hl⟩:=I.look;exact W.get_value X Bk (VL b).1 (W.findObj_own c ha rfl (by rw[hl,hv])) a h
theorem Gs{pl:XQ R0}{Q:F'×J F'->K'->Prop}(X:K.In s.heap)(I:Av s.heap x dx C mA)(a:VY K C name=true)
  (b:Ug K (.ref C) name=Y (Y (.ref f))) (c:Yk K (.ref f)=true) (hv:mA name=S) (h:Q (.ref f,[.ref x]) s) :
  wpAny (model prog w) A (getMethod (.ref x) name pl) Q E s:=by
 obtain⟨od,Bk,hl⟩:=I.look;exact W.method_fn X Bk (VL a).1 (VL a).2 b (TB.mp c) (by show (Xs name od).map (·.isSome)=Y false;rw[hl,hv];rfl) h
theorem Ky{ns:J M'}{Q:XI->K'->Prop}(X:K.In s.heap)(I:Av s.heap x dx C mA)
  (j:Ug K (.ref C) "__setattr__"=Y (Y (.builtin "object.__setattr__"))) (l:W.plainOver K C=true) (m:XR K C name=Y S) (n:X3 K C=true)
  (hw:PySem.Within mA ns) (hsz:ns.length<=sizeLine)
  (h:∀h',Av h' x dx C (λy=>if y=name then Y v else mA y)->T8 dx s.heap h'->Q () {s with heap:=h',toks:=s.toks+2}) :
  wpAny (model prog w) A (setAttr (.ref x) name v) Q E s:=by
 obtain⟨od,Bk,hl⟩:=I.look;refine W.set_plain X Bk j (W.osa_open (s:={s with toks:=s.toks+1}) (r:=S) X Bk l m λb=>?_);obtain⟨cd,hc,f⟩:=W.any_some n;have o:s.heap.get? x=Y ⟨.ref C,Y dx,.plain,#[]⟩:=I.obj;refine F1 (J' (F1 (F1 (Xu o (F1 (W.Looks.here (s:={s with toks:=s.toks+1}) (W.looks_clsIn X hc) ?_))))));rw[f];refine J' (a:=Y dx) (F1 (J' (F1 ?_)));refine wpAny_nsSet1 (s:={s with toks:=s.toks+1}) I.ns λh' c e=>?_
 obtain⟨oD,esD,epD,g,hdD,i⟩:=c.count (PySem.Within.cons name v hw);refine F1 (wpAny_lookBehind g (by rw[hdD];exact pastItsLine_dict (QD i (by rw[PZ];omega))) ?_);exact J' (h _ ⟨(e.2 _ (Uh I.ne)).trans I.obj,c,I.ne⟩ e)
theorem Hx{R:XY->K'->Prop}{vs:J F'}{a:J (M'×F')}(X:K.In s.heap)(hm:XS K C=true)
  (hi:Ug K (.ref C) "__init__"=Y (Y (.ref f))) (b:W.typeIn K (.ref f)=Y (.type "function"))
  (h:codeAny (model prog w) (A.under (.builtin "type.__call__" ⟨.ref C::vs,a⟩)) (.call (.ref f) ⟨.ref (s.heap.objs.size+1)::vs,a⟩) (W.InitBack (s.heap.objs.size+1) R)
   {s with heap:=(s.heap.push U5).push (Ut C s.heap.objs.size)}) :
  codeAny (model prog w) A (.call (.ref C) ⟨vs,a⟩) R s:=by
 obtain⟨hh,g,d,t,os⟩:=s;exact W.make_core (W.makes_of X hm) (W.looks_findIn X hi) (λself=>W.bind_fn X self b) (.inl rfl) h
end
def jG(f:M')(v:V):J (M'×V)->J (M'×V)
 |[]=>[(f,v)]
 |(g,x)::r=>if g=f then (g,v)::r else (g,x)::jG f v r
theorem k7(f g:M')(v:V):∀fs:J (M'×V),(jG f v fs).lookup g=if g=f then Y v else fs.lookup g
 |[]=>by
  show Uj g [(f,v)]=_;by_cases h:g=f
  .have a:(g==f)=true:=TB.mpr h;dsimp[Uj,a,FC h]
  .have a:(g==f)=false:=SE.mpr h;dsimp[Uj,a,GC h]
 |(k,x)::r=>by
  have b:=k7 f g v r;rw[show jG f v ((k,x)::r)=(if k=f then (k,v)::r else (k,x)::jG f v r) from rfl];by_cases hk:k=f
  .rw[FC hk];by_cases h:g=k
   .have a:(g==k)=true:=TB.mpr h;dsimp[Uj,a,FC (h.trans hk)]
   .have a:(g==k)=false:=SE.mpr h;dsimp[Uj,a,GC (λe:g=f=>h (e.trans hk.symm))]
  .rw[GC hk];by_cases h:g=k
   .have a:(g==k)=true:=TB.mpr h;dsimp[Uj,a,GC (λe:g=f=>hk (h.symm.trans e))]
   .have a:(g==k)=false:=SE.mpr h;dsimp[Uj,a];exact b
theorem ph(f:M')(v:V):∀fs:J (M'×V),f∈(jG f v fs).map (·.1)/\∀g,g∈fs.map (·.1)->g∈(jG f v fs).map (·.1)
 |[]=>⟨by simp[jG],λg h=>by simp at h⟩
 |(k,x)::r=>by
  obtain⟨i1,i2⟩:=ph f v r;rw[show jG f v ((k,x)::r)=(if k=f then (k,v)::r else (k,x)::jG f v r) from rfl];by_cases hk:k=f
  .rw[FC hk];subst hk;exact⟨by simp,λg h=>by simpa using h⟩
  .rw[GC hk];refine⟨?_,λg h=>?_⟩
   .rw[P0];exact P4 _ i1
   .rw[P0]at h ⊢;rcases P8.mp h with e|e
    .exact P8.mpr (.inl e)
    .exact P4 _ (i2 g e)
theorem qB(f:M')(v:V):∀fs:J (M'×V),(jG f v fs).length<=fs.length+1
 |[]=>by simp[jG]
 |(k,x)::r=>by
  have ih:=qB f v r;rw[show jG f v ((k,x)::r)=(if k=f then (k,v)::r else (k,x)::jG f v r) from rfl];by_cases hk:k=f
  .rw[FC hk,PZ,PZ];omega
  .rw[GC hk,PZ,PZ];omega
theorem kZ.some_of{o:D' F'}(r:kZ (Y v) o):∃u,o=Y u/\RelV v u:=by
 cases o with
 |none=>exact (show False from r).elim
 |some u=>exact⟨u,rfl,r⟩
theorem kZ.none_of{o:D' F'}(r:kZ S o):o=none:=by
 cases o with
 |none=>rfl
 |some u=>exact (show False from r).elim
theorem D6(r:RelV v u):W.handedIn u=true:=by
 cases v with
 |non=>cases (show u=TV from r);rfl
 |bl b=>cases (show u=Va b from r);rfl
 |int i=>obtain⟨t,e⟩:=(show ∃t,u=Us i t from r);cases e;rfl
 |str x=>obtain⟨t,e⟩:=(show ∃t,u=WI x t from r);cases e;rfl
 |byt b=>obtain⟨t,e⟩:=(show ∃t,u=Y8 b t from r);cases e;rfl
 |flt b=>obtain⟨t,e⟩:=(show ∃t,u=Y9 b t from r);cases e;rfl
 |ref a=>cases (show u=Sz a from r);rfl
 |ty n=>cases (show u=U4 n from r);rfl
section
variable {H':Hp}{fs fs':J (M'×V)}
theorem wo(hok:HOk P w H h)(e:H a=Y (.ins C dx fs)):∃mA,Av h a dx C mA/\(∀f,kZ (fs.lookup f) (mA f))/\PySem.Within mA (fs.map (·.1))/\fs.length<=1000/\H dx=Y (.own a):=by
 obtain⟨d,z,ne,b,mA,n,r,q⟩:=(show dY P w H h a (.ins C dx fs) from hok a _ e)
 exact⟨mA,⟨b,n,ne⟩,r,q,z,d⟩
end
structure Cls(K:N')(C:HL):Prop where
 pg:VY K C M'.empty=true
 hd:X3 K C=true
 po:W.plainOver K C=true
 sa:Ug K (.ref C) "__setattr__"=Y (Y (.builtin "object.__setattr__"))
theorem Cls.get(c:Cls K C)(f:M'):VY K C f=true:=c.pg
def gu(K:N')(C:HL)(f:M'):Prop:=Ug K (.ref C) f=Y S
theorem gu.taker{f:M'}(n:gu K C f):XR K C f=Y none:=by unfold XR;rw[show Ug K (.ref C) f=Y S from n];rfl
structure Meth(K:N')(C:HL)(m:M')(f:HL):Prop where
 at_:Ug K (.ref C) m=Y (Y (.ref f))
 fn:Yk K (.ref f)=true
 kp:Uo K (.ref f)=true
section
variable {fs:J (M'×V)}{f:M'}
theorem rm{b:R0}(I:Inv X z7 σ H s)(e:H a=Y (.ins C dx fs))(c:Cls X.K C)(n:gu X.K C f)(l:fs.lookup f=Y v)
  (h:∀u s',Inv X z7 σ H s'->RelV v u->Q u s'):wpAny (model X.prog X.w) A (getAttr (.ref a) f b) Q E s:=by
 obtain⟨mA,D2,r,_,_,_⟩:=wo I.hok e;obtain⟨u,i,g⟩:=kZ.some_of (v:=v) (o:=mA f) (by rw[<-l];exact r f);exact get_map I.kIn D2 (c.get f) c.hd n i (D6 g) (h u _ (I.tok _) g)
theorem rP{m:M'}{g:HL}{pl:XQ R0}{Q:F'×J F'->K'->Prop}(I:Inv X z7 σ H s)(e:H a=Y (.ins C dx fs))(c:Cls X.K C)(k:Meth X.K C m g)(l:fs.lookup m=S)
  (h:Q (.ref g,[.ref a]) s):wpAny (model X.prog X.w) A (getMethod (.ref a) m pl) Q E s:=by
 obtain⟨mA,D2,r,_,_,_⟩:=wo I.hok e;have hn:mA m=none:=kZ.none_of (by rw[<-l];exact r m);exact Gs I.kIn D2 (c.get m) k.at_ k.fn hn h
theorem ud{y:V}{Q:XI->K'->Prop}(I:Inv X z7 σ H s)(e:H a=Y (.ins C dx fs))(c:Cls X.K C)(n:gu X.K C f)(hl:fs.length<1000)(m:RelV y u)
  (h:∀s',Inv X z7 σ (upd H a (.ins C dx (jG f y fs))) s'->Q () s'):wpAny (model X.prog X.w) A (setAttr (.ref a) f u) Q E s:=by
 obtain⟨mA,D2,r,j,_,l⟩:=wo I.hok e;have p:(fs.map (·.1)).length<=sizeLine:=by rw[P6,SA];omega
 refine Ky I.kIn D2 c.sa c.po n.taker c.hd j p λh' i v=>h _ ?_
 have hd:∃o,h'.get? dx=Y o:=let ⟨o,_,_,e',_⟩:=i.ns;⟨o,e'⟩;refine I.write (x:=a) (e:=dx) (by rw[e];exact TX) (.inr l) (λb q B z=>(v.2 b B).trans z) hd ?_;refine⟨by rw[aE D2.ne];exact l,?_,D2.ne,i.obj,_,i.ns,λg=>?_,λg D=>?_⟩
 .have:=qB f y fs;omega
 .show kZ ((jG f y fs).lookup g) (if g=f then Y u else mA g);rw[k7];by_cases q:g=f
  .rw[FC q,FC q];exact m
  .rw[GC q,GC q];exact r g
 .by_cases q:g=f
  .rw[q];exact (ph f y fs).1
  .refine (ph f y fs).2 g (j g λz=>D ?_);show (if g=f then Y u else mA g)=S;rw[GC q];exact z
theorem Inv.made(I:Inv X z7 σ H s):Inv X z7 σ (upd (upd H s.heap.objs.size (.own (s.heap.objs.size+1))) (s.heap.objs.size+1) (.ins C s.heap.objs.size []))
  {s with heap:=(s.heap.push U5).push (Ut C s.heap.objs.size)}:=by
 have e1:(s.heap.push U5).get? s.heap.objs.size=Y W.emptyDict:=PY s.heap rfl;have e2:((s.heap.push U5).push (Ut C s.heap.objs.size)).get? (s.heap.objs.size+1)=Y (Ut C s.heap.objs.size):=by
  have:=PY (s.heap.push U5) (o:=Ut C s.heap.objs.size) rfl
  rwa[SJ]at this
 have c:(s.heap.push U5).Ns s.heap.objs.size (λ_=>S):=⟨U5,#[],_,e1,rfl,(λe f=>So f #[2]),λ_=>rfl⟩
 have g:=I.laid (a:=s.heap.objs.size) (o:=.own (s.heap.objs.size+1)) (h':=s.heap.push U5) (t':=s.toks) (λb u q=>P5 _ q) (PN _) ⟨_,e1⟩;refine g.laid (a:=s.heap.objs.size+1) (o:=.ins C s.heap.objs.size []) (t':=s.toks) (λb u q=>P5 _ q) (Wc (SJ _ _)) ?_;have ne:s.heap.objs.size≠s.heap.objs.size+1:=Q4 (R9 _);refine⟨by rw[aE ne,aM],QH _,ne,e2,λ_=>S,(Sy.Ns1.of_empty c).at λo q=>P5 _ q,λ_=>TX,λy h=>So rfl h⟩
theorem IK{f:M'}(b:attributeBase e f env (eval e env)=eval e env)
  (h:wpAny (model prog w) A (eval e env) (λo a=>wpAny (model prog w) A (getAttr o f true) Q E a) E s):wpAny (model prog w) A (eval (.Attribute e f pos) env) Q E s :=
 Attribute_any_ h (by rw[arm_eval_Attribute,b])
end
def O9(K:N')(ta:TE)(f:M'):TE:=λσ H Q=>ta σ H λx H1=>∃a C dx fs v,x=.ref a/\H1 a=Y (.ins C dx fs)/\Cls K C/\gu K C f/\fs.lookup f=Y v/\Q v H1
def Pe(K:N')(ta tv:TE)(f:M'):TS:=λD σ H=>tv σ H λy H1=>ta σ H1 λx H2=>∃a C dx fs,x=.ref a/\H2 a=Y (.ins C dx fs)/\Cls K C/\gu K C f/\fs.length<1000 /\
 D.nx σ (upd H2 a (.ins C dx (jG f y fs)))
def Oe(X:Cx)(op:Wa)(a:V->V->Hp->VK->Prop):Prop :=
 ∀(z7:J (HL×Tt))(s:K')(σ:St)(H:Hp)(x y:V)(u v:F')(Q:VK),Inv X z7 σ H s->RelV x u->RelV y v->a x y H Q->wpAny (model X.prog X.w) X.A (inplaceOp op u v) (EP X z7 σ Q) X.xe s
def Js(K:N')(ta tv:TE)(e:V->V->Hp->VK->Prop)(f:M'):TS:=λD σ H=>ta σ H λx H1=>∃a C dx fs v,x=.ref a/\H1 a=Y (.ins C dx fs)/\Cls K C/\gu K C f/\fs.lookup f=Y v /\
 tv σ H1 λy H2=>e v y H2 λz c=>∃b fs',c a=Y (.ins C b fs')/\fs'.length<1000/\D.nx σ (upd c a (.ins C b (jG f z fs')))
section
variable {o value:Sq}{f:M'}{tpos:Vp}{ta tv:TE}
theorem Mq(g:PE X e ta)(i:attributeBase e f X.env (eval e X.env)=eval e X.env):PE X (.Attribute e f pos) (O9 X.K ta f):=by intro z7 s σ H Q I h;refine IK i (thn (g z7 s σ H _ I h) λu s1 b=>?_);obtain⟨x,H1,j,m,a,C,dx,fs,v,ex,ea,c,n,l,q⟩:=b;subst ex;obtain rfl:u=Sz a:=m;exact rm j ea c n l λu' s2 o p=>⟨v,H1,o,p,q⟩
theorem iH(ha:PE X o ta)(hv:PE X value tv)(e:swapsWith value (Y (.Attribute o f pos')) pos.line X.env=pure false):PS X (.Assign [.Attribute o f pos'] value pos) (Pe X.K ta tv f):=by
 intro z7 s σ H D I h;refine plainObj_wpAny_Assign_Attribute (thn (hv z7 s σ H _ I h) λu g b=>?_) e;obtain⟨y,H1,i,j,q⟩:=b;refine thn (ha z7 g σ H1 _ i q) λm s2 b=>?_
 obtain⟨x,H2,p,r,a,C,dx,fs,ex,ea,c,n,l,v⟩:=b;subst ex;obtain rfl:m=Sz a:=r;exact ud p ea c n l j λs3 w=>⟨σ,_,w,v⟩
theorem DL{op:Wa}{i:V->V->Hp->VK->Prop}(ha:PE X o ta)(hv:PE X value tv)(e:Oe X op i):PS X (.AugAssign (.Attribute o f tpos) op value pos) (Js X.K ta tv i f):=by
 intro z7 s σ H D I h;refine wpAny_AugAssign_AttributeAny (thn (ha z7 s σ H _ I h) λj s1 b=>?_);obtain⟨x,H1,m,p,a,C,dx,fs,v,ex,ea,c,n,l,q⟩:=b;subst ex;obtain rfl:j=Sz a:=p;refine rm m ea c n l λu s2 r w=>thn (hv z7 s2 σ H1 _ r q) λA B b=>?_
 obtain⟨y,H2,E,F,G⟩:=b;refine thn (e z7 B σ H2 v y u A _ E w F G) λw4 s4 b=>?_
 obtain⟨z,H3,Bk,rz,dx',fs',g,B',M⟩:=b;exact ud Bk g c n B' rz λs5 N=>⟨σ,_,N,M⟩
def Pm:V->V->Hp->VK->Prop:=λx y H Q=>∃i j,x=.int i/\y=.int j/\Q (.int (i+j)) H
theorem LD:Oe X .Add Pm:=by
 rintro z7 s σ H x y u v Q I a b ⟨i,j,rfl,rfl,q⟩
 obtain⟨t,rfl⟩:=(show ∃t,u=Us i t from a)
 obtain⟨t',rfl⟩:=(show ∃t',v=Us j t' from b)
 exact PyProof.Rows.iadd_int ⟨.int (i+j),H,I.tok _,⟨_,rfl⟩,q⟩
end
section
variable {c:F'}{b:R0}
inductive su (K:N') (H:Hp):V->F'->Prop where
 |non:su K H .non (.type "NoneType")
 |bl (x:R0):su K H (.bl x) (.type "bool")
 |int (i:Z):su K H (.int i) (.type "int")
 |str (x:M'):su K H (.str x) (.type "str")
 |flt (x:UInt64):su K H (.flt x) (.type "float")
 |lst {a:HL} {xs:J V} (e:H a=Y (.lst xs)):su K H (.ref a) (.type "list")
 |frz {a:HL} {o:Tt} {xs:J V} (e:H a=Y (.frz o (.lst xs))):su K H (.ref a) (.type "list")
 |tup {a:HL} {xs:J V} (e:H a=Y (.tup xs)):su K H (.ref a) (.type "tuple")
 |dK {a:HL} {kvs:J (Key×V)} (e:H a=Y (.dK kvs)):su K H (.ref a) (.type "dict")
 |dT {a:HL} {kvs:J (J Key×V)} (e:H a=Y (.dT kvs)):su K H (.ref a) (.type "dict")
 |ins {a C dx:HL} {fs:J (M'×V)} (e:H a=Y (.ins C dx fs)) (cl:Cls K C) (ha:Ug K (.ref C) "__class__"=Y (Y (.builtin "object.__class__")))
  (hn:W.specialIn K (.builtin "object.__class__") "__get__"=Y (Y (.builtin "getset_descriptor.__get__"))) (htk:W.takesIn K (.builtin "object.__class__")=Y true)
  (hm:W.mroIn K C (.type "object")=Y true):su K H (.ref a) (.ref C)
end
structure cH(k:O)(A:Ss):Prop where
 hd:A.handled=S
 dp:A.depth+3*k+5<recursionLimit
 un:A.units+16*k+200<cLine
theorem cH.mono{k:O}(r:cH k A)(h:j<=k):cH j A:=⟨r.hd,by have:=r.dp;omega,by have:=r.un;omega⟩
theorem cH.deeper{k:O}(r:cH (k+1) A)(env:WH):cH k (A.deeper env) :=
 ⟨r.hd,by have:=r.dp;show A.depth+1+3*k+5<_;omega,by have:=r.un;show A.units+3+16*k+200<_;omega⟩
theorem cH.in1{k:O}(r:cH (k+1) A):cH k A.in1 :=
 ⟨r.hd,by have:=r.dp;show A.depth+3*k+5<_;omega,by have:=r.un;show A.units+1+16*k+200<_;omega⟩
theorem BI{a:J (M'×F')}:(A.under (.builtin "type.__call__" ⟨.ref C::us,a⟩)).depth=A.depth+1:=by first|rfl|simp[Wd,Code.weight,Code.isCreation,Code.isGuard,Code.isCaller,Yg,We,guardIds]
theorem BA{a:J (M'×F')}:(A.under (.builtin "type.__call__" ⟨.ref C::us,a⟩)).units=A.units+1:=by first|rfl|simp[Wd,Code.cUnits,Yg,We]
theorem cH.make{k:O}(r:cH (k+1) A)(C:HL)(us:J F')(a:J (M'×F')):cH k (A.under (.builtin "type.__call__" ⟨.ref C::us,a⟩)) :=
 ⟨r.hd,by have:=r.dp;rw[BI];omega,by have:=r.un;rw[BA];omega⟩
theorem cH.depth{k:O}(r:cH k A):A.depth<recursionLimit:=by have:=r.dp;omega
theorem cH.units{k:O}(r:cH k A):A.units+64<cLine:=by have:=r.un;omega
def L0:TA:=λ_ H Q=>Q [] H
def Lb(ta:TE)(a:TA):TA:=λσ H Q=>ta σ H λx H1=>a σ H1 λxs H2=>Q (x::xs) H2
section
variable {te:TE}{t:TA}
theorem gZ:PA X [] L0:=λ_ _ _ _ H Q I h=>U3 ⟨[],H,I,.nil,h⟩
theorem e9(ha:PE X e te)(c:PA X es t)(f:starEach (e::es) X.env=(false,eval e X.env)::starEach es X.env:=by rfl):PA X (e::es) (Lb te t):=by intro pos z7 s σ H Q I h;rw[f];show wpAny _ _ (spliced ((false,eval e X.env)::backTo pos (starEach es X.env))) _ _ s;refine To (thn (ha z7 s σ H _ I h) λu g a=>?_);obtain⟨x,H1,i,j,l⟩:=a;exact thn (c pos z7 g σ H1 _ i l) λus s2 b=>(by obtain⟨xs,H2,m,n,o⟩:=b;exact⟨x::xs,H2,m,.cons j n,o⟩)
def O6(t:TA):TE:=λσ H Q=>t σ H λxs H1=>xs.length<=sizeLine/\∀p,H1 p=S->Q (.ref p) (upd H1 p (.tup xs))
def Pp(t:TA):TE:=λσ H Q=>t σ H λxs H1=>xs.length<=sizeLine/\∀p,H1 p=S->Q (.ref p) (upd H1 p (.lst xs))
theorem MI{x1}(h:PA X es t):PE X (.Tuple es x1 pos) (O6 t):=by intro z7 s σ H Q I g;refine wpAny_Tuple_spliced (thn (h pos z7 s σ H _ I g) λus a c=>?_);obtain⟨xs,H1,f,r,z,q⟩:=c;refine⟨by rw[<-r.length];exact z,?_⟩;have i:H1 a.heap.objs.size=none:=f.hok.fresh (PN _);refine⟨.ref a.heap.objs.size,upd H1 a.heap.objs.size (.tup xs),f.laid (t':=a.toks) (λb u e=>P5 _ e) (PN _) ?_,rfl,q _ i⟩;exact⟨z,us,r,⟨_,PY _ rfl,rfl,rfl,_,rfl⟩⟩
theorem AZ(h:PA X es t):PE X (.List es pos) (Pp t):=by intro z7 s σ H Q I g;refine wpAny_List_spliced (thn (h pos z7 s σ H _ I g) λus a c=>?_);obtain⟨xs,H1,f,r,z,q⟩:=c;refine⟨by rw[<-r.length];exact z,?_⟩;have i:H1 a.heap.objs.size=none:=f.hok.fresh (PN _);refine⟨.ref a.heap.objs.size,upd H1 a.heap.objs.size (.lst xs),f.laid (t':=a.toks) (λb u e=>P5 _ e) (PN _) ?_,rfl,q _ i⟩;exact⟨z,us,0,r,PY _ rfl⟩
end
abbrev Sp:=J V->Hp->VK->XK->Prop
abbrev CXT:=J WH->Hp->K'->XK->F'->K'->Prop
structure xw(P:SQ)(w:T1)(K:N')(mg:M'->D' F')(base:Sy)(A:Ss)(outer:J WH)(s:K')(H:Hp):Prop where
 frames:A.frames=Y outer
 mod:Mod K mg base
 bs:∀b o,base.get? b=Y o->s.heap.get? b=Y o/\H b=S
 bsz:base.objs.size<=s.heap.objs.size
 funs:s.heap.FunFrames base outer
 frf:∀b∈frs outer,H b=S
 hok:HOk P w H s.heap
 bare:UD s.gens
 tab:∀P q,TabOf K P q->H P=Y (.tbl q)
def CE(outer:J WH)(P:SQ)(w:T1)(H:Hp)(s:K')(Q:VK)(u:F')(s':K'):Prop :=
 ∃v H',s'.os=s.os/\UD s'.gens/\Un (frs outer) [] H H' s.heap s'.heap/\HOk P w H' s'.heap/\RelV v u/\Q v H'
def CR(CX:CXT)(outer:J WH)(P:SQ)(w:T1)(H:Hp)(s:K')(Q:VK)(E:XK)(r:XY)(s':K'):Prop :=
 match r with
 |.ok (.ret u)=>CE outer P w H s Q u s'
 |.ok _=>False
 |.error e=>CX outer H s E e s'
structure iP(P:SQ)(w:T1)(K:N')(mg:M'->D' F')(base:Sy)(CX:CXT)(k:O)(f:HL)(fd:W9)(ps:J M')(sp:Sp):Prop where
 len:∀vs H Q E,sp vs H Q E->vs.length=ps.length
 run:∀(A:Ss)(outer:J WH)(s:K')(H:Hp)(args:Args)(us:J F')(vs:J V)(Q:VK)(E:XK),cH k A->xw P w K mg base A outer s H->XZ s fd args (ps.zip us)->Vals vs us->sp vs H Q E ->
  codeAny (model P w) A (.call (.ref f) args) (CR CX outer P w H s Q E) s
theorem xw.make(e:xw P w K mg base A outer s H)(C:HL)(us:J F')(a:J (M'×F')) :
 xw P w K mg base (A.under (.builtin "type.__call__" ⟨.ref C::us,a⟩)) outer s H:=⟨by first|exact e.frames|(simpa[Wd,Code.envs,We,pushEnvs] using e.frames),e.mod,e.bs,e.bsz,e.funs,e.frf,e.hok,e.bare,e.tab⟩
section
theorem Inv.env0(I:Inv X z7 σ H s):xw X.prog X.w X.K X.mg X.base X.A X.stack s H :=
 ⟨I.ok.frames,I.ok.mod,I.bs,QD I.ok.bsz I.sz,I.stack,I.stkFree,I.hok,I.bare,I.tab⟩
theorem Inv.after{Q:VK}(I:Inv X z7 σ H s)(h:CE X.stack X.prog X.w H s Q u s'):EP X z7 σ Q u s':=by obtain⟨v,H',os,bare,un,hok,r,q⟩:=h;obtain⟨c,g,d,t,a⟩:=s';obtain rfl:a=s.os:=os;exact⟨v,H',I.call (h':=c) (g':=g) (d':=d) (t':=t) (ch:=[]) un hok bare (λb z=>So z #[2]),r,q⟩
end
def Oy(sp:Sp)(dvs:J V)(E:XK)(t:TA):TE:=λσ H Q=>t σ H λvs H1=>sp (vs++dvs) H1 Q E
def CJ(C:HL)(m:M')(sp:Sp)(dvs:J V)(E:XK)(ta:TE)(t:TA):TE:=λσ H Q=>ta σ H λx H1=>∃a dx fs,x=.ref a/\H1 a=Y (.ins C dx fs)/\fs.lookup m=S /\
 t σ H1 λvs H2=>sp (x::(vs++dvs)) H2 Q E
def Of(C:HL)(sp:Sp)(dvs:J V)(E:XK)(t:TA):TE:=λσ H Q=>t σ H λvs H1=>∀x dx,H1 x=S->H1 dx=S->dx≠x ->
 sp (.ref x::(vs++dvs)) (upd (upd H1 dx (.own x)) x (.ins C dx [])) (λv H2=>v=.non/\Q (.ref x) H2) E
def Binds(K:N')(fd:W9)(ps:J M')(ds:J F'):Prop :=
 ∀(s:K')(us:J F'),K.In s.heap->(us++ds).length=ps.length->XZ s fd ⟨us,[]⟩ (ps.zip (us++ds))
theorem Binds.all(h:∀us:J F',us.length=ps.length->bindArgs fd ⟨us,[]⟩=pure (ps.zip us)):Binds K fd ps []:=λs us _ hl=>by rw[QC]at hl ⊢;exact .of_eq (h us hl)
def Passes(CX:CXT)(X:Cx)(E:XK):Prop:=∀(z7:J (HL×Tt))(σ:St)(H:Hp)(s:K')(e:F')(s':K'),Inv X z7 σ H s->CX X.stack H s E e s'->X.xe e s'
section
variable {CX:CXT}{k:O}{sp:Sp}{dvs:J V}{ds:J F'}{E:XK}{m:M'}{apos:Vp}{o:Sq}{ta:TE}{t:TA}
theorem AH{Q:VK}(F:iP X.prog X.w X.K X.mg X.base CX k f fd ps sp)(c:cH k X.A)(g:Binds X.K fd ps ds)(hd:Vals dvs ds)(i:Passes CX X E)
  (I:Inv X z7 σ H s) (r:Vals vs us) (h:sp (vs++dvs) H Q E):wpAny (model X.prog X.w) X.A (call (.ref f) us) (EP X z7 σ Q) X.xe s:=by
 have b:Vals (vs++dvs) (us++ds):=r.append hd;have hl:(us++ds).length=ps.length:=by rw[<-b.length];exact F.len _ _ _ _ h
 refine VZ (TY (F.run X.A X.stack s H ⟨us,[]⟩ (us++ds) (vs++dvs) Q E c I.env0 (g s us I.kIn hl) b h) λr s' a=>?_);cases r with
 |error e=>exact i z7 σ H s e s' I a
 |ok fl =>
  cases fl with
  |ret u=>exact I.after a
  |next=>exact SR a
  |brk=>exact SR a
  |cont=>exact SR a
theorem Cq(F:iP X.prog X.w X.K X.mg X.base CX k f fd ps sp)(i:cH k X.A)(j:Gl X x)(hm:X.mg x=Y (.ref f))(l:Uo X.K (.ref f)=true)(m:Binds X.K fd ps ds)(hd:Vals dvs ds)(n:Passes CX X E)
  (ha:PA X (e::es) t) (a:(x==("__debug__":M'))=false:=by decide) (o:starEach (e::es) X.env=(false,eval e X.env)::starEach es X.env:=by rfl) (b:(backTo pos (starEach es X.env)).any (·.1)=false:=by rfl) :
  PE X (.Call (.Name x p) (e::es) [] pos) (Oy sp dvs E t):=by
 intro z7 s σ H Q I h;refine T4 (qW I j hm ?_ a);refine Wf (h₀:=X.base) I.ok.mod.kin l (thn (ha pos z7 s σ H _ I h) λus s1 c=>?_) o b;obtain⟨vs,H1,g,r,q⟩:=c;refine⟨g.kIn,?_⟩;exact AH F i m hd n g r q
theorem Ku{pl:XQ R0}(p:PE X o ta)(c:Cls X.K C)(hm:Meth X.K C m f)(F:iP X.prog X.w X.K X.mg X.base CX k f fd ps sp)(v:cH k X.A)(y:Binds X.K fd ps ds)(hd:Vals dvs ds)(z:Passes CX X E)(ha:PA X (e::es) t)
  (g:starEach (e::es) X.env=(false,eval e X.env)::starEach es X.env:=by rfl) (i:(backTo pos (starEach es X.env)).any (·.1)=false:=by rfl)
  (B:eval (.Call (.Attribute o m apos) (e::es) [] pos) X.env=(do
   let ov <-eval o X.env
   standAt apos.atName
   let (f,first) <-holding [ov] (getMethod ov m pl)
   callWith pos f first (backTo pos (starEach (e::es) X.env)) (backToKw pos (keywordEach [] X.env))):=by rfl) :
  PE X (.Call (.Attribute o m apos) (e::es) [] pos) (CJ C m sp dvs E ta t):=by
 intro z7 s σ H Q I h;refine X9 (pl:=pl) (thn (p z7 s σ H _ I h) λu D b=>?_) B;obtain⟨x,H1,j,G,a,dx,fs,ex,ea,l,q⟩:=b;subst ex;obtain rfl:u=Sz a:=G;refine rP j ea c hm l ?_;refine Wf (first:=[.ref a]) (h₀:=X.base) I.ok.mod.kin hm.kp (thn (ha pos z7 D σ H1 _ j q) λus s2 b=>?_) g i;obtain⟨vs,H2,n,r,Bk⟩:=b;refine⟨n.kIn,?_⟩;exact AH (us:=.ref a::us) (vs:=.ref a::vs) F v y hd z n (.cons rfl r) Bk
theorem zM{pl:XQ R0}(g:PE X o ta)(c:Cls X.K C)(hm:Meth X.K C m f)(F:iP X.prog X.w X.K X.mg X.base CX k f fd ps sp)(i:cH k X.A)(j:Binds X.K fd ps ds)(hd:Vals dvs ds)(n:Passes CX X E)
  (p:eval (.Call (.Attribute o m apos) [] [] pos) X.env=(do
   let ov <-eval o X.env
   standAt apos.atName
   let (f,first) <-holding [ov] (getMethod ov m pl)
   callWith pos f first (backTo pos (starEach [] X.env)) (backToKw pos (keywordEach [] X.env))):=by rfl) :
  PE X (.Call (.Attribute o m apos) [] [] pos) (CJ C m sp dvs E ta L0):=by
 intro z7 s σ H Q I h;refine X9 (pl:=pl) (thn (g z7 s σ H _ I h) λu s1 b=>?_) p;obtain⟨x,H1,e,r,a,dx,fs,ex,ea,l,q⟩:=b;subst ex;obtain rfl:u=Sz a:=r;refine rP e ea c hm l ?_;exact W.callWith_K0 (first:=[.ref a]) e.kIn hm.kp (AH (us:=[.ref a]) (vs:=[.ref a]) F i j hd n e (.cons rfl .nil) q)
structure Mk(K:N')(C f:HL):Prop where
 makes:XS K C=true
 init:Ug K (.ref C) "__init__"=Y (Y (.ref f))
 fn:Yk K (.ref f)=true
 kp:Uo K (.ref C)=true
theorem Fm{Q:VK}(M:Mk X.K C f)(F:iP X.prog X.w X.K X.mg X.base CX k f fd ps sp)(i:cH (k+1) X.A)(j:Binds X.K fd ps ds)(hd:Vals dvs ds)
  (l:Passes CX X E) (I:Inv X z7 σ H s) (r:Vals vs us)
  (h:∀x dx,H x=S->H dx=S->dx≠x->sp (.ref x::(vs++dvs)) (upd (upd H dx (.own x)) x (.ins C dx [])) (λv H2=>v=.non/\Q (.ref x) H2) E) :
  wpAny (model X.prog X.w) X.A (call (.ref C) us) (EP X z7 σ Q) X.xe s:=by
 have c:=h (s.heap.objs.size+1) s.heap.objs.size (I.hok.fresh (Ru _)) (I.hok.fresh (PN _)) (Q4 (R9 _));have b:=Inv.made (C:=C) I;have g:Vals (V.ref (s.heap.objs.size+1)::(vs++dvs)) (Sz (s.heap.objs.size+1)::(us++ds)):=.cons rfl (r.append hd);have hl:(Sz (s.heap.objs.size+1)::us++ds).length=ps.length:=by have e:=g.length;rw[F.len _ _ _ _ c]at e;exact e.symm
 refine VZ (Hx (f:=f) I.kIn M.makes M.init (TB.mp M.fn) (TY (F.run _ X.stack _ _ ⟨Sz (s.heap.objs.size+1)::us,[]⟩ (Sz (s.heap.objs.size+1)::(us++ds)) _ _ E (i.make C us [])
  (b.env0.make C us []) (j _ (Sz (s.heap.objs.size+1)::us) b.kIn hl) g c) λr s' a=>?_))
 cases r with
 |error e=>exact l z7 σ _ _ e s' b a
 |ok fl =>
  cases fl with
  |ret u =>obtain⟨v,H',m,n,ev,o⟩:=b.after a;subst ev;exact⟨n,⟨V.ref (s.heap.objs.size+1),H',m,rfl,o⟩⟩
  |next=>exact SR a
  |brk=>exact SR a
  |cont=>exact SR a
theorem CI(M:Mk X.K C f)(F:iP X.prog X.w X.K X.mg X.base CX k f fd ps sp)(i:cH (k+1) X.A)(j:Gl X x)(hm:X.mg x=Y (.ref C))(l:Binds X.K fd ps ds)(hd:Vals dvs ds)(m:Passes CX X E)
  (ha:PA X (e::es) t) (a:(x==("__debug__":M'))=false:=by decide) (n:starEach (e::es) X.env=(false,eval e X.env)::starEach es X.env:=by rfl) (b:(backTo pos (starEach es X.env)).any (·.1)=false:=by rfl) :
  PE X (.Call (.Name x p) (e::es) [] pos) (Of C sp dvs E t):=by
 intro z7 s σ H Q I h;refine T4 (qW I j hm ?_ a);refine Wf (h₀:=X.base) I.ok.mod.kin M.kp (thn (ha pos z7 s σ H _ I h) λus s1 c=>?_) n b;obtain⟨vs,H1,g,r,q⟩:=c;refine⟨g.kIn,?_⟩;exact Fm M F i l hd m g r q
end
def PK(X:Cx)(kws:J Tg)(t:TA):Prop :=
 ∀(pos:Vp)(z7:J (HL×Tt))(s:K')(σ:St)(H:Hp)(Q:J V->Hp->Prop),Inv X z7 σ H s->t σ H Q->wpAny (model X.prog X.w) X.A (evalAll ((backToKw pos (keywordEach kws X.env)).map (·.2))) (AP X z7 σ Q) X.xe s
section
variable {CX:CXT}{k:O}{ks:J M'}{sp:Sp}{E:XK}{m:M'}{apos kpos:Vp}{o:Sq}{kws:J Tg}{te ta:TE}{t tk:TA}{nm:D' M'}
theorem GZ:PK X [] L0:=λ_ _ _ _ H Q I h=>wpAny_evalAll_nil ⟨[],H,I,.nil,h⟩
theorem Ca(ha:PE X e te)(c:PK X kws t):PK X (⟨nm,e,kpos⟩::kws) (Lb te t):=by intro pos z7 s σ H Q I h;show wpAny _ _ (evalAll ((do let v <-eval e X.env;standAt pos;pure v)::(backToKw pos (keywordEach kws X.env)).map (·.2))) _ _ s;refine wpAny_evalAll_cons (F1 (thn (ha z7 s σ H _ I h) λu f a=>?_));obtain⟨x,H1,g,i,j⟩:=a;refine F1 (UY (J' ?_));exact thn (c pos z7 f σ H1 _ g j) λus s2 b=>(by obtain⟨xs,H2,l,m,n⟩:=b;exact⟨x::xs,H2,l,.cons i m,n⟩)
variable {g:J F'->J F'->J F'}{gV:J V->J V->J V}
end
structure dH(N P:J M')(sc:UT):Prop where
 kind:sc.kind=.function
 co:sc.isCoroutine=false
 gen:sc.isGenerator=false
 nd:N.Nodup
 pre:N.take P.length=P
 par:∀x∈P,sc.names.lookup x=Y .local\/sc.names.lookup x=Y .cell
 nofree:∀y∈sc.names,y.2≠.free
theorem vi{kindOf:M'->D' Sv}{x:M'}:∀{binds:J (M'×F')}{m:M'->D' F'},(∀v,(x,v)∉binds)->bindL kindOf binds m x=m x
 |[],_,_=>rfl
 |(n,v)::r,m,h=>by
  unfold bindL;rw[vi λw hw=>h w (P4 _ hw)];split
  .have:x≠n:=by rintro rfl;exact h v P7
   simp[this]
  .rfl
theorem vD{kindOf:M'->D' Sv}{x:M'}:∀{binds:J (M'×F')}{m:M'->D' F'},(∀v,(x,v)∉binds)->bindC kindOf binds m x=m x
 |[],_,_=>rfl
 |(n,v)::r,m,h=>by
  unfold bindC;rw[vD λw hw=>h w (P4 _ hw)];split
  .rfl
  .have:x≠n:=by rintro rfl;exact h v P7
   simp[this]
theorem wb{kindOf:M'->D' Sv}{x:M'}{v:F'}:∀{P:J M'}{vs:J F'}{i:O}{m:M'->D' F'},P.Nodup->P[i]?=Y x->vs[i]?=Y v->kindOf x=Y .local ->
  bindL kindOf (P.zip vs) m x=Y v
 |[],_,_,_,_,h,_,_=>by simp at h
 |_::_,[],_,_,_,_,h,_=>by simp at h
 |p::P,w::vs,0,m,nd,h1,h2,hk=>by simp at h1 h2;subst h1;subst h2;show bindL kindOf ((p,w)::P.zip vs) m p=_;unfold bindL;rw[vi λv hv=>(Qq.mp nd).1 (RF hv).1,FC hk];simp
 |p::P,w::vs,i+1,m,nd,h1,h2,hk=>by show bindL kindOf ((p,w)::P.zip vs) m x=_;unfold bindL;exact wb (i:=i) (Qq.mp nd).2 (by simpa using h1) (by simpa using h2) hk
theorem vp{kindOf:M'->D' Sv}{x:M'}{v:F'}:∀{P:J M'}{vs:J F'}{i:O}{m:M'->D' F'},P.Nodup->P[i]?=Y x->vs[i]?=Y v->kindOf x≠Y .local ->
  bindC kindOf (P.zip vs) m x=Y v
 |[],_,_,_,_,h,_,_=>by simp at h
 |_::_,[],_,_,_,_,h,_=>by simp at h
 |p::P,w::vs,0,m,nd,h1,h2,hk=>by simp at h1 h2;subst h1;subst h2;show bindC kindOf ((p,w)::P.zip vs) m p=_;unfold bindC;rw[vD λv hv=>(Qq.mp nd).1 (RF hv).1,GC hk];simp
 |p::P,w::vs,i+1,m,nd,h1,h2,hk=>by show bindC kindOf ((p,w)::P.zip vs) m x=_;unfold bindC;exact vp (i:=i) (Qq.mp nd).2 (by simpa using h1) (by simpa using h2) hk
def start(N:J M')(vs:J V):St:=vs.map Y++I' (N.length-vs.length) S
def d8(CX:CXT)(P:SQ)(w:T1)(K:N')(mg:M'->D' F')(base:Sy)(N:J M')(qual:M')(scope:UT)(f:HL)(cd:F')(A:Ss)(outer:J WH)(s:K')(H:Hp)(E:XK):Cx where
 prog:=P
 w:=w
 K:=K
 mg:=mg
 base:=base
 A:=A.deeper (envOfC qual scope s.heap.objs.size f cd)
 N:=N
 s₀:=s
 H₀:=H
 env:=envOfC qual scope s.heap.objs.size f cd
 outer:=outer
 stack:=envOfC qual scope s.heap.objs.size f cd::outer
 ex:=[]
 calm:=true
 fn:=λ_=>true
 pn:=[]
 xe:=λe s'=>wpAny (model P w) (A.deeper (envOfC qual scope s.heap.objs.size f cd)) (leaving (envOfC qual scope s.heap.objs.size f cd) e) (λ_ a=>CX outer H s E e a) (λb a=>CX outer H s E b a) s'
theorem rW{sc:UT}{n:O}(h:sc.names.lookup x=Y .cell):∃c,(cellsFrom n sc.names []).lookup x=Y c:=by have q:=WL sc.names n [] (.inl h);exact UZ.mp q
theorem Ep{CX:CXT}{B:K'}{E:XK}
  (D1:dH N ps scope) (hd:A.handled=S) (g:xw P w K mg base A outer s H) (hl:vs.length=ps.length) (r:Vals vs us)
  (x:InCallC s s.heap.objs.size (bindL (envOfC qual scope s.heap.objs.size f cd).kindOf (ps.zip us) λ_=>S) (cellsFrom (s.heap.objs.size+1) scope.names []) (bindC (envOfC qual scope s.heap.objs.size f cd).kindOf (ps.zip us) λ_=>S) B) :
  Inv (d8 CX P w K mg base N qual scope f cd A outer s H E) [] (start N vs) H B:=by
 have hpl:ps.length<=N.length:=by have:=congrArg U6 D1.pre;rw[Rw]at this;omega
 obtain⟨h1,tk,rfl,C⟩:=x.done;have j:∀b:HL,b∉(d8 CX P w K mg base N qual scope f cd A outer s H E).ex:=λb z=>So (show b∈([]:J HL) from z) #[2]
 refine⟨⟨g.mod,D1.kind,rfl,rfl,PN _,λy z c h1 h2=>?_,λy l=>?_,λy c _ h=>?_,λ_=>hd,Vt g.frames,.inr ⟨rfl,rfl⟩,λb z=>So z (j b),g.bs,g.bsz,λb _ _=>j b,λb z=>So z (j b),g.funs,g.frf⟩,
  rfl,g.bare,Un.kept C,⟨_,x.toInCall.ns,λi y v h1 h2 h3=>?_⟩,λy c h=>⟨_,x.cell y c h⟩,g.hok.fresh (PN _),λy c h=>?_,λp m=>So (show p∈([]:J (HL×Tt)) from m) #[2],g.hok.kept C,?_,g.tab⟩
 .exact name_of_addr x.apart (PySem.mem_of_lookup h1) (PySem.mem_of_lookup h2)
 .have l:scope.names.lookup y=Y .cell\/scope.names.lookup y=Y .free:=l;rcases l with l|l
  .exact rW l
  .exact So rfl (D1.nofree _ (PySem.mem_of_lookup l))
 .exact Si (x.above y c (PySem.mem_of_lookup h))
 .have hi:i<vs.length:=by
   unfold start at h2;by_cases hi:i<vs.length
   .exact hi
   .rw[Qh (by simpa using hi)]at h2;rw[RN]at h2;split at h2 <;> cases h2
  have ha:vs[i]?=Y v:=by
   unfold start at h2;rw[Qc (by simpa using hi),Q5]at h2;cases e:vs[i]? with
   |none=>rw[e]at h2;cases h2
   |some a=>rw[e]at h2;cases h2;rfl
  obtain⟨u,D,F⟩:=r.get ha;have m:ps[i]?=Y y:=by rw[<-D1.pre,U' ⋯];exact h1
  have o:ps.Nodup:=by rw[<-D1.pre];exact D1.nd.sublist (Wg _ _)
  refine⟨u,F,?_⟩;rcases D1.par y (Qz m) with k|k
  .exact .inl ⟨k,wb o m D k⟩
  .obtain⟨c,e⟩:=rW (n:=s.heap.objs.size+1) k;refine .inr ⟨.inl k,c,e,?_⟩;have q:=x.cell y c e;rw[vp o m D (by show scope.names.lookup y≠_;rw[k];decide)]at q;exact q
 .exact g.hok.fresh (Si (x.above y c (PySem.mem_of_lookup h)))
 .unfold start;show _=N.length;rw[PU,P6,Vo];omega
theorem Hh{CX:CXT}{k:O}{name:M'}{B kV doc cdv:F'}
  {sp:Sp} (F:K.lookup f=Y ⟨oc,od,.func (V0 name qual params body scope B kV doc pm an cdv ct),osl⟩) (l:Wh K cdv qual=true) (D1:dH N ps scope)
  (len:∀vs H Q E,sp vs H Q E->vs.length=ps.length)
  (c:∀(A:Ss)(outer:J WH)(s:K')(H:Hp)(vs:J V)(Q:VK)(E:XK),cH k (A.deeper (envOfC qual scope s.heap.objs.size f cdv))->sp vs H Q E ->
   ∃t,PSs (d8 CX P w K mg base N qual scope f cdv A outer s H E) body t/\t {nx:=λ_ H'=>Q .non H',rt:=Q} (start N vs) H) :
  iP P w K mg base CX (k+1) f (V0 name qual params body scope B kV doc pm an cdv ct) ps sp:=by
 refine⟨len,λA outer s H args us vs Q E m i G r j=>?_⟩;have hl:=len _ _ _ _ j;have C:K.In s.heap:=i.mod.kin.keeps λb o e=>(i.bs b o e).1
 have lim:s.heap.NoLimit:=i.mod.nolimit.keeps λb o e=>(i.bs b o e).1
 have g:∀y∈ps.zip us,scope.names.lookup y.1=Y .local\/(scope.names.lookup y.1=Y .cell/\((cellsFrom (s.heap.objs.size+1) scope.names []).lookup y.1).isSome=true):=λp B'=>by
  obtain⟨n,v⟩:=p;rcases D1.par n (RF B').1 with q|q
  .exact .inl q
  .exact .inr ⟨q,WL _ _ _ (.inl q)⟩
 refine codeAny_call_function m.depth (C _ _ F) rfl D1.co D1.gen rfl (W.codeRec_of C l) (G _ _ _ _ ?_);refine wpAny_newFunctionEnv_cells D1.kind g λenv M D x=>?_
 subst M;refine⟨lim.keeps x.toInCall.keep,codeAny_func ?_⟩;obtain⟨t,D2,R⟩:=c A outer s H vs Q E (m.deeper _) j;have I:Inv (d8 CX P w K mg base N qual scope f cdv A outer s H E) [] (start N vs) H D:=Ep D1 m.hd i hl r x;refine SW (D2 [] D (start N vs) H _ I R) (λT s' h=>?_) λe s' h=>h
 have fin:∀{a:St}{H':Hp}{v:V}{u:F'},Inv (d8 CX P w K mg base N qual scope f cdv A outer s H E) [] a H' s'->RelV v u->Q v H'->CE outer P w H s Q u s' :=
  λ{a H' v u} Bk z q=>⟨v,H',Bk.os,Bk.bare,Bk.base,Bk.hok,z,q⟩
 cases T with
 |ret u =>obtain⟨v,a,H',Bk,z,q⟩:=h;exact fin Bk z q
 |next =>obtain⟨a,H',Bk,q⟩:=h;exact fin (v:=V.non) (u:=TV) Bk rfl q
 |brk =>obtain⟨_,_,_,q⟩:=h;exact SR q
 |cont =>obtain⟨_,_,_,q⟩:=h;exact SR q
section
variable {t:TA}{id T:U2}{r:J V->Hp->VK->Prop}
def tCB(r:J V->Hp->VK->Prop)(t:TA):TE:=λσ H Q=>t σ H λvs H1=>r vs H1 Q
theorem gj(hc:kP X (.builtin id) r)(f:Gl X x)(hm:X.mg x=S)(hv:bootBuiltins x=Y (.builtin id))(ha:PA X (e::es) t)(hn:x≠"__name__":=by decide)(a:(x==("__debug__":M'))=false:=by decide)
  (g:starEach (e::es) X.env=(false,eval e X.env)::starEach es X.env:=by rfl) (b:(backTo pos (starEach es X.env)).any (·.1)=false:=by rfl):PE X (.Call (.Name x p) (e::es) [] pos) (tCB r t):=by
 intro z7 s σ H Q I h;refine T4 (fR I f hm hv ?_ hn a);exact TL (thn (ha pos z7 s σ H _ I h) λus i c=>(by obtain⟨vs,H1,j,l,m⟩:=c;exact hc z7 i σ H1 vs us Q j l m)) g b
theorem pU(hc:kP X (.type T) r)(f:Gl X x)(hm:X.mg x=S)(hv:bootBuiltins x=Y (.type T))(ha:PA X (e::es) t)(hn:x≠"__name__":=by decide)(a:(x==("__debug__":M'))=false:=by decide)
  (g:starEach (e::es) X.env=(false,eval e X.env)::starEach es X.env:=by rfl) (b:(backTo pos (starEach es X.env)).any (·.1)=false:=by rfl):PE X (.Call (.Name x p) (e::es) [] pos) (tCB r t):=by
 intro z7 s σ H Q I h;refine T4 (fR I f hm hv ?_ hn a);exact Su (thn (ha pos z7 s σ H _ I h) λus i c=>(by obtain⟨vs,H1,j,l,m⟩:=c;exact hc z7 i σ H1 vs us Q j l m)) g b
end
end L2
variable {xs ys vs:J L2.V}{ws:J (D' L2.V)}{H H' H1 G H0:L2.Hp}{o:L2.HO}{v y:L2.V}{X:L2.Cx}{σ:L2.St}{ta:L2.TA}{CX:L2.CXT}{sp:L2.Sp}{r:L2.V->D' Z->D' Z->L2.Hp->L2.VK->Prop}{κ:O->L2.V->L2.Hp->Prop}{kvs:J (J L2.Key×L2.V)}
namespace HT
open PySem PyProof.Rows
noncomputable def lexLt:J Z->J Z->R0
 |[],[]=>false
 |[],_::_=>true
 |_::_,[]=>false
 |x::xs,y::ys=>if x=y then lexLt xs ys else decide (x<y)
theorem rV(x y:Z)(xs ys:J Z):lexLt (x::xs) (y::ys)=if x=y then lexLt xs ys else decide (x<y):=rfl
theorem mx:lexLt [] []=false:=rfl
theorem sI(y:Z)(ys:J Z):lexLt [] (y::ys)=true:=rfl
theorem tj(x:Z)(xs:J Z):lexLt (x::xs) []=false:=rfl
theorem EW(A:Ss)(s:K')(a:Z)(t:Yj)(c:Z)(u:Yj):∃e,SG A s (.int a t) (.int c u) e/\(e=true↔a=c) :=
 ⟨(a==c),V' a t c u,by simp⟩
theorem Ho(A:Ss)(s:K')(a:Z)(t:Yj)(c:Z)(u:Yj)(prog:SQ)(w:T1)(E:F'->K'->Prop)(Q:F'->K'->Prop)(h:Q (.bool (decide (a<c))) s) :
  wpAny (model prog w) A (richCompare .Lt (.int a t) (.int c u)) Q E s :=
 (PyProof.Rows.lt_int h:wpAny (model prog w) A (compareOp .Lt (.int a t) (.int c u)) Q E s)
section
open PySem.SeqAt
open PySem.AutoSeq1 (wpAny_loadPart')
open PySem.MeetsSeq PySem.MeetsSeq2 PySem.MeetsSeq3
theorem ux(l b:HL)(items f:SN F')(n n2:O)(dd D:D' HL)(I E:SN (D' F'))(ns ms:J Z)(hi:Ts items.toList ns)(H:Ts f.toList ms) :
  XT (Rf.«tuple.__lt__» ⟨[.ref l,.ref b],[]⟩)
   (λ_ R s=>s.heap.get? l=Y {cls:=.type "tuple",dict:=dd,data:=.seq items n,slots:=I}/\s.heap.get? b=Y {cls:=.type "tuple",dict:=D,data:=.seq f n2,slots:=E} /\
    R (.ok (.ret (.bool (lexLt ns ms)))) s) :=
 .of_wp λprog w A R s h=>by
  obtain⟨C,g,d,tk,os⟩:=s;obtain⟨hl,Bk,h⟩:=h;have f2:=V1;have z1:items.size=ns.length:=by rw[<-hi.length];simp
  have z2:f.size=ms.length:=by rw[<-H.length];simp
  wp_walk using Tc hl,Tc Bk,wpAny_forIn_list _ (λrest b s'=>b.1=S/\s'=⟨C,g,d,tk,os⟩/\∃(vs ws:J F')(i j:J Z),rest=vs.zip ws /\
   Ts vs i/\Ts ws j/\i.length+f.size=j.length+items.size/\R (.ok (.ret (.bool (lexLt i j)))) ⟨C,g,d,tk,os⟩) _
  case turn =>
   rintro⟨y,x⟩ rest b s' ⟨v,rfl,vs,ws,i,j,m,z,o,x9,p⟩
   cases z with
   |nil=>rw[J.zip_nil_left]at m;cases m
   |cons a t hvi' =>
    cases o with
    |nil=>rw[J.zip_nil_right]at m;cases m
    |cons c u hwi' =>
     rw[RJ]at m;injection m with F B
     injection F with K B'
     subst K B';rw[rV]at p;dsimp[PZ]at x9;obtain⟨e,M,r⟩:=EW A.in1 ⟨C,g,d,tk,os⟩ a t c u;refine F1 (M prog w _ _ ?_);cases e with
     |true =>
      rw[FC (r.mp rfl)]at p
      wp_walk
      exact⟨rfl,rfl,_,_,_,_,B,hvi',hwi',⋯,p⟩
     |false =>
      rw[GC (λq=>So (r.mpr q) Q1)]at p;have G:=Ho A.in1 ⟨C,g,d,tk,os⟩ a t c u prog w
      wp_walk using G
      exact⟨_,rfl,by simpa using p⟩
  case fin =>
   rintro⟨b1,b2⟩ s' ⟨v,rfl,vs,ws,i,j,m,z,o,x9,p⟩
   simp only at v;subst v;have hv:lexLt i j=decide (items.size<f.size):=by
    cases z with
    |nil =>
     cases o with
     |nil =>dsimp[QF]at x9;rw[mx];exact (L' ⋯).symm
     |cons c u hw =>dsimp[QF,PZ]at x9;rw[sI];exact (O' ⋯).symm
    |cons a t hv =>
     cases o with
     |nil =>dsimp[QF,PZ]at x9;rw[tj];exact (L' ⋯).symm
     |cons c u hw =>rw[RJ]at m;cases m
   rw[hv]at p
   wp_walk
   exact⟨_,rfl,by simpa[Rf.Tuple.tupleCompareSizes] using p⟩
  case h =>exact⟨rfl,rfl,items.toList,f.toList,ns,ms,rfl,hi,H,⋯,h⟩
end
section
variable {A:Ss}
theorem BK{l:HL}{a:SN F'}(hl:Xn s.heap l items)(j:Xn s.heap b a)(hi:Ts items.toList ns)(m:Ts a.toList ms)
  (o:A.units<cLine) (h:Q (.bool (lexLt ns ms)) s):wpAny (model prog w) A (compareOp .Lt (.ref l) (.ref b)) Q E s:=by
 obtain⟨⟨cls,dd,data,p⟩,i,hc,n,hd⟩:=id hl;obtain⟨⟨cls2,f,data2,g⟩,c,e,n2,hd2⟩:=id j;simp only at hc hd e hd2;subst hc hd e hd2;exact richCompare_meets_room (op:=.Lt) ⟨_,i,rfl⟩ ⟨_,c,rfl⟩ PySem.F.slot_tuple_lt PySem.F.entry_tuple_lt (PySem.F.args_tuple_lt_2 _ _) (ux l b items a n n2 dd f p g ns ms hi m)
  ⟨i,c,show Va (lexLt ns ms)≠Vu/\Q (.bool (lexLt ns ms)) s from⟨(λx=>nomatch x),h⟩⟩ o
theorem JP{t:HL}{vs ws:J F'}(j:Xn s.heap t vs.toArray)(l:Xn s.heap b ws.toArray)(hv:vs≠[])
  (h1:ws=[]->Q (.ref t) s) (h2:ws≠[]->Q (.ref s.heap.objs.size) {s with heap:=s.heap.push {cls:=.type "tuple",data:=.seq (vs++ws).toArray}})
  (hsz:vs.length+ws.length<=sizeLine):wpAny (model prog w) A (binaryOp .Add (.ref t) (.ref b)) Q E s:=by
 obtain⟨⟨cls,dd,data,i⟩,h,hc,n,hd⟩:=id j;obtain⟨⟨cls2,c,data2,f⟩,a,g,n2,hd2⟩:=id l;simp only at hc hd g hd2;subst hc hd g hd2;have e:vs.toArray++ws.toArray=(vs++ws).toArray:=by simp
 by_cases hw:ws=[]
 .exact Wi ⟨_,h,rfl⟩ ⟨_,a,rfl⟩ V3 VM PySem.F.slot_tuple_add PySem.F.entry_tuple_add (PySem.F.args_tuple_add_2 _ _)
   (tuple_addW1 t b vs.toArray ws.toArray n n2 dd c i f (by simpa using hv) (by simp[hw])) ⟨h,a,h1 hw⟩
 .refine Wi ⟨_,h,rfl⟩ ⟨_,a,rfl⟩ V3 VM PySem.F.slot_tuple_add PySem.F.entry_tuple_add (PySem.F.args_tuple_add_2 _ _)
   (tuple_addW2 t b vs.toArray ws.toArray n n2 dd c i f (by simpa using hv) (by simpa using hw) (by rw[PX,PX];exact hsz)) ⟨h,a,?_⟩
  rw[e];exact h2 hw
noncomputable def sIx(n d:O):D' Z->O
 |none=>d
 |some v=>if v<0 then (v+(n:Z)).toNat else min v.toNat n
theorem Cg(n d k:O):sIx n d (Y (k:Z))=min k n:=by show (if (k:Z)<0 then ((k:Z)+(n:Z)).toNat else min (k:Z).toNat n)=min k n;rw[GC ⋯,Qp]
theorem Ny(n d:O)(hd:d<=n)(o:D' Z):sIx n d o<=n:=by
 cases o with
 |none=>exact hd
 |some v =>
  show (if v<0 then (v+(n:Z)).toNat else min v.toNat n)<=n;by_cases hv:v<0
  .rw[FC hv];omega
  .rw[GC hv];exact O.min_le_right _ _
theorem CM(v:Z)(n d:O):(if v<0 then max (v+(n:Z)) 0 else min v (n:Z))=((sIx n d (Y v):O):Z):=by
 show (if v<0 then max (v+(n:Z)) 0 else min v (n:Z))=(((if v<0 then (v+(n:Z)).toNat else min v.toNat n):O):Z)
 by_cases hv:v<0
 .dsimp[FC hv];omega
 .dsimp[GC hv];omega
theorem Ao(lo hi:D' Z)(n:O):Uc lo hi 1 (n:Z)=(((sIx n 0 lo:O):Z),((sIx n n hi:O):Z)):=by
 have h1:¬ ((1:Z)<0):=⋯
 unfold Uc;dsimp[h1,SK];refine Xm ?_ ?_
 .cases lo with
  |none=>rfl
  |some v=>exact CM v n 0
 .cases hi with
  |none=>rfl
  |some v=>exact CM v n n
theorem Bj(i j:O):Tu (i:Z) (j:Z) 1=j-i:=by
 unfold Tu;have h1:(1:Z)>0:=⋯
 dsimp[h1,Sn,Z.ediv_one];split <;> omega
theorem ui{v:F'}{o:D' Z}{Q:D' Z->K'->Prop}(p:Ve v o)(h:Q o s):wpAny (model prog w) A (Rf.Slice.slicePartIndex v) Q E s:=by
 cases p with
 |none=>exact Xv h
 |int i t=>exact slicePart_int h
theorem jQ{c e:F'}{n:O}{Q:Z×Z×O->K'->Prop}(g:s.heap.IsSliceOf f c e .none)(pl:Ve c lo)(i:Ve e hi)
  (h:Q (((sIx n 0 lo:O):Z),1,sIx n n hi-sIx n 0 lo) s):wpAny (model prog w) A (UI (.ref f) (pure (n:Z))) Q E s:=by
 obtain⟨os,a,hcs,b⟩:=id g;unfold UI Rf.Slice.sliceFields;refine F1 (F1 (S' a b (x:=c) rfl (F1 (S' a b (x:=e) rfl (F1 (S' a b (x:=.none) rfl (J' ?_)))))));refine F1 (Xv ?_);show wpAny _ _ (if ((1:Z)==0)=true then _ else _) _ _ s;rw[GC #[1]];refine F1 (ui pl (F1 (ui i (F1 (J' ?_)))));show wpAny _ _ (match Uc lo hi 1 (n:Z) with|(lo,hi)=>pure (lo,(1:Z),Tu lo hi 1)) _ _ s;rw[Ao lo hi n];show wpAny _ _ (pure (((sIx n 0 lo:O):Z),(1:Z),Tu ((sIx n 0 lo:O):Z) ((sIx n n hi:O):Z) 1)) _ _ s;rw[Bj];exact J' h
theorem HU(xs:SN F')(i k:O):((LN k).filterMap λ(m:O)=>xs[((i:Z)+(m:Z)*1).toNat]?).toArray=((xs.toList.drop i).take k).toArray:=by
 have e:(λ(m:O)=>xs[((i:Z)+(m:Z)*1).toNat]?)=λm=>xs[i+m]?:=by
  funext m;have:((i:Z)+(m:Z)*1).toNat=i+m:=⋯
  rw[this]
 rw[e];have:=pick_run xs i k;rw[J.filterMap_map]at this;have e2:((λx=>xs[x]?)∘λx=>i+x)=λm=>xs[i+m]?:=rfl
 rw[e2]at this;rw[this]
theorem nR{t:HL}{j l:F'}(b:Xn s.heap t items)(n:s.heap.IsSliceOf c j l .none)(pl:Ve j lo)(o:Ve l hi)
  (hw:¬ (sIx items.size 0 lo=0/\sIx items.size items.size hi=items.size))
  (h:Q (.ref s.heap.objs.size) {s with heap:=s.heap.push {cls:=.type "tuple",data:=.seq ((items.toList.drop (sIx items.size 0 lo)).take (sIx items.size items.size hi-sIx items.size 0 lo)).toArray}})
  (hsz:items.size<=sizeLine):wpAny (model prog w) A (getItem (.ref t) (.ref c)) Q E s:=by
 have a:sizeOk (.seq ((items.toList.drop (sIx items.size 0 lo)).take (sIx items.size items.size hi-sIx items.size 0 lo)).toArray):=by show ((items.toList.drop (sIx items.size 0 lo)).take (sIx items.size items.size hi-sIx items.size 0 lo)).toArray.size<=sizeLine;rw[PX,Rw,Rl,QE];omega
 have hj:sIx items.size items.size hi<=items.size:=Ny _ _ (PN _) hi;obtain⟨os,e,f,hds⟩:=id n;have g:s.TypeIs (.ref c) "slice":=⟨os,e,f⟩
 unfold getItem
 try with_reducible refine T7 ?_
 first|refine F1 (J' ?_)|skip
 refine F1 (Wj b.typeIs #[1] ?_);refine F1 (T5 (name:=SV "__getitem__") b.typeIs SH
  (TM SH b.typeIs VG ?_ (W0 _ _)))
 show wpAny _ _ (UJ (.ref t) >>= _) _ _ s;refine F1 (tupleItemsOf_ b ?_);refine F1 (Wl g ?_);rw[FC #[1]];refine F1 (jQ n pl o ?_);have i:¬ ((((sIx items.size 0 lo:O):Z)==0&&(1:Z)==1&&(sIx items.size items.size hi-sIx items.size 0 lo)==items.size)=true):=by intro q;rw[P9,P9]at q;have q1:((sIx items.size 0 lo:O):Z)=0:=eq_of_beq q.1.1;have q2:sIx items.size items.size hi-sIx items.size 0 lo=items.size:=eq_of_beq q.2;exact hw ⟨⋯,⋯⟩
 show wpAny _ _ (if (((sIx items.size 0 lo:O):Z)==0&&(1:Z)==1&&(sIx items.size items.size hi-sIx items.size 0 lo)==items.size)=true then _ else _) _ _ s;rw[GC i,HU]
 first
  |exact F1 (m:=TC _) (T9 (J' ⟨_,rfl,J' h⟩) a)
  |exact F1 (m:=TC _) (T9 (F1 (J' (J' ⟨_,rfl,J' h⟩))) a)
  |exact F1 (F1 (m:=TC _) (T9 (J' (J' ⟨_,rfl,J' h⟩)) a))
  |exact F1 (F1 (m:=TC _) (T9 (J' ⟨_,rfl,J' h⟩) a))
end
end HT
namespace L2
open PySem PySem.Spec PyProof.Rows
variable {n:O}{a:J F'}
abbrev TO:=St->Hp->(D' Z->Hp->Prop)->Prop
def PO(X:Cx)(e:D' Sq)(t:TO):Prop :=
 ∀(z7:J (HL×Tt))(s:K')(σ:St)(H:Hp)(Q:D' Z->Hp->Prop),Inv X z7 σ H s->t σ H Q ->
  wpAny (model X.prog X.w) X.A (evalPart e X.env) (λu s'=>∃o H',Inv X z7 σ H' s'/\Ve u o/\Q o H') X.xe s
def Km:TO:=λ_ H Q=>Q S H
def NN(t:TE):TO:=λσ H Q=>t σ H λx H1=>∃i,x=.int i/\Q (Y i) H1
theorem intsAre_of:∀{us:J F'},Vals (ns.map V.int) us->Ts us ns:=by
 induction ns with
 |nil=>intro us r;rw[Qv]at r;cases r;exact .nil
 |cons n ns ih =>
  intro us r;rw[P0]at r;cases r with
  |cons r1 r2 =>obtain⟨t,e⟩:=r1;subst e;exact .cons n t (ih r2)
section
variable {e:Sq}{te:TE}{lo hi:D' Sq}{tl th:TO}{p2:Vp}
theorem Kw:PO X S Km:=by intro z7 s σ H Q I h;rw[evalPart_none];exact J' ⟨S,H,I,.none,h⟩
theorem Iq(h:PE X e te):PO X (Y e) (NN te):=by
 intro z7 s σ H Q I hw;rw[evalPart_some];refine thn (h z7 s σ H _ I hw) λu s1 a=>?_
 obtain⟨x,H1,b,c,f⟩:=a;obtain⟨i,rfl,q⟩:=f;obtain⟨t,rfl⟩:=c;exact⟨Y i,H1,b,.int i t,q⟩
def SlR(X:Cx)(r:V->D' Z->D' Z->Hp->VK->Prop):Prop :=
 ∀(z7:J (HL×Tt))(s:K')(σ:St)(H:Hp)(x:V)(v a b:F')(lo hi:D' Z)(c:HL)(Q:VK),Inv X z7 σ H s->RelV x v->s.heap.IsSliceOf c a b .none->Ve a lo->Ve b hi->r x lo hi H Q ->
  ∃T id,typeLookup (.type T) "__getitem__"=pure (Y (.builtin id))/\s.TypeIs v T/\wpAny (model X.prog X.w) X.A (getItem v (.ref c)) (EP X z7 σ Q) X.xe s
theorem SlR.or{a:V->D' Z->D' Z->Hp->VK->Prop}(h:SlR X r)(h':SlR X a):SlR X (λx lo hi H Q=>r x lo hi H Q\/a x lo hi H Q):=by
 intro z7 s σ H x v b c lo hi e Q I f g pl i q;rcases q with q|q
 .exact h z7 s σ H x v b c lo hi e Q I f g pl i q
 .exact h' z7 s σ H x v b c lo hi e Q I f g pl i q
def tSl(r:V->D' Z->D' Z->Hp->VK->Prop)(te:TE)(tl th:TO):TE:=λσ H Q=>te σ H λx H1=>tl σ H1 λl H2=>th σ H2 λu a=>r x l u a Q
theorem HN(j:SlR X r)(m:PE X e te)(hl:PO X lo tl)(n:PO X hi th):PE X (.Subscript e (.Slice lo hi S p2) pos) (tSl r te tl th):=by
 intro z7 s σ H Q I h;refine Xw (thn (m z7 s σ H _ I h) λv o a=>?_);obtain⟨x,H1,p,y,z⟩:=a;refine wpAny_Slice (thn (hl z7 o σ H1 _ p z) λf s2 a=>?_);obtain⟨l,H2,B,pl,C⟩:=a;refine thn (n z7 s2 σ H2 _ B C) λg c a=>?_
 obtain⟨u,i,D,E,F⟩:=a;rw[evalPart_none];refine J' ?_;have G:Inv X z7 σ i {c with heap:=c.heap.push {cls:=.type "slice",data:=.fields #[f,g,.none]}}:=D.kept (t':=c.toks) λb ob q=>P5 _ q
 obtain⟨T,id,Bk,K,B'⟩:=j z7 {c with heap:=c.heap.push {cls:=.type "slice",data:=.fields #[f,g,.none]}} σ i x v f g l u c.heap.objs.size Q G y (Sy.IsSliceOf.new ..) pl E F;show wpAny (model X.prog X.w) X.A (subscriptTail e (.Slice lo hi S p2) v (.ref c.heap.objs.size)) (EP X z7 σ Q) X.xe {c with heap:=c.heap.push {cls:=.type "slice",data:=.fields #[f,g,.none]}};exact tail_any (ops:=[.ref c.heap.objs.size,v]) K Bk B' (by with_unfolding_all rfl)
def yA(xs:J V)(lo hi:D' Z):J V:=(xs.drop (HT.sIx xs.length 0 lo)).take (HT.sIx xs.length xs.length hi-HT.sIx xs.length 0 lo)
theorem qh(xs:J V)(lo hi:D' Z):(yA xs lo hi).length<=xs.length:=by unfold yA;rw[Rw,Rl];omega
def Pr(K:N'):V->D' Z->D' Z->Hp->VK->Prop:=λx lo hi H Q=>∃a xs,x=.ref a/\SqT K H a xs /\
 ¬ (HT.sIx xs.length 0 lo=0/\HT.sIx xs.length xs.length hi=xs.length)/\∀p,H p=S->Q (.ref p) (upd H p (.tup (yA xs lo hi)))
theorem Lz:SlR X (Pr X.K):=by
 intro z7 s σ H x v vl vu lo hi sl Q I g i pl j h;obtain⟨a,xs,rfl,l,hw,q⟩:=h;cases g;obtain⟨c,r,e,f⟩:=I.tuple l;have x9:c.toArray.size=xs.length:=by rw[PX];exact r.length.symm
 refine⟨"tuple",_,SH.lookup,e.typeIs,?_⟩;refine HT.nR e i pl j (by rw[x9];exact hw) ?_ (by rw[x9];exact f);rw[x9];refine⟨.ref s.heap.objs.size,_,I.laid (t':=s.toks) (o:=.tup (yA xs lo hi)) (λb ob q=>P5 _ q) (PN _) ?_,rfl,q _ (I.hok.fresh (PN _))⟩;exact⟨QD (qh xs lo hi) f,_,(r.drop (HT.sIx xs.length 0 lo)).take (HT.sIx xs.length xs.length hi-HT.sIx xs.length 0 lo),xD.new _ _⟩
def O4(K:N'):R2:=λx y H Q=>∃a b ns ms,x=.ref a/\y=.ref b/\SqT K H a (ns.map V.int)/\SqT K H b (ms.map V.int)/\Q (.bl (HT.lexLt ns ms)) H
theorem LJ(f:X.A.units<cLine):OpR X (compareOp .Lt) (O4 X.K):=by intro z7 s σ H x y v u Q I g i h;obtain⟨a,b,ns,ms,rfl,rfl,ha,j,q⟩:=h;cases g;cases i;obtain⟨e,l,p1,_⟩:=I.tuple ha;obtain⟨c,m,p2,_⟩:=I.tuple j;have i1:Ts e.toArray.toList ns:=intsAre_of l;have i2:Ts c.toArray.toList ms:=intsAre_of m;exact HT.BK p1 p2 i1 i2 f ⟨.bl (HT.lexLt ns ms),H,I,rfl,q⟩
def OR(K:N'):R2:=λx y H Q=>∃a b xs ys,x=.ref a/\y=.ref b/\SqT K H a xs/\SqT K H b ys/\xs≠[]/\xs.length+ys.length<=sizeLine /\
 (ys=[]->Q (.ref a) H)/\(ys≠[]->∀p,H p=S->Q (.ref p) (upd H p (.tup (xs++ys))))
theorem Vals.nil_iff(r:Vals xs us):us=[]↔xs=[]:=by
 cases r with
 |nil=>simp
 |cons _ _=>simp
theorem IJ:OpR X (binaryOp .Add) (OR X.K):=by intro z7 s σ H x y v u Q I g i h;obtain⟨a,b,xs,ys,rfl,rfl,ha,j,l,f,m,n⟩:=h;cases g;cases i;obtain⟨its,e,p1,_⟩:=I.tuple ha;obtain⟨its2,c,p2,_⟩:=I.tuple j;refine HT.JP p1 p2 (λz=>l (e.nil_iff.mp z)) (λz=>⟨.ref a,H,I,rfl,m (c.nil_iff.mp z)⟩) (λz=>?_) (by rw[<-e.length,<-c.length];exact f);refine⟨.ref s.heap.objs.size,_,I.laid (t':=s.toks) (o:=.tup (xs++ys)) (λb ob q=>P5 _ q) (PN _) ?_,rfl,n (λw=>z (c.nil_iff.mpr w)) _ (I.hok.fresh (PN _))⟩;exact⟨by rw[PU];exact f,_,e.append c,xD.new _ _⟩
end
def ixN(n:O)(i:Z):D' Nat:=if 0<=i then (if i<n then Y i.toNat else S) else if -(n:Z)<=i then Y (i+n).toNat else S
def atI{α:Type}(xs:J α)(i:Z):D' α:=(ixN xs.length i).bind λj=>xs[j]?
theorem xj{i:Z}(h:ixN n i=Y j):seqIndex? i n=Y j/\j<n/\-(n:Z)<=i/\i<n:=by
 unfold ixN at h;by_cases h0:0<=i
 .rw[FC h0]at h;by_cases h1:i<n
  .rw[FC h1]at h;have e:i.toNat=j:=P' h;exact⟨by rw[X4 h0 h1,e],⋯,⋯,h1⟩
  .rw[GC h1]at h;cases h
 .rw[GC h0]at h;by_cases h1:-(n:Z)<=i
  .rw[FC h1]at h;have e:(i+n).toNat=j:=P' h;exact⟨by rw[Wm ⋯ h1,e],⋯,h1,⋯⟩
  .rw[GC h1]at h;cases h
theorem Ci{xs:J α}{i:Z}{v:α}(h:atI xs i=Y v):∃j,seqIndex? i xs.length=Y j/\xs[j]?=Y v/\j<xs.length/\-(xs.length:Z)<=i/\i<xs.length:=by
 unfold atI at h;cases e:ixN xs.length i with
 |none=>rw[e]at h;cases h
 |some j =>rw[e]at h;obtain⟨h1,h2,h3,a⟩:=xj e;exact⟨j,h1,h,h2,h3,a⟩
theorem qY{xs:J α}{v:α}(h:xs[j]?=Y v):atI xs (j:Z)=Y v:=by
 have hj:j<xs.length:=(Qa.mp h).1;have e:ixN xs.length (j:Z)=Y j:=by unfold ixN;rw[FC ⋯,FC ⋯];simp
 unfold atI;rw[e];exact h
def BU(b:Sq):Prop:=∀o i,subscripted b false o i=operate [o,i] (getItem o i)
def IxR(X:Cx)(r:R2):Prop :=
 ∀(value slice:Sq)(z7:J (HL×Tt))(s:K')(σ:St)(H:Hp)(x y:V)(v u:F')(Q:VK),Inv X z7 σ H s->RelV x v->RelV y u->r x y H Q ->
  subscripted slice false v u=operate [v,u] (getItem v u)->wpAny (model X.prog X.w) X.A (subscriptTail value slice v u) (EP X z7 σ Q) X.xe s
def MtR(X:Cx)(id:U2)(r:V->J V->Hp->VK->Prop):Prop :=
 ∀(z7:J (HL×Tt))(s:K')(σ:St)(H:Hp)(x:V)(xs:J V)(v:F')(us:J F')(Q:VK),Inv X z7 σ H s->RelV x v->Vals xs us->r x xs H Q ->
  wpAny (model X.prog X.w) X.A (call (.builtin id) (v::us)) (EP X z7 σ Q) X.xe s
section
variable {a b:Sq}{ta tb:TE}
theorem IxR.or{r a:R2}(h:IxR X r)(h':IxR X a):IxR X (λx y H Q=>r x y H Q\/a x y H Q):=by
 intro value slice z7 s σ H x y v u Q I b c q e;rcases q with q|q
 .exact h value slice z7 s σ H x y v u Q I b c q e
 .exact h' value slice z7 s σ H x y v u Q I b c q e
theorem ES{r:R2}(c:IxR X r)(ha:PE X a ta)(e:PE X b tb)(f:BU b):PE X (.Subscript a b pos) (tOp r ta tb):=by intro z7 s σ H Q I h;exact Xw (LG ha e I h λv u s2 x y H2 g i j q=>c a b z7 s2 σ H2 x y v u Q g i j q (f _ _))
def NM(K:N'):R2:=λx y H Q=>∃p xs i v,x=.ref p/\y=.int i/\SqL K H p xs/\atI xs i=Y v/\Q v H
def OQ(K:N'):R2:=λx y H Q=>∃p xs i v,x=.ref p/\y=.int i/\SqT K H p xs/\atI xs i=Y v/\Q v H
theorem wx:IxR X (NM X.K):=by
 intro value slice z7 s σ H x y v u Q I g l h e;obtain⟨p,xs,i,z,rfl,rfl,m,n,q⟩:=h;cases g;obtain⟨t,rfl⟩:=l;obtain⟨a,r,pl,hz⟩:=I.list m;obtain⟨j,h1,h2,h3,o,A⟩:=Ci n;obtain⟨w,f,b⟩:=r.get h2;have hl:=r.length;have hn:=xn;have fin:EP X z7 σ Q w s:=⟨z,H,I,b,q⟩
 by_cases h0:0<=i
 .have c:i.toNat=j:=by rw[X4 h0 A]at h1;exact P' h1
  exact item_listR pl.isList h0 ⋯ (by rw[c];simpa using f) fin e
 .have c:(i+(a.toArray.size:Z)).toNat=j:=by rw[Wm ⋯ o]at h1;rw[PX,<-hl];exact P' h1
  exact Vf (x:=w) pl.isList.typeIs Wn.lookup
   (wpAny_getItem_list_neg (Q:=λr s'=>r=w/\EP X z7 σ Q r s') pl.isList ⋯ (by rw[PX] <;> omega) ⋯ (by rw[c];simpa using f) ⟨rfl,fin⟩) e
theorem Lw:IxR X (OQ X.K):=by
 intro value slice z7 s σ H x y v u Q I b c h e;obtain⟨p,xs,i,z,rfl,rfl,f,g,q⟩:=h;cases b;obtain⟨t,rfl⟩:=c;obtain⟨its,r,pl,hz⟩:=I.tuple f;obtain⟨j,h1,h2,h3,h4,h5⟩:=Ci g;obtain⟨w,l,a⟩:=r.get h2;have hl:=r.length;have hn:=xn;have fin:EP X z7 σ Q w s:=⟨z,H,I,a,q⟩
 exact Vf (x:=w) pl.typeIs slot_tuple_getitem.lookup
  (getItem_tuple (j:=j) (Q:=λr s'=>r=w/\EP X z7 σ Q r s') pl ⋯ ⋯ (by rw[PX,<-hl];exact h1) (by simpa using l) ⟨rfl,fin⟩) e
theorem AE(a:J F')(n j:O)(u:F'):Td (·.setIfInBounds j u) {cls:=.type "list",data:=.seq a.toArray n}={cls:=.type "list",data:=.seq (a.set j u).toArray n}:=by simp[Td]
theorem Inv.lst{p:HL}(I:Inv X z7 σ H s)(h:H p=Y (.lst xs)) :
  ∃(a:J F')(n:O),Vals xs a/\s.heap.get? p=Y {cls:=.type "list",data:=.seq a.toArray n}/\xs.length<=sizeLine:=by
 obtain⟨z,a,n,r,e⟩:=I.hok p _ h;exact⟨a,n,r,e,z⟩
theorem Inv.lstUpd{p:HL}{a:J F'}{n':O}{f:Tt->Tt}(I:Inv X z7 σ H s)(h:H p=Y (.lst xs))
  (g:s.heap.get? p=Y {cls:=.type "list",data:=.seq a.toArray n}) (c:f {cls:=.type "list",data:=.seq a.toArray n}={cls:=.type "list",data:=.seq its'.toArray n'}) (r:Vals ys its') (i:ys.length<=sizeLine) (t:O) :
  Inv X z7 σ (upd H p (.lst ys)) {s with heap:=s.heap.update p f,toks:=t}:=by
 have e:(s.heap.update p f).get? p=Y {cls:=.type "list",data:=.seq its'.toArray n'}:=by rw[Rv f g (by rw[c] <;> rfl),c]
 refine I.write (x:=p) (e:=p) (by rw[h];trivial) (.inl rfl) (λb u j q=>(QI _ _ (Uh j)).trans q) ⟨_,e⟩ ?_;exact⟨i,its',n',r,e⟩
def OK:V->V->V->Hp->(Hp->Prop)->Prop:=λo i v H Q=>∃p xs k j,o=.ref p/\i=.int k/\H p=Y (.lst xs)/\ixN xs.length k=Y j/\Q (upd H p (.lst (xs.set j v)))
theorem set_list:Og X OK:=by
 intro z7 s σ H o i v ov iv u Q I l m w h;obtain⟨p,xs,k,j,rfl,rfl,e,x,q⟩:=h;cases l;obtain⟨t,rfl⟩:=m;obtain⟨a,n,r,b,y⟩:=I.lst e;obtain⟨h1,h2,h3,f⟩:=xj x;have hl:=r.length;have hn:=xn;have g:Inv X z7 σ (upd H p (.lst (xs.set j v))) {s with heap:=s.heap.update p (Td (·.setIfInBounds j u))} :=
  I.lstUpd e b (AE a n j u) (r.set w j) (by rw[J.length_set];exact y) s.toks
 by_cases h0:0<=k
 .have c:k.toNat=j:=by rw[X4 h0 f]at h1;exact P' h1
  exact W.ki_setAt b h0 ⋯ (by rw[PX,<-hl];exact f) (by rw[c];exact⟨_,g,q⟩)
 .have c:(k+(a.toArray.size:Z)).toNat=j:=by rw[Wm ⋯ h3]at h1;rw[PX,<-hl];exact P' h1
  exact W.ki_setBack b ⋯ (by rw[PX,<-hl];exact h3) ⋯ (by rw[c];exact⟨_,g,q⟩)
theorem wC(lo hi:D' Z)(n:O):(sliceBounds lo hi S n).1=((HT.sIx n 0 lo:O):Z)/\(sliceBounds lo hi S n).2.1=((HT.sIx n n hi:O):Z)/\(sliceBounds lo hi S n).2.2=1:=by
 refine⟨?_,?_,rfl⟩
 .cases lo with
  |none=>simp[sliceBounds,HT.sIx]
  |some i =>
   dsimp[sliceBounds,HT.sIx,WM,show (1:Z)>0 by decide,Sn];by_cases h:i<0
   .dsimp[h,Sn] <;> omega
   .dsimp[h,SK] <;> omega
 .cases hi with
  |none=>simp[sliceBounds,HT.sIx]
  |some i =>
   dsimp[sliceBounds,HT.sIx,WM,show (1:Z)>0 by decide,Sn];by_cases h:i<0
   .dsimp[h,Sn] <;> omega
   .dsimp[h,SK] <;> omega
theorem uv(a:J F')(lo hi:D' Z):slicePick a.toArray lo hi S=((a.drop (HT.sIx a.length 0 lo)).take (HT.sIx a.length a.length hi-HT.sIx a.length 0 lo)).toArray:=by obtain⟨h1,h2,h3⟩:=wC lo hi a.toArray.size;unfold slicePick;rw[h1,h2,h3];dsimp[sliceRange_one,pick_run,PX] <;> rfl
def Pl(K:N'):V->D' Z->D' Z->Hp->VK->Prop:=λx lo hi H Q=>∃a xs,x=.ref a/\SqL K H a xs/\∀p,H p=S->Q (.ref p) (upd H p (.lst (yA xs lo hi)))
theorem Ke:SlR X (Pl X.K):=by intro z7 s σ H x v vl vu lo hi sl Q I e f pl g h;obtain⟨a,xs,rfl,i,q⟩:=h;cases e;obtain⟨its,r,c,j⟩:=I.list i;have x9:=r.length;refine⟨"list",_,Wn.lookup,c.isList.typeIs,?_⟩;refine wpAny_getItem_list_slice c.isList f pl g .none #[2] ?_ (by rw[PX] <;> omega);rw[uv,<-x9];refine⟨.ref s.heap.objs.size,_,I.laid (t':=s.toks) (o:=.lst (yA xs lo hi)) (λb ob q=>P5 _ q) (PN _) ?_,rfl,q _ (I.hok.fresh (PN _))⟩;exact⟨QD (qh xs lo hi) j,_,0,(r.drop (HT.sIx xs.length 0 lo)).take (HT.sIx xs.length xs.length hi-HT.sIx xs.length 0 lo),PY _ rfl⟩
def kX:V->R0
 |.non=>true
 |.bl _=>true
 |.int _=>true
 |.str _=>true
 |_=>false
noncomputable def eqV:V->V->R0
 |.non,.non=>true
 |.bl a,.bl b=>a==b
 |.bl a,.int b=>(if a then 1 else 0)==b
 |.int a,.bl b=>a==(if b then 1 else 0)
 |.int a,.int b=>a==b
 |.str a,.str b=>a==b
 |_,_=>false
theorem Nu{A:Ss}{x:V}{v:F'}(e:RelV y u)(c:RelV x v)(g:kX y=true)(f:kX x=true):SG A s u v (eqV y x):=by
 cases y with
 |non =>
  cases e;cases x with
  |non=>cases c;exact SG.same _
  |bl b=>cases c;exact SG.none_bool b
  |int b=>obtain⟨t,rfl⟩:=c;exact SG.none_int b t
  |str b=>obtain⟨t,rfl⟩:=c;exact SG.none_str b t
  |_=>exact So (show false=true from f) Q1
 |bl a =>
  cases e;cases x with
  |non=>cases c;exact SG.bool_none a
  |bl b=>cases c;exact SG.bool_bool a b
  |int b=>obtain⟨t,rfl⟩:=c;exact SG.bool_int a b t
  |str b=>obtain⟨t,rfl⟩:=c;exact SG.bool_str a b t
  |_=>exact So (show false=true from f) Q1
 |int a =>
  obtain⟨t',rfl⟩:=e;cases x with
  |non=>cases c;exact SG.int_none a t'
  |bl b=>cases c;exact SG.int_bool a t' b
  |int b=>obtain⟨t,rfl⟩:=c;exact V' a t' b t
  |str b=>obtain⟨t,rfl⟩:=c;exact VU a t' b t
  |_=>exact So (show false=true from f) Q1
 |str a =>
  obtain⟨t',rfl⟩:=e;cases x with
  |non=>cases c;exact SG.str_none a t'
  |bl b=>cases c;exact SG.str_bool a t' b
  |int b=>obtain⟨t,rfl⟩:=c;exact VV a t' b t
  |str b=>obtain⟨t,rfl⟩:=c;exact SG.str_str a t' b t
  |_=>exact So (show false=true from f) Q1
 |_=>exact So (show false=true from g) Q1
def eqU(x:V)(u:F'):Bool:=match u with
 |.none=>eqV .non x
 |.bool b=>eqV (.bl b) x
 |.int i _=>eqV (.int i) x
 |.str z _=>eqV (.str z) x
 |_=>false
theorem AK{x:V}(r:RelV y u)(f:kX y=true):eqU x u=eqV y x:=by
 cases y with
 |non=>cases r;rfl
 |bl b=>cases r;rfl
 |int i=>obtain⟨t,rfl⟩:=r;rfl
 |str z=>obtain⟨t,rfl⟩:=r;rfl
 |_=>exact So (show false=true from f) Q1
theorem w6{x:V}:∀{xs:J V}{us:J F'},Vals xs us->xs.all kX=true->us.any (eqU x)=xs.any λy=>eqV y x
 |_,_,.nil,_=>rfl
 |y::xs,u::us,.cons r t,f=>by rw[Ry,P9]at f;rw[R8,R8,AK r f.1,w6 t f.2]
theorem oC{A:Ss}{s:K'}{x:V}{v:F'}(b:RelV x v)(c:kX x=true):∀{xs:J V}{us:J F'},Vals xs us->xs.all kX=true->∀u∈us,SG A s u v (eqU x u)
 |_,_,.nil,_=>λu a=>by cases a
 |y::xs,u::us,.cons r t,f=>λe a=>by
  rw[Ry,P9]at f;rcases P8.mp a with rfl|a
  .rw[AK r f.1];exact Nu r b f.1 c
  .exact oC b c t f.2 e a
def inV(x:V)(xs:J V):Bool:=xs.any λy=>eqV y x
def rIn(K:N')(neg:R0):R2:=λx y H Q=>∃p xs,y=.ref p/\(SqL K H p xs\/SqT K H p xs)/\kX x=true/\xs.all kX=true/\Q (.bl (if neg then !inV x xs else inV x xs)) H
theorem Eu:OpR X (compareOp .In) (rIn X.K false):=by
 intro z7 s σ H x y v u Q I c f h;obtain⟨p,xs,rfl,b,e,fs,q⟩:=h;cases f;rcases b with b|b
 .obtain⟨a,r,pl,g⟩:=I.list b;refine SeqAt.in_listAt (eqU x) pl.isList (λw hw=>oC c e r fs w (by simpa using hw)) ⟨.bl _,H,I,rfl,?_⟩;rw[show a.toArray.any (eqU x)=a.any (eqU x) by simp,w6 r fs];exact q
 .obtain⟨a,r,pl,g⟩:=I.tuple b;refine SeqAt.in_tupleAt (eqU x) pl (λw hw=>oC c e r fs w (by simpa using hw)) ⟨.bl _,H,I,rfl,?_⟩;rw[show a.toArray.any (eqU x)=a.any (eqU x) by simp,w6 r fs];exact q
theorem kE:kP X (.builtin "len") (λxs H Q=>∃p ys,xs=[.ref p]/\(SqL X.K H p ys\/SqT X.K H p ys)/\Q (.int ys.length) H):=by
 intro z7 s σ H xs us Q I r h;obtain⟨p,ys,rfl,a,q⟩:=h;obtain⟨u,rfl,e⟩:=vals1 r;cases e;have hn:=xn;rcases a with a|a
 .obtain⟨b,c,pl,f⟩:=I.list a;have x9:=c.length;exact Calls.call_len_list pl.isList (by dsimp[PX] <;> omega) ⟨.int ys.length,H,I.tok _,⟨s.toks+1,by rw[PX,x9]⟩,q⟩
 .obtain⟨b,c,pl,f⟩:=I.tuple a;have x9:=c.length;exact len_tuple pl (by dsimp[PX] <;> omega) ⟨.int ys.length,H,I.tok _,⟨s.toks+1,by rw[PX,x9]⟩,q⟩
theorem we:kP X (.type "list") (λxs H Q=>∃p ys,xs=[.ref p]/\(SqL X.K H p ys\/SqT X.K H p ys)/\∀l,H l=S->Q (.ref l) (upd H l (.lst ys))):=by
 intro z7 s σ H xs us Q I r h;obtain⟨p,ys,rfl,f,q⟩:=h;obtain⟨u,rfl,j⟩:=vals1 r;cases j;have fin:∀(a:J F'),Vals ys a->ys.length<=sizeLine->∀(h':Sy)(c':O),(∀b o',s.heap.get? b=Y o'->h'.get? b=Y o') ->
   h'.get? s.heap.objs.size=Y {cls:=.type "list",dict:=S,data:=.seq a.toArray c',slots:=#[]}->EP X z7 σ Q (.ref s.heap.objs.size) {s with heap:=h'}:=λa c g h' c' kp e =>
  ⟨.ref s.heap.objs.size,_,I.laid (t':=s.toks) kp (PN _) (show dY X.prog X.w _ h' _ (.lst ys) from⟨g,a,c',c,e⟩),rfl,q _ (I.hok.fresh (PN _))⟩
 rcases f with f|f
 .obtain⟨a,c,pl,g⟩:=I.list f;have x9:=c.length;obtain⟨o,i,hc,n,hd⟩:=pl.isList;exact call_list_seq p (.inl rfl) i hc hd (λh' c' kp e=>fin a c g h' c' kp e) (by dsimp[PX] <;> omega)
 .obtain⟨a,c,pl,g⟩:=I.tuple f;have x9:=c.length;obtain⟨o,i,hc,n,hd⟩:=pl;exact call_list_seq p (.inr rfl) i hc hd (λh' c' kp e=>fin a c g h' c' kp e) (by dsimp[PX] <;> omega)
theorem uw:kP X (.type "tuple") (λxs H Q=>∃p ys,xs=[.ref p]/\((SqL X.K H p ys/\∀l,H l=S->Q (.ref l) (upd H l (.tup ys)))\/(SqT X.K H p ys/\Q (.ref p) H))):=by
 intro z7 s σ H xs us Q I r h;obtain⟨p,ys,rfl,h⟩:=h;obtain⟨u,rfl,j⟩:=vals1 r;cases j;rcases h with⟨c,q⟩|⟨c,q⟩
 .obtain⟨a,f,pl,g⟩:=I.list c;have x9:=f.length;refine call_tuple_list pl.isList (λh' kp=>?_) (by dsimp[PX] <;> omega);have i:Inv X z7 σ H {s with heap:=h'}:=I.kept (t':=s.toks) kp;have m:Inv X z7 σ (upd H h'.objs.size (.tup ys)) {s with heap:=h'.push {cls:=.type "tuple",data:=.seq a.toArray}} :=
   i.laid (t':=s.toks) (λb o e=>P5 _ e) (PN _) (show dY X.prog X.w _ _ _ (.tup ys) from⟨g,a,f,xD.new _ _⟩)
  exact⟨.ref h'.objs.size,_,m,rfl,q _ (i.hok.fresh (PN _))⟩
 .obtain⟨a,f,pl,g⟩:=I.tuple c;exact call_tuple_same pl ⟨.ref p,H,I,rfl,q⟩
def tyV(K:N')(T:U2)(x:V)(H:Hp):Prop:=match x with
 |.str _=>T="str"
 |.int _=>T="int"
 |.ref p=>(T="list"/\∃xs,SqL K H p xs)\/(T="tuple"/\∃o,K.lookup p=Y o/\o.cls=.type "tuple"/\o.dict=S) \/
  (T="dict"/\((∃kvs,H p=Y (.dK kvs))\/∃kvs,H p=Y (.dT kvs)))\/(T="set"/\∃D1 n,H p=Y (.set D1 n))
 |_=>False
theorem Nd{T:U2}{x:V}{v:F'}(I:Inv X z7 σ H s)(r:RelV x v)(ty:tyV X.K T x H) :
  s.TypeIs v T/\∀a,v=.ref a->∃f,s.heap.get? a=Y f/\f.dict=none:=by
 cases x with
 |str z =>obtain⟨t,rfl⟩:=r;cases (show T="str" from ty);exact⟨typeIs_str s z t,λ_ e=>nomatch e⟩
 |int i =>obtain⟨t,rfl⟩:=r;cases (show T="int" from ty);exact⟨Vg s i t,λ_ e=>nomatch e⟩
 |ref p =>
  cases r;rcases ty with⟨rfl,xs,g⟩|⟨rfl,o,b,hc,hd⟩|⟨rfl,b⟩|⟨rfl,D1,n,b⟩
  .obtain⟨its,_,pl,_⟩:=I.list g;refine⟨pl.isList.typeIs,λa e=>?_⟩;cases e;obtain⟨o,n,e,c,hd,_⟩:=pl;exact⟨o,e,hd⟩
  .refine⟨⟨o,I.kIn p o b,hc⟩,λa e=>?_⟩;cases e;exact⟨o,I.kIn _ o b,hd⟩
  .have z:∃o,s.heap.get? p=Y o/\o.ExactDict:=by
    rcases b with⟨kvs,b⟩|⟨kvs,b⟩
    .obtain⟨_,_,_,_,o,_,_,e,ex,_⟩:=I.hok p _ b;exact⟨o,e,ex⟩
    .obtain⟨_,_,_,_,o,_,_,e,ex,_⟩:=I.hok p _ b;exact⟨o,e,ex⟩
   obtain⟨o,e,ex⟩:=z;refine⟨⟨o,e,ex.1⟩,λa e2=>?_⟩;cases e2;exact⟨o,e,ex.2.1⟩
  .obtain⟨o,_,_,_,e,ex,_⟩:=I.hok p _ b;refine⟨⟨o,e,ex.1⟩,λa e2=>?_⟩;cases e2;exact⟨o,e,ex.2.1⟩
 |_=>exact SR ty
def tBM(K:N')(T:U2)(r:V->J V->Hp->VK->Prop)(to:TE)(t:TA):TE:=λσ H Q=>to σ H λx H1=>tyV K T x H1/\t σ H1 λxs H2=>r x xs H2 Q
variable {o e:Sq}{es:J Sq}{to:TE}{t:TA}{name:M'}{apos:Vp}{T id:U2}{r:V->J V->Hp->VK->Prop}
theorem C7(p:PlainAttrs T)(slot:Slot T name id)(g:typeOf (.builtin id)=pure (.type "method_descriptor"))(hm:MtR X id r)(q:PE X o to)(ha:PA X (e::es) t)
  (b:attributeBase o name X.env (eval o X.env)=eval o X.env:=by rfl)
  (f:((backTo cpos (starEach (e::es) X.env)).all (λx=>!x.1)&&(backToKw cpos (keywordEach [] X.env)).all (λx=>x.1.isSome)
  &&decide ((e::es).length+([]:J Tg).length+(if ([]:J Tg).isEmpty then 0 else 1)<30))=true:=by rfl)
  (c:(apos.endLine==cpos.line)=true:=by rfl) (u:starEach (e::es) X.env=(false,eval e X.env)::starEach es X.env:=by rfl) (a:(backTo cpos (starEach es X.env)).any (·.1)=false:=by rfl) :
  PE X (.Call (.Attribute o name apos) (e::es) [] cpos) (tBM X.K T r to t):=by
 intro z7 s σ H Q I h;refine Vh b f c rfl (thn (q z7 s σ H _ I h) λv w i=>?_);obtain⟨x,H1,l,m,ty,y⟩:=i;obtain⟨h1,h2⟩:=Nd l m ty;refine⟨T,id,p,slot,g,h1,h2,?_⟩;have n:=ha cpos z7 w σ H1 _ l y;rw[u]at n ⊢;refine TZ (by show (false||(backTo cpos (starEach es X.env)).any (·.1))=false;rw[a] <;> rfl) (U7 ?_);exact thn n λus s2 j=>(by obtain⟨vs,H2,z,A,B⟩:=j;exact hm z7 s2 σ H2 x vs v us Q z m A B)
end
def MtM(X:Cx)(id:U2)(r:V->J V->Hp->VK->Prop):Prop :=
 ∀(z7:J (HL×Tt))(s:K')(σ:St)(H:Hp)(x:V)(xs:J V)(v:F')(us:J F')(Q:VK),Inv X z7 σ H s->RelV x v->Vals xs us->r x xs H Q ->
  wpAny (model X.prog X.w) X.A (call (.builtin id) (v::us)) (EP X z7 σ Q) X.xe s
theorem Vals.one{x:V}(h:Vals [x] us):∃u,us=[u]/\RelV x u:=by
 cases h with
 |cons r t=>cases t;exact⟨_,rfl,r⟩
theorem Vals.eraseIdx:∀{xs:J V}{us:J F'}(i:O),Vals xs us->Vals (xs.eraseIdx i) (us.eraseIdx i)
 |_,_,_,.nil=>.nil
 |_,_,0,.cons _ t=>t
 |_,_,i+1,.cons r t=>.cons r (Vals.eraseIdx i t)
theorem Vals.rep{xs:J V}{us:J F'}(h:Vals xs us):∀k:O,Vals (I' k xs).flatten (I' k us).flatten
 |0=>.nil
 |k+1=>by rw[QZ,QZ,QX,QX];exact Vals.append h (Vals.rep h k)
theorem u9{α:Type}:∀(l:J α)(i:O),(l.eraseIdx i).length<=l.length
 |[],_=>PN _
 |_::_,0=>Ru _
 |_::r,i+1=>O.succ_le_succ (u9 r i)
theorem foldl_rep(a:J F'):∀(k:O)(z4:J F'),
  U8 (λx1 x2=>x1++x2) z4.toArray (I' k a.toArray)=(z4++(I' k a).flatten).toArray
 |0,z4=>by simp
 |k+1,z4=>by
  have e:z4.toArray++a.toArray=(z4++a).toArray:=by simp
  have e2:(z4++a)++(I' k a).flatten=z4++(I' (k+1) a).flatten:=by rw[QZ,QX,QR]
  rw[<-e2,<-foldl_rep a k (z4++a),<-e,QZ,Qw]
section
variable {l:HL}{zs:J V}
theorem Inv.lset{f:SN F'->SN F'}{t':O}(I:Inv X z7 σ H s)(b:H l=Y (.lst xs))
  (e:s.heap.get? l=Y {cls:=.type "list",data:=.seq a.toArray n}) (c:f a.toArray=its'.toArray) (hv:Vals ys its') (g:ys.length<=sizeLine) :
  Inv X z7 σ (upd H l (.lst ys)) {s with heap:=s.heap.update l (Td f),toks:=t'}:=by
 have q:=PySem.IsL.update e f;rw[c]at q;refine I.write (x:=l) (e:=l) (by rw[b];exact trivial) (.inl rfl) (λb' u h i=>(QI s.heap (Td f) (Uh h)).trans i) ⟨_,q⟩ ?_;exact⟨g,its',_,hv,q⟩
theorem Inv.lnew{t':O}(I:Inv X z7 σ H s)(hv:Vals ys a)(b:ys.length<=sizeLine) :
  Inv X z7 σ (upd H s.heap.objs.size (.lst ys)) {s with heap:=s.heap.push {cls:=.type "list",data:=.seq a.toArray},toks:=t'} :=
 I.laid (λ_ _ q=>P5 _ q) (PN _) ⟨b,a,0,hv,PY _ rfl⟩
theorem Inv.fresh(I:Inv X z7 σ H s):H s.heap.objs.size=none:=I.hok.fresh (PN _)
theorem Inv.lstM(I:Inv X z7 σ H s)(b:H l=Y (.lst xs)):xs.length<=sizeLine/\∃(a:J F')(n:O),Vals xs a/\xs.length=a.length/\s.heap.get? l=Y {cls:=.type "list",data:=.seq a.toArray n}:=by obtain⟨z,a,n,r,e⟩:=I.hok l _ b;exact⟨z,a,n,r,r.length,e⟩
theorem yy(h:n<=sizeLine):TF n=false:=by unfold TF;exact L' ⋯
end
section
def Ki:V->J V->Hp->VK->Prop:=λx vs H Q=>∃l xs y,x=.ref l/\vs=[y]/\H l=Y (.lst xs)/\xs.length<sizeLine/\Q .non (upd H l (.lst (xs++[y])))
theorem pJ:MtM X "list.append" Ki:=by intro z7 s σ H x vs v us Q I c f h;obtain⟨l,xs,y,rfl,rfl,b,hz,q⟩:=h;cases c;obtain⟨u,rfl,g⟩:=f.one;obtain⟨z,a,n,r,hl,e⟩:=I.lstM b;refine U9 UK ⟨_,e,rfl⟩ F.entry_list_append (F.args_list_append_2 _ _) (PySem.list_append l a.toArray n u (by rw[PX];omega)) ⟨e,?_⟩;refine⟨.non,_,I.lset (its':=a++[u]) b e #[2] (r.append (.cons g .nil)) ?_,rfl,q⟩;rw[PU,Qr];omega
def KU:V->J V->Hp->VK->Prop:=λx vs H Q=>∃l b xs zs,x=.ref l/\vs=[.ref b]/\H l=Y (.lst xs)/\H b=Y (.lst zs)/\xs.length+zs.length<=sizeLine/\Q .non (upd H l (.lst (xs++zs)))
theorem D0:MtM X "list.extend" KU:=by
 intro z7 s σ H x vs v us Q I g i h;obtain⟨l,b,xs,zs,rfl,rfl,f,hB,hz,q⟩:=h;cases g;obtain⟨u,rfl,j⟩:=i.one;cases j;obtain⟨z,its,n,r,hl,e⟩:=I.lstM f;obtain⟨z2,a,n2,m,hl2,e2⟩:=I.lstM hB;have hsz:its.toArray.size+a.toArray.size<=sizeLine:=by rw[PX,PX];omega
 have c:¬ (!its.toArray.isEmpty&&TF (its.toArray.size+a.toArray.size))=true:=by rw[yy hsz,R0.and_false];exact Q1
 refine U9 W2 ⟨_,e,rfl⟩ F.entry_list_extend (F.args_list_extend_2 _ _)
  (AutoSeq1.list_extend_list_list_0 l its.toArray n b a.toArray n2 c (by rw[PX];omega) ⋯) ⟨e,e2,?_⟩
 refine⟨.non,_,I.lset (its':=its++a) f e #[2] (r.append m) ?_,rfl,q⟩;rw[PU];omega
def Lq:V->J V->Hp->VK->Prop:=λx vs H Q=>∃l xs i k y,x=.ref l/\vs=[.int i]/\H l=Y (.lst xs)/\-(2 ^ 63)<=i/\i<2 ^ 63/\seqIndex? i xs.length=Y k/\xs[k]?=Y y/\Q y (upd H l (.lst (xs.eraseIdx k)))
theorem E2:MtM X "list.pop" Lq:=by
 intro z7 s σ H x vs v us Q I f g h;obtain⟨l,xs,i,k,y,rfl,rfl,c,h1,h2,j,m,q⟩:=h;cases f;obtain⟨u,rfl,o⟩:=g.one;obtain⟨t,rfl⟩:=o;obtain⟨z,a,n,r,hl,e⟩:=I.lstM c;obtain⟨w,hw,b⟩:=r.get m;refine U9 Xa ⟨_,e,rfl⟩ F.entry_list_pop (F.args_list_pop_2 _ _)
  (MeetsSeq.list_pop_at l a.toArray n i t k w (Xx h1 h2) (by rw[PX,<-hl];exact j) (by rw[<-RX];exact hw) (by rw[PX];omega)) ⟨e,?_⟩
 refine⟨y,_,I.lset (its':=a.eraseIdx k) c e ?_ (r.eraseIdx k) ?_,b,q⟩
 .show a.toArray.eraseIdxIfInBounds k=(a.eraseIdx k).toArray;rw[J.eraseIdxIfInBounds_toArray]
 .have:=u9 xs k;omega
def NX:R2:=λx y H Q=>∃l b xs zs,x=.ref l/\y=.ref b/\H l=Y (.lst xs)/\H b=Y (.lst zs)/\xs.length+zs.length<=sizeLine/\∀p,H p=S->Q (.ref p) (upd H p (.lst (xs++zs)))
theorem M1:OpR X (binaryOp .Add) NX:=by
 intro z7 s σ H x y v u Q I f g h;obtain⟨l,b,xs,zs,rfl,rfl,i,hB,hz,q⟩:=h;cases f;cases g;obtain⟨z,c,n,r,hl,e⟩:=I.lstM i;obtain⟨z2,a,n2,j,hl2,e2⟩:=I.lstM hB;refine PySem.P.add_list e e2 ?_ (by rw[PX,PX];omega);have ea:c.toArray++a.toArray=(c++a).toArray:=by simp
 rw[ea];exact⟨.ref _,_,I.lnew (t':=s.toks) (r.append j) (by rw[PU];omega),rfl,q _ I.fresh⟩
def N6:R2:=λx y H Q=>∃l k xs,x=.ref l/\y=.int k/\H l=Y (.lst xs)/\-(2 ^ 63)<=k/\k<2 ^ 63/\xs.length*k.toNat<=sizeLine /\
 ∀p,H p=S->Q (.ref p) (upd H p (.lst (I' k.toNat xs).flatten))
theorem len_rep(xs:J α)(k:O):(I' k xs).flatten.length=k*xs.length:=by
 induction k with
 |zero=>simp
 |succ k ih=>rw[QZ,QX,PU,ih,O.succ_mul,O.add_comm]
theorem NA:OpR X (binaryOp .Mult) N6:=by
 intro z7 s σ H x y v u Q I o p h;obtain⟨l,k,xs,rfl,rfl,w,h1,h2,j,q⟩:=h;cases o;obtain⟨t,rfl⟩:=p;obtain⟨z,b,n,r,hl,e⟩:=I.lstM w;have x9:b.toArray.size*k.toNat<=sizeLine:=by rw[PX,<-hl];exact j
 have f:¬ b.toArray.size*k.toNat>(2 ^ 63-1) / 8:=by
  have:(sizeLine:O)<=(2 ^ 63-1) / 8:=by decide
  omega
 have g:¬ (!Rf.List.listFitsIndex k)=true:=by rw[Xx h1 h2];exact Q1
 have c:¬ TF (b.toArray.size*k.toNat)=true:=by rw[yy x9];exact Q1
 have i:U8 (λx1 x2=>x1++x2) #[] (I' (if b.toArray.isEmpty=true then 0 else k.toNat) b.toArray)=(I' k.toNat b).flatten.toArray:=by
  have A:∀m:O,U8 (λx1 x2=>x1++x2) #[] (I' m b.toArray)=(I' m b).flatten.toArray:=λm=>by have:=foldl_rep b m [];rw[Qs]at this;exact this
  rw[A];cases b with
  |nil=>simp
  |cons a r'=>rw[GC #[2]]
 refine UP (T:="list") (U:="int") #[1] ⟨_,e,rfl⟩ (λs'=>Vg s' k t) noFill_list_mul Xb Uy repeat_list WN.lookup
  (U9 Uy (Vg s k t) WO (Wo _ _) (int___rmul___int_list k t l b.toArray n)
   ⟨e,rfl,⟨_,e,rfl⟩,U9 F.slot_list_mul ⟨_,e,rfl⟩ F.entry_list_mul (F.args_list_mul_2 _ _) (AutoListH.list___mul___list_int_3 l b.toArray n k t g f c) ⟨e,?_⟩⟩)
 rw[i];exact⟨.ref _,_,I.lnew (t':=s.toks) (r.rep k.toNat) (by rw[len_rep,Wq];exact j),rfl,q _ I.fresh⟩
end
section
variable {A:Ss}
end
section
end
end L2
namespace Att
open PySem PySem.W PySem.Calls PyProof.Rows
theorem qM{P:Yl}:∀(ns:J Z)(vs:J F'),WellAll P h vs (ns.map Yu)->Ts vs ns:=by
 intro ns
 induction ns with
 |nil =>intro vs w;rw[Qv]at w;cases w;exact .nil
 |cons n ns ih =>
  intro vs w;rw[P0]at w;cases w with
  |cons a b =>cases a;exact .cons _ _ (ih _ b)
theorem DG{l:Xk}{n:O}(hn:l.most=Y n){P:Yl}{args:J Yr}{vals:J F'}
  (b:l.row.toRowW.claim.pre args=true) (f:WellAll P h vals args) :
  ∃a vs ns,vals=[Sz a]/\args=[Yr.list (ns.map Yu)]/\h.get? a=Y {cls:=.type "list",data:=.seq vs.toArray}/\Ts vs ns/\ns.length<=n:=by
 have g:WShape.hasAll [] args [.list .int]=true:=(pre_splitW b).1;have hc:l.pre.holds [] {args:=args}=true:=(pre_splitW b).2;obtain⟨d,r,rfl,h1,h2⟩:=hasAllW_cons g;obtain rfl:=hasAllW_nil h2;obtain⟨xs,rfl,h3⟩:=hasW_list h1;obtain⟨ns,rfl⟩:=items_int h3;have x9:ns.length<=n:=by
  unfold Xk.pre at hc;have c:(WTm.not (.lt (.lit (.int (n:Z))) (.len (.arg 0)))).holds [] {args:=[.list (ns.map .int)]}=true:=by have c:=(holds_andW hc).1;rw[hn]at c;exact c
  have e:=condW_of c (w_not (w_lt w_lit (w_len_list (w_arg rfl))));rw[P6]at e;refine O.le_of_not_lt λq=>?_
  have i:(n:Z)<((ns.length:O):Z):=⋯
  first
   |(rw[O' i]at e;exact So e #[1])
   |(simp at e;omega)
 cases f with
 |cons w1 w2 =>
  cases w2;cases w1 with
  |list ho hall=>exact⟨_,_,ns,rfl,rfl,ho,qM ns _ hall,x9⟩
theorem Ek(l:Xk)(args:J Yr):l.row.toRowW.claim.post args (.bool true) args=true :=
 postW_of (r:=l.row.toRowW) (X:=(true==true))
  (show Ym [] (.bool true) .bool=true by first|rfl|decide|simp[Ym,WShape.arms,WShape.armsAll])
  (show (WTm.eq .res (.lit (.bool true))).value [] {args:=args,res:=Y (.bool true),after:=args}=Y (.bool (true==true)) from w_eq_bool (w_res rfl) w_lit) rfl
theorem yb{l:Xk}{n:O}{d:Yn}
  (hn:l.most=Y n) (h:d.params.defaults=[])
  (call:∀(w:T1)(s₀ b:K')(mg i:M'->D' F')(c:HL)(o:Tt)(pm cd doc:F')(a:HL)(vs:J F')(ns:J Z),
   Ground q loose [] XP w s₀ mg i b.heap->YP w b.heap ->
   b.heap.get? c=Y o->o.data=.func (docDef d.name d.params d.body d.scope pm cd doc)->b.heap.CodeRec cd d.name->mg d.name=Y (.ref c) ->
   b.heap.get? a=Y {cls:=.type "list",data:=.seq vs.toArray}->Ts vs ns->ns.length<=n->b.gens=#[] ->
   codeAny (model l.prog w) callerA (.call (.ref c) ⟨[.ref a],[]⟩) (λr s'=>r=.ok (.ret (.bool true))/\OldK b.heap s'.heap/\s'.os=b.os/\UD s'.gens) b) :
  WalkO q loose XP YP l.row.toRowW d [] (λf vs=>PySem.call f vs):=by
 intro w s₀ b mg i G A2 c o pm cd doc u kV v hd j s m x args vals as e hlay hrd p hlo;obtain rfl:u=.none:=Dflts.none s h;obtain rfl:kV=.none:=Dflts.noKw s;obtain⟨a,vs,ns,rfl,rfl,g,hints,x9⟩:=DG hn e p;refine enter_call (TY (call w s₀ b mg i c o pm cd doc a vs ns G A2 v (fd_plain hd) j m g hints x9 x) λr s' y=>?_);obtain⟨rfl,h2,h3,z⟩:=y;exact⟨.inl ⟨.bool true,.bool true,[],rfl,λ_=>rfl,.bool true,Ek l _,λ_=>⟨Wr,λ_ hm=>(nomatch hm)⟩⟩,h2,h3,z⟩
section
variable {A:Ss}{K:Frag}
end
end Att
namespace L2
open PySem PySem.Spec PyProof.Rows
theorem vP:∀{vs:J F'}{ns:J Z},Ts vs ns->Vals (ns.map V.int) vs
 |_,_,.nil=>.nil
 |_,_,.cons n t h=>.cons ⟨t,rfl⟩ (vP h)
def Na(H:Hp):Prop:=∀b,H b=S\/(∃o xs,H b=Y (.frz o (.lst xs)))\/∃q,H b=Y (.tbl q)
def pe(K:N')(h:Sy):Prop:=(∀P q,TabOf K P q->h.get? P=Y {cls:=.none,data:=.fields #[]}/\K.lookup P=S/\isCodeTable h P)/\∀P q a,TabOf K P q->TabOf K P a->q=a
section
open Classical
def mB(K:N'):Hp:=λb=>if h:∃q,TabOf K b q then Y (.tbl h.choose) else S
theorem eo(K:N')(b:HL):mB K b=S\/∃q,TabOf K b q/\mB K b=Y (.tbl q):=by
 unfold mB;split
 .rename_i h;exact .inr ⟨_,h.choose_spec,rfl⟩
 .exact .inl rfl
theorem vz(a:pe K h){P:HL}{q:M'}(t:TabOf K P q):mB K P=Y (.tbl q):=by
 rcases eo K P with e|⟨b,t',e⟩
 .unfold mB at e;rw[dif_pos ⟨q,t⟩]at e;cases e
 .rw[e,a.2 P q b t t']
end
def qm(mg:M'->D' F')(base:Sy):Prop:=∃bm o,mg "__builtins__"=Y (.ref bm)/\bm≠builtinsNs/\bm≠mainGlobals/\base.get? bm=Y o/\o.cls=.type "module"/\o.dict=Y builtinsNs/\o.data=.plain
theorem law_call{D2:M'->D' F'}{k:O}{Q:HL}{c:K'}{vs:J F'}
  (KX:K.In c.heap) (E:c.heap.Ns mainGlobals mg) (i:c.heap.Ns builtinsNs D2) (R:∀x:M',x≠"__name__"->D2 x=bootBuiltins x) (G:c.heap.NoLimit) (hg:c.gens=#[])
  (ha:c.heap.get? a=Y {cls:=.type "list",data:=.seq vs.toArray}) (hi:Ts vs ns) (hl:ns.length<=sizeLine) (hr:cH k callerA)
  (D1:qm mg c.heap) (F:∀base:Sy,K.In base->base.Ns mainGlobals mg->qm mg base->iP P w K mg base CX k Q fd [x] sp) (A:∀(s:K')(u:F'),XZ s fd ⟨[u],[]⟩ [(x,u)])
  (T:∀H:Hp,Na H->SqL K H a (ns.map V.int)->sp [.ref a] H (λv _=>v=.bl true) λ_ _ _=>False)
  (U:∀H e s',CX [] H c (λ_ _ _=>False) e s'->False) (j:pe K c.heap) :
  codeAny (model P w) callerA (.call (.ref Q) ⟨[.ref a],[]⟩) (λr s'=>r=.ok (.ret (.bool true))/\OldK c.heap s'.heap/\s'.os=c.os/\UD s'.gens) c:=by
 have rv:=vP hi;have I:=hi.length
 -- from an abstract heap in which nothing but the script may be tracked
 have core:∀H:Hp,Na H->SqL K H a (ns.map V.int)->HOk P w H c.heap->(∀b,H b≠S->b=a\/∃q,TabOf K b q)->(H a≠S->K.lookup a=S)->(∀P q,TabOf K P q->H P=Y (.tbl q)) ->
   codeAny (model P w) callerA (.call (.ref Q) ⟨[.ref a],[]⟩) (λr s'=>r=.ok (.ret (.bool true))/\OldK c.heap s'.heap/\s'.os=c.os/\UD s'.gens) c:=by
  intro H hO hS hok N hK X;have f:∀{b:HL}{o:Tt},c.heap.get? b=Y o->H b=S->(uP c.heap H).get? b=Y o:=λe n=>EY e n
  have A2:∀{b:HL}{o:Tt}{es:SN DictEntry}{Bk:O},c.heap.get? b=Y o->o.data=.dict es Bk->H b=none:=λ{b o es Bk} e d=>by
   cases q:H b with
   |none=>rfl
   |some u =>
    rcases N b (by rw[q];simp) with g|⟨B,g⟩
    case inr=>rw[(j.1 b B g).1]at e;cases e;cases d
    subst g;rw[ha]at e;cases e;have d':Data.seq vs.toArray _=Data.dict es Bk:=d;cases d'
  have l:∀{b:HL}{m:M'->D' F'},c.heap.Ns b m->(uP c.heap H).Ns b m:=λ{b m} qz2=>(by obtain⟨o,es,Bk,e,d,r⟩:=qz2;exact⟨o,es,Bk,f e (A2 e d),d,r⟩)
  have B':K.In (uP c.heap H):=λb o e=>f (KX b o e) (by
   cases q:H b with
   |none=>rfl
   |some u =>
    rcases N b (by rw[q];simp) with g|⟨B,g⟩
    case inr=>rw[(j.1 b B g).2.1]at e;cases e
    subst g;rw[hK (by rw[q];simp)]at e;cases e)
  have hM:Mod K mg (uP c.heap H):=⟨B',l E,⟨D2,l i,R⟩,let ⟨mc,h1,h2⟩:=G;⟨mc,l h1,h2⟩⟩
  have e0:xw P w K mg (uP c.heap H) callerA [] c H:=⟨rfl,hM,λb o e=>Jt e,Wc (DM _ _),trivial,λb i=>So (show b∈([]:J HL) from i) #[2],hok,.of_eq hg,X⟩
  have A4:qm mg (uP c.heap H):=by
   obtain⟨bm,ob,b1,b2,b3,M,b5,b6,b7⟩:=D1;refine⟨bm,ob,b1,b2,b3,f M ?_,b5,b6,b7⟩;cases q:H bm with
   |none=>rfl
   |some u =>
    rcases N bm (by rw[q];simp) with g|⟨B,g⟩
    case inr=>rw[(j.1 bm B g).1]at M;cases M;cases b5
    subst g;rw[ha]at M;cases M;simp at b5
  refine TY ((F _ B' (l E) A4).run callerA [] c H ⟨[.ref a],[]⟩ [.ref a] [.ref a] _ _ hr e0 (A c (.ref a)) (.cons rfl .nil) (T H hO hS)) λr s' h=>?_
  cases r with
  |error e=>exact (U H e s' h).elim
  |ok fl =>
   cases fl with
   |next=>exact SR h
   |brk=>exact SR h
   |cont=>exact SR h
   |ret u =>
    obtain⟨v,H',os,bare,un,p,r',q⟩:=h;have q':v=.bl true:=q;subst q';obtain rfl:u=Va true:=r';have old:∀b o,c.heap.get? b=Y o->s'.heap.get? b=Y o\/(isCodeTable c.heap b/\o.cls=.none/\∃vs more,o.data=.fields vs/\s'.heap.get? b=Y {o with data:=.fields (vs++more)}):=λb o e=>?old
    case old =>
     cases q:H b with
     |none=>exact .inl <|un.keep b o e q (by intro z;exact So (show b∈([]:J HL) from z) #[2]) #[2]
     |some u =>
      rcases hO b with z|⟨ob,xs,z⟩|⟨B,z⟩
      .rw[q]at z;cases z
      .have z2:=un.frzs b ob _ z;obtain⟨e1,_⟩:=hok b _ z;obtain⟨e2,_⟩:=p b _ z2;rw[e]at e1;cases e1;exact .inl e2
      .have z2:=un.tbls b B z;obtain⟨ps,e2,_⟩:=p b _ z2;rcases N b (by rw[z];simp) with g|⟨q2,g⟩
       .obtain⟨ps0,D,_⟩:=hok b _ z;rw[g]at D;rw[ha]at D;cases D
       .obtain⟨D,_,e4⟩:=j.1 b q2 g;rw[e]at D;cases D;exact .inr ⟨e4,rfl,#[],ps,rfl,by simpa using e2⟩
    exact⟨rfl,⟨λb o e=>(old b o e).imp id λz=>.inl z,λb o e=>by rcases old b o e with z|⟨_,_,_,_,_,z⟩ <;> exact⟨_,z⟩⟩,os,bare⟩
 have tok:∀b q,TabOf K b q->dY P w (λ_=>S) c.heap b (.tbl q):=λb q t=>⟨#[],(j.1 b q t).1,trivial,λpos cv z=>nomatch z⟩
 have y:∀(H:Hp) b q,TabOf K b q->dY P w H c.heap b (.tbl q):=λH b q t=>⟨#[],(j.1 b q t).1,trivial,λpos cv z=>nomatch z⟩
 have na:∀q,¬ TabOf K a q:=λq t=>by have:=(j.1 a q t).1;rw[ha]at this;cases this
 cases hk:K.lookup a with
 |some o =>
  have e:=KX a o hk;rw[ha]at e;cases e;refine core (mB K) (λb=>(eo K b).imp id λC=>(by obtain⟨q,_,e⟩:=C;exact .inr ⟨q,e⟩)) (.inr ⟨_,vs.toArray,_,hk,rfl,rfl,rfl,by rw[PX,I];exact hl,by simpa using rv⟩) (λb u z=>?_) (λb z=>?_) (λz=>?_) λP q t=>vz j t
  .rcases eo K b with e|⟨q,t,e⟩
   .rw[z]at e;cases e
   .rw[z]at e;cases e;exact y _ b q t
  .rcases eo K b with e|⟨q,t,e⟩
   .exact So e z
   .exact .inr ⟨q,t⟩
  .rcases eo K a with e|⟨q,t,e⟩
   .exact So e z
   .exact So t (na q)
 |none =>
  have eT:∀b,b≠a->(λb=>if b=a then Y (HO.frz {cls:=.type "list",data:=.seq vs.toArray} (.lst (ns.map V.int))) else mB K b) b=mB K b:=λb h=>GC h
  have eA:(λb=>if b=a then Y (HO.frz {cls:=.type "list",data:=.seq vs.toArray} (.lst (ns.map V.int))) else mB K b) a=Y (HO.frz {cls:=.type "list",data:=.seq vs.toArray} (.lst (ns.map V.int))):=FC rfl;refine core (λb=>if b=a then Y (.frz {cls:=.type "list",data:=.seq vs.toArray} (.lst (ns.map V.int))) else mB K b) (λb=>?_) (.inl (.inr ⟨{cls:=.type "list",data:=.seq vs.toArray},FC rfl⟩)) (λb u z=>?_) (λb z=>?_) (λ_=>hk) λP q t=>?_
  .by_cases i:b=a
   .exact .inr (.inl ⟨_,_,FC i⟩)
   .rw[eT b i];exact (eo K b).imp id λC=>(by obtain⟨q,_,e⟩:=C;exact .inr ⟨q,e⟩)
  .by_cases i:b=a
   .subst i;rw[eA]at z;cases z;exact⟨ha,by rw[P6];exact hl,vs,_,rv,ha⟩
   .rw[eT b i]at z;rcases eo K b with e|⟨q,t,e⟩
    · rw[z]at e;cases e
    · rw[z]at e;cases e;exact y _ b q t
  .by_cases i:b=a
   .exact .inl i
   .rcases eo K b with e|⟨q,t,e⟩
    · exact So ((GC i).trans e) z
    · exact .inr ⟨q,t⟩
  .exact (GC (λz=>na q (by rw[<-z];exact t))).trans (vz j t)
abbrev KOf{K:N'}{h:Sy}(_:K.In h):W.Frag:=K
theorem CH{l:W.OpenLaw}{n k:O}{d:Yn}{K:Yl->N'}{CX:T1->CXT}{sp:T1->Sp}
  (hn:l.most=Y n) (r:n<=sizeLine) (y:d.params.defaults=[]) (Bk:cH k callerA)
  (B':∀(w:T1)(h:Sy),YP w h->(K w.params).In h)
  (F:∀(w:T1)(mg:M'->D' F')(p:HL)(h:Sy),(K w.params).In h->h.Ns mainGlobals mg->mg d.name=Y (.ref p) ->
   ∃fd:W9,(∀(s:K')(u:F'),XZ s fd ⟨[u],[]⟩ [(x,u)]) /\
    ∀base:Sy,(K w.params).In base->base.Ns mainGlobals mg->qm mg base->iP l.prog w (K w.params) mg base (CX w) k p fd [x] (sp w))
  (A:∀(w:T1)(H:Hp)(a:HL)(ns:J Z),ns.length<=n->Na H->SqL (K w.params) H a (ns.map V.int)->sp w [.ref a] H (λv _=>v=.bl true) λ_ _ _=>False)
  (B:∀(w:T1)(H:Hp)(s:K')(e:F')(s':K'),CX w [] H s (λ_ _ _=>False) e s'->False) (C:∀(w:T1)(h:Sy)(c:J M')(i:ExcName->D' F')(mg I:M'->D' F'),WQ q c i mg I h->(K w.params).In h->pe (K w.params) h) :
  W.WalkO q loose XP YP l.row.toRowW d [] (λf vs=>PySem.call f vs):=by
 refine Att.yb hn y λw s₀ j mg I p o pm cd doc a vs ns G A2 ho hd hcd D m hints x9 N=>?_
 have E:=B' w _ A2;obtain⟨fd,D2,P⟩:=F w mg p _ E G.T.g D;exact law_call E G.T.g G.T.b G.T.builtins G.T.nolimit N m hints (QD x9 r) Bk (by obtain⟨bm,Q,M⟩:=W.bmod_of_top G.T;exact⟨bm,Q,M.name,M.ne,(λz=>by obtain⟨o,es,ep,e1,e2,_⟩:=M.ns;rw[<-z,M.obj]at e1;cases e1;rw[M.data]at e2;cases e2),M.obj,M.cls,M.dict,M.data⟩) P D2 (λH R D1=>A w H a ns x9 R D1) (λH e s'=>B w H j e s') (C w _ _ _ _ _ G.T E)
def inClass(s:Ur)(j:O):Stmt:=match s with
 |.ClassDef _ _ _ body _ _ _ _ _ _ _=>body.getD j (.Pass ⟨0,0,0,0⟩)
 |_=>.Pass ⟨0,0,0,0⟩
def gw(s:Ur):Arguments:=match s with
 |.FunctionDef _ a _ _ _ _ _ _ _ _=>a
 |_=>{posonlyargs:=[],args:=[],vararg:=S,kwonlyargs:=[],kw_defaults:=[],kwarg:=S,defaults:=[]}
def cw(s:Ur):J Stmt:=match s with
 |.FunctionDef _ _ b _ _ _ _ _ _ _=>b
 |_=>[]
def aH(s:Ur):Scope:=match s with
 |.FunctionDef _ _ _ _ _ _ sc _ _ _=>sc
 |_=>{kind:=.function,names:=[],isGenerator:=false,isCoroutine:=false}
abbrev CX0:CXT:=λ_ _ _ _ _ _=>False
abbrev E0:XK:=λ_ _ _=>False
theorem Ow:Passes CX0 X E0:=λ_ _ _ _ _ _ _ h=>h.elim
structure Fun(K:N')(x qual:M')(st:Ur)(f:HL)(fd:W9):Prop where
 ex:∃(oc:F')(od:D' HL)(kV doc pm:F')(an:D' HL)(cdv ct:F')(osl:SN (D' F')),
  fd=V0 x qual (gw st) (cw st) (aH st) .none kV doc pm an cdv ct/\K.lookup f=Y ⟨oc,od,.func fd,osl⟩/\Wh K cdv qual=true
 kp:Uo K (.ref f)=true
section
theorem Fun.ok{k:O}(F:Fun K x qual st f fd)(D1:dH N ps (aH st))(len:∀vs H Q E,sp vs H Q E->vs.length=ps.length)
  (a:∀(cdv:F')(A:Ss)(outer:J WH)(s:K')(H:Hp)(vs:J V)(Q:VK)(E:XK),cH k (A.deeper (envOfC qual (aH st) s.heap.objs.size f cdv))->sp vs H Q E ->
   ∃t,PSs (d8 CX0 P w K mg base N qual (aH st) f cdv A outer s H E).nox (cw st) t/\t {nx:=λ_ H'=>Q .non H',rt:=Q} (start N vs) H):iP P w K mg base CX0 (k+1) f fd ps sp:=by
 obtain⟨oc,od,kV,doc,pm,an,cdv,ct,osl,rfl,e,b⟩:=F.ex;refine Hh e b D1 len λA outer s H vs Q E g c=>?_
 obtain⟨t,h,q⟩:=a cdv A outer s H vs Q E g c;exact⟨t,h.nox,q⟩
theorem Fun.binds(F:Fun K x qual st f fd)
  (h:∀(kV doc pm:F')(an:D' HL)(cdv ct:F')(us:J F'),us.length=ps.length->bindArgs (V0 x qual (gw st) (cw st) (aH st) .none kV doc pm an cdv ct) ⟨us,[]⟩=pure (ps.zip us)):Binds K fd ps []:=by
 obtain⟨oc,od,kV,doc,pm,an,cdv,ct,osl,rfl,lk,hcd⟩:=F.ex;exact .all (h kV doc pm an cdv ct)
theorem Au{kV doc cdv:F'}(l:K.lookup f=Y ⟨oc,od,.func (V0 x qual (gw st) (cw st) (aH st) .none kV doc pm an cdv ct),osl⟩)
 (c:Wh K cdv qual=true) (k:Uo K (.ref f)=true):Fun K x qual st f (V0 x qual (gw st) (cw st) (aH st) .none kV doc pm an cdv ct):=⟨⟨oc,od,kV,doc,pm,an,cdv,ct,osl,rfl,l,c⟩,k⟩
end
section
theorem pv(i:O)(b:X.N[i]?=Y x:=by rfl)(hv:Vis X.env.scope x:=by first|exact Xy rfl|exact Yo (Xy rfl)|exact Yo (Yo rfl))(hd:(x==("__debug__":M'))=false:=by decide)
 (a:(x==("__classdict__":M'))=false:=by decide):PE X (.Name x pos) (Ob i):=ku b hv hd a
end
theorem NW{c A B:Prop}[Decidable c](h1:c->A)(h2:¬ c->B):if c then A else B:=by
 by_cases h:c
 .rw[FC h];exact h1 h
 .rw[GC h];exact h2 h
def aA(H H':Hp):Prop:=∀b o,H b=Y o->H' b=Y o
theorem aA.refl(H:Hp):aA H H:=λ_ _ h=>h
theorem aA.trans{H2:Hp}(a:aA H H1)(b:aA H1 H2):aA H H2:=λc o h=>b c o (a c o h)
theorem aA.free(e:aA H H'){l:HL}(h:H' l=D'.none):H l=D'.none:=by
 cases q:H l with
 |none=>rfl
 |some o =>rw[e l o q]at h;cases h
theorem aA.seq(e:aA H H')(h:SqL K H a xs):SqL K H' a xs:=by
 rcases h with (h|⟨o,h⟩)|h
 .exact .inl (.inl (e _ _ h))
 .exact .inl (.inr ⟨o,e _ _ h⟩)
 .exact .inr h
end L2
set_option maxHeartbeats 4000000
namespace L2
open PySem PySem.Spec PyProof.Rows
variable {f:L->L->D' L}{g:TG}{es:J Sq}{e:Sq}{E:XK}
def vM(CX:CXT)(P:SQ)(w:T1)(K:N')(mg:M'->D' F')(base:Sy)(N:J M')(qual:M')(scope:UT)(f:HL)(cd:F')(cl:J (M'×HL))(A:Ss)(outer:J WH)(s:K')(H:Hp)(E:XK):Cx where
 prog:=P
 w:=w
 K:=K
 mg:=mg
 base:=base
 A:=A.deeper (Y0 qual scope s.heap.objs.size f cd cl)
 N:=N
 s₀:=s
 H₀:=H
 env:=Y0 qual scope s.heap.objs.size f cd cl
 outer:=outer
 stack:=Y0 qual scope s.heap.objs.size f cd cl::outer
 ex:=[]
 calm:=true
 fn:=λ_=>false
 pn:=[]
 xe:=λe s'=>wpAny (model P w) (A.deeper (Y0 qual scope s.heap.objs.size f cd cl)) (leaving (Y0 qual scope s.heap.objs.size f cd cl) e) (λ_ a=>CX outer H s E e a) (λb a=>CX outer H s E b a) s'
theorem vW{α:Type}{y:M'}{u:α}:∀{l:J (M'×α)},(l.map (·.1)).Nodup->(y,u)∈l->l.lookup y=Y u
 |[],_,h=>by cases h
 |(z,w)::l,nd,h=>by
  rw[Qj];rw[P0,Qq]at nd;rcases P8.mp h with h|h
  .cases h;simp
  .have m:y∈l.map (·.1):=J.mem_map_of_mem (f:=(·.1)) h;have:y≠z:=λq=>nd.1 (by subst q;exact m)
   rw[show (y==z)=false by simpa using this];exact vW nd.2 h
theorem Du{y:M'}{u:α}{us:J α}(nd:ps.Nodup)(hl:us.length=ps.length)(h1:ps[i]?=Y y)(h2:us[i]?=Y u):(ps.zip us).reverse.lookup y=Y u:=by
 refine vW ?_ ?_
 .rw[J.map_reverse,WR ⋯];exact (J.reverse_perm ps).symm.nodup nd
 .rw[J.mem_reverse];refine Qz (i:=i) ?_;rw[UQ];exact⟨h1,h2⟩
structure nN(N ps:J M')(sc:UT):Prop where
 kind:sc.kind=.function
 co:sc.isCoroutine=false
 gen:sc.isGenerator=false
 nd:N.Nodup
 pre:N.take ps.length=ps
 par:∀x∈ps,sc.names.lookup x=Y .local
 nocell:∀x∈sc.names,x.2≠.cell
structure L8(s:K')(H:Hp)(cl:J (M'×HL))(sc:UT)(N:J M')(n:O)(ws:J (D' V)):Prop where
 inj:∀x y c,cl.lookup x=Y c->cl.lookup y=Y c->x=y
 has:∀x,sc.names.lookup x=Y .free->∃c,cl.lookup x=Y c
 cell:∀x c,cl.lookup x=Y c->∃v,s.heap.IsCell c v
 free:∀x c,cl.lookup x=Y c->H c=S
 len:N.length=n+ws.length
 val:∀(i:O)(x:M')(v:V),N[n+i]?=Y x->ws[i]?=Y (Y v)->∃u c,RelV v u/\sc.names.lookup x=Y .free/\cl.lookup x=Y c/\s.heap.IsCell c (Y u)
theorem KC{f:HL}{A:Ss}{h1:Sy}{tk:O}
  (D1:nN N ps scope) (hd:A.handled=S) (g:xw P w K mg base A outer s H) (hl:vs.length=ps.length) (r:Vals vs us) (C:L8 s H cl scope N ps.length ws)
  (B:h1.Ns s.heap.objs.size (λx=>(ps.zip us).reverse.lookup x)) (D:∀b o,s.heap.get? b=Y o->h1.get? b=Y o) :
  Inv (vM CX P w K mg base N qual scope f cd cl A outer s H E) [] (vs.map Y++ws) H {s with heap:=h1,toks:=tk}:=by
 have j:∀b:HL,b∉(vM CX P w K mg base N qual scope f cd cl A outer s H E).ex:=λb z=>So (show b∈([]:J HL) from z) #[2]
 have I:∀c v,s.heap.IsCell c v->h1.IsCell c v:=λc v q=>by obtain⟨o,e,d⟩:=q;exact⟨o,D _ _ e,d⟩
 refine⟨⟨g.mod,D1.kind,rfl,rfl,PN _,λy z c h1 h2=>C.inj y z c h1 h2,λy m=>?_,λy c z _=>(by cases z),λ_=>hd,Vt g.frames,.inr ⟨rfl,rfl⟩,λb z=>So z (j b),g.bs,g.bsz,λb _ _=>j b,λb z=>So z (j b),g.funs,g.frf⟩,
  rfl,g.bare,Un.kept D,⟨_,B,λi y v h1 h2 h3=>?_⟩,λy c h=>?_,g.hok.fresh (PN _),λy c h=>C.free y c h,λp n=>So (show p∈([]:J (HL×Tt)) from n) #[2],g.hok.kept D,?_,g.tab⟩
 .have m:scope.names.lookup y=Y .cell\/scope.names.lookup y=Y .free:=m;rcases m with m|m
  .exact So rfl (D1.nocell _ (PySem.mem_of_lookup m))
  .exact C.has y m
 .have h1:N[i]?=Y y:=h1;by_cases hi:i<vs.length
  .have ha:vs[i]?=Y v:=by
    rw[Qc (by simpa using hi),Q5]at h2;cases e:vs[i]? with
    |none=>rw[e]at h2;cases h2
    |some a=>rw[e]at h2;cases h2;rfl
   obtain⟨u,Bk,F⟩:=r.get ha;have n:ps[i]?=Y y:=by rw[<-D1.pre,U' ⋯];exact h1
   have G:ps.Nodup:=by rw[<-D1.pre];exact D1.nd.sublist (Wg _ _)
   refine⟨u,F,.inl ⟨D1.par y (Qz n),?_⟩⟩;exact Du G (by rw[<-r.length,hl]) n Bk
  .rw[Qh (by simpa using hi),P6]at h2;have e:N[ps.length+(i-vs.length)]?=Y y:=by rw[<-hl,O.add_sub_cancel' ⋯];exact h1
   obtain⟨u,c,F,k,l,q⟩:=C.val _ _ _ e h2;exact⟨u,F,.inr ⟨.inr k,c,l,I _ _ q⟩⟩
 .obtain⟨v,q⟩:=C.cell y c h;exact⟨v,I _ _ q⟩
 .show _=N.length;rw[PU,P6,hl,C.len]
theorem IX{k:O}{name:M'}{f c':HL}{h:F'}{A:Ss}{Q:VK}{t:TE}
  (D1:nN N ps scope) (p:cH (k+1) A) (j:xw P w K mg base A outer s H) (hl:vs.length=ps.length) (r:Vals vs us) (C:L8 s H cl scope N ps.length ws)
  (x:s.heap.get? f=Y (XU name qual params body scope cl pm c' h)) (l:s.heap.CodeRec (.ref c') qual)
  (z:bindArgs (Xz name qual params body scope cl pm (.ref c') h) ⟨us,[]⟩=pure (ps.zip us))
  (c:PE (vM CX P w K mg base N qual scope f (.ref c') cl A outer s H E) body t) (B:t (vs.map Y++ws) H Q) :
  codeAny (model P w) A (.call (.ref f) ⟨us,[]⟩) (CR CX outer P w H s Q E) s:=by
 have lim:s.heap.NoLimit:=j.mod.nolimit.keeps λb o e=>(j.bs b o e).1
 refine W.kla_callFunE p.depth x rfl D1.co D1.gen rfl l ?_;rw[z];refine J' (Vv D1.nocell (λy D=>D1.par y.1 (RF (a:=y.1) (b:=y.2) D).1) (λh₁ m i=>⟨lim.fresh _ i,?_⟩) D1.kind);have g:∀b o,s.heap.get? b=Y o->h₁.get? b=Y o:=λb o e=>i.extBut b o (Q4 (Q0 e)) (P5 _ e)
 have I:=KC (CX:=CX) (qual:=qual) (f:=f) (cd:=.ref c') (E:=E) (tk:=s.toks+(ps.zip us).length) D1 p.hd j hl r C m g;exact W.kla_codeExpr (SW (c [] _ _ H Q I B) (λu s' n=>(by obtain⟨v,H',Bk,F,q⟩:=n;exact⟨v,H',Bk.os,Bk.bare,Bk.base,Bk.hok,F,q⟩)) λ_ _ y=>y)
def pP:J (M'×Sv)->J (M'×HL)->J (M'×HL)->J (M'×HL)
 |[],_,z4=>z4
 |(n,k)::r,cells,z4=>pP r cells (if k==.free then (match cells.lookup n with|some c=>(n,c)::z4|none=>z4) else z4)
theorem ky(env:WH):∀(names:J (M'×Sv))(z4:J (M'×HL)),(∀y∈names,y.2=.free->∃c,env.cells.lookup y.1=Y c) ->
  (forIn names z4 (λ(x:M'×Sv)(cs:J (M'×HL))=>match x with
   | (name,kind)=>if (kind==SM)=true then do let c <-cellOf env name;pure (Tf ((name,c)::cs)) else pure (Tf cs)):XQ (J (M'×HL)))=pure (pP names env.cells z4)
 |[],z4,_=>rfl
 |(n,k)::r,z4,h=>by
  rw[RG];have b:∀y∈r,y.2=.free->∃c,env.cells.lookup y.1=Y c:=λy g=>h y (P4 _ g)
  dsimp only[pP];by_cases hk:k=.free
  .subst hk;obtain⟨c,hc⟩:=h (n,.free) P7 rfl;have a:env.cells.lookup n=Y c:=hc;have e:cellOf env n=pure c:=by unfold cellOf;rw[a]
   rw[FC (show (SM==SM)=true by decide),FC (show (SM==SM)=true by decide),e,a];exact ky env r ((n,c)::z4) b
  .have f:¬ (k==SM)=true:=by simpa using hk
   rw[GC f,GC f];exact ky env r z4 b
theorem kR(h:∀y∈scope.names,y.2=.free->∃c,env.cells.lookup y.1=Y c):closureFor scope env=pure (pP scope.names env.cells []):=by have e:=ky env scope.names [] h;unfold closureFor;rw[<-bind_pure (forIn scope.names [] _)]at e;exact e
theorem rJ:∀(names:J (M'×Sv))(cells z4:J (M'×HL))(x:M')(c:HL),(∀x c,z4.lookup x=Y c->cells.lookup x=Y c)->(pP names cells z4).lookup x=Y c->cells.lookup x=Y c
 |[],_,_,x,c,h,e=>h x c e
 |(n,k)::r,cells,z4,x,c,h,e=>by
  refine rJ r cells _ x c (λy d a=>?_) e;split at a
  .split at a
   .rename_i c' b;rw[Qj]at a;by_cases hyn:(y==n)=true
    .rw[hyn]at a;have f:y=n:=eq_of_beq hyn;subst f;cases a;exact b
    .have:(y==n)=false:=by simpa using hyn
     rw[this]at a;exact h y d a
   .exact h y d a
  .exact h y d a
theorem uT:∀(names:J (M'×Sv))(cells z4:J (M'×HL))(x:M'),(∃c,z4.lookup x=Y c)->∃c,(pP names cells z4).lookup x=Y c
 |[],_,_,_,h=>h
 |(n,k)::r,cells,z4,x,h=>by
  refine uT r cells _ x ?_;split
  .split
   .rw[Qj];cases (x==n)
    .exact h
    .exact⟨_,rfl⟩
   .exact h
  .exact h
theorem nC:∀(names:J (M'×Sv))(cells z4:J (M'×HL))(x:M')(c:HL),(x,SM)∈names->cells.lookup x=Y c->∃c,(pP names cells z4).lookup x=Y c
 |[],_,_,_,_,h,_=>by simp at h
 |(n,k)::r,cells,z4,x,c,h,e=>by
  rcases P8.mp h with h|h
  .injection h with h1 h2
   subst h1;subst h2;refine uT r cells _ x ?_;rw[FC #[1],e];exact⟨c,by simp[Qj]⟩
  .exact nC r cells _ x c h e
def blk(X:Cx)(M:J M')(scope:UT)(own:J M')(C:HL)(s2:K')(H2:Hp)(fp:J HL):Cx where
 prog:=X.prog
 w:=X.w
 K:=X.K
 mg:=X.mg
 base:=X.base
 A:=X.A
 N:=M++own
 s₀:=s2
 H₀:=H2
 env:=compEnvC scope (pP scope.names X.env.cells []) C X.env
 outer:=X.stack
 stack:=X.stack
 ex:=fp
 fn:=λ_=>false
 calm:=X.calm
 pn:=[]
 xe:=λ_ _=>False
structure k8(X:Cx)(M:J M')(scope:UT)(own:J M'):Prop where
 kind:scope.kind=.function
 nocell:∀y∈scope.names,y.2≠.cell
 names:∀y∈scope.names,y.2=.local->scope.names.lookup y.1=Y .local
 free:∀y∈scope.names,y.2=.free->Vis X.env.scope y.1/\X.env.scope.names.lookup y.1≠Y .local
 own:∀x∈own,scope.names.lookup x=Y .local
 outer:∀p∈X.N.zip M,(p.1=p.2/\scope.names.lookup p.2≠Y .local)\/scope.names.lookup p.2=S
 len:M.length=X.N.length
def vc(N M:J M')(a scope:UT)(own:J M'):R0 :=
 (scope.kind==.function)&&scope.names.all (λy=>y.2 != .cell)&&scope.names.all (λy=>y.2 != .local||scope.names.lookup y.1==Y .local) &&
 scope.names.all (λy=>y.2 != .free||(a.names.lookup y.1==Y .cell||a.names.lookup y.1==Y .free)) &&
 own.all (λx=>scope.names.lookup x==Y .local)&&(N.zip M).all (λp=>(p.1==p.2&&scope.names.lookup p.2 != Y .local)||scope.names.lookup p.2==S)&&(M.length==N.length)
theorem k8.of(h:vc X.N M X.env.scope scope own=true):k8 X M scope own:=by
 unfold vc at h;dsimp[P9,Q6,Vl,bne_iff_ne,TB,ne_eq]at h;obtain⟨⟨⟨⟨⟨⟨h1,h2⟩,h3⟩,b⟩,c⟩,f⟩,g⟩:=h;refine⟨h1,h2,λy a e=>(h3 y a).resolve_left λz=>z e,λy a e=>?_,c,f,g⟩;rcases (b y a).resolve_left λz=>z e with q|q
 .exact⟨.inr (.inl q),by rw[q];intro z;cases z⟩
 .exact⟨.inr (.inr q),by rw[q];intro z;cases z⟩
theorem fA{env:WH}:∀{names:J (M'×Sv)}{x:M'}{k:Sv},
  (names.map λ(n,k)=>if (k==SM&&env.scope.kind==.function&&env.kindOf n==Y .cell) then (n,VN) else (n,k)).lookup x=Y k->(k=.cell\/k=.free)->(∀y∈names,y.2≠.cell)->(x,SM)∈names
 |[],_,_,h,_,_=>by simp at h
 |(n,k')::r,x,k,h,a,hn=>by
  have b:∀y∈r,y.2≠Sv.cell:=λy c=>hn y (P4 _ c)
  rw[P0,Qj]at h;by_cases hc:(k'==SM&&env.scope.kind==.function&&env.kindOf n==Y .cell)=true
  .have f:k'=.free:=by have:=hc;dsimp[P9]at this;exact eq_of_beq this.1.1
   dsimp[FC hc]at h;cases hx:x==n with
   |true =>have:x=n:=eq_of_beq hx;subst this;subst f;exact P7
   |false =>rw[hx]at h;exact P4 _ (fA h a b)
  .dsimp[GC hc]at h;cases hx:x==n with
   |true =>
    rw[hx]at h;have e:k'=k:=P' h;have:x=n:=eq_of_beq hx;subst this;subst e;rcases a with a|a
    .exact So a (hn _ P7)
    .subst a;exact P7
   |false =>rw[hx]at h;exact P4 _ (fA h a b)
theorem fG{env:WH}:∀{names:J (M'×Sv)}{x:M'}{k:Sv},
  (names.map λ(n,k)=>if (k==SM&&env.scope.kind==.function&&env.kindOf n==Y .cell) then (n,VN) else (n,k)).lookup x=Y k->(∃k0,names.lookup x=Y k0/\(k=k0\/(k=.cell/\k0=.free)))
 |[],_,_,h=>by simp at h
 |(n,k')::r,x,k,h=>by
  rw[P0,Qj]at h;rw[Qj];by_cases hc:(k'==SM&&env.scope.kind==.function&&env.kindOf n==Y .cell)=true
  .have a:k'=.free:=by have:=hc;dsimp[P9]at this;exact eq_of_beq this.1.1
   dsimp[FC hc]at h;cases hx:x==n with
   |true =>rw[hx]at h;exact⟨k',rfl,.inr ⟨(P' h).symm,a⟩⟩
   |false =>rw[hx]at h;exact fG h
  .dsimp[GC hc]at h;cases hx:x==n with
   |true =>rw[hx]at h;exact⟨k',rfl,.inl (P' h).symm⟩
   |false =>rw[hx]at h;exact fG h
section
variable {H2:Hp}{s2:K'}
theorem Inv.blk{h1:Sy}{t':O}(I:Inv X z7 σ H2 s2)(B:k8 X M scope own)(H:∀b∈fp,sS X z7 H2 b)(Bk:∀b∈fp,b<s2.heap.objs.size)
  (A:D=s2.heap.objs.size) (G:C=s2.heap.objs.size+1) (hl:h1.get? D=Y {cls:=.type "list",data:=.seq ([]:J F').toArray 0})
  (hn:h1.Ns C (λ_=>S)) (g:∀b o,s2.heap.get? b=Y o->h1.get? b=Y o) :
  Inv (L2.blk X M scope own C s2 H2 fp) [] (σ++I' own.length S) (upd H2 D (.lst [])) {s2 with heap:=h1,toks:=t'}:=by
 have a:∀x c,(pP scope.names X.env.cells []).lookup x=Y c->X.env.cells.lookup x=Y c:=λx c e=>rJ _ _ _ _ _ (λ_ _ z=>by simp at z) e
 have K:∀x c,(pP scope.names X.env.cells []).lookup x=Y c->c<s2.heap.objs.size:=λx c e=>by obtain⟨v,q⟩:=I.cell x c (a x c e);exact q.lt
 have n:H2 D=none:=I.hok.fresh (by rw[A];exact PN _);have freeC:H2 C=none:=I.hok.fresh (by rw[G];exact Ru _);have B':C≠D:=by rw[G,A];exact WS _
 have W:Un (frs X.stack) fp H2 (upd H2 D (.lst [])) s2.heap h1:=Un.laid g (by rw[A];exact PN _) n;refine⟨⟨I.ok.mod,?_,I.ok.glob,I.ok.blt,?_,?_,?_,?_,I.ok.hd,I.ok.frames,.inl rfl,?_,I.bs,QD I.ok.bsz I.sz,?_,?_,I.stack,I.stkFree⟩,rfl,I.bare,W,?_,?_,?_,?_,?_,?_,?_,λP q t=>W.tbls P q (I.tab P q t)⟩
 .exact B.kind
 .show s2.heap.objs.size<=C;rw[G];exact Ru _
 .intro x y c e1 e2;exact I.ok.inj x y c (a x c e1) (a y c e2)
 .intro x h;have hm:(x,SM)∈scope.names:=by
   rcases h with h|h
   .exact fA h (.inl rfl) B.nocell
   .exact fA h (.inr rfl) B.nocell
  obtain⟨hv,s⟩:=B.free _ hm rfl;have hh:X.env.kindOf x=Y .cell\/X.env.kindOf x=Y .free:=by
   rcases hv with z|z|z
   .exact So z s
   .exact .inl z
   .exact .inr z
  obtain⟨c,e⟩:=I.ok.has x hh;exact nC _ _ _ x c hm e
 .intro x c D2 _;exact So (show false=true from D2) #[1]
 .intro b w;refine⟨?_,λx c e z=>?_⟩
  .show b≠C;rw[G];exact Q4 (Qy (Bk b w))
  .exact (H b w).2.2.2.2.1 x c (a x c e) z
 .intro b o e w;obtain⟨_,_,_,f3,_⟩:=H b w;rcases f3 with z|z
  .exact I.ok.noex b o e z
  .exact So (Q7 (Q0 (I.ok.bs b o e).1) z) (R7 _)
 .intro b w hs;obtain⟨_,f1,f2,_⟩:=H b w;rcases P8.mp (I.stkSub b hs) with z|z
  .exact f1 z
  .exact f2 z
 .refine⟨_,hn,λi x v e1 e2 A2=>?_⟩;have hi:i<σ.length:=by
   by_cases hi:i<σ.length
   .exact hi
   .rw[Qh ⋯,RN]at e2;split at e2 <;> cases e2
  rw[Qc hi]at e2;have E:i<X.N.length:=by rw[<-I.len];exact hi
  have Q:i<M.length:=by rw[B.len];exact E
  have R:M[i]?=Y x:=by
   have:(M++own)[i]?=Y x:=e1
   rwa[Qc Q]at this
  obtain⟨y,A4⟩:∃y,X.N[i]?=Y y:=⟨_,My E⟩
  have hz:(y,x)∈X.N.zip M:=Qz (i:=i) (by rw[UQ];exact⟨A4,R⟩);have D1:∃k,scope.names.lookup x=Y k:=by
   rcases A2 with z|z|z
   .obtain⟨k0,f,_⟩:=fG (show _=Y Sv.local from z);exact⟨k0,f⟩
   .obtain⟨k0,f,_⟩:=fG (show _=Y VN from z);exact⟨k0,f⟩
   .obtain⟨k0,f,_⟩:=fG (show _=Y SM from z);exact⟨k0,f⟩
  have j:y=x/\scope.names.lookup x≠Y .local:=by
   rcases B.outer _ hz with q|q
   .exact q
   .obtain⟨k,g⟩:=D1;rw[q]at g;cases g
  have T:X.N[i]?=Y x:=by rw[<-j.1];exact A4
  have h:(relabel scope X.env).names.lookup x=Y .cell\/(relabel scope X.env).names.lookup x=Y .free:=by
   rcases A2 with z|z
   .obtain⟨k0,f,g⟩:=fG (show _=Y Sv.local from z);rcases g with g|⟨g,_⟩
    .subst g;exact So f j.2
    .cases g
   .exact z
  have hm:(x,SM)∈scope.names:=by
   rcases h with h|h
   .exact fA h (.inl rfl) B.nocell
   .exact fA h (.inr rfl) B.nocell
  obtain⟨hv,s⟩:=B.free _ hm rfl;obtain⟨m,_,U⟩:=I.loc;obtain⟨u,r,l⟩:=U i x v T e2 hv;refine⟨u,r,.inr ⟨h,?_⟩⟩;rcases l with⟨z,_⟩|⟨_,c,hc,z⟩
  .exact So z s
  .obtain⟨c',F⟩:=nC scope.names X.env.cells [] x c hm hc;have:=a x c' F;rw[hc]at this;cases this;exact⟨c,F,z.keeps g⟩
 .intro x c e;obtain⟨v,q⟩:=I.cell x c (a x c e);exact⟨v,q.keeps g⟩
 .show upd H2 D (.lst []) C=S;rw[aE B'];exact freeC
 .intro x c e;have h1:=K x c e;rw[aE (by rw[A];exact Q4 h1)];exact I.freeC x c (a x c e)
 .intro p hp;exact So (show p∈([]:J (HL×Tt))++[] from hp) #[2]
 .exact I.hok.laid g (by rw[A];exact PN _) ⟨QH _,[],0,.nil,hl⟩
 .show (σ++I' own.length S).length=(M++own).length;rw[PU,PU,Vo,I.len,B.len]
theorem Inv.unblk{a:St}(I:Inv X z7 σ H2 s2)(i:∀b∈fp,sS X z7 H2 b)(f:s2.heap.objs.size<=C)
  (Bk:Inv (L2.blk X M scope own C s2 H2 fp) [] a H' s') (j:T8 C s'.heap h'):Inv X z7 σ H' {s' with heap:=h'}:=by
 have h:H' C=none:=Bk.free;have k:∀b o,b≠C->s'.heap.get? b=Y o->h'.get? b=Y o:=λb o g e=>(j.2 b g).trans e
 have old:∀b o,s2.heap.get? b=Y o->b≠C:=λb o e=>Q4 (Q7 (Q0 e) f)
 have u:Un (frs X.stack) fp H2 H' s2.heap s'.heap:=Bk.base;refine I.call' (s':={s' with heap:=h'}) (ch:=fp) Bk.os ?_ ?_ Bk.bare λb g=>?_
 .refine⟨λb o e n h1 h2=>k b o (old b o e) (u.keep b o e n h1 h2),λb o e n h1 h2=>?_,u.free,λb o e h1=>?_,u.tups,u.frzs,u.tbls⟩
  .obtain⟨l,q⟩:=u.slot b o e n h1 h2;exact⟨l,k b _ (old b o e) q⟩
  .obtain⟨o',q⟩:=u.there b o e h1;exact⟨o',k b o' (old b o e) q⟩
 .intro b o e;refine (Bk.hok b o e).stay (λc v hc q=>k c v ?_ q) (λ_ q=>q) λ_ _ q=>q
  rintro rfl
  rcases hc with z|z
  .subst z;rw[h]at e;cases e
  .rw[h]at z;cases z
 .obtain⟨f0,f1,f2,m,p,r⟩:=i b g;exact⟨m,f1,p,r⟩
end
section
variable {A:Ss}{R:XY->K'->Prop}
theorem wU{target:Sq}{it z4:F'}(I:O->K'->Prop)
  (turn:∀n s,I n s->wpAny (model prog w) A (pyNext it) (λr a=>match r with
   |none=>R (.ok .next) a
   |some v=>wpAny (model prog w) A (letOwnedTupleGo target it v) (λ_ j=>wpAny (model prog w) A (assign target env v) (λ_ e =>
    wpAny (model prog w) A (forIn ifs true λc r=>if r=true then do let ok <-isTrue c env (eval c env);pure (Tf ok) else pure (Tf r)) (λok b =>
     if ok=true then wpAny (model prog w) A (eval elt env) (λx f =>
      wpAny (model prog w) A (call (.builtin "list.append") [z4,x]) (λ_ g=>∃m,m<n/\I m g) (λ_ _=>False) f) (λ_ _=>False) b
     else ∃m,m<n/\I m b) (λ_ _=>False) e) (λ_ _=>False) j) (λ_ _=>False) a) (λ_ _=>False) s)
  (n:O) (h:I n s) :
  codeAny (model prog w) A (.compLoop (.ListComp elt [⟨target,iter,ifs,0⟩] scope pos) 0 it z4 env) R s:=by
 refine codeAny_loop rfl I (λn s u=>?_) n h;show wpAny _ A ((compTurn (.ListComp elt [⟨target,iter,ifs,0⟩] scope pos) 0 it z4 env).onRaise (λx=>do noteFrame x env;theTreesLotGoes x)) _ _ s;refine wpAny_noted ?_;rw[compTurn_list];refine F1 (UY (F1 (SW (turn n s u) (λr a h₁=>?_) λ_ _ h'=>h'.elim)));cases r with
 |none=>exact J' h₁
 |some v =>
  refine F1 (SW h₁ (λ_ j q=>?_) λ_ _ h'=>h'.elim);refine F1 (SW q (λ_ e l=>F1 (SW l (λok b i=>?_) λ_ _ h'=>h'.elim)) λ_ _ h'=>h'.elim);cases ok with
  |false=>exact J' ⟨rfl,i⟩
  |true =>exact F1 (F1 (SW i (λx f o=>F1 (SW o (λ_ g p=>J' (J' ⟨rfl,p⟩)) λ_ _ h'=>h'.elim)) λ_ _ h'=>h'.elim))
end
def ym:TT:=λ_ H Q=>Q true H
inductive PTs (X:Cx):J Sq->TT->Prop
 |nil:PTs X [] ym
 |one {c:Sq} {t:TT} (h:PT X c t):PTs X [c] t
theorem PTs.run{t:TT}(h:PTs X ifs t){Q:R0->Hp->Prop}(I:Inv X z7 σ H s)(q:t σ H Q) :
  wpAny (model X.prog X.w) X.A (forIn ifs true λc r=>if r=true then do let ok <-isTrue c X.env (eval c X.env);pure (Tf ok) else pure (Tf r)) (TP X z7 σ Q) X.xe s:=by
 cases h with
 |nil=>exact wpAny_tests_nil ⟨H,I,q⟩
 |one h=>exact wpAny_tests_one (h z7 s σ H Q I q)
def LCR(Bk:It)(n:O)(g:TG)(tt:TT)(te:TE)(σ:St)(H1:Hp)(Q:VK):Prop:=∀D,H1 D=S->∃W:O->O->J V->Hp->Prop,(∃m,W 0 m [] (upd H1 D (.lst []))) /\
 ∀i m ys H,W i m ys H->H D=Y (.lst ys)/\((Bk.stop i H/\Q (.ref D) H)\/(Bk.go i H/\∀x H' e,e.length=n->Bk.yld i H x H'->g x (σ++e) H' λc H2=>tt c H2 λb h =>
  if b=true then te c h λv j=>j D=Y (.lst ys)/\ys.length<sizeLine/\(∃a,c=σ++a/\a.length=n)/\∃f,f < m/\W (i+1) f (ys++[v]) (upd j D (.lst (ys++[v])))
  else (∃a,c=σ++a/\a.length=n)/\∃f,f < m/\W (i+1) f ys h))
def tLC(n:O)(a:TI)(g:TG)(tt:TT)(te:TE):TE:=λσ H Q=>a σ H λBk H1=>LCR Bk n g tt te σ H1 Q
theorem ua{wi:TI}{tt:TT}{te:TE}{use:D' (F'->XQ XI)}{Qf:F'->K'->Prop}(hc:X.calm=true)(hi:PI X tg iter wi)
  (hg:∀C s2 H2 fp,PG (blk X M scope own C s2 H2 fp) tg g) (ht:∀C s2 H2 fp,PTs (blk X M scope own C s2 H2 fp) ifs tt) (he:∀C s2 H2 fp,PE (blk X M scope own C s2 H2 fp) elt te)
  (hB:vc X.N M X.env.scope scope own=true) (hs:∀x,foldedSetIterable iter X.env x=pure x) {Q:VK} (I:Inv X z7 σ H s) (h:tLC own.length wi g tt te σ H Q)
  (fin:∀(C D:HL)(P:K')(D2:Hp),(∀h',T8 C P.heap h'->Inv X z7 σ D2 {P with heap:=h'})->(∃m,P.heap.Ns C m)->D2 C=S->C≠X.env.locals->(∀x c,X.env.cells.lookup x=Y c->c≠C)->(∀p∈X.pn++z7,p.1≠C)->X.s₀.heap.objs.size<=C->Q (.ref D) D2 ->
   compPost (model X.prog X.w) X.A X.xe use Qf (.ref D) C (.ok .next) P) :
  wpAny (model X.prog X.w) X.A (comprehension (.ListComp elt [⟨tg,iter,ifs,0⟩] scope pos) scope X.env cpos (newList []) false (eval iter X.env) use) Qf X.xe s:=by
 have B:k8 X M scope own:=k8.of hB;have R:closureFor scope X.env=pure (pP scope.names X.env.cells []):=kR λy hy hf=>by
  obtain⟨hv,hnl⟩:=B.free y hy hf;have hh:X.env.kindOf y.1=Y .cell\/X.env.kindOf y.1=Y .free:=by
   rcases hv with z|z|z
   .exact So z hnl
   .exact .inl z
   .exact .inr z
  exact I.ok.has y.1 hh
 refine wpAny_comprehension_free (use:=use) rfl hs R B.kind B.names (thn (hi z7 s σ H _ I h) λv s1 h1=>thn h1 λitv s2 h2=>?_);obtain⟨it,fp,tn,Bk,H2,e,D1,T,U,f2,hD⟩:=h2;subst e;have A2:∀b∈fp,b<s2.heap.objs.size:=λb l=>by obtain⟨o,q,_⟩:=T.obj _ _ U b l;exact Q0 q
 obtain⟨W,⟨m0,w0⟩,turn⟩:=hD s2.heap.objs.size (D1.hok.fresh (PN _));refine T9 (Vv B.nocell (by intro y hy;simp at hy) (λh₁ j f=>?_) B.kind);dsimp only at j f ⊢;generalize hG:s2.heap.push {cls:=.type "list",dict:=S,data:=.seq ([]:J F').toArray}=G at j f ⊢;have hC:G.objs.size=s2.heap.objs.size+1:=by rw[<-hG,SJ]
 have hk:∀b o,s2.heap.get? b=Y o->h₁.get? b=Y o:=λb o e=>f.extBut b o (by rw[hC];exact Q4 (Qy (Q0 e))) (P5 _ (hG▸P5 _ e))
 have hDC:s2.heap.objs.size≠G.objs.size:=by rw[hC];exact Q4 (R9 _)
 have hl:h₁.get? s2.heap.objs.size=Y {cls:=.type "list",data:=.seq ([]:J F').toArray 0}:=f.extBut _ _ hDC (P5 _ (hG▸PY _ rfl));have hns:h₁.Ns G.objs.size (λ_=>S):=by
  have e:(λx=>([]:J (M'×F')).reverse.lookup x)=λ_=>none:=by funext x;rfl
  rw[<-e];exact j
 have I3:=λt'=>D1.blk (t':=t') (C:=G.objs.size) (D:=s2.heap.objs.size) B f2 A2 rfl hC hl hns hk
 have E:∀{H':Hp},(∀b∈fp,H' b=S)->∀b∈fp,sS (blk X M scope own G.objs.size s2 H2 fp) [] H' b:=λhn b l=>by
  refine⟨hn b l,?_,?_,.inl l,λx c e z=>?_,λp hp=>So (show p∈([]:J (HL×Tt))++[] from hp) #[2]⟩
  .show b≠G.objs.size;rw[hC];exact Q4 (Qy (A2 b l))
  .exact (I3 0).ok.exfs b l
  .exact ((I3 0).ok.exf b l).2 x c e z
 have loop:∀s3:K',(∃t',s3={s2 with heap:=h₁,toks:=t'})->codeAny (model X.prog X.w) X.A (.compLoop (.ListComp elt [⟨tg,iter,ifs,0⟩] scope pos) 0 (.ref it) (.ref s2.heap.objs.size) (compEnvC scope (pP scope.names X.env.cells []) G.objs.size X.env))
   (compPost (model X.prog X.w) X.A X.xe use Qf (.ref s2.heap.objs.size) G.objs.size) s3:=by
  rintro s3 ⟨t',rfl⟩
  refine wU (λn s'=>∃i ys B' H',B'.length=own.length/\Inv (blk X M scope own G.objs.size s2 H2 fp) [] (σ++B') H' s'/\tn i s'.heap/\(∀b∈fp,H' b=S)/\W i n ys H') ?_ m0
   ⟨0,[],_,_,by simp,I3 t',T.keep _ _ _ U λb l o e=>hk b o e,λb l=>by rw[aE (Q4 (A2 b l))];exact (f2 b l).1,w0⟩
  rintro n s4 ⟨i,ys,B',D2,hl',I4,st4,fr4,w4⟩
  obtain⟨hDl,alt⟩:=turn i n ys D2 w4;rcases alt with⟨stop,qn⟩|⟨go,step⟩
  .refine thn (T.done (blk X M scope own G.objs.size s2 H2 fp) rfl rfl rfl hc i [] s4 _ D2 _ I4 (E fr4) st4 stop) λr P a=>?_
   obtain⟨hr,I5⟩:=a;subst hr;obtain⟨m,hn,_⟩:=I5.loc;have cS:s2.heap.objs.size<=G.objs.size:=by rw[hC];exact Ru _
   refine fin G.objs.size s2.heap.objs.size P D2 (λh' hs'=>D1.unblk (C:=G.objs.size) f2 cS I5 hs') ⟨m,hn⟩ I5.free ?_ (λx c e=>?_) (λp hp=>?_) (QD D1.sz cS) qn
   .obtain⟨_,hl0,_⟩:=D1.loc;exact QT (Q7 hl0.lt cS)
   .obtain⟨_,q⟩:=D1.cell x c e;exact Q4 (Q7 q.lt cS)
   .exact Q4 (Q7 (Q0 (D1.pin p hp).1) cS)
  .refine thn (T.item (blk X M scope own G.objs.size s2 H2 fp) rfl rfl rfl hc i [] s4 _ D2 _ I4 (E fr4) st4 go) λr P a=>?_
   obtain⟨u,hr,h5⟩:=a;subst hr;refine thn h5 λ_ s6 a=>?_
   obtain⟨x,H6,I6,r6,y6,A4,fr6⟩:=a;have I6':=I6.pinned (E fr6) (T.obj _ _ A4);have kp:∀{F:St}{H7:Hp}{s7:K'},Inv (blk X M scope own G.objs.size s2 H2 fp) ([]++r8 fp s6.heap) F H7 s7->tn (i+1) s7.heap/\∀b∈fp,H7 b=none:=λ{F H7 s7} I7=>by refine⟨T.keep _ _ _ A4 λb l o e=>(I7.pin (b,o) (PR _ (PR _ (kB l e)))).1,λb l=>?_⟩;obtain⟨o,e,d⟩:=T.obj _ _ A4 b l;exact (I7.pin (b,o) (PR _ (PR _ (kB l e)))).2.1
   refine thn (hg _ _ _ _ _ s6 _ H6 x u _ I6' r6 (step x H6 B' hl' y6)) λ_ s7 a=>?_
   obtain⟨F,H7,I7,q7⟩:=a;refine thn ((ht _ _ _ _).run I7 q7) λok s8 a=>?_
   obtain⟨H8,I8,q8⟩:=a;cases ok with
   |false =>
    obtain⟨⟨K,e,l''⟩,m',hm,w8⟩:=(show if false=true then _ else _ from q8)
    subst e;obtain⟨k1,k2⟩:=kp I8;exact⟨m',hm,i+1,ys,K,H8,l'',I8.unpinned,k1,k2,w8⟩
   |true =>
    have q8:te F H8 _:=q8;refine thn (he _ _ _ _ _ s8 F H8 _ I8 q8) λy s9 a=>?_
    obtain⟨v,H9,I9,r9,d9,z9,⟨K,e,l''⟩,m',hm,w9⟩:=a;subst e;refine thn (pJ (X:=blk X M scope own G.objs.size s2 H2 fp) _ s9 _ H9 (.ref s2.heap.objs.size) [v] (.ref s2.heap.objs.size) [y] (λ_ H'=>H'=upd H9 s2.heap.objs.size (.lst (ys++[v]))) I9 rfl (.cons r9 .nil) ⟨_,ys,v,rfl,rfl,d9,z9,rfl⟩) λ_ s10 a=>?_
    obtain⟨_,H10,I10,_,e10⟩:=a;subst e10;obtain⟨k1,k2⟩:=kp I10;exact⟨m',hm,i+1,ys++[v],K,_,l'',I10.unpinned,k1,k2,w9⟩
 exact codeAny_compStart_list (loop _ ⟨_,rfl⟩) (T.self _ 0 _ _ _ (T.keep _ _ _ U λb l o e=>hk b o e) (loop _ ⟨_,rfl⟩))
theorem FL{c:TI}{tt:TT}{te:TE}(hc:X.calm=true)(hi:PI X tg iter c)
  (e:∀C s2 H2 fp,PG (blk X M scope own C s2 H2 fp) tg g) (f:∀C s2 H2 fp,PTs (blk X M scope own C s2 H2 fp) ifs tt) (i:∀C s2 H2 fp,PE (blk X M scope own C s2 H2 fp) elt te)
  (hB:vc X.N M X.env.scope scope own=true:=by rfl) (j:∀x,foldedSetIterable iter X.env x=pure x:=by intro _;rfl):PE X (.ListComp elt [⟨tg,iter,ifs,0⟩] scope pos) (tLC own.length c g tt te):=by
 intro z7 s σ H Q I h;rw[eval_ListComp];refine ua hc hi e f i hB j I h λC D s5 l k a _ _ _ _ _ q=>?_
 obtain⟨m,hn⟩:=a;exact⟨m,hn,λh' b=>⟨.ref D,l,k h' b,rfl,q⟩⟩
theorem tT{B:TI}{tt:TT}{te:TE}(hc:X.calm=true)(D2:X.N.Nodup)(j:X.N[i]?=Y x)(P:Loc X.env.scope x)
  (l:swapsWith (.ListComp elt [⟨tg,iter,ifs,0⟩] scope pos) (Y (.Name x pos')) spos.line X.env=pure true) (hi:PI X tg iter B)
  (Q:∀C s2 H2 fp,PG (blk X M scope own C s2 H2 fp) tg g) (R:∀C s2 H2 fp,PTs (blk X M scope own C s2 H2 fp) ifs tt) (D1:∀C s2 H2 fp,PE (blk X M scope own C s2 H2 fp) elt te)
  (hB:vc X.N M X.env.scope scope own=true:=by rfl) (T:∀x,foldedSetIterable iter X.env x=pure x:=by intro _;rfl) (U:X.fn x=true\/X.env.scope.names.lookup x=Y .local:=by first|exact .inl rfl|exact .inr rfl|assumption) :
  PS X (.Assign [.Name x pos'] (.ListComp elt [⟨tg,iter,ifs,0⟩] scope pos) spos) (HX (tLC own.length B g tt te) (lg i)):=by
 intro z7 s σ H D I h;show wpAny _ _ (exec _ X.env) _ _ s;rw[exec_Assign_Name_used _ _ _ _ l];refine F1 (UY (F1 ?_));rw[arm_evalThenUse_ListComp];refine F1 (thn (ua (use:=Y (assign (.Name x pos') X.env)) (Qf:=λ_ s'=>SP X z7 D .next s') hc hi Q R D1 hB T I h λC E F W k p G Bk K A2 ns q=>?_) λ_ s' A4=>J' (J' A4));obtain⟨m,hn⟩:=p;have I5:=k F.heap (T8.refl _ _);show wpAny _ _ (assign (.Name x pos') X.env (.ref E)) _ _ F;refine Wb (uU (v:=.ref E) I5 D2 j P rfl (λB' r u=>?_) U);obtain⟨a,sb,ha⟩:=u;have w:C≠a:=by
  rcases ha with rfl|ha
  .exact Bk
  .exact λz=>K x a ha z.symm
 refine⟨m,hn.sameBut sb w,λh' y=>⟨_,W,?_,q⟩⟩;have f:∀b o,b≠C->B'.heap.get? b=Y o->h'.get? b=Y o:=λb o A e=>(y.2 b A).trans e
 refine r.call' (s':={B' with heap:=h'}) (ch:=[C]) rfl ?_ ?_ r.bare λb A=>?_
 .refine⟨λb o e _ _ z=>f b o (λq=>z (by rw[q];exact PV.mpr rfl)) e,λb o e _ _ z=>⟨o.slots,f b o (λq=>z (by rw[q];exact PV.mpr rfl)) e⟩,λ_ _ _ n _=>n,λb o e z=>⟨o,f b o (λq=>z (by rw[q];exact PV.mpr rfl)) e⟩,λ_ _ q=>q,λ_ _ _ q=>q,λ_ _ q=>q⟩
 .intro b o e;refine (r.hok b o e).stay (λc v hc q=>f c v ?_ q) (λ_ q=>q) λ_ _ q=>q
  rintro rfl
  rcases hc with z|z
  .subst z;rw[G]at e;cases e
  .rw[G]at z;cases z
 .rw[PV.mp A];exact⟨.inr ns,λz=>Bk z,K,A2⟩
mutual
def IsD(K:N')(H:Hp):L->V->Prop
 |.none,v=>v=.non
 |.bool b,v=>v=.bl b
 |.int i,v=>v=.int i
 |.str x,v=>v=.str x
 |.list ds,v=>∃a xs,v=.ref a/\SqL K H a xs/\fZ K H ds xs
 |.tuple ds,v=>∃a xs,v=.ref a/\SqT K H a xs/\fZ K H ds xs
 |.dict _,_=>False
def fZ(K:N')(H:Hp):J L->J V->Prop
 |[],vs=>vs=[]
 |d::ds,vs=>∃v r,vs=v::r/\IsD K H d v/\fZ K H ds r
end
theorem aA.tupS(e:aA H H')(h:SqT K H a xs):SqT K H' a xs:=by
 rcases h with (h|⟨o,h⟩)|h
 .exact .inl (.inl (e _ _ h))
 .exact .inl (.inr ⟨o,e _ _ h⟩)
 .exact .inr h
mutual
theorem IsD.same{K:N'}{H H':Hp}(e:aA H H'):∀{d:L}{v:V},IsD K H d v->IsD K H' d v
 |.none,_,h=>by unfold IsD at h ⊢;exact h
 |.bool _,_,h=>by unfold IsD at h ⊢;exact h
 |.int _,_,h=>by unfold IsD at h ⊢;exact h
 |.str _,_,h=>by unfold IsD at h ⊢;exact h
 |.list ds,_,h=>by unfold IsD at h ⊢;obtain⟨a,xs,e1,h1,h2⟩:=h;exact⟨a,xs,e1,e.seq h1,fZ.same e h2⟩
 |.tuple ds,_,h=>by unfold IsD at h ⊢;obtain⟨a,xs,e1,h1,h2⟩:=h;exact⟨a,xs,e1,e.tupS h1,fZ.same e h2⟩
 |.dict _,_,h=>by unfold IsD at h;exact h.elim
theorem fZ.same{K:N'}{H H':Hp}(e:aA H H'):∀{ds:J L}{vs:J V},fZ K H ds vs->fZ K H' ds vs
 |[],_,h=>by unfold fZ at h ⊢;exact h
 |d::ds,_,h=>by unfold fZ at h ⊢;obtain⟨v,r,e1,h1,h2⟩:=h;exact⟨v,r,e1,IsD.same e h1,fZ.same e h2⟩
end
section
theorem wu{i:Z}:IsD K H (.int i) (.int i):=by unfold IsD;rfl
theorem GP{b:R0}:IsD K H (.bool b) (.bl b):=by unfold IsD;rfl
theorem G8:IsD K H .none .non:=by unfold IsD;rfl
theorem Iv:IsD K H (.str x) (.str x):=by unfold IsD;rfl
theorem JF(h:SqT K H a xs)(h2:fZ K H ds xs):IsD K H (.tuple ds) (.ref a):=by unfold IsD;exact⟨a,xs,rfl,h,h2⟩
theorem xG(h:SqL K H a xs)(h2:fZ K H ds xs):IsD K H (.list ds) (.ref a):=by unfold IsD;exact⟨a,xs,rfl,h,h2⟩
theorem tP:fZ K H [] []:=by unfold fZ;rfl
theorem vG{d:L}(h:IsD K H d v)(h2:fZ K H ds vs):fZ K H (d::ds) (v::vs):=by unfold fZ;exact⟨v,vs,rfl,h,h2⟩
theorem IsD.ofInt{i:Z}(h:IsD K H (.int i) v):v=.int i:=by unfold IsD at h;exact h
theorem IsD.ofBool{i:R0}(h:IsD K H (.bool i) v):v=.bl i:=by unfold IsD at h;exact h
theorem IsD.ofNone(h:IsD K H .none v):v=.non:=by unfold IsD at h;exact h
theorem IsD.ofStr(h:IsD K H (.str x) v):v=.str x:=by unfold IsD at h;exact h
theorem IsD.ofTup(h:IsD K H (.tuple ds) v):∃a xs,v=.ref a/\SqT K H a xs/\fZ K H ds xs:=by unfold IsD at h;exact h
theorem IsD.ofLst(h:IsD K H (.list ds) v):∃a xs,v=.ref a/\SqL K H a xs/\fZ K H ds xs:=by unfold IsD at h;exact h
theorem fZ.nil_of(h:fZ K H [] vs):vs=[]:=by unfold fZ at h;exact h
theorem fZ.cons_of{d:L}(h:fZ K H (d::ds) vs):∃v r,vs=v::r/\IsD K H d v/\fZ K H ds r:=by unfold fZ at h;exact h
theorem uR:∀(ns:J Z),fZ K H (ns.map EE) (ns.map V.int)
 |[]=>tP
 |_::r=>vG wu (uR r)
end
section
mutual
theorem Inv.reads(I:Inv X z7 σ H s):∀{d:L}{v:V}{u:F'},IsD X.K H d v->RelV v u->∃as,Reads s.heap u d as
 |.none,_,_,h,r=>by rw[h.ofNone]at r;cases r;exact⟨_,.none⟩
 |.bool _,_,_,h,r=>by rw[h.ofBool]at r;cases r;exact⟨_,.bool _⟩
 |.int _,_,_,h,r=>by rw[h.ofInt]at r;obtain⟨t,rfl⟩:=r;exact⟨_,.int _ _⟩
 |.str _,_,_,h,r=>by rw[h.ofStr]at r;obtain⟨t,rfl⟩:=r;exact⟨_,.str _ _⟩
 |.list ds,_,_,h,r=>by obtain⟨a,xs,e,h1,h2⟩:=h.ofLst;subst e;cases r;obtain⟨b,f,⟨o,n,g,c,_,d⟩,_⟩:=I.list h1;obtain⟨as,i⟩:=Inv.readsAll I h2 f;exact⟨_,.list g c d (by simpa using i)⟩
 |.tuple ds,_,_,h,r=>by obtain⟨a,xs,e,h1,h2⟩:=h.ofTup;subst e;cases r;obtain⟨b,f,⟨o,g,c,n,d⟩,_⟩:=I.tuple h1;obtain⟨as,i⟩:=Inv.readsAll I h2 f;exact⟨_,.tuple g c d (by simpa using i)⟩
 |.dict _,_,_,h,_=>by unfold IsD at h;exact h.elim
theorem Inv.readsAll(I:Inv X z7 σ H s):∀{ds:J L}{vs:J V}{us:J F'},fZ X.K H ds vs->Vals vs us->∃as,ReadsAll s.heap us ds as
 |[],_,_,h,r=>by rw[h.nil_of]at r;cases r;exact⟨_,.nil⟩
 |d::ds,_,_,h,r=>by
  obtain⟨v,t,e,h1,h2⟩:=h.cons_of;subst e;cases r with
  |cons r1 r2 =>obtain⟨as,a⟩:=Inv.reads I h1 r1;obtain⟨bs,b⟩:=Inv.readsAll I h2 r2;exact⟨_,.cons a b⟩
end
open PySem.SeqAt in
theorem AD(a:X.A.units+64<cLine):OpR X (compareOp .Eq) (λx y H Q=>∃d e,IsD X.K H d x/\IsD X.K H e y/\shaped d=true/\shaped e=true/\Q (.bl (SX d e)) H):=by intro z7 s σ H x y v u Q I b c h;obtain⟨d,e,hd,f,g,i,q⟩:=h;obtain⟨as,j⟩:=I.reads hd b;obtain⟨bs,l⟩:=I.reads f c;exact eq_dataH j l g i a ⟨.bl _,H,I,rfl,q⟩
open PySem.SeqAt in
theorem Nl(a:X.A.units+64<cLine):OpR X (compareOp .NotEq) (λx y H Q=>∃d e,IsD X.K H d x/\IsD X.K H e y/\shaped d=true/\shaped e=true/\Q (.bl (!SX d e)) H):=by intro z7 s σ H x y v u Q I b c h;obtain⟨d,e,hd,f,g,i,q⟩:=h;obtain⟨as,j⟩:=I.reads hd b;obtain⟨bs,l⟩:=I.reads f c;exact ne_dataH j l g i a ⟨.bl _,H,I,rfl,q⟩
noncomputable def tyD:L->U2
 |.none=>"NoneType"
 |.bool _=>"bool"
 |.int _=>"int"
 |.str _=>"str"
 |.list _=>"list"
 |.tuple _=>"tuple"
 |.dict _=>"dict"
def wI(d:L)(T:U2):Bool:=tyD d==T||(T=="int"&&tyD d=="bool")
theorem Kt(K:N'){a T:U2}(ha:a∈["NoneType", "bool", "int", "str", "list", "tuple"])(b:T∈["bool", "int", "list", "tuple"]) :
  W.kitOne K (.type a) (.type T)=Y (a==T||(T=="int"&&a=="bool")):=by
 dsimp[P8,Q9,Tp]at ha b;rcases ha with rfl|rfl|rfl|rfl|rfl|rfl <;> rcases b with rfl|rfl|rfl|rfl <;> rfl
theorem Kq{d:L}(h:IsD K H d v):tyD d∈["NoneType", "bool", "int", "str", "list", "tuple"]:=by
 cases d with
 |dict _=>unfold IsD at h;exact h.elim
 |_=>simp[tyD]
theorem ye:kP X (.builtin "isinstance") (λxs H Q=>∃d v T,xs=[v,.ty T]/\IsD X.K H d v/\T∈["bool", "int", "list", "tuple"]/\Q (.bl (wI d T)) H):=by
 intro z7 s σ H xs us Q I r h;obtain⟨d,v,T,rfl,hd,l,q⟩:=h;obtain⟨u,c,rfl,f,m⟩:=vals2 r;cases m;have e:W.kitOne X.K (.type (tyD d)) (.type T)=Y (wI d T):=Kt X.K (Kq hd) l;have fin:∀tk,EP X z7 σ Q (.bool (wI d T)) {s with toks:=tk}:=λtk=>⟨.bl _,H,I.tok tk,rfl,q⟩
 cases d with
 |none=>rw[hd.ofNone]at f;cases f;exact V4 W.kitx_none I.kIn TX e (λz=>nomatch z) fin
 |bool b=>rw[hd.ofBool]at f;cases f;exact V4 W.kitx_bool I.kIn TX e (λz=>nomatch z) fin
 |int i=>rw[hd.ofInt]at f;obtain⟨t,rfl⟩:=f;exact V4 W.kitx_int I.kIn TX e (λz=>nomatch z) fin
 |str x=>rw[hd.ofStr]at f;obtain⟨t,rfl⟩:=f;exact V4 W.kitx_str I.kIn TX e (λz=>nomatch z) fin
 |list ds =>obtain⟨a,xs,e1,h1,h2⟩:=hd.ofLst;subst e1;cases f;obtain⟨j,p,⟨o,n,g,c,_,_⟩,_⟩:=I.list h1;exact V4 W.kitx_list I.kIn ⟨o,g,c⟩ e (λz=>nomatch z) fin
 |tuple ds =>obtain⟨a,xs,e1,h1,h2⟩:=hd.ofTup;subst e1;cases f;obtain⟨j,p,⟨o,g,c,n,_⟩,_⟩:=I.tuple h1;exact V4 W.kitx_tuple I.kIn ⟨o,g,c⟩ e (λz=>nomatch z) fin
 |dict _=>unfold IsD at hd;exact hd.elim
theorem sf:∀{bs:J R0}{us:J F'},Vals (bs.map V.bl) us->LSm.BoolsAre us bs
 |[],_,.nil=>.nil
 |b::r,_,.cons h t=>by cases (show _=Va b from h);exact .cons b (sf t)
theorem Hq(hc:X.calm=true):kP X (.builtin "all") (λxs H Q=>∃(a:HL)(bs:J R0),xs=[.ref a]/\SqL X.K H a (bs.map V.bl)/\Q (.bl (bs.all id)) H):=by
 intro z7 s σ H xs us Q I r h;obtain⟨a,bs,rfl,l,q⟩:=h;obtain⟨u,rfl,m⟩:=vals1 r;cases m;obtain⟨c,n,p,_⟩:=I.list l;have hl:=p.isList;have g:=sf n;have f:a<s.heap.objs.size:=by obtain⟨_,e,_⟩:=hl;exact Q0 e
 refine call_all_walk (Um hl ?_);refine⟨s.heap.objs.size,[s.heap.objs.size,a],[s.heap.objs.size],c.toArray.size,_,_,λi=>(bs[i]?).getD true,rfl,Vi (A:=X.A.in1) (I.ok.hd hc) _ a (Q4 f) c.toArray,
  ⟨⟨_,PY _ rfl,rfl,rfl⟩,hl.push _⟩,λi v s' Q' E' o j=>?_,λh' tk w=>?_⟩
 .obtain⟨b,e,rfl⟩:=g.get i v (by simpa using o);dsimp[e,WT]at j;exact SY j
 .have e:((LN c.toArray.size).all λi=>(bs[i]?).getD true)=bs.all id:=by rw[PX,g.length];exact LSm.range_all bs
  rw[e];exact⟨.bl _,H,I.kept (LSm.kept_iter w),rfl,q⟩
theorem GJ(hc:X.calm=true):kP X (.builtin "sum") (λxs H Q=>∃(a:HL)(ns:J Z),xs=[.ref a]/\SqL X.K H a (ns.map V.int)/\Q (.int ns.sum) H):=by
 intro z7 s σ H xs us Q I r h;obtain⟨a,ns,rfl,f,q⟩:=h;obtain⟨u,rfl,g⟩:=vals1 r;cases g;obtain⟨b,i,p,_⟩:=I.list f;have hi:Ts b ns:=intsAre_of i;obtain⟨xs,e⟩:=hi.allInts.items;have c:s.heap.IsList a (intItems xs):=e▸p.isList;refine sum_intListG (I.ok.hd hc) c λh' tk t' j=>?_
 have e1:ns=xs.toList.map (·.1):=by rw[<-VO,<-e];exact (show numsOf b.toArray.toList=ns from hi.numsOf).symm
 have e2:preSum (numAt xs) xs.size=ns.sum:=by rw[preSum_eq,RR #[2],e1]
 rw[e2];exact⟨.int _,H,I.kept j,⟨_,rfl⟩,q⟩
end
structure Pc(P:SQ)(w:T1)(outer:J WH)(H:Hp)(s:K')(H':Hp)(B:Sy)(ea:HL)(cls a0:F')(s':K'):Prop where
 os:s'.os=s.os
 bare:UD s'.gens
 hok:HOk P w H' B
 keep:∀b o,s.heap.get? b=Y o->H b=S->b∉frs outer->B.get? b=Y o
 there:∀b o,s.heap.get? b=Y o->b∉frs outer->∃o',B.get? b=Y o'
 slot:∀b o,s.heap.get? b=Y o->b∈frs outer->∃sl,s'.heap.get? b=Y {o with slots:=sl}
 free:∀b o,s.heap.get? b=Y o->H b=S->H' b=S
 tups:∀b xs,H b=Y (.tup xs)->H' b=Y (.tup xs)
 frzs:∀b o u,H b=Y (.frz o u)->H' b=Y (.frz o u)
 tbls:∀b q,H b=Y (.tbl q)->H' b=Y (.tbl q)
 fly:Sy.FlyingW B outer ea cls a0 s'.heap
def CXW(P:SQ)(w:T1):CXT:=λouter H s E e s'=>∃ea cls a0 H' B,e=.ref ea/\E cls S H'/\Pc P w outer H s H' B ea cls a0 s'
section
variable {f:HL}{A:Ss}
theorem yT{B':HL}(a:env.frame=Y B'):frs (env::outer)=B'::frs outer:=by unfold frs;rw[RB,a]
theorem yH{CX:CXT}{g:K'}{ea:HL}{cls:F'}{vs:J F'}
  (I:Inv (d8 (CXW P w) P w K mg base N qual scope f cd A outer s H E) z7 σ H1 g) (p:XA g.heap h' ea cls vs) (r:E cls S H1) :
  (d8 (CXW P w) P w K mg base N qual scope f cd A outer s H E).xe (.ref ea) {g with heap:=h'}:=by
 have i:=I.stack;have j:frs (d8 (CXW P w) P w K mg base N qual scope f cd A outer s H E).stack=s.heap.objs.size::frs outer:=yT rfl;have l:∀env∈(d8 (CXW P w) P w K mg base N qual scope f cd A outer s H E).stack,∀b,env.frame=Y b->b∈frs (d8 (CXW P w) P w K mg base N qual scope f cd A outer s H E).stack:=λenv v b c=>S7.mpr ⟨env,v,c⟩
 have out:∀b o,s.heap.get? b=Y o->b∉frs outer->b∉frs (d8 (CXW P w) P w K mg base N qual scope f cd A outer s H E).stack:=λb o e n z=>by
  rw[j]at z;rcases P8.mp z with z|z
  .rw[z]at e;exact So (Q0 e) (R7 _)
  .exact n z
 refine wpAny_leaves_madeW (base:=W.hideAll g.heap (frs (d8 (CXW P w) P w K mg base N qual scope f cd A outer s H E).stack)) I.ok.frames rfl (λb o q=>XW _ q) (W.funFrames_hide i l) p λh2 t x1 x2 x3 x4=>?_
 refine⟨ea,cls,.ref t,H1,_,rfl,r,⟨I.os,I.bare,?_,?_,?_,?_,?_,I.base.tups,I.base.frzs,I.base.tbls,x1⟩⟩
 .intro a o e;refine (I.hok a o e).stay (λb u c q=>UX _ q λz=>?_) (λ_ q=>q) λ_ _ q=>q
  have:=I.stkFree b z;rcases c with c|c
  .rw[c,e]at this;cases this
  .rw[c]at this;cases this
 .intro b o e n c;exact UX _ (I.base.keep b o e n c (Q9)) (out b o e c)
 .intro b o e c;obtain⟨o',q⟩:=I.base.there b o e (Q9);exact⟨o',UX _ q (out b o e c)⟩
 .intro b o e c;obtain⟨sl,q⟩:=I.base.slot b o e (I.ok.frf b c) c (Q9);obtain⟨_,x,h,d2⟩:=I.ok.funs.mem c;have h:s.heap.get? b=Y x:=h;rw[e]at h;cases h;obtain⟨m,y⟩:=x4 b _ (p.keeps b _ q) d2;exact⟨m,y⟩
 .intro b o e n;exact I.base.free b o e n (Q9)
theorem JX:Passes (CXW P w) (d8 (CXW P w) P w K mg base N qual scope f cd A outer s H E) E:=by
 intro z7 σ H1 s1 e s2 I hc;obtain⟨ea,cls,a0,H2,B,rfl,i,F⟩:=hc;have c:frs (d8 (CXW P w) P w K mg base N qual scope f cd A outer s H E).stack=s.heap.objs.size::frs outer:=yT rfl;have out:∀b o,s.heap.get? b=Y o->b∉frs outer->b∉frs (d8 (CXW P w) P w K mg base N qual scope f cd A outer s H E).stack:=λb o e n z=>by
  rw[c]at z;rcases P8.mp z with z|z
  .rw[z]at e;exact So (Q0 e) (R7 _)
  .exact n z
 refine wpAny_leaves_onW I.ok.frames rfl F.fly λh2 x1 x2=>⟨ea,cls,a0,H2,B,rfl,i,⟨F.os.trans I.os,F.bare,F.hok,?_,?_,?_,?_,?_,?_,?_,x1⟩⟩
 .intro b o e n a;exact F.keep b o (I.base.keep b o e n a (Q9)) (I.base.free b o e n (Q9)) (out b o e a)
 .intro b o e a;obtain⟨o',q⟩:=I.base.there b o e (Q9);exact F.there b o' q (out b o e a)
 .intro b o e a;obtain⟨sl,q⟩:=I.base.slot b o e (I.ok.frf b a) a (Q9);obtain⟨_,j,g,d2⟩:=I.ok.funs.mem a;have g:s.heap.get? b=Y j:=g;rw[e]at g;cases g;obtain⟨sl1,l⟩:=F.slot b _ q (by rw[c];exact P4 _ a);obtain⟨h,m⟩:=x2 b _ l d2;exact⟨h,m⟩
 .intro b o e n;obtain⟨o',q⟩:=I.base.there b o e (Q9);exact F.free b o' q (I.base.free b o e n (Q9))
 .intro b xs e;exact F.tups b xs (I.base.tups b xs e)
 .intro b o u e;exact F.frzs b o u (I.base.frzs b o u e)
 .intro b ps e;exact F.tbls b ps (I.base.tbls b ps e)
end
theorem II{a:J F'}(X:K.In h)(q:Xl K C a newId=true) :
  ∃bm N nm r bs hdct sn sub ab col dd k0 k1 k2 k3 k5 mN,h.get? C=Y (excClassObj nm r C N bs bm hdct sn sub ab col dd k0 k1 k2 k3 k5 newId)/\h.Ns N mN/\mN "__init__"=S/\OwnTail h a bm:=by
 unfold Xl at q;split at q
 .rename_i d1 c1 l1 g1;split at q
  .rename_i C2 b g i j m n2 n hm s;dsimp[P9,TB,Sd]at q;obtain⟨⟨⟨⟨⟨u,v⟩,o⟩,w⟩,c⟩,p⟩:=q;subst u;subst v;obtain⟨z1,z2,z3,x,y,z,A,B,D,e,z11⟩:=c1;dsimp only at hm o c p;subst hm;subst o;have hl:l1=#[g,i,j,m,Y (.builtin n2),n]:=by obtain⟨l⟩:=l1;have f:l=_:=s;rw[f]
   subst hl;exact⟨b,x,z1,y,z2,z,A,B,D,e,d1,g,i,j,m,n,_,X _ _ g1,.of_isNs (W.isNs_of_in X c),W.nsMap_none_of_in X c p,W.tail_of_in X w⟩
  .cases q
 .cases q
def Bf(X:Cx)(E:XK):Prop:=∀(z7:J (HL×Tt))(σ:St)(H:Hp)(s:K')(h':Sy)(ea:HL)(cls:F')(vs:J F'),Inv X z7 σ H s->XA s.heap h' ea cls vs->E cls S H->X.xe (.ref ea) {s with heap:=h'}
def MA(C:HL)(E:XK)(t:TA):TS:=λ_ σ H=>t σ H λvs H1=>vs.length<=sizeLine/\E (.ref C) S H1
theorem Gb{B a:U2}{bm:J F'}{m:Vp}{t:TA}(hc:X.calm=true)(M:Bf X E)(FB:ExcBaseFacts B newId a bm)(n:Gl X x)(hm:X.mg x=Y (.ref C))(o:Xl X.K C bm newId=true)
  (ha:PA X (e::es) t) (c:(x==("__debug__":M'))=false:=by decide) (j:starEach (e::es) X.env=(false,eval e X.env)::starEach es X.env:=by rfl) (f:(backTo cpos (starEach es X.env)).any (·.1)=false:=by rfl) :
  PS X (.Raise (Y (.Call (.Name x m) (e::es) [] cpos)) S pos) (MA C E t):=by
 intro z7 s σ H D I h;obtain⟨tl,N,nm,q,bs,hdct,sn,sub,ab,col,dd,k0,k1,k2,k3,k5,mN,g,p,i,T⟩:=II I.mod.kin o;refine wpAny_Raise_call_subT (C:=C) (nm:=nm) (q:=q) (N:=N) (bs:=bs) (bm:=tl) (hdct:=hdct) (sn:=sn) (sub:=sub) (ab:=ab) (col:=col) (dd:=dd) (k0:=k0) (k1:=k1) (k2:=k2) (k3:=k3) (k5:=k5)
  FB (mN:=mN) (T.hasType FB.hasBase) (I.ok.hd hc) (by rw[j];show (false||(backTo cpos (starEach es X.env)).any (·.1))=false;rw[f];rfl) i (qW I n hm ⟨rfl,?_⟩ c)
 have l:=ha cpos z7 s σ H _ I h;rw[j]at l ⊢;refine U7 (SW l (λus s2 h2=>?_) λ_ _ y=>y);obtain⟨vs,H2,b,r,z,u⟩:=h2;exact⟨rfl,by rw[<-r.length];exact z,b.bk _ _ g,p.keeps b.bk,T.keeps b.bk,λh' ea v=>M z7 σ H2 s2 h' ea _ _ b v u⟩
theorem je(h:H D=S):aA H (upd H D o):=λb u e=>by rw[aE (aR e h)];exact e
theorem aA.put(s:aA H H')(h:H D=S):aA H (upd H' D o):=λb u e=>by rw[aE (aR e h)];exact s b u e
mutual
def fW:L->R0
 |.list _=>false
 |.tuple ds=>mL ds
 |.dict _=>false
 |_=>true
def mL:J L->R0
 |[]=>true
 |d::ds=>fW d&&mL ds
end
theorem set_own(σ:St)(x:D' V)(v:V)(a:St)(h:a.length=1):(σ++a).set σ.length (Y v)=σ++[Y v]:=by obtain⟨y,rfl⟩:=J.length_eq_one_iff.mp h;simp
structure Rows(H H':Hp)(D:HL)(qs:J HL)(rs:J (J Z)):Prop where
 d:H' D=Y (.lst (qs.map V.ref))
 len:qs.length=rs.length
 at':∀(i:O) q r,qs[i]?=Y q->rs[i]?=Y r->H' q=Y (.lst (r.map V.int))
 new:∀q∈qs,H q=S
 nd:qs.Nodup
 nD:D∉qs
section
variable {A:Ss}{E:F'->K'->Prop}
theorem AW{t:HL}{a:SN F'}{x:F'}(hi:s.heap.IsTupleIter it t i)(e:s.heap.IsTuple t a)(f:a[i]?=Y x)
  (g:∀h',h'.IsTupleIter it t (i+1)->T8 it s.heap h'->Q x {s with heap:=h'}):wpAny (model prog w) A (SO (.ref it)) Q E s:=by
 obtain⟨oi,c,h,b⟩:=id hi;obtain⟨ot,j,_,nt,l⟩:=e;unfold SO;refine F1 (T5 (name:=SV "__next__") hi.typeIs Tq (TM Tq hi.typeIs UE ?_ (Uz _)));refine F1 (m:=field (.ref it) 0) (S' c b (x:=.ref t) rfl ?_);show wpAny (model prog w) _ (if (Sz t==TV)=true then _ else _) _ _ s;have n:¬ (Sz t==TV)=true:=λq=>Q1 q
 rw[GC n];refine F1 (m:=field (.ref it) 1) (S' c b (x:=.int i 0) rfl ?_);refine F1 (m:=seqItems? (.ref t)) (SS j l ?_);dsimp[Qp,f];refine F1 (XB c b #[2] (J' ⟨x,rfl,J' (g _ ⟨_,Rv _ c (Tt.isFreed_of_fields (W3 b _)),(Tt.cls_mapFields ..).trans h,?_⟩ (Ud ..))⟩));rw[W3 b];simp[rawInt]
theorem tM{t:HL}{c:SN F'}(h:A.handled=S)(hi:s.heap.IsTupleIter it t i)(j:s.heap.IsTuple t c)(l:c[i]?=S)
  (n:∀h' e,Sy.ExtBut it s.heap h'->(∃o,h'.get? e=Y o/\o.cls=.type "StopIteration")->E (.ref e) {s with heap:=h'}):wpAny (model prog w) A (SO (.ref it)) Q E s:=by
 obtain⟨oi,f,ci,g⟩:=id hi;obtain⟨ot,p,_,nt,r⟩:=j;unfold SO;refine F1 (T5 (name:=SV "__next__") hi.typeIs Tq (TM Tq hi.typeIs UE ?_ (Uz _)));refine F1 (m:=field (.ref it) 0) (S' f g (x:=.ref t) rfl ?_);show wpAny (model prog w) _ (if (Sz t==TV)=true then _ else _) _ _ s;have u:¬ (Sz t==TV)=true:=λq=>Q1 q
 rw[GC u];refine F1 (m:=field (.ref it) 1) (S' f g (x:=.int i 0) rfl ?_);refine F1 (m:=seqItems? (.ref t)) (SS p r ?_);dsimp[Qp,l];refine F1 (UL (F1 (XB f g #[2] ?_)));refine F1 (m:=newExc (.type "StopIteration") []) ?_;unfold newExc newTuple;refine F1 (T9 ?_ (by size_fits ));refine F1 (m:=firstArgMember _ _) (X5 (a:=TV) (by first|rfl|(unfold firstArgMember;rfl)) ?_);refine T9 ?_ (by size_fits );unfold raiseNew;refine F1 (wpAny_handled ?_)
 first|rw[show A.in1.handled=S from h]|rw[h]
 refine F1 (J' (wpAny_throw ?_));refine n _ _ (λb o v e=>?_) ⟨_,PY _ rfl,rfl⟩;exact P5 _ (P5 _ ((QI _ _ (Uh v)).trans e))
theorem oX(j:A.handled=S)(it t:HL)(c:t≠it)(a:SN F'):Ws prog w A it [it,t] a.size (λi v=>a[i]?=Y v) (λi h=>h.IsTupleIter it t i/\h.IsTuple t a) where
 live:=λ_ _ st=>by obtain⟨⟨o,g,_⟩,_⟩:=st;exact⟨o,g⟩
 frame:=λ_ _ _ st k=>by obtain⟨⟨o,g,r⟩,⟨b,g2,e⟩⟩:=st;exact⟨⟨o,k it #[2] o g,r⟩,⟨b,k t #[2] b g2,e⟩⟩
 item:=λi s Q E hi st l=>AW st.1 st.2 (x:=a[i]) (by simp[hi]) λh' i' f=>by refine l _ h' s.toks (by simp[hi]) ⟨i',?_⟩ f;obtain⟨b,g2,e⟩:=st.2;exact⟨b,(f.2 t c).trans g2,e⟩
 done:=λs Q E st m=>tM j st.1 st.2 #[2] m
end
structure pG(z TI TO i1 i2:HL)(f1 f2:J HL):Prop where
 TIz:TI≠z
 TOz:TO≠z
 z1:i1≠z
 z2:i2≠z
 TIO:TI≠TO
 TI1:TI≠i1
 TI2:TI≠i2
 TO1:TO≠i1
 TO2:TO≠i2
 i12:i1≠i2
 a1:∀b∈f1,b≠z/\b≠TO/\b≠i2
 a2:∀b∈f2,b≠z/\b≠TO/\b≠i1
section
variable {A:Ss}{E:F'->K'->Prop}{z TI TO i1 i2:HL}{f1 f2:J HL}{n1 n2 k:O}{P1 P2:O->F'->Prop}{S1 S2:O->Sy->Prop}{a b:F'}
theorem E4(n:Ws prog w A i1 f1 n1 P1 S1)(p:Ws prog w A i2 f2 n2 P2 S2)(A4:pG z TI TO i1 i2 f1 f2)(h:UU s.heap z TI TO .none)(A2:TN s.heap TI (.ref i1) (.ref i2))(hO:TN s.heap TO a b)
  (D:S1 k s.heap) (F:S2 k s.heap) (k1:k<n1) (k2:k<n2)
  (hQ:∀h' x y tk,P1 k x->P2 k y->UU h' z TI TO (rawInt s.heap.objs.size)->TN h' TO x y->S1 (k+1) h'->S2 (k+1) h'->TN h' s.heap.objs.size x y ->
   (∀c o,c≠z->c≠TO->c≠i1->c≠i2->s.heap.get? c=Y o->h'.get? c=Y o)->Q (.ref s.heap.objs.size) {s with heap:=h',toks:=tk}) :
  wpAny (model prog w) A (Rf.«zip.__next__» ⟨[.ref z],[]⟩) (λfin s'=>∃v,fin=.done (.ret v)/\Q v s') E s:=by
 refine F1 (m:=field (.ref z) 2) (S' h rfl (x:=.bool false) rfl ?_);refine F1 (m:=field (.ref z) 3) (S' h rfl (x:=.ref TI) rfl ?_);refine F1 (SS A2 rfl ?_);refine F1 (m:=T2 (.ref z)) ?_;unfold T2;refine F1 (S' h rfl (x:=.none) rfl (J' ?_));rw[FC (by rfl)];refine F1 (UL (F1 (S' h rfl (x:=.ref TO) rfl (F1 (T' h #[2] λg1 G e1=>?_)))));have G:UU g1 z TI TO .ellipsis:=G;refine F1 ?_;dsimp[WU,Xc,RG,XC];refine F1 (F1 (VP (F1 (m:=SO (.ref i1)) ?_)));have u1:S1 k g1:=n.frame _ _ _ D λb f o e=>(e1.2 b (A4.a1 b f).1).trans e
 refine n.item k {s with heap:=g1} _ _ k1 u1 λx g2 D2 px v1 e2=>J' ?_
 have P:TN g2 TO a b:=(e2.2 TO A4.TO1).trans ((e1.2 TO A4.TOz).trans hO);refine F1 (SS (s:={s with heap:=g2,toks:=D2}) P rfl (F1 (Vw P λH I i=>?_)));have I:TN H TO x b:=I;refine F1 (Tz (J' (F1 (F1 (VP (F1 (m:=SO (.ref i2)) ?_))))));have u2:S2 k H:=p.frame _ _ _ F λb f o e=>(i.2 b (A4.a2 b f).2.1).trans ((e2.2 b (A4.a2 b f).2.2).trans ((e1.2 b (A4.a2 b f).1).trans e))
 refine p.item k {s with heap:=H,toks:=D2} _ _ k2 u2 λy R Bk py v2 j=>J' ?_
 have D1:TN R TO x b:=(j.2 TO A4.TO2).trans I;refine F1 (SS (s:={s with heap:=R,toks:=Bk}) D1 rfl (F1 (Vw D1 λg q l=>?_)));have q:TN g TO x y:=q;refine F1 (Tz (J' (J' (F1 (SS (s:={s with heap:=g,toks:=Bk}) q rfl (F1 (wpAny_newTuple ?_)))))));have sz:g.objs.size=s.heap.objs.size:=by rw[l.1,j.1,i.1,e2.1,e1.1]
 have T:UU g z TI TO .ellipsis:=(l.2 z A4.TOz.symm).trans ((j.2 z A4.z2.symm).trans ((i.2 z A4.TOz.symm).trans ((e2.2 z A4.z1.symm).trans G)));have K:∀c o,c≠z->c≠TO->c≠i1->c≠i2->s.heap.get? c=Y o->g.get? c=Y o:=λc o c1 r B' M e =>
  (l.2 c r).trans ((j.2 c M).trans ((i.2 c r).trans ((e2.2 c B').trans ((e1.2 c c1).trans e))))
 have w1:S1 (k+1) g:=n.frame _ _ _ v1 λb f o e=>(l.2 b (A4.a1 b f).2.1).trans ((j.2 b (A4.a1 b f).2.2).trans ((i.2 b (A4.a1 b f).2.1).trans e))
 have w2:S2 (k+1) g:=p.frame _ _ _ v2 λb f o e=>(l.2 b (A4.a2 b f).2.1).trans e
 have zl:z<g.objs.size:=Q0 T;refine F1 (m:=Ue (.ref z) (.ref g.objs.size)) ?_;unfold Ue;have y6:UU (g.push {cls:=.type "tuple",data:=.seq #[x,y]}) z TI TO .ellipsis:=P5 _ T;refine F1 (T' y6 #[2] λg7 N U=>?_);have N:UU g7 z TI TO (rawInt g.objs.size):=N;refine T' N #[2] λu B W=>?_
 have B:UU u z TI TO (rawInt g.objs.size):=B;have C:∀c o,c≠z->g.get? c=Y o->u.get? c=Y o:=λc o c1 e=>(W.2 c c1).trans ((U.2 c c1).trans (P5 _ e))
 have X:TN u g.objs.size x y:=(W.2 _ (QT zl)).trans ((U.2 _ (QT zl)).trans (PY _ rfl));refine J' ⟨_,rfl,?_⟩;rw[sz]at B X;show Q (.ref g.objs.size) _;rw[sz];exact hQ u x y Bk px py B (C _ _ A4.TOz q) (n.frame _ _ _ w1 λb f o e=>C b o (A4.a1 b f).1 e) (p.frame _ _ _ w2 λb f o e=>C b o (A4.a2 b f).1 e) X λc o c1 r B' M e=>C c o c1 (K c o c1 r B' M e)
theorem HH(j:Ws prog w A i1 f1 n1 P1 S1)(A4:pG z TI TO i1 i2 f1 f2){Q:Fin->K'->Prop}(f:UU s.heap z TI TO .none)(r:TN s.heap TI (.ref i1) (.ref i2))(hO:TN s.heap TO a b)(g:S1 n1 s.heap)
  (u:∀h' e,(∀c o,c≠z->c≠TO->c≠i1->c≠i2->s.heap.get? c=Y o->h'.get? c=Y o)->(∃o,h'.get? e=Y o/\o.cls=.type "StopIteration")->E (.ref e) {s with heap:=h'}) :
  wpAny (model prog w) A (Rf.«zip.__next__» ⟨[.ref z],[]⟩) Q E s:=by
 refine F1 (m:=field (.ref z) 2) (S' f rfl (x:=.bool false) rfl ?_);refine F1 (m:=field (.ref z) 3) (S' f rfl (x:=.ref TI) rfl ?_);refine F1 (SS r rfl ?_);refine F1 (m:=T2 (.ref z)) ?_;unfold T2;refine F1 (S' f rfl (x:=.none) rfl (J' ?_));rw[FC (by rfl)];refine F1 (UL (F1 (S' f rfl (x:=.ref TO) rfl (F1 (T' f #[2] λg1 h e1=>?_)))));have h:UU g1 z TI TO .ellipsis:=h;refine F1 ?_;dsimp[WU,Xc,RG,XC];refine F1 (F1 (VP (F1 (m:=SO (.ref i1)) ?_)));have u1:S1 n1 g1:=j.frame _ _ _ g λb v o e=>(e1.2 b (A4.a1 b v).1).trans e
 refine j.done {s with heap:=g1} _ _ u1 λg2 e x2 y=>?_
 obtain⟨oe,ge,l⟩:=y;have n:UU g2 z TI TO .ellipsis:=x2 _ _ A4.z1.symm h;have i:e≠z:=λq=>by subst q;rw[n]at ge;cases ge;simp at l
 refine T' n #[2] λB _ p=>u B e (λc o c1 _ C _ q=>(p.2 c c1).trans (x2 _ _ C ((e1.2 c c1).trans q))) ⟨oe,(p.2 e i).trans ge,l⟩
theorem AO(i:Ws prog w A.in1 i1 f1 n1 P1 S1)(j:Ws prog w A.in1 i2 f2 n2 P2 S2)(A4:pG z TI TO i1 i2 f1 f2){Q:D' F'->K'->Prop}(g:UU s.heap z TI TO .none)(l:TN s.heap TI (.ref i1) (.ref i2))(m:TN s.heap TO a b)
  (e:S1 k s.heap) (f:S2 k s.heap) (k1:k<n1) (k2:k<n2)
  (n:∀h' x y tk,P1 k x->P2 k y->UU h' z TI TO (rawInt s.heap.objs.size)->TN h' TO x y->S1 (k+1) h'->S2 (k+1) h'->TN h' s.heap.objs.size x y ->
   (∀c o,c≠z->c≠TO->c≠i1->c≠i2->s.heap.get? c=Y o->h'.get? c=Y o)->Q (Y (.ref s.heap.objs.size)) {s with heap:=h',toks:=tk}):wpAny (model prog w) A (pyNext (.ref z)) Q E s:=by
 have h:s.TypeIs (.ref z) "zip":=⟨_,g,rfl⟩
 unfold pyNext;refine F1 (wpAny_attempt (T5 (name:=SV "__next__") h UA (TM UA h WV (E4 i j A4 g l m e f k1 k2 λh' x y tk p1 p2 c1 p q r u v=>?_) (Wt _))));exact J' (n h' x y tk p1 p2 c1 p q r u v)
theorem rG(i:Ws prog w A.in1 i1 f1 n1 P1 S1)(A4:pG z TI TO i1 i2 f1 f2){Q:D' F'->K'->Prop}(g:UU s.heap z TI TO .none)(j:TN s.heap TI (.ref i1) (.ref i2))(l:TN s.heap TO a b)(f:S1 n1 s.heap)
  (m:∀h',(∀c o,c≠z->c≠TO->c≠i1->c≠i2->s.heap.get? c=Y o->h'.get? c=Y o)->Q S {s with heap:=h'}):wpAny (model prog w) A (pyNext (.ref z)) Q E s:=by
 have h:s.TypeIs (.ref z) "zip":=⟨_,g,rfl⟩
 unfold pyNext;refine F1 (wpAny_attempt (T5 (name:=SV "__next__") h UA (TM UA h WV (HH i A4 g j l f λh' e k0 n=>?_) (Wt _))));obtain⟨o,p,hc⟩:=n;exact F1 (wpAny_isInstance (T:="StopIteration") (b:=true) ⟨o,p,hc⟩ isSubtype_stop (J' (m _ k0)))
abbrev zH1(h:Sy)(t:HL):Heap:=h.push {cls:=.type "tuple_iterator",data:=.fields #[.ref t,.int 0 0]}
abbrev zH2(h:Sy)(t l:HL):Heap:=(zH1 h t).push {cls:=.type "list_iterator",data:=.fields #[.ref l,.int 0 0]}
abbrev zH3(h:Sy)(t l:HL):Heap:=(zH2 h t l).push {cls:=.type "tuple",data:=.seq #[.ref h.objs.size,.ref (zH1 h t).objs.size]}
abbrev zH4(h:Sy)(t l:HL):Heap:=(zH3 h t l).push {cls:=.type "tuple",data:=.seq #[.none,.none]}
abbrev zH5(h:Sy)(t l:HL):Heap:=(zH4 h t l).push {cls:=.type "zip",data:=.fields #[.none,.bool false,.bool false,.ref (zH2 h t l).objs.size,.ref (zH3 h t l).objs.size]}
theorem Ab(t l:HL)(xs ys:SN F'):XT (Rf.«zip.__new__» ⟨[.type "zip",.ref t,.ref l],[]⟩) (λ_ R s=>s.heap.IsTuple t xs/\s.heap.IsList l ys/\R (.ok (.ret (.ref (zH4 s.heap t l).objs.size))) {s with heap:=zH5 s.heap t l}) :=
 .of_wp λprog w A R s h=>by
  obtain⟨c,g,d,tk,os⟩:=s;obtain⟨e,hl,h⟩:=h;have sb:isSubtype (.type "zip") (.type "zip")=pure true:=by rw[Vx];kernel_rfl
  have a:Y1 (Vy ⟨c,g,d,tk,os⟩) t xs:=e;have b:Sy.IsList (Vy ⟨c.push {cls:=.type "tuple_iterator",data:=.fields #[.ref t,.int 0 0]},g,d,tk,os⟩) l ys:=Sy.IsList.push hl _
  wp_walk using Tn a,Um b
  exact⟨_,rfl,h⟩
theorem By{t l:HL}{xs ys:SN F'}(a:s.heap.IsTuple t xs)(hl:s.heap.IsList l ys)(h:Q (.ref (zH4 s.heap t l).objs.size) {s with heap:=zH5 s.heap t l}) :
  wpAny (model prog w) A (call (.type "zip") [.ref t,.ref l]) Q E s:=by
 refine callType_new F.called_zip #[1] (F.typeCall_zip_2 _ _) (F.newCall_zip_2 _ _) (λobj=>F.args_object_init_3 obj _ _) F.entry_zip_new (Ab t l xs ys) ⟨a,hl,?_⟩;exact⟨⟨_,PY _ rfl,rfl⟩,h⟩
end
section
variable {σ:L2.St}
theorem Inv.turnLay{t':O}{T:HL}(I:Inv X z7 σ H s)(g:∀b∈ch,sS X z7 H b)(h:s.heap.objs.size<=T)(k:∀b u,b∉ch->s.heap.get? b=Y u->h'.get? b=Y u)
  (new:dY X.prog X.w (upd H T o) h' T o):Inv X z7 σ (upd H T o) {s with heap:=h',toks:=t'}:=by
 have hn:H T=none:=I.hok.fresh h;have a:∀b u,H b=Y u->b∉ch:=λb u e z=>by rw[(g b z).1]at e;cases e
 have neT:∀b u,s.heap.get? b=Y u->b≠T:=λb u e=>Q4 (Q7 (Q0 e) h)
 refine I.step (g':=s.gens) (d':=s.drawn) (ch:=ch) (λb f=>?_) (λb u _ _ hc e _=>k b u hc e) (λb u _ _ hc e _=>⟨u.slots,k b u hc e⟩) (λb u _ e n=>by rw[aE (neT b u e)];exact n)
  (λb u hc e=>⟨u,k b u hc e⟩) (λb xs e=>by rw[aE (aR e hn)];exact e) (λb u v e=>by rw[aE (aR e hn)];exact e) (λb ps e=>by rw[aE (aR e hn)];exact e) (λm hm=>?_) (λb u e=>?_) I.bare
 .obtain⟨f0,f1,f2,j,l,p⟩:=g b f;exact⟨j,f1,l,p⟩
 .obtain⟨i,es,x,y,r⟩:=hm;exact⟨i,es,x,k _ i (λz=>(g _ z).2.1 rfl) y,r⟩
 .by_cases f:b=T
  .subst f;rw[aM]at e;cases e;exact new
  .rw[aE f]at e;refine (I.hok b u e).stay (λc v hc q=>k c v ?_ q) (λc q=>by rw[aE (aR q hn)];exact q) (λc xs q=>by rw[aE (aR q hn)];exact q) λc o' w' q=>by rw[aE (aR q hn)];exact q
   rcases hc with z|z
   .rw[z];exact a b u e
   .exact a c _ z
theorem Inv.turneds{t':O}(I:Inv X z7 σ H s)(f:∀b∈ch,sS X z7 H b)(k:∀b u,b∉ch->s.heap.get? b=Y u->h'.get? b=Y u):Inv X z7 σ H {s with heap:=h',toks:=t'}:=by
 have a:∀b u,H b=Y u->b∉ch:=λb u e z=>by rw[(f b z).1]at e;cases e
 refine I.step (g':=s.gens) (d':=s.drawn) (ch:=ch) (λb h=>?_) (λb u _ _ hc e _=>k b u hc e) (λb u _ _ hc e _=>⟨u.slots,k b u hc e⟩) (λb u _ e n=>n)
  (λb u hc e=>⟨u,k b u hc e⟩) (λb xs e=>e) (λb u v e=>e) (λb ps e=>e) (λm hm=>?_) (λb u e=>?_) I.bare
 .obtain⟨f0,f1,f2,i,j,l⟩:=f b h;exact⟨i,f1,j,l⟩
 .obtain⟨g,es,o,p,r⟩:=hm;exact⟨g,es,o,k _ g (λz=>(f _ z).2.1 rfl) p,r⟩
 .refine (I.hok b u e).stay (λc v hc q=>k c v ?_ q) (λ_ q=>q) λ_ _ q=>q
  rcases hc with z|z
  .rw[z];exact a b u e
  .exact a c _ z
end
def Itz(K:N')(a b:HL)(n:O):It :=
 ⟨λi H=>i<n/\∃xs ys,SqT K H a xs/\SqL K H b ys/\xs.length=n/\ys.length=n,
  λi H v H'=>∃t x y,v=.ref t/\H t=S/\H'=upd H t (.tup [x,y])/\(∀xs,SqT K H a xs->xs[i]?=Y x)/\∀ys,SqL K H b ys->ys[i]?=Y y,
  λi H=>i=n/\∃xs ys,SqT K H a xs/\SqL K H b ys/\xs.length=n/\ys.length=n⟩
theorem G3{z TI TO i1 i2:HL}{n:O}(A4:pG z TI TO i1 i2 [i1,a] [i2,b]) :
  Turn P w K (.Tuple elts x1 tp) (Itz K a b n) [z,TI,TO,i1,i2] z (λi h=>UU h z TI TO .none/\TN h TI (.ref i1) (.ref i2)/\(∃u v,TN h TO u v)/\h.IsTupleIter i1 a i/\h.IsListIter i2 b i) where
 mem:=by simp
 obj:=λi h st c hc=>by
  obtain⟨h1,h2,⟨u,v,h3⟩,⟨r,j,_,d4⟩,⟨C,m,_,d5⟩⟩:=st;dsimp[P8,Q9,Tp]at hc;rcases hc with rfl|rfl|rfl|rfl|rfl
  .exact⟨_,h1,λv q=>by cases q⟩
  .exact⟨_,h2,λv q=>by cases q⟩
  .exact⟨_,h3,λv q=>by cases q⟩
  .exact⟨_,j,λv q=>by rw[d4]at q;cases q⟩
  .exact⟨_,m,λv q=>by rw[d5]at q;cases q⟩
 keep:=λi h h' st k=>by obtain⟨h1,h2,⟨u,v,h3⟩,⟨r,j,r4⟩,⟨C,m,r5⟩⟩:=st;exact⟨k z #[2] _ h1,k TI #[2] _ h2,⟨u,v,k TO #[2] _ h3⟩,⟨r,k i1 #[2] _ j,r4⟩,⟨C,k i2 #[2] _ m,r5⟩⟩
 item:=by
  intro X hP hw hK hc i z7 s σ H E I R st hg;subst hP hw hK;obtain⟨hi,xs,ys,D1,hy,lx,ly⟩:=hg;obtain⟨h1,h2,⟨u,v,h3⟩,D,T⟩:=st;obtain⟨f,U,p,_⟩:=I.tuple D1;obtain⟨G,Bk,p',_⟩:=I.list hy;have la:=U.length;have lb:=Bk.length;have A2:X.A.in1.handled=none:=I.ok.hd hc;have na:a≠i1:=λq=>by obtain⟨o,g,c,_⟩:=p;obtain⟨r,j,B',_⟩:=D;rw[q,j]at g;cases g;rw[B']at c;exact So (Vz c) #[1]
  have nb:b≠i2:=λq=>by obtain⟨o,n,g,c,_⟩:=p';obtain⟨C,m,c5,_⟩:=T;rw[q,m]at g;cases g;rw[c5]at c;exact So (Vz c) #[1]
  have pt:s.heap.IsTuple a f.toArray:=p;refine AO (oX A2 i1 a na f.toArray) (Yp A2 i2 b nb G.toArray) A4 h1 h2 h3 ⟨D,pt⟩ ⟨T,p'.isList⟩ (by simp;omega) (by simp;omega) λh' x y tk px py c1 c2 c3 B' c5 c6=>⟨_,rfl,?_⟩
  refine wpAny_letOwnedTupleGo_zip (s:={s with heap:=h',toks:=tk}) c1 λh2' d1 d2=>?_
  have zl:z<s.heap.objs.size:=Q0 h1;have F:∀c o,c≠z->h'.get? c=Y o->h2'.get? c=Y o:=λc o hc e=>(d2.2 c hc).trans e
  have nT:s.heap.objs.size≠z:=QT zl;obtain⟨M,ex,rx⟩:∃M,xs[i]?=Y M/\RelV M x:=by
   have l:i<xs.length:=⋯
   obtain⟨u',e1,e2⟩:=U.get (My l);refine⟨xs[i],My l,?_⟩;have N:f[i]?=Y x:=by simpa using px
   rw[e1]at N;cases N;exact e2
  obtain⟨D2,ey,ry⟩:∃D2,ys[i]?=Y D2/\RelV D2 y:=by
   have l:i<ys.length:=⋯
   obtain⟨u',e1,e2⟩:=Bk.get (My l);refine⟨ys[i],My l,?_⟩;have Q:G[i]?=Y y:=by simpa using py
   rw[e1]at Q;cases Q;exact e2
  have fr:H s.heap.objs.size=none:=I.hok.fresh (PN _);refine⟨.ref s.heap.objs.size,upd H s.heap.objs.size (.tup [M,D2]),?_,rfl,⟨_,M,D2,rfl,fr,rfl,λxs' h=>by rw[I.tuple_inj h D1];exact ex,λys' h=>by rw[I.list_inj h hy];exact ey⟩,?_,λc B=>?_⟩
  .refine I.turnLay (t':=tk) (ch:=[z,TI,TO,i1,i2]) R (PN _) (λc o hn e=>?_) ⟨by show 2<=sizeLine;decide,[x,y],.cons rx (.cons ry .nil),⟨_,F _ _ nT c5,rfl,rfl,_,rfl⟩⟩;dsimp[P8,Q9,Tp,XD]at hn;exact F c o hn.1 (c6 c o hn.1 hn.2.2.1 hn.2.2.2.1 hn.2.2.2.2 e)
  .obtain⟨⟨r,j,r4⟩,_⟩:=c3;obtain⟨⟨C,m,r5⟩,_⟩:=B';exact⟨d1,F _ _ A4.TIz (c6 _ _ A4.TIz A4.TIO A4.TI1 A4.TI2 h2),⟨x,y,F _ _ A4.TOz c2⟩,⟨r,F _ _ A4.z1 j,r4⟩,⟨C,F _ _ A4.z2 m,r5⟩⟩
  .have h0:=(R c B).1;obtain⟨oc,gc⟩:∃oc,s.heap.get? c=Y oc:=by
    dsimp[P8,Q9,Tp]at B;rcases B with rfl|rfl|rfl|rfl|rfl
    .exact⟨_,h1⟩
    .exact⟨_,h2⟩
    .exact⟨_,h3⟩
    .obtain⟨r,j,_⟩:=D;exact⟨_,j⟩
    .obtain⟨C,m,_⟩:=T;exact⟨_,m⟩
   rw[aE (Q4 (Q0 gc))];exact h0
 done:=by
  intro X hP hw hK hc i z7 s σ H E I R st hg;subst hP hw hK;obtain⟨hi,xs,ys,D1,hy,lx,ly⟩:=hg;obtain⟨h1,h2,⟨u,v,h3⟩,D,T⟩:=st;obtain⟨f,U,p,_⟩:=I.tuple D1;have la:=U.length;have A2:X.A.in1.handled=none:=I.ok.hd hc;have na:a≠i1:=λq=>by obtain⟨o,g,c,_⟩:=p;obtain⟨r,j,B',_⟩:=D;rw[q,j]at g;cases g;rw[B']at c;exact So (Vz c) #[1]
  have pt:s.heap.IsTuple a f.toArray:=p;have e:f.toArray.size=i:=by simp;omega
  refine rG (oX A2 i1 a na f.toArray) A4 h1 h2 h3 ⟨by rw[e];exact D,pt⟩ λh' k=>⟨rfl,?_⟩
  refine I.turneds (t':=s.toks) (ch:=[z,TI,TO,i1,i2]) R λc o hn q=>?_
  dsimp[P8,Q9,Tp,XD]at hn;exact k c o hn.1 hn.2.2.1 hn.2.2.2.1 hn.2.2.2.2 q
 self:=λ_ _ _ _ _ st h=>WW st.1 h
theorem boot_zip:bootBuiltins "zip"=Y (.type "zip"):=by decide +kernel
def Px(K:N')(ta:TA):TI:=λσ H R=>ta σ H λvs H1=>∃a b xs ys,vs=[.ref a,.ref b]/\SqT K H1 a xs/\SqL K H1 b ys/\ys.length=xs.length/\R (Itz K a b xs.length) H1
theorem LX{a b:Sq}(B:Gl X "zip")(hm:X.mg "zip"=S)(ha:PA X [a,b] ta)(C:starEach [a,b] X.env=[(false,eval a X.env),(false,eval b X.env)]:=by rfl)(r:starEach [b] X.env=[(false,eval b X.env)]:=by rfl) :
  PI X (.Tuple elts x1 tp) (.Call (.Name "zip" p) [a,b] [] pos) (Px X.K ta):=by
 intro z7 s σ H R I h;refine Xr (fR I B hm boot_zip (Su (thn (ha pos z7 s σ H _ I h) λus f w=>?_) (by rw[C,r]) (by rw[r];rfl)));obtain⟨vs,H1,u,D,E⟩:=w;obtain⟨l,m,xs,ys,e,F,G,hl,q⟩:=E;subst e;obtain⟨u1,u2,e1,Bk,B'⟩:=vals2 D;subst e1;cases Bk;cases B';obtain⟨x,rv,pt,_⟩:=u.tuple F;obtain⟨jts,rw',pl,_⟩:=u.list G;have v:f.heap.IsTuple l x.toArray:=pt;have y:l<f.heap.objs.size:=by obtain⟨_,g,_⟩:=v;exact Q0 g
 have bl:m<f.heap.objs.size:=by obtain⟨_,_,g,_⟩:=pl;exact Q0 g
 refine By v pl.isList ?_;have z1:(zH1 f.heap l).objs.size=f.heap.objs.size+1:=SJ ..;have z2:(zH2 f.heap l m).objs.size=f.heap.objs.size+2:=by rw[SJ,z1]
 have z3:(zH3 f.heap l m).objs.size=f.heap.objs.size+3:=by rw[SJ,z2]
 have z:(zH4 f.heap l m).objs.size=f.heap.objs.size+4:=by rw[SJ,z3]
 have A:UU (zH5 f.heap l m) (zH4 f.heap l m).objs.size (zH2 f.heap l m).objs.size (zH3 f.heap l m).objs.size .none:=PY _ rfl;have M:TN (zH5 f.heap l m) (zH3 f.heap l m).objs.size .none .none:=P5 _ (PY _ rfl);have N:TN (zH5 f.heap l m) (zH2 f.heap l m).objs.size (.ref f.heap.objs.size) (.ref (zH1 f.heap l).objs.size):=P5 _ (P5 _ (PY _ rfl));have g2:(zH5 f.heap l m).IsListIter (zH1 f.heap l).objs.size m 0:=⟨_,P5 _ (P5 _ (P5 _ (PY _ rfl))),rfl,rfl⟩
 have g1:(zH5 f.heap l m).IsTupleIter f.heap.objs.size l 0:=⟨_,P5 _ (P5 _ (P5 _ (P5 _ (PY _ rfl)))),rfl,rfl⟩
 have D2:∀c o,f.heap.get? c=Y o->(zH5 f.heap l m).get? c=Y o:=λc o e=>P5 _ (P5 _ (P5 _ (P5 _ (P5 _ e))))
 have P:Inv X z7 σ H1 {f with heap:=zH5 f.heap l m}:=u.kept (t':=f.toks) D2;have A4:pG (zH4 f.heap l m).objs.size (zH2 f.heap l m).objs.size (zH3 f.heap l m).objs.size f.heap.objs.size (zH1 f.heap l).objs.size [f.heap.objs.size,l] [(zH1 f.heap l).objs.size,m]:=by
  rw[z1,z2,z3,z];have n:∀i j:O,i≠j->f.heap.objs.size+i≠f.heap.objs.size+j:=λi j h q=>h (O.add_left_cancel q)
  refine⟨n 2 4 #[1],n 3 4 #[1],n 0 4 #[1],n 1 4 #[1],n 2 3 #[1],n 2 0 #[1],n 2 1 #[1],n 3 0 #[1],n 3 1 #[1],n 0 1 #[1],λc hc=>?_,λc hc=>?_⟩
  .dsimp[P8,Q9,Tp]at hc;rcases hc with rfl|rfl
   .exact⟨n 0 4 #[1],n 0 3 #[1],n 0 1 #[1]⟩
   .exact⟨Q4 (Q7 y (QU _ _)),Q4 (Q7 y (QU _ _)),Q4 (Q7 y (QU _ _))⟩
  .dsimp[P8,Q9,Tp]at hc;rcases hc with rfl|rfl
   .exact⟨n 1 4 #[1],n 1 3 #[1],n 1 0 #[1]⟩
   .exact⟨Q4 (Q7 bl (QU _ _)),Q4 (Q7 bl (QU _ _)),Q4 bl⟩
 have big:∀c∈[(zH4 f.heap l m).objs.size,(zH2 f.heap l m).objs.size,(zH3 f.heap l m).objs.size,f.heap.objs.size,(zH1 f.heap l).objs.size],f.heap.objs.size<=c:=λc hc=>by
  dsimp[P8,Q9,Tp]at hc;rcases hc with rfl|rfl|rfl|rfl|rfl
  .rw[z];exact QU _ _
  .rw[z2];exact QU _ _
  .rw[z3];exact QU _ _
  .exact PN _
  .rw[z1];exact QU _ _
 refine WW A ⟨_,_,_,_,H1,rfl,P,G3 A4,⟨A,N,⟨_,_,M⟩,g1,g2⟩,λc hc=>?_,q⟩;exact u.fpOk (big c hc) (u.hok.fresh (big c hc))
inductive Rs (α:Type) where
 |ok (a:α)
 |rz (C:HL)
 |no
namespace Rs
noncomputable def bind{α β:Type}:Rs α->(α->Rs β)->Rs β
 |ok a,f=>f a
 |rz C,_=>rz C
 |no,_=>no
def eu{α:Type}:D' α->Rs α
 |some a=>ok a
 |none=>no
noncomputable def calm{α:Type}:Rs α->Rs α
 |ok a=>ok a
 |_=>no
@[simp]theorem ag(a:α)(f:α->Rs β):(ok a).bind f=f a:=rfl
@[simp]theorem eZ(C:HL)(f:α->Rs β):(rz C).bind f=rz C:=rfl
@[simp]theorem bH(f:α->Rs β):(no:Rs α).bind f=no:=rfl
@[simp]theorem ai(a:α):eu (Y a)=ok a:=rfl
@[simp]theorem MH:eu (S:D' α)=no:=rfl
@[simp]theorem cM(a:α):(ok a).calm=ok a:=rfl
end Rs
variable {gf:J L->Rs L}
noncomputable def del(H:Hp)(A:J HL):Hp:=λb=>if b∈A then S else H b
theorem Co:del H []=H:=by funext b;simp[del]
theorem ja(h:b∈A):del H A b=none:=by simp[del,h]
theorem aV(h:b∉A):del H A b=H b:=by simp[del,h]
theorem bu(h:del H A b=Y o):b∉A/\H b=Y o:=by
 by_cases z:b∈A
 .rw[ja z]at h;cases h
 .rw[aV z]at h;exact⟨z,h⟩
theorem aB:aA (del H A) H:=λ_ _ e=>(bu e).2
theorem aA.del(s:aA H H'):aA (del H A) (L2.del H' A):=λb o e=>by obtain⟨z,e⟩:=bu e;rw[aV z];exact s b o e
def Nc:HO->R0
 |.lst _=>true
 |.dK _=>true
 |.dT _=>true
 |_=>false
def Ls(H:Hp)(A:J HL):Prop:=∀a∈A,∃o,H a=Y o/\Nc o=true
theorem Ls.same(h:Ls H A)(s:aA H H'):Ls H' A:=λa ha=>by obtain⟨o,e,q⟩:=h a ha;exact⟨o,s _ _ e,q⟩
theorem Ls.nil:Ls H []:=λ_ h=>by cases h
theorem Ls.new{p:HL}(h:Ls H A)(a:H p=S):p∉A:=λz=>by obtain⟨xs,e,_⟩:=h p z;rw[a]at e;cases e
def au(ns:J Z):PyData:=.dict [(.none,.list (ns.map .int))]
abbrev dtK(l:J ((Z×Z)×Z)):J (L×L):=(.bool true,.none)::l.map λp=>(.tuple [.int p.1.1,.int p.1.2],.int p.2)
abbrev dtO(l:J ((Z×Z)×Z)):HO:=.dT (l.map λp=>([.inl p.1.1,.inl p.1.2],V.int p.2))
abbrev dfK(l:J (Z×Z)):J (L×L):=(.bool false,.none)::l.map λp=>(.int p.1,.int p.2)
def JE(kvs:J (L×L))(o:HO):Prop:=(∃l:J (Z×Z),kvs=l.map (λp=>(EE p.1,EE p.2))/\o=.dK (l.map λp=>(.inl p.1,V.int p.2)))\/(∃l,kvs=dtK l/\o=dtO l)\/∃l a,kvs=dfK l/\o=.frz a (.dK (l.map λp=>(.inl p.1,V.int p.2)))
mutual
def Is(K:N')(H:Hp):L->V->Prop
 |.none,v=>v=.non
 |.bool b,v=>v=.bl b
 |.int i,v=>v=.int i
 |.str x,v=>v=.str x
 |.list ds,v=>∃a xs,v=.ref a/\H a=Y (.lst xs)/\Iss K H ds xs
 |.tuple ds,v=>∃a xs,v=.ref a/\H a=Y (.tup xs)/\Iss K H ds xs
 |.dict kvs,v=>((∃a ns,v=.ref a/\kvs=[(VA,Uk (J.map EE ns))]/\SqL K H a (J.map V.int ns)) \/
  ∃(a:HL)(o:HO),v=.ref a/\JE kvs o/\H a=Y o) \/
  ∃(a C dx:HL)(fs:J (M'×V)),v=.ref a/\H a=Y (.ins C dx fs)/\fs.lookup ("@":M')=S/\(Isk K H kvs (("",.int (C:Z))::fs)\/Isk K H kvs (("",.int (C:Z))::("@",.int (a:Z))::fs))
def Iss(K:N')(H:Hp):J L->J V->Prop
 |[],vs=>vs=[]
 |d::ds,vs=>∃v r,vs=v::r/\Is K H d v/\Iss K H ds r
def Isk(K:N')(H:Hp):J (L×L)->J (M'×V)->Prop
 |[],fs=>fs=[]
 |(k,d)::r,fs=>∃f v fs',fs=(f,v)::fs'/\k=.str f/\Is K H d v/\Isk K H r fs'
end
noncomputable def cN(C a:HL)(fds:J (M'×L)):PyData:=.dict ((.str "",.int (C:Z))::(.str "@",.int (a:Z))::fds.map λp=>(.str p.1,p.2))
noncomputable def AI(C:HL)(fds:J (M'×L)):PyData:=.dict ((.str "",.int (C:Z))::fds.map λp=>(.str p.1,p.2))
section
theorem bN{i:Z}:Is K H (.int i) (.int i):=by unfold Is;rfl
theorem is_bool{b:R0}:Is K H (.bool b) (.bl b):=by unfold Is;rfl
theorem is_none:Is K H .none .non:=by unfold Is;rfl
theorem F5:Is K H (.str x) (.str x):=by unfold Is;rfl
theorem jJ(h:H a=Y (.tup xs))(h2:Iss K H ds xs):Is K H (.tuple ds) (.ref a):=by unfold Is;exact⟨a,xs,rfl,h,h2⟩
theorem ll(h:H a=Y (.lst xs))(h2:Iss K H ds xs):Is K H (.list ds) (.ref a):=by unfold Is;exact⟨a,xs,rfl,h,h2⟩
theorem Dv(h:SqL K H a (ns.map V.int)):Is K H (au ns) (.ref a):=by unfold au Is;exact .inl (.inl ⟨a,ns,rfl,rfl,h⟩)
theorem dw:Iss K H [] []:=by unfold Iss;rfl
theorem cZ{d:L}(h:Is K H d v)(h2:Iss K H ds vs):Iss K H (d::ds) (v::vs):=by unfold Iss;exact⟨v,vs,rfl,h,h2⟩
theorem kK{d:L}(h:Is K H d v):Iss K H [d] [v]:=cZ h dw
theorem Is.ofInt{i:Z}(h:Is K H (.int i) v):v=.int i:=by unfold Is at h;exact h
theorem Is.ofBool{i:R0}(h:Is K H (.bool i) v):v=.bl i:=by unfold Is at h;exact h
theorem Is.ofNone(h:Is K H .none v):v=.non:=by unfold Is at h;exact h
theorem Is.ofStr(h:Is K H (.str x) v):v=.str x:=by unfold Is at h;exact h
theorem Is.ofTup(h:Is K H (.tuple ds) v):∃a xs,v=.ref a/\H a=Y (.tup xs)/\Iss K H ds xs:=by unfold Is at h;exact h
theorem Is.ofLst(h:Is K H (.list ds) v):∃a xs,v=.ref a/\H a=Y (.lst xs)/\Iss K H ds xs:=by unfold Is at h;exact h
theorem Is.ofScript(h:Is K H (au ns) v):∃a,v=.ref a/\SqL K H a (ns.map V.int):=by
 unfold au Is at h;rcases h with (h|⟨a,l,_,e,_⟩)|⟨a,C,dx,fs,_,_,_,h|h⟩
 case inl.inr=>rcases e with⟨m,e,_⟩|⟨m,e,_⟩|⟨m,_,e,_⟩ <;> first|(cases e;done)|(cases m <;> cases e)
 case inr.inl=>unfold Isk at h;obtain⟨f,_,_,_,h,_⟩:=h;cases h
 case inr.inr=>unfold Isk at h;obtain⟨f,_,_,_,h,_⟩:=h;cases h
 obtain⟨a,ms,e,e2,h⟩:=h;have g:ns.map EE=ms.map L.int:=by injection e2 with e2 _;injection e2 with _ e2;injection e2
 have i:ns=ms:=by
  have inj:∀(a b:J Z),a.map EE=b.map EE->a=b:=by
   intro a
   induction a with
   |nil=>intro b c;cases b with|nil=>rfl|cons _ _=>simp at c
   |cons x r ih =>
    intro b c;cases b with
    |nil=>simp at c
    |cons y s =>dsimp[P0,Ui,Uu]at c;rw[c.1,ih s c.2]
  exact inj _ _ g
 subst i;exact⟨a,e,h⟩
theorem Iss.nil_of(h:Iss K H [] vs):vs=[]:=by unfold Iss at h;exact h
theorem Iss.cons_of{d:L}(h:Iss K H (d::ds) vs):∃v r,vs=v::r/\Is K H d v/\Iss K H ds r:=by unfold Iss at h;exact h
theorem Iss.length:∀{ds:J L}{vs:J V},Iss K H ds vs->vs.length=ds.length
 |[],_,h=>by rw[h.nil_of];rfl
 |_::_,_,h=>by obtain⟨v,r,e,_,h2⟩:=h.cons_of;rw[e,PZ,PZ,Iss.length h2]
mutual
theorem Is.same(e:aA H H'):∀{d:L}{v:V},Is K H d v->Is K H' d v
 |.none,_,h=>by unfold Is at h ⊢;exact h
 |.bool _,_,h=>by unfold Is at h ⊢;exact h
 |.int _,_,h=>by unfold Is at h ⊢;exact h
 |.str _,_,h=>by unfold Is at h ⊢;exact h
 |.list ds,_,h=>by unfold Is at h ⊢;obtain⟨a,xs,e1,h1,h2⟩:=h;exact⟨a,xs,e1,e _ _ h1,Iss.same e h2⟩
 |.tuple ds,_,h=>by unfold Is at h ⊢;obtain⟨a,xs,e1,h1,h2⟩:=h;exact⟨a,xs,e1,e _ _ h1,Iss.same e h2⟩
 |.dict _,_,h=>by
  unfold Is at h ⊢;rcases h with (⟨a,ns,e1,e2,h2⟩|⟨a,l,e1,e2,h2⟩)|⟨a,C,dx,fs,e1,h1,hn,h2|h2⟩
  .exact .inl (.inl ⟨a,ns,e1,e2,e.seq h2⟩)
  .exact .inl (.inr ⟨a,l,e1,e2,e _ _ h2⟩)
  .exact .inr ⟨a,C,dx,fs,e1,e _ _ h1,hn,.inl (Isk.same e h2)⟩
  .exact .inr ⟨a,C,dx,fs,e1,e _ _ h1,hn,.inr (Isk.same e h2)⟩
theorem Iss.same(e:aA H H'):∀{ds:J L}{vs:J V},Iss K H ds vs->Iss K H' ds vs
 |[],_,h=>by unfold Iss at h ⊢;exact h
 |d::ds,_,h=>by unfold Iss at h ⊢;obtain⟨v,r,e1,h1,h2⟩:=h;exact⟨v,r,e1,Is.same e h1,Iss.same e h2⟩
theorem Isk.same(e:aA H H'):∀{ds:J (L×L)}{fs:J (M'×V)},Isk K H ds fs->Isk K H' ds fs
 |[],_,h=>by unfold Isk at h ⊢;exact h
 |(k,d)::ds,_,h=>by unfold Isk at h ⊢;obtain⟨f,v,r,e1,e2,h1,h2⟩:=h;exact⟨f,v,r,e1,e2,Is.same e h1,Isk.same e h2⟩
end
theorem qU:Isk K H [] []:=by unfold Isk;rfl
theorem fq{f:M'}{d:L}{r:J (L×L)}{fs:J (M'×V)}(h:Is K H d v)(h2:Isk K H r fs):Isk K H ((.str f,d)::r) ((f,v)::fs):=by unfold Isk;exact⟨f,v,fs,rfl,rfl,h,h2⟩
theorem Nv{fds:J (M'×L)}{fs:J (M'×V)}(h:H a=Y (.ins C dx fs))(hn:fs.lookup ("@":M')=S)(h2:Isk K H (fds.map λp=>(.str p.1,p.2)) fs):Is K H (AI C fds) (.ref a):=by unfold AI Is;exact .inr ⟨a,C,dx,fs,rfl,h,hn,.inl (fq bN h2)⟩
theorem Hy{fds:J (M'×L)}{fs:J (M'×V)}(h:H a=Y (.ins C dx fs))(hn:fs.lookup ("@":M')=S)(h2:Isk K H (fds.map λp=>(.str p.1,p.2)) fs):Is K H (cN C a fds) (.ref a):=by unfold cN Is;exact .inr ⟨a,C,dx,fs,rfl,h,hn,.inr (fq bN (fq bN h2))⟩
theorem NB(b:Ls H A)(h:H a=Y (.tup xs)):del H A a=Y (.tup xs):=by rw[aV (λq=>by obtain⟨ys,e2,c⟩:=b a q;rw[h]at e2;cases e2;cases c)];exact h
mutual
theorem Is.dl{A:J HL}(b:Ls H A):∀{d:L}{v:V},fW d=true->Is K H d v->Is K (del H A) d v
 |.none,_,_,h=>by unfold Is at h ⊢;exact h
 |.bool _,_,_,h=>by unfold Is at h ⊢;exact h
 |.int _,_,_,h=>by unfold Is at h ⊢;exact h
 |.str _,_,_,h=>by unfold Is at h ⊢;exact h
 |.list _,_,n,_=>by unfold fW at n;cases n
 |.dict _,_,n,_=>by unfold fW at n;cases n
 |.tuple ds,_,n,h=>by unfold fW at n;obtain⟨a,xs,e,h1,h2⟩:=h.ofTup;subst e;exact jJ (NB b h1) (Iss.dl b n h2)
theorem Iss.dl{A:J HL}(a:Ls H A):∀{ds:J L}{vs:J V},mL ds=true->Iss K H ds vs->Iss K (del H A) ds vs
 |[],_,_,h=>by rw[h.nil_of];exact dw
 |d::ds,_,n,h=>by unfold mL at n;obtain⟨n1,n2⟩:=QN.mp n;obtain⟨v,r,e,h1,h2⟩:=h.cons_of;subst e;exact cZ (Is.dl a n1 h1) (Iss.dl a n2 h2)
end
mutual
def aO:L->R0
 |.list ds=>eG ds
 |.tuple ds=>eG ds
 |.dict _=>false
 |_=>true
def eG:J L->R0
 |[]=>true
 |d::ds=>aO d&&eG ds
end
mutual
theorem Is.isd:∀{d:L}{v:V},aO d=true->Is K H d v->IsD K H d v
 |.none,_,_,h=>by rw[h.ofNone];exact G8
 |.bool _,_,_,h=>by rw[h.ofBool];exact GP
 |.int _,_,_,h=>by rw[h.ofInt];exact wu
 |.str _,_,_,h=>by rw[h.ofStr];exact Iv
 |.list ds,_,n,h=>by unfold aO at n;obtain⟨a,xs,e,h1,h2⟩:=h.ofLst;subst e;exact xG (SqL.of h1) (Iss.isd n h2)
 |.tuple ds,_,n,h=>by unfold aO at n;obtain⟨a,xs,e,h1,h2⟩:=h.ofTup;subst e;exact JF (SqT.of h1) (Iss.isd n h2)
 |.dict _,_,n,_=>by unfold aO at n;cases n
theorem Iss.isd:∀{ds:J L}{vs:J V},eG ds=true->Iss K H ds vs->fZ K H ds vs
 |[],_,_,h=>by rw[h.nil_of];exact tP
 |d::ds,_,n,h=>by unfold eG at n;obtain⟨n1,n2⟩:=QN.mp n;obtain⟨v,r,e,h1,h2⟩:=h.cons_of;subst e;exact vG (Is.isd n1 h1) (Iss.isd n2 h2)
end
def iI:L->R0
 |.none=>true
 |.bool _=>true
 |.int _=>true
 |.str _=>true
 |_=>false
theorem IsD.is{d:L}(n:iI d=true)(h:IsD K H d v):Is K H d v:=by
 cases d with
 |none=>rw[h.ofNone];exact is_none
 |bool _=>rw[h.ofBool];exact is_bool
 |int _=>rw[h.ofInt];exact bN
 |str _=>rw[h.ofStr];exact F5
 |_=>cases n
theorem AQ{d:L}(n:iI d=true):fW d=true:=by
 cases d with
 |list _=>cases n
 |tuple _=>cases n
 |dict _=>cases n
 |_=>unfold fW;rfl
theorem Iss.get:∀{ds:J L}{vs:J V}{i:O}{v:V},Iss K H ds vs->vs[i]?=Y v->∃d,ds[i]?=Y d/\Is K H d v
 |[],_,i,v,h,e=>by rw[h.nil_of]at e;simp at e
 |d::ds,_,i,v,h,e=>by
  obtain⟨w,r,e1,h1,h2⟩:=h.cons_of;subst e1;cases i with
  |zero=>simp at e;subst e;exact⟨d,rfl,h1⟩
  |succ i=>simpa using Iss.get (i:=i) h2 (by simpa using e)
theorem Iss.getD:∀{ds:J L}{vs:J V}{i:O}{d:L},Iss K H ds vs->ds[i]?=Y d->∃v,vs[i]?=Y v/\Is K H d v
 |[],_,i,v,h,e=>by simp at e
 |d::ds,_,i,v,h,e=>by
  obtain⟨w,r,e1,h1,h2⟩:=h.cons_of;subst e1;cases i with
  |zero=>simp at e;subst e;exact⟨w,rfl,h1⟩
  |succ i=>simpa using Iss.getD (i:=i) h2 (by simpa using e)
theorem Iss.append:∀{ds es:J L}{vs us:J V},Iss K H ds vs->Iss K H es us->Iss K H (ds++es) (vs++us)
 |[],_,_,_,h,h'=>by rw[h.nil_of];exact h'
 |d::ds,es,_,us,h,h'=>by obtain⟨v,r,e,h1,h2⟩:=h.cons_of;subst e;exact cZ h1 (Iss.append h2 h')
theorem Iss.take:∀{ds:J L}{vs:J V}(n:O),Iss K H ds vs->Iss K H (ds.take n) (vs.take n)
 |[],_,n,h=>by rw[h.nil_of];simpa using dw
 |d::ds,_,0,h=>by simpa using dw
 |d::ds,_,n+1,h=>by obtain⟨v,r,e,h1,h2⟩:=h.cons_of;subst e;exact cZ h1 (Iss.take n h2)
theorem Iss.drop:∀{ds:J L}{vs:J V}(n:O),Iss K H ds vs->Iss K H (ds.drop n) (vs.drop n)
 |[],_,n,h=>by rw[h.nil_of];simpa using dw
 |d::ds,_,0,h=>h
 |d::ds,_,n+1,h=>by obtain⟨v,r,e,h1,h2⟩:=h.cons_of;subst e;exact Iss.drop n h2
theorem Iss.set{d:L}{v:V}(hv:Is K H d v):∀{ds:J L}{vs:J V}(i:O),Iss K H ds vs->Iss K H (ds.set i d) (vs.set i v)
 |[],_,n,h=>by rw[h.nil_of];simpa using dw
 |e::ds,_,0,h=>by obtain⟨u,r,z,h1,h2⟩:=h.cons_of;subst z;exact cZ hv h2
 |e::ds,_,n+1,h=>by obtain⟨u,r,z,h1,h2⟩:=h.cons_of;subst z;exact cZ h1 (Iss.set hv n h2)
theorem Iss.eraseIdx:∀{ds:J L}{vs:J V}(i:O),Iss K H ds vs->Iss K H (ds.eraseIdx i) (vs.eraseIdx i)
 |[],_,n,h=>by rw[h.nil_of];simpa using dw
 |e::ds,_,0,h=>by obtain⟨u,r,z,h1,h2⟩:=h.cons_of;subst z;exact h2
 |e::ds,_,n+1,h=>by obtain⟨u,r,z,h1,h2⟩:=h.cons_of;subst z;exact cZ h1 (Iss.eraseIdx n h2)
theorem Iss.rep{ds:J L}{vs:J V}(h:Iss K H ds vs):∀k:O,Iss K H (I' k ds).flatten (I' k vs).flatten
 |0=>dw
 |k+1=>by rw[QZ,QZ,QX,QX];exact h.append (Iss.rep h k)
theorem ya:∀(ns:J Z),Iss K H (ns.map EE) (ns.map V.int)
 |[]=>dw
 |_::r=>cZ bN (ya r)
theorem Iss.ofInts:∀{ns:J Z}{vs:J V},Iss K H (ns.map EE) vs->vs=ns.map V.int
 |[],_,h=>h.nil_of
 |n::r,_,h=>by obtain⟨v,t,e,h1,h2⟩:=h.cons_of;rw[e,h1.ofInt,Iss.ofInts h2];rfl
theorem Iss.ofBools:∀{ns:J R0}{vs:J V},Iss K H (ns.map TR) vs->vs=ns.map V.bl
 |[],_,h=>h.nil_of
 |n::r,_,h=>by obtain⟨v,t,e,h1,h2⟩:=h.cons_of;rw[e,h1.ofBool,Iss.ofBools h2];rfl
theorem Is.isNone{d:L}(h:Is K H d v):(v=.non)↔d=.none:=by
 cases d with
 |none=>simp[h.ofNone]
 |bool b=>simp[h.ofBool]
 |int i=>simp[h.ofInt]
 |str x=>simp[h.ofStr]
 |list ds=>obtain⟨a,xs,e,_⟩:=h.ofLst;simp[e]
 |tuple ds=>obtain⟨a,xs,e,_⟩:=h.ofTup;simp[e]
 |dict _=>unfold Is at h;rcases h with (⟨a,ns,e,_⟩|⟨a,l,e,_⟩)|⟨a,C,dx,fs,e,_⟩ <;> simp[e]
theorem bS{p:HL}(h:H p=S):aA H (upd H p o):=je h
theorem mf{p:HL}(h:p∈A):del (upd H p o) A=del H A:=by
 funext b;by_cases z:b∈A
 .rw[ja z,ja z]
 .rw[aV z,aV z,aE (by rintro rfl;exact z h)]
theorem nO{p:HL}(b:Ls H A)(a:H p=S)(h:Iss K (del H A) ds xs):Is K (del (upd H p (.tup xs)) A) (.tuple ds) (.ref p) :=
 jJ (by rw[aV (b.new a)];exact aM) (h.same (aA.del (bS a)))
theorem me{p:HL}(b:Ls H A)(a:H p=S)(h:Iss K (del H A) ds xs):Is K (del (upd H p (.lst xs)) A) (.list ds) (.ref p) :=
 ll (by rw[aV (b.new a)];exact aM) (h.same (aA.del (bS a)))
end
abbrev Ds:=J (D' L)
variable {cond:Ds->Rs R0}{tgt:L->D' Ds}{gs:Ds->Rs (J L)}{ge:Ds->Rs L}{δ:Ds}
structure eF(K:N')(H:Hp)(A:J HL)(δ:Ds)(σ:St):Prop where
 ls:Ls H A
 len:δ.length=σ.length
 get:∀(i:O)(d:L),δ[i]?=Y (Y d)->∃v,σ[i]?=Y (Y v)/\Is K (del H A) d v
theorem eF.same(R:eF K H A δ σ)(s:aA H H'):eF K H' A δ σ :=
 ⟨R.ls.same s,R.len,λi d e=>by obtain⟨v,e1,h⟩:=R.get i d e;exact⟨v,e1,h.same s.del⟩⟩
def jo(K:N')(E:XK)(A:J HL)(H:Hp)(r:Rs L)(Q:VK):Prop:=match r with
 |.ok d=>∀v H',aA H H'->Is K (del H' A) d v->Q v H'
 |.rz C=>∀H',aA H H'->E (.ref C) S H'
 |.no=>False
def Pq(K:N')(E:XK)(A:J HL)(H:Hp)(r:Rs (J L))(Q:J V->Hp->Prop):Prop:=match r with
 |.ok d=>∀v H',aA H H'->Iss K (del H' A) d v->Q v H'
 |.rz C=>∀H',aA H H'->E (.ref C) S H'
 |.no=>False
def zC(E:XK)(H:Hp)(r:Rs R0)(Q:R0->Hp->Prop):Prop:=match r with
 |.ok d=>∀H',aA H H'->Q d H'
 |.rz C=>∀H',aA H H'->E (.ref C) S H'
 |.no=>False
def eD(K:N')(E:XK)(g:Ds->Rs L):TE:=λσ H Q=>∃A δ,eF K H A δ σ/\jo K E A H (g δ) Q
def aD(K:N')(E:XK)(g:Ds->Rs (J L)):TA:=λσ H Q=>∃A δ,eF K H A δ σ/\Pq K E A H (g δ) Q
def cD(K:N')(E:XK)(g:Ds->Rs R0):TT:=λσ H Q=>∃A δ,eF K H A δ σ/\zC E H (g δ) Q
def PD(X:Cx)(E:XK)(e:Sq)(g:Ds->Rs L):Prop:=PE X e (eD X.K E g)
def PAD(X:Cx)(E:XK)(es:J Sq)(g:Ds->Rs (J L)):Prop:=PA X es (aD X.K E g)/\∀δ ds,g δ=.ok ds->ds.length=es.length
def PCD(X:Cx)(E:XK)(e:Sq)(g:Ds->Rs R0):Prop:=PT X e (cD X.K E g)
def PWD(X:Cx)(E:XK)(e:Sq)(g:Ds->Rs R0):Prop:=PW X e (cD X.K E g)
theorem PE.imp{t t':TE}(h:PE X e t)(k:∀σ H Q,t' σ H Q->t σ H Q):PE X e t':=λz7 s σ H Q I q=>h z7 s σ H Q I (k σ H Q q)
theorem PT.imp{t t':TT}(h:PT X e t)(k:∀σ H Q,t' σ H Q->t σ H Q):PT X e t':=λz7 s σ H Q I q=>h z7 s σ H Q I (k σ H Q q)
theorem PW.imp{t t':TT}(h:PW X e t)(k:∀σ H Q,t' σ H Q->t σ H Q):PW X e t':=λw z7 s σ H Q I q=>h w z7 s σ H Q I (k σ H Q q)
theorem PA.imp{e:J Sq}{t t':TA}(h:PA X e t)(k:∀σ H Q,t' σ H Q->t σ H Q):PA X e t':=λp z7 s σ H Q I q=>h p z7 s σ H Q I (k σ H Q q)
theorem PS.imp{e:Ur}{t t':TS}(h:PS X e t)(k:∀D σ H,t' D σ H->t D σ H):PS X e t':=λz7 s σ H D I q=>h z7 s σ H D I (k D σ H q)
theorem PSs.imp{e:J Ur}{t t':TS}(h:PSs X e t)(k:∀D σ H,t' D σ H->t D σ H):PSs X e t':=λz7 s σ H D I q=>h z7 s σ H D I (k D σ H q)
theorem jo.mono{r:Rs L}{Q:VK}(h:jo K E A H r Q)(s:aA H H1):jo K E A H1 r Q:=by
 cases r with
 |ok d=>exact λv H' s' q=>h v H' (s.trans s') q
 |rz C=>exact λH' s'=>h H' (s.trans s')
 |no=>exact h
theorem zC.mono{r:Rs R0}{Q:R0->Hp->Prop}(h:zC E H r Q)(s:aA H H1):zC E H1 r Q:=by
 cases r with
 |ok d=>exact λH' s'=>h H' (s.trans s')
 |rz C=>exact λH' s'=>h H' (s.trans s')
 |no=>exact h
theorem eD.run{g:Ds->Rs L}{Q:VK}(R:eF K H A δ σ)
  (ok:∀d,g δ=.ok d->∀v H',aA H H'->eF K H' A δ σ->Is K (del H' A) d v->Q v H') (rz:∀C,g δ=.rz C->∀H',aA H H'->E (.ref C) S H') (no:g δ=.no->False):eD K E g σ H Q:=by
 refine⟨A,δ,R,?_⟩;cases e:g δ with
 |ok d=>exact λv H' s q=>ok d e v H' s (R.same s) q
 |rz C=>exact λH' s=>rz C e H' s
 |no=>exact no e
theorem aD.run{g:Ds->Rs (J L)}{Q:J V->Hp->Prop}(R:eF K H A δ σ)
  (ok:∀d,g δ=.ok d->∀v H',aA H H'->eF K H' A δ σ->Iss K (del H' A) d v->Q v H') (rz:∀C,g δ=.rz C->∀H',aA H H'->E (.ref C) S H') (no:g δ=.no->False):aD K E g σ H Q:=by
 refine⟨A,δ,R,?_⟩;cases e:g δ with
 |ok d=>exact λv H' s q=>ok d e v H' s (R.same s) q
 |rz C=>exact λH' s=>rz C e H' s
 |no=>exact no e
theorem cD.run{g:Ds->Rs R0}{Q:R0->Hp->Prop}(R:eF K H A δ σ)
  (ok:∀d,g δ=.ok d->∀H',aA H H'->eF K H' A δ σ->Q d H') (rz:∀C,g δ=.rz C->∀H',aA H H'->E (.ref C) S H') (no:g δ=.no->False):cD K E g σ H Q:=by
 refine⟨A,δ,R,?_⟩;cases e:g δ with
 |ok d=>exact λH' s=>ok d e H' s (R.same s)
 |rz C=>exact λH' s=>rz C e H' s
 |no=>exact no e
structure Ia(X:Cx)(c P:HL):Prop where
 tab:TabOf X.K P (X.env.qual++"<lambda>")
 code:X.env.code=.ref c
 hd:W.CodeHd X.base c P
 bl:∃bm o,X.mg "__builtins__"=Y (.ref bm)/\bm≠builtinsNs/\bm≠mainGlobals/\X.base.get? bm=Y o/\o.cls=.type "module"/\o.dict=Y builtinsNs/\o.data=.plain
theorem oK{a b:Z}{t u:O}{c:F'}:∀{l:J F'},Tb l->Tb (l++[.int a t,.int b u,c])
 |[],_=>by simp[Tb]
 |[_],h=>by simp[Tb]at h
 |[x,y],h=>by cases x <;> cases y <;> (unfold Tb at h;exact h.elim)
 |x::y::z::r,h=>by
  cases x <;> first|(unfold Tb at h;exact h.elim)|skip
  cases y <;> first|(unfold Tb at h;exact h.elim)|skip
  unfold Tb at h;show Tb (_::_::_::(r++_));unfold Tb;exact oK h
theorem uf{pos:Vp}{a b:Z}{t u:O}{c f:F'}:∀{l:J F'},Tb l->codeAmong pos (l++[.int a t,.int b u,c])=Y f->codeAmong pos l=Y f\/f=c
 |[],_,e=>by
  dsimp[Qs,codeAmong]at e;split at e
  .cases e;exact .inr rfl
  .cases e
 |[_],h,_=>by simp[Tb]at h
 |[x,y],h,_=>by cases x <;> cases y <;> (unfold Tb at h;exact h.elim)
 |x::y::z::r,h,e=>by
  cases x <;> first|(unfold Tb at h;exact h.elim)|skip
  cases y <;> first|(unfold Tb at h;exact h.elim)|skip
  unfold Tb at h;dsimp[Qx,codeAmong]at e ⊢;split at e
  .rename_i q;rw[FC q];exact .inl e
  .rename_i q;rw[GC q];exact uf h e
def O1(qual:M')(mk:HL->F'->Tt):TE:=λ_ H Q=>∀f c' a H',H f=S->H' f=Y (.frz (mk c' a) (.own f))->aA H H' ->
 (∃o vs t,H' c'=Y (.frz o (.own c'))/\o.data=.fields vs/\vs[1]?=Y (.str qual t))->Q (.ref f) H'
theorem LR{P:HL}{g:J (M'×HL)}(T:Ia X c P)(x:closureFor scope X.env=pure g)(A:defaultsOf params X.env=([],[]):=by rfl) :
  PE X (.Lambda params body scope pos) (O1 (X.env.qual++"<lambda>") λc' f=>XU "<lambda>" (X.env.qual++"<lambda>") params body scope g ((X.mg "__name__").getD .none) c' f):=by
 intro z7 s σ H Q I h;have i:=I.tab P _ T.tab;obtain⟨ps,B,B',hc⟩:=I.hok P _ i;obtain⟨bm,ob,b1,b2,b3,R,b5,b6,b7⟩:=T.bl;have D1:∀b o,X.base.get? b=Y o->b≠P:=λb o e z=>by have:=(I.bs b o e).2;rw[z,i]at this;cases this
 have C:s.heap.BuiltinsAt X.mg P:=⟨bm,ob,b1,b2,b3,D1 _ _ R,I.bk _ _ R,b5,b6,b7⟩
 have U:s.heap.Ns mainGlobals X.mg:=I.mod.glob.keeps I.bk;have M:mainGlobals≠P:=by obtain⟨o,es,A2,e,_⟩:=I.mod.glob;exact D1 _ _ e
 have A4:=T.hd.keeps I.bk;have fin:∀{H1:Hp}{h1:Sy}{tk:O}{o:Tt},Inv X z7 σ H1 {s with heap:=h1,toks:=tk}->o.isFreed=false->Inv X z7 σ (upd H1 h1.objs.size (.frz o (.own h1.objs.size))) {s with heap:=h1.push o,toks:=tk}:=λ{H1 h1 tk o} Bk j =>
  Bk.laid (h':=h1.push o) (t':=tk) (λb u q=>P5 _ q) (PN _) ⟨PY _ j,o,PY _ j⟩
 refine W.kla_eval A ?_;cases hf:codeAmong pos ps.toList with
 |some N =>
  obtain⟨c',o,vs,t,rfl,D,d1,d2⟩:=hc pos N hf;refine W.kla_makeFunctionHit (mg:=X.mg) x I.ok.glob U T.code A4 B B' hf C λf h' tk hk hsz=>?_
  have n:H h'.objs.size=none:=I.hok.fresh hsz;exact⟨.ref _,_,fin (I.kept (h':=h') (t':=tk) hk) rfl,rfl,h _ c' f _ n aM (je n) ⟨o,vs,t,by rw[aE (aR D n)];exact D,d1,d2⟩⟩
 |none =>
  refine W.kla_makeFunction (mg:=X.mg) x I.ok.glob U T.code A4 B B' hf M C λc' f h' tk E l D2 F G=>?_
  obtain⟨c₂,oc,vs,t,e2,K,hd,hv⟩:=F;cases e2;have hn:H c'=none:=I.hok.fresh l;have cP:c'≠P:=λz=>by rw[z,i]at hn;cases hn
  have a:∀b u,H b=Y u->b≠c':=λb u e z=>by rw[z,hn]at e;cases e
  have Bk:Inv X z7 σ (upd H c' (.frz oc (.own c'))) {s with heap:=h',toks:=tk}:=by
   refine I.step (g':=s.gens) (d':=s.drawn) (ch:=[]) (λ_ z=>nomatch z) (λb o _ _ _ e n=>?_) (λb o _ _ _ e n=>⟨o.slots,?_⟩) (λb o _ e n=>?_) (λb o _ e=>?_) (λb xs e=>?_) (λb o u e=>?_) (λb qs e=>?_) (λm hm=>?_) (λb u e=>?_) I.bare
   .exact E b o (λz=>by rw[z,i]at n;cases n) e
   .exact E b o (λz=>by rw[z,i]at n;cases n) e
   .rw[aE (Q4 (Q7 (Q0 e) l))];exact n
   .by_cases z:b=P
    .subst z;exact⟨_,G⟩
    .exact⟨o,E b o z e⟩
   .rw[aE (a b _ e)];exact e
   .rw[aE (a b _ e)];exact e
   .rw[aE (a b _ e)];exact e
   .obtain⟨o,es,A2,ho,r⟩:=hm;refine⟨o,es,A2,E _ o (λz=>?_) ho,r⟩;have:=I.free;rw[z,i]at this;cases this
   .by_cases z:b=c'
    .subst z;rw[aM]at e;cases e;exact⟨K,oc,K⟩
    .rw[aE z]at e;by_cases y:b=P
     .subst y;rw[i]at e;cases e;refine⟨ps++#[rawInt pos.line,rawInt pos.col,.ref c'],G,?_,λpos' N e=>?_⟩
      .rw[VH];exact oK B'
      .rw[VH]at e;rcases uf B' e with e|rfl
       .obtain⟨c2,o,vs,t,rfl,q,d⟩:=hc pos' N e;exact⟨c2,o,vs,t,rfl,by rw[aE (a _ _ q)];exact q,d⟩
       .exact⟨c',oc,vs,t,rfl,aM,hd,hv⟩
     .refine (I.hok b u e).stay (λp v w q=>E p v (λy'=>?_) q) (λp q=>?_) (λp xs q=>?_) λp o' u' q=>?_
      .subst y';rcases w with w|w
       .exact y w.symm
       .rw[i]at w;cases w
      .rw[aE (a p _ q)];exact q
      .rw[aE (a p _ q)];exact q
      .rw[aE (a p _ q)];exact q
  have n:upd H c' (.frz oc (.own c')) h'.objs.size=none:=Bk.hok.fresh (PN _);have n0:H h'.objs.size=none:=I.hok.fresh (QD l (Si D2));exact⟨.ref _,_,fin Bk rfl,rfl,h _ c' f _ n0 aM ((je hn).trans (je n)) ⟨oc,vs,t,by rw[aE (aR aM n)];exact aM,hd,hv⟩⟩
abbrev Cx.in1(X:Cx):Cx:={X with A:=X.A.in1}
section
theorem Inv.in1(I:Inv X z7 σ H s):Inv X.in1 z7 σ H s :=
 ⟨⟨I.ok.mod,I.ok.kind,I.ok.glob,I.ok.blt,I.ok.above,I.ok.inj,I.ok.has,I.ok.cab,I.ok.hd,I.ok.frames,I.ok.stk,I.ok.exf,I.ok.bs,I.ok.bsz,I.ok.noex,I.ok.exfs,I.ok.funs,I.ok.frf⟩,I.os,I.bare,I.base,I.loc,I.cell,I.free,I.freeC,I.pin,I.hok,I.len,I.tab⟩
theorem Inv.of1(I:Inv X.in1 z7 σ H s):Inv X z7 σ H s :=
 ⟨⟨I.ok.mod,I.ok.kind,I.ok.glob,I.ok.blt,I.ok.above,I.ok.inj,I.ok.has,I.ok.cab,I.ok.hd,I.ok.frames,I.ok.stk,I.ok.exf,I.ok.bs,I.ok.bsz,I.ok.noex,I.ok.exfs,I.ok.funs,I.ok.frf⟩,I.os,I.bare,I.base,I.loc,I.cell,I.free,I.freeC,I.pin,I.hok,I.len,I.tab⟩
end
noncomputable def bst(lt:O->O->R0):O->O
 |0=>0
 |j+1=>if lt (j+1) (bst lt j) then j+1 else bst lt j
theorem wA(lt:O->O->R0):∀j,bst lt j<=j
 |0=>PN _
 |j+1=>by
  unfold bst;split
  .exact PN _
  .exact Wu (wA lt j)
structure oQ(X:Cx)(σ:St)(z7:J (HL×Tt))(q l:HL)(xs:J V)(Φ:Hp->Prop)(κ:O->V->Hp->Prop)(lt:O->O->R0):Prop where
 lst:∀H,Φ H->H l=Y (.lst xs)
 turn:∀(i:O)(x:V),xs[i]?=Y x->∀(pins':J (HL×Tt))(H:Hp)(s:K')(u:F'),(∀p∈z7,p∈pins')->Inv X.in1 pins' σ H s->Φ H->RelV x u ->
  wpAny (model X.prog X.w) X.A.in1 (call (.ref q) [u]) (EP X.in1 pins' σ λv H'=>Φ H'/\κ i v H'/\∀j v',κ j v' H->κ j v' H') (λ_ _=>False) s
 cmp:∀(i j:O)(x y:V)(pins':J (HL×Tt))(H:Hp)(s:K')(u v:F'),Inv X.in1 pins' σ H s->Φ H->κ i x H->κ j y H->RelV x u->RelV y v ->
  wpAny (model X.prog X.w) X.A.in1 (richCompare .Lt u v) (λr s'=>r=.bool (lt i j)/\Inv X.in1 pins' σ H s') (λ_ _=>False) s
section
variable {q l:HL}{Φ:Hp->Prop}{lt:O->O->R0}{R:XY->K'->Prop}
theorem Inv.turnPin{ps:J (HL×Tt)}{o o':Tt}{t':O}(I:Inv X ((it,o)::ps) σ H s)(k:∀b u,b≠it->s.heap.get? b=Y u->h'.get? b=Y u)(f:h'.get? it=Y o')
  (h1:X.s₀.heap.objs.size<=it) (h3:∀p∈X.pn++ps,p.1≠it) (hc:∀v,o'.data≠.cell v):Inv X ((it,o')::ps) σ H {s with heap:=h',toks:=t'}:=by
 obtain⟨e,n,ne,g,d⟩:=I.pin (it,o) (PR _ (.head _));have h:Inv X ps σ H s:=I.pins_of λp a=>I.pin p (PR _ (.tail _ a))
 have Bk:Inv X ps σ H {s with heap:=h',toks:=t'}:=h.turned k n ne (.inr h1) (λx c hl z=>by obtain⟨v,o2,e2,d2⟩:=I.cell x c hl;subst z;rw[e]at e2;cases e2;exact d v d2) h3
 refine Bk.pins_of λp a=>?_
 rcases P8.mp a with rfl|a
 .exact⟨f,n,ne,g,hc⟩
 .exact Bk.pin p (PR _ a)
theorem Inv.swap{ps:J (HL×Tt)}{a b:HL×Tt}(I:Inv X (a::b::ps) σ H s):Inv X (b::a::ps) σ H s:=I.pins_of λp c=>I.pin p (PR _ (by
 rcases P8.mp c with rfl|c
 .exact .tail _ (.head _)
 .rcases P8.mp c with rfl|c
  .exact .head _
  .exact .tail _ (.tail _ c)))
theorem IZ(KK:oQ X σ z7 q l xs Φ κ lt)(hh:X.A.handled=S)
  (hR:∀H' s' x u,xs[bst lt (xs.length-1)]?=Y x->RelV x u->Inv X z7 σ H' s'->Φ H'->R (.ok (.ret u)) s') :
  ∀(r j:O)(H:Hp)(s:K')(h g:F')(xb kb:V)(c:O)(It D1:HL)(G:Tt),xs.length-(j+1)=r->j+1<=xs.length->X.s₀.heap.objs.size<=It->X.s₀.heap.objs.size<=D1->D1≠It ->
   (∀p∈X.pn++z7,p.1≠It)->(∀p∈X.pn++z7,p.1≠D1) ->
   Inv X.in1 ((D1,seqObj "list" #[h,g] c)::(It,G)::z7) σ H s->G.cls=.type "list_iterator"->G.data=.fields #[.ref l,.int ((j+1:O):Z) 0]->Φ H->xs[bst lt j]?=Y xb->RelV xb h->κ (bst lt j) kb H->RelV kb g ->
   codeAny (model X.prog X.w) X.A (.builtin "min.loop" ⟨[.ref It,.ref q,.ref D1],[]⟩) R s:=by
 have B:(toString "min"++toString ".loop":U2)="min.loop":=by decide
 intro r
 induction r with
 |zero =>
  intro j H s h g xb kb c It D1 G hr hj zI zS i D2 nS I P Q C hb rb T rk;have hin:j+1=xs.length:=⋯
  have pS:=I.pin (D1,seqObj "list" #[h,g] c) (PR _ (.head _));have K:=I.pin (It,G) (PR _ (.tail _ (.head _)));have hl:=KK.lst H C;obtain⟨m,n,rv,eL,_⟩:=I.lst hl;have U:l≠It:=aR hl K.2.1;have hsz:m.toArray.size=xs.length:=by rw[PX,<-rv.length]
  have W:=Vi (prog:=X.prog) (w:=X.w) (A:=X.A.in1) hh It l U m.toArray;refine Tw V5 ?_;rw[Te Ti _];show wpAny _ X.A.in1 (seqItems? (.ref D1) >>= _) _ _ _;refine F1 (SS pS.1 rfl ?_);show wpAny _ X.A.in1 (tryCatch (pyNext (.ref It)) _ >>= _) _ _ _;refine F1 (T3 (W.done _ _ _ ⟨by rw[hsz,<-hin];exact⟨G,K.1,P,Q⟩,⟨_,eL,rfl,n,rfl⟩⟩ λh' y A2=>?_));have I1:Inv X.in1 ((D1,seqObj "list" #[h,g] c)::z7) σ H {s with heap:=h',toks:=y}:=by
   have I0:Inv X.in1 ((D1,seqObj "list" #[h,g] c)::z7) σ H s:=I.pins_of λp a=>I.pin p (PR _ (by
    rcases P8.mp a with rfl|a
    .exact .head _
    .exact .tail _ (.tail _ a)))
   refine I0.turned (λb o A4 e=>A2 b o (by simpa using A4) e) K.2.1 K.2.2.1 (.inr zI) (λx cc hcl z=>?_) λp a=>?_
   .obtain⟨v,o2,e2,d2⟩:=I.cell x cc hcl;subst z;rw[K.1]at e2;cases e2;exact K.2.2.2.2 v d2
   .rcases Ql.mp a with a|a
    .exact D2 p (Qu _ a)
    .rcases P8.mp a with rfl|a
     .exact i
     .exact D2 p (PR _ a)
  have D:=I1.pin (D1,seqObj "list" #[h,g] c) (PR _ (.head _));have s1:=Ud h' D1 (Td λ_=>(#[]:SN F'));show wpAny _ X.A.in1 (updateSeq D1 (λ_=>#[]) >>= _) _ _ _;refine F1 ?_;refine U0 D.1 rfl (F1 (Tz (J' ?_)));have I2:Inv X.in1 z7 σ H {s with heap:=h'.update D1 (Td λ_=>(#[]:SN F')),toks:=y}:=by
   have I0:Inv X.in1 z7 σ H {s with heap:=h',toks:=y}:=I1.pins_of λp a=>I1.pin p (PR _ (.tail _ a))
   refine I0.turned (h':=h'.update D1 (Td λ_=>(#[]:SN F'))) (t':=y) (λb o A4 e=>(s1.2 b A4).trans e) D.2.1 D.2.2.1 (.inr zS) (λx cc hcl z=>?_) nS;obtain⟨v,o2,e2,d2⟩:=I1.cell x cc hcl;subst z;rw[D.1]at e2;cases e2;exact D.2.2.2.2 v d2
  exact hR H _ xb h (by rw[<-hin];exact hb) rb I2.of1 C
 |succ r ih =>
  intro j H s h g xb kb c It D1 G hr hj zI zS i D2 nS I P Q C hb rb T rk;have B':j+1<xs.length:=⋯
  have pS:=I.pin (D1,seqObj "list" #[h,g] c) (PR _ (.head _));have K:=I.pin (It,G) (PR _ (.tail _ (.head _)));have hl:=KK.lst H C;obtain⟨m,n,rv,eL,_⟩:=I.lst hl;have U:l≠It:=aR hl K.2.1;have hsz:m.toArray.size=xs.length:=by rw[PX,<-rv.length]
  have W:=Vi (prog:=X.prog) (w:=X.w) (A:=X.A.in1) hh It l U m.toArray;refine Tw V5 ?_;rw[Te Ti _];show wpAny _ X.A.in1 (seqItems? (.ref D1) >>= _) _ _ _;refine F1 (SS pS.1 rfl ?_);show wpAny _ X.A.in1 (tryCatch (pyNext (.ref It)) _ >>= _) _ _ _;refine F1 (T3 (W.item (j+1) _ _ _ (by rw[hsz];exact B') ⟨⟨G,K.1,P,Q⟩,⟨_,eL,rfl,n,rfl⟩⟩ λv h' y hP hst' A2=>?_));have hv:m[j+1]?=Y v:=by simpa using hP
  obtain⟨x,hx⟩:∃x,xs[j+1]?=Y x:=⟨_,My B'⟩
  obtain⟨v',hv',rx⟩:=rv.get hx;rw[hv]at hv';cases hv';obtain⟨M,hoI',hoc,hod⟩:=id hst'.1;have Bk:Inv X.in1 ((It,M)::(D1,seqObj "list" #[h,g] c)::z7) σ H {s with heap:=h',toks:=y} :=
   I.swap.turnPin (λb o A4 e=>A2 b o (by simpa using A4) e) hoI' zI (λp a=>by
    rcases Ql.mp a with a|a
    .exact D2 p (Qu _ a)
    .rcases P8.mp a with rfl|a
     .exact i
     .exact D2 p (PR _ a)) λvv z=>by rw[hod]at z;cases z
  show wpAny _ X.A.in1 (tryCatch (holding [v] (call (.ref q) [v])) _ >>= _) _ _ _;refine F1 (T3 (T7 (SW (KK.turn (j+1) x hx _ H _ v (λp a=>.tail _ (.tail _ a)) Bk C rx) (λf s2 he=>?_) λ_ _ hF=>hF.elim)));obtain⟨kv,H2,J2,rk2,E,N,hst⟩:=he;show wpAny _ X.A.in1 (tryCatch (holding [v,f] (richCompare .Lt f g >>= _)) _ >>= _) _ _ _;refine F1 (T3 (T7 (F1 (SW (KK.cmp (j+1) (bst lt j) kv kb _ H2 s2 f g J2 E N (hst _ _ T) rk2 rk) (λrr s3 hc3=>?_) λ_ _ hF=>hF.elim))));obtain⟨rfl,J3⟩:=hc3;refine F1 (T7 (SY ?_));refine F1 (Tz (J' ?_));have pS3:=J3.pin (D1,seqObj "list" #[h,g] c) (PR _ (.tail _ (.head _)));cases hb':lt (j+1) (bst lt j) with
  |true =>
   have s1:=Ud s3.heap D1 (Td λ_=>#[v,f]);obtain⟨c2,hc2⟩:∃c2,(s3.heap.update D1 (Td λ_=>#[v,f])).get? D1=Y (seqObj "list" #[v,f] c2):=⟨_,Xd pS3.1 λ_=>#[v,f]⟩
   dsimp[Sn];refine F1 ?_;refine U0 pS3.1 rfl (F1 (Tz ?_));rw[B];have J4:Inv X.in1 ((D1,seqObj "list" #[v,f] c2)::(It,M)::z7) σ H2 {s3 with heap:=s3.heap.update D1 (Td λ_=>#[v,f]),toks:=s3.toks} :=
    J3.swap.turnPin (λb o A4 e=>(s1.2 b A4).trans e) hc2 zS (λp a=>by
     rcases Ql.mp a with a|a
     .exact nS p (Qu _ a)
     .rcases P8.mp a with rfl|a
      .exact i.symm
      .exact nS p (PR _ a)) λvv z=>by cases z
   have eb:bst lt (j+1)=j+1:=by unfold bst;rw[FC hb']
   exact J' ⟨TH Ti _,ih (j+1) H2 _ v f x kv c2 It D1 M ⋯ B' zI zS i D2 nS J4 hoc hod E (by rw[eb];exact hx) rx (by rw[eb];exact N) rk2⟩
  |false =>
   dsimp[Qb,SK];refine F1 (Tz ?_);rw[B];have eb:bst lt (j+1)=bst lt j:=by rw[bst,GC (by rw[hb'];decide)]
   exact J' ⟨TH Ti _,ih (j+1) H2 _ h g xb kb c It D1 M ⋯ B' zI zS i D2 nS J3.swap hoc hod E (by rw[eb];exact hb) rb (by rw[eb];exact hst _ _ T) rk⟩
theorem M5{E:F'->K'->Prop}(KK:oQ X σ z7 q l xs Φ κ lt)(hh:X.A.handled=S)(I:Inv X z7 σ H s)(y:Φ H)(h:0<xs.length)
  (hQ:∀H' s' x u,xs[bst lt (xs.length-1)]?=Y x->RelV x u->Inv X z7 σ H' s'->Φ H'->Q u s') :
  wpAny (model X.prog X.w) X.A (call (.builtin "min") [.ref l] [(SV "key",.ref q)]) Q E s:=by
 have f:(toString "min"++toString ".loop":U2)="min.loop":=by decide
 have hl:=KK.lst H y;obtain⟨g,n,rv,P,_⟩:=I.lst hl;have R:s.heap.IsList l g.toArray:=⟨_,P,rfl,n,rfl⟩
 refine kmk_tree F.kind_min F.plain_min F.entry_min (kmk_min_key _ _) ?_;show wpAny _ X.A.in1 (Th "min" ["key", "default"] 0 ⟨[],[(SV "key",.ref q)]⟩ >>= _) _ _ s;refine F1 (X5 (show Th "min" ["key", "default"] 0 ⟨[],[(SV "key",.ref q)]⟩=pure [Y (.ref q),S] from rfl) ?_);refine F1 (J' ?_);refine F1 (Um R ?_);refine F1 (wpAny_newList ?_ (QH _));rw[f];have T:(s.heap.push {cls:=.type "list_iterator",data:=.fields #[.ref l,.int 0 0]}).objs.size=s.heap.objs.size+1:=size_push' ..;have U:l<s.heap.objs.size:=Q0 P;have A2:l≠s.heap.objs.size:=Q4 U;have i:(s.heap.push {cls:=.type "list_iterator",data:=.fields #[.ref l,.int 0 0]}).objs.size≠s.heap.objs.size:=by rw[T];exact QT (R9 _)
 have A4:∀p∈X.pn++z7,p.1≠s.heap.objs.size:=λp a=>Q4 (Q0 (I.pin p a).1)
 have nS:∀p∈X.pn++z7,p.1≠(s.heap.push {cls:=.type "list_iterator",data:=.fields #[.ref l,.int 0 0]}).objs.size:=λp a=>by rw[T];exact Q4 (Qy (Q0 (I.pin p a).1))
 refine J' ⟨TH Ti _,?_⟩;have gI:((s.heap.push {cls:=.type "list_iterator",data:=.fields #[.ref l,.int 0 0]}).push (seqObj "list" #[] 0)).get? s.heap.objs.size=Y {cls:=.type "list_iterator",data:=.fields #[.ref l,.int 0 0]} :=
  P5 _ (PY _ rfl)
 have gS:((s.heap.push {cls:=.type "list_iterator",data:=.fields #[.ref l,.int 0 0]}).push (seqObj "list" #[] 0)).get? (s.heap.push {cls:=.type "list_iterator",data:=.fields #[.ref l,.int 0 0]}).objs.size=Y (seqObj "list" #[] 0):=PY _ rfl;have zI:X.s₀.heap.objs.size<=s.heap.objs.size:=I.sz;have zS:X.s₀.heap.objs.size<=(s.heap.push {cls:=.type "list_iterator",data:=.fields #[.ref l,.int 0 0]}).objs.size:=by rw[T];exact Wu zI
 generalize eSa:(s.heap.push {cls:=.type "list_iterator",data:=.fields #[.ref l,.int 0 0]}).objs.size=D1 at *;generalize eIa:s.heap.objs.size=It at *;have I0:Inv X.in1 z7 σ H {s with heap:=(s.heap.push {cls:=.type "list_iterator",data:=.fields #[.ref l,.int 0 0]}).push (seqObj "list" #[] 0),toks:=s.toks}:=I.in1.kept λb u e=>P5 _ (P5 _ e)
 have j:s.heap.objs.size<=It:=Wc eIa;have m:s.heap.objs.size<=D1:=⋯
 have I1:Inv X.in1 ((D1,seqObj "list" #[] 0)::(It,{cls:=.type "list_iterator",data:=.fields #[.ref l,.int 0 0]})::z7) σ H {s with heap:=(s.heap.push {cls:=.type "list_iterator",data:=.fields #[.ref l,.int 0 0]}).push (seqObj "list" #[] 0),toks:=s.toks}:=by
  refine I0.pins_of λp a=>?_
  rcases P8.mp a with rfl|a
  .exact⟨gS,I.hok.fresh m,QT (Q7 I.lt m),I.nofs m,λv z=>by cases z⟩
  .rcases P8.mp a with rfl|a
   .exact⟨gI,I.hok.fresh j,QT (Q7 I.lt j),I.nofs j,λv z=>by cases z⟩
   .exact I0.pin p (PR _ a)
 have hsz:g.toArray.size=xs.length:=by rw[PX,<-rv.length]
 have W:=Vi (prog:=X.prog) (w:=X.w) (A:=X.A.in1) hh It l A2 g.toArray;refine Tw V5 ?_;rw[Te Ti _];show wpAny _ X.A.in1 (seqItems? (.ref _) >>= _) _ _ _;refine F1 (SS gS rfl ?_);show wpAny _ X.A.in1 (tryCatch (pyNext (.ref It)) _ >>= _) _ _ _;refine F1 (T3 (W.item 0 _ _ _ (by rw[hsz];exact h) ⟨⟨_,gI,rfl,rfl⟩,⟨_,P5 _ (P5 _ P),rfl,n,rfl⟩⟩ λv h' tk' hP B hk'=>?_));have hv:g[0]?=Y v:=by simpa using hP
 obtain⟨x,C⟩:∃x,xs[0]?=Y x:=⟨_,My h⟩
 obtain⟨v',D,rx⟩:=rv.get C;rw[hv]at D;cases D;obtain⟨r,G,hoc,K⟩:=id B.1;have Bk:Inv X.in1 ((It,r)::(D1,seqObj "list" #[] 0)::z7) σ H {s with heap:=h',toks:=tk'} :=
  I1.swap.turnPin (λb o nb e=>hk' b o (by simpa using nb) e) G zI (λp a=>by
   rcases Ql.mp a with a|a
   .exact A4 p (Qu _ a)
   .rcases P8.mp a with rfl|a
    .exact i
    .exact A4 p (PR _ a)) λvv z=>by rw[K]at z;cases z
 show wpAny _ X.A.in1 (tryCatch (holding [v] (call (.ref q) [v])) _ >>= _) _ _ _;refine F1 (T3 (T7 (SW (KK.turn 0 x C _ H _ v (λp a=>.tail _ (.tail _ a)) Bk y rx) (λc s2 he=>?_) λ_ _ hF=>hF.elim)));obtain⟨kv,H2,J2,rk2,B',M,_⟩:=he;have N:=J2.pin (D1,seqObj "list" #[] 0) (PR _ (.tail _ (.head _)));have s1:=Ud s2.heap D1 (Td λ_=>#[v,c]);obtain⟨D2,hc2⟩:∃D2,(s2.heap.update D1 (Td λ_=>#[v,c])).get? D1=Y (seqObj "list" #[v,c] D2):=⟨_,Xd N.1 λ_=>#[v,c]⟩
 show wpAny _ X.A.in1 (updateSeq D1 (λ_=>#[v,c]) >>= _) _ _ _;refine F1 ?_;refine U0 N.1 rfl ?_;rw[f];have J4:Inv X.in1 ((D1,seqObj "list" #[v,c] D2)::(It,r)::z7) σ H2 {s2 with heap:=s2.heap.update D1 (Td λ_=>#[v,c]),toks:=s2.toks} :=
  J2.swap.turnPin (λb o nb e=>(s1.2 b nb).trans e) hc2 zS (λp a=>by
   rcases Ql.mp a with a|a
   .exact nS p (Qu _ a)
   .rcases P8.mp a with rfl|a
    .exact i.symm
    .exact nS p (PR _ a)) λvv z=>by cases z
 exact J' ⟨TH Ti _,IZ KK hh (λH' s' x u C ru Bk a=>hQ H' s' x u C ru Bk a) _ 0 H2 _ v c x kv D2 It D1 r rfl h zI zS i A4 nS J4 hoc K B' C rx M rk2⟩
end
def ae(i:O):Ds->Rs PyData:=λδ=>match δ[i]? with
 |some (Y d)=>.ok d
 |_=>.no
def gC(d:L):Ds->Rs PyData:=λ_=>.ok d
def g1(f:L->D' L)(a:Ds->Rs L):Ds->Rs PyData:=λδ=>(a δ).bind λx=>Rs.eu (f x)
def g2(f:L->L->D' L)(a b:Ds->Rs L):Ds->Rs PyData:=λδ=>(a δ).bind λx=>(b δ).bind λy=>Rs.eu (f x y)
def gF(f:J L->D' L)(as:Ds->Rs (J L)):Ds->Rs PyData:=λδ=>(as δ).bind λds=>Rs.eu (f ds)
def ah:Ds->Rs (J L):=λ_=>.ok []
def af(a:Ds->Rs L)(r:Ds->Rs (J L)):Ds->Rs (J L):=λδ=>(a δ).bind λx=>(r δ).bind λxs=>.ok (x::xs)
def f9(as:Ds->Rs (J L)):Ds->Rs PyData:=λδ=>(as δ).bind λds=>.ok (.tuple ds)
def g9(as:Ds->Rs (J L)):Ds->Rs PyData:=λδ=>(as δ).bind λds=>.ok (.list ds)
def ao(gf:J L->Rs L)(as:Ds->Rs (J L)):Ds->Rs PyData:=λδ=>(as δ).bind gf
def truth:L->Rs R0
 |.bool b=>.ok b
 |_=>.no
def gT(a:Ds->Rs L):Ds->Rs Bool:=λδ=>(a δ).bind truth
def iT(a:Ds->Rs R0):Ds->Rs Bool:=λδ=>(a δ).bind λb=>.ok (!b)
def jh(a b:Ds->Rs R0):Ds->Rs Bool:=λδ=>(a δ).bind λx=>if x=true then b δ else .ok false
def cOr(a b:Ds->Rs R0):Ds->Rs Bool:=λδ=>(a δ).bind λx=>if x=true then .ok true else b δ
def DJ(a b:Ds->Rs L):Ds->Rs PyData:=λδ=>(a δ).bind λx=>(truth x).bind λt=>if t=true then b δ else .ok (.bool false)
def gOr(a b:Ds->Rs L):Ds->Rs PyData:=λδ=>(a δ).bind λx=>(truth x).bind λt=>if t=true then .ok (.bool true) else b δ
def O5(a:Ds->Rs L):Ds->Rs PyData:=λδ=>(a δ).bind λx=>(truth x).bind λt=>.ok (.bool (!t))
def gIf(c:Ds->Rs R0)(a b:Ds->Rs L):Ds->Rs PyData:=λδ=>(c δ).bind λx=>if x=true then a δ else b δ
section
variable {a b c:Sq}{ga gb gc:Ds->Rs L}
theorem LA(i:O)(c:X.N[i]?=Y x)(hv:Vis X.env.scope x)(hd:(x==("__debug__":M'))=false)
  (a:(x==("__classdict__":M'))=false):PD X E (.Name x pos) (ae i) :=
 (ku c hv hd a).imp λσ H Q b=>by
  obtain⟨A,δ,R,o⟩:=b;unfold ae at o;split at o
  .rename_i d e;obtain⟨v,e1,h⟩:=R.get i d e;exact⟨v,e1,o v H (aA.refl H) h⟩
  .exact o.elim
theorem FK{d:L}(h:PE X e (tC v))(hi:∀K H,Is K H d v):PD X E e (gC d):=h.imp λσ H Q a=>(by obtain⟨A,δ,R,o⟩:=a;exact o v H (aA.refl H) (hi _ _))
theorem Lp{i j pos}:PD X E (.Constant (.int i) j pos) ↑i:=FK iC λ_ _=>bN
theorem N7{i j pos}:PD X E (.Constant (.bool i) j pos) (gC (.bool i)):=FK N0 λ_ _=>is_bool
theorem Ms{j pos}:PD X E (.Constant .none j pos) (gC .none):=FK MD λ_ _=>is_none
theorem LO{i j pos}:PD X E (.Constant (.str i) j pos) (gC (.str i)):=FK Nr λ_ _=>F5
theorem Jk{i:Z}(hm:∃t,X.mg x=Y (.int i t))(a:Gl X x)(hd:(x==("__debug__":M'))=false):PD X E (.Name x pos) ↑i:=by obtain⟨t,hm⟩:=hm;exact FK (Kd (v:=.int i) a hm ⟨_,rfl⟩ hd) λ_ _=>bN
def OpD(K:N')(f:L->L->D' L)(r:R2):Prop :=
 ∀(d1 d2 d:L)(x y:V)(H:Hp)(A:J HL)(Q:VK),f d1 d2=Y d->Ls H A->Is K (del H A) d1 x->Is K (del H A) d2 y->(∀v H',aA H H'->Is K (del H' A) d v->Q v H')->r x y H Q
theorem g2.read{r:R2}{Q:VK}(b:OpD K f r)(R:eF K H A δ σ)(o:jo K E A H (g2 f ga gb δ) Q) :
  tOp r (eD K E ga) (eD K E gb) σ H Q:=by
 unfold g2 at o;refine eD.run R (λd1 e1 v H1 a c h1=>?_) (λC e1 H' s'=>?_) (λe1=>?_)
 .rw[e1]at o;refine eD.run c (λd2 e2 u H2 s2 R2 h2=>?_) (λC e2 H' s'=>?_) (λe2=>?_)
  .dsimp[Rs.ag,e2]at o;cases e3:f d1 d2 with
   |none=>rw[e3]at o;exact o.elim
   |some d =>rw[e3]at o;exact b d1 d2 d v u H2 A Q e3 R2.ls (h1.same s2.del) h2 λw H' s q=>o w H' (a.trans (s2.trans s)) q
  .dsimp[Rs.ag,e2,Rs.eZ]at o;exact o H' (a.trans s')
  .dsimp[Rs.ag,e2,Rs.bH]at o;exact o
 .rw[e1]at o;exact o H' s'
 .rw[e1]at o;exact o
theorem iA{r:R2}(g:OpD X.K f r)(ha:PD X E a ga)(h:PD X E b gb)(mk:∀{ta tb:TE},PE X a ta->PE X b tb->PE X e (tOp r ta tb)):PD X E e (g2 f ga gb) :=
 (mk ha h).imp λσ H Q c=>(by obtain⟨A,δ,R,o⟩:=c;exact g2.read g R o)
theorem nA{r:R2}(g:OpD X.K f r)(ha:PD X E a ga)(i:PD X E b gb)(mk:∀{ta tb:TE},PE X a ta->PE X b tb->PT X e (K7 (tOp r ta tb))):PCD X E e (gT (g2 f ga gb)) :=
 (mk ha i).imp λσ H Q c=>by
  obtain⟨A,δ,R,o⟩:=c;refine g2.read (Q:=λx H'=>∃k,x=.bl k/\Q k H') g R ?_;unfold gT at o;cases q:g2 f ga gb δ with
  |no=>rw[q]at o;exact o
  |rz C=>rw[q]at o;exact o
  |ok d =>
   rw[q]at o;cases d with
   |bool k=>exact λv H' s h=>⟨k,h.ofBool,o H' s⟩
   |_=>exact o.elim
noncomputable def dI(f:Z->Z->D' L):L->L->D' L
 |.int i,.int j=>f i j
 |_,_=>S
theorem Cd{f:Z->Z->D' L}{d1 d2 d:L}(h:dI f d1 d2=Y d):∃i j,d1=.int i/\d2=.int j/\f i j=Y d:=by
 unfold dI at h;split at h
 .exact⟨_,_,rfl,rfl,h⟩
 .cases h
def cK:=dI λi j=>⇑(i-j)
def fE:=dI λi j=>if 0<j then ⇑(i % j) else S
def jq:=dI λi j=>if 0<j/\j<1073741824 then ⇑(i / j) else S
def Hu:=dI λi j=>if 0<=j/\j<=1000000/\i.natAbs<2 ^ 64 then ⇑(i ^ j.toNat) else S
def dLt:=dI λi j=>Y (.bool (decide (i<j)))
def dLe:=dI λi j=>Y (.bool (decide (i<=j)))
def dGt:=dI λi j=>Y (.bool (decide (j<i)))
def dGe:=dI λi j=>Y (.bool (decide (j<=i)))
theorem kx{f:Z->Z->L}{v:Z->Z->V}(hv:∀i j K H,Is K H (f i j) (v i j)):OpD K (dI λi j=>Y (f i j)) (rI0 v):=λd1 d2 d x y H A Q e hA h1 h2 k=>by obtain⟨i,j,rfl,rfl,e⟩:=Cd e;cases e;exact⟨i,j,h1.ofInt,h2.ofInt,k _ H (aA.refl H) (hv _ _ _ _)⟩
theorem FN{C a:Z->Z->Prop}[∀i j,Decidable (a i j)]{f:Z->Z->L}{v:Z->Z->V}(hc:∀i j,a i j->C i j)(hv:∀i j K H,Is K H (f i j) (v i j)):OpD K (dI λi j=>if a i j then Y (f i j) else S) (rI C v):=λd1 d2 d x y H A Q e hA h1 h2 k=>by
 obtain⟨i,j,rfl,rfl,e2⟩:=Cd e;by_cases z:a i j
 .dsimp[FC z]at e2;cases e2;exact⟨i,j,h1.ofInt,h2.ofInt,hc i j z,k _ H (aA.refl H) (hv _ _ _ _)⟩
 .dsimp[GC z]at e2;cases e2
theorem Lo(ha:PD X E a ga)(c:PD X E b gb):PD X E (.BinOp a .Sub b pos) (g2 cK ga gb):=iA (kx λ_ _ _ _=>bN) ha c (fY Mr)
theorem LV(ha:PD X E a ga)(c:PD X E b gb):PD X E (.BinOp a .Mod b pos) (g2 fE ga gb):=iA (FN (λ_ _ h=>h) λ_ _ _ _=>bN) ha c (fY rn)
theorem LB(ha:PD X E a ga)(c:PD X E b gb):PD X E (.BinOp a .FloorDiv b pos) (g2 jq ga gb):=iA (FN (C:=NL) (λ_ _ h=>h) λ_ _ _ _=>bN) ha c (fY JS)
theorem L9(ha:PD X E a ga)(c:PD X E b gb):PD X E (.BinOp a .Pow b pos) (g2 Hu ga gb):=iA (FN (C:=OF) (λ_ _ h=>h) λ_ _ _ _=>bN) ha c (fY Lv)
theorem NJ(ha:PD X E a ga)(c:PD X E b gb):PD X E (.Compare a [.Lt] [b] pos) (g2 dLt ga gb):=iA (kx λ_ _ _ _=>is_bool) ha c λh1 h2=>nV F2 h1 h2 (jI _)
theorem OB(ha:PD X E a ga)(c:PD X E b gb):PD X E (.Compare a [.LtE] [b] pos) (g2 dLe ga gb):=iA (kx λ_ _ _ _=>is_bool) ha c λh1 h2=>nV C4 h1 h2 (jI _)
theorem OG(ha:PD X E a ga)(c:PD X E b gb):PD X E (.Compare a [.Gt] [b] pos) (g2 dGt ga gb):=iA (kx λ_ _ _ _=>is_bool) ha c λh1 h2=>nV La h1 h2 (jI _)
theorem Mp(ha:PD X E a ga)(c:PD X E b gb):PCD X E (.Compare a [.Lt] [b] pos) (gT (g2 dLt ga gb)):=nA (kx λ_ _ _ _=>is_bool) ha c λh1 h2=>lZ F2 h1 h2 (jI _)
theorem MU(ha:PD X E a ga)(c:PD X E b gb):PCD X E (.Compare a [.LtE] [b] pos) (gT (g2 dLe ga gb)):=nA (kx λ_ _ _ _=>is_bool) ha c λh1 h2=>lZ C4 h1 h2 (jI _)
theorem Nq(ha:PD X E a ga)(c:PD X E b gb):PCD X E (.Compare a [.Gt] [b] pos) (gT (g2 dGt ga gb)):=nA (kx λ_ _ _ _=>is_bool) ha c λh1 h2=>lZ La h1 h2 (jI _)
open PySem.SeqAt in
def dEq(x y:L):D' PyData:=if aO x&&aO y&&shaped x&&shaped y then Y (.bool (SX x y)) else S
open PySem.SeqAt in
def dNe(x y:L):D' PyData:=if aO x&&aO y&&shaped x&&shaped y then Y (.bool (!SX x y)) else S
open PySem.SeqAt in
theorem FR:OpD K dEq (λx y H Q=>∃d e,IsD K H d x/\IsD K H e y/\shaped d=true/\shaped e=true/\Q (.bl (SX d e)) H):=λd1 d2 d x y H A Q e hA h1 h2 k=>by
 unfold dEq at e;split at e
 .rename_i z;dsimp[P9]at z;cases e;exact⟨d1,d2,(h1.same aB).isd z.1.1.1,(h2.same aB).isd z.1.1.2,z.1.2,z.2,k _ H (aA.refl H) is_bool⟩
 .cases e
open PySem.SeqAt in
theorem Mu:OpD K dNe (λx y H Q=>∃d e,IsD K H d x/\IsD K H e y/\shaped d=true/\shaped e=true/\Q (.bl (!SX d e)) H):=λd1 d2 d x y H A Q e hA h1 h2 k=>by
 unfold dNe at e;split at e
 .rename_i z;dsimp[P9]at z;cases e;exact⟨d1,d2,(h1.same aB).isd z.1.1.1,(h2.same aB).isd z.1.1.2,z.1.2,z.2,k _ H (aA.refl H) is_bool⟩
 .cases e
theorem Ox(c:X.A.units+64<cLine)(ha:PD X E a ga)(e:PD X E b gb):PD X E (.Compare a [.Eq] [b] pos) (g2 dEq ga gb):=iA FR ha e λh1 h2=>nV (AD c) h1 h2 (jI _)
theorem ND(c:X.A.units+64<cLine)(ha:PD X E a ga)(e:PD X E b gb):PCD X E (.Compare a [.Eq] [b] pos) (gT (g2 dEq ga gb)):=nA FR ha e λh1 h2=>lZ (AD c) h1 h2 (jI _)
theorem Nn(c:X.A.units+64<cLine)(ha:PD X E a ga)(e:PD X E b gb):PCD X E (.Compare a [.NotEq] [b] pos) (gT (g2 dNe ga gb)):=nA Mu ha e λh1 h2=>lZ (Nl c) h1 h2 (jI _)
noncomputable def fN:L->R0
 |.none=>true
 |_=>false
def p8(x:L):D' PyData:=Y (.bool (fN x))
def cV(x:L):D' PyData:=Y (.bool (!fN x))
theorem g1.read{tt:(VK)->VK}{f:L->D' L}{Q:VK}(R:eF K H A δ σ)(o:jo K E A H (g1 f ga δ) Q)
  (b:∀d1 d x H',f d1=Y d->Ls H' A->aA H H'->Is K (del H' A) d1 x->(∀v H2,aA H' H2->Is K (del H2 A) d v->Q v H2)->tt Q x H'):eD K E ga σ H (tt Q):=by
 unfold g1 at o;refine eD.run R (λd1 e1 v H1 a c h1=>?_) (λC e1 H' s'=>?_) (λe1=>?_)
 .dsimp[e1,Rs.ag]at o;cases e3:f d1 with
  |none=>rw[e3]at o;exact o.elim
  |some d=>rw[e3]at o;exact b d1 d v H1 e3 c.ls a h1 λw H' s q=>o w H' (a.trans s) q
 .rw[e1]at o;exact o H' s'
 .rw[e1]at o;exact o
theorem Bp{d:L}(h:Is K H d v):decide (v=.non)=fN d:=by
 by_cases z:v=.non
 .rw[O' z,h.isNone.mp z];rfl
 .rw[L' z];have:d≠.none:=λq=>z (h.isNone.mpr q)
  cases d <;> first|(cases this rfl)|rfl
theorem Ma{j pos'}(ha:PD X E a ga):PD X E (.Compare a [.Is] [.Constant .none j pos'] pos) (g1 p8 ga) :=
 (MG (FG ha)).imp λσ H Q ⟨A,δ,R,o⟩=>g1.read (tt:=λQ x H1=>Q (.bl (decide (x=.non))) H1) R o λd1 d x H' e _ _ h k=>by cases e;rw[Bp h];exact k _ H' (aA.refl _) is_bool
theorem AR{t:TE}(h:PT X e (tB t))(k:∀σ H Q,eD X.K E ga σ H Q->t σ H Q):PCD X E e (gT ga):=h.imp λσ H Q ⟨A,δ,R,o⟩=>k σ H _ ⟨A,δ,R,by
 unfold gT at o;cases q:ga δ with
 |no=>rw[q]at o;exact o
 |rz C=>rw[q]at o;exact o
 |ok d =>
  rw[q]at o;cases d with
  |bool c=>exact λv H' s h=>⟨c,h.ofBool,o H' s⟩
  |_=>exact o.elim⟩
theorem IU(h:PD X E e ga)(a:∀whole,isTrue e X.env whole=(do let v <-whole;standAt e.pos;holding [v] (truthy v))):PCD X E e (gT ga):=AR (Nz h a) λ_ _ _ h=>h
theorem KH{j pos'}(ha:PD X E a ga):PCD X E (.Compare a [.Is] [.Constant .none j pos'] pos) (gT (g1 p8 ga)) :=
 AR (AL (FG ha)) λσ H Q ⟨A,δ,R,o⟩=>g1.read (tt:=λQ x H1=>Q (.bl (decide (x=.non))) H1) R o λd1 d x H' e _ _ h k=>by cases e;rw[Bp h];exact k _ H' (aA.refl _) is_bool
theorem GA{j pos'}(ha:PD X E a ga):PCD X E (.Compare a [.IsNot] [.Constant .none j pos'] pos) (gT (g1 cV ga)) :=
 AR (AL (Jw ha)) λσ H Q ⟨A,δ,R,o⟩=>g1.read (tt:=λQ x H1=>Q (.bl (!decide (x=.non))) H1) R o λd1 d x H' e _ _ h k=>by cases e;rw[Bp h];exact k _ H' (aA.refl _) is_bool
theorem FI{ca:Ds->Rs R0}{f:R0->Rs R0}{Q:R0->Hp->Prop}{t:R0->Hp->Prop}(R:eF K H A δ σ)(o:zC E H ((ca δ).bind f) Q)
  (k:∀b H1,aA H H1->eF K H1 A δ σ->zC E H1 (f b) Q->t b H1):cD K E ca σ H t:=by
 refine cD.run R (λb e H1 a c=>?_) (λC e H' s'=>?_) (λe=>?_)
 .rw[e]at o;exact k b H1 a c (zC.mono (show zC E H (f b) Q from o) a)
 .rw[e]at o;exact o H' s'
 .rw[e]at o;exact o
variable {ca cb:Ds->Rs R0}{rest:J Sq}
theorem Kg(ha:PCD X E a ca):PCD X E (.UnaryOp .Not a pos) (iT ca):=(Nb ha).imp λσ H Q c=>(by obtain⟨A,δ,R,o⟩:=c;exact FI R o λb H1 s1 R1 o=>o H1 (aA.refl _))
theorem Hb(ha:PCD X E a ca):PWD X E (.BoolOp .And [a] pos) ca:=IH ha
theorem J9(ha:PCD X E a ca):PWD X E (.BoolOp .Or [a] pos) ca:=MK ha
theorem Cc(ha:PCD X E a ca)(c:PWD X E (.BoolOp .And (b::rest) pos) cb):PWD X E (.BoolOp .And (a::b::rest) pos) (jh ca cb):=PW.imp (LS ha c) λσ H Q ⟨A,δ,R,o⟩=>FI R o λb H1 s1 e o=>by
 cases b with
 |true=>exact⟨A,δ,e,o⟩
 |false=>exact o H1 (aA.refl _)
theorem G9(ha:PCD X E a ca)(c:PWD X E (.BoolOp .Or (b::rest) pos) cb):PWD X E (.BoolOp .Or (a::b::rest) pos) (cOr ca cb):=PW.imp (Oh ha c) λσ H Q ⟨A,δ,R,o⟩=>FI R o λb H1 s1 e o=>by
 cases b with
 |false=>exact⟨A,δ,e,o⟩
 |true=>exact o H1 (aA.refl _)
theorem K8(h:PWD X E e ca):PCD X E e ca:=PW.pt h
theorem Lc{f:L->Rs L}{Q:VK}{t:VK}(R:eF K H A δ σ)(o:jo K E A H ((ga δ).bind f) Q)
  (k:∀d v H1,aA H H1->eF K H1 A δ σ->Is K (del H1 A) d v->jo K E A H1 (f d) Q->t v H1):eD K E ga σ H t:=by
 refine eD.run R (λd e v H1 a b h1=>?_) (λC e H' s'=>?_) (λe=>?_)
 .rw[e]at o;exact k d v H1 a b h1 (jo.mono (show jo K E A H (f d) Q from o) a)
 .rw[e]at o;exact o H' s'
 .rw[e]at o;exact o
theorem tY{d:L}{f:R0->Rs L}{Q:VK}(o:jo K E A H ((truth d).bind f) Q):∃t,d=.bool t/\jo K E A H (f t) Q:=by
 cases d with
 |bool t=>exact⟨t,rfl,o⟩
 |_=>exact o.elim
theorem MW{op}(ha:PD X E a ga):PD X E (.BoolOp op [a] pos) ga:=LY ha
theorem MP(ha:PD X E a ga)(c:PD X E (.BoolOp .And (b::rest) pos) gb):PD X E (.BoolOp .And (a::b::rest) pos) (DJ ga gb):=(M3 ha c).imp λσ H Q ⟨A,δ,R,o⟩=>Lc R o λd v H1 s1 e h1 o=>by
 obtain⟨t,rfl,o⟩:=tY o;refine⟨t,h1.ofBool,?_⟩;cases t with
 |true=>exact⟨A,δ,e,o⟩
 |false=>exact o _ H1 (aA.refl _) is_bool
theorem Oj(ha:PD X E a ga)(c:PD X E (.BoolOp .Or (b::rest) pos) gb):PD X E (.BoolOp .Or (a::b::rest) pos) (gOr ga gb):=(Ov ha c).imp λσ H Q ⟨A,δ,R,o⟩=>Lc R o λd v H1 s1 e h1 o=>by
 obtain⟨t,rfl,o⟩:=tY o;refine⟨t,h1.ofBool,?_⟩;cases t with
 |false=>exact⟨A,δ,e,o⟩
 |true=>exact o _ H1 (aA.refl _) is_bool
theorem NO(hc:PCD X E c ca)(ha:PD X E a ga)(h:PD X E b gb):PD X E (.IfExp c a b pos) (gIf ca ga gb):=(G1 hc ha h).imp λσ H Q f=>by
 obtain⟨A,δ,R,o⟩:=f;unfold gIf at o;refine cD.run R (λt e H1 i g=>?_) (λC e H' s'=>?_) (λe=>?_)
 .rw[e]at o;have o:=jo.mono (show jo X.K E A H (if t=true then ga δ else gb δ) Q from o) i;cases t with
  |true=>exact⟨A,δ,g,o⟩
  |false=>exact⟨A,δ,g,o⟩
 .rw[e]at o;exact o H' s'
 .rw[e]at o;exact o
def lq:L->D' L
 |.int i=>⇑(-i)
 |_=>S
theorem Ni(ha:PD X E a ga):PD X E (.UnaryOp .USub a pos) (g1 lq ga):=(OO Me ha).imp λσ H Q ⟨A,δ,R,o⟩=>g1.read (tt:=λQ x H1=>∃i,x=.int i/\Q (.int (-i)) H1) R o λd1 d x H' e _ _ h k=>by
 cases d1 with
 |int i=>cases e;exact⟨i,h.ofInt,k _ H' (aA.refl _) bN⟩
 |_=>cases e
theorem KW:PAD X E [] ah:=⟨gZ.imp λσ H Q a=>(by obtain⟨A,δ,R,o⟩:=a;exact o [] H (aA.refl _) dw),λδ ds e=>by cases e;rfl⟩
theorem HV(ha:PD X E a ga)(b:PAD X E es gs)(f:starEach (a::es) X.env=(false,eval a X.env)::starEach es X.env):PAD X E (a::es) (af ga gs):=by
 refine⟨(e9 ha b.1 f).imp λσ H Q ⟨A,δ,R,o⟩=>?_,λδ ds e=>?_⟩
 .unfold af at o;refine eD.run R (λd e v H1 c g h1=>?_) (λC e H' s'=>?_) (λe=>?_)
  .dsimp[e,Rs.ag]at o;refine aD.run g (λds e2 vs H2 s2 R2 h2=>?_) (λC e2 H' s'=>?_) (λe2=>?_)
   .dsimp[e2,Rs.ag]at o;exact o _ H2 (c.trans s2) (cZ (h1.same s2.del) h2)
   .dsimp[e2,Rs.eZ]at o;exact o H' (c.trans s')
   .dsimp[e2,Rs.bH]at o;exact o
  .dsimp[e,Rs.eZ]at o;exact o H' s'
  .dsimp[e,Rs.bH]at o;exact o
 .unfold af at e;cases q:ga δ with
  |ok d =>
   cases q2:gs δ with
   |ok l =>dsimp[q,q2,Rs.ag]at e;cases e;simp[b.2 δ l q2]
   |rz C=>dsimp[q,q2,Rs.ag,Rs.eZ]at e;cases e
   |no=>dsimp[q,q2,Rs.ag,Rs.bH]at e;cases e
  |rz C=>dsimp[q,Rs.eZ]at e;cases e
  |no=>dsimp[q,Rs.bH]at e;cases e
theorem vH{f:J L->Rs L}{Q:VK}{t:J V->Hp->Prop}(R:eF K H A δ σ)(o:jo K E A H ((gs δ).bind f) Q)
  (k:∀ds vs H1,gs δ=.ok ds->aA H H1->eF K H1 A δ σ->Iss K (del H1 A) ds vs->jo K E A H1 (f ds) Q->t vs H1):aD K E gs σ H t:=by
 refine aD.run R (λd e v H1 a b h1=>?_) (λC e H' s'=>?_) (λe=>?_)
 .rw[e]at o;exact k d v H1 e a b h1 (jo.mono (show jo K E A H (f d) Q from o) a)
 .rw[e]at o;exact o H' s'
 .rw[e]at o;exact o
theorem Ll{x1}(h:PAD X E es gs)(hl:es.length<=1000):PD X E (.Tuple es x1 pos) (f9 gs):=(MI h.1).imp λσ H Q ⟨A,δ,R,o⟩=>vH R o λds vs H1 e s1 b h1 o=>by have n:=h.2 δ ds e;have m:=h1.length;exact⟨by rw[SA];omega,λp a=>o _ _ (bS a) (nO b.ls a h1)⟩
theorem Mx(h:PAD X E es gs)(hl:es.length<=1000):PD X E (.List es pos) (g9 gs):=(AZ h.1).imp λσ H Q ⟨A,δ,R,o⟩=>vH R o λds vs H1 e s1 b h1 o=>by have n:=h.2 δ ds e;have m:=h1.length;exact⟨by rw[SA];omega,λp a=>o _ _ (bS a) (me b.ls a h1)⟩
def spD(K:N')(n:O)(gf:J L->Rs L):Sp:=λvs H Q E=>∃A ds,Ls H A/\Iss K (del H A) ds vs/\ds.length=n/\jo K E A H (gf ds) Q
structure jL(P:SQ)(w:T1)(K:N')(mg:M'->D' F')(base:Sy)(k:O)(x:M')(n:O)(gf:J L->Rs L):Prop where
 ex:∃f fd ps,iP P w K mg base (CXW P w) k f fd ps (spD K n gf)/\mg x=Y (.ref f)/\Uo K (.ref f)=true/\Binds K fd ps []
theorem Ak:Passes (CXW X.prog X.w) X E0:=λ_ _ _ _ _ _ _ a=>(by obtain⟨_,_,_,_,_,_,h,_⟩:=a;exact h.elim)
theorem Kb{k:O}(D:jL X.prog X.w X.K X.mg X.base k x (e::es).length gf)(h:cH j X.A)(i:Passes (CXW X.prog X.w) X E)(ha:PAD X E (e::es) gs)(l:k<=j)(m:Gl X x)
  (a:(x==("__debug__":M'))=false) (n:starEach (e::es) X.env=(false,eval e X.env)::starEach es X.env) (b:(backTo pos (starEach es X.env)).any (·.1)=false) :
  PD X E (.Call (.Name x p) (e::es) [] pos) (ao gf gs):=by
 obtain⟨f,fd,ps,F,hm,c,q⟩:=D.ex;refine (Cq F (h.mono l) m hm c q .nil i ha.1 a n b).imp λσ H Q g=>?_
 obtain⟨A,δ,R,o⟩:=g;refine vH R o λds vs H1 e s1 r h1 o=>?_
 refine⟨A,ds,r.ls,by simpa using h1,ha.2 δ ds e,o⟩
def FnD(K:N')(f:J L->D' L)(r:J V->Hp->VK->Prop):Prop :=
 ∀(ds:J L)(d:L)(vs:J V)(H:Hp)(A:J HL)(Q:VK),f ds=Y d->Ls H A->Iss K (del H A) ds vs->(∀v H',aA H H'->Is K (del H' A) d v->Q v H')->r vs H Q
theorem gA{r:J V->Hp->VK->Prop}{f:J L->D' L}(a:FnD X.K f r)(ha:PAD X E es gs)(mk:∀{t:TA},PA X es t->PE X e (tCB r t)):PD X E e (gF f gs) :=
 (mk ha.1).imp λσ H Q ⟨A,δ,R,o⟩=>vH R o λds vs H1 e s1 b h1 o=>by
  cases q:f ds with
  |none=>rw[q]at o;exact o.elim
  |some d=>rw[q]at o;exact a ds d vs H1 A Q q b.ls h1 o
end
section
variable {a b c:Sq}{ga gb gc:Ds->Rs L}
def K9(K:N'):R2:=λx y H Q=>∃a b xs ys,x=.ref a/\y=.ref b/\SqT K H a xs/\SqT K H b ys/\xs.length+ys.length<=sizeLine /\
 (xs=[]->Q (.ref b) H)/\(xs≠[]->ys=[]->Q (.ref a) H)/\(xs≠[]->ys≠[]->∀p,H p=S->Q (.ref p) (upd H p (.tup (xs++ys))))
theorem J5:OpR X (binaryOp .Add) (K9 X.K):=by
 intro z7 s σ H x y v u Q I i j h;obtain⟨a,b,xs,ys,rfl,rfl,ha,l,o,p,q,r⟩:=h;by_cases hx:xs=[]
 .cases i;cases j;obtain⟨vs,w,p1,_⟩:=I.tuple ha;obtain⟨ws,r2,p2,_⟩:=I.tuple l;obtain⟨⟨cls,dd,data,z⟩,m,hc,n,hd⟩:=id p1;obtain⟨⟨cls2,f,data2,g⟩,c,e,n2,hd2⟩:=id p2;simp only at hc hd e hd2;subst hc hd e hd2;have hv:vs=[]:=w.nil_iff.mpr hx;exact Wi ⟨_,m,rfl⟩ ⟨_,c,rfl⟩ V3 VM F.slot_tuple_add F.entry_tuple_add (F.args_tuple_add_2 _ _)
   (tuple_addW0 a b vs.toArray ws.toArray n n2 dd f z g (by simp[hv])) ⟨m,c,⟨.ref b,H,I,rfl,p hx⟩⟩
 .exact IJ z7 s σ H _ _ v u Q I i j ⟨a,b,xs,ys,rfl,rfl,ha,l,hx,o,q hx,r hx⟩
def aP:L->L->D' L
 |.int i,.int j=>⇑(i+j)
 |.list x,.list y=>if x.length+y.length<=1000000 then ↥(x++y) else S
 |.tuple x,.tuple y=>if x.length+y.length<=1000000 then Y (.tuple (x++y)) else S
 |_,_=>S
theorem KQ:OpD K aP (λx y H Q=>rI0 (λi j=>.int (i+j)) x y H Q\/NX x y H Q\/K9 K x y H Q):=λd1 d2 d x y H A Q e h h1 h2 k=>by
 unfold aP at e;split at e
 .cases e;exact .inl ⟨_,_,h1.ofInt,h2.ofInt,k _ H (aA.refl _) bN⟩
 .rename_i l1 l2;split at e
  .rename_i l;cases e;obtain⟨p,xs,rfl,f,a⟩:=h1.ofLst;obtain⟨q,ys,rfl,g,b⟩:=h2.ofLst;refine .inr (.inl ⟨p,q,xs,ys,rfl,rfl,aB _ _ f,aB _ _ g,by rw[a.length,b.length,SA];omega,λr c=>k _ _ (bS c) (me h c (a.append b))⟩)
  .cases e
 .rename_i l1 l2;split at e
  .rename_i l;cases e;obtain⟨p,xs,rfl,f,a⟩:=h1.ofTup;obtain⟨q,ys,rfl,g,b⟩:=h2.ofTup;refine .inr (.inr ⟨p,q,xs,ys,rfl,rfl,SqT.of (aB _ _ f),SqT.of (aB _ _ g),by rw[a.length,b.length,SA];omega,λz=>?_,λ_ z=>?_,λ_ _ r c=>k _ _ (bS c) (nO h c (a.append b))⟩)
   .subst z;have:l1=[]:=Rn.mp (by rw[<-a.length];rfl);subst this;exact k _ H (aA.refl _) (jJ g b)
   .subst z;have:l2=[]:=Rn.mp (by rw[<-b.length];rfl);subst this;rw[QC]at k;exact k _ H (aA.refl _) (jJ f a)
  .cases e
 .cases e
theorem Lu(ha:PD X E a ga)(c:PD X E b gb):PD X E (.BinOp a .Add b pos) (g2 aP ga gb):=iA KQ ha c (fY (pH.or (M1.or J5)))
def dIx:L->L->D' L
 |.list x,.int i=>atI x i
 |.tuple x,.int i=>atI x i
 |_,_=>S
theorem BZ{i:Z}{d:L}(h:Iss K H ds vs)(e:atI ds i=Y d):∃v,atI vs i=Y v/\Is K H d v:=by
 unfold atI at e ⊢;rw[h.length];cases q:ixN ds.length i with
 |none=>rw[q]at e;cases e
 |some j=>rw[q]at e;exact h.getD e
theorem MB:OpD K dIx (λx y H Q=>NM K x y H Q\/OQ K x y H Q):=λd1 d2 d x y H A Q e hA h1 h2 k=>by
 unfold dIx at e;split at e
 .obtain⟨p,xs,rfl,a,b⟩:=h1.ofLst;obtain⟨v,ev,hv⟩:=BZ b e;exact .inl ⟨p,xs,_,v,rfl,h2.ofInt,SqL.of (aB _ _ a),ev,k _ H (aA.refl _) hv⟩
 .obtain⟨p,xs,rfl,a,b⟩:=h1.ofTup;obtain⟨v,ev,hv⟩:=BZ b e;exact .inr ⟨p,xs,_,v,rfl,h2.ofInt,SqT.of (aB _ _ a),ev,k _ H (aA.refl _) hv⟩
 .cases e
theorem NT(ha:PD X E a ga)(c:PD X E b gb)(e:BU b):PD X E (.Subscript a b pos) (g2 dIx ga gb):=iA MB ha c λh1 h2=>ES (wx.or Lw) h1 h2 e
def cp:J L->D' L
 |[.list x]=>⇑x.length
 |[.tuple x]=>⇑x.length
 |_=>S
theorem k9{d:L}(h:Iss K H [d] vs):∃v,vs=[v]/\Is K H d v:=by obtain⟨v,r,rfl,h1,h2⟩:=h.cons_of;rw[h2.nil_of];exact⟨v,rfl,h1⟩
theorem Dm{d e:L}(h:Iss K H [d,e] vs):∃v u,vs=[v,u]/\Is K H d v/\Is K H e u:=by obtain⟨v,r,rfl,h1,h2⟩:=h.cons_of;obtain⟨u,rfl,h3⟩:=k9 h2;exact⟨v,u,rfl,h1,h3⟩
theorem Ir:FnD K cp (λxs H Q=>∃p ys,xs=[.ref p]/\(SqL K H p ys\/SqT K H p ys)/\Q (.int ys.length) H):=λds d vs H A Q e hA h k=>by
 unfold cp at e;split at e
 .cases e;obtain⟨v,rfl,a⟩:=k9 h;obtain⟨p,xs,rfl,b,c⟩:=a.ofLst;exact⟨p,xs,rfl,.inl (SqL.of (aB _ _ b)),k _ H (aA.refl _) (by rw[c.length];exact bN)⟩
 .cases e;obtain⟨v,rfl,a⟩:=k9 h;obtain⟨p,xs,rfl,b,c⟩:=a.ofTup;exact⟨p,xs,rfl,.inr (SqT.of (aB _ _ b)),k _ H (aA.refl _) (by rw[c.length];exact bN)⟩
 .cases e
theorem Nx(hm:X.mg "len"=S)(ha:PAD X E (a::es) gs)(c:Gl X "len")(e:starEach (a::es) X.env=(false,eval a X.env)::starEach es X.env)(b:(backTo pos (starEach es X.env)).any (·.1)=false) :
 PD X E (.Call (.Name "len" p) (a::es) [] pos) (gF cp gs):=gA Ir ha λh=>gj kE c hm PySem.boot_len h #[1] #[1] e b
theorem Gx:bootBuiltins "int"=Y (.type "int"):=by decide +kernel
theorem zt:bootBuiltins "tuple"=Y (.type "tuple"):=by decide +kernel
theorem xv:bootBuiltins "list"=Y (.type "list"):=by decide +kernel
theorem D9:bootBuiltins "isinstance"=Y (.builtin "isinstance"):=by decide +kernel
theorem MJ:bootBuiltins "all"=Y (.builtin "all"):=by decide +kernel
theorem E3:bootBuiltins "sum"=Y (.builtin "sum"):=by decide +kernel
theorem MX:bootBuiltins "min"=Y (.builtin "min"):=by decide +kernel
theorem LH:bootBuiltins "max"=Y (.builtin "max"):=by decide +kernel
noncomputable def fI:J L->D' (J Z)
 |[]=>Y []
 |.int i::r=>(fI r).map (i::·)
 |_::_=>S
theorem eI:∀{ds:J L}{ns:J Z},fI ds=Y ns->ds=ns.map EE
 |[],_,h=>by cases h;rfl
 |.int i::r,ns,h=>by
  unfold fI at h;cases q:fI r with
  |none=>rw[q]at h;cases h
  |some l=>rw[q]at h;cases h;rw[eI q];rfl
 |.none::_,_,h=>by cases h
 |.bool _::_,_,h=>by cases h
 |.str _::_,_,h=>by cases h
 |.list _::_,_,h=>by cases h
 |.tuple _::_,_,h=>by cases h
 |.dict _::_,_,h=>by cases h
theorem ej:∀(ns:J Z),fI (ns.map EE)=Y ns
 |[]=>rfl
 |n::r=>by rw[P0];unfold fI;rw[ej r];rfl
def jH:J L->D' (J R0)
 |[]=>Y []
 |.bool i::r=>(jH r).map (i::·)
 |_::_=>S
theorem qE:∀{ds:J L}{ns:J R0},jH ds=Y ns->ds=ns.map TR
 |[],_,h=>by cases h;rfl
 |.bool i::r,ns,h=>by
  unfold jH at h;cases q:jH r with
  |none=>rw[q]at h;cases h
  |some l=>rw[q]at h;cases h;rw[qE q];rfl
 |.none::_,_,h=>by cases h
 |.int _::_,_,h=>by cases h
 |.str _::_,_,h=>by cases h
 |.list _::_,_,h=>by cases h
 |.tuple _::_,_,h=>by cases h
 |.dict _::_,_,h=>by cases h
theorem rC:∀(ns:J R0),jH (ns.map TR)=Y ns
 |[]=>rfl
 |n::r=>by rw[P0];unfold jH;rw[rC r];rfl
def Di:J L->D' L
 |[.list x]=>(fI x).map λns=>.int ns.sum
 |_=>S
def qN:J L->D' L
 |[.list x]=>(jH x).map λns=>.bool (ns.all id)
 |_=>S
theorem IQ:FnD K Di (λxs H Q=>∃(a:HL)(ns:J Z),xs=[.ref a]/\SqL K H a (ns.map V.int)/\Q (.int ns.sum) H):=λds d vs H A Q e hA h k=>by
 unfold Di at e;split at e
 .rename_i x;cases q:fI x with
  |none=>rw[q]at e;cases e
  |some ns =>rw[q]at e;cases e;obtain⟨v,rfl,f⟩:=k9 h;obtain⟨p,xs,rfl,b,c⟩:=f.ofLst;rw[eI q]at c;rw[c.ofInts]at b;exact⟨p,ns,rfl,SqL.of (aB _ _ b),k _ H (aA.refl _) bN⟩
 .cases e
theorem JI:FnD K qN (λxs H Q=>∃(a:HL)(ns:J R0),xs=[.ref a]/\SqL K H a (ns.map V.bl)/\Q (.bl (ns.all id)) H):=λds d vs H A Q e hA h k=>by
 unfold qN at e;split at e
 .rename_i x;cases q:jH x with
  |none=>rw[q]at e;cases e
  |some ns =>rw[q]at e;cases e;obtain⟨v,rfl,f⟩:=k9 h;obtain⟨p,xs,rfl,b,c⟩:=f.ofLst;rw[qE q]at c;rw[c.ofBools]at b;exact⟨p,ns,rfl,SqL.of (aB _ _ b),k _ H (aA.refl _) is_bool⟩
 .cases e
theorem Nm(hc:X.calm=true)(hm:X.mg "sum"=S)(ha:PAD X E (a::es) gs)(c:Gl X "sum")(e:starEach (a::es) X.env=(false,eval a X.env)::starEach es X.env)(b:(backTo pos (starEach es X.env)).any (·.1)=false) :
 PD X E (.Call (.Name "sum" p) (a::es) [] pos) (gF Di gs):=gA IQ ha λh=>gj (GJ hc) c hm E3 h #[1] #[1] e b
theorem MN(hc:X.calm=true)(hm:X.mg "all"=S)(ha:PAD X E (a::es) gs)(c:Gl X "all")(e:starEach (a::es) X.env=(false,eval a X.env)::starEach es X.env)(b:(backTo pos (starEach es X.env)).any (·.1)=false) :
 PD X E (.Call (.Name "all" p) (a::es) [] pos) (gF qN gs):=gA JI ha λh=>gj (Hq hc) c hm MJ h #[1] #[1] e b
def j9:J L->D' L
 |[.int i,.int j]=>⇑(if j<i then j else i)
 |_=>S
def fV:J L->D' L
 |[.int i,.int j]=>⇑(if j>i then j else i)
 |_=>S
theorem Gn:FnD K j9 (λxs H Q=>∃i j,xs=[.int i,.int j]/\Q (.int (if j<i then j else i)) H):=λds d vs H A Q e hA h k=>by
 unfold j9 at e;split at e
 .cases e;obtain⟨v,u,rfl,h1,h2⟩:=Dm h;rw[h1.ofInt,h2.ofInt];exact⟨_,_,rfl,k _ H (aA.refl _) bN⟩
 .cases e
theorem Gr:FnD K fV (λxs H Q=>∃i j,xs=[.int i,.int j]/\Q (.int (if j>i then j else i)) H):=λds d vs H A Q e hA h k=>by
 unfold fV at e;split at e
 .cases e;obtain⟨v,u,rfl,h1,h2⟩:=Dm h;rw[h1.ofInt,h2.ofInt];exact⟨_,_,rfl,k _ H (aA.refl _) bN⟩
 .cases e
theorem KY(hc:X.calm=true)(hm:X.mg "min"=S)(ha:PAD X E (a::es) gs)(c:Gl X "min")(e:starEach (a::es) X.env=(false,eval a X.env)::starEach es X.env)(b:(backTo pos (starEach es X.env)).any (·.1)=false) :
 PD X E (.Call (.Name "min" p) (a::es) [] pos) (gF j9 gs):=gA Gn ha λh=>gj (DX hc) c hm MX h #[1] #[1] e b
theorem IV(hc:X.calm=true)(hm:X.mg "max"=S)(ha:PAD X E (a::es) gs)(c:Gl X "max")(e:starEach (a::es) X.env=(false,eval a X.env)::starEach es X.env)(b:(backTo pos (starEach es X.env)).any (·.1)=false) :
 PD X E (.Call (.Name "max" p) (a::es) [] pos) (gF fV gs):=gA Gr ha λh=>gj (EJ hc) c hm LH h #[1] #[1] e b
def Al:J L->D' L
 |[.int i]=>⇑i
 |[.bool k]=>⇑(if k then 1 else 0)
 |_=>S
theorem Je:FnD K Al (λxs H Q=>(∃i,xs=[.int i]/\Q (.int i) H)\/∃k,xs=[.bl k]/\Q (.int (if k then 1 else 0)) H):=λds d vs H A Q e hA h k=>by
 unfold Al at e;split at e
 .cases e;obtain⟨v,rfl,h1⟩:=k9 h;rw[h1.ofInt];exact .inl ⟨_,rfl,k _ H (aA.refl _) bN⟩
 .cases e;obtain⟨v,rfl,h1⟩:=k9 h;rw[h1.ofBool];exact .inr ⟨_,rfl,k _ H (aA.refl _) bN⟩
 .cases e
theorem GV(hm:X.mg "int"=S)(ha:PAD X E (a::es) gs)(c:Gl X "int")(e:starEach (a::es) X.env=(false,eval a X.env)::starEach es X.env)(b:(backTo pos (starEach es X.env)).any (·.1)=false) :
 PD X E (.Call (.Name "int" p) (a::es) [] pos) (gF Al gs):=gA Je ha λh=>pU Dk c hm Gx h #[1] #[1] e b
def lU:J L->D' L
 |[.list x]=>Y (.tuple x)
 |[.tuple x]=>Y (.tuple x)
 |_=>S
def Ah:J L->D' L
 |[.list x]=>↥x
 |[.tuple x]=>↥x
 |_=>S
theorem EH:FnD K lU (λxs H Q=>∃p ys,xs=[.ref p]/\((SqL K H p ys/\∀l,H l=S->Q (.ref l) (upd H l (.tup ys)))\/(SqT K H p ys/\Q (.ref p) H))):=λds d vs H A Q e f h k=>by
 unfold lU at e;split at e
 .cases e;obtain⟨v,rfl,b⟩:=k9 h;obtain⟨p,xs,rfl,a,c⟩:=b.ofLst;exact⟨p,xs,rfl,.inl ⟨SqL.of (aB _ _ a),λl hl=>k _ _ (bS hl) (nO f hl c)⟩⟩
 .cases e;obtain⟨v,rfl,b⟩:=k9 h;obtain⟨p,xs,rfl,a,c⟩:=b.ofTup;exact⟨p,xs,rfl,.inr ⟨SqT.of (aB _ _ a),k _ H (aA.refl _) (jJ a c)⟩⟩
 .cases e
theorem F6:FnD K Ah (λxs H Q=>∃p ys,xs=[.ref p]/\(SqL K H p ys\/SqT K H p ys)/\∀l,H l=S->Q (.ref l) (upd H l (.lst ys))):=λds d vs H A Q e f h k=>by
 unfold Ah at e;split at e
 .cases e;obtain⟨v,rfl,a⟩:=k9 h;obtain⟨p,xs,rfl,b,c⟩:=a.ofLst;exact⟨p,xs,rfl,.inl (SqL.of (aB _ _ b)),λl hl=>k _ _ (bS hl) (me f hl c)⟩
 .cases e;obtain⟨v,rfl,a⟩:=k9 h;obtain⟨p,xs,rfl,b,c⟩:=a.ofTup;exact⟨p,xs,rfl,.inr (SqT.of (aB _ _ b)),λl hl=>k _ _ (bS hl) (me f hl c)⟩
 .cases e
theorem Aw(hm:X.mg "tuple"=S)(ha:PAD X E (a::es) gs)(c:Gl X "tuple")(e:starEach (a::es) X.env=(false,eval a X.env)::starEach es X.env)(b:(backTo pos (starEach es X.env)).any (·.1)=false) :
 PD X E (.Call (.Name "tuple" p) (a::es) [] pos) (gF lU gs):=gA EH ha λh=>pU uw c hm zt h #[1] #[1] e b
theorem Ew(hm:X.mg "list"=S)(ha:PAD X E (a::es) gs)(c:Gl X "list")(e:starEach (a::es) X.env=(false,eval a X.env)::starEach es X.env)(b:(backTo pos (starEach es X.env)).any (·.1)=false) :
 PD X E (.Call (.Name "list" p) (a::es) [] pos) (gF Ah gs):=gA F6 ha λh=>pU we c hm xv h #[1] #[1] e b
def mY(T:U2)(d:L):D' PyData:=if aO d then Y (.bool (wI d T)) else S
theorem DB{T:M'}{b:U2}{c:Vp}(hm:X.mg "isinstance"=S)(f:X.mg T=S)(q:bootBuiltins T=Y (.type b))(r:b∈["bool", "int", "list", "tuple"])(ha:PD X E a ga)
  (s:Gl X "isinstance") (g:Gl X T) (hn:T≠"__name__") (i:(T==("__debug__":M'))=false) (n:starEach [a,.Name T c] X.env=(false,eval a X.env)::starEach [.Name T c] X.env)
  (j:starEach [.Name T c] X.env=(false,eval (.Name T c) X.env)::starEach [] X.env) (l:(backTo pos (starEach [.Name T c] X.env)).any (·.1)=false) :
  PD X E (.Call (.Name "isinstance" p) [a,.Name T c] [] pos) (g1 (mY b) ga):=by
 refine (gj ye s hm D9 (e9 ha (e9 (Kl (v:=.ty b) g f q rfl hn i) gZ j) n) #[1] #[1] n l).imp λσ H Q m=>?_
 obtain⟨A,δ,R,o⟩:=m;refine g1.read (tt:=λQ x H1=>∃d v T,[x,V.ty b]=[v,.ty T]/\IsD X.K H1 d v/\T∈["bool", "int", "list", "tuple"]/\Q (.bl (wI d T)) H1) R o λd1 d x H' e _ _ h k=>?_
 unfold mY at e;split at e
 .rename_i z;cases e;exact⟨d1,x,b,rfl,(h.same aB).isd z,r,k _ H' (aA.refl _) is_bool⟩
 .cases e
end
def BR(K:N')(Bk:It)(ds:J L)(G:Hp):Prop:=∀(H1:Hp)(B:J HL),aA G H1->Ls H1 B->(∀b∈B,G b=S) ->
 (∀i,i<ds.length->Bk.go i H1)/\Bk.stop ds.length H1/\∀i x H2,i<ds.length->Bk.yld i H1 x H2->aA H1 H2/\∃d,ds[i]?=Y d/\Is K (del H2 B) d x
def outI(K:N')(E:XK)(A:J HL)(H:Hp)(r:Rs (J L))(R:It->Hp->Prop):Prop:=match r with
 |.ok ds=>∀Bk H',aA H H'->BR K Bk ds (del H' A)->R Bk H'
 |.rz C=>∀H',aA H H'->E (.ref C) S H'
 |.no=>False
def iD(K:N')(E:XK)(g:Ds->Rs (J L)):TI:=λσ H R=>∃A δ,eF K H A δ σ/\outI K E A H (g δ) R
def PID(X:Cx)(E:XK)(tg iter:Sq)(g:Ds->Rs (J L)):Prop:=PI X tg iter (iD X.K E g)
theorem PI.imp{it:Sq}{t t':TI}(h:PI X tg it t)(k:∀σ H R,t' σ H R->t σ H R):PI X tg it t':=λz7 s σ H R I q=>h z7 s σ H R I (k σ H R q)
theorem PI.or{it:Sq}{t t':TI}(h:PI X tg it t)(h':PI X tg it t'):PI X tg it (λσ H R=>t σ H R\/t' σ H R):=λz7 s σ H R I q=>q.elim (h z7 s σ H R I) (h' z7 s σ H R I)
section
variable {a:Sq}{ga:Ds->Rs L}
def Cu:L->Rs (J L)
 |.list ds=>.ok ds
 |.tuple ds=>.ok ds
 |_=>.no
theorem nZ(s:aA G H1)(hB:∀b∈B,G b=S):aA G (del H1 B):=λb o e=>by rw[aV (λz=>by rw[hB b z]at e;cases e)];exact s b o e
theorem DN{p:HL}(b:G p=Y (.lst xs))(h:Iss K G ds xs):BR K (Itl K p) ds G:=λH1 B s _ hB=>by have hl:=h.length;have a:SqL K H1 p xs:=SqL.of (s _ _ b);refine⟨λi hi=>⟨xs,xs[i]'⋯,a,My _⟩,⟨xs,a,⋯⟩,λi x H2 hi y=>?_⟩;obtain⟨rfl,y⟩:=y;obtain⟨d,e,hd⟩:=h.get (y xs a);exact⟨aA.refl _,d,e,hd.same (nZ s hB)⟩
theorem E8{p:HL}(b:G p=Y (.tup xs))(h:Iss K G ds xs):BR K (Itt K p) ds G:=λH1 B s _ hB=>by have hl:=h.length;have a:SqT K H1 p xs:=SqT.of (s _ _ b);refine⟨λi hi=>⟨xs,xs[i]'⋯,a,My _⟩,⟨xs,a,⋯⟩,λi x H2 hi y=>?_⟩;obtain⟨rfl,y⟩:=y;obtain⟨d,e,hd⟩:=h.get (y xs a);exact⟨aA.refl _,d,e,hd.same (nZ s hB)⟩
def br(g:Ds->Rs L):Ds->Rs (J L):=λδ=>(g δ).bind Cu
theorem JU(h:PD X E a ga):PID X E tg a (br ga):=(PI.or (Ip h) (Mh h)).imp λσ H R c=>by
 obtain⟨A,δ,f,o⟩:=c;unfold br at o;cases q:ga δ with
 |no=>rw[q]at o;exact o.elim
 |rz C=>rw[q]at o;exact .inl (eD.run f (λd e=>by rw[q]at e;cases e) (λj e H' s=>by rw[q]at e;cases e;exact o H' s) (λe=>by rw[q]at e;cases e))
 |ok d =>
  rw[q]at o;cases d with
  |list ds =>refine .inl (eD.run f (λd e v H1 g l h1=>?_) (λj e=>by rw[q]at e;cases e) (λe=>by rw[q]at e;cases e));rw[q]at e;cases e;obtain⟨p,xs,rfl,b,i⟩:=h1.ofLst;exact⟨p,rfl,⟨xs,SqL.of (aB _ _ b)⟩,o _ H1 g (DN b i)⟩
  |tuple ds =>refine .inr (eD.run f (λd e v H1 g l h1=>?_) (λj e=>by rw[q]at e;cases e) (λe=>by rw[q]at e;cases e));rw[q]at e;cases e;obtain⟨p,xs,rfl,b,i⟩:=h1.ofTup;exact⟨p,rfl,⟨xs,SqT.of (aB _ _ b)⟩,o _ H1 g (E8 b i)⟩
  |_=>exact o.elim
noncomputable def bV(lo:Z)(n:O):J PyData:=(LN n).map λ(i:O)=>EE (lo+(i:Z))
theorem eE(lo:Z)(n:O):(bV lo n).length=n:=by simp[bV]
theorem uh{lo:Z}{n:O}:BR K (Itr lo n) (bV lo n) G:=λH1 B s _ hB=>by refine⟨λi hi=>by rw[eE]at hi;exact hi,by rw[eE];exact PN _,λi x H2 hi y=>?_⟩;obtain⟨rfl,rfl⟩:=y;rw[eE]at hi;exact⟨aA.refl _,_,by simp[bV,hi],bN⟩
def E1:J L->Rs (J L)
 |[.int j]=>if -(2 ^ 62)<=j/\j<2 ^ 62 then .ok (bV 0 j.toNat) else .no
 |_=>.no
def Hg:J L->Rs (J L)
 |[.int i,.int j]=>if -(2 ^ 62)<=i/\i<2 ^ 62/\-(2 ^ 62)<=j/\j<2 ^ 62 then .ok (bV i (j-i).toNat) else .no
 |_=>.no
def fK(g:Ds->Rs (J L)):Ds->Rs (J L):=λδ=>(g δ).bind E1
def yl(g:Ds->Rs (J L)):Ds->Rs (J L):=λδ=>(g δ).bind Hg
theorem rO{f:J L->Rs (J L)}{R:It->Hp->Prop}{t:J V->Hp->Prop}(b:eF K H A δ σ)(o:outI K E A H ((gs δ).bind f) R)
  (k:∀ds vs H1,gs δ=.ok ds->aA H H1->eF K H1 A δ σ->Iss K (del H1 A) ds vs->outI K E A H1 (f ds) R->t vs H1):aD K E gs σ H t:=by
 refine aD.run b (λd e v H1 a c h1=>?_) (λC e H' s'=>?_) (λe=>?_)
 .rw[e]at o;refine k d v H1 e a c h1 ?_;have o:outI K E A H (f d) R:=o;cases q:f d with
  |ok ds=>rw[q]at o;exact λBk H' s j=>o Bk H' (a.trans s) j
  |rz C=>rw[q]at o;exact λH' s=>o H' (a.trans s)
  |no=>rw[q]at o;exact o
 .rw[e]at o;exact o H' s'
 .rw[e]at o;exact o
theorem AF(hm:X.mg "range"=S)(ha:PAD X E [a] gs)(b:Gl X "range")(c:starEach [a] X.env=[(false,eval a X.env)]) :
  PID X E tg (.Call (.Name "range" p) [a] [] pos) (fK gs):=(EL b hm ha.1 c).imp λσ H R ⟨A,δ,Rp,o⟩=>rO Rp o λds vs H1 e s1 R1 h1 o=>by
 unfold E1 at o;split at o
 .split at o
  .rename_i z;obtain⟨v,rfl,h⟩:=k9 h1;rw[h.ofInt];exact⟨_,rfl,z.1,z.2,o _ H1 (aA.refl _) uh⟩
  .exact o.elim
 .exact o.elim
theorem BC{b:Sq}(hm:X.mg "range"=S)(ha:PAD X E [a,b] gs)(f:Gl X "range")(g:starEach [a,b] X.env=[(false,eval a X.env),(false,eval b X.env)])(c:starEach [b] X.env=[(false,eval b X.env)]) :
  PID X E tg (.Call (.Name "range" p) [a,b] [] pos) (yl gs):=(DE f hm ha.1 g c).imp λσ H R ⟨A,δ,Rp,o⟩=>rO Rp o λds vs H1 e s1 R1 h1 o=>by
 unfold Hg at o;split at o
 .split at o
  .rename_i z;obtain⟨v,u,rfl,h,h'⟩:=Dm h1;rw[h.ofInt,h'.ofInt];exact⟨_,_,rfl,z,o _ H1 (aA.refl _) uh⟩
  .exact o.elim
 .exact o.elim
def TgD(K:N')(n0 n:O)(tgt:L->D' Ds)(g:TG):Prop:=∀(d:L)(v:V)(σ a:St)(H:Hp)(A:J HL)(Q:St->Hp->Prop)(own:Ds),σ.length=n0->a.length=n->Ls H A->Is K (del H A) d v->tgt d=Y own ->
 own.length=n/\((∀vs:St,vs.length=n->(∀(i:O) e,own[i]?=Y (Y e)->∃u,vs[i]?=Y (Y u)/\Is K (del H A) e u)->Q (σ++vs) H)->g v (σ++a) H Q)
def aL:L->D' Ds:=λd=>Y [Y d]
theorem Ic:TgD K n0 1 aL (lg n0):=λd v σ a H A Q own h1 h2 hA hd e=>by
 cases e;refine⟨rfl,λk=>?_⟩;unfold lg;subst h1;rw[set_own σ S v a h2];refine k _ rfl λi e z=>?_
 match i,z with
 |0,z=>cases z;exact⟨v,rfl,hd⟩
def fQ:L->D' Ds
 |.tuple [x,y]=>Y [Y x,Y y]
 |_=>S
theorem xS:TgD K n0 2 fQ (L2.M4 K 2 (L2.C9 (lg n0) (L2.C9 (lg (n0+1)) L2.LQ))):=λd v σ a H A Q own h1 h2 hA hd e=>by
 unfold fQ at e;split at e
 .rename_i x y;cases e;refine⟨rfl,λk=>?_⟩;obtain⟨p,xs,rfl,b,c⟩:=hd.ofTup;obtain⟨u,w,rfl,f,hw⟩:=Dm c;subst h1;refine⟨p,_,rfl,SqT.of (aB _ _ b),rfl,u,[w],rfl,w,[],rfl,rfl,?_⟩
  match a,h2 with
  |[s1,s2],_ =>
   have:((σ++[s1,s2]).set σ.length (Y u)).set (σ.length+1) (Y w)=σ++[Y u,Y w]:=by rw[RY _ _ (PN _),RY _ _ ⋯];simp
   rw[this];refine k _ rfl λi e z=>?_
   match i,z with
   |0,z=>cases z;exact⟨u,rfl,f⟩
   |1,z=>cases z;exact⟨w,rfl,hw⟩
 .cases e
def eB(cond:Ds->Rs R0)(elt:Ds->Rs L)(tgt:L->D' Ds)(δ:Ds):J L->Rs (J L)
 |[]=>.ok []
 |d::r=>match tgt d with
  |none=>.no
  |some own=>(cond (δ++own)).calm.bind λb=>if b=true then (elt (δ++own)).calm.bind λx=>(eB cond elt tgt δ r).bind λxs=>.ok (x::xs) else eB cond elt tgt δ r
def a9(n0:O)(src:Ds->Rs (J L))(cond:Ds->Rs R0)(elt:Ds->Rs L)(tgt:L->D' Ds):Ds->Rs (J L):=λδ=>if δ.length=n0 then (src δ).bind λds=>if ds.length<=1000000 then eB cond elt tgt δ ds else .no else .no
def bF:Ds->Rs Bool:=λ_=>.ok true
def JJ(K:N')(E:XK)(A:J HL)(H:Hp)(r:Rs (J L))(Q:VK):Prop:=match r with
 |.ok ds=>∀a xs H',H a=S->aA H H'->H' a=Y (.lst xs)->Iss K (del H' (a::A)) ds xs->Q (.ref a) H'
 |.rz C=>∀H',aA H H'->E (.ref C) S H'
 |.no=>False
def lD(K:N')(E:XK)(g:Ds->Rs (J L)):TE:=λσ H Q=>∃A δ,eF K H A δ σ/\JJ K E A H (g δ) Q
def PLD(X:Cx)(E:XK)(e:Sq)(g:Ds->Rs (J L)):Prop:=PE X e (lD X.K E g)
def gL(g:Ds->Rs (J L)):Ds->Rs PyData:=λδ=>(g δ).bind λds=>.ok (.list ds)
theorem pf{a:HL}:aA (del H (a::A)) (del H A):=λb o e=>by obtain⟨z,e⟩:=bu e;rw[aV (λq=>z (P4 _ q))];exact e
theorem ME{g:Ds->Rs (J L)}(h:PLD X E e g):PD X E e (gL g):=PE.imp h λσ H Q ⟨A,δ,R,o⟩=>⟨A,δ,R,by
 unfold gL at o;cases q:g δ with
 |no=>rw[q]at o;exact o
 |rz C=>rw[q]at o;exact o
 |ok ds =>rw[q]at o;intro a xs H' hn s hl hi;exact o _ H' s (ll (by rw[aV (R.ls.new hn)];exact hl) (hi.same pf))⟩
theorem KI(h:PAD X E es gs)(hl:es.length<=1000):PLD X E (.List es pos) gs:=(AZ h.1).imp λσ H Q a=>by
 obtain⟨A,δ,R,o⟩:=a;refine aD.run R (λds e vs H1 f R1 h1=>?_) (λC e H' s'=>by rw[e]at o;exact o H' s') (λe=>by rw[e]at o;exact o);rw[e]at o;have n:=h.2 δ ds e;have m:=h1.length;refine⟨by rw[SA];omega,λp c=>o p vs _ (f.free c) (f.trans (bS c)) aM (h1.same ?_)⟩;refine λb o e=>?_
 obtain⟨z,e⟩:=bu e;have:b≠p:=aR e c;rw[aV (by simp[this,z]),aE this];exact e
theorem HI{U:Ds->Rs (J L)}{tt:TT}(hT:TgD K n0 own.length tgt g)(X:∀σ H Q,cD K E0 cond σ H Q->tt σ H Q) :
  ∀σ H Q,lD K E (a9 n0 U cond ge tgt) σ H Q->tLC own.length (iD K E U) g tt (eD K E0 ge) σ H Q:=by
 intro σ H Q ⟨A,δ,R,o⟩;unfold a9 at o;by_cases hn0:δ.length=n0
 case neg=>rw[GC hn0]at o;exact o.elim
 rw[FC hn0]at o;have A2:σ.length=n0:=by rw[<-R.len];exact hn0
 refine⟨A,δ,R,?_⟩;cases q:U δ with
 |no=>rw[q]at o;exact o
 |rz C=>rw[q]at o;exact o
 |ok ds =>
  rw[q]at o;have o:JJ K E A H (if ds.length<=1000000 then eB cond ge tgt δ ds else .no) Q:=o;by_cases hz:ds.length<=1000000
  case neg=>rw[GC hz]at o;exact o.elim
  rw[FC hz]at o;intro Bk H1 A4 hJ D p;have D1:=R.same A4;have nD:D∉A:=D1.ls.new p;cases qo:eB cond ge tgt δ ds with
  |rz C =>
   exfalso;have:∀l,eB cond ge tgt δ l≠.rz C:=by
    intro l
    induction l with
    |nil=>intro z;cases z
    |cons d r ih =>
     intro z;unfold eB at z;split at z
     .cases z
     .rename_i f _;cases c1:cond (δ++f) with
      |ok b =>
       dsimp[c1,Rs.cM,Rs.ag]at z;split at z
       .cases h:ge (δ++f) with
        |ok x =>
         dsimp[h,Rs.cM,Rs.ag]at z;cases j:eB cond ge tgt δ r with
         |ok l=>dsimp[j,Rs.ag]at z;cases z
         |rz C'=>dsimp[j,Rs.eZ]at z;cases z;exact ih j
         |no=>dsimp[j,Rs.bH]at z;cases z
        |rz C'=>dsimp[h,Rs.calm,Rs.bH]at z;cases z
        |no=>dsimp[h,Rs.calm,Rs.bH]at z;cases z
       .exact ih z
      |rz C'=>dsimp[c1,Rs.calm,Rs.bH]at z;cases z
      |no=>dsimp[c1,Rs.calm,Rs.bH]at z;cases z
   exact this ds qo
  |no=>rw[qo]at o;exact o.elim
  |ok out =>
   rw[qo]at o;have base:aA (del H1 A) (del (upd H1 D (.lst [])) (D::A)):=λb o e=>by obtain⟨z,e⟩:=bu e;have nb:b≠D:=aR e p;rw[aV (by simp[nb,z]),aE nb];exact e
   refine⟨λi m ys H'=>m=ds.length-i/\i<=ds.length/\aA H1 H'/\H' D=Y (.lst ys)/\ys.length<=i/\∃B rest,eB cond ge tgt δ (ds.drop i)=.ok rest/\out=B++rest/\Iss K (del H' (D::A)) B ys,
    ⟨ds.length,by simp,QH _,bS p,aM,PN _,[],out,qo,rfl,dw⟩,?_⟩
   rintro i m ys H' ⟨rfl,hi,s,hl,hy,B,rest,c1,h,j⟩
   refine⟨hl,?_⟩;have sG:aA (del H1 A) H':=aB.trans s;have F:∀b∈D::A,(del H1 A) b=none:=λb G=>by
    rcases P8.mp G with z|z
    .rw[z,aV nD];exact p
    .exact ja z
   obtain⟨jg,js,jy⟩:=hJ H' (D::A) sG (λb G=>by
    rcases P8.mp G with z|z
    .exact⟨_,by rw[z];exact hl,rfl⟩
    .exact (D1.ls.same s) b z) F
   by_cases hlt:i<ds.length
   .refine .inr ⟨jg i hlt,λx H2 σ' I y=>?_⟩;obtain⟨s2,d,ed,hd⟩:=jy i x H2 hlt y;have edr:ds.drop i=d::ds.drop (i+1):=by
     rw[Ri hlt];have:ds[i]=d:=by have:=My hlt;rw[this]at ed;exact P' ed
     rw[this]
    rw[edr]at c1;unfold eB at c1;cases et:tgt d with
    |none=>rw[et]at c1;cases c1
    |some ow =>
     rw[et]at c1;have l2:H2 D=Y (.lst ys):=s2 _ _ hl;have B':Ls H2 (D::A):=λb G=>by
      rcases P8.mp G with z|z
      .exact⟨_,by rw[z];exact l2,rfl⟩
      .exact (D1.ls.same (s.trans s2)) b z
     obtain⟨hol,hgo⟩:=hT d x σ σ' H2 (D::A) (λc H2=>tt c H2 λb H3 =>
      if b=true then eD K E0 ge c H3 λv M=>M D=Y (.lst ys)/\ys.length<sizeLine/\(∃a,c=σ++a/\a.length=own.length)/\∃m',m' < ds.length-i/\_
      else (∃a,c=σ++a/\a.length=own.length)/\∃m',m' < ds.length-i/\_) ow A2 I B' hd et
     refine hgo λvs n N=>?_
     have D2:aA (del H1 A) (del H2 (D::A)):=nZ (sG.trans s2) F;have RE:eF K H2 (D::A) (δ++ow) (σ++vs):=by
      refine⟨B',by rw[PU,PU,R.len,n,hol],λk e T=>?_⟩;by_cases hk:k<δ.length
      .rw[Qc hk]at T;obtain⟨u,e1,hu⟩:=D1.get k e T;exact⟨u,by rw[Qc (by rw[<-R.len];exact hk)];exact e1,hu.same D2⟩
      .rw[Qh ⋯]at T;obtain⟨u,e1,hu⟩:=N _ e T;exact⟨u,by rw[Qh (by rw[<-R.len];omega),<-R.len];exact e1,hu⟩
     have bad:∀r:Rs R0,r=.rz 0->r.calm=.no:=λr e=>by rw[e];rfl
     refine X _ _ _ (cD.run RE (λb P H3 w R3=>?_) (λC P=>?_) (λP=>?_))
     .dsimp[P,Rs.cM,Rs.ag]at c1;cases b with
      |true =>
       dsimp[Sn]at c1;refine eD.run R3 (λxd ex v M s4 R4 hv=>?_) (λC ex=>?_) (λex=>?_)
       .dsimp[ex,Rs.cM,Rs.ag]at c1;cases cr:eB cond ge tgt δ (ds.drop (i+1)) with
        |ok rs =>
         dsimp[cr,Rs.ag]at c1;cases c1;have l4:M D=Y (.lst ys):=s4 _ _ (w _ _ l2);have dU:del (upd M D (.lst (ys++[v]))) (D::A)=del M (D::A):=mf (P7);refine⟨l4,by rw[SA];omega,⟨vs,rfl,n⟩,ds.length-(i+1),⋯,rfl,hlt,?_,aM,by simp;omega,B++[xd],rs,cr,by rw[h];simp,?_⟩
         .exact aA.put (((s.trans s2).trans w).trans s4) p
         .rw[dU];exact (j.same (aA.del (s2.trans (w.trans s4)))).append (kK hv)
        |rz C=>dsimp[cr,Rs.eZ]at c1;cases c1
        |no=>dsimp[cr,Rs.bH]at c1;cases c1
       .dsimp[ex,Rs.calm,Rs.bH]at c1;cases c1
       .dsimp[ex,Rs.calm,Rs.bH]at c1;cases c1
      |false =>dsimp[Qb,SK]at c1;exact⟨⟨vs,rfl,n⟩,ds.length-(i+1),⋯,rfl,hlt,(s.trans s2).trans w,w _ _ l2,⋯,B,rest,c1,h,j.same (aA.del (s2.trans w))⟩
     .dsimp[P,Rs.calm,Rs.bH]at c1;cases c1
     .dsimp[P,Rs.calm,Rs.bH]at c1;cases c1
   .have e:i=ds.length:=⋯
    subst e;rw[Sj]at c1;cases c1;rw[QC]at h;subst h;exact .inl ⟨js,o D ys H' (A4.free p) (A4.trans s) hl j⟩
def ia:Sq->J M'
 |.Name x _=>[x]
 |.Tuple [.Name x _,.Name y _] _ _=>[x,y]
 |_=>[]
def Lj(own N:J M'):J Str:=N.map λx=>bif own.elem x then x++"__" else x
abbrev bk(X:Cx)(tg:Sq)(scope:UT):=blk X (Lj (ia tg) X.N) scope (ia tg)
abbrev Mz(X:Cx)(tg:Sq)(scope:UT):Bool:=vc X.N (Lj (ia tg) X.N) X.env.scope scope (ia tg)
inductive PIf (X:Cx):J Sq->(Ds->Rs R0)->Prop
 |nil:PIf X [] bF
 |one {c:Sq} {g:Ds->Rs R0} (h:PCD X E0 c g):PIf X [c] g
def Ot(K:N')(ifs:J Sq)(g:Ds->Rs R0):TT:=match ifs with
 |[]=>ym
 |_=>cD K E0 g
theorem PIf.pts{g:Ds->Rs R0}(h:PIf X ifs g):PTs X ifs (Ot X.K ifs g):=by
 cases h with
 |nil=>exact .nil
 |one h=>exact .one h
theorem PIf.tt{g:Ds->Rs R0}(h:PIf X ifs g):∀σ H Q,cD K E0 g σ H Q->Ot K ifs g σ H Q:=by
 cases h with
 |nil=>exact λσ H Q a=>(by obtain⟨A,δ,R,o⟩:=a;exact o H (aA.refl _))
 |one h=>exact λ_ _ _ h=>h
theorem GW{a:Ds->Rs (J L)}(hc:X.calm=true)(hi:PID X E tg iter a)
  (c:TgD X.K n0 (ia tg).length tgt g) (e:∀C s2 H2 fp,PG (bk X tg scope C s2 H2 fp) tg g) (b:∀C s2 H2 fp,PIf (bk X tg scope C s2 H2 fp) ifs cond) (f:∀C s2 H2 fp,PD (bk X tg scope C s2 H2 fp) E0 elt ge)
  (hB:Mz X tg scope=true) (h:∀x,foldedSetIterable iter X.env x=pure x):PLD X E (.ListComp elt [⟨tg,iter,ifs,0⟩] scope pos) (a9 n0 a cond ge tgt) :=
 (FL (own:=ia tg) (te:=eD X.K E0 ge) hc hi e (λC s2 H2 fp=>(b C s2 H2 fp).pts) (λC s2 H2 fp=>f C s2 H2 fp) hB h).imp (HI c (PIf.tt (b 0 X.s₀ X.H₀ [])))
def PLS(X:Cx)(E:XK)(i:O)(st:Ur)(a:Ds->Rs (J L)):Prop:=PS X st (HX (lD X.K E a) (lg i))
theorem Ae{c:Ds->Rs (J L)}(a:swapsWith (.ListComp elt [⟨tg,iter,ifs,0⟩] scope pos) (Y (.Name x pos')) spos.line X.env=pure true)(hc:X.calm=true)(f:X.N.Nodup)(hi:PID X E tg iter c)
  (j:TgD X.K n0 (ia tg).length tgt g) (l:∀C s2 H2 fp,PG (bk X tg scope C s2 H2 fp) tg g) (e:∀C s2 H2 fp,PIf (bk X tg scope C s2 H2 fp) ifs cond) (m:∀C s2 H2 fp,PD (bk X tg scope C s2 H2 fp) E0 elt ge)
  (b:X.N[i]?=Y x) (n:Loc X.env.scope x) (hB:Mz X tg scope=true) (o:∀x,foldedSetIterable iter X.env x=pure x) (p:X.fn x=true\/X.env.scope.names.lookup x=Y .local) :
  PLS X E i (.Assign [.Name x pos'] (.ListComp elt [⟨tg,iter,ifs,0⟩] scope pos) spos) (a9 n0 c cond ge tgt) :=
 PS.imp (tT (own:=ia tg) (te:=eD X.K E0 ge) hc f b n a hi l (λC s2 H2 fp=>(e C s2 H2 fp).pts) (λC s2 H2 fp=>m C s2 H2 fp) hB o p) λD σ H h=>HI j (PIf.tt (e 0 X.s₀ X.H₀ [])) σ H _ h
end
inductive Sr where
 |nx (δ:Ds)
 |rt (d:L)
 |rz (C:HL)
 |bk (δ:Ds)
 |ct (δ:Ds)
 |no
def ju(K:N')(G:Hp):L->HO->Prop
 |.list ds,.lst xs=>Iss K G ds xs
 |.dict kvs,o=>JE kvs o
 |_,_=>False
theorem ju.same{G':Hp}{d:L}(h:ju K G d o)(s:aA G G'):ju K G' d o:=by
 unfold ju at h ⊢;split at h
 .exact Iss.same s h
 .exact h
 .exact h.elim
theorem ju.is{d:L}(h:ju K G d o)(ha:G a=Y o):Is K G d (.ref a):=by
 unfold ju at h;split at h
 .exact ll ha h
 .unfold Is;exact .inl (.inr ⟨a,_,rfl,h,ha⟩)
 .exact h.elim
theorem ju.lst(h:ju K G (.list ds) o):∃xs,o=.lst xs/\Iss K G ds xs:=by
 unfold ju at h;split at h
 .rename_i e;cases e;exact⟨_,rfl,h⟩
 .rename_i e;cases e
 .exact h.elim
structure cj(K:N')(H0:Hp)(A0:J HL)(H:Hp)(A:J HL)(D2:J O)(δ:Ds)(σ:St):Prop where
 same:aA H0 H
 ls0:Ls H0 A0
 new:∀a∈A,H0 a=S
 ls:Ls H A
 len:δ.length=σ.length
 pl:∀(i:O) d,i∉D2->δ[i]?=Y (Y d)->∃v,σ[i]?=Y (Y v)/\Is K (del H (A++A0)) d v
 own:∀(i:O) d,i∈D2->δ[i]?=Y (Y d)->∃a o d',σ[i]?=Y (Y (.ref a))/\a∈A/\H a=Y o/\d=d'/\ju K (del H (A++A0)) d' o
 inj:∀(i j:O) d e a,i∈D2->j∈D2->δ[i]?=Y (Y d)->δ[j]?=Y (Y e)->σ[i]?=Y (Y (.ref a))->σ[j]?=Y (Y (.ref a))->i=j
def mask(D2:J O)(δ:Ds):Ds:=if D2=[] then δ else δ.mapIdx λi d=>if i∈D2 then S else d
theorem fL(δ:Ds):mask [] δ=δ:=by simp[mask]
theorem EX{d:L}(h:(mask D2 δ)[i]?=Y (Y d)):i∉D2/\δ[i]?=Y (Y d):=by
 unfold mask at h;split at h
 .rename_i z;subst z;exact⟨by simp,h⟩
 .rw[Rj]at h;cases q:δ[i]? with
  |none=>rw[q]at h;cases h
  |some x =>
   rw[q]at h;dsimp[QL,Wv]at h;by_cases z:i∈D2
   .rw[FC z]at h;cases h
   .rw[GC z]at h;exact⟨z,by rw[h]⟩
theorem xV:(mask D2 δ).length=δ.length:=by unfold mask;split <;> simp
theorem yk:aA (del H (A++B)) (del H B):=λb o e=>by obtain⟨z,e⟩:=bu e;rw[aV (λq=>z (PR _ q))];exact e
section
theorem cj.lsA(R:cj K H0 A0 H A D2 δ σ):Ls H (A++A0):=λa h=>(Ql.mp h).elim (R.ls a) λz=>(R.ls0.same R.same) a z
theorem cj.step(R:cj K H0 A0 H A D2 δ σ)(s:aA H H1):cj K H0 A0 H1 A D2 δ σ where
 same:=R.same.trans s
 ls0:=R.ls0
 new:=R.new
 ls:=R.ls.same s
 len:=R.len
 pl:=λi d h e=>by obtain⟨v,e1,h1⟩:=R.pl i d h e;exact⟨v,e1,h1.same s.del⟩
 own:=λi d h e=>by obtain⟨a,xs,ds,e1,h1,h2,h3,b⟩:=R.own i d h e;exact⟨a,xs,ds,e1,h1,s _ _ h2,h3,b.same s.del⟩
 inj:=R.inj
theorem cj.apart(R:cj K H0 A0 H A D2 δ σ)(h:a∈A):a∉A0:=λz=>by obtain⟨xs,e,_⟩:=R.ls0 a z;rw[R.new a h]at e;cases e
theorem cj.ownL(R:cj K H0 A0 H A D2 δ σ)(h:i∈D2)(e:δ[i]?=Y ↥ds):∃a xs b,σ[i]?=Y (Y (.ref a))/\a∈A/\H a=Y (.lst xs)/\Uk ds=.list b/\Iss K (del H (A++A0)) b xs:=by obtain⟨a,o,d',e1,h1,h2,h3,c⟩:=R.own i _ h e;subst h3;obtain⟨xs,rfl,f⟩:=c.lst;exact⟨a,xs,ds,e1,h1,h2,rfl,f⟩
theorem cj.full(R:cj K H0 A0 H A D2 δ σ):eF K H A0 δ σ where
 ls:=R.ls0.same R.same
 len:=R.len
 get:=λi d e=>by
  by_cases h:i∈D2
  .obtain⟨a,xs,ds,e1,h1,h2,h3,b⟩:=R.own i d h e;subst h3;exact⟨_,e1,(b.same yk).is (by rw[aV (R.apart h1)];exact h2)⟩
  .obtain⟨v,e1,h1⟩:=R.pl i d h e;exact⟨v,e1,h1.same yk⟩
theorem cj.part(R:cj K H0 A0 H A D2 δ σ):eF K H (A++A0) (mask D2 δ) σ where
 ls:=R.lsA
 len:=by rw[xV];exact R.len
 get:=λi d e=>by obtain⟨h,e⟩:=EX e;exact R.pl i d h e
theorem get_set{l:J α}{x y:α}(h:(l.set i x)[j]?=Y y):(i=j/\y=x)\/(i≠j/\l[j]?=Y y):=by
 by_cases z:i=j
 .subst z;rw[J.getElem?_set_self']at h;cases q:l[i]? with
  |none=>rw[q]at h;cases h
  |some w=>rw[q]at h;simp at h;exact .inl ⟨rfl,h.symm⟩
 .rw[Qi z]at h;exact .inr ⟨z,h⟩
theorem lV{l:J α}{x y:α}(hn:i≠j)(h:l[j]?=Y y):(l.set i x)[j]?=Y y:=by rw[Qi hn];exact h
theorem cj.set{d:L}(R:cj K H0 A0 H A D2 δ σ)(hi:i∉D2)(hl:i<δ.length)(h:Is K (del H (A++A0)) d v):cj K H0 A0 H A D2 (δ.set i (Y d)) (σ.set i (Y v)) where
 same:=R.same
 ls0:=R.ls0
 new:=R.new
 ls:=R.ls
 len:=by simp[R.len]
 pl:=λj e b q=>by
  rcases get_set q with⟨z,q⟩|⟨z,q⟩
  .cases q;subst z;exact⟨v,by rw[QA (by rw[<-R.len];exact hl)],h⟩
  .obtain⟨u,e1,h1⟩:=R.pl j e b q;exact⟨u,lV z e1,h1⟩
 own:=λj e b q=>by
  rcases get_set q with⟨z,q⟩|⟨z,q⟩
  .subst z;exact So b hi
  .obtain⟨a,xs,ds,e1,h1⟩:=R.own j e b q;exact⟨a,xs,ds,lV z e1,h1⟩
 inj:=λj k d' e a b c f g p1 p2=>by
  have n1:i≠j:=λz=>hi (z▸b)
  have n2:i≠k:=λz=>hi (z▸c)
  rw[Qi n1]at f p1;rw[Qi n2]at g p2;exact R.inj j k d' e a b c f g p1 p2
theorem cj.setOwn(R:cj K H0 A0 H A D2 δ σ)(hi:i∈D2)(hl:i<δ.length)(hn:H a=S)(s:aA H H1)(ha:H1 a=Y (.lst xs))(h:Iss K (del H1 (a::(A++A0))) ds xs) :
  cj K H0 A0 H1 (a::A) D2 (δ.set i ↥ds) (σ.set i (Y (.ref a))) where
 same:=R.same.trans s
 ls0:=R.ls0
 new:=λb m=>by
  rcases P8.mp m with z|z
  .rw[z];exact R.same.free hn
  .exact R.new b z
 ls:=λb m=>by
  rcases P8.mp m with z|z
  .exact⟨_,by rw[z];exact ha,rfl⟩
  .exact (R.ls.same s) b z
 len:=by simp[R.len]
 pl:=λj e c q=>by
  rcases get_set q with⟨z,q⟩|⟨z,q⟩
  .subst z;exact So hi c
  .obtain⟨u,e1,h1⟩:=R.pl j e c q;refine⟨u,lV z e1,h1.same λb o e=>?_⟩;obtain⟨y,e⟩:=bu e;have n:b≠a:=aR e hn;rw[aV (by simpa[n] using y)];exact s _ _ e
 own:=λj e c q=>by
  have r:∀b o,del H (A++A0) b=Y o->del H1 (a::A++A0) b=Y o:=λb o e=>by obtain⟨y,e⟩:=bu e;have n:b≠a:=aR e hn;rw[aV (by simpa[n] using y)];exact s _ _ e
  rcases get_set q with⟨z,q⟩|⟨z,q⟩
  .cases q;subst z;exact⟨a,_,_,by rw[QA (by rw[<-R.len];exact hl)],P7,ha,rfl,h⟩
  .obtain⟨b,ys,es,e1,h1,h2,h3,v⟩:=R.own j e c q;exact⟨b,ys,es,lV z e1,P4 _ h1,s _ _ h2,h3,v.same r⟩
 inj:=λj k d' e b c f g l p1 p2=>by
  have old:∀k,k∈D2->i≠k->∀e,δ[k]?=Y (Y e)->σ[k]?=Y (Y (.ref a))->False:=λk f _ e q p=>by obtain⟨b,ys,es,e1,h1,h2,_⟩:=R.own k e f q;rw[p]at e1;cases e1;rw[hn]at h2;cases h2
  by_cases z1:i=j
  .by_cases z2:i=k
   .rw[<-z1,z2]
   .subst z1;rw[QA (by rw[<-R.len];exact hl)]at p1;cases p1;rw[Qi z2]at l p2;exact (old k f z2 e l p2).elim
  .by_cases z2:i=k
   .subst z2;rw[QA (by rw[<-R.len];exact hl)]at p2;cases p2;rw[Qi z1]at g p1;exact (old j c z1 d' g p1).elim
   .rw[Qi z1]at g p1;rw[Qi z2]at l p2;exact R.inj j k d' e b c f g l p1 p2
theorem cj.put{l:L}(R:cj K H0 A0 H A D2 δ σ)(hi:i∈D2)(hd:δ[i]?=Y (Y l))(p:σ[i]?=Y (Y (.ref a)))(ha:a∈A)(h:Iss K (del H (A++A0)) ds ys) :
  cj K H0 A0 (upd H a (.lst ys)) A D2 (δ.set i ↥ds) σ:=by
 have m:del (upd H a (.lst ys)) (A++A0)=del H (A++A0):=mf (Qu _ ha);have hl:i<δ.length:=(Qa.mp hd).1;refine⟨λb o e=>?_,R.ls0,R.new,λb s=>?_,by simp[R.len],λj e c q=>?_,λj e c q=>?_,λj k d' e b c r f g p1 p2=>?_⟩
 .have n:b≠a:=λz=>by rw[z,R.new a ha]at e;cases e
  rw[aE n];exact R.same b o e
 .by_cases z:b=a
  .exact⟨_,by rw[z,aM],rfl⟩
  .rw[aE z];exact R.ls b s
 .rcases get_set q with⟨z,q⟩|⟨z,q⟩
  .subst z;exact So hi c
  .rw[m];exact R.pl j e c q
 .rcases get_set q with⟨z,q⟩|⟨z,q⟩
  .cases q;subst z;exact⟨a,_,_,p,ha,aM,rfl,by rw[m];exact h⟩
  .obtain⟨b,zs,es,e1,h1,h2,h3,u⟩:=R.own j e c q;have n:b≠a:=λw=>z (R.inj i j _ _ a hi c hd q p (by rw[<-w];exact e1))
   exact⟨b,zs,es,e1,h1,by rw[aE n];exact h2,h3,by rw[m];exact u⟩
 .rcases get_set f with⟨z1,f⟩|⟨z1,f⟩ <;> rcases get_set g with⟨z2,g⟩|⟨z2,g⟩
  .rw[<-z1,z2]
  .subst z1;exact R.inj i k l e b hi r hd g p1 p2
  .subst z2;exact R.inj j i d' l b c hi f hd p1 p2
  .exact R.inj j k d' e b c r f g p1 p2
def un(H0 G:Hp):Hp:=λb=>match H0 b with|some o=>Y o|none=>G b
theorem EU:aA H0 (un H0 G):=λb o e=>by unfold un;rw[e]
theorem O7(a:aA H0 H)(c:aA G H):aA G (un H0 G):=λb o e=>by
 unfold un;cases q:H0 b with
 |none=>exact e
 |some o2=>have h2:=a b o2 q;rw[c b o e]at h2;exact h2.symm
theorem N5(a:aA H0 H)(c:aA G H):aA (un H0 G) H:=λb o e=>by
 unfold un at e;cases q:H0 b with
 |none=>rw[q]at e;exact c b o e
 |some o2=>rw[q]at e;rw[<-P' e];exact a b o2 q
theorem cj.more(R:cj K H0 A0 H A D2 δ σ):cj K (un H0 (del H (A++A0))) A0 H A D2 δ σ :=
 ⟨N5 R.same aB,R.ls0.same EU,λa h=>by unfold un;rw[R.new a h];exact ja (Qu _ h),R.ls,R.len,R.pl,R.own,R.inj⟩
theorem cj.less{b:Hp}(R:cj K b A0 H A D2 δ σ)(s:aA H0 b)(l:Ls H0 A0):cj K H0 A0 H A D2 δ σ:=⟨s.trans R.same,l,λa h=>s.free (R.new a h),R.ls,R.len,R.pl,R.own,R.inj⟩
end
def pQ(K:N')(E:XK)(H0:Hp)(A0:J HL)(D2:J O)(r:Sr)(D:Ends):Prop:=match r with
 |.nx δ=>∀A σ H,cj K H0 A0 H A D2 δ σ->D.nx σ H
 |.rt d=>∀v H,aA H0 H->Is K (del H A0) d v->D.rt v H
 |.rz C=>∀H,aA H0 H->E (.ref C) S H
 |.bk δ=>∀A σ H,cj K H0 A0 H A D2 δ σ->D.bk σ H
 |.ct δ=>∀A σ H,cj K H0 A0 H A D2 δ σ->D.ct σ H
 |.no=>False
def sD(K:N')(E:XK)(D2:J O)(G:Ds->Sr):TS:=λD σ H=>∃H0 A0 A δ,cj K H0 A0 H A D2 δ σ/\pQ K E H0 A0 D2 (G δ) D
def PSD(X:Cx)(E:XK)(D2:J O)(s:Ur)(G:Ds->Sr):Prop:=PS X s (sD X.K E D2 G)
def PBD(X:Cx)(E:XK)(D2:J O)(ss:J Ur)(G:Ds->Sr):Prop:=PSs X ss (sD X.K E D2 G)
def ba:Ds->Sr:=λδ=>.nx δ
def az(a b:Ds->Sr):Ds->Sr:=λδ=>match a δ with
 |.nx δ'=>b δ'
 |r=>r
noncomputable def ofR{α:Type}(r:Rs α)(k:α->Sr):Sr:=match r with
 |.ok a=>k a
 |.rz C=>.rz C
 |.no=>.no
@[simp]theorem aw(a:α)(k:α->Sr):ofR (.ok a) k=k a:=rfl
@[simp]theorem kl(C:HL)(k:α->Sr):ofR (.rz C) k=.rz C:=rfl
@[simp]theorem kj(k:α->Sr):ofR (.no:Rs α) k=.no:=rfl
def sIf(c:Ds->Rs R0)(a b:Ds->Sr):Ds->Sr:=λδ=>ofR (c δ) λt=>if t=true then a δ else b δ
def bq(g:Ds->Rs L):Ds->Sr:=λδ=>ofR (g δ) .rt
def lp(g:Ds->Rs L):Ds->Sr:=λδ=>ofR (g δ) λ_=>.nx δ
def aJ(D2:J O)(i:O)(g:Ds->Rs L):Ds->Sr:=λδ=>if i<δ.length then ofR (g (mask D2 δ)) λd=>.nx (δ.set i (Y d)) else .no
def lF(i:O)(g:Ds->Rs L):Ds->Sr:=λδ=>if i<δ.length then ofR (g δ) λd=>if fW d then .nx (δ.set i (Y d)) else .no else .no
def ff(D2:J O)(i:O)(g:Ds->Rs (J L)):Ds->Sr:=λδ=>if i<δ.length then ofR (g (mask D2 δ)) λds=>.nx (δ.set i ↥ds) else .no
def iO(D2:J O)(i:O)(g:Ds->Rs L):Ds->Sr:=λδ=>match δ[i]? with
 |some ↥ds=>ofR (g (mask D2 δ)) λd=>if ds.length<1000000 then .nx (δ.set i ↥(ds++[d])) else .no
 |_=>.no
section
variable {ss:J Ur}{G G':Ds->Sr}{a b c:Sq}{ga gb:Ds->Rs L}{ca:Ds->Rs R0}
theorem xE:PBD X E D2 [] ba:=wX.imp λD σ H a=>(by obtain⟨H0,A0,A,δ,R,o⟩:=a;exact o A σ H R)
theorem kg(h1:PSD X E D2 st G)(h2:PBD X E D2 ss G'):PBD X E D2 (st::ss) (az G G'):=(cU h1 h2).imp λD σ H ⟨H0,A0,A,δ,R,o⟩=>⟨H0,A0,A,δ,R,by
 unfold az at o;cases q:G δ with
 |nx δ'=>rw[q]at o;exact λa σ' H' b=>⟨H0,A0,a,δ',b,o⟩
 |rt d=>rw[q]at o;exact o
 |rz C=>rw[q]at o;exact o
 |bk d=>rw[q]at o;exact o
 |ct d=>rw[q]at o;exact o
 |no=>rw[q]at o;exact o⟩
theorem qV(h1:PSD X E D2 st G):PBD X E D2 [st] G:=(jt h1).imp λD σ H h=>h
theorem Hv{a:J Ur}(hc:PCD X E c ca)(h1:PBD X E D2 ss G)(h2:PBD X E D2 a G'):PSD X E D2 (.If c ss a pos) (sIf ca G G'):=(B1 hc h1 h2).imp λD σ H e=>by
 obtain⟨H0,A0,A,δ,R,o⟩:=e;unfold sIf at o;refine cD.run R.full (λt b H1 f R1=>?_) (λC b H' s'=>?_) (λb=>?_)
 .rw[b]at o;cases t with
  |true=>exact⟨H0,A0,A,δ,R.step f,o⟩
  |false=>exact⟨H0,A0,A,δ,R.step f,o⟩
 .rw[b]at o;exact o H' (R.same.trans s')
 .rw[b]at o;exact o
theorem xk(h:PD X E e ga):PSD X E D2 (.Return (Y e) pos) (bq ga):=(t9 h).imp λD σ H a=>by
 obtain⟨H0,A0,A,δ,R,o⟩:=a;unfold bq at o;refine eD.run R.full (λd c v H1 f R1 hv=>?_) (λC b H' s'=>?_) (λb=>?_)
 .rw[c]at o;exact o v H1 (R.same.trans f) hv
 .rw[b]at o;exact o H' (R.same.trans s')
 .rw[b]at o;exact o
theorem Fp(h:PD X E e ga)(c:swapsWith e S pos.line X.env=pure false):PSD X E D2 (.Expr e pos) (lp ga):=(og h c).imp λD σ H a=>by
 obtain⟨H0,A0,A,δ,R,o⟩:=a;unfold lp at o;refine eD.run R.full (λd f v H1 g R1 hv=>?_) (λC b H' s'=>?_) (λb=>?_)
 .rw[f]at o;exact o A σ H1 (R.step g)
 .rw[b]at o;exact o H' (R.same.trans s')
 .rw[b]at o;exact o
theorem Jo(h:PD X E e ga)(c:X.N.Nodup)(f:i∉D2)(hi:X.N[i]?=Y x)(g:Loc X.env.scope x)(j:swapsWith e (Y (.Name x pos')) pos.line X.env=pure false)
  (l:X.fn x=true\/X.env.scope.names.lookup x=Y .local):PSD X E D2 (.Assign [.Name x pos'] e pos) (aJ D2 i ga):=(oV c hi g h j l).imp λD σ H a=>by
 obtain⟨H0,A0,A,δ,R,o⟩:=a;unfold aJ at o;split at o
 .rename_i hl;refine eD.run R.part (λd m v H1 n R1 hv=>?_) (λC b H' s'=>?_) (λb=>?_)
  .rw[m]at o;exact o A _ H1 ((R.step n).set f hl hv)
  .rw[b]at o;exact o H' (R.same.trans s')
  .rw[b]at o;exact o
 .exact o.elim
theorem Gq(h:PD X E e ga)(f:X.N.Nodup)(g:i∉D2)(hi:X.N[i]?=Y x)(j:Loc X.env.scope x)(l:swapsWith e (Y (.Name x pos')) pos.line X.env=pure false)
  (m:X.fn x=true\/X.env.scope.names.lookup x=Y .local):PSD X E D2 (.Assign [.Name x pos'] e pos) (lF i ga):=(oV f hi j h l m).imp λD σ H a=>by
 obtain⟨H0,A0,A,δ,R,o⟩:=a;unfold lF at o;split at o
 .rename_i hl;refine eD.run R.full (λd n v H1 c R1 hv=>?_) (λC b H' s'=>?_) (λb=>?_)
  .rw[n]at o;have o:pQ X.K E H0 A0 D2 (if fW d=true then .nx (δ.set i (Y d)) else .no) D:=o;split at o
   .rename_i hd;exact o A _ H1 ((R.step c).set g hl ((hv.same aB).dl (R.step c).lsA hd))
   .exact o.elim
  .rw[b]at o;exact o H' (R.same.trans s')
  .rw[b]at o;exact o
 .exact o.elim
theorem Ji{a:Ds->Rs (J L)}(h:PLD X E e a)(f:X.N.Nodup)(g:i∈D2)(hi:X.N[i]?=Y x)(j:Loc X.env.scope x)(l:swapsWith e (Y (.Name x pos')) pos.line X.env=pure false)
  (m:X.fn x=true\/X.env.scope.names.lookup x=Y .local):PSD X E D2 (.Assign [.Name x pos'] e pos) (ff D2 i a):=(oV f hi j h l m).imp λD σ H b=>by
 obtain⟨H0,A0,A,δ,R,o⟩:=b;unfold ff at o;split at o
 .rename_i hl;refine⟨A++A0,mask D2 δ,R.part,?_⟩;cases q:a (mask D2 δ) with
  |ok ds =>rw[q]at o;exact λp xs H' hn s n c=>o (p::A) _ H' (R.setOwn g hl hn s n c)
  |rz C=>rw[q]at o;exact λH' s'=>o H' (R.same.trans s')
  |no=>rw[q]at o;exact o
 .exact o.elim
theorem F9{a:Ds->Rs (J L)}(h:PLS X E i st a)(e:i∈D2):PSD X E D2 st (ff D2 i a):=PS.imp h λD σ H b=>by
 obtain⟨H0,A0,A,δ,R,o⟩:=b;unfold ff at o;split at o
 .rename_i hl;refine⟨A++A0,mask D2 δ,R.part,?_⟩;cases q:a (mask D2 δ) with
  |ok ds =>rw[q]at o;exact λp xs H' hn s f c=>o (p::A) _ H' (R.setOwn e hl hn s f c)
  |rz C=>rw[q]at o;exact λH' s'=>o H' (R.same.trans s')
  |no=>rw[q]at o;exact o
 .exact o.elim
theorem Gy{a:Ds->Rs (J L)}(h:PLS X E i st a)(f:i∉D2):PSD X E D2 st (aJ D2 i (gL a)):=PS.imp h λD σ H b=>by
 obtain⟨H0,A0,A,δ,R,o⟩:=b;unfold aJ gL at o;split at o
 .rename_i hl;have e:=R.part;refine⟨A++A0,mask D2 δ,e,?_⟩;cases q:a (mask D2 δ) with
  |ok ds =>rw[q]at o;intro p xs H' hn s g c;exact o A _ H' ((R.step s).set f hl (ll (by rw[aV (e.ls.new hn)];exact g) (c.same pf)))
  |rz C=>rw[q]at o;exact λH' s'=>o H' (R.same.trans s')
  |no=>rw[q]at o;exact o
 .exact o.elim
theorem tyL{p:HL}(h:H p=Y (.lst xs)):tyV K "list" (.ref p) H:=.inl ⟨rfl,xs,SqL.of h⟩
theorem IF{j c:Vp}(h:PD X E e ga)(s:i∈D2)(hi:X.N[i]?=Y x)(hv:Vis X.env.scope x)
  (hd:(x==("__debug__":M'))=false) (l:(x==("__classdict__":M'))=false) (f:starEach [e] X.env=(false,eval e X.env)::starEach [] X.env)
  (a:attributeBase (.Name x pn) "append" X.env (eval (.Name x pn) X.env)=eval (.Name x pn) X.env)
  (g:((backTo c (starEach [e] X.env)).all (λx=>!x.1)&&(backToKw c (keywordEach [] X.env)).all (λx=>x.1.isSome)&&decide (([e]:J Sq).length+([]:J Tg).length+(if ([]:J Tg).isEmpty then 0 else 1)<30))=true)
  (b:(j.endLine==c.line)=true) (w:swapsWith (.Call (.Attribute (.Name x pn) "append" j) [e] [] c) S pos.line X.env=pure false) :
  PSD X E D2 (.Expr (.Call (.Attribute (.Name x pn) "append" j) [e] [] c) pos) (iO D2 i ga) :=
 (og (C7 Up UK W4 pJ (ku hi hv hd l) (e9 h gZ f) a g b f rfl) w).imp λD σ H m=>by
  obtain⟨H0,A0,A,δ,R,o⟩:=m;unfold iO at o;split at o
  .rename_i ds q;obtain⟨p,xs,ds',e1,y,hl,e2,u⟩:=R.ownL s q;cases e2;refine⟨_,e1,tyL hl,?_⟩;refine eD.run R.part (λd z v H1 n R1 hv=>?_) (λC r H' s'=>?_) (λr=>?_)
   .rw[z]at o;have o:pQ X.K E H0 A0 D2 (if ds.length<1000000 then .nx (δ.set i ↥(ds++[d])) else .no) D:=o;split at o
    .rename_i hz;refine⟨p,xs,v,rfl,rfl,n _ _ hl,by rw[u.length,SA];omega,?_⟩;exact o A _ _ ((R.step n).put s q e1 y ((u.same n.del).append (kK hv)))
    .exact o.elim
   .rw[r]at o;exact o H' (R.same.trans s')
   .rw[r]at o;exact o
  .exact o.elim
def TgS(K:N')(D2:J O)(tgt:L->Ds->D' Ds)(g:TG):Prop:=∀(d:L)(v:V)(H0:Hp)(A0:J HL)(H:Hp)(A:J HL)(δ a:Ds)(σ:St)(Q:St->Hp->Prop),cj K H0 A0 H A D2 δ σ->Is K (del H (A++A0)) d v->tgt d δ=Y a ->
 (∀b,cj K H0 A0 H A D2 a b->Q b H)->g v σ H Q
def aU(i:O):L->Ds->D' Ds:=λd δ=>if i<δ.length then Y (δ.set i (Y d)) else S
theorem Fv(hi:i∉D2):TgS K D2 (aU i) (lg i):=λd v H0 A0 H A δ δ' σ Q R h e k=>by
 unfold aU at e;split at e
 .rename_i hl;cases e;exact k _ (R.set hi hl h)
 .cases e
def i5:J O->J L->Ds->D' Ds
 |[],[],δ=>Y δ
 |i::is,d::ds,δ=>if i<δ.length then i5 is ds (δ.set i (Y d)) else S
 |_,_,_=>S
def cO(is:J O):L->Ds->D' Ds
 |.tuple ds,δ=>i5 is ds δ
 |_,_=>S
def AV:J O->TGs
 |[]=>L2.LQ
 |i::is=>L2.C9 (lg i) (AV is)
theorem qu{K:N'}:∀(is:J O)(ds:J L)(vs:J V)(H0:Hp)(A0:J HL)(H:Hp)(A:J HL)(δ a:Ds)(σ:St)(Q:St->Hp->Prop),(∀i∈is,i∉D2)->cj K H0 A0 H A D2 δ σ->Iss K (del H (A++A0)) ds vs->i5 is ds δ=Y a ->
  (∀b,cj K H0 A0 H A D2 a b->Q b H)->AV is vs σ H Q
 |[],[],vs,H0,A0,H,A,δ,a,σ,Q,_,R,h,e,k=>by cases e;exact⟨h.nil_of,k σ R⟩
 |i::is,d::ds,vs,H0,A0,H,A,δ,a,σ,Q,hO,R,h,e,k=>by
  obtain⟨v,r,rfl,h1,h2⟩:=h.cons_of;unfold i5 at e;split at e
  .rename_i hl;exact⟨v,r,rfl,qu is ds r H0 A0 H A _ a _ Q (λj c=>hO j (P4 _ c)) (R.set (hO i P7) hl h1) h2 e k⟩
  .cases e
 |[],_::_,_,_,_,_,_,_,_,_,_,_,_,_,e,_=>by cases e
 |_::_,[],_,_,_,_,_,_,_,_,_,_,_,_,e,_=>by cases e
theorem tI:∀{is:J O}{ds:J L}{δ a:Ds},i5 is ds δ=Y a->ds.length=is.length
 |[],[],_,_,_=>rfl
 |_::is,_::ds,δ,a,e=>by
  unfold i5 at e;split at e
  .simp[tI e]
  .cases e
 |[],_::_,_,_,e=>by cases e
 |_::_,[],_,_,e=>by cases e
theorem Kk{is:J O}(hi:∀i∈is,i∉D2):TgS K D2 (cO is) (L2.M4 K is.length (AV is)):=λd v H0 A0 H A δ a σ Q R h e k=>by
 unfold cO at e;split at e
 .obtain⟨p,xs,rfl,c,b⟩:=h.ofTup;exact⟨p,xs,rfl,SqT.of (aB _ _ c),by rw[b.length,tI e],qu is _ xs H0 A0 H A δ a σ Q hi R b e k⟩
 .cases e
def forL(tgt:L->Ds->D' Ds)(body:Ds->Sr):J L->Ds->Sr
 |[],δ=>.nx δ
 |d::r,δ=>match tgt d δ with
  |none=>.no
  |some δ1=>match body δ1 with
   |.nx δ2=>forL tgt body r δ2
   |.ct δ2=>forL tgt body r δ2
   |.bk δ2=>.nx δ2
   |.rt v=>.rt v
   |.rz C=>.rz C
   |.no=>.no
def cY(D2:J O)(src:Ds->Rs (J L))(tgt:L->Ds->D' Ds)(body:Ds->Sr):Ds->Sr:=λδ=>ofR (src (mask D2 δ)) λds=>forL tgt body ds δ
theorem Jv{u:Ds->Rs (J L)}{tgt:L->Ds->D' Ds}(D1:V2 (model X.prog X.w) X.A X.env X.xe)(hc:X.calm=true)(hi:PID X E tg iter u)(T:TgS X.K D2 tgt g)(U:PG X tg g)(B:PBD X E D2 ss G)
  (W:∀x,foldedSetIterable iter X.env x=pure x):PSD X E D2 (.For tg iter ss [] pos) (cY D2 u tgt G):=(MY D1 hc hi U B W).imp λD σ H F=>by
 obtain⟨H0,A0,A,δ,R,o⟩:=F;unfold cY at o;refine⟨A++A0,mask D2 δ,R.part,?_⟩;cases q:u (mask D2 δ) with
 |no=>rw[q]at o;exact o
 |rz C=>rw[q]at o;exact λH' s'=>o H' (R.same.trans s')
 |ok ds =>
  rw[q]at o;intro Bk H1 N A2;have A4:=(R.step N).more;have o:pQ X.K E H0 A0 D2 (forL tgt G ds δ) D:=o;refine⟨λi m f H'=>m=ds.length-i/\i<=ds.length/\∃l c,cj X.K (un H0 (del H1 (A++A0))) A0 H' l D2 c f/\pQ X.K E H0 A0 D2 (forL tgt G (ds.drop i) c) D,⟨ds.length,by simp,QH _,A,δ,A4,o⟩,?_⟩
  rintro i m f H' ⟨rfl,hi',l,c,n,o'⟩
  have P:aA (del H1 (A++A0)) (un H0 (del H1 (A++A0))):=O7 (R.same.trans N) aB;have hB:∀b∈l++A0,(del H1 (A++A0)) b=none:=λb B=>by
   rcases Ql.mp B with z|z
   .exact P.free (n.new b z)
   .exact ja (PR _ z)
  obtain⟨jg,js,jy⟩:=A2 H' (l++A0) (P.trans n.same) n.lsA hB;by_cases hlt:i<ds.length
  .refine .inr ⟨jg i hlt,?_⟩;have I:ds.drop i=ds[i]::ds.drop (i+1):=Ri hlt;rw[I]at o';unfold forL at o';refine⟨λp H2=>∃B' a,cj X.K (un H0 (del H1 (A++A0))) A0 H2 B' D2 a p/\pQ X.K E H0 A0 D2 (forL tgt G (ds.drop (i+1)) a) D,λp H2 ⟨B',a,R2,o2⟩=>⟨ds.length-(i+1),⋯,rfl,hlt,B',a,R2,o2⟩,λx H2 y=>?_⟩;obtain⟨s2,d,Q,hd⟩:=jy i x H2 hlt y;have:ds[i]=d:=by have:=My hlt;rw[this]at Q;exact P' Q
   rw[this]at o';cases et:tgt d c with
   |none=>rw[et]at o';exact o'.elim
   |some δ1 =>
    dsimp[et]at o';refine T d x _ _ _ _ _ _ _ _ (n.step s2) hd et λσ3 R3=>⟨_,_,_,_,R3,?_⟩
    cases eb:G δ1 with
    |nx a=>rw[eb]at o';exact λr h j s=>⟨r,a,s,o'⟩
    |ct a=>rw[eb]at o';exact λr h j s=>⟨r,a,s,o'⟩
    |bk a=>rw[eb]at o';exact λr h j s=>o' r h j (s.less EU R.ls0)
    |rt v=>rw[eb]at o';exact λv4 j M h4=>o' v4 j (EU.trans M) h4
    |rz C=>rw[eb]at o';exact λj M=>o' j (EU.trans M)
    |no=>rw[eb]at o';exact o'
  .have e:i=ds.length:=⋯
   subst e;rw[Sj]at o';exact .inl ⟨js,o' l f H' (n.less EU R.ls0)⟩
end
section
variable {ss:J Ur}{G G':Ds->Sr}{a b c:Sq}{ga gb gk:Ds->Rs L}{ca:Ds->Rs R0}
def b8(c:Ds->Rs R0)(b:Ds->Sr):O->Ds->Sr
 |0,_=>.no
 |n+1,δ=>ofR (c δ) λt=>if t=true then (match b δ with
  |.nx δ2=>b8 c b n δ2
  |.ct δ2=>b8 c b n δ2
  |.bk δ2=>.nx δ2
  |.rt v=>.rt v
  |.rz C=>.rz C
  |.no=>.no) else .nx δ
theorem DU(fuel:O)(j:V2 (model X.prog X.w) X.A X.env X.xe)(hc:PCD X E c ca)(l:PBD X E D2 ss G):PSD X E D2 (.While c ss [] pos) (λδ=>b8 ca G fuel δ):=(yh j hc l).imp λD σ H e=>by
 obtain⟨H0,A0,A,δ,R,o⟩:=e;refine⟨λm σ H=>∃A δ,cj X.K H0 A0 H A D2 δ σ/\pQ X.K E H0 A0 D2 (b8 ca G m δ) D,⟨fuel,A,δ,R,o⟩,?_⟩
 rintro m σ H ⟨A,δ,R,o⟩
 cases m with
 |zero=>exact o.elim
 |succ m =>
  unfold b8 at o;refine cD.run R.full (λt a H1 i R1=>?_) (λC a H' s'=>?_) (λa=>?_)
  .rw[a]at o;cases t with
   |false=>exact o A σ H1 (R.step i)
   |true =>
    refine⟨λb H'=>∃A δ,cj X.K H0 A0 H' A D2 δ b/\pQ X.K E H0 A0 D2 (b8 ca G m δ) D,λb H' q=>⟨m,R9 m,q⟩,H0,A0,A,δ,R.step i,?_⟩;have o:pQ X.K E H0 A0 D2 (match G δ with
     |.nx δ2=>b8 ca G m δ2
     |.ct δ2=>b8 ca G m δ2
     |.bk δ2=>.nx δ2
     |.rt v=>.rt v
     |.rz C=>.rz C
     |.no=>.no) D:=o
    cases eb:G δ with
    |nx δ2=>rw[eb]at o;exact λf g n h=>⟨f,δ2,h,o⟩
    |ct δ2=>rw[eb]at o;exact λf g n h=>⟨f,δ2,h,o⟩
    |bk δ2=>rw[eb]at o;exact o
    |rt v=>rw[eb]at o;exact o
    |rz C=>rw[eb]at o;exact o
    |no=>rw[eb]at o;exact o
  .rw[a]at o;exact o H' (R.same.trans s')
  .rw[a]at o;exact o
def AS(D2:J O)(tgt:L->Ds->D' Ds)(g:Ds->Rs L):Ds->Sr:=λδ=>ofR (g (mask D2 δ)) λd=>match tgt d δ with
 |some δ'=>.nx δ'
 |none=>.no
theorem Im{tgt:L->Ds->D' Ds}(h:PD X E e ga)(f:TgS X.K D2 tgt g)(i:PG X tg g)(j:swapsWithSole [tg] e pos.line X.env=pure false)(hw:swappedStores [tg] e X.env=pure S)
  (h1:(assignEach [tg] X.env).map (·.2)=[assign tg X.env]):PSD X E D2 (.Assign [tg] e pos) (AS D2 tgt ga):=(Fh h i j hw h1).imp λD σ H a=>by
 obtain⟨H0,A0,A,δ,R,o⟩:=a;unfold AS at o;refine eD.run R.part (λd l v H1 m R1 hv=>?_) (λC b H' s'=>?_) (λb=>?_)
 .dsimp[l,aw]at o;cases q:tgt d δ with
  |none=>rw[q]at o;exact o.elim
  |some δ'=>rw[q]at o;exact f d v H0 A0 H1 A δ δ' σ _ (R.step m) hv q λc n=>o A c H1 n
 .rw[b]at o;exact o H' (R.same.trans s')
 .rw[b]at o;exact o
def uE(i:O)(gk ge:Ds->Rs L):Ds->Sr:=λδ=>match δ[i]? with
 |some ↥ds=>ofR (ge δ) λd=>ofR (gk δ) λk=>match k with
  |.int k=>match ixN ds.length k with
   |some j=>if fW d then .nx (δ.set i ↥(ds.set j d)) else .no
   |none=>.no
  |_=>.no
 |_=>.no
theorem JD{k:Sq}{ps:Vp}(h:PD X E e ga)(n:PD X E k gk)(g:i∈D2)(hi:X.N[i]?=Y x)(hv:Vis X.env.scope x)
  (hd:(x==("__debug__":M'))=false) (c:(x==("__classdict__":M'))=false)
  (ha:∀v,assign (.Subscript (.Name x pn) k ps) X.env v=(do
   let ov <-holding [v] (eval (.Name x pn) X.env);let iv <-holding [v,ov] (eval k X.env)
   standAt ps
   holding [v,ov,iv] (setItem ov iv v)
   release [v,ov,iv] []))
  (r:swapsWithSole [.Subscript (.Name x pn) k ps] e pos.line X.env=pure false) (hw:swappedStores [.Subscript (.Name x pn) k ps] e X.env=pure S)
  (h1:(assignEach [.Subscript (.Name x pn) k ps] X.env).map (·.2)=[assign (.Subscript (.Name x pn) k ps) X.env]):PSD X E D2 (.Assign [.Subscript (.Name x pn) k ps] e pos) (uE i gk ga) :=
 (Fh h (Mn (ku hi hv hd c) n set_list ha) r hw h1).imp λD σ H f=>by
  obtain⟨H0,A0,A,δ,R,o⟩:=f;unfold uE at o;split at o
  .rename_i ds q;obtain⟨p,xs,ds',e1,s,hl,e2,l⟩:=R.ownL g q;cases e2;refine eD.run R.full (λd w v H1 m y hv=>?_) (λC b H' s'=>?_) (λb=>?_)
   .dsimp[w,aw]at o;refine⟨_,e1,?_⟩;refine eD.run y (λkd z u H2 s2 R2 B=>?_) (λC b H' s'=>?_) (λb=>?_)
    .dsimp[z,aw]at o;split at o
     .rename_i F;split at o
      .rename_i j G;split at o
       .rename_i hn;have a:=m.trans s2;refine⟨p,xs,F,j,rfl,B.ofInt,a _ _ hl,by rw[l.length];exact G,?_⟩;exact o A _ _ ((R.step a).put g q e1 s (Iss.set (((hv.same s2.del).same aB).dl (R.step a).lsA hn) j (l.same a.del)))
       .exact o.elim
      .exact o.elim
     .exact o.elim
    .dsimp[b,kl]at o;exact o H' (R.same.trans (m.trans s'))
    .dsimp[b,kj]at o;exact o
   .dsimp[b,kl]at o;exact o H' (R.same.trans s')
   .dsimp[b,kj]at o;exact o
  .exact o.elim
def Iz(D2:J O)(i:O)(g:Ds->Rs L):Ds->Sr:=λδ=>match δ[i]? with
 |some ↥ds=>ofR (g (mask D2 δ)) λd=>match d with
  |.list es=>if ds.length+es.length<=1000000 then .nx (δ.set i ↥(ds++es)) else .no
  |_=>.no
 |_=>.no
theorem Jf{m f:Vp}(h:PD X E e ga)(w:i∈D2)(hi:X.N[i]?=Y x)(hv:Vis X.env.scope x)
  (hd:(x==("__debug__":M'))=false) (n:(x==("__classdict__":M'))=false) (g:starEach [e] X.env=(false,eval e X.env)::starEach [] X.env)
  (a:attributeBase (.Name x pn) "extend" X.env (eval (.Name x pn) X.env)=eval (.Name x pn) X.env)
  (j:((backTo f (starEach [e] X.env)).all (λx=>!x.1)&&(backToKw f (keywordEach [] X.env)).all (λx=>x.1.isSome)&&decide (([e]:J Sq).length+([]:J Tg).length+(if ([]:J Tg).isEmpty then 0 else 1)<30))=true)
  (c:(m.endLine==f.line)=true) (z:swapsWith (.Call (.Attribute (.Name x pn) "extend" m) [e] [] f) S pos.line X.env=pure false) :
  PSD X E D2 (.Expr (.Call (.Attribute (.Name x pn) "extend" m) [e] [] f) pos) (Iz D2 i ga) :=
 (og (C7 Up W2 F.type_list_extend D0 (ku hi hv hd n) (e9 h gZ g) a j c g rfl) z).imp λD σ H r=>by
  obtain⟨H0,A0,A,δ,R,o⟩:=r;unfold Iz at o;split at o
  .rename_i ds q;obtain⟨p,xs,ds',e1,B,hl,e2,y⟩:=R.ownL w q;cases e2;refine⟨_,e1,tyL hl,?_⟩;refine eD.run R.part (λd G v H1 s R1 hv=>?_) (λC u H' s'=>?_) (λu=>?_)
   .dsimp[G,aw]at o;split at o
    .rename_i es;split at o
     .rename_i hz;obtain⟨b,zs,rfl,I,l⟩:=hv.ofLst;refine⟨p,b,xs,zs,rfl,rfl,s _ _ hl,aB _ _ I,by rw[y.length,l.length,SA];omega,?_⟩;exact o A _ _ ((R.step s).put w q e1 B ((y.same s.del).append l))
     .exact o.elim
    .exact o.elim
   .dsimp[u,kl]at o;exact o H' (R.same.trans s')
   .dsimp[u,kj]at o;exact o
  .exact o.elim
structure ur(K:N')(mg:M'->D' F')(x:M')(C:HL):Prop where
 m:mg x=Y (.ref C)
 e:Xl K C [.type "ValueError",.type "Exception",.type "BaseException",.type "object"] "ValueError.__new__"=true
def kq(C:HL)(gs:Ds->Rs (J L)):Ds->Sr:=λδ=>ofR (gs δ) λ_=>.rz C
theorem Ei{i:Vp}(hc:X.calm=true)(M:Bf X E)(g:ur X.K X.mg x C)(ha:PAD X E (e::es) gs)(hl:(e::es).length<=1000)(j:Gl X x)
  (a:(x==("__debug__":M'))=false) (l:starEach (e::es) X.env=(false,eval e X.env)::starEach es X.env) (b:(backTo cpos (starEach es X.env)).any (·.1)=false) :
  PSD X E D2 (.Raise (Y (.Call (.Name x i) (e::es) [] cpos)) S pos) (kq C gs) :=
 (Gb hc M F.excBase_ValueError j g.m g.e ha.1 a l b).imp λD σ H c=>by
  obtain⟨H0,A0,A,δ,R,o⟩:=c;unfold kq at o;refine aD.run R.full (λds h vs H1 n R1 hv=>?_) (λC f H' s'=>?_) (λf=>?_)
  .dsimp[h,aw]at o;exact⟨by rw[hv.length,ha.2 δ ds h,SA];omega,o H1 (R.same.trans n)⟩
  .dsimp[f,kl]at o;exact o H' (R.same.trans s')
  .dsimp[f,kj]at o;exact o
end
section
theorem nX{f:HL}{k:O}(F:Fun K x qual st f fd)(D1:dH N ps (aH st))(len:∀vs H Q E,sp vs H Q E->vs.length=ps.length)
  (a:∀(cdv:F')(A:Ss)(outer:J WH)(s:K')(H:Hp)(vs:J V)(Q:VK)(E:XK),cH k (A.deeper (envOfC qual (aH st) s.heap.objs.size f cdv))->sp vs H Q E ->
   ∃t,PSs (d8 CX P w K mg base N qual (aH st) f cdv A outer s H E) (cw st) t/\t {nx:=λ_ H'=>Q .non H',rt:=Q} (start N vs) H):iP P w K mg base CX (k+1) f fd ps sp:=by
 obtain⟨oc,od,kV,doc,pm,an,cdv,ct,osl,rfl,e,b⟩:=F.ex;exact Hh e b D1 len λA outer s H vs Q E g c=>a cdv A outer s H vs Q E g c
def bc:Sr->Rs L
 |.rt d=>.ok d
 |.nx _=>.ok .none
 |.rz C=>.rz C
 |_=>.no
theorem Lx{f:HL}{A:Ss}:Bf (d8 (CXW P w) P w K mg base N qual scope f cd A outer s H E) E :=
 λ_ _ _ _ _ _ _ _ I a b=>yH (CX:=CX0) I a b
theorem cj.start(f:Ls H A0)(hi:Iss K (del H A0) ds vs)(hl:ds.length=ps.length)(c:∀i∈D2,ps.length<=i) :
  cj K H A0 H [] D2 (ds.map Y++I' (N.length-ps.length) S) (L2.start N vs):=by
 have hv:=hi.length;have at':∀(i:O) d,(ds.map Y++I' (N.length-ps.length) S)[i]?=Y (Y d)->i<ds.length/\ds[i]?=Y d:=λi d e=>by
  by_cases h:i<ds.length
  .rw[Qc (by simpa using h),Q5]at e;refine⟨h,?_⟩;cases q:ds[i]? with
   |none=>rw[q]at e;cases e
   |some z=>rw[q]at e;simp at e;rw[e]
  .rw[Qh (by simpa using h),RN]at e;split at e <;> cases e
 refine⟨aA.refl _,f,(λa h=>by cases h),(λa h=>by cases h),?_,λi d _ e=>?_,λi d h e=>?_,λi j d e a h _ q _ _ _=>?_⟩
 .unfold L2.start;simp[hv,hl]
 .obtain⟨b,e⟩:=at' i d e;obtain⟨v,ev,hd⟩:=hi.getD e;refine⟨v,?_,hd⟩;unfold L2.start;rw[Qc (by simp;omega),Q5,ev];rfl
 .obtain⟨b,_⟩:=at' i d e;exact So (c i h) ⋯
 .obtain⟨b,_⟩:=at' i d q;exact So (c i h) ⋯
theorem jL.of{f:HL}{k:O}{G:Ds->Sr}(F:Fun K x qual st f fd)(D1:dH N ps (aH st))(b:Binds K fd ps [])(m:mg x=Y (.ref f))(e:∀i∈D2,ps.length<=i)
  (body:∀(cdv:F')(A:Ss)(outer:J WH)(s:K')(H:Hp)(E:XK),cH k (A.deeper (envOfC qual (aH st) s.heap.objs.size f cdv))->PBD (d8 (CXW P w) P w K mg base N qual (aH st) f cdv A outer s H E) E D2 (cw st) G)
  (g:∀ds,ds.length=ps.length->gf ds≠.no->bc (G (ds.map Y++I' (N.length-ps.length) S))=gf ds):jL P w K mg base (k+1) x ps.length gf:=by
 refine⟨f,fd,ps,nX F D1 (λvs H Q E h=>?_) (λcdv A outer s H vs Q E j h=>?_),m,F.kp,b⟩
 .obtain⟨A,ds,c,hi,hl,o⟩:=h;rw[hi.length,hl]
 .obtain⟨A0,ds,c,hi,hl,o⟩:=h;refine⟨_,body cdv A outer s H E j,H,A0,[],_,cj.start c hi hl e,?_⟩;have a:=g ds hl (λz=>by rw[z]at o;exact o);cases q:G (ds.map Y++I' (N.length-ps.length) S) with
  |rt d=>rw[q]at a;rw[<-a]at o;exact λv H' s' hv=>o v H' s' hv
  |nx δ=>rw[q]at a;rw[<-a]at o;exact λA' σ H' l=>o .non H' l.same is_none
  |rz C=>rw[q]at a;rw[<-a]at o;exact λH' s'=>o H' s'
  |bk δ=>rw[q]at a;rw[<-a]at o;exact o.elim
  |ct δ=>rw[q]at a;rw[<-a]at o;exact o.elim
  |no=>rw[q]at a;rw[<-a]at o;exact o.elim
theorem jL.old{f:HL}{k:O}(F:iP P w K mg base CX0 k f fd ps sp)(m:mg x=Y (.ref f))(kp:Uo K (.ref f)=true)(b:Binds K fd ps [])
  (h:∀ds,ds.length=ps.length->gf ds≠.no->∃d,gf ds=.ok d/\iI d=true/\∀vs H Q,Iss K H ds vs->(∀v H',aA H H'->IsD K H' d v->Q v H')->sp vs H Q E0):jL P w K mg base k x ps.length gf:=by
 refine⟨f,fd,ps,⟨λvs H Q E h'=>?_,λA outer s H args us vs Q E j l n hv h'=>?_⟩,m,kp,b⟩
 .obtain⟨A,ds,g,hi,hl,o⟩:=h';rw[hi.length,hl]
 .obtain⟨A0,ds,g,hi,hl,o⟩:=h';obtain⟨d,e,i,c⟩:=h ds hl (λz=>by rw[z]at o;exact o);rw[e]at o;refine TY (F.run A outer s H args us vs Q E0 j l n hv (c vs H Q (hi.same aB) λv H' s' hd=>o v H' s' ((hd.is i).dl (g.same s') (AQ i)))) λr s' a=>?_
  cases r with
  |error ev=>exact SR a
  |ok fl =>
   cases fl with
   |ret u=>exact a
   |next=>exact SR a
   |brk=>exact SR a
   |cont=>exact SR a
end
open AutoSeq1 (wpAny_loadPart')
theorem pY:fillsNumberSlot (.type "tuple") "mul"=pure false :=
 PySem.fillsNumberSlot_seq (id:="tuple.__mul__") (r:=Y (.builtin "tuple.__rmul__")) V6.lookup (by decide +kernel) Ww.lookup (by decide +kernel)
theorem wc:seqRepeat? (.type "tuple")=pure (Y (.builtin "tuple.__mul__")):=by unfold seqRepeat?;rw[PySem.seqSlot_of (T:="tuple") (name:="__mul__") (id:="tuple.__mul__") V6.lookup (by decide +kernel),PySem.seqSlot_of (T:="tuple") (name:="__rmul__") (id:="tuple.__rmul__") Ww.lookup (by decide +kernel)];rfl
theorem xi(a:Z)(t:Yj)(l:HL)(items:SN F')(n:O)(dd:D' HL)(b:SN (D' F')) :
  XT (Rf.«int.__rmul__» ⟨[.int a t,.ref l],[]⟩) (λ_ R s=>s.heap.get? l=Y {cls:=.type "tuple",dict:=dd,data:=.seq items n,slots:=b}/\R (.ok (.ret Vu)) s) :=
 .of_wp λprog w A R s h=>by obtain⟨hp,g,d,tk,os⟩:=s;obtain⟨hl,h⟩:=h;wp_walk;exact⟨_,rfl,h⟩
theorem F4(l:HL)(items:SN F')(n:O)(x:Z)(u:Yj)(dd:D' HL)(a:SN (D' F'))(h1:(decide (x < -(2 ^ 63))||decide (x≥2 ^ 63))=false)(h2:(items.isEmpty||x==1)=false)(h3:(decide (x<=0)||items.isEmpty)=false)
  (b:decide ((items.size:Z)*x>(2 ^ 63-1) / 8)=false) (h5:UM ((items.size:Z)*x)=false) (hsz:(U8 (λx1 x2=>x1++x2) #[] (I' x.toNat items)).size<=sizeLine) :
  XT (Rf.«tuple.__mul__» ⟨[.ref l,.int x u],[]⟩) (λ_ R s=>s.heap.get? l=Y {cls:=.type "tuple",dict:=dd,data:=.seq items n,slots:=a}/\R (.ok (.ret (Sz s.heap.objs.size))) {s with heap:=s.heap.push {cls:=U4 "tuple",data:=Data.seq (U8 (λx1 x2=>x1++x2) #[] (I' x.toNat items))}}) :=
 .of_wp λprog w A R s h=>by
  obtain⟨hp,g,d,tk,os⟩:=s;obtain⟨hl,h⟩:=h;have f1:=AutoSeq1.idx_int;have f2:=V1
  wp_walk using Tc hl
  refine Xe (by rw[h1];rfl) ?_
  wp_walk using Tc hl
  refine Xe b ?_
  wp_walk using Tc hl
  exact⟨_,rfl,h⟩
section
variable {a b c:Sq}{ga gb gc:Ds->Rs L}
def Le(K:N'):R2:=λx y H Q=>∃l k xs,x=.ref l/\y=.int k/\SqT K H l xs/\xs≠[]/\2<=k/\k<1000000/\xs.length*k.toNat<=1000000/\∀p,H p=S->Q (.ref p) (upd H p (.tup (I' k.toNat xs).flatten))
theorem Kz:OpR X (binaryOp .Mult) (Le X.K):=by
 intro z7 s σ H x y v u Q I m p h;obtain⟨l,k,xs,rfl,rfl,hl,i,hk1,hk2,w,q⟩:=h;cases m;obtain⟨t,rfl⟩:=p;obtain⟨a,r,p1,_⟩:=I.tuple hl;obtain⟨⟨cls,dd,data,j⟩,g,hc,n,hd⟩:=id p1;simp only at hc hd;subst hc hd;have x9:=r.length;have e:a≠[]:=λz=>i (r.nil_iff.mp z)
 have hpos:0<a.length:=R5.mpr e;have c:U8 (λx1 x2=>x1++x2) #[] (I' k.toNat a.toArray)=(I' k.toNat a).flatten.toArray:=by have:=foldl_rep a k.toNat [];rw[Qs]at this;exact this
 have f:a.toArray.isEmpty=false:=by simp[e]
 have hmul:(a.length:Z)*k<=1000000:=by
  have e1:((a.length*k.toNat:O):Z)=(a.length:Z)*k:=by rw[Z.natCast_mul,Rm ⋯]
  rw[<-e1,<-x9];omega
 have hsz2:(I' k.toNat a).flatten.length<=1000000:=by rw[len_rep,Wq,<-x9];exact w
 refine UP (T:="tuple") (U:="int") #[1] ⟨_,g,rfl⟩ (λs'=>Vg s' k t) pY Xb Uy wc WN.lookup
  (U9 Uy (Vg s k t) WO (Wo _ _) (xi k t l a.toArray n dd j)
   ⟨g,rfl,⟨_,g,rfl⟩,U9 V6 ⟨_,g,rfl⟩ F.entry_tuple_mul (F.args_tuple_mul_2 _ _) (F4 l a.toArray n k t dd j ?_ ?_ ?_ ?_ ?_ ?_) ⟨g,?_⟩⟩)
 .rw[L' ⋯,L' ⋯];rfl
 .rw[f,S9];simp;omega
 .rw[f,XJ];exact L' ⋯
 .rw[PX];exact L' ⋯
 .rw[PX];unfold UM;rw[SA];exact L' ⋯
 .rw[c,PX,SA];omega
 .rw[c];refine⟨.ref s.heap.objs.size,_,I.laid (t':=s.toks) (o:=.tup (I' k.toNat xs).flatten) (λb ob q=>P5 _ q) (PN _) ?_,rfl,q _ (I.hok.fresh (PN _))⟩;exact⟨by rw[len_rep,Wq,SA];omega,_,r.rep k.toNat,xD.new _ _⟩
def fB:L->L->D' L
 |.int i,.int j=>if (-(2 ^ 64)<i/\i<2 ^ 64)\/(-(2 ^ 64)<j/\j<2 ^ 64) then ⇑(i*j) else S
 |.list x,.int k=>if 0<=k/\k<1000000/\x.length*k.toNat<=1000000 then Y (.list (I' k.toNat x).flatten) else S
 |.tuple x,.int k=>if x≠[]/\2<=k/\k<1000000/\x.length*k.toNat<=1000000 then Y (.tuple (I' k.toNat x).flatten) else S
 |_,_=>S
theorem K1:OpD K fB (λx y H Q=>rI IY (λi j=>.int (i*j)) x y H Q\/N6 x y H Q\/Le K x y H Q):=λd1 d2 d x y H A Q e f h1 h2 k=>by
 unfold fB at e;split at e
 .split at e
  .rename_i z;cases e;exact .inl ⟨_,_,h1.ofInt,h2.ofInt,z,k _ H (aA.refl _) bN⟩
  .cases e
 .split at e
  .rename_i z;cases e;obtain⟨p,xs,rfl,c,a⟩:=h1.ofLst;exact .inr (.inl ⟨p,_,xs,rfl,h2.ofInt,aB _ _ c,⋯,⋯,by rw[a.length,SA];omega,λr b=>k _ _ (bS b) (me f b (a.rep _))⟩)
  .cases e
 .split at e
  .rename_i z;cases e;obtain⟨p,xs,rfl,c,a⟩:=h1.ofTup;refine .inr (.inr ⟨p,_,xs,rfl,h2.ofInt,SqT.of (aB _ _ c),λq=>z.1 ?_,z.2.1,z.2.2.1,by rw[a.length];exact z.2.2.2,λr b=>k _ _ (bS b) (nO f b (a.rep _))⟩);exact Rn.mp (by rw[<-a.length,q];rfl)
  .cases e
 .cases e
theorem LW(ha:PD X E a ga)(c:PD X E b gb):PD X E (.BinOp a .Mult b pos) (g2 fB ga gb):=iA K1 ha c (fY (pA.or (NA.or Kz)))
end
section
variable {A:Ss}{E:F'->K'->Prop}
theorem mr{t:HL}{i j:F'}(a:Xn s.heap t items)(l:s.heap.IsSliceOf c i j .none)(pl:Ve i lo)(n:Ve j hi)
  (hw:HT.sIx items.size 0 lo=0/\HT.sIx items.size items.size hi=items.size) (h:Q (.ref t) s):wpAny (model prog w) A (getItem (.ref t) (.ref c)) Q E s:=by
 obtain⟨os,e,f,hds⟩:=id l;have g:s.TypeIs (.ref c) "slice":=⟨os,e,f⟩
 unfold getItem
 try with_reducible refine T7 ?_
 first|refine F1 (J' ?_)|skip
 refine F1 (Wj a.typeIs #[1] ?_);refine F1 (T5 (name:=SV "__getitem__") a.typeIs SH
  (TM SH a.typeIs VG ?_ (W0 _ _)))
 show wpAny _ _ (UJ (.ref t) >>= _) _ _ s;refine F1 (tupleItemsOf_ a ?_);refine F1 (Wl g ?_);rw[FC #[1]];refine F1 (HT.jQ l pl n ?_);have b:(((HT.sIx items.size 0 lo:O):Z)==0&&(1:Z)==1&&(HT.sIx items.size items.size hi-HT.sIx items.size 0 lo)==items.size)=true:=by rw[hw.1,hw.2];simp
 show wpAny _ _ (if (((HT.sIx items.size 0 lo:O):Z)==0&&(1:Z)==1&&(HT.sIx items.size items.size hi-HT.sIx items.size 0 lo)==items.size)=true then _ else _) _ _ s;rw[FC b];refine F1 (m:=Rf.Tuple.tupleIsExact (.ref t)) (F1 (Wl a.typeIs (J' ?_)));rw[FC #[1]]
 first
  |exact F1 (UL (J' ⟨_,rfl,J' h⟩))
  |(refine F1 (UL ?_);trace_state;exact J' ⟨_,rfl,J' h⟩)
end
end L2
variable {δ:L2.Ds}{gf:J L->L2.Rs L}{gs gi src:L2.Ds->L2.Rs (J L)}{cond:L2.Ds->L2.Rs R0}{tgt:L->D' L2.Ds}{ga gb:L2.Ds->L2.Rs L}
namespace L2
open PySem PySem.Spec PyProof.Rows
section
variable {E:XK}{a b c e:Sq}{gc:Ds->Rs L}{es:J Sq}
def NY(K:N'):V->D' Z->D' Z->Hp->VK->Prop:=λx lo hi H Q=>∃a xs,x=.ref a/\SqT K H a xs/\(HT.sIx xs.length 0 lo=0/\HT.sIx xs.length xs.length hi=xs.length)/\Q (.ref a) H
theorem Ju:SlR X (NY X.K):=by
 intro z7 s σ H x v vl vu lo hi sl Q I e f pl g h;obtain⟨a,xs,rfl,i,hw,q⟩:=h;cases e;obtain⟨b,r,c,hz⟩:=I.tuple i;have x9:b.toArray.size=xs.length:=by rw[PX,r.length]
 refine⟨"tuple",_,SH.lookup,c.typeIs,?_⟩;exact mr c f pl g (by rw[x9];exact hw) ⟨.ref a,H,I,rfl,q⟩
def cutD(xs:J L)(lo hi:D' Z):J PyData:=(xs.drop (HT.sIx xs.length 0 lo)).take (HT.sIx xs.length xs.length hi-HT.sIx xs.length 0 lo)
def JO:L->D' Z->D' Z->D' L
 |.list x,lo,hi=>↥(cutD x lo hi)
 |.tuple x,lo,hi=>Y (.tuple (cutD x lo hi))
 |_,_,_=>S
def Fi:L->Rs (D' Z)
 |.int i=>.ok (Y i)
 |_=>.no
def dk:Ds->Rs (D' Z):=λ_=>.ok S
def gP(g:Ds->Rs L):Ds->Rs (D' Z):=λδ=>(g δ).bind Fi
def O0(E:XK)(H:Hp)(r:Rs (D' Z))(Q:D' Z->Hp->Prop):Prop:=match r with
 |.ok o=>∀H',aA H H'->Q o H'
 |.rz C=>∀H',aA H H'->E (.ref C) S H'
 |.no=>False
def oD(K:N')(E:XK)(g:Ds->Rs (D' Z)):TO:=λσ H Q=>∃A δ,eF K H A δ σ/\O0 E H (g δ) Q
def POD(X:Cx)(E:XK)(e:D' Sq)(g:Ds->Rs (D' Z)):Prop:=PO X e (oD X.K E g)
theorem PO.imp{e:D' Sq}{t t':TO}(h:PO X e t)(k:∀σ H Q,t' σ H Q->t σ H Q):PO X e t':=λz7 s σ H Q I q=>h z7 s σ H Q I (k σ H Q q)
theorem Fn:POD X E S dk:=Kw.imp λσ H Q a=>(by obtain⟨A,δ,R,o⟩:=a;exact o H (aA.refl _))
theorem HD(h:PD X E e ga):POD X E (Y e) (gP ga):=(Iq h).imp λσ H Q ⟨A,δ,R,o⟩=>⟨A,δ,R,by
 unfold gP at o;cases q:ga δ with
 |no=>rw[q]at o;exact o
 |rz C=>rw[q]at o;exact o
 |ok d =>
  rw[q]at o;cases d with
  |int i=>exact λv H' s h=>⟨i,h.ofInt,o H' s⟩
  |_=>exact o.elim⟩
theorem oD.run{g:Ds->Rs (D' Z)}{Q:D' Z->Hp->Prop}(R:eF K H A δ σ)
  (ok:∀d,g δ=.ok d->∀H',aA H H'->eF K H' A δ σ->Q d H') (rz:∀C,g δ=.rz C->∀H',aA H H'->E (.ref C) S H') (no:g δ=.no->False):oD K E g σ H Q:=by
 refine⟨A,δ,R,?_⟩;cases e:g δ with
 |ok d=>exact λH' s=>ok d e H' s (R.same s)
 |rz C=>exact λH' s=>rz C e H' s
 |no=>exact no e
def eV(g:Ds->Rs L)(lo hi:Ds->Rs (D' Z)):Ds->Rs PyData:=λδ=>(g δ).bind λd=>(lo δ).bind λl=>(hi δ).bind λh=>Rs.eu (JO d l h)
theorem Iss.cut(h:Iss K H ds vs)(lo hi:D' Z):Iss K H (cutD ds lo hi) (yA vs lo hi):=by unfold cutD yA;rw[h.length];exact (h.drop _).take _
theorem G4{lo hi:D' Sq}{n r:Ds->Rs (D' Z)}{p2:Vp}(w:PD X E e ga)(hl:POD X E lo n)(x:POD X E hi r):PD X E (.Subscript e (.Slice lo hi S p2) pos) (eV ga n r) :=
 (HN (Ke.or (Lz.or Ju)) w hl x).imp λσ H Q j=>by
  obtain⟨A,δ,R,o⟩:=j;unfold eV at o;refine eD.run R (λd y v H1 m z hv=>?_) (λC a H' s'=>by rw[a]at o;exact o H' s') (λa=>by rw[a]at o;exact o);dsimp[y,Rs.ag]at o;refine oD.run z (λl B H2 s2 R2=>?_) (λC a H' s'=>by rw[a]at o;exact o H' (m.trans s')) (λa=>by rw[a]at o;exact o);dsimp[B,Rs.ag]at o;refine oD.run R2 (λh D H3 s u=>?_) (λC a H' s'=>by rw[a]at o;exact o H' (m.trans (s2.trans s'))) (λa=>by rw[a]at o;exact o);dsimp[D,Rs.ag]at o;have f:=hv.same (s2.trans s).del;have b:=m.trans (s2.trans s);cases d with
  |list ds =>obtain⟨p,xs,rfl,g,c⟩:=f.ofLst;exact .inl ⟨p,xs,rfl,SqL.of (aB _ _ g),λq i=>o _ _ (b.trans (bS i)) (me u.ls i (c.cut l h))⟩
  |tuple ds =>
   obtain⟨p,xs,rfl,g,c⟩:=f.ofTup;by_cases hw:HT.sIx xs.length 0 l=0/\HT.sIx xs.length xs.length h=xs.length
   .refine .inr (.inr ⟨p,xs,rfl,SqT.of (aB _ _ g),hw,o _ _ b ?_⟩);have e:cutD ds l h=ds:=by unfold cutD;rw[<-c.length,hw.1,hw.2];simp[c.length]
    show Is X.K _ (.tuple (cutD ds l h)) _;rw[e];exact jJ g c
   .exact .inr (.inl ⟨p,xs,rfl,SqT.of (aB _ _ g),hw,λq i=>o _ _ (b.trans (bS i)) (nO u.ls i (c.cut l h))⟩)
  |_=>exact o.elim
def toV:L->V
 |.none=>.non
 |.bool b=>.bl b
 |.int i=>.int i
 |.str x=>.str x
 |_=>.non
def inD(x:L)(xs:J L):Bool:=inV (toV x) (xs.map toV)
def Ig(neg:R0):L->L->D' L
 |x,.list xs=>if iI x&&xs.all iI then Y (.bool (if neg then !inD x xs else inD x xs)) else S
 |x,.tuple xs=>if iI x&&xs.all iI then Y (.bool (if neg then !inD x xs else inD x xs)) else S
 |_,_=>S
theorem Is.flat{d:L}(h:Is K H d v)(f:iI d=true):v=toV d/\kX v=true:=by
 cases d with
 |none=>rw[h.ofNone];exact⟨rfl,rfl⟩
 |bool b=>rw[h.ofBool];exact⟨rfl,rfl⟩
 |int i=>rw[h.ofInt];exact⟨rfl,rfl⟩
 |str x=>rw[h.ofStr];exact⟨rfl,rfl⟩
 |_=>cases f
theorem Iss.flat{K:N'}{H:Hp}:∀{ds:J L}{vs:J V},Iss K H ds vs->ds.all iI=true->vs=ds.map toV/\vs.all kX=true
 |[],_,h,_=>by rw[h.nil_of];exact⟨rfl,rfl⟩
 |d::ds,_,h,f=>by rw[Ry,P9]at f;obtain⟨v,r,rfl,h1,h2⟩:=h.cons_of;obtain⟨e1,f1⟩:=h1.flat f.1;obtain⟨e2,f2⟩:=Iss.flat h2 f.2;exact⟨by rw[e1,e2];rfl,by rw[Ry,f1,f2];rfl⟩
theorem Mg{neg:R0}:OpD K (Ig neg) (rIn K neg):=λd1 d2 d x y H A Q e hA h1 h2 k=>by
 unfold Ig at e;split at e
 .split at e
  .rename_i z;rw[P9]at z;cases e;obtain⟨p,xs,rfl,a,b⟩:=h2.ofLst;obtain⟨e1,f1⟩:=h1.flat z.1;obtain⟨e2,f2⟩:=b.flat z.2;refine⟨p,xs,rfl,.inl (SqL.of (aB _ _ a)),f1,f2,?_⟩;rw[e1,e2];exact k _ H (aA.refl _) is_bool
  .cases e
 .split at e
  .rename_i z;rw[P9]at z;cases e;obtain⟨p,xs,rfl,a,b⟩:=h2.ofTup;obtain⟨e1,f1⟩:=h1.flat z.1;obtain⟨e2,f2⟩:=b.flat z.2;refine⟨p,xs,rfl,.inr (SqT.of (aB _ _ a)),f1,f2,?_⟩;rw[e1,e2];exact k _ H (aA.refl _) is_bool
  .cases e
 .cases e
theorem OV(ha:PD X E a ga)(c:PD X E b gb)(hm:behindInMarks .In b=false):PD X E (.Compare a [.In] [b] pos) (g2 (Ig false) ga gb):=iA Mg ha c λh1 h2=>nV Eu h1 h2 hm
def pj(f e:L->L->D' L)(a b c:Ds->Rs L):Ds->Rs PyData:=λδ=>(a δ).bind λx=>(b δ).bind λy=>(Rs.eu (f x y)).bind λz=>(truth z).bind λt=>if t=true then (c δ).bind λw=>Rs.eu (e y w) else .ok (.bool false)
theorem GN{g:XN}{r p:R2}{f i:L->L->D' L}(y:OpR X (compareOp op) r)(l:OpR X (compareOp g) p)(B:OpD X.K f r)(m:OpD X.K i p)(ha:PD X E a ga)(D:PD X E b gb)(hc:PD X E c gc)
  (hm:lastMarks [op,g] [b,c]=false:=by with_unfolding_all rfl):PD X E (.Compare a [op,g] [b,c] pos) (pj f i ga gb gc):=(Ha y l ha D hc hm).imp λσ H Q n=>by
 obtain⟨A,δ,R,o⟩:=n;unfold pj at o;refine eD.run R (λd1 e1 v H1 j F h1=>?_) (λC e H' s'=>by rw[e]at o;exact o H' s') (λe=>by rw[e]at o;exact o);dsimp[e1,Rs.ag]at o;refine eD.run F (λd2 e2 u H2 s2 R2 h2=>?_) (λC e H' s'=>by rw[e]at o;exact o H' (j.trans s')) (λe=>by rw[e]at o;exact o);dsimp[e2,Rs.ag]at o;cases e3:f d1 d2 with
 |none=>rw[e3]at o;exact o.elim
 |some z =>
  dsimp[e3,Rs.ai,Rs.ag]at o;refine B d1 d2 z v u H2 A _ e3 R2.ls (h1.same s2.del) h2 λw G h h3=>?_
  obtain⟨t,rfl,o⟩:=tY o;refine⟨t,h3.ofBool,?_⟩;cases t with
  |false=>exact o _ G (j.trans (s2.trans h)) is_bool
  |true =>
   have o:jo X.K E A H ((gc δ).bind λw=>Rs.eu (i d2 w)) Q:=o;refine eD.run (R2.same h) (λq I Bk B' s M N=>?_) (λC e H' s'=>by rw[e]at o;exact o H' (j.trans (s2.trans (h.trans s')))) (λe=>by rw[e]at o;exact o);dsimp[I,Rs.ag]at o;cases e5:i d2 q with
   |none=>rw[e5]at o;exact o.elim
   |some d=>rw[e5]at o;exact m d2 q d u Bk B' A Q e5 M.ls (h2.same (h.trans s).del) N λx D2 P D1=>o x D2 (j.trans (s2.trans (h.trans (s.trans P)))) D1
theorem Ik(ha:PD X E a ga)(e:PD X E b gb)(hc:PD X E c gc)(hm:lastMarks [.LtE,.LtE] [b,c]=false):PD X E (.Compare a [.LtE,.LtE] [b,c] pos) (pj dLe dLe ga gb gc):=GN C4 C4 (kx λ_ _ _ _=>is_bool) (kx λ_ _ _ _=>is_bool) ha e hc hm
end
def Itc(lo c:Z)(n:O):It:=⟨λi _=>i<n,λi H x H'=>H'=H/\x=.int (lo+i*c),λi _=>n<=i⟩
theorem yE(it:HL)(lo c:Z)(n:O):Turn P w K tg (Itc lo c n) [it] it (λi h=>Vs h it (lo+(i:O)*c) ((n:Z)-(i:O)) c) where
 mem:=by simp
 obj:=λi h st b a=>by
  have e:b=it:=by simpa using a
  subst e;exact⟨_,st,λv z=>by have u:Yc _=Yt v:=z;cases u⟩
 keep:=λi h h' st k=>k it #[2] _ st
 item:=by
  intro X j hw hK hc i z7 s σ H E I g st l;subst j hw hK;obtain⟨m,f1,f2,p,q,r⟩:=g it #[2];have W:=Yd (prog:=X.prog) (w:=X.w) (I.ok.hd hc) it lo c n;refine W.item i s _ _ l st λv h' tk hv f x=>?_
  obtain⟨t,rfl⟩:=hv;have y:Inv X z7 σ H {s with heap:=h',toks:=tk}:=I.turned (λb o a e=>x b o (by simpa using a) e) m f1 p q r;exact⟨_,rfl,B4 (s:={s with heap:=h',toks:=tk}) (n:="range_iterator") f rfl rfl #[1] ⟨.int (lo+i*c),H,y,⟨t,rfl⟩,⟨rfl,rfl⟩,f,λb a=>(g b a).1⟩⟩
 done:=by intro X j hw hK hc i z7 s σ H E I g st l;subst j hw hK;obtain⟨m,f1,f2,p,q,r⟩:=g it #[2];exact Vb (I.ok.hd hc) st (by have:n<=i:=l;omega) λh' A=>⟨rfl,I.turned (t':=s.toks) (λb o a e=>A b o a e) m f1 p q r⟩
 self:=λ_ _ _ _ _ st h=>Vc st h
section
variable {E:XK}{a b c:Sq}
def Bl(i j c:Z):Nat:=(SI i j c).toNat
theorem wF(a b c:Z):0<=SI a b c:=by
 unfold SI;split
 .split
  .rename_i h1 h2;have:0<=(b-a-1) / c:=RH ⋯ ⋯;omega
  .omega
 .split
  .rename_i h1 h2;by_cases hc:c=0
   .subst hc;simp
   .have:0<=(a-b-1) / (-c):=RH ⋯ ⋯;omega
  .omega
noncomputable def sv(i j c:Z):Bool:=decide (-(1000000)<=i/\i<=1000000/\-(1000000)<=j/\j<=1000000/\-(1000000)<=c/\c<=1000000/\c≠0)&&UC i j c
def Oz(ta:TA):TI:=λσ H R=>ta σ H λvs H1=>∃i j c:Z,vs=[.int i,.int j,.int c]/\sv i j c=true/\R (Itc i c (Bl i j c)) H1
theorem Es(v:Gl X "range")(hm:X.mg "range"=S)(ha:PA X [a,b,c] ta)(w:starEach [a,b,c] X.env=[(false,eval a X.env),(false,eval b X.env),(false,eval c X.env)]:=by rfl)(m:starEach [b,c] X.env=[(false,eval b X.env),(false,eval c X.env)]:=by rfl) :
  PI X tg (.Call (.Name "range" p) [a,b,c] [] pos) (Oz ta):=by
 intro z7 s σ H R I h;refine Xr (fR I v hm VX (Su (thn (ha pos z7 s σ H _ I h) λus g n=>?_) (by rw[w,m]) (by rw[m];rfl)));obtain⟨vs,H1,x,y,l⟩:=n;obtain⟨i,j,c,e,l,q⟩:=l;subst e;unfold sv at l;rw[P9]at l;have z:=Sw l.1;cases y with
 |cons r rr =>
  cases rr with
  |cons r' rr =>
   cases rr with
   |cons r'' rr =>
    cases rr;obtain⟨t,rfl⟩:=r;obtain⟨t',rfl⟩:=r';obtain⟨f,rfl⟩:=r'';refine PySem.call_range_3 z.2.2.2.2.2.2 ?_ (.inl (Vd ⋯));refine VW (X2 ..) l.2 ?_;have u:Inv X z7 σ H1 {g with heap:=g.heap.push {cls:=.type "range",data:=.fields #[.int i t,.int j t',.int c f]},toks:=g.toks}:=x.kept λb o e=>P5 _ e
    refine⟨(g.heap.push {cls:=.type "range",data:=.fields #[.int i t,.int j t',.int c f]}).objs.size,[(g.heap.push {cls:=.type "range",data:=.fields #[.int i t,.int j t',.int c f]}).objs.size],_,_,H1,rfl,
     u.kept (t':=g.toks) λb o e=>P5 _ e,yE _ i c (Bl i j c),?_,λb A=>?_,q⟩
    .have e1:i+((0:O):Z)*c=i:=by simp
     have e2:((Bl i j c:O):Z)-((0:O):Z)=SI i j c:=by have:=wF i j c;unfold Bl;omega
     show Vs _ _ (i+((0:O):Z)*c) (((Bl i j c:O):Z)-((0:O):Z)) c;rw[e1,e2];exact PY _ rfl
    .have e:b=(g.heap.push {cls:=.type "range",data:=.fields #[.int i t,.int j t',.int c f]}).objs.size:=by simpa using A
     subst e;exact u.fpOk (PN _) (u.hok.fresh (PN _))
def i9(lo c:Z)(n:O):J PyData:=(LN n).map λ(i:O)=>EE (lo+(i:Z)*c)
theorem jf(lo c:Z)(n:O):(i9 lo c n).length=n:=by simp[i9]
theorem xP{lo c:Z}{n:O}:BR K (Itc lo c n) (i9 lo c n) G:=λH1 B s _ hB=>by refine⟨λi hi=>by rw[jf]at hi;exact hi,by rw[jf];exact PN _,λi x H2 hi y=>?_⟩;obtain⟨rfl,rfl⟩:=y;rw[jf]at hi;exact⟨aA.refl _,_,by simp[i9,hi],bN⟩
def Fq:J L->Rs (J L)
 |[.int i,.int j,.int c]=>if sv i j c then .ok (i9 i c (Bl i j c)) else .no
 |_=>.no
def B7(g:Ds->Rs (J L)):Ds->Rs (J L):=λδ=>(g δ).bind Fq
theorem OZ{d e f:L}(h:Iss K H [d,e,f] vs):∃v u w,vs=[v,u,w]/\Is K H d v/\Is K H e u/\Is K H f w:=by obtain⟨v,r,rfl,h1,h2⟩:=h.cons_of;obtain⟨u,w,rfl,h3,a⟩:=Dm h2;exact⟨v,u,w,rfl,h1,h3,a⟩
theorem Ar(hm:X.mg "range"=S)(ha:PAD X E [a,b,c] gs)(i:Gl X "range")(j:starEach [a,b,c] X.env=[(false,eval a X.env),(false,eval b X.env),(false,eval c X.env)])(f:starEach [b,c] X.env=[(false,eval b X.env),(false,eval c X.env)]) :
  PID X E tg (.Call (.Name "range" p) [a,b,c] [] pos) (B7 gs):=(Es i hm ha.1 j f).imp λσ H R ⟨A,δ,Rp,o⟩=>rO Rp o λds vs H1 e s1 R1 h1 o=>by
 unfold Fq at o;split at o
 .split at o
  .rename_i z;obtain⟨v,u,w,rfl,h,h',g⟩:=OZ h1;rw[h.ofInt,h'.ofInt,g.ofInt];exact⟨_,_,_,rfl,z,o _ H1 (aA.refl _) xP⟩
  .exact o.elim
 .exact o.elim
def tLR(ta:TA):TE:=λσ H Q=>ta σ H λvs H1=>∃j:Z,vs=[.int j]/\0<=j/\j<=1000000/\∀p,H1 p=S->Q (.ref p) (upd H1 p (.lst ((LN j.toNat).map λ(i:O)=>V.int (i:Z))))
theorem L7{s2:K'}{Q:VK}{j:Z}{tk:O}{a:SN F'}{c':O}(c:Inv X z7 σ H1 s2)(g:∀b o,s2.heap.get? b=Y o->h'.get? b=Y o)
 (hl:h'.get? s2.heap.objs.size=Y {cls:=.type "list",dict:=S,data:=.seq a c',slots:=#[]}) (hi:ItemsOf (λi v=>∃t,v=.int ((0:Z)+(i:Z)*1) t) a j.toNat) (q1:0<=j) (q2:j<=1000000)
 (q:∀p,H1 p=S->Q (.ref p) (upd H1 p (.lst ((LN j.toNat).map λ(i:O)=>V.int (i:Z))))):EP X z7 σ Q (.ref s2.heap.objs.size) {s2 with heap:=h',toks:=tk}:=by
 have hv:Vals ((LN j.toNat).map λ(i:O)=>V.int (i:Z)) a.toList:=by
  have aux:∀(l:J F')(k:O),(∀(m:O) v,l[m]?=Y v->∃t,v=.int ((0:Z)+((k+m:O):Z)*1) t)->Vals ((Ul k l.length).map λ(i:O)=>V.int (i:Z)) l:=by
   intro l
   induction l with
   |nil=>intro k _;exact .nil
   |cons x r ih =>
    intro k f;rw[PZ,RV,P0];refine .cons ?_ (ih (k+1) λm v hm=>?_)
    .obtain⟨t,e⟩:=f 0 x rfl;exact⟨t,by rw[e];simp⟩
    .obtain⟨t,e⟩:=f (m+1) v (by simpa using hm);exact⟨t,by rw[e,show k+(m+1)=k+1+m by omega]⟩
  have h1:=aux a.toList 0 (λm v hm=>by obtain⟨t,e⟩:=hi.2 m v (by rw[<-RX];exact hm);exact⟨t,by rw[e];simp⟩)
  rw[QE,hi.1]at h1;rw[S5];exact h1
 exact⟨.ref s2.heap.objs.size,_,c.laid (t':=tk) g (PN _) (show dY X.prog X.w _ h' _ (.lst ((LN j.toNat).map λ(i:O)=>V.int (i:Z))) from⟨by rw[P6,RO,SA];omega,a.toList,c',hv,by simpa using hl⟩),rfl,q _ (c.hok.fresh (PN _))⟩
theorem wg{p2 c:Vp}(hc:X.calm=true)(v:Gl X "range")(hm:X.mg "range"=S)(g:Gl X "list")(i:X.mg "list"=S)(ha:PA X [a] ta)(w:starEach [a] X.env=[(false,eval a X.env)]:=by rfl)
  (f:starEach [.Call (.Name "range" p) [a] [] pos] X.env=[(false,eval (.Call (.Name "range" p) [a] [] pos) X.env)]:=by rfl) :
  PE X (.Call (.Name "list" p2) [.Call (.Name "range" p) [a] [] pos] [] c) (tLR ta):=by
 intro z7 s σ H Q I h;refine Xr (fR I g i xv (Su ?_ f rfl));rw[f];show wpAny _ _ (spliced ((false,eval (.Call (.Name "range" p) [a] [] pos) X.env)::backTo c [])) _ _ s;refine To (Xr (fR I v hm VX (Su (thn (ha pos z7 s σ H _ I h) λus s1 l=>?_) w rfl)));obtain⟨vs,H1,u,x,m⟩:=l;obtain⟨j,e,m,y,q⟩:=m;subst e;cases x with
 |cons r rr =>
  cases rr;obtain⟨t,rfl⟩:=r;refine call_range_1 (U3 ?_);have e2:SI 0 j 1=((j.toNat:O):Z):=by rw[rangeSize_one];split <;> omega
  refine call_list_range (n:=j.toNat) (u.ok.hd hc) (X2 ..) (small_one ⋯ ⋯ ⋯ ⋯) e2 ⋯ λh' tk acc' c' z hl hi=>?_
  exact L7 (u.kept λb o e=>P5 _ e) z hl hi m y q
def xp:J L->Rs (J L)
 |[.int j]=>if 0<=j/\j<=1000000 then .ok (bV 0 j.toNat) else .no
 |_=>.no
def gLR(g:Ds->Rs (J L)):Ds->Rs (J L):=λδ=>(g δ).bind xp
theorem DD{p2 b:Vp}(hc:X.calm=true)(hm:X.mg "range"=S)(c:X.mg "list"=S)(ha:PAD X E [a] gs)(r:Gl X "range")(f:Gl X "list")(s:starEach [a] X.env=[(false,eval a X.env)])
  (g:starEach [.Call (.Name "range" p) [a] [] pos] X.env=[(false,eval (.Call (.Name "range" p) [a] [] pos) X.env)]):PLD X E (.Call (.Name "list" p2) [.Call (.Name "range" p) [a] [] pos] [] b) (gLR gs) :=
 (wg hc r hm f c ha.1 s g).imp λσ H Q l=>by
  obtain⟨A,δ,R,o⟩:=l;unfold gLR at o;refine aD.run R (λds e vs H1 m R1 h1=>?_) (λC e H' s'=>by rw[e]at o;exact o H' s') (λe=>by rw[e]at o;exact o);dsimp[e,Rs.ag]at o;unfold xp at o;split at o
  .split at o
   .rename_i j z;obtain⟨v,rfl,h⟩:=k9 h1;rw[h.ofInt];refine⟨j,rfl,z.1,z.2,λq n=>o q _ _ (m.free n) (m.trans (bS n)) aM ?_⟩;have:bV 0 j.toNat=((LN j.toNat).map λ(i:O)=>(i:Z)).map L.int:=by unfold bV;rw[Q8];congr 1;funext i;simp
    rw[this,show ((LN j.toNat).map λ(i:O)=>V.int (i:Z))=((LN j.toNat).map λ(i:O)=>(i:Z)).map V.int by rw[Q8];rfl];exact ya _
   .exact o.elim
  .exact o.elim
end
theorem yw(t:HL)(xs:SN F'):XT (Rf.«enumerate.__new__» ⟨[.type "enumerate",.ref t],[]⟩) (λ_ R s=>s.heap.IsTuple t xs /\
   R (.ok (.ret (.ref (s.heap.push {cls:=.type "tuple_iterator",data:=.fields #[.ref t,.int 0 0]}).objs.size)))
    {s with heap:=(s.heap.push {cls:=.type "tuple_iterator",data:=.fields #[.ref t,.int 0 0]}).push {cls:=.type "enumerate",data:=.fields #[.none,.bool false,.ref s.heap.objs.size,rawInt 0,.none,.none]}}) :=
 .of_wp λprog w A R s h=>by
  obtain⟨a,g,d,tk,os⟩:=s;obtain⟨hl,h⟩:=h;have hsub:=sub_enumerate;have hL:Y1 (Vy ⟨a,g,d,tk,os⟩) t xs:=hl
  wp_walk
  refine wpAny_stack_any λst=>J' ?_
  split
  .rename_i c _ _ _ _ _;cases (c==U4 "enumerate")
   .wp_walk using Tn hL
    exact⟨_,rfl,h⟩
   .wp_walk using Tn hL
    exact⟨_,rfl,h⟩
  .wp_walk using Tn hL
   exact⟨_,rfl,h⟩
theorem Bo{A:Ss}{l:HL}(hL:s.heap.IsTuple l items)
  (h:∀h',IsEnum h' (s.heap.objs.size+1) s.heap.objs.size 0 .none->h'.IsTupleIter s.heap.objs.size l 0->(∀b o,s.heap.get? b=Y o->h'.get? b=Y o)->Q (.ref (s.heap.objs.size+1)) {s with heap:=h'}) :
  wpAny (model prog w) A (call (.type "enumerate") [.ref l]) Q E s:=by
 refine callType_new F.called_enumerate #[1] (F.typeCall_enumerate_1 _) (F.newCall_enumerate_1 _) (λobj=>F.args_object_init_2 obj _) F.entry_enumerate_new (yw l items) ⟨hL,?_⟩;have a:(s.heap.push {cls:=.type "tuple_iterator",data:=.fields #[.ref l,.int 0 0]}).objs.size=s.heap.objs.size+1:=SJ ..;show _/\_;rw[a];have c:IsEnum ((s.heap.push {cls:=.type "tuple_iterator",data:=.fields #[.ref l,.int 0 0]}).push
   {cls:=.type "enumerate",data:=.fields #[.none,.bool false,.ref s.heap.objs.size,rawInt 0,.none,.none]}) (s.heap.objs.size+1) s.heap.objs.size 0 .none:=by
  have:=PY (s.heap.push {cls:=.type "tuple_iterator",data:=.fields #[.ref l,.int 0 0]})
   (o:={cls:=.type "enumerate",data:=.fields #[.none,.bool false,.ref s.heap.objs.size,rawInt 0,.none,.none]}) rfl
  rw[a]at this;exact this
 refine⟨⟨_,c,rfl⟩,h _ c ⟨_,P5 _ (PY _ rfl),rfl,rfl⟩ λb o e=>P5 _ (P5 _ e)⟩
def Ite(P:Hp->J V->Prop)(n:O):It :=
 ⟨λi H=>i<n/\∃xs,P H xs/\xs.length=n,
  λi H v H'=>∃t x,v=.ref t/\H t=S/\H'=upd H t (.tup [.int i,x])/\∀xs,P H xs->xs[i]?=Y x,
  λi H=>i=n/\∃xs,P H xs/\xs.length=n⟩
theorem vh{e:HL}{n:O}{r:Hp->J V->Prop}{D1:O->Sy->Prop}{B:Sy->SN F'->Prop}(f:e≠it)(C:e≠a)
  (M:∀(A:Ss),A.handled=S->∀b:SN F',Ws P w A it [it,a] b.size (λi v=>b[i]?=Y v) (λi h=>D1 i h/\B h b))
  (hB:∀(X:Cx),X.prog=P->X.w=w->X.K=K->∀{z7:J (HL×Tt)}{s:K'}{σ:St}{H:Hp}{xs:J V},Inv X z7 σ H s->r H xs->∃b:J F',Vals xs b/\B s.heap b.toArray)
  (R:∀(X:Cx),X.prog=P->X.w=w->X.K=K->∀{z7:J (HL×Tt)}{s:K'}{σ:St}{H:Hp}{xs ys:J V},Inv X z7 σ H s->r H xs->r H ys->xs=ys)
  (N:∀i h,D1 i h->∃o,h.get? it=Y o/\∀v,o.data≠.cell v) (hK:∀i h h',D1 i h->(∀o,h.get? it=Y o->h'.get? it=Y o)->D1 i h') :
  Turn P w K (.Tuple elts x1 tp) (Ite r n) [e,it] e (λi h=>(∃old,IsEnum h e it i old)/\D1 i h) where
 mem:=by simp
 obj:=λi h st c hc=>by
  obtain⟨⟨old,h1⟩,h2⟩:=st;dsimp[P8,Q9,Tp]at hc;rcases hc with rfl|rfl
  .exact⟨_,h1,λv q=>by cases q⟩
  .exact N i h h2
 keep:=λi h h' st k=>by obtain⟨⟨old,h1⟩,h2⟩:=st;exact⟨⟨old,k e #[2] _ h1⟩,hK i h h' h2 λo q=>k it #[2] o q⟩
 item:=by
  intro X D hw g hc i z7 s σ H E I u st F;subst D hw g;obtain⟨hi,xs,y,T⟩:=F;obtain⟨⟨old,h1⟩,h2⟩:=st;obtain⟨b,z,G⟩:=hB X rfl rfl rfl I y;have la:=z.length;refine wpAny_pyNext_enum_itemD (M X.A.in1 (I.ok.hd hc) b.toArray) h1 ⟨h2,G⟩ (by simp;omega) f (by simp[f,C]) λx h' tk U A2 A4 hT hsz hk=>⟨_,rfl,?_⟩
  refine wpAny_letOwnedTupleGo_enum (s:={s with heap:=h',toks:=tk+1}) A2 λBk d1 d2=>?_
  have D2:e<s.heap.objs.size:=Q0 h1;have il:it<s.heap.objs.size:=by obtain⟨o,q,_⟩:=N i _ h2;exact Q0 q
  have B':∀c o,c≠e->h'.get? c=Y o->Bk.get? c=Y o:=λc o hc q=>(d2.2 c hc).trans q
  obtain⟨l,ex,rx⟩:∃l,xs[i]?=Y l/\RelV l x:=by
   have m:i<xs.length:=⋯
   obtain⟨u',e1,e2⟩:=z.get (My m);refine⟨xs[i],My m,?_⟩;have p:b[i]?=Y x:=by simpa using U
   rw[e1]at p;cases p;exact e2
  have fr:H s.heap.objs.size=none:=I.hok.fresh (PN _);refine⟨.ref s.heap.objs.size,upd H s.heap.objs.size (.tup [.int i,l]),?_,rfl,⟨_,l,rfl,fr,rfl,λys h=>by rw[R X rfl rfl rfl I h y];exact ex⟩,?_,λc j=>?_⟩
  .refine I.turnLay (t':=tk+1) (ch:=[e,it]) u (PN _) (λc o hn q=>?_) ⟨by show 2<=sizeLine;decide,[.int i tk,x],.cons ⟨tk,rfl⟩ (.cons rx .nil),⟨_,B' _ _ (QT D2) hT,rfl,rfl,_,rfl⟩⟩;dsimp[P8,Q9,Tp,XD]at hn;exact B' c o hn.1 (hk c o hn.1 hn.2 q)
  .exact⟨⟨x,by simpa using d1⟩,hK _ _ _ A4.1 λo q=>B' it o f.symm q⟩
  .have Q:=(u c j).1;dsimp[P8,Q9,Tp]at j;rcases j with rfl|rfl
   .rw[aE (Q4 D2)];exact Q
   .rw[aE (Q4 il)];exact Q
 done:=by
  intro X D hw g hc i z7 s σ H E I u st F;subst D hw g;obtain⟨hi,xs,y,T⟩:=F;obtain⟨⟨old,h1⟩,h2⟩:=st;obtain⟨b,z,G⟩:=hB X rfl rfl rfl I y;have la:=z.length;have e':b.toArray.size=i:=by simp;omega
  refine wpAny_pyNext_enum_endD (M X.A.in1 (I.ok.hd hc) b.toArray) h1 ⟨by rw[e'];exact h2,G⟩ λh' k=>⟨rfl,?_⟩
  refine I.turneds (t':=s.toks) (ch:=[e,it]) u λc o hn q=>?_
  dsimp[P8,Q9,Tp,XD]at hn;exact k c o hn.2 q
 self:=λ_ _ _ _ _ st h=>by obtain⟨⟨old,h1⟩,_⟩:=st;exact UW h1 h
theorem JB:bootBuiltins "enumerate"=Y (.type "enumerate"):=by decide +kernel
def Oo(K:N')(ta:TA):TI:=λσ H R=>ta σ H λvs H1=>∃a xs,vs=[.ref a]/\((SqT K H1 a xs/\R (Ite (λH ys=>SqT K H a ys) xs.length) H1)\/(SqL K H1 a xs/\R (Ite (λH ys=>SqL K H a ys) xs.length) H1))
theorem Iy{a:Sq}(G:Gl X "enumerate")(hm:X.mg "enumerate"=S)(ha:PA X [a] ta)(Bk:starEach [a] X.env=[(false,eval a X.env)]:=by rfl) :
  PI X (.Tuple elts x1 tp) (.Call (.Name "enumerate" p) [a] [] pos) (Oo X.K ta):=by
 intro z7 s σ H R I h;refine Xr (fR I G hm JB (Su (thn (ha pos z7 s σ H _ I h) λus f y=>?_) Bk rfl));obtain⟨vs,H1,l,B',M⟩:=y;obtain⟨j,xs,e,q⟩:=M;subst e;obtain⟨u1,e1,N⟩:=vals1 B';subst e1;cases N;have big:∀c∈[f.heap.objs.size+1,f.heap.objs.size],f.heap.objs.size<=c:=λc hc=>by
  dsimp[P8,Q9,Tp]at hc;rcases hc with rfl|rfl
  .exact Ru _
  .exact PN _
 have m:f.heap.objs.size+1≠f.heap.objs.size:=WS _;rcases q with⟨z,q⟩|⟨z,q⟩
 .obtain⟨b,n,pt,_⟩:=l.tuple z;have u:f.heap.IsTuple j b.toArray:=pt;have w:j<f.heap.objs.size:=by obtain⟨_,g,_⟩:=u;exact Q0 g
  refine Bo u λh' x hit C=>UW x ?_
  have D:Inv X z7 σ H1 {f with heap:=h'}:=l.kept (t':=f.toks) C;refine⟨_,_,_,_,H1,rfl,D,vh (a:=j) (D1:=λi h=>h.IsTupleIter f.heap.objs.size j i) (B:=λh b=>h.IsTuple j b) m (QT (Qy w)) (λA E b=>oX E f.heap.objs.size j (Q4 w) b)
   (λX' _ _ hK{_ _ _ _ _} I h=>?_) (λX' _ _ hK{_ _ _ _ _ _} I h1 h2=>?_) (λi h st=>?_) (λi h F st k=>?_),⟨⟨_,x⟩,hit⟩,λc hc=>l.fpOk (big c hc) (l.hok.fresh (big c hc)),q⟩
  .rw[<-hK]at h;obtain⟨b,n,p,_⟩:=I.tuple h;exact⟨b,n,p⟩
  .rw[<-hK]at h1 h2;exact I.tuple_inj h1 h2
  .obtain⟨o,g,_,d⟩:=st;exact⟨o,g,λv q=>by rw[d]at q;cases q⟩
  .obtain⟨o,g,r⟩:=st;exact⟨o,k o g,r⟩
 .obtain⟨b,n,pl,_⟩:=l.list z;have w:j<f.heap.objs.size:=by obtain⟨_,_,g,_⟩:=pl;exact Q0 g
  refine call_enumerate_list pl.isList λh' x hit hz C=>UW x ?_
  have D:Inv X z7 σ H1 {f with heap:=h'}:=l.kept (t':=f.toks) C;refine⟨_,_,_,_,H1,rfl,D,vh (a:=j) (D1:=λi h=>h.IsListIter f.heap.objs.size j i) (B:=λh b=>h.IsList j b) m (QT (Qy w)) (λA E b=>Yp E f.heap.objs.size j (Q4 w) b)
   (λX' _ _ hK{_ _ _ _ _} I h=>?_) (λX' _ _ hK{_ _ _ _ _ _} I h1 h2=>?_) (λi h st=>?_) (λi h F st k=>?_),⟨⟨_,x⟩,hit⟩,λc hc=>l.fpOk (big c hc) (l.hok.fresh (big c hc)),q⟩
  .rw[<-hK]at h;obtain⟨b,n,p,_⟩:=I.list h;exact⟨b,n,p.isList⟩
  .rw[<-hK]at h1 h2;exact I.list_inj h1 h2
  .obtain⟨o,g,_,d⟩:=st;exact⟨o,g,λv q=>by rw[d]at q;cases q⟩
  .obtain⟨o,g,r⟩:=st;exact⟨o,k o g,r⟩
def ix(ds:J L):J PyData:=ds.mapIdx λi d=>.tuple [.int i,d]
theorem jP(ds:J L):(ix ds).length=ds.length:=by simp[ix]
theorem vf{f:Hp->J V->Prop}(h:Iss K G ds xs)(a:∀H1,aA G H1->f H1 xs):BR K (Ite f xs.length) (ix ds) G:=λH1 B s j hB=>by have hl:=h.length;rw[jP];refine⟨λi hi=>⟨⋯,xs,a H1 s,rfl⟩,⟨hl.symm,xs,a H1 s,rfl⟩,λi x H2 hi y=>?_⟩;obtain⟨t,x0,rfl,c,rfl,l⟩:=y;obtain⟨d,e,hd⟩:=h.get (l xs (a H1 s));refine⟨bS c,.tuple [.int i,d],by unfold ix;rw[Rj,e];rfl,?_⟩;have m:t∉B:=j.new c;exact jJ (by rw[aV m];exact aM) (cZ bN (kK (hd.same (λb o q=>by have g:=s b o q;have n:b≠t:=aR g c;rw[aV (λz=>by rw[hB b z]at q;cases q),aE n];exact g))))
section
variable {E:XK}{a b c e k:Sq}{gk:Ds->Rs L}{es:J Sq}
def sL:J L->Rs (J L)
 |[.list ds]=>.ok (ix ds)
 |[.tuple ds]=>.ok (ix ds)
 |_=>.no
def gU(g:Ds->Rs (J L)):Ds->Rs (J L):=λδ=>(g δ).bind sL
theorem F7(hm:X.mg "enumerate"=S)(ha:PAD X E [a] gs)(f:Gl X "enumerate")(g:starEach [a] X.env=[(false,eval a X.env)]) :
  PID X E (.Tuple elts x1 tp) (.Call (.Name "enumerate" p) [a] [] pos) (gU gs):=(Iy f hm ha.1 g).imp λσ H R ⟨A,δ,Rp,o⟩=>rO Rp o λds vs H1 e s1 R1 h1 o=>by
 unfold sL at o;split at o
 .obtain⟨v,rfl,h⟩:=k9 h1;obtain⟨p,xs,rfl,b,c⟩:=h.ofLst;exact⟨p,xs,rfl,.inr ⟨SqL.of (aB _ _ b),o _ H1 (aA.refl _) (vf c λH2 s2=>SqL.of (s2 _ _ b))⟩⟩
 .obtain⟨v,rfl,h⟩:=k9 h1;obtain⟨p,xs,rfl,b,c⟩:=h.ofTup;exact⟨p,xs,rfl,.inl ⟨SqT.of (aB _ _ b),o _ H1 (aA.refl _) (vf c λH2 s2=>SqT.of (s2 _ _ b))⟩⟩
 .exact o.elim
def ko(y x:O)(gk:Ds->Rs L):Ds->Sr:=λδ=>match δ[y]?,δ[x]? with
 |some ↥ys,Y ↥xs=>ofR (gk δ) λk=>match k with
  |.int k=>if -(1000000)<=k/\k<=1000000/\ys.length<1000000 then (match ixN xs.length k with
   |some j=>match xs[j]? with
    |some d=>.nx ((δ.set x ↥(xs.eraseIdx j)).set y ↥(ys++[d]))
    |none=>.no
   |none=>.no) else .no
  |_=>.no
 |_,_=>.no
theorem Bz{y x:O}{a nx:M'}{v M B b h c:Vp}(hk:PD X E k gk)(G:x≠y)(i:y∈D2)(l:x∈D2)(P:X.N[y]?=Y a)(Q:X.N[x]?=Y nx)
  (D1:Vis X.env.scope a) (T:Vis X.env.scope nx)
  (U:(a==("__debug__":M'))=false) (I:(a==("__classdict__":M'))=false) (W:(nx==("__debug__":M'))=false) (Bk:(nx==("__classdict__":M'))=false)
  (K:starEach [k] X.env=(false,eval k X.env)::starEach [] X.env) (g:starEach [.Call (.Attribute (.Name nx b) "pop" h) [k] [] c] X.env=(false,eval (.Call (.Attribute (.Name nx b) "pop" h) [k] [] c) X.env)::starEach [] X.env)
  (m:attributeBase (.Name nx b) "pop" X.env (eval (.Name nx b) X.env)=eval (.Name nx b) X.env) (e:attributeBase (.Name a v) "append" X.env (eval (.Name a v) X.env)=eval (.Name a v) X.env)
  (B':((backTo c (starEach [k] X.env)).all (λx=>!x.1)&&(backToKw c (keywordEach [] X.env)).all (λx=>x.1.isSome)&&decide (([k]:J Sq).length+([]:J Tg).length+(if ([]:J Tg).isEmpty then 0 else 1)<30))=true)
  (n:((backTo B (starEach [.Call (.Attribute (.Name nx b) "pop" h) [k] [] c] X.env)).all (λx=>!x.1)&&(backToKw B (keywordEach [] X.env)).all (λx=>x.1.isSome)&&decide (([.Call (.Attribute (.Name nx b) "pop" h) [k] [] c]:J Sq).length+([]:J Tg).length+(if ([]:J Tg).isEmpty then 0 else 1)<30))=true)
  (q:(h.endLine==c.line)=true) (f:(M.endLine==B.line)=true)
  (hs:swapsWith (.Call (.Attribute (.Name a v) "append" M) [.Call (.Attribute (.Name nx b) "pop" h) [k] [] c] [] B) S pos.line X.env=pure false) :
  PSD X E D2 (.Expr (.Call (.Attribute (.Name a v) "append" M) [.Call (.Attribute (.Name nx b) "pop" h) [k] [] c] [] B) pos) (ko y x gk) :=
 (og (C7 Up UK W4 pJ (ku P D1 U I) (e9 (C7 Up Xa F.type_list_pop E2 (ku Q T W Bk) (e9 hk gZ K) m B' q K rfl) gZ g) e n f g rfl) hs).imp λD σ H A2=>by
  obtain⟨H0,A0,A,δ,R,o⟩:=A2;unfold ko at o;split at o
  .rename_i ys xs A4 qx;obtain⟨p,vy,dy,e1,hp,hl,e2,hx⟩:=R.ownL i A4;cases e2;obtain⟨r,vx,dx,f1,hr,hm,f2,hz⟩:=R.ownL l qx;cases f2;have npr:p≠r:=λz=>G (R.inj x y _ _ p l i qx A4 (by rw[z];exact f1) e1)
   refine⟨_,e1,tyL hl,_,f1,tyL hm,?_⟩;refine eD.run R.full (λkd ek u H1 s R1 hu=>?_) (λC et H' s'=>by rw[et]at o;exact o H' (R.same.trans s')) (λet=>by rw[et]at o;exact o);dsimp[ek,aw]at o;split at o
   .rename_i kk;split at o
    .rename_i hb;split at o
     .rename_i j hj;split at o
      .rename_i d hd;obtain⟨w,hw,hwd⟩:=hz.getD hd;have hj':=hj;obtain⟨g1,g2,g3,g4⟩:=xj hj;have RS:=R.step s;have RS2:=RS.put (ds:=xs.eraseIdx j) (ys:=vx.eraseIdx j) l qx f1 hr ((hz.same s.del).eraseIdx j);refine⟨r,vx,kk,j,w,rfl,by rw[hu.ofInt],s _ _ hm,⋯,⋯,by rw[hz.length];exact g1,hw,?_⟩;have dU:del (upd H1 r (.lst (vx.eraseIdx j))) (A++A0)=del H1 (A++A0):=mf (Qu _ hr);refine⟨p,vy,w,rfl,rfl,by rw[aE npr];exact s _ _ hl,by rw[hx.length,SA];omega,?_⟩;refine o A _ _ (RS2.put (ds:=ys++[d]) i (by rw[Qi G];exact A4) e1 hp ?_);rw[dU];exact (hx.same s.del).append (kK (hwd.same s.del))
      .exact o.elim
     .exact o.elim
    .exact o.elim
   .exact o.elim
  .exact o.elim
end
theorem yV:isSubtype (.type "tuple") (.type "set")=pure false:=by rw[Vx];kernel_rfl
theorem zJ:isSubtype (.type "tuple") (.type "frozenset")=pure false:=by rw[Vx];kernel_rfl
section
variable {A:Ss}
noncomputable def seen(ns:J Z)(n:O):J Int:=firstMet (λi=>ns.getD i 0) n
theorem Ey{a:SN F'}(G:A.handled=S)(H:s.heap.IsTuple f a)(hi:Ts a.toList ns)(l:a.size+1<scanBound)
  (I:∀(h':Sy)(tk:O),h'.SetOf (intKind prog w) s.heap.objs.size (λk=>(seen ns a.size).any (·==k)) (seen ns a.size).length->(∀b o,b<s.heap.objs.size->s.heap.get? b=Y o->h'.get? b=Y o)->Q (.ref s.heap.objs.size) {s with heap:=h',toks:=tk}) :
  wpAny (model prog w) A (call (.type "set") [.ref f]) Q E s:=by
 obtain⟨c,tl,mro⟩:=F.called_set.mro;have m1:=F.called_set.made;have m2:=F.called_set.sub;refine VZ (codeAny_of_tree ?_);show wpAny _ _ (callAny (.type "set") _) _ _ _;refine J' ⟨Code.quiet_builtin _ (by decide +kernel),Tw F.entry_type_call ?_⟩;rw[Ss.under_plain (weight_type_call_type "set" [.ref f] []) rfl];have m3:=F.called_set.notType;have m4:=F.called_set.canCreate;have m5:=F.typeCall_set_1 (.ref f)
 repeat (any_goals (first|assumption|wp_step))
 refine TY (PySem.code_set_new_1 (.ref f) (E:=E) (Q₁:=λy z=>∃led:R0,y=.ref s.heap.objs.size/\z={s with heap:=s.heap.push {cls:=.type "set",dict:=S,data:=.set #[] 0 (.fresh 0 0 led)}}) λled=>⟨led,rfl,rfl⟩) λr z n=>?_
 cases r with
 |error ev=>exact n
 |ok fl =>
  cases fl with
  |ret y =>
   obtain⟨led,rfl,rfl⟩:=n;have B:(s.heap.push {cls:=.type "set",dict:=S,data:=.set #[] 0 (.fresh 0 0 led)}).get? s.heap.objs.size=Y {cls:=.type "set",dict:=S,data:=.set #[] 0 (.fresh 0 0 led)}:=PY _ rfl;have Bk:K'.TypeIs {s with heap:=s.heap.push {cls:=.type "set",dict:=S,data:=.set #[] 0 (.fresh 0 0 led)}} (.ref s.heap.objs.size) "set":=⟨_,B,rfl⟩
   have m6:=F.called_set.init.lookup;have m7:=F.called_set.init.bind (.ref s.heap.objs.size)
   repeat (any_goals (first|assumption|wp_step))
   refine TY (codeAny_call_builtin (R:=wants (λC s2=>C=.none/\∃h' tk,s2={s with heap:=h',toks:=tk}/\h'.SetOf (intKind prog w) s.heap.objs.size (λk=>(seen ns a.size).any (·==k)) (seen ns a.size).length /\
     (∀b o,b<s.heap.objs.size->s.heap.get? b=Y o->h'.get? b=Y o)) E) F.called_set.init.plain F.entry_set_init (PySem.check_set_init_1 Bk ?_)) λK s2 g=>?_
   .obtain⟨⟨oc,od,oda,osl⟩,go,gc,p,D⟩:=H;simp only at gc D;subst gc;subst D;have go':(s.heap.push {cls:=.type "set",dict:=S,data:=.set #[] 0 (.fresh 0 0 led)}).get? f=Y {cls:=.type "tuple",dict:=od,data:=.seq a p,slots:=osl}:=P5 _ go;have n1:=yV;have n2:=zJ;have n3:(U4 "tuple"==U4 "dict")=false:=by decide
    have B':(s.heap.push {cls:=.type "set",dict:=S,data:=.set #[] 0 (.fresh 0 0 led)}).IsTuple f a:=⟨_,go',rfl,p,rfl⟩
    unfold Rf.«set.__init__» noKeywords Rf.Frozenset.updateFrom;generalize zz:pyIter=PI
    wp_walk
    subst zz;refine Tn B' (F1 (wpAny_runValue ?_));have j:f<s.heap.objs.size:=Q0 go;have h3:A.in1.in1.in1.handled=none:=by simp[G]
    have ne1:f≠(s.heap.push {cls:=.type "set",dict:=S,data:=.set #[] 0 (.fresh 0 0 led)}).objs.size:=by rw[SJ];exact Q4 (Qy j)
    have q:s.heap.objs.size∉[(s.heap.push {cls:=.type "set",dict:=S,data:=.set #[] 0 (.fresh 0 0 led)}).objs.size,f]:=by rw[SJ];dsimp[P8,PV,Q9,Tp,XD];exact⟨Q4 (R9 _),QT j⟩
    have M:∀(i:O)(v:F'),a[i]?=Y v->∃t,v=.int ((λi=>ns.getD i 0) i) t:=λi v hv=>Ts.int_at hi i v (by rw[RX];exact hv)
    refine codeAny_set_update_loopS ((Walks.tuple h3 _ f ne1 a).toS) s.heap.objs.size q (λi=>ns.getD i 0) M l (a.size-0) 0 _ ⋯ (QH _) ⟨⟨_,PY _ rfl,rfl,rfl⟩,⟨_,P5 _ go',rfl,p,rfl⟩⟩ ?_ ?_
    .have N:((s.heap.push {cls:=.type "set",dict:=S,data:=.set #[] 0 (.fresh 0 0 led)}).push {cls:=.type "tuple_iterator",data:=.fields #[.ref f,.int 0 0]}).get? s.heap.objs.size=Y {cls:=.type "set",dict:=S,data:=.set #[] 0 (.fresh 0 0 led)}:=P5 _ B;exact SetOf_congr ((setObjOf_fresh (knd:=intKind prog w) led).setOf N (by unfold scanBound;omega)) (λ_=>rfl) rfl
    .intro s' m h;obtain⟨h',g',d',u,x⟩:=s';have e1:g'=s.gens:=m.gens;have e2:d'=s.drawn:=m.drawn;have D2:x=s.os:=m.os;subst e1;subst e2;subst D2;show wpAny _ _ _ _ _ _;refine J' ?_;show wpAny _ _ (ret TV) _ _ _;refine J' ⟨rfl,h',u,rfl,h,λb o l e=>?_⟩;have P:b≠(s.heap.push {cls:=.type "set",dict:=S,data:=.set #[] 0 (.fresh 0 0 led)}).objs.size:=by rw[SJ];exact Q4 (Qy l)
     exact m.heap b o (by dsimp[P8,PV,Q9,Tp,XD];exact⟨Q4 l,P⟩) (P5 _ (P5 _ e))
   .cases K with
    |error ev=>exact g
    |ok fl2 =>
     cases fl2 with
     |ret C =>
      obtain⟨rfl,h',tk,rfl,h,D1⟩:=g
      repeat (any_goals (first|assumption|wp_step))
      exact I _ _ h D1
     |_=>exact g.elim
  |_=>exact n.elim
end
section
variable {E:XK}{a b c e:Sq}{gc:Ds->Rs L}{es:J Sq}
theorem LL:bootBuiltins "set"=Y (.type "set"):=by decide +kernel
def tLS(K:N')(ta:TA):TE:=λσ H Q=>ta σ H λvs H1=>∃(p:HL)(ns:J Z),vs=[.ref p]/\SqT K H1 p (ns.map V.int)/\ns.length<=1000/\Q (.int (seen ns ns.length).length) H1
theorem EB{p2 c:Vp}(hc:X.calm=true)(y:Gl X "set")(hm:X.mg "set"=S)(i:Gl X "len")(j:X.mg "len"=S)(ha:PA X [a] ta)(z:starEach [a] X.env=[(false,eval a X.env)]:=by rfl)
  (f:starEach [.Call (.Name "set" p) [a] [] pos] X.env=(false,eval (.Call (.Name "set" p) [a] [] pos) X.env)::starEach [] X.env:=by rfl) (l:(backTo c (starEach [] X.env)).any (·.1)=false:=by rfl) :
  PE X (.Call (.Name "len" p2) [.Call (.Name "set" p) [a] [] pos] [] c) (tLS X.K ta):=by
 intro z7 s σ H Q I h;refine T4 (fR I i j PySem.boot_len ?_);refine TL ?_ f l;rw[f];show wpAny _ _ (spliced ((false,eval (.Call (.Name "set" p) [a] [] pos) X.env)::backTo c [])) _ _ s;refine To (Xr (fR I y hm LL (Su (thn (ha pos z7 s σ H _ I h) λus v m=>?_) z rfl)));obtain⟨vs,H1,n,A,B⟩:=m;obtain⟨q,ns,e,C,hz,fin⟩:=B;subst e;obtain⟨u,rfl,D⟩:=vals1 A;cases D;obtain⟨g,w,pt,_⟩:=n.tuple C;have hl:=w.length;rw[P6]at hl;refine Ey (n.ok.hd hc) (show v.heap.IsTuple q g.toArray from pt) (intsAre_of w) (by rw[PX];unfold scanBound;omega) λh' tk x E=>U3 ?_
 have F:Inv X z7 σ H1 {v with heap:=h',toks:=tk}:=n.kept λb o e=>E b o (Q0 e) e
 have r:g.toArray.size=ns.length:=by rw[PX];exact hl.symm
 rw[r]at x;obtain⟨o,es',ep,t,G,ex,hd,_,_,Bk,B',hsz⟩:=x;refine PySem.call_len_set G ex hd B' (by unfold scanBound at Bk;omega) ⟨.int (seen ns ns.length).length,H1,F.tok _,⟨_,by rw[hsz]⟩,fin⟩
def nJ:J L->D' L
 |[.tuple x]=>(fI x).bind λns=>if ns.length<=1000 then Y (.int (seen ns ns.length).length) else S
 |_=>S
theorem Dr{p2 b:Vp}(hc:X.calm=true)(hm:X.mg "set"=S)(c:X.mg "len"=S)(ha:PAD X E [a] gs)(l:Gl X "set")(f:Gl X "len")(m:starEach [a] X.env=[(false,eval a X.env)])
  (g:starEach [.Call (.Name "set" p) [a] [] pos] X.env=(false,eval (.Call (.Name "set" p) [a] [] pos) X.env)::starEach [] X.env) (h:(backTo b (starEach [] X.env)).any (·.1)=false) :
  PD X E (.Call (.Name "len" p2) [.Call (.Name "set" p) [a] [] pos] [] b) (gF nJ gs):=(EB hc l hm f c ha.1 m g h).imp λσ H Q ⟨A,δ,R,o⟩=>vH R o λds vs H1 e s1 R1 h1 o=>by
 unfold nJ at o;split at o
 .rename_i x;cases q:fI x with
  |none=>rw[q]at o;exact o.elim
  |some ns =>
   rw[q]at o;obtain⟨v,rfl,n⟩:=k9 h1;obtain⟨p,xs,rfl,i,j⟩:=n.ofTup;rw[eI q]at j;rw[j.ofInts]at i;by_cases z:ns.length<=1000
   .dsimp[Rx,FC z]at o;exact⟨p,ns,rfl,SqT.of (aB _ _ i),z,o _ H1 (aA.refl _) bN⟩
   .dsimp[Rx,GC z]at o;exact o.elim
 .exact o.elim
end
open AutoSeq1 (wpAny_loadPart')
open SeqAt (EqAt)
theorem yg{prog:SQ}{w:T1}{A:Ss}{E:F'->K'->Prop}{s:K'}{a:SN F'}{x:F'}{e:F'->R0}{j:O}{Q:D' PySem.Fin×XI->K'->Prop}(f:j<a.size)(hit:e a[j]=true)(c:∀m(hm:m<a.size),m<j->e a[m]=false)
  (g:∀y,y∈a->EqAt A s y x (e y)) (h:Q (Y (.done (.ret (.int j s.toks))),()) {s with toks:=s.toks+1}):∀(k i m:O),i+k=j->j<i+m ->
  wpAny (model prog w) A (forIn (Ul i m) ((S:D' PySem.Fin),()) λ(i:O) _=>match a[i]? with
   |some y=>do
    let b <-eqBool y x
    if b=true then do
      let r <-retInt (i:Z)
      pure (ForInStep.done (Y r,()))
     else pure (Tf (S,()))
   |_=>pure (Tf (S,()))) Q E s
 |0,i,0,h1,h2=>by omega
 |0,i,m+1,h1,h2=>by
  have:i=j:=⋯
  subst this;rw[RV,RG];have q:a[i]?=Y a[i]:=by simp[f]
  dsimp[q];refine F1 (F1 (g _ (Wx f) prog w _ _ ?_));rw[hit,FC rfl];unfold retInt;exact F1 (F1 (wpAny_mkInt (J' (J' (J' h)))))
 |k+1,i,0,h1,h2=>by omega
 |k+1,i,m+1,h1,h2=>by
  have hi:i<a.size:=⋯
  rw[RV,RG];have q:a[i]?=Y a[i]:=by simp[hi]
  dsimp[q];refine F1 (F1 (g _ (Wx hi) prog w _ _ ?_));rw[c i hi ⋯,GC Q1];exact J' (yg f hit c g h k (i+1) m ⋯ ⋯)
theorem Em(c:HL)(a:SN F')(n:O)(dd:D' HL)(f:SN (D' F'))(x:F')(e:F'->R0)(j:O)(h:j<a.size)(hit:e a[j]=true)(b:∀m(hm:m<a.size),m<j->e a[m]=false) :
  XT (Rf.«tuple.index» ⟨[.ref c,x],[]⟩)
   (λA R s=>s.heap.get? c=Y {cls:=.type "tuple",dict:=dd,data:=.seq a n,slots:=f}/\(∀y,y∈a->EqAt A.in1 s y x (e y))/\R (.ok (.ret (.int j s.toks))) {s with toks:=s.toks+1}):=by
 intro prog w A R s i;obtain⟨hp,g,d,tk,os⟩:=s;obtain⟨hl,l,o⟩:=i;unfold Rf.«tuple.index»;dsimp[Std.Legacy.Range.forIn_eq_forIn_range',Std.Legacy.Range.size];generalize hF:(@forIn XQ (J O))=F
 wp_walk using Tc hl
 subst hF;refine yg h hit b l ?_ j 0 _ ⋯ (by simp;omega);exact J' o
section
variable {E:XK}{a o e:Sq}{go:Ds->Rs L}{es:J Sq}
def MZ:V->J V->Hp->VK->Prop:=λx vs H Q=>∃l xs y j,x=.ref l/\vs=[y]/\H l=Y (.tup xs)/\kX y=true/\xs.all kX=true/\(xs.findIdx? λz=>eqV z y)=Y j/\Q (.int j) H
def tIx(to:TE)(t:TA):TE:=λσ H Q=>to σ H λx H1=>(∃l xs,x=.ref l/\H1 l=Y (.tup xs))/\t σ H1 λvs H2=>MZ x vs H2 Q
theorem FH{to:TE}{t:TA}{apos:Vp}(U:PE X o to)(ha:PA X [e] t)(c:attributeBase o "index" X.env (eval o X.env)=eval o X.env:=by rfl)
  (r:((backTo cpos (starEach [e] X.env)).all (λx=>!x.1)&&(backToKw cpos (keywordEach [] X.env)).all (λx=>x.1.isSome)&&decide (([e]:J Sq).length+([]:J Tg).length+(if ([]:J Tg).isEmpty then 0 else 1)<30))=true:=by rfl)
  (f:(apos.endLine==cpos.line)=true:=by rfl) (W:starEach [e] X.env=(false,eval e X.env)::starEach [] X.env:=by rfl) (b:(backTo cpos (starEach [] X.env)).any (·.1)=false:=by rfl) :
  PE X (.Call (.Attribute o "index" apos) [e] [] cpos) (tIx to t):=by
 intro z7 s σ H Q I h;refine Vh c r f rfl (thn (U z7 s σ H _ I h) λv A2 g=>?_);obtain⟨x,H1,D2,A4,⟨l,xs,hx,hl⟩,q1⟩:=g;subst hx;cases A4;obtain⟨P,its,rv,R,ge,gc,gd,n,gq⟩:=D2.hok l _ hl;refine⟨"tuple", "tuple.index",F.plainAttrs_tuple,W5,F.type_tuple_index,⟨R,ge,gc⟩,λa ea=>by cases ea;exact⟨R,ge,gd⟩,?_⟩;have D1:=ha cpos z7 A2 σ H1 _ D2 q1;rw[W]at D1 ⊢;refine TZ (by show (false||(backTo cpos (starEach [] X.env)).any (·.1))=false;rw[b];rfl) (U7 ?_);refine thn D1 λus s2 g=>?_
 obtain⟨vs,H2,T,r2,q2⟩:=g;obtain⟨l',i,y,j,e1,e2,D,fy,fs,hj,q⟩:=q2;cases e1;subst e2;obtain⟨hz',its',p,E,w,A,B,n',C⟩:=T.hok l _ D;obtain⟨u,rfl,ru⟩:=vals1 r2;obtain⟨oc,od,oda,osl⟩:=E;simp only at A B C;subst A B C;have x9:=p.length;obtain⟨G,Bk,K⟩:=J.findIdx?_eq_some_iff_getElem.mp hj;have at':∀(m:O)(hm:m<i.length),eqU y (its'[m]'⋯)=eqV i[m] y:=λm hm=>by
  obtain⟨w',hw,B'⟩:=p.get (My hm);have:its'[m]'⋯=w':=by have h2:=My (show m<its'.length by omega);rw[h2]at hw;exact P' hw
  rw[this];exact AK B' (Q6.mp fs _ (Qk hm))
 refine U9 W5 ⟨_,w,rfl⟩ F.entry_tuple_index (F.args_tuple_index_2 _ _) (Em l its'.toArray n' S osl u (eqU y) j (by simp;omega) (by simpa[at' j G] using Bk) (λm hm M=>?_)) ⟨w,λz P=>oC ru fy p fs z (by simpa using P),⟨.int j,H2,T.tok _,⟨_,rfl⟩,q⟩⟩;have N:m<i.length:=by simp at hm;omega
 have:=K m M;simpa[at' m N] using this
def pW(xs:J L)(y:L):D' PyData:=if iI y&&xs.all iI then ((xs.map toV).findIdx? λz=>eqV z (toV y)).map λj=>.int j else S
def kY(go ga:Ds->Rs L):Ds->Rs PyData:=λδ=>(go δ).bind λd=>match d with
 |.tuple xs=>(ga δ).bind λy=>Rs.eu (pW xs y)
 |_=>.no
theorem FQ{apos:Vp}(r:PD X E o go)(ha:PD X E e ga)(c:attributeBase o "index" X.env (eval o X.env)=eval o X.env)
  (h:((backTo cpos (starEach [e] X.env)).all (λx=>!x.1)&&(backToKw cpos (keywordEach [] X.env)).all (λx=>x.1.isSome)&&decide (([e]:J Sq).length+([]:J Tg).length+(if ([]:J Tg).isEmpty then 0 else 1)<30))=true)
  (f:(apos.endLine==cpos.line)=true) (l:starEach [e] X.env=(false,eval e X.env)::starEach [] X.env) (b:(backTo cpos (starEach [] X.env)).any (·.1)=false) :
  PD X E (.Call (.Attribute o "index" apos) [e] [] cpos) (kY go ga):=(FH r (e9 ha gZ l) c h f l b).imp λσ H Q i=>by
 obtain⟨A,δ,R,a⟩:=i;unfold kY at a;refine eD.run R (λd1 e1 v H1 m s h1=>?_) (λC g H' s'=>by rw[g]at a;exact a H' s') (λg=>by rw[g]at a;exact a);dsimp[e1,Rs.ag]at a;cases d1 with
 |tuple xs =>
  obtain⟨p,vs,rfl,n,w⟩:=h1.ofTup;refine⟨⟨p,vs,rfl,aB _ _ n⟩,?_⟩;have a:jo X.K E A H ((ga δ).bind λy=>Rs.eu (pW xs y)) Q:=a;refine eD.run s (λd2 e2 u H2 s2 R2 h2=>?_) (λC g H' s'=>by rw[g]at a;exact a H' (m.trans s')) (λg=>by rw[g]at a;exact a);dsimp[e2,Rs.ag]at a;unfold pW at a;split at a
  .rename_i z;rw[P9]at z;obtain⟨f1,f2⟩:=h2.flat z.1;obtain⟨B,D⟩:=w.flat z.2;cases q:((xs.map toV).findIdx? λz=>eqV z (toV d2)) with
   |none=>rw[q]at a;exact a.elim
   |some j =>rw[q]at a;exact⟨p,vs,u,j,rfl,rfl,s2 _ _ (aB _ _ n),f2,D,by rw[f1,B];exact q,a _ H2 (m.trans s2) bN⟩
  .exact a.elim
 |_=>exact a.elim
end
end L2
namespace L2
open PySem PySem.Spec PyProof.Rows
def k6:J Z->D' Z
 |[]=>S
 |x::r=>Y (r.foldl (λa b=>if b>a then b else a) x)
theorem fold_max:∀(r:J Z)(x:Z),(r.foldl (λa b=>if b>a then b else a) x)∈x::r/\∀a∈x::r,a<=r.foldl (λa b=>if b>a then b else a) x
 |[],x=>⟨P7,λa ha=>by cases PV.mp ha;exact QB _⟩
 |y::r,x=>by
  obtain⟨h1,h2⟩:=fold_max r (if y>x then y else x);rw[Qw];have c:=h2 _ P7;refine⟨?_,λa ha=>?_⟩
  .rcases P8.mp h1 with z|z
   .rw[z];split <;> simp
   .exact P4 _ (P4 _ z)
  .have e:x<=(if y>x then y else x):=by split <;> omega
   have f:y<=(if y>x then y else x):=by split <;> omega
   rcases P8.mp ha with rfl|ha
   .exact RK e c
   .rcases P8.mp ha with rfl|ha
    .exact RK f c
    .exact h2 a (P4 _ ha)
theorem Cy{M m:Z}(h1:M∈ns)(h2:∀a∈ns,a<=M)(e:k6 ns=Y m):M=m:=by
 cases ns with
 |nil=>cases e
 |cons x r =>cases e;obtain⟨g1,g2⟩:=fold_max r x;have a1:=h2 _ g1;have a2:=g2 _ h1;omega
section
variable {E:XK}{a:Sq}{es:J Sq}
theorem Eh(hc:X.calm=true):kP X (.builtin "max") (λxs H Q=>∃(a:HL)(ns:J Z)(m:Z),xs=[.ref a]/\SqL X.K H a (ns.map V.int)/\k6 ns=Y m/\Q (.int m) H):=by
 intro z7 s σ H xs us Q I r h;obtain⟨a,ns,m,rfl,w,hm,q⟩:=h;obtain⟨u,rfl,x⟩:=vals1 r;cases x;obtain⟨f,y,p,_⟩:=I.list w;have hi:Ts f ns:=intsAre_of y;have g:0<ns.length:=by cases ns with|nil=>cases hm|cons _ _=>simp
 obtain⟨xs,n⟩:=hi.allInts.items;have c:ns=xs.toList.map (·.1):=by rw[<-hi.numsOf,<-VO,<-n]
 have hsz:0<xs.size:=by have h3:=g;rw[c,P6,QE]at h3;exact h3
 have l:s.heap.IsList a (intItems xs):=n▸p.isList;refine max_intList (I.ok.hd hc) l hsz λv h' tk hv z=>?_
 obtain⟨t,rfl⟩:=X6 hv;obtain⟨h1,h2⟩:=argBest_gt (numAt xs) (xs.size-1);have e:numAt xs (argBest (λi j=>decide (numAt xs i>numAt xs j)) (xs.size-1))=m:=by
  refine Cy ?_ (λb o=>?_) hm
  .rw[c,XE];exact getD_mem (by rw[P6,QE];omega)
  .rw[c]at o;obtain⟨j,A,rfl⟩:=mem_getD o;rw[P6,QE]at A;rw[<-XE];exact h2 j ⋯
 exact⟨.int m,H,I.kept z,⟨_,by rw[<-e]⟩,q⟩
def lK:J L->D' L
 |[.list x]=>(fI x).bind λns=>(k6 ns).map EE
 |_=>S
theorem Fs:FnD K lK (λxs H Q=>∃(a:HL)(ns:J Z)(m:Z),xs=[.ref a]/\SqL K H a (ns.map V.int)/\k6 ns=Y m/\Q (.int m) H):=λds d vs H A Q e hA h k=>by
 unfold lK at e;split at e
 .rename_i x;obtain⟨ns,q,e⟩:=D'.bind_eq_some_iff.mp e;obtain⟨m,f,rfl⟩:=QQ.mp e;obtain⟨v,rfl,g⟩:=k9 h;obtain⟨p,xs,rfl,b,c⟩:=g.ofLst;rw[eI q]at c;rw[c.ofInts]at b;exact⟨p,ns,m,rfl,SqL.of (aB _ _ b),f,k _ H (aA.refl _) bN⟩
 .cases e
theorem C5:bootBuiltins "max"=Y (.builtin "max"):=by decide +kernel
theorem KN:bootBuiltins "min"=Y (.builtin "min"):=by decide +kernel
theorem Jc(hc:X.calm=true)(hm:X.mg "max"=S)(ha:PAD X E (a::es) gs)(c:Gl X "max")(e:starEach (a::es) X.env=(false,eval a X.env)::starEach es X.env)(b:(backTo pos (starEach es X.env)).any (·.1)=false) :
 PD X E (.Call (.Name "max" p) (a::es) [] pos) (gF lK gs):=gA Fs ha λh=>gj (Eh hc) c hm C5 h #[1] #[1] e b
end
section
variable {E:XK}
end
section
variable {E:XK}{a b c:Sq}{gc:Ds->Rs L}
end
section
variable {E:XK}{a:Sq}{es:J Sq}
end
section
variable {E:XK}{a:Sq}
end
end L2
namespace PyProof.Rows
open PySem
section
variable {A:Ss}
end
end PyProof.Rows
namespace L2
open PySem PySem.Spec PyProof.Rows
section
variable {E:XK}{a:Sq}{es:J Sq}
end
end L2
namespace L2
open PySem PySem.Spec PySem.Calls PyProof.Rows PySem.W PySem.Builtin Builtin.ObjectAttr Builtin.Getset_descriptor
section
variable {A:Ss}{K:Frag}{x:HL}{ox:Tt}
structure Li(h:Sy)(x:HL)(D:HL):Prop where
 ex:∃o,h.get? x=Y o/\o.cls=.ref D
theorem Li.type{M:Model}(I:Li h x D):Looks M h (typeOf (.ref x)) (.ref D):=by obtain⟨o,h1,h2⟩:=I.ex;exact h2▸(Looks.ld h1).andThen .now
end
end L2
namespace L2
open PySem PySem.Spec PyProof.Rows
section
variable {E:XK}{ea:HL}{oe:Tt}
end
section
variable {E:XK}{ea:HL}{oe:Tt}
end
variable {G:J HL->Ds->Sr}{xs:J (J Key×HL×F')}{m:M'}
def A9(D2:J O)(i:O)(g:Ds->Rs L):Ds->Sr:=λδ=>match δ[i]? with
 |some ⇑a=>ofR (g (mask D2 δ)) λd=>match d with
  |.int b=>.nx (δ.set i ⇑(a+b))
  |_=>.no
 |_=>.no
section
variable {E:XK}{e a b:Sq}{es:J Sq}
theorem Io(h:PD X E e ga)(g:X.N.Nodup)(c:i∉D2)(hi:X.N[i]?=Y x)(j:Loc X.env.scope x)
  (l:X.fn x=true\/X.env.scope.names.lookup x=Y .local):PSD X E D2 (.AugAssign (.Name x pos') .Add e pos) (A9 D2 i ga):=(M8 g hi j h L6 l).imp λD σ H a=>by
 obtain⟨H0,A0,A,δ,R,o⟩:=a;unfold A9 at o;split at o
 .rename_i z f;obtain⟨v,ev,hv⟩:=R.pl i _ c f;have hl:i<δ.length:=(Qa.mp f).1;refine⟨v,ev,?_⟩;refine eD.run R.part (λd m u H1 n R1 p=>?_) (λC b H' s'=>?_) (λb=>?_)
  .rw[m,aw]at o;split at o
   .refine⟨_,_,hv.ofInt,p.ofInt,o A _ H1 ((R.step n).set c hl bN)⟩
   .exact o.elim
  .rw[b,kl]at o;exact o H' (R.same.trans s')
  .rw[b,kj]at o;exact o
 .exact o.elim
noncomputable def jC(f:M'):J (L×L)->D' L
 |[]=>S
 |(k,d)::r=>match k with
  |.str g=>if g=f then Y d else jC f r
  |_=>S
def bf(C:HL)(f:M'):L->D' L
 |.dict (k::r)=>match k with
  |(.str z,.int c)=>if z=""/\c=(C:Z) then jC f r else S
  |_=>S
 |_=>S
theorem Isk.jC{K:N'}{H:Hp}:∀{r:J (L×L)}{fs:J (M'×V)}{f:M'}{d:L},Isk K H r fs->L2.jC f r=Y d->∃v,fs.lookup f=Y v/\Is K H d v
 |[],_,f,d,_,l=>by simp[L2.jC]at l
 |(k,x)::r,fs,f,d,h,l=>by
  unfold Isk at h;obtain⟨g,v,fs',rfl,rfl,h1,h2⟩:=h;dsimp[L2.jC]at l;rw[Qj];by_cases z:g=f
  .subst z;rw[FC rfl]at l;cases l;exact⟨v,by simp,h1⟩
  .rw[GC z]at l;have:(f==g)=false:=by simpa using λq=>z q.symm
   rw[this];exact Isk.jC h2 l
theorem IA{f:M'}{d x:L}(p:f≠"@")(e:bf C f d=Y x)(h:Is K H d v):∃a dx fs u,v=.ref a/\H a=Y (.ins C dx fs)/\fs.lookup f=Y u/\Is K H x u:=by
 unfold bf at e;split at e
 .rename_i k r;split at e
  .rename_i z c;split at e
   .rename_i q;obtain⟨rfl,rfl⟩:=q;unfold Is at h;rcases h with (⟨a,ns,_,b,_⟩|⟨a,l,_,b,_⟩)|⟨a,o,dx,fs,ev,h1,hn,h2|h2⟩
    .injection b with b _;cases b
    .rcases b with⟨m,b,_⟩|⟨m,b,_⟩|⟨m,_,b,_⟩ <;> first|(cases b;done)|(cases m <;> cases b)
    .unfold Isk at h2;obtain⟨g,u,fs',e1,e2,h3,j⟩:=h2;cases e1;have i:=h3.ofInt;injection i with i
     obtain rfl:o=C:=TJ i;obtain⟨u,l,n⟩:=j.jC e;exact⟨a,dx,fs,u,ev,h1,l,n⟩
    .unfold Isk at h2;obtain⟨g,u,fs',e1,e2,h3,j⟩:=h2;cases e1;have i:=h3.ofInt;injection i with i
     obtain rfl:o=C:=TJ i;obtain⟨u,l,n⟩:=j.jC e;rw[Qj,show (f==("@":M'))=false by simpa using p]at l;exact⟨a,dx,fs,u,ev,h1,l,n⟩
   .cases e
  .cases e
 .cases e
theorem LC{f:M'}(cl:Cls X.K C)(n:gu X.K C f)(ha:PD X E a ga)(b:attributeBase a f X.env (eval a X.env)=eval a X.env)(c:f≠"@"):PD X E (.Attribute a f pos) (g1 (bf C f) ga) :=
 (Mq ha b).imp λσ H Q ⟨A,δ,R,o⟩=>g1.read (tt:=λQ x H1=>∃a C dx fs v,x=.ref a/\H1 a=Y (.ins C dx fs)/\Cls X.K C/\gu X.K C f/\fs.lookup f=Y v/\Q v H1) R o λd1 d x H' e _ _ h k=>by obtain⟨p,dx,fs,u,rfl,g,l,i⟩:=IA c e h;exact⟨p,C,dx,fs,u,rfl,aB _ _ g,cl,n,l,k _ H' (aA.refl _) i⟩
def LU(C:HL)(names:J M'):Sp:=λvs H Q _=>∃(x dx:HL)(args:J V),vs=.ref x::args/\args.length=names.length/\H x=Y (.ins C dx []) /\
 ∀H':Hp,(∀b,b≠x->H' b=H b)->H' x=Y (.ins C dx (names.zip args))->Q .non H'
structure sk(P:SQ)(w:T1)(K:N')(mg:M'->D' F')(base:Sy)(k:O)(x:M')(C:HL)(names:J M'):Prop where
 ex:∃f fd ps,Mk K C f/\iP P w K mg base (CXW P w) k f fd ps (LU C names)/\Binds K fd ps []/\mg x=Y (.ref C)
def vX(C:HL)(names:J M'):J L->Rs PyData:=λds=>if ds.length=names.length then .ok (AI C (names.zip ds)) else .no
theorem wm{K:N'}{H:Hp}:∀{names:J M'}{ds:J L}{vs:J V},Iss K H ds vs->Isk K H ((names.zip ds).map λp=>(.str p.1,p.2)) (names.zip vs)
 |[],_,_,_=>by simpa using qU
 |_::_,[],_,h=>by rw[h.nil_of];simpa using qU
 |n::ns,d::ds,_,h=>by obtain⟨v,r,rfl,h1,h2⟩:=h.cons_of;dsimp[RJ,P0];exact fq h1 (wm h2)
theorem Bw{f:M'}:∀{names:J M'}{vs:J V},f∉names->(names.zip vs).lookup f=S
 |[],_,_=>rfl
 |_::_,[],_=>rfl
 |n::ns,v::vs,h=>by rw[RJ,Qj,show (f==n)=false by simpa using λq=>h (by rw[q];exact P7)];exact Bw λq=>h (P4 _ q)
theorem K2{k:O}(D:sk X.prog X.w X.K X.mg X.base k x C names)(m:cH j X.A)(n:Passes (CXW X.prog X.w) X E)(ha:PAD X E (e::es) gs)(r:k+1<=j)(s:Gl X x)
  (a:(x==("__debug__":M'))=false) (u:starEach (e::es) X.env=(false,eval e X.env)::starEach es X.env) (c:(backTo pos (starEach es X.env)).any (·.1)=false) (hn:("@":M')∉names) :
  PD X E (.Call (.Name x p) (e::es) [] pos) (ao (vX C names) gs):=by
 obtain⟨f,fd,ps,M,F,v,hm⟩:=D.ex;refine (CI M F (m.mono r) s hm v .nil n ha.1 a u c).imp λσ H Q g=>?_
 obtain⟨A,δ,R,o⟩:=g;refine vH R o λds vs H1 e s1 y h1 o=>?_
 unfold vX at o;split at o
 .rename_i hl;intro x dx nx h ne;refine⟨x,dx,vs++[],rfl,by rw[QC,h1.length,hl],aM,λH' k1 k2=>⟨rfl,?_⟩⟩;rw[QC]at k2;have l:aA H1 H':=λb q i=>by have n1:b≠x:=aR i nx;rw[k1 b n1,aE n1,aE (aR i h)];exact i
  refine o (.ref x) H' l (Nv (dx:=dx) (fs:=names.zip vs) ?_ (Bw hn) (wm (h1.same l.del)));rw[aV (y.ls.new nx)];exact k2
 .exact o.elim
def yL:L->L->D' L
 |.list x,.int d=>(fI x).map λns=>.int ((k6 ns).getD d)
 |_,_=>S
end
section
variable {A:Ss}{R:XY->K'->Prop}{I:HL}{wr:J HL}{n:O}{T:O->F'->Prop}{St:O->Sy->Prop}{dv:F'}
theorem FE(a v:F'):argsOk "max" ⟨[a],[(SV "default",v)]⟩:=by unfold argsOk;kernel_rfl
theorem xh:(toString "max"++toString ".loop":U2)="max.loop":=by decide
theorem sT(W:Walks prog w A.in1 I fp wr n T St)(g:O->O->R0)(hc:CmpOf prog w A.in1 .Gt T g)(D1:HL)(m:D1∉fp):∀(k j:O)(s:K')(f:F')(c:O),n=j+1+k->St (j+1) s.heap->T (argBest g j) f ->
  s.heap.get? D1=Y {cls:=.type "list",dict:=S,data:=.seq #[f,f] c,slots:=#[]}->(∀v h' tk,T (argBest g (n-1)) v->(∀b o,b∉wr->b≠D1->s.heap.get? b=Y o->h'.get? b=Y o)->R (.ok (.ret v)) {s with heap:=h',toks:=tk}) ->
  codeAny (model prog w) A (.builtin "max.loop" ⟨[.ref I,.none,.ref D1],[(SV "default",dv)]⟩) R s
 |0,j,s,f,c,hn,hst,hb,hS,hR=>by
  have r:D1∉wr:=λh=>m (W.sub _ h)
  refine Tw V7 ?_;rw[Te Tj _];show wpAny _ A.in1 (seqItems? (.ref D1) >>= _) _ _ s;refine F1 (SS hS rfl ?_);show wpAny _ A.in1 (tryCatch (pyNext (.ref I)) _ >>= _) _ _ s;refine F1 (T3 (W.done s _ _ (by rw[show n=j+1 from hn];exact hst) λh1 B k1=>?_));have a:=k1 D1 _ r hS;show wpAny _ A.in1 (updateSeq D1 (λ_=>#[]) >>= _) _ _ _;refine F1 (U0 a rfl (F1 (Tz (J' ?_))));exact hR f _ B (by rw[show n-1=j by omega];exact hb) λb o i l z=>(QI _ _ (Uh l)).trans (k1 b o i z)
 |k+1,j,s,f,c,hn,hst,hb,hS,hR=>by
  have r:D1∉wr:=λh=>m (W.sub _ h)
  refine Tw V7 ?_;rw[Te Tj _];show wpAny _ A.in1 (seqItems? (.ref D1) >>= _) _ _ s;refine F1 (SS hS rfl ?_);show wpAny _ A.in1 (tryCatch (pyNext (.ref I)) _ >>= _) _ _ s;refine F1 (T3 (W.item (j+1) s _ _ ⋯ hst λv h1 B hv p k1=>?_));have a:=k1 D1 _ r hS;show wpAny _ A.in1 (tryCatch (holding [v,v] (richCompare .Gt v f >>= _)) _ >>= _) _ _ _;refine F1 (T3 (T7 (F1 (hc (j+1) (argBest g j) v f _ _ _ hv hb (F1 (T7 (SY (F1 (Tz (J' ?_))))))))));cases q:g (j+1) (argBest g j) with
  |true =>
   rw[FC rfl];refine F1 (U0 a rfl (F1 (Tz ?_)));rw[xh];refine J' ⟨TH Tj _,sT W g hc D1 m k (j+1) _ v _ ⋯ (W.frame _ _ _ p λb u o e=>?_) (by unfold argBest;rw[q];exact hv) (Rv _ a rfl) λx h2 y p2 k2=>?_⟩
   .exact (QI _ _ (λz:D1=b=>m (z▸u))).trans e
   .exact hR x h2 y p2 λb o i l z=>k2 b o i l ((QI _ _ (Uh l)).trans (k1 b o i z))
  |false =>rw[GC #[1]];refine F1 (Tz ?_);rw[xh];refine J' ⟨TH Tj _,sT W g hc D1 m k (j+1) _ f c ⋯ p (by unfold argBest;rw[q];exact hb) a λx h2 y p2 k2=>?_⟩;exact hR x h2 y p2 λb o i l z=>k2 b o i l (k1 b o i z)
variable {l:HL}{xs:SN (Z×Yj)}
theorem FA(u:A.handled=S)(hl:s.heap.IsList l (intItems xs))
  (x:xs.size=0->∀h' tk,(∀b o,s.heap.get? b=Y o->h'.get? b=Y o)->Q dv {s with heap:=h',toks:=tk})
  (h:0<xs.size->∀v h' tk,(intItems xs)[argBest (λi j=>decide (numAt xs i>numAt xs j)) (xs.size-1)]?=Y v->(∀b o,s.heap.get? b=Y o->h'.get? b=Y o)->Q v {s with heap:=h',toks:=tk}) :
  wpAny (model prog w) A (call (.builtin "max") [.ref l] [(SV "default",dv)]) Q E s:=by
 refine kmk_tree F.kind_max F.plain_max F.entry_max (FE _ _) ?_;show wpAny _ A.in1 (Th "max" ["key", "default"] 0 ⟨[],[(SV "default",dv)]⟩ >>= _) _ _ s;refine F1 (X5 (show Th "max" ["key", "default"] 0 ⟨[],[(SV "default",dv)]⟩=pure [S,Y dv] from rfl) (F1 (J' ?_)));refine F1 (iter_intList hl λs2 e st g m=>F1 (T9 ?_));subst e;have W:=Vi (prog:=prog) (w:=w) (A:=A.in1) u s.heap.objs.size l m (intItems xs);have hsz:(intItems xs).size=xs.size:=by simp[intItems]
 have a:(s.heap.push {cls:=.type "list_iterator",data:=.fields #[.ref l,.int 0 0]}).objs.size∉[s.heap.objs.size,l]:=λhm=>R7 _ (g _ hm)
 rw[xh];refine J' ⟨TH Tj _,Tw V7 ?_⟩;rw[Te Tj _];show wpAny _ A.in1 (seqItems? (.ref _) >>= _) _ _ _;refine F1 (SS (PY _ rfl) rfl ?_);show wpAny _ A.in1 (tryCatch (pyNext (.ref _)) _ >>= _) _ _ _;have c:=W.frame _ _ _ st λb _ o e=>P5 {cls:=.type "list",data:=.seq #[]} e
 have y:(s.heap.push {cls:=.type "list_iterator",data:=.fields #[.ref l,.int 0 0]}).objs.size∉[s.heap.objs.size]:=λz=>a (P8.mpr (.inl (PV.mp z)))
 have kp:∀b o,s.heap.get? b=Y o->b∉[s.heap.objs.size]/\((s.heap.push {cls:=.type "list_iterator",data:=.fields #[.ref l,.int 0 0]}).push {cls:=.type "list",data:=.seq #[]}).get? b=Y o/\b≠(s.heap.push {cls:=.type "list_iterator",data:=.fields #[.ref l,.int 0 0]}).objs.size:=λb o e=>by
  have n:b<s.heap.objs.size:=Q0 e;refine⟨λz=>?_,P5 _ (P5 _ e),?_⟩
  .rw[PV.mp z]at n;exact R7 _ n
  .rw[SJ];exact Q4 (Qy n)
 by_cases hz:xs.size=0
 .refine F1 (T3 (W.done _ _ _ (by rw[hsz,hz];exact c) λh1 r k1=>?_));show wpAny _ A.in1 (rule _ >>= _) _ _ _;refine F1 (UL (J' ?_));exact x hz h1 r λb o e=>k1 b o (kp b o e).1 (kp b o e).2.1
 .refine F1 (T3 (W.item 0 _ _ _ (by rw[hsz];omega) c λv h1 r hv p k1=>?_));have f:=k1 _ _ y (PY _ rfl);show wpAny _ A.in1 (updateSeq _ (λ_=>#[v,v]) >>= _) _ _ _;refine F1 (U0 f rfl ?_);rw[xh];refine J' ⟨TH Tj _,sT W _ (CmpOf.ints_gt (numAt xs) λ_ _=>X6) _ a (xs.size-1) 0 _ v _ (by rw[hsz];omega) (W.frame _ _ _ p λb q o e=>?_) hv (Rv _ f rfl) λB h2 C p2 k2=>?_⟩
  .exact (QI _ _ (λz:(s.heap.push {cls:=.type "list_iterator",data:=.fields #[.ref l,.int 0 0]}).objs.size=b=>a (by rw[z];exact q))).trans e
  .refine h ⋯ B h2 C (by rw[hsz]at p2;exact p2) λb o e=>k2 b o (kp b o e).1 (kp b o e).2.2 ?_
   exact (QI _ _ (Uh (kp b o e).2.2)).trans (k1 b o (kp b o e).1 (kp b o e).2.1)
end
section
variable {E:XK}{e a b:Sq}{es:J Sq}
theorem Dz(h:ns.length=0)(d:Z):(k6 ns).getD d=d:=by cases ns with|nil=>rfl|cons _ _=>simp at h
theorem eD.weak{g:Ds->Rs L}{Q a:VK}(h:eD K E g σ H Q)(k:∀v H',Q v H'->a v H'):eD K E g σ H a:=by
 obtain⟨A,δ,R,o⟩:=h;refine⟨A,δ,R,?_⟩;cases q:g δ with
 |ok d=>rw[q]at o;exact λv H' b h1=>k v H' (o v H' b h1)
 |rz C=>rw[q]at o;exact o
 |no=>rw[q]at o;exact o
theorem Jx(hc:X.calm=true)(hm:X.mg "max"=S)(ha:PD X E a ga)(g:PD X E b gb)(G:Gl X "max")(r:starEach [a] X.env=[(false,eval a X.env)]) :
  PD X E (.Call (.Name "max" p) [a] [⟨Y "default",b,kp⟩] pos) (g2 yL ga gb):=by
 have key:PE X (.Call (.Name "max" p) [a] [⟨Y "default",b,kp⟩] pos) (tOp (λx y H Q=>∃(p:HL)(ns:J Z)(d:Z),x=.ref p/\y=.int d/\SqL X.K H p (ns.map V.int)/\Q (.int ((k6 ns).getD d)) H) (eD X.K E ga) (eD X.K E gb)):=by
  intro z7 s σ H Q I h;refine T4 (fR I G hm C5 ?_ #[1] #[1]);refine callWith_kw ?_ (by rw[r];rfl) (by rw[r];rfl) rfl rfl;refine thn ((e9 ha gZ r) pos z7 s σ H (λvs H1=>∃x,vs=[x]/\eD X.K E gb σ H1 λy H2=>∃(p:HL)(ns:J Z)(d:Z),x=.ref p/\y=.int d/\SqL X.K H2 p (ns.map V.int)/\Q (.int ((k6 ns).getD d)) H2) I
   (eD.weak h λx H1 q=>⟨x,rfl,q⟩)) λus s1 ⟨vs,H1,I1,r1,x,q0,q1⟩=>?_
  subst q0;obtain⟨u,rfl,Bk⟩:=vals1 r1;refine thn ((Ca g GZ) pos z7 s1 σ H1 (λvs H2=>∃y,vs=[y]/\∃(p:HL)(ns:J Z)(d:Z),x=.ref p/\y=.int d/\SqL X.K H2 p (ns.map V.int)/\Q (.int ((k6 ns).getD d)) H2) I1
   (eD.weak q1 λy H2 q=>⟨y,rfl,q⟩)) λws s2 ⟨zs,H2,I2,r2,y,q2,p,ns,d,ex,ey,hS,q3⟩=>?_
  subst q2;obtain⟨v,rfl,B'⟩:=vals1 r2;subst ex ey;obtain rfl:u=Sz p:=Bk;obtain⟨td,rfl⟩:=(show ∃t,v=Us d t from B')
  obtain⟨w,M,pl,_⟩:=I2.list hS;have hi:Ts w ns:=intsAre_of M;obtain⟨xs,f⟩:=hi.allInts.items;have c:ns=xs.toList.map (·.1):=by rw[<-hi.numsOf,<-VO,<-f]
  have z:s2.heap.IsList p (intItems xs):=f▸pl.isList;have B:ns.length=xs.size:=by rw[c,P6,QE]
  refine FA (I2.ok.hd hc) z (λN h' tk C=>?_) λN v h' tk hv C=>?_
  .rw[Dz ⋯ d]at q3;exact⟨.int d,H2,I2.kept C,⟨_,rfl⟩,q3⟩
  .obtain⟨t,rfl⟩:=X6 hv;obtain⟨h1,h2⟩:=argBest_gt (numAt xs) (xs.size-1);obtain⟨m,D⟩:∃m,k6 ns=Y m:=by
    cases ns with
    |nil=>simp at B;omega
    |cons _ _=>exact⟨_,rfl⟩
   have e:numAt xs (argBest (λi j=>decide (numAt xs i>numAt xs j)) (xs.size-1))=m:=by
    refine Cy ?_ (λb g=>?_) D
    .rw[c,XE];exact getD_mem (by rw[P6,QE];omega)
    .rw[c]at g;obtain⟨j,D2,rfl⟩:=mem_getD g;rw[P6,QE]at D2;rw[<-XE];exact h2 j ⋯
   rw[D]at q3;exact⟨.int m,H2,I2.kept C,⟨_,by rw[<-e]⟩,q3⟩
 exact key.imp λσ H Q ⟨A,δ,R,o⟩=>g2.read (λd1 d2 d x y H' A' Q' n hA h1 h2 k=>by
  unfold yL at n;split at n
  .rename_i l dd;obtain⟨ns,q,rfl⟩:=QQ.mp n;obtain⟨p,xs,rfl,F,f⟩:=h1.ofLst;rw[eI q]at f;rw[f.ofInts]at F;exact⟨p,ns,dd,rfl,h2.ofInt,SqL.of (aB _ _ F),k _ H' (aA.refl _) bN⟩
  .cases n) R o
end
theorem Iu{b:SN (D' F')}{kV e:F'}
  (g:∀(kV doc pm:F')(an:D' HL)(cdv ct:F')(us:J F'),us.length=ps.length->bindArgs (V0 "__init__" qual (gw st) (cw st) (aH st) .none kV doc pm an cdv ct) ⟨us,[]⟩=pure (ps.zip us))
  (a:Ug K (.ref C) "__init__"=Y (Y (.ref f))) (i:Yk K (.ref f)=true)
  (l:K.lookup f=Y ⟨oc,od,.func (V0 "__init__" qual (gw st) (cw st) (aH st) .none kV e pm an cd ct),b⟩)
  (c:Wh K cd qual=true) (k:Uo K (.ref f)=true) (mk:XS K C=true) (h:Uo K (.ref C)=true):∃f fd,Mk K C f/\Fun K "__init__" qual st f fd/\Binds K fd ps [] :=
 have F:=Au (st:=st) l c k
 ⟨f,_,⟨mk,a,i,h⟩,F,F.binds g⟩
theorem oQ.more{q l:HL}{xs:J V}{Φ:Hp->Prop}{lt:O->O->R0}(K:oQ X σ [] q l xs Φ κ lt):oQ X σ z7 q l xs Φ κ lt :=
 ⟨K.lst,λi x a pins' H s u _=>K.turn i x a pins' H s u (λ_ h=>nomatch h),K.cmp⟩
def Kj(X:Cx)(ta tb:TE):TE:=λσ H Q=>ta σ H λx H1=>tb σ H1 λy H2=>∃(l q:HL)(xs:J V)(Φ:Hp->Prop)(κ:O->V->Hp->Prop)(lt:O->O->R0),x=.ref l/\y=.ref q/\0<xs.length/\Φ H2/\oQ X σ [] q l xs Φ κ lt /\
 ∀a v,Φ a->xs[bst lt (xs.length-1)]?=Y v->Q v a
section
variable {a b:Sq}{ta tb:TE}
theorem D7(hc:X.calm=true)(hm:X.mg "min"=S)(ha:PE X a ta)(j:PE X b tb)(m:Gl X "min":=by rfl)(f:starEach [a] X.env=[(false,eval a X.env)]:=by rfl)(wk:∀{σ H} {Q c:VK},ta σ H Q->(∀x H,Q x H->c x H)->ta σ H c)(g:∀{σ H} {Q c:VK},tb σ H Q->(∀x H,Q x H->c x H)->tb σ H c) :
  PE X (.Call (.Name "min" p) [a] [⟨Y "key",b,kp⟩] pos) (Kj X ta tb):=by
 intro z7 s σ H Q I h;refine T4 (fR I m hm KN ?_ #[1] #[1]);refine callWith_kw ?_ (by rw[f];rfl) (by rw[f];rfl) rfl rfl;refine thn ((e9 ha gZ f) pos z7 s σ H (λvs H1=>∃x,vs=[x]/\tb σ H1 λy H2=>∃(l q:HL)(xs:J V)(Φ:Hp->Prop)(κ:O->V->Hp->Prop)(lt:O->O->R0),x=.ref l/\y=.ref q/\0<xs.length/\Φ H2/\oQ X σ [] q l xs Φ κ lt /\
   ∀e v,Φ e->xs[bst lt (xs.length-1)]?=Y v->Q v e) I
  (wk h λx H1 q=>⟨x,rfl,q⟩)) λus s1 ⟨vs,H1,I1,r1,x,q0,q1⟩=>?_
 subst q0;obtain⟨u,rfl,i⟩:=vals1 r1;refine thn ((Ca j GZ) pos z7 s1 σ H1 (λvs H2=>∃y,vs=[y]/\∃(l q:HL)(xs:J V)(Φ:Hp->Prop)(κ:O->V->Hp->Prop)(lt:O->O->R0),x=.ref l/\y=.ref q/\0<xs.length/\Φ H2/\oQ X σ [] q l xs Φ κ lt /\
   ∀e v,Φ e->xs[bst lt (xs.length-1)]?=Y v->Q v e) I1
  (g q1 λy H2 q=>⟨y,rfl,q⟩)) λws s2 ⟨zs,H2,I2,r2,y,q2,l,q,xs,Φ,κ,lt,ex,ey,hn,hΦ,KK,hQ⟩=>?_
 subst q2;obtain⟨v,rfl,n⟩:=vals1 r2;subst ex ey;obtain rfl:u=Sz l:=i;obtain rfl:v=Sz q:=n;exact M5 KK.more (I2.ok.hd hc) I2 hΦ hn λH' s' x u o i Bk r=>⟨x,H',Bk,i,hQ H' x r o⟩
theorem D4{q l c':HL}{xs:J V}{Φ:Hp->Prop}{lt:O->O->R0}{k:O}{p:M'}{n:F'}{t:TE}
  (D1:nN N [p] scope) (T:cH (k+2) X.A) (f:∀x c,cl.lookup x=Y c->X.env.cells.lookup x=Y c) (has:∀x,scope.names.lookup x=Y .free->∃c,cl.lookup x=Y c) (U:N.length=1+cap.length)
  (B:∀(i m:O)(x:M'),N[1+i]?=Y x->cap[i]?=Y m->X.N[m]?=Y x/\scope.names.lookup x=Y .free/\(X.env.kindOf x=Y .cell\/X.env.kindOf x=Y .free)/\Vis X.env.scope x)
  (A2:∀u,bindArgs (Xz "<lambda>" qual params body scope cl pm (.ref c') n) ⟨[u],[]⟩=pure ([p].zip [u]))
  (D:∀H,Φ H->H l=Y (.lst xs)) (B':∀H,Φ H->H q=Y (.frz (XU "<lambda>" qual params body scope cl pm c' n) (.own q))/\∃o vs t,H c'=Y (.frz o (.own c'))/\o.data=.fields vs/\vs[1]?=Y (.str qual t))
  (g:∀(s:K')(H:Hp),PE (vM (CXW X.prog X.w) X.prog X.w X.K X.mg X.base N qual scope q (.ref c') cl X.A.in1 X.stack s H E0) body t)
  (turn:∀(i:O)(x:V)(H:Hp),xs[i]?=Y x->Φ H->t (Y x::cap.map λm=>(σ[m]?).join) H λv H'=>Φ H'/\κ i v H'/\∀j D2,κ j D2 H->κ j D2 H')
  (cmp:∀(i j:O)(x y:V)(pins':J (HL×Tt))(H:Hp)(s:K')(u v:F'),Inv X.in1 pins' σ H s->Φ H->κ i x H->κ j y H->RelV x u->RelV y v ->
   wpAny (model X.prog X.w) X.A.in1 (richCompare .Lt u v) (λr s'=>r=.bool (lt i j)/\Inv X.in1 pins' σ H s') (λ_ _=>False) s):oQ X σ [] q l xs Φ κ lt:=by
 refine⟨D,λi x A4 pins' H s u _ I F ru=>?_,cmp⟩;obtain⟨h,oc,vs,tt,h1,h2,h3⟩:=B' H F;have C:L8 s H cl scope N [p].length (cap.map λm=>(σ[m]?).join):=by
  refine⟨λa b c e1 e2=>I.ok.inj a b c (f a c e1) (f b c e2),has,λa c e=>I.cell a c (f a c e),λa c e=>I.freeC a c (f a c e),by rw[P6];exact U,λj y v e1 e2=>?_⟩;rw[Q5]at e2;cases hm:cap[j]? with
  |none=>rw[hm]at e2;cases e2
  |some m =>
   rw[hm]at e2;have G:(σ[m]?).join=Y v:=by simpa using e2
   obtain⟨hX,P,Bk,hv⟩:=B j m y e1 hm;have e4:σ[m]?=Y (Y v):=by
    cases z:σ[m]? with
    |none=>rw[z]at G;cases G
    |some w=>rw[z]at G;cases w with
     |none=>cases G
     |some w=>cases G;rfl
   obtain⟨mm,hn,hl⟩:=I.loc;obtain⟨u,rv,lk⟩:=hl m y v hX e4 hv;rcases lk with⟨z,_⟩|⟨_,c,M,e6⟩
   .have z:X.env.kindOf y=Y .local:=z;rcases Bk with Bk|Bk <;> (rw[z]at Bk;cases Bk)
   .obtain⟨c2,Q⟩:=has y P;have R:=f y c2 Q;have M:X.env.cells.lookup y=Y c:=M;rw[M]at R;cases R;exact⟨u,c,rv,P,Q,e6⟩
 refine VZ (TY (IX (CX:=CXW X.prog X.w) (E:=E0) D1 T.in1 I.env0 rfl (.cons ru .nil) C (I.hok q _ h).1 ⟨c',oc,vs,tt,rfl,(I.hok c' _ h1).1,h2,h3⟩ (A2 u) (g s H) (turn i x H A4 F)) λr s' h=>?_);cases r with
 |error e=>obtain⟨_,_,_,_,_,_,z,_⟩:=h;exact z.elim
 |ok fl =>
  cases fl with
  |ret u=>exact I.after h
  |next=>exact SR h
  |brk=>exact SR h
  |cont=>exact SR h
end
section
variable {E:XK}{a b:Sq}
end
section
variable {E:XK}
end
structure jW(P:SQ)(w:T1)(K:N')(mg:M'->D' F')(base:Sy)(k:O)(C:HL)(m:M')(n:O)(gf:J L->Rs L):Prop where
 ex:∃f fd ps,Cls K C/\Meth K C m f/\iP P w K mg base (CXW P w) k f fd ps (spD K n gf)/\Binds K fd ps []
def kO(m:M'):J (L×L)->R0
 |[]=>true
 |(k,_)::r=>match k with
  |.str g=>decide (g≠m)&&kO m r
  |_=>false
def isC(C:HL)(m:M'):L->R0
 |.dict (k::r)=>match k with
  |(.str z,.int c)=>decide (z="")&&decide (c=(C:Z))&&kO m r
  |_=>false
 |_=>false
theorem Isk.kO{K:N'}{H:Hp}{m:M'}:∀{r:J (L×L)}{fs:J (M'×V)},Isk K H r fs->L2.kO m r=true->fs.lookup m=S
 |[],_,h,_=>by unfold Isk at h;rw[h];rfl
 |(k,d)::r,fs,h,n=>by unfold Isk at h;obtain⟨f,v,fs',rfl,rfl,h1,h2⟩:=h;dsimp[L2.kO,P9,L3]at n;rw[Qj,show (m==f)=false by simpa using λq=>n.1 q.symm];exact Isk.kO h2 n.2
theorem Nt{d:L}(e:isC C m d=true)(h:Is K H d v):∃a dx fs,v=.ref a/\H a=Y (.ins C dx fs)/\fs.lookup m=none:=by
 unfold isC at e;split at e
 .rename_i k r;split at e
  .rename_i z c;dsimp[P9,L3]at e;obtain⟨⟨rfl,rfl⟩,n⟩:=e;unfold Is at h;rcases h with (⟨a,ns,_,b,_⟩|⟨a,l,_,b,_⟩)|⟨a,j,dx,fs,ev,h1,hn,h2|h2⟩
   .injection b with b _;cases b
   .rcases b with⟨m,b,_⟩|⟨m,b,_⟩|⟨m,_,b,_⟩ <;> first|(cases b;done)|(cases m <;> cases b)
   .unfold Isk at h2;obtain⟨g,u,fs',e1,e2,h3,i⟩:=h2;cases e1;have f:=h3.ofInt;injection f with f
    obtain rfl:j=C:=TJ f;exact⟨a,dx,fs,ev,h1,i.kO n⟩
   .unfold Isk at h2;obtain⟨g,u,fs',e1,e2,h3,i⟩:=h2;cases e1;have f:=h3.ofInt;injection f with f
    obtain rfl:j=C:=TJ f;have l:=i.kO n;rw[Qj]at l;cases q:(m==("@":M')) with
    |true=>rw[q]at l;cases l
    |false=>rw[q]at l;exact⟨a,dx,fs,ev,h1,l⟩
  .cases e
 .cases e
def bG(C:HL)(m:M')(gf:J L->Rs L)(ga:Ds->Rs L)(gs:Ds->Rs (J L)):Ds->Rs PyData:=λδ=>(ga δ).bind λd=>if isC C m d then (gs δ).bind λds=>gf (d::ds) else .no
section
variable {E:XK}{o e:Sq}{es:J Sq}{apos:Vp}
theorem bG.read{n:O}{Q:VK}(hn:∀δ ds,gs δ=.ok ds->ds.length+1=n)(R:eF X.K H A δ σ)(b:jo X.K E A H (bG C m gf ga gs δ) Q):CJ C m (spD X.K n gf) [] E (eD X.K E ga) (aD X.K E gs) σ H Q:=by
 unfold bG at b;refine eD.run R (λd f v H1 e g h1=>?_) (λC c H' s'=>?_) (λc=>?_)
 .dsimp[f,Rs.ag]at b;split at b
  .rename_i hc;obtain⟨a,dx,fs,rfl,h,l⟩:=Nt hc h1;refine⟨a,dx,fs,rfl,aB _ _ h,l,?_⟩;refine aD.run g (λds e2 vs H2 s2 R2 h2=>?_) (λC c H' s'=>?_) (λc=>?_)
   .dsimp[e2,Rs.ag]at b;refine⟨A,d::ds,R2.ls,?_,hn δ ds e2,b.mono (e.trans s2)⟩;rw[QC];exact cZ (h1.same s2.del) h2
   .rw[c]at b;exact b H' (e.trans s')
   .rw[c]at b;exact b
  .exact b.elim
 .rw[c]at b;exact b H' s'
 .rw[c]at b;exact b
theorem ID{k:O}{pl:XQ R0}(D:jW X.prog X.w X.K X.mg X.base k C m (es.length+2) gf)(c:cH j X.A)(g:Passes (CXW X.prog X.w) X E)(h:PD X E o ga)(ha:PAD X E (e::es) gs)(i:k<=j)
  (a:starEach (e::es) X.env=(false,eval e X.env)::starEach es X.env) (b:(backTo pos (starEach es X.env)).any (·.1)=false)
  (l:eval (.Call (.Attribute o m apos) (e::es) [] pos) X.env=(do
   let ov <-eval o X.env
   standAt apos.atName
   let (f,first) <-holding [ov] (getMethod ov m pl)
   callWith pos f first (backTo pos (starEach (e::es) X.env)) (backToKw pos (keywordEach [] X.env)))) :
  PD X E (.Call (.Attribute o m apos) (e::es) [] pos) (bG C m gf ga gs):=by
 obtain⟨f,fd,ps,cl,hm,F,n⟩:=D.ex;exact (Ku h cl hm F (c.mono i) n .nil g ha.1 a b l).imp λσ H Q ⟨A,δ,R,ou⟩=>bG.read (λδ ds e=>by rw[ha.2 δ ds e];rfl) R ou
theorem Gv{k:O}{pl:XQ R0}(D:jW X.prog X.w X.K X.mg X.base k C m 1 gf)(c:cH j X.A)(g:Passes (CXW X.prog X.w) X E)(i:PD X E o ga)(p:k<=j)
  (r:eval (.Call (.Attribute o m apos) [] [] pos) X.env=(do
   let ov <-eval o X.env
   standAt apos.atName
   let (f,first) <-holding [ov] (getMethod ov m pl)
   callWith pos f first (backTo pos (starEach [] X.env)) (backToKw pos (keywordEach [] X.env)))) :
  PD X E (.Call (.Attribute o m apos) [] [] pos) (bG C m gf ga ah):=by
 obtain⟨f,fd,ps,cl,hm,F,s⟩:=D.ex;refine (zM i cl hm F (c.mono p) s .nil g r).imp λσ H Q b=>?_
 obtain⟨A,δ,R,u⟩:=b;have h:=bG.read (gs:=ah) (X:=X) (n:=1) (λδ ds e=>by cases e;rfl) R u;unfold CJ at h ⊢;exact h.weak λv H1 ⟨a,dx,fs,e,hp,l,q⟩=>⟨a,dx,fs,e,hp,l,by obtain⟨A',δ',R',o'⟩:=q;exact o' [] H1 (aA.refl _) dw⟩
end
noncomputable def intsOf:J L->D' (J Z)
 |[]=>Y []
 |.int a::r=>(intsOf r).map (a::·)
 |_::_=>S
def mV:L->D' (R0×J Z)
 |.int a=>Y (false,[a])
 |.tuple ds=>(intsOf ds).map λl=>(true,l)
 |_=>S
def ltD(a b:L):Bool:=match mV a,mV b with
 |some (_,l),Y (_,m)=>HT.lexLt l m
 |_,_=>false
def keysOk(ks:J L):Bool:=ks.all (λk=>match mV k with|some (false,_)=>true|_=>false)||ks.all λk=>match mV k with|some (true,_)=>true|_=>false
def allR(g:L->Rs L):J L->Rs (J L)
 |[]=>.ok []
 |d::r=>(g d).bind λk=>(allR g r).bind λks=>.ok (k::ks)
theorem xX{g:L->Rs L}:∀{ds ks:J L},allR g ds=.ok ks->ks.length=ds.length/\∀(i:O)(d:L),ds[i]?=Y d->∃k,ks[i]?=Y k/\g d=.ok k
 |[],ks,h=>by cases h;exact⟨rfl,λi d e=>by simp at e⟩
 |d::r,ks,h=>by
  unfold allR at h;cases e1:g d with
  |rz _=>rw[e1]at h;cases h
  |no=>rw[e1]at h;cases h
  |ok k =>
   rw[e1]at h;cases e2:allR g r with
   |rz _=>rw[Rs.ag,e2]at h;cases h
   |no=>rw[Rs.ag,e2]at h;cases h
   |ok t =>
    rw[Rs.ag,e2]at h;cases h;obtain⟨hl,a⟩:=xX e2;refine⟨by simp[hl],λi d' e=>?_⟩;cases i with
    |zero=>simp at e;subst e;exact⟨k,rfl,e1⟩
    |succ i=>simpa using a i d' (by simpa using e)
def xr(cap:J O)(δ:Ds):Ds:=cap.map λm=>(δ[m]?).join
def okR:Rs (J L)->(J L->Rs L)->Rs L
 |.ok a,f=>f a
 |_,_=>.no
def kL(cap:J O)(ga gb:Ds->Rs L):Ds->Rs PyData:=λδ=>(ga δ).bind λd=>match d with
 |.list ds=>if 0<ds.length then okR (allR (λx=>gb (Y x::xr cap δ)) ds) λks=>if keysOk ks then .eu (ds[bst (λi j=>ltD (ks.getD i .none) (ks.getD j .none)) (ds.length-1)]?) else .no else .no
 |_=>.no
theorem BW{d:L}{l:J Z}(e:mV d=Y (false,l))(h:Is K H d v):∃n,l=[n]/\v=.int n:=by
 unfold mV at e;split at e
 .cases e;exact⟨_,rfl,h.ofInt⟩
 .rename_i ds;cases q:intsOf ds with
  |none=>rw[q]at e;cases e
  |some l=>rw[q]at e;cases e
 .cases e
theorem vK:∀{ds:J L}{l:J Z},intsOf ds=Y l->ds=l.map EE
 |[],l,e=>by cases e;rfl
 |d::r,l,e=>by
  cases d <;> first|(cases e;done)|skip
  rename_i a;unfold intsOf at e;cases q:intsOf r with
  |none=>rw[q]at e;cases e
  |some t=>rw[q]at e;cases e;rw[vK q];rfl
theorem Ag{d:L}{l:J Z}(e:mV d=Y (true,l))(h:Is K H d v):∃a,v=.ref a/\H a=Y (.tup (l.map V.int)):=by
 unfold mV at e;split at e
 .cases e
 .rename_i ds;cases q:intsOf ds with
  |none=>rw[q]at e;cases e
  |some l' =>rw[q]at e;cases e;obtain⟨a,xs,ev,c,b⟩:=h.ofTup;rw[vK q]at b;exact⟨a,ev,by rw[c,b.ofInts]⟩
 .cases e
section
theorem FW{ks:J L}(Q:X.A.in1.units<cLine)(g:keysOk ks=true){x:V}{v:F'}{a b:L}(I:Inv X.in1 z7 σ H s)
  (ea:ks[i]?=Y a) (R:ks[j]?=Y b) (G:Is X.K (del H A) a x) (B':Is X.K (del H A) b y) (M:RelV x u) (N:RelV y v) :
  wpAny (model X.prog X.w) X.A.in1 (richCompare .Lt u v) (λr s'=>r=.bool (ltD a b)/\Inv X.in1 z7 σ H s') (λ_ _=>False) s:=by
 have Bk:=I.wish λ_ _=>False
 have D2:a∈ks:=Qz ea;have P:b∈ks:=Qz R;unfold keysOk at g;rcases R0.or_eq_true_iff.mp g with g|g
 .have c:=Q6.mp g a D2;have f:=Q6.mp g b P;cases ka:mV a with
  |none=>rw[ka]at c;cases c
  |some p=>obtain⟨o,la⟩:=p;cases o with
   |true=>rw[ka]at c;cases c
   |false=>cases kb:mV b with
    |none=>rw[kb]at f;cases f
    |some p=>obtain⟨B,l⟩:=p;cases B with
     |true=>rw[kb]at f;cases f
     |false =>
      obtain⟨n,rfl,rfl⟩:=BW ka G;obtain⟨m,rfl,rfl⟩:=BW kb B';have e:ltD a b=decide (n<m):=by
       unfold ltD;rw[ka,kb];show HT.lexLt [n] [m]=_;rw[HT.rV,HT.mx];by_cases z:n=m
       .subst z;simp
       .simp[z]
      rw[e];refine thn (F2 (X:=X.in1.wish λ_ _=>False) z7 s σ H (.int n) (.int m) u v (λr H'=>r=.bl (decide (n<m))/\H'=H) Bk M N ⟨n,m,rfl,rfl,rfl,rfl⟩) λr s' h=>?_
      obtain⟨D1,H',C,D,E,F⟩:=h;subst E F;exact⟨D,C.unwish⟩
 .have c:=Q6.mp g a D2;have f:=Q6.mp g b P;cases ka:mV a with
  |none=>rw[ka]at c;cases c
  |some p=>obtain⟨o,la⟩:=p;cases o with
   |false=>rw[ka]at c;cases c
   |true=>cases kb:mV b with
    |none=>rw[kb]at f;cases f
    |some p=>obtain⟨B,l⟩:=p;cases B with
     |false=>rw[kb]at f;cases f
     |true =>
      obtain⟨p,rfl,T⟩:=Ag ka G;obtain⟨q,rfl,U⟩:=Ag kb B';have e:ltD a b=HT.lexLt la l:=by unfold ltD;rw[ka,kb]
      rw[e];refine thn (LJ (X:=X.in1.wish λ_ _=>False) Q z7 s σ H (.ref p) (.ref q) u v (λr H'=>r=.bl (HT.lexLt la l)/\H'=H) Bk M N ⟨p,q,la,l,rfl,rfl,SqT.of (aB _ _ T),SqT.of (aB _ _ U),rfl,rfl⟩) λr s' h=>?_
      obtain⟨D1,H',C,D,E,F⟩:=h;subst E F;exact⟨D,C.unwish⟩
theorem D5{E:XK}{a:Sq}{G p0:Vp}{g:J (M'×HL)}{P:HL}{k:O}{p:M'}
  (hc:X.calm=true) (hm:X.mg "min"=S) (hr:cH (k+2) X.A) (ha:PD X E a ga) (T:Ia X c P) (U:closureFor scope X.env=pure g) (D1:nN N [p] scope)
  (Bk:∀x c,g.lookup x=Y c->X.env.cells.lookup x=Y c) (has:∀x,scope.names.lookup x=Y .free->∃c,g.lookup x=Y c) (hN:N.length=1+cap.length)
  (B':∀(i m:O)(x:M'),N[1+i]?=Y x->cap[i]?=Y m->X.N[m]?=Y x/\scope.names.lookup x=Y .free/\(X.env.kindOf x=Y .cell\/X.env.kindOf x=Y .free)/\Vis X.env.scope x)
  (hb:∀(c':HL)(pm r u:F'),bindArgs (Xz "<lambda>" (X.env.qual++"<lambda>") params body scope g pm (.ref c') r) ⟨[u],[]⟩=pure ([p].zip [u]))
  (D:∀(q c':HL)(s:K')(H:Hp),PD (vM (CXW X.prog X.w) X.prog X.w X.K X.mg X.base N (X.env.qual++"<lambda>") scope q (.ref c') g X.A.in1 X.stack s H E0) E0 body gb)
  (hg:Gl X "min":=by rfl) (he:starEach [a] X.env=[(false,eval a X.env)]:=by rfl) (M:defaultsOf params X.env=([],[]):=by rfl) :
  PD X E (.Call (.Name "min" p0) [a] [⟨Y "key",.Lambda params body scope G,kp⟩] pos) (kL cap ga gb):=by
 refine (D7 hc hm ha (LR T U M) hg he (λh k=>eD.weak h k) (λh k f c' r H' n e s c=>k _ _ (h f c' r H' n e s c))).imp λσ H Q A2=>?_
 obtain⟨A,δ,R,b⟩:=A2;unfold kL at b;refine eD.run R (λd ed v H1 s1 R1 h1=>?_) (λC A4 H' s'=>?_) (λA4=>?_)
 .rw[ed,Rs.ag]at b;cases d with
  |list ds =>
   by_cases hpos:0<ds.length
   case neg=>dsimp[GC hpos]at b;exact b.elim
   dsimp[FC hpos]at b;cases ek:allR (λx=>gb (Y x::xr cap δ)) ds with
   |rz _=>rw[ek]at b;exact b.elim
   |no=>rw[ek]at b;exact b.elim
   |ok ks =>
    rw[ek]at b;cases hko:keysOk ks with
    |false=>dsimp[okR,hko]at b;exact b.elim
    |true =>
     dsimp[okR,hko,Sn]at b;intro f c' r H2 hn hf s2 F;obtain⟨l,xs,rfl,hl,hx⟩:=h1.ofLst;have x9:=hx.length;obtain⟨hkl,hkg⟩:=xX ek;refine⟨l,f,xs,λH=>aA H2 H,λi v H=>∃D2,ks[i]?=Y D2/\Is X.K (del H A) D2 v,λi j=>ltD (ks.getD i .none) (ks.getD j .none),rfl,rfl,⋯,aA.refl _,?_,λH3 v s3 ev=>?_⟩
     .refine D4 (t:=eD X.K E0 gb) (c':=c') (cap:=cap) D1 hr Bk has hN B' (hb c' _ r) (λH s=>s _ _ (s2 _ _ (aB _ _ hl))) (λH s=>⟨s _ _ hf,?_⟩) (λs H=>D f c' s H) (λi x H ex s=>?_) (λi j x y pins' H s u v I sΦ hx' hy' rx ry=>?_)
      .obtain⟨o,vs,t,e1,e2,B⟩:=F;exact⟨o,vs,t,s _ _ e1,e2,B⟩
      .obtain⟨d,e1,hd⟩:=hx.get ex;obtain⟨D2,e2,gk⟩:=hkg i d e1;have R':eF X.K H A δ σ:=R.same (s1.trans (s2.trans s));refine⟨A,Y d::xr cap δ,⟨R'.ls,by simp[xr],λn d' e=>?_⟩,?_⟩
       .cases n with
        |zero =>have e:Y (Y d)=Y (Y d'):=e;cases e;exact⟨x,rfl,hd.same (aA.del (s2.trans s))⟩
        |succ n =>
         have e:(xr cap δ)[n]?=Y (Y d'):=by simpa using e
         unfold xr at e;rw[Q5]at e;cases hm':cap[n]? with
         |none=>rw[hm']at e;cases e
         |some m =>
          rw[hm']at e;have B:(δ[m]?).join=Y d':=by simpa using e
          have e4:δ[m]?=Y (Y d'):=by
           cases z:δ[m]? with
           |none=>rw[z]at B;cases B
           |some w=>rw[z]at B;cases w with
            |none=>cases B
            |some w=>cases B;rfl
          obtain⟨v',e5,h5⟩:=R'.get m d' e4;exact⟨v',by simp[hm',e5],h5⟩
       .have gk':gb (Y d::xr cap δ)=.ok D2:=gk;rw[gk'];exact λv H' s' q=>⟨s.trans s',⟨D2,e2,q⟩,λj v' qz2=>(by obtain⟨kd',B,e4⟩:=qz2;exact⟨kd',B,e4.same s'.del⟩)⟩
      .obtain⟨ka,e1,h1'⟩:=hx';obtain⟨kb,e2,h2'⟩:=hy';have:=FW (X:=X) (by have:=hr.un;show X.A.units+1<_;omega) hko I e1 e2 h1' h2' rx ry;rw[Q2,Q2,e1,e2];exact this
     .rw[x9]at ev;obtain⟨d,e1,hd⟩:=hx.get ev;rw[e1]at b;exact b v H3 (s1.trans (s2.trans s3)) (hd.same (aA.del (s2.trans s3)))
  |_=>exact b.elim
 .rw[A4]at b;exact b H' s'
 .rw[A4]at b;exact b
end
section
mutual
theorem Is.off{C dx:HL}{fs:J (M'×V)}(ha:H a=Y (.ins C dx fs)):∀{d:L}{v:V},aO d=true->Is K H d v->Is K (del H [a]) d v
 |.none,_,_,h=>by unfold Is at h ⊢;exact h
 |.bool _,_,_,h=>by unfold Is at h ⊢;exact h
 |.int _,_,_,h=>by unfold Is at h ⊢;exact h
 |.str _,_,_,h=>by unfold Is at h ⊢;exact h
 |.dict _,_,n,_=>by unfold aO at n;cases n
 |.list ds,_,n,h=>by unfold aO at n;obtain⟨b,xs,e,h1,h2⟩:=h.ofLst;subst e;exact ll (by rw[aV (λz=>by rw[PV.mp z,ha]at h1;cases h1)];exact h1) (Iss.off ha n h2)
 |.tuple ds,_,n,h=>by unfold aO at n;obtain⟨b,xs,e,h1,h2⟩:=h.ofTup;subst e;exact jJ (by rw[aV (λz=>by rw[PV.mp z,ha]at h1;cases h1)];exact h1) (Iss.off ha n h2)
theorem Iss.off{C dx:HL}{fs:J (M'×V)}(ha:H a=Y (.ins C dx fs)):∀{ds:J L}{vs:J V},eG ds=true->Iss K H ds vs->Iss K (del H [a]) ds vs
 |[],_,_,h=>by rw[h.nil_of];exact dw
 |d::ds,_,n,h=>by unfold eG at n;obtain⟨n1,n2⟩:=QN.mp n;obtain⟨v,r,e,h1,h2⟩:=h.cons_of;subst e;exact cZ (Is.off ha n1 h1) (Iss.off ha n2 h2)
end
noncomputable def mI:J (L×L)->R0
 |[]=>true
 |(_,d)::r=>aO d&&mI r
theorem Isk.off{C dx:HL}{fs:J (M'×V)}(ha:H a=Y (.ins C dx fs)):∀{ds:J (L×L)}{gs:J (M'×V)},mI ds=true->Isk K H ds gs->Isk K (del H [a]) ds gs
 |[],_,_,h=>by unfold Isk at h ⊢;exact h
 |(k,d)::ds,_,n,h=>by unfold mI at n;obtain⟨n1,n2⟩:=QN.mp n;unfold Isk at h ⊢;obtain⟨f,v,r,e1,e2,h1,h2⟩:=h;exact⟨f,v,r,e1,e2,Is.off ha n1 h1,Isk.off ha n2 h2⟩
def lM:J (L×L)->D' Z
 |(.str x,.int _)::(.str y,.int b)::r=>if x=""/\y="@"/\mI r then Y b else S
 |_=>S
mutual
def objs:L->R0
 |.list ds=>lG ds
 |.tuple ds=>lG ds
 |.dict kvs=>(lM kvs).isSome
 |_=>true
def lG:J L->R0
 |[]=>true
 |d::ds=>objs d&&lG ds
end
mutual
def gO(a:HL)(nd:L):L->L
 |.list ds=>.list (kQ a nd ds)
 |.tuple ds=>.tuple (kQ a nd ds)
 |.dict kvs=>if lM kvs=Y (a:Z) then nd else .dict kvs
 |d=>d
def kQ(a:HL)(nd:L):J L->J L
 |[]=>[]
 |d::ds=>gO a nd d::kQ a nd ds
end
end
def mH(a:HL)(nd:L)(δ:Ds):Ds:=δ.map λd=>d.map (gO a nd)
theorem oT{d:L}(h:(mH a nd δ)[i]?=Y (Y d)):∃b,δ[i]?=Y (Y b)/\d=gO a nd b:=by
 unfold mH at h;rw[Q5]at h;cases e:δ[i]? with
 |none=>rw[e]at h;cases h
 |some x=>cases x with
  |none=>rw[e]at h;cases h
  |some b=>rw[e]at h;cases h;exact⟨b,rfl,rfl⟩
theorem Af(h:a∉B):del (upd H a o) B=upd (del H B) a o:=by
 funext b;by_cases z:b=a
 .subst z;rw[aV h,aM,aM]
 .rw[aE z];by_cases y:b∈B
  .rw[ja y,ja y]
  .rw[aV y,aV y,aE z]
section
theorem jO{fs:J (M'×V)}(e:aA (del H [a]) H')(ha:H a=Y (.ins C dx fs))(f:H b=Y o)(c:b≠a):H' b=Y o :=
 e _ _ (by rw[aV (λz=>c (PV.mp z))];exact f)
mutual
theorem Is.mutH{C dx:HL}{fs:J (M'×V)}{nd:L}(ha:H a=Y (.ins C dx fs))(j:aA (del H [a]) H')(hn:Is K H' nd (.ref a)):∀{d:L}{v:V},objs d=true->Is K H d v->Is K H' (gO a nd d) v
 |.none,_,_,h=>by unfold gO;unfold Is at h ⊢;exact h
 |.bool _,_,_,h=>by unfold gO;unfold Is at h ⊢;exact h
 |.int _,_,_,h=>by unfold gO;unfold Is at h ⊢;exact h
 |.str _,_,_,h=>by unfold gO;unfold Is at h ⊢;exact h
 |.list ds,_,n,h=>by unfold objs at n;obtain⟨b,xs,e,h1,h2⟩:=h.ofLst;subst e;unfold gO;exact ll (jO j ha h1 (λz=>by rw[z,ha]at h1;cases h1)) (Iss.mutH ha j hn n h2)
 |.tuple ds,_,n,h=>by unfold objs at n;obtain⟨b,xs,e,h1,h2⟩:=h.ofTup;subst e;unfold gO;exact jJ (jO j ha h1 (λz=>by rw[z,ha]at h1;cases h1)) (Iss.mutH ha j hn n h2)
 |.dict kvs,v,n,h=>by
  unfold objs at n;unfold gO;unfold lM at n ⊢;split at n
  case h_2=>cases n
  rename_i x G y b r;split at n
  case isFalse=>cases n
  rename_i I;obtain⟨rfl,rfl,D⟩:=I;have Bk:∃(g:HL)(o c:HL)(gs:J (M'×V)),v=.ref g/\b=(g:Z)/\G=(o:Z)/\H g=Y (.ins o c gs)/\gs.lookup ("@":M')=S/\Isk K H r gs:=by
   unfold Is at h;rcases h with (⟨s,ns,_,e,_⟩|⟨s,l,_,e,_⟩)|⟨s,o,c,gs,e,h1,i,h2|h2⟩
   .cases e
   .rcases e with⟨m,e,_⟩|⟨m,e,_⟩|⟨m,_,e,_⟩ <;> first|(cases e;done)|(cases m <;> cases e)
   .unfold Isk at h2;obtain⟨f,u,w,e1,e2,h3,p⟩:=h2;cases e1;unfold Isk at p;obtain⟨f,u,w,e1,e2,E,F⟩:=p;injection e2 with e2
    subst e2 e1;rw[Qj]at i;simp at i
   .unfold Isk at h2;obtain⟨f,u,w,e1,e2,h3,p⟩:=h2;cases e1;have A:=h3.ofInt;injection A with A
    unfold Isk at p;obtain⟨f,u,w,e1,e2,E,F⟩:=p;cases e1;have B:=E.ofInt;injection B with B
    exact⟨s,o,c,gs,e,B.symm,A.symm,h1,i,F⟩
  obtain⟨g,o,c,gs,rfl,rfl,rfl,h1,hl,h2⟩:=Bk;dsimp[D,Wy,Sn];by_cases z:g=a
  .subst z;rw[FC rfl];exact hn
  .have zz:¬ (Y (g:Z)=Y (a:Z)):=λq=>z (TJ (P' q))
   rw[GC zz];unfold Is;refine .inr ⟨g,o,c,gs,rfl,jO j ha h1 z,hl,.inr (fq bN (fq bN ?_))⟩;exact (Isk.off ha D h2).same j
theorem Iss.mutH{C dx:HL}{fs:J (M'×V)}{nd:L}(ha:H a=Y (.ins C dx fs))(b:aA (del H [a]) H')(hn:Is K H' nd (.ref a)):∀{ds:J L}{vs:J V},lG ds=true->Iss K H ds vs->Iss K H' (kQ a nd ds) vs
 |[],_,_,h=>by rw[h.nil_of];unfold kQ;exact dw
 |d::ds,_,n,h=>by unfold lG at n;obtain⟨n1,n2⟩:=QN.mp n;obtain⟨v,r,e,h1,h2⟩:=h.cons_of;subst e;unfold kQ;exact cZ (Is.mutH ha b hn n1 h1) (Iss.mutH ha b hn n2 h2)
end
theorem JV:aA (del H [a]) H'->aA (del (del H B) [a]) (del H' B):=λc b o e=>by obtain⟨e1,e2⟩:=bu e;obtain⟨f,g⟩:=bu e2;rw[aV f];exact c b o (by rw[aV e1];exact g)
theorem cj.mutH{fs:J (M'×V)}(R:cj K H0 A0 H A D2 δ σ)
  (ha:H a=Y (.ins C dx fs)) (s:H0 a=S) (n:∀(i:O) d,δ[i]?=Y (Y d)->objs d=true) (l:aA (del H [a]) H') (hn:Is K (del H' (A++A0)) nd (.ref a)):cj K H0 A0 H' A D2 (mH a nd δ) σ:=by
 have o:Ls H A0:=R.ls0.same R.same;have na:a∉A++A0:=λz=>by
  rcases Ql.mp z with z|z
  .obtain⟨xs,e,q⟩:=R.ls a z;rw[ha]at e;cases e;cases q
  .obtain⟨xs,e,q⟩:=o a z;rw[ha]at e;cases e;cases q
 have hd:del H (A++A0) a=Y (.ins C dx fs):=by rw[aV na];exact ha
 have g:aA (del (del H (A++A0)) [a]) (del H' (A++A0)):=JV l;refine⟨λb u e=>?_,R.ls0,R.new,λb p=>?_,?_,λi d hi e=>?_,λi d hi e=>?_,λi j d e b hi w e1 e2 x y=>?_⟩
 .exact jO l ha (R.same b u e) (λz=>by rw[z,s]at e;cases e)
 .obtain⟨xs,e,q⟩:=R.ls b p;exact⟨xs,jO l ha e (λz=>by rw[z,ha]at e;cases e;cases q),q⟩
 .unfold mH;rw[P6];exact R.len
 .obtain⟨c,f,rfl⟩:=oT e;obtain⟨v,e1,h1⟩:=R.pl i c hi f;exact⟨v,e1,Is.mutH hd g hn (n i c f) h1⟩
 .obtain⟨c,f,rfl⟩:=oT e;obtain⟨b,o',d1,e1,p,r,rfl,h1⟩:=R.own i c hi f;have h:=n i _ f;obtain⟨ds,xs,rfl,rfl⟩:∃ds xs,c=.list ds/\o'=.lst xs:=by
   unfold ju at h1;split at h1
   .exact⟨_,_,rfl,rfl⟩
   .exfalso;rcases h1 with⟨m,rfl,_⟩|⟨m,rfl,_⟩|⟨m,_,rfl,_⟩ <;> unfold objs lM at h <;> cases m <;> simp at h
   .exact h1.elim
  have h1:Iss K _ ds xs:=h1;have:=n i _ f;unfold objs at this;exact⟨b,.lst xs,.list (kQ a nd ds),e1,p,jO l ha r (λz=>by rw[z,ha]at r;cases r),by unfold gO;rfl,Iss.mutH hd g hn this h1⟩
 .obtain⟨c,B,_⟩:=oT e1;obtain⟨d1,D,_⟩:=oT e2;exact R.inj i j c d1 b hi w B D x y
end
def sDN(as:J HL)(K:N')(E:XK)(D2:J O)(G:Ds->Sr):TS:=λD σ H=>∃H0 A0 A δ,(∀a∈as,H0 a=S)/\cj K H0 A0 H A D2 δ σ/\pQ K E H0 A0 D2 (G δ) D
def PSN(as:J HL)(X:Cx)(E:XK)(D2:J O)(s:Ur)(G:Ds->Sr):Prop:=PS X s (sDN as X.K E D2 G)
def PBN(as:J HL)(X:Cx)(E:XK)(D2:J O)(ss:J Ur)(G:Ds->Sr):Prop:=PSs X ss (sDN as X.K E D2 G)
section
variable {E:XK}{ss:J Ur}{G G':Ds->Sr}{c:Sq}{ca:Ds->Rs R0}
theorem Np(h:PSD X E D2 st G):PSN as X E D2 st G:=h.imp λD σ H a=>(by obtain⟨H0,A0,A,δ,_,R,o⟩:=a;exact⟨H0,A0,A,δ,R,o⟩)
theorem LZ(h:PBD X E D2 ss G):PBN as X E D2 ss G:=h.imp λD σ H a=>(by obtain⟨H0,A0,A,δ,_,R,o⟩:=a;exact⟨H0,A0,A,δ,R,o⟩)
theorem JA:PBN as X E D2 [] ba:=LZ xE
theorem yt(h1:PSN as X E D2 st G)(h2:PBN as X E D2 ss G'):PBN as X E D2 (st::ss) (az G G'):=(cU h1 h2).imp λD σ H ⟨H0,A0,A,δ,hn,R,o⟩=>⟨H0,A0,A,δ,hn,R,by
 unfold az at o;cases q:G δ with
 |nx δ'=>rw[q]at o;exact λa σ' H' b=>⟨H0,A0,a,δ',hn,b,o⟩
 |rt d=>rw[q]at o;exact o
 |rz C=>rw[q]at o;exact o
 |bk d=>rw[q]at o;exact o
 |ct d=>rw[q]at o;exact o
 |no=>rw[q]at o;exact o⟩
theorem C1(h1:PSN as X E D2 st G):PBN as X E D2 [st] G:=(jt h1).imp λD σ H h=>h
theorem Mo{a:J Ur}(hc:PCD X E c ca)(h1:PBN as X E D2 ss G)(h2:PBN as X E D2 a G'):PSN as X E D2 (.If c ss a pos) (sIf ca G G'):=(B1 hc h1 h2).imp λD σ H e=>by
 obtain⟨H0,A0,A,δ,hn,R,o⟩:=e;unfold sIf at o;refine cD.run R.full (λt b H1 f R1=>?_) (λC b H' s'=>?_) (λb=>?_)
 .rw[b]at o;cases t with
  |true=>exact⟨H0,A0,A,δ,hn,R.step f,o⟩
  |false=>exact⟨H0,A0,A,δ,hn,R.step f,o⟩
 .rw[b]at o;exact o H' (R.same.trans s')
 .rw[b]at o;exact o
theorem Ez(fuel:O)(j:V2 (model X.prog X.w) X.A X.env X.xe)(hc:PCD X E c ca)(l:PBN as X E D2 ss G):PSN as X E D2 (.While c ss [] pos) (λδ=>b8 ca G fuel δ):=(yh j hc l).imp λD σ H e=>by
 obtain⟨H0,A0,A,δ,hn,R,o⟩:=e;refine⟨λm σ H=>∃A δ,cj X.K H0 A0 H A D2 δ σ/\pQ X.K E H0 A0 D2 (b8 ca G m δ) D,⟨fuel,A,δ,R,o⟩,?_⟩
 rintro m σ H ⟨A,δ,R,o⟩
 cases m with
 |zero=>exact o.elim
 |succ m =>
  unfold b8 at o;refine cD.run R.full (λt a H1 i R1=>?_) (λC a H' s'=>?_) (λa=>?_)
  .rw[a]at o;cases t with
   |false=>exact o A σ H1 (R.step i)
   |true =>
    refine⟨λb H'=>∃A δ,cj X.K H0 A0 H' A D2 δ b/\pQ X.K E H0 A0 D2 (b8 ca G m δ) D,λb H' q=>⟨m,R9 m,q⟩,H0,A0,A,δ,hn,R.step i,?_⟩;have o:pQ X.K E H0 A0 D2 (match G δ with
     |.nx δ2=>b8 ca G m δ2
     |.ct δ2=>b8 ca G m δ2
     |.bk δ2=>.nx δ2
     |.rt v=>.rt v
     |.rz C=>.rz C
     |.no=>.no) D:=o
    cases eb:G δ with
    |nx δ2=>rw[eb]at o;exact λf g n h=>⟨f,δ2,h,o⟩
    |ct δ2=>rw[eb]at o;exact λf g n h=>⟨f,δ2,h,o⟩
    |bk δ2=>rw[eb]at o;exact o
    |rt v=>rw[eb]at o;exact o
    |rz C=>rw[eb]at o;exact o
    |no=>rw[eb]at o;exact o.elim
  .rw[a]at o;exact o H' (R.same.trans s')
  .rw[a]at o;exact o
end
def ng:J (L×L)->D' (J (M'×L))
 |[]=>Y []
 |(.str f,d)::r=>(ng r).map λl=>(f,d)::l
 |_=>S
theorem vE:∀{r:J (L×L)}{fds:J (M'×L)},ng r=Y fds->r=fds.map λp=>(.str p.1,p.2)
 |[],fds,e=>by cases e;rfl
 |(k,d)::r,fds,e=>by
  cases k <;> first|(cases e;done)|skip
  rename_i f;unfold ng at e;cases q:ng r with
  |none=>rw[q]at e;cases e
  |some l=>rw[q]at e;cases e;rw[vE q];rfl
theorem tF:∀fds:J (M'×L),ng (fds.map λp=>(.str p.1,p.2))=Y fds
 |[]=>rfl
 |p::r=>by rw[P0];unfold ng;rw[tF r];rfl
def objOf:L->D' (HL×HL×J (M'×L))
 |.dict ((.str x,.int c)::(.str y,.int b)::r)=>if x=""/\y="@"/\0<=c/\0<=b then (ng r).map λl=>(c.toNat,b.toNat,l) else S
 |_=>S
theorem Ht{d:L}{fds:J (M'×L)}(e:objOf d=Y (C,a,fds)):d=cN C a fds:=by
 unfold objOf at e;split at e
 .rename_i x c y b r;split at e
  .rename_i h;obtain⟨rfl,rfl,f,h1⟩:=h;obtain⟨l,q,e⟩:=QQ.mp e;cases e;rw[vE q];unfold cN;rw[Rm f,Rm h1]
  .cases e
 .cases e
theorem u4(C a:HL)(fds:J (M'×L)):objOf (cN C a fds)=Y (C,a,fds):=by unfold cN objOf;dsimp[RL,Wy,Sn,tF,QL,Qp]
def qv(f:M'):J (M'×L)->D' L
 |[]=>S
 |(g,d)::r=>if g=f then Y d else qv f r
def sH(f:M')(v:L):J (M'×L)->J (M'×L)
 |[]=>[(f,v)]
 |(g,x)::r=>if g=f then (g,v)::r else (g,x)::sH f v r
theorem Isk.put{K:N'}{H:Hp}{f:M'}{d:L}{v:V}(hv:Is K H d v):∀{fds:J (M'×L)}{gs:J (M'×V)},Isk K H (fds.map λp=>(.str p.1,p.2)) gs->Isk K H ((sH f d fds).map λp=>(.str p.1,p.2)) (jG f v gs)
 |[],gs,h=>by rw[Qv]at h;unfold Isk at h;subst h;exact fq hv qU
 |(g,x)::r,gs,h=>by
  rw[P0]at h;unfold Isk at h;obtain⟨g',u,a,rfl,e,h1,h2⟩:=h;injection e with e
  subst e;show Isk K H ((if g=f then (g,d)::r else (g,x)::sH f d r).map _) (if g=f then (g,v)::a else (g,u)::jG f v a);by_cases z:g=f
  .rw[FC z,FC z];exact fq hv h2
  .rw[GC z,GC z];exact fq h1 (Isk.put hv h2)
theorem Isk.look{K:N'}{H:Hp}{f:M'}{d:L}:∀{fds:J (M'×L)}{gs:J (M'×V)},Isk K H (fds.map λp=>(.str p.1,p.2)) gs->qv f fds=Y d->∃v,gs.lookup f=Y v/\Is K H d v
 |[],gs,h,e=>by cases e
 |(g,x)::r,gs,h,e=>by
  rw[P0]at h;unfold Isk at h;obtain⟨g',u,gs',rfl,e2,h1,h2⟩:=h;injection e2 with e2
  subst e2;unfold qv at e;rw[Qj];by_cases z:g=f
  .rw[FC z]at e;cases e;subst z;dsimp[T6];exact⟨u,rfl,h1⟩
  .rw[GC z]at e;rw[show (f==g)=false by simpa using λq=>z q.symm];exact Isk.look h2 e
theorem Isk.len{K:N'}{H:Hp}:∀{fds:J (L×L)}{gs:J (M'×V)},Isk K H fds gs->gs.length=fds.length
 |[],_,h=>by unfold Isk at h;rw[h];rfl
 |(k,d)::r,_,h=>by unfold Isk at h;obtain⟨_,_,_,rfl,_,_,h2⟩:=h;rw[PZ,PZ,Isk.len h2]
theorem Is.atObj{fds:J (M'×L)}(h:Is K H (cN C a fds) v):v=.ref a/\∃dx gs,H a=Y (.ins C dx gs)/\gs.lookup ("@":M')=S/\Isk K H (fds.map λp=>(.str p.1,p.2)) gs:=by
 unfold cN at h;unfold Is at h;rcases h with (⟨g,ns,_,e,_⟩|⟨g,l,_,e,_⟩)|⟨g,s,i,gs,e,h1,b,h2|h2⟩
 .cases e
 .rcases e with⟨m,e,_⟩|⟨m,e,_⟩|⟨m,_,e,_⟩ <;> first|(cases e;done)|(cases m <;> cases e)
 .unfold Isk at h2;obtain⟨f,u,j,e1,e2,h3,c⟩:=h2;cases e1;unfold Isk at c;obtain⟨f,u,j,e1,e2,q,r⟩:=c;injection e2 with e2
  subst e2 e1;rw[Qj]at b;simp at b
 .unfold Isk at h2;obtain⟨f,u,j,e1,e2,h3,c⟩:=h2;cases e1;have n:=h3.ofInt;injection n with n
  obtain rfl:s=C:=TJ n;unfold Isk at c;obtain⟨f,u,j,e1,e2,q,r⟩:=c;cases e1;have o:=q.ofInt;injection o with o
  obtain rfl:g=a:=TJ o;exact⟨e,i,gs,h1,b,r⟩
def iL(fds:J (M'×L)):Bool:=mI (fds.map λp=>(.str p.1,p.2))
theorem yG(C a:HL)(fds:J (M'×L)):objs (cN C a fds)=iL fds:=by unfold cN objs lM iL;cases h:mI (fds.map λp=>(Vj p.1,p.2)) <;> simp[h]
def iS(δ:Ds):Bool:=δ.all λo=>match o with|some d=>objs d|none=>true
theorem lT(h:iS δ=true)(i:O)(d:L)(e:δ[i]?=Y (Y d)):objs d=true:=by have:=Q6.mp h _ (Qz e);exact this
theorem HQ{fds:J (M'×L)}{gs:J (M'×V)}{f:M'}{z:Z}(hB:a∉B)(ha:H a=Y (.ins C dx gs))(hl:gs.lookup ("@":M')=S)(c:f≠"@")(g:iL fds=true)(h:Isk K (del H B) (fds.map λp=>(.str p.1,p.2)) gs) :
  Is K (del (upd H a (.ins C dx (jG f (.int z) gs))) B) (cN C a (sH f (.int z) fds)) (.ref a):=by
 rw[Af hB];refine Hy (dx:=dx) (fs:=jG f (.int z) gs) (aM) (by rw[k7,GC (λq=>c q.symm)];exact hl) (Isk.put bN ?_);have hd:del H B a=Y (.ins C dx gs):=by rw[aV hB];exact ha
 refine (Isk.off hd g h).same λb o e=>?_
 obtain⟨e1,e2⟩:=bu e;rw[aE (λq=>e1 (by rw[q];exact PV.mpr rfl))];exact e2
theorem zG:aA (del H [a]) (upd H a o):=λb u e=>by obtain⟨e1,e2⟩:=bu e;rw[aE (λq=>e1 (by rw[q];exact PV.mpr rfl))];exact e2
def qj(as:J HL)(C:HL)(i:O)(δ:Ds):D' (HL×J (M'×L)):=match δ[i]? with
 |some (Y d)=>(match objOf d with
  |some (C',a,fds)=>if C'=C/\a∈as/\iS δ=true/\iL fds=true/\fds.length<1000 then Y (a,fds) else S
  |none=>S)
 |_=>S
theorem pD{fds:J (M'×L)}(h:qj as C i δ=Y (a,fds)):δ[i]?=Y (Y (cN C a fds))/\a∈as/\iS δ=true/\iL fds=true/\fds.length<1000:=by
 unfold qj at h;split at h
 .rename_i d e;split at h
  .rename_i C' a' fds' q;split at h
   .rename_i c;cases h;obtain⟨rfl,c1,b,f,g⟩:=c;rw[e,Ht q];exact⟨rfl,c1,b,f,g⟩
   .cases h
  .cases h
 .cases h
def nz(as:J HL)(C:HL)(i:O)(f:M')(g:Ds->Rs L):Ds->Sr:=λδ=>match qj as C i δ with
 |some (a,fds)=>ofR (g δ) λd=>match d with
  |.int z=>.nx (mH a (cN C a (sH f (.int z) fds)) δ)
  |_=>.no
 |none=>.no
def fO(as:J HL)(C:HL)(i:O)(f:M')(g:Ds->Rs L):Ds->Sr:=λδ=>match qj as C i δ with
 |some (a,fds)=>(match qv f fds with
  |some (.int n)=>ofR (g δ) λd=>match d with
   |.int z=>.nx (mH a (cN C a (sH f (.int (n+z)) fds)) δ)
   |_=>.no
  |_=>.no)
 |none=>.no
section
variable {E:XK}{o value:Sq}{g:Ds->Rs L}{tpos:Vp}{f:M'}
theorem Jg(Bk:PD X E o (ae i))(hv:PD X E value g)(cl:Cls X.K C)(na:gu X.K C f)(hi:i∉D2)(B':f≠"@")(M:swapsWith value (Y (.Attribute o f pos')) pos.line X.env=pure false):PSN as X E D2 (.Assign [.Attribute o f pos'] value pos) (nz as C i f g):=(iH Bk hv M).imp λD σ H s=>by
 obtain⟨H0,A0,A,δ,hn,R,b⟩:=s;unfold nz at b;split at b
 case h_2=>exact b.elim
 rename_i a fds q;obtain⟨e,ha,u,w,x⟩:=pD q;refine eD.run R.full (λd N v H1 I R1 hv=>?_) (λC c H' s'=>?_) (λc=>?_)
 .rw[N]at b;cases d with
  |int z =>
   have y:=hv.ofInt;subst y;have e2:ae i δ=.ok (cN C a fds):=by unfold ae;rw[e]
   refine eD.run (R.step I).full (λd2 j v2 H2 s2 R2 B=>?_) (λC c H' s'=>?_) (λc=>?_)
   .rw[e2]at j;cases j;obtain⟨rfl,dx,gs,hp,hl,hk⟩:=B.atObj;have l:=R.step (I.trans s2);obtain⟨v3,e3,h3⟩:=l.pl i _ hi e;obtain⟨rfl,m,n,p,F,r⟩:=h3.atObj;have h:H2 a=Y (.ins C m n):=(bu p).2;have G:a∉A++A0:=(bu p).1;refine⟨a,C,m,n,rfl,h,cl,na,by rw[r.len,P6];exact x,?_⟩;exact b A σ _ (l.mutH h (hn a ha) (lT u) zG (HQ G h F B' w r))
   .rw[e2]at c;cases c
   .rw[e2]at c;cases c
  |_=>exact b.elim
 .rw[c]at b;exact b H' (R.same.trans s')
 .rw[c]at b;exact b
theorem BQ(Q:PD X E o (ae i))(hv:PD X E value g)(cl:Cls X.K C)(na:gu X.K C f)(hi:i∉D2)(D1:f≠"@"):PSN as X E D2 (.AugAssign (.Attribute o f tpos) .Add value pos) (fO as C i f g):=(DL Q hv LD).imp λD σ H u=>by
 obtain⟨H0,A0,A,δ,hn,R,b⟩:=u;unfold fO at b;split at b
 case h_2=>exact b.elim
 rename_i a fds q;obtain⟨e,ha,x,y,B⟩:=pD q;split at b
 case h_2=>exact b.elim
 rename_i n F;have e2:ae i δ=.ok (cN C a fds):=by unfold ae;rw[e]
 refine eD.run R.full (λd2 j v2 H1 G R1 I=>?_) (λC c H' s'=>?_) (λc=>?_)
 .rw[e2]at j;cases j;obtain⟨rfl,dx,gs,T,hl,U⟩:=I.atObj;obtain⟨v,ev,Bk⟩:=U.look F;have B':=Bk.ofInt;subst B';refine⟨a,C,dx,gs,.int n,rfl,(bu T).2,cl,na,ev,?_⟩;refine eD.run (R.step G).full (λd W w H2 s2 R2 hw=>?_) (λC c H' s'=>?_) (λc=>?_)
  .rw[W]at b;cases d with
   |int z =>have M:=hw.ofInt;subst M;refine⟨n,z,rfl,rfl,?_⟩;have l:=R.step (G.trans s2);obtain⟨v3,e3,h3⟩:=l.pl i _ hi e;obtain⟨rfl,m,p,r,N,s⟩:=h3.atObj;have h:H2 a=Y (.ins C m p):=(bu r).2;have P:a∉A++A0:=(bu r).1;refine⟨m,p,h,by rw[s.len,P6];exact B,?_⟩;exact b A σ _ (l.mutH h (hn a ha) (lT x) zG (HQ P h N D1 y s))
   |_=>exact b.elim
  .rw[c]at b;exact b H' (R.same.trans (G.trans s'))
  .rw[c]at b;exact b
 .rw[e2]at c;cases c
 .rw[e2]at c;cases c
end
def spM(K:N')(C:HL)(g:J (M'×L)->D' (J (M'×L))):Sp:=λvs H Q E=>∃A a fds b,vs=[.ref a]/\Ls H A/\Is K (del H A) (cN C a fds) (.ref a)/\iL fds=true/\fds.length<1000/\g fds=Y b /\
 ∀H',aA (del H [a]) H'->Is K (del H' A) (cN C a b) (.ref a)->Q .non H'
structure lz(P:SQ)(w:T1)(K:N')(mg:M'->D' F')(base:Sy)(k:O)(C:HL)(m:M')(g:J (M'×L)->D' (J (M'×L))):Prop where
 ex:∃f fd ps,Cls K C/\Meth K C m f/\iP P w K mg base (CXW P w) k f fd ps (spM K C g)/\Binds K fd ps []
theorem sP{K:N'}{H:Hp}{f:M'}:∀{fds:J (M'×L)}{gs:J (M'×V)},Isk K H (fds.map λp=>(.str p.1,p.2)) gs->qv f fds=S->gs.lookup f=S
 |[],gs,h,_=>by rw[Qv]at h;unfold Isk at h;rw[h];rfl
 |(g,x)::r,gs,h,e=>by
  rw[P0]at h;unfold Isk at h;obtain⟨g',u,gs',rfl,e2,h1,h2⟩:=h;injection e2 with e2
  subst e2;unfold qv at e;rw[Qj];by_cases z:g=f
  .rw[FC z]at e;cases e
  .rw[GC z]at e;rw[show (f==g)=false by simpa using λq=>z q.symm];exact sP h2 e
def mZ(as:J HL)(C:HL)(m:M')(i:O)(g:J (M'×L)->D' (J (M'×L))):Ds->Sr:=λδ=>match qj as C i δ with
 |some (a,fds)=>if qv m fds=S then (match g fds with
  |some fds'=>.nx (mH a (cN C a fds') δ)
  |none=>.no) else .no
 |none=>.no
section
variable {E:XK}{o:Sq}{apos:Vp}
theorem Gw{k:O}{pl:XQ R0}(D:lz X.prog X.w X.K X.mg X.base k C m g)(G:cH j X.A)(I:Passes (CXW X.prog X.w) X E)(Bk:PD X E o (ae i))(p:k<=j)(hi:i∉D2)
  (B':eval (.Call (.Attribute o m apos) [] [] pos) X.env=(do
   let ov <-eval o X.env
   standAt apos.atName
   let (f,first) <-holding [ov] (getMethod ov m pl)
   callWith pos f first (backTo pos (starEach [] X.env)) (backToKw pos (keywordEach [] X.env))))
  (M:swapsWith (.Call (.Attribute o m apos) [] [] pos) S spos.line X.env=pure false) :
  PSN as X E D2 (.Expr (.Call (.Attribute o m apos) [] [] pos) spos) (mZ as C m i g):=by
 obtain⟨f,fd,ps,cl,hm,F,N⟩:=D.ex;refine (og (zM Bk cl hm F (G.mono p) N .nil I B') M).imp λD σ H r=>?_
 obtain⟨H0,A0,A,δ,hn,R,b⟩:=r;unfold mZ at b;split at b
 case h_2=>exact b.elim
 rename_i a fds q;obtain⟨e,ha,s,u,v⟩:=pD q;split at b
 case isFalse=>exact b.elim
 rename_i x;split at b
 case h_2=>exact b.elim
 rename_i h P;have e2:ae i δ=.ok (cN C a fds):=by unfold ae;rw[e]
 refine eD.run R.full (λd2 l v2 H1 Q R1 y=>?_) (λC n H' s'=>?_) (λn=>?_)
 .rw[e2]at l;cases l;obtain⟨rfl,dx,gs,D1,hl,p⟩:=y.atObj;have c:=R.step Q;obtain⟨v3,e3,h3⟩:=c.pl i _ hi e;obtain⟨rfl,dx',gs',z,hl',hk'⟩:=h3.atObj;refine⟨a,dx,gs,rfl,(bu D1).2,sP p x,?_⟩;refine⟨A++A0,a,fds,h,rfl,c.lsA,h3,u,v,P,λH' T B=>?_⟩;exact b A σ H' (c.mutH (bu z).2 (hn a ha) (lT s) T B)
 .rw[e2]at n;cases n
 .rw[e2]at n;cases n
end
theorem lz.of{p:M'}{k:O}(F:Fun K m qual st f fd)(D1:dH N [p] (aH st))(b:Binds K fd [p] [])(cl:Cls K C)(hm:Meth K C m f)
  (body:∀(as:J HL)(cdv:F')(A:Ss)(outer:J WH)(s:K')(H:Hp)(E:XK),cH k (A.deeper (envOfC qual (aH st) s.heap.objs.size f cdv))->PBN as (d8 (CXW P w) P w K mg base N qual (aH st) f cdv A outer s H E) E [] (cw st) (G as))
  (Bk:∀a fds c,iL fds=true->fds.length<1000->g fds=Y c->∃δ,G [a] (Y (cN C a fds)::I' (N.length-1) S)=.nx δ/\δ[0]?=Y (Y (cN C a c))):lz P w K mg base (k+1) C m g:=by
 refine⟨f,fd,[p],cl,hm,nX F D1 (λvs H Q E h=>?_) (λcdv A outer s H vs Q E B' h=>?_),b⟩
 .obtain⟨A,a,fds,c,rfl,_⟩:=h;rfl
 .obtain⟨A0,a,fds,c,rfl,D,hi,n,r,x,o⟩:=h;obtain⟨_,dx,gs,M,hl,hk⟩:=hi.atObj;have ha:=bu M;obtain⟨δ,e1,e2⟩:=Bk a fds c n r x;have l:cj K H A0 H [] [] (Y (cN C a fds)::I' (N.length-1) S) (L2.start N [.ref a]):=cj.start (ps:=[p]) (ds:=[cN C a fds]) D (cZ hi dw) rfl (λi h=>by cases h);have y:Ls (del H [a]) A0:=λb j=>by
   obtain⟨xs,e,q⟩:=D b j;exact⟨xs,by
    have B:b∉[a]:=λz=>ha.1 (by rw[<-PV.mp z];exact j)
    rw[aV B];exact e,q⟩
  refine⟨_,body [a] cdv A outer s H E B',del H [a],A0,[],_,λb j=>by rw[PV.mp j];exact ja (PV.mpr rfl),⟨aB,y,λb j=>(Q9 j).elim,l.ls,l.len,l.pl,l.own,l.inj⟩,?_⟩;rw[e1];intro A' σ' H' I;refine o H' I.same ?_;obtain⟨v,_,h2⟩:=I.pl 0 _ #[2] e2;have h3:=h2.same (H':=del H' A0) (λb u e=>by obtain⟨D2,R⟩:=bu e;rw[aV (λz=>D2 (PR _ z))];exact R)
  rw[h3.atObj.1]at h3;exact h3
def Pw(C:HL)(names:J M')(tl:J (M'×Z)):Sp:=λvs H Q _=>∃(x dx:HL)(args:J V),vs=.ref x::args/\args.length=names.length/\H x=Y (.ins C dx []) /\
 ∀H':Hp,(∀b,b≠x->H' b=H b)->H' x=Y (.ins C dx (names.zip args++tl.map λp=>(p.1,.int p.2)))->Q .non H'
structure MkD(P:SQ)(w:T1)(K:N')(mg:M'->D' F')(base:Sy)(k:O)(x:M')(C:HL)(names:J M')(tl:J (M'×Z)):Prop where
 ex:∃f fd ps,Mk K C f/\iP P w K mg base (CXW P w) k f fd ps (Pw C names tl)/\Binds K fd ps []/\mg x=Y (.ref C)
def tlD(tl:J (M'×Z)):J (M'×L):=tl.map λp=>(p.1,.int p.2)
theorem Ga{K:N'}{H:Hp}:∀tl:J (M'×Z),Isk K H ((tlD tl).map λp=>(.str p.1,p.2)) (tl.map λp=>(p.1,.int p.2))
 |[]=>qU
 |p::r=>fq bN (Ga r)
theorem BS{K:N'}{H:Hp}{e:J (L×L)}{gs:J (M'×V)}(h2:Isk K H e gs):∀{d:J (L×L)}{fs:J (M'×V)},Isk K H d fs->Isk K H (d++e) (fs++gs)
 |[],fs,h=>by unfold Isk at h;subst h;exact h2
 |(k,x)::r,fs,h=>by unfold Isk at h;obtain⟨f,v,fs',rfl,rfl,h1,h3⟩:=h;exact fq h1 (BS h2 h3)
theorem ue{f:M'}{b:J (M'×V)}(c:b.lookup f=S):∀{a:J (M'×V)},a.lookup f=S->(a++b).lookup f=S
 |[],_=>c
 |(g,x)::r,h=>by
  rw[Qx,Qj];rw[Qj]at h;cases q:(f==g) with
  |true=>rw[q]at h;cases h
  |false=>rw[q]at h;exact ue c h
theorem K3{f:M'}:∀{tl:J (M'×Z)},(f∉tl.map (·.1))->(tl.map λp=>((p.1,V.int p.2):M'×V)).lookup f=S
 |[],_=>rfl
 |p::r,h=>by rw[P0,Qj,show (f==p.1)=false by simpa using λq=>h (by rw[q];exact P7)];exact K3 λq=>h (P4 _ q)
def eMk(K:N')(E:XK)(C:HL)(names:J M')(tl:J (M'×Z))(gs:Ds->Rs (J L)):TE:=λσ H Q=>∃A δ,eF K H A δ σ/\(match gs δ with
 |.ok ds=>ds.length=names.length/\∀x H',H x=S->aA H H'->Is K (del H' A) (cN C x (names.zip ds++tlD tl)) (.ref x)->Q (.ref x) H'
 |.rz C'=>∀H',aA H H'->E (.ref C') S H'
 |.no=>False)
section
variable {E:XK}{e:Sq}{es:J Sq}
theorem Oq{k:O}(D:MkD X.prog X.w X.K X.mg X.base k x C names tl)(s:cH j X.A)(u:Passes (CXW X.prog X.w) X E)(ha:PAD X E (e::es) gs)(v:k+1<=j:=by decide)(y:Gl X x:=by rfl)
  (a:(x==("__debug__":M'))=false:=by decide) (z:starEach (e::es) X.env=(false,eval e X.env)::starEach es X.env:=by rfl) (c:(backTo pos (starEach es X.env)).any (·.1)=false:=by rfl) (hn:("@":M')∉names:=by decide) (g:("@":M')∉tl.map (·.1):=by decide) :
  PE X (.Call (.Name x p) (e::es) [] pos) (eMk X.K E C names tl gs):=by
 obtain⟨f,fd,ps,M,F,B,hm⟩:=D.ex;refine (CI M F (s.mono v) y hm B .nil u ha.1 a z c).imp λσ H Q h=>?_
 obtain⟨A,δ,R,o⟩:=h;refine aD.run R (λds e1 vs H1 n G h1=>?_) (λC i H' s'=>?_) (λi=>?_)
 .rw[e1]at o;obtain⟨hl,o⟩:=o;intro x dx nx l ne;refine⟨x,dx,vs++[],rfl,by rw[QC,h1.length,hl],aM,λH' k1 k2=>⟨rfl,?_⟩⟩;rw[QC]at k2;have r:aA H1 H':=λb q m=>by have n1:b≠x:=aR m nx;rw[k1 b n1,aE n1,aE (aR m l)];exact m
  refine o x H' (n.free nx) (n.trans r) (Hy (dx:=dx) (fs:=names.zip vs++tl.map λp=>(p.1,.int p.2)) ?_ (ue (K3 g) (Bw hn)) ?_)
  .rw[aV (G.ls.new nx)];exact k2
  .rw[Qm];exact BS (Ga tl) (wm (h1.same r.del))
 .rw[i]at o;exact o H' s'
 .rw[i]at o;exact o
end
def mF(C:HL)(names:J M')(tl:J (M'×Z))(as:J HL)(a:J (J L)):J PyData:=(as.zip a).map λp=>cN C p.1 (names.zip p.2++tlD tl)
def lJ(K:N')(E:XK)(C:HL)(names:J M')(tl:J (M'×Z))(n0:O)(e gs:Ds->Rs (J L))(tgt:L->D' Ds):TE:=λσ H Q=>∃A δ,eF K H A δ σ/\δ.length=n0/\∃ds b,e δ=.ok ds/\ds.length<=1000000/\b.length=ds.length /\
 (∀(i:O) d,ds[i]?=Y d->∃c fs,tgt d=Y c/\b[i]?=Y fs/\gs (δ++c)=.ok fs/\fs.length=names.length) /\
 ∀(as:J HL)(D:HL)(H':Hp),as.length=ds.length->as.Nodup->(∀a∈as,H a=S)->aA H H'->Is K (del H' A) (.list (mF C names tl as b)) (.ref D)->Q (.ref D) H'
theorem Lm{E:XK}{g:TG}(hT:TgD K n0 own.length tgt g) :
  ∀σ H Q,lJ K E C names tl n0 gi gs tgt σ H Q->tLC own.length (iD K E gi) g ym (eMk K E0 C names tl gs) σ H Q:=by
 intro σ H Q ⟨A,δ,R,A2,ds,j,q,hz,A4,hel,o⟩;have hσ:σ.length=n0:=by rw[<-R.len];exact A2
 refine⟨A,δ,R,?_⟩;rw[q];intro Bk H1 s1 hJ D D1;have T:=R.same s1;have nD:D∉A:=T.ls.new D1;refine⟨λi m ys H'=>m=ds.length-i/\i<=ds.length/\aA H1 H'/\H' D=Y (.lst ys)/\∃as:J HL,as.length=i/\ys=as.map V.ref/\as.Nodup/\(∀a∈as,H1 a=S/\a≠D/\∃u,H' a=Y u)/\Iss K (del H' (D::A)) (mF C names tl as (j.take i)) ys,
  ⟨ds.length,by simp,QH _,bS D1,aM,[],rfl,rfl,RM,λa h=>(Q9 h).elim,dw⟩,?_⟩
 rintro i m ys H' ⟨rfl,hi,B,hl,as,n,rfl,nd,l,c3⟩
 refine⟨hl,?_⟩;have sG:aA (del H1 A) H':=aB.trans B;have G:∀b∈D::A,(del H1 A) b=none:=λb r=>by
  rcases P8.mp r with z|z
  .rw[z,aV nD];exact D1
  .exact ja z
 obtain⟨jg,js,jy⟩:=hJ H' (D::A) sG (λb r=>by
  rcases P8.mp r with z|z
  .exact⟨_,by rw[z];exact hl,rfl⟩
  .exact (T.ls.same B) b z) G
 by_cases hlt:i<ds.length
 .refine .inr ⟨jg i hlt,λx H2 σ' I y=>?_⟩;obtain⟨s2,d,ed,hd⟩:=jy i x H2 hlt y;obtain⟨ow,fs,et,ef,eg,hfs⟩:=hel i d ed;have l2:H2 D=Y (.lst (as.map V.ref)):=s2 _ _ hl;have B':Ls H2 (D::A):=λb r=>by
   rcases P8.mp r with z|z
   .exact⟨_,by rw[z];exact l2,rfl⟩
   .exact (T.ls.same (B.trans s2)) b z
  obtain⟨hol,hgo⟩:=hT d x σ σ' H2 (D::A) (λs H2=>ym s H2 λb H3 =>
   if b=true then eMk K E0 C names tl gs s H3 λv F=>F D=Y (.lst (as.map V.ref))/\(as.map V.ref).length<sizeLine/\(∃f,s=σ++f/\f.length=own.length)/\∃m',m' < ds.length-i/\_
   else (∃f,s=σ++f/\f.length=own.length)/\∃m',m' < ds.length-i/\_) ow hσ I B' hd et
  refine hgo λvs M N=>?_
  have D2:aA (del H1 A) (del H2 (D::A)):=nZ (sG.trans s2) G;have RE:eF K H2 (D::A) (δ++ow) (σ++vs):=by
   refine⟨B',by rw[PU,PU,R.len,M,hol],λk e U=>?_⟩;by_cases hk:k<δ.length
   .rw[Qc hk]at U;obtain⟨u,e1,w⟩:=T.get k e U;exact⟨u,by rw[Qc (by rw[<-R.len];exact hk)];exact e1,w.same D2⟩
   .rw[Qh ⋯]at U;obtain⟨u,e1,w⟩:=N _ e U;exact⟨u,by rw[Qh (by rw[<-R.len];omega),<-R.len];exact e1,w⟩
  unfold ym;have hI:∀{p q:Prop},p->(if true=true then p else q):=λh=>by rw[FC rfl];exact h
  refine hI ?_;refine⟨D::A,δ++ow,RE,?_⟩;rw[eg];refine⟨hfs,λa F na X ha=>?_⟩;have l4:F D=Y (.lst (as.map V.ref)):=X _ _ l2;have P:a≠D:=λz=>by rw[z,l2]at na;cases na
  have naA:a∉as:=λz=>by obtain⟨_,_,u,w⟩:=l a z;rw[s2 _ _ w]at na;cases na
  have dU:del (upd F D (.lst (as.map V.ref++[.ref a]))) (D::A)=del F (D::A):=mf (P7);have h4a:∃u,F a=Y u:=by obtain⟨_,dx,gs',hp,_⟩:=ha.atObj;exact⟨_,(bu hp).2⟩
  have hex:mF C names tl (as++[a]) (j.take (i+1))=mF C names tl as (j.take i)++[cN C a (names.zip fs++tlD tl)]:=by
   have ht:j.take (i+1)=j.take i++[fs]:=by rw[J.take_add_one,ef];rfl
   unfold mF;rw[ht,J.zip_append (by rw[n,Rw];omega),Qm];rfl
  refine⟨l4,by rw[SA,P6,n];omega,⟨vs,rfl,M⟩,ds.length-(i+1),⋯,rfl,hlt,?_,aM,as++[a],by rw[PU,n];rfl,by rw[Qm];rfl,?_,λb r=>?_,?_⟩
  .exact aA.put ((B.trans s2).trans X) D1
  .exact RP.mpr ⟨nd,by simp,λb r c hc e=>by rw[PV.mp hc]at e;exact naA (e▸r)⟩
  .rcases Ql.mp r with z|z
   .obtain⟨h1,h2,u,w⟩:=l b z;refine⟨h1,h2,u,?_⟩;rw[aE h2];exact X _ _ (s2 _ _ w)
   .cases PV.mp z;obtain⟨u,w⟩:=h4a;refine⟨(B.trans s2).free na,P,u,?_⟩;rw[aE P];exact w
  .rw[dU,hex];exact (c3.same (aA.del (s2.trans X))).append (kK ha)
 .have e:i=ds.length:=⋯
  subst e;rw[<-A4,WX]at c3;refine .inl ⟨js,o as D H' (by rw[n]) nd (λa ha=>s1.free (l a ha).1) (s1.trans B) ?_⟩;have hs:aA (del H' (D::A)) (del H' A):=λb u eb=>by obtain⟨q1,q2⟩:=bu eb;rw[aV (λz=>q1 (P4 _ z))];exact q2
  exact ll (by rw[aV nD];exact hl) (c3.same hs)
section
variable {E:XK}{ss:J Ur}
theorem JR{r:Ds->Rs (J L)}{e:Ds->Sr}(v:PS X st (HX (lJ X.K E C names tl n0 r gs tgt) (lg i)))(f:∀as,PBN as X E D2 ss (G as))(hi:i∉D2)
  (g:∀δ,e δ≠.no->∃d ds b,e δ=.rt d/\i<δ.length/\δ.length=n0/\r (mask D2 δ)=.ok ds/\ds.length<=1000000/\b.length=ds.length/\(∀(i:O) d,ds[i]?=Y d->∃u fs,tgt d=Y u/\b[i]?=Y fs/\gs (mask D2 δ++u)=.ok fs/\fs.length=names.length) /\
   ∀as:J HL,as.length=ds.length->as.Nodup->G as (δ.set i ↥(mF C names tl as b))=.rt d):PBD X E D2 (st::ss) e:=by
 have h2:PSs X ss (λD σ H=>∃as,sDN as X.K E D2 (G as) D σ H):=λz7 s σ H D I j=>(by obtain⟨as,h⟩:=j;exact f as z7 s σ H D I h)
 refine (cU v h2).imp λD σ H l=>?_
 obtain⟨H0,A0,A,δ,R,o⟩:=l;by_cases z:e δ=.no
 .rw[z]at o;exact o.elim
 obtain⟨d,ds,b,e1,hl,hn,e2,w,x,m,y⟩:=g δ z;rw[e1]at o;have n:(mask D2 δ).length=n0:=by rw[xV];exact hn
 refine⟨A++A0,mask D2 δ,R.part,n,ds,b,e2,w,x,m,λas Dd H' p nd c B q=>?_⟩;refine⟨as,H0,A0,A,_,λa ha=>R.same.free (c a ha),(R.step B).set hi hl q,?_⟩;rw[y as p nd];exact o
end
section
variable {κ:Type}[DecidableEq κ]
def mn(kvs:J (κ×V))(k:κ):D' V:=(kvs.find? λa=>decide (a.1=k)).map (·.2)
def putK(kvs:J (κ×V))(k:κ)(v:V):J (κ×V) :=
 if (kvs.any λa=>decide (a.1=k))=true then kvs.map (λa=>if a.1=k then (a.1,v) else a) else kvs++[(k,v)]
theorem rK{p:κ×V}{r:J (κ×V)}{k:κ}(e:p.1=k):mn (p::r) k=Y p.2:=by simp[mn,Qd,e]
theorem sq{p:κ×V}{r:J (κ×V)}{k:κ}(e:¬ p.1=k):mn (p::r) k=mn r k:=by simp[mn,Qd,e]
theorem yc(k:κ):∀kvs:J (κ×V),(kvs.any λa=>decide (a.1=k))=(mn kvs k).isSome
 |[]=>rfl
 |p::r=>by
  rw[R8];by_cases e:p.1=k
  .dsimp[rK e,O' e,R0.true_or,D'.isSome_some]
  .rw[sq e,L' e,S9];exact yc k r
theorem qp(kvs:J (κ×V))(k:κ)(v:V):(putK kvs k v).length<=kvs.length+1:=by
 unfold putK;split
 .rw[P6];omega
 .rw[PU,PZ,QF];omega
theorem kZ.isSome_eq{o:D' V}{u:D' F'}(r:kZ o u):o.isSome=u.isSome:=by
 cases o with
 |none=>cases u with
  |none=>rfl
  |some _=>exact (show False from r).elim
 |some _=>cases u with
  |none=>exact (show False from r).elim
  |some _=>rfl
theorem kZ.getD{o:D' V}{u:D' F'}{d:V}{d':F'}(r:kZ o u)(a:RelV d d'):RelV (o.getD d) (u.getD d'):=by
 cases o with
 |none=>cases u with
  |none=>exact a
  |some _=>exact (show False from r).elim
 |some _=>cases u with
  |none=>exact (show False from r).elim
  |some _=>exact r
theorem KV.val{kvs:J (κ×V)}{vs:J (κ×F')}(r:KV kvs vs)(k:κ):kZ (mn kvs k) (valueAt vs k):=by
 unfold KV at r
 induction r with
 |nil=>exact TX
 |@cons p q ps qs h t ih =>
  obtain⟨h1,h2⟩:=h;by_cases e:p.1=k
  .have a:q.1=k:=h1.symm.trans e;have b:valueAt (q::qs) k=Y q.2:=by simp[valueAt,Qd,a]
   rw[rK e,b];exact h2
  .have a:¬ q.1=k:=λz=>e (h1.trans z)
   have b:valueAt (q::qs) k=valueAt qs k:=by simp[valueAt,Qd,a]
   rw[sq e,b];exact ih
theorem KV.any{kvs:J (κ×V)}{vs:J (κ×F')}(r:KV kvs vs)(k:κ):(kvs.any λa=>decide (a.1=k))=vs.any λa=>decide (a.1=k):=by
 unfold KV at r
 induction r with
 |nil=>rfl
 |cons h t ih=>rw[R8,R8,ih,h.1]
theorem KV.repl{kvs:J (κ×V)}{vs:J (κ×F')}(r:KV kvs vs)(k:κ)(b:RelV y u) :
  KV (kvs.map λa=>if a.1=k then (a.1,y) else a) (vs.map λa=>if a.1=k then (a.1,u) else a):=by
 unfold KV at r ⊢
 induction r with
 |nil=>exact .nil
 |@cons p q ps qs h t ih =>
  rw[P0,P0];refine .cons ?_ ih;obtain⟨h1,h2⟩:=h;by_cases e:p.1=k
  .rw[FC e,FC (h1.symm.trans e)];exact⟨h1,b⟩
  .rw[GC e,GC (λz=>e (h1.trans z))];exact⟨h1,h2⟩
theorem KV.put{kvs:J (κ×V)}{vs:J (κ×F')}(r:KV kvs vs)(k:κ)(a:RelV y u):KV (putK kvs k y) (stored vs k u):=by
 unfold putK stored;rw[r.any k];by_cases e:(vs.any λb=>decide (b.1=k))=true
 .rw[FC e,FC e];exact r.repl k a
 .rw[GC e,GC e];exact Paired.snoc r ⟨rfl,a⟩
theorem KV.length{kvs:J (κ×V)}{vs:J (κ×F')}(r:KV kvs vs):kvs.length=vs.length:=Paired.length r
end
theorem CK{k:Key}(r:RelV (kV k) u):(dN P w).is k u=true:=by
 cases k with
 |inl i=>obtain⟨t,e⟩:=(show ∃t,u=Us i t from r);subst e;exact yi P w i t
 |inr x=>obtain⟨t,e⟩:=(show ∃t,u=WI x t from r);subst e;exact yQ P w x t
theorem vj{P:SQ}{w:T1}:∀{ks:J Key}{us:J F'},Vals (ks.map kV) us->ItemsAre (dN P w) ks us
 |[],_,r=>by rw[Qv]at r;cases r;exact .nil
 |k::ks,_,r=>by
  rw[P0]at r;cases r with
  |cons h t=>exact .cons (CK h) (vj t)
abbrev KT(H:Hp):J (J Key×V)->J (J Key×HL×F')->Prop:=Paired λp q=>p.1=q.1/\H q.2.1=Y (.tup (p.1.map kV))/\RelV p.2 q.2.2
theorem KT.val(r:KT H kvs xs)(k:J Key):kZ (mn kvs k) ((atKey xs k).map (·.2)):=by
 induction r with
 |nil=>exact TX
 |@cons p q ps qs h t ih =>
  obtain⟨h1,_,h2⟩:=h;by_cases e:p.1=k
  .have a:q.1=k:=h1.symm.trans e;have b:atKey (q::qs) k=Y q.2:=by simp[atKey,Qd,a]
   rw[rK e,b];exact h2
  .have a:¬ q.1=k:=λz=>e (h1.trans z)
   have b:atKey (q::qs) k=atKey qs k:=by simp[atKey,Qd,a]
   rw[sq e,b];exact ih
theorem KT.repl(r:KT H kvs xs)(k:J Key)(b:RelV y u) :
  KT H (kvs.map λa=>if a.1=k then (a.1,y) else a) (xs.map (putAt k u)):=by
 induction r with
 |nil=>exact .nil
 |@cons p q ps qs h t ih =>
  rw[P0,P0];refine .cons ?_ ih;obtain⟨h1,h2,h3⟩:=h;unfold putAt;by_cases e:p.1=k
  .rw[FC e,FC (h1.symm.trans e)];exact⟨h1,h2,b⟩
  .rw[GC e,GC (λz=>e (h1.trans z))];exact⟨h1,h2,h3⟩
theorem KT.put(r:KT H kvs xs)(k:J Key)(c:H b=Y (.tup (k.map kV)))(a:RelV y u) :
  KT H (putK kvs k y) (storedH xs k b u):=by
 have e:(kvs.any λf=>decide (f.1=k))=(atKey xs k).isSome:=by rw[yc,(r.val k).isSome_eq,D'.isSome_map]
 unfold putK storedH;rw[e];by_cases q:(atKey xs k).isSome=true
 .rw[FC q,FC q];exact r.repl k a
 .rw[GC q,GC q];exact Paired.snoc r ⟨rfl,c,a⟩
theorem KT.keeps(r:KT H kvs xs)(a:∀b ys,H b=Y (.tup ys)->H' b=Y (.tup ys)):KT H' kvs xs :=
 Paired.mapP r λ_ _ z=>⟨z.1,a _ _ z.2.1,z.2.2⟩
section
theorem K5{u:HO}(ok:HOk P w H h)(e:Rd H a u):dY P w H h a u:=e.ok ok
theorem vA{kvs:J (Key×V)}(ok:HOk P w H h)(e:Rd H a (.dK kvs)):kvs.length<=sizeLine/\(a==sysModules)=false/\∃vs,KV kvs vs/\h.DictOf (dN P w) a vs :=
 show dY P w H h a (.dK kvs) from K5 ok e
theorem NZ{kvs:J (Key×V)}(ok:HOk P w H h)(e:H a=Y (.dK kvs)):kvs.length<=sizeLine/\(a==sysModules)=false/\∃vs,KV kvs vs/\h.DictOf (dN P w) a vs:=vA ok (.inl e)
theorem wJ{ks:J Key}(ok:HOk P w H h)(e:H a=Y (.tup (ks.map kV))):(tupleKind (dN P w)).is h ks a:=by
 obtain⟨_,b,r,o,h1,h2,_,n,h3⟩:=(show dY P w H h a (.tup (ks.map kV)) from ok a _ e)
 exact⟨o,b.toArray,n,h1,h2,h3,by simpa using vj r⟩
theorem yF(ok:HOk P w H h)(e:Rd H a (.dT kvs)):kvs.length<=sizeLine/\(a==sysModules)=false /\
  ∃xs,KT H kvs xs/\h.DictOfH (tupleKind (dN P w)) a xs:=by
 obtain⟨z,y,xs,r,o,es,c,h1,h2,h3,f,g⟩:=(show dY P w H h a (.dT kvs) from K5 ok e)
 refine⟨z,y,xs,r,o,es,c,h1,h2,h3,f,λx b=>?_,g⟩;have all:∀{l:J (J Key×V)}{m:J (J Key×HL×F')},KT H l m->∀x∈m,(tupleKind (dN P w)).is h x.1 x.2.1:=by
  intro l m q
  induction q with
  |nil=>intro x b;exact nomatch b
  |@cons p q ps qs hq t ih =>
   intro x b;rcases P8.mp b with e|b
   .subst e;exact wJ ok (by rw[<-hq.1];exact hq.2.1)
   .exact ih x b
 exact all r x b
theorem N4(ok:HOk P w H h)(e:H a=Y (.dT kvs)):kvs.length<=sizeLine/\(a==sysModules)=false /\
 ∃xs,KT H kvs xs/\h.DictOfH (tupleKind (dN P w)) a xs:=yF ok (.inl e)
end
def uo(H:Hp)(a:HL)(y:V)(r:D' V):Prop :=
 (∃kvs k,Rd H a (.dK kvs)/\y=kV k/\r=mn kvs k)\/∃kvs k b,Rd H a (.dT kvs)/\y=.ref b/\H b=Y (.tup (k.map kV))/\r=mn kvs k
def zB(H:Hp)(a:HL)(y v:V)(H':Hp):Prop :=
 (∃kvs k,H a=Y (.dK kvs)/\y=kV k/\kvs.length<sizeLine/\H'=upd H a (.dK (putK kvs k v))) \/
 ∃kvs k b,H a=Y (.dT kvs)/\y=.ref b/\H b=Y (.tup (k.map kV))/\kvs.length<sizeLine/\H'=upd H a (.dT (putK kvs k v))
theorem uo.k{kvs:J (Key×V)}{k:Key}(e:H a=Y (.dK kvs)):uo H a (kV k) (mn kvs k):=.inl ⟨kvs,k,.inl e,rfl,rfl⟩
theorem uo.t{k:J Key}(e:H a=Y (.dT kvs))(c:H b=Y (.tup (k.map kV))):uo H a (.ref b) (mn kvs k):=.inr ⟨kvs,k,b,.inl e,rfl,c,rfl⟩
theorem zB.k{kvs:J (Key×V)}{k:Key}(e:H a=Y (.dK kvs))(hl:kvs.length<sizeLine):zB H a (kV k) v (upd H a (.dK (putK kvs k v))):=.inl ⟨kvs,k,e,rfl,hl,rfl⟩
theorem zB.t{k:J Key}(e:H a=Y (.dT kvs))(c:H b=Y (.tup (k.map kV)))(hl:kvs.length<sizeLine) :
 zB H a (.ref b) v (upd H a (.dT (putK kvs k v))):=.inr ⟨kvs,k,b,e,rfl,c,hl,rfl⟩
section
variable {r:F'}{o:D' V}{A:Ss}
theorem Inv.big(I:Inv X z7 σ H s):sysModules<s.heap.objs.size:=by have h:mainGlobals<s.heap.objs.size:=(I.mod.glob.keeps I.bk).lt;exact O.lt_trans #[1] h
theorem EI(n:A.units+1<cLine)(I:Inv X z7 σ H s)(g:uo H a y (Y v))(m:RelV y u)(h:∀f s',Inv X z7 σ H s'->RelV v f->Q f s') :
  wpAny (model X.prog X.w) A (getItem (.ref a) u) Q E s:=by
 rcases g with⟨kvs,k,e,i,l⟩|⟨kvs,k,b,e,i,q,l⟩
 .subst i;obtain⟨z,hd,vs,rel,dd⟩:=vA I.hok e;obtain⟨f,hw,c⟩:=kZ.some_of (v:=v) (o:=valueAt vs k) (by rw[l];exact rel.val k);exact wpAny_getItem_of (CK m) dd.mapOf hw (h f _ (I.tok _) c)
 .subst i;cases (show u=Sz b from m);obtain⟨z,hd,xs,rel,dd⟩:=yF I.hok e;obtain⟨f,hw,c⟩:=kZ.some_of (v:=v) (o:=(atKey xs k).map (·.2)) (by rw[l];exact rel.val k);obtain⟨p,r,j⟩:=QQ.mp hw;refine wpAny_getItem_heap (UN n) (wJ I.hok q) dd r ?_;rw[j];exact h f _ (I.tok _) c
theorem CB{t':O}{c:HO}(I:Inv X z7 σ H s)(f:Mut (H a))(g:T8 a s.heap h')(h:∃q,h'.get? a=Y q)(new:dY X.prog X.w (upd H a c) h' a c) :
  Inv X z7 σ (upd H a c) {s with heap:=h',toks:=t'} :=
 I.write (x:=a) (e:=a) f (.inl rfl) (λb q i z=>(g.2 b i).trans z) h new
theorem L4{kvs:J (Key×V)}{vs:J (Key×F')}(z:kvs.length<=sizeLine)(hd:(a==sysModules)=false)(rel:KV kvs vs)(dd:h'.DictOf (dN P w) a vs) :
 dY P w H' h' a (.dK kvs):=⟨z,hd,vs,rel,dd⟩
theorem DC{Q:XI->K'->Prop}(D:A.units+1<cLine)(I:Inv X z7 σ H s)(g:zB H a y v H')(p:RelV y u)(x:RelV v r)(h:∀s',Inv X z7 σ H' s'->Q () s') :
  wpAny (model X.prog X.w) A (setItem (.ref a) u r) Q E s:=by
 rcases g with⟨kvs,k,e,j,l,m⟩|⟨kvs,k,b,e,j,B,l,m⟩
 .subst j m;obtain⟨z,hd,vs,rel,dd⟩:=NZ I.hok e;have n:vs.length<=sizeLine:=by rw[<-rel.length];exact z
  have hl:(putK kvs k v).length<=sizeLine:=by have:=qp kvs k v;omega
  refine wpAny_setItem_pairs (hsz:=n) (CK p) dd λh' f o=>h _ ?_
  have F:∃q,h'.get? a=Y q:=let ⟨q,_,_,i,_⟩:=f;⟨q,i⟩;exact CB I (by rw[e];exact TX) o F (L4 hl hd (rel.put k x) f)
 .subst j m;cases (show u=Sz b from p);obtain⟨z,hd,xs,rel,dd⟩:=N4 I.hok e;have n:xs.length<=sizeLine:=by rw[<-Paired.length rel];exact z
  have hl:(putK kvs k v).length<=sizeLine:=by have:=qp kvs k v;omega
  refine wpAny_setItem_heap (hsz:=n) (UN D) (wJ I.hok B) dd λh' f o=>h _ ?_
  obtain⟨q,es,G,i,h2,h3,Bk,_,K⟩:=f;refine CB I (by rw[e];exact TX) o ⟨q,i⟩ ⟨hl,hd,_,(rel.put k B x).keeps λc ys C=>?_,q,es,G,i,h2,h3,Bk,K⟩;rw[aE (N1 C e (λz=>nomatch z))];exact C
end
section
variable {kvs:J (Key×V)}{k:Key}{A:Ss}
end
def Mm(i:Sq):Prop:=∀a b,subscripted i false a b=operate [a,b] (getItem a b)
theorem Jd{A:Ss}{value slice:Sq}{T id:U2}
  (hl:typeLookup (.type T) "__getitem__"=pure (Y (.builtin id))) (j:Mm slice)
  (h:wpAny (model prog w) A (eval value env) (λo c=>wpAny (model prog w) A (eval slice env) (λi a=>a.TypeIs o T/\wpAny (model prog w) A (getItem o i) Q E a) E c) E s) :
  wpAny (model prog w) A (eval (.Subscript value slice pos) env) Q E s:=by
 refine Xw (SW h (λo c h₁=>SW h₁ (λi a b=>?_) λ_ _ x=>x) λ_ _ x=>x);obtain⟨g,b⟩:=b;unfold subscriptTail;refine F1 ?_;rw[getitemInPython_of_ne g.not_modules];refine F1 (wpAny_specialOf g hl ?_);have fin:wpAny (model prog w) A (subscripted slice false o i) (λr e=>wpAny (model prog w) A (letTemporaryGo value o r >>= λ_=>pure r) Q E e) E a:=by rw[j o i];exact wpAny_operating (SW b (λr e f=>F1 (wpAny_letTemporaryGo (J' f))) λ_ _ x=>x)
 first
  |exact J' (F1 fin)
  |exact F1 (J' (F1 fin))
  |exact F1 fin
theorem yj{o:D' V}(I:Inv X z7 σ H s)(g:uo H a y o):s.TypeIs (.ref a) "dict":=by
 rcases g with⟨kvs,k,e,_,_⟩|⟨kvs,k,b,e,_,_,_⟩
 .obtain⟨_,_,vs,_,dd⟩:=vA I.hok e;exact dd.typeIs
 .obtain⟨_,_,xs,_,dd⟩:=yF I.hok e;exact dd.typeIs
def OD(td ty:TE):TE:=λσ H Q=>td σ H λx H1=>ty σ H1 λy H2=>∃a v,x=.ref a/\uo H2 a y (Y v)/\Q v H2
def N3(td ty tv:TE):TS:=λD σ H=>tv σ H λv H1=>td σ H1 λx H2=>ty σ H2 λy c=>∃a b,x=.ref a/\zB c a y v b/\D.nx σ b
section
variable {o i e value:Sq}{tpos:Vp}{td ty tv:TE}
theorem Jn(f:X.A.units+1<cLine)(j:PE X o td)(hi:PE X i ty)(l:Mm i):PE X (.Subscript o i pos) (OD td ty):=by
 intro z7 s σ H Q I h;refine Jd F.slot_dict_getitem.lookup l (thn (j z7 s σ H _ I h) λu m b=>?_);obtain⟨x,H1,n,p,q⟩:=b;refine thn (hi z7 m σ H1 _ n q) λiv s2 b=>?_
 obtain⟨y,H2,e,r,a,v,ex,g,w⟩:=b;subst ex;obtain rfl:u=Sz a:=p;exact⟨yj e g,EI f e g r λw' s3 z c=>⟨v,H2,z,c,w⟩⟩
theorem B3(c:X.A.units+1<cLine)(e:PE X o td)(hi:PE X i ty)(hv:PE X value tv)(f:swapsWith value (Y (.Subscript o i pos')) pos.line X.env=pure false) :
  PS X (.Assign [.Subscript o i pos'] value pos) (N3 td ty tv):=by
 intro z7 s σ H D I h;refine wpAny_Assign_Subscript (thn (hv z7 s σ H _ I h) λr j b=>?_) f;obtain⟨v,H1,l,m,n⟩:=b;refine thn (e z7 j σ H1 _ l n) λu s2 b=>?_
 obtain⟨x,H2,p,q,w⟩:=b;refine thn (hi z7 s2 σ H2 _ p w) λiv s3 b=>?_
 obtain⟨y,H3,z,B,a,C,ex,g,E⟩:=b;subst ex;obtain rfl:u=Sz a:=q;exact DC c z g B m λs4 F=>⟨σ,C,F,E⟩
end
theorem Gk(h:Sy)(a:sysModules<h.objs.size):dY P w H (h.push {cls:=.type "dict",data:=.dict #[]}) h.objs.size (.dK []) :=
 ⟨QH _,SE.mpr (Uh (Q4 a)),[],.nil,Sy.DictOf.new h⟩
theorem Hm(h:Sy)(a:sysModules<h.objs.size):dY P w H (h.push {cls:=.type "dict",data:=.dict #[]}) h.objs.size (.dT []) :=
 ⟨QH _,SE.mpr (Uh (Q4 a)),[],.nil,_,#[],0,PY _ rfl,⟨rfl,rfl,rfl⟩,rfl,rfl,RM⟩
def M9:TE:=λ_ H Q=>∀p,H p=S->Q (.ref p) (upd H p (.dK []))
def Nk:TE:=λ_ H Q=>∀p,H p=S->Q (.ref p) (upd H p (.dT []))
section
theorem xQ:PE X (.Dict [] [] pos) M9:=λz7 s σ H Q I h =>
 WY ⟨.ref s.heap.objs.size,_,I.laid (a:=s.heap.objs.size) (o:=.dK []) (t':=s.toks) (λ_ _ q=>P5 _ q) (PN _) (Gk s.heap I.big),rfl,h _ (I.hok.fresh (PN _))⟩
theorem Hs:PE X (.Dict [] [] pos) Nk:=λz7 s σ H Q I h =>
 WY ⟨.ref s.heap.objs.size,_,I.laid (a:=s.heap.objs.size) (o:=.dT []) (t':=s.toks) (λ_ _ q=>P5 _ q) (PN _) (Hm s.heap I.big),rfl,h _ (I.hok.fresh (PN _))⟩
end
structure M2(X:Cx)(o:Sq)(m:M')(apos:Vp)(e f:Sq)(cpos:Vp):Prop where
 base:attributeBase o m X.env (eval o X.env)=eval o X.env
 few:((backTo cpos (starEach [e,f] X.env)).all (λx=>!x.1)&&(backToKw cpos (keywordEach [] X.env)).all (λx=>x.1.isSome)
 &&decide (([e,f]:J Sq).length+([]:J Tg).length+(if ([]:J Tg).isEmpty then 0 else 1)<30))=true
 line:(apos.endLine==cpos.line)=true
 trees:backTo cpos (starEach [e,f] X.env)=[(false,eval e X.env),(false,eval f X.env)]
def N2(H:Hp)(a:HL):Prop:=(∃kvs,Rd H a (.dK kvs))\/∃kvs,Rd H a (.dT kvs)
theorem Gp(I:Inv X z7 σ H s)(d:N2 H a) :
  s.TypeIs (.ref a) "dict"/\(∀b,Sz a=.ref b->∃c,s.heap.get? b=Y c/\c.dict=S)/\(a==sysModules)=false:=by
 rcases d with⟨kvs,e⟩|⟨kvs,e⟩
 .obtain⟨_,hd,vs,_,dd⟩:=vA I.hok e;refine⟨dd.typeIs,λb q=>?_,hd⟩;cases q;obtain⟨c,_,_,h1,h2,_⟩:=dd;exact⟨c,h1,h2.2.1⟩
 .obtain⟨_,hd,xs,_,dd⟩:=yF I.hok e;refine⟨dd.typeIs,λb q=>?_,hd⟩;cases q;obtain⟨c,_,_,h1,h2,_⟩:=dd;exact⟨c,h1,h2.2.1⟩
section
variable {d:V}{r:F'}{o:D' V}{A:Ss}
theorem M7(m:A.units+1<cLine)(I:Inv X z7 σ H s)(g:uo H a y o)(f:RelV y u)(i:RelV d r)(h:∀j s',Inv X z7 σ H s'->RelV (o.getD d) j->Q j s') :
  wpAny (model X.prog X.w) A (call (.builtin "dict.get") [.ref a,u,r]) Q E s:=by
 rcases g with⟨kvs,k,e,c,l⟩|⟨kvs,k,b,e,c,n,l⟩
 .subst c;obtain⟨z,hd,vs,rel,dd⟩:=vA I.hok e;refine call_meetsIn Vm dd.typeIs WZ (Wz _ _ _) (meets_dict_get_default (dN X.prog X.w) a (CK f) hd r) ⟨_,dd.mapOf,h _ _ (I.tok _) ?_⟩;rw[l];exact (rel.val k).getD i
 .subst c;cases (show u=Sz b from f);obtain⟨z,hd,xs,rel,dd⟩:=yF I.hok e;refine call_meetsIn Vm dd.typeIs WZ (Wz _ _ _) (meetsH_dict_get_default (tupleKind (dN X.prog X.w)) a b hd r) ⟨UN m,k,xs,wJ I.hok n,dd,h _ _ (I.tok _) ?_⟩;rw[l];exact (rel.val k).getD i
end
def Mi(td ty tx:TE):TE:=λσ H Q=>td σ H λx H1=>∃a,x=.ref a/\N2 H1 a/\ty σ H1 λy H2=>tx σ H2 λz b=>∃o,uo b a y o/\Q (o.getD z) b
section
variable {o e f:Sq}{apos:Vp}{td ty tx:TE}
theorem GD(j:X.A.units+1<cLine)(l:PE X o td)(n:PE X e ty)(p:PE X f tx)(m:M2 X o "get" apos e f cpos):PE X (.Call (.Attribute o "get" apos) [e,f] [] cpos) (Mi td ty tx):=by intro z7 s σ H Q I h;refine WA m.base m.few m.line WB Vm F.type_dict_get (thn (l z7 s σ H _ I h) λu q b=>?_);obtain⟨x,H1,i,r,a,ex,d,v⟩:=b;subst ex;obtain rfl:u=Sz a:=r;obtain⟨w,B,_⟩:=Gp i d;refine⟨w,B,?_⟩;rw[m.trees];refine TZ rfl (U7 (To (thn (n z7 q σ H1 _ i v) λiv s2 b=>?_)));obtain⟨y,H2,C,D,E⟩:=b;refine To (thn (p z7 s2 σ H2 _ C E) λfv s3 b=>?_);obtain⟨z,G,Bk,rz,ov,g,K⟩:=b;refine U3 ?_;exact M7 j Bk g D rz λw' s4 B' c=>⟨_,G,B',c,K⟩
end
section
variable {kvs:J (Key×V)}{A:Ss}
end
section
variable {A:Ss}
end
section
theorem cj.setOwnO{v:L}(R:cj K H0 A0 H A D2 δ σ)(hi:i∈D2)(hl:i<δ.length)(hn:H a=S)(s:aA H H1)(ha:H1 a=Y o)(m:Nc o=true)(h:ju K (del H1 (a::(A++A0))) v o) :
  cj K H0 A0 H1 (a::A) D2 (δ.set i (Y v)) (σ.set i (Y (.ref a))) where
 same:=R.same.trans s
 ls0:=R.ls0
 new:=λb n=>by
  rcases P8.mp n with z|z
  .rw[z];exact R.same.free hn
  .exact R.new b z
 ls:=λb n=>by
  rcases P8.mp n with z|z
  .exact⟨_,by rw[z];exact ha,m⟩
  .exact (R.ls.same s) b z
 len:=by simp[R.len]
 pl:=λj e c q=>by
  rcases get_set q with⟨z,q⟩|⟨z,q⟩
  .subst z;exact So hi c
  .obtain⟨u,e1,h1⟩:=R.pl j e c q;refine⟨u,lV z e1,h1.same λb o e=>?_⟩;obtain⟨y,e⟩:=bu e;have r:b≠a:=aR e hn;rw[aV (by simpa[r] using y)];exact s _ _ e
 own:=λj e c q=>by
  have w:∀b o,del H (A++A0) b=Y o->del H1 (a::A++A0) b=Y o:=λb o e=>by obtain⟨y,e⟩:=bu e;have r:b≠a:=aR e hn;rw[aV (by simpa[r] using y)];exact s _ _ e
  rcases get_set q with⟨z,q⟩|⟨z,q⟩
  .cases q;subst z;exact⟨a,_,_,by rw[QA (by rw[<-R.len];exact hl)],P7,ha,rfl,h⟩
  .obtain⟨b,ys,es,e1,h1,h2,h3,x⟩:=R.own j e c q;exact⟨b,ys,es,lV z e1,P4 _ h1,s _ _ h2,h3,x.same w⟩
 inj:=λj k d' e b c f g l p1 p2=>by
  have old:∀k,k∈D2->i≠k->∀e,δ[k]?=Y (Y e)->σ[k]?=Y (Y (.ref a))->False:=λk f _ e q p=>by obtain⟨b,ys,es,e1,h1,h2,_⟩:=R.own k e f q;rw[p]at e1;cases e1;rw[hn]at h2;cases h2
  by_cases z1:i=j
  .by_cases z2:i=k
   .rw[<-z1,z2]
   .subst z1;rw[QA (by rw[<-R.len];exact hl)]at p1;cases p1;rw[Qi z2]at l p2;exact (old k f z2 e l p2).elim
  .by_cases z2:i=k
   .subst z2;rw[QA (by rw[<-R.len];exact hl)]at p2;cases p2;rw[Qi z1]at g p1;exact (old j c z1 d' g p1).elim
   .rw[Qi z1]at g p1;rw[Qi z2]at l p2;exact R.inj j k d' e b c f g l p1 p2
theorem cj.putO{d1 l:L}(R:cj K H0 A0 H A D2 δ σ)(hi:i∈D2)(hd:δ[i]?=Y (Y l))(r:σ[i]?=Y (Y (.ref a)))(ha:a∈A)(m:Nc o=true)(h:ju K (del H (A++A0)) d1 o) :
  cj K H0 A0 (upd H a o) A D2 (δ.set i (Y d1)) σ:=by
 have n:del (upd H a (o)) (A++A0)=del H (A++A0):=mf (Qu _ ha);have hl:i<δ.length:=(Qa.mp hd).1;refine⟨λb o e=>?_,R.ls0,R.new,λb u=>?_,by simp[R.len],λj e c q=>?_,λj e c q=>?_,λj k d' e b c s f g p1 p2=>?_⟩
 .have p:b≠a:=λz=>by rw[z,R.new a ha]at e;cases e
  rw[aE p];exact R.same b o e
 .by_cases z:b=a
  .exact⟨_,by rw[z,aM],m⟩
  .rw[aE z];exact R.ls b u
 .rcases get_set q with⟨z,q⟩|⟨z,q⟩
  .subst z;exact So hi c
  .rw[n];exact R.pl j e c q
 .rcases get_set q with⟨z,q⟩|⟨z,q⟩
  .cases q;subst z;exact⟨a,_,_,r,ha,aM,rfl,by rw[n];exact h⟩
  .obtain⟨b,zs,es,e1,h1,h2,h3,v⟩:=R.own j e c q;have p:b≠a:=λw=>z (R.inj i j _ _ a hi c hd q r (by rw[<-w];exact e1))
   exact⟨b,zs,es,e1,h1,by rw[aE p];exact h2,h3,by rw[n];exact v⟩
 .rcases get_set f with⟨z1,f⟩|⟨z1,f⟩ <;> rcases get_set g with⟨z2,g⟩|⟨z2,g⟩
  .rw[<-z1,z2]
  .subst z1;exact R.inj i k l e b hi s hd g p1 p2
  .subst z2;exact R.inj j i d' l b c hi f hd p1 p2
  .exact R.inj j k d' e b c s f g p1 p2
end
noncomputable def bT(l:J (Z×Z)):PyData:=.dict (l.map λp=>(EE p.1,EE p.2))
noncomputable def dkO(l:J (Z×Z)):HO:=.dK (l.map λp=>(.inl p.1,V.int p.2))
theorem sF:∀{l m:J (Z×Z)},l.map (λp=>(EE p.1,EE p.2))=m.map (λp=>(EE p.1,EE p.2))->l=m
 |[],[],_=>rfl
 |[],_::_,h=>by simp at h
 |_::_,[],h=>by simp at h
 |(a,b)::l,(c,d)::m,h=>by dsimp[P0,Ui,Uv,Uu]at h;obtain⟨⟨rfl,rfl⟩,h⟩:=h;rw[sF h]
theorem Is.ofDic(h:Is K H (bT l) v):∃a,v=.ref a/\H a=Y (dkO l):=by
 unfold bT Is at h;rcases h with (⟨a,ns,_,e,_⟩|⟨a,m,e1,e,h2⟩)|⟨a,C,dx,fs,_,_,_,h|h⟩
 .cases l with
  |nil=>simp at e
  |cons p l=>simp at e
 .rcases e with⟨b,e,rfl⟩|⟨b,e,rfl⟩|⟨b,_,e,rfl⟩
  .rw[sF e];exact⟨a,e1,h2⟩
  .cases l <;> cases e
  .cases l <;> cases e
 .cases l with
  |nil=>unfold Isk at h;simp at h
  |cons p l=>rw[P0]at h;unfold Isk at h;obtain⟨f,_,_,_,q,_⟩:=h;cases q
 .cases l with
  |nil=>unfold Isk at h;simp at h
  |cons p l=>rw[P0]at h;unfold Isk at h;obtain⟨f,_,_,_,q,_⟩:=h;cases q
theorem Ml(h:H a=Y (dkO l)):Is K H (bT l) (.ref a):=by unfold bT Is;exact .inl (.inr ⟨a,_,rfl,.inl ⟨l,rfl,rfl⟩,h⟩)
def mS:J (L×L)->D' (J (Z×Z))
 |[]=>Y []
 |(.int a,.int b)::r=>(mS r).map λl=>(a,b)::l
 |_=>S
theorem vg:∀{r:J (L×L)}{l:J (Z×Z)},mS r=Y l->r=l.map λp=>(EE p.1,EE p.2)
 |[],l,e=>by cases e;rfl
 |(a,b)::r,l,e=>by
  cases a <;> cases b <;> first|(cases e;done)|skip
  unfold mS at e;cases q:mS r with
  |none=>rw[q]at e;cases e
  |some m=>rw[q]at e;cases e;rw[vg q];rfl
theorem tK:∀l:J (Z×Z),mS (l.map λp=>(EE p.1,EE p.2))=Y l
 |[]=>rfl
 |p::r=>by rw[P0];unfold mS;rw[tK r];rfl
def nK:L->D' (J (Z×Z))
 |.dict kvs=>mS kvs
 |_=>S
theorem sQ{d:L}(h:nK d=Y l):d=bT l:=by
 unfold nK at h;split at h
 .unfold bT;rw[vg h]
 .cases h
theorem jY(l:J (Z×Z)):nK (bT l)=Y l:=tK l
noncomputable def cJ(l:J (Z×Z))(k:Z):D' Int:=(l.find? λp=>decide (p.1=k)).map (·.2)
def p7(l:J (Z×Z))(k v:Z):J (Z×Z):=if (l.any λp=>decide (p.1=k))=true then l.map (λp=>if p.1=k then (p.1,v) else p) else l++[(k,v)]
theorem Hl(l:J (Z×Z))(k:Z):mn (l.map λp=>((.inl p.1,V.int p.2):Key×V)) (.inl k)=(cJ l k).map V.int:=by
 unfold mn cJ
 induction l with
 |nil=>rfl
 |cons p r ih =>
  rw[P0,Qd,Qd];by_cases z:p.1=k
  .have h1:decide ((TU p.1:Key)=.inl k)=true:=O' (by rw[z]);dsimp[h1,O' z];rfl
  .have h1:decide ((TU p.1:Key)=.inl k)=false:=L' λq=>z (Vq q)
   dsimp[h1,L' z];exact ih
theorem JM(l:J (Z×Z))(k v:Z):putK (l.map λp=>((.inl p.1,V.int p.2):Key×V)) (.inl k) (.int v)=(p7 l k v).map λp=>(.inl p.1,V.int p.2):=by
 have ha:((l.map λp=>((.inl p.1,V.int p.2):Key×V)).any λa=>decide (a.1=.inl k))=l.any λp=>decide (p.1=k):=by
  rw[Y2];congr 1;funext p;by_cases z:p.1=k
  .simp[z]
  .have:¬ ((TU p.1:Key)=.inl k):=λq=>z (Vq q)
   simp[z,this]
 unfold putK p7;rw[ha];split
 .rw[Q8,Q8];refine Q3 λp _=>?_
  by_cases z:p.1=k
  .simp[z]
  .have:¬ ((TU p.1:Key)=.inl k):=λq=>z (Vq q)
   simp[z,this]
 .rw[Qm];rfl
section
variable {E:XK}{o e f i' value:Sq}{go ge gf:Ds->Rs L}{apos:Vp}
theorem JK:PD X E (.Dict [] [] pos) (gC (bT [])):=(xQ).imp λσ H Q ⟨A,δ,R,o⟩=>λp a=>o (.ref p) _ (bS a) (Ml (l:=[]) (by rw[aV (R.ls.new a)];exact aM))
def jv(go ge gf:Ds->Rs L):Ds->Rs PyData:=λδ=>(go δ).bind λd=>match nK d with
 |some l=>(ge δ).bind λk=>(gf δ).bind λz=>(match k,z with
  |.int k,.int z=>.ok (.int ((cJ l k).getD z))
  |_,_=>.no)
 |none=>.no
end
section
variable {E:XK}{o e f k value:Sq}{go ge gf gk gv:Ds->Rs L}{apos:Vp}
theorem Jh(q:X.A.units+1<cLine)(r:PD X E o go)(s:PD X E e ge)(w:PD X E f gf)(m:M2 X o "get" apos e f cpos):PD X E (.Call (.Attribute o "get" apos) [e,f] [] cpos) (jv go ge gf) :=
 (GD q r s w m).imp λσ H Q i=>by
  obtain⟨A,δ,R,b⟩:=i;unfold jv at b;refine eD.run R (λd x v H1 j y h1=>?_) (λC c H' s'=>?_) (λc=>?_)
  .dsimp[x,Rs.ag]at b;split at b
   .rename_i l hl;rw[sQ hl]at h1;obtain⟨a,rfl,ha⟩:=h1.ofDic;have g:H1 a=Y (dkO l):=aB _ _ ha;refine⟨a,rfl,.inl ⟨_,.inl g⟩,?_⟩;refine eD.run y (λkd B u H2 s2 R2 n=>?_) (λC c H' s'=>?_) (λc=>?_)
    .dsimp[B,Rs.ag]at b;refine eD.run R2 (λzd D z F p R3 G=>?_) (λC c H' s'=>?_) (λc=>?_)
     .dsimp[D,Rs.ag]at b;split at b
      .rename_i h zz;have e1:=n.ofInt;have e2:=G.ofInt;subst e1 e2;refine⟨_,uo.k (k:=.inl h) (p _ _ (s2 _ _ g)),?_⟩;rw[Hl];have:((cJ l h).map V.int).getD (.int zz)=.int ((cJ l h).getD zz):=by cases cJ l h <;> rfl
       rw[this];exact b _ F (j.trans (s2.trans p)) bN
      .exact b.elim
     .dsimp[c,Rs.eZ]at b;exact b H' (j.trans (s2.trans s'))
     .dsimp[c,Rs.bH]at b;exact b
    .dsimp[c,Rs.eZ]at b;exact b H' (j.trans s')
    .dsimp[c,Rs.bH]at b;exact b
   .exact b.elim
  .dsimp[c,Rs.eZ]at b;exact b H' s'
  .dsimp[c,Rs.bH]at b;exact b
def qC(i:O):Ds->Sr:=λδ=>if i<δ.length then .nx (δ.set i (Y (bT []))) else .no
theorem G2(c:X.N.Nodup)(e:i∈D2)(hi:X.N[i]?=Y x)(f:Loc X.env.scope x)(g:swapsWith (.Dict [] [] pos') (Y (.Name x apos)) pos.line X.env=pure false)
  (h:X.fn x=true\/X.env.scope.names.lookup x=Y .local):PSD X E D2 (.Assign [.Name x apos] (.Dict [] [] pos') pos) (qC i):=(oV c hi f xQ g h).imp λD σ H a=>by
 obtain⟨H0,A0,A,δ,R,o⟩:=a;unfold qC at o;split at o
 .rename_i hl;intro p b;exact o (p::A) _ _ (R.setOwnO (o:=dkO []) e hl b (bS b) aM rfl (.inl ⟨[],rfl,rfl⟩))
 .exact o.elim
def nh(i:O)(gk gv:Ds->Rs L):Ds->Sr:=λδ=>match δ[i]? with
 |some (Y d)=>(match nK d with
  |some l=>ofR (gv δ) λv=>ofR (gk δ) λk=>(match k,v with
   |.int k,.int v=>if l.length<1000000 then .nx (δ.set i (Y (bT (p7 l k v)))) else .no
   |_,_=>.no)
  |none=>.no)
 |_=>.no
theorem FD(F:X.A.units+1<cLine)(h:PD X E value gv)(G:PD X E k gk)(y:i∈D2)(hi:X.N[i]?=Y x)(hv:Vis X.env.scope x)
  (hd:(x==("__debug__":M'))=false) (f:(x==("__classdict__":M'))=false) (I:swapsWith value (Y (.Subscript (.Name x pn) k pos')) pos.line X.env=pure false):PSD X E D2 (.Assign [.Subscript (.Name x pn) k pos'] value pos) (nh i gk gv) :=
 (B3 F (ku hi hv hd f) G h I).imp λD σ H g=>by
  obtain⟨H0,A0,A,δ,R,a⟩:=g;unfold nh at a;split at a
  .rename_i d q;split at a
   .rename_i l hl;rw[sQ hl]at q;obtain⟨p,o',d',e1,Bk,j,e2,n⟩:=R.own i _ y q;subst e2;have r:o'=dkO l:=by
     have n:JE _ o':=n;rcases n with⟨m,b,rfl⟩|⟨m,b,_⟩|⟨m,_,b,_⟩
     .rw[sF b];rfl
     .cases l <;> cases b
     .cases l <;> cases b
    subst r;refine eD.run R.full (λvd K v H1 z B' s=>?_) (λC c H' s'=>?_) (λc=>?_)
    .dsimp[K,aw]at a;refine⟨_,e1,?_⟩;refine eD.run B' (λkd M u H2 s2 R2 w=>?_) (λC c H' s'=>?_) (λc=>?_)
     .dsimp[M,aw]at a;split at a
      .rename_i B P;split at a
       .rename_i x9;have b:=w.ofInt;have Q:=s.ofInt;subst b Q;have e:=z.trans s2;refine⟨p,_,rfl,zB.k (k:=.inl B) (e _ _ j) (by rw[P6,SA];omega),?_⟩;rw[JM];exact a A _ _ ((R.step e).putO (o:=dkO (p7 l B P)) y q e1 Bk rfl (.inl ⟨_,rfl,rfl⟩))
       .exact a.elim
      .exact a.elim
     .dsimp[c,kl]at a;exact a H' (R.same.trans (z.trans s'))
     .dsimp[c,kj]at a;exact a
    .dsimp[c,kl]at a;exact a H' (R.same.trans s')
    .dsimp[c,kj]at a;exact a
   .exact a.elim
  .exact a.elim
end
theorem cH.u1{k:O}{A:Ss}(r:cH k A):A.units+1<cLine:=by have:=r.un;omega
def Ld(b N:J M')(p:M')(cap:J O)(a sc:UT):R0 :=
 (sc.kind==.function)&&!sc.isCoroutine&&!sc.isGenerator&&decide N.Nodup&&decide (N.take 1=[p])&&(sc.names.lookup p==Y .local)&&sc.names.all (λx=>x.2 != .cell) &&
 sc.names.all (λy=>y.2 != .free||a.names.lookup y.1==Y .cell)&&decide (N.length=1+cap.length) &&
 (LN cap.length).all (λi=>match N[1+i]?,cap[i]? with
  |some x,Y m=>(b[m]?==Y x)&&(sc.names.lookup x==Y .free)&&(a.names.lookup x==Y .cell)
  |_,_=>false)
theorem qr{α:Type}{x:M'}{k:α}:∀{l:J (M'×α)},l.lookup x=Y k->(x,k)∈l
 |[],h=>by cases h
 |(y,j)::r,h=>by
  rw[Qj]at h;cases q:(x==y) with
  |true=>rw[q]at h;cases h;rw[eq_of_beq q];exact P7
  |false=>rw[q]at h;exact P4 _ (qr h)
theorem rE{e:J M'}{b:UT}{A:Ss}{E:XK}
  {D:XK} {a:Sq} {n I:Vp} {Bk:HL} {k:O} {p:M'}
  (hm:mg "min"=S) (B':cH (k+2) (d8 CX P w K mg base e qual b f cd A outer s H E).A) (ha:PD (d8 CX P w K mg base e qual b f cd A outer s H E) D a ga) (T:Ia (d8 CX P w K mg base e qual b f cd A outer s H E) c Bk)
  (l:∀(q c':HL)(s':K')(H':Hp),PD (vM (CXW P w) P w K mg base N ((d8 CX P w K mg base e qual b f cd A outer s H E).env.qual++"<lambda>") scope q (.ref c') (pP scope.names (d8 CX P w K mg base e qual b f cd A outer s H E).env.cells []) (d8 CX P w K mg base e qual b f cd A outer s H E).A.in1 (d8 CX P w K mg base e qual b f cd A outer s H E).stack s' H' E0) E0 body gb)
  (hok:Ld e N p cap b scope=true:=by decide +kernel)
  (M:∀(q:M')(cl:J (M'×HL))(c':HL)(pm v u:F'),bindArgs (Xz "<lambda>" q params body scope cl pm (.ref c') v) ⟨[u],[]⟩=pure ([p].zip [u]):=by intro _ _ _ _ _ _;rfl)
  (D2:Gl (d8 CX P w K mg base e qual b f cd A outer s H E) "min":=by rfl) (Q:starEach [a] (d8 CX P w K mg base e qual b f cd A outer s H E).env=[(false,eval a (d8 CX P w K mg base e qual b f cd A outer s H E).env)]:=by rfl) (o:defaultsOf params (d8 CX P w K mg base e qual b f cd A outer s H E).env=([],[]):=by rfl) :
  PD (d8 CX P w K mg base e qual b f cd A outer s H E) D (.Call (.Name "min" I) [a] [⟨Y "key",.Lambda params body scope n,kp⟩] pos) (kL cap ga gb):=by
 unfold Ld at hok;dsimp[P9,Q6,L3,TB,bne_iff_ne,Vl,Sd]at hok;obtain⟨⟨⟨⟨⟨⟨⟨⟨⟨R,D1⟩,U⟩,X⟩,A2⟩,A4⟩,o7⟩,F⟩,o9⟩,B⟩:=hok;have g:∀x,b.names.lookup x=Y .cell->∃c,(d8 CX P w K mg base e qual b f cd A outer s H E).env.cells.lookup x=Y c:=λx r=>rW r
 refine D5 (cap:=cap) rfl hm B' ha T (kR λy hy hf=>?_) ⟨R,D1,U,X,A2,λx r=>by rw[PV.mp r];exact A4,o7⟩ (λx c h=>rJ _ _ _ x c (λ_ _ z=>by cases z) h) (λx r=>?_) o9 (λi m x h1 h2=>?_) (M _ _) (λq c' s' H'=>l q c' s' H') D2 Q o
 .rcases F y hy with z|z
  .exact So hf z
  .exact g y.1 z
 .have j:=qr r;rcases F (x,.free) j with z|z
  .cases z rfl
  .obtain⟨c,hc⟩:=g x z;exact nC _ _ _ x c j hc
 .have C:i<cap.length:=(Qa.mp h2).1;have:=B i (Ra.mpr C);rw[h1,h2]at this;dsimp[P9,TB]at this;obtain⟨⟨q1,q2⟩,G⟩:=this;exact⟨q1,q2,.inl G,.inr (.inl G)⟩
end L2
namespace RS
open PySem
set_option genInjectivity true in
structure Er where
 every:Z
 due:Z
 late:Z
 parts:J (Z×D' Z)
noncomputable def aW:D' Z->L
 |none=>.none
 |some i=>.int i
def aN(p:Z×D' Z):PyData:=.tuple [.int p.1,aW p.2]
def Er.d(e:Er):PyData:=.tuple [.int e.every,.int e.due,.int e.late,.tuple (e.parts.map aN)]
def ar(es:J Er):PyData:=.tuple (es.map Er.d)
noncomputable def isWhole(d:L)(lo hi:Z):Bool:=match d with
 |.int i=>decide (lo<=i)&&decide (i<=hi)
 |_=>false
def cx(d:L)(lo hi:Z):Bool:=match d with
 |.tuple ds=>decide (lo<=(ds.length:Z))&&decide ((ds.length:Z)<=hi)
 |_=>false
def dP(d:L):Bool:=match d with
 |.tuple [a,b]=>isWhole a 1 20&&(match b with|.none=>true|b=>isWhole b 0 3)
 |_=>false
def jX(ds:J L):Bool:=match ds.getLast? with
 |some (.tuple [_,.none])=>true
 |_=>false
def fg(d:L):Bool:=match d with
 |.tuple ds=>decide (1<=ds.length)&&decide (ds.length<=4)&&ds.all dP&&jX ds
 |_=>false
def bY(d:L):Bool:=match d with
 |.tuple [.int e,du,.int l,ps]=>decide (2<=e)&&decide (e<=60)&&(decide (0<=l)&&decide (l<=(if e-1<20 then e-1 else 20)))&&isWhole du 1 (e-l)&&fg ps
 |_=>false
def ee(d:L):Bool:=match d with
 |.tuple ds=>decide (1<=ds.length)&&decide (ds.length<=6)&&ds.all bY
 |_=>false
structure Er.Ok(e:Er):Prop where
 e1:2<=e.every
 e2:e.every<=60
 l1:0<=e.late
 l2:e.late<=20
 l3:e.late<e.every
 d1:1<=e.due
 d2:e.due<=e.every-e.late
 p1:e.parts≠[]
 p2:e.parts.length<=4
 pl:∀p∈e.parts,1<=p.1/\p.1<=20/\∀t,p.2=Y t->0<=t/\t<=3
 la:∀p,e.parts.getLast?=Y p->p.2=S
theorem Ej{p:Z×D' Z}(h1:1<=p.1)(h2:p.1<=20)(h3:∀t,p.2=Y t->0<=t/\t<=3):dP (aN p)=true:=by
 obtain⟨l,t⟩:=p;cases t with
 |none=>simp[dP,aN,aW,isWhole,h1,h2]
 |some t =>obtain⟨a,b⟩:=h3 t rfl;simp[dP,aN,aW,isWhole,h1,h2,a,b]
theorem zu{e:Er}(h:e.Ok):bY e.d=true:=by
 have f:(e.parts.map aN).all dP=true:=by rw[Q6];intro d hd;obtain⟨p,f,rfl⟩:=PQ.mp hd;obtain⟨a,b,c⟩:=h.pl p f;exact Ej a b c
 have hl:jX (e.parts.map aN)=true:=by
  unfold jX;rw[RQ];cases q:e.parts.getLast? with
  |none=>exact So (UR.mp q) h.p1
  |some p =>obtain⟨l,t⟩:=p;have:t=none:=h.la _ q;subst this;rfl
 have hn:1<=e.parts.length:=by
  cases q:e.parts with
  |nil=>exact So q h.p1
  |cons _ _=>simp
 have h1:=h.e1;have h2:=h.e2;have h3:=h.l1;have h4:=h.l2;have h5:=h.l3;have i:=h.d1;have j:=h.d2;have m:=h.p2;have g:e.late<=if e.every-1<20 then e.every-1 else 20:=by split <;> omega
 simp[bY,Er.d,fg,isWhole,f,hl,hn,h1,h2,h3,i,j,m,g]
theorem oU{es:J Er}(h1:1<=es.length)(h2:es.length<=6)(h:∀e∈es,e.Ok):ee (ar es)=true:=by
 have a:(es.map Er.d).all bY=true:=by rw[Q6];intro d hd;obtain⟨e,b,rfl⟩:=PQ.mp hd;exact zu (h e b)
 simp[ee,ar,h1,h2,a]
noncomputable def cellAt(ns:J Z)(k:Z):Z :=
 if k<(ns.length:Z) then ns.getD k.toNat 0 else if ns=[] then 0 else ns.getD (k % (ns.length:Z)).toNat 0*31+k
def Dw(ns:J Z)(k:Z):Int:=(cellAt ns k+7919*k+1)*48271 % 2147483647
def mixed(ns:J Z)(k y1:Z):Int:=(Dw ns k*Dw ns k+7*Dw ns k+k) % 2147483629 % y1
theorem IE(ns:J Z)(k:Z):0<=Dw ns k:=QM _ #[1]
theorem KJ(ns:J Z)(k:Z):Dw ns k<2147483647:=Rb _ #[1]
theorem dm(ns:J Z)(k:Z)(h:0<y1):0<=mixed ns k y1:=QM _ ⋯
theorem dS(ns:J Z)(k:Z)(h:0<y1):mixed ns k y1<y1:=Rb _ h
def mD(i:Z):D' Int:=if i=0 then Y 0 else if i=1 then Y 1 else if i=2 then Y 1 else if i=3 then Y 0 else S
def fP(ns:J Z)(j:Z)(a:R0):Z×D' Int:=(1+mixed ns j 40 % 4,if a then mD (mixed ns j 40 / 4 % 5) else S)
def jK(ns:J Z)(at' every:Z):Z :=
 if every-1<mixed ns (at' + 1) 4*(if mixed ns (at' + 2) 3=0 then 1 else 0) then every-1 else mixed ns (at' + 1) 4*(if mixed ns (at' + 2) 3=0 then 1 else 0)
def qG(ns:J Z)(at' a:Z):Int:=if mixed ns (at' + 1) 3=0 then a-mixed ns (at' + 2) a else a
def mkE(ns:J Z)(at' top:Z)(a:R0):Er where
 every:=3+mixed ns at' top
 late:=jK ns at' (3+mixed ns at' top)
 due:=qG ns at' (3+mixed ns at' top-jK ns at' (3+mixed ns at' top))
 parts:=((LN (mixed ns (at' + 3) 3).toNat).map λ(k:O)=>fP ns (at' + 4+(k:Z)) a)++[(1+mixed ns (at' + 6) 3,S)]
def sX(ns:J Z)(at' most top:Z)(a:R0):J Er:=(LN (1+mixed ns at' most).toNat).map λ(k:O)=>mkE ns (at' + 1+7*(k:Z)) top a
theorem zR(ns:J Z)(at' every:Z)(h:3<=every):0<=jK ns at' every/\jK ns at' every<=3/\jK ns at' every<every:=by
 have h1:=dm ns (at' + 1) (y1:=4) #[1];have h2:=dS ns (at' + 1) (y1:=4) #[1];unfold jK;generalize mixed ns (at' + 1) 4=x at *;by_cases hc:mixed ns (at' + 2) 3=0
 .dsimp[hc,Sn,Ye];split <;> omega
 .dsimp[hc,SK,Z.mul_zero];split <;> omega
theorem JQ(ns:J Z)(at' a:Z)(h:1<=a):1<=qG ns at' a/\qG ns at' a<=a:=by have h1:=dm ns (at' + 2) (y1:=a) ⋯;have h2:=dS ns (at' + 2) (y1:=a) ⋯;unfold qG;split <;> omega
theorem Iw(i t:Z)(h:mD i=Y t):0<=t/\t<=1:=by
 unfold mD at h
 repeat' split at h
 all_goals (first|(cases h;decide)|cases h)
theorem ET(ns:J Z)(j:Z)(a:R0):1<=(fP ns j a).1/\(fP ns j a).1<=4/\∀t,(fP ns j a).2=Y t->0<=t/\t<=1:=by
 have h1:0<=mixed ns j 40 % 4:=QM _ #[1];have h2:mixed ns j 40 % 4<4:=Rb _ #[1];refine⟨by unfold fP;simp only;omega,by unfold fP;simp only;omega,λt h=>?_⟩;unfold fP at h;simp only at h;cases a with
 |false=>simp at h
 |true=>simp at h;exact Iw _ _ h
theorem MS(ns:J Z)(at' top:Z)(a:R0)(h1:0<top)(h2:top<=58):(mkE ns at' top a).Ok:=by
 have a1:=dm ns at' h1;have a2:=dS ns at' h1;have l:=zR ns at' (3+mixed ns at' top) ⋯;have d:=JQ ns at' (3+mixed ns at' top-jK ns at' (3+mixed ns at' top)) ⋯;have n1:=dm ns (at' + 3) (y1:=3) #[1];have n2:=dS ns (at' + 3) (y1:=3) #[1];have n3:=dm ns (at' + 6) (y1:=3) #[1];have n4:=dS ns (at' + 6) (y1:=3) #[1];refine⟨?_,?_,l.1,?_,l.2.2,d.1,d.2,?_,?_,?_,?_⟩
 .show 2<=3+mixed ns at' top;omega
 .show 3+mixed ns at' top<=60;omega
 .have:=l.2.1;show jK ns at' (3+mixed ns at' top)<=20;omega
 .simp[mkE]
 .dsimp[mkE,PU,P6,RO,Qr];omega
 .intro p b;dsimp[mkE,Ql,PQ,PV]at b;rcases b with⟨k,_,rfl⟩|rfl
  .have:=ET ns (at' + 4+(k:Z)) a;refine⟨this.1,⋯,λt c=>?_⟩;have:=this.2.2 t c;omega
  .exact⟨by simp only;omega,by simp only;omega,λt c=>by cases c⟩
 .intro p b;dsimp[mkE,J.getLast?_append,J.getLast?_singleton,D'.some_or]at b;cases b;rfl
theorem GH(ns:J Z)(at' most top:Z)(a:R0)(h:0<most):1<=(sX ns at' most top a).length/\((sX ns at' most top a).length:Z)<=most:=by have h1:=dm ns at' h;have h2:=dS ns at' h;dsimp[sX,P6,RO];omega
theorem J8(ns:J Z)(at' most top:Z)(a:R0)(h1:0<top)(h2:top<=58):∀e∈sX ns at' most top a,e.Ok:=by intro e b;dsimp[sX,PQ]at b;obtain⟨k,_,rfl⟩:=b;exact MS _ _ _ _ h1 h2
end RS
variable {e:RS.Er}{es:J RS.Er}
namespace RS
open PySem L2
structure Cs where
 RankError:HL
 NoErrands:HL
 NoRanks:HL
 NoComings:HL
 NoErrand:HL
 NoNumber:HL
 TooLong:HL
 NoText:HL
 Holding:HL
 Jobs:HL
abbrev Gf:=J L->Rs L
def bA(K:N')(mg:M'->D' F')(x:M')(st:Ur)(ps:J M'):Prop:=∃f fd,Fun K x x st f fd/\Binds K fd ps []/\mg x=Y (.ref f)
def kz(cs:Cs):Ds->Sr :=
 (az (sIf (cOr (iT (gT (g1 (mY "int") (ae 0)))) (gT (g1 (mY "bool") (ae 0)))) (bq (gC (.bool false))) ba)
  (bq (pj dLe dLe (ae 1) (ae 0) (ae 2))))
def ki(cs:Cs):Ds->Sr :=
 (bq (DJ (g1 (mY "tuple") (ae 0)) (pj dLe dLe (ae 1) (gF cp #[0,0]) (ae 2))))
def iX(cs:Cs)(aT bo:Gf):Ds->Sr :=
 (az (sIf (cOr (iT (gT (ao bo #[0,0,↑2,↑2]))) (iT (gT (ao aT #[0,g2 dIx (ae 0) ↑0,↑1,↑20])))) (bq (gC (.bool false))) ba)
  (bq (gOr (g1 p8 (g2 dIx (ae 0) ↑1)) (ao aT #[0,g2 dIx (ae 0) ↑1,↑0,g2 cK ↑4 ↑1]))))
def ik(cs:Cs)(bo a:Gf):Ds->Sr :=
 (az (sIf (cOr (iT (gT (ao bo #[0,0,↑1,↑4]))) (iT (gT (gF qN #[0,gL (a9 1 (br (ae 0)) bF (ao a #[0,1]) aL)])))) (bq (gC (.bool false))) ba)
  (bq (g1 p8 (g2 dIx (g2 dIx (ae 0) (g1 lq ↑1)) ↑1))))
def fm(cs:Cs)(aT a bo:Gf):Ds->Sr :=
 (az (sIf (iT (gT (ao bo #[0,0,↑4,↑4]))) (bq (gC (.bool false))) ba)
  (az (aJ [] 1 (g2 dIx (ae 0) ↑0))
  (az (aJ [] 2 (g2 dIx (ae 0) ↑1))
  (az (aJ [] 3 (g2 dIx (ae 0) ↑2))
  (az (sIf (iT (gT (ao aT #[0,1,↑2,↑60]))) (bq (gC (.bool false))) ba)
  (az (sIf (iT (gT (ao aT #[0,3,↑0,gF j9 #[0,↑20,g2 cK (ae 1) ↑1]]))) (bq (gC (.bool false))) ba)
  (bq (DJ (ao aT #[0,2,↑1,g2 cK (ae 1) (ae 3)]) (ao a #[0,g2 dIx (ae 0) ↑3])))))))))
def jU(cs:Cs)(bo a:Gf):Ds->Sr :=
 (az (sIf (cOr (iT (gT (ao bo #[0,0,↑1,↑6]))) (iT (gT (gF qN #[0,gL (a9 1 (br (ae 0)) bF (ao a #[0,1]) aL)])))) (kq cs.NoErrands #[0,gC (.str "errands are a tuple of 1 to 6 errands (every, due, late, parts)")]) ba)
  (bq (ae 0)))
def df(cs:Cs)(bo aT:Gf):Ds->Sr :=
 (az (aJ [] 2 (g2 cK (gF cp #[0,0]) ↑1))
  (az (sIf (cOr (iT (gT (ao bo #[0,1,gF cp #[0,0],gF cp #[0,0]]))) (iT (gT (gF qN #[0,gL (a9 3 (br (ae 1)) bF (ao aT #[0,3,↑0,2]) aL)])))) (kq cs.NoRanks #[0,gC (.str "ranks are a tuple of the numbers of all errands")]) ba)
  (az (sIf (gT (g2 dLt (gF nJ #[0,1]) (gF cp #[0,1]))) (kq cs.NoRanks #[0,gC (.str "ranks have each errand's number once")]) ba)
  (bq (ae 1)))))
def fF(cs:Cs)(aT:Gf):Ds->Sr :=
 (az (sIf (iT (gT (ao aT #[0,1,↑0,g2 cK (gF cp #[0,0]) ↑1]))) (kq cs.NoErrand #[0,gC (.str "no errand has this number")]) ba)
  (bq (ae 1)))
def ic(cs:Cs)(bL bg bD:Gf):Ds->Sr :=
 (az (lp (ao bD #[0,0]))
  (az (lp (ao bg #[0,0,1]))
  (lp (ao bL #[0,0,2]))))
def vk(cs:Cs):Ds->Sr :=
 (bq (gF Di #[0,gL (a9 1 (br (g2 dIx (ae 0) ↑3)) bF (g2 dIx (ae 1) ↑0) aL)]))
def kI(cs:Cs):Ds->Sr :=
 (bq (g2 (Ig false) (ae 1) (gL (a9 2 (br (g2 dIx (ae 0) ↑3)) bF (g2 dIx (ae 2) ↑1) aL))))
def oA(cs:Cs)(cQ:Gf):Ds->Sr :=
 (az (cY [] (gU #[0,1]) (cO [3,4]) (sIf (gT (ao cQ #[0,g2 dIx (ae 0) (ae 4),2])) (bq (ae 3)) ba))
  (bq (gC .none)))
def iQ(cs:Cs)(eS:Gf):Ds->Sr :=
 (bq (gL (a9 2 (fK #[0,↑4]) bF (ao eS #[0,0,1,2]) aL)))
def kJ(cs:Cs)(aY:Gf):Ds->Sr :=
 (az (aJ [5] 3 (kY (ae 1) (ae 2)))
  (az (aJ [5] 4 (ao aY #[0,0,1]))
  (az (ff [5] 5 ah)
  (az (cY [5] (br (eV (ae 1) (gP (g2 aP (ae 3) ↑1)) dk)) (aU 6) (cY [5] (gU #[0,g2 dIx (g2 dIx (ae 0) (ae 6)) ↑3]) (cO [7,8]) (sIf (jh (gT (g1 cV (g2 dIx (ae 8) ↑1))) (gT (g2 dLe (g2 dIx (ae 4) (g2 dIx (ae 8) ↑1)) (ae 3)))) (iO [5] 5 (ao (vX cs.Holding ["number", "part", "tool", "times"]) #[0,6,7,g2 dIx (ae 8) ↑1,g2 cK (g2 dIx (ae 8) ↑0) ↑1])) ba)))
  (bq (ae 5))))))
def gp(cs:Cs)(bR:Gf):Ds->Sr :=
 (bq (g2 yL (gL (a9 3 (br (ao bR #[0,0,1,2])) bF (g1 (bf cs.Holding "times") (ae 3)) aL)) ↑0))
def iM(cs:Cs):Ds->Sr :=
 (bq (g2 jq (g2 cK (g2 aP (ae 0) (ae 1)) ↑1) (ae 1)))
def wB(cs:Cs)(a bZ:Gf):Ds->Sr :=
 (az (aJ [] 5 (g2 aP (ae 3) (ao a #[0,g2 dIx (ae 0) (ae 2)])))
  (az (cY [] (br (eV (ae 1) dk (gP (kY (ae 1) (ae 2))))) (aU 6) (az (aJ [] 7 (g2 dIx (ae 0) (ae 6)))
  (A9 [] 5 (g2 fB (ao a #[0,7]) (ao bZ #[0,g2 aP (ae 4) (g2 dIx (ae 7) ↑2),g2 dIx (ae 7) ↑0])))))
  (bq (ae 5))))
def jF(cs:Cs)(dJ:Gf):Ds->Sr :=
 (az (aJ [5] 4 (g2 cK (g2 dIx (g2 dIx (ae 0) (ae 2)) ↑0) (g2 dIx (g2 dIx (ae 0) (ae 2)) ↑2)))
  (az (ff [5] 5 ah)
  (az (aJ [5] 6 (ao dJ #[0,0,1,2,3,↑1]))
  (az (λδ=>b8 (gT (g2 dLe (ae 6) (ae 4))) (az (iO [5] 5 (ae 6))
  (az (aJ [5] 7 (ao dJ #[0,0,1,2,3,6]))
  (az (sIf (gT (g2 dEq (ae 7) (ae 6))) (bq (ae 5)) ba)
  (aJ [5] 6 (ae 7))))) 1000000 δ)
  (bq (gC .none))))))
def gG(cs:Cs)(dh:Gf):Ds->Sr :=
 (az (aJ [] 4 (ao dh #[0,0,1,2,3]))
  (bq (gIf (gT (g1 p8 (ae 4))) (gC .none) (g2 dIx (ae 4) (g1 lq ↑1)))))
def fe(cs:Cs)(cm bI:Gf):Ds->Sr :=
 (bq (ao bI #[0,0,1,2,ao cm #[0,0,1,2]]))
def lX(cs:Cs)(bP bx:Gf):Ds->Sr :=
 (az (lp (ao bx #[0,0,1,2]))
  (bq (ao bP #[0,0,1,2])))
def iR(cs:Cs)(ak:Gf):Ds->Sr :=
 (az (aJ [7] 4 (g2 aP ↑3 (ao ak #[0,0,1,2])))
  (az (aJ [7] 5 (g2 fB (ao ak #[0,0,g2 aP (ae 1) ↑1,↑4]) (gF Al #[0,g2 dEq (ao ak #[0,0,g2 aP (ae 1) ↑2,↑3]) ↑0])))
  (az (aJ [7] 5 (gF j9 #[0,5,g2 cK (ae 4) ↑1]))
  (az (aJ [7] 6 (g2 cK (ae 4) (ae 5)))
  (az (sIf (gT (g2 dEq (ao ak #[0,0,g2 aP (ae 1) ↑1,↑3]) ↑0)) (aJ [7] 6 (g2 cK (ae 6) (ao ak #[0,0,g2 aP (ae 1) ↑2,6]))) ba)
  (az (ff [7] 7 ah)
  (az (cY [7] (fK #[0,ao ak #[0,0,g2 aP (ae 1) ↑3,↑3]]) (aU 8) (az (aJ [7] 9 (ao ak #[0,0,g2 aP (g2 aP (ae 1) ↑4) (ae 8),↑40]))
  (az (iO [7] 7 (f9 #[0,g2 aP ↑1 (g2 fE (ae 9) ↑4),g2 dIx (g9 #[0,↑0,↑1,↑1,↑0,gC .none]) (g2 fE (g2 jq (ae 9) ↑4) ↑5)]))
  (sIf (iT (gT (ae 3))) (uE 7 (g1 lq ↑1) (f9 #[0,g2 dIx (g2 dIx (ae 7) (g1 lq ↑1)) ↑0,gC .none])) ba))))
  (bq (f9 #[0,4,6,5,gF lU #[0,g2 aP (ae 7) (g9 #[0,f9 #[0,g2 aP ↑1 (ao ak #[0,0,g2 aP (ae 1) ↑6,↑3]),gC .none]])]])))))))))
def ie(cs:Cs)(cy ak:Gf):Ds->Sr :=
 (az (aJ [] 5 (g2 aP ↑1 (ao ak #[0,0,1,2])))
  (bq (gF lU #[0,gL (a9 6 (fK #[0,5]) bF (ao cy #[0,0,g2 aP (g2 aP (ae 1) ↑1) (g2 fB ↑7 (ae 6)),3,4]) aL)])))
def jx(cs:Cs)(ak:Gf):Ds->Sr :=
 (az (ff [3,4] 3 (gLR #[0,2]))
  (az (ff [3,4] 4 ah)
  (az (cY [3,4] (fK #[0,2]) (aU 5) (ko 4 3 (ao ak #[0,0,g2 aP (ae 1) (ae 5),gF cp #[0,3]])))
  (bq (gF lU #[0,4])))))
def ib(cs:Cs):Ds->Sr :=
 (az (ff [2] 2 #[0,gC .none,gC .none,gC .none,gC .none])
  (az (cY [2] (B7 #[0,g2 cK (gF cp #[0,1]) ↑1,g1 lq ↑1,g1 lq ↑1]) (aU 3) (cY [2] (br (g2 dIx (g2 dIx (ae 0) (g2 dIx (ae 1) (ae 3))) ↑3)) (cO [4,5]) (sIf (gT (g1 cV (ae 5))) (uE 2 (ae 5) (ae 3)) ba)))
  (bq (ae 2))))
def kN(cs:Cs)(aI:Gf):Ds->Sr :=
 (az (aJ [] 3 (kY (ae 1) (ae 2)))
  (az (aJ [] 4 (ao aI #[0,0,1]))
  (az (aJ [] 5 ↑0)
  (az (cY [] (br (eV (ae 1) (gP (g2 aP (ae 3) ↑1)) dk)) (aU 6) (cY [] (br (g2 dIx (g2 dIx (ae 0) (ae 6)) ↑3)) (cO [7,8]) (sIf (jh (gT (g1 cV (ae 8))) (gT (g2 dLe (g2 dIx (ae 4) (ae 8)) (ae 3)))) (aJ [] 5 (gF fV #[0,5,g2 cK (ae 7) ↑1])) ba)))
  (bq (ae 5))))))
def m8(cs:Cs):Ds->Sr :=
 (bq (gF Di #[0,gL (a9 1 (br (g2 dIx (ae 0) ↑3)) bF (g2 dIx (ae 1) ↑0) aL)]))
def kM(cs:Cs)(bw bB:Gf):Ds->Sr :=
 (az (aJ [] 4 (g2 aP (ao bB #[0,0,1,2]) (ao bw #[0,g2 dIx (ae 0) (ae 2)])))
  (az (cY [] (br (eV (ae 1) dk (gP (kY (ae 1) (ae 2))))) (aU 5) (az (AS [] (cO [6,7,8,9]) (g2 dIx (ae 0) (ae 5)))
  (az (aJ [] 10 (g2 aP (g2 jq (g2 aP (ae 3) (ae 8)) (ae 6)) (gF Al #[0,g2 dGt (g2 fE (g2 aP (ae 3) (ae 8)) (ae 6)) ↑0])))
  (aJ [] 4 (g2 aP (ae 4) (g2 fB (ae 10) (ao bw #[0,g2 dIx (ae 0) (ae 5)])))))))
  (bq (ae 4))))
end RS
set_option maxHeartbeats 1000000
variable {cs:RS.Cs}
namespace RS
open PySem L2
variable {g:L->R0}{b a:Z}{xs:J L}
theorem Ko(h:i∉D2):(mask D2 δ)[i]?=δ[i]?:=by
 unfold mask;by_cases z:D2=[]
 .rw[FC z]
 .rw[GC z,Rj];cases δ[i]? with
  |none=>rfl
  |some d=>simp[h]
theorem aC(h:i∉D2):ae i (mask D2 δ)=ae i δ:=by unfold ae;rw[Ko h]
@[simp]theorem aq(d:L)(δ:Ds):ae 0 (Y d::δ)=.ok d:=rfl
@[simp]theorem av(i:O)(x:D' L)(δ:Ds):ae (i+1) (x::δ)=ae i δ:=rfl
@[simp]theorem cA(d:L)(δ:Ds):gC d δ=.ok d:=rfl
@[simp]theorem iE(f:L->D' L)(a:Ds->Rs L)(δ:Ds):g1 f a δ=(a δ).bind λx=>Rs.eu (f x):=rfl
@[simp]theorem bQ(f:L->L->D' L)(a b:Ds->Rs L)(δ:Ds):g2 f a b δ=(a δ).bind λx=>(b δ).bind λy=>Rs.eu (f x y):=rfl
@[simp]theorem gN(f:J L->D' L)(a:Ds->Rs (J L))(δ:Ds):gF f a δ=(a δ).bind λx=>Rs.eu (f x):=rfl
@[simp]theorem aF(δ:Ds):ah δ=.ok []:=rfl
@[simp]theorem ay(a:Ds->Rs L)(r:Ds->Rs (J L))(δ:Ds):af a r δ=(a δ).bind λx=>(r δ).bind λxs=>.ok (x::xs):=rfl
@[simp]theorem mU(a:Ds->Rs (J L))(δ:Ds):f9 a δ=(a δ).bind λds=>.ok (.tuple ds):=rfl
@[simp]theorem Ap(a:Ds->Rs (J L))(δ:Ds):g9 a δ=(a δ).bind λds=>.ok (.list ds):=rfl
@[simp]theorem bp(f:Gf)(a:Ds->Rs (J L))(δ:Ds):ao f a δ=(a δ).bind f:=rfl
@[simp]theorem fh(a:Ds->Rs L)(δ:Ds):gT a δ=(a δ).bind truth:=rfl
@[simp]theorem bO(b:R0):truth (.bool b)=.ok b:=rfl
@[simp]theorem wy(a:Ds->Rs R0)(δ:Ds):iT a δ=(a δ).bind λb=>.ok (!b):=rfl
@[simp]theorem rF(a b:Ds->Rs R0)(δ:Ds):jh a b δ=(a δ).bind λx=>if x=true then b δ else .ok false:=rfl
@[simp]theorem HS(a b:Ds->Rs R0)(δ:Ds):cOr a b δ=(a δ).bind λx=>if x=true then .ok true else b δ:=rfl
@[simp]theorem A1(a b:Ds->Rs L)(δ:Ds):DJ a b δ=(a δ).bind λx=>(truth x).bind λt=>if t=true then b δ else .ok (.bool false):=rfl
@[simp]theorem PB(a b:Ds->Rs L)(δ:Ds):gOr a b δ=(a δ).bind λx=>(truth x).bind λt=>if t=true then .ok (.bool true) else b δ:=rfl
@[simp]theorem O3(a:Ds->Rs L)(δ:Ds):O5 a δ=(a δ).bind λx=>(truth x).bind λt=>.ok (.bool (!t)):=rfl
@[simp]theorem mX(a:Ds->Rs (J L))(δ:Ds):gL a δ=(a δ).bind λds=>.ok (.list ds):=rfl
@[simp]theorem jl(a:Ds->Rs L)(δ:Ds):br a δ=(a δ).bind Cu:=rfl
@[simp]theorem Mb(ds:J L):Cu (.list ds)=.ok ds:=rfl
@[simp]theorem mM(ds:J L):Cu (.tuple ds)=.ok ds:=rfl
@[simp]theorem nF(a:Ds->Rs (J L))(δ:Ds):fK a δ=(a δ).bind E1:=rfl
@[simp]theorem Jp(a:Ds->Rs (J L))(δ:Ds):yl a δ=(a δ).bind Hg:=rfl
@[simp]theorem J7(a:Ds->Rs (J L))(δ:Ds):B7 a δ=(a δ).bind Fq:=rfl
@[simp]theorem NK(a:Ds->Rs (J L))(δ:Ds):gLR a δ=(a δ).bind xp:=rfl
@[simp]theorem C3(a:Ds->Rs (J L))(δ:Ds):gU a δ=(a δ).bind sL:=rfl
@[simp]theorem OX(ds:J L):sL [.list ds]=.ok (ix ds):=rfl
@[simp]theorem CP(ds:J L):sL [.tuple ds]=.ok (ix ds):=rfl
@[simp]theorem Od(f f':L->L->D' L)(a b c:Ds->Rs L)(δ:Ds):pj f f' a b c δ=(a δ).bind λx=>(b δ).bind λy=>(Rs.eu (f x y)).bind λz=>(truth z).bind λt=>if t=true then (c δ).bind λw=>Rs.eu (f' y w) else .ok (.bool false):=rfl
@[simp]theorem ke(δ:Ds):dk δ=.ok none:=rfl
@[simp]theorem oJ(g:Ds->Rs L)(δ:Ds):gP g δ=(g δ).bind Fi:=rfl
@[simp]theorem nQ(i:Z):Fi (.int i)=.ok (Y i):=rfl
@[simp]theorem lS(g:Ds->Rs L)(lo hi:Ds->Rs (D' Z))(δ:Ds):eV g lo hi δ=(g δ).bind λd=>(lo δ).bind λl=>(hi δ).bind λh=>Rs.eu (JO d l h):=rfl
@[simp]theorem Pa(x:J L)(lo hi:D' Z):JO (.list x) lo hi=↥(cutD x lo hi):=rfl
@[simp]theorem tq(x:J L)(lo hi:D' Z):JO (.tuple x) lo hi=Y (.tuple (cutD x lo hi)):=rfl
@[simp]theorem aQ(a b:Ds->Sr)(δ:Ds):az a b δ=match a δ with|.nx δ'=>b δ'|r=>r:=rfl
@[simp]theorem hZ(δ:Ds):ba δ=.nx δ:=rfl
@[simp]theorem dF(c:Ds->Rs R0)(a b:Ds->Sr)(δ:Ds):sIf c a b δ=ofR (c δ) λt=>if t=true then a δ else b δ:=rfl
@[simp]theorem bW(g:Ds->Rs L)(δ:Ds):bq g δ=ofR (g δ) .rt:=rfl
@[simp]theorem qT(g:Ds->Rs L)(δ:Ds):lp g δ=ofR (g δ) λ_=>.nx δ:=rfl
@[simp]theorem gH(i:O)(g:Ds->Rs L)(δ:Ds):aJ [] i g δ=if i<δ.length then ofR (g δ) λd=>.nx (δ.set i (Y d)) else .no:=by unfold aJ;rw[fL]
@[simp]theorem NS(C:HL)(gs:Ds->Rs (J L))(δ:Ds):kq C gs δ=ofR (gs δ) λ_=>.rz C:=rfl
theorem iB(D2:J O)(src:Ds->Rs (J L))(tgt:L->Ds->D' Ds)(body:Ds->Sr)(δ:Ds):cY D2 src tgt body δ=ofR (src (mask D2 δ)) λds=>forL tgt body ds δ:=rfl
@[simp]theorem a8(d:L):bc (.rt d)=.ok d:=rfl
@[simp]theorem NH(δ:Ds):bc (.nx δ)=.ok .none:=rfl
@[simp]theorem NF(C:HL):bc (.rz C)=.rz C:=rfl
@[simp]theorem NI:bc .no=.no:=rfl
@[simp]theorem dD(a b:Z):aP (.int a) (.int b)=⇑(a+b):=rfl
@[simp]theorem oF(a b:Z):cK (.int a) (.int b)=⇑(a-b):=rfl
@[simp]theorem tR(a b:Z):fE (.int a) (.int b)=if 0<b then ⇑(a % b) else none:=rfl
@[simp]theorem vt(a b:Z):jq (.int a) (.int b)=if 0<b/\b<1073741824 then ⇑(a / b) else none:=rfl
@[simp]theorem Nj(a b:Z):dLt (.int a) (.int b)=Y (.bool (decide (a<b))):=rfl
@[simp]theorem OA(a b:Z):dLe (.int a) (.int b)=Y (.bool (decide (a<=b))):=rfl
@[simp]theorem E5(a b:Z):dGt (.int a) (.int b)=Y (.bool (decide (b<a))):=rfl
@[simp]theorem PM(a b:Z):dGe (.int a) (.int b)=Y (.bool (decide (b<=a))):=rfl
@[simp]theorem Ge(a:Z):lq (.int a)=⇑(-a):=rfl
@[simp]theorem Gj(d:L):p8 d=Y (.bool (fN d)):=rfl
@[simp]theorem Pj(d:L):cV d=Y (.bool (!fN d)):=rfl
@[simp]theorem GY:fN .none=true:=rfl
@[simp]theorem Dp(i:Z):fN (.int i)=false:=rfl
@[simp]theorem mz(x:J L)(i:Z):dIx (.tuple x) (.int i)=atI x i:=rfl
@[simp]theorem HM(x:J L)(i:Z):dIx (.list x) (.int i)=atI x i:=rfl
@[simp]theorem BF(x:J L):cp [.tuple x]=⇑x.length:=rfl
@[simp]theorem mP(x:J L):cp [.list x]=⇑x.length:=rfl
@[simp]theorem A7(a b:Z):j9 [.int a,.int b]=⇑(if b<a then b else a):=rfl
@[simp]theorem Fb(a b:Z):fV [.int a,.int b]=⇑(if b>a then b else a):=rfl
@[simp]theorem Fz(b:R0):Al [.bool b]=⇑(if b then 1 else 0):=rfl
@[simp]theorem GI(x:J L):lU [.list x]=Y (.tuple x):=rfl
@[simp]theorem Pg(x:J L):lU [.tuple x]=Y (.tuple x):=rfl
@[simp]theorem kU(a b:Z):dEq (.int a) (.int b)=Y (.bool (a==b)):=by
 have h:∀i:Z,SF (.int i)=true:=λi=>by simp[SF,TQ,Ub]
 unfold dEq;rw[h,h];simp[aO,SX]
@[simp]theorem Ou(a b:Z):dNe (.int a) (.int b)=Y (.bool (!(a==b))):=by
 have h:∀i:Z,SF (.int i)=true:=λi=>by simp[SF,TQ,Ub]
 unfold dNe;rw[h,h];simp[aO,SX]
theorem m9{xs:J α}{i:Z}(h:i=j):atI xs i=xs[j]?:=by
 subst h;unfold atI ixN;by_cases z:(j:Z)<xs.length
 .rw[FC ⋯,FC z];simp
 .rw[FC ⋯,GC z];simp;omega
@[simp]theorem PJ(xs:J α):atI xs 0=xs[0]?:=m9 (j:=0) rfl
@[simp]theorem PF(xs:J α):atI xs 1=xs[1]?:=m9 (j:=1) rfl
@[simp]theorem PH(xs:J α):atI xs 2=xs[2]?:=m9 (j:=2) rfl
@[simp]theorem PL(xs:J α):atI xs 3=xs[3]?:=m9 (j:=3) rfl
theorem l9(xs:J α):atI xs (-1)=xs.getLast?:=by
 unfold atI ixN;rw[GC #[1]];by_cases z:xs=[]
 .subst z;rfl
 .have:0<xs.length:=R5.mpr z;rw[FC ⋯,US];dsimp[Rx];congr 1;omega
theorem jR(g:α->R0)(xs:J α):qN [.list (xs.map λd=>.bool (g d))]=Y (.bool (xs.all g)):=by
 have a:jH (xs.map λd=>TR (g d))=Y (xs.map g):=by rw[show (xs.map λd=>TR (g d))=(xs.map g).map TR by rw[Q8];rfl];exact rC _
 show (jH (xs.map λd=>TR (g d))).map (λns=>TR (ns.all id))=_;rw[a,QL,J.all_map];rfl
theorem G6(g:α->Z)(xs:J α):Di [.list (xs.map λd=>.int (g d))]=Y (.int (xs.map g).sum):=by
 have a:fI (xs.map λd=>EE (g d))=Y (xs.map g):=by rw[show (xs.map λd=>EE (g d))=(xs.map g).map EE by rw[Q8];rfl];exact ej _
 show (fI (xs.map λd=>EE (g d))).map (λns=>EE ns.sum)=_;rw[a,QL]
theorem comp_map{elt:Ds->Rs L}{δ:Ds}{f:L->L}:∀(ds:J L),(∀d∈ds,elt (δ++[Y d])=.ok (f d))->eB bF elt aL δ ds=.ok (ds.map f)
 |[],_=>rfl
 |d::r,h=>by unfold eB;dsimp[aL,bF,Rs.cM,Rs.ag,Sn,h d P7,comp_map r λe a=>h e (P4 _ a),P0]
theorem dR{elt:Ds->Rs L}{f:L->L}(hn:δ.length=n0)(a:src δ=.ok ds)(hl:ds.length<=1000000)(h:∀d∈ds,elt (δ++[Y d])=.ok (f d)) :
  a9 n0 src bF elt aL δ=.ok (ds.map f):=by
 unfold a9;rw[FC hn,a];dsimp[Rs.ag,FC hl];exact comp_map ds h
theorem kG:∀{ds:J L},eG ds=true->∀d∈ds,aO d=true
 |[],_,d,hd=>by cases hd
 |e::r,h,d,hd=>by
  unfold eG at h;obtain⟨h1,h2⟩:=QN.mp h;rcases P8.mp hd with z|z
  .rw[z];exact h1
  .exact kG h2 d z
theorem fz(h:aO (.tuple ds)=true):∀d∈ds,aO d=true:=by unfold aO at h;exact kG h
def aT:Gf
 |[d,.int a,.int b]=>if aO d then .ok (.bool (isWhole d a b)) else .no
 |_=>.no
theorem q9{f:L->Z->Z->Rs L}(h:(match ds with|[a,.int x1,.int x2]=>f a x1 x2|_=>.no)≠.no):∃a x1 x2,ds=[a,.int x1,.int x2]/\f a x1 x2≠.no:=by
 rcases ds with _|⟨a,_|⟨x1,_|⟨x2,_|⟨y,ys⟩⟩⟩⟩
 .cases h rfl
 .cases h rfl
 .first|cases h rfl|(cases x1 <;> cases h rfl)
 .skip
  cases x1 with
  |int x1 =>
   cases x2 with
   |int x2 =>exact⟨_,_,_,rfl,h⟩
   |_=>cases h rfl
  |_=>first|cases h rfl|(cases x2 <;> cases h rfl)
 .first|cases h rfl|(cases x1 <;> first|cases h rfl|(cases x2 <;> cases h rfl))
abbrev LLq(G:Ds->Sr)(n k:O)(g:Gf):Prop:=∀ds,ds.length=n->g ds≠.no->bc (G (ds.map Y++I' k S))=g ds
theorem BP(cs:Cs):LLq (kz cs) 3 0 aT:=by
 intro ds hl c;obtain⟨d,a,b,f,e⟩:=q9 c;clear c;subst f;have c:=e;clear e;unfold aT
 .skip
  split at c
  .rename_i hd;dsimp[hd,Sn];cases d with
   |int i=>by_cases h:a<=i <;> simp[kz,mY,hd,wI,tyD,isWhole,h]
   |dict _=>simp[aO]at hd
   |_=>simp[kz,mY,hd,wI,tyD,isWhole]
  .cases c rfl
def bo:Gf
 |[d,.int a,.int b]=>if aO d then .ok (.bool (cx d a b)) else .no
 |_=>.no
theorem AB(cs:Cs):LLq (ki cs) 3 0 bo:=by
 intro ds hl c;obtain⟨d,a,b,f,e⟩:=q9 c;clear c;subst f;have c:=e;clear e;unfold bo
 .skip
  split at c
  .rename_i hd;dsimp[hd,Sn];cases d with
   |tuple x=>by_cases h:a<=(x.length:Z) <;> simp[ki,mY,hd,wI,tyD,cx,h]
   |dict _=>simp[aO]at hd
   |_=>simp[ki,mY,hd,wI,tyD,cx]
  .cases c rfl
def iJ(g:L->R0):Gf
 |[d]=>if aO d then .ok (.bool (g d)) else .no
 |_=>.no
theorem rR(h:iJ g ds≠.no):∃d,ds=[d]/\aO d=true/\iJ g ds=.ok (.bool (g d)):=by
 unfold iJ at h ⊢;split at h
 .rename_i d;split at h
  .rename_i hd;exact⟨d,rfl,hd,by simp[hd]⟩
  .cases h rfl
 .cases h rfl
theorem tJ{d:L}(h:aO d=true):iJ g [d]=.ok (.bool (g d)):=by unfold iJ;simp[h]
@[simp]theorem NG{d:L}(h:aO d=true):bo [d,.int a,.int b]=.ok (.bool (cx d a b)):=by unfold bo;simp[h]
@[simp]theorem zF{d:L}(h:aO d=true):aT [d,.int a,.int b]=.ok (.bool (isWhole d a b)):=by unfold aT;simp[h]
theorem yP{d:L}(h:cx d 2 2=true):∃a b,d=.tuple [a,b]:=by
 cases d with
 |tuple ds =>
  simp[cx]at h
  match ds,h with
  |[a,b],_=>exact⟨a,b,rfl⟩
  |[],h=>simp at h
  |[_],h=>simp at h
  |_::_::_::_,h=>simp at h;omega
 |_=>cases h
theorem EA(cs:Cs):LLq (iX cs aT bo) 1 0 (iJ dP):=by
 intro ds hl c;obtain⟨d,rfl,hd,e⟩:=rR c;rw[e];cases e1:cx d 2 2 with
 |false =>
  have:dP d=false:=by
   unfold dP;split
   .simp[cx]at e1
   .rfl
  simp[iX,hd,e1,this]
 |true =>
  obtain⟨a,b,rfl⟩:=yP e1;have ha:=fz hd a #[2];have f:=fz hd b #[2];cases e2:isWhole a 1 20 with
  |false=>simp[iX,hd,ha,e1,e2,dP]
  |true =>
   cases b with
   |none=>simp[iX,hd,ha,e1,e2,dP]
   |_=>simp[iX,hd,ha,f,e1,e2,dP,fN]
theorem zU(cs:Cs):LLq (ik cs bo (iJ dP)) 1 0 (iJ fg):=by
 intro ds hl c;obtain⟨d,rfl,hd,e⟩:=rR c;rw[e];cases e1:cx d 1 4 with
 |false =>
  have:fg d=false:=by
   cases d with
   |tuple ds =>dsimp[cx,QK,SD]at e1;dsimp[fg,QK,SD];refine .inl (.inl ?_);omega
   |_=>rfl
  simp[ik,hd,e1,this]
 |true =>
  obtain⟨xs,rfl⟩:∃ds,d=.tuple ds:=by cases d <;> first|exact⟨_,rfl⟩|cases e1
  have hn:1<=xs.length/\xs.length<=4:=by dsimp[cx,P9,L3]at e1;omega
  have hc:a9 1 (br (ae 0)) bF (ao (iJ dP) #[0,1]) aL [Y (.tuple xs)]=.ok (xs.map λd=>.bool (dP d)) :=
   dR rfl rfl ⋯ λd h=>by simp[tJ (fz hd d h)]
  have l:=jR dP xs;cases e2:xs.all dP with
  |false=>simp[ik,hd,e1,hc,l,e2,fg]
  |true =>
   have c:xs≠[]:=by intro z;subst z;simp at hn
   have f:xs.getLast?=Y (xs.getLast c):=J.getLast?_eq_some_getLast c;have g:=Q6.mp e2 _ (J.getLast_mem c);obtain⟨a,b,i⟩:∃a b,xs.getLast c=.tuple [a,b]:=by
    revert g;generalize xs.getLast c=z;intro g;unfold dP at g;split at g
    .exact⟨_,_,rfl⟩
    .cases g
   rw[i]at f;have j:jX xs=fN b:=by unfold jX;rw[f];cases b <;> rfl
   simp[ik,hd,e1,hc,l,e2,fg,l9,f,j,hn.1,hn.2]
theorem wQ{d:L}(h:cx d 4 4=true):∃a b c e,d=.tuple [a,b,c,e]:=by
 cases d with
 |tuple ds =>
  simp[cx]at h
  match ds,h with
  |[a,b,c,e],_=>exact⟨a,b,c,e,rfl⟩
  |[],h=>simp at h
  |[_],h=>simp at h
  |[_,_],h=>simp at h
  |[_,_,_],h=>simp at h
  |_::_::_::_::_::_,h=>simp at h;omega
 |_=>cases h
theorem eC{d:L}(h:isWhole d a b=true):∃i,d=.int i/\a<=i/\i<=b:=by
 cases d with
 |int i=>simp[isWhole]at h;exact⟨i,rfl,h⟩
 |_=>cases h
theorem tH{a b c e:L}(h:isWhole a 2 60=false):bY (.tuple [a,b,c,e])=false:=by
 cases a with
 |int i =>
  cases c with
  |int l =>dsimp[isWhole,QK,SD]at h;dsimp[bY,QK,SD];omega
  |_=>rfl
 |_=>rfl
theorem uH{b c e:L}{i:Z}(h:isWhole c 0 (if i-1<20 then i-1 else 20)=false):bY (.tuple [.int i,b,c,e])=false:=by
 cases c with
 |int l =>dsimp[isWhole,QK,SD]at h;dsimp[bY,QK,SD];exact .inl (.inl (.inr h))
 |_=>rfl
theorem uC{b e:L}{i l:Z}(h1:2<=i/\i<=60)(h2:0<=l/\l<=if i-1<20 then i-1 else 20):bY (.tuple [.int i,b,.int l,e])=(isWhole b 1 (i-l)&&fg e):=by simp[bY,h1.1,h1.2,h2.1,h2.2]
theorem zw(cs:Cs):LLq (fm cs aT (iJ fg) bo) 1 3 (iJ bY):=by
 intro ds hl h;obtain⟨d,rfl,hd,e⟩:=rR h;rw[e];cases e1:cx d 4 4 with
 |false =>
  have:bY d=false:=by
   unfold bY;split
   .simp[cx]at e1
   .rfl
  simp[fm,hd,e1,this]
 |true =>
  obtain⟨a,b,c,q,rfl⟩:=wQ e1;have ha:=fz hd a #[2];have g:=fz hd b #[2];have hc:=fz hd c #[2];have f:=fz hd q #[2];cases e2:isWhole a 2 60 with
  |false=>simp[fm,hd,ha,g,hc,f,e1,e2,tH e2]
  |true =>
   obtain⟨i,rfl,i1,i2⟩:=eC e2;cases e3:isWhole c 0 (if i-1<20 then i-1 else 20) with
   |false=>simp[fm,hd,ha,g,hc,f,e1,e2,e3,uH e3]
   |true =>
    obtain⟨l,rfl,l1,l2⟩:=eC e3;have j:=uC (b:=b) (e:=q) ⟨i1,i2⟩ ⟨l1,l2⟩;cases e4:isWhole b 1 (i-l) with
    |false=>simp[fm,hd,ha,g,hc,f,e1,e2,e3,e4,j]
    |true=>simp[fm,hd,ha,g,hc,f,e1,e2,e3,e4,j,tJ f]
def bD(cs:Cs):Gf
 |[d]=>if aO d then (if ee d then .ok d else .rz cs.NoErrands) else .no
 |_=>.no
theorem DO(cs:Cs):LLq (jU cs bo (iJ bY)) 1 0 (bD cs):=by
 intro ds hl a;obtain⟨d,rfl⟩:∃d,ds=[d]:=by
  match ds,hl with
  |[d],_=>exact⟨d,rfl⟩
 have hd:aO d=true:=by
  unfold bD at a;by_cases z:aO d=true
  .exact z
  .simp[z]at a
 have e:bD cs [d]=if ee d then .ok d else .rz cs.NoErrands:=by unfold bD;simp[hd]
 rw[e];cases e1:cx d 1 6 with
 |false =>
  have:ee d=false:=by
   cases d with
   |tuple ds =>dsimp[cx,QK,SD]at e1;dsimp[ee,QK,SD];refine .inl ?_;omega
   |_=>rfl
  simp[jU,hd,e1,this]
 |true =>
  obtain⟨xs,rfl⟩:∃ds,d=.tuple ds:=by cases d <;> first|exact⟨_,rfl⟩|cases e1
  have hn:1<=xs.length/\xs.length<=6:=by dsimp[cx,P9,L3]at e1;omega
  have hc:a9 1 (br (ae 0)) bF (ao (iJ bY) #[0,1]) aL [Y (.tuple xs)]=.ok (xs.map λd=>.bool (bY d)) :=
   dR rfl rfl ⋯ λd b=>by simp[tJ (fz hd d b)]
  have c:=jR bY xs;cases e2:xs.all bY with
  |false=>simp[jU,hd,e1,hc,c,e2,ee]
  |true=>simp[jU,hd,e1,hc,c,e2,ee,hn.1,hn.2]
theorem kn{β:Type}{tgt:L->Ds->D' Ds}{body:Ds->Sr}(inv:O->Ds->Prop):∀(ds:J L)(k:O),(∀(i:O) d δ,ds[i]?=Y d->inv (k+i) δ->∃δ1 a,tgt d δ=Y δ1/\body δ1=.nx a/\inv (k+i+1) a) ->
  ∀δ,inv k δ->∃b,forL tgt body ds δ=.nx b/\inv (k+ds.length) b
 |[],k,_,δ,h=>⟨δ,rfl,h⟩
 |d::r,k,hs,δ,h=>by
  obtain⟨δ1,a,e1,e2,h2⟩:=hs 0 d δ rfl h;obtain⟨b,c,h3⟩:=kn (β:=β) inv r (k+1) (λi x δ e hi=>by have:=hs (i+1) x δ (by simpa using e) (by rw[show k+(i+1)=k+1+i by omega];exact hi);rw[show k+1+i+1=k+(i+1)+1 by omega];exact this) a h2
  exact⟨b,by unfold forL;rw[e1];dsimp[e2];exact c,by rw[PZ,show k+(r.length+1)=k+1+r.length by omega];exact h3⟩
noncomputable def E7:L->D' Z
 |.int i=>Y i
 |_=>S
def cE:L->Z×D' Z
 |.tuple [.int l,t]=>(l,E7 t)
 |_=>(0,S)
def deE:L->Er
 |.tuple [.int e,.int d,.int l,.tuple ps]=>⟨e,d,l,ps.map cE⟩
 |_=>⟨0,0,0,[]⟩
theorem vY(e:Z)(d:Z)(l:Z)(ps:J L):deE (.tuple [.int e,.int d,.int l,.tuple ps])=⟨e,d,l,ps.map cE⟩:=rfl
def cu:L->J Er
 |.tuple ds=>ds.map deE
 |_=>[]
theorem A3(o:D' Z):E7 (aW o)=o:=by cases o <;> rfl
theorem lA(p:Z×D' Z):cE (aN p)=p:=by obtain⟨l,t⟩:=p;simp[aN,cE,A3]
theorem zD(e:Er):deE e.d=e:=by
 obtain⟨a,b,c,ps⟩:=e;simp[Er.d,vY,Q8]
 conv=>rhs;rw[<-QJ ps]
 exact Q3 λp _=>lA p
theorem fk(es:J Er):cu (ar es)=es:=by
 simp[ar,cu,Q8]
 conv=>rhs;rw[<-QJ es]
 exact Q3 λe _=>zD e
theorem part_of{d:L}(h:dP d=true):aN (cE d)=d/\1<=(cE d).1/\(cE d).1<=20/\∀t,(cE d).2=Y t->0<=t/\t<=3:=by
 unfold dP at h;split at h
 .rename_i a b;rw[P9]at h;obtain⟨i,rfl,h1,h2⟩:=eC h.1;have c:=h.2;cases b with
  |none=>exact⟨rfl,h1,h2,λt q=>by cases q⟩
  |int t =>obtain⟨t',q,h3,e⟩:=eC c;cases q;exact⟨rfl,h1,h2,λt q=>by cases q;exact⟨h3,e⟩⟩
  |_=>cases c
 .cases h
theorem va{d:L}(h:bY d=true):(deE d).d=d/\(deE d).Ok:=by
 unfold bY at h;split at h
 .rename_i e j l ps;dsimp[P9,L3]at h;obtain⟨⟨⟨⟨h1,h2⟩,h3,m⟩,n⟩,c⟩:=h;obtain⟨j,rfl,d1,d2⟩:=eC n;unfold fg at c;split at c
  .rename_i ps;dsimp[P9,L3]at c;obtain⟨⟨⟨p1,p2⟩,o⟩,f⟩:=c;have g:=Q6.mp o;have i:l<=20/\l<e:=by split at m <;> omega
   refine⟨?_,?_⟩
   .have r:ps.map (aN∘cE)=ps:=by
     conv=>rhs;rw[<-QJ ps]
     exact Q3 λp b=>(part_of (g p b)).1
    dsimp[vY,Er.d,Q8,r]
   .refine⟨h1,h2,h3,i.1,i.2,d1,d2,λz=>?_,by simpa[vY] using p2,λp b=>?_,λp b=>?_⟩
    .have:ps=[]:=by simpa[vY] using z
     subst this;simp at p1
    .obtain⟨q,s,rfl⟩:=PQ.mp (show p∈ps.map cE from b);exact (part_of (g q s)).2
    .have b:(ps.map cE).getLast?=Y p:=b;rw[RQ]at b;unfold jX at f;cases q:ps.getLast? with
     |none=>rw[q]at b;cases b
     |some z =>
      rw[q]at b f;simp at b;split at f
      .rename_i a heq;cases heq;subst b;unfold cE;split
       .rename_i l t e1;injection e1 with e1;injection e1 with _ e1;injection e1 with e1 _
        rw[<-e1];rfl
       .rfl
      .cases f
  .cases c
 .cases h
theorem AN{d:L}(h:ee d=true):ar (cu d)=d/\1<=(cu d).length/\(cu d).length<=6/\∀e∈cu d,e.Ok:=by
 unfold ee at h;split at h
 .rename_i ds;dsimp[P9,L3]at h;obtain⟨⟨h1,h2⟩,h3⟩:=h;have a:=Q6.mp h3;refine⟨?_,by simpa[cu] using h1,by simpa[cu] using h2,λe b=>?_⟩
  .dsimp[cu,ar,Q8];congr 1
   conv=>rhs;rw[<-QJ ds]
   exact Q3 λp c=>(va (a p c)).1
  .obtain⟨q,f,rfl⟩:=PQ.mp (show e∈ds.map deE from b);exact (va (a q f)).2
 .cases h
def deI:L->Z
 |.int i=>i
 |_=>0
def b9:L->J Z
 |.tuple ds=>ds.map deI
 |_=>[]
def aj(ns:J Z):PyData:=.tuple (ns.map .int)
theorem dZ(ns:J Z):b9 (aj ns)=ns:=by
 simp[aj,b9,Q8]
 conv=>rhs;rw[<-QJ ns]
 exact Q3 λ_ _=>rfl
def dj(n:O):L->R0
 |.tuple ds=>decide (ds.length=n)&&ds.all (λd=>isWhole d 0 ((n:Z)-1))&&decide (ds.map deI).Nodup
 |_=>false
structure bJ(n:O)(rs:J Z):Prop where
 len:rs.length=n
 rng:∀r∈rs,0<=r/\r<n
 nd:rs.Nodup
theorem jm{n:O}{d:L}(h:dj n d=true):aj (b9 d)=d/\bJ n (b9 d):=by
 unfold dj at h;split at h
 .rename_i ds;dsimp[P9,L3]at h;obtain⟨⟨h1,h2⟩,h3⟩:=h;have c:=Q6.mp h2;refine⟨?_,by simpa[b9] using h1,λr e=>?_,h3⟩
  .dsimp[b9,aj,Q8];congr 1
   conv=>rhs;rw[<-QJ ds]
   refine Q3 λp f=>?_
   obtain⟨i,rfl,_⟩:=eC (c p f);rfl
  .obtain⟨q,g,rfl⟩:=PQ.mp (show r∈ds.map deI from e);obtain⟨i,rfl,a,b⟩:=eC (c q g);exact⟨a,by show i<n;omega⟩
 .cases h
theorem fw{n:O}(h:bJ n rs):dj n (aj rs)=true:=by
 have e:(rs.map EE).map deI=rs:=by
  rw[Q8];conv=>rhs;rw[<-QJ rs]
  exact Q3 λ_ _=>rfl
 unfold dj aj;dsimp[P6,h.len,X7,RU,e,h.nd,Ro];rw[Q6];intro d hd;obtain⟨r,a,rfl⟩:=PQ.mp hd;have:=h.rng r a;simp[isWhole,this.1];omega
theorem pC:∀(l z4:J Z),z4.Nodup->((l.foldl SU z4).length<=z4.length+l.length)/\((l.foldl SU z4).length=z4.length+l.length↔(z4++l).Nodup)
 |[],z4,h=>by simpa using h
 |x::r,z4,h=>by
  rw[Qw];by_cases z:z4.any (·==x)=true
  .have e:SU z4 x=z4:=by unfold SU;rw[FC z]
   rw[e];have:=pC r z4 h;refine⟨by rw[PZ];omega,λq=>?_,λq=>?_⟩
   .rw[PZ]at q;omega
   .exfalso;obtain⟨y,c,f⟩:=QO.mp z;have:y=x:=by simpa using f
    subst this;rw[RP]at q;exact q.2.2 y c y P7 rfl
  .have e:SU z4 x=z4++[x]:=by unfold SU;rw[GC z]
   have g:x∉z4:=λq=>z (QO.mpr ⟨x,q,by simp⟩)
   have hn:(z4++[x]).Nodup:=by rw[RP];exact⟨h,by simp,λa ha b i=>by rw[PV.mp i];rintro rfl;exact g ha⟩
   rw[e];have:=pC r (z4++[x]) hn;rw[PU,Qr,QR]at this;refine⟨by rw[PZ];omega,?_⟩;rw[PZ,show z4.length+(r.length+1)=z4.length+1+r.length by omega];exact this.2
theorem AM(ns:J Z):((seen ns ns.length).length:Z)<ns.length↔¬ ns.Nodup:=by
 have e:(LN ns.length).map (λi=>ns.getD i 0)=ns:=by
  apply WC;intro i;rw[Q5];by_cases h:i<ns.length
  .rw[R6 h,My h];simp[Q2,My h]
  .rw[QS (by simpa using h),QS (by simpa using h)];rfl
 have:=pC ns [] RM;unfold seen PyProof.Rows.firstMet;rw[e];dsimp[QF,QG,Qs]at this;constructor
 .intro h q;have:=this.2.mpr q;omega
 .intro h;have h1:=this.1;have h2:¬ (U8 SU [] ns).length=ns.length:=λq=>h (this.2.mp q)
  omega
def bg(cs:Cs):Gf
 |[.tuple es,r]=>if aO r&&decide (es.length<=100) then (if dj es.length r then .ok r else .rz cs.NoRanks) else .no
 |_=>.no
theorem Hd{f:J L->L->Rs L}(h:(match ds with|[.tuple a,x1]=>f a x1|_=>.no)≠.no):∃a x1,ds=[.tuple a,x1]/\f a x1≠.no:=by
 rcases ds with _|⟨a,_|⟨x1,_|⟨y,ys⟩⟩⟩
 .cases h rfl
 .first|cases h rfl|(cases a <;> cases h rfl)
 .skip
  cases a with
  |tuple a =>exact⟨_,_,rfl,h⟩
  |_=>cases h rfl
 .first|cases h rfl|(cases a <;> cases h rfl)
theorem qO(cs:Cs):LLq (df cs bo aT) 2 1 (bg cs):=by
 intro ds hl a;obtain⟨es,r,l,j⟩:=Hd a;clear a;subst l;have a:=j;clear j;unfold bg
 .skip
  split at a
  .rename_i c;dsimp[c,Sn];rw[P9,L3]at c;obtain⟨hd,h100⟩:=c;cases e1:cx r es.length es.length with
   |false =>
    have:dj es.length r=false:=by
     cases r with
     |tuple xs =>
      have:xs.length≠es.length:=λq=>by simp[cx,q]at e1
      simp[dj,this]
     |_=>rfl
    simp[df,hd,e1,this]
   |true =>
    obtain⟨xs,rfl⟩:∃ds,r=.tuple ds:=by cases r <;> first|exact⟨_,rfl⟩|cases e1
    have hn:xs.length=es.length:=by dsimp[cx,P9,L3]at e1;omega
    have hc:a9 3 (br (ae 1)) bF (ao aT #[0,3,↑0,2]) aL [Y (.tuple es),Y (.tuple xs),⇑((es.length:Z)-1)]=.ok (xs.map λd=>.bool (isWhole d 0 ((es.length:Z)-1))) :=
     dR rfl rfl ⋯ λd e=>by simp[fz hd d e]
    have f:=jR (λd=>isWhole d 0 ((es.length:Z)-1)) xs;cases e2:xs.all (λd=>isWhole d 0 ((es.length:Z)-1)) with
    |false=>simp[df,hd,e1,hc,f,e2,dj]
    |true =>
     have m:=Q6.mp e2;have n:xs=(xs.map deI).map L.int:=by
      rw[Q8]
      conv=>lhs;rw[<-QJ xs]
      refine Q3 λp o=>?_
      obtain⟨i,rfl,_⟩:=eC (m p o);rfl
     have g:nJ [.tuple xs]=Y (.int (seen (xs.map deI) (xs.map deI).length).length):=by
      unfold nJ
      conv=>lhs;rw[n]
      dsimp[ej,Rx];rw[FC (by simp;omega)]
     have b:=AM (xs.map deI);have h:(xs.map deI).length=es.length:=by rw[P6];exact hn
     rw[h]at g b;by_cases hnd:(xs.map deI).Nodup
     .have h2:¬ (seen (xs.map deI) es.length).length<es.length:=λq=>b.mp ⋯ hnd
      simp[df,hd,e1,hc,f,e2,g,hn,h2,dj,hnd]
     .have h2:(seen (xs.map deI) es.length).length<es.length:=by have:=b.mpr hnd;omega
      simp[df,hd,e1,hc,f,e2,g,hn,h2,dj,hnd]
  .cases a rfl
noncomputable def lj:L->R0
 |.tuple [.int l,b]=>decide (0<=l)&&decide (l<=1000000)&&(match b with|.none=>true|.int t=>decide (0<=t)&&decide (t<=3)|_=>false)
 |_=>false
def xB:L->R0
 |.tuple [.int e,.int _,.int l,.tuple ps]=>decide (1<=e)&&decide (e<1073741824)&&decide (-1000000000<=l)&&decide (l<=1000000000)&&decide (ps.length<=1000)&&ps.all lj
 |_=>false
def my:L->R0
 |.tuple ds=>decide (ds.length<=100)&&ds.all xB
 |_=>false
structure Er.Sh(e:Er):Prop where
 e1:1<=e.every
 e2:e.every<1073741824
 l1:-1000000000<=e.late
 l2:e.late<=1000000000
 pn:e.parts.length<=1000
 pl:∀p∈e.parts,0<=p.1/\p.1<=1000000/\∀t,p.2=Y t->0<=t/\t<=3
theorem v8{d:L}(h:lj d=true):aN (cE d)=d/\0<=(cE d).1/\(cE d).1<=1000000/\∀t,(cE d).2=Y t->0<=t/\t<=3:=by
 unfold lj at h;split at h
 .rename_i l b;dsimp[P9,L3]at h;obtain⟨⟨h1,h2⟩,h3⟩:=h;cases b with
  |none=>exact⟨rfl,h1,h2,λt q=>by cases q⟩
  |int t =>dsimp[P9,L3]at h3;exact⟨rfl,h1,h2,λt q=>by cases q;exact h3⟩
  |_=>cases h3
 .cases h
theorem vm{d:L}(h:xB d=true):(deE d).d=d/\(deE d).Sh:=by
 unfold xB at h;split at h
 .rename_i e du l ps;dsimp[P9,L3]at h;obtain⟨⟨⟨⟨⟨h1,h2⟩,a⟩,b⟩,h3⟩,g⟩:=h;have f:=Q6.mp g;have i:ps.map (aN∘cE)=ps:=by
   conv=>rhs;rw[<-QJ ps]
   exact Q3 λp c=>(v8 (f p c)).1
  refine⟨by dsimp[vY,Er.d,Q8,i],h1,h2,a,b,by simpa[vY] using h3,λp c=>?_⟩;obtain⟨q,j,rfl⟩:=PQ.mp (show p∈ps.map cE from c);exact (v8 (f q j)).2
 .cases h
theorem oj(h:e.Sh):xB e.d=true:=by
 unfold xB Er.d;dsimp[h.e1,h.e2,h.l1,h.l2,X7,RU,P6,h.pn];rw[Q6];intro d hd;obtain⟨p,f,rfl⟩:=PQ.mp hd;obtain⟨a,b,c⟩:=h.pl p f;obtain⟨l,t⟩:=p;cases t with
 |none=>simp at a b;simp[lj,aN,aW,a,b]
 |some t=>have:=c t rfl;simp at a b;simp[lj,aN,aW,a,b,this.1,this.2]
theorem Er.Ok.sh(h:e.Ok):e.Sh:=⟨by have:=h.e1;omega,by have:=h.e2;omega,by have:=h.l1;omega,by have:=h.l2;omega,by have:=h.p2;omega,λp f=>by obtain⟨a,b,c⟩:=h.pl p f;exact⟨⋯,⋯,c⟩⟩
theorem pM{d:L}(h:my d=true):ar (cu d)=d/\(cu d).length<=100/\∀e∈cu d,e.Sh:=by
 unfold my at h;split at h
 .rename_i ds;dsimp[P9,L3]at h;have a:=Q6.mp h.2;refine⟨?_,by simpa[cu] using h.1,λe b=>?_⟩
  .dsimp[cu,ar,Q8];congr 1
   conv=>rhs;rw[<-QJ ds]
   exact Q3 λp c=>(vm (a p c)).1
  .obtain⟨q,f,rfl⟩:=PQ.mp (show e∈ds.map deE from b);exact (vm (a q f)).2
 .cases h
theorem jS(h1:es.length<=100)(h:∀e∈es,e.Sh):my (ar es)=true:=by unfold my ar;dsimp[P6,h1,X7,RU];rw[Q6];intro d hd;obtain⟨e,a,rfl⟩:=PQ.mp hd;exact oj (h e a)
def Er.work(e:Er):Int:=(e.parts.map (·.1)).sum
def Er.has(e:Er)(t:Z):Bool:=e.parts.any λp=>p.2==Y t
noncomputable def er0:Er:=⟨1,1,0,[]⟩
def aK(es:J Er)(n:Z):Er:=es.getD n.toNat er0
def hts(es:J Er):J Z->Z->Z->D' Z
 |[],_,_=>S
 |r::rs,k,t=>if (aK es r).has t then Y k else hts es rs (k+1) t
def aG(es:J Er)(rs:J Z)(t:Z):D' Int:=hts es rs 0 t
def placeOf(rs:J Z)(n:Z):Nat:=rs.findIdx (·==n)
def cW(es:J Er)(rs:J Z)(pl:Z)(z4:Z)(p:Z×D' Z):Int:=match p.2 with
 |some t=>(match aG es rs t with
  |some h=>if h<=pl then max z4 (p.1-1) else z4
  |none=>z4)
 |none=>z4
def eJ(es:J Er)(rs:J Z)(n:Z):Int:=(((rs.drop (placeOf rs n+1)).map λm=>(aK es m).parts).flatten).foldl (cW es rs (placeOf rs n)) 0
def Er.times(e:Er)(t:Z):Int:=(t+e.late) / e.every+(if (t+e.late) % e.every>0 then 1 else 0)
def fT(es:J Er)(rs:J Z)(n t:Z):Int:=eJ es rs n+(aK es n).work+((rs.take (placeOf rs n)).map λm=>(aK es m).times t*(aK es m).work).sum
def iZ(es:J Er)(rs:J Z)(n:Z):D' Int:=((LN ((aK es n).every-(aK es n).late).toNat).map λ(i:O)=>(1+(i:Z))).find? λt=>decide (fT es rs n t<=t)
theorem oS(h0:0<=n)(h1:n<es.length):es[n.toNat]?=Y (aK es n):=by unfold aK;rw[Q2,My ⋯];rfl
theorem bK(a:0<=n)(h1:n<es.length):aK es n∈es:=Qz (oS a h1)
theorem eX(a:0<=n)(h1:n<es.length):atI (es.map Er.d) n=Y (aK es n).d:=by rw[m9 (j:=n.toNat) ⋯,Q5,oS a h1];rfl
theorem Fe(h0:0<=n)(h1:n<ns.length):atI (ns.map EE) n=⇑(ns.getD n.toNat 0):=by rw[m9 (j:=n.toNat) ⋯,Q5,Q2,My ⋯];rfl
def bw:Gf
 |[d]=>if xB d then .ok (.int (deE d).work) else .no
 |_=>.no
theorem ft(h:e.Sh):bw [e.d]=.ok (.int e.work):=by unfold bw;simp[oj h,zD]
theorem FZ(p:Z×D' Z):dIx (aN p) (.int 0)=⇑p.1:=rfl
theorem GK(p:Z×D' Z):dIx (aN p) (.int 1)=Y (aW p.2):=rfl
theorem Ad(e:Er):dIx e.d (.int 3)=Y (.tuple (e.parts.map aN)):=rfl
theorem ON{f:L->Rs L}(h:(match ds with|[a]=>f a|_=>.no)≠.no):∃a,ds=[a]/\f a≠.no:=by
 rcases ds with _|⟨a,_|⟨y,ys⟩⟩
 .cases h rfl
 .skip
  exact⟨_,rfl,h⟩
 .cases h rfl
theorem rM(cs:Cs):LLq (m8 cs) 1 0 bw:=by
 intro ds hl a;obtain⟨d,f,c⟩:=ON a;clear a;subst f;have a:=c;clear c
 .skip
  split at a
  .rename_i hd;obtain⟨e1,sh⟩:=vm hd;rw[<-e1];generalize deE d=e at sh;rw[ft sh];have hc:a9 1 (br (g2 dIx (ae 0) ↑3)) bF (g2 dIx (ae 1) ↑0) aL [Y e.d]=.ok ((e.parts.map aN).map λd=>.int (cE d).1) :=
    dR rfl (by simp[Ad]) (by have:=sh.pn;simp;omega) λd b=>by obtain⟨p,hp,rfl⟩:=PQ.mp b;simp[FZ,lA]
   have hm:((e.parts.map aN).map λd=>EE (cE d).1)=e.parts.map λp=>.int p.1:=by rw[Q8];exact Q3 λp _=>by simp[lA]
   rw[hm]at hc;simp[m8,hc,G6,Er.work]
  .cases a rfl
theorem rangeSize_down(n:O):SI ((n:Z)-1) (-1) (-1)=n:=by
 unfold SI;rw[GC #[1]];split
 .simp
 .omega
theorem Et(n:O)(h:n<=1000):Fq [.int ((n:Z)-1),.int (-1),.int (-1)]=.ok (i9 ((n:Z)-1) (-1) n):=by
 have a:UC ((n:Z)-1) (-1) (-1)=true:=by unfold UC;rw[rangeSize_down];simp[Rf.Range.rangeFitsLong];omega
 have b:sv ((n:Z)-1) (-1) (-1)=true:=by unfold sv;rw[a,Ro];exact O' ⋯
 unfold Fq;dsimp[b,Sn];unfold Bl;rw[rangeSize_down];rfl
def aI:Gf
 |[d,r]=>if my d&&dj (cu d).length r then .ok (.list ((LN 4).map λ(t:O)=>aW (aG (cu d) (b9 r) t))) else .no
 |_=>.no
theorem eY(h1:es.length<=100)(h:∀e∈es,e.Sh)(a:bJ es.length rs):aI [ar es,aj rs]=.ok (.list ((LN 4).map λ(t:O)=>aW (aG es rs t))):=by unfold aI;simp[jS h1 h,fk,fw a,dZ]
def tL(k:Z)(B':J L)(p:Z×D' Z):J PyData:=match p.2 with
 |some t=>B'.set t.toNat (.int k)
 |none=>B'
theorem uj(k:Z)(B':J L)(p:Z×D' Z):(tL k B' p).length=B'.length:=by unfold tL;split <;> simp
theorem uS(k:Z):∀(ps:J (Z×D' Z))(B':J L),(ps.foldl (tL k) B').length=B'.length
 |[],B'=>rfl
 |p::r,B'=>by rw[Qw,uS k r,uj]
theorem vI(k:Z):∀(ps:J (Z×D' Z))(B':J L)(t:O),(∀p∈ps,∀t,p.2=Y t->0<=t/\t<=3)->t<B'.length->(ps.foldl (tL k) B')[t]?=if ps.any (λp=>p.2==Y (t:Z)) then ⇑k else B'[t]?
 |[],B',t,_,_=>rfl
 |p::r,B',t,h,hl=>by
  rw[Qw,vI k r _ t (λq a=>h q (P4 _ a)) (by rw[uj];exact hl)];rw[R8];cases hr:r.any (λp=>p.2==Y (t:Z)) with
  |true=>simp
  |false =>
   obtain⟨l,o⟩:=p;cases o with
   |none=>simp[tL]
   |some u =>
    have hu:=h (l,Y u) P7 u rfl;dsimp[Qb,SK,XJ,tL];by_cases z:u=(t:Z)
    .subst z;simp[hl]
    .rw[Qi ⋯];have:(Y u==Y (t:Z))=false:=by simpa using z
     rw[this];rfl
theorem mG(E R:L)(k:Z):∀(ps:J (Z×D' Z))(B':J L)(x4 a:D' L),B'.length=4->(∀p∈ps,∀t,p.2=Y t->0<=t/\t<=3) ->
  ∃b c,forL (cO [4,5]) (sIf (gT (g1 cV (ae 5))) (uE 2 (ae 5) (ae 3)) ba) (ps.map aN) [Y E,Y R,↥B',⇑k,x4,a]=.nx [Y E,Y R,↥(ps.foldl (tL k) B'),⇑k,b,c]
 |[],B',x4,a,_,_=>⟨x4,a,rfl⟩
 |p::r,B',x4,a,hL,h=>by
  obtain⟨b,c,e⟩:=mG E R k r (tL k B' p) ⇑p.1 (Y (aW p.2)) (by rw[uj];exact hL) (λq f=>h q (P4 _ f));refine⟨b,c,?_⟩;rw[P0,Qw];unfold forL;obtain⟨l,o⟩:=p;cases o with
  |none =>simp[aN,cO,i5,aW];simpa[tL,aW] using e
  |some u =>
   have g:=h (l,Y u) P7 u rfl;have i:ixN B'.length u=Y u.toNat:=by unfold ixN;rw[FC g.1,FC ⋯]
   have j:fW (.int k)=true:=by unfold fW;rfl
   simp[aN,cO,i5,aW,uE,i,j];simpa[tL,aW] using e
theorem HJ(es:J Er)(rs:J Z)(k:O)(t:Z)(h:k<rs.length):hts es (rs.drop k) k t=if (aK es (rs.getD k 0)).has t then Y (k:Z) else hts es (rs.drop (k+1)) ((k+1:O):Z) t:=by rw[Ri h];show (if _ then _ else _)=_;rw[Q2,My h];simp
theorem uG(cs:Cs):LLq (ib cs) 2 4 aI:=by
 intro ds hl a;obtain⟨d,r,rfl⟩:∃d r,ds=[d,r]:=by
  match ds,hl with
  |[d,r],_=>exact⟨d,r,rfl⟩
 unfold aI at a;simp only at a;split at a
 .rename_i hc;rw[P9]at hc;obtain⟨e1,x9,g⟩:=pM hc.1;obtain⟨e2,m⟩:=jm hc.2;rw[<-e1,<-e2];generalize cu d=es at *;generalize b9 r=rs at *;rw[eY x9 g m];have hn:=m.len
  -- the outer loop
  have outer:∃c,forL (aU 3) (cY [2] (br (g2 dIx (g2 dIx (ae 0) (g2 dIx (ae 1) (ae 3))) ↑3)) (cO [4,5]) (sIf (gT (g1 cV (ae 5))) (uE 2 (ae 5) (ae 3)) ba))
    (i9 ((rs.length:Z)-1) (-1) rs.length) #[3,↥[.none,.none,.none,.none],S,S,S]=.nx c /\
    (∃x3 x4 b,c=#[3,↥((LN 4).map λ(t:O)=>aW (hts es (rs.drop (rs.length-(0+(i9 ((rs.length:Z)-1) (-1) rs.length).length))) (((rs.length-(0+(i9 ((rs.length:Z)-1) (-1) rs.length).length):O):Z)) t)),x3,x4,b]):=by
   refine kn (β:=XI) (λi δ=>∃x3 x4 b,δ=#[3,↥((LN 4).map λ(t:O)=>aW (hts es (rs.drop (rs.length-i)) ((rs.length-i:O):Z) t)),x3,x4,b]) _ 0 ?_ _ ⟨S,S,S,?_⟩
   .rintro i dd δ hi ⟨x3,x4,b,rfl⟩
    rw[QG]at *;have n:i<rs.length:=by
     have:=(Qa.mp hi).1
     rwa[jf]at this
    have o:dd=.int (((rs.length-(i+1):O):Z)):=by unfold i9 at hi;rw[Q5,R6 n]at hi;simp at hi;rw[<-hi];congr 1;omega
    subst o;generalize hk:rs.length-(i+1)=k at *;have q:rs.length-i=k+1:=⋯
    rw[q];have f:k<rs.length:=⋯
    have h:=m.rng (rs.getD k 0) (by rw[Q2,My f];exact Qk f);have j:=g _ (bK h.1 ⋯);obtain⟨u,v,e⟩:=mG (ar es) (aj rs) k (aK es (rs.getD k 0)).parts ((LN 4).map λ(t:O)=>aW (hts es (rs.drop (k+1)) ((k+1:O):Z) t)) x4 b #[2] (λp s=>(j.pl p s).2.2);have a1:atI (rs.map EE) (k:Z)=⇑(rs.getD k 0):=by rw[Fe ⋯ ⋯];simp
    have a2:atI (es.map Er.d) (rs.getD k 0)=Y (aK es (rs.getD k 0)).d:=eX h.1 ⋯;refine⟨[Y (ar es),Y (aj rs),↥((LN 4).map λ(t:O)=>aW (hts es (rs.drop (k+1)) ((k+1:O):Z) t)),⇑k,x4,b],_,by simp[aU],?_,⇑k,u,v,rfl⟩;rw[iB];have src:br (g2 dIx (g2 dIx (ae 0) (g2 dIx (ae 1) (ae 3))) ↑3) (mask [2] #[3,↥((LN 4).map λ(t:O)=>aW (hts es (rs.drop (k+1)) ((k+1:O):Z) t)),⇑(k:Z),x4,b])=.ok ((aK es (rs.getD k 0)).parts.map aN):=by dsimp[jl,bQ,aC (show 0∉[2] by decide),aC (show 1∉[2] by decide),aC (show 3∉[2] by decide),aq,av,cA,Rs.ag];dsimp[ar,aj,mz,a1,a2,Ad,Rs.ai,Rs.ag,mM]
    rw[src,aw,e];have hL:(aK es (rs.getD k 0)).parts.foldl (tL k) ((LN 4).map λ(t:O)=>aW (hts es (rs.drop (k+1)) ((k+1:O):Z) t))=(LN 4).map λ(t:O)=>aW (hts es (rs.drop k) k t):=?hL
    rw[hL]
    case hL =>
    apply WC;intro t;by_cases ht:t<4
    .rw[vI _ _ _ _ (λp s=>(j.pl p s).2.2) (by simpa using ht),Q5,Q5,R6 ht];rw[QL,QL,HJ es rs k t f];unfold Er.has;split <;> rfl
    .rw[QS (by rw[uS];simp;omega),QS (by simp;omega)]
   .simp[hts];rfl
  rw[jf,QG,Y3]at outer;obtain⟨c,e,x3,x4,b,rfl⟩:=outer;have w:=Et rs.length ⋯;have l:ff [2] 2 #[0,gC .none,gC .none,gC .none,gC .none] #[3,S,S,S,S]=.nx #[3,↥[.none,.none,.none,.none],S,S,S]:=rfl;have src:B7 #[0,g2 cK (gF cp #[0,1]) ↑1,g1 lq ↑1,g1 lq ↑1] (mask [2] #[3,↥[.none,.none,.none,.none],S,S,S])=.ok (i9 ((rs.length:Z)-1) (-1) rs.length):=by dsimp[J7,ay,aF,bQ,iE,gN,aC (show 1∉[2] by decide),aq,av,cA,Rs.ag,aj,BF,Rs.ai,oF,Ge,P6];exact w
  show bc (ib cs #[3,S,S,S,S])=_;dsimp[ib,aQ,l,iB,src,aw];rw[e];simp[aG]
 .cases a rfl
theorem mR(h:n∈rs):placeOf rs n<rs.length:=J.findIdx_lt_length_of_exists ⟨n,h,by simp⟩
theorem xT:∀{l m:J Z},l.Nodup->(∀x∈l,x∈m)->l.length<=m.length
 |[],m,_,_=>QH _
 |x::r,m,hn,hs=>by
  rw[Qq]at hn;have a:=hs x P7;have:=xT (l:=r) (m:=m.erase x) hn.2 λy b=>by rw[J.mem_erase_of_ne (by rintro rfl;exact hn.1 b)];exact hs y (P4 _ b)
  rw[J.length_erase_of_mem a]at this;have hp:=J.length_pos_of_mem a;rw[PZ];omega
theorem bJ.mem{k:O}(h:bJ k rs)(c:0<=n)(h1:n<k):n∈rs:=by
 have base:∀x:Z,0<=x->x<k->x∈(LN k).map λ(i:O)=>(i:Z):=λx a b=>PQ.mpr ⟨x.toNat,Ra.mpr ⋯,⋯⟩
 by_cases z:n∈rs
 .exact z
 .exfalso;have:=xT (l:=n::rs) (m:=(LN k).map λ(i:O)=>(i:Z)) (Qq.mpr ⟨z,h.nd⟩) λx e=>by
   rcases P8.mp e with q|q
   .rw[q];exact base n c h1
   .have:=h.rng x q;exact base x this.1 this.2
  have hl:=h.len;simp at this;omega
theorem DS(ns:J Z):(ns.map EE).all iI=true:=by rw[Q6];intro d hd;obtain⟨n,_,rfl⟩:=PQ.mp hd;rfl
theorem oh(n:Z):∀rs:J Z,n∈rs->(((rs.map EE).map toV).findIdx? λz=>eqV z (.int n))=Y (placeOf rs n)
 |[],h=>by cases h
 |r::rs,h=>by
  have ev:eqV (.int r) (.int n)=(r==n):=rfl;rw[P0,P0,J.findIdx?_cons];unfold placeOf;rw[Se];show (if eqV (.int r) (.int n)=true then Y 0 else _)=_;rw[ev];cases hr:r==n with
  |true=>rfl
  |false =>
   have a:r≠n:=by simpa using hr
   have:=oh n rs ((P8.mp h).resolve_left λq=>a q.symm);rw[GC Q1,this];rfl
theorem fX(h:n∈rs):pW (rs.map .int) (.int n)=⇑(placeOf rs n):=by unfold pW;rw[DS,show iI (.int n)=true from rfl];dsimp[Sa,Sn];rw[show toV (.int n)=.int n from rfl,oh n rs h];rfl
@[simp]theorem pR(go ga:Ds->Rs L)(δ:Ds):kY go ga δ=(go δ).bind λd=>match d with|.tuple xs=>(ga δ).bind λy=>Rs.eu (pW xs y)|_=>.no:=rfl
theorem ug{k:O}:cutD xs (Y (k:Z)) S=xs.drop k:=by
 unfold cutD;have e1:HT.sIx xs.length 0 (Y (k:Z))=min k xs.length:=HT.Cg _ _ _;have e2:HT.sIx xs.length xs.length S=xs.length:=rfl;rw[e1,e2];by_cases h:k<=xs.length
 .rw[O.min_eq_left h];exact RR #[2]
 .rw[O.min_eq_right ⋯,Vk (PN _),Vk ⋯];simp
theorem GF{k:O}:cutD xs S (Y (k:Z))=xs.take k:=by unfold cutD;have e1:HT.sIx xs.length 0 S=0:=rfl;have e2:HT.sIx xs.length xs.length (Y (k:Z))=min k xs.length:=HT.Cg _ _ _;rw[e1,e2];simp
theorem lC(es:J Er)(t:Z):∀(rs:J Z)(k:Z)(m:Z),m∈rs->(aK es m).has t=true->∃h,hts es rs k t=Y h
 |[],_,_,h,_=>by cases h
 |r::rs,k,m,h,ht=>by
  unfold hts;by_cases z:(aK es r).has t=true
  .exact⟨k,by rw[FC z]⟩
  .rw[GC z];rcases P8.mp h with q|q
   .subst q;exact So ht z
   .exact lC es t rs (k+1) m q ht
theorem sZ{t:Z}(a:0<=t)(h3:t<=3):atI ((LN 4).map λ(t:O)=>aW (aG es rs t)) t=Y (aW (aG es rs t)):=by rw[m9 (j:=t.toNat) ⋯,Q5,R6 ⋯];dsimp[QL];rw[Rm a]
def bB:Gf
 |[d,r,.int n]=>if my d&&dj (cu d).length r&&decide (0<=n)&&decide (n<(cu d).length) then .ok (.int (eJ (cu d) (b9 r) n)) else .no
 |_=>.no
theorem jk(h1:es.length<=100)(h:∀e∈es,e.Sh)(a:bJ es.length rs)(n0:0<=n)(n1:n<es.length):bB [ar es,aj rs,.int n]=.ok (.int (eJ es rs n)):=by unfold bB;simp[jS h1 h,fk,fw a,dZ,n0,n1]
theorem MO{d r x:L}{f:L->L->Z->R0}{g:L->L->Z->L}{gf:Gf}(a:∀d r n,gf [d,r,.int n]=if f d r n then .ok (g d r n) else .no)(b:∀d r x,(∀n,x≠.int n)->gf [d,r,x]=.no)(h:gf [d,r,x]≠.no):∃n,x=.int n/\f d r n=true:=by
 cases x with
 |int n =>
  refine⟨n,rfl,?_⟩;rw[a]at h;by_cases z:f d r n=true
  .exact z
  .rw[GC z]at h;cases h rfl
 |_=>exact So (b d r _ (by intro n q;cases q)) h
theorem sC(es:J Er)(rs:J Z)(E R n:L)(pl:O)(lo:L)(b:J L)(a:∀t:Z,0<=t->t<=3->atI b t=Y (aW (aG es rs t))):∀(ps:J (Z×D' Z))(z4:Z)(x7 x8:D' L),(∀p∈ps,∀t,p.2=Y t->0<=t/\t<=3/\∃h,aG es rs t=Y h) ->
  ∃c f,forL (cO [7,8]) (sIf (jh (gT (g1 cV (ae 8))) (gT (g2 dLe (g2 dIx (ae 4) (ae 8)) (ae 3)))) (aJ [] 5 (gF fV #[0,5,g2 cK (ae 7) ↑1])) ba) (ps.map aN)
    [Y E,Y R,Y n,⇑pl,↥b,⇑z4,Y lo,x7,x8]
   =.nx [Y E,Y R,Y n,⇑pl,↥b,⇑(ps.foldl (cW es rs pl) z4),Y lo,c,f]
 |[],z4,x7,x8,_=>⟨x7,x8,rfl⟩
 |p::r,z4,x7,x8,h=>by
  obtain⟨c,f,e⟩:=sC es rs E R n pl lo b a r (cW es rs pl z4 p) ⇑p.1 (Y (aW p.2)) (λq j=>h q (P4 _ j));refine⟨c,f,?_⟩;rw[P0,Qw];unfold forL;obtain⟨l,o⟩:=p;cases o with
  |none =>simp[aN,cO,i5,aW];simpa[cW,aW] using e
  |some t =>
    obtain⟨m,h3,s,g⟩:=h (l,Y t) P7 t rfl;have ha:=a t m h3;rw[g]at ha;by_cases hle:s<=(pl:Z)
    .have i:cW es rs pl z4 (l,Y t)=if l-1>z4 then l-1 else z4:=by unfold cW;dsimp[g,FC hle];split <;> omega
     rw[i]at e ⊢;dsimp[aN,aW]at e;simp[aN,cO,i5,aW,ha,hle];exact e
    .have i:cW es rs pl z4 (l,Y t)=z4:=by unfold cW;dsimp[g,GC hle]
     rw[i]at e ⊢;dsimp[aN,aW]at e;simp[aN,cO,i5,aW,ha,hle];exact e
theorem FO{p:Z×D' Z}{t:Z}(a:p∈e.parts)(h:p.2=Y t):e.has t=true:=QO.mpr ⟨p,a,by simp[h]⟩
theorem rY{es:J Er}{rs:J Z}(f:∀e∈es,e.Sh)(s:bJ es.length rs)(n:L)(pl:O):∀(ms:J Z)(z4:Z)(x6 x7 x8:D' L),(∀m∈ms,m∈rs) ->
  ∃j l o,forL (aU 6) (cY [] (br (g2 dIx (g2 dIx (ae 0) (ae 6)) ↑3)) (cO [7,8]) (sIf (jh (gT (g1 cV (ae 8))) (gT (g2 dLe (g2 dIx (ae 4) (ae 8)) (ae 3)))) (aJ [] 5 (gF fV #[0,5,g2 cK (ae 7) ↑1])) ba)) (ms.map EE)
    #[3,Y n,⇑pl,↥((LN 4).map λ(t:O)=>aW (aG es rs t)),⇑z4,x6,x7,x8]
   =.nx #[3,Y n,⇑pl,↥((LN 4).map λ(t:O)=>aW (aG es rs t)),⇑(((ms.map λm=>(aK es m).parts).flatten).foldl (cW es rs pl) z4),j,l,o]
 |[],z4,x6,x7,x8,_=>⟨x6,x7,x8,rfl⟩
 |m::r,z4,x6,x7,x8,h=>by
  have hm:=h m P7;have g:=s.rng m hm;have q:=f _ (bK g.1 ⋯);obtain⟨v,w,e1⟩:=sC es rs (ar es) (aj rs) n pl (.int m) ((LN 4).map λ(t:O)=>aW (aG es rs t)) (λt a b=>sZ a b) (aK es m).parts z4 x7 x8 λp u t i=>by obtain⟨_,_,c⟩:=q.pl p u;have:=c t i;exact⟨this.1,this.2,lC es t rs 0 m hm (FO u i)⟩
  obtain⟨j,l,o,e2⟩:=rY f s n pl r ((aK es m).parts.foldl (cW es rs pl) z4) ⇑m v w λx y=>h x (P4 _ y)
  refine⟨j,l,o,?_⟩;rw[P0,P0,QX,Sf];unfold forL;have a2:atI (es.map Er.d) m=Y (aK es m).d:=eX g.1 ⋯;have src:br (g2 dIx (g2 dIx (ae 0) (ae 6)) ↑3) #[3,Y n,⇑pl,↥((LN 4).map λ(t:O)=>aW (aG es rs t)),⇑z4,⇑m,x7,x8]=.ok ((aK es m).parts.map aN):=by dsimp[jl,bQ,aq,av,cA,Rs.ag,ar,mz,a2,Rs.ai,Ad,mM]
  have i:aU 6 (.int m) #[3,Y n,⇑pl,↥((LN 4).map λ(t:O)=>aW (aG es rs t)),⇑z4,x6,x7,x8]=Y #[3,Y n,⇑pl,↥((LN 4).map λ(t:O)=>aW (aG es rs t)),⇑z4,⇑m,x7,x8]:=rfl;rw[i];dsimp[iB,fL,src,aw,e1];exact e2
theorem Bx(cs:Cs):LLq (kN cs aI) 3 6 bB:=by
 intro ds hl f;obtain⟨d,r,x,rfl⟩:∃d r x,ds=[d,r,x]:=by
  match ds,hl with
  |[d,r,x],_=>exact⟨d,r,x,rfl⟩
 obtain⟨n,rfl,hc⟩:=MO (gf:=bB) (λ_ _ _=>rfl) (λd r x h=>by unfold bB;split <;> first|(rename_i q;injection q with _ q;injection q with _ q;injection q with q _;exact So q (h _))|rfl) f;dsimp[P9,L3]at hc;obtain⟨⟨⟨c1,i⟩,n0⟩,n1⟩:=hc;obtain⟨e1,x9,a⟩:=pM c1;obtain⟨e2,c⟩:=jm i;rw[<-e1,<-e2];generalize cu d=es at *;generalize b9 r=rs at *;rw[jk x9 a c n0 n1];have b:=c.mem n0 ⋯;have g:=fX b;have j:=eY x9 a c;obtain⟨y6,y7,y8,e⟩:=rY a c (.int n) (placeOf rs n) (rs.drop (placeOf rs n+1)) 0 S S S (λm hm=>Qt hm);have src:br (eV (ae 1) (gP (g2 aP (ae 3) ↑1)) dk) #[3,⇑n,⇑(placeOf rs n),↥((LN 4).map λ(t:O)=>aW (aG es rs t)),⇑0,S,S,S]=.ok ((rs.drop (placeOf rs n+1)).map EE):=by dsimp[jl,lS,oJ,ke,bQ,aq,av,cA,Rs.ag,dD,Rs.ai,nQ,aj,tq,mM];rw[show (placeOf rs n:Z)+1=((placeOf rs n+1:O):Z) by omega,ug,VQ]
 show bc (kN cs aI #[3,⇑n,S,S,S,S,S,S])=_;dsimp[kN,aQ,gH,PZ,QF,pR,aq,av,Rs.ag,aj,g,Rs.ai];dsimp[Uw,UG,Sn,aw,Rc,Rg,bp,ay,aF,aq,av,Rs.ag];rw[show (Ta (rs.map EE))=aj rs from rfl,j];dsimp[aw,PZ,QF,Uw,UG,Sn,Rc,Rg,cA,iB,fL,src];rw[e];rfl
theorem uc:∀(ps:J (Z×D' Z)),(∀p∈ps,0<=p.1/\p.1<=1000000)->0<=(ps.map (·.1)).sum/\(ps.map (·.1)).sum<=1000000*ps.length
 |[],_=>by simp
 |p::r,h=>by
  have h1:=h p P7;have h2:=uc r λq a=>h q (P4 _ a)
  dsimp[P0,Qe,PZ];omega
theorem Er.Sh.work_b(h:e.Sh):0<=e.work/\e.work<=1000000000:=by
 have:=uc e.parts λp a=>⟨(h.pl p a).1,(h.pl p a).2.1⟩
 have h2:=h.pn;unfold Er.work;omega
theorem Be(h1:-(2 ^ 64)<b)(h2:b<2 ^ 64):fB (.int a) (.int b)=⇑(a*b):=by show (if _ then _ else _)=_;rw[FC (.inr ⟨h1,h2⟩)]
theorem t8(h1:-(2 ^ 64)<a)(h2:a<2 ^ 64):fB (.int a) (.int b)=⇑(a*b):=by show (if _ then _ else _)=_;rw[FC (.inl ⟨h1,h2⟩)]
def cT:Gf
 |[d,r,.int n,.int t]=>if my d&&dj (cu d).length r&&decide (0<=n)&&decide (n<(cu d).length) then .ok (.int (fT (cu d) (b9 r) n t)) else .no
 |_=>.no
theorem lL{t:Z}(h1:es.length<=100)(h:∀e∈es,e.Sh)(a:bJ es.length rs)(n0:0<=n)(n1:n<es.length):cT [ar es,aj rs,.int n,.int t]=.ok (.int (fT es rs n t)):=by unfold cT;simp[jS h1 h,fk,fw a,dZ,n0,n1]
theorem uX{es:J Er}{rs:J Z}(i:∀e∈es,e.Sh)(A:bJ es.length rs)(n:L)(t:Z):∀(ms:J Z)(z4:Z)(j x6 x7 x8 f b:D' L),(∀m∈ms,m∈rs) ->
  ∃o p q s u g,forL (aU 5) (az (AS [] (cO [6,7,8,9]) (g2 dIx (ae 0) (ae 5)))
  (az (aJ [] 10 (g2 aP (g2 jq (g2 aP (ae 3) (ae 8)) (ae 6)) (gF Al #[0,g2 dGt (g2 fE (g2 aP (ae 3) (ae 8)) (ae 6)) ↑0])))
  (aJ [] 4 (g2 aP (ae 4) (g2 fB (ae 10) (ao bw #[0,g2 dIx (ae 0) (ae 5)])))))) (ms.map EE)
    #[3,Y n,⇑t,⇑z4,j,x6,x7,x8,f,b]
   =.nx #[3,Y n,⇑t,⇑(z4+(ms.map λm=>(aK es m).times t*(aK es m).work).sum),o,p,q,s,u,g]
 |[],z4,j,x6,x7,x8,f,b,_=>⟨j,x6,x7,x8,f,b,by simp[forL]⟩
 |m::r,z4,j,x6,x7,x8,f,b,h=>by
  have hm:=h m P7;have l:=A.rng m hm;have c:=i _ (bK l.1 ⋯);have a2:atI (es.map Er.d) m=Y (aK es m).d:=eX l.1 ⋯;obtain⟨o,p,q,s,u,g,e2⟩:=uX i A n t r (z4+(aK es m).times t*(aK es m).work) ⇑m (Y (.int (aK es m).every)) (Y (.int (aK es m).due)) (Y (.int (aK es m).late)) (Y (.tuple ((aK es m).parts.map aN))) ⇑((aK es m).times t) λx B=>h x (P4 _ B)
  refine⟨o,p,q,s,u,g,?_⟩;have hw:=c.work_b;have v:=ft c;rw[P0,P0,Qe,<-VR];unfold forL;generalize hE:aK es m=e at *;have C:e.d=.tuple [.int e.every,.int e.due,.int e.late,.tuple (e.parts.map aN)]:=rfl;have w:AS [] (cO [6,7,8,9]) (g2 dIx (ae 0) (ae 5)) #[3,Y n,⇑t,⇑z4,⇑m,x6,x7,x8,f,b]=.nx #[3,Y n,⇑t,⇑z4,⇑m,⇑e.every,⇑e.due,⇑e.late,Y (.tuple (e.parts.map aN)),b]:=by unfold AS;rw[fL];dsimp[bQ,aq,av,Rs.ag,ar,mz,a2,Rs.ai,aw,C];rfl
  have D:aU 5 (.int m) #[3,Y n,⇑t,⇑z4,j,x6,x7,x8,f,b]=Y #[3,Y n,⇑t,⇑z4,⇑m,x6,x7,x8,f,b]:=rfl;have ev1:=c.e1;have y:=c.e2;have z:(t+e.late) / e.every+(if decide (0<(t+e.late) % e.every) then 1 else 0)=e.times t:=by unfold Er.times;simp
  rw[D];dsimp[aQ,w];dsimp[gH,PZ,QF,Uw,UG,Sn,bQ,gN,ay,aF,aq,av,cA,Rs.ag,dD,Rs.ai,vt,tR,E5,Fz,FC (show 0<e.every/\e.every<1073741824 from⟨⋯,y⟩),FC (show 0<e.every by omega),aw,Rc,Rg,z,bp,ar,mz,a2,v];dsimp[Be (a:=e.times t) (show -(2 ^ 64)<e.work by omega) (show e.work<2 ^ 64 by omega),Rs.ai,Rs.ag,dD,aw];exact e2
theorem rS{f:L->L->Z->Z->Rs L}(h:(match ds with|[a,x1,.int x2,.int x3]=>f a x1 x2 x3|_=>.no)≠.no):∃a x1 x2 x3,ds=[a,x1,.int x2,.int x3]/\f a x1 x2 x3≠.no:=by
 rcases ds with _|⟨a,_|⟨x1,_|⟨x2,_|⟨x3,_|⟨y,ys⟩⟩⟩⟩⟩
 .cases h rfl
 .cases h rfl
 .cases h rfl
 .first|cases h rfl|(cases x2 <;> cases h rfl)
 .skip
  cases x2 with
  |int x2 =>
   cases x3 with
   |int x3 =>exact⟨_,_,_,_,rfl,h⟩
   |_=>cases h rfl
  |_=>first|cases h rfl|(cases x3 <;> cases h rfl)
 .first|cases h rfl|(cases x2 <;> first|cases h rfl|(cases x3 <;> cases h rfl))
theorem Bv(cs:Cs):LLq (kM cs bw bB) 4 7 cT:=by
 intro ds hl a;obtain⟨d,r,n,t,o,l⟩:=rS a;clear a;subst o;have a:=l;clear l
 .skip
  split at a
  .rename_i hc;dsimp[P9,L3]at hc;obtain⟨⟨⟨c1,p⟩,n0⟩,n1⟩:=hc;obtain⟨e1,x9,b⟩:=pM c1;obtain⟨e2,f⟩:=jm p;rw[<-e1,<-e2];generalize cu d=es at *;generalize b9 r=rs at *;rw[lL x9 b f n0 n1];have c:=f.mem n0 ⋯;have g:=fX c;have q:=jk x9 b f n0 n1;have h:=b _ (bK n0 n1);have a2:atI (es.map Er.d) n=Y (aK es n).d:=eX n0 n1;have i:=ft h;obtain⟨y5,y6,y7,y8,y9,y10,e⟩:=uX b f (.int n) t (rs.take (placeOf rs n)) (eJ es rs n+(aK es n).work) S S S S S S (λm hm=>QP hm);have src:br (eV (ae 1) dk (gP (kY (ae 1) (ae 2)))) #[3,⇑n,⇑t,⇑(eJ es rs n+(aK es n).work),S,S,S,S,S,S]=.ok ((rs.take (placeOf rs n)).map EE):=by dsimp[jl,lS,oJ,ke,pR,aq,av,Rs.ag,aj,g,Rs.ai,nQ,tq,mM];rw[GF,XM]
   have j:aJ [] 4 (g2 aP (ao bB #[0,0,1,2]) (ao bw #[0,g2 dIx (ae 0) (ae 2)])) #[3,⇑n,⇑t,S,S,S,S,S,S,S]
     =.nx #[3,⇑n,⇑t,⇑(eJ es rs n+(aK es n).work),S,S,S,S,S,S]:=by
    dsimp[gH,PZ,QF,Uw,UG,Sn,bQ,bp,ay,aF,aq,av,Rs.ag,q];dsimp[ar,mz,a2,Rs.ai,Rs.ag,i,dD,aw];rfl
   show bc (kM cs bw bB #[3,⇑n,⇑t,S,S,S,S,S,S,S])=_;dsimp[kM];rw[aQ,j];simp only;rw[aQ,iB,fL,src,aw,e];rfl
  .cases a rfl
def gD:L->D' (J Z)
 |.dict [(.none,.list l)]=>fI l
 |_=>S
theorem gW(ns:J Z):gD (au ns)=Y ns:=ej ns
def ak:Gf
 |[s,.int k,.int y1]=>(match gD s with
  |some ns=>if 0<=k/\0<y1 then .ok (.int (mixed ns k y1)) else .no
  |none=>.no)
 |_=>.no
theorem cG{k:Z}(h1:0<=k)(h2:0<y1):ak [au ns,.int k,.int y1]=.ok (.int (mixed ns k y1)):=by unfold ak;simp[gW,h1,h2]
theorem iF(D2:J O)(i:O)(g:Ds->Rs L)(δ:Ds):aJ D2 i g δ=if i<δ.length then ofR (g (mask D2 δ)) λd=>.nx (δ.set i (Y d)) else .no:=rfl
def cy:Gf
 |[s,.int a,.int top,.bool tools]=>(match gD s with
  |some ns=>if 0<=a/\0<top/\top<=58 then .ok (mkE ns a top tools).d else .no
  |none=>.no)
 |_=>.no
theorem j6{top:Z}{b:R0}(h1:0<=a)(h2:0<top)(h3:top<=58):cy [au ns,.int a,.int top,.bool b]=.ok (mkE ns a top b).d:=by unfold cy;simp[gW,h1,h2,h3]
theorem ED(o:D' Z):fW (aW o)=true:=by cases o <;> (unfold aW fW;rfl)
theorem As(p:Z×D' Z):fW (aN p)=true:=by unfold aN fW mL;rw[show fW (.int p.1)=true by unfold fW;rfl];unfold mL;rw[ED];unfold mL;rfl
theorem HY{i:Z}(h0:0<=i)(h1:i<5):atI [EE 0,EE 1,EE 1,EE 0,VA] i=Y (aW (mD i)):=by
 have:i=0\/i=1\/i=2\/i=3\/i=4:=⋯
 rcases this with rfl|rfl|rfl|rfl|rfl <;> rfl
theorem zX(ns:J Z)(a top:Z)(b:R0)(ev la e:L)(ha:0<=a)(B':J L)(hL:B'.length<1000)(i:O)(x8 f:D' L) :
   az (aJ [7] 9 (ao ak #[0,0,g2 aP (g2 aP (ae 1) ↑4) (ae 8),↑40]))
   (az (iO [7] 7 (f9 #[0,g2 aP ↑1 (g2 fE (ae 9) ↑4),g2 dIx (g9 #[0,↑0,↑1,↑1,↑0,gC .none]) (g2 fE (g2 jq (ae 9) ↑4) ↑5)]))
   (sIf (iT (gT (ae 3))) (uE 7 (g1 lq ↑1) (f9 #[0,g2 dIx (g2 dIx (ae 7) (g1 lq ↑1)) ↑0,gC .none])) ba))
     [Y (au ns),⇑a,⇑top,Y (.bool b),Y ev,Y la,Y e,↥B',⇑(0+(i:Z)),f]
  =.nx [Y (au ns),⇑a,⇑top,Y (.bool b),Y ev,Y la,Y e,↥(B'++[aN (fP ns (a+4+(i:Z)) b)]),⇑(0+(i:Z)),⇑(mixed ns (a+4+(0+(i:Z))) 40)]:=by
 have hm:=cG (ns:=ns) (k:=a+4+(0+(i:Z))) (y1:=40) ⋯ #[1];have m0:=dm ns (a+4+(0+(i:Z))) (y1:=40) #[1];have m1:=dS ns (a+4+(0+(i:Z))) (y1:=40) #[1];have h:a+4+(0+(i:Z))=a+4+(i:Z):=⋯
 generalize hc:mixed ns (a+4+(0+(i:Z))) 40=c at *;have j:0<=c / 4 % 5:=QM _ #[1];have l:c / 4 % 5<5:=Rb _ #[1];have m:=HY j l;have g:fP ns (a+4+(i:Z)) b=(1+c % 4,if b then mD (c / 4 % 5) else S):=by unfold fP;rw[<-h,hc]
 have n:aJ [7] 9 (ao ak #[0,0,g2 aP (g2 aP (ae 1) ↑4) (ae 8),↑40]) [Y (au ns),⇑a,⇑top,Y (.bool b),Y ev,Y la,Y e,↥B',⇑(0+(i:Z)),f]
    =.nx [Y (au ns),⇑a,⇑top,Y (.bool b),Y ev,Y la,Y e,↥B',⇑(0+(i:Z)),⇑c]:=by
   rw[iF,FC #[2]];dsimp[bp,ay,aF,bQ,aC (show 0∉[7] by decide),aC (show 1∉[7] by decide),aC (show 8∉[7] by decide),aq,av,cA,Rs.ag,dD,Rs.ai,hm,aw];rfl
 have s2:iO [7] 7 (f9 #[0,g2 aP ↑1 (g2 fE (ae 9) ↑4),g2 dIx (g9 #[0,↑0,↑1,↑1,↑0,gC .none]) (g2 fE (g2 jq (ae 9) ↑4) ↑5)])
     [Y (au ns),⇑a,⇑top,Y (.bool b),Y ev,Y la,Y e,↥B',⇑(0+(i:Z)),⇑c]
    =.nx [Y (au ns),⇑a,⇑top,Y (.bool b),Y ev,Y la,Y e,↥(B'++[aN (1+c % 4,mD (c / 4 % 5))]),⇑(0+(i:Z)),⇑c]:=by
   unfold iO;dsimp[QV,QW];dsimp[mU,Ap,ay,aF,bQ,aC (show 9∉[7] by decide),aq,av,cA,Rs.ag,dD,Rs.ai,tR,vt,FC (show (0:Z)<4 by decide),FC (show (0:Z)<5 by decide),FC (show (0:Z)<4/\(4:Z)<1073741824 by decide),HM,m,aw,FC (show B'.length<1000000 by omega)];rfl
 rw[aQ,n];simp only;rw[aQ,s2];simp only;cases b with
 |true =>rw[g];simp
 |false =>
   rw[g];have hl:atI (B'++[aN (1+c % 4,mD (c / 4 % 5))]) (-1)=Y (aN (1+c % 4,mD (c / 4 % 5))):=by rw[l9];simp
   have o:ixN (B'++[aN (1+c % 4,mD (c / 4 % 5))]).length (-1)=Y B'.length:=by unfold ixN;rw[GC #[1],PU,Qr,FC ⋯];congr 1;omega
   have p:(B'++[aN (1+c % 4,mD (c / 4 % 5))]).set B'.length (.tuple [.int (1+c % 4),.none])=B'++[aN (1+c % 4,S)]:=by rw[RY _ _ (PN _)];simp;rfl
   have q:fW (.tuple [.int (1+c % 4),.none])=true:=As (1+c % 4,S);rw[dF];dsimp[wy,fh,aq,av,Rs.ag,bO,aw,VB,Sn];unfold uE;dsimp[QV,QW,mU,ay,aF,bQ,iE,aq,av,cA,Rs.ag,Ge,Rs.ai,HM,hl,FZ,aw,o,q,Sn,p];rfl
theorem kC{j:Z}(h0:0<=j)(h1:j<1000000):E1 [.int j]=.ok (bV 0 j.toNat):=by show (if _ then _ else _)=_;rw[FC ⋯]
theorem km{lo:Z}{n:O}{d:L}(h:(bV lo n)[i]?=Y d):i<n/\d=.int (lo+(i:Z)):=by have hi:=(Qa.mp h).1;rw[eE]at hi;unfold bV at h;rw[Q5,R6 hi]at h;exact⟨hi,(P' h).symm⟩
theorem sU(n:O)(g:O->α):(LN (n+1)).map g=(LN n).map g++[g n]:=by rw[Xf,Qm];rfl
theorem Ib{f:L->Z->Z->R0->Rs L}(h:(match ds with|[a,.int x1,.int x2,.bool x3]=>f a x1 x2 x3|_=>.no)≠.no):∃a x1 x2 x3,ds=[a,.int x1,.int x2,.bool x3]/\f a x1 x2 x3≠.no:=by
 rcases ds with _|⟨a,_|⟨x1,_|⟨x2,_|⟨x3,_|⟨y,ys⟩⟩⟩⟩⟩
 .cases h rfl
 .cases h rfl
 .first|cases h rfl|(cases x1 <;> cases h rfl)
 .first|cases h rfl|(cases x1 <;> first|cases h rfl|(cases x2 <;> cases h rfl))
 .skip
  cases x1 with
  |int x1 =>
   cases x2 with
   |int x2 =>
    cases x3 with
    |bool x3 =>exact⟨_,_,_,_,rfl,h⟩
    |_=>cases h rfl
   |_=>first|cases h rfl|(cases x3 <;> cases h rfl)
  |_=>first|cases h rfl|(cases x2 <;> first|cases h rfl|(cases x3 <;> cases h rfl))
 .first|cases h rfl|(cases x1 <;> first|cases h rfl|(cases x2 <;> first|cases h rfl|(cases x3 <;> cases h rfl)))
theorem wH(cs:Cs):LLq (iR cs ak) 4 6 cy:=by
 intro ds hl c;obtain⟨s,a,top,b,q,p⟩:=Ib c;clear c;subst q;have c:=p;clear p
 .skip
  split at c
  .rename_i ns h;have es:s=au ns:=by
    unfold gD at h;split at h
    .rename_i l;rw[eI h];rfl
    .cases h
   subst es;split at c
   .rename_i hc;obtain⟨ha,j,m⟩:=hc;rw[j6 ha j m];show bc (iR cs ak [Y (au ns),⇑a,⇑top,Y (.bool b),S,S,S,S,S,S])=_;have hm:∀k y1:Z,0<=k->0<y1->ak [au ns,.int k,.int y1]=.ok (.int (mixed ns k y1)):=λk y1 h1 h2=>cG h1 h2
    have a1:=dm ns a j;have lb:=zR ns a (3+mixed ns a top) ⋯;have b1:=dm ns (a+1) (y1:=4) #[1];have b2:=dS ns (a+1) (y1:=4) #[1];have n1:=dm ns (a+3) (y1:=3) #[1];have n2:=dS ns (a+3) (y1:=3) #[1];have c1:=dm ns (a+6) (y1:=3) #[1];have c2:=dS ns (a+6) (y1:=3) #[1]
    -- every
    have r:aJ [7] 4 (g2 aP ↑3 (ao ak #[0,0,1,2])) [Y (au ns),⇑a,⇑top,Y (.bool b),S,S,S,S,S,S]
      =.nx [Y (au ns),⇑a,⇑top,Y (.bool b),⇑(3+mixed ns a top),S,S,S,S,S]:=by
     rw[iF,FC #[2]];dsimp[bp,ay,aF,bQ,aC (show 0∉[7] by decide),aC (show 1∉[7] by decide),aC (show 2∉[7] by decide),aq,av,cA,Rs.ag,hm a top ha j,dD,Rs.ai,aw];rfl
    generalize hev:3+mixed ns a top=ev at *;have evp:3<=ev:=⋯
    have s2:aJ [7] 5 (g2 fB (ao ak #[0,0,g2 aP (ae 1) ↑1,↑4]) (gF Al #[0,g2 dEq (ao ak #[0,0,g2 aP (ae 1) ↑2,↑3]) ↑0])) [Y (au ns),⇑a,⇑top,Y (.bool b),⇑ev,S,S,S,S,S]
      =.nx [Y (au ns),⇑a,⇑top,Y (.bool b),⇑ev,⇑(mixed ns (a+1) 4*(if mixed ns (a+2) 3=0 then 1 else 0)),S,S,S,S]:=by
     rw[iF,FC #[2]];dsimp[bp,ay,aF,bQ,gN,aC (show 0∉[7] by decide),aC (show 1∉[7] by decide),aq,av,cA,Rs.ag,dD,Rs.ai,hm (a+1) 4 ⋯ #[1],hm (a+2) 3 ⋯ #[1],kU,Fz];rw[t8 ⋯ ⋯];dsimp[Rs.ai,aw,TB];rfl
    have u:aJ [7] 5 (gF j9 #[0,5,g2 cK (ae 4) ↑1]) [Y (au ns),⇑a,⇑top,Y (.bool b),⇑ev,⇑(mixed ns (a+1) 4*(if mixed ns (a+2) 3=0 then 1 else 0)),S,S,S,S]
      =.nx [Y (au ns),⇑a,⇑top,Y (.bool b),⇑ev,⇑(jK ns a ev),S,S,S,S]:=by
     rw[iF,FC #[2]];dsimp[gN,ay,aF,bQ,aC (show 4∉[7] by decide),aC (show 5∉[7] by decide),aq,av,cA,Rs.ag,oF,Rs.ai,A7,aw];rfl
    generalize hla:jK ns a ev=la at *;have v:aJ [7] 6 (g2 cK (ae 4) (ae 5)) [Y (au ns),⇑a,⇑top,Y (.bool b),⇑ev,⇑la,S,S,S,S]
      =.nx [Y (au ns),⇑a,⇑top,Y (.bool b),⇑ev,⇑la,⇑(ev-la),S,S,S]:=by
     rw[iF,FC #[2]];dsimp[bQ,aC (show 4∉[7] by decide),aC (show 5∉[7] by decide),aq,av,Rs.ag,oF,Rs.ai,aw];rfl
    have w:sIf (gT (g2 dEq (ao ak #[0,0,g2 aP (ae 1) ↑1,↑3]) ↑0)) (aJ [7] 6 (g2 cK (ae 6) (ao ak #[0,0,g2 aP (ae 1) ↑2,6]))) ba
        [Y (au ns),⇑a,⇑top,Y (.bool b),⇑ev,⇑la,⇑(ev-la),S,S,S]
      =.nx [Y (au ns),⇑a,⇑top,Y (.bool b),⇑ev,⇑la,⇑(qG ns a (ev-la)),S,S,S]:=by
     rw[dF];dsimp[fh,bQ,bp,ay,aF,aq,av,cA,Rs.ag,dD,Rs.ai,hm (a+1) 3 ⋯ #[1],kU,bO,aw];by_cases z:mixed ns (a+1) 3=0
     · rw[FC (by simp[z]),iF,FC #[2]];dsimp[bp,ay,aF,bQ,aC (show 0∉[7] by decide),aC (show 1∉[7] by decide),aC (show 6∉[7] by decide),aq,av,cA,Rs.ag,dD,Rs.ai,hm (a+2) (ev-la) ⋯ ⋯,oF,aw];unfold qG;rw[FC z];rfl
     · rw[GC (by simp[z])];unfold qG;rw[GC z];rfl
    generalize hdu:qG ns a (ev-la)=du at *;have x:ff [7] 7 ah [Y (au ns),⇑a,⇑top,Y (.bool b),⇑ev,⇑la,⇑du,S,S,S]
      =.nx [Y (au ns),⇑a,⇑top,Y (.bool b),⇑ev,⇑la,⇑du,↥[],S,S]:=rfl
    have src:fK #[0,ao ak #[0,0,g2 aP (ae 1) ↑3,↑3]] (mask [7] [Y (au ns),⇑a,⇑top,Y (.bool b),⇑ev,⇑la,⇑du,↥[],S,S])=.ok (bV 0 (mixed ns (a+3) 3).toNat):=by dsimp[nF,bp,ay,aF,bQ,aC (show 0∉[7] by decide),aC (show 1∉[7] by decide),aq,av,cA,Rs.ag,dD,Rs.ai,hm (a+3) 3 ⋯ #[1]];exact kC n1 ⋯
    obtain⟨δ',e,x8,f,n⟩:=kn (β:=XI) (tgt:=aU 8) (body:=az (aJ [7] 9 (ao ak #[0,0,g2 aP (g2 aP (ae 1) ↑4) (ae 8),↑40]))
  (az (iO [7] 7 (f9 #[0,g2 aP ↑1 (g2 fE (ae 9) ↑4),g2 dIx (g9 #[0,↑0,↑1,↑1,↑0,gC .none]) (g2 fE (g2 jq (ae 9) ↑4) ↑5)]))
  (sIf (iT (gT (ae 3))) (uE 7 (g1 lq ↑1) (f9 #[0,g2 dIx (g2 dIx (ae 7) (g1 lq ↑1)) ↑0,gC .none])) ba)))
     (λi δ=>∃x8 f,δ=[Y (au ns),⇑a,⇑top,Y (.bool b),⇑ev,⇑la,⇑du,↥((LN i).map λ(k:O)=>aN (fP ns (a+4+(k:Z)) b)),x8,f])
     (bV 0 (mixed ns (a+3) 3).toNat) 0 (λi d δ hi o=>by obtain⟨x8,f,y⟩:=o;subst y;rw[QG]at *;obtain⟨hil,rfl⟩:=km hi;refine⟨[Y (au ns),⇑a,⇑top,Y (.bool b),⇑ev,⇑la,⇑du,↥((LN i).map λ(k:O)=>aN (fP ns (a+4+(k:Z)) b)),⇑(0+(i:Z)),f],_,rfl,zX ns a top b (.int ev) (.int la) (.int du) ha _ (by simp;omega) i S f,⇑(0+(i:Z)),⇑(mixed ns (a+4+(0+(i:Z))) 40),?_⟩;rw[sU]) [Y (au ns),⇑a,⇑top,Y (.bool b),⇑ev,⇑la,⇑du,↥[],S,S] ⟨S,S,rfl⟩
    subst n;rw[QG,eE]at e;have hd:(mkE ns a top b).d=.tuple [.int ev,.int du,.int la,.tuple (((LN (mixed ns (a+3) 3).toNat).map λ(k:O)=>aN (fP ns (a+4+(k:Z)) b))++[aN (1+mixed ns (a+6) 3,S)])]:=by dsimp[mkE,Er.d,Qm,Q8,hev,hla,hdu];rfl
    rw[hd];dsimp[iR];rw[aQ,r];simp only;rw[aQ,s2];simp only;rw[aQ,u];simp only;rw[aQ,v];simp only;rw[aQ,w];simp only;rw[aQ,x];simp only;rw[aQ,iB,src,aw,e];simp only;dsimp[bW,mU,Ap,ay,aF,bQ,gN,bp,aq,av,cA,Rs.ag,dD,Rs.ai,hm (a+6) 3 ⋯ #[1]];have g:aP (.list ((LN (mixed ns (a+3) 3).toNat).map λ(k:O)=>aN (fP ns (a+4+(k:Z)) b))) (.list [.tuple [.int (1+mixed ns (a+6) 3),.none]])=↥(((LN (mixed ns (a+3) 3).toNat).map λ(k:O)=>aN (fP ns (a+4+(k:Z)) b))++[aN (1+mixed ns (a+6) 3,S)]):=by show (if _ then _ else _)=_;rw[FC (by simp;omega)];rfl
    rw[g];simp
   .cases c rfl
  .cases c rfl
def b0:Gf
 |[s,.int a,.int most,.int top,.bool tools]=>(match gD s with
  |some ns=>if 0<=a/\0<most/\most<=6/\0<top/\top<=58 then .ok (ar (sX ns a most top tools)) else .no
  |none=>.no)
 |_=>.no
theorem jA{most top:Z}{b:R0}(h1:0<=a)(h2:0<most)(h3:most<=6)(c:0<top)(e:top<=58):b0 [au ns,.int a,.int most,.int top,.bool b]=.ok (ar (sX ns a most top b)):=by unfold b0;simp[gW,h1,h2,h3,c,e]
theorem jE{s:L}(a:gD s=Y ns):s=au ns:=by
 unfold gD at a;split at a
 .rename_i l;rw[eI a];rfl
 .cases a
theorem Ea{f:L->Z->Z->Z->R0->Rs L}(h:(match ds with|[a,.int x1,.int x2,.int x3,.bool x4]=>f a x1 x2 x3 x4|_=>.no)≠.no):∃a x1 x2 x3 x4,ds=[a,.int x1,.int x2,.int x3,.bool x4]/\f a x1 x2 x3 x4≠.no:=by
 rcases ds with _|⟨a,_|⟨x1,_|⟨x2,_|⟨x3,_|⟨x4,_|⟨y,ys⟩⟩⟩⟩⟩⟩
 .cases h rfl
 .cases h rfl
 .first|cases h rfl|(cases x1 <;> cases h rfl)
 .first|cases h rfl|(cases x1 <;> first|cases h rfl|(cases x2 <;> cases h rfl))
 .first|cases h rfl|(cases x1 <;> first|cases h rfl|(cases x2 <;> first|cases h rfl|(cases x3 <;> cases h rfl)))
 .skip
  cases x1 with
  |int x1 =>
   cases x2 with
   |int x2 =>
    cases x3 with
    |int x3 =>
     cases x4 with
     |bool x4 =>exact⟨_,_,_,_,_,rfl,h⟩
     |_=>cases h rfl
    |_=>first|cases h rfl|(cases x4 <;> cases h rfl)
   |_=>first|cases h rfl|(cases x3 <;> first|cases h rfl|(cases x4 <;> cases h rfl))
  |_=>first|cases h rfl|(cases x2 <;> first|cases h rfl|(cases x3 <;> first|cases h rfl|(cases x4 <;> cases h rfl)))
 .first|cases h rfl|(cases x1 <;> first|cases h rfl|(cases x2 <;> first|cases h rfl|(cases x3 <;> first|cases h rfl|(cases x4 <;> cases h rfl))))
theorem uA(cs:Cs):LLq (ie cs cy ak) 5 1 b0:=by
 intro ds hl c;obtain⟨s,a,most,top,b,n,l⟩:=Ea c;clear c;subst n;have c:=l;clear l
 .skip
  split at c
  .rename_i ns o;have es:=jE o;subst es;split at c
   .rename_i hc;obtain⟨ha,e,g,m,f⟩:=hc;rw[jA ha e g m f];have hm:=cG (ns:=ns) ha e;have m1:=dm ns a e;have m2:=dS ns a e;have h:a9 6 (fK #[0,5]) bF (ao cy #[0,0,g2 aP (g2 aP (ae 1) ↑1) (g2 fB ↑7 (ae 6)),3,4]) aL
      [Y (au ns),⇑a,⇑most,⇑top,Y (.bool b),⇑(1+mixed ns a most)]=.ok ((bV 0 (1+mixed ns a most).toNat).map λd=>(mkE ns (a+1+7*deI d) top b).d) :=
     dR rfl (by dsimp[nF,ay,aF,aq,av,Rs.ag];exact kC ⋯ ⋯) (by rw[eE];omega) λd hd=>by obtain⟨i,hi⟩:=VC hd;obtain⟨_,rfl⟩:=km hi;dsimp[Qx,Qs,bp,ay,aF,bQ,aq,av,cA,Rs.ag,dD,Rs.ai];rw[t8 #[1] #[1]];dsimp[Rs.ai,Rs.ag,dD];exact j6 ⋯ m f
    have j:ar (sX ns a most top b)=.tuple ((bV 0 (1+mixed ns a most).toNat).map λd=>(mkE ns (a+1+7*deI d) top b).d):=by
     unfold ar sX bV;rw[Q8,Q8];congr 1;refine Q3 λk _=>?_
     simp[deI]
    rw[j];show bc (ie cs cy ak [Y (au ns),⇑a,⇑most,⇑top,Y (.bool b),S])=_;dsimp[ie,aQ,gH,PZ,QF,Uw,UG,Sn,bp,ay,aF,bQ,aq,av,cA,Rs.ag,hm,dD,Rs.ai,aw,Rc,Rg,bW,gN,mX,h,GI,a8]
   .cases c rfl
  .cases c rfl
end RS
namespace RS
open PySem PySem.Spec PyProof.Rows L2
section
theorem CV{k:O}{G:Ds->Sr}(F:Fun K x qual st f fd)(D1:dH N ps (aH st))(c:∀i∈D2,ps.length<=i)
  (body:∀(cdv:F')(A:Ss)(outer:J WH)(s:K')(H:Hp)(E:XK),cH k (A.deeper (envOfC qual (aH st) s.heap.objs.size f cdv))->PBD (d8 (CXW P w) P w K mg base N qual (aH st) f cdv A outer s H E) E D2 (cw st) G)
  (e:∀ds,ds.length=ps.length->gf ds≠.no->bc (G (ds.map Y++I' (N.length-ps.length) S))=gf ds):iP P w K mg base (CXW P w) (k+1) f fd ps (spD K ps.length gf):=by
 refine nX F D1 (λvs H Q E h=>?_) (λcdv A outer s H vs Q E g h=>?_)
 .obtain⟨A,ds,b,hi,hl,o⟩:=h;rw[hi.length,hl]
 .obtain⟨A0,ds,b,hi,hl,o⟩:=h;refine⟨_,body cdv A outer s H E g,H,A0,[],_,cj.start b hi hl c,?_⟩;have a:=e ds hl (λz=>by rw[z]at o;exact o);cases q:G (ds.map Y++I' (N.length-ps.length) S) with
  |rt d=>rw[q]at a;rw[<-a]at o;exact λv H' s' hv=>o v H' s' hv
  |nx δ=>rw[q]at a;rw[<-a]at o;exact λA' σ H' j=>o .non H' j.same is_none
  |rz C=>rw[q]at a;rw[<-a]at o;exact λH' s'=>o H' s'
  |bk δ=>rw[q]at a;rw[<-a]at o;exact o.elim
  |ct δ=>rw[q]at a;rw[<-a]at o;exact o.elim
  |no=>rw[q]at a;rw[<-a]at o;exact o.elim
theorem GQ{b:SN (D' F')}{kV e:F'}(X:K.In h)(G:h.Ns mainGlobals mg)
  (g:∀(kV doc pm:F')(an:D' HL)(cdv ct:F')(us:J F'),us.length=ps.length->bindArgs (V0 x x (gw st) (cw st) (aH st) .none kV doc pm an cdv ct) ⟨us,[]⟩=pure (ps.zip us))
  (a:Xo K mainGlobals x=Y (Y (.ref f)))
  (l:K.lookup f=Y ⟨oc,od,.func (V0 x x (gw st) (cw st) (aH st) .none kV e pm an cd ct),b⟩)
  (c:Wh K cd x=true) (k:Uo K (.ref f)=true):bA K mg x st ps :=
 have F:=Au (st:=st) l c k
 ⟨f,_,F,F.binds g,Ys X G a⟩
theorem Cj(X:K.In h)(G:h.Ns mainGlobals mg)(a:Xo K mainGlobals x=Y (Y (.ref C)))
 (e:Xl K C [.type "ValueError",.type "Exception",.type "BaseException",.type "object"] "ValueError.__new__"=true):ur K mg x C:=⟨Ys X G a,e⟩
theorem JG{t:_}(X:K.In h)(G:h.Ns mainGlobals mg)(a:Xo K mainGlobals x=Y (Y (.int n t))):∃t,mg x=Y (.int n t):=⟨t,Ys X G a⟩
end
def ig(n:O):Gf
 |[s]=>(match gD s with
  |some ns=>if ns.length<=n then .ok (.bool true) else .no
  |none=>.no)
 |_=>.no
theorem OS{l:W.OpenLaw}{n k:O}{d:Yn}{K:Yl->N'}
  (hn:l.most=Y n) (i:n<=sizeLine) (j:d.params.defaults=[]) (A:cH k callerA)
  (B:∀(w:T1)(h:Sy),YP w h->(K w.params).In h)
  (C:∀(kV doc pm:F')(an:D' HL)(cdv ct:F')(us:J F'),us.length=1->bindArgs (V0 d.name d.name (gw st) (cw st) (aH st) .none kV doc pm an cdv ct) ⟨us,[]⟩=pure ([x].zip us))
  (F:∀(w:T1)(mg:M'->D' F')(h:Sy),(K w.params).In h->h.Ns mainGlobals mg->
   bA (K w.params) mg d.name st [x]/\∀f fd,Fun (K w.params) d.name d.name st f fd->∀base:Sy,(K w.params).In base->base.Ns mainGlobals mg->L2.qm mg base->iP l.prog w (K w.params) mg base (CXW l.prog w) k f fd [x] (spD (K w.params) 1 (ig n)))
  (o:∀(w:T1)(h:Sy)(c:J M')(g:ExcName->D' F')(mg D:M'->D' F'),WQ q c g mg D h->(K w.params).In h->L2.pe (K w.params) h:=by exact λ_ _ _ _ _ _ _ _=>L2.tabsIn_nil rfl) :
  W.WalkO q loose XP YP l.row.toRowW d [] (λf vs=>PySem.call f vs) :=
 L2.CH (n:=n) (k:=k) (x:=x) (CX:=λw=>CXW l.prog w) (sp:=λw=>spD (K w.params) 1 (ig n)) hn i j A B
  (λw mg E h X G p=>by obtain⟨⟨f,fd,y,b,m⟩,I⟩:=F w mg h X G;have e:=p.symm.trans m;cases e;refine⟨fd,λs u=>?_,I E fd y⟩;obtain⟨oc,od,kV,doc,pm,an,cdv,ct,osl,rfl,lk,hcd⟩:=y.ex;exact .of_eq (C kV doc pm an cdv ct [u] rfl))
  (λw H a ns hl hO Bk=>by
   refine⟨[],[au ns],?_,?_,rfl,?_⟩
   .exact Ls.nil
   .rw[Co];exact⟨_,[],rfl,Dv Bk,rfl⟩
   .have B':ig n [au ns]=.ok (.bool true):=by unfold ig;simp[gW,hl]
    rw[B'];intro v H' _ hv;rw[Co]at hv;unfold Is at hv;exact hv)
  (λw H s e s' r=>(by obtain⟨_,_,_,_,_,_,z,_⟩:=r;exact z)) o
end RS
set_option maxHeartbeats 4000000
namespace L2
open PySem PySem.Spec PyProof.Rows
variable {ge:Ds->Rs L}
def JZ(K:N')(x:M'):Prop:=∃f oc od fd a c P o vs,Xo K mainGlobals x=Y (Y (.ref f))/\K.lookup f=Y ⟨oc,od,.func fd,a⟩/\fd.code=.ref c/\K.lookup c=Y o/\o.data=.fields vs/\vs[11]?=Y (.ref P)/\W.codeHdIn K c P=true
section
theorem jL.ofL{k:O}{G:Ds->Sr}(F:Fun K x x st f fd)(D1:dH N ps (aH st))(b:Binds K fd ps [])(m:mg x=Y (.ref f))(D:∀i∈D2,ps.length<=i)
  (I:x∈oB) (hm:∀g,Xo K mainGlobals x=Y (Y (.ref g))->mg x=Y (.ref g)) (Bk:JZ K x) (hB:qm mg base) (hK:K.In base) (M:∀(B':HL)(cdv:F'),(envOfC x (aH st) B' f cdv).qual++"<lambda>"=x++".<locals>.<lambda>")
  (body:∀(cdv:F')(A:Ss)(outer:J WH)(s:K')(H:Hp)(E:XK),cH k (A.deeper (envOfC x (aH st) s.heap.objs.size f cdv))->∀c l,Ia (d8 (CXW P w) P w K mg base N x (aH st) f cdv A outer s H E) c l->PBD (d8 (CXW P w) P w K mg base N x (aH st) f cdv A outer s H E) E D2 (cw st) G)
  (R:∀ds,ds.length=ps.length->gf ds≠.no->bc (G (ds.map Y++I' (N.length-ps.length) S))=gf ds):jL P w K mg base (k+1) x ps.length gf:=by
 obtain⟨oc,od,kV,doc,pm,an,cdv,ct,osl,rfl,n,p⟩:=F.ex;obtain⟨j,oc',od',fd',sl',c,l,o,vs,u,y,T,U,X,A2,A4⟩:=Bk;have hf:j=f:=by have:=hm j u;rw[m]at this;cases this;rfl
 subst hf;rw[n]at y;have r:cdv=.ref c:=by cases y;exact T
 subst r;obtain⟨bm,ob,b1,b2,b3,b4,b5,b6,b7⟩:=hB;refine⟨j,_,ps,Hh n p D1 (λvs H Q E h=>?_) (λA outer s H vs' Q E hr h=>?_),m,F.kp,b⟩
 .obtain⟨A,ds,B,hi,hl,o⟩:=h;rw[hi.length,hl]
 .obtain⟨A0,ds,B,hi,hl,e⟩:=h;refine⟨_,body (.ref c) A outer s H E hr c l ⟨?_,rfl,W.codeHd_of_K hK A4,bm,ob,b1,b2,b3,b4,b5,b6,b7⟩,H,A0,[],_,cj.start B hi hl D,?_⟩
  .exact⟨x,I,j,_,_,_,_,c,u,n,rfl,⟨o,vs,U,X,A2⟩,M _ _⟩
  .have a:=R ds hl (λz=>by rw[z]at e;exact e);cases q:G (ds.map Y++I' (N.length-ps.length) S) with
   |rt d=>rw[q]at a;rw[<-a]at e;exact λv H' s' hv=>e v H' s' hv
   |nx δ=>rw[q]at a;rw[<-a]at e;exact λA' σ H' R'=>e .non H' R'.same is_none
   |rz C=>rw[q]at a;rw[<-a]at e;exact λH' s'=>e H' s'
   |bk δ=>rw[q]at a;rw[<-a]at e;exact e.elim
   |ct δ=>rw[q]at a;rw[<-a]at e;exact e.elim
   |no=>rw[q]at a;rw[<-a]at e;exact e.elim
end
def hW(cond:Ds->Rs R0)(elt:Ds->Rs L)(tgt:L->D' Ds)(δ a:Ds):J L->Rs (J L)
 |[]=>.ok []
 |d::r=>match tgt d with
  |none=>.no
  |some own=>(cond (a++own)).calm.bind λb=>if b=true then (elt (δ++own)).calm.bind λx=>(hW cond elt tgt δ a r).bind λxs=>.ok (x::xs) else hW cond elt tgt δ a r
def qc(n0:O)(src:Ds->Rs (J L))(cond:Ds->Rs R0)(elt:Ds->Rs L)(tgt:L->D' Ds):Ds->Ds->Rs (J L):=λδ a=>if δ.length=n0 then (src δ).bind λds=>if ds.length<=1000000 then hW cond elt tgt δ a ds else .no else .no
theorem Jr{E:XK}{g:TG}{tt:TT}(hT:TgD K n0 own.length tgt g)(htt:∀σ H Q,cD K E0 cond σ H Q->tt σ H Q){Q:VK}{U:J HL}{c:Ds}(R:eF K H A δ σ)(D1:eF K H U c σ)(B':∀a∈U,a∈A)(o:JJ K E A H (qc n0 gi cond ge tgt δ c) Q) :
  tLC own.length (iD K E gi) g tt (eD K E0 ge) σ H Q:=by
 unfold qc at o;by_cases hn0:δ.length=n0
 case neg=>rw[GC hn0]at o;exact o.elim
 rw[FC hn0]at o;have hσ:σ.length=n0:=by rw[<-R.len];exact hn0
 refine⟨A,δ,R,?_⟩;cases q:gi δ with
 |no=>rw[q]at o;exact o
 |rz C=>rw[q]at o;exact o
 |ok ds =>
  rw[q]at o;have o:JJ K E A H (if ds.length<=1000000 then hW cond ge tgt δ c ds else .no) Q:=o;by_cases hz:ds.length<=1000000
  case neg=>rw[GC hz]at o;exact o.elim
  rw[FC hz]at o;intro Bk H1 T hJ D M;have R1:=R.same T;have nD:D∉A:=R1.ls.new M;cases qo:hW cond ge tgt δ c ds with
  |rz C =>
   exfalso;have:∀l,hW cond ge tgt δ c l≠.rz C:=by
    intro l
    induction l with
    |nil=>intro z;cases z
    |cons d r ih =>
     intro z;unfold hW at z;split at z
     .cases z
     .rename_i w _;cases c1:cond (c++w) with
      |ok b =>
       dsimp[c1,Rs.cM,Rs.ag]at z;split at z
       .cases B:ge (δ++w) with
        |ok x =>
         dsimp[B,Rs.cM,Rs.ag]at z;cases F:hW cond ge tgt δ c r with
         |ok l=>dsimp[F,Rs.ag]at z;cases z
         |rz C'=>dsimp[F,Rs.eZ]at z;cases z;exact ih F
         |no=>dsimp[F,Rs.bH]at z;cases z
        |rz C'=>dsimp[B,Rs.calm,Rs.bH]at z;cases z
        |no=>dsimp[B,Rs.calm,Rs.bH]at z;cases z
       .exact ih z
      |rz C'=>dsimp[c1,Rs.calm,Rs.bH]at z;cases z
      |no=>dsimp[c1,Rs.calm,Rs.bH]at z;cases z
   exact this ds qo
  |no=>rw[qo]at o;exact o.elim
  |ok out =>
   rw[qo]at o;have base:aA (del H1 A) (del (upd H1 D (.lst [])) (D::A)):=λb o e=>by obtain⟨z,e⟩:=bu e;have nb:b≠D:=aR e M;rw[aV (by simp[nb,z]),aE nb];exact e
   refine⟨λi m ys H'=>m=ds.length-i/\i<=ds.length/\aA H1 H'/\H' D=Y (.lst ys)/\ys.length<=i/\∃X rest,hW cond ge tgt δ c (ds.drop i)=.ok rest/\out=X++rest/\Iss K (del H' (D::A)) X ys,
    ⟨ds.length,by simp,QH _,bS M,aM,PN _,[],out,qo,rfl,dw⟩,?_⟩
   rintro i m ys H' ⟨rfl,hi,G,hl,hy,X,rest,c1,B,F⟩
   refine⟨hl,?_⟩;have sG:aA (del H1 A) H':=aB.trans G;have A2:∀b∈D::A,(del H1 A) b=none:=λb N=>by
    rcases P8.mp N with z|z
    .rw[z,aV nD];exact M
    .exact ja z
   obtain⟨jg,js,jy⟩:=hJ H' (D::A) sG (λb N=>by
    rcases P8.mp N with z|z
    .exact⟨_,by rw[z];exact hl,rfl⟩
    .exact (R1.ls.same G) b z) A2
   by_cases hlt:i<ds.length
   .refine .inr ⟨jg i hlt,λx H2 σ' A4 y=>?_⟩;obtain⟨s2,d,ed,hd⟩:=jy i x H2 hlt y;have edr:ds.drop i=d::ds.drop (i+1):=by
     rw[Ri hlt];have:ds[i]=d:=by have:=My hlt;rw[this]at ed;exact P' ed
     rw[this]
    rw[edr]at c1;unfold hW at c1;cases et:tgt d with
    |none=>rw[et]at c1;cases c1
    |some ow =>
     rw[et]at c1;have l2:H2 D=Y (.lst ys):=s2 _ _ hl;have h:Ls H2 (D::A):=λb N=>by
      rcases P8.mp N with z|z
      .exact⟨_,by rw[z];exact l2,rfl⟩
      .exact (R1.ls.same (G.trans s2)) b z
     obtain⟨hol,hgo⟩:=hT d x σ σ' H2 (D::A) (λj H2=>tt j H2 λb H3 =>
      if b=true then eD K E0 ge j H3 λv H4=>H4 D=Y (.lst ys)/\ys.length<sizeLine/\(∃f,j=σ++f/\f.length=own.length)/\∃m',m' < ds.length-i/\_
      else (∃f,j=σ++f/\f.length=own.length)/\∃m',m' < ds.length-i/\_) ow hσ A4 h hd et
     refine hgo λvs n I=>?_
     have sAll:aA (del H1 A) (del H2 (D::A)):=nZ (sG.trans s2) A2;have RE:eF K H2 (D::A) (δ++ow) (σ++vs):=by
      refine⟨h,by rw[PU,PU,R.len,n,hol],λk e p=>?_⟩;by_cases hk:k<δ.length
      .rw[Qc hk]at p;obtain⟨u,e1,D2⟩:=R1.get k e p;exact⟨u,by rw[Qc (by rw[<-R.len];exact hk)];exact e1,D2.same sAll⟩
      .rw[Qh ⋯]at p;obtain⟨u,e1,D2⟩:=I _ e p;exact⟨u,by rw[Qh (by rw[<-R.len];omega),<-R.len];exact e1,D2⟩
     have RE2:eF K H2 (D::U) (c++ow) (σ++vs):=by
      have hsub:aA (del H2 (D::A)) (del H2 (D::U)):=λb u s=>by
       obtain⟨q1,q2⟩:=bu s;rw[aV (λz=>q1 (by
        rcases P8.mp z with z|z
        .rw[z];exact P7
        .exact P4 _ (B' b z)))];exact q2
      have Rf1:=D1.same (T.trans (G.trans s2));have nD2:D∉U:=λz=>nD (B' D z)
      have hD0:H D=none:=T.free M;refine⟨λb N=>?_,by rw[PU,PU,D1.len,n,hol],λk e p=>?_⟩
      .rcases P8.mp N with z|z
       .exact h b (by rw[z];exact P7)
       .exact h b (P4 _ (B' b z))
      .by_cases hk:k<c.length
       .rw[Qc hk]at p;obtain⟨u,e1,D2⟩:=D1.get k e p;refine⟨u,by rw[Qc (by rw[<-D1.len];exact hk)];exact e1,D2.same λb u s=>?_⟩;obtain⟨q1,q2⟩:=bu s;have nb:b≠D:=λz=>by rw[z,hD0]at q2;cases q2
        rw[aV (by simp[nb,q1])];exact (T.trans (G.trans s2)) _ _ q2
       .rw[Qh ⋯]at p;obtain⟨u,e1,D2⟩:=I _ e p;exact⟨u,by rw[Qh (by rw[<-D1.len];omega),<-D1.len];exact e1,D2.same hsub⟩
     have bad:∀r:Rs R0,r=.rz 0->r.calm=.no:=λr e=>by rw[e];rfl
     refine htt _ _ _ (cD.run RE2 (λb s H3 P R3f=>?_) (λC s=>?_) (λs=>?_))
     .dsimp[s,Rs.cM,Rs.ag]at c1;cases b with
      |true =>
       dsimp[Sn]at c1;refine eD.run (RE.same P) (λxd ex v H4 s4 R4 hv=>?_) (λC ex=>?_) (λex=>?_)
       .dsimp[ex,Rs.cM,Rs.ag]at c1;cases cr:hW cond ge tgt δ c (ds.drop (i+1)) with
        |ok rs =>
         dsimp[cr,Rs.ag]at c1;cases c1;have l4:H4 D=Y (.lst ys):=s4 _ _ (P _ _ l2);have dU:del (upd H4 D (.lst (ys++[v]))) (D::A)=del H4 (D::A):=mf (P7);refine⟨l4,by rw[SA];omega,⟨vs,rfl,n⟩,ds.length-(i+1),⋯,rfl,hlt,?_,aM,by simp;omega,X++[xd],rs,cr,by rw[B];simp,?_⟩
         .exact aA.put (((G.trans s2).trans P).trans s4) M
         .rw[dU];exact (F.same (aA.del (s2.trans (P.trans s4)))).append (kK hv)
        |rz C=>dsimp[cr,Rs.eZ]at c1;cases c1
        |no=>dsimp[cr,Rs.bH]at c1;cases c1
       .dsimp[ex,Rs.calm,Rs.bH]at c1;cases c1
       .dsimp[ex,Rs.calm,Rs.bH]at c1;cases c1
      |false =>dsimp[Qb,SK]at c1;exact⟨⟨vs,rfl,n⟩,ds.length-(i+1),⋯,rfl,hlt,(G.trans s2).trans P,P _ _ l2,⋯,X,rest,c1,B,F.same (aA.del (s2.trans P))⟩
     .dsimp[s,Rs.calm,Rs.bH]at c1;cases c1
     .dsimp[s,Rs.calm,Rs.bH]at c1;cases c1
   .have e:i=ds.length:=⋯
    subst e;rw[Sj]at c1;cases c1;rw[QC]at B;subst B;exact .inl ⟨js,o D ys H' (T.free M) (T.trans G) hl F⟩
def tX(D2:J O)(i n0:O)(a:Ds->Rs (J L))(cond:Ds->Rs R0)(ge:Ds->Rs L)(tgt:L->D' Ds):Ds->Sr:=λδ=>if i<δ.length then ofR (qc n0 a cond ge tgt (mask D2 δ) δ) λds=>.nx (δ.set i ↥ds) else .no
section
variable {E:XK}
theorem Hw{b:Ds->Rs (J L)}{g:TG}(hc:X.calm=true)(m:X.N.Nodup)(hi:PID X E tg iter b)
  (n:TgD X.K n0 (ia tg).length tgt g) (r:∀C s2 H2 fp,PG (bk X tg scope C s2 H2 fp) tg g) (j:∀C s2 H2 fp,PIf (bk X tg scope C s2 H2 fp) ifs cond) (u:∀C s2 H2 fp,PD (bk X tg scope C s2 H2 fp) E0 elt ge) (v:i∉D2)
  (c:X.N[i]?=Y x) (w:Loc X.env.scope x) (e:swapsWith (.ListComp elt [⟨tg,iter,ifs,0⟩] scope pos) (Y (.Name x pos')) spos.line X.env=pure true)
  (hB:Mz X tg scope=true) (y:∀x,foldedSetIterable iter X.env x=pure x) (z:X.fn x=true\/X.env.scope.names.lookup x=Y .local) :
  PSD X E D2 (.Assign [.Name x pos'] (.ListComp elt [⟨tg,iter,ifs,0⟩] scope pos) spos) (tX D2 i n0 b cond ge tgt) :=
 PS.imp (tT (own:=ia tg) (te:=eD X.K E0 ge) hc m c w e hi r (λC s2 H2 fp=>(j C s2 H2 fp).pts) (λC s2 H2 fp=>u C s2 H2 fp) hB y z) λD σ H f=>by
  obtain⟨H0,A0,A,δ,R,o⟩:=f;unfold tX at o;split at o
  .rename_i hl;have l:=R.part;refine Jr n (PIf.tt (j 0 X.s₀ X.H₀ [])) l R.full (λa ha=>PR _ ha) ?_;cases q:qc n0 b cond ge tgt (mask D2 δ) δ with
   |ok ds =>rw[q]at o;intro p xs H' hn s B h;exact o A _ H' ((R.step s).set v hl (ll (by rw[aV (l.ls.new hn)];exact B) (h.same pf)))
   |rz C=>rw[q]at o;exact λH' s'=>o H' (R.same.trans s')
   |no=>rw[q]at o;exact o
  .exact o.elim
end
theorem jW.of{m:M'}{k:O}{G:Ds->Sr}(F:Fun K m qual st f fd)(D1:dH N ps (aH st))(b:Binds K fd ps [])(cl:Cls K C)(hm:Meth K C m f)(a:∀i∈D2,ps.length<=i)
  (body:∀(cdv:F')(A:Ss)(outer:J WH)(s:K')(H:Hp)(E:XK),cH k (A.deeper (envOfC qual (aH st) s.heap.objs.size f cdv))->PBD (d8 (CXW P w) P w K mg base N qual (aH st) f cdv A outer s H E) E D2 (cw st) G)
  (c:∀ds,ds.length=ps.length->gf ds≠.no->bc (G (ds.map Y++I' (N.length-ps.length) S))=gf ds):jW P w K mg base (k+1) C m ps.length gf :=
 ⟨f,fd,ps,cl,hm,RS.CV F D1 a body c,b⟩
def uB(xs ys:J L):J PyData:=J.zipWith (λa b=>Ta [a,b]) xs ys
theorem HZ{es:J L}(h1:Iss K G ds xs)(h2:Iss K G es ys)(hl:ys.length=xs.length)(c:∀H1,aA G H1->SqT K H1 a xs)(f:∀H1,aA G H1->SqL K H1 b ys):BR K (Itz K a b xs.length) (uB ds es) G:=λH1 B s m hB=>by
 have l1:=h1.length;have l2:=h2.length;have n:(uB ds es).length=xs.length:=by unfold uB;rw[VI];omega
 rw[n];refine⟨λi hi=>⟨hi,xs,ys,c H1 s,f H1 s,rfl,hl⟩,⟨rfl,xs,ys,c H1 s,f H1 s,rfl,hl⟩,λi x H2 hi y=>?_⟩;obtain⟨t,p,r,rfl,g,rfl,u,v⟩:=y;obtain⟨d,e,hd⟩:=h1.get (u xs (c H1 s));obtain⟨d',w,h⟩:=h2.get (v ys (f H1 s));refine⟨bS g,.tuple [d,d'],by unfold uB;rw[J.getElem?_zipWith,e,w],?_⟩;have A:t∉B:=m.new g;have j:aA G (del (upd H1 t (.tup [p,r])) B):=λb o q=>by have l:=s b o q;have C:b≠t:=aR l g;rw[aV (λz=>by rw[hB b z]at q;cases q),aE C];exact l
 exact jJ (by rw[aV A];exact aM) (cZ (hd.same j) (kK (h.same j)))
section
variable {E:XK}{a b:Sq}
def K6:J L->Rs (J L)
 |[.tuple xs,.list ys]=>if ys.length=xs.length then .ok (uB xs ys) else .no
 |_=>.no
def KG(g:Ds->Rs (J L)):Ds->Rs (J L):=λδ=>(g δ).bind K6
theorem KL(hm:X.mg "zip"=S)(ha:PAD X E [a,b] gs)(l:Gl X "zip")(m:starEach [a,b] X.env=[(false,eval a X.env),(false,eval b X.env)])(c:starEach [b] X.env=[(false,eval b X.env)]) :
  PID X E (.Tuple elts x1 tp) (.Call (.Name "zip" p) [a,b] [] pos) (KG gs):=(LX l hm ha.1 m c).imp λσ H R ⟨A,δ,Rp,o⟩=>rO Rp o λds vs H1 e s1 R1 h1 o=>by
 unfold K6 at o;split at o
 .split at o
  .rename_i hl;obtain⟨v,u,rfl,h,h'⟩:=Dm h1;obtain⟨p,xs,rfl,f,g⟩:=h.ofTup;obtain⟨q,ys,rfl,i,j⟩:=h'.ofLst;have l1:=g.length;have l2:=j.length;exact⟨p,q,xs,ys,rfl,SqT.of (aB _ _ f),SqL.of (aB _ _ i),⋯,o _ H1 (aA.refl _) (HZ g j ⋯ (λH2 s2=>SqT.of (s2 _ _ f)) λH2 s2=>SqL.of (s2 _ _ i))⟩
  .exact o.elim
 .exact o.elim
end
end L2
namespace RS
open PySem L2
abbrev JN:J Str:=["number", "parts", "rank", "row"]
abbrev JT:J (M'×Z):=[("job",0),("part",0),("spent",0)]
def gM(cs:Cs):Ds->Sr :=
 (az (aJ [] 2 (g2 dIx (ae 0) ↑0))
  (az (aJ [] 3 (g2 dIx (ae 0) ↑2))
  (az (aJ [] 4 (g2 cK ↑0 (ae 3)))
  (az (cY [] (br (ae 1)) (aU 5) (az (aJ [] 6 (gF fV #[0,4,g2 cK (ae 5) (ae 3)]))
  (az (sIf (gT (g2 dGt (ae 6) (ae 5))) (bq (gC (.bool false))) ba)
  (aJ [] 4 (g2 aP (ae 6) (ae 2))))))
  (bq (gC (.bool true)))))))
def oR(cs:Cs)(aT ck:Gf):Ds->Sr :=
 (az (sIf (cOr (iT (gT (g1 (mY "list") (ae 1)))) (gT (g2 dGt (gF cp #[0,1]) ↑60))) (bq (gC (.bool false))) ba)
  (bq (DJ (gF qN #[0,gL (a9 2 (br (ae 1)) bF (ao aT #[0,2,↑0,↑9999]) aL)]) (ao ck #[0,0,1]))))
def fc(cs:Cs)(dX bD:Gf):Ds->Sr :=
 (az (lp (ao bD #[0,0]))
  (az (sIf (cOr (iT (gT (g1 (mY "list") (ae 1)))) (gT (g2 dNe (gF cp #[0,1]) (gF cp #[0,0])))) (kq cs.NoComings #[0,gC (.str "comings are a list of one list for each errand")]) ba)
  (az (sIf (iT (gT (gF qN #[0,gL (a9 2 (KG #[0,0,1]) bF (ao dX #[0,2,3]) fQ)]))) (kq cs.NoComings #[0,gC (.str "an errand can not come so")]) ba)
  (bq (gL (a9 2 (br (ae 1)) bF (gF Ah #[0,2]) aL))))))
def eO(cs:Cs):Ds->Sr :=
 (bq (g2 dEq (g1 (bf cs.Jobs "job") (ae 0)) (gF cp #[0,g1 (bf cs.Jobs "row") (ae 0)])))
def fM(cs:Cs):Ds->Sr :=
 (bq (gIf (gT (g2 dEq (g1 (bf cs.Jobs "spent") (ae 0)) ↑0)) (g2 dIx (g2 dIx (g1 (bf cs.Jobs "parts") (ae 0)) (g1 (bf cs.Jobs "part") (ae 0))) ↑1) (gC .none)))
def ij(cs:Cs):Ds->Sr :=
 (bq (gIf (gT (g2 dGt (g1 (bf cs.Jobs "spent") (ae 0)) ↑0)) (g2 dIx (g2 dIx (g1 (bf cs.Jobs "parts") (ae 0)) (g1 (bf cs.Jobs "part") (ae 0))) ↑1) (gC .none)))
def lR(cs:Cs)(aZ:Gf):Ds->Sr :=
 (az (sIf (gT (g1 p8 (ae 1))) (bq (gC .none)) ba)
  (az (cY [] (br (ae 0)) (aU 2) (sIf (gT (g2 dEq (bG cs.Jobs "held" aZ (ae 2) ah) (ae 1))) (bq (ae 2)) ba))
  (bq (gC .none))))
def iN(cs:Cs)(aS bX:Gf):Ds->Sr :=
 (az (qC 1)
  (az (cY [1] (br (ae 0)) (aU 2) (az (aJ [1] 3 (ao bX #[0,0,bG cs.Jobs "wanted" aS (ae 2) ah]))
  (sIf (gT (g1 cV (ae 3))) (nh 1 (g1 (bf cs.Jobs "number") (ae 3)) (gF j9 #[0,g1 (bf cs.Jobs "rank") (ae 2),jv (ae 1) (g1 (bf cs.Jobs "number") (ae 3)) (g1 (bf cs.Jobs "rank") (ae 3))])) ba)))
  (bq (ae 1))))
def cn(cs:Cs)(aZ:Gf):Ds->Sr :=
 (az (aJ [] 2 (bG cs.Jobs "held" aZ (ae 0) ah))
  (az (sIf (gT (g1 p8 (ae 2))) (bq (f9 #[0,g1 (bf cs.Jobs "rank") (ae 0),↑1])) ba)
  (bq (f9 #[0,gF j9 #[0,g1 (bf cs.Jobs "rank") (ae 0),g2 dIx (ae 1) (ae 2)],↑0]))))
def eN(cs:Cs):Ds->Sr :=
 (bq (DJ (g2 dLt (g1 (bf cs.Jobs "job") (ae 0)) (gF cp #[0,g1 (bf cs.Jobs "row") (ae 0)])) (g2 dLe (g2 dIx (g1 (bf cs.Jobs "row") (ae 0)) (g1 (bf cs.Jobs "job") (ae 0))) (ae 1))))
def Cw(cs:Cs)(bE fH bg bD:Gf):Ds->Sr :=
 (az (lp (ao bD #[0,0]))
  (az (lp (ao bg #[0,0,1]))
  (bq (ao fH #[0,0,1,ao bE #[0,0,2],3]))))
def dW(cs:Cs)(ak:Gf):Ds->Sr :=
 (az (aJ [6] 4 (ao ak #[0,0,1,g2 Hu ↑10 ↑9]))
  (az (aJ [6] 5 (g2 cK (g2 fE (ae 4) (g2 aP (g2 dIx (ae 2) ↑0) ↑2)) (g2 dIx (ae 2) ↑2)))
  (az (ff [6] 6 ah)
  (az (aJ [6] 7 ↑0)
  (az (λδ=>b8 (jh (gT (g2 dLt (g2 aP (ae 5) (g2 dIx (ae 2) ↑2)) (ae 3))) (gT (g2 dLt (gF cp #[0,6]) ↑60))) (az (aJ [6] 8 (g2 fE (g2 fB (g2 aP (g2 aP (ae 4) (g2 fB (g2 fB ↑104729 (ae 7)) (ae 7))) (g2 fB ↑7919 (ae 7))) ↑48271) ↑2147483647))
  (az (aJ [6] 9 (gF fV #[0,↑0,g2 aP (ae 5) (g2 fE (g2 jq (ae 8) ↑7) (g2 aP (g2 dIx (ae 2) ↑2) ↑1))]))
  (az (sIf (gT (g2 dNe (ae 6) (g9 ah))) (lF 9 (gF fV #[0,9,g2 aP (g2 dIx (ae 6) (g1 lq ↑1)) ↑1])) ba)
  (az (iO [6] 6 (ae 9))
  (az (aJ [6] 5 (g2 aP (ae 5) (g2 dIx (ae 2) ↑0)))
  (az (sIf (gT (g2 dEq (g2 fE (g2 jq (ae 8) ↑61) ↑3) ↑0)) (aJ [6] 5 (g2 aP (ae 5) (g2 fE (g2 jq (ae 8) ↑997) (g2 dIx (ae 2) ↑0)))) ba)
  (aJ [6] 7 (g2 aP (ae 7) ↑1)))))))) 1000000 δ)
  (bq (ae 6)))))))
def fJ(cs:Cs)(bz:Gf):Ds->Sr :=
 (bq (gL (a9 4 (fK #[0,gF cp #[0,2]]) bF (ao bz #[0,0,g2 aP (ae 1) (ae 4),g2 dIx (ae 2) (ae 4),3]) aL)))
def kA(cs:Cs)(aY bh dg aX:Gf)(a:J (M'×L)->D' (J (M'×L)))(as:J HL):Ds->Sr :=
 (az (ff [6] 6 ah)
  (az (λδ=>b8 (iT (gT (gF qN #[0,gL (a9 9 (br (ae 5)) bF (bG cs.Jobs "are_done" bh (ae 9) ah) aL)]))) (az (tX [6] 7 9 (br (ae 5)) (gT (bG cs.Jobs "is_there" aX (ae 9) #[0,gF cp #[0,6]])) (ae 9) aL)
  (sIf (gT (g2 dEq (gF cp #[0,7]) ↑0)) (iO [6] 6 (gC .none)) (az (aJ [6] 8 (ao dg #[0,7,4,3]))
  (az (iO [6] 6 (f9 #[0,g1 (bf cs.Jobs "number") (ae 8),g1 (bf cs.Jobs "job") (ae 8)]))
  (mZ as cs.Jobs "go_on" 8 a))))) 1000000 δ)
  (bq (ae 6))))
def iU(cs:Cs)(as:J HL):Ds->Sr :=
 (az (fO as cs.Jobs 0 "spent" ↑1)
  (az (sIf (gT (g2 dEq (g1 (bf cs.Jobs "spent") (ae 0)) (g2 dIx (g2 dIx (g1 (bf cs.Jobs "parts") (ae 0)) (g1 (bf cs.Jobs "part") (ae 0))) ↑0))) (az (nz as cs.Jobs 0 "spent" ↑0)
  (fO as cs.Jobs 0 "part" ↑1)) ba)
  (sIf (gT (g2 dEq (g1 (bf cs.Jobs "part") (ae 0)) (gF cp #[0,g1 (bf cs.Jobs "parts") (ae 0)]))) (az (nz as cs.Jobs 0 "part" ↑0)
  (fO as cs.Jobs 0 "job" ↑1)) ba)))
def lP(cs:Cs)(cR aS bX cg:Gf):Ds->Sr :=
 (az (sIf (gT (g2 dEq (ae 2) (gC (.str "high")))) (bq (kL [1] (ae 0) (ao cg #[0,0,1]))) ba)
  (az (aJ [] 3 (gL (a9 5 (br (ae 0)) (gT (g1 p8 (ao bX #[0,0,bG cs.Jobs "wanted" aS (ae 5) ah]))) (ae 5) aL)))
  (az (aJ [] 4 (gIf (gT (g2 dEq (ae 2) (gC (.str "asked")))) (ao cR #[0,0]) (gC (bT []))))
  (bq (kL [4] (ae 3) (jv (ae 1) (g1 (bf cs.Jobs "number") (ae 0)) (g1 (bf cs.Jobs "rank") (ae 0))))))))
end RS
namespace L2
open PySem PySem.Spec PyProof.Rows
section
variable {E:XK}{k:Sq}{gk:Ds->Rs L}{apos:Vp}
end
section
variable {E:XK}{e:Sq}
end
abbrev PTl:=J ((Z×Z)×Z)
noncomputable def dtD(l:PTl):PyData:=.dict (dtK l)
def kT(p:Z×Z):J Key:=[.inl p.1,.inl p.2]
theorem Fx{p r:Z×Z}(h:kT p=kT r):p=r:=by unfold kT at h;dsimp[Ui,TU.injEq,Yh]at h;exact Xm h.1 h.2
noncomputable def fj(l:PTl)(k:Z×Z):D' Int:=(l.find? λp=>decide (p.1=k)).map (·.2)
noncomputable def tQ(l:PTl)(k:Z×Z)(v:Z):PTl:=if (l.any λp=>decide (p.1=k))=true then l.map (λp=>if p.1=k then (p.1,v) else p) else l++[(k,v)]
theorem Dn(l:PTl)(k:Z×Z):mn (l.map λp=>(([.inl p.1.1,.inl p.1.2],V.int p.2):J Key×V)) (kT k)=(fj l k).map V.int:=by
 unfold mn fj
 induction l with
 |nil=>rfl
 |cons p r ih =>
  rw[P0,Qd,Qd];by_cases z:p.1=k
  .have h1:decide (([.inl p.1.1,.inl p.1.2]:J Key)=kT k)=true:=O' (by rw[<-z];rfl);dsimp[h1,O' z];rfl
  .have h1:decide (([.inl p.1.1,.inl p.1.2]:J Key)=kT k)=false:=L' λq=>z (Fx (p:=p.1) q)
   dsimp[h1,L' z];exact ih
theorem Gg(l:PTl)(k:Z×Z)(v:Z):putK (l.map λp=>(([.inl p.1.1,.inl p.1.2],V.int p.2):J Key×V)) (kT k) (.int v)=(tQ l k v).map λp=>([.inl p.1.1,.inl p.1.2],V.int p.2):=by
 have a:∀p:(Z×Z)×Z,(([.inl p.1.1,.inl p.1.2]:J Key)=kT k)↔p.1=k:=λp=>⟨λq=>Fx (p:=p.1) q,λq=>by rw[<-q];rfl⟩
 have ha:((l.map λp=>(([.inl p.1.1,.inl p.1.2],V.int p.2):J Key×V)).any λb=>decide (b.1=kT k))=l.any λp=>decide (p.1=k):=by rw[Y2];congr 1;funext p;show decide (([.inl p.1.1,.inl p.1.2]:J Key)=kT k)=_;exact V8.mpr (a p)
 unfold putK tQ;rw[ha];split
 .rw[Q8,Q8];refine Q3 λp _=>?_
  show (if ([.inl p.1.1,.inl p.1.2]:J Key)=kT k then _ else _)=_;by_cases z:p.1=k
  .rw[FC ((a p).mpr z)];simp[z]
  .rw[GC λq=>z ((a p).mp q)];simp[z]
 .rw[Qm];rfl
theorem zL:∀{l m:PTl},l.map (λp=>((.tuple [.int p.1.1,.int p.1.2],.int p.2):L×L))=m.map (λp=>(.tuple [.int p.1.1,.int p.1.2],.int p.2))->l=m
 |[],[],_=>rfl
 |[],_::_,h=>by simp at h
 |_::_,[],h=>by simp at h
 |((a,b),c)::l,((a',b'),c')::m,h=>by dsimp[P0,Ui,Uv,Uu,W6,Yh]at h;obtain⟨⟨⟨rfl,rfl⟩,rfl⟩,h⟩:=h;rw[zL h]
theorem Gd{l:PTl}(h:JE (dtK l) o):o=dtO l:=by
 rcases h with⟨m,e,_⟩|⟨m,e,rfl⟩|⟨m,_,e,_⟩
 .cases m <;> cases e
 .rw[zL (J.cons.inj e).2]
 .cases e
theorem Is.ofDt{l:PTl}(h:Is K H (dtD l) v):∃a,v=.ref a/\H a=Y (dtO l):=by
 unfold dtD Is at h;rcases h with (⟨a,ns,_,e,_⟩|⟨a,o,e1,e,h2⟩)|⟨a,C,dx,fs,_,_,_,h|h⟩
 .cases e
 .rw[Gd e]at h2;exact⟨a,e1,h2⟩
 .unfold Isk at h;obtain⟨f,_,_,_,q,_⟩:=h;cases q
 .unfold Isk at h;obtain⟨f,_,_,_,q,_⟩:=h;cases q
def mK:J (L×L)->D' PTl
 |[]=>Y []
 |(.tuple [.int a,.int b],.int c)::r=>(mK r).map λl=>((a,b),c)::l
 |_=>S
theorem vN:∀{r:J (L×L)}{l:PTl},mK r=Y l->r=l.map λp=>(.tuple [.int p.1.1,.int p.1.2],.int p.2)
 |[],l,e=>by cases e;rfl
 |x::r,l,e=>by
  unfold mK at e;split at e
  .rename_i z;cases z
  .rename_i z;injection z with z1 z2
   subst z1 z2;cases q:mK r with
   |none=>rw[q]at e;cases e
   |some m=>rw[q]at e;cases e;rw[vN q];rfl
  .cases e
theorem sJ:∀l:PTl,mK (l.map λp=>(.tuple [.int p.1.1,.int p.1.2],.int p.2))=Y l
 |[]=>rfl
 |p::r=>by rw[P0];unfold mK;rw[sJ r];rfl
def Aq:L->D' PTl
 |.dict ((.bool true,.none)::kvs)=>mK kvs
 |_=>S
theorem CL{d:L}{l:PTl}(h:Aq d=Y l):d=dtD l:=by
 unfold Aq at h;split at h
 .unfold dtD dtK;rw[vN h]
 .cases h
theorem Cm(l:PTl):Aq (dtD l)=Y l:=sJ l
def jV:L->D' (Z×Z)
 |.tuple [.int a,.int b]=>Y (a,b)
 |_=>S
theorem xO{d:L}{k:Z×Z}(h:jV d=Y k):d=.tuple [.int k.1,.int k.2]:=by
 unfold jV at h;split at h
 .cases h;rfl
 .cases h
theorem Is.ofPair{k:Z×Z}(h:Is K H (.tuple [.int k.1,.int k.2]) v):∃b,v=.ref b/\H b=Y (.tup ((kT k).map kV)):=by obtain⟨b,xs,rfl,a,h⟩:=h.ofTup;unfold Iss at h;obtain⟨v1,r,rfl,h1,h⟩:=h;unfold Iss at h;obtain⟨v2,r,rfl,h2,h⟩:=h;unfold Iss at h;subst h;rw[h1.ofInt,h2.ofInt]at a;exact⟨b,rfl,a⟩
section
variable {E:XK}{o e f k value:Sq}{go ge gf gk gv:Ds->Rs L}{apos:Vp}
def FX(go gk:Ds->Rs L):Ds->Rs PyData:=λδ=>(go δ).bind λd=>(gk δ).bind λk=>match Aq d,jV k with
 |some l,Y k=>(match fj l k with
  |some v=>.ok (.int v)
  |none=>.no)
 |_,_=>.no
theorem Nh(m:X.A.units+1<cLine)(n:PD X E o go)(h:PD X E k gk)(p:Mm k):PD X E (.Subscript o k pos) (FX go gk) :=
 (Jn m n h p).imp λσ H Q i=>by
  obtain⟨A,δ,R,c⟩:=i;unfold FX at c;refine eD.run R (λd q v H1 j r h1=>?_) (λC e H' s'=>?_) (λe=>?_)
  .dsimp[q,Rs.ag]at c;refine eD.run r (λkd s u H2 s2 R2 f=>?_) (λC e H' s'=>?_) (λe=>?_)
   .dsimp[s,Rs.ag]at c;split at c
    .rename_i l k hl h;rw[CL hl]at h1;rw[xO h]at f;obtain⟨a,rfl,ha⟩:=h1.ofDt;obtain⟨b,rfl,x⟩:=f.ofPair;split at c
     .rename_i w hw;have g:=uo.t (k:=kT k) (s2 _ _ (aB _ _ ha)) (aB _ _ x);rw[Dn,hw]at g;exact⟨a,_,rfl,g,c _ H2 (j.trans s2) bN⟩
     .exact c.elim
    .exact c.elim
   .dsimp[e,Rs.eZ]at c;exact c H' (j.trans s')
   .dsimp[e,Rs.bH]at c;exact c
  .dsimp[e,Rs.eZ]at c;exact c H' s'
  .dsimp[e,Rs.bH]at c;exact c
def Cf(i:O):Ds->Sr:=λδ=>if i<δ.length then .nx (δ.set i (Y (dtD []))) else .no
theorem Fw(c:X.N.Nodup)(e:i∈D2)(hi:X.N[i]?=Y x)(f:Loc X.env.scope x)(g:swapsWith (.Dict [] [] pos') (Y (.Name x apos)) pos.line X.env=pure false)
  (h:X.fn x=true\/X.env.scope.names.lookup x=Y .local):PSD X E D2 (.Assign [.Name x apos] (.Dict [] [] pos') pos) (Cf i):=(oV c hi f Hs g h).imp λD σ H a=>by
 obtain⟨H0,A0,A,δ,R,o⟩:=a;unfold Cf at o;split at o
 .rename_i hl;intro p b;exact o (p::A) _ _ (R.setOwnO (o:=dtO []) e hl b (bS b) aM rfl (.inr (.inl ⟨[],rfl,rfl⟩)))
 .exact o.elim
def qa(i:O)(gk gv:Ds->Rs L):Ds->Sr:=λδ=>match δ[i]? with
 |some (Y d)=>(match Aq d with
  |some l=>ofR (gv δ) λv=>ofR (gk δ) λk=>(match jV k,v with
   |some k,.int v=>if l.length<1000000 then .nx (δ.set i (Y (dtD (tQ l k v)))) else .no
   |_,_=>.no)
  |none=>.no)
 |_=>.no
theorem DF(B:X.A.units+1<cLine)(h:PD X E value gv)(F:PD X E k gk)(w:i∈D2)(hi:X.N[i]?=Y x)(hv:Vis X.env.scope x)
  (hd:(x==("__debug__":M'))=false) (g:(x==("__classdict__":M'))=false) (G:swapsWith value (Y (.Subscript (.Name x pn) k pos')) pos.line X.env=pure false):PSD X E D2 (.Assign [.Subscript (.Name x pn) k pos'] value pos) (qa i gk gv) :=
 (B3 B (ku hi hv hd g) F h G).imp λD σ H j=>by
  obtain⟨H0,A0,A,δ,R,a⟩:=j;unfold qa at a;split at a
  .rename_i d q;split at a
   .rename_i l hl;rw[CL hl]at q;obtain⟨p,o',d',e1,I,m,e2,Bk⟩:=R.own i _ w q;subst e2;have n:o'=dtO l:=Gd Bk;subst n;refine eD.run R.full (λvd K v H1 y B' r=>?_) (λC c H' s'=>?_) (λc=>?_)
    .dsimp[K,aw]at a;refine⟨_,e1,?_⟩;refine eD.run B' (λkd M u H2 s2 R2 e=>?_) (λC c H' s'=>?_) (λc=>?_)
     .dsimp[M,aw]at a;split at a
      .rename_i z P s;split at a
       .rename_i x9;rw[xO s]at e;obtain⟨b,rfl,Q⟩:=e.ofPair;have D1:=r.ofInt;subst D1;have f:=y.trans s2;refine⟨p,_,rfl,zB.t (k:=kT z) (f _ _ m) (aB _ _ Q) (by rw[P6,SA];omega),?_⟩;rw[Gg];exact a A _ _ ((R.step f).putO (o:=dtO (tQ l z P)) w q e1 I rfl (.inr (.inl ⟨_,rfl,rfl⟩)))
       .exact a.elim
      .exact a.elim
     .dsimp[c,kl]at a;exact a H' (R.same.trans (y.trans s'))
     .dsimp[c,kj]at a;exact a
    .dsimp[c,kl]at a;exact a H' (R.same.trans s')
    .dsimp[c,kj]at a;exact a
   .exact a.elim
  .exact a.elim
end
end L2
namespace RS
open PySem L2
def gr(cs:Cs):Ds->Sr :=
 (bq (gL (a9 3 (gU #[0,1]) bF (g2 cK (FX (ae 2) (f9 #[0,0,3])) (ae 4)) fQ)))
def gy(cs:Cs)(dC:Gf):Ds->Sr :=
 (az (Cf 2)
  (az (cY [2] (gU #[0,1]) (cO [3,4]) (sIf (gT (g1 cV (ae 4))) (qa 2 (ae 4) (g2 aP (ae 3) ↑1)) ba))
  (bq (gL (a9 5 (gU #[0,0]) bF (ao dC #[0,5,6,2]) fQ)))))
def j7(cs:Cs)(jj dB:Gf):Ds->Sr :=
 (bq (ao dB #[0,2,ao jj #[0,0,1,2,3]]))
end RS
set_option maxHeartbeats 1000000
namespace RS
open PySem L2
variable {p:Z×D' Z}
def cQ:Gf
 |[d,.int t]=>if xB d then .ok (.bool ((deE d).has t)) else .no
 |_=>.no
theorem lr{t:Z}(h:e.Sh):cQ [e.d,.int t]=.ok (.bool (e.has t)):=by unfold cQ;simp[oj h,zD]
theorem yU(t:Z):∀ps:J (Z×D' Z),inD (.int t) ((ps.map aN).map λd=>aW (cE d).2)=ps.any λp=>p.2==Y t
 |[]=>rfl
 |p::r=>by
  have h1:eqV (toV (aW p.2)) (.int t)=(p.2==Y t):=by
   rcases hp:p.2 with _|z
   .rfl
   .show (z==t)=(Y z==Y t)
    simp
  have:=yU t r;unfold inD inV at this ⊢;rw[P0,P0,P0,R8,R8,this,lA];show (eqV (toV (aW p.2)) (.int t)||_)=_;rw[h1]
theorem EC(ps:J (Z×D' Z)):((ps.map aN).map λd=>aW (cE d).2).all iI=true:=by rw[Q6];intro d hd;obtain⟨n,_,rfl⟩:=PQ.mp hd;cases (cE n).2 <;> rfl
theorem MV{f:L->Z->Rs L}(h:(match ds with|[a,.int x1]=>f a x1|_=>.no)≠.no):∃a x1,ds=[a,.int x1]/\f a x1≠.no:=by
 rcases ds with _|⟨a,_|⟨x1,_|⟨y,ys⟩⟩⟩
 .cases h rfl
 .cases h rfl
 .skip
  cases x1 with
  |int x1 =>exact⟨_,_,rfl,h⟩
  |_=>cases h rfl
 .first|cases h rfl|(cases x1 <;> cases h rfl)
theorem Bs(cs:Cs):LLq (kI cs) 2 0 cQ:=by
 intro ds hl a;obtain⟨d,t,f,c⟩:=MV a;clear a;subst f;have a:=c;clear c
 .skip
  split at a
  .rename_i hd;obtain⟨e1,sh⟩:=vm hd;rw[<-e1];generalize deE d=e at sh;rw[lr sh];have hc:a9 2 (br (g2 dIx (ae 0) ↑3)) bF (g2 dIx (ae 2) ↑1) aL [Y e.d,⇑t]=.ok ((e.parts.map aN).map λd=>aW (cE d).2) :=
    dR rfl (by simp[Ad]) (by have:=sh.pn;simp;omega) λd b=>by obtain⟨p,hp,rfl⟩:=PQ.mp b;simp[GK,lA]
   have hi:Ig false (.int t) (.list ((e.parts.map aN).map λd=>aW (cE d).2))=Y (.bool (e.has t)):=by show (if (iI (.int t)&&_)=true then Y (TR (if false=true then _ else inD _ _)) else S)=_;rw[EC,yU];rfl
   show bc (kI cs [Y e.d,⇑t])=_;dsimp[kI,bW,bQ,aq,av,mX,hc,Rs.ag,hi,Rs.ai,aw,a8]
  .cases a rfl
def eS:Gf
 |[d,r,.int t]=>if my d&&dj (cu d).length r then .ok (aW (aG (cu d) (b9 r) t)) else .no
 |_=>.no
theorem oN{t:Z}(h1:es.length<=100)(h:∀e∈es,e.Sh)(a:bJ es.length rs):eS [ar es,aj rs,.int t]=.ok (aW (aG es rs t)):=by unfold eS;simp[jS h1 h,fk,fw a,dZ]
theorem qz(es:J Er)(a:∀e∈es,e.Sh)(R:L)(t:Z):∀(rs:J Z)(k:O)(x3 x4:D' L),(∀m∈rs,0<=m/\m<es.length) ->
   (∃i,hts es rs k t=Y i/\forL (cO [3,4]) (sIf (gT (ao cQ #[0,g2 dIx (ae 0) (ae 4),2])) (bq (ae 3)) ba) ((rs.map EE).mapIdx λi d=>.tuple [.int ((k+i:O):Z),d]) [Y (ar es),Y R,⇑t,x3,x4]=.rt (.int i))
  \/(hts es rs k t=S/\∃δ,forL (cO [3,4]) (sIf (gT (ao cQ #[0,g2 dIx (ae 0) (ae 4),2])) (bq (ae 3)) ba) ((rs.map EE).mapIdx λi d=>.tuple [.int ((k+i:O):Z),d]) [Y (ar es),Y R,⇑t,x3,x4]=.nx δ)
 |[],k,x3,x4,_=>.inr ⟨rfl,_,rfl⟩
 |m::r,k,x3,x4,hm=>by
   have b:=hm m P7;have a2:atI (es.map Er.d) m=Y (aK es m).d:=eX b.1 b.2;have f:=lr (t:=t) (a _ (bK b.1 b.2));rw[P0,RW];unfold forL;have e1:cO [3,4] (Ta [.int ((k+0:O):Z),.int m]) [Y (ar es),Y R,⇑t,x3,x4]=Y [Y (ar es),Y R,⇑t,⇑(k:Z),⇑m]:=rfl;rw[e1];dsimp[dF,fh,bp,ay,aF,bQ,aq,av,Rs.ag,ar,mz,a2,Rs.ai,f,bO,aw,bW,hZ];unfold hts;cases hh:(aK es m).has t with
   |true=>exact .inl ⟨k,rfl,rfl⟩
   |false =>
    dsimp[Qb,SK];have c:=qz es a R t r (k+1) ⇑(k:Z) ⇑m (λx g=>hm x (P4 _ g));rw[show ((k+1:O):Z)=(k:Z)+1 by omega]at c;have h:(λ(i:O)(d:L)=>Ta [.int ((k+(i+1):O):Z),d])=λi d=>.tuple [.int ((k+1+i:O):Z),d]:=by funext i d;rw[show k+(i+1)=k+1+i by omega]
    rw[h];exact c
theorem l8{f:L->L->Z->Rs L}(h:(match ds with|[a,x1,.int x2]=>f a x1 x2|_=>.no)≠.no):∃a x1 x2,ds=[a,x1,.int x2]/\f a x1 x2≠.no:=by
 rcases ds with _|⟨a,_|⟨x1,_|⟨x2,_|⟨y,ys⟩⟩⟩⟩
 .cases h rfl
 .cases h rfl
 .cases h rfl
 .skip
  cases x2 with
  |int x2 =>exact⟨_,_,_,rfl,h⟩
  |_=>cases h rfl
 .first|cases h rfl|(cases x2 <;> cases h rfl)
theorem G5(cs:Cs):LLq (oA cs cQ) 3 2 eS:=by
 intro ds hl a;obtain⟨d,r,t,h,f⟩:=l8 a;clear a;subst h;have a:=f;clear f
 .skip
  split at a
  .rename_i hc;dsimp[P9]at hc;obtain⟨c1,j⟩:=hc;obtain⟨e1,x9,c⟩:=pM c1;obtain⟨e2,g⟩:=jm j;rw[<-e1,<-e2];generalize cu d=es at *;generalize b9 r=rs at *;rw[oN x9 c g];have loop:=qz es c (aj rs) t rs 0 S S g.rng;show bc (oA cs cQ #[3,⇑t,S,S])=_;have src:gU #[0,1] #[3,⇑t,S,S]=.ok ((rs.map EE).mapIdx λi d=>.tuple [.int ((0+i:O):Z),d]):=by dsimp[C3,ay,aF,aq,av,Rs.ag,aj,CP,ix,QG]
   dsimp[oA];rw[aQ,iB,fL,src,aw];unfold aG;rcases loop with⟨i,b,e⟩|⟨b,δ,e⟩
   .rw[e];have b:hts es rs 0 t=Y i:=b;rw[b];rfl
   .rw[e];have b:hts es rs 0 t=none:=b;rw[b];rfl
  .cases a rfl
def ax(es:J Er)(rs:J Z):PyData:=.list ((LN 4).map λ(t:O)=>aW (aG es rs t))
def aY:Gf
 |[d,r]=>if my d&&dj (cu d).length r then .ok (ax (cu d) (b9 r)) else .no
 |_=>.no
theorem gX(h1:es.length<=100)(h:∀e∈es,e.Sh)(a:bJ es.length rs):aY [ar es,aj rs]=.ok (ax es rs):=by unfold aY;simp[jS h1 h,fk,fw a,dZ]
theorem M6{f:L->L->Rs L}(h:(match ds with|[a,x1]=>f a x1|_=>.no)≠.no):∃a x1,ds=[a,x1]/\f a x1≠.no:=by
 rcases ds with _|⟨a,_|⟨x1,_|⟨y,ys⟩⟩⟩
 .cases h rfl
 .cases h rfl
 .skip
  exact⟨_,_,rfl,h⟩
 .cases h rfl
theorem wz(cs:Cs):LLq (iQ cs eS) 2 0 aY:=by
 intro ds hl a;obtain⟨d,r,g,e⟩:=M6 a;clear a;subst g;have a:=e;clear e
 .skip
  split at a
  .rename_i hc;dsimp[P9]at hc;obtain⟨c1,h⟩:=hc;obtain⟨e1,x9,b⟩:=pM c1;obtain⟨e2,f⟩:=jm h;rw[<-e1,<-e2];generalize cu d=es at *;generalize b9 r=rs at *;rw[gX x9 b f];have j:∀t:Z,eS [ar es,aj rs,.int t]=.ok (aW (aG es rs t)):=λt=>oN x9 b f
   have c:a9 2 (fK #[0,↑4]) bF (ao eS #[0,0,1,2]) aL [Y (ar es),Y (aj rs)]=.ok ((bV 0 (4:Z).toNat).map λx=>aW (aG es rs (deI x))) :=
    dR rfl (by dsimp[nF,ay,aF,cA,Rs.ag];exact kC #[1] #[1]) (by rw[eE];decide) λx l=>by obtain⟨i,hi⟩:=VC l;obtain⟨_,rfl⟩:=km hi;dsimp[Qx,Qs,bp,ay,aF,aq,av,Rs.ag,j];rfl
   have hd:ax es rs=.list ((bV 0 (4:Z).toNat).map λx=>aW (aG es rs (deI x))):=by
    unfold ax bV;rw[Q8];congr 1
    try exact Q3 λk _=>by simp[deI]
   rw[hd];show bc (iQ cs eS [Y (ar es),Y (aj rs)])=_;dsimp[iQ,bW,mX,c,Rs.ag,aw,a8]
  .cases a rfl
def eU(ns:J Z)(a:Z)(y1:O):O->J Z×J Z
 |0=>((LN y1).map λ(i:O)=>(i:Z),[])
 |i+1=>((eU ns a y1 i).1.eraseIdx (mixed ns (a+(i:Z)) ((eU ns a y1 i).1.length:Z)).toNat,(eU ns a y1 i).2++[(eU ns a y1 i).1.getD (mixed ns (a+(i:Z)) ((eU ns a y1 i).1.length:Z)).toNat 0])
def oE(ns:J Z)(a:Z)(y1:O):J Int:=(eU ns a y1 y1).2
theorem um{α:Type}:∀(l:J α)(j:O)(h:j<l.length),(l[j]::l.eraseIdx j).Perm l
 |[],j,h=>by simp at h
 |x::r,0,h=>by simp
 |x::r,j+1,h=>by
  dsimp[J.getElem_cons_succ,J.eraseIdx_cons_succ];have h':j<r.length:=by simpa using h
  exact (J.Perm.swap _ _ _).trans ((um r j h').cons x)
theorem vS{α β:Type}(f:α->β):∀(l:J α)(j:O),(l.map f).eraseIdx j=(l.eraseIdx j).map f
 |[],j=>by simp
 |x::r,0=>by simp
 |x::r,j+1=>by simp[vS f r j]
theorem sy(ns:J Z)(a:Z)(y1:O):∀i,i<=y1->(eU ns a y1 i).1.length=y1-i/\(eU ns a y1 i).2.length=i/\((eU ns a y1 i).1++(eU ns a y1 i).2).Perm ((LN y1).map λ(i:O)=>(i:Z))
 |0,_=>⟨by simp[eU],rfl,by simp[eU]⟩
 |i+1,h=>by
  obtain⟨h1,h2,h3⟩:=sy ns a y1 i ⋯;dsimp[eU];generalize (eU ns a y1 i).1=B' at *;generalize (eU ns a y1 i).2=M at *;have hL:0<(B'.length:Z):=⋯
  have m0:=dm ns (a+(i:Z)) hL;have m1:=dS ns (a+(i:Z)) hL;generalize mixed ns (a+(i:Z)) (B'.length:Z)=z at *;have b:z.toNat<B'.length:=⋯
  refine⟨by rw[J.length_eraseIdx_of_lt b];omega,by simp[h2],?_⟩;refine J.Perm.trans ?_ h3;rw[Q2,My b,WT];have p1:(B'[z.toNat]::B'.eraseIdx z.toNat).Perm B':=um B' z.toNat b;have p2:(B'.eraseIdx z.toNat++(M++[B'[z.toNat]])).Perm ((B'[z.toNat]::B'.eraseIdx z.toNat)++M):=by rw[<-QR];exact (J.perm_append_singleton _ _)
  exact p2.trans (p1.append_right M)
theorem Bn(ns:J Z)(a:Z)(y1:O):bJ y1 (oE ns a y1):=by
 obtain⟨h1,h2,h3⟩:=sy ns a y1 y1 (PN _);unfold oE;have e:(eU ns a y1 y1).1=[]:=Rn.mp ⋯;rw[e,Qs]at h3;refine⟨h2,λr b=>?_,h3.nodup_iff.mpr ?_⟩
 .obtain⟨k,c,rfl⟩:=PQ.mp (h3.mem_iff.mp b);have:=Ra.mp c;omega
 .exact (W').map (f:=λ(i:O)=>(i:Z)) λx y h=>by intro q;have q:(x:Z)=(y:Z):=q;exact h ⋯
def cL:Gf
 |[s,.int a,.int y1]=>(match gD s with
  |some ns=>if 0<=a/\0<=y1/\y1<=100 then .ok (aj (oE ns a y1.toNat)) else .no
  |none=>.no)
 |_=>.no
theorem kS{a:Z}(h1:0<=a)(h2:0<=y1)(h3:y1<=100):cL [au ns,.int a,.int y1]=.ok (aj (oE ns a y1.toNat)):=by unfold cL;simp[gW,h1,h2,h3]
theorem DK(ns:J Z)(a:Z)(n i:O)(B' M:J Z)(ha:0<=a)(hL:0<(B'.length:Z))(hL2:B'.length<=100)(hM:M.length<=100) :
   ko 4 3 (ao ak #[0,0,g2 aP (ae 1) (ae 5),gF cp #[0,3]]) [Y (au ns),⇑a,⇑(n:Z),↥(B'.map .int),↥(M.map .int),⇑(0+(i:Z))]
  =.nx [Y (au ns),⇑a,⇑(n:Z),↥((B'.eraseIdx (mixed ns (a+(i:Z)) (B'.length:Z)).toNat).map .int),↥((M++[B'.getD (mixed ns (a+(i:Z)) (B'.length:Z)).toNat 0]).map .int),⇑(0+(i:Z))]:=by
 have b:=cG (ns:=ns) (k:=a+(0+(i:Z))) (y1:=(B'.length:Z)) ⋯ hL;have g:=dm ns (a+(i:Z)) hL;have m1:=dS ns (a+(i:Z)) hL;rw[show a+(0+(i:Z))=a+(i:Z) by omega]at b;generalize mixed ns (a+(i:Z)) (B'.length:Z)=z at *;have f:z.toNat<B'.length:=⋯
 have h:ao ak #[0,0,g2 aP (ae 1) (ae 5),gF cp #[0,3]] [Y (au ns),⇑a,⇑(n:Z),↥(B'.map .int),↥(M.map .int),⇑(0+(i:Z))]=.ok (.int z):=by dsimp[bp,ay,aF,bQ,gN,aq,av,Rs.ag,dD,Rs.ai,mP,P6];rw[show a+(0+(i:Z))=a+(i:Z) by omega];exact b
 have c:ixN (B'.map EE).length z=Y z.toNat:=by unfold ixN;rw[FC g,FC (by rw[P6];omega)]
 have e:(B'.map EE)[z.toNat]?=⇑(B'.getD z.toNat 0):=by rw[Q5,My f,Q2,My f];rfl
 unfold ko;dsimp[QV,QW,h,aw];rw[FC (by refine⟨⋯,⋯,?_⟩;rw[P6];omega)];dsimp[c,e,Rc,Rg,Qm,P0,Qv];rw[vS]
theorem Ed(ns:J Z)(a:Z)(n i:O)(ha:0<=a)(hi:i<n)(hn:n<=100) :
   ko 4 3 (ao ak #[0,0,g2 aP (ae 1) (ae 5),gF cp #[0,3]]) [Y (au ns),⇑a,⇑(n:Z),↥((eU ns a n i).1.map .int),↥((eU ns a n i).2.map .int),⇑(0+(i:Z))]
  =.nx [Y (au ns),⇑a,⇑(n:Z),↥((eU ns a n (i+1)).1.map .int),↥((eU ns a n (i+1)).2.map .int),⇑(0+(i:Z))]:=by
 obtain⟨h1,h2,h3⟩:=sy ns a n i ⋯;dsimp[eU];exact DK ns a n i _ _ ha ⋯ ⋯ ⋯
theorem rk1(ns:J Z)(a:Z)(n:O)(hm2:(n:Z)<=100):ff [3,4] 3 (gLR #[0,2]) [Y (au ns),⇑a,⇑(n:Z),S,S,S]=.nx [Y (au ns),⇑a,⇑(n:Z),↥((eU ns a n 0).1.map .int),S,S]:=by
 have b:gLR #[0,2] (mask [3,4] [Y (au ns),⇑a,⇑(n:Z),S,S,S])=.ok (bV 0 n):=by dsimp[NK,ay,aF,aC (show 2∉[3,4] by decide),aq,av,Rs.ag];unfold xp;simp only;rw[FC ⋯,Qp]
 have c:(eU ns a n 0).1.map EE=bV 0 n:=by
  dsimp[eU,bV,Q8];refine Q3 λk _=>?_
  simp
 rw[c];unfold ff;rw[b,FC #[2]];dsimp[aw,Rc,Rg]
theorem rk2(ns:J Z)(a:Z)(n:O):ff [3,4] 4 ah [Y (au ns),⇑a,⇑(n:Z),↥((eU ns a n 0).1.map .int),S,S]=.nx [Y (au ns),⇑a,⇑(n:Z),↥((eU ns a n 0).1.map .int),↥((eU ns a n 0).2.map .int),S]:=by unfold ff;rw[FC #[2]];dsimp[aF,aw,Rc,Rg];rfl
theorem rk3(ns:J Z)(a:Z)(n:O)(hm2:(n:Z)<=100):fK #[0,2] (mask [3,4] [Y (au ns),⇑a,⇑(n:Z),↥((eU ns a n 0).1.map .int),↥((eU ns a n 0).2.map .int),S])=.ok (bV 0 n):=by have hv:af (ae 2) ah (mask [3,4] [Y (au ns),⇑a,⇑(n:Z),↥((eU ns a n 0).1.map .int),↥((eU ns a n 0).2.map .int),S])=.ok [.int (n:Z)]:=rfl;have b:=kC (j:=(n:Z)) (RL n) ⋯;rw[Qp]at b;rw[nF,hv,Rs.ag,b]
theorem yd(cs:Cs):LLq (jx cs ak) 3 3 cL:=by
 intro ds hl b;obtain⟨s,a,y1,m,l⟩:=q9 b;clear b;subst m;have b:=l;clear l
 .skip
  split at b
  .rename_i ns o;have es:=jE o;subst es;split at b
   .rename_i hc;obtain⟨ha,hm,c⟩:=hc;rw[kS ha hm c];obtain⟨n,rfl⟩:∃n:O,y1=(n:Z):=⟨y1.toNat,⋯⟩
    rw[Qp];show bc (jx cs ak [Y (au ns),⇑a,⇑(n:Z),S,S,S])=_;have p:=rk1 ns a n c;have s2:=rk2 ns a n;have src:=rk3 ns a n c;obtain⟨δ',e,f,g⟩:=kn (β:=XI) (tgt:=aU 5) (body:=ko 4 3 (ao ak #[0,0,g2 aP (ae 1) (ae 5),gF cp #[0,3]]))
     (λi δ=>∃f,δ=[Y (au ns),⇑a,⇑(n:Z),↥((eU ns a n i).1.map .int),↥((eU ns a n i).2.map .int),f])
     (bV 0 n) 0 (λi d δ hi h=>by obtain⟨f,q⟩:=h;subst q;rw[QG]at *;obtain⟨j,rfl⟩:=km hi;refine⟨[Y (au ns),⇑a,⇑(n:Z),↥((eU ns a n i).1.map .int),↥((eU ns a n i).2.map .int),⇑(0+(i:Z))],_,rfl,?_,⇑(0+(i:Z)),rfl⟩;exact Ed ns a n i ha j ⋯) [Y (au ns),⇑a,⇑(n:Z),↥((eU ns a n 0).1.map .int),↥((eU ns a n 0).2.map .int),S] ⟨S,rfl⟩
    subst g;rw[QG,eE]at e;dsimp[jx];rw[aQ,p];simp only;rw[aQ,s2];simp only;rw[aQ,iB,src,aw,e];simp only;dsimp[bW,gN,ay,aF,aq,av,Rs.ag,GI,Rs.ai,aw,a8];rfl
   .cases b rfl
  .cases b rfl
def hvM(every late:Z):Z->J Z->R0
 |_,[]=>true
 |m,c::r=>if c<(if c-late>m then c-late else m) then false else hvM every late ((if c-late>m then c-late else m)+every) r
def hvE(e:Er)(ns:J Z):Bool:=hvM e.every e.late (0-e.late) ns
def ck:Gf
 |[d,.list xs]=>if xB d then (match fI xs with|some ns=>.ok (.bool (hvE (deE d) ns))|none=>.no) else .no
 |_=>.no
theorem jd(h:e.Sh):ck [e.d,.list (ns.map EE)]=.ok (.bool (hvE e ns)):=by unfold ck;dsimp[oj h,Sn,ej,zD]
def hvB:Ds->Sr:=(az (aJ [] 6 (gF fV #[0,4,g2 cK (ae 5) (ae 3)]))
 (az (sIf (gT (g2 dGt (ae 6) (ae 5))) (bq (gC (.bool false))) ba)
 (aJ [] 4 (g2 aP (ae 6) (ae 2)))))
theorem Cb(E B':L)(every late:Z):∀(ns:J Z)(m:Z)(a x6:D' L),
   (hvM every late m ns=true/\∃δ,forL (aU 5) hvB (ns.map EE) [Y E,Y B',⇑every,⇑late,⇑m,a,x6]=.nx δ)
  \/(hvM every late m ns=false/\forL (aU 5) hvB (ns.map EE) [Y E,Y B',⇑every,⇑late,⇑m,a,x6]=.rt (.bool false))
 |[],m,a,x6=>.inl ⟨rfl,_,rfl⟩
 |c::r,m,a,x6=>by
   have h1:aU 5 (.int c) [Y E,Y B',⇑every,⇑late,⇑m,a,x6]=Y [Y E,Y B',⇑every,⇑late,⇑m,⇑c,x6]:=rfl;rw[P0];unfold forL;rw[h1];unfold hvM;by_cases hc:c<(if c-late>m then c-late else m)
   .have b:hvB [Y E,Y B',⇑every,⇑late,⇑m,⇑c,x6]=.rt (.bool false):=by simp[hvB,hc]
    refine .inr ⟨FC hc,?_⟩;dsimp[b]
   .have b:hvB [Y E,Y B',⇑every,⇑late,⇑m,⇑c,x6]=.nx [Y E,Y B',⇑every,⇑late,⇑((if c-late>m then c-late else m)+every),⇑c,⇑(if c-late>m then c-late else m)]:=by simp[hvB,hc]
    rw[GC hc];dsimp[b];exact Cb E B' every late r _ _ _
theorem GU{f:L->J L->Rs L}(h:(match ds with|[a,.list x1]=>f a x1|_=>.no)≠.no):∃a x1,ds=[a,.list x1]/\f a x1≠.no:=by
 rcases ds with _|⟨a,_|⟨x1,_|⟨y,ys⟩⟩⟩
 .cases h rfl
 .cases h rfl
 .skip
  cases x1 with
  |list x1 =>exact⟨_,_,rfl,h⟩
  |_=>cases h rfl
 .first|cases h rfl|(cases x1 <;> cases h rfl)
theorem sE(cs:Cs):LLq (gM cs) 2 5 ck:=by
 intro ds hl a;obtain⟨d,xs,g,f⟩:=GU a;clear a;subst g;have a:=f;clear f
 .skip
  split at a
  .rename_i hd;split at a
   .rename_i ns h;have b:=eI h;subst b;obtain⟨e1,sh⟩:=vm hd;rw[<-e1,jd sh];generalize deE d=e at *;show bc (gM cs [Y e.d,↥(ns.map EE),S,S,S,S,S])=_;unfold gM;have a0:dIx e.d (.int 0)=⇑e.every:=rfl;have a2:dIx e.d (.int 2)=⇑e.late:=rfl;dsimp[aQ,gH,bQ,aq,av,cA,Rs.ag,a0,a2,Rs.ai,aw,oF];have i:=Cb e.d (.list (ns.map EE)) e.every e.late ns (0-e.late) S S;have j:cY [] (br (ae 1)) (aU 5) hvB [Y e.d,↥(ns.map EE),⇑e.every,⇑e.late,⇑(0-e.late),S,S]=forL (aU 5) hvB (ns.map EE) [Y e.d,↥(ns.map EE),⇑e.every,⇑e.late,⇑(0-e.late),S,S]:=rfl;show bc (match cY [] (br (ae 1)) (aU 5) hvB [Y e.d,↥(ns.map EE),⇑e.every,⇑e.late,⇑(0-e.late),S,S] with|.nx c=>bq (gC (.bool true)) c|r=>r)=_;rw[j];rcases i with⟨h1,δ,h2⟩|⟨h1,h2⟩
    .rw[h2];show Rs.ok _=_;unfold hvE;rw[h1]
    .rw[h2];show Rs.ok _=_;unfold hvE;rw[h1]
   .cases a rfl
  .cases a rfl
structure oz(ns:J Z):Prop where
 few:ns.length<=60
 lo:∀c∈ns,0<=c
 hi:∀c∈ns,c<=9999
def qH(ns:J Z):Bool:=decide (ns.length<=60)&&ns.all λc=>decide (0<=c)&&decide (c<=9999)
theorem u6:qH ns=true↔oz ns:=by
 unfold qH;rw[P9,L3,Q6];constructor
 .rintro⟨h1,h2⟩
  refine⟨h1,λc hc=>?_,λc hc=>?_⟩
  .have:=h2 c hc;rw[P9,L3,L3]at this;exact this.1
  .have:=h2 c hc;rw[P9,L3,L3]at this;exact this.2
 .rintro⟨h1,h2,h3⟩
  refine⟨h1,λc hc=>?_⟩;rw[P9,L3,L3];exact⟨h2 c hc,h3 c hc⟩
def dX:Gf
 |[d,.list xs]=>if xB d then (match fI xs with|some ns=>if qH ns then .ok (.bool (hvE (deE d) ns)) else .no|none=>.no) else .no
 |_=>.no
theorem n8(h:e.Sh)(a:oz ns):dX [e.d,.list (ns.map EE)]=.ok (.bool (hvE e ns)):=by unfold dX;dsimp[oj h,Sn,ej,zD,u6.mpr a]
theorem lE(ns:J Z):aO (.list (ns.map EE))=true:=by
 induction ns with
 |nil=>rfl
 |cons a r ih =>
  have:aO (.list (EE a::r.map EE))=aO (.list (r.map EE)):=by simp[aO,eG]
  rw[P0,this];exact ih
theorem FT(cs:Cs):LLq (oR cs aT ck) 2 0 dX:=by
 intro ds hl a;obtain⟨d,xs,i,g⟩:=GU a;clear a;subst i;have a:=g;clear g
 .skip
  split at a
  .rename_i hd;split at a
   .rename_i ns j;split at a
    .rename_i l;have f:=eI j;subst f;obtain⟨e1,sh⟩:=vm hd;have R:=u6.mp l;rw[<-e1,n8 sh R];generalize deE d=e at *;show bc (oR cs aT ck [Y e.d,↥(ns.map EE)])=_;have m:mY "list" (.list (ns.map EE))=Y (.bool true):=by unfold mY;rw[FC (lE ns)];rfl
     have hc:a9 2 (br (ae 1)) bF (ao aT #[0,2,↑0,↑9999]) aL [Y e.d,↥(ns.map EE)]=.ok ((ns.map EE).map λd=>.bool (isWhole d 0 9999)) :=
      dR rfl rfl (by have:=R.few;rw[P6];omega) λd b=>by obtain⟨c,hc,rfl⟩:=PQ.mp b;dsimp[bp,ay,aF,Qx,Qs,aq,av,cA,Rs.ag];exact zF rfl
     have h:=jR (λd=>isWhole d 0 9999) (ns.map EE);have ha:(ns.map EE).all (λd=>isWhole d 0 9999)=true:=by rw[Q6];intro d b;obtain⟨c,hc,rfl⟩:=PQ.mp b;have h1:=R.lo c hc;have h2:=R.hi c hc;simp[isWhole,h1,h2]
     rw[ha]at h;have hn:¬ ((60:Z)<((ns.map EE).length:Z)):=by have:=R.few;rw[P6];omega
     unfold oR;dsimp[aQ,dF,HS,wy,fh,iE,bQ,gN,ay,aF,aq,av,cA,Rs.ag,m,Rs.ai,bO,mP,E5,VS,Qb,SK,L' hn,aw,hZ,bW,A1,mX,hc,h,bp,jd sh,Sn,a8]
    .cases a rfl
   .cases a rfl
  .cases a rfl
def gz(B:O)(p:Z->R0):D' Int:=((LN B).map λ(i:O)=>(1+(i:Z))).find? p
theorem wW(B:O)(p:Z->R0):gz (B+1) p=(gz B p).or (if p (1+(B:Z)) then Y (1+(B:Z)) else S):=by unfold gz;rw[Xf,Qm,Sg];congr 1;dsimp[P0,Qv,Qd,J.find?_nil];cases p (1+(B:Z)) <;> rfl
theorem oy{p:Z->R0}:∀{B:O}{t:Z},gz B p=Y t->1<=t/\t<=B/\p t=true/\∀s,1<=s->s<t->p s=false
 |0,t,h=>by cases h
 |B+1,t,h=>by
  rw[wW]at h;cases q:gz B p with
  |some u =>rw[q]at h;cases h;obtain⟨h1,h2,h3,a⟩:=oy q;exact⟨h1,⋯,h3,a⟩
  |none =>
   rw[q,D'.none_or]at h;split at h
   .rename_i b;cases h;refine⟨⋯,⋯,b,λs h1 h2=>?_⟩;unfold gz at q;have:=Rh.mp q s (PQ.mpr ⟨(s-1).toNat,Ra.mpr ⋯,⋯⟩);simpa using this
   .cases h
theorem wN{B:O}{p:Z->R0}(h:gz B p=S):∀s:Z,1<=s->s<=(B:Z)->p s=false:=λs h1 h2=>by unfold gz at h;have:=Rh.mp h s (PQ.mpr ⟨(s-1).toNat,Ra.mpr ⋯,⋯⟩);simpa using this
theorem Er.times_mono(h:1<=e.every){t u:Z}(ht:t<=u):e.times t<=e.times u:=by
 unfold Er.times;have q:=Z.ediv_le_ediv (c:=e.every) ⋯ (show t+e.late<=u+e.late by omega);have r1:=QM (t+e.late) (b:=e.every) ⋯;have r2:=QM (u+e.late) (b:=e.every) ⋯;have d1:=RZ (t+e.late) e.every;have d2:=RZ (u+e.late) e.every;by_cases z:(t+e.late) / e.every=(u+e.late) / e.every
 .rw[<-z]at d2 ⊢;split <;> split <;> omega
 .split <;> split <;> omega
theorem yz{α:Type}(f g:α->Z):∀l:J α,(∀x∈l,f x<=g x)->(l.map f).sum<=(l.map g).sum
 |[],_=>QB _
 |x::r,h=>by
  have h1:=h x P7;have h2:=yz f g r λy a=>h y (P4 _ a)
  dsimp[P0,Qe];omega
theorem mW{α:Type}(f:α->Z):∀l:J α,(∀x∈l,0<=f x)->0<=(l.map f).sum
 |[],_=>QB _
 |x::r,h=>by
  have h1:=h x P7;have h2:=mW f r λy a=>h y (P4 _ a)
  dsimp[P0,Qe];omega
theorem zY{t u:Z}(b:∀e∈es,e.Sh)(f:bJ es.length rs)(g:t<=u):fT es rs n t<=fT es rs n u:=by
 unfold fT;have:=yz (λm=>(aK es m).times t*(aK es m).work) (λm=>(aK es m).times u*(aK es m).work) (rs.take (placeOf rs n)) λm hm=>by have a:=f.rng m (QP hm);have c:=b _ (bK a.1 a.2);exact Qo (Er.times_mono c.e1 g) c.work_b.1
 omega
structure qf(f:Z->Z):Prop where
 mono:∀t u,1<=t->t<=u->f t<=f u
 one:∀t,1<=t->1<=f t
theorem qf.fix{f:Z->Z}(R:qf f){t:Z}(h1:1<=t)(h:f t<=t)(a:∀s,1<=s->s<t->¬ f s<=s):f t=t:=by
 by_cases z:f t<t
 .exact So (R.mono _ _ (R.one t h1) h) (λq=>a (f t) (R.one t h1) z q)
 .omega
theorem Er.times_pos(h:1<=e.every){t:Z}(a:0<=t+e.late):0<=e.times t:=by unfold Er.times;have:=RH a (show 0<=e.every by omega);split <;> omega
inductive Fa2 {α β:Type} (R:α->β->Prop):J α->J β->Prop where
 |nil:Fa2 R [] []
 |cons {a:α} {b:β} {l:J α} {m:J β} (h:R a b) (t:Fa2 R l m):Fa2 R (a::l) (b::m)
def cnd(es:J Er)(rs:J Z)(pl:Z)(t:Z):Bool:=match aG es rs t with
 |some h=>decide (h<=pl)
 |none=>false
def Am(c:Z->R0)(z4:Z)(p:Z×D' Z):Int:=match p.2 with
 |some t=>if c t then max z4 (p.1-1) else z4
 |none=>z4
theorem yn(es:J Er)(rs:J Z)(pl:Z):cW es rs pl=Am (cnd es rs pl):=by
 funext z4 p;unfold cW Am cnd;cases p.2 with
 |none=>rfl
 |some t =>
  simp only;cases aG es rs t with
  |none=>rfl
  |some h=>simp
theorem E6{c:Z->R0}{z4 M:Z}:Am c z4 p<=M↔z4<=M/\∀t,p.2=Y t->c t=true->p.1-1<=M:=by
 unfold Am;rcases hp:p.2 with _|t
 .simp
 .simp only;cases hc:c t with
  |false=>simp[hc]
  |true =>
   dsimp[Sn];constructor
   .intro h;refine⟨⋯,λu a _=>by cases a;omega⟩
   .rintro⟨h1,h2⟩
    have:=h2 t rfl hc;omega
theorem yB{c:Z->R0}{M:Z}:∀(l:J (Z×D' Z))(z4:Z),l.foldl (Am c) z4<=M↔z4<=M/\∀p∈l,∀t,p.2=Y t->c t=true->p.1-1<=M
 |[],z4=>by simp
 |p::l,z4=>by
  rw[Qw,yB l,E6];constructor
  .rintro⟨⟨h1,h2⟩,h3⟩
   exact⟨h1,λq a=>(P8.mp a).elim (λz=>by rw[z];exact h2) (h3 q)⟩
  .rintro⟨h1,h2⟩
   exact⟨⟨h1,h2 p P7⟩,λq a=>h2 q (P4 _ a)⟩
theorem Bg(es:J Er)(t:Z):∀(rs:J Z)(k:Z)(j:O),(∃h,hts es rs k t=Y h/\h<=k+j)↔∃m∈rs.take (j+1),(aK es m).has t=true
 |[],k,j=>by simp[hts]
 |r::rs,k,j=>by
  unfold hts;rw[RC];by_cases hr:(aK es r).has t=true
  .rw[FC hr];exact⟨λ_=>⟨r,P7,hr⟩,λ_=>⟨k,rfl,⋯⟩⟩
  .rw[GC hr];cases j with
   |zero =>
    have lo:∀(rs:J Z)(k:Z) h,hts es rs k t=Y h->k<=h:=by
     intro rs
     induction rs with
     |nil=>intro k h e;cases e
     |cons a l c =>
      intro k h e;unfold hts at e;split at e
      .cases e;exact QB _
      .have:=c _ _ e;omega
    constructor
    .rintro⟨h,e,hl⟩
     have:=lo rs (k+1) h e;omega
    .rintro⟨m,hm,b⟩
     simp at hm;subst hm;exact So b hr
   |succ j =>
    have c:=Bg es t rs (k+1) j;constructor
    .rintro⟨h,e,hl⟩
     obtain⟨m,hm,b⟩:=c.mp ⟨h,e,⋯⟩;exact⟨m,P4 _ hm,b⟩
    .rintro⟨m,hm,b⟩
     rcases P8.mp hm with z|z
     .rw[z]at b;exact So b hr
     .obtain⟨h,e,hl⟩:=c.mpr ⟨m,z,b⟩;exact⟨h,e,⋯⟩
theorem CN{pl:O}{t:Z}:cnd es rs (pl:Z) t=true↔∃m∈rs.take (pl+1),(aK es m).has t=true:=by
 rw[<-Bg es t rs 0 pl];unfold cnd aG;cases hts es rs 0 t with
 |none=>simp
 |some h=>simp
def yZ(es:J Er)(ms:J Z):J (Z×D' Z):=(ms.map λm=>(aK es m).parts).flatten
theorem B9:p∈yZ es ms↔∃m∈ms,p∈(aK es m).parts:=by
 unfold yZ;rw[J.mem_flatten];constructor
 .rintro⟨l,hl,a⟩
  obtain⟨m,hm,rfl⟩:=PQ.mp hl;exact⟨m,hm,a⟩
 .rintro⟨m,hm,a⟩
  exact⟨_,PQ.mpr ⟨m,hm,rfl⟩,a⟩
theorem vC{M:Z}:eJ es rs n<=M↔0<=M/\∀m∈rs.drop (placeOf rs n+1),∀p∈(aK es m).parts,∀t,p.2=Y t->(∃u∈rs.take (placeOf rs n+1),(aK es u).has t=true)->p.1-1<=M:=by
 unfold eJ;rw[yn,yB];constructor
 .rintro⟨h1,h2⟩
  exact⟨h1,λm hm p a t b c=>h2 p (B9.mpr ⟨m,hm,a⟩) t b (CN.mpr c)⟩
 .rintro⟨h1,h2⟩
  refine⟨h1,λp a t b hc=>?_⟩;obtain⟨m,hm,a⟩:=B9.mp a;exact h2 m hm p a t b (CN.mp hc)
theorem BH{A r:J Z}(h:n∈A):placeOf (A++r) n=placeOf A n:=by
 unfold placeOf
 induction A with
 |nil=>cases h
 |cons a l ih =>
  rw[Qx,Se,Se];cases hn:a==n with
  |true=>rfl
  |false =>
   have b:a≠n:=by simpa using hn
   rw[cond_false,cond_false,ih ((P8.mp h).resolve_left λq=>b q.symm)]
theorem tO(es:J Er)(rs:J Z)(n:Z):0<=eJ es rs n:=(vC.mp (QB _)).1
theorem qi:∀(ps:J (Z×D' Z)),(∀p∈ps,0<=p.1)->∀p∈ps,p.1<=(ps.map (·.1)).sum
 |[],_,p,a=>by cases a
 |q::r,h,p,a=>by
  have h0:=h q P7;have h1:=mW (λp:Z×D' Z=>p.1) r λp a=>h p (P4 _ a)
  dsimp[P0,Qe];rcases P8.mp a with rfl|a
  .omega
  .have:=qi r (λp a=>h p (P4 _ a)) p a;omega
theorem Er.Sh.part_le(h:e.Sh)(a:p∈e.parts):p.1<=e.work:=qi e.parts (λp a=>(h.pl p a).1) p a
section
variable {A B:J Z}{x y:Z}
end
theorem v9(h:n∈rs):rs[placeOf rs n]?=Y n:=by have lt:=mR h;rw[My lt];have a:(rs[placeOf rs n]==n)=true:=VD (p:=(·==n)) (xs:=rs) (w:=lt);rw[TB.mp a]
section
variable {ot:J Z}
end
theorem pV:∀{ds:J L},(∀d∈ds,aO d=true)->eG ds=true
 |[],_=>by unfold eG;rfl
 |d::r,h=>by unfold eG;rw[h d P7,pV λe a=>h e (P4 _ a)];rfl
theorem jn(h:∀d∈ds,aO d=true):aO (.tuple ds)=true:=by unfold aO;exact pV h
theorem fu(h:∀d∈ds,aO d=true):aO (.list ds)=true:=by unfold aO;exact pV h
theorem iY(i:Z):aO (.int i)=true:=by unfold aO;rfl
theorem uY(o:D' Z):aO (aW o)=true:=by cases o <;> (unfold aW aO;rfl)
theorem Bm(p:Z×D' Z):aO (aN p)=true:=jn λd hd=>by
 rcases P8.mp hd with rfl|hd
 .exact iY _
 .cases PV.mp hd;exact uY _
theorem F8(e:Er):aO e.d=true:=jn λd hd=>by
 rcases P8.mp hd with rfl|hd
 .exact iY _
 .rcases P8.mp hd with rfl|hd
  .exact iY _
  .rcases P8.mp hd with rfl|hd
   .exact iY _
   .cases PV.mp hd;exact jn λd hd=>by obtain⟨p,_,rfl⟩:=PQ.mp hd;exact Bm p
theorem vV(es:J Er):aO (ar es)=true:=jn λd hd=>by obtain⟨p,_,rfl⟩:=PQ.mp hd;exact F8 p
theorem kF(rs:J Z):∀d∈rs.map EE,aO d=true:=λd hd=>by obtain⟨p,_,rfl⟩:=PQ.mp hd;exact iY p
theorem uq(rs:J Z):aO (aj rs)=true:=jn (kF rs)
end RS
namespace RS
open PySem PySem.Spec PyProof.Rows L2
section
theorem wd{xs:J α}{k:Z}{v:α}(a:0<=k)(h:xs[k.toNat]?=Y v):atI xs k=Y v:=by
 have:=qY h
 rwa[Rm a]at this
theorem depthAll_ints:∀ns:J Z,UB (ns.map EE)<=1
 |[]=>by simp[UB]
 |n::r=>by have:=depthAll_ints r;dsimp[P0,UB,Ub];omega
theorem ql:∀ns:J Z,Uq (ns.map EE)=true
 |[]=>by simp[Uq]
 |n::r=>by simp[Uq,TQ,ql r]
theorem shaped_ints(ns:J Z):SF (.list (ns.map EE))=true:=by
 have:=depthAll_ints ns;have h2:(Uk (ns.map EE)).depth<=64:=by dsimp[Ub];omega
 simp[SF,TQ,ql,h2]
theorem Ba:SF (.list [])=true:=shaped_ints []
theorem FF:∀ns:J Z,SX (.list (ns.map EE)) (.list [])=decide (ns=[])
 |[]=>by simp[SX,TK]
 |_::_=>by simp[SX,TK]
def Hj(K:N'):Sp:=λvs H Q _=>∃(a:HL)(ns:J Z)(k:Z),vs=[.ref a,.int k]/\SqL K H a (ns.map V.int)/\0<=k/\∀H',aA H H'->Q (.int (cellAt ns k)) H'
def Lh(K:N'):Sp:=λvs H Q _=>∃(a:HL)(ns:J Z)(k y1:Z),vs=[.ref a,.int k,.int y1]/\SqL K H a (ns.map V.int)/\0<=k/\0<y1/\∀H',aA H H'->Q (.int (mixed ns k y1)) H'
theorem Jj(ds:J L)(hl:ds.length=3)(b:ak ds≠.no):∃d,ak ds=.ok d/\iI d=true/\∀vs H Q,Iss K H ds vs->(∀v H',aA H H'->IsD K H' d v->Q v H')->Lh K vs H Q E0:=by
 obtain⟨s,k,y1,e,c⟩:=q9 b;clear b;subst e;have b:=c;clear c
 .skip
  split at b
  .rename_i ns f;have es:=jE f;subst es;split at b
   .rename_i hc;refine⟨_,cG hc.1 hc.2,rfl,λvs H Q hi g=>?_⟩;obtain⟨v0,r0,rfl,h,v1,r1,rfl,h1,v2,r2,rfl,h2,rfl⟩:=hi;obtain⟨a,rfl,i⟩:=h.ofScript;rw[h1.ofInt,h2.ofInt];exact⟨a,ns,k,y1,rfl,i,hc.1,hc.2,λH' s'=>g _ _ s' wu⟩
   .cases b rfl
  .cases b rfl
end
end RS
namespace RS
open PySem L2
def okIn(d r:L):Bool:=ee d&&dj (cu d).length r
def okN(d r:L)(n:Z):Bool:=okIn d r&&decide (0<=n)&&decide (n<(cu d).length)
def cF:Gf
 |[d,r,.int n]=>if okN d r n then .ok (aW (iZ (cu d) (b9 r) n)) else .no
 |_=>.no
section
theorem JL(h1:1<=es.length)(h2:es.length<=6)(h:∀e∈es,e.Ok)(a:bJ es.length rs):okIn (ar es) (aj rs)=true:=by unfold okIn;rw[oU h1 h2 h,fk,fw a];rfl
theorem GX(h1:1<=es.length)(h2:es.length<=6)(h:∀e∈es,e.Ok)(a:bJ es.length rs)(n0:0<=n)(n1:n<es.length):okN (ar es) (aj rs) n=true:=by unfold okN;rw[JL h1 h2 h a,fk];simp[n0,n1]
theorem mE(h1:1<=es.length)(h2:es.length<=6)(h:∀e∈es,e.Ok)(a:bJ es.length rs)(n0:0<=n)(n1:n<es.length):cF [ar es,aj rs,.int n]=.ok (aW (iZ es rs n)):=by unfold cF;dsimp[GX h1 h2 h a n0 n1,Sn,fk,dZ]
end
theorem HW(o:D' Z):dNe (aW o) (aW o)=Y (.bool false):=by
 cases o with
 |none =>
  have h:SF .none=true:=by simp[SF,TQ,Ub]
  show dNe .none .none=_;unfold dNe;rw[h];simp[aO,SX]
 |some i=>show dNe (.int i) (.int i)=_;simp
theorem qk{cond:Ds->Rs R0}{elt:Ds->Rs L}{δ:Ds}{p:L->R0}:∀(ds:J L),(∀d∈ds,cond (δ++[Y d])=.ok (p d)/\elt (δ++[Y d])=.ok d)->eB cond elt aL δ ds=.ok (ds.filter p)
 |[],_=>rfl
 |d::r,h=>by
  obtain⟨h1,h2⟩:=h d P7;have a:=qk r λe b=>h e (P4 _ b)
  unfold eB;cases hp:p d with
  |true=>dsimp[aL,h1,hp,Rs.cM,Rs.ag,Sn,h2,a,Qn]
  |false=>dsimp[aL,h1,hp,Rs.cM,Rs.ag,SK,Qb,a,Qn]
theorem nG{elt:Ds->Rs L}{p:L->R0}(hn:δ.length=n0)(a:src δ=.ok ds)(hl:ds.length<=1000000)(h:∀d∈ds,cond (δ++[Y d])=.ok (p d)/\elt (δ++[Y d])=.ok d) :
  a9 n0 src cond elt aL δ=.ok (ds.filter p):=by
 unfold a9;rw[FC hn,a];dsimp[Rs.ag,FC hl];exact qk ds h
theorem MQ(es:J Er):cp [ar es]=⇑(es.length:Z):=by unfold ar;rw[BF,P6]
theorem lawT_of{n:O}{G:Ds->Sr}{k:O}(h:∀ns:J Z,G (Y (au ns)::I' k S)=.rt (.bool true)):∀ds,ds.length=1->ig n ds≠.no->bc (G (ds.map Y++I' k S))=ig n ds:=by
 intro ds hl a
 match ds,hl with
 |[s],_ =>
  unfold ig at a ⊢;simp only at a ⊢;split at a
  .rename_i ns b;have es:=jE b;subst es;split at a
   .rename_i hc;dsimp[gW,FC hc];show bc (G (Y (au ns)::I' k S))=_;rw[h];rfl
   .cases a rfl
  .cases a rfl
theorem Ef(cs:Cs):LLq (vk cs) 1 0 bw:=rM cs
def bL(cs:Cs):Gf
 |[.tuple es,x]=>if aO x then (if isWhole x 0 ((es.length:Z)-1) then .ok x else .rz cs.NoErrand) else .no
 |_=>.no
theorem pw(cs:Cs):LLq (fF cs aT) 2 0 (bL cs):=by
 intro ds hl a;obtain⟨es,x,c,b⟩:=Hd a;clear a;subst c;have a:=b;clear b;unfold bL
 .skip
  split at a
  .rename_i hd;dsimp[hd,Sn];cases e:isWhole x 0 ((es.length:Z)-1) with
   |true=>simp[fF,hd,e]
   |false=>simp[fF,hd,e]
  .cases a rfl
theorem vR{d r:L}(h:okN d r n=true):∃es rs,d=ar es/\r=aj rs/\cu d=es/\b9 r=rs/\1<=es.length/\es.length<=6/\(∀e∈es,e.Ok)/\bJ es.length rs/\0<=n/\n<es.length:=by unfold okN okIn at h;dsimp[P9,L3]at h;obtain⟨⟨⟨c1,a⟩,n0⟩,n1⟩:=h;obtain⟨e1,l1,l6,hok⟩:=AN c1;obtain⟨e2,b⟩:=jm a;exact⟨cu d,b9 r,e1.symm,e2.symm,rfl,rfl,l1,l6,hok,b,n0,n1⟩
theorem jM(cs:Cs)(h1:1<=es.length)(h2:es.length<=6)(h:∀e∈es,e.Ok):bD cs [ar es]=.ok (ar es):=by unfold bD;simp[vV,oU h1 h2 h]
theorem iK(cs:Cs)(h2:es.length<=6)(a:bJ es.length rs):bg cs [ar es,aj rs]=.ok (aj rs):=by unfold ar bg;dsimp[P6,uq,fw a,RU,Sn];rw[FC (by simp;omega)]
theorem lN(cs:Cs)(n0:0<=n)(n1:n<es.length):bL cs [ar es,.int n]=.ok (.int n):=by unfold ar bL;dsimp[iY,Sn,P6,isWhole];rw[FC (by simp;omega)]
def bx:Gf
 |[d,r,.int n]=>if okN d r n then .ok .none else .no
 |_=>.no
theorem gK(h1:1<=es.length)(h2:es.length<=6)(h:∀e∈es,e.Ok)(a:bJ es.length rs)(n0:0<=n)(n1:n<es.length):bx [ar es,aj rs,.int n]=.ok .none:=by unfold bx;dsimp[GX h1 h2 h a n0 n1,Sn]
theorem uF(cs:Cs):LLq (ic cs (bL cs) (bg cs) (bD cs)) 3 0 bx:=by
 intro ds hl a;obtain⟨d,r,n,e,b⟩:=l8 a;clear a;subst e;have a:=b;clear b
 .skip
  split at a
  .rename_i hc;obtain⟨es,rs,rfl,rfl,_,_,l1,l6,hok,c,n0,n1⟩:=vR hc;rw[gK l1 l6 hok c n0 n1];show bc (ic cs (bL cs) (bg cs) (bD cs) #[3,⇑n])=_;simp[ic,jM cs l1 l6 hok,iK cs l6 c,lN cs n0 n1]
  .cases a rfl
noncomputable def c9(r:J Z):PyData:=.list (r.map EE)
def cmD(z5:J (J Z)):PyData:=.list (z5.map c9)
inductive Cms:J Er->J (J Z)->Prop
 |nil:Cms [] []
 |cons {e:Er} {r:J Z} {es:J Er} {z5:J (J Z)}:oz r->hvE e r=true->Cms es z5->Cms (e::es) (r::z5)
theorem Cms.len(h:Cms es z5):z5.length=es.length:=by
 induction h with
 |nil=>rfl
 |cons _ _ _ ih=>simp[ih]
theorem Cms.qH(h:Cms es z5):∀r∈z5,oz r:=by
 induction h with
 |nil=>intro r a;cases a
 |cons a _ _ ih =>
  intro b h';rcases P8.mp h' with rfl|h'
  .exact a
  .exact ih b h'
structure BB(es:J Er):Prop where
 l1:1<=es.length
 l6:es.length<=6
 ok:∀e∈es,e.Ok
open Classical in
def bE(cs:Cs):Gf:=λds=>if ∃es z5,BB es/\Cms es z5/\ds=[ar es,cmD z5] then .ok (ds.getD 1 .none) else .no
theorem gR(h:BB es)(c:Cms es z5):bE cs [ar es,cmD z5]=.ok (cmD z5):=by unfold bE;rw[FC ⟨es,z5,h,c,rfl⟩];rfl
theorem Hc{δ:Ds}(f:δ.length=2):∀{es:J Er}{z5:J (J Z)},Cms es z5->(∀e∈es,e.Sh)->eB bF (ao dX #[0,2,3]) fQ δ (uB (es.map Er.d) (z5.map c9))=.ok (z5.map λ_=>.bool true)
 |_,_,.nil,_=>rfl
 |_,_,.cons (e:=e) (r:=r) (es:=es) (z5:=z5) hr hv c,hs=>by
  obtain⟨a,b,rfl⟩:∃a b,δ=[a,b]:=by
   match δ,f with
   |[a,b],_=>exact⟨a,b,rfl⟩
  have g:=Hc f c λx h=>hs x (P4 _ h)
  show eB _ _ _ _ (Ta [e.d,c9 r]::uB (es.map Er.d) (z5.map c9))=_;unfold eB;rw[show fQ (Ta [e.d,c9 r])=Y [Y e.d,Y (c9 r)] from rfl];have i:ao dX #[0,2,3] ([a,b]++[Y e.d,Y (c9 r)])=.ok (.bool true):=by dsimp[bp,ay,aF,Qx,Qs,aq,av,Rs.ag];rw[show c9 r=.list (r.map EE) from rfl,n8 (hs e P7) hr,hv]
  dsimp[bF,Rs.cM,Rs.ag,Sn,i,g,P0]
theorem rH(z5:J (J Z)):aO (cmD z5)=true:=by
 unfold cmD
 induction z5 with
 |nil=>rfl
 |cons a r ih =>
  have h1:=lE a;have:aO (.list (c9 a::r.map c9))=(aO (c9 a)&&aO (.list (r.map c9))):=by simp[aO,eG]
  rw[P0,this,ih];dsimp[Ro];exact h1
theorem nL(cs:Cs):LLq (fc cs dX (bD cs)) 2 0 (bE cs):=by
 intro ds hl a;by_cases h:∃es z5,BB es/\Cms es z5/\ds=[ar es,cmD z5]
 .obtain⟨es,z5,ok,c,rfl⟩:=h;rw[gR ok c];have k1:=jM cs ok.l1 ok.l6 ok.ok;have j:mY "list" (cmD z5)=Y (.bool true):=by unfold mY;rw[FC (rH z5)];rfl
  have hn:dNe (.int ((z5.map c9).length:Z)) (.int ((es.map Er.d).length:Z))=Y (.bool false):=by have:=c.len;rw[P6,P6,this,Ou];simp
  have l:a9 2 (KG #[0,0,1]) bF (ao dX #[0,2,3]) fQ [Y (ar es),Y (cmD z5)]=.ok (z5.map λ_=>.bool true):=by
   unfold a9;rw[FC (show [Y (ar es),Y (cmD z5)].length=2 from rfl)];have m:KG #[0,0,1] [Y (ar es),Y (cmD z5)]=.ok (uB (es.map Er.d) (z5.map c9)):=by show (if (z5.map c9).length=(es.map Er.d).length then Rs.ok (uB (es.map Er.d) (z5.map c9)) else Rs.no)=_;exact FC (by rw[P6,P6];exact c.len)
   rw[m];dsimp[Rs.ag];rw[FC (by unfold uB;rw[VI,P6,P6];have:=ok.l6;omega)];exact Hc rfl c λe n=>(ok.ok e n).sh
  have i:=jR (λ_:J Z=>true) z5;have ha:z5.all (λ_=>true)=true:=by rw[Q6];intros;rfl
  rw[ha]at i;have b:a9 2 (br (ae 1)) bF (gF Ah #[0,2]) aL [Y (ar es),Y (cmD z5)]=.ok ((z5.map c9).map id) :=
   dR rfl rfl (by have:=c.len;have:=ok.l6;rw[P6];omega) λd f=>by obtain⟨r,hr,rfl⟩:=PQ.mp f;rfl
  show bc (fc cs dX (bD cs) [Y (ar es),Y (cmD z5)])=_;unfold fc;have g:cp [cmD z5]=⇑((z5.map c9).length:Z):=rfl;have hle:cp [ar es]=⇑((es.map Er.d).length:Z):=rfl;dsimp[aQ,qT,bp,ay,aF,aq,av,Rs.ag,k1,aw,dF,HS,wy,fh,iE,bQ,gN,j,Rs.ai,bO,g,hle,hn,VS,Qb,SK,hZ,mX,l,i,bW,b,QJ,a8];rfl
 .exfalso;apply a;unfold bE;rw[GC h]
structure Jb where
 num:Z
 parts:J (Z×D' Z)
 rank:Z
 row:J Z
 job:O
 part:O
 spent:O
variable {key:Jb->L}{ts:J (HL×Jb)}{s:J Jb×J L}{p q:HL×Jb}{js:J Jb}{j:Jb}
def Jb.fds(j:Jb):J (M'×L):=[("number",.int j.num),("parts",.tuple (j.parts.map aN)),("rank",.int j.rank),("row",c9 j.row),("job",.int j.job),("part",.int j.part),("spent",.int j.spent)]
def Jb.d(C a:HL)(j:Jb):PyData:=cN C a j.fds
theorem mO{f:M'}{r:J (M'×L)}(h:("@":M')≠f):bf C f (cN C a r)=jC f (r.map λp=>(.str p.1,p.2)):=by show (if ("":M')=""/\(C:Z)=(C:Z) then (if ("@":M')=f then Y (EE (a:Z)) else jC f (r.map λp=>(.str p.1,p.2))) else S)=_;rw[FC ⟨rfl,rfl⟩,GC h]
section
theorem BG:bf C "number" (j.d C a)=⇑j.num:=by unfold Jb.d;rw[mO #[1]];rfl
theorem nW:bf C "parts" (j.d C a)=Y (.tuple (j.parts.map aN)):=by unfold Jb.d;rw[mO #[1]];rfl
theorem rg:bf C "rank" (j.d C a)=⇑j.rank:=by unfold Jb.d;rw[mO #[1]];rfl
theorem AA:bf C "row" (j.d C a)=Y (c9 j.row):=by unfold Jb.d;rw[mO #[1]];rfl
theorem xc:bf C "job" (j.d C a)=⇑j.job:=by unfold Jb.d;rw[mO #[1]];rfl
theorem qZ:bf C "part" (j.d C a)=⇑j.part:=by unfold Jb.d;rw[mO #[1]];rfl
theorem lQ:bf C "spent" (j.d C a)=⇑j.spent:=by unfold Jb.d;rw[mO #[1]];rfl
end
def gfG(n k:O)(G:Ds->Sr):Gf:=λds=>if ds.length=n then bc (G (ds.map Y++I' k S)) else .no
theorem iq{n k:O}{G:Ds->Sr}:∀ds,ds.length=n->gfG n k G ds≠.no->bc (G (ds.map Y++I' k S))=gfG n k G ds:=by intro ds hl _;unfold gfG;rw[FC hl]
def bh(cs:Cs):Gf:=gfG 1 0 (eO cs)
def aS(cs:Cs):Gf:=gfG 1 0 (fM cs)
def aZ(cs:Cs):Gf:=gfG 1 0 (ij cs)
def aX(cs:Cs):Gf:=gfG 2 0 (eN cs)
theorem zK:bh cs [j.d cs.Jobs a]=.ok (.bool ((j.job:Z)==(j.row.length:Z))):=by
 have hl:cp [c9 j.row]=⇑(j.row.length:Z):=by unfold c9;rw[mP,P6]
 show bc (eO cs [Y (j.d cs.Jobs a)])=_;unfold eO;dsimp[bW,bQ,iE,aq,Rs.ag,xc,AA,Rs.ai,gN,ay,aF,hl,kU,aw,a8]
def Jb.tool(j:Jb):D' Int:=(j.parts[j.part]?.map (·.2)).getD S
theorem xf{p:Z×D' Z}(h:j.parts[j.part]?=Y p):dIx (.tuple (j.parts.map aN)) (.int (j.part:Z))=Y (aN p):=by rw[mz];exact qY (by rw[Q5,h];rfl)
theorem part1(p:Z×D' Z):dIx (aN p) (.int 1)=Y (aW p.2):=rfl
theorem uW(h:j.part<j.parts.length):aS cs [j.d cs.Jobs a]=.ok (aW (if j.spent=0 then j.tool else S)):=by
 show bc (fM cs [Y (j.d cs.Jobs a)])=_;unfold fM;have b:j.parts[j.part]?=Y j.parts[j.part]:=My h;have c:j.tool=j.parts[j.part].2:=by unfold Jb.tool;rw[b];rfl
 by_cases z:j.spent=0
 .have e:((j.spent:Z)==0)=true:=by rw[z];rfl
  rw[FC z,c];dsimp[bW,gIf,fh,bQ,iE,aq,cA,Rs.ag,lQ,nW,qZ,Rs.ai,kU,e,bO,Sn,xf b,part1,aw,a8]
 .have e:((j.spent:Z)==0)=false:=by rw[SE];omega
  rw[GC z];dsimp[bW,gIf,fh,bQ,iE,aq,cA,Rs.ag,lQ,Rs.ai,kU,e,bO,Qb,SK,aw,a8];rfl
theorem CZ(h:j.part<j.parts.length):aZ cs [j.d cs.Jobs a]=.ok (aW (if j.spent=0 then S else j.tool)):=by
 show bc (ij cs [Y (j.d cs.Jobs a)])=_;unfold ij;have b:j.parts[j.part]?=Y j.parts[j.part]:=My h;have c:j.tool=j.parts[j.part].2:=by unfold Jb.tool;rw[b];rfl
 by_cases z:j.spent=0
 .have e:decide ((0:Z)<(j.spent:Z))=false:=by rw[z];rfl
  rw[FC z];dsimp[bW,gIf,fh,bQ,iE,aq,cA,Rs.ag,lQ,Rs.ai,E5,e,bO,Qb,SK,aw,a8];rfl
 .have e:decide ((0:Z)<(j.spent:Z))=true:=by rw[L3];omega
  rw[GC z,c];dsimp[bW,gIf,fh,bQ,iE,aq,cA,Rs.ag,lQ,nW,qZ,Rs.ai,E5,e,bO,Sn,xf b,part1,aw,a8]
def Jb.there(j:Jb)(t:Z):Bool:=match j.row[j.job]? with
 |some c=>decide (c<=t)
 |none=>false
theorem Aj{t:Z}(h:j.job<=j.row.length):aX cs [j.d cs.Jobs a,.int t]=.ok (.bool (j.there t)):=by
 have hl:cp [c9 j.row]=⇑(j.row.length:Z):=by unfold c9;rw[mP,P6]
 show bc (eN cs [Y (j.d cs.Jobs a),⇑t])=_;unfold eN Jb.there;by_cases z:j.job<j.row.length
 .have b:j.row[j.job]?=Y j.row[j.job]:=My z;have e:decide ((j.job:Z)<(j.row.length:Z))=true:=by rw[L3];omega
  have c:dIx (c9 j.row) (.int (j.job:Z))=Y (.int j.row[j.job]):=by show atI (j.row.map EE) _=_;exact qY (by rw[Q5,b];rfl)
  rw[b];dsimp[bW,A1,bQ,iE,aq,av,Rs.ag,xc,AA,Rs.ai,gN,ay,aF,hl,Nj,e,bO,Sn,c,OA,aw,a8]
 .have b:j.row[j.job]?=none:=QS ⋯;have e:decide ((j.job:Z)<(j.row.length:Z))=false:=by rw[SD];omega
  rw[b];dsimp[bW,A1,bQ,iE,aq,av,Rs.ag,xc,AA,Rs.ai,gN,ay,aF,hl,Nj,e,bO,Qb,SK,aw,a8]
noncomputable def jD(C:HL)(p:HL×Jb):PyData:=p.2.d C p.1
def Jb.held(j:Jb):D' Int:=if j.spent=0 then S else j.tool
def Jb.wanted(j:Jb):D' Int:=if j.spent=0 then j.tool else S
def holdsT(t:Z)(p:HL×Jb):Bool:=p.2.held==Y t
theorem eq_none_int(x:Z):dEq .none (.int x)=Y (.bool false):=by
 have h:SF (.int x)=true:=by simp[SF,TQ,Ub]
 unfold dEq;rw[h];simp[aO,SX]
 first|done|rfl|decide
theorem Hn(o:D' Z)(t:Z):dEq (aW o) (.int t)=Y (.bool (o==Y t)):=by
 cases o with
 |none=>exact eq_none_int t
 |some i=>rw[show aW (Y i)=.int i from rfl,kU];simp
theorem wY{m:M'}(h1:("@":M')≠m)(h:kO m (j.fds.map λp=>(.str p.1,p.2))=true):isC C m (j.d C a)=true:=by
 show (decide (("":M')="")&&decide ((C:Z)=(C:Z))&&kO m ((.str "@",.int (a:Z))::(j.fds.map λp=>(.str p.1,p.2))))=true;have:kO m ((.str "@",.int (a:Z))::(j.fds.map λp=>(Vj p.1,p.2)))=true:=by unfold kO;dsimp[h,Ro];simpa using h1
 rw[this];simp
theorem zH:isC C "held" (j.d C a)=true:=wY #[1] rfl
theorem tW:isC C "wanted" (j.d C a)=true:=wY #[1] rfl
theorem xK:isC C "are_done" (j.d C a)=true:=wY #[1] rfl
theorem xm:isC C "is_there" (j.d C a)=true:=wY #[1] rfl
def bX(cs:Cs):Gf:=gfG 2 1 (lR cs (aZ cs))
def lH(C:HL)(ts:J (HL×Jb))(tool:D' Z):PyData:=match tool with
 |none=>.none
 |some t=>match ts.find? (holdsT t) with
  |none=>.none
  |some p=>jD C p
theorem qF{cs:Cs}{t:Z}{X:L}:∀(ts:J (HL×Jb))(x2:D' L),(∀p∈ts,p.2.part<p.2.parts.length) ->
   (∃p,ts.find? (holdsT t)=Y p/\forL (aU 2) (sIf (gT (g2 dEq (bG cs.Jobs "held" (aZ cs) (ae 2) ah) (ae 1))) (bq (ae 2)) ba) (ts.map (jD cs.Jobs)) [Y X,⇑t,x2]=.rt (jD cs.Jobs p))
  \/(ts.find? (holdsT t)=S/\∃δ,forL (aU 2) (sIf (gT (g2 dEq (bG cs.Jobs "held" (aZ cs) (ae 2) ah) (ae 1))) (bq (ae 2)) ba) (ts.map (jD cs.Jobs)) [Y X,⇑t,x2]=.nx δ)
 |[],x2,_=>.inr ⟨rfl,_,rfl⟩
 |p::r,x2,h=>by
   have h1:aU 2 (jD cs.Jobs p) [Y X,⇑t,x2]=Y [Y X,⇑t,Y (jD cs.Jobs p)]:=rfl;have hm:bG cs.Jobs "held" (aZ cs) (ae 2) ah [Y X,⇑t,Y (jD cs.Jobs p)]=.ok (aW p.2.held):=by unfold bG;dsimp[aq,av,Rs.ag];rw[FC (show isC cs.Jobs "held" (jD cs.Jobs p)=true from zH)];dsimp[aF,Rs.ag];exact CZ (h p P7)
   have hc:gT (g2 dEq (bG cs.Jobs "held" (aZ cs) (ae 2) ah) (ae 1)) [Y X,⇑t,Y (jD cs.Jobs p)]=.ok (holdsT t p):=by dsimp[fh,bQ,hm,aq,av,Rs.ag,Hn,Rs.ai,bO];rfl
   rw[P0];unfold forL;rw[h1];cases z:holdsT t p with
   |true =>refine .inl ⟨p,by rw[J.find?_cons_of_pos z],?_⟩;dsimp[dF,hc,z,aw,Sn,bW,aq,av]
   |false =>dsimp[dF,hc,z,aw,Qb,SK,hZ];rw[J.find?_cons_of_neg (by rw[z];exact Q1)];exact qF r _ λq a=>h q (P4 _ a)
theorem u3{tool:D' Z}(h:∀p∈ts,p.2.part<p.2.parts.length):bX cs [.list (ts.map (jD cs.Jobs)),aW tool]=.ok (lH cs.Jobs ts tool):=by
 show bc (lR cs (aZ cs) [↥(ts.map (jD cs.Jobs)),Y (aW tool),S])=_;unfold lR lH;cases tool with
 |none=>rfl
 |some t =>
  have hn:gT (g1 p8 (ae 1)) [↥(ts.map (jD cs.Jobs)),⇑t,S]=.ok false:=rfl;show bc (az (sIf (gT (g1 p8 (ae 1))) (bq (gC .none)) ba) (az (cY [] (br (ae 0)) (aU 2) (sIf (gT (g2 dEq (bG cs.Jobs "held" (aZ cs) (ae 2) ah) (ae 1))) (bq (ae 2)) ba)) (bq (gC .none))) [↥(ts.map (jD cs.Jobs)),⇑t,S])=_;have a:cY [] (br (ae 0)) (aU 2) (sIf (gT (g2 dEq (bG cs.Jobs "held" (aZ cs) (ae 2) ah) (ae 1))) (bq (ae 2)) ba) [↥(ts.map (jD cs.Jobs)),⇑t,S]=forL (aU 2) (sIf (gT (g2 dEq (bG cs.Jobs "held" (aZ cs) (ae 2) ah) (ae 1))) (bq (ae 2)) ba) (ts.map (jD cs.Jobs)) [↥(ts.map (jD cs.Jobs)),⇑t,S]:=rfl;dsimp[aQ,dF,hn,aw,Qb,SK,hZ,a];rcases qF (cs:=cs) (t:=t) (X:=.list (ts.map (jD cs.Jobs))) ts S h with⟨p,f1,f2⟩|⟨f1,δ,f2⟩
  .rw[f1,f2];rfl
  .rw[f1,f2];rfl
def cR(cs:Cs):Gf:=gfG 1 3 (iN cs (aS cs) (bX cs))
theorem Kx:cV (jD C q)=Y (.bool true):=rfl
def lrB(cs:Cs):Ds->Sr:=(az (aJ [1] 3 (ao (bX cs) #[0,0,bG cs.Jobs "wanted" (aS cs) (ae 2) ah]))
 (sIf (gT (g1 cV (ae 3))) (nh 1 (g1 (bf cs.Jobs "number") (ae 3)) (gF j9 #[0,g1 (bf cs.Jobs "rank") (ae 2),jv (ae 1) (g1 (bf cs.Jobs "number") (ae 3)) (g1 (bf cs.Jobs "rank") (ae 3))])) ba))
theorem IW(l:J (Z×Z))(k v:Z):(p7 l k v).length<=l.length+1:=by unfold p7;split <;> simp
def cg(cs:Cs):Gf:=gfG 2 1 (cn cs (aZ cs))
theorem vQ{x y:D' L}(h:p.2.part<p.2.parts.length):bG cs.Jobs "held" (aZ cs) (ae 0) ah [Y (jD cs.Jobs p),x,y]=.ok (aW p.2.held):=by unfold bG;dsimp[aq,Rs.ag];rw[FC (show isC cs.Jobs "held" (jD cs.Jobs p)=true from zH)];dsimp[aF,Rs.ag];exact CZ h
theorem GG(h:ts≠[]):∃p∈ts,lH C ts p.2.wanted=.none:=by
 by_cases z:∃p∈ts,p.2.spent≠0
 .obtain⟨p,a,b⟩:=z;refine⟨p,a,?_⟩;unfold Jb.wanted;rw[GC b];rfl
 .have c:∀p∈ts,p.2.spent=0:=λp a=>by
   by_cases q:p.2.spent=0
   .exact q
   .exact So ⟨p,a,q⟩ z
  obtain⟨p,r,rfl⟩:=Rz h;refine⟨p,P7,?_⟩;unfold lH;cases p.2.wanted with
  |none=>rfl
  |some t =>
   have:(p::r).find? (holdsT t)=none:=by rw[Rh];intro q e;unfold holdsT Jb.held;rw[FC (c q e)];exact Q1
   dsimp[this]
def dg(cs:Cs):Gf:=gfG 3 2 (lP cs (cR cs) (aS cs) (bX cs) (cg cs))
theorem eq_str{s t:M'}(h1:SF (.str s)=true)(h2:SF (.str t)=true):dEq (.str s) (.str t)=Y (.bool (s==t)):=by unfold dEq;rw[h1,h2];simp[aO,SX]
def Gi(cs:Cs)(δ:Ds)(d:L):Bool:=match ao (bX cs) #[0,0,bG cs.Jobs "wanted" (aS cs) (ae 5) ah] (δ++[Y d]) with
 |.ok x=>fN x
 |_=>false
theorem Cr{x1 x2 x3 x4:D' L}(h:∀p∈ts,p.2.part<p.2.parts.length)(a:q∈ts) :
  ao (bX cs) #[0,0,bG cs.Jobs "wanted" (aS cs) (ae 5) ah] [↥(ts.map (jD cs.Jobs)),x1,x2,x3,x4,Y (jD cs.Jobs q)]=.ok (lH cs.Jobs ts q.2.wanted):=by
 have h2:bG cs.Jobs "wanted" (aS cs) (ae 5) ah [↥(ts.map (jD cs.Jobs)),x1,x2,x3,x4,Y (jD cs.Jobs q)]=.ok (aW q.2.wanted):=by unfold bG;dsimp[aq,av,Rs.ag];rw[FC (show isC cs.Jobs "wanted" (jD cs.Jobs q)=true from tW)];dsimp[aF,Rs.ag];exact uW (h q a)
 dsimp[bp,ay,aF,aq,h2,Rs.ag];exact u3 h
structure xH(s:M'):Prop where
 sh:SF (.str s)=true
theorem IB:SF (.str "high")=true:=by decide +kernel
theorem yO:SF (.str "asked")=true:=by decide +kernel
theorem xo(ps:J (Z×D' Z)):aO (.tuple (ps.map aN))=true:=by
 induction ps with
 |nil=>rfl
 |cons a r ih =>
  have h1:aO (aN a)=true:=by obtain⟨x,o⟩:=a;cases o <;> rfl
  have:aO (.tuple (aN a::r.map aN))=(aO (aN a)&&aO (.tuple (r.map aN))):=by simp[aO,eG]
  rw[P0,this,h1,ih];rfl
theorem Jb.flat(j:Jb):iL j.fds=true:=by have h1:=xo j.parts;have h2:aO (c9 j.row)=true:=lE j.row;unfold iL Jb.fds;dsimp[P0,Qv,mI,h1,h2,Ro,RU];rfl
theorem nr:qj [a] C 0 [Y (j.d C a)]=Y (a,j.fds):=by
 unfold qj;have h1:iS [Y (j.d C a)]=true:=by unfold iS Jb.d;dsimp[Ry,Y4,Ro,yG];exact j.flat
 show (match objOf (j.d C a) with|some (c,b,fds)=>if c=C/\b∈[a]/\iS [Y (j.d C a)]=true/\iL fds=true/\fds.length<1000 then Y (b,fds) else S|none=>S)=_;unfold Jb.d at *;rw[u4];exact FC ⟨rfl,PV.mpr rfl,h1,j.flat,show 7<1000 by decide⟩
theorem lI{fds:J (M'×L)}(b:iL fds=true):mH a nd [Y (cN C a fds)]=[Y nd]:=by show [Y (gO a nd (cN C a fds))]=_;unfold cN gO;refine congrArg (λx=>[Y x]) (FC ?_);unfold lM;unfold iL at b;simp[b]
section
theorem vo:fO [a] C 0 "spent" ↑1 [Y (j.d C a)]=.nx [Y (Jb.d C a {j with spent:=j.spent+1})]:=by unfold fO;rw[nr];show Sr.nx (mH a (cN C a (sH "spent" (.int ((j.spent:Z)+1)) j.fds)) [Y (cN C a j.fds)])=_;rw[lI j.flat];rfl
theorem GS:fO [a] C 0 "part" ↑1 [Y (j.d C a)]=.nx [Y (Jb.d C a {j with part:=j.part+1})]:=by unfold fO;rw[nr];show Sr.nx (mH a (cN C a (sH "part" (.int ((j.part:Z)+1)) j.fds)) [Y (cN C a j.fds)])=_;rw[lI j.flat];rfl
theorem JW:fO [a] C 0 "job" ↑1 [Y (j.d C a)]=.nx [Y (Jb.d C a {j with job:=j.job+1})]:=by unfold fO;rw[nr];show Sr.nx (mH a (cN C a (sH "job" (.int ((j.job:Z)+1)) j.fds)) [Y (cN C a j.fds)])=_;rw[lI j.flat];rfl
theorem DQ:nz [a] C 0 "spent" ↑0 [Y (j.d C a)]=.nx [Y (Jb.d C a {j with spent:=0})]:=by unfold nz;rw[nr];show Sr.nx (mH a (cN C a (sH "spent" (.int 0) j.fds)) [Y (cN C a j.fds)])=_;rw[lI j.flat];rfl
theorem GL:nz [a] C 0 "part" ↑0 [Y (j.d C a)]=.nx [Y (Jb.d C a {j with part:=0})]:=by unfold nz;rw[nr];show Sr.nx (mH a (cN C a (sH "part" (.int 0) j.fds)) [Y (cN C a j.fds)])=_;rw[lI j.flat];rfl
end
def Jb.step1(j:Jb)(n:Z):Jb:=if (j.spent:Z)+1=n then {j with spent:=0,part:=j.part+1} else {j with spent:=j.spent+1}
def Jb.step2(j:Jb):Jb:=if j.part=j.parts.length then {j with part:=0,job:=j.job+1} else j
def Jb.len(j:Jb):Int:=(j.parts[j.part]?.map (·.1)).getD 0
def Jb.next(j:Jb):Jb:=(j.step1 j.len).step2
theorem KA(h:j.part<j.parts.length):iU cs [a] [Y (j.d cs.Jobs a)]=.nx [Y (j.next.d cs.Jobs a)]:=by
 have b:j.parts[j.part]?=Y j.parts[j.part]:=My h;have hn:j.len=j.parts[j.part].1:=by unfold Jb.len;rw[b];rfl
 have second:∀k:Jb,sIf (gT (g2 dEq (g1 (bf cs.Jobs "part") (ae 0)) (gF cp #[0,g1 (bf cs.Jobs "parts") (ae 0)]))) (az (nz [a] cs.Jobs 0 "part" ↑0) (fO [a] cs.Jobs 0 "job" ↑1)) ba [Y (k.d cs.Jobs a)]=.nx [Y (k.step2.d cs.Jobs a)]:=by
  intro k;have hc:gT (g2 dEq (g1 (bf cs.Jobs "part") (ae 0)) (gF cp #[0,g1 (bf cs.Jobs "parts") (ae 0)])) [Y (k.d cs.Jobs a)]=.ok ((k.part:Z)==(k.parts.length:Z)):=by dsimp[fh,bQ,iE,gN,ay,aF,aq,Rs.ag,qZ,nW,Rs.ai,BF,P6,kU,bO]
  unfold Jb.step2;by_cases z:k.part=k.parts.length
  .have e:((k.part:Z)==(k.parts.length:Z))=true:=by rw[z];exact T6 _
   rw[FC z];dsimp[dF,hc,e,aw,Sn,aQ,GL,JW]
  .have e:((k.part:Z)==(k.parts.length:Z))=false:=by rw[SE];omega
   rw[GC z];dsimp[dF,hc,e,aw,Qb,SK,hZ]
 have hc:gT (g2 dEq (g1 (bf cs.Jobs "spent") (ae 0)) (g2 dIx (g2 dIx (g1 (bf cs.Jobs "parts") (ae 0)) (g1 (bf cs.Jobs "part") (ae 0))) ↑0)) [Y (Jb.d cs.Jobs a {j with spent:=j.spent+1})]=.ok (((j.spent:Z)+1)==j.len):=by have q:=xf (j:={j with spent:=j.spent+1}) b;have c:dIx (aN j.parts[j.part]) (.int 0)=Y (.int j.parts[j.part].1):=rfl;dsimp[fh,bQ,iE,aq,cA,Rs.ag,lQ,nW,qZ,Rs.ai,q,c,kU,bO,hn];rfl
 unfold iU Jb.next Jb.step1;by_cases z:(j.spent:Z)+1=j.len
 .have e:(((j.spent:Z)+1)==j.len)=true:=by rw[z];exact T6 _
  rw[FC z];dsimp[aQ,vo];rw[dF,hc];dsimp[e,aw,Sn,aQ,DQ,GS];exact second _
 .have e:(((j.spent:Z)+1)==j.len)=false:=by rw[SE];exact z
  rw[GC z];dsimp[aQ,vo];rw[dF,hc];dsimp[e,aw,Qb,SK,hZ];exact second _
theorem EV{a b:D' Z}(h:aW a=aW b):a=b:=by cases a <;> cases b <;> first|rfl|(injection h with h;rw[h])|cases h
theorem DA{p q:Z×D' Z}(h:aN p=aN q):p=q:=by
 obtain⟨a,o⟩:=p;obtain⟨b,u⟩:=q;unfold aN at h;injection h with h
 injection h with h1 h2
 injection h1 with h1
 injection h2 with h2 _
 have h3:=EV h2;exact Xm h1 h3
theorem si{α β:Type}{f:α->β}(c:∀x y,f x=f y->x=y):∀{l m:J α},l.map f=m.map f->l=m
 |[],[],_=>rfl
 |[],_::_,h=>by cases h
 |_::_,[],h=>by cases h
 |a::l,b::m,h=>by
  rw[P0,P0]at h;injection h with h1 h2
  rw[c a b h1,si c h2]
theorem Kv{k:Jb}(h:j.fds=k.fds):j=k:=by
 obtain⟨a1,a2,a3,a4,a,b,c⟩:=j;obtain⟨b1,b2,b3,b4,e,f,g⟩:=k;unfold Jb.fds c9 at h;dsimp[Ui,Uv,true_and,Yh,Uu,W6,Uk.injEq]at h;obtain⟨h1,h2,h3,i,h5,h6,h7⟩:=h;have e2:=si (λx y=>DA) h2;have l:=si (λx y(q:EE x=EE y)=>by injection q) i;have m:a=e:=⋯
 have n:b=f:=⋯
 have o:c=g:=⋯
 subst h1 h3 e2 l m n o;rfl
open Classical in
def iy:J (M'×L)->D' (J (M'×L)):=λfds=>if h:∃j:Jb,j.part<j.parts.length/\fds=j.fds then Y (Classical.choose h).next.fds else S
theorem Lf(h:j.part<j.parts.length):iy j.fds=Y j.next.fds:=by
 have a:∃k:Jb,k.part<k.parts.length/\j.fds=k.fds:=⟨j,h,rfl⟩
 unfold iy;rw[dif_pos a];have:=Kv (Classical.choose_spec a).2;rw[<-this]
theorem GR(cs:Cs):∀a fds b,iL fds=true->fds.length<1000->iy fds=Y b->∃δ,iU cs [a] (Y (cN cs.Jobs a fds)::I' 0 S)=.nx δ/\δ[0]?=Y (Y (cN cs.Jobs a b)):=by
 intro a fds b _ _ e;by_cases hx:∃k:Jb,k.part<k.parts.length/\fds=k.fds
 .obtain⟨k,c,rfl⟩:=hx;rw[Lf c]at e;cases e;exact⟨_,KA c,rfl⟩
 .unfold iy at e;rw[dif_neg hx]at e;cases e
instance:Inhabited Jb:=⟨⟨0,[],0,[],0,0,0⟩⟩
def lO(ks:J L):Nat:=bst (λi j=>ltD (ks.getD i .none) (ks.getD j .none)) (ks.length-1)
def jN(key:Jb->L)(js:J Jb):Jb:=js.getD (lO (js.map key)) default
theorem tG{C:HL}{g:L->Rs L}{key:Jb->L}:∀{ts:J (HL×Jb)},(∀p∈ts,g (jD C p)=.ok (key p.2))->allR g (ts.map (jD C))=.ok ((ts.map (·.2)).map key)
 |[],_=>rfl
 |p::r,h=>by
  have a:=tG (ts:=r) λx b=>h x (P4 _ b)
  rw[P0];unfold allR;rw[h p P7,Rs.ag,a,Rs.ag];rfl
theorem n6(hd:ga δ=.ok (.list (ts.map (jD C))))(o:ts≠[])(f:∀p∈ts,gb (Y (jD C p)::xr cap δ)=.ok (key p.2))
  (hK:(∀p∈ts,∃n:Z,key p.2=.int n)\/(∀p∈ts,∃a b:Z,key p.2=.tuple [.int a,.int b])):∃q∈ts,q.2=jN key (ts.map (·.2))/\kL cap ga gb δ=.ok (jD C q):=by
 have x9:0<ts.length:=R5.mpr o;have e:=tG (C:=C) (g:=λx=>gb (Y x::xr cap δ)) (key:=key) f;have q:keysOk ((ts.map (·.2)).map key)=true:=by
  unfold keysOk;rw[Vl];rcases hK with hK|hK
  .refine .inl (Q6.mpr λk f=>?_);obtain⟨j,h,rfl⟩:=PQ.mp f;obtain⟨p,l,rfl⟩:=PQ.mp h;obtain⟨n,hn⟩:=hK p l;rw[hn];rfl
  .refine .inr (Q6.mpr λk f=>?_);obtain⟨j,h,rfl⟩:=PQ.mp f;obtain⟨p,l,rfl⟩:=PQ.mp h;obtain⟨a,b,hn⟩:=hK p l;rw[hn];rfl
 have hb:=wA (λi j=>ltD (((ts.map (·.2)).map key).getD i .none) (((ts.map (·.2)).map key).getD j .none)) (ts.length-1);have m:lO ((ts.map (·.2)).map key)=bst (λi j=>ltD (((ts.map (·.2)).map key).getD i .none) (((ts.map (·.2)).map key).getD j .none)) (ts.length-1):=by unfold lO;rw[P6,P6]
 have c:lO ((ts.map (·.2)).map key)<ts.length:=by rw[m];omega
 refine⟨ts[lO ((ts.map (·.2)).map key)],Qk c,?_,?_⟩
 .unfold jN;rw[Q2,Q5,My c];rfl
 .unfold kL;rw[hd];dsimp[Rs.ag,P6,FC x9,e];show (if keysOk _=true then Rs.eu _ else Rs.no)=_;rw[FC q,<-m,Q5,My c];rfl
def jB(js:J Jb)(tool:D' Z):D' Jb:=tool.bind λt=>js.find? λj=>j.held==Y t
theorem CQ{tool:D' Z}:(jB (ts.map (·.2)) tool=S/\lH C ts tool=.none)\/∃q∈ts,jB (ts.map (·.2)) tool=Y q.2/\lH C ts tool=jD C q:=by
 unfold jB lH;cases tool with
 |none=>exact .inl ⟨rfl,rfl⟩
 |some t =>
  have hm:(ts.map (·.2)).find? (λj=>j.held==Y t)=(ts.find? (holdsT t)).map (·.2):=by rw[J.find?_map];rfl
  dsimp[Rx,hm];cases h:ts.find? (holdsT t) with
  |none=>exact .inl ⟨rfl,rfl⟩
  |some p=>exact .inr ⟨p,RI h,rfl,rfl⟩
def jz(js:J Jb)(l:J (Z×Z))(j:Jb):J (Z×Z):=match jB js j.wanted with
 |none=>l
 |some o=>p7 l o.num (if (cJ l o.num).getD o.rank<j.rank then (cJ l o.num).getD o.rank else j.rank)
def jc(js:J Jb):J (Z×Z):=js.foldl (jz js) []
theorem HE(h:∀p∈ts,p.2.part<p.2.parts.length)(c:p∈ts)(hl:l.length<1000000)(x3:D' L) :
  ∃x,lrB cs [↥(ts.map (jD cs.Jobs)),Y (bT l),Y (jD cs.Jobs p),x3]=.nx [↥(ts.map (jD cs.Jobs)),Y (bT (jz (ts.map (·.2)) l p.2)),Y (jD cs.Jobs p),x]:=by
 have hm:ao (bX cs) #[0,0,bG cs.Jobs "wanted" (aS cs) (ae 2) ah] [↥(ts.map (jD cs.Jobs)),S,Y (jD cs.Jobs p),x3]=.ok (lH cs.Jobs ts p.2.wanted):=by
  have h2:bG cs.Jobs "wanted" (aS cs) (ae 2) ah [↥(ts.map (jD cs.Jobs)),S,Y (jD cs.Jobs p),x3]=.ok (aW p.2.wanted):=by unfold bG;dsimp[aq,av,Rs.ag];rw[FC (show isC cs.Jobs "wanted" (jD cs.Jobs p)=true from tW)];dsimp[aF,Rs.ag];exact uW (h p c)
  dsimp[bp,ay,aF,aq,h2,Rs.ag];exact u3 h
 have a:aJ [1] 3 (ao (bX cs) #[0,0,bG cs.Jobs "wanted" (aS cs) (ae 2) ah]) [↥(ts.map (jD cs.Jobs)),Y (bT l),Y (jD cs.Jobs p),x3]=.nx [↥(ts.map (jD cs.Jobs)),Y (bT l),Y (jD cs.Jobs p),Y (lH cs.Jobs ts p.2.wanted)]:=by show (if 3<4 then ofR (ao (bX cs) #[0,0,bG cs.Jobs "wanted" (aS cs) (ae 2) ah] [↥(ts.map (jD cs.Jobs)),S,Y (jD cs.Jobs p),x3]) _ else _)=_;rw[FC #[1],hm];rfl
 unfold lrB jz;dsimp[aQ,a];rcases CQ (C:=cs.Jobs) (ts:=ts) (tool:=p.2.wanted) with⟨b,e⟩|⟨q,hq,b,e⟩
 .rw[e,b];exact⟨_,rfl⟩
 .rw[e,b];dsimp[dF,fh,iE,aq,av,Rs.ag,Kx,Rs.ai,bO,aw,Sn];have f1:bf cs.Jobs "number" (jD cs.Jobs q)=⇑q.2.num:=BG;have f2:bf cs.Jobs "rank" (jD cs.Jobs q)=⇑q.2.rank:=rg;have f:bf cs.Jobs "rank" (jD cs.Jobs p)=⇑p.2.rank:=rg;refine⟨Y (jD cs.Jobs q),?_⟩;unfold nh;dsimp[QV,QW,jY,gN,ay,aF,iE,aq,av,Rs.ag,f1,f2,f,Rs.ai,jv,A7,aw,FC hl];rfl
theorem D8(js:J Jb)(l:J (Z×Z))(j:Jb):(jz js l j).length<=l.length+1:=by
 unfold jz;split
 .exact Ru _
 .exact IW _ _ _
theorem xZ{cs:Cs}{ts:J (HL×Jb)}(h:∀p∈ts,p.2.part<p.2.parts.length):∀(us:J (HL×Jb))(l:J (Z×Z))(x2 x3:D' L),(∀p∈us,p∈ts)->l.length+us.length<1000000 ->
  ∃a b,forL (aU 2) (lrB cs) (us.map (jD cs.Jobs)) [↥(ts.map (jD cs.Jobs)),Y (bT l),x2,x3]=.nx [↥(ts.map (jD cs.Jobs)),Y (bT ((us.map (·.2)).foldl (jz (ts.map (·.2))) l)),a,b]
 |[],l,x2,x3,_,_=>⟨x2,x3,rfl⟩
 |p::r,l,x2,x3,hu,hl=>by have h1:aU 2 (jD cs.Jobs p) [↥(ts.map (jD cs.Jobs)),Y (bT l),x2,x3]=Y [↥(ts.map (jD cs.Jobs)),Y (bT l),Y (jD cs.Jobs p),x3]:=rfl;rw[PZ]at hl;obtain⟨x,e1⟩:=HE (cs:=cs) h (hu p P7) (l:=l) ⋯ x3;have hl1:=D8 (ts.map (·.2)) l p.2;rw[P0];unfold forL;rw[h1];dsimp[e1];exact xZ h r _ _ _ (λq c=>hu q (P4 _ c)) ⋯
theorem JC(h:∀p∈ts,p.2.part<p.2.parts.length)(hl:ts.length<=1000):cR cs [.list (ts.map (jD cs.Jobs))]=.ok (bT (jc (ts.map (·.2)))):=by obtain⟨y2,y3,e⟩:=xZ (cs:=cs) h ts [] S S (λp a=>a) (by rw[QF];omega);show bc (iN cs (aS cs) (bX cs) [↥(ts.map (jD cs.Jobs)),S,S,S])=_;have b:qC 1 [↥(ts.map (jD cs.Jobs)),S,S,S]=.nx [↥(ts.map (jD cs.Jobs)),Y (bT []),S,S]:=rfl;have c:cY [1] (br (ae 0)) (aU 2) (lrB cs) [↥(ts.map (jD cs.Jobs)),Y (bT []),S,S]=forL (aU 2) (lrB cs) (ts.map (jD cs.Jobs)) [↥(ts.map (jD cs.Jobs)),Y (bT []),S,S]:=rfl;show bc (az (qC 1) (az (cY [1] (br (ae 0)) (aU 2) (lrB cs)) (bq (ae 1))) [↥(ts.map (jD cs.Jobs)),S,S,S])=_;dsimp[aQ,b,c,e];rfl
def mj(z6:L)(t:Z):Int:=match dIx z6 (.int t) with
 |some (.int n)=>n
 |_=>0
def oM(z6:L)(j:Jb):PyData:=match j.held with
 |none=>.tuple [.int j.rank,.int 1]
 |some t=>.tuple [.int (if mj z6 t<j.rank then mj z6 t else j.rank),.int 0]
theorem Jq(h:p.2.part<p.2.parts.length)(c:∀t,p.2.held=Y t->∃n:Z,dIx z6 (.int t)=⇑n):cg cs [jD cs.Jobs p,z6]=.ok (oM z6 p.2):=by
 have b:bf cs.Jobs "rank" (jD cs.Jobs p)=⇑p.2.rank:=rg;unfold oM;cases z:p.2.held with
 |none =>
  show bc (cn cs (aZ cs) [Y (jD cs.Jobs p),Y z6,S])=_;unfold cn;have hm:=vQ (cs:=cs) (p:=p) (x:=Y z6) (y:=S) h;rw[z]at hm;have a:aJ [] 2 (bG cs.Jobs "held" (aZ cs) (ae 0) ah) [Y (jD cs.Jobs p),Y z6,S]=.nx [Y (jD cs.Jobs p),Y z6,Y .none]:=by rw[gH,hm];rfl
  dsimp[aQ,a,dF,fh,iE,aq,av,Rs.ag,Gj,GY,Rs.ai,bO,aw,Sn,bW,mU,ay,aF,b,cA,a8]
 |some t =>
  obtain⟨n,hn⟩:=c t z;have e:mj z6 t=n:=by unfold mj;rw[hn]
  show bc (cn cs (aZ cs) [Y (jD cs.Jobs p),Y z6,S])=_;unfold cn;have hm:=vQ (cs:=cs) (p:=p) (x:=Y z6) (y:=S) h;rw[z]at hm;have a:aJ [] 2 (bG cs.Jobs "held" (aZ cs) (ae 0) ah) [Y (jD cs.Jobs p),Y z6,S]=.nx [Y (jD cs.Jobs p),Y z6,⇑t]:=by rw[gH,hm];rfl
  dsimp[aQ,a,dF,fh,iE,bQ,aq,av,Rs.ag,Gj,Dp,Rs.ai,bO,aw,Qb,SK,hZ,bW,mU,ay,aF,b,hn,gN,A7,cA,a8,e]
def fU(js:J Jb)(j:Jb):Bool:=(jB js j.wanted).isNone
def Eo(l:J (Z×Z))(j:Jb):PyData:=.int ((cJ l j.num).getD j.rank)
def cB(z6:L)(len:M')(js:J Jb):Jb:=if (len==("high":M'))=true then jN (oM z6) js else jN (Eo (if (len==("asked":M'))=true then jc js else [])) (js.filter (fU js))
theorem yu{tool:D' Z}:fN (lH C ts tool)=(jB (ts.map (·.2)) tool).isNone:=by
 rcases CQ (C:=C) (ts:=ts) (tool:=tool) with⟨a,e⟩|⟨q,_,a,e⟩
 .rw[e,a];rfl
 .rw[e,a];rfl
theorem sM(h:ts≠[]):ts.filter (λp=>fU (ts.map (·.2)) p.2)≠[]:=by obtain⟨p,b,e⟩:=GG h (C:=0);refine Rq (a:=p) (Qg.mpr ⟨b,?_⟩);unfold fU;rw[<-yu (C:=0),e];rfl
theorem n5{C:HL}{ts:J (HL×Jb)}{f:L->R0}{g:Jb->R0}:∀{us:J (HL×Jb)},(∀p∈us,f (jD C p)=g p.2)->(us.map (jD C)).filter f=(us.filter λp=>g p.2).map (jD C)
 |[],_=>rfl
 |p::r,h=>by
  have a:=n5 (ts:=ts) (us:=r) λx b=>h x (P4 _ b)
  rw[P0,Qn,Qn,h p P7,a];cases g p.2 <;> rfl
theorem Dq{len:M'}(j:ts≠[])(hl:ts.length<=1000)(h:∀p∈ts,p.2.part<p.2.parts.length)(r:∀p∈ts,∀t,p.2.held=Y t->∃n:Z,dIx z6 (.int t)=⇑n)(m:xH len) :
  ∃q∈ts,q.2=cB z6 len (ts.map (·.2))/\dg cs [.list (ts.map (jD cs.Jobs)),z6,.str len]=.ok (jD cs.Jobs q):=by
 have o:gT (g2 dEq (ae 2) (gC (.str "high"))) [↥(ts.map (jD cs.Jobs)),Y z6,Y (.str len),S,S]=.ok (len=="high"):=by dsimp[fh,bQ,aq,av,cA,Rs.ag,eq_str m.sh IB,Rs.ai,bO]
 show ∃q∈ts,q.2=_/\bc (lP cs (cR cs) (aS cs) (bX cs) (cg cs) [↥(ts.map (jD cs.Jobs)),Y z6,Y (.str len),S,S])=.ok _;unfold lP cB;cases z:(len==("high":M')) with
 |true =>
  obtain⟨q,i,e2,e⟩:=n6 (C:=cs.Jobs) (cap:=[1]) (ga:=ae 0) (gb:=ao (cg cs) #[0,0,1]) (δ:=[↥(ts.map (jD cs.Jobs)),Y z6,Y (.str len),S,S]) (key:=oM z6) rfl j (λp a=>Jq (h p a) (r p a)) (.inr λp a=>by unfold oM;cases p.2.held <;> exact⟨_,_,rfl⟩)
  refine⟨q,i,by rw[FC rfl];exact e2,?_⟩;dsimp[aQ,dF,o,z,aw,Sn,bW,e,a8]
 |false =>
  have hc:a9 5 (br (ae 0)) (gT (g1 p8 (ao (bX cs) #[0,0,bG cs.Jobs "wanted" (aS cs) (ae 5) ah]))) (ae 5) aL [↥(ts.map (jD cs.Jobs)),Y z6,Y (.str len),S,S]=.ok ((ts.filter λp=>fU (ts.map (·.2)) p.2).map (jD cs.Jobs)):=by
   rw[<-n5 (ts:=ts) (f:=Gi cs [↥(ts.map (jD cs.Jobs)),Y z6,Y (.str len),S,S]) (λp a=>by have g:=Cr (cs:=cs) (x1:=Y z6) (x2:=Y (.str len)) (x3:=S) (x4:=S) h a;unfold Gi;dsimp[Qx,Qs,g];exact yu)]
   refine nG rfl rfl (by rw[P6];omega) λd hd=>?_
   obtain⟨p,a,rfl⟩:=PQ.mp hd;refine⟨?_,rfl⟩;have g:=Cr (cs:=cs) (x1:=Y z6) (x2:=Y (.str len)) (x3:=S) (x4:=S) h a;unfold Gi;dsimp[Qx,Qs,g];dsimp[fh,iE,g,Rs.ag,Gj,Rs.ai,bO]
  have hn:=sM j;have s:(ts.map (·.2)).filter (fU (ts.map (·.2)))=(ts.filter λp=>fU (ts.map (·.2)) p.2).map (·.2):=by rw[Xg];rfl
  have c:∀p∈ts.filter (λp=>fU (ts.map (·.2)) p.2),p∈ts:=λp a=>(Qg.mp a).1
  rw[s];generalize (ts.filter λp=>fU (ts.map (·.2)) p.2)=fr at hc hn c;have b:gIf (gT (g2 dEq (ae 2) (gC (.str "asked")))) (ao (cR cs) #[0,0]) (gC (bT [])) [↥(ts.map (jD cs.Jobs)),Y z6,Y (.str len),↥(fr.map (jD cs.Jobs)),S]=.ok (bT (if (len==("asked":M'))=true then jc (ts.map (·.2)) else [])):=by
   have u:gT (g2 dEq (ae 2) (gC (.str "asked"))) [↥(ts.map (jD cs.Jobs)),Y z6,Y (.str len),↥(fr.map (jD cs.Jobs)),S]=.ok (len=="asked"):=by dsimp[fh,bQ,aq,av,cA,Rs.ag,eq_str m.sh yO,Rs.ai,bO]
   unfold gIf;rw[u];dsimp[Rs.ag];cases (len==("asked":M')) with
   |true=>dsimp[Sn,bp,ay,aF,aq,Rs.ag,JC h hl]
   |false=>simp
  generalize (if (len==("asked":M'))=true then jc (ts.map (·.2)) else [])=l at b;obtain⟨q,i,e2,e⟩:=n6 (C:=cs.Jobs) (cap:=[4]) (ga:=ae 3) (gb:=jv (ae 1) (g1 (bf cs.Jobs "number") (ae 0)) (g1 (bf cs.Jobs "rank") (ae 0))) (δ:=[↥(ts.map (jD cs.Jobs)),Y z6,Y (.str len),↥(fr.map (jD cs.Jobs)),Y (bT l)]) (key:=Eo l) rfl hn (λp a=>by have f1:bf cs.Jobs "number" (jD cs.Jobs p)=⇑p.2.num:=BG;have f2:bf cs.Jobs "rank" (jD cs.Jobs p)=⇑p.2.rank:=rg;show jv (ae 1) (g1 (bf cs.Jobs "number") (ae 0)) (g1 (bf cs.Jobs "rank") (ae 0)) [Y (jD cs.Jobs p),Y (bT l)]=_;unfold jv;dsimp[aq,av,Rs.ag,jY,iE,f1,f2,Rs.ai];rfl) (.inl λp a=>⟨_,rfl⟩)
  refine⟨q,c q i,by rw[GC Q1];exact e2,?_⟩;have v:aJ [] 3 (gL (a9 5 (br (ae 0)) (gT (g1 p8 (ao (bX cs) #[0,0,bG cs.Jobs "wanted" (aS cs) (ae 5) ah]))) (ae 5) aL)) [↥(ts.map (jD cs.Jobs)),Y z6,Y (.str len),S,S]=.nx [↥(ts.map (jD cs.Jobs)),Y z6,Y (.str len),↥(fr.map (jD cs.Jobs)),S]:=by rw[gH,mX,hc];rfl
  have w:aJ [] 4 (gIf (gT (g2 dEq (ae 2) (gC (.str "asked")))) (ao (cR cs) #[0,0]) (gC (bT []))) [↥(ts.map (jD cs.Jobs)),Y z6,Y (.str len),↥(fr.map (jD cs.Jobs)),S]=.nx [↥(ts.map (jD cs.Jobs)),Y z6,Y (.str len),↥(fr.map (jD cs.Jobs)),Y (bT l)]:=by rw[gH,b];rfl
  dsimp[aQ,dF,o,z,aw,Qb,SK,hZ,v,w,bW,e,a8]
theorem yo:gO a nd (jD C p)=if p.1=a then nd else jD C p:=by
 have b:=p.2.flat;have c:lM ((Vj "",EE (C:Z))::(Vj "@",EE (p.1:Z))::p.2.fds.map λx=>(Vj x.1,x.2))=Y (p.1:Z):=by unfold lM;unfold iL at b;simp[b]
 unfold jD Jb.d cN gO;rw[c];by_cases z:p.1=a
 .rw[FC z,FC (by rw[z])]
 .have f:¬ (Y (p.1:Z)=Y (a:Z)):=λe=>z (TJ (P' e))
  rw[GC z,GC f]
theorem B5{C a:HL}{j:Jb}:∀ts:J (HL×Jb),kQ a (jD C (a,j)) (ts.map (jD C))=(ts.map λp=>if p.1=a then (a,j) else p).map (jD C)
 |[]=>rfl
 |p::r=>by
  rw[P0,P0,P0];unfold kQ;rw[B5 r,yo];by_cases z:p.1=a
  .rw[FC z,FC z]
  .rw[GC z,GC z]
theorem DR:gO a (jD C (a,j)) (.list (ts.map (jD C)))=.list ((ts.map λp=>if p.1=a then (a,j) else p).map (jD C)):=by unfold gO;rw[B5]
mutual
theorem pq{a:HL}{nd:L}:∀d:L,aO d=true->gO a nd d=d
 |.none,_=>by unfold gO;rfl
 |.bool _,_=>by unfold gO;rfl
 |.int _,_=>by unfold gO;rfl
 |.str _,_=>by unfold gO;rfl
 |.list ds,h=>by unfold gO;rw[wG ds (by simpa[aO] using h)]
 |.tuple ds,h=>by unfold gO;rw[wG ds (by simpa[aO] using h)]
 |.dict _,h=>by simp[aO]at h
theorem wG{a:HL}{nd:L}:∀ds:J L,eG ds=true->kQ a nd ds=ds
 |[],_=>by unfold kQ;rfl
 |d::r,h=>by unfold eG at h;rw[P9]at h;unfold kQ;rw[pq d h.1,wG r h.2]
end
theorem sO{C:HL}{elt:Ds->Rs L}{δ:Ds}{k:Jb->L}:∀(ts:J (HL×Jb)),(∀p∈ts,elt (δ++[Y (jD C p)])=.ok (k p.2))->eB bF elt aL δ (ts.map (jD C))=.ok ((ts.map (·.2)).map k)
 |[],_=>rfl
 |p::r,h=>by
  have a:=sO r λe b=>h e (P4 _ b)
  rw[P0];unfold eB;dsimp[aL,bF,Rs.cM,Rs.ag,Sn,h p P7];rw[a];rfl
def Jb.done(j:Jb):Bool:=(j.job:Z)==(j.row.length:Z)
def rnD(C:HL)(E R W z6:L)(len:M')(qs:J (HL×Jb))(told:J L)(x7 x8:D' L):Ds:=[Y E,Y R,Y W,Y (.str len),Y z6,↥(qs.map (jD C)),↥told,x7,x8]
section
variable {E R W:L}{len:M'}{qs:J (HL×Jb)}{told:J L}{x7 x8:D' L}
theorem cond_of(hl:qs.length<=1000):iT (gT (gF qN #[0,gL (a9 9 (br (ae 5)) bF (bG cs.Jobs "are_done" (bh cs) (ae 9) ah) aL)])) (rnD cs.Jobs E R W z6 len qs told x7 x8)=.ok (!((qs.map (·.2)).all Jb.done)):=by
 have hc:a9 9 (br (ae 5)) bF (bG cs.Jobs "are_done" (bh cs) (ae 9) ah) aL (rnD cs.Jobs E R W z6 len qs told x7 x8)=.ok ((qs.map (·.2)).map λj=>.bool j.done):=by
  unfold a9;rw[FC (show (rnD cs.Jobs E R W z6 len qs told x7 x8).length=9 from rfl)];rw[show br (ae 5) (rnD cs.Jobs E R W z6 len qs told x7 x8)=.ok (qs.map (jD cs.Jobs)) from rfl];dsimp[Rs.ag];rw[FC (by rw[P6];omega)];refine sO qs λp hp=>?_
  show bG cs.Jobs "are_done" (bh cs) (ae 9) ah [Y E,Y R,Y W,Y (.str len),Y z6,↥(qs.map (jD cs.Jobs)),↥told,x7,x8,Y (jD cs.Jobs p)]=_;unfold bG;dsimp[aq,av,Rs.ag];rw[FC (show isC cs.Jobs "are_done" (jD cs.Jobs p)=true from xK)];dsimp[aF,Rs.ag];exact zK
 have a:=jR Jb.done (qs.map (·.2));dsimp[wy,fh,gN,ay,aF,mX,hc,Rs.ag,a,Rs.ai,bO]
def de(told:J L)(p:HL×Jb):Bool:=p.2.there (told.length:Z)
theorem qA(h:∀p∈qs,p.2.job<=p.2.row.length){x6:D' L}:∀(us:J (HL×Jb)),(∀p∈us,p∈qs) ->
  hW (gT (bG cs.Jobs "is_there" (aX cs) (ae 9) #[0,gF cp #[0,6]])) (ae 9) aL [Y E,Y R,Y W,Y (.str len),Y z6,↥(qs.map (jD cs.Jobs)),x6,x7,x8] (rnD cs.Jobs E R W z6 len qs told x7 x8) (us.map (jD cs.Jobs))=.ok ((us.filter (de told)).map (jD cs.Jobs))
 |[],_=>rfl
 |p::r,hu=>by
  have a:=qA h (x6:=x6) r λq b=>hu q (P4 _ b)
  have hc:gT (bG cs.Jobs "is_there" (aX cs) (ae 9) #[0,gF cp #[0,6]]) (rnD cs.Jobs E R W z6 len qs told x7 x8++[Y (jD cs.Jobs p)])=.ok (de told p):=by show gT (bG cs.Jobs "is_there" (aX cs) (ae 9) #[0,gF cp #[0,6]]) [Y E,Y R,Y W,Y (.str len),Y z6,↥(qs.map (jD cs.Jobs)),↥told,x7,x8,Y (jD cs.Jobs p)]=_;rw[fh];unfold bG;dsimp[aq,av,Rs.ag];rw[FC (show isC cs.Jobs "is_there" (jD cs.Jobs p)=true from xm)];dsimp[ay,aF,gN,aq,av,mP,Rs.ai,Rs.ag];rw[show aX cs [jD cs.Jobs p,.int (told.length:Z)]=_ from Aj (h p (hu p P7))];rfl
  rw[P0];unfold hW;rw[show aL (jD cs.Jobs p)=Y [Y (jD cs.Jobs p)] from rfl];dsimp[hc,Rs.cM,Rs.ag];rw[Qn];cases de told p with
  |true =>dsimp[Sn];rw[show ae 9 ([Y E,Y R,Y W,Y (.str len),Y z6,↥(qs.map (jD cs.Jobs)),x6,x7,x8]++[Y (jD cs.Jobs p)])=.ok (jD cs.Jobs p) from rfl];dsimp[Rs.cM,Rs.ag,a];rfl
  |false=>dsimp[Qb,SK,a]
end
mutual
theorem mh:∀d:L,aO d=true->objs d=true
 |.none,_=>by unfold objs;rfl
 |.bool _,_=>by unfold objs;rfl
 |.int _,_=>by unfold objs;rfl
 |.str _,_=>by unfold objs;rfl
 |.list ds,h=>by unfold objs;exact tN ds (by simpa[aO] using h)
 |.tuple ds,h=>by unfold objs;exact tN ds (by simpa[aO] using h)
 |.dict _,h=>by simp[aO]at h
theorem tN:∀ds:J L,eG ds=true->lG ds=true
 |[],_=>by unfold lG;rfl
 |d::r,h=>by unfold eG at h;rw[P9]at h;unfold lG;rw[mh d h.1,tN r h.2];rfl
end
theorem CD:objs (jD C p)=true:=by unfold jD Jb.d;rw[yG];exact p.2.flat
theorem u5{C:HL}:∀ts:J (HL×Jb),lG (ts.map (jD C))=true
 |[]=>by unfold lG;rfl
 |p::r=>by rw[P0];unfold lG;rw[CD,u5 r];rfl
theorem BD:objs (.list (ts.map (jD C)))=true:=by unfold objs;exact u5 ts
section
variable {E R W:L}{len:M'}{qs:J (HL×Jb)}{told:J L}
structure NoD(E R W z6:L)(told:J L):Prop where
 e:aO E=true
 r:aO R=true
 w:aO W=true
 t:aO z6=true
 o:aO (.list told)=true
theorem Ec(n:NoD E R W z6 told)(ha:q.1∈as):qj as cs.Jobs 8 (rnD cs.Jobs E R W z6 len qs told ↥(ts.map (jD cs.Jobs)) (Y (jD cs.Jobs q)))=Y (q.1,q.2.fds):=by
 have h1:iS (rnD cs.Jobs E R W z6 len qs told ↥(ts.map (jD cs.Jobs)) (Y (jD cs.Jobs q)))=true:=by
  unfold iS rnD;have b:objs (.str len)=true:=by unfold objs;rfl
  dsimp[Ry,Y4,Ro,mh _ n.e,mh _ n.r,mh _ n.w,mh _ n.t,mh _ n.o,b,BD,CD,Sa]
 show (match objOf (jD cs.Jobs q) with|some (c,a,fds)=>if c=cs.Jobs/\a∈as/\iS (rnD cs.Jobs E R W z6 len qs told ↥(ts.map (jD cs.Jobs)) (Y (jD cs.Jobs q)))=true/\iL fds=true/\fds.length<1000 then Y (a,fds) else S|none=>S)=_;rw[show objOf (jD cs.Jobs q)=Y (cs.Jobs,q.1,q.2.fds) from u4 _ _ _];exact FC ⟨rfl,ha,h1,q.2.flat,show 7<1000 by decide⟩
end
def wK(a:HL)(j:Jb)(qs:J (HL×Jb)):J (HL×Jb):=qs.map λp=>if p.1=a then (a,j) else p
section
variable {E R W:L}{len:M'}{qs:J (HL×Jb)}{told:J L}
theorem Ln(n:NoD E R W z6 told):mH q.1 (jD cs.Jobs (q.1,j)) (rnD cs.Jobs E R W z6 len qs told ↥(ts.map (jD cs.Jobs)) (Y (jD cs.Jobs q)))=rnD cs.Jobs E R W z6 len (wK q.1 j qs) told ↥((wK q.1 j ts).map (jD cs.Jobs)) (Y (jD cs.Jobs (q.1,j))):=by
 have a:gO q.1 (jD cs.Jobs (q.1,j)) (.str len)=.str len:=by unfold gO;rfl
 have b:gO q.1 (jD cs.Jobs (q.1,j)) (jD cs.Jobs q)=jD cs.Jobs (q.1,j):=by rw[yo,FC rfl]
 unfold mH rnD wK;dsimp[P0,Qv,QL,pq _ n.e,pq _ n.r,pq _ n.w,pq _ n.t,pq _ n.o,a,DR,b]
theorem Ka(n:NoD E R W z6 told)(ha:q.1∈as)(a:q.2.part<q.2.parts.length):mZ as cs.Jobs "go_on" 8 iy (rnD cs.Jobs E R W z6 len qs told ↥(ts.map (jD cs.Jobs)) (Y (jD cs.Jobs q)))=.nx (rnD cs.Jobs E R W z6 len (wK q.1 q.2.next qs) told ↥((wK q.1 q.2.next ts).map (jD cs.Jobs)) (Y (jD cs.Jobs (q.1,q.2.next)))):=by unfold mZ;rw[Ec n ha];have b:qv "go_on" q.2.fds=none:=rfl;dsimp[b,Sn,Lf a];exact congrArg Sr.nx (Ln (cs:=cs) (len:=len) (qs:=qs) (ts:=ts) (q:=q) (j:=q.2.next) n)
end
section
variable {E R W:L}{len:M'}{qs:J (HL×Jb)}{told:J L}{x7 x8:D' L}
theorem GB(hl:qs.length<=1000)(h:∀p∈qs,p.2.job<=p.2.row.length):tX [6] 7 9 (br (ae 5)) (gT (bG cs.Jobs "is_there" (aX cs) (ae 9) #[0,gF cp #[0,6]])) (ae 9) aL (rnD cs.Jobs E R W z6 len qs told x7 x8)=.nx (rnD cs.Jobs E R W z6 len qs told ↥((qs.filter (de told)).map (jD cs.Jobs)) x8):=by
 have hm:mask [6] (rnD cs.Jobs E R W z6 len qs told x7 x8)=[Y E,Y R,Y W,Y (.str len),Y z6,↥(qs.map (jD cs.Jobs)),S,x7,x8]:=rfl;have hc:qc 9 (br (ae 5)) (gT (bG cs.Jobs "is_there" (aX cs) (ae 9) #[0,gF cp #[0,6]])) (ae 9) aL (mask [6] (rnD cs.Jobs E R W z6 len qs told x7 x8)) (rnD cs.Jobs E R W z6 len qs told x7 x8)=.ok ((qs.filter (de told)).map (jD cs.Jobs)):=by rw[hm];unfold qc;rw[FC (show [Y E,Y R,Y W,Y (.str len),Y z6,↥(qs.map (jD cs.Jobs)),S,x7,x8].length=9 from rfl)];rw[show br (ae 5) [Y E,Y R,Y W,Y (.str len),Y z6,↥(qs.map (jD cs.Jobs)),S,x7,x8]=.ok (qs.map (jD cs.Jobs)) from rfl];dsimp[Rs.ag];rw[FC (by rw[P6];omega)];exact qA h qs λp a=>a
 unfold tX;rw[FC (show 7<(rnD cs.Jobs E R W z6 len qs told x7 x8).length from (by decide:7<9)),hc];rfl
end
def cC(told:J L)(js:J Jb):J Jb:=js.filter λj=>j.there (told.length:Z)
def fi(b:Jb)(js:J Jb):J Jb:=js.map λj=>if j.num=b.num then b.next else j
def i4(b:Jb):PyData:=.tuple [.int b.num,.int (b.job:Z)]
def dE(z6:L)(len:M')(s:J Jb×J L):J Jb×J L :=
 if cC s.2 s.1=[] then (s.1,s.2++[.none]) else (fi (cB z6 len (cC s.2 s.1)) s.1,s.2++[i4 (cB z6 len (cC s.2 s.1))])
structure QOk(as:J HL)(qs:J (HL×Jb)):Prop where
 few:qs.length<=1000
 pl:qs.map (·.1)=as
 nda:as.Nodup
 ndn:(qs.map (·.2.num)).Nodup
 pt:∀p∈qs,p.2.part<p.2.parts.length
 jb:∀p∈qs,p.2.job<=p.2.row.length
theorem l7{α β:Type}{f:α->β}:∀{l:J α},(l.map f).Nodup->∀x∈l,∀y∈l,f x=f y->x=y
 |[],_,x,b,_,_,_=>by cases b
 |a::r,h,x,b,y,c,e=>by
  rw[P0,Qq]at h;rcases P8.mp b with rfl|b
  .rcases P8.mp c with rfl|c
   .rfl
   .exact (h.1 (PQ.mpr ⟨y,by assumption,e.symm⟩)).elim
  .rcases P8.mp c with rfl|c
   .exact (h.1 (PQ.mpr ⟨x,by assumption,e⟩)).elim
   .exact l7 h.2 x b y c e
def rnB(cs:Cs)(as:J HL):Ds->Sr:=(az (tX [6] 7 9 (br (ae 5)) (gT (bG cs.Jobs "is_there" (aX cs) (ae 9) #[0,gF cp #[0,6]])) (ae 9) aL)
 (sIf (gT (g2 dEq (gF cp #[0,7]) ↑0)) (iO [6] 6 (gC .none)) (az (aJ [6] 8 (ao (dg cs) #[0,7,4,3]))
 (az (iO [6] 6 (f9 #[0,g1 (bf cs.Jobs "number") (ae 8),g1 (bf cs.Jobs "job") (ae 8)]))
 (mZ as cs.Jobs "go_on" 8 iy)))))
section
variable {E R W:L}{len:M'}{qs:J (HL×Jb)}{told:J L}
theorem xY:(qs.filter (de told)).map (·.2)=cC told (qs.map (·.2)):=by unfold cC;rw[Xg];rfl
theorem Jm(K:QOk as qs)(a:q∈qs)(c:j=q.2.next):(wK q.1 j qs).map (·.2)=fi q.2 (qs.map (·.2)):=by
 unfold wK fi;rw[Q8,Q8];refine Q3 λp b=>?_
 show (if p.1=q.1 then (q.1,j) else p).2=if p.2.num=q.2.num then q.2.next else p.2
 by_cases z:p.1=q.1
 .have:p=q:=l7 (f:=(·.1)) (by rw[K.pl];exact K.nda) p b q a z;rw[FC z,FC (by rw[this]),c]
 .have:p.2.num≠q.2.num:=λe=>z (by rw[l7 (f:=λx:HL×Jb=>x.2.num) K.ndn p b q a e])
  rw[GC z,GC this]
theorem Kc:(wK a j qs).map (·.1)=qs.map (·.1):=by
 unfold wK;rw[Q8];refine Q3 λp hp=>?_
 show (if p.1=a then (a,j) else p).1=p.1;by_cases z:p.1=a
 .rw[FC z,z]
 .rw[GC z]
theorem J6(K:QOk as qs)(n:NoD E R W z6 told)(m:xH len)(s:∀p∈qs,∀t,p.2.held=Y t->∃n:Z,dIx z6 (.int t)=⇑n)(hl:told.length<1000000)(x7 x8:D' L) :
  ∃b u v,rnB cs as (rnD cs.Jobs E R W z6 len qs told x7 x8)=.nx (rnD cs.Jobs E R W z6 len b (dE z6 len (qs.map (·.2),told)).2 u v)/\b.map (·.1)=qs.map (·.1)/\b.map (·.2)=(dE z6 len (qs.map (·.2),told)).1:=by
 have f:=GB (cs:=cs) (E:=E) (R:=R) (W:=W) (z6:=z6) (len:=len) (told:=told) (x7:=x7) (x8:=x8) K.few K.jb;have hc:gT (g2 dEq (gF cp #[0,7]) ↑0) (rnD cs.Jobs E R W z6 len qs told ↥((qs.filter (de told)).map (jD cs.Jobs)) x8)=.ok (((qs.filter (de told)).length:Z)==0):=by unfold rnD;dsimp[fh,bQ,gN,ay,aF,aq,av,cA,Rs.ag,mP,P6,Rs.ai,kU,bO]
 unfold rnB dE;dsimp[aQ,f];have c:=xY (qs:=qs) (told:=told);by_cases z:qs.filter (de told)=[]
 .have h:(((qs.filter (de told)).length:Z)==0)=true:=by rw[z];rfl
  have i:cC told (qs.map (·.2))=[]:=by rw[<-c,z];rfl
  rw[FC i,dF,hc];dsimp[h,aw,Sn];refine⟨qs,↥((qs.filter (de told)).map (jD cs.Jobs)),x8,?_,rfl,rfl⟩;show (if told.length<1000000 then Sr.nx _ else Sr.no)=_;rw[FC hl];rfl
 .have h:(((qs.filter (de told)).length:Z)==0)=false:=by rw[SE];have:=R5.mpr z;omega
  have i:¬ cC told (qs.map (·.2))=[]:=λe=>z (by rw[<-c]at e;exact J.map_eq_nil_iff.mp e)
  have a:∀p∈qs.filter (de told),p∈qs:=λp g=>(Qg.mp g).1
  obtain⟨q,j,e2,e⟩:=Dq (cs:=cs) (z6:=z6) z (QD (Rk _ _) K.few) (λp g=>K.pt p (a p g)) (λp g=>s p (a p g)) m;rw[c]at e2;rw[GC i,dF,hc];dsimp[h,aw,Qb,SK];have x:aJ [6] 8 (ao (dg cs) #[0,7,4,3]) (rnD cs.Jobs E R W z6 len qs told ↥((qs.filter (de told)).map (jD cs.Jobs)) x8)=.nx (rnD cs.Jobs E R W z6 len qs told ↥((qs.filter (de told)).map (jD cs.Jobs)) (Y (jD cs.Jobs q))):=by have l:ao (dg cs) #[0,7,4,3] (mask [6] (rnD cs.Jobs E R W z6 len qs told ↥((qs.filter (de told)).map (jD cs.Jobs)) x8))=.ok (jD cs.Jobs q):=e;unfold aJ;rw[FC (show 8<(rnD cs.Jobs E R W z6 len qs told ↥((qs.filter (de told)).map (jD cs.Jobs)) x8).length from (by decide:8<9)),l];rfl
  have f1:bf cs.Jobs "number" (jD cs.Jobs q)=⇑q.2.num:=BG;have f2:bf cs.Jobs "job" (jD cs.Jobs q)=⇑(q.2.job:Z):=xc;have y:iO [6] 6 (f9 #[0,g1 (bf cs.Jobs "number") (ae 8),g1 (bf cs.Jobs "job") (ae 8)]) (rnD cs.Jobs E R W z6 len qs told ↥((qs.filter (de told)).map (jD cs.Jobs)) (Y (jD cs.Jobs q)))=.nx (rnD cs.Jobs E R W z6 len qs (told++[i4 q.2]) ↥((qs.filter (de told)).map (jD cs.Jobs)) (Y (jD cs.Jobs q))):=by
   have l:f9 #[0,g1 (bf cs.Jobs "number") (ae 8),g1 (bf cs.Jobs "job") (ae 8)] (mask [6] (rnD cs.Jobs E R W z6 len qs told ↥((qs.filter (de told)).map (jD cs.Jobs)) (Y (jD cs.Jobs q))))=.ok (i4 q.2):=by show f9 _ [Y E,Y R,Y W,Y (.str len),Y z6,↥(qs.map (jD cs.Jobs)),S,↥((qs.filter (de told)).map (jD cs.Jobs)),Y (jD cs.Jobs q)]=_;dsimp[mU,ay,aF,iE,aq,av,Rs.ag,f1,f2,Rs.ai];rfl
   show ofR (f9 _ (mask [6] _)) (λd=>if told.length<1000000 then Sr.nx _ else Sr.no)=_;rw[l];show (if told.length<1000000 then Sr.nx _ else Sr.no)=_;rw[FC hl];rfl
  have n':NoD E R W z6 (told++[i4 q.2]):=⟨n.e,n.r,n.w,n.t,by
   have h1:=n.o;refine fu λd hd=>?_
   rcases Ql.mp hd with hd|hd
   .exact kG (by simpa[aO] using h1) d hd
   .rw[PV.mp hd];rfl⟩
  have ha:q.1∈as:=by rw[<-K.pl];exact PQ.mpr ⟨q,a q j,rfl⟩
  have A:=Ka (cs:=cs) (len:=len) (qs:=qs) (ts:=qs.filter (de told)) n' ha (K.pt q (a q j));dsimp[aQ,x,y,A];rw[<-e2];exact⟨_,_,_,rfl,Kc,Jm K (a q j) rfl⟩
end
structure JOk(z6:L)(j:Jb):Prop where
 pt:j.part<j.parts.length
 jb:j.job<=j.row.length
 ln:∀p∈j.parts,1<=p.1
 sp:(j.spent:Z)<j.len
 tl:∀p∈j.parts,∀t,p.2=Y t->∃n:Z,dIx z6 (.int t)=⇑n
theorem JOk.held(h:JOk z6 j):∀t,j.held=Y t->∃n:Z,dIx z6 (.int t)=⇑n:=by
 intro t e;have hpt:=h.pt;have a:j.parts[j.part]?=Y j.parts[j.part]:=My h.pt;unfold Jb.held Jb.tool at e;rw[a]at e;by_cases z:j.spent=0
 .rw[FC z]at e;cases e
 .rw[GC z]at e;exact h.tl _ (Qk h.pt) t e
theorem len_pos{z6:L}(h:∀p∈j.parts,1<=p.1)(a:j.part<j.parts.length):1<=j.len:=by unfold Jb.len;rw[My a];exact h _ (Qk a)
theorem Jz(h:JOk z6 j)(c:j.job<j.row.length):JOk z6 j.next:=by
 have a:0<j.parts.length:=O.lt_of_le_of_lt (QH _) h.pt;have hsp:=h.sp;unfold Jb.next Jb.step1;by_cases z:(j.spent:Z)+1=j.len
 .rw[FC z];unfold Jb.step2;by_cases y:j.part+1=j.parts.length
  .rw[FC (show ({j with spent:=0,part:=j.part+1}:Jb).part=({j with spent:=0,part:=j.part+1}:Jb).parts.length from y)];refine⟨a,c,h.ln,?_,h.tl⟩;have:=len_pos (z6:=z6) (j:={j with spent:=0,part:=0,job:=j.job+1}) h.ln a;show (0:Z)<_;exact S8 #[1] this
  .rw[GC (show ¬ ({j with spent:=0,part:=j.part+1}:Jb).part=({j with spent:=0,part:=j.part+1}:Jb).parts.length from y)];have b:j.part+1<j.parts.length:=by have:=h.pt;omega
   refine⟨b,h.jb,h.ln,?_,h.tl⟩;have:=len_pos (z6:=z6) (j:={j with spent:=0,part:=j.part+1}) h.ln b;show (0:Z)<_;exact S8 #[1] this
 .rw[GC z];unfold Jb.step2;rw[GC (show ¬ ({j with spent:=j.spent+1}:Jb).part=({j with spent:=j.spent+1}:Jb).parts.length from Q4 h.pt)];refine⟨h.pt,h.jb,h.ln,?_,h.tl⟩;show ((j.spent+1:O):Z)<j.len;omega
theorem oW(h:js≠[]):jN key js∈js:=by
 have hl:0<js.length:=R5.mpr h;have hb:=wA (λi j=>ltD ((js.map key).getD i .none) ((js.map key).getD j .none)) (js.length-1);have a:lO (js.map key)<js.length:=by unfold lO;rw[P6];omega
 unfold jN;rw[Q2,My a];exact Qk a
theorem hV{len:M'}(h:js≠[]):cB z6 len js∈js:=by
 unfold cB;split
 .exact oW h
 .have hn:=sM (ts:=js.map λj=>((0:HL),j)) (by simpa using h);have hm:(js.map λj=>((0:HL),j)).map (·.2)=js:=by rw[Q8];exact QJ js
  rw[hm]at hn;have a:js.filter (fU js)≠[]:=by
   obtain⟨p,r,e⟩:=Rz hn;have b:p∈(js.map λj=>((0:HL),j)).filter (λp=>fU js p.2):=by rw[e];exact P7
   obtain⟨h1,h2⟩:=Qg.mp b;obtain⟨j,c,rfl⟩:=PQ.mp h1;exact Rq (Qg.mpr ⟨c,h2⟩)
  exact (Qg.mp (oW a)).1
theorem sr{t:Z}(h:j.there t=true):j.job<j.row.length:=by
 unfold Jb.there at h;by_cases z:j.job<j.row.length
 .exact z
 .rw[QS ⋯]at h;cases h
theorem zW(j:Jb):j.next.num=j.num:=by unfold Jb.next Jb.step1 Jb.step2;split <;> split <;> rfl
structure Az(z6:L)(js:J Jb):Prop where
 ok:∀j∈js,JOk z6 j
 nd:(js.map (·.num)).Nodup
theorem De{b:Jb}:(fi b js).map (·.num)=js.map (·.num):=by
 unfold fi;rw[Q8];refine Q3 λj hj=>?_
 show (if j.num=b.num then b.next else j).num=j.num;by_cases z:j.num=b.num
 .rw[FC z,zW,z]
 .rw[GC z]
theorem xa{len:M'}{told:J L}(h:Az z6 js):Az z6 (dE z6 len (js,told)).1:=by
 unfold dE;by_cases z:cC told js=[]
 .rw[FC z];exact h
 .rw[GC z];have a:=hV (z6:=z6) (len:=len) z;obtain⟨hm,b⟩:=Qg.mp a;refine⟨λj c=>?_,by rw[De];exact h.nd⟩;obtain⟨k,e,rfl⟩:=PQ.mp c;by_cases y:k.num=(cB z6 len (cC told js)).num
  .dsimp[y,Sn];exact Jz (h.ok _ hm) (sr b)
  .dsimp[GC y];exact h.ok k e
def wt(z6:L)(len:M'):O->J Jb×J L->D' (J L)
 |0,_=>S
 |n+1,s=>if s.1.all Jb.done=true then Y s.2 else wt z6 len n (dE z6 len s)
def rnC(cs:Cs):Ds->Rs Bool:=iT (gT (gF qN #[0,gL (a9 9 (br (ae 5)) bF (bG cs.Jobs "are_done" (bh cs) (ae 9) ah) aL)]))
theorem zP{len:M'}:(dE z6 len s).2.length=s.2.length+1:=by unfold dE;split <;> simp
theorem BN{len:M'}(h:aO (.list s.2)=true):aO (.list (dE z6 len s).2)=true:=by
 have h1:∀d∈s.2,aO d=true:=kG (by simpa[aO] using h);refine fu λd hd=>?_
 unfold dE at hd;split at hd
 .rcases Ql.mp hd with hd|hd
  .exact h1 d hd
  .rw[PV.mp hd];rfl
 .rcases Ql.mp hd with hd|hd
  .exact h1 d hd
  .rw[PV.mp hd];rfl
section
variable {E R W:L}{len:M'}
theorem Lk{qs:J (HL×Jb)}(hl:qs.length<=1000)(a:qs.map (·.1)=as)(nd:as.Nodup)(h:Az z6 (qs.map (·.2))):QOk as qs:=by
 have hm:∀p∈qs,JOk z6 p.2:=λp a=>h.ok _ (PQ.mpr ⟨p,a,rfl⟩)
 refine⟨hl,a,nd,?_,λp a=>(hm p a).pt,λp a=>(hm p a).jb⟩;have:=h.nd;rw[Q8]at this;exact this
theorem yW(i:xH len)(nd:as.Nodup):∀(n:O)(qs:J (HL×Jb))(told t:J L)(x7 x8:D' L),qs.length<=1000->qs.map (·.1)=as->Az z6 (qs.map (·.2))->NoD E R W z6 told->told.length+n<=1000000->wt z6 len n (qs.map (·.2),told)=Y t ->
  ∃a c f,b8 (rnC cs) (rnB cs as) n (rnD cs.Jobs E R W z6 len qs told x7 x8)=.nx (rnD cs.Jobs E R W z6 len a t c f)
 |0,_,_,_,_,_,_,_,_,_,_,h=>by cases h
 |n+1,qs,told,t,x7,x8,hl,b,hj,no,hn,h=>by
  have K:=Lk hl b nd hj;have hc:rnC cs (rnD cs.Jobs E R W z6 len qs told x7 x8)=.ok (!((qs.map (·.2)).all Jb.done)):=cond_of hl;unfold wt at h;unfold b8;rw[hc];dsimp[aw];cases z:(qs.map (·.2)).all Jb.done with
  |true =>rw[FC z]at h;cases h;dsimp[VS,Qb,SK];exact⟨qs,x7,x8,rfl⟩
  |false =>
   rw[GC (by rw[z];exact Q1)]at h;dsimp[VB,Sn];obtain⟨a,c,f,e,f1,f2⟩:=J6 (cs:=cs) K no i (λp b=>(hj.ok _ (PQ.mpr ⟨p,b,rfl⟩)).held) ⋯ x7 x8;rw[e];have g:a.length<=1000:=by have:=congrArg U6 f1;rw[P6,P6]at this;omega
   refine yW i nd n a _ t c f g (by rw[f1];exact b) (by rw[f2];exact xa hj) ⟨no.e,no.r,no.w,no.t,BN (s:=(qs.map (·.2),told)) no.o⟩ (by rw[zP];show told.length+1+n<=_;omega) ?_;rw[f2];exact h
end
noncomputable def dG(ps:J (Z×D' Z)):Int:=(ps.map (·.1)).sum
theorem hU(p:Z×D' Z)(r:J (Z×D' Z)):dG (p::r)=p.1+dG r:=by unfold dG;rw[P0,Qe]
def Jb.work(j:Jb):Int:=dG j.parts
def Jb.cur(j:Jb):Int:=dG (j.parts.take j.part)+j.spent
def Jb.tot(j:Jb):Int:=j.job*j.work+j.cur
theorem jZ:∀{ps:J (Z×D' Z)}{k:O}(h:k<ps.length),dG (ps.take (k+1))=dG (ps.take k)+ps[k].1
 |[],k,h=>by cases h
 |p::r,0,_=>by rw[RC,VE,hU];show p.1+dG []=dG []+p.1;omega
 |p::r,k+1,h=>by
  have a:k<r.length:=by simpa using h
  have b:=jZ (ps:=r) (k:=k) a;rw[RC,RC,hU,hU,b];show p.1+(dG (r.take k)+r[k].1)=p.1+dG (r.take k)+r[k].1;omega
theorem rq(h:JOk z6 j):j.next.tot=j.tot+1:=by
 have hpt:=h.pt;have x9:j.len=j.parts[j.part].1:=by unfold Jb.len;rw[My h.pt];rfl
 have ht:=jZ h.pt;unfold Jb.next Jb.step1;by_cases z:(j.spent:Z)+1=j.len
 .rw[FC z];unfold Jb.step2;by_cases y:j.part+1=j.parts.length
  .rw[FC (show ({j with spent:=0,part:=j.part+1}:Jb).part=({j with spent:=0,part:=j.part+1}:Jb).parts.length from y)];have hw:dG (j.parts.take (j.part+1))=dG j.parts:=by rw[y,WX]
   show ((j.job+1:O):Z)*dG j.parts+(dG (j.parts.take 0)+((0:O):Z))=(j.job:Z)*dG j.parts+(dG (j.parts.take j.part)+(j.spent:Z))+1;have a:dG (j.parts.take 0)=0:=rfl;have e1:((j.job+1:O):Z)*dG j.parts=(j.job:Z)*dG j.parts+dG j.parts:=by rw[Z.natCast_add,RA];simp
   rw[a,e1];omega
  .rw[GC (show ¬ ({j with spent:=0,part:=j.part+1}:Jb).part=({j with spent:=0,part:=j.part+1}:Jb).parts.length from y)];show (j.job:Z)*dG j.parts+(dG (j.parts.take (j.part+1))+((0:O):Z))=(j.job:Z)*dG j.parts+(dG (j.parts.take j.part)+(j.spent:Z))+1;omega
 .rw[GC z];unfold Jb.step2;rw[GC (show ¬ ({j with spent:=j.spent+1}:Jb).part=({j with spent:=j.spent+1}:Jb).parts.length from Q4 h.pt)];show (j.job:Z)*dG j.parts+(dG (j.parts.take j.part)+((j.spent+1:O):Z))=(j.job:Z)*dG j.parts+(dG (j.parts.take j.part)+(j.spent:Z))+1;omega
theorem qI:∀(a b:J (Z×D' Z)),dG (a++b)=dG a+dG b
 |[],b=>by show dG b=0+dG b;omega
 |p::r,b=>by rw[Qx,hU,hU,qI r b];omega
theorem nB:∀{ps:J (Z×D' Z)},(∀p∈ps,1<=p.1)->0<=dG ps
 |[],_=>QB 0
 |p::r,h=>by
  have:=h p P7;have ih:=nB (ps:=r) λq a=>h q (P4 _ a)
  rw[hU];omega
theorem nU{ps:J (Z×D' Z)}(h:∀p∈ps,1<=p.1)(k:O):dG (ps.take k)<=dG ps:=by
 have e:=qI (ps.take k) (ps.drop k);rw[S0]at e;have:=nB (ps:=ps.drop k) λq a=>h q (Qt a)
 omega
theorem nY(h:JOk z6 j):0<=j.cur/\j.cur<j.work:=by
 have hpt:=h.pt;have x9:j.len=j.parts[j.part].1:=by unfold Jb.len;rw[My h.pt];rfl
 have ht:=jZ h.pt;have h1:=nU h.ln (j.part+1);have h2:=nB (ps:=j.parts.take j.part) λq a=>h.ln q (QP a)
 have h3:=h.sp;unfold Jb.cur Jb.work;omega
theorem AY(h:JOk z6 j){k:O}(hj:j.job<k):j.tot<(k:Z)*j.work:=by obtain⟨c0,c1⟩:=nY h;have:=Qo (a:=(j.job:Z)+1) (b:=(k:Z)) (c:=j.work) ⋯ ⋯;rw[RA,X8]at this;unfold Jb.tot;omega
theorem j8(j:Jb):j.next.row=j.row:=by unfold Jb.next Jb.step1 Jb.step2;split <;> split <;> rfl
theorem kr(j:Jb):j.next.parts=j.parts:=by unfold Jb.next Jb.step1 Jb.step2;split <;> split <;> rfl
def Jb.left(j:Jb):Nat:=((j.row.length:Z)*j.work-j.tot).toNat
theorem vZ(j:Jb):j.next.work=j.work:=by unfold Jb.work;rw[kr]
theorem Dl(h:JOk z6 j)(a:j.job<j.row.length):j.next.left+1=j.left:=by have h1:=rq h;have h2:=AY h a;unfold Jb.left;rw[j8,vZ,h1];omega
theorem Ck{b:Jb}:∀{r:J Jb},(∀k∈r,k.num≠b.num)->fi b r=r
 |[],_=>rfl
 |k::t,h=>by show (if k.num=b.num then b.next else k)::fi b t=_;rw[GC (h k P7),Ck λx a=>h x (P4 _ a)]
theorem pN{b:Jb}{r:J Jb}(nd:((j::r).map (·.num)).Nodup)(a:b∈j::r):(j=b/\fi b (j::r)=b.next::r)\/(j.num≠b.num/\b∈r/\fi b (j::r)=j::fi b r):=by
 rw[P0,Qq]at nd;have e:fi b (j::r)=(if j.num=b.num then b.next else j)::fi b r:=rfl;by_cases z:j.num=b.num
 .left;have c:j=b:=by
   rcases P8.mp a with h|h
   .exact h.symm
   .exact (nd.1 (PQ.mpr ⟨b,h,z.symm⟩)).elim
  refine⟨c,?_⟩;rw[e,FC z,Ck λk f q=>nd.1 (PQ.mpr ⟨k,f,q.trans z.symm⟩)]
 .right;refine⟨z,?_,by rw[e,GC z]⟩;rcases P8.mp a with h|h
  .exact (z (by rw[h])).elim
  .exact h
theorem yR{f:Jb->O}{b:Jb}:∀{js:J Jb},(js.map (·.num)).Nodup->b∈js->f b.next+1=f b->((fi b js).map f).sum+1=(js.map f).sum
 |[],_,a,_=>by cases a
 |j::r,nd,a,hf=>by
  rcases pN nd a with⟨g,e⟩|⟨_,c,e⟩
  .rw[e,P0,P0,Qe,Qe,g];omega
  .rw[P0,Qq]at nd;have:=yR nd.2 c hf;rw[e,P0,P0,Qe,Qe];omega
def B2(js:J Jb):Nat:=(js.map Jb.left).sum
theorem oO{b k:Jb}(hb:b∈js)(a:k∈fi b js):k∈js\/k=b.next:=by
 obtain⟨j,c,rfl⟩:=PQ.mp a;by_cases z:j.num=b.num
 .right;exact FC z
 .left;rw[GC z];exact c
theorem md{len:M'}{told:J L}(z:cC told js=[]):dE z6 len (js,told)=(js,told++[.none]):=by unfold dE;exact FC z
theorem pz{len:M'}{told:J L}(z:cC told js≠[]):∃b,b∈js/\b.there (told.length:Z)=true/\dE z6 len (js,told)=(fi b js,told++[i4 b]):=by obtain⟨hm,a⟩:=Qg.mp (hV (z6:=z6) (len:=len) z);refine⟨_,hm,a,?_⟩;unfold dE;exact GC z
theorem Jy(h:JOk z6 j)(hd:j.done=false):j.job<j.row.length:=by have:=h.jb;unfold Jb.done at hd;rw[SE]at hd;omega
theorem sV{z6:L}{len:M'}{B:O}:∀(n:O)(js:J Jb)(told:J L),Az z6 js->(∀j∈js,∀c∈j.row,c<(B:Z))->B2 js+(B-told.length)<n->∃t,wt z6 len n (js,told)=Y t
 |0,_,_,_,_,hn=>by omega
 |n+1,js,told,h,hr,hn=>by
  unfold wt;by_cases z:js.all Jb.done=true
  .exact⟨told,FC z⟩
  .rw[GC (show ¬ ((js,told).1.all Jb.done=true) from z)];by_cases y:cC told js=[]
   .rw[md y];refine sV n js _ h hr ?_;rw[Q6]at z;obtain⟨j,o⟩:=Ua.mp z;obtain⟨hm,hd⟩:=Classical.not_imp.mp o;have a:=Jy (h.ok j hm) (WD.mpr hd);have hc:=hr j hm _ (Qk a);have g:¬ j.there (told.length:Z)=true:=λe=>by have:j∈cC told js:=Qg.mpr ⟨hm,e⟩;rw[y]at this;cases this
    unfold Jb.there at g;rw[My a]at g;dsimp[L3]at g;rw[PU,Qr];omega
   .obtain⟨b,l,g,e⟩:=pz (z6:=z6) (len:=len) y;have i:=xa (len:=len) (told:=told) h;rw[e]at i ⊢;have hs:=yR (f:=Jb.left) h.nd l (Dl (h.ok _ l) (sr g));refine sV (B:=B) n _ _ i (λk m=>?_) ?_
    .rcases oO l m with m|rfl
     .exact hr k m
     .rw[j8];exact hr b l
    .rw[PU,Qr];unfold B2 at hn ⊢;omega
def fD(r:J Z)(t:Z):Nat:=(r.filter λc=>decide (c<=t)).length
theorem eR(a:Z)(s:J Z)(t:Z):fD (a::s) t=(if a<=t then 1 else 0)+fD s t:=by
 unfold fD;rw[Qn];by_cases z:a<=t
 .rw[FC (O' z),FC z,PZ];omega
 .rw[GC (by simpa using z),GC z];omega
theorem xU(r:J Z)(t:Z):fD r t<=r.length:=Rk _ _
theorem uV{t u:Z}(h:t<=u):∀r:J Z,fD r t<=fD r u
 |[]=>PN _
 |a::s=>by
  have ih:=uV h s;rw[eR,eR];by_cases z:a<=t
  .rw[FC z,FC ⋯];omega
  .rw[GC z];omega
theorem jT{t:Z}:∀{r:J Z},(∀c∈r,t<c)->fD r t=0
 |[],_=>rfl
 |a::s,h=>by have:=h a P7;rw[eR,GC ⋯,jT λc hc=>h c (P4 _ hc)]
theorem rf{t:Z}:∀{r:J Z}{k:O}(b:k<r.length),r.Pairwise (· < ·)->t<r[k]->fD r t<=k
 |[],_,b,_,_=>by cases b
 |a::s,0,_,hp,h=>by rw[Rt]at hp;have h:t<a:=h;have:=hp.1;rw[eR,GC ⋯,jT λc hc=>Z.lt_trans h (this c hc)];exact PN _
 |a::s,k+1,b,hp,h=>by
  rw[Rt]at hp;have e:k<s.length:=by simpa using b
  have ih:=rf e hp.2 (show t<s[k] from h);rw[eR];split <;> omega
theorem qX{t:Z}:∀{r:J Z}{k:O}(c:k<r.length),r.Pairwise (· < ·)->r[k]<=t->k<fD r t
 |[],_,c,_,_=>by cases c
 |a::s,0,_,hp,h=>by have h:a<=t:=h;rw[eR,FC h];omega
 |a::s,k+1,c,hp,h=>by
  rw[Rt]at hp;have b:k<s.length:=by simpa using c
  have h:s[k]<=t:=h;have ih:=qX b hp.2 h;have:=hp.1 _ (Qk b);rw[eR,FC ⋯];omega
def gJ(t:Z)(j:Jb):Int:=(fD j.row t:Z)*j.work-j.tot
structure IvJ(z6:L)(t:Z)(js:J Jb):Prop where
 ok:Az z6 js
 srt:∀j∈js,j.row.Pairwise (· < ·)
 low:∀j∈js,0<=gJ t j
theorem rQ{t:Z}(h:JOk z6 j)(c:j.row.Pairwise (· < ·))(b:j.there t=true):0<gJ t j:=by have a:=sr b;unfold Jb.there at b;rw[My a]at b;have:=AY h (qX a c (Sw b));unfold gJ;omega
theorem zy{t:Z}(h:JOk z6 j)(f:j.row.Pairwise (· < ·))(hl:0<=gJ t j)(e:j.there t=false):gJ t j=0:=by
 have hc:fD j.row t<=j.job:=by
  by_cases z:j.job<j.row.length
  .unfold Jb.there at e;rw[My z]at e;have:=Tr e;exact rf z f ⋯
  .have:=xU j.row t;omega
 obtain⟨c0,c1⟩:=nY h;have:=Qo (a:=(fD j.row t:Z)) (b:=(j.job:Z)) (c:=j.work) ⋯ ⋯;unfold gJ Jb.tot at hl ⊢;omega
theorem gE{α:Type}(f:α->Z):∀{l:J α},(∀x∈l,f x=0)->(l.map f).sum=0
 |[],_=>rfl
 |a::r,h=>by rw[P0,Qe,h a P7,gE f λx b=>h x (P4 _ b)];rfl
theorem pX{t u:Z}(e:t<=u)(h:JOk z6 j):gJ t j<=gJ u j:=by have h1:=uV e j.row;have h2:=nY h;have:=Qo (a:=(fD j.row t:Z)) (b:=(fD j.row u:Z)) (c:=j.work) ⋯ ⋯;unfold gJ;omega
theorem Kf{len:M'}{told:J L}(h:IvJ z6 (told.length:Z) js):IvJ z6 ((dE z6 len (js,told)).2.length:Z) (dE z6 len (js,told)).1:=by
 have c:=xa (len:=len) (told:=told) h.ok;by_cases z:cC told js=[]
 .rw[md z]at c ⊢;refine⟨c,h.srt,λj a=>?_⟩;have:=h.low j a;have:=pX (u:=(((told++[VA]).length:O):Z)) (t:=(told.length:Z)) (by rw[PU];omega) (h.ok.ok j a);show 0<=gJ (((told++[VA]).length:O):Z) j;omega
 .obtain⟨b,f,g,e⟩:=pz (z6:=z6) (len:=len) z;rw[e]at c ⊢;refine⟨c,λj a=>?_,λj a=>?_⟩
  .rcases oO f a with a|rfl
   .exact h.srt j a
   .rw[j8];exact h.srt b f
  .show 0<=gJ (((told++[i4 b]).length:O):Z) j;rcases oO f a with a|rfl
   .have:=h.low j a;have:=pX (u:=(((told++[i4 b]).length:O):Z)) (t:=(told.length:Z)) (by rw[PU];omega) (h.ok.ok j a);omega
   .have h2:=rQ (h.ok.ok b f) (h.srt b f) g;have h3:=pX (u:=(((told++[i4 b]).length:O):Z)) (t:=(told.length:Z)) (by rw[PU];omega) (h.ok.ok b f);have i:=rq (h.ok.ok b f);unfold gJ at h2 h3 ⊢;rw[j8,vZ,i];omega
theorem JY(h:JOk z6 j):j.tot / j.work=(j.job:Z):=by obtain⟨c0,c1⟩:=nY h;unfold Jb.tot;rw[Z.add_comm,Z.add_mul_ediv_right _ _ ⋯,RT c0 c1];omega
def ip(j:Jb):Z×J (Z×D' Z)×J Int:=(j.num,j.parts,j.row)
theorem vU{b:Jb}:∀{js:J Jb},(js.map (·.num)).Nodup->b∈js->(fi b js).map ip=js.map ip
 |[],_,a=>by cases a
 |j::r,nd,a=>by
  rcases pN nd a with⟨f,e⟩|⟨_,c,e⟩
  .rw[e,P0,P0,f];unfold ip;rw[zW,kr,j8]
  .rw[P0,Qq]at nd;rw[e,P0,P0,vU nd.2 c]
theorem cX{g:Ds->Rs L}{d:L}(hi:i<δ.length)(a:g (mask D2 δ)=.ok d):aJ D2 i g δ=.nx (δ.set i (Y d)):=by unfold aJ;rw[FC hi,a];rfl
def mkJ(es:J Er)(rs:J Z)(k:O)(row:J Z):Jb:=⟨(k:Z),(aK es (k:Z)).parts,(placeOf rs (k:Z):Z),row,0,0,0⟩
def startJ(es:J Er)(rs:J Z)(z5:J (J Z)):J Jb:=z5.mapIdx (mkJ es rs)
section
theorem l5(i:O):(startJ es rs z5)[i]?=(z5[i]?).map (mkJ es rs i):=Rj
theorem eQ(h:j∈startJ es rs z5):∃(k:O)(row:J Z),k<z5.length/\row∈z5/\z5[k]?=Y row/\j=mkJ es rs k row:=by obtain⟨k,b⟩:=S3.mp h;rw[l5]at b;obtain⟨row,a,e⟩:=QQ.mp b;exact⟨k,row,(Qa.mp a).1,Qz a,a,e.symm⟩
theorem iV:(startJ es rs z5).length=z5.length:=J.length_mapIdx
theorem BM:(startJ es rs z5).map (·.num)=(LN z5.length).map λ(k:O)=>(k:Z) :=
 Sk (by simp[startJ]) (λi h1 h2=>by simp[startJ,mkJ])
theorem KD(n:O):((LN n).map λ(k:O)=>(k:Z)).Nodup:=J.Pairwise.map _ (λa b h e=>h ⋯) W'
theorem pE(k:O)(row:J Z):(mkJ es rs k row).tot=0:=by show ((0:O):Z)*_+(dG (J.take 0 _)+((0:O):Z))=0;rw[VE];have:dG []=0:=rfl;rw[this];simp
end
theorem xF:∀{ps:J (Z×D' Z)},(∀p∈ps,p.1<=20)->dG ps<=20*(ps.length:Z)
 |[],_=>QB 0
 |p::r,h=>by
  have:=h p P7;have ih:=xF (ps:=r) λq a=>h q (P4 _ a)
  rw[hU,PZ];omega
theorem B8{α:Type}(f:α->O){c:O}:∀{l:J α},(∀x∈l,f x<=c)->(l.map f).sum<=l.length*c
 |[],_=>QH _
 |a::r,h=>by
  have h1:=h a P7;have ih:=B8 f (l:=r) λx b=>h x (P4 _ b)
  rw[P0,Qe,PZ,O.add_mul];omega
theorem kH{t:Z}(t0:0<=t)(t3:t<=3)(h:aG es rs t=Y n):dIx (ax es rs) (.int t)=⇑n:=by
 obtain⟨m,rfl⟩:∃m:O,t=(m:Z):=⟨t.toNat,⋯⟩
 show atI ((LN 4).map λ(t:O)=>aW (aG es rs t)) (m:Z)=_;refine qY ?_;rw[Q5,R6 ⋯,QL,h];rfl
theorem uL(es:J Er)(rs:J Z):aO (ax es rs)=true:=fu λd hd=>by obtain⟨t,_,rfl⟩:=PQ.mp hd;exact uY _
structure Ran(es:J Er)(rs:J Z)(z5:J (J Z))(len:M'):Prop where
 eok:BB es
 rok:bJ es.length rs
 ln:z5.length=es.length
 le:xH len
def mq(es:J Er)(rs:J Z)(z5:J (J Z))(len:M'):D' (J L):=wt (ax es rs) len 1000000 (startJ es rs z5,[])
section
variable {len:M'}{t:J L}
theorem oq(h:BB es)(f:bJ es.length rs)(hl:z5.length=es.length):Az (ax es rs) (startJ es rs z5):=by
 refine⟨λj g=>?_,by rw[BM];exact KD _⟩;obtain⟨k,row,hk,_,_,rfl⟩:=eQ g;have c:(0:Z)<=(k:Z):=⋯
 have h1:(k:Z)<es.length:=⋯
 have ok:=h.ok _ (bK c h1);have a:0<(aK es (k:Z)).parts.length:=R5.mpr ok.p1;refine⟨a,QH _,λp b=>(ok.pl p b).1,?_,λp b u e=>?_⟩
 .have:=len_pos (z6:=.none) (j:=mkJ es rs k row) (λp b=>(ok.pl p b).1) a;show (0:Z)<_;exact S8 #[1] this
 .obtain⟨i,l⟩:=(ok.pl p b).2.2 u e;have m:(aK es (k:Z)).has u=true:=by unfold Er.has;rw[QO];exact⟨p,b,by rw[e];exact T6 _⟩
  obtain⟨n,hn⟩:=lC es u rs 0 (k:Z) (f.mem c h1) m;exact⟨n,kH i l hn⟩
theorem Fu(R:Ran es rs z5 len)(C:Cms es z5):∃t,mq es rs z5 len=Y t:=by
 have a:=C.qH;refine sV (B:=10000) 1000000 _ [] (oq R.eok R.rok R.ln) (λj b c hc=>?_) ?_
 .obtain⟨k,row,_,hm,_,rfl⟩:=eQ b;have:=(a row hm).hi c hc;omega
 .have f:B2 (startJ es rs z5)<=(startJ es rs z5).length*4800:=B8 Jb.left λj b=>by
   obtain⟨k,row,hk,hm,_,rfl⟩:=eQ b;have ok:=R.eok.ok _ (bK (n:=(k:Z)) ⋯ (by have:=R.ln;omega));have h1:=xF λp e=>(ok.pl p e).2.1
   have h2:=ok.p2;have h3:=(a row hm).few;have g:=nB λp e=>(ok.pl p e).1
   unfold Jb.left;rw[pE];have h5:((mkJ es rs k row).row.length:Z)*(mkJ es rs k row).work<=60*80:=Z.mul_le_mul (by show (row.length:Z)<=60;omega) (by show dG (aK es (k:Z)).parts<=80;omega) g #[1];omega
  rw[iV]at f;have h6:=R.eok.l6;have h7:=R.ln;show B2 (startJ es rs z5)+(10000-0)<1000000;have h8:z5.length*4800<=6*4800:=O.mul_le_mul_right _ ⋯;omega
end
def fsJ(j:Jb):J PyData:=[.int j.num,.tuple (j.parts.map aN),.int j.rank,c9 j.row]
theorem Bd(h:∀j∈js,j.job=0/\j.part=0/\j.spent=0):mF C JN JT as (js.map fsJ)=(as.zip js).map (jD C):=by
 unfold mF;rw[J.zip_map_right,Q8];refine Q3 λp c=>?_
 obtain⟨h1,h2,h3⟩:=h p.2 (RF (a:=p.1) (b:=p.2) c).2;show cN C p.1 (JN.zip (fsJ p.2)++tlD JT)=cN C p.1 p.2.fds;unfold Jb.fds;rw[h1,h2,h3];rfl
section
variable {len:M'}{t:J L}
theorem J1(R:Ran es rs z5 len)(c:mq es rs z5 len=Y t)(hl:as.length=z5.length)(nd:as.Nodup) :
  kA cs aY (bh cs) (dg cs) (aX cs) iy as #[3,Y (cmD z5),Y (.str len),Y (ax es rs),↥((as.zip (startJ es rs z5)).map (jD cs.Jobs)),S,S,S]=.rt (.list t):=by
 have b:(as.zip (startJ es rs z5)).map (·.1)=as:=WR (by rw[iV,hl];exact PN _);have a:(as.zip (startJ es rs z5)).map (·.2)=startJ es rs z5:=J.map_snd_zip (by rw[iV,hl];exact PN _);obtain⟨qs',y7,y8,e⟩:=yW (cs:=cs) (E:=ar es) (R:=aj rs) (W:=cmD z5) (z6:=ax es rs) (len:=len) (as:=as) R.le nd 1000000 (as.zip (startJ es rs z5)) [] t S S
  (by rw[J.length_zip,iV];have:=R.eok.l6;have:=R.ln;omega) b (by rw[a];exact oq R.eok R.rok R.ln) ⟨vV es,uq rs,rH z5,uL es rs,fu λd hd=>by cases hd⟩ (by rw[QF];omega) (by rw[a];exact c)
 have f:ff [6] 6 ah #[3,Y (cmD z5),Y (.str len),Y (ax es rs),↥((as.zip (startJ es rs z5)).map (jD cs.Jobs)),S,S,S]=.nx (rnD cs.Jobs (ar es) (aj rs) (cmD z5) (ax es rs) len (as.zip (startJ es rs z5)) [] S S):=rfl;show az (ff [6] 6 ah) (az (λδ=>b8 (rnC cs) (rnB cs as) 1000000 δ) (bq (ae 6))) _=_;rw[aQ,f];show (match b8 (rnC cs) (rnB cs as) 1000000 (rnD cs.Jobs (ar es) (aj rs) (cmD z5) (ax es rs) len (as.zip (startJ es rs z5)) [] S S) with
  |.nx δ'=>bq (ae 6) δ'
  |r=>r)=_
 rw[e];rfl
end
def HC:L->J Z
 |.list xs=>(fI xs).getD []
 |_=>[]
def Fy:L->J (J Z)
 |.list l=>l.map HC
 |_=>[]
theorem ER(z5:J (J Z)):Fy (cmD z5)=z5:=by
 show (z5.map c9).map HC=z5;rw[Q8];have:∀r∈z5,(HC∘c9) r=id r:=λr _=>by show (fI (r.map EE)).getD []=r;rw[ej];rfl
 rw[Q3 this,QJ]
def lenOf:L->M'
 |.str s=>s
 |_=>""
def Fl(d r c l:L):PyData:=match mq (cu d) (b9 r) (Fy c) (lenOf l) with
 |some t=>.list t
 |none=>.none
theorem wR{len:M'}{t:J L}(a:mq es rs z5 len=Y t):Fl (ar es) (aj rs) (cmD z5) (.str len)=.list t:=by unfold Fl;rw[fk,dZ,ER,show lenOf (.str len)=len from rfl,a]
def atD(δ:Ds)(i:O):PyData:=((δ[i]?).getD S).getD .none
open Classical in
def mJ:Ds->Sr:=λδ=>if ∃es rs z5 len t,Ran es rs z5 len/\mq es rs z5 len=Y t/\δ=#[3,Y (cmD z5),Y (.str len),Y (ax es rs),S,S,S,S] then .rt (Fl (atD δ 0) (atD δ 1) (atD δ 2) (atD δ 3)) else .no
theorem Lg{len:M'}{t:J L}(R:Ran es rs z5 len)(a:mq es rs z5 len=Y t):mJ #[3,Y (cmD z5),Y (.str len),Y (ax es rs),S,S,S,S]=.rt (.list t):=by unfold mJ;rw[FC ⟨es,rs,z5,len,t,R,a,rfl⟩];exact congrArg Sr.rt (wR a)
theorem IT(cs:Cs):∀δ,mJ δ≠.no->∃d ds a,mJ δ=.rt d/\5<δ.length/\δ.length=9/\(gU #[0,2]) (mask [6] δ)=.ok ds/\ds.length<=1000000/\a.length=ds.length/\(∀(i:O) d,ds[i]?=Y d->∃f fs,fQ d=Y f/\a[i]?=Y fs/\(af (ae 9) #[0,g2 dIx (g2 dIx (ae 0) (ae 9)) ↑3,kY (ae 1) (ae 9),10]) (mask [6] δ++f)=.ok fs/\fs.length=JN.length) /\
   ∀as:J HL,as.length=ds.length->as.Nodup->kA cs aY (bh cs) (dg cs) (aX cs) iy as (δ.set 5 ↥(mF cs.Jobs JN JT as a))=.rt d:=by
 intro δ b;by_cases hx:∃es rs z5 len t,Ran es rs z5 len/\mq es rs z5 len=Y t/\δ=#[3,Y (cmD z5),Y (.str len),Y (ax es rs),S,S,S,S]
 .obtain⟨es,rs,z5,len,t,R,g,rfl⟩:=hx;have hln:=R.ln;refine⟨.list t,ix (z5.map c9),(startJ es rs z5).map fsJ,Lg R g,(by decide:5<9),rfl,rfl,?_,?_,?_,?_⟩
  .rw[jP,P6];have:=R.eok.l6;omega
  .rw[jP,P6,P6,iV]
  .intro i d hd;unfold ix at hd;rw[Rj,Q5]at hd;cases q:z5[i]? with
   |none=>rw[q]at hd;cases hd
   |some row =>
    rw[q]at hd;have e:Y (Ta [.int (i:Z),c9 row])=Y d:=hd;cases e;have hi:=(Qa.mp q).1;have h:(0:Z)<=(i:Z):=⋯
    have h1:(i:Z)<es.length:=⋯
    refine⟨[⇑(i:Z),Y (c9 row)],fsJ (mkJ es rs i row),rfl,?_,?_,rfl⟩
    .rw[Q5,l5,q];rfl
    .have a1:dIx (ar es) (.int (i:Z))=Y (aK es (i:Z)).d:=eX h h1;have a2:=Ad (aK es (i:Z));have l:=fX (R.rok.mem h h1);show #[0,9,g2 dIx (g2 dIx (ae 0) (ae 9)) ↑3,kY (ae 1) (ae 9),10] #[3,Y (cmD z5),Y (.str len),Y (ax es rs),S,S,S,S,⇑(i:Z),Y (c9 row)]=_;dsimp[ay,aF,bQ,aq,av,cA,pR,Rs.ag,a1,a2,Rs.ai,aj,l];rfl
  .intro as c nd;rw[jP,P6]at c;rw[Bd λj m=>by obtain⟨k,row,_,_,_,rfl⟩:=eQ m;exact⟨rfl,rfl,rfl⟩];exact J1 R g c nd
 .unfold mJ at b;rw[GC hx]at b;cases b rfl
open Classical in
def fH(cs:Cs):Gf:=λds=>if ∃es rs z5 len t,Ran es rs z5 len/\mq es rs z5 len=Y t/\ds=[ar es,aj rs,cmD z5,.str len] then .ok (Fl (ds.getD 0 .none) (ds.getD 1 .none) (ds.getD 2 .none) (ds.getD 3 .none)) else .no
theorem n9{len:M'}{t:J L}(R:Ran es rs z5 len)(a:mq es rs z5 len=Y t):fH cs [ar es,aj rs,cmD z5,.str len]=.ok (.list t):=by unfold fH;rw[FC ⟨es,rs,z5,len,t,R,a,rfl⟩];exact congrArg Rs.ok (wR a)
theorem HP(cs:Cs):∀ds,ds.length=4->fH cs ds≠.no->bc (az (aJ [6] 4 (ao aY #[0,0,1])) mJ (ds.map Y++I' 5 S))=fH cs ds:=by
 intro ds hl a;by_cases hx:∃es rs z5 len t,Ran es rs z5 len/\mq es rs z5 len=Y t/\ds=[ar es,aj rs,cmD z5,.str len]
 .obtain⟨es,rs,z5,len,t,R,b,rfl⟩:=hx;rw[n9 R b];have c:=gX (es:=es) (rs:=rs) (by have:=R.eok.l6;omega) (λe f=>(R.eok.ok e f).sh) R.rok;have g:aJ [6] 4 (ao aY #[0,0,1]) #[3,Y (cmD z5),Y (.str len),S,S,S,S,S]=.nx #[3,Y (cmD z5),Y (.str len),Y (ax es rs),S,S,S,S]:=by have h:ao aY #[0,0,1] (mask [6] #[3,Y (cmD z5),Y (.str len),S,S,S,S,S])=.ok (ax es rs):=c;exact cX (by decide:4<9) h
  show bc (az (aJ [6] 4 (ao aY #[0,0,1])) mJ #[3,Y (cmD z5),Y (.str len),S,S,S,S,S])=_;rw[aQ,g];simp only;rw[Lg R b];rfl
 .exfalso;apply a;unfold fH;rw[GC hx]
open Classical in
def jj(cs:Cs):Gf:=λds=>if ∃es rs z5 len t,Ran es rs z5 len/\Cms es z5/\mq es rs z5 len=Y t/\ds=[ar es,aj rs,cmD z5,.str len] then .ok (Fl (ds.getD 0 .none) (ds.getD 1 .none) (ds.getD 2 .none) (ds.getD 3 .none)) else .no
theorem vL{len:M'}{t:J L}(R:Ran es rs z5 len)(C:Cms es z5)(a:mq es rs z5 len=Y t):jj cs [ar es,aj rs,cmD z5,.str len]=.ok (.list t):=by unfold jj;rw[FC ⟨es,rs,z5,len,t,R,C,a,rfl⟩];exact congrArg Rs.ok (wR a)
theorem OU(cs:Cs):LLq (Cw cs (bE cs) (fH cs) (bg cs) (bD cs)) 4 0 (jj cs):=by
 intro ds hl a;by_cases hx:∃es rs z5 len t,Ran es rs z5 len/\Cms es z5/\mq es rs z5 len=Y t/\ds=[ar es,aj rs,cmD z5,.str len]
 .obtain⟨es,rs,z5,len,t,R,C,b,rfl⟩:=hx;rw[vL R C b];have k1:=jM cs R.eok.l1 R.eok.l6 R.eok.ok;have k2:=iK cs R.eok.l6 R.rok;have k3:=gR (cs:=cs) R.eok C;have c:=n9 (cs:=cs) R b;show bc (Cw cs (bE cs) (fH cs) (bg cs) (bD cs) #[3,Y (cmD z5),Y (.str len)])=_;unfold Cw;dsimp[aQ,qT,bp,ay,aF,aq,av,Rs.ag,k1,k2,k3,c,aw,bW,a8]
 .exfalso;apply a;unfold jj;rw[GC hx]
end RS
variable {js:J RS.Jb}
namespace L2
open PySem PySem.Spec PyProof.Rows
end L2
namespace RS
open PySem L2
variable {g:Ds->Rs L}{h a:Z}{tgt:L->Ds->D' Ds}{B:O}{j:Jb}
theorem zZ:∀a b:J Z,TK (a.map EE) (b.map EE)=decide (a=b)
 |[],[]=>by simp[TK]
 |[],_::_=>by simp[TK]
 |_::_,[]=>by simp[TK]
 |x::a,y::b=>by
  have h:(x==y)=decide (x=y):=by by_cases z:x=y <;> simp[z]
  simp[TK,SX,zZ a b,h]
theorem KO(a b:J Z):dNe (.list (a.map EE)) (.list (b.map EE))=Y (.bool (!decide (a=b))):=by unfold dNe;rw[fu (kF a),fu (kF b),shaped_ints,shaped_ints];simp[SX,zZ]
def hvS(every late m:Z)(row:J Z):Int:=row.foldl (λm c=>(if c-late>m then c-late else m)+every) m
theorem CS(every late:Z):∀(row:J Z)(m c:Z),hvM every late m row=true->¬ c<(if c-late>hvS every late m row then c-late else hvS every late m row)->hvM every late m (row++[c])=true
 |[],m,c,_,h=>by show (if c<(if c-late>m then c-late else m) then false else true)=true;exact GC h
 |a::r,m,c,h1,h=>by
  rw[Qx];unfold hvM at h1 ⊢;by_cases z:a<(if a-late>m then a-late else m)
  .rw[FC z]at h1;cases h1
  .rw[GC z]at h1 ⊢;exact CS every late r _ c h1 h
structure CrI(every late y0:Z)(made:J Z)(y4:Z):Prop where
 lo:-late<=y4
 hv:hvM every late (0-late) made=true
 ea:hvS every late (0-late) made<=y4
 la:∀c,made.getLast?=Y c->c+1<=y4+late
 c0:∀c∈made,0<=c
 c1:∀c∈made,c<y0
theorem Jl{every late y4 c:Z}{made:J Z}(h:CrI every late y0 made y4)(hs:y4+late<y0)(e:0<=c)(h1:y4<=c)(h2:c<=y4+late)(he:1<=every)(hl:0<=late)(hx:y4+every<=a):CrI every late y0 (made++[c]) a:=by
 have b:=h.ea;have hlo:=h.lo;refine⟨⋯,CS every late made _ c h.hv (by split <;> omega),?_,λd hd=>?_,λd hd=>?_,λd hd=>?_⟩
 .unfold hvS at b ⊢;rw[Sf];show (if c-late>U8 _ _ made then c-late else U8 _ _ made)+every<=a;split <;> omega
 .rw[J.getLast?_concat]at hd;cases hd;omega
 .rcases Ql.mp hd with hd|hd
  .exact h.c0 d hd
  .rw[PV.mp hd];exact e
 .rcases Ql.mp hd with hd|hd
  .exact h.c1 d hd
  .rw[PV.mp hd];omega
theorem FJ{every late:Z}{y4:Z}(h:-late<=y4):CrI every late y0 [] y4:=⟨h,rfl,by show 0-late<=y4;omega,λc hc=>(by cases hc),λc hc=>(by cases hc),λc hc=>(by cases hc)⟩
theorem vO{every late:Z}(hl:late<every)(f:0<=late):∀(row:J Z)(m:Z),hvM every late m row=true->(∀c∈row,m<=c)/\row.Pairwise (· < ·)
 |[],_,_=>⟨λc hc=>(by cases hc),Wr⟩
 |a::r,m,h=>by
  unfold hvM at h;by_cases z:a<(if a-late>m then a-late else m)
  .rw[FC z]at h;cases h
  .rw[GC z]at h;obtain⟨h1,h2⟩:=vO hl f r _ h;have hm:m<=a:=by split at z <;> omega
   have b:∀c∈r,a<c:=λc hc=>by have:=h1 c hc;split at this <;> omega
   refine⟨λc hc=>?_,Rt.mpr ⟨b,h2⟩⟩;rcases P8.mp hc with e|hc
   .rw[e];exact hm
   .have:=b c hc;omega
theorem xu{d:L}(hi:i<δ.length)(a:g δ=.ok d)(hn:fW d=true):lF i g δ=.nx (δ.set i (Y d)):=by unfold lF;rw[FC hi,a,aw,FC hn]
theorem Oa(k:Z):fB (.int 104729) (.int k)=⇑(104729*k):=t8 #[1] #[1]
theorem OL(k:Z):fB (.int 7919) (.int k)=⇑(7919*k):=t8 #[1] #[1]
theorem OI(a:Z):fB (.int a) (.int 48271)=⇑(a*48271):=Be #[1] #[1]
theorem N8(a:Z):fE (.int a) (.int 2147483647)=⇑(a % 2147483647):=by rw[tR,FC #[1]]
theorem OP{k:Z}(h0:0<=k)(h1:k<=60):fB (.int a) (.int k)=⇑(a*k):=Be ⋯ ⋯
theorem Gh{x5 k:Z}(a:ae 4 δ=.ok (.int x5))(b:ae 7 δ=.ok (.int k))(c:0<=k)(h1:k<=60) :
  ∃e:Z,g2 fE (g2 fB (g2 aP (g2 aP (ae 4) (g2 fB (g2 fB ↑104729 (ae 7)) (ae 7))) (g2 fB ↑7919 (ae 7))) ↑48271) ↑2147483647 δ=.ok (.int e):=by
 generalize hA:(x5+104729*k*k+7919*k)*48271 % 2147483647=A;refine⟨A,?_⟩;rw[bQ,bQ,bQ,bQ,bQ,bQ,bQ];rw[a,b];dsimp[cA,Rs.ag,Oa,OP c h1,OL,OI,N8,dD,Rs.ai,hA]
def crC:Ds->Rs Bool:=(jh (gT (g2 dLt (g2 aP (ae 5) (g2 dIx (ae 2) ↑2)) (ae 3))) (gT (g2 dLt (gF cp #[0,6]) ↑60)))
def crB:Ds->Sr:=(az (aJ [6] 8 (g2 fE (g2 fB (g2 aP (g2 aP (ae 4) (g2 fB (g2 fB ↑104729 (ae 7)) (ae 7))) (g2 fB ↑7919 (ae 7))) ↑48271) ↑2147483647))
 (az (aJ [6] 9 (gF fV #[0,↑0,g2 aP (ae 5) (g2 fE (g2 jq (ae 8) ↑7) (g2 aP (g2 dIx (ae 2) ↑2) ↑1))]))
 (az (sIf (gT (g2 dNe (ae 6) (g9 ah))) (lF 9 (gF fV #[0,9,g2 aP (g2 dIx (ae 6) (g1 lq ↑1)) ↑1])) ba)
 (az (iO [6] 6 (ae 9))
 (az (aJ [6] 5 (g2 aP (ae 5) (g2 dIx (ae 2) ↑0)))
 (az (sIf (gT (g2 dEq (g2 fE (g2 jq (ae 8) ↑61) ↑3) ↑0)) (aJ [6] 5 (g2 aP (ae 5) (g2 fE (g2 jq (ae 8) ↑997) (g2 dIx (ae 2) ↑0)))) ba)
 (aJ [6] 7 (g2 aP (ae 7) ↑1))))))))
section
variable {D1 A:L}{x5 y4:Z}{made:J Z}
def crD(e:Er)(D1 A:L)(y0 x5 y4:Z)(made:J Z)(k:Z)(x8 a:D' L):Ds:=[Y D1,Y A,Y e.d,⇑y0,⇑x5,⇑y4,↥(made.map EE),⇑k,x8,a]
theorem NV(e:Er):dIx e.d (.int 0)=⇑e.every:=rfl
theorem LF(e:Er):dIx e.d (.int 2)=⇑e.late:=rfl
theorem CY{k:Z}{x8 a:D' L}:crC (crD e D1 A y0 x5 y4 made k x8 a)=.ok (decide (y4+e.late<y0)&&decide (made.length<60)):=by
 have hl:decide (((made.map EE).length:Z)<60)=decide (made.length<60):=by rw[P6];exact V8.mpr ⋯
 unfold crC crD;dsimp[rF,fh,bQ,gN,ay,aF,aq,av,cA,Rs.ag,LF,dD,Nj,mP,Rs.ai,bO,hl];cases decide (y4+e.late<y0) <;> simp
theorem Kn(ok:e.Ok)(h:CrI e.every e.late y0 made y4)(C:y4+e.late<y0)(hm:made.length<60)(x8 i:D' L) :
  ∃c b D E,crB (crD e D1 A y0 x5 y4 made (made.length:Z) x8 i)=.nx (crD e D1 A y0 x5 b (made++[c]) ((made++[c]).length:Z) D E)/\CrI e.every e.late y0 (made++[c]) b:=by
 have e1:=ok.e1;have e2:=ok.e2;have l1:=ok.l1;have l2:=ok.l2;have hlo:=h.lo;obtain⟨a,n⟩:=Gh (δ:=mask [6] (crD e D1 A y0 x5 y4 made (made.length:Z) x8 i)) (x5:=x5) (k:=(made.length:Z)) rfl rfl ⋯ ⋯;have F:aJ [6] 8 (g2 fE (g2 fB (g2 aP (g2 aP (ae 4) (g2 fB (g2 fB ↑104729 (ae 7)) (ae 7))) (g2 fB ↑7919 (ae 7))) ↑48271) ↑2147483647) (crD e D1 A y0 x5 y4 made (made.length:Z) x8 i)=.nx (crD e D1 A y0 x5 y4 made (made.length:Z) ⇑a i):=cX (by decide:8<10) n
 -- the first reckoning of the coming
 have G:0<=a / 7 % (e.late+1)/\a / 7 % (e.late+1)<e.late+1:=⟨QM _ ⋯,Rb _ ⋯⟩
 have H:jq (.int a) (.int 7)=⇑(a / 7):=by rw[vt,FC #[1]]
 have B:fE (.int (a / 7)) (.int (e.late+1))=⇑(a / 7 % (e.late+1)):=by rw[tR,FC ⋯]
 generalize a / 7 % (e.late+1)=q at G B;have o:∃c:Z,aJ [6] 9 (gF fV #[0,↑0,g2 aP (ae 5) (g2 fE (g2 jq (ae 8) ↑7) (g2 aP (g2 dIx (ae 2) ↑2) ↑1))]) (crD e D1 A y0 x5 y4 made (made.length:Z) ⇑a i)=.nx (crD e D1 A y0 x5 y4 made (made.length:Z) ⇑a ⇑c)/\0<=c/\y4<=c/\c<=y4+e.late:=by refine⟨if y4+q>0 then y4+q else 0,?_,by split <;> omega,by split <;> omega,by split <;> omega⟩;refine cX (by decide:9<10) ?_;show gF fV _ [Y D1,Y A,Y e.d,⇑y0,⇑x5,⇑y4,S,⇑(made.length:Z),⇑a,i]=_;dsimp[gN,ay,aF,bQ,aq,av,cA,Rs.ag,LF,H,dD,B,Rs.ai,Fb]
 obtain⟨c,o,c0,c1,I⟩:=o
 -- behind the one ahead
 have f:∃c':Z,sIf (gT (g2 dNe (ae 6) (g9 ah))) (lF 9 (gF fV #[0,9,g2 aP (g2 dIx (ae 6) (g1 lq ↑1)) ↑1])) ba (crD e D1 A y0 x5 y4 made (made.length:Z) ⇑a ⇑c)=.nx (crD e D1 A y0 x5 y4 made (made.length:Z) ⇑a ⇑c')/\0<=c'/\y4<=c'/\c'<=y4+e.late:=by
  have p:dNe (.list (made.map EE)) (.list [])=Y (.bool (!decide (made=[]))):=KO made [];unfold crD;rw[dF];dsimp[fh,bQ,aq,av,Ap,aF,Rs.ag,p,Rs.ai,bO,aw];cases hk:made.getLast? with
  |none =>have r:made=[]:=UR.mp hk;rw[r];exact⟨c,rfl,c0,c1,I⟩
  |some l =>
   have r:made≠[]:=λz=>by rw[z]at hk;cases hk
   have hla:=h.la l hk;have s:dIx (.list (made.map EE)) (.int (-1))=⇑l:=by rw[HM,l9,RQ,hk];rfl
   rw[L' r];dsimp[VB,Sn];refine⟨if l+1>c then l+1 else c,?_,by split <;> omega,by split <;> omega,by split <;> omega⟩;refine xu (by decide:9<10) ?_ rfl;dsimp[gN,ay,aF,bQ,iE,aq,av,cA,Ge,Rs.ag,s,dD,Rs.ai,Fb]
 obtain⟨c',f,u,v,w⟩:=f;have Bk:iO [6] 6 (ae 9) (crD e D1 A y0 x5 y4 made (made.length:Z) ⇑a ⇑c')=.nx (crD e D1 A y0 x5 y4 (made++[c']) (made.length:Z) ⇑a ⇑c'):=by show (if (made.map EE).length<1000000 then Sr.nx _ else Sr.no)=_;rw[FC (by rw[P6];omega)];unfold crD;rw[Qm];rfl
 have K:aJ [6] 5 (g2 aP (ae 5) (g2 dIx (ae 2) ↑0)) (crD e D1 A y0 x5 y4 (made++[c']) (made.length:Z) ⇑a ⇑c')=.nx (crD e D1 A y0 x5 (y4+e.every) (made++[c']) (made.length:Z) ⇑a ⇑c'):=cX (by decide:5<10) rfl;have g:∃j,sIf (gT (g2 dEq (g2 fE (g2 jq (ae 8) ↑61) ↑3) ↑0)) (aJ [6] 5 (g2 aP (ae 5) (g2 fE (g2 jq (ae 8) ↑997) (g2 dIx (ae 2) ↑0)))) ba (crD e D1 A y0 x5 (y4+e.every) (made++[c']) (made.length:Z) ⇑a ⇑c')=.nx (crD e D1 A y0 x5 j (made++[c']) (made.length:Z) ⇑a ⇑c')/\y4+e.every<=j:=by
  have x:jq (.int a) (.int 61)=⇑(a / 61):=by rw[vt,FC #[1]]
  have B':fE (.int (a / 61)) (.int 3)=⇑(a / 61 % 3):=by rw[tR,FC #[1]]
  have m:jq (.int a) (.int 997)=⇑(a / 997):=by rw[vt,FC #[1]]
  have M:fE (.int (a / 997)) (.int e.every)=⇑(a / 997 % e.every):=by rw[tR,FC ⋯]
  have hx:0<=a / 997 % e.every:=QM _ ⋯;have hc:gT (g2 dEq (g2 fE (g2 jq (ae 8) ↑61) ↑3) ↑0) (crD e D1 A y0 x5 (y4+e.every) (made++[c']) (made.length:Z) ⇑a ⇑c')=.ok (a / 61 % 3==0):=by unfold crD;dsimp[fh,bQ,aq,av,cA,Rs.ag,x,B',Rs.ai,kU,bO]
  rw[dF,hc,aw];cases (a / 61 % 3==0) with
  |false=>exact⟨_,rfl,QB _⟩
  |true =>rw[FC rfl];refine⟨y4+e.every+a / 997 % e.every,cX (by decide:5<10) ?_,⋯⟩;show g2 aP _ _ [Y D1,Y A,Y e.d,⇑y0,⇑x5,⇑(y4+e.every),S,⇑(made.length:Z),⇑a,⇑c']=_;dsimp[bQ,aq,av,cA,Rs.ag,NV,m,M,dD,Rs.ai]
 obtain⟨j,g,y⟩:=g;have N:aJ [6] 7 (g2 aP (ae 7) ↑1) (crD e D1 A y0 x5 j (made++[c']) (made.length:Z) ⇑a ⇑c')=.nx (crD e D1 A y0 x5 j (made++[c']) ((made++[c']).length:Z) ⇑a ⇑c'):=by
  have hl:((made++[c']).length:Z)=(made.length:Z)+1:=by rw[PU,Qr];omega
  rw[hl];exact cX (by decide:7<10) rfl
 refine⟨c',j,⇑a,⇑c',?_,Jl h C u v w ⋯ l1 y⟩;unfold crB;rw[aQ,F];simp only;rw[aQ,o];simp only;rw[aQ,f];simp only;rw[aQ,Bk];simp only;rw[aQ,K];simp only;rw[aQ,g];simp only;rw[N]
end
theorem sj{c:Ds->Rs R0}{b:Ds->Sr}{I:O->Ds->Prop}{Bk:Ds->Prop}(h:∀k δ,I k δ->(c δ=.ok false/\Bk δ)\/(c δ=.ok true/\∃f,f < k/\∃a,b δ=.nx a/\I f a)):∀(n k:O)(δ:Ds),I k δ->k<n->∃a,b8 c b n δ=.nx a/\Bk a
 |0,_,_,_,hn=>by cases hn
 |n+1,k,δ,i,hn=>by
  unfold b8;rcases h k δ i with⟨e,j⟩|⟨e,f,g,a,e2,i'⟩
  .rw[e,aw,GC Q1];exact⟨δ,rfl,j⟩
  .rw[e,aw,FC rfl,e2];exact sj h n f a i' (Q7 g (O.le_of_lt_succ hn))
section
variable {D1 A:L}{x5 y4:Z}{made:J Z}
theorem IS(ok:e.Ok)(h:CrI e.every e.late y0 made y4)(hl:made.length<=60){n:O}(hn:60<n)(x8 g:D' L) :
  ∃a f i j,b8 crC crB n (crD e D1 A y0 x5 y4 made (made.length:Z) x8 g)=.nx (crD e D1 A y0 x5 f a (a.length:Z) i j)/\CrI e.every e.late y0 a f/\a.length<=60:=by
 obtain⟨δ',e1,a,f,i,j,rfl,h1,h2⟩:=sj (c:=crC) (b:=crB) (I:=λk δ=>∃made y4 x8 g,δ=crD e D1 A y0 x5 y4 made (made.length:Z) x8 g/\CrI e.every e.late y0 made y4/\made.length<=60/\k=60-made.length)
  (Bk:=λδ=>∃a f i j,δ=crD e D1 A y0 x5 f a (a.length:Z) i j/\CrI e.every e.late y0 a f/\a.length<=60) (λk δ l=>by
   obtain⟨made,y4,x8,g,hd,h,hl,hk⟩:=l;subst hd;by_cases z:y4+e.late<y0/\made.length<60
   .right;refine⟨by rw[CY,O' z.1,O' z.2];rfl,?_⟩;obtain⟨c,m,i,j,o,h'⟩:=Kn (D1:=D1) (A:=A) (x5:=x5) ok h z.1 z.2 x8 g;have hl2:(made++[c]).length=made.length+1:=by rw[PU,Qr]
    exact⟨60-(made++[c]).length,⋯,_,o,made++[c],m,i,j,rfl,h',⋯,rfl⟩
   .left;refine⟨?_,made,y4,x8,g,rfl,h,hl⟩;rw[CY];refine congrArg Rs.ok (WD.mpr ?_);rw[Ne,P9,L3,L3];exact z) n (60-made.length) _ ⟨made,y4,x8,g,rfl,h,hl,rfl⟩ ⋯
 exact⟨a,f,i,j,e1,h1,h2⟩
end
def bz(cs:Cs):Gf:=gfG 4 6 (dW cs ak)
theorem pL(cs:Cs):LLq (dW cs ak) 4 6 (bz cs):=iq
theorem uu(ok:e.Ok)(ha:0<=a)(hs:y0<=10000):∃row,bz cs [au ns,.int a,e.d,.int y0]=.ok (c9 row)/\oz row/\hvE e row=true:=by
 have e1:=ok.e1;have e2:=ok.e2;have b:Hu (.int 10) (.int 9)=⇑1000000000:=rfl;have f:=cG (ns:=ns) (k:=a) (y1:=1000000000) ha #[1];have g:fE (.int (mixed ns a 1000000000)) (.int (e.every+2))=⇑(mixed ns a 1000000000 % (e.every+2)):=by rw[tR,FC ⋯]
 have hm0:0<=mixed ns a 1000000000 % (e.every+2):=QM _ ⋯;generalize mixed ns a 1000000000=x5 at *;generalize x5 % (e.every+2)=m0 at *;obtain⟨row,m',y8,y9,i,hc,hl⟩:=IS (e:=e) (D1:=au ns) (A:=.int a) (y0:=y0) (x5:=x5) (made:=[]) (y4:=m0-e.late) ok (FJ ⋯) #[1] (n:=1000000) #[1] S S;refine⟨row,?_,⟨hl,hc.c0,λc h=>by have:=hc.c1 c h;omega⟩,hc.hv⟩;have j:aJ [6] 4 (ao ak #[0,0,1,g2 Hu ↑10 ↑9]) [Y (au ns),⇑a,Y e.d,⇑y0,S,S,S,S,S,S]=.nx [Y (au ns),⇑a,Y e.d,⇑y0,⇑x5,S,S,S,S,S]:=by refine cX (by decide:4<10) ?_;show ao ak _ [Y (au ns),⇑a,Y e.d,⇑y0,S,S,S,S,S,S]=_;dsimp[bp,ay,aF,bQ,aq,av,cA,Rs.ag,b,Rs.ai,f]
 have l:aJ [6] 5 (g2 cK (g2 fE (ae 4) (g2 aP (g2 dIx (ae 2) ↑0) ↑2)) (g2 dIx (ae 2) ↑2)) [Y (au ns),⇑a,Y e.d,⇑y0,⇑x5,S,S,S,S,S]=.nx [Y (au ns),⇑a,Y e.d,⇑y0,⇑x5,⇑(m0-e.late),S,S,S,S]:=by refine cX (by decide:5<10) ?_;show g2 cK _ _ [Y (au ns),⇑a,Y e.d,⇑y0,⇑x5,S,S,S,S,S]=_;dsimp[bQ,aq,av,cA,Rs.ag,NV,LF,dD,g,oF,Rs.ai]
 have m:ff [6] 6 ah [Y (au ns),⇑a,Y e.d,⇑y0,⇑x5,⇑(m0-e.late),S,S,S,S]=.nx [Y (au ns),⇑a,Y e.d,⇑y0,⇑x5,⇑(m0-e.late),↥[],S,S,S]:=rfl;have o:aJ [6] 7 ↑0 [Y (au ns),⇑a,Y e.d,⇑y0,⇑x5,⇑(m0-e.late),↥[],S,S,S]=.nx (crD e (au ns) (.int a) y0 x5 (m0-e.late) [] (([]:J Z).length:Z) S S):=cX (by decide:7<10) rfl;show bc (dW cs ak [Y (au ns),⇑a,Y e.d,⇑y0,S,S,S,S,S,S])=_;have p:dW cs ak=az (aJ [6] 4 (ao ak #[0,0,1,g2 Hu ↑10 ↑9]))
  (az (aJ [6] 5 (g2 cK (g2 fE (ae 4) (g2 aP (g2 dIx (ae 2) ↑0) ↑2)) (g2 dIx (ae 2) ↑2)))
  (az (ff [6] 6 ah) (az (aJ [6] 7 ↑0) (az (λδ=>b8 crC crB 1000000 δ) (bq (ae 6)))))):=rfl
 rw[p];rw[aQ,j];simp only;rw[aQ,l];simp only;rw[aQ,m];simp only;rw[aQ,o];simp only;rw[aQ,i];rfl
def cz(cs:Cs):Gf:=gfG 4 0 (fJ cs (bz cs))
theorem uK(cs:Cs):LLq (fJ cs (bz cs)) 4 0 (cz cs):=iq
theorem FU:∀{es:J Er}{z5:J (J Z)},z5.length=es.length->(∀(i:O)(h:i<es.length)(h':i<z5.length),oz z5[i]/\hvE es[i] z5[i]=true)->Cms es z5
 |[],[],_,_=>.nil
 |[],_::_,h,_=>by cases h
 |_::_,[],h,_=>by cases h
 |e::es,r::z5,h,k=>by have k0:=k 0 (Y5 _) (Y5 _);refine .cons k0.1 k0.2 (FU (by simpa using h) λi h1 h2=>?_);exact k (i+1) (X0 h1) (X0 h2)
theorem Mv(l6:es.length<=6){a x1:D' L}{r:Ds}:fK #[0,gF cp #[0,2]] (a::x1::Y (ar es)::r)=.ok (bV 0 es.length):=by
 have b:=kC (j:=(es.length:Z)) ⋯ ⋯;rw[Qp]at b;have hv:(af (gF cp #[0,2]) ah) (a::x1::Y (ar es)::r)=.ok [.int (es.length:Z)]:=by dsimp[ay,aF,gN,aq,av,Rs.ag,MQ,Rs.ai]
 rw[nF,hv,Rs.ag,b]
theorem Br(h:BB es)(ha:0<=a)(g:y0<=10000):∃z5,cz cs [au ns,.int a,ar es,.int y0]=.ok (cmD z5)/\Cms es z5:=by
 have j:∀i:O,∃row,i<es.length->bz cs [au ns,.int (a+(i:Z)),(aK es (i:Z)).d,.int y0]=.ok (c9 row)/\oz row/\hvE (aK es (i:Z)) row=true:=λi=>by
  by_cases z:i<es.length
  .obtain⟨row,h1⟩:=uu (cs:=cs) (h.ok _ (bK (n:=(i:Z)) ⋯ ⋯)) (ns:=ns) (a:=a+(i:Z)) (y0:=y0) ⋯ g;exact⟨row,λ_=>h1⟩
  .exact⟨[],λy=>(z y).elim⟩
 obtain⟨F,c⟩:=Classical.axiomOfChoice j;have l6:=h.l6;refine⟨(LN es.length).map F,?_,FU #[2] λi h1 h2=>?_⟩
 .have m:a9 4 (fK #[0,gF cp #[0,2]]) bF (ao (bz cs) #[0,0,g2 aP (ae 1) (ae 4),g2 dIx (ae 2) (ae 4),3]) aL [Y (au ns),⇑a,Y (ar es),⇑y0]=.ok ((bV 0 es.length).map λd=>c9 (F (deI d).toNat)):=by
   refine dR rfl ?_ (by rw[eE];omega) λd hd=>?_
   .exact Mv l6
   .obtain⟨k,f,rfl⟩:=PQ.mp hd;have b:=Ra.mp f;have hn:(0:Z)+(k:Z)=(k:Z):=⋯
    have hd2:(deI (.int (k:Z))).toNat=k:=Qp k;have a2:dIx (ar es) (.int (k:Z))=Y (aK es (k:Z)).d:=eX ⋯ ⋯;rw[hn,hd2];dsimp[Qx,Qs,bp,ay,aF,bQ,aq,av,Rs.ag,dD,a2,Rs.ai,(c k b).1]
  show bc (fJ cs (bz cs) [Y (au ns),⇑a,Y (ar es),⇑y0])=_;unfold fJ;dsimp[bW,mX,m,Rs.ag,aw,a8];unfold cmD bV;rw[Q8,Q8];refine congrArg (λl=>Rs.ok (Uk l)) (Q3 λk f=>?_);show c9 (F (deI (.int (0+(k:Z)))).toNat)=c9 (F k);rw[show (0:Z)+(k:Z)=(k:Z) by omega,show (deI (.int (k:Z))).toNat=k from Qp k]
 .have e:=oS (es:=es) (n:=(i:Z)) ⋯ ⋯;rw[Qp,My h1]at e;have o:es[i]=aK es (i:Z):=P' e;have:=(c i h1).2;rw[J.getElem_map,J.getElem_range,o];exact this
theorem rX{xs:J α}{k:O}{v:α}(h:xs[k]?=Y v):atI xs (k:Z)=Y v:=wd (RL k) (by rw[Qp];exact h)
structure Sx(js:J Jb):Prop where
 num:∀(i:O)(h:i<js.length),js[i].num=(i:Z)
 row:∀j∈js,j.row.length<=1000
 wk:∀j∈js,j.work<=1000
section
variable {D1 E R D:L}
theorem c8{f:L->L->D' L}{a b:Ds->Rs L}{x y z:L}(ha:a δ=.ok x)(c:b δ=.ok y)(e:f x y=Y z):g2 f a b δ=.ok z:=by rw[bQ,ha,Rs.ag,c,Rs.ag,e];rfl
end
def sA(k:O)(l:J L):J PyData:=l.mapIdx λi d=>.tuple [.int ((k+i:O):Z),d]
theorem en{body:Ds->Sr}{d:L}{r:J L}{δ1 a:Ds}(h1:tgt d δ=Y δ1)(h2:body δ1=.nx a):forL tgt body (d::r) δ=forL tgt body r a:=by rw[forL,h1];dsimp[h2]
theorem tU(k:O)(d:L)(r:J L):sA k (d::r)=.tuple [.int (k:Z),d]::sA (k+1) r:=by
 unfold sA;rw[RW];have a:(λ(i:O)(d:L)=>Ta [.int ((k+(i+1):O):Z),d])=λi d=>.tuple [.int ((k+1+i:O):Z),d]:=by funext i d;rw[show k+(i+1)=k+1+i by omega]
 rw[a];rfl
theorem yN{ks:J Jb}(h:ks.map ip=js.map ip):ks.length=js.length:=by
 have:=congrArg U6 h
 rwa[P6,P6]at this
theorem CU{ks:J Jb}(h:ks.map ip=js.map ip)(s:Sx js):Sx ks:=by
 have hl:=yN h;have hm:∀k∈ks,∃j∈js,ip j=ip k:=λk a=>by have:ip k∈ks.map ip:=PQ.mpr ⟨k,a,rfl⟩;rw[h]at this;exact PQ.mp this
 refine⟨λi hi=>?_,λk a=>?_,λk a=>?_⟩
 .have e:(ks.map ip)[i]?=(js.map ip)[i]?:=by rw[h]
  rw[Q5,Q5,My hi,My (hl▸hi)]at e;have e2:ip ks[i]=ip (js[i]'(hl▸hi)):=P' e;have:=congrArg (·.1) e2;exact this.trans (s.num i (hl▸hi))
 .obtain⟨j,b,e⟩:=hm k a;have e2:j.row=k.row:=congrArg (·.2.2) e;rw[<-e2];exact s.row j b
 .obtain⟨j,b,e⟩:=hm k a;have e2:j.parts=k.parts:=congrArg (·.2.1) e;have:=s.wk j b;unfold Jb.work at this ⊢;rw[<-e2];exact this
theorem xg{lt:O->O->R0}(a:∀i,lt i i=false)(b:∀i j k,lt i j=true->lt j k=true->lt i k=true):∀(n i:O),i<=n->lt i (bst lt n)=false
 |0,i,h=>by
  have:i=0:=⋯
  rw[this];exact a 0
 |n+1,i,h=>by
  unfold bst;cases q:lt (n+1) (bst lt n) with
  |true =>
   rw[FC rfl];by_cases z:i=n+1
   .rw[z];exact a _
   .have c:=xg a b n i ⋯;cases y:lt i (n+1) with
    |false=>rfl
    |true=>rw[b _ _ _ y q]at c;cases c
  |false =>
   rw[GC Q1];by_cases z:i=n+1
   .rw[z];exact q
   .exact xg a b n i ⋯
theorem MF(d:L):ltD d d=false:=by
 have h:∀l:J Z,HT.lexLt l l=false:=λl=>by
  induction l with
  |nil=>rfl
  |cons a r ih=>show (if a=a then HT.lexLt r r else _)=false;rw[FC rfl,ih]
 unfold ltD;split
 .rename_i e1 e2;rw[e1]at e2;cases e2;exact h _
 .rfl
theorem HK:∀a b c:J Z,HT.lexLt a b=true->HT.lexLt b c=true->HT.lexLt a c=true
 |[],[],_,h,_=>by cases h
 |[],_::_,[],_,h=>by cases h
 |[],_::_,_::_,_,_=>rfl
 |_::_,[],_,h,_=>by cases h
 |_::_,_::_,[],_,h=>by cases h
 |x::a,y::b,z::c,h1,h2=>by
  have h1:(if x=y then HT.lexLt a b else decide (x<y))=true:=h1;have h2:(if y=z then HT.lexLt b c else decide (y<z))=true:=h2;show (if x=z then HT.lexLt a c else decide (x<z))=true;by_cases e1:x=y
  .rw[FC e1]at h1;by_cases e2:y=z
   .rw[FC e2]at h2;rw[FC (e1.trans e2)];exact HK a b c h1 h2
   .rw[GC e2]at h2;rw[GC (λq=>e2 (e1.symm.trans q)),e1];exact h2
  .rw[GC e1]at h1;have l1:=Sw h1;by_cases e2:y=z
   .rw[GC (λq=>e1 (q.trans e2.symm)),<-e2];exact h1
   .rw[GC e2]at h2;have l2:=Sw h2;rw[GC ⋯];exact O' ⋯
theorem LI(a b c:L)(h1:ltD a b=true)(h2:ltD b c=true):ltD a c=true:=by
 unfold ltD at h1 h2 ⊢;cases ka:mV a with
 |none=>rw[ka]at h1;cases h1
 |some p =>
  cases kb:mV b with
  |none=>rw[ka,kb]at h1;cases h1
  |some q =>
   cases kc:mV c with
   |none=>rw[kb,kc]at h2;cases h2
   |some r =>rw[ka,kb]at h1;rw[kb,kc]at h2;exact HK _ _ _ h1 h2
theorem vJ{key:Jb->L}(c:js≠[])(e:j∈js):ltD (key j) (key (jN key js))=false:=by
 have hl:0<js.length:=R5.mpr c;have hm:=xg (lt:=λi j=>ltD ((js.map key).getD i .none) ((js.map key).getD j .none)) (λi=>MF _) (λi j k=>LI _ _ _) (js.length-1);have hb:=wA (λi j=>ltD ((js.map key).getD i .none) ((js.map key).getD j .none)) (js.length-1);obtain⟨i,hi,rfl⟩:=RD e;have h1:=hm i ⋯;have b:lO (js.map key)=bst (λi j=>ltD ((js.map key).getD i .none) ((js.map key).getD j .none)) (js.length-1):=by unfold lO;rw[P6]
 have a:lO (js.map key)<js.length:=by rw[b];omega
 have e1:(js.map key).getD i .none=key js[i]:=by rw[Q2,Q5,My hi];rfl
 have e2:(js.map key).getD (lO (js.map key)) .none=key (jN key js):=by unfold jN;rw[Q2,Q5,My a,Q2,My a];rfl
 rw[<-b]at h1;rw[e1,e2]at h1;exact h1
theorem KR(a b c d:Z):ltD (.tuple [.int a,.int b]) (.tuple [.int c,.int d])=if a=c then (if b=d then false else decide (b<d)) else decide (a<c):=rfl
theorem Fj(h:js≠[]):js.filter (fU js)≠[]:=by
 have hn:=sM (ts:=js.map λj=>((0:HL),j)) (by simpa using h);have hm:(js.map λj=>((0:HL),j)).map (·.2)=js:=by rw[Q8];exact QJ js
 rw[hm]at hn;obtain⟨p,r,e⟩:=Rz hn;have a:p∈(js.map λj=>((0:HL),j)).filter (λp=>fU js p.2):=by rw[e];exact P7
 obtain⟨h1,h2⟩:=Qg.mp a;obtain⟨j,b,rfl⟩:=PQ.mp h1;exact Rq (Qg.mpr ⟨b,h2⟩)
theorem DY(h:j.held=Y T):oM z6 j=.tuple [.int (if mj z6 T<j.rank then mj z6 T else j.rank),.int 0]:=by unfold oM;rw[h]
theorem EG(h:j.held=S):oM z6 j=.tuple [.int j.rank,.int 1]:=by unfold oM;rw[h]
theorem Dg{len:M'}{ts:J Jb}(g:ts≠[])(c:(cB z6 len ts).spent=0)(e:(cB z6 len ts).tool=Y T)(a:mj z6 T<=(cB z6 len ts).rank):∀j∈ts,j.held≠Y T:=by
 intro j h i;unfold cB at c e a;split at c
 .rename_i z;rw[FC z]at e a;have hm:=vJ (key:=oM z6) g h;have l:(jN (oM z6) ts).held=none:=by unfold Jb.held;rw[FC c]
  rw[DY i,EG l,KR]at hm;generalize (jN (oM z6) ts).rank=r at *;generalize mj z6 T=u at *;by_cases q:(if u<j.rank then u else j.rank)=r
  .rw[FC q]at hm;revert hm;decide
  .rw[GC q]at hm;have:=Tr hm;split at this <;> split at q <;> omega
 .rename_i z;rw[GC z]at e;have f:=(Qg.mp (oW (key:=Eo (if (len==("asked":M'))=true then jc ts else [])) (Fj g))).2;generalize jN (Eo (if (len==("asked":M'))=true then jc ts else [])) (ts.filter (fU ts))=b at *;have hw:b.wanted=Y T:=by unfold Jb.wanted;rw[FC c,e]
  unfold fU jB at f;rw[hw]at f;have hn:ts.find? (λk=>k.held==Y T)=none:=D'.isNone_iff_eq_none.mp f;have:=Rh.mp hn j h;rw[i]at this;exact this (T6 _)
theorem qD{t:Z}(e:IvJ z6 t js)(f:j∈js)(hs:j.spent≠0):j.there t=true:=by
 cases ht:j.there t with
 |true=>rfl
 |false =>
  have h:=e.ok.ok j f;have hl:=e.low j f;have hc:fD j.row t<=j.job:=by
   by_cases z:j.job<j.row.length
   .unfold Jb.there at ht;rw[My z]at ht;have:=Tr ht;exact rf z (e.srt j f) ⋯
   .have:=xU j.row t;omega
  obtain⟨c0,c1⟩:=nY h;have:=Qo (a:=(fD j.row t:Z)) (b:=(j.job:Z)) (c:=j.work) ⋯ ⋯;have h2:=nB (ps:=j.parts.take j.part) λq g=>h.ln q (QP g)
  unfold gJ Jb.tot Jb.cur at hl;omega
theorem vB(h:JOk z6 j)(e:j.next.held=Y T):j.tool=Y T:=by
 unfold Jb.next Jb.step1 at e;by_cases z:(j.spent:Z)+1=j.len
 .rw[FC z]at e;unfold Jb.step2 at e;split at e
  .unfold Jb.held at e;rw[FC rfl]at e;cases e
  .unfold Jb.held at e;rw[FC rfl]at e;cases e
 .rw[GC z]at e;unfold Jb.step2 at e;rw[GC (show ¬ ({j with spent:=j.spent+1}:Jb).part=({j with spent:=j.spent+1}:Jb).parts.length from Q4 h.pt)]at e;unfold Jb.held at e;rw[GC (show ¬ ({j with spent:=j.spent+1}:Jb).spent=0 from O.succ_ne_zero _)]at e;exact e
theorem lY(h:j.held=Y T):j.tool=Y T/\j.spent≠0:=by
 unfold Jb.held at h;by_cases z:j.spent=0
 .rw[FC z]at h;cases h
 .rw[GC z]at h;exact⟨h,z⟩
theorem oY(j:Jb):j.next.rank=j.rank:=by unfold Jb.next Jb.step1 Jb.step2;split <;> split <;> rfl
structure HvJ(z6:L)(js:J Jb):Prop where
 one:∀i∈js,∀j∈js,∀T,i.held=Y T->j.held=Y T->i.num=j.num
 top:∀j∈js,∀p∈j.parts,∀T,p.2=Y T->mj z6 T<=j.rank
theorem qg{b k:Jb}(a:k∈fi b js):(k∈js/\k.num≠b.num)\/k=b.next:=by
 obtain⟨j,c,rfl⟩:=PQ.mp a;by_cases z:j.num=b.num
 .right;exact FC z
 .left;rw[GC z];exact⟨c,z⟩
theorem oZ(h:JOk z6 j)(b:j.tool=Y T):∃p∈j.parts,p.2=Y T:=by have a:=h.pt;unfold Jb.tool at b;rw[My a]at b;exact⟨_,Qk a,b⟩
theorem Dj{len:M'}{told:J L}(f:IvJ z6 (told.length:Z) js)(hv:HvJ z6 js)(z:cC told js≠[])(a:(cB z6 len (cC told js)).tool=Y T):∀j∈js,j.held=Y T->j.num=(cB z6 len (cC told js)).num:=by
 obtain⟨hm,hth⟩:=Qg.mp (hV (z6:=z6) (len:=len) z);intro j b c;obtain⟨h1,h2⟩:=lY c;by_cases y:(cB z6 len (cC told js)).spent=0
 .obtain⟨p,g,e⟩:=oZ (f.ok.ok _ hm) a;exact (Dg z y a (hv.top _ hm p g T e) j (Qg.mpr ⟨b,qD f b h2⟩) c).elim
 .exact hv.one j b _ hm T c (by unfold Jb.held;rw[GC y];exact a)
theorem K0{len:M'}{told:J L}(f:IvJ z6 (told.length:Z) js)(hv:HvJ z6 js):HvJ z6 (dE z6 len (js,told)).1:=by
 by_cases z:cC told js=[]
 .rw[md z];exact hv
 .have e:dE z6 len (js,told)=(fi (cB z6 len (cC told js)) js,told++[i4 (cB z6 len (cC told js))]):=by unfold dE;exact GC z
  have hm:cB z6 len (cC told js)∈js:=(Qg.mp (hV (z6:=z6) (len:=len) z)).1;have a:=λT l=>Dj (len:=len) (T:=T) f hv z l
  rw[e];generalize cB z6 len (cC told js)=b at *;refine⟨λi hi j c T h1 h2=>?_,λj c p g T e=>?_⟩
  .rcases qg hi with⟨hi,m⟩|rfl
   .rcases qg c with⟨c,h⟩|rfl
    .exact hv.one i hi j c T h1 h2
    .exact (m (a T (vB (f.ok.ok b hm) h2) i hi h1)).elim
   .rcases qg c with⟨c,h⟩|rfl
    .exact (h (a T (vB (f.ok.ok b hm) h1) j c h2)).elim
    .rfl
  .rcases oO hm c with c|rfl
   .exact hv.top j c p g T e
   .rw[kr]at g;rw[oY];exact hv.top b hm p g T e
section
end
theorem c7{f:Gf}{a:Ds->Rs (J L)}{d:L}(ha:a δ=.ok ds)(b:f ds=.ok d):ao f a δ=.ok d:=by rw[bp,ha,Rs.ag,b]
theorem cq{a b:Ds->Sr}{c:Ds}(h:a δ=.nx c):az a b δ=b c:=by rw[aQ,h]
theorem nk{body:Ds->Sr}(h:src (mask D2 δ)=.ok ds):cY D2 src tgt body δ=forL tgt body ds δ:=by rw[iB,h,aw]
theorem AX{g:Ds->Rs (J L)}(hi:i<δ.length)(a:g (mask D2 δ)=.ok ds):ff D2 i g δ=.nx (δ.set i ↥ds):=by unfold ff;rw[FC hi,a,aw]
theorem Cms.sorted(h:Cms es z5)(ok:∀e∈es,e.Ok):∀r∈z5,r.Pairwise (· < ·):=by
 induction h with
 |nil=>intro r a;cases a
 |cons a hv _ ih =>
  intro b h';rcases P8.mp h' with rfl|h'
  .have o:=ok _ P7;exact (vO o.l3 o.l1 _ _ hv).2
  .exact ih (λe c=>ok e (P4 _ c)) b h'
section
variable {len:M'}
theorem Fg(h:i<(startJ es rs z5).length):∃row,(startJ es rs z5)[i]=mkJ es rs i row:=by
 have e:=l5 (es:=es) (rs:=rs) (z5:=z5) i;rw[My h]at e;cases q:z5[i]? with
 |none=>rw[q]at e;cases e
 |some row=>rw[q]at e;exact⟨row,P' e⟩
theorem Ih(R:Ran es rs z5 len)(C:Cms es z5):IvJ (ax es rs) ((([]:J L).length:O):Z) (startJ es rs z5):=by
 refine⟨oq R.eok R.rok R.ln,λj a=>?_,λj a=>?_⟩
 .obtain⟨k,row,_,hm,_,rfl⟩:=eQ a;exact C.sorted R.eok.ok row hm
 .have hw:=nY ((oq R.eok R.rok R.ln).ok j a);obtain⟨k,row,_,hm,_,rfl⟩:=eQ a;unfold gJ;rw[pE];have:=S6 (RL (fD (mkJ es rs k row).row ((([]:J L).length:O):Z))) (show 0<=(mkJ es rs k row).work by omega);omega
theorem Hi(R:Ran es rs z5 len)(C:Cms es z5):Sx (startJ es rs z5):=by
 refine⟨λi hi=>?_,λj a=>?_,λj a=>?_⟩
 .obtain⟨row,e⟩:=Fg hi;rw[e];rfl
 .obtain⟨k,row,_,hm,_,rfl⟩:=eQ a;have:=(C.qH row hm).few;show row.length<=1000;omega
 .obtain⟨k,row,hk,hm,_,rfl⟩:=eQ a;have ok:=R.eok.ok _ (bK (n:=(k:Z)) ⋯ (by have:=R.ln;omega));have h1:=xF λp b=>(ok.pl p b).2.1
  have h2:=ok.p2;show dG (aK es (k:Z)).parts<=1000;omega
end
structure Er.Wk(e:Er):Prop where
 sh:e.Sh
 e2:e.every<=60
 l1:0<=e.late
 p2:e.parts.length<=4
 pl:∀p∈e.parts,1<=p.1/\p.1<=1000000
 p1:e.parts≠[]
theorem Er.Ok.wk(h:e.Ok):e.Wk:=⟨h.sh,h.e2,h.l1,h.p2,λp a=>by have:=h.pl p a;exact⟨this.1,⋯⟩,h.p1⟩
theorem Er.Wk.work1(h:e.Wk):1<=e.work:=by obtain⟨p,a⟩:=J.exists_mem_of_ne_nil _ h.p1;have h1:=h.sh.part_le a;have h2:=(h.pl p a).1;omega
def wkB(e:Er):Bool:=decide (e.every<=60)&&decide (0<=e.late)&&decide (e.parts.length<=4)&&e.parts.all (λp=>decide (1<=p.1))&&decide (e.parts≠[])
theorem L5(h:e.Wk):wkB e=true:=by unfold wkB;dsimp[P9,L3,Q6];exact⟨⟨⟨⟨h.e2,h.l1⟩,h.p2⟩,λp a=>(h.pl p a).1⟩,h.p1⟩
theorem MC(h:wkB e=true)(g:e.Sh):e.Wk:=by unfold wkB at h;dsimp[P9,L3,Q6]at h;obtain⟨⟨⟨⟨a,b⟩,c⟩,d⟩,f⟩:=h;exact⟨g,a,b,c,λp i=>⟨d p i,(g.pl p i).2.1⟩,f⟩
def xM(d:L):Bool:=my d&&decide (1<=(cu d).length)&&decide ((cu d).length<=6)&&(cu d).all wkB
theorem EZ(h1:1<=es.length)(h2:es.length<=6)(h:∀e∈es,e.Wk):xM (ar es)=true:=by unfold xM;rw[jS ⋯ λe a=>(h e a).sh,fk];dsimp[P9,L3,Q6];exact⟨⟨⟨trivial,h1⟩,h2⟩,λe a=>L5 (h e a)⟩
theorem Md{d:L}(h:xM d=true):ar (cu d)=d/\1<=(cu d).length/\(cu d).length<=6/\∀e∈cu d,e.Wk:=by unfold xM at h;dsimp[P9,L3,Q6]at h;obtain⟨⟨⟨a,b⟩,c⟩,f⟩:=h;obtain⟨e1,_,i⟩:=pM a;exact⟨e1,b,c,λe g=>MC (f e g) (i e g)⟩
def okW(d r:L)(n:Z):Bool:=xM d&&dj (cu d).length r&&decide (0<=n)&&decide (n<(cu d).length)
theorem pF(h1:1<=es.length)(h2:es.length<=6)(h:∀e∈es,e.Wk)(a:bJ es.length rs)(n0:0<=n)(n1:n<es.length):okW (ar es) (aj rs) n=true:=by unfold okW;rw[EZ h1 h2 h,fk,fw a];dsimp[P9,L3];exact⟨⟨⟨trivial,trivial⟩,n0⟩,n1⟩
theorem iW{d r:L}(h:okW d r n=true):∃es rs,d=ar es/\r=aj rs/\cu d=es/\b9 r=rs/\1<=es.length/\es.length<=6/\(∀e∈es,e.Wk)/\bJ es.length rs/\0<=n/\n<es.length:=by unfold okW at h;dsimp[P9,L3]at h;obtain⟨⟨⟨c1,a⟩,n0⟩,n1⟩:=h;obtain⟨e1,l1,l6,hok⟩:=Md c1;obtain⟨e2,b⟩:=jm a;exact⟨cu d,b9 r,e1.symm,e2.symm,rfl,rfl,l1,l6,hok,b,n0,n1⟩
theorem G0{ev la:Z}(b:0<ev){t:Z}:∀{row:J Z}{m:Z},hvM ev la m row=true->fD row t=0\/((fD row t:Z)-1)*ev<=t-m
 |[],m,_=>.inl rfl
 |c::r,m,h=>by
  unfold hvM at h;have hm:m<=(if c-la>m then c-la else m):=by split <;> omega
  generalize (if c-la>m then c-la else m)=mo at h hm;split at h
  .cases h
  .rename_i hc;rw[eR];have a:=G0 b (t:=t) h;by_cases hct:c<=t
   .rw[FC hct];right;rcases a with a|a
    .rw[a];show (1-1)*ev<=t-m;rw[show (1:Z)-1=0 from rfl,Z.zero_mul];omega
    .rw[show ((1+fD r t:O):Z)-1=(fD r t:Z)-1+1 by omega,RA,X8];omega
   .rw[GC hct,QG];rcases a with a|a
    .exact .inl a
    .right;omega
theorem Hz{ev la:Z}(f:0<ev)(hl:0<=la){u t:Z}(g:u<t):∀{row:J Z}{m:Z},hvM ev la m row=true->row.Pairwise (· < ·)->(fD row t:Z)-fD row u<=(t-u-1+la) / ev+1
 |[],m,_,_=>by have:=RH (a:=t-u-1+la) (b:=ev) ⋯ ⋯;show ((0:O):Z)-((0:O):Z)<=_;omega
 |c::r,m,h,hs=>by
  obtain⟨e,i⟩:=Rt.mp hs;unfold hvM at h;have hm:c-la<=(if c-la>m then c-la else m):=by split <;> omega
  generalize (if c-la>m then c-la else m)=mo at h hm;split at h
  .cases h
  .rename_i hc;rw[eR,eR];by_cases hcu:c<=u
   .rw[FC hcu,FC ⋯];have ih:=Hz f hl g h i;omega
   .rw[GC hcu];have z:fD r u=0:=jT λx j=>by have:=e x j;omega
    rw[z];have nn:=RH (a:=t-u-1+la) (b:=ev) ⋯ ⋯;by_cases hct:c<=t
    .rw[FC hct];rcases G0 f (t:=t) h with q|q
     .rw[q];omega
     .have:(fD r t:Z)<=(t-u-1+la) / ev:=by refine Z.le_ediv_of_mul_le f ?_;rw[Yi,X8]at q;omega
      omega
    .rw[GC hct];have z2:fD r t=0:=jT λx j=>by have:=e x j;omega
     rw[z2];omega
def stJ(z6:L)(len:M')(js:J Jb):O->J Jb×J L
 |0=>(js,[])
 |i+1=>dE z6 len (stJ z6 len js i)
section
variable {len:M'}
theorem gB:∀i,(stJ z6 len js i).2.length=i
 |0=>rfl
 |i+1=>by show (dE z6 len _).2.length=_;rw[zP,gB i]
theorem sR{b:Jb}:∀{js:J Jb},(js.map (·.num)).Nodup->b∈js->(fi b js).map (·.rank)=js.map (·.rank)
 |[],_,a=>(nomatch a)
 |j::r,nd,a=>by
  rcases pN nd a with⟨f,e⟩|⟨_,c,e⟩
  .rw[e,P0,P0,f,oY]
  .rw[P0,Qq]at nd;rw[e,P0,P0,sR nd.2 c]
theorem qe(a:IvJ z6 0 js)(hv:HvJ z6 js):∀i:O,IvJ z6 (i:Z) (stJ z6 len js i).1/\HvJ z6 (stJ z6 len js i).1/\(stJ z6 len js i).1.map ip=js.map ip/\(stJ z6 len js i).1.map (·.rank)=js.map (·.rank)
 |0=>⟨a,hv,rfl,rfl⟩
 |i+1=>by
  obtain⟨h1,h2,h3,g⟩:=qe a hv i;have hl:=gB (z6:=z6) (len:=len) (js:=js) i;have h1:IvJ z6 ((stJ z6 len js i).2.length:Z) (stJ z6 len js i).1:=by rw[hl];exact h1
  have q:=Kf (len:=len) h1;have c:=K0 (len:=len) h1 h2;have e:dE z6 len ((stJ z6 len js i).1,(stJ z6 len js i).2)=stJ z6 len js (i+1):=rfl;rw[e]at q c;rw[gB]at q;refine⟨q,c,?_,?_⟩
  all_goals
   rw[<-e];by_cases z:cC (stJ z6 len js i).2 (stJ z6 len js i).1=[]
   .rw[md z];assumption
   .obtain⟨b,f,_,e2⟩:=pz (z6:=z6) (len:=len) z;rw[e2]
    first|exact (vU h1.ok.nd f).trans h3|exact (sR h1.ok.nd f).trans g
end
structure Trc(z6:L)(n:O)(q:O->O->Jb)(ve:O->D' O):Prop where
 lt:∀{i m:O},ve i=Y m->m<n
 on:∀{i m},ve i=Y m->q m (i+1)=(q m i).next
 off:∀{i m},m<n->ve i≠Y m->q m (i+1)=q m i
 ok:∀{m} i,m<n->JOk z6 (q m i)
 thr:∀{i m:O},ve i=Y m->(q m i).there (i:Z)=true
 idl:∀{i m:O},ve i=S->m<n->(q m i).there (i:Z)=false
 srt:∀{m} i,m<n->(q m i).row.Pairwise (· < ·)
 low:∀{m:O}(i:O),m<n->0<=gJ (i:Z) (q m i)
 spt:∀{m:O}(i:O),m<n->(q m i).spent≠0->(q m i).there (i:Z)=true
 tp:∀{m:O}(i:O){T:Z},m<n->(q m i).held=Y T->mj z6 T<=(q m i).rank
 num:∀{m:O}(i:O),m<n->(q m i).num=(m:Z)
section
variable {n:O}{q:O->O->Jb}
theorem Trc.stay(R:Trc z6 n q ve)(hm:m<n):∀i,(q m i).parts=(q m 0).parts/\(q m i).row=(q m 0).row/\(q m i).rank=(q m 0).rank
 |0=>⟨rfl,rfl,rfl⟩
 |i+1=>by
  have h:=R.stay hm i;by_cases w:ve i=Y m
  .rw[R.on w,kr,j8,oY];exact h
  .rw[R.off hm w];exact h
theorem Trc.tot1(R:Trc z6 n q ve)(hm:m<n):(q m (i+1)).tot=(q m i).tot+(if ve i=Y m then 1 else 0):=by
 by_cases w:ve i=Y m
 .rw[R.on w,FC w,rq (R.ok i hm)]
 .rw[R.off hm w,GC w];omega
theorem Trc.mono(R:Trc z6 n q ve)(hm:m<n){j:O}(h:i<=j):(q m i).tot<=(q m j).tot:=by
 induction h with
 |refl=>exact QB _
 |step _ ih=>rw[R.tot1 hm];split <;> omega
theorem Trc.wk(R:Trc z6 n q ve)(hm:m<n)(i:O):(q m i).work=(q m 0).work:=by unfold Jb.work;rw[(R.stay hm i).1]
theorem Trc.wpos(R:Trc z6 n q ve)(hm:m<n)(i:O):0<(q m i).work:=by have:=nY (R.ok i hm);omega
theorem Trc.job_tot(R:Trc z6 n q ve)(hm:m<n)(i:O):((q m i).job:Z)=(q m i).tot / (q m 0).work:=by rw[<-R.wk hm i];exact (JY (R.ok i hm)).symm
theorem Trc.come(R:Trc z6 n q ve)(hm:m<n)(i:O):(q m (i+1)).tot<=(fD (q m 0).row (i:Z):Z)*(q m 0).work:=by
 have h:=R.low i hm;unfold gJ at h;rw[R.wk hm,(R.stay hm i).2.1]at h;rw[R.tot1 hm];split
 .rename_i w;have:=rQ (R.ok i hm) (R.srt i hm) (R.thr w);unfold gJ at this;rw[R.wk hm,(R.stay hm i).2.1]at this;omega
 .omega
def Trc.Clr(q:O->O->Jb)(m i:O):Prop:=(q m i).tot=(fD (q m 0).row ((i:Z)-1):Z)*(q m 0).work
theorem Trc.not_clr(R:Trc z6 n q ve)(hm:m<n)(h:¬ Trc.Clr q m (i+1)):(q m i).there (i:Z)=true/\(q m (i+1)).tot<(fD (q m 0).row (i:Z):Z)*(q m 0).work:=by
 have h1:=R.come hm i;unfold Trc.Clr at h;rw[show ((i+1:O):Z)-1=(i:Z) by omega]at h;refine⟨?_,⋯⟩;by_cases t:(q m i).there (i:Z)=true
 .exact t
 .have t:(q m i).there (i:Z)=false:=by simpa using t
  have w:ve i≠Y m:=λw=>by rw[R.thr w]at t;cases t
  have:=zy (R.ok i hm) (R.srt i hm) (R.low i hm) t;unfold gJ at this;rw[R.wk hm,(R.stay hm i).2.1]at this;rw[R.tot1 hm,GC w]at h h1;omega
theorem Trc.left(R:Trc z6 n q ve)(hm:m<n)(h:(q m i).tot<(fD (q m 0).row (i:Z):Z)*(q m 0).work):(q m i).there (i:Z)=true:=by
 by_cases t:(q m i).there (i:Z)=true
 .exact t
 .have t:(q m i).there (i:Z)=false:=by simpa using t
  have:=zy (R.ok i hm) (R.srt i hm) (R.low i hm) t;unfold gJ at this;rw[R.wk hm,(R.stay hm i).2.1]at this;omega
end
def qJ(z6:L)(len:M')(js:J Jb)(m i:O):Jb:=(stJ z6 len js i).1.getD m default
def thA(z6:L)(len:M')(js:J Jb)(i:O):J Jb:=cC (stJ z6 len js i).2 (stJ z6 len js i).1
open Classical in
def tZ(z6:L)(len:M')(js:J Jb)(i:O):D' Nat:=if thA z6 len js i=[] then S else Y (cB z6 len (thA z6 len js i)).num.toNat
section
variable {len:M'}
theorem i8(h:m<(stJ z6 len js i).1.length):qJ z6 len js m i=(stJ z6 len js i).1[m]:=by unfold qJ;rw[Q2,My h];rfl
theorem pk(a:IvJ z6 0 js)(hv:HvJ z6 js)(i:O):(stJ z6 len js i).1.length=js.length:=yN (qe a hv i).2.2.1
theorem qb(h:j∈thA z6 len js i):j∈(stJ z6 len js i).1/\j.there (i:Z)=true:=by have:=Qg.mp h;rw[gB]at this;exact this
theorem kf(b:IvJ z6 0 js)(hv:HvJ z6 js)(c:Sx js)(h:tZ z6 len js i=Y m):m<js.length/\thA z6 len js i≠[]/\qJ z6 len js m i=cB z6 len (thA z6 len js i):=by
 unfold tZ at h;split at h
 .cases h
 .rename_i z;have hm:=(qb (hV (z6:=z6) (len:=len) z)).1;obtain⟨k,a,e⟩:=RD hm;have hn:=(CU (qe b hv i).2.2.1 c).num k a;rw[e]at hn;have:m=k:=by injection h with h;omega
  subst this;exact⟨by rw[<-pk b hv i];exact a,z,by rw[i8 a,e]⟩
theorem CO(i:O):(stJ z6 len js (i+1)).1=if thA z6 len js i=[] then (stJ z6 len js i).1 else fi (cB z6 len (thA z6 len js i)) (stJ z6 len js i).1:=by show (dE z6 len (stJ z6 len js i)).1=_;unfold dE thA;split <;> rfl
theorem Kh{T:O}(h:i<T):(stJ z6 len js T).2[i]?=Y (if thA z6 len js i=[] then .none else i4 (cB z6 len (thA z6 len js i))):=by
 induction h with
 |refl =>show (dE z6 len (stJ z6 len js i)).2[i]?=_;unfold dE thA;split <;> (show (_++[_])[i]?=_;rw[Qh (by rw[gB];omega),gB,Y3];rfl)
 |step a ih =>
  rename_i T;have hl:=gB (z6:=z6) (len:=len) (js:=js) T;have:(stJ z6 len js (T+1)).2[i]?=(stJ z6 len js T).2[i]?:=by show (dE z6 len (stJ z6 len js T)).2[i]?=_;unfold dE;have a:i<T:=a;split <;> (show (_++[_])[i]?=_;rw[Qc ⋯])
  rw[this,ih]
theorem F3(a:IvJ z6 0 js)(hv:HvJ z6 js)(c:Sx js):Trc z6 js.length (qJ z6 len js) (tZ z6 len js):=by
 have inv:=λi=>qe (len:=len) a hv i
 have f:=λi=>pk (len:=len) a hv i
 have mem:∀{m} i,m<js.length->qJ z6 len js m i∈(stJ z6 len js i).1:=λ{m} i h=>by
  have hm:m<(stJ z6 len js i).1.length:=by rw[f];exact h
  rw[i8 hm];exact Qk hm
 have num:∀{m} i,m<js.length->(qJ z6 len js m i).num=(m:Z):=λ{m} i h=>by
  have hm:m<(stJ z6 len js i).1.length:=by rw[f];exact h
  rw[i8 hm];exact (CU (inv i).2.2.1 c).num m hm
 have iv':∀i,IvJ z6 ((stJ z6 len js i).2.length:Z) (stJ z6 len js i).1:=λi=>by rw[gB];exact (inv i).1
 refine⟨λh=>(kf a hv c h).1,λ{i m} h=>?_,λ{i m} hm h=>?_,λ{m} i h=>(inv i).1.ok.ok _ (mem i h),λ{i m} h=>?_,λ{i m} h hm=>?_,λ{m} i h=>(inv i).1.srt _ (mem i h),λ{m} i h=>(inv i).1.low _ (mem i h),λ{m} i h hs=>qD (inv i).1 (mem i h) hs,λ{m} i {T} h ht=>?_,λ{m} i h=>num i h⟩
 .obtain⟨hm,z,e⟩:=kf a hv c h;have h1:m<(stJ z6 len js (i+1)).1.length:=by rw[f];exact hm
  have b:m<(stJ z6 len js i).1.length:=by rw[f];exact hm
  have e1:qJ z6 len js m (i+1)=(fi (cB z6 len (thA z6 len js i)) (stJ z6 len js i).1).getD m default:=by unfold qJ;rw[CO,GC z]
  rw[e1,<-e];unfold fi;rw[Q2,Q5,My b,<-i8 b];simp
 .unfold qJ;rw[CO];split
  .rfl
  .rename_i z;have b:m<(stJ z6 len js i).1.length:=by rw[f];exact hm
   have hn:=num i hm;rw[i8 b]at hn;have hw:tZ z6 len js i=Y (cB z6 len (thA z6 len js i)).num.toNat:=by unfold tZ;rw[GC z]
   have hw':=kf a hv c hw;have g:¬ (stJ z6 len js i).1[m].num=(cB z6 len (thA z6 len js i)).num:=λe=>h (by rw[hw,<-e,hn];rfl)
   unfold fi;rw[Q2,Q5,My b,Q2,My b];simp[g]
 .obtain⟨hm,z,e⟩:=kf a hv c h;rw[e];exact (qb (hV z)).2
 .unfold tZ at h;split at h
  .rename_i z;by_cases t:(qJ z6 len js m i).there (i:Z)=true
   .have:qJ z6 len js m i∈thA z6 len js i:=Qg.mpr ⟨mem i hm,by rw[gB];exact t⟩;rw[z]at this;cases this
   .simpa using t
  .cases h
 .obtain⟨h1,h2⟩:=lY ht;obtain⟨p,j,e⟩:=oZ ((inv i).1.ok.ok _ (mem i h)) h1;exact (inv i).2.1.top _ (mem i h) p j T e
end
section
variable {n:O}{q:O->O->Jb}
end
theorem om{α:Type}{f g:α->Z}:∀{l:J α},(∀x∈l,f x<=g x)->(l.map f).sum<=(l.map g).sum
 |[],_=>by simp
 |x::r,h=>by
  rw[P0,P0,Qe,Qe];have:=h x P7;have:=om (l:=r) λy a=>h y (P4 _ a)
  omega
theorem Ce{α:Type}{f:α->Z}{P:α->Prop}{H:Z}(c:0<=H):∀{l:J α},l.Nodup->(∀x∈l,f x=0\/(P x/\f x<=H))->(∀x∈l,∀y∈l,P x->P y->x=y)->(l.map f).sum<=H
 |[],_,_,_=>by simpa using c
 |x::r,nd,h,u=>by
  rw[P0,Qe];have b:=Qq.mp nd;rcases h x P7 with e|⟨g,hx⟩
  .have:=Ce c (l:=r) b.2 (λy a=>h y (P4 _ a)) (λy a z i=>u y (P4 _ a) z (P4 _ i));omega
  .have:(r.map f).sum=0:=gE f λy a=>by
    rcases h y (P4 _ a) with e|⟨j,_⟩
    .exact e
    .have:=u x P7 y (P4 _ a) g j;subst this;exact (b.1 a).elim
   omega
theorem CC{m:O}:∀{l:J Z},l.Nodup->(∀x∈l,0<=x)->(m:Z)∈l->(l.map λx=>if m=x.toNat then (1:Z) else 0).sum=1
 |[],_,_,h=>(nomatch h)
 |x::r,nd,hp,h=>by
  rw[P0,Qe];have a:=Qq.mp nd;have hx:=hp x P7;by_cases e:m=x.toNat
  .have:(r.map λx=>if m=x.toNat then (1:Z) else 0).sum=0:=gE _ λy b=>by
    rw[GC];intro z;have:=hp y (P4 _ b);have:y=x:=⋯
    subst this;exact a.1 b
   rw[FC e];omega
  .rw[GC e];have:(m:Z)∈r:=by
    rcases P8.mp h with z|z
    .exact So (by omega:m=x.toNat) e
    .exact z
   have:=CC a.2 (λy b=>hp y (P4 _ b)) this;omega
section
variable {n:O}{q:O->O->Jb}
theorem Trc.works(R:Trc z6 n q ve)(b:bJ n rs):∀(d:O),(∀t,B<=t->t<B+d->ve t≠S)->(rs.map λx=>(q x.toNat (B+d)).tot-(q x.toNat B).tot).sum=(d:Z)
 |0,_=>gE _ λx _=>by show (q x.toNat B).tot-(q x.toNat B).tot=0;omega
 |d+1,h=>by
  have c:=R.works b d λt h1 h2=>h t h1 ⋯
  obtain⟨m,hm⟩:=D'.ne_none_iff_exists'.mp (h (B+d) ⋯ ⋯);have hit:=CC (m:=m) b.nd (λx j=>(b.rng x j).1) (b.mem ⋯ (by have:=R.lt hm;omega));have:(rs.map λx=>(q x.toNat (B+(d+1))).tot-(q x.toNat B).tot)=rs.map λx=>((q x.toNat (B+d)).tot-(q x.toNat B).tot)+(if m=x.toNat then (1:Z) else 0):=by
   refine Q3 λx j=>?_
   have hx':=b.rng x j;have h1:=R.tot1 (i:=B+d) (m:=x.toNat) ⋯;show (q x.toNat (B+d+1)).tot-_=_;rw[h1,hm];by_cases e:m=x.toNat
   .rw[FC (by rw[e]),FC e];omega
   .rw[GC (by intro z;cases z;exact e rfl),GC e];omega
  rw[this];have add:∀(f g:Z->Z)(l:J Z),(l.map λx=>f x+g x).sum=(l.map f).sum+(l.map g).sum:=λf g l=>by
   induction l with
   |nil=>rfl
   |cons a r c=>dsimp[P0,Qe,c];omega
  rw[add,c,hit];omega
theorem DV(h:JOk z6 j)(hl:∀p,j.parts.getLast?=Y p->p.2=S)(hc:j.cur=j.work-1):j.held=none:=by
 have pt:=h.pt;have x9:j.len=j.parts[j.part].1:=by unfold Jb.len;rw[My pt];rfl
 have sp:=h.sp;have htk:=jZ pt;have e:j.part+1=j.parts.length:=by
  by_cases z:j.part+1=j.parts.length
  .exact z
  .exfalso;have lt:j.part+1<j.parts.length:=⋯
   have h1:=jZ lt;have h2:=nU h.ln (j.part+1+1);have h3:=h.ln _ (Qk lt);unfold Jb.cur Jb.work at hc;omega
 have a:j.tool=none:=by unfold Jb.tool;rw[My pt];refine hl _ ?_;rw[US,<-My pt];congr 1;omega
 unfold Jb.held;split
 .rfl
 .exact a
end
theorem Ex(a:row.Pairwise (· < ·)){k:O}(b:k<row.length):fD row (row[k]-1)=k:=by
 have h1:=rf b a (t:=row[k]-1) ⋯;by_cases z:k=0
 .omega
 .have h2:=qX (t:=row[k]-1) (k:=k-1) ⋯ a (by have:=J.pairwise_iff_getElem.mp a (k-1) k ⋯ b ⋯;omega)
  omega
theorem E9{p:O}{m:Z}(h:m∈rs.take p):placeOf rs m<p:=by have e:placeOf (rs.take p++rs.drop p) m=placeOf (rs.take p) m:=BH h;rw[S0]at e;have h1:=mR h;rw[Rw]at h1;omega
theorem uZ{P:O->Prop}(a:P 0):∀c,∃B,B<=c/\P B/\∀b,B<b->b<=c->¬ P b
 |0=>⟨0,PN _,a,λb h1 h2=>by omega⟩
 |c+1=>by
  by_cases h:P (c+1)
  .exact⟨c+1,PN _,h,λb h1 h2=>by omega⟩
  .obtain⟨B,a1,a2,f⟩:=uZ a c;refine⟨B,⋯,a2,λb h1 h2=>?_⟩;by_cases e:b=c+1
   .subst e;exact h
   .exact f b h1 ⋯
section
variable {n:O}{q:O->O->Jb}
theorem Trc.passed(R:Trc z6 n q ve)(hm:m<n){v:Z}:∀(d:O),(q m B).tot<v->v<=(q m (B+d)).tot->∃t,B<=t/\t<B+d/\ve t=Y m/\(q m t).tot=v-1
 |0,h1,h2=>by rw[WE]at h2;omega
 |d+1,h1,h2=>by
  by_cases h:v<=(q m (B+d)).tot
  .obtain⟨t,a1,a2,a⟩:=R.passed hm d h1 h;exact⟨t,a1,⋯,a⟩
  .have:=R.tot1 (i:=B+d) hm;have h2:v<=(q m (B+d+1)).tot:=h2;by_cases w:ve (B+d)=Y m
   .rw[FC w]at this;exact⟨B+d,⋯,⋯,w,⋯⟩
   .rw[GC w]at this;omega
end
theorem pK(l:PTl)(k:Z×Z)(v:Z)(a:Z×Z):fj (tQ l k v) a=if a=k then Y v else fj l a:=by
 unfold tQ;by_cases ha:(l.any λp=>decide (p.1=k))=true
 .rw[FC ha];unfold fj
  induction l with
  |nil=>cases ha
  |cons p r ih =>
   rw[P0];by_cases z:p.1=k
   .rw[FC z,Qd,Qd];by_cases y:a=k
    .rw[FC y];have:decide (p.1=a)=true:=O' (by rw[z,y]);dsimp[this];rfl
    .rw[GC y];have:decide (p.1=a)=false:=L' λq=>y (q.symm.trans z)
     dsimp[this];cases b:(r.any λp=>decide (p.1=k)) with
     |true=>rw[ih b,GC y]
     |false =>
      have:r.map (λp=>if p.1=k then (p.1,v) else p)=r:=by
       have h:∀q∈r,(λp:(Z×Z)×Z=>if p.1=k then (p.1,v) else p) q=id q:=λq c=>GC λe=>by have:=Sb.mp b q c;exact this (O' e)
       rw[Q3 h,QJ]
      rw[this]
   .rw[GC z,Qd,Qd];have b:(r.any λp=>decide (p.1=k))=true:=by rw[R8,L' z,S9]at ha;exact ha
    by_cases y:p.1=a
    .dsimp[O' y];rw[GC λq=>z (y.trans q)]
    .dsimp[L' y];exact ih b
 .rw[GC ha];unfold fj;rw[Sg];by_cases y:a=k
  .rw[FC y];have:l.find? (λp=>decide (p.1=a))=none:=Rh.mpr λp f q=>ha (QO.mpr ⟨p,f,by rw[<-y];exact q⟩)
   rw[this,y];show ((([(k,v)]:PTl).find? λp=>decide (p.1=k))).map (·.2)=_;rw[Qd];simp
  .rw[GC y];have:([(k,v)]:PTl).find? (λp=>decide (p.1=a))=none:=by
    rw[Qd];have:decide (k=a)=false:=L' λq=>y q.symm
    dsimp[this];rfl
   rw[this,XF]
def wO(d:L):Prop:=d=.none\/∃k:Z×Z,d=.tuple [.int k.1,.int k.2]
def endsF:O->J L->PTl->PTl
 |_,[],l=>l
 |i,d::r,l=>endsF (i+1) r (match jV d with
  |some k=>tQ l k ((i:Z)+1)
  |none=>l)
theorem u7{k:Z×Z}:∀(t:J L)(i:O)(l:PTl){v:Z},fj (endsF i t l) k=Y v->(∃(j:O)(d:L),t[j]?=Y d/\jV d=Y k/\v=(i:Z)+j+1)\/fj l k=Y v
 |[],i,l,v,h=>.inr h
 |d::r,i,l,v,h=>by
  unfold endsF at h;rcases u7 r (i+1) _ h with⟨j,e,h1,h2,h3⟩|h
  .exact .inl ⟨j+1,e,h1,h2,⋯⟩
  .split at h
   .rename_i k0 a;rw[pK]at h;split at h
    .rename_i z;cases h;exact .inl ⟨0,d,rfl,by rw[a,z],⋯⟩
    .exact .inr h
   .exact .inr h
theorem yv{k:Z×Z}:∀(t:J L)(i:O)(l:PTl),((∃(j:O)(d:L),t[j]?=Y d/\jV d=Y k)\/∃v,fj l k=Y v)->∃v,fj (endsF i t l) k=Y v
 |[],i,l,h=>by
  rcases h with⟨j,d,h,_⟩|h
  .simp at h
  .exact h
 |d::r,i,l,h=>by
  unfold endsF;refine yv r (i+1) _ ?_;rcases h with⟨j,e,h1,h2⟩|⟨v,h⟩
  .cases j with
   |zero =>cases h1;right;rw[h2];exact⟨_,by show fj (tQ l k _) k=_;rw[pK,FC rfl]⟩
   |succ j=>exact .inl ⟨j,e,h1,h2⟩
  .right;split
   .rename_i k0 hk;rw[pK];split
    .exact⟨_,rfl⟩
    .exact⟨v,h⟩
   .exact⟨v,h⟩
theorem Gz(l:PTl)(k:Z×Z)(v:Z):(tQ l k v).length<=l.length+1:=by unfold tQ;split <;> simp
def anD(W D:L)(l:PTl)(x3 x4:D' L):Ds:=[Y W,Y D,Y (dtD l),x3,x4]
def anB:Ds->Sr:=sIf (gT (g1 cV (ae 4))) (qa 2 (ae 4) (g2 aP (ae 3) ↑1)) ba
theorem KZ{W D d:L}{l:PTl}(hd:wO d)(hl:l.length<1000000):anB (anD W D l ⇑(i:Z) (Y d))=.nx (anD W D (match jV d with
  |some k=>tQ l k ((i:Z)+1)
  |none=>l) ⇑(i:Z) (Y d)):=by
 rcases hd with rfl|⟨k,rfl⟩
 .rfl
 .have e:anB (anD W D l ⇑(i:Z) (Y (.tuple [.int k.1,.int k.2])))=qa 2 (ae 4) (g2 aP (ae 3) ↑1) (anD W D l ⇑(i:Z) (Y (.tuple [.int k.1,.int k.2]))):=rfl;rw[e];unfold qa;show (match Aq (dtD l) with
   |some l=>_
   |none=>_)=_
  rw[Cm];show (if l.length<1000000 then _ else _)=_;rw[FC hl];rfl
theorem C6{W D:L}:∀(t:J L)(i:O)(l:PTl)(x3 x4:D' L),(∀d∈t,wO d)->l.length+t.length<1000000->∃a b,forL (cO [3,4]) anB (sA i t) (anD W D l x3 x4)=.nx (anD W D (endsF i t l) a b)
 |[],i,l,x3,x4,_,_=>⟨x3,x4,rfl⟩
 |d::r,i,l,x3,x4,h,hl=>by
  rw[PZ]at hl;rw[tU,en (δ1:=anD W D l ⇑(i:Z) (Y d)) rfl (KZ (h d P7) ⋯)];refine C6 r (i+1) _ _ _ (λe c=>h e (P4 _ c)) ?_;split
  .have:=Gz l ‹_› ((i:Z)+1);omega
  .omega
theorem wa{α:Type}{f:α->L}{elt:Ds->Rs L}{δ:Ds}{g:O->α->L}:∀(l:J α)(i:O),(∀(j:O) a,l[j]?=Y a->elt (δ++[⇑((i+j:O):Z),Y (f a)])=.ok (g (i+j) a))->eB bF elt fQ δ (sA i (l.map f))=.ok (l.mapIdx λj a=>g (i+j) a)
 |[],_,_=>rfl
 |a::r,i,h=>by
  have e:=wa r (i+1) λj b m=>by have:=h (j+1) b m;rw[show i+(j+1)=i+1+j by omega]at this;exact this
  rw[P0,tU];unfold eB;have c:=h 0 a rfl;rw[WE]at c;dsimp[fQ,bF,Rs.cM,Rs.ag,Sn,c,e];rw[RW,WE];congr 3;funext j b;rw[show i+(j+1)=i+1+j by omega]
theorem Cz(l:J L):ix l=sA 0 l:=by unfold ix sA;congr 1;funext i d;rw[QG]
theorem sW{f:α->L}{elt:Ds->Rs L}{g:O->α->L}{l:J α}(hn:δ.length=n0)(b:src δ=.ok (ix (l.map f)))(hl:l.length<=1000000)(h:∀(j:O) a,l[j]?=Y a->elt (δ++[⇑(j:Z),Y (f a)])=.ok (g j a)):a9 n0 src bF elt fQ δ=.ok (l.mapIdx g):=by
 unfold a9;rw[FC hn,b,Rs.ag,FC (by rw[jP,P6];exact hl),Cz];have:=wa (f:=f) (elt:=elt) (δ:=δ) (g:=g) l 0 λj a e=>by rw[QG];exact h j a e
 rw[this];congr 2;funext j a;rw[QG]
theorem wq(h:δ[i]?=Y ↥ds)(hl:ds.length<=1000000):gU #[0,ae i] δ=.ok (ix ds):=by
 have e:ae i δ=.ok (.list ds):=by unfold ae;rw[h]
 unfold gU;rw[ay,e,aF];rfl
def dC(cs:Cs):Gf:=gfG 3 0 (gr cs)
def yC(l:PTl)(n k:O)(c:Z):PyData:=.int ((fj l ((n:Z),(k:Z))).getD 0-c)
theorem uz{n:O}{l:PTl}(hl:row.length<=1000)(h:∀k,k<row.length->∃v,fj l ((n:Z),(k:Z))=Y v):dC cs [.int (n:Z),c9 row,dtD l]=.ok (.list (row.mapIdx (yC l n))):=by
 have b:a9 3 (gU #[0,1]) bF (g2 cK (FX (ae 2) (f9 #[0,0,3])) (ae 4)) fQ [⇑(n:Z),Y (c9 row),Y (dtD l)]=.ok (row.mapIdx (yC l n)):=by
  refine sW (f:=EE) rfl (wq rfl (by rw[P6];omega)) ⋯ λj a e=>?_
  obtain⟨v,hv⟩:=h j (Qa.mp e).1;have h1:FX (ae 2) (f9 #[0,0,3]) [⇑(n:Z),Y (c9 row),Y (dtD l),⇑(j:Z),⇑a]=.ok (.int v):=by
   show (match Aq (dtD l),jV (.tuple [.int (n:Z),.int (j:Z)]) with
    |some l,Y k=>(match fj l k with
     |some v=>Rs.ok (EE v)
     |none=>.no)
    |_,_=>.no)=_
   rw[Cm];show (match fj l ((n:Z),(j:Z)) with
     |some v=>Rs.ok (EE v)
     |none=>.no)=_
   rw[hv]
  show g2 cK _ (ae 4) [⇑(n:Z),Y (c9 row),Y (dtD l),⇑(j:Z),⇑a]=_;rw[c8 (x:=.int v) (y:=.int a) (z:=.int (v-a)) h1 rfl rfl];unfold yC;rw[hv];rfl
 show bc (gr cs [⇑(n:Z),Y (c9 row),Y (dtD l)])=_;unfold gr;dsimp[bW,mX,b,Rs.ag,aw,a8]
def dB(cs:Cs):Gf:=gfG 2 3 (gy cs (dC cs))
theorem uJ{t:J L}(hr:z5.length<=1000)(hl:∀r∈z5,r.length<=1000)(i:∀d∈t,wO d)(tl:t.length<1000000)(h:∀(n:O)(row:J Z),z5[n]?=Y row->∀k,k<row.length->∃v,fj (endsF 0 t []) ((n:Z),(k:Z))=Y v) :
  dB cs [cmD z5,.list t]=.ok (.list (z5.mapIdx λn row=>.list (row.mapIdx (yC (endsF 0 t []) n)))):=by
 show bc (gy cs (dC cs) [Y (cmD z5),↥t,S,S,S])=_;unfold gy;have e1:Cf 2 [Y (cmD z5),↥t,S,S,S]=.nx (anD (cmD z5) (.list t) [] S S):=rfl;rw[cq e1];obtain⟨b,c,e2⟩:=C6 (W:=cmD z5) (D:=.list t) t 0 [] S S i (by simpa using tl);have g:cY [2] (gU #[0,1]) (cO [3,4]) anB (anD (cmD z5) (.list t) [] S S)=.nx (anD (cmD z5) (.list t) (endsF 0 t []) b c):=by rw[nk (ds:=ix t) (wq rfl ⋯),Cz,e2]
 unfold anB at g;rw[cq g];have l:a9 5 (gU #[0,0]) bF (ao (dC cs) #[0,5,6,2]) fQ (anD (cmD z5) (.list t) (endsF 0 t []) b c)=.ok (z5.mapIdx λn row=>.list (row.mapIdx (yC (endsF 0 t []) n))):=by
  refine sW (f:=c9) rfl (wq rfl (by rw[P6];omega)) ⋯ λj a e=>?_
  exact c7 rfl (uz (hl a (Qz e)) (h j a e))
 dsimp[bW,mX,l,Rs.ag,aw,a8]
theorem F0{len:M'}(R:Ran es rs z5 len):HvJ (ax es rs) (startJ es rs z5):=by
 refine⟨λi hi j f T h1 h2=>?_,λj f p g T e=>?_⟩
 .obtain⟨k,row,_,_,_,rfl⟩:=eQ hi;cases h1
 .obtain⟨k,row,hk,_,_,rfl⟩:=eQ f;have hln:=R.ln;have h:(0:Z)<=(k:Z):=⋯
  have h1:(k:Z)<es.length:=⋯
  have ok:=R.eok.ok _ (bK h h1);obtain⟨l,m⟩:=(ok.pl p g).2.2 T e;have o:(aK es (k:Z)).has T=true:=by unfold Er.has;rw[QO];exact⟨p,g,by rw[e];exact T6 _⟩
  have hm:=R.rok.mem h h1;have a:=mR hm;have b:rs[placeOf rs (k:Z)]?=Y (k:Z):=by have:=VD (xs:=rs) (p:=(·==(k:Z))) (w:=a);rw[My a];exact congrArg Y (eq_of_beq this)
  have c:(k:Z)∈rs.take (placeOf rs (k:Z)+1):=by rw[J.take_succ,b];exact PR _ P7
  obtain⟨n,hn,hle⟩:=(Bg es T rs 0 (placeOf rs (k:Z))).mpr ⟨(k:Z),c,o⟩;have:mj (ax es rs) T=n:=by unfold mj;rw[kH l m hn]
  rw[this];show n<=(placeOf rs (k:Z):Z);omega
def hdD(C:HL)(m k t l:Z):PyData:=AI C [("number",.int m),("part",.int k),("tool",.int t),("times",.int l)]
def i7(C:HL)(es:J Er)(rs:J Z)(pl m k:Z)(p:Z×D' Z):J PyData:=match p.2 with
 |some t=>(match aG es rs t with
  |some h=>if h<=pl then [hdD C m k t (p.1-1)] else []
  |none=>[])
 |none=>[]
def hdM(C:HL)(es:J Er)(rs:J Z)(pl m:Z):O->J (Z×D' Z)->J L
 |_,[]=>[]
 |k,p::r=>i7 C es rs pl m k p++hdM C es rs pl m (k+1) r
def iw(C:HL)(es:J Er)(rs:J Z)(pl:Z):J Z->J L
 |[]=>[]
 |m::r=>hdM C es rs pl m 0 (aK es m).parts++iw C es rs pl r
theorem vF(C:HL)(es:J Er)(rs:J Z)(pl m k:Z)(p:Z×D' Z):(i7 C es rs pl m k p).length<=1:=by
 unfold i7;split
 .split
  .split <;> simp
  .simp
 .simp
theorem wj(C:HL)(es:J Er)(rs:J Z)(pl m:Z):∀(ps:J (Z×D' Z))(k:O),(hdM C es rs pl m k ps).length<=ps.length
 |[],_=>by simp[hdM]
 |p::r,k=>by have h1:=vF C es rs pl m k p;have h2:=wj C es rs pl m r (k+1);unfold hdM;rw[PU,PZ];omega
abbrev Fo(cs:Cs):Ds->Sr:=iO [5] 5 (ao (vX cs.Holding ["number", "part", "tool", "times"]) #[0,6,7,g2 dIx (ae 8) ↑1,g2 cK (g2 dIx (ae 8) ↑0) ↑1])
abbrev mQ(cs:Cs):Ds->Sr:=sIf (jh (gT (g1 cV (g2 dIx (ae 8) ↑1))) (gT (g2 dLe (g2 dIx (ae 4) (g2 dIx (ae 8) ↑1)) (ae 3)))) (Fo cs) ba
theorem KP(cs:Cs)(es:J Er)(rs:J Z)(E R n:L)(pl:O)(m:Z)(a:J L)(c:∀t:Z,0<=t->t<=3->atI a t=Y (aW (aG es rs t)))(p:Z×D' Z)(k:O)(z4:J L)(hl:z4.length<1000000)(h:∀t,p.2=Y t->0<=t/\t<=3/\∃h,aG es rs t=Y h) :
  mQ cs [Y E,Y R,Y n,⇑pl,↥a,↥z4,⇑m,⇑k,Y (aN p)]
   =.nx [Y E,Y R,Y n,⇑pl,↥a,↥(z4++i7 cs.Holding es rs pl m k p),⇑m,⇑k,Y (aN p)]:=by
 obtain⟨l,o⟩:=p;cases o with
 |none=>simp[mQ,GK,aW,i7]
 |some t =>
  obtain⟨i,h3,e,g⟩:=h t rfl;have ha:=c t i h3;rw[g]at ha;have e1:dIx (aN (l,Y t)) (.int 1)=⇑t:=rfl;have j:dIx (aN (l,Y t)) (.int 0)=⇑l:=rfl;have b:dIx (.list a) (.int t)=⇑e:=ha;have add:Fo cs [Y E,Y R,Y n,⇑pl,↥a,↥z4,⇑m,⇑k,Y (aN (l,Y t))]=.nx [Y E,Y R,Y n,⇑pl,↥a,↥(z4++[hdD cs.Holding m k t (l-1)]),⇑m,⇑k,Y (aN (l,Y t))]:=by unfold Fo iO;dsimp[QV,QW];dsimp[bp,ay,aF,bQ,aC (show 6∉[5] by decide),aC (show 7∉[5] by decide),aC (show 8∉[5] by decide),aq,av,cA,Rs.ag,e1,j,oF,Rs.ai];have hm:vX cs.Holding ["number", "part", "tool", "times"] [.int m,.int (k:Z),.int t,.int (l-1)]=.ok (hdD cs.Holding m k t (l-1)):=rfl;rw[hm,aw,FC hl];rfl
  have f:i7 cs.Holding es rs pl m k (l,Y t)=if e<=(pl:Z) then [hdD cs.Holding m k t (l-1)] else []:=by unfold i7;dsimp[g]
  rw[f];by_cases hle:e<=(pl:Z)
  · rw[FC hle,<-add];simp[mQ,e1,b,hle]
  · rw[GC hle,QC];simp[mQ,e1,b,hle]
theorem yJ(cs:Cs)(es:J Er)(rs:J Z)(E R n:L)(pl:O)(m:Z)(a:J L)(b:∀t:Z,0<=t->t<=3->atI a t=Y (aW (aG es rs t))):∀(ps:J (Z×D' Z))(k:O)(z4:J L)(x7 x8:D' L),z4.length+ps.length<1000000->(∀p∈ps,∀t,p.2=Y t->0<=t/\t<=3/\∃h,aG es rs t=Y h) ->
  ∃c f,forL (cO [7,8]) (mQ cs) ((ps.map aN).mapIdx λi d=>.tuple [.int ((k+i:O):Z),d])
    [Y E,Y R,Y n,⇑pl,↥a,↥z4,⇑m,x7,x8]
   =.nx [Y E,Y R,Y n,⇑pl,↥a,↥(z4++hdM cs.Holding es rs pl m k ps),⇑m,c,f]
 |[],k,z4,x7,x8,_,_=>⟨x7,x8,by simp[forL,hdM]⟩
 |p::r,k,z4,x7,x8,hz,h=>by
  have hz':z4.length+(r.length+1)<1000000:=hz;have hl1:=vF cs.Holding es rs pl m k p;obtain⟨c,f,e⟩:=yJ cs es rs E R n pl m a b r (k+1) (z4++i7 cs.Holding es rs pl m k p) ⇑(k:Z) (Y (aN p)) (by rw[PU];omega) (λq g=>h q (P4 _ g));refine⟨c,f,?_⟩;rw[P0,RW];unfold forL;have e1:cO [7,8] (Ta [.int ((k+0:O):Z),aN p]) [Y E,Y R,Y n,⇑pl,↥a,↥z4,⇑m,x7,x8]=Y [Y E,Y R,Y n,⇑pl,↥a,↥z4,⇑m,⇑(k:Z),Y (aN p)]:=rfl;rw[e1];dsimp[KP cs es rs E R n pl m a b p k z4 ⋯ (h p P7)];have j:(λ(i:O)(d:L)=>Ta [.int ((k+(i+1):O):Z),d])=λi d=>.tuple [.int ((k+1+i:O):Z),d]:=by funext i d;rw[show k+(i+1)=k+1+i by omega]
  rw[j,e];rw[show hdM cs.Holding es rs pl m k (p::r)=i7 cs.Holding es rs pl m k p++hdM cs.Holding es rs pl m (k+1) r from rfl,QR]
theorem zr{es:J Er}{rs:J Z}(cs:Cs)(f:∀e∈es,e.Sh)(v:bJ es.length rs)(n:L)(pl:O):∀(ms:J Z)(z4:J L)(x6 x7 x8:D' L),z4.length+1000*ms.length<1000000->(∀m∈ms,m∈rs) ->
  ∃o q s,forL (aU 6) (cY [5] (gU #[0,g2 dIx (g2 dIx (ae 0) (ae 6)) ↑3]) (cO [7,8]) (mQ cs)) (ms.map EE)
    #[3,Y n,⇑pl,Y (ax es rs),↥z4,x6,x7,x8]
   =.nx #[3,Y n,⇑pl,Y (ax es rs),↥(z4++iw cs.Holding es rs pl ms),o,q,s]
 |[],z4,x6,x7,x8,_,_=>⟨x6,x7,x8,by simp[forL,iw]⟩
 |m::r,z4,x6,x7,x8,hz,h=>by
  have hz':z4.length+1000*(r.length+1)<1000000:=hz;have hm:=h m P7;have g:=v.rng m hm;have j:=f _ (bK g.1 ⋯);have hpn:=j.pn;have hml:=wj cs.Holding es rs pl m (aK es m).parts 0;obtain⟨w,y,e1⟩:=yJ cs es rs (ar es) (aj rs) n pl m ((LN 4).map λ(t:O)=>aW (aG es rs t)) (λt a b=>sZ a b) (aK es m).parts 0 z4 x7 x8 ⋯ λp z t l=>by obtain⟨_,_,c⟩:=j.pl p z;have:=c t l;exact⟨this.1,this.2,lC es t rs 0 m hm (FO z l)⟩
  obtain⟨o,q,s,e2⟩:=zr cs f v n pl r (z4++hdM cs.Holding es rs pl m 0 (aK es m).parts) ⇑m w y (by rw[PU];omega) λx A=>h x (P4 _ A)
  refine⟨o,q,s,?_⟩;rw[P0];unfold forL;have a2:atI (es.map Er.d) m=Y (aK es m).d:=eX g.1 ⋯;have src:gU #[0,g2 dIx (g2 dIx (ae 0) (ae 6)) ↑3] (mask [5] #[3,Y n,⇑pl,Y (ax es rs),↥z4,⇑m,x7,x8])=.ok (((aK es m).parts.map aN).mapIdx λi d=>.tuple [.int ((0+i:O):Z),d]):=by dsimp[C3,ay,aF,bQ,aC (show 0∉[5] by decide),aC (show 6∉[5] by decide),aq,av,cA,Rs.ag,ar,mz,a2,Rs.ai,Ad,CP,ix,QG]
  have l:aU 6 (.int m) #[3,Y n,⇑pl,Y (ax es rs),↥z4,x6,x7,x8]=Y #[3,Y n,⇑pl,Y (ax es rs),↥z4,⇑m,x7,x8]:=rfl;have u:forL (cO [7,8]) (mQ cs) (((aK es m).parts.map aN).mapIdx λi d=>.tuple [.int ((0+i:O):Z),d]) #[3,Y n,⇑pl,Y (ax es rs),↥z4,⇑m,x7,x8]=.nx #[3,Y n,⇑pl,Y (ax es rs),↥(z4++hdM cs.Holding es rs pl m 0 (aK es m).parts),⇑m,w,y]:=e1;rw[l];dsimp[iB,src,aw,u,e2];rw[show iw cs.Holding es rs pl (m::r)=hdM cs.Holding es rs pl m 0 (aK es m).parts++iw cs.Holding es rs pl r from rfl,QR]
def bR(cs:Cs):Gf
 |[d,r,.int n]=>if okW d r n then .ok (.list (iw cs.Holding (cu d) (b9 r) (placeOf (b9 r) n) ((b9 r).drop (placeOf (b9 r) n+1)))) else .no
 |_=>.no
theorem ji(cs:Cs)(h1:1<=es.length)(h2:es.length<=6)(h:∀e∈es,e.Wk)(a:bJ es.length rs)(n0:0<=n)(n1:n<es.length):bR cs [ar es,aj rs,.int n]=.ok (.list (iw cs.Holding es rs (placeOf rs n) (rs.drop (placeOf rs n+1)))):=by unfold bR;dsimp[pF h1 h2 h a n0 n1,Sn,fk,dZ]
theorem A5(cs:Cs):LLq (kJ cs aY) 3 6 (bR cs):=by
 intro ds hl a;obtain⟨d,r,n,i,h⟩:=l8 a;clear a;subst i;have a:=h;clear h
 .skip
  split at a
  .rename_i hc;obtain⟨es,rs,rfl,rfl,_,_,l1,l6,hok,b,n0,n1⟩:=iW hc;rw[ji cs l1 l6 hok b n0 n1];have c:∀e∈es,e.Sh:=λe j=>(hok e j).sh
   have f:=b.mem n0 ⋯;have g:=fX f;have l:=gX ⋯ c b;have hrl:=b.len;obtain⟨y6,y7,y8,e⟩:=zr cs c b (.int n) (placeOf rs n) (rs.drop (placeOf rs n+1)) [] S S S (by rw[Rl];simp;omega) (λm hm=>Qt hm);have src:br (eV (ae 1) (gP (g2 aP (ae 3) ↑1)) dk) (mask [5] #[3,⇑n,⇑(placeOf rs n),Y (ax es rs),↥[],S,S,S])=.ok ((rs.drop (placeOf rs n+1)).map EE):=by dsimp[jl,lS,oJ,ke,bQ,aC (show 1∉[5] by decide),aC (show 3∉[5] by decide),aq,av,cA,Rs.ag,dD,Rs.ai,nQ,aj,tq,mM];rw[show (placeOf rs n:Z)+1=((placeOf rs n+1:O):Z) by omega,ug,VQ]
   have o:aJ [5] 3 (kY (ae 1) (ae 2)) #[3,⇑n,S,S,S,S,S,S]=.nx #[3,⇑n,⇑(placeOf rs n),S,S,S,S,S]:=by rw[iF,FC #[2]];dsimp[pR,aC (show 1∉[5] by decide),aC (show 2∉[5] by decide),aq,av,Rs.ag,aj,g,Rs.ai,aw];rfl
   have s2:aJ [5] 4 (ao aY #[0,0,1]) #[3,⇑n,⇑(placeOf rs n),S,S,S,S,S]=.nx #[3,⇑n,⇑(placeOf rs n),Y (ax es rs),S,S,S,S]:=by rw[iF,FC #[2]];dsimp[bp,ay,aF,aC (show 0∉[5] by decide),aC (show 1∉[5] by decide),aq,av,Rs.ag,l,aw];rfl
   have p:ff [5] 5 ah #[3,⇑n,⇑(placeOf rs n),Y (ax es rs),S,S,S,S]=.nx #[3,⇑n,⇑(placeOf rs n),Y (ax es rs),↥[],S,S,S]:=rfl;show bc (kJ cs aY #[3,⇑n,S,S,S,S,S,S])=_;dsimp[kJ];rw[aQ,o];simp only;rw[aQ,s2];simp only;rw[aQ,p];simp only;rw[aQ,iB,src,aw,e];rfl
  .cases a rfl
def mw(es:J Er)(rs:J Z)(pl:Z)(p:Z×D' Z):J Int:=match p.2 with
 |some t=>(match aG es rs t with
  |some h=>if h<=pl then [p.1-1] else []
  |none=>[])
 |none=>[]
def tms(es:J Er)(rs:J Z)(pl:Z):J (Z×D' Z)->J Z
 |[]=>[]
 |p::r=>mw es rs pl p++tms es rs pl r
theorem CG(es:J Er)(rs:J Z)(pl:Z)(b:J (Z×D' Z)):∀a,tms es rs pl (a++b)=tms es rs pl a++tms es rs pl b
 |[]=>rfl
 |p::r=>by show mw es rs pl p++tms es rs pl (r++b)=(mw es rs pl p++tms es rs pl r)++_;rw[CG es rs pl b r,QR]
theorem zA(es:J Er)(rs:J Z)(pl:Z):∀(ps:J (Z×D' Z))(z4:Z),ps.foldl (cW es rs pl) z4=(tms es rs pl ps).foldl max z4
 |[],_=>rfl
 |p::r,z4=>by
  rw[Qw,zA es rs pl r];show _=(mw es rs pl p++tms es rs pl r).foldl max z4;rw[Sf];have e:cW es rs pl z4 p=(mw es rs pl p).foldl max z4:=by
   unfold cW mw;cases p.2 with
   |none=>rfl
   |some t =>
    simp only;cases aG es rs t with
    |none=>rfl
    |some h=>simp only;split <;> rfl
  rw[e]
theorem rj(es:J Er)(rs:J Z)(pl:Z):∀(ps:J (Z×D' Z)),(∀p∈ps,1<=p.1)->∀a∈tms es rs pl ps,0<=a
 |[],_,a,h=>by cases h
 |p::r,hp,a,h=>by
  have h1:=hp p P7;unfold tms at h;rcases Ql.mp h with h|h
  .unfold mw at h;split at h
   .split at h
    .split at h
     .cases PV.mp h;omega
     .cases h
    .cases h
   .cases h
  .exact rj es rs pl r (λq b=>hp q (P4 _ b)) a h
theorem Dh(h:∀a∈ns,0<=a):(k6 ns).getD 0=ns.foldl max 0:=by
 have c:(λa b:Z=>if b>a then b else a)=max:=by funext a b;split <;> omega
 cases ns with
 |nil=>rfl
 |cons x r =>have hx:=h x P7;show r.foldl (λa b:Z=>if b>a then b else a) x=r.foldl max (max 0 x);rw[c,show max 0 x=x by omega]
def tmD(C:HL)(d:L):PyData:=(bf C "times" d).getD .none
theorem tE(C:HL)(m k t l:Z):bf C "times" (hdD C m k t l)=⇑l:=by
 have n1:¬ (("number":M')="times"):=by decide +kernel
 have n2:¬ (("part":M')="times"):=by decide +kernel
 have a:¬ (("tool":M')="times"):=by decide +kernel
 dsimp[hdD,AI,P0,Qv,bf,Wy,Sn,jC,n1,n2,a,SK]
theorem DZ(C:HL)(es:J Er)(rs:J Z)(pl m k:Z)(p:Z×D' Z):(i7 C es rs pl m k p).map (tmD C)=(mw es rs pl p).map EE/\∀d∈i7 C es rs pl m k p,bf C "times" d=Y (tmD C d):=by
 unfold i7 mw;cases p.2 with
 |none=>exact⟨rfl,λd hd=>by cases hd⟩
 |some t =>
  simp only;cases aG es rs t with
  |none=>exact⟨rfl,λd hd=>by cases hd⟩
  |some h =>
   simp only;split
   .rw[P0,Qv];refine⟨by unfold tmD;rw[tE];rfl,λd hd=>?_⟩;cases PV.mp hd;unfold tmD;rw[tE];rfl
   .exact⟨rfl,λd hd=>by cases hd⟩
theorem Ct(C:HL)(es:J Er)(rs:J Z)(pl m:Z):∀(ps:J (Z×D' Z))(k:O),(hdM C es rs pl m k ps).map (tmD C)=(tms es rs pl ps).map EE/\∀d∈hdM C es rs pl m k ps,bf C "times" d=Y (tmD C d)
 |[],_=>⟨rfl,λd hd=>by cases hd⟩
 |p::r,k=>by
  obtain⟨a1,a2⟩:=DZ C es rs pl m k p;obtain⟨a,b⟩:=Ct C es rs pl m r (k+1);rw[show hdM C es rs pl m k (p::r)=i7 C es rs pl m k p++hdM C es rs pl m (k+1) r from rfl,show tms es rs pl (p::r)=mw es rs pl p++tms es rs pl r from rfl];refine⟨by rw[Qm,Qm,a1,a],λd hd=>?_⟩;rcases Ql.mp hd with h|h
  .exact a2 d h
  .exact b d h
theorem vT(C:HL)(es:J Er)(rs:J Z)(pl:Z):∀(ms:J Z),(iw C es rs pl ms).map (tmD C)=(tms es rs pl ((ms.map λm=>(aK es m).parts).flatten)).map EE/\∀d∈iw C es rs pl ms,bf C "times" d=Y (tmD C d)
 |[]=>⟨rfl,λd hd=>by cases hd⟩
 |m::r=>by
  obtain⟨a1,a2⟩:=Ct C es rs pl m (aK es m).parts 0;obtain⟨a,b⟩:=vT C es rs pl r;unfold iw;refine⟨by rw[Qm,P0,QX,CG,Qm,a1,a],λd hd=>?_⟩;rcases Ql.mp hd with h|h
  .exact a2 d h
  .exact b d h
theorem pZ(C:HL)(es:J Er)(rs:J Z)(pl:Z)(b:O):∀(ms:J Z),(∀m∈ms,(aK es m).parts.length<=b)->(iw C es rs pl ms).length<=b*ms.length
 |[],_=>by simp[iw]
 |m::r,h=>by
  have h1:=h m P7;have h2:=wj C es rs pl m (aK es m).parts 0;have h3:=pZ C es rs pl b r λx a=>h x (P4 _ a)
  unfold iw;rw[PU,PZ,O.mul_succ];omega
def cm:Gf
 |[d,r,.int n]=>if okW d r n then .ok (.int (eJ (cu d) (b9 r) n)) else .no
 |_=>.no
theorem i6(h1:1<=es.length)(h2:es.length<=6)(h:∀e∈es,e.Wk)(a:bJ es.length rs)(n0:0<=n)(n1:n<es.length):cm [ar es,aj rs,.int n]=.ok (.int (eJ es rs n)):=by unfold cm;dsimp[pF h1 h2 h a n0 n1,Sn,fk,dZ]
theorem rN(cs:Cs):LLq (gp cs (bR cs)) 3 0 cm:=by
 intro ds hl a;obtain⟨d,r,n,i,h⟩:=l8 a;clear a;subst i;have a:=h;clear h
 .skip
  split at a
  .rename_i hc;obtain⟨es,rs,rfl,rfl,_,_,l1,l6,hok,c,n0,n1⟩:=iW hc;rw[i6 l1 l6 hok c n0 n1];have j:=ji cs l1 l6 hok c n0 n1;obtain⟨o,q⟩:=vT cs.Holding es rs (placeOf rs n) (rs.drop (placeOf rs n+1));have hrl:=c.len;have b:∀m∈rs.drop (placeOf rs n+1),(aK es m).Wk:=λm hm=>by have:=c.rng m (Qt hm);exact hok _ (bK this.1 ⋯)
   have hln:=pZ cs.Holding es rs (placeOf rs n) 4 (rs.drop (placeOf rs n+1)) λm hm=>(b m hm).p2
   have hdl:(rs.drop (placeOf rs n+1)).length<=6:=by rw[Rl];omega
   have e:a9 3 (br (ao (bR cs) #[0,0,1,2])) bF (g1 (bf cs.Holding "times") (ae 3)) aL #[3,⇑n]=.ok ((iw cs.Holding es rs (placeOf rs n) (rs.drop (placeOf rs n+1))).map (tmD cs.Holding)) :=
    dR rfl (by dsimp[jl,bp,ay,aF,aq,av,Rs.ag,j];rfl) ⋯ λx s=>by dsimp[Qx,Qs,iE,aq,av,Rs.ag,q x s,Rs.ai]
   have f:yL (.list ((iw cs.Holding es rs (placeOf rs n) (rs.drop (placeOf rs n+1))).map (tmD cs.Holding))) (.int 0)=⇑(eJ es rs n):=by
    unfold yL;simp only;rw[o,ej,QL,Dh (rj _ _ _ _ λp u=>?_),<-zA]
    .rfl
    .obtain⟨l,hl,g⟩:=J.mem_flatten.mp u;obtain⟨m,hm,rfl⟩:=PQ.mp hl;exact ((b m hm).pl p g).1
   show bc (gp cs (bR cs) #[3,⇑n])=_;dsimp[gp,bW,bQ,mX,e,Rs.ag,cA,f,Rs.ai,aw,a8]
  .cases a rfl
def qt(f:Z->Z)(T:Z):O->Z->J Z
 |0,l=>[l]
 |m+1,l=>if l=T then [l] else l::qt f T m (f l)
def DP:D' (J Z)->L
 |some l=>.list (l.map .int)
 |none=>.none
structure Top(f:Z->Z)(T:Z):Prop where
 fix:f T=T
 one:1<=T
 low:∀s,1<=s->s<T->¬ f s<=s
theorem tw{f:Z->Z}{T:Z}(R:qf f)(P:Top f T):∀(m:O)(l:Z),1<=l->l<=T->T-l<=m->(qt f T m l).getLast?=Y T
 |0,l,h1,h2,h3=>by
  have:l=T:=⋯
  rw[this];rfl
 |m+1,l,h1,h2,h3=>by
  unfold qt;by_cases z:l=T
  .rw[FC z,z];rfl
  .rw[GC z,J.getLast?_cons];have hf:=P.low l h1 ⋯;have a:=R.mono l T h1 h2;rw[P.fix]at a;rw[tw R P m (f l) ⋯ a ⋯];rfl
def bZ:Gf
 |[.int t,.int e]=>if 0<e/\e<1073741824 then .ok (.int ((t+e-1) / e)) else .no
 |_=>.no
theorem MR{f:Z->Z->Rs L}(h:(match ds with|[.int a,.int x1]=>f a x1|_=>.no)≠.no):∃a x1,ds=[.int a,.int x1]/\f a x1≠.no:=by
 rcases ds with _|⟨a,_|⟨x1,_|⟨y,ys⟩⟩⟩
 .cases h rfl
 .first|cases h rfl|(cases a <;> cases h rfl)
 .skip
  cases a with
  |int a =>
   cases x1 with
   |int x1 =>exact⟨_,_,rfl,h⟩
   |_=>cases h rfl
  |_=>first|cases h rfl|(cases x1 <;> cases h rfl)
 .first|cases h rfl|(cases a <;> first|cases h rfl|(cases x1 <;> cases h rfl))
theorem xq(cs:Cs):LLq (iM cs) 2 0 bZ:=by
 intro ds hl a;obtain⟨t,e,c,b⟩:=MR a;clear a;subst c;have a:=b;clear b;unfold bZ
 .skip
  split at a
  .rename_i hc;dsimp[FC hc];show bc (iM cs [⇑t,⇑e])=_;dsimp[iM,bW,bQ,aq,av,cA,Rs.ag,dD,oF,Rs.ai,vt,FC hc,aw,a8]
  .cases a rfl
theorem CF{x e:Z}(h:0<e):(x+e-1) / e=x / e+(if x % e>0 then 1 else 0):=by
 have h1:=RZ x e;have h2:=QM x (show e≠0 by omega);have h3:=Rb x h;generalize x / e=q at *;generalize x % e=r at *;have ex:x+e-1=r+e-1+e*q:=⋯
 rw[ex,S4 _ _ ⋯];by_cases z:r>0
 .rw[FC z,show r+e-1=(r-1)+e*1 by omega,S4 _ _ ⋯,RT ⋯ ⋯];omega
 .rw[GC z,RT ⋯ ⋯];omega
theorem uO{t:Z}(h:e.Sh):bZ [.int (t+e.late),.int e.every]=.ok (.int (e.times t)):=by have h1:=h.e1;have h2:=h.e2;unfold bZ;dsimp[FC (show 0<e.every/\e.every<1073741824 from⟨⋯,h2⟩)];rw[CF ⋯];rfl
def eK(es:J Er)(rs:J Z)(n h t:Z):Int:=h+(aK es n).work+((rs.take (placeOf rs n)).map λm=>(aK es m).times t*(aK es m).work).sum
theorem oP(hok:∀e∈es,e.Wk)(c:bJ es.length rs)(n0:0<=n)(n1:n<es.length)(h0:0<=h):qf (eK es rs n h) where
 mono:=λt u _ f=>by have:=zY (n:=n) (λe g=>(hok e g).sh) c f;unfold fT at this;unfold eK;omega
 one:=λt f=>by
  unfold eK;have h2:=(hok _ (bK n0 n1)).work1;have h3:=mW (λm=>(aK es m).times t*(aK es m).work) (rs.take (placeOf rs n)) λm hm=>by have a:=c.rng m (QP hm);have b:=hok _ (bK a.1 a.2);have l0:=b.l1;exact S6 (Er.times_pos b.sh.e1 ⋯) b.sh.work_b.1
  omega
def dJ:Gf
 |[d,r,.int n,.int h,.int t]=>if okW d r n then .ok (.int (eK (cu d) (b9 r) n h t)) else .no
 |_=>.no
theorem rL{t:Z}(h1:1<=es.length)(h2:es.length<=6)(a:∀e∈es,e.Wk)(b:bJ es.length rs)(n0:0<=n)(n1:n<es.length):dJ [ar es,aj rs,.int n,.int h,.int t]=.ok (.int (eK es rs n h t)):=by unfold dJ;dsimp[pF h1 h2 a b n0 n1,Sn,fk,dZ]
theorem J0{b:Z}(h:δ[i]?=Y ⇑a)(c:g δ=.ok (.int b)):A9 [] i g δ=.nx (δ.set i ⇑(a+b)):=by unfold A9;rw[fL,h];dsimp[c,aw]
abbrev HR:Ds->Sr:=az (aJ [] 7 (g2 dIx (ae 0) (ae 6)))
 (A9 [] 5 (g2 fB (ao bw #[0,7]) (ao bZ #[0,g2 aP (ae 4) (g2 dIx (ae 7) ↑2),g2 dIx (ae 7) ↑0])))
theorem CT{es:J Er}{rs:J Z}(f:∀e∈es,e.Sh)(s:bJ es.length rs)(n h:L)(t:Z):∀(ms:J Z)(z4:Z)(x6 x7:D' L),(∀m∈ms,m∈rs) ->
  ∃i j,forL (aU 6) HR (ms.map EE) #[3,Y n,Y h,⇑t,⇑z4,x6,x7]
   =.nx #[3,Y n,Y h,⇑t,⇑(z4+(ms.map λm=>(aK es m).times t*(aK es m).work).sum),i,j]
 |[],z4,x6,x7,_=>⟨x6,x7,by simp[forL]⟩
 |m::r,z4,x6,x7,hm'=>by
  have hm:=hm' m P7;have g:=s.rng m hm;have c:=f _ (bK g.1 ⋯);have a2:atI (es.map Er.d) m=Y (aK es m).d:=eX g.1 ⋯;obtain⟨i,j,e2⟩:=CT f s n h t r (z4+(aK es m).times t*(aK es m).work) ⇑m (Y (aK es m).d) λx u=>hm' x (P4 _ u)
  refine⟨i,j,?_⟩;have hw:=c.work_b;have l:=ft c;have o:=uO (t:=t) c;rw[P0,P0,Qe,<-VR];unfold forL;generalize hE:aK es m=e at *;have i2:dIx e.d (.int 2)=⇑e.late:=rfl;have v:dIx e.d (.int 0)=⇑e.every:=rfl;have p:aJ [] 7 (g2 dIx (ae 0) (ae 6)) #[3,Y n,Y h,⇑t,⇑z4,⇑m,x7]=.nx #[3,Y n,Y h,⇑t,⇑z4,⇑m,Y e.d]:=by rw[gH,FC #[2]];dsimp[bQ,aq,av,Rs.ag,ar,mz,a2,Rs.ai,aw];rfl
  have q:A9 [] 5 (g2 fB (ao bw #[0,7]) (ao bZ #[0,g2 aP (ae 4) (g2 dIx (ae 7) ↑2),g2 dIx (ae 7) ↑0])) #[3,Y n,Y h,⇑t,⇑z4,⇑m,Y e.d]=.nx #[3,Y n,Y h,⇑t,⇑(z4+e.times t*e.work),⇑m,Y e.d]:=by
    rw[J0 (a:=z4) (b:=e.times t*e.work) rfl]
    .rfl
    .dsimp[bQ,bp,ay,aF,aq,av,cA,Rs.ag,i2,v,Rs.ai,dD,l,o,t8 (b:=e.times t) (show -(2 ^ 64)<e.work by omega) (show e.work<2 ^ 64 by omega)];rw[Z.mul_comm e.work]
  have w:aU 6 (.int m) #[3,Y n,Y h,⇑t,⇑z4,x6,x7]=Y #[3,Y n,Y h,⇑t,⇑z4,⇑m,x7]:=rfl;rw[w];dsimp[HR,aQ,p,q];exact e2
theorem DW{f:L->L->Z->Z->Z->Rs L}(h:(match ds with|[a,x1,.int x2,.int x3,.int x4]=>f a x1 x2 x3 x4|_=>.no)≠.no):∃a x1 x2 x3 x4,ds=[a,x1,.int x2,.int x3,.int x4]/\f a x1 x2 x3 x4≠.no:=by
 rcases ds with _|⟨a,_|⟨x1,_|⟨x2,_|⟨x3,_|⟨x4,_|⟨y,ys⟩⟩⟩⟩⟩⟩
 .cases h rfl
 .cases h rfl
 .cases h rfl
 .first|cases h rfl|(cases x2 <;> cases h rfl)
 .first|cases h rfl|(cases x2 <;> first|cases h rfl|(cases x3 <;> cases h rfl))
 .skip
  cases x2 with
  |int x2 =>
   cases x3 with
   |int x3 =>
    cases x4 with
    |int x4 =>exact⟨_,_,_,_,_,rfl,h⟩
    |_=>cases h rfl
   |_=>first|cases h rfl|(cases x4 <;> cases h rfl)
  |_=>first|cases h rfl|(cases x3 <;> first|cases h rfl|(cases x4 <;> cases h rfl))
 .first|cases h rfl|(cases x2 <;> first|cases h rfl|(cases x3 <;> first|cases h rfl|(cases x4 <;> cases h rfl)))
theorem Mc(cs:Cs):LLq (wB cs bw bZ) 5 3 dJ:=by
 intro ds hl a;obtain⟨d,r,n,h,t,p,o⟩:=DW a;clear a;subst p;have a:=o;clear o
 .skip
  split at a
  .rename_i hc;obtain⟨es,rs,rfl,rfl,_,_,l1,l6,hok,f,n0,n1⟩:=iW hc;rw[rL l1 l6 hok f n0 n1];have b:∀e∈es,e.Sh:=λe q=>(hok e q).sh
   have c:=f.mem n0 ⋯;have g:=fX c;have i:=b _ (bK n0 n1);have a2:atI (es.map Er.d) n=Y (aK es n).d:=eX n0 n1;have j:=ft i;obtain⟨y6,y7,e⟩:=CT b f (.int n) (.int h) t (rs.take (placeOf rs n)) (h+(aK es n).work) S S (λm hm=>QP hm);have src:br (eV (ae 1) dk (gP (kY (ae 1) (ae 2)))) #[3,⇑n,⇑h,⇑t,⇑(h+(aK es n).work),S,S]=.ok ((rs.take (placeOf rs n)).map EE):=by dsimp[jl,lS,oJ,ke,pR,aq,av,Rs.ag,aj,g,Rs.ai,nQ,tq,mM];rw[GF,XM]
   have l:aJ [] 5 (g2 aP (ae 3) (ao bw #[0,g2 dIx (ae 0) (ae 2)])) #[3,⇑n,⇑h,⇑t,S,S,S]=.nx #[3,⇑n,⇑h,⇑t,⇑(h+(aK es n).work),S,S]:=by rw[gH,FC #[2]];dsimp[bQ,bp,ay,aF,aq,av,Rs.ag,ar,mz,a2,Rs.ai,j,dD,aw];rfl
   show bc (wB cs bw bZ #[3,⇑n,⇑h,⇑t,S,S,S])=_;dsimp[wB];rw[aQ,l];simp only;rw[aQ,iB,fL,src,aw,e];rfl
  .cases a rfl
def jr(es:J Er)(rs:J Z)(n h:Z):D' Int:=gz ((aK es n).every-(aK es n).late).toNat λt=>decide (eK es rs n h t<=t)
theorem rA(es:J Er)(rs:J Z)(n:Z):jr es rs n (eJ es rs n)=iZ es rs n:=rfl
def jw(es:J Er)(rs:J Z)(n h:Z):D' (J Z):=(jr es rs n h).map λT=>qt (eK es rs n h) T T.toNat (eK es rs n h 1)
abbrev xC:Ds->Rs Bool:=gT (g2 dLe (ae 6) (ae 4))
abbrev xA:Ds->Sr:=az (iO [5] 5 (ae 6))
 (az (aJ [5] 7 (ao dJ #[0,0,1,2,3,6]))
 (az (sIf (gT (g2 dEq (ae 7) (ae 6))) (bq (ae 5)) ba)
 (aJ [5] 6 (ae 7))))
section
variable {E Rr N h:L}{f:Z->Z}{most:Z}
theorem xl(a:∀t,dJ [E,Rr,N,h,.int t]=.ok (.int (f t)))(l:Z)(z4:J L)(hl:z4.length<1000000)(x7:D' L) :
  xA [Y E,Y Rr,Y N,Y h,⇑most,↥z4,⇑l,x7]
   =if f l=l then .rt (.list (z4++[.int l])) else .nx [Y E,Y Rr,Y N,Y h,⇑most,↥(z4++[.int l]),⇑(f l),⇑(f l)]:=by
 have b:iO [5] 5 (ae 6) [Y E,Y Rr,Y N,Y h,⇑most,↥z4,⇑l,x7]=.nx [Y E,Y Rr,Y N,Y h,⇑most,↥(z4++[.int l]),⇑l,x7]:=by unfold iO;dsimp[QV,QW,aC (show 6∉[5] by decide),aq,av,aw,FC hl];rfl
 have s2:aJ [5] 7 (ao dJ #[0,0,1,2,3,6]) [Y E,Y Rr,Y N,Y h,⇑most,↥(z4++[.int l]),⇑l,x7]=.nx [Y E,Y Rr,Y N,Y h,⇑most,↥(z4++[.int l]),⇑l,⇑(f l)]:=by rw[iF,FC #[2]];dsimp[bp,ay,aF,aC (show 0∉[5] by decide),aC (show 1∉[5] by decide),aC (show 2∉[5] by decide),aC (show 3∉[5] by decide),aC (show 6∉[5] by decide),aq,av,Rs.ag,a,aw];rfl
 have c:aJ [5] 6 (ae 7) [Y E,Y Rr,Y N,Y h,⇑most,↥(z4++[.int l]),⇑l,⇑(f l)]=.nx [Y E,Y Rr,Y N,Y h,⇑most,↥(z4++[.int l]),⇑(f l),⇑(f l)]:=by rw[iF,FC #[2]];dsimp[aC (show 7∉[5] by decide),aq,av,aw];rfl
 unfold xA;rw[aQ,b];simp only;rw[aQ,s2];simp only;rw[aQ];by_cases z:f l=l
 .rw[FC z];have q:(f l==l)=true:=by simpa using z
  dsimp[dF,fh,bQ,aq,av,Rs.ag,kU,q,Rs.ai,bO,Sn,aw,bW]
 .rw[GC z];have q:(f l==l)=false:=by simpa using z
  dsimp[dF,fh,bQ,aq,av,Rs.ag,kU,q,Rs.ai,bO,SK,Qb,aw,hZ,c]
theorem qS(l:Z)(a x7:D' L):xC [Y E,Y Rr,Y N,Y h,⇑most,a,⇑l,x7]=.ok (decide (l<=most)):=by dsimp[xC,fh,bQ,aq,av,Rs.ag,OA,Rs.ai,bO]
theorem Cp(a:∀t,dJ [E,Rr,N,h,.int t]=.ok (.int (f t)))(R:qf f){T:Z}(P:Top f T)(c:T<=most):∀(j fuel:O)(l:Z)(z4:J L)(x7:D' L),1<=l->l<=T->T-l<=j->j<fuel->z4.length+j<1000000 ->
  b8 xC xA fuel [Y E,Y Rr,Y N,Y h,⇑most,↥z4,⇑l,x7]=.rt (.list (z4++(qt f T j l).map EE))
 |j,0,l,z4,x7,_,_,_,hf,_=>So hf (Xh _)
 |0,fuel+1,l,z4,x7,h1,h2,h3,hf,hc=>by
  have e:l=T:=⋯
  have b:f l=l:=by rw[e];exact P.fix
  unfold b8;rw[qS,aw,O' (show l<=most by omega),FC rfl,xl a l z4 ⋯,FC b];rfl
 |j+1,fuel+1,l,z4,x7,h1,h2,h3,hf,hc=>by
  unfold b8;rw[qS,aw,O' (show l<=most by omega),FC rfl,xl a l z4 ⋯];unfold qt;by_cases e:l=T
  .have b:f l=l:=by rw[e];exact P.fix
   rw[FC b,FC e];rfl
  .have hl:=P.low l h1 ⋯;have hm:=R.mono l T h1 h2;rw[P.fix]at hm;rw[GC (show ¬ f l=l by omega),GC e];simp only;rw[Cp a R P c j fuel (f l) (z4++[EE l]) _ ⋯ hm ⋯ ⋯ (by rw[PU,Qr];omega)];rw[P0,QR];rfl
theorem B0(a:∀t,dJ [E,Rr,N,h,.int t]=.ok (.int (f t)))(no:∀s,1<=s->s<=most->¬ f s<=s):∀(j fuel:O)(l:Z)(z4:J L)(x7:D' L),1<=l->most-l<j->j<fuel->z4.length+j<1000000 ->
  ∃δ,b8 xC xA fuel [Y E,Y Rr,Y N,Y h,⇑most,↥z4,⇑l,x7]=.nx δ
 |j,0,l,z4,x7,_,_,hf,_=>So hf (Xh _)
 |0,fuel+1,l,z4,x7,h1,h3,hf,hc=>by unfold b8;rw[qS,aw,L' (show ¬ l<=most by omega),GC #[1]];exact⟨_,rfl⟩
 |j+1,fuel+1,l,z4,x7,h1,h3,hf,hc=>by
  unfold b8;rw[qS,aw];by_cases e:l<=most
  .rw[O' e,FC rfl,xl a l z4 ⋯];have hl:=no l h1 e;rw[GC (show ¬ f l=l by omega)];simp only;exact B0 a no j fuel (f l) (z4++[EE l]) _ ⋯ ⋯ ⋯ (by rw[PU,Qr];omega)
  .rw[L' e,GC #[1]];exact⟨_,rfl⟩
end
def dh:Gf
 |[d,r,.int n,.int h]=>if okW d r n&&decide (0<=h) then .ok (DP (jw (cu d) (b9 r) n h)) else .no
 |_=>.no
theorem kW(h1:1<=es.length)(h2:es.length<=6)(a:∀e∈es,e.Wk)(b:bJ es.length rs)(n0:0<=n)(n1:n<es.length)(c:0<=h):dh [ar es,aj rs,.int n,.int h]=.ok (DP (jw es rs n h)):=by unfold dh;dsimp[pF h1 h2 a b n0 n1,O' c,Sa,Sn,fk,dZ]
theorem CW(R:qf (eK es rs n h))(e:jr es rs n h=Y T):Top (eK es rs n h) T/\T<=(aK es n).every-(aK es n).late:=by
 obtain⟨h1,h2,h3,f⟩:=oy e;have c:∀s,1<=s->s<T->¬ eK es rs n h s<=s:=λs a b=>Tr (f s a b)
 exact⟨⟨R.fix h1 (Sw h3) c,h1,c⟩,⋯⟩
theorem xN(cs:Cs):LLq (jF cs dJ) 4 4 dh:=by
 intro ds hl c;obtain⟨d,r,n,h,m,i⟩:=rS c;clear c;subst m;have c:=i;clear i
 .skip
  split at c
  .rename_i hc;dsimp[P9,L3]at hc;obtain⟨hc,j⟩:=hc;obtain⟨es,rs,rfl,rfl,_,_,l1,l6,hok,g,n0,n1⟩:=iW hc;rw[kW l1 l6 hok g n0 n1 j];have e:∀t,dJ [ar es,aj rs,.int n,.int h,.int t]=.ok (.int (eK es rs n h t)):=λt=>rL l1 l6 hok g n0 n1
   have R:=oP (h:=h) hok g n0 n1 j;have f:=hok _ (bK n0 n1);have a2:atI (es.map Er.d) n=Y (aK es n).d:=eX n0 n1;have o:dIx (ar es) (.int n)=Y (aK es n).d:=a2;have i2:dIx (aK es n).d (.int 2)=Y (.int (aK es n).late):=rfl;have p:dIx (aK es n).d (.int 0)=Y (.int (aK es n).every):=rfl;have e60:=f.e2;have la0:=f.l1;have f1:=R.one 1 #[1];generalize hM:(aK es n).every-(aK es n).late=M at *;have u:aJ [5] 4 (g2 cK (g2 dIx (g2 dIx (ae 0) (ae 2)) ↑0) (g2 dIx (g2 dIx (ae 0) (ae 2)) ↑2)) #[3,⇑n,⇑h,S,S,S,S]=.nx #[3,⇑n,⇑h,⇑M,S,S,S]:=by rw[iF,FC #[2]];dsimp[bQ,aC (show 0∉[5] by decide),aC (show 2∉[5] by decide),aq,av,cA,Rs.ag,o,i2,p,Rs.ai,oF,aw,hM];rfl
   have s2:ff [5] 5 ah #[3,⇑n,⇑h,⇑M,S,S,S]=.nx #[3,⇑n,⇑h,⇑M,↥[],S,S]:=rfl;have v:aJ [5] 6 (ao dJ #[0,0,1,2,3,↑1]) #[3,⇑n,⇑h,⇑M,↥[],S,S]=.nx #[3,⇑n,⇑h,⇑M,↥[],⇑(eK es rs n h 1),S]:=by rw[iF,FC #[2]];dsimp[bp,ay,aF,aC (show 0∉[5] by decide),aC (show 1∉[5] by decide),aC (show 2∉[5] by decide),aC (show 3∉[5] by decide),aq,av,cA,Rs.ag,e,aw];rfl
   show bc (jF cs dJ #[3,⇑n,⇑h,S,S,S,S])=_;dsimp[jF];rw[aQ,u];simp only;rw[aQ,s2];simp only;rw[aQ,v];simp only;rw[aQ];cases q:jr es rs n h with
   |some T =>
    obtain⟨P,l⟩:=CW R q;rw[hM]at l;have hle:eK es rs n h 1<=T:=by have:=R.mono 1 T #[1] P.one;rw[P.fix]at this;exact this
    have w:=Cp e R P l T.toNat 1000000 (eK es rs n h 1) [] S f1 hle ⋯ ⋯ (by simp;omega);rw[w];dsimp[jw,q,QL,DP,Qs,a8]
   |none =>
    have no:∀s,1<=s->s<=M->¬ eK es rs n h s<=s:=λs a b=>by have:=wN q s a ⋯;exact Tr this
    obtain⟨δ,w⟩:=B0 e no 100 1000000 (eK es rs n h 1) [] S f1 ⋯ #[1] #[1];rw[w];dsimp[jw,q,D'.map_none,DP,bW,cA,aw,a8]
  .cases c rfl
def bI:Gf
 |[d,r,.int n,.int h]=>if okW d r n&&decide (0<=h) then .ok (aW (jr (cu d) (b9 r) n h)) else .no
 |_=>.no
theorem gY(h1:1<=es.length)(h2:es.length<=6)(a:∀e∈es,e.Wk)(b:bJ es.length rs)(n0:0<=n)(n1:n<es.length)(c:0<=h):bI [ar es,aj rs,.int n,.int h]=.ok (aW (jr es rs n h)):=by unfold bI;dsimp[pF h1 h2 a b n0 n1,O' c,Sa,Sn,fk,dZ]
theorem xy(cs:Cs):LLq (gG cs dh) 4 1 bI:=by
 intro ds hl a;obtain⟨d,r,n,h,j,i⟩:=rS a;clear a;subst j;have a:=i;clear i
 .skip
  split at a
  .rename_i hc;dsimp[P9,L3]at hc;obtain⟨hc,f⟩:=hc;obtain⟨es,rs,rfl,rfl,_,_,l1,l6,hok,g,n0,n1⟩:=iW hc;rw[gY l1 l6 hok g n0 n1 f];have c:=kW l1 l6 hok g n0 n1 f;have R:=oP (h:=h) hok g n0 n1 f;show bc (gG cs dh #[3,⇑n,⇑h,S])=_;cases q:jr es rs n h with
   |none =>
    have e:jw es rs n h=none:=by unfold jw;rw[q];rfl
    rw[e]at c;simp[gG,c,DP,aW,gIf]
   |some T =>
    obtain⟨P,hT⟩:=CW R q;have hle:eK es rs n h 1<=T:=by have:=R.mono 1 T #[1] P.one;rw[P.fix]at this;exact this
    have f1:=R.one 1 #[1];have e:jw es rs n h=Y (qt (eK es rs n h) T T.toNat (eK es rs n h 1)):=by unfold jw;rw[q];rfl
    rw[e]at c;have b:=tw R P T.toNat (eK es rs n h 1) f1 hle ⋯;have l:dIx (.list ((qt (eK es rs n h) T T.toNat (eK es rs n h 1)).map EE)) (.int (-1))=⇑T:=by show atI _ (-1)=_;rw[l9,RQ,b];rfl
    simp[gG,c,DP,aW,l,gIf];rfl
  .cases a rfl
def bP:Gf
 |[d,r,.int n]=>if okW d r n then .ok (aW (iZ (cu d) (b9 r) n)) else .no
 |_=>.no
theorem gQ(h1:1<=es.length)(h2:es.length<=6)(h:∀e∈es,e.Wk)(a:bJ es.length rs)(n0:0<=n)(n1:n<es.length):bP [ar es,aj rs,.int n]=.ok (aW (iZ es rs n)):=by unfold bP;dsimp[pF h1 h2 h a n0 n1,Sn,fk,dZ]
theorem nH(cs:Cs):LLq (fe cs cm bI) 3 0 bP:=by
 intro ds hl a;obtain⟨d,r,n,e,c⟩:=l8 a;clear a;subst e;have a:=c;clear c
 .skip
  split at a
  .rename_i hc;obtain⟨es,rs,rfl,rfl,_,_,l1,l6,hok,b,n0,n1⟩:=iW hc;rw[gQ l1 l6 hok b n0 n1];have h1:=i6 l1 l6 hok b n0 n1;have h2:=gY l1 l6 hok b n0 n1 (tO es rs n);rw[rA]at h2;show bc (fe cs cm bI #[3,⇑n])=_;dsimp[fe,bW,bp,ay,aF,aq,av,Rs.ag,h1,h2,aw,a8]
  .cases a rfl
theorem DH(cs:Cs):LLq (lX cs bP bx) 3 0 cF:=by
 intro ds hl a;obtain⟨d,r,n,f,c⟩:=l8 a;clear a;subst f;have a:=c;clear c
 .skip
  split at a
  .rename_i hc;obtain⟨es,rs,rfl,rfl,_,_,l1,l6,hok,b,n0,n1⟩:=vR hc;have h1:=mE l1 l6 hok b n0 n1;have h3:=gQ l1 l6 (λe g=>(hok e g).wk) b n0 n1;have h2:=gK l1 l6 hok b n0 n1;show bc (lX cs bP bx #[3,⇑n])=_;dsimp[lX,aQ,qT,bp,ay,aF,aq,av,Rs.ag,h2,aw,bW,h3,h1,a8]
  .cases a rfl
theorem BX{z6:L}{len:M'}{js:J Jb}{out:J L}:∀(n k:O),wt z6 len n (stJ z6 len js k)=Y out->∃T,k<=T/\T<k+n/\out=(stJ z6 len js T).2/\(stJ z6 len js T).1.all Jb.done=true
 |0,k,h=>by cases h
 |n+1,k,h=>by
  unfold wt at h;split at h
  .rename_i hd;cases h;exact⟨k,PN _,⋯,rfl,hd⟩
  .obtain⟨T,h1,h2,h3,a⟩:=BX n (k+1) h;exact⟨T,⋯,⋯,h3,a⟩
section
variable {len:M'}{t:J L}
end
section
variable {len:M'}{t:J L}
theorem vn(j:Jb):jV (i4 j)=Y (j.num,(j.job:Z)):=rfl
theorem Trc.told{n:O}{q:O->O->Jb}(R:Trc z6 n q ve){t:J L}{T:O} (g:∀i,i<T->t[i]?=Y (match ve i with
    |some m=>i4 (q m i)
    |none=>.none)) (hl:t.length=T) (h:∀m,m<n->(q m 0).tot=0) (l:∀m,m<n->(q m T).job=(q m T).row.length) {a:O} (ha:a<n) {k:O} (hk:k<(q a 0).row.length) :
  (∃(j:O)(d:L),t[j]?=Y d/\jV d=Y ((a:Z),(k:Z)))/\∀(j:O)(d:L),t[j]?=Y d->jV d=Y ((a:Z),(k:Z))->(q a j).tot<((k:Z)+1)*(q a 0).work:=by
 have wp:=R.wpos ha 0;constructor
 .have h1:((k:Z)+1)*(q a 0).work<=(q a T).tot:=by have e:(q a T).tot=((q a T).job:Z)*(q a T).work+(q a T).cur:=rfl;have cb:=nY (R.ok T ha);rw[R.wk ha T,l a ha,(R.stay ha T).2.1]at e;have:=Qo (a:=(k:Z)+1) (b:=((q a 0).row.length:Z)) (c:=(q a 0).work) ⋯ ⋯;omega
  have hkn:0<=(k:Z)*(q a 0).work:=S6 ⋯ ⋯;have h2:(k:Z)*(q a 0).work+1<=(q a T).tot:=by rw[RA]at h1;omega
  obtain⟨i,_,hi,w,e⟩:=R.passed ha (B:=0) (v:=(k:Z)*(q a 0).work+1) T (by rw[h a ha];omega) (by rw[QG];exact h2);rw[QG]at hi;have:=g i hi;rw[w]at this;refine⟨i,_,this,?_⟩;show jV (i4 (q a i))=_;rw[vn,R.num i ha,R.job_tot ha i,e];rw[show (k:Z)*(q a 0).work+1-1=(k:Z)*(q a 0).work by omega,Z.mul_ediv_cancel _ ⋯]
 .intro j d hd f;have o:j<T:=by rw[<-hl];exact (Qa.mp hd).1
  rw[g j o]at hd;cases w:ve j with
  |none=>rw[w]at hd;cases hd;cases f
  |some m =>
   rw[w]at hd;cases hd;rw[vn]at f;have e1:=P' f;have hm:=R.lt w;have e2:=congrArg Prod.fst e1;have p:=congrArg Prod.snd e1;simp only at e2 p;rw[R.num j hm]at e2;have:m=a:=⋯
   subst this;have:=AY (R.ok j hm) (k:=k+1) ⋯;rw[R.wk hm j]at this;rw[show ((k+1:O):Z)=(k:Z)+1 by omega]at this;exact this
end
theorem Cms.at(h:Cms es z5):∀{i:O}{e:Er}{row:J Z},es[i]?=Y e->z5[i]?=Y row->oz row/\hvE e row=true:=by
 induction h with
 |nil=>intro i e row h;simp at h
 |cons h1 h2 _ ih =>
  intro i e row a b;cases i with
  |zero=>cases a;cases b;exact⟨h1,h2⟩
  |succ i=>exact ih a b
theorem Fd{ev la:Z}:∀{row:J Z}{m:Z},hvM ev la m row=true->∀k(h:k+1<row.length),row[k]+ev-la<=row[k+1]
 |[],_,_,k,h=>by simp at h
 |[_],_,_,k,h=>by simp at h
 |c::d::r,m,hh,k,h=>by
  unfold hvM at hh;have hw:c-la<=(if c-la>m then c-la else m):=by split <;> omega
  generalize (if c-la>m then c-la else m)=w at hh hw;by_cases h1:c<w
  .rw[FC h1]at hh;cases hh
  .rw[GC h1]at hh;cases k with
   |zero =>
    unfold hvM at hh;have a:w+ev<=(if d-la>w+ev then d-la else w+ev):=by split <;> omega
    generalize (if d-la>w+ev then d-la else w+ev)=u at hh a;by_cases h2:d<u
    .rw[FC h2]at hh;cases hh
    .show c+ev-la<=d;omega
   |succ k=>exact Fd hh k (by simpa using h)
theorem Hf(ok:e.Ok){B':Z}(h:1<=B'):(B'-1+e.late) / e.every+1=e.times B':=by unfold Er.times;have e1:=ok.e1;have:=CF (x:=B'+e.late) (e:=e.every) ⋯;rw[<-this];rw[show B'+e.late+e.every-1=B'-1+e.late+e.every*1 by omega,S4 _ _ ⋯]
section
variable {n:O}{q:O->O->Jb}
end
theorem oH(l:J (Z×Z))(k v a:Z):cJ (p7 l k v) a=if a=k then Y v else cJ l a:=by
 unfold p7;by_cases ha:(l.any λp=>decide (p.1=k))=true
 .rw[FC ha];unfold cJ
  induction l with
  |nil=>cases ha
  |cons p r ih =>
   rw[P0];by_cases z:p.1=k
   .rw[FC z,Qd,Qd];by_cases y:a=k
    .rw[FC y];have:decide (p.1=a)=true:=O' (by rw[z,y]);dsimp[this];rfl
    .rw[GC y];have:decide (p.1=a)=false:=L' λq=>y (q.symm.trans z)
     dsimp[this];cases b:(r.any λp=>decide (p.1=k)) with
     |true=>rw[ih b,GC y]
     |false =>
      have:r.map (λp=>if p.1=k then (p.1,v) else p)=r:=by
       have h:∀q∈r,(λp:Z×Z=>if p.1=k then (p.1,v) else p) q=id q:=λq c=>GC λe=>by have:=Sb.mp b q c;exact this (O' e)
       rw[Q3 h,QJ]
      rw[this]
   .rw[GC z,Qd,Qd];have b:(r.any λp=>decide (p.1=k))=true:=by rw[R8,L' z,S9]at ha;exact ha
    by_cases y:p.1=a
    .dsimp[O' y];rw[GC λq=>z (y.trans q)]
    .dsimp[L' y];exact ih b
 .rw[GC ha];unfold cJ;rw[Sg];by_cases y:a=k
  .rw[FC y];have:l.find? (λp=>decide (p.1=a))=none:=Rh.mpr λp f q=>ha (QO.mpr ⟨p,f,by rw[<-y];exact q⟩)
   rw[this,y];show ((([(k,v)]:J (Z×Z)).find? λp=>decide (p.1=k))).map (·.2)=_;rw[Qd];simp
  .rw[GC y];have:([(k,v)]:J (Z×Z)).find? (λp=>decide (p.1=a))=none:=by
    rw[Qd];have:decide (k=a)=false:=L' λq=>y q.symm
    dsimp[this];rfl
   rw[this,XF]
def eff(l:J (Z×Z))(j:Jb):Int:=(cJ l j.num).getD j.rank
theorem pT{t:D' Z}{o:Jb}(h:jB js t=Y o):o∈js/\∃T,t=Y T/\o.held=Y T:=by
 unfold jB at h;cases t with
 |none=>cases h
 |some T =>have h:js.find? (λj=>j.held==Y T)=Y o:=h;have a:=Xi h;exact⟨RI h,T,rfl,eq_of_beq a⟩
section
open Classical
theorem zV(nd:(js.map (·.num)).Nodup)(l:J (Z×Z))(k:Jb){x:Jb}(a:x∈js):eff (jz js l k) x=if jB js k.wanted=Y x then (if eff l x<k.rank then eff l x else k.rank) else eff l x:=by
 unfold jz;cases q:jB js k.wanted with
 |none=>rw[GC (λz=>by cases z)]
 |some o =>
  obtain⟨b,_⟩:=pT q;by_cases e:o.num=x.num
  .have:o=x:=l7 (f:=λy:Jb=>y.num) nd o b x a e;subst this;rw[FC rfl];unfold eff;rw[oH,FC rfl];rfl
  .rw[GC (λz=>e (by cases z;rfl))];unfold eff;rw[oH,GC (λz=>e z.symm)]
theorem BJ(nd:(js.map (·.num)).Nodup){x:Jb}(b:x∈js):∀(ks:J Jb)(l:J (Z×Z)),eff (ks.foldl (jz js) l) x<=eff l x/\∀j∈ks,jB js j.wanted=Y x->eff (ks.foldl (jz js) l) x<=j.rank
 |[],l=>⟨QB _,λj h=>by cases h⟩
 |k::r,l=>by
  obtain⟨h1,h2⟩:=BJ nd b r (jz js l k);have e:=zV nd l k b;rw[Qw];refine⟨?_,λj a c=>?_⟩
  .rw[e]at h1;split at h1
   .split at h1 <;> omega
   .exact h1
  .rcases P8.mp a with rfl|a
   .rw[e,FC c]at h1;split at h1 <;> omega
   .exact h2 j a c
theorem HA(nd:(js.map (·.num)).Nodup){x:Jb}(a:x∈js):∀(ks:J Jb)(l:J (Z×Z)),eff (ks.foldl (jz js) l) x=eff l x\/∃j∈ks,jB js j.wanted=Y x/\eff (ks.foldl (jz js) l) x=j.rank
 |[],l=>.inl rfl
 |k::r,l=>by
  have e:=zV nd l k a;rw[Qw];rcases HA nd a r (jz js l k) with h|⟨j,b,h1,h2⟩
  .rw[h,e];split
   .rename_i c;split
    .exact .inl rfl
    .exact .inr ⟨k,P7,c,rfl⟩
   .exact .inl rfl
  .exact .inr ⟨j,P4 _ b,h1,h2⟩
theorem KS(nd:(js.map (·.num)).Nodup){p:Jb}(f:p∈js){r:Z}(h1:p.rank<=r)(h2:r<(cB z6 "asked" js).rank):∃T,(cB z6 "asked" js).held=Y T/\∃w∈js,w.wanted=Y T/\w.rank<=r:=by
 have m:cB z6 "asked" js=jN (Eo (jc js)) (js.filter (fU js)):=by unfold cB;rw[GC #[1],FC #[1]]
 have g:cB z6 "asked" js∈js:=hV (Rq f);have least:∀x∈js,fU js x=true->eff (jc js) (cB z6 "asked" js)<=eff (jc js) x:=λx n c=>by
  have hm:x∈js.filter (fU js):=Qg.mpr ⟨n,c⟩;have:=vJ (key:=Eo (jc js)) (Rq hm) hm;rw[<-m]at this;have e1:∀a b:Z,ltD (.int a) (.int b)=false->b<=a:=λa b h=>by
   have h:HT.lexLt [a] [b]=false:=h;unfold HT.lexLt at h;by_cases z:a=b
   .omega
   .rw[GC z]at h;have:=Tr h;omega
  exact e1 _ _ this
 have i:eff (jc js) (cB z6 "asked" js)<=r:=by
  cases c:fU js p with
  |true =>have:=least p f c;have:=(BJ nd f js []).1;have s:eff [] p=p.rank:=rfl;unfold jc at *;omega
  |false =>
   unfold fU at c;cases q:jB js p.wanted with
   |none=>rw[q]at c;cases c
   |some o =>
    obtain⟨l,T,_,e⟩:=pT q;have hw:o.wanted=none:=by
     unfold Jb.held at e;unfold Jb.wanted;by_cases z:o.spent=0
     .rw[FC z]at e;cases e
     .exact GC z
    have:=least o l (by unfold fU;rw[hw];rfl);have:=(BJ nd l js []).2 p f q;unfold jc at *;omega
 rcases HA nd g js [] with h|⟨j,u,c,hv⟩
 .exfalso;have s:eff [] (cB z6 "asked" js)=(cB z6 "asked" js).rank:=rfl;unfold jc at i;omega
 .obtain⟨_,T,hw,e⟩:=pT c;unfold jc at i;exact⟨T,e,j,u,hw,⋯⟩
end
def AG(z6:L)(n:O)(q:O->O->Jb)(ve:O->D' O):Prop:=∀{i m p:O}{r:Z},ve i=Y m->p<n->(q p i).there (i:Z)=true->(q p i).rank<=r->r<(q m i).rank->∃T,(q m i).held=Y T/\mj z6 T<=r
def IC(n:O)(q:O->O->Jb):Prop:=∀{i a b:O}{T:Z},a<n->b<n->(q a i).held=Y T->(q b i).held=Y T->a=b
theorem Gm(c:IvJ z6 0 js)(hv:HvJ z6 js)(j:Sx js):AG z6 js.length (qJ z6 "asked" js) (tZ z6 "asked" js):=λ{i m p r} h hp t h1 h2=>by
 obtain⟨hm,z,e⟩:=kf c hv j h;have g:p<(stJ z6 "asked" js i).1.length:=by rw[pk c hv];exact hp
 have f:qJ z6 "asked" js p i∈thA z6 "asked" js i:=Qg.mpr ⟨by rw[i8 g];exact Qk g,by rw[gB];exact t⟩;obtain⟨i1,i2,_,_⟩:=qe (len:="asked") c hv i;have nd:((thA z6 "asked" js i).map (·.num)).Nodup:=UO (J.Sublist.map _ J.filter_sublist) i1.ok.nd;rw[e]at h2 ⊢;obtain⟨T,l,w,hw,a,hwr⟩:=KS (z6:=z6) nd f h1 h2;refine⟨T,l,?_⟩;have b:=(qb hw).1;have n:w.tool=Y T:=by
  unfold Jb.wanted at a;split at a
  .exact a
  .cases a
 obtain⟨q,o,e2⟩:=oZ (i1.ok.ok _ b) n;have:=i2.top _ b q o T e2;omega
theorem NC{len:M'}(f:IvJ z6 0 js)(hv:HvJ z6 js)(h:Sx js):IC js.length (qJ z6 len js):=λ{i a b T} ha hb h1 h2=>by
 obtain⟨i1,i2,i3,_⟩:=qe (len:=len) f hv i;have g:=F3 (len:=len) f hv h;have c:a<(stJ z6 len js i).1.length:=by rw[pk f hv];exact ha
 have e:b<(stJ z6 len js i).1.length:=by rw[pk f hv];exact hb
 rw[i8 c]at h1;rw[i8 e]at h2;have:=i2.one _ (Qk c) _ (Qk e) T h1 h2;rw[<-i8 c,<-i8 e,g.num i ha,g.num i hb]at this;omega
section
variable {n:O}{q:O->O->Jb}
theorem Trc.begunB(R:Trc z6 n q ve)(b:AG z6 n q ve){E:O}{r:Z}(hw:∀t,B<=t->t<E->∃p,p<n/\(q p t).there (t:Z)=true/\(q p t).rank<=r)(hm:m<n)(c:r<(q m 0).rank):∀{t:O},B<=t->t<E->(q m t).spent≠0->∀u,B<=u->u<=t->(q m u).job=(q m t).job/\(q m u).part=(q m t).part/\(q m u).spent≠0/\(q m u).spent<=(q m t).spent
 |0,h1,h2,hs,u,h3,h4=>by
  have:u=0:=⋯
  subst this;exact⟨rfl,rfl,hs,PN _⟩
 |t+1,h1,h2,hs,u,h3,h4=>by
  by_cases e:u=t+1
  .subst e;exact⟨rfl,rfl,hs,PN _⟩
  .by_cases w:ve t=Y m
   .obtain⟨p,h,tp,i⟩:=hw t ⋯ ⋯;obtain⟨T,j,_⟩:=b w h tp i (by rw[(R.stay hm t).2.2];exact c);have f:=(lY j).2;have g:=R.begunB b hw hm c (t:=t) ⋯ ⋯ f u h3 ⋯;have nx:=R.on w;have a:(q m (t+1)).job=(q m t).job/\(q m (t+1)).part=(q m t).part/\(q m (t+1)).spent=(q m t).spent+1:=by
     rw[nx]at hs ⊢;unfold Jb.next Jb.step1 at hs ⊢;split at hs
     .exfalso;apply hs;unfold Jb.step2;split <;> rfl
     .rename_i z;rw[GC z];unfold Jb.step2;rw[GC (by have:=(R.ok t hm).pt;simp only;omega)];exact⟨rfl,rfl,rfl⟩
    exact⟨g.1.trans a.1.symm,g.2.1.trans a.2.1.symm,g.2.2.1,⋯⟩
   .have nx:=R.off hm w;rw[nx]at hs ⊢;exact R.begunB b hw hm c (t:=t) ⋯ ⋯ hs u h3 ⋯
theorem Trc.low_oneB(R:Trc z6 n q ve)(a:AG z6 n q ve){r:Z}(hm:m<n)(b:r<(q m 0).rank):∀(d:O),(∀t,B<=t->t<B+d->∃p,p<n/\(q p t).there (t:Z)=true/\(q p t).rank<=r) ->
  (q m (B+d)).tot=(q m B).tot\/∃p∈(q m 0).parts,∃T,p.2=Y T/\mj z6 T<=r/\(q m (B+d)).tot-(q m B).tot<=p.1-1/\(q m B).held=Y T
 |0,_=>.inl rfl
 |d+1,hw=>by
  by_cases w:ve (B+d)=Y m
  .right;obtain⟨p,h,tp,j⟩:=hw (B+d) ⋯ ⋯;obtain⟨T,l,o⟩:=a w h tp j (by rw[(R.stay hm _).2.2];exact b);obtain⟨e1,s⟩:=lY l;obtain⟨u,g,v,j4⟩:=R.begunB a (E:=B+d+1) (λt h1 h2=>hw t h1 ⋯) hm b (t:=B+d) ⋯ ⋯ s B (PN _) ⋯;have ok:=R.ok (B+d) hm;have pt:=ok.pt;have c:(q m (B+d)).parts[(q m (B+d)).part]'pt∈(q m 0).parts:=by rw[<- (R.stay hm (B+d)).1];exact Qk pt
   have hl:(q m (B+d)).len=((q m (B+d)).parts[(q m (B+d)).part]'pt).1:=by unfold Jb.len;rw[My pt];rfl
   have f:(q m (B+d)).tool=((q m (B+d)).parts[(q m (B+d)).part]'pt).2:=by unfold Jb.tool;rw[My pt];rfl
   refine⟨_,c,T,by rw[<-f];exact e1,o,?_,?_⟩
   .have h1:=R.tot1 (i:=B+d) hm;rw[FC w]at h1;have h2:(q m (B+d)).tot-(q m B).tot=((q m (B+d)).spent:Z)-(q m B).spent:=by unfold Jb.tot Jb.cur;rw[R.wk hm (B+d),R.wk hm B,(R.stay hm (B+d)).1,(R.stay hm B).1,u,g];omega
    have:=ok.sp;show (q m (B+d+1)).tot-(q m B).tot<=_;omega
   .unfold Jb.held;rw[GC v];have:(q m B).tool=(q m (B+d)).tool:=by unfold Jb.tool;rw[g,(R.stay hm B).1,(R.stay hm (B+d)).1]
    rw[this];exact e1
  .have h1:=R.tot1 (i:=B+d) hm;rw[GC w]at h1;have x:=R.low_oneB a hm b d λt h1 h2=>hw t h1 ⋯
   show (q m (B+d+1)).tot=_\/_;rw[h1,Sl];rcases x with e|⟨p,a1,T,a2,y,z,A⟩
   .exact .inl e
   .exact .inr ⟨p,a1,T,a2,y,by show (q m (B+d+1)).tot-_<=_;rw[h1,Sl];exact z,A⟩
theorem CA{f:Z->Z}{g:Z->Z}{τ:Z->D' Z}{ls:J Z}(nd:ls.Nodup)(e:∀x∈ls,0<=f x)(i:∀t,0<=g t)(h:∀x∈ls,∀t,τ x=Y t->f x<=g t)(inj:∀x∈ls,∀y∈ls,∀t,τ x=Y t->τ y=Y t->x=y):∀ts:J Z,(ls.map λx=>match τ x with|some t=>(if t∈ts then f x else 0)|none=>0).sum<=(ts.map g).sum
 |[]=>by
  rw[gE (λx:Z=>match τ x with|some t=>(if t∈([]:J Z) then f x else 0)|none=>0) λx _=>by
   show (match τ x with|some t=>(if t∈([]:J Z) then f x else 0)|none=>0)=0;cases τ x with
   |none=>rfl
   |some t=>simp]
  exact QB 0
 |t::r=>by
  have j:=CA nd e i h inj r;rw[P0,Qe];have add:∀(f g:Z->Z)(l:J Z),(l.map λx=>f x+g x).sum=(l.map f).sum+(l.map g).sum:=λf g l=>by
   induction l with
   |nil=>rfl
   |cons a r j=>dsimp[P0,Qe,j];omega
  have h1:(ls.map λx=>if τ x=Y t then f x else 0).sum<=g t:=Ce (P:=λx=>τ x=Y t) (i t) nd (λx c=>by
   by_cases z:τ x=Y t
   .right;exact⟨z,by show (if τ x=Y t then f x else 0)<=g t;rw[FC z];exact h x c t z⟩
   .left;exact GC z) λx c y m a b=>inj x c y m t a b
  have h2:(ls.map λx=>match τ x with|some u=>(if u∈t::r then f x else 0)|none=>0).sum<=(ls.map λx=>(if τ x=Y t then f x else 0)+(match τ x with|some u=>(if u∈r then f x else 0)|none=>0)).sum:=om λx c=>by
   have:=e x c;cases q:τ x with
   |none=>simp
   |some u =>
    dsimp[P8,Wv];by_cases z:u=t
    .subst z;rw[FC (.inl rfl),FC rfl];split <;> omega
    .rw[GC z];by_cases y:u∈r
     .rw[FC (.inr y),FC y];omega
     .rw[GC (λw=>w.elim z y),GC y];omega
  rw[add]at h2;omega
end
section
variable {n:O}{q:O->O->Jb}
theorem Trc.answerB(R:Trc z6 n q ve)(M:AG z6 n q ve)(E:∀m,m<n->(q m 0).tot=0)(F:bJ n rs)(I:∀m,m<n->(q m 0).rank=(placeOf rs (m:Z):Z))(pos:∀m,m<n->∀c∈(q m 0).row,0<=c)
  {a:O} (ha:a<n) {H:Z} {B':O} {tm:Z->Z} (N:∀B:O,(∀t,B<=t->t<B+B'->∃p,p<n/\(q p t).there (t:Z)=true/\(q p t).rank<=(q a 0).rank)->((rs.drop (placeOf rs (a:Z)+1)).map λx=>(q x.toNat (B+B')).tot-(q x.toNat B).tot).sum<=H)
  (f:∀p,(q a 0).parts.getLast?=Y p->p.2=S) (r:∀m,m<n->placeOf rs (m:Z)<placeOf rs (a:Z)->∀B:O,(fD (q m 0).row ((B:Z)+B'-1):Z)-fD (q m 0).row ((B:Z)-1)<=tm (m:Z))
  (hL:1<=B') (need:H+(q a 0).work+((rs.take (placeOf rs (a:Z))).map λx=>tm x*(q x.toNat 0).work).sum<=(B':Z)) (gap:∀k(h:k+1<(q a 0).row.length),(q a 0).row[k]+B'<=(q a 0).row[k+1]) :
  ∀k(G:k<(q a 0).row.length),((k:Z)+1)*(q a 0).work<=(q a ((q a 0).row[k].toNat+B')).tot
 |k,G=>by
  have D2:=R.srt 0 ha;have c0:=pos a ha _ (Qk G);have wp:=R.wpos ha 0
  -- the earlier ones are done when it comes
  have e1:(k:Z)*(q a 0).work<=(q a (q a 0).row[k].toNat).tot:=by
   by_cases z:k=0
   .subst z;have:=R.mono ha (QH (q a 0).row[0].toNat);rw[E a ha]at this;simpa using this
   .have u:k-1<(q a 0).row.length:=⋯
    have Q:=R.answerB M E F I pos ha N f r hL need gap (k-1) u;have g:=gap (k-1) ⋯;have X:k-1+1=k:=⋯
    dsimp[X]at g;have c1:=pos a ha _ (Qk u);have A2:=R.mono ha (i:=(q a 0).row[k-1].toNat+B') (j:=(q a 0).row[k].toNat) ⋯;rw[show ((k-1:O):Z)+1=(k:Z) by omega]at Q;exact RK Q A2
  have e2:(q a (q a 0).row[k].toNat).tot<=(k:Z)*(q a 0).work:=by
   by_cases z:(q a 0).row[k].toNat=0
   .rw[z,E a ha];exact S6 ⋯ ⋯
   .have:=R.come ha ((q a 0).row[k].toNat-1);rw[show (q a 0).row[k].toNat-1+1=(q a 0).row[k].toNat by omega,show (((q a 0).row[k].toNat-1:O):Z)=(q a 0).row[k]-1 by omega,Ex D2 G]at this;exact this
  generalize hc:(q a 0).row[k].toNat=c at *;have hcI:(q a 0).row[k]=(c:Z):=⋯
  refine XG.mp λno=>?_
  -- the last time Bk to its coming at which nothing higher is left from before
  obtain⟨B,b1,A4,b3⟩:=uZ (P:=λb=>∀m,m<n->placeOf rs (m:Z)<placeOf rs (a:Z)->Trc.Clr q m b) (λm hm _=>by unfold Trc.Clr;rw[E m hm,jT (λc hc=>by have:=pos m hm c hc;omega)];simp) c
  have Bk:∀t,B<=t->t<c->∃p,p<n/\(q p t).there (t:Z)=true/\(q p t).rank<(q a 0).rank:=λt h1 h2=>by have s:=b3 (t+1) ⋯ ⋯;obtain⟨m,s⟩:=Ua.mp s;obtain⟨hm,s⟩:=Ua.mp s;obtain⟨K,s⟩:=Ua.mp s;refine⟨m,hm,(R.not_clr hm s).1,?_⟩;rw[(R.stay hm t).2.2,I m hm,I a ha];omega
  have self:∀t,c<=t->t<c+B'->(q a t).there (t:Z)=true:=λt h1 h2=>by refine R.left ha ?_;have h3:=qX G D2 (t:=(t:Z)) ⋯;have D1:=R.mono ha (i:=t) (j:=c+B') ⋯;have h5:=Qo (a:=(k:Z)+1) (b:=(fD (q a 0).row (t:Z):Z)) (c:=(q a 0).work) ⋯ ⋯;omega
  have y:∀t,B<=t->t<B+B'->∃p,p<n/\(q p t).there (t:Z)=true/\(q p t).rank<=(q a 0).rank:=λt h1 h2=>by
   by_cases z:t<c
   .obtain⟨p,x1,x2,x3⟩:=Bk t h1 z;exact⟨p,x1,x2,⋯⟩
   .exact⟨a,ha,self t ⋯ ⋯,by rw[(R.stay ha t).2.2];exact QB _⟩
  -- its own earlier jobs are done by then
  have own:(k:Z)*(q a 0).work<=(q a B).tot:=by
   refine XG.mp λlt=>?_
   obtain⟨t,h1,h2,w,h3⟩:=R.passed ha (B:=B) (v:=(k:Z)*(q a 0).work) (c-B) lt (by rw[show B+(c-B)=c by omega];exact e1);obtain⟨p,x1,x2,x3⟩:=Bk t h1 ⋯;obtain⟨T,U,_⟩:=M w x1 x2 (QB _) (by rw[(R.stay ha t).2.2];exact x3);have ok:=R.ok t ha;have A:(q a t).cur=(q a t).work-1:=by
    have cb:=nY ok;have e:(q a t).tot=((q a t).job:Z)*(q a t).work+(q a t).cur:=rfl;rw[h3,R.wk ha t]at e;rw[R.wk ha t]at cb ⊢;have hj:((q a t).job:Z)<k:=by
     refine Z.not_le.mp λz=>?_
     have:=Qo (a:=(k:Z)) (b:=((q a t).job:Z)) (c:=(q a 0).work) z ⋯;omega
    have hj2:(k:Z)<=(q a t).job+1:=by
     refine XG.mp λz=>?_
     have:=Qo (a:=((q a t).job:Z)+2) (b:=(k:Z)) (c:=(q a 0).work) ⋯ ⋯;rw[RA]at this;omega
    have:(k:Z)=(q a t).job+1:=⋯
    rw[this,RA]at e;omega
   rw[DV ok (by rw[(R.stay ha t).1];exact f) A]at U;cases U
  -- all that is done from there on
  have sum:=R.works F (B:=B) B' λt h1 h2 z=>by obtain⟨p,x1,x2,_⟩:=y t h1 h2;rw[R.idl z x1]at x2;cases x2
  have C:(a:Z)∈rs:=F.mem ⋯ ⋯;have l:=v9 C;have D:placeOf rs (a:Z)<rs.length:=by
   refine Yq.mp λz=>?_
   rw[QS z]at l;cases l
  have split:rs=rs.take (placeOf rs (a:Z))++(a:Z)::rs.drop (placeOf rs (a:Z)+1):=by
   conv=>lhs;rw[<-S0 (placeOf rs (a:Z)) rs]
   congr 1;rw[Ri D];rw[My D]at l;rw[P' l]
  have s1:((rs.take (placeOf rs (a:Z))).map λx=>(q x.toNat (B+B')).tot-(q x.toNat B).tot).sum<=((rs.take (placeOf rs (a:Z))).map λx=>tm x*(q x.toNat 0).work).sum:=om λx W=>by
   have hxr:=F.rng x (QP W);have o:x.toNat<n:=⋯
   have ex:((x.toNat:O):Z)=x:=⋯
   have K:placeOf rs ((x.toNat:O):Z)<placeOf rs (a:Z):=by rw[ex];exact E9 W
   have h1:=A4 x.toNat o K;unfold Trc.Clr at h1;have h2:=R.come o (B+B'-1);rw[show B+B'-1+1=B+B' by omega,show ((B+B'-1:O):Z)=(B:Z)+B'-1 by omega]at h2;have h3:=r x.toNat o K B;rw[ex]at h3;have D1:=Qo h3 (Z.le_of_lt (R.wpos o 0));rw[Yi]at D1;show (q x.toNat (B+B')).tot-(q x.toNat B).tot<=tm x*(q x.toNat 0).work;omega
  have s2:=N B y;have s3:(q a (B+B')).tot-(q a B).tot<=(q a 0).work-1:=by have:=R.mono ha (i:=B+B') (j:=c+B') ⋯;rw[RA]at no;omega
  rw[split,Qm,Xj,P0,Qe]at sum;rw[show ((a:Z)).toNat=a by omega]at sum;omega
end
end RS
set_option maxHeartbeats 4000000
namespace L2
open PySem PySem.Spec PyProof.Rows
theorem xx(d:HL):XT (Rf.«dict.values» ⟨[.ref d],[]⟩) (λ_ R s=>(∃o,s.heap.get? d=Y o/\o.ExactDict)/\(d==sysModules)=false/\R (.ok (.ret (.ref s.heap.objs.size))) {s with heap:=s.heap.push {cls:=.type "dict_values",data:=.fields #[.ref d]}}) :=
 .of_wp λprog w A R s h=>by
  obtain⟨b,g,c,tk,os⟩:=s;obtain⟨⟨o,e,f⟩,hd,h⟩:=h;obtain⟨hc,hdi,hs⟩:=f;have a:(Vy ⟨b,g,c,tk,os⟩).get? d=Y o:=e
  wp_walk using Xu a
  exact⟨_,rfl,h⟩
theorem qw:∀(l:J Z)(n:O),n<=l.length->preSum (λi=>l.getD i 0) n=(l.take n).sum
 |l,0,_=>by rw[VE];rfl
 |l,n+1,h=>by rw[preSum.eq_2,qw l n ⋯,J.take_succ_eq_append_getElem ⋯,Xj];rw[show l.getD n 0=l[n] by rw[Q2,My ⋯];rfl];simp
section
variable {E:XK}{o:Sq}{go:Ds->Rs L}{apos:Vp}{td:TE}
structure M0(X:Cx)(o:Sq)(m:M')(apos cpos:Vp):Prop where
 base:attributeBase o m X.env (eval o X.env)=eval o X.env
 few:((backTo cpos (starEach [] X.env)).all (λx=>!x.1)&&(backToKw cpos (keywordEach [] X.env)).all (λx=>x.1.isSome)
 &&decide (([]:J Sq).length+([]:J Tg).length+(if ([]:J Tg).isEmpty then 0 else 1)<30))=true
 line:(apos.endLine==cpos.line)=true
 trees:backTo cpos (starEach [] X.env)=[]
def OT(td:TE):TE:=λσ H Q=>td σ H λx H1=>∃a l,x=.ref a/\H1 a=Y (dkO l)/\Q (.int (l.map (·.2)).sum) H1
theorem IM(hc:X.calm=true)(T:Gl X "sum")(hm:X.mg "sum"=S)(U:PE X o td)(m:M0 X o "values" apos cpos)(K:starEach [.Call (.Attribute o "values" apos) [] [] cpos] X.env=[(false,eval (.Call (.Attribute o "values" apos) [] [] cpos) X.env)]) :
  PE X (.Call (.Name "sum" p) [.Call (.Attribute o "values" apos) [] [] cpos] [] pos) (OT td):=by
 intro z7 s σ H Q I h;refine T4 (fR I T hm E3 (TL ?_ K rfl) #[1] #[1]);rw[K];show wpAny _ _ (spliced ((false,eval (.Call (.Attribute o "values" apos) [] [] cpos) X.env)::backTo pos [])) _ _ s;refine To (WA m.base m.few m.line WB W7 F.type_dict_values (thn (U z7 s σ H _ I h) λu f y=>?_));obtain⟨x,H1,j,W,a,l,ex,ha,A2⟩:=y;subst ex;obtain rfl:u=Sz a:=W;obtain⟨B',A4,_⟩:=Gp j (.inl ⟨_,.inl ha⟩);refine⟨B',A4,?_⟩;rw[m.trees];refine TZ rfl (PySem.evalArgs_none ?_);obtain⟨z,hd,vs,rel,C,es,n,g1,g2,M,N,D2,P⟩:=vA j.hok (.inl ha);refine U9 W7 B' F.entry_dict_values (F.args_dict_values_1 _) (xx a) ⟨⟨C,g1,g2⟩,hd,?_⟩;refine U3 ?_;have R:a<f.heap.objs.size:=Q0 g1;have gv:(f.heap.push {cls:=.type "dict_values",data:=.fields #[.ref a]}).IsValuesView f.heap.objs.size a:=⟨_,PY _ rfl,rfl,rfl⟩
 have gd:Sy.DictAt (dN X.prog X.w) (f.heap.push {cls:=.type "dict_values",data:=.fields #[.ref a]}) a vs n:=⟨C,es,P5 _ g1,g2,M,N,D2,P⟩
 have sz:(f.heap.push {cls:=.type "dict_values",data:=.fields #[.ref a]}).objs.size=f.heap.objs.size+1:=SJ ..;have hh:X.A.in1.handled=none:=j.ok.hd hc;have D:∀(i:O)(v:F'),(∃k,vs[i]?=Y (k,v))->∃t,v=Us ((l.map (·.2)).getD i 0) t:=λi v E=>by
  obtain⟨k,G⟩:=E;have aux:∀{A:J (Key×V)}{B:J (Key×F')},KV A B->∀(i:O)(b:Key×F'),B[i]?=Y b->∃c,A[i]?=Y c/\RelV c.2 b.2:=by
   intro A B r
   induction r with
   |nil=>intro i b h;simp at h
   |cons h1 _ ih =>
    intro i b h;cases i with
    |zero=>cases h;exact⟨_,rfl,h1.2⟩
    |succ i=>exact ih i b h
  obtain⟨c,g,rc⟩:=aux rel i _ G;rw[Q5]at g;cases q:l[i]? with
  |none=>rw[q]at g;cases g
  |some p0 =>rw[q]at g;cases g;obtain⟨t,e⟩:=rc;refine⟨t,?_⟩;rw[Q2,Q5,q];exact e
 have x9:vs.length=l.length:=by have:=rel.length;rw[P6]at this;omega
 refine call_sum_walkG (wpAny_pyIter_values gv gd ⟨_,[(f.heap.push {cls:=.type "dict_values",data:=.fields #[.ref a]}).objs.size,a],[(f.heap.push {cls:=.type "dict_values",data:=.fields #[.ref a]}).objs.size],vs.length,_,_,λi=>(l.map (·.2)).getD i 0,rfl,Walks.dictValues hh (f.heap.push {cls:=.type "dict_values",data:=.fields #[.ref a]}).objs.size a (by rw[sz];exact Q4 (Qy R)) vs n,⟨⟨_,PY _ rfl,rfl,rfl⟩,⟨C,es,P5 _ (P5 _ g1),g2,M,N,D2,P⟩⟩,λb D1=>?_,D,λh' tk t' G=>?_⟩)
 .dsimp[P8,Q9,Tp]at D1;have e0:((f.heap.push {cls:=.type "dict_values",data:=.fields #[.ref a]}).push {cls:=.type "dict_valueiterator",data:=.fields #[.ref a,.int 0 0,.int (vs.length:Z) 0,.int (n:Z) 0]}).objs.size=f.heap.objs.size+2:=by rw[SJ,sz]
  show b<((f.heap.push {cls:=.type "dict_values",data:=.fields #[.ref a]}).push {cls:=.type "dict_valueiterator",data:=.fields #[.ref a,.int 0 0,.int (vs.length:Z) 0,.int (n:Z) 0]}).objs.size;rw[e0];rcases D1 with z|z
  .rw[z,sz];exact R9 _
  .rw[z];exact Qy (Qy R)
 .rw[x9,qw _ _ (by rw[P6];omega),RR (by rw[P6];omega)];refine⟨.int _,H1,j.kept λb Bk e=>G b Bk (λz=>?_) (P5 _ (P5 _ e)),⟨_,rfl⟩,A2⟩;dsimp[PV]at z;rw[z,sz]at e;exact So (Q0 e) (O.not_lt.mpr (Ru _))
def yf(go:Ds->Rs L):Ds->Rs PyData:=λδ=>(go δ).bind λd=>match nK d with
 |some l=>.ok (.int (l.map (·.2)).sum)
 |none=>.no
theorem JH(hc:X.calm=true)(hm:X.mg "sum"=S)(f:PD X E o go)(g:Gl X "sum")(m:M0 X o "values" apos cpos)(h:starEach [.Call (.Attribute o "values" apos) [] [] cpos] X.env=[(false,eval (.Call (.Attribute o "values" apos) [] [] cpos) X.env)]) :
  PD X E (.Call (.Name "sum" p) [.Call (.Attribute o "values" apos) [] [] cpos] [] pos) (yf go):=(IM hc g hm f m h).imp λσ H Q c=>by
 obtain⟨A,δ,R,b⟩:=c;unfold yf at b;refine eD.run R (λd i v H1 j R1 h1=>?_) (λC e H' s'=>by rw[e]at b;exact b H' s') (λe=>by rw[e]at b;exact b);dsimp[i,Rs.ag]at b;split at b
 .rename_i l hl;rw[sQ hl]at h1;obtain⟨a,rfl,ha⟩:=h1.ofDic;exact⟨a,l,rfl,aB _ _ ha,b _ H1 j bN⟩
 .exact b.elim
end
end L2
namespace RS
open PySem L2
def dz(cs:Cs):Ds->Sr :=
 (az (qC 1)
  (az (cY [1] (br (ae 0)) (cO [2,3]) (nh 1 (ae 2) (gF fV #[0,3,jv (ae 1) (ae 2) ↑0])))
  (bq (yf (ae 1)))))
def eP(cs:Cs)(bj bR:Gf):Ds->Sr :=
 (az (aJ [] 3 (ao bR #[0,0,1,2]))
  (az (aJ [] 4 (ao bj #[0,gL (a9 6 (br (ae 3)) bF (f9 #[0,g1 (bf cs.Holding "number") (ae 6),g1 (bf cs.Holding "times") (ae 6)]) aL)]))
  (az (aJ [] 5 (ao bj #[0,gL (a9 6 (br (ae 3)) bF (f9 #[0,g1 (bf cs.Holding "tool") (ae 6),g1 (bf cs.Holding "times") (ae 6)]) aL)]))
  (bq (gF j9 #[0,4,5])))))
def dO(cs:Cs)(aI:Gf):Ds->Sr :=
 (az (aJ [7] 3 (kY (ae 1) (ae 2)))
  (az (aJ [7] 4 (ao aI #[0,0,1]))
  (az (aJ [7] 5 ↑0)
  (az (cY [7] (br (eV (ae 1) (gP (g2 aP (ae 3) ↑1)) dk)) (aU 6) (az (ff [7] 7 (a9 10 (br (g2 dIx (g2 dIx (ae 0) (ae 6)) ↑3)) (jh (gT (g1 cV (g2 dIx (ae 10) ↑1))) (gT (g2 dLe (g2 dIx (ae 4) (g2 dIx (ae 10) ↑1)) (ae 3)))) (g2 cK (g2 dIx (ae 10) ↑0) ↑1) aL))
  (lF 5 (g2 aP (ae 5) (gF lK #[0,g2 aP (g9 #[0,↑0]) (ae 7)])))))
  (az (aJ [7] 8 ↑0)
  (az (cY [7] (fK #[0,↑4]) (aU 9) (sIf (jh (gT (g1 cV (g2 dIx (ae 4) (ae 9)))) (gT (g2 dLe (g2 dIx (ae 4) (ae 9)) (ae 3)))) (az (ff [7] 7 #[0,↑0])
  (az (cY [7] (br (eV (ae 1) (gP (g2 aP (ae 3) ↑1)) dk)) (aU 6) (Iz [7] 7 (gL (a9 10 (br (g2 dIx (g2 dIx (ae 0) (ae 6)) ↑3)) (gT (g2 dEq (g2 dIx (ae 10) ↑1) (ae 9))) (g2 cK (g2 dIx (ae 10) ↑0) ↑1) aL))))
  (lF 8 (g2 aP (ae 8) (gF lK #[0,7]))))) ba))
  (bq (gF j9 #[0,5,8]))))))))
end RS
set_option maxHeartbeats 1000000
namespace RS
open PySem L2
variable {ps:J (Z×Z)}{a:J L}{x:J (Z×Z×Z)}
def mxf(a b:Z):Int:=if b>a then b else a
def mx0(l:J Z):Int:=l.foldl mxf 0
theorem nM(l:J Z):0<=mx0 l/\(∀a∈l,a<=mx0 l)/\k6 (0::l)=Y (mx0 l):=by obtain⟨h1,h2⟩:=fold_max l 0;exact⟨h2 0 P7,λa ha=>h2 a (P4 _ ha),rfl⟩
def gst(l:J (Z×Z))(p:Z×Z):J (Z×Z):=p7 l p.1 (if (cJ l p.1).getD 0>p.2 then (cJ l p.1).getD 0 else p.2)
def lu(ps:J (Z×Z))(k:Z):J Int:=(ps.filter λp=>decide (p.1=k)).map (·.2)
theorem Ac(k:Z):∀(ps l:J (Z×Z)),(cJ (ps.foldl gst l) k).getD 0=(lu ps k).foldl mxf ((cJ l k).getD 0)
 |[],l=>rfl
 |p::r,l=>by
  rw[Qw,Ac k r (gst l p)];unfold lu gst;by_cases z:p.1=k
  .rw[Qn,FC (O' z),P0,Qw,oH,FC z.symm,z];congr 1;unfold mxf;show (if _ then _ else _)=(if _ then _ else _)
   split <;> split <;> omega
  .rw[oH,Qn,GC (show ¬ (decide (p.1=k)=true) from λe=>z (Sw e)),GC (λe=>z e.symm)]
theorem yD(l:J (Z×Z))(k v:Z):(p7 l k v).map (·.1)=if k∈l.map (·.1) then l.map (·.1) else l.map (·.1)++[k]:=by
 unfold p7;by_cases ha:(l.any λp=>decide (p.1=k))=true
 .have a:k∈l.map (·.1):=by obtain⟨p,b,e⟩:=QO.mp ha;exact PQ.mpr ⟨p,b,Sw e⟩
  rw[FC ha,FC a,Q8];refine Q3 λp _=>?_
  show (if p.1=k then (p.1,v) else p).1=p.1;split <;> rfl
 .have a:¬ k∈l.map (·.1):=λh=>by obtain⟨p,b,e⟩:=PQ.mp h;exact ha (QO.mpr ⟨p,b,O' e⟩)
  rw[GC ha,GC a,Qm];rfl
theorem xR{U:J Z}:∀(ps l:J (Z×Z)),(l.map (·.1)).Nodup->(∀p∈l,p.1∈U)->(∀p∈ps,p.1∈U)->((ps.foldl gst l).map (·.1)).Nodup/\(∀p∈ps.foldl gst l,p.1∈U)/\(ps.foldl gst l).length<=l.length+ps.length
 |[],l,h1,h2,_=>⟨h1,h2,PN _⟩
 |p::r,l,h1,h2,h3=>by
  rw[Qw];have e:=yD l p.1 (if (cJ l p.1).getD 0>p.2 then (cJ l p.1).getD 0 else p.2);have f:((gst l p).map (·.1)).Nodup/\∀k∈(gst l p).map (·.1),k∈U:=by
   unfold gst;rw[e];split
   .exact⟨h1,λk f=>by obtain⟨y,g,rfl⟩:=PQ.mp f;exact h2 y g⟩
   .rename_i hn;refine⟨RP.mpr ⟨h1,by simp,λa ha b h=>?_⟩,λk f=>?_⟩
    .cases PV.mp h;exact λz=>hn (z▸ha)
    .rcases Ql.mp f with f|f
     .obtain⟨y,g,rfl⟩:=PQ.mp f;exact h2 y g
     .cases PV.mp f;exact h3 p P7
  have hl:(gst l p).length<=l.length+1:=by
   have:=congrArg U6 e;rw[P6]at this;unfold gst;rw[this];split
   .rw[P6];omega
   .rw[PU,P6];simp
  obtain⟨a,b,c⟩:=xR (U:=U) r (gst l p) f.1 (λy g=>f.2 _ (PQ.mpr ⟨y,g,rfl⟩)) λy g=>h3 y (P4 _ g)
  exact⟨a,b,by rw[PZ];omega⟩
theorem sum_add(f g:Z->Z)(l:J Z):(l.map λx=>f x+g x).sum=(l.map f).sum+(l.map g).sum:=by
 induction l with
 |nil=>rfl
 |cons a r ih=>dsimp[P0,Qe,ih];omega
theorem G7{k v:Z}:∀{U:J Z},U.Nodup->k∈U->(U.map λx=>if x=k then v else 0).sum=v
 |[],_,h=>by cases h
 |x::r,nd,h=>by
  have a:=Qq.mp nd;rw[P0,Qe];by_cases z:x=k
  .subst z;rw[FC rfl,gE (λy:Z=>if y=x then v else 0) λy b=>by show (if y=x then v else 0)=0;exact GC λe=>a.1 (by rw[<-e];exact b)];omega
  .rw[GC z,G7 a.2 ((P8.mp h).resolve_left λe=>z e.symm)];omega
theorem yM{U:J Z}(b:U.Nodup):∀{l:J (Z×Z)},(l.map (·.1)).Nodup->(∀p∈l,p.1∈U)->(l.map (·.2)).sum=(U.map λk=>(cJ l k).getD 0).sum
 |[],_,_=>(gE _ λ_ _=>rfl).symm
 |p::r,nd,h=>by
  rw[P0]at nd;have a:=Qq.mp nd;have c:=yM b a.2 λx f=>h x (P4 _ f)
  rw[P0,Qe,c];have e:(U.map λk=>(cJ (p::r) k).getD 0)=U.map λk=>(if k=p.1 then p.2 else 0)+(cJ r k).getD 0:=Q3 λk _=>by
   show (((p::r).find? λy=>decide (y.1=k)).map (·.2)).getD 0=_;rw[Qd];by_cases z:p.1=k
   .have hn:cJ r k=none:=by unfold cJ;rw[D'.map_eq_none_iff,Rh];exact λy g e=>a.1 (PQ.mpr ⟨y,g,(Sw e).trans z.symm⟩)
    rw[O' z,FC z.symm,hn];show p.2=p.2+0;omega
   .rw[L' z,GC (λe=>z e.symm)];show (cJ r k).getD 0=0+(cJ r k).getD 0;omega
  rw[e,sum_add,G7 b (h p P7)]
def grt(ps:J (Z×Z)):J (Z×Z):=ps.foldl gst []
theorem Cv{U:J Z}(c:U.Nodup)(h:∀p∈ps,p.1∈U):((grt ps).map (·.2)).sum=(U.map λk=>mx0 (lu ps k)).sum:=by
 obtain⟨a,b,_⟩:=xR (U:=U) ps [] RM (λp h=>by cases h) h;unfold grt;rw[yM c a b];congr 1;refine Q3 λk _=>?_
 rw[Ac];rfl
def bj(cs:Cs):Gf:=gfG 1 3 (dz cs)
theorem nE(cs:Cs):LLq (dz cs) 1 3 (bj cs):=iq
def prD(p:Z×Z):PyData:=.tuple [.int p.1,.int p.2]
def sgB:Ds->Sr:=nh 1 (ae 2) (gF fV #[0,3,jv (ae 1) (ae 2) ↑0])
theorem Cn{P:L}:∀(ps l:J (Z×Z))(x2 x3:D' L),l.length+ps.length<=1000->∃a b,forL (cO [2,3]) sgB (ps.map prD) [Y P,Y (bT l),x2,x3]=.nx [Y P,Y (bT (ps.foldl gst l)),a,b]
 |[],l,x2,x3,_=>⟨x2,x3,rfl⟩
 |p::r,l,x2,x3,h=>by
  rw[PZ]at h;have hd:jv (ae 1) (ae 2) ↑0 [Y P,Y (bT l),⇑p.1,⇑p.2]=.ok (.int ((cJ l p.1).getD 0)):=by
   show (match nK (bT l) with
    |some l=>Rs.ok (EE ((cJ l p.1).getD 0))
    |none=>.no)=_
   rw[jY]
  have c:gF fV #[0,3,jv (ae 1) (ae 2) ↑0] [Y P,Y (bT l),⇑p.1,⇑p.2]=.ok (.int (if (cJ l p.1).getD 0>p.2 then (cJ l p.1).getD 0 else p.2)):=by rw[gN,ay,show ae 3 [Y P,Y (bT l),⇑p.1,⇑p.2]=.ok (.int p.2) from rfl,Rs.ag,ay,hd];rfl
  have f:sgB [Y P,Y (bT l),⇑p.1,⇑p.2]=.nx [Y P,Y (bT (gst l p)),⇑p.1,⇑p.2]:=by
   show (match nK (bT l) with
    |some l'=>ofR (gF fV #[0,3,jv (ae 1) (ae 2) ↑0] [Y P,Y (bT l),⇑p.1,⇑p.2]) λv=>ofR (Rs.ok (EE p.1)) λk=>(match k,v with
     |.int k,.int v=>if l'.length<1000000 then Sr.nx [Y P,Y (bT (p7 l' k v)),⇑p.1,⇑p.2] else .no
     |_,_=>.no)
    |none=>.no)=_
   rw[jY];dsimp[c,aw];rw[FC ⋯];rfl
  have hl:(gst l p).length<=l.length+1:=by
   have e:=congrArg U6 (yD l p.1 (if (cJ l p.1).getD 0>p.2 then (cJ l p.1).getD 0 else p.2));rw[P6]at e;unfold gst;rw[e];split
   .rw[P6];omega
   .rw[PU,P6];simp
  obtain⟨a,b,g⟩:=Cn (P:=P) r (gst l p) ⇑p.1 ⇑p.2 ⋯;refine⟨a,b,?_⟩;rw[P0,en (δ1:=[Y P,Y (bT l),⇑p.1,⇑p.2]) rfl f];exact g
theorem K4(h:ps.length<=1000):bj cs [.list (ps.map prD)]=.ok (.int ((grt ps).map (·.2)).sum):=by
 show bc (dz cs [↥(ps.map prD),S,S,S])=_;obtain⟨a,b,e⟩:=Cn (P:=.list (ps.map prD)) ps [] S S (by simpa using h);have c:qC 1 [↥(ps.map prD),S,S,S]=.nx [↥(ps.map prD),Y (bT []),S,S]:=rfl;have s2:cY [1] (br (ae 0)) (cO [2,3]) sgB [↥(ps.map prD),Y (bT []),S,S]=.nx [↥(ps.map prD),Y (bT (grt ps)),a,b]:=(nk (ds:=ps.map prD) rfl).trans e;have f:yf (ae 1) [↥(ps.map prD),Y (bT (grt ps)),a,b]=.ok (.int ((grt ps).map (·.2)).sum):=by
  show (match nK (bT (grt ps)) with
   |some l=>Rs.ok (EE (l.map λq:Z×Z=>q.2).sum)
   |none=>.no)=_
  rw[jY]
 have g:dz cs=az (qC 1) (az (cY [1] (br (ae 0)) (cO [2,3]) sgB) (bq (yf (ae 1)))):=rfl;rw[g,cq c,cq s2,bW,f];rfl
def tpB(es:J Er)(rs:J Z)(pl t:Z):Bool:=match aG es rs t with
 |some h=>decide (h<=pl)
 |none=>false
def h3(es:J Er)(rs:J Z)(pl x:Z)(p:Z×D' Z):J (Z×Z×Z):=match p.2 with
 |some t=>if tpB es rs pl t=true then [(x,t,p.1-1)] else []
 |none=>[]
def hdP(es:J Er)(rs:J Z)(pl:Z)(ms:J Z):J (Z×Z×Z):=ms.flatMap λx=>(aK es x).parts.flatMap (h3 es rs pl x)
theorem Ee(C:HL)(m k t l:Z):bf C "number" (hdD C m k t l)=⇑m:=by dsimp[hdD,AI,P0,Qv,bf,Wy,Sn,jC]
theorem IL(C:HL)(m k t l:Z):bf C "tool" (hdD C m k t l)=⇑t:=by
 have n1:¬ (("number":M')="tool"):=by decide +kernel
 have n2:¬ (("part":M')="tool"):=by decide +kernel
 dsimp[hdD,AI,P0,Qv,bf,Wy,Sn,jC,n1,n2,SK]
def h3D(C:HL)(d:L)(x:Z×Z×Z):Prop:=bf C "number" d=⇑x.1/\bf C "tool" d=⇑x.2.1/\bf C "times" d=⇑x.2.2
inductive nP (C:HL):J L->J (Z×Z×Z)->Prop
 |nil:nP C [] []
 |cons {d:L} {x:Z×Z×Z} {ds:J L} {xs:J (Z×Z×Z)}:h3D C d x->nP C ds xs->nP C (d::ds) (x::xs)
theorem nP.app{b:J L}{y:J (Z×Z×Z)}(h:nP C a x)(h':nP C b y):nP C (a++b) (x++y):=by
 induction h with
 |nil=>exact h'
 |cons h1 _ ih=>exact .cons h1 ih
theorem BV(C:HL)(es:J Er)(rs:J Z)(pl m:Z):∀(ps:J (Z×D' Z))(k:O),nP C (hdM C es rs pl m k ps) (ps.flatMap (h3 es rs pl m))
 |[],_=>.nil
 |p::r,k=>by
  rw[QY];refine nP.app (a:=i7 C es rs pl m k p) ?_ (BV C es rs pl m r (k+1));unfold i7 h3 tpB;cases p.2 with
  |none=>exact .nil
  |some t =>
   simp only;cases aG es rs t with
   |none=>exact .nil
   |some h =>
    dsimp[L3];split
    .exact .cons ⟨Ee ..,IL ..,tE ..⟩ .nil
    .exact .nil
theorem vq(C:HL)(es:J Er)(rs:J Z)(pl:Z):∀(ms:J Z),nP C (iw C es rs pl ms) (hdP es rs pl ms)
 |[]=>.nil
 |m::r=>by unfold hdP;rw[QY];exact nP.app (BV C es rs pl m _ 0) (vq C es rs pl r)
theorem yY{f:M'}{g:Z×Z×Z->Z}(b:∀d x,h3D C d x->bf C f d=⇑(g x)){k:O}(a:∀d,ae k (δ++[Y d])=.ok d):∀{ds:J L}{xs:J (Z×Z×Z)},nP C ds xs ->
  eB bF (f9 #[0,g1 (bf C f) (ae k),g1 (bf C "times") (ae k)]) aL δ ds=.ok ((xs.map λx=>(g x,x.2.2)).map prD):=by
 intro ds xs h
 induction h with
 |nil=>rfl
 |@cons d x ds xs h1 _ ih =>
  have c:f9 #[0,g1 (bf C f) (ae k),g1 (bf C "times") (ae k)] (δ++[Y d])=.ok (prD (g x,x.2.2)):=by rw[mU,ay,iE,a,Rs.ag,b _ _ h1,Rs.ai,Rs.ag,ay,iE,a,Rs.ag,h1.2.2,Rs.ai,Rs.ag,aF];rfl
  unfold eB;dsimp[aL,bF,Rs.cM,Rs.ag,Sn,c,ih];rfl
def cf(cs:Cs):Gf:=gfG 3 3 (eP cs (bj cs) (bR cs))
theorem qL(cs:Cs):LLq (eP cs (bj cs) (bR cs)) 3 3 (cf cs):=iq
def p1(xs:J (Z×Z×Z)):J (Z×Z):=xs.map λx=>(x.1,x.2.2)
def p2(xs:J (Z×Z×Z)):J (Z×Z):=xs.map λx=>(x.2.1,x.2.2)
def Dc(es:J Er)(rs:J Z)(n:Z):Z :=
 let a:=((grt (p1 (hdP es rs (placeOf rs n) (rs.drop (placeOf rs n+1))))).map (·.2)).sum;let b:=((grt (p2 (hdP es rs (placeOf rs n) (rs.drop (placeOf rs n+1))))).map (·.2)).sum
 if b<a then b else a
theorem nP.len(h:nP C a x):x.length=a.length:=by
 induction h with
 |nil=>rfl
 |cons _ _ ih=>rw[PZ,PZ,ih]
theorem Ly(l1:1<=es.length)(l6:es.length<=6)(ok:∀e∈es,e.Ok)(a:bJ es.length rs)(n0:0<=n)(n1:n<es.length):cf cs [ar es,aj rs,.int n]=.ok (.int (Dc es rs n)):=by
 have hok:∀e∈es,e.Wk:=λe c=>(ok e c).wk
 have f:=ji cs l1 l6 hok a n0 n1;have rel:=vq cs.Holding es rs (placeOf rs n) (rs.drop (placeOf rs n+1));have hrl:=a.len;have b:∀m∈rs.drop (placeOf rs n+1),(aK es m).Wk:=λm hm=>by have:=a.rng m (Qt hm);exact hok _ (bK this.1 ⋯)
 have hln:=pZ cs.Holding es rs (placeOf rs n) 4 (rs.drop (placeOf rs n+1)) λm hm=>(b m hm).p2
 have hdl:(rs.drop (placeOf rs n+1)).length<=6:=by rw[Rl];omega
 unfold Dc;generalize hdP es rs (placeOf rs n) (rs.drop (placeOf rs n+1))=xs at *;generalize iw cs.Holding es rs (placeOf rs n) (rs.drop (placeOf rs n+1))=ds at *;have hxl:=rel.len;show bc (eP cs (bj cs) (bR cs) #[3,⇑n,S,S,S])=_;have i:aJ [] 3 (ao (bR cs) #[0,0,1,2]) #[3,⇑n,S,S,S]=.nx #[3,⇑n,↥ds,S,S]:=cX (by decide:3<6) (c7 rfl f);have s2:aJ [] 4 (ao (bj cs) #[0,gL (a9 6 (br (ae 3)) bF (f9 #[0,g1 (bf cs.Holding "number") (ae 6),g1 (bf cs.Holding "times") (ae 6)]) aL)]) #[3,⇑n,↥ds,S,S]=.nx #[3,⇑n,↥ds,Y (.int ((grt (p1 xs)).map (·.2)).sum),S]:=by
  refine cX (by decide:4<6) (c7 (ds:=[.list ((p1 xs).map prD)]) ?_ (K4 (by unfold p1;rw[P6];omega)));have hc:a9 6 (br (ae 3)) bF (f9 #[0,g1 (bf cs.Holding "number") (ae 6),g1 (bf cs.Holding "times") (ae 6)]) aL #[3,⇑n,↥ds,S,S]=.ok ((p1 xs).map prD):=by refine (FC (show U6 #[3,⇑n,Y (Uk ds),S,S]=6 from rfl)).trans ?_;show (if ds.length<=1000000 then _ else _)=_;rw[FC ⋯];exact yY (g:=λx=>x.1) (λd x h=>h.1) (λd=>rfl) rel
  rw[fL,ay,mX,hc];rfl
 have j:aJ [] 5 (ao (bj cs) #[0,gL (a9 6 (br (ae 3)) bF (f9 #[0,g1 (bf cs.Holding "tool") (ae 6),g1 (bf cs.Holding "times") (ae 6)]) aL)]) #[3,⇑n,↥ds,Y (.int ((grt (p1 xs)).map (·.2)).sum),S]=.nx #[3,⇑n,↥ds,Y (.int ((grt (p1 xs)).map (·.2)).sum),Y (.int ((grt (p2 xs)).map (·.2)).sum)]:=by
  refine cX (by decide:5<6) (c7 (ds:=[.list ((p2 xs).map prD)]) ?_ (K4 (by unfold p2;rw[P6];omega)));have hc:a9 6 (br (ae 3)) bF (f9 #[0,g1 (bf cs.Holding "tool") (ae 6),g1 (bf cs.Holding "times") (ae 6)]) aL #[3,⇑n,↥ds,Y (.int ((grt (p1 xs)).map (·.2)).sum),S]=.ok ((p2 xs).map prD):=by refine (FC (show U6 #[3,⇑n,Y (Uk ds),Y (EE ((grt (p1 xs)).map (·.2)).sum),S]=6 from rfl)).trans ?_;show (if ds.length<=1000000 then _ else _)=_;rw[FC ⋯];exact yY (g:=λx=>x.2.1) (λd x h=>h.2.1) (λd=>rfl) rel
  rw[fL,ay,mX,hc];rfl
 unfold eP;rw[cq i,cq s2,cq j];rfl
def bM(cs:Cs):Gf:=gfG 3 7 (dO cs aI)
theorem p9(cs:Cs):LLq (dO cs aI) 3 7 (bM cs):=iq
def c1(es:J Er)(rs:J Z)(pl:Z)(p:Z×D' Z):Bool:=match p.2 with
 |some t=>tpB es rs pl t
 |none=>false
def s1L(es:J Er)(rs:J Z)(pl x:Z):J Int:=((aK es x).parts.filter (c1 es rs pl)).map λp=>p.1-1
def s2L(es:J Er)(t x:Z):J Int:=((aK es x).parts.filter λp=>p.2==Y t).map λp=>p.1-1
theorem mT{cond:Ds->Rs R0}{elt:Ds->Rs L}{δ:Ds}{c:Z×D' Z->R0}:∀(ps:J (Z×D' Z)),(∀p∈ps,cond (δ++[Y (aN p)])=.ok (c p)/\elt (δ++[Y (aN p)])=.ok (.int (p.1-1)))->eB cond elt aL δ (ps.map aN)=.ok (((ps.filter c).map λp=>p.1-1).map EE)
 |[],_=>rfl
 |p::r,h=>by
  have a:=mT r λx b=>h x (P4 _ b)
  obtain⟨h1,h2⟩:=h p P7;rw[P0];unfold eB;cases hp:c p with
  |true=>dsimp[aL,h1,hp,Rs.cM,Rs.ag,Sn,h2,a,Qn];rfl
  |false=>dsimp[aL,h1,hp,Rs.cM,Rs.ag,SK,Qb,a,Qn]
def eW(es:J Er)(rs:J Z)(n:Z)(pl:O)(f:Z)(x6 x7 x8 a:D' L):Ds:=#[3,⇑n,⇑(pl:Z),Y (ax es rs),⇑f,x6,x7,x8,a]
def Ft:Ds->Sr:=az (ff [7] 7 (a9 10 (br (g2 dIx (g2 dIx (ae 0) (ae 6)) ↑3)) (jh (gT (g1 cV (g2 dIx (ae 10) ↑1))) (gT (g2 dLe (g2 dIx (ae 4) (g2 dIx (ae 10) ↑1)) (ae 3)))) (g2 cK (g2 dIx (ae 10) ↑0) ↑1) aL))
 (lF 5 (g2 aP (ae 5) (gF lK #[0,g2 aP (g9 #[0,↑0]) (ae 7)])))
def Kp:Ds->Sr:=Iz [7] 7 (gL (a9 10 (br (g2 dIx (g2 dIx (ae 0) (ae 6)) ↑3)) (gT (g2 dEq (g2 dIx (ae 10) ↑1) (ae 9))) (g2 cK (g2 dIx (ae 10) ↑0) ↑1) aL))
section
variable {pl:O}
theorem sY(a:bJ es.length rs)(ok:∀e∈es,e.Ok){x:Z}(b:x∈rs){p:Z×D' Z}(c:p∈(aK es x).parts){t:Z}(f:p.2=Y t):0<=t/\t<=3/\∃h,aG es rs t=Y h:=by have g:=a.rng x b;have oe:=ok _ (bK (es:=es) (n:=x) g.1 (by have:=a.len;omega));obtain⟨i,j⟩:=(oe.pl p c).2.2 t f;refine⟨i,j,lC es t rs 0 x b ?_⟩;unfold Er.has;rw[QO];exact⟨p,c,by rw[f];exact T6 _⟩
theorem IP(l:bJ es.length rs)(l6:es.length<=6)(ok:∀e∈es,e.Ok){x:Z}(m:x∈rs)(f:Z)(x7 x8 b:D' L):Ft (eW es rs n pl f ⇑x x7 x8 b)=.nx (eW es rs n pl (f+mx0 (s1L es rs pl x)) ⇑x ↥((s1L es rs pl x).map EE) x8 b):=by
 have q:=l.rng x m;have i:x<es.length:=by have:=l.len;omega
 have oe:=ok _ (bK (es:=es) (n:=x) q.1 i);have j:br (g2 dIx (g2 dIx (ae 0) (ae 6)) ↑3) (mask [7] (eW es rs n pl f ⇑x x7 x8 b))=.ok ((aK es x).parts.map aN):=by show br (g2 dIx (g2 dIx (ae 0) (ae 6)) ↑3) #[3,⇑n,⇑(pl:Z),Y (ax es rs),⇑f,⇑x,S,x8,b]=_;rw[jl,c8 (c8 (x:=ar es) (y:=.int x) rfl rfl (eX q.1 i)) (y:=.int 3) rfl (Ad _)];rfl
 have s:a9 10 (br (g2 dIx (g2 dIx (ae 0) (ae 6)) ↑3)) (jh (gT (g1 cV (g2 dIx (ae 10) ↑1))) (gT (g2 dLe (g2 dIx (ae 4) (g2 dIx (ae 10) ↑1)) (ae 3)))) (g2 cK (g2 dIx (ae 10) ↑0) ↑1) aL (mask [7] (eW es rs n pl f ⇑x x7 x8 b))=.ok ((s1L es rs pl x).map EE):=by
  refine (FC (show (mask [7] (eW es rs n pl f ⇑x x7 x8 b)).length=10 from rfl)).trans ?_;rw[j,Rs.ag,FC (by rw[P6];have:=oe.p2;omega)];refine mT (c:=c1 es rs pl) _ λp u=>⟨?_,rfl⟩
  show jh (gT (g1 cV (g2 dIx (ae 10) ↑1))) (gT (g2 dLe (g2 dIx (ae 4) (g2 dIx (ae 10) ↑1)) (ae 3))) #[3,⇑n,⇑(pl:Z),Y (ax es rs),⇑f,⇑x,S,x8,b,Y (aN p)]=_;obtain⟨a,o⟩:=p;cases o with
  |none=>rfl
  |some t =>obtain⟨v,w,h,r⟩:=sY l ok m u rfl;have hi:g2 dIx (ae 4) (g2 dIx (ae 10) ↑1) #[3,⇑n,⇑(pl:Z),Y (ax es rs),⇑f,⇑x,S,x8,b,Y (aN (a,Y t))]=.ok (.int h):=c8 (x:=ax es rs) (y:=.int t) rfl rfl (kH v w r);rw[rF,show gT (g1 cV (g2 dIx (ae 10) ↑1)) #[3,⇑n,⇑(pl:Z),Y (ax es rs),⇑f,⇑x,S,x8,b,Y (aN (a,Y t))]=.ok true from rfl,Rs.ag,FC rfl,fh,c8 (f:=dLe) hi (y:=.int (pl:Z)) rfl rfl];show Rs.ok (decide (h<=(pl:Z)))=.ok (tpB es rs pl t);unfold tpB;rw[r]
 have z:ff [7] 7 (a9 10 (br (g2 dIx (g2 dIx (ae 0) (ae 6)) ↑3)) (jh (gT (g1 cV (g2 dIx (ae 10) ↑1))) (gT (g2 dLe (g2 dIx (ae 4) (g2 dIx (ae 10) ↑1)) (ae 3)))) (g2 cK (g2 dIx (ae 10) ↑0) ↑1) aL) (eW es rs n pl f ⇑x x7 x8 b)=.nx (eW es rs n pl f ⇑x ↥((s1L es rs pl x).map EE) x8 b):=AX (by show 7<10;decide) s;have x9:(s1L es rs pl x).length<=4:=by unfold s1L;rw[P6];exact QD (Rk _ _) oe.p2
 have g:g2 aP (ae 5) (gF lK #[0,g2 aP (g9 #[0,↑0]) (ae 7)]) (eW es rs n pl f ⇑x ↥((s1L es rs pl x).map EE) x8 b)=.ok (.int (f+mx0 (s1L es rs pl x))):=by
  refine c8 (x:=.int f) (y:=.int (mx0 (s1L es rs pl x))) rfl ?_ rfl;have ga:g2 aP (g9 #[0,↑0]) (ae 7) (eW es rs n pl f ⇑x ↥((s1L es rs pl x).map EE) x8 b)=.ok (.list ((0::s1L es rs pl x).map EE)):=by refine c8 (x:=.list [.int 0]) (y:=.list ((s1L es rs pl x).map EE)) rfl rfl ?_;show (if _<=1000000 then _ else _)=_;rw[FC (by simp;omega)];rfl
  rw[gN,ay,ga,aF];show Rs.eu ((fI ((0::s1L es rs pl x).map EE)).bind λns=>(k6 ns).map EE)=_;rw[ej];show Rs.eu ((k6 (0::s1L es rs pl x)).map EE)=_;rw[(nM _).2.2];rfl
 unfold Ft;rw[cq z];exact xu (by show 5<10;decide) g rfl
theorem v5(g:bJ es.length rs)(l6:es.length<=6)(ok:∀e∈es,e.Ok):∀(ms:J Z)(f:Z)(x6 x7 x8 a:D' L),(∀x∈ms,x∈rs)->∃b c,forL (aU 6) Ft (ms.map EE) (eW es rs n pl f x6 x7 x8 a)=.nx (eW es rs n pl (f+(ms.map λx=>mx0 (s1L es rs pl x)).sum) b c x8 a)
 |[],f,x6,x7,x8,a,_=>⟨x6,x7,by rw[Qv,Qv,Y6,Sl];rfl⟩
 |x::r,f,x6,x7,x8,a,h=>by
  obtain⟨b,c,i⟩:=v5 g l6 ok r (f+mx0 (s1L es rs pl x)) ⇑x ↥((s1L es rs pl x).map EE) x8 a λy j=>h y (P4 _ j)
  refine⟨b,c,?_⟩;rw[P0,en (δ1:=eW es rs n pl f ⇑x x7 x8 a) rfl (IP g l6 ok (h x P7) f x7 x8 a),i,P0,Qe,VR]
theorem uQ(g:bJ es.length rs)(l6:es.length<=6)(ok:∀e∈es,e.Ok){f t:Z}{x8:D' L}:∀(ms z4:J Z)(x6:D' L),(∀x∈ms,x∈rs)->z4.length+4*ms.length<=1000->∃i,forL (aU 6) Kp (ms.map EE) (eW es rs n pl f x6 ↥(z4.map EE) x8 ⇑t)=.nx (eW es rs n pl f i ↥((z4++ms.flatMap (s2L es t)).map EE) x8 ⇑t)
 |[],z4,x6,_,_=>⟨x6,by rw[J.flatMap_nil,QC];rfl⟩
 |x::r,z4,x6,h,hl=>by
  rw[PZ]at hl;have o:=h x P7;have m:=g.rng x o;have a:x<es.length:=by have:=g.len;omega
  have oe:=ok _ (bK (es:=es) (n:=x) m.1 a);have x9:(s2L es t x).length<=4:=by unfold s2L;rw[P6];exact QD (Rk _ _) oe.p2
  have b:br (g2 dIx (g2 dIx (ae 0) (ae 6)) ↑3) #[3,⇑n,⇑(pl:Z),Y (ax es rs),⇑f,⇑x,S,x8,⇑t]=.ok ((aK es x).parts.map aN):=by rw[jl,c8 (c8 (x:=ar es) (y:=.int x) rfl rfl (eX m.1 a)) (y:=.int 3) rfl (Ad _)];rfl
  have q:a9 10 (br (g2 dIx (g2 dIx (ae 0) (ae 6)) ↑3)) (gT (g2 dEq (g2 dIx (ae 10) ↑1) (ae 9))) (g2 cK (g2 dIx (ae 10) ↑0) ↑1) aL #[3,⇑n,⇑(pl:Z),Y (ax es rs),⇑f,⇑x,S,x8,⇑t]=.ok ((s2L es t x).map EE):=by
   refine (FC (show U6 #[3,⇑n,⇑(pl:Z),Y (ax es rs),⇑f,⇑x,S,x8,Y (EE t)]=10 from rfl)).trans ?_;rw[b,Rs.ag,FC (by rw[P6];have:=oe.p2;omega)];refine mT (c:=λp=>p.2==Y t) _ λp hp=>⟨?_,rfl⟩
   rw[fh,c8 (f:=dEq) (x:=aW p.2) (y:=.int t) rfl rfl (Hn p.2 t)];rfl
  have j:Kp (eW es rs n pl f ⇑x ↥(z4.map EE) x8 ⇑t)=.nx (eW es rs n pl f ⇑x ↥((z4++s2L es t x).map EE) x8 ⇑t):=by
   have l:gL (a9 10 (br (g2 dIx (g2 dIx (ae 0) (ae 6)) ↑3)) (gT (g2 dEq (g2 dIx (ae 10) ↑1) (ae 9))) (g2 cK (g2 dIx (ae 10) ↑0) ↑1) aL) (mask [7] (eW es rs n pl f ⇑x ↥(z4.map EE) x8 ⇑t))=.ok (.list ((s2L es t x).map EE)):=by show gL (a9 10 (br (g2 dIx (g2 dIx (ae 0) (ae 6)) ↑3)) (gT (g2 dEq (g2 dIx (ae 10) ↑1) (ae 9))) (g2 cK (g2 dIx (ae 10) ↑0) ↑1) aL) #[3,⇑n,⇑(pl:Z),Y (ax es rs),⇑f,⇑x,S,x8,⇑t]=_;rw[mX,q];rfl
   show ofR (gL (a9 10 (br (g2 dIx (g2 dIx (ae 0) (ae 6)) ↑3)) (gT (g2 dEq (g2 dIx (ae 10) ↑1) (ae 9))) (g2 cK (g2 dIx (ae 10) ↑0) ↑1) aL) (mask [7] (eW es rs n pl f ⇑x ↥(z4.map EE) x8 ⇑t))) (λd=>match d with
    |.list es'=>if (z4.map EE).length+es'.length<=1000000 then Sr.nx ((eW es rs n pl f ⇑x ↥(z4.map EE) x8 ⇑t).set 7 ↥(z4.map EE++es')) else .no
    |_=>.no)=_
   rw[l,aw];show (if _ then _ else _)=_;rw[FC (by rw[P6,P6];omega),Qm];rfl
  obtain⟨i,s⟩:=uQ g l6 ok r (z4++s2L es t x) ⇑x (λy u=>h y (P4 _ u)) (by rw[PU];omega);refine⟨i,?_⟩;rw[P0,en (δ1:=eW es rs n pl f ⇑x ↥(z4.map EE) x8 ⇑t) rfl j,s,QY,QR]
def Il:Ds->Sr:=sIf (jh (gT (g1 cV (g2 dIx (ae 4) (ae 9)))) (gT (g2 dLe (g2 dIx (ae 4) (ae 9)) (ae 3)))) (az (ff [7] 7 #[0,↑0])
 (az (cY [7] (br (eV (ae 1) (gP (g2 aP (ae 3) ↑1)) dk)) (aU 6) Kp)
 (lF 8 (g2 aP (ae 8) (gF lK #[0,7]))))) ba
theorem Ai(f:Z)(x6 x8 a:D' L):br (eV (ae 1) (gP (g2 aP (ae 3) ↑1)) dk) #[3,⇑n,⇑(pl:Z),Y (ax es rs),⇑f,x6,S,x8,a]=.ok ((rs.drop (pl+1)).map EE):=by
 have:cutD (rs.map EE) (Y ((pl:Z)+1)) S=(rs.drop (pl+1)).map L.int:=by rw[show ((pl:Z)+1)=((pl+1:O):Z) by omega,ug,VQ]
 unfold aj;dsimp[jl,lS,oJ,ke,bQ,cA,aq,av,Rs.ag,dD,Rs.ai,nQ,tq,this,mM]
theorem Oc{t:Z}(t0:0<=t)(t3:t<=3):dIx (ax es rs) (.int t)=Y (aW (aG es rs t)):=by
 obtain⟨m,rfl⟩:∃m:O,t=(m:Z):=⟨t.toNat,⋯⟩
 show atI ((LN 4).map λ(t:O)=>aW (aG es rs t)) (m:Z)=_;refine rX ?_;rw[Q5,R6 ⋯];rfl
theorem rh(c:bJ es.length rs)(l6:es.length<=6)(ok:∀e∈es,e.Ok){t:Z}(i:0<=t)(j:t<=3)(f g:Z)(x6 x7:D' L):∃a l,Il (eW es rs n pl f x6 x7 ⇑g ⇑t)=.nx (eW es rs n pl f a l ⇑(g+if tpB es rs pl t=true then mx0 ((rs.drop (pl+1)).flatMap (s2L es t)) else 0) ⇑t):=by
 have hi:=Oc (es:=es) (rs:=rs) i j;have b:g2 dIx (ae 4) (ae 9) (eW es rs n pl f x6 x7 ⇑g ⇑t)=.ok (aW (aG es rs t)):=c8 (x:=ax es rs) (y:=.int t) rfl rfl hi;have hc:jh (gT (g1 cV (g2 dIx (ae 4) (ae 9)))) (gT (g2 dLe (g2 dIx (ae 4) (ae 9)) (ae 3))) (eW es rs n pl f x6 x7 ⇑g ⇑t)=.ok (tpB es rs pl t):=by
  rw[rF,fh,iE,b];unfold tpB;cases q:aG es rs t with
  |none=>rfl
  |some h =>rw[q]at b;show (if true=true then gT (g2 dLe (g2 dIx (ae 4) (ae 9)) (ae 3)) (eW es rs n pl f x6 x7 ⇑g ⇑t) else Rs.ok false)=_;rw[FC rfl,fh,c8 (f:=dLe) b (y:=.int (pl:Z)) rfl rfl];rfl
 unfold Il;rw[dF,hc,aw];cases q:tpB es rs pl t with
 |false =>refine⟨x6,x7,?_⟩;rw[GC Q1,GC Q1,Sl];rfl
 |true =>
  rw[FC rfl,FC rfl];have hdl:(rs.drop (pl+1)).length<=6:=by rw[Rl];have:=c.len;omega
  obtain⟨a,e⟩:=uQ (n:=n) (pl:=pl) c l6 ok (f:=f) (t:=t) (x8:=⇑g) (rs.drop (pl+1)) [0] x6 (λx m=>Qt m) (by rw[Qr];omega);refine⟨a,↥((0::(rs.drop (pl+1)).flatMap (s2L es t)).map EE),?_⟩;have o:ff [7] 7 #[0,↑0] (eW es rs n pl f x6 x7 ⇑g ⇑t)=.nx (eW es rs n pl f x6 ↥(([0]:J Z).map EE) ⇑g ⇑t):=AX (by show 7<10;decide) rfl;have s2:cY [7] (br (eV (ae 1) (gP (g2 aP (ae 3) ↑1)) dk)) (aU 6) Kp (eW es rs n pl f x6 ↥(([0]:J Z).map EE) ⇑g ⇑t)=.nx (eW es rs n pl f a ↥((0::(rs.drop (pl+1)).flatMap (s2L es t)).map EE) ⇑g ⇑t):=(nk (Ai f x6 ⇑g ⇑t)).trans e;rw[cq o,cq s2];refine xu (by show 8<10;decide) (c8 (x:=.int g) (y:=.int (mx0 ((rs.drop (pl+1)).flatMap (s2L es t)))) rfl ?_ rfl) rfl;show Rs.eu ((fI ((0::(rs.drop (pl+1)).flatMap (s2L es t)).map EE)).bind λns=>(k6 ns).map EE)=_;rw[ej];show Rs.eu ((k6 (0::(rs.drop (pl+1)).flatMap (s2L es t))).map EE)=_;rw[(nM _).2.2];rfl
def ml(es:J Er)(rs:J Z)(pl:O):Int:=((rs.drop (pl+1)).map λx=>mx0 (s1L es rs pl x)).sum
def iu(es:J Er)(rs:J Z)(pl:O)(t:Z):Int:=if tpB es rs pl t=true then mx0 ((rs.drop (pl+1)).flatMap (s2L es t)) else 0
def gx(es:J Er)(rs:J Z)(n:Z):Z :=
 let a:=ml es rs (placeOf rs n);let b:=(([0,1,2,3]:J Z).map (iu es rs (placeOf rs n))).sum
 if b<a then b else a
theorem Mw(a:bJ es.length rs)(l6:es.length<=6)(ok:∀e∈es,e.Ok)(n0:0<=n)(n1:n<es.length):bM cs [ar es,aj rs,.int n]=.ok (.int (gx es rs n)):=by
 show bc (dO cs aI #[3,⇑n,S,S,S,S,S,S,S])=_;have f:=a.mem n0 n1;have h:aJ [7] 3 (kY (ae 1) (ae 2)) #[3,⇑n,S,S,S,S,S,S,S]=.nx #[3,⇑n,⇑(placeOf rs n:Z),S,S,S,S,S,S]:=by refine cX (by decide:3<10) ?_;show kY (ae 1) (ae 2) #[3,⇑n,S,S,S,S,S,S,S]=_;unfold aj;dsimp[pR,aq,av,Rs.ag,fX f,Rs.ai]
 have s2:aJ [7] 4 (ao aI #[0,0,1]) #[3,⇑n,⇑(placeOf rs n:Z),S,S,S,S,S,S]=.nx #[3,⇑n,⇑(placeOf rs n:Z),Y (ax es rs),S,S,S,S,S]:=cX (by decide:4<10) (c7 (ds:=[ar es,aj rs]) rfl (eY ⋯ (λe i=>(ok e i).sh) a));have j:aJ [7] 5 ↑0 #[3,⇑n,⇑(placeOf rs n:Z),Y (ax es rs),S,S,S,S,S]=.nx (eW es rs n (placeOf rs n) 0 S S S S):=cX (by decide:5<10) rfl;obtain⟨b,c,e1⟩:=v5 (n:=n) (pl:=placeOf rs n) a l6 ok (rs.drop (placeOf rs n+1)) 0 S S S S λx l=>Qt l
 have m:cY [7] (br (eV (ae 1) (gP (g2 aP (ae 3) ↑1)) dk)) (aU 6) Ft (eW es rs n (placeOf rs n) 0 S S S S)=.nx (eW es rs n (placeOf rs n) (ml es rs (placeOf rs n)) b c S S):=by rw[nk (Ai 0 S S S),e1,Z.zero_add];rfl
 have o:aJ [7] 8 ↑0 (eW es rs n (placeOf rs n) (ml es rs (placeOf rs n)) b c S S)=.nx (eW es rs n (placeOf rs n) (ml es rs (placeOf rs n)) b c ⇑0 S):=cX (by show 8<10;decide) rfl;have g:fK #[0,↑4] (mask [7] (eW es rs n (placeOf rs n) (ml es rs (placeOf rs n)) b c ⇑0 S))=.ok [.int 0,.int 1,.int 2,.int 3]:=by show E1 [.int 4]=_;rw[kC #[1] #[1]];rfl
 obtain⟨p,q,c0⟩:=rh (n:=n) (pl:=placeOf rs n) a l6 ok (t:=0) #[1] #[1] (ml es rs (placeOf rs n)) 0 b c;obtain⟨r,s,c1⟩:=rh (n:=n) (pl:=placeOf rs n) a l6 ok (t:=1) #[1] #[1] (ml es rs (placeOf rs n)) (0+iu es rs (placeOf rs n) 0) p q;obtain⟨u,v,w⟩:=rh (n:=n) (pl:=placeOf rs n) a l6 ok (t:=2) #[1] #[1] (ml es rs (placeOf rs n)) (0+iu es rs (placeOf rs n) 0+iu es rs (placeOf rs n) 1) r s;obtain⟨y,z,A⟩:=rh (n:=n) (pl:=placeOf rs n) a l6 ok (t:=3) #[1] #[1] (ml es rs (placeOf rs n)) (0+iu es rs (placeOf rs n) 0+iu es rs (placeOf rs n) 1+iu es rs (placeOf rs n) 2) u v;have B:cY [7] (fK #[0,↑4]) (aU 9) Il (eW es rs n (placeOf rs n) (ml es rs (placeOf rs n)) b c ⇑0 S)=.nx (eW es rs n (placeOf rs n) (ml es rs (placeOf rs n)) y z ⇑(0+iu es rs (placeOf rs n) 0+iu es rs (placeOf rs n) 1+iu es rs (placeOf rs n) 2+iu es rs (placeOf rs n) 3) ⇑3):=by rw[nk g,en rfl c0,en rfl c1,en rfl w,en rfl A];rfl
 have C:dO cs aI=az (aJ [7] 3 (kY (ae 1) (ae 2))) (az (aJ [7] 4 (ao aI #[0,0,1])) (az (aJ [7] 5 ↑0) (az (cY [7] (br (eV (ae 1) (gP (g2 aP (ae 3) ↑1)) dk)) (aU 6) Ft) (az (aJ [7] 8 ↑0) (az (cY [7] (fK #[0,↑4]) (aU 9) Il) (bq (gF j9 #[0,5,8]))))))):=rfl;rw[C,cq h,cq s2,cq j,cq m,cq o,cq B];have D:(([0,1,2,3]:J Z).map (iu es rs (placeOf rs n))).sum=0+iu es rs (placeOf rs n) 0+iu es rs (placeOf rs n) 1+iu es rs (placeOf rs n) 2+iu es rs (placeOf rs n) 3:=by dsimp[P0,Qv,Qe,Y6];omega
 unfold gx;rw[D];rfl
end
theorem lW(a b:J (Z×Z))(k:Z):lu (a++b) k=lu a k++lu b k:=by unfold lu;rw[J.filter_append,Qm]
theorem FV(a b:J (Z×Z×Z)):p1 (a++b)=p1 a++p1 b:=Qm
theorem HG(a b:J (Z×Z×Z)):p2 (a++b)=p2 a++p2 b:=Qm
section
variable {pl:Z}
theorem yx(m x:Z):∀ps:J (Z×D' Z),lu (p1 (ps.flatMap (h3 es rs pl m))) x=if m=x then (ps.filter (c1 es rs pl)).map (λp=>p.1-1) else []
 |[]=>by split <;> rfl
 |p::r=>by
  rw[QY,FV,lW,yx m x r,Qn];obtain⟨a,o⟩:=p;cases o with
  |none =>rw[show h3 es rs pl m (a,S)=[] from rfl,show c1 es rs pl (a,S)=false from rfl,GC Q1];rfl
  |some t =>
   rw[show h3 es rs pl m (a,Y t)=if tpB es rs pl t=true then [(m,t,a-1)] else [] from rfl,show c1 es rs pl (a,Y t)=tpB es rs pl t from rfl];cases q:tpB es rs pl t with
   |false =>rw[GC Q1,GC Q1];rfl
   |true =>
    rw[FC rfl,FC rfl];by_cases z:m=x
    .rw[FC z,FC z];show ((([(m,a-1)]:J (Z×Z)).filter λp=>decide (p.1=x)).map (·.2))++_=_;rw[Qn,FC (O' z)];rfl
    .rw[GC z,GC z];show ((([(m,a-1)]:J (Z×Z)).filter λp=>decide (p.1=x)).map (·.2))++_=_;rw[Qn,GC (show ¬ (decide (m=x)=true) from λe=>z (Sw e))];rfl
theorem yp(m t:Z):∀ps:J (Z×D' Z),lu (p2 (ps.flatMap (h3 es rs pl m))) t=if tpB es rs pl t=true then (ps.filter λp=>p.2==Y t).map (λp=>p.1-1) else []
 |[]=>by split <;> rfl
 |p::r=>by
  rw[QY,HG,lW,yp m t r,Qn];obtain⟨a,o⟩:=p;cases o with
  |none =>rw[show h3 es rs pl m (a,S)=[] from rfl,GC (show ¬ ((S:D' Z)==Y t)=true from by simp)];rfl
  |some u =>
   rw[show h3 es rs pl m (a,Y u)=if tpB es rs pl u=true then [(m,u,a-1)] else [] from rfl];by_cases z:u=t
   .subst z;rw[FC (show ((Y u:D' Z)==Y u)=true from T6 _)];cases q:tpB es rs pl u with
    |false=>rw[GC Q1,GC Q1,GC Q1];rfl
    |true =>rw[FC rfl,FC rfl,FC rfl];show ((([(u,a-1)]:J (Z×Z)).filter λp=>decide (p.1=u)).map (·.2))++_=_;rw[Qn,FC (O' rfl)];rfl
   .rw[GC (show ¬ ((Y u:D' Z)==Y t)=true from by simpa using z)];cases q:tpB es rs pl u with
    |false=>rw[GC Q1];rfl
    |true =>rw[FC rfl];show ((([(u,a-1)]:J (Z×Z)).filter λp=>decide (p.1=t)).map (·.2))++_=_;rw[Qn,GC (show ¬ (decide (u=t)=true) from λe=>z (Sw e))];rfl
theorem Hk(x:Z):∀ms:J Z,ms.Nodup->lu (p1 (hdP es rs pl ms)) x=if x∈ms then s1L es rs pl x else []
 |[],_=>rfl
 |m::r,nd=>by
  have a:=Qq.mp nd;have b:=Hk x r a.2;unfold hdP at b ⊢;rw[QY,FV,lW,b,yx];by_cases z:m=x
  .subst z;rw[FC rfl,GC a.1,FC P7,QC];rfl
  .rw[GC z,Qs];by_cases y:x∈r
   .rw[FC y,FC (P4 _ y)]
   .rw[GC y,GC (λh=>(P8.mp h).elim (λe=>z e.symm) y)]
theorem Ie(t:Z):∀ms:J Z,lu (p2 (hdP es rs pl ms)) t=if tpB es rs pl t=true then ms.flatMap (s2L es t) else []
 |[]=>by split <;> rfl
 |m::r=>by have a:=Ie t r;unfold hdP at a ⊢;rw[QY,HG,lW,a,yp,QY];split <;> rfl
theorem Ks(c:bJ es.length rs)(ok:∀e∈es,e.Ok)(hm:∀x∈ms,x∈rs):∀y∈hdP es rs pl ms,y.1∈ms/\y.2.1∈([0,1,2,3]:J Z):=λy a=>by
 obtain⟨x,b,a⟩:=Sm.mp a;obtain⟨p,f,a⟩:=Sm.mp a;unfold h3 at a;cases q:p.2 with
 |none=>rw[q]at a;cases a
 |some t =>
  rw[q]at a;simp only at a;split at a
  .cases PV.mp a;obtain⟨t0,t3,_⟩:=sY c ok (hm x b) f q;refine⟨b,?_⟩;have:t=0\/t=1\/t=2\/t=3:=⋯
   rcases this with e|e|e|e <;> simp[e]
  .cases a
theorem EF(f:bJ es.length rs)(ok:∀e∈es,e.Ok)(n:Z):Dc es rs n=gx es rs n:=by
 have nd:(rs.drop (placeOf rs n+1)).Nodup:=UO (WG _ _) f.nd;have g:=Ks (pl:=(placeOf rs n:Z)) f ok (ms:=rs.drop (placeOf rs n+1)) λx a=>Qt a
 have e1:((grt (p1 (hdP es rs (placeOf rs n) (rs.drop (placeOf rs n+1))))).map (·.2)).sum=ml es rs (placeOf rs n):=by
  rw[Cv nd λp b=>by obtain⟨y,c,rfl⟩:=PQ.mp b;exact (g y c).1];unfold ml;congr 1;refine Q3 λx a=>?_
  rw[Hk x _ nd,FC a]
 have e2:((grt (p2 (hdP es rs (placeOf rs n) (rs.drop (placeOf rs n+1))))).map (·.2)).sum=(([0,1,2,3]:J Z).map (iu es rs (placeOf rs n))).sum:=by
  rw[Cv (U:=[0,1,2,3]) #[1] λp b=>by obtain⟨y,c,rfl⟩:=PQ.mp b;exact (g y c).2];congr 1;refine Q3 λt _=>?_
  rw[Ie];unfold iu;split <;> rfl
 unfold Dc gx;rw[e1,e2]
end
section
variable {len:M'}{t:J L}
theorem Ja(R:Ran es rs z5 "asked")(C:Cms es z5)(f:mq es rs z5 "asked"=Y t) :
  ∃q ve T,Trc (ax es rs) es.length q ve/\AG (ax es rs) es.length q ve/\IC es.length q/\(∀m,m<es.length->∃row,z5[m]?=Y row/\q m 0=mkJ es rs m row)/\t.length=T/\T<1000000 /\
   (∀i,i<T->t[i]?=Y (match ve i with
    |some m=>i4 (q m i)
    |none=>.none))/\∀m,m<es.length->(q m T).job=(q m T).row.length:=by
 have a:IvJ (ax es rs) 0 (startJ es rs z5):=Ih R C;have hv:=F0 R;have c:=Hi R C;have hl:(startJ es rs z5).length=es.length:=by rw[iV,R.ln]
 have f:wt (ax es rs) "asked" 1000000 (stJ (ax es rs) "asked" (startJ es rs z5) 0)=Y t:=f;obtain⟨T,_,h2,h3,j⟩:=BX 1000000 0 f;have g:=F3 (len:="asked") a hv c;rw[hl]at g;refine⟨qJ (ax es rs) "asked" (startJ es rs z5),tZ (ax es rs) "asked" (startJ es rs z5),T,g,?_,?_,λm hm=>?_,by rw[h3,gB],⋯,λi hi=>?_,λm hm=>?_⟩
 .have hb:AG (ax es rs) (startJ es rs z5).length (qJ (ax es rs) "asked" (startJ es rs z5)) (tZ (ax es rs) "asked" (startJ es rs z5)):=Gm a hv c;rw[hl]at hb;exact @hb
 .have ho:IC (startJ es rs z5).length (qJ (ax es rs) "asked" (startJ es rs z5)):=NC a hv c;rw[hl]at ho;exact @ho
 .have b:m<z5.length:=by rw[R.ln];exact hm
  refine⟨z5[m],My b,?_⟩;unfold qJ;show (startJ es rs z5).getD m default=_;rw[Q2,l5,My b];rfl
 .rw[h3,Kh hi];cases w:tZ (ax es rs) "asked" (startJ es rs z5) i with
  |none =>
   unfold tZ at w;split at w
   .rename_i z;rw[FC z]
   .cases w
  |some m =>obtain⟨_,z,e⟩:=kf a hv c w;rw[GC z];show _=Y (i4 (qJ _ _ _ m i));rw[e]
 .have h:m<(stJ (ax es rs) "asked" (startJ es rs z5) T).1.length:=by rw[pk a hv,hl];exact hm
  rw[i8 h];have:=Q6.mp j _ (Qk h);unfold Jb.done at this;have:=eq_of_beq this;omega
end
theorem BO{n:O}(a:bJ n rs){m:Z}(c:0<=m)(e:m<n){p:O}:m∈rs.drop (p+1)↔p<placeOf rs m:=by
 have hm:=a.mem c e;have b:=v9 hm;constructor
 .intro h;obtain⟨i,hi⟩:=S3.mp h;rw[W8]at hi;obtain⟨h1,e1⟩:=Qa.mp hi;obtain⟨h2,e2⟩:=Qa.mp b;have:=(WJ a.nd (i:=p+1+i) (j:=placeOf rs m) (h₀:=h1) (h₁:=h2)).mp (by rw[e1,e2]);omega
 .intro h;rw[S3];refine⟨placeOf rs m-(p+1),?_⟩;rw[W8,show p+1+(placeOf rs m-(p+1))=placeOf rs m by omega];exact b
theorem Ii{q:O->O->Jb}(F:Trc (ax es rs) es.length q ve)(H:AG (ax es rs) es.length q ve)(Ok:IC es.length q)(w:bJ es.length rs)(hok:∀e∈es,e.Ok)(r:∀m,m<es.length->(q m 0).parts=(aK es (m:Z)).parts/\(q m 0).rank=(placeOf rs (m:Z):Z)){a B d:O}
  (i:∀u,B<=u->u<B+d->∃p,p<es.length/\(q p u).there (u:Z)=true/\(q p u).rank<=(placeOf rs (a:Z):Z)):((rs.drop (placeOf rs (a:Z)+1)).map λx=>(q x.toNat (B+d)).tot-(q x.toNat B).tot).sum<=gx es rs (a:Z):=by
 have nd:(rs.drop (placeOf rs (a:Z)+1)).Nodup:=UO (WG _ _) w.nd;have j:∀x∈rs.drop (placeOf rs (a:Z)+1),x∈rs/\0<=x/\x<es.length:=λx b=>⟨Qt b,w.rng x (Qt b)⟩
 have each:∀x∈rs.drop (placeOf rs (a:Z)+1),0<=(q x.toNat (B+d)).tot-(q x.toNat B).tot/\((q x.toNat (B+d)).tot-(q x.toNat B).tot=0\/∃p∈(aK es x).parts,∃T,p.2=Y T/\tpB es rs (placeOf rs (a:Z)) T=true/\0<=T/\T<=3/\(q x.toNat (B+d)).tot-(q x.toNat B).tot<=p.1-1/\(q x.toNat B).held=Y T):=λx b=>by
  obtain⟨A,x0,x1⟩:=j x b;obtain⟨m,rfl⟩:∃m:O,x=(m:Z):=⟨x.toNat,⋯⟩
  rw[Qp];have hm:m<es.length:=⋯
  have hpl:=(BO w (m:=(m:Z)) ⋯ ⋯ (p:=placeOf rs (a:Z))).mp b;refine⟨by have:=F.mono hm (show B<=B+d by omega);omega,?_⟩;rcases F.low_oneB H hm (by rw[(r m hm).2];omega) d i with e|⟨p,p1,c,p2,l,n,s⟩
  .left;omega
  .right;rw[(r m hm).1]at p1;obtain⟨C,D,h,G⟩:=sY w hok A p1 p2;refine⟨p,p1,c,p2,?_,C,D,n,s⟩;have v:mj (ax es rs) c=h:=by unfold mj;rw[kH C D G]
   rw[v]at l;unfold tpB;rw[G];exact O' l
 have b1:((rs.drop (placeOf rs (a:Z)+1)).map λx=>(q x.toNat (B+d)).tot-(q x.toNat B).tot).sum<=ml es rs (placeOf rs (a:Z)):=om λx b=>by
  obtain⟨_,e|⟨p,p1,c,p2,l,_,_,n,_⟩⟩:=each x b
  .rw[e];exact (nM _).1
  .refine RK n ((nM _).2.1 _ (PQ.mpr ⟨p,Qg.mpr ⟨p1,?_⟩,rfl⟩));unfold c1;rw[p2];exact l
 have b2:((rs.drop (placeOf rs (a:Z)+1)).map λx=>(q x.toNat (B+d)).tot-(q x.toNat B).tot).sum<=(([0,1,2,3]:J Z).map (iu es rs (placeOf rs (a:Z)))).sum:=by
  have E:=CA (ls:=rs.drop (placeOf rs (a:Z)+1)) (f:=λx=>(q x.toNat (B+d)).tot-(q x.toNat B).tot) (g:=iu es rs (placeOf rs (a:Z))) (τ:=λx=>if (q x.toNat (B+d)).tot-(q x.toNat B).tot=0 then S else (q x.toNat B).held) nd (λx b=>(each x b).1) (λt=>by
   unfold iu;split
   .exact (nM _).1
   .exact QB 0) (λx b t o=>by
   obtain⟨_,e|⟨p,p1,c,p2,l,_,_,n,s⟩⟩:=each x b
   .rw[FC e]at o;cases o
   .have ne:¬ (q x.toNat (B+d)).tot-(q x.toNat B).tot=0:=λz=>by rw[FC z]at o;cases o
    rw[GC ne,s]at o;cases o;unfold iu;rw[FC l];exact RK n ((nM _).2.1 _ (Sm.mpr ⟨x,b,PQ.mpr ⟨p,Qg.mpr ⟨p1,by rw[p2];exact T6 _⟩,rfl⟩⟩))) (λx b y I t h1 h2=>by
   have ne1:¬ (q x.toNat (B+d)).tot-(q x.toNat B).tot=0:=λz=>by rw[FC z]at h1;cases h1
   have ne2:¬ (q y.toNat (B+d)).tot-(q y.toNat B).tot=0:=λz=>by rw[FC z]at h2;cases h2
   rw[GC ne1]at h1;rw[GC ne2]at h2;have hx':=j x b;have hy':=j y I;have:=Ok ⋯ ⋯ h1 h2;omega) [0,1,2,3]
  refine RK (om λx b=>?_) E;obtain⟨h1,e|⟨p,p1,c,p2,l,C,D,n,s⟩⟩:=each x b
  .rw[FC e];show _<=(0:Z);omega
  .by_cases z:(q x.toNat (B+d)).tot-(q x.toNat B).tot=0
   .rw[FC z];show _<=(0:Z);omega
   .rw[GC z,s];have:c∈([0,1,2,3]:J Z):=by
     have:c=0\/c=1\/c=2\/c=3:=⋯
     rcases this with e|e|e|e <;> simp[e]
    show _<=(if c∈([0,1,2,3]:J Z) then _ else _);rw[FC this];exact QB _
 unfold gx;show _<=(if _<_ then _ else _);split <;> omega
theorem yK{h B':Z}(a:jr es rs n h=Y B'):1<=B'/\B'<=(aK es n).every-(aK es n).late/\eK es rs n h B'<=B':=by unfold jr gz at a;have h1:=Xi a;obtain⟨i,hi,e⟩:=PQ.mp (RI a);have:=Ra.mp hi;exact⟨⋯,⋯,Sw h1⟩
theorem yr{t:J L}(R:Ran es rs z5 "asked")(C:Cms es z5)(M:mq es rs z5 "asked"=Y t) :
  (∀d∈t,wO d)/\t.length<1000000/\(∀(a:O)(row:J Z),z5[a]?=Y row->∀k,k<row.length->∃v,fj (endsF 0 t []) ((a:Z),(k:Z))=Y v) /\
   ∀(a:O)(row:J Z)(B':Z),z5[a]?=Y row->jr es rs (a:Z) (gx es rs (a:Z))=Y B'->∀k(s:k<row.length) v,fj (endsF 0 t []) ((a:Z),(k:Z))=Y v->v-row[k]<=B':=by
 obtain⟨q,ve,T,p,Bk,Ok,r,x9,hT,f,l⟩:=Ja R C M;have E:∀m,m<es.length->(q m 0).tot=0:=λm hm=>by obtain⟨row,_,e⟩:=r m hm;rw[e];exact pE m row
 have b:∀{a:O}{row:J Z},z5[a]?=Y row->a<es.length/\(q a 0).row=row/\(q a 0).parts=(aK es (a:Z)).parts/\(q a 0).rank=(placeOf rs (a:Z):Z):=λ{a row} h=>by
  have ha:a<es.length:=by rw[<-R.ln];exact (Qa.mp h).1
  obtain⟨o,h',e⟩:=r a ha;rw[h]at h';cases h';rw[e];exact⟨ha,rfl,rfl,rfl⟩
 have y:∀m:O,m<es.length->es[m]?=Y (aK es (m:Z)):=λm hm=>by have:=oS (es:=es) (n:=(m:Z)) ⋯ ⋯;rw[Qp]at this;exact this
 have A:∀m:O,m<es.length->(aK es (m:Z)).Ok:=λm hm=>R.eok.ok _ (bK ⋯ ⋯)
 have g:∀m:O,m<es.length->∃row,z5[m]?=Y row/\oz row/\hvE (aK es (m:Z)) row=true:=λm hm=>by obtain⟨row,h,_⟩:=r m hm;exact⟨row,h,C.at (y m hm) h⟩
 refine⟨λd hd=>?_,⋯,λa row h k s=>?_,λa row B' h hL k s v hv=>?_⟩
 .obtain⟨i,hi,e⟩:=RD hd;have:=f i ⋯;rw[My hi,e]at this;cases w:ve i with
  |none=>rw[w]at this;left;exact P' this
  |some m=>rw[w]at this;right;exact⟨((q m i).num,((q m i).job:Z)),P' this⟩
 .obtain⟨ha,e1,_,_⟩:=b h;exact yv t 0 [] (.inl (p.told f x9 E l ha (k:=k) (by rw[e1];exact s)).1)
 .obtain⟨ha,e1,e2,N⟩:=b h;have D:k<(q a 0).row.length:=by rw[e1];exact s
  obtain⟨D2,L2,P⟩:=yK hL;have F:((B'.toNat:O):Z)=B':=⋯
  have main:=p.answerB Bk E R.rok (λm hm=>by obtain⟨row,h,_⟩:=r m hm;exact (b h).2.2.2)
   (λm hm c hc=>by obtain⟨row,h,i1,_⟩:=g m hm;rw[(b h).2.1]at hc;exact i1.lo c hc)
   ha (H:=gx es rs (a:Z)) (B':=B'.toNat) (tm:=λx=>(aK es x).times B')
   (λB hw=>Ii p Bk Ok R.rok R.eok.ok (λm hm=>by obtain⟨row,h,_⟩:=r m hm;exact⟨(b h).2.2.1,(b h).2.2.2⟩) (λu h1 h2=>by rw[<-N];exact hw u h1 h2))
   (by rw[e2];exact (A a ha).la)
   (λm hm hp B=>by
    obtain⟨row,h',i1,i2⟩:=g m hm;rw[(b h').2.1];have ok:=A m hm;have:=Hz (ev:=(aK es (m:Z)).every) (la:=(aK es (m:Z)).late) (u:=(B:Z)-1) (t:=(B:Z)+B'.toNat-1) (by have:=ok.e1;omega) ok.l1 ⋯ i2 (by have:=p.srt 0 hm;rw[(b h').2.1]at this;exact this)
    rw[F]at this ⊢;rw[show (B:Z)+B'-1-((B:Z)-1)-1+(aK es (m:Z)).late=B'-1+(aK es (m:Z)).late by omega,Hf ok D2]at this;exact this)
   ⋯
   (by
    rw[F];have K:∀m:O,m<es.length->(q m 0).work=(aK es (m:Z)).work:=λm hm=>by obtain⟨row,h',_⟩:=r m hm;unfold Jb.work;rw[(b h').2.2.1];rfl
    have G:((rs.take (placeOf rs (a:Z))).map λx=>(aK es x).times B'*(q x.toNat 0).work)=(rs.take (placeOf rs (a:Z))).map λx=>(aK es x).times B'*(aK es x).work:=Q3 λx Q=>by have hr':=R.rok.rng x (QP Q);rw[K x.toNat ⋯,show ((x.toNat:O):Z)=x by omega]
    rw[G,K a ha];exact P)
   (λj D1=>by
    have I:j+1<row.length:=by rw[<-e1];exact D1
    obtain⟨o,h',_,i2⟩:=g a ha;rw[h]at h';cases h';have:=Fd i2 j I;have g1:(q a 0).row[j]=row[j]:=by dsimp[e1]
    have g2:(q a 0).row[j+1]=row[j+1]:=by dsimp[e1]
    rw[g1,g2,F];omega) k D
  have g1:(q a 0).row[k]=row[k]:=by dsimp[e1]
  have c0:0<=row[k]:=by obtain⟨o,h',i1,_⟩:=g a ha;rw[h]at h';cases h';exact i1.lo _ (Qk s)
  rcases u7 t 0 [] hv with⟨j,d,d1,d2,d3⟩|z
  .have lt:=(p.told f x9 E l ha D).2 j d d1 d2;have:j<row[k].toNat+B'.toNat:=by
    refine Yq.mp λz=>?_
    have:=p.mono ha z;rw[g1]at main;omega
   omega
  .cases z
def fS(cs:Cs):Gf:=gfG 4 0 (j7 cs (jj cs) (dB cs))
def dQ(z5:J (J Z))(l:PTl):PyData:=.list (z5.mapIdx λn row=>.list (row.mapIdx (yC l n)))
theorem yS{t:J L}(R:Ran es rs z5 "asked")(C:Cms es z5)(a:mq es rs z5 "asked"=Y t):fS cs [ar es,aj rs,cmD z5,.str "asked"]=.ok (dQ z5 (endsF 0 t [])):=by
 obtain⟨h1,h2,h3,_⟩:=yr R C a;have hl:z5.length<=1000:=by have:=R.ln;have:=R.eok.l6;omega
 show bc (j7 cs (jj cs) (dB cs) #[3,Y (cmD z5),Y (.str "asked")])=_;unfold j7;have e1:ao (jj cs) #[0,0,1,2,3] #[3,Y (cmD z5),Y (.str "asked")]=.ok (.list t):=c7 rfl (vL R C a);have e2:ao (dB cs) #[0,2,ao (jj cs) #[0,0,1,2,3]] #[3,Y (cmD z5),Y (.str "asked")]=.ok (dQ z5 (endsF 0 t [])):=by refine c7 (ds:=[cmD z5,.list t]) ?_ (uJ hl (λr a=>by have:=(C.qH r a).few;omega) h1 h2 h3);dsimp[ay,aF,aq,av,e1,Rs.ag]
 dsimp[bW,e2,aw,a8]
def eM(cs:Cs)(cf bI bx:Gf):Ds->Sr :=
 (az (lp (ao bx #[0,0,1,2]))
  (bq (ao bI #[0,0,1,2,ao cf #[0,0,1,2]])))
def BY(cs:Cs)(cF cT bM bB bU aI fS cz cL ak b0:Gf):Ds->Sr :=
 (az (aJ [9] 1 (ao b0 #[0,0,↑12,↑4,↑28,g2 dGt (ao ak #[0,0,↑10,↑4]) ↑0]))
  (az (aJ [9] 2 (ao cL #[0,0,↑0,gF cp #[0,1]]))
  (az (aJ [9] 3 (ao cz #[0,0,↑5,1,↑80]))
  (az (aJ [9] 4 (ao fS #[0,1,2,3,gC (.str "asked")]))
  (az (aJ [9] 5 (g2 dEq (gL (a9 11 (br (ao aI #[0,1,2])) (gT (g1 cV (ae 11))) (ae 11) aL)) (g9 ah)))
  (az (cY [9] (fK #[0,gF cp #[0,1]]) (aU 6) (az (aJ [9] 7 (ao bU #[0,1,2,6]))
  (az (aJ [9] 8 (g2 cK (ao bM #[0,1,2,6]) (ao bB #[0,1,2,6])))
  (az (ff [9] 9 ah)
  (az (cY [9] (yl #[0,↑1,g2 aP (g2 cK (g2 dIx (g2 dIx (ae 1) (ae 6)) ↑0) (g2 dIx (g2 dIx (ae 1) (ae 6)) ↑2)) ↑1]) (aU 10) (sIf (gT (g2 dLe (g2 aP (ao cT #[0,1,2,6,10]) (ae 8)) (ae 10))) (iO [9] 9 (ae 10)) ba))
  (az (sIf (cOr (gT (g2 dNe (ae 7) (g2 dIx (g2 aP (ae 9) (g9 #[0,gC .none])) ↑0))) (jh (gT (ae 5)) (gT (g2 dNe (ae 7) (ao cF #[0,1,2,6]))))) (bq (gC (.bool false))) ba)
  (sIf (jh (gT (g1 cV (ae 7))) (gT (g2 dGt (gF lK #[0,g2 aP (g9 #[0,↑0]) (g2 dIx (ae 4) (ae 6))]) (ae 7)))) (bq (gC (.bool false))) ba)))))))
  (bq (gC (.bool true)))))))))
def bU(cs:Cs):Gf:=gfG 3 0 (eM cs (cf cs) bI bx)
theorem qP(cs:Cs):LLq (eM cs (cf cs) bI bx) 3 0 (bU cs):=iq
theorem tD{f:Z->Z}(h:∀x,0<=f x):∀l:J Z,0<=(l.map f).sum
 |[]=>QB 0
 |x::r=>by rw[P0,Qe];have:=h x;have:=tD h r;omega
theorem Hr(es:J Er)(rs:J Z)(n:Z):0<=gx es rs n:=by
 have h1:0<=ml es rs (placeOf rs n):=tD (λx=>(nM _).1) _;have h2:0<=(([0,1,2,3]:J Z).map (iu es rs (placeOf rs n))).sum:=tD (λt=>by
  unfold iu;split
  .exact (nM _).1
  .exact QB 0) _
 unfold gx;show 0<=(if _<_ then _ else _);split <;> omega
section
theorem N9(l1:1<=es.length)(l6:es.length<=6)(ok:∀e∈es,e.Ok)(a:bJ es.length rs)(n0:0<=n)(n1:n<es.length):bU cs [ar es,aj rs,.int n]=.ok (aW (jr es rs n (gx es rs n))):=by have h2:=gK l1 l6 ok a n0 n1;have h3:=Ly (cs:=cs) l1 l6 ok a n0 n1;rw[EF a ok]at h3;have b:=gY (h:=gx es rs n) l1 l6 (λe c=>(ok e c).wk) a n0 n1 (Hr es rs n);show bc (eM cs (cf cs) bI bx #[3,⇑n])=_;dsimp[eM,aQ,qT,bp,ay,aF,aq,av,Rs.ag,h2,aw,bW,h3,b,a8]
theorem AJ(j:bJ es.length rs)(ok:∀e∈es,e.Ok)(l:∀t:Z,0<=t->t<=3->aG es rs t=S)(n:Z):gx es rs n=eJ es rs n:=by
 have tp:∀pl t:Z,0<=t->t<=3->tpB es rs pl t=false:=λpl t r h3=>by unfold tpB;rw[l t r h3]
 have h1:eJ es rs n=0:=by
  have a:=tO es rs n;have b:eJ es rs n<=0:=vC.mpr ⟨QB 0,λm hm p c t f _=>by obtain⟨g,i,h,o⟩:=sY j ok (Qt hm) c f;rw[l t g i]at o;cases o⟩
  omega
 have h2:ml es rs (placeOf rs n)=0:=gE _ λx s=>by
  have:s1L es rs (placeOf rs n) x=[]:=by
   unfold s1L;rw[J.filter_eq_nil_iff.mpr λp c=>?_]
   .rfl
   .unfold c1;cases q:p.2 with
    |none=>simp
    |some t =>obtain⟨g,i,_⟩:=sY j ok (Qt s) c q;simp[tp _ t g i]
  rw[this];rfl
 have h3:(([0,1,2,3]:J Z).map (iu es rs (placeOf rs n))).sum=0:=gE _ λt f=>by
  unfold iu;have:0<=t/\t<=3:=by simp at f;omega
  rw[GC (by rw[tp _ t this.1 this.2];exact Q1)]
 unfold gx;rw[h2,h3,h1];rfl
end
def w27(D1 E R C F P:L)(x6 x7 x8 b a:D' L):Ds:=[Y D1,Y E,Y R,Y C,Y F,Y P,x6,x7,x8,b,a]
def z0:Ds->Sr:=sIf (gT (g2 dLe (g2 aP (ao cT #[0,1,2,6,10]) (ae 8)) (ae 10))) (iO [9] 9 (ae 10)) ba
section
variable {D1 C F P:L}{a:O}{x7:D' L}
theorem rT(l6:es.length<=6)(ok:∀e∈es,e.Ok)(j:bJ es.length rs)(ha:a<es.length){m:Z}:∀(d:O)(b:O)(z4:J Z)(g:D' L),z4.length+d<=1000->∃c,forL (aU 10) z0 ((Ul b d).map λ(i:O)=>EE (1+(i:Z))) (w27 D1 (ar es) (aj rs) C F P ⇑(a:Z) x7 ⇑m ↥(z4.map EE) g) =
  .nx (w27 D1 (ar es) (aj rs) C F P ⇑(a:Z) x7 ⇑m ↥((z4++((Ul b d).map λ(i:O)=>1+(i:Z)).filter λt=>decide (fT es rs (a:Z) t+m<=t)).map EE) c)
 |0,b,z4,g,_=>⟨g,by rw[show (Ul b 0)=[] from rfl,Qv,Qv,J.filter_nil,QC];rfl⟩
 |d+1,b,z4,g,h=>by
  rw[RV,P0,P0,Qn];have hc:gT (g2 dLe (g2 aP (ao cT #[0,1,2,6,10]) (ae 8)) (ae 10)) (w27 D1 (ar es) (aj rs) C F P ⇑(a:Z) x7 ⇑m ↥(z4.map EE) ⇑(1+(b:Z)))=.ok (decide (fT es rs (a:Z) (1+(b:Z))+m<=1+(b:Z))):=by rw[fh,c8 (f:=dLe) (x:=.int (fT es rs (a:Z) (1+(b:Z))+m)) (y:=.int (1+(b:Z))) (c8 (x:=.int (fT es rs (a:Z) (1+(b:Z)))) (y:=.int m) (c7 (ds:=[ar es,aj rs,.int (a:Z),.int (1+(b:Z))]) rfl (lL ⋯ (λe o=>(ok e o).sh) j ⋯ ⋯)) rfl rfl) rfl rfl];rfl
  by_cases z:fT es rs (a:Z) (1+(b:Z))+m<=1+(b:Z)
  .have l:z0 (w27 D1 (ar es) (aj rs) C F P ⇑(a:Z) x7 ⇑m ↥(z4.map EE) ⇑(1+(b:Z)))=.nx (w27 D1 (ar es) (aj rs) C F P ⇑(a:Z) x7 ⇑m ↥((z4++[1+(b:Z)]).map EE) ⇑(1+(b:Z))):=by unfold z0;rw[dF,hc,aw,O' z,FC rfl];show (if (z4.map EE).length<1000000 then Sr.nx _ else Sr.no)=_;rw[FC (by rw[P6];omega)];unfold w27;rw[Qm];rfl
   obtain⟨c,n⟩:=rT l6 ok j ha d (b+1) (z4++[1+(b:Z)]) ⇑(1+(b:Z)) (by rw[PU,Qr];omega);refine⟨c,?_⟩;rw[en (δ1:=w27 D1 (ar es) (aj rs) C F P ⇑(a:Z) x7 ⇑m ↥(z4.map EE) ⇑(1+(b:Z))) rfl l,n,FC (O' z),QR];rfl
  .have l:z0 (w27 D1 (ar es) (aj rs) C F P ⇑(a:Z) x7 ⇑m ↥(z4.map EE) ⇑(1+(b:Z)))=.nx (w27 D1 (ar es) (aj rs) C F P ⇑(a:Z) x7 ⇑m ↥(z4.map EE) ⇑(1+(b:Z))):=by unfold z0;rw[dF,hc,aw,L' z,GC Q1];rfl
   obtain⟨c,n⟩:=rT l6 ok j ha d (b+1) z4 ⇑(1+(b:Z)) ⋯;refine⟨c,?_⟩;rw[en (δ1:=w27 D1 (ar es) (aj rs) C F P ⇑(a:Z) x7 ⇑m ↥(z4.map EE) ⇑(1+(b:Z))) rfl l,n,GC (show ¬ (decide (fT es rs (a:Z) (1+(b:Z))+m<=1+(b:Z))=true) from λe=>z (Sw e))]
end
theorem Fc(l:PTl)(n:O)(row:J Z):row.mapIdx (yC l n)=(row.mapIdx λk c=>(fj l ((n:Z),(k:Z))).getD 0-c).map L.int:=by exact Sk #[2] λi h1 h2=>by simp[yC]
theorem Pk(l:J Z):dEq (.list (l.map EE)) (.list [])=Y (.bool l.isEmpty):=by unfold dEq;rw[fu (kF l),shaped_ints,show aO (.list [])=true from fu (λ_ h=>by cases h),show SF (.list [])=true from by simp[SF,TQ,Uq,Ub,UB]];cases l <;> simp[SX,TK]
theorem xt(a:J (D' Z)):∃l:J Z,(a.map aW).filter (λd=>!fN d)=l.map EE/\(l=[]->∀o∈a,o=S):=by
 induction a with
 |nil=>exact⟨[],rfl,λ_ o h=>by cases h⟩
 |cons o r ih =>
  obtain⟨l,h1,h2⟩:=ih;cases o with
  |none=>exact⟨l,by rw[P0,Qn];exact h1,λe o b=>(P8.mp b).elim id (h2 e o)⟩
  |some x=>exact⟨x::l,by rw[P0,Qn,P0,<-h1];rfl,λe=>by cases e⟩
def b27(cs:Cs):Ds->Sr:=az (aJ [9] 7 (ao (bU cs) #[0,1,2,6]))
 (az (aJ [9] 8 (g2 cK (ao (bM cs) #[0,1,2,6]) (ao bB #[0,1,2,6])))
 (az (ff [9] 9 ah)
 (az (cY [9] (yl #[0,↑1,g2 aP (g2 cK (g2 dIx (g2 dIx (ae 1) (ae 6)) ↑0) (g2 dIx (g2 dIx (ae 1) (ae 6)) ↑2)) ↑1]) (aU 10) z0)
 (az (sIf (cOr (gT (g2 dNe (ae 7) (g2 dIx (g2 aP (ae 9) (g9 #[0,gC .none])) ↑0))) (jh (gT (ae 5)) (gT (g2 dNe (ae 7) (ao cF #[0,1,2,6]))))) (bq (gC (.bool false))) ba)
 (sIf (jh (gT (g1 cV (ae 7))) (gT (g2 dGt (gF lK #[0,g2 aP (g9 #[0,↑0]) (g2 dIx (ae 4) (ae 6))]) (ae 7)))) (bq (gC (.bool false))) ba)))))
section
variable {D1 C:L}{l:PTl}{a:O}
theorem t27(l1:1<=es.length)(l6:es.length<=6)(ok:∀e∈es,e.Ok)(p:bJ es.length rs)(ha:a<es.length)(s:z5[a]?=Y row)(few:row.length<=1000){g:R0}(v:g=true->∀t:Z,0<=t->t<=3->aG es rs t=S)
  (h:∀B',jr es rs (a:Z) (gx es rs (a:Z))=Y B'->∀k(B:k<row.length),(fj l ((a:Z),(k:Z))).getD 0-row[k]<=B') (x7 x8 r j:D' L) :
  ∃E G H b,b27 cs (w27 D1 (ar es) (aj rs) C (dQ z5 l) (.bool g) ⇑(a:Z) x7 x8 r j)=.nx (w27 D1 (ar es) (aj rs) C (dQ z5 l) (.bool g) ⇑(a:Z) E G H b):=by
 have oe:=ok _ (bK (es:=es) (n:=(a:Z)) ⋯ ⋯);have he2:=oe.e2;have hl1:=oe.l1;have hl3:=oe.l3;generalize hfar:jr es rs (a:Z) (gx es rs (a:Z))=fo at *;have I:aJ [9] 7 (ao (bU cs) #[0,1,2,6]) (w27 D1 (ar es) (aj rs) C (dQ z5 l) (.bool g) ⇑(a:Z) x7 x8 r j)=.nx (w27 D1 (ar es) (aj rs) C (dQ z5 l) (.bool g) ⇑(a:Z) (Y (aW fo)) x8 r j) :=
  cX (by show 7<11;decide) (c7 (ds:=[ar es,aj rs,.int (a:Z)]) rfl (by rw[N9 l1 l6 ok p ⋯ ⋯,hfar]))
 have s2:aJ [9] 8 (g2 cK (ao (bM cs) #[0,1,2,6]) (ao bB #[0,1,2,6])) (w27 D1 (ar es) (aj rs) C (dQ z5 l) (.bool g) ⇑(a:Z) (Y (aW fo)) x8 r j)=.nx (w27 D1 (ar es) (aj rs) C (dQ z5 l) (.bool g) ⇑(a:Z) (Y (aW fo)) ⇑(gx es rs (a:Z)-eJ es rs (a:Z)) r j) :=
  cX (by show 8<11;decide) (c8 (x:=.int (gx es rs (a:Z))) (y:=.int (eJ es rs (a:Z))) (c7 (ds:=[ar es,aj rs,.int (a:Z)]) rfl (Mw p l6 ok ⋯ ⋯)) (c7 (ds:=[ar es,aj rs,.int (a:Z)]) rfl (jk ⋯ (λe Bk=>(ok e Bk).sh) p ⋯ ⋯)) rfl)
 generalize hm:gx es rs (a:Z)-eJ es rs (a:Z)=m at *;have K:ff [9] 9 ah (w27 D1 (ar es) (aj rs) C (dQ z5 l) (.bool g) ⇑(a:Z) (Y (aW fo)) ⇑m r j)=.nx (w27 D1 (ar es) (aj rs) C (dQ z5 l) (.bool g) ⇑(a:Z) (Y (aW fo)) ⇑m ↥(([]:J Z).map EE) j):=AX (by show 9<11;decide) rfl;obtain⟨b,w⟩:=rT (D1:=D1) (C:=C) (F:=dQ z5 l) (P:=.bool g) (x7:=Y (aW fo)) l6 ok p ha (m:=m) ((aK es (a:Z)).every-(aK es (a:Z)).late).toNat 0 [] j (by simp;omega);rw[Qs]at w;generalize hso:(((Ul 0 ((aK es (a:Z)).every-(aK es (a:Z)).late).toNat).map λ(i:O)=>1+(i:Z)).filter λt=>decide (fT es rs (a:Z) t+m<=t))=so at w;have o:so.head?=fo:=by rw[<-hso,J.head?_filter,<-hfar,<-S5];unfold jr gz;congr 1;funext t;refine V8.mpr ?_;unfold eK fT;omega
 have M:cY [9] (yl #[0,↑1,g2 aP (g2 cK (g2 dIx (g2 dIx (ae 1) (ae 6)) ↑0) (g2 dIx (g2 dIx (ae 1) (ae 6)) ↑2)) ↑1]) (aU 10) z0 (w27 D1 (ar es) (aj rs) C (dQ z5 l) (.bool g) ⇑(a:Z) (Y (aW fo)) ⇑m ↥(([]:J Z).map EE) j)=.nx (w27 D1 (ar es) (aj rs) C (dQ z5 l) (.bool g) ⇑(a:Z) (Y (aW fo)) ⇑m ↥(so.map EE) b):=by refine (nk (ds:=(Ul 0 ((aK es (a:Z)).every-(aK es (a:Z)).late).toNat).map λ(i:O)=>EE (1+(i:Z))) ?_).trans w;have a1:g2 dIx (ae 1) (ae 6) (mask [9] (w27 D1 (ar es) (aj rs) C (dQ z5 l) (.bool g) ⇑(a:Z) (Y (aW fo)) ⇑m ↥(([]:J Z).map EE) j))=.ok (aK es (a:Z)).d:=c8 (x:=ar es) (y:=.int (a:Z)) rfl rfl (eX ⋯ ⋯);have a2:g2 aP (g2 cK (g2 dIx (g2 dIx (ae 1) (ae 6)) ↑0) (g2 dIx (g2 dIx (ae 1) (ae 6)) ↑2)) ↑1 (mask [9] (w27 D1 (ar es) (aj rs) C (dQ z5 l) (.bool g) ⇑(a:Z) (Y (aW fo)) ⇑m ↥(([]:J Z).map EE) j))=.ok (.int ((aK es (a:Z)).every-(aK es (a:Z)).late+1)):=c8 (c8 (c8 a1 (y:=.int 0) rfl rfl) (c8 a1 (y:=.int 2) rfl rfl) rfl) (y:=.int 1) rfl rfl;rw[Jp,ay,ay,a2];show Hg [.int 1,.int ((aK es (a:Z)).every-(aK es (a:Z)).late+1)]=_;unfold Hg;simp only;rw[FC ⋯,show (aK es (a:Z)).every-(aK es (a:Z)).late+1-1=(aK es (a:Z)).every-(aK es (a:Z)).late by omega,<-S5];rfl
 have hsl:so.length<=60:=by rw[<-hso];refine QD (Rk _ _) ?_;rw[P6,J.length_range'];omega
 have N:gT (g2 dNe (ae 7) (g2 dIx (g2 aP (ae 9) (g9 #[0,gC .none])) ↑0)) (w27 D1 (ar es) (aj rs) C (dQ z5 l) (.bool g) ⇑(a:Z) (Y (aW fo)) ⇑m ↥(so.map EE) b)=.ok false:=by
  have ga:g2 aP (ae 9) (g9 #[0,gC .none]) (w27 D1 (ar es) (aj rs) C (dQ z5 l) (.bool g) ⇑(a:Z) (Y (aW fo)) ⇑m ↥(so.map EE) b)=.ok (.list (so.map EE++[.none])):=by refine c8 (x:=.list (so.map EE)) (y:=.list [.none]) rfl rfl ?_;show (if _<=1000000 then _ else _)=_;rw[FC (by simp;omega)]
  have D2:g2 dIx (g2 aP (ae 9) (g9 #[0,gC .none])) ↑0 (w27 D1 (ar es) (aj rs) C (dQ z5 l) (.bool g) ⇑(a:Z) (Y (aW fo)) ⇑m ↥(so.map EE) b)=.ok (aW fo):=by refine c8 ga (y:=.int 0) rfl (rX (k:=0) ?_);rw[<-o];cases so <;> rfl
  rw[fh,c8 (f:=dNe) (x:=aW fo) rfl D2 (HW fo)];rfl
 have Q:jh (gT (ae 5)) (gT (g2 dNe (ae 7) (ao cF #[0,1,2,6]))) (w27 D1 (ar es) (aj rs) C (dQ z5 l) (.bool g) ⇑(a:Z) (Y (aW fo)) ⇑m ↥(so.map EE) b)=.ok false:=by
  cases g with
  |false=>rfl
  |true =>
   have e:iZ es rs (a:Z)=fo:=by rw[<-rA,<-AJ p ok (v rfl),hfar]
   have R:ao cF #[0,1,2,6] (w27 D1 (ar es) (aj rs) C (dQ z5 l) (.bool true) ⇑(a:Z) (Y (aW fo)) ⇑m ↥(so.map EE) b)=.ok (aW fo):=c7 (ds:=[ar es,aj rs,.int (a:Z)]) rfl (by rw[mE l1 l6 ok p ⋯ ⋯,e]);rw[rF,show gT (ae 5) (w27 D1 (ar es) (aj rs) C (dQ z5 l) (.bool true) ⇑(a:Z) (Y (aW fo)) ⇑m ↥(so.map EE) b)=.ok true from rfl,Rs.ag,FC rfl,fh,c8 (f:=dNe) (x:=aW fo) rfl R (HW fo)];rfl
 have T:sIf (cOr (gT (g2 dNe (ae 7) (g2 dIx (g2 aP (ae 9) (g9 #[0,gC .none])) ↑0))) (jh (gT (ae 5)) (gT (g2 dNe (ae 7) (ao cF #[0,1,2,6]))))) (bq (gC (.bool false))) ba (w27 D1 (ar es) (aj rs) C (dQ z5 l) (.bool g) ⇑(a:Z) (Y (aW fo)) ⇑m ↥(so.map EE) b)=.nx (w27 D1 (ar es) (aj rs) C (dQ z5 l) (.bool g) ⇑(a:Z) (Y (aW fo)) ⇑m ↥(so.map EE) b):=by rw[dF,HS,N,Rs.ag,GC Q1,Q];rfl
 refine⟨Y (aW fo),⇑m,↥(so.map EE),b,?_⟩;unfold b27;rw[cq I,cq s2,cq K,cq M,cq T];cases q:fo with
 |none=>rfl
 |some B' =>
  subst q;have u:dIx (dQ z5 l) (.int (a:Z))=↥((row.mapIdx λk c=>(fj l ((a:Z),(k:Z))).getD 0-c).map EE):=by rw[<-Fc];exact rX (by rw[Rj,s];rfl)
  generalize hv:(row.mapIdx λk c=>(fj l ((a:Z),(k:Z))).getD 0-c)=vs at u;have A:vs.length=row.length:=by rw[<-hv];simp
  have hle:∀x∈vs,x<=B':=λx D=>by rw[<-hv]at D;obtain⟨k,B,e⟩:=RD D;rw[J.getElem_mapIdx]at e;rw[<-e];exact h B' rfl k (by simpa using B)
  have L1:=(yK hfar).1;have hmL:mx0 vs<=B':=by
   rcases P8.mp (fold_max vs 0).1 with z|z
   .have:mx0 vs=0:=z;omega
   .exact hle _ z
  have U:g2 aP (g9 #[0,↑0]) (g2 dIx (ae 4) (ae 6)) (w27 D1 (ar es) (aj rs) C (dQ z5 l) (.bool g) ⇑(a:Z) (Y (aW (Y B'))) ⇑m ↥(so.map EE) b)=.ok (.list ((0::vs).map EE)):=by refine c8 (x:=.list [.int 0]) (y:=.list (vs.map EE)) rfl (c8 (x:=dQ z5 l) (y:=.int (a:Z)) rfl rfl u) ?_;show (if _<=1000000 then _ else _)=_;rw[FC (by simp[A];omega)];rfl
  have W:gF lK #[0,g2 aP (g9 #[0,↑0]) (g2 dIx (ae 4) (ae 6))] (w27 D1 (ar es) (aj rs) C (dQ z5 l) (.bool g) ⇑(a:Z) (Y (aW (Y B'))) ⇑m ↥(so.map EE) b)=.ok (.int (mx0 vs)):=by rw[gN,ay,U,aF];show Rs.eu ((fI ((0::vs).map EE)).bind λns=>(k6 ns).map EE)=_;rw[ej];show Rs.eu ((k6 (0::vs)).map EE)=_;rw[(nM _).2.2];rfl
  rw[dF,rF,show gT (g1 cV (ae 7)) (w27 D1 (ar es) (aj rs) C (dQ z5 l) (.bool g) ⇑(a:Z) (Y (aW (Y B'))) ⇑m ↥(so.map EE) b)=.ok true from rfl,Rs.ag,FC rfl,fh,c8 (f:=dGt) W (y:=.int B') rfl (by rw[E5,L' ⋯])];rfl
end
theorem law_holds(cs:Cs)(ns:J Z):BY cs cF cT (bM cs) bB (bU cs) aI (fS cs) (cz cs) cL ak b0 (Y (au ns)::I' 10 S)=.rt (.bool true):=by
 have w:=cG (ns:=ns) (k:=10) (y1:=4) #[1] #[1];generalize htb:decide (0<mixed ns 10 4)=tb;have hl:=GH ns 12 4 28 tb #[1];have hok:=J8 ns 12 4 28 tb #[1] #[1];have z:b0 [au ns,.int 12,.int 4,.int 28,.bool tb]=.ok (ar (sX ns 12 4 28 tb)):=jA #[1] #[1] #[1] #[1] #[1];generalize sX ns 12 4 28 tb=es at *;have o:=kS (ns:=ns) (a:=0) (y1:=(es.length:Z)) #[1] ⋯ ⋯;rw[Qp]at o;have A:=Bn ns 0 es.length;generalize oE ns 0 es.length=rs at *;have l1:=hl.1;have l6:es.length<=6:=⋯
 have ok:BB es:=⟨l1,l6,hok⟩
 obtain⟨z5,B,C⟩:=Br (cs:=cs) ok (ns:=ns) (a:=5) (y0:=80) #[1] #[1];have R:Ran es rs z5 "asked":=⟨ok,A,C.len,⟨yO⟩⟩
 obtain⟨t,Bk⟩:=Fu R C;have D:=yS (cs:=cs) R C Bk;obtain⟨_,_,h3,N⟩:=yr R C Bk;obtain⟨b,E,j⟩:=xt ((LN 4).map λ(t:O)=>aG es rs (t:Z));have F:b.isEmpty=true->∀t:Z,0<=t->t<=3->aG es rs t=none:=λe t t0 t3=>by
  have:b=[]:=by cases b with
   |nil=>rfl
   |cons _ _=>cases e
  obtain⟨m,rfl⟩:∃m:O,t=(m:Z):=⟨t.toNat,⋯⟩
  exact j this _ (PQ.mpr ⟨m,Ra.mpr ⋯,rfl⟩)
 have D2:aJ [9] 1 (ao b0 #[0,0,↑12,↑4,↑28,g2 dGt (ao ak #[0,0,↑10,↑4]) ↑0]) [Y (au ns),S,S,S,S,S,S,S,S,S,S]=.nx [Y (au ns),Y (ar es),S,S,S,S,S,S,S,S,S]:=by
  refine cX (by decide:1<11) (c7 (ds:=[au ns,.int 12,.int 4,.int 28,.bool tb]) ?_ z);show #[0,0,↑12,↑4,↑28,g2 dGt (ao ak #[0,0,↑10,↑4]) ↑0] [Y (au ns),S,S,S,S,S,S,S,S,S,S]=_;have G:g2 dGt (ao ak #[0,0,↑10,↑4]) ↑0 [Y (au ns),S,S,S,S,S,S,S,S,S,S]=.ok (.bool tb):=by rw[<-htb];exact c8 (f:=dGt) (c7 rfl w) (y:=.int 0) rfl rfl
  dsimp[ay,aF,aq,cA,Rs.ag,G]
 have s2:aJ [9] 2 (ao cL #[0,0,↑0,gF cp #[0,1]]) [Y (au ns),Y (ar es),S,S,S,S,S,S,S,S,S]=.nx [Y (au ns),Y (ar es),Y (aj rs),S,S,S,S,S,S,S,S]:=by refine cX (by decide:2<11) (c7 (ds:=[au ns,.int 0,.int (es.length:Z)]) ?_ o);show #[0,0,↑0,gF cp #[0,1]] [Y (au ns),Y (ar es),S,S,S,S,S,S,S,S,S]=_;dsimp[ay,aF,gN,aq,av,cA,Rs.ag,MQ,Rs.ai]
 have P:aJ [9] 3 (ao (cz cs) #[0,0,↑5,1,↑80]) [Y (au ns),Y (ar es),Y (aj rs),S,S,S,S,S,S,S,S]=.nx [Y (au ns),Y (ar es),Y (aj rs),Y (cmD z5),S,S,S,S,S,S,S]:=cX (by decide:3<11) (c7 rfl B);have Q:aJ [9] 4 (ao (fS cs) #[0,1,2,3,gC (.str "asked")]) [Y (au ns),Y (ar es),Y (aj rs),Y (cmD z5),S,S,S,S,S,S,S]=.nx [Y (au ns),Y (ar es),Y (aj rs),Y (cmD z5),Y (dQ z5 (endsF 0 t [])),S,S,S,S,S,S]:=cX (by decide:4<11) (c7 rfl D);have T:aJ [9] 5 (g2 dEq (gL (a9 11 (br (ao aI #[0,1,2])) (gT (g1 cV (ae 11))) (ae 11) aL)) (g9 ah)) [Y (au ns),Y (ar es),Y (aj rs),Y (cmD z5),Y (dQ z5 (endsF 0 t [])),S,S,S,S,S,S]=.nx (w27 (au ns) (ar es) (aj rs) (cmD z5) (dQ z5 (endsF 0 t [])) (.bool b.isEmpty) S S S S S):=by
  refine cX (by decide:5<11) ?_;show g2 dEq (gL (a9 11 (br (ao aI #[0,1,2])) (gT (g1 cV (ae 11))) (ae 11) aL)) (g9 ah) [Y (au ns),Y (ar es),Y (aj rs),Y (cmD z5),Y (dQ z5 (endsF 0 t [])),S,S,S,S,S,S]=_;have G:a9 11 (br (ao aI #[0,1,2])) (gT (g1 cV (ae 11))) (ae 11) aL [Y (au ns),Y (ar es),Y (aj rs),Y (cmD z5),Y (dQ z5 (endsF 0 t [])),S,S,S,S,S,S]=.ok (b.map EE):=by
   have hm:(((LN 4).map λ(t:O)=>aG es rs (t:Z)).map aW)=(LN 4).map λ(t:O)=>aW (aG es rs t):=Q8
   rw[<-E,hm];refine nG (ds:=(LN 4).map λ(t:O)=>aW (aG es rs t)) rfl ?_ (by rw[P6,RO];decide) λd hd=>⟨rfl,rfl⟩
   rw[jl,c7 (ds:=[ar es,aj rs]) rfl (eY ⋯ (λe U=>(hok e U).sh) A),Rs.ag,Mb]
  exact c8 (x:=.list (b.map EE)) (y:=.list []) (by rw[mX,G];rfl) rfl (Pk b)
 have loop:∀(d a:O)(x6 x7 x8 n c:D' L),a+d=es.length->∃H p r s g,forL (aU 6) (b27 cs) (bV (a:Z) d) (w27 (au ns) (ar es) (aj rs) (cmD z5) (dQ z5 (endsF 0 t [])) (.bool b.isEmpty) x6 x7 x8 n c)=.nx (w27 (au ns) (ar es) (aj rs) (cmD z5) (dQ z5 (endsF 0 t [])) (.bool b.isEmpty) H p r s g):=by
  intro d
  induction d with
  |zero=>intro a x6 x7 x8 n c _;exact⟨x6,x7,x8,n,c,rfl⟩
  |succ d ih =>
   intro a x6 x7 x8 n c e;have ha:a<z5.length:=by have:=C.len;omega
   have h:z5[a]?=Y z5[a]:=My ha;have W:bV (a:Z) (d+1)=.int (a:Z)::bV ((a+1:O):Z) d:=by unfold bV;rw[J.range_succ_eq_map,P0,Q8];refine J.cons_eq_cons.mpr ⟨by simp,Q3 λi _=>?_⟩;show EE ((a:Z)+((i+1:O):Z))=EE (((a+1:O):Z)+(i:Z));rw[show (a:Z)+((i+1:O):Z)=((a+1:O):Z)+(i:Z) by omega]
   obtain⟨p,r,s,g,X⟩:=t27 (cs:=cs) (D1:=au ns) (C:=cmD z5) (l:=endsF 0 t []) l1 l6 hok A (a:=a) ⋯ h (by have:=(C.qH _ (Qk ha)).few;omega) F (λB' q k K=>by obtain⟨v,hv⟩:=h3 a _ h k K;rw[hv];exact N a _ B' h q k K v hv) x7 x8 n c
   obtain⟨A2,A4,z8,z9,I,hz⟩:=ih (a+1) ⇑(a:Z) p r s g ⋯;refine⟨A2,A4,z8,z9,I,?_⟩;rw[W,en (δ1:=w27 (au ns) (ar es) (aj rs) (cmD z5) (dQ z5 (endsF 0 t [])) (.bool b.isEmpty) ⇑(a:Z) x7 x8 n c) rfl X];exact hz
 obtain⟨H,p,r,s,g,el⟩:=loop es.length 0 S S S S S ⋯;have u:fK #[0,gF cp #[0,1]] (mask [9] (w27 (au ns) (ar es) (aj rs) (cmD z5) (dQ z5 (endsF 0 t [])) (.bool b.isEmpty) S S S S S))=.ok (bV ((0:O):Z) es.length):=by
  have e1:(af (gF cp #[0,1]) ah) (mask [9] (w27 (au ns) (ar es) (aj rs) (cmD z5) (dQ z5 (endsF 0 t [])) (.bool b.isEmpty) S S S S S))=.ok [.int (es.length:Z)]:=by show #[0,gF cp #[0,1]] (w27 (au ns) (ar es) (aj rs) (cmD z5) (dQ z5 (endsF 0 t [])) (.bool b.isEmpty) S S S S S)=_;unfold w27;dsimp[ay,aF,gN,aq,av,Rs.ag,MQ,Rs.ai]
  unfold fK;rw[e1,Rs.ag,kC ⋯ ⋯,Qp];rfl
 have M:cY [9] (fK #[0,gF cp #[0,1]]) (aU 6) (b27 cs) (w27 (au ns) (ar es) (aj rs) (cmD z5) (dQ z5 (endsF 0 t [])) (.bool b.isEmpty) S S S S S)=.nx (w27 (au ns) (ar es) (aj rs) (cmD z5) (dQ z5 (endsF 0 t [])) (.bool b.isEmpty) H p r s g):=by rw[nk u,el]
 unfold b27 z0 at M;unfold BY;show az _ _ [Y (au ns),S,S,S,S,S,S,S,S,S,S]=_;rw[cq D2,cq s2,cq P,cq Q,cq T,cq M];rfl
theorem NR(cs:Cs):LLq (BY cs cF cT (bM cs) bB (bU cs) aI (fS cs) (cz cs) cL ak b0) 1 10 (ig 63):=lawT_of (law_holds cs)
end RS
namespace L2
open PySem PySem.Spec PyProof.Rows
section
variable {E:XK}
end
end L2
set_option maxHeartbeats 4000000
namespace L2
open PySem PySem.Spec PyProof.Rows
def ndB:J M'->R0
 |[]=>true
 |x::r=>!r.elem x&&ndB r
theorem xI:∀{l:J M'},ndB l=true->l.Nodup
 |[],_=>RM
 |x::r,h=>by dsimp[ndB,P9,Sd]at h;exact Qq.mpr ⟨λz=>(by have:=J.elem_eq_true_of_mem z;rw[h.1]at this;cases this),xI h.2⟩
section
variable {k n n':O}{m:M'}
def AtX(X:Cx)(P:SQ)(w:T1)(K:PySem.W.Frag)(mg:M'->D' F')(base:Sy):Prop:=X.prog=P/\X.w=w/\X.K=K/\X.mg=mg/\X.base=base
theorem jL.to(h:jL P w K mg base k x n gf)(a:AtX X P w K mg base)(hn:n=n'):jL X.prog X.w X.K X.mg X.base k x n' gf:=by obtain⟨rfl,rfl,rfl,rfl,rfl⟩:=a;subst hn;exact h
theorem jW.to(h:jW P w K mg base k C m n gf)(a:AtX X P w K mg base)(hn:n=n'):jW X.prog X.w X.K X.mg X.base k C m n' gf:=by obtain⟨rfl,rfl,rfl,rfl,rfl⟩:=a;subst hn;exact h
theorem lz.to(h:lz P w K mg base k C m g)(a:AtX X P w K mg base):lz X.prog X.w X.K X.mg X.base k C m g:=by obtain⟨rfl,rfl,rfl,rfl,rfl⟩:=a;exact h
theorem sk.to{l:J M'}(h:sk P w K mg base k x C l)(a:AtX X P w K mg base):sk X.prog X.w X.K X.mg X.base k x C l:=by obtain⟨rfl,rfl,rfl,rfl,rfl⟩:=a;exact h
end
def Bc(K:PySem.W.Frag)(C:HL)(m q:M')(st:Ur)(ps:J M'):Prop:=∃f fd,Fun K m q st f fd/\Binds K fd ps []/\Meth K C m f
def OC(K:PySem.W.Frag)(C:HL)(q:M')(st:Ur)(ps:J M'):Prop:=∃f fd,Mk K C f/\Fun K "__init__" q st f fd/\Binds K fd ps []
end L2
namespace RS
open PySem PySem.Spec PyProof.Rows L2
theorem DT(d:α){us:J α}{n:O}(h:us.length=n):∃f:O->α,us=(LN n).map f :=
 ⟨λi=>us.getD i d,Sk (by simp[h]) λi h1 h2=>by simp[Q2,My h1]⟩
section
variable {m q:M'}{G:Ds->Sr}{gf:Gf}
abbrev Bod(P:SQ)(w:T1)(K:PySem.W.Frag)(mg:M'->D' F')(base:Sy)(q:M')(st:Ur)(k:O)(D2:J O)(N:J M')(G:Ds->Sr):Prop:=∀(f:HL)(cdv:F')(A:Ss)(outer:J WH)(s:K')(H:Hp)(E:XK),N.Nodup->cH k (A.deeper (envOfC q (aH st) s.heap.objs.size f cdv))->PBD (d8 (CXW P w) P w K mg base N q (aH st) f cdv A outer s H E) E D2 (cw st) G
theorem dA(P:SQ)(w:T1)(base:Sy)(k:O)(D2:J O)(N:J M')(h:bA K mg x st ps)(a:∀ds,ds.length=ps.length->gf ds≠.no->bc (G (ds.map Y++I' (N.length-ps.length) S))=gf ds)
  (body:Bod P w K mg base x st k D2 N G) (D1:dH N ps (aH st):=by exact⟨rfl,rfl,rfl,by decide +kernel,rfl,by decide +kernel,by decide +kernel⟩) (c:∀i∈D2,ps.length<=i:=by decide):jL P w K mg base (k+1) x ps.length gf:=by
 obtain⟨f,fd,F,b,m⟩:=h;exact jL.of F D1 b m c (λcdv A outer s H E=>body f cdv A outer s H E D1.nd) a
theorem dM(P:SQ)(w:T1)(base:Sy)(k:O)(D2:J O)(N:J M')(h:Bc K C m q st ps)(cl:Cls K C)(a:∀ds,ds.length=ps.length->gf ds≠.no->bc (G (ds.map Y++I' (N.length-ps.length) S))=gf ds)
  (body:Bod P w K mg base q st k D2 N G) (D1:dH N ps (aH st):=by exact⟨rfl,rfl,rfl,by decide +kernel,rfl,by decide +kernel,by decide +kernel⟩) (c:∀i∈D2,ps.length<=i:=by decide):jW P w K mg base (k+1) C m ps.length gf:=by
 obtain⟨f,fd,F,b,hm⟩:=h;exact jW.of F D1 b cl hm c (λcdv A outer s H E=>body f cdv A outer s H E D1.nd) a
theorem dK(k:O)(N:J M'){p:M'}{G:J HL->Ds->Sr}(h:Bc K C m q st [p])(cl:Cls K C)(e:∀a fds c,iL fds=true->fds.length<1000->g fds=Y c->∃δ,G [a] (Y (cN C a fds)::I' (N.length-1) S)=.nx δ/\δ[0]?=Y (Y (cN C a c)))
  (body:∀(as:J HL)(f:HL)(cdv:F')(A:Ss)(outer:J WH)(s:K')(H:Hp)(E:XK),N.Nodup->cH k (A.deeper (envOfC q (aH st) s.heap.objs.size f cdv))->PBN as (d8 (CXW P w) P w K mg base N q (aH st) f cdv A outer s H E) E [] (cw st) (G as)) (D1:dH N [p] (aH st):=by exact⟨rfl,rfl,rfl,by decide +kernel,rfl,by decide +kernel,by decide +kernel⟩):lz P w K mg base (k+1) C m g:=by
 obtain⟨f,fd,F,b,hm⟩:=h;exact lz.of F D1 b cl hm (λas cdv A outer s H E=>body as f cdv A outer s H E D1.nd) e
theorem dT(k:O)(D2:J O)(N:J M')(h:bA K mg x st ps)(hm:∀g,PySem.W.nsIn K mainGlobals x=Y (Y (.ref g))->mg x=Y (.ref g))(a:JZ K x)(hB:qm mg base)(hK:K.In base)(e:∀ds,ds.length=ps.length->gf ds≠.no->bc (G (ds.map Y++I' (N.length-ps.length) S))=gf ds)
  (body:∀(f:HL)(cdv:F')(A:Ss)(outer:J WH)(s:K')(H:Hp)(E:XK),N.Nodup->cH k (A.deeper (envOfC x (aH st) s.heap.objs.size f cdv))->∀c j,Ia (d8 (CXW P w) P w K mg base N x (aH st) f cdv A outer s H E) c j->PBD (d8 (CXW P w) P w K mg base N x (aH st) f cdv A outer s H E) E D2 (cw st) G) (D1:dH N ps (aH st):=by exact⟨rfl,rfl,rfl,by decide +kernel,rfl,by decide +kernel,by decide +kernel⟩) (l:∀i∈D2,ps.length<=i:=by decide) (n:x∈oB:=by decide) (o:∀(f B':HL)(cdv:F'),(envOfC x (aH st) B' f cdv).qual++"<lambda>"=x++".<locals>.<lambda>":=by exact λ_ _ _=>rfl):jL P w K mg base (k+1) x ps.length gf:=by
 obtain⟨f,fd,F,b,m⟩:=h;exact jL.ofL F D1 b m l n hm a hB hK (o f) (λcdv A outer s H E=>body f cdv A outer s H E D1.nd) e
theorem dL(k:O)(D2:J O)(N:J M')(F:Fun K x x st f fd)(a:∀ds,ds.length=ps.length->gf ds≠.no->bc (G (ds.map Y++I' (N.length-ps.length) S))=gf ds)
  (body:Bod P w K mg base x st k D2 N G) (D1:dH N ps (aH st):=by exact⟨rfl,rfl,rfl,by decide +kernel,rfl,by decide +kernel,by decide +kernel⟩) (b:∀i∈D2,ps.length<=i:=by decide):iP P w K mg base (CXW P w) (k+1) f fd ps (spD K ps.length gf) :=
 CV F D1 b (λcdv A outer s H E=>body f cdv A outer s H E D1.nd) a
end
end RS
set_option maxHeartbeats 0
namespace RS
open PySem PySem.Spec PyProof.Rows L2
def top(i:Nat):Stmt:=PySem.Challenge.pw_ranksure_k27_whole_asked_no_longer.main.body.getD i (.Pass ⟨0,0,0,0⟩)
structure sg(K:PySem.W.Frag)(C:HL):Prop where
 cl:Cls K C
 na:∀f∈["number", "part", "tool", "times"],gu K C f
 mi:OC K C "Holding.__init__" (inClass (top 28) 0) ["self", "number", "part", "tool", "times"]
structure B6(K:PySem.W.Frag)(C:HL):Prop where
 cl:Cls K C
 na:∀f∈["number", "parts", "rank", "row", "job", "part", "spent"],gu K C f
 mi:OC K C "Jobs.__init__" (inClass (top 46) 0) ["self", "number", "parts", "rank", "row"]
 mt_Jobs_are_done:Bc K C "are_done" "Jobs.are_done" (inClass (top 46) 1) ["self"]
 mt_Jobs_is_there:Bc K C "is_there" "Jobs.is_there" (inClass (top 46) 2) ["self", "time"]
 mt_Jobs_held:Bc K C "held" "Jobs.held" (inClass (top 46) 3) ["self"]
 mt_Jobs_wanted:Bc K C "wanted" "Jobs.wanted" (inClass (top 46) 4) ["self"]
 mt_Jobs_go_on:Bc K C "go_on" "Jobs.go_on" (inClass (top 46) 5) ["self"]
structure Tx(K:PySem.W.Frag)(mg:M'->D' F')(cs:Cs):Prop where
 f_is_whole:bA K mg "is_whole" (top 14) ["thing", "least", "most"]
 f_is_tuple:bA K mg "is_tuple" (top 15) ["thing", "fewest", "most"]
 f_is_part:bA K mg "is_part" (top 16) ["thing"]
 f_are_parts:bA K mg "are_parts" (top 17) ["thing"]
 f_is_errand:bA K mg "is_errand" (top 18) ["thing"]
 f_checked:bA K mg "checked" (top 19) ["errands"]
 f_checked_ranks:bA K mg "checked_ranks" (top 20) ["errands", "ranks"]
 f_checked_number:bA K mg "checked_number" (top 21) ["errands", "number"]
 f_check_place:bA K mg "check_place" (top 22) ["errands", "ranks", "number"]
 f_work_of:bA K mg "work_of" (top 23) ["errand"]
 f_has_tool:bA K mg "has_tool" (top 24) ["errand", "tool"]
 f_height:bA K mg "height" (top 25) ["errands", "ranks", "tool"]
 f_heights_of:bA K mg "heights_of" (top 26) ["errands", "ranks"]
 f_holdings:bA K mg "holdings" (top 29) ["errands", "ranks", "number"]
 f_hold_by_high:bA K mg "hold_by_high" (top 30) ["errands", "ranks", "number"]
 f_sum_of_greatest:bA K mg "sum_of_greatest" (top 31) ["pairs"]
 f_hold_by_asked:bA K mg "hold_by_asked" (top 32) ["errands", "ranks", "number"]
 f_rounded_up:bA K mg "rounded_up" (top 33) ["times", "every"]
 f_need:bA K mg "need" (top 34) ["errands", "ranks", "number", "held_up", "times"]
 f_levels_by:bA K mg "levels_by" (top 35) ["errands", "ranks", "number", "held_up"]
 f_longest_by:bA K mg "longest_by" (top 36) ["errands", "ranks", "number", "held_up"]
 f_longest_by_high:bA K mg "longest_by_high" (top 37) ["errands", "ranks", "number"]
 f_longest:bA K mg "longest" (top 38) ["errands", "ranks", "number"]
 f_longest_asked:bA K mg "longest_asked" (top 39) ["errands", "ranks", "number"]
 f_have_moments:bA K mg "have_moments" (top 43) ["errand", "row"]
 f_is_row:bA K mg "is_row" (top 44) ["errand", "thing"]
 f_checked_comings:bA K mg "checked_comings" (top 45) ["errands", "comings"]
 f_height_by_high:bA K mg "height_by_high" (top 47) ["jobs", "tops"]
 f_holder:bA K mg "holder" (top 48) ["there", "tool"]
 f_lent_ranks:bA K mg "lent_ranks" (top 49) ["there"]
 f_picked:bA K mg "picked" (top 50) ["there", "tops", "lending"]
 f_run_of:bA K mg "run_of" (top 51) ["errands", "ranks", "rows", "lending"]
 f_run:bA K mg "run" (top 52) ["errands", "ranks", "comings", "lending"]
 f_answers_of:bA K mg "answers_of" (top 53) ["number", "row", "ends"]
 f_answers_in:bA K mg "answers_in" (top 54) ["rows", "told"]
 f_answers:bA K mg "answers" (top 55) ["errands", "ranks", "comings", "lending"]
 f_law_cell_at:bA K mg "_law_cell_at" (top 57) ["_law_script", "_law_k"]
 f_law_mixed:bA K mg "_law_mixed" (top 58) ["_law_script", "_law_k", "_law_many"]
 f_law_errand:bA K mg "_law_errand" (top 59) ["_law_script", "_law_at", "_law_top", "_law_tools"]
 f_law_errands:bA K mg "_law_errands" (top 60) ["_law_script", "_law_at", "_law_most", "_law_top", "_law_tools"]
 f_law_ranks:bA K mg "_law_ranks" (top 61) ["_law_script", "_law_at", "_law_many"]
 f_law_coming_row:bA K mg "_law_coming_row" (top 62) ["_law_script", "_law_at", "_law_errand_here", "_law_span"]
 f_law_comings:bA K mg "_law_comings" (top 63) ["_law_script", "_law_at", "_law_errands_here", "_law_span"]
 f_law_heights:bA K mg "_law_heights" (top 64) ["_law_errands_here", "_law_ranks_here"]
 f_law_hold:bA K mg "_law_hold" (top 65) ["_law_errands_here", "_law_ranks_here", "_law_number"]
 f_law_work:bA K mg "_law_work" (top 66) ["_law_errand_here"]
 f_law_need:bA K mg "_law_need" (top 67) ["_law_errands_here", "_law_ranks_here", "_law_number", "_law_time"]
 f_law_hold_asked:bA K mg "_law_hold_asked" (top 70) ["_law_errands_here", "_law_ranks_here", "_law_number"]
 f_law:bA K mg "law" (top 71) ["_law_script"]
 bs:∀x∈["all", "bool", "enumerate", "int", "isinstance", "len", "list", "max", "min", "range", "set", "sum", "tuple", "zip"],mg x=S
 cst:∀q∈([("LAST_COMING",9999),("LEAST_EVERY",2),("MOST_COMINGS",60),("MOST_ERRANDS",6),("MOST_EVERY",60),("MOST_LATE",20),("MOST_LENGTH",20),("MOST_PARTS",4),("TOOLS",4)]:J (M'×Z)),∃t,mg q.1=Y (.int q.2 t)
 e_NoComings:ur K mg "NoComings" cs.NoComings
 e_NoErrand:ur K mg "NoErrand" cs.NoErrand
 e_NoErrands:ur K mg "NoErrands" cs.NoErrands
 e_NoRanks:ur K mg "NoRanks" cs.NoRanks
 m_Holding:mg "Holding"=Y (.ref cs.Holding)
 k_Holding:sg K cs.Holding
 m_Jobs:mg "Jobs"=Y (.ref cs.Jobs)
 k_Jobs:B6 K cs.Jobs
 tb_picked:JZ K "picked"
 nm_picked:∀g,PySem.W.nsIn K mainGlobals "picked"=Y (Y (.ref g))->mg "picked"=Y (.ref g)
structure Ty(K:PySem.W.Frag)(mg:M'->D' F')(cs:Cs)(base:Sy):Prop extends Tx K mg cs where
 hB:qm mg base
 hK:K.In base
section
theorem Bh:dH ["_law_script", "_law_k"] ["_law_script", "_law_k"] (aH (top 57)):=⟨rfl,rfl,rfl,by decide +kernel,rfl,by decide +kernel,by decide +kernel⟩
theorem Bq(F:Fun K "_law_cell_at" "_law_cell_at" (top 57) f fd)(bl:mg "len"=S):iP P w K mg base CX0 1 f fd ["_law_script", "_law_k"] (Hj K):=by
 refine F.ok Bh (λvs H Q E h=>?_) (λcdv A outer s H vs Q E l h=>?_)
 .obtain⟨a,ns,k,rfl,_⟩:=h;rfl
 .obtain⟨a,ns,k,rfl,e,m,g⟩:=h;refine⟨_,cU (B1 (AL (NU (pv 1) (gj kE rfl bl PySem.boot_len (e9 (pv 0) gZ)))) (jt (t9 (ES wx (pv 0) (pv 1) (λ_ _=>rfl)))) wX)
   (cU (B1 (lZ (AD l.units) (pv 0) (AZ gZ) (jI _)) (jt (t9 iC)) wX)
   (jt (t9 (fY pH (fY pA (ES wx (pv 0) (fY rn (pv 1) (gj kE rfl bl PySem.boot_len (e9 (pv 0) gZ))) (λ_ _=>rfl)) iC) (pv 1))))),?_⟩
  refine⟨_,rfl,_,rfl,a,_,rfl,.inl e,k,_,rfl,rfl,_,rfl,?_⟩;have x9:(ns.map V.int).length=ns.length:=P6 ..;rw[x9];refine NW (λhc=>?_) (λhc=>?_)
  .have hc:k<(ns.length:Z):=Sw hc;have hi:k.toNat<ns.length:=⋯
   refine⟨_,rfl,_,rfl,a,_,k,.int (ns.getD k.toNat 0),rfl,rfl,e,wd m ?_,?_⟩
   .rw[Q5,My hi,Q2,My hi];rfl
   .have:=g H (aA.refl H);rw[show cellAt ns k=ns.getD k.toNat 0 by unfold cellAt;rw[FC hc]]at this;exact this
  .have hc:¬ k<(ns.length:Z):=λz=>hc (O' z)
   refine⟨_,rfl,QH _,λp i=>⟨.list (ns.map .int),.list [],(xG e (uR ns)).same (je i),xG (SqL.of aM) tP,shaped_ints ns,Ba,_,rfl,?_⟩⟩;rw[FF];refine NW (λb=>?_) (λb=>?_)
   .have b:ns=[]:=Sw b;have:=g _ (je (o:=.lst []) i);rw[show cellAt ns k=0 by unfold cellAt;rw[GC hc,FC b]]at this;exact this
   .have b:¬ ns=[]:=λz=>b (O' z)
    have c:0<(ns.length:Z):=by
     cases ns with
     |nil=>cases b rfl
     |cons _ _=>simp
    have h1:0<=k % (ns.length:Z):=QM _ ⋯;have h2:k % (ns.length:Z)<(ns.length:Z):=Rb _ c;have hi:(k % (ns.length:Z)).toNat<ns.length:=⋯
    have j:aA H (upd H p (.lst [])):=je i;refine⟨_,rfl,_,rfl,_,rfl,a,_,rfl,.inl (j.seq e),_,_,rfl,rfl,by rw[x9];exact c,a,_,_,.int (ns.getD (k % (ns.length:Z)).toNat 0),rfl,rfl,j.seq e,?_,_,_,rfl,rfl,.inr ⟨by decide,by decide⟩,_,rfl,_,_,rfl,rfl,?_⟩
    .rw[x9];refine wd h1 ?_;rw[Q5,My hi,Q2,My hi];rfl
    .have:=g _ j;rw[show cellAt ns k=ns.getD (k % (ns.length:Z)).toNat 0*31+k by unfold cellAt;rw[GC hc,GC b]]at this;exact this
theorem zQ:dH ["_law_script", "_law_k", "_law_many", "_law_drawn"] ["_law_script", "_law_k", "_law_many"] (aH (top 58)):=⟨rfl,rfl,rfl,by decide +kernel,rfl,by decide +kernel,by decide +kernel⟩
theorem He{b:W9}(F:Fun K "_law_mixed" "_law_mixed" (top 58) f fd)(e:Fun K "_law_cell_at" "_law_cell_at" (top 57) c b)(g:Binds K b ["_law_script", "_law_k"] [])(j:mg "_law_cell_at"=Y (.ref c))(bl:mg "len"=S):iP P w K mg base CX0 2 f fd ["_law_script", "_law_k", "_law_many"] (Lh K):=by
 have l:iP P w K mg base CX0 1 c b _ (Hj K):=Bq e bl;refine F.ok zQ (λvs H Q E h=>?_) (λcdv A outer s H vs Q E m h=>?_)
 .obtain⟨a,ns,k,y1,rfl,_⟩:=h;rfl
 .obtain⟨a,ns,k,y1,rfl,n,o,hm,p⟩:=h;refine⟨_,cU (oV (i:=3) zQ.nd rfl (Xy rfl) (fY rn (fY pA (fY pH (fY pH (Cq l m rfl j e.kp g .nil Ow (e9 (pv 0) (e9 (pv 1) gZ))) (fY pA iC (pv 1))) iC) iC) iC))
   (jt (t9 (fY rn (fY rn (fY pH (fY pH (fY pA (pv 3) (pv 3)) (fY pA iC (pv 3))) (pv 1)) iC) (pv 2)))),?_⟩
  refine⟨_,rfl,_,rfl,a,ns,k,rfl,n,o,λH1 q=>?_⟩;refine⟨_,rfl,_,_,rfl,rfl,.inl ⟨by decide,by decide⟩,_,_,rfl,rfl,_,_,rfl,rfl,_,_,rfl,rfl,.inr ⟨by decide,by decide⟩,_,_,rfl,rfl,(by show (0:Z)<2147483647;decide),?_⟩;have b1:=IE ns k;have b2:=KJ ns k;have eD:(cellAt ns k+7919*k+1)*48271 % 2147483647=Dw ns k:=rfl;refine⟨_,rfl,_,rfl,_,_,rfl,rfl,.inl ⟨?_,?_⟩,_,rfl,_,_,rfl,rfl,.inl ⟨by decide,by decide⟩,_,_,rfl,rfl,_,rfl,_,_,rfl,rfl,_,_,rfl,rfl,(by show (0:Z)<2147483629;decide),_,rfl,_,_,rfl,rfl,hm,p H1 q⟩
  .show -(2 ^ 64)<(cellAt ns k+7919*k+1)*48271 % 2147483647;rw[eD];omega
  .show (cellAt ns k+7919*k+1)*48271 % 2147483647<2 ^ 64;rw[eD];omega
theorem zT(T:Tx K mg cs):jL P w K mg base 2 "_law_mixed" 3 ak:=by obtain⟨f,fd,F,b,m⟩:=T.f_law_mixed;obtain⟨fC,fdC,a,c,e⟩:=T.f_law_cell_at;exact jL.old (He F a c e (T.bs _ #[1])) m F.kp b Jj
theorem Dt(T:Tx K mg cs):sk P w K mg base 1 "Holding" cs.Holding ["number", "part", "tool", "times"]:=by
 obtain⟨f,fd,M,F,b⟩:=T.k_Holding.mi;refine⟨f,fd,_,M,nX (k:=0) (N:=["self", "number", "part", "tool", "times"]) F ⟨rfl,rfl,rfl,by decide +kernel,rfl,by decide +kernel,by decide +kernel⟩ (λvs H Q E h=>?_) (λcdv A outer s H vs Q E hr h=>?_),b,T.m_Holding⟩
 .obtain⟨x,dx,args,rfl,hl,_⟩:=h;rw[PZ,hl];rfl
 .obtain⟨x,dx,args,rfl,hl,c,k⟩:=h;obtain⟨g,rfl⟩:=DT .non hl;refine⟨_,(cU (iH (pv 0) (pv 1) rfl) (cU (iH (pv 0) (pv 2) rfl) (cU (iH (pv 0) (pv 3) rfl) (jt (iH (pv 0) (pv 4) rfl))))),?_⟩;refine⟨_,rfl,_,rfl,x,cs.Holding,dx,_,rfl,c,T.k_Holding.cl,T.k_Holding.na _ #[1],(by show 0<1000;decide),_,rfl,_,rfl,x,cs.Holding,dx,_,rfl,aM,T.k_Holding.cl,T.k_Holding.na _ #[1],(by show 1<1000;decide),_,rfl,_,rfl,x,cs.Holding,dx,_,rfl,aM,T.k_Holding.cl,T.k_Holding.na _ #[1],(by show 2<1000;decide),_,rfl,_,rfl,x,cs.Holding,dx,_,rfl,aM,T.k_Holding.cl,T.k_Holding.na _ #[1],(by show 3<1000;decide),?_⟩;exact k _ (λb a=>by rw[aE a,aE a,aE a,aE a]) (by rw[aM];rfl)
theorem AU(T:Tx K mg cs):MkD P w K mg base 1 "Jobs" cs.Jobs JN JT:=by
 obtain⟨f,fd,M,F,b⟩:=T.k_Jobs.mi;refine⟨f,fd,_,M,nX (k:=0) (N:=["self", "number", "parts", "rank", "row"]) F ⟨rfl,rfl,rfl,by decide +kernel,rfl,by decide +kernel,by decide +kernel⟩ (λvs H Q E h=>?_) (λcdv A outer s H vs Q E hr h=>?_),b,T.m_Jobs⟩
 .obtain⟨x,dx,args,rfl,hl,_⟩:=h;rw[PZ,hl];rfl
 .obtain⟨x,dx,args,rfl,hl,c,k⟩:=h;obtain⟨g,rfl⟩:=DT .non hl;refine⟨_,(cU (iH (pv 0) (pv 1) rfl) (cU (iH (pv 0) (pv 2) rfl) (cU (iH (pv 0) (pv 3) rfl) (cU (iH (pv 0) (pv 4) rfl) (cU (iH (pv 0) iC rfl) (cU (iH (pv 0) iC rfl) (jt (iH (pv 0) iC rfl)))))))),?_⟩;refine⟨_,rfl,_,rfl,x,cs.Jobs,dx,_,rfl,c,T.k_Jobs.cl,T.k_Jobs.na _ #[1],(by show 0<1000;decide),_,rfl,_,rfl,x,cs.Jobs,dx,_,rfl,aM,T.k_Jobs.cl,T.k_Jobs.na _ #[1],(by show 1<1000;decide),_,rfl,_,rfl,x,cs.Jobs,dx,_,rfl,aM,T.k_Jobs.cl,T.k_Jobs.na _ #[1],(by show 2<1000;decide),_,rfl,_,rfl,x,cs.Jobs,dx,_,rfl,aM,T.k_Jobs.cl,T.k_Jobs.na _ #[1],(by show 3<1000;decide),_,rfl,x,cs.Jobs,dx,_,rfl,aM,T.k_Jobs.cl,T.k_Jobs.na _ #[1],(by show 4<1000;decide),_,rfl,x,cs.Jobs,dx,_,rfl,aM,T.k_Jobs.cl,T.k_Jobs.na _ #[1],(by show 5<1000;decide),_,rfl,x,cs.Jobs,dx,_,rfl,aM,T.k_Jobs.cl,T.k_Jobs.na _ #[1],(by show 6<1000;decide),?_⟩;exact k _ (λb a=>by rw[aE a,aE a,aE a,aE a,aE a,aE a,aE a]) (by rw[aM];rfl)
set_option hygiene false
local macro_rules | `(tactic| exists $r)=>`(tactic| refine' $r ..) |`(tactic| exists $r,$rs,*)=>`(tactic| first|refine' $r ..|exists $rs,*)
local macro_rules | `(tactic| infer_instance)=>`(tactic| first|((with_reducible show _=_);exact rfl)|(with_reducible first|(show PD _ _ _ _;first|exists LA,Lp,Jk,N7,Ms,LO,Nh,NT,Lu,Lo,LW,LV,LB,L9,Ni,MW,MP,Oj,NO,Ll,Mx,ME,G4,JK,LC|(show PD _ _ _ (ao (vX _ _) _);apply K2)|refine' Jx ..|(show PD _ _ _ (ao _ _);apply Kb)|exists Dr,DB,Nx,JH,Nm,MN,GV,Aw,Ew,KY,IV,Jc,Jh,FQ|(show PD _ _ _ (bG _ _ _ _ ah);apply Gv)|(show PD _ _ _ (bG _ _ _ _ _);apply ID)|exists NJ,OB,OG,Ox,OV,Ma,Ik)|(show PAD _ _ _ _;first|exists HV,KW)|(show PCD _ _ _ _;first|exists Mp,MU,Nq,ND,Nn,KH,GA,Kg|refine' K8 (Cc ..)|refine' K8 (G9 ..)|refine' IU ..)|(show PSD _ _ _ _ _;first|exists xk,Hv,Ei|(show PSD _ _ _ _ (tX _ _ _ _ _ _ _);apply Hw)|exists Fw,G2|(show PSD _ _ _ (.Assign _ (.ListComp _ _ _ _) _) (aJ _ _ (gL _));apply Gy;apply Ae;focus with_unfolding_all exact rfl)|(show PSD _ _ _ (.Assign _ (.ListComp _ _ _ _) _) (ff _ _ _);apply F9;apply Ae;focus with_unfolding_all exact rfl)|exists Ji,Gq,Jo|(show PSD _ _ _ _ (AS _ _ _);apply Im)|exists DF,FD,JD,Io,Bz,IF,Jf,Fp|(show PSD _ _ _ _ (cY _ _ _ _);apply Jv)|refine' DU ..)|(show PBD _ _ _ _ _;first|exists xE,qV,kg)|(show PLD _ _ _ _;first|(show PLD _ _ _ (a9 _ _ _ _ _);apply GW)|exists KI,DD)|(show PID _ _ _ _ _;first|exists AF,BC,Ar,F7,KL,JU)|(show PIf _ _ _;first|exact PIf.nil|refine' PIf.one ..)|(show PWD _ _ _ _;first|exists Cc,G9,Hb,J9)|(show TgS _ _ _ _;first|exists Fv,Kk)|(show POD _ _ _ _;first|exists Fn,HD)|(show PSN _ _ _ _ _ _;first|exists Mo,Ez,Jg,BQ|(show PSN _ _ _ _ _ (mZ _ _ _ _ _);apply Gw)|refine' Np ..)|(show PBN _ _ _ _ _ _;first|exists JA,C1,yt)) <;> infer_instance|((with_reducible show PBD _ _ _ _ _); first|refine' kg ?_ ?_|refine' qV ?_) <;> infer_instance|((with_reducible show PBN _ _ _ _ _ _); first|refine' yt ?_ ?_|refine' C1 ?_) <;> infer_instance|((with_reducible show PG _ _ _); first|refine' wV ?_ ?_ ?_|refine' FY ?_ ?_) <;> infer_instance|((with_reducible show PGs _ _ _); first|refine' rD ?_ ?_|exact C8) <;> infer_instance|exact rfl|((with_reducible show jL _ _ _ _ _ _ _ _ _);(with_reducible refine' jL.to ?z1 ?z2 ?z3);(case z1=>with_reducible assumption);(case z2=>exact⟨rfl,rfl,rfl,rfl,rfl⟩);(case z3=>rfl))|((with_reducible show jW _ _ _ _ _ _ _ _ _ _);(with_reducible refine' jW.to ?z1 ?z2 ?z3);(case z1=>with_reducible assumption);(case z2=>exact⟨rfl,rfl,rfl,rfl,rfl⟩);(case z3=>rfl))|((with_reducible show lz _ _ _ _ _ _ _ _ _);(with_reducible refine' lz.to ?z1 ?z2);(case z1=>with_reducible assumption);(case z2=>exact⟨rfl,rfl,rfl,rfl,rfl⟩))|((with_reducible show sk _ _ _ _ _ _ _ _ _);(with_reducible refine' sk.to ?z1 ?z2);(case z1=>with_reducible assumption);(case z2=>exact⟨rfl,rfl,rfl,rfl,rfl⟩))|exact hr|exact JX|exact Ak|exact T.bs _ (by decide +kernel)|exact T.cst (_,_) (by decide +kernel)|exact .inl rfl|exact .inr rfl|exact .inr (.inl rfl)|exact .inr (.inr rfl)|exact nd|exact xI (by kernel_rfl)|exact V2.leaving|exact Ic|exact xS|exact λ_=>rfl|exact λ_ _=>rfl|((with_reducible intro _ _ _ _);infer_instance)|exact T.e_NoComings|exact T.e_NoErrand|exact T.e_NoErrands|exact T.e_NoRanks|exact Lx|exact T.k_Holding.cl|exact T.k_Holding.na _ (by decide +kernel)|exact T.k_Jobs.cl|exact T.k_Jobs.na _ (by decide +kernel)|exact Gx|exact bt_bool|exact zt|exact xv|exact cH.u1 hr|exact hr.units|exact⟨rfl,rfl,rfl,rfl⟩|exact hr.in1.deeper _|exact cH.u1 (hr.in1.deeper _)|decide|with_unfolding_all rfl)
local macro_rules | `(tactic| nofun)=>`(tactic| (try have:=Dt (P:=P) (w:=w) (base:=base) T.toTx;try have:=BL P w T;try have:=HB P w T;try have:=kD P w T;try have:=Bt P w T;try have:=sN P w T;try have:=EN P w T;try have:=wM P w T;try have:=MT P w T;try have:=yX P w T;try have:=wL P w T;try have:=oa P w T;try have:=Bu P w T;try have:=pB P w T;try have:=BE P w T;try have:=qK P w T;try have:=Dx P w T;try have:=yq P w T;try have:=xW P w T;try have:=Eg P w T;try have:=uN P w T;try have:=EO P w T;try have:=Bi P w T;try have:=uI P w T;try have:=Ax P w T;try have:=A8 P w T;try have:=pO P w T;try have:=nv P w T;try have:=qR P w T;try have:=qQ P w T;try have:=tV P w T;try have:=HF P w T;try have:=oG P w T;try have:=iG P w T;try have:=uD P w T;try have:=zE P w T;try have:=Gu P w T;try have:=wD P w T;try have:=qd P w T;try have:=rB P w T;try have:=iz P w T;try have:=kh P w T;try have:=Ff P w T;try have:=OE P w T;try have:=w5 P w T;try have:=xJ P w T;try have:=El P w T;try have:=zT (P:=P) (w:=w) (base:=base) T.toTx;try have:=p6 P w T;try have:=uy P w T;try have:=zN P w T;try have:=wZ P w T;try have:=uM P w T))
local macro_rules | `(tactic| and_intros)=>`(tactic| (nofun;intro f cdv A outer s H E nd hr;infer_instance))
theorem DI(T:Tx K mg cs){aY bh dg aX gf:Gf}{gm_Jobs_go_on:J (M'×L)->D' (J (M'×L))}(kD:jL P w K mg base 3 "heights_of" 2 aY)(iG:jW P w K mg base 1 cs.Jobs "are_done" 1 bh)(rB:jL P w K mg base 6 "picked" 3 dg)(iz:jW P w K mg base 1 cs.Jobs "is_there" 2 aX)(kh:lz P w K mg base 3 cs.Jobs "go_on" gm_Jobs_go_on)(AU:MkD P w K mg base 1 "Jobs" cs.Jobs JN JT){Gt:Ds->Sr}
  (hGt:∀δ,Gt δ≠.no->∃d ds fss,Gt δ=.rt d/\5<δ.length/\δ.length=9/\(gU #[0,2]) (mask [6] δ)=.ok ds/\ds.length<=1000000/\fss.length=ds.length/\(∀(i:O) d,ds[i]?=Y d->∃ow fs,fQ d=Y ow/\fss[i]?=Y fs/\(af (ae 9) #[0,g2 dIx (g2 dIx (ae 0) (ae 9)) ↑3,kY (ae 1) (ae 9),10]) (mask [6] δ++ow)=.ok fs/\fs.length=JN.length) /\
   ∀as:J HL,as.length=ds.length->as.Nodup->kA cs aY bh dg aX gm_Jobs_go_on as (δ.set 5 ↥(mF cs.Jobs JN JT as fss))=.rt d)
  (hL:∀ds,ds.length=4->gf ds≠.no->bc (az (aJ [6] 4 (ao aY #[0,0,1])) Gt (ds.map Y++I' 5 S))=gf ds):jL P w K mg base 7 "run_of" 4 gf :=
 dA P w base 6 [6] ["errands", "ranks", "rows", "lending", "tops", "queues", "told", "there", "best"] T.f_run_of hL λf cdv A outer s H E nd hr=>kg (by infer_instance) (JR (PS.imp (tT (i:=5) (M:=["errands", "ranks", "rows", "lending", "tops", "queues", "told", "there", "best"]) (own:=["number", "row"]) (te:=eMk K E0 cs.Jobs JN JT #[0,9,g2 dIx (g2 dIx (ae 0) (ae 9)) ↑3,kY (ae 1) (ae 9),10]) rfl nd rfl (by first|exact Xy rfl|exact Yo rfl) rfl (show PID _ E _ _ (gU #[0,2]) from by infer_instance) (λ_ _ _ _=>(FY rfl (rD (wV (i:=9) (xI (by kernel_rfl)) rfl (Xy rfl) (.inr rfl)) (rD (wV (i:=10) (xI (by kernel_rfl)) rfl (Xy rfl) (.inr rfl)) C8)))) (λ_ _ _ _=>.nil) (λ_ _ _ _=>Oq AU hr Ak (by infer_instance))) (λD σ H h=>Lm (n0:=9) xS σ H _ h)) (λas=>by delta kA;infer_instance) #[1] hGt)
variable (P w)(T:Ty K mg cs base)
def BL:=dA P w base 0 [] ["errand", "tool"] T.f_has_tool (Bs cs) (by delta kI;and_intros)
def HB:=dA P w base 1 [] ["errands", "ranks", "tool", "place", "number"] T.f_height (G5 cs) (by delta oA;and_intros)
def kD:=dA P w base 2 [] ["errands", "ranks"] T.f_heights_of (wz cs) (by delta iQ;and_intros)
def Bt:=dA P w base 3 [5] ["errands", "ranks", "number", "place", "tops", "found", "lower", "part", "pair"] T.f_holdings (A5 cs) (by delta kJ;and_intros)
def sN:=dA P w base 4 [] ["errands", "ranks", "number"] T.f_hold_by_high (rN cs) (by delta gp;and_intros)
def EN:=dA P w base 0 [] ["errand"] T.f_work_of (Ef cs) (by delta vk;and_intros)
def wM:=dA P w base 0 [] ["times", "every"] T.f_rounded_up (xq cs) (by delta iM;and_intros)
def MT:=dA P w base 1 [] ["errands", "ranks", "number", "held_up", "times", "total", "higher", "errand"] T.f_need (Mc cs) (by delta wB;and_intros)
def yX:=dA P w base 2 [5] ["errands", "ranks", "number", "held_up", "most", "found", "level", "following"] T.f_levels_by (xN cs) (by delta jF;and_intros)
def wL:=dA P w base 3 [] ["errands", "ranks", "number", "held_up", "found"] T.f_longest_by (xy cs) (by delta gG;and_intros)
def oa:=dA P w base 5 [] ["errands", "ranks", "number"] T.f_longest_by_high (nH cs) (by delta fe;and_intros)
def Bu:=dA P w base 0 [] ["thing", "least", "most"] T.f_is_whole (BP cs) (by delta kz;and_intros)
def pB:=dA P w base 1 [] ["errands", "number"] T.f_checked_number (pw cs) (by delta fF;and_intros)
def BE:=dA P w base 0 [] ["thing", "fewest", "most"] T.f_is_tuple (AB cs) (by delta ki;and_intros)
def qK:=dA P w base 1 [] ["errands", "ranks", "last"] T.f_checked_ranks (qO cs) (by delta df;and_intros)
def Dx:=dA P w base 1 [] ["thing"] T.f_is_part (EA cs) (by delta iX;and_intros)
def yq:=dA P w base 2 [] ["thing"] T.f_are_parts (zU cs) (by delta ik;and_intros)
def xW:=dA P w base 3 [] ["thing", "every", "due", "late"] T.f_is_errand (zw cs) (by delta fm;and_intros)
def Eg:=dA P w base 4 [] ["errands"] T.f_checked (DO cs) (by delta jU;and_intros)
def uN:=dA P w base 5 [] ["errands", "ranks", "number"] T.f_check_place (uF cs) (by delta ic;and_intros)
def EO:=dA P w base 6 [] ["errands", "ranks", "number"] T.f_longest (DH cs) (by delta lX;and_intros)
def Bi:=dA P w base 0 [] ["_law_errand_here"] T.f_law_work (rM cs) (by delta m8;and_intros)
def uI:=dA P w base 0 [2] ["_law_errands_here", "_law_ranks_here", "_law_found", "_law_place", "_law_length", "_law_tool"] T.f_law_heights (uG cs) (by delta ib;and_intros)
def Ax:=dA P w base 1 [] ["_law_errands_here", "_law_ranks_here", "_law_number", "_law_place", "_law_tools", "_law_found", "_law_lower", "_law_length", "_law_tool"] T.f_law_hold (Bx cs) (by delta kN;and_intros)
def A8:=dA P w base 2 [] ["_law_errands_here", "_law_ranks_here", "_law_number", "_law_time", "_law_found", "_law_other", "_law_every", "_law_due", "_law_late", "_law_parts", "_law_times"] T.f_law_need (Bv cs) (by delta kM;and_intros)
def pO:=dA P w base 1 [7] ["_law_errands_here", "_law_ranks_here", "_law_number", "_law_place", "_law_tools", "_law_first", "_law_lower", "_law_some", "_law_second", "_law_tool"] T.f_law_hold_asked (p9 cs) (by delta dO;and_intros)
def nv:=dA P w base 0 [1] ["pairs", "greatest", "key", "times"] T.f_sum_of_greatest (nE cs) (by delta dz;and_intros)
def qR:=dA P w base 4 [] ["errands", "ranks", "number", "found", "by_errand", "by_tool"] T.f_hold_by_asked (qL cs) (by delta eP;and_intros)
def qQ:=dA P w base 6 [] ["errands", "ranks", "number"] T.f_longest_asked (qP cs) (by delta eM;and_intros)
def tV:=dA P w base 0 [] ["errand", "row", "every", "late", "earliest", "came", "moment"] T.f_have_moments (sE cs) (by delta gM;and_intros)
def HF:=dA P w base 1 [] ["errand", "thing"] T.f_is_row (FT cs) (by delta oR;and_intros)
def oG:=dA P w base 5 [] ["errands", "comings"] T.f_checked_comings (nL cs) (by delta fc;and_intros)
def iG:=dM P w base 0 [] ["self"] (gf:=bh cs) (G:=eO cs) T.k_Jobs.mt_Jobs_are_done T.k_Jobs.cl (mg:=mg) iq (by delta eO;and_intros)
def uD:=dM P w base 0 [] ["self"] (gf:=aS cs) (G:=fM cs) T.k_Jobs.mt_Jobs_wanted T.k_Jobs.cl (mg:=mg) iq (by delta fM;and_intros)
def zE:=dM P w base 0 [] ["self"] (gf:=aZ cs) (G:=ij cs) T.k_Jobs.mt_Jobs_held T.k_Jobs.cl (mg:=mg) iq (by delta ij;and_intros)
def Gu:=dA P w base 1 [] ["there", "tool", "jobs"] (gf:=bX cs) (G:=lR cs _) T.f_holder iq (by delta lR;and_intros)
def wD:=dA P w base 2 [1] ["there", "lent", "jobs", "other"] (gf:=cR cs) (G:=iN cs _ _) T.f_lent_ranks iq (by delta iN;and_intros)
def qd:=dA P w base 1 [] ["jobs", "tops", "tool"] (gf:=cg cs) (G:=cn cs _) T.f_height_by_high iq (by delta cn;and_intros)
def rB:=dT (P:=P) (w:=w) 5 [] ["there", "tops", "lending", "free", "lent"] (gf:=dg cs) (G:=lP cs _ _ _ _) T.f_picked T.nm_picked T.tb_picked T.hB T.hK iq λf cdv A outer s H E nd hr c Pt TAB=>by delta lP;nofun;exact (kg (Hv (by infer_instance) (qV (xk (rE (N:=["jobs", "tops"]) (p:="jobs") (cap:=[1]) (T.bs _ #[1]) hr (by infer_instance) TAB (λq c' s H=>(by infer_instance))))) xE)      (kg (by infer_instance)      (kg (by infer_instance)      (qV (xk (rE (N:=["jobs", "lent"]) (p:="jobs") (cap:=[4]) (T.bs _ #[1]) hr (by infer_instance) TAB (λq c' s H=>(by infer_instance))))))))
def iz:=dM P w base 0 [] ["self", "time"] (gf:=aX cs) (G:=eN cs) T.k_Jobs.mt_Jobs_is_there T.k_Jobs.cl (mg:=mg) iq (by delta eN;and_intros)
def kh:=dK (P:=P) (w:=w) (base:=base) (mg:=mg) 2 ["self"] T.k_Jobs.mt_Jobs_go_on T.k_Jobs.cl (GR cs) λas f cdv A outer s H E nd hr=>by delta iU;nofun;infer_instance
def Ff:=DI (P:=P) (w:=w) (base:=base) T.toTx (kD P w T) (iG P w T) (rB P w T) (iz P w T) (kh P w T) (AU T.toTx) (IT cs) (HP cs)
def OE:=dA P w base 7 [] ["errands", "ranks", "comings", "lending"] T.f_run (OU cs) (by delta Cw;and_intros)
def w5:=dA P w base 0 [] ["number", "row", "ends"] (gf:=dC cs) (G:=gr cs) T.f_answers_of iq (by delta gr;and_intros)
def xJ:=dA P w base 1 [2] ["rows", "told", "ends", "time", "done"] (gf:=dB cs) (G:=gy cs _) T.f_answers_in iq (by delta gy;and_intros)
def El:=dA P w base 8 [] ["errands", "ranks", "comings", "lending"] (gf:=fS cs) (G:=j7 cs _ _) T.f_answers iq (by delta j7;and_intros)
def p6:=dA P w base 2 [6] ["_law_script", "_law_at", "_law_errand_here", "_law_span", "_law_seed", "_law_moment", "_law_made", "_law_k", "_law_drawn", "_law_come"] T.f_law_coming_row (pL cs) (by delta dW;and_intros)
def uy:=dA P w base 3 [] ["_law_script", "_law_at", "_law_errands_here", "_law_span"] T.f_law_comings (uK cs) (by delta fJ;and_intros)
def zN:=dA P w base 2 [3,4] ["_law_script", "_law_at", "_law_many", "_law_left", "_law_made", "_law_k"] T.f_law_ranks (yd cs) (by delta jx;and_intros)
def wZ:=dA P w base 2 [7] ["_law_script", "_law_at", "_law_top", "_law_tools", "_law_every", "_law_late", "_law_due", "_law_parts", "_law_k", "_law_cell"] T.f_law_errand (wH cs) (by delta iR;and_intros)
def uM:=dA P w base 3 [] ["_law_script", "_law_at", "_law_most", "_law_top", "_law_tools", "_law_many"] T.f_law_errands (uA cs) (by delta ie;and_intros)
theorem law_ok(T:Ty K mg cs base)(F:Fun K "law" "law" (top 71) f fd):iP P w K mg base (CXW P w) 10 f fd ["_law_script"] (spD K 1 (ig 63)) :=
 dL (ps:=["_law_script"]) 9 [9] ["_law_script", "_law_errands_here", "_law_ranks_here", "_law_comings_here", "_law_found", "_law_plain", "_law_number", "_law_most", "_law_more", "_law_some", "_law_time"] F (NR cs) (by delta BY;and_intros)
end
end RS
namespace L2
open PySem PySem.Spec PyProof.Rows
theorem Ij{m:M'}{kV dc:F'}
  (hb:∀(kV doc pm:F')(an:D' HL)(cdv ct:F')(us:J F'),us.length=ps.length->bindArgs (PySem.W.fnOf m qual (gw st) (cw st) (aH st) .none kV doc pm an cdv ct) ⟨us,[]⟩=pure (ps.zip us))
  (hm:Meth K C m f) (l:K.lookup f=Y ⟨oc,od,.func (PySem.W.fnOf m qual (gw st) (cw st) (aH st) .none kV dc pm an cd ct),sl⟩)
  (c:PySem.W.codeIn K cd qual=true) (k:PySem.W.keepIn K (.ref f)=true):∃f fd,Fun K m qual st f fd/\Binds K fd ps []/\Meth K C m f :=
 have F:=Au (st:=st) l c k
 ⟨f,_,F,F.binds hb,hm⟩
end L2
set_option maxHeartbeats 4000000
namespace L2
open PySem PySem.Spec PyProof.Rows
variable {vs:SN F'}{P:HL}
theorem GO{o:Tt}(h1:PySem.W.nsIn K mainGlobals x=Y (Y (.ref f)))(h2:K.lookup f=Y ⟨oc,od,.func fd,sl⟩)(h3:fd.code=.ref c)(h4:K.lookup c=Y o)(h5:o.data=.fields vs)(h6:vs[11]?=Y (.ref P)):PySem.W.tabIn K x=Y (c,P):=by obtain⟨cl,di,da,so⟩:=o;cases h5;unfold PySem.W.tabIn;rw[h1];simp only;rw[h2];simp only;rw[h3];simp only;rw[h4];simp only;rw[h6]
theorem Dy(hl:oB=[x]){p:SQ}{d:Yn}(hr:(recsOf p).find? (λe=>e.name==x)=Y d)(hn:PySem.W.noTabs K=true)(T:Top p loose mean mg mb h)(X:K.In h):pe K h:=by
 refine⟨λP q ⟨x',hx,f,oc,od,fd,sl,c,h1,h2,h3,⟨o,vs,h4,h5,h6⟩,hq⟩=>?_,λP q q' ⟨x1,hx1,_,_,_,_,_,_,_,_,_,_,e1⟩ ⟨x2,hx2,_,_,_,_,_,_,_,_,_,_,e2⟩=>?_⟩
 .rw[hl]at hx;cases PV.mp hx;have ht:=GO h1 h2 h3 h4 h5 h6;obtain⟨hc,hp⟩:=PySem.W.tab_of T X hr ht;refine⟨hp,?_,?_⟩
  .cases z:K.lookup P with
   |none=>rfl
   |some o' =>exfalso;have e:=X P o' z;rw[hp]at e;cases e;have h7:=Q6.mp hn (P,_) (PySem.W.mem_of_lookupK z);exact So (show false=true from h7) Q1
  .obtain⟨o2,vs2,_,_,_,_,_,_,_,g1,g2,g3,g4,_⟩:=hc;exact⟨c,o2,vs2,g1,g2,g3,g4⟩
 .rw[hl]at hx1 hx2;rw[e1,e2,PV.mp hx1,PV.mp hx2]
theorem EK{file:M'}{tf:O}{flags text:Z}{tg tt:O}{inF:R0}(l:K.lookup c=Y ⟨.type "code",od,.fields vs,sl⟩)(h11:vs[11]?=Y (.ref P))(h18:vs.getD 18 .none=.str file tf)(h7:vs.getD 7 .none=.int flags tg)(h9:vs.getD 9 .none=.bool inF)(h10:vs.getD 10 .none=.int text tt)(ne:(c != P)=true):PySem.W.codeHdIn K c P=true:=by unfold PySem.W.codeHdIn;rw[l];simp only;rw[h11,h18,h7,h9,h10,ne];simp
theorem Kr{od2:D' HL}{sl2:SN (D' F')}{file:M'}{tf:O}{flags text:Z}{tg tt:O}{inF:R0}(h1:PySem.W.nsIn K mainGlobals x=Y (Y (.ref f)))(h2:K.lookup f=Y ⟨oc,od,.func fd,sl⟩)(h3:fd.code=.ref c)(l:K.lookup c=Y ⟨.type "code",od2,.fields vs,sl2⟩)(h11:vs[11]?=Y (.ref P))(h18:vs.getD 18 .none=.str file tf)(h7:vs.getD 7 .none=.int flags tg)(h9:vs.getD 9 .none=.bool inF)(h10:vs.getD 10 .none=.int text tt)(ne:(c != P)=true):JZ K x :=
 ⟨f,oc,od,fd,sl,c,P,_,vs,h1,h2,h3,l,rfl,h11,EK l h11 h18 h7 h9 h10 ne⟩
theorem Bb(hl:oB=[x]){p:SQ}(hr:((recsOf p).find? (λe=>e.name==x)).isSome=true)(hn:PySem.W.noTabs K=true)(T:Top p loose mean mg mb h)(X:K.In h):pe K h:=by obtain⟨d,hd⟩:=UZ.mp hr;exact Dy hl hd hn T X
end L2
set_option hygiene false
local macro_rules | `(tactic| and_intros)=>`(tactic| first|(refine' RS.GQ KX G (λ_ _ _ _ _ _ us hl=>by obtain⟨f,rfl⟩:=RS.DT PySem.Value.none hl;rfl) ?za ?zl ?zc ?zk;(case za=>k_is);(case zl=>k_is);(case zc=>k_is);(case zk=>k_is))|(refine' L2.Ij (λ_ _ _ _ _ _ us hl=>by obtain⟨f,rfl⟩:=RS.DT PySem.Value.none hl;rfl) ⟨?zm,?zf,?zp⟩ ?zl ?zc ?zq;(case zm=>k_is);(case zf=>k_is);(case zp=>k_is);(case zl=>k_is);(case zc=>k_is);(case zq=>k_is))|(refine' PySem.W.mg_of KX G ?za;(case za=>k_is))|(refine' PySem.W.mg_none_of KX G ?zz;(case zz=>k_is))|(refine' RS.JG KX G ?zz;(case zz=>k_is))|(refine' RS.Cj KX G ?za ?ze;(case za=>k_is);(case ze=>k_exc))|(refine'⟨_,RS.Cj KX G ?za ?ze⟩;(case za=>k_is);(case ze=>k_exc))|(refine'⟨?zp,?zh,?zo,?zs⟩;(case zp=>k_is);(case zh=>k_is);(case zo=>k_is);(case zs=>k_is))|(refine' L2.Iu (λ_ _ _ _ _ _ us hl=>by obtain⟨f,rfl⟩:=RS.DT PySem.Value.none hl;rfl) ?za ?zi ?zl ?zc ?zk ?zm ?zx;(case za=>k_is);(case zi=>k_is);(case zl=>k_is);(case zc=>k_is);(case zk=>k_is);(case zm=>k_is);(case zx=>k_is))|exact J.forall_mem_nil _|((first|refine J.forall_mem_cons.2 ⟨?_,?_⟩|refine J.forall_mem_singleton.2 ?_) <;> (try dsimp only) <;> and_intros)|(refine' L2.Kr ?za ?zb ?zc ?zd ?ze ?zf ?zg ?zh ?zi ?zj;(case za=>k_is);(case zb=>k_is);(case zc=>exact rfl);(case zd=>k_is);(case ze=>exact rfl);(case zf=>exact rfl);(case zg=>exact rfl);(case zh=>exact rfl);(case zi=>exact rfl);(case zj=>decide))|exact λg e=>PySem.W.mg_of KX G e|(delta L2.gu;k_is)|(dsimp only;and_intros))
open PySem PySem.W PyProof.Rows
set_option maxRecDepth 100000 in
set_option maxHeartbeats 0 in
theorem PySem.Challenge.cw_ranksure_k27_whole_asked_no_longer_holds : PySem.Challenge.rw_ranksure_k27_whole_asked_no_longer.Holds := by
 refine RS.hdTop ?_
 k_fill
 refine RS.OS (l:=PySem.Challenge.rw_ranksure_k27_whole_asked_no_longer) (n:=63) (k:=10) (x:="_law_script") (st:=RS.top 71) rfl (by decide) rfl ⟨rfl,by decide,by decide⟩ (λw h Y=>PySem.W.km_in_of Y) (λ_ _ _ _ _ _ us hl=>by obtain⟨f,rfl⟩:=RS.DT PySem.Value.none hl;rfl) ?F (λw h l m mg mb T X=>L2.Bb (x:="picked") rfl (by kernel_rfl) (by kernel_rfl) T X)
 case F =>
  intro w mg h KX G;obtain⟨c_NoComings,h_NoComings⟩:∃C,L2.ur (L2.KOf KX) mg "NoComings" C:=by delta L2.KOf;and_intros
  obtain⟨c_NoErrand,h_NoErrand⟩:∃C,L2.ur (L2.KOf KX) mg "NoErrand" C:=by delta L2.KOf;and_intros
  obtain⟨c_NoErrands,h_NoErrands⟩:∃C,L2.ur (L2.KOf KX) mg "NoErrands" C:=by delta L2.KOf;and_intros
  obtain⟨c_NoRanks,h_NoRanks⟩:∃C,L2.ur (L2.KOf KX) mg "NoRanks" C:=by delta L2.KOf;and_intros
  obtain⟨c_Holding,h_Holding,k_Holding⟩:∃C,mg "Holding"=Y (.ref C)/\RS.sg (L2.KOf KX) C:=by
   delta L2.KOf
   refine'⟨_,PySem.W.mg_of KX G ?za,⟨?zp,?zh,?zo,?zs⟩,?yHolding0,?yHolding1⟩
   (case za=>k_is);(case zp=>k_is);(case zh=>k_is);(case zo=>k_is);(case zs=>k_is);all_goals and_intros
  obtain⟨c_Jobs,h_Jobs,k_Jobs⟩:∃C,mg "Jobs"=Y (.ref C)/\RS.B6 (L2.KOf KX) C:=by
   delta L2.KOf
   refine'⟨_,PySem.W.mg_of KX G ?za,⟨?zp,?zh,?zo,?zs⟩,?yJobs0,?yJobs1,?yJobs2,?yJobs3,?yJobs4,?yJobs5,?yJobs6⟩
   (case za=>k_is);(case zp=>k_is);(case zh=>k_is);(case zo=>k_is);(case zs=>k_is);all_goals and_intros
  have T:RS.Tx (L2.KOf KX) mg ⟨0,c_NoErrands,c_NoRanks,c_NoComings,c_NoErrand,0,0,0,c_Holding,c_Jobs⟩:=by constructor <;> first|assumption|((try delta L2.KOf);and_intros)
  exact⟨T.f_law,λf fd F base hb hn hB=>RS.law_ok _ _ ⟨T,hB,hb⟩ F⟩
end
