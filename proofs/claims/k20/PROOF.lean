import PyProof.Rows.All
import Wide.All
import OpenK.AllK
import Wide.FinOn
import Lean
import PyProof.EqAt
import PyProof.EqKinds
import PyProof.TupleCall
import PySem.Challenge.RW_brooktally_k20_rows_told_at_an_event
set_option Elab.async false
set_option linter.all false
set_option maxRecDepth 100000
set_option tactic.hygienic false
set_option maxHeartbeats 4000000
open PySem PySem.Spec PyProof.Rows
open _root_.Array renaming length_toList->MQ,getElem?_toList->OV,perm_iff_toList_perm->Sm,toArray_toList->WH,toList_append->WI,size_map->fO,toList_extract->fP,append_empty->ABz,toList_map->AB0,toList_push->AB1,toList_setIfInBounds->AB2
open _root_.Array.Perm renaming refl->WG
open _root_.Bool renaming true->AJ,false->AQ,false_ne_true->Du,noConfusion->Hm,false_eq_true->MR,and_eq_true->Qa,eq_iff_iff->Sn,and_eq_true_iff->fU,and_comm->AB3,and_false->AB4,eq_false_iff->AB5,not_false->AB6,not_true->AB7,or_eq_true->AB8
open _root_.Classical renaming epsilon_spec->WJ,byContradiction->fV,epsilon->fW,not_not->AEj
open _root_.Decidable renaming decide->Ae
open _root_.Eq renaming trans->NL
open _root_.Except renaming error->So
open _root_.False renaming elim->FW
open _root_.ForIn renaming forIn->IM
open _root_.ForInStep renaming yield->Sq
open _root_.Inhabited renaming default->gJ
open _root_.Int renaming le_trans->Eo,emod_nonneg->Gp,lt_of_le_of_lt->HG,emod_lt_of_pos->IP,lt_of_lt_of_le->JC,le_of_lt->J4,natCast_inj->Ko,ne_of_gt->Kp,le_of_not_gt->MS,not_le_of_gt->OW,le_add_of_nonneg_right->Qb,le_refl->Qc,lt_trans->Qd,lt_asymm->Sr,lt_of_not_ge->Ss,toNat_le->Su,le_max_right->WN,lt_add_of_le_of_pos->WO,lt_add_of_neg_add_lt->WQ,mul_pos->WR,not_lt->WS,add_lt_of_lt_sub_left->gL,le_of_lt_add_one->gM,lt_irrefl->gN,min_le_right->gO,mul_nonneg->gP,ofNat_le->gQ,pos_iff_toNat_pos->gR,sub_right_le_iff_le_add->gS,ediv_nonneg->AB9,le_add_one->ACA,le_antisymm->ACB,le_max_left->ACC,le_min->ACD,le_total->ACE,lt_iff_le_and_ne->ACF,min_eq_left->ACG,mul_le_mul_of_nonneg_right->ACH,natCast_le_zero->ACI,not_ofNat_neg->ACJ,ofNat_lt->ACK,sub_le_of_sub_le->ACL,sub_le_self->ACN,sub_le_sub_right->ACO,toNat_of_nonneg->ACP,zero_add->ACQ
open _root_.LawfulMonad renaming pure_bind->bK
open _root_.List renaming length_map->BB,mem_map->BQ,getElem?_eq_some_iff->BV,mem_singleton->Bt,getElem?_map->CD,length_append->CI,mem_cons->CJ,getElem?_eq_getElem->Cr,mem_of_getElem?->Ct,map_map->C8,cons->DA,nil->DB,map_append->DJ,mem_append->DN,mem_cons_self->DO,mem_filter->Dx,take_add_one->Dy,take_of_length_le->D7,mem_append_right->Ea,range->Eb,append_assoc->Ei,length_take->Ej,mem_cons_of_mem->Ek,append_nil->Ew,replicate->FI,length_filter_le->Ff,flatMap_cons->F0,map_cons->F1,pairwise_map->GF,filter_append->Gg,mem_of_mem_tail->Gh,pairwise_cons->Gi,filter_cons->G7,mem_iff_getElem->G8,mem_append_left->HU,pairwise_iff_getElem->HV,size_toArray->ID,filter_filter->KZ,getElem?_zip_eq_some->Ka,nodup_cons->Kb,zip->Kc,filter_cons_of_pos->LM,filter_congr->MA,filter_cons_of_neg->MB,filter_eq_nil_iff->MC,length->MD,length_cons->M3,length_drop->M4,length_range->M5,map_congr_left->M6,mem_iff_getElem?->M7,not_mem_nil->M8,filter_map->OB,getElem?_append_left->OC,pairwise_append->OD,take_append_drop->OE,filter_sublist->Px,getElem?_append_right->Py,lookup->Pz,perm_append_comm->P0,cons_append->R8,find?_cons->R9,getElem?_eq_none_iff->SA,getElem_take->SD,perm_nil->SE,take_length->SF,take_zero->SG,any_cons->Va,any_eq_true->Vb,extract_eq_take_drop->Vc,filter->Vd,filterMap_cons->Ve,filter_eq_self->Vf,length_nil->Vg,mem_range->Vh,ne_nil_of_mem->Vi,drop_eq_getElem_cons->bN,eq_nil_iff_forall_not_mem->bO,eq_nil_of_length_eq_zero->bP,getElem?_take_of_lt->bQ,getElem_inj->bR,getElem_map->bS,map_flatMap->bT,mem_flatMap->bU,mem_of_mem_drop->bV,of_mem_zip->bW,pairwise_singleton->bX,range_succ->bY,take->bZ,take_succ_cons->b7,drop_drop->AAD,ext_getElem?->AAE,foldl_cons->AAF,getElem?_eq_none->AAG,getElem?_set_ne->AAH,getElem?_set_self->AAI,getElem_mem->AAJ,length_singleton->AAK,map_fst_zip->AAL,map_snd_zip->AAM,mem_filterMap->AAN,mem_of_mem_take->AAO,pairwise_reverse->AAP,replicate_succ->AAQ,zip_cons_cons->AAR,Nodup->ACR,Pairwise->ACS,Perm->ACT,all_cons->ACV,drop_of_length_le->ACW,drop_sublist->ACX,find?_some->ACY,flatMap_append->ACZ,flatten_cons->ACa,foldl->ACb,getElem?_replicate->ACc,length_pos_of_mem->ACd,length_replicate->ACe,length_zip->ACf,map_id->ACg,map_id'->ACh,map_nil->ACi,map_take->ACj,mem_reverse->ACk,nil_append->ACl,nodup_append->ACm,nodup_range->ACn,pairwise_lt_range->ACo,perm_middle->ACp,take_add->ACq,take_sublist->ACr,zip_nil_right->ACs
open _root_.List.Pairwise renaming imp_of_mem->AEk,nil->AEl
open _root_.List.Perm renaming of_eq->R7,trans->VZ,cons->bL,swap->bM,append_left->AAC,append_right->ACU,append->AEm,refl->AEn
open _root_.List.Sublist renaming eq_of_length_le->AEo,map->AEp
open _root_.List.cons renaming inj->EH
open _root_.Max renaming max->Ke
open _root_.Min renaming min->Ds
open _root_.Nat renaming le_trans->Ak,le_refl->Al,lt_of_lt_of_le->Bc,zero_le->Bd,le_of_eq->Bo,le_of_lt->B7,lt_of_le_of_ne->Dk,ne_of_lt->Dz,le_of_add_right_le->D8,le_of_lt_succ->EM,add_le_add_left->Fg,le_antisymm->Fh,le_of_not_lt->GV,lt_irrefl->HW,lt_of_le_of_lt->HX,lt_of_succ_lt->IE,add_sub_cancel'->Iq,sub_succ_lt_self->Ja,add_one_le_add_one_iff->Jx,le_succ_of_le->Kf,one_le_iff_ne_zero->Kg,add_lt_of_lt_sub'->LN,min_le_left->LO,le_sub_iff_add_le'->ME,lt_of_not_le->MF,lt_trans->MG,not_lt_zero->MH,sub_one_lt_of_le->MI,lt_add_one_iff->M9,ne_of_gt->NA,add_lt_add_left->OF,le_succ->OG,lt_succ_self->OH,le_add_right->P1,succ->P2,zero->P4,add_comm->SH,le_of_add_left_le->SI,lt_of_add_right_lt->SJ,sub_lt_iff_lt_add'->SK,sub_lt_of_lt->SM,sub_lt_right_of_lt_add->SN,add_zero->Vj,le_sub_iff_add_le->Vk,lt_sub_iff_add_lt'->Vl,min_eq_left->Vm,min_le_right->Vn,not_lt->Vo,sub_lt->Vp,le_of_ble_eq_true->b8,le_of_succ_le_succ->b9,le_one_iff_eq_zero_or_eq_one->cA,le_sub_of_add_le->cB,lt_iff_add_one_le->cC,lt_trichotomy->cD,mul_le_mul->cF,sub_le_sub_iff_right->cG,sub_self->cH,sub_sub_self->cJ,succ_le_succ->cK,succ_pos->cL,add_one_inj->AAS,eq_of_le_of_lt_succ->AAT,le_add_left_of_le->AAU,le_add_right_of_le->AAV,le_pred_iff_lt->AAW,lt_add_left->AAX,lt_add_one_of_lt->AAY,lt_succ_of_lt->AAZ,not_succ_le_zero->AAa,sub_eq_iff_eq_add->AAb,sub_le->AAc,sub_ne_zero_iff_lt->AAd,sub_one_lt_of_lt->AAe,sub_sub_sub_cancel_right->AAf,add_eq_right->ACt,add_right_cancel_iff->ACu,eq_zero_of_le_zero->ACv,le_mul_of_pos_left->ACw,le_of_add_le_add_left->ACx,le_sub_one_of_lt->ACy,lt_or_ge->ACz,max_eq_right->AC0,not_lt_of_ge->AC1,succ_lt_succ->AC2
open _root_.Ne renaming symm->El
open _root_.Not renaming imp->OI
open _root_.Option renaming some->AA,none->AF,map_eq_some_iff->EI,isSome_iff_exists->Vq,map_some->Vr,getD_none->AC3
open _root_.Option.some renaming inj->Bz
open _root_.Or renaming inl->Fi,intro_right->AAh
open _root_.Prod renaming ext->SO,fst->cM
open _root_.Prod.mk renaming inj->AAi
open _root_.Pure renaming pure->Bf
open _root_.PyProof renaming noPylong_small->AAr
open _root_.PyProof.Rows renaming arrOf->Am,Keyed->BA,wpS_bind->BH,wpS_pure->BX,pendingOf->CG,seqObj->Cd,SortSt->Ci,wpS->Ex,envOfC->GW,boot_isinstance->Gj,wpS_forRange->IF,pairsOf->Ir,wpS_mono->Iu,wpS_modify->Jy,boot_list->Ki,AllBare->MJ,ltAt'->MK,wpS_get->ML,boot_sorted->NC,failedOf->ND,reverseSlice'->NF,SortKind->OJ,callWith_type1->P5,listUpdate_at->P6,setArr->P7,wpS_lift->P8,IntsAre->SQ,pairsOf_toList->SR,Call_->Vs,IsTup->Vt,KeyOrd->Vu,boot_int->Vv,boot_max->Vw,elem'->Vx,get?_update_seq->Vy,keyKind'->Vz,seqEpoch_at->V0,boot_bool->cO,boot_range->cP,kindOf->cQ,mem_zip_self->cR,mirror->cU,setPending->cV,slot_tuple_getitem->cW,Subscript_->AAj,boot_min->AAk,elem'_eq->AAl,ksk_tail->AAm,listItems_at->AAn,lt_int->AAo,sortedHeap->AAp,boot_str->AC6,boot_tuple->AC7,entry_list_sort->AC9,eqGives_str->ADB,getElem?_bubble->ADC,getElem?_mirror_all->ADD,keyLt'_oneType->ADE,le_int->ADF,lt_str->ADG,reverseSlice'_eq->ADJ,slicePart_none->ADK,slot_list_sort->ADL,subscriptTail_builtinR->ADM,callWith_builtin1->AEq
open _root_.PyProof.Rows.IsTup renaming new->AC4
open _root_.PyProof.Rows.KeyOrd renaming kle_trans->HY,kle_of_klt->Kh,kle_refl->NB,klt_of_kle_of_klt->AC5
open _root_.PyProof.Rows.SortSt renaming mk'->cN
open _root_.PySem renaming Addr->AD,Str->AG,Value->AK,Shared->AV,model->An,wpAny->As,sizeLine->Ay,Obj->BC,Heap->BJ,wpAny_bind->BL,Expr->BO,Paired->BW,eval->BY,World->Bu,Program->CN,starEach->CQ,Pos->CV,Stmt->Cj,Around->Ck,wpAny_pure->Cn,Sem->DP,sizeLine_eq->Dc,Env->Dl,PyData->EO,compareOp->Ed,boot_len->FJ,backTo->FU,wpAny_mono->FV,Scope->Fj,cLine->F2,binaryOp->G9,Tok->II,FuncData->Iv,call->Jb,attributeBase->J3,Model->Kk,lookup_relabel_local->Km,mainGlobals->LR,sysModules->LU,Keyword->MM,NameKind->MN,swapsWith->MP,IsPart->NG,codeAny->NI,foldedSetIterable->NJ,atKey->ON,getItem->OO,typeOf->OP,wpAny_Call_Name_kw->OQ,wpAny_truthy_bool->OR,assignEach->QD,backToKw->QE,bindC->QF,bindL->QG,bootBuiltins->QH,call_meets->QI,callerA->QJ,codeAny_mono->QK,keywordEach->QL,mem_of_lookup->QM,sliceBounds->QN,wpAny_holding->QO,wpAny_passesOwn->QP,wpAny_rule->QQ,BindsTo->SS,valueAt->Sf,wpAny_execs_nil->Sg,CmpOp->V1,Fin->V3,isTrue->WA,tupleKind->WB,wpAny_call->WC,DictEntry->dB,IsRangeIter->dE,Params->dH,PlainAttrs->dI,Result->dJ,behindInMarks->d7,getMethod->d8,leaving->d9,noteFrame->eC,numAt_eq->eI,pyIter->eJ,richCompare_meets_room->eK,setFlight->eM,subscripted->eO,typeIs_str->eP,wpAny_Call_method->eQ,wpAny_loadPart_at->eR,wpAny_newList->eT,Within->ABL,bindArgs->ABM,builtinsNs->ABN,call_meetsIn->ABO,cellsFrom->ABP,closureFor->ABQ,codeAny_builtin->ABR,evalArgs_none->ABT,letOwnedTupleGo->ABW,setField->ABY,tupleKind_room_in1->ABa,typeIs_int->ABb,wpAny_Name->ABd,wpAny_attempt->ABe,wpAny_call_entry->ABf,wpAny_execs_cons->ABg,wpAny_field->ABh,wpAny_forIn_list->ABi,wpAny_newObj_type->ABj,wpAny_standAt->ABk,arm_execs_cons->AEH,boundAndCalled->AEI,call_list_seq->AEJ,checkBuiltinCall->AEL,codeAny_call_builtin->AEM,frameOf->AEP,getAttrByItsOwn->AEQ,intBits_le_64->AER,list_append->AES,method_meetsIn->AET,noFill_tuple_add->AEU,nums_intItems->AEV,recursionLimit->AEW,seq_tuple_add->AEY,slot_list_getitem->AEZ,wpAny_Expr_any->AEa,wpAny_assign_Name->AEb,wpAny_loadPart->AEc,wpAny_newTuple->AEd,wpAny_pyIter_enum->AEe,wpAny_pyIter_range->AEf,wpAny_pyIter_rangeiter->AEg,wpAny_pyNext_range_end->AEh
open _root_.PySem.AutoListH renaming list___mul___list_int_3->AEr
open _root_.PySem.AutoSeq1 renaming sub_tuple_tuple->ADN
open _root_.PySem.Builtin.List renaming listTooLong->AAs,listFitsIndex->AEs
open _root_.PySem.Builtin.Range renaming rangeSize->cX,small->cY,rangeFitsLong->ADO
open _root_.PySem.Builtin.Slice renaming sliceAdjust->AAt,slicePlaces->AAu,sliceApplied->AEt,slicePartIndex->AEu
open _root_.PySem.Builtin.Tuple renaming tupleCompareSizes->ADP,tupleItemsOf->AEv
open _root_.PySem.Calls renaming spliced_cons->OL,spliced_nil->P9,callWith_builtin->cZ,evalArgs_plain->dA,Name_function_global->ADQ
open _root_.PySem.Challenge renaming rw_brooktally_k20_rows_told_at_an_event->ADR,pw_brooktally_k20_rows_told_at_an_event->AEw
open _root_.PySem.DictEntry renaming refKey->AEx
open _root_.PySem.EntryCells renaming newEntry->AAv
open _root_.PySem.EqMixed renaming eq_bool_str->AEy,eq_int_str->AEz,eq_str_bool->AE0,eq_str_int->AE1,ne_bool_str->AE2,ne_int_str->AE3,ne_str_bool->AE4,ne_str_int->AE5
open _root_.PySem.EqNone renaming eq_bool_none->AE6,eq_int_none->AE7,eq_none_bool->AE8,eq_none_int->AE9,eq_none_none->AFA,eq_none_str->AFB,eq_str_none->AFC,ne_bool_none->AFD,ne_int_none->AFE,ne_none_bool->AFF,ne_none_int->AFG,ne_none_none->AFH,ne_none_str->AFI,ne_str_none->AFJ
open _root_.PySem.F renaming plainAttrs_list->QA,slot_list_extend->SU,type_list_extend->V2,plainAttrs_dict->dC,entry_tuple_lt->AAw,slot_dict_get->AAx,slot_gs_get->AAy,slot_list_append->AAz,slot_tuple_lt->AA0,typeOf_object_class->AA1,args_dict_get_3->ADS,args_list_append_2->ADT,args_tuple_add_2->ADU,attrBase_ValueError->ADV,entry_dict_get->ADW,entry_list_append->ADX,entry_tuple_add->ADY,excBase_ValueError->ADZ,slot_dict_items->ADa,slot_dict_pop->ADb,slot_dict_values->ADc,slot_int_rmul->ADd,slot_list_clear->ADe,slot_str_le->ADf,slot_tuple_add->ADg,slot_tuple_index->ADh
open _root_.PySem.Flow renaming brk->HZ,cont->Hg,next->Hh,ret->Hi
open _root_.PySem.Heap renaming lt_size->CS,get?_push_of_some->DC,get?_push_size->Gk,FlyingW->Kj,SameBut->V4,HeldW->AA2,get?_update_ne->AA3,size_push->AA4,get?_none_of_le->ADi,get?_some_iff->ADj,get?_update_other->ADk
open _root_.PySem.Heap.DictOf renaming new->AFK
open _root_.PySem.Heap.IsSliceOf renaming new->AFL
open _root_.PySem.Heap.SameBut renaming update->dD
open _root_.PySem.IsL renaming update->ADl
open _root_.PySem.IsRange renaming new->AA5
open _root_.PySem.MeetsSeq.EqGives renaming int->AFM
open _root_.PySem.NameKind renaming free->NH,cell->dG
open _root_.PySem.Obj renaming mapSeq->Em,mapFields->ADm
open _root_.PySem.Paired renaming cons->B0,nil->Ec,length->Iw,snoc->ADn
open _root_.PySem.PassesOwn renaming never->EN
open _root_.PySem.PyData renaming canLay0->Gm,canLayAll0->IG,depth->IH,depthAll->Iy,int->Jz,strOk->LP,eqvAll->QB,eqv->SV,tuple->ADo
open _root_.PySem.SeqAt renaming shaped->Hj,EqAt->V5,canLay_of_shaped->V6,eqv_refl->V7,eqAt_reads->ADs
open _root_.PySem.SeqAt.EqAt renaming int_str->ADp,same->ADq,str_int->ADr,bool_bool->AFN,bool_int->AFO,bool_none->AFP,bool_str->AFQ,int_bool->AFR,int_int->AFS,int_none->AFT,none_bool->AFU,none_int->AFV,none_str->AFW,str_bool->AFX,str_none->AFY,str_str->AFZ
open _root_.PySem.SeqAt.RcNeAt renaming lists->AFa,lists_lengths->AFb
open _root_.PySem.Str renaming length_append->dM,length->ADt
open _root_.PySem.StrLaws renaming sliceText->ADu
open _root_.PySem.Txt renaming slice->LQ
open _root_.PySem.Value renaming ref->DV,bool->SW,int->SX,str->SY,type->dN,float->AA7,none->AA8,bytes->ADv,isInt->ADw,isStrOf->ADx,notImplemented->ADy
open _root_.PySem.Value.ref renaming inj->AFc
open _root_.PySem.W renaming Frag->Aq,findIn->IJ,kia_one->Kl,kitOne->MO,fnOf->OM,Looks->QC,OpenLaw->Sa,instObj->Sb,keepIn->Se,kat_cons->V8,kat_kind->V9,KatLex->dO,callWith_K->dQ,clsIn->dR,codeIn->dS,emptyDict->dU,excIn->dW,kat_no->dX,kat_one->dY,lookIn->dZ,plainGet->d5,subIn->d6,KatTups->AA9,WalkO->ABB,hasDictIn->ABC,isFn->ABD,kat_go->ABE,kat_lt->ABF,kat_yes->ABG,looks_findIn->ABH,mg_of->ABI,plainGet_of->ABJ,takerIn->ABK,callWith_K0->AD0,cellsFrom_some->AD1,exmOne->AD2,handedIn->AD3,hideAll->AD4,hideAll_get->AD5,kas_kind->AD6,kat_nil->AD7,kdl_dict->AD8,kitx_dict->AD9,kitx_list->AEA,looks_subIn->AEB,makesIn->AEC,methodCall_KW->AED,of_hideAll->AEE,plainOver->AEF
open _root_.PySem.W.KatTups renaming cons->ABA
open _root_.PySem.W.Looks renaming ld->dP,here->AFd
open _root_.PySem.W.WData renaming int->ADz
open _root_.PySem.Walks renaming range->AEG
open _root_.PySem.Within renaming cons->AFe
open _root_.StateT renaming run_pure->AEi
open _root_.Std.Legacy.Range renaming forIn_eq_forIn_range'->AFf,size->AFg
open _root_.Sum renaming inr->B9,inl->C5
open _root_.Sum.inl renaming inj->JB
open _root_.Sum.inr renaming inj->Hl
open _root_.True renaming intro->IL
noncomputable def AFh:=@if_neg
noncomputable def AFi:=@if_pos
noncomputable def AFj:=@congrArg
noncomputable def AFk:=@decide_eq_true
noncomputable def AFl:=@decide_eq_false
noncomputable def AFm:=@of_decide_eq_true
noncomputable def AFn:=@if_false
noncomputable def AFo:=@decide_eq_true_eq
noncomputable def AFp:=@of_decide_eq_false
noncomputable def AFq:=@if_true
noncomputable def AFr:=@lt_of_lt_of_eq
noncomputable def AFs:=@beq_iff_eq
noncomputable def AFt:=@or_false
noncomputable def AFu:=@beq_eq_false_iff_ne
noncomputable def AFv:=@le_of_eq_of_le
noncomputable def AFw:=@bne_self_eq_false
noncomputable def AFx:=@getElem?_pos
noncomputable def AFy:=@le_of_le_of_eq
structure Yk(p:Prop):Prop where go:p->False
theorem sQ(h:Yk p->False):p:=fV λg=>h ⟨g⟩
section
set_option hygiene false in
local macro_rules | `(tactic| lk) => `(tactic| refine sQ fun nG0 => ?_)
set_option hygiene false in
local macro_rules | `(tactic| k_in) => `(tactic| (rename Yk _ => nG0; refine nG0.go ?_; try clear nG0))
local macro_rules | `(tactic| obtain $p : _ := $e) => `(tactic| (lk; obtain $p := $e; k_in))
local macro_rules | `(tactic| show $t) => `(tactic| refine $t)
inductive Ft{a:Type}(A B:a->Prop):Prop|mk(a:a)(_:A a)(_:B a)
inductive K6{a:Type}(A B C:a->Prop):Prop|mk(a:a)(_:A a)(_:B a)(_:C a)
inductive Yq{a:Type}(A B C D:a->Prop):Prop|mk(a:a)(_:A a)(_:B a)(_:C a)(_:D a)
inductive Lu{a b:Type}(A B:a->b->Prop):Prop|mk(a:a)(b:b)(_:A a b)(_:B a b)
inductive FD{a b:Type}(A B C:a->b->Prop):Prop|mk(a:a)(b:b)(_:A a b)(_:B a b)(_:C a b)
inductive JQ{a b:Type}(A B C D:a->b->Prop):Prop|mk(a:a)(b:b)(_:A a b)(_:B a b)(_:C a b)(_:D a b)
inductive RQ{a b:Type}(A B C D E:a->b->Prop):Prop|mk(a:a)(b:b)(_:A a b)(_:B a b)(_:C a b)(_:D a b)(_:E a b)
inductive RR{a b:Type}(A B C D E F:a->b->Prop):Prop|mk(a:a)(b:b)(_:A a b)(_:B a b)(_:C a b)(_:D a b)(_:E a b)(_:F a b)
inductive RS{a b c:Type}(A B C:a->b->c->Prop):Prop|mk(a:a)(b:b)(c:c)(_:A a b c)(_:B a b c)(_:C a b c)
inductive PK{a b c:Type}(A B C D:a->b->c->Prop):Prop|mk(a:a)(b:b)(c:c)(_:A a b c)(_:B a b c)(_:C a b c)(_:D a b c)
inductive Mo{a b c:Type}(A B C D E:a->b->c->Prop):Prop|mk(a:a)(b:b)(c:c)(_:A a b c)(_:B a b c)(_:C a b c)(_:D a b c)(_:E a b c)
inductive Yr{a b c:Type}(A B C D E F:a->b->c->Prop):Prop|mk(a:a)(b:b)(c:c)(_:A a b c)(_:B a b c)(_:C a b c)(_:D a b c)(_:E a b c)(_:F a b c)
inductive Ys{a b c:Type}(A B C D E F G:a->b->c->Prop):Prop|mk(a:a)(b:b)(c:c)(_:A a b c)(_:B a b c)(_:C a b c)(_:D a b c)(_:E a b c)(_:F a b c)(_:G a b c)
inductive UY{a b c d:Type}(A B C D E:a->b->c->d->Prop):Prop|mk(a:a)(b:b)(c:c)(d:d)(_:A a b c d)(_:B a b c d)(_:C a b c d)(_:D a b c d)(_:E a b c d)
inductive RT{a b c d:Type}(A B C D E F:a->b->c->d->Prop):Prop|mk(a:a)(b:b)(c:c)(d:d)(_:A a b c d)(_:B a b c d)(_:C a b c d)(_:D a b c d)(_:E a b c d)(_:F a b c d)
inductive Yt{a b c d:Type}(A B C D E F G H:a->b->c->d->Prop):Prop|mk(a:a)(b:b)(c:c)(d:d)(_:A a b c d)(_:B a b c d)(_:C a b c d)(_:D a b c d)(_:E a b c d)(_:F a b c d)(_:G a b c d)(_:H a b c d)
inductive Yu{a b c d e:Type}(A B C D E F:a->b->c->d->e->Prop):Prop|mk(a:a)(b:b)(c:c)(d:d)(e:e)(_:A a b c d e)(_:B a b c d e)(_:C a b c d e)(_:D a b c d e)(_:E a b c d e)(_:F a b c d e)
inductive Yv{a b c d e:Type}(A B C D E F G:a->b->c->d->e->Prop):Prop|mk(a:a)(b:b)(c:c)(d:d)(e:e)(_:A a b c d e)(_:B a b c d e)(_:C a b c d e)(_:D a b c d e)(_:E a b c d e)(_:F a b c d e)(_:G a b c d e)
abbrev AL:=Sum Int AG
noncomputable def L3:AL->AK->Bool|.inl k,v=>ADw k v|.inr x,v=>ADx x v
noncomputable def uX(w:Bu):AL->Int|.inl k=>hashInt k|.inr x=>hashStr w x
theorem KR:∀{k:AL}{v:AK},L3 k v=AJ->(∃i t,k=C5 i/\v=SX i t)\/(∃x t,k=B9 x/\v=SY x t)|.inl i,v,h=>by obtain⟨t,e⟩:=Value.isInt_shape h;show .inl ⟨i,t,rfl,e⟩|.inr x,v,h=>by obtain⟨t,e⟩:=Value.isStrOf_shape h;show .inr ⟨x,t,rfl,e⟩
theorem uY(i:Int)(t:II):L3 (.inl i) (.int i t)=AJ:=by simp[L3,ADw]
theorem uZ(x:AG)(t:II):L3 (.inr x) (.str x t)=AJ:=by simp[L3,ADx]
theorem u7(a b:Int):Ae ((C5 a:AL)=C5 b)=(a==b):=by
 by_cases e:a=b;.subst e;simp
 . have h:¬(C5 a:AL)=C5 b:=λq=>e (JB q);rw[AFl h];show(AFu.mpr e).symm
theorem vB(a b:AG):Ae ((B9 a:AL)=B9 b)=Ae (a=b):=by
 by_cases e:a=b;.simp
 . have h:¬(B9 a:AL)=B9 b:=λq=>e (Hl q);rw[AFl h,AFl e]
theorem u9(a:Int)(b:AG):Ae ((C5 a:AL)=B9 b)=AQ:=AFl (λq=>nomatch q)
theorem vA(a:AG)(b:Int):Ae ((B9 a:AL)=C5 b)=AQ:=AFl (λq=>nomatch q)
noncomputable def FQ(prog:CN)(w:Bu):KeyKind prog w AL where
  is:=L3
  hash:=uX w
  inj:=λv a b V U=>by
    rcases KR V with⟨i,t,rfl,rfl⟩|⟨x,t,rfl,rfl⟩
    . rcases KR U with⟨j,u,rfl,e⟩|⟨y,u,rfl,e⟩;.injection e with D _;rw[D]
      .show nomatch e
    . rcases KR U with⟨j,u,rfl,e⟩|⟨y,u,rfl,e⟩;.show nomatch e
      .injection e with D _;rw[D]
  byValue:=λk v h=>by rcases KR h with⟨i,t,rfl,rfl⟩|⟨x,t,rfl,rfl⟩<;>rfl
  pyHash:=λJ h=>by
    rcases KR J with⟨i,t,rfl,rfl⟩|⟨x,t,rfl,rfl⟩;.show wpAny_pyHash_int h
    .show wpAny_pyHash_str h
  eqBool:=λW J h=>by
    rcases KR W with⟨i,t,rfl,rfl⟩|⟨x,t,rfl,rfl⟩
    . rcases KR J with⟨j,u,rfl,rfl⟩|⟨y,u,rfl,rfl⟩;.rw[u7]at h;show wpAny_eqBool_int h
      .rw[u9]at h;show ADp i t y u _ _ _ _ h
    . rcases KR J with⟨j,u,rfl,rfl⟩|⟨y,u,rfl,rfl⟩;.rw[vA]at h;show ADr x t j u _ _ _ _ h
      .rw[vB]at h;show wpAny_eqBool_str h
  «strs»:=λk x t v h=>by
    rcases KR h with⟨i,u,rfl,e⟩|⟨y,u,rfl,e⟩;.show nomatch e
    . injection e with D _;subst D;cases v<;>rfl
theorem vP(prog:CN)(w:Bu)(i:Int)(t:II):(FQ prog w).is (.inl i) (.int i t)=AJ:=uY i t
theorem vQ(prog:CN)(w:Bu)(x:AG)(t:II):(FQ prog w).is (.inr x) (.str x t)=AJ:=uZ x t
inductive AE where|non|bl(b:Bool)|int(i:Int)|str(x:AG)|byt(b:Array UInt8)|flt(b:UInt64)|ref(a:AD)|ty(n:String)deriving DecidableEq
def Bn:AE->AK->Prop|.non,u=>u=AA8|.bl b,u=>u=SW b|.int i,u=>∃t,u=SX i t|.str x,u=>∃t,u=SY x t|.byt b,u=>∃t,u=ADv b t|.flt b,u=>∃t,u=AA7 b t|.ref a,u=>u=DV a|.ty n,u=>u=dN n
abbrev Bb:List AE->List AK->Prop:=BW Bn
theorem Bb.ar(r:Bb xs D):xs.length=D.length:=Iw r
theorem Bb.vm:∀{xs:List AE}{D:List AK}{i:Nat}{x:AE},Bb xs D->xs[i]?=AA x->∃u,D[i]?=AA u/\Bn x u|_,_,_,_,.nil,e=>by simp at e|_,_,0,_,.cons r _,e=>by simp at e;subst e;show⟨_,rfl,r⟩|_,_,i+1,x,.cons _ t,e=>by obtain⟨u,J,U⟩:_:=Bb.vm t (by simpa using e);show⟨u,by simpa using J,U⟩
theorem Bb.pz(h:Bb xs D)(s:Bb ys J):Bb (xs++ys) (D++J):=by induction h with|nil=>show s|cons r _ U=>show .cons r U
theorem Bb.adn:∀{xs:List AE}{D:List AK}(n:Nat),Bb xs D->Bb (xs.take n) (D.take n)|_,_,0,_=>.nil|_,_,_+1,.nil=>.nil|_,_,n+1,.cons r t=>.cons r (Bb.adn n t)
theorem Bb.aae:∀{xs:List AE}{D:List AK}(n:Nat),Bb xs D->Bb (xs.drop n) (D.drop n)|_,_,0,r=>r|_,_,_+1,.nil=>.nil|_,_,n+1,.cons _ t=>Bb.aae n t
def K5:Option AE->Option AK->Prop|AA v,AA u=>Bn v u|AF,AF=>True|_,_=>False
def Fb:List (D×AE)->List (D×AK)->Prop:=BW λ(p:D×AE)(q:D×AK)=>p.1=q.1/\Bn p.2 q.2
noncomputable def Au:AL->AE|.inl i=>.int i|.inr x=>.str x
inductive Bg where|lst(xs:List AE)|tup(xs:List AE)|dK(kvs:List (AL×AE))|dT(kvs:List (List AL×AE))|set(S:Int->Bool)(n:Nat)|ins(C dx:AD)(fs:List (AG×AE))|own(x:AD)|xd(fs:List (AG×AE))|met(f x:AD)|rng(lo hi:Int)|frz(o:BC)(u:Bg)|tbl(ps:Array AK)|ext(φ:BJ->Prop)
abbrev AI:=AD->Option Bg
noncomputable def AO(H:AI)(a:AD)(o:Bg):AI:=λb=>if b=a then AA o else H b
theorem Ac:AO H a o a=AA o:=by unfold AO;rw[AFi rfl]
theorem AW(h:b≠a):AO H a o b=H b:=by unfold AO;rw[AFh h]
theorem zzu:∀b o,b≠d->H b=AA o->AO H d x b=AA o:=λb o n e=>(AW n).trans e
theorem N8:AO (AO H a o) a u=AO H a u:=by funext b;unfold AO;split<;>rfl
theorem vU{H:AI}(h:H a=AA o)(D:H b=AA u)(d:o≠u):a≠b:=by intro e;subst e;rw[h]at D;show d (Bz D)
theorem BE{H:AI}(h:H a=AA o)(D:H b=AF):a≠b:=by intro e;subst e;rw[h]at D;cases D
section
variable(P:CN)(w:Bu)
def DL(H:AI)(h:BJ)(a:AD):Bg->Prop|.lst xs=>xs.length<=Ay/\∃(D:List AK)(n:Nat),Bb xs D/\h.get? a=AA {cls:=.type "list",data:=.seq D.toArray n}|.tup xs=>xs.length<=Ay/\∃D:List AK,Bb xs D/\Vt h a D.toArray|.dK kvs=>kvs.length<=Ay/\(a==LU)=AQ/\∃U,Fb kvs U/\h.DictOf (FQ P w) a U|.dT kvs=>kvs.length<=Ay/\(a==LU)=AQ/\∃xs:List (List AL×AD×AK),BW (λ(p:List AL×AE)(q:List AL×AD×AK)=>p.1=q.1/\H q.2.1=AA (.tup (p.1.map Au))/\Bn p.2 q.2.2) kvs xs/\∃o es ep,h.get? a=AA o/\o.ExactDict/\o.data=.dict es ep/\es.toList=xs.map (entryOfKey (WB (FQ P w)))/\(xs.map (·.1)).Nodup|.set S n=>h.SetOf (intKind P w) a S n|.ins C dx fs=>H dx=AA (.own a)/\fs.length<=1000/\dx≠a/\h.get? a=AA (Sb C dx)/\∃mA,h.Ns1 dx mA/\(∀f,K5 (fs.lookup f) (mA f))/\ABL mA (fs.map (·.1))|.own _=>∃o,h.get? a=AA o|.xd fs=>∃mA,h.Ns1 a mA/\∀f,K5 (fs.lookup f) (mA f)|.rng lo hi=>∃t u v,h.get? a=AA {cls:=.type "range",data:=.fields #[.int lo t,.int hi u,.int 1 v]}|.frz o u=>h.get? a=AA o/\DL H h a u|.tbl ps=>h.get? a=AA {cls:=.none,data:=.fields ps}|.met f x=>h.get? a=AA (W.methodObj (.ref f) (.ref x))|.ext J=>J h/\(∃o,h.get? a=AA o)/\∀h1 h2:BJ,J h1->(∀o,h1.get? a=AA o->h2.get? a=AA o)->J h2
end
def DG(P:CN)(w:Bu)(H:AI)(h:BJ):Prop:=∀a o,H a=AA o->DL P w H h a o
theorem DL.lt(x:DL P w H h a o):a<h.objs.size:=by cases o with|lst U=>obtain⟨_,_,_,_,e⟩:=x;show CS e|tup U=>obtain⟨_,_,_,p⟩:=x;show p.lt|dK D=>obtain⟨_,_,_,_,o,_,_,e,_⟩:=x;show CS e|dT D=>obtain⟨_,_,_,_,o,_,_,e,_⟩:=x;show CS e|set S n=>obtain⟨o,_,_,_,e,_⟩:=x;show CS e|ins C V J=>obtain⟨_,_,_,e,_⟩:=x;show CS e|own y=>obtain⟨_,e⟩:=x;show CS e|xd J=>obtain⟨_,⟨_,_,_,e,_⟩,_⟩:=x;show CS e|rng Y W=>obtain⟨_,_,_,e⟩:=x;show CS e|frz Z u=>obtain⟨e,_⟩:=x;show CS e|tbl z=>show CS (show h.get? a=AA _ from x)|met f y=>show CS (show h.get? a=AA _ from x)|ext A=>obtain⟨_,⟨_,e⟩,_⟩:=x;show CS e
theorem Yn{F G:U->V->Prop}(h:BW F D J)(f:∀a b,F a b->G a b):BW G D J:=by induction h with|nil=>show .nil|cons r _ W=>show .cons (f _ _ r) W
theorem DL.ve(x:DL P w H h a o)(k:∀b u,(b=a\/H b=AA (.own a))->h.get? b=AA u->F.get? b=AA u)(G:∀b,H b=AA (.own a)->H' b=AA (.own a))(I:∀b xs,H b=AA (.tup xs)->H' b=AA (.tup xs)):DL P w H' F a o:=by induction o with|lst xs=>obtain⟨z,V,n,r,e⟩:=x;show⟨z,V,n,r,k _ _ (.inl rfl) e⟩|tup xs=>obtain⟨z,V,r,D,e,c⟩:=x;show⟨z,V,r,D,k _ _ (.inl rfl) e,c⟩|dK W=>obtain⟨z,y,M,r,D,U,J,e,c⟩:=x;show⟨z,y,M,r,D,U,J,k _ _ (.inl rfl) e,c⟩|dT W=>obtain⟨z,y,xs,r,D,U,J,e,c⟩:_:=x;show⟨z,y,xs,Yn r λp q z=>⟨z.1,I _ _ z.2.1,z.2.2⟩,D,U,J,k _ _ (.inl rfl) e,c⟩|set S n=>obtain⟨D,U,J,t,e,c⟩:=x;show⟨D,U,J,t,k _ _ (.inl rfl) e,c⟩|ins C N E=>obtain⟨d,z,L,e,Y,⟨Z,U,J,B,c⟩,r⟩:_:=x;show⟨G _ d,z,L,k _ _ (.inl rfl) e,Y,⟨Z,U,J,k _ _ (.inr d) B,c⟩,r⟩|own y=>obtain⟨D,e⟩:=x;show⟨D,k _ _ (.inl rfl) e⟩|xd E=>obtain⟨Y,⟨Z,U,J,e,c⟩,r⟩:=x;show⟨Y,⟨Z,U,J,k _ _ (.inl rfl) e,c⟩,r⟩|rng Q O=>obtain⟨t,u,v,e⟩:=x;show⟨t,u,v,k _ _ (.inl rfl) e⟩|frz D u K=>obtain⟨e,q⟩:=x;show⟨k _ _ (.inl rfl) e,K q⟩|tbl R=>have e:=x;show k a _ (.inl rfl) e|met f y=>have e:=x;show k a _ (.inl rfl) e|ext T=>obtain⟨p,⟨o,e⟩,A⟩:=x;show⟨A _ _ p λo q=>k _ _ (.inl rfl) q,⟨o,k _ _ (.inl rfl) e⟩,A⟩
theorem DG.lt(x:DG P w H h)(e:H a=AA o):a<h.objs.size:=(x a o e).lt
theorem DG.bw(x:DG P w H h)(e:h.objs.size<=a):H a=AF:=by cases q:H a with|none=>rfl|some u=>show absurd (Bc (x.lt q) e) (HW _)
theorem DG.ip(x:DG P w H h)(k:∀b u,h.get? b=AA u->D.get? b=AA u):DG P w H D:=λa o e=>(x a o e).ve (λb u _ q=>k b u q) (λ_ q=>q) λ_ _ q=>q
theorem DG.nu(x:DG P w H h)(k:∀b u,h.get? b=AA u->J.get? b=AA u)(W:h.objs.size<=a)(D:DL P w (AO H a o) J a o):DG P w (AO H a o) J:=λb u e=>by
 have V:=x.bw W;by_cases U:b=a;.subst U;rw[Ac]at e;cases e;show D
 . rw[AW U]at e;show(x b u e).ve (λc v _ q=>k c v q) (λc q=>by rw[AW (BE q V)];show q) λc Y q=>by rw[AW (BE q V)];show q
def Fs(H:AI)(a:AD)(u:Bg):Prop:=H a=AA u\/∃o,H a=AA (.frz o u)
theorem Fs.ok(r:Fs H a u)(x:DG P w H h):DL P w H h a u:=by
 rcases r with r|⟨o,r⟩;.show x a u r
 . obtain⟨_,q⟩:=x a _ r;show q
def PC:Option Bg->Prop|AA (.lst _)=>True|AA (.dK _)=>True|AA (.dT _)=>True|AA (.set _ _)=>True|AA (.ins _ _ _)=>True|AA (.ext _)=>True|_=>False
theorem DG.vk(K:DG P w H h)(Y:PC (H x))(E:e=x\/H e=AA (.own x))(k:∀b u,b≠e->h.get? b=AA u->A.get? b=AA u)(B:∃u,A.get? e=AA u)(C:DL P w (AO H x F) A x F):DG P w (AO H x F) A:=λb u q=>by
  have J:∀c y,H c=AA (.own y)->c≠x:=λc y r z=>by subst z;rw[r]at Y;show Y
  have U:∀c Z,H c=AA (.tup Z)->c≠x:=λc Z r z=>by subst z;rw[r]at Y;show Y
  by_cases V:b=x;.subst V;rw[Ac]at q;cases q;show C
  . rw[AW V]at q;by_cases D:b=e
    . have G:H b=AA (.own x):=by
        rcases E with z|z;.show absurd (D.trans z) V
        .rw[D];show z
      rw[q]at G;cases G;obtain⟨v,I⟩:=B;show⟨v,by rw[D];show I⟩
    . show(K b u q).ve (λc v W r=>k c v ?_ r) (λc r=>by rw[AW (J c b r)];show r) λc Z r=>by rw[AW (U c Z r)];show r
      rcases W with rfl|W;.show D
      . rintro rfl;rcases E with z|z;.show J c b W z
        .rw[W]at z;cases z;show V rfl
structure Ge(fs ex:List AD)(H H':AI)(h h':BJ):Prop where
 ae:∀b o,h.get? b=AA o->H b=AF->b∉fs->b∉ex->h'.get? b=AA o
 qv:∀b o,h.get? b=AA o->H b=AF->b∈fs->b∉ex->∃sl,h'.get? b=AA {o with slots:=sl}au:∀b o,h.get? b=AA o->H b=AF->b∉ex->H' b=AF
 cq:∀b o,h.get? b=AA o->b∉ex->∃o',h'.get? b=AA o'
 ri:∀b xs,H b=AA (.tup xs)->H' b=AA (.tup xs)ng:∀b o u,H b=AA (.frz o u)->H' b=AA (.frz o u)rh:∀b ps,H b=AA (.tbl ps)->∃more,H' b=AA (.tbl (ps++more))
theorem Ge.acq(u:Ge U ex H Y h V)(q:h.get? b=AA ob)(n:H b=AF)(J:b∉ex):∃W,V.get? b=AA {ob with slots:=W}:=by
 by_cases D:b∈U;.show u.qv b ob q n D J
 .show⟨_,u.ae b ob q n D J⟩
theorem RN(k:∀b u,h.get? b=AA u->J.get? b=AA u):Ge U ex H H h J:=⟨λb D q _ _ _=>k b D q,λb D q _ _ _=>⟨_,k b D q⟩,λ_ _ _ n _=>n,λb D q _=>⟨D,k b D q⟩,λ_ _ q=>q,λ_ _ _ q=>q,λ_ V q=>⟨#[],by rw[q];simp⟩⟩
theorem sL:Ge D ex H H h h:=RN λ_ _ q=>q
theorem sJ(k:∀b u,h.get? b=AA u->J.get? b=AA u)(U:h.objs.size<=a)(D:H a=AF):Ge W ex H (AO H a o) h J where
 ae:=λb u q _ _ _=>k b u q
 qv:=λb u q _ _ _=>⟨_,k b u q⟩
 au:=λb u q n _=>by rw[AW (Dz (Bc (CS q) U))];show n
 cq:=λb u q _=>⟨u,k b u q⟩
 ri:=λb V q=>by rw[AW (BE q D)];show q
 ng:=λb u V q=>by rw[AW (BE q D)];show q
 rh:=λb Y q=>⟨#[],by rw[AW (BE q D),q];simp⟩
theorem sN(J:PC (H x))(A:e=x\/H e=AA (.own x))(k:∀b u,b≠e->h.get? b=AA u->W.get? b=AA u)(U:∃u,W.get? e=AA u):Ge E ex H (AO H x o) h W:=by
 have Z:∀b,H b=AF->b≠x:=λb n z=>by subst z;rw[n]at J;show J
 have Y:∀b,H b=AF->b≠e:=λb n z=>by
  subst z;rcases A with r|r;.show Z b n r
  .rw[n]at r;cases r
 have V:∀b u,H b=AA u->¬PC (AA u)->b≠x:=λb u q B z=>by subst z;rw[q]at J;show B J
 show⟨λb u q n _ _=>k b u (Y b n) q,λb u q n _ _=>⟨_,k b u (Y b n) q⟩,λb u q n _=>by rw[AW (Z b n)];show n,λb u q _=>?_,λb C q=>by rw[AW (V b _ q λz=>z)];show q,λb u C q=>by rw[AW (V b _ q λz=>z)];show q,λb F q=>⟨#[],by rw[AW (V b _ q λz=>z),q];simp⟩⟩;by_cases D:b=e;.subst D;show U
 .show⟨u,k b u D q⟩
noncomputable def bC(h:BJ)(H:AI):List AD:=(Eb h.objs.size).filter λa=>(H a).isSome
noncomputable def Nx(h:BJ)(H:AI):BJ:=AD4 h (bC h H)
theorem uE(h:BJ)(H:AI):(Nx h H).objs.size=h.objs.size:=W.hideAll_size _ _
theorem uD(e:h.get? b=AA o)(n:H b=AF):(Nx h H).get? b=AA o:=AD5 _ e λD=>by have q:=(Dx.mp D).2;rw[n]at q;simp at q
theorem vV(e:(Nx h H).get? b=AA o):h.get? b=AA o/\H b=AF:=by have D:=AEE _ e;show⟨D,?_⟩;cases q:H b with|none=>rfl|some x=>have J:b∈bC h H:=Dx.mpr ⟨Vh.mpr (CS D),by simp[q]⟩;have z:(Nx h H).get? b=AF:=W.hideAll_none _ J;rw[z]at e;cases e
structure RG(K:Aq)(mg:AG->Option AK)(base:BJ):Prop where
 abx:K.In base
 va:base.Ns LR mg
 abl:∃mb,base.Ns ABN mb/\∀x:AG,x≠"__name__"->mb x=QH x
 abi:base.NoLimit
structure Be where
 ai:CN
 w:Bu
 K:Aq
 mg:AG->Option AK
 ag:BJ
 A:Ck
 N:List AG
 s₀:AV
 H₀:AI
 af:Dl
 kx:List Dl
 cg:List Dl
 ex:List AD
 fn:AG->Bool
 ic:Bool
 pn:List (AD×BC)xe:AK->AV->Prop
noncomputable def DU(l:List Dl):List AD:=l.filterMap (·.frame)
noncomputable abbrev Be.fs(X:Be):List AD:=DU X.kx
def RP(D:Fj)(x:AG):Prop:=D.names.lookup x=AA .local\/D.names.lookup x=AA .cell\/D.names.lookup x=AA .free
def K0(D:Fj)(x:AG):Prop:=D.names.lookup x=AA .local\/D.names.lookup x=AA .cell
def sA(env:Dl)(h:BJ)(m:AG->Option AK)(x:AG)(u:AK):Prop:=(env.kindOf x=AA .local/\m x=AA u)\/((env.kindOf x=AA .cell\/env.kindOf x=AA .free)/\Ft (λc=>env.cells.lookup x=AA c) (λc=>h.IsCell c (AA u)))
structure Be.Ok(X:Be):Prop where
 uk:RG X.K X.mg X.ag
 jf:X.af.scope.kind=.function
 va:X.af.globals=LR
 abl:X.af.builtins=ABN
 jg:X.s₀.heap.objs.size<=X.af.locals
 abc:∀x y c,X.af.cells.lookup x=AA c->X.af.cells.lookup y=AA c->x=y
 abw:∀x,(X.af.kindOf x=AA .cell\/X.af.kindOf x=AA .free)->∃c,X.af.cells.lookup x=AA c
 abt:∀x c,X.fn x=AJ->X.af.cells.lookup x=AA c->X.s₀.heap.objs.size<=c
 hd:X.ic=AJ->X.A.handled=AF
 il:X.A.frames=AA X.cg
 aco:X.cg=X.kx\/(X.cg=X.af::X.kx/\X.af.frame=AA X.af.locals)acy:∀b∈X.ex,b≠X.af.locals/\∀x c,X.af.cells.lookup x=AA c->c≠b
 bs:∀b o,X.ag.get? b=AA o->X.s₀.heap.get? b=AA o/\X.H₀ b=AF
 aam:X.ag.objs.size<=X.s₀.heap.objs.size
 yy:∀b o,X.ag.get? b=AA o->b∉X.ex
 yo:∀b∈X.ex,b∉X.fs
 nh:X.s₀.heap.FunFrames X.ag X.kx
 abb:∀b∈X.fs,X.H₀ b=AF
structure Aa(X:Be)(pins:List (AD×BC))(σ:List (Option AE))(H:AI)(s:AV):Prop where
 ok:X.Ok
 os:s.os=X.s₀.os
 iu:MJ s.gens
 ag:Ge X.fs X.ex X.H₀ H X.s₀.heap s.heap
 vo:∃m,s.heap.Ns X.af.locals m/\∀(i:Nat)(x:AG)(v:AE),X.N[i]?=AA x->σ[i]?=AA (AA v)->RP X.af.scope x->∃u,Bn v u/\sA X.af s.heap m x u
 ma:∀x c,X.af.cells.lookup x=AA c->∃v,s.heap.IsCell c v
 au:H X.af.locals=AF
 ik:∀x c,X.af.cells.lookup x=AA c->H c=AF
 qx:∀p∈X.pn++pins,s.heap.get? p.1=AA p.2/\H p.1=AF/\p.1≠X.af.locals/\p.1∉X.fs/\∀v,p.2.data≠.cell v
 cp:DG X.ai X.w H s.heap
 dh:σ.length=X.N.length
theorem Be.Ok.aef{X:Be}(J:X.Ok)(e:X.ag.get? b=AA o):b∉X.fs:=λD=>by have:=(J.nh.mem D).1;rw[e]at this;cases this
theorem Aa.bs(I:Aa X D J H s):∀b o,X.ag.get? b=AA o->s.heap.get? b=AA o/\H b=AF:=λb o e=>⟨I.ag.ae b o (I.ok.bs b o e).1 (I.ok.bs b o e).2 (I.ok.aef e) (I.ok.yy b o e),I.ag.au b o (I.ok.bs b o e).1 (I.ok.bs b o e).2 (I.ok.yy b o e)⟩
theorem Aa.bk(I:Aa X D J H s):∀b o,X.ag.get? b=AA o->s.heap.get? b=AA o:=λb o e=>(I.bs b o e).1
theorem Aa.uk(I:Aa X D J H s):RG X.K X.mg X.ag:=I.ok.uk
theorem Aa.nq(I:Aa X D J H s):X.K.In s.heap:=I.ok.uk.abx.keeps I.bk
theorem Aa.lt(I:Aa X D U H s):X.af.locals<s.heap.objs.size:=let⟨_,J,_⟩:=I.vo;J.lt
theorem Aa.sz(I:Aa X D J H s):X.s₀.heap.objs.size<=s.heap.objs.size:=Ak I.ok.jg (B7 I.lt)
theorem Aa.aeg(I:Aa X D V H s)(h:s.heap.objs.size<=a):a∉X.fs:=λJ=>by obtain⟨_,o,U,_⟩:_:=I.ok.nh.mem J;show absurd (Bc (CS U) (Ak I.sz h)) (HW _)
theorem Aa.adt(I:Aa X W B H s):∀x c,X.af.cells.lookup x=AA c->c≠X.af.locals:=λx c e z=>by lk;obtain⟨v,o,V,U⟩:=I.ma x c e;obtain⟨m,⟨A,Z,Y,J,D,_⟩,_⟩:=I.vo;k_in;rw[z,J]at V;cases V;rw[D]at U;cases U
theorem Aa.nh(I:Aa X Y N H s):s.heap.FunFrames X.ag X.kx:=by
 have D:∀(l:List _),(∀b∈DU l,b∈X.fs)->X.s₀.heap.FunFrames X.ag l->s.heap.FunFrames X.ag l:=by intro l;induction l with |nil=>intro _ _;trivial|cons Z r K=> intro W C;obtain⟨B,⟨L,o,V,E,F,A⟩,G⟩:=C;have J:=W L (by unfold DU;rw[Ve,V];show DO);obtain⟨M,e⟩:=I.ag.qv L o F (I.ok.abb L J) J λz=>I.ok.yo L z J;show⟨B,⟨L,_,V,E,e,A⟩,K (λb U=>W b (by unfold DU;rw[Ve,V];show Ek _ U)) G⟩
 show D _ (λ_ U=>U) I.ok.nh
theorem Aa.cg(I:Aa X D V H s):s.heap.FunFrames X.ag X.cg:=by
 rcases I.ok.aco with e|⟨e,J⟩;.rw[e];show I.nh
 . rw[e];obtain⟨m,U,_⟩:_:=I.vo;show .cons (by rw[I.ok.jf];decide) J U ?_ I.nh;show ADi (Ak I.ok.aam I.ok.jg)
theorem Aa.wy(I:Aa X J V H s):∀b∈DU X.cg,b∈X.af.locals::X.fs:=λb D=>by
 rcases I.ok.aco with e|⟨e,U⟩;.rw[e]at D;show Ek _ D
 . rw[e]at D;unfold DU at D;rw[Ve,U]at D;show D
theorem Aa.wx(I:Aa X J V H s):∀b∈DU X.cg,H b=AF:=λb D=>by
 rcases CJ.mp (I.wy b D)with e|D;.rw[e];show I.au
 . obtain⟨_,o,U,_⟩:_:=I.ok.nh.mem D;show I.ag.au b o U (I.ok.abb b D) λz=>I.ok.yo b z D
theorem Aa.jx{X:Be}{B:List (AD×BC)}{σ:List (Option AE)}{H H':AI}{G:BJ}{g:Array GenState}{t':Nat}{y:Drawn}{ch:List AD}(I:Aa X B σ H s)(V:∀b∈ch,(b∈X.ex\/X.s₀.heap.objs.size<=b)/\b≠X.af.locals/\(∀x c,X.af.cells.lookup x=AA c->c≠b)/\∀p∈X.pn++B,p.1≠b)(W:∀b o,b≠X.af.locals->b∉X.fs->b∉ch->s.heap.get? b=AA o->H b=AF->G.get? b=AA o)(C:∀b o,b≠X.af.locals->b∈X.fs->b∉ch->s.heap.get? b=AA o->H b=AF->∃a,G.get? b=AA {o with slots:=a})(J:∀b o,b∉ch->s.heap.get? b=AA o->H b=AF->H' b=AF)(F:∀b o,b∉ch->s.heap.get? b=AA o->∃P,G.get? b=AA P)(R:∀b xs,H b=AA (.tup xs)->H' b=AA (.tup xs))(M:∀b o u,H b=AA (.frz o u)->H' b=AA (.frz o u))(Q:∀b ps,H b=AA (.tbl ps)->∃N,H' b=AA (.tbl (ps++N)))(ns:∀m,s.heap.Ns X.af.locals m->G.Ns X.af.locals m)(T:DG X.ai X.w H' G)(hg:MJ g):Aa X B σ H' {s with heap:=G,gens:=g,drawn:=y,toks:=t'}:=by
  have O:∀b o,X.s₀.heap.get? b=AA o->b≠X.af.locals:=λb o e=>Dz (Bc (CS e) I.ok.jg);have A:∀b o,X.s₀.heap.get? b=AA o->b∉X.ex->b∉ch:=λb o e D E=>by
    rcases(V b E).1 with z|z;.show D z
    .show absurd (Bc (CS e) z) (HW _)
  have U:∀x c,X.af.cells.lookup x=AA c->∀v,s.heap.IsCell c v->G.IsCell c v:=λx c e v⟨o,K,S⟩=>by
    have Y:=λz=>(V c z).2.2.1 x c e rfl;by_cases h:c∈X.fs
    . obtain⟨a,q⟩:=C c o (I.adt x c e) h Y K (I.ik x c e);show⟨_,q,S⟩
    .show⟨o,W c o (I.adt x c e) h Y K (I.ik x c e),S⟩
  show⟨I.ok,I.os,hg,⟨λb o e n E D=>?_,λb o e n E D=>?_,λb o e n D=>?_,λb o e D=>?_,λb xs e=>R b xs (I.ag.ri b xs e),λb o xs e=>M b o xs (I.ag.ng b o xs e),λb ps e=>?_⟩,?_,λx c e=>?_,?_,λx c e=>?_,λp j=>?_,T,I.dh⟩;.show W b o (O b o e) E (A b o e D) (I.ag.ae b o e n E D) (I.ag.au b o e n D)
  . lk;obtain⟨a,Z⟩:=I.ag.qv b o e n E D;obtain⟨f,L⟩:=C b _ (O b o e) E (A b o e D) Z (I.ag.au b o e n D);k_in;show⟨f,L⟩
  . obtain⟨P,Z⟩:=I.ag.cq b o e D;show J b P (A b o e D) Z (I.ag.au b o e n D)
  . obtain⟨P,Z⟩:=I.ag.cq b o e D;show F b P (A b o e D) Z
  . lk;obtain⟨m1,Z⟩:=I.ag.rh b ps e;obtain⟨m2,L⟩:=Q b _ Z;k_in;show⟨_,by rw[L,Array.append_assoc]⟩
  . obtain⟨m,hn,hl⟩:_:=I.vo;show⟨m,ns m hn,λi x v Z L e3=>?_⟩;obtain⟨u,r,l⟩:_:=hl i x v Z L e3;show⟨u,r,?_⟩;rcases l with l|⟨k,c,e,z⟩;.show .inl l
    .show .inr ⟨k,c,e,U x c e _ z⟩
  . obtain⟨v,z⟩:=I.ma x c e;show⟨v,U x c e v z⟩
  . obtain⟨m,⟨o,_,_,K,_⟩,_⟩:_:=I.vo;show J _ o (λz=>(V _ z).2.1 rfl) K I.au
  . obtain⟨v,o,K,S⟩:_:=I.ma x c e;show J c o (λz=>(V c z).2.2.1 x c e rfl) K (I.ik x c e)
  . obtain⟨e,n,t,w,d⟩:_:=I.qx p j;have Y:=λz=>(V _ z).2.2.2 p j rfl;show⟨W _ _ t w Y e n,J _ _ Y e n,t,w,d⟩
theorem Aa.un(I:Aa X J F H s)(u:Ge X.fs [] H H' s.heap Z)(Y:DG X.ai X.w H' Z):Aa X J F H' {s with heap:=Z,toks:=t'}:=by lk;obtain⟨m,⟨o,K,G,A,r⟩,_⟩:=id I.vo;obtain⟨N,B⟩:=u.acq A I.au (by simp);k_in;show I.jx (ch:=[]) (λ_ z=>nomatch z) (λb o _ W _ e n=>u.ae b o e n W (by simp)) (λb o _ W _ e n=>u.qv b o e n W (by simp)) (λb o _ e n=>u.au b o e n (by simp)) (λb o _ e=>u.cq b o e (by simp)) u.ri u.ng u.rh (λL C=>by obtain⟨M,V,U,D,E⟩:_:=C;rw[A]at D;cases D;show⟨_,V,U,B,E⟩) Y I.iu
theorem Aa.acu(I:Aa X D N H s)(u:Ge (DU X.cg) ch H H' s.heap C)(A:DG X.ai X.w H' C)(K:MJ B)(U:∀b∈ch,(b∈X.ex\/X.s₀.heap.objs.size<=b)/\b≠X.af.locals/\(∀x c,X.af.cells.lookup x=AA c->c≠b)/\∀p∈X.pn++D,p.1≠b):Aa X D N H' {s with heap:=C,gens:=B,drawn:=F,toks:=t'}:=by lk;obtain⟨m,⟨o,P,O,E,r⟩,_⟩:=id I.vo;obtain⟨S,Z⟩:=u.acq E I.au λz=>(U _ z).2.1 rfl;k_in;show I.jx U (λb o Z G J e n=>u.ae b o e n (λz=>(CJ.mp (I.wy b z)).elim Z G) J) (λb o _ _ J e n=>u.acq e n J) (λb o J e n=>u.au b o e n J) (λb o J e=>u.cq b o e J) u.ri u.ng u.rh (λQ L=>by obtain⟨R,Y,W,V,M⟩:_:=L;rw[E]at V;cases V;show⟨_,Y,W,Z,M⟩) A K
theorem Aa.fw(I:Aa X D L H s)(k:∀b o,b≠it->s.heap.get? b=AA o->Z.get? b=AA o)(G:H it=AF)(V:it≠X.af.locals)(A:it∈X.ex\/X.s₀.heap.objs.size<=it)(B:∀x c,X.af.cells.lookup x=AA c->c≠it)(C:∀p∈X.pn++D,p.1≠it):Aa X D L H {s with heap:=Z,toks:=t'}:=by
  have U:∀b u,H b=AA u->b≠it:=λb u e z=>by rw[z,G]at e;cases e
  show I.jx (ch:=[it]) (λb E=>?_) (λb o _ _ J e _=>k b o (λz=>J (by simp[z])) e) (λb o _ _ J e _=>⟨_,k b o (λz=>J (by simp[z])) e⟩) (λ_ _ _ _ n=>n) (λb o J e=>⟨o,k b o (λz=>J (by simp[z])) e⟩) (λ_ _ e=>e) (λ_ _ _ e=>e) (λb M e=>⟨#[],by rw[e];simp⟩) (λm F=>?_) (λb u e=>?_) I.iu
  . have e:=by simpa using E
    subst e;show⟨A,V,B,C⟩
  . obtain⟨o,Y,W,K,r⟩:_:=F;show⟨o,Y,W,k _ o (El V) K,r⟩
  . show(I.cp b u e).ve (λc v J q=>k c v ?_ q) (λ_ q=>q) λ_ _ q=>q;rcases J with z|z;.rw[z];show U b u e
    .show U c _ z
theorem Aa.ig(I:Aa X D J H s)(t:Nat):Aa X D J H {s with toks:=t}:=I.un sL I.cp
theorem Aa.ip(I:Aa X D U H s)(k:∀b u,s.heap.get? b=AA u->J.get? b=AA u):Aa X D U H {s with heap:=J,toks:=t'}:=I.un (RN k) (I.cp.ip k)
theorem Aa.nu(I:Aa X D W H s)(k:∀b u,s.heap.get? b=AA u->V.get? b=AA u)(J:s.heap.objs.size<=a)(U:DL X.ai X.w (AO H a o) V a o):Aa X D W (AO H a o) {s with heap:=V,toks:=t'}:=I.un (sJ k J (I.cp.bw J)) (I.cp.nu k J U)
theorem Aa.vk(I:Aa X J Z H s)(Y:PC (H x))(W:e=x\/H e=AA (.own x))(k:∀b u,b≠e->s.heap.get? b=AA u->U.get? b=AA u)(D:∃u,U.get? e=AA u)(V:DL X.ai X.w (AO H x o) U x o):Aa X J Z (AO H x o) {s with heap:=U,toks:=t'}:=I.un (sN Y W k D) (I.cp.vk Y W k D V)
theorem Aa.jl(I:Aa X J V H s)(h:∀p∈D,s.heap.get? p.1=AA p.2/\H p.1=AF/\p.1≠X.af.locals/\p.1∉X.fs/\∀v,p.2.data≠.cell v):Aa X D V H s:=⟨I.ok,I.os,I.iu,I.ag,I.vo,I.ma,I.au,I.ik,λp U=>(DN.mp U).elim (λz=>I.qx p (HU _ z)) (h p),I.cp,I.dh⟩
theorem U3{N:List AG}(U:N.Nodup){i j:Nat}{x:AG}(a:N[i]?=AA x)(b:N[j]?=AA x):i=j:=by lk;obtain⟨V,D⟩:=BV.mp a;obtain⟨W,J⟩:=BV.mp b;k_in;show(bR U).mp (D.trans J.symm)
theorem aP(I:Aa X g σ H s)(hN:X.N.Nodup)(hi:X.N[i]?=AA x)(Y:K0 X.af.scope x)(r:Bn v u)(h:∀s',Aa X g (σ.set i (AA v)) H s'->(∃a,V4 a s.heap s'.heap/\(a=X.af.locals\/X.af.cells.lookup x=AA a))->Q () s')(hf:X.fn x=AJ\/X.af.scope.names.lookup x=AA .local:=by first|show .inl rfl|show .inr rfl|assumption):As M A (storeName X.af x u) Q E s:=by
  obtain⟨m,hn,hl⟩:_:=id I.vo;have S:(X.af.scope.kind==.class||(X.af.scope.kind==.module&&X.af.locals !=X.af.globals))=AQ:=by rw[I.ok.jf];rfl
  have C:i<σ.length:=by rw[I.dh];show(BV.mp hi).1
  have G:=I.adt;have U:∀{a:AD}{O:BJ},(∃o,s.heap.get? a=AA o/\H a=AF)->V4 a _ O->DG _ X.w H O:=λ{a O}ha D b ob e=>by
    obtain⟨_,_,Z⟩:=ha;show(I.cp b ob e).ve (λc w W q=>(D.2 c ?_).trans q) (λ_ q=>q) λ_ _ q=>q;rintro rfl;rcases W with rfl|W;.rw[Z]at e;cases e
    .rw[Z]at W;cases W
  rcases Y with F|F
  . show wpAny_storeName_local F hn (λO hn' D=>?_) S;obtain⟨oL,_,_,hoL,_⟩:_:=id hn;show h _ ⟨I.ok,I.os,I.iu,⟨λb o e n K Y=>?_,λb o e n K Y=>?_,I.ag.au,λb o e Y=>?_,I.ag.ri,I.ag.ng,I.ag.rh⟩,⟨_,hn',λj y v' J B e3=>?_⟩,λy c e=>?_,I.au,I.ik,λp hp=>?_,U ⟨oL,hoL,I.au⟩ D,by simpa using I.dh⟩ ⟨_,D,.inl rfl⟩;.show(D.2 b (Dz (Bc (CS e) I.ok.jg))).trans (I.ag.ae b o e n K Y)
    . obtain⟨sl,J⟩:=I.ag.qv b o e n K Y;show⟨sl,(D.2 b (Dz (Bc (CS e) I.ok.jg))).trans J⟩
    . obtain⟨o',J⟩:=I.ag.cq b o e Y;show⟨o',(D.2 b (Dz (Bc (CS e) I.ok.jg))).trans J⟩
    . by_cases N:j=i
      . subst N;rw[hi]at J;cases J;rw[AAI C]at B;cases B;show⟨u,r,.inl ⟨F,by simp⟩⟩
      . rw[AAH (El N)]at B;obtain⟨u',r',q⟩:_:=hl j y v' J B e3;show⟨u',r',?_⟩;rcases q with⟨k,e⟩|⟨k,c,e,z⟩
        . show .inl ⟨k,?_⟩;have:y≠x:=λe=>N (U3 hN J (e▸hi));simp[this,e]
        .show .inr ⟨k,c,e,z.sameBut D (G y c e)⟩
    . obtain⟨w,z⟩:=I.ma y c e;show⟨w,z.sameBut D (G y c e)⟩
    . obtain⟨e,n,t,nf,d⟩:_:=I.qx p hp;show⟨(D.2 p.1 t).trans e,n,t,nf,d⟩
  . have L:X.fn x=AJ:=by
      rcases hf with z|z;.show z
      .rw[z]at F;cases F
    lk;obtain⟨c,W⟩:=I.ok.abw x (.inl F);obtain⟨w,z⟩:=I.ma x c W;k_in;show wpAny_storeName_cell I.ok.jf F W z (λO P D=>?_);obtain⟨oc,T,f⟩:_:=id z;show h _ ⟨I.ok,I.os,I.iu,⟨λb o e n K Y=>?_,λb o e n K Y=>?_,I.ag.au,λb o e Y=>?_,I.ag.ri,I.ag.ng,I.ag.rh⟩,⟨m,hn.sameBut D (El (G x c W)),λj y v' J B e3=>?_⟩,λy l e=>?_,I.au,I.ik,λp hp=>?_,U ⟨oc,T,I.ik x c W⟩ D,by simpa using I.dh⟩ ⟨c,D,.inr W⟩;.show(D.2 b (Dz (Bc (CS e) (I.ok.abt x c L W)))).trans (I.ag.ae b o e n K Y)
    . obtain⟨sl,J⟩:=I.ag.qv b o e n K Y;show⟨sl,(D.2 b (Dz (Bc (CS e) (I.ok.abt x c L W)))).trans J⟩
    . obtain⟨o',J⟩:=I.ag.cq b o e Y;show⟨o',(D.2 b (Dz (Bc (CS e) (I.ok.abt x c L W)))).trans J⟩
    . by_cases N:j=i
      . subst N;rw[hi]at J;cases J;rw[AAI C]at B;cases B;show⟨u,r,.inr ⟨.inl F,c,W,P⟩⟩
      . rw[AAH (El N)]at B;obtain⟨u',r',q⟩:_:=hl j y v' J B e3;show⟨u',r',?_⟩;rcases q with q|⟨k,l,e,z'⟩;.show .inl q
        . show .inr ⟨k,l,e,z'.sameBut D ?_⟩;rintro rfl;show N (U3 hN J (I.ok.abc _ _ _ e W▸hi))
    . by_cases R:l=c;.subst R;show⟨_,P⟩
      . obtain⟨w2,z2⟩:=I.ma y l e;show⟨w2,z2.sameBut D R⟩
    . obtain⟨e,n,t,nf,d⟩:_:=I.qx p hp;show⟨(D.2 p.1 ?_).trans e,n,t,nf,d⟩;intro q;rw[q,T]at e;have q':=Bz e;show d w (by rw[<-q'];show f)
theorem VN(I:Aa X D Z H s)(U:X.N.Nodup)(hi:X.N[i]?=AA x)(Y:K0 X.af.scope x)(r:Bn v u)(h:∀s',Aa X D (Z.set i (AA v)) H s'->Q () s')(W:X.fn x=AJ\/X.af.scope.names.lookup x=AA .local:=by first|show .inl rfl|show .inr rfl|assumption):As M A (storeName X.af x u) Q E s:=aP I U hi Y r (λs' J _=>h s' J) W
theorem Aa.xk(I:Aa X D Y H s)(W:s'.os=s.os)(u:Ge (DU X.cg) ch H H' s.heap s'.heap)(U:DG X.ai X.w H' s'.heap)(V:MJ s'.gens)(J:∀b∈ch,(b∈X.ex\/X.s₀.heap.objs.size<=b)/\b≠X.af.locals/\(∀x c,X.af.cells.lookup x=AA c->c≠b)/\∀p∈X.pn++D,p.1≠b):Aa X D Y H' s':=by obtain⟨A,z,Z,C,B⟩:_:=s';have e:=W;subst e;show I.acu u U V J
abbrev Fu:=AK->Option AD->AI->Prop
abbrev Ai:=List (Option AE)
abbrev Bh:=AE->AI->Prop
abbrev Az:=Ai->AI->Bh->Prop
abbrev DT:=Ai->AI->(Bool->AI->Prop)->Prop
abbrev Fc:=Ai->AI->(List AE->AI->Prop)->Prop
structure Gv where
 nx:Ai->AI->Prop
 rt:Bh
 bk:Ai->AI->Prop:=λ_ _=>False
 ct:Ai->AI->Prop:=λ_ _=>False
abbrev Cw:=Gv->Ai->AI->Prop
def FZ(X:Be)(D:List (AD×BC))(U:Ai)(Q:Bh)(u:AK)(s':AV):Prop:=FD (λv J=>Aa X D U J s') (λv _=>Bn v u) (λv J=>Q v J)
def UW(X:Be)(D:List (AD×BC))(U:Ai)(Q:Bool->AI->Prop)(b:Bool)(s':AV):Prop:=Ft (λJ=>Aa X D U J s') (λJ=>Q b J)
def rW(X:Be)(D:List (AD×BC))(Y:Ai)(Q:List AE->AI->Prop)(W:List AK)(s':AV):Prop:=FD (λJ U=>Aa X D Y U s') (λJ _=>Bb J W) (λJ U=>Q J U)
set_option tactic.hygienic true in def PH(X:Be)(pins:List (AD×BC))(D:Gv)(f:Flow)(s':AV):Prop:=match f with|.next=>Lu (λJ H'=>Aa X pins J H' s') (λJ H'=>D.nx J H')|.brk=>Lu (λJ H'=>Aa X pins J H' s') (λJ H'=>D.bk J H')|.cont=>Lu (λJ H'=>Aa X pins J H' s') (λJ H'=>D.ct J H')|.ret u=>RS (λv J H'=>Aa X pins J H' s') (λv _ _=>Bn v u) (λv _ H'=>D.rt v H')
def Ao(X:Be)(e:BO)(t:Az):Prop:=∀(D:List (AD×BC))(s:AV)(J:Ai)(H:AI)(Q:Bh),Aa X D J H s->t J H Q->As (An X.ai X.w) X.A (BY e X.af) (FZ X D J Q) X.xe s
def Hx(X:Be)(e:BO)(t:DT):Prop:=∀(D:List (AD×BC))(s:AV)(J:Ai)(H:AI)(Q:Bool->AI->Prop),Aa X D J H s->t J H Q->As (An X.ai X.w) X.A (WA e X.af (BY e X.af)) (UW X D J Q) X.xe s
def Mn(X:Be)(e:BO)(t:DT):Prop:=∀(J:DP AK)(D:List (AD×BC))(s:AV)(U:Ai)(H:AI)(Q:Bool->AI->Prop),Aa X D U H s->t U H Q->As (An X.ai X.w) X.A (WA e X.af J) (UW X D U Q) X.xe s
theorem Gd(h:Mn X e t):Hx X e t:=h _
def GR(X:Be)(W:List BO)(t:Fc):Prop:=∀(J:CV)(D:List (AD×BC))(s:AV)(U:Ai)(H:AI)(Q:List AE->AI->Prop),Aa X D U H s->t U H Q->As (An X.ai X.w) X.A (spliced (FU J (CQ W X.af))) (rW X D U Q) X.xe s
def D6(X:Be)(st:Cj)(t:Cw):Prop:=∀(J:List (AD×BC))(s:AV)(U:Ai)(H:AI)(D:Gv),Aa X J U H s->t D U H->As (An X.ai X.w) X.A (exec st X.af) (PH X J D) X.xe s
def FC(X:Be)(st:List Cj)(t:Cw):Prop:=∀(J:List (AD×BC))(s:AV)(U:Ai)(H:AI)(D:Gv),Aa X J U H s->t D U H->As (An X.ai X.w) X.A (execs st X.af) (PH X J D) X.xe s
theorem A1{Q D:J->AV->Prop}(h:As M A t Q E s)(U:∀a s,Q a s->D a s):As M A t D E s:=FV h U λ_ _ x=>x
def bA(i:Nat):Az:=λD H Q=>Ft (λv=>D[i]?=AA (AA v)) (λv=>Q v H)
def Mz(v:AE):Az:=λ_ H Q=>Q v H
theorem Z1{x:AG}(z:X.N[i]?=AA x)(E:RP X.af.scope x)(V:(x==("__debug__":AG))=AQ:=by decide)(U:(x==("__classdict__":AG))=AQ:=by decide):Ao X (.Name x W) (bA i):=by
  intro Z s F H Q I h;lk;obtain⟨v,e,h⟩:=h;obtain⟨m,C,A⟩:=I.vo;obtain⟨u,r,l⟩:=A i x v z e E;k_in;have fin:FZ X _ F Q u s:=⟨v,H,I,r,h⟩;rcases l with⟨J,B⟩|⟨J,c,Y,D⟩;.show ABd (wpAny_loadName_local I.ok.jf J C B fin) V
  . rcases J with J|J;.show ABd (wpAny_loadName_cell I.ok.jf J Y D fin) V
    .show ABd (wpAny_loadName_free I.ok.jf J Y D fin U) V
theorem AM:Ao X (.Constant (.int i) j D) (Mz (.int i)):=λ_ _ _ H _ I h=>wpAny_Constant_int ⟨.int i,H,I.ig _,⟨_,rfl⟩,h⟩
theorem Dh:Ao X (.Constant (.bool b) j D) (Mz (.bl b)):=λ_ _ _ H _ I h=>Constant_bool ⟨.bl b,H,I,rfl,h⟩
theorem IB:Ao X (.Constant .none j D) (Mz .non):=λ_ _ _ H _ I h=>Constant_none ⟨.non,H,I,rfl,h⟩
theorem BZ:Ao X (.Constant (.str x) j D) (Mz (.str x)):=λ_ _ _ H _ I h=>Calls.Constant_str ⟨.str x,H,I.ig _,⟨_,rfl⟩,h⟩
def Fq(X:Be)(x:AG):Prop:=X.af.kindOf x=AA .globalImplicit
theorem Mt{x:AG}(I:Aa X D Y H s)(V:Fq X x)(W:X.mg x=AA u)(h:Q u s)(U:(x==("__debug__":AG))=AQ:=by decide):As (An X.ai X.w) X.A (BY (.Name x J) X.af) Q E s:=ADQ I.ok.jf V (Calls.loadGlobal_global (by rw[I.ok.va];show I.uk.va.keeps I.bk) W h) U
theorem KU{x:AG}(I:Aa X D B H s)(Y:Fq X x)(Z:X.mg x=AF)(A:QH x=AA u)(h:Q u s)(z:x≠"__name__":=by decide)(W:(x==("__debug__":AG))=AQ:=by decide):As (An X.ai X.w) X.A (BY (.Name x J) X.af) Q E s:=by obtain⟨C,U,V⟩:_:=I.uk.abl;show ADQ I.ok.jf Y (Calls.loadGlobal_builtin (by rw[I.ok.va];show I.uk.va.keeps I.bk) Z (by rw[I.ok.abl];show U.keeps I.bk) ((V x z).trans A) h) W
theorem JW{x:AG}(U:Fq X x)(W:X.mg x=AA u)(r:Bn v u)(J:(x==("__debug__":AG))=AQ:=by decide):Ao X (.Name x D) (Mz v):=λ_ _ _ H _ I h=>Mt I U W ⟨v,H,I,r,h⟩ J
theorem Ij{x:AG}(U:Fq X x)(W:X.mg x=AF)(Z:QH x=AA u)(r:Bn v u)(Y:x≠"__name__":=by decide)(J:(x==("__debug__":AG))=AQ:=by decide):Ao X (.Name x D) (Mz v):=λ_ _ _ H _ I h=>KU I U W Z ⟨v,H,I,r,h⟩ Y J
def yN(t:Az):DT:=λJ H Q=>t J H λx D=>Ft (λc=>x=.bl c) (λc=>Q c D)
theorem FH(h:Ao X e t)(W:∀D,WA e X.af D=(do let v<-D;standAt e.pos;holding [v] (truthy v)):=by intro _;rfl):Hx X e (yN t):=by intro J s Z H Q I hw;show isTrue_plain (A1 (h _ s Z H _ I hw) λv s1⟨x,U,V,r1,Y⟩=>?_) (W _);lk;obtain⟨d,rfl,q⟩:=Y;cases r1;k_in;show OR ⟨U,V,q⟩
def yL(t u:DT):DT:=λJ H Q=>t J H λc D=>if c=AJ then u J D Q else Q AQ D
def zC(t u:DT):DT:=λJ H Q=>t J H λc D=>if c=AJ then Q AJ D else u J D Q
def zA(t:DT):DT:=λJ H Q=>t J H λc D=>Q (!c) D
theorem Po(J:Hx X a V):Mn X (.BoolOp .And [a] U) V:=by intro Y D s W H Q I h;show isTrue_and (A1 (J _ s W H Q I h) λc s1 e=>?_);cases c with|true=>show isTrue_and_nil e|false=>show e
theorem JZ(J:Hx X a V):Mn X (.BoolOp .Or [a] U) V:=by intro Y D s W H Q I h;show isTrue_or (A1 (J _ s W H Q I h) λc s1 e=>?_);cases c with|false=>show isTrue_or_nil e|true=>show e
theorem Pn(B:Hx X a E)(C:Mn X (.BoolOp .And (b::J) U) V):Mn X (.BoolOp .And (a::b::J) U) (yL E V):=by intro F Z s A H Q I h;show isTrue_and (A1 (B _ s A H _ I h) λc s1 D=>?_);obtain⟨W,Y,z⟩:_:=D;cases c with|true=>show C F _ s1 A W Q Y z|false=>show⟨W,Y,z⟩
theorem Fx(B:Hx X a E)(C:Mn X (.BoolOp .Or (b::J) U) V):Mn X (.BoolOp .Or (a::b::J) U) (zC E V):=by intro F Z s A H Q I h;show isTrue_or (A1 (B _ s A H _ I h) λc s1 D=>?_);obtain⟨W,Y,z⟩:_:=D;cases c with|true=>show⟨W,Y,z⟩|false=>show C F _ s1 A W Q Y z
theorem Fw(J:Hx X a V):Hx X (.UnaryOp .Not a U) (zA V):=by intro D s W H Q I h;show isTrue_not (J _ s W H _ I h)
def yM(U V:Az):Az:=λJ H Q=>U J H λx D=>Ft (λc=>x=.bl c) (λc=>if c=AJ then V J D Q else Q (.bl AQ) D)
def zD(U V:Az):Az:=λJ H Q=>U J H λx D=>Ft (λc=>x=.bl c) (λc=>if c=AJ then Q (.bl AJ) D else V J D Q)
def zB(J:Az):Az:=λU H Q=>J U H λx D=>Ft (λc=>x=.bl c) (λc=>Q (.bl (!c)) D)
theorem KW(h:Ao X a t):Ao X (.BoolOp op [a] J) t:=λD s U H Q I hw=>BoolOp_one (h _ s U H Q I hw)
theorem JU(A:Ao X a C)(B:Ao X (.BoolOp .And (b::J) V) E):Ao X (.BoolOp .And (a::b::J) V) (yM C E):=by intro Z s z H Q I h;show BoolOp_and (A1 (A _ s z H _ I h) λv s1 D=>?_);lk;obtain⟨x,W,Y,r1,U⟩:=D;obtain⟨c,rfl,U⟩:=U;cases r1;k_in;show OR ?_;cases c with|true=>show B _ s1 z W Q Y U|false=>show⟨.bl _,W,Y,rfl,U⟩
theorem wQ(z:Ao X a B)(A:Ao X (.BoolOp .Or (b::J) V) C):Ao X (.BoolOp .Or (a::b::J) V) (zD B C):=by intro D s Z H Q I h;show BoolOp_or (A1 (z D s Z H _ I h) λv s1⟨x,W,Y,r1,U⟩=>?_);lk;obtain⟨c,rfl,U⟩:=U;cases r1;k_in;show OR ?_;cases c with|false=>show A D s1 Z W Q Y U|true=>show⟨.bl AJ,W,Y,rfl,U⟩
theorem Ru(Y:Ao X a z):Ao X (.UnaryOp .Not a Z) (zB z):=by intro U s A H Q I h;show UnaryOp_ (A1 (Y _ s A H _ I h) λv s1 D=>?_);lk;obtain⟨x,V,W,r1,J⟩:=D;obtain⟨c,rfl,J⟩:=J;cases r1;k_in;show not_of (OR ⟨.bl _,V,W,rfl,J⟩)
def yY(t:DT)(U V:Az):Az:=λD H Q=>t D H λc J=>if c=AJ then U D J Q else V D J Q
theorem Rt(A:Hx X c C)(Z:Ao X a E)(z:Ao X b F):Ao X (.IfExp c a b B) (yY C E F):=by intro W s J H Q I h;show wpAny_IfExp (A1 (A _ s J H _ I h) λd s1 D=>?_);obtain⟨U,V,Y⟩:_:=D;cases d with|true=>show Z _ s1 J U Q V Y|false=>show z _ s1 J U Q V Y
def Bx(K:Aq)(H:AI)(a:AD)(xs:List AE):Prop:=Fs H a (.lst xs)\/Yr (λ(o:BC)(D:Array AK)(n:Nat)=>K.lookup a=AA o) (λo _ _=>o.cls=.type "list") (λo _ _=>o.dict=AF) (λo D n=>o.data=.seq D n) (λ_ D _=>D.size<=Ay) (λ_ D _=>Bb xs D.toList)
def Cb(K:Aq)(H:AI)(a:AD)(xs:List AE):Prop:=Fs H a (.tup xs)\/Mo (λ(o:BC)(D:Array AK)(n:Nat)=>K.lookup a=AA o) (λo _ _=>o.cls=.type "tuple") (λo D n=>o.data=.seq D n) (λ_ D _=>D.size<=Ay) (λ_ D _=>Bb xs D.toList)
noncomputable def sO:AK->Option AE|.none=>AA .non|.bool b=>AA (.bl b)|.int i _=>AA (.int i)|.str x _=>AA (.str x)|.bytes b _=>AA (.byt b)|.float b _=>AA (.flt b)|.ref a=>AA (.ref a)|.type n=>AA (.ty n)|_=>AF
theorem Bn.aeo(r:Bn x u):sO u=AA x:=by cases x with|non=>cases r;rfl|bl _=>cases r;rfl|int _=>obtain⟨t,rfl⟩:=r;rfl|str _=>obtain⟨t,rfl⟩:=r;rfl|byt _=>obtain⟨t,rfl⟩:=r;rfl|flt _=>obtain⟨t,rfl⟩:=r;rfl|ref _=>cases r;rfl|ty _=>cases r;rfl
theorem Bn.abc(r:Bn x u)(q:Bn y u):x=y:=Bz (r.aeo.symm.trans q.aeo)
theorem Bb.abc(h:Bb xs D):Bb ys D->xs=ys:=by induction h generalizing ys with|nil=>intro g;cases g;rfl|cons r _ J=>intro g;cases g with|cons U W=>rw[r.abc U,J W]
theorem AX{K:Aq}(h:H a=AA (.lst xs)):Bx K H a xs:=.inl (.inl h)
theorem Ar{K:Aq}(h:H a=AA (.tup xs)):Cb K H a xs:=.inl (.inl h)
theorem Aa.iq(I:Aa X D Z H s)(h:Bx X.K H a xs):∃its:List AK,Bb xs its/\PlainL s.heap a its.toArray/\xs.length<=Ay:=by
 rcases h with h|⟨o,its,n,V,J,U,W,Y,r⟩
 . obtain⟨z,its,n,r,e⟩:_:=h.ok I.cp;show⟨its,r,⟨_,n,e,rfl,rfl,rfl⟩,z⟩
 . show⟨_,r,⟨o,n,I.nq a o V,J,U,by simpa using W⟩,?_⟩;have e:=r.ar;simp_all
theorem Aa.gf(I:Aa X D Y H s)(h:Cb X.K H a xs):∃its:List AK,Bb xs its/\Vt s.heap a its.toArray/\xs.length<=Ay:=by
 rcases h with h|⟨o,its,n,U,J,V,W,r⟩
 . obtain⟨z,its,r,p⟩:_:=h.ok I.cp;show⟨its,r,p,z⟩
 . show⟨_,r,⟨o,I.nq a o U,J,n,by simpa using V⟩,?_⟩;have e:=r.ar;simp_all
theorem Aa.yb(I:Aa X V C H s)(h:Bx X.K H a xs)(Y:Bx X.K H a ys):xs=ys:=by
 lk;obtain⟨Z,r,⟨o,n,e,_,_,d⟩,_⟩:=I.iq h;obtain⟨U,z,⟨B,A,J,_,_,D⟩,_⟩:=I.iq Y;k_in;rw[e]at J;cases J;rw[d]at D;injection D with W _;have:=by simpa using AFj Array.toList W
 subst this;show r.abc z
noncomputable abbrev Be.vi(X:Be)(E:AK->AV->Prop):Be:={X with xe:=E}
noncomputable abbrev Be.ack(X:Be):Be:=X.vi λ_ _=>False
theorem Be.Ok.vi{X:Be}(D:X.Ok)(E:AK->AV->Prop):(X.vi E).Ok:=⟨D.uk,D.jf,D.va,D.abl,D.jg,D.abc,D.abw,D.abt,D.hd,D.il,D.aco,D.acy,D.bs,D.aam,D.yy,D.yo,D.nh,D.abb⟩
theorem Be.Ok.jy{X:Be}(D:(X.vi E).Ok):X.Ok:=⟨D.uk,D.jf,D.va,D.abl,D.jg,D.abc,D.abw,D.abt,D.hd,D.il,D.aco,D.acy,D.bs,D.aam,D.yy,D.yo,D.nh,D.abb⟩
theorem Aa.vi(I:Aa X D J H s)(E:AK->AV->Prop):Aa (X.vi E) D J H s:=⟨I.ok.vi E,I.os,I.iu,I.ag,I.vo,I.ma,I.au,I.ik,I.qx,I.cp,I.dh⟩
theorem Aa.jy(I:Aa (X.vi E) D J H s):Aa X D J H s:=⟨I.ok.jy,I.os,I.iu,I.ag,I.vo,I.ma,I.au,I.ik,I.qx,I.cp,I.dh⟩
section
variable{X:Be}{pins:List (AD×BC)}{E:AK->AV->Prop}
set_option tactic.hygienic true in theorem PH.jy{D:Gv}{f:Flow}{s':AV}(h:PH (X.vi E) pins D f s'):PH X pins D f s':=by cases f with|next=>obtain⟨J,H',I,q⟩:=h;show⟨J,H',I.jy,q⟩|brk=>obtain⟨J,H',I,q⟩:=h;show⟨J,H',I.jy,q⟩|cont=>obtain⟨J,H',I,q⟩:=h;show⟨J,H',I.jy,q⟩|ret u=>obtain⟨v,J,H',I,r,q⟩:=h;show⟨v,J,H',I.jy,r,q⟩
end
theorem FC.ack{st:List Cj}(h:FC X.ack st t):FC X st t:=λJ s U H D I hw=>FV (h _ s U H D (I.vi _) hw) (λ_ _ q=>q.jy) λ_ _ z=>FW z
def y8:Cw:=λD J H=>D.nx J H
def R5(t u:Cw):Cw:=λD J H=>t {D with nx:=u D} J H
theorem Bs:FC X [] y8:=λ_ _ D H _ I h=>Sg ⟨D,H,I,h⟩
section
variable{X:Be}{st:Cj}{rest:List Cj}{t u:Cw}
set_option tactic.hygienic true in theorem Ag(h1:D6 X st t)(h2:FC X rest u):FC X (st::rest) (R5 t u):=by intro pins s σ H D I h;show ABg (A1 (h1 _ s σ H _ I h) λf s1 q=>?_);cases f with|next=>obtain⟨U,H',J,q⟩:_:=q;show h2 _ s1 _ H' D J q|ret v=>show q|brk=>show q|cont=>show q
end
section
variable{X:Be}{st:Cj}{t:Cw}
set_option tactic.hygienic true in theorem Ab(h1:D6 X st t):FC X [st] t:=by intro pins s σ H D I h;show ABg (A1 (h1 _ s σ H D I h) λf s1 q=>?_);cases f with|next=>show Sg q|ret v=>show q|brk=>show q|cont=>show q
end
theorem Aa.abp(I:Aa X D J H s):interactive X.af=AQ:=by simp[interactive,I.ok.jf]
def yV(V:Az):Cw:=λD J H=>V J H λ_ U=>D.nx J U
theorem FT(Z:Ao X e B)(z:MP e AF J.line X.af=Bf AQ:=by rfl):D6 X (.Expr e J) (yV B):=by intro U s V H D I h;show AEa (A1 (Z _ s V H _ I h) λv s1⟨x,W,Y,r1,A⟩=>⟨V,W,Y,A⟩) I.abp z
def zF(J:Az):Cw:=λD U H=>J U H D.rt
theorem Aw(Z:Ao X e B):D6 X (.Return (AA e) z) (zF B):=by intro U s V H D I h;show wpAny_Return_some (A1 (Z _ s V H _ I h) λv s1 J=>?_);obtain⟨x,W,Y,r1,A⟩:_:=J;show⟨x,V,W,Y,r1,A⟩
def yZ(c:DT)(t u:Cw):Cw:=λD J H=>c J H λb U=>if b=AJ then t D J U else u D J U
theorem Bi(C:Hx X c z)(A:FC X a t)(B:FC X b u):D6 X (.If c a b E) (yZ z t u):=by intro Y s U H D I h;show wpAny_If (A1 (C _ s U H _ I h) λd s1 J=>?_);obtain⟨V,W,Z⟩:_:=J;cases d with|true=>show A _ s1 U V D W Z|false=>show B _ s1 U V D W Z
abbrev Eu:=AE->Ai->AI->(Ai->AI->Prop)->Prop
abbrev Lp:=List AE->Ai->AI->(Ai->AI->Prop)->Prop
def K4(X:Be)(D:BO)(t:Eu):Prop:=∀(J:List (AD×BC))(s:AV)(Y:Ai)(H:AI)(v:AE)(u:AK)(Q:Ai->AI->Prop),Aa X J Y H s->Bn v u->t v Y H Q->As (An X.ai X.w) X.A (assign D X.af u) (λ_ Z=>Lu (λU W=>Aa X J U W Z) (λU W=>Q U W)) X.xe s
def PF(X:Be)(A:List BO)(t:Lp):Prop:=∀(D:List (AD×BC))(s:AV)(Z:Ai)(H:AI)(Y:List AE)(W:List AK)(Q:Ai->AI->Prop),Aa X D Z H s->Bb Y W->t Y Z H Q->As (An X.ai X.w) X.A (assignInOrder ((QD A X.af).map (·.2)) W) (λ_ z=>Lu (λJ U=>Aa X D J U z) (λJ U=>Q J U)) X.xe s
def Gx(i:Nat):Eu:=λv D H Q=>Q (D.set i (AA v)) H
theorem Il(U:X.N.Nodup)(hi:X.N[i]?=AA x)(W:K0 X.af.scope x)(V:X.fn x=AJ\/X.af.scope.names.lookup x=AA .local:=by first|show .inl rfl|show .inr rfl|assumption):K4 X (.Name x Y) (Gx i):=by intro D s z H v u Q I r h;show AEb (VN I U hi W r (λZ J=>⟨_,H,J,h⟩) V)
def Uo:Lp:=λD J H Q=>D=[]/\Q J H
def PX(t:Eu)(u:Lp):Lp:=λU V H Q=>Lu (λv r=>U=v::r) (λv r=>t v V H λD J=>u r D J Q)
theorem L8:PF X [] Uo:=by intro D s J H V U Q I r h;obtain⟨e,h⟩:=h;subst e;show assignInOrder_nil ⟨J,H,I,h⟩
theorem G1(Z:K4 X e t)(z:PF X J u)(A:(QD (e::J) X.af).map (·.2)=assign e X.af::(QD J X.af).map (·.2):=by rfl):PF X (e::J) (PX t u):=by intro U s E H L G Q I r h;obtain⟨v,K,Y,h⟩:_:=h;subst Y;cases r with|cons r C=>rw[A];show assignInOrder_cons (A1 (Z _ s E H _ _ _ I r h) λ_ s1 D=>?_);obtain⟨F,V,W,B⟩:_:=D;show z _ s1 _ V _ _ Q W C B
def Ra(K:Aq)(n:Nat)(t:Lp):Eu:=λv J H Q=>JQ (λa D=>v=.ref a) (λa D=>Cb K H a D) (λ_ D=>D.length=n) (λ_ D=>t D J H Q)
theorem VH(Z:X.ic=AJ)(h:PF X D t)(A:(QD D X.af).length=n:=by rfl)(J:(QD D X.af).findIdx? (·.1)=AF:=by rfl):K4 X (.Tuple D k G) (Ra X.K n t):=by intro U s L H v u Q I r hw;obtain⟨a,K,Y,B,z,hw⟩:_:=hw;subst Y;lk;cases r;obtain⟨F,V,C,N⟩:=I.gf B;k_in;show assign_Tuple_tuple (I.ok.hd Z) C (by simp[A,<-z,V.ar]) J λM E=>?_;have W:=I.ip (t':=s.toks) λb o e=>E b o (Dz (CS e)) e;show h _ _ L H K _ Q W (by simpa using V) hw
def Pw(V:Az)(g:Eu):Cw:=λD J H=>V J H λx U=>g x J U D.nx
theorem KY(A:X.N.Nodup)(hi:X.N[i]?=AA x)(F:K0 X.af.scope x)(B:Ao X e W)(E:MP e (AA (.Name x J)) U.line X.af=Bf AQ:=by rfl)(C:X.fn x=AJ\/X.af.scope.names.lookup x=AA .local:=by first|show .inl rfl|show .inr rfl|assumption):D6 X (.Assign [.Name x J] e U) (Pw W (Gx i)):=by intro V s K H D I h;show wpAny_Assign_Name (A1 (B _ s K H _ I h) λv s1⟨y,Y,Z,r1,G⟩=>?_) E;show VN Z A hi F r1 (λs2 z=>⟨_,Y,z,G⟩) C
def bB(c:DT)(z:Cw):Cw:=λD J H=>∃W:Nat->Ai->AI->Prop,(∃m,W m J H)/\∀m J H,W m J H->c J H λb Y=>if b=AJ then∃N:Ai->AI->Prop,(∀U V,N U V->∃Z,Z<m/\W Z U V)/\z {D with nx:=N,ct:=N,bk:=D.nx} J Y else D.nx J Y
section
variable{X:Be}{pos:CV}
set_option tactic.hygienic true in theorem xD{c:BO}{body:List Cj}{tc:DT}{tb:Cw}(L:PassesOwn (An X.ai X.w) X.A X.af X.xe)(Q:Hx X c tc)(P:FC X body tb):D6 X (.While c body [] pos) (bB tc tb):=by intro pins s σ H D I h;obtain⟨W,⟨R,S⟩,turn⟩:_:=h;show wpAny_While (codeAny_whileLoop (λn s'=>∃Y H',Aa X _ Y H' s'/\W n Y H') ?_ R ⟨σ,H,I,S⟩);intro n s1 O;obtain⟨F,H1,M,T⟩:_:=O;show QP L (A1 (Q _ s1 _ H1 _ M (turn n _ H1 T)) λb s2 V=>?_);obtain⟨H2,G,Z⟩:_:=V;cases b with
 |true=> obtain⟨N,K,Z⟩:_:=Z;show QP L (A1 (P _ s2 _ H2 _ G Z) λf s3 z=>?_);cases f with
  |next=> lk;obtain⟨J,U,A,C⟩:=z;obtain⟨B,hm,E⟩:=K _ U C;k_in;show⟨B,hm,J,U,A,E⟩|cont=> lk;obtain⟨J,U,A,C⟩:=z;obtain⟨B,hm,E⟩:=K _ U C;k_in;show⟨B,hm,J,U,A,E⟩|brk=>show z|ret v=>show z
 |false=>show Sg ⟨F,H2,G,Z⟩
end
structure Gb where
 go:Nat->AI->Prop
 aaz:Nat->AI->AE->AI->Prop
 vf:Nat->AI->Prop
def Jo(X:Be)(D:List (AD×BC))(H:AI)(b:AD):Prop:=H b=AF/\b≠X.af.locals/\b∉X.fs/\(b∈X.ex\/X.s₀.heap.objs.size<=b)/\(∀x c,X.af.cells.lookup x=AA c->c≠b)/\∀p∈X.pn++D,p.1≠b
theorem Aa.vn(I:Aa X D W H s)(J:s.heap.objs.size<=b)(U:H' b=AF):Jo X D H' b:=by
 show⟨U,NA (Bc I.lt J),I.aeg J,.inr (Ak I.sz J),λx c e z=>?_,λp V z=>?_⟩;. obtain⟨v,q⟩:=I.ma x c e;show absurd (Bc q.lt (by rw[z];show J)) (HW _)
 .show absurd (Bc (CS (I.qx p V).1) (by rw[z];show J)) (HW _)
structure Lq(P:CN)(w:Bu)(K:Aq)(tg:BO)(J:Gb)(fp:List AD)(it:AD)(tn:Nat->BJ->Prop):Prop where
 aca:it∈fp
 bz:∀i h,tn i h->∀b∈fp,∃o,h.get? b=AA o/\∀v,o.data≠.cell v
 ae:∀i h h',tn i h->(∀b∈fp,∀o,h.get? b=AA o->h'.get? b=AA o)->tn i h'
 wq:∀(X:Be),X.ai=P->X.w=w->X.K=K->X.ic=AJ->∀(i:Nat)(pins:List (AD×BC))(s:AV)(σ:Ai)(H:AI)(E:AK->AV->Prop),Aa X pins σ H s->(∀b∈fp,Jo X pins H b)->tn i s.heap->J.go i H->As (An P w) X.A (pyNext (.ref it)) (λr s1=>∃u,r=AA u/\As (An P w) X.A (ABW tg (.ref it) u) (λ_ s2=>∃x H',Aa X pins σ H' s2/\Bn x u/\J.aaz i H x H'/\tn (i+1) s2.heap/\∀b∈fp,H' b=AF) E s1) E s
 wk:∀(X:Be),X.ai=P->X.w=w->X.K=K->X.ic=AJ->∀(i:Nat)(pins:List (AD×BC))(s:AV)(σ:Ai)(H:AI)(E:AK->AV->Prop),Aa X pins σ H s->(∀b∈fp,Jo X pins H b)->tn i s.heap->J.vf i H->As (An P w) X.A (pyNext (.ref it)) (λr s1=>r=AF/\Aa X pins σ H s1) E s
 yg:∀(A:Ck)(i:Nat)(s:AV)(Q:AK->AV->Prop)(E:AK->AV->Prop),tn i s.heap->Q (.ref it) s->As (An P w) A (eJ (.ref it)) Q E s
abbrev GB:=Ai->AI->(Gb->AI->Prop)->Prop
def US(X:Be)(D:List (AD×BC))(A:Ai)(z:BO)(R:Gb->AI->Prop)(Z:AK)(s2:AV):Prop:=Yu (λ(Y:AD)(V:List AD)(W:Nat->BJ->Prop)(J:Gb)(U:AI)=>Z=.ref Y) (λ_ _ _ _ U=>Aa X D A U s2) (λY V W J _=>Lq X.ai X.w X.K z J V Y W) (λ_ _ W _ _=>W 0 s2.heap) (λ_ V _ _ U=>(∀b∈V,Jo X D U b)) (λ_ _ _ J U=>R J U)
def GS(X:Be)(V J:BO)(wi:GB):Prop:=∀(D:List (AD×BC))(s:AV)(U:Ai)(H:AI)(R:Gb->AI->Prop),Aa X D U H s->wi U H R->As (An X.ai X.w) X.A (BY J X.af) (λv s1=>As (An X.ai X.w) X.A (eJ v) (US X D U V R) X.xe s1) X.xe s
theorem PY(Y:s.heap.get? it=AA o)(U:o.cls=.type n)(V:o.data=.fields vs)(W:["enumerate","zip","dict_itemiterator","dict_reverseitemiterator","odict_iterator","itertools.zip_longest","itertools.pairwise"].contains n=AQ)(D:Q () s):As M A (ABW J (.ref it) u) Q E s:=by cases J<;>first|show Cn D|(cases u<;>first|show Cn D| (show BL (wpAny_load Y ?_);rw[U,V];change As M A (if(["enumerate","zip","dict_itemiterator","dict_reverseitemiterator","odict_iterator","itertools.zip_longest","itertools.pairwise"].contains n&&vs[0]?==AA _)=AJ then _ else _) Q E s;rw[AFh (by intro h;rw[W]at h;cases h)];show Cn D))
noncomputable def Ln(K:Aq)(a:AD):Gb:=⟨λi H=>∃D x,Bx K H a D/\D[i]?=AA x,λi H x J=>J=H/\∀D,Bx K H a D->D[i]?=AA x,λi H=>Ft (λD=>Bx K H a D) (λD=>D.length<=i)⟩
noncomputable def Mm(lo:Int)(n:Nat):Gb:=⟨λi _=>i<n,λi H x D=>D=H/\x=.int (lo+i),λi _=>n<=i⟩
theorem zR{K:Aq}(a it:AD):Lq P w K r (Ln K a) [it] it (λi h=>h.IsListIter it a i)where
 aca:=by simp
 bz:=λi h D b J=>by
  have e:b=it:=by simpa using J
  subst e;obtain⟨o,e,c,d⟩:_:=D;show⟨o,e,λv z=>by rw[d]at z;cases z⟩
 ae:=λi h R D k=>D.at λo e=>k it (by simp) o e
 wq:=by intro X L hw G S i U s y H E I W D M;subst L hw G;lk;obtain⟨t,x,Y,N⟩:=M;obtain⟨O,Q,p,m⟩:=I.iq Y;obtain⟨u,j,n⟩:=Q.vm N;obtain⟨Z,A,g,B,C,F⟩:=W it (by simp);k_in;show wpAny_pyNext_list_item D p.isList (x:=u) (by simpa using j) λR V q=>?_;have T:=I.fw (t':=s.toks) (λb o J e=>(q.2 b J).trans e) Z A B C F;obtain⟨o,e,c,d⟩:_:=id V;show⟨u,rfl,PY e c d (by decide) ⟨x,H,T,n,⟨rfl,λys l=>by rw[I.yb l Y];show N⟩,V,λb J=>(W b J).1⟩⟩
 wk:=by intro X L hw G S i U s y H E I W D M;subst L hw G;lk;obtain⟨t,Y,N⟩:=M;obtain⟨O,Q,p,m⟩:=I.iq Y;obtain⟨Z,A,g,B,C,F⟩:=W it (by simp);k_in;have hl:=Q.ar;show wpAny_pyNext_list_end (I.ok.hd S) D p.isList (by simp;simp_all) λR f=>⟨rfl,I.fw (λb o J e=>f b o J e) Z A B C F⟩
 yg:=λ_ _ _ _ _ D h=>wpAny_pyIter_listiter D h
theorem zS{K:Aq}(it:AD)(lo:Int)(n:Nat):Lq P w K d (Mm lo n) [it] it (λi h=>dE h it (lo+(i:Nat)*1) ((n:Int)-(i:Nat)) 1)where
 aca:=by simp
 bz:=λi h D b U=>by
  have e:b=it:=by simpa using U
  subst e;show⟨_,D,λv z=>by have g:=z;cases g⟩
 ae:=λi h G D k=>k it (by simp) _ D
 wq:=by intro X O hw N L i J s Q H E I Y D M;subst O hw N;obtain⟨Z,A,T,B,C,F⟩:_:=Y it (by simp);have W:=AEG (prog:=X.ai) (w:=X.w) (I.ok.hd L) it lo 1 n;show W.item i s _ _ M D λv G f a V c=>?_;obtain⟨t,rfl⟩:=a;have R:Aa X J Q H {s with heap:=G,toks:=f}:=I.fw (λb o U e=>c b o (by simpa using U) e) Z A B C F;show⟨_,rfl,PY V rfl rfl (by decide) ⟨.int (lo+i),H,R,⟨t,?_⟩,⟨rfl,rfl⟩,V,λb U=>(Y b U).1⟩⟩;rw[Int.mul_one]
 wk:=by intro X O hw N L i J s Q H E I Y D M;obtain⟨Z,A,T,B,C,F⟩:_:=Y it (by simp);show AEh (I.ok.hd L) D (by have:=M;show ACL (Su.mp this)) λG S=>⟨rfl,I.fw (λb o U e=>S b o U e) Z A B C F⟩
 yg:=λ_ _ _ _ _ D h=>AEg D h
def ZQ(K:Aq)(J:Az):GB:=λV H R=>J V H λx D=>K6 (λa=>x=.ref a) (λa=>(∃U,Bx K D a U)) (λa=>R (Ln K a) D)
theorem wW(Z:Ao X l V):GS X G l (ZQ X.K V):=by
 intro U s C H R I h;show A1 (Z _ s C H _ I h) λv s1 D=>?_;lk;obtain⟨x,W,J,r1,B⟩:=D;obtain⟨a,e,⟨K,z⟩,q⟩:=B;k_in;subst e;lk;cases r1;obtain⟨A,F,p,E⟩:=J.iq z;k_in;show wpAny_pyIter_list p.isList ?_;show⟨_,_,_,_,W,rfl,J.ip λb o e=>DC _ e,zR a _,⟨_,Gk _ rfl,rfl,rfl⟩,λb Y=>?_,q⟩;have e:=by simpa using Y
 subst e;show J.vn (Al _) (J.cp.bw (Al _))
theorem aG{lo:Int}(I:Aa X D U H s)(Z:-(2^62)<=lo)(z:lo<2^62)(A:-(2^62)<=hi)(B:hi<2^62)(q:R (Mm lo (hi-lo).toNat) H):As (An X.ai X.w) X.A (eJ (.ref s.heap.objs.size)) (US X D U F R) E {s with heap:=s.heap.push {cls:=.type "range",data:=.fields #[.int lo t,.int hi u,.int 1 v]},toks:=V}:=by
  show AEf (AA5 ..) (small_one Z z A B) ?_;have J:Aa X _ U H {s with heap:=s.heap.push {cls:=.type "range",data:=.fields #[.int lo t,.int hi u,.int 1 v]},toks:=V}:=I.ip λb o e=>DC _ e;show⟨_,_,_,_,H,rfl,J.ip λb o e=>DC _ e,zS _ lo _,?_,λb C=>?_,q⟩
  . have W:lo+((0:Nat))*1=lo:=by simp
    have Y:(((hi-lo).toNat:Nat))-((0:Nat))=cX lo hi 1:=by rw[rangeSize_one];split<;>lia
    change dE _ _ _ _ 1;rw[W,Y];show Gk _ rfl
  . have e:b=(s.heap.push {cls:=.type "range",data:=.fields #[.int lo t,.int hi u,.int 1 v]}).objs.size:=by simpa using C
    subst e;show J.vn (Al _) (J.cp.bw (Al _))
def uH(J:Fc):GB:=λV H R=>J V H λU D=>Yq (λ(j:Int)=>U=[.int j]) (λj=>-(2^62)<=j) (λj=>j<2^62) (λj=>R (Mm 0 j.toNat) D)
def uI(J:Fc):GB:=λV H R=>J V H λU D=>FD (λ(i j:Int)=>U=[.int i,.int j]) (λi j=>(-(2^62)<=i/\i<2^62/\-(2^62)<=j/\j<2^62)) (λi j=>R (Mm i (j-i).toNat) D)
theorem Z3(Z:Fq X "range")(z:X.mg "range"=AF)(Y:GR X [a] V)(A:CQ [a] X.af=[(AQ,BY a X.af)]:=by rfl):GS X G (.Call (.Name "range" p) [a] [] D) (uH V):=by intro U s E H R I h;show Vs (KU I Z z cP (P5 (A1 (Y _ _ s E H _ I h) λK s1⟨L,F,W,r1,J⟩=>?_) A rfl));obtain⟨j,e,J,B,q⟩:_:=J;subst e;cases r1 with|cons r C=>lk;cases C;obtain⟨t,rfl⟩:=r;k_in;show call_range_1 (aG W (by simp) (by simp) J B (by simpa using q))
theorem wX(A:Fq X "range")(B:X.mg "range"=AF)(z:GR X [a,b] Y)(C:CQ [a,b] X.af=[(AQ,BY a X.af),(AQ,BY b X.af)]:=by rfl)(D:CQ [b] X.af=[(AQ,BY b X.af)]:=by rfl):GS X O (.Call (.Name "range" p) [a,b] [] J) (uI Y):=by intro W s L H R I h;show Vs (KU I A B cP (P5 (A1 (z _ _ s L H _ I h) λP s1⟨Q,M,Z,r1,U⟩=>?_) (by rw[C,D]) (by rw[D];rfl)));obtain⟨i,j,e,⟨U,E,F,G⟩,q⟩:_:=U;subst e;cases r1 with|cons r V=>cases V with|cons K V=>lk;cases V;obtain⟨t,rfl⟩:=r;obtain⟨N,rfl⟩:=K;k_in;show call_range_2 (aG Z U E F G q)
def yX(wi:GB)(g:Eu)(C:Cw):Cw:=λD U H=>wi U H λJ A=>∃W:Nat->Nat->Ai->AI->Prop,(∃m,W 0 m U A)/\∀i m U H,W i m U H->(J.vf i H/\D.nx U H)\/(J.go i H/\∃N:Ai->AI->Prop,(∀Y V,N Y V->∃z,z<m/\W (i+1) z Y V)/\∀x V,J.aaz i H x V->g x U V λZ B=>C {D with nx:=N,ct:=N,bk:=D.nx} Z B)
noncomputable def Rv(D:List AD)(h:BJ):List (AD×BC):=D.filterMap λb=>(h.get? b).map λo=>(b,o)
theorem U1(J:b∈D)(e:h.get? b=AA o):(b,o)∈Rv D h:=AAN.mpr ⟨b,J,by rw[e];rfl⟩
theorem vW(V:p∈Rv D h):p.1∈D/\h.get? p.1=AA p.2:=by obtain⟨b,U,e⟩:_:=AAN.mp V;cases q:h.get? b with|none=>rw[q]at e;cases e|some o=>rw[q]at e;have J:=Bz e;subst J;show⟨U,q⟩
theorem Aa.aat(I:Aa X D W H s)(B:∀b∈J,Jo X D H b)(C:∀b∈J,∃o,s.heap.get? b=AA o/\∀v,o.data≠.cell v):Aa X (D++Rv J s.heap) W H s:=I.jl λp E=>(DN.mp E).elim (λz=>I.qx p (Ea _ z)) λz=>by lk;obtain⟨V,e⟩:=vW z;obtain⟨Y,Z,A,_⟩:=B _ V;obtain⟨o,U,d⟩:=C _ V;k_in;rw[e]at U;cases U;show⟨e,Y,Z,A,d⟩
theorem Aa.vg(I:Aa X (D++V) J H s):Aa X D J H s:=I.jl λp U=>I.qx p (Ea _ (HU _ U))
section
variable{X:Be}{tg:BO}
set_option tactic.hygienic true in theorem EG{A:BO}{body:List Cj}{wi:GB}{g:Eu}{tb:Cw}{pos:CV}(P:PassesOwn (An X.ai X.w) X.A X.af X.xe)(hc:X.ic=AJ)(hi:GS X tg A wi)(hg:K4 X tg g)(z:FC X body tb)(hs:∀x,NJ A X.af x=Bf x:=by intro _;rfl):D6 X (.For tg A body [] pos) (yX wi g tb):=by
  intro pins s σ H D I h;show wpAny_For (A1 (hi pins s σ H _ I h) λv s1 h1=>A1 h1 λitv s2 h2=>?_) hs;obtain⟨it,fp,tn,J,H2,e,I2,T,p,y,W,⟨m0,w0⟩,turn⟩:_:=h2;subst e;have B:∀{H':AI},(∀b∈fp,H' b=AF)->∀b∈fp,Jo X pins H' b:=λhn b z=>⟨hn b z,(y b z).2⟩;show codeAny_forLoop_any (λn s'=>∃i C H',Aa X pins C H' s'/\tn i s'.heap/\(∀b∈fp,H' b=AF)/\W i n C H') ?_ m0 ⟨0,σ,H2,I2,p,λb z=>(y b z).1,w0⟩;intro n s3 hI;obtain⟨i,E,a,w,R,K,w3⟩:_:=hI;rcases turn i n E a w3 with⟨S,qn⟩|⟨go,N,hN,step⟩
  . show QP P (A1 (T.wk X rfl rfl rfl hc i pins s3 E a X.xe w (B K) R S) λr s4 L=>?_);obtain⟨k,I4⟩:=L;subst k;show Sg ⟨E,a,I4,qn⟩
  . show QP P (A1 (T.wq X rfl rfl rfl hc i pins s3 E a X.xe w (B K) R go) λr s4 M=>?_);obtain⟨u,k,h4⟩:_:=M;subst k;show QP P (A1 h4 λ_ s5⟨x,t,I5,r5,y5,G,j⟩=>?_);have c:=I5.aat (B j) (T.bz _ _ G);show QP P (A1 (hg _ s5 E t x u _ c r5 (step x t y5)) λ_ s6 O=>?_);obtain⟨q,H6,I6,q6⟩:_:=O;show QP P (A1 (z _ s6 q H6 _ I6 q6) λf l F=>?_);have Z:∀{U:Ai}{V:AI},Aa X _ U V l->N U V->∃m,m<n/\∃i C H',Aa X pins C H' l/\tn i l.heap/\(∀b∈fp,H' b=AF)/\W i m C H':=λ{U V}Y Q=>by obtain⟨m',hm,w7⟩:=hN U V Q;show⟨m',hm,i+1,U,V,Y.vg,T.ae _ _ _ G λb z o e=>(Y.qx (b,o) (Ea _ (Ea _ (U1 z e)))).1,λb z=>?_,w7⟩;obtain⟨o,e,d⟩:=T.bz _ _ G b z;show(Y.qx (b,o) (Ea _ (Ea _ (U1 z e)))).2.1
    cases f with |next=>obtain⟨U,V,Y,Q⟩:=F;show Z Y Q|cont=>obtain⟨U,V,Y,Q⟩:=F;show Z Y Q|brk=>obtain⟨U,V,Y,F⟩:=F;show⟨U,V,Y.vg,F⟩|ret v=>obtain⟨x7,U,V,Y,r7,F⟩:=F;show⟨x7,U,V,Y.vg,r7,F⟩
end
theorem HQ{K:Aq}{a:AD}{xs:List AE}{g:Eu}{E:Cw}{D:Gv}{J:Ai}{H:AI}(Y:Nat->Ai->AI->Prop)(F:Y 0 J H)(L:∀i J H,i<=xs.length->Y i J H->Bx K H a xs)(M:∀i x J H,xs[i]?=AA x->Y i J H->g x J H λz A=>E {D with nx:=Y (i+1),ct:=Y (i+1),bk:=D.nx} z A)(I:∀J H,Y xs.length J H->D.nx J H):∃W:Nat->Nat->Ai->AI->Prop,(∃m,W 0 m J H)/\∀i m J H,W i m J H->((Ln K a).vf i H/\D.nx J H)\/((Ln K a).go i H/\∃N:Ai->AI->Prop,(∀Z H',N Z H'->∃C,C<m/\W (i+1) C Z H')/\∀x H',(Ln K a).aaz i H x H'->g x J H' λz A=>E {D with nx:=N,ct:=N,bk:=D.nx} z A):=by
 show⟨λi m J H=>m=xs.length-i/\i<=xs.length/\Y i J H,⟨xs.length,by simp,Bd _,F⟩,?_⟩;intro i m J H G;obtain⟨rfl,B,p⟩:_:=G;have q:=L i J H B p;by_cases U:i<xs.length
 . show .inr ⟨⟨xs,xs[i],q,by simp[U]⟩,_,λZ H' O=>⟨_,Ja _ _ U,rfl,U,O⟩,λx H' y=>?_⟩;obtain⟨e,y⟩:=y;subst e;show M i x J _ (y xs q) p
 . have e:=Fh B (GV U);subst e;show .inl ⟨⟨xs,q,Al _⟩,I J H p⟩
theorem Ul{lo:Int}{n:Nat}{g:Eu}{B:Cw}{D:Gv}{J:Ai}{H:AI}(Z:Nat->Ai->AI->Prop)(C:Z 0 J H)(I:∀i J H,i<n->Z i J H->g (.int (lo+i)) J H λY z=>B {D with nx:=Z (i+1),ct:=Z (i+1),bk:=D.nx} Y z)(F:∀J H,Z n J H->D.nx J H):∃W:Nat->Nat->Ai->AI->Prop,(∃m,W 0 m J H)/\∀i m J H,W i m J H->((Mm lo n).vf i H/\D.nx J H)\/((Mm lo n).go i H/\∃N:Ai->AI->Prop,(∀V H',N V H'->∃A,A<m/\W (i+1) A V H')/\∀x H',(Mm lo n).aaz i H x H'->g x J H' λY z=>B {D with nx:=N,ct:=N,bk:=D.nx} Y z):=by
 show⟨λi m J H=>m=n-i/\i<=n/\Z i J H,⟨n,by simp,Bd _,C⟩,?_⟩;intro i m J H E;obtain⟨rfl,G,p⟩:_:=E;by_cases U:i<n
 . show .inr ⟨U,_,λV H' K=>⟨_,Ja _ _ U,rfl,U,K⟩,λx H' y=>?_⟩;obtain⟨e,y⟩:=y;subst e y;show I i J _ U p
 . have e:=Fh G (GV U);subst e;show .inl ⟨Al _,F J H p⟩
theorem AAB(W:Ai->AI->Prop)(Z:Ai->AI->Nat)(B:W J H)(C:∀J H,W J H->c J H λb V=>if b=AJ then A {D with nx:=λU H'=>W U H'/\Z U H'<Z J H,ct:=λU H'=>W U H'/\Z U H'<Z J H,bk:=D.nx} J V else D.nx J V)(Y:∀J H Q z,(∀b V,Q b V->z b V)->c J H Q->c J H z):bB c A D J H:=by show⟨λm J H=>m=Z J H/\W J H,⟨_,rfl,B⟩,?_⟩;rintro m J H⟨rfl,p⟩;show Y J H _ _ (λb V q=>?_) (C J H p);cases b with|true=>show⟨_,λU H'⟨E,l⟩=>⟨_,l,rfl,E⟩,q⟩|false=>show q
abbrev Dq:=AE->AE->AI->Bh->Prop
def CP(X:Be)(f:AK->AK->DP AK)(r:Dq):Prop:=∀(D:List (AD×BC))(s:AV)(J:Ai)(H:AI)(x y:AE)(v u:AK)(Q:Bh),Aa X D J H s->Bn x v->Bn y u->r x y H Q->As (An X.ai X.w) X.A (f v u) (FZ X D J Q) X.xe s
def RO(X:Be)(f:AK->DP AK)(r:AE->AI->Bh->Prop):Prop:=∀(D:List (AD×BC))(s:AV)(J:Ai)(H:AI)(x:AE)(v:AK)(Q:Bh),Aa X D J H s->Bn x v->r x H Q->As (An X.ai X.w) X.A (f v) (FZ X D J Q) X.xe s
def Ez(X:Be)(f:AK)(r:List AE->AI->Bh->Prop):Prop:=∀(D:List (AD×BC))(s:AV)(W:Ai)(H:AI)(U:List AE)(J:List AK)(Q:Bh),Aa X D W H s->Bb U J->r U H Q->As (An X.ai X.w) X.A (Jb f J) (FZ X D W Q) X.xe s
def N7(r:Dq)(V W:Az):Az:=λD H Q=>V D H λx J=>W D J λy U=>r x y U Q
def zJ(r:AE->AI->Bh->Prop)(J:Az):Az:=λU H Q=>J U H λx D=>r x D Q
def N5(C:Int->Int->Prop)(g:Int->Int->AE):Dq:=λx y H Q=>JQ (λi j=>x=.int i) (λ_ j=>y=.int j) (λi j=>C i j) (λi j=>Q (g i j) H)
def LG(g:Int->Int->AE):Dq:=λx y H Q=>FD (λi j=>x=.int i) (λ_ j=>y=.int j) (λi j=>Q (g i j) H)
def aF(g:Int->AE):AE->AI->Bh->Prop:=λx H Q=>Ft (λi=>x=.int i) (λi=>Q (g i) H)
theorem Ua{K L:Az}(B:Ao X a K)(C:Ao X b L){R:AE->AE->AI->Prop}(I:Aa X D U H s)(h:K U H λx Z=>L U Z λy J=>R x y J){f:AK->AK->DP AK}(E:∀v u s2 x y J,Aa X D U J s2->Bn x v->Bn y u->R x y J->As (An X.ai X.w) X.A (f v u) Q X.xe s2):As (An X.ai X.w) X.A (BY a X.af) (λv W=>As (An X.ai X.w) X.A (BY b X.af) (λu Y=>As (An X.ai X.w) X.A (f v u) Q X.xe Y) X.xe W) X.xe s:=by show A1 (B _ s U H _ I h) λv s1⟨x,Z,z,r1,F⟩=>?_;show A1 (C _ s1 U Z _ z F) λu s2⟨y,J,A,r2,G⟩=>?_;show E v u s2 x y J A r1 r2 G
theorem AY(Y:CP X (G9 op) r)(V:Ao X a B)(W:Ao X b C):Ao X (.BinOp a op b Z) (N7 r B C):=by intro D s E H Q I h;show wpAny_BinOp (Ua V W I h λv u s2 x y J U z A q=>Y _ s2 E J x y v u Q U z A q)
theorem VG(z:RO X (unaryOp op) r)(Z:Ao X a C):Ao X (.UnaryOp op a A) (zJ r C):=by intro J s U H Q I h;show UnaryOp_ (A1 (Z _ s U H _ I h) λv s1 D=>?_);obtain⟨x,W,Y,r1,B⟩:_:=D;show z _ s1 U W x v Q Y r1 B
theorem Rp{f:AK->AK->DP AK}{C:Int->Int->Prop}{g:Int->Int->Int}(D:∀(i j:Int)(t u:II)(s:AV)(Q:AK->AV->Prop)(E:AK->AV->Prop),C i j->Q (.int (g i j) s.toks) {s with toks:=s.toks+1}->As (An X.ai X.w) X.A (f (.int i t) (.int j u)) Q E s):CP X f (N5 C λi j=>.int (g i j)):=by intro J s Z H x y v u Q I V W h;lk;obtain⟨i,j,rfl,rfl,U,q⟩:=h;obtain⟨t,rfl⟩:=V;obtain⟨Y,rfl⟩:=W;k_in;show D i j t Y s _ _ U ⟨.int _,H,I.ig _,⟨_,rfl⟩,q⟩
theorem Zo{f:AK->AK->DP AK}{g:Int->Int->Int}(D:∀(i j:Int)(t u:II)(s:AV)(Q:AK->AV->Prop)(E:AK->AV->Prop),Q (.int (g i j) s.toks) {s with toks:=s.toks+1}->As (An X.ai X.w) X.A (f (.int i t) (.int j u)) Q E s):CP X f (LG λi j=>.int (g i j)):=by intro J s Y H x y v u Q I U V h;lk;obtain⟨i,j,rfl,rfl,q⟩:=h;obtain⟨t,rfl⟩:=U;obtain⟨W,rfl⟩:=V;k_in;show D i j t W s _ _ ⟨.int _,H,I.ig _,⟨_,rfl⟩,q⟩
theorem Ro{f:AK->AK->DP AK}{g:Int->Int->Bool}(D:∀(i j:Int)(t u:II)(s:AV)(Q:AK->AV->Prop)(E:AK->AV->Prop),Q (.bool (g i j)) s->As (An X.ai X.w) X.A (f (.int i t) (.int j u)) Q E s):CP X f (LG λi j=>.bl (g i j)):=by intro J s Y H x y v u Q I U V h;lk;obtain⟨i,j,rfl,rfl,q⟩:=h;obtain⟨t,rfl⟩:=U;obtain⟨W,rfl⟩:=V;k_in;show D i j t W s _ _ ⟨.bl _,H,I,rfl,q⟩
def Yf(i j:Int):Prop:=0<j/\j<1073741824
theorem zzd{i j:Int}(h:decide (0<j/\j<1073741824)=true):Yf i j:=(of_decide_eq_true h:0<j/\j<1073741824)
theorem zzp{j:Int}(h:decide (0<j)=true):0<j:=of_decide_eq_true h
def rX(i j:Int):Prop:=0<=j/\j<=1000000/\i.natAbs<2^64
def UM(i j:Int):Prop:=(-(2^64)<i/\i<2^64)\/(-(2^64)<j/\j<2^64)
theorem UM.ok(h:UM i j):IntMulOk i j:=by
 rcases h with⟨D,J⟩|⟨D,J⟩;.show .of_left (AER D J)
 .show .of_right (AER D J)
theorem Zp:CP X (G9 .Add) (LG λi j=>.int (i+j)):=Zo λ_ _ _ _ _ _ _ q=>add_int q
theorem VD:CP X (G9 .Sub) (LG λi j=>.int (i-j)):=Zo λ_ _ _ _ _ _ _ q=>sub_int q
theorem wC:CP X (G9 .Mult) (N5 UM λi j=>.int (i*j)):=Rp λ_ _ _ _ _ _ _ D q=>mul_int q D.ok
theorem v5:CP X (G9 .FloorDiv) (N5 Yf λi j=>.int (i/j)):=Rp λi j _ _ _ _ _ J q=>by have D:(0:Int)<j:=J.1;have U:j<1073741824:=J.2;show floordiv_int (Kp D) (by rw[Int.fdiv_eq_ediv_of_nonneg i (J4 D)];show q) (.inl (AAr (by grind)))
theorem wB:CP X (G9 .Mod) (N5 (λ_ j=>0<j) λi j=>.int (i%j)):=Rp λi j _ _ _ _ _ D q=>by show mod_int' (Kp D) (by rw[Int.fmod_eq_emod_of_nonneg i (J4 D)];show q)
theorem Rq:CP X (G9 .Pow) (N5 rX λi j=>.int (i^j.toNat)):=Rp λ_ _ _ _ _ _ _ D q=>pow_int_small D.1 D.2.1 D.2.2 q
theorem zU{f:AK->DP AK}{g:Int->Int}(D:∀(i:Int)(t:II)(s:AV)(Q:AK->AV->Prop)(E:AK->AV->Prop),Q (.int (g i) s.toks) {s with toks:=s.toks+1}->As (An X.ai X.w) X.A (f (.int i t)) Q E s):RO X f (aF λi=>.int (g i)):=by intro J s V H x v Q I U h;lk;obtain⟨i,rfl,q⟩:=h;obtain⟨t,rfl⟩:=U;k_in;show D i t s _ _ ⟨.int _,H,I.ig _,⟨_,rfl⟩,q⟩
theorem zV:RO X (unaryOp .USub) (aF λi=>.int (-i)):=zU λ_ _ _ _ _ q=>neg_int q
noncomputable def aM:AE->AE->Bool|.non,.non=>AJ|.non,.int _=>AJ|.int _,.non=>AJ|.non,.bl _=>AJ|.bl _,.non=>AJ|.non,.str _=>AJ|.str _,.non=>AJ|.int _,.int _=>AJ|.bl _,.bl _=>AJ|.str _,.str _=>AJ|.byt _,.byt _=>AJ|.int _,.str _=>AJ|.str _,.int _=>AJ|.bl _,.str _=>AJ|.str _,.bl _=>AJ|_,_=>AQ
def xH:Dq:=λx y H Q=>aM x y=AJ/\Q (.bl (Ae (x=y))) H
def xP:Dq:=λx y H Q=>aM x y=AJ/\Q (.bl (!Ae (x=y))) H
theorem ZC:Ae (AE.int i=AE.int j)=(i==j):=by rw[Sn];simp
theorem Y9:Ae (AE.bl i=AE.bl j)=(i==j):=by rw[Sn];simp
theorem ZD:Ae (AE.str i=AE.str j)=(i==j):=by rw[Sn];simp
theorem ZA:Ae (AE.byt i=AE.byt j)=(i.toList==j.toList):=by rw[Sn];lk;cases i;cases j;k_in;simp
theorem De(I:Aa X D U H s)(q:Q (.bl k) H)(e:k=J):FZ X D U Q (.bool J) s:=by subst e;show⟨.bl k,H,I,rfl,q⟩
theorem Cp:CP X (Ed .Eq) xH:=by intro pins s σ H x y v u Q I rx ry h;obtain⟨hs,q⟩:=h;cases x with
 |non=> cases rx;cases y with |non=>cases ry;show AFA (De I q (by simp))|bl j=>cases ry;show AE8 (De I q (by simp))|int j=>obtain⟨t',rfl⟩:=ry;show AE9 (De I q (by simp))|str j=>obtain⟨t',rfl⟩:=ry;show AFB (De I q (by simp))|_=>show absurd (show AQ=AJ from hs) Du
 |bl i=> cases rx;cases y with |non=>cases ry;show AE6 (De I q (by simp))|bl j=>cases ry;show eq_bool (De I q Y9)|str j=>obtain⟨t',rfl⟩:=ry;show AEy (De I q (by simp))|_=>show absurd (show AQ=AJ from hs) Du
 |int i=> obtain⟨t,rfl⟩:=rx;cases y with |non=>cases ry;show AE7 (De I q (by simp))|int j=>obtain⟨t',rfl⟩:=ry;show eq_int (De I q ZC)|str j=>obtain⟨t',rfl⟩:=ry;show AEz (De I q (by simp))|_=>show absurd (show AQ=AJ from hs) Du
 |str i=> obtain⟨t,rfl⟩:=rx;cases y with |non=>cases ry;show AFC (De I q (by simp))|bl j=>cases ry;show AE0 (De I q (by simp))|int j=>obtain⟨t',rfl⟩:=ry;show AE1 (De I q (by simp))|str j=>obtain⟨t',rfl⟩:=ry;show eq_str (De I q ZD)|_=>show absurd (show AQ=AJ from hs) Du
 |byt i=> obtain⟨t,rfl⟩:=rx;cases y with |byt j=>obtain⟨t',rfl⟩:=ry;show W.eq_bytes (De I q ZA)|_=>show absurd (show AQ=AJ from hs) Du
 |_=>cases y<;>show absurd (show AQ=AJ from hs) Du
theorem L6:CP X (Ed .NotEq) xP:=by intro pins s σ H x y v u Q I rx ry h;obtain⟨hs,q⟩:=h;cases x with
 |non=>cases rx;cases y with |non=>cases ry;show AFH (De I q (by simp))|bl j=>cases ry;show AFF (De I q (by simp))|int j=>obtain⟨t',rfl⟩:=ry;show AFG (De I q (by simp))|str j=>obtain⟨t',rfl⟩:=ry;show AFI (De I q (by simp))|_=>show absurd (show AQ=AJ from hs) Du
 |bl i=>cases rx;cases y with |non=>cases ry;show AFD (De I q (by simp))|bl j=>cases ry;show ne_bool (De I q (AFj not Y9))|str j=>obtain⟨t',rfl⟩:=ry;show AE2 (De I q (by simp))|_=>show absurd (show AQ=AJ from hs) Du
 |int i=> obtain⟨t,rfl⟩:=rx;cases y with |non=>cases ry;show AFE (De I q (by simp))|int j=>obtain⟨t',rfl⟩:=ry;show ne_int (De I q (AFj not ZC))|str j=>obtain⟨t',rfl⟩:=ry;show AE3 (De I q (by simp))|_=>show absurd (show AQ=AJ from hs) Du
 |str i=> obtain⟨t,rfl⟩:=rx;cases y with |non=>cases ry;show AFJ (De I q (by simp))|bl j=>cases ry;show AE4 (De I q (by simp))|int j=>obtain⟨t',rfl⟩:=ry;show AE5 (De I q (by simp))|str j=>obtain⟨t',rfl⟩:=ry;show ne_str (De I q (AFj not ZD))|_=>show absurd (show AQ=AJ from hs) Du
 |byt i=> obtain⟨t,rfl⟩:=rx;cases y with |byt j=>obtain⟨t',rfl⟩:=ry;show W.ne_bytes (De I q (AFj not ZA))|_=>show absurd (show AQ=AJ from hs) Du
 |_=>cases y<;>show absurd (show AQ=AJ from hs) Du
theorem v9:CP X (Ed .Lt) (LG λi j=>.bl (Ae (i<j))):=Ro λ_ _ _ _ _ _ _ q=>AAo q
theorem VA:CP X (Ed .LtE) (LG λi j=>.bl (Ae (i<=j))):=Ro λ_ _ _ _ _ _ _ q=>ADF q
theorem Zq:CP X (Ed .Gt) (LG λi j=>.bl (Ae (j<i))):=Ro λ_ _ _ _ _ _ _ q=>gt_int q
theorem v7:CP X (Ed .GtE) (LG λi j=>.bl (Ae (j<=i))):=Ro λ_ _ _ _ _ _ _ q=>ge_int q
theorem Zr:CP X (Ed .Is) (λx y H Q=>y=.non/\Q (.bl (Ae (x=.non))) H):=by intro D s V H x y v u Q I J U h;lk;obtain⟨rfl,q⟩:=h;cases U;k_in;show is_none_gen (De I q ?_);cases x<;>first|(rfl)|(obtain⟨t,rfl⟩:=J;rfl)
theorem Zs:CP X (Ed .IsNot) (λx y H Q=>y=.non/\Q (.bl (!Ae (x=.non))) H):=by intro D s V H x y v u Q I J U h;lk;obtain⟨rfl,q⟩:=h;cases U;k_in;show isnot_none_gen (De I q ?_);cases x<;>first|(cases J;rfl)|(obtain⟨t,rfl⟩:=J;rfl)
theorem BF(b:BO)(h:op≠.In:=by decide)(U:op≠.NotIn:=by decide):d7 op b=AQ:=by
 have D:(op==CmpOp.In)=AQ:=by cases op<;>first|rfl|show absurd rfl h
 have J:(op==CmpOp.NotIn)=AQ:=by cases op<;>first|rfl|show absurd rfl U
 cases b<;>simp[d7,D,J]
theorem Ik(Z:CP X (Ed op) r)(V:Ao X a C)(W:Ao X b E)(Y:d7 op b=AQ):Ao X (.Compare a [op] [b] z) (N7 r C E):=by intro D s F H Q I h;show wpAny_Compare1 (Ua V W I h λv u s2 x y J U A B q=>Z _ s2 F J x y v u Q U A B q) Y
def aZ(t:Az):DT:=λJ H Q=>t J H λx D=>Ft (λk=>x=.bl k) (λk=>Q k D)
theorem BK(F:CP X (Ed op) r)(B:Ao X a O)(C:Ao X b P)(E:d7 op b=AQ):Hx X (.Compare a [op] [b] G) (aZ (N7 r O P)):=by intro J s D H Q I h;show wpAny_isTrue_Compare1 (A1 (B _ s D H _ I h) λv s1⟨x,U,Y,r1,K⟩=>A1 (C _ s1 D U _ Y K) λu s2⟨y,V,Z,r2,L⟩=>A1 (F _ s2 D V x y v u _ Z r1 r2 L) λc s3⟨z,W,A,N,k,e,M⟩=>?_) E;subst e;cases N;show OR ⟨W,A,M⟩
def aU(r Y:Dq)(Z A B:Az):Az:=λD H Q=>Z D H λx U=>A D U λy V=>r x y V λz J=>Ft (λk=>z=.bl k) (λk=>(if k=AJ then B D J λC W=>Y y C W Q else Q (.bl AQ) J))
theorem Zw(R:CP X (Ed op) r)(V:CP X (Ed D) B)(M:Ao X a l)(N:Ao X b m)(O:Ao X c n)(P:lastMarks [op,D] [b,c]=AQ:=by with_unfolding_all rfl):Ao X (.Compare a [op,D] [b,c] S) (aU r B l m n):=by intro Z s U H Q I h;show Compare_chain (A1 (M _ s U H _ I h) λv s1⟨x,C,G,r1,T⟩=>chain_link (A1 (N _ s1 U C _ G T) λu s2⟨y,E,K,r2,f⟩=>A1 (R _ s2 U E x y v u _ K r1 r2 f) λd s3⟨z,W,Y,i,k,e,A⟩=>?_)) P;subst e;cases i;show OR ?_;cases k with|false=>show ite_ff ⟨.bl _,W,Y,rfl,A⟩| true => show ite_tt (chain_last (A1 (O _ s3 U W _ Y A) λo s4 J=>?_));obtain⟨p,F,L,j,g⟩:_:=J;show V _ s4 U F y p u o Q L r2 j g
theorem xE(f:CP X (Ed op) r)(U:CP X (Ed D) A)(P:Ao X a t)(R:Ao X b w)(S:Ao X c tc)(T:lastMarks [op,D] [b,c]=AQ:=by with_unfolding_all rfl):Hx X (.Compare a [op,D] [b,c] g) (aZ (aU r A t w tc)):=by intro Y s J H Q I h;show isTrue_chain (A1 (P _ s J H _ I h) λv s1⟨x,B,G,r1,j⟩=>test_link (A1 (R _ s1 J B _ G j) λu s2⟨y,C,K,r2,l⟩=>A1 (f _ s2 J C x y v u _ K r1 r2 l) λd s3⟨z,V,W,o,k,e,Z⟩=>?_)) T;subst e;cases o;show OR ?_;cases k with|false=>lk;obtain⟨k',N,i⟩:=Z;cases N;k_in;show ite_ff ⟨V,W,i⟩|true=>show ite_tt (test_last (A1 (S _ s3 J V _ W Z) λw' s4⟨z',E,L,p,m⟩=>A1 (U _ s4 J E y z' u w' _ L r2 p m) λd' s5⟨z2,F,M,q,k2,O,n⟩=>?_));subst O;cases q;show OR ⟨F,M,n⟩
theorem Pb:(Ay:Nat)<2^63:=by decide
theorem U7:CP X (G9 .Add) (λx y H Q=>∃i j,x=.str i/\y=.str j/\i.length+j.length<=Ay/\Q (.str (i++j)) H):=by intro D s Z H x y v u Q I U V h;lk;obtain⟨i,j,rfl,rfl,J,q⟩:=h;obtain⟨t,rfl⟩:=U;obtain⟨W,rfl⟩:=V;k_in;show add_str (λW Y=>⟨.str (i++j),H,I.ig _,⟨_,rfl⟩,q⟩) J
theorem Ip(r:Bb [x] D):∃u,D=[u]/\Bn x u:=by cases r with|cons r1 r2=>cases r2;show⟨_,rfl,r1⟩
theorem R6(r:Bb [x,y] D):∃u J,D=[u,J]/\Bn x u/\Bn y J:=by cases r with|cons r1 r2=>cases r2 with|cons U W=>cases W;show⟨_,_,rfl,r1,U⟩
theorem sV(U:X.ic=AJ):Ez X (.builtin "max") (λxs H Q=>∃i j,xs=[.int i,.int j]/\Q (.int (if j>i then j else i)) H):=by
 intro J s A H xs Z Q I r h;lk;obtain⟨i,j,rfl,q⟩:=h;obtain⟨u,z,rfl,⟨t,rfl⟩,⟨W,rfl⟩⟩:=R6 r;k_in;show max_two_ints (I.ok.hd U) λV Y k=>⟨_,H,I.ip k,?_,q⟩;by_cases D:j>i;.rw[AFi D,AFi D];show⟨_,rfl⟩
 .rw[AFh D,AFh D];show⟨_,rfl⟩
theorem sX(U:X.ic=AJ):Ez X (.builtin "min") (λxs H Q=>∃i j,xs=[.int i,.int j]/\Q (.int (if j<i then j else i)) H):=by
 intro J s A H xs Z Q I r h;lk;obtain⟨i,j,rfl,q⟩:=h;obtain⟨u,z,rfl,⟨t,rfl⟩,⟨W,rfl⟩⟩:=R6 r;k_in;show min_two_ints (I.ok.hd U) λV Y k=>⟨_,H,I.ip k,?_,q⟩;by_cases D:j<i;.rw[AFi D,AFi D];show⟨_,rfl⟩
 .rw[AFh D,AFh D];show⟨_,rfl⟩
theorem Y0:Ez X (.type "int") (λxs H Q=>(∃i,xs=[.int i]/\Q (.int i) H)\/∃k,xs=[.bl k]/\Q (.int (if k then 1 else 0)) H):=by
 intro D s U H xs J Q I r h;rcases h with⟨i,rfl,q⟩|⟨k,rfl,q⟩;. obtain⟨u,rfl,t,rfl⟩:_:=Ip r;show call_int_int ⟨.int i,H,I,⟨_,rfl⟩,q⟩
 . lk;obtain⟨u,rfl,r1⟩:=Ip r;cases r1;k_in;show call_int_bool ⟨.int _,H,I.ig _,⟨_,rfl⟩,q⟩
structure Np(h:BJ)(x dx C:AD)(mA:AG->Option AK):Prop where
 bz:h.get? x=AA (Sb C dx)ns:h.Ns1 dx mA
 ne:dx≠x
set_option tactic.hygienic true in theorem vK{h:BJ}{dx:AD}{mA:AG->Option AK}(n:h.Ns1 dx mA):∃od,h.get? dx=AA od/\∀name,dZ name od=AA (mA name):=by
  obtain⟨o,es,ep,W,U,V,_,hm⟩:_:=n;show⟨o,W,λname=>?_⟩;have e:=hm name;unfold nsFind findBy at e;rw[<-Array.find?_toList]at e;unfold dZ;rw[U];dsimp only;split
  . rename_i y q;rw[q]at e;show AFj _ e
  . rename_i q;rw[q]at e;have a:es.toList.any (·.refKey)=AQ:=by rw[List.any_eq_false];intro y Y;obtain⟨z,t,D⟩:=V y (Array.mem_toList_iff.mp Y);simp[AEx,D]
    have J:¬es.toList.any (·.refKey)=AJ:=by rw[a];show Du
    rw[AFh J];show AFj _ e
theorem Np.abg(I:Np h x U C V):∃J,W.InstAt h x (Sb C U) C (AA J)/\∀D,dZ D J=AA (V D):=let⟨J,Y,W⟩:=vK I.ns
 ⟨J,⟨I.bz,rfl,rfl,Y⟩,W⟩
theorem t9{K:Aq}(X:K.In s.heap)(I:Np s.heap x dx C mA)(hg:d5 K C name=AJ)(hh:ABC K C=AJ)(ha:IJ K (.ref C) name=AA AF)(hv:mA name=AA v)(hv':AD3 v=AJ)(h:Q v {s with toks:=s.toks+1}):As (An prog w) A (getAttr (.ref x) name expr) Q E s:=by obtain⟨od,J,hl⟩:_:=I.abg;show W.get_value X J (ABJ hg).1 (W.findObj_own hh ha rfl (by rw[hl,hv])) hv' h
theorem uA{K:Aq}(X:K.In s.heap)(I:Np s.heap x dx C mA)(hg:d5 K C name=AJ)(hf:IJ K (.ref C) name=AA (AA (.ref f)))(ht:ABD K (.ref f)=AJ)(hv:mA name=AF)(h:Q (.ref f,[.ref x]) s):As (An prog w) A (d8 (.ref x) name pl) Q E s:=by obtain⟨od,J,hl⟩:_:=I.abg;show W.method_fn X J (ABJ hg).1 (ABJ hg).2 hf (AFs.mp ht) (by change(dZ _ od).map _=AA _;rw[hl,hv];rfl) h
theorem xY{K:Aq}{D:AG}(X:K.In s.heap)(I:Np s.heap x G C H)(R:IJ K (.ref C) "__setattr__"=AA (AA (.builtin "object.__setattr__")))(P:AEF K C=AJ)(S:ABK K C D=AA AF)(O:ABC K C=AJ)(hw:ABL H ns)(F:ns.length<=Ay)(h:∀W,Np W x G C (λy=>if y=D then AA v else H y)->V4 G s.heap W->Q () {s with heap:=W,toks:=s.toks+2}):As (An prog w) A (setAttr (.ref x) D v) Q E s:=by obtain⟨e,J,c⟩:_:=I.abg;show W.set_plain X J R (W.osa_open X J P S λb=>?_);obtain⟨a,N,Z⟩:_:=W.any_some O;have T:=I.bz;show BL (Cn (BL (BL (AEc T (BL (AFd (W.looks_clsIn X N) ?_))))));rw[Z];show Cn (BL (Cn (BL ?_)));show wpAny_nsSet1 I.ns λW U V=>?_;obtain⟨d,M,L,B,z,Y⟩:_:=U.count (AFe _ v hw);show BL (wpAny_lookBehind B (by rw[z];show pastItsLine_dict (Ak Y (by show Jx.mpr F))) ?_);show Cn (h _ ⟨(V.2 _ (El I.ne)).trans I.bz,U,I.ne⟩ V)
theorem Zi{K:Aq}(X:K.In s.heap)(V:AEC K C=AJ)(hi:IJ K (.ref C) "__init__"=AA (AA (.ref f)))(U:W.typeIn K (.ref f)=AA (.type "function"))(h:NI (An prog w) (A.under (.builtin "type.__call__" ⟨.ref C::vs,D⟩)) (.call (.ref f) ⟨.ref (s.heap.objs.size+1)::vs,D⟩) (W.InitBack (s.heap.objs.size+1) R) {s with heap:=(s.heap.push dU).push (Sb C s.heap.objs.size)}):NI (An prog w) A (.call (.ref C) ⟨vs,D⟩) R s:=by show W.make_core (W.makes_of X V) (ABH X hi) (λJ=>W.bind_fn X _ U) (.inl rfl) h
noncomputable def G6(f:AG)(v:AE):List (AG×AE)->List (AG×AE)|[]=>[(f,v)]|(g,x)::r=>if g=f then(g,v)::r else(g,x)::G6 f v r
theorem Zf(f g:AG)(v:AE):∀U:List (AG×AE),(G6 f v U).lookup g=if g=f then AA v else U.lookup g
  |[]=>by
    change Pz g [(f,v)]=_;by_cases h:g=f
    . have D:=AFs.mpr h;simp only[Pz,D,AFi h]
    . have D:=AFu.mpr h;simp only[Pz,D,AFh h]|(k,x)::r=>by
    have W:=Zf f g v r;rw[show G6 f v _=(if k=f then(k,v)::r else(k,x)::G6 f v r)from rfl];by_cases J:k=f
    . rw[AFi J];by_cases h:g=k
      . have D:=AFs.mpr h;simp only[Pz,D,AFi (h.trans J)]
      . have D:=AFu.mpr h;simp only[Pz,D,AFh (λe:g=f=>h (e.trans J.symm))]
    . rw[AFh J];by_cases h:g=k;. have D:=AFs.mpr h;simp only[Pz,D,AFh (λe:g=f=>J (h.symm.trans e))]
      . have D:=AFu.mpr h;simp only[Pz,D];show W
theorem Uw(f:AG)(v:AE):∀D:List (AG×AE),f∈(G6 f v D).map (·.1)/\∀g,g∈D.map (·.1)->g∈(G6 f v D).map (·.1)
  |[]=>⟨by simp[G6],λg h=>by simp at h⟩|(k,x)::r=>by
    obtain⟨i1,i2⟩:=Uw f v r;rw[show G6 f v _=(if k=f then(k,v)::r else(k,x)::G6 f v r)from rfl];by_cases J:k=f;. subst J;show⟨by simp,λg h=>by simpa using h⟩
    . rw[AFh J];show⟨?_,λg h=>?_⟩;.show Ek _ i1
      . rcases CJ.mp h with e|e;.show CJ.mpr (.inl e)
        .show Ek _ (i2 g e)
theorem Zb(f:AG)(v:AE):∀D:List (AG×AE),(G6 f v D).length<=D.length+1
 |[]=>by simp[G6]|(k,x)::r=>by
  have U:=Zb f v r;rw[show G6 f v _=(if k=f then(k,v)::r else(k,x)::G6 f v r)from rfl];by_cases J:k=f;.rw[AFi J,M3];simp
  .rw[AFh J,M3];show Jx.mpr U
theorem RJ(r:K5 (AA v) o):∃u,o=AA u/\Bn v u:=by cases o with|none=>show(show False from r).elim|some u=>show⟨u,rfl,r⟩
theorem sG(r:K5 AF o):o=AF:=by cases o with|none=>rfl|some u=>show(show False from r).elim
theorem uC(r:Bn v u):AD3 u=AJ:=by cases v with|non=>cases(show u=AA8 from r);rfl|bl b=>cases(show u=SW b from r);rfl|int i=>obtain⟨t,e⟩:=(show∃t,u=SX i t from r);cases e;rfl|str x=>obtain⟨t,e⟩:=(show∃t,u=SY x t from r);cases e;rfl|byt b=>obtain⟨t,e⟩:=(show∃t,u=ADv b t from r);cases e;rfl|flt b=>obtain⟨t,e⟩:=(show∃t,u=AA7 b t from r);cases e;rfl|ref a=>cases(show u=DV a from r);rfl|ty n=>cases(show u=dN n from r);rfl
theorem Rb(U:DG P w H h)(e:H a=AA (.ins C V J)):∃D,Np h a V C D/\(∀f,K5 (J.lookup f) (D f))/\ABL D (J.map (·.1))/\J.length<=1000/\H V=AA (.own a):=by obtain⟨d,z,W,Y,D,n,r,q⟩:_:=(show DL P w H h a _ from U a _ e);show⟨D,⟨Y,n,W⟩,r,q,z,d⟩
structure Hw(K:Aq)(C:AD):Prop where
 pg:d5 K C Str.empty=AJ
 hd:ABC K C=AJ
 po:AEF K C=AJ
 sa:IJ K (.ref C) "__setattr__"=AA (AA (.builtin "object.__setattr__"))
theorem Hw.vm{K:Aq}(c:Hw K C)(f:AG):d5 K C f=AJ:=c.pg
def GA(K:Aq)(C:AD)(f:AG):Prop:=IJ K (.ref C) f=AA AF
theorem GA.ado{K:Aq}(n:GA K C f):ABK K C f=AA AF:=by unfold ABK;rw[show IJ K _ f=AA _ from n];rfl
structure RF(K:Aq)(C:AD)(m:AG)(f:AD):Prop where
 aey:IJ K (.ref C) m=AA (AA (.ref f))fn:ABD K (.ref f)=AJ
 kp:Se K (.ref f)=AJ
theorem uB(I:Aa X D W H s)(e:H a=AA (.ins C Y U))(c:Hw X.K C)(n:GA X.K C f)(l:U.lookup f=AA v)(h:∀u s',Aa X D W H s'->Bn v u->Q u s'):As (An X.ai X.w) A (getAttr (.ref a) f b) Q E s:=by lk;obtain⟨Z,O,r,_,_,_⟩:=Rb I.cp e;obtain⟨u,V,J⟩:=RJ (by rw[<-l];show r f);k_in;show t9 I.nq O (c.vm f) c.hd n V (uC J) (h u _ (I.ig _) J)
theorem ZO(I:Aa X D Z H s)(e:H a=AA (.ins C W J))(c:Hw X.K C)(k:RF X.K C m g)(l:J.lookup m=AF)(h:Q (.ref g,[.ref a]) s):As (An X.ai X.w) A (d8 (.ref a) m V) Q E s:=by obtain⟨Y,O,r,_,_,_⟩:_:=Rb I.cp e;have U:=sG (by rw[<-l];show r m);show uA I.nq O (c.vm m) k.aey k.fn U h
theorem xZ(I:Aa X J T H s)(e:H a=AA (.ins C W D))(c:Hw X.K C)(n:GA X.K C f)(Y:D.length<1000)(R:Bn y u)(h:∀s',Aa X J T (AO H a (.ins C W (G6 f y D))) s'->Q () s'):As (An X.ai X.w) A (setAttr (.ref a) f u) Q E s:=by
  obtain⟨P,O,r,B,_,Z⟩:_:=Rb I.cp e;have N:(D.map (·.1)).length<=Ay:=by rw[BB];show Ak (B7 Y) (by decide)
  show xY I.nq O c.sa c.po n.ado c.hd B N λG U S=>h _ ?_;have L:∃o,G.get? W=AA o:=let⟨o,_,_,F,_⟩:=U.ns;⟨o,F⟩;show I.vk (by rw[e];show IL) (.inr Z) (λb q K z=>(S.2 b K).trans z) L ?_;show⟨by rw[AW O.ne];show Z,?_,O.ne,U.bz,_,U.ns,λg=>?_,λg M=>?_⟩;.have:=Zb f y D;show Ak this Y
  . rw[Zf];by_cases q:g=f;.rw[AFi q,AFi q];show R
    .rw[AFh q,AFh q];show r g
  . by_cases q:g=f;.rw[q];show(Uw f y D).1
    . show(Uw f y D).2 g (B g λz=>M ?_);change(if g=f then AA u else P g)=AF;rw[AFh q];show z
theorem Yh(I:Aa X D A H s):Aa X D A (AO (AO H s.heap.objs.size (.own (s.heap.objs.size+1))) (s.heap.objs.size+1) (.ins C s.heap.objs.size [])) {s with heap:=(s.heap.push dU).push (Sb C s.heap.objs.size)}:=by
 have J:(s.heap.push dU).get? _=AA _:=Gk _ rfl;have W:=by have:=Gk (s.heap.push dU) (o:=Sb C s.heap.objs.size) rfl;rwa[AA4]at this
 have Y:(s.heap.push _).Ns _ _:=⟨_,#[],_,J,rfl,(λe Z=>absurd Z (by simp)),λ_=>rfl⟩;have V:=I.nu (o:=.own (s.heap.objs.size+1)) (t':=s.toks) (λb u q=>DC _ q) (Al _) ⟨_,J⟩;show V.nu (λb u q=>DC _ q) (Bo (AA4 _ _)) ?_;have U:s.heap.objs.size≠s.heap.objs.size+1:=Dz (OH _);show⟨by rw[AW U,Ac],Bd _,U,W,_,(Heap.Ns1.of_empty Y).at λo q=>DC _ q,λ_=>IL,λy z=>absurd rfl z⟩
theorem sP(U:J3 e f env (BY e env)=BY e env)(h:As (An prog w) A (BY e env) (λo D=>As (An prog w) A (getAttr o f AJ) Q E D) E s):As (An prog w) A (BY (.Attribute e f J) env) Q E s:=Attribute_any_ h (by rw[arm_eval_Attribute,U])
inductive Yg(K:Aq)(H:AI)(f:AG):AE->AE->Prop|mk{a C dx:AD}{fs:List (AG×AE)}{v:AE}(e:H a=AA (.ins C dx fs))(c:Hw K C)(n:GA K C f)(l:fs.lookup f=AA v):Yg K H f (.ref a) v
def VP(K:Aq)(J:Az)(f:AG):Az:=λU H Q=>J U H λx D=>Ft (λv=>Yg K D f x v) (λv=>Q v D)
def aL(K:Aq)(Z z:Az)(f:AG):Cw:=λD V H=>z V H λy Y=>Z V Y λx W=>RT (λa C U J=>x=.ref a) (λa C U J=>W a=AA (.ins C U J)) (λ_ C _ _=>Hw K C) (λ_ C _ _=>GA K C f) (λ_ _ _ J=>J.length<1000) (λa C U J=>D.nx V (AO W a (.ins C U (G6 f y J))))
theorem Z0(z:Ao X e E)(Z:J3 e f X.af (BY e X.af)=BY e X.af):Ao X (.Attribute e f A) (VP X.K E f):=by intro J s F H Q I h;show sP Z (A1 (z _ s F H _ I h) λu s1 D=>?_);obtain⟨x,U,V,C,v,g,q⟩:_:=D;cases g with|mk Y c n l=>obtain rfl:u=DV _:=C;show uB V Y c n l λG s2 W B=>⟨v,U,W,B,q⟩
theorem w9(G:Ao X o Q)(L:Ao X J R)(K:MP J (AA (.Attribute o f U)) V.line X.af=Bf AQ):D6 X (.Assign [.Attribute o f U] J V) (aL X.K Q R f):=by intro Y s W H D I h;show plainObj_wpAny_Assign_Attribute (A1 (L _ s W H _ I h) λu s1⟨y,Z,z,P,q⟩=>A1 (G _ s1 W Z _ z q) λM s2⟨x,S,A,O,a,C,T,b,F,E,c,n,l,N⟩=>?_) K;subst F;obtain rfl:M=DV a:=O;show xZ A E c n l P λs3 B=>⟨W,_,B,N⟩
section
variable{H:AI}
inductive Ic(K:Aq)(H:AI):AE->AK->Prop where|non:Ic K H .non (.type "NoneType")|bl(x:Bool):Ic K H (.bl x) (.type "bool")|int(i:Int):Ic K H (.int i) (.type "int")|str(x:AG):Ic K H (.str x) (.type "str")|flt(x:UInt64):Ic K H (.flt x) (.type "float")|lst{a:AD}{xs:List AE}(e:H a=AA (.lst xs)):Ic K H (.ref a) (.type "list")|frz{a:AD}{o:BC}{xs:List AE}(e:H a=AA (.frz o (.lst xs))):Ic K H (.ref a) (.type "list")|tup{a:AD}{xs:List AE}(e:H a=AA (.tup xs)):Ic K H (.ref a) (.type "tuple")|dK{a:AD}{kvs:List (AL×AE)}(e:H a=AA (.dK kvs)):Ic K H (.ref a) (.type "dict")|dT{a:AD}{kvs:List (List AL×AE)}(e:H a=AA (.dT kvs)):Ic K H (.ref a) (.type "dict")|ins{a C dx:AD}{fs:List (AG×AE)}(e:H a=AA (.ins C dx fs))(cl:Hw K C)(ha:IJ K (.ref C) "__class__"=AA (AA (.builtin "object.__class__")))(hn:W.specialIn K (.builtin "object.__class__") "__get__"=AA (AA (.builtin "getset_descriptor.__get__")))(htk:W.takesIn K (.builtin "object.__class__")=AA AJ)(hm:W.mroIn K C (.type "object")=AA AJ):Ic K H (.ref a) (.ref C)
end
theorem uL(I:Aa X pins σ H s)(rx:Bn x u)(ty:Ic X.K H x t)(e:MO X.K t c=AA b)(h:∀tk,Q (.bool b) {s with toks:=tk}):As (An X.ai X.w) A (Jb (.builtin "isinstance") [u,c]) Q E s:=by cases ty with|non=>cases(show u=AA8 from rx);show Kl W.kitx_none I.nq IL e (λz=>nomatch z) h|bl y=>cases(show u=SW y from rx);show Kl W.kitx_bool I.nq IL e (λz=>nomatch z) h|int i=>obtain⟨t,q⟩:=(show∃t,u=SX i t from rx);cases q;show Kl W.kitx_int I.nq IL e (λz=>nomatch z) h|str y=>obtain⟨t,q⟩:=(show∃t,u=SY y t from rx);cases q;show Kl W.kitx_str I.nq IL e (λz=>nomatch z) h|flt y=>obtain⟨t,q⟩:=(show∃t,u=AA7 y t from rx);cases q;show Kl W.kitx_float I.nq IL e (λz=>nomatch z) h|@lst a xs ea=>lk;cases(show u=DV a from rx);obtain⟨_,_,n,_,h1⟩:=(show DL _ _ H _ a _ from I.cp a _ ea);k_in;show Kl AEA I.nq ⟨_,h1,rfl⟩ e (λz=>nomatch z) h|@frz a ob xs ea=>lk;cases(show u=DV a from rx);obtain⟨_,_,_,n,_,h1⟩:=(show DL _ _ H _ a _ from I.cp a _ ea);k_in;show Kl AEA I.nq ⟨_,h1,rfl⟩ e (λz=>nomatch z) h|@tup a xs ea=>lk;cases(show u=DV a from rx);obtain⟨_,_,_,p⟩:=(show DL _ _ H _ a _ from I.cp a _ ea);obtain⟨o,h1,h2,_⟩:=p;k_in;show Kl W.kitx_tuple I.nq ⟨o,h1,h2⟩ e (λz=>nomatch z) h|@dK a kvs ea=>lk;cases(show u=DV a from rx);obtain⟨_,_,vs,_,p⟩:=(show DL _ _ H _ a _ from I.cp a _ ea);obtain⟨o,es,ep,h1,h2,_⟩:=p;k_in;show Kl AD9 I.nq ⟨o,h1,h2.1⟩ e (λz=>nomatch z) h|@dT a kvs ea=>lk;cases(show u=DV a from rx);obtain⟨_,_,xs,_,o,es,ep,h1,h2,_⟩:=(show DL _ _ H _ a _ from I.cp a _ ea);k_in;show Kl AD9 I.nq ⟨o,h1,h2.1⟩ e (λz=>nomatch z) h|@ins a C dx fs ea cl ha hn htk hm=>lk;cases(show u=DV a from rx);obtain⟨mA,O,_⟩:=Rb I.cp ea;obtain⟨od,J,_⟩:=O.abg;k_in;show Kl (W.kitx_own (cl.vm _) cl.hd ha hn htk hm) I.nq J e (λz=>nomatch z) h
structure DW(k:Nat)(A:Ck):Prop where
 hd:A.handled=AF
 dp:A.depth+3*k+5<AEW
 un:A.units+16*k+200<F2
theorem DW.yx(r:DW k A)(h:j<=k):DW j A:=⟨r.hd,by have:=r.dp;lia,by have:=r.un;lia⟩
theorem DW.abv(r:DW (k+1) A)(env:Dl):DW k (A.deeper env):=⟨r.hd,by have:=r.dp;change A.depth+1+3*k+5<_;lia,by have:=r.un;change A.units+3+16*k+200<_;lia⟩
theorem DW.ada(r:DW (k+1) A):DW k A.in1:=⟨r.hd,by have:=r.dp;lia,by have:=r.un;lia⟩
theorem vN{A:Ck}:(A.under (.builtin "type.__call__" ⟨.ref C::J,D⟩)).depth=A.depth+1:=by first|rfl|simp
theorem vO{A:Ck}:(A.under (.builtin "type.__call__" ⟨.ref C::J,D⟩)).units=A.units+1:=by first|rfl|simp
theorem DW.aaq(r:DW (k+1) A)(C:AD)(J:List AK)(D:List (AG×AK)):DW k (A.under (.builtin "type.__call__" ⟨.ref C::J,D⟩)):=⟨r.hd,by have:=r.dp;rw[vN];lia,by have:=r.un;rw[vO];lia⟩
theorem DW.acw(r:DW k A):A.depth<AEW:=by have:=r.dp;lia
theorem DW.kz(r:DW k A):A.units+64<F2:=by have:=r.un;lia
theorem DW.rj(r:DW k A):A.units<F2:=by have:=r.un;lia
def VQ:Fc:=λ_ H Q=>Q [] H
def yP(V:Az)(W:Fc):Fc:=λD H Q=>V D H λx J=>W D J λY U=>Q (x::Y) U
theorem Eg:GR X [] VQ:=λ_ _ _ _ H Q I h=>P9 ⟨[],H,I,.nil,h⟩
theorem Zt(B:Ao X e L)(C:GR X U t)(E:CQ (e::U) X.af=(AQ,BY e X.af)::CQ U X.af:=by rfl):GR X (e::U) (yP L t):=by intro F V s W H Q I h;rw[E];show OL (A1 (B _ s W H _ I h) λu s1 D=>?_);obtain⟨x,Y,z,r1,G⟩:_:=D;show A1 (C _ _ s1 W Y _ z G) λM s2 J=>?_;obtain⟨N,Z,A,r2,K⟩:_:=J;show⟨_,Z,A,.cons r1 r2,K⟩
local macro_rules | `(#v[]) => `(Eg) | `(#v[$x]) => `(Zt $x Eg) | `(#v[$x,$xs,*]) => `(Zt $x #v[$xs,*])
def zI(t:Fc):Az:=λU H Q=>t U H λJ D=>J.length<=Ay/\∀p,D p=AF->Q (.ref p) (AO D p (.tup J))
def y4(t:Fc):Az:=λU H Q=>t U H λJ D=>J.length<=Ay/\∀p,D p=AF->Q (.ref p) (AO D p (.lst J))
theorem Cq(h:GR X V t):Ao X (.Tuple V B Z) (zI t):=by intro U s C H Q I Y;show wpAny_Tuple_spliced (A1 (h _ _ s C H _ I Y) λA s1 D=>?_);obtain⟨F,E,J,r,z,q⟩:_:=D;show⟨by rw[<-r.ar];show z,?_⟩;have W:=J.cp.bw (Al _);show⟨.ref _,_,J.nu (λb u e=>DC _ e) (Al _) ?_,rfl,q _ W⟩;show⟨z,A,r,⟨_,Gk _ rfl,rfl,_,rfl⟩⟩
theorem Cy(h:GR X V t):Ao X (.List V Z) (y4 t):=by intro U s B H Q I Y;show wpAny_List_spliced (A1 (h _ _ s B H _ I Y) λA s1 D=>?_);obtain⟨E,C,J,r,z,q⟩:_:=D;show⟨by rw[<-r.ar];show z,?_⟩;have W:=J.cp.bw (Al _);show⟨.ref _,_,J.nu (λb u e=>DC _ e) (Al _) ?_,rfl,q _ W⟩;show⟨z,A,0,r,Gk _ rfl⟩
abbrev BG:=List AE->AI->Bh->Fu->Prop
abbrev Ia:=List Dl->AI->AV->Fu->AK->AV->Prop
structure Lk(P:CN)(w:Bu)(K:Aq)(mg:AG->Option AK)(base:BJ)(A:Ck)(outer:List Dl)(s:AV)(H:AI):Prop where
 il:A.frames=AA outer
 uk:RG K mg base
 bs:∀b o,base.get? b=AA o->s.heap.get? b=AA o/\H b=AF
 aam:base.objs.size<=s.heap.objs.size
 nh:s.heap.FunFrames base outer
 abb:∀b∈DU outer,H b=AF
 cp:DG P w H s.heap
 iu:MJ s.gens
def UL(D:List Dl)(P:CN)(w:Bu)(H:AI)(s:AV)(Q:Bh)(u:AK)(s':AV):Prop:=RR (λv J=>s'.os=s.os) (λ_ _=>MJ s'.gens) (λ_ J=>Ge (DU D) [] H J s.heap s'.heap) (λ_ J=>DG P w J s'.heap) (λv _=>Bn v u) (λv J=>Q v J)
def rY(CX:Ia)(D:List Dl)(P:CN)(w:Bu)(H:AI)(s:AV)(Q:Bh)(E:Fu)(r:dJ)(s':AV):Prop:=match r with|.ok (.ret u)=>UL D P w H s Q u s'|.ok _=>False|.error e=>CX D H s E e s'
structure HN(P:CN)(w:Bu)(K:Aq)(mg:AG->Option AK)(base:BJ)(CX:Ia)(k:Nat)(f:AD)(fd:Iv)(ps:List AG)(sp:BG):Prop where
 dh:∀vs H Q E,sp vs H Q E->vs.length=ps.length
 adl:∀(A:Ck)(outer:List Dl)(s:AV)(H:AI)(args:Args)(us:List AK)(vs:List AE)(Q:Bh)(E:Fu),DW k A->Lk P w K mg base A outer s H->SS s fd args (ps.zip us)->Bb vs us->sp vs H Q E->NI (An P w) A (.call (.ref f) args) (rY CX outer P w H s Q E) s
theorem Lk.aaq{K:Aq}(e:Lk P w K J base A D s H)(C:AD)(V:List AK)(U:List (AG×AK)):Lk P w K J base (A.under (.builtin "type.__call__" ⟨.ref C::V,U⟩)) D s H:=⟨by first|show e.il|(simpa[pushEnvs]using e.frames),e.uk,e.bs,e.aam,e.nh,e.abb,e.cp,e.iu⟩
theorem Lk.ada{K:Aq}(e:Lk P w K J base A D s H):Lk P w K J base A.in1 D s H:=⟨e.il,e.uk,e.bs,e.aam,e.nh,e.abb,e.cp,e.iu⟩
theorem Aa.abd(I:Aa X D J H s):Lk X.ai X.w X.K X.mg X.ag X.A X.cg s H:=⟨I.ok.il,I.ok.uk,I.bs,Ak I.ok.aam I.sz,I.cg,I.wx,I.cp,I.iu⟩
theorem Aa.zo(I:Aa X J A H s)(h:UL X.cg X.ai X.w H s Q u s'):FZ X J A Q u s':=by lk;obtain⟨v,W,Y,D,Z,U,r,q⟩:=h;obtain⟨B,g,d,t,V⟩:=s';obtain rfl:V=s.os:=Y;k_in;show⟨v,W,I.acu Z U D (λb z=>absurd z (by simp)),r,q⟩
def yO(sp:BG)(D:List AE)(E:Fu)(t:Fc):Az:=λW H Q=>t W H λU J=>sp (U++D) J Q E
def aY(C:AD)(m:AG)(sp:BG)(J:List AE)(E:Fu)(z:Az)(t:Fc):Az:=λY H Q=>z Y H λx U=>PK (λa W D=>x=.ref a) (λa W D=>U a=AA (.ins C W D)) (λ_ _ D=>D.lookup m=AF) (λ_ _ _=>t Y U λA Z=>sp (x::(A++J)) Z Q E)
def aX(C:AD)(sp:BG)(U:List AE)(E:Fu)(t:Fc):Az:=λZ H Q=>t Z H λY J=>∀x D,J x=AF->J D=AF->D≠x->sp (.ref x::(Y++U)) (AO (AO J D (.own x)) x (.ins C D [])) (λv W=>v=.non/\Q (.ref x) W) E
def Lj(K:Aq)(U:Iv)(ps:List AG)(J:List AK):Prop:=∀(s:AV)(D:List AK),K.In s.heap->(D++J).length=ps.length->SS s U ⟨D,[]⟩ (ps.zip (D++J))
theorem Lj.zp{K:Aq}(h:∀D:List AK,D.length=ps.length->ABM J ⟨D,[]⟩=Bf (ps.zip D)):Lj K J ps []:=λs D _ U=>by rw[Ew]at U⊢;show .of_eq (h D U)
def Nq(CX:Ia)(X:Be)(E:Fu):Prop:=∀(D:List (AD×BC))(U:Ai)(H:AI)(s:AV)(e:AK)(J:AV),Aa X D U H s->CX X.cg H s E e J->X.xe e J
section
variable{X:Be}{CX:Ia}{k:Nat}{f:AD}{fd:Iv}{ps:List AG}{sp:BG}{dvs:List AE}{ds:List AK}{E:Fu}{e:BO}
set_option tactic.hygienic true in theorem VL{pins:List (AD×BC)}{σ:Ai}{H:AI}{s:AV}{Q:Bh}{J:List AK}{vs:List AE}(F:HN X.ai X.w X.K X.mg X.ag CX k f fd ps sp)(Z:DW k X.A)(U:Lj X.K fd ps ds)(W:Bb dvs ds)(z:Nq CX X E)(I:Aa X pins σ H s)(r:Bb vs J)(h:sp (vs++dvs) H Q E):As (An X.ai X.w) X.A (Jb (.ref f) J) (FZ X pins σ Q) X.xe s:=by
 have r2:=r.pz W;have Y:(J++ds).length=ps.length:=by rw[<-r2.ar];show F.dh _ _ _ _ h
 show WC (QK (F.adl _ _ s H _ _ _ Q E Z I.abd (U s J I.nq Y) r2 h) λr s' D=>?_);cases r with|error e=>show z _ σ H s e s' I D|ok fl=>cases fl with|ret u=>show I.zo D|next=>show FW D|brk=>show FW D|cont=>show FW D
end
section
variable{f C:AD}
structure O9(K:Aq)(C f:AD):Prop where
 abm:AEC K C=AJ
 adb:IJ K (.ref C) "__init__"=AA (AA (.ref f))fn:ABD K (.ref f)=AJ
 kp:Se K (.ref C)=AJ
end
section
variable{X:Be}{CX:Ia}{k:Nat}{f C:AD}{fd:Iv}{ps:List AG}{sp:BG}{dvs:List AE}{ds:List AK}{E:Fu}{x:AG}{e:BO}
set_option tactic.hygienic true in theorem aK{pins:List (AD×BC)}{σ:Ai}{H:AI}{s:AV}{Q:Bh}{U:List AK}{vs:List AE}(M:O9 X.K C f)(F:HN X.ai X.w X.K X.mg X.ag CX k f fd ps sp)(G:DW (k+1) X.A)(z:Lj X.K fd ps ds)(A:Bb dvs ds)(K:Nq CX X E)(I:Aa X pins σ H s)(r:Bb vs U)(h:∀x dx,H x=AF->H dx=AF->dx≠x->sp (.ref x::(vs++dvs)) (AO (AO H dx (.own x)) x (.ins C dx [])) (λv H2=>v=.non/\Q (.ref x) H2) E):As (An X.ai X.w) X.A (Jb (.ref C) U) (FZ X pins σ Q) X.xe s:=by
 have W:=h _ _ (I.cp.bw (OG _)) (I.cp.bw (Al _)) (Dz (OH _));have J:=Yh (C:=C) I;have r2:Bb (AE.ref (s.heap.objs.size+1)::(vs++dvs)) _:=.cons rfl (r.pz A);have B:=by have e:=r2.ar;rw[F.dh _ _ _ _ W]at e;show e.symm
 show WC (Zi I.nq M.abm M.adb (AFs.mp M.fn) (QK (F.adl _ _ _ _ _ _ _ _ E (G.aaq C U []) (J.abd.aaq C U []) (z _ _ J.nq B) r2 W) λr s' D=>?_));cases r with|error e=>show K _ σ _ _ e s' J D|ok fl=>cases fl with|ret u=>obtain⟨v,H',Y,N,Z,L⟩:_:=J.zo D;subst Z;show⟨N,⟨AE.ref _,H',Y,rfl,L⟩⟩|next=>show FW D|brk=>show FW D|cont=>show FW D
end
structure Lm(N P:List AG)(sc:Fj):Prop where
 jf:sc.kind=.function
 co:sc.isCoroutine=AQ
 afa:sc.isGenerator=AQ
 nd:N.Nodup
 aej:N.take P.length=P
 aew:∀x∈P,sc.names.lookup x=AA .local\/sc.names.lookup x=AA .cell
 acb:∀y∈sc.names,y.2≠.free
theorem Yz:∀{D:List (AG×AK)}{m:AG->Option AK},(∀v,(x,v)∉D)->QG J D m x=m x
  |[],_,_=>rfl|(n,v)::r,m,h=>by
    unfold QG;rw[Yz λw hw=>h w (Ek _ hw)];split
    . have:x≠n:=by rintro rfl;show h v DO
      simp[this]
    .rfl
theorem Yx:∀{D:List (AG×AK)}{m:AG->Option AK},(∀v,(x,v)∉D)->QF J D m x=m x
  |[],_,_=>rfl|(n,v)::r,m,h=>by
    unfold QF;rw[Yx λw hw=>h w (Ek _ hw)];split;.rfl
    . have:x≠n:=by rintro rfl;show h v DO
      simp[this]
theorem Yy:∀{P:List AG}{vs:List AK}{i:Nat}{m:AG->Option AK},P.Nodup->P[i]?=AA x->vs[i]?=AA v->D x=AA .local->QG D (P.zip vs) m x=AA v|[],_,_,_,_,h,_,_=>by simp at h|_::_,[],_,_,_,_,h,_=>by simp at h|p::P,w::vs,0,m,W,J,U,V=>by simp at J U;subst J;subst U;change QG _ ((p,w)::P.zip vs) m p=_;unfold QG;rw[Yz λv Y=>(Kb.mp W).1 (bW Y).1,AFi V];simp|p::P,w::vs,i+1,m,W,J,U,V=>by unfold QG;show Yy (Kb.mp W).2 (by simpa using J) (by simpa using U) V
theorem Yw:∀{P:List AG}{vs:List AK}{i:Nat}{m:AG->Option AK},P.Nodup->P[i]?=AA x->vs[i]?=AA v->D x≠AA .local->QF D (P.zip vs) m x=AA v|[],_,_,_,_,h,_,_=>by simp at h|_::_,[],_,_,_,_,h,_=>by simp at h|p::P,w::vs,0,m,W,J,U,V=>by simp at J U;subst J;subst U;change QF _ ((p,w)::P.zip vs) m p=_;unfold QF;rw[Yx λv Y=>(Kb.mp W).1 (bW Y).1,AFh V];simp|p::P,w::vs,i+1,m,W,J,U,V=>by unfold QF;show Yw (Kb.mp W).2 (by simpa using J) (by simpa using U) V
noncomputable def LJ(N:List AG)(vs:List AE):Ai:=vs.map AA++FI (N.length-vs.length) AF
noncomputable def FG(CX:Ia)(P:CN)(w:Bu)(K:Aq)(Z:AG->Option AK)(base:BJ)(N:List AG)(U:AG)(D:Fj)(f:AD)(W:AK)(A:Ck)(J:List Dl)(s:AV)(H:AI)(E:Fu):Be where
 ai:=P
 w:=w
 K:=K
 mg:=Z
 ag:=base
 A:=A.deeper (GW U D s.heap.objs.size f W)
 N:=N
 s₀:=s
 H₀:=H
 af:=GW U D s.heap.objs.size f W
 kx:=J
 cg:=GW U D s.heap.objs.size f W::J
 ex:=[]
 ic:=AJ
 fn:=λ_=>AJ
 pn:=[]
 xe:=λe z=>As (An P w) (A.deeper (GW U D s.heap.objs.size f W)) (d9 (GW U D s.heap.objs.size f W) e) (λ_ V=>CX J H s E e V) (λY V=>CX J H s E Y V) z
theorem Y4{D:Fj}(h:D.names.lookup x=AA .cell):∃c,(ABP n D.names []).lookup x=AA c:=by have q:=AD1 _ n [] (.inl h);show Vq.mp q
theorem uK{K:Aq}(S:Lm N ps D)(d:A.handled=AF)(Y:Lk P w K O base A J s H)(g:vs.length=ps.length)(r:Bb vs Q)(x:InCallC s s.heap.objs.size (QG (GW U D s.heap.objs.size f G).kindOf (ps.zip Q) λ_=>AF) (ABP (s.heap.objs.size+1) D.names []) (QF (GW U D s.heap.objs.size f G).kindOf (ps.zip Q) λ_=>AF) s1):Aa (FG CX P w K O base N U D f G A J s H E) [] (LJ N vs) H s1:=by
  have M:=by have:=AFj MD S.aej;rw[Ej]at this;show AFv this.symm (Vn _ _)
  obtain⟨I,m,rfl,R⟩:_:=x.done;have Z:∀b:AD,b∉(FG CX P w K O base N U D f G A J s H E).ex:=λb z=>absurd (show b∈([])from z) (by simp);show⟨⟨Y.uk,S.jf,rfl,rfl,Al _,λy z c I W=>?_,λy C=>?_,λy c _ h=>?_,λ_=>d,Around.frames_deeper Y.il,.inr ⟨rfl,rfl⟩,λb z=>absurd z (Z b),Y.bs,Y.aam,λb _ _=>Z b,λb z=>absurd z (Z b),Y.nh,Y.abb⟩,rfl,Y.iu,RN R,⟨_,x.toInCall.ns,λi y v I W l=>?_⟩,λy c h=>⟨_,x.cell y c h⟩,Y.cp.bw (Al _),λy c h=>?_,λp B=>absurd (show p∈([])from B) (by simp),Y.cp.ip R,?_⟩;.show name_of_addr x.apart (QM I) (QM W)
  . rcases C with C|C;.show Y4 C
    .show absurd rfl (S.acb _ (QM C))
  .show B7 (x.above y c (QM h))
  . have L:i<vs.length:=by
      unfold LJ at W;by_cases L:i<vs.length;.show L
      . rw[Py (by simpa using L)]at W;rw[ACc]at W;split at W<;>cases W
    have X:vs[i]?=AA v:=by unfold LJ at W;rw[OC (by simpa using L),CD]at W;cases e:vs[i]? with|none=>rw[e]at W;cases W|some a=>rw[e]at W;cases W;rfl
    obtain⟨u,T,j⟩:_:=r.vm X;have B:ps[i]?=AA y:=by rw[<-S.aej,bQ (by simp_all)];show I
    have F:ps.Nodup:=by rw[<-S.aej];show S.nd.sublist (ACr _ _)
    show⟨u,j,?_⟩;rcases S.aew y (Ct B)with k|k;.show .inl ⟨k,Yy F B T k⟩
    . obtain⟨c,e⟩:=Y4 k;show .inr ⟨.inl k,c,e,?_⟩;have q:=x.cell y c e;rw[Yw F B T (by change D.names.lookup y≠_;rw[k];decide)]at q;show q
  .show Y.cp.bw (B7 (x.above y c (QM h)))
  . unfold LJ;rw[CI,BB,ACe];show Iq (Ak (Bo g) M)
set_option tactic.hygienic true in theorem ZL{CX:Ia}{P:CN}{w:Bu}{K:Aq}{mg:AG->Option AK}{base:BJ}{k:Nat}{f:AD}{name qual:AG}{params:Arguments}{body:List Cj}{scope:Fj}{dV kV doc pm cdv ct oc:AK}{an od:Option AD}{osl:Array (Option AK)}{N ps:List AG}{sp:BG}(lk:K.lookup f=AA ⟨oc,od,.func (OM name qual params body scope dV kV doc pm an cdv ct),osl⟩)(hcd:dS K cdv qual=AJ)(S:Lm N ps scope)(len:∀vs H Q E,sp vs H Q E->vs.length=ps.length)(hbody:∀(A:Ck)(outer:List Dl)(s:AV)(H:AI)(vs:List AE)(Q:Bh)(E:Fu),DW k (A.deeper (GW qual scope s.heap.objs.size f cdv))->sp vs H Q E->∃t,FC (FG CX P w K mg base N qual scope f cdv A outer s H E) body t/\t {nx:=λ_ H'=>Q .non H',rt:=Q} (LJ N vs) H):HN P w K mg base CX (k+1) f (OM name qual params body scope dV kV doc pm an cdv ct) ps sp:=by
 show⟨len,λA outer s H args us vs Q E hr e0 hb r hsp=>?_⟩;have hl:=len _ _ _ _ hsp;have KX:=e0.uk.abx.keeps λb o e=>(e0.bs b o e).1;have lim:=e0.uk.abi.keeps λb o e=>(e0.bs b o e).1;have hkind:∀y∈ps.zip us,scope.names.lookup y.1=AA _\/(scope.names.lookup y.1=AA _/\((ABP (s.heap.objs.size+1) _ []).lookup y.1).isSome=AJ):=λ⟨n,v⟩hy=>by
  rcases S.aew n (bW hy).1 with q|q;.show .inl q
  .show .inr ⟨q,AD1 _ _ _ (.inl q)⟩
 show codeAny_call_function hr.acw (KX _ _ lk) rfl S.co S.afa rfl (W.codeRec_of KX hcd) (hb _ _ _ _ ?_);show wpAny_newFunctionEnv_cells S.jf hkind λenv he s1 x=>?_;subst he;show⟨lim.keeps x.toInCall.keep,codeAny_func ?_⟩;obtain⟨t,ht,hq⟩:_:=hbody A _ s H vs Q E (hr.abv _) hsp;have I:Aa (FG CX P w K mg _ N _ _ f _ A _ s H E) [] _ H s1:=uK S hr.hd e0 hl r x;show FV (ht [] s1 _ H _ I hq) (λfl s' hs=>?_) λe s' hs=>hs;have fin:∀{σ':Ai}{H':AI}{v:AE}{u:AK},Aa (FG CX P w K mg base N qual scope f cdv A _ s H E) [] σ' H' s'->Bn v u->Q v H'->UL outer P w H s Q u s':=λ{σ' H' v u}J rv q=>⟨v,H',J.os,J.iu,J.ag,J.cp,rv,q⟩;cases fl with|ret u=>obtain⟨v,σ',H',J,rv,q⟩:_:=hs;show fin J rv q|next=>obtain⟨σ',H',J,q⟩:_:=hs;show fin (v:=AE.non) J rfl q|brk=>obtain⟨_,_,_,q⟩:_:=hs;show FW q|cont=>obtain⟨_,_,_,q⟩:_:=hs;show FW q
def aT(r:List AE->AI->Bh->Prop)(t:Fc):Az:=λU H Q=>t U H λJ D=>r J D Q
theorem Bw{x:AG}{id:String}(B:Ez X (.builtin id) r)(E:Fq X x)(F:X.mg x=AF)(K:QH x=AA (.builtin id))(A:GR X (e::D) t)(G:x≠"__name__":=by decide)(J:(x==("__debug__":AG))=AQ:=by decide)(C:CQ (e::D) X.af=(AQ,BY e X.af)::CQ D X.af:=by rfl)(U:(FU V (CQ D X.af)).any (·.1)=AQ:=by rfl):Ao X (.Call (.Name x p) (e::D) [] V) (aT r t):=by intro W s Y H Q I h;show OQ (KU I E F K ?_ G J);show AEq (A1 (A _ _ s Y H _ I h) λM s1⟨N,Z,z,r1,L⟩=>B _ s1 Y Z N M Q z r1 L) C U
theorem JV{x:AG}(B:Ez X (.type T) r)(E:Fq X x)(F:X.mg x=AF)(K:QH x=AA (.type T))(A:GR X (e::D) t)(G:x≠"__name__":=by decide)(J:(x==("__debug__":AG))=AQ:=by decide)(C:CQ (e::D) X.af=(AQ,BY e X.af)::CQ D X.af:=by rfl)(U:(FU V (CQ D X.af)).any (·.1)=AQ:=by rfl):Ao X (.Call (.Name x p) (e::D) [] V) (aT r t):=by intro W s Y H Q I h;show OQ (KU I E F K ?_ G J);show P5 (A1 (A _ _ s Y H _ I h) λM s1⟨N,Z,z,r1,L⟩=>B _ s1 Y Z N M Q z r1 L) C U
theorem fY(R:Vt s.heap t vs.toArray)(N:Vt s.heap b J.toArray)(F:vs≠[])(L:J=[]->Q (.ref t) s)(M:J≠[]->Q (.ref s.heap.objs.size) {s with heap:=s.heap.push {cls:=.type "tuple",data:=.seq (vs++J).toArray}})(Z:vs.length+J.length<=Ay):As (An prog w) A (G9 .Add (.ref t) (.ref b)) Q E s:=by
 lk;obtain⟨⟨I,C,B,H⟩,U,O,n,P⟩:=id R;obtain⟨⟨z,K,V,S⟩,D,W,G,Y⟩:=id N;k_in;subst O P W Y;have e:vs.toArray++J.toArray=(vs++J).toArray:=by simp
 by_cases hw:J=[]
 .show concat_meets ⟨_,U,rfl⟩ ⟨_,D,rfl⟩ AEU AEY ADg ADY (ADU _ _) (tuple_addW1 t b _ _ n G C _ H _ (by simpa using F) (by simp[hw])) ⟨U,D,L hw⟩
 . show concat_meets ⟨_,U,rfl⟩ ⟨_,D,rfl⟩ AEU AEY ADg ADY (ADU _ _) (tuple_addW2 t b _ _ n G C _ H _ (by simpa using F) (by simpa using hw) (by show Z)) ⟨U,D,?_⟩;rw[e];show M hw
noncomputable def CT(n d:Nat):Option Int->Nat|AF=>d|AA v=>if v<0 then(v+(n:Int)).toNat else Ds v.toNat n
theorem gH(n d k:Nat):CT n d (AA (k:Int))=Ds k n:=by change(if(k:Int)<0 then((k)+(n:Int)).toNat else Ds _ n)=Ds k n;rw[AFh (ACJ _),Int.toNat_natCast]
theorem WK(v:Int)(n d:Nat):(if v<0 then Ke (v+(n:Int)) 0 else Ds v (n:Int))=((CT n d (AA v):Nat):Int):=by
 change(if v<0 then Ke _ 0 else Ds v _)=(((if v<0 then(v+(n)).toNat else Ds _ n):Nat):Int);by_cases D:v<0;.simp only[AFi D];simp
 .lia
theorem fX(lo hi:Option Int)(n:Nat):AAt lo hi 1 (n:Int)=(((CT n 0 lo:Nat):Int),((CT n n hi:Nat):Int)):=by
 have D:¬((1)<0):=by simp
 unfold AAt;show SO ?_ ?_;.cases lo with |none=>rfl|some v=>show WK v n 0
 .cases hi with|none=>rfl|some v=>show WK v n n
theorem gG(i j:Nat):AAu (i:Int) (j:Int) 1=j-i:=by
 unfold AAu;have D:(1)>0:=by simp
 simp;split<;>simp_all
theorem WM(p:NG v o)(h:Q o s):As (An prog w) A (AEu v) Q E s:=by cases p with|none=>show ADK h|int i t=>show slicePart_int h
theorem gI{lo:Option Int}{Q:Int×Int×Nat->AV->Prop}(Z:s.heap.IsSliceOf U V W .none)(z:NG V lo)(B:NG W hi)(h:Q (((CT n 0 lo:Nat):Int),1,CT n n hi-CT n 0 lo) s):As (An prog w) A (AEt (.ref U) (Bf (n:Int))) Q E s:=by obtain⟨C,J,Y,D⟩:_:=id Z;show BL (BL (ABh J D rfl (BL (ABh J D rfl (BL (ABh J D rfl (Cn ?_)))))));show BL (ADK ?_);show BL (WM z (BL (WM B (BL (Cn ?_)))));change As _ _ (match AAt lo hi 1 _ with|(lo,hi)=>Bf (lo,(1:Int),AAu lo hi 1)) _ _ s;rw[fX lo hi n];change As _ _ (Bf _) _ _ s;rw[gG];show Cn h
theorem gD(xs:Array AK)(i k:Nat):((Eb k).filterMap λ(m:Nat)=>xs[((i:Int)+(m:Int)*1).toNat]?).toArray=((xs.toList.drop i).take k).toArray:=by
 have e:(λ(m:Nat)=>xs[((i:Int)+(m)*1).toNat]?)=λm=>xs[i+m]?:=by
  funext m;have:((i)+(m:Int)*1).toNat=i+m:=by lia
  rw[this]
 rw[e];have:=pick_run xs i k;rw[List.filterMap_map]at this;have D:((λx=>xs[x]?)∘λx=>i+x)=λm=>xs[i+m]?:=rfl;rw[D]at this;rw[this]
theorem fZ{lo:Option Int}(U:Vt s.heap t D)(B:s.heap.IsSliceOf z C F .none)(K:NG C lo)(L:NG F hi)(hw:¬(CT D.size 0 lo=0/\CT D.size D.size hi=D.size))(h:Q (.ref s.heap.objs.size) {s with heap:=s.heap.push {cls:=.type "tuple",data:=.seq ((D.toList.drop (CT D.size 0 lo)).take (CT D.size D.size hi-CT D.size 0 lo)).toArray}})(H:D.size<=Ay):As (An prog w) A (OO (.ref t) (.ref z)) Q E s:=by
 have J:=by change((D.toList.drop (CT D.size 0 lo)).take (CT D.size D.size hi-CT D.size 0 lo)).toArray.size<=Ay;rw[ID,Ej,M4,MQ];omega
 obtain⟨I,Z,W,G⟩:_:=id B;have V:s.TypeIs (.ref z) _:=⟨I,Z,W⟩;unfold OO;try with_reducible show QO ?_
 show BL (wpAny_sequenceKey U.typeIs (by decide) ?_);show BL (wpAny_callSpecial?_slot U.typeIs cW (ABf cW U.typeIs entry_tuple_getitem ?_ (args_tuple_getitem _ _)));change As _ _ (AEv _>>=_) _ _ s;show BL (tupleItemsOf_ U ?_);show BL (wpAny_typeOf V ?_);show BL (gI B K L ?_);have Y:¬((((CT D.size 0 lo):Int)==0&&(1:Int)==1&&(CT D.size D.size hi-CT D.size 0 lo)==D.size)=AJ):=by intro q;rw[Qa,Qa]at q;have M:=eq_of_beq q.1.1;show hw ⟨Ko.mp M,by simp_all⟩
 change As _ _ (if(((CT _ 0 lo:Nat):Int)==0&&(1)==1&&(CT _ _ hi-CT _ 0 lo)==D.size)=AJ then _ else _) _ _ s;rw[AFh Y,gD];first|show BL (ABj (Cn ⟨_,rfl,Cn h⟩) J)|show wpAny_bind _|show wpAny_bind _|show wpAny_bind _
abbrev RM:=Ai->AI->(Option Int->AI->Prop)->Prop
def RH(X:Be)(e:Option BO)(t:RM):Prop:=∀(D:List (AD×BC))(s:AV)(U:Ai)(H:AI)(Q:Option Int->AI->Prop),Aa X D U H s->t U H Q->As (An X.ai X.w) X.A (evalPart e X.af) (λu V=>FD (λo J=>Aa X D U J V) (λo _=>NG u o) (λo J=>Q o J)) X.xe s
def y9:RM:=λ_ H Q=>Q AF H
def zE(t:Az):RM:=λJ H Q=>t J H λx D=>Ft (λi=>x=.int i) (λi=>Q (AA i) D)
theorem ZR:∀{D:List AK},Bb (ns.map AE.int) D->SQ D ns:=by induction ns with|nil=>intro D r;cases r;show .nil|cons n ns J=>intro D r;cases r with|cons r1 r2=>obtain⟨t,e⟩:=r1;subst e;show .cons n t (J r2)
theorem JX:RH X AF y9:=by intro D s J H Q I h;show Cn ⟨_,H,I,.none,h⟩
theorem G5(h:Ao X e Y):RH X (AA e) (zE Y):=by intro J s Z H Q I hw;show A1 (h _ s Z H _ I hw) λu s1 D=>?_;lk;obtain⟨x,U,V,r1,W⟩:=D;obtain⟨i,rfl,q⟩:=W;obtain⟨t,rfl⟩:=r1;k_in;show⟨_,U,V,.int i t,q⟩
def Nr(X:Be)(r:AE->Option Int->Option Int->AI->Bh->Prop):Prop:=∀(D:List (AD×BC))(s:AV)(z:Ai)(H:AI)(x:AE)(v Y Z:AK)(U J:Option Int)(W:AD)(Q:Bh),Aa X D z H s->Bn x v->s.heap.IsSliceOf W Y Z .none->NG Y U->NG Z J->r x U J H Q->FD (λT A=>typeLookup (.type T) "__getitem__"=Bf (AA (.builtin A))) (λT _=>s.TypeIs v T) (λ_ _=>As (An X.ai X.w) X.A (OO v (.ref W)) (FZ X D z Q) X.xe s)
def zG(r:AE->Option Int->Option Int->AI->Bh->Prop)(Y:Az)(z Z:RM):Az:=λD H Q=>Y D H λx J=>z D J λl U=>Z D U λu W=>r x l u W Q
theorem IC{lo:Option BO}(P:Nr X r)(M:Ao X e j)(O:RH X lo m)(S:RH X hi k):Ao X (.Subscript e (.Slice lo hi AF p) c) (zG r j m k):=by intro Z s W H Q I h;show AAj (A1 (M _ s W H _ I h) λv s1 D=>?_);obtain⟨x,B,E,r1,f⟩:_:=D;show wpAny_Slice (A1 (O _ s1 W B _ E f) λz s2 J=>?_);obtain⟨l,C,F,a,g⟩:_:=J;show A1 (S _ s2 W C _ F g) λA s3 U=>?_;obtain⟨u,Y,G,d,i⟩:_:=U;show Cn ?_;have K:Aa X _ W Y {s3 with heap:=s3.heap.push {cls:=.type "slice",data:=.fields #[z,A,.none]}}:=G.ip λb o q=>DC _ q;obtain⟨T,n,L,R,N⟩:_:=P _ _ W Y x v z A l u _ Q K r1 (AFL ..) a d i;show tail_any R L N (by with_unfolding_all rfl)
noncomputable def Gw(xs:List AE)(lo hi:Option Int):List AE:=(xs.drop (CT xs.length 0 lo)).take (CT xs.length xs.length hi-CT xs.length 0 lo)
theorem Y8(xs:List AE)(lo hi:Option Int):(Gw xs lo hi).length<=xs.length:=by unfold Gw;rw[Ej,M4];lia
def aE(K:Aq):AE->Option Int->Option Int->AI->Bh->Prop:=λx U J H Q=>JQ (λa D=>x=.ref a) (λa D=>Cb K H a D) (λ_ D=>¬(CT D.length 0 U=0/\CT D.length D.length J=D.length)) (λ_ D=>∀p,H p=AF->Q (.ref p) (AO H p (.tup (Gw D U J))))
theorem yB:Nr X (aE X.K):=by
 intro W s N H x v L M B Z K Q I F z C E h;lk;obtain⟨a,Y,rfl,A,hw,q⟩:=h;cases F;obtain⟨J,r,U,V⟩:=I.gf A;k_in;have D:J.toArray.size=Y.length:=by show r.ar.symm
 show⟨_,_,cW.lookup,U.typeIs,?_⟩;show fZ U z C E (by rw[D];show hw) ?_ (by rw[D];show V);rw[D];show⟨.ref _,_,I.nu (λb G q=>DC _ q) (Al _) ?_,rfl,q _ (I.cp.bw (Al _))⟩;show⟨Ak (Y8 Y B Z) V,_,(r.aae _).adn _,AC4 _ _⟩
def Z8(K:Aq):Dq:=λx y H Q=>Yt (λa b J D=>x=.ref a) (λ_ b _ _=>y=.ref b) (λa _ J _=>Cb K H a J) (λ_ b _ D=>Cb K H b D) (λ_ _ J _=>J≠[]) (λ_ _ J D=>J.length+D.length<=Ay) (λa _ _ D=>(D=[]->Q (.ref a) H)) (λ_ _ J D=>(D≠[]->∀p,H p=AF->Q (.ref p) (AO H p (.tup (J++D)))))
theorem Bb.wu(r:Bb xs D):D=[]↔xs=[]:=by cases r with|nil=>simp|cons _ _=>simp
theorem vY:CP X (G9 .Add) (Z8 X.K):=by intro U s N H x y v u Q I F G h;lk;obtain⟨a,b,L,M,rfl,rfl,V,W,Y,D,C,E⟩:=h;cases F;cases G;obtain⟨Z,r1,A,_⟩:=I.gf V;obtain⟨J,r2,B,_⟩:=I.gf W;k_in;show fY A B (λz=>Y (r1.wu.mp z)) (λz=>⟨.ref a,H,I,rfl,C (r2.wu.mp z)⟩) (λz=>?_) (by rw[<-r1.ar,<-r2.ar];show D);show⟨.ref _,_,I.nu (λb K q=>DC _ q) (Al _) ?_,rfl,E (λw=>z (r2.wu.mpr w)) _ (I.cp.bw (Al _))⟩;show⟨by rw[CI];show D,_,r1.pz r2,AC4 _ _⟩
noncomputable def Ny(n:Nat)(i:Int):Option Nat:=if 0<=i then(if i<n then AA i.toNat else AF)else if-(n:Int)<=i then AA (i+n).toNat else AF
noncomputable def DM(xs:List D)(i:Int):Option D:=(Ny xs.length i).bind λj=>xs[j]?
theorem uO(h:Ny n i=AA j):seqIndex? i n=AA j/\j<n/\-(n:Int)<=i/\i<n:=by
  unfold Ny at h;by_cases J:0<=i
  . rw[AFi J]at h;by_cases D:i<n
    . rw[AFi D]at h;have e:=Bz h;show⟨by rw[seqIndex_of J D,e],by lia,Eo (Int.neg_ofNat_le_ofNat _ _) J,D⟩
    .rw[AFh D]at h;cases h
  . rw[AFh J]at h;by_cases D:-(n)<=i;. rw[AFi D]at h;have e:=Bz h;show⟨by rw[seqIndex_neg (by simp_all) D,e],by lia,D,Qd (Ss J) (Int.neg_lt_zero_iff.mp (HG D (Ss J)))⟩
    .rw[AFh D]at h;cases h
theorem UZ{xs:List D}(h:DM xs i=AA v):∃j,seqIndex? i xs.length=AA j/\xs[j]?=AA v/\j<xs.length/\-(xs.length:Int)<=i/\i<xs.length:=by unfold DM at h;cases e:Ny _ i with|none=>rw[e]at h;cases h|some j=>rw[e]at h;obtain⟨J,U,V,W⟩:_:=uO e;show⟨j,J,h,U,V,W⟩
theorem Ap{D:Type}{xs:List D}{j:Nat}{v:D}(h:xs[j]?=AA v):DM xs (j:Int)=AA v:=by
 have J:=(BV.mp h).1;have e:Ny xs.length (j)=AA j:=by unfold Ny;rw[AFi (by simp),AFi (by simp_all)];simp
 unfold DM;rw[e];show h
def UT(b:BO):Prop:=∀o i,eO b AQ o i=operate [o,i] (OO o i)
def Nn(X:Be)(r:Dq):Prop:=∀(U D:BO)(J:List (AD×BC))(s:AV)(W:Ai)(H:AI)(x y:AE)(v u:AK)(Q:Bh),Aa X J W H s->Bn x v->Bn y u->r x y H Q->eO D AQ v u=operate [v,u] (OO v u)->As (An X.ai X.w) X.A (subscriptTail U D v u) (FZ X J W Q) X.xe s
def PB(X:Be)(id:String)(r:AE->List AE->AI->Bh->Prop):Prop:=∀(D:List (AD×BC))(s:AV)(W:Ai)(H:AI)(x:AE)(U:List AE)(v:AK)(J:List AK)(Q:Bh),Aa X D W H s->Bn x v->Bb U J->r x U H Q->As (An X.ai X.w) X.A (Jb (.builtin id) (v::J)) (FZ X D W Q) X.xe s
theorem FR(Y:Nn X r)(V:Ao X a C)(W:Ao X b E)(Z:UT b):Ao X (.Subscript a b z) (N7 r C E):=by intro D s F H Q I h;show AAj (Ua V W I h λv u s2 x y J U A B q=>Y a b _ s2 F J x y v u Q U A B q (Z _ _))
def aA(K:Aq):Dq:=λx y H Q=>UY (λp D i v=>x=.ref p) (λ_ _ i _=>y=.int i) (λp D _ _=>Bx K H p D) (λ_ D i v=>DM D i=AA v) (λ_ _ _ v=>Q v H)
def aB(K:Aq):Dq:=λx y H Q=>UY (λp D i v=>x=.ref p) (λ_ _ i _=>y=.int i) (λp D _ _=>Cb K H p D) (λ_ D i v=>DM D i=AA v) (λ_ _ _ v=>Q v H)
def xM:Dq:=λx y H Q=>Mo (λz i c=>x=.str z) (λ_ i _=>y=.int i) (λz _ _=>z.length<=Ay) (λz i c=>DM z.cps.toList i=AA c) (λ_ _ c=>Q (.str ⟨#[c]⟩) H)
theorem uP:Nn X (aA X.K):=by
  intro A Z D s R H x y v u Q I O P h E;lk;obtain⟨p,b,i,z,rfl,rfl,N,L,q⟩:=h;cases O;obtain⟨t,rfl⟩:=P;obtain⟨V,r,W,a⟩:=I.iq N;obtain⟨j,J,F,S,G,K⟩:=UZ L;obtain⟨w,B,Y⟩:=r.vm F;k_in;have M:=r.ar;have T:=Pb;have fin:FZ X D R Q w s:=⟨z,H,I,Y,q⟩;by_cases C:0<=i
  . have U:=by rw[seqIndex_of C K]at J;show Bz J
    show item_listR W.isList C (by lia) (by rw[U];simpa using B) fin E
  . have U:(i+(V.toArray.size:Int)).toNat=j:=by rw[seqIndex_neg (by simp_all) G]at J;rw[ID,<-M];show Bz J
    show ADM (x:=w) W.isList.typeIs AEZ.lookup (wpAny_getItem_list_neg W.isList (by simp_all) (by rw[ID]<;>simp_all) (by lia) (by rw[U];simpa using B) ⟨rfl,fin⟩) E
theorem uQ:Nn X (aB X.K):=by intro U J V s M H x y v u Q I K L h F;lk;obtain⟨p,T,i,z,rfl,rfl,E,B,q⟩:=h;cases K;obtain⟨t,rfl⟩:=L;obtain⟨G,r,W,S⟩:=I.gf E;obtain⟨j,Z,A,N,O,P⟩:=UZ B;obtain⟨w,Y,D⟩:=r.vm A;k_in;have C:=r.ar;have R:=Pb;have fin:FZ X _ M Q w s:=⟨z,H,I,D,q⟩;show ADM W.typeIs cW.lookup (getItem_tuple W (by lia) (by lia) (by rw[ID,<-C];show Z) (by simpa using Y) ⟨rfl,fin⟩) F
theorem ZU:Nn X xM:=by
 intro J D V s P H x y v u Q I G K h F;lk;obtain⟨z,i,c,rfl,rfl,N,C,q⟩:=h;obtain⟨t,rfl⟩:=G;obtain⟨O,rfl⟩:=K;obtain⟨j,U,Z,L,A,B⟩:=UZ C;k_in;have E:z.cps.toList.length=z.length:=by simp[ADt]
 rw[E]at U A B;have M:=Pb;show tail_any (eP s z t) slot_str_getitem.lookup (getItem_str (c:=c) (by have W:Ae (i< -(2^63:Int))=AQ:=AFl (by lia);have Y:Ae (i>=2^63)=AQ:=AFl (by lia);rw[W,Y,Bool.or_false]) (by rw[U];simpa using Z) ⟨.str ⟨#[c]⟩,H,I.ig _,⟨_,rfl⟩,q⟩) F
theorem yD(lo hi:Option Int)(n:Nat):(QN lo hi AF n).1=((CT n 0 lo:Nat):Int)/\(QN lo hi AF n).2.1=((CT n n hi:Nat):Int)/\(QN lo hi AF n).2.2=1:=by
 show⟨?_,?_,rfl⟩;.cases lo with |none=>simp[QN,CT]|some i=>
  simp only[QN,CT,AC3,show(1)>0 by decide,AFq];by_cases h:i<0;.simp only[h,AFq]<;>lia
  .simp only[h,AFn]<;>lia
 .cases hi with |none=>simp[QN,CT]|some i=>
  simp only[QN,CT,AC3,show(1)>0 by decide,AFq];by_cases h:i<0;.simp only[h,AFq]<;>lia
  .simp only[h,AFn]<;>lia
theorem yC(its:List AK)(lo hi:Option Int):slicePick its.toArray lo hi AF=((its.drop (CT its.length 0 lo)).take (CT its.length its.length hi-CT its.length 0 lo)).toArray:=by obtain⟨D,J,U⟩:_:=yD lo hi _;unfold slicePick;rw[D,J,U];simp only[sliceRange_one,pick_run,ID]<;>rfl
def aD(K:Aq):AE->Option Int->Option Int->AI->Bh->Prop:=λx U J H Q=>FD (λa D=>x=.ref a) (λa D=>Bx K H a D) (λ_ D=>∀p,H p=AF->Q (.ref p) (AO H p (.lst (Gw D U J))))
theorem yA:Nr X (aD X.K):=by intro U s N H x v L M A V K Q I E W B C h;lk;obtain⟨a,F,rfl,Y,q⟩:=h;cases E;obtain⟨z,r,J,Z⟩:=I.iq Y;k_in;have D:=r.ar;show⟨_,_,AEZ.lookup,J.isList.typeIs,?_⟩;show wpAny_getItem_list_slice J.isList W B C .none (by simp) ?_ (by rw[ID]<;>simp_all);rw[yC,<-D];show⟨.ref _,_,I.nu (λb G q=>DC _ q) (Al _) ?_,rfl,q _ (I.cp.bw (Al _))⟩;show⟨Ak (Y8 F A V) Z,_,0,(r.aae _).adn _,Gk _ rfl⟩
noncomputable def Lw:AE->Bool|.non=>AJ|.bl _=>AJ|.int _=>AJ|.str _=>AJ|_=>AQ
noncomputable def Lv:AE->AE->Bool|.non,.non=>AJ|.bl a,.bl b=>a==b|.bl a,.int b=>(if a then 1 else 0)==b|.int a,.bl b=>a==(if b then 1 else 0)|.int a,.int b=>a==b|.str a,.str b=>a==b|_,_=>AQ
theorem tT(W:Bn y u)(D:Bn x v)(Y:Lw y=AJ)(U:Lw x=AJ):V5 A s u v (Lv y x):=by cases y with
 |non=>cases W;cases x with |non=>cases D;show ADq _|bl b=>cases D;show AFU b|int b=>obtain⟨t,rfl⟩:=D;show AFV b t|str b=>obtain⟨t,rfl⟩:=D;show AFW b t|_=>show absurd (show AQ=AJ from U) Du
 |bl a=> cases W;cases x with |non=>cases D;show AFP a|bl b=>cases D;show AFN a b|int b=>obtain⟨t,rfl⟩:=D;show AFO a b t|str b=>obtain⟨t,rfl⟩:=D;show AFQ a b t|_=>show absurd (show AQ=AJ from U) Du
 |int a=> obtain⟨J,rfl⟩:=W;cases x with |non=>cases D;show AFT a J|bl b=>cases D;show AFR a J b|int b=>obtain⟨t,rfl⟩:=D;show AFS a J b t|str b=>obtain⟨t,rfl⟩:=D;show ADp a J b t|_=>show absurd (show AQ=AJ from U) Du
 |str a=> obtain⟨J,rfl⟩:=W;cases x with |non=>cases D;show AFY a J|bl b=>cases D;show AFX a J b|int b=>obtain⟨t,rfl⟩:=D;show ADr a J b t|str b=>obtain⟨t,rfl⟩:=D;show AFZ a J b t|_=>show absurd (show AQ=AJ from U) Du
 |_=>show absurd (show AQ=AJ from Y) Du
noncomputable def Ms(x:AE)(u:AK):Bool:=match u with|.none=>Lv .non x|.bool b=>Lv (.bl b) x|.int i _=>Lv (.int i) x|.str z _=>Lv (.str z) x|_=>AQ
theorem ZH(r:Bn y u)(f:Lw y=AJ):Ms x u=Lv y x:=by cases y with|non=>cases r;rfl|bl b=>cases r;rfl|int i=>obtain⟨t,rfl⟩:=r;rfl|str z=>obtain⟨t,rfl⟩:=r;rfl|_=>show absurd (show AQ=AJ from f) Du
theorem RU(h:Bb xs D):xs.all Lw=AJ->D.any (Ms x)=xs.any λy=>Lv y x:=by induction h with|nil=>showλ_=>rfl|cons r _ J=>intro f;rw[ACV,Qa]at f;rw[Va,Va,ZH r f.1,J f.2]
theorem Rl(Y:Bn x v)(U:Lw x=AJ)(h:Bb xs J):xs.all Lw=AJ->∀u∈J,V5 A s u v (Ms x u):=by induction h with |nil=>intro _ u D;cases D|cons r _ W=>
 intro f Z D;rw[ACV,Qa]at f;rcases CJ.mp D with rfl|D;.rw[ZH r f.1];show tT r Y f.1 U
 .show W f.2 Z D
noncomputable def EY(x:AE)(xs:List AE):Bool:=xs.any λy=>Lv y x
def Rx(K:Aq)(J:Bool):Dq:=λx y H Q=>RQ (λp D=>y=.ref p) (λp D=>(Bx K H p D\/Cb K H p D)) (λ_ _=>Lw x=AJ) (λ_ D=>D.all Lw=AJ) (λ_ D=>Q (.bl (if J then !EY x D else EY x D)) H)
theorem v8:CP X (Ed .In) (Rx X.K AQ):=by
 intro Y s C H x y v u Q I Z A h;lk;obtain⟨p,B,rfl,J,W,U,q⟩:=h;cases A;k_in;rcases J with J|J
 . obtain⟨D,r,V,z⟩:_:=I.iq J;show SeqAt.in_listAt _ V.isList (λw hw=>Rl Z W r U w (by simpa using hw)) ⟨.bl _,H,I,rfl,?_⟩;rw[show D.toArray.any _=D.any (Ms x)by simp,RU r U];show q
 . obtain⟨D,r,V,z⟩:_:=I.gf J;show SeqAt.in_tupleAt _ V (λw hw=>Rl Z W r U w (by simpa using hw)) ⟨.bl _,H,I,rfl,?_⟩;rw[show D.toArray.any _=D.any (Ms x)by simp,RU r U];show q
theorem wD:CP X (Ed .NotIn) (Rx X.K AJ):=by
 intro Y s C H x y v u Q I Z A h;lk;obtain⟨p,B,rfl,J,W,U,q⟩:=h;cases A;k_in;rcases J with J|J
 . obtain⟨D,r,V,z⟩:_:=I.iq J;show SeqAt.notIn_listAt _ V.isList (λw hw=>Rl Z W r U w (by simpa using hw)) ⟨.bl _,H,I,rfl,?_⟩;rw[show D.toArray.any _=D.any (Ms x)by simp,RU r U];show q
 . obtain⟨D,r,V,z⟩:_:=I.gf J;show SeqAt.notIn_tupleAt _ V (λw hw=>Rl Z W r U w (by simpa using hw)) ⟨.bl _,H,I,rfl,?_⟩;rw[show D.toArray.any _=D.any (Ms x)by simp,RU r U];show q
theorem sR:Ez X (.builtin "len") (λxs H Q=>∃p ys,xs=[.ref p]/\(Bx X.K H p ys\/Cb X.K H p ys)/\Q (.int ys.length) H):=by
 intro Y s C H xs B Q I r h;lk;obtain⟨p,ys,rfl,J,q⟩:=h;obtain⟨u,rfl,z⟩:=Ip r;cases z;k_in;have A:=Pb;rcases J with J|J
 . obtain⟨U,W,V,Z⟩:_:=I.iq J;have D:=W.ar;show Calls.call_len_list V.isList (by simp<;>lia) ⟨.int _,H,I.ig _,⟨_,by rw[ID,D]⟩,q⟩
 . obtain⟨U,W,V,Z⟩:_:=I.gf J;have D:=W.ar;show len_tuple V (by simp<;>lia) ⟨.int _,H,I.ig _,⟨_,by rw[ID,D]⟩,q⟩
theorem sT:Ez X (.builtin "len") (λxs H Q=>∃z,xs=[.str z]/\z.length<=Ay/\Q (.int z.length) H):=by intro D s W H xs V Q I r h;lk;obtain⟨z,rfl,U,q⟩:=h;obtain⟨u,rfl,t,rfl⟩:=Ip r;k_in;have J:=Pb;show len_str (by lia) ⟨.int _,H,I.ig _,⟨_,rfl⟩,q⟩
theorem sU:Ez X (.type "list") (λxs H Q=>∃p ys,xs=[.ref p]/\(Bx X.K H p ys\/Cb X.K H p ys)/\∀l,H l=AF->Q (.ref l) (AO H l (.lst ys))):=by
 intro G s L H xs M Q I r h;lk;obtain⟨p,ys,rfl,Y,q⟩:=h;obtain⟨u,rfl,K⟩:=Ip r;cases K;k_in;have fin:∀(D:List _),Bb ys _->ys.length<=Ay->∀(J:BJ)(V:Nat),(∀b F,s.heap.get? b=AA F->J.get? b=AA F)->J.get? _=AA _->FZ X _ L Q _ _:=λD U Z J V z e=>⟨.ref _,_,I.nu (t':=s.toks) z (Al _) (show DL _ _ _ J _ (.lst ys)from⟨Z,D,V,U,e⟩),rfl,q _ (I.cp.bw (Al _))⟩;rcases Y with Y|Y;. lk;obtain⟨D,U,E,Z⟩:=I.iq Y;have W:=U.ar;obtain⟨o,C,A,n,B⟩:=E.isList;k_in;show AEJ p (.inl rfl) C A B (λJ V z e=>fin _ U Z J V z e) (by simp<;>simp_all)
 . lk;obtain⟨D,U,E,Z⟩:=I.gf Y;have W:=U.ar;obtain⟨o,C,A,n,B⟩:=E;k_in;show AEJ p (.inr rfl) C A B (λJ V z e=>fin _ U Z J V z e) (by simp<;>simp_all)
def VU(K:Aq)(T:String)(x:AE)(H:AI):Prop:=match x with|.str _=>T="str"|.int _=>T="int"|.ref p=>(T="list"/\∃J,Bx K H p J)\/(T="tuple"/\∃o,K.lookup p=AA o/\o.cls=.type "tuple"/\o.dict=AF)\/(T="dict"/\((∃D,H p=AA (.dK D))\/∃D,H p=AA (.dT D)))\/(T="set"/\∃S n,H p=AA (.set S n))|_=>False
theorem bF(I:Aa X U G H s)(r:Bn x v)(W:VU X.K T x H):s.TypeIs v T/\∀a,v=.ref a->∃ob,s.heap.get? a=AA ob/\ob.dict=AF:=by cases x with
  |str z=>lk;obtain⟨t,rfl⟩:=r;cases(show T="str"from W);k_in;show⟨eP s z t,λ_ e=>nomatch e⟩|int i=> lk;obtain⟨t,rfl⟩:=r;cases(show T="int"from W);k_in;show⟨ABb s i t,λ_ e=>nomatch e⟩|ref p=>
    cases r;rcases W with⟨rfl,K,E⟩|⟨rfl,o,D,C,Z⟩|⟨rfl,D⟩|⟨rfl,S,n,D⟩
    . obtain⟨F,_,B,_⟩:_:=I.iq E;show⟨B.isList.typeIs,λa e=>?_⟩;lk;cases e;obtain⟨o,n,e,c,Z,_⟩:=B;k_in;show⟨o,e,Z⟩
    . show⟨⟨o,I.nq p o D,C⟩,λa e=>?_⟩;cases e;show⟨o,I.nq _ o D,Z⟩
    . have z:∃o,s.heap.get? p=AA o/\o.ExactDict:=by
        rcases D with⟨A,D⟩|⟨A,D⟩
        . obtain⟨_,_,_,_,o,_,_,e,J,_⟩:=I.cp p _ D;show⟨o,e,J⟩
        . obtain⟨_,_,_,_,o,_,_,e,J,_⟩:=I.cp p _ D;show⟨o,e,J⟩
      obtain⟨o,e,J⟩:_:=z;show⟨⟨o,e,J.1⟩,λa Y=>?_⟩;cases Y;show⟨o,e,J.2.1⟩
    . obtain⟨o,_,_,_,e,J,_⟩:_:=I.cp p _ D;show⟨⟨o,e,J.1⟩,λa Y=>?_⟩;cases Y;show⟨o,e,J.2.1⟩|_=>show FW W
def aS(K:Aq)(T:String)(r:AE->List AE->AI->Bh->Prop)(J:Az):Az:=λU H Q=>J U H λx D=>VU K T x D/\r x [] D Q
def VO(K:Aq)(T:String)(r:AE->List AE->AI->Bh->Prop)(W:Az)(t:Fc):Az:=λJ H Q=>W J H λx D=>VU K T x D/\t J D λY U=>r x Y U Q
theorem wM{D:AG}{id:String}(M:dI T)(Z:Slot T D id)(z:OP (.builtin id)=Bf (.type "method_descriptor"))(K:PB X id r)(L:Ao X o O)(J:J3 o D X.af (BY o X.af)=BY o X.af:=by rfl)(U:(V.endLine==W.line)=AJ:=by rfl):Ao X (.Call (.Attribute o D V) [] [] W) (aS X.K T r O):=by intro B s C H Q I h;show wpAny_Call_method0_late J U (A1 (L _ s C H _ I h) λv s1 Y=>?_);lk;obtain⟨x,E,A,r1,P,N⟩:=Y;obtain⟨F,G⟩:=bF A r1 P;k_in;show⟨T,id,M,Z,z,F,G,cZ rfl (ABT (K _ s1 C E x [] v [] Q A r1 .nil N))⟩
theorem wL{U:AG}{id:String}(d:dI T)(C:Slot T U id)(E:OP (.builtin id)=Bf (.type "method_descriptor"))(a:PB X id r)(b:Ao X o i)(S:GR X (e::Y) t)(V:J3 o U X.af (BY o X.af)=BY o X.af:=by rfl)(z:((FU D (CQ (e::Y) X.af)).all (λx=>!x.1)&&(QE D (QL [] X.af)).all (λx=>x.1.isSome)&&Ae ((e::Y).length+([]:List MM).length+(if([]:List MM).isEmpty then 0 else 1)<30))=AJ:=by rfl)(W:(Z.endLine==D.line)=AJ:=by rfl)(c:CQ (e::Y) X.af=(AQ,BY e X.af)::CQ Y X.af:=by rfl)(J:(FU D (CQ Y X.af)).any (·.1)=AQ:=by rfl):Ao X (.Call (.Attribute o U Z) (e::Y) [] D) (VO X.K T r i t):=by intro L s F H Q I h;show wpAny_Call_method_late V z W rfl (A1 (b _ s F H _ I h) λv s1 A=>?_);lk;obtain⟨x,M,G,r1,j,f⟩:=A;obtain⟨P,R⟩:=bF G r1 j;k_in;show⟨T,id,d,C,E,P,R,?_⟩;have K:=S D _ s1 F M _ G f;rw[c]at K⊢;show cZ (by change(AQ||(FU _ _).any _)=AQ;rw[J]<;>rfl) (dA ?_);show A1 K λk s2 B=>?_;obtain⟨l,N,O,r2,g⟩:_:=B;show a _ s2 F N x l v k Q O r1 r2 g
def UR(X:Be)(id:String)(r:AE->List AE->AI->Bh->Prop):Prop:=∀(D:List (AD×BC))(s:AV)(W:Ai)(H:AI)(x:AE)(U:List AE)(v:AK)(J:List AK)(Q:Bh),Aa X D W H s->Bn x v->Bb U J->r x U H Q->As (An X.ai X.w) X.A (Jb (.builtin id) (v::J)) (FZ X D W Q) X.xe s
theorem Bb.vq(h:Bb [x] D):∃u,D=[u]/\Bn x u:=by cases h with|cons r t=>cases t;show⟨_,rfl,r⟩
theorem Bb.aci:∀{D:List AK},Bb [] D->D=[]|_,.nil=>rfl
theorem Bb.afc(h:Bb xs D):∀k:Nat,Bb (FI k xs).flatten (FI k D).flatten|0=>.nil|k+1=>by show Bb.pz h (Bb.afc h k)
theorem ZM(its:List AK):∀(k:Nat)(D:List AK),ACb (λU V=>U++V) D.toArray (FI k its.toArray)=(D++(FI k its).flatten).toArray
 |0,D=>by simp|k+1,D=>by
  have e:D.toArray++its.toArray=(D++its).toArray:=by simp
  have J:(D++its)++(FI k its).flatten=D++(FI (k+1) its).flatten:=by rw[AAQ,ACa,Ei]
  rw[<-J,<-ZM _ k _,<-e,AAQ,AAF]
theorem Aa.abz{its D:List AK}(I:Aa X J A H s)(U:H l=AA (.lst xs))(e:s.heap.get? l=AA {cls:=.type "list",data:=.seq its.toArray n})(W:f its.toArray=D.toArray)(Z:Bb ys D)(z:ys.length<=Ay):Aa X J A (AO H l (.lst ys)) {s with heap:=s.heap.update l (Em f),toks:=t'}:=by have q:=ADl e f;rw[W]at q;show I.vk (by rw[U];show trivial) (.inl rfl) (λB u V Y=>(ADk _ _ (El V)).trans Y) ⟨_,q⟩ ?_;show⟨z,_,_,Z,q⟩
theorem Aa.adf(I:Aa X D V H s)(J:Bb ys its)(U:ys.length<=Ay):Aa X D V (AO H s.heap.objs.size (.lst ys)) {s with heap:=s.heap.push {cls:=.type "list",data:=.seq its.toArray},toks:=t'}:=I.nu (λ_ _ q=>DC _ q) (Al _) ⟨U,its,0,J,Gk _ rfl⟩
theorem Aa.bw(I:Aa X D J H s):H s.heap.objs.size=AF:=I.cp.bw (Al _)
theorem Aa.yr(I:Aa X D U H s)(J:H l=AA (.lst xs)):xs.length<=Ay/\∃(its:List AK)(n:Nat),Bb xs its/\xs.length=its.length/\s.heap.get? l=AA {cls:=.type "list",data:=.seq its.toArray n}:=by obtain⟨z,its,n,r,e⟩:_:=I.cp l _ J;show⟨z,its,n,r,r.ar,e⟩
theorem Zl(h:n<=Ay):AAs n=AQ:=by show AFl (Vo.mpr h)
def Z7:AE->List AE->AI->Bh->Prop:=λx J H Q=>Mo (λl D y=>x=.ref l) (λ_ _ y=>J=[y]) (λl D _=>H l=AA (.lst D)) (λ_ D _=>D.length<Ay) (λl D y=>Q .non (AO H l (.lst (D++[y]))))
theorem vR:UR X "list.append" Z7:=by intro J s G H x C v B Q I Y W h;lk;obtain⟨l,E,y,rfl,rfl,D,A,q⟩:=h;cases Y;obtain⟨u,rfl,V⟩:=W.vq;obtain⟨z,U,n,r,Z,e⟩:=I.yr D;k_in;show QI AAz ⟨_,e,rfl⟩ ADX (ADT _ _) (AES l _ n u (by simp_all)) ⟨e,?_⟩;show⟨.non,_,I.abz D e (by simp) (r.pz (.cons V .nil)) ?_,rfl,q⟩;rw[CI];assumption
def xJ:AE->List AE->AI->Bh->Prop:=λx U H Q=>RT (λl b D J=>x=.ref l) (λ_ b _ _=>U=[.ref b]) (λl _ D _=>H l=AA (.lst D)) (λ_ b _ J=>H b=AA (.lst J)) (λ_ _ D J=>D.length+J.length<=Ay) (λl _ D J=>Q .non (AO H l (.lst (D++J))))
theorem Pd:UR X "list.extend" xJ:=by
 intro Y s T H x O v N Q I K G h;lk;obtain⟨l,b,P,S,rfl,rfl,W,A,M,q⟩:=h;cases K;obtain⟨u,rfl,E⟩:=G.vq;cases E;obtain⟨z,U,n,r,L,e⟩:=I.yr W;obtain⟨R,D,C,r2,B,Z⟩:=I.yr A;k_in;have V:U.toArray.size+D.toArray.size<=Ay:=by simp_all
 have J:¬(!U.toArray.isEmpty&&AAs (U.toArray.size+D.toArray.size))=AJ:=by rw[Zl V,AB4];show Du
 show QI SU ⟨_,e,rfl⟩ F.entry_list_extend (F.args_list_extend_2 _ _) (AutoSeq1.list_extend_list_list_0 l _ n b _ C J (by simp_all) (Kf V)) ⟨e,Z,?_⟩;show⟨.non,_,I.abz W e (by simp) (r.pz r2) ?_,rfl,q⟩;rw[CI];omega
def xG:AE->List AE->AI->Bh->Prop:=λx J H Q=>JQ (λl D=>x=.ref l) (λ_ _=>J=[]) (λl D=>H l=AA (.lst D)) (λl _=>Q .non (AO H l (.lst [])))
theorem vS:UR X "list.clear" xG:=by intro U s E H x B v A Q I Y W h;lk;obtain⟨l,C,rfl,rfl,J,q⟩:=h;cases Y;k_in;have D:=W.aci;subst D;obtain⟨z,V,n,r,Z,e⟩:_:=I.yr J;show QI ADe ⟨_,e,rfl⟩ F.entry_list_clear (F.args_list_clear_1 _) (AutoSeq1.list_clear_list_0 l _ n (by rw[ID];omega)) ⟨e,?_⟩;show⟨.non,_,I.abz J e rfl .nil (Bd _),rfl,q⟩
def xF:Dq:=λx y H Q=>RT (λl b D J=>x=.ref l) (λ_ b _ _=>y=.ref b) (λl _ D _=>H l=AA (.lst D)) (λ_ b _ J=>H b=AA (.lst J)) (λ_ _ D J=>D.length+J.length<=Ay) (λ_ _ D J=>∀p,H p=AF->Q (.ref p) (AO H p (.lst (D++J))))
theorem Jr:CP X (G9 .Add) xF:=by
 intro U s N H x y v u Q I B C h;lk;obtain⟨l,b,K,M,rfl,rfl,Z,Y,F,q⟩:=h;cases B;cases C;obtain⟨z,J,n,r,E,e⟩:=I.yr Z;obtain⟨L,D,G,r2,A,V⟩:=I.yr Y;k_in;show P.add_list e V ?_ (by simp_all);have W:J.toArray++D.toArray=(J++D).toArray:=by simp
 rw[W];show⟨.ref _,_,I.adf (r.pz r2) (by rw[CI];omega),rfl,q _ I.bw⟩
def xR:Dq:=λx y H Q=>Ys (λl k D=>x=.ref l) (λ_ k _=>y=.int k) (λl _ D=>H l=AA (.lst D)) (λ_ k _=>-(2^63)<=k) (λ_ k _=>k<2^63) (λ_ k D=>D.length*k.toNat<=Ay) (λ_ k D=>∀p,H p=AF->Q (.ref p) (AO H p (.lst (FI k.toNat D).flatten)))
theorem ZZ(xs:List J)(k:Nat):(FI k xs).flatten.length=k*xs.length:=by induction k with|zero=>simp|succ k D=>rw[AAQ,ACa,CI,D,Nat.succ_mul,SH]
theorem wF:CP X (G9 .Mult) xR:=by
 intro A s T H x y v u Q I L M h;lk;obtain⟨l,k,S,rfl,rfl,G,C,E,Z,q⟩:=h;cases L;obtain⟨t,rfl⟩:=M;obtain⟨z,D,n,r,K,e⟩:=I.yr G;k_in;have J:D.toArray.size*k.toNat<=Ay:=by rw[ID,<-K];show Z
 have V:=by
  have:(Ay)<=(2^63-1)/8:=by decide
  show Vo.mpr (Ak J this)
 have W:¬(!AEs k)=AJ:=by rw[fitsIndex_both C E];show Du
 have U:¬AAs (D.toArray.size*k.toNat)=AJ:=by rw[Zl J];show Du
 have Y:ACb (λO P=>O++P) #[] (FI (if D.toArray.isEmpty=AJ then 0 else k.toNat) D.toArray)=(FI k.toNat D).flatten.toArray:=by
  have B:=λm=>by have:=ZM D m [];rw[ACl]at this;show this
  rw[B];cases D with |nil=>simp|cons a R=>rw[AFh (by simp)]
 show wpAny_binaryOp_repeat_ref (by decide) ⟨_,e,rfl⟩ (λN=>ABb N k t) noFill_list_mul F.fills_int_mul ADd repeat_list F.slot_int_index.lookup (QI ADd (ABb s k t) F.entry_int_rmul (F.args_int_rmul_2 _ _) (int___rmul___int_list k t l _ n) ⟨e,rfl,⟨_,e,rfl⟩,QI F.slot_list_mul ⟨_,e,rfl⟩ F.entry_list_mul (F.args_list_mul_2 _ _) (AEr l _ n k t W V U) ⟨e,?_⟩⟩);rw[Y];show⟨.ref _,_,I.adf (r.afc _) (by rw[ZZ,Nat.mul_comm];show Z),rfl,q _ I.bw⟩
noncomputable def Bv[DecidableEq J](kvs:List (J×AE))(k:J):Option AE:=(kvs.find? λD=>Ae (D.1=k)).map (·.2)
noncomputable def Bp[DecidableEq J](kvs:List (J×AE))(k:J)(v:AE):List (J×AE):=if(kvs.any λD=>Ae (D.1=k))=AJ then kvs.map (λD=>if D.1=k then(D.1,v)else D)else kvs++[(k,v)]
noncomputable def DX[DecidableEq D](kvs:List (D×AE))(k:D):List (D×AE):=kvs.filter λJ=>Ae (J.1≠k)
theorem Jw[DecidableEq D]{p:D×AE}(e:p.1=k):Bv (p::r) k=AA p.2:=by simp[Bv,R9,e]
theorem Jv[DecidableEq D]{p:D×AE}(e:¬p.1=k):Bv (p::r) k=Bv r k:=by simp[Bv,R9,e]
section
variable{κ:Type}[DecidableEq κ]
theorem N9(k:κ):∀kvs:List (κ×AE),(kvs.any λD=>Ae (D.1=k))=(Bv kvs k).isSome
 |[]=>rfl|p::r=>by
  rw[Va];by_cases e:p.1=k;.simp only[Jw e,AFk e,Bool.true_or,Option.isSome_some]
  .rw[Jv e,AFl e];show N9 k r
end
section
variable{κ:Type}[DecidableEq κ]
theorem bG(k j:κ)(y:AE):∀kvs:List (κ×AE),Bv (kvs.map λD=>if D.1=k then(D.1,y)else D) j=(Bv kvs j).map λx=>if j=k then y else x
  |[]=>rfl|p::r=>by
    have J:=bG k j y r;rw[F1];by_cases h:p.1=k
    . rw[AFi h];by_cases e:p.1=j;.rw[Jw (p:=(p.1,y)) e,Jw e,Vr,AFi (e.symm.trans h)]
      .rw[Jv (p:=(p.1,y)) e,Jv e,J]
    . rw[AFh h];by_cases e:p.1=j;.rw[Jw e,Jw e,Vr,AFh (λz=>h (e.trans z))]
      .rw[Jv e,Jv e,J]
end
section
variable{κ:Type}[DecidableEq κ]
theorem bI(k j:κ)(y:AE):∀kvs:List (κ×AE),Bv kvs k=AF->Bv (kvs++[(k,y)]) j=if j=k then AA y else Bv kvs j
 |[],_=>by
  by_cases e:k=j;.rw[AFi e.symm];show Jw e
  .rw[AFh (λz=>e z.symm)];show Jv e|p::r,D=>by
  rw[R8];have J:¬p.1=k:=λz=>by rw[Jw z]at D;cases D
  rw[Jv J]at D;have U:=bI k j y r D;by_cases e:p.1=j;.rw[Jw e,Jw e,AFh (λz=>J (e.trans z))]
  .rw[Jv e,Jv e,U]
end
theorem LK{U:Type}[DecidableEq U](kvs:List (U×AE))(k j:U)(y:AE):Bv (Bp kvs k y) j=if j=k then AA y else Bv kvs j:=by
  unfold Bp;by_cases a:(kvs.any λJ=>Ae (J.1=k))=AJ
  . rw[AFi a,bG];rw[N9]at a;by_cases e:j=k
    . obtain⟨x,D⟩:=Vq.mp a;rw[AFi e,e,D,Vr,AFi rfl]
    . rw[AFh e];cases Bv _ j with|none=>rfl|some x=>rw[Vr,AFh e]
  . rw[AFh a];show bI k j y _ ?_;rw[N9]at a;cases q:Bv _ k with|none=>rfl|some x=>rw[q]at a;show(a rfl).elim
theorem Uz[DecidableEq D](kvs:List (D×AE))(k:D)(v:AE):(Bp kvs k v).length<=kvs.length+1:=by
 unfold Bp;split;.simp
 .rw[CI,M3];show Al _
theorem Z6{D:Type}[DecidableEq D]{kvs:List (D×AE)}{k:D}(v:AE)(h:Bv kvs k=AF):Bp kvs k v=kvs++[(k,v)]:=by unfold Bp;rw[N9,h];show AFh (by decide)
theorem K5.aah(r:K5 o u):o.isSome=u.isSome:=by cases o with
 |none=>cases u with |none=>rfl|some _=>show(show False from r).elim
 |some _=>cases u with |none=>show(show False from r).elim|some _=>rfl
theorem K5.acz(r:K5 o u)(J:Bn d D):Bn (o.getD d) (u.getD D):=by cases o with
 |none=>cases u with |none=>show J|some _=>show(show False from r).elim
 |some _=>cases u with|none=>show(show False from r).elim|some _=>show r
theorem Fb.ach[DecidableEq W](r:Fb kvs vs)(k:W):K5 (Bv kvs k) (Sf vs k):=by induction r with|nil=>show IL|@cons p q A J h t Z=>
    obtain⟨U,Y⟩:=h;by_cases e:p.1=k
    . have D:=U.symm.trans e;have b:Sf (q::J) k=AA q.2:=by simp[Sf,R9,D]
      rw[Jw e,b];show Y
    . have D:¬q.1=k:=λz=>e (U.trans z);have b:Sf (q::J) k=Sf J k:=by simp[Sf,R9,D]
      rw[Jv e,b];show Z
theorem Fb.acq[DecidableEq J](r:Fb kvs vs)(k:J):(kvs.any λD=>Ae (D.1=k))=vs.any λD=>Ae (D.1=k):=by induction r with|nil=>rfl|cons h t U=>rw[Va,Va,U,h.1]
theorem Fb.acd[DecidableEq U](r:Fb kvs vs)(k:U)(Z:Bn y u):Fb (kvs.map λD=>if D.1=k then(D.1,y)else D) (vs.map λD=>if D.1=k then(D.1,u)else D):=by induction r with|nil=>show .nil|@cons p q A B h t Y=>
 rw[F1,F1];show .cons ?_ Y;obtain⟨J,W⟩:=h;by_cases e:p.1=k;.rw[AFi e,AFi (J.symm.trans e)];show⟨J,Z⟩
 .rw[AFh e,AFh (λz=>e (J.trans z))];show⟨J,W⟩
theorem Fb.ny[DecidableEq J](r:Fb kvs vs)(k:J)(D:Bn y u):Fb (Bp kvs k y) (stored vs k u):=by
 unfold Bp stored;rw[r.acq k];by_cases e:(vs.any λU=>Ae (U.1=k))=AJ;.rw[AFi e,AFi e];show r.acd k D
 .rw[AFh e,AFh e];show ADn r ⟨rfl,D⟩
theorem Fb.aae[DecidableEq U](r:Fb kvs vs)(k:U):Fb (DX kvs k) (without vs k):=by unfold DX without;induction r with|nil=>show .nil|@cons p q Z A h t J=>
    obtain⟨D,Y⟩:=h;rw[G7,G7];by_cases e:p.1=k
    . have a:¬Ae (p.1≠k)=AJ:=by simp[e]
      have b:¬Ae (q.1≠k)=AJ:=by simp[D.symm.trans e]
      rw[AFh a,AFh b];show J
    . have W:¬q.1=k:=λz=>e (D.trans z);have a:Ae (p.1≠k)=AJ:=by simp[e]
      have b:Ae (q.1≠k)=AJ:=by simp[W]
      rw[AFi a,AFi b];show .cons ⟨D,Y⟩ J
theorem Fb.ar[DecidableEq D]{kvs:List (D×AE)}{vs:List (D×AK)}(r:Fb kvs vs):kvs.length=vs.length:=Iw r
theorem ZF[DecidableEq D](kvs:List (D×AE))(k:D):(DX kvs k).length<=kvs.length:=Ff _ _
theorem Nz(r:Bn (Au k) u):(FQ P w).is k u=AJ:=by cases k with|inl i=>obtain⟨t,e⟩:=(show∃t,u=SX i t from r);subst e;show vP P w i t|inr x=>obtain⟨t,e⟩:=(show∃t,u=SY x t from r);subst e;show vQ P w x t
theorem ZT:∀{ks:List AL}{D:List AK},Bb (ks.map Au) D->ItemsAre (FQ P w) ks D|[],_,r=>by cases r;show .nil|k::ks,_,r=>by cases r with|cons h t=>show .cons (Nz h) (ZT t)
abbrev KN(H:AI):List (List AL×AE)->List (List AL×AD×AK)->Prop:=BW λp q=>p.1=q.1/\H q.2.1=AA (.tup (p.1.map Au))/\Bn p.2 q.2.2
theorem KN.ach(r:KN H kvs xs)(k:List AL):K5 (Bv kvs k) ((ON xs k).map (·.2)):=by induction r with |nil=>show IL|@cons p q Z J h t Y=>
    obtain⟨U,_,W⟩:_:=h;by_cases e:p.1=k
    . have D:=U.symm.trans e;have b:ON (q::J) k=AA q.2:=by simp[ON,R9,D]
      rw[Jw e,b];show W
    . have D:¬q.1=k:=λz=>e (U.trans z);have b:ON (q::J) k=ON J k:=by simp[ON,R9,D]
      rw[Jv e,b];show Y
theorem KN.acd(r:KN H kvs xs)(k:List AL)(Z:Bn y u):KN H (kvs.map λJ=>if J.1=k then(J.1,y)else J) (xs.map (putAt k u)):=by induction r with|nil=>show .nil|@cons p q A B h t Y=>
 rw[F1];show .cons ?_ Y;obtain⟨D,U,W⟩:_:=h;unfold putAt;by_cases e:p.1=k;.rw[AFi e,AFi (D.symm.trans e)];show⟨D,U,Z⟩
 .rw[AFh e,AFh (λz=>e (D.trans z))];show⟨D,U,W⟩
theorem KN.ny(r:KN H kvs xs)(k:List AL)(J:H b=AA (.tup (k.map Au)))(D:Bn y u):KN H (Bp kvs k y) (storedH xs k b u):=by
 have e:(kvs.any λU=>Ae (U.1=k))=(ON xs k).isSome:=by rw[N9,(r.ach k).aah,Option.isSome_map]
 unfold Bp storedH;rw[e];by_cases q:(ON xs k).isSome=AJ;.rw[AFi q,AFi q];show r.acd k D
 .rw[AFh q,AFh q];show ADn r ⟨rfl,J,D⟩
theorem KN.ade(r:KN H kvs xs)(D:∀b ys,H b=AA (.tup ys)->H' b=AA (.tup ys)):KN H' kvs xs:=Yn r λ_ _ z=>⟨z.1,D _ _ z.2.1,z.2.2⟩
theorem aH(D:DG P w H h)(e:Fs H a u):DL P w H h a u:=e.ok D
theorem PR(D:DG P w H h)(e:Fs H a (.dK kvs)):kvs.length<=Ay/\(a==LU)=AQ/\∃vs,Fb kvs vs/\h.DictOf (FQ P w) a vs:=show DL P w H h a _ from aH D e
theorem PN(D:DG P w H h)(e:H a=AA (.dK kvs)):kvs.length<=Ay/\(a==LU)=AQ/\∃vs,Fb kvs vs/\h.DictOf (FQ P w) a vs:=PR D (.inl e)
theorem Rh(W:DG P w H h)(e:H a=AA (.tup (ks.map Au))):(WB (FQ P w)).is h ks a:=by obtain⟨_,V,r,o,D,J,n,U⟩:_:=(show DL P w H h a _ from W a _ e);show⟨o,_,n,D,J,U,by simpa using ZT r⟩
theorem PU(W:DG P w H h)(e:Fs H a (.dT kvs)):kvs.length<=Ay/\(a==LU)=AQ/\∃xs,KN H kvs xs/\h.DictOfH (WB (FQ P w)) a xs:=by
 obtain⟨z,y,xs,r,o,Z,Y,A,B,C,E,F⟩:_:=(show DL P w H h a _ from aH W e);show⟨z,y,xs,r,o,Z,Y,A,B,C,E,λx D=>?_,F⟩;have J:∀{l:List _}{m:List _},KN H l m->∀x∈m,(WB (FQ P w)).is h x.1 x.2.1:=by intro l m q;induction q with |nil=>intro x D;show nomatch D|@cons p q I K U t G=>
  intro x D;rcases CJ.mp D with e|D
  . subst e;show Rh W (by rw[<-U.1];show U.2.1)
  .show G x D
 show J r x D
theorem tS(D:DG P w H h)(e:H a=AA (.dT kvs)):kvs.length<=Ay/\(a==LU)=AQ/\∃xs,KN H kvs xs/\h.DictOfH (WB (FQ P w)) a xs:=PU D (.inl e)
def Ga(H:AI)(a:AD)(y:AE)(r:Option AE):Prop:=(FD (λD k=>Fs H a (.dK D)) (λ_ k=>y=Au k) (λD k=>r=Bv D k))\/PK (λD k b=>Fs H a (.dT D)) (λ_ _ b=>y=.ref b) (λ_ k b=>H b=AA (.tup (k.map Au))) (λD k _=>r=Bv D k)
def UN(H:AI)(a:AD)(y v:AE)(H':AI):Prop:=(JQ (λD k=>H a=AA (.dK D)) (λ_ k=>y=Au k) (λD _=>D.length<Ay) (λD k=>H'=AO H a (.dK (Bp D k v))))\/Mo (λD k b=>H a=AA (.dT D)) (λ_ _ b=>y=.ref b) (λ_ k b=>H b=AA (.tup (k.map Au))) (λD _ _=>D.length<Ay) (λD k _=>H'=AO H a (.dT (Bp D k v)))
theorem Mh(e:H a=AA (.dK kvs)):Ga H a (Au k) (Bv kvs k):=.inl ⟨kvs,k,.inl e,rfl,rfl⟩
theorem Mi(e:H a=AA (.dK kvs))(D:kvs.length<Ay):UN H a (Au k) v (AO H a (.dK (Bp kvs k v))):=.inl ⟨kvs,k,e,rfl,D,rfl⟩
theorem Aa.aer(I:Aa X D J H s):LU<s.heap.objs.size:=by have h:=(I.uk.va.keeps I.bk).lt;show MG (by decide) h
theorem tK(L:A.units+1<F2)(I:Aa X V M H s)(g:Ga H a y (AA v))(C:Bn y u)(h:∀U s',Aa X V M H s'->Bn v U->Q U s'):As (An X.ai X.w) A (OO (.ref a) u) Q E s:=by
 rcases g with⟨B,k,e,Y,l⟩|⟨B,k,b,e,Y,F,l⟩
 . subst Y;lk;obtain⟨z,G,N,D,W⟩:=PR I.cp e;obtain⟨U,hw,J⟩:=RJ (by rw[l];show D.ach k);k_in;show wpAny_getItem_of (Nz C) W.mapOf hw (h U _ (I.ig _) J)
 . subst Y;lk;cases(show u=DV b from C);obtain⟨z,G,O,D,W⟩:=PU I.cp e;obtain⟨U,hw,J⟩:=RJ (by rw[l];show D.ach k);obtain⟨p,K,Z⟩:=EI.mp hw;k_in;show wpAny_getItem_heap (ABa L) (Rh I.cp F) W K ?_;rw[Z];show h U _ (I.ig _) J
theorem RX(I:Aa X D A H s)(Z:PC (H a))(Y:V4 a s.heap J)(W:∃q,J.get? a=AA q)(U:DL X.ai X.w (AO H a ob) J a ob):Aa X D A (AO H a ob) {s with heap:=J,toks:=t'}:=I.vk Z (.inl rfl) (λb q V z=>(Y.2 b V).trans z) W U
theorem Ug(z:kvs.length<=Ay)(U:(a==LU)=AQ)(D:Fb kvs vs)(dd:J.DictOf (FQ P w) a vs):DL P w H' J a (.dK kvs):=⟨z,U,vs,D,dd⟩
theorem tM(j:A.units+1<F2)(I:Aa X V p H s)(g:UN H a y v H')(O:Bn y u)(N:Bn v r)(h:∀s',Aa X V p H' s'->Q () s'):As (An X.ai X.w) A (setItem (.ref a) u r) Q E s:=by
  rcases g with⟨U,k,e,B,l,Z⟩|⟨U,k,b,e,B,K,l,Z⟩
  . subst B Z;obtain⟨z,C,n,D,Y⟩:_:=PN I.cp e;have m:n.length<=Ay:=by rw[<-D.ar];show z
    have F:=by have:=Uz U k v;show Ak this l
    show wpAny_setItem_pairs (Nz O) Y λM J G=>h _ ?_;have i:∃q,M.get? a=AA q:=let⟨q,_,_,W,_⟩:=J;⟨q,W⟩;show RX I (by rw[e];show IL) G i (Ug F C (D.ny k N) J)
  . subst B Z;lk;cases(show u=DV b from O);obtain⟨z,C,o,D,Y⟩:=tS I.cp e;k_in;have m:o.length<=Ay:=by rw[<-Iw D];show z
    have F:=by have:=Uz U k v;show Ak this l
    show wpAny_setItem_heap (ABa j) (Rh I.cp K) Y λM J G=>h _ ?_;obtain⟨q,R,P,W,S,T,d,_,f⟩:_:=J;show RX I (by rw[e];show IL) G ⟨q,W⟩ ⟨F,C,_,(D.ny k K N).ade λc t L=>?_,q,R,P,W,S,T,d,f⟩;rw[AW (vU L e (λz=>nomatch z))];show L
theorem tL(I:Aa X pins σ H s)(e:H a=AA (.dK kvs))(ry:Bn (Au k) u)(l:Bv kvs k=AA v)(hm:more=[]\/∃x,more=[x])(h:∀w' s',Aa X pins σ (AO H a (.dK (DX kvs k))) s'->Bn v w'->Q w' s'):As (An X.ai X.w) A (Jb (.builtin "dict.pop") (.ref a::u::more)) Q E s:=by
 lk;obtain⟨z,hd,vs,rel,dd⟩:=PN I.cp e;obtain⟨w',hw,rw'⟩:=RJ (by rw[<-l];show rel.ach k);k_in;have hp:(keyPart u).isSome=AJ:=by cases k with |inl i=>obtain⟨t,q⟩:=(show∃t,u=SX i t from ry);subst q;rfl|inr x=>obtain⟨t,q⟩:=(show∃t,u=SY x t from ry);subst q;rfl
 have ha:argsOk "dict.pop" ⟨.ref a::u::more,[]⟩:=by
  rcases hm with q|⟨x,q⟩;.subst q;show F.args_dict_pop_2 _ _
  .subst q;show F.args_dict_pop_3 _ _ _
 show ABO ADb dd.typeIs F.entry_dict_pop ha (meets_dict_pop_there _ a (Nz ry) _ hm hp) ⟨vs,w',dd,by rw[<-rel.ar];show z,hw,λh' dd' hs=>h w' _ ?_ rw'⟩;have he:∃q,h'.get? a=AA q:=let⟨q,_,_,hq,_⟩:=dd';⟨q,hq⟩;show RX I (by rw[e];show IL) hs he (Ug (Ak (ZF _ k) z) hd (rel.aae k) dd')
def Yl(i:BO):Prop:=∀J D,eO i AQ J D=operate [J,D] (OO J D)
theorem yK{id:String}(F:typeLookup (.type T) "__getitem__"=Bf (AA (.builtin id)))(G:Yl D)(h:As (An prog w) A (BY J env) (λo W=>As (An prog w) A (BY D env) (λi U=>U.TypeIs o T/\As (An prog w) A (OO o i) Q E U) E W) E s):As (An prog w) A (BY (.Subscript J D B) env) Q E s:=by
 show AAj (FV h (λo W Z=>FV Z (λi U V=>?_) λ_ _ x=>x) λ_ _ x=>x);obtain⟨C,V⟩:=V;show BL ?_;show BL (wpAny_specialOf C F ?_);have fin:As (An prog w) A (eO D AQ o i) (λr Y=>As (An prog w) A (letTemporaryGo J o r>>=λ_=>Bf r) Q E Y) E U:=by rw[G o i];show wpAny_operating (FV V (λr Y z=>BL (wpAny_letTemporaryGo (Cn z))) λ_ _ x=>x)
 first |show Cn (BL fin)|show wpAny_bind _|show wpAny_bind _
theorem tO(I:Aa X D W H s)(g:Ga H a y o):s.TypeIs (.ref a) "dict":=by
 rcases g with⟨U,k,e,_,_⟩|⟨U,k,b,e,_,_,_⟩
 . obtain⟨_,_,Y,_,J⟩:_:=PR I.cp e;show J.typeIs
 . obtain⟨_,_,Z,_,J⟩:_:=PU I.cp e;show J.typeIs
def yQ(V W:Az):Az:=λJ H Q=>V J H λx U=>W J U λy D=>FD (λa v=>x=.ref a) (λa v=>Ga D a y (AA v)) (λ_ v=>Q v D)
def xX(Z A z:Az):Cw:=λD U H=>z U H λv V=>Z U V λx W=>A U W λy Y=>FD (λa J=>x=.ref a) (λa J=>UN Y a y v J) (λ_ J=>D.nx U J)
theorem Cg(hu:X.A.units+1<F2)(ho:Ao X o td)(hi:Ao X i ty)(hs:Yl i):Ao X (.Subscript o i pos) (yQ td ty):=by intro pins s σ H Q I h;show yK F.slot_dict_getitem.lookup hs (A1 (ho _ s σ H _ I h) λu s1 hh11=>?_);obtain⟨x,H1,I1,rx,q1⟩:_:=hh11;show A1 (hi _ s1 σ H1 _ I1 q1) λiv s2 hh21=>?_;obtain⟨y,H2,I2,ry,a,v,ex,g,q2⟩:_:=hh21;subst ex;obtain rfl:u=DV a:=rx;show⟨tO I2 g,tK hu I2 g ry λw' s3 I3 rw'=>⟨v,H2,I3,rw',q2⟩⟩
theorem JY(M:X.A.units+1<F2)(K:Ao X o b)(hi:Ao X i d)(N:Ao X J c)(L:MP J (AA (.Subscript o i U)) W.line X.af=Bf AQ):D6 X (.Assign [.Subscript o i U] J W) (xX b d c):=by intro Y s V H D I h;show wpAny_Assign_Subscript (A1 (N _ s V H _ I h) λr s1⟨v,Z,B,R,O⟩=>A1 (K _ s1 V Z _ B O) λu s2⟨x,z,C,S,P⟩=>A1 (hi _ s2 V z _ C P) λf s3⟨y,e,E,T,a,A,G,g,Q⟩=>?_) L;subst G;obtain rfl:u=DV a:=S;show tM M E g T R λs4 F=>⟨V,A,F,Q⟩
theorem ZE(h:BJ)(D:LU<h.objs.size):DL P w H (h.push {cls:=.type "dict",data:=.dict #[]}) h.objs.size (.dK []):=⟨Bd _,AFu.mpr (El (Dz D)),[],.nil,AFK h⟩
def yS:Az:=λ_ H Q=>∀p,H p=AF->Q (.ref p) (AO H p (.dK []))
theorem Pl:Ao X (.Dict [] [] J) yS:=λD s U H Q I h=>wpAny_Dict_empty ⟨.ref _,_,I.nu (λ_ _ q=>DC _ q) (Al _) (ZE _ I.aer),rfl,h _ (I.cp.bw (Al _))⟩
def VR:List (Az×Az)->Ai->AI->(List (AE×AE)->AI->Prop)->Prop|[],_,H,Q=>Q [] H|(Z,z)::r,D,H,Q=>Z D H λx J=>z D J λy U=>VR r D U λY W=>Q ((x,y)::Y) W
abbrev Yp:List (AE×AE)->List (AK×AK)->Prop:=BW λp q=>Bn p.1 q.1/\Bn p.2 q.2
def RI(X:Be)(Z:CV)(U:List (Option BO))(D:List BO)(z:List (Az×Az)):Prop:=∀(J:List (AD×BC))(s:AV)(A:Ai)(H:AI)(Q:List (AE×AE)->AI->Prop),Aa X J A H s->VR z A H Q->As (An X.ai X.w) X.A (evalPairs (pairTrees U D X.af Z)) (λC B=>FD (λW Y=>Aa X J A Y B) (λW _=>Yp W C) (λW Y=>Q W Y)) X.xe s
theorem Z4:RI X D [] [] []:=λJ s U H Q I h=>pairTrees_nil_walk ⟨[],H,I,.nil,h⟩
theorem My(M:Ao X k A)(O:Ao X v B)(N:RI X V ks vs W):RI X V (AA k::ks) (v::vs) ((A,B)::W):=by showλz s Z H Q I h=>pairTrees_cons_walk (A1 (M _ s Z H _ I h) λu s1 D=>?_);obtain⟨x,C,G,T,P⟩:_:=D;show A1 (O _ s1 Z C _ G P) λc s2 J=>?_;obtain⟨y,E,K,a,R⟩:_:=J;show A1 (N _ s2 Z E _ K R) λd s3 U=>?_;obtain⟨b,F,L,Y,S⟩:_:=U;show⟨_,F,L,.cons ⟨T,a⟩ Y,S⟩
noncomputable def IA(kvs D:List (AL×AE)):List (AL×AE):=D.foldl (λJ U=>Bp J U.1 U.2) kvs
theorem Fb.adh:∀{D:List (AL×AE)}{J:List (AL×AK)}{kvs:List (AL×AE)}{vs:List (AL×AK)},Fb D J->Fb kvs vs->Fb (IA kvs D) (merged vs J):=by intro D J kvs vs r;induction r generalizing kvs vs with|nil=>intro q;show q|@cons p q Y Z h t U=>
 intro W;have e:Fb (Bp kvs p.1 p.2) (stored vs q.1 q.2):=by have:=W.ny p.1 h.2;rw[<-h.1];show this
 show U e
theorem Za:∀(D kvs:List (AL×AE)),(IA kvs D).length<=kvs.length+D.length|[],kvs=>by show Al _|p::r,kvs=>by have J:=Za r (Bp kvs p.1 p.2);have U:=Uz kvs p.1 p.2;change(IA _ r).length<=_;rw[M3];lia
theorem Y3:∀{kvs:List (AL×AE)}{U:List (AK×AK)},Yp (kvs.map λJ=>(Au J.1,J.2)) U->∃D,Carries (FQ P w) U D/\Fb kvs D|[],_,r=>by cases r;show⟨[],IL,.nil⟩|p::kvs,_,r=>by cases r with|@cons a b Y z h t=>lk;obtain⟨D,c,q⟩:=Y3 t;obtain⟨Z,W⟩:=b;k_in;show⟨(p.1,W)::D,⟨Nz h.1,rfl,c⟩,.cons ⟨rfl,h.2⟩ q⟩
def yU(J:List (Az×Az)):Az:=λZ H Q=>∀p,H p=AF->VR J Z (AO H p (.dK [])) λY U=>U p=AA (.dK [])/\K6 (λ(D:List (AL×AE))=>Y=D.map (λW=>(Au W.1,W.2))) (λD=>D.length<=15) (λD=>Q (.ref p) (AO U p (.dK (IA [] D))))
theorem Zy(h:RI X Z D J A)(V:D.all (·.isSome)=AJ)(S:D.length=J.length)(N:D≠[])(B:D.length<=15):Ao X (.Dict D J Z) (yU A):=by
 intro F s l H Q I q;have T:=I.cp.bw (Al _);have G:=I.nu (t':=s.toks) (λ_ _ q=>DC _ q) (Al _) (ZE _ I.aer);show wpAny_Dict_walk (knd:=FQ _ _) V S N B (A1 (h _ _ l _ _ G (q _ T)) λp s2 W=>?_);obtain⟨o,m,E,C,e,Y,L,n,f⟩:_:=W;subst L;lk;obtain⟨j,c,i⟩:=Y3 C;obtain⟨z,P,k,g,K⟩:=PN E.cp e;cases g;k_in;show⟨j,c,K,λM U b=>⟨.ref _,_,?_,rfl,f⟩⟩;have d:(IA [] Y).length<=Ay:=by have O:=Za Y [];rw[Vg]at O;rw[Dc];lia
 have R:∃q,M.get? _=AA q:=let⟨q,_,_,a,_⟩:=U;⟨q,a⟩;show RX E (by rw[e];show IL) b R (Ug d P (i.adh .nil) U)
structure sC(X:Be)(o:BO)(m:AG)(apos:CV)(e:BO)(cpos:CV):Prop where
 ag:J3 o m X.af (BY o X.af)=BY o X.af
 aec:((FU cpos (CQ [e] X.af)).all (λx=>!x.1)&&(QE cpos (QL [] X.af)).all (λx=>x.1.isSome)&&Ae (([e]:List BO).length+([]:List MM).length+(if([]:List MM).isEmpty then 0 else 1)<30))=AJ
 aby:(apos.endLine==cpos.line)=AJ
 aaw:FU cpos (CQ [e] X.af)=[(AQ,BY e X.af)]
structure sF(X:Be)(o:BO)(m:AG)(apos:CV)(e f:BO)(cpos:CV):Prop where
 ag:J3 o m X.af (BY o X.af)=BY o X.af
 aec:((FU cpos (CQ [e,f] X.af)).all (λx=>!x.1)&&(QE cpos (QL [] X.af)).all (λx=>x.1.isSome)&&Ae (([e,f]:List BO).length+([]:List MM).length+(if([]:List MM).isEmpty then 0 else 1)<30))=AJ
 aby:(apos.endLine==cpos.line)=AJ
 aaw:FU cpos (CQ [e,f] X.af)=[(AQ,BY e X.af),(AQ,BY f X.af)]
def Ni(H:AI)(a:AD):Prop:=(∃D,Fs H a (.dK D))\/∃D,Fs H a (.dT D)
theorem ZS(I:Aa X J Z H s)(d:Ni H a):s.TypeIs (.ref a) "dict"/\(∀b,DV a=.ref b->∃ob,s.heap.get? b=AA ob/\ob.dict=AF)/\(a==LU)=AQ:=by
 rcases d with⟨Y,e⟩|⟨Y,e⟩
 . obtain⟨_,W,z,_,D⟩:_:=PR I.cp e;show⟨D.typeIs,λb q=>?_,W⟩;lk;cases q;obtain⟨ob,_,_,U,V,_⟩:=D;k_in;show⟨ob,U,V.2.1⟩
 . obtain⟨_,W,A,_,D⟩:_:=PU I.cp e;show⟨D.typeIs,λb q=>?_,W⟩;lk;cases q;obtain⟨ob,_,_,U,V,_⟩:=D;k_in;show⟨ob,U,V.2.1⟩
theorem tJ(G:A.units+1<F2)(I:Aa X U L H s)(g:Ga H a y o)(B:Bn y u)(Z:Bn d r)(h:∀C s',Aa X U L H s'->Bn (o.getD d) C->Q C s'):As (An X.ai X.w) A (Jb (.builtin "dict.get") [.ref a,u,r]) Q E s:=by
 rcases g with⟨Y,k,e,V,l⟩|⟨Y,k,b,e,V,F,l⟩
 . subst V;obtain⟨z,W,M,D,J⟩:_:=PR I.cp e;show ABO AAx J.typeIs ADW (ADS _ _ _) (meets_dict_get_default _ a (Nz B) W r) ⟨_,J.mapOf,h _ _ (I.ig _) ?_⟩;rw[l];show(D.ach k).acz Z
 . subst V;lk;cases(show u=DV b from B);obtain⟨z,W,K,D,J⟩:=PU I.cp e;k_in;show ABO AAx J.typeIs ADW (ADS _ _ _) (meetsH_dict_get_default _ a b W r) ⟨ABa G,k,K,Rh I.cp F,J,h _ _ (I.ig _) ?_⟩;rw[l];show(D.ach k).acz Z
def yR(W Z Y:Az):Az:=λD H Q=>W D H λx J=>K6 (λa=>x=.ref a) (λa=>Ni J a) (λa=>Z D J λy V=>Y D V λz U=>Ft (λo=>Ga U a y o) (λo=>Q (o.getD z) U))
def yT(W Y:Az):Az:=λV H Q=>W V H λx J=>K6 (λa=>x=.ref a) (λa=>Ni J a) (λa=>Y V J λy U=>PK (λD k v=>U a=AA (.dK D)) (λ_ k _=>y=Au k) (λD k v=>Bv D k=AA v) (λD k v=>Q v (AO U a (.dK (DX D k)))))
theorem VF(R:X.A.units+1<F2)(P:Ao X o k)(N:Ao X e n)(O:Ao X f l)(m:sF X o "get" D e f J):Ao X (.Call (.Attribute o "get" D) [e,f] [] J) (yR k n l):=by intro B s Z H Q I h;show eQ m.ag m.aec m.aby dC AAx F.type_dict_get (A1 (P _ s Z H _ I h) λu s1 U=>?_);obtain⟨x,C,A,c,a,M,d,S⟩:_:=U;subst M;lk;obtain rfl:u=DV a:=c;obtain⟨t1,t2,_⟩:=ZS A d;k_in;show⟨t1,t2,?_⟩;rw[m.aaw];show cZ rfl (dA (OL (A1 (N _ s1 Z C _ A S) λq s2 V=>?_)));obtain⟨y,E,G,i,T⟩:_:=V;show OL (A1 (O _ s2 Z E _ G T) λp s3 W=>?_);obtain⟨z,F,K,j,r,g,b⟩:_:=W;show P9 ?_;show tJ R K g i j λt s4 L Y=>⟨_,F,L,Y,b⟩
theorem Zz(L:Ao X o S)(K:Ao X e T)(m:sC X o "pop" D e J):Ao X (.Call (.Attribute o "pop" D) [e] [] J) (yT S T):=by intro Z s z H Q I h;show eQ m.ag m.aec m.aby dC ADb F.type_dict_pop (A1 (L _ s z H _ I h) λu s1 U=>?_);obtain⟨x,A,Y,P,a,F,d,N⟩:_:=U;subst F;lk;obtain rfl:u=DV a:=P;obtain⟨t1,t2,_⟩:=ZS Y d;k_in;show⟨t1,t2,?_⟩;rw[m.aaw];show cZ rfl (dA (OL (A1 (K _ s1 z A _ Y N) λc s2 V=>?_)));obtain⟨y,b,B,R,M,k,v,E,G,l,O⟩:_:=V;show P9 ?_;subst G;show tL B E R l (.inl rfl) λf s3 C W=>⟨v,_,C,W,O⟩
theorem fR:∀(ns:List Int)(vs:List AK),W.WellAll P h vs (ns.map ADz)->SQ vs ns:=by intro ns;induction ns with|nil=>intro vs w;cases w;show .nil|cons n ns D=>intro vs w;cases w with|cons a b=>cases a;show .cons _ _ (D _ b)
theorem fT{l:Sa}(G:l.most=AA n)(J:l.row.toRowW.claim.pre D=AJ)(z:W.WellAll P h U D):∃a vs ns,U=[DV a]/\D=[W.WData.list (ns.map ADz)]/\h.get? a=AA {cls:=.type "list",data:=.seq vs.toArray}/\SQ vs ns/\ns.length<=n:=by
 have Z:=(W.pre_splitW J).1;have F:l.pre.holds [] _=AJ:=(W.pre_splitW J).2;lk;obtain⟨d,r,rfl,B,C⟩:=W.hasAllW_cons Z;obtain rfl:=W.hasAllW_nil C;obtain⟨L,rfl,E⟩:=W.hasW_list B;obtain⟨ns,rfl⟩:=W.items_int E;k_in;have W:=by
  have Y:=by have Y:=(W.holds_andW F).1;rw[G]at Y;show Y
  have A:=W.condW_of Y (W.w_not (W.w_lt W.w_lit (W.w_len_list (W.w_arg rfl))));first |(show absurd A _)|(simp at A;omega)
 cases z with|cons I K=>cases K;cases I with|list H V=>show⟨_,_,ns,rfl,rfl,H,fR ns _ V,W⟩
theorem fS(l:Sa)(D:List W.WData):l.row.toRowW.claim.post D (.bool AJ) D=AJ:=W.postW_of (by first|rfl|decide|simp) (show(W.WTm.eq _ _).value [] _=AA _ from W.w_eq_bool (W.w_res rfl) W.w_lit) rfl
theorem fQ{l:Sa}{d:DefRec}(hn:l.most=AA n)(hdf:d.params.defaults=[])(call:∀(w:Bu)(s₀ s₁:AV)(mg mb:AG->Option AK)(fa:AD)(o:BC)(pm cd doc:AK)(a:AD)(vs:List AK)(ns:List Int),W.Ground q loose [] XP w s₀ mg mb s₁.heap->YP w s₁.heap->s₁.heap.get? fa=AA o->o.data=.func (Calls.docDef d.name d.params d.body d.scope pm cd doc)->s₁.heap.CodeRec cd d.name->mg d.name=AA (.ref fa)->s₁.heap.get? a=AA {cls:=.type "list",data:=.seq vs.toArray}->SQ vs ns->ns.length<=n->s₁.gens=#[]->NI (An l.prog w) QJ (.call (.ref fa) ⟨[.ref a],[]⟩) (λr s'=>r=.ok (.ret (.bool AJ))/\OldK s₁.heap s'.heap/\s'.os=s₁.os/\MJ s'.gens) s₁):ABB q loose XP YP l.row.toRowW d [] (λf vs=>Jb f vs):=by intro w s₀ s₁ mg mb G Y fa o pm cd doc dV kV ho hd hcd hD hmg hg args vals as hpre hlay hrd hwl hlo;lk;obtain rfl:dV=.none:=W.Dflts.none hD hdf;obtain rfl:kV=.none:=W.Dflts.noKw hD;obtain⟨a,vs,ns,rfl,rfl,hobj,hints,hlen⟩:=fT hn hpre hwl;k_in;show W.enter_call (QK (call w _ _ mg mb fa o pm cd _ a vs ns G Y ho (W.fd_plain hd) hcd hmg hobj hints hlen hg) λr s' hq=>?_);obtain⟨rfl,h2,h3,h4⟩:_:=hq;show⟨.inl ⟨_,_,[],rfl,λ_=>rfl,.bool _,fS l _,λ_=>⟨AEl,λ_ hm=>(nomatch hm)⟩⟩,h2,h3,h4⟩
theorem zW(h:SQ vs ns):Bb (ns.map AE.int) vs:=by induction h with|nil=>show .nil|cons n t _ D=>show .cons ⟨t,rfl⟩ D
def PD(H:AI):Prop:=∀b,H b=AF\/∃o D,H b=AA (.frz o (.lst D))
set_option tactic.hygienic true in theorem vG{P:CN}{w:Bu}{K:Aq}{mg c:AG->Option AK}{CX:Ia}{k:Nat}{Q a:AD}{fd:Iv}{x:AG}{sp:BG}{D:AV}{vs:List AK}{ns:List Int}(g:K.In D.heap)(E:D.heap.Ns LR mg)(U:D.heap.Ns ABN c)(S:∀x:AG,x≠"__name__"->c x=QH x)(C:D.heap.NoLimit)(hg:D.gens=#[])(N:D.heap.get? a=AA {cls:=.type "list",data:=.seq vs.toArray})(hi:SQ vs ns)(p:ns.length<=Ay)(hr:DW k QJ)(F:∀base:BJ,K.In base->base.Ns LR mg->HN P w K mg base CX k Q fd [x] sp)(Z:∀(s:AV)(u:AK),SS s fd ⟨[u],[]⟩ [(x,u)])(X:∀H:AI,PD H->Bx K H a (ns.map AE.int)->sp [.ref a] H (λv _=>v=.bl AJ) λ_ _ _=>False)(R:∀H e s',CX [] H D (λ_ _ _=>False) e s'->False):NI (An P w) QJ (.call (.ref Q) ⟨[.ref a],[]⟩) (λr s'=>r=.ok (.ret (.bool AJ))/\OldK D.heap s'.heap/\s'.os=D.os/\MJ s'.gens) D:=by
  have t:=zW hi;have L:=hi.length;have Y:∀H:AI,PD H->Bx K H a (ns.map AE.int)->DG P w H D.heap->(∀b,H b≠AF->b=a)->(H a≠AF->K.lookup a=AF)->NI (An P w) QJ (.call (.ref Q) ⟨[.ref a],[]⟩) (λr s'=>r=.ok (.ret (.bool AJ))/\OldK D.heap s'.heap/\s'.os=D.os/\MJ s'.gens) D:=by
    intro H l hS G j hK;have J:∀{b:AD}{o:BC},D.heap.get? b=AA o->H b=AF->(Nx _ H).get? b=AA o:=λe n=>uD e n;have f:∀{b:AD}{o:BC}{es:Array _}{ep:Nat},D.heap.get? b=AA o->o.data=.dict es ep->H b=AF:=λ{b o es ep}e d=>by cases q:H b with |none=>rfl|some u=> have O:=j b (by rw[q];simp);subst O;rw[N]at e;cases e;have d':=d;cases d'
    have W:∀{b:AD}{m:AG->Option _},D.heap.Ns b m->(Nx _ H).Ns b m:=λ{b m}⟨o,es,ep,e,d,r⟩=>⟨o,es,ep,J e (f e d),d,r⟩;have B:=λb o e=>J (g b o e) (by cases q:H b with|none=>rfl|some u=>have O:=j b (by rw[q];simp);subst O;rw[hK (by rw[q];simp)]at e;cases e);have hM:RG K mg _:=⟨B,W E,⟨c,W U,S⟩,let⟨mc,h1,h2⟩:=C;⟨mc,W h1,h2⟩⟩;have e0:Lk P w K mg _ QJ [] _ H:=⟨rfl,hM,λb o e=>vV e,Bo (uE _ _),trivial,λb U=>absurd (show b∈([])from U) (by simp),G,.of_eq hg⟩;show QK ((F _ B (W E)).adl _ [] _ H _ [.ref a] [.ref a] _ _ hr e0 (Z _ _) (.cons rfl .nil) (X H l hS)) λr s' h=>?_;cases r with |error e=>show(R H e s' h).elim|ok fl=>cases fl with |next=>show FW h|brk=>show FW h|cont=>show FW h|ret u=> obtain⟨v,H',os,A,y,I,r',q⟩:=h;have q':=q;subst q';obtain rfl:u=SW _:=r';show⟨rfl,OldK.of_keep λb o e=>?_,os,A⟩;cases q:H b with |none=>show y.ae b o e q (by intro z;show absurd (show b∈([])from z) (by simp)) (by simp)|some u=>
          rcases l b with z|⟨ob,xs,z⟩;.rw[q]at z;cases z
          . have z2:=y.ng b ob _ z;obtain⟨i,_⟩:=G b _ z;obtain⟨e2,_⟩:=I b _ z2;rw[e]at i;cases i;show e2
  cases T:K.lookup a with |some o=>have e:=g a o T;rw[N]at e;cases e;show Y _ (λ_=>.inl rfl) (.inr ⟨_,_,_,T,rfl,rfl,rfl,by rw[ID,L];show p,by simpa using t⟩) (λb u z=>by have M:=z;cases M) (λb z=>absurd rfl z) λz=>absurd rfl z|none=>
    show Y (λb=>if b=a then AA _ else AF) (λb=>?_) (.inl (.inr ⟨{cls:=.type "list",data:=.seq vs.toArray},AFi rfl⟩)) (λb u z=>?_) (λb z=>?_) λ_=>T
    . by_cases U:b=a;.show .inr ⟨_,_,AFi U⟩
      .show .inl (AFh U)
    . by_cases U:b=a;. have M:=(AFi U).symm.trans z;cases M;subst U;show⟨N,by rw[BB];show p,vs,_,t,N⟩
      . have M:=(AFh U).symm.trans z;cases M
    . by_cases U:b=a;.show U
      .show absurd (AFh U) z
theorem zZ{l:Sa}{N:Bu->BJ->Prop}{d:DefRec}{K:dH->Aq}{CX:Bu->Ia}{sp:Bu->BG}(j:l.most=AA n)(I:n<=Ay)(C:d.params.defaults=[])(m:DW k QJ)(b:∀(w:Bu)(h:BJ),N w h->(K w.params).In h)(F:∀(w:Bu)(W:AG->Option AK)(z:AD)(h:BJ),(K w.params).In h->h.Ns LR W->W d.name=AA (.ref z)->∃A:Iv,(∀(s:AV)(u:AK),SS s A ⟨[u],[]⟩ [(x,u)])/\∀base:BJ,(K w.params).In base->base.Ns LR W->HN l.prog w (K w.params) W base (CX w) k z A [x] (sp w))(L:∀(w:Bu)(H:AI)(a:AD)(ns:List Int),ns.length<=n->PD H->Bx (K w.params) H a (ns.map AE.int)->sp w [.ref a] H (λv _=>v=.bl AJ) λ_ _ _=>False)(B:∀(w:Bu)(H:AI)(s:AV)(e:AK)(s':AV),CX w [] H s (λ_ _ _=>False) e s'->False):ABB q U Q N l.row.toRowW d [] (λf vs=>Jb f vs):=by show fQ j C λw O P W y z o pm p R a vs ns G Y t r g E Z J D i=>?_;have M:=b w _ Y;obtain⟨A,c,S⟩:_:=F w W z _ M G.T.g E;show vG M G.T.g G.T.b G.T.builtins G.T.nolimit i Z J (Ak D I) m S c (λH T X=>L w H a ns D T X) λH e s'=>B w H _ e s'
theorem AAA{l:Sa}{z:Bu->BJ->Prop}{d:DefRec}{K:dH->Aq}{CX:Ia}{sp:Aq->BG}(M:l.most=AA n)(Y:n<=Ay)(W:d.params.defaults=[])(N:DW k QJ)(L:∀(w:Bu)(h:BJ),z w h->(K w.params).In h)(F:∀(w:Bu)(J:AG->Option AK)(A:AD)(h:BJ),(K w.params).In h->h.Ns LR J->J d.name=AA (.ref A)->∃B:Iv,(∀(s:AV)(u:AK),SS s B ⟨[u],[]⟩ [(x,u)])/\∀base:BJ,(K w.params).In base->base.Ns LR J->HN l.prog w (K w.params) J base CX k A B [x] (sp (K w.params)))(Z:∀(K:Aq)(H:AI)(a:AD)(ns:List Int),ns.length<=n->PD H->Bx K H a (ns.map AE.int)->sp K [.ref a] H (λv _=>v=.bl AJ) λ_ _ _=>False)(U:∀(H:AI)(s:AV)(e:AK)(s':AV),CX [] H s (λ_ _ _=>False) e s'->False):ABB q D C z l.row.toRowW d [] (λf vs=>Jb f vs):=zZ M Y W N L F (λw H a ns E G I=>Z _ H a ns E G I) λ_ H s e s'=>U H s e s'
noncomputable def GC(s:Cj)(j:Nat):Cj:=match s with|.ClassDef _ _ _ body _ _ _ _ _ _ _=>body.getD j (.Pass ⟨0,0,0,0⟩)|_=>.Pass ⟨0,0,0,0⟩
noncomputable def Nv(s:Cj):Arguments:=match s with|.FunctionDef _ a _ _ _ _ _ _ _ _=>a|_=>{posonlyargs:=[],args:=[],vararg:=AF,kwonlyargs:=[],kw_defaults:=[],kwarg:=AF,defaults:=[]}
noncomputable def KQ(s:Cj):List Cj:=match s with|.FunctionDef _ _ b _ _ _ _ _ _ _=>b|_=>[]
noncomputable def CU(s:Cj):Fj:=match s with|.FunctionDef _ _ _ _ _ _ D _ _ _=>D|_=>{kind:=.function,names:=[],isGenerator:=AQ,isCoroutine:=AQ}
abbrev BI:Ia:=λ_ _ _ _ _ _=>False
abbrev Mj:Fu:=λ_ _ _=>False
theorem Js:Nq BI X Mj:=λ_ _ _ _ _ _ _ h=>h.elim
structure Nh(K:Aq)(x qual:AG)(st:Cj)(f:AD)(fd:Iv):Prop where
 ex:∃(oc:AK)(od:Option AD)(kV doc pm:AK)(an:Option AD)(cdv ct:AK)(osl:Array (Option AK)),fd=OM x qual (Nv st) (KQ st) (CU st) .none kV doc pm an cdv ct/\K.lookup f=AA ⟨oc,od,.func fd,osl⟩/\dS K cdv qual=AJ
 kp:Se K (.ref f)=AJ
theorem Nh.ok{K:Aq}{st:Cj}(F:Nh K x J st f B)(S:Lm N ps (CU st))(z:∀vs H Q E,sp vs H Q E->vs.length=ps.length)(W:∀(U:AK)(A:Ck)(D:List Dl)(s:AV)(H:AI)(vs:List AE)(Q:Bh)(E:Fu),DW k (A.deeper (GW J (CU st) s.heap.objs.size f U))->sp vs H Q E->∃t,FC (FG BI P w K L base N J (CU st) f U A D s H E).ack (KQ st) t/\t {nx:=λ_ H'=>Q .non H',rt:=Q} (LJ N vs) H):HN P w K L base BI (k+1) f B ps sp:=by lk;obtain⟨X,a,T,C,b,O,U,R,M,rfl,I,Y⟩:=F.ex;k_in;refine ZL I Y S z λA D s H vs Q E G Z=>?_;lk;obtain⟨t,h,q⟩:=W _ A _ s H vs Q E G Z;k_in;exact⟨t,h.ack,q⟩
theorem Nh.acr{K:Aq}{st:Cj}(F:Nh K x D st f A)(h:∀(Y U Z:AK)(V:Option AD)(J W:AK)(z:List AK),z.length=ps.length->ABM (OM x D (Nv st) (KQ st) (CU st) .none Y U Z V J W) ⟨z,[]⟩=Bf (ps.zip z)):Lj K A ps []:=by lk;obtain⟨G,H,Y,U,Z,V,J,W,C,rfl,E,B⟩:=F.ex;k_in;exact .zp (h Y _ Z V _ W)
theorem Um{K:Aq}{st:Cj}(l:K.lookup f=AA ⟨A,B,.func (OM x D (Nv st) (KQ st) (CU st) .none Z U z W J Y),V⟩)(c:dS K J D=AJ)(k:Se K (.ref f)=AJ):Nh K x D st f (OM x D (Nv st) (KQ st) (CU st) .none Z U z W J Y):=⟨⟨A,B,Z,U,z,W,J,Y,V,rfl,l,c⟩,k⟩
theorem Bj(i:Nat){x:AG}(U:X.N[i]?=AA x:=by rfl)(W:RP X.af.scope x:=by first|exact Or.inl rfl|exact Or.inr (Or.inl rfl)|exact Or.inr (Or.inr rfl))(V:(x==("__debug__":AG))=AQ:=by decide)(D:(x==("__classdict__":AG))=AQ:=by decide):Ao X (.Name x J) (bA i):=Z1 U W V D
theorem Ce{A B:Prop}(h:B):if AQ=AJ then A else B:=by exact h
theorem Fd{A B:Prop}(h:A):if AJ=AJ then A else B:=by exact h
def Ah(H H':AI):Prop:=∀b o,H b=AA o->H' b=AA o
theorem CA(H:AI):Ah H H:=λ_ _ h=>h
theorem Ah.aa(a:Ah H D)(b:Ah D J):Ah H J:=λc o h=>b c o (a c o h)
theorem Ah.au(e:Ah H H')(h:H' l=AF):H l=AF:=by cases q:H l with|none=>rfl|some o=>rw[e l o q]at h;cases h
theorem Ah.vd{K:Aq}(e:Ah H H')(h:Bx K H a xs):Bx K H' a xs:=by
 rcases h with(h|⟨o,h⟩)|h;.exact .inl (.inl (e _ _ h))
 .exact .inl (.inr ⟨o,e _ _ h⟩)
 .exact .inr h
theorem bH{U:Type}[DecidableEq U]{kvs:List (U×AE)}{k:U}(h:Bv kvs k=AF):¬k∈kvs.map (·.1):=by intro m;lk;obtain⟨p,D,e⟩:=BQ.mp m;k_in;have q:(kvs.any λJ=>Ae (J.1=k))=AJ:=Vb.mpr ⟨p,D,AFk e⟩;rw[N9,h]at q;exact absurd q (by simp)
section
variable{κ:Type}[DecidableEq κ]
theorem Zk:∀{l:List κ}{k:κ},l.Nodup->¬k∈l->(l++[k]).Nodup
 |[],k,_,_=>by simp|a::r,k,h,D=>by
  obtain⟨h1,h2⟩:=Kb.mp h;refine Kb.mpr ⟨λm=>?_,Zk h2 λm=>D (CJ.mpr (Or.inr m))⟩;rcases DN.mp m with q|q;.exact h1 q
  .exact D (CJ.mpr (Fi (Bt.mp q).symm))
end
theorem tR[DecidableEq D]{p:D×AE}(e:p.1=k):DX (p::r) k=DX r k:=by unfold DX;rw[G7,AFh (by simp[e])]
theorem tQ[DecidableEq D]{p:D×AE}(e:¬p.1=k):DX (p::r) k=p::DX r k:=by unfold DX;rw[G7,AFi (by simp[e])]
theorem tP{D:Type}[DecidableEq D]{kvs:List (D×AE)}{k:D}{p:D×AE}(h:p∈DX kvs k):p∈kvs:=(Dx.mp h).1
section
variable{κ:Type}[DecidableEq κ]
theorem U2:∀{kvs:List (κ×AE)}{k:κ},(kvs.map (·.1)).Nodup->((DX kvs k).map (·.1)).Nodup
 |[],_,_=>List.nodup_nil|p::r,k,h=>by
  obtain⟨h1,h2⟩:=Kb.mp h;by_cases e:p.1=k;. rw[tR e];exact U2 h2
  . rw[tQ e];refine Kb.mpr ⟨λm=>h1 ?_,U2 h2⟩;lk;obtain⟨q,J,D⟩:=BQ.mp m;k_in;exact BQ.mpr ⟨q,tP J,D⟩
end
theorem DG.aac(x:DG P w H h)(V:H a=AF)(J:DL P w (AO H a o) h a o):DG P w (AO H a o) h:=by
  intro b u e;by_cases D:b=a
  . subst D;rw[Ac]at e;simp_all
  . rw[AW D]at e;refine(x b u e).ve (λW u2 u3 U=>U) (λc q=>?_) λc Y q=>?_;.rw[AW (by grind)];exact q
    .rw[AW (by grind)];exact q
noncomputable def K7(env:Dl)(D:List (AG×AD))(x:AG×MN):List (AG×AD):=if x.2=.free then(x.1,(env.cells.lookup x.1).getD 0)::D else D
noncomputable def Nu(env:Dl)(D:List (AG×MN)):List (AG×AD):=D.foldl (K7 env) []
theorem ZN{f:U->J->DP (ForInStep J)}{g:J->U->J}:∀(l:List U)(D:J),(∀x∈l,∀c,f x c=Bf (.yield (g c x)))->IM l D f=Bf (l.foldl g D)|[],D,_=>rfl|x::l,D,h=>by rw[List.forIn_cons,h x DO _];show IM l _ f=_;rw[ZN l _ λy V=>h y (Gh V)];rfl
theorem tE(h:∀y∈D.names,y.2=.free->∃c,env.cells.lookup y.1=AA c):ABQ D env=Bf (Nu env D.names):=by
  simp only[ABQ];rw[ZN (g:=K7 env) _ [] λx Z c=>by
    obtain⟨n,J⟩:=x;by_cases V:J=.free
    . subst V;obtain⟨a,W⟩:=h _ Z rfl;have U:=W;simp only[beq_self_eq_true,AFq,K7,cellOf,U,Option.getD_some];rfl
    . have Y:(J==NH)=AQ:=by(simpa using V)
      simp only[Y,MR,AFn,K7,V]];rfl
theorem Y5:∀(D:List (AG×MN))(J:List (AG×AD)),(D.foldl (K7 env) J).lookup y=AA c->J.lookup y=AA c\/((y,NH)∈D/\(env.cells.lookup y).getD 0=c)
 |[],J,h=>.inl h|(n,k)::r,J,h=>by
  rcases Y5 r _ h with q|⟨q,z⟩
  . unfold K7 at q;grind
  simp_all
theorem Uc:∀(D:List (AG×MN))(J:List (AG×AD)),((y,NH)∈D\/∃c,J.lookup y=AA c)->∃c,(D.foldl (K7 env) J).lookup y=AA c
  |[],J,h=>by simp_all|(n,k)::r,J,h=>by
    refine Uc r _ ?_;by_cases U:(y,NH)∈r;.exact Fi U
    . refine .inr ?_;rcases h with h|⟨c,h⟩
      . rcases CJ.mp h with e|e;. cases e;exact⟨_,by unfold K7;rw[AFi rfl,List.lookup_cons_self]⟩
        exact absurd e U
      . unfold K7;grind
theorem tH(I:Nat->AV->Prop)(turn:∀n s,I n s->As (An prog w) A (pyNext it) (λr J=>match r with|AF=>R (.ok .next) J|AA v=>As (An prog w) A (ABW D it v) (λ_ U=>As (An prog w) A (assign D env v) (λ_ Z=>As (An prog w) A (IM M AJ λc r=>if r=AJ then do let O<-WA c env (BY c env);Bf (Sq O)else Bf (Sq r)) (λO V=>if O=AJ then As (An prog w) A (BY G env) (λx z=>As (An prog w) A (Jb (.builtin "list.append") [F,x]) (λ_ B=>∃m,m<n/\I m B) (λ_ _=>False) z) (λ_ _=>False) V else∃m,m<n/\I m V) (λ_ _=>False) Z) (λ_ _=>False) U) (λ_ _=>False) J) (λ_ _=>False) s)(n:Nat)(h:I n s):NI (An prog w) A (.compLoop (.ListComp G [⟨D,N,M,0⟩] E P) 0 it F env) R s:=by refine codeAny_loop rfl I (λn s S=>?_) n h;refine wpAny_noted ?_;refine BL (ABk (BL (FV (turn n s S) (λr J W=>?_) λ_ _ Q=>Q.elim)));cases r with|none=>exact Cn W|some v=>refine BL (FV W (λ_ U C=>?_) (by simp));refine BL (FV C (λ_ Z H=>BL (FV H (λO V Y=>?_) (by simp))) (by simp));cases O with|false=>exact Cn ⟨rfl,Y⟩|true=>exact BL (BL (FV Y (λx z K=>BL (FV K (λ_ B L=>Cn (Cn ⟨rfl,L⟩)) (by simp))) (by simp)))
def KO(X:Be)(J:List BO)(t:DT):Prop:=∀(D:List (AD×BC))(s:AV)(U:Ai)(H:AI)(Q:Bool->AI->Prop),Aa X D U H s->t U H Q->As (An X.ai X.w) X.A (IM J AJ λc r=>if r=AJ then do let V<-WA c X.af (BY c X.af);Bf (Sq V)else Bf (Sq r)) (UW X D U Q) X.xe s
def VS:DT:=λ_ H Q=>Q AJ H
theorem Im:KO X [] VS:=λD s J H Q I h=>wpAny_tests_nil ⟨H,I,h⟩
theorem HS(h:Hx X c t):KO X [c] t:=λD s J H Q I hw=>wpAny_tests_one (h _ s J H Q I hw)
noncomputable def Dr(X:Be)(D:Fj)(N:List AG)(C:AD)(s:AV)(H:AI)(ex:List AD):Be:={X with N:=N,s₀:=s,H₀:=H,af:=compEnvC D (Nu X.af D.names) C X.af,kx:=X.cg,cg:=X.cg,ex:=ex,fn:=λ_=>AQ,pn:=[],xe:=λ_ _=>False}
noncomputable def G4(D:Ai)(j:Nat):Option AE:=(D[j]?).getD AF
def Mg(n0:Nat)(F:List Nat)(g:Eu)(I:DT)(G:Az)(K:Ai)(Q:Bh)(J:Gb)(z:AI):Prop:=∃W:Nat->Nat->Ai->List AE->AI->Prop,(∃m,W 0 m (FI n0 AF++F.map (G4 K)) [] z)/\∀i m C U H,W i m C U H->(J.vf i H/\∀D,H D=AF->Q (.ref D) (AO H D (.lst U)))\/(J.go i H/\U.length<Ay/\∀x A,J.aaz i H x A->g x C A λY z=>I Y z λb B=>if b=AJ then G Y B λy E=>∃Z,Z<m/\W (i+1) Z Y (U++[y]) E else∃Z,Z<m/\W (i+1) Z Y U B)
def L9(n0:Nat)(J:List Nat)(wi:GB)(g:Eu)(V:DT)(U:Az):Az:=λD H Q=>wi D H (Mg n0 J g V U D Q)
theorem aJ{env:Dl}:∀{D:List (AG×MN)}{y:AG},(∀z∈D,z.2≠.cell)->((D.map λ(n,k)=>if(k==NH&&env.scope.kind==.function&&env.kindOf n==AA .cell)then(n,dG)else(n,k)).lookup y=AA .cell\/(D.map λ(n,k)=>if(k==NH&&env.scope.kind==.function&&env.kindOf n==AA .cell)then(n,dG)else(n,k)).lookup y=AA .free)->(y,NH)∈D|[],y,_,h=>by simp_all|(n,k)::r,y,J,h=>by have U:=@aJ env r y (λV u2=>J _ (Gh u2));grind
theorem Zg{env:Dl}:∀{D:List (AG×MN)}{y:AG},D.lookup y=AA .free->(D.map λ(n,k)=>if(k==NH&&env.scope.kind==.function&&env.kindOf n==AA .cell)then(n,dG)else(n,k)).lookup y=AA .cell\/(D.map λ(n,k)=>if(k==NH&&env.scope.kind==.function&&env.kindOf n==AA .cell)then(n,dG)else(n,k)).lookup y=AA .free|[],y,h=>AAh _ h|(n,k)::r,y,h=>by have J:=@Zg env r y;grind
def KL(X:Be)(D:Fj):List (AG×Nat)->Prop|[]=>True|p::r=>X.N[p.2]?=AA p.1/\D.names.lookup p.1=AA .free/\KL X D r
theorem KL.zp:∀{J:List (AG×Nat)},KL X D J->∀p∈J,X.N[p.2]?=AA p.1/\D.names.lookup p.1=AA .free
 |p::r,h,q,U=>by
  rcases CJ.mp U with e|e;.subst e;exact⟨h.1,h.2.1⟩
  .exact KL.zp h.2.2 q e
theorem Y6(hc:X.ic=AJ)(hi:GS X tg O wi)(hk:U.kind=.function)(hcell:∀y∈U.names,y.2≠.cell)(hnames:∀y∈U.names,y.2=.local->U.names.lookup y.1=AA .local)(f:∀y∈U.names,y.2=.free->X.af.kindOf y.1=AA .cell\/X.af.kindOf y.1=AA .free)(hfr:KL X U N)(hg:∀C s H ex,K4 (Dr X U (own++N.map (·.1)) C s H ex) tg g)(ht:∀C s H ex,KO (Dr X U (own++N.map (·.1)) C s H ex) ifs tt)(he:∀C s H ex,Ao (Dr X U (own++N.map (·.1)) C s H ex) elt te)(hs:∀x,NJ O X.af x=Bf x)(I:Aa X P σ H s)(h:L9 own.length (N.map (·.2)) wi g tt te σ H Q)(fin:∀(D C:AD)m(s4:AV)(H5:AI)v,Aa X P σ H5 s4->s4.heap.Ns C m->H5 C=AF->C≠X.af.locals->X.s₀.heap.objs.size<=C->(∀x c,X.af.cells.lookup x=AA c->c≠C)->(∀p∈X.pn++P,p.1≠C)->Q (.ref D) H5->compPost (An X.ai X.w) X.A X.xe use PQ (.ref D) C (.ok v) s4):As (An X.ai X.w) X.A (comprehension (.ListComp elt [⟨tg,O,ifs,0⟩] U pos) U X.af p0 (newList []) AQ (BY O X.af) use) PQ X.xe s:=by
  have d:∀y c,(Nu X.af U.names).lookup y=AA c->X.af.cells.lookup y=AA c:=λy c e=>by
    rcases Y5 U.names [] e with q|⟨q,z⟩;.simp at q
    . obtain⟨c',e'⟩:=I.ok.abw y (f _ q rfl);rw[e']at z;rw[e',<-z];rfl
  have hclos:ABQ U X.af=Bf (Nu X.af U.names):=tE λy hy e=>I.ok.abw y.1 (f y hy e);refine wpAny_comprehension_free (use:=use) (cl:=Nu X.af U.names) (Q:=PQ) rfl hs hclos hk hnames ?_;refine A1 (hi P s σ H _ I h) λv s1 h1=>A1 h1 λitv s2 h2=>?_;lk;obtain⟨it,L,tn,J,R,e,Z,T,st2,f2,W,⟨m0,w0⟩,turn⟩:=h2;k_in;subst e;refine ABj (wpAny_newFunctionEnv hcell (by intro y hy;simp at hy) (λh₁ E A=>?_) hk);dsimp only at E A⊢;generalize hH2:s2.heap.push _=HL at E A⊢;have hC:HL.objs.size=s2.heap.objs.size+1:=by rw[<-hH2,AA4]
  generalize hCC:HL.objs.size=C at E A hC⊢;have hDC:s2.heap.objs.size≠C:=by rw[hC];exact Dz (OH _)
  have G:∀b,b<s2.heap.objs.size->b≠C/\b≠s2.heap.objs.size:=λb Y=>⟨by rw[hC];exact Dz (AAZ Y),Dz Y⟩;have old:=λb o e=>A.extBut b o (G b (CS e)).1 (DC _ (hH2▸DC _ e));have eD0:=A.extBut _ _ hDC (DC _ (hH2▸Gk _ rfl));have t:∀b∈L,b<s2.heap.objs.size:=λb Y=>by obtain⟨o,e,_⟩:=T.bz _ _ st2 b Y;exact CS e
  generalize hD:s2.heap.objs.size=D at hDC G eD0 t hC;have hDfp:D∉L:=λz=>HW _ (t D z);have okY:(Dr X U (own++N.map (·.1)) C s2 R L).Ok:=by
    refine⟨Z.ok.uk,hk,Z.ok.va,Z.ok.abl,by show s2.heap.objs.size<=C;simp_all,λx y c e1 e2=>Z.ok.abc x y c (d x c e1) (d y c e2),λy hy=>?_,λx c z _=>(by cases z),Z.ok.hd,Z.ok.il,.inl rfl,λb Y=>⟨(G b (t b Y)).1,λy c e=>?_⟩,Z.bs,Ak Z.ok.aam Z.sz,λb o e Y=>?_,λb Y z=>?_,Z.cg,Z.wx⟩;.exact Uc U.names [] (.inl (aJ (env:=X.af) hcell hy))
    .exact(f2 b Y).2.2.2.2.1 y c (d y c e)
    . rcases(f2 b Y).2.2.2.1 with z|z;.exact Z.ok.yy b o e z
      .exact absurd (Bc (CS e) (Ak Z.ok.aam z)) (HW _)
    . rcases CJ.mp (Z.wy b z)with q|q;.exact(f2 b Y).2.1 q
      .exact(f2 b Y).2.2.1 q
  have j:∀y c,X.af.cells.lookup y=AA c->c<D:=λy c e=>by obtain⟨v,z⟩:=Z.ma y c e;exact Bc z.lt (Bo hD)
  have stkLt:∀b∈DU X.cg,b<D:=λb Y=>by
    rcases CJ.mp (Z.wy b Y)with q|q;.rw[q];exact Bc Z.lt (Bo hD)
    . obtain⟨_,o,ho,_⟩:=Z.ok.nh.mem q;exact Bc (CS ho) (Ak Z.sz (Bo hD))
  have S:∀a,D<=a->R a=AF:=λa ha=>Z.cp.bw (Ak (Bo hD) ha);have IY:Aa (Dr X U (own++N.map (·.1)) C s2 R L) [] (FI own.length AF++(N.map (·.2)).map (G4 σ)) R {s2 with heap:=h₁,toks:=s2.toks+([]:List (AG×AK)).length}:=by
    refine⟨okY,rfl,Z.iu,RN old,⟨_,E,λi y v e1 e2 e3=>?_⟩,λy c e=>?_,S C (by simp_all),λy c e=>Z.ik y c (d y c e),λp M=>absurd (show p∈([]:List (AD×BC))from M) (by simp),Z.cp.ip old,?_⟩
    . have e1:(own++N.map (·.1))[i]?=AA y:=e1;have hi':own.length<=i:=by
        by_cases hlt:i<own.length
        . rw[OC (by simpa using hlt),ACc,AFi hlt]at e2;cases e2
        .simp_all
      rw[Py hi',CD]at e1;rw[Py (by simpa using hi'),CD,CD,ACe]at e2;cases M:N[i-own.length]? with|none=>rw[M]at e1;cases e1|some p=>
        rw[M]at e1 e2;have ey:p.1=y:=Bz e1;have ev:G4 σ p.2=AA v:=Bz e2;obtain⟨a1,a3⟩:=hfr.zp p (Ct M);have es:σ[p.2]?=AA (AA v):=by unfold G4 at ev;cases q:σ[p.2]? with|none=>rw[q]at ev;cases ev|some z=>rw[q]at ev;exact AFj AA ev
        have hfk:=f (p.1,.free) (QM a3) rfl;obtain⟨m,hn,hl⟩:=Z.vo;obtain⟨u,r,l⟩:=hl p.2 p.1 v a1 es (hfk.elim (λz=>.inr (.inl z)) λz=>.inr (.inr z));refine⟨u,r,.inr ?_⟩;rcases l with⟨z,_⟩|⟨_,c,ec,zc⟩;.rcases hfk with q|q<;>rw[z]at q<;>cases q
        . obtain⟨c',ec'⟩:=Uc (env:=X.af) (y:=p.1) U.names [] (.inl (QM a3));have:c'=c:=Bz ((d _ _ ec').symm.trans ec);subst this;rw[<-ey];obtain⟨o,ho,hdd⟩:=zc;exact⟨Zg (env:=X.af) a3,c',ec',o,old _ o ho,hdd⟩
    . obtain⟨v,z⟩:=Z.ma y c (d y c e);obtain⟨o,ho,hdd⟩:=z;exact⟨v,o,old _ o ho,hdd⟩
    . show(FI own.length (AF:Option AE)++(N.map (λp=>p.2)).map (G4 σ)).length=(own++N.map (λp=>p.1)).length;simp
  have fpY:∀{w:AI}{ob:BC},(∀b∈L,w b=AF)->∀b∈L,Jo (Dr X U (own++N.map (·.1)) C s2 R L) [(D,ob)] w b:=λ{w ob}hn b Y=>⟨hn b Y,(G b (t b Y)).1,λz=>okY.yo b Y z,.inl Y,λy c e=>(okY.acy b Y).2 y c e,λp M=>by
      have e:p=(D,ob):=by simpa[Dr]using M
      rw[e];show D≠b;exactλz=>hDfp (z▸Y)⟩;have noC:∀(xs:Array AK)(k:Nat)(v:Option AK),({cls:=.type "list",data:=.seq xs k}:BC).data≠.cell v:=λxs k v z=>by cases z
  have loop:∀s₃:AV,s₃={s2 with heap:=h₁,toks:=s2.toks+([]:List (AG×AK)).length}->NI (An X.ai X.w) X.A (.compLoop (.ListComp elt [⟨tg,O,ifs,0⟩] U pos) 0 (.ref it) (.ref D) (compEnvC U (Nu X.af U.names) C X.af)) (compPost (An X.ai X.w) X.A X.xe use PQ (.ref D) C) s₃:=by
    rintro s₃ rfl;refine tH (λn s'=>∃(i:Nat)(τ:Ai)(K:List AE)(H':AI)(B:List AK)(k:Nat),Aa (Dr X U (own++N.map (·.1)) C s2 R L) [] τ H' s'/\tn i s'.heap/\(∀b∈L,H' b=AF)/\H' D=AF/\Bb K B/\s'.heap.get? D=AA {cls:=.type "list",data:=.seq B.toArray k}/\K.length<=Ay/\W i n τ K H') ?_ m0 ⟨0,_,[],R,[],0,IY,T.ae _ _ _ st2 λb _ o e=>old b o e,λb Y=>(f2 b Y).1,S D (Al _),.nil,eD0,Bd _,w0⟩;rintro n s3⟨i,τ,K,w,B,k,I3,st3,fr3,fD,rv,eD,hz,w3⟩;have I3':Aa (Dr X U (own++N.map (·.1)) C s2 R L) [(D,{cls:=.type "list",data:=.seq B.toArray k})] τ w s3:=I3.jl λp M=>by
      have e:=by simpa using M
      subst e;exact⟨eD,fD,hDC,λz=>HW _ (stkLt D z),noC _ _⟩
    rcases turn i n τ K w w3 with⟨stop,qn⟩|⟨go,hlt,step⟩
    . refine A1 (T.wk (Dr X U (own++N.map (·.1)) C s2 R L) rfl rfl rfl hc i _ s3 τ w (λ_ _=>False) I3' (fpY fr3) st3 stop) λr s4 hh11=>?_;obtain⟨hr,I4⟩:=hh11;subst hr;obtain⟨m,hn4,_⟩:=I4.vo;obtain⟨eD4,fD4,_⟩:=I4.qx (D,{cls:=.type "list",data:=.seq B.toArray k}) (Ea _ (Bt.mpr rfl));have b4:Ge (DU X.cg) L R w s2.heap s4.heap:=I4.ag;have lt2:∀b o,s2.heap.get? b=AA o->b≠C/\b≠D:=λb o e=>G b (Bc (CS e) (Bo hD));have tr2:∀b o,R b=AA o->b≠D:=λb o e z=>by have:=S D (Al _);rw[z,this]at e;cases e
      have un:Ge (DU X.cg) L R (AO w D (.lst K)) s2.heap s4.heap:=by
        refine⟨λb o e n Y hx=>b4.ae b o e n Y hx,λb o e n Y hx=>?_,λb o e n hx=>?_,λb o e hx=>?_,λb xs e=>?_,λb o u e=>?_,λb ps e=>?_⟩
        . obtain⟨sl,q⟩:=b4.qv b o e n Y hx;exact⟨sl,q⟩
        .rw[AW (lt2 b o e).2];exact b4.au b o e n hx
        . obtain⟨o',q⟩:=b4.cq b o e hx;exact⟨o',q⟩
        .rw[AW (tr2 _ _ e)];exact b4.ri b xs e
        .rw[AW (tr2 _ _ e)];exact b4.ng b o u e
        .rw[AW (tr2 _ _ e)];exact b4.rh b ps e
      have hok':DG X.ai X.w (AO w D (.lst K)) s4.heap:=I4.cp.aac fD4 ⟨hz,B,k,rv,eD4⟩;have IX:Aa X P σ (AO w D (.lst K)) s4:=Z.xk (s':=s4) (ch:=L) I4.os un hok' I4.iu λb Y=>⟨(f2 b Y).2.2.2.1,(f2 b Y).2.1,(f2 b Y).2.2.2.2.1,(f2 b Y).2.2.2.2.2⟩;have hHC:w C=AF:=I4.au;have noCD:∀b:AD,b<D->C≠b:=λb Y z=>by rw[<-z,hC]at Y;exact HW D (IE Y)
      have hCL:C≠X.af.locals:=noCD _ (Bc Z.lt (Bo hD));refine fin D C m s4 _ _ IX hn4 (by rw[AW hDC.symm];exact hHC) hCL (Ak Z.sz (by simp_all)) (λz c e q=>?_) (λp M q=>?_) (qn D fD4);.exact noCD _ (j z c e) q.symm
      .exact noCD _ (Bc (CS (Z.qx p M).1) (Bo hD)) q.symm
    . refine A1 (T.wq (Dr X U (own++N.map (·.1)) C s2 R L) rfl rfl rfl hc i _ s3 τ w (λ_ _=>False) I3' (fpY fr3) st3 go) λr s4 hh21=>?_;obtain⟨u,hr,h4⟩:=hh21;subst hr;refine A1 h4 λ_ s5 hh31=>?_;obtain⟨x,H5,I5,r5,y5,st5,fr5⟩:=hh31;have I5':=I5.aat (fpY fr5) (T.bz _ _ st5);refine A1 (hg _ _ _ _ _ s5 τ H5 x u _ I5' r5 (step x H5 y5)) λ_ s6 hh41=>?_;obtain⟨τ6,H6,I6,q6⟩:=hh41;refine A1 (ht _ _ _ _ _ s6 τ6 H6 _ I6 q6) λb s7 hh51=>?_;obtain⟨H7,I7,q7⟩:=hh51;have facts:∀{s8:AV}{H8:AI}{τ8:Ai},Aa (Dr X U (own++N.map (·.1)) C s2 R L) ([(D,{cls:=.type "list",data:=.seq B.toArray k})]++Rv L s5.heap) τ8 H8 s8->tn (i+1) s8.heap/\(∀b∈L,H8 b=AF)/\H8 D=AF/\s8.heap.get? D=AA {cls:=.type "list",data:=.seq B.toArray k}:=λ{s8 H8 τ8}I8=>by
        have M:∀b∈L,∀o,s5.heap.get? b=AA o->s8.heap.get? b=AA o/\H8 b=AF:=λb Y o e=>by have q:=I8.qx (b,o) (Ea _ (Ea _ (U1 Y e)));exact⟨q.1,q.2.1⟩
        have qD:=I8.qx (D,{cls:=.type "list",data:=.seq B.toArray k}) (Ea _ (HU _ (Bt.mpr rfl)));refine⟨T.ae _ _ _ st5 λb Y o e=>(M b Y o e).1,λb Y=>?_,qD.2.1,qD.1⟩;obtain⟨o,e,_⟩:=T.bz _ _ st5 b Y;exact(M b Y o e).2
      cases b with |false=> obtain⟨m',hm,w7⟩:=q7;obtain⟨z1,z2,z3,z4⟩:=facts I7;exact⟨m',hm,i+1,τ6,K,H7,B,k,I7.jl λp M=>absurd M (by simp),z1,z2,z3,rv,z4,hz,w7⟩|true=>
        refine A1 (he _ _ _ _ _ s7 τ6 H7 _ I7 q7) λu8 s8 hh61=>?_;obtain⟨y,H8,I8,r8,m',hm,w8⟩:=hh61;obtain⟨z1,z2,z3,z4⟩:=facts I8;have hl:=rv.ar;refine QI AAz ⟨_,z4,rfl⟩ ADX (ADT _ _) (AES D B.toArray k u8 (by rw[ID];exact Ak (Bo hl.symm) (B7 hlt))) ⟨z4,?_⟩;have z5:=ADl z4 (·.push u8);have z6:B.toArray.push u8=(B++[u8]).toArray:=by simp
        rw[z6]at z5;have kk:∀b o,b≠D->s8.heap.get? b=AA o->(s8.heap.update D (Em (·.push u8))).get? b=AA o:=λb o Y e=>(ADk s8.heap (Em (·.push u8)) (El Y)).trans e;have I8':Aa (Dr X U (own++N.map (·.1)) C s2 R L) [] τ6 H8 s8:=I8.jl λp M=>absurd M (by simp);refine⟨m',hm,i+1,τ6,K++[y],H8,B++[u8],_,I8'.fw (it:=D) kk z3 hDC (.inr (by show s2.heap.objs.size<=D;exact Bo hD)) (λy c e=>Dz (j y c (d y c e))) (λp M=>absurd (show p∈([]:List (AD×BC))from M) (by simp)),?_,z2,z3,rv.pz (.cons r8 .nil),z5,?_,w8⟩;.exact T.ae _ _ _ z1 λb Y o e=>kk b o (λz=>hDfp (z▸Y)) e
        .rw[CI,AAK];assumption
  exact codeAny_compStart_list (loop _ rfl) (T.yg X.A 0 _ _ _ (T.ae _ _ _ st2 λb _ o e=>old b o e) (loop _ rfl))
theorem Zx{K:Az}(a:X.ic=AJ)(hi:GS X F U wi)(f:J.kind=.function)(W:∀y∈J.names,y.2≠.cell)(V:∀y∈J.names,y.2=.local->J.names.lookup y.1=AA .local)(Y:∀y∈J.names,y.2=.free->X.af.kindOf y.1=AA .cell\/X.af.kindOf y.1=AA .free)(B:KL X J z)(d:∀C s H ex,K4 (Dr X J (own++z.map (·.1)) C s H ex) F g)(k:∀C s H ex,KO (Dr X J (own++z.map (·.1)) C s H ex) A L)(c:∀C s H ex,Ao (Dr X J (own++z.map (·.1)) C s H ex) Z K)(j:∀x,NJ U X.af x=Bf x:=by intro _;rfl):Ao X (.ListComp Z [⟨F,U,A,0⟩] J E) (L9 own.length (z.map (·.2)) wi g L K):=by intro G s r H Q I h;exact Y6 a hi f W V Y B d k c j I h λD C m s4 n v M i R S N O P q=>⟨m,i,λp l=>⟨.ref D,_,M.fw (λb o T e=>(l.2 b T).trans e) R S (.inr N) O P,rfl,q⟩⟩
theorem Pk{K:DT}(Z:List (AG×Nat))(L:X.ic=AJ)(hi:GS X (.Name x G) J wi)(O:X.af.scope=osc)(N:D.kind=.function)(V:∀y∈D.names,y.2≠.cell)(U:∀y∈D.names,y.2=.local->D.names.lookup y.1=AA .local)(W:∀y∈D.names,y.2=.free->osc.names.lookup y.1=AA .cell\/osc.names.lookup y.1=AA .free)(A:KL X D Z)(F:D.names.lookup x=AA .local)(B:(x::Z.map (·.1)).Nodup)(Q:∀C s H ex,KO (Dr X D (x::Z.map (·.1)) C s H ex) z K)(M:∀C s H ex,Ao (Dr X D (x::Z.map (·.1)) C s H ex) Y I)(P:∀x,NJ J X.af x=Bf x:=by intro _;rfl):Ao X (.ListComp Y [⟨.Name x G,J,z,0⟩] D E) (L9 1 (Z.map (·.2)) wi (Gx 0) K I):=Zx (own:=[x]) L hi N V U (λy R e=>by show X.af.scope.names.lookup _=_\/X.af.scope.names.lookup _=_;rw[O];exact W y R e) A (λC s H ex=>Il B rfl (.inl (Km F)) (.inr (Km F))) Q M P
theorem tI{K:Az}(xs:List AE)(p:AE->Bool)(f:AE->AE)(b:xs.length<=Ay)(Z:∀i,i<xs.length->J.go i H)(A:J.vf xs.length H)(a:∀i x H',i<xs.length->J.aaz i H x H'->H'=H/\xs[i]?=AA x)(C:∀x(R:Bool->AI->Prop),x∈xs->R (p x) H->L (AA x::Y.map (G4 E)) H R)(B:∀x(R:Bh),x∈xs->p x=AJ->R (f x) H->K (AA x::Y.map (G4 E)) H R)(T:∀D,H D=AF->Q (.ref D) (AO H D (.lst ((xs.filter p).map f)))):Mg 1 Y (Gx 0) L K E Q J H:=by
  refine⟨λi m M W H'=>m=xs.length-i/\i<=xs.length/\H'=H/\(∃o,M=o::Y.map _)/\W=(((xs.take i).filter p).map f),⟨xs.length,by simp,Bd _,rfl,⟨_,rfl⟩,rfl⟩,?_⟩;intro i m M W H' S;lk;obtain⟨rfl,X,rfl,⟨o,rfl⟩,rfl⟩:=S;k_in;by_cases U:i<xs.length
  . refine .inr ⟨Z i U,?_,λx N y=>?_⟩
    . rw[BB];have P:((xs.take i).filter p).length<=(xs.take i).length:=Ff _ _;rw[Ej]at P;lia
    . obtain⟨O,F⟩:=a i x N U y;subst O;have I:=Ct F;refine C x _ I ?_;have G:=take_succ_filter p xs i x F;cases z:p x with |true=> refine B x _ I z ⟨_,Ja _ _ U,rfl,U,rfl,⟨_,rfl⟩,?_⟩;rw[G,z];simp|false=> refine⟨_,Ja _ _ U,rfl,U,rfl,⟨_,rfl⟩,?_⟩;rw[G,z];simp
  . have e:=Fh X (GV U);subst e;rw[SF];exact .inl ⟨A,T⟩
theorem Ue{K:Aq}(p:AE->Bool)(f:AE->AE)(U:Bx K H a xs)(E:xs.length<=Ay)(Y:∀x(R:Bool->AI->Prop),x∈xs->R (p x) H->A (AA x::J.map (G4 Z)) H R)(W:∀x(R:Bh),x∈xs->p x=AJ->R (f x) H->z (AA x::J.map (G4 Z)) H R)(B:∀D,H D=AF->Q (.ref D) (AO H D (.lst ((xs.filter p).map f)))):Mg 1 J (Gx 0) A z Z Q (Ln K a) H:=tI xs p f E (λi C=>⟨xs,xs[i],U,by simp[C]⟩) ⟨xs,U,Al _⟩ (λi x F _ y=>⟨y.1,y.2 xs U⟩) Y W B
def xS:AE->Option Int->Option Int->AI->Bh->Prop:=λx J D H Q=>K6 (λz=>x=.str z) (λz=>z.length<=Ay) (λz=>Q (.str (LQ z J D)) H)
theorem Zv(p:NG v o):∃l:Option (Int×II),v=partValue l/\l.map (·.1)=o:=by cases p with|none=>exact⟨AF,rfl,rfl⟩|int i t=>exact⟨AA (i,t),rfl,rfl⟩
theorem aO:Nr X xS:=by intro D s K H x v E G A Z B Q I Y J V W h;lk;obtain⟨z,rfl,U,q⟩:=h;obtain⟨t,rfl⟩:=Y;obtain⟨l,rfl,rfl⟩:=Zv V;obtain⟨u,rfl,rfl⟩:=Zv W;k_in;exact⟨"str",_,F.slot_str_getitem.lookup,eP _ _ _,wpAny_getItem_str_slice (l:=l) (u:=u) (st:=AF) J rfl (post_val_or_str ⟨Ak (Txt.slice_le z _ _) U,λC k=>⟨.str _,H,I.ig _,⟨_,rfl⟩,q⟩⟩)⟩
theorem JR{K:Aq}(J:X.K=K:=by rfl):Ez X (.builtin "isinstance") (λxs H Q=>∃x n t b,xs=[x,.ty n]/\Ic K H x t/\MO K t (.type n)=AA b/\Q (.bl b) H):=by subst J;intro D s A H xs z Q I r h;lk;obtain⟨x,n,t,b,rfl,W,e,q⟩:=h;obtain⟨u,Y,rfl,V,U⟩:=R6 r;cases(show Y=dN n from U);k_in;exact uL I V W e λZ=>⟨.bl b,H,I.ig _,rfl,q⟩
mutual inductive Fp(K:Aq)(H:AI):AE->EO->Prop where|non:Fp K H .non .none|bl(b:Bool):Fp K H (.bl b) (.bool b)|int(i:Int):Fp K H (.int i) (.int i)|str(x:AG):Fp K H (.str x) (.str x)|lst{a:AD}{xs:List AE}{ds:List EO}:Bx K H a xs->EW K H xs ds->Fp K H (.ref a) (.list ds)|tup{a:AD}{xs:List AE}{ds:List EO}:Cb K H a xs->EW K H xs ds->Fp K H (.ref a) (.tuple ds)inductive EW(K:Aq)(H:AI):List AE->List EO->Prop where|nil:EW K H [] []|cons{x:AE}{d:EO}{xs:List AE}{ds:List EO}:Fp K H x d->EW K H xs ds->EW K H (x::xs) (d::ds)end
section
variable{X:Be}{pins:List (AD×BC)}{σ:Ai}{H:AI}{s:AV}
mutual theorem Fp.aaa(I:Aa X pins σ H s):∀{x:AE}{d:EO}{u:AK},Fp X.K H x d->Bn x u->∃D,Reads s.heap u d D|_,_,_,.non,r=>by cases(by assumption);exact⟨_,.none⟩|_,_,_,.bl b,r=>by cases(by assumption);exact⟨_,.bool b⟩|_,_,_,.int i,r=>by obtain⟨t,rfl⟩:=r;exact⟨_,.int i t⟩|_,_,_,.str x,r=>by obtain⟨t,rfl⟩:=r;exact⟨_,.str x t⟩|_,_,_,.lst J ds,r=>by lk;cases r;obtain⟨U,Y,W,_⟩:=I.iq J;obtain⟨D,q⟩:=UO I ds Y;obtain⟨o,e,c,n,d⟩:=W.isList;k_in;exact⟨_,.list e c d (by simpa using q)⟩|_,_,_,.tup J ds,r=>by lk;cases r;obtain⟨U,Y,W,_⟩:=I.gf J;obtain⟨D,q⟩:=UO I ds Y;obtain⟨o,e,c,n,d⟩:=W;k_in;exact⟨_,.tuple e c d (by simpa using q)⟩theorem UO(I:Aa X pins σ H s):∀{xs:List AE}{ds:List EO}{Z:List AK},EW X.K H xs ds->Bb xs Z->∃D,ReadsAll s.heap Z ds D|_,_,_,.nil,r=>by cases r;exact⟨_,.nil⟩|_,_,_,.cons d ds,r=>by cases r with|cons r1 r2=>lk;obtain⟨D,q⟩:=Fp.aaa I d r1;obtain⟨z,p⟩:=UO I ds r2;k_in;exact⟨_,.cons q p⟩end
end
def Z9(K:Aq):Dq:=λx y H Q=>RQ (λd e=>Fp K H x d) (λ_ e=>Fp K H y e) (λd _=>Hj d=AJ) (λ_ e=>Hj e=AJ) (λd e=>Q (.bl (SV d e)) H)
def aC(K:Aq):Dq:=λx y H Q=>RQ (λd e=>Fp K H x d) (λ_ e=>Fp K H y e) (λd _=>Hj d=AJ) (λ_ e=>Hj e=AJ) (λd e=>Q (.bl (!SV d e)) H)
theorem U9{K:Aq}(W:X.A.units+64<F2)(J:X.K=K:=by rfl):CP X (Ed .Eq) (Z9 K):=by subst J;intro D s E H x y v u Q I Y Z h;lk;obtain⟨d,e,U,V,z,A,q⟩:=h;obtain⟨B,r1⟩:=U.aaa I Y;obtain⟨C,r2⟩:=V.aaa I Z;k_in;exact eq_dataH r1 r2 z A W ⟨.bl _,H,I,rfl,q⟩
theorem LF{K:Aq}(W:X.A.units+64<F2)(J:X.K=K:=by rfl):CP X (Ed .NotEq) (aC K):=by subst J;intro D s E H x y v u Q I Y Z h;lk;obtain⟨d,e,U,V,z,A,q⟩:=h;obtain⟨B,r1⟩:=U.aaa I Y;obtain⟨C,r2⟩:=V.aaa I Z;k_in;exact ne_dataH r1 r2 z A W ⟨.bl _,H,I,rfl,q⟩
theorem PV{K:Aq}:∀ys:List Int,EW K H (ys.map AE.int) (ys.map Jz)|[]=>.nil|y::r=>.cons (.int y) (PV r)
def xI(K:Aq):Dq:=λx y H Q=>Mo (λa b D=>x=.ref a) (λ_ b _=>y=.ref b) (λa _ D=>Bx K H a D) (λ_ b _=>Bx K H b []) (λ_ _ D=>Q (.bl D.isEmpty) H)
theorem vZ{K:Aq}(D:X.A.units<F2)(Z:X.K=K:=by rfl):CP X (Ed .Eq) (xI K):=by subst Z;intro W s L H x y v u Q I E F h;lk;obtain⟨a,b,G,rfl,rfl,z,A,q⟩:=h;cases E;cases F;obtain⟨C,r1,U,_⟩:=I.iq z;obtain⟨J,r2,V,_⟩:=I.iq A;cases r2;k_in;have B:=r1.ar;cases G with|nil=>cases r1;exact SeqAt.eq_listAt (e:=λ_=>AJ) U.isList V.isList rfl D (λj Y _=>absurd Y (by simp)) ⟨.bl AJ,H,I,rfl,q⟩|cons x r=>refine SeqAt.eq_list_lengthsAt U.isList V.isList ?_ D ⟨.bl AQ,H,I,rfl,q⟩;rw[ID,<-B];rfl
theorem Ie{V:Type}(xs:List V)(n:Int)(Y:(xs.length:Int)=n)(D:0<n)(c:Int):∃v,DM xs (c%n)=AA v/\v∈xs:=by have J:0<=c%n:=Gp _ (Kp D);have W:c%n<n:=IP _ D;obtain⟨j,U⟩:=Int.eq_ofNat_of_zero_le J;refine⟨xs[j],?_,(by simp)⟩;rw[U];exact Ap (by simp)
theorem K8{c:Bool}{A B:Prop}(D:c=AJ->A)(J:c=AQ->B):if c=AJ then A else B:=by simp_all
theorem Ah.gu(e:Ah H H')(h:H' a=AF):Ah H (AO H' a o):=λb u q=>by rw[AW (BE (e b u q) h)];exact e b u q
theorem Ly{K:Aq}(D:X.K=K:=by rfl):Nn X (aA K):=by subst D;exact uP
theorem JS{K:Aq}(D:X.K=K:=by rfl):Nn X (aB K):=by subst D;exact uQ
theorem LI{K:Aq}(D:X.K=K:=by rfl):Nr X (aD K):=by subst D;exact yA
theorem VM{K:Aq}(D:X.K=K:=by rfl):Nr X (aE K):=by subst D;exact yB
theorem Pf{K:Aq}(D:X.K=K:=by rfl):CP X (Ed .In) (Rx K AQ):=by subst D;exact v8
theorem VC{K:Aq}(D:X.K=K:=by rfl):CP X (Ed .NotIn) (Rx K AJ):=by subst D;exact wD
theorem U8{K:Aq}(D:X.K=K:=by rfl):CP X (G9 .Add) (Z8 K):=by subst D;exact vY
theorem Y1{K:Aq}(D:X.K=K:=by rfl):Ez X (.builtin "len") (λxs H Q=>∃p ys,xs=[.ref p]/\(Bx K H p ys\/Cb K H p ys)/\Q (.int ys.length) H):=by subst D;exact sR
theorem Mq{K:Aq}(D:X.K=K:=by rfl):Ez X (.type "list") (λxs H Q=>∃p ys,xs=[.ref p]/\(Bx K H p ys\/Cb K H p ys)/\∀l,H l=AF->Q (.ref l) (AO H l (.lst ys))):=by subst D;exact sU
theorem DI{K:Aq}(U:Ao X l D)(J:X.K=K:=by rfl):GS X V l (ZQ K D):=by subst J;exact wW U
theorem wN{K:Aq}{D:AG}{id:String}(F:dI T)(Z:Slot T D id)(z:OP (.builtin id)=Bf (.type "method_descriptor"))(C:PB X id r)(E:Ao X o A)(B:X.K=K:=by rfl)(W:J3 o D X.af (BY o X.af)=BY o X.af:=by rfl)(Y:(J.endLine==U.line)=AJ:=by rfl):Ao X (.Call (.Attribute o D J) [] [] U) (aS K T r A):=by subst B;exact wM F Z z C E W Y
theorem Mw{K:Aq}{J:AG}{id:String}(M:dI T)(B:Slot T J id)(C:OP (.builtin id)=Bf (.type "method_descriptor"))(H:PB X id r)(I:Ao X o E)(G:GR X (e::Y) t)(F:X.K=K:=by rfl)(Z:J3 o J X.af (BY o X.af)=BY o X.af:=by rfl)(A:((FU D (CQ (e::Y) X.af)).all (λx=>!x.1)&&(QE D (QL [] X.af)).all (λx=>x.1.isSome)&&Ae ((e::Y).length+([]:List MM).length+(if([]:List MM).isEmpty then 0 else 1)<30))=AJ:=by rfl)(z:(W.endLine==D.line)=AJ:=by rfl)(L:CQ (e::Y) X.af=(AQ,BY e X.af)::CQ Y X.af:=by rfl)(U:(FU D (CQ Y X.af)).any (·.1)=AQ:=by rfl):Ao X (.Call (.Attribute o J W) (e::Y) [] D) (VO K T r E t):=by subst F;exact wL M B C H I G Z A z L U
def xQ(K:Aq):Dq:=λx y H Q=>Mo (λa b D=>x=.ref a) (λ_ b _=>y=.ref b) (λa _ D=>Bx K H a D) (λ_ b _=>Bx K H b []) (λ_ _ D=>Q (.bl (!D.isEmpty)) H)
theorem VB{K:Aq}(D:X.A.units<F2)(Z:X.K=K:=by rfl):CP X (Ed .NotEq) (xQ K):=by subst Z;intro W s L H x y v u Q I E F h;lk;obtain⟨a,b,G,rfl,rfl,z,A,q⟩:=h;cases E;cases F;obtain⟨C,r1,U,_⟩:=I.iq z;obtain⟨J,r2,V,_⟩:=I.iq A;cases r2;k_in;have B:=r1.ar;cases G with|nil=>cases r1;exact AFa (e:=λ_=>AJ) U.isList V.isList rfl D (λj Y _=>absurd Y (by simp)) _ _ _ _ ⟨.bl AQ,H,I,rfl,q⟩|cons x r=>refine AFb U.isList V.isList ?_ D _ _ _ _ ⟨.bl AJ,H,I,rfl,q⟩;rw[ID,<-B];rfl
theorem DW.u1(r:DW k A):A.units+1<F2:=by have:=r.un;lia
noncomputable def Nl(lo d:Int)(n:Nat):Gb:=⟨λi _=>i<n,λi H x D=>D=H/\x=.int (lo+(i:Int)*d),λi _=>n<=i⟩
theorem zT{K:Aq}(it:AD)(lo d:Int)(n:Nat):Lq P w K b (Nl lo d n) [it] it (λi h=>dE h it (lo+(i:Nat)*d) ((n:Int)-(i:Nat)) d)where
 aca:=by simp
 bz:=(by simp_all)
 ae:=(λe u2 u3 G L=>L _ DO _ G)
 wq:=by intro X O hw N B i D s Q H E I C J F;subst O hw N;lk;obtain⟨V,Y,S,Z,z,A⟩:=C it (by simp);k_in;have W:=AEG (prog:=X.ai) (w:=X.w) (I.ok.hd B) it lo d n;refine W.item i s _ _ F J λv M c T U a=>?_;obtain⟨t,rfl⟩:=T;have R:Aa X _ Q H {s with heap:=M,toks:=c}:=I.fw (λe u2 u3 G=>a _ _ (OI u3 (λL=>Bt.mp L)) G) V Y Z z A;exact⟨_,rfl,PY U rfl rfl (by decide) ⟨.int _,H,R,⟨t,rfl⟩,⟨rfl,rfl⟩,U,(by(simp[*]))⟩⟩
 wk:=by intro X O hw N B i D s Q H E I C J F;lk;obtain⟨V,Y,S,Z,z,A⟩:=C it (by simp);k_in;exact AEh (I.ok.hd B) J (by have:=F;exact ACL (Su.mp this)) λM f=>⟨rfl,I.fw (by assumption) V Y Z z A⟩
 yg:=λ_ _ _ _ _ J h=>AEg J h
noncomputable def Fz(lo hi d:Int):Nat:=if lo<hi then((hi-lo-1)/d+1).toNat else 0
theorem R3{lo:Int}(D:1<=d):cX lo hi d=(Fz lo hi d:Int):=by
 unfold cX Fz;rw[AFi (by assumption)];split
 . have:0<=(hi-lo-1)/d:=AB9 (by lia) (J4 D);exact Int.eq_natCast_toNat.mpr (ACA this)
 .rfl
theorem bE{lo:Int}(J:1<=d):(Fz lo hi d:Int)<=(if lo<hi then hi-lo else 0):=by
 unfold Fz;split
 . have D:(hi-lo-1)/d<=hi-lo-1:=Int.ediv_le_self _ (by lia);omega
 simp
theorem yE(D:1<=c)(V:c<1000000)(W:-(2^40)<=a)(J:a<2^40)(Y:-(2^40)<=b)(U:b<2^40):cY a b c=AJ:=by have h:=bE (lo:=a) (hi:=b) D;have Z:=R3 (lo:=a) (hi:=b) D;unfold cY;simp only[ADO,Qa,AB8,AFo,AFs,show c>0 by assumption,AFq];(constructor<;>lia)
theorem xU{K:BO}{lo:Int}(I:Aa X D U H s)(V:1<=d)(Y:d<1000000)(A:-(2^40)<=lo)(B:lo<2^40)(C:-(2^40)<=hi)(F:hi<2^40)(q:R (Nl lo d (Fz lo hi d)) H):As (An X.ai X.w) X.A (eJ (.ref s.heap.objs.size)) (US X D U K R) E {s with heap:=s.heap.push {cls:=.type "range",data:=.fields #[.int lo t,.int hi u,.int d v]},toks:=W}:=by
  refine AEf (AA5 ..) (yE V Y A B C F) ?_;have J:Aa X _ U H {s with heap:=s.heap.push {cls:=.type "range",data:=.fields #[.int lo t,.int hi u,.int d v]},toks:=W}:=I.ip λb o e=>DC _ e;refine⟨_,_,_,_,H,rfl,J.ip λb o e=>DC _ e,zT _ lo d _,?_,λb G=>?_,q⟩
  . have Z:lo+((0:Nat))*d=lo:=by simp
    have z:((Fz lo hi d))-((0:Nat))=cX lo hi d:=by rw[R3 V];rfl
    show dE _ _ _ _ d;rw[Z,z];exact Gk _ rfl
  . have e:=Bt.mp G;subst e;exact J.vn (Al _) (J.cp.bw (Al _))
def uJ(J:Fc):GB:=λV H R=>J V H λU D=>RS (λ(i j d:Int)=>U=[.int i,.int j,.int d]) (λi j d=>(1<=d/\d<1000000/\-(2^40)<=i/\i<2^40/\-(2^40)<=j/\j<2^40)) (λi j d=>R (Nl i d (Fz i j d)) D)
theorem wY(C:Fq X "range")(E:X.mg "range"=AF)(B:GR X [a,b,c] Z)(O:CQ [a,b,c] X.af=[(AQ,BY a X.af),(AQ,BY b X.af),(AQ,BY c X.af)]:=by rfl)(J:CQ [b,c] X.af=[(AQ,BY b X.af),(AQ,BY c X.af)]:=by rfl):GS X Q (.Call (.Name "range" p) [a,b,c] [] U) (uJ Z):=by intro Y s M H R I h;refine Vs (KU I C E cP (P5 (A1 (B _ _ s M H _ I h) λS s1⟨T,N,z,r1,V⟩=>?_) (by simp_all) (by rw[J];rfl)));lk;obtain⟨i,j,d,e,⟨W,A,V,F,G,K⟩,q⟩:=V;k_in;subst e;cases r1 with|cons r D=>cases D with|cons L D=>cases D with|cons r2 D=>lk;cases D;obtain⟨t,rfl⟩:=r;obtain⟨P,rfl⟩:=L;obtain⟨t2,rfl⟩:=r2;k_in;exact call_range_3 (Kp W) (xU z W A V F G K q) (.inl (AAr (by grind)))
theorem t8{lo d:Int}{n:Nat}{g:Eu}{B:Cw}{D:Gv}{J:Ai}{H:AI}(Z:Nat->Ai->AI->Prop)(C:Z 0 J H)(I:∀i J H,i<n->Z i J H->g (.int (lo+(i:Int)*d)) J H λY z=>B {D with nx:=Z (i+1),ct:=Z (i+1),bk:=D.nx} Y z)(F:∀J H,Z n J H->D.nx J H):∃W:Nat->Nat->Ai->AI->Prop,(∃m,W 0 m J H)/\∀i m J H,W i m J H->((Nl lo d n).vf i H/\D.nx J H)\/((Nl lo d n).go i H/\∃N:Ai->AI->Prop,(∀V H',N V H'->∃A,A<m/\W (i+1) A V H')/\∀x H',(Nl lo d n).aaz i H x H'->g x J H' λY z=>B {D with nx:=N,ct:=N,bk:=D.nx} Y z):=by
 refine⟨λi m J H=>m=n-i/\i<=n/\Z i J H,⟨n,by simp,Bd _,C⟩,?_⟩;intro i m J H E;lk;obtain⟨rfl,G,p⟩:=E;k_in;by_cases U:i<n
 . refine .inr ⟨U,_,λV H' K=>⟨_,Ja _ _ U,rfl,U,K⟩,λx H' y=>?_⟩;obtain⟨e,y⟩:=y;subst e y;exact I i J _ U p
 . have e:=Fh G (GV U);subst e;exact .inl ⟨Al _,F J H p⟩
theorem Z5(p:X.N.Nodup)(M:X.N[Q]?=AA y)(O:K0 X.af.scope y)(L:X.fn y=AJ\/X.af.scope.names.lookup y=AA .local)(t:X.ic=AJ)(hi:GS X F U wi)(hk:J.kind=.function)(Z:∀y∈J.names,y.2≠.cell)(V:∀y∈J.names,y.2=.local->J.names.lookup y.1=AA .local)(z:∀y∈J.names,y.2=.free->X.af.kindOf y.1=AA .cell\/X.af.kindOf y.1=AA .free)(K:KL X J B)(w:∀C s H ex,K4 (Dr X J (own++B.map (·.1)) C s H ex) F g)(ht:∀C s H ex,KO (Dr X J (own++B.map (·.1)) C s H ex) A c)(u:∀C s H ex,Ao (Dr X J (own++B.map (·.1)) C s H ex) Y T)(N:MP (.ListComp Y [⟨F,U,A,0⟩] J E) (AA (.Name y S)) W.line X.af=Bf AJ)(hs:∀x,NJ U X.af x=Bf x:=by intro _;rfl):D6 X (.Assign [.Name y S] (.ListComp Y [⟨F,U,A,0⟩] J E) W) (Pw (L9 own.length (B.map (·.2)) wi g c T) (Gx Q)):=by
 intro R s σ H D0 I h;rw[exec_Assign_Name_used _ _ _ _ N];refine BL (ABk (BL ?_));refine BL (FV (Y6 t hi hk Z V z K w ht u hs I h λD C m s4 H5 v d hn l n i j k q=>?_) (λ_ s' hq=>Cn (Cn hq)) λ_ _ e=>e);refine AEb (aP d p M O (v:=.ref D) rfl (λs5 f⟨a,P,ha⟩=>?_) L);have G:C≠a:=by grind
 exact⟨m,Heap.Ns.sameBut hn P G,λh' sb=>⟨_,_,f.fw (λb o r e=>(sb.2 b r).trans e) l n (.inr i) j k,q⟩⟩
theorem Pm(A:List (AG×Nat))(Q:X.N.Nodup)(F:X.N[i]?=AA y)(K:K0 X.af.scope y)(R:X.ic=AJ)(hi:GS X (.Name x L) J wi)(b:X.af.scope=osc)(a:D.kind=.function)(Y:∀y∈D.names,y.2≠.cell)(U:∀y∈D.names,y.2=.local->D.names.lookup y.1=AA .local)(Z:∀y∈D.names,y.2=.free->osc.names.lookup y.1=AA .cell\/osc.names.lookup y.1=AA .free)(E:KL X D A)(M:D.names.lookup x=AA .local)(G:(x::A.map (·.1)).Nodup)(d:∀C s H ex,KO (Dr X D (x::A.map (·.1)) C s H ex) z P)(S:∀C s H ex,Ao (Dr X D (x::A.map (·.1)) C s H ex) W O)(I:MP (.ListComp W [⟨.Name x L,J,z,0⟩] D B) (AA (.Name y N)) V.line X.af=Bf AJ:=by rfl)(T:X.fn y=AJ\/X.af.scope.names.lookup y=AA .local:=by first|exact .inl rfl|exact .inr rfl|assumption)(c:∀x,NJ J X.af x=Bf x:=by intro _;rfl):D6 X (.Assign [.Name y N] (.ListComp W [⟨.Name x L,J,z,0⟩] D B) V) (Pw (L9 1 (A.map (·.2)) wi (Gx 0) P O) (Gx i)):=Z5 (own:=[x]) Q F K T R hi a Y U (λy f e=>by show X.af.scope.names.lookup _=_\/X.af.scope.names.lookup _=_;rw[b];exact Z y f e) E (λC s H ex=>Il G rfl (.inl (Km M)) (.inr (Km M))) d S I c
def D5:DP D->Prop|.pure _=>True|.raise _=>True|.unsupported _=>True|.finish _=>True|.rule _ k=>D5 (k ())|.at _ k=>D5 (k ())|.load _ _ k=>∀o,D5 (k o)|.update _ _ f k=>(∀o,(f o).dict=o.dict)/\D5 (k ())|.loadIfAlive _ k=>∀o,D5 (k o)|.point _ k=>D5 (k ())|.alloc _ k=>∀a,D5 (k a)|.fresh k=>∀t,D5 (k t)|.ask k=>∀t,D5 (k t)|.stack k=>∀l,D5 (k l)|_=>False
theorem E2{f:J->DP U}(h:D5 t)(g:∀a,D5 (f a)):D5 (t>>=f):=by induction t with|pure a=>exact g a|raise e=>trivial|unsupported w=>trivial|finish e=>trivial|rule t k D=>exact D () h|«at»p k D=>exact D () h|load a p k D=>exactλo=>D o (h o)|update a p f k D=>exact⟨h.1,D () h.2⟩|alloc o k D=>exactλa=>D a (h a)|loadIfAlive a k D=>exactλo=>D o (h o)|point l k D=>exact D () h|fresh k D=>exactλo=>D o (h o)|ask k D=>exactλo=>D o (h o)|stack k D=>exactλo=>D o (h o)|_=>exact h.elim
def FO(e:AD)(d:Option AD)(h:BJ):Prop:=∃o,h.objs[e]?=AA o/\o.dict=d
theorem FO.abj(x:FO e d h)(o:BC):FO e d (h.push o):=by lk;obtain⟨u,U,V⟩:=x;k_in;refine⟨u,?_,V⟩;have J:=(Array.getElem?_eq_some_iff.mp U).1;cases h with|mk D l=>show(D.push o)[e]?=AA u;rw[Array.getElem?_push_lt J];exact(Array.getElem?_eq_getElem J).symm.trans U
theorem FO.acg(x:FO e d h)(a:AD)(V:∀o,(f o).dict=o.dict):FO e d (h.update a f):=by lk;obtain⟨u,U,J⟩:=x;k_in;cases h with|mk D l=>
 show∃o,(D.modify a f)[e]?=AA o/\o.dict=d;rw[Array.getElem?_modify];by_cases q:a=e
 . rw[AFi q,U];exact⟨f u,rfl,(V u).trans J⟩
 . rw[AFh q];exact⟨u,U,J⟩
theorem FO.vm(x:FO e d h)(g:h.get? e=AA o):o.dict=d:=by lk;obtain⟨u,J,D⟩:=x;have:=(ADj.mp g).1;rw[J]at this;cases this;k_in;exact D
theorem rZ(g:h.get? e=AA o):FO e o.dict h:=⟨o,(ADj.mp g).1,rfl⟩
theorem D5.wp:∀{Q:U->CV->AV->Prop}{E:AK->CV->AV->Prop}{p:CV}{s:AV},D5 t->FO e d s.heap->Sem.wp M J t Q E p s->Sem.wp M J t (λa p s=>Q a p s/\FO e d s.heap) (λa p s=>E a p s/\FO e d s.heap) p s:=by induction t with|pure a=>intro Q E p s h x q;exact⟨q,x⟩|raise v=>intro Q E p s h x q;exact⟨q,x⟩|unsupported w=>intro Q E p s h x q;exact q.elim|finish v=>intro Q E p s h x q;exact q.elim|rule t k D=>intro Q E p s h x q;exact D () h x q|«at»Y k D=>intro Q E p s h x q;exact D () h x q|load a W k D=>intro Q E p s h x q;obtain⟨o,V,q⟩:=q;exact⟨o,V,D o (h o) x q⟩|update a W f k D=>intro Q E p s h x q;exact⟨q.1,D () h.2 (x.acg a h.1) q.2⟩|alloc o k D=>intro Q E p s h x q;exact D _ (h _) (x.abj o) q|loadIfAlive a k D=>intro Q E p s h x q;exact D _ (h _) x q|point l k D=>intro Q E p s h x q;exact D () h x q|fresh k D=>intro Q E p s h x q;exact D _ (h _) x q|ask k D=>intro Q E p s h x q;exact D _ (h _) x q|stack k D=>intro Q E p s h x q;exact D _ (h _) x q|_=>intro Q E p s h;exact h.elim
theorem O7{Q:J->AV->Prop}{E:AK->AV->Prop}(h:D5 t)(x:FO e d s.heap)(q:As M A t Q E s):As M A t (λa s'=>Q a s'/\FO e d s'.heap) (λv s'=>E v s'/\FO e d s'.heap) s:=λU p D=>h.wp x (q U p D)
theorem Us(a:AD):D5 (load a):=λ_=>trivial
theorem Uu:D5 stack:=λ_=>trivial
theorem uV(v:AK):D5 (fieldsOf v):=by
 unfold fieldsOf;split
 . refine E2 (Us _) λo=>?_;split<;>trivial
 .trivial
theorem Rg(v:AK)(i:Nat):D5 (field v i):=by refine E2 (uV v) λo=>?_;split<;>trivial
theorem tN(f:Array AK->Array AK)(o:BC):(ADm f o).dict=o.dict:=by unfold ADm;split<;>rfl
theorem Ut(v:AK)(i:Nat)(x:AK):D5 (ABY v i x):=by
  unfold ABY;split
  . refine E2 (Us _) λo=>?_;split
    . split;.exact⟨tN _,trivial⟩
      .trivial
    .trivial
  .trivial
theorem uU(f:AD)(b:Bool):D5 (entryPlaceOf f b):=by refine E2 Uu λo=>?_;split<;>trivial
theorem ZX:∀l:List Dl,D5 (readyFrames l)
  |[]=>trivial|J::D=>by
    unfold readyFrames;split
    . refine E2 (Us _) λo=>?_;split;.trivial
      . refine E2 ?_ λb=>E2 ?_ λv=>?_
        . unfold behindIsImport;split;.trivial
          . split;.trivial
            .exact E2 (Rg _ _) λ_=>trivial
        . unfold keptBack;split
          . split;.trivial
            .exact E2 (E2 Uu λ_=>trivial) λ_=>trivial
          .trivial
        .exact⟨λ_=>rfl,ZX _⟩
    .trivial
theorem uW(env:Dl):D5 (AEP env):=by
  refine E2 (E2 Uu λ_=>trivial) λl=>E2 ?_ λo=>?_
  . unfold frameObject;split;.trivial
    .exact E2 (ZX _) λ_=>trivial
  .split<;>trivial
theorem uT(a b c d e:AK)(l:List AK):D5 (AAv a b c d e l):=by
 unfold AAv newFields newObj;have k:∀D:Array _,D5 (newObjAsIs (.type "traceback") (.fields D)):=λD=>by exact E2 (λ_=>trivial) λ_=>trivial
 dsimp only;split<;>split<;>first|trivial|exact k _
set_option tactic.hygienic true in theorem ZW(e:AK)(env:Dl):D5 (eC e env):=by
  unfold eC;split
  . rename_i f _;refine E2 (Rg _ _) λD=>?_;have k:∀x:AK,D5 (do let a<-AEP env;let J<-entryPlaceOf f (x !=.none);let b<-AAv x a .none (rawInt f) .none J;ABY e 1 b):=λx=>E2 (uW _) λ_=>E2 (uU _ _) λ_=>E2 (uT _ _ _ _ _ _) λ_=>Ut _ _ _;split
    . refine E2 (Rg _ _) λy=>?_;split;.trivial
      .exact E2 (Ut _ _ _) λ_=>k D
    .exact k D
  .trivial
theorem Ur(e:AK)(D:Option AD):D5 (eM e D):=by
 refine E2 (Rg _ _) λ_=>?_;split;.exact Ut _ _ _
 .trivial
theorem ZV(env:Dl)(e:AK):D5 (d9 env e):=E2 (ZW _ _) λ_=>Ur _ _
theorem vJ(W:A.frames=AA (env::J))(B:env.frame=AA L)(V:Kj base (env::J) e U Y s.heap)(Z:FO e dd s.heap)(k:∀D,Kj base J e U Y D->s.heap.UpToSlots D->FO e dd D->Q () {s with heap:=D}):As M A (d9 env (.ref e)) Q E s:=by refine FV (O7 (ZV _ _) Z (wpAny_leaves_onW (Q:=λ_ s3=>∃D,s3={s with heap:=D}/\Kj _ _ e _ Y D/\s.heap.UpToSlots D) (E:=λ_ _=>False) W B V λD x y=>⟨D,rfl,x,y⟩)) (λ_ s3 q=>?_) λ_ _ z=>z.1.elim;lk;obtain⟨⟨D,rfl,x,y⟩,z⟩:=q;k_in;exact k D x y z
theorem vI(W:A.frames=AA (env::J))(I:s.heap.FunFrames base (env::J))(H:env.frame=AA L)(B:s.heap.get? e=AA V)(Y:base.StaysIn s.heap)(U:base.get? e=AF)(G:V.data=.fields vs)(F:vs[1]?=AA .none)(C:vs[0]?=AA Z)(k:∀D,Kj base J e V.cls Z D->s.heap.UpToSlots D->FO e V.dict D->Q () {s with heap:=D}):As M A (d9 env (.ref e)) Q E s:=by refine FV (O7 (ZV _ _) (rZ B) (wpAny_leaving_firstW (Q:=λ_ s3=>∃D,s3={s with heap:=D}/\Heap.LeftW _ _ e _ Z _ D) (E:=λ_ _=>False) W I H B Y U G F C λD x=>⟨D,rfl,x⟩)) (λ_ s3 q=>?_) λ_ _ z=>z.1.elim;lk;obtain⟨⟨D,rfl,K,⟨_,_,N⟩,O,P⟩,z⟩:=q;k_in;exact k D ⟨K,U,N,O⟩ P z
theorem vL(W:A.frames=AA (env::J))(B:env.frame=AA L)(V:Kj base (env::J) e U Y s.heap)(Z:FO e dd s.heap)(k:∀D,AA2 base (env::J) e U Y L D->s.heap.UpToSlots D->FO e dd D->Q () {s with heap:=D}):As M A (eC (.ref e) env) Q E s:=by refine FV (O7 (ZW _ _) Z (wpAny_looks_onW (Q:=λ_ s3=>∃D,s3={s with heap:=D}/\AA2 _ _ e _ Y L D/\s.heap.UpToSlots D) (E:=λ_ _=>False) W B V λD x y=>⟨D,rfl,x,y⟩)) (λ_ s3 q=>?_) λ_ _ z=>z.1.elim;lk;obtain⟨⟨D,rfl,x,y⟩,z⟩:=q;k_in;exact k D x y z
theorem vD(W:AA2 base l e J U L s.heap)(V:FO e dd s.heap)(k:∀D,Kj base l e J U D->s.heap.UpToSlots D->FO e dd D->Q () {s with heap:=D}):As M A (eM (.ref e) AF) Q E s:=by refine FV (O7 (Ur _ _) V (wpAny_landsW (Q:=λ_ s3=>∃D,s3={s with heap:=D}/\Kj _ l e _ U D/\s.heap.UpToSlots D) (E:=λ_ _=>False) W λD x y=>⟨D,rfl,x,y⟩)) (λ_ s3 q=>?_) λ_ _ z=>z.1.elim;lk;obtain⟨⟨D,rfl,x,y⟩,z⟩:=q;k_in;exact k D x y z
theorem vE(W:Kj base l e J U s.heap)(V:FO e dd s.heap)(k:∀D,Kj base l e J U D->s.heap.UpToSlots D->FO e dd D->Q () {s with heap:=D}):As M A (eM (.ref e) AF) Q E s:=by refine FV (O7 (Ur _ _) V (lands_againW (Q:=λ_ s3=>∃D,s3={s with heap:=D}/\Kj _ l e _ U D/\s.heap.UpToSlots D) (E:=λ_ _=>False) W λD x y=>⟨D,rfl,x,y⟩)) (λ_ s3 q=>?_) λ_ _ z=>z.1.elim;lk;obtain⟨⟨D,rfl,x,y⟩,z⟩:=q;k_in;exact k D x y z
def Gu(P:CN)(w:Bu):Ia:=λD H s E Z J=>∃(e:AD)(C Y:AK)(U:AI)(B:BJ)(V:Option AD),Z=.ref e/\J.os=s.os/\MJ J.gens/\DG P w U B/\Kj B D e C Y J.heap/\Ge (DU D) [] H U s.heap J.heap/\(∀b o,s.heap.get? b=AA o->b∉DU D->∃W,B.get? b=AA W/\(H b=AF->W=o))/\FO e V J.heap/\E C V U
theorem UX(u:Ge W ex H H' h C)(F:C.UpToSlots E)(V:∀b o,C.get? b=AA o->b∈W->∀vs,o.data≠.fields vs)(J:∀b o,h.get? b=AA o->b∉W->∃Y,E.get? b=AA Y/\(H b=AF->Y=o)):Ge W ex H H' h E where
 ae:=λb o e n D z=>by lk;obtain⟨Y,A,q⟩:=J b o e D;k_in;rw[A,q n]
 qv:=λb o e n D z=>by lk;obtain⟨I,U⟩:=u.qv b o e n D z;obtain⟨Z,B⟩:=F b _ U (V b _ U D);k_in;exact⟨Z,B⟩
 au:=u.au
 cq:=λb o e z=>by
  by_cases D:b∈W
  . lk;obtain⟨G,U⟩:=u.cq b o e z;obtain⟨Z,B⟩:=F b _ U (V b _ U D);k_in;exact⟨_,B⟩
  . lk;obtain⟨Y,A,_⟩:=J b o e D;k_in;exact⟨Y,A⟩
 ri:=u.ri
 ng:=u.ng
 rh:=u.rh
theorem wJ{K:Aq}(v:∀C dd H',E C dd H'->p C dd H'):Nq (Gu P w) (FG (Gu P w) P w K mg base N M W f k A V O F p) E:=by
  intro m σ H s e' s' I x;lk;obtain⟨e,C,t,H',B,dd,rfl,l,G,L,R,y,Z,c,q⟩:=x;k_in;have r:=I.xk l y (L.ip R.1) G λb J=>absurd J (by simp);have d:=I.ok.il;refine vJ d rfl R c λh' U up X=>⟨e,C,t,H',B,dd,rfl,l.trans I.os,G,L,U,?_,?_,X,v C dd H' q⟩
  . have a:∀b o,O.heap.get? b=AA o->b∉DU _->b∉DU (GW M W _ f k::V):=λb o D J g=>by
      rcases CJ.mp g with z|z
      . rw[z]at D;exact HW _ (CS D)
      .exact J z
    refine UX r.ag up (λb o D J=>?_) λb o D J=>?_
    . have:=(R.2.2.1.mem (show b∈O.heap.objs.size::DU _ from Ek _ J)).2;lk;obtain⟨o1,Y,u⟩:=this;rw[D]at Y;cases Y;k_in;exact u
    . by_cases n:F b=AF
      . have Y:=I.ag.ae b o D n J (by simp[FG]);have h:=I.ag.au b o D n (by simp[FG]);lk;obtain⟨S,Q,j⟩:=Z b o Y (a b o D J);k_in;exact⟨S,U.1 _ _ Q,λ_=>j h⟩
      . lk;obtain⟨i,Y⟩:=I.ag.cq b o D (by simp[FG]);obtain⟨S,Q,_⟩:=Z b i Y (a b o D J);k_in;exact⟨S,U.1 _ _ Q,λz=>absurd z n⟩
  . intro b o D J;have T:b∉DU (GW M W _ f k::V):=λg=>by
      rcases CJ.mp g with z|z
      . rw[z]at D;exact HW _ (CS D)
      .exact J z
    by_cases n:F b=AF
    . have Y:=I.ag.ae b o D n J (by simp[FG]);have h:=I.ag.au b o D n (by simp[FG]);lk;obtain⟨S,Q,j⟩:=Z b o Y T;k_in;exact⟨S,Q,λ_=>j h⟩
    . lk;obtain⟨i,Y⟩:=I.ag.cq b o D (by simp[FG]);obtain⟨S,Q,_⟩:=Z b i Y T;k_in;exact⟨S,Q,λz=>absurd z n⟩
theorem vH{K:Aq}(I:Aa (FG (Gu P w) P w K mg base N qual scope f cd A outer s₀ H₀ E') pins σ H s)(hx:Heap.MadeExcOf s.heap h' e C args)(q:E' C AF H):(FG (Gu P w) P w K mg base N qual scope f cd A outer s₀ H₀ E').xe (.ref e) {s with heap:=h'}:=by
  have hfr:=I.ok.il;have FF:=I.cg;let B:=AD4 s.heap (DU (GW qual scope s₀.heap.objs.size f cd::outer));have hB:B.StaysIn _:=λb o z=>AEE _ z;have inB:∀b o,s.heap.get? b=AA o->b∉DU _->B.get? b=AA o:=λb o z n=>AD5 _ z n;have FB:=W.funFrames_hide FF λenv he a ha=>AAN.mpr ⟨env,he,ha⟩;have cov:∀b o,s₀.heap.get? b=AA o->b∉DU _->∃o',B.get? b=AA o'/\(H₀ b=AF->o'=o):=λb o e1 hb=>by
    have hb2:b∉DU (GW qual scope _ f cd::outer):=λhm=>by
      rcases CJ.mp hm with z|z
      . rw[z]at e1;exact HW _ (CS e1)
      .exact hb z
    by_cases n:H₀ b=AF
    . have e2:=I.ag.ae b o e1 n hb (by simp[FG]);exact⟨o,inB b o e2 hb2,λ_=>rfl⟩
    . obtain⟨o2,e2⟩:=I.ag.cq b o e1 (by simp[FG]);exact⟨o2,inB b o2 e2 hb2,λz=>absurd z n⟩
  have hokB:=λa o z=>(I.cp a o z).ve (λb u hb z2=>inB b u z2 λhm=>?_) (λ_ z=>z) λ_ _ z=>z
  . lk;obtain⟨t,he,htn,ht⟩:=hx.there;k_in;have fr:B.get? e=AF:=by cases hq:B.get? e with|none=>rfl|some o'=>have:=hB e o' hq;rw[hx.new]at this;cases this
    refine vI hfr (FB.of_keeps λb o hb _=>⟨o,hx.keeps b o hb,rfl⟩) rfl he (λb o hb=>hx.keeps b o (hB b o hb)) fr rfl rfl rfl λh2 fly up hdd=>⟨e,C,_,H,B,_,rfl,I.os,I.iu,hokB,fly,?_,?_,hdd,q⟩
    . refine UX (I.ip hx.keeps).ag up (λb o e1 hb=>?_) λb o e1 hb=>?_
      . lk;obtain⟨_,o1,e2,h2'⟩:=FF.mem (show b∈s₀.heap.objs.size::DU _ from Ek _ hb);have e3:=hx.keeps _ _ e2;rw[e1]at e3;cases e3;k_in;exact h2'
      . lk;obtain⟨o',e2,q2⟩:=cov b o e1 hb;k_in;exact⟨o',fly.1 _ _ e2,q2⟩
    .exact cov
  . have n:=I.wx b hm;rcases hb with z3|z3;.rw[z3,z]at n;cases n
    .rw[z3]at n;cases n
theorem Yi(I:Aa X V g H s)(J:Aa X V g H' s')(K:X.af.cells=[])(G:X.ex=[])(P:X.cg=X.af::X.kx)(O:X.af.frame=AA X.af.locals)(W:∀b o,s.heap.get? b=AA o->b∉DU X.cg->∃A,B.get? b=AA A/\(H b=AF->A=o))(L:DG X.ai X.w H' B)(D:B.StaysIn a)(f:s'.heap.UpToSlots a)(h:s'.heap.FunFrames B X.cg):Aa X V g H' {s' with heap:=a}:=by
  have Z:∀b,b∈DU X.cg↔b=X.af.locals\/b∈X.fs:=λb=>by rw[P];unfold DU;rw[Ve,O];exact CJ
  have M:∀b o,s'.heap.get? b=AA o->b∈DU _->∀vs,o.data≠.fields vs:=λb o e C=>by obtain⟨_,o1,N,q⟩:=h.mem C;rw[e]at N;cases N;exact q
  refine⟨J.ok,J.os,J.iu,?_,?_,λx c z=>?_,J.au,J.ik,λp d=>?_,L.ip D,J.dh⟩
  . refine UX J.ag f (λb o e C=>M b o e ((Z b).mpr (.inr C))) λb o e C=>?_;have F:b∉DU _:=λz=>by
      rcases(Z b).mp z with q|q;. rw[q]at e;exact absurd (Bc (CS e) I.ok.jg) (HW _)
      .exact C q
    by_cases n:X.H₀ b=AF
    . by_cases U:b∈X.ex;.rw[G]at U;cases U
      . have E:=I.ag.ae b o e n C U;have n2:=I.ag.au b o e n U;lk;obtain⟨A,Y,Q⟩:=W b o E F;k_in;exact⟨A,D _ _ Y,λ_=>Q n2⟩
    . by_cases U:b∈X.ex;.rw[G]at U;cases U
      . lk;obtain⟨o2,E⟩:=I.ag.cq b o e U;obtain⟨A,Y,_⟩:=W b o2 E F;k_in;exact⟨A,D _ _ Y,λz=>absurd z n⟩
  . lk;obtain⟨m,hn,y⟩:=J.vo;k_in;refine⟨m,f.ns hn,λi x v N E Y=>?_⟩;lk;obtain⟨u,r,l⟩:=y i x v N E Y;k_in;refine⟨u,r,?_⟩;rcases l with l|⟨_,c,T,_⟩;.exact .inl l
    .rw[K]at T;cases T
  .rw[K]at z;cases z
  . lk;obtain⟨a1,j,R,S,k⟩:=J.qx p d;obtain⟨t,w,b3,b4,b5⟩:=I.qx p d;obtain⟨A,Y,Q⟩:=W _ _ t λz=>((Z _).mp z).elim R S;k_in;have:=D _ _ Y;rw[Q w]at this;exact⟨this,j,R,S,k⟩
theorem Zj(I:Aa X B R H s)(T:X.N.Nodup)(hi:X.N[i]?=AA x)(a:X.af.kindOf x=AA .local)(h:∀s',Aa X B (R.set i AF) H s'->Q () s'):As M A (do bindName X.af x .none;unbindBehindTheSuite X.af x N) Q E s:=by
  lk;obtain⟨m,g,f⟩:=id I.vo;k_in;have V:(X.af.scope.kind==.class||(X.af.scope.kind==.module&&X.af.locals !=X.af.globals))=AQ:=by rw[I.ok.jf];rfl
  have W:i<R.length:=by rw[I.dh];exact(BV.mp hi).1
  have U:=I.adt;refine wpAny_nameGoes_keeps a g V λh' v L D=>h _ ?_;have Y:=λb u e=>by
    refine(I.cp b u e).ve (λc P F q=>(D.2 c ?_).trans q) (λ_ q=>q) λ_ _ q=>q;rintro rfl;rcases F with rfl|F;.rw[I.au]at e;cases e
    .rw[I.au]at F;cases F
  refine⟨I.ok,I.os,I.iu,⟨λb o e n G Z=>?_,λb o e n G Z=>?_,I.ag.au,λb o e Z=>?_,I.ag.ri,I.ag.ng,I.ag.rh⟩,⟨_,L,λj y v' J C S=>?_⟩,λy c e=>?_,I.au,I.ik,λp l=>?_,Y,by simpa using I.dh⟩;.exact(D.2 b (Dz (Bc (CS e) I.ok.jg))).trans (I.ag.ae b o e n G Z)
  . obtain⟨sl,J⟩:=I.ag.qv b o e n G Z;exact⟨sl,(D.2 b (Dz (Bc (CS e) I.ok.jg))).trans J⟩
  . obtain⟨t,J⟩:=I.ag.cq b o e Z;exact⟨t,(D.2 b (Dz (Bc (CS e) I.ok.jg))).trans J⟩
  . by_cases K:j=i
    . subst K;rw[AAI W]at C;cases C
    . rw[AAH (El K)]at C;lk;obtain⟨u',w,q⟩:=f j y v' J C S;k_in;refine⟨u',w,?_⟩;rcases q with⟨k,e⟩|⟨k,c,e,z⟩
      . refine .inl ⟨k,?_⟩;have:y≠x:=λe=>K (U3 T J (e▸hi));simp[this,e]
      .exact .inr ⟨k,c,e,z.sameBut D (U y c e)⟩
  . obtain⟨P,z⟩:=I.ma y c e;exact⟨P,z.sameBut D (U y c e)⟩
  . lk;obtain⟨e,n,O,r,d⟩:=I.qx p l;k_in;exact⟨(D.2 _ O).trans e,n,O,r,d⟩
noncomputable def Be.mf(X:Be)(e:AD):Be:={X with A:=X.A.mark (AA (.ref e)),ic:=AQ,xe:=λ_ _=>False}
theorem Aa.mf(I:Aa X D J H s)(e:AD):Aa (X.mf e) D J H s:=⟨⟨I.ok.uk,I.ok.jf,I.ok.va,I.ok.abl,I.ok.jg,I.ok.abc,I.ok.abw,I.ok.abt,(λz=>by cases z),I.ok.il,I.ok.aco,I.ok.acy,I.ok.bs,I.ok.aam,I.ok.yy,I.ok.yo,I.ok.nh,I.ok.abb⟩,I.os,I.iu,I.ag,I.vo,I.ma,I.au,I.ik,I.qx,I.cp,I.dh⟩
theorem Aa.yk(I:Aa (X.mf e) D U H s)(J:X.ic=AJ->X.A.handled=AF):Aa X D U H s:=⟨⟨I.ok.uk,I.ok.jf,I.ok.va,I.ok.abl,I.ok.jg,I.ok.abc,I.ok.abw,I.ok.abt,J,I.ok.il,I.ok.aco,I.ok.acy,I.ok.bs,I.ok.aam,I.ok.yy,I.ok.yo,I.ok.nh,I.ok.abb⟩,I.os,I.iu,I.ag,I.vo,I.ma,I.au,I.ik,I.qx,I.cp,I.dh⟩
noncomputable def UP(e:AD)(C:AK)(dd:Option AD):Bg:=.ext λh=>∃o,h.get? e=AA o/\o.cls=C/\o.dict=dd/\∃D,o.data=.fields D
theorem Aa.aao(I:Aa X D S H s)(N:∃o,s.heap.get? e=AA o/\o.cls=C/\o.dict=dd/\∃vs,o.data=.fields vs)(W:H e=AF)(K:∀o,X.s₀.heap.get? e≠AA o)(L:e≠X.af.locals)(M:∀x c,X.af.cells.lookup x=AA c->c≠e)(O:∀p∈X.pn++D,p.1≠e):Aa X D S (AO H e (UP e C dd)) s:=by
 have V:∀b o,H b=AA o->b≠e:=λb o z q=>by rw[q,W]at z;cases z
 refine⟨I.ok,I.os,I.iu,⟨I.ag.ae,I.ag.qv,λb o U n P=>?_,I.ag.cq,λb R z=>?_,λb o u z=>?_,λb Q z=>?_⟩,I.vo,I.ma,?_,λx c z=>?_,λp q=>?_,?_,I.dh⟩
 . have q:b≠e:=λq=>K o (by rw[<-q];exact U);rw[AW q];exact I.ag.au b o U n P
 .have:=I.ag.ri b R z;rw[AW (V _ _ this)];exact this
 .have:=I.ag.ng b o u z;rw[AW (V _ _ this)];exact this
 .obtain⟨Z,q⟩:=I.ag.rh b Q z;exact⟨_,by rw[AW (V _ _ q)];exact q⟩
 .rw[AW L.symm];exact I.au
 .rw[AW (M x c z)];exact I.ik x c z
 . lk;obtain⟨A,B,E,F,G⟩:=I.qx p q;k_in;exact⟨A,by rw[AW (O p q)];exact B,E,F,G⟩
 . lk;obtain⟨o,Y,J⟩:=N;k_in;exact I.cp.aac W ⟨⟨o,Y,J⟩,⟨o,Y⟩,λT a⟨o,U,r1⟩k=>⟨o,k o U,r1⟩⟩
theorem DL.afb(x:DL P w H h a o):∃ob,h.get? a=AA ob:=by cases o with|lst U=>obtain⟨_,_,_,_,e⟩:=x;exact⟨_,e⟩|tup U=>obtain⟨_,_,_,ob,e,_⟩:=x;exact⟨_,e⟩|dK D=>obtain⟨_,_,_,_,o,_,_,e,_⟩:=x;exact⟨_,e⟩|dT D=>obtain⟨_,_,_,_,o,_,_,e,_⟩:=x;exact⟨_,e⟩|set S n=>obtain⟨o,_,_,_,e,_⟩:=x;exact⟨_,e⟩|ins C V J=>obtain⟨_,_,_,e,_⟩:=x;exact⟨_,e⟩|own y=>obtain⟨_,e⟩:=x;exact⟨_,e⟩|xd J=>obtain⟨_,⟨_,_,_,e,_⟩,_⟩:=x;exact⟨_,e⟩|rng Y W=>obtain⟨_,_,_,e⟩:=x;exact⟨_,e⟩|frz ob u=>obtain⟨e,_⟩:=x;exact⟨_,e⟩|tbl Z=>exact⟨_,(show h.get? a=AA _ from x)⟩|met f y=>exact⟨_,(show h.get? a=AA _ from x)⟩|ext z=>obtain⟨_,⟨_,e⟩,_⟩:=x;exact⟨_,e⟩
theorem Nh.adx{K:Aq}{st:Cj}(F:Nh K x J st f B)(S:Lm N ps (CU st))(z:∀vs H Q E,sp vs H Q E->vs.length=ps.length)(W:∀(U:AK)(A:Ck)(D:List Dl)(s:AV)(H:AI)(vs:List AE)(Q:Bh)(E:Fu),DW k (A.deeper (GW J (CU st) s.heap.objs.size f U))->sp vs H Q E->∃t,FC (FG (Gu P w) P w K C base N J (CU st) f U A D s H E) (KQ st) t/\t {nx:=λ_ H'=>Q .non H',rt:=Q} (LJ N vs) H):HN P w K C base (Gu P w) (k+1) f B ps sp:=by lk;obtain⟨X,a,T,G,b,O,U,R,M,rfl,L,Y⟩:=F.ex;k_in;refine ZL L Y S z λA D s H vs Q E I Z=>?_;lk;obtain⟨t,h,q⟩:=W _ A _ s H vs Q E I Z;k_in;exact⟨t,h,q⟩
theorem yF(D:1<=c)(V:c<=2000000)(W:-(2^40)<=a)(J:a<2^40)(Y:-(2^40)<=b)(U:b<2^40):cY a b c=AJ:=by have h:=bE (lo:=a) (hi:=b) D;have Z:=R3 (lo:=a) (hi:=b) D;unfold cY;simp only[ADO,Qa,AB8,AFo,AFs,show c>0 by assumption,AFq];(constructor<;>lia)
theorem G0:∀{D:List U}{J:List V},D.length=J.length->(∀(i:Nat)a b,D[i]?=AA a->J[i]?=AA b->F a b)->BW F D J|[],[],_,_=>.nil|a::D,b::J,W,h=>.cons (h 0 a b rfl rfl) (G0 (ACu.mp W) λi x y Y Z=>h (i+1) x y (by assumption) (by assumption))
noncomputable def Pt(i j d:Int):List Int:=(Eb (Fz i j d)).map λk:Nat=>i+(k:Int)*d
theorem VJ(i j d:Int):(Pt i j d).length=Fz i j d:=by unfold Pt;simp
theorem xW(h:k<Fz i j d):(Pt i j d)[k]?=AA (i+(k:Int)*d):=by unfold Pt;simp_all
def y3(J:Fc):Az:=λW H Q=>J W H λU D=>RS (λ(i j d:Int)=>U=[.int i,.int j,.int d]) (λi j d=>(1<=d/\d<=2000000/\-(2^40)<=i/\i<2^40/\-(2^40)<=j/\j<2^40/\Fz i j d<=16777216)) (λi j d=>∀l,D l=AF->Q (.ref l) (AO D l (.lst ((Pt i j d).map AE.int))))
theorem wO(g:X.ic=AJ)(Z:Fq X "list")(A:X.mg "list"=AF)(l:Fq X "range")(n:X.mg "range"=AF)(f:GR X [a,b,c] N)(hs:CQ [a,b,c] X.af=[(AQ,BY a X.af),(AQ,BY b X.af),(AQ,BY c X.af)]:=by rfl)(B:CQ [b,c] X.af=[(AQ,BY b X.af),(AQ,BY c X.af)]:=by rfl)(v:CQ [.Call (.Name "range" E) [a,b,c] [] D] X.af=[(AQ,BY (.Call (.Name "range" E) [a,b,c] [] D) X.af)]:=by rfl):Ao X (.Call (.Name "list" p) [.Call (.Name "range" E) [a,b,c] [] D] [] F) (y3 N):=by intro U s O H Q I h;refine OQ (KU I Z A Ki ?_);refine P5 ?_ (by rfl) rfl;refine OL ?_;refine Vs (KU I l n cP (P5 (A1 (f D U s O H _ I h) λus s1⟨vs,P,K,r1,G⟩=>?_) (by simp_all) (by rw[B];rfl)));lk;obtain⟨i,j,d,e,⟨Y,S,G,y,q3,q4,M⟩,q⟩:=G;k_in;subst e;cases r1 with|cons r V=>cases V with|cons r' V=>cases V with|cons r2 V=>
        lk;cases V;obtain⟨t,rfl⟩:=r;obtain⟨t',rfl⟩:=r';obtain⟨t2,rfl⟩:=r2;k_in;refine call_range_3 (Kp Y) ?_ (.inl (AAr (by grind)));refine P9 ?_;have L:Aa X U O P {s1 with heap:=s1.heap.push {cls:=.type "range",data:=.fields #[.int i t,.int j t',.int d t2]},toks:=s1.toks}:=K.ip λb o e=>DC _ e;refine call_list_range (K.ok.hd g) (AA5 ..) (yF Y S G y q3 q4) (R3 Y) M λT tk W R m hS J=>?_;refine⟨.ref _,_,L.nu m (Al _) (show DL X.ai X.w _ T _ (.lst _)from⟨?_,W.toList,R,?_,by assumption⟩),rfl,q _ (L.cp.bw (Al _))⟩
        . rw[BB,VJ];exact M
        . refine G0 (by rw[BB,VJ,MQ,J.1]) λk x u C w=>?_;have z:k<Fz i j d:=by have:=(BV.mp C).1;rw[BB,VJ]at this;assumption
          rw[CD,xW z]at C;obtain⟨tk',e⟩:=J.2 k u (by(simpa using w));rw[<-Bz C,e];exact⟨_,rfl⟩
theorem sY{K:Aq}(A:X.ic=AJ)(z:X.K=K:=by rfl):Ez X (.builtin "min") (λxs H Q=>∃(p:AD)(ns:List Int),xs=[.ref p]/\Bx K H p (ns.map AE.int)/\0<ns.length/\∀M,M∈ns->(∀a,a∈ns->M<=a)->Q (.int M) H):=by
 subst z;intro Z s g H xs f Q I r h;lk;obtain⟨p,ns,rfl,F,E,q⟩:=h;obtain⟨u,rfl,O⟩:=Ip r;cases O;obtain⟨L,P,N,c⟩:=I.iq F;have Y:=ZR P;obtain⟨D,e⟩:=Y.allInts.items;k_in;have J:ns=D.toList.map (·.1):=by rw[<-AEV,<-e];exact(show numsOf _=ns from Y.numsOf).symm
 have U:0<D.size:=by simp_all
 have C:=e▸N.isList;refine min_intList (I.ok.hd A) C U λv R d G B=>?_;lk;obtain⟨t,rfl⟩:=intItems_at G;obtain⟨S,T⟩:=argBest_lt (numAt D) (D.size-1);k_in;refine⟨.int _,H,I.ip B,⟨_,rfl⟩,q _ ?_ λa W=>?_⟩;.rw[eI];grind
 . rw[J]at W;lk;obtain⟨j,b,rfl⟩:=mem_getD W;k_in;rw[<-eI];grind
theorem sW{K:Aq}(A:X.ic=AJ)(z:X.K=K:=by rfl):Ez X (.builtin "max") (λxs H Q=>∃(p:AD)(ns:List Int),xs=[.ref p]/\Bx K H p (ns.map AE.int)/\0<ns.length/\∀M,M∈ns->(∀a,a∈ns->a<=M)->Q (.int M) H):=by
 subst z;intro Z s g H xs f Q I r h;lk;obtain⟨p,ns,rfl,F,E,q⟩:=h;obtain⟨u,rfl,O⟩:=Ip r;cases O;obtain⟨L,P,N,c⟩:=I.iq F;have Y:=ZR P;obtain⟨D,e⟩:=Y.allInts.items;k_in;have J:ns=D.toList.map (·.1):=by rw[<-AEV,<-e];exact(show numsOf _=ns from Y.numsOf).symm
 have U:0<D.size:=by simp_all
 have C:=e▸N.isList;refine max_intList (I.ok.hd A) C U λv R d G B=>?_;lk;obtain⟨t,rfl⟩:=intItems_at G;obtain⟨S,T⟩:=argBest_gt (numAt D) (D.size-1);k_in;refine⟨.int _,H,I.ip B,⟨_,rfl⟩,q _ ?_ λa W=>?_⟩;.rw[eI];grind
 . rw[J]at W;lk;obtain⟨j,b,rfl⟩:=mem_getD W;k_in;rw[<-eI];grind
theorem ZI:∀ys D:List Int,QB (ys.map Jz) (D.map Jz)=Ae (ys=D)|[],[]=>rfl|[],_::_=>rfl|_::_,[]=>rfl|y::ys,z::D=>by show(SV _ _&&QB _ _)=_;rw[ZI ys D];show((y==z)&&Ae _)=_;grind
theorem PZ:∀ys:List Int,IG (ys.map Jz)=AJ/\Iy (ys.map Jz)=0|[]=>⟨rfl,rfl⟩|y::r=>by obtain⟨a,b⟩:=PZ r;simp[IG,Gm,Iy,IH,a,b]
theorem aN(ys:List Int):Hj (.list (ys.map Jz))=AJ:=by obtain⟨a,b⟩:=PZ ys;simp[Hj,Gm,IH,a,b]
theorem Uh{K:Aq}(J:Fp K H x d)(U:Fp K H y d)(D:Hj d=AJ)(q:Q (.bl AJ) H):Z9 K x y H Q:=⟨d,d,J,U,D,D,by rw[V7 d (V6 D)];exact q⟩
theorem N0{K:Aq}(J:Fp K H x d)(U:Fp K H y d)(D:Hj d=AJ)(q:Q (.bl AQ) H):aC K x y H Q:=⟨d,d,J,U,D,D,by rw[V7 d (V6 D)];exact q⟩
theorem DG.aas(l:List AD)(x:DG P w H h)(U:∀a∈l,H a=AF)(k:∀b u,b∉l->h.get? b=AA u->D.get? b=AA u):DG P w H D:=by intro b u e;refine(x b u e).ve (λc v J q=>k c v ?_ q) (λ_ q=>q) λ_ _ q=>q;grind
noncomputable def Nm(K:Aq)(a:AD):Gb:=⟨λi H=>∃D x,Bx K H a D/\D[i]?=AA x,λi H x J=>∃p y,x=.ref p/\H p=AF/\J=AO H p (.tup [.int (i:Int),y])/\∀D,Bx K H a D->D[i]?=AA y,λi H=>∃D,Bx K H a D/\D.length<=i⟩
theorem zQ{K:Aq}(a e it:AD)(L:e≠it):Lq P w K (.Tuple B x1 O) (Nm K a) [e,it] e (λi h=>(∃D,IsEnum h e it i D)/\h.IsListIter it a i)where
 aca:=by simp
 bz:=λi h J b U=>by lk;obtain⟨⟨D,W⟩,o,e2,c,d⟩:=J;k_in;grind
 ae:=λi h h' J k=>by lk;obtain⟨⟨D,W⟩,J⟩:=J;k_in;exact⟨(by grind),J.at (λu1 u2=>k _ (List.singleton_sublist.mp (List.sublist_cons_self _ _)) _ u2)⟩
 wq:=by
  intro X T hw S hc i N s σ H E I Z J g;subst T hw S;lk;obtain⟨xs,x,Q,A⟩:=g;obtain⟨m,r,p,hz⟩:=I.iq Q;obtain⟨u,hu,ru⟩:=r.vm A;obtain⟨⟨D,W⟩,V⟩:=J;obtain⟨y,f1,f2,f3,f4,f5⟩:=Z e (by simp);obtain⟨g0,g1,g2,g3,g4,g5⟩:=Z it (by simp);k_in;have R:e<s.heap.objs.size:=CS W;have ilt:it<s.heap.objs.size:=by obtain⟨o,q,_⟩:=id V;exact CS q
  refine wpAny_pyNext_enum_item W V p.isList (x:=u) (by simpa using hu) L λh' eo F ht hsz kk=>⟨_,rfl,wpAny_letOwnedTupleGo_enum eo λC he2 t=>?_⟩;have M:H s.heap.objs.size=AF:=I.cp.bw (Al _);have pe:s.heap.objs.size≠e:=NA R;have Y:∀b o,b∉[e,it]->s.heap.get? b=AA o->C.get? b=AA o:=λb o U q=>by have v:b≠e:=λz=>U (by simp[z]);have b2:b≠it:=λz=>U (by simp[z]);exact(t.2 b v).trans (kk b o v b2 q)
  have G:C.IsListIter it a (i+1):=by obtain⟨o,q,c,d⟩:=id F;exact⟨o,(t.2 it (λz=>L z.symm)).trans q,c,d⟩
  have l:=(t.2 _ pe).trans ht;have j:DG X.ai X.w (AO H s.heap.objs.size (.tup [.int (i:Int),x])) C:=by refine(I.cp.aas [e,it] (λb U=>(Z b U).1) Y).aac M ?_;exact⟨show 2<=Ay by decide,[.int i s.toks,u],.cons ⟨_,rfl⟩ (.cons ru .nil),⟨_,l,rfl,_,rfl⟩⟩
  have un:Ge (DU X.cg) [e,it] H (AO H s.heap.objs.size (.tup [.int (i:Int),x])) s.heap C:=by
   refine⟨(λu1 u2 u3 u4 u5 u6=>Y _ _ u6 u3),λb o q n U A=>⟨o.slots,Y b o A q⟩,λb o q n A=>?_,(by grind),λb ys q=>?_,λb o u q=>?_,λb ps q=>?_⟩;.rw[AW (Dz (CS q))];exact n
   .rw[AW (BE q M)];exact q
   .rw[AW (BE q M)];exact q
   .exact⟨#[],by rw[AW (BE q M),ABz];exact q⟩
  have I2:=I.xk (s':={s with heap:=C,toks:=s.toks+1}) (ch:=[e,it]) rfl un j I.iu (by grind);refine⟨.ref s.heap.objs.size,_,I2,rfl,⟨_,x,rfl,M,rfl,λys hy=>by rw[I.yb hy Q];exact A⟩,⟨⟨u,?_⟩,G⟩,λb U=>?_⟩;.assumption
  . have f:b≠s.heap.objs.size:=(by grind);rw[AW f];exact(Z b U).1
 wk:=by intro X T hw S hc i N s σ H E I Z J g;subst T hw S;lk;obtain⟨xs,Q,A⟩:=g;obtain⟨m,r,p,hz⟩:=I.iq Q;obtain⟨⟨D,W⟩,V⟩:=J;obtain⟨y,f1,f2,f3,f4,f5⟩:=Z it (by simp);k_in;have hl:=r.ar;exact wpAny_pyNext_enum_end (I.ok.hd hc) W V p.isList (by simp;simp_all) λh' eb=>⟨rfl,I.fw (t':=s.toks) (λb o U e=>eb b o U e) y f1 f3 f4 f5⟩
 yg:=λ_ _ _ _ _ J h=>by lk;obtain⟨⟨D,W⟩,_⟩:=J;k_in;exact AEe W h
def uG(K:Aq)(J:Az):GB:=λV H R=>J V H λx D=>K6 (λa=>x=.ref a) (λa=>(∃U,Bx K D a U)) (λa=>R (Nm K a) D)
theorem Mx{K:Aq}(L:Fq X "enumerate")(O:X.mg "enumerate"=AF)(N:Ao X l A)(E:X.K=K:=by rfl)(Y:CQ [l] X.af=[(AQ,BY l X.af)]:=by rfl):GS X (.Tuple J d V) (.Call (.Name "enumerate" p) [l] [] W) (uG K A):=by
 subst E;intro Z s f H R I h;refine Vs (KU I L O boot_enumerate (P5 ?_ Y rfl));rw[Y];refine OL (A1 (N _ s f H _ I h) λv s1 U=>?_);lk;obtain⟨x,B,D,r1,c⟩:=U;k_in;refine P9 ?_;lk;obtain⟨a,e,⟨k,P⟩,q⟩:=c;k_in;subst e;lk;cases r1;obtain⟨S,j,p,i⟩:=D.iq P;k_in;refine call_enumerate_list p.isList λg G M Q T=>?_;have C:=D.ip (t':=s1.toks) T;refine AEe G ?_;refine⟨_,_,_,_,B,rfl,C,zQ a _ _ (Nat.add_one_ne_self _),(by grind),λb F=>?_,q⟩;rcases CJ.mp F with z|z;. subst z;exact D.vn (OG _) (D.cp.bw (OG _))
 . have z:=Bt.mp z;subst z;exact D.vn (Al _) (D.cp.bw (Al _))
theorem VE(z:List (AG×Nat))(I:X.ic=AJ)(hi:GS X (.Tuple [.Name x M,.Name y N] L V) J wi)(S:X.af.scope=osc)(R:D.kind=.function)(W:∀y∈D.names,y.2≠.cell)(U:∀y∈D.names,y.2=.local->D.names.lookup y.1=AA .local)(Y:∀y∈D.names,y.2=.free->osc.names.lookup y.1=AA .cell\/osc.names.lookup y.1=AA .free)(F:KL X D z)(K:D.names.lookup x=AA .local)(E:D.names.lookup y=AA .local)(A:(x::y::z.map (·.1)).Nodup)(a:∀C s H ex,KO (Dr X D (x::y::z.map (·.1)) C s H ex) B P)(Q:∀C s H ex,Ao (Dr X D (x::y::z.map (·.1)) C s H ex) Z O)(T:∀x,NJ J X.af x=Bf x:=by intro _;rfl):Ao X (.ListComp Z [⟨.Tuple [.Name x M,.Name y N] L V,J,B,0⟩] D G) (L9 2 (z.map (·.2)) wi (Ra X.K 2 (PX (Gx 0) (PX (Gx 1) Uo))) P O):=Zx (own:=[x,y]) I hi R W U (λy E e=>by show X.af.scope.names.lookup _=_\/X.af.scope.names.lookup _=_;rw[S];exact Y y E e) F (λC s H ex=>VH (show(Dr X _ _ C s H ex).ic=AJ from I) (G1 (Il A rfl (.inl (Km K)) (.inr (Km K))) (G1 (Il A rfl (.inl (Km E)) (.inr (Km E))) L8))) a Q T
theorem Uk{K:Aq}{a:AD}{xs:List AE}{g:Eu}{F:Cw}{D:Gv}{J:Ai}{H:AI}(Y:Nat->Ai->AI->Prop)(G:Y 0 J H)(M:∀i J H,i<=xs.length->Y i J H->Bx K H a xs)(P:∀(i:Nat)x J H p,xs[i]?=AA x->Y i J H->H p=AF->g (.ref p) J (AO H p (.tup [.int (i:Int),x])) λA B=>F {D with nx:=Y (i+1),ct:=Y (i+1),bk:=D.nx} A B)(L:∀J H,Y xs.length J H->D.nx J H):∃W:Nat->Nat->Ai->AI->Prop,(∃m,W 0 m J H)/\∀i m J H,W i m J H->((Nm K a).vf i H/\D.nx J H)\/((Nm K a).go i H/\∃N:Ai->AI->Prop,(∀Z H',N Z H'->∃E,E<m/\W (i+1) E Z H')/\∀x H',(Nm K a).aaz i H x H'->g x J H' λA B=>F {D with nx:=N,ct:=N,bk:=D.nx} A B):=by
 refine⟨λi m J H=>m=xs.length-i/\i<=xs.length/\Y i J H,⟨xs.length,by simp,Bd _,G⟩,?_⟩;intro i m J H I;lk;obtain⟨rfl,C,p⟩:=I;k_in;have q:=M i J H C p;by_cases U:i<xs.length
 . refine .inr ⟨⟨xs,xs[i],q,by simp[U]⟩,_,λZ H' R=>⟨_,Ja _ _ U,rfl,U,R⟩,λx H' y=>?_⟩;lk;obtain⟨r,z,rfl,O,rfl,Q⟩:=y;k_in;exact P i z J H r (Q xs q) p O
 . have e:=Fh C (GV U);subst e;exact .inl ⟨⟨xs,q,Al _⟩,L J H p⟩
theorem RW{K:Aq}(G:Nat->AE->Bool)(f:Nat->AE->AE)(n:xs.length<=Ay)(M:∀J,Ah H J->Bx K J a xs)(k:∀(i:Nat)x p E F J(R:Ai->AI->Prop),xs[i]?=AA x->Ah H J->J p=AA (.tup [.int (i:Int),x])->R (AA (.int (i:Int))::AA x::C.map (G4 I)) J->g (.ref p) (E::F::C.map (G4 I)) J R)(O:∀(i:Nat)x J(R:Bool->AI->Prop),xs[i]?=AA x->Ah H J->(∀B,Ah J B->R (G i x) B)->X (AA (.int (i:Int))::AA x::C.map (G4 I)) J R)(N:∀(i:Nat)x J(R:Bh),xs[i]?=AA x->G i x=AJ->Ah H J->(∀B,Ah J B->R (f i x) B)->S (AA (.int (i:Int))::AA x::C.map (G4 I)) J R)(j:∀J,Ah H J->∀D,J D=AF->Q (.ref D) (AO J D (.lst (((Kc (Eb xs.length) xs).filter λq=>G q.1 q.2).map λq=>f q.1 q.2)))):Mg 2 C g X S I Q (Nm K a) H:=by
  refine⟨λi m b Z L=>m=xs.length-i/\i<=xs.length/\Ah H L/\(∃E F,b=E::F::C.map _)/\Z=((((Kc (Eb xs.length) xs).take i).filter λq=>G q.1 q.2).map λq=>f q.1 q.2),⟨xs.length,by simp,Bd _,CA H,⟨_,_,rfl⟩,rfl⟩,?_⟩;intro i m b Z L h;lk;obtain⟨rfl,l,s1,⟨E,F,rfl⟩,U⟩:=h;k_in;have P:(Kc (Eb xs.length) xs).length=xs.length:=by simp
  by_cases W:i<xs.length
  . have Y:=Cr W;have T:(Kc (Eb xs.length) xs).take (i+1)=(Kc (Eb xs.length) xs).take i++[(i,xs[i])]:=by
      rw[Dy];have:(Kc (Eb xs.length) xs)[i]?=AA (i,xs[i]):=by rw[Ka];exact⟨by simp[W],Y⟩
      rw[this];rfl
    refine .inr ⟨⟨xs,_,M _ s1,Y⟩,?_,λx J y=>?_⟩
    . have:Z.length<=i:=by rw[U,BB];refine Ak (Ff _ _) ?_;rw[Ej];exact LO _ _
      exact Bc (HX this W) n
    . lk;obtain⟨p,z,rfl,r,rfl,s⟩:=y;k_in;have c:=Bz ((s xs (M _ s1)).symm.trans Y);subst c;have s2:=s1.gu (o:=.tup [.int (i),xs[i]]) r;refine k i _ p E F _ _ Y s2 Ac ?_;refine O i _ _ _ Y s2 λB s3=>?_;cases A:G i _ with |true=> refine N i _ _ _ Y A (s2.aa s3) λt s4=>⟨_,Ja _ _ W,rfl,W,(s2.aa s3).aa s4,⟨_,_,rfl⟩,?_⟩;rw[T,Gg,DJ,<-U];simp[A]|false=>refine⟨_,Ja _ _ W,rfl,W,s2.aa s3,⟨_,_,rfl⟩,?_⟩;rw[T,Gg,DJ,<-U];simp[A]
  . have e:=Fh l (GV W);subst e;rw[D7 (by rw[P];exact Al _)]at U;exact .inl ⟨⟨xs,M _ s1,Al _⟩,λD d=>by rw[U];exact j L s1 D d⟩
abbrev Yo:=Ai->AI->Bh->Fu->Prop
def Ym(X:Be)(e:BO)(t:Yo):Prop:=∀(D:List (AD×BC))(s:AV)(J:Ai)(H:AI)(Q:Bh)(E:Fu),Aa X D J H s->t J H Q E->As (An X.ai X.w) X.A (BY e X.af) (FZ X D J Q) (λV W=>∃U s1,Aa X D J U s1/\Gu X.ai X.w X.cg U s1 E V W) s
def zL(C:AD)(sp:BG)(t:Fc):Yo:=λW H Q E=>t W H λV J=>∀x D,J x=AF->J D=AF->D≠x->sp (.ref x::V) (AO (AO J D (.own x)) x (.ins C D [])) (λv U=>v=.non/\Q (.ref x) U) E
def bJ(K:Aq)(W:AD)(i:Nat)(Z:AD->Cw)(D:Gv)(z:Ai):Fu:=λC Y V=>AD2 K C (.ref W)=AA AJ/\∀e,V e=AF->Z e {nx:=λU J=>D.nx (U.set i AF) J,rt:=D.rt} (z.set i (AA (.ref e))) (AO V e (UP e C Y))
section
variable{X:Be}{cn n:AG}{np hpos:CV}{CF:AD}{b₀:Cj}{suite:List Cj}{th:AD->Cw}{i:Nat}
set_option tactic.hygienic true in theorem vF{pins:List (AD×BC)}{σ:Ai}{H1:AI}{s1 s':AV}{D:Gv}{ev:AK}(hnc:X.af.cells=[])(hex:X.ex=[])(hst:X.cg=X.af::X.kx)(hfl:X.af.frame=AA X.af.locals)(hgc:Fq X cn)(hmc:X.mg cn=AA (.ref CF))(hN:X.N.Nodup)(hi:X.N[i]?=AA n)(hln:X.af.kindOf n=AA .local)(hfn:X.fn n=AJ\/X.af.scope.names.lookup n=AA .local)(hs:∀e,FC (X.mf e) (b₀::suite) (th e))(hdc:(cn==("__debug__":AG))=AQ)(I1:Aa X pins σ H1 s1)(hq:Gu X.ai X.w X.cg H1 s1 (bJ X.K CF i th D σ) ev s'):As (An X.ai X.w) X.A (eC ev X.af) (λ_ s₂=>As (An X.ai X.w) X.A (eM ev AF) (λ_ s₃=>As (An X.ai X.w) X.A (handleBy ev X.af [.ExceptHandler (AA (.Name cn np)) (AA n) (b₀::suite) hpos]) (PH X pins D) X.xe s₃) X.xe s₂) X.xe s':=by
 lk;obtain⟨e,C,a0,H',B,dd,rfl,os,bare,hokB,fly,un,cov,hdd,hmat,hh⟩:=hq;k_in;have I2:=I1.xk (s':=s') (ch:=[]) os un (hokB.ip fly.1) bare λb hb=>absurd hb (by simp);have hfr:X.A.frames=AA (X.af::X.kx):=by rw[<-hst];exact I1.ok.il
 have fly':Kj B (X.af::X.kx) e C a0 s'.heap:=by rw[<-hst];exact fly
 refine vL hfr hfl fly' hdd λh3 held up3 hd3=>?_;refine vD held hd3 λh4 fly4 up4 hd4=>?_;have I4:=Yi I1 I2 hnc hex hst hfl cov hokB fly4.1 (up3.trans up4) fly.2.2.1;lk;obtain⟨oe,hoe,hoec⟩:=fly.there;k_in;have eB:=fly.2.1;have efl:∃vs,oe.data=.fields vs:=by obtain⟨_,_,_,oe',vs,T,oT,ts,a1,a2,a3,_⟩:=fly;rw[hoe]at a1;cases a1;exact⟨_,a3⟩
 have nfr:e∉DU X.cg:=λz=>by obtain⟨_,o1,e1,q1⟩:=fly.2.2.1.mem (b:=e) z;rw[hoe]at e1;cases e1;obtain⟨vs,q2⟩:=efl;exact q1 vs q2
 have inS:X.af.locals∈DU X.cg:=by rw[hst];unfold DU;rw[Ve,hfl];exact DO
 have ns1:∀o,s1.heap.get? e≠AA o:=λo z=>by obtain⟨o',q1,_⟩:=cov e o z nfr;rw[eB]at q1;cases q1
 have hn0:H' e=AF:=by cases z:H' e with |none=>rfl|some u=> obtain⟨o',q1⟩:=(hokB e u z).afb;rw[eB]at q1;cases q1
 refine wpAny_handleBy_cons (codeAny_handlers_test (Mt (I4.mf e) hgc hmc ?_ hdc)) (by intro q;cases q);lk;obtain⟨o4,ho4,hc4⟩:=fly4.there;k_in;have LT:QC (An X.ai X.w) h4 (OP (.ref e)) C:=by rw[<-hc4];exact(dP ho4).andThen .now
 refine W.exm_one I4.nq LT hmat _ _ _ _ (λb o z=>z) ?_;refine codeAny_handlers_suite_as (vE fly4 hd4 λh5 fly5 up5 hd5=>?_);have I5:=Yi I1 I2 hnc hex hst hfl cov hokB fly5.1 ((up3.trans up4).trans up5) fly.2.2.1;have there5:∃o,h5.get? e=AA o/\o.cls=C/\o.dict=dd/\∃vs,o.data=.fields vs:=by obtain⟨oe5,vs5,g1,g2,g3,_⟩:=fly5.first;exact⟨oe5,g1,g2,hd5.vm g1,vs5,g3⟩
 have I6:=I5.aao (e:=e) (C:=C) (dd:=dd) there5 hn0 (λo z=>?_) (λz=>nfr (z▸inS)) (λx c z=>by rw[hnc]at z;cases z) (λp hp z=>?_)
 . refine VN (X:=X.mf e) (I6.mf e) hN hi (.inl hln) (v:=.ref e) rfl (λs7 I7=>?_) hfn;refine FV (hs e pins s7 _ _ _ I7 (hh e hn0)) (λfl s8 q8=>?_) λ_ _ z=>FW z;cases fl with |next=> lk;obtain⟨σ8,H8,I8,q8⟩:=q8;k_in;exact Zj (I8.yk λz=>I1.ok.hd z) hN hi hln λs9 I9=>⟨_,_,I9,q8⟩|ret u=>lk;obtain⟨v,σ8,H8,I8,rv,q8⟩:=q8;k_in;exact Zj (I8.yk λz=>I1.ok.hd z) hN hi hln λs9 I9=>⟨v,_,_,I9,rv,q8⟩|brk=>obtain⟨_,_,_,z⟩:=q8;exact FW z|cont=>obtain⟨_,_,_,z⟩:=q8;exact FW z
 . obtain⟨o',q1⟩:=I1.ag.cq e o z (by rw[hex];simp);exact ns1 o' q1
 . have b1:=(I1.qx p hp).1;rw[z]at b1;exact ns1 _ b1
end
theorem xC{z n:AG}(L:X.af.cells=[])(B:X.ex=[])(M:X.cg=X.af::X.kx)(C:X.af.frame=AA X.af.locals)(b:Ym X O g)(F:Fq X z)(K:X.mg z=AA (.ref R))(S:X.N.Nodup)(hi:X.N[i]?=AA n)(G:X.af.kindOf n=AA .local)(E:X.fn n=AJ\/X.af.scope.names.lookup n=AA .local)(a:∀e,FC (X.mf e) (V::J) (f e))(A:(z==("__debug__":AG))=AQ:=by decide)(N:MP O AF W.line X.af=Bf AQ:=by rfl):D6 X (.Try [.Expr O W] [.ExceptHandler (AA (.Name z k)) (AA n) (V::J) P] [] [] c) (λD U H=>g U H (λ_ Y=>D.nx U Y) (bJ X.K R i f D U)):=by intro Q s U H D I h;refine wpAny_Try_except (ABg (AEa ?_ I.abp N));refine FV (b _ s U H _ _ I h) (λv s1⟨y,Y,Z,r1,d⟩=>?_) λj l⟨Y,s1,Z,T⟩=>vF L B M C F K S hi G E a A Z T;exact Sg (Sg ⟨U,Y,Z,d⟩)
structure r9(K:Aq)(C:AD)(bm:List AK):Prop where bz:∃(nm q:AG)(NS:AD)(bs:List AK)(hdct:Bool)(sn:List AG)(sub:List AK)(ab:Bool)(col:Option Bool)(dd:Option AD)(k0 k1 k2 k3 k5:Option AK),K.lookup C=AA (excClassObj nm q C NS bs bm hdct sn sub ab col dd k0 k1 k2 k3 k5 "ValueError.__new__")/\∀h:BJ,K.In h->(∃mN,h.Ns NS mN/\mN "__init__"=AF)/\OwnTail h [.type "ValueError",.type "Exception",.type "BaseException",.type "object"] bm
set_option tactic.hygienic true in theorem t5{K:Aq}{C:AD}(q:dW K C [.type "ValueError",.type "Exception",.type "BaseException",.type "object"] "ValueError.__new__"=AJ):∃bm,r9 K C bm:=by
  unfold dW at q;split at q
  . rename_i dd cd sl ho;split at q
    . rename_i C2 bm k0 k1 k2 k3 nn k5 hm hs;simp at q;lk;obtain⟨⟨⟨⟨⟨e1,e2⟩,e3⟩,e4⟩,e5⟩,e6⟩:=q;k_in;have hsl:sl=#[k0,k1,k2,k3,AA (.builtin nn),k5]:=by rw[<-WH (xs:=sl),hs]
      cases cd with|mk a1 a2 a3 a4 a5 a6 a7 a8 a9 a10 a11=>subst hsl e1 e2 e3 hm;exact⟨bm,⟨a1,a5,a4,a2,a6,a7,a8,a9,a10,dd,k0,k1,k2,k3,k5,ho,λh X=>⟨⟨_,.of_isNs (W.isNs_of_in X e5),W.nsMap_none_of_in X e5 e6⟩,W.tail_of_in X e4⟩⟩⟩
    .cases q
  .cases q
theorem xA{K:Aq}{qual:AG}{x:AG}(hx:dW K C [.type "ValueError",.type "Exception",.type "BaseException",.type "object"] "ValueError.__new__"=AJ)(hm:Ao (FG (Gu P w) P w K mg base N qual scope f cd A outer s₀ H₀ E') (.Name x np) (Mz (.ref C)))(he:Ao (FG (Gu P w) P w K mg base N qual scope f cd A outer s₀ H₀ E') e te)(hts:FU cpos (CQ [e] (GW qual scope s₀.heap.objs.size f cd))=[(AQ,BY e (GW qual scope s₀.heap.objs.size f cd))]:=by rfl):D6 (FG (Gu P w) P w K mg base N qual scope f cd A outer s₀ H₀ E') (.Raise (AA (.Call (.Name x np) [e] [] cpos)) AF pos) (λD σ H=>te σ H λv H1=>E' (.ref C) AF H1):=by obtain⟨bm,EC⟩:=t5 hx;intro pins s σ H D I h;lk;obtain⟨nm,q,NS,bs,hdct,sn,sub,ab,col,dd,k0,k1,k2,k3,k5,lk,more⟩:=EC.bz;obtain⟨⟨mN,hN0,hni⟩,tl0⟩:=more _ I.ok.uk.abx;k_in;have hb:bm.contains (.type "BaseException")=AJ:=tl0.hasType rfl;have ev:=λQ hq=>hm _ s σ H Q I hq;have hd:=I.ok.hd rfl;refine wpAny_Raise_call_subU (C:=C) (nm:=nm) (q:=q) (N:=NS) (bs:=bs) (hdct:=hdct) (sn:=sn) (sub:=sub) (ab:=ab) (col:=col) (dd:=dd) (k0:=k0) (k1:=k1) (k2:=k2) (k3:=k3) (k5:=k5) ADZ (by decide) ADZ hb hd (by show((FU _ (CQ _ (GW _ _ _ f cd))).any _)=AQ;rw[hts];rfl) hni ?_;refine A1 (ev (λv H1=>v=.ref C/\H1=H) ⟨rfl,rfl⟩) λu s1 hh11=>?_;lk;obtain⟨v,H1,I1,r1,e1,e2⟩:=hh11;k_in;subst e1 e2;refine⟨r1,?_⟩;show As _ _ (evalArgs _ _ (FU _ (CQ _ (GW _ _ _ f cd))) []) _ _ s1;rw[hts];refine dA (OL (A1 (he _ s1 σ _ _ I1 h) λu2 s2 hh21=>?_));lk;obtain⟨y,H2,I2,ry,q2⟩:=hh21;k_in;refine P9 ?_;exact⟨rfl,by show 1<=Ay;decide,I2.nq C _ lk,hN0.keeps I2.bk,tl0.keeps I2.bk,λh' e' hx=>vH I2 hx q2⟩
theorem zM(l:AD)(D:Array AK)(n:Nat)(dd:Option AD)(O:Array (Option AK))(x:AK)(e:AK->Bool)(H:∀y,y∈D->MeetsSeq.EqGives y x (e y))(j:Nat)(I:j<D.size)(Z:e D[j]=AJ)(z:∀m(S:m<D.size),m<j->e D[m]=AQ):Meets (Builtin.«tuple.index» ⟨[.ref l,x],[]⟩) (λ_ R s=>s.heap.get? l=AA {cls:=.type "tuple",dict:=dd,data:=.seq D n,slots:=O}/\R (.ok (.ret (.int j s.toks))) {s with toks:=s.toks+1}):=.of_wp λJ w A R s h=>by
    lk;obtain⟨L,g,d,P,N⟩:=s;obtain⟨K,h⟩:=h;k_in;wp_walk using wpAny_loadPart' K;change As (An J w) A.in1 (IM [:Ds D.size D.size] ((AF,()):Option V3×Unit) _) _ _ _;rw[AFf];simp only[AFg,Nat.sub_zero,Nat.add_sub_cancel,Nat.div_one,Nat.min_self];refine ABi _ (λU b C=>∃k,U=List.range' k (D.size-k) 1/\k<=j/\b.1=AF/\C=(⟨L,g,d,P,N⟩:AV)) _ ?_ ?_ _ _ ⟨0,rfl,Bd _,rfl,rfl⟩
    . intro i U b C G;lk;obtain⟨k,B,Y,Q,rfl⟩:=G;k_in;have V:k<D.size:=(HX Y I);rw[show D.size-k=(D.size-(k+1))+1 by exact Nat.sub_one_cancel (Vl.mpr V) (AAX _ (by decide)) (Nat.eq_sub_of_add_eq rfl),List.range'_succ]at B;injection B with E F;subst E F;have M:D[i]?=AA D[i]:=(by simp);simp only[M];refine BL (H _ (Array.getElem_mem V) J w _ _ _ _ ?_);by_cases W:i=j;. subst W;rw[Z];wp_walk;exact⟨_,rfl,h⟩
      . rw[z i V (Dk Y W)];wp_walk;grind
    grind
theorem aR{ys:List AG}{its:List AK}(r:Bb (ys.map AE.str) its){i:Nat}{z:AG}(h:ys[i]?=AA z):∃t,its[i]?=AA (.str z t):=by lk;obtain⟨u,D,t,rfl⟩:=r.vm (i:=i) (x:=.str z) (by simp_all);k_in;(constructor<;>omega)
noncomputable def aQ(z:AG):AK->Bool|.str y _=>y==z|_=>AQ
theorem vT{K:Aq}(P:X.K=K:=by rfl):PB X "tuple.index" (λx xs H Q=>∃(p:AD)(ys:List AG)(z:AG)(j:Nat),x=.ref p/\xs=[.str z]/\Cb K H p (ys.map AE.str)/\ys[j]?=AA z/\(∀m,m<j->ys[m]?≠AA z)/\Q (.int (j:Int)) H):=by
 subst P;intro M s w H x xs v r Q I k g h;lk;obtain⟨p,ys,z,j,rfl,rfl,d,G,b,q⟩:=h;cases k;obtain⟨u,rfl,t,rfl⟩:=Ip g;obtain⟨D,E,e,o⟩:=I.gf d;obtain⟨⟨c,N,O,l⟩,L,Z,n,A⟩:=e;k_in;have Z:c=.type "tuple":=Z;have A:O=.seq D.toArray n:=A;subst Z A;have T:=E.ar;rw[BB]at T;have B:j<ys.length:=(by grind);have R:∀y,y∈D.toArray->MeetsSeq.EqGives y (.str z t) (aQ z y):=λy f=>by obtain⟨i,S,rfl⟩:=G8.mp (by simpa using f);obtain⟨Y,J⟩:=aR E (Cr (by simp_all:i<ys.length));rw[Cr S]at J;rw[Bz J];exact ADB _ _ _ _
 have U:∀m(W:m<D.toArray.size),∃Y,D.toArray[m]=.str (ys[m]'(by simp at W;simp_all)) Y:=λm W=>by
  have C:m<ys.length:=by simp at W;simp_all
  obtain⟨Y,J⟩:=aR E (Cr C);grind
 refine QI ADh ⟨_,L,rfl⟩ F.entry_tuple_index (by rfl) (zM p D.toArray n N l (.str z t) (aQ z) R j (by simp;simp_all) ?_ ?_) ⟨L,⟨.int (j:Int),H,I.ig _,⟨_,rfl⟩,q⟩⟩
 . obtain⟨Y,J⟩:=U j (by simp;simp_all);rw[J];rw[Cr B]at G;show(ys[j]==z)=AJ;(simpa using G)
 . intro m W a;obtain⟨Y,J⟩:=U m W;rw[J];show(ys[m]==z)=AQ;grind
theorem uM{c A B:Prop}[Decidable c](D:c)(h:A):if Ae c=AJ then A else B:=by rw[AFk D];exact Fd h
theorem uN{c A B:Prop}[Decidable c](D:¬c)(h:B):if Ae c=AJ then A else B:=by rw[AFl D];exact Ce h
structure Ll(K:Aq)(C:AD):Prop where
 ga:IJ K (.ref C) "__getattribute__"=AA (AA (.builtin "BaseException.__getattribute__"))gt:IJ K (.ref C) "__getattr__"=AA AF
 ck:IJ K (.ref C) "__class__"=AA (AA (.builtin "object.__class__"))sb:d6 K (.ref C) (.type "BaseException")=AA AJ
 so:d6 K (.ref C) (.type "object")=AA AJ
 cl:(dR K C).isSome=AJ
theorem tZ(J:h.get? a=AA o)(D:o.cls=.ref C):QC (An prog w) h (OP (.ref a)) (.ref C):=by rw[<-D];exact(dP J).andThen .now
theorem tY{K:Aq}(X:Ll K C)(J:K.In h)(V:h.get? a=AA o)(U:o.cls=.ref C)(Z:R (.ok (.ret (.ref C))) ⟨h,g,d,t,W⟩):NI (An prog w) A (.call (.builtin "getset_descriptor.__get__") ⟨[.builtin "object.__class__",.ref a,.ref C],[]⟩) R ⟨h,g,d,t,W⟩:=by
 have D:(⟨h,g,d,t,W⟩:AV).TypeIs (.builtin "object.__class__") "getset_descriptor":=AA1;have Y:QC (An prog w) h (isSubtype (.ref C) (.type (".".intercalate ("object.__class__".cutAt '.').dropLast))) AJ:=by rw[F.owner_object_class];exact AEB J X.so
 refine AEM AAy.plain F.entry_gs_get ?_;refine AAy.check _ _ _ _ _ _ _ _ D (F.args_gs_get _ _ _) ?_;repeat(any_goals(first|assumption|(with_reducible refine eR V ?_;rw[U])|with_reducible refine Y.at ?_|wp_step))
 refine⟨Code.quiet_builtin _ (by decide+kernel),ABR F.entry_object_class ?_⟩;repeat(any_goals(first|assumption|(with_reducible refine eR V ?_;rw[U])|wp_step))
theorem tX{K:Aq}(X:Ll K C)(D:K.In h)(U:h.get? a=AA o)(J:o.cls=.ref C)(z:Q (.done (.ret (.ref C))) ⟨h,g,d,t,V⟩):As (An prog w) A (Builtin.«object.__getattribute__» ⟨[.ref a,.str "__class__" Z],[]⟩) Q E ⟨h,g,d,t,V⟩:=by
 have Y:(⟨h,g,d,t,V⟩:AV).TypeIs (.builtin "object.__class__") "getset_descriptor":=AA1;have B:=AA1;have G:=AAy.lookup;have H:=F.slot_gs_set.lookup;have W:=ABH (M:=An prog w) D X.ck;repeat(any_goals(first|assumption|(with_reducible refine eR U ?_;rw[J])|with_reducible refine W.at ?_|wp_step))
 refine tY X D U J ?_;repeat(any_goals(first|assumption|wp_step))
theorem tV{K:Aq}(X:Ll K C)(J:K.In h)(Y:h.get? a=AA o)(V:o.cls=.ref C)(W:Q () ⟨h,g,d,t,B⟩):As M A (AEL "BaseException.__getattribute__" ⟨[.ref a,D],[]⟩) Q E ⟨h,g,d,t,B⟩:=by
 have Z:builtinKind "BaseException.__getattribute__"=AA .slot:=by decide+kernel
 have z:splitId "BaseException.__getattribute__"=AA ("BaseException","__getattribute__"):=by decide+kernel
 have U:QC M h (isSubtype (.ref C) (.type "BaseException")) AJ:=AEB J X.sb;have G:=F.args_bexc_ga (.ref a) D;simp only[AEL,Z,z];refine BL ?_;unfold isInstance;repeat(first|(with_reducible refine eR Y ?_;rw[V])|with_reducible refine U.at ?_|wp_step)
 exact W
theorem tW{K:Aq}{os:OsState}(X:Ll K C)(kin:K.In h)(hx:h.get? a=AA o)(hc:o.cls=.ref C)(hq:Q (.ref C) ⟨h,g,d,t,os⟩):As (An prog w) A (getAttrBy (.ref a) (.str "__class__" tk) AQ) Q E ⟨h,g,d,t,os⟩:=by have L0:QC (An prog w) h (OP (.ref a)) (.ref C):=tZ hx hc;have L1:=ABH (M:=An prog w) kin X.ga;have LH:QC (An prog w) h (hookBefore (.ref C)) AF:=W.looks_hook kin (by rw[AFi (show onTheHeap (DV C)=AJ from rfl)];exact X.gt);have f3:=ADV.ga.bind (.ref a);unfold getAttrBy;refine QO (BL (L0.at (BL (L1.at ?_))));show As _ _ (AEQ (.ref a) (.str "__class__" tk) (.ref C) (.builtin "BaseException.__getattribute__") AQ AQ) _ _ _;unfold AEQ;refine BL (LH.at (BL (ABe (QO ?_))));show As _ _ (AEI (.builtin "BaseException.__getattribute__") (.ref a) (.str "__class__" tk)) _ _ _;unfold AEI;rw[f3];refine BL (Cn (WC ?_));refine AEM ADV.ga.plain F.entry_bexc_ga (tV X kin hx hc (tX X kin hx hc ?_));exact Cn hq
section
variable{prog:CN}{w:Bu}{A:Ck}{E:AK->AV->Prop}{K:Aq}{h:BJ}{g:Array GenState}{d:Drawn}{t:Nat}{os:OsState}{a C:AD}{o:BC}
set_option tactic.hygienic true in theorem vC(X:Ll K C):W.KitX K (.ref a) (.ref C) (λh=>∃o,h.get? a=AA o/\o.cls=.ref C)where
 ty:=λ_ _ _⟨o,Y,U⟩=>by rw[<-U];exact(dP Y).andThen .now
 it:=λM h J _=>by
  obtain⟨cd,D⟩:=Vq.mp X.cl;unfold dR at D;split at D;. rename_i V;intro F G E' s' k q;unfold isType loadHead;exact BL (AEc (k _ _ (J _ _ V)) (Cn q))
  .cases D
 ne:=λh B dd Z n sl J W=>by
  obtain⟨cd,D⟩:=Vq.mp X.cl;refine AB5.mpr λq=>?_;have e:C=B:=AFc (AFs.mp q);subst e;unfold dR at D;split at D
  . rename_i V;have z:=(J _ _ V).symm.trans W;cases z
  .cases D
 ca:=λ{prog w A E Q s}J⟨o,Y,U⟩k=>by lk;obtain⟨h,g,d,t,os⟩:=s;k_in;unfold getAttr? getAttrBy?;repeat(any_goals(first|assumption|with_reducible apply tW X J Y U|wp_step))
end
noncomputable def tF:AE->Option AK|.ref p=>AA (.ref p)|.ty n=>AA (.type n)|_=>AF
theorem Mp{K:Aq}(C:X.K=K:=by rfl):Ez X (.builtin "isinstance") (λxs H Q=>∃(e D:AD)(dd:Option AD)(c:AE)(W:AK)(b:Bool),xs=[.ref e,c]/\tF c=AA W/\H e=AA (UP e (.ref D) dd)/\Ll K D/\MO K (.ref D) W=AA b/\Q (.bl b) H):=by
 subst C;intro A s N H xs M Q I r h;lk;obtain⟨e,D,dd,c,W,b,rfl,Z,E,B,F,q⟩:=h;obtain⟨u,u2,rfl,G,U⟩:=R6 r;cases G;k_in;have Y:u2=W:=by cases c with |ref p=>exact(show u2=DV p from U).trans (Bz Z)|ty n=>exact(show u2=dN n from U).trans (Bz Z)|_=>cases Z
 subst Y;have J:∃o,s.heap.get? e=AA o/\o.cls=.ref D:=(I.cp e _ E).1.imp λo z=>⟨z.1,z.2.1⟩;exact Kl (vC B) I.nq J F (by intro z;cases z) λL=>⟨.bl b,H,I.ig L,rfl,q⟩
theorem Ah.vh(e:Ah H H')(h:H b=AF):Ah H (AO H' b o):=λc u q=>by rw[AW (BE q h)];exact e c u q
theorem yJ{a b:AG}(h:a.cps.toList=b.cps.toList):a=b:=by cases a;simp_all
theorem Pg{F:U->V->Prop}(h:BW F D J):∀{i:Nat}{a:U}{b:V},D[i]?=AA a->J[i]?=AA b->F a b:=by induction h with|nil=>intro i a b h;cases h|cons r _ Z=>intro i a b W Y;cases i with|zero=>cases W;cases Y;exact r|succ i=>exact Z W Y
theorem Uv(h:L3 k v=AJ):Bn (Au k) v:=by
 rcases KR h with⟨i,t,rfl,rfl⟩|⟨x,t,rfl,rfl⟩;.exact⟨t,rfl⟩
 .exact⟨t,rfl⟩
theorem ZY(J:Fb kvs vs)(Z:D.length=vs.length)(h:∀(j:Nat)(v:AK),D[j]?=AA v->∃(k:AL)(x:AK),vs[j]?=AA (k,x)/\L3 k v=AJ):Bb (kvs.map λp=>Au p.1) D:=by
 refine G0 ?_ ?_;.rw[BB,Z];exact Iw J
 . intro i a b U W;lk;obtain⟨k,x,A,Y⟩:=h i b W;rw[CD]at U;obtain⟨p,z,rfl⟩:=EI.mp U;k_in;have q:=Pg J z A;rw[q.1];exact Uv Y
theorem Ub{K:Aq}(F:X.ic=AJ):Ez X (.type "list") (λxs H Q=>∃(a:AD)(kvs:List (AL×AE)),xs=[.ref a]/\H a=AA (.dK kvs)/\∀l,H l=AF->Q (.ref l) (AO H l (.lst (kvs.map λp=>Au p.1)))):=by intro Y s T H xs R Q I r h;lk;obtain⟨a,kvs,rfl,e,q⟩:=h;obtain⟨u,rfl,N⟩:=Ip r;cases N;obtain⟨z,M,S,D,B⟩:=PN I.cp e;obtain⟨O,J⟩:=B.dictAt;k_in;have U:=Iw D;refine W.kdl_call (AD8 M) (I.ok.hd F) J (by simp_all) λE P Z A L C W=>?_;refine⟨.ref _,_,I.nu L (Al _) (show DL _ _ _ E _ (.lst _)from⟨by rw[BB];exact z,_,A,?_,by simpa using C⟩),rfl,q _ (I.cp.bw (Al _))⟩;exact ZY D (by exact W.1) λj v G=>W.2 j v (by rw[<-OV];exact G)
theorem xB{K:CV}(F:List (AG×Nat))(c:X.N.Nodup)(M:X.N[i]?=AA y)(O:K0 X.af.scope y)(R:X.ic=AJ)(hi:GS X (.Tuple [.Name x Q,.Name W E] P U) J wi)(h:X.af.scope=osc)(g:D.kind=.function)(z:∀y∈D.names,y.2≠.cell)(V:∀y∈D.names,y.2=.local->D.names.lookup y.1=AA .local)(A:∀y∈D.names,y.2=.free->osc.names.lookup y.1=AA .cell\/osc.names.lookup y.1=AA .free)(L:KL X D F)(S:D.names.lookup x=AA .local)(I:D.names.lookup W=AA .local)(G:(x::W::F.map (·.1)).Nodup)(k:∀C s H ex,KO (Dr X D (x::W::F.map (·.1)) C s H ex) B b)(d:∀C s H ex,Ao (Dr X D (x::W::F.map (·.1)) C s H ex) Z a)(N:MP (.ListComp Z [⟨.Tuple [.Name x Q,.Name W E] P U,J,B,0⟩] D K) (AA (.Name y T)) Y.line X.af=Bf AJ:=by rfl)(f:X.fn y=AJ\/X.af.scope.names.lookup y=AA .local:=by first|exact .inl rfl|exact .inr rfl|assumption)(j:∀x,NJ J X.af x=Bf x:=by intro _;rfl):D6 X (.Assign [.Name y T] (.ListComp Z [⟨.Tuple [.Name x Q,.Name W E] P U,J,B,0⟩] D K) Y) (Pw (L9 2 (F.map (·.2)) wi (Ra X.K 2 (PX (Gx 0) (PX (Gx 1) Uo))) b a) (Gx i)):=Z5 (own:=[x,W]) c M O f R hi g z V (λy l e=>by show X.af.scope.names.lookup y.1=_\/X.af.scope.names.lookup y.1=_;rw[h];exact A y l e) L (λC s H ex=>VH (show(Dr X D (x::W::F.map (λp:AG×Nat=>p.1)) C s H ex).ic=AJ from R) (G1 (Il (i:=0) G rfl (.inl (Km S)) (.inr (Km S))) (G1 (Il (i:=1) G rfl (.inl (Km I)) (.inr (Km I))) L8))) k d N j
theorem C7{a b:Int}{A B:Prop}(D:a=b->A)(J:¬a=b->B):if Ae (AE.int a=AE.int b)=AJ then A else B:=K8 (λe=>D (AE.int.inj (AFm e))) λe=>J λz=>AFp e (AFj _ z)
theorem Rc{A B:Prop}(D:a=b->A)(J:¬a=b->B):if Ae (AE.str a=AE.str b)=AJ then A else B:=K8 (λe=>D (AE.str.inj (AFm e))) λe=>J λz=>AFp e (AFj _ z)
theorem GU{c:Prop}[Decidable c]{A B:Prop}(D:c->A)(J:¬c->B):if Ae c=AJ then A else B:=(by simp_all)
theorem Lx{c:Bool}{A B:Prop}(h:if c=AJ then B else A):if(!c)=AJ then A else B:=by
 cases c;.exact h
 .exact h
def aV(t:Cw):Cw:=λD V H=>Ft (λ(N:Ai->AI->Prop)=>t {D with nx:=N} V H) (λN=>∀J U,N J U->D.nx J U)
set_option tactic.hygienic true in theorem Jt{X:Be}{st:Cj}{t:Cw}(h:D6 X st t):D6 X st (aV t):=λpins s σ H D I⟨N,q,k⟩=>by refine A1 (h _ s σ H _ I q) λf s' z=>?_;cases f with|next=>obtain⟨J,H',U,n⟩:=z;exact⟨J,H',U,k _ _ n⟩|brk=>exact z|cont=>exact z|ret u=>exact z
theorem Jp(N:Ai->AI->Prop)(h:t {D with nx:=N} U H)(k:∀J H',N J H'->D.nx J H'):aV t D U H:=⟨N,h,k⟩
theorem CB(h:H a=AF):Ah H (AO H a o):=(CA H).gu h
structure F4(prog:CN)(w:Bu)(A:Ck)(s:AV)(κ:OJ)(O:Vu)(kf:AK->O.α)(a₀:Array BA):Prop where aeq:∀p∈a₀.toList,∀q∈a₀.toList,∀(Q:Bool->AV->Prop)(E:AK->AV->Prop),Q (O.blt (kf p.1) (kf q.1)) s->As (An prog w) A (keyLt' κ p.1 q.1) Q E s
structure Cm(κ:OJ)(a₀:Array BA)(st:Ci):Prop where
 nv:(Am st).Perm a₀
 jf:cQ st=κ
 mz:ND st=AF
noncomputable def BS{O:Vu}(kf:AK->O.α)(xs:Array BA)(i:Nat):O.α:=kf ((xs[i]?.map (·.1)).getD .none)
def DY{O:Vu}(kf:AK->O.α)(xs:Array BA)(lo hi:Nat):Prop:=∀i j,lo<=i->i<=j->j<hi->O.kle (BS kf xs i) (BS kf xs j)
theorem Gn{O:Vu}{kf:AK->O.α}{xs ys:Array BA}{i j:Nat}(h:xs[i]?=ys[j]?):BS kf xs i=BS kf ys j:=by unfold BS;rw[h]
theorem Cm.yh{D:Array BA}{st:Ci}(B:Cm J D st):(Am st).size=D.size:=B.nv.size_eq
theorem Cm.ny{st:Ci}(B:Cm J D st){xs:Array BA}(h:xs.Perm (Am st)):Cm J D (P7 st xs):=⟨h.trans B.nv,B.jf,B.mz⟩
theorem Cm.at{U:OJ}{O:Vu}{kf:AK->O.α}{D:Array BA}{st:Ci}(B:Cm U D st){i:Nat}(hi:i<D.size):∃p,(Am st)[i]?=AA p/\p∈D.toList/\BS kf (Am st) i=kf p.1:=by
 have J:i<(Am st).size:=by rw[B.yh];exact hi
 refine⟨(Am st)[i],(by simp),(Sm.mp B.nv).mem_iff.mp (by simp),?_⟩;unfold BS;simp_all
theorem QW{prog:CN}{w:Bu}{A:Ck}{E:AK->AV->Prop}{s:AV}{V:OJ}{O:Vu}{kf:AK->O.α}{D:Array BA}{st:Ci}(C:F4 prog w A s V O kf D)(B:Cm V D st){p q:BA}(J:p∈D.toList)(U:q∈D.toList){Q:Option Bool->Ci->Prop}(h:Q (AA (O.blt (kf p.1) (kf q.1))) st):Ex (An prog w) A E s (lt' p q) Q st:=by rw[lt'_eq];refine BH (ML ?_);rw[B.jf];exact BH (P8 (ABe (C.aeq p J q U _ _ ⟨rfl,BX h⟩)))
theorem QX{prog:CN}{w:Bu}{A:Ck}{E:AK->AV->Prop}{s:AV}{F:OJ}{O:Vu}{kf:AK->O.α}{D:Array BA}{st:Ci}(C:F4 prog w A s F O kf D)(B:Cm F D st){i j:Nat}(hi:i<D.size)(V:j<D.size){Q:Option Bool->Ci->Prop}(h:Q (AA (O.blt (BS kf (Am st) i) (BS kf (Am st) j))) st):Ex (An prog w) A E s (MK i j) Q st:=by lk;obtain⟨p,J,Z,W⟩:=B.at hi;obtain⟨q,U,z,Y⟩:=B.at V;k_in;rw[W,Y]at h;show Ex _ _ _ _ (Vx _ i>>=λx=>Vx _ j>>=λy=>lt' x y) Q st;rw[AAl,AAl,J,U];exact BH (BX (BH (BX (QW C B Z z h))))
theorem WE{O:Vu}{kf:AK->O.α}{xs:Array BA}{i j:Nat}(D:j<=xs.size)(k:Nat):BS kf (cU xs i j ((j-i)/2)) k=if i<=k/\k<j then BS kf xs (i+j-1-k)else BS kf xs k:=by
 have e:=ADD (i:=i) D k;by_cases h:i<=k/\k<j;.rw[AFi h]at e⊢;exact Gn e
 .rw[AFh h]at e⊢;exact Gn e
theorem eY{O:Vu}{kf:AK->O.α}{xs:Array BA}{D d:Nat}(W:D<xs.size)(V:d<=D)(k:Nat):BS kf (bubble xs D d) k=if k=D-d then BS kf xs D else if D-d<k/\k<=D then BS kf xs (k-1)else BS kf xs k:=by
  have e:=ADC W d V k;by_cases J:k=D-d;.rw[AFi J]at e⊢;exact Gn e
  . rw[AFh J]at e⊢;by_cases U:D-d<k/\k<=D;.rw[AFi U]at e⊢;exact Gn e
    .rw[AFh U]at e⊢;exact Gn e
section
variable{st:Ci}
structure Iz(lo:Nat)(st st':Ci):Prop where
 zi:CG st'=CG st
 adw:∀k,k<lo->(Am st')[k]?=(Am st)[k]?
end
theorem Sh(lo:Nat)(st:Ci):Iz lo st st:=⟨rfl,λ_ _=>rfl⟩
theorem Iz.aa{lo:Nat}(x:Iz lo a b)(y:Iz lo b c):Iz lo a c:=⟨y.zi.trans x.zi,λk h=>(y.adw k h).trans (x.adw k h)⟩
theorem ABr{U:Array BA}{st:Ci}(C:F4 prog w A s T O kf U){lo:Nat}(d:lo+n<=U.size)(y:R<=n)(B:Cm T U st)(hs:DY kf (Am st) lo (lo+R))(h:∀D,Cm T U D->Iz lo st D->DY kf (Am D) lo (lo+n)->Q AJ D):Ex (An prog w) A E s (binarySort' lo n R) Q st:=by
  rw[binarySort'_eq];refine BH (Iu (IF (I:=λk c D=>c=(AF,())/\Cm T U D/\Iz lo st D/\DY kf (Am D) lo (lo+Ds k n)) (Q:=λc D=>c=(AF,())/\Cm T U D/\Iz lo st D/\DY kf (Am D) lo (lo+n)) ?jx ?fin ?adb) ?post);case post=> intro c D Z;lk;obtain⟨rfl,L,X,u⟩:=Z;k_in;exact BX (h D L X u)
  case adb=>
    refine⟨rfl,B,Sh _ _,λi j Y W M=>?_⟩;by_cases z:R=0
    . obtain rfl:i=j:=by lia
      exact NB _
    .exact hs i j Y W (by lia)
  case fin=>grind
  case jx=>
    intro k c D v V Z;lk;obtain⟨rfl,L,X,u⟩:=Z;k_in;rw[show Ds k n=k by exact Vm (B7 V)]at u;refine BH (Iu (IF (I:=λx c J=>J=D/\∃l r,c=(AF,l,r)/\l<=r/\r<=k/\r+x<=k+l/\(∀i,i<l->O.kle (BS kf (Am D) (lo+i)) (BS kf (Am D) (lo+k)))/\(∀i,r<=i->i<k->O.klt (BS kf (Am D) (lo+k)) (BS kf (Am D) (lo+i)))) (Q:=λc J=>J=D/\∃l r,c=(AF,l,r)/\l<=k/\(∀i,i<l->O.kle (BS kf (Am D) (lo+i)) (BS kf (Am D) (lo+k)))/\(∀i,l<=i->i<k->O.klt (BS kf (Am D) (lo+k)) (BS kf (Am D) (lo+i)))) ?i1 ?i2 ?i3) ?i4);case i3=>exact⟨rfl,0,k,rfl,Bd _,Al _,Al _,λ_ h=>absurd h (MH _),λ_ Y W=>absurd W (Nat.not_lt_of_le Y)⟩
    case i2=> intro c J Z;lk;obtain⟨rfl,l,r,rfl,Y,W,M,H,K⟩:=Z;rw[AC0 (Bd _),SH]at M;obtain rfl:l=r:=Fh Y (ACx M);k_in;exact⟨rfl,l,l,rfl,W,H,K⟩
    case i1=>
      intro x c J _ hx Z;lk;obtain⟨rfl,l,r,rfl,Y,W,M,H,K⟩:=Z;k_in;dsimp only;by_cases g:l>=r
      . rw[AFi g];obtain rfl:l=r:=Fh Y g;exact BX ⟨rfl,l,l,rfl,W,H,K⟩
      . rw[AFh g];have f:l<=(l+r)/2:=by lia
        have P:(l+r)/2<r:=by lia
        have o:=OF (Bc P W) lo;refine BH (QX C L (Bc (OF V _) d) (Bc o (Ak (Fg (B7 V) _) d)) ?_);generalize(l+r)/2=m at f P o⊢;cases e:O.blt (BS kf (Am J) (lo+k)) (BS kf (Am J) (lo+m))with |true=> refine BX ⟨rfl,l,m,rfl,f,Ak (B7 P) W,by lia,H,λi S t=>?_⟩;exact KeyOrd.klt_of_klt_of_kle e (u _ _ (P1 _ _) (Fg S _) (OF t _))|false=>refine BX ⟨rfl,m+1,r,rfl,P,W,cK (Ak M (Fg f _)),λi S=>?_,K⟩;exact HY (u (lo+i) (lo+m) (P1 _ _) (Fg (EM S) _) o) (show O.kle _ _ from e)
    case i4=>
      intro c J Z;lk;obtain⟨rfl,l,r,rfl,Y,H,K⟩:=Z;k_in;show Ex _ _ _ _ (moveDown' (lo+k) (lo+l)>>=λ_=>Bf (Sq (AF,()))) _ _;rw[moveDown'_eq];have F:lo+k<(Am J).size:=by rw[L.yh];exact Bc (OF V _) d
      have a:lo+k-(lo+l)<=lo+k:=AAc _ _;have q:lo+k-(lo+k-(lo+l))=lo+l:=cJ (Fg Y lo);refine BH (Jy (BX ⟨rfl,L.ny (bubble_perm _ _ _),X.aa ⟨rfl,λz hz=>?_⟩,?_⟩));.rw[ADC F _ a,q,AFh (by lia),AFh (by lia)]
      . rw[show Ds (k+1) n=k+1 by exact Vm V];intro i j S t q3;rw[eY F a,eY F a,q];have N:∀z,lo<=z->z<lo+l->O.kle (BS kf (Am J) z) (BS kf (Am J) (lo+k)):=λz G p=>by have:=H (z-lo) ((SK G).mpr p);rwa[Iq G]at this
        have b:∀z,lo+l<=z->z<lo+k->O.klt (BS kf (Am J) (lo+k)) (BS kf (Am J) z):=λz G p=>by have:=K (z-lo) ((ME (D8 G)).mpr G) ((SK (D8 G)).mpr p);rwa[show lo+(z-lo)=z by exact Iq (D8 G)]at this
        repeat' split
        all_goals first |(exfalso;lia)|exact NB _|exact N _ (by lia) (by lia)|exact Kh (b _ (by lia) (by lia))|exact u _ _ (by lia) (by lia) (by lia)
theorem DY.jm{O:Vu}{kf:AK->O.α}{xs:Array BA}{lo n:Nat}(u:DY kf xs lo (lo+n))(V:1<=n)(h:O.kle (BS kf xs (lo+n-1)) (BS kf xs (lo+n))):DY kf xs lo (lo+(n+1)):=λi j D J W=>by
  by_cases z:j=lo+n
  . subst z;by_cases U:i=lo+n;.subst U;exact NB _
    .exact HY (u i _ D (ACy (Dk J U)) ((AAW (AAX _ V)).mp (Al _))) h
  .exact u i j D J (Dk (b9 W) z)
def OS{O:Vu}(kf:AK->O.α)(xs:Array BA)(lo hi:Nat):Prop:=∀i j,lo<=i->i<=j->j<hi->O.kle (BS kf xs j) (BS kf xs i)
theorem OS.jm{O:Vu}{kf:AK->O.α}{xs:Array BA}{lo n:Nat}(u:OS kf xs lo (lo+n))(V:1<=n)(h:O.kle (BS kf xs (lo+n)) (BS kf xs (lo+n-1))):OS kf xs lo (lo+(n+1)):=λi j D J W=>by
  by_cases z:j=lo+n
  . subst z;by_cases U:i=lo+n;.subst U;exact NB _
    .exact HY h (u i _ D (ACy (Dk J U)) ((AAW (AAX _ V)).mp (Al _)))
  .exact u i j D J (Dk (b9 W) z)
theorem Sj{D:Array BA}{st:Ci}(B:Cm W D st){lo:Nat}(hi:lo<=i)(J:j<=D.size):Cm W D (P7 st (cU (Am st) i j ((j-i)/2)))/\Iz lo st (P7 st (cU (Am st) i j ((j-i)/2))):=by refine⟨B.ny (mirror_perm _ _ _ _),rfl,λk U=>?_⟩;rw[ADD (by rw[B.yh];exact J),AFh (λV=>AC1 hi (HX V.1 U))]
theorem Sk{U:OJ}{O:Vu}{kf:AK->O.α}{D:Array BA}{st:Ci}(B:Cm U D st){i j:Nat}(J:j<=D.size)(h:∀k,i<=k->k<j->BS kf (Am st) k=BS kf (Am st) (j-1))(k:Nat):BS kf (cU (Am st) i j ((j-i)/2)) k=BS kf (Am st) k:=by rw[WE (by rw[B.yh];exact J)];grind
theorem fH{prog:CN}{w:Bu}{A:Ck}{E:AK->AV->Prop}{s:AV}{L:OJ}{O:Vu}{kf:AK->O.α}{J:Array BA}{st:Ci}(C:F4 prog w A s L O kf J){lo D n0:Nat}(K:lo+D<=J.size)(Z:1<=n0)(M:n0<=D)(B:Cm L J st)(u:DY kf (Am st) lo (lo+n0)){Q:Option (Option Nat)×Nat->Ci->Prop}(h:∀n,n0<=n->n<=D->DY kf (Am st) lo (lo+n)->(n<D->O.klt (BS kf (Am st) (lo+n)) (BS kf (Am st) (lo+n-1)))->Q (AF,n) st){f:Nat->Option (Option Nat)×Nat->StateT Ci DP (ForInStep (Option (Option Nat)×Nat))}(H:∀x c,f x c=(do match(<-MK (lo+c.2) (lo+c.2-1))with|AA b=>if b=AJ then Bf (.done (AF,c.2))else Bf (.yield (AF,c.2+1))|AF=>Bf (.done (AA AF,c.2)))):Ex (An prog w) A E s (IM [n0:D] (AF,n0) f) Q st:=by
 refine IF (I:=λx c V=>V=st/\c=(AF,x)/\n0<=x/\x<=D/\DY kf (Am st) lo (lo+x)) ?_ ?_ (by simp_all)
 . intro x c V U W G;lk;obtain⟨rfl,rfl,z,F,Y⟩:=G;k_in;rw[H];refine BH (QX C B (Bc (OF W _) K) (by lia) ?_);cases e:O.blt _ _ with |true=>exact BX (h x z F Y λ_=>e)|false=>exact BX ⟨rfl,rfl,Kf U,by assumption,Y.jm (Ak Z U) e⟩
 simp_all
abbrev JA:=Option (Option Nat)×Nat
noncomputable def QY(lo:Nat)(c:JA):StateT Ci DP (ForInStep JA):=MK (lo+c.2) (lo+c.2-1)>>=λo=>match o with|AA b=>if b=AJ then Bf (.done (AF,c.2))else Bf (.yield (AF,c.2+1))|_=>Bf (.done (AA AF,c.2))
noncomputable def NK(lo D n:Nat):StateT Ci DP (Option Nat):=NF lo (lo+n)>>=λ_=>IM [n:D] ((AF,n):JA) (λ_ c=>QY lo c)>>=λc=>match c.1 with|AA r=>Bf r|AF=>Bf (AA c.2)
abbrev WD:=Option (Option Nat)×Nat×Nat
noncomputable def eV(lo:Nat)(c:WD):StateT Ci DP (ForInStep WD):=MK (lo+c.2.1) (lo+c.2.1-1)>>=λo=>match o with
 |AA b=>if b=AJ then(if c.2.2>0 then NF (lo+c.2.1-(c.2.2+1)) (lo+c.2.1)>>=λ_=>Bf (.yield (AF,c.2.1+1,0))else Bf (.yield (AF,c.2.1+1,0)))else MK (lo+c.2.1-1) (lo+c.2.1)>>=λJ=>match J with |AA D=>if D=AJ then Bf (.done (AF,c.2.1,c.2.2))else Bf (.yield (AF,c.2.1+1,c.2.2+1))|_=>Bf (.done (AA AF,c.2.1,c.2.2))
 |_=>Bf (.done (AA AF,c.2.1,c.2.2))
noncomputable def Si(lo D n:Nat):StateT Ci DP (Option Nat):=liftM (rule "list.sort.descending-run")>>=λ_=>IM [n+1:D] ((AF,n+1,0):WD) (λ_ c=>eV lo c)>>=λc=>match c.1 with|AA r=>Bf r|AF=>if c.2.2>0 then NF (lo+c.2.1-(c.2.2+1)) (lo+c.2.1)>>=λ_=>NK lo D c.2.1 else NK lo D c.2.1
theorem fJ{J:Array BA}{st:Ci}(C:F4 prog w A s F O kf J){lo:Nat}(W:lo+D<=J.size)(I:1<=n)(V:n<=D)(B:Cm F J st)(H:OS kf (Am st) lo (lo+n))(h:∀m U,Cm F J U->Iz lo st U->1<=m->m<=D->DY kf (Am U) lo (lo+m)->Q (AA m) U):Ex (An prog w) A E s (NK lo D n) Q st:=by
 refine BH (Jy ?_);obtain⟨G,K⟩:=Sj B (Al lo) (by exact Ak (Fg V _) W);have u:DY kf _ lo _:=λi j Z Y z=>by rw[WE (by rw[B.yh];exact Ak (Fg V _) W),WE (by rw[B.yh];exact Ak (Fg V _) W),AFi (⟨Z,HX Y z⟩),AFi (⟨Ak Z Y,z⟩)];exact H _ _ (by omega) (Nat.sub_le_sub_left Y _) (by omega)
 refine BH (fH C W I V G u (λm L M u2 _=>?_) λx c=>AFj (MK _ _>>=.) (by grind));exact BX (by grind)
theorem fE{prog:CN}{w:Bu}{A:Ck}{E:AK->AV->Prop}{s:AV}{S:OJ}{O:Vu}{kf:AK->O.α}{J:Array BA}{st:Ci}(C:F4 prog w A s S O kf J){lo U n:Nat}(Z:lo+U<=J.size)(r:1<=n)(v:n<U)(B:Cm S J st)(q:∀k,lo<=k->k<lo+n->BS kf (Am st) k=BS kf (Am st) (lo+n-1))(y:O.klt (BS kf (Am st) (lo+n)) (BS kf (Am st) (lo+n-1))){Q:Option Nat->Ci->Prop}(h:∀m D,Cm S J D->Iz lo st D->1<=m->m<=U->DY kf (Am D) lo (lo+m)->Q (AA m) D):Ex (An prog w) A E s (Si lo U n) Q st:=by
 unfold Si;refine BH (P8 (QQ ⟨rfl,?_⟩));have f:=OS.jm (λi j F G P=>by rw[q i F (HX G P),q j (Ak F G) P];exact NB _) r (Kh y);refine BH (Iu (IF (I:=λx c D=>∃e,c=(AF,x,e)/\n+1<=x/\x<=U/\e+1<=x/\Cm S J D/\Iz lo st D/\OS kf (Am D) lo (lo+x)/\∀k,lo+x-(e+1)<=k->k<lo+x->BS kf (Am D) k=BS kf (Am D) (lo+x-1)) (Q:=λc D=>∃x e,c=(AF,x,e)/\n+1<=x/\x<=U/\e+1<=x/\Cm S J D/\Iz lo st D/\OS kf (Am D) lo (lo+x)/\∀k,lo+x-(e+1)<=k->k<lo+x->BS kf (Am D) k=BS kf (Am D) (lo+x-1)) ?jx ?fin ?adb) ?post);case adb=>exact⟨0,rfl,Al _,v,Kf r,B,Sh _ _,f,(by grind)⟩
 case fin=>grind
 case jx=> intro x c D R z l;lk;obtain⟨e,rfl,u,K,W,V,L,M,Y⟩:=l;k_in;unfold eV;dsimp only;refine BH (QX C V (Bc (OF z _) Z) (by lia) ?_);cases b:O.blt (BS kf (Am D) (lo+x)) _ with
  |true=>
   dsimp only;rw[AFi rfl];have g:∀o:Array BA,(∀k,BS kf o k=BS kf (Am D) k)->OS kf o lo (lo+(x+1)):=λo t=>by have:=M.jm (SI W) (Kh b);intro i j F G P;rw[t,t];exact this i j F G P
   by_cases N:e>0
   . rw[AFi N,ADJ];refine BH (Jy (BX ?_));obtain⟨T,a⟩:=Sj V (show lo<=lo+x-(e+1)by exact(Vk (AAU W)).mpr (Fg W _)) (show lo+x<=J.size by exact Ak (Fg (B7 z) _) Z);exact⟨0,rfl,Kf R,by assumption,by simp,T,L.aa a,g _ (Sk V (Ak (Fg (B7 z) _) Z) Y),(by grind)⟩
   . rw[AFh N];exact BX (by grind)|false=>dsimp only;refine BH (QX C V (by lia) (Bc (OF z _) Z) ?_);cases p:O.blt _ (BS kf (Am D) (lo+x))with |true=>exact BX ⟨x,e,rfl,u,K,W,V,L,M,Y⟩|false=> have ek:=O.total _ _ p b;refine BX ⟨e+1,rfl,Kf R,by assumption,Jx.mpr W,V,L,M.jm (SI W) p,λk F G=>?_⟩;grind
 case post=>
  intro c D l;lk;obtain⟨x,e,rfl,u,K,W,V,L,M,Y⟩:=l;k_in;dsimp only;by_cases N:e>0
  . rw[AFi N,ADJ];obtain⟨T,a⟩:=Sj V (show lo<=lo+x-(e+1)by exact(Vk (AAU W)).mpr (Fg W _)) (show lo+x<=J.size by exact Ak (Fg K _) Z);refine fJ C Z (cC.mp (MG N W)) K T (λi j F G P=>?_) λm H X d=>h m H X ((L.aa a).aa d);rw[Sk V (Ak (Fg K _) Z) Y,Sk V (Ak (Fg K _) Z) Y];exact M i j F G P
  . rw[AFh N];exact fJ C Z (SI W) K V M λm H X d=>h m H X (L.aa d)
theorem fM{A:Ck}{E:AK->AV->Prop}{s:AV}{M:Kk}{U D:Type}{m J:StateT D DP U}{Q:U->D->Prop}{t:D}(e:J=m)(h:Ex M A E s m Q t):Ex M A E s J Q t:=by simp_all
theorem ABs{U:Array BA}{st:Ci}(C:F4 prog w A s f O kf U){lo:Nat}(H:lo+D<=U.size)(Z:1<=D)(B:Cm f U st)(h:∀n W,Cm f U W->Iz lo st W->1<=n->n<=D->DY kf (Am W) lo (lo+n)->Q (AA n) W):Ex (An prog w) A E s (countRun' lo D) Q st:=by
  have v:DY kf (Am st) lo (lo+1):=λi j F V t=>by obtain rfl:i=j:=Fh V (Ak (EM t) F);exact NB _
  refine BH (fH C H (Al _) Z B v (λn L I u e=>?_) λx c=>AFj (MK _ _>>=.) (funext λo=>by cases o<;>rfl));dsimp only;by_cases J:n=D;. subst J;rw[AFi (beq_self_eq_true n)];exact BX (h n st B (Sh _ _) L I u)
  . rw[AFh (by simpa using J)];by_cases T:n>1
    . rw[AFi T];refine BH (QX C B (Bc (Nat.lt_add_right_iff_pos.mpr Z) H) (by omega) ?_);cases b:O.blt _ _ with |true=>exact BX (h n st B (Sh _ _) L I u)|false=>
        have K:=λk F V=>by refine KeyOrd.kle_antisymm (u k (lo+n-1) F (cB V) (AAe V)) (HY (show O.kle _ _ from b) (u lo k (Al _) F V))
        refine BH ?_;refine Jy ?_;refine fM (m:=Si lo D n) ?same ?_;case same=>exact(by
            refine AFj _ (funext λ_=>congr (AFj _ (AFj (IM _ _) (funext λ_=>funext λc=>?_))) (funext λc=>?_));. refine AFj (MK _ _>>=.) (funext λo=>?_);cases o with|none=>rfl|some b=>cases b with|true=>rfl|false=>exact AFj (MK _ _>>=.) (funext λa=>by cases a<;>rfl)
            . obtain⟨N,P⟩:=c;have t3:∀n,NK lo D n=(NF lo (lo+n)>>=λ_=>IM [n:D] ((AF,n):JA) _>>=λc=>match c.1 with|AA r=>Bf r|AF=>Bf (AA c.2)):=λ_=>rfl;have t4:∀n(X:Nat->JA->StateT Ci DP (ForInStep JA))(Y:JA->StateT Ci DP (Option Nat)),(∀x c,X x c=QY lo c)->(∀c,Y c=match c.1 with|AA r=>Bf r|AF=>Bf (AA c.2))->(NF lo (lo+n)>>=λ_=>IM [n:D] ((AF,n):JA) X>>=Y)=NK lo D n:=λn X Y Z S=>by rw[t3,show X=λ_ c=>QY lo c from funext λx=>funext λc=>Z x c,show Y=_ from funext S]
              cases N with |some r=>rfl|none=>
                by_cases z:P.2>0
                . rw[AFi z,AFi z];refine AFj (NF _ _>>=.) (funext λ_=>?_);exact t4 _ _ _ (λx c=>AFj _ (funext λo=>by cases o<;>rfl)) (λc=>by obtain⟨G,R⟩:=c;cases G<;>rfl)
                . rw[AFh z,AFh z];exact t4 _ _ _ (λx c=>AFj _ (funext λo=>by cases o<;>rfl)) (λc=>by obtain⟨G,R⟩:=c;cases G<;>rfl))
        obtain⟨g,p⟩:=Sj B (Al lo) (by exact Ak (Fg I _) H);have M:=Sk B (i:=lo) (j:=lo+n) (Ak (Fg I _) H) K;refine fE C H L (Dk I J) g (λk F V=>?_) ?_ λm d l q=>h m d l (p.aa q)
        . rw[M,M];exact K k F V
        . rw[M,M];exact e (Dk I J)
    . rw[AFh T];refine fM (m:=Si lo D n) ?same ?_;case same=>exact(by
            refine AFj _ (funext λ_=>congr (AFj _ (AFj (IM _ _) (funext λ_=>funext λc=>?_))) (funext λc=>?_))
            . refine AFj _ (funext λo=>?_);cases o with|none=>rfl|some b=>cases b with|true=>rfl|false=>exact AFj (MK _ _>>=.) (funext λa=>by cases a<;>rfl)
            . obtain⟨N,P⟩:=c;have t3:∀n,NK lo D n=(NF lo (lo+n)>>=λ_=>IM [n:D] ((AF,n):JA) _>>=λc=>match c.1 with|AA r=>Bf r|AF=>Bf (AA c.2)):=λ_=>rfl;have t4:∀n(X:Nat->JA->StateT Ci DP (ForInStep JA))(Y:JA->StateT Ci DP (Option Nat)),(∀x c,X x c=QY lo c)->(∀c,Y c=match c.1 with |AA r=>Bf r|AF=>Bf (AA c.2))->(NF lo (lo+n)>>=λ_=>IM [n:D] ((AF,n):JA) X>>=Y)=NK lo D n:=λn X Y Z S=>by rw[t3,show X=λ_ c=>QY lo c from funext λx=>funext λc=>Z x c,show Y=_ from funext S]
              cases N with |some r=>rfl|none=>
                by_cases z:P.2>0
                . rw[AFi z,AFi z];refine AFj (NF _ _>>=.) (funext λ_=>?_);exact t4 _ _ _ (λx c=>AFj _ (funext λo=>by cases o<;>rfl)) (λc=>by obtain⟨G,R⟩:=c;cases G<;>rfl)
                . rw[AFh z,AFh z];exact t4 _ _ _ (λx c=>AFj _ (funext λo=>by cases o<;>rfl)) (λc=>by obtain⟨G,R⟩:=c;cases G<;>rfl))
      obtain rfl:n=1:=Fh (GV T) L;exact fE C H L (Dk Z J) B (λk F V=>by rw[show k=lo+1-1 by exact AAT F V]) (e (Dk Z J)) h
noncomputable def ABn:Bool->BA->Array BA->Nat->Nat->Nat->StateT Ci DP (Option Nat):=sortPriv%PySem.Builtin.gallop
noncomputable def ABp:Array BA->Array BA->StateT Ci DP (Array BA):=sortPriv%PySem.Builtin.mergeLo
noncomputable def ABo:Array BA->Array BA->StateT Ci DP (Array BA):=sortPriv%PySem.Builtin.mergeHi
theorem Fm{prog:CN}{w:Bu}{A:Ck}{E:AK->AV->Prop}{s:AV}{st:Ci}{D:Array BA}{i:Nat}(hi:i<D.size){Q:BA->Ci->Prop}(h:Q D[i] st):Ex (An prog w) A E s (Vx D i) Q st:=by rw[AAl,AFx _ i hi];exact BX h
noncomputable def Cz{O:Vu}(kf:AK->O.α)(left:Bool)(key:BA)(D:Array BA)(base i:Nat):Bool:=if left=AJ then O.blt (BS kf D (base+i)) (kf key.1)else !O.blt (kf key.1) (BS kf D (base+i))
theorem Dt{O:Vu}{kf:AK->O.α}{D:Array BA}{i:Nat}(hi:i<D.size):BS kf D i=kf D[i].1:=by unfold BS;simp_all
theorem ABq{D:Array BA}{st:Ci}(C:F4 prog w A s Y O kf D)(B:Cm Y D st){J:Array BA}(U:key∈D.toList)(W:∀p∈J.toList,p∈D.toList)(hi:base+i<J.size)(h:Q (AA (Cz kf left key J base i)) st):Ex (An prog w) A E s (Vx J (base+i)>>=λx=>if left=AJ then lt' x key else lt' key x>>=λo=>Bf (o.map λb=>!b)) Q st:=by refine BH (Fm hi ?_);have V:J[base+i]∈D.toList:=W _ (by simp);unfold Cz at h;rw[Dt hi]at h;cases left with|true=>exact QW C B V U h|false=>exact BH (QW C B U V (BX h))
theorem ABl{O:Vu}{kf:AK->O.α}{left:Bool}{key:BA}{D:Array BA}{base n i j:Nat}(u:DY kf D base (base+n))(U:i<=j)(V:j<n)(h:Cz kf left key D base j=AJ):Cz kf left key D base i=AJ:=by have J:=u (base+i) (base+j) (by simp) (by simp_all) (by simp_all);unfold Cz at h⊢;cases left with |true=>exact AC5 J h|false=>
 have h:O.kle (BS kf D (base+j)) (kf key.1):=by exact Bool.not_inj h
 have:O.blt _ _=AQ:=HY J h;simp_all
theorem OU{F:Array BA}{st:Ci}(C:F4 prog w A s κ O kf F)(B:Cm κ F st){D:Array BA}(hk:key∈F.toList)(ha:∀p∈D.toList,p∈F.toList)(L:base+n<=D.size)(H:hint<n)(u:DY kf D base (base+n))(h:∀k,k<=n->(∀i,i<k->Cz kf left key D base i=AJ)->(∀i,k<=i->i<n->Cz kf left key D base i=AQ)->Q (AA k) st):Ex (An prog w) A E s (ABn left key D base n hint) Q st:=by
  have T:∀{i:Nat}{Q:Option Bool->Ci->Prop},i<n->Q (AA (Cz kf left key D base i)) st->Ex (An prog w) A E s _ Q st:=λK q=>ABq C B hk ha (Bc (OF K _) L) q;have M:∀i j,i<=j->j<n->Cz kf left key D base j=AJ->Cz kf left key D base i=AJ:=λi j V U Z=>ABl u V U Z;refine BH (T H ?_);have fin:∀P K,P<=K->K<=n->(∀i,i<P->Cz kf left key D base i=AJ)->(∀i,K<=i->i<n->Cz kf left key D base i=AQ)->∀{f:Nat->Option (Option Nat)×Nat×Nat->StateT Ci DP (ForInStep (Option (Option Nat)×Nat×Nat))}{g:Option (Option Nat)×Nat×Nat->StateT Ci DP (Option Nat)},(∀x c,f x c=if c.2.1>=c.2.2 then Bf (.done (AF,c.2.1,c.2.2))else(Vx D (base+(c.2.1+(c.2.2-c.2.1)/2))>>=λx=>if left=AJ then lt' x key else lt' key x>>=λo=>Bf (o.map λb=>!b))>>=λo=>match o with|AA b=>if b=AJ then Bf (.yield (AF,c.2.1+(c.2.2-c.2.1)/2+1,c.2.2))else Bf (.yield (AF,c.2.1,c.2.1+(c.2.2-c.2.1)/2))|AF=>Bf (.done (AA AF,c.2.1,c.2.2)))->(∀c,g (AF,c)=Bf (AA c.2))->Ex (An prog w) A E s (IM [:n] ((AF,P,K):Option (Option Nat)×Nat×Nat) f>>=g) Q st:=by
    intro P K d X h3 h4 f g hf hg;refine BH (Iu (IF (I:=λx c J=>J=st/\∃l r,c=(AF,l,r)/\l<=r/\r<=n/\r+x<=n+l/\(∀i,i<l->Cz kf left key D base i=AJ)/\(∀i,r<=i->i<n->Cz kf left key D base i=AQ)) (Q:=λc J=>J=st/\∃l,c=(AF,l,l)/\l<=n/\(∀i,i<l->Cz kf left key D base i=AJ)/\(∀i,l<=i->i<n->Cz kf left key D base i=AQ)) ?_ ?_ ⟨rfl,P,K,rfl,d,X,Ak X (P1 _ _),h3,h4⟩) ?_)
    . rintro x c J _ t⟨rfl,l,r,rfl,V,U,Z,W,Y⟩;rw[hf];dsimp only;by_cases g:l>=r;. rw[AFi g];obtain rfl:l=r:=Fh V g;exact BX ⟨rfl,l,rfl,U,W,Y⟩
      . rw[AFh g];have v:l<=l+(r-l)/2:=P1 _ _;have R:l+(r-l)/2<r:=by(clear Z U V t X d H L;lia)
        refine BH (T (Bc R U) ?_);generalize l+(r-l)/2=m at v R⊢;cases e:Cz kf left key D base m with |true=>exact BX ⟨rfl,_,r,rfl,R,U,cK (Ak Z (Fg v _)),λi z=>M i _ (EM z) (Bc R U) e,Y⟩|false=>exact BX ⟨rfl,l,_,rfl,v,Ak (B7 R) U,by(clear U V X d H L;lia),W,λi y S=>by cases z:Cz kf left key D base i with|false=>rfl|true=>rw[M _ i y S z]at e;cases e⟩
    . rintro c J⟨rfl,l,r,rfl,V,U,Z,W,Y⟩;rw[AC0 (Bd _),SH]at Z;obtain rfl:l=r:=Fh V (ACx Z);exact⟨rfl,l,rfl,U,W,Y⟩
    . rintro c J⟨rfl,l,rfl,U,W,Y⟩;rw[hg];exact BX (h l U W Y)
  cases e:Cz kf left key D base hint with |true=>
    refine BH (Iu (IF (I:=λx c J=>J=st/\∃l o,c=(AF,l,o)/\l<o/\hint+l<n/\x+1<=o/\Cz kf left key D base (hint+l)=AJ) (Q:=λc J=>J=st/\∃l o,c=(AF,l,o)/\l<o/\hint+l<n/\Cz kf left key D base (hint+l)=AJ/\(o>=n-hint\/(hint+o<n/\Cz kf left key D base (hint+o)=AQ))) ?_ ?_ ⟨rfl,0,1,rfl,by simp,by omega,(by decide),e⟩) ?_)
    . intro x c J _ t G;lk;obtain⟨rfl,l,o,rfl,V,U,Z,W⟩:=G;k_in;dsimp only;by_cases g:o>=n-hint
      . rw[AFi g];exact BX ⟨rfl,l,o,rfl,V,U,W,.inl g⟩
      . rw[AFh g];refine BH (T (LN (MF g)) ?_);cases N:Cz kf left key D base (hint+o)with|true=>exact BX ⟨rfl,o,_,rfl,M9.mpr (ACw _ (by decide)),LN (MF g),by lia,N⟩|false=>exact BX ⟨rfl,l,o,rfl,V,U,W,.inr ⟨LN (MF g),N⟩⟩
    . intro c J G;lk;obtain⟨rfl,l,o,rfl,V,U,Z,W⟩:=G;k_in;exact⟨rfl,l,o,rfl,V,U,W,.inl (B7 (SM Z))⟩
    . intro c J G;lk;obtain⟨rfl,l,o,rfl,V,U,W,Y⟩:=G;k_in;refine fin (hint+l+1) (hint+Ds o (n-hint)) (by omega) ((ME (B7 H)).mp (Vn _ _)) (λi z=>M i _ (EM z) U W) (λi y S=>?_) (λx c=>?_) (λc=>rfl)
      . rcases Y with Y|⟨Y,a⟩;.lia
        .cases z:Cz kf left key D base i with|false=>rfl|true=>rw[M (hint+o) i (by(clear Y U V L;lia)) S z]at a;cases a
      . dsimp only;split;.rfl
        .exact AFj (_>>=.) (funext λo=>by cases o<;>rfl)|false=>
    refine BH (Iu (IF (I:=λx c J=>J=st/\∃l o,c=(AF,l,o)/\l<o/\l<=hint/\x+1<=o/\Cz kf left key D base (hint-l)=AQ) (Q:=λc J=>J=st/\∃l o,c=(AF,l,o)/\l<o/\l<=hint/\Cz kf left key D base (hint-l)=AQ/\(o>=hint+1\/(o<=hint/\Cz kf left key D base (hint-o)=AJ))) ?_ ?_ ⟨rfl,0,1,rfl,by simp,by simp,(by decide),e⟩) ?_)
    . intro x c J _ t G;lk;obtain⟨rfl,l,o,rfl,V,U,Z,W⟩:=G;k_in;dsimp only;by_cases g:o>=hint+1;. rw[AFi g];exact BX ⟨rfl,l,o,rfl,V,U,W,.inl g⟩
      . rw[AFh g];refine BH (T (SM H) ?_);cases N:Cz kf left key D base (hint-o)with |false=>exact BX ⟨rfl,o,_,rfl,M9.mpr (ACw _ (by decide)),EM (MF g),by lia,N⟩|true=>exact BX ⟨rfl,l,o,rfl,V,U,W,.inr ⟨EM (MF g),N⟩⟩
    . intro c J G;lk;obtain⟨rfl,l,o,rfl,V,U,Z,W⟩:=G;k_in;exact⟨rfl,l,o,rfl,V,U,W,.inl (Nat.le_of_pred_lt (MG H Z))⟩
    . intro c J G;lk;obtain⟨rfl,l,o,rfl,V,U,W,Y⟩:=G;k_in;refine fin (hint+1-Ds o (hint+1)) (hint-l) (by(clear Y H L;omega)) (B7 (SM H)) (λi z=>?_) (λi y S=>?_) (λx c=>?_) (λc=>rfl)
      . rcases Y with Y|⟨Y,a⟩;. (clear U V H L;simp_all)
        .exact M i _ (by(clear U V H L;grind)) (SM H) a
      .cases z:Cz kf left key D base i with|false=>rfl|true=>rw[M (hint-l) i (by omega) S z]at W;cases W
      . dsimp only;split;.rfl
        .exact AFj (_>>=.) (funext λo=>by cases o<;>rfl)
structure EJ(R:BA->BA->Prop)(la lb lo:List BA)(i j:Nat):Prop where
 nv:lo.Perm (la.take i++lb.take j)aen:lo.Pairwise R
 a:∀x∈lo,∀y∈la.drop i,R x y
 b:∀x∈lo,∀y∈lb.drop j,R x y
theorem EJ.wz{lo:List BA}(h:EJ R D U lo i j):EJ R U D lo j i:=⟨h.nv.trans P0,h.aen,h.b,h.a⟩
theorem EJ.ye{U Y lo:List BA}(h:EJ R U Y lo i j)(B:U.Pairwise R)(W:∀x∈(U.drop i).take k,∀y∈Y.drop j,R x y):EJ R U Y (lo++(U.drop i).take k) (i+k) j:=by
  have C:((U.drop i).take k++(U.drop i).drop k).Pairwise R:=by rw[OE];exact B.sublist (ACX _ _)
  lk;obtain⟨z,_,A⟩:=OD.mp C;k_in;have Z:U.drop (i+k)=(U.drop i).drop k:=by rw[AAD]
  refine⟨?_,OD.mpr ⟨h.aen,z,λx W y D=>h.a x W y (AAO D)⟩,λx V y D=>?_,λx V y D=>?_⟩
  . rw[ACq,Ei];refine(h.nv.append_right _).trans ?_;rw[Ei];exact AAC _ P0
  . rw[Z]at D;rcases DN.mp V with q|q;.exact h.a x q y (bV D)
    .exact A x q y D
  . rcases DN.mp V with q|q;.exact h.b x q y D
    .exact W x q y D
theorem EJ.zz{U D lo:List BA}(h:EJ R U D lo i j)(W:D.Pairwise R)(V:∀x∈(D.drop j).take k,∀y∈U.drop i,R x y):EJ R U D (lo++(D.drop j).take k) i (j+k):=(h.wz.ye W V).wz
def GG(R:BA->BA->Prop)(D J l:List BA):Prop:=l.Perm (D++J)/\l.Pairwise R
theorem EJ.abe{D U lo:List BA}(h:EJ R D U lo i j)(A:D.Pairwise R)(B:U.Pairwise R)(Y:∀x∈D.drop i,∀y∈U.drop j,R x y):GG R D U (lo++D.drop i++U.drop j):=by
  refine⟨?_,OD.mpr ⟨OD.mpr ⟨h.aen,(by grind),h.a⟩,(by grind),λx V y W=>?_⟩⟩
  . refine((h.nv.append_right _).append_right _).trans ?_;have Z:D=D.take i++D.drop i:=(by simp_all);have z:U=U.take j++U.drop j:=(by simp);grind
  . rcases DN.mp V with q|q;.exact h.b x q y W
    exact Y _ q _ W
theorem GG.wz(h:GG R J D l):GG R D J l:=⟨h.1.trans P0,h.2⟩
theorem fL{out a:Array BA}:(out++a.extract i (i+k)).toList=out.toList++(a.toList.drop i).take k:=by simp_all
theorem Sl{a:Array BA}:(a.extract i).toList=a.toList.drop i:=by simp;exact D7 (by simp)
theorem QV{a:Array BA}(hi:i<a.size):(a.toList.drop i).take 1=[a[i]]:=by rw[bN (by assumption)];simp
theorem fK{out a:Array BA}(hi:i<a.size):(out.push a[i]).toList=out.toList++(a.toList.drop i).take 1:=by rw[QV hi];simp
def Bl{O:Vu}(kf:AK->O.α):BA->BA->Prop:=λp q=>O.kle (kf p.1) (kf q.1)
theorem LV{O:Vu}{kf:AK->O.α}{a:Array BA}(h:a.toList.Pairwise (Bl kf)){lo hi:Nat}(D:hi<=a.size):DY kf a lo hi:=λi j V J U=>by
 by_cases z:i=j;.rw[z];exact NB _
 . rw[Dt _,Dt _];have:=HV.mp h i j (Bc (HX J U) D) (Bc U D) (Dk J z);assumption
theorem OT{a:Array BA}(h:p∈a.toList.drop i):∃k,∃(D:i+k<a.size),p=a[i+k]:=by lk;obtain⟨k,D,e⟩:=G8.mp h;k_in;grind
theorem QT{a:Array BA}(h:p∈(a.toList.drop i).take k):∃m,m<k/\∃(D:i+m<a.size),p=a[i+m]:=by lk;obtain⟨m,J,e⟩:=G8.mp h;k_in;grind
section
variable{κ:OJ}{a₀:Array BA}{st:Ci}
structure IK(κ:OJ)(a₀:Array BA)(st st':Ci):Prop where
 sb:Cm κ a₀ st'
 aep:Am st'=Am st
 zi:CG st'=CG st
end
theorem IK.adv{st:Ci}(x:IK U J st D)(g:Nat):IK U J st (cN (cQ D) (Am D) (CG D) g (ND D)):=⟨⟨x.sb.nv,x.sb.jf,x.sb.mz⟩,x.aep,x.zi⟩
theorem C9{M:Kk}{A:Ck}{E:AK->AV->Prop}{s:AV}{D:Type}{c:Prop}[Decidable c]{x y:StateT Ci DP D}{Q:D->Ci->Prop}{st:Ci}(h:c)(k:Ex M A E s x Q st):Ex M A E s (if c then x else y) Q st:=by simp_all
theorem DQ{M:Kk}{A:Ck}{E:AK->AV->Prop}{s:AV}{D:Type}{c:Prop}[Decidable c]{x y:StateT Ci DP D}{Q:D->Ci->Prop}{st:Ci}(h:¬c)(k:Ex M A E s y Q st):Ex M A E s (if c then x else y) Q st:=by simp_all
theorem ABw{K:Array BA}{st:Ci}(C:F4 prog w A s κ O kf K)(B:Cm κ K st){a b:Array BA}(ha:∀p∈a.toList,p∈K.toList)(hb:∀p∈b.toList,p∈K.toList)(a1:1<=a.size)(b1:1<=b.size)(pa:a.toList.Pairwise (Bl kf))(pb:b.toList.Pairwise (Bl kf))(M:∀p∈a.toList,Bl kf b[0] p)(X:∀p∈b.toList,Bl kf p a[a.size-1])(h:∀m H,IK κ K st H->GG (Bl kf) a.toList b.toList m.toList->Q m H):Ex (An prog w) A E s (ABp a b) Q st:=by
  have T:∀{D:Array BA}{V Y:Nat},EJ (Bl kf) a.toList b.toList D.toList V Y->(Y=b.size\/V=a.size)->GG (Bl kf) a.toList b.toList (D++a.extract V++b.extract Y).toList:=λ{D V Y}j e=>by
    rw[WI,WI,Sl,Sl];refine j.abe pa pb λx P y R=>?_;rcases e with rfl|rfl;.rw[ACW (by simp)]at R;cases R
    .rw[ACW (by simp)]at P;cases P
  have t:∀{D:Array BA}{V Y:Nat},EJ (Bl kf) a.toList b.toList D.toList V Y->V+1=a.size->GG (Bl kf) a.toList b.toList (D++b.extract Y++a.extract V).toList:=λ{D V Y}j e=>by rw[WI,WI,Sl,Sl];refine(j.wz.abe pb pa λx P y R=>?_).wz;obtain⟨k,d,rfl⟩:=OT R;have:k=0:=AAT (Bd _) (Nat.lt_of_add_lt_add_left (Bc d (Bo e.symm)));subst this;have:=X x (bV P);simpa[show a.size-1=V by exact(AAb a1).mpr e.symm]using this
  have am:∀{i:Nat}(hi:i<a.size),a[i]∈K.toList:=λhi=>ha _ (by simp);have bm:∀{i:Nat}(hi:i<b.size),b[i]∈K.toList:=λhi=>hb _ (by simp);have la:∀{i k:Nat}(d:i+k<a.size),Bl kf (a[i]'(SJ d)) a[i+k]:=λ{i k}d=>by have:=LV pa (lo:=0) (Al _) i (i+k) (by simp) (by simp) d;rw[Dt (SJ d:i<a.size),Dt d]at this;exact this
  have lb:∀{i k:Nat}(d:i+k<b.size),Bl kf (b[i]'(SJ d)) b[i+k]:=λ{i k}d=>by have:=LV pb (lo:=0) (Al _) i (i+k) (by simp) (by simp) d;rw[Dt (SJ d:i<b.size),Dt d]at this;exact this
  have oneB:∀{D:Array BA}{V Y:Nat}(h1:V<a.size)(h2:Y<b.size),EJ (Bl kf) a.toList b.toList D.toList V Y->Bl kf b[Y] a[V]->EJ (Bl kf) a.toList b.toList (D.push b[Y]).toList V (Y+1):=λ{D V Y}h1 h2 j r=>by rw[fK h2];refine j.zz pb λx P y R=>?_;rw[QV h2,Bt]at P;obtain⟨k,d,rfl⟩:=OT R;rw[P];exact HY r (la d)
  have oneA:∀{D:Array BA}{V Y:Nat}(h1:V<a.size)(h2:Y<b.size),EJ (Bl kf) a.toList b.toList D.toList V Y->Bl kf a[V] b[Y]->EJ (Bl kf) a.toList b.toList (D.push a[V]).toList (V+1) Y:=λ{D V Y}h1 h2 j r=>by rw[fK h1];refine j.ye pa λx P y R=>?_;rw[QV h1,Bt]at P;obtain⟨k,d,rfl⟩:=OT R;rw[P];exact HY r (lb d)
  refine BH (P8 (QQ ⟨rfl,?_⟩));refine BH (Fm (by assumption:0<b.size) ?_);have j0:EJ (Bl kf) a.toList b.toList (#[b[0]]:Array BA).toList 0 1:=by
    refine⟨?_,by simp,λx P y R=>?_,λx P y R=>?_⟩
    . rw[<-QV (by assumption:0<b.size)];simp
    .simp at P R;subst P;exact M y (by simpa using R)
    . simp only[Bt]at P;obtain⟨k,d,rfl⟩:=OT R;rw[P];have:=lb (i:=0) (k:=1+k) (LN d);simpa using this
  by_cases e1:1=b.size
  . refine C9 (by simpa using e1) ?_;exact BX (h _ st ⟨B,rfl,rfl⟩ (T j0 (.inl e1)))
  refine DQ (by simpa using e1) ?_;by_cases e2:0+1=a.size;. refine C9 (by simpa using e2) ?_;exact BX (h _ st ⟨B,rfl,rfl⟩ (t j0 e2))
  refine DQ (by simpa using e2) ?_;refine BH (ML ?_);refine BH (Iu (IF (I:=λx c H=>IK κ K st H/\∃D V Y g,c=(AF,D,V,Y,g)/\EJ (Bl kf) a.toList b.toList D.toList V Y/\V+1<a.size/\Y<b.size/\x+1<=V+Y) (Q:=λc H=>IK κ K st H/\∃r,c.1=AA r/\GG (Bl kf) a.toList b.toList r.toList) ?jx ?fin ?adb) ?post);case adb=>exact⟨⟨B,rfl,rfl⟩,_,0,1,_,rfl,j0,Dk a1 e2,Dk b1 e1,(by decide)⟩
  case fin=> intro c H hI;lk;obtain⟨S,D,V,Y,g,rfl,j,h1,h2,h3⟩:=hI;k_in;lia
  case post=> intro c H hI;lk;obtain⟨S,r,e,f⟩:=hI;obtain⟨c1,c2⟩:=c;obtain rfl:c1=AA r:=e;k_in;exact BX (h r H S f)
  case jx=>
    intro x c st1 _ P hI;lk;obtain⟨S,D,V,Y,g,rfl,j,h1,h2,h3⟩:=hI;k_in;refine BH (Iu (IF (I:=λy c H=>H=st1/\∃L W F p q,c=(AF,L,W,F,p,q)/\EJ (Bl kf) a.toList b.toList L.toList W F/\W+1<a.size/\F<b.size/\V+Y+y<=W+F) (Q:=λc H=>H=st1/\((∃r,c.1=AA r/\GG (Bl kf) a.toList b.toList r.toList)\/∃L W F p q,c=(AF,L,W,F,p,q)/\EJ (Bl kf) a.toList b.toList L.toList W F/\W+1<a.size/\F<b.size/\V+Y+1<=W+F)) ?s1 ?s2 ?s3) ?s4);case s3=>exact⟨rfl,D,V,Y,0,0,rfl,j,h1,h2,Al _⟩
    case s2=> intro c H hI;lk;obtain⟨rfl,L,W,F,p,q,rfl,j',o,g2,g3⟩:=hI;k_in;exact⟨rfl,.inr ⟨L,W,F,p,q,rfl,j',o,g2,by lia⟩⟩
    case s1=> intro y c H _ R hI;lk;obtain⟨rfl,L,W,F,p,q,rfl,j',o,g2,g3⟩:=hI;k_in;refine BH (Fm g2 (BH (Fm (IE o:W<a.size) (BH (QW C S.sb (bm g2) (am (IE o)) ?_)))));cases e:O.blt (kf b[F].1) (kf (a[W]'(IE o)).1)with
      |true=>
        refine C9 rfl ?_;refine BH (Fm g2 ?_);have j2:=oneB (IE o) g2 j' (Kh e);by_cases z:F+1=b.size;. refine C9 (by simpa using z) ?_;exact BX ⟨rfl,.inl ⟨_,rfl,T j2 (.inl z)⟩⟩
        . refine DQ (by simpa using z) ?_;split;.exact BX ⟨rfl,.inr ⟨_,_,_,_,_,rfl,j2,o,by dsimp only;exact Dk g2 z,by dsimp only;exact Jx.mpr (D8 g3)⟩⟩
          .exact BX ⟨rfl,_,_,_,_,_,rfl,j2,o,by dsimp only;exact Dk g2 z,by dsimp only;exact Jx.mpr g3⟩|false=>
        refine DQ Du ?_;refine BH (Fm (IE o:W<a.size) ?_);have j2:=oneA (IE o) g2 j' e;by_cases z:W+1+1=a.size;. refine C9 (by simpa using z) ?_;exact BX ⟨rfl,.inl ⟨_,rfl,t j2 z⟩⟩
        . refine DQ (by simpa using z) ?_;split;.exact BX ⟨rfl,.inr ⟨_,_,_,_,_,rfl,j2,by dsimp only;exact Dk o z,g2,by dsimp only;lia⟩⟩
          .exact BX ⟨rfl,_,_,_,_,_,rfl,j2,by dsimp only;exact Dk o z,g2,by dsimp only;lia⟩
    case s4=>
      rintro c H⟨rfl,⟨r,e,f⟩|⟨L,W,F,p,q,rfl,j',o,g2,g3⟩⟩;. obtain⟨c1,c2⟩:=c;obtain rfl:c1=AA r:=e;exact BX ⟨S,r,rfl,f⟩
      refine BH (P8 (QQ ⟨rfl,?_⟩));refine BH (Iu (IF (I:=λy c st2=>IK κ K st st2/\∃o2 i2 U m2 p q,c=(AF,o2,i2,U,m2,p,q)/\EJ (Bl kf) a.toList b.toList o2.toList i2 U/\i2+1<a.size/\U<b.size/\V+Y+1<=i2+U) (Q:=λc st2=>IK κ K st st2/\((∃r,c.1=AA r/\GG (Bl kf) a.toList b.toList r.toList)\/∃o2 i2 U m2 p q,c=(AF,o2,i2,U,m2,p,q)/\EJ (Bl kf) a.toList b.toList o2.toList i2 U/\i2+1<a.size/\U<b.size/\V+Y+1<=i2+U)) ?t1 ?t2 ?t3) ?t4);case t3=>exact⟨S,L,W,F,_,p,q,rfl,j',o,g2,g3⟩
      case t2=>rintro c st2⟨S2,r⟩;exact⟨S2,.inr r⟩
      case t4=>
        rintro c st2⟨S2,⟨r,e,f⟩|⟨o2,i2,U,m2,p,q,rfl,j2,f1,f2,f3⟩⟩
        . obtain⟨c1,c2⟩:=c;obtain rfl:c1=AA r:=e;exact BX ⟨S2,r,rfl,f⟩
        .refine BH (Jy (BX ⟨S2.adv _,o2,i2,U,_,rfl,j2,f1,f2,cC.mp (HX h3 f3)⟩))
      case t1=>
        intro y c st2 _ R hI;lk;obtain⟨S2,o2,i2,U,m2,p,q,rfl,j2,f1,f2,f3⟩:=hI;k_in;refine(λ(N:∀m3:Nat,(?G:Nat->Prop) m3)=>?u) ?v;case u=>
          by_cases z:m2>1
          . refine C9 z ?_;generalize m2-1=m3;exact N m3
          . refine DQ z ?_;generalize m2=m3;exact N m3
        case v=>
          intro m3;refine BH (Jy ?_);have S3:=S2.adv m3;refine BH (Fm f2 ?_);refine(λ(N:∀(k i3:Nat)(o3:Array BA),EJ (Bl kf) a.toList b.toList o3.toList i3 U->(∀m(l:m<a.size),i3<=m->Bl kf b[U] a[m])->i3+1<a.size->V+Y+1<=i3+U->(?G2:Nat->Nat->Array BA->Prop) k i3 o3)=>?u2) ?v2;case u2=>
            refine BH (OU C S3.sb (bm f2) ha (by dsimp only;exact(ME (D8 (B7 f1))).mp (Al _)) (by dsimp only;exact Vl.mpr (IE f1)) (LV pa (by dsimp only;exact(ME (D8 (B7 f1))).mp (Al _))) λk d bl bg=>?_);dsimp only at d;have runA:∀m,m<k->∀(l:i2+m<a.size),Bl kf a[i2+m] b[U]:=λm z l=>by have:=bl m z;unfold Cz at this;rw[AFh Du,Dt l]at this;show O.blt _ _=AQ;simpa using this
            have runB:∀m,k<=m->∀(l:i2+m<a.size),Bl kf b[U] a[i2+m]:=λm z l=>by have:=bg m z (by(clear z runA bg bl d N f3 f2 R g3 g2 o h3 h2 h1 P e2 e1 j0 X M b1 a1;dsimp only;exact Vl.mpr l));unfold Cz at this;rw[AFh Du,Dt l]at this;exact Kh (by show O.blt _ _=AJ;simpa using this)
            have j3:EJ (Bl kf) a.toList b.toList (o2++a.extract i2 (i2+k)).toList (i2+k) U:=by rw[fL];refine j2.ye pa λx P y R=>?_;obtain⟨m,l,hm2,rfl⟩:=QT P;obtain⟨m',hm',rfl⟩:=OT R;exact HY (runA m l hm2) (lb hm')
            have pre:(k>0/\i2+k+1=a.size)\/(k>0/\i2+k=a.size)\/i2+k+1<a.size:=by(clear runB runA bg bl N f3 f2 R g3 g2 o h3 h2 h1 P e2 e1 j0 X M b1 a1;lia)
            rcases pre with⟨zk,n⟩|⟨zk,n⟩|n;. refine C9 zk (C9 (by simpa using n) ?_);exact BX ⟨S3,.inl ⟨_,rfl,t j3 n⟩⟩
            . refine C9 zk (DQ (by simp;exact NA (M9.mpr (Bo n.symm))) (C9 (by simpa using n) ?_));exact BX ⟨S3,.inl ⟨_,rfl,T j3 (.inr n)⟩⟩
            have hB3:∀m(l:m<a.size),i2+k<=m->Bl kf b[U] a[m]:=λm l z=>by have:=runB (m-i2) ((ME (D8 z)).mpr z) (lt_of_eq_of_lt (Iq (D8 z)) l);simpa[show i2+(m-i2)=m from Iq (D8 z)]using this
            by_cases zk:k>0
            . refine C9 zk (DQ (by simp;exact Dz n) (DQ (by simp;exact Dz (IE n)) ?_));generalize o2++a.extract i2 (i2+k)=o3 at j3⊢;have f3':V+Y+1<=(i2+k)+U:=by lia
              generalize i2+k=i3 at j3 hB3 n f3'⊢;exact N k i3 o3 j3 hB3 n f3'
            . refine DQ zk ?_;have zk0:k=0:=ACv (GV zk);have eo:o2++a.extract i2 (i2+k)=o2:=by rw[zk0];simp;exact LO _ _
              rw[eo,zk0,Vj]at j3;rw[zk0,Vj]at hB3 n;exact N k i2 o2 j3 hB3 n f3
          case v2=>
            intro k i3 o3 j3 hB3 n f3';have hi3:i3<a.size:=IE n;refine BH (Fm f2 ?_);have j4:=oneB (by omega) f2 j3 (hB3 i3 (by omega) (Al _));by_cases z3:U+1=b.size
            . refine C9 (by simpa using z3) ?_;exact BX ⟨S3,.inl ⟨_,rfl,T j4 (.inl z3)⟩⟩
            refine DQ (by simpa using z3) ?_;refine BH (Fm (by omega:i3<a.size) ?_);refine(λ(N:∀(k' k5:Nat)(o5:Array BA),EJ (Bl kf) a.toList b.toList o5.toList i3 k5->(∀m(l:m<b.size),k5<=m->Bl kf (a[i3]'hi3) b[m])->k5<b.size->V+Y+1<=i3+k5->(?G3:Nat->Nat->Array BA->Prop) k' k5 o5)=>?u3) ?v3;case u3=>
              refine BH (OU C S3.sb (am (by omega)) hb (by dsimp only;exact Bo (Iq f2)) (by(clear N hi3 f3' n f3 f1 R g3 g2 o h3 h2 h1 P e2 e1 j0 X M b1 a1;dsimp only;exact Vl.mpr (Dk f2 z3))) (LV pb (by dsimp only;exact Bo (Iq f2))) λk' hk' bl' bg'=>?_);dsimp only at hk';have runB':∀m,m<k'->∀(l:U+1+m<b.size),Bl kf b[U+1+m] (a[i3]'(by omega)):=λm z l=>by have:=bl' m z;unfold Cz at this;rw[AFi rfl,Dt l]at this;exact Kh this
              have Z:∀m(l:m<b.size),U+1+k'<=m->Bl kf (a[i3]'(by omega)) b[m]:=λm l z=>by have:=bg' (m-(U+1)) ((ME (D8 z)).mpr z) (by(clear runB' bg' bl' hk' N z3 hi3 f3' n f3 f1 R g3 g2 o h3 h2 h1 P e2 e1 j0 X M b1 a1;dsimp only;exact Nat.sub_lt_sub_right (D8 z) l));unfold Cz at this;rw[AFi rfl]at this;have e:U+1+(m-(U+1))=m:=Iq (D8 z);rw[e,Dt l]at this;exact this
              have j5:EJ (Bl kf) a.toList b.toList (o3.push b[U]++b.extract (U+1) (U+1+k')).toList i3 (U+1+k'):=by rw[fL];refine j4.zz pb λx P y R=>?_;obtain⟨m,l,hm2,rfl⟩:=QT P;obtain⟨m',hm',rfl⟩:=OT R;exact HY (runB' m l hm2) (la hm')
              have pre:(k'>0/\U+1+k'=b.size)\/U+1+k'<b.size:=by(clear Z runB' bg' bl' N hi3 f3' n f3 f1 R g3 g2 o h3 h2 h1 P e2 e1 j0 X M b1 a1;lia)
              rcases pre with⟨zk',z4⟩|z4;. refine C9 zk' (C9 (by simpa using z4) ?_);exact BX ⟨S3,.inl ⟨_,rfl,T j5 (.inl z4)⟩⟩
              have f4':V+Y+1<=i3+(U+1+k'):=by lia
              by_cases zk':k'>0
              . refine C9 zk' (DQ (by simp;exact Dz z4) ?_);generalize o3.push b[U]++b.extract (U+1) (U+1+k')=o5 at j5⊢;generalize U+1+k'=k5 at j5 Z z4 f4'⊢;exact N k' k5 o5 j5 Z z4 f4'
              . refine DQ zk' ?_;have zk0:k'=0:=by(exact ACv (GV zk'))
                have eo:o3.push b[U]++b.extract (U+1) (U+1+k')=o3.push b[U]:=by rw[zk0];simp;(clear zk0 zk' f4' z4 Z runB' bg' bl' hk' N z3 hi3 f3' n f3 f1 R g3 g2 o h3 h2 h1 P e2 e1 j0 X M b1 a1;exact LO _ _)
                rw[eo,zk0,Vj]at j5;rw[zk0,Vj]at Z z4 f4';exact N k' _ _ j5 Z z4 f4'
            case v3=>
              intro k' k5 o5 j5 Z z4 f4';refine BH (Fm (by omega:i3<a.size) ?_);have j6:=oneA (by omega) z4 j5 (Z k5 z4 (Al _));by_cases z5:i3+1+1=a.size;. refine C9 (by simpa using z5) ?_;exact BX ⟨S3,.inl ⟨_,rfl,t j6 z5⟩⟩
              refine DQ (by simpa using z5) ?_;by_cases z6:(Ae (k<7)&&Ae (k'<7))=AJ
              . refine C9 z6 ?_;exact BX ⟨S3,.inr ⟨_,_,_,_,_,_,rfl,j6,Dk n z5,z4,by lia⟩⟩
              . refine DQ z6 ?_;exact BX ⟨S3,_,_,_,_,_,_,rfl,j6,Dk n z5,z4,by lia⟩
theorem QS(a:Array BA)(h:n<=a.size):a.toList.reverse.drop (a.size-n)=(a.toList.take n).reverse:=by rw[List.drop_reverse];grind
theorem Kn{a:Array BA}(h:n<=a.size)(J:x∈a.toList.reverse.drop (a.size-n)):∃m,∃(D:m<a.size),m<n/\x=a[m]:=by lk;obtain⟨m,D,e⟩:=G8.mp J;k_in;grind
theorem QZ(a:Array BA)(h:n<=a.size)(D:t<=n):(a.toList.reverse.drop (a.size-n)).take (n-t)=(a.extract t n).toList.reverse:=by rw[QS a h,List.take_reverse];simp;rw[List.drop_take];grind
theorem QU(a:Array BA)(h:n<=a.size)(D:1<=n):(a.toList.reverse.drop (a.size-n)).take 1=[a[n-1]]:=by have e:=QZ a h (show n-1<=n by simp);rw[show n-(n-1)=1 by exact cJ D]at e;rw[e];have:=QV (MI D h);simp;grind
theorem eW{D J l:List BA}(h:GG (λp q=>R q p) D.reverse J.reverse l.reverse):GG R D J l:=by refine⟨(List.reverse_perm l).symm.trans (h.1.trans (by grind)),?_⟩;exact AAP.mp h.2
abbrev HF{O:Vu}(kf:AK->O.α)(a b out:Array BA)(D U:Nat):Prop:=EJ (λp q=>Bl kf q p) a.toList.reverse b.toList.reverse out.toList (a.size-D) (b.size-U)
theorem ABv{N:Array BA}{st:Ci}(C:F4 prog w A s κ O kf N)(B:Cm κ N st){a b:Array BA}(ha:∀p∈a.toList,p∈N.toList)(hb:∀p∈b.toList,p∈N.toList)(a1:1<=a.size)(b1:1<=b.size)(pa:a.toList.Pairwise (Bl kf))(pb:b.toList.Pairwise (Bl kf))(o:∀p∈a.toList,Bl kf b[0] p)(last:∀p∈b.toList,Bl kf p a[a.size-1])(h:∀m M,IK κ N st M->GG (Bl kf) a.toList b.toList m.toList->Q m M):Ex (An prog w) A E s (ABo a b) Q st:=by
  have pa':a.toList.reverse.Pairwise (λp q=>Bl kf q p):=AAP.mpr pa;have pb':b.toList.reverse.Pairwise (λp q=>Bl kf q p):=AAP.mpr pb;have n:∀{D:Array BA}{Y W:Nat},Y<=a.size->W<=b.size->HF kf a b D Y W->(Y=0\/W=0)->GG (Bl kf) a.toList b.toList (a.extract 0 Y++b.extract 0 W++D.reverse).toList:=λ{D Y W}q1 q2 j e=>by
    refine eW ?_;have el:(a.extract 0 Y++b.extract 0 W++D.reverse).toList.reverse=D.toList++b.toList.reverse.drop (b.size-W)++a.toList.reverse.drop (a.size-Y):=by rw[QS a q1,QS b q2];simp[Vc]
    rw[el];refine(j.wz.abe pb' pa' λx X y hy=>?_).wz;obtain⟨m,hm,z,rfl⟩:=Kn q2 X;obtain⟨m',hm',z',rfl⟩:=Kn q1 hy;lia
  have l:∀{D:Array BA}{Y W:Nat},Y<=a.size->W<=b.size->HF kf a b D Y W->W=1->GG (Bl kf) a.toList b.toList (b.extract 0 W++a.extract 0 Y++D.reverse).toList:=λ{D Y W}q1 q2 j e=>by
    refine eW ?_;have el:(b.extract 0 W++a.extract 0 Y++D.reverse).toList.reverse=D.toList++a.toList.reverse.drop (a.size-Y)++b.toList.reverse.drop (b.size-W):=by rw[QS a q1,QS b q2];simp[Vc]
    rw[el];refine j.abe pa' pb' λx X y hy=>?_;obtain⟨m,hm,z,rfl⟩:=Kn q1 X;obtain⟨m',hm',z',rfl⟩:=Kn q2 hy;have:m'=0:=by simp_all
    subst this;exact o _ (by simp)
  have am:∀{i:Nat}(hi:i<a.size),a[i]∈N.toList:=λhi=>ha _ (by simp);have bm:∀{i:Nat}(hi:i<b.size),b[i]∈N.toList:=λhi=>hb _ (by simp);have la:∀{i k:Nat}(hk:k<a.size)(h:i<=k),Bl kf (a[i]'(HX h hk)) a[k]:=λ{i k}hk h=>by have:=LV pa (lo:=0) (Al _) i k (by simp) (by omega) hk;rw[Dt (HX h hk:i<a.size),Dt hk]at this;exact this
  have lb:∀{i k:Nat}(hk:k<b.size)(h:i<=k),Bl kf (b[i]'(HX h hk)) b[k]:=λ{i k}hk h=>by have:=LV pb (lo:=0) (Al _) i k (by simp) (by omega) hk;rw[Dt (HX h hk:i<b.size),Dt hk]at this;exact this
  have oneA:∀{D:Array BA}{Y W:Nat}(h1:1<=Y)(h2:Y<=a.size)(h3:1<=W)(h4:W<=b.size),HF kf a b D Y W->Bl kf b[W-1] a[Y-1]->HF kf a b (D.push a[Y-1]) (Y-1) W:=λ{D Y W}h1 h2 h3 h4 j r=>by
    have e:(D.push a[Y-1]).toList=D.toList++(a.toList.reverse.drop (a.size-Y)).take 1:=by rw[QU a h2 h1];simp
    show EJ _ _ _ (D.push a[Y-1]).toList _ _;rw[e,show a.size-(Y-1)=a.size-Y+1 by(clear r h4 h3 last o b1 a1;lia)];refine j.ye pa' λx X y hy=>?_;rw[QU a h2 h1,Bt]at X;obtain⟨m,hm,z,rfl⟩:=Kn h4 hy;rw[X];exact HY (lb (MI h3 h4) ((Vk h3).mpr z:m<=W-1)) r
  have oneB:∀{D:Array BA}{Y W:Nat}(h1:1<=Y)(h2:Y<=a.size)(h3:1<=W)(h4:W<=b.size),HF kf a b D Y W->Bl kf a[Y-1] b[W-1]->HF kf a b (D.push b[W-1]) Y (W-1):=λ{D Y W}h1 h2 h3 h4 j r=>by
    have e:(D.push b[W-1]).toList=D.toList++(b.toList.reverse.drop (b.size-W)).take 1:=by rw[QU b h4 h3];simp
    show EJ _ _ _ (D.push b[W-1]).toList _ _;rw[e,show b.size-(W-1)=b.size-W+1 by(clear r h2 h1 last o b1 a1;lia)];refine j.zz pb' λx X y hy=>?_;rw[QU b h4 h3,Bt]at X;obtain⟨m,hm,z,rfl⟩:=Kn h2 hy;rw[X];exact HY (la (MI h1 h2) ((Vk h1).mpr z:m<=Y-1)) r
  refine BH (P8 (QQ ⟨rfl,?_⟩));refine BH (Fm (by omega:a.size-1<a.size) ?_);have j0:HF kf a b (#[a[a.size-1]]:Array BA) (a.size-1) b.size:=by
    refine⟨?_,by simp,λx X y hy=>?_,λx X y hy=>?_⟩
    . have:=QU a (Al _) a1;rw[cH,List.drop_zero]at this;rw[show a.size-(a.size-1)=1 by exact cJ a1,this];simp
    . simp only[Bt]at X;obtain⟨m,hm,z,rfl⟩:=Kn (by simp) hy;rw[X];exact la (Vp a1 (by decide)) (B7 z)
    . simp only[Bt]at X;obtain⟨m,hm,z,rfl⟩:=Kn (Al _) hy;rw[X];exact last _ (by simp)
  by_cases e1:a.size-1=0;. refine C9 (by simpa using e1) ?_;exact BX (h _ st ⟨B,rfl,rfl⟩ (n (by simp) (Al _) j0 (.inl e1)))
  refine DQ (by simpa using e1) ?_;by_cases e2:b.size=1;. refine C9 (by simpa using e2) ?_;exact BX (h _ st ⟨B,rfl,rfl⟩ (l (by simp) (Al _) j0 e2))
  refine DQ (by simpa using e2) ?_;refine BH (ML ?_);refine BH (Iu (IF (I:=λx c M=>IK κ N st M/\∃Y W D g,c=(AF,Y,W,D,g)/\HF kf a b D Y W/\1<=Y/\Y<=a.size/\2<=W/\W<=b.size/\x+1+Y+W<=a.size+b.size) (Q:=λc M=>IK κ N st M/\∃r,c.1=AA r/\GG (Bl kf) a.toList b.toList r.toList) ?jx ?fin ?adb) ?post);case adb=>exact⟨⟨B,rfl,rfl⟩,_,_,_,_,rfl,j0,Kg.mpr e1,by simp,cC.mp (Dk b1 (El e2)),Al _,by simp_all⟩
  case fin=> intro c M hI;lk;obtain⟨S,Y,W,D,g,rfl,j,h1,h2,h3,h4,h5⟩:=hI;k_in;lia
  case post=> intro c M hI;lk;obtain⟨S,r,e,f⟩:=hI;obtain⟨c1,c2⟩:=c;obtain rfl:c1=AA r:=e;k_in;exact BX (h r M S f)
  case jx=>
    intro x c st1 hx0 X hI;lk;obtain⟨S,Y,W,D,g,rfl,j,h1,h2,h3,h4,h5⟩:=hI;k_in;refine BH (Iu (IF (I:=λy c M=>M=st1/\∃H K P p q,c=(AF,H,K,P,p,q)/\HF kf a b P H K/\1<=H/\H<=a.size/\2<=K/\K<=b.size/\H+K+y<=Y+W) (Q:=λc M=>M=st1/\((∃r,c.1=AA r/\GG (Bl kf) a.toList b.toList r.toList)\/∃H K P p q,c=(AF,H,K,P,p,q)/\HF kf a b P H K/\1<=H/\H<=a.size/\2<=K/\K<=b.size/\H+K+1<=Y+W)) ?s1 ?s2 ?s3) ?s4);case s3=>exact⟨rfl,Y,W,D,0,0,rfl,j,h1,h2,h3,h4,Al _⟩
    case s2=> intro c M hI;lk;obtain⟨rfl,H,K,P,p,q,rfl,j',g1,g2,g3,g4,g5⟩:=hI;k_in;exact⟨rfl,.inr ⟨H,K,P,p,q,rfl,j',g1,g2,g3,g4,by lia⟩⟩
    case s1=> intro y c M hy0 hy hI;lk;obtain⟨rfl,H,K,P,p,q,rfl,j',g1,g2,g3,g4,g5⟩:=hI;k_in;clear hy0 h1 h2 h3 h4 h5 X hx0 e1 e2 j0 j o last;refine BH (Fm (SN (B7 g3) (M9.mpr g4):K-1<b.size) (BH (Fm (MI g1 g2:H-1<a.size) (BH (QW C S.sb (bm (SN (B7 g3) (M9.mpr g4))) (am (MI g1 g2)) ?_)))));cases e:O.blt (kf (b[K-1]'(SN (B7 g3) (M9.mpr g4))).1) (kf (a[H-1]'(MI g1 g2)).1)with
      |true=>
        refine C9 rfl ?_;refine BH (Fm (MI g1 g2:H-1<a.size) ?_);have j2:=oneA g1 g2 (B7 g3) g4 j' (Kh e);by_cases z:H-1=0
        . refine C9 (by simpa using z) ?_;exact BX ⟨rfl,.inl ⟨_,rfl,n (by dsimp only;simp_all) g4 j2 (.inl z)⟩⟩
        . refine DQ (by simpa using z) ?_;split;.exact BX ⟨rfl,.inr ⟨_,_,_,_,_,rfl,j2,by dsimp only;exact Kg.mpr z,by dsimp only;exact B7 (MI g1 g2),g3,g4,by dsimp only;lia⟩⟩
          .exact BX ⟨rfl,_,_,_,_,_,rfl,j2,by dsimp only;exact Kg.mpr z,by dsimp only;exact B7 (MI g1 g2),g3,g4,by dsimp only;lia⟩|false=>
        refine DQ Du ?_;refine BH (Fm (SN (B7 g3) (M9.mpr g4):K-1<b.size) ?_);have j2:=oneB g1 g2 (B7 g3) g4 j' e;by_cases z:K-1=1;. refine C9 (by simpa using z) ?_;exact BX ⟨rfl,.inl ⟨_,rfl,l g2 (by dsimp only;exact Ak (Bo z) b1) j2 z⟩⟩
        . refine DQ (by simpa using z) ?_;split;.exact BX ⟨rfl,.inr ⟨_,_,_,_,_,rfl,j2,g1,g2,by(clear j2 e g5 g4 g2 g1 hy b1 a1;dsimp only;lia),by dsimp only;exact Ak (AAc _ _) g4,by dsimp only;lia⟩⟩
          .exact BX ⟨rfl,_,_,_,_,_,rfl,j2,g1,g2,by(clear j2 e g5 g4 g2 g1 hy b1 a1;dsimp only;lia),by dsimp only;exact Ak (AAc _ _) g4,by dsimp only;lia⟩
    case s4=>
      rintro c M⟨rfl,⟨r,e,f⟩|⟨H,K,P,p,q,rfl,j',g1,g2,g3,g4,g5⟩⟩;. obtain⟨c1,c2⟩:=c;obtain rfl:c1=AA r:=e;exact BX ⟨S,r,rfl,f⟩
      refine BH (P8 (QQ ⟨rfl,?_⟩));refine BH (Iu (IF (I:=λy c st2=>IK κ N st st2/\∃i2 Z o2 m2 p q,c=(AF,i2,Z,o2,m2,p,q)/\HF kf a b o2 i2 Z/\1<=i2/\i2<=a.size/\2<=Z/\Z<=b.size/\i2+Z+1<=Y+W) (Q:=λc st2=>IK κ N st st2/\((∃r,c.1=AA r/\GG (Bl kf) a.toList b.toList r.toList)\/∃i2 Z o2 m2 p q,c=(AF,i2,Z,o2,m2,p,q)/\HF kf a b o2 i2 Z/\1<=i2/\i2<=a.size/\2<=Z/\Z<=b.size/\i2+Z+1<=Y+W)) ?t1 ?t2 ?t3) ?t4);case t3=>exact⟨S,H,K,P,_,p,q,rfl,j',g1,g2,g3,g4,g5⟩
      case t2=>rintro c st2⟨S2,r⟩;exact⟨S2,.inr r⟩
      case t4=>
        rintro c st2⟨S2,⟨r,e,f⟩|⟨i2,Z,o2,m2,p,q,rfl,j2,f1,f2,f3,f4,f5⟩⟩;. obtain⟨c1,c2⟩:=c;obtain rfl:c1=AA r:=e;exact BX ⟨S2,r,rfl,f⟩
        .refine BH (Jy (BX ⟨S2.adv _,i2,Z,o2,_,rfl,j2,f1,f2,f3,f4,by lia⟩))
      case t1=>
        intro y c st2 hy0 hy hI;lk;obtain⟨S2,i2,Z,o2,m2,p,q,rfl,j2,f1,f2,f3,f4,f5⟩:=hI;k_in;clear hy0 hy j' g1 g2 g3 g4 g5 j h1 h2 h3 h4 h5 X hx0 e1 e2 j0 S o last;refine(λ(L:∀m3:Nat,(?G:Nat->Prop) m3)=>?u) ?v;case u=>
          by_cases z:m2>1
          . refine C9 z ?_;generalize m2-1=m3;exact L m3
          . refine DQ z ?_;generalize m2=m3;exact L m3
        case v=>
          intro m3;refine BH (Jy ?_);have S3:=S2.adv m3;have U:Z-1<b.size:=SN (B7 f3) (M9.mpr f4);refine BH (Fm U ?_);refine(λ(L:∀(c i3:Nat)(o3:Array BA),HF kf a b o3 i3 Z->(∀m(hm:m<a.size),m<i3->Bl kf a[m] (b[Z-1]'U))->1<=i3->i3<=a.size->i3+Z+1<=Y+W->(?G2:Nat->Nat->Array BA->Prop) c i3 o3)=>?u2) ?v2;case u2=>
            refine BH (OU C S3.sb (bm U) ha (by dsimp only;simp_all) (by dsimp only;exact Vp f1 (by decide)) (LV pa (by dsimp only;simp_all)) λt ht bl bg=>?_);dsimp only at ht;have F:∀m(hm:m<a.size),m<t->Bl kf a[m] (b[Z-1]'U):=λm hm z=>by have:=bl m z;unfold Cz at this;rw[AFh Du,Dt (LN hm:0+m<a.size)]at this;show O.blt _ _=AQ;simpa using this
            have runB:∀m(hm:m<a.size),t<=m->m<i2->Bl kf (b[Z-1]'U) a[m]:=λm hm z z'=>by have:=bg m z z';unfold Cz at this;rw[AFh Du,Dt (LN hm:0+m<a.size)]at this;exact Kh (by show O.blt _ _=AJ;simpa using this)
            have j3:HF kf a b (o2++(a.extract t i2).reverse) t Z:=by
              have e:(o2++(a.extract t i2).reverse).toList=o2.toList++(a.toList.reverse.drop (a.size-i2)).take (i2-t):=by rw[QZ a f2 ht];simp
              show EJ _ _ _ (o2++(a.extract t i2).reverse).toList _ _;rw[e,show a.size-t=a.size-i2+(i2-t)from(AAb ((cG (Ak ht f2)).mpr f2)).mp (AAf ht)];refine j2.ye pa' λx X y hy=>?_;rw[QZ a f2 ht,ACk]at X;simp only[fP,Vc]at X;obtain⟨m,hm,hm2,rfl⟩:=QT X;obtain⟨m',hm',z,rfl⟩:=Kn f4 hy;exact HY (lb (by omega) (cB z:m'<=Z-1)) (runB _ hm2 (by simp) (LN hm))
            have pre:(i2-t>0/\t=0)\/1<=t:=by(clear runB F bg bl L U f5 f4 f3 f2 b1 a1;lia)
            rcases pre with⟨zk,z1⟩|z1
            . refine C9 zk (C9 (by simpa using z1) ?_);exact BX ⟨S3,.inl ⟨_,rfl,n (by simp_all) f4 j3 (.inl z1)⟩⟩
            have t2:t<=a.size:=Ak ht f2;have T:t+Z+1<=Y+W:=by lia
            by_cases zk:i2-t>0
            . refine C9 zk (DQ (by simp;exact NA z1) ?_);generalize i2-t=c;generalize o2++(a.extract t i2).reverse=o3 at j3⊢;clear bl bg ht runB zk;generalize t=i3 at j3 F z1 t2 T⊢;exact L c i3 o3 j3 F z1 t2 T
            . refine DQ zk ?_;have zk0:t=i2:=by(clear T t2 z1 runB F bg bl L U f5 f4 f3 f2 f1 b1 a1;lia)
              have eo:o2++(a.extract t i2).reverse=o2:=by rw[zk0];simp;exact LO _ _
              rw[eo,zk0]at j3;rw[zk0]at F z1 t2 T;generalize i2-t=c;exact L c i2 o2 j3 F z1 t2 T
          case v2=>
            intro c i3 o3 j3 F z1 t2 T;have d:i3-1<a.size:=MI z1 t2;refine BH (Fm U ?_);have j4:=oneB z1 t2 (B7 f3) f4 j3 (F _ (by omega) (Vp z1 (by decide)));by_cases z3:Z-1=1;. refine C9 (by simpa using z3) ?_;exact BX ⟨S3,.inl ⟨_,rfl,l t2 (by dsimp only;exact B7 U) j4 z3⟩⟩
            refine DQ (by simpa using z3) ?_;refine BH (Fm (by omega:i3-1<a.size) ?_);refine(λ(L:∀(c' k5:Nat)(o5:Array BA),HF kf a b o5 i3 k5->(∀m(hm:m<b.size),m<k5->Bl kf b[m] (a[i3-1]'d))->2<=k5->k5<=b.size->i3+k5+1<=Y+W->(?G3:Nat->Nat->Array BA->Prop) c' k5 o5)=>?u3) ?v3;case u3=>
              refine BH (OU C S3.sb (am (by omega)) hb (by dsimp only;exact AFv (ACt.mpr rfl) (B7 U)) (by(clear L j4 d T t2 F U f5 f4 f2 f1 b1 a1;dsimp only;exact(Nat.mod_eq_iff_lt (AAd.mpr f3)).mp (Nat.self_sub_mod _ _))) (LV pb (by dsimp only;exact AFv (ACt.mpr rfl) (B7 U))) λt' ht' bl' bg'=>?_);dsimp only at ht';have V:∀m(hm:m<b.size),m<t'->Bl kf b[m] (a[i3-1]'(by omega)):=λm hm z=>by have:=bl' m z;unfold Cz at this;rw[AFi rfl,Dt (LN hm:0+m<b.size)]at this;exact Kh (by show O.blt _ _=AJ;simpa using this)
              have R:∀m(hm:m<b.size),t'<=m->m<Z-1->Bl kf (a[i3-1]'(by omega)) b[m]:=λm hm z z'=>by have:=bg' m z z';unfold Cz at this;rw[AFi rfl,Dt (LN hm:0+m<b.size)]at this;show O.blt _ _=AQ;simpa using this
              have j5:HF kf a b (o3.push (b[Z-1]'U)++(b.extract t' (Z-1)).reverse) i3 t':=by
                have e:(o3.push (b[Z-1]'U)++(b.extract t' (Z-1)).reverse).toList=(o3.push (b[Z-1]'U)).toList++(b.toList.reverse.drop (b.size-(Z-1))).take (Z-1-t'):=by rw[QZ b (B7 U) ht'];simp
                show EJ _ _ _ (o3.push (b[Z-1]'U)++(b.extract t' (Z-1)).reverse).toList _ _;rw[e,show b.size-t'=b.size-(Z-1)+(Z-1-t')from(AAb ((cG (Ak ht' (B7 U))).mpr (B7 U))).mp (AAf ht')];refine j4.zz pb' λx X y hy=>?_;rw[QZ b (B7 U) ht',ACk]at X;simp only[fP,Vc]at X;obtain⟨m,hm,hm2,rfl⟩:=QT X;obtain⟨m',hm',z,rfl⟩:=Kn t2 hy;exact HY (la (by omega) ((Vk z1).mpr z:m'<=i3-1)) (R _ hm2 (by simp) (LN hm))
              have pre:(Z-1-t'>0/\t'=1)\/(Z-1-t'>0/\t'=0)\/2<=t':=by(clear j5 R V bg' bl' L j4 d T t2 F U f5 f4 f2 f1 b1 a1;lia)
              rcases pre with⟨zk',z4⟩|⟨zk',z4⟩|z4;. refine C9 zk' (C9 (by simpa using z4) ?_);exact BX ⟨S3,.inl ⟨_,rfl,l t2 (Ak ht' (B7 U)) j5 z4⟩⟩
              . refine C9 zk' (DQ (by simp;simp_all) (C9 (by simpa using z4) ?_));exact BX ⟨S3,.inl ⟨_,rfl,n t2 (by(clear zk' R V bg' bl' L z3 j4 d T t2 z1 f5 f4 f3 f2 f1 b1 a1;simp_all)) j5 (.inr z4)⟩⟩
              have t4:t'<=b.size:=Ak ht' (B7 U);have f6':i3+t'+1<=Y+W:=by(clear t4 j5 R V bg' bl' L j4 d t2 F U f5 f4 f2 f1 b1 a1;lia)
              by_cases zk':Z-1-t'>0
              . refine C9 zk' (DQ (by simp;exact NA z4) (DQ (by simp;exact Ne.intro (λu1=>AAa _ (Ak z4 (Bo u1)))) ?_));generalize Z-1-t'=c';generalize o3.push (b[Z-1]'U)++(b.extract t' (Z-1)).reverse=o5 at j5⊢;clear bl' bg' ht' R zk';generalize t'=k5 at j5 V z4 t4 f6'⊢;exact L c' k5 o5 j5 V z4 t4 f6'
              . refine DQ zk' ?_;have zk0:t'=Z-1:=by(clear f6' t4 j5 R V bg' bl' L j4 d T t2 F U f5 f4 f2 f1 b1 a1;grind)
                have eo:o3.push (b[Z-1]'U)++(b.extract t' (Z-1)).reverse=o3.push (b[Z-1]'U):=by rw[zk0];simp;(clear zk' f6' t4 z4 R V bg' bl' ht' L z3 j4 d T t2 z1 f5 f4 f3 f2 f1 b1 a1;exact LO _ _)
                rw[eo,zk0]at j5;rw[zk0]at V z4 t4 f6';generalize Z-1-t'=c';exact L c' _ _ j5 V z4 t4 f6'
            case v3=>
              intro c' k5 o5 j5 V z4 t4 f6';refine BH (Fm (by omega:i3-1<a.size) ?_);have j6:=oneA z1 t2 (B7 z4) t4 j5 (V _ (SN (B7 z4) (M9.mpr t4)) ((AAW (IE z4)).mp (Al _)));by_cases z5:i3-1=0;. refine C9 (by simpa using z5) ?_;exact BX ⟨S3,.inl ⟨_,rfl,n (B7 d) t4 j6 (.inl z5)⟩⟩
              refine DQ (by simpa using z5) ?_;split;.exact BX ⟨S3,.inr ⟨_,_,_,_,_,_,rfl,j6,Kg.mpr z5,B7 d,z4,t4,by(clear j6 t4 z4 V j4 d T t2 F U f5 f4 f3 f2 f1 b1 a1;lia)⟩⟩
              .exact BX ⟨S3,_,_,_,_,_,_,rfl,j6,Kg.mpr z5,B7 d,z4,t4,by(clear j6 t4 z4 V j4 d T t2 F U f5 f4 f3 f2 f1 b1 a1;lia)⟩
theorem eX(p:Nat):∀(M:List BA)(n:Nat)(xs:Array BA),p+n+M.length<=xs.size->((M.zipIdx n).foldl (λa x=>a.setIfInBounds (p+x.2) x.1) xs).toList=xs.toList.take (p+n)++M++xs.toList.drop (p+n+M.length)|[],n,xs,h=>by simp|m::r,n,xs,h=>by rw[List.zipIdx_cons,AAF,eX p r _ _ (by simp;exact AFv (Nat.succ_add _ _) h)];simp only[AB2];rw[List.drop_set_of_lt (by omega),show p+(n+1)=p+n+1 by rfl,Dy,List.take_set_of_le (Al _)];grind
theorem fB{O:Vu}{kf:AK->O.α}{xs:Array BA}{lo hi:Nat}(h:hi<=xs.size)(u:DY kf xs lo hi):(xs.extract lo hi).toList.Pairwise (Bl kf):=by
 rw[HV];intro i j U V D;have e:∀k(W:k<(xs.extract lo hi).toList.length),(xs.extract lo hi).toList[k]=xs[lo+k]'(by grind):=(by simp);rw[e i _,e j V];have J:j<hi-lo:=by grind
 have:=u _ _ (by simp) (Fg (B7 D) _) (LN J);rw[Dt _,Dt _]at this;exact this
theorem eZ{xs:Array BA}{lo:Nat}(h:hi<=xs.size)(D:p∈(xs.extract lo hi).toList):∃m,lo<=m/\m<hi/\∃(J:m<xs.size),p=xs[m]:=by simp at D;lk;obtain⟨m,J,U,rfl⟩:=QT D;k_in;grind
theorem ABm(xs:Array BA)(D:i<=j)(J:j<=k)(W:k<=xs.size):xs.toList=xs.toList.take i++((xs.extract i j).toList++(xs.extract j k).toList)++xs.toList.drop k:=by
 simp only[fP,Vc];have U:bZ (k-i) (xs.toList.drop i)=bZ (j-i) (xs.toList.drop i)++bZ (k-j) (xs.toList.drop j):=by rw[show k-i=(j-i)+(k-j)by exact(Nat.sub_eq_iff_eq_add' ((cG (Ak D J)).mpr J)).mp (AAf D),ACq,AAD,show i+(j-i)=j by exact Iq D]
 have V:xs.toList.drop i=bZ (k-i) (xs.toList.drop i)++xs.toList.drop k:=by conv=>lhs;rw[<-OE _ (xs.toList.drop i),AAD,show i+(k-i)=k by exact Iq (Ak D J)]
 rw[<-U,Ei,<-V,OE]
theorem ABx{A:Ck}{E:AK->AV->Prop}{s:AV}{M:Kk}{D:Type}{t u:D}{Q:PUnit->D->Prop}(h:Q ⟨⟩ t):Ex M A E s (set t:StateT D DP PUnit) Q u:=by exact Cn ⟨rfl,h⟩
theorem ABu{d:Array BA}{st:Ci}(C:F4 prog w A s κ O kf d)(B:Cm κ d st)(p1:(CG st)[i]?=AA (D,Z,pw))(p2:(CG st)[i+1]?=AA (D+Z,nb,pw'))(u:1<=Z)(P:1<=nb)(g:D+Z+nb<=d.size)(ua:DY kf (Am st) D (D+Z))(ub:DY kf (Am st) (D+Z) (D+Z+nb))(h:∀st',Cm κ d st'->CG st'=((CG st).setIfInBounds i (D,Z+nb,pw)).eraseIdxIfInBounds (i+1)->DY kf (Am st') D (D+(Z+nb))->(∀k,k<D\/D+Z+nb<=k->BS kf (Am st') k=BS kf (Am st) k)->Q AJ st'):Ex (An prog w) A E s (mergeAt' i) Q st:=by
  have l:=B.yh;refine BH (ML ?_);rw[show(sortPriv%PySem.Builtin.SortState.pending) st=CG st from rfl,p1,p2];dsimp only;refine BH (ABx (t:=cN (cQ st) (Am st) (((CG st).setIfInBounds i (D,Z+nb,pw)).eraseIdxIfInBounds (i+1)) (gallopOf st) (ND st)) ?_);have memA:∀p∈(Am st).toList,p∈d.toList:=λp hp=>(Sm.mp B.nv).mem_iff.mp hp;have K:D+Z<(Am st).size:=by lia
  refine BH (Fm K ?_);generalize hst1:cN (cQ st) (Am st) (((CG st).setIfInBounds i (D,Z+nb,pw)).eraseIdxIfInBounds (i+1)) (gallopOf st) (ND st)=st1;have B1:Cm κ d st1:=by rw[<-hst1];exact⟨B.nv,B.jf,B.mz⟩
  have ar1:Am st1=Am st:=by rw[<-hst1]
  have pe1:CG st1=((CG st).setIfInBounds i (D,Z+nb,pw)).eraseIdxIfInBounds (i+1):=by rw[<-hst1]
  have V:BS kf (Am st) (D+Z)=kf ((Am st)[D+Z]'K).1:=Dt K;refine BH (OU (left:=AQ) (key:=(Am st)[D+Z]'K) (base:=D) (n:=Z) (hint:=0) C B1 (memA _ (by simp)) memA (B7 K) (by assumption) ua λk hk r o=>?_);have lowA:∀j,D<=j->j<D+k->O.kle (BS kf (Am st) j) (BS kf (Am st) (D+Z)):=λj j1 j2=>by have:=r (j-D) ((SK j1).mpr j2);unfold Cz at this;rw[AFh Du,<-V,show D+(j-D)=j by exact Iq j1]at this;show O.blt _ _=AQ;simpa using this
  have highA:∀j,D+k<=j->j<D+Z->O.kle (BS kf (Am st) (D+Z)) (BS kf (Am st) j):=λj j1 j2=>by have:=o (j-D) ((ME (D8 j1)).mpr j1) ((SK (D8 j1)).mpr j2);unfold Cz at this;rw[AFh Du,<-V,show D+(j-D)=j by exact Iq (D8 j1)]at this;exact Kh (by show O.blt _ _=AJ;simpa using this)
  dsimp only;by_cases R:Z-k=0
  . refine C9 (by simpa using R) ?_;refine BX (h st1 B1 pe1 ?_ λz _=>by rw[ar1]);rw[ar1];intro x y h1 h2 h3;by_cases hx:x<D+Z
    . by_cases hy:y<D+Z;.exact ua x y h1 h2 hy
      .exact HY (lowA x h1 (by lia)) (ub _ y (Al _) (by simp_all) (by lia))
    .exact ub x y (by simp_all) h2 (by lia)
  refine DQ (by simpa using R) ?_;have L:D+k+(Z-k)-1<(Am st).size:=by(clear R l g P u;omega)
  refine BH (Fm L ?_);have U:BS kf (Am st) (D+Z-1)=kf ((Am st)[D+k+(Z-k)-1]'L).1:=by rw[<-Dt (kf:=kf) L];congr 1;lia
  refine BH (OU (left:=AJ) (key:=(Am st)[D+k+(Z-k)-1]'L) (base:=D+Z) (n:=nb) (hint:=nb-1) C B1 (memA _ (by simp)) memA (by simp_all) (Vp P (by decide)) ub λk' H G F=>?_);have lowB:∀j,D+Z<=j->j<D+Z+k'->O.kle (BS kf (Am st) j) (BS kf (Am st) (D+Z-1)):=λj j1 j2=>by have:=G (j-(D+Z)) ((SK j1).mpr j2);unfold Cz at this;rw[AFi rfl,<-U,show D+Z+(j-(D+Z))=j from Iq j1]at this;exact Kh this
  have highB:∀j,D+Z+k'<=j->j<D+Z+nb->O.kle (BS kf (Am st) (D+Z-1)) (BS kf (Am st) j):=λj j1 j2=>by have:=F (j-(D+Z)) ((ME (D8 j1)).mpr j1) ((SK (D8 j1)).mpr j2);unfold Cz at this;rw[AFi rfl,<-U,show D+Z+(j-(D+Z))=j by exact Iq (D8 j1)]at this;exact this
  dsimp only;by_cases T:k'=0
  . refine C9 (by simpa using T) ?_;refine BX (h st1 B1 pe1 ?_ λz _=>by rw[ar1]);rw[ar1];intro x y h1 h2 h3;by_cases hx:x<D+Z
    . by_cases hy:y<D+Z;.exact ua x y h1 h2 hy
      .exact HY (ua x (D+Z-1) h1 (cB hx) (AAe hx)) (highB y (by simp_all) (by lia))
    .exact ub x y (by simp_all) h2 (by lia)
  refine DQ (by simpa using T) ?_;generalize hX:(Am st).extract (D+k) (D+Z)=X;generalize hY:(Am st).extract (D+Z) (D+Z+k')=Y;have pX:X.toList.Pairwise (Bl kf):=by rw[<-hX];exact fB (B7 K) λa b v q2 q3=>ua a b (D8 v) q2 q3
  have pY:Y.toList.Pairwise (Bl kf):=by rw[<-hY];exact fB (by lia) λa b v q2 q3=>ub a b (by omega) q2 (Bc q3 (Fg H _))
  have c:X.size=Z-k:=by rw[<-hX];simp;(clear T F G H U L R l g P u;lia)
  have zY:Y.size=k':=by rw[<-hY];simp;(clear c T F G U L R hk P u;lia)
  have mX:∀p∈X.toList,∃m,D+k<=m/\m<D+Z/\∃(hm:m<(Am st).size),p=(Am st)[m]:=λp hp=>eZ (B7 K) (by rw[hX];exact hp);have mY:∀p∈Y.toList,∃m,D+Z<=m/\m<D+Z+k'/\∃(hm:m<(Am st).size),p=(Am st)[m]:=λp hp=>eZ (by lia) (by rw[hY];exact hp);have y0:Y[0]'(by(clear c F G H U L R o r V K l g P u;exact AFr (AAd.mp T) zY.symm))=(Am st)[D+Z]'K:=by subst hY;simp
  have xl:X[X.size-1]'(by(clear y0 F G H U L o r V K l g P;lia))=(Am st)[D+Z-1]'(SM K):=by subst hX;rw[Array.getElem_extract];congr 1;rw[c];(clear c y0 F G H U L o r V K l g P;lia)
  have J:∀p∈X.toList,Bl kf (Y[0]'(by(clear xl y0 c F G H U L R o r V K l g P u;exact AFr (AAd.mp T) zY.symm))) p:=λp hp=>by obtain⟨m,v,q2,hm,rfl⟩:=mX p hp;rw[y0];have:=highA m v q2;rw[V,Dt hm]at this;exact this
  have W:∀p∈Y.toList,Bl kf p (X[X.size-1]'(by(clear xl y0 F G H U L o r V K l g P;lia))):=λp hp=>by obtain⟨m,v,q2,hm,rfl⟩:=mY p hp;rw[xl];have:=lowB m v q2;rw[Dt hm,Dt (SM K:D+Z-1<(Am st).size)]at this;exact this
  have inX:∀p∈X.toList,p∈d.toList:=λp hp=>by obtain⟨m,v,q2,hm,rfl⟩:=mX p hp;exact memA _ (by simp)
  have inY:∀p∈Y.toList,p∈d.toList:=λp hp=>by obtain⟨m,v,q2,hm,rfl⟩:=mY p hp;exact memA _ (by simp)
  have fin:∀(M:Array BA)(I:Ci),IK κ d st1 I->GG (Bl kf) X.toList Y.toList M.toList->Q AJ (P7 I (M.toList.zipIdx.foldl (λa x=>a.setIfInBounds (D+k+x.2) x.1) (Am I))):=λM I S f=>by
    have lM:M.toList.length=(Z-k)+k':=by rw[f.1.length_eq,CI];simp[c,zY]
    have ar2:Am I=Am st:=S.aep.trans ar1;have el:=eX (D+k) M.toList 0 (Am st) (by grind);rw[Vj,lM,show D+k+(Z-k+k')=D+Z+k' by(clear W J xl y0 c T F G H U L R o r V K l g P u;lia)]at el;generalize hN:M.toList.zipIdx.foldl (λa x=>a.setIfInBounds (D+k+x.2) x.1) (Am I)=N;have eN:N.toList=(Am st).toList.take (D+k)++M.toList++(Am st).toList.drop (D+Z+k'):=by rw[<-hN,ar2];exact el
    have perm:N.Perm (Am I):=by
      rw[ar2,Sm,eN];have sp:=ABm (Am st) (i:=D+k) (j:=D+Z) (k:=D+Z+k') (by simp_all) (by simp) (by lia);rw[hX,hY]at sp;conv=>rhs;rw[sp]
      exact ACU _ (AAC _ f.1)
    have lt:((Am st).toList.take (D+k)).length=D+k:=by simp;(clear lM W J xl y0 zY c T F G H U L R l g P u;lia)
    have nOut:∀z,z<D+k\/D+Z+k'<=z->N[z]?=(Am st)[z]?:=λz hz'=>by
      rw[<-OV,<-OV,eN];rcases hz' with q|q;.rw[Ei,OC (Bc q (Bo lt.symm)),bQ q]
      . rw[Py (by rw[CI];(clear W J xl y0 c T F G H U L R o r V K l g P u;lia)),CI,lt,lM,List.getElem?_drop];congr 1;(clear W J xl y0 c T F G H U L R o r V K l g P u;grind)
    have nIn:∀z,D+k<=z->z<D+Z+k'->N[z]?=M[z-(D+k)]?:=λz v q2=>by rw[<-OV,<-OV,eN,Ei,Py (Ak (Bo lt) v),lt,OC (by(clear W J xl y0 c T F G H U L R o r V K l g P u;grind))]
    have upM:DY kf M 0 M.size:=LV f.2 (Al _);have sM:M.size=(Z-k)+k':=by rw[<-lM];simp
    have inM:∀z,D+k<=z->z<D+Z+k'->∃m,D+k<=m/\m<D+Z+k'/\BS kf N z=BS kf (Am st) m:=λz v q2=>by
      have hz2:z-(D+k)<M.size:=by(clear W J xl y0 c T F G H U L R o r V K l g P u;grind)
      have hm:M[z-(D+k)]∈X.toList++Y.toList:=f.1.mem_iff.mp (by simp);rw[Gn (nIn z v q2),Dt hz2];rcases DN.mp hm with q|q;. obtain⟨m,v,q2,hm,e⟩:=mX _ q;exact⟨m,v,Nat.lt_add_right _ q2,by rw[e,Dt hm]⟩
      . obtain⟨m,v,q2,hm,e⟩:=mY _ q;exact⟨m,Ak (Fg hk _) v,q2,by rw[e,Dt hm]⟩
    refine h _ (S.sb.ny perm) (S.zi.trans pe1) ?_ λz hz'=>Gn (nOut z (by(clear sM lM W J xl y0 c T F G U L R o r hk V K l g P u;lia)));show DY kf N D (D+(Z+nb));intro x y h1 h2 h3;by_cases x1:x<D+k
    . rw[Gn (nOut x (.inl x1))];have all:∀m,D+k<=m->m<D+Z+nb->O.kle (BS kf (Am st) x) (BS kf (Am st) m):=λm v q2=>by
        by_cases q3:m<D+Z;.exact ua x m h1 (Ak (B7 x1) v) q3
        .exact HY (lowA x h1 x1) (ub _ m (Al _) (by(clear q2 v x1 h3 h2 h1 sM lM W J xl y0 zY c T F G H U L R o r hk V K l g P u;simp_all)) q2)
      by_cases y1:y<D+k;. rw[Gn (nOut y (.inl y1))];exact ua x y h1 h2 (Bc y1 (Fg hk _))
      . by_cases y2:y<D+Z+k';. obtain⟨m,v,q2,e⟩:=inM y (by(clear y2 x1 h3 h2 h1 sM lM W J xl y0 zY c T F G H U L R o r hk V K l g P u;simp_all)) y2;rw[e];exact all m v (Bc q2 (Fg H _))
        . rw[Gn (nOut y (.inr (by(clear y1 x1 h3 h2 h1 sM lM W J xl y0 c T F G H U L R o r hk V K l g P u;simp_all))))];exact all y (by(clear y2 x1 h3 h2 h1 sM lM W J xl y0 zY c T F G H U L R o r hk V K l g P u;simp_all)) (by(clear y2 y1 x1 h2 h1 sM lM W J xl y0 zY c T F G H U L R o r hk V K l g P u;lia))
    . by_cases x2:x<D+Z+k'
      . by_cases y2:y<D+Z+k'
        . rw[Gn (nIn x (by(clear y2 x2 h3 h2 h1 sM lM W J xl y0 zY c T F G H U L R o r hk V K l g P u;simp_all)) x2),Gn (nIn y (Ak (GV x1) h2) y2)];exact upM _ _ (by simp) ((cG (Ak (GV x1) h2)).mpr h2) (by(clear x2 h3 h1 W J xl y0 c T F G H U L R o r V K l g P u;grind))
        . rw[Gn (nOut y (.inr (by(clear x2 x1 h3 h2 h1 sM lM W J xl y0 c T F G H U L R o r hk V K l g P u;simp_all))))];obtain⟨m,v,q2,e⟩:=inM x (by(clear y2 x2 h3 h2 h1 sM lM W J xl y0 zY c T F G H U L R o r hk V K l g P u;simp_all)) x2;rw[e];by_cases q3:m<D+Z;.exact HY (ua m (D+Z-1) (D8 v) (cB q3) (AAe q3)) (highB y (by(clear q3 q2 v x2 x1 h3 h2 h1 sM lM W J xl y0 c T F G H U L R o r hk V K l g P u;simp_all)) (by(clear q3 q2 v y2 x2 x1 h2 h1 sM lM W J xl y0 zY c T F G H U L R o r hk V K l g P u;lia)))
          .exact ub m y (by(clear q2 v y2 x2 x1 h3 h2 h1 sM lM W J xl y0 zY c T F G H U L R o r hk V K l g P u;simp_all)) (Ak (B7 q2) (GV y2)) (by(clear q3 q2 v y2 x2 x1 h2 h1 sM lM W J xl y0 zY c T F G H U L R o r hk V K l g P u;lia))
      . rw[Gn (nOut x (.inr (by(clear x1 h3 h2 h1 sM lM W J xl y0 c T F G H U L R o r hk V K l g P u;simp_all)))),Gn (nOut y (.inr (Ak (GV x2) h2)))];exact ub x y (D8 (GV x2)) h2 (by(clear x2 x1 h2 h1 sM lM W J xl y0 zY c T F G H U L R o r hk V K l g P u;lia))
  have fin2:∀(M:Array BA)(I:Ci),IK κ d st1 I->GG (Bl kf) X.toList Y.toList M.toList->ND (P7 I (M.toList.zipIdx.foldl (λa x=>a.setIfInBounds (D+k+x.2) x.1) (Am I)))=AF:=λM I S _=>S.sb.mz;by_cases le:Z-k<=k'
  . refine C9 le ?_;refine BH (ABw C B1 inX inY (AFy (Kg.mpr R) c.symm) (AFy (Kg.mpr T) zY.symm) pX pY J W λM I S f=>?_);refine BH (Jy (BH (ML ?_)));have:=fin M I S f;have e:=fin2 M I S f;refine BX ?_;show Q (ND (P7 I _)).isNone _;rw[e];exact this
  . refine DQ le ?_;refine BH (ABv C B1 inX inY (Nat.one_le_of_lt (Bc (MF le) (Bo c.symm))) (AFy (Kg.mpr T) zY.symm) pX pY J W λM I S f=>?_);refine BH (Jy (BH (ML ?_)));have:=fin M I S f;have e:=fin2 M I S f;refine BX ?_;show Q (ND (P7 I _)).isNone _;rw[e];exact this
def F3{O:Vu}(kf:AK->O.α)(xs:Array BA):Nat->List (Nat×Nat×Nat)->Nat->Prop|x,[],y=>x=y|x,(s,n,_)::r,y=>s=x/\1<=n/\DY kf xs s (s+n)/\F3 kf xs (x+n) r y
theorem F3.le{O:Vu}{kf:AK->O.α}{xs:Array BA}:∀{l:List (Nat×Nat×Nat)}{x y:Nat},F3 kf xs x l y->x+l.length<=y|[],x,y,h=>by exact Bo h|(s,n,p)::r,x,y,h=>by lk;obtain⟨_,J,_,D⟩:=h;k_in;have:=F3.le D;grind
theorem QR{O:Vu}{kf:AK->O.α}{xs:Array BA}:∀{l m:List (Nat×Nat×Nat)}{x z:Nat},F3 kf xs x (l++m) z↔∃y,F3 kf xs x l y/\F3 kf xs y m z
 |[],m,x,z=>⟨λh=>⟨x,rfl,h⟩,λ⟨y,D,J⟩=>by have D:x=y:=D;simp_all⟩|(s,n,p)::r,m,x,z=>by
  constructor
  . intro Y;lk;obtain⟨D,J,U,Z⟩:=Y;obtain⟨y,V,W⟩:=QR.mp Z;k_in;exact⟨y,⟨D,J,U,V⟩,W⟩
  . intro Y;lk;obtain⟨y,⟨D,J,U,V⟩,W⟩:=Y;k_in;exact⟨D,J,U,QR.mpr ⟨y,V,W⟩⟩
theorem F3.ae{O:Vu}{kf:AK->O.α}{xs ys:Array BA}:∀{l:List (Nat×Nat×Nat)}{x y:Nat},F3 kf xs x l y->(∀k,x<=k->k<y->BS kf ys k=BS kf xs k)->F3 kf ys x l y|[],x,y,h,_=>h|(s,n,p)::r,x,y,⟨W,Y,Z,V⟩,k=>by have:=F3.le V;subst W;exact⟨rfl,Y,λi j D J U=>by rw[k i D (Bc (HX J U) (D8 this)),k j (Ak D J) (Bc U (D8 this))];exact Z i j D J U,F3.ae V (λz u2 u3=>k _ (D8 u2) u3)⟩
theorem fG{J:Array BA}{st:Ci}(C:F4 prog w A s P O kf J)(B:Cm P J st)(c:F3 kf (Am st) 0 (CG st).toList hi)(K:i+1<(CG st).size)(a:hi<=J.size)(h:∀D,Cm P J D->(CG D).size+1=(CG st).size->F3 kf (Am D) 0 (CG D).toList hi->(∀k,hi<=k->BS kf (Am D) k=BS kf (Am st) k)->Q AJ D):Ex (An prog w) A E s (mergeAt' i) Q st:=by
  lk;obtain⟨⟨W,Y,L⟩,T⟩:∃x,(CG st)[i]?=AA x:=⟨_,AFx _ i (by omega)⟩;obtain⟨⟨m,Z,H⟩,X⟩:∃x,(CG st)[i+1]?=AA x:=(by simp_all);k_in;have z:(CG st).toList=(CG st).toList.take i++(W,Y,L)::(m,Z,H)::(CG st).toList.drop (i+2):=by
    have F:=IE K;have G:i+1<(CG st).toList.length:=by assumption
    conv=>lhs;rw[<-OE i (CG st).toList]
    congr 1;rw[bN F,bN G];grind
  have V:=List.length_take_of_le (D8 (B7 K));generalize(CG st).toList.take i=F at z V;generalize(CG st).toList.drop (i+2)=G at z;rw[z]at c;lk;obtain⟨y,S,⟨e,f,g,⟨j,M,l,I⟩⟩⟩:=QR.mp c;k_in;subst e j;have U:=I.le;refine ABu C B T X f M (Ak (D8 U) a) g l λD R b u k=>h D R ?_ ?_ (λN u2=>k _ (AAh _ (Ak (D8 U) u2)));.grind
  . have d:(CG D).toList=F++(W,Y+Z,L)::G:=by rw[b];simp only[Array.toList_eraseIdxIfInBounds,AB2,z];rw[List.set_append_right _ _ (Bo V),V,cH,List.set_cons_zero,List.eraseIdx_append_of_length_le (Kf (Bo V)),V];simp
    rw[d];refine QR.mpr ⟨W,S.ae (λN u2 u3=>k _ (Fi u3)),rfl,AAU M,u,?_⟩;rw[show W+(Y+Z)=W+Y+Z by exact Eq.comm.mp (Nat.add_assoc _ _ _)];exact I.ae (λN u2 u3=>k _ (AAh _ u2))
theorem eU{O:Vu}{kf:AK->O.α}{xs:Array BA}:∀{l m:List (Nat×Nat×Nat)}{x y:Nat},l.map (λv=>(v.1,v.2.1))=m.map (λv=>(v.1,v.2.1))->F3 kf xs x l y->F3 kf xs x m y|[],[],_,_,_,h=>h|[],_::_,_,_,e,_=>by cases e|_::_,[],_,_,e,_=>by cases e|(a,n,p)::l,(b,k,q)::m,x,y,e,⟨J,U,V,W⟩=>by have e:=EH e;have D:=e.1;cases D;exact⟨J,U,V,eU e.2 W⟩
theorem fC{B:OJ}{O:Vu}{kf:AK->O.α}{J:Array BA}{D:Ci}{lo m x:Nat}(V:Cm B J D)(Z:F3 kf (Am D) 0 (CG D).toList lo)(u3:DY kf (Am D) lo (lo+m))(Y:1<=m)(z:lo+m<=J.size)(A:x<=lo\/J.size<=lo):Cm B J (cV D ((CG D).push (lo,m,0)))/\∃U,((AF,lo+m):Option Unit×Nat)=(AF,U)/\(x+1<=U\/J.size<=U)/\U<=J.size/\F3 kf (Am (cV D ((CG D).push (lo,m,0)))) 0 (CG (cV D ((CG D).push (lo,m,0)))).toList U:=by refine⟨⟨V.nv,V.jf,V.mz⟩,_,rfl,Or.imp (λW=>Nat.add_le_add W Y) (λW=>AAV W) A,z,?_⟩;rw[AB1];exact QR.mpr ⟨lo,Z,rfl,Y,u3,rfl⟩
theorem fI{K:OJ}{D:Array BA}{st:Ci}(C:F4 prog w A s K O kf D)(B:Cm K D st)(p0:CG st=#[])(h:∀V,Cm K D V->DY kf (Am V) 0 D.size->Q () V):Ex (An prog w) A E s sortRuns' Q st:=by
  rw[sortRuns'_eq];refine BH (ML ?_);dsimp only;simp only[B.yh];generalize minRun' D.size D.size 0=o;refine BH (Iu (IF (I:=λx c V=>Cm K D V/\∃W,c=(AF,W)/\(x<=W\/D.size<=W)/\W<=D.size/\F3 kf (Am V) 0 (CG V).toList W) (Q:=λc V=>Cm K D V/\c=(AF,D.size)/\F3 kf (Am V) 0 (CG V).toList D.size) ?jx ?fin ?adb) ?post);case adb=>exact⟨B,0,rfl,.inl (Al _),Bd _,by rw[p0];rfl⟩
  case fin=>
    intro c V Z;lk;obtain⟨S,W,rfl,t,R,c⟩:=Z;obtain rfl:W=D.size:=by lia
    k_in;exact⟨S,rfl,c⟩
  case post=>
    intro c V Z;lk;obtain⟨S,rfl,c⟩:=Z;k_in;dsimp only;refine BH (Iu (IF (I:=λx c J=>c=(AF,())/\Cm K D J/\F3 kf (Am J) 0 (CG J).toList D.size/\((CG J).size+x<=D.size\/(CG J).size<=1)) (Q:=λc J=>c=(AF,())/\Cm K D J/\F3 kf (Am J) 0 (CG J).toList D.size/\(CG J).size<=1) ?t1 ?t2 ?t3) ?t4);case t3=>exact⟨rfl,S,c,.inl (by have:=c.le;simp at this;omega)⟩
    case t2=> intro Y J Z;lk;obtain⟨rfl,H,Y,q⟩:=Z;k_in;exact⟨rfl,H,Y,by lia⟩
    case t4=> intro Y J Z;lk;obtain⟨rfl,H,Y,q⟩:=Z;k_in;refine BX (h J H ?_);generalize(CG J)=P at Y q;obtain⟨l⟩:=P;match l,q,Y with
      |[],_,Y=> have Y:0=D.size:=Y;intro i j _ _ q3;exact AEj.mp (λu1=>Nat.ne_zero_of_lt q3 Y.symm)|[(a,n,p)],_,Y=> lk;obtain⟨e1,_,u,e2⟩:=Y;k_in;have e2:0+n=D.size:=e2;subst e1;rw[<-e2];exact u
    case t1=>
      intro x Y J _ g Z;lk;obtain⟨rfl,H,Y,q⟩:=Z;k_in;refine BH (ML ?_);by_cases z:(CG J).size<=1
      . refine C9 z ?_;exact BX ⟨rfl,H,Y,z⟩
      . refine DQ z ?_;generalize hi:(if Option.any _ _=AJ then(CG J).size-2-1 else(CG J).size-2)=i;have aux:∀(c:Prop)[Decidable c](u v N:Nat),u+1<N->v+1<N->(if c then u else v)+1<N:=λc _ u v N h1 h2=>by split<;>assumption
        refine BH (fG C H Y (by rw[<-hi];exact aux _ _ _ _ (by omega) (Nat.add_lt_iff_lt_sub_right.mpr (Ja _ _ (MF z)))) (Al _) λF T z3 X _=>?_);exact BX ⟨rfl,T,X,by(constructor<;>lia)⟩
  case jx=>
    intro x c V _ g Z;lk;obtain⟨S,W,rfl,t,R,c⟩:=Z;k_in;dsimp only;by_cases z:W>=D.size
    . refine C9 z ?_;obtain rfl:W=D.size:=Fh R z;exact BX ⟨S,rfl,c⟩
    refine DQ z ?_;refine BH (ABs C (Bo (Iq R)) (cC.mp (Vl.mpr (MF z))) S λn J H K2 r e u2=>?_);have Y:F3 kf (Am J) 0 (CG J).toList W:=by rw[K2.zi];exact c.ae λk _ k2=>Gn (K2.adw k k2)
    dsimp only;by_cases d:n<o;all_goals first
      | (refine C9 d ?_;refine BH (P8 (QQ ⟨rfl,?_⟩));refine BH (ABr C ((ME (B7 (MF z))).mp (LO _ _)) (Nat.le_min_of_le_of_le e (B7 d)) H u2 λF T K3 u3=>?_);refine DQ (by simp) ?_;have G:1<=Ds (D.size-W) o/\W+Ds (D.size-W) o<=D.size:=by lia
         have X:F3 kf (Am F) 0 (CG F).toList W:=by rw[K3.zi];exact Y.ae λk _ k2=>Gn (K3.adw k k2)
         generalize Ds (D.size-W) o=m at u3 G⊢) | (refine DQ d ?_;have G:1<=n/\W+n<=D.size:=⟨r,(ME (B7 (MF z))).mp e⟩;have T:=H;have X:=Y;have u3:=u2;generalize n=m at u3 G⊢;generalize J=F at T X u3⊢)
    all_goals refine BH (ML ?_);cases hb:(CG F).back? with |none=>exact BH (Jy (BX (fC T X u3 G.1 G.2 (by omega))))|some b=>
        lk;obtain⟨s1,m1,pw⟩:=b;k_in;dsimp only;generalize power' D.size (2*s1+m1) (2*s1+m1+m1+m) D.size=pp;refine BH (Iu (IF (I:=λ_ c U=>c=(AF,())/\Cm K D U/\F3 kf (Am U) 0 (CG U).toList W/\DY kf (Am U) W (W+m)) ?r1 (λ_ _ q=>q) ⟨rfl,T,X,u3⟩) ?r2);case r1=>
          intro y M U _ hy Z;lk;obtain⟨rfl,L,M,f⟩:=Z;k_in;refine BH (ML ?_);by_cases z4:(CG U).size>1
          . have e4:=AFx (CG U) ((CG U).size-2) (by(clear hy G d e r z R t g;omega));simp only[AFi z4,e4];split;.exact BX ⟨rfl,L,M,f⟩
            . refine BH (fG C L M (by(clear hy G d e r z R t g;lia)) R λst5 B5 z5 c5 k5=>?_);exact BX ⟨rfl,B5,c5,λi j w1 w2 w3=>by rw[k5 i w1,k5 j (by(clear w3 z5 hy G d e r z R t g;lia))];exact f i j w1 w2 w3⟩
          . simp only[AFh z4];exact BX ⟨rfl,L,M,f⟩
        case r2=> intro M U Z;lk;obtain⟨rfl,L,M,f⟩:=Z;k_in;dsimp only;refine BH (Jy (BH (Jy (BX ?_))));have B5:Cm K D (cV U ((CG U).modify ((CG U).size-1) λx=>(x.1,x.2.1,pp))):=⟨L.nv,L.jf,L.mz⟩;refine fC B5 ?_ f G.1 G.2 (by omega);refine eU (l:=(CG U).toList) ?_ M;rw[Array.toList_modify];refine AAE λk=>?_;rw[CD,CD,List.getElem?_modify];cases(CG U).toList[k]? with |none=>rfl|some v=>
            show AA _=AA _;by_cases w:(CG U).size-1=k;.simp[w]
            .simp[w]
noncomputable def Dg:AL->AL->Bool|.inl a,.inl b=>Ae (a<b)|.inl _,.inr _=>AJ|.inr _,.inl _=>AQ|.inr x,.inr y=>Ae (x.cps.toList<y.cps.toList)
theorem Rf:∀a,Dg a a=AQ|.inl a=>AFl (gN _)|.inr x=>AFl (List.lt_irrefl _)
theorem uS:∀{a b c},Dg a b=AJ->Dg b c=AJ->Dg a c=AJ|.inl a,.inl b,.inl c,D,J=>AFk (Qd (AFm D) (AFm J))|.inl _,.inl _,.inr _,_,_=>rfl|.inl _,.inr _,.inr _,_,_=>rfl|.inr x,.inr y,.inr z,D,J=>AFk (List.lt_trans (AFm D) (AFm J))
theorem uR:∀{a b},Dg a b=AQ->Dg b a=AQ->a=b|.inl a,.inl b,D,J=>by have D:=AFp D;have J:=AFp J;grind|.inr x,.inr y,D,J=>by have D:=AFp D;have J:=AFp J;rw[yJ (List.le_antisymm (by assumption) (List.not_lt.mp D))]
noncomputable def BN:List AL->List AL->Bool|[],[]=>AQ|[],_::_=>AJ|_::_,[]=>AQ|a::x,b::y=>if a=b then BN x y else Dg a b
theorem Mu:∀x,BN x x=AQ|[]=>rfl|a::x=>by rw[BN,AFi rfl];exact Mu x
theorem Rk:∀{x y z},BN x y=AJ->BN y z=AJ->BN x z=AJ
  |[],[],_,h,_=>by cases h|[],_::_,[],_,h=>by cases h|[],_::_,_::_,_,_=>rfl|_::_,[],_,h,_=>by cases h|_::_,_::_,[],_,h=>by cases h|a::x,b::y,c::z,D,J=>by
    unfold BN at D J⊢;by_cases W:a=b
    . subst W;rw[AFi rfl]at D;by_cases U:a=c;. subst U;rw[AFi rfl]at J⊢;exact Rk D J
      simp_all
    . rw[AFh W]at D;by_cases U:b=c;.simp_all
      . rw[AFh U]at J;have V:=uS D J;have:a≠c:=λe=>by rw[e,Rf]at V;cases V
        exact NL (AFh this) V
theorem Pa:∀{x y},BN x y=AQ->BN y x=AQ->x=y
 |[],[],_,_=>rfl|[],_::_,h,_=>by cases h|_::_,[],_,h=>by cases h|a::x,b::y,D,J=>by
  unfold BN at D J;by_cases e:a=b
  . subst e;rw[AFi rfl]at D J;rw[Pa D J]
  . rw[AFh e]at D;rw[AFh (El e)]at J;exact absurd (uR D J) e
@[reducible]noncomputable def Gz:Vu where
 α:=List AL
 blt:=BN
 irrefl:=Mu
 trans _ _ _:=Rk
 negTrans a b c h:=by cases e:BN a b with |true=>exact .inl rfl|false=>cases D:BN b a with |true=>exact .inr (Rk D h)|false=>rw[<-Pa e D];exact .inr h
 total _ _:=Pa
noncomputable def BP:AK->AL|.int i _=>.inl i|.str x _=>.inr x|_=>.inl 0
noncomputable def Hz(h:BJ):AK->List AL
 |.int i _=>[.inl i]|.str x _=>[.inr x]|.ref a=>match h.get? a with
  |AA o=>match o.data with |.seq D _=>D.toList.map BP|_=>[]
  |AF=>[]
 |_=>[]
theorem ABt{s:AV}{O:Vu}{vs:List AK}(Z:s.heap.get? a=AA (Cd "list" vs.toArray n))(N:vs.length<=Ay)(kf:AK->O.α)(z:∀Y,(∀b o,b≠a->s.heap.get? b=AA o->Y.get? b=AA o)->2<=vs.length->∃W,(∀(Q:OJ->AV->Prop)(E:AK->AV->Prop),Q W {s with heap:=Y}->As (An prog w) A (Vz vs.toArray) Q E {s with heap:=Y})/\F4 prog w A {s with heap:=Y} W O kf (Ir vs))(h:∀out:Array BA,out.Perm (Ir vs)->DY kf out 0 (Ir vs).size->P (.done (.ret .none)) {s with heap:=AAp s.heap a vs (out.map (·.2))}):As (An prog w) A (Builtin.«list.sort» ⟨[.ref a],[]⟩) P E s:=by
  rw[list_sort_plain];have X:a<s.heap.objs.size:=CS Z;refine BL (AAn Z rfl (BL (P6 Z rfl ?_)));lk;obtain⟨F,V⟩:∃F,(s.heap.update a (Em λ_=>#[])).get? a=AA (Cd "list" #[] F):=⟨_,Vy Z (λ_=>#[])⟩;k_in;refine BL (V0 V rfl (BL (AEd (BL (eT (QO ?_))))));generalize H:((s.heap.update a (Em λ_=>#[])).push (Cd "tuple" vs.toArray 0)).push (Cd "list" #[] 0)=G;have S:∀b o,b≠a->s.heap.get? b=AA o->G.get? b=AA o:=λb o L q=>by rw[<-H];exact DC _ (DC _ ((AA3 _ _ _ _ L).trans q))
  have J:G.get? a=AA (Cd "list" #[] F):=by rw[<-H];exact DC _ (DC _ V)
  have fin:=λout I K=>by have:=h out I K;unfold AAp at this;rw[H]at this;exact this
  dsimp only;by_cases D:vs.toArray.size<2
  . rw[AFi D,AFi D];refine BL (Cn ?_);rw[AEi];refine BL (Cn ?_);dsimp only;refine BL (V0 J rfl (BL (P6 J rfl ?_ (hsz2:=by grind))));simp only[AFw,MR,AFn];refine Cn (fin (vs.toArray.zip vs.toArray) (WG _) λi j _ c T=>?_);rw[pairsOf_size]at T;have M:vs.toArray.size=vs.length:=by simp
    obtain rfl:i=j:=by lia
    exact NB _
  . rw[AFh D,AFh D];lk;obtain⟨W,R,C⟩:=z G S (by simpa using D);k_in;refine BL (R _ _ ?_);refine BL (FV (fI C (st:=cN W (Ir vs) #[] 7 AF) (Q:=λ_ U=>Cm W (Ir vs) U/\DY kf (Am U) 0 (Ir vs).size) ⟨WG _,rfl,rfl⟩ rfl λU B u=>⟨B,u⟩) ?_ λ_ _ e=>e);rintro⟨⟨⟩,U⟩d⟨rfl,B,u⟩;dsimp only;refine BL (V0 J rfl (BL (P6 J rfl ?_ (hsz2:=by refine Ak (Bo ((fO ..).trans (B.nv.size_eq.trans (pairsOf_size _)))) ?_;exact Kf N))));rw[B.mz];simp only[AFw,MR,AFn];exact Cn (fin _ B.nv u)
noncomputable def B8:AL->Bool|.inl _=>AJ|.inr _=>AQ
def EX:AK->Prop|.int _ _=>True|.str _ _=>True|_=>False
theorem Zh(c:Bool)(D:EX x)(J:EX y)(U:B8 (BP x)=B8 (BP y))(h:Q (Dg (BP x) (BP y)) s):As (An prog w) A (oneLt' c x y) Q E s:=by
 cases x<;>first|exact D.elim|skip
 all_goals(cases y<;>first|exact J.elim|exact Hm (by assumption)|exact Hm (by assumption)|skip)
 .cases c with |true=>exact oneLt_int h|false=>exact dY _ _ (AAo h)
 .cases c with|true=>exact oneLt_str h|false=>exact dY _ _ (ADG h)
section
variable{prog:CN}{w:Bu}{A:Ck}{E:AK->AV->Prop}{s:AV}{Q:Bool->AV->Prop}
set_option tactic.hygienic true in theorem Ui{x y:AK}(D:EX x)(J:EX y)(hs:B8 (BP x)=B8 (BP y))(h:Q (Ae (BP x=BP y)) s):As (An prog w) A (eqBool x y) Q E s:=by
  cases x<;>first|exact D.elim|skip
  all_goals(cases y<;>first|exact J.elim|exact Hm (by assumption)|exact Hm _|skip)
  . rename_i a t c u;refine AFM a c t u _ w A E s Q ?_;have e:(a==c)=Ae (BP (.int a t)=BP (.int c u)):=by show(a==c)=Ae ((C5 a)=C5 c);grind
    simp_all
  . rename_i a t c u;refine ADB a c t u _ w A E s Q ?_;have e:(a==c)=Ae (BP (.str a t)=BP (.str c u)):=by show(a==c)=Ae ((B9 a)=B9 c);grind
    simp_all
end
theorem Zd:∀(xs ys:List AK)(i:Nat),(∀v∈xs,EX v)->(∀v∈ys,EX v)->xs.map (λv=>B8 (BP v))=ys.map (λv=>B8 (BP v))->Q (BN (xs.map BP) (ys.map BP)) s->dO prog w A b AQ Q (xs.zip ys) i s
 |[],[],_,_,_,_,h=>AD7 h|[],_::_,_,_,_,e,_=>by cases e|_::_,[],_,_,_,e,_=>by cases e|x::xs,y::ys,i,V,W,e,h=>by
  obtain⟨D,Y⟩:=EH e;have J:=V x DO;have U:=W y DO;have h:Q (if BP x=BP y then BN _ _ else Dg _ _) s:=h;refine V8 (Ui J U D (ABE (λq=>?_) λq=>?_));. rw[AFi (by(simpa using q))]at h;exact ABG (Zd xs ys _ (λZ u2=>V _ (Gh u2)) (λZ u2=>W _ (Gh u2)) Y h)
  . rw[AFh (AFp q)]at h;exact dX (Zh _ J U D h)
def FP(h:BJ)(u:AK)(ks:List AL):Prop:=∃a o D m,u=.ref a/\h.get? a=AA o/\o.cls=.type "tuple"/\o.data=.seq D m/\D.toList.map BP=ks/\∀v∈D.toList,EX v
theorem FP.kf(t:FP h u ks):Hz h u=ks:=by lk;obtain⟨a,o,D,m,rfl,e,_,d,k,_⟩:=t;k_in;simp only[Hz,e,d];exact k
inductive KP(h:BJ):List AK->List (List AL)->Prop|cI{vs kss}:vs.length=kss.length->(∀(i:Nat)u ks,vs[i]?=AA u->kss[i]?=AA ks->∃n t,u=.int n t/\ks=[.inl n])->KP h vs kss|cS{vs kss}:vs.length=kss.length->(∀(i:Nat)u ks,vs[i]?=AA u->kss[i]?=AA ks->∃n t,u=.str n t/\ks=[.inr n])->KP h vs kss|cT{vs kss}(sh:List Bool):vs.length=kss.length->sh≠[]->(∀(i:Nat)u ks,vs[i]?=AA u->kss[i]?=AA ks->FP h u ks/\ks.map B8=sh)->KP h vs kss
theorem KP.dh(x:KP h vs kss):vs.length=kss.length:=by cases x<;>assumption
theorem KP.kf(x:KP h vs kss):∀(i:Nat)u ks,vs[i]?=AA u->kss[i]?=AA ks->Hz h u=ks:=by intro i u ks D J;cases x with|cI _ f=>obtain⟨n,t,rfl,rfl⟩:=f i u ks D J;rfl|cS _ f=>obtain⟨n,t,rfl,rfl⟩:=f i u ks D J;rfl|cT _ _ _ f=>exact(f i u ks D J).1.kf
theorem K9{l:List J}{m:List U}(V:l.length=m.length)(h:x∈l):∃(i:Nat)(y:U),l[i]?=AA x/\m[i]?=AA y:=by lk;obtain⟨i,D,e⟩:=G8.mp h;k_in;exact⟨i,m[i]'(Bc D (Bo V)),(List.getElem_eq_iff D).mp e,(by simp)⟩
theorem KP.abu(x:KP h vs kss)(O:2<=vs.length)(kp:∀a o D m,.ref a∈vs->h.get? a=AA o->o.cls=.type "tuple"->o.data=.seq D m->s.heap.get? a=AA o):∃κ,(∀(Q:OJ->AV->Prop)(E:AK->AV->Prop),Q κ s->As (An prog w) A (Vz vs.toArray) Q E s)/\F4 prog w A s κ Gz (Hz h) (Ir vs):=by
  have L:∀p∈(Ir vs).toList,p.1∈vs:=λp B=>by rw[SR]at B;exact(cR B).2
  cases x with |cI Y f=>
    refine⟨oneType',λQ E q=>AD6 (T:=.type "int") O (λv C=>?_) (by decide) (by decide) q,⟨λp B q M Q E k=>?_⟩⟩
    . lk;obtain⟨i,U,V,W⟩:=K9 Y C;obtain⟨n,t,rfl,_⟩:=f i _ _ V W;k_in;exact .now
    . lk;obtain⟨i,U,V,W⟩:=K9 Y (L p B);obtain⟨j,ls,P,R⟩:=K9 Y (L q M);obtain⟨n,t,G,_⟩:=f i _ _ V W;obtain⟨m,t',u2,_⟩:=f j _ _ P R;k_in;rw[G,u2]at k⊢;rw[ADE];refine oneLt_int ?_;have e:Ae (n<m)=BN [.inl n] [.inl m]:=by show _=if(C5 n:AL)=C5 m then AQ else Ae (n<m);(split<;>simp_all)
      rw[e];exact k|cS Y f=>
    refine⟨oneType',λQ E q=>AD6 (T:=.type "str") O (λv C=>?_) (by decide) (by decide) q,⟨λp B q M Q E k=>?_⟩⟩
    . lk;obtain⟨i,U,V,W⟩:=K9 Y C;obtain⟨n,t,rfl,_⟩:=f i _ _ V W;k_in;exact .now
    . lk;obtain⟨i,U,V,W⟩:=K9 Y (L p B);obtain⟨j,ls,P,R⟩:=K9 Y (L q M);obtain⟨n,t,G,_⟩:=f i _ _ V W;obtain⟨m,t',u2,_⟩:=f j _ _ P R;k_in;rw[G,u2]at k⊢;rw[ADE];refine oneLt_str ?_;have e:Ae (n.cps.toList<m.cps.toList)=BN [.inr n] [.inr m]:=by show _=if(B9 n:AL)=B9 m then AQ else Ae (n.cps.toList<m.cps.toList);(split<;>simp_all)
      rw[e];exact k|cT g Y hn f=>
    have F:∀u∈vs,∃U,FP s.heap u U/\Hz h u=U/\U.map B8=g:=λu N=>by obtain⟨i,U,V,W⟩:=K9 Y N;obtain⟨t,z⟩:=f i u U V W;refine⟨U,?_,t.kf,z⟩;obtain⟨a,o,D,m,rfl,e,c,d,r⟩:=t;exact⟨a,o,D,m,rfl,(kp _ _ _ _ N e c d),c,d,r⟩
    refine⟨tuples' AJ,λQ E q=>?_,⟨λp B q M Q E k=>?_⟩⟩;.
      have b:∀(l:List AK),(∀u∈l,u∈vs)->∃H,AA9 s.heap l H/\H.length=l.length/\∀v∈H,EX v/\B8 (BP v)=g.headD AJ:=λl=>by induction l with |nil=>exactλ_=>⟨[],trivial,rfl,(λG u2=>absurd u2 M8)⟩|cons u l ih=>intro N;obtain⟨H,I,K,X⟩:=ih (λG u2=>N _ (Gh u2));obtain⟨U,⟨a,o,D,m,rfl,e,c,d,r,Z⟩,_,z⟩:=F u (N _ DO);obtain⟨l0⟩:=D;match l0,r,Z with |[],r,_=>simp_all|f0::l1,r,Z=> refine⟨f0::H,ABA e c d rfl I,AAS.mpr K,λv C=>?_⟩;grind
      lk;obtain⟨H,I,K,X⟩:=b vs λ_ h=>h;k_in;cases hh:g.headD AJ with
      |true=> refine V9 (T:=.type "int") I (AFr (IE O) K.symm) (λv C=>?_) (by decide) q;obtain⟨Z,z⟩:=X v C;rw[hh]at z;cases v<;>first|exact Z.elim|exact Hm (show AJ=AQ from z)|exact Hm (by assumption)|exact .now
      |false=> refine V9 (T:=.type "str") I (AFr (IE O) K.symm) (λv C=>?_) (by decide) q;obtain⟨Z,z⟩:=X v C;rw[hh]at z;cases v<;>first|exact Z.elim|exact Hm (by assumption)|exact Hm (show AQ=AJ from z)|exact .now
    . lk;obtain⟨U,⟨a,o,D,m,G,e,c,d,r,Z⟩,I,z1⟩:=F _ (L p B);obtain⟨ls,⟨a',o',J,m',u2,e',c',d',r',S⟩,K,z2⟩:=F _ (L q M);k_in;have k:Q (BN (Hz h p.1) (Hz h q.1)) s:=k;rw[I,K,<-r,<-r']at k;rw[G,u2];have y:=by
        have h1:(D.toList.map BP).map B8=(J.toList.map BP).map B8:=by rw[r,r',z1,z2]
        rw[C8,C8]at h1;exact h1
      have el:D.size=J.size:=by have:=AFj MD y;simpa using this
      refine ABF e d e' d' ?_;rw[AFl (Vo.mpr (Bo el.symm))];exact Zd _ _ 0 Z S y k
inductive Nt(K:Aq)(H:AI):List AE->List (List AL)->Prop|cI(ns:List Int):Nt K H (ns.map AE.int) (ns.map λn=>[.inl n])|cS(zs:List AG):Nt K H (zs.map AE.str) (zs.map λz=>[.inr z])|cT{xs:List AE}{kss:List (List AL)}(sh:List Bool):sh≠[]->BW (λx ks=>(∃a,x=.ref a/\Cb K H a (ks.map Au))/\ks.map B8=sh) xs kss->Nt K H xs kss
theorem Ph{U:List C}(p:U.Perm bs):∀{J:List B},BW F J bs->∃D,D.Perm J/\BW F D U:=by induction p with
 |nil=>intro J h;cases h;exact⟨[],.nil,.nil⟩|cons x _ I=>intro J h;cases h with|cons V W=>lk;obtain⟨D,z,A⟩:=I W;k_in;exact⟨_,z.cons _,.cons V A⟩
 |swap x y l=>intro J h;cases h with|cons V W=>cases W with|cons G H=>exact⟨_,bM _ _ _,.cons G (.cons V H)⟩
 |trans _ _ Y Z=> intro J h;lk;obtain⟨M,z,A⟩:=Z h;obtain⟨E,K,L⟩:=Y A;k_in;exact⟨E,K.trans z,L⟩
theorem Cf{l:List D}{m:List J}(h:BW F l m):l.length=m.length/\∀(i:Nat)a b,l[i]?=AA a->m[i]?=AA b->F a b:=by refine⟨?_,λ_ _ _=>Pg h⟩;induction h with|nil=>rfl|cons _ _ U=>exact AFj _ U
theorem KS:∀{ks:List AL}{J:List AK},Bb (ks.map Au) J->J.map BP=ks/\∀v∈J,EX v|[],_,h=>by cases h;simp|k::ks,_,h=>by cases h with|cons U V=>obtain⟨e,f⟩:=KS V;cases k with|inl i=>obtain⟨t,rfl⟩:=U;exact⟨by rw[F1,e];rfl,λv D=>by rcases CJ.mp D with rfl|D;exact IL;simp_all⟩|inr x=>obtain⟨t,rfl⟩:=U;exact⟨by rw[F1,e];rfl,λv D=>by rcases CJ.mp D with rfl|D;exact IL;simp_all⟩
theorem Nt.aax(I:Aa X B e H s)(h:Nt X.K H xs kss)(r:Bb xs its):KP s.heap its kss:=by have M:=r.ar;cases h with|cI c=>refine .cI (by simp_all) λi u A Y D=>?_;rw[CD]at D;lk;obtain⟨n,J,rfl⟩:=EI.mp D;obtain⟨C,U,t,W⟩:=r.vm (i:=i) (x:=.int n) (by simp_all);k_in;grind|cS d=>refine .cS (by simp_all) λi u A Y D=>?_;rw[CD]at D;lk;obtain⟨n,J,rfl⟩:=EI.mp D;obtain⟨C,U,t,W⟩:=r.vm (i:=i) (x:=.str n) (by simp_all);k_in;grind|cT R N p=>obtain⟨F,G⟩:=Cf p;refine .cT R (NL M.symm F) N λi u A Y D=>?_;have S:=(BV.mp D).1;have J:xs[i]?=AA xs[i]:=(by simp);lk;obtain⟨⟨a,E,P⟩,z⟩:=G i _ _ J D;obtain⟨C,U,W⟩:=r.vm J;rw[Y]at U;cases U;rw[E]at W;obtain rfl:u=DV a:=W;obtain⟨Z,Q,⟨o,O,K,n,L⟩,_⟩:=I.gf P;obtain⟨T,b⟩:=KS Q;k_in;exact⟨⟨a,o,_,n,rfl,O,K,L,by assumption,by assumption⟩,z⟩
theorem wI(r:Bb ys its)(z:its.length=kss.length)(F:∀(i:Nat)u ks,its[i]?=AA u->kss[i]?=AA ks->kf u=ks)(p:out.Perm (Ir its))(u:DY (O:=Gz) kf out 0 (Ir its).size):∃qs:List (AE×List AL),qs.Perm (ys.zip kss)/\Bb (qs.map (·.1)) (out.map (·.2)).toList/\(qs.map (·.2)).Pairwise (λa b=>BN b a=AQ):=by
  have B:out.toList.Perm (its.zip its):=by rw[<-SR];exact Sm.mp p
  have X:∀q∈out.toList,q.1=q.2/\q.1∈its:=λq G=>cR (B.mem_iff.mp G);have C:(out.map (·.2)).toList=out.toList.map (·.2):=AB0 ..;have K:=by have:=B.map (·.2);rwa[AAM (Al _)]at this
  have S:=r.ar;have I:BW (λ(q:AE×List AL)v=>Bn q.1 v/\kf v=q.2) (ys.zip kss) its:=by refine G0 (by(simp[*])) λi a b U W=>?_;obtain⟨E,N⟩:=Ka.mp U;obtain⟨v,P,Q⟩:=r.vm E;grind
  lk;obtain⟨qs,L,M⟩:=Ph K I;obtain⟨H,R⟩:=Cf M;k_in;refine⟨qs,L,?_,?_⟩
  . rw[C];refine G0 (NL (BB _) H) λi a b U W=>?_;grind
  . rw[HV];intro i j Y Z D;rw[BB]at Y Z;have T:=p.size_eq.symm;have A:∀k(z:k<qs.length),(qs[k]).2=BS (O:=Gz) kf out k:=λk z=>by
      have J:k<out.size:=by simp_all
      rw[Dt J];have W:(out.toList.map (·.2))[k]?=AA out[k].2:=by simp_all
      grind
    have:=u i j (Bd _) (B7 D) (by simp_all);rw[<-A i Y,<-A j Z]at this;rw[bS,bS];exact this
theorem R4(I:Aa X pins σ H s)(hz:ys.length<=Ay)(hc:∀(Q:List AK->AV->Prop)(E:AK->AV->Prop),(∀h1 tk its,(∀b o,s.heap.get? b=AA o->h1.get? b=AA o)->s.heap.objs.size<=h1.objs.size->Bb ys its->Q its {s with heap:=h1,toks:=tk})->As (An X.ai X.w) X.A.in1 (collect (.ref p)) Q E s)(sk:∀its,Bb ys its->its.length=kss.length/\∃kf,(∀(i:Nat)u ks,its[i]?=AA u->kss[i]?=AA ks->kf u=ks)/\∀s':AV,(∀b o,s.heap.get? b=AA o->s'.heap.get? b=AA o)->2<=its.length->∃κ,(∀(Q:OJ->AV->Prop)(E:AK->AV->Prop),Q κ s'->As (An X.ai X.w) X.A.in1.in1 (Vz its.toArray) Q E s')/\F4 X.ai X.w X.A.in1.in1 s' κ Gz kf (Ir its))(q:∀l(qs:List (AE×List AL)),H l=AF->qs.Perm (ys.zip kss)->(qs.map (·.2)).Pairwise (λa b=>BN b a=AQ)->Q (.ref l) (AO H l (.lst (qs.map (·.1))))):As (An X.ai X.w) X.A (Jb (.builtin "sorted") [.ref p]) (FZ X pins σ Q) X.xe s:=by
 refine Calls.call_function_entry kind_sorted plain_sorted entry_sorted (args_sorted1 _) ?_;refine BL (Cn ?_);refine BL (hc _ _ λh1 tk its k1 grow rv=>?_);lk;obtain⟨hk,kf,hkf,cm⟩:=sk its rv;k_in;have ra:=Ak (Bo rv.ar.symm) hz;refine BL (eT ?_ ra);have hoL:(h1.push _).get? h1.objs.size=AA (Cd "list" its.toArray 0):=Gk _ rfl;refine BL (QO (ABf ADL ⟨_,hoL,rfl⟩ AC9 (ABt (O:=Gz) hoL ra kf (λh' k' h2=>cm _ (λa o e=>k' a o (Dz (CS (k1 a o e))) (DC _ (k1 a o e))) h2) λout p u=>⟨_,rfl,Cn ⟨_,rfl,?_⟩⟩) (args_list_sort _)));lk;obtain⟨qs,q1,q2,q3⟩:=wI rv hk hkf p u;obtain⟨e',ho⟩:=sortedHeap_at (a:=h1.objs.size) (vs:=its) (out:=out.map (·.2)) hoL;k_in;have lz:(qs.map (·.1)).length<=Ay:=by rw[BB,q1.length_eq,ACf];exact Ak (LO _ _) hz
 have old:∀b o,s.heap.get? b=AA o->(AAp (h1.push (Cd "list" its.toArray 0)) h1.objs.size its (out.map (·.2))).get? b=AA o:=λb o e=>by have e1:=k1 b o e;have hlt:=CS e1;rw[sortedHeap_old (Dz hlt) (by rw[size_push'];exact AAZ hlt)];exact DC _ e1
 exact⟨.ref h1.objs.size,_,I.nu (a:=h1.objs.size) (o:=.lst (qs.map (·.1))) (t':=tk) old grow ⟨lz,_,e',q2,by rw[WH];exact ho⟩,rfl,q _ qs (I.cp.bw grow) q1 q3⟩
theorem Ud{X:Be}{s:AV}(U:Bb ys its)(W:PlainL s.heap p its.toArray)(Z:ys.length<=Ay)(Q:List AK->AV->Prop)(E:AK->AV->Prop)(f:∀D Y its,(∀b o,s.heap.get? b=AA o->D.get? b=AA o)->s.heap.objs.size<=D.objs.size->Bb ys its->Q its {s with heap:=D,toks:=Y}):As (An X.ai X.w) X.A.in1 (collect (.ref p)) Q E s:=by have J:=U.ar;refine collect_list W.isList (f _ _ _ (λb o e=>(AA3 _ _ _ _ (Dz (CS e))).trans (DC _ e)) ?_ U) (by simp_all);simp_all
theorem sZ{K:Aq}(z:X.K=K:=by rfl):Ez X (.builtin "sorted") (λxs H Q=>∃(p:AD)(ys:List AE)(kss:List (List AL)),xs=[.ref p]/\Bx K H p ys/\Nt K H ys kss/\∀l(qs:List (AE×List AL)),H l=AF->qs.Perm (ys.zip kss)->(qs.map (·.2)).Pairwise (λa b=>BN b a=AQ)->Q (.ref l) (AO H l (.lst (qs.map (·.1))))):=by subst z;intro Y s M H xs L Q I r h;lk;obtain⟨p,ys,kss,rfl,A,F,q⟩:=h;obtain⟨u,rfl,E⟩:=Ip r;cases E;obtain⟨D,J,C,W⟩:=I.iq A;k_in;refine R4 I W (Ud J C W) (λD J=>?_) q;have U:=F.aax I J;exact⟨U.dh,_,U.kf,λG B Z=>U.abu Z λa o _ _ _ e _ _=>B a o e⟩
theorem tG(K:W.KdlSrc prog w T r d n P B)(M:A.handled=AF)(Z:B s.heap)(N:n<=Ay)(L:∀J V(D:Array AK),(∀b o,s.heap.get? b=AA o->J.get? b=AA o)->s.heap.objs.size<J.objs.size->ItemsOf P D n->Q D.toList {s with heap:=J,toks:=V}):As (An prog w) A (collect (.ref r)) Q E s:=by
 refine BL (wpAny_runValue (ABR F.entry_proto_collect ?_));refine BL (ABj ?_);refine Cn ⟨plainId_quiet F.plain_list_iadd _,ABR F.entry_list_iadd ?_⟩;have U:(s.heap.push {cls:=.type "list",data:=.seq ([]:List AK).toArray}).get? _=AA _:=Gk _ rfl;have G:=K.there _ Z;have I:∀b o,s.heap.get? b=AA o->(s.heap.push {cls:=.type "list",data:=.seq ([]).toArray}).get? b=AA o:=λb o e=>DC _ e;have X:∀W,(∃J V D z,W={s with heap:=J,toks:=V}/\(∀b o,b≠s.heap.objs.size->(s.heap.push {cls:=.type "list",data:=.seq ([]:List AK).toArray}).get? b=AA o->J.get? b=AA o)/\J.get? s.heap.objs.size=AA {cls:=.type "list",dict:=AF,data:=.seq D z,slots:=#[]}/\ItemsOf P D n)->As (An prog w) A (load _>>=λo=>match o.data with|.seq g _=>Bf g.toList|_=>unsupported "internal:collect") Q E W:=λW⟨J,V,D,z,e,O,H,S⟩=>by subst e;refine BL (wpAny_load H ?_);exact Cn (L J V D (λb o e=>O b o (Dz (CS e)) (I b o e)) (CS H) S)
 refine FV (W.kdl_extend (A:=A) (R:=λr W=>r=.ok (.ret (.ref s.heap.objs.size))/\∃J V D z,W={s with heap:=J,toks:=V}/\(∀b o,b≠s.heap.objs.size->(s.heap.push {cls:=.type "list",data:=.seq ([]:List AK).toArray}).get? b=AA o->J.get? b=AA o)/\J.get? s.heap.objs.size=AA {cls:=.type "list",dict:=AF,data:=.seq D z,slots:=#[]}/\ItemsOf P D n) K M (K.keep _ _ Z (λh u2 u3 a=>I _ _ a)) _ (NA G.1) (NA G.2) _ 0 U (by simp_all) N) (λfin W C=>?_) (by simp);cases fin with|done f=>grind|again c=>refine⟨C.1,QK C.2 λr s2 Y=>?_⟩;obtain⟨e,q⟩:=Y;grind
theorem PL(hc:X.ic=AJ):Ez X (.builtin "sorted") (λxs H Q=>∃(d:AD)(kvs:List (AL×AE)),xs=[.ref d]/\H d=AA (.dK kvs)/\((∀p∈kvs,∃i,p.1=.inl i)\/∀p∈kvs,∃i,p.1=.inr i)/\∀l(ks:List AL),H l=AF->ks.Perm (kvs.map (·.1))->ks.Pairwise (λa b=>Dg b a=AQ)->Q (.ref l) (AO H l (.lst (ks.map Au)))):=by
  intro pins s σ H xs us Q I r h;lk;obtain⟨d,kvs,rfl,e,hty,q⟩:=h;obtain⟨u,rfl,ru⟩:=Ip r;cases ru;obtain⟨z,lo,vs,rel,dd⟩:=PN I.cp e;obtain⟨ep,hat⟩:=dd.dictAt;k_in;have hlen:kvs.length=vs.length:=Iw rel;have sv:∀{its:List AK},Bb (kvs.map λp=>Au p.1) its->KP s.heap its (kvs.map λp=>[p.1]):=λ{its}rv=>by
    have ra:=rv.ar;rw[BB]at ra;rcases hty with hty|hty
    . refine .cI (by rw[BB];exact ra.symm) λi u ks e1 e2=>?_;rw[CD]at e2;obtain⟨p,e3,rfl⟩:=EI.mp e2;obtain⟨n,en⟩:=hty p (Ct e3);obtain⟨u',e4,e5⟩:=rv.vm (i:=i) (x:=Au p.1) (by rw[CD,e3];rfl);rw[e1]at e4;cases e4;rw[en]at e5⊢;obtain⟨t,rfl⟩:=e5;exact⟨n,t,rfl,rfl⟩
    . refine .cS (by rw[BB];exact ra.symm) λi u ks e1 e2=>?_;rw[CD]at e2;obtain⟨p,e3,rfl⟩:=EI.mp e2;obtain⟨n,en⟩:=hty p (Ct e3);obtain⟨u',e4,e5⟩:=rv.vm (i:=i) (x:=Au p.1) (by rw[CD,e3];rfl);rw[e1]at e4;cases e4;rw[en]at e5⊢;obtain⟨t,rfl⟩:=e5;exact⟨n,t,rfl,rfl⟩
  refine R4 (kss:=kvs.map λp=>[p.1]) I (by rw[BB];exact z) (λQ E f=>tG (AD8 (knd:=FQ X.ai X.w) (kvs:=vs) (ep:=ep) lo) (I.ok.hd hc) hat (by simp_all) λh1 tk acc k1 gr it=>f h1 tk _ k1 (B7 gr) ?_) (λits rv=>⟨(sv rv).dh,_,(sv rv).kf,λs' kp h2=>(sv rv).abu h2 λa o _ _ _ e _ _=>kp a o e⟩) λl qs hl q1 q3=>?_;.exact ZY rel (by rw[MQ];exact it.1) λj v hv=>it.2 j v (by rw[<-OV];exact hv)
  . have ep:qs.map (·.1)=(qs.map λx=>x.2.headD (.inl 0)).map Au:=by rw[C8];refine M6 λx hx=>?_;have hm:=q1.mem_iff.mp hx;obtain⟨i,hi⟩:=M7.mp hm;obtain⟨e3,e4⟩:=Ka.mp hi;rw[CD]at e3 e4;obtain⟨p3,e5,e6⟩:=EI.mp e3;rw[e5]at e4;show x.1=Au (x.2.headD (.inl 0));rw[<-e6,<-Bz e4];rfl
    have pm:(qs.map λx=>x.2.headD (.inl 0)).Perm (kvs.map (·.1)):=by refine(q1.map _).trans (R7 ?_);rw[show(λx:AE×List AL=>x.2.headD (.inl 0))=(λl:List AL=>l.headD (.inl 0))∘Prod.snd from rfl,<-C8,AAM (by simp),C8];rfl
    have pw:(qs.map λx=>x.2.headD (.inl 0)).Pairwise (λa b=>Dg b a=AQ):=by
      rw[GF];rw[GF]at q3;refine q3.imp_of_mem λ{a b}ha hb hab=>?_;have one:∀x∈qs,∃k,x.2=[k]:=λx hx=>by have hm:=q1.mem_iff.mp hx;obtain⟨i,hi⟩:=M7.mp hm;obtain⟨_,e4⟩:=Ka.mp hi;rw[CD]at e4;obtain⟨p3,_,e6⟩:=EI.mp e4;exact⟨_,e6.symm⟩
      obtain⟨x,ex⟩:=one a ha;obtain⟨y,ey⟩:=one b hb;rw[ex,ey]at hab⊢;show Dg y x=AQ;have hab:(if y=x then AQ else Dg y x)=AQ:=hab;by_cases z:y=x;.rw[z];exact Rf x
      .rw[AFh z]at hab;exact hab
    rw[ep];exact q _ _ hl pm pw
theorem ZG(A:Ck)(s:AV)(U:EX x)(V:EX y)(J:B8 (BP x)=B8 (BP y)):V5 A s x y (Ae (BP x=BP y)):=by intro D w E Q h;exact Ui U V J h
theorem xV(A:Ck)(s:AV)(D:EX x)(J:EX y)(U:B8 (BP x)=B8 (BP y))(prog:CN)(w:Bu)(E:AK->AV->Prop)(Q:AK->AV->Prop)(h:Q (.bool (Dg (BP x) (BP y))) s):As (An prog w) A (richCompare .Lt x y) Q E s:=by
 cases x<;>first|exact D.elim|skip
 all_goals(cases y<;>first|exact J.elim|exact Hm _|exact Hm (by assumption)|skip)
 .exact(AAo h)
 .exact(ADG h)
structure O8(vs ws:List AK)(n m:Nat)(r:Bool):Prop where
 ex:∃(us zs:List AK),vs=us++zs/\(zs=[]\/ws.length<=us.length)/\(∀v∈us,EX v)/\(∀v∈ws,EX v)/\(∀(i:Nat)x y,us[i]?=AA x->ws[i]?=AA y->B8 (BP x)=B8 (BP y))/\BN (us.map BP) (ws.map BP)=r
 dh:vs.length+m=ws.length+n
theorem VT(l b:AD)(J D:Array AK)(n n2:Nat)(dd N:Option AD)(sl k:Array (Option AK))(r:Bool)(T:O8 J.toList D.toList J.size D.size r):Meets (Builtin.«tuple.__lt__» ⟨[.ref l,.ref b],[]⟩) (λ_ R s=>s.heap.get? l=AA {cls:=.type "tuple",dict:=dd,data:=.seq J n,slots:=sl}/\s.heap.get? b=AA {cls:=.type "tuple",dict:=N,data:=.seq D n2,slots:=k}/\R (.ok (.ret (.bool r))) s):=.of_wp λY w A R s h=>by
 lk;obtain⟨I,g,d,L,K⟩:=s;obtain⟨hl,hb,h⟩:=h;k_in;have f2:=ADN;wp_walk using wpAny_loadPart' hl,wpAny_loadPart' hb,ABi _ (λZ b j=>b.1=AF/\j=⟨I,g,d,L,K⟩/\∃(M V:List AK)(q:Bool),Z=M.zip V/\O8 M V J.size D.size q/\R (.ok (.ret (.bool q))) ⟨I,g,d,L,K⟩) _;case turn=> rintro⟨y,x⟩Z b j⟨B,rfl,M,V,q,E,X,G⟩;lk;obtain⟨⟨z,m,rfl,F,O,P,Q,W⟩,U⟩:=X;k_in;cases V with |nil=>rw[ACs]at E;cases E|cons c V=>cases z with |nil=>simp_all|cons a z=> rw[R8,AAR]at E;injection E with f C;injection f with hy T;subst hy T;have o:=O y DO;have p:=P x DO;have t:=Q 0 y x rfl rfl;have W:(if BP y=BP x then BN (z.map BP) (V.map BP)else Dg (BP y) (BP x))=q:=W;refine BL (ZG A.in1 ⟨I,g,d,L,K⟩ o p t Y w _ _ ?_);cases e:Ae (BP y=BP x)with |true=> rw[AFi (AFm e)]at W;wp_walk;refine⟨rfl,rfl,z++m,V,q,C,⟨⟨z,m,rfl,?_,λv H=>O v (Ek _ H),λv H=>P v (Ek _ H),λi x y u e2=>Q (i+1) x y (by simpa using u) (by simpa using e2),W⟩,?_⟩,G⟩;all_goals grind|false=> rw[AFh (AFp e)]at W;have S:=xV A.in1 ⟨I,g,d,L,K⟩ o p t Y w;wp_walk using S;exact⟨_,rfl,by rw[W];exact G⟩
 case fin=>
  rintro⟨b1,b2⟩j⟨B,rfl,M,V,q,E,⟨⟨z,m,rfl,F,O,P,Q,W⟩,U⟩,G⟩;simp only at B;subst B;have H:q=Ae (J.size<D.size):=by rw[<-W];cases z with
   |nil=>
    rcases F with F|F
    . subst F;cases V with |nil=> simp only[Vg,Ew]at U;exact(AFl (Vo.mpr (Nat.add_le_add_iff_left.mp (Bo U)))).symm|cons c V=> simp only[Vg,Ew,M3]at U;exact(AFk (by simp_all)).symm
    . have:V=[]:=bP (by simpa using F);subst this;simp only[Vg,ACl]at U;exact(AFl (by lia)).symm|cons a z=>cases V with |nil=> simp only[Vg,M3,R8]at U;exact(AFl (by lia)).symm|cons c V=>rw[R8,AAR]at E;cases E
  rw[H]at G;wp_walk;exact⟨_,rfl,by simpa[ADP]using G⟩
 case h=>exact⟨rfl,rfl,J.toList,D.toList,r,rfl,T,h⟩
def xO(K:Aq):Dq:=λx y H Q=>Yv (λa b D U J=>x=.ref a) (λ_ b _ _ _=>y=.ref b) (λa _ D U _=>Cb K H a (D.map Au++U)) (λ_ b _ _ J=>Cb K H b (J.map Au)) (λ_ _ D U J=>(U=[]\/J.length<=D.length)) (λ_ _ D _ J=>(∀(i:Nat)k m,D[i]?=AA k->J[i]?=AA m->B8 k=B8 m)) (λ_ _ D _ J=>Q (.bl (BN D J)) H)
theorem VX:∀{xs ys:List AE}{D:List AK},Bb (xs++ys) D->∃vs J,D=vs++J/\Bb xs vs/\Bb ys J|[],ys,D,h=>⟨[],D,rfl,.nil,h⟩|x::xs,ys,_,h=>by cases h with|cons U W=>lk;obtain⟨vs,J,e,Y,Z⟩:=VX W;k_in;exact⟨_,J,by simp_all,.cons U Y,Z⟩
theorem wA{K:Aq}(g:X.A.units<F2)(c:X.K=K:=by rfl):CP X (Ed .Lt) (xO K):=by
 subst c;intro W s σ H x y v u Q I rx ry h;lk;obtain⟨a,b,z,zs,A,rfl,rfl,d,e,hz,f,q⟩:=h;cases rx;cases ry;obtain⟨j,r1,t,_⟩:=I.gf d;obtain⟨D,r2,w,_⟩:=I.gf e;obtain⟨C,E,rfl,O,q2⟩:=VX r1;obtain⟨k,S⟩:=KS O;obtain⟨l,T⟩:=KS r2;have m:=O.ar;have o:=r2.ar;have l3:=q2.ar;rw[BB]at m o;obtain⟨⟨P,R,G,sl⟩,N,L,n,M⟩:=id t;obtain⟨⟨F,Z,Y,B⟩,V,J,r,U⟩:=id w;k_in;simp only at L M J U;subst L M J U;have p:O8 (C++E).toArray.toList D.toArray.toList (C++E).toArray.size D.toArray.size (BN z A):=by
  refine⟨⟨C,E,by simp,?_,S,by simpa using T,λi x y e1 e2=>?_,by simp[k,l]⟩,by simp;exact SH _ _⟩;.grind
  .refine f i _ _ (by grind) (by grind)
 exact eK (op:=.Lt) ⟨_,N,rfl⟩ ⟨_,V,rfl⟩ AA0 AAw (by rfl) (VT a b _ _ n r R Z sl B _ p) ⟨N,V,show SW (BN z A)≠ADy/\FZ X W σ Q (.bool (BN z A)) s from⟨(by simp),⟨.bl _,H,I,rfl,q⟩⟩⟩ g
def CY(H:AI)(xs:List AE)(kss:List (List AL)):Prop:=BW (λx D=>∃a,x=.ref a/\H a=AA (.tup (D.map Au))) xs kss
def By(H H':AI):Prop:=∀p D,H p=AA (.tup D)->H' p=AA (.tup D)
theorem Ah.tp(s:Ah H H'):By H H':=λp D e=>s _ _ e
theorem HP(H:AI):By H H:=λ_ _ h=>h
theorem By.aa(a:By H D)(b:By D J):By H J:=λp U e=>b _ _ (a _ _ e)
theorem By.gu(t:By H H')(h:H' b=AA u)(D:∀xs,u≠.tup xs):By H (AO H' b o):=λp xs e=>by
 have e:=t p xs e;have:p≠b:=λz=>by rw[z,h]at e;exact D xs (Bz e)
 rw[AW this];exact e
theorem Gf{F G:D->J->Prop}(h:∀a b,F a b->G a b):∀{l:List D}{m:List J},BW F l m->BW G l m|_,_,.nil=>.nil|_,_,.cons a r=>.cons (h _ _ a) (Gf h r)
theorem Eh{U V:Type}{F:U->V->Prop}{l D:List U}{m J:List V}(h:BW F l m)(s:BW F D J):BW F (l++D) (m++J):=by induction h with|nil=>exact s|cons r _ W=>exact .cons r W
theorem Pj:∀{l:List D}{m:List J}(n:Nat),BW F l m->BW F (l.take n) (m.take n)|_,_,0,_=>.nil|_,_,_+1,.nil=>.nil|_,_,n+1,.cons a r=>.cons a (Pj n r)
theorem N2:∀{l:List D}{m:List J}(n:Nat),BW F l m->BW F (l.drop n) (m.drop n)|_,_,0,h=>h|_,_,_+1,.nil=>.nil|_,_,n+1,.cons a r=>N2 n r
theorem CY.ae(h:CY H xs kss)(t:By H H'):CY H' xs kss:=Gf (λx D⟨a,e,q⟩=>⟨a,e,t _ _ q⟩) h
theorem CY.dh(h:CY H xs kss):xs.length=kss.length:=(Cf h).1
theorem CY.at(h:CY H xs kss){i:Nat}(e:xs[i]?=AA x):∃a ks,x=.ref a/\kss[i]?=AA ks/\H a=AA (.tup (ks.map Au)):=by have U:=(BV.mp e).1;have D:kss[i]?=AA (kss[i]'(by rw[<-h.dh];exact U)):=Cr _;lk;obtain⟨a,J,q⟩:=(Cf h).2 i _ _ e D;k_in;exact⟨a,_,J,D,q⟩
theorem CY.yi(h:CY H xs kss)(e:H p=AA (.tup (ks.map Au))):CY H (xs++[.ref p]) (kss++[ks]):=Eh h (.cons ⟨p,rfl,e⟩ .nil)
theorem Ju(H:AI):CY H [] []:=Ec
noncomputable def Hy:AL->EO|.inl i=>.int i|.inr x=>.str x
noncomputable def Ih(ks:List AL):EO:=.tuple (ks.map Hy)
noncomputable def Lz:AL->Bool|.inl _=>AJ|.inr x=>LP x
noncomputable def Gy(ks:List AL):Bool:=ks.all Lz
theorem RY{K:Aq}:∀ks:List AL,EW K H (ks.map Au) (ks.map Hy)|[]=>.nil|.inl i::r=>.cons (.int i) (RY r)|.inr x::r=>.cons (.str x) (RY r)
theorem CY.aeb{K:Aq}(h:CY H xs kss):EW K H xs (kss.map Ih):=by induction h with|nil=>exact .nil|cons h _ D=>lk;obtain⟨a,rfl,q⟩:=h;k_in;exact .cons (.tup (Ar q) (RY _)) D
theorem Rj:∀ks:List AL,Gy ks=AJ->IG (ks.map Hy)=AJ/\Iy (ks.map Hy)=0|[],_=>⟨rfl,rfl⟩|k::r,h=>by lk;obtain⟨D,J⟩:=fU.mp h;obtain⟨a,b⟩:=Rj r J;k_in;cases k with|inl i=>simp[Hy,IG,Gm,Iy,IH,a,b]|inr x=>have D:LP x=AJ:=D;simp[Hy,IG,Gm,Iy,IH,a,b,D]
theorem Ux:∀kss:List (List AL),(∀ks∈kss,Gy ks=AJ)->IG (kss.map Ih)=AJ/\Iy (kss.map Ih)<=1|[],_=>⟨rfl,by decide⟩|ks::r,h=>by lk;obtain⟨a,b⟩:=Ux r λz D=>h z (Ek _ D);obtain⟨c,d⟩:=Rj ks (h ks DO);k_in;refine⟨by simp[Ih,IG,Gm,a,c],?_⟩;simp[Ih,Iy,IH,d];simp_all
theorem Pu{kss:List (List AL)}(h:∀ks∈kss,Gy ks=AJ):Hj (.list (kss.map Ih))=AJ:=by obtain⟨a,b⟩:=Ux _ h;simp[Hj,Gm,IH,a];exact Ak b (by decide)
theorem CY.dv{K:Aq}(h:CY H xs kss)(e:H l=AA (.lst xs)):Fp K H (.ref l) (.list (kss.map Ih)):=.lst (AX e) h.aeb
theorem CY.aab{K:Aq}(h:CY H xs kss)(W:sh≠[])(Y:∀ks∈kss,ks.map B8=sh):Nt K H xs kss:=by refine .cT sh W (G0 h.dh λi a b J D=>?_);lk;obtain⟨p,U,q⟩:=(Cf h).2 i a b J D;k_in;exact⟨⟨p,U,Ar q⟩,Y b (Ct D)⟩
theorem CY.acf(h:CY H xs kss){qs:List (AE×List AL)}(p:qs.Perm (xs.zip kss)):CY H (qs.map (·.1)) (qs.map (·.2))/\(qs.map (·.2)).Perm kss:=by
 have z:=h.dh;constructor
 . refine G0 (by rw[BB,BB]) λi a b J D=>?_;rw[CD]at J D;lk;obtain⟨q,U,rfl⟩:=EI.mp J;rw[U]at D;cases D;obtain⟨j,Z⟩:=M7.mp (p.mem_iff.mp (Ct U));obtain⟨W,Y⟩:=Ka.mp Z;k_in;exact(Cf h).2 j _ _ W Y
 . have:=p.map (·.2);rwa[AAM (Bo z.symm)]at this
def CZ(kss:List (List AL)):Prop:=kss.Pairwise λa b=>BN b a=AQ
theorem Rz:∀{a b:List (List AL)},a.Perm b->CZ a->CZ b->a=b
  |[],b,p,_,_=>by simp_all|x::a,[],p,_,_=>SE.mp p|x::a,y::b,p,Z,z=>by
    lk;obtain⟨U,V⟩:=Gi.mp Z;obtain⟨W,Y⟩:=Gi.mp z;k_in;have e:x=y:=by
      have D:y∈x::a:=(by grind);have J:x∈y::b:=(by grind);rcases CJ.mp D with e|D;.exact e.symm
      . rcases CJ.mp J with e|J;.exact e
        .exact Pa (W x J) (U y D)
    subst e;rw[Rz (by simp_all) V Y]
theorem Mr{K:Aq}(B:Nat->Ai->List AE->AI->Prop)(f:xs.length<=Ay)(S:B 0 (FI n0 AF++L.map (G4 O)) [] H)(d:∀i Y J Z,B i Y J Z->Bx K Z a xs)(j:∀(i:Nat)x Y J Z(I:AE->Ai->AI->Prop)(G:Ai->AI->Prop),xs[i]?=AA x->J.length<=i->B i Y J Z->(∀y W z,B (i+1) W (J++[y]) z->I y W z)->(∀W z,B (i+1) W J z->G W z)->g x Y Z λA z=>N A z λb F=>if b=AJ then M A F λy P=>I y A P else G A F)(X:∀Y J Z,J.length<=xs.length->B xs.length Y J Z->∀D,Z D=AF->Q (.ref D) (AO Z D (.lst J))):Mg n0 L g N M O Q (Ln K a) H:=by
 refine⟨λi m Y J E=>m=xs.length-i/\i<=xs.length/\J.length<=i/\B i Y J E,⟨xs.length,by simp,Bd _,Bd _,S⟩,?_⟩;intro i m Y J E T;lk;obtain⟨rfl,c,C,p⟩:=T;k_in;have q:=d i Y _ E p;by_cases U:i<xs.length
 . refine .inr ⟨⟨xs,xs[i],q,by simp[U]⟩,Bc (HX C U) f,λx Z y=>?_⟩;obtain⟨e,y⟩:=y;subst e;have R:=y xs q;exact j i x Y _ _ _ _ R C p (λy W z h=>⟨_,Ja _ _ U,rfl,U,by rw[CI];exact Jx.mpr C,h⟩) λW z h=>⟨_,Ja _ _ U,rfl,U,Kf C,h⟩
 . have e:=Fh c (GV U);subst e;exact .inl ⟨⟨xs,q,Al _⟩,X Y _ E C p⟩
theorem Ig{K:Aq}(z:Nat->Ai->List AE->AI->Prop)(S:xs.length<=Ay)(O:z 0 (FI n0 AF++I.map (G4 L)) [] H)(R:∀i Z U W,z i Z U W->Bx K W a xs)(T:∀(i:Nat)x Z U W(A:AE->Ai->AI->Prop),xs[i]?=AA x->U.length<=i->z i Z U W->(∀y E Y,z (i+1) E (U++[y]) Y->A y E Y)->g x Z W λJ Y=>C J Y λy B=>A y J B)(P:∀Z U W,U.length<=xs.length->z xs.length Z U W->∀D,W D=AF->Q (.ref D) (AO W D (.lst U))):Mg n0 I g VS C L Q (Ln K a) H:=by
 refine Mr z S O R (λi x Z U W A G M N p X _=>?_) P;have e:(λ(J)(Y)=>VS J Y λb F=>if b=AJ then C J F λy B=>A y J B else G J F)=λJ Y=>C J Y λy B=>A y J B:=by funext J Y;show(if AJ=AJ then C _ Y _ else G J Y)=_;rw[AFi rfl]
 exact T i x Z _ W A M N p X
section
variable{κ:Type}[DecidableEq κ]
set_option tactic.hygienic true in theorem Pc{kvs:List (κ×AE)}{k:κ}{v:AE}{q:κ×AE}(h:q∈Bp kvs k v):q=(k,v)\/(q∈kvs/\q.1≠k):=by
  unfold Bp at h;split at h
  . lk;obtain⟨p,J,e⟩:=BQ.mp h;k_in;by_cases z:p.1=k;.rw[AFi z]at e;rw[<-e,z];exact .inl rfl
    .rw[AFh z]at e;rw[<-e];exact .inr ⟨J,z⟩
  . rename_i D;rcases DN.mp h with h|h;.refine .inr ⟨h,λz=>D (Vb.mpr ⟨q,h,AFk z⟩)⟩
    .exact .inl (Bt.mp h)
end
theorem Ri[DecidableEq J](kvs:List (J×AE))(k:J)(v:AE):(Bp kvs k v).map (·.1)=if k∈kvs.map (·.1)then kvs.map (·.1)else kvs.map (·.1)++[k]:=by
  by_cases h:k∈kvs.map (·.1)
  . rw[AFi h];lk;obtain⟨p,D,e⟩:=BQ.mp h;k_in;unfold Bp;rw[AFi (Vb.mpr ⟨p,D,AFk e⟩),C8];refine M6 λq _=>?_;show(if q.1=k then(q.1,v)else q).1=q.1;split<;>rfl
  . rw[AFh h];unfold Bp;rw[AFh (λq=>?_),DJ];.rfl
    . lk;obtain⟨p,D,e⟩:=Vb.mp q;k_in;exact h (BQ.mpr ⟨p,D,AFm e⟩)
section
variable{κ:Type}[DecidableEq κ]
set_option tactic.hygienic true in theorem Pe{kvs:List (κ×AE)}{k:κ}{v:AE}(h:(kvs.map (·.1)).Nodup):((Bp kvs k v).map (·.1)).Nodup:=by
 rw[Ri];split;.exact h
 . rename_i D;exact Zk h D
end
theorem Uy[DecidableEq D](kvs:List (D×AE))(k:D)(v:AE):(Bp kvs k v).length<=kvs.length+1:=by
 have e:=AFj MD (Ri kvs k v);rw[BB]at e;rw[e];split;.simp
 .simp
theorem Io{U:Type}[DecidableEq U]{kvs:List (U×AE)}{k:U}{v:AE}(h:Bv kvs k=AA v):(k,v)∈kvs:=by lk;obtain⟨p,D,J⟩:=EI.mp h;k_in;have:=ACY D;have e:=AFm this;rw[<-e,<-J];exact List.mem_of_find?_eq_some D
theorem OA{D:Type}[DecidableEq D]{kvs:List (D×AE)}{k:D}(h:k∈kvs.map (·.1)):∃v,Bv kvs k=AA v:=by cases e:Bv _ k with|some v=>exact⟨v,rfl⟩|none=>exact absurd h (bH e)
theorem PM:∀{l:List U}{n m:Nat},(∀(i:Nat)x,l[i]?=AA x->(p x=AJ↔n<=i/\i<m))->(l.drop n).take (m-n)=l.filter p|[],n,m,_=>by simp|x::l,0,0,h=>by have D:=h 0 x rfl;have J:=PM (n:=0) (m:=0) λi y e=>(h (i+1) y (by simpa using e)).trans (by simp);rw[G7,AFh (λz=>by have:=D.mp z;exact AC1 this.1 this.2),<-J];rfl|x::l,0,m+1,h=>by have D:=h 0 x rfl;have J:=PM (n:=0) (m:=m) λi y e=>(h (i+1) y (by simpa using e)).trans (by simp);rw[G7,AFi (D.mpr ⟨Al _,cL _⟩),<-J];rfl|x::l,n+1,m,h=>by have D:=h 0 x rfl;have J:=PM (n:=n) (m:=m-1) λi y e=>(h (i+1) y (by simpa using e)).trans (by(constructor<;>lia));rw[G7,AFh (λz=>by have:=D.mp z;exact AAa _ this.1),<-J];congr 1;lia
theorem Uj[DecidableEq V](f:Z->V):∀(L:List Z)(ks:List V),ks.Nodup->(∀x∈L,f x∈ks)->(ks.flatMap λk=>L.filter λx=>Ae (f x=k)).Perm L
  |[],ks,_,_=>by
    have:(ks.flatMap λk=>([]).filter λx=>Ae (f x=k))=[]:=by simp
    rw[this]|x::L,ks,U,Y=>by
    have E:=Uj f L ks U λy C=>Y y (Ek _ C);refine VZ ?_ (E.cons x);have W:∀ks:List V,ks.Nodup->(ks.flatMap λk=>(x::L).filter λx=>Ae (f x=k)).Perm (if f x∈ks then x::(ks.flatMap λk=>L.filter λx=>Ae (f x=k))else ks.flatMap λk=>L.filter λx=>Ae (f x=k)):=by intro ks;induction ks with |nil=>simp|cons k ks D=>
        intro U;obtain⟨A,B⟩:=Kb.mp U;have D:=D B;rw[F0];by_cases e:f x=k
        . have J:=λz=>A (e▸z);rw[AFh J]at D;rw[AFi (by rw[e];exact DO),G7,AFi (by simpa using e)];exact(D.append_left _).cons x
        . rw[G7,AFh (by simpa using e)];by_cases z:f x∈ks;. rw[AFi z]at D;rw[AFi (Ek _ z)];exact(D.append_left _).trans ACp
          . rw[AFh z]at D;rw[AFh (λq=>by rcases CJ.mp q with q|q;exact e q;exact z q)];exact D.append_left _
    have:=W ks U;rwa[AFi (Y x DO)]at this
theorem Z2{f g:D->List U}:∀{l:List D},(∀x∈l,(f x).Perm (g x))->(l.flatMap f).Perm (l.flatMap g)|[],_=>by simp|x::l,h=>by exact(h x DO).append (Z2 λy J=>h y (Ek _ J))
theorem wR{D W:Type}{f:D->List W}{l m:List D}(p:l.Perm m):(l.flatMap f).Perm (m.flatMap f):=by induction p with|nil=>simp|cons x _ V=>exact V.append_left _|swap x y l=>rw[F0,F0,F0,F0,<-Ei,<-Ei];exact P0.append_right _|trans _ _ J U=>exact J.trans U
def Bk(d:AD)(H H':AI):Prop:=∀b o,b≠d->H b=AA o->H' b=AA o
theorem Ah.x(s:Ah H H')(d:AD):Bk d H H':=λb o _ e=>s b o e
theorem Bk.aa(a:Bk d H D)(b:Bk d D J):Bk d H J:=λc o n e=>b c o n (a c o n e)
theorem Bk.gu(a:Bk d H H'):Bk d H (AO H' d o):=λc u n e=>by rw[AW n];exact a c u n e
theorem Bk.tp(a:Bk d H H')(h:H d=AA u)(D:∀xs,u≠.tup xs):By H H':=λp xs e=>a p _ (λz=>by rw[z,h]at e;exact D xs (Bz e)) e
theorem DG.aan(x:DG P w H h)(V:H a=AF)(J:DL P w (AO H a o) h a o):DG P w (AO H a o) h:=λb u e=>by
 by_cases D:b=a;.subst D;rw[Ac]at e;simp_all
 . rw[AW D]at e;exact(x b u e).ve (λW u2 u3 U=>U) (λc q=>by rw[AW (by grind)];exact q) λc Y q=>by rw[AW (by grind)];exact q
theorem wH(r:Bb ys its)(E:KP h kvs kss)(S:its.length=kvs.length)(p:out.Perm (kvs.toArray.zip its.toArray))(u:DY (O:=Gz) (Hz h) out 0 out.size):∃qs:List (AE×List AL),qs.Perm (ys.zip kss)/\Bb (qs.map (·.1)) (out.map (·.2)).toList/\(qs.map (·.2)).Pairwise (λa b=>BN b a=AQ):=by
  have N:out.toList.Perm (kvs.zip its):=by have:=Sm.mp p;simp_all
  have F:(out.map (·.2)).toList=out.toList.map (·.2):=AB0;have T:=r.ar;have A:=E.dh;have M:BW (λ(q)(v:BA)=>Bn q.1 v.2/\Hz h v.1=q.2) (ys.zip kss) (kvs.zip its):=by refine G0 (by(simp[*])) λi a b Y D=>?_;obtain⟨G,H⟩:=Ka.mp Y;obtain⟨I,K⟩:=Ka.mp D;obtain⟨v,Z,L⟩:=r.vm G;rw[K]at Z;cases Z;exact⟨L,E.kf i b.1 a.2 I H⟩
  lk;obtain⟨qs,P,Q⟩:=Ph N M;obtain⟨C,R⟩:=Cf Q;k_in;refine⟨qs,P,?_,?_⟩
  . rw[F];refine G0 (by(simpa using C)) λi a b Y D=>?_;grind
  . rw[HV];intro i j z U J;rw[BB]at z U;have B:∀k(A:k<qs.length),(qs[k]).2=BS (O:=Gz) (Hz h) out k:=λk A=>by
      have W:k<out.size:=by simp_all
      rw[Dt W];have D:out.toList[k]?=AA out[k]:=by simp_all
      grind
    have:=u i j (Bd _) (B7 J) (Bc U (Bo C));rw[<-B i z,<-B j U]at this;rw[bS,bS];exact this
theorem Zu{kvs its:List AK}(h:v∈(kvs.toArray.zip its.toArray).toList):v.1∈kvs:=by rw[Array.toList_zip]at h;exact(bW h).1
theorem sH{K:Aq}(s:Ah H H')(h:Cb K H a xs):Cb K H' a xs:=h.imp (λh=>h.imp (s _ _) λ⟨o,h⟩=>⟨o,s _ _ h⟩) id
def UQ(K:Aq)(H:AI)(J:List AK)(kss:List (List AL)):Prop:=J.length=kss.length/\∀(i:Nat)u D,J[i]?=AA u->kss[i]?=AA D->∃q,u=.ref q/\Cb K H q (D.map Au)
theorem UQ.aab(I:Aa X J F H s)(h:UQ X.K H U kss)(Y:sh≠[])(Z:∀ks∈kss,ks.map B8=sh):KP s.heap U kss:=by refine .cT sh h.1 Y λi u ks V D=>⟨?_,(Z _ (Ct D))⟩;lk;obtain⟨q,rfl,W⟩:=h.2 i u ks V D;obtain⟨A,B,z,_⟩:=I.gf W;obtain⟨o,e,c,n,d⟩:=z;obtain⟨C,E⟩:=KS B;k_in;exact⟨q,o,_,n,rfl,e,c,d,by assumption,(by assumption)⟩
theorem Aa.yl(I:Aa X (U::D) V H s):Aa X D V H s:=I.jl λp J=>I.qx p (Ea _ (Gh J))
theorem Aa.wj(I:Aa X (D::J) U H s):s.heap.get? D.1=AA D.2/\H D.1=AF/\D.1≠X.af.locals/\D.1∉X.fs:=by have:=I.qx D List.mem_append_cons_self;(simp[*])
theorem Aa.aav(I:Aa X ((b,o)::D) z H s)(V:(b∈X.ex\/X.s₀.heap.objs.size<=b)/\(∀x c,X.af.cells.lookup x=AA c->c≠b)/\∀p∈X.pn++D,p.1≠b)(C:V4 b s.heap U)(G:U.get? b=AA Y)(Z:∀v,Y.data≠.cell v):Aa X ((b,Y)::D) z H {s with heap:=U,toks:=t'}:=by
 lk;obtain⟨E,A,B,F⟩:=I.wj;k_in;have J:Aa X _ z H {s with heap:=U,toks:=t'}:=I.yl.fw (λc u Z e=>(C.2 c Z).trans e) A B V.1 V.2.1 V.2.2;refine J.jl λp W=>?_;rcases CJ.mp W with rfl|W;. (simp[*])
 .exact J.qx p (Ea _ W)
theorem VY:∀{l:List AK},x∈l->(x,x)∈l.zip l
 |y::r,h=>by
  rcases CJ.mp h with rfl|h;. (constructor<;>lia)
  .exact Ek _ (VY h)
abbrev O6(X:Be)(D:List (AD×BC))(b:AD):Prop:=(b∈X.ex\/X.s₀.heap.objs.size<=b)/\(∀x c,X.af.cells.lookup x=AA c->c≠b)/\∀p∈X.pn++D,p.1≠b
theorem yH{st:Ci}(R:Bb ys its)(k:its.length<=Ay)(f:sh≠[])(i:∀ks∈kss,ks.map B8=sh)(t:ys.length=kss.length)(I:Aa X ((J,Cd "list" U e)::(a,Cd "list" #[] Y)::D) S H s)(K:J≠a)(F:O6 X ((a,Cd "list" #[] Y)::D) J)(C:O6 X D a)(N:UQ X.K H U.toList kss)(M:(Am st).Perm (U.zip its.toArray))(j:DY (O:=Gz) (Hz s.heap) (Am st) 0 (Am st).size)(g:ND st=AF)(h:∀s' out c(qs:List (AE×List AL)),Aa X D S H s'->s'.heap.get? a=AA (Cd "list" out c)->out.size<=Ay->qs.Perm (ys.zip kss)->Bb (qs.map (·.1)) out.toList->(qs.map (·.2)).Pairwise (λa b=>BN b a=AQ)->P (.done (.ret .none)) s'):As (An X.ai X.w) X.A.in1.in1 (AAm a AQ Y (.ref J) st) P E s:=by
 have Q:=I.wj.1;have m:=I.yl.wj.1;have q:=N.aab I f i;have r:U.size=kss.length:=by have:=N.1;rwa[MQ]at this
 have u:=R.ar;lk;obtain⟨qs,n,o,p⟩:=wH (kvs:=U.toList) R q (by simp_all) (by rw[WH];exact M) j;have L:(Am st).size=its.length:=by
  have l:(U.zip its.toArray).size=Ds U.size its.length:=by simp[Array.size_zip]
  rw[M.size_eq,l];simp_all
 have s1:=dD s.heap J (Em λ_=>(#[]:Array AK));obtain⟨A,G⟩:∃A,(s.heap.update J (Em λ_=>(#[]:Array AK))).get? J=AA (Cd "list" #[] A):=⟨_,Vy Q λ_=>#[]⟩;k_in;have W:(s.heap.update J (Em λ_=>(#[]:Array AK))).get? a=AA (Cd "list" #[] Y):=(s1.2 a K.symm).trans m;have T:Aa X ((J,Cd "list" #[] A)::(a,Cd "list" #[] Y)::D) S H {s with heap:=s.heap.update J (Em λ_=>(#[]:Array AK)),toks:=s.toks}:=I.aav F s1 G λv z=>by cases z
 unfold AAm;try dsimp only
 refine BL (P6 Q rfl ?_ (by simp_all) (Bd _));refine BL (wpAny_letGo ?_);refine BL (V0 W rfl ?_);simp only[MR,AFn];have s2:=dD (s.heap.update J (Em λ_=>(#[]:Array AK))) a (Em λ_=>(Am st).map (·.2));lk;obtain⟨B,Z⟩:∃B,((s.heap.update J (Em λ_=>(#[]:Array AK))).update a (Em λ_=>(Am st).map (·.2))).get? a=AA (Cd "list" ((Am st).map (·.2)) B):=⟨_,Vy W λ_=>(Am st).map (·.2)⟩;k_in;have d:=T.yl.aav (t':=s.toks) C s2 Z λv z=>by cases z
 refine BL (P6 W rfl ?_ (Bd _) (Ak (Bo (fO ..)) (by(constructor<;>lia))));rw[g];simp only[AFw,MR,AFn];exact Cn (h _ _ B qs d.yl Z (by rw[fO];exact Ak (Bo L) k) n o p)
section
variable{X:Be}{pins:List (AD×BC)}{σ:Ai}{k:Nat}{f:AD}{fd:Iv}{ps:List AG}{sp:BG}
set_option tactic.hygienic true in theorem yG{H:AI}{s:AV}{a U:AD}{Z:Nat}{ys:List AE}{its:List AK}{kss:List (List AL)}{sh:List Bool}{P:V3->AV->Prop}{E:AK->AV->Prop}(F:HN X.ai X.w X.K X.mg X.ag BI k f fd ps sp)(hb:Lj X.K fd ps [])(hr:DW (k+2) X.A)(rv:Bb ys its)(hl:ys.length=kss.length)(hz:its.length<=Ay)(h0:sh≠[])(hs:∀ks∈kss,ks.map B8=sh)(I:Aa X ((U,Cd "list" #[] 0)::(a,Cd "list" #[] Z)::pins) σ H s)(hka:U≠a)(L:O6 X ((a,Cd "list" #[] Z)::pins) U)(g:O6 X pins a)(turn:∀(i:Nat)y ks H1,ys[i]?=AA y->kss[i]?=AA ks->Ah H H1->sp [y] H1 (λv H2=>Ah H1 H2/\∃q,v=.ref q/\Cb X.K H2 q (ks.map Au)) Mj)(h:∀H1 s' out c(qs:List (AE×List AL)),Ah H H1->Aa X pins σ H1 s'->s'.heap.get? a=AA (Cd "list" out c)->H1 a=AF->out.size<=Ay->qs.Perm (ys.zip kss)->Bb (qs.map (·.1)) out.toList->(qs.map (·.2)).Pairwise (λa b=>BN b a=AQ)->P (.done (.ret .none)) s'):As (An X.ai X.w) X.A.in1.in1 (ksk_rest a (.ref f) AQ its.toArray Z (.ref U)) P E s:=by
  have hy:=rv.ar;unfold ksk_rest;refine BL (QQ ?_);first |rw[List.forIn_toArray]|(rw[<-Array.forIn_toList];simp only[List.toList_toArray])|rw[<-Array.forIn_toList]
  refine BL (ksk_fold (λi s'=>∃H1 D e,Ah H H1/\Aa X ((U,Cd "list" D e)::(a,Cd "list" #[] Z)::pins) σ H1 s'/\UQ X.K H1 D.toList (kss.take i)) its 0 s ⟨H,#[],0,CA _,I,rfl,λi u ks Z=>by simp at Z⟩ ?jx ?wk);case jx=>
    intro j x s' hx r;lk;obtain⟨H1,D,e,sm,W,Y⟩:=r;k_in;simp only[Nat.zero_add]at Y⊢;have hj:j<its.length:=(by grind);have M:j<ys.length:=Bc hj (Bo hy.symm);have hjk:j<kss.length:=by simp_all
    lk;obtain⟨u0,N,ry⟩:=rv.vm (Cr M);rw[hx]at N;cases N;k_in;have K:kss[j]?=AA kss[j]:=Cr hjk;have S:=turn j ys[j] kss[j] H1 (Cr M) K sm;have lk:=Y.1;rw[MQ,Ej]at lk;have hl1:([x]:List AK).length=ps.length:=F.dh _ _ _ _ S;refine BL (ABe (WC (QK (F.adl X.A.in1.in1 X.cg s' H1 ⟨[x],[]⟩ [x] [ys[j]] _ Mj hr.ada.ada W.abd.ada.ada (by have:=hb s' [x] W.nq (by simpa using hl1);simpa using this) (.cons ry .nil) S) λrr s2 G=>?_)));cases rr with |error ev=>exact G.elim|ok fl=>cases fl with |next=>exact FW G|brk=>exact FW G|cont=>exact FW G|ret u=>
        lk;obtain⟨v,H2,I2,rv2,R,q,rfl,eq⟩:=W.zo G;cases(show u=DV q from rv2);have T:=I2.wj.1;have s1:=dD s2.heap U (Em (·.push (.ref q)));obtain⟨d,t⟩:∃d,(s2.heap.update U (Em (·.push (.ref q)))).get? U=AA (Cd "list" (D.push (.ref q)) d):=⟨_,Vy T (·.push (.ref q))⟩;k_in;try dsimp only
        refine BL (P6 T rfl ?_ (by lia) (by grind));refine Cn ⟨rfl,H2,D.push (.ref q),d,sm.aa R,(I2.aav (t':=s2.toks) L s1 t (λv z=>by cases z)),?_,λi u ks l n=>?_⟩;.grind
        . rw[AB1]at l;rw[Dy,K]at n;by_cases hi:i<D.toList.length
          . rw[OC hi]at l;rw[OC (by simp_all)]at n;lk;obtain⟨q',w1,w2⟩:=Y.2 i u ks l n;k_in;exact⟨q',w1,sH R w2⟩
          grind
  case wk=>
    intro s' r;lk;obtain⟨H1,D,e,sm,W,Y⟩:=r;k_in;rw[D7 (by simp_all)]at Y;have T:=W.wj.1;have na0:=W.yl.wj.2.1;try dsimp only
    refine BL (AAn T rfl ?_);have hk:D.size=its.length:=by have:=Y.1;simp_all
    have hzs:(D.zip its.toArray).size=its.length:=by(simp[*])
    have fin:∀st:Ci,(Am st).Perm (D.zip its.toArray)->DY (O:=Gz) (Hz s'.heap) (Am st) 0 (Am st).size->ND st=AF->As (An X.ai X.w) X.A.in1.in1 (AAm a AQ Z (.ref U) st) P E s':=λst p u fl=>yH rv hz h0 hs hl W hka L g Y p u fl (by grind);unfold ksk_end;try dsimp only
    simp only[MR,AFn];by_cases h2:its.toArray.size<2
    . rw[AFi h2,AFi h2];refine BL (Cn ?_);rw[AEi];refine BL (Cn ?_);try dsimp only
      refine fin _ (WG _) (λi j _ q1 q2=>?_) rfl;rw[hzs]at q2;rw[ID]at h2;obtain rfl:i=j:=by lia
      exact NB _
    . rw[AFh h2,AFh h2];rw[ID]at h2;have sv:=Y.aab W h0 hs;lk;obtain⟨κ,kk,C⟩:=sv.abu (prog:=X.ai) (w:=X.w) (A:=X.A.in1.in1) (s:=s') (by rw[MQ];exact Ak (GV h2) (Bo hk.symm)) λa o items m _ e _ _=>e;k_in;rw[WH]at kk;have C':F4 X.ai X.w X.A.in1.in1 s' κ Gz (Hz s'.heap) (D.zip its.toArray):=⟨λp hp q G Q E z=>by have m1:p.1∈D.toList:=Zu (kvs:=D.toList) (its:=its) (by assumption);have m2:q.1∈D.toList:=Zu (kvs:=D.toList) (its:=its) (by assumption);exact C.aeq (p.1,p.1) (by rw[SR];exact VY m1) (q.1,q.1) (by rw[SR];exact VY m2) Q E z⟩;refine BL (kk _ _ ?_);refine BL (FV (fI C' (Q:=λ_ J=>Cm κ (D.zip its.toArray) J/\DY (O:=Gz) (Hz s'.heap) (Am J) 0 (D.zip its.toArray).size) ⟨WG _,rfl,rfl⟩ rfl λJ B u=>⟨B,u⟩) ?_ λ_ _ e=>e);rintro⟨⟨⟩,J⟩s2⟨rfl,B,u⟩;try dsimp only
      exact fin J B.nv (by rw[B.nv.size_eq];exact u) B.mz
end
theorem Aa.aan(I:Aa X D O H s)(f:Jo X D H a)(P:X.s₀.heap.get? a=AF)(U:DL X.ai X.w (AO H a o) s.heap a o):Aa X D O (AO H a o) s:=by
 lk;obtain⟨G,E,_,_,F,K⟩:=f;k_in;have J:∀b o,H b=AA o->b≠a:=(by grind);refine⟨I.ok,I.os,I.iu,⟨I.ag.ae,I.ag.qv,λb o C n L=>?_,I.ag.cq,λb N z=>?_,λb o u z=>?_,λb M z=>?_⟩,I.vo,I.ma,?_,λx c z=>?_,λp q=>?_,I.cp.aan G U,I.dh⟩;. have q:b≠a:=(by grind);rw[AW q];exact I.ag.au b o C n L
 .have:=I.ag.ri b N z;rw[AW (J _ _ this)];assumption
 .have:=I.ag.ng b o u z;rw[AW (J _ _ this)];assumption
 .obtain⟨V,q⟩:=I.ag.rh b M z;exact⟨_,by rw[AW (J _ _ q)];exact q⟩
 .rw[AW E.symm];exact I.au
 .rw[AW (F x c z)];exact I.ik x c z
 . lk;obtain⟨W,Y,Z,A,B⟩:=I.qx p q;k_in;exact⟨W,by rw[AW (K p q)];exact Y,Z,A,B⟩
def Yj(K:Aq)(sp:BG)(H:AI)(ys:List AE)(kss:List (List AL)):Prop:=ys.length=kss.length/\(∃W:List Bool,W≠[]/\∀D∈kss,D.map B8=W)/\∀(i:Nat)y D J,ys[i]?=AA y->kss[i]?=AA D->Ah H J->sp [y] J (λv U=>Ah J U/\∃q,v=.ref q/\Cb K U q (D.map Au)) Mj
theorem yI(F:HN X.ai X.w X.K X.mg X.ag BI k f fd ps sp)(hb:Lj X.K fd ps [])(hr:DW (k+2) X.A)(I:Aa X U n H s)(hq:Bx X.K H p ys)(kb:Yj X.K sp H ys kss)(q:∀l(qs:List (AE×List AL))K,Ah H K->K l=AF->qs.Perm (ys.zip kss)->(qs.map (·.2)).Pairwise (λa b=>BN b a=AQ)->Q (.ref l) (AO K l (.lst (qs.map (·.1))))):As (An X.ai X.w) X.A (Jb (.builtin "sorted") [.ref p] [(Str.ofString "key",.ref f)]) (FZ X U n Q) E s:=by
  lk;obtain⟨hl,⟨sh,h0,hs⟩,turn⟩:=kb;obtain⟨D,w,pl,R⟩:=I.iq hq;k_in;have W:=w.ar;have d:=pl.isList;refine call_function_entry_kw kind_sorted plain_sorted entry_sorted (ksk_s1 _ _) ?_;unfold Builtin.«sorted»;refine BL (m:=checkCount "sorted" 1 1 _) (Cn ?_);refine BL (collect_list d ?_ (Ak (Bo W.symm) R));refine BL (eT ?_ (Ak (Bo W.symm) R));have C:((s.heap.push (Cd "list" #[] 0)).update s.heap.objs.size (Em (.++D.toArray))).objs.size=s.heap.objs.size+1:=by simp_all
  have B:(((s.heap.push (Cd "list" #[] 0)).update s.heap.objs.size (Em (.++D.toArray))).push (Cd "list" D.toArray 0)).get? (s.heap.objs.size+1)=AA (Cd "list" D.toArray 0):=by rw[<-C];exact Gk _ rfl
  have t:∀b o,s.heap.get? b=AA o->(((s.heap.push (Cd "list" #[] 0)).update s.heap.objs.size (Em (.++D.toArray))).push (Cd "list" D.toArray 0)).get? b=AA o:=λb o e=>DC _ ((AA3 _ _ _ _ (Dz (CS e))).trans (DC _ e));rw[C];refine BL (QO (wpAny_call_entry_kw ADL ⟨_,B,rfl⟩ AC9 ?body (ksk_l1 _ _)));case body=>
    have i:=ksk_t1 f (s.heap.objs.size+1);rw[i];generalize hg:(((s.heap.push (Cd "list" #[] 0)).update s.heap.objs.size (Em (.++D.toArray))).push (Cd "list" D.toArray 0))=g at B t⊢;have T:g.objs.size=s.heap.objs.size+2:=by rw[<-hg,size_push',C]
    have s1:=dD g (s.heap.objs.size+1) (Em λ_=>(#[]:Array AK));lk;obtain⟨L,P⟩:∃L,(g.update (s.heap.objs.size+1) (Em λ_=>(#[]:Array AK))).get? (s.heap.objs.size+1)=AA (Cd "list" #[] L):=⟨_,Vy B λ_=>#[]⟩;k_in;have N:((g.update (s.heap.objs.size+1) (Em λ_=>(#[]:Array AK))).push (Cd "tuple" D.toArray 0)).objs.size=s.heap.objs.size+3:=by simpa using T
    have j:∀b o,s.heap.get? b=AA o->(((g.update (s.heap.objs.size+1) (Em λ_=>(#[]:Array AK))).push (Cd "tuple" D.toArray 0)).push (Cd "list" #[] 0)).get? b=AA o:=λb o e=>DC _ (DC _ ((s1.2 b (Dz (AAZ (CS e)))).trans (t b o e)));have A:Jo X U H (s.heap.objs.size+1):=I.vn (OG _) (I.cp.bw (OG _));have Y:Jo X U H (s.heap.objs.size+3):=I.vn (P1 _ 3) (I.cp.bw (P1 _ 3));have r:Aa X U n H {s with heap:=((g.update (s.heap.objs.size+1) (Em λ_=>(#[]:Array AK))).push (Cd "tuple" D.toArray 0)).push (Cd "list" #[] 0),toks:=s.toks}:=I.ip j;have gA:(((g.update (s.heap.objs.size+1) (Em λ_=>(#[]:Array AK))).push (Cd "tuple" D.toArray 0)).push (Cd "list" #[] 0)).get? (s.heap.objs.size+1)=AA (Cd "list" #[] L):=DC _ (DC _ P);have gK:(((g.update (s.heap.objs.size+1) (Em λ_=>(#[]:Array AK))).push (Cd "tuple" D.toArray 0)).push (Cd "list" #[] 0)).get? (s.heap.objs.size+3)=AA (Cd "list" #[] 0):=by rw[<-N];exact Gk _ rfl
    have J:Aa X ((s.heap.objs.size+3,Cd "list" #[] 0)::(s.heap.objs.size+1,Cd "list" #[] L)::U) n H {s with heap:=((g.update (s.heap.objs.size+1) (Em λ_=>(#[]:Array AK))).push (Cd "tuple" D.toArray 0)).push (Cd "list" #[] 0),toks:=s.toks}:=by
      refine r.jl λx Z=>?_;rcases CJ.mp Z with rfl|Z;.exact⟨gK,Y.1,Y.2.1,Y.2.2.1,λv z=>by cases z⟩
      . rcases CJ.mp Z with rfl|Z;.exact⟨gA,A.1,A.2.1,A.2.2.1,λv z=>by cases z⟩
        .exact r.qx x (Ea _ Z)
    unfold ksk_tree;refine BL (AAn B rfl ?_);refine BL (P6 B rfl ?_ (Ak (Bo W.symm) R) (Bd _));refine BL (V0 P rfl ?_);refine BL (AEd ?_ (Ak (Bo W.symm) R));refine BL (eT ?_ (Bd _));refine QO ?_;have O:(s.heap.objs.size+3:AD)≠s.heap.objs.size+1:=(by simp);have S:O6 X ((s.heap.objs.size+1,Cd "list" #[] L)::U) (s.heap.objs.size+3):=⟨Y.2.2.2.1,Y.2.2.2.2.1,λx Z=>by
      rcases DN.mp Z with Z|Z;.exact Y.2.2.2.2.2 x (HU _ Z)
      . rcases CJ.mp Z with rfl|Z;.exact O.symm
        .exact Y.2.2.2.2.2 x (Ea _ Z)⟩;rw[N];refine yG F hb hr w hl (Ak (Bo W.symm) R) h0 hs J O S A.2.2.2 turn λK s' G c qs sm J' g1 u z1 w1 y w3=>⟨_,rfl,Cn ⟨_,rfl,?_⟩⟩;have M:Jo X U K (s.heap.objs.size+1):=⟨u,A.2⟩;have h:X.s₀.heap.get? (s.heap.objs.size+1)=AF:=ADi (Ak I.sz (OG _));refine⟨.ref (s.heap.objs.size+1),_,J'.aan (o:=.lst (qs.map (·.1))) M h ⟨?_,G.toList,c,y,by assumption⟩,rfl,q _ qs K sm u w1 w3⟩;have l0:G.toList.length=G.size:=MQ;have l1:=y.ar;exact AFv l1 z1
def zH(K:Aq)(sp:BG)(t:Az):Az:=λZ H Q=>t Z H λv U=>PK (λ(a:AD)(J:List AE)(D:List (List AL))=>v=.ref a) (λa J _=>Bx K U a J) (λ_ J D=>Yj K sp U J D) (λa J D=>∀l(Y:List (AE×List AL))W,Ah U W->W l=AF->Y.Perm (J.zip D)->(Y.map (·.2)).Pairwise (λa b=>BN b a=AQ)->Q (.ref l) (AO W l (.lst (Y.map (·.1)))))
noncomputable def Ml(o:BC)(kvs:List (AL×AE))(d:AD):Gb:=⟨λi H=>H d=AA (.frz o (.dK kvs))/\i<kvs.length,λi H x D=>D=H/\∃p,kvs[i]?=AA p/\x=Au p.1,λi H=>H d=AA (.frz o (.dK kvs))/\kvs.length<=i⟩
theorem Nw(E:DG P w H h)(e:H d=AA (.frz o (.dK kvs)))(Y:o.data=.dict W ep):∃vs,Fb kvs vs/\h.DictAt (FQ P w) d vs ep:=by lk;obtain⟨Z,z,F,vs,U,G,B,A,J,C,D,r⟩:=(show DL P w H h d _ from E d _ e);rw[Z]at J;cases J;rw[Y]at D;cases D;k_in;exact⟨vs,U,o,W,Z,C,Y,r⟩
theorem zN{K:Aq}(d it:AD)(n:o.data=.dict es ep):Lq P w K tg (Ml o kvs d) [it] it (λi h=>h.IsKeyIter it d i kvs.length ep)where
 aca:=by simp
 bz:=λi h D b W=>by
  have e:=by simpa using W
  subst e;lk;obtain⟨o,e,c,d⟩:=D;k_in;exact⟨o,e,λv z=>by rw[d]at z;cases z⟩
 ae:=λi h l D k=>D.at λo e=>k it (by simp) o e
 wq:=by intro X Q hw O m i B s σ H E I C D R;subst Q hw O;lk;obtain⟨e,S⟩:=R;obtain⟨j,J,U⟩:=Nw I.cp e n;k_in;have A:=Iw J;have a:j[i]?=AA _:=Cr (by simp_all);have T:=Cr S;have g:=Pg J T a;generalize kvs[i]=p at T g;generalize j[i]'(Bc S (Bo A))=q at a g;lk;obtain⟨F,G,f2,L,M,N⟩:=C it (by simp);k_in;rw[A]at D;refine wpAny_pyNext_dict_item D U a λf l Z Y sb=>?_;have r:=I.fw (t':=s.toks) (λb o W e=>(sb.2 b W).trans e) F G L M N;lk;obtain⟨o',x,t,u⟩:=id Y;k_in;rw[<-A]at Y;have hk:=g.1;exact⟨f,rfl,PY x t u (by decide) ⟨_,H,r,by rw[hk];exact Uv Z,⟨rfl,p,T,rfl⟩,Y,λb W=>(C b W).1⟩⟩
 wk:=by intro X Q hw O m i B s σ H E I C D R;subst Q hw O;lk;obtain⟨e,S⟩:=R;obtain⟨j,J,U⟩:=Nw I.cp e n;have A:=Iw J;obtain⟨F,G,f2,L,M,N⟩:=C it (by simp);k_in;rw[A]at D;exact wpAny_pyNext_dict_end (I.ok.hd m) D U (by simp;simp_all) λl y=>⟨rfl,I.fw (λb o W e=>y b o W e) F G L M N⟩
 yg:=λ_ _ _ _ _ D h=>wpAny_pyIter_keyiter D h
theorem Rr{K:Aq}(W:Ao X e J)(V:J3 e f X.af (BY e X.af)=BY e X.af)(U:X.K=K:=by rfl):Ao X (.Attribute e f D) (VP K J f):=by subst U;exact Z0 W V
def uF(V:Az):GB:=λW H R=>V W H λx U=>FD (λa D=>x=.ref a) (λa D=>Fs U a (.dK D)) (λa D=>∀o J,J a=AA (.frz o (.dK D))->(∀b,b≠a->J b=U b)->R (Ml o D a) J)
theorem N3(F:Ao X l N):GS X f l (uF N):=by
 intro M s P H R I h;refine A1 (F _ s P H _ I h) λv s1 W=>?_;lk;obtain⟨x,Z,C,r1,c⟩:=W;obtain⟨a,S,e,T,q⟩:=c;k_in;subst e;cases r1;lk;obtain⟨o,J,A,Q,d,g⟩:∃o J,Aa X _ P J s1/\J a=AA (.frz o _)/\R (Ml o _ a) J/\∀b,Z b=AF->J b=AF:=by
  rcases T with e|⟨o,e⟩
  . obtain⟨z,K,O,U,o,E,L,V,G,B,r⟩:=(show DL _ _ Z _ a _ from C.cp a _ e);refine⟨o,_,?_,Ac,q o _ Ac (λb D=>AW D),λb D=>by rw[AW (BE e D).symm];exact D⟩;exact C.vk (by rw[e];trivial) (.inl rfl) (λb u _ q=>q) ⟨o,V⟩ ⟨V,z,K,O,U,o,E,L,V,G,B,r⟩
  .exact⟨o,Z,C,e,q o Z e λb _=>rfl,λb D=>D⟩
 obtain⟨V,z,K,O,U,i,E,L,Y,G,B,r⟩:=(show DL _ _ J _ a _ from A.cp a _ Q);rw[V]at Y;cases Y;k_in;have F:=Iw U;refine wpAny_pyIter_dict K ⟨o,E,V,G,B,r⟩ ?_;refine⟨_,_,_,_,J,rfl,A.ip λb o e=>DC _ e,zN a _ B,⟨_,Gk _ rfl,rfl,by rw[F];rfl⟩,λb D=>?_,d⟩;have e:=by simpa using D
 subst e;exact A.vn (Al _) (A.cp.bw (Al _))
theorem RZ{d:AD}{o:BC}{kvs:List (AL×AE)}{g:Eu}{E:Cw}{D:Gv}{J:Ai}{H:AI}(Y:Nat->Ai->AI->Prop)(F:Y 0 J H)(K:∀i J H,i<=kvs.length->Y i J H->H d=AA (.frz o (.dK kvs)))(M:∀(i:Nat)p J H,kvs[i]?=AA p->Y i J H->g (Au p.1) J H λz A=>E {D with nx:=Y (i+1),ct:=Y (i+1),bk:=D.nx} z A)(I:∀J H,Y kvs.length J H->D.nx J H):∃W:Nat->Nat->Ai->AI->Prop,(∃m,W 0 m J H)/\∀i m J H,W i m J H->((Ml o kvs d).vf i H/\D.nx J H)\/((Ml o kvs d).go i H/\∃N:Ai->AI->Prop,(∀Z H',N Z H'->∃C,C<m/\W (i+1) C Z H')/\∀x H',(Ml o kvs d).aaz i H x H'->g x J H' λz A=>E {D with nx:=N,ct:=N,bk:=D.nx} z A):=by
 refine⟨λi m J H=>m=kvs.length-i/\i<=kvs.length/\Y i J H,⟨kvs.length,by simp,Bd _,F⟩,?_⟩;intro i m J H G;lk;obtain⟨rfl,B,p⟩:=G;k_in;have q:=K i J H B p;by_cases U:i<kvs.length
 . refine .inr ⟨⟨q,U⟩,_,λZ H' O=>⟨_,Ja _ _ U,rfl,U,O⟩,λx H' y=>?_⟩;lk;obtain⟨e,P,L,rfl⟩:=y;k_in;subst e;exact M i P J _ L p
 . have:=Fh B (GV U);subst this;exact .inl ⟨⟨q,Al _⟩,I J H p⟩
theorem Y7(A:Nat->Ai->List AE->AI->Prop)(k:kvs.length<=Ay)(S:A 0 (FI n0 AF++L.map (G4 P)) [] H)(a:∀i Y J Z,A i Y J Z->Z d=AA (.frz o (.dK kvs)))(c:∀(i:Nat)p Y J Z(K:AE->Ai->AI->Prop)(I:Ai->AI->Prop),kvs[i]?=AA p->J.length<=i->A i Y J Z->(∀y W z,A (i+1) W (J++[y]) z->K y W z)->(∀W z,A (i+1) W J z->I W z)->g (Au p.1) Y Z λU z=>O U z λb F=>if b=AJ then N U F λy G=>K y U G else I U F)(X:∀Y J Z,J.length<=kvs.length->A kvs.length Y J Z->∀D,Z D=AF->Q (.ref D) (AO Z D (.lst J))):Mg n0 L g O N P Q (Ml o kvs d) H:=by
  refine⟨λi m Y J E=>m=kvs.length-i/\i<=kvs.length/\J.length<=i/\A i Y J E,⟨kvs.length,by simp,Bd _,Bd _,S⟩,?_⟩;intro i m Y J E T;lk;obtain⟨rfl,j,M,p⟩:=T;k_in;have q:=a i Y J E p;by_cases B:i<kvs.length
  . refine .inr ⟨⟨q,B⟩,by omega,λx Z y=>?_⟩;lk;obtain⟨e,f,R,rfl⟩:=y;k_in;subst e;exact c i f Y J _ (λy U G=>∃C,C<kvs.length-i/\C=kvs.length-(i+1)/\i+1<=kvs.length/\(J++[y]).length<=i+1/\A (i+1) U (J++[y]) G) (λU F=>∃C,C<kvs.length-i/\C=kvs.length-(i+1)/\i+1<=kvs.length/\J.length<=i+1/\A (i+1) U J F) R M p (λy W z h=>⟨_,by omega,rfl,B,by rw[CI,AAK];omega,h⟩) λW z h=>⟨_,by omega,rfl,B,by omega,h⟩
  . have e:i=kvs.length:=by omega
    subst e;exact .inl ⟨⟨q,Al _⟩,X Y J E M p⟩
noncomputable instance ABy(k:AL):∀L:List AL,Decidable (k∈L)|[]=>.isFalse (by simp)|x::L=>if h:k=x then .isTrue (by simp[h])else match ABy k L with|.isTrue h2=>.isTrue (by simp[h2])|.isFalse h2=>.isFalse (by simp[h,h2])
def PJ(h:BJ)(u:AK)(ks:List AL)(U:List AD):Prop:=∃a o D m J,u=.ref a/\h.get? a=AA o/\o.cls=.type "tuple"/\o.data=.seq D m/\D.toList=J++U.map DV/\J.map BP=ks/\∀v∈J,EX v
def sI(h:BJ)(V:List AD)(U:List AL)(J:List AD)(D:List AL):Prop:=(V=J/\U=D)\/∃(p q:AD)(Y W:List Int),V=[p]/\J=[q]/\U=Y.map C5/\D=W.map C5/\FP h (.ref p) U/\FP h (.ref q) D
abbrev Ib:=List AL×List AD×List AL
noncomputable def Jq(d:Ib):List AL:=d.1++d.2.2
structure UU(h:BJ)(vs:List AK)(ds:List Ib)(sh:List Bool):Prop where
 dh:vs.length=ds.length
 hn:sh≠[]vq:∀(i:Nat)u d,vs[i]?=AA u->ds[i]?=AA d->PJ h u d.1 d.2.1/\d.1.map B8=sh
 adz:∀(i j:Nat)d e,ds[i]?=AA d->ds[j]?=AA e->d.1=e.1->sI h d.2.1 d.2.2 e.2.1 e.2.2
theorem ZK:∀{V J:List AK}{U D:List AD},(∀v∈V,EX v)->(∀v∈J,EX v)->V++U.map DV=J++D.map DV->V=J/\U=D
 |[],[],U,D,_,_,e=>⟨rfl,by exact(List.map_inj_right (by simp)).mp e⟩|[],v::J,U,D,_,h,e=>by cases U with|nil=>cases e|cons r U=>
  injection e with W _;have:=h v DO;rw[<-W]at this;exact this.elim|v::V,[],U,D,h,_,e=>by cases D with|nil=>cases e|cons r D=>
  injection e with W _;have:=h v DO;rw[W]at this;exact this.elim|v::V,A::J,U,D,h,Z,e=>by injection e with W Y;obtain⟨a,b⟩:=ZK (λz u2=>h _ (Gh u2)) (λz u2=>Z _ (Gh u2)) Y;simp_all
theorem PJ.vq(t:PJ h u ks Z)(t':PJ h u D J):ks=D/\Z=J:=by lk;obtain⟨a,o,V,m,H,rfl,e,_,d,l,k,f⟩:=t;obtain⟨C,G,U,F,B,q,Y,_,W,A,E,z⟩:=t';k_in;injection q with q;subst q;rw[e]at Y;lk;cases Y;rw[d]at W;cases W;obtain⟨x,y⟩:=ZK f z (l.symm.trans A);k_in;simp_all
theorem FP.vq(t:FP h u ks)(t':FP h u D):ks=D:=t.kf.symm.trans t'.kf
noncomputable def L4(vs:List AK)(kss:List (List AL))(u:AK):List AL:=by classical exact if D:∃J,(u,J)∈vs.zip kss then D.choose else[]
theorem UU.kf(x:UU h vs D sh):∀(i:Nat)u d,vs[i]?=AA u->D[i]?=AA d->L4 vs (D.map Jq) u=Jq d:=by
 intro i u d Y U;have A:∃B,(u,B)∈vs.zip (D.map Jq):=⟨Jq d,M7.mpr ⟨i,(by grind)⟩⟩;unfold L4;lk;obtain⟨j,z⟩:=M7.mp A.choose_spec;obtain⟨Z,V⟩:=Ka.mp z;rw[CD]at V;obtain⟨J,W,C⟩:=EI.mp V;obtain⟨a,b⟩:=(x.vq i u d Y U).1.vq (x.vq j u J Z W).1;k_in;have E:d.2.2=J.2.2:=by
  rcases x.adz i j d J U W a with⟨_,q⟩|⟨p,q,_,_,r1,r2,_,_,t1,t2⟩;.exact q
  . rw[b,r2]at r1;injection r1 with r1;subst r1;exact t1.vq t2
 grind
theorem Ze:∀(xs ys:List AK)(J D:List AK)(i:Nat),(∀v∈xs,EX v)->(∀v∈ys,EX v)->xs.map (λv=>B8 (BP v))=ys.map (λv=>B8 (BP v))->(xs.map BP=ys.map BP->∀j,i+xs.length<=j->dO prog w A b fin Q (J.zip D) j s)->(xs.map BP≠ys.map BP->Q (BN (xs.map BP) (ys.map BP)) s)->dO prog w A b fin Q ((xs++J).zip (ys++D)) i s
 |[],[],J,D,i,_,_,_,h,_=>(by(simp[*]))|[],_::_,_,_,_,_,_,e,_,_=>by cases e|_::_,[],_,_,_,_,_,e,_,_=>by cases e|x::xs,y::ys,J,D,i,Z,B,e,h,Y=>by
  obtain⟨U,C⟩:=EH e;have V:=Z x DO;have W:=B y DO;refine V8 (Ui V W U (ABE (λq=>?_) λq=>?_))
  . refine ABG (Ze xs ys J _ _ (λE u2=>Z _ (Gh u2)) (λE u2=>B _ (Gh u2)) C (by grind) λz=>?_);have:=Y (by simp_all);rw[F1,F1,BN]at this;simp_all
  . have q:=AFp q;have:=Y (by simp_all);rw[F1,F1,BN,AFh q]at this;exact dX (Zh _ V W U this)
theorem U0:∀(D:List AD)(i:Nat),Q AQ s->dO prog w A b AQ Q ((D.map DV).zip (D.map DV)) i s|[],_,h=>AD7 h|r::D,i,h=>V8 (ADq _ _ w _ _ (ABG (U0 D _ h)))
theorem Zc:∀{ks D xs ys:List AL},ks.length=D.length->BN (ks++xs) (D++ys)=if ks=D then BN xs ys else BN ks D|[],[],_,_,_=>by rfl|[],_::_,_,_,e=>by cases e|_::_,[],_,_,e=>by cases e|k::ks,l::D,xs,ys,e=>by have J:=Zc (xs:=xs) (ys:=ys) (ACu.mp e);show(if k=l then BN _ _ else Dg k l)=if k::ks=l::D then BN xs ys else(if k=l then BN ks D else Dg k l);(split<;>simp_all)
theorem Pq:∀{D:List AK},(∀v∈D,EX v)->∃J,ReadsAll h D ((D.map BP).map Hy) J
 |[],_=>⟨_,.nil⟩|v::D,f=>by
  obtain⟨J,r⟩:=Pq (λw hw=>f w (Ek _ hw));have U:=f v DO;cases v<;>first|exact U.elim|skip
  .exact⟨_,.cons (.int _ _) r⟩
  .exact⟨_,.cons (.str _ _) r⟩
theorem Uq:∀ns:List Int,(ns.map (C5:Int->AL)).map Hy=ns.map Jz|[]=>rfl|n::ns=>by rw[F1,F1,Uq ns];rfl
theorem tU{A:Ck}{s:AV}{ns J:List Int}(t1:FP s.heap (.ref p) (ns.map C5))(t2:FP s.heap (.ref q) (J.map C5))(L:A.units+64<F2):V5 A s (.ref p) (.ref q) (Ae (ns=J)):=by
 lk;obtain⟨a,o,W,m,V,e,c,d,k,f⟩:=t1;obtain⟨H,N,U,M,D,E,B,C,G,F⟩:=t2;k_in;injection V with V;injection D with D;subst V D;lk;obtain⟨Z,r⟩:=Pq f;obtain⟨z,Y⟩:=Pq F;k_in;rw[k,Uq]at r;rw[G,Uq]at Y;have:=ADs _ _ A s _ _ Z _ (.tuple e c d r) (.tuple E B C Y) (by simp[Gm,(PZ ns).1]) (by simp[Gm,(PZ J).1]) (by
  have K:(ADo (ns.map Jz)).depth<=1:=by simp[IH,(PZ ns).2]
  lia);have I:SV (.tuple (ns.map Jz)) (.tuple (J.map Jz))=Ae (ns=J):=by exact ZI ns J
 simp_all
theorem vM{A:Ck}{s:AV}{ns W:List Int}(t1:FP s.heap (.ref p) (ns.map C5))(t2:FP s.heap (.ref q) (W.map C5))(P:A.units+64<F2)(h:Q (BN (ns.map C5) (W.map C5)) s):As (An prog w) A (oneLt' AQ (.ref p) (.ref q)) Q E s:=by
 lk;obtain⟨a,o,D,m,B,e,c,d,k,f⟩:=t1;obtain⟨g,X,J,T,U,K,F,H,R,O⟩:=t2;k_in;injection B with B;injection U with U;subst B U;lk;obtain⟨M,N,I,b⟩:=o;obtain⟨G,Z,Y,C⟩:=X;k_in;simp only at c d F H;subst c d F H;have V:∀(l:List Int)(i:Nat)(z:AL),(l.map (C5:Int->AL))[i]?=AA z->B8 z=AJ:=λl i z L=>by rw[CD]at L;obtain⟨n,_,rfl⟩:=EI.mp L;rfl
 have S:O8 D.toList J.toList D.size J.size (BN (ns.map C5) (W.map C5)):=by refine⟨⟨D.toList,[],by simp,.inl rfl,f,O,λi x y j r=>?_,by rw[k,R]⟩,SH _ _⟩;rw[V ns i (BP x) (by grind),V W i (BP y) (by grind)]
 refine dY _ _ ?_;exact eK (op:=.Lt) ⟨_,e,rfl⟩ ⟨_,K,rfl⟩ AA0 AAw (by rfl) (VT p q _ _ m T N Z b C _ S) ⟨e,K,⟨(by simp),h⟩⟩ (SJ P)
theorem UU.abu(x:UU h vs X sh)(B:A.units+64<F2)(h2:2<=vs.length)(kp:∀a o D m,h.get? a=AA o->o.cls=.type "tuple"->o.data=.seq D m->s.heap.get? a=AA o):∃κ,(∀(Q:OJ->AV->Prop)(E:AK->AV->Prop),Q κ s->As (An prog w) A (Vz vs.toArray) Q E s)/\F4 prog w A s κ Gz (L4 vs (X.map Jq)) (Ir vs):=by
  have mp:∀p∈(Ir vs).toList,p.1∈vs:=λp N=>by rw[SR]at N;exact(cR N).2
  have kn:∀{u K rs},PJ h u K rs->PJ s.heap u K rs:=λ⟨a,o,D,m,U,b,e,c,d,r⟩=>⟨a,o,D,m,U,b,kp a o D m e c d,c,d,r⟩;have R:∀{u K},FP h u K->FP s.heap u K:=λ⟨a,o,D,m,b,e,c,d,r⟩=>⟨a,o,D,m,b,kp a o D m e c d,c,d,r⟩;have Y:∀u∈vs,∃(i:Nat)(d:Ib),vs[i]?=AA u/\X[i]?=AA d:=λu B=>K9 x.dh B;refine⟨tuples' AJ,λQ E q=>?_,⟨λp N q hq Q E k=>?_⟩⟩
  . have y:∀(l:List AK),(∀u∈l,u∈vs)->∃C,AA9 s.heap l C/\C.length=l.length/\∀v∈C,EX v/\B8 (BP v)=sh.headD AJ:=λl=>by induction l with |nil=>exactλ_=>⟨[],trivial,rfl,λv F=>by cases F⟩|cons u l ih=> intro B;obtain⟨C,O,P,n⟩:=ih (λu1 u2=>B _ (Gh u2));obtain⟨i,d,M,H⟩:=Y u (B u DO);obtain⟨t,z⟩:=x.vq i u d M H;obtain⟨a,o,D,m,U,rfl,e,c,Z,G,r,W⟩:=kn t;match U,G,r,W with
        |[],_,r,_=>rw[<-r]at z;exact absurd z.symm x.hn|f0::l1,G,r,W=>
          have g0:D[0]?=AA f0:=by rw[<-OV,G];rfl
          refine⟨f0::C,ABA e c Z g0 O,AAS.mpr P,λv F=>?_⟩;grind
    lk;obtain⟨C,O,P,n⟩:=y vs λ_ h=>h;k_in;cases hh:sh.headD AJ with
    |true=> refine V9 (T:=.type "int") O (AFr (IE h2) P.symm) (λv F=>?_) (by decide) q;obtain⟨W,z⟩:=n v F;rw[hh]at z;cases v<;>first|exact W.elim|exact Hm _|exact Hm (show AQ=AJ from z)|exact .now
    |false=> refine V9 (T:=.type "str") O (AFr (IE h2) P.symm) (λv F=>?_) (by decide) q;obtain⟨W,z⟩:=n v F;rw[hh]at z;cases v<;>first|exact W.elim|exact Hm (show AJ=AQ from z)|exact Hm (show AQ=AJ from z)|exact .now
  . lk;obtain⟨i,d,M,H⟩:=Y _ (mp p N);obtain⟨j,Z,e3,f⟩:=Y _ (mp q hq);have k:Q (BN _ _) s:=k;rw[x.kf i _ d M H,x.kf j _ Z e3 f]at k;obtain⟨t,z1⟩:=x.vq i _ d M H;obtain⟨t',z2⟩:=x.vq j _ Z e3 f;obtain⟨a,o,D,m,U,u1,e,c,dd,G,r,W⟩:=kn t;obtain⟨a',o',J,m',V,u2,e',c',S,L,r',g⟩:=kn t';k_in;have es:=by
      have h1:(U.map BP).map B8=(V.map BP).map B8:=by rw[r,r',z1,z2]
      rw[C8,C8]at h1;exact h1
    have el:=by have:=AFj MD (z1.trans z2.symm);simpa using this
    unfold Jq at k;rw[Zc el]at k;rw[u1,u2];refine ABF e dd e' S ?_;rw[G,L];have lu:U.length=d.1.length:=by rw[<-r,BB]
    have lu':V.length=Z.1.length:=by rw[<-r',BB]
    have sz1:D.size=U.length+d.2.1.length:=by rw[<-MQ,G];simp
    have sz2:J.size=V.length+Z.2.1.length:=by rw[<-MQ,L];simp
    have I:0<U.length:=by rw[lu];refine Nat.pos_of_ne_zero λz=>x.hn ?_;grind
    refine Ze U V _ _ 0 W g es (λq j hj=>?_) λq=>?_
    . rw[r,r']at q;rw[AFi q]at k;rcases x.adz i _ d Z H f q with⟨q1,q2⟩|⟨p',q',ns,ms,r1,r2,r3,r4,t1,t2⟩;. rw[AFl (by rw[sz1,sz2,lu,lu',el,q1];exact HW _),q1];rw[q2,Mu]at k;exact U0 _ _ k
      . rw[AFl (by(simp[*])),r1,r2];rw[r3]at t1;rw[r4]at t2;rw[r3,r4]at k;refine V8 (tU (R t1) (R t2) B prog w _ _ (ABE (λz=>?_) λz=>?_))
        . have z:=AFm z;rw[z,Mu]at k;assumption
        . refine dX ?_;have j0:(j==0)=AQ:=by simp;exact NA (Bc I (SI hj))
          rw[j0,AB4];exact vM (R t1) (R t2) B k
    simp_all
def RL(K:Aq)(H:AI)(xs:List AE)(D:List Ib)(sh:List Bool):Prop:=sh≠[]/\BW (λx(d:Ib)=>(∃a,x=.ref a/\Cb K H a (d.1.map Au++d.2.1.map AE.ref))/\d.1.map B8=sh) xs D/\∀(i j:Nat)d e,D[i]?=AA d->D[j]?=AA e->d.1=e.1->(d.2.1=e.2.1/\d.2.2=e.2.2)\/∃(p q:AD)(U J:List Int),d.2.1=[p]/\e.2.1=[q]/\d.2.2=U.map C5/\e.2.2=J.map C5/\Cb K H p (U.map AE.int)/\Cb K H q (J.map AE.int)
theorem aI:∀{D:List AD}{J:List AK},Bb (D.map AE.ref) J->J=D.map DV|[],_,h=>by cases h;rfl|r::D,_,h=>by cases h with|cons U W=>cases U;rw[aI W];rfl
theorem bD(I:Aa X J C H s){ns:List Int}(h:Cb X.K H p (ns.map AE.int)):FP s.heap (.ref p) (ns.map C5):=by
 have U:Cb X.K H p ((ns.map (C5)).map Au):=by rw[C8];exact h
 lk;obtain⟨D,z,⟨o,Z,W,n,Y⟩,_⟩:=I.gf U;obtain⟨A,B⟩:=KS z;k_in;exact⟨p,o,_,n,rfl,Z,W,Y,by assumption,by assumption⟩
theorem RL.aax(I:Aa X E v H s)(h:RL X.K H xs W sh)(r:Bb xs its):UU s.heap its W sh:=by
  lk;obtain⟨P,p,U⟩:=h;have O:=r.ar;obtain⟨L,M⟩:=Cf p;k_in;refine⟨NL O.symm L,P,λi u d J D=>?_,λi j d e J D q=>?_⟩
  . have l:=(BV.mp D).1;have Y:xs[i]?=AA xs[i]:=Cr _;lk;obtain⟨⟨a,K,R⟩,z⟩:=M i _ _ Y D;obtain⟨m,Z,A⟩:=r.vm Y;rw[J]at Z;cases Z;rw[K]at A;obtain rfl:u=DV a:=A;obtain⟨C,f,⟨o,Q,N,n,B⟩,_⟩:=I.gf R;obtain⟨g,t,rfl,k,v2⟩:=VX f;obtain⟨S,T⟩:=KS k;k_in;rw[aI v2]at B;exact⟨⟨a,o,_,n,g,rfl,Q,N,B,by simp,S,T⟩,z⟩
  . rcases U i j d e J D q with h|⟨p,q,c,b,r1,r2,F,G,t1,t2⟩;.exact .inl h
    .exact .inr ⟨p,q,c,b,r1,r2,F,G,by rw[F];exact bD I t1,by rw[G];exact bD I t2⟩
theorem tD{K:Aq}(G:DW k X.A)(E:X.K=K:=by rfl):Ez X (.builtin "sorted") (λxs H Q=>∃(p:AD)(ys:List AE)(J:List Ib)(sh:List Bool),xs=[.ref p]/\Bx K H p ys/\RL K H ys J sh/\∀l(qs:List (AE×List AL)),H l=AF->qs.Perm (ys.zip (J.map Jq))->(qs.map (·.2)).Pairwise (λa b=>BN b a=AQ)->Q (.ref l) (AO H l (.lst (qs.map (·.1))))):=by
 subst E;intro z s T H xs S Q I r h;lk;obtain⟨p,ys,J,sh,rfl,F,O,q⟩:=h;obtain⟨u,rfl,N⟩:=Ip r;cases N;obtain⟨D,U,M,Z⟩:=I.iq F;k_in;refine R4 I Z (Ud U M Z) (λD U=>?_) q;have W:=O.aax I U;refine⟨by rw[BB];exact W.dh,L4 D (J.map Jq),λi u P A Y=>?_,λR L C=>W.abu ?_ C λa o _ _ e _ _=>L a o e⟩
 . rw[CD]at Y;obtain⟨d,B,rfl⟩:=EI.mp Y;exact W.kf i u d A B
 . have:=G.un;grind
def aW(t u:Cw):Cw:=λD V H=>∀(N:Ai->AI->Prop)(r:Bh)(b c:Ai->AI->Prop),(∀J U,u D J U->N J U)->t ⟨N,r,b,c⟩ V H
theorem Cc{st:Cj}(V:D6 X st t)(W:FC X J u):FC X (st::J) (aW t u):=λU s Y H D I h=>Ag V W _ s Y H D I (h _ _ _ _ λ_ _ z=>z)
def yW(t:Cw):Cw:=λD V H=>∀(N:Ai->AI->Prop)(r:Bh)(b c:Ai->AI->Prop),(∀J U,D.nx J U->N J U)->t ⟨N,r,b,c⟩ V H
theorem wZ{st:Cj}(U:D6 X st t):D6 X st (yW t):=λJ s V H D I h=>U _ s V H D I (h _ _ _ _ λ_ _ z=>z)
@[elab_as_elim]theorem BM{H:AI}{R:AI->Prop}(D:H c=AF)(k:∀G,Ah H G->G c=AA o->R G):R (AO H c o):=k _ (CB D) Ac
theorem Ba{n:Nat}(h:n.ble m=AJ):n<=m:=(b8 h)
theorem Ry(J:D.kind=.function:=by rfl)(U:D.isCoroutine=AQ:=by rfl)(V:D.isGenerator=AQ:=by rfl)(W:N.Nodup:=by decide+kernel)(Y:N.take P.length=P:=by rfl)(Z:∀x∈P,D.names.lookup x=AA .local\/D.names.lookup x=AA .cell:=by decide+kernel)(z:∀y∈D.names,y.2≠.free:=by decide+kernel):Lm N P D:=⟨J,U,V,W,Y,Z,z⟩
theorem BD(i:Nat)(U:X.N.Nodup)(V:Ao X e z)(hi:X.N[i]?=AA x:=by rfl)(Z:K0 X.af.scope x:=by first|exact .inl rfl|exact .inr rfl)(Y:MP e (AA (.Name x D)) J.line X.af=Bf AQ:=by rfl)(W:X.fn x=AJ\/X.af.scope.names.lookup x=AA .local:=by first|exact .inl rfl|exact .inr rfl|assumption):D6 X (.Assign [.Name x D] e J) (Pw z (Gx i)):=KY U hi Z V Y W
theorem EF(i:Nat)(D:X.N.Nodup)(hi:X.N[i]?=AA x:=by rfl)(U:K0 X.af.scope x:=by first|exact .inl rfl|exact .inr rfl)(J:X.fn x=AJ\/X.af.scope.names.lookup x=AA .local:=by first|exact .inl rfl|exact .inr rfl|assumption):K4 X (.Name x V) (Gx i):=Il D hi U J
theorem L7(K:Aq)(A:Ao X a C)(z:GR X (e::V) t)(Z:X.K=K:=by rfl)(J:J3 a "append" X.af (BY a X.af)=BY a X.af:=by rfl)(W:((FU D (CQ (e::V) X.af)).all (λx=>!x.1)&&(QE D (QL [] X.af)).all (λx=>x.1.isSome)&&Ae ((e::V).length+([]:List MM).length+(if([]:List MM).isEmpty then 0 else 1)<30))=AJ:=by rfl)(U:(p.endLine==D.line)=AJ:=by rfl)(B:CQ (e::V) X.af=(AQ,BY e X.af)::CQ V X.af:=by rfl)(Y:(FU D (CQ V X.af)).any (·.1)=AQ:=by rfl):Ao X (.Call (.Attribute a "append" p) (e::V) [] D) (VO K "list" Z7 C t):=Mw QA AAz F.type_list_append vR A z Z J W U B Y
theorem HR(osc:Fj)(Y:List (AG×Nat))(A:KL X D Y)(hi:GS X (.Name x E) J wi)(N:∀C s H ex,KO (Dr X D (x::Y.map (·.1)) C s H ex) z F)(I:∀C s H ex,Ao (Dr X D (x::Y.map (·.1)) C s H ex) Z Q)(G:X.ic=AJ:=by rfl)(L:X.af.scope=osc:=by rfl)(K:D.kind=.function:=by rfl)(V:∀y∈D.names,y.2≠.cell:=by decide+kernel)(U:∀y∈D.names,y.2=.local->D.names.lookup y.1=AA .local:=by decide+kernel)(W:∀y∈D.names,y.2=.free->osc.names.lookup y.1=AA .cell\/osc.names.lookup y.1=AA .free:=by decide+kernel)(O:D.names.lookup x=AA .local:=by rfl)(B:(x::Y.map (·.1)).Nodup:=by decide+kernel)(M:∀x,NJ J X.af x=Bf x:=by intro _;rfl):Ao X (.ListComp Z [⟨.Name x E,J,z,0⟩] D P) (L9 1 (Y.map (·.2)) wi (Gx 0) F Q):=Pk Y G hi L K V U W A O B N I M
def JT(x:AE)(k:Int->Prop):Prop:=match x with|.int i=>k i|_=>False
def Rm(x:AE)(k:AD->Prop):Prop:=match x with|.ref i=>k i|_=>False
def Rn(x:Option (Option AE))(k:AE->Prop):Prop:=match x with|AA (AA v)=>k v|_=>False
def Zm(xs:List AE)(k:AE->Prop):Prop:=match xs with|[x]=>k x|_=>False
def U4(xs:List AE)(k:AE->AE->Prop):Prop:=match xs with|[x,y]=>k x y|_=>False
theorem Ii(h:JT x k):∃i,x=.int i/\k i:=by cases x<;>first|exact⟨_,rfl,h⟩|exact h.elim
theorem U5(h:Rm x k):∃i,x=.ref i/\k i:=by cases x<;>first|exact⟨_,rfl,h⟩|exact h.elim
theorem U6(h:Rn x k):∃v,x=AA (AA v)/\k v:=by match x,h with|AA (AA v),h=>exact⟨v,rfl,h⟩
theorem vX(h:Zm xs k):∃x,xs=[x]/\k x:=by match xs,h with|[x],h=>exact⟨x,rfl,h⟩
theorem Zn(h:U4 xs k):∃x y,xs=[x,y]/\k x y:=by match xs,h with|[x,y],h=>exact⟨x,y,rfl,h⟩
def zK(i:Nat):Az:=λD H Q=>Rn D[i]? λv=>Q v H
def Rw(C:Int->Int->Prop)(g:Int->Int->AE):Dq:=λx y H Q=>JT x λi=>JT y λj=>C i j/\Q (g i j) H
def N6(g:Int->Int->AE):Dq:=λx y H Q=>JT x λi=>JT y λj=>Q (g i j) H
def xT(g:Int->AE):AE->AI->Bh->Prop:=λx H Q=>JT x λi=>Q (g i) H
def xK(K:Aq):Dq:=λx y H Q=>Rm x λp=>JT y λi=>FD (λD v=>Bx K H p D) (λD v=>DM D i=AA v) (λ_ v=>Q v H)
def xN(K:Aq):Dq:=λx y H Q=>Rm x λp=>JT y λi=>FD (λD v=>Cb K H p D) (λD v=>DM D i=AA v) (λ_ v=>Q v H)
theorem wK(h:Ao X e t)(m:∀D H Q,t' D H Q->t D H Q):Ao X e t':=λJ s D H Q I w=>h _ s D H Q I (m D H Q w)
theorem L5(h:CP X J r)(m:∀x y H Q,U x y H Q->r x y H Q):CP X J U:=λD s Y H x y v u Q I V W w=>h _ s Y H x y v u Q I V W (m x y H Q w)
theorem VI(x y:AE)(H:AI)(Q:Bh)(h:Rw C g x y H Q):N5 C g x y H Q:=by lk;obtain⟨i,rfl,D⟩:=Ii h;obtain⟨j,rfl,c,q⟩:=Ii D;k_in;exact⟨i,j,rfl,rfl,c,q⟩
theorem Pp(x y:AE)(H:AI)(Q:Bh)(h:N6 g x y H Q):LG g x y H Q:=by lk;obtain⟨i,rfl,D⟩:=Ii h;obtain⟨j,rfl,q⟩:=Ii D;k_in;exact⟨i,j,rfl,rfl,q⟩
theorem AB{x:AG}(i:Nat)(J:X.N[i]?=AA x:=by rfl)(V:RP X.af.scope x:=by first|exact Or.inl rfl|exact Or.inr (Or.inl rfl)|exact Or.inr (Or.inr rfl))(U:(x==("__debug__":AG))=AQ:=by decide)(D:(x==("__classdict__":AG))=AQ:=by decide):Ao X (.Name x W) (zK i):=wK (Z1 J V U D) λ_ _ _ h=>have⟨v,e,q⟩:=U6 h;⟨v,e,q⟩
theorem DH:CP X (G9 .Add) (N6 λi j=>.int (i+j)):=L5 Zp Pp
theorem Fv:CP X (G9 .Sub) (N6 λi j=>.int (i-j)):=L5 VD Pp
theorem Fe:CP X (G9 .Mult) (Rw UM λi j=>.int (i*j)):=L5 wC VI
theorem C4:CP X (G9 .FloorDiv) (Rw Yf λi j=>.int (i/j)):=L5 v5 VI
theorem CC:CP X (G9 .Mod) (Rw (λ_ j=>0<j) λi j=>.int (i%j)):=L5 wB VI
theorem Mv:CP X (Ed .Lt) (N6 λi j=>.bl (Ae (i<j))):=L5 v9 Pp
theorem LD:CP X (Ed .LtE) (N6 λi j=>.bl (Ae (i<=j))):=L5 VA Pp
theorem LA:CP X (Ed .Gt) (N6 λi j=>.bl (Ae (j<i))):=L5 Zq Pp
theorem VW:RO X (unaryOp .USub) (xT λi=>.int (-i)):=λD s U H x v Q I J h=>zV _ s U H x v Q I J (have⟨v,e,q⟩:=Ii h;⟨v,e,q⟩)
theorem Dj(K:Aq)(W:Ao X a C)(Y:Ao X b E)(Z:UT b:=by exactλ_ _=>rfl)(V:X.K=K:=by rfl):Ao X (.Subscript a b z) (N7 (xK K) C E):=FR (λa b D s G H x y v u Q I A B h=>Ly V a b _ s G H x y v u Q I A B (by lk;obtain⟨p,rfl,h⟩:=U5 h;obtain⟨i,rfl,F,w,J,U,q⟩:=Ii h;k_in;exact⟨p,F,i,w,rfl,rfl,J,U,q⟩)) W Y Z
theorem Av(K:Aq)(W:Ao X a C)(Y:Ao X b E)(Z:UT b:=by exactλ_ _=>rfl)(V:X.K=K:=by rfl):Ao X (.Subscript a b z) (N7 (xN K) C E):=FR (λa b D s G H x y v u Q I A B h=>JS V a b _ s G H x y v u Q I A B (by lk;obtain⟨p,rfl,h⟩:=U5 h;obtain⟨i,rfl,F,w,J,U,q⟩:=Ii h;k_in;exact⟨p,F,i,w,rfl,rfl,J,U,q⟩)) W Y Z
theorem RV(J:X.ic=AJ):Ez X (.builtin "max") (λxs H Q=>U4 xs λx y=>JT x λi=>JT y λj=>Q (.int (if j>i then j else i)) H):=λD s V H xs U Q I r h=>sV J _ s V H xs U Q I r (by lk;obtain⟨x,y,rfl,h⟩:=Zn h;obtain⟨i,rfl,h⟩:=Ii h;obtain⟨j,rfl,q⟩:=Ii h;k_in;exact⟨i,j,rfl,q⟩)
theorem Y2(J:X.ic=AJ):Ez X (.builtin "min") (λxs H Q=>U4 xs λx y=>JT x λi=>JT y λj=>Q (.int (if j<i then j else i)) H):=λD s V H xs U Q I r h=>sX J _ s V H xs U Q I r (by lk;obtain⟨x,y,rfl,h⟩:=Zn h;obtain⟨i,rfl,h⟩:=Ii h;obtain⟨j,rfl,q⟩:=Ii h;k_in;exact⟨i,j,rfl,q⟩)
theorem FE{K:Aq}(J:X.K=K:=by rfl):Ez X (.builtin "len") (λxs H Q=>Zm xs λx=>Rm x λp=>∃ys,(Bx K H p ys\/Cb K H p ys)/\Q (.int ys.length) H):=λD s V H xs U Q I r h=>Y1 J _ s V H xs U Q I r (by lk;obtain⟨x,rfl,h⟩:=vX h;obtain⟨p,rfl,ys,h,q⟩:=U5 h;k_in;exact⟨p,ys,rfl,h,q⟩)
theorem ZJ:∀a b:List AL,QB (a.map Hy) (b.map Hy)=Ae (a=b)|[],[]=>by simp[QB]|[],_::_=>by simp[QB]|_::_,[]=>by simp[QB]|x::r,y::t=>by have D:=ZJ r t;cases x<;>cases y<;>simp[QB,SV,Hy,D];all_goals rw[Sn];simp
theorem Aa.adp(I:Aa X D Y H s)(e:H a=AA (.frz o u))(n:∀o u,X.H₀ a≠AA (.frz o u)):Aa X D Y (AO H a u) s:=by
  have J:∀{b},H b=AF->b≠a:=(by grind);refine⟨I.ok,I.os,I.iu,⟨I.ag.ae,I.ag.qv,λb o q h C=>?_,I.ag.cq,λb W q=>?_,λb o u q=>?_,λb E q=>?_⟩,I.vo,I.ma,by rw[AW (J I.au)];exact I.au,λx c q=>by rw[AW (J (I.ik x c q))];exact I.ik x c q,λp B=>?_,λb v q=>?_,I.dh⟩;. have:=I.ag.au b o q h C;rw[AW (J this)];assumption
  . have:=I.ag.ri b W q;rw[AW (by grind)];assumption
  . have:=I.ag.ng b o u q;rw[AW (by grind)];assumption
  . obtain⟨m,this⟩:=I.ag.rh b E q;exact⟨m,by rw[AW (by grind)];assumption⟩
  . lk;obtain⟨Z,U,A⟩:=I.qx p B;k_in;exact⟨Z,by rw[AW (J U)];exact U,A⟩
  . have V:∀{v},DL _ _ H _ b v->DL X.ai X.w (AO H a u) s.heap b v:=λh=>h.ve (λG u2 u3 F=>F) (λc q=>by rw[AW (by grind)];exact q) λc W q=>by rw[AW (by grind)];exact q
    by_cases z:b=a
    . subst z;rw[Ac]at q;cases q;exact V (I.cp b _ e).2
    . rw[AW z]at q;exact V (I.cp b v q)
set_option tactic.hygienic true in theorem N4{X:Be}{st:Cj}{t:Cw}(h:D6 X st t):D6 X st (λD σ H=>∃a,(∀o u,H a≠AA (.frz o u))/\t {D with nx:=λJ H'=>∃o u,H' a=AA (.frz o u)/\D.nx J (AO H' a u)} σ H):=by intro pins s σ H D I⟨a,V,w⟩;have W:=λo u z=>V o u (I.ag.ng _ _ _ z);refine A1 (h _ s σ H _ I w) λf s' q=>?_;cases f with|next=>lk;obtain⟨J,H',U,o,u,e,q⟩:=q;k_in;exact⟨J,_,U.adp e W,q⟩|brk=>exact q|cont=>exact q|ret u=>exact q
noncomputable def Nk(o:BC)(kvs:List (AL×AE))(d:AD):Gb:=⟨λi H=>H d=AA (.frz o (.dK kvs))/\i<kvs.length,λi H x D=>D=H/\∃p,kvs[i]?=AA p/\x=p.2,λi H=>H d=AA (.frz o (.dK kvs))/\kvs.length<=i⟩
theorem zP{K:Aq}(d it:AD)(j:o.data=.dict u ep):Lq P w K tg (Nk o kvs d) [it] it (λi h=>h.IsValIter it d i kvs.length ep)where
 aca:=by simp
 bz:=λi h D b f=>by lk;obtain⟨o,e,c,d⟩:=D;k_in;simp_all
 ae:=λi h a D k=>by lk;obtain⟨o,e,r⟩:=D;k_in;exact⟨o,(k _ DO _ e),r⟩
 wq:=by intro X M hw L g i Z s σ H E I N D O;subst M hw L;lk;obtain⟨e,Q⟩:=O;obtain⟨z,J,U⟩:=Nw I.cp e j;k_in;have Y:=Iw J;have S:z[i]?=AA (z[i]'(by simp_all)):=(by simp);have R:kvs[i]?=AA kvs[i]:=(by simp);have T:=Pg J R S;generalize kvs[i]=p at R T;generalize z[i]'(Bc Q (Bo Y))=q at S T;lk;obtain⟨k,x⟩:=q;obtain⟨A,B,v,C,F,G⟩:=N it (by simp);k_in;rw[Y]at D;refine wpAny_pyNext_values_item D U S λa W y=>?_;have l:=I.fw (t':=s.toks) (λb o f e=>(y.2 b f).trans e) A B C F G;lk;obtain⟨o',t,m,n⟩:=id W;k_in;rw[<-Y]at W;exact⟨x,rfl,PY t m n (by decide) ⟨p.2,H,l,T.2,⟨rfl,p,R,rfl⟩,W,(by(simp[*]))⟩⟩
 wk:=by intro X M hw L g i Z s σ H E I N D O;subst M hw L;lk;obtain⟨e,Q⟩:=O;obtain⟨z,J,U⟩:=Nw I.cp e j;have Y:=Iw J;obtain⟨A,B,v,C,F,G⟩:=N it (by simp);k_in;rw[Y]at D;exact wpAny_pyNext_values_end (I.ok.hd g) D U (SA.mpr (Ak (Bo Y.symm) Q)) λa eb=>⟨rfl,I.fw (by assumption) A B C F G⟩
 yg:=λ_ _ _ _ _ D h=>wpAny_pyIter_valiter D h
noncomputable def Nj(o:BC)(kvs:List (AL×AE))(d:AD):Gb:=⟨λi H=>H d=AA (.frz o (.dK kvs))/\i<kvs.length,λi H x D=>∃r p,kvs[i]?=AA p/\x=.ref r/\H r=AF/\D=AO H r (.tup [Au p.1,p.2]),λi H=>H d=AA (.frz o (.dK kvs))/\kvs.length<=i⟩
theorem zO{K:Aq}(d it:AD)(y:o.data=.dict es ep):Lq P w K (.Tuple B x1 N) (Nj o kvs d) [it] it (λi h=>∃Q R,IsItemIter h it d i kvs.length ep Q R)where
 aca:=by simp
 bz:=(by simp_all)
 ae:=(by grind)
 wq:=by
  intro X a hw T v i L s σ H E I C D f;subst a hw T;lk;obtain⟨e,g⟩:=f;obtain⟨A,U,W⟩:=Nw I.cp e y;k_in;have Z:kvs.length=A.length:=Iw U;have z:A[i]?=AA (A[i]'(by simp_all)):=(by simp);have l:kvs[i]?=AA kvs[i]:=(by simp);have S:=Pg U l z;generalize kvs[i]=p at l S;generalize A[i]'(Bc g (Bo Z))=q at z S;lk;obtain⟨k,x⟩:=q;obtain⟨Q,R,D⟩:=D;k_in;rw[Z]at D;have r:it<s.heap.objs.size:=CS D;refine wpAny_pyNext_items_item D W z λG h' F eo ht hsz kk=>⟨_,rfl,wpAny_letOwnedTupleGo_items eo λO c sb=>?_⟩;have hn:=I.cp.bw (Al _);have M:s.heap.objs.size≠it:=NA r;have Y:∀b o,b∉[it]->s.heap.get? b=AA o->O.get? b=AA o:=λb o J q=>by have t:b≠it:=(List.ne_of_not_mem_cons J);exact(sb.2 b t).trans (kk b o t q)
  have hk:p.1=k:=S.1;have rk:Bn (Au p.1) G:=by rw[hk];exact Uv F
  have m:=(sb.2 _ M).trans ht;have j:DG X.ai X.w (AO H s.heap.objs.size (.tup [Au p.1,p.2])) O:=by refine(I.cp.aas [it] (λb J=>(C b J).1) Y).aac hn ?_;exact⟨show 2<=Ay by decide,[G,x],.cons rk (.cons S.2 .nil),⟨_,m,rfl,_,rfl⟩⟩
  have un:Ge (DU X.cg) [it] H (AO H s.heap.objs.size (.tup [Au p.1,p.2])) s.heap O:=by
   refine⟨(λu1 u2 u3 u4 u5 u6=>Y _ _ u6 u3),λb o q n J z=>⟨o.slots,Y b o z q⟩,λb o q n z=>?_,(by grind),λb ys q=>?_,λb o u q=>?_,λb ps q=>?_⟩;.rw[AW (Dz (CS q))];exact n
   .rw[AW (by grind)];exact q
   .rw[AW (by grind)];exact q
   .exact⟨#[],by rw[AW (by grind),ABz];exact q⟩
  have I2:=I.xk (s':={s with heap:=O}) (ch:=[it]) rfl un j I.iu λb J=>by obtain⟨q0,q1,q2,q3,q4,q5⟩:=C b J;(constructor<;>lia)
  rw[<-Z]at c;refine⟨.ref s.heap.objs.size,_,I2,rfl,⟨_,p,l,rfl,hn,rfl⟩,(by grind),λb J=>?_⟩;have e:b=it:=Bt.mp J;subst e;rw[AW M.symm];exact(C b J).1
 wk:=by intro X a hw T v i L s σ H E I C D f;subst a hw T;lk;obtain⟨e,g⟩:=f;obtain⟨A,U,W⟩:=Nw I.cp e y;have Z:kvs.length=A.length:=Iw U;obtain⟨f0,f1,f2,f3,f4,f5⟩:=C it (by simp);obtain⟨Q,R,D⟩:=D;k_in;rw[Z]at D;exact wpAny_pyNext_items_end (I.ok.hd v) D W (SA.mpr (Ak (Bo Z.symm) g)) λh' eb=>⟨rfl,I.fw (t':=s.toks) (by assumption) f0 f1 f3 f4 f5⟩
 yg:=λ_ _ _ _ _ D h=>by lk;obtain⟨Q,R,D⟩:=D;k_in;exact W.kcp_self D h
def ZP(J:BC->List (AL×AE)->AD->Gb)(Y:Az):GB:=λZ H R=>Y Z H λx U=>FD (λa D=>x=.ref a) (λa D=>U a=AA (.dK D)) (λa D=>∀o W,W=AO U a (.frz o (.dK D))->R (J o D a) W)
theorem Aa.qr(I:Aa X D B H s)(q:H a=AA (.dK kvs)):∃vs o J ep,Fb kvs vs/\o.data=.dict J ep/\(a==LU)=AQ/\Aa X D B (AO H a (.frz o (.dK kvs))) s/\s.heap.DictAt (FQ X.ai X.w) a vs ep:=by lk;obtain⟨z,A,vs,U,o,J,ep,W,Z,Y,r⟩:=(show DL _ _ H _ a _ from I.cp a _ q);k_in;exact⟨vs,o,J,ep,U,Y,A,I.vk (by rw[q];trivial) (.inl rfl) (λE u2 u3 C=>C) ⟨o,W⟩ ⟨W,z,A,vs,U,o,J,ep,W,Z,Y,r⟩,o,J,W,Z,Y,r⟩
theorem wV(ho:Ao X o tl)(hbase:J3 o "values" X.af (BY o X.af)=BY o X.af)(hline:(apos.endLine==pos.line)=AJ):GS X tg (.Call (.Attribute o "values" apos) [] [] pos) (ZP Nk tl):=by intro pins s σ H R I h;refine eQ (T:="dict") (id:="dict.values") hbase rfl hline dC ADc F.type_dict_values (A1 (ho pins s σ H _ I h) λv s1 hh11=>?_);lk;obtain⟨x,H1,I1,r1,a,kvs,e,q0,q⟩:=hh11;k_in;subst e;lk;cases r1;obtain⟨vs,o,es,ep,rel,hd,lo,I2,hat⟩:=I1.qr q0;k_in;have hl:kvs.length=vs.length:=Iw rel;refine⟨hat.dictOf.typeIs,hat.dictOf.mapOf.noDict,?_⟩;refine AET ADc F.entry_dict_values rfl (ABT ⟨rfl,hat.dictOf.typeIs,(by rfl),_,meets_dict_values (FQ X.ai X.w) a lo,⟨vs,hat.dictOf⟩,?_⟩);refine wpAny_pyIter_values (knd:=FQ X.ai X.w) (d:=a) (kvs:=vs) (ep:=ep) ⟨_,Gk _ rfl,rfl,rfl⟩ (hat.push _) ?_;have I3:Aa X pins σ (AO H1 a (.frz o (.dK kvs))) {s1 with heap:=s1.heap.push {cls:=.type "dict_values",data:=.fields #[.ref a]}}:=I2.ip (t':=s1.toks) λb o e=>DC _ e;generalize s1.heap.push _=h1 at I3⊢;refine⟨h1.objs.size,[h1.objs.size],_,Nk o kvs a,_,rfl,I3.ip (t':=s1.toks) λb o e=>DC _ e,zP a _ hd,⟨_,Gk _ rfl,rfl,by simp_all⟩,λb hb=>?_,q o _ rfl⟩;have e:b=h1.objs.size:=Bt.mp hb;subst e;exact I3.vn (Al _) (I3.cp.bw (Al _))
theorem wU(ho:Ao X o tl)(hbase:J3 o "items" X.af (BY o X.af)=BY o X.af)(hline:(apos.endLine==pos.line)=AJ):GS X (.Tuple elts x1 tpos) (.Call (.Attribute o "items" apos) [] [] pos) (ZP Nj tl):=by intro pins s σ H R I h;refine eQ (T:="dict") (id:="dict.items") hbase rfl hline dC ADa F.type_dict_items (A1 (ho pins s σ H _ I h) λv s1 hh11=>?_);lk;obtain⟨x,H1,I1,r1,a,kvs,e,q0,q⟩:=hh11;k_in;subst e;lk;cases r1;obtain⟨vs,o,es,ep,rel,hd,lo,I2,hat⟩:=I1.qr q0;k_in;have hl:kvs.length=vs.length:=Iw rel;refine⟨hat.dictOf.typeIs,hat.dictOf.mapOf.noDict,?_⟩;refine AET ADa F.entry_dict_items rfl (ABT ⟨rfl,hat.dictOf.typeIs,(by rfl),_,meets_dict_items (FQ X.ai X.w) a lo,⟨vs,hat.dictOf⟩,?_⟩);refine wpAny_pyIter_items (knd:=FQ X.ai X.w) (d:=a) (kvs:=vs) (ep:=ep) ⟨_,Gk _ rfl,rfl,rfl⟩ (hat.push _) ?_;have I3:Aa X pins σ (AO H1 a (.frz o (.dK kvs))) {s1 with heap:=s1.heap.push {cls:=.type "dict_items",data:=.fields #[.ref a]}}:=I2.ip (t':=s1.toks) λb o e=>DC _ e;generalize s1.heap.push _=h1 at I3⊢;refine⟨h1.objs.size,[h1.objs.size],_,Nj o kvs a,_,rfl,I3.ip (t':=s1.toks) λb o e=>DC _ e,zO a _ hd,⟨.none,.none,by rw[hl];exact Gk _ rfl⟩,λb hb=>?_,q o _ rfl⟩;have e:b=h1.objs.size:=Bt.mp hb;subst e;exact I3.vn (Al _) (I3.cp.bw (Al _))
theorem t7{d:AD}{o:BC}{kvs:List (AL×AE)}{g:Eu}{E:Cw}{D:Gv}{J:Ai}{H:AI}(Y:Nat->Ai->AI->Prop)(F:Y 0 J H)(K:∀i J H,i<=kvs.length->Y i J H->H d=AA (.frz o (.dK kvs)))(M:∀(i:Nat)p J H,kvs[i]?=AA p->Y i J H->g p.2 J H λz A=>E {D with nx:=Y (i+1),ct:=Y (i+1),bk:=D.nx} z A)(I:∀J H,Y kvs.length J H->D.nx J H):∃W:Nat->Nat->Ai->AI->Prop,(∃m,W 0 m J H)/\∀i m J H,W i m J H->((Nk o kvs d).vf i H/\D.nx J H)\/((Nk o kvs d).go i H/\∃N:Ai->AI->Prop,(∀Z H',N Z H'->∃C,C<m/\W (i+1) C Z H')/\∀x H',(Nk o kvs d).aaz i H x H'->g x J H' λz A=>E {D with nx:=N,ct:=N,bk:=D.nx} z A):=by
 refine⟨λi m J H=>m=kvs.length-i/\i<=kvs.length/\Y i J H,⟨kvs.length,by simp,Bd _,F⟩,?_⟩;intro i m J H G;lk;obtain⟨rfl,B,p⟩:=G;k_in;have q:=K i J H B p;by_cases U:i<kvs.length
 . refine .inr ⟨⟨q,U⟩,_,λZ H' O=>⟨_,Ja _ _ U,rfl,U,O⟩,λx H' y=>?_⟩;lk;obtain⟨e,P,L,rfl⟩:=y;k_in;subst e;exact M i P J _ L p
 . have:=Fh B (GV U);subst this;exact .inl ⟨⟨q,Al _⟩,I J H p⟩
theorem t6{d:AD}{o:BC}{kvs:List (AL×AE)}{g:Eu}{E:Cw}{D:Gv}{J:Ai}{H:AI}(Y:Nat->Ai->AI->Prop)(F:Y 0 J H)(K:∀i J H,i<=kvs.length->Y i J H->H d=AA (.frz o (.dK kvs)))(O:∀(i:Nat)p J H r,kvs[i]?=AA p->Y i J H->H r=AF->g (.ref r) J (AO H r (.tup [Au p.1,p.2])) λz A=>E {D with nx:=Y (i+1),ct:=Y (i+1),bk:=D.nx} z A)(I:∀J H,Y kvs.length J H->D.nx J H):∃W:Nat->Nat->Ai->AI->Prop,(∃m,W 0 m J H)/\∀i m J H,W i m J H->((Nj o kvs d).vf i H/\D.nx J H)\/((Nj o kvs d).go i H/\∃N:Ai->AI->Prop,(∀Z H',N Z H'->∃C,C<m/\W (i+1) C Z H')/\∀x H',(Nj o kvs d).aaz i H x H'->g x J H' λz A=>E {D with nx:=N,ct:=N,bk:=D.nx} z A):=by
 refine⟨λi m J H=>m=kvs.length-i/\i<=kvs.length/\Y i J H,⟨kvs.length,by simp,Bd _,F⟩,?_⟩;intro i m J H G;lk;obtain⟨rfl,B,p⟩:=G;k_in;have q:=K i J H B p;by_cases U:i<kvs.length
 . refine .inr ⟨⟨q,U⟩,_,λZ H' P=>⟨_,Ja _ _ U,rfl,U,P⟩,λx H' y=>?_⟩;lk;obtain⟨r,Q,L,rfl,M,rfl⟩:=y;k_in;exact O i Q J _ r L p M
 . have:=Fh B (GV U);subst this;exact .inl ⟨⟨q,Al _⟩,I J H p⟩
inductive Jd(CX:Ia)(P:CN)(w:Bu)(K:Aq)(mg:AG->Option AK)(base:BJ)(k:Nat)(R:AD->Prop)(sp:BG):Prop|mk{f:AD}{fd:Iv}{ps:List AG}(r:R f)(b:Lj K fd ps [])(F:HN P w K mg base CX k f fd ps sp):Jd CX P w K mg base k R sp
inductive LX(K:Aq)(R:AD->Prop)(x q:AG)(st:Cj)(N:List AG)(n:Nat):Prop|mk{f:AD}{fd:Iv}(r:R f)(F:Nh K x q st f fd)(b:Lj K fd (N.take n) [])(S:Lm N (N.take n) (CU st)):LX K R x q st N n
abbrev S4(K:Aq)(D:AG->Option AK)(x:AG)(f:AD):Prop:=D x=AA (.ref f)/\Se K (.ref f)=AJ
abbrev CH(K:Aq)(D:AG->Option AK)(x:AG):=LX K (S4 K D x) x x
abbrev Hn(K:Aq)(C:AD)(m:AG):=LX K (RF K C m) m
abbrev OZ(K:Aq)(C:AD):=LX K (O9 K C) "__init__"
abbrev LX.Ok{K:Aq}{st:Cj}(_:LX K R x q st N n)(CX:Ia)(P:CN)(w:Bu)(D:AG->Option AK)(base:BJ)(k:Nat)(sp:BG):Prop:=Jd CX P w K D base k R sp
theorem LX.ok{K:Aq}{st:Cj}(D:LX K R x q st N n)(Y:∀(B:N.Nodup)(f:AD)(U:AK)(A:Ck)(J:List Dl)(s:AV),DW k (A.deeper (GW q (CU st) s.heap.objs.size f U))->∀(H:AI)(vs:List AE)(Q:Bh)(E:Fu),sp vs H Q E->∃t,FC (FG BI P w K z base N q (CU st) f U A J s H E).ack (KQ st) t/\t {nx:=λ_ H'=>Q .non H',rt:=Q} (LJ N vs) H)(W:∀vs H Q E,sp vs H Q E->vs.length=(N.take n).length:=by intro _ _ _ _ h;first|(obtain⟨rfl,_⟩:=h;rfl)|(obtain⟨_,rfl,_⟩:=h;rfl)|(obtain⟨_,_,rfl,_⟩:=h;rfl)|(obtain⟨_,_,_,rfl,_⟩:=h;rfl)|(obtain⟨_,_,_,_,rfl,_⟩:=h;rfl)|(obtain⟨_,_,_,_,_,rfl,_⟩:=h;rfl)|(obtain⟨_,_,_,_,_,_,rfl,_⟩:=h;rfl)|(obtain⟨_,_,_,_,_,_,_,rfl,_⟩:=h;rfl)|(obtain⟨_,_,_,_,_,_,_,_,rfl,_⟩:=h;rfl)|(obtain⟨_,_,_,_,_,_,_,_,_,rfl,_⟩:=h;rfl)|(obtain⟨_,_,_,_,_,_,_,_,_,_,rfl,_⟩:=h;rfl)|(obtain⟨_,_,_,_,_,_,_,_,_,_,_,rfl,_⟩:=h;rfl)|(obtain⟨_,_,_,_,_,_,_,_,_,_,_,_,rfl,_⟩:=h;rfl)|(obtain⟨_,_,_,_,_,_,_,_,_,_,_,_,_,rfl,_⟩:=h;rfl)|(obtain⟨_,_,_,_,_,_,_,_,_,_,_,_,_,_,rfl,_⟩:=h;rfl)|(obtain⟨_,_,_,_,_,_,_,_,_,_,_,_,_,_,_,rfl,_⟩:=h;rfl)|(obtain⟨_,_,_,_,_,_,_,_,_,_,_,_,_,_,_,_,rfl,_⟩:=h;rfl)|(obtain⟨_,_,_,_,_,_,_,_,_,_,_,_,_,_,_,_,_,rfl,_⟩:=h;rfl)|(obtain⟨_,_,_,_,_,_,_,_,_,_,_,_,_,_,_,_,_,_,_,_,_,_,rfl,_⟩:=h;rfl)|(cases h;subst_vars;rfl)):Jd BI P w K z base (k+1) R sp:=by cases D with|mk r F b S=>show⟨r,b,F.ok S W λU A J s H vs Q E Z h=>Y S.nd _ U A J s Z H vs Q E h⟩
theorem LX.adx{K:Aq}{st:Cj}(D:LX K R x q st N n)(W:∀vs H Q E,sp vs H Q E->vs.length=(N.take n).length)(Y:∀(B:N.Nodup)(f:AD)(U:AK)(A:Ck)(J:List Dl)(s:AV),DW k (A.deeper (GW q (CU st) s.heap.objs.size f U))->∀(H:AI)(vs:List AE)(Q:Bh)(E:Fu),sp vs H Q E->∃t,FC (FG (Gu P w) P w K z base N q (CU st) f U A J s H E) (KQ st) t/\t {nx:=λ_ H'=>Q .non H',rt:=Q} (LJ N vs) H):Jd (Gu P w) P w K z base (k+1) R sp:=by cases D with|mk r F b S=>show⟨r,b,F.adx S W λU A J s H vs Q E Z h=>Y S.nd _ U A J s Z H vs Q E h⟩
theorem Ax{x:AG}(c:Jd BI X.ai X.w X.K X.mg X.ag k (S4 X.K X.mg x) sp)(C:DW n X.A)(Z:GR X (e::D) t)(B:k<=n:=by decide)(A:Fq X x:=by rfl)(J:(x==("__debug__":AG))=AQ:=by decide)(z:CQ (e::D) X.af=(AQ,BY e X.af)::CQ D X.af:=by rfl)(U:(FU V (CQ D X.af)).any (·.1)=AQ:=by rfl):Ao X (.Call (.Name x p) (e::D) [] V) (yO sp [] Mj t):=by intro Y s E H Q I h;cases c with|mk r b F=>show OQ (Mt I A r.1 ?_ J);show dQ I.ok.uk.abx r.2 (A1 (Z _ _ s E H _ I h) λK s1⟨L,G,W,r,q⟩=>⟨W.nq,?_⟩) z U;show VL F (C.yx B) b .nil Js W r q
theorem Hv(he:Ao X o ta)(c:Hw X.K C)(h:Jd BI X.ai X.w X.K X.mg X.ag k (RF X.K C m) sp)(hr:DW n X.A)(ha:GR X (e::es) t)(hn:k<=n:=by decide)(hst:CQ (e::es) X.af=(AQ,BY e X.af)::CQ es X.af:=by rfl)(hpl:(FU pos (CQ es X.af)).any (·.1)=AQ:=by rfl)(ht:BY (.Call (.Attribute o m apos) (e::es) [] pos) X.af=(do
 let ov<-BY o X.af
 standAt apos.atName let(f,first)<-holding [ov] (d8 ov m pl)callWith pos f first (FU pos (CQ (e::es) X.af)) (QE pos (QL [] X.af))):=by rfl):Ao X (.Call (.Attribute o m apos) (e::es) [] pos) (aY C m sp [] Mj ta t):=by intro pins s σ H Q I g;cases h with|mk r b F=>show AED (A1 (he _ s σ H _ I g) λu s1⟨x,H1,I1,rx,a,dx,fs,ex,ea,l,q⟩=>?_) ht;subst ex;obtain rfl:u=DV a:=rx;show ZO I1 ea c r l ?_;show dQ I.ok.uk.abx r.kp (A1 (ha _ _ s1 σ H1 _ I1 q) λus s2⟨vs,H2,I2,r,q2⟩=>⟨I2.nq,?_⟩) hst hpl;show VL (vs:=.ref a::vs) F (hr.yx hn) b .nil Js I2 (.cons rfl r) q2
theorem KD{K:DP Bool}(A:Ao X o M)(c:Hw X.K C)(h:Jd BI X.ai X.w X.K X.mg X.ag k (RF X.K C m) sp)(E:DW n X.A)(B:k<=n:=by decide)(G:BY (.Call (.Attribute o m J) [] [] D) X.af=(do
 let W<-BY o X.af
 standAt J.atName let(f,U)<-holding [W] (d8 W m K)callWith D f U (FU D (CQ [] X.af)) (QE D (QL [] X.af))):=by rfl):Ao X (.Call (.Attribute o m J) [] [] D) (aY C m sp [] Mj M VQ):=by intro Y s N H Q I g;cases h with|mk r b F=>show AED (A1 (A _ s N H _ I g) λu s1⟨x,O,V,L,a,P,R,z,Z,l,q⟩=>?_) G;subst z;obtain rfl:u=DV a:=L;show ZO V Z c r l ?_;show AD0 V.nq r.kp (VL (vs:=[.ref a]) F (E.yx B) b .nil Js V (.cons rfl .nil) q)
theorem Mb{x:AG}(h:Jd CX X.ai X.w X.K X.mg X.ag k (O9 X.K C) sp)(K:DW n X.A)(B:X.mg x=AA (.ref C))(L:Nq CX X E)(Z:GR X (e::D) t)(G:k+1<=n:=by decide)(A:Fq X x:=by rfl)(J:(x==("__debug__":AG))=AQ:=by decide)(z:CQ (e::D) X.af=(AQ,BY e X.af)::CQ D X.af:=by rfl)(U:(FU V (CQ D X.af)).any (·.1)=AQ:=by rfl):Ao X (.Call (.Name x p) (e::D) [] V) (aX C sp [] E t):=by intro Y s N H Q I g;cases h with|mk M b F=>show OQ (Mt I A B ?_ J);show dQ I.ok.uk.abx M.kp (A1 (Z _ _ s N H _ I g) λP s1⟨R,O,W,r,q⟩=>⟨W.nq,?_⟩) z U;show aK M F (K.yx G) b .nil L W r q
theorem X2{x:AG}(h:Jd CX X.ai X.w X.K X.mg X.ag k (O9 X.K C) sp)(Y:DW n X.A)(V:X.mg x=AA (.ref C))(Z:Nq CX X E)(W:k+1<=n:=by decide)(U:Fq X x:=by rfl)(D:(x==("__debug__":AG))=AQ:=by decide):Ao X (.Call (.Name x p) [] [] z) (aX C sp [] E VQ):=by intro J s A H Q I g;cases h with|mk M b F=>show OQ (Mt I U V ?_ D);show AD0 I.nq M.kp (aK M F (Y.yx W) b .nil Z I .nil g)
theorem mJ{x:AG}(h:Jd (Gu X.ai X.w) X.ai X.w X.K X.mg X.ag k (O9 X.K C) sp)(j:DW n X.A)(f:X.mg x=AA (.ref C))(T:GR X.ack (e::W) t)(i:k+1<=n:=by decide)(c:Fq X x:=by rfl)(Z:(x==("__debug__":AG))=AQ:=by decide)(b:CQ (e::W) X.af=(AQ,BY e X.af)::CQ W X.af:=by rfl)(A:(FU B (CQ W X.af)).any (·.1)=AQ:=by rfl):Ym X (.Call (.Name x p) (e::W) [] B) (zL C sp t):=by intro N o y P Q E Y g;cases h with|mk M a F=>
 show OQ (Mt Y c f ?_ Z);show dQ Y.ok.uk.abx M.kp (FV (T _ _ o y P _ (Y.vi _) g) (λG s⟨w,H,J,r,q⟩=>⟨J.nq,?_⟩) λ_ _ z=>FW z) b A;have I:=J.jy;have L:=q _ _ (I.cp.bw (OG _)) (I.cp.bw (Al _)) (Dz (OH _));have U:=Yh (C:=C) I;have r2:Bb (AE.ref (s.heap.objs.size+1)::w) _:=.cons rfl r;have d:=by have e:=r2.ar;rw[F.dh _ _ _ _ L]at e;show e.symm
 show WC (Zi I.nq M.abm M.adb (AFs.mp M.fn) (QK (F.adl _ _ _ _ _ _ _ _ E ((j.yx i).aaq C G []) (U.abd.aaq C G []) (by have:=a _ (DV (s.heap.objs.size+1)::G) U.nq (by simpa using d);simpa using this) r2 L) λr s' D=>?_));cases r with|error K=>show⟨_,_,U,D⟩|ok S=>cases S with|ret u=>obtain⟨v,O,R,m,K,l⟩:_:=U.zo D;subst K;show⟨m,⟨AE.ref _,O,R,rfl,l⟩⟩|next=>show FW D|brk=>show FW D|cont=>show FW D
theorem mI{x y:AG}{K:Aq}(h:Jd BI X.ai X.w X.K X.mg X.ag k (S4 X.K X.mg y) sp)(N:DW n X.A)(W:X.mg x=AF)(P:QH x=AA (.builtin "sorted"))(E:Ao X e c)(C:k+2<=n:=by decide)(G:Fq X y:=by rfl)(O:Fq X x:=by rfl)(B:X.K=K:=by rfl)(L:x≠"__name__":=by decide)(U:(x==("__debug__":AG))=AQ:=by decide)(V:(y==("__debug__":AG))=AQ:=by decide)(J:FU Y (CQ [e] X.af)=[(AQ,BY e X.af)]:=by rfl):Ao X (.Call (.Name x p) [e] [⟨AA "key",.Name y i,j⟩] Y) (zH K sp c):=by subst B;intro z s d H Q I g;cases h with|mk r b F=>show OQ (KU I O W P ?_ L U);show callWith_kw ?_ J (by simp_all) rfl rfl;rw[J];show OL (A1 (E _ s d H _ I g) λu s1 D=>?_);obtain⟨v,f,Z,T,a,l,S,A,M,R,q⟩:_:=D;show P9 ?_;subst A;obtain rfl:u=DV a:=T;show wpAny_evalAll_cons (BL (Mt Z G r.1 (BL (ABk (Cn (wpAny_evalAll_nil ?_)))) V));show yI F b (N.yx C) Z M R q
theorem TV{K:Aq}{st:Cj}(r:R f)(l:K.lookup f=AA ⟨A,B,.func (OM x q (Nv st) (KQ st) (CU st) .none Y J Z V D W),z⟩)(c:dS K D q=AJ)(k:Se K (.ref f)=AJ)(S:Lm N (N.take n) (CU st))(b:∀(Y J Z:AK)(V:Option AD)(D W:AK)(U:List AK),U.length=(N.take n).length->ABM (OM x q (Nv st) (KQ st) (CU st) .none Y J Z V D W) ⟨U,[]⟩=Bf ((N.take n).zip U)):LX K R x q st N n:=⟨r,Um l c k,(Um l c k).acr b,S⟩
theorem jR{K:Aq}{D:AG->Option AK}{g:II->AK}(X:K.In h)(G:h.Ns LR D)(e:W.nsIn K LR x=AA (AA (g t))):∃t,D x=AA (g t):=⟨t,ABI X G e⟩
theorem iW{K:Aq}(a:IJ K (.ref C) "__getattribute__"=AA (AA (.builtin "BaseException.__getattribute__")))(b:IJ K (.ref C) "__getattr__"=AA AF)(c:IJ K (.ref C) "__class__"=AA (AA (.builtin "object.__class__")))(d:d6 K (.ref C) (.type "BaseException")=AA AJ)(e:d6 K (.ref C) (.type "object")=AA AJ)(i:dR K C=AA D):Ll K C:=⟨a,b,c,d,e,by rw[i];rfl⟩
theorem qU{K:Aq}(l:K.lookup f=AA ⟨.type "tuple",AF,.seq vs n,D⟩)(a:vs.size<=Ay)(b:Bb xs vs.toList)(H:AI):Cb K H f xs:=.inr ⟨_,_,_,l,rfl,rfl,a,b⟩
theorem j8{K:Aq}(l:K.lookup f=AA ⟨.type "tuple",AF,.seq vs n,D⟩):∃o,K.lookup f=AA o/\o.cls=.type "tuple"/\o.dict=AF:=⟨_,l,rfl,rfl⟩
theorem rF{J:List U}(h:J.length=1):∃D,J=[D]:=by match J,h with|[D],_=>show⟨D,rfl⟩
theorem rG{U:List V}(h:U.length=2):∃D J,U=[D,J]:=by match U,h with|[D,J],_=>show⟨D,J,rfl⟩
theorem rH{V:List W}(h:V.length=3):∃D J U,V=[D,J,U]:=by match V,h with|[D,J,U],_=>show⟨D,J,U,rfl⟩
theorem rJ{W:List Y}(h:W.length=4):∃D J U V,W=[D,J,U,V]:=by match W,h with|[D,J,U,V],_=>show⟨D,J,U,V,rfl⟩
theorem rK{Y:List Z}(h:Y.length=5):∃D J U V W,Y=[D,J,U,V,W]:=by match Y,h with|[D,J,U,V,W],_=>show⟨D,J,U,V,W,rfl⟩
seal Ao Hx Mn GR D6 FC K4 PF GS KO RH CP RO Ez Nn Nr
noncomputable def BU(i:Nat):Cj:=AEw.main.body.getD i (.Pass ⟨0,0,0,0⟩)
noncomputable abbrev YG:Cj:=BU 16
noncomputable abbrev Ow:Cj:=BU 35
noncomputable abbrev T6:Cj:=BU 36
noncomputable abbrev YA:Cj:=GC (BU 41) 2
noncomputable abbrev YB:Cj:=GC (BU 46) 1
noncomputable abbrev YE:Cj:=BU 48
noncomputable abbrev T7:Cj:=BU 52
noncomputable abbrev T8:Cj:=BU 54
noncomputable abbrev YC:Cj:=BU 60
noncomputable abbrev YD:Cj:=BU 61
noncomputable abbrev Q7:Cj:=BU 85
noncomputable abbrev m8:Cj:=BU 83
noncomputable abbrev m9:Cj:=BU 78
noncomputable abbrev Q8:Cj:=BU 80
noncomputable abbrev YF:Cj:=BU 77
noncomputable abbrev nC:Cj:=BU 74
noncomputable abbrev nE:Cj:=BU 76
theorem YM:Lm ["_law_script","_law_most","_law_plan_here","_law_slack_here","_law_handed","_law_flow","_law_other","_law_m","_law_spare","_law_k","_law_rows","_law_good"] ["_law_script"] (CU Q7):=Ry
set_option genInjectivity false in structure CO where
 xj:AD
 zt:Iv
 rl:AD
 qc:AD
 ba:AD
 um:AD
 rb:AD
 qz:AD
 qy:AD
 bb:AD
 aw:AD
 iz:AD
 iw:AD
 ax:AD
 vb:AD
 rg:AD
 rf:AD
structure BR(K:Aq)(mg:AG->Option AK)(ad:CO):Prop where
 wt:mg "FlowError"=AA (.ref ad.rl)yc:mg "BadEvent"=AA (.ref ad.qc)ui:mg "BadSlack"=AA (.ref ad.ba)aaj:mg "Broken"=AA (.ref ad.um)yw:mg "BadStep"=AA (.ref ad.rb)yu:mg "BadLine"=AA (.ref ad.qz)yt:mg "BadKeep"=AA (.ref ad.qy)yd:mg "Clock"=AA (.ref ad.bb)aar:mg "Group"=AA (.ref ad.aw)zy:mg "Side"=AA (.ref ad.iz)abh:mg "Join"=AA (.ref ad.iw)uj:mg "Flow"=AA (.ref ad.ax)cj:Hw K ad.bb
 pj:GA K ad.bb "slack"dk:GA K ad.bb "now"gc:GA K ad.bb "count"bh:Hw K ad.aw
 jw:GA K ad.aw "step"du:GA K ad.aw "rows"dq:Hw K ad.iz
 cy:GA K ad.iz "rows"de:Hw K ad.iw
 da:GA K ad.iw "within"dw:GA K ad.iw "sides"aj:Hw K ad.ax
 ir:GA K ad.ax "plan"cw:GA K ad.ax "clock"cx:GA K ad.ax "joins"bx:GA K ad.ax "groups"ff:GA K ad.ax "number"ju:CH K mg "is_whole" (BU 9) ["thing"] 1
 jt:CH K mg "is_among" (BU 10) ["thing","least","most"] 3
 fq:OZ K ad.bb "Clock.__init__" (GC (BU 13) 0) ["self","slack"] 2
 nz:Hn K ad.bb "admit" "Clock.admit" (GC (BU 13) 1) ["self","time"] 2
 zr:CH K mg "ahead" (BU 15) ["rows","mark","low","high","middle"] 2
 uh:CH K mg "with_keys" YG ["rows","told","key"] 1
 xy:CH K mg "starts" (BU 18) ["time","size","step","first"] 3
 zu:CH K mg "meets" (BU 19) ["start","end","time","most","last"] 4
 ue:CH K mg "names_end" (BU 24) ["step"] 1
 vx:CH K mg "name_of" (BU 25) ["step"] 1
 vw:CH K mg "feeders" (BU 26) ["step"] 1
 ud:CH K mg "is_teller" (BU 27) ["step"] 1
 uy:CH K mg "tally_of" (BU 29) ["amount"] 1
 zq:CH K mg "added" (BU 30) ["one","other"] 2
 zw:CH K mg "value" (BU 31) ["sort","tally"] 2
 qk:CH K mg "put_window" (BU 33) ["pieces","start","end","tally","place","there"] 4
 ux:CH K mg "put_each" (BU 34) ["pieces","time","amount","size","step","told","start"] 5
 vy:CH K mg "put_gap" Ow ["pieces","time","amount","most","met","rest","start","end","tally","piece"] 4
 xq:CH K mg "parted" T6 ["pieces","now","over","still"] 2
 xv:CH K mg "put_by" (BU 38) ["step","pieces","item"] 3
 xw:CH K mg "row_of" (BU 39) ["step","key","piece"] 3
 uw:CH K mg "order_of" (BU 40) ["row"] 1
 jq:OZ K ad.aw "Group.__init__" (GC (BU 41) 0) ["self","step"] 2
 si:Hn K ad.aw "put" "Group.put" (GC (BU 41) 1) ["self","item","key"] 2
 oi:Hn K ad.aw "close" "Group.close" YA ["self","now","told","key"] 2
 qj:Hn K ad.aw "take" "Group.take" (GC (BU 41) 3) ["self","key","now","pieces","pair"] 3
 mi:Hn K ad.aw "pieces" "Group.pieces" (GC (BU 41) 4) ["self"] 1
 kh:OZ K ad.iz "Side.__init__" (GC (BU 43) 0) ["self"] 1
 uo:Hn K ad.iz "put" "Side.put" (GC (BU 43) 1) ["self","item","pair","row","place"] 2
 tw:Hn K ad.iz "near" "Side.near" (GC (BU 43) 2) ["self","key","low","high","row"] 4
 ti:Hn K ad.iz "drop" "Side.drop" (GC (BU 43) 3) ["self","least","key","row","kept"] 2
 tj:Hn K ad.iz "kept" "Side.kept" (GC (BU 43) 4) ["self"] 1
 uv:CH K mg "met_item" (BU 45) ["side","item","pair","first","second"] 3
 kc:OZ K ad.iw "Join.__init__" (GC (BU 46) 0) ["self","within"] 2
 sj:Hn K ad.iw "come" "Join.come" YB ["self","side","item","met"] 3
 su:Hn K ad.iw "drop" "Join.drop" (GC (BU 46) 2) ["self","now","side"] 2
 wc:CH K mg "tellers" YE ["plan"] 1
 zv:CH K mg "taken" (BU 50) ["step","event"] 2
 ya:CH K mg "turned" (BU 51) ["step","item"] 2
 xu:CH K mg "passed" T7 ["step","streams"] 2
 xp:CH K mg "joined" (BU 53) ["join","streams","made","side","items","item"] 2
 xx:CH K mg "spread" T8 ["plan","joins","event","brought","told","place","step","streams","items"] 3
 ur:CH K mg "joins_of" (BU 56) ["plan","joins","place","step"] 1
 uc:CH K mg "groups_of" (BU 57) ["plan","groups","place"] 1
 uf:CH K mg "put_event" (BU 58) ["plan","joins","groups","event","place","item"] 4
 uq:CH K mg "drop_all" (BU 59) ["joins","now","join"] 2
 xn:CH K mg "closed" YC ["groups","now","told","place","group"] 2
 vz:CH K mg "rows_of" YD ["told"] 1
 gh:OZ K ad.ax "Flow.__init__" (GC (BU 62) 0) ["self","plan","slack"] 3
 rq:Hn K ad.ax "come" "Flow.come" (GC (BU 62) 1) ["self","event"] 2
 mh:Hn K ad.ax "told_by" "Flow.told_by" (GC (BU 62) 2) ["self","now","rows"] 2
 oh:Hn K ad.ax "finish" "Flow.finish" (GC (BU 62) 3) ["self"] 1
 kj:CH K mg "_law_cell_at" (BU 64) ["_law_script","_law_k"] 2
 ml:CH K mg "_law_number" (BU 65) ["_law_script","_law_k","_law_base"] 2
 ot:CH K mg "_law_names" (BU 66) ["_law_script","_law_start","_law_many","_law_some","_law_number_here","_law_step","_law_word","_law_j","_law_place","_law_names_here","_law_k","_law_sign"] 3
 ou:CH K mg "_law_scale" (BU 67) ["_law_script"] 1
 mn:CH K mg "_law_stream" (BU 68) ["_law_name","_law_number_here","_law_streams","_law_scale_here","_law_one","_law_other","_law_low"] 4
 mv:CH K mg "_law_teller" (BU 69) ["_law_name","_law_number_here","_law_streams","_law_scale_here","_law_one","_law_sort","_law_step"] 4
 oj:CH K mg "_law_bound" (BU 70) ["_law_step","_law_sizes","_law_most"] 3
 qm:CH K mg "_law_plan" (BU 71) ["_law_script","_law_most","_law_names_here","_law_kinds","_law_scale_here","_law_plan_here","_law_sizes","_law_wide","_law_many","_law_joined","_law_k","_law_number_here","_law_streams","_law_step"] 2
 oq:CH K mg "_law_event" (BU 72) ["_law_script","_law_k","_law_number_here","_law_scale_here","_law_time","_law_kind","_law_keys","_law_key","_law_amount"] 2
 oz:CH K mg "_law_whole" (BU 73) ["_law_found"] 1
 ug:CH K mg "_law_row" (BU 74) ["_law_plan_here","_law_row_here","_law_places"] 2
 ji:CH K mg "_law_rows_good" (BU 75) ["_law_plan_here","_law_rows","_law_low","_law_high","_law_ahead","_law_row_here","_law_order"] 4
 oy:CH K mg "_law_state" (BU 76) ["_law_flow","_law_found","_law_place"] 1
 jh:CH K mg "_law_open_well" (BU 77) ["_law_flow","_law_now","_law_place","_law_side"] 2
 mj:CH K mg "_law_closed" (BU 78) ["_law_plan_here","_law_groups","_law_now","_law_found","_law_place","_law_row_here"] 3
 ku:CH K mg "_law_refused" (BU 79) ["_law_plan_here","_law_slack_here","e","_law_told"] 2
 oo:CH K mg "_law_empty" (BU 80) ["_law_plan_here","_law_joins","_law_groups","_law_place"] 3
 ql:CH K mg "_law_mine" (BU 81) ["_law_plan_here","_law_slack_here","_law_joins","_law_groups","_law_m"] 2
 om:CH K mg "_law_comes" (BU 82) ["_law_flow","_law_plan_here","_law_event_here","_law_m","_law_state_here","_law_found","_law_ahead","_law_place","_law_item"] 4
 js:CH K mg "_law_any_plan" (BU 83) ["_law_script","_law_most","_law_plan_here"] 2
 ox:CH K mg "_law_slack" (BU 84) ["_law_script"] 1
 adg:mg "law"=AA (.ref ad.xj)abk:Nh K "law" "law" Q7 ad.xj ad.zt
 zm:dW K ad.ba [.type "ValueError",.type "Exception",.type "BaseException",.type "object"] "ValueError.__new__"=AJ
 fi:Ll K ad.ba
 md:MO K (.ref ad.ba) (.type "ValueError")=AA AJ
 mw:AD2 K (.ref ad.ba) (.ref ad.rl)=AA AJ
 ni:MO K (.ref ad.ba) (.ref ad.qc)=AA AQ
 nj:MO K (.ref ad.ba) (.ref ad.ba)=AA AJ
 qu:MO K (.ref ad.ba) (.ref ad.um)=AA AQ
 qg:MO K (.ref ad.ba) (.ref ad.rb)=AA AQ
 qf:MO K (.ref ad.ba) (.ref ad.qz)=AA AQ
 qe:MO K (.ref ad.ba) (.ref ad.qy)=AA AQ
 qo:∃t,mg "MOST_SLACK"=AA (.int 1000000000 t)aap:mg "PAIRED"=AA (.ref ad.vb)aau:∀H,Cb K H ad.vb [.str "both",.str "join"]aag:mg "TELLERS"=AA (.ref ad.rg)aal:∀H,Cb K H ad.rg [.str "each",.str "gap"]aaf:mg "TALLIES"=AA (.ref ad.rf)aak:∀H,Cb K H ad.rf [.str "count",.str "sum",.str "least",.str "greatest"]aai:∃o,K.lookup ad.rf=AA o/\o.cls=.type "tuple"/\o.dict=AF
 xc:mg "ValueError"=AF
 xf:mg "bool"=AF
 fo:mg "enumerate"=AF
 ym:mg "int"=AF
 ao:mg "isinstance"=AF
 eh:mg "len"=AF
 jc:mg "list"=AF
 yn:mg "max"=AF
 aba:mg "min"=AF
 qw:mg "range"=AF
 gy:mg "sorted"=AF
 abq:mg "str"=AF
 aad:mg "tuple"=AF
inductive ER{A B C:Type}(p:A->B->C->Prop):Prop|mk(a:A)(b:B)(c:C)(_:p a b c)
inductive JE{A B C D:Type}(p:A->B->C->D->Prop):Prop|mk(a:A)(b:B)(c:C)(d:D)(_:p a b c d)
inductive IT{A B C D E:Type}(p:A->B->C->D->E->Prop):Prop|mk(a:A)(b:B)(c:C)(d:D)(e:E)(_:p a b c d e)
inductive Kr{A B C D E F:Type}(p:A->B->C->D->E->F->Prop):Prop|mk(a:A)(b:B)(c:C)(d:D)(e:E)(f:F)(_:p a b c d e f)
inductive LY{A B C D E F G:Type}(p:A->B->C->D->E->F->G->Prop):Prop|mk(a:A)(b:B)(c:C)(d:D)(e:E)(f:F)(g:G)(_:p a b c d e f g)
inductive Sy{A B C D E F G H:Type}(p:A->B->C->D->E->F->G->H->Prop):Prop|mk(a:A)(b:B)(c:C)(d:D)(e:E)(f:F)(g:G)(h:H)(_:p a b c d e f g h)
inductive J6{A B C D E F G H I:Type}(p:A->B->C->D->E->F->G->H->I->Prop):Prop|mk(a:A)(b:B)(c:C)(d:D)(e:E)(f:F)(g:G)(h:H)(i:I)(_:p a b c d e f g h i)
inductive Qh{A B C D E F G H I J:Type}(p:A->B->C->D->E->F->G->H->I->J->Prop):Prop|mk(a:A)(b:B)(c:C)(d:D)(e:E)(f:F)(g:G)(h:H)(i:I)(j:J)(_:p a b c d e f g h i j)
inductive WU{A B C D E F G H I J K:Type}(p:A->B->C->D->E->F->G->H->I->J->K->Prop):Prop|mk(a:A)(b:B)(c:C)(d:D)(e:E)(f:F)(g:G)(h:H)(i:I)(j:J)(k:K)(_:p a b c d e f g h i j k)
inductive Sx{A B C D E F G H I J K L M:Type}(p:A->B->C->D->E->F->G->H->I->J->K->L->M->Prop):Prop|mk(a:A)(b:B)(c:C)(d:D)(e:E)(f:F)(g:G)(h:H)(i:I)(j:J)(k:K)(l:L)(m:M)(_:p a b c d e f g h i j k l m)
inductive WV{A B C D E F G H I J K L M N:Type}(p:A->B->C->D->E->F->G->H->I->J->K->L->M->N->Prop):Prop|mk(a:A)(b:B)(c:C)(d:D)(e:E)(f:F)(g:G)(h:H)(i:I)(j:J)(k:K)(l:L)(m:M)(n:N)(_:p a b c d e f g h i j k l m n)
inductive WW{A B C D E F G H I J K L M N O:Type}(p:A->B->C->D->E->F->G->H->I->J->K->L->M->N->O->Prop):Prop|mk(a:A)(b:B)(c:C)(d:D)(e:E)(f:F)(g:G)(h:H)(i:I)(j:J)(k:K)(l:L)(m:M)(n:N)(o:O)(_:p a b c d e f g h i j k l m n o)
inductive WX{A B C D E F G H I J K L M N O Q R:Type}(p:A->B->C->D->E->F->G->H->I->J->K->L->M->N->O->Q->R->Prop):Prop|mk(a:A)(b:B)(c:C)(d:D)(e:E)(f:F)(g:G)(h:H)(i:I)(j:J)(k:K)(l:L)(m:M)(n:N)(o:O)(q:Q)(r:R)(_:p a b c d e f g h i j k l m n o q r)
inductive Qf(a b:Prop):Prop|mk(_:a)(_:b)
inductive NM(a b c:Prop):Prop|mk(_:a)(_:b)(_:c)
inductive IQ(a b c d:Prop):Prop|mk(_:a)(_:b)(_:c)(_:d)
inductive Ee(a b c d e:Prop):Prop|mk(_:a)(_:b)(_:c)(_:d)(_:e)
inductive LW(a b c d e f:Prop):Prop|mk(_:a)(_:b)(_:c)(_:d)(_:e)(_:f)
inductive Jc(a b c d e f g:Prop):Prop|mk(_:a)(_:b)(_:c)(_:d)(_:e)(_:f)(_:g)
inductive Kq(a b c d e f g h:Prop):Prop|mk(_:a)(_:b)(_:c)(_:d)(_:e)(_:f)(_:g)(_:h)
inductive Qg(a b c d e f g h i:Prop):Prop|mk(_:a)(_:b)(_:c)(_:d)(_:e)(_:f)(_:g)(_:h)(_:i)
inductive OX(a b c d e f g h i j:Prop):Prop|mk(_:a)(_:b)(_:c)(_:d)(_:e)(_:f)(_:g)(_:h)(_:i)(_:j)
inductive Qe(a b c d e f g h i j k:Prop):Prop|mk(_:a)(_:b)(_:c)(_:d)(_:e)(_:f)(_:g)(_:h)(_:i)(_:j)(_:k)
inductive Sv(a b c d e f g h i j k l:Prop):Prop|mk(_:a)(_:b)(_:c)(_:d)(_:e)(_:f)(_:g)(_:h)(_:i)(_:j)(_:k)(_:l)
inductive WT(a b c d e f g h i j k l m n o p:Prop):Prop|mk(_:a)(_:b)(_:c)(_:d)(_:e)(_:f)(_:g)(_:h)(_:i)(_:j)(_:k)(_:l)(_:m)(_:n)(_:o)(_:p)
inductive WY{A B C D E F G H I J K L M N O Q R S T U V W:Type}(p:A->B->C->D->E->F->G->H->I->J->K->L->M->N->O->Q->R->S->T->U->V->W->Prop):Prop|mk(a:A)(b:B)(c:C)(d:D)(e:E)(f:F)(g:G)(h:H)(i:I)(j:J)(k:K)(l:L)(m:M)(n:N)(o:O)(q:Q)(r:R)(s:S)(t:T)(u:U)(v:V)(w:W)(_:p a b c d e f g h i j k l m n o q r s t u v w)
inductive Sw(a b c d e f g h i j k l m:Prop):Prop|mk(_:a)(_:b)(_:c)(_:d)(_:e)(_:f)(_:g)(_:h)(_:i)(_:j)(_:k)(_:l)(_:m)
inductive TH{a b:Type}(A B C D E F G H I J K:a->b->Prop):Prop|mk(a:a)(b:b)(_:A a b)(_:B a b)(_:C a b)(_:D a b)(_:E a b)(_:F a b)(_:G a b)(_:H a b)(_:I a b)(_:J a b)(_:K a b)
def Nb(K:Aq):BG:=λU H Q _=>∃(a:AD)(D:List Int),U=[.ref a]/\Bx K H a (D.map AE.int)/\D.length<=63/\∀J,Q (.bl AJ) J
theorem jD(K:Aq)(H:AI)(a:AD)(ns:List Int)(J:ns.length<=63)(_:PD H)(D:Bx K H a (ns.map AE.int)):Nb K [.ref a] H (λv _=>v=.bl AJ) λ_ _ _=>False:=⟨a,ns,rfl,D,J,λ_=>rfl⟩
noncomputable abbrev Oj:Nat:=16
structure Sz where
 K:Aq
 mg:AG->Option AK
 ad:CO
noncomputable def UK:Sz:=@fW Sz ⟨⟨gJ,λ_=>AF,⟨0,gJ,0,0,0,0,0,0,0,0,0,0,0,0,0,0,0⟩⟩⟩ λx=>BR x.K x.mg x.ad/\¬∀(P:CN)(w:Bu)(D:BJ),HN P w x.K x.mg D BI Oj x.ad.xj x.ad.zt ["_law_script"] (Nb x.K)
noncomputable def AH:Aq:=UK.K
noncomputable def Af:AG->Option AK:=UK.mg
noncomputable def AN:CO:=UK.ad
theorem Bq(W:Ao X e J)(V:J3 e f X.af (BY e X.af)=BY e X.af)(U:X.K=AH:=by rfl):Ao X (.Attribute e f D) (VP AH J f):=by rw[<-U];show Z0 W V
theorem GP(Z:Ao X o V)(A:Ao X D W)(z:MP D (AA (.Attribute o f J)) U.line X.af=Bf AQ)(Y:X.K=AH:=by rfl):D6 X (.Assign [.Attribute o f J] D U) (aL AH V W f):=by rw[<-Y];show w9 Z A z
theorem NW(W:X.ic=AJ)(h:PF X D t)(Y:(QD D X.af).length=D.length:=by rfl)(J:(QD D X.af).findIdx? (·.1)=AF:=by rfl)(V:X.K=AH:=by rfl):K4 X (.Tuple D k U) (Ra AH D.length t):=by rw[<-V];show VH W h Y J
noncomputable def hU(D:AD)(J:Int)(U W Y:Option AE):Ai:=[AA (.ref D),AA (.int J),U,W,Y]
noncomputable def hZ(D:AD)(J:Option AE)(U:AD)(W Y:Option AE):Ai:=[AA (.ref D),J,AA (.ref U),W,Y]
noncomputable def h9(D J:AD)(U W:Int)(Y:Option AE):Ai:=[AA (.ref D),AA (.ref J),AA (.int U),AA (.int W),Y]
noncomputable def iB(D:AD)(J:AG)(U:Int)(V W:AD):Ai:=[AA (.ref D),AA (.str J),AA (.int U),AA (.ref V),AA (.ref W)]
noncomputable def hJ(D:AD)(J U:Int)(W:AD)(Y:Int)(Z:Option AE):Ai:=[AA (.ref D),AA (.int J),AA (.int U),AA (.ref W),AA (.int Y),Z]
noncomputable def Wh(D J U:AD)(W Y Z:Option AE):Ai:=[AA (.ref D),AA (.ref J),AA (.ref U),W,Y,Z]
noncomputable def iA(D J U W:AD)(Y Z:Option AE):Ai:=[AA (.ref D),AA (.ref J),AA (.ref U),AA (.ref W),Y,Z]
noncomputable def gZ(D:AD)(J U W Y:Int)(Z:AD)(z:Option AE):Ai:=[AA (.ref D),AA (.int J),AA (.int U),AA (.int W),AA (.int Y),AA (.ref Z),z]
noncomputable def TJ(D:AD)(J U W Y:Int)(Z z A B:Option AE):Ai:=[AA (.ref D),AA (.int J),AA (.int U),AA (.int W),AA (.int Y),Z,z,A,B]
noncomputable def Ql(D J U W Y:AD)(Z z A B:Option AE):Ai:=[AA (.ref D),AA (.ref J),AA (.ref U),AA (.ref W),AA (.ref Y),Z,z,A,B]
noncomputable def hG(D:AD)(J U W:Int)(Y Z:AD)(z A:Int)(B:AD)(C:Option AE):Ai:=[AA (.ref D),AA (.int J),AA (.int U),AA (.int W),AA (.ref Y),AA (.ref Z),AA (.int z),AA (.int A),AA (.ref B),C]
noncomputable def Wg(U:AD)(W Y:Int)(Z:AG)(z A:Int)(B:AG)(C E F D J:Option AE):Ai:=[AA (.ref U),AA (.int W),AA (.int Y),AA (.str Z),AA (.int z),AA (.int A),AA (.str B),C,E,F,D,J]
noncomputable def hV(Y:AD)(Z:Int)(z A:AD)(B:Int)(C E:AD)(F G H:Int)(D J U W:Option AE):Ai:=[AA (.ref Y),AA (.int Z),AA (.ref z),AA (.ref A),AA (.int B),AA (.ref C),AA (.ref E),AA (.int F),AA (.int G),AA (.int H),D,J,U,W]
noncomputable abbrev MU:AG:="abcdefghijklmnopqrstuvwxyz"
def J5(z:AG):Prop:=∀c∈z.cps.toList,97<=c/\c<123
theorem Th(z:AG):z.length=z.cps.toList.length:=by simp[ADt]
theorem Wq(a b:AG):(a++b).cps.toList=a.cps.toList++b.cps.toList:=by change(a.cps++b.cps).toList=_;simp
def C0(z:AG):Prop:=J5 z/\z.length<=12
theorem C0.ok(h:C0 z):LP z=AJ:=by unfold LP;rw[<-Array.all_toList,List.all_eq_true];intro c D;have:=h.1 c D;simp;show HX (B7 this.2) (by decide)
theorem J5.aea(J:J5 a)(U:J5 b):J5 (a++b):=λc D=>by
 rw[Wq]at D;rcases DN.mp D with h|h;.show J c h
 .show U c h
theorem iQ(J:0<=j)(U:j<=k)(Z:k<=(x.length:Int))(V:J5 x):J5 (LQ x AF (AA j))/\J5 (LQ x (AA k) AF)/\((LQ x AF (AA j)).length:Int)=j/\((LQ x (AA k) AF).length:Int)=x.length-k:=by
 have W:LQ x _ _=ADu x AF (AA j):=rfl;have Y:LQ x (AA k) AF=ADu x _ _:=rfl;have z:=Th x;rw[W,Y,StrLaws.sliceText_to ⟨J,Eo U Z⟩,StrLaws.sliceText_from ⟨Eo J U,by assumption⟩];show⟨λc D=>V c (bV (AAO D)),λc D=>V c (bV (AAO D)),?_,?_⟩
 . rw[Th];rw[Ej,M4];lia
 . rw[Th];rw[Ej,M4];omega
theorem jF(m:Int):∃c,DM MU.cps.toList (m%26)=AA c/\J5 ⟨#[c]⟩:=by
 obtain⟨v,V,U⟩:_:=Ie MU.cps.toList 26 (by decide+kernel) (by decide) m;have D:∀c∈MU.cps.toList,97<=c/\c<123:=by decide+kernel
 show⟨v,V,λc J=>?_⟩;have e:=by simpa using J
 rw[e];show D v U
def nY(K:Aq):BG:=λJ H Q _=>(ER λ(a:AD)(D:List Int)(k:Int)=>Ee (J=[.ref a,.int k]) (Bx K H a (D.map AE.int)) (0<=k) (D.length<=63) (∀r:Int,Q (.int r) H))
theorem Kv(T:BR AH Af AN):T.kj.Ok BI P w Af base 1 (nY AH):=by
 show T.kj.ok λz _ _ _ _ _ Z H A Q E h=>?_;obtain⟨a,D,i,rfl,U,W,Y,k⟩:_:=h;show⟨_,(Ag (Bi (BK Mv (AB 1) (Bw (FE (K:=AH)) (by rfl) T.eh FJ #v[AB 0]) (BF _)) (Ab (Aw (Dj AH (AB 0) (AB 1)))) Bs) (Ab (Aw AM))),?_⟩;show⟨_,.inl U,_,rfl,GU (λe=>?_) λe=>k 0⟩;rw[BB]at e;have J:i.toNat<D.length:=by simp_all
 show⟨_,.int D[i.toNat],U,?_,k _⟩;have q:=Ap (xs:=D.map AE.int) (j:=i.toNat) (v:=.int D[i.toNat]) (by rw[CD,Cr J];rfl);rw[ACP W]at q;show q
def pK(K:Aq):BG:=λJ H Q _=>(ER λ(a:AD)(D:List Int)(k:Int)=>Ee (J=[.ref a,.int k]) (Bx K H a (D.map AE.int)) (D.length<=63) (0<=k) (∀r:Int,0<=r->Q (.int r) H))
theorem Tz(T:BR AH Af AN):T.ml.Ok BI P w Af base 1 (pK AH):=by
 show T.ml.ok λZ _ _ _ _ _ B H C Q E h=>?_;obtain⟨a,J,k,rfl,D,A,Y,q⟩:_:=h;show⟨_,(Ag (Bi (BK Cp (Bw (FE (K:=AH)) (by rfl) T.eh FJ #v[AB 0]) AM (BF _)) (Ab (Aw (AY Fe AM (AB 1)))) Bs) (Ag (BD 2 Z (AY DH (AY DH (Dj AH (AB 0) (AY CC (AB 1) (Bw (FE (K:=AH)) (by rfl) T.eh FJ #v[AB 0]))) (AY Fe AM (AY C4 (AB 1) (Bw (FE (K:=AH)) (by rfl) T.eh FJ #v[AB 0])))) (AY Fe AM (AB 1)))) (Ab (Aw (AY CC (AY Fe (AB 2) AM) AM))))),?_⟩;have z:((J.map AE.int).length:Int)=J.length:=by rw[BB]
 show⟨_,.inl D,rfl,_,rfl,C7 (λe=>?_) λe=>?_⟩;.show⟨.inl ⟨by decide,by decide⟩,q _ ((Int.le_mul_iff_le_right (by decide)).mpr Y)⟩
 . have e:0<(J.map AE.int).length:=Int.natCast_ne_zero_iff_pos.mp e;lk;obtain⟨v,W,U⟩:=Ie (J.map AE.int) _ rfl (gR.mpr e) k;obtain⟨n,_,rfl⟩:=BQ.mp U;k_in;show⟨_,.inl D,(by change(0:Int)<_;show gR.mpr e),_,_,D,W,?_⟩;show⟨_,.inl D,⟨gR.mpr e,by lia⟩,.inl ⟨by decide,by decide⟩,.inl ⟨by decide,by decide⟩,?_⟩;show⟨.inr ⟨by decide,by decide⟩,(zzp rfl),q _ (Gp _ (by decide))⟩
noncomputable def Oi(m:Int):Nat:=97+(m%26).toNat
theorem jG(m:Int):DM MU.cps.toList (m%26)=AA (Oi m):=by
 have D:∀r:Fin 26,DM MU.cps.toList (r.val)=AA (97+r.val):=by decide+kernel
 have J:=Gp m (show(26)≠0 by decide);have U:=IP m (show(0)<26 by decide);have h:=D ⟨(m%26).toNat,by simp_all⟩;have e:=ACP J;rw[show((⟨(m%26).toNat,_⟩:Fin 26).val:Int)=m%26 from e]at h;show h
theorem iI(m:Int):J5 ⟨#[Oi m]⟩:=λc D=>by
 have e:=by simpa using D
 rw[e];unfold Oi;lia
noncomputable def NV(u v:AG)(c:Int)(k:Nat):AG:=u++⟨#[Oi (c+3*(k:Int))]⟩++v
theorem jZ(hi:i<12)(W:j<12)(e:NV u v c i=NV u v c j):i=j:=by
 have D:=AFj (λz:AG=>z.cps.toList) e;unfold NV at D;simp only[Wq]at D;have J:=List.append_cancel_right D;have U:=List.append_cancel_left J;have V:=by simpa using U
 unfold Oi at V;omega
theorem j7(u v:AG)(c:Int)(h:n<=12):((Eb n).map (NV u v c)).Nodup:=by rw[ACR,GF];show AEk (λ{a b}D J U e=>?_) ACn;rw[Vh]at D J;show U (jZ (Bc D h) (Bc J h) e)
def pH(K:Aq):BG:=λY H Q _=>(JE λ(a:AD)(U:List Int)(W m:Int)=>Jc (Y=[.ref a,.int W,.int m]) (Bx K H a (U.map AE.int)) (U.length<=63) (0<=W) (0<=m) (m<=12) (∀l J(D:List AG),Ah H J->H l=AF->J l=AA (.lst (D.map AE.str))->(D.length:Int)=m->D.Nodup->(∀z∈D,C0 z)->Q (.ref l) J))
theorem Q0(T:BR AH Af AN):T.ot.Ok BI P w Af base 2 (pH AH):=by
  show T.ot.ok λD _ _ _ _ _ q H vs Q E h=>?_;obtain⟨a,s,f,m,rfl,g,p,R,d,e,k⟩:_:=h;show⟨_,(Ag (BD 3 D BZ) (Ag (BD 4 D (Ax (Tz T) q #v[AB 0,AB 1])) (Ag (BD 5 D (AY DH AM (AY CC (AY C4 (AB 4) AM) AM))) (Ag (BD 6 D BZ) (Ag (EG EN rfl (Z3 (by rfl) T.qw #v[AY DH AM (AY CC (AB 4) AM)]) (EF 7 D) (Ab (BD 6 D (AY U7 (AB 6) (FR ZU (AB 3) (AY CC (AY DH (AY C4 (AB 4) AM) (AY Fe (AB 7) (AB 5))) AM) (λ_ _=>rfl)))))) (Ag (BD 8 D (AY CC (AY C4 (AB 4) AM) (Bw sT (by rfl) T.eh FJ #v[AB 6]))) (Ag (BD 9 D (Cy Eg)) (Ag (EG EN rfl (Z3 (by rfl) T.qw #v[AB 2]) (EF 10 D) (Ag (BD 11 D (FR ZU (AB 3) (AY CC (AY DH (AY C4 (AB 4) AM) (AY Fe AM (AB 10))) AM) (λ_ _=>rfl))) (Ab (FT (L7 AH (AB 9) #v[AY U7 (AY U7 (IC aO (AB 6) JX (G5 (AB 8))) (AB 11)) (IC aO (AB 6) (G5 (AY DH (AB 8) AM)) JX)]))))) (Ab (Aw (AB 9))))))))))),?_⟩;have sz:Ay=16777216:=Dc;show⟨a,s,_,rfl,g,p,R,λn n0=>?_⟩;show⟨(zzd rfl),(zzp rfl),?_⟩;have J:0<=n%12/\n%12<12:=⟨Gp _ (by decide),IP _ (by decide)⟩;have F:0<=n/312%25/\n/312%25<25:=⟨Gp _ (by decide),IP _ (by decide)⟩;show⟨(zzp rfl),_,rfl,Int.le_add_of_sub_left_le (Eo (by decide) J.1),gL (Qd J.2 (by decide)),?_⟩;show Ul (λj C L=>L=H/\∃(O:Option AE)(z:AG),C=(Wg a f m MU n (1+n/312%25) z O AF AF AF AF)/\z.length=j/\J5 z) ⟨rfl,AF,"",rfl,rfl,λc o=>by cases o⟩ ?_ ?_
  . intro j C X hj U;obtain⟨rfl,o8,z,rfl,G,Z⟩:_:=U;rw[ACQ];obtain⟨v,W,N⟩:_:=jF (n/12+(j:Int)*(1+n/312%25));show⟨(zzd rfl),.inr ⟨WQ (JC (by decide) F.1),gL (Qd F.2 (by decide))⟩,(zzp rfl),_,_,_,rfl,rfl,by decide+kernel,W,_,_,rfl,rfl,?_,rfl,_,_,rfl,?_,Z.aea N⟩
    . change z.length+1<=Ay;lia
    .rw[dM,G];rfl
  . intro C X U;obtain⟨rfl,O,z,rfl,G,Z⟩:_:=U;have I:(z.length:Int)=1+n%12:=by lia
    show⟨(zzd rfl),z,rfl,by grind,(by change(0:Int)<(z.length:Int);show AFr (WQ J.1) I.symm),?_⟩;have b:0<=n/7800%(z.length:Int)/\n/7800%(z.length:Int)<(z.length:Int):=⟨Gp _ (by lia),IP _ (AFr (WQ J.1) I.symm)⟩;obtain⟨t,u,p3,p4⟩:_:=iQ (x:=z) (j:=n/7800%(z.length:Int)) (k:=n/7800%(z.length:Int)+1) b.1 (Qb (by decide)) b.2 Z;show⟨Bd _,λl Y=>⟨_,rfl,Eo (by decide) d,HG e (by decide),?_⟩⟩;show Ul (λi C L=>FD (λ(A B:Option AE)=>C=(Wg a f m MU n (1+n/312%25) z O (AA (.int (n/7800%(z.length:Int)))) (AA (.ref l)) A B)) (λ_ _=>Ah X L) (λ_ _=>L l=AA (.lst (((Eb i).map (NV (LQ z AF (AA (n/7800%(z.length:Int)))) (LQ z (AA (n/7800%(z.length:Int)+1)) AF) (n/93600))).map AE.str)))) ⟨AF,AF,rfl,(CA _).gu Y,Ac⟩ ?_ ?_
    . intro i C S hi U;obtain⟨A,B,rfl,s1,M⟩:_:=U;rw[ACQ];have W:=jG (n/93600+3*(i:Int));show⟨(zzd rfl),.inl ⟨by decide,by decide⟩,(zzp rfl),_,_,_,rfl,rfl,by decide+kernel,W,?_⟩;show⟨.inl ⟨rfl,_,AX M⟩,_,rfl,z,rfl,by grind,_,_,rfl,rfl,?_,_,rfl,z,rfl,by grind,_,_,rfl,rfl,?_,l,_,_,rfl,rfl,M,by rw[BB,BB,M5];lia,?_⟩
      . change(LQ z AF (AA (n/7800%(z.length:Int)))).length+1<=Ay;grind
      . rw[dM];change(LQ z AF (AA (n/7800%(z.length:Int)))).length+1+_<=Ay;lia
      . show⟨_,_,rfl,s1.vh Y,?_⟩;rw[Ac,bY,DJ,DJ];rfl
    . intro C S U;obtain⟨A,B,rfl,s1,M⟩:_:=U;show k l S _ s1 Y M ?_ (j7 _ _ _ (Su.mpr e)) λy r=>?_;.rw[BB,M5];show Int.natCast_toNat_eq_self.mpr d
      . obtain⟨i,_,rfl⟩:_:=BQ.mp r;show⟨(t.aea (iI _)).aea u,?_⟩;unfold NV;rw[dM,dM];change _+1+_<=12;lia
abbrev AR:=Int×AG×Int
noncomputable def GZ(i:AR):List AL:=[.inl i.1,.inl i.2.2]
noncomputable def HJ(i:AR):List AL:=[.inr i.2.1,.inl i.1,.inl i.2.2]
noncomputable def ED(i:AR):List AL:=[.inl i.1,.inr i.2.1,.inl i.2.2]
def S5(m:Nat)(H:AI)(x:AE)(ks:List AL):Prop:=∃a D,x=.ref a/\H a=AA (.tup (ks.map Au++D))/\(D=[]\/m<=ks.length)
theorem Q6(h:CY H xs kss):BW (S5 m H) xs kss:=Gf (λ_ _⟨a,e,q⟩=>⟨a,[],e,by rw[Ew];show q,.inl rfl⟩) h
def nU:BG:=λZ H Q _=>(IT λ(r W:AD)(Y:List AE)(D:List (List AL))(U:List AL)=>Jc (Z=[.ref r,.ref W]) (H r=AA (.lst Y)) (BW (S5 U.length H) Y D) (H W=AA (.tup (U.map Au))) ((∀J∈D,∀(i:Nat)k m,J[i]?=AA k->U[i]?=AA m->B8 k=B8 m)) (CZ D) (∀n:Nat,n<=D.length->(∀(i:Nat)J,i<n->D[i]?=AA J->BN J U=AJ)->(∀(i:Nat)J,n<=i->D[i]?=AA J->BN J U=AQ)->Q (.int (n:Int)) H))
theorem nK(h:CZ kss){i j:Nat}(J:i<=j)(U:kss[i]?=AA a)(D:kss[j]?=AA b):BN b a=AQ:=by
 by_cases e:i=j;. subst e;rw[U]at D;cases D;show Mu _
 . lk;obtain⟨Y,V⟩:=BV.mp U;obtain⟨Z,W⟩:=BV.mp D;k_in;have:=HV.mp h i j Y Z (Dk J e);rw[V,W]at this;show this
theorem YN(h:CZ kss){i j:Nat}(D:i<=j)(U:kss[i]?=AA a)(V:kss[j]?=AA b)(W:BN b J=AJ):BN a J=AJ:=AC5 (show Gz.kle a b from nK h D U V) W
theorem Ou(T:BR AH Af AN):T.zr.Ok BI P w Af base 1 nU:=by
  show T.zr.ok λB _ _ _ _ _ hr H vs Q E h=>?_;obtain⟨r,g,n,U,C,rfl,X,hw,x,hs,m,k⟩:_:=h;show⟨_,(Ag (BD 2 B AM) (Ag (BD 3 B (Bw (FE (K:=AH)) (by rfl) T.eh FJ #v[AB 0])) (Ag (xD EN (BK Mv (AB 2) (AB 3) (BF _)) (Ag (BD 4 B (AY C4 (AY DH (AB 2) (AB 3)) AM)) (Ab (Bi (BK (wA (K:=AH) hr.rj) (Dj AH (AB 0) (AB 4)) (AB 1) (BF _)) (Ab (BD 2 B (AY DH (AB 4) AM))) (Ab (BD 3 B (AB 4))))))) (Ab (Aw (AB 2)))))),?_⟩;obtain⟨O,F⟩:=Cf hw;show⟨_,.inl (AX X),?_⟩;show AAB (λZ S=>S=H/\∃(J D:Nat)(l:Option AE),Z=(h9 r g (J:Int) (D:Int) l)/\J<=D/\D<=U.length/\(∀(i:Nat)W,i<J->U[i]?=AA W->BN W C=AJ)/\(∀(i:Nat)W,D<=i->U[i]?=AA W->BN W C=AQ)) (λZ _=>match Z with|[_,_,AA (.int J),AA (.int D),_]=>(D-J).toNat|_=>0) ⟨rfl,0,U.length,AF,by rw[O];rfl,Bd _,Al _,λi W h=>by simp_all,λi W h e=>by have:=(BV.mp e).1;show absurd this (Vo.mpr h)⟩ ?_ ?_
  . intro Z S hI;obtain⟨rfl,J,D,l,rfl,h1,c,d,f⟩:_:=hI;show⟨_,rfl,GU (λe=>?_) λe=>?_⟩
    . have e:J<D:=by simp_all
      have A:((J:Int)+(D:Int))/2=(((J+D)/2:Nat):Int):=by rfl
      have N:(J+D)/2<U.length:=by lia
      have L:U[(J+D)/2]?=AA U[(J+D)/2]:=Cr N;have M:=Cr (show(J+D)/2<n.length by simp_all);obtain⟨a,zs,t,y,hz⟩:_:=F _ _ _ M L;rw[t]at M;have I:DM n (((J:Int)+(D:Int))/2)=AA (.ref a):=by rw[A];show Ap M
      show⟨(zzd rfl),_,_,AX X,I,a,g,U[(J+D)/2],zs,C,rfl,rfl,Ar y,Ar x,hz,hs _ (AAJ N),_,rfl,K8 (λb=>?_) λb=>?_⟩
      . show⟨⟨rfl,(J+D)/2+1,D,_,by change _=[_,_,AA (AE.int _),_,_];rw[show((((J+D)/2+1:Nat)):Int)=((J:Int)+(D:Int))/2+1 by rfl];rfl,by lia,c,λi W Y G=>YN m (EM Y) G L b,f⟩,?_⟩;change((D:Int)-(((J:Int)+(D:Int))/2+1)).toNat<((D:Int)-(J:Int)).toNat;lia
      . show⟨⟨rfl,J,(J+D)/2,_,by change _=[_,_,_,AA (AE.int _),_];rw[<-A];rfl,by lia,B7 N,d,λi W Y G=>?_⟩,?_⟩;.cases z:BN W C with|false=>rfl|true=>rw[YN m Y L G z]at b;cases b
        . change((((J:Int)+(D:Int))/2)-(J:Int)).toNat<((D:Int)-(J:Int)).toNat;lia
    . have e:J=D:=Fh h1 (gQ.mp (MS e));subst e;show k J c d f
  . intro Z H1 R R' hR q;lk;obtain⟨v,o,q1⟩:=U6 q;obtain⟨u,p,q2⟩:=U6 q1;obtain⟨i,rfl,q3⟩:=Ii q2;obtain⟨j,rfl,b,s,q4⟩:=Ii q3;k_in;change Rn Z[2]? λv=>Rn Z[3]? _;rw[o,p];show⟨b,s,hR _ _ q4⟩
def MV(ex:List AD)(H:AI)(L:List AR)(q:AL×AE):Prop:=∃(z:AG)(r:AD)(J:List AE)(D:List (List AL)),q=(.inr z,.ref r)/\r∉ex/\H r=AA (.lst J)/\CY H J D/\D≠[]/\CZ D/\D.Perm ((L.filter λi=>Ae (i.2.1=z)).map GZ)
structure DE(ad:CO)(ex:List AD)(H:AI)(x d:AD)(L:List AR):Prop where bz:∃dx,H x=AA (.ins ad.iz dx [("rows",.ref d)])av:∃kvs,H d=AA (.dK kvs)/\(kvs.map (·.1)).Nodup/\kvs.length<=L.length/\(∀q∈kvs,MV ex H L q)/\∀i∈L,(B9 i.2.1:AL)∈kvs.map (·.1)
theorem MV.ae(h:MV ex H L q)(W:∀b xs,b∉ex->H b=AA (.lst xs)->H' b=AA (.lst xs))(t:By H H'):MV ex H' L q:=by obtain⟨z,r,xs,D,e,J,U,hw,r1⟩:_:=h;show⟨z,r,xs,D,e,J,W _ _ J U,hw.ae t,r1⟩
theorem DE.ae(h:DE J ex H x d L)(z:∀C D U,H x=AA (.ins C D U)->H' x=AA (.ins C D U))(Y:∀kvs,H d=AA (.dK kvs)->H' d=AA (.dK kvs))(Z:∀b xs,b∉ex->H b=AA (.lst xs)->H' b=AA (.lst xs))(t:By H H'):DE J ex H' x d L:=by obtain⟨⟨D,e⟩,kvs,V,n,l,q,c⟩:_:=h;show⟨⟨D,z _ _ _ e⟩,kvs,Y _ V,n,l,λp W=>(q p W).ae Z t,c⟩
theorem DE.ah(h:DE D ex H x d L)(s:Ah H H'):DE D ex H' x d L:=h.ae (λC U V e=>s _ _ e) (λJ e=>s _ _ e) (λb W _ e=>s _ _ e) s.tp
theorem DE.yf(h:DE U ex H x d L)(s:Bk J H H')(e:H J=AA (.dK kvs))(W:d≠J):DE U ex H' x d L:=h.ae (λC Z A D=>s _ _ (λz=>by rw[z,e]at D;cases D) D) (λkvs D=>s _ _ W D) (λb Y _ D=>s _ _ (λz=>by rw[z,e]at D;cases D) D) (s.tp e λY=>by intro z;cases z)
theorem DE.we(h:DE J ex H x d L)(e:H c=AA (.lst xs))(W:c∈ex):DE J ex (AO H c o) x d L:=h.ae (λC Z A D=>by rw[AW (λz=>by rw[z,e]at D;cases D)];show D) (λY D=>by rw[AW (λz=>by rw[z,e]at D;cases D)];show D) (λb xs U D=>by rw[AW (λz=>U (by rw[z];show W))];show D) ((HP H).gu e λxs=>by intro z;cases z)
theorem DE.zj(h:DE W ex H x d L)(z:AG)(e:H d=AA (.dK kvs)):(Bv kvs (.inr z)=AF/\(L.filter λi=>Ae (i.2.1=z))=[])\/∃r xs kss,Bv kvs (.inr z)=AA (.ref r)/\r∉ex/\H r=AA (.lst xs)/\CY H xs kss/\kss≠[]/\CZ kss/\kss.Perm ((L.filter λi=>Ae (i.2.1=z)).map GZ):=by lk;obtain⟨_,U,D,n,l,q,c⟩:=h;rw[e]at D;cases D;k_in;cases J:Bv kvs _ with|none=>show .inl ⟨rfl,MC.mpr λi Z A=>?_⟩;have:=c i Z;rw[AFm A]at this;show bH J this|some v=>lk;obtain⟨B,r,xs,kss,Y,r1⟩:=q _ (Io J);cases Y;k_in;show .inr ⟨r,xs,kss,rfl,r1⟩
theorem T5{L:List AR}{kss:List (List AL)}(p:kss.Perm ((L.filter λi=>Ae (i.2.1=z)).map GZ)):kss.length<=L.length:=by rw[p.length_eq,BB];show Ff _ _
theorem Mc{L:List AR}{kss:List (List AL)}(h:kss.Perm ((L.filter p).map GZ)):∀ks∈kss,∃t a,ks=[.inl t,.inl a]:=λks D=>by obtain⟨i,_,rfl⟩:_:=BQ.mp (h.mem_iff.mp D);show⟨_,_,rfl⟩
theorem Q5{kss:List (List AL)}{D:List AL}(h:∀ks∈kss,∃t a,ks=[.inl t,.inl a])(W:∀m∈D,B8 m=AJ):∀ks∈kss,∀(i:Nat)k m,ks[i]?=AA k->D[i]?=AA m->B8 k=B8 m:=λks V i k m J U=>by obtain⟨t,a,rfl⟩:_:=h ks V;rw[W m (Ct U)];have:=Ct J;simp at this;rcases this with rfl|rfl<;>rfl
theorem TU(xs:List AE)(n:Nat)(h:n<=xs.length):Gw xs AF (AA (n:Int))=xs.take n:=by
 unfold Gw;have J:CT xs.length 0 AF=0:=rfl;have D:CT xs.length xs.length (AA (n))=n:=by change(if(n:Int)<0 then((n:Int)+(xs.length)).toNat else Ds _ _)=n;rw[AFh (ACJ _)];simp_all
 rw[D];rfl
theorem Qo(xs:List AE)(n:Nat)(h:n<=xs.length):Gw xs (AA (n:Int)) AF=xs.drop n:=by
 unfold Gw;have J:CT xs.length _ AF=xs.length:=rfl;have D:CT xs.length 0 (AA (n))=n:=by change(if(n)<0 then((n)+(xs.length:Int)).toNat else Ds _ _)=n;lia
 rw[D];show D7 (by rw[M4];show Al _)
theorem iP(xs:List AE)(n m:Nat)(h:n<=xs.length)(U:m<=xs.length):Gw xs (AA (n:Int)) (AA (m:Int))=(xs.drop n).take (m-n):=by
 unfold Gw;have D:∀d,CT xs.length d (AA (m))=m:=λd=>by change(if(m)<0 then((m)+(xs.length:Int)).toNat else Ds _ _)=m;lia
 have J:∀d,CT _ d (AA (n))=n:=λd=>by change(if(n)<0 then((n)+(xs.length:Int)).toNat else Ds _ xs.length)=n;lia
 rw[D,J]
theorem mW(sd:CZ kss)(Z:∀(i:Nat)ks,i<n->kss[i]?=AA ks->BN ks J=AJ)(z:∀(i:Nat)ks,n<=i->kss[i]?=AA ks->BN ks J=AQ):CZ (kss.take n++[J]++kss.drop n):=by
  have A:∀ks∈kss.take n,BN ks J=AJ:=λks W=>by obtain⟨i,V,e⟩:=G8.mp W;rw[Ej]at V;show Z i ks (Bc V (LO _ _)) (by rw[<-e,SD];show Cr _)
  have Y:∀ks∈kss.drop n,BN ks J=AQ:=λks W=>by obtain⟨i,V,e⟩:=G8.mp W;show z (n+i) ks (by simp) (by rw[<-e,List.getElem_drop];show Cr _)
  have B:CZ (kss.take n++kss.drop n):=by rw[OE];show sd
  obtain⟨s1,s2,s3⟩:_:=OD.mp B;show OD.mpr ⟨OD.mpr ⟨s1,bX _ _,λa D b U=>?_⟩,s2,λa D b U=>?_⟩
  . rw[Bt.mp U];show Kh (O:=Gz) (A a D)
  . rcases DN.mp D with D|D;.show s3 a D b U
    . rw[Bt.mp D];show Y b U
def pR(U:CO):BG:=λV H Q _=>(Kr λ(J:List AD)(x d p:AD)(L:List AR)(i:AR)=>LW (V=[.ref x,.ref p]) (DE U J H x d L) ((∀c∈J,∃o,H c=AA o)) (H p=AA (.tup ((ED i).map Au))) (L.length<=1000) (∀D,Bk d H D->DE U J D x d (L++[i])->Q .non D))
theorem W0{L:List AR}{i:AR}:((L++[i]).filter λj=>Ae (j.2.1=z))=if i.2.1=z then(L.filter λj=>Ae (j.2.1=z))++[i]else L.filter λj=>Ae (j.2.1=z):=by
 rw[Gg];by_cases e:i.2.1=z;.rw[AFi e,G7,AFi (AFk e)];rfl
 . rw[AFh e,G7,AFh (by simpa using e)];simp
theorem lO(T:BR AH Af AN):T.uo.Ok BI P w Af base 2 (pR AN):=by
  show T.uo.ok λnd _ _ _ _ _ hr H vs Q E h=>?_;obtain⟨ex,x,d,p,L,⟨t,z,a⟩,rfl,sr,hex,S,hL,k⟩:_:=h;show⟨_,(Ag (BD 2 nd (Cq #v[Av AH (AB 1) AM,Av AH (AB 1) AM])) (Ag (BD 3 nd (VF hr.u1 (Bq (AB 0) rfl) (Av AH (AB 1) AM) (Cy Eg) ⟨rfl,rfl,rfl,rfl⟩)) (Ag (BD 4 nd (Ax (Ou T) hr #v[AB 3,AB 2])) (Ab (JY hr.u1 (Bq (AB 0) rfl) (Av AH (AB 1) AM) (AY Jr (AY Jr (IC (LI (K:=AH)) (AB 3) JX (G5 (AB 4))) (Cy #v[AB 2])) (IC (LI (K:=AH)) (AB 3) (G5 (AB 4)) JX)) rfl))))),?_⟩;have sz:Ay=16777216:=Dc;have i0:∀{a b c:AE},DM [a,b,c] 0=AA a:=Ap (j:=0) rfl;have i1:∀{a b c:AE},DM [a,b,c] 1=AA b:=Ap (j:=1) rfl;have i2:∀{a b c:AE},DM [a,b,c] 2=AA c:=Ap (j:=2) rfl;have S:H p=AA (.tup [.int t,.str z,.int a]):=S;show⟨_,_,Ar S,i0,_,_,Ar S,i2,Ba rfl,λU hpp=>?_⟩;have s1:=CB (o:=.tup [.int t,.int a]) hpp;have I:(AO H U (.tup [.int t,.int a])) U=AA (.tup ([.inl t,.inl a].map Au)):=Ac;generalize AO H U (.tup [.int t,.int a])=H1 at s1 I⊢;have O:=sr.ah s1;lk;obtain⟨dx,eo⟩:=O.bz;obtain⟨B,ed,nd',hk,hq,hc⟩:=id O.av;k_in;have isd:Ni H1 d:=.inl ⟨B,.inl ed⟩;show⟨_,⟨eo,T.dq,T.cy,rfl⟩,d,rfl,isd,_,_,Ar (s1 _ _ S),i1,Bd _,λel hel=>?_⟩;show BM (o:=.lst []) hel λH2 s2 eel=>?_;have sr2:=O.ah s2;have l:=s2 _ _ ed;lk;obtain⟨M,D,J,erw,s,hw,sd,pm⟩:∃(r:AD)(D:List AE)(J:List (List AL)),(Bv B (.inr z)).getD (.ref el)=.ref r/\H2 r=AA (.lst D)/\CY H2 D J/\CZ J/\J.Perm ((L.filter λi=>Ae (i.2.1=z)).map GZ):=by
    rcases sr2.zj z l with⟨e1,e2⟩|⟨r,D,J,e1,_,s,hw,_,sd,pm⟩;.show⟨el,[],[],by rw[e1];rfl,eel,Ju _,.nil,by rw[e2];show .nil⟩
    .show⟨r,D,J,by rw[e1];rfl,s,hw,sd,pm⟩
  k_in;show⟨_,Mh (k:=B9 z) l,?_⟩;rw[erw];have hl:=T5 pm;have hxl:=hw.dh;show⟨M,U,D,J,_,rfl,s,Q6 hw,s2 _ _ I,Q5 (Mc pm) (by intro m X;simp only[CJ,M8,AFt]at X;rcases X with rfl|rfl<;>rfl),sd,λn hn b1 b2=>?_⟩;show⟨_,rfl,M,D,rfl,AX s,λc1 hc1=>?_⟩;rw[TU D n (by simp_all)];show BM (o:=.lst (D.take n)) hc1 λH3 s3 ec1=>?_;show⟨Ba rfl,λc2 hc2=>?_⟩;show BM (o:=.lst [.ref U]) hc2 λH4 s4 ec2=>?_;show⟨c1,c2,_,_,rfl,rfl,s4 _ _ ec1,ec2,by rw[Ej];simp;lia,λc3 hc3=>?_⟩;have s5:=CB (o:=.lst (D.take n++[.ref U])) hc3;have g:(AO H4 c3 (.lst (D.take n++[.ref U]))) c3=AA (.lst (D.take n++[.ref U])):=Ac;generalize AO H4 c3 (.lst (D.take n++[.ref U]))=H5 at s5 g⊢;have N:=(s3.aa s4).aa s5;show⟨_,rfl,M,D,rfl,AX (N _ _ s),λc4 hc4=>?_⟩;rw[Qo D n (by simp_all)];show BM (o:=.lst (D.drop n)) hc4 λH6 s6 ec4=>?_;show⟨c3,c4,_,_,rfl,rfl,s6 _ _ g,ec4,by rw[CI,Ej,M4];simp;lia,λY u=>?_⟩;have s7:=CB (o:=.lst (D.take n++[.ref U]++D.drop n)) u;have G:(AO H6 Y (.lst (D.take n++[.ref U]++D.drop n))) Y=AA (.lst (D.take n++[.ref U]++D.drop n)):=Ac;have C:=N.aa (s6.aa s7);have v:H6 Y=AF:=u;have nex:Y∉ex:=λX=>by obtain⟨o,ho⟩:=hex Y X;have:=((s1.aa s2).aa (N.aa s6)) _ _ ho;rw[v]at this;cases this
  generalize AO H6 Y (.lst (D.take n++[.ref U]++D.drop n))=R at s7 G C⊢;have W:=s2.aa C;have s07:=s1.aa W;have sr7:=sr2.ah C;obtain⟨dx7,A⟩:=sr7.bz;have Z:=W _ _ ed;show⟨_,⟨A,T.dq,T.cy,rfl⟩,_,_,Ar (s07 _ _ S),i1,d,_,rfl,Mi (k:=B9 z) Z (by lia),?_⟩;have rw7:CY R (D.take n++[.ref U]++D.drop n) (J.take n++[[.inl t,.inl a]]++J.drop n):=by have h7:=hw.ae C.tp;show Eh (Eh (Pj n h7) (.cons ⟨U,rfl,W _ _ I⟩ .nil)) (N2 n h7)
  have pm7:ACT (J.take n++[([.inl t,.inl a]:List AL)]++J.drop n) (((L.filter λi:AR=>Ae (i.2.1=z))++[(t,z,a)]).map GZ):=by rw[DJ,Ei];show ACp.trans ((bL _ ?_).trans (List.perm_append_singleton (GZ (t,z,a)) _).symm);change(J.take n++J.drop n).Perm _;rw[OE];show pm
  have nr:∀b F,R b=AA (.lst F)->b≠d:=λb F e f=>by rw[f,Z]at e;cases e
  show k _ ((s07.x d).gu) ⟨⟨dx7,by rw[AW (λf=>by rw[f,Z]at A;cases A)];show A⟩,_,Ac,Pe nd',?_,λq hq'=>?_,λj y=>?_⟩
  . have:=Uy B (B9 z) (.ref Y);rw[CI,AAK];show Ak this (Jx.mpr hk)
  . have tp:By R (AO R d (.dK (Bp B (B9 z) (.ref Y)))):=(HP R).gu Z λD=>by intro z;cases z
    rcases Pc hq' with rfl|⟨X,hne⟩
    . show⟨z,Y,_,_,rfl,nex,by rw[AW (nr _ _ G)];show G,rw7.ae tp,by simp,mW sd b1 b2,?_⟩;rw[W0,AFi rfl];show pm7
    . obtain⟨f,r',F,kss',rfl,h1,h2,h3,h4,h5,h6⟩:_:=(hq q X).ae (H':=R) (λb D _ e=>W _ _ e) W.tp;show⟨f,r',F,kss',rfl,h1,by rw[AW (nr _ _ h2)];show h2,h3.ae tp,h4,h5,?_⟩;rw[W0,AFh (λe=>hne (by change B9 f=_;rw[<-e]))];show h6
  . rw[Ri];rcases DN.mp y with y|y
    . have:=hc j y;split;.show this
      .show HU _ this
    . rw[Bt.mp y];split;.assumption
      .show Ea _ (Bt.mpr rfl)
theorem jY(sd:CZ kss)(hi:∀ks∈kss,∃t a,ks=[.inl t,.inl a]){lo:Int}(U:∀(i:Nat)ks,i<n->kss[i]?=AA ks->BN ks [.inl lo]=AJ)(V:∀(i:Nat)ks,n<=i->kss[i]?=AA ks->BN ks [.inl lo]=AQ)(W:∀(i:Nat)ks,i<m->kss[i]?=AA ks->BN ks [.inl (D+1)]=AJ)(Y:∀(i:Nat)ks,m<=i->kss[i]?=AA ks->BN ks [.inl (D+1)]=AQ):(kss.drop n).take (m-n)=kss.filter λks=>match ks with|.inl t::_=>Ae (lo<=t/\t<=D)|_=>AQ:=by
  have J:∀t a b:Int,BN [.inl t,.inl a] [.inl b]=Ae _:=λt a b=>by
    change(if(C5 t)=C5 b then AQ else Ae _)=_;split;. rename_i e;have e:=JB e;rw[e];show(AFl (gN b)).symm
    .rfl
  show PM λi ks e=>?_;obtain⟨t,a,rfl⟩:_:=hi ks (Ct e);by_cases Z:i<n
  . have:=U i _ Z e;rw[J]at this;lia
  . have z:=V i _ (by simp_all) e;rw[J]at z;by_cases A:i<m
    . have:=W i _ A e;rw[J]at this;lia
    . have:=Y i _ (by simp_all) e;rw[J]at this;lia
def pI(Y:CO):BG:=λA H Q _=>(LY λ(Z:List AD)(x d:AD)(L:List AR)(z:AG)(V U:Int)=>IQ (A=[.ref x,.str z,.int V,.int U]) (DE Y Z H x d L) (L.length<=1000) (∀J r W D,Ah H J->H r=AF->J r=AA (.lst W)->CY J W D->CZ D->D.Perm ((L.filter λi=>Ae (i.2.1=z/\V<=i.1/\i.1<=U)).map GZ)->Q (.ref r) J))
theorem lH(T:BR AH Af AN):T.tw.Ok BI P w Af base 2 (pI AN):=by
 show T.tw.ok λnd _ _ _ _ _ p H vs Q E h=>?_;obtain⟨ex,x,d,L,z,Y,B,rfl,q,hL,k⟩:_:=h;show⟨_,(Ag (BD 4 nd (VF p.u1 (Bq (AB 0) rfl) (AB 1) (Cy Eg) ⟨rfl,rfl,rfl,rfl⟩)) (Ab (Aw (IC (LI (K:=AH)) (AB 4) (G5 (Ax (Ou T) p #v[AB 4,Cq #v[AB 2]])) (G5 (Ax (Ou T) p #v[AB 4,Cq #v[AY DH (AB 3) AM]])))))),?_⟩;have sz:Ay=16777216:=Dc;lk;obtain⟨dx,eo⟩:=q.bz;obtain⟨R,u,nd',hk,hq,hc⟩:=id q.av;k_in;show⟨_,⟨eo,T.dq,T.cy,rfl⟩,d,rfl,.inl ⟨R,.inl u⟩,Bd _,λv g=>?_⟩;show BM (o:=.lst []) g λX s2 e=>?_;have s:=q.ah s2;have I:=s2 _ _ u;lk;obtain⟨A,U,D,f,O,hw,F,Z⟩:∃(r:AD)(U:List AE)(D:List (List AL)),(Bv R (.inr z)).getD (.ref v)=.ref r/\X r=AA (.lst U)/\CY X U D/\CZ D/\D.Perm ((L.filter λi=>Ae (i.2.1=z)).map GZ):=by
  rcases s.zj z I with⟨G,c⟩|⟨r,U,D,G,_,O,hw,_,F,Z⟩;.show⟨v,[],[],by rw[G];rfl,e,Ju _,.nil,by rw[c];show .nil⟩
  .show⟨r,U,D,by rw[G];rfl,O,hw,F,Z⟩
 k_in;show⟨_,Mh (k:=B9 z) I,?_⟩;rw[f];have hl:=T5 Z;have hxl:=hw.dh;have one:∀m∈([C5 Y]:List AL),B8 m=AJ:=by intro m C;rw[Bt.mp C];rfl
 show⟨Ba rfl,λa j=>?_⟩;have s3:=CB (o:=.tup [.int Y]) j;have M:(AO X a (.tup [.int Y])) a=AA (.tup ([C5 Y].map Au)):=Ac;generalize AO X a (.tup [.int Y])=t at s3 M⊢;show⟨A,a,U,D,_,rfl,s3 _ _ O,Q6 (hw.ae s3.tp),M,Q5 (Mc Z) (by intro m C;rw[Bt.mp C];rfl),F,λn hn a1 a2=>⟨_,rfl,?_⟩⟩;show⟨Ba rfl,λb l=>?_⟩;have s4:=CB (o:=.tup [.int (B+1)]) l;have N:(AO t b (.tup [.int (B+1)])) b=AA (.tup ([C5 (B+1)].map Au)):=Ac;generalize AO t b (.tup [.int (B+1)])=H4 at s4 N⊢;have J:=s3.aa s4;show⟨A,b,U,D,_,rfl,J _ _ O,Q6 (hw.ae J.tp),N,Q5 (Mc Z) (by intro m C;rw[Bt.mp C];rfl),F,λm C b1 b2=>⟨_,rfl,?_⟩⟩;show⟨A,U,rfl,AX (J _ _ O),λr W=>?_⟩;rw[iP U n m (by simp_all) (by simp_all)];have S:=s2.aa J;have y:=jY F (Mc Z) a1 a2 b1 b2;show k _ r _ _ (S.gu W) (S.au W) Ac (Pj _ (N2 _ (hw.ae (J.gu W).tp))) ?_ ?_
 . rw[y];show F.sublist Px
 . rw[y];show(Z.filter _).trans (R7 ?_);rw[OB,KZ];congr 1;show MA λi _=>?_;change(Ae (Y<=i.1/\i.1<=B)&&Ae (i.2.1=z))=_;by_cases G:i.2.1=z<;>by_cases c:Y<=i.1/\i.1<=B<;>simp[G,c]
theorem jK{D J:Type}{f:D->J}{l:List D}{i:Nat}{x:J}(h:(l.map f)[i]?=AA x):∃y,l[i]?=AA y/\f y=x:=by rw[CD]at h;show EI.mp h
theorem jC[DecidableEq D](f:J->D)(L:List J)(ks:List D)(z:ks.Nodup)(U:∀x∈L,f x∈ks)(V:∀k∈ks,∃x∈L,f x=k):ks.length<=L.length:=by
 rw[<-(Uj f L ks z U).length_eq];have g:∀ks:List D,(∀k∈ks,∃x∈L,f x=k)->ks.length<=(ks.flatMap λk=>L.filter λx=>Ae (f x=k)).length:=λks=>by induction ks with |nil=>intro _;show Al _|cons k ks Z=> intro h;rw[F0,CI,M3];obtain⟨x,Y,e⟩:=h k DO;have:0<(L.filter λx=>Ae (f x=k)).length:=ACd (Dx.mpr ⟨Y,AFk e⟩);have:=Z λk W=>h k (Ek _ W);lia
 show g ks V
theorem jQ[DecidableEq D]{q:D×AE}(h:q∈kvs)(J:q.1≠k):q∈Bp kvs k v:=by
 unfold Bp;split;.show BQ.mpr ⟨q,h,by rw[AFh J]⟩
 .show HU _ h
theorem Tj[DecidableEq D]{q:D×AE}:q∈DX kvs k↔q∈kvs/\q.1≠k:=by unfold DX;rw[Dx,AFo]
theorem Qw(t a b:Int):BN [.inl t,.inl a] [.inl b]=Ae (t<b):=by
 change(if(C5 t)=C5 b then AQ else Ae _)=_;split
 . rename_i e;have e:=JB e;rw[e];show(AFl (gN b)).symm
 .rfl
theorem iS{kss:List (List AL)}(hi:∀ks∈kss,∃t a,ks=[.inl t,.inl a]){lo:Int}(D:∀(i:Nat)ks,i<n->kss[i]?=AA ks->BN ks [.inl lo]=AJ)(J:∀(i:Nat)ks,n<=i->kss[i]?=AA ks->BN ks [.inl lo]=AQ):kss.drop n=kss.filter λks=>match ks with|.inl t::_=>Ae (lo<=t)|_=>AQ:=by
 have:=PM (l:=kss) (n:=n) (m:=kss.length) (p:=λks=>match ks with|.inl t::_=>Ae (lo<=t)|_=>AQ) λi ks e=>by
  obtain⟨t,a,rfl⟩:=hi ks (Ct e);have W:=(BV.mp e).1;by_cases U:i<n
  . have:=D i _ U e;rw[Qw]at this;lia
  . have V:=J i _ (by simp_all) e;rw[Qw]at V;simp_all
 rw[D7 (by rw[M4];show Al _)]at this;show this
noncomputable def Br(D:Int)(L:List AR):List AR:=L.filter λi=>Ae (D<=i.1)
theorem O1(D:Int)(L:List AR):(Br D L).length<=L.length:=Ff _ _
theorem iR{L:List AR}{kss:List (List AL)}(J:kss.Perm ((L.filter λi=>Ae (i.2.1=z)).map GZ))(e:kss.drop n=kss.filter λks=>match ks with|.inl t::_=>Ae (D<=t)|_=>AQ):(kss.drop n).Perm (((Br D L).filter λi=>Ae (i.2.1=z)).map GZ):=by rw[e];show(J.filter _).trans (R7 ?_);unfold Br;rw[OB,KZ,KZ];congr 1;show MA λi _=>?_;change(Ae _&&Ae _)=_;rw[AB3]
def oC(U:CO):BG:=λW H Q _=>(IT λ(J:List AD)(x d:AD)(L:List AR)(V:Int)=>Ee (W=[.ref x,.int V]) (DE U J H x d L) ((∀c∈J,∃o,H c=AA o)) (L.length<=1000) (∀D,Bk d H D->DE U J D x d (Br V L)->Q .non D))
theorem kJ(T:BR AH Af AN):T.ti.Ok BI P w Af base 2 (oC AN):=by
  show T.ti.ok λnd _ _ _ _ _ hr H vs Q E h=>?_;obtain⟨ex,x,d,L,le,rfl,sr,hex,hL,k⟩:_:=h;show⟨_,(Ab (EG EN rfl (DI (K:=AH) (JV (Ub (K:=AH) rfl) (by rfl) T.jc Ki #v[Bq (Bj 0) rfl])) (Il (i:=2) nd rfl (Fi rfl)) (Ag (KY (i:=3) nd rfl (Fi rfl) (Cg hr.u1 (Bq (Bj 0) rfl) (Bj 2) (λ_ _=>rfl))) (Ag (KY (i:=4) nd rfl (Fi rfl) (IC (LI (K:=AH)) (Bj 3) (G5 (Ax (Ou T) hr #v[Bj 3,Cq #v[Bj 1]])) JX)) (Ab (Bi (BK Zq (Bw (Y1 (K:=AH)) (by rfl) T.eh FJ #v[Bj 4]) AM (BF _)) (Ab (JY hr.u1 (Bq (Bj 0) rfl) (Bj 2) (Bj 4) rfl)) (Ab (FT (Zz (Bq (Bj 0) rfl) (Bj 2) ⟨rfl,rfl,rfl,rfl⟩))))))))),?_⟩;have sz:Ay=16777216:=Dc;lk;obtain⟨dx,eo⟩:=sr.bz;obtain⟨kvs,ed,nd',hk,hq,hc⟩:=id sr.av;k_in;show⟨_,rfl,_,⟨eo,T.dq,T.cy,rfl⟩,d,kvs,rfl,ed,λl hl=>?_⟩;have s1:=CB (o:=.lst (kvs.map λp=>Au p.1)) hl;have el:(AO H l (.lst (kvs.map λp=>Au p.1))) l=AA (.lst (kvs.map λp=>Au p.1)):=Ac;have nld:l≠d:=(BE ed hl).symm;generalize AO H l (.lst (kvs.map λp=>Au p.1))=H1 at s1 el⊢;have ed1:=s1 _ _ ed;have tpd:∀{H'},Bk d H1 H'->By H1 H':=λsx=>sx.tp ed1 λxs=>by intro z;cases z
  have lst':∀{H':AI}{b:AD}{xs:List AE},Bk d H1 H'->H1 b=AA (.lst xs)->H' b=AA (.lst xs):=λsx e=>sx _ _ (λz=>by rw[z,ed1]at e;cases e) e;show⟨l,rfl,⟨_,AX el⟩,HQ (K:=AH) (xs:=kvs.map λp=>Au p.1) (λn σ H'=>(JE λ(o2 o3 o4:Option AE)(kvs':List (AL×AE))=>Kq (σ=(hU x le o2 o3 o4)) (Bk d H1 H') (H' d=AA (.dK kvs')) ((kvs'.map (·.1)).Nodup) (kvs'.length<=1000) ((∀q∈kvs',(q.1∈(kvs.map (·.1)).take n/\MV ex H' (Br le L) q)\/(q.1∉(kvs.map (·.1)).take n/\q∈kvs))) ((∀q∈kvs,q.1∉(kvs.map (·.1)).take n->q∈kvs')) (∀i∈Br le L,(B9 i.2.1:AL)∈(kvs.map (·.1)).take n->(B9 i.2.1:AL)∈kvs'.map (·.1)))) ⟨AF,AF,AF,kvs,rfl,λb o _ e=>e,ed1,nd',Ak hk hL,λq hq=>.inr ⟨by simp,hq⟩,λq hq _=>hq,λi _ hi=>by simp at hi⟩ (λn σ H' _ hh=>by obtain⟨_,_,_,_,_,sx,_⟩:=hh;show AX (lst' sx el)) ?_ ?_⟩
  . intro n y σ H2 hy hI;lk;obtain⟨o2,o3,o4,kvs',rfl,sx2,ed2,nd2,lk2,a2,b2,c2⟩:=hI;obtain⟨q0,hq0,rfl⟩:=jK hy;obtain⟨z,r0,xs0,kss0,e0,_⟩:=hq q0 (Ct hq0);have hk0:(kvs.map (·.1))[n]?=AA (.inr z):=by rw[CD,hq0,e0];rfl
    have hnl:n<(kvs.map (·.1)).length:=(BV.mp hk0).1;have hnot:(B9 z:AL)∉(kvs.map (·.1)).take n:=λhm=>by obtain⟨i,hi,e⟩:=G8.mp hm;rw[Ej]at hi;rw[SD]at e;have e2:=(BV.mp hk0).2;have:=(bR nd').mp (e.trans e2.symm);lia
    have tk:(kvs.map (·.1)).take (n+1)=(kvs.map (·.1)).take n++[.inr z]:=by rw[Dy,hk0];rfl
    have mem1:q0∈kvs':=b2 q0 (Ct hq0) (by rw[e0];show hnot);have hkm:(B9 z:AL)∈kvs'.map (·.1):=BQ.mpr ⟨q0,mem1,by rw[e0]⟩;obtain⟨v,hv⟩:=OA hkm;have hvk:((B9 z:AL),v)∈kvs:=by
      rcases a2 _ (Io hv)with⟨h1,_⟩|⟨_,h2⟩;.show absurd h1 hnot
      .show h2
    obtain⟨z',r,xs,kss,e1,hrx,er,hw,hne,sd,pm⟩:=hq _ hvk;cases e1;k_in;have er2:=lst' sx2 (s1 _ _ er);have hw2:=(hw.ae s1.tp).ae (tpd sx2);have eo2:=sx2 _ _ (λz=>by rw[z,ed]at eo;cases eo) (s1 _ _ eo);have yv:Au q0.1=.str z:=by rw[e0];rfl
    rw[yv];have hl':=T5 pm;have hxl:=hw.dh;show⟨_,rfl,_,⟨eo2,T.dq,T.cy,rfl⟩,_,rfl,d,_,rfl,(by have:=Mh (k:=B9 z) ed2;rw[hv]at this;show this),?_⟩;show⟨_,rfl,_,rfl,_,rfl,b8 rfl,λp hp=>?_⟩;have s3:=CB (o:=.tup [.int le]) hp;have ep:(AO H2 p (.tup [.int le])) p=AA (.tup ([C5 le].map Au)):=Ac;generalize AO H2 p (.tup [.int le])=H3 at s3 ep⊢;show⟨r,p,xs,kss,_,rfl,s3 _ _ er2,Q6 (hw2.ae s3.tp),ep,Q5 (Mc pm) (by intro m hm;rw[Bt.mp hm];rfl),sd,λm hm b1 b2'=>⟨_,rfl,?_⟩⟩;have dr:=iS (Mc pm) b1 b2';have pm2:=iR pm dr;have sd2:CZ (kss.drop m):=sd.sublist (ACX _ _);show⟨r,xs,rfl,AX (s3 _ _ er2),λc hc'=>?_⟩;rw[Qo xs m (by simp_all)];have s4:=CB (o:=.lst (xs.drop m)) hc';have ec:(AO H3 c (.lst (xs.drop m))) c=AA (.lst (xs.drop m)):=Ac;have nex:c∉ex:=λhm=>by
      obtain⟨o,ho⟩:=hex c hm;by_cases z:c=d;.rw[z,s3 _ _ ed2]at hc';cases hc'
      .rw[s3 _ _ (sx2 _ _ z (s1 _ _ ho))]at hc';cases hc'
    generalize AO H3 c (.lst (xs.drop m))=H4 at s4 ec⊢;have s34:=s3.aa s4;have ed4:=s34 _ _ ed2;have eo4:=s34 _ _ eo2;have sx4:Bk d H1 H4:=sx2.aa (s34.x d);have hw4:CY H4 (xs.drop m) (kss.drop m):=N2 m (hw2.ae s34.tp);have ncd:c≠d:=λz=>by rw[z,ed4]at ec;cases ec
    have tpu:∀{o:Bg},By H4 (AO H4 d o):=(HP H4).gu ed4 λxs=>by intro z;cases z
    have row':∀{o:Bg}{q:AL×AE},MV ex H2 (Br le L) q->MV ex (AO H4 d o) (Br le L) q:=λh=>h.ae (λb xs _ e=>by rw[AW (λz=>by rw[z,ed2]at e;cases e)];show s34 _ _ e) (s34.tp.aa tpu);show⟨_,rfl,c,_,rfl,.inl (AX ec),_,_,rfl,rfl,_,rfl,GU (λe=>?_) λe=>?_⟩
    . have hpos:0<(kss.drop m).length:=by rw[<-hw4.dh];have:((xs.drop m).length:Int)>0:=e;show ACK.mp e
      show⟨_,rfl,_,rfl,_,⟨eo4,T.dq,T.cy,rfl⟩,_,rfl,d,_,rfl,Mi (k:=B9 z) ed4 (HX lk2 (by decide)),?_⟩;have ke:(Bp kvs' (B9 z) (.ref c)).map (·.1)=kvs'.map (·.1):=by rw[Ri,AFi hkm]
      show⟨_,_,_,Bp kvs' (B9 z) (.ref c),rfl,sx4.gu,Ac,Pe nd2,?_,λq hq'=>?_,λq hq' hn=>?_,λi hi hm=>?_⟩;. have:=AFj MD ke;rw[BB,BB]at this;simp_all
      . rw[tk];rcases Pc hq' with rfl|⟨h1,h2⟩;.show .inl ⟨Ea _ (Bt.mpr rfl),z,c,_,_,rfl,nex,by rw[AW ncd];show ec,hw4.ae tpu,List.ne_nil_of_length_pos hpos,sd2,pm2⟩
        . rcases a2 q h1 with⟨h3,h4⟩|⟨h3,h4⟩;.show .inl ⟨HU _ h3,row' h4⟩
          .show .inr ⟨λhm=>by rcases DN.mp hm with hm|hm;show h3 hm;show h2 (Bt.mp hm),h4⟩
      . rw[tk]at hn;show jQ (b2 q hq' λh=>hn (HU _ h)) λh=>hn (Ea _ (Bt.mpr h))
      . rw[ke];rw[tk]at hm;rcases DN.mp hm with hm|hm;.show c2 i hi hm
        .rw[Bt.mp hm];show hkm
    . have hz:kss.drop m=[]:=bP (by rw[<-hw4.dh];have:¬((xs.drop m).length:Int)>0:=e;show ACI.mp (MS e));show⟨_,rfl,_,⟨eo4,T.dq,T.cy,rfl⟩,d,rfl,.inl ⟨_,.inl ed4⟩,_,rfl,kvs',.inr z,_,ed4,rfl,hv,?_⟩;show⟨_,_,_,DX kvs' (B9 z),rfl,sx4.gu,Ac,U2 nd2,Ak (ZF ..) lk2,λq hq'=>?_,λq hq' hn=>?_,λi hi hm=>?_⟩
      . rw[tk];obtain⟨h1,h2⟩:=Tj.mp hq';rcases a2 q h1 with⟨h3,h4⟩|⟨h3,h4⟩;.show .inl ⟨HU _ h3,row' h4⟩
        .show .inr ⟨λhm=>by rcases DN.mp hm with hm|hm;show h3 hm;show h2 (Bt.mp hm),h4⟩
      . rw[tk]at hn;show Tj.mpr ⟨b2 q hq' λh=>hn (HU _ h),λh=>hn (Ea _ (Bt.mpr h))⟩
      . rw[tk]at hm;by_cases ez:(B9 i.2.1:AL)=B9 z
        . rw[hz]at pm2;have:=pm2.length_eq;have hmem:GZ i∈((Br le L).filter λi=>Ae (i.2.1=z)).map GZ:=BQ.mpr ⟨i,Dx.mpr ⟨hi,AFk (Hl ez)⟩,rfl⟩;have:=ACd hmem;simp_all
        . rcases DN.mp hm with hm|hm;. obtain⟨q,hq1,hq2⟩:_:=BQ.mp (c2 i hi hm);show BQ.mpr ⟨q,Tj.mpr ⟨hq1,by rw[hq2];show ez⟩,hq2⟩
          .show absurd (Bt.mp hm) ez
  . intro σ H2 hI;obtain⟨o2,o3,o4,kvs',rfl,sx2,ed2,nd2,lk2,a2,b2,c2⟩:_:=hI;have all:(kvs.map (·.1)).take (kvs.map λp=>Au p.1).length=kvs.map (·.1):=D7 (by rw[BB,BB];show Al _);rw[all]at a2 c2;have a3:∀q∈kvs',MV ex H2 (Br le L) q:=λq hq'=>by
      rcases a2 q hq' with⟨_,h⟩|⟨h1,h2⟩;.show h
      .show absurd (BQ.mpr ⟨q,h2,rfl⟩) h1
    have c3:∀i∈Br le L,(B9 i.2.1:AL)∈kvs'.map (·.1):=λi hi=>c2 i hi (hc i (Dx.mp hi).1);show k _ ((s1.x d).aa sx2) ⟨⟨dx,sx2 _ _ (λz=>by rw[z,ed]at eo;cases eo) (s1 _ _ eo)⟩,kvs',ed2,nd2,?_,a3,c3⟩;have:=jC (λi:AR=>(B9 i.2.1:AL)) (Br le L) (kvs'.map (·.1)) nd2 c3 λk hk=>by
      obtain⟨q,hq',rfl⟩:=BQ.mp hk;obtain⟨z,r,xs,kss,rfl,_,_,_,hne,_,pm⟩:=a3 q hq';have hlen:0<(((Br le L).filter λi=>Ae (i.2.1=z)).map GZ).length:=by rw[<-pm.length_eq];show List.length_pos_iff.mpr hne
      rw[BB]at hlen;obtain⟨i,hi⟩:=List.exists_mem_of_length_pos hlen;obtain⟨h1,h2⟩:=Dx.mp hi;show⟨i,h1,by change(B9 i.2.1:AL)=B9 z;rw[AFm h2]⟩
    rw[BB]at this;show this
def YU(D:CO):BG:=λU H Q _=>∃x J,U=[.ref x]/\H x=AA (.ins D.iz J [])/\∀d,H d=AF->Q .non (AO (AO H d (.dK [])) x (.ins D.iz J [("rows",.ref d)]))
theorem Xq(T:BR AH Af AN):T.kh.Ok BI P w Af base 1 (YU AN):=by show T.kh.ok λV _ _ _ _ _ U H W Q E h=>?_;obtain⟨x,J,rfl,e,k⟩:_:=h;show⟨_,(Ab (GP (AB 0) Pl rfl)),?_⟩;intro d D;show⟨x,_,J,[],rfl,by rw[AW (BE e D)];show e,T.dq,T.cy,by decide,k d D⟩
theorem XZ(Y:H x=AF)(V:H D=AF)(A:D≠x)(k:∀d H',Ah H H'->H d=AF->DE AN ex H' x d []->Q .non H'):YU AN [.ref x] (AO (AO H D (.own x)) x (.ins AN.iz D [])) Q E:=by
 show⟨x,D,rfl,Ac,λd J=>?_⟩;have U:=BE Ac J;rw[AW U.symm]at J;have W:D≠d:=λz=>by rw[z,Ac]at J;cases J
 rw[AW W.symm]at J;show k d _ (λb o e=>?_) J ⟨⟨D,Ac⟩,[],by rw[AW U.symm];show Ac,.nil,Al _,λq B=>(by cases B),λi Z=>by cases Z⟩;rw[AW (BE e Y),AW (BE e J),AW (BE e Y),AW (BE e V)];show e
structure DR(ad:CO)(ex:List AD)(H:AI)(j sl x0 x1 d0 d1:AD)(wi:Int)(L0 L1:List AR):Prop where
 bz:∃dx,H j=AA (.ins ad.iw dx [("within",.int wi),("sides",.ref sl)])bu:H sl=AA (.lst [.ref x0,.ref x1])s0:DE ad ex H x0 d0 L0
 s1:DE ad ex H x1 d1 L1
 ne:d0≠d1
 aeh:sl∉ex
theorem DR.ah(h:DR AN ex H j W Y Z U V wi D J)(s:Ah H H'):DR AN ex H' j W Y Z U V wi D J:=by obtain⟨⟨z,e⟩,A,C,r1,n,B⟩:_:=h;show⟨⟨z,s _ _ e⟩,s _ _ A,C.ah s,r1.ah s,n,B⟩
theorem DR.we(h:DR AN ex H j B C E Y Z wi U W)(e:H c=AA (.lst xs))(J:c∈ex):DR AN ex (AO H c o) j B C E Y Z wi U W:=by obtain⟨⟨F,D⟩,G,I,r1,n,A⟩:_:=h;show⟨⟨F,by rw[AW (λz=>by rw[z,e]at D;cases D)];show D⟩,by rw[AW (λz=>A (by rw[z];show J))];show G,I.we e J,r1.we e J,n,A⟩
def oX(J:CO):BG:=λA H Q _=>(JE λ(W:List AD)(j Z:AD)(Y:Int)=>IQ (A=[.ref j,.int Y]) (H j=AA (.ins J.iw Z [])) ((∀c∈W,∃o,H c=AA o)) (∀D z B C U V,Bk j H D->H U=AF->H V=AF->DR J W D j z B C U V Y [] []->Q .non D))
theorem kZ(T:BR AH Af AN):T.kc.Ok BI P w Af base 3 (oX AN):=by
 show T.kc.ok λnd _ _ _ _ _ hr H vs Q E h=>?_;obtain⟨ex,j,dx,wi,rfl,ej,hex,k⟩:_:=h;show⟨_,(Ag (GP (AB 0) (AB 1) rfl) (Ab (GP (AB 0) (Cy #v[X2 (Xq T) hr T.zy Js,X2 (Xq T) hr T.zy Js]) rfl))),?_⟩;show⟨j,_,dx,[],rfl,ej,T.de,T.da,by decide,?_⟩;generalize hH:AO H j _=H1;have x1':Bk j H H1:=by rw[<-hH];show((CA H).x j).gu
 have ej1:H1 j=AA (.ins AN.iw dx [("within",.int wi)]):=by rw[<-hH];show Ac
 intro x0 dx0 hx0 hdx0 hn0;show XZ (ex:=ex) hx0 hdx0 hn0 λd0 H2 s2 hd0 r0=>⟨rfl,?_⟩;intro x1 dx1 hx1 hdx1 hn1;show XZ (ex:=ex) hx1 hdx1 hn1 λd1 H3 s3 hd1 r1=>⟨rfl,?_⟩;show⟨Ba rfl,λsl hsl=>?_⟩;have s4:=CB (o:=.lst [.ref x0,.ref x1]) hsl;have esl:(AO H3 sl (.lst [.ref x0,.ref x1])) sl=AA _:=Ac;have nsl:sl∉ex:=λhm=>by
  obtain⟨o,ho⟩:=hex sl hm;by_cases z:sl=j;.rw[z,(s2.aa s3) _ _ ej1]at hsl;cases hsl
  .rw[(s2.aa s3) _ _ (x1' _ _ z ho)]at hsl;cases hsl
 generalize AO H3 sl _=H4 at s4 esl⊢;have s14:=(s2.aa s3).aa s4;have ej4:=s14 _ _ ej1;show⟨j,_,dx,_,rfl,ej4,T.de,T.dw,(by change 1<1000;decide),?_⟩;have r04:=r0.ah (s3.aa s4);have r14:=r1.ah s4;have up:∀{x d:AD},x≠j->DE AN ex H4 x d []->DE AN ex (AO H4 j (.ins AN.iw dx [("within",.int wi),("sides",.ref sl)])) x d []:=λhx r=>by show r.ae (λC dx fs e=>by rw[AW hx];show e) (λkvs e=>by rw[AW (λz=>by rw[z,ej4]at e;cases e)];show e) (λb xs _ e=>by rw[AW (λz=>by rw[z,ej4]at e;cases e)];show e) ((HP H4).gu ej4 λxs=>by intro z;cases z)
 have nx0:x0≠j:=λz=>by rw[z,ej1]at hx0;cases hx0
 have nx1:x1≠j:=λz=>by rw[z,s2 _ _ ej1]at hx1;cases hx1
 have nd01:d0≠d1:=λz=>by obtain⟨kvs,e,_⟩:=r0.av;rw[z,hd1]at e;cases e
 have fr:∀{d:AD},H1 d=AF->H d=AF:=λ{d}hd=>by cases q:H d with |none=>rfl|some o=>
   by_cases z:d=j;.rw[z,ej1]at hd;cases hd
   .rw[x1' _ _ z q]at hd;cases hd
 have hd11:=s2.au hd1;show k _ sl x0 x1 d0 d1 ((x1'.aa (s14.x j)).gu) (fr hd0) (fr hd11) ⟨⟨dx,Ac⟩,by rw[AW (λz=>by rw[z,ej4]at esl;cases esl)];show esl,up nx0 r04,up nx1 r14,nd01,nsl⟩
theorem DE.jm(h:DE AN ex H x d L)(Y:H l=AF):DE AN (l::ex) H x d L:=by obtain⟨o,V,Z,n,C,q,c⟩:_:=h;show⟨o,V,Z,n,C,λp B=>?_,c⟩;obtain⟨z,r,E,U,e,A,W,D⟩:_:=q p B;show⟨z,r,E,U,e,λJ=>by rcases CJ.mp J with rfl|J;rw[W]at Y;cases Y;show A J,W,D⟩
theorem DE.jz(h:DE AN (l::ex) H x d L):DE AN ex H x d L:=by obtain⟨o,U,V,n,A,q,c⟩:_:=h;show⟨o,U,V,n,A,λp Z=>?_,c⟩;obtain⟨z,r,B,J,e,Y,D⟩:_:=q p Z;show⟨z,r,B,J,e,λW=>Y (Ek _ W),D⟩
theorem DR.jz(h:DR AN (l::ex) H j W Y Z U V wi D J):DR AN ex H j W Y Z U V wi D J:=by obtain⟨o,z,C,r1,n,B⟩:_:=h;show⟨o,z,C.jz,r1.jz,n,λA=>B (Ek _ A)⟩
noncomputable def JK(i j:Int):Int:=if i<j then j else i
noncomputable def MZ(s:Int)(i j:AR):List AL:=[.inl (JK i.1 j.1),.inr i.2.1,.inl (if s=0 then i.2.2-j.2.2 else j.2.2-i.2.2)]
def pF:BG:=λJ H Q _=>(Kr λ(s:Int)(p q:AD)(i:AR)(t a:Int)=>IQ (J=[.int s,.ref p,.ref q]) (H p=AA (.tup ((ED i).map Au))) (H q=AA (.tup [.int t,.int a])) (∀D r,Ah H D->D r=AA (.tup ((MZ s i (t,i.2.1,a)).map Au))->Q (.ref r) D))
theorem lB(T:BR AH Af AN):T.uv.Ok BI P w Af base 1 pF:=by
 show T.uv.ok λF _ _ _ _ _ I H L Q E h=>?_;obtain⟨G,p,q,⟨Z,z,U⟩,t,a,rfl,D,J,k⟩:_:=h;have D:H p=AA (.tup [.int Z,.str z,.int U]):=D;show⟨_,(Ag (BD 3 F (Rt (BK Cp (AB 0) AM (BF _)) (Av AH (AB 1) AM) (Av AH (AB 2) AM))) (Ag (BD 4 F (Rt (BK Cp (AB 0) AM (BF _)) (Av AH (AB 2) AM) (Av AH (AB 1) AM))) (Ab (Aw (Cq #v[(Bw (RV rfl) (by rfl) T.yn Vw #v[Av AH (AB 1) AM,Av AH (AB 2) AM]),Av AH (AB 1) AM,AY Fv (AB 3) (AB 4)]))))),?_⟩;have A:∀{a b c:AE},DM [a,b,c] 0=AA a:=Ap (j:=0) rfl;have i1:∀{a b c:AE},DM [a,b,c] 1=AA b:=Ap (j:=1) rfl;have i2:∀{a b c:AE},DM [a,b,c] 2=AA c:=Ap (j:=2) rfl;have B:∀{a b:AE},DM [a,b] 0=AA a:=Ap (j:=0) rfl;have C:∀{a b:AE},DM [a,b] 1=AA b:=Ap (j:=1) rfl;have fin:∀{x y:Int},x-y=(if G=0 then U-a else a-U)->∀r,H r=AF->Q (.ref r) (AO H r (.tup [.int (if Z<t then t else Z),.str z,.int (x-y)])):=λ{x y}e r Y=>by show k _ r ((CA H).gu Y) ?_;rw[Ac,e];rfl
 show⟨rfl,_,rfl,C7 (λe=>?_) λe=>?_⟩;. show⟨_,_,Ar D,i2,rfl,_,rfl,C7 (λ_=>?_) λW=>absurd e W⟩;show⟨_,_,Ar J,C,_,_,Ar D,A,_,_,Ar J,B,_,_,Ar D,i1,Ba rfl,fin (by rw[AFi e])⟩
 . show⟨_,_,Ar J,C,rfl,_,rfl,C7 (λW=>absurd W e) λ_=>?_⟩;show⟨_,_,Ar D,i2,_,_,Ar D,A,_,_,Ar J,B,_,_,Ar D,i1,Ba rfl,fin (by rw[AFh e])⟩
noncomputable def GO(s wi:Int)(i:AR)(D:List AR):List (List AL):=(D.filter λj=>Ae (j.2.1=i.2.1/\i.1-wi<=j.1/\j.1<=i.1+wi)).map (MZ s i)
def oA(A:CO):BG:=λG H Q _=>(Sx λ(Z:List AD)(j B C E W Y p:AD)(z s:Int)(U V:List AR)(i:AR)=>Kq (G=[.ref j,.int s,.ref p]) (DR A Z H j B C E W Y z U V) ((s=0\/s=1)) ((∀c∈Z,∃o,H c=AA o)) (H p=AA (.tup ((ED i).map Au))) (U.length<=1000) (V.length<=1000) (∀J r F D,Bk (if s=0 then W else Y) H J->DR A (r::Z) J j B C E W Y z (if s=0 then U++[i]else U) (if s=0 then V else V++[i])->H r=AF->J r=AA (.lst F)->CY J F D->CZ D->D.Perm (GO s z i (if s=0 then V else U))->Q (.ref r) J))
theorem kG(T:BR AH Af AN):T.sj.Ok BI P w Af base 3 (oA AN):=by
  show T.sj.ok λnd _ _ _ _ _ hr H vs Q E h=>?_;obtain⟨ex,j,sl,x0,x1,d0,d1,p,wi,sd,L0,L1,i,rfl,jr,hs,hex,ep,l0,l1,k⟩:_:=h;show⟨_,(Ag (KY (i:=3) nd rfl (Fi rfl) (Hv (FR (Ly (K:=AH)) (Bq (Bj 0) rfl) (AY VD AM (Bj 1)) (λ_ _=>rfl)) T.dq (lH T) hr #v[(FR (JS (K:=AH)) (Bj 2) AM (λ_ _=>rfl)),(AY VD (FR (JS (K:=AH)) (Bj 2) AM (λ_ _=>rfl)) (Bq (Bj 0) rfl)),(AY Zp (FR (JS (K:=AH)) (Bj 2) AM (λ_ _=>rfl)) (Bq (Bj 0) rfl))])) (Ag (FT (Hv (FR (Ly (K:=AH)) (Bq (Bj 0) rfl) (Bj 1) (λ_ _=>rfl)) T.dq (lO T) hr #v[Bj 2])) (Ab (Aw (Bw (sZ (K:=AH)) (by rfl) T.gy NC #v[(Pk (osc:=CU YB) [("side",1),("item",2)] rfl (DI (K:=AH) (Bj 3)) rfl rfl (by decide+kernel) (by decide+kernel) (by decide+kernel) ⟨rfl,rfl,rfl,rfl,trivial⟩ rfl (by decide+kernel) (λ_ _ _ _=>Im) (λ_ _ _ _=>(Ax (lB T) hr #v[Bj 1,Bj 2,Bj 0])))]))))),?_⟩;have sz:Ay=16777216:=Dc;lk;obtain⟨dx,ej⟩:=jr.bz;obtain⟨t,z,a⟩:=i;k_in;have ep:H p=AA (.tup [.int t,.str z,.int a]):=ep;have i0:∀{a b c:AE},DM [a,b,c] 0=AA a:=Ap (j:=0) rfl;have i1:∀{a b c:AE},DM [a,b,c] 1=AA b:=Ap (j:=1) rfl;lk;obtain⟨xo,do',Lo,xs,ds,Ls,at1,at2,ro,rs,nds,lo',ls',fin⟩:∃(xo do':AD)(Lo:List AR)(xs ds:AD)(Ls:List AR),DM [AE.ref x0,.ref x1] (1-sd)=AA (.ref xo)/\DM [AE.ref x0,.ref x1] sd=AA (.ref xs)/\DE AN ex H xo do' Lo/\DE AN ex H xs ds Ls/\do'≠ds/\Lo.length<=1000/\Ls.length<=1000/\∀H' r xs' kss,Bk ds H H'->DE AN (r::ex) H' xs ds (Ls++[(t,z,a)])->DE AN (r::ex) H' xo do' Lo->H r=AF->H' r=AA (.lst xs')->CY H' xs' kss->CZ kss->kss.Perm (GO sd wi (t,z,a) Lo)->Q (.ref r) H':=by
    have ob:∀{H':AI}{d:AD}{kvs:List (AL×AE)},Bk d H H'->H d=AA (.dK kvs)->(∃dx,H' j=AA (.ins AN.iw dx [("within",.int wi),("sides",.ref sl)]))/\H' sl=AA (.lst [.ref x0,.ref x1]):=λsx e=>⟨⟨dx,sx _ _ (λz=>by rw[z,e]at ej;cases ej) ej⟩,sx _ _ (λz=>by have:=jr.bu;rw[z,e]at this;cases this) jr.bu⟩;have nsl:∀{r:AD},H r=AF->sl∉r::ex:=λhr0 hm=>by
      rcases CJ.mp hm with rfl|hm;.rw[jr.bu]at hr0;cases hr0
      .show jr.aeh hm
    rcases hs with rfl|rfl
    . show⟨x1,d1,L1,x0,d0,L0,Ap (j:=1) rfl,Ap (j:=0) rfl,jr.s1,jr.s0,jr.ne.symm,l1,l0,λH' r xs' kss sx r1 r2 hr0=>?_⟩;obtain⟨kvs,e,_⟩:=jr.s0.av;obtain⟨o1,o2⟩:=ob sx e;show k H' r xs' kss sx ⟨o1,o2,r1,r2,jr.ne,nsl hr0⟩ hr0
    . show⟨x0,d0,L0,x1,d1,L1,Ap (j:=0) rfl,Ap (j:=1) rfl,jr.s0,jr.s1,jr.ne,l0,l1,λH' r xs' kss sx r1 r2 hr0=>?_⟩;obtain⟨kvs,e,_⟩:=jr.s1.av;obtain⟨o1,o2⟩:=ob sx e;show k H' r xs' kss sx ⟨o1,o2,r2,r1,jr.ne,nsl hr0⟩ hr0
  obtain⟨dxo,eo⟩:=ro.bz;k_in;show⟨_,rfl,_,⟨ej,T.de,T.dw,rfl⟩,_,rfl,_,_,rfl,rfl,sl,_,_,_,rfl,rfl,AX jr.bu,at1,xo,dxo,_,rfl,eo,by rfl,?_⟩;show⟨_,rfl,p,_,_,_,rfl,rfl,Ar ep,i1,_,rfl,p,_,_,_,rfl,rfl,Ar ep,i0,_,rfl,_,⟨ej,T.de,T.da,rfl⟩,_,_,rfl,rfl,_,rfl,p,_,_,_,rfl,rfl,Ar ep,i0,_,rfl,_,⟨ej,T.de,T.da,rfl⟩,_,_,rfl,rfl,?_⟩;show⟨ex,xo,do',Lo,z,t-wi,t+wi,rfl,ro,lo',λH1 rm xm km s1 hrm em hwm sdm pmm=>?_⟩;have rs1:=rs.ah s1;obtain⟨dxs,es⟩:=rs1.bz;show⟨_,rfl,_,⟨s1 _ _ ej,T.de,T.dw,rfl⟩,_,rfl,sl,_,_,_,rfl,rfl,AX (s1 _ _ jr.bu),at2,xs,dxs,_,rfl,es,by rfl,?_⟩;show⟨_,rfl,ex,xs,ds,p,Ls,(t,z,a),rfl,rs1,(λc hc=>let⟨o,ho⟩:=hex c hc;⟨o,s1 _ _ ho⟩),s1 _ _ ep,ls',λH2 sx2 r2=>?_⟩;obtain⟨kvs,ekv,_⟩:_:=rs1.av;have em2:H2 rm=AA (.lst xm):=sx2 _ _ (λz=>by rw[z,ekv]at em;cases em) em;have tp2:By H1 H2:=sx2.tp ekv λxs=>by intro z;cases z
  have hwm2:=hwm.ae tp2;have ro2:=(ro.ah s1).yf sx2 ekv nds;have ep2:=tp2 _ _ (s1 _ _ ep);have lm:km.length<=1000:=by rw[pmm.length_eq,BB];show Ak (Ff _ _) lo'
  have lxm:=hwm.dh;show⟨_,rfl,rm,rfl,⟨_,AX em2⟩,?_⟩;show Ig (K:=AH) (xs:=xm) (λn τ acc H'=>(∃o,τ=[o,AA (.int sd),AA (.ref p)])/\Ah H2 H'/\CY H' acc ((km.take n).map λks=>match ks with|[.inl t',.inl a']=>MZ sd (t,z,a) (t',z,a')|_=>[])) (by lia) ⟨⟨AF,rfl⟩,CA _,Ju _⟩ (λn τ acc H'⟨_,s',_⟩=>AX (s' _ _ em2)) ?_ ?_
  . intro n y τ acc H3 R1 hy _ hI k1;lk;obtain⟨⟨o,rfl⟩,s3,hw3⟩:=hI;obtain⟨b,kk,rfl,ek,eb⟩:=hwm2.at hy;obtain⟨t',a',rfl⟩:=Mc pmm kk (Ct ek);k_in;show⟨_,rfl,_,rfl,_,rfl,sd,p,b,(t,z,a),t',a',rfl,s3 _ _ ep2,s3 _ _ eb,λH4 r s4 er=>k1 _ _ _ ⟨⟨_,rfl⟩,s3.aa s4,?_⟩⟩;rw[Dy,ek,DJ];show(hw3.ae s4.tp).yi er
  . intro τ acc H3 la hI D hD;obtain⟨_,s3,hw3⟩:_:=hI;rw[D7 (Bo lxm.symm)]at hw3;have s4:=CB (o:=.lst acc) hD;have eD:(AO H3 D (.lst acc)) D=AA (.lst acc):=Ac;generalize AO H3 D (.lst acc)=H4 at s4 eD⊢;have hw4:=hw3.ae s4.tp;have pmm2:ACT (km.map λks=>match ks with|[.inl t',.inl a']=>MZ sd (t,z,a) (t',z,a')|_=>[]) (GO sd wi (t,z,a) Lo):=by show(pmm.map _).trans (R7 ?_);rw[C8];rfl
    show⟨D,acc,_,rfl,AX eD,hw4.aab (sh:=[AJ,AQ,AJ]) (by simp) (λks hk=>?_),λl qs hl pq sq=>?_⟩
    . obtain⟨i',_,rfl⟩:_:=BQ.mp (pmm2.mem_iff.mp hk);rfl
    . obtain⟨g1,g2⟩:=hw4.acf pq;have s5:=s4.gu (o:=.lst (qs.map (·.1))) hl;have s25:=s3.aa s5;have hl0:H l=AF:=by
        have h2:=(s3.aa s4).au hl;have hne:l≠ds:=λz=>by obtain⟨kv2,e2,_⟩:=r2.av;rw[z,e2]at h2;cases h2
        cases q:H l with |none=>rfl|some o=>rw[sx2 _ _ hne (s1 _ _ q)]at h2;cases h2
      show fin _ l _ _ (((s1.x ds).aa sx2).aa (s25.x ds)) (((r2.ah (s3.aa s4)).jm hl).ah (CB hl)) (((ro2.ah (s3.aa s4)).jm hl).ah (CB hl)) hl0 Ac (g1.ae (CB hl).tp) sq (g2.trans pmm2)
theorem jX(a b:Int):JK a b=JK b a:=by unfold JK;split<;>split<;>lia
def GY(D J:AD)(H H':AI):Prop:=∀b o,b≠D->b≠J->H b=AA o->H' b=AA o
theorem GY.aa(a:GY D J H U)(b:GY D J U V):GY D J H V:=λc o n m e=>b c o n m (a c o n m e)
theorem YJ(s:Ah H H')(D J:AD):GY D J H H':=λb o _ _ e=>s b o e
theorem YK(s:Bk D H H'):GY D J H H':=λb o n _ e=>s b o n e
theorem YL(s:Bk D H H'):GY J D H H':=λb o _ n e=>s b o n e
theorem DR.xg(h:DR AN ex H j Z z A D J wi U V):(∃k0,H D=AA (.dK k0))/\∃k1,H J=AA (.dK k1):=by lk;obtain⟨k0,W,_⟩:=h.s0.av;obtain⟨k1,Y,_⟩:=h.s1.av;k_in;show⟨⟨k0,W⟩,k1,Y⟩
theorem DR.y(h:DR AN ex H j A B C D J wi V W)(s:GY D J H H')(e:H b=AA o)(U:∀kvs,o≠.dK kvs):H' b=AA o:=by obtain⟨⟨E,Y⟩,F,Z⟩:_:=h.xg;show s b o (λz=>by rw[z,Y]at e;show U _ (Bz e).symm) (λz=>by rw[z,Z]at e;show U _ (Bz e).symm) e
theorem DR.ads(h:DR AN ex H j Y Z A D J wi U V)(s:GY D J H H'):By H H':=λp B e=>h.y s e λW=>by intro z;cases z
theorem DR.yf{K:List AR}(h:DR AN ex H j Q R S A B wi I K)(g:DR AN ex H F V Y Z J U W M0 M1)(s:GY A B H H')(n0:J≠A/\J≠B)(G:U≠A/\U≠B):DR AN ex H' F V Y Z J U W M0 M1:=by
 have k:∀{b:AD}{o:Bg},H b=AA o->(∀D,o≠.dK _)->H' b=AA o:=λe N=>h.y s e N;obtain⟨⟨E,e⟩,L,P,r1,n,O⟩:_:=g;show⟨⟨E,k e (by intro D z;cases z)⟩,k L (by intro D z;cases z),?_,?_,n,O⟩;.show P.ae (λC E M e=>k e (by intro D z;cases z)) (λD e=>s _ _ n0.1 n0.2 e) (λb T _ e=>k e (by intro D z;cases z)) (h.ads s)
 .show r1.ae (λC E M e=>k e (by intro D z;cases z)) (λD e=>s _ _ G.1 G.2 e) (λb T _ e=>k e (by intro D z;cases z)) (h.ads s)
theorem DR.aek(h:DR AN ex H j Y U Z D W wi A V)(s:Bk D H H')(r:DE AN ex H' U D M):DR AN ex H' j Y U Z D W wi M V:=by lk;obtain⟨B,e⟩:=h.bz;obtain⟨C,J,_⟩:=h.s0.av;k_in;show⟨⟨B,s _ _ (λz=>by rw[z,J]at e;cases e) e⟩,s _ _ (λz=>by have:=h.bu;rw[z,J]at this;cases this) h.bu,r,h.s1.yf s J h.ne.symm,h.ne,h.aeh⟩
theorem DR.ael(h:DR AN ex H j Y Z U W D wi V A)(s:Bk D H H')(r:DE AN ex H' U D M):DR AN ex H' j Y Z U W D wi V M:=by lk;obtain⟨B,e⟩:=h.bz;obtain⟨C,J,_⟩:=h.s1.av;k_in;show⟨⟨B,s _ _ (λz=>by rw[z,J]at e;cases e) e⟩,s _ _ (λz=>by have:=h.bu;rw[z,J]at this;cases this) h.bu,h.s0.yf s J h.ne,r,h.ne,h.aeh⟩
theorem DR.aez{ex:List AD}{H H':AI}{j E F G D J:AD}{wi:Int}{Y Z M0 M1:List AR}(h:DR AN ex H' j E F G D J wi Y Z)(s:GY D J H H')(U:∀c∈ex,∃o,H c=AA o):∀c∈ex,∃o,H' c=AA o:=λc B=>by
  obtain⟨⟨I,z⟩,K,A⟩:_:=h.xg;by_cases V:c=D;.show⟨_,by rw[V];show z⟩
  . by_cases W:c=J;.show⟨_,by rw[W];show A⟩
    . obtain⟨o,C⟩:=U c B;show⟨o,s _ _ V W C⟩
def oW(A:CO):BG:=λF H Q _=>(WU λ(z:List AD)(j B C E Y Z:AD)(J D:Int)(V W:List AR)=>LW (F=[.ref j,.int D]) (DR A z H j B C E Y Z J V W) ((∀c∈z,∃o,H c=AA o)) (V.length<=1000) (W.length<=1000) (∀U,GY Y Z H U->DR A z U j B C E Y Z J (Br (D-J) V) (Br (D-J) W)->Q .non U))
theorem kY(T:BR AH Af AN):T.su.Ok BI P w Af base 3 (oW AN):=by
  show T.su.ok λv _ _ _ _ _ s H vs Q E h=>?_;obtain⟨O,j,g,A,B,L,M,f,W,G,I,rfl,a,S,t,u,k⟩:_:=h;show⟨_,(Ab (EG EN rfl (DI (K:=AH) (Bq (AB 0) rfl)) (EF 2 v) (Ab (FT (Hv (AB 2) T.dq (kJ T) s #v[AY Fv (AB 1) (Bq (AB 0) rfl)]))))),?_⟩;have sz:Ay=16777216:=Dc;obtain⟨x,p⟩:=a.bz;show⟨_,⟨p,T.de,T.dw,rfl⟩,g,rfl,⟨_,AX a.bu⟩,HQ (K:=AH) (xs:=[.ref A,.ref B]) (λn C F=>∃d:Option AE,C=[AA (.ref j),AA (.int W),d]/\GY L M H F/\DR AN O F j g A B L M f (if n=0 then G else Br (W-f) G) (if n<=1 then I else Br (W-f) I)) ⟨AF,rfl,λb o _ _ e=>e,a⟩ (λn C F _ q=>by obtain⟨_,_,_,c⟩:=q;show AX c.bu) ?_ ?_⟩
  . intro n y C i X R;lk;obtain⟨d,rfl,z,D⟩:=R;have r:n=0\/n=1:=by have:=(BV.mp X).1;simp at this;show cA.mp (b9 this)
    obtain⟨m,Y⟩:=D.bz;k_in;have J:=D.aez (M0:=[]) (M1:=[]) z S;rcases r with rfl|rfl;. lk;cases X;obtain⟨U,N⟩:=D.s0.bz;k_in;show⟨A,U,_,rfl,N,by rfl,_,⟨Y,T.de,T.da,rfl⟩,O,A,L,G,_,rfl,D.s0,J,t,λl Z r2=>⟨_,rfl,z.aa (YK Z),D.aek Z r2⟩⟩
    . lk;cases X;obtain⟨U,N⟩:=D.s1.bz;k_in;show⟨B,U,_,rfl,N,by rfl,_,⟨Y,T.de,T.da,rfl⟩,O,B,M,I,_,rfl,D.s1,J,u,λl Z r2=>⟨_,rfl,z.aa (YL Z),D.ael Z r2⟩⟩
  . intro C i R;obtain⟨d,rfl,z,D⟩:_:=R;show k _ z D
inductive AU where|take(n k:AG)|only(n a:AG)(lo hi:Int)|turn(n a:AG)(f g:Int)|both(n a b:AG)|join(n a b:AG)(wi:Int)|gap(n a s:AG)(m:Int)|each(n a s:AG)(sz st:Int)
noncomputable def AU.zx:AU->List AL|AU.take n k=>[.inr "take",.inr n,.inr k]|AU.only n a J D=>[.inr "only",.inr n,.inr a,.inl J,.inl D]|AU.turn n a f g=>[.inr "turn",.inr n,.inr a,.inl f,.inl g]|AU.both n a b=>[.inr "both",.inr n,.inr a,.inr b]|AU.join n a b W=>[.inr "join",.inr n,.inr a,.inr b,.inl W]|AU.gap n a s m=>[.inr "gap",.inr n,.inr a,.inr s,.inl m]|AU.each n a s V U=>[.inr "each",.inr n,.inr a,.inr s,.inl V,.inl U]
noncomputable def AU.gj:AU->AG|AU.take ..=>"take"|AU.only ..=>"only"|AU.turn ..=>"turn"|AU.both ..=>"both"|AU.join ..=>"join"|AU.gap ..=>"gap"|AU.each ..=>"each"
noncomputable def AU.nm:AU->AG|AU.take n _|AU.only n _ _ _|AU.turn n _ _ _|AU.both n _ _|AU.join n _ _ _|AU.gap n _ _ _|AU.each n _ _ _ _=>n
noncomputable def AU.bo:AU->List AG|AU.take ..=>[]|AU.only _ a _ _|AU.turn _ a _ _|AU.gap _ a _ _|AU.each _ a _ _ _=>[a]|AU.both _ a b|AU.join _ a b _=>[a,b]
noncomputable def AU.bj:AU->Bool|AU.gap ..|AU.each ..=>AJ|_=>AQ
noncomputable def AU.acx:AU->Int|AU.both ..|AU.join ..=>4|_=>3
noncomputable def AU.aei:AU->Bool|AU.both ..|AU.join ..=>AJ|_=>AQ
def DF(H:AI)(p:AD)(s:AU):Prop:=H p=AA (.tup (s.zx.map Au))
theorem DF.tp(h:DF H p s)(t:By H H'):DF H' p s:=t _ _ h
noncomputable def NN:List AE:=[.str "both",.str "join"]
noncomputable def HH:List AE:=[.str "each",.str "gap"]
theorem DF.gj(h:DF H p s):Cb AH H p (s.zx.map Au)/\DM (s.zx.map Au) 0=AA (.str s.gj)/\DM (s.zx.map Au) 1=AA (.str s.nm):=by show⟨Ar h,?_⟩;cases s<;>show⟨Ap rfl,Ap rfl⟩
theorem rS:∀st:AU,EY (.str st.gj) NN=st.aei|.take ..=>(by decide+kernel:EY (.str "take") _=false)|.only ..=>(by decide+kernel:EY (.str "only") _=false)|.turn ..=>(by decide+kernel:EY (.str "turn") _=false)|.both ..=>(by decide+kernel:EY (.str "both") _=true)|.join ..=>(by decide+kernel:EY (.str "join") _=true)|.gap ..=>(by decide+kernel:EY (.str "gap") _=false)|.each ..=>(by decide+kernel:EY (.str "each") _=false)
theorem Nf:∀st:AU,EY (.str st.gj) HH=st.bj|.take ..=>(by decide+kernel:EY (.str "take") _=false)|.only ..=>(by decide+kernel:EY (.str "only") _=false)|.turn ..=>(by decide+kernel:EY (.str "turn") _=false)|.both ..=>(by decide+kernel:EY (.str "both") _=false)|.join ..=>(by decide+kernel:EY (.str "join") _=false)|.gap ..=>(by decide+kernel:EY (.str "gap") _=true)|.each ..=>(by decide+kernel:EY (.str "each") _=true)
noncomputable def AU.no:AU->Nat|.take ..=>0|.only ..=>1|.turn ..=>2|.both ..=>3|.join ..=>4|.gap ..=>5|.each ..=>6
noncomputable def O5:List AG:=["take","only","turn","both","join","gap","each"]
theorem Yd(st:AU):O5[st.no]?=AA st.gj:=by cases st<;>rfl
theorem rR{st:AU}(Y:O5[i]?=AA z)(e:st.gj=z):st.no=i:=by
 have Z:O5.Nodup:=by decide+kernel
 have h:=Yd st;rw[e]at h;lk;obtain⟨U,D⟩:=BV.mp h;obtain⟨V,J⟩:=BV.mp Y;k_in;have W:=HV.mp Z;rcases cD _ i with q|q|q;.show absurd (D.trans J.symm) (W _ _ U V q)
 .show q
 .show absurd (J.trans D.symm) (W _ _ V U q)
theorem rQ{st:AU}(D:O5[i]?=AA z)(e:st.no≠i):st.gj≠z:=λq=>e (rR D q)
theorem KC{st:AU}{i:Nat}{z:AG}{A B:Prop}(D:O5[i]?=AA z)(J:st.no=i->A)(U:st.no≠i->B):if Ae (AE.str st.gj=AE.str z)=AJ then A else B:=by
  by_cases h:st.no=i
  . have e:=by have:=Yd st;rw[h,D]at this;show(Bz this).symm
    rw[AFi (by rw[e];show AFk rfl)];show J h
  . rw[AFh (by rw[AFo];showλq=>rQ D h (AE.str.inj q))];show U h
def oH:BG:=λD H Q _=>FD (λ(p:AD)(s:AU)=>D=[.ref p]) (λp s=>DF H p s) (λ_ s=>Q (.int s.acx) H)
theorem lE(T:BR AH Af AN):T.ue.Ok BI P w Af base 1 oH:=by
 show T.ue.ok λZ _ _ _ _ _ Y H z Q E h=>?_;obtain⟨p,D,rfl,e,k⟩:_:=h;show⟨_,(Ab (Aw (Rt (BK (Pf (K:=AH)) (Av AH (AB 0) AM) (JW (v:=.ref AN.vb) (by rfl) T.aap rfl) (by with_unfolding_all rfl)) AM AM))),?_⟩;obtain⟨U,V,W⟩:_:=e.gj;show⟨_,_,U,V,_,NN,rfl,.inr (T.aau H),rfl,rfl,_,rfl,?_⟩;have J:=rS D;show K8 (λq=>?_) λq=>?_
 . have q:EY (.str D.gj) NN=AJ:=q;rw[J]at q;cases D<;>first|show k|cases q
 . have q:EY (.str D.gj) NN=AQ:=q;rw[J]at q;cases D<;>first|show k|cases q
def pJ:BG:=λD H Q _=>FD (λ(p:AD)(s:AU)=>D=[.ref p]) (λp s=>DF H p s) (λ_ s=>Q (.str s.nm) H)
theorem lD(T:BR AH Af AN):T.vx.Ok BI P w Af base 1 pJ:=by show T.vx.ok λW _ _ _ _ _ V H Z Q E h=>?_;obtain⟨p,Y,rfl,e,k⟩:_:=h;show⟨_,(Ab (Aw (Av AH (AB 0) AM))),?_⟩;obtain⟨D,U,J⟩:_:=e.gj;show⟨_,_,D,J,k⟩
def qK:BG:=λD H Q _=>FD (λ(p:AD)(s:AU)=>D=[.ref p]) (λp s=>DF H p s) (λ_ s=>Q (.bl s.bj) H)
theorem Xl(T:BR AH Af AN):T.ud.Ok BI P w Af base 1 qK:=by show T.ud.ok λZ _ _ _ _ _ Y H z Q E h=>?_;obtain⟨p,D,rfl,e,k⟩:_:=h;show⟨_,(Ab (Aw (Ik (Pf (K:=AH)) (Av AH (AB 0) AM) (JW (v:=.ref AN.rg) (by rfl) T.aag rfl) (by with_unfolding_all rfl)))),?_⟩;obtain⟨J,U,W⟩:_:=e.gj;have V:=Nf D;show⟨_,_,J,U,_,HH,rfl,.inr (T.aal H),rfl,rfl,?_⟩;change Q (.bl (EY (.str D.gj) HH)) H;rw[V];show k
def oO:BG:=λJ H Q _=>FD (λ(p:AD)(s:AU)=>J=[.ref p]) (λp s=>DF H p s) (λ_ s=>∀l D,Ah H D->H l=AF->D l=AA (.lst (s.bo.map AE.str))->Q (.ref l) D)
theorem kO(T:BR AH Af AN):T.vw.Ok BI P w Af base 2 oO:=by
  show T.vw.ok λG _ _ _ _ _ B H L Q E h=>?_;obtain⟨p,D,rfl,e,k⟩:_:=h;show⟨_,(Ag (Bi (BK Cp (Av AH (AB 0) AM) BZ (BF _)) (Ab (Aw (Cy Eg))) Bs) (Ab (Aw (JV (Mq (K:=AH)) (by rfl) T.jc Ki #v[IC (VM (K:=AH)) (AB 0) (G5 AM) (G5 (Ax (lE T) B #v[AB 0]))])))),?_⟩;obtain⟨z,A,F⟩:_:=e.gj;show⟨_,_,z,A,rfl,_,rfl,KC (i:=0) rfl (λZ=>?_) λZ=>?_⟩
  . have U:D.bo=[]:=by cases D<;>first|rfl|cases Z
    show⟨Bd _,λl J=>k l _ ((CA H).gu J) J (by rw[U];show Ac)⟩
  . have U:Gw (D.zx.map Au) (AA 2) (AA D.acx)=D.bo.map AE.str:=by cases D<;>first|rfl|show absurd rfl Z
    show⟨_,rfl,p,D,rfl,e,_,rfl,p,_,rfl,z,?_,λC Y=>⟨C,_,rfl,.inr (Ar Ac),λl J=>k l _ (((CA H).gu Y).gu J) (by have W:=J;rw[AW (BE Ac W).symm]at J;show J) ?_⟩⟩
    . rintro⟨q,_⟩;have J:3<=(D.zx.map Au).length:=by cases D<;>show Ba rfl
      have I:=(gH (D.zx.map Au).length 0 2).symm.trans q;simp_all
    .rw[Ac,U]
theorem DR.jm(h:DR AN ex H j z A B W Y wi U V)(D:H l=AF):DR AN (l::ex) H j z A B W Y wi U V:=by obtain⟨o,Z,E,r1,n,C⟩:_:=h;show⟨o,Z,E.jm D,r1.jm D,n,λJ=>by rcases CJ.mp J with rfl|J;rw[Z]at D;cases D;show C J⟩
def GI(H:AI)(c:AD)(L:List AR):Prop:=∃D,H c=AA (.lst D)/\CY H D (L.map ED)
theorem GI.ae(h:GI H c L)(k:∀xs,H c=AA (.lst xs)->H' c=AA (.lst xs))(t:By H H'):GI H' c L:=by obtain⟨xs,e,w⟩:_:=h;show⟨xs,k _ e,w.ae t⟩
theorem i8(h:C0 i.2.1):Gy (ED i)=AJ/\Gy (HJ i)=AJ:=by have:=h.ok;simp[Gy,ED,HJ,Lz,this]
theorem jB{L:List AR}(h:∀i∈L,C0 i.2.1):∀ks∈L.map HJ,Gy ks=AJ:=λks J=>by obtain⟨j,D,rfl⟩:_:=BQ.mp J;show(i8 (h j D)).2
abbrev CL:=Int×AG×AG×Int
noncomputable def iV(e:CL):List AL:=[.inl e.1,.inr e.2.1,.inr e.2.2.1,.inl e.2.2.2]
noncomputable def Hr(e:CL):AR:=(e.1,e.2.2.1,e.2.2.2)
def Ks(H:AI)(p:AD)(e:CL):Prop:=H p=AA (.tup ((iV e).map Au))
theorem Jn(h:(AO H p o) l=AF):H l=AF:=by have D:=(BE Ac h).symm;rw[AW D]at h;show h
noncomputable def Nc(k:AG)(e:CL):List AR:=if e.2.1=k then[Hr e]else[]
def qI:BG:=λJ H Q _=>(IT λ(p q:AD)(n k:AG)(e:CL)=>IQ (J=[.ref p,.ref q]) (DF H p (.take n k)) (Ks H q e) (∀l D,Ah H D->H l=AF->GI D l (Nc k e)->Q (.ref l) D))
theorem lY(T:BR AH Af AN):T.zv.Ok BI P w Af base 1 qI:=by
 show T.zv.ok λC _ _ _ _ _ A H G Q E h=>?_;obtain⟨p,q,n,V,⟨t,B,z,W⟩,rfl,e,Z,k⟩:_:=h;show⟨_,(Ab (Aw (Rt (BK Cp (Av AH (AB 1) AM) (Av AH (AB 0) AM) (BF _)) (Cy #v[Cq #v[Av AH (AB 1) AM,Av AH (AB 1) AM,Av AH (AB 1) AM]]) (Cy Eg)))),?_⟩;have Y:Cb AH H p _:=Ar e;have J:Cb AH H q _:=Ar Z;show⟨_,_,J,Ap rfl,_,_,Y,Ap rfl,rfl,_,rfl,Rc (λh=>?_) λh=>?_⟩
 . show⟨_,_,J,Ap rfl,_,_,J,Ap rfl,_,_,J,Ap rfl,Ba rfl,λF U=>⟨Ba rfl,λl D=>k l _ (((CA H).gu U).gu D) (Jn D) ⟨_,Ac,?_⟩⟩⟩;rw[show Nc V _=[(t,z,W)]from AFi h];show(Ju _).yi (by rw[AW (BE Ac D)];show Ac)
 . show⟨Bd _,λl D=>k l _ ((CA H).gu D) D ⟨[],Ac,?_⟩⟩;rw[show Nc V _=[]from AFh h];show Ju _
noncomputable def RB(f g:Int)(i:AR):AR:=(i.1,i.2.1,i.2.2*f+g)
def qO:BG:=λJ H Q _=>(LY λ(p q:AD)(n a:AG)(f g:Int)(i:AR)=>Ee (J=[.ref p,.ref q]) (DF H p (.turn n a f g)) ((-100<=f/\f<=100)) (H q=AA (.tup ((ED i).map Au))) (∀r D,Ah H D->D r=AA (.tup ((ED (RB f g i)).map Au))->Q (.ref r) D))
theorem l7(T:BR AH Af AN):T.ya.Ok BI P w Af base 1 qO:=by
 show T.ya.ok λS _ _ _ _ _ R H X Q E h=>?_;obtain⟨p,q,n,a,f,g,⟨t,z,D⟩,rfl,e,⟨M,N⟩,Y,k⟩:_:=h;show⟨_,(Ab (Aw (AY (U8) (AY (U8) (IC (VM) (AB 1) JX (G5 AM)) (Cq #v[AY DH (AY Fe (Av AH (AB 1) AM) (Av AH (AB 0) AM)) (Av AH (AB 0) AM)])) (IC (VM) (AB 1) (G5 AM) JX)))),?_⟩;have O:Cb AH H q _:=Ar Y;show⟨_,rfl,q,_,rfl,O,(by change¬(CT 3 0 _=0/\CT 3 3 _=3);decide),λG Z=>?_⟩;have s1:=(CA H).gu (o:=.tup (Gw ((ED (t,z,D)).map Au) AF (AA 2))) Z;show⟨_,_,Ar (s1 _ _ Y),Ap rfl,_,_,Ar (s1 _ _ e),Ap rfl,.inr ⟨JC (by decide) M,HG N (by decide)⟩,_,_,Ar (s1 _ _ e),Ap rfl,Ba rfl,λI J=>?_⟩;have s2:=s1.gu (o:=.tup [AE.int (D*f+g)]) J;have B:=BE Ac J;show⟨G,I,_,_,rfl,rfl,Ar (by rw[AW B];show Ac),Ar Ac,(by intro h;cases h),Ba rfl,(λh=>by cases h),λ_ W A=>?_⟩;have s3:=s2.gu (o:=.tup [AE.int t,AE.str z,AE.int (D*f+g)]) A;show⟨_,rfl,q,_,rfl,Ar (s3 _ _ Y),(by change¬(CT 3 0 _=0/\CT 3 3 _=3);decide),λL U=>?_⟩;have s4:=s3.gu (o:=.tup (Gw ((ED (t,z,D)).map Au) (AA 3) AF)) U;have C:=BE Ac U;have F:(AO (AO (AO (AO H G (.tup [AE.int t,AE.str z])) I (.tup [AE.int (D*f+g)])) W (.tup [AE.int t,AE.str z,AE.int (D*f+g)])) L (.tup [])) W=AA (.tup [AE.int t,AE.str z,AE.int (D*f+g)]):=by rw[AW C];show Ac
 show⟨W,L,_,[],rfl,rfl,Ar F,Ar Ac,(by intro h;cases h),Ba rfl,λ_=>k W _ s4 F,λh=>absurd rfl h⟩
noncomputable def Kx:AU->List (List AR)->List AR|.only _ _ J D,[A]=>A.filter λi=>Ae (J<=i.2.2/\i.2.2<=D)|.turn _ _ f g,[A]=>A.map (RB f g)|.both ..,[A,B]=>A++B|.gap ..,[A]=>A|.each ..,[A]=>A|_,_=>[]
noncomputable def GJ:List AG:=["count","sum","least","greatest"]
def O2:AU->Prop|.turn _ _ f _=>-100<=f/\f<=100|.gap _ _ D m=>0<=m/\D∈GJ|.each _ _ D z d=>(1<=d/\d<=200000/\d<=z/\z<=4*d)/\D∈GJ|_=>True
def OY(H:AI)(J:List AE)(D:List (List AR)):Prop:=BW (λx L=>∃r,x=.ref r/\GI H r L) J D
theorem NR{l:List D}(e:l[n]?=AA x):(l.take (n+1)).filter p=(l.take n).filter p++(if p x=AJ then[x]else[]):=by rw[Dy,e,Gg];congr 1;change[x].filter p=_;rw[G7];cases p x<;>rfl
theorem T2{l:List D}(h:l.length=1):∃x,l=[x]:=List.length_eq_one_iff.mp h
theorem TL(h:OY H D [L]):∃r xs,D=[.ref r]/\H r=AA (.lst xs)/\CY H xs (L.map ED):=by cases h with|cons a b=>lk;cases b;obtain⟨r,rfl,xs,e,w⟩:=a;k_in;show⟨r,xs,rfl,e,w⟩
theorem rC{l:List D}(h:l.length=2):∃x y,l=[x,y]:=by match l,h with|[x,y],_=>show⟨x,y,rfl⟩
theorem Wm(h:OY H U [L,M]):∃r J xs D,U=[.ref r,.ref J]/\H r=AA (.lst xs)/\H J=AA (.lst D)/\CY H xs (L.map ED)/\CY H D (M.map ED):=by cases h with|cons a b=>cases b with|cons b c=>lk;cases c;obtain⟨r,rfl,xs,e,w⟩:=a;obtain⟨J,rfl,D,W,Y⟩:=b;k_in;show⟨r,J,xs,D,rfl,e,W,w,Y⟩
def pO:BG:=λY H Q _=>(IT λ(p W:AD)(s:AU)(U:List AE)(D:List (List AR))=>OX (Y=[.ref p,.ref W]) (DF H p s) (O2 s) (s.no≠0) (s.no≠4) (H W=AA (.lst U)) (OY H U D) (D.length=s.bo.length) ((∀L∈D,L.length<=1000)) (∀r J,Ah H J->GI J r (Kx s D)->(H r=AF\/AE.ref r∈U)->Q (.ref r) J))
theorem lK(T:BR AH Af AN):T.xu.Ok BI P w Af base 2 pO:=by
  show T.xu.ok λnd _ _ _ _ _ hr H vs Q E h=>?_;obtain⟨p,ls,st,rs,Ls,rfl,e,ok,n0,n4,els,cs,cl,cz,k⟩:_:=h;show⟨_,(Ag (Bi (BK Cp (FR (JS (K:=AH)) (Bj 0) AM (λ_ _=>rfl)) BZ (BF _)) (Ab (Aw (Pk (osc:=CU T7) [("step",0)] rfl (DI (K:=AH) (FR (Ly (K:=AH)) (Bj 1) AM (λ_ _=>rfl))) rfl rfl (by decide+kernel) (by decide+kernel) (by decide+kernel) ⟨rfl,rfl,trivial⟩ rfl (by decide+kernel) (λ_ _ _ _=>HS (xE VA VA (FR (JS (K:=AH)) (Bj 1) AM (λ_ _=>rfl)) (FR (JS (K:=AH)) (Bj 0) AM (λ_ _=>rfl)) (FR (JS (K:=AH)) (Bj 1) AM (λ_ _=>rfl)))) (λ_ _ _ _=>(Bj 0))))) Bs) (Ag (Bi (BK Cp (FR (JS (K:=AH)) (Bj 0) AM (λ_ _=>rfl)) BZ (BF _)) (Ab (Aw (Pk (osc:=CU T7) [("step",0)] rfl (DI (K:=AH) (FR (Ly (K:=AH)) (Bj 1) AM (λ_ _=>rfl))) rfl rfl (by decide+kernel) (by decide+kernel) (by decide+kernel) ⟨rfl,rfl,trivial⟩ rfl (by decide+kernel) (λ_ _ _ _=>Im) (λ_ _ _ _=>(Ax (l7 T) hr #v[Bj 1,Bj 0]))))) Bs) (Ag (Bi (BK Cp (FR (JS (K:=AH)) (Bj 0) AM (λ_ _=>rfl)) BZ (BF _)) (Ab (Aw (AY Jr (FR (Ly (K:=AH)) (Bj 1) AM (λ_ _=>rfl)) (FR (Ly (K:=AH)) (Bj 1) AM (λ_ _=>rfl))))) Bs) (Ab (Aw (FR (Ly (K:=AH)) (Bj 1) AM (λ_ _=>rfl))))))),?_⟩;have sz:Ay=16777216:=Dc;obtain⟨e0,e1,e2⟩:_:=e.gj;show⟨_,rfl,p,_,_,_,rfl,rfl,e0,e1,rfl,_,rfl,KC (i:=1) rfl (λq1=>?_) λq1=>?_⟩
  . lk;obtain⟨n,a,lo,hi,rfl⟩:∃n a lo hi,st=.only n a lo hi:=by cases st<;>first|show⟨_,_,_,_,rfl⟩|cases q1
    obtain⟨L,rfl⟩:=T2 cl;obtain⟨r,xs,rfl,er,hw⟩:=TL cs;k_in;have hL:=cz L (.head _);have hx:=hw.dh;rw[BB]at hx;show⟨_,rfl,ls,_,_,_,rfl,rfl,AX els,Ap (j:=0) rfl,r,rfl,⟨_,AX er⟩,?_⟩;show Mr (K:=AH) (xs:=xs) (λm τ acc H'=>(∃o,τ=[o,AA (.ref p)])/\H'=H/\CY H acc (((L.take m).filter λi=>Ae (lo<=i.2.2/\i.2.2<=hi)).map ED)) (by lia) ⟨⟨AF,rfl⟩,rfl,Ju _⟩ (λm τ acc H'⟨_,e,_⟩=>by rw[e];show AX er) ?_ ?_
    . intro m y τ acc H' R1 R0 hy _ hI k1 k0;lk;obtain⟨⟨o,rfl⟩,rfl,hp⟩:=hI;obtain⟨b,ks,rfl,ek,eb⟩:=hw.at hy;rw[CD]at ek;obtain⟨⟨t,z,am⟩,ei,rfl⟩:=EI.mp ek;k_in;have fs:=NR (p:=λi:AR=>Ae (lo<=i.2.2/\i.2.2<=hi)) ei;show⟨_,rfl,p,_,_,_,rfl,rfl,e0,Ap (j:=3) rfl,_,rfl,b,_,_,_,rfl,rfl,Ar eb,Ap (j:=2) rfl,_,_,rfl,rfl,_,rfl,?_⟩;have no:¬(lo<=am/\am<=hi)->CY H' acc (((L.take (m+1)).filter λi=>Ae (lo<=i.2.2/\i.2.2<=hi)).map ED):=λq=>by rw[fs,AFh (by rw[AFo];show q),Ew];show hp
      show GU (λh1=>?_) λh1=>⟨_,rfl,Ce (k0 _ _ ⟨⟨_,rfl⟩,rfl,no λq=>h1 q.1⟩)⟩;show⟨_,rfl,p,_,_,_,rfl,rfl,e0,Ap (j:=4) rfl,_,_,rfl,rfl,_,rfl,GU (λh2=>?_) λh2=>k0 _ _ ⟨⟨_,rfl⟩,rfl,no λq=>h2 q.2⟩⟩;show⟨_,rfl,k1 _ _ _ ⟨⟨_,rfl⟩,rfl,?_⟩⟩;rw[fs,AFi (by rw[AFo];show⟨h1,h2⟩),DJ];show hp.yi eb
    . intro τ acc H' la hI D hD;obtain⟨_,rfl,hp⟩:_:=hI;rw[D7 (Bo hx.symm)]at hp;show k D _ ((CA _).gu hD) ⟨_,Ac,hp.ae ((CA _).gu hD).tp⟩ (.inl hD)
  . show⟨_,rfl,p,_,_,_,rfl,rfl,e0,e1,rfl,_,rfl,KC (i:=2) rfl (λq2=>?_) λq2=>?_⟩
    . lk;obtain⟨n,a,f,g,rfl⟩:∃n a f g,st=.turn n a f g:=by cases st<;>first|show⟨_,_,_,_,rfl⟩|cases q2
      obtain⟨L,rfl⟩:=T2 cl;obtain⟨r,xs,rfl,er,hw⟩:=TL cs;k_in;have hL:=cz L (.head _);have hx:=hw.dh;rw[BB]at hx;show⟨_,rfl,ls,_,_,_,rfl,rfl,AX els,Ap (j:=0) rfl,r,rfl,⟨_,AX er⟩,?_⟩;show Ig (K:=AH) (xs:=xs) (λm τ acc H'=>(∃o,τ=[o,AA (.ref p)])/\Ah H H'/\CY H' acc (((L.take m).map (RB f g)).map ED)) (by lia) ⟨⟨AF,rfl⟩,CA _,Ju _⟩ (λm τ acc H'⟨_,s,_⟩=>AX (s _ _ er)) ?_ ?_
      . intro m y τ acc H' R1 hy _ hI k1;lk;obtain⟨⟨o,rfl⟩,s,hp⟩:=hI;obtain⟨b,ks,rfl,ek,eb⟩:=hw.at hy;rw[CD]at ek;obtain⟨i,ei,rfl⟩:=EI.mp ek;k_in;show⟨_,rfl,_,rfl,p,b,n,a,f,g,i,rfl,s _ _ e,ok,s _ _ eb,λr2 H2 s2 e2=>k1 _ _ _ ⟨⟨_,rfl⟩,s.aa s2,?_⟩⟩;rw[Dy,ei,DJ,DJ];show(hp.ae s2.tp).yi e2
      . intro τ acc H' la hI D hD;obtain⟨_,s,hp⟩:_:=hI;rw[D7 (Bo hx.symm)]at hp;show k D _ (s.gu hD) ⟨_,Ac,hp.ae ((CA _).gu hD).tp⟩ (.inl (s.au hD))
    . show⟨_,rfl,p,_,_,_,rfl,rfl,e0,e1,rfl,_,rfl,KC (i:=3) rfl (λq3=>?_) λq3=>?_⟩
      . lk;obtain⟨n,a,b,rfl⟩:∃n a b,st=.both n a b:=by cases st<;>first|show⟨_,_,_,rfl⟩|cases q3
        obtain⟨L,M,rfl⟩:=rC cl;obtain⟨r,r',xs,xs',rfl,er,er',hw,hw'⟩:=Wm cs;k_in;have hL:=cz L (.head _);have hM:=cz M (.tail _ (.head _));have hx:=hw.dh;have hx':=hw'.dh;rw[BB]at hx hx';show⟨_,rfl,ls,_,_,_,rfl,rfl,AX els,Ap (j:=0) rfl,_,rfl,ls,_,_,_,rfl,rfl,AX els,Ap (j:=1) rfl,r,r',xs,xs',rfl,rfl,er,er',by lia,λD hD=>k D _ ((CA _).gu hD) ⟨_,Ac,?_⟩ (.inl hD)⟩;change CY _ _ ((L++M).map ED);rw[DJ];show CY.ae (Eh hw hw') ((CA _).gu hD).tp
      . have n1:st.bo.length=1/\∀L,Kx st [L]=L:=by cases st<;>first|show⟨rfl,λ_=>rfl⟩|show absurd rfl n0|show absurd rfl q1|show absurd rfl q2|show absurd rfl q3|show absurd rfl n4
        lk;obtain⟨L,rfl⟩:=T2 (cl.trans n1.1);obtain⟨r,xs,rfl,er,hw⟩:=TL cs;k_in;show⟨_,rfl,ls,_,_,_,rfl,rfl,AX els,Ap (j:=0) rfl,k r _ (CA _) (by rw[n1.2];show⟨_,er,hw⟩) (.inr (Bt.mpr rfl))⟩
noncomputable def GL(wi:Int)(A B:List AR):List (List AL):=A.flatMap λi=>GO 0 wi i B
theorem XW(s wi:Int)(i:AR)(A B:List AR):GO s wi i (A++B)=GO s wi i A++GO s wi i B:=by unfold GO;rw[Gg,DJ]
theorem iK(wi:Int)(A B:List AR)(i:AR):GL wi (A++[i]) B=GL wi A B++GO 0 wi i B:=by unfold GL;simp
theorem W4(f g:D->List J):∀l:List D,(l.flatMap λx=>f x++g x).Perm (l.flatMap f++l.flatMap g)|[]=>.nil|a::l=>by simp only[F0];show((AEn _).append (W4 f g l)).trans ?_;rw[Ei,Ei];show AAC _ ?_;rw[<-Ei,<-Ei];show ACU _ P0
theorem Ws(wi:Int)(i:AR):∀A:List AR,(A.flatMap λj=>GO 0 wi j [i])=GO 1 wi i A
 |[]=>rfl|j::A=>by
  rw[F0,Ws wi i A];change _=GO 1 wi i ([j]++A);rw[XW];congr 1;unfold GO;rw[G7,G7];by_cases h:j.2.1=i.2.1/\i.1-wi<=j.1/\j.1<=i.1+wi
  . rw[AFi (AFk h),AFi (AFk ⟨h.1.symm,gS.mpr h.2.2,gS.mp h.2.1⟩)];change[MZ 0 j i]=[MZ 1 i j];unfold MZ;rw[jX,h.1];simp
  . rw[AFh (λq=>h (by have:=AFm q;show⟨this.1.symm,by lia,by lia⟩)),AFh (by simpa using h)];rfl
theorem iL(wi:Int)(A B:List AR)(i:AR):(GL wi A (B++[i])).Perm (GL wi A B++GO 1 wi i A):=by unfold GL;rw[<-Ws];show VZ (R7 ?_) (W4 _ _ A);congr 1;funext j;show XW ..
theorem Wr(wi:Int)(A B:List AR):(GL wi A B).length<=A.length*B.length:=by unfold GL;induction A with|nil=>simp|cons i A D=>
 rw[F0,CI,M3];have:(GO 0 wi i B).length<=B.length:=by unfold GO;rw[BB];show Ff _ _
 lia
def oY(C:CO):BG:=λM H Q _=>(WW λ(z:List AD)(j G I K Y Z E F r1:AD)(W:Int)(J U A B:List AR)=>Qg (M=[.ref j,.ref E]) (DR C z H j G I K Y Z W J U) ((∀c∈z,∃o,H c=AA o)) (H E=AA (.lst [.ref F,.ref r1])) (GI H F A) (GI H r1 B) (J.length+A.length<=700) (U.length+B.length<=700) (∀D m L V,GY Y Z H D->DR C z D j G I K Y Z W (J++A) (U++B)->H m=AF->D m=AA (.lst L)->CY D L V->(GL W (J++A) (U++B)).Perm (GL W J U++V)->Q (.ref m) D))
theorem k6(T:BR AH Af AN):T.xp.Ok BI P w Af base 4 (oY AN):=by
  show T.xp.ok λnd _ _ _ _ _ hr H vs Q E h=>?_;obtain⟨ex,j,sl,x0,x1,d0,d1,ls,r0,r1,wi,L0,L1,C,B,rfl,jr,hex,els,⟨xa,ea,wa⟩,⟨xb,eb,wb⟩,l0,l1,k⟩:_:=h;show⟨_,(Ag (KY (i:=2) nd rfl (Fi rfl) (Cy Eg)) (Ag (EG EN rfl (Mx (K:=AH) (by rfl) T.fo (Bj 1)) (NW rfl (G1 (Il (i:=3) nd rfl (Fi rfl)) (G1 (Il (i:=4) nd rfl (Fi rfl)) L8))) (Ab (EG EN rfl (DI (K:=AH) (Bj 4)) (Il (i:=5) nd rfl (Fi rfl)) (Ab (FT (Mw (K:=AH) QA SU V2 Pd (Bj 2) #v[Hv (Bj 0) T.de (kG T) hr #v[Bj 3,Bj 5]])))))) (Ab (Aw (Bj 2))))),?_⟩;have sz:Ay=16777216:=Dc;show⟨Bd _,λu hu=>?_⟩;have s0:=CB (o:=.lst []) hu;have eu0:(AO H u (.lst [])) u=AA (.lst []):=Ac;generalize AO H u (.lst [])=H0 at s0 eu0⊢;have sx:∀{n:Nat}{x:AE},[AE.ref r0,AE.ref r1][n]?=AA x->n<=1/\∃r xs,x=.ref r/\H r=AA (.lst xs)/\CY H xs ((if n=0 then C else B).map ED):=λ{n x}e=>by match n,e with |0,e=>cases e;show⟨by decide,r0,xa,rfl,ea,wa⟩|1,e=>cases e;show⟨by decide,r1,xb,rfl,eb,wb⟩
  have bnd:∀(X Y:List AR)(kss:List (List AL)),X.length<=700->Y.length<=700->(GL wi X Y).Perm (GL wi L0 L1++kss)->kss.length<=490000:=λX Y kss hX hY pm=>by have h1:=pm.length_eq;rw[CI]at h1;have h2:=Wr wi X Y;have h3:=cF hX hY;lia
  show⟨_,rfl,ls,rfl,⟨_,AX (s0 _ _ els)⟩,Uk (K:=AH) (xs:=[.ref r0,.ref r1]) (λn σ H'=>(IT λ(o3 o4 o5:Option AE)(acc:List AE)(kss:List (List AL))=>LW (σ=(Wh j ls u o3 o4 o5)) (GY d0 d1 H H') (DR AN (u::ex) H' j sl x0 x1 d0 d1 wi (L0++(if n=0 then[]else C)) (L1++(if n<=1 then[]else B))) (H' u=AA (.lst acc)) (CY H' acc kss) ((GL wi (L0++(if n=0 then[]else C)) (L1++(if n<=1 then[]else B))).Perm (GL wi L0 L1++kss)))) ⟨AF,AF,AF,[],[],rfl,YJ s0 _ _,by simpa using(jr.jm hu).ah s0,eu0,Ju _,by simp⟩ (λn σ H' _ hh=>by obtain⟨_,_,_,_,_,_,s',_⟩:=hh;show AX (jr.y s' els (by intro kvs z;cases z))) ?_ ?_⟩
  . intro n x σ H1 p hx hI hp;lk;obtain⟨o3,o4,o5,acc,kss,rfl,s1,jr1,eu,hw1,pm1⟩:=hI;obtain⟨n1,r,xs,rfl,er,hw⟩:=sx hx;k_in;have s2:=CB (o:=.tup [.int (n:Int),.ref r]) hp;have lx:=hw.dh;rw[BB]at lx;show⟨p,_,rfl,Ar Ac,rfl,_,_,rfl,_,_,rfl,rfl,?_⟩;show⟨_,rfl,r,rfl,⟨_,AX (s2 _ _ (jr.y s1 er (by intro kvs z;cases z)))⟩,HQ (K:=AH) (xs:=xs) (λm σ H'=>(ER λ(o5:Option AE)(acc:List AE)(kss:List (List AL))=>LW (σ=(Wh j ls u (AA (.int (n:Int))) (AA (.ref r)) o5)) (GY d0 d1 H H') (DR AN (u::ex) H' j sl x0 x1 d0 d1 wi (L0++(if n=0 then C.take m else C)) (L1++(if n=0 then[]else B.take m))) (H' u=AA (.lst acc)) (CY H' acc kss) ((GL wi (L0++(if n=0 then C.take m else C)) (L1++(if n=0 then[]else B.take m))).Perm (GL wi L0 L1++kss)))) ⟨_,acc,kss,rfl,s1.aa (YJ s2 _ _),?_,s2 _ _ eu,hw1.ae s2.tp,?_⟩ (λm σ H' _ hh=>by obtain⟨_,_,_,_,s',_⟩:=hh;show AX (jr.y s' er (by intro kvs z;cases z))) ?_ ?_⟩
    . have j2:=jr1.ah s2;by_cases hn:n=0;.subst hn;simpa using j2
      . have:n=1:=Fh n1 (Kg.mpr hn);subst this;simpa using j2
    . by_cases hn:n=0;.subst hn;simpa using pm1
      . have:n=1:=Fh n1 (Kg.mpr hn);subst this;simpa using pm1
    . intro m y σ H2 hy hI;lk;obtain⟨o5,acc,kss,rfl,sy,jr2,eu2,hw2,pm2⟩:=hI;obtain⟨b,ks,rfl,ek,eb2⟩:=hw.at hy;rw[CD]at ek;obtain⟨it,ei,rfl⟩:=EI.mp ek;obtain⟨dx,ej⟩:=jr2.bz;k_in;have hl0:(L0++(if n=0 then C.take m else C)).length<=700:=by
        rw[CI];split;.rw[Ej];lia
        .show l0
      have hl1:(L1++(if n=0 then[]else B.take m)).length<=700:=by
        rw[CI];split;.simp;show D8 l1
        .rw[Ej];lia
      have lacc:acc.length<=490000:=by rw[hw2.dh];show bnd _ _ _ hl0 hl1 pm2
      have h01:(n:Int)=0\/(n:Int)=1:=by lia
      have hex2:∀c∈u::ex,∃o,H2 c=AA o:=λc hc=>by
        rcases CJ.mp hc with rfl|hc;.show⟨_,eu2⟩
        . obtain⟨o,eo⟩:=hex c hc;obtain⟨⟨k0,g0⟩,k1,g1⟩:=jr2.xg;by_cases q0:c=d0;.rw[q0];show⟨_,g0⟩
          . by_cases q1:c=d1;.rw[q1];show⟨_,g1⟩
            .show⟨_,sy c o q0 q1 eo⟩
      show⟨_,rfl,.inl ⟨rfl,_,AX eu2⟩,_,rfl,j,dx,_,rfl,ej,by rfl,_,rfl,_,rfl,u::ex,j,sl,x0,x1,d0,d1,b,wi,(n:Int),_,_,it,rfl,jr2,h01,hex2,jr.ads sy _ _ eb2,Ak hl0 (by decide),Ak hl1 (by decide),λH3 r3 xr kr sx3 jr3 hr3 er3 hwr sdr pmr=>?_⟩;have sy3:GY d0 d1 H2 H3:=by
        rcases h01 with e|e;.rw[AFi e]at sx3;show YK sx3
        .rw[AFh (by simp_all)]at sx3;show YL sx3
      have eu3:=jr2.y sy3 eu2 (by intro kvs z;cases z);have hw3:=hw2.ae (jr2.ads sy3);have lr:xr.length<=700:=by
        rw[hwr.dh,pmr.length_eq];unfold GO;rw[BB];show Ak (Ff _ _) ?_;split;.show hl1
        .show hl0
      show⟨u,r3,_,_,rfl,rfl,eu3,er3,by lia,?_⟩;have tpu:By H3 (AO H3 u (.lst (acc++xr))):=(HP H3).gu eu3 λxs=>by intro z;cases z
      have j4:=(jr3.jz).we (o:=.lst (acc++xr)) eu3 (.head _);have tk:(L0++(if n=0 then C.take (m+1)else C))=(if(n:Int)=0 then(L0++(if n=0 then C.take m else C))++[it]else(L0++(if n=0 then C.take m else C)))/\(L1++(if n=0 then[]else B.take (m+1)))=(if(n:Int)=0 then(L1++(if n=0 then[]else B.take m))else(L1++(if n=0 then[]else B.take m))++[it]):=by
        by_cases hn:n=0
        . subst hn;have ei:C[m]?=AA it:=ei;simp[Dy,ei]
        . have:n=1:=Fh n1 (Kg.mpr hn);subst this;have ei:B[m]?=AA it:=ei;simp[Dy,ei]
      show⟨_,acc++xr,kss++kr,rfl,λc o q0 q1 e=>?_,by rw[tk.1,tk.2];show j4,Ac,CY.ae (Eh hw3 hwr) tpu,?_⟩
      . have hc:c≠u:=λz=>by rw[z,hu]at e;cases e
        rw[AW hc];show(sy.aa sy3) c o q0 q1 e
      . rw[tk.1,tk.2,<-Ei];rcases h01 with e|e
        . rw[AFi e]at pmr;rw[AFi e,AFi e];rw[e]at pmr;rw[iK];show pm2.append pmr.symm
        . rw[AFh (by simp_all)]at pmr;rw[AFh (show¬(n:Int)=0 by simp_all),AFh (show¬(n:Int)=0 by simp_all)];rw[e]at pmr;show(iL ..).trans (pm2.append pmr.symm)
    . intro σ H2 hI;obtain⟨o5,acc,kss,rfl,sy,jr2,eu2,hw2,pm2⟩:_:=hI;have tk:(L0++(if n=0 then C.take xs.length else C))=(L0++(if n+1=0 then[]else C))/\(L1++(if n=0 then[]else B.take xs.length))=(L1++(if n+1<=1 then[]else B)):=by
        by_cases hn:n=0
        . subst hn;rw[AFi rfl]at lx;simp[lx]
        . have:n=1:=Fh n1 (Kg.mpr hn);subst this;rw[AFh (by decide)]at lx;simp[lx]
      rw[tk.1,tk.2]at jr2 pm2;show⟨_,_,_,acc,kss,rfl,sy,jr2,eu2,hw2,pm2⟩
  . intro σ H1 hI;obtain⟨o3,o4,o5,acc,kss,rfl,s1,jr1,eu,hw1,pm1⟩:_:=hI;show⟨_,rfl,k H1 u acc kss s1 (by simpa using jr1.jz) hu eu hw1 (by simpa using pm1)⟩
noncomputable def Xd(i j:AR):AR:=(JK i.1 j.1,i.2.1,i.2.2-j.2.2)
noncomputable def Ku(wi:Int)(i j:AR):Bool:=Ae (j.2.1=i.2.1/\i.1-wi<=j.1/\j.1<=i.1+wi)
noncomputable def DK(wi:Int)(A B:List AR):List AR:=A.flatMap λi=>(B.filter (Ku wi i)).map (Xd i)
theorem TN(wi:Int)(A B:List AR):GL wi A B=(DK wi A B).map ED:=by unfold GL DK GO;rw[bT];congr 1;funext i;rw[C8];rfl
noncomputable def O3:List AL->AR|[.inl t,.inr z,.inl a]=>(t,z,a)|_=>(0,"",0)
theorem rD(i:AR):O3 (ED i)=i:=rfl
noncomputable def Ef(s:AU)(L:AG->List AR)(evs:List CL):List AR:=match s with|.take _ k=>(evs.filter λe=>Ae (e.2.1=k)).map Hr|.only _ a J D=>(L a).filter λi=>Ae (J<=i.2.2/\i.2.2<=D)|.turn _ a f g=>(L a).map (RB f g)|.both _ a b=>L b++L a|.join _ a b U=>DK U (L a) (L b)|.gap ..|.each ..=>[]
def GH(s:AU)(bt:AG->List AR)(S:List AR×List AR)(e:CL):Prop:=match s with|.take n k=>bt n=Nc k e|.join n a b D=>(DK D (S.1++bt a) (S.2++bt b)).Perm (DK D S.1 S.2++bt n)|.only n a U J=>bt n=Kx (.only n a U J) [bt a]|.turn n a f g=>bt n=Kx (.turn n a f g) [bt a]|.both n a b=>bt n=bt a++bt b|.gap n a _ _=>bt n=bt a|.each n a _ _ _=>bt n=bt a
theorem W5(f g:D->List J)(h:∀x,(f x).Perm (g x)):∀l:List D,(l.flatMap f).Perm (l.flatMap g)|[]=>.nil|x::r=>by show(h x).append (W5 f g h r)
theorem TQ(p:A.Perm D)(q:B.Perm J):(DK wi A B).Perm (DK wi D J):=(p.flatMap_right _).trans (W5 _ _ (λi=>(q.filter _).map _) D)
theorem iN:DK wi (A++C) B=DK wi A B++DK wi C B:=ACZ
theorem Qn:∀{A:List AR},(DK wi A (B++D)).Perm (DK wi A B++DK wi A D)|[]=>.nil|i::A=>by have J:=Qn (wi:=wi) (B:=B) (D:=D) (A:=A);unfold DK at J⊢;rw[F0,F0,F0,Gg,DJ];show(AEm (.refl _) J).trans ?_;rw[Ei,Ei];show .append (.refl _) ?_;rw[<-Ei,<-Ei];show P0.append (.refl _)
theorem Wv(h:∀y∈D,now<=y.1):∀A:List AR,DK wi (Br (now-wi) A) D=DK wi A D
  |[]=>rfl|i::A=>by
    have J:=Wv (wi:=wi) h A;unfold DK Br at J⊢;rw[G7];split;.rw[F0,F0,J]
    . rename_i q;have e:D.filter (Ku wi i)=[]:=MC.mpr λy U z=>by obtain⟨_,_,z⟩:=AFm z;have:=h y U;rw[AFo]at q;show absurd (gS.mpr (Eo this z)) q
      rw[F0,e,J];rfl
theorem Ww:∀{C:List AR},(∀y∈C,now<=y.1)->DK wi C (Br (now-wi) B)=DK wi C B
 |[],_=>rfl|i::C,h=>by
  have D:=Ww (wi:=wi) (B:=B) λy J=>h y (.tail _ J);unfold DK Br at D⊢;rw[F0,F0,D,KZ];have e:(B.filter λa=>Ku wi i a&&Ae _)=B.filter (Ku wi i):=MA λy _=>by cases q:Ku wi i y with |false=>rfl|true=> obtain⟨_,z,_⟩:=AFm q;have:=h i (.head _);show AFk (Eo (ACO this _) z)
  rw[e]
noncomputable def TR(wi:Int)(A B C D:List AR):List AR:=DK wi A D++DK wi C (B++D)
theorem Wu:(DK wi (A++C) (B++D)).Perm (DK wi A B++TR wi A B C D):=by rw[iN];show(Qn.append (.refl _)).trans (by rw[Ei];show .refl _)
theorem Wx(W:∀y∈C,now<=y.1)(Y:∀y∈D,now<=y.1)(p:J.Perm (Br (now-wi) A))(q:U.Perm (Br (now-wi) B))(h:(DK wi (J++C) (U++D)).Perm (DK wi J U++M)):M.Perm (TR wi A B C D):=by have V:=(List.perm_append_left_iff _).mp (h.symm.trans Wu);show V.trans (((TQ p (.refl _)).trans (.of_eq (Wv Y A))).append ?_);show(TQ (.refl _) (q.append (.refl _))).trans (Qn.trans ?_);rw[Ww W];show Qn.symm
theorem iM(V:∀y∈C,now<=y.1)(W:∀y∈D,now<=y.1):∀y∈TR wi A B C D,now<=y.1:=λy J=>by
 have U:∀{X Y:List AR},((∀y∈X,now<=y.1)\/∀y∈Y,now<=y.1)->y∈DK wi X Y->now<=y.1:=λ{X Y}h J=>by
  obtain⟨i,Z,J⟩:=bU.mp J;obtain⟨j,z,rfl⟩:=BQ.mp J;change now<=JK _ _;unfold JK;rcases h with h|h;.have:=h i Z;split<;>(first|lia|omega)
  .have:=h j (Dx.mp z).1;split<;>lia
 rcases DN.mp J with J|J;.show U (.inr W) J
 .show U (.inl V) J
theorem Wl(W:s.bj=AQ)(m:L s.nm=Ef s L evs)(Z:J s.nm=Ef s J (evs++[e]))(U:∀a∈s.bo,(J a).Perm (L a++bt a))(Y:∀n a b wi,s=.join n a b wi->S.1.Perm (Br (now-wi) (L a))/\S.2.Perm (Br (now-wi) (L b)))(V:∀a∈s.bo,∀y∈bt a,now<=y.1)(D:GH s bt S e):(J s.nm).Perm (L s.nm++bt s.nm):=by rw[m,Z];cases s with
 |take n k=>
  change((evs++[e]).filter _|>.map Hr).Perm ((evs.filter _).map _++bt n);rw[D,Gg,DJ];unfold Nc;by_cases q:e.2.1=k;. rw[AFi q,LM (by show AFk q)];show .refl _
  . rw[AFh q,MB (by rw[AFo];show q)];show .refl _|only n a A z=> have D:bt n=(bt a).filter _:=D;change((J a).filter _).Perm ((L a).filter _++bt n);rw[D,<-Gg];show(U a (.head _)).filter _|turn n a f g=>have D:bt n=(bt a).map _:=D;change((J a).map _).Perm ((L a).map _++bt n);rw[D,<-DJ];show(U a (.head _)).map _|both n a b=>change(J b++J a).Perm (L b++L a++bt n);rw[D];show((U b (.tail _ (.head _))).append (U a (.head _))).trans ?_;rw[Ei,Ei];show .append (.refl _) ?_;show P0.trans ?_;rw[Ei]|join n a b wi=>obtain⟨p,q⟩:=Y n a b wi rfl;show(TQ (U a (.head _)) (U b (.tail _ (.head _)))).trans ?_;show Wu.trans (.append (.refl _) (Wx (V a (.head _)) (V b (.tail _ (.head _))) p q D).symm)|gap=>cases W|each=>cases W
theorem iG{L:AG->List AR}(hw:now<=V)(Y:V<=e.1)(W:∀n a b wi,s=.join n a b wi->S.1.Perm (Br (now-wi) (L a))/\S.2.Perm (Br (now-wi) (L b)))(J:∀a∈s.bo,∀y∈bt a,V<=y.1)(U:GH s bt S e):∀y∈bt s.nm,V<=y.1:=λy D=>by cases s with
 |take n k=>
  have D:y∈bt n:=D;rw[U]at D;unfold Nc at D;split at D;.rw[Bt.mp D];show Y
  .cases D|only n a C B=>have D:y∈bt n:=D;rw[U]at D;show J a (.head _) y (Dx.mp D).1|turn n a f g=> have D:y∈bt n:=D;rw[U]at D;obtain⟨x,Z,rfl⟩:_:=BQ.mp D;show J a (.head _) x Z|both n a b=>have D:y∈bt n:=D;rw[U]at D;show(DN.mp D).elim (J a (.head _) y) (J b (.tail _ (.head _)) y)|join n a b wi=>obtain⟨p,q⟩:=W n a b wi rfl;show iM (J a (.head _)) (J b (.tail _ (.head _))) y ((Wx (λy h=>Eo hw (J a (.head _) y h)) (λy h=>Eo hw (J b (.tail _ (.head _)) y h)) p q U).mem_iff.mp D)|gap n a A m=>have D:y∈bt n:=D;rw[U]at D;show J a (.head _) y D|each n a A z d=>have D:y∈bt n:=D;rw[U]at D;show J a (.head _) y D
theorem GH.acv(J:D s.nm=bt s.nm)(U:∀a∈s.bo,D a=bt a)(h:GH s bt S e):GH s D S e:=by cases s with|take n k=>show J.trans h|only n a Y W=>change D n=Kx _ _;rw[U a (.head _),<-h];show J|turn n a f g=>change D n=Kx _ _;rw[U a (.head _),<-h];show J|both n a b=>change D n=D a++D b;rw[U a (.head _),U b (.tail _ (.head _)),<-h];show J|join n a b V=>have J:D n=bt n:=J;change(DK V _ _).Perm _;rw[U a (.head _),U b (.tail _ (.head _)),J];show h|gap n a s m=>change D n=D a;rw[U a (.head _),<-h];show J|each n a s z m=>change D n=D a;rw[U a (.head _),<-h];show J
structure C3(ss:List AU):Prop where
 cu:∀(i i':Nat)s s',ss[i]?=AA s->ss[i']?=AA s'->s.nm=s'.nm->i=i'
 ph:∀(i:Nat)s a,ss[i]?=AA s->a∈s.bo->∃(i':Nat)(s':AU),i'<i/\ss[i']?=AA s'/\s'.nm=a/\s'.bj=AQ
 ok:∀s∈ss,O2 s
noncomputable def B6(bt:AG->List AR)(n:AG)(L:List AR):AG->List AR:=λa=>if a=n then L else bt a
theorem IZ:B6 bt n L n=L:=AFi rfl
theorem C3.acm(h:C3 ss){i k:Nat}(D:ss[i]?=AA s)(J:ss[k]?=AA t)(U:k<i)(bt:AG->List AR)(L:List AR):B6 bt s.nm L t.nm=bt t.nm:=AFh λe=>by have:=h.cu k i t s J D e;simp_all
theorem C3.ja(h:C3 ss){i k:Nat}(J:ss[i]?=AA s)(U:ss[k]?=AA t)(W:k<=i)(bt:AG->List AR)(L:List AR)(V:a∈t.bo):B6 bt s.nm L a=bt a:=by obtain⟨Y,Z,l,D,rfl,_⟩:_:=h.ph k t a U V;show h.acm J D (Bc l W) bt L
theorem C3.acs(h:C3 ss)(U:ss[i]?=AA s){sd:Nat->List AR×List AR}(L:List AR)(Y:∀(k:Nat)t,k<i->ss[k]?=AA t->GH t bt (sd k) e)(Z:GH s (B6 bt s.nm L) (sd i) e):∀(k:Nat)t,k<i+1->ss[k]?=AA t->GH t (B6 bt s.nm L) (sd k) e:=λk t V J=>by
 by_cases D:k=i;.subst D;rw[U]at J;cases J;show Z
 .show(Y k t (Dk (EM V) D) J).acv (h.acm U J (Dk (EM V) D) bt L) λa W=>h.ja U J (EM V) bt L W
theorem C3.adi(h:C3 ss){L:AG->List AR}{sd:Nat->List AR×List AR}(hw:now<=V)(Z:V<=e.1)(W:∀(i:Nat)n a b wi,ss[i]?=AA (.join n a b wi)->(sd i).1.Perm (Br (now-wi) (L a))/\(sd i).2.Perm (Br (now-wi) (L b)))(Y:∀(i:Nat)s,i<n->ss[i]?=AA s->GH s bt (sd i) e):∀m,m<=n->∀(i:Nat)s,i<m->ss[i]?=AA s->∀y∈bt s.nm,V<=y.1|0,_,i,_,D,_=>absurd D (MH _)|m+1,z,i,s,D,J=>by have C:=C3.adi h hw Z W Y m (D8 z);show iG hw Z (λn a b wi q=>W i n a b wi (by rw[<-q];show J)) (λa A=>?_) (Y i s (Bc D z) J);obtain⟨B,F,E,U,rfl,_⟩:_:=h.ph i s a J A;show C B F (Bc E (EM D)) U
theorem C3.abn(h:C3 ss){L:AG->List AR}{sd:Nat->List AR×List AR}(U:now<=e.1)(D:∀(i:Nat)n a b wi,ss[i]?=AA (.join n a b wi)->(sd i).1.Perm (Br (now-wi) (L a))/\(sd i).2.Perm (Br (now-wi) (L b)))(J:∀(i:Nat)s,i<n->ss[i]?=AA s->GH s bt (sd i) e):∀m,m<=n->∀(i:Nat)s,i<m->ss[i]?=AA s->∀y∈bt s.nm,now<=y.1:=h.adi (Qc _) U D J
def D1(H:AI)(ps:List AE)(ss:List AU):Prop:=BW (λx s=>∃a,x=.ref a/\DF H a s) ps ss
theorem D1.ae(h:D1 H ps ss)(t:By H H'):D1 H' ps ss:=Gf (λx s⟨a,e,q⟩=>⟨a,e,q.tp t⟩) h
theorem D1.dh(h:D1 H ps ss):ps.length=ss.length:=(Cf h).1
theorem D1.at(h:D1 H ps ss){i:Nat}(e:ps[i]?=AA x):∃a s,x=.ref a/\ss[i]?=AA s/\DF H a s:=by lk;obtain⟨l,f⟩:=Cf h;have J:=(BV.mp e).1;have D:=Cr (show i<ss.length by simp_all);obtain⟨a,r1,r2⟩:=f i x _ e D;k_in;show⟨a,_,r1,D,r2⟩
def C6(p:AD->Prop)(H H':AI):Prop:=∀b o,¬p b->H b=AA o->H' b=AA o
theorem DR.fh{K:AD}(h:DR AN ex H j G K L U W wi B E)(s:C6 p H H')(Y:∀b,p b->(b∈ex/\∃xs,H b=AA (.lst xs))\/∃kvs,H b=AA (.dK kvs))(N:¬p U)(O:¬p W):DR AN ex H' j G K L U W wi B E:=by
 have Z:∀{b:AD}{C D:AD}{J:List _},H b=AA _->H' b=AA (.ins C D J):=λ{b C D J}e=>s _ _ (λq=>by rcases Y b q with⟨_,xs,z⟩|⟨kvs,z⟩<;>(rw[e]at z;cases z)) e;have A:∀{b:AD}{xs:List AE},b∉ex->H b=AA _->H' b=AA (.lst xs):=λ{b xs}n e=>s _ _ (λq=>by
  rcases Y b q with⟨z,_⟩|⟨kvs,z⟩;.show n z
  .rw[e]at z;cases z) e;have I:By H H':=λb xs e=>s _ _ (λq=>by rcases Y b q with⟨_,xs,z⟩|⟨kvs,z⟩<;>(rw[e]at z;cases z)) e;obtain⟨⟨D,e⟩,M,P,r1,n,F⟩:_:=h;show⟨⟨D,Z e⟩,A F M,P.ae (λC D J e=>Z e) (λkvs e=>s _ _ N e) (λb xs n e=>A n e) I,r1.ae (λC D J e=>Z e) (λkvs e=>s _ _ O e) (λb xs n e=>A n e) I,n,F⟩
theorem Lg(h:Fs H a u)(s:∀o,H a=AA o->H' a=AA o):Fs H' a u:=by show h.elim (λe=>.inl (s _ e)) λD=>?_;obtain⟨o,e⟩:=D;show .inr ⟨o,s _ e⟩
theorem X7(h:Fs H a u)(D:H b=AF):a≠b:=λz=>by rcases h with e|⟨o,e⟩<;>(rw[z,D]at e;cases e)
structure ES where
 j:AD
 sl:AD
 x0:AD
 x1:AD
 d0:AD
 d1:AD
def D3(ss:List AU)(i:Nat):Prop:=∃(n a b:AG)(D:Int),ss[i]?=AA (.join n a b D)
structure Cv(ad:CO)(ex:List AD)(H:AI)(ss:List AU)(dj:AD)(jkvs:List (AL×AE))(jd:Nat->ES)(sd:Nat->List AR×List AR):Prop where
 aq:Fs H dj (.dK jkvs)gw:∀(i:Nat)(n a b:AG)(wi:Int),ss[i]?=AA (.join n a b wi)->Bv jkvs (.inl (i:Int))=AA (.ref (jd i).j)/\DR ad ex H (jd i).j (jd i).sl (jd i).x0 (jd i).x1 (jd i).d0 (jd i).d1 wi (sd i).1 (sd i).2
 cu:∀i i':Nat,D3 ss i->D3 ss i'->i≠i'->((jd i').d0≠(jd i).d0/\(jd i').d0≠(jd i).d1)/\(jd i').d1≠(jd i).d0/\(jd i').d1≠(jd i).d1
 xi:∀i:Nat,D3 ss i->dj≠(jd i).d0/\dj≠(jd i).d1
def EB(ss:List AU)(D:Nat->ES)(b:AD):Prop:=∃i,D3 ss i/\(b=(D i).d0\/b=(D i).d1)
theorem Cv.ah(h:Cv AN ex H ss J D U sd)(s:Ah H H'):Cv AN ex H' ss J D U sd:=⟨Lg h.aq (s _),λi n a b W e=>⟨(h.gw i n a b W e).1,(h.gw i n a b W e).2.ah s⟩,h.cu,h.xi⟩
theorem Cv.jm(h:Cv AN ex H ss J D U sd)(Y:H l=AF):Cv AN (l::ex) H ss J D U sd:=⟨h.aq,λi n a b W e=>⟨(h.gw i n a b W e).1,(h.gw i n a b W e).2.jm Y⟩,h.cu,h.xi⟩
theorem Cv.jz(h:Cv AN (l::ex) H ss J D U sd):Cv AN ex H ss J D U sd:=⟨h.aq,λi n a b W e=>⟨(h.gw i n a b W e).1,(h.gw i n a b W e).2.jz⟩,h.cu,h.xi⟩
theorem Cv.fh(h:Cv AN ex H ss J D U sd)(s:C6 p H H')(z:∀b,p b->(b∈ex/\∃xs,H b=AA (.lst xs))\/∃kvs,H b=AA (.dK kvs))(W:∀b,p b->¬EB ss U b)(Z:¬p J):Cv AN ex H' ss J D U sd:=⟨Lg h.aq λo=>s _ o Z,λi n a b Y e=>⟨(h.gw i n a b Y e).1,(h.gw i n a b Y e).2.fh s z (λq=>W _ q ⟨i,⟨_,_,_,_,e⟩,.inl rfl⟩) λq=>W _ q ⟨i,⟨_,_,_,_,e⟩,.inr rfl⟩⟩,h.cu,h.xi⟩
theorem Cv.jx(h:Cv AN ex H ss A J D sd)(W:ss[i]?=AA (.join n a b wi))(s:GY (D i).d0 (D i).d1 H H')(g:DR AN ex H' (D i).j (D i).sl (D i).x0 (D i).x1 (D i).d0 (D i).d1 wi M0 M1):Cv AN ex H' ss A J D λk=>if k=i then(M0,M1)else sd k:=by
 have Y:D3 ss i:=⟨_,_,_,_,W⟩;show⟨Lg h.aq λo=>s _ o (h.xi i Y).1 (h.xi i Y).2,λk F C E B U=>⟨(h.gw k _ _ _ _ U).1,?_⟩,h.cu,h.xi⟩;by_cases Z:k=i
 . subst Z;rw[W]at U;cases U;rw[AFi rfl];show g
 . rw[AFh Z];have z:=h.cu i k Y ⟨_,_,_,_,U⟩ (El Z);show(h.gw i _ _ _ _ W).2.yf (h.gw k _ _ _ _ U).2 s z.1 z.2
def Hq(H:AI)(xs:List AE)(ps:List (Int×AR)):Prop:=BW (λx p=>∃a q,x=.ref a/\H a=AA (.tup [.int p.1,.ref q])/\H q=AA (.tup ((ED p.2).map Au))) xs ps
theorem Hq.ae(h:Hq H xs ps)(t:By H H'):Hq H' xs ps:=Gf (λx p U=>by obtain⟨a,q,e,D,J⟩:=U;show⟨a,q,e,t _ _ D,t _ _ J⟩) h
theorem Hq.dh(h:Hq H xs ps):xs.length=ps.length:=(Cf h).1
theorem Hq.at(h:Hq H xs ps){i:Nat}(e:xs[i]?=AA x):∃a q s it,x=.ref a/\ps[i]?=AA (s,it)/\H a=AA (.tup [.int s,.ref q])/\H q=AA (.tup ((ED it).map Au)):=by lk;obtain⟨l,f⟩:=Cf h;have U:=(BV.mp e).1;have D:=Cr (show i<ps.length by simp_all);obtain⟨a,q,r1,r2,J⟩:=f i x _ e D;k_in;show⟨a,q,_,_,r1,D,r2,J⟩
theorem Cv.bu(h:Cv AN ex H ss W D Y sd)(e:∀i,D3 ss i->J i=sd i):Cv AN ex H ss W D Y J:=⟨h.aq,λi n a b Z U=>⟨(h.gw i n a b Z U).1,by rw[e i ⟨_,_,_,_,U⟩];show(h.gw i n a b Z U).2⟩,h.cu,h.xi⟩
noncomputable def F7(ss:List AU)(sd:Nat->List AR×List AR)(n:Nat)(bt:AG->List AR)(i:Nat):List AR×List AR:=match ss[i]? with|AA (.join _ a b _)=>if i<n then((sd i).1++bt a,(sd i).2++bt b)else sd i|_=>sd i
theorem KG(e:ss[i]?=AA (.join m a b wi)):F7 ss sd n bt i=if i<n then((sd i).1++bt a,(sd i).2++bt b)else sd i:=by unfold F7;rw[e]
theorem nJ(ss:List AU)(sd:Nat->List AR×List AR)(bt:AG->List AR):F7 ss sd 0 bt=sd:=by
 funext i;unfold F7;split;.show AFh (MH _)
 .rfl
theorem nI(V:C3 ss)(J:ss[n]?=AA s)(Y:s.no≠4)(L:List AR):∀i,D3 ss i->F7 ss sd (n+1) (B6 bt s.nm L) i=F7 ss sd n bt i:=by
  intro i W;obtain⟨m,a,b,z,D⟩:_:=W;rw[KG D,KG D];by_cases h:i<n;.rw[AFi (AAY h),AFi h,V.ja J D (B7 h) bt L (.head _),V.ja J D (B7 h) bt L (.tail _ (.head _))]
  . by_cases U:i=n
    . subst U;rw[J]at D;cases D;show absurd rfl Y
    .rw[AFh (OI U (λZ=>Fh (EM Z) (GV h))),AFh h]
theorem nH(U:C3 ss)(D:ss[n]?=AA (.join m a b wi))(L:List AR):∀i,D3 ss i->F7 ss sd (n+1) (B6 bt m L) i=if i=n then((F7 ss sd n bt n).1++bt a,(F7 ss sd n bt n).2++bt b)else F7 ss sd n bt i:=by
  intro i C;obtain⟨G,Z,z,F,J⟩:_:=C;have V:=U.ja D D (Al _) bt L (.head _);have W:=U.ja D D (Al _) bt L (.tail _ (.head _));have V:B6 bt m L a=bt a:=V;have W:B6 bt m L b=bt b:=W;by_cases Y:i=n;. subst Y;rw[D]at J;rw[KG D,KG D,AFi rfl,AFi (OH _),AFh (HW _),V,W]
  . rw[AFh Y,KG J,KG J];by_cases h:i<n
    . have A:B6 bt m L Z=bt Z:=U.ja D J (by lia) bt L (.head _);have B:B6 bt m L z=bt z:=U.ja D J (by lia) bt L (.tail _ (.head _));rw[AFi (by lia),AFi h,A,B]
    .rw[AFh (OI h (λE=>Dk (EM E) Y)),AFh h]
noncomputable def D4(ss:List AU)(bt:AG->List AR):Nat->List (Int×AR)|0=>[]|n+1=>D4 ss bt n++(match ss[n]? with|AA s=>if s.bj=AJ then(bt s.nm).map λi=>((n:Int),i)else[]|AF=>[])
theorem YZ(J:C3 ss)(D:ss[i]?=AA s)(bt:AG->List AR)(L:List AR):∀n,n<=i->D4 ss (B6 bt s.nm L) n=D4 ss bt n|0,_=>rfl|n+1,h=>by unfold D4;rw[YZ J D bt L n (D8 h)];congr 1;cases U:ss[n]? with|none=>rfl|some t=>change(if t.bj=AJ then _ else _)=_;rw[J.acm D U (by assumption) bt L]
theorem mH{st:AU}(W:st.no≠0)(Y:st.no≠4)(U:L=Kx st (st.bo.map bt))(J:∀a∈st.bo,B6 bt st.nm L a=bt a):GH st (B6 bt st.nm L) S e:=by cases st with|take=>show absurd rfl W|join=>show absurd rfl Y|only n f A Z=>have D:B6 bt n L f=bt f:=J f (.head _);change B6 bt n L n=Kx _ [B6 bt n L f];rw[IZ,D,U];rfl|turn n f x y=>have D:B6 bt n L f=bt f:=J f (.head _);change B6 bt n L n=Kx _ [B6 bt n L f];rw[IZ,D,U];rfl|both n f g=>have D:B6 bt n L f=bt f:=J f (.head _);have V:B6 bt n L g=bt g:=J g (.tail _ (.head _));change B6 bt n L n=B6 bt n L f++B6 bt n L g;rw[IZ,D,V,U];rfl|gap n f x y=>have D:B6 bt n L f=bt f:=J f (.head _);change B6 bt n L n=B6 bt n L f;rw[IZ,D,U];rfl|each n f x y z=>have D:B6 bt n L f=bt f:=J f (.head _);change B6 bt n L n=B6 bt n L f;rw[IZ,D,U];rfl
theorem rE{X Y:List AR}(p:(X.map ED).Perm (Y.map ED++kss)):∃M:List AR,kss=M.map ED/\X.Perm (Y++M):=by
  show⟨kss.map O3,?_,?_⟩
  . rw[C8];have:∀D∈kss,(ED∘O3) D=D:=λD J=>by obtain⟨i,_,rfl⟩:=BQ.mp (p.mem_iff.mpr (Ea _ J));rfl
    rw[M6 this,ACh]
  . have:=p.map O3;have e:O3∘ED=id:=funext rD;rw[DJ,C8,C8,e,ACg,ACg]at this;show this
theorem T4[DecidableEq D](kvs:List (D×AE))(k:D)(v:AE):(Bp kvs k v).length<=kvs.length+1:=by
 unfold Bp;split;.simp
 .rw[CI];show Al _
theorem YY:∀{n:Nat},(∀(i:Nat)s,i<n->ss[i]?=AA s->(bt s.nm).length<=600)->(D4 ss bt n).length<=600*n |0,_=>Al _|n+1,h=>by have D:=YY (n:=n) λi s V J=>h i s (by lia) J;unfold D4;rw[CI];cases U:ss[n]? with |none=>show Kf (AAV D)|some t=>
 have:=h n t (by simp) U;change _+(if t.bj=AJ then _ else[]).length<=_;split;.rw[BB];lia
 .show Kf (AAV D)
def qC(G:CO):BG:=λN H Q _=>(WV λ(C:List AD)(I B q:AD)(K:List AE)(D:List AU)(J:List (AL×AE))(E:Nat->ES)(Z:Nat->List AR×List AR)(L z:AG->List AR)(Y:List CL)(e:CL)(U:Int)=>Sv (N=[.ref I,.ref B,.ref q]) (H I=AA (.lst K)) (D1 H K D) (C3 D) (D.length<=20) (Cv G C H D B J E Z) ((∀c∈C,∃o,H c=AA o)) (Ks H q e) ((∀(i:Nat)s,D[i]?=AA s->s.bj=AQ->L s.nm=Ef s L Y/\z s.nm=Ef s z (Y++[e])/\(z s.nm).length<=600)) ((∀(i:Nat)n a b F,D[i]?=AA (.join n a b F)->(Z i).1.Perm (Br (U-F) (L a))/\(Z i).2.Perm (Br (U-F) (L b)))) (U<=e.1) (∀W m M A,C6 (EB D E) H W->Cv G (m::C) W D B J E (F7 D Z D.length A)->H m=AF->W m=AA (.lst M)->Hq W M (D4 D A D.length)->(∀(i:Nat)s,D[i]?=AA s->GH s A (Z i) e)->Q (.ref m) W))
theorem Xr(T:BR AH Af AN):T.xx.Ok BI P w Af base 5 (qC AN):=by
  show T.xx.ok λnd _ _ _ _ _ hr H vs Q E h=>?_;obtain⟨ex,lp,dj,q,ps,ss,jkvs,jd,sd,L,L',evs,e,now,rfl,elp,pr,pok,lss,jr,hex,ev,hL,hS,he,k⟩:_:=h;show⟨_,(Ag (KY (i:=3) nd rfl (Or.inr rfl) Pl) (Ag (KY (i:=4) nd rfl (Fi rfl) (Cy Eg)) (Ag (EG EN rfl (Mx (K:=AH) (by rfl) T.fo (Bj 0)) (NW rfl (G1 (Il (i:=5) nd rfl (Or.inr rfl)) (G1 (Il (i:=6) nd rfl (Fi rfl)) L8))) (Ag (Pm (i:=7) (osc:=CU T8) [("brought",3)] nd rfl (Fi rfl) rfl (DI (K:=AH) (Ax (kO T) hr #v[Bj 6])) rfl rfl (by decide+kernel) (by decide+kernel) (by decide+kernel) ⟨rfl,rfl,trivial⟩ rfl (by decide+kernel) (λ_ _ _ _=>Im) (λ_ _ _ _=>(Cg hr.u1 (Bj 1) (Bj 0) (λ_ _=>rfl)))) (Ag (Jt (Bi (BK Cp (FR (JS (K:=AH)) (Bj 6) AM (λ_ _=>rfl)) BZ (BF _)) (Ab (KY (i:=8) nd rfl (Fi rfl) (Ax (lY T) hr #v[Bj 6,Bj 2]))) (Ab (Bi (BK Cp (FR (JS (K:=AH)) (Bj 6) AM (λ_ _=>rfl)) BZ (BF _)) (Ab (KY (i:=8) nd rfl (Fi rfl) (Ax (k6 T) hr #v[(Cg hr.u1 (Bj 1) (Bj 5) (λ_ _=>rfl)),Bj 7]))) (Ab (KY (i:=8) nd rfl (Fi rfl) (Ax (lK T) hr #v[Bj 6,Bj 7]))))))) (Ag (JY hr.u1 (Bj 3) (Ax (lD T) hr #v[Bj 6]) (Bj 8) rfl) (Ab (Bi (FH (Ax (Xl T) hr #v[Bj 6])) (Ab (FT (Mw (K:=AH) QA SU V2 Pd (Bj 4) #v[(Pk (osc:=CU T8) [("place",5)] rfl (DI (K:=AH) (Bj 8)) rfl rfl (by decide+kernel) (by decide+kernel) (by decide+kernel) ⟨rfl,rfl,trivial⟩ rfl (by decide+kernel) (λ_ _ _ _=>Im) (λ_ _ _ _=>(Cq #v[Bj 1,Bj 0])))]))) Bs)))))) (Ab (Aw (Bj 4)))))),?_⟩;have sz:Ay=16777216:=Dc;have lps:=pr.dh;have isd:∀b,EB ss jd b->∃kvs,H b=AA (.dK kvs):=λb hb=>by
    obtain⟨i,⟨n,a,b',wi,ei⟩,hb⟩:=hb;obtain⟨⟨k0,e0⟩,k1,e1⟩:=(jr.gw i n a b' wi ei).2.xg;rcases hb with rfl|rfl;.show⟨_,e0⟩
    .show⟨_,e1⟩
  showλbr hbr=>⟨Bd _,λu hu0=>?_⟩;have hu:H u=AF:=Jn hu0;have nbu:br≠u:=BE Ac hu0;have s0:Ah H (AO (AO H br (.dK [])) u (.lst [])):=((CA H).gu hbr).gu hu0;have ebr0:(AO (AO H br (.dK [])) u (.lst [])) br=AA (.dK []):=by rw[AW nbu];show Ac
  have eu0:(AO (AO H br (.dK [])) u (.lst [])) u=AA (.lst []):=Ac;generalize AO (AO H br (.dK [])) u (.lst [])=H0 at s0 ebr0 eu0⊢;have keep:∀{H':AI}{b:AD}{o:Bg},C6 (EB ss jd) H H'->H b=AA o->(∀kvs,o≠.dK kvs)->H' b=AA o:=λ{H' b o}s eo hn=>s b o (λz=>by obtain⟨kvs,ek⟩:=isd b z;rw[eo]at ek;show hn _ (Bz ek)) eo;show⟨_,rfl,lp,rfl,⟨_,AX (s0 _ _ elp)⟩,Uk (K:=AH) (xs:=ps) (λn σ H'=>(LY λ(o5 o6 o7 o8:Option AE)(kvs:List (AL×AE))(acc:List AE)(bt:AG->List AR)=>OX (σ=(Ql lp dj q br u o5 o6 o7 o8)) (C6 (EB ss jd) H H') (Cv AN (u::ex) H' ss dj jkvs jd (F7 ss sd n bt)) (kvs.length<=n) (H' br=AA (.dK kvs)) (H' u=AA (.lst acc)) (Hq H' acc (D4 ss bt n)) ((∀(i:Nat)s,i<n->ss[i]?=AA s->GH s bt (sd i) e)) ((∀(i:Nat)s,i<n->ss[i]?=AA s->∃r,Bv kvs (.inr s.nm)=AA (.ref r)/\GI H' r (bt s.nm)/\r≠u/\(bt s.nm).length<=600)) ((∀(i:Nat)s,i<n->ss[i]?=AA s->s.bj=AQ->(L' s.nm).Perm (L s.nm++bt s.nm))))) ⟨AF,AF,AF,AF,[],[],λ_=>[],rfl,λb o _ eo=>s0 _ _ eo,?_,Al _,ebr0,eu0,.nil,λi s h=>absurd h (MH _),λi s h=>absurd h (MH _),λi s h=>absurd h (MH _)⟩ (λn σ H' _ hh=>by obtain⟨_,_,_,_,_,_,_,_,s',_⟩:=hh;show AX (keep s' elp (by intro kvs z;cases z))) ?_ ?_⟩;. rw[nJ];show(jr.jm hu).ah s0
  . intro n x σ H1 p hx hI hp;lk;obtain⟨o5,o6,o7,o8,kvs,acc,bt,rfl,s1,jr1,lk1,eb1,eu1,it1,br1,cm1,pm1⟩:=hI;obtain⟨a,st,rfl,es,ea⟩:=pr.at hx;k_in;have hn:n<ss.length:=(BV.mp es).1;have s2:=CB (o:=.tup [.int (n:Int),.ref a]) hp;have ea1:DF H1 a st:=keep s1 ea (by intro kvs z;cases z);show⟨p,_,rfl,Ar Ac,rfl,_,_,rfl,_,_,rfl,rfl,?_⟩;show⟨_,rfl,a,st,rfl,ea1.tp s2.tp,λlf Hf sf hlf elf=>⟨lf,rfl,⟨_,AX elf⟩,?_⟩⟩;have s3:=s2.aa sf;have cmf:∀(i:Nat)s,i<n->ss[i]?=AA s->∃r,Bv kvs (.inr s.nm)=AA (.ref r)/\GI Hf r (bt s.nm)/\r≠u/\(bt s.nm).length<=600:=λi s hi ei=>by obtain⟨r,v1,v2,v3,v4⟩:=cm1 i s hi ei;show⟨r,v1,v2.ae (λxs z=>s3 _ _ z) s3.tp,v3,v4⟩
    have lf5:st.bo.length<=2:=by cases st<;>show b8 rfl
    show Ig (K:=AH) (xs:=st.bo.map AE.str) (λm τ acc H'=>(∃o,τ=[o,AA (.ref br)])/\H'=Hf/\OY Hf acc ((st.bo.take m).map bt)/\∀r,AE.ref r∈acc->r≠u) (by rw[BB];lia) ⟨⟨AF,rfl⟩,rfl,.nil,λr hr=>by cases hr⟩ (λm τ acc H'⟨_,ee,_⟩=>by rw[ee];show AX elf) ?_ ?_
    . intro m y τ acc H' R1 hy _ hI k1;lk;obtain⟨⟨o,rfl⟩,rfl,hc,hru⟩:=hI;rw[CD]at hy;obtain⟨f,ef,rfl⟩:=EI.mp hy;obtain⟨i',s',li,ei',rfl,_⟩:=pok.ph n st f es (Ct ef);obtain⟨r,v1,v2,v3,v4⟩:=cmf i' s' li ei';k_in;show⟨_,rfl,_,rfl,br,.ref r,rfl,?_,k1 _ _ _ ⟨⟨_,rfl⟩,rfl,?_,λr' hr'=>?_⟩⟩;. rw[<-v1];show Mh (k:=.inr s'.nm) (s3 _ _ eb1)
      . rw[Dy,ef,DJ];show Eh hc (.cons ⟨r,rfl,v2⟩ .nil)
      . rcases DN.mp hr' with h|h;.show hru r' h
        .cases Bt.mp h;show v3
    . intro τ acc2 H' la hI ls hls;obtain⟨_,rfl,hc,ru4⟩:_:=hI;rw[BB,D7 (Al _)]at hc;have s4:=s3.gu (o:=.lst acc2) hls;have sl4:=CB (o:=.lst acc2) hls;have els:(AO H' ls (.lst acc2)) ls=AA (.lst acc2):=Ac;have hc4:OY (AO H' ls (.lst acc2)) acc2 (st.bo.map bt):=Gf (λx L⟨r,e1,e2⟩=>⟨r,e1,e2.ae (λxs z=>sl4 _ _ z) sl4.tp⟩) hc;have cm4:∀(i:Nat)s,i<n->ss[i]?=AA s->∃r,Bv kvs (.inr s.nm)=AA (.ref r)/\GI (AO H' ls (.lst acc2)) r (bt s.nm)/\r≠u/\(bt s.nm).length<=600:=λi s hi ei=>by obtain⟨r,v1,v2,v3,v4⟩:=cmf i s hi ei;show⟨r,v1,v2.ae (λxs z=>sl4 _ _ z) sl4.tp,v3,v4⟩
      generalize AO H' ls (.lst acc2)=H4 at s4 els hc4 cm4⊢;have sp4:C6 (EB ss jd) H H4:=λb o nb eo=>s4 _ _ (s1 b o nb eo);have jr4:=jr1.ah s4;have ea4:DF H4 a st:=ea1.tp s4.tp;have eb4:=s4 _ _ eb1;have ev4:Ks H4 q e:=s4 _ _ (keep s1 ev (by intro kvs z;cases z));have eu4:=s4 _ _ eu1;have it4:=it1.ae s4.tp;have fz:∀f∈st.bo,(L' f).Perm (L f++bt f)/\(L f).length+(bt f).length<=600:=λf hf=>by obtain⟨i',s',li,ei',rfl,ht⟩:=pok.ph n st f es hf;have pp:=pm1 i' s' li ei' ht;have:=pp.length_eq;rw[CI]at this;have:=(hL i' s' ei' ht).2.2;show⟨pp,by simp_all⟩
      show Jp (λσ' H'=>TH (λ(r:AD)(Lr:List AR)=>σ'=(Ql lp dj q br u (AA (.int (n:Int))) (AA (.ref a)) (AA (.ref ls)) (AA (.ref r)))) (λ_ _=>C6 (EB ss jd) H H') (λ_ Lr=>Cv AN (u::ex) H' ss dj jkvs jd (F7 ss sd (n+1) (B6 bt st.nm Lr))) (λ_ _=>H' br=AA (.dK kvs)) (λ_ _=>H' u=AA (.lst acc)) (λ_ _=>Hq H' acc (D4 ss bt n)) (λr Lr=>GI H' r Lr) (λr _=>r≠u) (λ_ Lr=>GH st (B6 bt st.nm Lr) (sd n) e) (λ_ _=>DF H' a st) (λr _=>∀(i:Nat)s,i<n->ss[i]?=AA s->∃r,Bv kvs (.inr s.nm)=AA (.ref r)/\GI H' r (bt s.nm)/\r≠u/\(bt s.nm).length<=600)) ?_ ?_
      . obtain⟨e0,e1,e2⟩:_:=ea4.gj;have plain:∀{r:AD}{Lr:List AR}{H5:AI},Ah H4 H5->st.no≠4->GI H5 r Lr->r≠u->GH st (B6 bt st.nm Lr) (sd n) e->(λ(σ':List (Option AE))(H':AI)=>TH (λ(r:AD)(Lr:List AR)=>σ'=(Ql lp dj q br u (AA (.int (n:Int))) (AA (.ref a)) (AA (.ref ls)) (AA (.ref r)))) (λ_ _=>C6 (EB ss jd) H H') (λ_ Lr=>Cv AN (u::ex) H' ss dj jkvs jd (F7 ss sd (n+1) (B6 bt st.nm Lr))) (λ_ _=>H' br=AA (.dK kvs)) (λ_ _=>H' u=AA (.lst acc)) (λ_ _=>Hq H' acc (D4 ss bt n)) (λr Lr=>GI H' r Lr) (λr _=>r≠u) (λ_ Lr=>GH st (B6 bt st.nm Lr) (sd n) e) (λ_ _=>DF H' a st) (λr _=>∀(i:Nat)s,i<n->ss[i]?=AA s->∃r,Bv kvs (.inr s.nm)=AA (.ref r)/\GI H' r (bt s.nm)/\r≠u/\(bt s.nm).length<=600)) (Ql lp dj q br u (AA (.int (n:Int))) (AA (.ref a)) (AA (.ref ls)) (AA (.ref r))) H5:=λ{r Lr H5}s5 n4 cr ru bs=>⟨r,Lr,rfl,λb o nb eo=>s5 _ _ (sp4 b o nb eo),(jr4.ah s5).bu (nI pok es n4 Lr),s5 _ _ eb4,s5 _ _ eu4,it4.ae s5.tp,cr,ru,bs,ea4.tp s5.tp,λi s hi ei=>by obtain⟨r,v1,v2,v3,v4⟩:=cm4 i s hi ei;show⟨r,v1,v2.ae (λxs z=>s5 _ _ z) s5.tp,v3,v4⟩⟩;show⟨_,rfl,a,_,_,_,rfl,rfl,e0,e1,rfl,_,rfl,KC (i:=0) rfl (λq0=>?_) λq0=>?_⟩
        . lk;obtain⟨nn,kd,rfl⟩:∃nn kd,st=.take nn kd:=by cases st<;>first|show⟨_,_,rfl⟩|cases q0
          k_in;show⟨_,rfl,_,rfl,a,q,nn,kd,e,rfl,ea4,ev4,λr H5 s5 hr5 cr=>plain s5 (by intro z;cases z) cr (BE eu4 hr5).symm ?_⟩;show IZ
        . show⟨_,rfl,a,_,_,_,rfl,rfl,e0,e1,rfl,_,rfl,KC (i:=4) rfl (λq4=>?_) λq4=>?_⟩
          . lk;obtain⟨nn,f,g,wi,rfl⟩:∃nn f g wi,st=.join nn f g wi:=by cases st<;>first|show⟨_,_,_,_,rfl⟩|cases q4
            obtain⟨jv,jj⟩:=jr4.gw n nn f g wi es;have e9:F7 ss sd n bt n=sd n:=by rw[KG es,AFh (HW _)]
            rw[e9]at jj;obtain⟨r0,r1,xs0,xs1,rfl,er0,er1,w0,w1⟩:=Wm hc4;have z0:=fz f (.head _);have z1:=fz g (.tail _ (.head _));obtain⟨pf,pg⟩:=hS n nn f g wi es;k_in;have lf0:(sd n).1.length<=(L f).length:=pf.length_eq▸O1 _ _;have lg0:(sd n).2.length<=(L g).length:=pg.length_eq▸O1 _ _;have hex4:∀c∈u::ex,∃o,H4 c=AA o:=λc hc=>by
              rcases CJ.mp hc with rfl|hc;.show⟨_,eu4⟩
              . obtain⟨o,eo⟩:=hex c hc;by_cases hd:EB ss jd c
                . obtain⟨i,⟨n',a',b',wi',ei⟩,hd⟩:=hd;obtain⟨⟨k0,g0⟩,k1,g1⟩:=(jr4.gw i n' a' b' wi' ei).2.xg;rcases hd with rfl|rfl;.show⟨_,g0⟩
                  .show⟨_,g1⟩
                .show⟨_,sp4 c o hd eo⟩
            show⟨_,rfl,_,rfl,dj,.ref (jd n).j,rfl,by rw[<-jv];show .inl ⟨jkvs,.inl (n:Int),jr4.aq,rfl,rfl⟩,_,rfl,u::ex,(jd n).j,(jd n).sl,(jd n).x0,(jd n).x1,(jd n).d0,(jd n).d1,ls,r0,r1,wi,(sd n).1,(sd n).2,bt f,bt g,rfl,jj,hex4,els,⟨_,er0,w0⟩,⟨_,er1,w1⟩,by lia,by lia,λH5 m xs5 kss sy5 j5 hm em hw5 pm5=>?_⟩;have sp5:C6 (EB ss jd) H4 H5:=λb o nb eo=>sy5 b o (λz=>nb ⟨n,⟨_,_,_,_,es⟩,.inl z⟩) (λz=>nb ⟨n,⟨_,_,_,_,es⟩,.inr z⟩) eo;have ky:∀{b:AD}{o:Bg},H4 b=AA o->(∀kvs,o≠.dK kvs)->H5 b=AA o:=λeo hn=>jj.y sy5 eo hn;have tp5:=jj.ads sy5;rw[TN,TN]at pm5;obtain⟨M,rfl,pmM⟩:_:=rE pm5;have nbr:¬EB ss jd br:=λz=>by obtain⟨kv,ek⟩:=isd br z;rw[hbr]at ek;cases ek
            have fe:∀a'∈(AU.join nn f g wi).bo,B6 bt nn M a'=bt a':=λa' ha'=>pok.ja es es (Al _) bt M ha';show⟨m,M,rfl,λb o nb eo=>sp5 b o nb (sp4 b o nb eo),?_,sp5 _ _ nbr eb4,ky eu4 (by intro kv z;cases z),it4.ae tp5,⟨_,em,hw5⟩,(BE eu4 hm).symm,?_,ea4.tp tp5,λi s hi ei=>?_⟩
            . show(jr4.jx es sy5 j5).bu λi hi=>?_;have q:=nH pok (sd:=sd) (bt:=bt) es M i hi;rw[e9]at q;show q
            . change(DK wi ((sd n).1++B6 bt nn M f) ((sd n).2++B6 bt nn M g)).Perm (DK wi (sd n).1 (sd n).2++B6 bt nn M nn);rw[fe f (.head _),fe g (.tail _ (.head _)),IZ];show pmM
            . obtain⟨r,v1,v2,v3,v4⟩:_:=cm4 i s hi ei;show⟨r,v1,v2.ae (λxs z=>ky z (by intro kv z;cases z)) tp5,v3,v4⟩
          . have bf:∀f∈st.bo,(bt f).length<=1000:=λf hf=>by have:=(fz f hf).2;show Ak (SI this) (by decide)
            show⟨_,rfl,_,rfl,a,ls,st,acc2,st.bo.map bt,rfl,ea4,pok.ok st (Ct es),q0,q4,els,hc4,by rw[BB],λL hL=>by obtain⟨f,hf,rfl⟩:=BQ.mp hL;show bf f hf,λr H5 s5 cr hr5=>plain s5 q4 cr ?_ (mH q0 q4 rfl λf hf=>pok.ja es es (Al _) bt _ hf)⟩;rcases hr5 with hr5|hr5;.show(BE eu4 hr5).symm
            .show ru4 r hr5
      . intro σ H5 hI;obtain⟨r,Lr,rfl,sp5,jr5,eb5,eu5,it5,cr5,ru5,bs5,ea5,cm5⟩:_:=hI;show⟨_,rfl,_,rfl,_,rfl,a,st,rfl,ea5,br,_,rfl,.inl ⟨_,.inr st.nm,eb5,rfl,?_,rfl⟩,?_⟩;.lia
        have nbr:¬EB ss jd br:=λz=>by obtain⟨kv,ek⟩:=isd br z;rw[hbr]at ek;cases ek
        have ndj:dj≠br:=X7 jr.aq hbr;have s6:C6 (.=br) H5 (AO H5 br (.dK (Bp kvs (.inr st.nm) (.ref r)))):=zzu
        have ne6:∀{b:AD}{o:Bg},H5 b=AA o->(∀kv,o≠.dK kv)->b≠br:=λeo hn z=>by rw[z,eb5]at eo;show hn _ (Bz eo).symm
        have tp6:By H5 (AO H5 br (.dK (Bp kvs (.inr st.nm) (.ref r)))):=λb xs eo=>s6 _ _ (ne6 eo (by intro kv z;cases z)) eo;have sp6:C6 (EB ss jd) H (AO H5 br (.dK (Bp kvs (.inr st.nm) (.ref r)))):=λb o nb eo=>s6 _ _ (λz=>by rw[z,hbr]at eo;cases eo) (sp5 b o nb eo);have jr6:Cv AN (u::ex) (AO H5 br (.dK (Bp kvs (.inr st.nm) (.ref r)))) ss dj jkvs jd (F7 ss sd (n+1) (B6 bt st.nm Lr)):=jr5.fh s6 (λb hb=>.inr ⟨kvs,by rw[hb];show eb5⟩) (λb hb=>by rw[hb];show nbr) ndj;have eu6:(AO H5 br (.dK (Bp kvs (.inr st.nm) (.ref r)))) u=AA (.lst acc):=s6 _ _ (ne6 eu5 (by intro kv z;cases z)) eu5;have it6:=it5.ae tp6;have ck6:∀{b:AD}{M:List AR},GI H5 b M->GI (AO H5 br (.dK (Bp kvs (.inr st.nm) (.ref r)))) b M:=λc=>c.ae (λxs z=>s6 _ _ (ne6 z (by intro kv z;cases z)) z) tp6;have cr6:=ck6 cr5;have ea6:=ea5.tp tp6;have eb6:(AO H5 br (.dK (Bp kvs (.inr st.nm) (.ref r)))) br=AA (.dK (Bp kvs (.inr st.nm) (.ref r))):=Ac;have bt6:=pok.acs es Lr br1 bs5;have fz6:∀f∈st.bo,B6 bt st.nm Lr f=bt f:=λf hf=>pok.ja es es (Al _) bt Lr hf;have pmn:st.bj=AQ->(L' st.nm).Perm (L st.nm++B6 bt st.nm Lr st.nm):=λht=>Wl ht (hL n st es ht).1 (hL n st es ht).2.1 (λf hf=>by rw[fz6 f hf];show(fz f hf).1) (λn' a' b' wi' q=>hS n n' a' b' wi' (by rw[<-q];show es)) (λf hf=>by rw[fz6 f hf];obtain⟨i',s',li,ei',rfl,_⟩:=pok.ph n st f es hf;show pok.abn he hS br1 n (Al _) i' s' li ei') bs5;have lr6:Lr.length<=600:=by cases ht:st.bj with |false=> have:=(pmn ht).length_eq;rw[CI,IZ]at this;have:=(hL n st es ht).2.2;lia|true=>
            obtain⟨f,hf,eq⟩:∃f∈st.bo,B6 bt st.nm Lr st.nm=B6 bt st.nm Lr f:=by cases st with |gap n' f x y=>show⟨f,.head _,bs5⟩|each n' f x y z=>show⟨f,.head _,bs5⟩|_=>cases ht
            rw[IZ,fz6 f hf]at eq;have:=(fz f hf).2;rw[eq];show SI this
        have cm6:∀(i:Nat)s,i<n+1->ss[i]?=AA s->∃r',Bv (Bp kvs (.inr st.nm) (.ref r)) (.inr s.nm)=AA (.ref r')/\GI (AO H5 br (.dK (Bp kvs (.inr st.nm) (.ref r)))) r' (B6 bt st.nm Lr s.nm)/\r'≠u/\(B6 bt st.nm Lr s.nm).length<=600:=λi s hi ei=>by
          by_cases hin:i=n
          . subst hin;rw[es]at ei;cases ei;show⟨r,by rw[LK,AFi rfl],by rw[IZ];show cr6,ru5,by rw[IZ];show lr6⟩
          . obtain⟨r',v1,v2,v3,v4⟩:=cm5 i s (Dk (EM hi) hin) ei;have eo:=pok.acm es ei (Dk (EM hi) hin) bt Lr;show⟨r',?_,by rw[eo];show ck6 v2,v3,by rw[eo];show v4⟩;rw[LK,AFh (λz=>hin (pok.cu i n s st ei es (Hl z)))];show v1
        have pm6:∀(i:Nat)s,i<n+1->ss[i]?=AA s->s.bj=AQ->(L' s.nm).Perm (L s.nm++B6 bt st.nm Lr s.nm):=λi s hi ei ht=>by
          by_cases hin:i=n
          . subst hin;rw[es]at ei;cases ei;show pmn ht
          . rw[pok.acm es ei (Dk (EM hi) hin) bt Lr];show pm1 i s (Dk (EM hi) hin) ei ht
        have lk6:=T4 kvs (.inr st.nm) (.ref r);have tl6:=YZ pok es bt Lr n (Al _);generalize AO H5 br (.dK (Bp kvs (.inr st.nm) (.ref r)))=H6 at sp6 jr6 eu6 it6 cr6 ea6 eb6 cm6⊢;show⟨_,rfl,a,st,rfl,ea6,_,rfl,K8 (λht=>?_) λht=>?_⟩
        . obtain⟨xs6,er6,w6⟩:_:=cr6;have lx6:=w6.dh;rw[BB]at lx6;show⟨_,rfl,.inl ⟨rfl,_,AX eu6⟩,_,rfl,r,rfl,⟨_,AX er6⟩,?_⟩;show Ig (K:=AH) (xs:=xs6) (λm τ acc' H'=>(∃o,τ=[o,AA (.int (n:Int))])/\Ah H6 H'/\Hq H' acc' ((Lr.take m).map λi=>((n:Int),i))) (by lia) ⟨⟨AF,rfl⟩,CA _,.nil⟩ (λm τ acc' H'⟨_,s,_⟩=>AX (s _ _ er6)) ?_ ?_
          . intro m y τ acc' H' R1 hy _ hI k1;lk;obtain⟨⟨o,rfl⟩,s,hp⟩:=hI;obtain⟨b,ks,rfl,ek,eb⟩:=w6.at hy;rw[CD]at ek;obtain⟨i,ei,rfl⟩:=EI.mp ek;k_in;show⟨_,rfl,_,rfl,b8 rfl,λp2 hp2=>k1 _ _ _ ⟨⟨_,rfl⟩,s.gu hp2,?_⟩⟩;have sp2:=CB (o:=.tup [.int (n:Int),.ref b]) hp2;rw[Dy,ei,DJ];show Eh (hp.ae sp2.tp) (.cons ⟨p2,b,rfl,Ac,sp2 _ _ (s _ _ eb)⟩ .nil)
          . intro τ acc' H7 la hI D hD;obtain⟨_,s7,hp7⟩:_:=hI;rw[D7 (Bo lx6.symm)]at hp7;have s8:=s7.gu (o:=.lst acc') hD;have sD:=CB (o:=.lst acc') hD;have eD:(AO H7 D (.lst acc')) D=AA (.lst acc'):=Ac;have hp8:=hp7.ae sD.tp;generalize AO H7 D (.lst acc')=H8 at s8 eD hp8⊢;have eu8:=s8 _ _ eu6;have la6:acc.length<=600*n:=by rw[it6.dh];show YY λi s hi ei=>by obtain⟨_,_,_,_,v4⟩:=cm1 i s hi ei;show v4
            show⟨u,D,acc,acc',rfl,rfl,eu8,eD,by lia,?_⟩;have s9:C6 (.=u) H8 (AO H8 u (.lst (acc++acc'))):=zzu
            have tp9:By H8 (AO H8 u (.lst (acc++acc'))):=λb xs eo=>s9 _ _ (λz=>by rw[z,eu8]at eo;cases eo) eo;have nud:¬EB ss jd u:=λz=>by obtain⟨kv,ek⟩:=isd u z;rw[hu]at ek;cases ek
            have ndu:dj≠u:=X7 jr.aq hu;show⟨_,_,_,_,_,acc++acc',B6 bt st.nm Lr,rfl,λb o nb eo=>s9 _ _ (λz=>by rw[z,hu]at eo;cases eo) (s8 _ _ (sp6 b o nb eo)),?_,Ak lk6 (Jx.mpr lk1),s9 _ _ nbu (s8 _ _ eb6),Ac,?_,bt6,λi s hi ei=>?_,pm6⟩;.show(jr6.ah s8).fh s9 (λb hb=>.inl ⟨by rw[hb];show .head _,acc,by rw[hb];show eu8⟩) (λb hb=>by rw[hb];show nud) ndu
            . change Hq _ _ (D4 ss (B6 bt st.nm Lr) n++_);rw[tl6,es];change Hq _ _ (D4 ss bt n++(if st.bj=AJ then _ else[]));rw[AFi ht,IZ];show Hq.ae (Eh (it6.ae s8.tp) hp8) tp9
            . obtain⟨r',v1,v2,v3,v4⟩:_:=cm6 i s hi ei;show⟨r',v1,v2.ae (λxs z=>s9 _ _ v3 (s8 _ _ z)) (λb xs z=>tp9 _ _ (s8 _ _ z)),v3,v4⟩
        . have ht:st.bj=AQ:=ht;show⟨_,_,_,_,_,acc,B6 bt st.nm Lr,rfl,sp6,jr6,Ak lk6 (Jx.mpr lk1),eb6,eu6,?_,bt6,cm6,pm6⟩;change Hq H6 acc (D4 ss (B6 bt st.nm Lr) n++_);rw[tl6,es];change Hq H6 acc (D4 ss bt n++(if st.bj=AJ then _ else[]));rw[ht,AFh Du,Ew];show it6
  . intro σ H1 hI;obtain⟨o5,o6,o7,o8,kvs,acc,bt,rfl,s1,jr1,lk1,eb1,eu1,it1,br1,cm1,pm1⟩:_:=hI;rw[lps]at jr1 it1 br1;show⟨_,rfl,k H1 u acc bt s1 jr1 hu eu1 it1 λi s ei=>br1 i s (BV.mp ei).1 ei⟩
def qA(K:Aq):BG:=λU H Q _=>JQ (λ(a:AD)(D:List Int)=>U=[.ref a]) (λa D=>Bx K H a (D.map AE.int)) (λ_ D=>D.length<=63) (λ_ _=>∀(c:Int)J,Ah H J->(c=1\/c=40000)->Q (.int c) J)
theorem T1(T:BR AH Af AN):T.ou.Ok BI P w Af base 2 (qA AH):=by
 show T.ou.ok λB _ _ _ _ _ Z H C Q E h=>?_;obtain⟨a,A,rfl,U,W,k⟩:_:=h;show⟨_,(Ab (Aw (Dj AH (Cy #v[AM,AM,AM,AM]) (AY CC (AY C4 (Ax (Kv T) Z #v[AB 0,AM]) AM) AM)))),?_⟩;show⟨Ba rfl,λp Y=>?_⟩;have s1:=CB (o:=.lst [.int 1,.int 1,.int 1,.int 40000]) Y;show⟨a,A,_,rfl,s1.vd U,by decide,W,λc=>?_⟩;lk;obtain⟨v,z,J⟩:=Ie [AE.int 1,.int 1,.int 1,.int _] 4 rfl (by decide) _;obtain⟨m,rfl,D⟩:∃m:Int,v=.int m/\(m=1\/m=40000):=by
  simp only[CJ,M8,AFt]at J;rcases J with rfl|rfl|rfl|rfl;.show⟨_,rfl,.inl rfl⟩
  .show⟨_,rfl,.inl rfl⟩
  .show⟨_,rfl,.inl rfl⟩
  .show⟨_,rfl,.inr rfl⟩
 k_in;show⟨(zzd rfl),(zzp rfl),_,_,AX Ac,z,k m _ s1 D⟩
noncomputable def FX(s:AU)(z:AG->Nat)(m:Nat):Nat:=match s with|.take ..=>m|.only _ a _ _|.turn _ a _ _|.gap _ a _ _|.each _ a _ _ _=>z a|.both _ a b=>z a+z b|.join _ a b _=>z a*z b
def nZ:BG:=λJ H Q _=>(Kr λ(p d:AD)(s:AU)(D:List (AL×AE))(z:AG->Nat)(m:Nat)=>Ee (J=[.ref p,.ref d,.int (m:Int)]) (DF H p s) (H d=AA (.dK D)) ((∀a∈s.bo,Bv D (.inr a)=AA (.int (z a:Int))/\z a<=600)) (Q (.int (FX s z m:Int)) H))
theorem Xg(T:BR AH Af AN):T.oj.Ok BI P w Af base 1 nZ:=by
  show T.oj.ok λO _ _ _ _ _ U H R Q E h=>?_;obtain⟨p,d,D,M,z,m,rfl,e,L,F,k⟩:_:=h;show⟨_,(Ag (Bi (BK Cp (Av AH (AB 0) AM) BZ (BF _)) (Ab (Aw (AB 2))) Bs) (Ag (Bi (BK Cp (Av AH (AB 0) AM) BZ (BF _)) (Ab (Aw (AY DH (Cg U.u1 (AB 1) (Av AH (AB 0) AM) (λ_ _=>rfl)) (Cg U.u1 (AB 1) (Av AH (AB 0) AM) (λ_ _=>rfl))))) Bs) (Ag (Bi (BK Cp (Av AH (AB 0) AM) BZ (BF _)) (Ab (Aw (AY Fe (Cg U.u1 (AB 1) (Av AH (AB 0) AM) (λ_ _=>rfl)) (Cg U.u1 (AB 1) (Av AH (AB 0) AM) (λ_ _=>rfl))))) Bs) (Ab (Aw (Cg U.u1 (AB 1) (Av AH (AB 0) AM) (λ_ _=>rfl))))))),?_⟩;obtain⟨J,V,N⟩:_:=e.gj;have g:∀a∈D.bo,Ga H d (.str a) (AA (.int (z a:Int))):=λa W=>by rw[<-(F a W).1];show Mh (k:=.inr a) L
  show⟨_,_,J,V,rfl,_,rfl,KC (i:=0) rfl (λZ=>?_) λZ=>?_⟩;.cases D<;>first|cases Z;done|show k
  . show⟨_,_,J,V,rfl,_,rfl,KC (i:=3) rfl (λA=>?_) λA=>?_⟩
    . lk;obtain⟨n,a,b,rfl⟩:∃n a b,D=.both n a b:=by cases D<;>first|show⟨_,_,_,rfl⟩|cases A
      k_in;show⟨_,_,J,Ap (j:=2) rfl,d,_,rfl,g a (.head _),_,_,J,Ap (j:=3) rfl,d,_,rfl,g b (.tail _ (.head _)),k⟩
    . show⟨_,_,J,V,rfl,_,rfl,KC (i:=4) rfl (λB=>?_) λB=>?_⟩
      . lk;obtain⟨n,a,b,C,rfl⟩:∃n a b C,D=.join n a b C:=by cases D<;>first|show⟨_,_,_,_,rfl⟩|cases B
        k_in;have Y:=(F a (.head _)).2;show⟨_,_,J,Ap (j:=2) rfl,d,_,rfl,g a (.head _),_,_,J,Ap (j:=3) rfl,d,_,rfl,g b (.tail _ (.head _)),.inl ⟨by lia,Int.lt_toNat.mp (HX Y (by decide))⟩,?_⟩;have:(FX (.join n a b C) z m:Int)=(z a:Int)*(z b:Int):=Int.natCast_mul ..;rw[this]at k;show k
      . lk;obtain⟨a,W,G,I⟩:∃a,a∈D.bo/\DM (D.zx.map Au) 2=AA (.str a)/\FX D z m=z a:=by cases D<;>first|show absurd rfl Z|show absurd rfl A|show absurd rfl B|show⟨_,.head _,Ap (j:=2) rfl,rfl⟩
        k_in;rw[I]at k;show⟨_,_,J,G,d,_,rfl,g a W,k⟩
noncomputable def AU.yj:AU->List AG|AU.take n k=>[n,k]|AU.only n a _ _=>[n,a]|AU.turn n a _ _=>[n,a]|AU.both n a b=>[n,a,b]|AU.join n a b _=>[n,a,b]|AU.gap n a s _=>[n,a,s]|AU.each n a s _ _=>[n,a,s]
structure TC(zs:List AG)(n:AG)(s:AU):Prop where
 nm:s.nm=n
 ph:∀a∈s.bo,a∈zs
 ok:O2 s
 yj:∀z∈s.yj,z=n\/z∈zs\/z∈GJ
theorem RD{J:List AG}{n a:AG}(h:a∈J):∀z∈[n,a],z=n\/z∈J\/z∈GJ:=λz D=>by
 simp at D;rcases D with rfl|rfl;.show .inl rfl
 .show .inr (.inl h)
theorem RE{D:List AG}{n a b:AG}(h:a∈D)(U:b∈D\/b∈GJ):∀z∈[n,a,b],z=n\/z∈D\/z∈GJ:=λz J=>by
 simp at J;rcases J with rfl|rfl|rfl;.show .inl rfl
 .show .inr (.inl h)
 .show .inr U
def qG:BG:=λY H Q _=>(IT λ(n:AG)(W c:Int)(U:AD)(J:List AG)=>Ee (Y=[.str n,.int W,.ref U,.int c]) (H U=AA (.lst (J.map AE.str))) (0<J.length) ((c=1\/c=40000)) (∀p D s,Ah H D->DF D p s->s.bj=AQ->TC J n s->Q (.ref p) D))
theorem Xs(T:BR AH Af AN):T.mn.Ok BI P w Af base 1 qG:=by
  show T.mn.ok λL _ _ _ _ _ d H e Q E h=>?_;obtain⟨n,Y,c,b,Z,rfl,O,f,R,k⟩:_:=h;show⟨_,(Ag (BD 4 L (Dj AH (AB 2) (AY CC (AY C4 (AB 1) AM) (Bw (FE (K:=AH)) (by rfl) T.eh FJ #v[AB 2])))) (Ag (BD 5 L (Dj AH (AB 2) (AY CC (AY C4 (AB 1) AM) (Bw (FE (K:=AH)) (by rfl) T.eh FJ #v[AB 2])))) (Ag (Bi (BK Cp (AY CC (AB 1) AM) AM (BF _)) (Ag (BD 6 L (AY Fv (AY CC (AY C4 (AB 1) AM) AM) AM)) (Ag (Bi (BK Cp (AY CC (AY C4 (AB 1) AM) AM) AM (BF _)) (Ab (Aw (Cq #v[BZ,AB 0,AB 4,AY Fe (AB 6) (AY Rq AM AM),AY Rq AM AM]))) Bs) (Ag (Bi (BK Cp (AY CC (AY C4 (AB 1) AM) AM) AM (BF _)) (Ab (Aw (Cq #v[BZ,AB 0,AB 4,AY Fv (AY CC (AY C4 (AB 1) AM) AM) (AY Rq AM AM),AY DH (AB 6) AM]))) Bs) (Ab (Aw (Cq #v[BZ,AB 0,AB 4,AB 6,AY DH (AB 6) (AY CC (AY C4 (AB 1) AM) AM)])))))) Bs) (Ag (Bi (BK Cp (AY CC (AB 1) AM) AM (BF _)) (Ab (Aw (Cq #v[BZ,AB 0,AB 4,AY Fv (AY CC (AY C4 (AB 1) AM) AM) AM,AY Fv (AY CC (AY C4 (AB 1) AM) AM) AM]))) Bs) (Ag (Bi (BK Cp (AY CC (AB 1) AM) AM (BF _)) (Ab (Aw (Cq #v[BZ,AB 0,AB 4,AB 5]))) Bs) (Ab (Aw (Cq #v[BZ,AB 0,AB 4,AB 5,AY Fe (AY CC (AY C4 (AB 1) AM) AM) (AB 3)])))))))),?_⟩;have C:(0:Int)<((Z.map AE.str).length:Int):=by rw[BB];simp_all
  have A:Bx AH H b (Z.map AE.str):=AX O;lk;obtain⟨v,X,S⟩:=Ie (Z.map AE.str) _ rfl C (Y/7);obtain⟨D,U,rfl⟩:=BQ.mp S;obtain⟨v,G,F⟩:=Ie (Z.map AE.str) _ rfl C (Y/49);obtain⟨W,I,rfl⟩:=BQ.mp F;k_in;have N:0<=Y/343%19/\Y/343%19<19:=⟨Gp _ (by decide),IP _ (by decide)⟩;have z:∀a∈[D],a∈Z:=λa B=>by cases Bt.mp B;show U
  have M:∀a∈[D,W],a∈Z:=λa B=>by
    simp only[CJ,M8,AFt]at B;rcases B with rfl|rfl;.show U
    .show I
  show⟨(zzd rfl),_,.inl A,C,_,_,A,X,?_⟩;show⟨(zzd rfl),_,.inl A,C,_,_,A,G,?_⟩;show⟨(zzp rfl),rfl,_,rfl,C7 (λ_=>?_) λ_=>?_⟩
  . show⟨(zzd rfl),(zzp rfl),?_⟩;show⟨(zzd rfl),(zzp rfl),rfl,_,rfl,C7 (λ_=>?_) λ_=>?_⟩
    . show⟨_,_,rfl,rfl,⟨by decide,by decide,by decide⟩,.inr ⟨by decide,by decide⟩,_,_,rfl,rfl,⟨by decide,by decide,by decide⟩,Ba rfl,λp J=>?_⟩;show k p _ (.only n D _ _) (CB J) Ac rfl ⟨rfl,z,trivial,RD U⟩
    . show⟨(zzd rfl),(zzp rfl),rfl,_,rfl,C7 (λ_=>?_) λ_=>?_⟩;. show⟨(zzd rfl),(zzp rfl),_,_,rfl,rfl,⟨by decide,by decide,by decide⟩,Ba rfl,λp J=>?_⟩;show k p _ (.only n D _ _) (CB J) Ac rfl ⟨rfl,z,trivial,RD U⟩
      . show⟨(zzd rfl),(zzp rfl),Ba rfl,λp J=>?_⟩;show k p _ (.only n D _ _) (CB J) Ac rfl ⟨rfl,z,trivial,RD U⟩
  . show⟨(zzp rfl),rfl,_,rfl,C7 (λ_=>?_) λ_=>?_⟩;. show⟨(zzd rfl),(zzp rfl),(zzd rfl),(zzp rfl),Ba rfl,λp J=>?_⟩;show k p _ (.turn n D _ _) (CB J) Ac rfl ⟨rfl,z,by change-100<=Y/343%19-9/\Y/343%19-9<=100;(constructor<;>lia),RD U⟩
    . show⟨(zzp rfl),rfl,_,rfl,C7 (λ_=>?_) λ_=>?_⟩;. show⟨Ba rfl,λp J=>?_⟩;show k p _ (.both n D W) (CB J) Ac rfl ⟨rfl,M,trivial,RE U (.inl I)⟩
      . show⟨(zzd rfl),(zzp rfl),.inr (by rcases R with rfl|rfl<;>show⟨by decide,by decide⟩),Ba rfl,λp J=>?_⟩;show k p _ (.join n D W _) (CB J) Ac rfl ⟨rfl,M,trivial,RE U (.inl I)⟩
def qL:BG:=λY H Q _=>(IT λ(n:AG)(W c:Int)(U:AD)(J:List AG)=>Ee (Y=[.str n,.int W,.ref U,.int c]) (H U=AA (.lst (J.map AE.str))) (0<J.length) ((c=1\/c=40000)) (∀p D s,Ah H D->DF D p s->s.bj=AJ->TC J n s->Q (.ref p) D))
theorem Xu(T:BR AH Af AN):T.mv.Ok BI P w Af base 1 qL:=by
 show T.mv.ok λG _ _ _ _ _ m H r Q E h=>?_;obtain⟨n,D,c,e,Z,rfl,R,s,l,k⟩:_:=h;show⟨_,(Ag (BD 4 G (Dj AH (AB 2) (AY CC (AY C4 (AB 1) AM) (Bw (FE (K:=AH)) (by rfl) T.eh FJ #v[AB 2])))) (Ag (BD 5 G (Dj AH (Cy #v[BZ,BZ,BZ,BZ]) (AY CC (AY C4 (AB 1) AM) AM))) (Ag (Bi (BK Cp (AY CC (AB 1) AM) AM (BF _)) (Ab (Aw (Cq #v[BZ,AB 0,AB 4,AB 5,AY Fe (AY CC (AY C4 (AB 1) AM) AM) (AB 3)]))) Bs) (Ag (BD 6 G (AY Fe (AY DH AM (AY CC (AY C4 (AB 1) AM) AM)) (AB 3))) (Ab (Aw (Cq #v[BZ,AB 0,AB 4,AB 5,AY DH (AB 6) (AY CC (AY C4 (AB 1) AM) (AY Fe AM (AB 6))),AB 6]))))))),?_⟩;have O:(0:Int)<((Z.map AE.str).length:Int):=by rw[BB];simp_all
 have N:Bx AH H e (Z.map AE.str):=AX R;lk;obtain⟨v,d,X⟩:=Ie (Z.map AE.str) _ rfl O (D/7);obtain⟨U,F,rfl⟩:=BQ.mp X;k_in;have M:∀a∈[U],a∈Z:=λa S=>by cases Bt.mp S;show F
 have J:1<=c/\c<=40000:=by(constructor<;>lia)
 show⟨(zzd rfl),_,.inl N,O,_,_,N,d,?_⟩;lk;obtain⟨v,C,z⟩:=Ie ([("count":AG),"sum","least","greatest"].map AE.str) 4 rfl (by decide) (D/49);obtain⟨I,Y,rfl⟩:=BQ.mp z;k_in;have Y:I∈GJ:=Y;show⟨Ba rfl,λg B=>?_⟩;have s1:=CB (o:=.lst [AE.str "count",.str "sum",.str "least",.str "greatest"]) B;show⟨(zzd rfl),(zzp rfl),_,_,AX Ac,C,?_⟩;generalize AO H g (.lst [AE.str "count",.str "sum",.str "least",.str "greatest"])=j at s1⊢;show⟨(zzp rfl),rfl,_,rfl,C7 (λ_=>?_) λ_=>?_⟩
 . show⟨(zzd rfl),(zzp rfl),.inr ⟨JC (by decide) J.1,HG J.2 (by decide)⟩,Ba rfl,λp W=>?_⟩;show k p _ (.gap n U I _) (s1.gu W) Ac rfl ⟨rfl,M,⟨gP (Gp _ (by decide)) (J4 J.1),Y⟩,RE F (.inr Y)⟩
 . have L:0<=D/343%5/\D/343%5<5:=⟨Gp _ (by decide),IP _ (by decide)⟩;show⟨(zzd rfl),(zzp rfl),.inr ⟨JC (by decide) J.1,HG J.2 (by decide)⟩,?_⟩;have W:0<(1+D/343%5)*c:=WR (WQ L.1) J.1;have b:(1+D/343%5)*c<=5*c:=ACH (gM (gL L.2)) (J4 J.1);show⟨(zzd rfl),.inl ⟨by decide,by decide⟩,(show(0:Int)<3*((1+D/343%5)*c)by show WR (by decide) W),Ba rfl,λf A=>?_⟩;have i:=Gp (D/1715) (show 3*((1+D/343%5)*c)≠0 by show Kp (WR (by decide) W));have q:=IP (D/1715) (show 0<3*((1+D/343%5)*c)by show WR (by decide) W);show k f _ (.each n U I _ _) (s1.gu A) Ac rfl ⟨rfl,M,⟨⟨W,by lia,Qb i,by lia⟩,Y⟩,RE F (.inr Y)⟩
noncomputable def GQ(sn:List AG)(z:AG->Nat):List (AL×AE):=sn.map λa=>(.inr a,.int (z a:Int))
theorem rL(h:a∈sn):Bv (GQ sn z) (.inr a)=AA (.int (z a:Int)):=by
 unfold Bv GQ;rw[List.find?_map];have J:(sn.find? ((λU:AL×AE=>Ae (U.1=.inr a))∘λa=>((.inr a),AE.int (z a)))).isSome=AJ:=by rw[List.find?_isSome];show⟨a,h,by simp⟩
 obtain⟨b,D⟩:=Vq.mp J;have e:=ACY D;have e:=by simpa using e
 rw[D,e];rfl
noncomputable def JO(z:AG->Nat)(n:AG)(m:Nat):AG->Nat:=λa=>if a=n then m else z a
theorem mV{m:Nat}(h:n∉sn):Bp (GQ sn z) (.inr n) (.int (m:Int))=GQ (sn++[n]) (JO z n m):=by
  unfold Bp;rw[AFh]
  . unfold GQ;rw[DJ];congr 1
    . show M6 λa D=>?_;have:JO z n m a=z a:=AFh λe=>h (by rw[<-e];show D);rw[this]
    . change[_]=[((.inr n:AL),AE.int _)];rw[show JO z n m n=m from AFi rfl]
  . intro q;obtain⟨U,J,e⟩:=Vb.mp q;obtain⟨a,D,rfl⟩:=BQ.mp J;have e:=by simpa using e
    show h (by rw[<-e];show D)
theorem qZ(sn:List AG)(z:AG->Nat):(GQ sn z).map (λp=>Au p.1)=sn.map AE.str:=by unfold GQ;rw[C8];rfl
theorem Wk(h:∀a∈s.bo,D a=z a):FX s D m=FX s z m:=by cases s with|take=>rfl|only n a=>show h a (.head _)|turn n a=>show h a (.head _)|gap n a=>show h a (.head _)|each n a=>show h a (.head _)|both n a b=>change D a+D b=z a+z b;rw[h a (.head _),h b (.tail _ (.head _))]|join n a b=>change D a*D b=z a*z b;rw[h a (.head _),h b (.tail _ (.head _))]
structure Lb(mo:Nat)(zs:List AG)(ss:List AU)(z:AG->Nat)(sn:List AG):Prop where
 adj:∀(i:Nat)s,ss[i]?=AA s->zs[i]?=AA s.nm
 ph:∀(i:Nat)s a,ss[i]?=AA s->a∈s.bo->∃(i':Nat)(s':AU),i'<i/\ss[i']?=AA s'/\s'.nm=a/\s'.bj=AQ
 ok:∀s∈ss,O2 s
 yj:∀s∈ss,∀t∈s.yj,C0 t
 adm:∀a∈sn,∃(i:Nat)(s:AU),ss[i]?=AA s/\s.nm=a/\s.bj=AQ
 aem:∀(i:Nat)s,ss[i]?=AA s->s.bj=AQ->z s.nm=FX s z mo/\z s.nm<=600
 ne:0<sn.length
structure MW(sn:List AG)(n:AG)(s:AU):Prop where
 nm:s.nm=n
 ph:∀a∈s.bo,a∈sn
 ok:O2 s
 yj:∀t∈s.yj,C0 t
theorem gV:∀t∈GJ,C0 t:=by
 have:∀t∈GJ,(∀c∈t.cps.toList,97<=c/\c<123)/\t.length<=12:=by decide+kernel
 show this
theorem TC.g(h:TC J n s)(D:∀a∈J,a∈sn)(V:C0 n)(U:∀a∈sn,C0 a):MW sn n s:=⟨h.nm,λa m=>D a (h.ph a m),h.ok,λt m=>by
 rcases h.yj t m with rfl|q|q;.show V
 .show U _ (D _ q)
 .show gV _ q⟩
theorem UE(J:C0 n)(D:C0 k):MW sn n (.take n k):=by
 show⟨rfl,λa h=>(by cases h),trivial,λt h=>?_⟩;have h:t∈[n,k]:=h;simp at h;rcases h with rfl|rfl;.show J
 .show D
theorem UB{l:List D}(h:(l++[x])[i]?=AA y):l[i]?=AA y\/(i=l.length/\y=x):=by
 rcases cD i _ with q|q|q;.rw[OC q]at h;show .inl h
 . subst q;rw[Py (Al _),cH]at h;show .inr ⟨rfl,(Bz h).symm⟩
 .rw[AAG (by rw[CI];assumption)]at h;cases h
theorem UC{D:Type}{l:List D}{x y:D}{i:Nat}(h:l[i]?=AA y):(l++[x])[i]?=AA y:=by rw[OC (BV.mp h).1];show h
theorem Lb.abn(h:Lb C D ss z sn)(Z:D.Nodup)(B:D[ss.length]?=AA n):∀(i:Nat)s,ss[i]?=AA s->s.nm≠n:=λi s J e=>by have q:=h.adj i s J;rw[e]at q;obtain⟨W,U⟩:=BV.mp q;obtain⟨Y,V⟩:=BV.mp B;have A:=(BV.mp J).1;show(HV.mp Z) i _ W Y A (U.trans V.symm)
theorem Lb.abo(h:Lb W D ss z sn)(U:D.Nodup)(V:D[ss.length]?=AA n):n∉sn:=λm=>by obtain⟨i,s,J,e,_⟩:_:=h.adm n m;show h.abn U V i s J e
theorem Lb.abj(h:Lb A G ss z sn)(H:G.Nodup)(C:G[ss.length]?=AA n)(g:MW sn n s)(E:s.bj=AJ/\Y=sn/\F=z\/s.bj=AQ/\Y=sn++[n]/\F=JO z n (FX s z A)/\FX s z A<=600):Lb A G (ss++[s]) F Y:=by
  have I:∀a,a≠n->F a=z a:=λa D=>by
    rcases E with⟨_,_,rfl⟩|⟨_,_,rfl,_⟩;.rfl
    .show AFh D
  have K:∀a∈sn,a≠n:=λa m e=>h.abo H C (by rw[<-e];show m);show⟨λi t Z=>?_,λi t a Z D=>?_,λt V=>?_,λt V=>?_,λa D=>?_,λi t Z V=>?_,?_⟩
  . rcases UB Z with q|⟨rfl,rfl⟩;.show h.adj i t q
    .rw[g.nm];show C
  . rcases UB Z with q|⟨rfl,rfl⟩
    . obtain⟨W,J,l,U,r⟩:_:=h.ph i t a q D;show⟨W,J,l,UC U,r⟩
    . obtain⟨W,J,U,r⟩:_:=h.adm a (g.ph a D);show⟨W,J,(BV.mp U).1,UC U,r⟩
  . rcases DN.mp V with q|q;.show h.ok t q
    .cases Bt.mp q;show g.ok
  . rcases DN.mp V with q|q;.show h.yj t q
    .cases Bt.mp q;show g.yj
  . have B:a∈sn->∃(i:Nat)(J:AU),(ss++[s])[i]?=AA J/\J.nm=a/\J.bj=AQ:=λm=>by obtain⟨W,J,U,r⟩:=h.adm a m;show⟨W,J,UC U,r⟩
    rcases E with⟨_,rfl,_⟩|⟨M,rfl,_⟩;.show B D
    . rcases DN.mp D with q|q;.show B q
      . cases Bt.mp q;show⟨_,s,by rw[Py (Al _),cH];rfl,g.nm,M⟩
  . rcases UB Z with q|⟨rfl,rfl⟩
    . rw[I _ (h.abn H C i t q),Wk λa D=>?_];.show h.aem i t q V
      . obtain⟨W,J,_,U,rfl,_⟩:_:=h.ph i t a q D;show I _ (h.abn H C W J U)
    . rw[Wk λa D=>I a (K a (g.ph a D)),g.nm];rcases E with⟨q,_⟩|⟨_,_,rfl,L⟩;.rw[q]at V;cases V
      . rw[show JO z n _ n=FX t z A from AFi rfl];show⟨rfl,L⟩
  . rcases E with⟨_,rfl,_⟩|⟨_,rfl,_⟩;.show h.ne
    .rw[CI];show Bc h.ne (P1 _ _)
theorem Lb.ie(h:Lb F A ss z sn)(E:A.Nodup):C3 ss:=⟨λi V s G e B q=>by
 have U:=h.adj i s e;have C:=h.adj V G B;rw[q]at U;lk;obtain⟨W,D⟩:=BV.mp U;obtain⟨Y,J⟩:=BV.mp C;k_in;have Z:=HV.mp E;rcases cD i V with r|r|r;.show absurd (D.trans J.symm) (Z _ _ W Y r)
 .show r
 .show absurd (J.trans D.symm) (Z _ _ Y W r),h.ph,h.ok⟩
theorem iJ(wi:Int)(A B:List AR):(DK wi A B).length<=A.length*B.length:=by have h:=Wr wi A B;rw[TN,BB]at h;show h
theorem XY(B:C3 ss)(J:∀(i:Nat)s,ss[i]?=AA s->s.bj=AQ->z s.nm=FX s z W/\z s.nm<=600)(A:evs.length<=W)(Z:∀(i:Nat)s,i<N->ss[i]?=AA s->s.bj=AQ->L s.nm=Ef s L evs):∀(m i:Nat)s,m<=N->i<m->ss[i]?=AA s->s.bj=AQ->(L s.nm).length<=z s.nm
 |0,i,s,_,D,_,_=>absurd D (MH _)|m+1,i,s,Y,D,V,U=>by
  have f:∀a∈s.bo,(L a).length<=z a:=λa E=>by obtain⟨F,G,l,C,rfl,H⟩:=B.ph i s a V E;show XY B J A Z m F G (D8 Y) (Bc l (EM D)) C H
  rw[Z i s (Bc D Y) V U,(J i s V U).1];cases s with |take n k=> change((evs.filter _).map _).length<=W;rw[BB];show Ak (Ff _ _) A|only n a M D=>show Ak (Ff _ _) (f a (.head _))|turn n a x y=>change((L a).map _).length<=_;rw[BB];show f a (.head _)|both n a b=>change(L b++L a).length<=z a+z b;have I:=f a (.head _);have K:=f b (.tail _ (.head _));rw[CI];lia|join n a b O=>show Ak (iJ ..) (cF (f a (.head _)) (f b (.tail _ (.head _))))|gap=>cases U|each=>cases U
theorem iO(sn:List AG)(h:0<sn.length):∃x,x∈sn/\Gw (sn.map AE.str) (AA (-1)) AF=[x].map AE.str:=by
 have U:(sn.map AE.str).length=sn.length:=BB _;have D:CT (sn.map AE.str).length 0 (AA (-1))=sn.length-1:=by change(if(-1)<0 then((-1:Int)+((sn.map AE.str).length)).toNat else Ds (-1).toNat (sn.map AE.str).length)=_;lia
 have J:CT (sn.map AE.str).length _ AF=sn.length:=U;show⟨sn[sn.length-1]'(Vp h (by decide)),AAJ _,?_⟩;unfold Gw;rw[D,J,<-List.map_drop,bN _,show sn.length-(sn.length-1)=0+1 by show cJ h];rfl
theorem D1.yi(h:D1 H ps ss)(e:DF H p s):D1 H (ps++[.ref p]) (ss++[s]):=Eh h (.cons ⟨p,rfl,e⟩ .nil)
def pQ(K:Aq):BG:=λZ H Q _=>(ER λ(a:AD)(W:List Int)(U:Nat)=>Ee (Z=[.ref a,.int (U:Int)]) (Bx K H a (W.map AE.int)) (W.length<=63) (U<=20) (∀l J Y D z,Ah H J->H l=AF->J l=AA (.lst Y)->D1 J Y D->C3 D->D.length<=8->(∀s∈D,∀t∈s.yj,C0 t)->(∀(i:Nat)s,D[i]?=AA s->s.bj=AQ->z s.nm=FX s z U/\z s.nm<=600)->Q (.ref l) J))
noncomputable def Na(a:AD)(z:Nat)(Z Y:AD)(c:Int)(u d:AD)(A m j:Int)(D J U W:Option AE):Ai:=(hV a (z:Int) Z Y c u d A m j D J U W)
unseal FC in theorem X5{X:Be}{l:List Cj}{t u:Cw}(n:Nat)(h1:FC X (l.take n) t)(h2:FC X (l.drop n) u):FC X l (aW t u):=λpins s σ H D I h=>by
 have U:∀(J V:List Cj),execs (J++V) X.af=(do let f<-execs J X.af;match f with|.next=>execs V X.af|f=>Bf f):=λJ V=>by induction J with |nil=>rw[arm_execs_nil,bK];rfl|cons a J Y=> rw[R8,AEH,AEH,bind_assoc];congr 1;funext f;cases f with |next=>show Y|ret v=>rw[bK]|brk=>rw[bK]|cont=>rw[bK]
 rw[<-OE n l,U];show BL (A1 (h1 _ s σ H ⟨u D,D.rt,D.bk,D.ct⟩ I (h _ _ _ _ λ_ _ z=>z)) λf s1 q=>?_);cases f with|next=>obtain⟨Z,H',W,q⟩:=q;show h2 _ s1 _ H' D W q|ret v=>show Cn q|brk=>show Cn q|cont=>show Cn q
theorem lN(T:BR AH Af AN):T.qm.Ok BI P w Af base 3 (pQ AH):=by
  show T.qm.ok λnd _ _ _ _ _ hr H vs Q E h=>?_;obtain⟨a,ns,mo,rfl,hS,hl,hmo,k⟩:_:=h;show⟨_,(X5 8 (Ag (BD 2 nd (Ax (Q0 T) hr #v[AB 0,AM,AM])) (Ag (BD 3 nd (Ax (Q0 T) hr #v[AB 0,AM,AM])) (Ag (BD 4 nd (Ax (T1 T) hr #v[AB 0])) (Ag (BD 5 nd (Cy #v[Cq #v[BZ,Dj AH (AB 2) AM,Dj AH (AB 3) AM]])) (Ag (BD 6 nd (Zy (My (Dj AH (AB 2) AM) (AB 1) Z4) (by rfl) (by rfl) (by intro z;cases z) (by decide))) (Ag (BD 7 nd AM) (Ag (BD 8 nd (AY DH AM (AY CC (Ax (Kv T) hr #v[AB 0,AM]) AM))) (Ab (BD 9 nd (AY CC (AY C4 (Ax (Kv T) hr #v[AB 0,AM]) AM) AM)))))))))) (Ag (EG EN rfl (wX (by rfl) T.qw #v[AM,AY DH (AB 8) AM]) (EF 10 nd) (X5 3 (Ag (BD 11 nd (Ax (Tz T) hr #v[AB 0,AY DH AM (AB 10)])) (Ag (BD 12 nd (JV (Ub (K:=AH) rfl) (by rfl) T.jc Ki #v[AB 6])) (Ab (BD 13 nd (Ax (Xs T) hr #v[Dj AH (AB 2) (AB 10),AB 11,AB 12,AB 4]))))) (Ag (Jt (Bi (BK Cp (AB 10) (AB 8) (BF _)) (Ab (BD 13 nd (Ax (Xu T) hr #v[Dj AH (AB 2) (AB 10),AB 11,AY Jr (IC (LI (K:=AH)) (AB 12) (G5 (VG VW AM)) JX) (AY wF (AB 12) (AY Fv AM (AB 9))),AB 4]))) (Ab (Bi (Gd (Pn (BK Cp (AB 10) (AY Fv (AB 8) AM) (BF _)) (Po (BK Cp (AB 9) AM (BF _))))) (Ab (BD 13 nd (Ax (Xs T) hr #v[Dj AH (AB 2) (AB 10),AY DH (AY Fe (AY C4 (AB 11) AM) AM) AM,AB 12,AB 4]))) (Ab (Bi (BK Cp (AY CC (AB 11) AM) AM (BF _)) (Ab (BD 13 nd (Cq #v[BZ,Dj AH (AB 2) (AB 10),Dj AH (AB 3) (AY CC (AY C4 (AB 11) AM) AM)]))) (Ab (Bi (Gd (Fx (BK Cp (AY CC (AB 11) AM) AM (BF _)) (Fx (BK Cp (AY CC (AB 11) AM) AM (BF _)) (JZ (BK Cp (AB 7) AM (BF _)))))) (Ab (BD 13 nd (Ax (Xu T) hr #v[Dj AH (AB 2) (AB 10),AB 11,AB 12,AB 4]))) Bs)))))))) (Ag (Jt (Bi (BK (VC (K:=AH)) (Av AH (AB 13) AM) (Cq #v[BZ,BZ]) (by with_unfolding_all rfl)) (Ag (Jt (Bi (BK LA (Ax (Xg T) hr #v[AB 13,AB 6,AB 1]) AM (BF _)) (Ab (BD 13 nd (Cq #v[BZ,Dj AH (AB 2) (AB 10),Dj AH (AB 3) AM]))) Bs)) (Ag (JY hr.u1 (AB 6) (Dj AH (AB 2) (AB 10)) (Ax (Xg T) hr #v[AB 13,AB 6,AB 1]) rfl) (Ab (BD 7 nd (AY DH (AB 7) (JV Y0 (by rfl) T.ym Vv #v[(Ik (Pf (K:=AH)) (Av AH (AB 13) AM) (Cq #v[BZ,BZ]) (by with_unfolding_all rfl))])))))) Bs)) (Ab (FT (L7 AH (AB 5) #v[AB 13]))))))) (Ab (Aw (AB 5))))),?_⟩;have sz:Ay=16777216:=Dc;showλ_ _ _ _ z1=>⟨a,ns,1,8,rfl,hS,hl,by decide,by decide,by decide,λln Ha zs sa hln eln lz dz az=>?_⟩;show⟨a,ns,2,2,rfl,sa.vd hS,hl,by decide,by decide,by decide,λlk Hk ks sk hlk elk lks _ ak=>?_⟩;have lz:zs.length=8:=Ko.mp lz;have lks:ks.length=2:=Ko.mp lks;have sak:=sa.aa sk;show⟨a,ns,rfl,sak.vd hS,hl,λc Hb sb hc=>?_⟩;have s0b:=sak.aa sb;have elnb:=sb _ _ (sk _ _ eln);have elkb:=sb _ _ elk;have hSb:=s0b.vd hS;clear sa sk hln hlk eln elk sak sb;have natz:∀{i:Nat}{n:AG},zs[i]?=AA n->DM (zs.map AE.str) (i:Int)=AA (.str n):=λ{i n}e=>Ap (xs:=zs.map AE.str) (v:=.str n) (by rw[CD,e];rfl);lk;obtain⟨n0,en0⟩:∃n,zs[0]?=AA n:=⟨_,Cr (by simp_all)⟩;obtain⟨k0,ek0⟩:∃n,ks[0]?=AA n:=⟨_,Cr (by simp_all)⟩;k_in;have atk0:DM (ks.map AE.str) 0=AA (.str k0):=Ap (xs:=ks.map AE.str) (j:=0) (v:=.str k0) (by rw[CD,ek0];rfl);have an0:C0 n0:=az _ (Ct en0);have ak0:C0 k0:=ak _ (Ct ek0);show⟨_,_,AX elnb,natz en0,_,_,AX elkb,atk0,Ba rfl,λp0 hp0=>?_⟩;have g1:=CB (o:=.tup [AE.str "take",.str n0,.str k0]) hp0;have ep0:DF (AO Hb p0 (.tup [AE.str "take",.str n0,.str k0])) p0 (.take n0 k0):=Ac;generalize AO Hb p0 (.tup [AE.str "take",.str n0,.str k0])=Hc at g1 ep0⊢;show⟨Ba rfl,λu hu=>?_⟩;show BM (o:=.lst [AE.ref p0]) hu λHd g2 eu=>?_;showλd hd=>?_;have g3:=CB (o:=.dK []) hd;have ed:(AO Hd d (.dK [])) d=AA (.dK []):=Ac;generalize hHe:AO Hd d (.dK [])=He at g3 ed⊢;show⟨_,_,AX (g3 _ _ (g2 _ _ (g1 _ _ elnb))),natz en0,ed,[(.inr n0,.int (mo:Int))],rfl,Ba rfl,?_⟩;have g4:Ah Hb (AO He d (.dK (IA [] [(.inr n0,.int (mo:Int))]))):=by rw[<-hHe];show((g1.aa g2).aa (CB hd)).vh ((g1.aa g2).au hd)
  have ed4:(AO He d (.dK (IA [] [(.inr n0,.int (mo:Int))]))) d=AA (.dK (GQ [n0] λ_=>mo)):=Ac;have nud:u≠d:=BE eu hd;have npd:p0≠d:=BE (g2 _ _ ep0) hd;have eu4:(AO He d (.dK (IA [] [(.inr n0,.int (mo:Int))]))) u=AA (.lst [AE.ref p0]):=by rw[AW nud];show g3 _ _ eu
  have ep4:DF (AO He d (.dK (IA [] [(.inr n0,.int (mo:Int))]))) p0 (.take n0 k0):=by change(AO He d _) p0=_;rw[AW npd];show g3 _ _ (g2 _ _ ep0)
  have fu:Hb u=AF:=g1.au hu;have fd:Hb d=AF:=(g1.aa g2).au hd;generalize AO He d (.dK (IA [] [(.inr n0,.int (mo:Int))]))=H0 at g4 ed4 eu4 ep4⊢;clear g1 g2 g3 ed eu ep0 hHe;show⟨a,ns,_,rfl,g4.vd hSb,by decide,hl,λc1=>⟨(zzp rfl),?_⟩⟩;show⟨a,ns,_,rfl,g4.vd hSb,by decide,hl,λc2=>⟨(zzd rfl),(zzp rfl),z1 _ _ ?_⟩⟩;have b6:0<=c1%6/\c1%6<6:=⟨Gp _ (by decide),IP _ (by decide)⟩;have b2:0<=c2/6%2/\c2/6%2<2:=⟨Gp _ (by decide),IP _ (by decide)⟩;generalize c1%6=m1 at b6⊢;have pl0:Lb mo zs [.take n0 k0] (λ_=>mo) [n0]:=by
    show⟨λi s e=>?_,λi s x e hx=>?_,λs hs=>?_,λs hs=>?_,λx hx=>?_,λi s e _=>?_,Nat.one_pos⟩;.match i,e with|0,e=>cases e;show en0
    .match i,e with|0,e=>cases e;cases hx
    .cases Bt.mp hs;trivial
    .cases Bt.mp hs;show(UE (sn:=[]) an0 ak0).yj
    .cases Bt.mp hx;show⟨0,_,rfl,rfl,rfl⟩
    .match i,e with|0,e=>cases e;show⟨rfl,Ak hmo (by decide)⟩
  show⟨1,_,rfl,⟨by decide,by decide,by lia,by lia⟩,?_⟩;show Ul (λj σ H'=>(J6 λ(o10 o11 o12 o13:Option AE)(wd:Int)(ps:List AE)(ss:List AU)(z:AG->Nat)(sn:List AG)=>Kq (σ=Na a mo ln lk c u d wd (2+m1) (c2/6%2) o10 o11 o12 o13) (Ah Hb H') (H' u=AA (.lst ps)) (D1 H' ps ss) (ss.length=j+1) (H' d=AA (.dK (GQ sn z))) (sn.length<=j+1) (Lb mo zs ss z sn))) ⟨AF,AF,AF,AF,1,_,_,_,_,rfl,g4,eu4,.cons ⟨p0,rfl,ep4⟩ .nil,rfl,ed4,Al _,pl0⟩ ?_ ?_
  . clear g4 ed4 eu4 ep4 pl0;intro j σ H1 hj hI;lk;obtain⟨o10,o11,o12,o13,wd,ps,ss,z,sn,rfl,s1,eu1,pr1,ls1,ed1,lsn,pl1⟩:=hI;have hj8:j<7:=by lia
    obtain⟨n,en⟩:∃n,zs[j+1]?=AA n:=⟨_,Cr (by lia)⟩;k_in;have an:C0 n:=az _ (Ct en);have atn:DM (zs.map AE.str) (1+(j:Int))=AA (.str n):=by have:=natz en;rwa[show(((j+1:Nat)):Int)=1+(j:Int)by lia]at this
    have asn:∀x∈sn,C0 x:=λx hx=>by obtain⟨i,s,ei,rfl,_⟩:=pl1.adm x hx;show az _ (Ct (pl1.adj i s ei))
    have enl:zs[ss.length]?=AA n:=by rw[ls1];show en
    showλ_ _ _ _ z2=>⟨a,ns,_,rfl,s1.vd hSb,hl,by(constructor<;>lia),λnn nn0=>?_⟩;show⟨d,_,rfl,ed1,λls hls=>?_⟩;rw[qZ];show BM (o:=.lst (sn.map AE.str)) hls λH2 g1 els=>?_;show⟨_,_,AX (g1 _ _ (s1 _ _ elnb)),atn,n,nn,c,ls,sn,rfl,els,pl1.ne,hc,λp1 H3 st1 g2 ep1 ht1 so1=>z2 _ _ ?_⟩;have s3:=s1.aa (g1.aa g2);have els3:=g2 _ _ els;have hln3:Bx AH H3 ln _:=AX (s3 _ _ elnb);obtain⟨N1,rest,n1⟩:∃N1:Ai->AI->Prop,(∀{p:AD}{st:AU}{H':AI},Ah H3 H'->DF H' p st->MW sn n st->N1 (Na a mo ln lk c u d wd (2+m1) (c2/6%2) (AA (.int (1+(j:Int)))) (AA (.int nn)) (AA (.ref ls)) (AA (.ref p))) H')/\∀σ' H',N1 σ' H'->JQ (λ(p:AD)(st:AU)=>σ'=Na a mo ln lk c u d wd (2+m1) (c2/6%2) (AA (.int (1+(j:Int)))) (AA (.int nn)) (AA (.ref ls)) (AA (.ref p))) (λ_ _=>Ah H3 H') (λp st=>DF H' p st) (λ_ st=>MW sn n st):=⟨_,λs e g=>⟨_,_,rfl,s,e,g⟩,λ_ _ h=>h⟩;show Jp N1 ?_ ?_
    . show⟨rfl,_,rfl,C7 (λ_=>?_) λ_=>?_⟩
      . obtain⟨x,hx,ex⟩:_:=iO sn pl1.ne;show⟨_,_,hln3,atn,(-1:Int),rfl,ls,_,rfl,AX els3,λl1 hl1=>?_⟩;rw[ex];show BM (o:=.lst ([x].map AE.str)) hl1 λH4 h1 el1=>?_;have jb:(1-c2/6%2).toNat<=1:=Su.mpr (ACN _ b2.1);show⟨ls,_,_,rfl,rfl,h1 _ _ els3,by lia,Int.sub_lt_of_sub_lt (JC (by decide) b2.1),?_,λl2 hl2=>?_⟩
        . rw[BB];have:=cF (show sn.length<=8 by lia) jb;(constructor<;>lia)
        have el2:(AO H4 l2 (.lst (FI (1-c2/6%2).toNat (sn.map AE.str)).flatten)) l2=AA (.lst ((FI (1-c2/6%2).toNat sn).flatten.map AE.str)):=by rw[Ac,List.map_flatten,List.map_replicate]
        have h2:=CB (o:=.lst (FI (1-c2/6%2).toNat (sn.map AE.str)).flatten) hl2;generalize AO H4 l2 (.lst (FI (1-c2/6%2).toNat (sn.map AE.str)).flatten)=H5 at h2 el2⊢;have lr:=ZZ sn (1-c2/6%2).toNat;have lr1:=cF jb (show sn.length<=8 by lia);show⟨l1,l2,_,_,rfl,rfl,h2 _ _ el1,el2,?_,λl3 hl3=>?_⟩
        . rw[BB,BB,lr];change 1+_<=_;(constructor<;>lia)
        have el3:(AO H5 l3 (.lst ([x].map AE.str++(FI (1-c2/6%2).toNat sn).flatten.map AE.str))) l3=AA (.lst (([x]++(FI (1-c2/6%2).toNat sn).flatten).map AE.str)):=by rw[Ac,DJ]
        have h3:=CB (o:=.lst ([x].map AE.str++(FI (1-c2/6%2).toNat sn).flatten.map AE.str)) hl3;generalize AO H5 l3 (.lst ([x].map AE.str++(FI (1-c2/6%2).toNat sn).flatten.map AE.str))=H6 at h3 el3⊢;show⟨n,nn,c,l3,_,rfl,el3,cL _,hc,λp H' st s ep ht so=>rest ((h1.aa (h2.aa h3)).aa s) ep (so.g (λy hy=>?_) an asn)⟩;rcases DN.mp hy with q|q;.cases Bt.mp q;show hx
        . obtain⟨l,hl,hy⟩:_:=List.mem_flatten.mp q;rw[(List.mem_replicate.mp hl).2]at hy;show hy
      . have tk:∀{H':AI}{kd:AG},Ah H3 H'->kd∈ks->∀p,H' p=AF->N1 (Na a mo ln lk c u d wd (2+m1) (c2/6%2) (AA (.int (1+(j:Int)))) (AA (.int nn)) (AA (.ref ls)) (AA (.ref p))) (AO H' p (.tup [.str "take",.str n,.str kd])):=λ{H' kd}s hk p hp=>rest (s.gu hp) (st:=.take n kd) Ac (UE an (ak _ hk));lk;obtain⟨v,hvk,hmk⟩:=Ie (ks.map AE.str) 2 (by rw[BB,lks];rfl) (by decide) (nn/7);obtain⟨kd,mk,rfl⟩:=BQ.mp hmk;k_in;show⟨rfl,_,rfl,C7 (λ_=>⟨rfl,_,rfl,C7 (λ_=>?_) λ_=>?_⟩) λ_=>Ce ?_⟩;.show⟨_,_,hln3,atn,(zzd rfl),.inr ⟨by decide,by decide⟩,n,_,c,ls,sn,rfl,els3,pl1.ne,hc,λp H' st s ep ht so=>rest s ep (so.g (λ_ h=>h) an asn)⟩
        . show⟨(zzp rfl),rfl,_,rfl,C7 (λ_=>?_) λ_=>?_⟩;.show⟨_,_,hln3,atn,(zzd rfl),(zzp rfl),_,_,AX (s3 _ _ elkb),hvk,Ba rfl,λp hp=>tk (CA _) mk p hp⟩
          .show⟨(zzp rfl),rfl,_,rfl,C7 (λ_=>Fd ?_) λ_=>⟨(zzp rfl),rfl,_,rfl,C7 (λ_=>Fd ?_) λ_=>⟨rfl,_,rfl,C7 (λ_=>?_) λ_=>rest (CA _) ep1 (so1.g (λ_ h=>h) an asn)⟩⟩⟩<;>show⟨_,_,hln3,atn,n,nn,c,ls,sn,rfl,els3,pl1.ne,hc,λp H' st s ep ht so=>rest s ep (so.g (λ_ h=>h) an asn)⟩
        . show⟨(zzp rfl),rfl,_,rfl,C7 (λ_=>?_) λ_=>?_⟩;.show⟨_,_,hln3,atn,(zzd rfl),(zzp rfl),_,_,AX (s3 _ _ elkb),hvk,Ba rfl,λp hp=>tk (CA _) mk p hp⟩
          .show⟨(zzp rfl),rfl,_,rfl,C7 (λ_=>Fd ?_) λ_=>⟨(zzp rfl),rfl,_,rfl,C7 (λ_=>Fd ?_) λ_=>⟨rfl,_,rfl,C7 (λ_=>?_) λ_=>rest (CA _) ep1 (so1.g (λ_ h=>h) an asn)⟩⟩⟩<;>show⟨_,_,hln3,atn,n,nn,c,ls,sn,rfl,els3,pl1.ne,hc,λp H' st s ep ht so=>rest s ep (so.g (λ_ h=>h) an asn)⟩
    . intro σ' H4 hI;obtain⟨p,st,rfl,s4,ep,sg⟩:_:=n1 _ _ hI;have sb4:=s3.aa s4;have g14:=(g1.aa g2).aa s4;have eu4:=g14 _ _ eu1;have ed4:=g14 _ _ ed1;have pr4:=pr1.ae g14.tp;clear rest n1 hI g1 g2 g14 els els3 hln3 s3 s4 eu1 ed1 pr1 ep1 so1;have nin:=pl1.abo dz enl;show Jp (λσ' H'=>(IT λ(p:AD)(st:AU)(wd:Int)(z':AG->Nat)(sn':List AG)=>Kq (σ'=Na a mo ln lk c u d wd (2+m1) (c2/6%2) (AA (.int (1+(j:Int)))) (AA (.int nn)) (AA (.ref ls)) (AA (.ref p))) (Ah Hb H') (H' u=AA (.lst ps)) (D1 H' ps ss) (H' d=AA (.dK (GQ sn' z'))) (sn'.length<=j+2) (DF H' p st) (Lb mo zs (ss++[st]) z' sn'))) ?_ ?_
      . obtain⟨e0,e1,_⟩:_:=ep.gj;show⟨_,_,e0,e1,Ba rfl,λq hq=>?_⟩;have g5:=CB (o:=.tup HH) hq;show⟨_,HH,rfl,.inr (Ar Ac),rfl,rfl,_,rfl,K8 (λht=>?_) λht=>?_⟩
        . have tf:st.bj=AQ:=by have ht:(!EY (.str st.gj) HH)=AJ:=ht;rw[Nf]at ht;simpa using ht
          have sb5:=sb4.aa g5;have eu5:=g5 _ _ eu4;have ed5:=g5 _ _ ed4;have pr5:=pr4.ae g5.tp;have ep5:=ep.tp g5.tp;have g5:Ah H4 (AO H4 q (.tup [AE.str "each",.str "gap"])):=g5;have sb5:Ah Hb (AO H4 q (.tup [AE.str "each",.str "gap"])):=sb5;have eu5:(AO H4 q (.tup [AE.str "each",.str "gap"])) u=_:=eu5;have ed5:(AO H4 q (.tup [AE.str "each",.str "gap"])) d=_:=ed5;have pr5:D1 (AO H4 q (.tup [AE.str "each",.str "gap"])) ps ss:=pr5;have ep5:DF (AO H4 q (.tup [AE.str "each",.str "gap"])) p st:=ep5;generalize AO H4 q (.tup [AE.str "each",.str "gap"])=H5 at g5 sb5 eu5 ed5 pr5 ep5⊢;have hz:∀{st:AU},MW sn n st->∀a∈st.bo,Bv (GQ sn z) (.inr a)=AA (.int (z a:Int))/\z a<=600:=λ{st}g x hx=>by show⟨rL (g.ph x hx),?_⟩;obtain⟨i,s',ei,rfl,t'⟩:=pl1.adm x (g.ph x hx);show(pl1.aem i s' ei t').2
          show Jp (λσ' H'=>RR (λ(p:AD)(st:AU)=>σ'=Na a mo ln lk c u d wd (2+m1) (c2/6%2) (AA (.int (1+(j:Int)))) (AA (.int nn)) (AA (.ref ls)) (AA (.ref p))) (λ_ _=>Ah H5 H') (λp st=>DF H' p st) (λ_ st=>MW sn n st) (λ_ st=>st.bj=AQ) (λ_ st=>FX st z mo<=600)) ?_ ?_;. show⟨p,d,st,_,z,mo,rfl,ep5,ed5,hz sg,_,rfl,GU (λh=>?_) λh=>⟨p,st,rfl,CA _,ep5,sg,tf,gQ.mp (MS h)⟩⟩;show⟨_,_,AX (sb5 _ _ elnb),atn,_,_,AX (sb5 _ _ elkb),atk0,Ba rfl,λp2 hp2=>⟨p2,.take n k0,rfl,CB hp2,Ac,UE an ak0,rfl,by change mo<=600;show Ak hmo (by decide)⟩⟩
          . intro σ' H6 hI;obtain⟨p,st,rfl,s6,ep6,sg6,tf6,hb6⟩:_:=hI;have ed6:=s6 _ _ ed5;show⟨p,d,st,_,z,mo,rfl,ep6,ed6,hz sg6,_,_,AX (s6 _ _ (sb5 _ _ elnb)),atn,d,_,rfl,Mi (k:=.inr n) ed6 ?_,?_⟩;. unfold GQ;rw[BB];lia
            rw[mV nin];have ndo:∀{b:AD}{o:Bg},H6 b=AA o->(∀kv,o≠.dK kv)->b≠d:=λeo hn z=>by rw[z,ed6]at eo;show hn _ (Bz eo).symm
            have k7:∀{b:AD}{o:Bg},H6 b=AA o->(∀kv,o≠.dK kv)->(AO H6 d (.dK (GQ (sn++[n]) (JO z n (FX st z mo))))) b=AA o:=λeo hn=>by rw[AW (ndo eo hn)];show eo
            have tp7:By H6 (AO H6 d (.dK (GQ (sn++[n]) (JO z n (FX st z mo))))):=λb xs eo=>k7 eo (by intro kv z;cases z);have sb7:Ah Hb (AO H6 d (.dK (GQ (sn++[n]) (JO z n (FX st z mo))))):=(sb5.aa s6).vh fd;have eu7:=k7 (s6 _ _ eu5) (by intro kv z;cases z);have ed7:(AO H6 d (.dK (GQ (sn++[n]) (JO z n (FX st z mo))))) d=AA (.dK (GQ (sn++[n]) (JO z n (FX st z mo)))):=Ac;have pr7:=(pr5.ae s6.tp).ae tp7;have ep7:=ep6.tp tp7;generalize AO H6 d (.dK (GQ (sn++[n]) (JO z n (FX st z mo))))=H7 at sb7 eu7 ed7 pr7 ep7⊢;obtain⟨f0,f1,_⟩:_:=ep7.gj;show⟨_,_,f0,f1,Ba rfl,λq7 hq7=>?_⟩;have g8:=CB (o:=.tup NN) hq7;show⟨_,NN,rfl,.inr (Ar Ac),rfl,rfl,.inr ⟨_,rfl,?_⟩⟩;show⟨p,st,_,JO z n (FX st z mo),sn++[n],rfl,sb7.aa g8,g8 _ _ eu7,pr7.ae g8.tp,g8 _ _ ed7,?_,ep7.tp g8.tp,pl1.abj dz enl sg6 (.inr ⟨tf6,rfl,rfl,hb6⟩)⟩;rw[CI];change sn.length+1<=_;show Jx.mpr lsn
        . have tt:st.bj=AJ:=by have ht:(!EY (.str st.gj) HH)=AQ:=ht;rw[Nf]at ht;simpa using ht
          show⟨p,st,wd,z,sn,rfl,sb4.aa g5,g5 _ _ eu4,pr4.ae g5.tp,g5 _ _ ed4,Kf lsn,ep.tp g5.tp,pl1.abj dz enl sg (.inl ⟨tt,rfl,rfl⟩)⟩
      . intro σ' H5 hI;obtain⟨p,st,wd,z',sn',rfl,s5,eu5,pr5,ed5,l5,ep5,pl5⟩:_:=hI;show⟨.inl ⟨rfl,_,AX eu5⟩,u,ps,_,rfl,rfl,eu5,?_,?_⟩;.rw[pr5.dh];lia
        have tp6:By H5 (AO H5 u (.lst (ps++[.ref p]))):=(HP H5).gu eu5 λxs=>by intro z;cases z
        have ndu:d≠u:=λz=>by rw[z,eu5]at ed5;cases ed5
        show⟨_,_,_,_,_,_,_,_,_,rfl,s5.vh fu,Ac,(pr5.yi ep5).ae tp6,by rw[CI,ls1];rfl,by rw[AW ndu];show ed5,by assumption,pl5⟩
  . intro σ H1 hI;obtain⟨o10,o11,o12,o13,wd,ps,ss,z,sn,rfl,s1,eu1,pr1,ls1,ed1,lsn,pl1⟩:_:=hI;show k u H1 ps ss z (s0b.aa s1) (s0b.au fu) eu1 pr1 (pl1.ie dz) (by lia) pl1.yj pl1.aem
def oI(K:Aq):BG:=λU H Q _=>(ER λ(a:AD)(J:List Int)(k:Int)=>Ee (U=[.ref a,.int k]) (Bx K H a (J.map AE.int)) (J.length<=63) (0<=k) (∀p D e,Ah H D->H p=AF->Ks D p e->C0 e.2.1->C0 e.2.2.1->0<=e.1/\e.1<=1000000000->Q (.ref p) D))
theorem kM(T:BR AH Af AN):T.oq.Ok BI P w Af base 3 (oI AH):=by
 have D:=Kv (P:=P) (w:=w) (base:=base) T;show T.oq.ok λY _ _ _ _ _ z H vs Q E h=>?_;obtain⟨a,B,i,rfl,b,Z,M,k⟩:_:=h;show⟨_,(Ag (BD 2 Y (Ax (Tz T) z #v[AB 0,AY DH (AB 1) AM])) (Ag (BD 3 Y (Ax (T1 T) z #v[AB 0])) (Ag (BD 4 Y (AY DH (AY Fe (AY CC (Ax D z #v[AB 0,AB 1]) AM) (AB 3)) (AY Fe (AY CC (AB 2) AM) (JV Y0 (by rfl) T.ym Vv #v[Ik LA (AB 3) AM (BF _)])))) (Ag (Jt (Bi (BK Cp (AY CC (AY C4 (Ax D z #v[AB 0,AB 1]) AM) AM) AM (BF _)) (Ab (BD 4 Y (AY CC (AY CC (AY Fe (AB 2) AM) AM) AM))) Bs)) (Ag (Jt (Bi (BK Cp (AY CC (AY C4 (Ax D z #v[AB 0,AB 1]) AM) AM) AM (BF _)) (Ab (BD 4 Y (AY Fv AM (AY CC (AY C4 (Ax D z #v[AB 0,AB 1]) AM) AM)))) Bs)) (Ag (BD 5 Y (Dj AH (Ax (Q0 T) z #v[AB 0,AM,AM]) (AY CC (AY C4 (AB 2) AM) AM))) (Ag (BD 6 Y (Ax (Q0 T) z #v[AB 0,AM,Dj AH (Cy #v[AM,AM,AM]) (AY CC (AY C4 (Ax D z #v[AB 0,AM]) AM) AM)])) (Ag (BD 7 Y (Dj AH (AB 6) (AY CC (AY C4 (AB 2) AM) (Bw (FE (K:=AH)) (by rfl) T.eh FJ #v[AB 6])))) (Ag (BD 8 Y (AY Fv (AY CC (AY C4 (AB 2) AM) AM) AM)) (Ag (Jt (Bi (BK Cp (AY CC (AY C4 (AB 2) AM) AM) AM (BF _)) (Ab (BD 8 Y (AY Fv (AY CC (AY Fe (AB 2) AM) AM) AM))) Bs)) (Ab (Aw (Cq #v[AB 4,AB 5,AB 7,AB 8]))))))))))))),?_⟩;show⟨a,B,_,rfl,b,Z,ACA M,λA nn0=>?_⟩;show⟨a,B,rfl,b,Z,λc Hb l hc=>?_⟩;have U:=l.vd b;have N:1<=c/\c<=40000:=by(constructor<;>lia)
 show⟨a,B,_,rfl,U,M,Z,λC=>⟨(zzp rfl),.inr ⟨JC (by decide) N.1,HG N.2 (by decide)⟩,(zzp rfl),.inr ⟨_,rfl,?_⟩⟩⟩;have m3:0<=A%3/\A%3<3:=⟨Gp _ (by decide),IP _ (by decide)⟩;show⟨.inl ⟨JC (by decide) m3.1,Qd m3.2 (by decide)⟩,?_⟩;have W:0<=C%40*c+(A%3*if Ae (1<c)=AJ then 1 else 0)/\C%40*c+(A%3*if Ae (1<c)=AJ then 1 else 0)<=1000000000:=by
  have m4:0<=C%40/\C%40<=39:=by(constructor<;>lia)
  have u1:0<=C%40*c:=gP m4.1 (J4 N.1);have u2:C%40*c<=39*c:=ACH m4.2 (J4 N.1);split<;>(constructor<;>lia)
 show Jp (λJ R=>K6 (λ(t:Int)=>(0<=t/\t<=1000000000)) (λt=>J=(TJ a i A c t AF AF AF AF)) (λ_=>R=Hb)) ?_ ?_
 . show⟨a,B,_,rfl,U,M,Z,λc2=>⟨(zzd rfl),(zzp rfl),rfl,_,rfl,C7 (λ_=>?_) λ_=>⟨_,W,rfl,rfl⟩⟩⟩;show⟨.inr ⟨by decide,by decide⟩,(zzp rfl),(zzp rfl),_,⟨Gp _ (by decide),gM (IP _ (by decide))⟩,rfl,rfl⟩
 intro J R G;obtain⟨t,W,rfl,rfl⟩:_:=G;show Jp (λJ q=>K6 (λ(t:Int)=>(0<=t/\t<=1000000000)) (λt=>J=(TJ a i A c t AF AF AF AF)) (λ_=>q=R)) ?_ ?_;. show⟨a,B,_,rfl,U,M,Z,λc2=>⟨(zzd rfl),(zzp rfl),rfl,_,rfl,C7 (λ_=>?_) λ_=>⟨_,W,rfl,rfl⟩⟩⟩;show⟨a,B,_,rfl,U,M,Z,λc3=>⟨(zzd rfl),(zzp rfl),_,⟨by lia,ACN _ (Gp _ (by decide))⟩,rfl,rfl⟩⟩
 intro J q G;obtain⟨t,W,rfl,rfl⟩:_:=G;show⟨a,B,2,2,rfl,U,Z,by decide,by decide,by decide,λlk Hk ks n _ X j _ ak=>?_⟩;lk;obtain⟨v,hv,hm⟩:=Ie (ks.map AE.str) 2 (by rw[BB];show j) (by decide) (A/16);obtain⟨u,mk,rfl⟩:=BQ.mp hm;k_in;show⟨(zzd rfl),(zzp rfl),_,_,AX X,hv,?_⟩;have I:=n.vd U;show⟨Ba rfl,λp1 e=>?_⟩;show BM (o:=.lst [AE.int 3,.int 3,.int 9]) e λH3 O e1=>?_;show⟨a,B,_,rfl,O.vd I,by decide,Z,λc4=>?_⟩;lk;obtain⟨v,f,L⟩:=Ie [AE.int 3,.int 3,.int 9] 3 rfl (by decide) (c4/12);obtain⟨m,rfl,hm4⟩:∃m:Int,v=.int m/\(m=3\/m=9):=by
  simp only[CJ,M8,AFt]at L;rcases L with rfl|rfl|rfl;.show⟨_,rfl,.inl rfl⟩
  .show⟨_,rfl,.inl rfl⟩
  .show⟨_,rfl,.inr rfl⟩
 k_in;show⟨(zzd rfl),(zzp rfl),_,_,AX e1,f,a,B,3,m,rfl,O.vd I,Z,by decide,by lia,by lia,λly H4 ys sy _ F lys _ ay=>?_⟩;have x:(0:Int)<((ys.map AE.str).length:Int):=by rw[BB];lia
 lk;obtain⟨v,g,d⟩:=Ie (ys.map AE.str) _ rfl x (A/32);obtain⟨y,my,rfl⟩:=BQ.mp d;k_in;show⟨(zzd rfl),_,.inl (AX F),x,_,_,AX F,g,?_⟩;show⟨(zzd rfl),(zzp rfl),?_⟩;show Jp (λJ r=>Ft (λ(S:Int)=>J=(TJ a i A c t (AA (.str u)) (AA (.ref ly)) (AA (.str y)) (AA (.int S)))) (λ_=>r=H4)) ?_ ?_
 . show⟨(zzd rfl),(zzp rfl),rfl,_,rfl,C7 (λ_=>?_) λ_=>⟨_,rfl,rfl⟩⟩;show⟨.inr ⟨by decide,by decide⟩,(zzp rfl),_,rfl,rfl⟩
 intro J r G;obtain⟨S,rfl,rfl⟩:_:=G;show⟨Ba rfl,λp s=>k p _ (t,u,y,S) ((l.aa (n.aa (O.aa sy))).gu s) ((l.aa (n.aa (O.aa sy))).au s) Ac (ak _ mk) (ay _ my) W⟩
abbrev D2:=Int×Int×Int×Int
abbrev AZ:=Int×Int×D2
abbrev Jh:=Int×Int
noncomputable def Gr(a b:D2):D2:=(a.1+b.1,a.2.1+b.2.1,Ds a.2.2.1 b.2.2.1,Ke a.2.2.2 b.2.2.2)
noncomputable def KJ(a:Int):D2:=(1,a,a,a)
theorem jS(a b:Int):(if b<a then b else a)=Ds a b:=by(split<;>lia)
theorem Og(a b:D2):Gr a b=Gr b a:=by unfold Gr;grind
theorem Wi(a b c:D2):Gr (Gr a b) c=Gr a (Gr b c):=by unfold Gr;grind
noncomputable def CM(s e:Int)(t:D2):List AZ->List AZ|[]=>[(s,e,t)]|b::r=>if b.1<s then b::CM s e t r else if b.1=s then(s,b.2.1,Gr b.2.2 t)::r else(s,e,t)::b::r
def Dw(l:List AZ):Prop:=l.Pairwise λa b=>a.1<b.1
theorem XG:∀{l:List AZ}{x:AZ},x∈CM s e t l->x.1=s\/x∈l
  |[],x,h=>.inl (by rw[Bt.mp h])|b::r,x,h=>by
    unfold CM at h;split at h
    . rcases CJ.mp h with h|h;.simp_all
      .show(XG h).imp id (λD=>Gh D)
    grind
theorem Td:∀{l:List AZ},Dw l->Dw (CM s e t l)
 |[],_=>bX _ _|b::r,h=>by
  obtain⟨U,J⟩:=Gi.mp h;unfold CM;split;. show Gi.mpr ⟨λx D=>?_,Td J⟩;rcases XG D with z|z;all_goals(simp[*])
  split;.show Gi.mpr (by grind)
  . show Gi.mpr ⟨λx D=>?_,h⟩;grind
theorem XF:∀{l:List AZ},(CM s e t l).length<=l.length+1
 |[]=>Al _|b::r=>by
  unfold CM;split;.show cK XF
  (split<;>simp_all)
theorem XM{s e s' W:Int}{t t':D2}(h:s=s'->e=W):∀{l:List AZ},CM s' W t' (CM s e t l)=CM s e t (CM s' W t' l)
  |[]=>by
    by_cases z:s=s';.have:=h z;subst z this;simp[CM,Og]
    . by_cases y:s<s';.simp[CM,y,by show Sr y,by show Kp y]
      .simp[CM,y,by show ACF.mpr ⟨MS y,El z⟩,show s≠s' by assumption]|b::r=>by
    have Y:=@XM s e s' W t t' h r;by_cases J:b.1<s<;>by_cases U:b.1<s';.simp[CM,J,U,Y]
    . by_cases D:b.1=s';.simp[CM,J,D,show s'<s by simp_all]
      .simp[CM,J,U,D,by show HG (MS U) J]
    . by_cases D:b.1=s;.simp[CM,U,D,show s<s' by simp_all]
      .simp[CM,J,U,D,by show HG (MS J) U]
    . by_cases D:b.1=s<;>by_cases V:b.1=s'
      . have z:=NL D.symm V;have:=h z;subst z this;simp[CM,D,Wi,Og t t']
      .simp[CM,D,show¬s<s' by simp_all,show s'<s by lia,show s≠s' by simp_all]
      .simp[CM,V,show¬s'<s by simp_all,show s<s' by lia,show s'≠s by simp_all]
      . by_cases z:s=s'
        . have:=h z;subst z this;simp[CM,J,D,Og]
        . by_cases y:s<s';.simp[CM,J,U,D,V,y,by show Sr y,by show Kp y,by(first|lia|omega)]
          .simp[CM,J,U,D,V,y,by show ACF.mpr ⟨MS y,El z⟩,show s≠s' by assumption]
noncomputable def EE(w:Int)(p:AZ):Bool:=Ae (w<p.2.1)
theorem XE:∀{l:List AZ},(∀x∈l,s<x.1)->CM s e t l=(s,e,t)::l|[],_=>rfl|b::r,h=>by have:=h b DO;simp[CM,by show Sr this,by show Kp this]
theorem XI{w s e:Int}{t:D2}(V:w<e):∀{l:List AZ},Dw l->(∀b∈l,b.1=s->w<b.2.1)->(CM s e t l).filter (EE w)=CM s e t (l.filter (EE w))/\(CM s e t l).filter (λp=>!EE w p)=l.filter λp=>!EE w p
  |[],_,_=>by simp[CM,EE,V]|b::r,u,h=>by
    obtain⟨z,u2⟩:=Gi.mp u;have Y:=@XI w s e t V r u2 (λz u2 u3=>h _ (Gh u2) u3);by_cases D:b.1<s;.cases c:EE w b<;>simp[CM,D,c,Y.1,Y.2]
    . by_cases J:b.1=s
      . have W:=h b DO J;have Z:EE w b=AJ:=AFk W;have U:EE w (s,b.2.1,Gr b.2.2 t)=AJ:=AFk W;simp[CM,D,J,Z,U]
      . have U:EE w (s,e,t)=AJ:=AFk V;cases c:EE w b
        . simp only[CM,D,J,AFn,G7,U,c,AFq,AB7,AB6,MR,and_true];show(XE (by grind)).symm
        .simp[CM,D,J,U,c]
noncomputable def DZ(b p:AZ):AZ:=(Ds b.1 p.1,Ke b.2.1 p.2.1,Gr b.2.2 p.2.2)
theorem Qt(a b:AZ):DZ a b=DZ b a:=by unfold DZ;rw[Og];grind
theorem Qs(a b c:AZ):DZ (DZ a b) c=DZ a (DZ b c):=by unfold DZ;rw[Wi];simp
noncomputable def CW(p:AZ):List AZ->List AZ|[]=>[p]|b::r=>if b.2.1<=p.1 then b::CW p r else if p.2.1<=b.1 then p::b::r else CW (DZ b p) r
def IS(l:List AZ):Prop:=(∀b∈l,b.1<b.2.1)/\l.Pairwise λa b=>a.2.1<=b.1
theorem Qz:∀{l:List AZ}{p:AZ},x<=p.1->(∀b∈l,x<=b.1)->∀b∈CW p l,x<=b.1
  |[],p,h,_,b,D=>by rw[Bt.mp D];show h|c::r,p,h,J,b,D=>by
    have U:=λb D=>J b (Ek _ D);unfold CW at D;split at D
    . rcases CJ.mp D with z|z;.show J _ (CJ.mpr (Fi z))
      .show Qz h U b z
    split at D;.grind
    .show Qz (by unfold DZ;grind) U b D
theorem Qy:∀{l:List AZ}{p:AZ},p.1<p.2.1->IS l->IS (CW p l)
 |[],p,h,_=>⟨λb D=>by rw[Bt.mp D];show h,bX _ _⟩|c::r,p,h,⟨U,V⟩=>by
  obtain⟨W,u2⟩:=Gi.mp V;have J:IS r:=⟨(λW u2=>U _ (Gh u2)),u2⟩;unfold CW;split
  . obtain⟨i1,i2⟩:=Qy h J;show⟨λb D=>?_,Gi.mpr ⟨λb D=>Qz (by assumption) (by assumption) b D,i2⟩⟩;grind
  split
  . show⟨λb D=>?_,Gi.mpr (by grind)⟩;all_goals grind
  .show Qy (by unfold DZ;grind) J
theorem Ts:∀{l:List AZ}{p:AZ},(CW p l).length<=l.length+1
 |[],_=>Al _|b::r,p=>by
  unfold CW;split;.show cK Ts
  split;.simp
  .show Ak Ts (by simp)
theorem MY:∀{l:List AZ}{p q:AZ},q.1<p.2.1->p.1<q.2.1->(∀b∈l,b.1<b.2.1)->CW q (CW p l)=CW (DZ p q) l
  |[],p,q,V,D,_=>by simp[CW,by show OW V,by show OW D]|b::r,p,q,V,D,A=>by
    have Z:=A b DO;have z:=λb Z=>A b (Ek _ Z);by_cases J:b.2.1<=p.1
    . by_cases U:b.2.1<=q.1
      . have:b.2.1<=(DZ p q).1:=by show ACD.mpr ⟨J,U⟩
        simp[CW,J,U,this,MY V D z]
      . have W:¬b.2.1<=(DZ p q).1:=by unfold DZ;grind
        have Y:¬(DZ p q).2.1<=b.1:=by unfold DZ;grind
        simp only[CW,J,U,AFq,AFn,by show OW (Qd (JC Z J) D),W,Y];rw[MY (by show HG (gO _ _) V) (by show JC D (WN _ _)) z,Qt b (DZ p q),Qs,Qt q b]
    . by_cases U:p.2.1<=b.1;.simp[CW,J,U,by show OW V,by show OW D]
      . have W:¬b.2.1<=(DZ p q).1:=by unfold DZ;omega
        have Y:¬(DZ p q).2.1<=b.1:=by unfold DZ;grind
        simp only[CW,J,U,AFn,W,Y];rw[MY (by show JC V (WN _ _)) (by show HG (gO _ _) D) z,Qs]
theorem jV:∀{l:List AZ},p.1<p.2.1->(∀b∈l,b.1<b.2.1)->(∀b∈l,p.2.1<=b.1)->CW p l=p::l|[],_,_,_=>rfl|b::r,h,D,J=>by have:=D b DO;have:=J b DO;simp[CW,show¬b.2.1<=p.1 by lia,by(first|lia|omega)]
theorem Qx:∀{l:List AZ}{p q:AZ},p.1<p.2.1->q.1<q.2.1->p.2.1<=q.1->IS l->CW q (CW p l)=CW p (CW q l)
  |[],p,q,Z,U,h,_=>by simp[CW,h,show¬q.2.1<=p.1 by lia]|b::r,p,q,Z,U,h,Y=>by
    obtain⟨A,u2⟩:=Gi.mp Y.2;have z:=Y.1 b DO;have W:IS r:=⟨λb z=>Y.1 b (Gh z),u2⟩;by_cases J:b.2.1<=p.1;.simp[CW,J,by show Eo (Eo J (J4 Z)) h,Qx Z U h W]
    . by_cases D:p.2.1<=b.1
      . have e:=jV Z (Qy U Y).1 (Qz h (by grind));rw[e];simp[CW,J,D,h]
      . by_cases V:b.2.1<=q.1
        . simp only[CW,J,D,V,AFq,AFn];show Qx (by unfold DZ;grind) U (by show Int.max_le.mpr ⟨V,h⟩) W
        . simp only[CW,J,D,V,AFn,by show OI D (λA=>Eo (Eo h (J4 U)) A)];rw[MY (by show JC (Ss V) (ACC _ _)) (by unfold DZ;omega) W.1,MY (by unfold DZ;grind) (by show lt_of_eq_of_lt (ACG (Eo (J4 (Ss D)) h)) (Ss D)) W.1,Qs,Qs,Qt p q]
theorem jW(J:p.1<p.2.1)(U:q.1<q.2.1)(D:IS l):CW q (CW p l)=CW p (CW q l):=by
 by_cases V:p.2.1<=q.1;.show Qx J U V D
 by_cases W:q.2.1<=p.1;.show(Qx U J W D).symm
 rw[MY (by simp_all) (by simp_all) D.1,MY (by simp_all) (by simp_all) D.1,Qt]
theorem Xc:∀{l:List AZ}{p:AZ},w<=p.1->p.1<p.2.1->IS l->(CW p l).filter (EE w)=CW p (l.filter (EE w))/\(CW p l).filter (λp=>!EE w p)=l.filter λp=>!EE w p
  |[],p,h,J,_=>by simp[CW,EE,by show HG h J]|b::r,p,h,J,Z=>by
    obtain⟨F,u2⟩:=Gi.mp Z.2;have Y:IS r:=⟨λb W=>Z.1 b (Gh W),u2⟩;cases c:EE w b;. have hw:=AFp c;have U:=Xc h J Y;simp[CW,by show Eo (MS hw) h,c,U.1,U.2]
    . have hw:=AFm c;have A:∀{l:List _},(∀x∈l,w<x.2.1)->l.filter (EE w)=l/\l.filter (λp=>!EE w p)=[]:=λ{l}h=>⟨Vf.mpr λx D=>AFk (h x D),MC.mpr λx D=>by simp[EE,h x D]⟩;have B:∀x∈b::r,w<x.2.1:=λx D=>by
        rcases CJ.mp D with z|z;.rw[z];show hw
        .have:=F x z;have:=Y.1 x z;lia
      have G:=by
        have V:∀{l:List _}{p:AZ},w<p.2.1->(∀x∈l,w<x.2.1)->∀x∈CW p l,w<x.2.1:=λ{l}=>by induction l with |nil=>intro p h _ x D;rw[Bt.mp D];show h|cons c l U=>
            intro p h C x D;have E:=λb W=>C b (Ek _ W);unfold CW at D;split at D;.grind
            split at D;.grind
            .show U (by unfold DZ;show JC h (WN _ _)) E x D
        show V (HG h J) B
      grind
noncomputable def EL(p x:AZ):Bool:=Ae (x.1<p.2.1)&&Ae (p.1<x.2.1)
theorem Tr:∀{l:List AZ}{p:AZ},p.1<p.2.1->IS l->CM (((l.filter (EL p)).map (·.1)).foldl Ds p.1) (((l.filter (EL p)).map (·.2.1)).foldl Ke p.2.1) ((l.filter (EL p)).foldl (λt x=>Gr t x.2.2) p.2.2) (l.filter λx=>!EL p x)=CW p l
  |[],p,_,_=>rfl|b::r,p,G,V=>by
    obtain⟨W,u2⟩:=Gi.mp V.2;have z:=V.1 b DO;have U:IS r:=⟨λb z=>V.1 b (by grind),u2⟩;by_cases J:b.2.1<=p.1
    . have o:EL p b=AQ:=by unfold EL;simp_all
      have I:∀{m:List Int}{a:Int},b.2.1<=a->(∀x∈m,b.2.1<=x)->b.2.1<=m.foldl Ds a:=λ{m}=>by induction m with|nil=>simp|cons x m D=>showλF Z=>D (by have:=Z x DO;show ACD.mpr ⟨F,this⟩) (λW u2=>Z _ (Gh u2))
      have H:b.2.1<=((r.filter (EL p)).map (·.1)).foldl Ds p.1:=(by grind);simp only[G7,o,AB6,AFq,MR,AFn,CW,J];rw[<-Tr G U];show AFi (JC z H)
    . by_cases Y:p.2.1<=b.1
      . have B:∀x∈b::r,EL p x=AQ:=λx A=>by unfold EL;grind
        rw[MC.mpr (λW u2=>AB5.mp (B _ u2)),Vf.mpr (by simpa using B)];simp only[CW,J,Y,AFq,AFn];show XE (by grind)
      . have o:EL p b=AJ:=by unfold EL;simp_all
        have same:∀x∈r,EL p x=EL (DZ b p) x:=λx A=>by have:=U.1 x A;unfold EL DZ;grind
        have D:=Tr (p:=DZ b p) (by unfold DZ;grind) U;have C:=MA same;have E:=MA (λW u2=>Bool.not_inj_iff.mpr (same _ u2));rw[<-C,<-E,show(DZ b p).1=Ds p.1 b.1 from Int.min_comm _ _,show(DZ b p).2.1=Ke p.2.1 b.2.1 from Int.max_comm _ _,show(DZ b p).2.2=Gr p.2.2 b.2.2 from Og _ _]at D;simp only[G7,o,AB7,AFq,MR,AFn,CW,J,Y,F1,AAF];show D
theorem TM:∀{l:List AZ},IS l->Dw l|[],_=>.nil|b::r,h=>by obtain⟨J,u2⟩:=Gi.mp h.2;show Gi.mpr ⟨λx D=>by have:=J x D;have:=h.1 b DO;lia,TM ⟨λb U=>h.1 b (by grind),u2⟩⟩
noncomputable def Jm(t z d:Int):List Int:=(Eb (Fz (((t-z)/d+1)*d) (t+1) d)).map λk:Nat=>((t-z)/d+1)*d+(k:Int)*d
structure TF(t z d:Int):Prop where
 d1:1<=d
 d2:d<=200000
 z1:d<=z
 z2:z<=4*d
 t1:0<=t
 t2:t<=1000000000
theorem Qp{t z d:Int}(h:1<=d):t-z<((t-z)/d+1)*d/\((t-z)/d+1)*d<=t-z+d:=by have D:=Int.mul_ediv_add_emod (t-z) d;have J:=Gp (t-z) (by show Kp h);have U:=IP (t-z) (by assumption);(constructor<;>lia)
theorem UD(h:TF t z d):(Jm t z d).length<=5/\Fz (((t-z)/d+1)*d) (t+1) d<=5:=by
 obtain⟨D,J,U,V,W,Y⟩:_:=h;have f:=(Qp (t:=t) (z:=z) D).1;have:Fz (((t-z)/d+1)*d) (t+1) d<=5:=by
  unfold Fz;split
  . have:(t+1-((t-z)/d+1)*d-1)/d<=4:=Int.ediv_le_of_le_mul (by assumption) (by lia);show Su.mpr (Int.add_le_iff_le_sub.mpr this)
  .simp
 show⟨by unfold Jm;simp_all,this⟩
noncomputable def X6(t a z d:Int)(l:List AZ):List AZ:=(Jm t z d).foldl (λl s=>CM s (s+z) (KJ a) l) l
theorem Tc:∀{ss:List Int}{l:List AZ},Dw l->Dw (ss.foldl (λl s=>CM s (s+z) x l) l)/\(ss.foldl (λl s=>CM s (s+z) x l) l).length<=l.length+ss.length|[],l,h=>(by simp_all)|s::ss,l,h=>by obtain⟨i1,i2⟩:=Tc (ss:=ss) (z:=z) (x:=x) (Td (s:=s) (e:=s+z) (t:=x) h);have:=XF (s:=s) (e:=s+z) (t:=x) (l:=l);grind
theorem YX{f:J->D->J}{l:List D}(h:l[i]?=AA x):(l.take (i+1)).foldl f b=f ((l.take i).foldl f b) x:=by rw[Dy,h,List.foldl_append];rfl
noncomputable def IV(w:Int)(l:List AZ):List AZ:=l.filter (EE w)
noncomputable def Kw(w:Int)(l:List AZ):List AZ:=l.filter λp=>!EE w p
def AU.ig:AU->Prop|.gap _ _ _ m=>0<=m|.each _ _ _ z d=>1<=d/\d<=200000/\d<=z/\z<=4*d|_=>False
noncomputable def AU.ny(s:AU)(t a:Int)(l:List AZ):List AZ:=match s with|.each _ _ _ z d=>X6 t a z d l|.gap _ _ _ m=>CW (t,t+m+1,KJ a) l|_=>l
def AU.gd(s:AU)(l:List AZ):Prop:=match s with|.each _ _ _ z _=>Dw l/\∀b∈l,b.2.1=b.1+z|.gap ..=>IS l|_=>Dw l
theorem qY(h:1<=d)(D:s∈Jm t z d):t<s+z:=by obtain⟨k,_,rfl⟩:_:=BQ.mp D;have:=Qp (t:=t) (z:=z) h;have:0<=(k)*d:=gP (by lia) (J4 h);lia
noncomputable def Hu(z:Int)(x:D2)(l:List AZ)(s:Int):List AZ:=CM s (s+z) x l
def Oa(z:Int)(l:List AZ):Prop:=Dw l/\∀b∈l,b.2.1=b.1+z
theorem XD(h:Oa z l):Oa z (Hu z x l s):=by
 show⟨Td h.1,?_⟩;have:∀{l:List _},(∀b∈l,b.2.1=b.1+z)->∀b∈CM s (s+z) x l,b.2.1=b.1+z:=λ{l}=>by induction l with |nil=>intro _ b D;rw[Bt.mp D]|cons c l J=> intro h b D;unfold CM at D;grind
 show this h.2
theorem W7:∀{ss:List Int}{l:List AZ},Oa z l->Oa z (ss.foldl (Hu z x) l)|[],_,h=>h|s::ss,l,h=>W7 (ss:=ss) (XD h)
theorem W8:∀{ss:List Int}{l:List AZ},Hu z y (ss.foldl (Hu z x) l) s=ss.foldl (Hu z x) (Hu z y l s)|[],_=>rfl|r::ss,l=>by change Hu z y (ss.foldl _ _) s=_;rw[W8];change _=ss.foldl _ _;congr 1;show XM (by simp)
theorem XA{ss:List Int}:∀{D:List Int}{l:List AZ},D.foldl (Hu z y) (ss.foldl (Hu z x) l)=ss.foldl (Hu z x) (D.foldl (Hu z y) l)|[],_=>rfl|r::D,l=>by change D.foldl _ _=_;rw[W8,XA];rfl
theorem W9:∀{ss:List Int}{l:List AZ},(∀s∈ss,w<s+z)->Oa z l->IV w (ss.foldl (Hu z x) l)=ss.foldl (Hu z x) (IV w l)/\Kw w (ss.foldl (Hu z x) l)=Kw w l
 |[],_,_,_=>⟨rfl,rfl⟩|s::ss,l,h,J=>by
  have D:=h s DO;lk;obtain⟨W,U⟩:=XI D J.1 λb V e=>by rw[J.2 b V,e];show D
  obtain⟨i1,i2⟩:=W9 (λs D=>h s (Gh D)) (XD J);k_in;show⟨i1.trans ?_,i2.trans U⟩;change ss.foldl _ _=ss.foldl _ _;congr 1
theorem AU.yp{s:AU}(D:s.ig)(h:s.gd l):s.gd (s.ny t a l):=by cases s with|each _ _ _ z d=>show W7 h|gap _ _ _ m=>show Qy (by show WO (Qb D) (by decide)) h|_=>cases D
theorem AU.wz{s:AU}(D:s.ig)(h:s.gd l):s.ny t' J (s.ny t a l)=s.ny t a (s.ny t' J l):=by cases s with|each _ _ _ z d=>show XA|gap _ _ _ m=>show jW (by show WO (Qb D) (by decide)) (by show WO (Qb D) (by decide)) h|_=>cases D
theorem gX{s:AU}(D:s.ig)(h:s.gd l)(J:w<=t):IV w (s.ny t a l)=s.ny t a (IV w l)/\Kw w (s.ny t a l)=Kw w l:=by cases s with|each _ _ _ z d=>show W9 (λr U=>by have:=qY D.1 U;show HG J this) h|gap _ _ _ m=>show Xc J (by have:0<=m:=D;lia) h|_=>cases D
theorem gW{s:AU}{m:List AZ}(h:s.gd l)(D:m.Sublist l):s.gd m:=by cases s with|each _ _ _ z d=>show⟨h.1.sublist D,λb J=>h.2 b (D.mem J)⟩|gap _ _ _ m=>show⟨λb J=>h.1 b (D.mem J),h.2.sublist D⟩|_=>show h.sublist D
theorem Wf{s:AU}(h:s.gd l):Dw l:=by cases s with|each _ _ _ z d=>show h.1|gap _ _ _ m=>show TM h|_=>show h
theorem AU.aee{s:AU}:s.gd []:=by cases s with|each _ _ _ z d=>show⟨.nil,(by simp)⟩|gap _ _ _ m=>show⟨(by simp),.nil⟩|_=>show .nil
theorem AU.dh{s:AU}(D:s.ig)(J:0<=t/\t<=1000000000)(V:s.gd l):(s.ny t a l).length<=l.length+5:=by cases s with|each _ _ _ z d=>have U:=(Tc (z:=z) (x:=KJ a) (ss:=Jm t z d) V.1).2;have W:=(UD ⟨D.1,D.2.1,D.2.2.1,D.2.2.2,J.1,J.2⟩).1;show Ak U (by simp_all)|gap _ _ _ m=>show Ak Ts (by simp)|_=>cases D
noncomputable def J9(s:AU)(l:List Jh):List AZ:=l.foldl (λl x=>s.ny x.1 x.2 l) []
theorem iX{s:AU}{ps:List Jh}(D:s.ig):∀{l:List AZ},s.gd l->s.gd (ps.foldl (λl x=>s.ny x.1 x.2 l) l):=by induction ps with|nil=>simp|cons p ps J=>showλh=>J (s.yp D h)
theorem iY{s:AU}{ps:List Jh}(D:s.ig)(h:ps.Perm qs):∀{l:List AZ},s.gd l->ps.foldl (λl x=>s.ny x.1 x.2 l) l=qs.foldl (λl x=>s.ny x.1 x.2 l) l:=by induction h with|nil=>simp|cons x _ J=>showλh=>J (s.yp D h)|swap x y l=>showλh=>by change l.foldl _ _=l.foldl _ (s.ny _ _ _);rw[s.wz D h]|trans _ _ U V=>simp_all
theorem iD(D:s.ig)(h:ps.Perm qs):J9 s ps=J9 s qs:=iY D h s.aee
theorem Wj{s:AU}(D:s.ig):s.gd (J9 s ps):=iX D s.aee
theorem iE:J9 s (ps++[x])=s.ny x.1 x.2 (J9 s ps):=by unfold J9;simp
theorem iC(J:s.ig)(U:∀x∈ps,0<=x.1/\x.1<=1000000000):(J9 s ps).length<=5*ps.length:=by
 have:∀{ps:List Jh}{l:List _},(∀x∈ps,0<=x.1/\x.1<=1000000000)->s.gd l->(ps.foldl (λl x=>s.ny x.1 x.2 l) l).length<=l.length+5*ps.length:=λ{ps}=>by induction ps with |nil=>simp|cons x ps V=> intro l h D;have W:=V (λZ u2=>h _ (Gh u2)) (s.yp (t:=x.1) (a:=x.2) J D);have Y:=s.dh (a:=x.2) J (h x DO) D;grind
 have:=this U s.aee;unfold J9;simp_all
def GK(H:AI)(q:AD)(t:D2):Prop:=H q=AA (.tup [.int t.1,.int t.2.1,.int t.2.2.1,.int t.2.2.2])
def Wd(H:AI)(x:AE)(p:AZ):Prop:=∃a q,x=.ref a/\H a=AA (.tup [.int p.1,.int p.2.1,.ref q])/\GK H q p.2.2
def EA(H:AI)(xs:List AE)(ps:List AZ):Prop:=BW (Wd H) xs ps
theorem EA.ae(h:EA H xs ps)(t:By H H'):EA H' xs ps:=Gf (λ_ _ U=>by obtain⟨a,q,e,D,J⟩:=U;show⟨a,q,e,t _ _ D,t _ _ J⟩) h
theorem EA.dh(h:EA H xs ps):xs.length=ps.length:=(Cf h).1
theorem EA.at(h:EA H xs ps){i:Nat}(e:ps[i]?=AA p):∃a q,xs[i]?=AA (.ref a)/\H a=AA (.tup [.int p.1,.int p.2.1,.ref q])/\GK H q p.2.2:=by lk;obtain⟨l,W⟩:=Cf h;have D:=Cr (by rw[l];show(BV.mp e).1);obtain⟨a,q,J,U⟩:=W _ _ _ D e;k_in;rw[J]at D;show⟨a,q,D,U⟩
theorem EA.ix(h:EA H xs ps){i:Nat}(e:xs[i]?=AA x):∃p a q,ps[i]?=AA p/\x=.ref a/\H a=AA (.tup [.int p.1,.int p.2.1,.ref q])/\GK H q p.2.2:=by lk;obtain⟨l,W⟩:=Cf h;have D:=Cr (by rw[<-l];show(BV.mp e).1);obtain⟨a,q,J,U⟩:=W _ _ _ e D;k_in;show⟨_,a,q,D,J,U⟩
theorem jM(a b:Int):(if b>a then b else a)=Ke a b:=by lia
theorem jH(h:c<a):BN [.inl a,.inl b] [.inl c,.inl d]=AQ:=by change(if(C5 a)=C5 c then _ else Ae _)=_;rw[AFh λe=>by simp_all];show AFl (Sr h)
theorem mG{F:J->V->Prop}{f:U->V}(h:BW (λa b=>F a (f b)) D bs):BW F D (bs.map f):=by induction h with|nil=>show .nil|cons r _ W=>show .cons r W
noncomputable def Ma(p:AZ):List AL:=[.inl p.1,.inl p.2.1]
theorem EA.hd(h:EA H xs ps):BW (S5 1 H) xs (ps.map Ma):=mG (Gf (λ_ _ J=>by obtain⟨a,q,e,D,_⟩:=J;show⟨a,_,e,D,.inr (Ba rfl)⟩) h)
theorem Dw.sd(h:Dw ps):CZ (ps.map Ma):=GF.mpr (h.imp λq=>jH q)
theorem XN:∀{ps:List AZ}{n:Nat}{p:AZ},(∀(i:Nat)p,i<n->ps[i]?=AA p->p.1<S)->ps[n]?=AA p->p.1=S->CM S E t ps=ps.take n++[(S,p.2.1,Gr p.2.2 t)]++ps.drop (n+1)|[],n,p,_,e,_=>by cases e|b::r,0,p,_,e,q=>by cases e;unfold CM;rw[AFh (WS.mpr (Int.le_of_eq q.symm)),AFi q];rfl|b::r,n+1,p,h,e,q=>by unfold CM;rw[AFi (h 0 b (cL _) rfl),XN (λi p J D=>h _ p (AC2 J) D) e q];rfl
theorem XH:∀{ps:List AZ}{n:Nat},(∀(i:Nat)p,i<n->ps[i]?=AA p->p.1<S)->n<=ps.length->(∀p,ps[n]?=AA p->S<p.1)->CM S E t ps=ps.take n++[(S,E,t)]++ps.drop n
 |[],n,_,h,_=>by cases n with |zero=>rfl|succ n=>show absurd h (AAa _)
 |b::r,0,_,_,q=>by have:=q b rfl;unfold CM;rw[AFh (Sr this),AFh (Kp this)];rfl|b::r,n+1,h,U,q=>by unfold CM;rw[AFi (h 0 b (cL _) rfl),XH (λi p J D=>h _ p (AC2 J) D) (b9 U) q];rfl
def qJ:BG:=λJ H Q _=>∃a:Int,J=[.int a]/\∀r D,Ah H D->H r=AF->GK D r (KJ a)->Q (.ref r) D
def nR:BG:=λJ H Q _=>(JE λ(p q:AD)(x y:D2)=>IQ (J=[.ref p,.ref q]) (GK H p x) (GK H q y) (∀r D,Ah H D->H r=AF->GK D r (Gr x y)->Q (.ref r) D))
def pE:BG:=λD H Q _=>∃a b c m:Int,D=[.int a,.int b,.int c,.int m]/\Q (.bl (Ae (a-c<=m)&&Ae (c-(b-m-1)<=m))) H
def qE:BG:=λJ H Q _=>∃t z d:Int,J=[.int t,.int z,.int d]/\TF t z d/\∀l D,Ah H D->H l=AF->D l=AA (.lst ((Jm t z d).map AE.int))->Q (.ref l) D
theorem Xt(T:BR AH Af AN):T.uy.Ok BI P w Af base 1 qJ:=by show T.uy.ok λU _ _ _ _ _ J H V Q E h=>?_;obtain⟨a,rfl,k⟩:_:=h;show⟨_,(Ab (Aw (Cq #v[AM,AB 0,AB 0,AB 0]))),?_⟩;show⟨Ba rfl,λr D=>k r _ (CB D) D Ac⟩
theorem Xf(T:BR AH Af AN):T.zq.Ok BI P w Af base 1 nR:=by show T.zq.ok λW _ _ _ _ _ V H Y Q E h=>?_;obtain⟨p,q,x,y,rfl,J,U,k⟩:_:=h;show⟨_,(Ab (Aw (Cq #v[AY DH (Av AH (AB 0) AM) (Av AH (AB 1) AM),AY DH (Av AH (AB 0) AM) (Av AH (AB 1) AM),(Bw (Y2 rfl) (by rfl) T.aba AAk #v[Av AH (AB 0) AM,Av AH (AB 1) AM]),(Bw (RV rfl) (by rfl) T.yn Vw #v[Av AH (AB 0) AM,Av AH (AB 1) AM])]))),?_⟩;have i1:Cb AH H p _:=Ar J;have i2:Cb AH H q _:=Ar U;show⟨_,_,i1,Ap rfl,_,_,i2,Ap rfl,_,_,i1,Ap rfl,_,_,i2,Ap rfl,_,_,i1,Ap rfl,_,_,i2,Ap rfl,_,_,i1,Ap rfl,_,_,i2,Ap rfl,?_⟩;show⟨Ba rfl,λr D=>k r _ (CB D) D (by rw[jS,jM];show Ac)⟩
theorem Xo(T:BR AH Af AN):T.zu.Ok BI P w Af base 1 pE:=by
 show T.zu.ok λD _ _ _ _ _ J H U Q E h=>?_;obtain⟨a,b,c,m,rfl,k⟩:_:=h;show⟨_,(Ag (BD 4 D (AY Fv (AY Fv (AB 1) (AB 3)) AM)) (Ab (Aw (JU (Ik LD (AY Fv (AB 0) (AB 2)) (AB 3) (BF _)) (KW (Ik LD (AY Fv (AB 2) (AB 4)) (AB 3) (BF _))))))),?_⟩;show⟨_,rfl,K8 (λe=>?_) λe=>?_⟩
 . rw[e]at k;show k
 . rw[e]at k;show k
theorem lW(T:BR AH Af AN):T.xy.Ok BI P w Af base 1 qE:=by
 show T.xy.ok λA _ _ _ _ _ I H L Q E h=>?_;obtain⟨t,z,d,rfl,V,k⟩:_:=h;show⟨_,(Ag (BD 3 A (AY Fe (AY DH (AY C4 (AY Fv (AB 0) (AB 1)) (AB 2)) AM) (AB 2))) (Ab (Aw (wO rfl (by rfl) T.jc (by rfl) T.qw #v[AB 3,AY DH (AB 0) AM,AB 2])))),?_⟩;lk;obtain⟨U,J,F,G,W,Y⟩:=id V;obtain⟨B,C⟩:=Qp (t:=t) (z:=z) U;k_in;have Z:=(UD V).2;show⟨⟨by assumption,HG J (by decide)⟩,.inr ⟨JC (by decide) U,HG J (by decide)⟩,?_⟩;show⟨_,_,_,rfl,⟨by assumption,Eo J (by decide),?_,?_,Int.le_add_of_neg_add_le_right (Eo (by decide) W),Int.add_lt_iff.mpr (HG Y (by decide)),?_⟩,λl D=>k l _ (CB D) D Ac⟩;.lia
 .omega
 .show Ak Z (by decide)
def pU:BG:=λY H Q _=>(LY λ(l q:AD)(W:List AE)(U:List AZ)(S E:Int)(t:D2)=>Jc (Y=[.ref l,.int S,.int E,.ref q]) (H l=AA (.lst W)) (EA H W U) (Dw U) (U.length<=10000) (GK H q t) (∀r J D,Ah H J->H r=AF->J r=AA (.lst D)->EA J D (CM S E t U)->Q (.ref r) J))
theorem Xp(T:BR AH Af AN):T.qk.Ok BI P w Af base 2 pU:=by
  show T.qk.ok λnd _ _ _ _ _ hr H vs Q E h=>?_;obtain⟨l,q,J,C,S,E0,t,rfl,el,hw,up,hl,tq,k⟩:_:=h;show⟨_,(Ag (BD 4 nd (Ax (Ou T) hr #v[AB 0,Cq #v[AB 1]])) (Ag (Jt (Bi (Gd (Pn (BK Mv (AB 4) (Bw (FE (K:=AH)) (by rfl) T.eh FJ #v[AB 0]) (BF _)) (Po (BK Cp (Av AH (Dj AH (AB 0) (AB 4)) AM) (AB 1) (BF _))))) (Ag (BD 5 nd (Dj AH (AB 0) (AB 4))) (Ab (Aw (AY Jr (AY Jr (IC (LI (K:=AH)) (AB 0) JX (G5 (AB 4))) (Cy #v[Cq #v[AB 1,Av AH (AB 5) AM,Ax (Xf T) hr #v[Av AH (AB 5) AM,AB 3]]])) (IC (LI (K:=AH)) (AB 0) (G5 (AY DH (AB 4) AM)) JX))))) Bs)) (Ab (Aw (AY Jr (AY Jr (IC (LI (K:=AH)) (AB 0) JX (G5 (AB 4))) (Cy #v[Cq #v[AB 1,AB 2,AB 3]])) (IC (LI (K:=AH)) (AB 0) (G5 (AB 4)) JX)))))),?_⟩;have sz:Ay=16777216:=Dc;have lx:=hw.dh;show⟨Ba rfl,λmk hmk=>?_⟩;show BM (o:=.tup [.int S]) hmk λH1 s1 emk=>?_;have D:=s1 _ _ el;have z:=hw.ae s1.tp;have s:GK H1 q t:=s1 _ _ tq;show⟨l,mk,J,C.map Ma,[.inl S],rfl,D,z.hd,emk,λks hk i k m e1 e2=>?_,up.sd,λn hn b1 b2=>?_⟩
  . obtain⟨p,_,rfl⟩:_:=BQ.mp hk;match i,e1,e2 with|0,e1,e2=>cases e1;cases e2;rfl
  rw[BB]at hn;have d1:∀(i:Nat)p,i<n->C[i]?=AA p->p.1<S:=λi p hi W=>by have:=b1 i (Ma p) hi (by rw[CD,W];rfl);rw[show Ma p=[.inl p.1,.inl p.2.1]from rfl,Qw]at this;show AFm this
  have d2:∀p,C[n]?=AA p->¬p.1<S:=λp W=>by have:=b2 n (Ma p) (Al _) (by rw[CD,W];rfl);rw[show Ma p=[.inl p.1,.inl p.2.1]from rfl,Qw]at this;show AFp this
  clear b1 b2;show Jp (λx H'=>H'=H1/\(∀p,C[n]?=AA p->S<p.1)/\x=(hJ l S E0 q (n:Int) AF)) ?_ ?_
  . show⟨_,.inl (AX D),_,rfl,GU (λe=>?_) λe=>⟨rfl,λp W=>absurd (BV.mp W).1 (OI e (λu1=>ACK.mpr (Bc u1 (Bo lx.symm)))),rfl⟩⟩;have hnl:n<C.length:=by simp_all
    have W:C[n]?=AA C[n]:=Cr hnl;generalize C[n]=p at W;obtain⟨a,qp,ea,F,eqp⟩:_:=z.at W;have b:DM J (n:Int)=AA (.ref a):=Ap ea;show⟨_,_,AX D,b,_,_,Ar F,Ap (j:=0) rfl,rfl,_,rfl,C7 (λy=>?_) λy=>⟨rfl,λp' c=>?_,rfl⟩⟩
    . show⟨_,_,AX D,b,?_⟩;show⟨_,rfl,l,J,rfl,AX D,λc1 N=>?_⟩;rw[TU J n (by simp_all)];show BM N λH2 s2 G=>?_;show⟨_,_,Ar (s2 _ _ F),Ap (j:=1) rfl,_,_,Ar (s2 _ _ F),Ap (j:=2) rfl,qp,q,_,t,rfl,s2 _ _ eqp,s2 _ _ s,λu H3 s3 hu tu=>?_⟩;show⟨Ba rfl,λv hv=>?_⟩;show BM hv λH4 s4 ev=>⟨Ba rfl,λc2 O=>?_⟩;show BM O λH5 f I=>?_;have Z:=s3.aa (s4.aa f);show⟨c1,c2,_,_,rfl,rfl,Z _ _ G,I,by rw[Ej];simp;lia,λc3 R=>?_⟩;show BM R λH6 g L=>?_;have U:=s2.aa (Z.aa g);show⟨_,rfl,l,J,rfl,AX (U _ _ D),λc4 X=>?_⟩;have cf:Gw J (AA ((n:Int)+1)) AF=J.drop (n+1):=Qo J (n+1) (gQ.mp e);rw[cf];show BM X λH7 B M=>?_;show⟨c3,c4,_,_,rfl,rfl,B _ _ L,M,by rw[CI,Ej,M4];simp;lia,λc5 Y=>?_⟩;have r:=CB (o:=.lst (J.take n++[.ref v]++J.drop (n+1))) Y;have V:=U.aa (B.aa r);have A:=f.aa (g.aa (B.aa r));show k c5 _ _ (s1.aa V) ((s1.aa (U.aa B)).au Y) Ac ?_;rw[XN d1 W y];have d:=z.ae V.tp;show Eh (Eh (Pj n d) (.cons ⟨v,u,rfl,A _ _ ev,(s4.aa A) _ _ tu⟩ .nil)) (N2 (n+1) d)
    . rw[W]at c;cases c;have:=d2 _ W;have y:¬p.1=S:=y;lia
  intro x H1' hI;obtain⟨rfl,hno,rfl⟩:_:=hI;show⟨_,rfl,l,J,rfl,AX D,λc1 N=>?_⟩;rw[TU J n (by simp_all)];show BM N λH2 s2 G=>⟨Ba rfl,λv hv=>?_⟩;show BM hv λH4 s4 ev=>⟨Ba rfl,λc2 O=>?_⟩;show BM O λH5 f I=>?_;have Z:=s4.aa f;show⟨c1,c2,_,_,rfl,rfl,Z _ _ G,I,by rw[Ej];simp;lia,λc3 R=>?_⟩;show BM R λH6 g L=>?_;have U:=s2.aa (Z.aa g);show⟨_,rfl,l,J,rfl,AX (U _ _ D),λc4 X=>?_⟩;rw[Qo J n (by simp_all)];show BM X λH7 B M=>?_;show⟨c3,c4,_,_,rfl,rfl,B _ _ L,M,by rw[CI,Ej,M4];simp;grind,λc5 Y=>?_⟩;have r:=CB (o:=.lst (J.take n++[.ref v]++J.drop n)) Y;have V:=U.aa (B.aa r);have A:=f.aa (g.aa (B.aa r));show k c5 _ _ (s1.aa V) ((s1.aa (U.aa B)).au Y) Ac ?_;rw[XH d1 hn hno];have d:=z.ae V.tp;show Eh (Eh (Pj n d) (.cons ⟨v,q,rfl,A _ _ ev,V _ _ s⟩ .nil)) (N2 n d)
def oF:BG:=λY H Q _=>(LY λ(l:AD)(W:List AE)(U:List AZ)(t a z d:Int)=>Jc (Y=[.ref l,.int t,.int a,.int z,.int d]) (TF t z d) (H l=AA (.lst W)) (EA H W U) (Dw U) (U.length<=5000) (∀r J D,Ah H J->H r=AF->J r=AA (.lst D)->EA J D (X6 t a z d U)->Q (.ref r) J))
theorem kL(T:BR AH Af AN):T.ux.Ok BI P w Af base 3 oF:=by
 show T.ux.ok λnd _ _ _ _ _ hr H vs Q E h=>?_;obtain⟨l,xs,ps,t,a,z,d,rfl,hW,el,hw,up,hl,k⟩:_:=h;show⟨_,(Ag (BD 5 nd (JV (Mq (K:=AH)) (by rfl) T.jc Ki #v[AB 0])) (Ag (EG EN rfl (DI (K:=AH) (Ax (lW T) hr #v[AB 1,AB 3,AB 4])) (EF 6 nd) (Ab (BD 5 nd (Ax (Xp T) hr #v[AB 5,AB 6,AY DH (AB 6) (AB 3),Ax (Xt T) hr #v[AB 2]])))) (Ab (Aw (AB 5))))),?_⟩;have sz:Ay=16777216:=Dc;have sl:=(UD hW).1;show⟨l,xs,rfl,.inl (AX el),λtl htl=>?_⟩;show BM htl λH1 s1 etl=>?_;show⟨t,z,d,rfl,hW,λst H2 s2 hst est=>?_⟩;show⟨st,rfl,⟨_,AX est⟩,HQ (K:=AH) (xs:=(Jm t z d).map AE.int) (λn σ H'=>(ER λ(o6:Option AE)(tl:AD)(xt:List AE)=>Ee (σ=(gZ l t a z d tl o6)) (Ah H2 H') (H tl=AF) (H' tl=AA (.lst xt)) (EA H' xt (((Jm t z d).take n).foldl (λl s=>CM s (s+z) (KJ a) l) ps)))) ⟨AF,tl,xs,rfl,CA _,htl,s2 _ _ etl,hw.ae (s1.aa s2).tp⟩ (λn σ H' _ hh=>by obtain⟨_,_,_,_,s',_⟩:=hh;show AX (s' _ _ est)) ?_ ?_⟩
 . intro n y σ H3 hy hI;lk;obtain⟨o6,tl',xt,rfl,s3,ht',et,hwt⟩:=hI;rw[CD]at hy;obtain⟨sv,hsv,rfl⟩:=EI.mp hy;have hnl:n<(Jm t z d).length:=(BV.mp hsv).1;obtain⟨up',ln'⟩:=Tc (z:=z) (x:=KJ a) (ss:=(Jm t z d).take n) up;k_in;rw[Ej]at ln';show⟨a,rfl,λu H4 s4 hu tu=>?_⟩;show⟨tl',u,xt,_,sv,sv+z,KJ a,rfl,s4 _ _ et,hwt.ae s4.tp,up',by lia,tu,λr H5 xr s5 hr5 er hwr=>?_⟩;show⟨_,r,xr,rfl,s3.aa (s4.aa s5),((s1.aa s2).aa (s3.aa s4)).au hr5,er,by rw[YX hsv];show hwr⟩
 . intro σ H3 hI;obtain⟨o6,tl',xt,rfl,s3,ht',et,hwt⟩:_:=hI;rw[BB,D7 (Al _)]at hwt;show k _ _ _ ((s1.aa s2).aa s3) ht' et hwt
def pN:BG:=λz H Q _=>(JE λ(l:AD)(W:List AE)(U:List AZ)(J:Int)=>Ee (z=[.ref l,.int J]) (H l=AA (.lst W)) (EA H W U) (U.length<=10000) (∀r b c D Y Z,Ah H D->H b=AF->H c=AF->D r=AA (.tup [.ref b,.ref c])->D b=AA (.lst Y)->D c=AA (.lst Z)->EA D Y (Kw J U)->EA D Z (IV J U)->Q (.ref r) D))
theorem lJ(T:BR AH Af AN):T.xq.Ok BI P w Af base 1 pN:=by
  show T.xq.ok λnd _ _ _ _ _ hr H vs Q E h=>?_;obtain⟨l,xs,ps,now,rfl,el,hw,hl,k⟩:_:=h;show⟨_,(Ag (Pm (i:=2) (osc:=CU T6) [("now",1)] nd rfl (Fi rfl) rfl (DI (K:=AH) (AB 0)) rfl rfl (by decide+kernel) (by decide+kernel) (by decide+kernel) ⟨rfl,rfl,trivial⟩ rfl (by decide+kernel) (λ_ _ _ _=>HS (BK LD (Av AH (AB 0) AM) (AB 1) (BF _))) (λ_ _ _ _=>(AB 0))) (Ag (Pm (i:=3) (osc:=CU T6) [("now",1)] nd rfl (Fi rfl) rfl (DI (K:=AH) (AB 0)) rfl rfl (by decide+kernel) (by decide+kernel) (by decide+kernel) ⟨rfl,rfl,trivial⟩ rfl (by decide+kernel) (λ_ _ _ _=>HS (BK LA (Av AH (AB 0) AM) (AB 1) (BF _))) (λ_ _ _ _=>(AB 0))) (Ab (Aw (Cq #v[AB 2,AB 3]))))),?_⟩;have sz:Ay=16777216:=Dc;have lx:=hw.dh;show⟨l,rfl,⟨_,AX el⟩,?_⟩;show Mr (K:=AH) (xs:=xs) (λn τ acc H'=>(∃o,τ=[o,AA (.int now)])/\H'=H/\EA H acc ((ps.take n).filter λp=>!EE now p)) (by lia) ⟨⟨AF,rfl⟩,rfl,.nil⟩ (λn τ acc H'⟨_,e,_⟩=>by rw[e];show AX el) ?_ ?_
  . intro n y τ acc H' R1 R0 hy _ hI k1 k0;lk;obtain⟨⟨o,rfl⟩,rfl,hp⟩:=hI;obtain⟨p,b,q,ep,rfl,eb,eq⟩:=hw.ix hy;k_in;have fs:=NR (p:=λp=>!EE now p) ep;show⟨_,_,Ar eb,Ap (j:=1) rfl,_,rfl,GU (λe=>?_) λe=>?_⟩;. rw[AFi (by change(!Ae (now<p.2.1))=AJ;rw[AFl (WS.mpr e)];rfl)]at fs;show k1 _ _ _ ⟨⟨_,rfl⟩,rfl,by rw[fs];show Eh hp (.cons ⟨b,q,rfl,eb,eq⟩ .nil)⟩
    . rw[AFh (by change¬(!Ae (now<p.2.1))=AJ;rw[AFk (by simp_all)];decide),Ew]at fs;show k0 _ _ ⟨⟨_,rfl⟩,rfl,by rw[fs];show hp⟩
  intro τ xm H' lxm hI lm hlm;obtain⟨_,rfl,hpm⟩:_:=hI;rw[D7 (Bo lx.symm)]at hpm;show BM hlm λH1 s1 elm=>?_;have el1:=s1 _ _ el;have hw1:=hw.ae s1.tp;show⟨l,rfl,⟨_,AX el1⟩,?_⟩;show Mr (K:=AH) (xs:=xs) (λn τ acc H'=>(∃o,τ=[o,AA (.int now)])/\H'=H1/\EA H1 acc ((ps.take n).filter (EE now))) (by lia) ⟨⟨AF,rfl⟩,rfl,.nil⟩ (λn τ acc H'⟨_,e,_⟩=>by rw[e];show AX el1) ?_ ?_
  . intro n y τ acc H2 R1 R0 hy _ hI k1 k0;lk;obtain⟨⟨o,rfl⟩,rfl,hp⟩:=hI;obtain⟨p,b,q,ep,rfl,eb,eq⟩:=hw1.ix hy;k_in;have fs:(ps.take (n+1)).filter (EE now)=(ps.take n).filter (EE now)++(if Ae (now<p.2.1)=AJ then[p]else[]):=NR (p:=EE now) ep;show⟨_,_,Ar eb,Ap (j:=1) rfl,_,rfl,GU (λe=>?_) λe=>?_⟩;. rw[AFi (show Ae (now<p.2.1)=AJ from AFk e)]at fs;show k1 _ _ _ ⟨⟨_,rfl⟩,rfl,by rw[fs];show Eh hp (.cons ⟨b,q,rfl,eb,eq⟩ .nil)⟩
    . rw[AFh (by rw[AFo];show e),Ew]at fs;show k0 _ _ ⟨⟨_,rfl⟩,rfl,by rw[fs];show hp⟩
  intro τ xr H2 lxr hI lr hlr;obtain⟨_,rfl,hpr⟩:_:=hI;rw[D7 (Bo lx.symm)]at hpr;show BM hlr λH3 s2 elr=>⟨Ba rfl,λr hr'=>?_⟩;have s3:=CB (o:=.tup [.ref lm,.ref lr]) hr';show k r lm lr _ xm xr (s1.aa (s2.aa s3)) hlm (s1.au hlr) Ac ((s2.aa s3) _ _ elm) (s3 _ _ elr) (hpm.ae (s1.aa (s2.aa s3)).tp) (hpr.ae (s2.aa s3).tp)
def oS:BG:=λY H Q _=>(Kr λ(l:AD)(W:List AE)(U:List AZ)(t a m:Int)=>Jc (Y=[.ref l,.int t,.int a,.int m]) (0<=m) (H l=AA (.lst W)) (EA H W U) (IS U) (U.length<=5000) (∀r J D,Ah H J->H r=AF->J r=AA (.lst D)->EA J D (CW (t,t+m+1,KJ a) U)->Q (.ref r) J))
theorem Tb:∀{ns:List Int}{t:Int},ns.foldl Ds t∈t::ns/\∀a∈t::ns,ns.foldl Ds t<=a
  |[],t=>⟨.head _,λa h=>by rw[Bt.mp h];show Qc _⟩|n::ns,t=>by
    obtain⟨V,J⟩:=Tb (ns:=ns) (t:=Ds t n);have U:=J _ (.head _);change ns.foldl _ _∈_/\∀a∈_,ns.foldl _ _<=a;constructor
    . rcases CJ.mp V with h|h
      . rw[h];rcases ACE t n with q|q;.rw[ACG q];show .head _
        .rw[Int.min_eq_right q];show .tail _ (.head _)
      .show .tail _ (.tail _ h)
    . intro a D;rcases CJ.mp D with rfl|D;.show Eo U (Int.min_le_left _ _)
      rcases CJ.mp D with rfl|D;.show Eo U (gO _ _)
      show J a (.tail _ D)
theorem Ta:∀{ns:List Int}{t:Int},ns.foldl Ke t∈t::ns/\∀a∈t::ns,a<=ns.foldl Ke t
  |[],t=>⟨.head _,λa h=>by rw[Bt.mp h];show Qc _⟩|n::ns,t=>by
    obtain⟨V,J⟩:=Ta (ns:=ns) (t:=Ke t n);have U:=J _ (.head _);change ns.foldl _ _∈_/\∀a∈_,a<=ns.foldl _ _;constructor
    . rcases CJ.mp V with h|h
      . rw[h];rcases ACE t n with q|q;.rw[Int.max_eq_right q];show .tail _ (.head _)
        .rw[Int.max_eq_left q];show .head _
      .show .tail _ (.tail _ h)
    . intro a D;rcases CJ.mp D with rfl|D;.show Eo (ACC _ _) U
      rcases CJ.mp D with rfl|D;.show Eo (WN _ _) U
      show J a (.tail _ D)
theorem jT{ns:List Int}(D:S∈t::ns)(J:∀a∈t::ns,S<=a):S=ns.foldl Ds t:=ACB (J _ Tb.1) (Tb.2 _ D)
theorem jN{ns:List Int}(D:S∈t::ns)(J:∀a∈t::ns,a<=S):S=ns.foldl Ke t:=ACB (Ta.2 _ D) (J _ Ta.1)
theorem kT(T:BR AH Af AN):T.vy.Ok BI P w Af base 3 oS:=by
  show T.vy.ok λnd _ _ _ _ _ hr H vs Q E h=>?_;obtain⟨l,xs,ps,t,a,m,rfl,m0,el,hw,ch,hl,k⟩:_:=h;show⟨_,(Cc (Pm (i:=4) (osc:=CU Ow) [("time",1),("most",3)] nd rfl (Fi rfl) rfl (DI (K:=AH) (AB 0)) rfl rfl (by decide+kernel) (by decide+kernel) (by decide+kernel) ⟨rfl,rfl,rfl,rfl,trivial⟩ rfl (by decide+kernel) (λ_ _ _ _=>HS (FH (Ax (Xo T) hr #v[Av AH (AB 0) AM,Av AH (AB 0) AM,AB 1,AB 2]))) (λ_ _ _ _=>(AB 0))) (Cc (Pm (i:=5) (osc:=CU Ow) [("time",1),("most",3)] nd rfl (Fi rfl) rfl (DI (K:=AH) (AB 0)) rfl rfl (by decide+kernel) (by decide+kernel) (by decide+kernel) ⟨rfl,rfl,rfl,rfl,trivial⟩ rfl (by decide+kernel) (λ_ _ _ _=>HS (Fw (FH (Ax (Xo T) hr #v[Av AH (AB 0) AM,Av AH (AB 0) AM,AB 1,AB 2])))) (λ_ _ _ _=>(AB 0))) (Cc (BD 6 nd (Bw (sY (K:=AH) rfl) (by rfl) T.aba AAk #v[(AY Jr (Cy #v[AB 1]) (HR (CU Ow) [] trivial (DI (K:=AH) (AB 4)) (λ_ _ _ _=>Im) (λ_ _ _ _=>(Av AH (AB 0) AM))))])) (Cc (BD 7 nd (Bw (sW (K:=AH) rfl) (by rfl) T.yn Vw #v[(AY Jr (Cy #v[AY DH (AY DH (AB 1) (AB 3)) AM]) (HR (CU Ow) [] trivial (DI (K:=AH) (AB 4)) (λ_ _ _ _=>Im) (λ_ _ _ _=>(Av AH (AB 0) AM))))])) (Cc (BD 8 nd (Ax (Xt T) hr #v[AB 2])) (Cc (EG EN rfl (DI (K:=AH) (AB 4)) (EF 9 nd) (Ab (BD 8 nd (Ax (Xf T) hr #v[AB 8,Av AH (AB 9) AM])))) (Ab (Aw (Ax (Xp T) hr #v[AB 5,AB 6,AB 7,AB 8]))))))))),?_⟩;have sz:Ay=16777216:=Dc;have lx:=hw.dh;generalize ePP:((t,t+m+1,KJ a):AZ)=PP at k;have hmt:∀p:AZ,(Ae (p.1-t<=m)&&Ae (t-(p.2.1-m-1)<=m))=EL PP p:=λp=>by rw[<-ePP];change _=(Ae (p.1<t+m+1)&&Ae (t<p.2.1));rw[show Ae (p.1-t<=m)=Ae (p.1<t+m+1)from decide_eq_decide.mpr (by lia),show Ae (t-(p.2.1-m-1)<=m)=Ae (t<p.2.1)from decide_eq_decide.mpr (by lia)]
  showλ_ _ _ _ z1=>⟨l,rfl,⟨_,AX el⟩,?_⟩;show Mr (K:=AH) (xs:=xs) (λn τ acc H'=>(∃o,τ=[o,AA (.int t),AA (.int m)])/\H'=H/\EA H acc ((ps.take n).filter (EL PP))) (by lia) ⟨⟨AF,rfl⟩,rfl,.nil⟩ (λn τ acc H'⟨_,e,_⟩=>by rw[e];show AX el) ?_ ?_
  . intro n y τ acc H' R1 R0 hy _ hI k1 k0;lk;obtain⟨⟨o,rfl⟩,rfl,hp⟩:=hI;obtain⟨p,b,q,ep,rfl,eb,eq⟩:=hw.ix hy;k_in;show⟨_,_,Ar eb,Ap (j:=0) rfl,_,_,Ar eb,Ap (j:=1) rfl,_,_,_,_,rfl,?_⟩;rw[hmt];have fs:=NR (p:=EL PP) ep;show⟨_,rfl,K8 (λhb=>?_) λhb=>?_⟩
    . rw[hb,AFi rfl]at fs;show k1 _ _ _ ⟨⟨_,rfl⟩,rfl,by rw[fs];show Eh hp (.cons ⟨b,q,rfl,eb,eq⟩ .nil)⟩
    . rw[hb,AFh Du,Ew]at fs;show k0 _ _ ⟨⟨_,rfl⟩,rfl,by rw[fs];show hp⟩
  intro τ xm H' lxm hI lm hlm;obtain⟨_,rfl,hpm⟩:_:=hI;rw[D7 (Bo lx.symm)]at hpm;show BM hlm λH1 s1 elm=>?_;have hpm1:=hpm.ae s1.tp;have el1:=s1 _ _ el;have hw1:=hw.ae s1.tp;show z1 _ _ λ_ _ _ _ z2=>⟨l,rfl,⟨_,AX el1⟩,?_⟩;show Mr (K:=AH) (xs:=xs) (λn τ acc H'=>(∃o,τ=[o,AA (.int t),AA (.int m)])/\H'=H1/\EA H1 acc ((ps.take n).filter λp=>!EL PP p)) (by lia) ⟨⟨AF,rfl⟩,rfl,.nil⟩ (λn τ acc H'⟨_,e,_⟩=>by rw[e];show AX el1) ?_ ?_
  . intro n y τ acc H2 R1 R0 hy _ hI k1 k0;lk;obtain⟨⟨o,rfl⟩,rfl,hp⟩:=hI;obtain⟨p,b,q,ep,rfl,eb,eq⟩:=hw1.ix hy;k_in;show⟨_,_,Ar eb,Ap (j:=0) rfl,_,_,Ar eb,Ap (j:=1) rfl,_,_,_,_,rfl,?_⟩;rw[hmt];have fs:=NR (p:=λp=>!EL PP p) ep;cases hb:EL PP p with |true=> rw[hb,AFh (by decide),Ew]at fs;show⟨_,rfl,k0 _ _ ⟨⟨_,rfl⟩,rfl,by rw[fs];show hp⟩⟩|false=>rw[hb,AFi (by decide)]at fs;show⟨_,rfl,k1 _ _ _ ⟨⟨_,rfl⟩,rfl,by rw[fs];show Eh hp (.cons ⟨b,q,rfl,eb,eq⟩ .nil)⟩⟩
  intro τ xr H2 lxr hI lr hlr;obtain⟨_,rfl,hpr⟩:_:=hI;rw[D7 (Bo lx.symm)]at hpr;show BM hlr λH3 s2 elr=>?_;have hpr2:=hpr.ae s2.tp;have hpm2:=hpm1.ae s2.tp;have elm2:=s2 _ _ elm;have s02:=s1.aa s2;have lmm:(ps.filter (EL PP)).length<=ps.length:=Ff _ _;have lxm2:xm.length<=5000:=by rw[hpm.dh];show Ak lmm hl
  show z2 _ _ λ_ _ _ _ z3=>⟨Ba rfl,λq1 hq1=>?_⟩;show BM hq1 λH4 s3 eq1=>?_;show⟨lm,rfl,⟨_,AX (s3 _ _ elm2)⟩,?_⟩;show Ig (K:=AH) (xs:=xm) (λn τ acc H'=>(∃o,τ=[o])/\H'=H4/\acc=((ps.filter (EL PP)).take n).map λp=>AE.int p.1) (by lia) ⟨⟨AF,rfl⟩,rfl,rfl⟩ (λn τ acc H'⟨_,e,_⟩=>by rw[e];show AX (s3 _ _ elm2)) ?_ ?_;. intro n y τ acc H5 R1 hy _ hI k1;lk;obtain⟨⟨o,rfl⟩,rfl,rfl⟩:=hI;obtain⟨p,b,q,ep,rfl,eb,eq⟩:=(hpm2.ae s3.tp).ix hy;k_in;show⟨_,_,Ar eb,Ap (j:=0) rfl,k1 _ _ _ ⟨⟨_,rfl⟩,rfl,by rw[Dy,ep,DJ];rfl⟩⟩
  intro τ acc H5 _ hI q2 hq2;obtain⟨_,rfl,rfl⟩:_:=hI;rw[D7 (by rw[hpm.dh];show Al _)];show BM hq2 λH6 s4 eq2=>?_;show⟨q1,q2,_,_,rfl,rfl,s4 _ _ eq1,eq2,by simp;lia,λq3 hq3=>?_⟩;show BM hq3 λH7 s5 eq3=>?_;have eq3:H7 q3=AA (.lst ((t::(ps.filter (EL PP)).map (·.1)).map AE.int)):=by rw[eq3,F1,C8];rfl
  show⟨q3,_,rfl,AX eq3,by simp,λS hS1 hS2=>?_⟩;have s37:=s3.aa (s4.aa s5);show z3 _ _ λ_ _ _ _ z4=>⟨Ba rfl,λq4 hq4=>?_⟩;show BM hq4 λH8 s6 eq4=>?_;have s38:=s37.aa s6;show⟨lm,rfl,⟨_,AX (s38 _ _ elm2)⟩,?_⟩;show Ig (K:=AH) (xs:=xm) (λn τ acc H'=>(∃o,τ=[o])/\H'=H8/\acc=((ps.filter (EL PP)).take n).map λp=>AE.int p.2.1) (by lia) ⟨⟨AF,rfl⟩,rfl,rfl⟩ (λn τ acc H'⟨_,e,_⟩=>by rw[e];show AX (s38 _ _ elm2)) ?_ ?_
  . intro n y τ acc H9 R1 hy _ hI k1;lk;obtain⟨⟨o,rfl⟩,rfl,rfl⟩:=hI;obtain⟨p,b,q,ep,rfl,eb,eq⟩:=(hpm2.ae s38.tp).ix hy;k_in;show⟨_,_,Ar eb,Ap (j:=1) rfl,k1 _ _ _ ⟨⟨_,rfl⟩,rfl,by rw[Dy,ep,DJ];rfl⟩⟩
  intro τ acc H9 _ hI q5 hq5;obtain⟨_,rfl,rfl⟩:_:=hI;rw[D7 (by rw[hpm.dh];show Al _)];show BM hq5 λHA s7 eq5=>?_;show⟨q4,q5,_,_,rfl,rfl,s7 _ _ eq4,eq5,by simp;lia,λq6 hq6=>?_⟩;show BM hq6 λHB s8 eq6=>?_;have eq6:HB q6=AA (.lst (((t+m+1)::(ps.filter (EL PP)).map (·.2.1)).map AE.int)):=by rw[eq6,F1,C8];rfl
  show⟨q6,_,rfl,AX eq6,by simp,λE1 hE1 hE2=>?_⟩;have s3B:=s38.aa (s7.aa s8);show z4 _ _ λ_ _ _ _ z5=>⟨a,rfl,λu HC s9 hu tu=>z5 _ _ ?_⟩;have s3C:=s3B.aa s9;showλ_ _ _ _ z6=>⟨lm,rfl,⟨_,AX (s3C _ _ elm2)⟩,HQ (K:=AH) (xs:=xm) (λn σ H'=>FD (λ(o9:Option AE)(tl:AD)=>σ=(hG l t a m lm lr S E1 tl o9)) (λ_ _=>Ah HC H') (λ_ tl=>GK H' tl (((ps.filter (EL PP)).take n).foldl (λt x=>Gr t x.2.2) (KJ a)))) ⟨AF,u,rfl,CA _,tu⟩ (λn σ H' _ hh=>by obtain⟨_,_,_,s',_⟩:=hh;show AX ((s3C.aa s') _ _ elm2)) ?_ ?_⟩
  . intro n y σ HD hy hI;lk;obtain⟨o9,tl,rfl,sD,etl⟩:=hI;obtain⟨p,b,q,ep,rfl,eb,eq⟩:=(hpm2.ae (s3C.aa sD).tp).ix hy;k_in;show⟨_,_,Ar eb,Ap (j:=2) rfl,tl,q,_,_,rfl,etl,eq,λr HE sE hr' tr=>⟨_,r,rfl,sD.aa sE,?_⟩⟩;rw[YX ep];show tr
  . intro σ HD hI;obtain⟨o9,tl,rfl,sD,etl⟩:_:=hI;rw[hpm.dh,D7 (Al _)]at etl;have s3D:=s3C.aa sD;have eS:=jT hS1 hS2;have eE:=jN hE1 hE2;show z6 _ _ ⟨lr,tl,xr,_,S,E1,_,rfl,s3D _ _ elr,hpr2.ae s3D.tp,(TM ch).sublist Px,by have:=Ff (λp=>!EL PP p) ps;lia,etl,λr HE xe sE hre ere hpe=>?_⟩;show k r HE xe (s02.aa (s3D.aa sE)) ((s02.aa s3D).au hre) ere ?_;have me:=Tr (l:=ps) (p:=PP) (by rw[<-ePP];change t<t+m+1;show WO (Qb m0) (by decide)) ch;rw[<-me];rw[eS,eE]at hpe;subst ePP;show hpe
def pS:BG:=λY H Q _=>(J6 λ(p l i:AD)(W:List AE)(U:List AZ)(s:AU)(t a:Int)(y:AG)=>Qe (Y=[.ref p,.ref l,.ref i]) (DF H p s) (s.ig) (s.gd U) (H l=AA (.lst W)) (EA H W U) (U.length<=5000) (H i=AA (.tup [.int t,.str y,.int a])) (0<=t) (t<=1000000000) (∀r J D,Ah H J->H r=AF->J r=AA (.lst D)->EA J D (s.ny t a U)->Q (.ref r) J))
theorem lP(T:BR AH Af AN):T.xv.Ok BI P w Af base 4 pS:=by show T.xv.ok λR _ _ _ _ _ A H S Q E h=>?_;obtain⟨p,l,i,C,B,N,t,a,y,rfl,W,U,Y,V,hw,Z,J,O,t1,k⟩:_:=h;show⟨_,(Ag (Bi (BK Cp (Av AH (AB 0) AM) BZ (BF _)) (Ab (Aw (Ax (kL T) A #v[AB 1,Av AH (AB 2) AM,Av AH (AB 2) AM,Av AH (AB 0) AM,Av AH (AB 0) AM]))) Bs) (Ab (Aw (Ax (kT T) A #v[AB 1,Av AH (AB 2) AM,Av AH (AB 2) AM,Av AH (AB 0) AM])))),?_⟩;cases N with|each n f M z d=>have D:=W;obtain⟨F,G,I,L⟩:_:=U;show⟨_,_,Ar D,Ap (j:=0) rfl,rfl,_,rfl,Rc (λ_=>?_) λq=>absurd rfl q⟩;show⟨_,_,Ar J,Ap (j:=0) rfl,_,_,Ar J,Ap rfl,_,_,Ar D,Ap rfl,_,_,Ar D,Ap rfl,l,C,B,t,a,z,d,rfl,⟨F,G,I,L,O,t1⟩,V,hw,Y.1,Z,k⟩|gap n f M m=>have D:=W;show⟨_,_,Ar D,Ap rfl,rfl,_,rfl,Rc (λq=>absurd q (by decide+kernel)) λ_=>?_⟩;show⟨_,_,Ar J,Ap (j:=0) rfl,_,_,Ar J,Ap (j:=2) rfl,_,_,Ar D,Ap (j:=4) rfl,l,C,B,t,a,m,rfl,U,V,hw,Y,Z,k⟩|_=>cases U
noncomputable def Mf(D:AG)(t:D2):Int:=if D="count"then t.1 else if D="sum"then t.2.1 else if D="least"then t.2.2.1 else t.2.2.2
def qP:BG:=λJ H Q _=>(ER λ(D:AG)(q:AD)(t:D2)=>IQ (J=[.str D,.ref q]) (D∈GJ) (GK H q t) (Q (.int (Mf D t)) H))
theorem l8(T:BR AH Af AN):T.zw.Ok BI P w Af base 1 qP:=by
 show T.zw.ok λY _ _ _ _ _ N H Z Q E h=>?_;obtain⟨J,q,t,rfl,W,z,k⟩:_:=h;show⟨_,(Ab (Aw (Av AH (AB 1) (Mw F.plainAttrs_tuple ADh F.type_tuple_index (vT) (JW (v:=.ref _) (by rfl) T.aaf rfl) #v[AB 0])))),?_⟩;have M:=T.aak H;have Z:Mf "count" t=t.1/\Mf "sum" t=t.2.1/\Mf "least" t=t.2.2.1/\Mf "greatest" t=t.2.2.2:=⟨rfl,rfl,rfl,rfl⟩;lk;obtain⟨O,R,v2,v3⟩:=Z;have Y:GJ.Nodup:=by decide+kernel
 obtain⟨j,G,D⟩:=G8.mp W;k_in;have D:GJ[j]?=AA J:=by rw[<-D];show Cr G
 have U:∀m,m<j->GJ[m]?≠AA J:=λm I e=>by obtain⟨C,A⟩:=BV.mp D;obtain⟨F,B⟩:=BV.mp e;show(HV.mp Y) m j F C I (B.trans A.symm)
 have L:DM [AE.int t.1,.int t.2.1,.int t.2.2.1,.int t.2.2.2] (j)=AA (.int (Mf J t)):=by match j,D with |0,e=>cases e;rfl|1,e=>cases e;rfl|2,e=>cases e;rfl|3,e=>cases e;rfl
 show⟨.inr (.inl ⟨rfl,T.aai⟩),_,GJ,J,j,rfl,rfl,M,D,U,_,_,Ar z,L,k⟩
noncomputable def AU.so:AU->AG|AU.gap _ _ s _|AU.each _ _ s _ _=>s|_=>""
theorem DF.acp(h:DF H p s)(D:s.ig):Cb AH H p (s.zx.map Au)/\DM (s.zx.map Au) 1=AA (.str s.nm)/\DM (s.zx.map Au) 3=AA (.str s.so):=by show⟨Ar h,?_⟩;cases s with|gap n f J m=>show⟨Ap rfl,Ap rfl⟩|each n f J z d=>show⟨Ap rfl,Ap rfl⟩|_=>cases D
noncomputable def Lh(s:AU)(z:AG)(p:AZ):List AL:=[.inr s.nm,.inr z,.inl p.1,.inl p.2.1,.inl (Mf s.so p.2.2)]
noncomputable def mE(z:AG)(p:AZ):List AL:=[.inl p.2.1,.inr z,.inl p.1]
def pW:BG:=λU H Q _=>(IT λ(p a:AD)(s:AU)(z:AG)(J:AZ)=>LW (U=[.ref p,.str z,.ref a]) (DF H p s) (s.ig) (s.so∈GJ) (Wd H (.ref a) J) (∀r D,Ah H D->H r=AF->D r=AA (.tup ((Lh s z J).map Au))->Q (.ref r) D))
theorem lT(T:BR AH Af AN):T.xw.Ok BI P w Af base 2 pW:=by show T.xw.ok λC _ _ _ _ _ D H I Q E h=>?_;lk;obtain⟨p,a,G,z,F,rfl,Y,Z,U,⟨_,q,e,J,W⟩,k⟩:=h;cases e;k_in;show⟨_,(Ab (Aw (Cq #v[Av AH (AB 0) AM,AB 1,Av AH (AB 2) AM,Av AH (AB 2) AM,Ax (l8 T) D #v[Av AH (AB 0) AM,Av AH (AB 2) AM]]))),?_⟩;obtain⟨V,A,B⟩:_:=Y.acp Z;show⟨_,_,V,A,_,_,Ar J,Ap (j:=0) rfl,_,_,Ar J,Ap (j:=1) rfl,_,_,V,B,_,_,Ar J,Ap (j:=2) rfl,_,q,_,rfl,U,W,Ba rfl,λr D=>k r _ (CB D) D Ac⟩
def pL:BG:=λJ H Q _=>(JE λ(a:AD)(s:AU)(z:AG)(D:AZ)=>NM (J=[.ref a]) (H a=AA (.tup ((Lh s z D).map Au))) (∀r,H r=AF->Q (.ref r) (AO H r (.tup ((mE z D).map Au)))))
theorem lI(T:BR AH Af AN):T.uw.Ok BI P w Af base 1 pL:=by show T.uw.ok λU _ _ _ _ _ J H Y Q E h=>?_;obtain⟨a,W,z,V,rfl,D,k⟩:_:=h;show⟨_,(Ab (Aw (Cq #v[Av AH (AB 0) AM,Av AH (AB 0) AM,Av AH (AB 0) AM]))),?_⟩;show⟨_,_,Ar D,Ap rfl,_,_,Ar D,Ap rfl,_,_,Ar D,Ap rfl,Ba rfl,k⟩
structure JI(ex:List AD)(H:AI)(d:AD)(g:AG->List AZ)(kvs:List (AL×AE)):Prop where
 aq:H d=AA (.dK kvs)nd:(kvs.map (·.1)).Nodup
 zj:∀q∈kvs,∃(key:AG)(r:AD)(xs:List AE),q=(.inr key,.ref r)/\r∉ex/\H r=AA (.lst xs)/\EA H xs (g key)/\xs≠[]zp:∀key,g key≠[]->(.inr key:AL)∈kvs.map (·.1)
theorem JI.ae(h:JI ex H d g kvs)(W:H' d=AA (.dK kvs))(Y:∀b xs,b∉ex->H b=AA (.lst xs)->H' b=AA (.lst xs))(t:By H H'):JI ex H' d g kvs:=⟨W,h.nd,λq U=>by obtain⟨D,r,xs,e,n,J,w⟩:_:=h.zj q U;show⟨D,r,xs,e,n,Y _ _ n J,w.1.ae t,w.2⟩,h.zp⟩
theorem JI.ah(h:JI ex H d g kvs)(s:Ah H H'):JI ex H' d g kvs:=h.ae (s _ _ h.aq) (λ_ _ _ e=>s _ _ e) s.tp
theorem JI.at(h:JI ex H d g kvs)(key:AG):(Bv kvs (.inr key)=AF/\g key=[])\/∃r xs,Bv kvs (.inr key)=AA (.ref r)/\r∉ex/\H r=AA (.lst xs)/\EA H xs (g key):=by cases J:Bv kvs _ with
 |none=> show .inl ⟨rfl,?_⟩;cases Y:g _ with |nil=>rfl|cons a b=> obtain⟨v,D⟩:=OA (h.zp _ (by rw[Y];simp));rw[J]at D;cases D
 |some v=>lk;obtain⟨U,r,xs,e,n,W,w⟩:=h.zj _ (Io J);cases e;k_in;show .inr ⟨r,xs,rfl,n,W,w.1⟩
noncomputable def IW(g:AG->List AZ)(key:AG)(ps:List AZ):AG->List AZ:=λk=>if k=key then ps else g k
theorem NY:IW g key ps key=ps:=AFi rfl
theorem Ky(h:k≠key):IW g key ps k=g k:=AFh h
theorem JI.ny(h:JI ex H d g kvs)(K:r∉ex)(F:H r=AA (.lst xs))(hw:EA H xs ps)(L:xs≠[]):JI ex (AO H d (.dK (Bp kvs (.inr key) (.ref r)))) d (IW g key ps) (Bp kvs (.inr key) (.ref r)):=by
  have A:∀{b:AD}{E:List AE},H b=AA (.lst E)->(AO H d (.dK (Bp kvs (.inr key) (.ref r)))) b=AA _:=λ{b E}e=>by rw[AW λz=>by rw[z,h.aq]at e;cases e];show e
  have B:By H (AO H d (.dK (Bp kvs (.inr key) (.ref r)))):=(HP H).gu h.aq λxs=>by intro z;cases z
  show⟨Ac,Pe h.nd,λq I=>?_,λk J=>?_⟩
  . rcases Pc I with rfl|⟨G,W⟩;.show⟨key,r,xs,rfl,K,A F,by rw[NY];show hw.ae B,L⟩
    . obtain⟨D,M,Z,e,n,U,C⟩:_:=h.zj q G;subst e;have J:D≠key:=λz=>W (by rw[z]);show⟨_,M,Z,rfl,n,A U,by rw[Ky J];show C.1.ae B,C.2⟩
  . by_cases e:k=key
    . subst e;lk;obtain⟨v,Y⟩:∃v,Bv (Bp kvs _ _) _=AA v:=⟨_,by rw[LK,AFi rfl]⟩;k_in;show BQ.mpr ⟨_,Io Y,rfl⟩
    . rw[Ky e]at J;obtain⟨v,Y⟩:=OA (h.zp k J);have:Bv (Bp kvs (.inr key) (.ref r)) (.inr k)=AA v:=by rw[LK,AFh (λz=>e (Hl z))];show Y
      show BQ.mpr ⟨_,Io this,rfl⟩
theorem i7:∀{l:List AZ},CM s e x l≠[]
 |[]=>λh=>(by cases h)|b::r=>by
  change(if b.1<s then _ else if b.1=s then _ else _)≠[];split;.showλh=>(by cases h)
  .split<;>showλh=>(by cases h)
theorem Xb:∀{l:List AZ}{p:AZ},CW p l≠[]
  |[],p=>λh=>(by cases h)|b::r,p=>by
    change(if b.2.1<=p.1 then _ else if p.2.1<=b.1 then _ else CW _ r)≠[];split;.showλh=>(by cases h)
    . split;.showλh=>(by cases h)
      .show Xb
theorem W6:∀{ss:List Int}{l:List AZ},(ss≠[]\/l≠[])->ss.foldl (λl s=>CM s (s+z) x l) l≠[]|[],l,h=>h.elim (λh=>absurd rfl h) id|s::ss,l,_=>W6 (ss:=ss) (.inr i7)
theorem gY{s:AU}(J:s.ig)(W:0<=t)(Y:t<=1000000000):s.ny t a l≠[]:=by cases s with
 |gap n f U m=>show Xb|each n f U z d=>
  show W6 (.inl λe=>?_);have e:=AFj MD e;unfold Jm at e;rw[BB,M5]at e;obtain⟨D,V,Z,A⟩:_:=J;have f:=(Qp (t:=t) (z:=z) D).2;unfold Fz at e;split at e
  . have:0<=(t+1-((t-z)/d+1)*d-1)/d:=AB9 (by omega) (J4 D);have e:((t+1-((t-z)/d+1)*d-1)/d+1).toNat=0:=e;omega
  .omega|_=>show J.elim
section
variable{s:AU}
structure Dp(ad:CO)(ex:List AD)(H:AI)(x p d:AD)(s:AU)(g:AG->List AZ)(kvs:List (AL×AE)):Prop where
 bz:∃dx,H x=AA (.ins ad.aw dx [("step",.ref p),("rows",.ref d)])jx:DF H p s
 av:JI ex H d g kvs
end
theorem Dp.ah{st:AU}(h:Dp AN ex H x p d st g kvs)(s:Ah H H'):Dp AN ex H' x p d st g kvs:=by obtain⟨⟨D,e⟩,st,r⟩:_:=h;show⟨⟨D,s _ _ e⟩,s _ _ st,r.ah s⟩
theorem Dp.zl{st:AU}(h:Dp AN ex H x p d st g kvs)(s:Bk d H H')(r:JI ex H' d J D):Dp AN ex H' x p d st J D:=by
 obtain⟨⟨W,e⟩,st,U⟩:_:=h;have Y:x≠d:=λz=>by rw[z,U.aq]at e;cases e
 have Z:p≠d:=λz=>by have st:H p=_:=st;rw[z,U.aq]at st;cases st
 show⟨⟨W,s _ _ Y e⟩,s _ _ Z st,r⟩
def oQ(D:CO):BG:=λU H Q _=>(ER λ(x J p:AD)=>NM (U=[.ref x,.ref p]) (H x=AA (.ins D.aw J [])) (∀d,H d=AF->Q .non (AO (AO (AO H x (.ins D.aw J [("step",.ref p)])) d (.dK [])) x (.ins D.aw J [("step",.ref p),("rows",.ref d)]))))
theorem kU(T:BR AH Af AN):T.jq.Ok BI P w Af base 1 (oQ AN):=by
 show T.jq.ok λV _ _ _ _ _ U H W Q E h=>?_;obtain⟨x,J,p,rfl,e,k⟩:_:=h;show⟨_,(Ag (GP (AB 0) (AB 1) rfl) (Ab (GP (AB 0) Pl rfl))),?_⟩;show⟨x,_,J,[],rfl,e,T.bh,T.jw,by decide,?_⟩;showλd D=>⟨x,_,J,[("step",.ref p)],rfl,?_,T.bh,T.du,(by change 1<1000;decide),?_⟩;.rw[AW (BE Ac D)];show Ac
 . show k d ?_;rw[AW (BE Ac D).symm]at D;show D
def oR(Z:CO):BG:=λz H Q _=>(J6 λ(Y:List AD)(x p d q:AD)(U:AU)(g:AG->List AZ)(J:List (AL×AE))(i:AR)=>Qe (z=[.ref x,.ref q]) (Dp Z Y H x p d U g J) ((∀c∈Y,∃o,H c=AA o)) (U.ig) (U.gd (g i.2.1)) (0<=i.1) (i.1<=1000000000) (H q=AA (.tup [.int i.1,.str i.2.1,.int i.2.2])) ((g i.2.1).length<=5000) (J.length<=10000) (∀W D,Bk d H W->Dp Z Y W x p d U (IW g i.2.1 (U.ny i.1 i.2.2 (g i.2.1))) D->D.length<=J.length+1->Q .non W))
theorem Xk(T:BR AH Af AN):T.si.Ok BI P w Af base 5 (oR AN):=by
 show T.si.ok λnd _ _ _ _ _ Y H vs Q E h=>?_;obtain⟨v,x,p,d,q,st,g,W,⟨t,D,a⟩,rfl,M,O,m,y,n,t1,l,lg,lk,k⟩:_:=h;show⟨_,(Ag (BD 2 nd (Av AH (AB 1) AM)) (Ab (JY Y.u1 (Bq (AB 0) rfl) (AB 2) (Ax (lP T) Y #v[Bq (AB 0) rfl,VF Y.u1 (Bq (AB 0) rfl) (AB 2) (Cy Eg) ⟨rfl,rfl,rfl,rfl⟩,AB 1]) rfl))),?_⟩;have sz:Ay=16777216:=Dc;obtain⟨dx,i⟩:=M.bz;show⟨_,_,Ar l,Ap (j:=1) rfl,?_⟩;have S:Ni H d:=.inl ⟨W,.inl M.av.aq⟩;show⟨_,⟨i,T.bh,T.jw,rfl⟩,_,⟨i,T.bh,T.du,rfl⟩,d,rfl,S,Bd _,λf N=>?_⟩;show BM N λc s1 C=>?_;have J:=M.ah s1;lk;obtain⟨X,Z,L,G,hw⟩:∃(r:AD)(Z:List AE),(Bv W (.inr D)).getD (.ref f)=.ref r/\c r=AA (.lst Z)/\EA c Z (g D):=by
  rcases J.av.at D with⟨B,u⟩|⟨r,Z,B,_,G,hw⟩;.show⟨f,[],by rw[B];rfl,C,by rw[u];show .nil⟩
  .show⟨r,Z,by rw[B];rfl,G,hw⟩
 k_in;show⟨_,Mh (k:=B9 D) J.av.aq,?_⟩;rw[L];show⟨p,X,q,Z,g D,st,t,a,D,rfl,J.jx,m,y,G,hw,lg,s1 _ _ l,n,t1,λr H2 xs' s2 Y I A=>?_⟩;have U:=J.ah s2;obtain⟨s,F⟩:=U.bz;show⟨_,⟨F,T.bh,T.du,rfl⟩,d,_,rfl,Mi (k:=B9 D) U.av.aq (HX lk (by decide)),?_⟩;have R:r∉v:=λhm=>by obtain⟨o,e⟩:=O r hm;rw[s1 _ _ e]at Y;cases Y
 show k _ _ ((((s1.aa s2).x d)).gu) (U.zl zzu (U.av.ny R I A λz=>gY m n t1 (bP (by rw[<-A.dh,z];rfl)))) (by have:=Uy W (.inr D) (.ref r);assumption)
theorem JI.aae(h:JI ex H d g kvs)(key:AG):JI ex (AO H d (.dK (DX kvs (.inr key)))) d (IW g key []) (DX kvs (.inr key)):=by
 have G:∀{b:AD}{E:List AE},H b=AA (.lst E)->(AO H d (.dK (DX kvs (.inr key)))) b=AA _:=λ{b E}e=>by rw[AW λz=>by rw[z,h.aq]at e;cases e];show e
 have K:By H (AO H d (.dK (DX kvs (.inr key)))):=(HP H).gu h.aq λL=>by intro z;cases z
 have U:∀{q:AL×AE},q∈DX _ _↔q∈kvs/\q.1≠.inr key:=λ{q}=>by unfold DX;rw[Dx,AFo]
 show⟨Ac,h.nd.sublist (AEp _ Px),λq Z=>?_,λk D=>?_⟩
 . lk;obtain⟨F,Y⟩:=U.mp Z;obtain⟨J,I,A,e,n,W,C⟩:=h.zj q F;k_in;subst e;have D:J≠key:=λz=>Y (by rw[z]);show⟨_,I,A,rfl,n,G W,by rw[Ky D];show C.1.ae K,C.2⟩
 . have e:k≠key:=λz=>D (by rw[z];show NY);rw[Ky e]at D;obtain⟨q,Z,B⟩:_:=BQ.mp (h.zp k D);show BQ.mpr ⟨q,U.mpr ⟨Z,by rw[B];showλz=>e (Hl z)⟩,B⟩
theorem mU:IW (IW g key a) key b=IW g key b:=by
 funext k;by_cases e:k=key;.rw[e,NY,NY]
 .rw[Ky e,Ky e,Ky e]
noncomputable def FY:Option Int->List AZ->List AZ|AF,J=>J|AA D,J=>Kw D J
noncomputable def F9:Option Int->List AZ->List AZ|AF,_=>[]|AA D,J=>IV D J
noncomputable def JM:Option Int->AE|AF=>.non|AA n=>.int n
theorem i9{kvs:List (AL×AE)}:∀k,k≠k0->k∈kvs.map (·.1)->k∈(DX kvs k0).map (·.1):=λk D h=>by obtain⟨q,J,rfl⟩:_:=BQ.mp h;show BQ.mpr ⟨q,Dx.mpr ⟨J,AFk D⟩,rfl⟩
theorem jA{kvs:List (AL×AE)}:∀k,k∈kvs.map (·.1)->k∈(Bp kvs k0 v).map (·.1):=λk h=>by
 lk;obtain⟨u,D⟩:=OA h;have:∃y,Bv (Bp kvs k0 v) k=AA y:=by
  rw[LK];split;.show⟨_,rfl⟩
  .show⟨_,D⟩
 obtain⟨y,J⟩:=this;k_in;show BQ.mpr ⟨_,Io J,rfl⟩
def qH(z:CO):BG:=λC H Q _=>(J6 λ(Z:List AD)(x p d:AD)(A:AU)(D:AG)(g:AG->List AZ)(J:List (AL×AE))(W:Option Int)=>Jc (C=[.ref x,.str D,JM W]) (Dp z Z H x p d A g J) ((∀c∈Z,∃o,H c=AA o)) ((.inr D:AL)∈J.map (·.1)) ((g D).length<=10000) (J.length<=1000) (∀Y r B U,Bk d H Y->Dp z Z Y x p d A (IW g D (F9 W (g D))) U->Y r=AA (.lst B)->EA Y B (FY W (g D))->U.length<=J.length->(∀k,k≠.inr D->k∈J.map (·.1)->k∈U.map (·.1))->Q (.ref r) Y))
theorem lX(T:BR AH Af AN):T.qj.Ok BI P w Af base 2 (qH AN):=by
  show T.qj.ok λnd _ _ _ _ _ hr H vs Q E h=>?_;obtain⟨ex,x,p,d,st,key,g,kvs,now,rfl,gr,hex,hg,lg,lk,k⟩:_:=h;show⟨_,(Ag (BD 3 nd (Zz (Bq (AB 0) rfl) (AB 1) ⟨rfl,rfl,rfl,rfl⟩)) (Ag (Bi (BK Zr (AB 2) IB (BF _)) (Ab (Aw (AB 3))) Bs) (Ag (BD 4 nd (Ax (lJ T) hr #v[AB 3,AB 2])) (Ag (Jt (Bi (BK LA (Bw (FE (K:=AH)) (by rfl) T.eh FJ #v[Av AH (AB 4) AM]) AM (BF _)) (Ab (JY hr.u1 (Bq (AB 0) rfl) (AB 1) (Av AH (AB 4) AM) rfl)) Bs)) (Ab (Aw (Av AH (AB 4) AM))))))),?_⟩;have sz:Ay=16777216:=Dc;obtain⟨dx,eo⟩:=gr.bz;have isd:Ni H d:=.inl ⟨kvs,.inl gr.av.aq⟩;rcases gr.av.at key with⟨e1,_⟩|⟨r,xs,e1,hrx,er,hw⟩
  . obtain⟨v,hv⟩:=OA hg;rw[e1]at hv;cases hv
  show⟨_,⟨eo,T.bh,T.du,rfl⟩,d,rfl,isd,kvs,.inr key,.ref r,gr.av.aq,rfl,e1,?_⟩;have rd:=gr.av.aae key;have sx1:Bk d H (AO H d (.dK (DX kvs (.inr key)))):=zzu
  have gr1:=gr.zl sx1 rd;have nrd:r≠d:=λz=>by rw[z,gr.av.aq]at er;cases er
  have er1:=sx1 _ _ nrd er;have hw1:=hw.ae (sx1.tp gr.av.aq (by intro xs z;cases z));have ll:(DX kvs (.inr key)).length<=kvs.length:=Ff _ _;generalize AO H d (.dK (DX kvs (.inr key)))=H1 at sx1 gr1 er1 hw1⊢;have lt1:Bv (DX kvs (.inr key)) (.inr key)=AF->(DX kvs (.inr key)).length<kvs.length:=λ_=>by
    have hm:=Io e1;have hne:DX kvs (.inr key)≠kvs:=λz=>by rw[<-z]at hm;unfold DX at hm;have:=(Dx.mp hm).2;simp at this
    rcases ACz (DX kvs (.inr key)).length kvs.length with h|h;.show h
    .show absurd (AEo (Px) h) hne
  have lt0:Bv (DX kvs (.inr key)) (.inr key)=AF:=by cases q:Bv (DX kvs (.inr key)) (.inr key)with|none=>rfl|some v=>have:=(Dx.mp (Io q)).2;rw[AFo]at this;show absurd rfl this
  have kd1:=i9 (kvs:=kvs) (k0:=.inr key);generalize DX kvs (.inr key)=kvs1 at gr1 ll lt1 lt0 kd1;cases now with |none=>show⟨rfl,_,rfl,uM rfl (k H1 r xs kvs1 sx1 gr1 er1 hw1 ll kd1)⟩|some now=>
    show⟨rfl,_,rfl,uN (by intro z;cases z) ⟨r,xs,g key,now,rfl,er1,hw1,by assumption,λq r1 r2 H2 x1 x2 s2 hr1 hr2 eq e1 e2 p1 p2=>?_⟩⟩;have gr2:=gr1.ah s2;obtain⟨dx2,eo2⟩:=gr2.bz;have q0:Cb AH H2 q _:=Ar eq;have l2:=p2.dh;show Jp (λσ' H'=>∃kvs',σ'=(iB x key now r q)/\Bk d H2 H'/\Dp AN ex H' x p d st (IW g key (F9 (AA now) (g key))) kvs'/\kvs'.length<=kvs.length/\(∀k,k≠.inr key->k∈kvs.map (·.1)->k∈kvs'.map (·.1))) ?_ ?_
    . show⟨_,_,q0,Ap (j:=1) rfl,x2,.inl (AX e2),_,rfl,GU (λh=>?_) λh=>?_⟩
      . show⟨_,_,q0,Ap (j:=1) rfl,_,⟨eo2,T.bh,T.du,rfl⟩,d,_,rfl,Mi (k:=B9 key) gr2.av.aq (by lia),?_⟩;have hrx2:r2∉ex:=λhm=>by
          obtain⟨o,e⟩:=hex r2 hm;have nd:r2≠d:=λz=>by rw[z,gr1.av.aq]at hr2;cases hr2
          rw[sx1 _ _ nd e]at hr2;cases hr2
        have rp:=gr2.av.ny (key:=key) hrx2 e2 p2 λz=>by rw[z]at h;show absurd h (by decide)
        rw[mU]at rp;have sxp:Bk d H2 (AO H2 d (.dK (Bp kvs1 (.inr key) (.ref r2)))):=zzu
        show⟨_,rfl,sxp,gr2.zl sxp rp,?_,λk' h1 h2=>jA _ (kd1 k' h1 h2)⟩;have nk:(Bv kvs1 (.inr key))=AF:=by show lt0
        have lk1:kvs1.length<kvs.length:=lt1 nk;have:=Uy kvs1 (.inr key) (.ref r2);lia
      . have e0:F9 (AA now) (g key)=[]:=bP (by change(IV now (g key)).length=0;show NL l2.symm (ACI.mp (MS h)));show⟨kvs1,rfl,λb o _ e=>e,by rw[e0];show gr2,ll,kd1⟩
    . intro σ' H3 hI;obtain⟨kvs',rfl,sx3,gr3,l3,kd3⟩:_:=hI;have nqd:q≠d:=λz=>by rw[z,gr2.av.aq]at eq;cases eq
      have n1d:r1≠d:=λz=>by rw[z,gr2.av.aq]at e1;cases e1
      show⟨_,_,Ar (sx3 _ _ nqd eq),Ap (j:=0) rfl,k H3 r1 x1 kvs' (sx1.aa ((s2.x d).aa sx3)) gr3 (sx3 _ _ n1d e1) (p1.ae (sx3.tp gr2.av.aq (by intro xs z;cases z))) l3 kd3⟩
noncomputable def EV(g:AG->List AZ)(ks:List AG):List (AG×AZ):=ks.flatMap λz=>(g z).map λp=>(z,p)
noncomputable def NZ(st:AU)(D:AG×AZ):List AL:=Lh st D.1 D.2
noncomputable def Xy:List AL->List AL|[_,k,s,e,_]=>[e,k,s]|_=>[]
theorem Dp.jm{st:AU}(h:Dp AN ex H x p d st g kvs)(W:H l=AF):Dp AN (l::ex) H x p d st g kvs:=⟨h.bz,h.jx,h.av.aq,h.av.nd,λq Y=>by
 obtain⟨U,r,Z,e,n,D,w⟩:_:=h.av.zj q Y;show⟨U,r,Z,e,λJ=>?_,D,w⟩;rcases CJ.mp J with rfl|J;.rw[W]at D;cases D
 .show n J,h.av.zp⟩
theorem Dp.jz{st:AU}(h:Dp AN (l::ex) H x p d st g kvs):Dp AN ex H x p d st g kvs:=⟨h.bz,h.jx,h.av.aq,h.av.nd,λq W=>by obtain⟨D,r,Y,e,n,J,w⟩:_:=h.av.zj q W;show⟨D,r,Y,e,λU=>n (Ek _ U),J,w⟩,h.av.zp⟩
theorem Dp.we{st:AU}(h:Dp AN ex H x p d st g kvs)(e:H c=AA (.lst ys))(B:c∈ex):Dp AN ex (AO H c o) x p d st g kvs:=by
 obtain⟨⟨Z,A⟩,st,r⟩:_:=h;have Y:=st;have U:∀{b:AD}{W:Bg},H b=AA W->(∀J,W≠.lst J)->(AO H c o) b=AA W:=λ{b W}D n=>by rw[AW λz=>by rw[z,e]at D;show n _ (Bz D).symm];show D
 show⟨⟨Z,U A (by intro J z;cases z)⟩,U Y (by intro J z;cases z),r.ae (U r.aq (by intro J z;cases z)) (λb J C D=>?_) λb J D=>U D (by intro J z;cases z)⟩;rw[AW λz=>C (by rw[z];show B)];show D
theorem m6(h:CY H ys R){qs:List (AE×List AL)}(p:qs.Perm (ys.zip (R.map f))):∃U,U.Perm R/\CY H (qs.map (·.1)) U/\U.map f=qs.map (·.2):=by
 have B:=h.dh;have C:BW (λ(D)(q)=>(∃a,q.1=.ref a/\H a=AA (.tup (D.map Au)))/\f D=q.2) R (ys.zip (R.map f)):=by show G0 (by rw[ACf,BB];show Eq.comm.mp (Nat.min_eq_right (Bo B.symm))) λi D q J W=>?_;obtain⟨Y,Z⟩:=Ka.mp W;rw[CD,J]at Z;show⟨(Cf h).2 i _ _ Y J,Bz Z⟩
 lk;obtain⟨U,E,F⟩:=Ph p C;obtain⟨A,z⟩:=Cf F;k_in;show⟨U,E,G0 (by rw[BB,A]) λi v D J W=>?_,?_⟩;. rw[CD]at J;obtain⟨q,Y,rfl⟩:_:=EI.mp J;show(z i _ q W Y).1
 . show AAE λi=>?_;rw[CD,CD];cases J:U[i]? with |none=>rw[AAG (by rw[<-A];show SA.mp J)];rfl|some D=>have G:=(BV.mp J).1;have W:=Cr (show i<qs.length by simp_all);rw[W];show AFj _ (z i _ _ J W).2
theorem rO{ks:List AG}(e:ks[i]?=AA z):EV g (ks.take (i+1))=EV g (ks.take i)++(g z).map λp=>(z,p):=by unfold EV;rw[Dy,e];simp
def n8(C:CO):BG:=λF H Q _=>(Sy λ(B:List AD)(x p d:AD)(z:AU)(g:AG->List AZ)(D:List (AL×AE))(Y:Option Int)=>Kq (F=[.ref x,JM Y]) (Dp C B H x p d z g D) ((∀c∈B,∃o,H c=AA o)) (z.ig) (z.so∈GJ) (D.length<=1000) ((∀k,(g k).length<=10000)) (∀Z r E W J A,Bk d H Z->Dp C (r::B) Z x p d z (λU=>F9 Y (g U)) J->H r=AF->Z r=AA (.lst E)->CY Z E W->W.Perm ((EV (λU=>FY Y (g U)) A).map (NZ z))->(W.map Xy).Pairwise (λa b=>BN b a=AQ)->A.Nodup->(∀k,g k≠[]->k∈A)->J.length<=D.length->A.length=D.length->Q (.ref r) Z))
theorem Xh(T:BR AH Af AN):T.oi.Ok BI P w Af base 4 (n8 AN):=by
  show T.oi.ok λnd _ _ _ _ _ I H vs Q E h=>?_;obtain⟨ex,x,p,d,X,g,C,U,rfl,gr,hex,ok,hso,lk,lg,k⟩:_:=h;show⟨_,(Cc (BD 2 nd (Cy Eg)) (Cc (EG EN rfl (DI (K:=AH) (JV (Ub (K:=AH) rfl) (by rfl) T.jc Ki #v[Bq (AB 0) rfl])) (EF 3 nd) (Ab (wZ (FT (Mw (K:=AH) QA SU V2 Pd (AB 2) #v[(HR (CU YA) [("key",3),("self",0)] ⟨rfl,rfl,rfl,rfl,trivial⟩ (DI (K:=AH) (Hv (AB 0) T.bh (lX T) I #v[AB 3,AB 1])) (λ_ _ _ _=>Im) (λ_ _ _ _=>(Ax (lT T) I #v[Rr (K:=AH) (AB 2) rfl,AB 1,AB 0])))]))))) (Ab (Aw (mI (lI T) I T.gy NC (AB 2)))))),?_⟩;have sz:Ay=16777216:=Dc;showλ_ _ _ _ z1=>⟨Bd _,λl hl=>z1 _ _ ?_⟩;show BM (o:=.lst []) hl λH1 s1 el=>?_;have gr1:=(gr.jm hl).ah s1;obtain⟨dx1,eo1⟩:=gr1.bz;showλ_ _ _ _ z2=>⟨_,⟨eo1,T.bh,T.du,rfl⟩,d,C,rfl,gr1.av.aq,λls hls=>?_⟩;lk;obtain⟨W,f⟩:∃W:List AG,(C.map λp=>Au p.1)=W.map AE.str:=by show⟨C.map λq=>match q.1 with|.inr i=>i|.inl _=>"",?_⟩;rw[C8];show M6 λq hq=>?_;obtain⟨z,r,xs,rfl,_⟩:=gr.av.zj q hq;rfl
  k_in;have ekk:C.map (·.1)=W.map (B9:AG->AL):=by
    have h1:∀q∈C,∃z,q.1=.inr z:=λq hq=>by obtain⟨z,r,xs,rfl,_⟩:=gr.av.zj q hq;show⟨z,rfl⟩
    have h2:(C.map λp=>Au p.1).map (λv=>match v with|.str z=>(B9 z:AL)|_=>.inl 0)=C.map (·.1):=by rw[C8];show M6 λq hq=>?_;obtain⟨z,e⟩:=h1 q hq;change(match Au q.1 with|.str z=>(B9 z:AL)|_=>.inl 0)=q.1;rw[e];rfl
    rw[<-h2,f,C8];rfl
  have kn:W.Nodup:=by have h:=gr.av.nd;rw[ekk,ACR,GF]at h;show h.imp λh e=>h (by rw[e])
  have km:∀z,g z≠[]->z∈W:=λz ne=>by have h:=gr.av.zp z ne;rw[ekk]at h;obtain⟨y,hy,e⟩:=BQ.mp h;rw[<-Hl e];show hy
  have lke:W.length=C.length:=by have:=AFj MD f;rw[BB,BB]at this;show this.symm
  have lks:W.length<=1000:=by have:=AFj MD f;rw[BB,BB]at this;show Ak (Bo lke) lk
  rw[f];show BM (o:=.lst (W.map AE.str)) hls λH2 s2 m=>?_;have nll:ls≠l:=λz=>by rw[z,el]at hls;cases hls
  have gr2:=gr1.ah s2;have nld:ls≠d:=λz=>by rw[z,gr2.av.aq]at m;cases m
  have exs:∀{F:AI},Bk d H F->(∀{kv g':_},Dp AN (l::ex) F x p d X g' kv->(∃Y,F l=AA (.lst Y))->∀c∈l::ex,∃o,F c=AA o):=λ{F}sx{kv g'}gr' el' c hc=>by
    rcases CJ.mp hc with rfl|hc;. obtain⟨Y,e⟩:=el';show⟨_,e⟩
    . obtain⟨o,eo⟩:=hex c hc;by_cases q:c=d;.rw[q];show⟨_,gr'.av.aq⟩
      .show⟨_,sx c o q eo⟩
  show⟨ls,rfl,⟨_,AX m⟩,HQ (K:=AH) (xs:=W.map AE.str) (λi σ F=>(ER λ(o3:Option AE)(Y:List AE)(A:List (AL×AE))=>Qg (σ=[AA (.ref x),AA (JM U),AA (.ref l),o3]) (Bk d H F) (F ls=AA (.lst (W.map AE.str))) (Dp AN (l::ex) F x p d X (λJ=>if J∈W.take i then F9 U (g J)else g J) A) (F l=AA (.lst Y)) (CY F Y ((EV (λJ=>FY U (g J)) (W.take i)).map (NZ X))) (A.length<=C.length) (Y.length<=10000*i) (∀z,z∉W.take i->z∈W->(.inr z:AL)∈A.map (·.1)))) ⟨AF,[],C,rfl,(s1.aa s2).x d,m,?_,s2 _ _ el,Ju _,Al _,Bd _,λz _ hz=>by rw[ekk];show BQ.mpr ⟨z,hz,rfl⟩⟩ (λi σ F _ hh=>by obtain⟨_,_,_,_,_,e,_⟩:=hh;show AX e) ?_ ?_⟩
  . have e:(λJ=>if J∈W.take 0 then F9 U (g J)else g J)=g:=by funext J;show AFh (by simp)
    rw[e];show gr2
  . intro i y σ H3 hy hI;lk;obtain⟨o3,Y,A,rfl,R,els3,B,G,L,lk3,la3,kin⟩:=hI;rw[CD]at hy;obtain⟨z,hz,rfl⟩:=EI.mp hy;have hi:i<W.length:=(BV.mp hz).1;have zn:z∉W.take i:=λhm=>by obtain⟨j,hj,e⟩:=G8.mp hm;rw[Ej]at hj;rw[SD]at e;obtain⟨h2,g2⟩:=BV.mp hz;show(HV.mp kn) j i (Bc hj (Vn _ _)) h2 (AFr hj (Vm (B7 hi))) (e.trans g2.symm)
    have gz:(if z∈W.take i then F9 U (g z)else g z)=g z:=AFh zn;obtain⟨dx3,eo3⟩:=B.bz;k_in;have lgz:=lg z;showλ_ _ _ _ z3=>⟨.inl ⟨rfl,_,AX G⟩,x,dx3,_,rfl,eo3,by rfl,l::ex,x,p,d,X,z,_,A,U,rfl,B,exs R B ⟨_,G⟩,kin z zn (Ct hz),Ak (Bo (AFj MD gz)) lgz,Ak lk3 lk,λH4 r xs kvs4 sx4 s er4 hw4 l4 kk4=>⟨r,rfl,⟨_,AX er4⟩,?_⟩⟩;simp only[gz]at s hw4;have eg:IW (λJ=>if J∈W.take i then F9 U (g J)else g J) z (F9 U (g z))=λJ=>if J∈W.take (i+1)then F9 U (g J)else g J:=by
      funext J;have tm:J∈W.take (i+1)↔J∈W.take i\/J=z:=by rw[Dy,hz];simp
      by_cases e:J=z;.rw[e,NY,AFi (by rw[<-e,tm];show .inr e)]
      . rw[Ky e];by_cases q:J∈W.take i;.rw[AFi q,AFi (tm.mpr (.inl q))]
        .rw[AFh q,AFh (λh=>(tm.mp h).elim q e)]
    rw[eg]at s;have nl3:l≠d:=λq=>by rw[q,B.av.aq]at G;cases G
    have el4:=sx4 _ _ nl3 G;have els4:=sx4 _ _ nld els3;have hw34:=L.ae (sx4.tp B.av.aq (by intro xs z;cases z));have lo:(FY U (g z)).length<=10000:=by cases U with|none=>show lgz|some n=>show Ak (Ff _ _) lgz
    have lx4:=hw4.dh;show Ig (K:=AH) (xs:=xs) (λj τ Z F=>(∃o,τ=[o,AA (.str z),AA (.ref x)])/\Ah H4 F/\CY F Z (((FY U (g z)).take j).map λp=>NZ X (z,p))) (by lia) ⟨⟨AF,rfl⟩,CA _,Ju _⟩ (λj τ Z F⟨_,s',_⟩=>AX (s' _ _ er4)) ?_ ?_
    . intro j y τ Z H5 R1 hy _ hI k1;lk;obtain⟨⟨o,rfl⟩,S,u⟩:=hI;obtain⟨pc,a,q,ep,rfl,ea,eq⟩:=hw4.ix hy;have gr5:=s.ah S;obtain⟨dx5,eo5⟩:=gr5.bz;k_in;show⟨_,⟨eo5,T.bh,T.jw,rfl⟩,p,a,X,z,pc,rfl,gr5.jx,ok,hso,⟨a,q,rfl,S _ _ ea,S _ _ eq⟩,λr' H7 s7 hr' er'=>k1 _ _ _ ⟨⟨_,rfl⟩,S.aa s7,?_⟩⟩;rw[Dy,ep,DJ];show(u.ae s7.tp).yi er'
    . intro τ Z H5 la5 hI D hD;obtain⟨_,S,u⟩:_:=hI;rw[D7 (Bo lx4.symm)]at u;show BM (o:=.lst Z) hD λH6 s6 eD=>?_;have N:=S.aa s6;have el6:=N _ _ el4;show⟨l,D,_,_,rfl,rfl,el6,eD,by lia,?_⟩;have tp6:By H6 (AO H6 l (.lst (Y++Z))):=(HP H6).gu el6 λxs=>by intro z;cases z
      show z3 _ _ ⟨_,Y++Z,kvs4,rfl,λb o nb e=>?_,by rw[AW nll];show N _ _ els4,(s.ah N).we el6 (.head _),Ac,?_,Ak l4 lk3,by rw[CI];lia,λz' hz' hk'=>?_⟩
      . rw[AW (λq=>by rw[q,hl]at e;cases e)];show N _ _ (sx4 b o nb (R b o nb e))
      . rw[rO hz,DJ,C8];show CY.ae (Eh (hw34.ae N.tp) (u.ae s6.tp)) tp6
      . rw[Dy,hz]at hz';show kk4 _ (λq=>hz' (Ea _ (by rw[Hl q];show .head _))) (kin z' (λq=>hz' (HU _ q)) hk')
  . intro σ H3 hI;obtain⟨o3,Y,A,rfl,R,els3,B,G,L,lk3,la3,kin⟩:_:=hI;rw[BB,D7 (Al _)]at B L;have eg:(λJ=>if J∈W then F9 U (g J)else g J)=λJ=>F9 U (g J):=by
      funext J;by_cases q:J∈W;.show AFi q
      . rw[AFh q];have:g J=[]:=by cases e:g J with|nil=>rfl|cons a b=>show absurd (km J (by rw[e];simp)) q
        rw[this];cases U<;>rfl
    rw[eg]at B;have O:∀M∈(EV (λJ=>FY U (g J)) W).map (NZ X),∃kp,M=NZ X kp:=λM I=>by obtain⟨kp,_,rfl⟩:=BQ.mp I;show⟨kp,rfl⟩
    show z2 _ _ ⟨l,Y,((EV (λJ=>FY U (g J)) W).map (NZ X)).map Xy,rfl,AX G,⟨by simp[L.dh],⟨[AJ,AQ,AJ],by simp,λkk hk=>?_⟩,λi y kk H4 hy hk s4=>?_⟩,λr qs H4 s4 I pq sq=>?_⟩
    . lk;obtain⟨M,I,rfl⟩:=BQ.mp hk;obtain⟨kp,rfl⟩:=O M I;k_in;rfl
    . lk;obtain⟨a,M,rfl,er,ea⟩:=L.at hy;rw[CD,er]at hk;have hk:=Bz hk;obtain⟨kp,rfl⟩:=O M (Ct er);k_in;subst hk;show⟨a,X,kp.1,kp.2,rfl,s4 _ _ ea,λr I=>⟨CB I,r,rfl,Ar Ac⟩⟩
    . obtain⟨R',p1,w1,e1⟩:_:=m6 L pq;have t:H3 r=AF:=s4.au I;have nrd:r≠d:=λq=>by rw[q,B.av.aq]at t;cases t
      have hrH:H r=AF:=by cases q:H r with|none=>rfl|some o=>rw[R r o nrd q]at t;cases t
      have S:=CB (o:=.lst (qs.map (·.1))) I;show k _ r _ R' A W (λb o nb e=>S _ _ (s4 _ _ (R b o nb e))) (((B.jz.ah s4).jm I).ah S) hrH Ac ((w1.ae s4.tp).ae S.tp) p1 (by rw[e1];show sq) kn km lk3 lke
unseal D6 in theorem Md{X:Be}{st:Cj}:D6 X st (λ_ _ _=>False):=λ_ _ _ _ _ _ h=>h.elim
noncomputable def KI(ss:List AU)(i:Nat):Bool:=match ss[i]? with|AA s=>s.bj|AF=>AQ
noncomputable def Aj(ss:List AU):List Nat:=(Eb ss.length).filter (KI ss)
def qM:BG:=λY H Q _=>(ER λ(U:AD)(W:List AE)(J:List AU)=>Ee (Y=[.ref U]) (H U=AA (.lst W)) (D1 H W J) (J.length<=100) (∀D r,Ah H D->H r=AF->D r=AA (.lst ((Aj J).map λi:Nat=>AE.int (i:Int)))->Q (.ref r) D))
theorem lZ(T:BR AH Af AN):T.wc.Ok BI P w Af base 2 qM:=by
  show T.wc.ok λX _ _ _ _ _ M H f Q E h=>?_;obtain⟨N,O,W,rfl,Z,A,S,k⟩:_:=h;show⟨_,(Ab (Aw (VE (osc:=CU YE) [] rfl (Mx (by rfl) T.fo (AB 0)) rfl rfl (by decide+kernel) (by decide+kernel) (by decide+kernel) trivial rfl rfl (by decide+kernel) (λ_ _ _ _=>HS (FH (Ax (Xl T) M #v[AB 1]))) (λ_ _ _ _=>(AB 0))))),?_⟩;have d:=Dc;have Y:=A.dh;show⟨N,rfl,⟨_,AX Z⟩,RW (λi _=>KI W i) _ (by lia) (λJ s1=>AX (s1 _ _ Z)) (λi x p b c J R _ _ e q=>⟨p,_,rfl,Ar e,rfl,_,_,rfl,_,_,rfl,rfl,q⟩) (λi x J R B s1 q=>?_) (λi x J R B _ s1 q=>q _ (CA _)) λJ s1 D z=>?_⟩
  . obtain⟨a,C,rfl,I,F⟩:_:=A.at B;have G:KI W i=C.bj:=by unfold KI;rw[I]
    rw[G]at q;show⟨a,C,rfl,s1 _ _ F,_,rfl,q J (CA _)⟩
  . show k _ D (s1.gu z) (s1.au z) ?_;rw[Ac];congr 2;unfold Aj;rw[<-Y];have:∀(n:Nat)(U:List AE),U.length=n->((Kc _ U).filter λq=>KI W q.1).map _=((Eb n).filter (KI W)).map λi:Nat=>AE.int (i:Int):=λn U e=>by
      have L:(Eb n)=(Kc _ U).map cM:=(AAL (by rw[M5];show Bo e.symm)).symm;conv=>rhs;rw[L]
      rw[OB,C8];rfl
    show this _ O rfl
def qR:BG:=λD H Q _=>∃i:Int,D=[.int i]/\Q (.bl AJ) H
theorem kX(T:BR AH Af AN):T.ju.Ok BI P w Af base 1 qR:=by show T.ju.ok λJ _ _ _ _ _ D H U Q E h=>?_;obtain⟨i,rfl,k⟩:_:=h;show⟨_,(Ab (Aw (JU (Bw (JR) (by rfl) T.ao Gj #v[AB 0,(Ij (v:=.ty _) (by rfl) T.ym Vv rfl)]) (KW (Ru (Bw (JR) (by rfl) T.ao Gj #v[AB 0,(Ij (v:=.ty _) (by rfl) T.xf cO rfl)])))))),?_⟩;show⟨_,_,_,_,rfl,.int i,rfl,_,rfl,Fd ⟨_,_,_,_,rfl,.int i,rfl,_,rfl,k⟩⟩
def nV:BG:=λD H Q _=>∃i a b:Int,D=[.int i,.int a,.int b]/\a<=i/\i<=b/\Q (.bl AJ) H
theorem kW(T:BR AH Af AN):T.jt.Ok BI P w Af base 2 nV:=by show T.jt.ok λV _ _ _ _ _ U H W Q E h=>?_;obtain⟨i,a,b,rfl,D,J,k⟩:_:=h;show⟨_,(Ab (Aw (JU (Ax (kX T) U #v[AB 0]) (KW (Zw LD LD (AB 1) (AB 0) (AB 2)))))),?_⟩;show⟨i,rfl,_,rfl,Fd ?_⟩;show⟨_,rfl,GU (λe=>?_) λe=>absurd D e⟩;change Q (.bl _) H;rw[AFk J];show k
noncomputable abbrev Gq(s n k:Int):List (AG×AE):=[("slack",.int s),("now",.int n),("count",.int k)]
def n5(D:CO):BG:=λU H Q _=>(ER λ(x J:AD)(s:Int)=>Ee (U=[.ref x,.int s]) (H x=AA (.ins D.bb J [])) (0<=s) (s<=1000000000) (Q .non (AO H x (.ins D.bb J (Gq s 0 0)))))
theorem kE(T:BR AH Af AN):T.fq.Ok BI P w Af base 3 (n5 AN):=by show T.fq.ok λZ _ _ _ _ _ V H A Q E h=>?_;lk;obtain⟨x,U,z,rfl,e,W,Y,k⟩:=h;obtain⟨J,D⟩:=T.qo;k_in;show⟨_,(Ag (Bi (Fw (FH (Ax (kW T) V #v[AB 1,AM,(JW (v:=.int _) (by rfl) D ⟨_,rfl⟩)]))) (Ab Md) Bs) (Ag (GP (AB 0) (AB 1) rfl) (Ag (GP (AB 0) AM rfl) (Ab (GP (AB 0) AM rfl))))),?_⟩;show⟨z,0,_,rfl,W,Y,_,rfl,Ce ?_⟩;show⟨x,_,U,_,rfl,e,T.cj,T.pj,by decide,?_⟩;show⟨x,_,U,_,rfl,Ac,T.cj,T.dk,by change 1<1000;decide,?_⟩;show⟨x,_,U,_,rfl,Ac,T.cj,T.gc,by change 2<1000;decide,?_⟩;rw[N8,N8];show k
noncomputable def JL(n s t:Int):Int:=if t<n then n else JK n (t-s)
def nT(D:CO):BG:=λU H Q _=>(Kr λ(x J:AD)(t s n k:Int)=>NM (U=[.ref x,.int t]) (H x=AA (.ins D.bb J (Gq s n k))) (Q (.bl (Ae (n<=t))) (AO H x (.ins D.bb J (Gq s (JL n s t) (k+1))))))
theorem j9(T:BR AH Af AN):T.nz.Ok BI P w Af base 1 (nT AN):=by
 show T.nz.ok λU _ _ _ _ _ J H V Q E h=>?_;obtain⟨x,D,t,z,n,c,rfl,e,k⟩:_:=h;show⟨_,(Ag (GP (AB 0) (AY DH (Bq (AB 0) rfl) AM) rfl) (Ag (Bi (BK Mv (AB 1) (Bq (AB 0) rfl) (BF _)) (Ab (Aw Dh)) Bs) (Ag (GP (AB 0) (Bw (RV rfl) (by rfl) T.yn Vw #v[Bq (AB 0) rfl,AY Fv (AB 1) (Bq (AB 0) rfl)]) rfl) (Ab (Aw Dh))))),?_⟩;show⟨_,⟨e,T.cj,T.gc,rfl⟩,x,_,D,_,rfl,e,T.cj,T.gc,by change 3<1000;decide,?_⟩;show⟨_,⟨Ac,T.cj,T.dk,rfl⟩,_,rfl,K8 (λq=>?_) λq=>?_⟩
 . have q:t<n:=AFm q;unfold JL at k;rw[AFi q,AFl (by simp_all)]at k;show k
 . have q:¬t<n:=AFp q;unfold JL at k;rw[AFh q,AFk (by simp_all)]at k;show⟨_,⟨Ac,T.cj,T.dk,rfl⟩,_,⟨Ac,T.cj,T.pj,rfl⟩,?_⟩;show⟨x,_,D,Gq z n (c+1),rfl,Ac,T.cj,T.dk,by change 3<1000;decide,?_⟩;rw[N8];show k
theorem Kz{l:List U}(h:(l.take n)[i]?=AA x):i<n/\l[i]?=AA x:=by have D:=(BV.mp h).1;rw[Ej]at D;have J:=Bc D (LO _ _);rw[bQ J]at h;show⟨J,h⟩
theorem RA{l:List D}(J:i<n)(h:l[i]?=AA x):(l.take n)[i]?=AA x:=by rw[bQ J];show h
theorem MX(h:D3 (ss.take n) i):i<n/\D3 ss i:=by lk;obtain⟨m,a,b,D,e⟩:=h;obtain⟨l,e⟩:=Kz e;k_in;show⟨l,m,a,b,D,e⟩
theorem XO(D:i<n)(h:D3 ss i):D3 (ss.take n) i:=by obtain⟨m,a,b,J,e⟩:_:=h;show⟨m,a,b,J,RA D e⟩
theorem Cv.xg(h:Cv AN ex H ss Y D U sd)(J:EB ss U b):∃kvs,H b=AA (.dK kvs):=by
 lk;obtain⟨i,⟨n,a,W,B,A⟩,J⟩:=J;obtain⟨⟨C,Z⟩,E,z⟩:=(h.gw i n a W B A).2.xg;k_in;rcases J with rfl|rfl;.show⟨_,Z⟩
 .show⟨_,z⟩
theorem Cv.abr{ss:List AU}(h:Cv AN ex H (ss.take n) A D C λ_=>([],[]))(O:H A=AA (.dK D))(w:ss[n]?=AA (.join m a b wi))(s:Ah H Z)(M:H E=AF)(N:H F=AF)(jr:DR AN ex Z j k p r E F wi [] []):Cv AN ex (AO Z A (.dK (Bp D (.inl (n:Int)) (.ref j)))) (ss.take (n+1)) A (Bp D (.inl (n:Int)) (.ref j)) (λi=>if i=n then⟨j,k,p,r,E,F⟩else C i) λ_=>([],[]):=by
  have l:C6 _ Z (AO Z A (.dK (Bp D (.inl (n)) (.ref j)))):=zzu
  have T:∀b,b=A->(b∈ex/\∃xs,Z b=AA (.lst xs))\/∃P,Z b=AA (.dK P):=λb x=>.inr ⟨D,by rw[x];show s _ _ O⟩;have c:=(BE O M).symm;have d:=(BE O N).symm;have J:∀{i:Nat},D3 _ i->i≠n->D3 (ss.take n) i:=λ{i}U y=>XO (by have:=(MX U).1;show Dk (EM this) y) (MX U).2;have S:∀{i:Nat},D3 _ i->(E≠(C i).d0/\E≠(C i).d1)/\F≠(C i).d0/\F≠(C i).d1:=λ{i}U=>by obtain⟨k0,Q⟩:=h.xg ⟨i,U,.inl rfl⟩;obtain⟨k1,R⟩:=h.xg ⟨i,U,.inr rfl⟩;show⟨⟨(BE Q M).symm,(BE R M).symm⟩,(BE Q N).symm,(BE R N).symm⟩
  show⟨.inl Ac,λi n' t u wi' L=>?_,λi X U I K=>?_,λi U=>?_⟩
  . by_cases Y:i=n
    . subst Y;have e:=(Kz L).2;rw[w]at e;cases e;rw[AFi rfl];show⟨by rw[LK,AFi rfl],jr.fh l T c d⟩
    . rw[AFh Y];have G:=RA (by have:=(Kz L).1;show Dk (EM this) Y) (Kz L).2;obtain⟨v,q⟩:=h.gw i n' t u _ G;have g:=h.xi i ⟨_,_,_,_,G⟩;show⟨by rw[LK,AFh (λz=>Y (by lia))];show v,(q.ah s).fh l T g.1.symm g.2.symm⟩
  . by_cases W:i=n
    . subst W;have B:=El K;rw[AFi rfl,AFh B];have f:=S (J I B);show⟨⟨f.1.1.symm,f.2.1.symm⟩,f.1.2.symm,f.2.2.symm⟩
    . by_cases B:X=n
      . subst B;rw[AFh W,AFi rfl];show S (J U W)
      . rw[AFh W,AFh B];show h.cu i X (J U W) (J I B) K
  . by_cases W:i=n
    . subst W;rw[AFi rfl];show⟨c.symm,d.symm⟩
    . rw[AFh W];show h.xi i (J U W)
theorem Cv.ace{ss:List AU}(h:Cv AN ex H (ss.take n) Z J B sd)(F:ss[n]?=AA s)(G:s.no≠4):Cv AN ex H (ss.take (n+1)) Z J B sd:=by
 have D:∀{i:Nat},D3 _ i->D3 (ss.take n) i:=λ{i}U=>by
  obtain⟨m,a,b,W,e⟩:=U;obtain⟨l,E⟩:=Kz e;clear e;have e:=E;show⟨m,a,b,W,RA ?_ e⟩;by_cases q:i=n
  . subst q;rw[F]at e;cases e;show absurd rfl G
  .show Dk (EM l) q
 show⟨h.aq,λi C a b W A=>?_,λi I U Y=>h.cu i I (D U) (D Y),λi U=>h.xi i (D U)⟩;lk;obtain⟨N,L,M,K,z⟩:=D ⟨C,a,b,W,A⟩;have q:=(Kz A).2;rw[(Kz z).2]at q;cases q;k_in;show h.gw i C a b W z
noncomputable def Le(ss:List AU)(i:Nat):Bool:=match ss[i]? with|AA s=>Ae (s.no=4)|AF=>AQ
theorem Te:Le ss i=AJ↔D3 ss i:=by unfold Le D3;cases ss[i]? with |none=>exact⟨λh=>(by cases h),λ⟨_,_,_,_,h⟩=>(by cases h)⟩|some s=>
 constructor
 . intro h;have h:s.no=4:=AFm h;cases s<;>first|exact⟨_,_,_,_,rfl⟩|cases h
 . intro⟨_,_,_,_,h⟩;cases h;rfl
structure Jg(ss:List AU)(n:Nat)(jd:Nat->ES)(jkvs:List (AL×AE)):Prop where
 wm:∀p∈jkvs,∃i:Nat,i<n/\D3 ss i/\p=(.inl (i:Int),.ref (jd i).j)nd:(jkvs.map (·.1)).Nodup
 acn:jkvs.map (·.1)=((Eb n).filter (Le ss)).map λi=>.inl (i:Int)
theorem Jg.ace(h:Jg ss n J D)(U:ss[n]?=AA s)(W:s.no≠4):Jg ss (n+1) J D:=⟨λp Y=>by obtain⟨i,l,q,e⟩:_:=h.wm p Y;show⟨i,AAY l,q,e⟩,h.nd,by rw[bY,Gg,MB (by unfold Le;rw[U];simpa using W),List.filter_nil,Ew];show h.acn⟩
theorem Jg.abr(h:Jg ss n W D)(U:D3 ss n)(J:ES):Jg ss (n+1) (λi=>if i=n then J else W i) (Bp D (.inl (n:Int)) (.ref J.j)):=by
  show⟨λp Z=>?_,Pe h.nd,?_⟩
  . rcases Pc Z with rfl|⟨Y,_⟩;.show⟨n,by simp,U,by rw[AFi rfl]⟩
    . obtain⟨i,l,q,e⟩:_:=h.wm p Y;show⟨i,by lia,q,by rw[AFh (Dz l)];show e⟩
  . have e:Bv D (.inl (n:Int))=AF:=by cases q:Bv D (.inl (n:Int))with|none=>rfl|some v=> obtain⟨i,l,_,e⟩:=h.wm _ (Io q);have:=JB (AAi e).1;omega
    rw[Z6 _ e,DJ,h.acn,bY,Gg,LM (Te.mpr U),DJ];rfl
def oZ(A:CO):BG:=λB H Q _=>(ER λ(Z:AD)(z:List AE)(J:List AU)=>Ee (B=[.ref Z]) (H Z=AA (.lst z)) (D1 H z J) (J.length<=20) (∀U W D Y,Ah H U->H W=AF->U W=AA (.dK D)->Jg J J.length Y D->Cv A [] U J W D Y (λ_=>([],[]))->(∀b,EB J Y b->H b=AF)->Q (.ref W) U))
theorem Tv(T:BR AH Af AN):T.ur.Ok BI P w Af base 5 (oZ AN):=by
  show T.ur.ok λnd _ _ _ _ _ hr H vs Q E h=>?_;obtain⟨lp,ps,t,rfl,R,pr,lss,k⟩:_:=h;show⟨_,(Ag (BD 1 nd Pl) (Ag (EG EN rfl (Mx (K:=AH) (by rfl) T.fo (AB 0)) (NW rfl (G1 (EF 2 nd) (G1 (EF 3 nd) L8))) (Ab (Bi (BK Cp (Av AH (AB 3) AM) BZ (BF _)) (Ab (JY hr.u1 (AB 1) (AB 2) (Mb (kZ T) hr T.abh Js #v[Av AH (AB 3) AM]) rfl)) Bs))) (Ab (Aw (AB 1))))),?_⟩;have sz:Ay=16777216:=Dc;have lps:=pr.dh;intro N F;show BM (o:=.dK []) F λH0 g0 O=>?_;show⟨lp,rfl,⟨_,AX (g0 _ _ R)⟩,Uk (K:=AH) (xs:=ps) (λn u s=>(JE λ(o3 o4:Option AE)(D:List (AL×AE))(G:Nat->ES)=>Jc (u=[AA (.ref lp),AA (.ref N),o3,o4]) (Ah H s) (s N=AA (.dK D)) (D.length<=n) (Jg t n G D) (Cv AN [] s (t.take n) N D G (λ_=>([],[]))) (∀b,EB (t.take n) G b->H b=AF))) ⟨AF,AF,[],λ_=>⟨0,0,0,0,0,0⟩,rfl,g0,O,Al _,⟨λp hp=>(by cases hp),.nil,rfl⟩,⟨.inl O,λi n a b M e=>(by cases(Kz e).1),λi i' A=>(by cases(MX A).1),λi A=>(by cases(MX A).1)⟩,λb⟨i,A,_⟩=>(by cases(MX A).1)⟩ (λn u s _ hh=>by obtain⟨_,_,_,_,_,s',_⟩:=hh;show AX (s' _ _ R)) ?_ ?_⟩
  . intro n x u H1 p hx hI hp;lk;obtain⟨o3,o4,D,G,rfl,s1,B,I,U,W,J⟩:=hI;obtain⟨b,st,rfl,L,eb⟩:=pr.at hx;k_in;show BM (o:=.tup [.int (n:Int),.ref b]) hp λH2 g2 ep=>?_;show⟨p,_,rfl,Ar ep,rfl,_,_,rfl,_,_,rfl,rfl,?_⟩;have s2:=s1.aa g2;have eb2:DF H2 b st:=s2 _ _ eb;have d:=W.ah g2;have C:=g2 _ _ B;obtain⟨e0,e1,_⟩:_:=eb2.gj;have hn:n<t.length:=(BV.mp L).1;show⟨_,_,e0,e1,rfl,_,rfl,KC (i:=4) rfl (λr=>?_) λr=>⟨_,_,D,G,rfl,s2,C,Kf I,U.ace L r,d.ace L r,λv Y=>?_⟩⟩
    . lk;obtain⟨m,f,g,M,rfl⟩:∃m f g M,st=.join m f g M:=by cases st<;>first|show⟨_,_,_,_,rfl⟩|cases r
      k_in;show⟨_,_,e0,Ap (j:=4) rfl,λj y hj S hnj=>⟨[],j,y,M,rfl,Ac,(λc hc=>by cases hc),λHs sl x0 x1 d0 d1 sx Z z jr=>⟨rfl,?_⟩⟩⟩;have s3:Ah H2 Hs:=λb o e=>sx _ _ (BE e hj) (by rw[AW (BE e hj),AW (BE e S)];show e);have Z:=Jn (Jn Z);have z:=Jn (Jn z);show⟨N,_,rfl,Mi (k:=.inl (n:Int)) (s3 _ _ C) (by lia),?_⟩;have lk:=T4 D (.inl (n:Int)) (.ref j);show⟨_,_,Bp D (.inl (n:Int)) (.ref j),_,rfl,(s2.aa s3).vh F,Ac,Ak lk (Jx.mpr I),U.abr ⟨_,_,_,_,L⟩ ⟨j,sl,x0,x1,d0,d1⟩,d.abr C L s3 Z z jr,λv X=>?_⟩;obtain⟨i,A,Y⟩:=X;by_cases q:i=n
      . subst q;dsimp only at Y;rw[AFi rfl]at Y;rcases Y with rfl|rfl;.show s2.au Z
        .show s2.au z
      . dsimp only at Y;rw[AFh q]at Y;show J v ⟨i,XO (by have:=(MX A).1;lia) (MX A).2,Y⟩
    . lk;obtain⟨i,⟨m,a,c,M,e⟩,Y⟩:=Y;obtain⟨l,e2⟩:=Kz e;k_in;show J v ⟨i,⟨m,a,c,M,RA ?_ e2⟩,Y⟩;by_cases q:i=n;. subst q;rw[L]at e2;cases e2;show absurd rfl r
      .lia
  . intro u H1 hI;obtain⟨o3,o4,D,G,rfl,s1,B,I,U,W,J⟩:_:=hI;rw[lps]at U W J;rw[SF]at W J;show k H1 N D G s1 F B U W J
structure Fo where
 x:AD
 p:AD
 d:AD
section
variable{s:AU}
structure Cu(ad:CO)(ex:List AD)(H:AI)(ss:List AU)(ts:List Nat)(dg:AD)(gkvs:List (AL×AE))(gd:Nat->Fo)(gg:Nat->AG->List AZ)(gk:Nat->List (AL×AE)):Prop where
 aq:Fs H dg (.dK gkvs)jo:∀i∈ts,∃s,ss[i]?=AA s/\Bv gkvs (.inl (i:Int))=AA (.ref (gd i).x)/\Dp ad ex H (gd i).x (gd i).p (gd i).d s (gg i) (gk i)cu:∀i∈ts,∀i'∈ts,i≠i'->(gd i).d≠(gd i').d
 qh:∀i∈ts,dg≠(gd i).d
end
theorem Dp.fh{st:AU}(h:Dp AN ex H x p d st g kvs)(s:C6 q H H')(D:∀b,q b->(b∈ex/\∃xs,H b=AA (.lst xs))\/∃kvs,H b=AA (.dK kvs))(Y:¬q d):Dp AN ex H' x p d st g kvs:=by have J:By H H':=λb xs e=>s _ _ (λz=>by rcases D b z with⟨_,xs,y⟩|⟨kvs,y⟩<;>(rw[e]at y;cases y)) e;obtain⟨⟨U,e⟩,W,r⟩:_:=h;show⟨⟨U,s _ _ (λz=>by rcases D x z with⟨_,xs,y⟩|⟨kvs,y⟩<;>(rw[e]at y;cases y)) e⟩,W.tp J,r.ae (s _ _ Y r.aq) (λb xs n e=>s _ _ (λz=>by
 rcases D b z with⟨y,_⟩|⟨kvs,y⟩;.show n y
 .rw[e]at y;cases y) e) J⟩
theorem Cu.ah(h:Cu AN ex H ss Z J D U V gk)(s:Ah H H'):Cu AN ex H' ss Z J D U V gk:=⟨Lg h.aq (s _),λi W=>by obtain⟨Y,e,v,g⟩:_:=h.jo i W;show⟨Y,e,v,g.ah s⟩,h.cu,h.qh⟩
theorem Cu.jm(h:Cu AN ex H ss z J D U V gk)(Y:H l=AF):Cu AN (l::ex) H ss z J D U V gk:=⟨h.aq,λi W=>by obtain⟨Z,e,v,g⟩:_:=h.jo i W;show⟨Z,e,v,g.jm Y⟩,h.cu,h.qh⟩
theorem Cu.jz(h:Cu AN (l::ex) H ss Z J D U V gk):Cu AN ex H ss Z J D U V gk:=⟨h.aq,λi W=>by obtain⟨Y,e,v,g⟩:_:=h.jo i W;show⟨Y,e,v,g.jz⟩,h.cu,h.qh⟩
theorem Cu.fh(h:Cu AN ex H ss W J D U Y gk)(s:C6 q H H')(A:∀b,q b->(b∈ex/\∃xs,H b=AA (.lst xs))\/∃kvs,H b=AA (.dK kvs))(Z:∀i∈W,¬q (U i).d)(z:¬q J):Cu AN ex H' ss W J D U Y gk:=⟨Lg h.aq λo=>s _ o z,λi V=>by obtain⟨B,e,v,g⟩:_:=h.jo i V;show⟨B,e,v,g.fh s A (Z i V)⟩,h.cu,h.qh⟩
theorem Cu.jx{st:AU}(h:Cu AN ex H ss A B J D E gk)(hi:i∈A)(Y:ss[i]?=AA st)(s:Bk (D i).d H H')(r:Dp AN ex H' (D i).x (D i).p (D i).d st Z z):Cu AN ex H' ss A B J D (λk=>if k=i then Z else E k) (λk=>if k=i then z else gk k):=by
 have G:∃I,H (D i).d=AA (.dK I):=by obtain⟨_,_,_,g⟩:=h.jo i hi;show⟨_,g.av.aq⟩
 show⟨Lg h.aq λo=>s _ o (h.qh i hi),λk W=>?_,h.cu,h.qh⟩;by_cases q:k=i
 . subst q;lk;obtain⟨U,e,v,_⟩:=h.jo k W;rw[Y]at e;k_in;show⟨st,Y,v,by rw[AFi rfl,AFi rfl];show r⟩
 . obtain⟨U,e,v,g⟩:_:=h.jo k W;show⟨U,e,v,by rw[AFh q,AFh q];show g.fh (λb o K C=>s b o K C) (λb F=>.inr (by rw[F];show G)) (h.cu k W i hi q)⟩
theorem Cu.qr(h:Cu AN ex H ss N V D G I gk)(e:Fs H' V (.dK D))(A:∀b,b≠V->H' b=H b):Cu AN ex H' ss N V D G I gk:=by
 have W:∀{b:AD}{U:Bg},H b=AA U->(∀o u,U≠.frz o u)->(∀u,U≠.dK u)->H' b=AA U:=λ{b U}J L K=>by
  rw[A b λz=>by
   rw[z]at J;rcases h.aq with Y|⟨P,Y⟩<;>rw[Y]at J;.show K _ (Bz J).symm
   .show L _ _ (Bz J).symm];show J
 have B:By H H':=λb O J=>W J (by intro o u z;cases z) (by intro u z;cases z);show⟨e,λi Z=>?_,h.cu,h.qh⟩;obtain⟨M,e,v,⟨C,E⟩,F,r⟩:_:=h.jo i Z;show⟨M,e,v,⟨C,W E (by intro o u z;cases z) (by intro u z;cases z)⟩,F.tp B,r.ae (by rw[A _ (h.qh i Z).symm];show r.aq) (λb O _ e=>W e (by intro o u z;cases z) (by intro u z;cases z)) B⟩
structure JF(ts:List Nat)(gd:Nat->Fo)(gkvs:List (AL×AE)):Prop where
 wm:∀p∈gkvs,∃i∈ts,p=(.inl (i:Int),.ref (gd i).x)nd:(gkvs.map (·.1)).Nodup
 acn:gkvs.map (·.1)=ts.map λi=>.inl (i:Int)
theorem HM:i∈Aj ss↔∃s,ss[i]?=AA s/\s.bj=AJ:=by
 unfold Aj KI;rw[Dx,Vh];constructor
 . rintro⟨h,q⟩;rw[Cr h]at q;show⟨_,Cr h,q⟩
 . intro D;obtain⟨s,e,q⟩:_:=D;show⟨(BV.mp e).1,by rw[e];show q⟩
theorem rA(ss:List AU):(Aj ss).Nodup:=ACn.sublist Px
theorem Tn(U:H x=AF)(J:H D=AF)(s:Bk x (AO (AO H D (.own x)) x (.ins C D [])) H'):Ah H H':=λb o e=>s b o (BE e U) (by rw[AW (BE e U),AW (BE e J)];show e)
theorem Oq(U:D≠x)(h:AO (AO H D (.own x)) x (.ins C D []) b=AF):H b=AF/\b≠x:=by
 have J:b≠x:=λz=>by rw[z,Ac]at h;cases h
 have V:b≠D:=λz=>by rw[z,AW U,Ac]at h;cases h
 rw[AW J,AW V]at h;show⟨h,J⟩
theorem Cu.abr{st:AU}(h:Cu AN [] H ss A B D G (λ_ _=>[]) (λ_=>[]))(O:H B=AA (.dK D))(T:ss[i]?=AA st)(K:i∉A)(s:Ah H Z)(M:H J.d=AF)(X:Dp AN [] Z J.x J.p J.d st (λ_=>[]) []):Cu AN [] (AO Z B (.dK (Bp D (.inl (i:Int)) (.ref J.x)))) ss (A++[i]) B (Bp D (.inl (i:Int)) (.ref J.x)) (λk=>if k=i then J else G k) (λ_ _=>[]) (λ_=>[]):=by
  have S:C6 _ Z (AO Z B (.dK (Bp D (.inl (i)) (.ref J.x)))):=zzu
  have P:∀b,b=B->(b∈([])/\∃j,Z b=AA (.lst j))\/∃I,Z b=AA (.dK I):=λb a=>.inr ⟨D,by rw[a];show s _ _ O⟩;have Q:=(BE O M).symm;have W:∀{k:Nat},k∈A->k≠i:=λU z=>K (by rw[<-z];show U);have N:∀{k:Nat},k∈A->J.d≠(G k).d:=λ{k}U=>by obtain⟨_,_,_,g⟩:=h.jo k U;show(BE g.av.aq M).symm
  have Y:∀{k:Nat},k∈A++[i]->k∈A\/k=i:=λU=>(DN.mp U).imp id Bt.mp;show⟨.inl Ac,λk U=>?_,λk U c E R=>?_,λk U=>?_⟩
  . rcases Y U with U|rfl;. obtain⟨L,e,v,g⟩:_:=h.jo k U;rw[AFh (W U)];show⟨L,e,by rw[LK,AFh (λz=>W U (by lia))];show v,(g.ah s).fh S P (h.qh k U).symm⟩
    . rw[AFi rfl];show⟨st,T,by rw[LK,AFi rfl],X.fh S P Q⟩
  . rcases Y U with F|rfl
    . rcases Y E with C|rfl
      . rw[AFh (W F),AFh (W C)];show h.cu k F c C R
      . rw[AFh (W F),AFi rfl];show(N F).symm
    . rcases Y E with C|rfl
      . rw[AFi rfl,AFh (W C)];show N C
      .show absurd rfl R
  . rcases Y U with U|rfl;. rw[AFh (W U)];show h.qh k U
    . rw[AFi rfl];show Q.symm
theorem JF.abr(h:JF Y Z D)(U:i∉Y)(J:Fo):JF (Y++[i]) (λk=>if k=i then J else Z k) (Bp D (.inl (i:Int)) (.ref J.x)):=by
  show⟨λp B=>?_,Pe h.nd,?_⟩
  . rcases Pc B with rfl|⟨A,_⟩;.show⟨i,Ea _ (.head _),by rw[AFi rfl]⟩
    . obtain⟨k,W,e⟩:_:=h.wm p A;show⟨k,HU _ W,by rw[AFh (λz=>U (by rw[<-z];show W))];show e⟩
  . have e:Bv D (.inl (i:Int))=AF:=by cases q:Bv D (.inl (i:Int))with |none=>rfl|some v=> obtain⟨k,W,e⟩:=h.wm _ (Io q);have:=JB (AAi e).1;exact absurd (by rw[Ko.mp this];show W) U
    rw[Z6 _ e,DJ,h.acn,DJ];rfl
def oV(A:CO):BG:=λB H Q _=>(ER λ(Z:AD)(z:List AE)(J:List AU)=>Ee (B=[.ref Z]) (H Z=AA (.lst z)) (D1 H z J) (J.length<=20) (∀U W D Y,Ah H U->H W=AF->U W=AA (.dK D)->D.length<=J.length->JF (Aj J) Y D->Cu A [] U J (Aj J) W D Y (λ_ _=>[]) (λ_=>[])->(∀i∈Aj J,H (Y i).d=AF)->Q (.ref W) U))
theorem Tu(T:BR AH Af AN):T.uc.Ok BI P w Af base 3 (oV AN):=by
  show T.uc.ok λnd _ _ _ _ _ hr H vs Q E h=>?_;obtain⟨lp,ps,Y,rfl,c,pr,lss,k⟩:_:=h;show⟨_,(Ag (BD 1 nd Pl) (Ag (EG EN rfl (DI (K:=AH) (Ax (lZ T) hr #v[AB 0])) (EF 2 nd) (Ab (JY hr.u1 (AB 1) (AB 2) (Mb (kU T) hr T.aar Js #v[Dj AH (AB 0) (AB 2)]) rfl))) (Ab (Aw (AB 1))))),?_⟩;have sz:Ay=16777216:=Dc;have lps:=pr.dh;intro O N;show BM (o:=.dK []) N λH0 u X=>?_;show⟨lp,ps,Y,rfl,u _ _ c,pr.ae u.tp,Ak lss (by decide),λH1 lt s1 hlt f=>?_⟩;have lts:(Aj Y).length<=Y.length:=Ak (Ff _ _) (by rw[M5];show Al _);show⟨lt,rfl,⟨_,AX f⟩,HQ (K:=AH) (xs:=(Aj Y).map λi:Nat=>AE.int (i:Int)) (λn r R=>(ER λ(o2:Option AE)(D:List (AL×AE))(L:Nat->Fo)=>Kq (r=[AA (.ref lp),AA (.ref O),o2]) (Ah H R) (R lt=AA (.lst ((Aj Y).map λi:Nat=>AE.int (i:Int)))) (R O=AA (.dK D)) (D.length<=n) (JF ((Aj Y).take n) L D) (Cu AN [] R Y ((Aj Y).take n) O D L (λ_ _=>[]) (λ_=>[])) (∀i∈(Aj Y).take n,H (L i).d=AF))) ⟨AF,[],λ_=>⟨0,0,0⟩,rfl,u.aa s1,f,s1 _ _ X,Al _,⟨λp hp=>(by cases hp),.nil,rfl⟩,⟨.inl (s1 _ _ X),λi Z=>(by cases Z),λi Z=>(by cases Z),λi Z=>(by cases Z)⟩,λi Z=>(by cases Z)⟩ (λn r R _ hh=>by obtain⟨_,_,_,_,_,e,_⟩:=hh;show AX e) ?_ ?_⟩
  . intro n y r I hy v;lk;obtain⟨o2,D,L,rfl,s2,W,A,G,C,F,B⟩:=v;rw[CD]at hy;obtain⟨i,Z,rfl⟩:=EI.mp hy;obtain⟨st,s,ht⟩:=HM.mp (Ct Z);obtain⟨a,ea,eq⟩:∃a,ps[i]?=AA (.ref a)/\DF H a st:=by have t:=Cr (show i<ps.length by rw[lps];show(BV.mp s).1);obtain⟨a,s',e1,e2,e3⟩:=pr.at t;rw[s]at e2;cases e2;rw[e1]at t;show⟨a,t,e3⟩
    k_in;have hnt:n<(Aj Y).length:=(BV.mp Z).1;have m:i∉(Aj Y).take n:=λhm=>by obtain⟨j,hj,e⟩:=G8.mp hm;rw[Ej]at hj;rw[SD]at e;obtain⟨h2,g2⟩:=BV.mp Z;show(HV.mp (rA Y)) j n (Bc hj (Vn _ _)) h2 (AFr hj (Vm (B7 hnt))) (e.trans g2.symm)
    show⟨_,_,AX (s2 _ _ c),Ap ea,λx U hx hdx hxn=>⟨x,U,a,rfl,Ac,λd hd=>⟨rfl,?_⟩⟩⟩;obtain⟨M,ndx⟩:=Oq hxn hd;have s3:Ah I (AO (AO (AO (AO (AO I U (.own x)) x (.ins AN.aw U [])) x (.ins AN.aw U [("step",.ref a)])) d (.dK [])) x (.ins AN.aw U [("step",.ref a),("rows",.ref d)])):=λb o e=>by have n1:=BE e hx;rw[AW n1,AW (BE e M),AW n1,AW n1,AW (BE e hdx)];show e
    have g:(AO (AO (AO (AO (AO I U (.own x)) x (.ins AN.aw U [])) x (.ins AN.aw U [("step",.ref a)])) d (.dK [])) x (.ins AN.aw U [("step",.ref a),("rows",.ref d)])) x=AA (.ins AN.aw U [("step",.ref a),("rows",.ref d)]):=Ac;have S:(AO (AO (AO (AO (AO I U (.own x)) x (.ins AN.aw U [])) x (.ins AN.aw U [("step",.ref a)])) d (.dK [])) x (.ins AN.aw U [("step",.ref a),("rows",.ref d)])) d=AA (.dK []):=by rw[AW ndx];show Ac
    generalize AO (AO (AO (AO (AO I U (.own x)) x (.ins AN.aw U [])) x (.ins AN.aw U [("step",.ref a)])) d (.dK [])) x (.ins AN.aw U [("step",.ref a),("rows",.ref d)])=H3 at s3 g S⊢;show⟨O,_,rfl,Mi (k:=.inl (i:Int)) (s3 _ _ A) (by lia),?_⟩;have lk:=T4 D (.inl (i:Int)) (.ref x);have tk:(Aj Y).take (n+1)=(Aj Y).take n++[i]:=by rw[Dy,Z];rfl
    have nlt:lt≠O:=λz=>by rw[z,A]at W;cases W
    show⟨_,Bp D (.inl (i:Int)) (.ref x),λk=>if k=i then⟨x,a,d⟩else L k,rfl,(s2.aa s3).vh N,by rw[AW nlt];show s3 _ _ W,Ac,Ak lk (Jx.mpr G),by rw[tk];show C.abr m ⟨x,a,d⟩,?_,λk' l=>?_⟩;. rw[tk];show F.abr (J:=⟨x,a,d⟩) A s m s3 M ⟨⟨U,g⟩,(s2.aa s3) _ _ eq,S,.nil,λq hq=>(by cases hq),λkey ne=>absurd rfl ne⟩
    . rw[tk]at l;dsimp only;by_cases q:k'=i
      . rw[AFi q];show s2.au M
      . rw[AFh q];show B k' ((DN.mp l).elim id λh=>absurd (Bt.mp h) q)
  . intro r I v;obtain⟨o2,D,L,rfl,s2,W,A,G,C,F,B⟩:_:=v;rw[BB]at G C F B;rw[D7 (Al _)]at C F B;show k I O D L s2 N A (Ak G lts) C F B
noncomputable def Gs(z:AG)(l:List AR):List Jh:=(l.filter λi=>Ae (i.2.1=z)).map λi=>(i.1,i.2.2)
theorem X3(z:AG)(l m:List AR):Gs z (l++m)=Gs z l++Gs z m:=by unfold Gs;rw[Gg,DJ]
theorem mS(p:l.Perm m):(Gs z l).Perm (Gs z m):=(p.filter _).map _
theorem mP(z:AG)(l:List AR):(Gs z l).length<=l.length:=by unfold Gs;rw[BB];show Ff _ _
theorem mQ(h:x∈Gs z l):∃i∈l,i.1=x.1:=by obtain⟨i,D,rfl⟩:_:=BQ.mp h;show⟨i,(Dx.mp D).1,rfl⟩
noncomputable def AU.fd:AU->AG|AU.gap _ a _ _|AU.each _ a _ _ _=>a|_=>""
noncomputable def F8(s:AU)(now:Int)(l:List AR)(z:AG):List AZ:=IV now (J9 s (Gs z l))
theorem YQ(D:s.ig)(J:now<=x.1):IW (F8 s now l) x.2.1 (s.ny x.1 x.2.2 (F8 s now l x.2.1))=F8 s now (l++[x]):=by
  funext z;by_cases q:z=x.2.1
  . have e:Gs z [x]=[(x.1,x.2.2)]:=by change(Vd _ _).map _=_;rw[LM (by show AFk q.symm)];rfl
    unfold F8;rw[X3,e,iE,(gX D (Wj D) J).1,q,NY]
  . have e:Gs z [x]=[]:=by change(Vd _ _).map _=_;rw[MB (by rw[AFo];show El q)];rfl
    unfold F8;rw[Ky q,X3,e,Ew]
theorem Oz{s:AU}(D:s.ig):s.gd (F8 s now l z):=gW (Wj D) Px
theorem YO(D:s.ig)(p:l.Perm m):F8 s now l=F8 s now m:=by funext z;unfold F8;rw[iD D (mS p)]
theorem Q9(J:s.ig)(U:∀x∈l,0<=x.1/\x.1<=1000000000):(F8 s now l z).length<=5*l.length:=by
 have W:(F8 s now l z).length<=(J9 s _).length:=Ff _ _;have Y:=iC (ps:=Gs z l) J λx V=>by obtain⟨i,D,e⟩:=mQ V;rw[<-e];show U i D
 have:=mP z l;lia
noncomputable def Jk(ss:List AU)(now:Int)(F:Nat->List AR)(i:Nat):AG->List AZ:=match ss[i]? with|AA s=>F8 s now (F i)|AF=>λ_=>[]
theorem HK(e:ss[i]?=AA s):Jk ss now F i=F8 s now (F i):=by unfold Jk;rw[e]
noncomputable def FL(ss:List AU)(i:Nat):AG:=match ss[i]? with|AA s=>s.fd|AF=>""
theorem F6(e:ss[i]?=AA s):FL ss i=s.fd:=by unfold FL;rw[e]
noncomputable abbrev DS(ss:List AU)(now:Int)(L:AG->List AR):Nat->AG->List AZ:=Jk ss now λi=>L (FL ss i)
theorem JP(e:ss[i]?=AA s):DS ss now L i=F8 s now (L s.fd):=by change Jk ss _ _ i=_;rw[HK e,F6 e]
theorem Cu.vc(h:Cu AN ex H ss J U D W Y gk)(e:∀i∈J,gg' i=Y i):Cu AN ex H ss J U D W gg' gk:=⟨h.aq,λi Z=>by obtain⟨A,z,v,g⟩:_:=h.jo i Z;show⟨A,z,v,by rw[e i Z];show g⟩,h.cu,h.qh⟩
noncomputable def FN(D:List (Int×AR))(i:Nat):List AR:=(D.filter λp=>Ae (p.1=(i:Int))).map (·.2)
theorem XQ(a b:List (Int×AR))(i:Nat):FN (a++b) i=FN a i++FN b i:=by unfold FN;rw[Gg,DJ]
theorem NU{D:List (Int×AR)}{p:Int×AR}(e:D[n]?=AA p)(i:Nat):FN (D.take (n+1)) i=FN (D.take n) i++(if p.1=(i:Int)then[p.2]else[]):=by
 rw[Dy,e,XQ];congr 1;change(Vd _ [p]).map _=_;by_cases q:p.1=(i)
 . rw[AFi q,LM (by show AFk q)];rfl
 . rw[AFh q,MB (by rw[AFo];show q)];rfl
theorem XS(D:List (Int×AR))(n i:Nat):(FN (D.take n) i).Sublist (FN D i):=((ACr n D).filter _).map _
theorem XR(l:List AR)(j i:Nat):FN (l.map λx=>((j:Int),x)) i=if j=i then l else[]:=by
 unfold FN;by_cases q:j=i
 . rw[AFi q,Vf.mpr λp D=>by obtain⟨x,_,rfl⟩:_:=BQ.mp D;show AFk (by rw[q]),C8];show ACh l
 . rw[AFh q,MC.mpr λp D=>by obtain⟨x,_,rfl⟩:_:=BQ.mp D;rw[AFo];show OI q (λJ=>Ko.mp J)];rfl
theorem UG(e:ss[i]?=AA s)(U:s.bj=AJ):∀N,FN (D4 ss bt N) i=if i<N then bt s.nm else[] |0=>rfl|N+1=>by change FN (D4 ss bt N++_) i=_;rw[XQ,UG e U N];cases q:ss[N]? with |none=> have:=(BV.mp e).1;have:=SA.mp q;rw[AFi (by lia),AFi (by lia)];show Ew _|some J=>
      change _++FN (if J.bj=AJ then(bt _).map _ else[]) i=_;by_cases h:N=i
      . subst h;rw[e]at q;cases q;rw[AFh (HW _),AFi U,XR,AFi rfl,AFi (OH _)];rfl
      . have V:FN (if J.bj=AJ then(bt J.nm).map λi=>((N),i)else[]) i=[]:=by
          split;.rw[XR,AFh h]
          .rfl
        rw[V,Ew];by_cases D:i<N;.rw[AFi D,AFi (AAY D)]
        .rw[AFh D,AFh (OI D (λW=>Dk (EM W) (El h)))]
theorem UH:∀{N:Nat}{p:Int×AR},p∈D4 ss bt N->∃(i:Nat)(s:AU),ss[i]?=AA s/\s.bj=AJ/\p.1=(i:Int)/\p.2∈bt s.nm
 |0,p,h=>by cases h|N+1,p,h=>by
  rcases DN.mp h with h|h;.show UH h
  .cases q:ss[N]? with |none=>rw[q]at h;cases h|some s=>
   rw[q]at h;have h:p∈if s.bj=AJ then(bt _).map _ else[]:=h;split at h
   . rename_i D;obtain⟨x,J,rfl⟩:_:=BQ.mp h;show⟨N,s,q,D,rfl,J⟩
   .cases h
theorem C3.ig(h:C3 ss){i:Nat}(e:ss[i]?=AA s)(D:s.bj=AJ):s.ig/\s.so∈GJ/\s.bo=[s.fd]:=by have:=h.ok s (Ct e);cases s with|gap n a J m=>show⟨this.1,this.2,rfl⟩|each n a J z d=>show⟨this.1,this.2,rfl⟩|_=>cases D
def GN(ss:List AU)(J:Nat->ES)(D:Nat->Fo)(b:AD):Prop:=EB ss J b\/∃i∈Aj ss,b=(D i).d
def pT(F:CO):BG:=λR H Q _=>(WX λ(O I G q:AD)(P:List AE)(D:List AU)(W:List (AL×AE))(B:Nat->ES)(C:Nat->List AR×List AR)(L Y:AG->List AR)(Z:List CL)(e:CL)(J:Int)(U:List (AL×AE))(z:Nat->Fo)(N:Nat->List (AL×AE))=>WT (R=[.ref O,.ref I,.ref G,.ref q]) (H O=AA (.lst P)) (D1 H P D) (C3 D) (D.length<=20) (Cv F [] H D I W B C) (Ks H q e) ((∀(i:Nat)s,D[i]?=AA s->s.bj=AQ->L s.nm=Ef s L Z/\Y s.nm=Ef s Y (Z++[e])/\(Y s.nm).length<=600)) ((∀(i:Nat)n a b K,D[i]?=AA (.join n a b K)->(C i).1.Perm (Br (J-K) (L a))/\(C i).2.Perm (Br (J-K) (L b)))) (J<=e.1) (Cu F [] H D (Aj D) G U z (DS D J L) N) ((∀i∈Aj D,(N i).length<=(L (FL D i)).length)) ((∀(i:Nat)s,D[i]?=AA s->s.bj=AQ->∀x∈Y s.nm,0<=x.1/\x.1<=1000000000)) ((∀i∈Aj D,¬EB D B (z i).d/\I≠(z i).d)) (¬EB D B G) (∀E M A,C6 (GN D B z) H E->Cv F [] E D I W B (F7 D C D.length M)->Cu F [] E D (Aj D) G U z (DS D J Y) A->(∀i∈Aj D,(A i).length<=(Y (FL D i)).length)->(∀(i:Nat)s,D[i]?=AA s->GH s M (C i) e)->Q .non E))
theorem Oh(V:C3 ss){L J:AG->List AR}{sd:Nat->List AR×List AR}(F:now<=e.1)(A:∀(i:Nat)s,ss[i]?=AA s->s.bj=AQ->L s.nm=Ef s L evs/\J s.nm=Ef s J (evs++[e])/\(J s.nm).length<=600)(W:∀(i:Nat)n a b wi,ss[i]?=AA (.join n a b wi)->(sd i).1.Perm (Br (now-wi) (L a))/\(sd i).2.Perm (Br (now-wi) (L b)))(Z:∀(i:Nat)s,ss[i]?=AA s->GH s bt (sd i) e):∀(m i:Nat)s,i<m->ss[i]?=AA s->s.bj=AQ->(J s.nm).Perm (L s.nm++bt s.nm)|0,i,s,z,_,_=>absurd z (MH _)|m+1,i,s,z,D,B=>Wl B (A i s D B).1 (A i s D B).2.1 (λa Y=>by obtain⟨C,E,l,U,rfl,G⟩:_:=V.ph i s a D Y;show Oh V F A W Z m C E (Bc l (EM z)) U G) (λn a b wi q=>W i n a b wi (by rw[<-q];show D)) (λa Y=>by obtain⟨C,E,l,U,rfl,G⟩:_:=V.ph i s a D Y;show V.abn F W (λi s _ D=>Z i s D) _ (Al _) C E (BV.mp U).1 U) (Z i s D)
theorem lQ(T:BR AH Af AN):T.uf.Ok BI P w Af base 6 (pT AN):=by
  show T.uf.ok λnd _ _ _ _ _ hr H vs Q E h=>?_;obtain⟨lp,dj,dg,q,ps,ss,jkvs,jd,sd,L,L',evs,e,now,gkvs,gd,gk,rfl,elp,pr,pok,lss,jr,ev,hL,hS,he,gr,lgk,tm,apt,ndg,k⟩:_:=h;show⟨_,(Ab (EG EN rfl (DI (K:=AH) (Ax (Xr T) hr #v[AB 0,AB 1,AB 3])) (NW rfl (G1 (EF 4 nd) (G1 (EF 5 nd) L8))) (Ab (FT (Hv (Cg hr.u1 (AB 2) (AB 4) (λ_ _=>rfl)) T.bh (Xk T) hr #v[AB 5]))))),?_⟩;have sz:Ay=16777216:=Dc;show⟨[],lp,dj,q,ps,ss,jkvs,jd,sd,L,L',evs,e,now,rfl,elp,pr,pok,lss,jr,(λc hc=>by cases hc),ev,hL,hS,he,λH1 m xs bt s1 jr1 hm em its br1=>?_⟩;have jr1:=jr1.jz;have ap:=Oh pok he hL hS br1 ss.length;have nw:=pok.abn he hS (n:=ss.length) (λi s _ ei=>br1 i s ei) ss.length (Al _);have isd:∀b,EB ss jd b->∃kvs,H b=AA (.dK kvs):=λb hb=>jr.xg hb;have gr1:=gr.fh s1 (λb hb=>.inr (isd b hb)) (λi hi=>(apt i hi).1) ndg;have tel:∀{i:Nat},i∈Aj ss->∃s,ss[i]?=AA s/\s.ig/\(L' s.fd).Perm (L s.fd++bt s.nm)/\(L' s.fd).length<=600/\(∀x∈L' s.fd,0<=x.1/\x.1<=1000000000)/\(∀x∈bt s.nm,now<=x.1)/\FN (D4 ss bt ss.length) i=bt s.nm:=λ{i}hi=>by
    obtain⟨s,es,ht⟩:=HM.mp hi;obtain⟨tk,_,fd⟩:=pok.ig es ht;obtain⟨i',s',l,e',en,t'⟩:=pok.ph i s s.fd es (by rw[fd];show .head _);have hi':i<ss.length:=(BV.mp es).1;have pp:=ap i' s' (MG l hi') e' t';have eb:bt s.nm=bt s.fd:=by have:=br1 i s es;cases s with |gap n a so m=>show this|each n a so z d=>show this|_=>cases ht
    rw[en]at pp;show⟨s,es,tk,by rw[eb];show pp,by rw[<-en];show(hL i' s' e' t').2.2,by rw[<-en];show tm i' s' e' t',nw i s hi' es,?_⟩;rw[UG es ht,AFi hi']
  have lx:=its.dh;have hmd:¬∃i∈Aj ss,m=(gd i).d:=λ⟨i,hi,z⟩=>by obtain⟨_,_,_,g⟩:=gr1.jo i hi;have:=g.av.aq;rw[<-z,em]at this;cases this
  show⟨m,rfl,⟨_,AX em⟩,HQ (K:=AH) (xs:=xs) (λn σ H'=>(ER λ(o4 o5:Option AE)(gk':Nat->List (AL×AE))=>IQ (σ=(iA lp dj dg q o4 o5)) (C6 (λb=>∃i∈Aj ss,b=(gd i).d) H1 H') (Cu AN [] H' ss (Aj ss) dg gkvs gd (Jk ss now λi=>L (FL ss i)++FN ((D4 ss bt ss.length).take n) i) gk') (∀i∈Aj ss,(gk' i).length<=(L (FL ss i)).length+(FN ((D4 ss bt ss.length).take n) i).length))) ⟨AF,AF,gk,rfl,λb o _ e=>e,?_,λi hi=>by rw[SG];show lgk i hi⟩ (λn σ H' _ hh=>by obtain⟨_,_,_,_,s',_⟩:=hh;show AX (s' _ _ hmd em)) ?_ ?_⟩
  . show gr1.vc λi hi=>?_;obtain⟨s,es,_⟩:_:=tel hi;rw[HK es,JP es,F6 es,SG];change F8 s now (L s.fd++[])=_;rw[Ew]
  . intro n y σ H2 hy hI;lk;obtain⟨o4,o5,gk',rfl,s2,gr2,lg2⟩:=hI;obtain⟨a,qi,pl,it,rfl,ep,ea,eqi⟩:=its.at hy;obtain⟨i,s,es,ht,e1,hx⟩:=UH (Ct ep);k_in;have e1:pl=(i:Int):=e1;subst e1;have hi:i∈Aj ss:=HM.mpr ⟨s,es,ht⟩;lk;obtain⟨s',es',tk,pp,l6,tms,nws,ib⟩:=tel hi;rw[es]at es';cases es';obtain⟨s',es',v,g⟩:=gr2.jo i hi;rw[es]at es';cases es';rw[HK es,F6 es]at g;have nt:∀{b:AD}{xs:List AE},H1 b=AA (.tup xs)->H2 b=AA (.tup xs):=λ{b xs}e=>s2 _ _ (λ⟨i,hi,z⟩=>by obtain⟨_,_,_,g⟩:=gr1.jo i hi;have:=g.av.aq;rw[<-z,e]at this;cases this) e;have sub:=XS (D4 ss bt ss.length) n i;rw[ib]at sub;have mem:∀x∈L s.fd++FN ((D4 ss bt ss.length).take n) i,0<=x.1/\x.1<=1000000000:=λx hx=>tms x (pp.mem_iff.mpr ((DN.mp hx).elim (λh=>HU _ h) λh=>Ea _ (sub.mem h)));have ll:=pp.length_eq;rw[CI]at ll;have sl:=sub.length_le;have lg:=lg2 i hi;rw[F6 es]at lg;have tmx:=tms it (pp.mem_iff.mpr (Ea _ hx));obtain⟨dx,eo⟩:=g.bz;k_in;have gl:=λz=>Q9 (z:=z) (now:=now) tk mem;show⟨a,_,rfl,Ar (nt ea),rfl,_,_,rfl,_,_,rfl,rfl,?_⟩;show⟨dg,.ref (gd i).x,rfl,by rw[<-v];show .inl ⟨gkvs,.inl (i:Int),gr2.aq,rfl,rfl⟩,?_⟩;show⟨(gd i).x,dx,_,rfl,eo,by rfl,[],(gd i).x,(gd i).p,(gd i).d,qi,s,_,gk' i,it,rfl,g,(λc hc=>by cases hc),tk,Oz tk,tmx.1,tmx.2,nt eqi,?_,by lia,λH3 k3 s3 g3 l3=>?_⟩
    . have:=gl it.2.1;rw[CI]at this;lia
    . rw[YQ tk (nws it hx)]at g3;have gr3:=gr2.jx hi es s3 g3;show⟨_,_,_,rfl,λb o nb e=>s3 _ _ (λz=>nb ⟨i,hi,z⟩) (s2 b o nb e),gr3.vc λk hk=>?_,λk hk=>?_⟩
      . by_cases q:k=i;. subst q;rw[AFi rfl,HK es,F6 es,NU ep,AFi rfl,Ei]
        . rw[AFh q];obtain⟨sk,ek,_⟩:_:=tel hk;rw[HK ek,HK ek,NU ep,AFh (by change¬(i:Int)=(k:Int);show OI q (λu1=>Ko.mp u1.symm)),Ew]
      . have:=lg2 k hk;rw[NU ep,CI];by_cases q:k=i
        . subst q;rw[AFi rfl,AFi rfl];change k3.length<=_+(_+1);show Ak l3 (Jx.mpr this)
        . rw[AFh q];lia
  . intro σ H2 hI;obtain⟨o4,o5,gk',rfl,s2,gr2,lg2⟩:_:=hI;rw[lx,D7 (Al _)]at gr2 lg2;show k H2 bt gk' (λb o nb e=>s2 _ _ (λz=>nb (.inr z)) (s1 b o (λz=>nb (.inl z)) e)) (jr1.fh s2 (λb⟨i,hi,z⟩=>.inr ?_) (λb⟨i,hi,z⟩=>by rw[z];show(apt i hi).1) λ⟨i,hi,z⟩=>(apt i hi).2 z) (gr2.vc λi hi=>?_) (λi hi=>?_) br1
    . obtain⟨_,_,_,g⟩:_:=gr1.jo i hi;show⟨_,by rw[z];show g.av.aq⟩
    . obtain⟨s,es,tk,pp,_,_,_,ib⟩:_:=tel hi;rw[JP es,HK es,F6 es,ib];show YO tk pp
    . obtain⟨s,es,tk,pp,_,_,_,ib⟩:_:=tel hi;have:=lg2 i hi;rw[ib,F6 es]at this;rw[F6 es,pp.length_eq,CI];show this
theorem Cv.qr(h:Cv AN ex H ss Y D I sd)(e:Fs H' Y (.dK D))(F:∀b,b≠Y->H' b=H b):Cv AN ex H' ss Y D I sd:=by
 have U:∀{b:AD}{W:Bg},H b=AA W->(∀o u,W≠.frz o u)->(∀u,W≠.dK u)->H' b=AA W:=λ{b W}J R Z=>by
  rw[F b λz=>by
   rw[z]at J;rcases h.aq with G|⟨X,G⟩<;>rw[G]at J;.show Z _ (Bz J).symm
   .show R _ _ (Bz J).symm];show J
 have K:By H H':=λb M J=>U J (by intro o u z;cases z) (by intro u z;cases z);show⟨e,λi n a b L B=>⟨(h.gw i n a b L B).1,?_⟩,h.cu,h.xi⟩;have Z:=h.xi i ⟨_,_,_,_,B⟩;obtain⟨⟨A,O⟩,N,T,r1,S,Q⟩:_:=(h.gw i n a b L B).2;show⟨⟨A,U O (by intro o u z;cases z) (by intro u z;cases z)⟩,U N (by intro o u z;cases z) (by intro u z;cases z),T.ae (λC A P e=>U e (by intro o u z;cases z) (by intro u z;cases z)) (λE e=>by rw[F _ Z.1.symm];show e) (λb M n e=>U e (by intro o u z;cases z) (by intro u z;cases z)) K,r1.ae (λC A P e=>U e (by intro o u z;cases z) (by intro u z;cases z)) (λE e=>by rw[F _ Z.2.symm];show e) (λb M n e=>U e (by intro o u z;cases z) (by intro u z;cases z)) K,S,Q⟩
noncomputable def Ol(ss:List AU)(now:Int)(sd:Nat->List AR×List AR)(i:Nat):List AR×List AR:=match ss[i]? with|AA (.join _ _ _ D)=>(Br (now-D) (sd i).1,Br (now-D) (sd i).2)|_=>sd i
theorem Wy(e:ss[i]?=AA (.join n a b wi)):Ol ss now sd i=(Br (now-wi) (sd i).1,Br (now-wi) (sd i).2):=by unfold Ol;rw[e]
def oE(A:CO):BG:=λB H Q _=>(Kr λ(W:AD)(J:List AU)(D:List (AL×AE))(Y:Nat->ES)(Z:Nat->List AR×List AR)(U:Int)=>LW (B=[.ref W,.int U]) (H W=AA (.dK D)) (Jg J J.length Y D) (Cv A [] H J W D Y Z) ((∀i,D3 J i->(Z i).1.length<=1000/\(Z i).2.length<=1000)) (∀z,C6 (EB J Y) H z->Cv A [] z J W D Y (Ol J U Z)->Q .non z))
theorem kK(T:BR AH Af AN):T.uq.Ok BI P w Af base 4 (oE AN):=by
  show T.uq.ok λM _ _ _ _ _ hr H vs Q E h=>?_;obtain⟨J,R,D,W,O,C,rfl,f,jk,s,ln,k⟩:_:=h;show⟨_,(Ab (N4 (EG EN rfl (wV (AB 0) rfl rfl) (EF 2 M) (Ab (FT (Hv (AB 2) T.de (kY T) hr #v[AB 1])))))),?_⟩;show⟨J,(λo u z=>by rw[f]at z;cases z),J,D,rfl,f,λo H1 e1=>?_⟩;subst e1;have B:∀b,b≠J->(AO H J (.frz o (.dK D))) b=H b:=λb Y=>AW Y;have I:=s.qr (.inr ⟨o,Ac⟩) B;have F:(AO H J _) J=AA (.frz o (.dK D)):=Ac;generalize AO H J _=H1 at B I F⊢;show t7 (λn X L=>∃x:Option AE,X=[AA (.ref J),AA (.int C),x]/\L J=AA _/\C6 (EB R W) H1 L/\Cv AN [] L R J D W λi=>if(.inl (i:Int):AL)∈(D.take n).map (·.1)then Ol R C O i else O i) ⟨AF,rfl,F,λb o _ e=>e,I⟩ (λn X L _ hh=>by obtain⟨_,_,e,_⟩:=hh;show e) ?_ ?_
  . intro n p X H2 l g;lk;obtain⟨x,rfl,Z,s2,U⟩:=g;obtain⟨i,_,⟨m,a,b,S,A⟩,rfl⟩:=jk.wm p (Ct l);have t:(.inl (i:Int):AL)∉(D.take n).map (·.1):=λhm=>by
      rw[ACj]at hm;obtain⟨j,hj,e⟩:=G8.mp hm;rw[Ej]at hj;rw[SD]at e;have e2:(D.map (·.1))[n]?=AA (.inl (i:Int)):=by rw[CD,l];rfl
      obtain⟨h2,g2⟩:=BV.mp e2;show(HV.mp jk.nd) j n _ h2 (Bc hj (LO _ _)) (e.trans g2.symm)
    have r:=(U.gw i m a b S A).2;rw[AFh t]at r;obtain⟨d,eo⟩:=r.bz;obtain⟨l0,l1⟩:=ln i ⟨_,_,_,_,A⟩;k_in;have G:D3 R i:=⟨_,_,_,_,A⟩;show⟨(W i).j,d,_,rfl,eo,by rfl,[],(W i).j,(W i).sl,(W i).x0,(W i).x1,(W i).d0,(W i).d1,S,C,(O i).1,(O i).2,rfl,r,(λc hc=>by cases hc),l0,l1,λH3 y j3=>?_⟩;have M:=s.xi i G;show⟨_,rfl,y _ _ M.1 M.2 Z,λb o Y e=>y _ _ (λz=>Y ⟨i,G,.inl z⟩) (λz=>Y ⟨i,G,.inr z⟩) (s2 b o Y e),(U.jx A y j3).bu λi' hi'=>?_⟩;have tk:(D.take (n+1)).map (·.1)=(D.take n).map (·.1)++[.inl (i:Int)]:=by rw[Dy,l,DJ];rfl
    rw[tk];by_cases q:i'=i;. subst q;rw[AFi rfl,AFi (Ea _ (.head _)),Wy A]
    . rw[AFh q];by_cases N:(.inl (i':Int):AL)∈(D.take n).map (·.1);.rw[AFi N,AFi (HU _ N)]
      .rw[AFh N,AFh λz=>(DN.mp z).elim N λz=>q (by have:=JB (Bt.mp z);show Ko.mp this)]
  . intro X H2 g;obtain⟨x,rfl,Z,s2,U⟩:_:=g;rw[D7 (Al _)]at U;show⟨o,_,Z,k _ (λb ob Y e=>?_) ((U.qr (.inl Ac) λb Y=>AW Y).bu λi G=>?_)⟩
    . by_cases q:b=J
      . rw[q,f]at e;cases e;rw[q];show Ac
      . rw[AW q];show s2 b ob Y (by rw[B b q];show e)
    . lk;obtain⟨m,a,b,S,A⟩:=G;obtain⟨v,_⟩:=s.gw i m a b S A;k_in;rw[AFi (BQ.mpr ⟨_,Io v,rfl⟩)]
def pZ:BG:=λY H Q _=>(ER λ(l:AD)(D J:List AE)=>Ee (Y=[.ref l]) (H l=AA (.lst D)) (D.length<=16000000) (BW (λx y=>∃a U u2 u3 W,x=.ref a/\H a=AA (.tup [U,u2,u3,W,y])) D J) (∀r,H r=AF->Q (.ref r) (AO H r (.lst J))))
theorem lU(T:BR AH Af AN):T.vz.Ok BI P w Af base 1 pZ:=by
 show T.vz.ok λnd _ _ _ _ _ hr H vs Q E h=>?_;obtain⟨l,xs,ys,rfl,el,lx,pr,k⟩:_:=h;show⟨_,(Ab (Aw (HR (CU YD) [] trivial (DI (AB 0)) (λ_ _ _ _=>Im) (λ_ _ _ _=>(Av AH (AB 0) AM))))),?_⟩;have sz:=Dc;obtain⟨le,pa⟩:=Cf pr;show⟨l,rfl,⟨_,AX el⟩,Ig (xs:=xs) (λn τ acc H'=>(∃o,τ=[o])/\H'=H/\acc=ys.take n) (by lia) ⟨⟨_,rfl⟩,rfl,rfl⟩ (λn τ acc H'⟨_,e,_⟩=>by rw[e];show AX el) ?_ ?_⟩
 . intro n y τ acc H' R1 hy _ hI k1;lk;obtain⟨⟨o,rfl⟩,rfl,rfl⟩:=hI;have ey:=Cr (by rw[<-le];show(BV.mp hy).1);obtain⟨a,u1,u2,u3,u4,rfl,ea⟩:=pa n _ _ hy ey;k_in;show⟨_,_,Ar ea,Ap rfl,k1 _ _ _ ⟨⟨_,rfl⟩,rfl,by rw[Dy,ey];rfl⟩⟩
 . intro τ acc H' _ hI D hD;obtain⟨_,rfl,rfl⟩:_:=hI;rw[D7 (Bo le.symm)];show k D hD
abbrev C1:=Nat×AG×AZ
noncomputable def Co(q:C1):List AL:=[.inl q.2.2.2.1,.inl (q.1:Int),.inr q.2.1,.inl q.2.2.1]
def J7(ss:List AU)(H:AI)(x:AE)(q:C1):Prop:=∃(a r:AD)(s:AU),ss[q.1]?=AA s/\x=.ref a/\H a=AA (.tup ((Co q).map Au++[.ref r]))/\H r=AA (.tup ((Lh s q.2.1 q.2.2).map Au))
theorem Ot(h:BW (J7 ss H) xs qs)(t:By H H'):BW (J7 ss H') xs qs:=Gf (λ_ _ W=>by obtain⟨a,r,s,D,e,J,U⟩:=W;show⟨a,r,s,D,e,t _ _ J,t _ _ U⟩) h
theorem nP{ys:List AE}{R:List Y}(h:BW F ys R){qs:List (AE×List AL)}(p:qs.Perm (ys.zip (R.map key))):∃J,J.Perm R/\BW F (qs.map (·.1)) J/\J.map key=qs.map (·.2):=by
 lk;obtain⟨I,B⟩:=Cf h;have C:BW (λ(m)(q)=>F q.1 m/\key m=q.2) R (ys.zip (R.map key)):=by show G0 (by simp_all) λi m q D U=>?_;obtain⟨W,Z⟩:=Ka.mp U;rw[CD,D]at Z;show⟨B i _ m W D,Bz Z⟩
 obtain⟨J,E,G⟩:=Ph p C;obtain⟨A,z⟩:=Cf G;k_in;show⟨J,E,G0 (by rw[BB,A]) λi v m D U=>?_,?_⟩
 . rw[CD]at D;obtain⟨q,W,rfl⟩:_:=EI.mp D;show(z i m q U W).1
 . show AAE λi=>?_;rw[CD,CD];cases D:J[i]? with|none=>rw[AAG (by rw[<-A];show SA.mp D)];rfl|some m=>have H:=(BV.mp D).1;have U:=Cr (show i<qs.length by simp_all);rw[U];show AFj _ (z i m _ D U).2
theorem nQ{qs:List W}(M:sh≠[])(L:∀x q,F x q->(∃a r,x=.ref a/\H a=AA (.tup ((key q).map Au++[.ref r])))/\(key q).map B8=sh)(h:BW F xs qs)(Q:(qs.map key).Nodup):∃D:List Ib,D.map Jq=qs.map key/\RL AH H xs D sh:=by
 have P:∀{xs:List AE}{qs:List W},BW F xs qs->∃D:List Ib,D.map Jq=qs.map key/\D.map (·.1)=qs.map key/\BW (λx(d:Ib)=>(∃a,x=.ref a/\Cb AH H a (d.1.map Au++d.2.1.map AE.ref))/\d.1.map B8=sh) xs D:=by intro xs qs h;induction h with |nil=>show⟨[],rfl,rfl,.nil⟩|@cons x q _ _ Z _ N=> obtain⟨D,e,Y,p⟩:=N;obtain⟨⟨a,r,C,U⟩,J⟩:=L x q Z;show⟨(key q,[r],[])::D,by rw[F1,F1,e];change(key q++[])::_=_;rw[Ew],by rw[F1,F1,Y],.cons ⟨⟨a,C,Ar U⟩,J⟩ p⟩
 obtain⟨D,e,Y,p⟩:_:=P h;show⟨D,e,M,p,λi j d B U J E=>.inl ?_⟩;have z:(D.map (·.1))[i]?=AA d.1:=by rw[CD,U];rfl
 have A:(D.map (·.1))[j]?=AA B.1:=by rw[CD,J];rfl
 rw[Y]at z A;lk;obtain⟨Z,G⟩:=BV.mp z;obtain⟨R,I⟩:=BV.mp A;k_in;have O:i=j:=(bR Q).mp (by rw[G,I,E]);subst O;rw[U]at J;cases J;show⟨rfl,rfl⟩
theorem jL(h:BW (J7 ss H) xs qs)(W:(qs.map Co).Nodup):∃D:List Ib,D.map Jq=qs.map Co/\RL AH H xs D [AJ,AJ,AQ,AJ]:=nQ (by decide) (λx q U=>by obtain⟨a,r,s,Y,e,J,Z⟩:=U;show⟨⟨a,r,e,J⟩,rfl⟩) h W
theorem YT(h:BW F ys R){qs:List (AE×List AL)}(p:qs.Perm (ys.zip (R.map Co))):∃D,D.Perm R/\BW F (qs.map (·.1)) D/\D.map Co=qs.map (·.2):=nP h p
theorem UI{J Y:Type}{f:J->Y}{l:List Y}{m:List J}(p:l.Perm (m.map f)):∃D:List J,D.Perm m/\l=D.map f:=by
 have V:BW _ m (m.map f):=G0 (by rw[BB]) λi a b Z U=>by rw[CD,Z]at U;show(Bz U).symm
 obtain⟨D,W,A⟩:_:=Ph p V;show⟨D,W,?_⟩;clear p V W;induction A with|nil=>rfl|cons h _ z=>rw[h,F1,<-z]
theorem O4(h:∀z,(g z).length<=n):∀ks:List AG,(EV g ks).length<=n*ks.length|[]=>Bd _|z::ks=>by have:=O4 h ks;have D:=h z;change((g z).map _++EV g ks).length<=n*(ks.length+1);rw[CI,BB];lia
theorem Li:D∈EV g ks↔D.1∈ks/\D.2∈g D.1:=by
 unfold EV;rw[bU];constructor
 . intro V;lk;obtain⟨z,Y,h⟩:=V;obtain⟨p,W,rfl⟩:=BQ.mp h;k_in;show⟨Y,W⟩
 . rintro⟨J,U⟩;show⟨_,J,BQ.mpr ⟨_,U,rfl⟩⟩
theorem UJ(D:∀z,Dw (g z)):∀{ks:List AG},ks.Nodup->((EV g ks).map λJ=>(J.1,J.2.1)).Nodup
 |[],_=>.nil|z::ks,h=>by
  obtain⟨U,V⟩:=Kb.mp h;change(((g z).map _++EV g ks).map _).Nodup;rw[DJ];show ACm.mpr ⟨?_,UJ D V,λa W b Y e=>?_⟩;. rw[C8];show GF.mpr ((D z).imp λ{a b}q e=>by simp_all)
  . subst e;obtain⟨x,Z,rfl⟩:=BQ.mp W;obtain⟨y,A,e⟩:=BQ.mp Y;obtain⟨p,_,rfl⟩:=BQ.mp Z;have:=(Li.mp A).1;rw[(AAi e).1]at this;show U this
theorem X0(h:Dw l):Dw (FY now l):=by cases now with|none=>show h|some n=>show h.sublist Px
theorem T3:(FY now l).length<=l.length:=by cases now with|none=>show Al _|some n=>show Ff _ _
structure Ey where
 lp:AD
 ps:List AE
 dj:AD
 nc:List (AL×AE)jd:Nat->ES
 dg:AD
 je:List (AL×AE)gd:Nat->Fo
structure Ep extends Ey where
 x:AD
 ck:AD
noncomputable abbrev KA(F:Ep)(D:Int):List (AG×AE):=[("plan",.ref F.lp),("clock",.ref F.ck),("joins",.ref F.dj),("groups",.ref F.dg),("number",.int D)]
structure EK(ad:CO)(ex:List AD)(H:AI)(ss:List AU)(A:Ey)(sd:Nat->List AR×List AR)(gg:Nat->AG->List AZ)(gk:Nat->List (AL×AE)):Prop where
 ie:H A.lp=AA (.lst A.ps)gx:D1 H A.ps ss
 gq:H A.dj=AA (.dK A.nc)yq:Jg ss ss.length A.jd A.nc
 df:Cv ad ex H ss A.dj A.nc A.jd sd
 di:H A.dg=AA (.dK A.je)qd:A.je.length<=8
 xh:JF (Aj ss) A.gd A.je
 bc:Cu ad ex H ss (Aj ss) A.dg A.je A.gd gg gk
 vv:∀i∈Aj ss,¬EB ss A.jd (A.gd i).d/\A.dj≠(A.gd i).d
 qh:¬EB ss A.jd A.dg
structure D9(ad:CO)(H:AI)(ss:List AU)(F:Ep)(sl now cnt num:Int)(sd:Nat->List AR×List AR)(gg:Nat->AG->List AZ)(gk:Nat->List (AL×AE)):Prop extends EK ad [] H ss F.toEy sd gg gk where bz:∃dx,H F.x=AA (.ins ad.ax dx (KA F num))gv:∃dx,H F.ck=AA (.ins ad.bb dx (Gq sl now cnt))
structure Ob(ad:CO)(H:AI)(ss:List AU)(F:Ep)(sl now cnt num:Int)(sd:Nat->List AR×List AR)(gk:Nat->List (AL×AE))(L:AG->List AR):Prop where
 ag:D9 ad H ss F sl now cnt num sd (DS ss now L) gk
 acj:∀i∈Aj ss,(gk i).length<=(L (FL ss i)).length
 bu:∀(i:Nat)n a b wi,ss[i]?=AA (.join n a b wi)->(sd i).1.Perm (Br (now-wi) (L a))/\(sd i).2.Perm (Br (now-wi) (L b))
def HI(ss:List AU)(F:Ep)(b:AD):Prop:=b=F.x\/b=F.ck\/GN ss F.jd F.gd b
theorem Oy(ss:List AU)(now:Int)(i:Nat):DS ss now (λ_=>[]) i=λ_=>[]:=by change Jk ss _ _ i=_;unfold Jk;split<;>rfl
theorem Jj(s:Bk x H H')(Z:H x=AA (.ins C Y J))(e:H b=AA o)(n:∀W D U,o=.ins W D U->J.map (·.1)≠U.map (·.1)):H' b=AA o:=s _ _ (λz=>by rw[z,Z]at e;show n _ _ _ (Bz e).symm rfl) e
theorem Cv.bz{K:AD}(h:Cv AN ex H ss I J N sd)(s:Bk x H H')(W:H x=AA (.ins C K U))(S:U.map (·.1)≠(["within","sides"]:List AG))(T:U.map (·.1)≠(["rows"]:List AG)):Cv AN ex H' ss I J N sd:=by
 have Y:∀{b:AD}{o:Bg},H b=AA o->(∀A D G,o≠.ins A D G)->H' b=AA o:=λe n=>Jj s W e λA D G z=>absurd z (n _ _ _);have g:By H H':=λb j e=>Y e (by intro _ _ _ z;cases z);have O:∀{Z E:AD}{B:List AR},DE AN ex H Z E B->DE AN ex H' Z E B:=λ{Z E B}r=>by
  obtain⟨D,e⟩:=r.bz;have c:Z≠x:=λz=>by rw[z,W]at e;have:=Bz e;injection this with _ _ q;show T (by rw[q];rfl)
  show r.ae (λC K U e=>s _ _ c e) (λR e=>Y e (by intro _ _ _ z;cases z)) (λb j _ e=>Y e (by intro _ _ _ z;cases z)) g
 show⟨Lg h.aq λo e=>Jj s W e λA D G z=>?_,λi n a b P L=>⟨(h.gw i n a b P L).1,?_⟩,h.cu,h.xi⟩;.rcases h.aq with M|⟨k,M⟩<;>(rw[M]at e;rw[<-Bz e]at z;cases z)
 . obtain⟨⟨D,F⟩,Q,f,r1,d,X⟩:_:=(h.gw i n a b P L).2;show⟨⟨D,s _ _ (λz=>?_) F⟩,Y Q (by intro _ _ _ z;cases z),O f,O r1,d,X⟩;rw[z,W]at F;have:=Bz F;injection this with _ _ q;show S (by rw[q];rfl)
theorem Cu.bz(h:Cu AN ex H ss L B J F G gk)(s:Bk x H H')(Z:H x=AA (.ins C M E))(P:E.map (·.1)≠(["step","rows"]:List AG)):Cu AN ex H' ss L B J F G gk:=by
 have A:∀{b:AD}{o:Bg},H b=AA o->(∀U D Y,o≠.ins U D Y)->H' b=AA o:=λe n=>Jj s Z e λU D Y z=>absurd z (n _ _ _);have K:By H H':=λb R e=>A e (by intro _ _ _ z;cases z);show⟨Lg h.aq λo e=>Jj s Z e λU D Y z=>?_,λi O=>?_,h.cu,h.qh⟩;.rcases h.aq with I|⟨S,I⟩<;>(rw[I]at e;rw[<-Bz e]at z;cases z)
 . obtain⟨Q,e,v,⟨D,W⟩,N,r⟩:_:=h.jo i O;show⟨Q,e,v,⟨D,s _ _ (λz=>?_) W⟩,N.tp K,r.ae (A r.aq (by intro _ _ _ z;cases z)) (λb R _ e=>A e (by intro _ _ _ z;cases z)) K⟩;rw[z,Z]at W;have:=Bz W;injection this with _ _ q;show P (by rw[q];rfl)
def oK(W:CO):BG:=λC H Q _=>(Kr λ(x z Y:AD)(Z:List AE)(J:List AU)(D:Int)=>Kq (C=[.ref x,.ref Y,.int D]) (H x=AA (.ins W.ax z [])) (H Y=AA (.lst Z)) (D1 H Z J) (J.length<=8) (0<=D) (D<=1000000000) (∀U F B A,F.x=x->Bk x H U->Ob W U J F D 0 0 0 B A (λ_=>[])->(∀b,HI J F b\/b=F.dj\/b=F.dg->b=x\/H b=AF)->H F.lp=AF->Q .non U))
theorem kQ(T:BR AH Af AN):T.gh.Ok BI P w Af base 6 (oK AN):=by
  show T.gh.ok λnd _ _ _ _ _ hr H vs Q E h=>?_;obtain⟨x,D,lp,ps,ss,sl,rfl,m,U,pr,O,s0,s1,k⟩:_:=h;show⟨_,(Ag (GP (AB 0) (JV (Mq (K:=AH)) (by rfl) T.jc Ki #v[AB 1]) rfl) (Ag (GP (AB 0) (Mb (kE T) hr T.yd Js #v[AB 2]) rfl) (Ag (GP (AB 0) (Ax (Tv T) hr #v[AB 1]) rfl) (Ag (GP (AB 0) (Ax (Tu T) hr #v[AB 1]) rfl) (Ab (GP (AB 0) AM rfl)))))),?_⟩;have nlx:lp≠x:=λz=>by rw[z,m]at U;cases U
  show⟨lp,ps,rfl,.inl (AX U),λl hl=>?_⟩;show BM hl λG g1 el=>?_;have p:=g1 _ _ m;have nl:l≠x:=λz=>by rw[z,p]at el;cases el
  show⟨x,_,D,[],rfl,p,T.aj,T.ir,by decide,?_⟩;have x2:Bk x G (AO G x (.ins AN.ax D [("plan",.ref l)])):=zzu
  have M:(AO G x (.ins AN.ax D [("plan",.ref l)])) x=AA _:=Ac;have N:∀b,(AO G x (.ins AN.ax D [("plan",.ref l)])) b=AF->G b=AF:=λb e=>Jn e;change R5 _ _ _ _ (AO G x (.ins AN.ax D [("plan",.ref l)]));generalize AO G x _=H2 at x2 M N⊢;showλc A hc hdc hcn=>⟨c,A,sl,rfl,Ac,s0,s1,rfl,?_⟩;have u:Ah H2 (AO (AO (AO H2 A (.own c)) c (.ins AN.bb A [])) c (.ins AN.bb A (Gq sl 0 0))):=λb o e=>by rw[AW (BE e hc),AW (BE e hc),AW (BE e hdc)];show e
  have g:(AO (AO (AO H2 A (.own c)) c (.ins AN.bb A [])) c _) c=AA (.ins AN.bb A (Gq sl 0 0)):=Ac;generalize AO _ c _=I at u g⊢;have ncx:c≠x:=λz=>by rw[z,M]at hc;cases hc
  show⟨x,_,D,[("plan",.ref l)],rfl,u _ _ M,T.aj,T.cw,(by change 1<1000;decide),?_⟩;have x4:Bk x I (AO I x (.ins AN.ax D [("plan",.ref l),("clock",.ref c)])):=zzu
  have W:(AO I x (.ins AN.ax D [("plan",.ref l),("clock",.ref c)])) x=AA _:=Ac;have s:∀b,(AO I x (.ins AN.ax D [("plan",.ref l),("clock",.ref c)])) b=AF->I b=AF:=λb e=>Jn e;change R5 _ _ _ _ (AO I x (.ins AN.ax D [("plan",.ref l),("clock",.ref c)]));generalize AO I x _=H4 at x4 W s⊢;have Z:Bk x H H4:=λb o J e=>x4 _ _ J (u _ _ (x2 _ _ J (g1 _ _ e)));have tp04:By H H4:=λb xs e=>Z _ _ (λz=>by rw[z,m]at e;cases e) e;have V:=λb e=>g1.au (N b (u.au (s b e)));show⟨lp,ps,ss,rfl,Z _ _ nlx U,pr.ae tp04,Ak O (by decide),λL B F jd S hdj ej jks jr fj=>?_⟩;show⟨x,_,D,_,rfl,S _ _ W,T.aj,T.cx,(by change 2<1000;decide),?_⟩;have x6:Bk x L (AO L x (.ins AN.ax D [("plan",.ref l),("clock",.ref c),("joins",.ref B)])):=zzu
  have Y:(AO L x (.ins AN.ax D [("plan",.ref l),("clock",.ref c),("joins",.ref B)])) x=AA _:=Ac;have t:∀b,(AO L x (.ins AN.ax D [("plan",.ref l),("clock",.ref c),("joins",.ref B)])) b=AF->L b=AF:=λb e=>Jn e;change R5 _ _ _ _ (AO L x (.ins AN.ax D [("plan",.ref l),("clock",.ref c),("joins",.ref B)]));generalize AO L x _=H6 at x6 Y t⊢;have r:((["plan","clock"]:List AG)≠(["within","sides"]:List AG)/\(["plan","clock"]:List AG)≠(["rows"]:List AG))/\(["plan","clock","joins"]:List AG)≠(["within","sides"]:List AG)/\(["plan","clock","joins"]:List AG)≠(["rows"]:List AG)/\(["plan","clock","joins"]:List AG)≠(["step","rows"]:List AG):=by decide+kernel
  have jr6:=jr.bz x6 (S _ _ W) r.1.1 r.1.2;have x06:Bk x H H6:=λb o J e=>x6 _ _ J (S _ _ (Z _ _ J e));have tp06:By H H6:=λb xs e=>x06 _ _ (λz=>by rw[z,m]at e;cases e) e;have C:=λb e=>V b (S.au (t b e));show⟨lp,ps,ss,rfl,x06 _ _ nlx U,pr.ae tp06,Ak O (by decide),λH7 dg v gd X hdg eg lkg gks gr fg=>?_⟩;show⟨x,_,D,_,rfl,X _ _ Y,T.aj,T.bx,(by change 3<1000;decide),?_⟩;show⟨x,_,D,_,rfl,Ac,T.aj,T.ff,(by change 4<1000;decide),?_⟩;rw[N8];have x8:Bk x H7 (AO H7 x (.ins AN.ax D [("plan",.ref l),("clock",.ref c),("joins",.ref B),("groups",.ref dg),("number",.int 0)])):=zzu
  have q:=X _ _ Y;have jr8:=(jr6.ah X).bz x8 q r.2.1 r.2.2.1;have gr8:=gr.bz x8 q r.2.2.2;have R:Bk x H4 _:=λb o J e=>x8 _ _ J (X _ _ (x6 _ _ J (S _ _ e)));have x08:Bk x H _:=λb o J e=>R _ _ J (Z _ _ J e);have tp08:By H _:=λb xs e=>x08 _ _ (λz=>by rw[z,m]at e;cases e) e;have njx:B≠x:=λz=>by rw[z,S _ _ W]at ej;cases ej
  have ngx:dg≠x:=λz=>by rw[z,X _ _ Y]at eg;cases eg
  have f:∀b,EB ss jd b->∃kvs,H6 b=AA (.dK kvs):=λb y=>jr6.xg y;have j:H6 B=AA (.dK F):=x6 _ _ njx ej;show k _ ⟨⟨l,ps,B,F,jd,dg,v,gd⟩,x,c⟩ (λ_=>([],[])) (λ_=>[]) rfl x08 ⟨⟨⟨R _ _ nl (x4 _ _ nl (u _ _ (x2 _ _ nl el))),pr.ae tp08,x8 _ _ njx (X _ _ j),jks,jr8,x8 _ _ ngx eg,Ak lkg O,gks,gr8.vc λi d=>Oy ss 0 i,λi d=>⟨λz=>?_,BE j (fg i d)⟩,λz=>?_⟩,⟨D,Ac⟩,⟨A,R _ _ ncx (x4 _ _ ncx g)⟩⟩,λi d=>Al _,λi n a b wi _=>⟨.nil,.nil⟩⟩ (λb y=>?_) hl;. obtain⟨kv,e⟩:=f _ z;rw[fg i d]at e;cases e
  . obtain⟨kv,e⟩:=f _ z;rw[hdg]at e;cases e
  . rcases y with(rfl|rfl|y|⟨i,d,rfl⟩)|rfl|rfl;.show .inl rfl
    .show .inr (g1.au (N _ hc))
    .show .inr (V _ (fj _ y))
    .show .inr (C _ (fg i d))
    .show .inr (V _ hdj)
    .show .inr (C _ hdg)
def JG(ss:List AU)(H:AI)(x:AE)(q:C1):Prop:=∃(a:AD)(s:AU),ss[q.1]?=AA s/\x=.ref a/\H a=AA (.tup ((Lh s q.2.1 q.2.2).map Au))
theorem Me(h:BW (JG ss H) xs qs)(t:By H H'):BW (JG ss H') xs qs:=Gf (λ_ _ U=>by obtain⟨a,s,D,e,J⟩:=U;show⟨a,s,D,e,t _ _ J⟩) h
theorem jU(h:BW (J7 ss H) xs qs):∃ys:List AE,BW (λx y=>∃a z u2 u3 A,x=.ref a/\H a=AA (.tup [z,u2,u3,A,y])) xs ys/\BW (JG ss H) ys qs:=by induction h with|nil=>show⟨[],.nil,.nil⟩|cons h _ W=>lk;obtain⟨ys,Y,Z⟩:=W;obtain⟨a,r,s,D,e,J,U⟩:=h;k_in;show⟨_,.cons ⟨a,_,_,_,_,e,J⟩ Y,.cons ⟨r,s,D,rfl,U⟩ Z⟩
noncomputable def Qm(D:List (AL×AE))(n:Nat)(now:Option Int)(J:Nat->AG->List AZ):Nat->AG->List AZ:=λi z=>if(.inl (i:Int):AL)∈(D.take n).map (·.1)then F9 now (J i z)else J i z
def Wn(ss:List AU)(D:Nat->Fo)(J b:AD):Prop:=b=J\/∃i∈Aj ss,b=(D i).d
structure Je(F:AI->AE->C1->Prop)(ss:List AU)(dg tl:AD)(o:BC)(gkvs:List (AL×AE))(gd:Nat->Fo)(gg:Nat->AG->List AZ)(gk:Nat->List (AL×AE))(now:Option Int)(H1:AI)(n:Nat)(H':AI)(acc:List AE)(qs:List C1)(gk':Nat->List (AL×AE)):Prop where
 ed:H' dg=AA (.frz o (.dK gkvs))sm:C6 (Wn ss gd tl) H1 H'
 gr:Cu AN [tl] H' ss (Aj ss) dg gkvs gd (Qm gkvs n now gg) gk'
 lk:∀i∈Aj ss,(gk' i).length<=(gk i).length
 et:H' tl=AA (.lst acc)pr:BW (F H') acc qs
 nd:(qs.map Co).Nodup
 mm:∀q:C1,q∈qs↔(.inl (q.1:Int):AL)∈(gkvs.take n).map (·.1)/\q.2.2∈FY now (gg q.1 q.2.1)lq:qs.length<=1800000*n
theorem Je.dh(c:Je F ss Y A o J Z z gk now V n W D qs U):D.length=qs.length:=(Cf c.pr).1
theorem Je.ah(c:Je F ss Z G o D z A gk now W n Y J qs U)(B:∀{H H':AI}{x:AE}{q:C1},By H H'->F H x q->F H' x q)(s:Ah Y H'):Je F ss Z G o D z A gk now W n H' J qs U:=⟨s _ _ c.ed,λb E C e=>s _ _ (c.sm b E C e),c.gr.ah s,c.lk,s _ _ c.et,Gf (λ_ _=>B s.tp) c.pr,c.nd,c.mm,c.lq⟩
theorem Je.jo{now:Option Int}{n:Nat}(c:Je F ss b L o D J Z gk now a n I M qs A)(G:C3 ss)(B:JF (Aj ss) J D){i:Nat}(R:D[n]?=AA (.inl (i:Int),.ref (J i).x))(hi:i∈Aj ss):∃st W,ss[i]?=AA st/\st.ig/\st.so∈GJ/\Dp AN [L] I (J i).x (J i).p (J i).d st (Z i) (A i)/\I (J i).x=AA (.ins AN.aw W [("step",.ref (J i).p),("rows",.ref (J i).d)])/\(.inl (i:Int):AL)∉(D.take n).map (·.1)/\L≠(J i).d:=by
 have V:(.inl (i:Int):AL)∉(D.take n).map (·.1):=λK=>by
  rw[ACj]at K;obtain⟨j,C,e⟩:=G8.mp K;rw[Ej]at C;rw[SD]at e;have N:(D.map (·.1))[n]?=AA (.inl (i:Int)):=by rw[CD,R];rfl
  obtain⟨Q,T⟩:=BV.mp N;show(HV.mp B.nd) j n (Bc C (Vn _ _)) Q (Bc C (LO _ _)) (e.trans T.symm)
 lk;obtain⟨st,Y,S⟩:=HM.mp hi;obtain⟨H,E,_⟩:=G.ig Y S;obtain⟨X,U,v,g⟩:=c.gr.jo i hi;rw[Y]at U;cases U;have P:Qm D n now Z i=Z i:=funext λz=>AFh V;rw[P]at g;obtain⟨W,O⟩:=g.bz;k_in;show⟨st,W,Y,H,E,g,O,V,λz=>by have:=c.et;rw[z,g.av.aq]at this;cases this⟩
theorem Je.jx{F:AI->AE->C1->Prop}{A:Nat->Fo}{W:Nat->AG->List AZ}{gk B:Nat->List (AL×AE)}{i:Nat}{st:AU}{M:List (AG×AZ)}{N:AI}(c:Je F ss w C o D A W gk now H1 n H2 T qs B)(l:∀i∈Aj ss,(gk i).length<=600)(I:∀i∈Aj ss,∀z,Dw (W i z)/\(W i z).length<=3000)(hp:D[n]?=AA (.inl (i:Int),.ref (A i).x))(hi:i∈Aj ss)(es:ss[i]?=AA st)(t:(.inl (i:Int):AL)∉(D.take n).map (·.1))(u:C≠(A i).d)(s3:Bk (A i).d H2 S)(g3:Dp AN [r,C] S (A i).x (A i).p (A i).d st (λkey=>F9 now (W i key)) k3)(Q:M.Perm (EV (λkey=>FY now (W i key)) ks))(kn:ks.Nodup)(km:∀k,W i k≠[]->k∈ks)(l3:k3.length<=(B i).length)(lke:ks.length=(B i).length)(v:Bk C S N)(X:N C=AA (.lst U))(m:BW (F N) U (qs++M.map λY=>(i,Y.1,Y.2))):Je F ss w C o D A W gk now H1 (n+1) N U (qs++M.map λY=>(i,Y.1,Y.2)) (λk=>if k=i then k3 else B k):=by
  have tk:(D.take (n+1)).map (·.1)=(D.take n).map (·.1)++[.inl (i:Int)]:=by rw[Dy,hp,DJ];rfl
  have H:=c.gr.jx hi es s3 g3.jz;have L:C≠w:=λz=>by have:=c.et;rw[z,c.ed]at this;cases this
  have G:=s3 _ _ u c.et;have s:=c.gr.qh i hi;have j:=H.fh (q:=(.=C)) (λb P K e=>v b P K e) (λb O=>.inl ⟨by rw[O];show .head _,T,by rw[O];show G⟩) (λk E z=>by obtain⟨_,_,_,f⟩:=H.jo k E;have:=f.av.aq;rw[z,G]at this;cases this) L.symm;show⟨v _ _ L.symm (s3 _ _ s c.ed),λb P K e=>v b P (λz=>K (.inl z)) (s3 _ _ (λz=>K (.inr ⟨i,hi,z⟩)) (c.sm b P K e)),j.vc λk E=>?_,λk E=>?_,X,m,?_,λq=>?_,?_⟩
  . unfold Qm;rw[tk];by_cases q:k=i;. subst q;rw[AFi rfl];funext z;show AFi (Ea _ (.head _))
    . rw[AFh q];funext z;by_cases R:(.inl (k:Int):AL)∈(D.take n).map (·.1);.rw[AFi R,AFi (HU _ R)]
      .rw[AFh R,AFh λz=>(DN.mp z).elim R λz=>q (by have:=JB (Bt.mp z);show Ko.mp this)]
  . by_cases q:k=i;. subst q;rw[AFi rfl];show Ak l3 (c.lk k hi)
    . rw[AFh q];show c.lk k E
  . rw[DJ,C8];show ACm.mpr ⟨c.nd,?_,λa ha b O e=>?_⟩
    . have Z:=UJ (g:=λz=>FY now (W i z)) (λz=>X0 (I i hi z).1) kn;have J:=(Q.map λY=>(Y.1,Y.2.1)).nodup_iff.mpr Z;show GF.mpr ((GF.mp J).imp λ{a b}h e=>h (SO (Hl (EH (EH (EH e).2).2).1) (JB (EH (EH (EH (EH e).2).2).2).1)))
    . subst e;lk;obtain⟨x,hx,rfl⟩:=BQ.mp ha;obtain⟨y,hy,e⟩:=BQ.mp O;k_in;have d1:(i:Int)=(x.1:Int):=JB (EH (EH e).2).1;have:=((c.mm x).mp hx).1;rw[<-d1]at this;show t this
  . rw[DN,c.mm,tk,DN,Bt];constructor
    . rintro(⟨Z,J⟩|h);.show⟨.inl Z,J⟩
      . obtain⟨Y,E,rfl⟩:_:=BQ.mp h;show⟨.inr rfl,(Li.mp (Q.mem_iff.mp E)).2⟩
    . rintro⟨Z|Z,J⟩;.show .inl ⟨Z,J⟩
      . have e:q.1=i:=Ko.mp (JB Z);rw[e]at J;show .inr (BQ.mpr ⟨(q.2.1,q.2.2),Q.mem_iff.mpr (Li.mpr ⟨km _ λz=>?_,J⟩),by rw[<-e]⟩);have J:q.2.2∈FY now (W i q.2.1):=J;rw[z]at J;cases now<;>cases J
  . rw[CI,BB,Q.length_eq];have Z:=O4 (g:=λz=>FY now (W i z)) (n:=3000) (λz=>Ak T3 (I i hi z).2) ks;have J:=l i hi;have h3:=c.lk i hi;have h4:=c.lq;(first|lia|omega)
theorem Je.adu{K:AD}(c:Je F ss J K o D B L gk now f D.length U A qs M)(k:∀{H H':AI}{x:AE}{q:C1},By H H'->F H x q->F H' x q)(n:D.length<=8)(N:JF (Aj ss) B D)(Z:H K=AF)(X:H J=AA (.dK D))(R:∀b,b≠J->b≠K->f b=H b\/H b=AF):(AO U J (.dK D)) K=AA (.lst A)/\Cu AN [] (AO U J (.dK D)) ss (Aj ss) J D B (λi z=>F9 now (L i z)) M/\BW (F (AO U J (.dK D))) A qs/\C6 (λb=>∃i∈Aj ss,b=(B i).d) H (AO U J (.dK D))/\(∀q:C1,q∈qs↔q.1∈Aj ss/\q.2.2∈FY now (L q.1 q.2.1))/\qs.length<=14400000/\∀b,(AO U J (.dK D)) b=AF->H b=AF:=by
  have G:∀{i:Nat},i∈Aj ss↔(.inl (i:Int):AL)∈D.map (·.1):=λ{i}=>by
    constructor
    . intro E;obtain⟨_,_,v,_⟩:=c.gr.jo i E;show BQ.mpr ⟨_,Io v,rfl⟩
    . intro h;obtain⟨p,m,e⟩:=BQ.mp h;obtain⟨j,l,rfl⟩:=N.wm p m;have:j=i:=Ko.mp (JB e);rw[<-this];show l
  have Q:K≠J:=λz=>by rw[z,X]at Z;cases Z
  have W:∀b,b≠J->(AO U J (.dK D)) b=U b:=λb P=>AW P;have Y:=c.gr;have I:=c.mm;have r:=c.lq;unfold Qm at Y;rw[D7 (Al _)]at Y I;have C:=(Y.qr (.inl Ac) W).vc (gg':=λi z=>F9 now (L i z)) λi E=>funext λz=>(AFi (G.mp E)).symm;have T:By U (AO U J (.dK D)):=λb s e=>by rw[W b λz=>by rw[z,c.ed]at e;cases e];show e
  have s3:C6 (λb=>∃i∈Aj ss,b=(B i).d) H (AO U J (.dK D)):=λb S P e=>by
    by_cases q:b=J
    . rw[q,X]at e;cases e;rw[q];show Ac
    . rw[W b q];have a:b≠K:=λz=>by rw[z,Z]at e;cases e
      rcases R b q a with h|h;.show c.sm b S (λz=>z.elim a P) (by rw[h];show e)
      .rw[h]at e;cases e
  show⟨by rw[W _ Q];show c.et,C.jz,Gf (λ_ _=>k T) c.pr,s3,λq=>by rw[I,<-G],by(first|lia|omega),λb O=>?_⟩;cases q:H b with |none=>rfl|some S=>
    by_cases z:∃i∈Aj ss,b=(B i).d
    . obtain⟨i,E,z⟩:=z;obtain⟨_,_,_,g⟩:=C.jo i E;have:=g.av.aq;rw[<-z,O]at this;cases this
    . rw[s3 b S z q]at O;cases O
theorem Xa(t:By H H')(h:J7 ss H x q):J7 ss H' x q:=by obtain⟨a,r,s,D,e,J,U⟩:_:=h;show⟨a,r,s,D,e,t _ _ J,t _ _ U⟩
def n9(F:CO):BG:=λI H Q _=>(LY λ(B:AD)(J:List AU)(D:List (AL×AE))(C:Nat->Fo)(Y:Nat->AG->List AZ)(E:Nat->List (AL×AE))(U:Option Int)=>OX (I=[.ref B,JM U]) (H B=AA (.dK D)) (C3 J) (J.length<=8) (D.length<=8) (JF (Aj J) C D) (Cu F [] H J (Aj J) B D C Y E) ((∀i∈Aj J,(E i).length<=600)) ((∀i∈Aj J,∀z,Dw (Y i z)/\(Y i z).length<=3000)) (∀W r G A Z,C6 (λb=>∃i∈Aj J,b=(C i).d) H W->Cu F [] W J (Aj J) B D C (λi z=>F9 U (Y i z)) Z->(∀i∈Aj J,(Z i).length<=(E i).length)->H r=AF->W r=AA (.lst G)->BW (J7 J W) G A->(A.map Co).Nodup->CZ (A.map Co)->(∀q:C1,q∈A↔q.1∈Aj J/\q.2.2∈FY U (Y q.1 q.2.1))->A.length<=14400000->Q (.ref r) W))
theorem kF(T:BR AH Af AN):T.xn.Ok BI P w Af base 5 (n9 AN):=by
    show T.xn.ok λnd _ _ _ _ _ hr H vs Q E h=>?_;obtain⟨Y,ss,J,N,gg,gk,F,rfl,eg,pok,lss,lkv,O,gr,lgk,X,k⟩:_:=h;show⟨_,(Cc (BD 2 nd (Cy Eg)) (Cc (N4 (EG EN rfl (wU (AB 0) rfl rfl) (NW rfl (G1 (EF 3 nd) (G1 (EF 4 nd) L8))) (Ab (FT (Mw (K:=AH) QA SU V2 Pd (AB 2) #v[(HR (CU YC) [("place",3)] ⟨rfl,rfl,trivial⟩ (DI (K:=AH) (Hv (AB 4) T.bh (Xh T) hr #v[AB 1])) (λ_ _ _ _=>Im) (λ_ _ _ _=>(Cq #v[Av AH (AB 0) AM,AB 1,Av AH (AB 0) AM,Av AH (AB 0) AM,AB 0])))]))))) (Ab (Aw (Bw (tD (K:=AH) hr) (by rfl) T.gy NC #v[AB 2]))))),?_⟩;have sz:Ay=16777216:=Dc;showλ_ _ _ _ z1=>⟨Bd _,λL A=>z1 _ _ ?_⟩;show BM (o:=.lst []) A λH0 s0 et0=>?_;have gr0:=(gr.jm A).ah s0;have eg0:=s0 _ _ eg;showλ_ _ _ _ z2=>⟨Y,(λo u z=>by rw[eg0]at z;cases z),Y,J,rfl,eg0,λo H1 e1=>?_⟩;subst e1;have ndt:L≠Y:=λz=>by rw[z,eg]at A;cases A
    have s:∀b,b≠Y->(AO H0 Y (.frz o (.dK J))) b=H0 b:=λb f=>AW f;have c0:Je (J7 ss) ss Y L o J N gg gk F (AO H0 Y (.frz o (.dK J))) 0 (AO H0 Y (.frz o (.dK J))) [] [] gk:=⟨Ac,λb o _ e=>e,gr0.qr (.inr ⟨o,Ac⟩) s,λi _=>Al _,by rw[AW ndt];show et0,.nil,.nil,λq=>⟨λh=>(by cases h),λh=>(by cases h.1)⟩,Bd _⟩;generalize AO H0 Y (.frz o (.dK J))=H1 at s c0⊢;show t6 (kvs:=J) (λn σ v=>(IT λ(o3 o4:Option AE)(W:List AE)(qs:List C1)(Z:Nat->List (AL×AE))=>Qf (σ=(hZ Y (AA (JM F)) L o3 o4)) (Je (J7 ss) ss Y L o J N gg gk F H1 n v W qs Z))) ⟨AF,AF,[],[],gk,rfl,c0⟩ (λn σ v _ hh=>by obtain⟨_,_,_,_,_,_,c⟩:=hh;show c.ed) ?_ ?_
    . intro n p σ H2' rp hp R hrp;lk;obtain⟨o3,o4,W,qs,Z,rfl,c'⟩:=R;obtain⟨i,hi,rfl⟩:=O.wm p (Ct hp);k_in;show BM (o:=.tup [Au (.inl (i:Int)),.ref (N i).x]) hrp λH2 g2 erp=>?_;show⟨rp,_,rfl,Ar erp,rfl,_,_,rfl,_,_,rfl,rfl,?_⟩;have c:=c'.ah Xa g2;have hn:n<J.length:=(BV.mp hp).1;obtain⟨st,dx,es,tok,hso,g,eo,new,ntd⟩:_:=c.jo pok O hp hi;have l1:=c.lk i hi;have l2:=lgk i hi;show⟨.inl ⟨rfl,_,AX c.et⟩,(N i).x,dx,_,rfl,eo,by rfl,[L],(N i).x,(N i).p,(N i).d,st,gg i,Z i,F,rfl,g,(λc' hc=>by rw[Bt.mp hc];show⟨_,c.et⟩),tok,hso,Ak l1 (Ak l2 (by decide)),(λz=>Ak (X i hi z).2 (by decide)),λH3 r xs kss k3 ks s3 g3 hr3 er3 hw3 pm3 _ kn km l3 lke=>⟨r,rfl,⟨_,AX er3⟩,?_⟩⟩;obtain⟨M,pM,rfl⟩:_:=UI pm3;have I:=s3 _ _ ntd c.et;have tp3:By H2 H3:=s3.tp g.av.aq (by intro xs z;cases z);have B:=Ot c.pr tp3;have lM:M.length<=1800000:=by rw[pM.length_eq];have:=O4 (g:=λz=>FY F (gg i z)) (n:=3000) (λz=>Ak T3 (X i hi z).2) ks;(first|lia|omega)
      have lx:=hw3.dh;rw[BB]at lx;have lacc:=c.dh;have lq:=c.lq;show Ig (K:=AH) (xs:=xs) (λj τ U v=>(∃o,τ=[o,AA (.int (i:Int))])/\Ah H3 v/\BW (J7 ss v) U ((M.take j).map λkp=>(i,kp.1,kp.2))) (by(first|lia|omega)) ⟨⟨AF,rfl⟩,CA _,.nil⟩ (λj τ U v⟨_,s',_⟩=>AX (s' _ _ er3)) ?_ ?_
      . intro j y τ U H5 R1 hy _ R k1;lk;obtain⟨⟨o,rfl⟩,s5,C⟩:=R;obtain⟨a,row,rfl,er,ea⟩:=hw3.at hy;rw[CD]at er;obtain⟨kp,ekp,rfl⟩:=EI.mp er;k_in;have G:=s5 _ _ ea;show⟨_,_,Ar G,Ap (j:=3) rfl,_,_,Ar G,Ap (j:=1) rfl,_,_,Ar G,Ap (j:=2) rfl,Ba rfl,λm hm=>k1 _ _ _ ⟨⟨_,rfl⟩,s5.gu hm,?_⟩⟩;have sm:=CB (o:=.tup [.int kp.2.2.1,.int (i:Int),.str kp.1,.int kp.2.1,.ref a]) hm;rw[Dy,ekp,DJ];show Eh (Ot C sm.tp) (.cons ⟨m,a,st,es,rfl,Ac,sm _ _ G⟩ .nil)
      . intro τ U H5 _ R D hD;obtain⟨_,s5,C⟩:_:=R;rw[D7 (Bo lx.symm)]at C;have S:=(Cf C).1;rw[BB]at S;show BM hD λH6 s6 eD=>?_;have t:=s5.aa s6;have et6:=t _ _ I;show⟨L,D,_,_,rfl,rfl,et6,eD,by(first|lia|omega),?_⟩;have tp6:By H6 (AO H6 L (.lst (W++U))):=(HP H6).gu et6 λxs=>by intro z;cases z
        show⟨_,_,W++U,_,_,rfl,c.jx lgk X hp hi es new ntd s3 g3 pM kn km l3 lke (λb o f e=>by rw[AW f];show t _ _ e) Ac (Eh (Ot B λb ys e=>tp6 _ _ (t _ _ e)) (Ot C λb ys e=>tp6 _ _ (s6 _ _ e)))⟩
    . intro σ H2 R;lk;obtain⟨o3,o4,W,qs,Z,rfl,c⟩:=R;obtain⟨I,gr3,B,s3,mm,lq,fr⟩:=c.adu (H:=H) Xa lkv O A eg λb f nt=>by rw[s b f];cases q:H b with|none=>show .inr rfl|some ob=>show .inl (s0 _ _ q)
      k_in;show⟨o,_,c.ed,z2 _ _ ?_⟩;have nd2:=c.nd;have lk2:=c.lk;clear c;generalize AO H2 Y (.dK J)=H3 at I gr3 B s3 fr⊢;obtain⟨ds,ed,sn⟩:_:=jL B nd2;show⟨L,W,ds,_,rfl,AX I,sn,λl qq hl pq sq=>?_⟩;rw[ed]at pq;obtain⟨R',p1,w1,e1⟩:_:=YT B pq;have s4:=CB (o:=.lst (qq.map (·.1))) hl;have lr:=p1.length_eq;show k _ l _ R' Z (λb ob f e=>s4 _ _ (s3 b ob f e)) (gr3.ah s4) lk2 (fr _ hl) Ac (Ot w1 s4.tp) ((p1.map Co).nodup_iff.mpr nd2) (by change ACS _ _;rw[e1];show sq) (λq=>by rw[p1.mem_iff,mm]) (by(first|lia|omega))
def qN(E:CO):BG:=λL H Q _=>(Qh λ(D:List AU)(F:Ep)(I A W B:Int)(G:Nat->List AR×List AR)(Y:Nat->AG->List AZ)(C:Nat->List (AL×AE))(m:Option Int)=>Jc (L=[.ref F.x,JM m]) (D9 E H D F I A W B G Y C) (C3 D) (D.length<=8) ((∀i∈Aj D,(C i).length<=600)) ((∀i∈Aj D,∀z,Dw (Y i z)/\(Y i z).length<=3000)) (∀U r K J Z,(∀b o,¬HI D F b->H b=AA o->U b=AA o)->D9 E U D F I A W (B+(J.length:Int)) G (λi z=>F9 m (Y i z)) Z->(∀i∈Aj D,(Z i).length<=(C i).length)->H r=AF->U r=AA (.lst K)->BW (JG D U) K J->(J.map Co).Nodup->CZ (J.map Co)->(∀q:C1,q∈J↔q.1∈Aj D/\q.2.2∈FY m (Y q.1 q.2.1))->J.length<=14400000->Q (.ref r) U))
theorem Xv(T:BR AH Af AN):T.mh.Ok BI P w Af base 6 (qN AN):=by
 show T.mh.ok λl _ _ _ _ _ hr H vs Q E h=>?_;obtain⟨p,F,sl,now,cnt,W,sd,gg,gk,m,rfl,U,pok,lss,lgk,lgg,k⟩:_:=h;show⟨_,(Ag (BD 2 l (Ax (lU T) hr #v[Ax (kF T) hr #v[Bq (AB 0) rfl,AB 1]])) (Ag (GP (AB 0) (AY DH (Bq (AB 0) rfl) (Bw (FE (K:=AH)) (by rfl) T.eh FJ #v[AB 2])) rfl) (Ab (Aw (AB 2))))),?_⟩;have sz:Ay=16777216:=Dc;obtain⟨G,ex⟩:=U.bz;show⟨_,⟨ex,T.aj,T.bx,rfl⟩,?_⟩;show⟨F.dg,p,F.je,F.gd,gg,gk,m,rfl,U.di,pok,lss,U.qd,U.xh,U.bc,lgk,lgg,λH1 r xs qs u s1 N y hr1 t R nd1 sd1 mm1 lq1=>?_⟩;obtain⟨C,p1,p2⟩:_:=jU R;have lx:=(Cf R).1;have lys:=(Cf p2).1;show⟨r,xs,C,rfl,t,by lia,p1,λr2 B=>?_⟩;show BM B λL I A=>?_;have O:∀b,(∃i∈Aj p,b=(F.gd i).d)->∃D,H b=AA (.dK D):=λb⟨i,Y,z⟩=>by obtain⟨_,_,_,g⟩:=U.bc.jo i Y;show⟨_,by rw[z];show g.av.aq⟩
 have f:∀{b:AD}{o:Bg},H b=AA o->(∀D,o≠.dK D)->L b=AA o:=λ{b o}e n=>I _ _ (s1 _ _ (λz=>by obtain⟨D,e'⟩:=O _ z;rw[e]at e';show n _ (Bz e')) e);have J:=f ex (by intro D z;cases z);show⟨_,⟨J,T.aj,T.ff,rfl⟩,_,.inl (AX A),F.x,_,G,_,rfl,J,T.aj,T.ff,(by change 5<1000;decide),?_⟩;have Z:Bk F.x L (AO L F.x (.ins AN.ax G (KA F (W+(C.length:Int))))):=zzu
 have s:G6 "number" (.int (W+(C.length:Int))) (KA F W)=KA F (W+(C.length:Int)):=by
  have d:("plan":AG)≠"number"/\("clock":AG)≠"number"/\("joins":AG)≠"number"/\("groups":AG)≠"number":=by decide+kernel
  rfl
 rw[s];have M:(AO L F.x (.ins AN.ax G (KA F (W+(C.length:Int))))) F.x=AA (.ins AN.ax G (KA F (W+(C.length:Int)))):=Ac;generalize AO L F.x (.ins AN.ax G (KA F (W+(C.length:Int))))=a at Z M⊢;have c:((["plan","clock","joins","groups","number"]:List AG)≠(["within","sides"]:List AG)/\(["plan","clock","joins","groups","number"]:List AG)≠(["rows"]:List AG))/\(["plan","clock","joins","groups","number"]:List AG)≠(["step","rows"]:List AG)/\(["plan","clock","joins","groups","number"]:List AG)≠(["slack","now","count"]:List AG):=by decide+kernel
 have x:=((U.df.fh s1 (λb hb=>.inr (O b hb)) (λb⟨i,Y,z⟩=>by rw[z];show(U.vv i Y).1) λ⟨i,Y,z⟩=>(U.vv i Y).2 z).ah I).bz Z J c.1.1 c.1.2;have v:=(N.ah I).bz Z J c.2.1;have S:By H a:=λb xs e=>Jj Z J (f e (by intro D z;cases z)) λ_ _ _ z=>by cases z
 have X:By H1 a:=λb xs e=>Jj Z J (I _ _ e) λ_ _ _ z=>by cases z
 obtain⟨dc,ec⟩:=U.gv;have l:∀{b:AD}{D:List (AL×AE)},H b=AA (.dK D)->(¬∃i∈Aj p,b=(F.gd i).d)->a b=AA (.dK D):=λ{b D}e n=>Jj Z J (I _ _ (s1 _ _ n e)) λ_ _ _ z=>by cases z
 have r2x:r2≠F.x:=λz=>by rw[z,J]at A;cases A
 show k a r2 C qs u (λb o j e=>?_) ?_ y ?_ (Z _ _ r2x A) (Me p2 X) nd1 sd1 mm1 lq1;.show Z _ _ (λz=>j (.inl z)) (I _ _ (s1 _ _ (λz=>j (.inr (.inr (.inr z)))) e))
 . rw[<-lys];show⟨⟨Jj Z J (f U.ie (by intro D z;cases z)) (λ_ _ _ z=>by cases z),U.gx.ae S,l U.gq λ⟨i,Y,z⟩=>(U.vv i Y).2 z,U.yq,x,l U.di λ⟨i,Y,z⟩=>U.bc.qh i Y z,U.qd,U.xh,v,U.vv,U.qh⟩,⟨G,M⟩,⟨dc,Jj Z J (f ec (by intro D z;cases z)) λ_ _ gs z=>?_⟩⟩;injection z with _ _ z;rw[<-z];show c.2.2
 .cases q:H r2 with|none=>rfl|some o=>
   by_cases z:∃i∈Aj p,r2=(F.gd i).d
   . obtain⟨i,Y,z⟩:=z;obtain⟨_,_,_,g⟩:=N.jo i Y;have:=g.av.aq;rw[<-z,B]at this;cases this
   . rw[s1 _ _ z q]at B;cases B
theorem Lf:((["plan","clock","joins","groups","number"]:List AG)≠(["slack","now","count"]:List AG))/\(["slack","now","count"]:List AG)≠(["within","sides"]:List AG)/\(["slack","now","count"]:List AG)≠(["rows"]:List AG)/\(["slack","now","count"]:List AG)≠(["step","rows"]:List AG):=by decide+kernel
theorem EK.bz(h:EK AN ex H ss A sd Z gk)(s:Bk x H H')(W:H x=AA (.ins C E J))(F:J.map (·.1)≠(["within","sides"]:List AG))(G:J.map (·.1)≠(["rows"]:List AG))(I:J.map (·.1)≠(["step","rows"]:List AG)):EK AN ex H' ss A sd Z gk:=by have U:∀{b:AD}{o:Bg},H b=AA o->(∀Y D B,o≠.ins Y D B)->H' b=AA o:=λe n=>Jj s W e λY D B z=>absurd z (n _ _ _);show⟨U h.ie (by intro _ _ _ z;cases z),h.gx.ae λb K e=>U e (by intro _ _ _ z;cases z),U h.gq (by intro _ _ _ z;cases z),h.yq,h.df.bz s W F G,U h.di (by intro _ _ _ z;cases z),h.qd,h.xh,h.bc.bz s W I,h.vv,h.qh⟩
theorem EK.abf(h:EK AN ex H ss A sd J gk)(D:GN ss A.jd A.gd b):∃kvs,H b=AA (.dK kvs):=by
 rcases D with D|⟨i,U,z⟩;.show h.df.xg D
 . obtain⟨_,_,_,g⟩:_:=h.bc.jo i U;show⟨_,by rw[z];show g.av.aq⟩
theorem EK.kp(h:EK AN ex H ss A sd J gk)(s:C6 (GN ss A.jd A.gd) H H')(e:H b=AA o)(n:∀kvs,o≠.dK kvs):H' b=AA o:=s _ _ (λz=>by obtain⟨kvs,D⟩:=h.abf z;rw[e]at D;show n _ (Bz D)) e
theorem EK.aay(h:EK AN ex H ss A sd Y gk)(s:C6 (GN ss A.jd A.gd) H H')(B:Cv AN ex H' ss A.dj A.nc A.jd U)(Z:Cu AN ex H' ss (Aj ss) A.dg A.je A.gd gg' J):EK AN ex H' ss A U gg' J:=⟨h.kp s h.ie (by intro W z;cases z),h.gx.ae λb C e=>h.kp s e (by intro W z;cases z),s _ _ (λz=>z.elim (λ⟨i,D,z⟩=>z.elim (h.df.xi i D).1 (h.df.xi i D).2) λ⟨i,D,z⟩=>(h.vv i D).2 z) h.gq,h.yq,B,s _ _ (λz=>z.elim h.qh λ⟨i,D,z⟩=>h.bc.qh i D z) h.di,h.qd,h.xh,Z,h.vv,h.qh⟩
theorem D9.adq(h:D9 AN H ss F Y now W U sd B gk)(s:Bk F.ck H H')(e:H' F.ck=AA (.ins AN.bb Z (Gq Y J D))):D9 AN H' ss F Y J D U sd B gk:=by lk;obtain⟨E,G⟩:=h.bz;obtain⟨C,A⟩:=h.gv;k_in;show⟨h.toEK.bz s A Lf.2.1 Lf.2.2.1 Lf.2.2.2,⟨E,Jj s A G λ_ _ I z=>?_⟩,⟨Z,e⟩⟩;injection z with _ _ z;rw[<-z];show El Lf.1
theorem D9.aay(h:D9 AN H ss F Z now D U sd G gk)(s:C6 (GN ss F.jd F.gd) H H')(K:Cv AN [] H' ss F.dj F.nc F.jd W)(I:Cu AN [] H' ss (Aj ss) F.dg F.je F.gd gg' J):D9 AN H' ss F Z now D U W gg' J:=by lk;obtain⟨B,E⟩:=h.bz;obtain⟨A,C⟩:=h.gv;k_in;show⟨h.toEK.aay s K I,⟨B,h.kp s E (by intro Y z;cases z)⟩,⟨A,h.kp s C (by intro Y z;cases z)⟩⟩
theorem nN(h:a<=b)(l:List AR):Br b (Br a l)=Br b l:=by
 unfold Br;rw[KZ];show MA λi _=>?_;by_cases q:b<=i.1
 . rw[AFk q,AFk (Eo h q)];rfl
 . rw[AFl q];rfl
theorem Xx(h:a<=b)(l:List AZ):IV b (IV a l)=IV b l:=by
 unfold IV;rw[KZ];show MA λi _=>?_;change(Ae _&&Ae _)=Ae _;by_cases q:b<i.2.1
 . rw[AFk q,AFk (HG h q)];rfl
 . rw[AFl q];rfl
theorem Xe:n<=JL n s t:=by
 unfold JL JK;split;.show Qc _
 .split<;>(first|lia|omega)
def oP(C:CO):BG:=λL H Q _=>(J6 λ(D:List AU)(F:Ep)(I Y W Z:Int)(G:Nat->List AR×List AR)(A:Nat->AG->List AZ)(E:Nat->List (AL×AE))=>Jc (L=[.ref F.x]) (D9 C H D F I Y W Z G A E) (C3 D) (D.length<=8) ((∀i∈Aj D,(E i).length<=600)) ((∀i∈Aj D,∀z,Dw (A i z)/\(A i z).length<=3000)) (∀U r K J B,(∀b o,¬HI D F b->H b=AA o->U b=AA o)->D9 C U D F I Y W (Z+(J.length:Int)) G (λ_ _=>[]) B->H r=AF->U r=AA (.lst K)->BW (JG D U) K J->(J.map Co).Nodup->CZ (J.map Co)->(∀q:C1,q∈J↔q.1∈Aj D/\q.2.2∈A q.1 q.2.1)->J.length<=14400000->Q (.ref r) U))
theorem kP(T:BR AH Af AN):T.oh.Ok BI P w Af base 7 (oP AN):=by show T.oh.ok λG _ _ _ _ _ U H g Q E h=>?_;obtain⟨e,F,d,Z,D,z,B,O,R,rfl,C,A,Y,W,V,k⟩:_:=h;show⟨_,(Ab (Aw (Hv (AB 0) T.aj (Xv T) U #v[IB]))),?_⟩;obtain⟨L,N⟩:=C.bz;show⟨F.x,L,_,rfl,N,by rfl,e,F,d,Z,D,z,B,O,R,AF,rfl,C,A,Y,W,V,λI r f c S s1 J _ U M b G B a X=>k I r f c _ s1 J U M b G B a X⟩
theorem EK.ah(h:EK AN ex H ss A sd D gk)(s:Ah H H'):EK AN ex H' ss A sd D gk:=⟨s _ _ h.ie,h.gx.ae s.tp,s _ _ h.gq,h.yq,h.df.ah s,s _ _ h.di,h.qd,h.xh,h.bc.ah s,h.vv,h.qh⟩
theorem D9.ah(h:D9 AN H ss F W now D J sd U gk)(s:Ah H H'):D9 AN H' ss F W now D J sd U gk:=by lk;obtain⟨Z,A⟩:=h.bz;obtain⟨Y,z⟩:=h.gv;k_in;show⟨h.toEK.ah s,⟨Z,s _ _ A⟩,⟨Y,s _ _ z⟩⟩
theorem EK.vc(h:EK AN ex H ss A sd D gk)(e:∀i∈Aj ss,gg' i=D i):EK AN ex H ss A sd gg' gk:=⟨h.ie,h.gx,h.gq,h.yq,h.df,h.di,h.qd,h.xh,h.bc.vc e,h.vv,h.qh⟩
theorem D9.vc(h:D9 AN H ss F W now D J sd U gk)(e:∀i∈Aj ss,gg' i=U i):D9 AN H ss F W now D J sd gg' gk:=⟨h.toEK.vc e,h.bz,h.gv⟩
def oJ(E:CO):BG:=λO H Q _=>(Sx λ(J:List AU)(F:Ep)(C D Y Z:Int)(M:Nat->List AR×List AR)(K:Nat->List (AL×AE))(L W:AG->List AR)(A:List CL)(e:CL)(q:AD)=>Qg (O=[.ref F.x,.ref q]) (Ob E H J F C D Y Z M K L) (C3 J) (J.length<=8) (Ks H q e) ((∀(i:Nat)s,J[i]?=AA s->s.bj=AQ->L s.nm=Ef s L A/\W s.nm=Ef s W (A++[e])/\(W s.nm).length<=600)) ((∀(i:Nat)s,J[i]?=AA s->s.bj=AQ->∀x∈W s.nm,0<=x.1/\x.1<=1000000000)) ((e.1<D->∀U p r,(∀b o,¬HI J F b->H b=AA o->U b=AA o)->Ob E U J F C D (Y+1) Z M K L->H p=AF->H r=AF->U p=AA (.tup [.bl AQ,.ref r])->U r=AA (.lst [])->Q (.ref p) U)) ((D<=e.1->∀U p r N z I G,(∀b o,¬HI J F b->H b=AA o->U b=AA o)->Ob E U J F C (JL D C e.1) (Y+1) (Z+(z.length:Int)) I G W->H p=AF->H r=AF->U p=AA (.tup [.bl AJ,.ref r])->U r=AA (.lst N)->BW (JG J U) N z->(z.map Co).Nodup->CZ (z.map Co)->(∀q:C1,q∈z↔q.1∈Aj J/\q.2.2∈Kw (JL D C e.1) (DS J D W q.1 q.2.1))->z.length<=14400000->(∀i∈Aj J,∃B,(W (FL J i)).Perm (L (FL J i)++B)/\∀x∈B,D<=x.1)->Q (.ref p) U)))
theorem kN(T:BR AH Af AN):T.rq.Ok BI P w Af base 7 (oJ AN):=by
  show T.rq.ok λnd _ _ _ _ _ hr H vs Q E h=>?_;obtain⟨ss,F,sl,now,cnt,num,sd,gk,L,L',evs,e,q,rfl,fr,pok,lss,ev,hL,tm,kl,k⟩:_:=h;show⟨_,(Ag (Bi (Fw (FH (Hv (Bq (AB 0) rfl) T.cj (j9 T) hr #v[Av AH (AB 1) AM]))) (Ab (Aw (Cq #v[Dh,Cy Eg]))) Bs) (Ag (FT (Ax (lQ T) hr #v[Bq (AB 0) rfl,Bq (AB 0) rfl,Bq (AB 0) rfl,AB 1])) (Ag (FT (Ax (kK T) hr #v[Bq (AB 0) rfl,Bq (Bq (AB 0) rfl) rfl])) (Ab (Aw (Cq #v[Dh,Hv (AB 0) T.aj (Xv T) hr #v[Bq (Bq (AB 0) rfl) rfl]])))))),?_⟩;have sz:Ay=16777216:=Dc;lk;obtain⟨dx,ex⟩:=fr.ag.bz;obtain⟨dc,ec⟩:=fr.ag.gv;k_in;have nl:=Xe (n:=now) (s:=sl) (t:=e.1);show⟨_,⟨ex,T.aj,T.cw,rfl⟩,F.ck,dc,_,rfl,ec,by rfl,_,_,Ar ev,Ap (j:=0) rfl,F.ck,dc,e.1,sl,now,cnt,rfl,ec,_,rfl,?_⟩;by_cases he:e.1<now
  . rw[AFl (OW he:¬now<=e.1)];have e0:JL now sl e.1=now:=AFi he;rw[e0];have x1:Bk F.ck H (AO H F.ck (.ins AN.bb dc (Gq sl now (cnt+1)))):=zzu
    have fb1:=fr.ag.adq x1 Ac;have fr1:∀b,(AO H F.ck (.ins AN.bb dc (Gq sl now (cnt+1)))) b=AF->H b=AF:=λb e=>Jn e;show Fd ⟨Bd _,λr hr=>?_⟩;have hrH:=fr1 _ hr;generalize AO H F.ck (.ins AN.bb dc (Gq sl now (cnt+1)))=H1 at x1 fb1 fr1 hr⊢;show BM hr λH2 s2 er=>⟨Ba rfl,λp hp=>?_⟩;have s3:=CB (o:=.tup [.bl AQ,.ref r]) hp;show kl he _ p r (λb o nb e=>s3 _ _ (s2 _ _ (x1 _ _ (λz=>nb (.inr (.inl z))) e))) ⟨(fb1.ah s2).ah s3,fr.acj,fr.bu⟩ (fr1 _ (s2.au hp)) hrH Ac (s3 _ _ er)
  have he:now<=e.1:=by simp_all
  have k:=k he;clear kl;rw[AFk he];show Ce ?_;generalize JL now sl e.1=nw at nl k⊢;have x1:Bk F.ck H (AO H F.ck (.ins AN.bb dc (Gq sl nw (cnt+1)))):=zzu
  have fb1:=fr.ag.adq x1 Ac;have ev1:Ks (AO H F.ck (.ins AN.bb dc (Gq sl nw (cnt+1)))) q e:=x1 _ _ (λz=>by have ev:H q=_:=ev;rw[z,ec]at ev;cases ev) ev;have fr1:∀b,(AO H F.ck (.ins AN.bb dc (Gq sl nw (cnt+1)))) b=AF->H b=AF:=λb e=>Jn e;generalize AO H F.ck (.ins AN.bb dc (Gq sl nw (cnt+1)))=H1 at x1 fb1 ev1 fr1⊢;obtain⟨dx1,ex1⟩:=fb1.bz;show⟨_,⟨ex1,T.aj,T.ir,rfl⟩,_,⟨ex1,T.aj,T.cx,rfl⟩,_,⟨ex1,T.aj,T.bx,rfl⟩,F.lp,F.dj,F.dg,q,F.ps,ss,F.nc,F.jd,sd,L,L',evs,e,now,F.je,F.gd,gk,rfl,fb1.ie,fb1.gx,pok,Ak lss (by decide),fb1.df,ev1,hL,fr.bu,he,fb1.bc,fr.acj,tm,fb1.vv,fb1.qh,λH2 bt gk2 s2 jr2 gr2 lg2 br2=>?_⟩;have fb2:=fb1.aay s2 jr2 gr2;have ap:=Oh pok he hL fr.bu br2 ss.length;lk;obtain⟨dx2,ex2⟩:=fb2.bz;obtain⟨dc2,ec2⟩:=fb2.gv;k_in;have fdp:∀{i:Nat}{n a b:AG}{wi:Int},ss[i]?=AA (.join n a b wi)->((L' a).Perm (L a++bt a)/\(L' a).length<=600)/\(L' b).Perm (L b++bt b)/\(L' b).length<=600:=λ{i n a b wi}ei=>by have hi:i<ss.length:=(BV.mp ei).1;obtain⟨i1,s1,l1,e1,rfl,t1⟩:=pok.ph i _ a ei (.head _);obtain⟨i2,s2,l2,e2,rfl,t2⟩:=pok.ph i _ b ei (.tail _ (.head _));show⟨⟨ap i1 s1 (MG l1 hi) e1 t1,(hL i1 s1 e1 t1).2.2⟩,ap i2 s2 (MG l2 hi) e2 t2,(hL i2 s2 e2 t2).2.2⟩
  show⟨_,⟨ex2,T.aj,T.cx,rfl⟩,_,⟨ex2,T.aj,T.cw,rfl⟩,_,⟨ec2,T.cj,T.dk,rfl⟩,F.dj,ss,F.nc,F.jd,F7 ss sd ss.length bt,nw,rfl,fb2.gq,fb2.yq,fb2.df,λi⟨n,a,b,wi,ei⟩=>?_,λH3 s3 jr3=>?_⟩
  . lk;obtain⟨⟨pa,la⟩,pb,lb⟩:=fdp ei;obtain⟨qa,qb⟩:=fr.bu i n a b wi ei;k_in;have h1:=O1 (now-wi) (L a);have h2:=O1 (now-wi) (L b);have h3:=pa.length_eq;have h4:=pb.length_eq;rw[CI]at h3 h4;rw[KG ei,AFi (BV.mp ei).1];change((sd i).1++bt a).length<=1000/\((sd i).2++bt b).length<=1000;rw[CI,CI,qa.length_eq,qb.length_eq];lia
  have fb3:=fb2.aay (λb o nb e=>s3 b o (λz=>nb (.inl z)) e) jr3 (gr2.fh s3 (λb hb=>.inr (fb2.df.xg hb)) (λi hi=>(fb2.vv i hi).1) fb2.qh);lk;obtain⟨dx3,ex3⟩:=fb3.bz;obtain⟨dc3,ec3⟩:=fb3.gv;k_in;have tl:∀{i:Nat},i∈Aj ss->∃s,ss[i]?=AA s/\s.ig/\(L' s.fd).length<=600/\∀x∈L' s.fd,0<=x.1/\x.1<=1000000000:=λ{i}hi=>by obtain⟨s,es,ht⟩:=HM.mp hi;obtain⟨tk,_,fd⟩:=pok.ig es ht;obtain⟨i',s',l,e',en,t'⟩:=pok.ph i s s.fd es (by rw[fd];show .head _);show⟨s,es,tk,by rw[<-en];show(hL i' s' e' t').2.2,by rw[<-en];show tm i' s' e' t'⟩
  show⟨F.x,dx3,_,rfl,ex3,by rfl,_,⟨ex3,T.aj,T.cw,rfl⟩,_,⟨ec3,T.cj,T.dk,rfl⟩,ss,F,sl,nw,cnt+1,num,_,_,gk2,AA nw,rfl,fb3,pok,lss,(λi hi=>?_),(λi hi z=>?_),λH4 r xs qs gk4 s4 fb4 lg4 hr4 er4 pr4 nd4 sd4 mm4 lq4=>?_⟩
  . obtain⟨s,es,_,l,_⟩:_:=tl hi;have:=lg2 i hi;rw[F6 es]at this;show Ak this l
  . obtain⟨s,es,tk,l,tms⟩:_:=tl hi;rw[JP es];have:=Q9 (z:=z) (now:=now) tk tms;show⟨Wf (Oz tk),by lia⟩
  show⟨Ba rfl,λp hp=>?_⟩;have s5:=CB (o:=.tup [.bl AJ,.ref r]) hp;have fb5:=fb4.ah s5;have kk:∀b o,¬HI ss F b->H b=AA o->H4 b=AA o:=λb o nb e=>s4 b o nb (s3 _ _ (λz=>nb (.inr (.inr (.inl z)))) (s2 _ _ (λz=>nb (.inr (.inr z))) (x1 _ _ (λz=>nb (.inr (.inl z))) e)));have thr:∀b,H3 b=AF->H b=AF:=λb e3=>by cases q0:H b with |none=>rfl|some o=>
      exfalso;by_cases z1:b=F.ck;.rw[z1,ec3]at e3;cases e3
      have q1:=x1 _ _ z1 q0;by_cases z2:GN ss F.jd F.gd b
      . rcases z2 with z2|⟨i,hi,z2⟩
        . obtain⟨kv,e'⟩:=fb3.df.xg z2;rw[e3]at e';cases e'
        . obtain⟨_,_,_,g⟩:=fb3.bc.jo i hi;have:=g.av.aq;rw[<-z2,e3]at this;cases this
      . rw[s3 _ _ (λz=>z2 (.inl z)) (s2 _ _ z2 q1)]at e3;cases e3
  have frp:H p=AF:=by cases q0:H p with|none=>rfl|some o=>
      exfalso;by_cases z:HI ss F p
      . rcases z with z|z|z|⟨i,hi,z⟩
        . obtain⟨_,e'⟩:=fb4.bz;rw[<-z,hp]at e';cases e'
        . obtain⟨_,e'⟩:=fb4.gv;rw[<-z,hp]at e';cases e'
        . obtain⟨kv,e'⟩:=fb4.df.xg z;rw[hp]at e';cases e'
        . obtain⟨_,_,_,g⟩:=fb4.bc.jo i hi;have:=g.av.aq;rw[<-z,hp]at this;cases this
      . rw[kk p o z q0]at hp;cases hp
  show k _ p r xs qs (Ol ss nw (F7 ss sd ss.length bt)) gk4 (λb o nb e=>s5 _ _ (kk b o nb e)) ⟨fb5.vc λi hi=>?_,λi hi=>Ak (lg4 i hi) (lg2 i hi),λi n a b wi ei=>?_⟩ frp (thr r hr4) Ac (s5 _ _ er4) (Me pr4 s5.tp) nd4 sd4 mm4 lq4 λi hi=>?_
  . obtain⟨s,es,_⟩:_:=tl hi;rw[JP es,JP es];funext z;show(Xx nl _).symm
  . lk;obtain⟨⟨pa,_⟩,pb,_⟩:=fdp ei;obtain⟨qa,qb⟩:=fr.bu i n a b wi ei;k_in;rw[Wy ei,KG ei,AFi (BV.mp ei).1];have two:∀{S A B A':List AR},S.Perm (Br (now-wi) A)->A'.Perm (A++B)->(Br (nw-wi) (S++B)).Perm (Br (nw-wi) A'):=λ{S A B A'}p1 p2=>by show .trans ?_ (p2.symm.filter _);change(Vd _ (S++B)).Perm (Vd _ (A++B));rw[Gg,Gg];show .append ((p1.filter _).trans (.of_eq ?_)) (.refl _);show nN (ACO nl _) A
    show⟨two qa pa,two qb pb⟩
  . lk;obtain⟨s,es,ht⟩:=HM.mp hi;obtain⟨_,_,fd⟩:=pok.ig es ht;obtain⟨i',s',l,e',en,t'⟩:=pok.ph i s s.fd es (by rw[fd];show .head _);k_in;have hi':i<ss.length:=(BV.mp es).1;rw[F6 es,<-en];show⟨_,ap i' s' (MG l hi') e' t',pok.abn he fr.bu (n:=ss.length) (λi s _ ei=>br2 i s ei) ss.length (Al _) i' s' (MG l hi') e'⟩
theorem XX(h:∀a∈s.bo,D a=L a):Ef s D evs=Ef s L evs:=by cases s with|take n k=>rfl|only n a V U=>change(D a).filter _=(L a).filter _;rw[h a (.head _)]|turn n a f g=>change(D a).map _=(L a).map _;rw[h a (.head _)]|both n a b=>change D b++D a=L b++L a;rw[h a (.head _),h b (.tail _ (.head _))]|join n a b J=>change DK J _ _=DK J _ _;rw[h a (.head _),h b (.tail _ (.head _))]|gap=>rfl|each=>rfl
noncomputable def F5(ss:List AU)(evs:List CL):Nat->AG->List AR|0=>λ_=>[]|n+1=>match ss[n]? with|AA s=>B6 (F5 ss evs n) s.nm (Ef s (F5 ss evs n) evs)|AF=>F5 ss evs n
theorem Wa(J:C3 ss):∀(n i:Nat)s,i<n->ss[i]?=AA s->F5 ss evs n s.nm=Ef s (F5 ss evs n) evs |0,i,s,h,_=>absurd h (MH _)|n+1,i,s,h,D=>by have W:=Wa J (evs:=evs) n;cases q:ss[n]? with
 |none=>
  have:=(BV.mp D).1;have:=SA.mp q;have e:F5 ss evs (n+1)=F5 ss evs n:=by change(match ss[n]? with|AA s=>_|AF=>_)=_;rw[q]
  rw[e];show W i s (by lia) D|some t=>
  have e:F5 ss evs (n+1)=B6 (F5 ss evs n) t.nm (Ef t (F5 ss evs n) evs):=by change(match ss[n]? with|AA s=>_|AF=>_)=_;rw[q]
  rw[e];by_cases V:i=n
  . subst V;rw[D]at q;cases q;rw[IZ];show(XX λa U=>J.ja D D (Al _) _ _ U).symm
  . rw[J.acm q D (Dk (EM h) V),W i s (Dk (EM h) V) D];show(XX λa U=>J.ja q D (EM h) _ _ U).symm
noncomputable abbrev Bm(ss:List AU)(evs:List CL):AG->List AR:=F5 ss evs ss.length
theorem Qi(J:C3 ss){i:Nat}(D:ss[i]?=AA s):Bm ss evs s.nm=Ef s (Bm ss evs) evs:=Wa J _ i s (BV.mp D).1 D
def Ho(i:AR):Prop:=(0<=i.1/\i.1<=1000000000)/\C0 i.2.1
theorem jP(W:∀e∈evs,Ho (Hr e))(h:∀a∈s.bo,∀x∈L a,Ho x):∀x∈Ef s L evs,Ho x:=λx D=>by cases s with|take n k=>obtain⟨e,J,rfl⟩:_:=BQ.mp D;show W e (Dx.mp J).1|only n a z U=>show h a (.head _) x (Dx.mp D).1|turn n a f g=>obtain⟨y,Z,rfl⟩:_:=BQ.mp D;show h a (.head _) y Z|both n a b=>show(DN.mp D).elim (h b (.tail _ (.head _)) x) (h a (.head _) x)|join n a b A=>lk;obtain⟨i,U,D⟩:=bU.mp D;obtain⟨j,Y,rfl⟩:=BQ.mp D;k_in;have J:=h a (.head _) i U;have V:=h b (.tail _ (.head _)) j (Dx.mp Y).1;show⟨?_,J.2⟩;change 0<=JK _ _/\JK _ _<=1000000000;unfold JK;have:=J.1;have:=V.1;split<;>assumption|gap=>cases D|each=>cases D
theorem S6(D:C3 ss)(U:∀e∈evs,Ho (Hr e)):∀(m i:Nat)s,i<m->ss[i]?=AA s->∀x∈Bm ss evs s.nm,Ho x|0,i,s,h,_=>absurd h (MH _)|m+1,i,s,h,J=>by rw[Qi D J];show jP U λa W=>?_;obtain⟨Y,Z,l,V,rfl,_⟩:_:=D.ph i s a J W;show S6 D U m Y Z (by lia) V
theorem Qj(ss:List AU):∀n,F5 ss [] n=λ_=>[] |0=>rfl|n+1=>by have D:=Qj ss n;change(match ss[n]? with|AA s=>B6 _ _ _|AF=>F5 ss [] n)=_;rw[D];cases ss[n]? with |none=>rfl|some s=>
 change B6 _ _ _=_;have e:Ef s (λ_=>[]) []=[]:=by cases s<;>rfl
 rw[e];funext a;change(if a=s.nm then[]else[])=[];split<;>rfl
noncomputable def Ht(z:AG)(l:List AR):List AR:=l.filter λi=>Ae (i.2.1=z)
noncomputable def Es(p:AG->Bool)(evs:List CL):List CL:=evs.filter λe=>p e.2.2.1
theorem Wt:∀A:List AR,Ht z (DK wi A B)=DK wi (Ht z A) (Ht z B)
 |[]=>rfl|i::A=>by
  have D:=Wt (wi:=wi) (z:=z) (B:=B) A;unfold DK Ht at D⊢;rw[F0,Gg,D,OB];by_cases q:i.2.1=z
  . rw[LM (p:=λi:AR=>Ae (i.2.1=z)) (AFk q),F0];congr 1;rw[KZ,KZ];show AFj _ (MA λj _=>?_);change(Ae (i.2.1=z)&&Ku wi i j)=(Ku wi i j&&Ae _);rw[AFk q,Bool.true_and];cases h:Ku wi i j with|false=>rfl|true=>rw[AFk ((AFm h).1.trans q)];rfl
  . rw[MB (p:=λi:AR=>Ae (i.2.1=z)) (λh=>q (AFm h)),KZ];have J:B.filter (λa=>((λi:AR=>Ae (i.2.1=z))∘Xd i) a&&Ku wi i a)=[]:=MC.mpr λj _ h=>q (AFm (fU.mp h).1);rw[J];rfl
theorem jO:Ht z (Ef s L evs)=Ef s (λa=>Ht z (L a)) (Es (λk=>Ae (k=z)) evs):=by
 have D:∀{J:Type}(p q:J->Bool)(l:List J),(l.filter p).filter q=(l.filter q).filter p:=λp q l=>by rw[KZ,KZ];show MA λ_ _=>AB3 _ _
 cases s with |take n k=>change((evs.filter _).map _).filter _=((evs.filter _).filter _).map _;rw[OB,D];rfl|only n a V U=>show D _ _ _|turn n a f g=>change((L a).map _).filter _=((L a).filter _).map _;rw[OB];rfl|both n a b=>show Gg _ _|join n a b W=>show Wt _|gap=>rfl|each=>rfl
theorem Wb(ss:List AU)(z:AG)(evs:List CL):∀(n:Nat)(a:AG),Ht z (F5 ss evs n a)=F5 ss (Es (λk=>Ae (k=z)) evs) n a |0,_=>rfl|n+1,a=>by have D:=Wb ss z evs n;change Ht z ((match ss[n]? with|AA s=>B6 _ _ _|AF=>F5 ss _ n) a)=(match ss[n]? with|AA s=>B6 _ _ _|AF=>F5 ss _ n) a;cases ss[n]? with |none=>show D a|some s=>
 change Ht z (if a=s.nm then _ else _)=if a=s.nm then _ else _;have e:=funext D;split;.rw[jO,e]
 .show D a
theorem W3(h:p z=AQ)(a:AG):Ht z (Bm ss (Es p evs) a)=[]:=by
 rw[Wb];have e:Es (λk=>Ae (k=z)) (Es p evs)=[]:=by unfold Es;rw[KZ,MC];intro e _ q;obtain⟨J,D⟩:=fU.mp q;rw[AFm J,h]at D;cases D
 rw[e,Qj]
theorem X4(z:AG)(l:List AR):Gs z l=(Ht z l).map λi=>(i.1,i.2.2):=rfl
theorem nL(h:Ht z (F i)=Ht z (G i)):Jk ss now F i z=Jk ss now G i z:=by cases e:ss[i]? with|none=>unfold Jk;rw[e]|some s=>rw[HK e,HK e];unfold F8;rw[X4,X4,h]
theorem nM(h:p z=AQ)(now:Int)(i:Nat):DS ss now (Bm ss (Es p evs)) i z=[]:=by have e:=nL (ss:=ss) (now:=now) (F:=λi=>Bm ss (Es p evs) (FL ss i)) (G:=λ_=>[]) (i:=i) (W3 h _);rw[show DS ss _ _ i z=_ from e];show congrFun (Oy ss _ i) z
theorem gU(h:x∈Bm ss (Es p evs) a):p x.2.1=AJ:=by cases q:p _ with|true=>rfl|false=>have D:x∈Ht _ _:=Dx.mpr ⟨h,AFk rfl⟩;rw[W3 q]at D;cases D
theorem mR(h:z∉l.map (·.2.1)):Gs z l=[]:=by unfold Gs;rw[MC.mpr λi D q=>h (BQ.mpr ⟨i,D,AFm q⟩)];rfl
theorem EK.adk(h:EK AN ex H ss A sd W gk)(s:C6 p H H')(J:∀b,p b->∃kvs,H b=AA (.dK kvs))(n:∀b,p b->¬GN ss A.jd A.gd b/\b≠A.dj/\b≠A.dg):EK AN ex H' ss A sd W gk:=by have Y:∀{b:AD}{o:Bg},H b=AA o->(∀kvs,o≠.dK kvs)->H' b=AA o:=λ{b o}e n=>s _ _ (λz=>by obtain⟨kvs,U⟩:=J b z;rw[e]at U;show n _ (Bz U)) e;show⟨Y h.ie (by intro kvs z;cases z),h.gx.ae λb B e=>Y e (by intro kvs z;cases z),s _ _ (λz=>(n _ z).2.1 rfl) h.gq,h.yq,h.df.fh s (λb D=>.inr (J b D)) (λb D z=>(n b D).1 (.inl z)) (λz=>(n _ z).2.1 rfl),s _ _ (λz=>(n _ z).2.2 rfl) h.di,h.qd,h.xh,h.bc.fh s (λb D=>.inr (J b D)) (λi Z z=>(n _ z).1 (.inr ⟨i,Z,rfl⟩)) (λz=>(n _ z).2.2 rfl),h.vv,h.qh⟩
abbrev ET:=Nat->List AR×List AR
abbrev GX:=Nat->AG->List AZ
abbrev Er:=Nat->List (AL×AE)
theorem EK.vp(h:EK AN ex H ss A sd E gk)(F:c∈ex)(e:H c=AA (.lst ys))(K:A.lp≠c):EK AN ex (AO H c o) ss A sd E gk:=by
 have s:C6 _ H (AO H c o):=zzu
 have C:∀{b:AD}{Y:Bg},H b=AA Y->(∀B,Y≠.lst B)->(AO H c o) b=AA Y:=λ{b Y}J n=>s _ _ (λz=>by rw[z,e]at J;show n _ (Bz J).symm) J;have Z:∀{b:AD}{W:List _},H b=AA (.dK W)->b≠c:=λ{b W}J z=>by rw[z,e]at J;cases J
 show⟨s _ _ K h.ie,h.gx.ae λb M U=>C U (by intro B z;cases z),C h.gq (by intro B z;cases z),h.yq,h.df.fh s (λb D=>.inl ⟨by rw[D];show F,ys,by rw[D];show e⟩) (λb D z=>by obtain⟨L,U⟩:=h.df.xg z;show Z U D) (Z h.gq),C h.di (by intro B z;cases z),h.qd,h.xh,h.bc.fh s (λb D=>.inl ⟨by rw[D];show F,ys,by rw[D];show e⟩) (λi G z=>by obtain⟨_,_,_,g⟩:_:=h.bc.jo i G;show Z g.av.aq z) (Z h.di),h.vv,h.qh⟩
def La(ss:List AU)(evs:List CL):Prop:=∀(p:AG->Bool)(i:Nat)s,ss[i]?=AA s->s.bj=AQ->(Bm ss (Es p evs) s.nm).length<=600/\∀x∈Bm ss (Es p evs) s.nm,0<=x.1/\x.1<=1000000000
theorem La.acp(h:La ss evs)(D:C3 ss)(p:AG->Bool)(Y:t∈Aj ss):(Bm ss (Es p evs) (FL ss t)).length<=600/\∀x∈Bm ss (Es p evs) (FL ss t),0<=x.1/\x.1<=1000000000:=by lk;obtain⟨s,J,B⟩:=HM.mp Y;obtain⟨_,_,W⟩:=D.ig J B;obtain⟨Z,z,_,U,V,A⟩:=D.ph t s _ J (by rw[W];show .head _);k_in;rw[F6 J,<-V];show h p Z z U A
theorem Lc(evs:List CL):Es (λ_=>AJ) evs=evs:=Vf.mpr λ_ _=>rfl
theorem La.vc(h:La ss evs)(D:C3 ss)(p:AG->Bool)(now:Int)(W:t∈Aj ss)(z:AG):Dw (DS ss now (Bm ss (Es p evs)) t z)/\(DS ss now (Bm ss (Es p evs)) t z).length<=3000:=by lk;obtain⟨s,U,Z⟩:=HM.mp W;obtain⟨Y,V⟩:=h.acp D p W;k_in;rw[F6 U]at Y V;rw[JP U];have J:=(D.ig U Z).1;have:=Q9 (z:=z) (now:=now) J V;show⟨Wf (Oz J),by lia⟩
def J8(H:AI)(xs:List AE)(D:List (List AE)):Prop:=BW (λx u=>∃a,x=.ref a/\H a=AA (.tup u)) xs D
theorem J8.ae(h:J8 H xs D)(t:By H H'):J8 H' xs D:=Gf (λ_ _⟨a,e,J⟩=>⟨a,e,t _ _ J⟩) h
def qT:BG:=λZ H Q _=>(ER λ(d:AD)(D:List (AL×AE))(F:AL->List (List AE))=>Ee (Z=[.ref d]) (H d=AA (.dK D)) (D.length<=600) ((∀q∈D,∃(z:AG)(r:AD)(W:List AE),q=(.inr z,.ref r)/\H r=AA (.lst W)/\J8 H W (F q.1)/\(F q.1).length<=3000/\∀u∈F q.1,u≠[]/\u.length<=3)) (∀J r Y(U:List AL),Ah H J->H r=AF->J r=AA (.lst Y)->J8 J Y (U.flatMap λk=>(F k).map λu=>Au k::u)->U.Perm (D.map (·.1))->U.Pairwise (λa b=>Dg b a=AQ)->Q (.ref r) J))
theorem Xw(T:BR AH Af AN):T.uh.Ok BI P w Af base 1 qT:=by
  show T.uh.ok λnd _ _ _ _ _ hr H vs Q E h=>?_;obtain⟨d,kvs,F,rfl,ed,lk,hq,k⟩:_:=h;show⟨_,(Ag (BD 1 nd (Cy Eg)) (Ag (EG EN rfl (DI (K:=AH) (Bw (PL rfl) (by rfl) T.gy NC #v[AB 0])) (EF 2 nd) (Ab (FT (Mw (K:=AH) QA SU V2 Pd (AB 1) #v[(HR (CU YG) [("key",2)] ⟨rfl,rfl,trivial⟩ (DI (K:=AH) (Cg hr.u1 (AB 0) (AB 2) (λ_ _=>rfl))) (λ_ _ _ _=>Im) (λ_ _ _ _=>(AY (U8 (K:=AH)) (Cq #v[AB 1]) (AB 0))))])))) (Ab (Aw (AB 1))))),?_⟩;have sz:Ay=16777216:=Dc;show⟨Bd _,λl hl=>?_⟩;show BM (o:=.lst []) hl λH1 s1 el=>?_;show⟨d,kvs,rfl,s1 _ _ ed,.inr λq hq'=>?_,λls ks hls pk ps=>?_⟩;. obtain⟨z,r,xs,e,_⟩:_:=hq q hq';show⟨z,by rw[e]⟩
  have hls':=hls;show BM (o:=.lst (ks.map Au)) hls λH2 s2 els=>?_;have nll:ls≠l:=λz=>by rw[z,el]at hls';cases hls'
  have lks:ks.length<=600:=by rw[pk.length_eq,BB];assumption
  show⟨ls,rfl,⟨_,AX els⟩,HQ (xs:=ks.map Au) (λi σ H'=>RR (λ(o2:Option AE)(acc:List AE)=>σ=[AA (.ref d),AA (.ref l),o2]) (λ_ _=>Ah H H') (λ_ acc=>H' l=AA (.lst acc)) _ (λ_ acc=>J8 H' acc ((ks.take i).flatMap λk=>(F k).map λu=>Au k::u)) (λ_ acc=>acc.length<=3000*i)) ⟨AF,[],rfl,s1.aa s2,s2 _ _ el,els,.nil,Bd _⟩ (λi σ H' _ hh=>by obtain⟨_,_,_,_,_,e,_⟩:=hh;show AX e) ?_ ?_⟩
  . intro i x σ H3 hx hI;lk;obtain⟨o2,acc,rfl,s3,el3,els3,hw3,la⟩:=hI;rw[CD]at hx;obtain⟨ky,hky,rfl⟩:=EI.mp hx;have hi:i<ks.length:=(BV.mp hky).1;obtain⟨v,hv⟩:=OA (pk.mem_iff.mp (Ct hky));obtain⟨z,r,xs,e1,er,hw,lf,hu⟩:=hq _ (Io hv);cases e1;k_in;have hxl:=(Cf hw).1;have ed3:=s3 _ _ ed;show⟨.inl ⟨rfl,_,AX el3⟩,d,_,rfl,by have:=Mh (k:=B9 z) ed3;rw[hv]at this;show this,r,rfl,⟨_,AX (s3 _ _ er)⟩,?_⟩;show Ig (K:=AH) (xs:=xs) (λj τ acc' H'=>(∃o,τ=[o,AA (.str z)])/\Ah H3 H'/\J8 H' acc' (((F (.inr z)).take j).map λu=>AE.str z::u)) (by lia) ⟨⟨AF,rfl⟩,CA _,.nil⟩ (λj τ acc' H'⟨_,s',_⟩=>AX (s' _ _ (s3 _ _ er))) ?_ ?_
    . intro j y τ acc' H4 R1 hy _ hI k1;obtain⟨⟨o,rfl⟩,s4,hw4⟩:_:=hI;have hj:j<(F (.inr z)).length:=by have:=(BV.mp hy).1;rw[<-hxl];show this
      have ek:=Cr hj;generalize(F (.inr z))[j]=u at ek;lk;obtain⟨a,rfl,ea⟩:=(Cf hw).2 j _ _ hy ek;have ea4:=s4 _ _ (s3 _ _ ea);obtain⟨b1,b2⟩:=hu u (Ct ek);k_in;show⟨Ba rfl,λp hp=>?_⟩;show BM (o:=.tup [.str z]) hp λH5 s5 ep=>?_;show⟨p,a,_,_,rfl,rfl,Ar ep,Ar (s5 _ _ ea4),by simp,by simp;lia,λe=>absurd e b1,λ_ q hq'=>k1 _ _ _ ⟨⟨_,rfl⟩,(s4.aa s5).gu hq',?_⟩⟩;rw[Dy,ek,DJ];show Eh (hw4.ae (s5.gu hq').tp) (.cons ⟨q,rfl,Ac⟩ .nil)
    . intro τ acc' H4 la4 hI D hD;obtain⟨_,s4,hw4⟩:_:=hI;show BM (o:=.lst acc') hD λH5 s5 eD=>?_;have s35:=s4.aa s5;have el5:=s35 _ _ el3;show⟨l,D,_,_,rfl,rfl,el5,eD,by lia,?_⟩;have tp5:By H5 (AO H5 l (.lst (acc++acc'))):=(HP H5).gu el5 λxs=>by intro z;cases z
      show⟨_,acc++acc',rfl,(s3.aa s35).vh hl,Ac,by rw[AW nll];show s35 _ _ els3,?_,by rw[CI];lia⟩;rw[Dy,hky,ACZ];show J8.ae (Eh (hw3.ae s35.tp) ?_) tp5;rw[D7 (Bo hxl.symm)]at hw4;change J8 H5 acc' ([B9 z].flatMap _);rw[F0,List.flatMap_nil,Ew];show hw4.ae s5.tp
  . intro σ H3 hI;obtain⟨o2,acc,rfl,s3,el3,els3,hw3,la⟩:_:=hI;rw[BB,D7 (Al _)]at hw3;show k H3 l acc ks s3 hl el3 hw3 pk ps
theorem TK[Inhabited Y]{p:AL×AE->Y->Prop}:∀{kvs:List (AL×AE)},(kvs.map (·.1)).Nodup->(∀q∈kvs,∃y,p q y)->∃F:AL->Y,∀q∈kvs,p q (F q.1)
 |[],_,_=>⟨λ_=>gJ,λq h=>(by cases h)⟩|q::kvs,n,h=>by
  lk;obtain⟨Z,z⟩:=Kb.mp n;obtain⟨F,U⟩:=TK z λD J=>h D (.tail _ J);obtain⟨y,W⟩:=h q (.head _);k_in;show⟨λk=>if k=q.1 then y else F k,λD J=>?_⟩;rcases CJ.mp J with rfl|J
  . change p D (if D.1=D.1 then y else F _);rw[AFi rfl];show W
  . change p D (if D.1=q.1 then y else F _);rw[AFh λ(e)=>Z (BQ.mpr ⟨D,J,e⟩)];show U D J
theorem RC:∀{kss:List (List AL)}{xs:List AE},J8 H xs (kss.map λks=>ks.map Au)↔CY H xs kss
 |[],xs=>⟨λh=>(by cases h;show .nil),λh=>(by cases h;show .nil)⟩|ks::kss,xs=>by
  constructor
  . intro h;cases h with|cons a b=>show .cons a (RC.mp b)
  . intro h;cases h with|cons a b=>show .cons a (RC.mpr b)
theorem UA{F:AL->List (List AL)}:∀{ks:List AL},ks.Pairwise (λa b=>Dg b a=AQ)->ks.Nodup->(∀k∈ks,CZ (F k))->CZ (ks.flatMap λk=>(F k).map λr=>k::r)
 |[],_,_,_=>.nil|k::ks,W,Y,V=>by
  lk;obtain⟨C,E⟩:=Gi.mp W;obtain⟨A,B⟩:=Kb.mp Y;k_in;show OD.mpr ⟨?_,UA E B λk z=>V k (Ek _ z),λa Z b J=>?_⟩
  . show GF.mpr ((V k DO).imp λ{a b}h=>?_);change(if k=k then BN b a else Dg k k)=AQ;rw[AFi rfl];show h
  . lk;obtain⟨x,_,rfl⟩:=BQ.mp Z;obtain⟨U,D,J⟩:=bU.mp J;obtain⟨y,_,rfl⟩:=BQ.mp J;k_in;change(if U=k then BN y x else Dg U k)=AQ;rw[AFh (λe=>A (by rw[<-e];show D))];show C U D
def pA(V:CO):BG:=λY H Q _=>(JE λ(W:List AD)(x d:AD)(L:List AR)=>IQ (Y=[.ref x]) (DE V W H x d L) (L.length<=600) (∀J r U D,Ah H J->H r=AF->J r=AA (.lst U)->CY J U D->CZ D->D.Perm (L.map HJ)->Q (.ref r) J))
theorem Tw(T:BR AH Af AN):T.tj.Ok BI P w Af base 2 (pA AN):=by
  show T.tj.ok λnd _ _ _ _ _ N H vs Q E h=>?_;obtain⟨ex,x,d,L,rfl,X,j,k⟩:_:=h;show⟨_,(Ab (Aw (Ax (Xw T) N #v[Bq (AB 0) rfl]))),?_⟩;lk;obtain⟨dx,f⟩:=X.bz;obtain⟨I,c,W,U,n,l⟩:=X.av;obtain⟨F,R⟩:=TK (Y:=List (List AL)) (p:=λq D=>(ER λ(z:AG)(r:AD)(Z:List AE)=>Ee (q=(.inr z,.ref r)) (H r=AA (.lst Z)) (CY H Z D) (CZ D) (D.Perm ((L.filter λi=>Ae (i.2.1=z)).map GZ)))) W λq C=>by obtain⟨z,r,Z,D,e,_,B,hw,_,A,J⟩:=n q C;show⟨D,z,r,Z,e,B,hw,A,J⟩
  k_in;show⟨_,⟨f,T.dq,T.cy,rfl⟩,d,I,λk=>(F k).map λM=>M.map Au,rfl,c,Ak U j,λq C=>?_,λb r y M s N B a O t=>?_⟩
  . obtain⟨z,r,Z,e,B,hw,_,J⟩:_:=R q C;show⟨z,r,Z,e,B,RC.mpr hw,?_,λu o=>?_⟩
    . have:=J.length_eq;have:=Ff (λi:AR=>Ae (i.2.1=z)) L;rw[BB]at*;lia
    . lk;obtain⟨v,G,rfl⟩:=BQ.mp o;obtain⟨i,_,rfl⟩:=BQ.mp (J.mem_iff.mp G);k_in;show⟨λz=>(nomatch z),Ba rfl⟩
  . have e:(M.flatMap λk=>((F k).map λr=>r.map Au).map λu=>Au k::u)=(M.flatMap λk=>(F k).map λr=>k::r).map λr=>r.map Au:=by rw[bT];congr 1;funext k;rw[C8,C8];rfl
    rw[e]at a;have S:∀k∈I.map (·.1),∃z:AG,k=.inr z/\CZ (F k)/\(F k).Perm ((L.filter λi=>Ae (i.2.1=z)).map GZ):=λk U=>by obtain⟨q,C,rfl⟩:=BQ.mp U;obtain⟨z,r,Z,e,_,_,A,J⟩:=R q C;rw[e]at A J⊢;show⟨z,rfl,A,J⟩
    show k b r y _ s N B (RC.mp a) (UA t (O.nodup_iff.mpr W) λk U=>?_) ?_
    . obtain⟨_,_,A,_⟩:_:=S k (O.mem_iff.mp U);show A
    . show(wR O).trans ((Z2 (g:=λk=>(L.filter λi=>Ae ((B9 i.2.1:AL)=k)).map HJ) λk U=>?_).trans ?_)
      . obtain⟨z,rfl,_,J⟩:_:=S k U;show(J.map _).trans (R7 ?_);rw[C8];have e:(L.filter λi=>Ae ((B9 i.2.1:AL)=B9 z))=L.filter λi=>Ae (i.2.1=z):=MA λi _=>by
          by_cases h:i.2.1=z;.rw[h];simp
          .rw[AFl h,AFl (λq=>h (Hl q))]
        rw[e];show M6 λi m=>?_;have:=AFm (Dx.mp m).2;change B9 z::GZ i=HJ i;rw[<-this];rfl
      . rw[<-bT];show(Uj (λi:AR=>(B9 i.2.1:AL)) L _ W l).map HJ
def Qk(H:AI)(x:AE)(m:AG×AZ):Prop:=∃(a q:AD),x=.ref a/\H a=AA (.tup [.str m.1,.int m.2.1,.int m.2.2.1,.ref q])/\GK H q m.2.2.2
theorem mM(h:BW (Qk H) xs D)(t:By H H'):BW (Qk H') xs D:=Gf (λ_ _ W=>by obtain⟨a,q,e,J,U⟩:=W;show⟨a,q,e,t _ _ J,t _ _ U⟩) h
theorem X1:∀{ps:List AZ}{xs:List AE},EA H xs ps->∃D:List (List AE),J8 H xs D/\BW (λu(p:AZ)=>∃q,u=[.int p.1,.int p.2.1,.ref q]/\GK H q p.2.2) D ps|[],xs,h=>by cases h;show⟨[],.nil,.nil⟩|p::ps,xs,h=>by cases h with|cons a b=>lk;obtain⟨D,Y,Z⟩:=X1 b;obtain⟨J,q,e,U,W⟩:=a;k_in;show⟨_,.cons ⟨J,e,U⟩ Y,.cons ⟨q,rfl,W⟩ Z⟩
def pP(Y:CO):BG:=λB H Q _=>(LY λ(Z:List AD)(x p d:AD)(A:AU)(g:AG->List AZ)(J:List (AL×AE))=>Ee (B=[.ref x]) (Dp Y Z H x p d A g J) (J.length<=600) ((∀z,(g z).length<=3000)) (∀U r W(D:List AG),Ah H U->H r=AF->U r=AA (.lst W)->BW (Qk U) W (EV g D)->D.Pairwise (λa b=>Dg (.inr b) (.inr a)=AQ)->D.Nodup->(∀z,g z≠[]->z∈D)->D.length<=600->Q (.ref r) U))
theorem Q1(T:BR AH Af AN):T.mi.Ok BI P w Af base 2 (pP AN):=by
  show T.mi.ok λnd _ _ _ _ _ c H vs Q E h=>?_;obtain⟨ex,x,p,d,st,g,j,rfl,B,lk,lg,k⟩:_:=h;show⟨_,(Ab (Aw (Ax (Xw T) c #v[Bq (AB 0) rfl]))),?_⟩;lk;obtain⟨dx,eo⟩:=B.bz;obtain⟨F,S⟩:=TK (Y:=List (List AE)) (p:=λq U=>(ER λ(z:AG)(r:AD)(C:List AE)=>IQ (q=(.inr z,.ref r)) (H r=AA (.lst C)) (J8 H C U) (BW (λu(p:AZ)=>∃q,u=[.int p.1,.int p.2.1,.ref q]/\GK H q p.2.2) U (g z)))) B.av.nd λq W=>by obtain⟨z,r,C,e,_,I,w⟩:=B.av.zj q W;obtain⟨U,R,J⟩:=X1 w.1;show⟨U,z,r,C,e,I,R,J⟩
  k_in;show⟨_,⟨eo,T.bh,T.du,rfl⟩,d,j,F,rfl,B.av.aq,lk,λq W=>?_,λH' r ys N s c I o Z A=>?_⟩
  . obtain⟨z,r,C,e,I,R,J⟩:_:=S q W;show⟨z,r,C,e,I,R,by rw[(Cf J).1];show lg z,λu hu=>?_⟩;lk;obtain⟨i,M,ei⟩:=G8.mp hu;have l:=(Cf J).1;obtain⟨q',G,_⟩:=(Cf J).2 i u (g z)[i] (by rw[Cr M,ei]) (Cr (Bc M (Bo l)));k_in;rw[G];show⟨λz=>(nomatch z),Ba rfl⟩
  . lk;obtain⟨D,rfl⟩:∃D:List AG,N=D.map B9:=by
      have:∀k∈N,∃z:AG,k=.inr z:=λk X=>by obtain⟨q,W,rfl⟩:=BQ.mp (Z.mem_iff.mp X);obtain⟨z,_,_,e,_⟩:=S q W;show⟨z,by rw[e]⟩
      clear o Z A;induction N with |nil=>show⟨[],rfl⟩|cons k N L=> obtain⟨D,e⟩:=L λk X=>this k (.tail _ X);obtain⟨z,G⟩:=this k (.head _);show⟨z::D,by rw[F1,e,G]⟩
    k_in;have lz:=Z.length_eq;rw[BB,BB]at lz;have kn:=Z.nodup_iff.mpr B.av.nd;show k H' r ys D s c I ?_ (GF.mp A) ((GF.mp kn).imp λh e=>h (by rw[e])) (λz ne=>?_) (by simp_all)
    . have fz:∀z∈D,BW (λu(p:AZ)=>∃q,u=[.int p.1,.int p.2.1,.ref q]/\GK H q p.2.2) (F (.inr z)) (g z):=λz f=>by obtain⟨q,W,e⟩:=BQ.mp (Z.mem_iff.mp (BQ.mpr ⟨z,f,rfl⟩));obtain⟨z',_,_,G,_,_,J⟩:=S q W;rw[e]at J;rw[G]at e;have e:z'=z:=Hl e;rw[e]at J;show J
      have n:∀{U:List (List AE)}{A:List AZ}{z:AG},BW (λu(p:AZ)=>∃q,u=[.int p.1,.int p.2.1,.ref q]/\GK H q p.2.2) U A->BW (λu(m:AG×AZ)=>∃q,u=[.str m.1,.int m.2.1,.int m.2.2.1,.ref q]/\GK H q m.2.2.2) (U.map λu=>AE.str z::u) (A.map λp=>(z,p)):=λ{U A z}h=>by induction h with |nil=>show .nil|cons a b L=> obtain⟨q,e,t⟩:=a;show .cons ⟨q,by rw[e],t⟩ L
      have O:BW (λu(m:AG×AZ)=>∃q,u=[.str m.1,.int m.2.1,.int m.2.2.1,.ref q]/\GK H q m.2.2.2) ((D.map B9).flatMap λk=>(F k).map λu=>Au k::u) (EV g D):=by clear o Z A lz kn;unfold EV;induction D with|nil=>show .nil|cons z D L=>rw[F1,F0,F0];show Eh (n (fz z (.head _))) (L λz f=>fz z (.tail _ f))
      lk;obtain⟨l1,g1⟩:=Cf o;obtain⟨l,g2⟩:=Cf O;k_in;show G0 (NL l1 l) λi v m e1 e2=>?_;have M:=(BV.mp e1).1;have e3:=Cr (show i<((D.map B9).flatMap λk=>(F k).map λu=>Au k::u).length by show Bc M (Bo l1));lk;obtain⟨a,ea,ha⟩:=g1 i v _ e1 e3;obtain⟨q,eq,tq⟩:=g2 i _ m e3 e2;k_in;rw[eq]at ha;show⟨a,q,ea,ha,s _ _ tq⟩
    . obtain⟨y,hy,e⟩:_:=BQ.mp (Z.mem_iff.mpr (B.av.zp z ne));rw[<-Hl e];show hy
theorem Qv(e:H d=AA u)(U:∀b,b≠d->J b=H b)(s:Ah J H'):Ah H (AO H' d u):=λb o D=>by
 by_cases q:b=d
 . rw[q]at D⊢;rw[e]at D;cases D;show Ac
 . rw[AW q];show s _ _ (by rw[U b q];show D)
structure MT(ss:List AU)(sd:ET)(gg:GX)(gk:Er)(p:AG->Prop):Prop where
 sl:∀t,D3 ss t->(sd t).1.length<=600/\(sd t).2.length<=600
 sp:∀t,D3 ss t->(∀x∈(sd t).1,p x.2.1)/\∀x∈(sd t).2,p x.2.1
 gl:∀t∈Aj ss,(gk t).length<=600/\∀z,Dw (gg t z)/\(gg t z).length<=3000
 gp:∀t∈Aj ss,∀z,gg t z≠[]->p z
theorem Ti{f:D->Y}:∀{l m:List D},l.map f=m.map f->(∀a∈l,∀b∈m,f a=f b->a=b)->l=m|[],[],_,_=>rfl|[],b::m,e,_=>by cases e|a::l,[],e,_=>by cases e|a::l,b::m,e,h=>by obtain⟨J,U⟩:=EH e;rw[h a (.head _) b (.head _) J,Ti U λx V y W=>h x (.tail _ V) y (.tail _ W)]
theorem Ya(h:Dw l)(U:a∈l)(V:b∈l)(e:a.1=b.1):a=b:=by
 lk;obtain⟨i,D,rfl⟩:=G8.mp U;obtain⟨j,J,rfl⟩:=G8.mp V;k_in;rcases cD i j with q|q|q
 . have:=HV.mp h i j D J q;simp_all
 .subst q;rfl
 . have:=HV.mp h j i J D q;simp_all
theorem YH{l m:List J}(W:(l.map key).Nodup)(Y:(m.map key).Nodup)(s1:CZ (l.map key))(s2:CZ (m.map key))(V:∀q,q∈l↔q∈m)(D:∀a∈l,∀b∈m,key a=key b->a=b):l=m:=by have U:∀{l:List J},(l.map key).Nodup->l.Nodup:=λh=>(GF.mp h).imp λh e=>h (by rw[e]);show Ti (Rz (((List.perm_ext_iff_of_nodup (U W) (U Y)).mpr V).map _) s1 s2) D
noncomputable def X8(ss:List AU)(qs:List C1):List (List AL):=qs.map λq=>match ss[q.1]? with|AA s=>Lh s q.2.1 q.2.2|AF=>[]
theorem Ov(h:BW (JG ss H) xs qs):CY H xs (X8 ss qs):=by induction h with|nil=>show Ju _|cons h _ U=>obtain⟨a,s,J,e,D⟩:_:=h;show .cons ⟨a,e,?_⟩ U;dsimp only;rw[J];show D
noncomputable def Qu(m:AG×AZ):List AL:=[.inr m.1,.inl m.2.1,.inl m.2.2.1]
noncomputable def Q3(m:AG×AZ):EO:=.tuple [.str m.1,.int m.2.1,.int m.2.2.1,.tuple [.int m.2.2.2.1,.int m.2.2.2.2.1,.int m.2.2.2.2.2.1,.int m.2.2.2.2.2.2]]
theorem mL(h:BW (Qk H) xs M):EW AH H xs (M.map Q3):=by induction h with|nil=>show .nil|cons a _ U=>obtain⟨a,q,rfl,D,J⟩:_:=a;show .cons (.tup (Ar D) (.cons (.str _) (.cons (.int _) (.cons (.int _) (.cons (.tup (Ar J) (.cons (.int _) (.cons (.int _) (.cons (.int _) (.cons (.int _) .nil))))) .nil))))) U
theorem rN(J:∀z,Dw (g z))(V:ks.Pairwise λa b=>Dg (.inr b) (.inr a)=AQ)(D:ks.Nodup):CZ ((EV g ks).map Qu)/\((EV g ks).map Qu).Nodup:=by
  constructor
  . have:=UA (F:=λk=>match k with|.inr z=>(g z).map _|.inl _=>[]) (GF.mpr V) (GF.mpr (D.imp λh e=>h (Hl e))) λk U=>by obtain⟨z,_,rfl⟩:=BQ.mp U;show(J z).sd
    show Eq.mp (AFj CZ ?_) this;unfold EV;rw[List.flatMap_map,bT];congr 1;funext z;rw[C8,C8];rfl
  . show GF.mpr ((GF.mp (UJ J D)).imp λh e=>h ?_);show SO (Hl (EH e).1) (JB (EH (EH e).2).1)
noncomputable def Ox(m:Nat)(p:List AR×List AR):List AR:=if m=0 then p.1 else p.2
theorem gT(h:DR AN ex H j Z D J U W wi L.1 L.2)(Y:m<2):∃x d,([.ref D,.ref J]:List AE)[m]?=AA (.ref x)/\DE AN ex H x d (Ox m L):=by
 rcases ACz m 1 with q|q
 . have:=Nat.lt_one_iff.mp q;subst this;show⟨_,_,rfl,h.s0⟩
 . have:=AAT q Y;subst this;show⟨_,_,rfl,h.s1⟩
def FK(H H':AI):Prop:=∀b o,H b=AA o->(∀C J U,o≠.ins C J U)->(∀D,o≠.dK D)->H' b=AA o
theorem FK.vp(h:FK H H')(e:H b=AA (.lst xs)):H' b=AA (.lst xs):=h b _ e (by intro _ _ _ z;cases z) (by intro _ z;cases z)
theorem FK.tp(h:FK H H'):By H H':=λb _ e=>h b _ e (by intro _ _ _ z;cases z) (by intro _ z;cases z)
theorem D9.lt(h:D9 AN H ss F C V J A B W Y)(s:∀b o,¬HI ss F b->H b=AA o->H' b=AA o):FK H H':=λb o e U Z=>s b o (λz=>by
 rcases z with z|z|z
 . obtain⟨_,D⟩:=h.bz;rw[<-z,e]at D;show U _ _ _ (Bz D)
 . obtain⟨_,D⟩:=h.gv;rw[<-z,e]at D;show U _ _ _ (Bz D)
 . obtain⟨E,D⟩:=h.abf z;rw[e]at D;show Z _ (Bz D)) e
theorem Tt:((["plan","clock","joins","groups","number"]:List AG)≠(["within","sides"]:List AG))/\(["plan","clock","joins","groups","number"]:List AG)≠(["rows"]:List AG)/\(["plan","clock","joins","groups","number"]:List AG)≠(["step","rows"]:List AG):=by decide+kernel
def LZ(c:AD)(H:AI)(Y:List AE):Prop:=∀v∈Y,∃(q r U:AD)(W J:List AE)(D:List (List AL)),v=.ref q/\H q=AA (.tup [.ref r,.ref U])/\H r=AA (.lst (W++J))/\H U=AA (.lst (W++J))/\CY H W D/\(∀Z∈D,Gy Z=AJ)/\(J=[]\/J=[.non])/\r≠c/\U≠c
theorem LZ.ae(h:LZ c H J)(t:FK H H'):LZ c H' J:=λv Z=>by obtain⟨q,r,z,B,A,D,e,U,W,Y,w,o,n⟩:_:=h v Z;show⟨q,r,z,B,A,D,e,t.tp _ _ U,t.vp W,t.vp Y,w.ae t.tp,o,n⟩
theorem LZ.adz(h:LZ c H A)(t:FK H H')(I:H c=AA (.lst R))(K:H D=AF):LZ c (AO (AO H' c o) D E) A:=λv L=>by
 obtain⟨q,r,O,Q,P,U,e,J,Y,Z,w,N,n,B,C⟩:_:=h v L;have W:∀{b:AD}{M:Bg},H b=AA M->b≠D:=λe=>BE e K;have F:∀{b:AD}{G:List AE},H b=AA (.tup G)->(AO (AO H' c o) D E) b=AA _:=λ{b G}e=>by rw[AW (W e),AW (λz=>by rw[z,I]at e;cases e)];show t.tp _ _ e
 show⟨q,r,O,Q,P,U,e,F J,?_,?_,Gf (λ_ _⟨a,e,J⟩=>⟨a,e,F J⟩) w,N,n,B,C⟩
 . rw[AW (W Y),AW B];show t.vp Y
 . rw[AW (W Z),AW C];show t.vp Z
theorem Wz:∀{xs:List AE}{D:List EO},EW AH H xs D->EW AH H (xs++[.non]) (D++[.none])|_,_,.nil=>.cons .non .nil|_,_,.cons a b=>.cons a (Wz b)
theorem i6(w:CY H ys kss)(W:∀ks∈kss,Gy ks=AJ)(n:J=[]\/J=[.non]):∃D,EW AH H (ys++J) D/\Hj (.list D)=AJ:=by
  rcases n with rfl|rfl;.show⟨_,by rw[Ew];show w.aeb,Pu W⟩
  . show⟨_,Wz w.aeb,?_⟩;have h:=Pu W;simp[Hj,Gm,IH]at h⊢;have Y:∀{D E:List _},IG (D++E)=(IG D&&IG E):=λ{D E}=>by induction D with|nil=>simp[IG]|cons d D U=>simp[IG,U,Bool.and_assoc]
    have Z:∀{D:List _},Iy (D++[.none])<=Ke (Iy D) 1:=λ{D}=>by induction D with|nil=>simp[Iy,IH]|cons d D U=>simp only[R8,Iy];omega
    show⟨by rw[Y,h.1];rfl,?_⟩;have:=Z (D:=kss.map Ih);show Ak this (Nat.max_le_of_le_of_le h.2 (by decide))
theorem S8(D:C3 ss)(U:∀(i:Nat)s,ss[i]?=AA s->s.bj=AQ->z s.nm=FX s z V/\z s.nm<=600)(E:evs.length<=V)(F:∀e∈evs,Ho (Hr e)):La ss evs:=λp i s J W=>by have A:=(BV.mp J).1;have C:(Es p _).length<=V:=Ak (Ff _ _) E;have Y:=XY D U C (λi s _ J _=>Qi D J) _ i s (Al _) A J W;show⟨Ak Y (U i s J W).2,λx B=>(S6 D (λe Z=>F e (Dx.mp Z).1) _ i s (OH _) J x B).1⟩
theorem WZ(D:C3 ss)(W:∀e∈evs,Ho (Hr e))(p:AG->Bool){i:Nat}(J:ss[i]?=AA s)(V:x∈Bm ss (Es p evs) s.nm):C0 x.2.1:=(S6 D (λe U=>W e (Dx.mp U).1) _ i s (OH _) J x V).2
theorem YR(D:C3 ss)(C:∀e∈evs,Ho (Hr e))(p:AG->Bool)(B:t∈Aj ss)(h:DS ss now (Bm ss (Es p evs)) t z≠[]):C0 z:=by
 lk;obtain⟨s,J,E⟩:=HM.mp B;obtain⟨_,_,Y⟩:=D.ig J E;obtain⟨F,G,_,V,W,_⟩:=D.ph t s _ J (by rw[Y];show .head _);k_in;rw[JP J]at h;show fV λA=>h ?_;unfold F8;rw[mR λZ=>A ?_];.rfl
 . obtain⟨x,U,e⟩:_:=BQ.mp Z;rw[<-W]at U;rw[<-e];show WZ D C p V U
theorem i5(D:C3 ss)(W:La ss evs)(G:∀e∈evs,Ho (Hr e))(A:∀t∈Aj ss,(gk t).length<=(Bm ss (Es p evs) (FL ss t)).length)(J:∀(t:Nat)n a b wi,ss[t]?=AA (.join n a b wi)->(sd t).1.Perm (Br (now-wi) (Bm ss (Es p evs) a))/\(sd t).2.Perm (Br (now-wi) (Bm ss (Es p evs) b))):MT ss sd (DS ss now (Bm ss (Es p evs))) gk λz=>C0 z/\p z=AJ:=by
 have V:∀{t:Nat}{n a b:AG}{wi:Int},ss[t]?=AA _->∀f∈(AU.join n a b wi).bo,∀{S:List AR},S.Perm (Br _ (Bm ss _ f))->S.length<=600/\∀x∈S,C0 x.2.1/\p x.2.1=AJ:=λ{t n a b wi}U f N{S}H=>by
  obtain⟨O,I,_,E,rfl,P⟩:=D.ph t _ f U N;show⟨?_,λx Z=>?_⟩
  . have K:=H.length_eq;have L:=O1 (now-wi) (Bm ss (Es p evs) I.nm);have M:=(W p O I E P).1;show Ak (Ak (Bo K) L) M
  . have Z:=(Dx.mp (H.mem_iff.mp Z)).1;show⟨WZ D G p E Z,gU Z⟩
 show⟨λt⟨n,a,b,wi,U⟩=>?_,λt⟨n,a,b,wi,U⟩=>?_,λt Y=>⟨Ak (A t Y) (W.acp D p Y).1,λz=>W.vc D p _ Y z⟩,λt Y z F=>⟨YR D G p Y F,?_⟩⟩;. obtain⟨B,C⟩:=J t n a b wi U;show⟨(V U a (.head _) B).1,(V U b (.tail _ (.head _)) C).1⟩
 . obtain⟨B,C⟩:=J t n a b wi U;show⟨(V U a (.head _) B).2,(V U b (.tail _ (.head _)) C).2⟩
 .cases q:p z with|true=>rfl|false=>show absurd (nM q _ t) F
theorem MT.jz(h:MT ss sd U gk p)(w:∀z,p z->q z):MT ss sd U gk q:=⟨h.sl,λt D=>⟨λx J=>w _ ((h.sp t D).1 x J),λx J=>w _ ((h.sp t D).2 x J)⟩,h.gl,λt D z V=>w _ (h.gp t D z V)⟩
theorem YI(H:C3 ss){g:Nat->AG->List AZ}(E:∀t∈Aj ss,∀z,Dw (g t z)){qs D:List C1}(F:(qs.map Co).Nodup)(G:(D.map Co).Nodup)(s1:CZ (qs.map Co))(s2:CZ (D.map Co))(W:∀q:C1,q∈qs↔q.1∈Aj ss/\q.2.2∈g q.1 q.2.1)(Y:∀q:C1,q∈D↔q.1∈Aj ss/\q.2.2∈g q.1 q.2.1):qs=D:=YH F G s1 s2 (λq=>(W q).trans (Y q).symm) λa B b C e=>by lk;obtain⟨t1,A⟩:=(W a).mp B;obtain⟨_,V⟩:=(Y b).mp C;k_in;have J:=JB (EH (EH e).2).1;have J:=Ko.mp J;have U:=Hl (EH (EH (EH e).2).2).1;have Z:=JB (EH (EH (EH (EH e).2).2).2).1;rw[<-J,<-U]at V;show SO J (SO U (Ya (E _ t1 _) A V Z))
theorem X9(D:∀s∈ss,∀t∈s.yj,C0 t)(h:∀q∈qs,C0 q.2.1):∀ks∈X8 ss qs,Gy ks=AJ:=λks V=>by obtain⟨q,W,rfl⟩:_:=BQ.mp V;cases U:ss[q.1]? with|none=>rfl|some s=>have J:C0 s.nm:=D s (Ct U) _ (by cases s<;>show .head _);change(Lz _&&(Lz _&&AJ))=AJ;rw[show Lz (B9 _)=AJ from J.ok,show Lz (B9 _)=AJ from(h q W).ok];rfl
def Kt(H:AI)(ys:List AE):Prop:=∀v∈ys,v=.non\/∃a u,v=.ref a/\H a=AA (.tup u)/\∀i:Int,u.head?≠AA (.int i)
theorem Kt.aeu(h:Kt H ys)(U:AE.ref a∈ys)(e:H a=AA (.tup (.int i::u))):False:=by
 rcases h _ U with z|⟨W,Y,J,D,n⟩;.cases z
 . cases J;rw[e]at D;cases D;show n i rfl
theorem DE.ady(h:DE AN [] H x d L)(e:H c=AA (.lst ys))(G:Kt H ys):DE AN [c] H x d L:=by obtain⟨o,U,A,n,l,q,Z⟩:_:=h;show⟨o,U,A,n,l,λp F=>?_,Z⟩;obtain⟨z,r,K,D,B,_,J,hw,W,I,Y⟩:_:=q p F;show⟨z,r,K,D,B,λE=>?_,J,hw,W,I,Y⟩;rw[Bt.mp E,e]at J;cases J;cases D with|nil=>show W rfl|cons M D=>cases hw with|cons a _=>obtain⟨b,rfl,C⟩:=a;obtain⟨i,_,rfl⟩:=BQ.mp (Y.mem_iff.mp (.head _));show G.aeu (.head _) C
theorem Dp.ady{st:AU}(h:Dp AN [] H x p d st g kvs)(e:H c=AA (.lst ys))(A:Kt H ys):Dp AN [c] H x p d st g kvs:=⟨h.bz,h.jx,h.av.aq,h.av.nd,λq z=>by obtain⟨J,r,B,W,_,D,w,U⟩:_:=h.av.zj q z;show⟨J,r,B,W,λZ=>?_,D,w,U⟩;rw[Bt.mp Z,e]at D;cases D;generalize g _=C at w;cases w with|nil=>show U rfl|cons a _=>obtain⟨b,E,rfl,Y,_⟩:_:=a;show A.aeu (.head _) Y,h.av.zp⟩
theorem EK.yz(h:EK AN [] H ss A sd J gk)(e:H c=AA (.lst ys))(U:Kt H ys)(M:A.lp≠c):EK AN [] (AO H c o) ss A sd J gk:=by
 have L:Cv AN [c] H ss A.dj A.nc A.jd sd:=by
  show⟨h.df.aq,λt n a b O E=>?_,h.df.cu,h.df.xi⟩;obtain⟨v,j⟩:=h.df.gw t n a b O E;show⟨v,j.bz,j.bu,j.s0.ady e U,j.s1.ady e U,j.ne,λI=>?_⟩;have W:=j.bu;rw[Bt.mp I,e]at W;cases W;obtain⟨Q,B⟩:=j.s0.bz;rcases U _ (.head _)with z|⟨P,u,Z,Y,_⟩;.cases z
  . cases Z;rw[B]at Y;cases Y
 have F:Cu AN [c] H ss (Aj ss) A.dg A.je A.gd J gk:=by show⟨h.bc.aq,λt K=>?_,h.bc.cu,h.bc.qh⟩;obtain⟨N,C,v,g⟩:=h.bc.jo t K;show⟨N,C,v,g.ady e U⟩
 have G:EK AN _ H ss A sd J gk:=⟨h.ie,h.gx,h.gq,h.yq,L,h.di,h.qd,h.xh,F,h.vv,h.qh⟩;have D:=G.vp (o:=o) (.head _) e M;show⟨D.ie,D.gx,D.gq,D.yq,D.df.jz,D.di,D.qd,D.xh,D.bc.jz,D.vv,D.qh⟩
theorem D9.yz(h:D9 AN H ss F B now D J sd Z gk)(e:H c=AA (.lst ys))(L:Kt H ys)(K:F.lp≠c):D9 AN (AO H c o) ss F B now D J sd Z gk:=by
 have A:∀{b:AD}{U:Bg},H b=AA U->(∀Y,U≠.lst Y)->(AO H c o) b=AA U:=λ{b U}W n=>by rw[AW λz=>by rw[z,e]at W;show n _ (Bz W).symm];show W
 lk;obtain⟨E,I⟩:=h.bz;obtain⟨C,G⟩:=h.gv;k_in;show⟨h.toEK.yz e L K,⟨E,A I (by intro Y z;cases z)⟩,⟨C,A G (by intro Y z;cases z)⟩⟩
theorem LZ.yz(h:LZ c H D):Kt H D:=λv U=>by obtain⟨q,r,W,_,_,_,e,J,_⟩:_:=h v U;show .inr ⟨q,_,e,J,λi z=>by cases z⟩
theorem m7(h:BW (JG ss H) xs qs):Kt H xs:=λv W=>by lk;obtain⟨i,U,e⟩:=G8.mp W;obtain⟨l,g⟩:=Cf h;obtain⟨a,s,_,D,J⟩:=g i v qs[i] (by rw[Cr U,e]) (Cr _);k_in;show .inr ⟨a,_,D,J,λi z=>by cases z⟩
theorem D9.uz(f:D9 AN H ss F z now D J sd W gk)(s:C6 p H H')(Y:∀b,p b->∃kvs,H b=AA (.dK kvs))(n:∀b,p b->¬(HI ss F b\/b=F.dj\/b=F.dg)):D9 AN H' ss F z now D J sd W gk:=by have Z:∀{b:AD}{o:Bg},H b=AA o->(∀kvs,o≠.dK kvs)->H' b=AA o:=λ{b o}e n=>s _ _ (λy=>by obtain⟨kvs,V⟩:=Y b y;rw[e]at V;show n _ (Bz V)) e;lk;obtain⟨B,E⟩:=f.bz;obtain⟨A,C⟩:=f.gv;k_in;show⟨f.toEK.adk s Y λb U=>⟨λy=>n b U (.inl (.inr (.inr y))),λy=>n b U (.inr (.inl y)),λy=>n b U (.inr (.inr y))⟩,⟨B,Z E (by intro kvs y;cases y)⟩,⟨A,Z C (by intro kvs y;cases y)⟩⟩
structure S7(vs ws:List AK)(r:Bool):Prop where
 l:vs.length=ws.length
 f:∀v∈vs,EX v
 g:∀v∈ws,EX v
 k:vs.map (λv=>B8 (BP v))=ws.map (λv=>B8 (BP v))e:BN (ws.map BP) (vs.map BP)=r
theorem jE(h:Q (.bool (!Ae (y.cps.toList<x.cps.toList))) s):As (An prog w) A (Ed .LtE (.str x t) (.str y u)) Q E s:=by show wpAny_richCompare_same (op:=.LtE) (by rfl) (by rfl) ADf (ABf ADf (eP s x t) F.entry_str_le ?_ (by rfl)) rfl;show Cn (by grind)
theorem m5(A:Ck)(s:AV)(D:EX x)(J:EX y)(U:B8 (BP x)=B8 (BP y))(prog:CN)(w:Bu)(E:AK->AV->Prop)(Q:AK->AV->Prop)(h:Q (.bool (!Dg (BP y) (BP x))) s):As (An prog w) A (richCompare .LtE x y) Q E s:=by
  cases x<;>first|show D.elim|skip
  all_goals(cases y<;>first|show J.elim|show Hm (by assumption)|show Hm (by assumption)|skip)
  . show ADF ?_;have e:∀i j:Int,Ae (i<=j)=!Ae (j<i):=λi j=>by grind
    rw[e];show h
  .show(jE h)
theorem rB(l b:AD)(J D:Array AK)(n n2:Nat)(dd N:Option AD)(sl i:Array (Option AK))(r:Bool)(K:S7 J.toList D.toList r):Meets (Builtin.«tuple.__le__» ⟨[.ref l,.ref b],[]⟩) (λ_ R s=>s.heap.get? l=AA {cls:=.type "tuple",dict:=dd,data:=.seq J n,slots:=sl}/\s.heap.get? b=AA {cls:=.type "tuple",dict:=N,data:=.seq D n2,slots:=i}/\R (.ok (.ret (.bool (!r)))) s):=.of_wp λW w A R s h=>by
 obtain⟨I,g,d,M,L⟩:_:=s;obtain⟨u,t,h⟩:=h;have S:J.size<=D.size:=by have:=K.l;simp at this;(first|lia|omega)
 have f2:=ADN;wp_walk using wpAny_loadPart' u,wpAny_loadPart' t,ABi _ (λY b f=>b.1=AF/\f=⟨I,g,d,M,L⟩/\∃(E U:List AK)(q:Bool),Y=E.zip U/\S7 E U q/\R (.ok (.ret (.bool (!q)))) ⟨I,g,d,M,L⟩) _;case turn=> rintro⟨y,x⟩Y b f⟨Z,rfl,E,U,q,C,T,F⟩;obtain⟨H,O,P,o,V⟩:_:=T;cases U with |nil=>rw[ACs]at C;cases C|cons c U=>cases E with |nil=>cases C|cons a j=> rw[AAR]at C;injection C with X B;injection X with hy K;subst hy K;have k:=O y DO;have m:=P x DO;obtain⟨p,kt⟩:=EH o;have V:(if BP x=BP y then BN (U.map BP) (j.map BP)else Dg (BP x) (BP y))=q:=V;show BL (ZG A.in1 ⟨I,g,d,M,L⟩ k m p W w _ _ ?_);cases e:Ae (BP y=BP x)with |true=> rw[AFi (AFm e).symm]at V;wp_walk;show⟨rfl,rfl,j,U,q,B,⟨Nat.succ.inj H,λv G=>O v (Ek _ G),λv G=>P v (Ek _ G),kt,V⟩,F⟩|false=> rw[AFh λz=>AFp e z.symm]at V;have Q:=m5 A.in1 ⟨I,g,d,M,L⟩ k m p W w;wp_walk using Q;show⟨_,rfl,by rw[V];show F⟩
 case fin=>
  rintro⟨b1,b2⟩f⟨Z,rfl,E,U,q,C,⟨H,O,P,o,V⟩,F⟩;simp only at Z;subst Z;have G:q=AQ:=by rw[<-V];cases E with
   |nil=>cases U with|nil=>rfl|cons c U=>cases H
   |cons a j=>cases U with |nil=>cases H|cons c U=>cases C
  rw[G,show(!AQ)=Ae (J.size<=D.size)from(AFk S).symm]at F;wp_walk;show⟨_,rfl,by simpa[ADP]using F⟩
 case h=>show⟨rfl,rfl,J.toList,D.toList,r,rfl,K,h⟩
def mZ(K:Aq):Dq:=λx y H Q=>(JE λ(a b:AD)(D J:List AL)=>LW (x=.ref a) (y=.ref b) (Cb K H a (D.map Au)) (Cb K H b (J.map Au)) (D.map B8=J.map B8) (Q (.bl (!BN J D)) H))
section
variable{s:AU}
unseal CP in theorem mD{X:Be}(T:X.A.units<F2)(P:X.K=AH:=by rfl):CP X (Ed .LtE) (mZ AH):=by
 rw[<-P];intro pins s σ H x y v u Q I i j h;lk;obtain⟨a,b,ks,z,rfl,rfl,R,S,hs,q⟩:=h;cases i;cases j;obtain⟨J,r1,p1,_⟩:=I.gf R;obtain⟨D,r2,p2,_⟩:=I.gf S;obtain⟨L,N⟩:=KS r1;obtain⟨M,O⟩:=KS r2;have c:=r1.ar;have d:=r2.ar;rw[BB]at c d;obtain⟨⟨cls,dd,C,sl⟩,G,E,n,F⟩:=id p1;obtain⟨⟨B,Z,Y,A⟩,W,U,g,V⟩:=id p2;k_in;simp only at E F U V;subst E F U V;have e:=AFj MD hs;rw[BB,BB]at e;have f:S7 J.toArray.toList D.toArray.toList (BN z ks):=by
  show⟨by change J.length=D.length;(first|lia|omega),N,O,?_,by change BN (D.map BP) (J.map BP)=_;rw[L,M]⟩;change J.map (λv=>B8 (BP v))=D.map (λv=>B8 (BP v));have h1:(J.map BP).map B8=(D.map BP).map B8:=by rw[L,M];show hs
  rw[C8,C8]at h1;show h1
 show eK (op:=.LtE) ⟨_,G,rfl⟩ ⟨_,W,rfl⟩ F.slot_tuple_le F.entry_tuple_le (by rfl) (rB a b _ _ n g dd Z sl A _ f) ⟨G,W,show SW (!BN z ks)≠ADy/\FZ X pins σ Q (.bool (!BN z ks)) s from⟨(by grind),⟨.bl _,H,I,rfl,q⟩⟩⟩ T
end
theorem iU(t1:FP s.heap (.ref p) ks)(t2:FP s.heap (.ref q) J)(L:Gy ks=AJ)(M:Gy J=AJ)(P:A.units+64<F2):V5 A s (.ref p) (.ref q) (Ae (ks=J)):=by lk;obtain⟨a,o,W,m,V,e,c,d,k,f⟩:=t1;obtain⟨N,R,U,Q,D,F,C,E,I,H⟩:=t2;k_in;injection V with V;injection D with D;subst V D;lk;obtain⟨z,r⟩:=Pq f;obtain⟨B,Z⟩:=Pq H;k_in;rw[k]at r;rw[I]at Z;have Y:=Rj ks L;have K:=Rj J M;have G:SV (.tuple (ks.map Hy)) (.tuple (J.map Hy))=Ae (ks=J):=ZJ ks J;rw[<-G];show ADs _ _ A s _ _ z _ (.tuple e c d r) (.tuple F C E Z) (by simp[Gm,Y.1]) (by simp[Gm,K.1]) (by
 have O:(ADo (ks.map Hy)).depth<=1:=by simp[IH,Y.2]
 (first|lia|omega))
theorem jJ(t1:FP s.heap (.ref p) ks)(t2:FP s.heap (.ref q) V)(S:ks.map B8=V.map B8)(T:A.units+64<F2)(h:Q (BN ks V) s):As (An prog w) A (oneLt' AQ (.ref p) (.ref q)) Q E s:=by
 lk;obtain⟨a,o,D,m,Z,e,c,d,k,f⟩:=t1;obtain⟨n,g,J,b,U,H,B,F,K,P⟩:=t2;k_in;injection Z with Z;injection U with U;subst Z U;lk;obtain⟨L,M,G,j⟩:=o;obtain⟨C,Y,W,z⟩:=g;k_in;simp only at c d B F;subst c d B F;have X:O8 D.toList J.toList D.size J.size (BN ks V):=by
  show⟨⟨D.toList,[],by simp,.inl rfl,f,P,λi x y N O=>?_,by rw[k,K]⟩,SH _ _⟩;have R:(D.toList.map BP).map B8=(J.toList.map BP).map B8:=by rw[k,K];show S
  have I:=AFj (λl=>l[i]?) R;simp only[CD,N,O,Vr]at I;show Bz I
 show dY _ _ ?_;show eK (op:=.Lt) ⟨_,e,rfl⟩ ⟨_,H,rfl⟩ AA0 AAw (by rfl) (VT p q _ _ m b M Y j z _ X) ⟨e,H,⟨(by simp),h⟩⟩ (SJ T)
def S9(h:BJ)(u:AK)(ks:List AL):Prop:=∃(a p r:AD)(o:BC)(m:Nat),u=.ref a/\h.get? a=AA o/\o.cls=.type "tuple"/\o.data=.seq #[.ref p,.ref r] m/\FP h (.ref p) ks
theorem S9.vq(t:S9 h u ks)(t':S9 h u D):ks=D:=by lk;obtain⟨a,p,r,o,m,rfl,e,_,d,k⟩:=t;obtain⟨W,z,A,Z,Y,q,U,_,J,V⟩:=t';cases q;rw[e]at U;cases U;rw[d]at J;cases J;k_in;show k.vq V
structure TB(h:BJ)(vs:List AK)(kss:List (List AL))(sh:List Bool):Prop where
 dh:vs.length=kss.length
 nd:kss.Nodup
 vq:∀(i:Nat)u ks,vs[i]?=AA u->kss[i]?=AA ks->S9 h u ks/\ks.map B8=sh/\Gy ks=AJ
theorem TB.kf(x:TB h vs kss sh):∀(i:Nat)u ks,vs[i]?=AA u->kss[i]?=AA ks->L4 vs kss u=ks:=by intro i u d D J;have U:∃ks,(u,ks)∈vs.zip kss:=⟨d,M7.mpr ⟨i,Ka.mpr ⟨D,J⟩⟩⟩;unfold L4;rw[dif_pos U];lk;obtain⟨j,Y⟩:=M7.mp U.choose_spec;obtain⟨V,W⟩:=Ka.mp Y;k_in;show(x.vq j u _ V W).1.vq (x.vq i u d D J).1
theorem TB.abu(x:TB h vs kss sh)(W:A.units+64<F2)(h2:2<=vs.length)(I:∀a o D m,h.get? a=AA o->o.cls=.type "tuple"->o.data=.seq D m->s.heap.get? a=AA o):∃κ,(∀(Q:OJ->AV->Prop)(E:AK->AV->Prop),Q κ s->As (An prog w) A (Vz vs.toArray) Q E s)/\F4 prog w A s κ Gz (L4 vs kss) (Ir vs):=by
  have g:∀p∈(Ir vs).toList,p.1∈vs:=λp H=>by rw[SR]at H;show(cR H).2
  have G:∀{u F},FP h u F->FP s.heap u F:=λ⟨a,o,D,m,e0,e,c,d,r⟩=>⟨a,o,D,m,e0,I a o D m e c d,c,d,r⟩;have U:∀u∈vs,∃(i:Nat)(d:List AL),vs[i]?=AA u/\kss[i]?=AA d:=λu W=>K9 x.dh W;show⟨tuples' AQ,λQ E q=>?_,⟨λp H q hq Q E k=>?_⟩⟩
  . have R:∀(l:List AK),(∀u∈l,u∈vs)->∃z,AA9 s.heap l z/\z.length=l.length/\∀v∈z,∃F,FP s.heap v F:=λl=>by induction l with|nil=>showλ_=>⟨[],trivial,rfl,λv Y=>by cases Y⟩|cons u l ih=>
        intro W;obtain⟨z,O,f,P⟩:=ih (λb u2=>W _ (Ek _ u2));obtain⟨i,d,B,C⟩:=U u (W u DO);obtain⟨⟨a,p,r,o,m,rfl,e,c,Z,t⟩,_⟩:=x.vq i u d B C;show⟨.ref p::z,ABA (I _ _ _ _ e c Z) c Z rfl O,AAS.mpr f,λv Y=>?_⟩;rcases CJ.mp Y with rfl|Y;.show⟨d,G t⟩
        .show P v Y
    obtain⟨z,O,f,P⟩:_:=R vs λ_ h=>h;show V9 (T:=.type "tuple") O (by(first|lia|omega)) (λv Y=>?_) (by decide) q;obtain⟨F,a,o,D,m,rfl,e,c,_⟩:_:=P v Y;rw[<-c];show(show QC (An prog w) s.heap (OP (.ref a)) o.cls from(dP e).andThen .now)
  . lk;obtain⟨i,d,B,C⟩:=U _ (g p H);obtain⟨j,Z,V,M⟩:=U _ (g q hq);have k:Q (BN _ _) s:=k;rw[x.kf i _ d B C,x.kf j _ Z V M]at k;obtain⟨⟨a,p1,r1,o,m,b,e,c,K,t⟩,z1,S⟩:=x.vq i _ d B C;obtain⟨⟨a',p2,r2,o',m',u2,L,c',J,y⟩,z2,X⟩:=x.vq j _ Z V M;k_in;rw[b,u2];show ABF (I _ _ _ _ e c K) K (I _ _ _ _ L c' J) J ?_;by_cases n:d=Z
    . subst n;have N:i=j:=by obtain⟨h1,g1⟩:=BV.mp C;obtain⟨h2,g2⟩:=BV.mp M;show(bR x.nd).mp (g1.trans g2.symm)
      subst N;rw[B]at V;have V:=Bz V;rw[b,u2]at V;lk;cases V;rw[e]at L;cases L;rw[K]at J;cases J;k_in;rw[Mu]at k;show U0 [p1,r1] 0 k
    . show V8 (iU (G t) (G y) S X W prog w _ _ ?_);rw[AFl n];show dX (jJ (G t) (G y) (z1.trans z2.symm) W k)
def We(K:Aq)(H:AI)(xs:List AE)(kss:List (List AL))(sh:List Bool):Prop:=kss.Nodup/\BW (λx D=>(∃a p r:AD,x=.ref a/\Cb K H a [.ref p,.ref r]/\Cb K H p (D.map Au))/\D.map B8=sh/\Gy D=AJ) xs kss
theorem We.aax(I:Aa X J w H s)(h:We X.K H xs kss sh)(r:Bb xs its):TB s.heap its kss sh:=by
 lk;obtain⟨e,p⟩:=h;have c:=r.ar;obtain⟨R,S⟩:=Cf p;k_in;show⟨NL c.symm R,e,λi u d O A=>?_⟩;have x:=(BV.mp A).1;have B:xs[i]?=AA (xs[i]'(by(first|lia|omega))):=Cr (by(first|lia|omega));lk;obtain⟨⟨a,p,G,P,j,g⟩,z,t⟩:=S i _ _ B A;obtain⟨y,C,E⟩:=r.vm B;rw[O]at C;cases C;rw[P]at E;obtain rfl:u=DV a:=E;obtain⟨D,v,⟨o,f,T,n,b⟩,_⟩:=I.gf j;k_in;have Q:D=[DV p,DV G]:=by cases v with|cons K M=>cases K;cases M with|cons L N=> cases L;cases N;rfl
 subst Q;lk;obtain⟨F,Z,⟨q,Y,U,m,W⟩,_⟩:=I.gf g;obtain⟨k,l⟩:=KS Z;k_in;show⟨⟨a,p,G,o,n,rfl,f,T,b,p,q,_,m,rfl,Y,U,W,k,l⟩,z,t⟩
section
variable{s:AU}
unseal Ez in theorem iH{X:Be}{k:Nat}(z:DW k X.A)(Y:X.K=AH:=by rfl):Ez X (.builtin "sorted") (λxs H Q=>(JE λ(p:AD)(ys:List AE)(kss:List (List AL))(sh:List Bool)=>IQ (xs=[.ref p]) (Bx AH H p ys) (We AH H ys kss sh) (∀l(qs:List (AE×List AL)),H l=AF->qs.Perm (ys.zip kss)->(qs.map (·.2)).Pairwise (λa b=>BN b a=AQ)->Q (.ref l) (AO H l (.lst (qs.map (·.1))))))):=by rw[<-Y];intro pins s σ H xs F Q I r h;lk;obtain⟨p,ys,kss,sh,rfl,Z,E,q⟩:=h;obtain⟨u,rfl,C⟩:=Ip r;cases C;obtain⟨D,J,B,W⟩:=I.iq Z;k_in;show R4 I W (Ud J B W) (λD J=>?_) q;have U:=E.aax I J;show⟨U.dh,L4 D kss,U.kf,λs' A h2=>U.abu ?_ h2 λa o _ _ e _ _=>A a o e⟩;have:=z.un;grind
end
def pD:BG:=λD H Q _=>∃i:Int,D=[.int i]/\Q (.bl AJ) H
theorem k9(T:BR AH Af AN):T.oz.Ok BI P w Af base 1 pD:=by show T.oz.ok λJ _ _ _ _ _ D H U Q E h=>?_;obtain⟨i,rfl,k⟩:_:=h;show⟨_,(Ab (Aw (JU (Bw (JR (K:=AH)) (by rfl) T.ao Gj #v[AB 0,(Ij (v:=.ty "int") (by rfl) T.ym Vv rfl)]) (KW (Ru (Bw (JR (K:=AH)) (by rfl) T.ao Gj #v[AB 0,(Ij (v:=.ty "bool") (by rfl) T.xf cO rfl)])))))),?_⟩;show⟨_,"int",_,_,rfl,.int i,rfl,_,rfl,Fd ⟨_,"bool",_,_,rfl,.int i,rfl,_,rfl,k⟩⟩
theorem rV{xs:List AE}(e:xs.length=n)(h:i<n):((Kc (Eb n) xs).filter λq=>Ae (q.1=i)).map (λq=>AE.int (q.1:Int))=[AE.int (i:Int)]:=by
 have D:Eb n=(Kc (Eb n) xs).map cM:=(AAL (by rw[M5];show Bo e.symm)).symm;have J:((Eb n).filter λj=>Ae (j=i)).map (λj:Nat=>AE.int (j:Int))=[AE.int (i:Int)]:=by
  have:(Eb n).filter (λj=>Ae (j=i))=[i]:=by clear e D;induction n with |zero=>(first|lia|omega)|succ n W=>
   rw[bY,Gg];by_cases q:n=i
   . subst q;rw[MC.mpr λj U h=>by have:=Vh.mp U;have:=AFm h;(first|lia|omega)];simp
   . rw[W (by(first|lia|omega)),MB (by simpa using q)];rfl
  rw[this];rfl
 rw[D,OB,C8]at J;show J
def pC:BG:=λY H Q _=>(Kr λ(U r:AD)(W:List AE)(D:List AU)(q:C1)(s:AU)=>OX (Y=[.ref U,.ref r]) (H U=AA (.lst W)) (D1 H W D) (C3 D) (D.length<=8) (D[q.1]?=AA s) (s.bj=AJ) (H r=AA (.tup ((Lh s q.2.1 q.2.2).map Au))) (q.2.2.1<q.2.2.2.1) (∀J a,Ah H J->H a=AF->J a=AA (.tup ((Co q).map Au))->Q (.ref a) J))
theorem Xn(T:BR AH Af AN):T.ug.Ok BI P w Af base 2 pC:=by
    have J:=k9 (P:=P) (w:=w) (base:=base) T;show T.ug.ok λnd _ _ _ _ _ G H vs Q E h=>?_;obtain⟨u,r,c,ss,q,s,rfl,O,b,M,y,B,t,A,n,k⟩:_:=h;show⟨_,(Ag (Bi (Gd (Fx (Fw (FH (Bw (JR (K:=AH)) (by rfl) T.ao Gj #v[AB 1,(Ij (v:=.ty "tuple") (by rfl) T.aad AC7 rfl)]))) (Fx (BK L6 (Bw (FE (K:=AH)) (by rfl) T.eh FJ #v[AB 1]) AM (BF _)) (Fx (Fw (FH (Bw (JR (K:=AH)) (by rfl) T.ao Gj #v[Av AH (AB 1) AM,(Ij (v:=.ty "str") (by rfl) T.abq AC6 rfl)]))) (JZ (Fw (FH (Bw (JR (K:=AH)) (by rfl) T.ao Gj #v[Av AH (AB 1) AM,(Ij (v:=.ty "str") (by rfl) T.abq AC6 rfl)])))))))) (Ab (Aw IB)) Bs) (Ag (Bi (Gd (Fx (Fw (FH (Ax J G #v[Av AH (AB 1) AM]))) (Fx (Fw (FH (Ax J G #v[Av AH (AB 1) AM]))) (Fx (Fw (FH (Ax J G #v[Av AH (AB 1) AM]))) (JZ (BK v7 (Av AH (AB 1) AM) (Av AH (AB 1) AM) (BF _))))))) (Ab (Aw IB)) Bs) (Cc (xB (i:=2) (osc:=CU nC) [("_law_row_here",1)] nd rfl (Fi rfl) rfl (Mx (K:=AH) (by rfl) T.fo (AB 0)) rfl rfl (by decide+kernel) (by decide+kernel) (by decide+kernel) ⟨rfl,rfl,trivial⟩ rfl rfl (by decide+kernel) (λ_ _ _ _=>HS (Gd (Pn (BK Cp (Av AH (AB 1) AM) (Av AH (AB 2) AM) (BF _)) (Po (BK (Pf (K:=AH)) (Av AH (AB 1) AM) (Cq #v[BZ,BZ]) (by with_unfolding_all rfl)))))) (λ_ _ _ _=>(AB 0))) (Ag (Bi (BK L6 (Bw (FE (K:=AH)) (by rfl) T.eh FJ #v[AB 2]) AM (BF _)) (Ab (Aw IB)) Bs) (Ab (Aw (Cq #v[Av AH (AB 1) AM,Dj AH (AB 2) AM,Av AH (AB 1) AM,Av AH (AB 1) AM]))))))),?_⟩;have sz:Ay=16777216:=Dc;have V:=Ar (K:=AH) A;have L:=b.dh;show⟨_,"tuple",_,_,rfl,.tup A,rfl,_,rfl,Ce ⟨_,.inr V,rfl,_,rfl,Lx (C7 (λ_=>?_) λz=>absurd rfl z)⟩⟩;show⟨_,_,V,Ap (j:=0) rfl,_,"str",_,_,rfl,.str _,rfl,_,rfl,Ce ⟨_,_,V,Ap (j:=1) rfl,_,"str",_,_,rfl,.str _,rfl,_,rfl,Ce ?_⟩⟩;show⟨_,_,V,Ap (j:=2) rfl,_,rfl,_,rfl,Ce ⟨_,_,V,Ap (j:=3) rfl,_,rfl,_,rfl,Ce ⟨_,_,V,Ap (j:=4) rfl,_,rfl,_,rfl,Ce ⟨_,_,V,Ap (j:=2) rfl,_,_,V,Ap (j:=3) rfl,_,_,rfl,rfl,_,rfl,GU (λz=>absurd z (by(first|lia|omega))) λ_=>?_⟩⟩⟩⟩;showλ_ _ _ _ z1=>⟨u,rfl,⟨_,AX O⟩,RW (K:=AH) (xs:=c) (λj _=>Ae (j=q.1)) (λj _=>.int (j:Int)) (by(first|lia|omega)) (λZ s1=>AX (s1 _ _ O)) (λi x p o1 o2 Z R _ _ e q=>⟨p,_,rfl,Ar e,rfl,_,_,rfl,_,_,rfl,rfl,q⟩) (λi x Z R X s1 C=>?_) (λi x Z R X _ s1 q=>q _ (CA _)) λZ s1 D l=>?_⟩
    . lk;obtain⟨a,d,rfl,U,g⟩:=b.at X;obtain⟨f,w2,w3⟩:=(show DF Z a d from s1 _ _ g).gj;k_in;show⟨_,_,f,w3,_,_,Ar (s1 _ _ A),Ap (j:=0) rfl,rfl,_,rfl,Rc (λe=>?_) λne=>?_⟩
      . have F:=M.cu i q.1 d s U B e;subst F;rw[B]at U;cases U;show⟨_,_,f,w2,Ba rfl,λtt I=>⟨tt,HH,rfl,.inr (Ar Ac),rfl,rfl,_,rfl,?_⟩⟩;have w:=Nf s;rw[t]at w;rw[AFk rfl]at C;change R (EY (.str s.gj) HH) _;rw[w];show C _ (CB I)
      . have F:¬i=q.1:=λz=>by subst z;rw[B]at U;cases U;show ne rfl
        rw[AFl F]at C;show C _ (CA _)
    . have o:q.1<c.length:=by rw[L];show(BV.mp B).1
      rw[rV rfl o];show z1 _ _ ?_;show BM l λH2 s2 N=>?_;have W:=s1.aa s2;have Y:=Ar (K:=AH) (W _ _ A);show⟨_,.inl (AX N),rfl,_,rfl,Lx (C7 (λ_=>?_) λz=>absurd rfl z)⟩;show⟨_,_,Y,Ap (j:=3) rfl,_,_,AX N,Ap (j:=0) rfl,_,_,Y,Ap (j:=1) rfl,_,_,Y,Ap (j:=2) rfl,Ba rfl,λm S=>?_⟩;show k _ m (W.gu S) (W.au S) Ac
def oU:BG:=λB H Q _=>(Sy λ(Z l:AD)(D:Int)(Y:Option Int)(z A:List AE)(J:List AU)(U:List C1)=>Qe (B=[.ref Z,.ref l,.int D,JM Y]) (H Z=AA (.lst z)) (D1 H z J) (C3 J) (J.length<=8) (H l=AA (.lst A)) (BW (JG J H) A U) ((U.map Co).Nodup) (CZ (U.map Co)) ((∀q∈U,q.1∈Aj J/\q.2.2.1<q.2.2.2.1/\D<q.2.2.2.1/\∀n,Y=AA n->q.2.2.2.1<=n)) (∀W,Ah H W->Q (.bl AJ) W))
theorem Xj(T:BR AH Af AN):T.ji.Ok BI P w Af base 3 oU:=by
    show T.ji.ok λG _ _ _ _ _ y H vs Q E h=>?_;obtain⟨X,l,B,S,ps,xs,ss,Y,rfl,ep,pr,g,c,O,rw,dn,sd,hq,k⟩:_:=h;show⟨_,(Ag (Bi (Fw (FH (Bw (JR (K:=AH)) (by rfl) T.ao Gj #v[AB 1,(Ij (v:=.ty "list") (by rfl) T.jc Ki rfl)]))) (Ab (Aw Dh)) Bs) (Ag (BD 4 G IB) (Cc (EG EN rfl (DI (K:=AH) (AB 1)) (EF 5 G) (Ag (BD 6 G (Ax (Xn T) y #v[AB 0,AB 5])) (Cc (Bi (Gd (Fx (BK Zr (AB 6) IB (BF _)) (Fx (BK LD (Av AH (AB 6) AM) (AB 2) (BF _)) (JZ (Gd (Pn (BK Zs (AB 3) IB (BF _)) (Po (BK LA (Av AH (AB 6) AM) (AB 3) (BF _))))))))) (Ab (Aw Dh)) Bs) (Ag (Bi (Gd (Pn (BK Zs (AB 4) IB (BF _)) (Po (BK (mD y.rj) (AB 6) (AB 4) (BF _))))) (Ab (Aw Dh)) Bs) (Ab (BD 4 G (AB 6))))))) (Ab (Aw Dh))))),?_⟩;obtain⟨lx,i⟩:=Cf rw;show⟨_,"list",_,_,rfl,.lst O,rfl,_,rfl,Ce ?_⟩;showλ_ _ _ _ z1=>⟨l,rfl,⟨_,AX O⟩,HQ (K:=AH) (xs:=xs) (λn I L=>(ER λ(J:AE)(d f:Option AE)=>NM (I=[AA (.ref X),AA (.ref l),AA (.int B),AA (JM S),AA J,d,f]) (Ah H L) (((n=0/\J=.non)\/∃(m:Nat)(a:AD)(q:C1),n=m+1/\J=.ref a/\Y[m]?=AA q/\L a=AA (.tup ((Co q).map Au)))))) ⟨.non,AF,AF,rfl,CA _,.inl ⟨rfl,rfl⟩⟩ (λn I L _ hh=>by obtain⟨_,_,_,_,s,_⟩:=hh;show AX (s _ _ O)) (λn x I H2 hx R=>?_) λI H2 R=>?_⟩
    . obtain⟨J,d,f,rfl,s2,hv⟩:_:=R;have hn:=(BV.mp hx).1;have W:=Cr (show n<Y.length by(first|lia|omega));generalize Y[n]'(by(first|lia|omega))=q at W;lk;obtain⟨r,s,u,rfl,er⟩:=i n x q hx W;obtain⟨h1,h2,h3,h4⟩:=hq q (Ct W);obtain⟨s',A,ht⟩:=HM.mp h1;rw[u]at A;cases A;k_in;show⟨X,r,ps,ss,q,s,rfl,s2 _ _ ep,pr.ae s2.tp,g,c,u,ht,s2 _ _ er,h2,λp a s3 ha N=>?_⟩;have o:=Ar (K:=AH) N;have nx:∀{C:Prop},(J=.non->C)->((∃(m:Nat)(Z:AD)(D:C1),n=m+1/\J=.ref Z/\Y[m]?=AA D/\p Z=AA (.tup ((Co D).map Au))/\BN (Co D) (Co q)=AJ)->C)->C:=λc1 c2=>by
        rcases hv with⟨_,e⟩|⟨m,Z,D,t,e,M,U⟩;.show c1 e
        . show c2 ⟨m,Z,D,t,e,M,s3 _ _ U,?_⟩;have f0:(Y.map Co)[m]?=AA (Co D):=by rw[CD,M];rfl
          have f1:(Y.map Co)[n]?=AA (Co q):=by rw[CD,W];rfl
          obtain⟨l0,g0⟩:=BV.mp f0;obtain⟨l1,g1⟩:=BV.mp f1;have p1:=HV.mp sd m n l0 l1 (by(first|lia|omega));have p2:=HV.mp dn m n l0 l1 (by(first|lia|omega));rw[g0,g1]at p1 p2;cases b:BN (Co D) (Co q)with|true=>rfl|false=>show absurd (Pa b p1) p2
      showλ_ _ _ _ z2=>?_;have F:=z2 [AA (.ref X),AA (.ref l),AA (.int B),AA (JM S),AA J,AA (.ref r),AA (.ref a)] p (nx (λe=>by subst e;show⟨rfl,_,rfl,Ce (Ce ⟨_,_,_,rfl,s2.aa s3,.inr ⟨n,a,q,rfl,rfl,W,N⟩⟩)⟩) λ⟨m,Z,D,t,e,M,U,b⟩=>by subst e;show⟨rfl,_,rfl,Fd ⟨_,_,Co q,Co D,rfl,rfl,o,Ar U,rfl,_,rfl,?_⟩⟩;rw[b];show Ce ⟨_,_,_,rfl,s2.aa s3,.inr ⟨n,a,q,rfl,rfl,W,N⟩⟩);show⟨rfl,_,rfl,Ce ⟨_,_,o,Ap (j:=0) rfl,_,rfl,GU (λz=>absurd z (by(first|lia|omega))) λ_=>?_⟩⟩;cases S with |none=>show⟨rfl,_,rfl,Ce (Ce F)⟩|some n2=>have:=h4 n2 rfl;show⟨rfl,_,rfl,Fd ⟨_,_,o,Ap (j:=0) rfl,_,rfl,GU (λz=>absurd z (by(first|lia|omega))) λ_=>F⟩⟩
    . obtain⟨J,d,f,rfl,s2,_⟩:_:=R;show z1 _ _ (k _ s2)
def Od(ss:List AU)(H:AI)(x:AE)(q:C1):Prop:=∃(t a r:AD)(s:AU),ss[q.1]?=AA s/\x=.ref t/\H t=AA (.tup [.ref a,.ref r])/\H a=AA (.tup ((Co q).map Au))/\H r=AA (.tup ((Lh s q.2.1 q.2.2).map Au))
theorem Tq(t:By H H')(h:Od ss H x q):Od ss H' x q:=by obtain⟨p,a,r,s,D,e,J,U,W⟩:_:=h;show⟨p,a,r,s,D,e,t _ _ J,t _ _ U,t _ _ W⟩
def pB(F:CO):BG:=λL H Q _=>(J6 λ(G B:AD)(I:List AE)(J:List AU)(D:List (AL×AE))(C:Nat->Fo)(W:Nat->AG->List AZ)(E:Nat->List (AL×AE))(U:Option Int)=>Sw (L=[.ref G,.ref B,JM U]) (H G=AA (.lst I)) (D1 H I J) (H B=AA (.dK D)) (C3 J) (J.length<=8) (D.length<=8) (JF (Aj J) C D) (Cu F [] H J (Aj J) B D C W E) ((∀i∈Aj J,(E i).length<=600)) ((∀i∈Aj J,∀z,Dw (W i z)/\(W i z).length<=3000)) ((∀i∈Aj J,∀z,∀p∈W i z,C0 z/\p.1<p.2.1)) (∀Y r K A Z,C6 (λb=>∃i∈Aj J,b=(C i).d) H Y->Cu F [] Y J (Aj J) B D C (λi z=>F9 U (W i z)) Z->(∀i∈Aj J,(Z i).length<=(E i).length)->H r=AF->Y r=AA (.lst K)->BW (JG J Y) K A->(A.map Co).Nodup->CZ (A.map Co)->(∀q:C1,q∈A↔q.1∈Aj J/\q.2.2∈FY U (W q.1 q.2.1))->A.length<=14400000->Q (.ref r) Y))
theorem Xz(h:p∈FY now l):p∈l:=by cases now with|none=>show h|some n=>show(Dx.mp h).1
theorem Xm(T:BR AH Af AN):T.mj.Ok BI P w Af base 5 (pB AN):=by
    show T.mj.ok λnd _ _ _ _ _ hr H vs Q E h=>?_;obtain⟨lp,dg,ps,ss,gkvs,gd,gg,gk,now,rfl,ep,pr,eg,pok,lss,lkv,gks,gr,lgk,lgg,hgg,k⟩:_:=h;show⟨_,(Cc (BD 3 nd (Cy Eg)) (Cc (N4 (EG EN rfl (N3 (AB 1)) (EF 4 nd) (Ab (EG EN rfl (DI (K:=AH) (Hv (Cg hr.u1 (AB 1) (AB 4) (λ_ _=>rfl)) T.bh (Xh T) hr #v[AB 2])) (EF 5 nd) (Ab (FT (L7 AH (AB 3) #v[Cq #v[Ax (Xn T) hr #v[AB 0,AB 5],AB 5]]))))))) (Ab (Aw (HR (CU m9) [] trivial (DI (K:=AH) (Bw (iH hr) (by rfl) T.gy NC #v[AB 3])) (λ_ _ _ _=>Im) (λ_ _ _ _=>(Av AH (AB 0) AM))))))),?_⟩;have sz:Ay=16777216:=Dc;showλ_ _ _ _ z1=>⟨Bd _,λtl htl=>z1 _ _ ?_⟩;show BM (o:=.lst []) htl λH0 s0 et0=>?_;have gr0:=(gr.jm htl).ah s0;have eg0:=s0 _ _ eg;showλ_ _ _ _ z2=>⟨dg,(λo u z=>by rw[eg0]at z;cases z),dg,gkvs,rfl,.inl eg0,λo H1 ed1 ne1=>?_⟩;have ndt:tl≠dg:=λz=>by rw[z,eg]at htl;cases htl
    have c0:Je (Od ss) ss dg tl o gkvs gd gg gk now H1 0 H1 [] [] gk:=⟨ed1,λb o _ e=>e,gr0.qr (.inr ⟨o,ed1⟩) ne1,λi _=>Al _,by rw[ne1 _ ndt];show et0,.nil,.nil,λq=>⟨λh=>(by cases h),λh=>(by cases h.1)⟩,Bd _⟩;have kp:∀{b:AD}{ob:Bg}{H':AI},H b=AA ob->(∀kvs,ob≠.dK kvs)->C6 (Wn ss gd tl) H1 H'->H' b=AA ob:=λ{b ob H'}e n s=>by
      show s b ob (λz=>?_) (by rw[ne1 b λz=>by rw[z,eg]at e;show n _ (Bz e).symm];show s0 _ _ e);rcases z with z|⟨i,hi,z⟩;.rw[z,htl]at e;cases e
      . obtain⟨_,_,_,g⟩:=gr.jo i hi;have:=g.av.aq;rw[<-z,e]at this;show n _ (Bz this)
    show RZ (kvs:=gkvs) (λn σ H'=>(IT λ(o4 o5:Option AE)(acc:List AE)(qs:List C1)(gk':Nat->List (AL×AE))=>Qf (σ=[AA (.ref lp),AA (.ref dg),AA (JM now),AA (.ref tl),o4,o5]) (Je (Od ss) ss dg tl o gkvs gd gg gk now H1 n H' acc qs gk'))) ⟨AF,AF,[],[],gk,rfl,c0⟩ (λn σ H' _ hh=>by obtain⟨_,_,_,_,_,_,c⟩:=hh;show c.ed) ?_ ?_
    . intro n p σ H2 hp hI;lk;obtain⟨o4,o5,acc,qs,gk',rfl,c⟩:=hI;obtain⟨i,hi,rfl⟩:=gks.wm p (Ct hp);have hn:n<gkvs.length:=(BV.mp hp).1;obtain⟨st,dx,es,tok,hso,g,eo,new,ntd⟩:=c.jo pok gks hp hi;obtain⟨_,_,v,_⟩:=c.gr.jo i hi;k_in;have l1:=c.lk i hi;have l2:=lgk i hi;show⟨dg,.ref (gd i).x,rfl,by rw[<-v];show .inl ⟨gkvs,.inl (i:Int),.inr ⟨o,c.ed⟩,rfl,rfl⟩,?_⟩;show⟨(gd i).x,dx,_,rfl,eo,by rfl,[tl],(gd i).x,(gd i).p,(gd i).d,st,gg i,gk' i,now,rfl,g,(λc' hc=>by rw[Bt.mp hc];show⟨_,c.et⟩),tok,hso,Ak l1 (Ak l2 (by decide)),(λz=>Ak (lgg i hi z).2 (by decide)),λH3 r xs kss k3 ks s3 g3 hr3 er3 hw3 pm3 _ kn km l3 lke=>⟨r,rfl,⟨_,AX er3⟩,?_⟩⟩;lk;obtain⟨M,pM,rfl⟩:=UI pm3;obtain⟨st',es',ht⟩:=HM.mp hi;rw[es]at es';cases es';k_in;have et3:=s3 _ _ ntd c.et;have tp3:By H2 H3:=s3.tp g.av.aq (by intro xs z;cases z);have nld:lp≠(gd i).d:=λz=>by have:=kp (H':=H2) ep (by intro _ z;cases z) c.sm;rw[z,g.av.aq]at this;cases this
      have ep3:=s3 _ _ nld (kp ep (by intro _ z;cases z) c.sm);have pr3:D1 H3 ps ss:=(pr.ae (H':=H2) λb xs e=>kp e (by intro _ z;cases z) c.sm).ae tp3;have nlt:lp≠tl:=BE ep htl;have lM:M.length<=1800000:=by rw[pM.length_eq];have:=O4 (g:=λz=>FY now (gg i z)) (n:=3000) (λz=>Ak T3 (lgg i hi z).2) ks;(first|lia|omega)
      have lx:=hw3.dh;rw[BB]at lx;have lacc:=c.dh;have lq:=c.lq;have nrt:r≠tl:=λz=>by have:=c.et;rw[<-z,hr3]at this;cases this
      show HQ (K:=AH) (xs:=xs) (λj σ H'=>JQ (λ(o5:Option AE)(acc':List AE)=>σ=[AA (.ref lp),AA (.ref dg),AA (JM now),AA (.ref tl),AA (.int (i:Int)),o5]) (λ_ _=>Bk tl H3 H') (λ_ acc'=>H' tl=AA (.lst acc')) (λ_ acc'=>BW (Od ss H') acc' (qs++(M.take j).map λkp=>(i,kp.1,kp.2)))) ⟨o5,acc,rfl,λ_ _ _ e=>e,et3,by rw[SG,ACi,Ew];show Gf (λ_ _=>Tq tp3) c.pr⟩ (λj σ H' _ hh=>by obtain⟨_,_,_,s',_⟩:=hh;show AX (s' _ _ nrt er3)) ?_ ?_
      . intro j y σ H5 hy hI;lk;obtain⟨o5',acc',rfl,s5,et5,mk5⟩:=hI;obtain⟨a,row,rfl,er,ea⟩:=hw3.at hy;rw[CD]at er;obtain⟨kp',ekp,rfl⟩:=EI.mp er;k_in;have hk:=Li.mp (pM.mem_iff.mp (Ct ekp));have tp5:=s5.tp et3 (by intro xs z;cases z);have ea5:=tp5 _ _ ea;have l5:=(Cf mk5).1;rw[CI,BB,Ej]at l5;show⟨.inl ⟨rfl,_,AX et5⟩,lp,a,ps,ss,(i,kp'.1,kp'.2),st,rfl,s5 _ _ nlt ep3,pr3.ae tp5,pok,lss,es,ht,ea5,(hgg i hi kp'.1 _ (Xz hk.2)).2,λH6 q s6 hq eq=>⟨Ba rfl,λt ht=>?_⟩⟩;show BM ht λH7 s7 et=>?_;have s57:=s6.aa s7;have et7:=s57 _ _ et5;show⟨tl,acc',.ref t,rfl,rfl,et7,by(first|lia|omega),?_⟩;have tp:By H7 (AO H7 tl (.lst (acc'++[.ref t]))):=(HP H7).gu et7 λxs=>by intro z;cases z
        show⟨_,acc'++[.ref t],rfl,λb ob nb e=>by rw[AW nb];show s57 _ _ (s5 _ _ nb e),Ac,?_⟩;rw[Dy,ekp,DJ,<-Ei];show Eh (Gf (λ_ _=>Tq λb xs e=>tp _ _ (s57.tp _ _ e)) mk5) (.cons ⟨t,q,a,st,es,rfl,tp _ _ et,tp _ _ (s7 _ _ eq),tp _ _ (s57 _ _ ea5)⟩ .nil)
      . intro σ H5 hI;obtain⟨o5',acc',rfl,s5,et5,mk5⟩:_:=hI;rw[D7 (Bo lx.symm)]at mk5;show⟨_,_,acc',_,_,rfl,c.jx lgk lgg hp hi es new ntd s3 g3 pM kn km l3 lke s5 et5 mk5⟩
    . intro σ H2 hI;lk;obtain⟨o4,o5,acc,qs,gk',rfl,c⟩:=hI;obtain⟨et3,gr3,mk3,s3,mm,lq,fr⟩:=c.adu (H:=H) Tq lkv gks htl eg λb nb nt=>by rw[ne1 b nb];cases q:H b with|none=>show .inr rfl|some ob=>show .inl (s0 _ _ q)
      k_in;show⟨o,_,c.ed,z2 _ _ ?_⟩;have nd2:=c.nd;have lk2:=c.lk;clear c;generalize AO H2 dg (.dK gkvs)=H3 at et3 gr3 mk3 s3 fr⊢;show⟨tl,acc,qs.map Co,[AJ,AJ,AQ,AJ],rfl,AX et3,⟨nd2,G0 (by rw[BB];show(Cf mk3).1) λj x ks e1 e2=>?_⟩,λl qq hl pq sq=>?_⟩
      . rw[CD]at e2;lk;obtain⟨q,eq,rfl⟩:=EI.mp e2;obtain⟨t,a,r,s,_,e3,e4,e5,_⟩:=(Cf mk3).2 j x q e1 eq;k_in;have hm:=(mm q).mp (Ct eq);have ha:=(hgg q.1 hm.1 q.2.1 _ (Xz hm.2)).1.ok;show⟨⟨t,a,r,e3,Ar e4,Ar e5⟩,rfl,by simp[Co,Gy,Lz,ha]⟩
      obtain⟨R',p1,w1,e1⟩:_:=YT mk3 pq;have lr:=p1.length_eq;have lw:=(Cf w1).1;show BM hl λH4 s4 el=>⟨l,rfl,⟨_,AX el⟩,Ig (K:=AH) (xs:=qq.map (·.1)) (λn τ acc' H'=>(∃o,τ=[o])/\H'=H4/\BW (JG ss H4) acc' (R'.take n)) (by(first|lia|omega)) ⟨⟨_,rfl⟩,rfl,.nil⟩ (λn τ acc' H'⟨_,e,_⟩=>by rw[e];show AX el) ?_ ?_⟩
      . intro n y τ acc' H' R1 hy _ hI k1;obtain⟨⟨o',rfl⟩,rfl,w2⟩:_:=hI;have ey:=Cr (show n<R'.length by rw[<-lw];show(BV.mp hy).1);generalize R'[n]'_=q at ey;obtain⟨t,a,r,s,es,rfl,e4,e5,e6⟩:_:=(Cf w1).2 n _ _ hy ey;show⟨_,_,Ar (s4 _ _ e4),Ap (j:=1) rfl,k1 _ _ _ ⟨⟨_,rfl⟩,rfl,?_⟩⟩;rw[Dy,ey];show Eh w2 (.cons ⟨r,s,es,rfl,s4 _ _ e6⟩ .nil)
      . intro τ acc' H' _ hI D hD;obtain⟨_,rfl,w2⟩:_:=hI;rw[D7 (Bo lw.symm)]at w2;have s5:=CB (o:=.lst acc') hD;show k _ D acc' R' gk' (λb ob nb e=>s5 _ _ (s4 _ _ (s3 b ob nb e))) ((gr3.ah s4).ah s5) lk2 (fr _ (s4.au hD)) Ac (Me w2 s5.tp) ((p1.map Co).nodup_iff.mpr nd2) (by change ACS _ _;rw[e1];show sq) (λq=>by rw[p1.mem_iff,mm]) (by(first|lia|omega))
noncomputable def Ji(ss:List AU):List Nat:=(Eb ss.length).filter (Le ss)
theorem Tf:i∈Ji ss↔D3 ss i:=by show Dx.trans ⟨λh=>Te.mp h.2,λh=>⟨?_,Te.mpr h⟩⟩;obtain⟨_,_,_,_,e⟩:_:=h;show Vh.mpr (BV.mp e).1
theorem XU{ks:List AL}{l:List Nat}(U:ks.Perm (l.map λt:Nat=>.inl (t:Int)))(ps:ks.Pairwise λa b=>Dg b a=AQ)(V:l.Pairwise (.<.)):ks=l.map λt:Nat=>.inl (t:Int):=by
 have e:∀(a b:AL),BN [b] [a]=Dg b a:=λa b=>by
  change(if b=a then AQ else Dg b a)=_;by_cases q:b=a;.rw[AFi q,q,Rf]
  .rw[AFh q]
 have D:CZ (ks.map λk=>[k]):=GF.mpr (ps.imp λ{a b}h=>(e a b).trans h);have J:CZ ((l.map λt:Nat=>(C5 (t:Int):AL)).map λk=>[k]):=GF.mpr (GF.mpr (V.imp λ{a b:Nat}h=>(e (.inl (a:Int)) (.inl (b:Int))).trans (AFl (show¬(b:Int)<(a:Int)by(first|lia|omega)))));show Ti (Rz (U.map _) D J) λa _ b _ e=>(EH e).1
theorem XT(h:Jg ss ss.length U D){ks:List AL}(J:ks.Perm (D.map (·.1)))(ps:ks.Pairwise λa b=>Dg b a=AQ):ks.map Au=(Ji ss).map λt:Nat=>AE.int (t:Int):=by rw[h.acn]at J;have e:ks=(Ji ss).map λt:Nat=>.inl (t:Int):=XU J ps ((ACo.filter _));rw[e,C8];rfl
theorem XB(h:JF (Aj ss) U D){ks:List AL}(J:ks.Perm (D.map (·.1)))(ps:ks.Pairwise λa b=>Dg b a=AQ):ks.map Au=(Aj ss).map λt:Nat=>AE.int (t:Int):=by rw[h.acn]at J;have e:ks=(Aj ss).map λt:Nat=>.inl (t:Int):=XU J ps ((ACo.filter _));rw[e,C8];rfl
noncomputable def KH(L:List AR):List AR:=fW λM=>CZ (M.map HJ)/\M.Perm L
theorem qV(sd:CZ kss)(J:kss.Perm (L.map HJ)):kss=(KH L).map HJ/\(KH L).Perm L:=by obtain⟨M,D,rfl⟩:_:=UI J;have q:=WJ (p:=λM=>CZ (M.map HJ)/\M.Perm L) ⟨M,sd,D⟩;show⟨Rz ((D.trans q.2.symm).map HJ) sd q.1,q.2⟩
theorem YW(p:L.Perm D):KH L=KH D:=by unfold KH;congr 1;funext M;show propext ⟨λh=>⟨h.1,h.2.trans p⟩,λh=>⟨h.1,h.2.trans p.symm⟩⟩
def Yc(g:AG->List AZ)(M:List (AG×AZ)):Prop:=CZ (M.map Qu)/\(M.map Qu).Nodup/\∀m,m∈M↔m.2∈g m.1
noncomputable def Nd(g:AG->List AZ):List (AG×AZ):=fW (Yc g)
theorem Yb(W:∀z,Dw (g z))(B:ks.Pairwise λa b=>Dg (.inr b) (.inr a)=AQ)(A:ks.Nodup)(C:∀z,g z≠[]->z∈ks):EV g ks=Nd g/\∀m,m∈Nd g↔m.2∈g m.1:=by obtain⟨V,D⟩:=rN W B A;have J:∀m,m∈EV g ks↔m.2∈g m.1:=λm=>Li.trans ⟨λh=>h.2,λh=>⟨C _ (Vi h),h⟩⟩;have q:=WJ (p:=Yc g) ⟨_,V,D,J⟩;show⟨YH D q.2.1 V q.1 (λm=>(J m).trans (q.2.2 m).symm) λa Y b Z e=>?_,q.2.2⟩;have D:=(q.2.2 b).mp Z;have U:a.1=b.1:=Hl (EH e).1;rw[<-U]at D;show SO U (Ya (W a.1) ((J a).mp Y) D (JB (EH (EH e).2).1))
noncomputable def JJ(L:List AR):EO:=.list (((KH L).map HJ).map Ih)
noncomputable def Ld(sd:ET)(t:Nat):EO:=.list [JJ (sd t).1,JJ (sd t).2]
noncomputable def NT(D:GX)(t:Nat):EO:=.list ((Nd (D t)).map Q3)
noncomputable def Jl(ss:List AU)(D now:Int)(sd:ET)(J:GX):List EO:=([.int D,.int now]++(Ji ss).map (Ld sd))++(Aj ss).map (NT J)
theorem qW(Z:∀t,D3 ss t->(sd t).1.Perm (D t).1/\(sd t).2.Perm (D t).2)(z:∀t∈Aj ss,U t=gg' t):Jl ss J now sd U=Jl ss J now D gg':=by
 have W:(Ji ss).map (Ld sd)=(Ji ss).map (Ld D):=M6 λt V=>by obtain⟨a,b⟩:=Z t (Tf.mp V);unfold Ld JJ;rw[YW a,YW b]
 have Y:(Aj ss).map (NT U)=(Aj ss).map (NT gg'):=M6 λt V=>by unfold NT;rw[z t V]
 unfold Jl;rw[W,Y]
theorem Oo(h:Fp AH H x d):∀{xs:List AE}{D:List EO},EW AH H xs D->EW AH H (xs++[x]) (D++[d])|_,_,.nil=>.cons h .nil|_,_,.cons a b=>.cons a (Oo h b)
theorem TY:∀{xs:List AE}{D:List EO},EW AH H xs D->xs.length=D.length|_,_,.nil=>rfl|_,_,.cons _ b=>AFj (.+1) (TY b)
theorem Tg:∀{l:List EO},(∀d∈l,Gm d=AJ/\d.depth<=n)->IG l=AJ/\Iy l<=n|[],_=>⟨rfl,Bd _⟩|d::l,h=>by lk;obtain⟨a,b⟩:=Tg λx D=>h x (.tail _ D);obtain⟨c,e⟩:=h d (.head _);k_in;simp[IG,Iy,a,c];(first|lia|omega)
theorem XJ(x:U):∀{M:List U},CZ (M.map f)->∃J:List U,CZ (J.map f)/\J.Perm (x::M) |[],_=>⟨[x],bX _ _,.refl _⟩|y::M,h=>by obtain⟨V,Y⟩:=Gi.mp h;cases q:BN (f y) (f x)with
 |false=>
  show⟨x::y::M,Gi.mpr ⟨λk D=>?_,h⟩,.refl _⟩;rcases CJ.mp D with rfl|D;.show q
  .cases e:BN k (f x)with |false=>rfl|true=>
   rcases Gz.negTrans k (f y) (f x) e with z|z;.show absurd ((V k D).symm.trans z) (by decide)
   .show absurd (q.symm.trans z) (by decide)
 |true=>
  obtain⟨J,Z,W⟩:_:=XJ x Y;show⟨y::J,Gi.mpr ⟨λk D=>?_,Z⟩,(W.cons y).trans (.swap _ _ _)⟩;rcases CJ.mp (((W.map f).mem_iff).mp D)with rfl|D;.cases e:BN (f x) (f y)with|false=>rfl|true=> have:=Rk e q;rw[Mu]at this;cases this
  .show V k D
theorem T9(f:D->List AL):∀L:List D,∃M:List D,CZ (M.map f)/\M.Perm L|[]=>⟨[],.nil,.nil⟩|x::L=>by lk;obtain⟨M,U,V⟩:=T9 f L;obtain⟨J,W,Y⟩:=XJ x U;k_in;show⟨J,W,Y.trans (V.cons x)⟩
theorem YV(L:List AR):(KH L).Perm L:=(WJ (p:=λM:List AR=>CZ (M.map HJ)/\M.Perm L) (have⟨M,h⟩:=T9 HJ L;⟨M,h⟩)).2
theorem qX(E:∀t,D3 ss t->(∀i∈KH (sd t).1,C0 i.2.1)/\∀i∈KH (sd t).2,C0 i.2.1)(B:∀t∈Aj ss,∀m∈Nd (U t),C0 m.1):Hj (.list (Jl ss J now sd U))=AJ:=by
  have W:∀{L:List AR},(∀i∈KH L,C0 i.2.1)->(JJ L).canLay0=AJ/\(JJ L).depth<=9:=λ{L}h=>by obtain⟨a,b⟩:=Ux _ (jB h);show⟨by unfold JJ;simp only[Gm];show a,by unfold JJ;simp only[IH];(first|lia|omega)⟩
  have h:∀d∈Jl ss J now sd U,Gm d=AJ/\d.depth<=20:=λd D=>by
    rcases DN.mp D with D|D
    . rcases DN.mp D with D|D
      . simp only[CJ,M8,AFt]at D;rcases D with rfl|rfl<;>simp[Gm,IH]
      . obtain⟨t,V,rfl⟩:=BQ.mp D;obtain⟨z,A⟩:=E t (Tf.mp V);obtain⟨Y,G⟩:=W z;obtain⟨Z,H⟩:=W A;unfold Ld;simp[Gm,IH,IG,Iy,Y,Z];(first|lia|omega)
    . obtain⟨t,V,rfl⟩:=BQ.mp D;obtain⟨a,b⟩:=Tg (n:=9) (l:=(Nd (U t)).map Q3) λx F=>by obtain⟨m,C,rfl⟩:=BQ.mp F;have:=(B t V m C).ok;simp[Q3,IG,Gm,Iy,IH,this]
      unfold NT;simp[Gm,IH,a];(first|lia|omega)
  obtain⟨a,b⟩:=Tg h;simp[Hj,Gm,IH,a];(first|lia|omega)
theorem JI.wg(h:JI ex H d g kvs)(hu:∀z,Dw (g z)):∀m,m∈Nd g↔m.2∈g m.1:=by
  lk;obtain⟨M,h1,h2⟩:=T9 (λk:AL=>[k]) (kvs.map (·.1));obtain⟨ks,rfl⟩:∃ks:List AG,M=ks.map B9:=by
    have:∀k∈M,∃z:AG,k=.inr z:=λk hk=>by obtain⟨q,hq,rfl⟩:=BQ.mp (h2.mem_iff.mp hk);obtain⟨z,_,_,e,_⟩:=h.zj q hq;show⟨z,by rw[e]⟩
    clear h1 h2;induction M with |nil=>show⟨[],rfl⟩|cons k M ih=> obtain⟨ks,rfl⟩:=ih λk hk=>this k (.tail _ hk);obtain⟨z,rfl⟩:=this k (.head _);show⟨z::ks,rfl⟩
  k_in;have nd:=h2.nodup_iff.mpr h.nd;show(Yb (ks:=ks) hu ?_ ((GF.mp nd).imp λh e=>h (AFj _ e)) λz hz=>?_).2
  . rw[C8]at h1;show(GF.mp h1).imp_of_mem λ{a b}ha hb q=>?_;change(if(B9 b:AL)=B9 a then AQ else Dg (.inr b) (.inr a))=AQ at q;by_cases e:b=a;.rw[e,Rf]
    . rw[AFh λz=>e (Hl z)]at q;show q
  . obtain⟨z',hz',e⟩:_:=BQ.mp (h2.mem_iff.mpr (h.zp z hz));rw[<-Hl e];show hz'
def qF(B:CO):BG:=λE H Q _=>(J6 λ(U:List AU)(F:Ep)(C D Z J:Int)(Y:ET)(W:GX)(z:Er)=>Ee (E=[.ref F.x]) (D9 B H U F C D Z J Y W z) (U.length<=8) (MT U Y W z C0) (∀V r A,Ah H V->H r=AF->V r=AA (.lst A)->EW AH V A (Jl U J D Y W)->Hj (.list (Jl U J D Y W))=AJ->Q (.ref r) V))
theorem Q2(T:BR AH Af AN):T.oy.Ok BI P w Af base 3 (qF AN):=by
    show T.oy.ok λnd _ _ _ _ _ hr H vs Q E h=>?_;obtain⟨u,F,sl,S,cnt,X,sd,gg,gk,rfl,M,lss,l,k⟩:_:=h;show⟨_,(Cc (BD 1 nd (Cy #v[Bq (AB 0) rfl,Bq (Bq (AB 0) rfl) rfl])) (Cc (EG EN rfl (DI (K:=AH) (Bw (PL rfl) (by rfl) T.gy NC #v[Bq (AB 0) rfl])) (EF 2 nd) (Ab (FT (L7 AH (AB 1) #v[(HR (CU nE) [] trivial (DI (K:=AH) (Bq (Cg hr.u1 (Bq (AB 0) rfl) (AB 2) (λ_ _=>rfl)) rfl)) (λ_ _ _ _=>Im) (λ_ _ _ _=>(KD (AB 0) T.dq (Tw T) hr)))])))) (Cc (EG EN rfl (DI (K:=AH) (Bw (PL rfl) (by rfl) T.gy NC #v[Bq (AB 0) rfl])) (EF 2 nd) (Ab (FT (L7 AH (AB 1) #v[(KD (Cg hr.u1 (Bq (AB 0) rfl) (AB 2) (λ_ _=>rfl)) T.bh (Q1 T) hr)])))) (Ab (Aw (AB 1)))))),?_⟩;have sz:Ay=16777216:=Dc;lk;obtain⟨dx,eo⟩:=M.bz;obtain⟨dc,ec⟩:=M.gv;k_in;have lj:(Ji u).length<=8:=Ak (Ff _ _) (by rw[M5];show lss);have lt:(Aj u).length<=8:=Ak (Ff _ _) (by rw[M5];show lss);showλ_ _ _ _ z1=>⟨_,⟨eo,T.aj,T.ff,rfl⟩,_,⟨eo,T.aj,T.cw,rfl⟩,_,⟨ec,T.cj,T.dk,rfl⟩,Ba rfl,λW R=>z1 _ _ ?_⟩;show BM (o:=.lst [.int X,.int S]) R λH0 s0 et0=>?_;showλ_ _ _ _ z2=>⟨_,⟨s0 _ _ eo,T.aj,T.cx,rfl⟩,F.dj,F.nc,rfl,s0 _ _ M.gq,.inl λq l=>?_,λls ks hls pk ps=>?_⟩
    . obtain⟨i,_,_,e⟩:_:=M.yq.wm q l;show⟨_,by rw[e]⟩
    rw[XT M.yq pk ps];show BM hls λH1 s1 els=>?_;have et1:=s1 _ _ et0;have s01:=s0.aa s1;have nlt:ls≠W:=λy=>by rw[y,et0]at hls;cases hls
    have same:∀{A:AI},Bk W H1 A->Ah H A:=λs b o e=>s b o (BE e R) (s01 _ _ e);clear s0 s1 et0 pk ps;have b0:∀J,Bk W H1 J->EW AH J [.int X,.int S] ([Jz X,.int S]++((Ji u).take 0).map (Ld sd)):=λ_ _=>.cons (.int _) (.cons (.int _) .nil);show⟨ls,rfl,⟨_,AX els⟩,HQ (K:=AH) (xs:=(Ji u).map λt:Nat=>AE.int (t:Int)) (λn σ A=>JQ (λ(o2:Option AE)(U:List AE)=>σ=[AA (.ref F.x),AA (.ref W),o2]) (λ_ _=>Bk W H1 A) (λ_ U=>A W=AA (.lst U)) (λ_ U=>∀J,Bk W A J->EW AH J U ([Jz X,.int S]++((Ji u).take n).map (Ld sd)))) ⟨AF,_,rfl,λ_ _ _ e=>e,et1,b0⟩ (λn σ A _ hh=>by obtain⟨_,_,_,s,_⟩:=hh;show AX (s _ _ nlt els)) (λn x σ H2 hx N=>?_) λσ H2 N=>?_⟩
    . lk;obtain⟨o2,U,rfl,s2,C,d2⟩:=N;rw[CD]at hx;obtain⟨t,et,rfl⟩:=EI.mp hx;have O:D3 u t:=Tf.mp (Ct et);obtain⟨nn,a,b,wi,ej⟩:=id O;have B:=same s2;have f:=M.ah B;obtain⟨vj,jj⟩:=f.df.gw t nn a b wi ej;obtain⟨dxj,exj⟩:=jj.bz;k_in;have lsd:=l.sl t O;have Z:=TY (d2 H2 λ_ _ _ e=>e);rw[CI,BB,Ej]at Z;change U.length=2+_ at Z;show⟨.inl ⟨rfl,_,AX C⟩,_,⟨B _ _ eo,T.aj,T.cx,rfl⟩,F.dj,.ref (F.jd t).j,rfl,by rw[<-vj];show .inl ⟨F.nc,.inl (t:Int),.inl f.gq,rfl,rfl⟩,_,⟨exj,T.de,T.dw,rfl⟩,(F.jd t).sl,rfl,⟨_,AX jj.bu⟩,Ig (K:=AH) (xs:=[.ref (F.jd t).x0,.ref (F.jd t).x1]) (λm τ ac A=>(∃o,τ=[o])/\Ah H2 A/\∀J,Bk W A J->EW AH J ac (([JJ (sd t).1,JJ (sd t).2]:List EO).take m)) (Ba rfl) ⟨⟨AF,rfl⟩,CA _,λ_ _=>.nil⟩ (λm τ ac A⟨_,s',_⟩=>AX (s' _ _ jj.bu)) ?_ ?_⟩
      . intro m y τ ac H3 R1 hy _ N k1;lk;obtain⟨⟨o',rfl⟩,s3,d3⟩:=N;have jj3:=jj.ah s3;have G:=s3 _ _ C;obtain⟨x,d,L,rfl,sr,lL,eL⟩:∃(x d:AD)(L:List AR),y=.ref x/\DE AN [] H3 x d L/\L.length<=600/\([JJ (sd t).1,JJ (sd t).2]:List EO)[m]?=AA (JJ L):=by
          have hm:m<2:=(BV.mp hy).1;rcases cA.mp (EM hm)with rfl|rfl<;>cases hy;.show⟨_,_,_,rfl,jj3.s0,lsd.1,rfl⟩
          .show⟨_,_,_,rfl,jj3.s1,lsd.2,rfl⟩
        obtain⟨dxs,exs⟩:=sr.bz;k_in;show⟨x,dxs,_,rfl,exs,by rfl,[],x,d,L,rfl,sr,lL,λH4 r xs kss s4 hr4 er4 w4 sd4 pm4=>?_⟩;obtain⟨ek,_⟩:=qV sd4 pm4;have nr:r≠W:=BE G hr4|>.symm;show k1 _ _ _ ⟨⟨_,rfl⟩,s3.aa s4,λJ c=>?_⟩;rw[Dy,eL];show Oo ?_ (d3 J λb ob Y e=>c _ _ Y (s4 _ _ e));have:=CY.dv (K:=AH) (w4.ae (c.tp (s4 _ _ G) (by intro xs z;cases z))) (c _ _ nr er4);rw[ek]at this;show this
      . intro τ ac H3 la N D hD;obtain⟨_,s3,d3⟩:_:=N;have G:=s3 _ _ C;have nD:D≠W:=(BE G hD).symm;show BM hD λH4 s4 eD=>?_;show⟨W,U,.ref D,rfl,rfl,s4 _ _ G,by(first|lia|omega),_,U++[.ref D],rfl,λb o Y e=>by rw[AW Y];show s4 _ _ (s3 _ _ (s2 _ _ Y e)),Ac,λJ c=>?_⟩;have sx3:Bk W H3 J:=λb o Y e=>c _ _ Y (by rw[AW Y];show s4 _ _ e);rw[Dy,et,DJ,<-Ei];show Oo (.lst (AX (c _ _ nD (by rw[AW nD];show eD))) (d3 J sx3)) (d2 J λb o Y e=>sx3 _ _ Y (s3 _ _ e))
    . obtain⟨o2,U,rfl,s2,C,d2⟩:_:=N;rw[BB,SF]at d2;show z2 _ _ ?_;clear z1 z2 et1 els;have B:=same s2;have f:=M.ah B;showλ_ _ _ _ z3=>⟨_,⟨B _ _ eo,T.aj,T.bx,rfl⟩,F.dg,F.je,rfl,f.di,.inl λq l=>?_,λlg ks hlg pk ps=>?_⟩
      . obtain⟨i,_,e⟩:_:=M.xh.wm q l;show⟨_,by rw[e]⟩
      rw[XB M.xh pk ps];show BM hlg λH3 s3 elg=>?_;have nlg:lg≠W:=λy=>by rw[y,C]at hlg;cases hlg
      show⟨lg,rfl,⟨_,AX elg⟩,HQ (K:=AH) (xs:=(Aj u).map λt:Nat=>AE.int (t:Int)) (λn σ A=>JQ (λ(o2:Option AE)(U:List AE)=>σ=[AA (.ref F.x),AA (.ref W),o2]) (λ_ _=>Bk W H3 A) (λ_ U=>A W=AA (.lst U)) (λ_ U=>∀J,Bk W A J->EW AH J U (([Jz X,.int S]++(Ji u).map (Ld sd))++((Aj u).take n).map (NT gg)))) ⟨_,_,rfl,λ_ _ _ e=>e,s3 _ _ C,λJ c=>by rw[SG,ACi,Ew];show d2 J λb o Y e=>c _ _ Y (s3 _ _ e)⟩ (λn σ A _ hh=>by obtain⟨_,_,_,s,_⟩:=hh;show AX (s _ _ nlg elg)) (λn x σ H4 hx N=>?_) λσ H4 N=>?_⟩
      . lk;obtain⟨o2,U,rfl,s4,I,d4⟩:=N;rw[CD]at hx;obtain⟨t,et,rfl⟩:=EI.mp hx;have O:=Ct et;have sm4:Ah H H4:=λb o e=>s4 _ _ (BE e R) (s3 _ _ (B _ _ e));have fb4:=M.ah sm4;obtain⟨st,es,v,g⟩:=fb4.bc.jo t O;obtain⟨dxg,exg⟩:=g.bz;obtain⟨lg1,lg2⟩:=l.gl t O;k_in;have Z:=TY (d4 H4 λ_ _ _ e=>e);rw[CI,CI,BB,BB,Ej]at Z;show⟨.inl ⟨rfl,_,AX I⟩,_,⟨sm4 _ _ eo,T.aj,T.bx,rfl⟩,F.dg,.ref (F.gd t).x,rfl,by rw[<-v];show .inl ⟨F.je,.inl (t:Int),.inl fb4.di,rfl,rfl⟩,(F.gd t).x,dxg,_,rfl,exg,by rfl,[],(F.gd t).x,(F.gd t).p,(F.gd t).d,st,gg t,gk t,rfl,g,lg1,(λz=>(lg2 z).2),λH5 r ys ks s5 hr5 er5 pk5 ps5 kn5 km5 lk5=>?_⟩;obtain⟨ew,_⟩:=Yb (λz=>(lg2 z).1) ps5 kn5 km5;have nr:r≠W:=(BE I hr5).symm;have et5:=s5 _ _ I;show⟨W,U,.ref r,rfl,rfl,et5,by change U.length=2+_+_ at Z;(first|lia|omega),_,U++[.ref r],rfl,λb o Y e=>by rw[AW Y];show s5 _ _ (s4 _ _ Y e),Ac,λJ c=>?_⟩;have sx5:Bk W H5 J:=λb o Y e=>c _ _ Y (by rw[AW Y];show e);rw[Dy,et,DJ,<-Ei];rw[ew]at pk5;show Oo (.lst (AX (sx5 _ _ nr er5)) (mL (mM pk5 (sx5.tp et5 (by intro xs z;cases z))))) (d4 J λb o Y e=>sx5 _ _ Y (s5 _ _ e))
      . obtain⟨o2,U,rfl,s4,I,d4⟩:_:=N;rw[BB,SF]at d4;show z3 _ _ (k _ W U (λb o e=>s4 _ _ (BE e R) (s3 _ _ (B _ _ e))) R I (d4 _ λ_ _ _ e=>e) (qX (λt O=>?_) λt O m hm=>?_))
        . obtain⟨h1,h2⟩:=l.sp t O;show⟨λi hi=>h1 i ((YV _).mem_iff.mp hi),λi hi=>h2 i ((YV _).mem_iff.mp hi)⟩
        . obtain⟨_,_,_,g⟩:_:=M.bc.jo t O;show l.gp t O m.1 (Vi ((g.av.wg (λz=>((l.gl t O).2 z).1) m).mp hm))
theorem TZ(f:D->J)(l:List D):(l.filter λ_=>AQ).map f=[]:=by rw[MC.mpr λ_ _ h=>by cases h];rfl
def qQ(C:CO):BG:=λG H Q _=>(J6 λ(J:List AU)(F:Ep)(E D U W:Int)(Y:ET)(V:GX)(A:Er)=>Jc (G=[.ref F.x,.int D]) (D9 C H J F E D U W Y V A) (J.length<=8) (MT J Y V A C0) ((∀(t:Nat)n a b B,J[t]?=AA (.join n a b B)->∀m i,i∈Ox m (Y t)->D-B<=i.1)) ((∀t∈Aj J,∀z,∀p∈V t z,D<p.2.1)) (∀Z,Ah H Z->Q (.bl AJ) Z))
theorem mB(T:BR AH Af AN):T.jh.Ok BI P w Af base 3 (qQ AN):=by
    show T.jh.ok λnd _ _ _ _ _ hr H vs Q E h=>?_;obtain⟨ss,F,sl,O,cnt,num,sd,gg,gk,rfl,A,lss,hq,hj,hg,k⟩:_:=h;show⟨_,(Cc (N4 (EG EN rfl (N3 (Bq (AB 0) rfl)) (EF 2 nd) (Ab (EG EN rfl (DI (K:=AH) (Bq (Cg hr.u1 (Bq (AB 0) rfl) (AB 2) (λ_ _=>rfl)) rfl)) (EF 3 nd) (Ab (Bi (BK LA (Bw (FE (K:=AH)) (by rfl) T.eh FJ #v[(HR (CU YF) [("_law_now",1),("_law_place",2),("_law_flow",0)] ⟨rfl,rfl,rfl,rfl,rfl,rfl,trivial⟩ (DI (K:=AH) (KD (AB 3) T.dq (Tw T) hr)) (λ_ _ _ _=>HS (BK Mv (Av AH (AB 0) AM) (AY Fv (AB 1) (Rr (K:=AH) (Cg hr.u1 (Rr (K:=AH) (AB 3) rfl) (AB 2) (λ_ _=>rfl)) rfl)) (BF _))) (λ_ _ _ _=>(AB 0)))]) AM (BF _)) (Ab (Aw Dh)) Bs)))))) (Ag (N4 (EG EN rfl (N3 (Bq (AB 0) rfl)) (EF 2 nd) (Ab (Bi (BK LA (Bw (FE (K:=AH)) (by rfl) T.eh FJ #v[(HR (CU YF) [("_law_now",1)] ⟨rfl,rfl,trivial⟩ (DI (K:=AH) (KD (Cg hr.u1 (Bq (AB 0) rfl) (AB 2) (λ_ _=>rfl)) T.bh (Q1 T) hr)) (λ_ _ _ _=>HS (BK LD (Av AH (AB 0) AM) (AB 1) (BF _))) (λ_ _ _ _=>(AB 0)))]) AM (BF _)) (Ab (Aw Dh)) Bs)))) (Ab (Aw Dh)))),?_⟩;have sz:Ay=16777216:=Dc;obtain⟨dx,I⟩:=A.bz;showλ_ _ _ _ z1=>⟨F.dj,(λo u z=>by rw[A.gq]at z;cases z),_,⟨I,T.aj,T.cx,rfl⟩,F.dj,F.nc,rfl,.inl A.gq,λo H1 Z B=>?_⟩;have jr1:=A.df.qr (.inr ⟨o,Z⟩) B;have M:H1 F.x=AA (.ins AN.ax dx (KA F num)):=by rw[B _ λz=>by rw[z,A.gq]at I;cases I];show I
    show RZ (λn J U=>Lu (λ(f S:Option AE)=>J=[AA (.ref F.x),AA (.int O),f,S]) (λ_ _=>Ah H1 U)) ⟨AF,AF,rfl,CA _⟩ (λn J U _ hh=>by obtain⟨_,_,_,s'⟩:=hh;show s' _ _ Z) ?_ ?_
    . intro n q J H2 hn Y;lk;obtain⟨f,S,rfl,s2⟩:=Y;obtain⟨t,_,e,rfl⟩:=A.yq.wm q (Ct hn);obtain⟨nn,a,b,wi,et⟩:=id e;have jr2:=jr1.ah s2;obtain⟨vj,jj⟩:=jr2.gw t nn a b wi et;obtain⟨dj2,l⟩:=jj.bz;k_in;have gd2:∀{U:AI},Ah H2 U->Ga U F.dj (.int (t:Int)) (AA (.ref (F.jd t).j)):=λs=>by rw[<-vj];show .inl ⟨F.nc,.inl (t:Int),(jr2.ah s).aq,rfl,rfl⟩
      show⟨_,⟨s2 _ _ M,T.aj,T.cx,rfl⟩,F.dj,.ref (F.jd t).j,rfl,gd2 (CA _),_,⟨l,T.de,T.dw,rfl⟩,(F.jd t).sl,rfl,⟨_,AX jj.bu⟩,HQ (K:=AH) (xs:=[.ref (F.jd t).x0,.ref (F.jd t).x1]) (λm J U=>Ft (λ(S:Option AE)=>J=[AA (.ref F.x),AA (.int O),AA (.int (t:Int)),S]) (λ_=>Ah H2 U)) ⟨S,rfl,CA _⟩ (λm J U _ hh=>by obtain⟨_,_,s'⟩:=hh;show AX (s' _ _ jj.bu)) ?_ ?_⟩
      . intro m y J H3 hy Y;lk;obtain⟨o3',rfl,s3⟩:=Y;have jj3:=jj.ah s3;have hm:m<2:=(BV.mp hy).1;obtain⟨x,d,ey,sr⟩:=gT (L:=sd t) jj3 hm;rw[hy]at ey;cases ey;obtain⟨dxs,exs⟩:=sr.bz;k_in;have lS:(Ox m (sd t)).length<=600:=by
          have:=hq.sl t e;unfold Ox;split;.show this.1
          .show this.2
        show⟨x,dxs,_,rfl,exs,by rfl,[],x,d,_,rfl,sr,lS,λH4 r xs kss s4 hr4 er4 w4 sd4 pm4=>⟨r,rfl,⟨_,AX er4⟩,Ue (K:=AH) (xs:=xs) (λ_=>AQ) (λx=>x) (AX er4) ?_ (λv R hv rr=>?_) (λv R hv h=>by cases h) λD hD=>?_⟩⟩
        . have l4:=w4.dh;have l5:=pm4.length_eq;rw[BB]at l5;(first|lia|omega)
        . lk;obtain⟨j,ej⟩:=M7.mp hv;obtain⟨a',ks,rfl,ek,ea⟩:=w4.at ej;obtain⟨i,hi,rfl⟩:=BQ.mp (pm4.mem_iff.mp (Ct ek));k_in;have c:=s3.aa s4;have hle:=hj t nn a b wi et m i hi;show⟨_,_,Ar ea,Ap (j:=1) rfl,_,⟨c _ _ (s2 _ _ M),T.aj,T.cx,rfl⟩,F.dj,.ref (F.jd t).j,rfl,gd2 c,_,⟨c _ _ l,T.de,T.da,rfl⟩,_,rfl,?_⟩;rw[AFl (by(first|lia|omega))];show rr
        . rw[TZ];show BM hD λH5 C eD=>⟨_,.inl (AX eD),_,rfl,Ce ⟨_,rfl,s3.aa (s4.aa C)⟩⟩
      . intro J H3 Y;obtain⟨o3',rfl,s3⟩:_:=Y;show⟨_,_,rfl,s2.aa s3⟩
    . intro J H2 Y;obtain⟨f,S,rfl,s2⟩:_:=Y;show⟨o,_,s2 _ _ Z,z1 _ _ ?_⟩;have s3:=Qv A.gq B s2;generalize AO H2 F.dj (.dK F.nc)=H3 at s3⊢;clear B jr1 M s2 Z;have W:=A.ah s3;show⟨F.dg,(λo u z=>by rw[W.di]at z;cases z),_,⟨s3 _ _ I,T.aj,T.bx,rfl⟩,F.dg,F.je,rfl,.inl W.di,λo H4 G N=>?_⟩;have gr4:=W.bc.qr (.inr ⟨o,G⟩) N;have ex4:H4 F.x=AA (.ins AN.ax dx (KA F num)):=by rw[N _ λz=>by have:=W.di;rw[<-z,s3 _ _ I]at this;cases this];show s3 _ _ I
      show RZ (λn J U=>Ft (λ(f:Option AE)=>J=[AA (.ref F.x),AA (.int O),f,S]) (λ_=>Ah H4 U)) ⟨f,rfl,CA _⟩ (λn J U _ hh=>by obtain⟨_,_,s'⟩:=hh;show s' _ _ G) ?_ ?_
      . intro n q J H5 hn Y;lk;obtain⟨o2',rfl,C⟩:=Y;obtain⟨t,e,rfl⟩:=A.xh.wm q (Ct hn);have gr5:=gr4.ah C;obtain⟨st,es,vt,g⟩:=gr5.jo t e;obtain⟨dxg,exg⟩:=g.bz;obtain⟨lg1,lg2⟩:=hq.gl t e;k_in;show⟨_,⟨C _ _ ex4,T.aj,T.bx,rfl⟩,F.dg,.ref (F.gd t).x,rfl,by rw[<-vt];show .inl ⟨F.je,.inl (t:Int),gr5.aq,rfl,rfl⟩,(F.gd t).x,dxg,_,rfl,exg,by rfl,[],(F.gd t).x,(F.gd t).p,(F.gd t).d,st,gg t,gk t,rfl,g,lg1,(λz=>(lg2 z).2),λH6 r ys ks s6 hr6 er6 X _ _ _ lk6=>⟨r,rfl,⟨_,AX er6⟩,Ue (K:=AH) (xs:=ys) (λ_=>AQ) (λx=>x) (AX er6) ?_ (λv R hv rr=>?_) (λv R hv h=>by cases h) λD hD=>?_⟩⟩
        . have lx6:=(Cf X).1;have lw6:=O4 (g:=gg t) (n:=3000) (λz=>(lg2 z).2) ks;(first|lia|omega)
        . obtain⟨j,ej⟩:=M7.mp hv;have hj:j<(EV (gg t) ks).length:=by rw[<-(Cf X).1];show(BV.mp ej).1
          have em:=Cr hj;have mm:=AAJ hj;generalize(EV (gg t) ks)[j]=m at em mm;obtain⟨a',q',rfl,ea',_⟩:_:=(Cf X).2 j _ _ ej em;show⟨_,_,Ar ea',Ap (j:=2) rfl,_,rfl,?_⟩;have hlt:=hg t e _ _ (Li.mp mm).2;rw[AFl (by(first|lia|omega))];show rr
        . rw[TZ];show BM hD λH7 s7 eD=>⟨_,.inl (AX eD),_,rfl,Ce ⟨_,rfl,C.aa (s6.aa s7)⟩⟩
      . intro J H5 Y;obtain⟨o2',rfl,C⟩:_:=Y;show⟨o,_,C _ _ G,k _ (s3.aa (Qv W.di N C))⟩
section
variable{w:Bu}{s:AU}
unseal D6 in theorem mT{X:Be}{st:Cj}{t:Cw}(h:D6 X st t):D6 X st (λD σ H=>∃a,(∀o u,H a≠AA (.frz o u))/\t {D with rt:=λv H'=>∃o u,H' a=AA (.frz o u)/\D.rt v (AO H' a u)} σ H):=by intro pins s σ H D I⟨a,V,w⟩;have W:=λo u z=>V o u (I.ag.ng _ _ _ z);show A1 (h _ s σ H _ I w) λf s' q=>?_;cases f with|next=>show q|brk=>show q|cont=>show q|ret u=>obtain⟨x,J,H',U,r,o,Y,e,q⟩:_:=q;show⟨x,J,_,U.adp e W,r,q⟩
end
theorem rP:∀st:AU,Ae (AE.str st.gj=AE.str "join")=Ae (st.no=4)|.take ..=>(by decide+kernel:decide (AE.str "take"=AE.str "join")=false)|.only ..=>(by decide+kernel:decide (AE.str "only"=AE.str "join")=false)|.turn ..=>(by decide+kernel:decide (AE.str "turn"=AE.str "join")=false)|.both ..=>(by decide+kernel:decide (AE.str "both"=AE.str "join")=false)|.join ..=>(by decide+kernel:decide (AE.str "join"=AE.str "join")=true)|.gap ..=>(by decide+kernel:decide (AE.str "gap"=AE.str "join")=false)|.each ..=>(by decide+kernel:decide (AE.str "each"=AE.str "join")=false)
theorem Ye{xs:List AE}:((Kc (Eb xs.length) xs).filter λq=>p q.1).map (λq=>AE.int (q.1:Int))=(((Eb xs.length).filter p).map λi:Nat=>(i:Int)).map AE.int:=by
 have D:Eb xs.length=(Kc (Eb xs.length) xs).map cM:=(AAL (by rw[M5];show Al _)).symm;rw[C8];conv=>rhs;rw[D]
 rw[OB,C8];rfl
def oG(z:CO):BG:=λG H Q _=>(Qh λ(E Y W:AD)(F:List AE)(U:List AU)(J D:List (AL×AE))(C:Nat->ES)(A:Nat->Fo)(B:Er)=>Sw (G=[.ref E,.ref Y,.ref W]) (H E=AA (.lst F)) (D1 H F U) (U.length<=8) (H Y=AA (.dK J)) (Jg U U.length C J) (Cv z [] H U Y J C (λ_=>([],[]))) (H W=AA (.dK D)) (JF (Aj U) A D) (D.length<=8) (Cu z [] H U (Aj U) W D A (λ_ _=>[]) B) ((∀t∈Aj U,(B t).length<=600)) (∀Z,Ah H Z->Q (.bl AJ) Z))
theorem Xi(T:BR AH Af AN):T.oo.Ok BI P w Af base 3 (oG AN):=by
    show T.oo.ok λnd _ _ _ _ _ S H vs Q E h=>?_;obtain⟨lp,c,dg,ps,ss,W,U,jd,gd,gk,rfl,ep,pr,lss,ej,jks,jr,eg,gks,lkv,gr,lgk,k⟩:_:=h;show⟨_,(Cc (Bi (BK (LF (K:=AH) S.kz) (Bw (PL rfl) (by rfl) T.gy NC #v[AB 1]) (VE (osc:=CU Q8) [] rfl (Mx (K:=AH) (by rfl) T.fo (AB 0)) rfl rfl (by decide+kernel) (by decide+kernel) (by decide+kernel) trivial rfl rfl (by decide+kernel) (λ_ _ _ _=>HS (BK Cp (Av AH (AB 1) AM) BZ (BF _))) (λ_ _ _ _=>(AB 0))) (BF _)) (Ab (Aw Dh)) Bs) (Cc (Bi (BK (LF (K:=AH) S.kz) (Bw (PL rfl) (by rfl) T.gy NC #v[AB 2]) (VE (osc:=CU Q8) [] rfl (Mx (K:=AH) (by rfl) T.fo (AB 0)) rfl rfl (by decide+kernel) (by decide+kernel) (by decide+kernel) trivial rfl rfl (by decide+kernel) (λ_ _ _ _=>HS (BK (Pf (K:=AH)) (Av AH (AB 1) AM) (Cq #v[BZ,BZ]) (by with_unfolding_all rfl))) (λ_ _ _ _=>(AB 0))) (BF _)) (Ab (Aw Dh)) Bs) (Cc (N4 (EG EN rfl (N3 (AB 1)) (EF 3 nd) (Ab (Bi (Gd (Fx (BK L6 (Bq (Cg S.u1 (AB 1) (AB 3) (λ_ _=>rfl)) rfl) (Av AH (Dj AH (AB 0) (AB 3)) AM) (BF _)) (JZ (BK (LF (K:=AH) S.kz) (HR (CU Q8) [] trivial (DI (K:=AH) (Bq (Cg S.u1 (AB 1) (AB 3) (λ_ _=>rfl)) rfl)) (λ_ _ _ _=>Im) (λ_ _ _ _=>(KD (AB 0) T.dq (Tw T) S))) (Cy #v[Cy Eg,Cy Eg]) (BF _))))) (Ab (Aw Dh)) Bs)))) (Ab (mT (Aw (Ik Cp (Bw (FE (K:=AH)) (by rfl) T.eh FJ #v[(HR (CU Q8) [("_law_groups",2)] ⟨rfl,rfl,trivial⟩ (N3 (AB 2)) (λ_ _ _ _=>HS (BK (VB (K:=AH) S.rj) (KD (Cg S.u1 (AB 1) (AB 0) (λ_ _=>rfl)) T.bh (Q1 T) S) (Cy Eg) (BF _))) (λ_ _ _ _=>(AB 0)))]) AM (BF _)))))))),?_⟩;have sz:Ay=16777216:=Dc;have lps:=pr.dh;have enum:∀{p:Nat->Bool}{H1:AI},Ah H H1->True:=λ_=>trivial;showλ_ _ _ _ z1=>⟨c,W,rfl,ej,.inl λq hq=>?_,λls ks hls pk F=>?_⟩
    . obtain⟨i,_,_,e⟩:_:=jks.wm q hq;show⟨_,by rw[e]⟩
    rw[XT jks pk F];show BM hls λH1 s1 els=>?_;show⟨lp,rfl,⟨_,AX (s1 _ _ ep)⟩,RW (K:=AH) (xs:=ps) (λj _=>Le ss j) (λj _=>.int (j:Int)) (by(first|lia|omega)) (λJ s2=>AX (s2 _ _ (s1 _ _ ep))) (λi x p o1 o2 J R _ _ e q=>⟨p,_,rfl,Ar e,rfl,_,_,rfl,_,_,rfl,rfl,q⟩) (λi x J R hx s2 qq=>?_) (λi x J R hx _ s2 q=>q _ (CA _)) λJ s2 D O=>?_⟩
    . lk;obtain⟨a,st,rfl,Y,ea⟩:=pr.at hx;obtain⟨w1,w2,w3⟩:=(show DF J a st from s2 _ _ (s1 _ _ ea)).gj;k_in;have q1:=qq J (CA _);unfold Le at q1;rw[Y]at q1;show⟨_,_,w1,w2,rfl,_,rfl,?_⟩;rw[rP];show q1
    rw[Ye,lps];show BM O λH3 s3 L=>N0 (.lst (AX (s3 _ _ (s2 _ _ els))) ?_) (.lst (AX L) (PV _)) (aN _) ⟨_,rfl,Ce (z1 _ _ ?_)⟩
    . have:=PV (K:=AH) (H:=H3) (((Eb ss.length).filter (Le ss)).map λi:Nat=>(i:Int));rw[C8]at this;show this
    have s13:=s1.aa (s2.aa s3);clear s1 s2 s3 els L hls O pk F z1 enum;showλ_ _ _ _ z2=>⟨dg,U,rfl,s13 _ _ eg,.inl λq hq=>?_,λlg kg hlg pk F=>?_⟩;. obtain⟨i,_,e⟩:_:=gks.wm q hq;show⟨_,by rw[e]⟩
    rw[XB gks pk F];show BM hlg λH4 s4 elg=>?_;have G:=s13.aa s4;show⟨lp,rfl,⟨_,AX (G _ _ ep)⟩,RW (K:=AH) (xs:=ps) (λj _=>KI ss j) (λj _=>.int (j:Int)) (by(first|lia|omega)) (λJ s2=>AX (s2 _ _ (G _ _ ep))) (λi x p o1 o2 J R _ _ e q=>⟨p,_,rfl,Ar e,rfl,_,_,rfl,_,_,rfl,rfl,q⟩) (λi x J R hx s2 qq=>?_) (λi x J R hx _ s2 q=>q _ (CA _)) λH5 s5 D O=>?_⟩
    . lk;obtain⟨a,st,rfl,Y,ea⟩:=pr.at hx;obtain⟨w1,w2,w3⟩:=(show DF J a st from s2 _ _ (G _ _ ea)).gj;k_in;show⟨_,_,w1,w2,Ba rfl,λtt htt=>⟨tt,HH,rfl,.inr (Ar Ac),rfl,rfl,_,rfl,?_⟩⟩;have q1:=qq _ (CB (o:=.tup HH) htt);unfold KI at q1;rw[Y]at q1;change R (EY (.str st.gj) HH) _;rw[Nf];show q1
    rw[Ye,lps];show BM O λH6 s6 L=>N0 (.lst (AX (s6 _ _ (s5 _ _ elg))) ?_) (.lst (AX L) (PV _)) (aN _) ⟨_,rfl,Ce (z2 _ _ ?_)⟩
    . have:=PV (K:=AH) (H:=H6) (((Eb ss.length).filter (KI ss)).map λi:Nat=>(i:Int));rw[C8]at this;show this
    have Z:=G.aa (s5.aa s6);clear s4 s5 s6 elg L hlg O pk F z2 s13 G;have N:=Z _ _ ej;have jr6:=jr.ah Z;showλ_ _ _ _ z3=>⟨c,(λo u z=>by rw[N]at z;cases z),c,W,rfl,.inl N,λo H7 M C=>?_⟩;have jr7:=jr6.qr (.inr ⟨o,M⟩) C;have ep7:H7 lp=AA (.lst ps):=by rw[C _ λz=>by rw[z,ej]at ep;cases ep];show Z _ _ ep
    have pr7:D1 H7 ps ss:=pr.ae λb xs e=>by rw[C _ λz=>by rw[z,ej]at e;cases e];show Z _ _ e
    show RZ (λn σ A=>Ft (λ(o3:Option AE)=>σ=[AA (.ref lp),AA (.ref c),AA (.ref dg),o3]) (λ_=>Ah H7 A)) ⟨AF,rfl,CA _⟩ (λn σ A _ hh=>by obtain⟨_,_,s'⟩:=hh;show s' _ _ M) ?_ ?_
    . intro n q σ J hn B;lk;obtain⟨o3,rfl,s2⟩:=B;obtain⟨t,_,ht,rfl⟩:=jks.wm q (Ct hn);obtain⟨nn,a,b,wi,et⟩:=ht;have jr2:=jr7.ah s2;obtain⟨vj,jj⟩:=jr2.gw t nn a b wi et;obtain⟨dj2,ej2⟩:=jj.bz;have gd2:∀{A:AI},Ah J A->Ga A c (.int (t:Int)) (AA (.ref (jd t).j)):=λs=>by rw[<-vj];show .inl ⟨W,.inl (t:Int),(jr2.ah s).aq,rfl,rfl⟩
      have hps:ps[t]?=AA (ps[t]'(by rw[lps];show(BV.mp et).1)):=Cr _;obtain⟨pa,st,epa,Y,ea⟩:=pr7.at hps;rw[et]at Y;cases Y;k_in;rw[epa]at hps;show⟨c,.ref (jd t).j,rfl,gd2 (CA _),_,⟨ej2,T.de,T.da,rfl⟩,_,_,AX (s2 _ _ ep7),Ap hps,_,_,Ar (s2 _ _ ea),Ap (j:=4) rfl,rfl,_,rfl,Lx (C7 (λ_=>?_) λz=>absurd rfl z)⟩;show⟨c,.ref (jd t).j,rfl,gd2 (CA _),_,⟨ej2,T.de,T.dw,rfl⟩,(jd t).sl,rfl,⟨_,AX jj.bu⟩,Ig (K:=AH) (xs:=[.ref (jd t).x0,.ref (jd t).x1]) (λm X ac A=>(∃o,X=[o])/\Ah J A/\∀f,Ah A f->EW AH f ac (([.list [],.list []]:List EO).take m)) (Ba rfl) ⟨⟨AF,rfl⟩,CA _,λ_ _=>.nil⟩ (λm X ac A⟨_,s',_⟩=>AX (s' _ _ jj.bu)) ?_ ?_⟩
      . intro m y X ac H3 R1 hy _ B k1;lk;obtain⟨⟨o',rfl⟩,s3,d3⟩:=B;have jj3:=jj.ah s3;have hm:m<2:=(BV.mp hy).1;obtain⟨x,d,rfl,sr⟩:∃(x d:AD),y=.ref x/\DE AN [] H3 x d []:=by
          rcases cA.mp (EM hm)with rfl|rfl<;>cases hy;.show⟨_,_,rfl,jj3.s0⟩
          .show⟨_,_,rfl,jj3.s1⟩
        obtain⟨dxs,exs⟩:=sr.bz;k_in;show⟨x,dxs,_,rfl,exs,by rfl,[],x,d,[],rfl,sr,Bd _,λH4 r xs kss s4 hr4 er4 w4 sd4 pm4=>?_⟩;have e0:kss=[]:=SE.mp pm4;subst e0;cases w4;show k1 _ _ _ ⟨⟨_,rfl⟩,s3.aa s4,λf sx=>?_⟩;have e1:(([.list [],.list []]:List EO).take (m+1))=([.list [],.list []]:List EO).take m++[.list []]:=by rcases cA.mp (EM hm)with rfl|rfl<;>rfl
        rw[e1];show Oo (.lst (AX (sx _ _ er4)) .nil) (d3 _ (s4.aa sx))
      . intro X ac H3 la B D O;obtain⟨_,s3,d3⟩:_:=B;show BM O λH4 s4 L=>?_;show⟨Bd _,λl1 hl1=>?_⟩;show BM hl1 λH5 s5 el1=>⟨Bd _,λl2 hl2=>?_⟩;show BM hl2 λH6 s6 el2=>⟨Ba rfl,λl3 hl3=>?_⟩;show BM hl3 λH7 s7 el3=>?_;have s47:=s5.aa (s6.aa s7);show N0 (d:=.list [.list [],.list []]) (.lst (AX (s47 _ _ L)) (d3 _ (s4.aa s47))) (.lst (AX el3) (.cons (.lst (AX (s7 _ _ (s6 _ _ el1))) .nil) (.cons (.lst (AX (s7 _ _ el2)) .nil) .nil))) rfl ⟨_,rfl,Ce ⟨_,rfl,s2.aa (s3.aa (s4.aa s47))⟩⟩
    . intro σ J B;obtain⟨o3,rfl,s2⟩:_:=B;show⟨o,_,s2 _ _ M,z3 _ _ ?_⟩;have s8:=Z.aa (Qv N C s2);generalize AO J c (.dK W)=H8 at s8⊢;clear C jr7 ep7 pr7 s2 M Z N jr6;have v:=s8 _ _ eg;have gr8:=gr.ah s8;show⟨dg,(λo u z=>by rw[v]at z;cases z),dg,U,rfl,.inl v,λo H9 l ne9=>?_⟩;have gr9:=gr8.qr (.inr ⟨o,l⟩) ne9;show Y7 (n0:=1) (kvs:=U) (λn X I A=>(∃o,X=[o,AA (.ref dg)])/\I=[]/\Ah H9 A) (by(first|lia|omega)) ⟨⟨_,rfl⟩,rfl,CA _⟩ (λn X I A⟨_,_,s'⟩=>s' _ _ l) ?_ ?_
      . intro n q X I J R1 R0 hn _ B k1 k0;lk;obtain⟨⟨o',rfl⟩,rfl,s2⟩:=B;obtain⟨t,ht,rfl⟩:=gks.wm q (Ct hn);have gr2:=gr9.ah s2;obtain⟨st,es,vt,g⟩:=gr2.jo t ht;obtain⟨dxg,exg⟩:=g.bz;k_in;show⟨dg,.ref (gd t).x,rfl,by rw[<-vt];show .inl ⟨U,.inl (t:Int),gr2.aq,rfl,rfl⟩,(gd t).x,dxg,_,rfl,exg,by rfl,[],(gd t).x,(gd t).p,(gd t).d,st,_,gk t,rfl,g,lgk t ht,(λz=>Bd _),λH3 r ys ks s3 hr3 er3 pk3 _ _ _ lk3=>⟨Bd _,λl4 hl4=>?_⟩⟩;have e0:EV (λ_=>[]) ks=[]:=bO.mpr λm hm=>by cases(Li.mp hm).2
        rw[e0]at pk3;cases pk3;show BM hl4 λH4 s4 el4=>⟨r,l4,[],rfl,rfl,AX (s4 _ _ er3),AX el4,_,rfl,Ce (k0 _ _ ⟨⟨_,rfl⟩,rfl,s2.aa (s3.aa s4)⟩)⟩
      . intro X I J _ B D O;obtain⟨_,rfl,s2⟩:_:=B;show BM O λH3 s3 L=>⟨_,.inl (AX L),rfl,?_⟩;show⟨o,_,s3 _ _ (s2 _ _ l),?_⟩;show k _ (s8.aa (Qv v ne9 (s2.aa s3)))
def Wc(v:AE):Prop:=v=.non\/(∃b,v=.bl b)\/∃z,v=.str z
noncomputable def rM:AE->Bool|.int _=>AJ|_=>AQ
def qS:BG:=λD H Q _=>∃v,D=[v]/\(Wc v\/∃i:Int,v=.int i)/\Q (.bl (rM v)) H
theorem mC(T:BR AH Af AN):T.ju.Ok BI P w Af base 1 qS:=by
 show T.ju.ok λU _ _ _ _ _ J H V Q E h=>?_;obtain⟨v,rfl,D,k⟩:_:=h;show⟨_,(Ab (Aw (JU (Bw (JR (K:=AH)) (by rfl) T.ao Gj #v[AB 0,(Ij (v:=.ty "int") (by rfl) T.ym Vv rfl)]) (KW (Ru (Bw (JR (K:=AH)) (by rfl) T.ao Gj #v[AB 0,(Ij (v:=.ty "bool") (by rfl) T.xf cO rfl)])))))),?_⟩;rcases D with(rfl|⟨b,rfl⟩|⟨z,rfl⟩)|⟨i,rfl⟩;.show⟨_,"int",_,_,rfl,.non,rfl,_,rfl,Ce k⟩
 .show⟨_,"int",_,_,rfl,.bl b,rfl,_,rfl,Fd ⟨_,"bool",_,_,rfl,.bl b,rfl,_,rfl,k⟩⟩
 .show⟨_,"int",_,_,rfl,.str z,rfl,_,rfl,Ce k⟩
 .show⟨_,"int",_,_,rfl,.int i,rfl,_,rfl,Fd ⟨_,"bool",_,_,rfl,.int i,rfl,_,rfl,k⟩⟩
def Oe(a b:Int)(v:AE):Prop:=Wc v\/∃i:Int,v=.int i/\(i<a\/b<i)
def nW:BG:=λD H Q _=>(ER λ(v:AE)(a b:Int)=>NM (D=[v,.int a,.int b]) (Oe a b v) (Q (.bl AQ) H))
theorem kB(T:BR AH Af AN):T.jt.Ok BI P w Af base 2 nW:=by
    show T.jt.ok λV _ _ _ _ _ J H W Q E h=>?_;obtain⟨v,a,b,rfl,D,k⟩:_:=h;show⟨_,(Ab (Aw (JU (Ax (mC T) J #v[AB 0]) (KW (Zw LD LD (AB 1) (AB 0) (AB 2)))))),?_⟩;rcases D with D|⟨i,rfl,U⟩;. show⟨v,rfl,.inl D,_,rfl,?_⟩;rcases D with rfl|⟨b,rfl⟩|⟨z,rfl⟩<;>show Ce k
    . show⟨_,rfl,.inr ⟨i,rfl⟩,_,rfl,Fd ⟨_,rfl,GU (λe=>?_) λe=>?_⟩⟩
      . change Q (.bl (Ae (i<=b))) H;rw[AFl (by(first|lia|omega))];show k
      .show k
def n6(D:CO):BG:=λU H _ E=>(ER λ(x J:AD)(v:AE)=>IQ (U=[.ref x,v]) (H x=AA (.ins D.bb J [])) (Oe 0 1000000000 v) (E (.ref D.ba) AF H))
theorem kI(T:BR AH Af AN):T.fq.Ok (Gu P w) P w Af base 3 (n6 AN):=by show T.fq.adx (λ_ _ _ _ h=>by obtain⟨x,U,v,rfl,_⟩:=h;rfl) λY _ _ _ _ _ V H Z Q E h=>?_;lk;obtain⟨x,U,v,rfl,e,W,k⟩:=h;obtain⟨J,D⟩:=T.qo;k_in;show⟨_,(Ag (Bi (Fw (FH (Ax (kB T) V #v[AB 1,AM,(JW (v:=.int 1000000000) (by rfl) D ⟨J,rfl⟩)]))) (Ab (xA T.zm (JW (v:=.ref AN.ba) (by rfl) T.ui rfl) BZ)) Bs) (Ag Md (Ag Md (Ab Md)))),?_⟩;show⟨v,0,1000000000,rfl,W,_,rfl,Fd k⟩
def oM(J:CO):BG:=λZ H _ E=>(IT λ(x W U:AD)(Y:List AE)(v:AE)=>Ee (Z=[.ref x,.ref U,v]) (H x=AA (.ins J.ax W [])) (H U=AA (.lst Y)) (Oe 0 1000000000 v) (∀D,Bk x H D->E (.ref J.ba) AF D))
theorem kR(T:BR AH Af AN):T.gh.Ok (Gu P w) P w Af base 6 (oM AN):=by show T.gh.adx (λ_ _ _ _ h=>by obtain⟨x,U,W,Y,v,rfl,_⟩:=h;rfl) λO _ _ _ _ _ G H R Q E h=>?_;obtain⟨x,U,W,Y,v,rfl,A,D,I,k⟩:_:=h;show⟨_,(Ag (GP (AB 0) (JV (Mq (K:=AH)) (by rfl) T.jc Ki #v[AB 1]) rfl) (Ag (GP (AB 0) (Mb (kI T) G T.yd (wJ (E:=E) (λ_ _ _ z=>z)) #v[AB 2]) rfl) (Ag Md (Ag Md (Ab Md))))),?_⟩;show⟨W,Y,rfl,.inl (AX D),λl F=>?_⟩;show BM F λM V N=>?_;show⟨x,_,U,[],rfl,V _ _ A,T.aj,T.ir,by decide,?_⟩;showλc Z B J C=>⟨c,Z,v,rfl,Ac,I,k _ λb o L e=>((CA _).vh J).vh B _ _ (by rw[AW L];show V _ _ e)⟩
def pV:BG:=λW H Q _=>(ER λ(J:AD)(U:List AE)(v:AE)=>IQ (W=[.ref J,v]) (H J=AA (.lst U)) (Oe 0 1000000000 v) (∀D,Ah H D->Q (.bl AJ) D))
theorem lR(T:BR AH Af AN):T.ku.Ok BI P w Af base 8 pV:=by show T.ku.ok λZ _ _ _ _ _ G H X Q E h=>?_;obtain⟨L,N,v,rfl,U,I,k⟩:_:=h;show⟨_,(Ag (xC (i:=2) rfl rfl rfl rfl (mJ (kR T) G T.uj #v[AB 0,AB 1]) (by rfl) T.wt Z rfl rfl (.inl rfl) (λ_=>(Ag (BD 3 Z (Cy #v[(Bw (Mp (K:=AH)) (by rfl) T.ao Gj #v[AB 2,(JW (v:=.ref AN.qc) (by rfl) T.yc rfl)]),(Bw (Mp (K:=AH)) (by rfl) T.ao Gj #v[AB 2,(JW (v:=.ref AN.qy) (by rfl) T.yt rfl)]),(Bw (Mp (K:=AH)) (by rfl) T.ao Gj #v[AB 2,(JW (v:=.ref AN.qz) (by rfl) T.yu rfl)]),(Bw (Mp (K:=AH)) (by rfl) T.ao Gj #v[AB 2,(JW (v:=.ref AN.rb) (by rfl) T.yw rfl)])])) (Ab (Aw (JU (Bw (Mp (K:=AH)) (by rfl) T.ao Gj #v[AB 2,(JW (v:=.ref AN.ba) (by rfl) T.ui rfl)]) (JU (Bw (Mp (K:=AH)) (by rfl) T.ao Gj #v[AB 2,(Ij (v:=.ty "ValueError") (by rfl) T.xc (by decide+kernel:bootBuiltins "ValueError"=some (.type "ValueError")) rfl)]) (JU (Ik (VC (K:=AH)) Dh (AB 3) (by with_unfolding_all rfl)) (KW (Ru (Bw (Mp (K:=AH)) (by rfl) T.ao Gj #v[AB 2,(JW (v:=.ref AN.um) (by rfl) T.aaj rfl)]))))))))))) (Ab (Aw Dh))),?_⟩;showλy V Y W F=>?_;have M:=BE U Y;have s1:Ah H (AO (AO H V (.own y)) y (.ins AN.ax V [])):=((CA H).vh W).vh Y;show⟨y,V,L,N,v,rfl,Ac,s1 _ _ U,I,λz O=>⟨T.mw,λe B=>?_⟩⟩;have s2:Ah H z:=λb o e=>O _ _ (BE e Y) (s1 _ _ e);show BM B λR s3 J=>?_;show⟨e,_,_,_,_,_,rfl,rfl,J,T.fi,T.ni,e,_,_,_,_,_,rfl,rfl,J,T.fi,T.qe,e,_,_,_,_,_,rfl,rfl,J,T.fi,T.qf,e,_,_,_,_,_,rfl,rfl,J,T.fi,T.qg,Ba rfl,λl C=>?_⟩;show BM C λS s4 A=>?_;have D:=s4 _ _ J;show⟨e,_,_,_,_,_,rfl,rfl,D,T.fi,T.nj,_,rfl,Fd ⟨e,_,_,_,_,_,rfl,rfl,D,T.fi,T.md,_,rfl,Fd ⟨l,_,rfl,.inl (AX A),rfl,rfl,_,rfl,Fd ⟨e,_,_,_,_,_,rfl,rfl,D,T.fi,T.qu,_,rfl,k _ (s2.aa (s3.aa s4))⟩⟩⟩⟩
def qB(K:Aq):BG:=λU H Q _=>JQ (λ(a:AD)(D:List Int)=>U=[.ref a]) (λa D=>Bx K H a (D.map AE.int)) (λ_ D=>D.length<=63) (λ_ _=>∀(c:Int)J,Ah H J->0<=c->c<=1000000000->Q (.int c) J)
theorem lV(T:BR AH Af AN):T.ox.Ok BI P w Af base 3 (qB AH):=by
    have D:=Kv (P:=P) (w:=w) (base:=base) T;show T.ox.ok λF _ _ _ _ _ W H I Q E h=>?_;obtain⟨a,Y,rfl,U,V,k⟩:_:=h;show⟨_,(Ag (Bi (BK Cp (AY CC (AY C4 (Ax D W #v[AB 0,AM]) AM) AM) AM (BF _)) (Ab (Aw (AY CC (AY C4 (Ax D W #v[AB 0,AM]) AM) AM))) Bs) (Ag (Bi (BK Cp (AY CC (AY C4 (Ax D W #v[AB 0,AM]) AM) AM) AM (BF _)) (Ab (Aw AM)) Bs) (Ab (Aw (AY Fe (AY CC (Ax D W #v[AB 0,AM]) AM) (Ax (T1 T) W #v[AB 0])))))),?_⟩;show⟨a,Y,_,rfl,U,by decide,V,λC=>⟨(zzd rfl),(zzp rfl),rfl,_,rfl,C7 (λ_=>?_) λ_=>?_⟩⟩;.show⟨a,Y,_,rfl,U,by decide,V,λA=>⟨(zzd rfl),(zzp rfl),k _ _ (CA _) (Gp _ (by decide)) (gM (IP _ (by decide)))⟩⟩
    . show⟨a,Y,_,rfl,U,by decide,V,λA=>⟨(zzd rfl),(zzp rfl),rfl,_,rfl,C7 (λ_=>?_) λ_=>?_⟩⟩;.show k _ _ (CA _) (by decide) (by decide)
      . show⟨a,Y,_,rfl,U,by decide,V,λZ=>⟨(zzp rfl),a,Y,rfl,U,V,λG B s J=>⟨by rcases J with rfl|rfl<;>show .inr ⟨by simp,by simp⟩,?_⟩⟩⟩;have z:0<=Z%20/\Z%20<20:=⟨Gp _ (by decide),IP _ (by decide)⟩;show k _ _ s (by rcases J with rfl|rfl<;>(first|lia|omega)) (by rcases J with rfl|rfl<;>(first|lia|omega))
theorem NQ:∀{l:List V}{i:Nat}{x:V},(l.filter p)[i]?=AA x->∃j,l[j]?=AA x/\p x=AJ/\((l.take j).filter p).length=i |[],_,_,h=>by cases h|y::l,i,x,h=>by cases q:p y with
 |true=> rw[LM q]at h;cases i with |zero=>cases h;show⟨0,rfl,q,rfl⟩|succ i=> obtain⟨j,D,J,U⟩:_:=NQ h;show⟨j+1,D,J,by rw[b7,LM q,M3,U]⟩
 |false=> rw[MB (by rw[q];decide)]at h;obtain⟨j,D,J,U⟩:_:=NQ h;show⟨j+1,D,J,by rw[b7,MB (by rw[q];decide),U]⟩
theorem W2:∀{l:List D}{j:Nat}{x:D},l[j]?=AA x->p x=AJ->(l.filter p)[((l.take j).filter p).length]?=AA x
 |[],_,_,h,_=>by cases h|y::l,0,x,h,q=>by cases h;rw[LM q];rfl|y::l,j+1,x,h,q=>by have J:=W2 (l:=l) (j:=j) h q;cases e:p y with
  |true=> rw[LM e,b7,LM e];show J|false=>
   have n:¬p y=AJ:=by rw[e];decide
   rw[MB n,b7,MB n];show J
theorem C3.aed(h:C3 ss):C3 (ss.filter λs=>!s.bj):=by
 show⟨λi F s U e D q=>?_,λi s a e B=>?_,λs C=>h.ok s (Dx.mp C).1⟩
 . lk;obtain⟨j,V,_,Y⟩:=NQ e;obtain⟨J,W,_,Z⟩:=NQ D;k_in;have:=h.cu j J s U V W q;subst this;show Y.symm.trans Z
 . lk;obtain⟨j,V,E,Y⟩:=NQ e;obtain⟨J,U,l,D,A,z⟩:=h.ph j s a V B;k_in;show⟨((ss.take J).filter λs=>!s.bj).length,U,?_,W2 D (by rw[z];rfl),A,z⟩;rw[<-Y,<-OE (J+1) (ss.take j),Gg,CI,List.take_take,Vm l,Dy,D,Gg];change _<(_++[U].filter _).length+_;rw[LM (by rw[z];rfl),CI];change _<_+1+_;(first|lia|omega)
def nX(K:Aq):BG:=λZ H Q _=>(ER λ(a:AD)(W:List Int)(U:Nat)=>Ee (Z=[.ref a,.int (U:Int)]) (Bx K H a (W.map AE.int)) (W.length<=63) (U<=20) (∀l J Y D z,Ah H J->H l=AF->J l=AA (.lst Y)->D1 J Y D->C3 D->D.length<=8->(∀s∈D,∀t∈s.yj,C0 t)->(∀(i:Nat)s,D[i]?=AA s->s.bj=AQ->z s.nm=FX s z U/\z s.nm<=600)->Q (.ref l) J))
theorem kC(T:BR AH Af AN):T.js.Ok BI P w Af base 4 (nX AH):=by
    show T.js.ok λnd _ _ _ _ _ S H vs Q E h=>?_;obtain⟨a,d,mo,rfl,t,N,R,k⟩:_:=h;show⟨_,(Ag (BD 2 nd (Ax (lN T) S #v[AB 0,AB 1])) (Ag (Bi (BK Cp (AY CC (AY C4 (Ax (Kv T) S #v[AB 0,AM]) AM) AM) AM (BF _)) (Ab (Aw (HR (CU m8) [] trivial (DI (K:=AH) (AB 2)) (λ_ _ _ _=>HS (BK (VC (K:=AH)) (Av AH (AB 0) AM) (Cq #v[BZ,BZ]) (by with_unfolding_all rfl))) (λ_ _ _ _=>(AB 0))))) Bs) (Ag (Bi (BK Cp (AY CC (AY C4 (Ax (Kv T) S #v[AB 0,AM]) AM) AM) AM (BF _)) (Ab (Aw (Cy Eg))) Bs) (Ab (Aw (AB 2)))))),?_⟩;have sz:Ay=16777216:=Dc;show⟨a,d,mo,rfl,t,N,R,λu l v y z s1 O V f A Z C B=>?_⟩;have Y:=s1.vd t;have c:=f.dh;show⟨a,d,_,rfl,Y,by decide,N,λc0=>⟨(zzd rfl),(zzp rfl),rfl,_,rfl,C7 (λ_=>?_) λ_=>?_⟩⟩
    . show⟨u,rfl,⟨_,AX V⟩,Mr (K:=AH) (n0:=1) (xs:=v) (λn G J I=>(∃o,G=[o])/\Ah l I/\D1 I J ((y.take n).filter λs=>!s.bj)) (by(first|lia|omega)) ⟨⟨_,rfl⟩,CA _,.nil⟩ (λn G J I⟨_,s,_⟩=>AX (s _ _ V)) ?_ ?_⟩
      . intro n x G J F R1 R0 hx _ M k1 k0;lk;obtain⟨⟨o,rfl⟩,s2,U⟩:=M;obtain⟨b,g,rfl,L,m⟩:=f.at hx;obtain⟨w1,w2,w3⟩:=(show DF F b g from s2 _ _ m).gj;k_in;have r:=NR (p:=λs:AU=>!s.bj) L;show⟨_,_,w1,w2,Ba rfl,λtt X=>⟨tt,HH,rfl,.inr (Ar Ac),rfl,rfl,_,rfl,?_⟩⟩;change if(!EY (.str g.gj) HH)=AJ then _ else _;rw[Nf];have s3:Ah F (AO F tt (.tup HH)):=CB X;cases q:g.bj with|true=>show k0 _ _ ⟨⟨_,rfl⟩,s2.aa s3,by rw[r,AFh (by rw[q];decide),Ew];show U.ae s3.tp⟩|false=>show k1 _ _ _ ⟨⟨_,rfl⟩,s2.aa s3,by rw[r,AFi (by rw[q];rfl)];show(U.ae s3.tp).yi (s3 _ _ (s2 _ _ m))⟩
      . intro G J F la M D W;obtain⟨_,s2,U⟩:_:=M;rw[c,SF]at U;have s3:=CB (o:=.lst J) W;show k D _ J _ z (s1.aa (s2.aa s3)) (s1.au (s2.au W)) Ac (U.ae s3.tp) A.aed (Ak (Ff _ _) Z) (λs hs=>C s (Dx.mp hs).1) λi s e ht=>by obtain⟨j,h1,_⟩:_:=NQ e;show B j s h1 ht
    . show⟨a,d,_,rfl,Y,by decide,N,λc1=>⟨(zzd rfl),(zzp rfl),rfl,_,rfl,C7 (λ_=>?_) λ_=>?_⟩⟩;. show⟨Bd _,λD W=>?_⟩;have s3:=CB (o:=.lst []) W;show k D _ [] [] z (s1.aa s3) (s1.au W) Ac .nil ⟨λi i' s s' e=>(by cases e),λi s a e=>(by cases e),λs h=>(by cases h)⟩ (Bd _) (λs h=>(by cases h)) λi s e=>(by cases e)
      .show k u l v y z s1 O V f A Z C B
def Of(ss:List AU)(now:Int)(L D bt:AG->List AR)(i:Nat):Prop:=∃s,ss[i]?=AA s/\s.ig/\(D s.fd).Perm (L s.fd++bt s.nm)/\(D s.fd).length<=600/\(∀x∈D s.fd,0<=x.1/\x.1<=1000000000)/\(∀x∈bt s.nm,now<=x.1)/\FN (D4 ss bt ss.length) i=bt s.nm
theorem mF{L V:AG->List AR}{sd:Nat->List AR×List AR}(D:C3 ss)(G:∀(i:Nat)s,ss[i]?=AA s->s.bj=AQ->L s.nm=Ef s L evs/\V s.nm=Ef s V (evs++[e])/\(V s.nm).length<=600)(H:∀(i:Nat)n a b wi,ss[i]?=AA (.join n a b wi)->(sd i).1.Perm (Br (now-wi) (L a))/\(sd i).2.Perm (Br (now-wi) (L b)))(hw:now<=C)(I:C<=e.1)(R:∀(i:Nat)s,ss[i]?=AA s->s.bj=AQ->∀x∈V s.nm,0<=x.1/\x.1<=1000000000)(W:∀(i:Nat)s,ss[i]?=AA s->GH s bt (sd i) e)(hi:i∈Aj ss):Of ss C L V bt i:=by
 lk;obtain⟨s,J,A⟩:=HM.mp hi;obtain⟨Q,_,O⟩:=D.ig J A;obtain⟨B,E,l,Y,Z,F⟩:=D.ph i s s.fd J (by rw[O];show .head _);k_in;have U:i<ss.length:=(BV.mp J).1;have K:=Oh D (Eo hw I) G H W ss.length B E (MG l U) Y F;have M:bt s.nm=bt s.fd:=by have:=W i s J;cases s with |gap n a P m=>show this|each n a P z d=>show this|_=>cases A
 rw[Z]at K;show⟨s,J,Q,by rw[M];show K,by rw[<-Z];show(G B E Y F).2.2,by rw[<-Z];show R B E Y F,D.adi hw I H (n:=ss.length) (λi s _ N=>W i s N) ss.length (Al _) i s U J,?_⟩;rw[UG J A,AFi U]
structure NO(ss:List AU)(dg:AD)(gkvs:List (AL×AE))(gd:Nat->Fo)(L bt:AG->List AR)(now:Int)(H1:AI)(n:Nat)(H':AI)(gk':Nat->List (AL×AE)):Prop where
 sm:C6 (λb=>∃i∈Aj ss,b=(gd i).d) H1 H'
 gr:Cu AN [] H' ss (Aj ss) dg gkvs gd (Jk ss now λi=>L (FL ss i)++FN ((D4 ss bt ss.length).take n) i) gk'
 lg:∀i∈Aj ss,(gk' i).length<=(L (FL ss i)).length+(FN ((D4 ss bt ss.length).take n) i).length
theorem NO.aci(A:Cu AN [] Y ss (Aj ss) Z D z (DS ss now L) gk)(V:∀i∈Aj ss,(gk i).length<=(L (FL ss i)).length)(W:∀i∈Aj ss,Of ss now L B bt i):NO ss Z D z L bt now Y 0 Y gk:=by show⟨λb o _ e=>e,A.vc λi U=>?_,λi U=>by rw[SG];show V i U⟩;obtain⟨s,J,_⟩:_:=W i U;rw[HK J,JP J,F6 J,SG];change F8 s now (L s.fd++[])=_;rw[Ew]
theorem NO.aex(c:NO ss Y D Z L bt now U n W A)(J:Cu AN [] U ss (Aj ss) Y D Z (DS ss now L) gk)(e:U b=AA (.tup xs)):W b=AA (.tup xs):=c.sm b _ (λ⟨i,B,z⟩=>by obtain⟨_,_,_,g⟩:=J.jo i B;have:=g.av.aq;rw[<-z,e]at this;cases this) e
theorem NO.at(c:NO ss f U D L bt now N n A Y)(B:Cu AN [] N ss (Aj ss) f U D (DS ss now L) gk)(E:∀i∈Aj ss,Of ss now L L' bt i)(its:Hq N xs (D4 ss bt ss.length))(hy:xs[n]?=AA y):∃(a K:AD)(i:Nat)(s:AU)(it:AR)(O:AD)(g:AG->List AZ),y=.ref a/\A a=AA (.tup [.int (i:Int),.ref K])/\A K=AA (.tup ((ED it).map Au))/\Bv U (.inl (i:Int))=AA (.ref (D i).x)/\Dp AN [] A (D i).x (D i).p (D i).d s g (Y i)/\A (D i).x=AA (.ins AN.aw O [("step",.ref (D i).p),("rows",.ref (D i).d)])/\s.ig/\s.gd (g it.2.1)/\(0<=it.1/\it.1<=1000000000)/\(g it.2.1).length<=5000/\(Y i).length<=10000/\∀G k3,Bk (D i).d A G->Dp AN [] G (D i).x (D i).p (D i).d s (IW g it.2.1 (s.ny it.1 it.2.2 (g it.2.1))) k3->k3.length<=(Y i).length+1->NO ss f U D L bt now N (n+1) G (λk=>if k=i then k3 else Y k):=by
  lk;obtain⟨a,K,pl,it,rfl,H,r,Q⟩:=its.at hy;obtain⟨i,s,W,w,P,I⟩:=UH (Ct H);k_in;have P:pl=(i:Int):=P;subst P;have C:i∈Aj ss:=HM.mpr ⟨s,W,w⟩;lk;obtain⟨s',J,M,X,l6,F,T,ib⟩:=E i C;rw[W]at J;cases J;obtain⟨s',J,v,g⟩:=c.gr.jo i C;rw[W]at J;cases J;rw[HK W,F6 W]at g;have Z:=XS (D4 ss bt ss.length) n i;rw[ib]at Z;have S:∀x∈L s.fd++FN ((D4 ss bt ss.length).take n) i,0<=x.1/\x.1<=1000000000:=λx I=>F x (X.mem_iff.mpr ((DN.mp I).elim (λh=>HU _ h) λh=>Ea _ (Z.mem h)));have ll:=X.length_eq;rw[CI]at ll;have sl:=Z.length_le;have lg:=c.lg i C;rw[F6 W]at lg;obtain⟨O,t⟩:=g.bz;k_in;have u:=Q9 (z:=it.2.1) (now:=now) M S;rw[CI]at u;show⟨a,K,i,s,it,O,_,rfl,c.aex B r,c.aex B Q,v,g,t,M,Oz M,F it (X.mem_iff.mpr (Ea _ I)),by(first|lia|omega),by(first|lia|omega),λG k3 s3 l l3=>?_⟩;rw[YQ M (T it I)]at l;show⟨λb o m e=>s3 _ _ (λz=>m ⟨i,C,z⟩) (c.sm b o m e),(c.gr.jx C W s3 l).vc λk R=>?_,λk R=>?_⟩
  . by_cases q:k=i;. subst q;rw[AFi rfl,HK W,F6 W,NU H,AFi rfl,Ei]
    . rw[AFh q];obtain⟨sk,j,_⟩:_:=E k R;rw[HK j,HK j,NU H,AFh (by change¬(i:Int)=(k:Int);(first|lia|omega)),Ew]
  . have:=c.lg k R;rw[NU H,CI];by_cases q:k=i
    . subst q;rw[AFi rfl,AFi rfl];change k3.length<=_+(_+1);(first|lia|omega)
    . rw[AFh q];(first|lia|omega)
theorem NO.adu(c:NO ss F U G L bt now H (D4 ss bt ss.length).length E J)(V:∀i∈Aj ss,Of ss now L z bt i):Cu AN [] E ss (Aj ss) F U G (DS ss now z) J/\∀i∈Aj ss,(J i).length<=(z (FL ss i)).length:=by
 have A:=c.gr;have B:=c.lg;rw[SF]at A B;show⟨A.vc λi W=>?_,λi W=>?_⟩;. obtain⟨s,D,C,Z,_,_,_,Y⟩:_:=V i W;rw[JP D,HK D,F6 D,Y];show YO C Z
 . obtain⟨s,D,C,Z,_,_,_,Y⟩:_:=V i W;have:=B i W;rw[Y,F6 D]at this;rw[F6 D,Z.length_eq,CI];show this
noncomputable def EU(now D J Z:Int)(W U Y:AD):List (AL×AE):=[(.inr "now",.int now),(.inr "count",.int D),(.inr "number",.int J),(.inr "slack",.int Z),(.inr "joins",.ref W),(.inr "groups",.ref U),(.inr "held",.ref Y)]
theorem To:Bp (EU now D J Y V U W) (.inr "now") (.int n)=EU n D J Y V U W/\Bp (EU now D J Y V U W) (.inr "count") (.int n)=EU now n J Y V U W/\Bp (EU now D J Y V U W) (.inr "number") (.int n)=EU now D n Y V U W:=⟨rfl,rfl,rfl⟩
theorem Et(e:H D=AA (.dK (EU now J U z Y W Z))):(Ga H D (.str "now") (AA (.int now))/\Ga H D (.str "count") (AA (.int J))/\Ga H D (.str "number") (AA (.int U))/\Ga H D (.str "slack") (AA (.int z)))/\Ga H D (.str "joins") (AA (.ref Y))/\Ga H D (.str "groups") (AA (.ref W))/\Ga H D (.str "held") (AA (.ref Z)):=have g:∀{k:AG}{v:AE},Bv (EU now J U z Y W Z) (.inr k)=AA v->Ga H D (.str k) (AA v):=λ{k v}q=>.inl ⟨_,.inr k,.inl e,rfl,q.symm⟩
 ⟨⟨g rfl,g rfl,g rfl,g rfl⟩,g rfl,g rfl,g rfl⟩
def JN(ss:List AU)(A:Ey)(b:AD):Prop:=GN ss A.jd A.gd b\/b=A.dj\/b=A.dg
theorem Wo(P:W M=AA (.lst ps))(S:D1 W ps ss)(G:ss.length<=8)(H:U B=AA (.dK J))(F:Jg ss ss.length A J)(L:Cv AN [] U ss B J A (λ_=>([],[])))(s:Ah U W)(E:U Y=AF)(O:W Y=AA (.dK D))(R:D.length<=ss.length)(C:JF (Aj ss) Z D)(Q:Cu AN [] W ss (Aj ss) Y D Z (λ_ _=>[]) gk)(I:∀i∈Aj ss,U (Z i).d=AF):EK AN [] W ss ⟨M,ps,B,J,A,Y,D,Z⟩ (λ_=>([],[])) (λ_ _=>[]) gk:=by
 have N:∀{b:AD},U b=AF->¬EB ss A b:=λh z=>by obtain⟨T,e⟩:=L.xg z;rw[h]at e;cases e
 show⟨P,S,s _ _ H,F,L.ah s,O,Ak R G,C,Q,λi K=>⟨N (I i K),BE H (I i K)⟩,N E⟩
def pG(B:CO):BG:=λC H Q _=>(JE λ(Y:AD)(z:Int)(Z:List AE)(U:List AU)=>Ee (C=[.ref Y,.int z]) (H Y=AA (.lst Z)) (D1 H Z U) (U.length<=8) (∀D J W A,A.lp=Y->Ah H D->H J=AF->H W=AF->D J=AA (.dK (EU 0 0 0 z A.dj A.dg W))->D W=AA (.lst [])->EK B [] D U A (λ_=>([],[])) (λ_ _=>[]) (λ_=>[])->(∀b,JN U A b->H b=AF/\b≠J)->Q (.ref J) D))
theorem lC(T:BR AH Af AN):T.ql.Ok BI P w Af base 6 (pG AN):=by
    show T.ql.ok λc _ _ _ _ _ O H vs Q E h=>?_;obtain⟨X,B,g,p,rfl,Y,f,a,k⟩:_:=h;show⟨_,(Ag (BD 2 c (Ax (Tv T) O #v[AB 0])) (Ag (BD 3 c (Ax (Tu T) O #v[AB 0])) (Ag (BD 4 c (Zy (My BZ AM (My BZ AM (My BZ AM (My BZ (AB 1) (My BZ (AB 2) (My BZ (AB 3) Z4)))))) (by rfl) (by rfl) (by intro z;cases z) (by decide))) (Ag (JY O.u1 (AB 4) BZ (Cy Eg) rfl) (Ab (Aw (AB 4))))))),?_⟩;show⟨X,g,p,rfl,Y,f,by(first|lia|omega),λy W G v s1 N m R x r=>?_⟩;show⟨X,g,p,rfl,s1 _ _ Y,f.ae s1.tp,by(first|lia|omega),λZ V C s s2 F l S L t n=>?_⟩;have j:=Wo (s2 _ _ (s1 _ _ Y)) (f.ae λb xs e=>s2 _ _ (s1 _ _ e)) a m R x s2 F l S L t n;showλD J=>⟨Ac,[(.inr "now",.int 0),(.inr "count",.int 0),(.inr "number",.int 0),(.inr "slack",.int B),(.inr "joins",.ref W),(.inr "groups",.ref V)],rfl,Ba rfl,?_⟩;rw[N8];have s3:Ah Z (AO Z D (.dK (IA [] [(.inr "now",.int 0),(.inr "count",.int 0),(.inr "number",.int 0),(.inr "slack",.int B),(.inr "joins",.ref W),(.inr "groups",.ref V)]))):=CB J;show⟨Bd _,λI U=>?_⟩;have q:(AO (AO Z D (.dK (IA [] [(.inr "now",.int 0),(.inr "count",.int 0),(.inr "number",.int 0),(.inr "slack",.int B),(.inr "joins",.ref W),(.inr "groups",.ref V)]))) I (.lst [])) D=AA (.dK (IA [] [(.inr "now",.int 0),(.inr "count",.int 0),(.inr "number",.int 0),(.inr "slack",.int B),(.inr "joins",.ref W),(.inr "groups",.ref V)])):=by rw[AW (BE Ac U)];show Ac
    show⟨D,_,rfl,.inl ⟨_,.inr "held",q,rfl,Ba rfl,rfl⟩,?_⟩;have d:I≠D:=(BE Ac U).symm;have s4:Ah Z (AO (AO (AO Z D (.dK (IA [] [(.inr "now",.int 0),(.inr "count",.int 0),(.inr "number",.int 0),(.inr "slack",.int B),(.inr "joins",.ref W),(.inr "groups",.ref V)]))) I (.lst [])) D (.dK (EU 0 0 0 B W V I))):=λb o e=>by rw[AW (BE e J),AW (BE (s3 _ _ e) U)];show s3 _ _ e
    show k _ D I ⟨X,g,W,G,v,V,C,s⟩ rfl (s1.aa (s2.aa s4)) (s1.au (s2.au J)) (s1.au (s2.au (s3.au U))) Ac (by rw[AW d];show Ac) (j.ah s4) λb A=>?_;have M:∀{b:AD},(∃o,Z b=AA o)->b≠D:=λ⟨o,e⟩z=>by rw[z,J]at e;cases e
    rcases A with A|rfl|rfl
    . show⟨?_,M ?_⟩
      . rcases A with A|⟨i,u,rfl⟩;.show r _ A
        .show s1.au (n i u)
      . obtain⟨kv,e⟩:=j.abf A;show⟨_,e⟩
    .show⟨N,M ⟨_,s2 _ _ m⟩⟩
    .show⟨s1.au F,M ⟨_,l⟩⟩
def IU(ss:List AU)(F:Ep)(b:AD):Prop:=HI ss F b\/b=F.dj\/b=F.dg
theorem EK.wo{K:GX}(h:EK AN [] H ss A sd K gk)(f:D9 AN H ss F L now D B I Y Z)(n:∀b,IU ss F b->¬JN ss A b)(s:∀b o,¬HI ss F b->H b=AA o->H' b=AA o):EK AN [] H' ss A sd K gk:=by
  lk;obtain⟨R,W⟩:=f.bz;obtain⟨M,V⟩:=f.gv;k_in;have C:F.ck≠F.x:=λz=>by rw[z,W]at V;have:=Bz V;injection this with _ _ q;show Lf.1 (AFj (List.map cM) q)
  have O:=h.bz (H':=λb=>if b=F.x then H' b else H b) (λb o U e=>by change(if b=F.x then H' b else H b)=_;rw[AFh U];show e) W Tt.1 Tt.2.1 Tt.2.2;have N:(λb=>if b=F.x then H' b else H b) F.ck=AA (.ins AN.bb M (Gq L now D)):=by change(if F.ck=F.x then H' _ else H _)=_;rw[AFh C];show V
  have P:=O.bz (H':=λb=>if b=F.ck then H' b else if b=F.x then H' b else H b) (λb o U e=>by change(if b=F.ck then H' b else _)=_;rw[AFh U];show e) N Lf.2.1 Lf.2.2.1 Lf.2.2.2;show P.adk (p:=GN ss F.jd F.gd) (λb o U e=>?_) (λb J=>?_) λb J=>⟨λz=>n b (.inl (.inr (.inr J))) (.inl z),λz=>n b (.inl (.inr (.inr J))) (.inr (.inl z)),λz=>n b (.inl (.inr (.inr J))) (.inr (.inr z))⟩
  . have e:(if b=F.ck then H' b else if b=F.x then H' b else H b)=AA o:=e;by_cases E:b=F.ck;.rw[AFi E]at e;show e
    . rw[AFh E]at e;by_cases G:b=F.x;.rw[AFi G]at e;show e
      . rw[AFh G]at e;show s b o (λz=>z.elim G λz=>z.elim E U) e
  . obtain⟨Q,e⟩:=f.abf J;show⟨Q,?_⟩;change(if b=F.ck then H' b else if b=F.x then H' b else H b)=_;rw[AFh (λz=>by rw[z,V]at e;cases e),AFh (λz=>by rw[z,W]at e;cases e)];show e
theorem D9.wo(h:D9 AN H ss G V J D U sd C gk)(f:D9 AN H ss F N now W A B Y Z)(n:∀b,IU ss F b->¬IU ss G b)(s:∀b o,¬HI ss F b->H b=AA o->H' b=AA o):D9 AN H' ss G V J D U sd C gk:=by
 lk;obtain⟨I,L⟩:=h.bz;obtain⟨E,K⟩:=h.gv;k_in;show⟨h.toEK.wo f (λb M z=>n b M ?_) s,⟨I,s _ _ (λz=>n _ (.inl z) (.inl (.inl rfl))) L⟩,⟨E,s _ _ (λz=>n _ (.inl z) (.inl (.inr (.inl rfl)))) K⟩⟩;rcases z with z|z|z;.show .inl (.inr (.inr z))
 .show .inr (.inl z)
 .show .inr (.inr z)
structure Oc(H4:AI)(ss:List AU)(F G:Ep)(A S:Ey)(dm lh:AD):Prop where
 fg:∀b,IU ss F b->¬IU ss G b
 fa:∀b,IU ss F b->¬JN ss A b
 fs:∀b,IU ss F b->¬JN ss S b
 ga:∀b,IU ss G b->¬JN ss A b
 as:∀b,JN ss A b->¬JN ss S b
 fm:¬IU ss F dm
 gm:¬IU ss G dm
 am:¬JN ss A dm
 sm:¬JN ss S dm
 lF:F.lp≠lh
 lG:G.lp≠lh
 lA:A.lp≠lh
 lS:S.lp≠lh
 fF:∀b,HI ss F b->H4 b=AF
 fA:∀b,GN ss A.jd A.gd b->H4 b=AF
 aes:H4 dm=AF
 aet:H4 lh=AF
structure Jf(ss:List AU)(F G:Ep)(A S:Ey)(H:AI)(sl now cnt num:Int)(sdF sdG sdA:ET)(ggF ggA:GX)(gkF gkG gkA:Er):Prop where
 f:D9 AN H ss F sl now cnt num sdF ggF gkF
 o:D9 AN H ss G sl 0 0 0 sdG (λ_ _=>[]) gkG
 a:EK AN [] H ss A sdA ggA gkA
 s:EK AN [] H ss S (λ_=>([],[])) (λ_ _=>[]) (λ_=>[])
theorem Jf.ah(c:Jf ss F G A S H E now D Z B C z U J W Y V)(s:Ah H H'):Jf ss F G A S H' E now D Z B C z U J W Y V:=⟨c.f.ah s,c.o.ah s,c.a.ah s,c.s.ah s⟩
theorem Jf.wo{K:Int}(c:Jf ss F G A S H I now K N O E C L Z M B z)(x:Oc P ss F G A S Q R)(s:∀b o,¬HI ss F b->H b=AA o->H' b=AA o)(f:D9 AN H' ss F I V D W Y J U):Jf ss F G A S H' I V D W Y E C J Z U B z:=⟨f,c.o.wo c.f x.fg s,c.a.wo c.f x.fa s,c.s.wo c.f x.fs s⟩
theorem Jf.aq{K:Int}(c:Jf ss F G A S H P now W K M N L Z Y E I C)(x:Oc Q ss F G A S D R)(e:H D=AA (.dK kvs))(s:Bk D H H'):Jf ss F G A S H' P now W K M N L Z Y E I C:=by
 have U:C6 (λb=>b=D) H H':=s;have J:∀b,b=D->∃kvs,H b=AA (.dK kvs):=λb z=>⟨kvs,by rw[z];show e⟩;have O:∀{B:Ey},¬JN ss B D->∀b,b=D->¬GN ss B.jd B.gd b/\b≠B.dj/\b≠B.dg:=λn b z=>by subst z;show⟨λy=>n (.inl y),λy=>n (.inr (.inl y)),λy=>n (.inr (.inr y))⟩
 show⟨c.f.uz U J λb z y=>x.fm (by rw[<-z];show y),c.o.uz U J λb z y=>x.gm (by rw[<-z];show y),c.a.adk U J (O x.am),c.s.adk U J (O x.sm)⟩
theorem Jf.aev{K:ET}(c:Jf ss F G A S H Q now W E I K P Y L Z z M)(x:Oc R ss F G A S T X)(s:C6 (GN ss A.jd A.gd) H H')(O:Cv AN [] H' ss A.dj A.nc A.jd V)(N:Cu AN [] H' ss (Aj ss) A.dg A.je A.gd J U):Jf ss F G A S H' Q now W E I K V Y J Z z U:=by have B:∀b,GN ss A.jd A.gd b->∃C,H b=AA (.dK C):=λb D=>c.a.abf D;show⟨c.f.uz s B λb D y=>x.fa b y (.inl D),c.o.uz s B λb D y=>x.ga b y (.inl D),c.a.aay s O N,c.s.adk s B λb D=>⟨λy=>x.as b (.inl D) (.inl y),λy=>x.as b (.inl D) (.inr (.inl y)),λy=>x.as b (.inl D) (.inr (.inr y))⟩⟩
theorem Jf.yz(c:Jf ss F G A S H O now J B E I C W U Z z Y)(e:H l=AA (.lst ys))(D:Kt H ys)(L:F.lp≠l)(M:G.lp≠l)(K:A.lp≠l)(N:S.lp≠l):Jf ss F G A S (AO H l ob) O now J B E I C W U Z z Y:=⟨c.f.yz e D L,c.o.yz e D M,c.a.yz e D K,c.s.yz e D N⟩
structure NP(ss:List AU)(F G:Ep)(A S:Ey)(dm lh:AD)(sl:Int)(H4 H:AI)(hs:List AE)(evs:List CL)(now cnt num:Int)(sdF sdG sdA:ET)(gkF gkG gkA:Er):Prop where
 g:Ah H4 H
 c:Jf ss F G A S H sl now cnt num sdF sdG sdA (DS ss now (Bm ss evs)) (DS ss now (Bm ss evs)) gkF gkG gkA
 fl:∀i∈Aj ss,(gkF i).length<=(Bm ss evs (FL ss i)).length
 fs:∀(i:Nat)n a b wi,ss[i]?=AA (.join n a b wi)->(sdF i).1.Perm (Br (now-wi) (Bm ss evs a))/\(sdF i).2.Perm (Br (now-wi) (Bm ss evs b))ol:∀i∈Aj ss,(gkG i).length<=0
 os:∀(i:Nat)n a b wi,ss[i]?=AA (.join n a b wi)->(sdG i).1=[]/\(sdG i).2=[]al:∀i∈Aj ss,(gkA i).length<=(Bm ss evs (FL ss i)).length
 as:∀(i:Nat)n a b wi,ss[i]?=AA (.join n a b wi)->(sdA i).1.Perm (Bm ss evs a)/\(sdA i).2.Perm (Bm ss evs b)m:H dm=AA (.dK (EU now cnt num sl A.dj A.dg lh))l:H lh=AA (.lst hs)h:LZ lh H hs
 n:0<=now
theorem FK.sq(t:FK H H')(U:∀C D J,u≠.ins C D J)(V:∀kvs,u≠.dK kvs)(h:Fs H a u):Fs H' a u:=by
 rcases h with h|⟨o,h⟩;.show .inl (t _ _ h U V)
 .show .inr ⟨o,t _ _ h (by intro _ _ _ z;cases z) (by intro _ z;cases z)⟩
mutual theorem iT{H H':AI}(t:FK H H'):∀{x:AE}{d:EO},Fp AH H x d->Fp AH H' x d|_,_,.non=>.non|_,_,.bl b=>.bl b|_,_,.int i=>.int i|_,_,.str x=>.str x|_,_,.lst h ds=>.lst (h.imp (t.sq (by intro _ _ _ z;cases z) (by intro _ z;cases z)) id) (Om t ds)|_,_,.tup h ds=>.tup (h.imp (t.sq (by intro _ _ _ z;cases z) (by intro _ z;cases z)) id) (Om t ds)theorem Om{H H':AI}(t:FK H H'):∀{xs:List AE}{D:List EO},EW AH H xs D->EW AH H' xs D|_,_,.nil=>.nil|_,_,.cons a b=>.cons (iT t a) (Om t b)end
theorem jI(ss:List AU):∃n0:Int,n0<=0/\∀(i:Nat)n a b wi,ss[i]?=AA (.join n a b wi)->n0<=wi:=by induction ss with |nil=>show⟨0,Qc _,λi n a b wi e=>by cases e⟩|cons s ss U=>obtain⟨n0,J,h⟩:_:=U;cases s with
 |join Y V W D=> show⟨if n0<=D then n0 else D,by split<;>(first|lia|omega),λi n a b wi e=>?_⟩;cases i with |zero=>cases e;split<;>(first|lia|omega)|succ i=> have:=h i n a b wi e;split<;>(first|lia|omega)
 |_=> show⟨n0,J,λi n a b wi e=>?_⟩;cases i with|zero=>cases e|succ i=>show h i n a b wi e
theorem YS(h:∀i∈L,D<=i.1):Br D L=L:=Vf.mpr λi J=>AFk (h i J)
theorem iZ{s:AU}(J:s.ig)(h:s.gd l)(D:b∈l):b.1<b.2.1:=by cases s with|each _ _ _ z d=>have:=h.2 b D;obtain⟨U,_,V,_⟩:_:=J;(first|lia|omega)|gap _ _ _ m=>show h.1 b D|_=>cases J
theorem O0(D:C3 ss)(V:t∈Aj ss)(h:p∈DS ss now L t z):now<p.2.1/\p.1<p.2.1:=by obtain⟨s,J,W⟩:_:=HM.mp V;have U:=(D.ig J W).1;rw[JP J]at h;show⟨AFm (Dx.mp h).2,iZ U (Oz U) h⟩
theorem Qr(J:C3 ss)(D:La ss evs)(W:∀e∈evs,Ho (Hr e))(U:∀i∈Aj ss,(gk i).length<=(Bm ss evs (FL ss i)).length)(V:∀(i:Nat)n a b wi,ss[i]?=AA (.join n a b wi)->(sd i).1.Perm (Br (now-wi) (Bm ss evs a))/\(sd i).2.Perm (Br (now-wi) (Bm ss evs b))):MT ss sd (DS ss now (Bm ss evs)) gk C0:=by have h:=i5 J D W (p:=λ_=>AJ) (now:=now) (sd:=sd) (gk:=gk) (by rw[Lc];show U) (by rw[Lc];show V);rw[Lc]at h;show h.jz λz h=>h.1
def oB(j:CO):BG:=λi H Q _=>(WY λ(N:AI)(U:List AU)(F G:Ep)(A S:Ey)(M X q:AD)(g a O b:Int)(T:List AE)(D:List CL)(e:CL)(d L c:ET)(R z P:Er)=>Sv (i=[.ref F.x,.ref A.lp,.ref q,.ref M]) (Oc N U F G A S M X) (NP U F G A S M X g N H T D a O b d L c R z P) (C3 U) (U.length<=8) ((∀s∈U,∀t∈s.yj,C0 t)) (La U D) (La U (D++[e])) ((∀h∈D++[e],Ho (Hr h))) (T.length<=100) (Ks H q e) (∀f B J C W E K I Z Y,NP U F G A S M X g N f B J C W E K L I Z z Y->B.length<=T.length+1->(J=D\/J=D++[e])->Q (.bl AJ) f))
theorem kH(T:BR AH Af AN):T.om.Ok BI P w Af base 9 (oB AN):=by
    show T.om.ok λnd _ _ _ _ _ hr H vs Q E h=>?_;obtain⟨H4,ss,F,G,A,S,dm,lh,q,sl,now,cnt,num,hs,evs,e,sdF,sdG,sdA,gkF,gkG,gkA,rfl,x,w0,pok,lss,txt,lim,lim',oke',lhs,ev,k⟩:_:=h;show⟨_,(Ag (BD 4 nd (Cy Eg)) (Ag (Jt (Bi (Gd (Fx (BK Mv (Av AH (AB 2) AM) (Cg hr.u1 (AB 3) BZ (λ_ _=>rfl)) (BF _)) (JZ (BK Cp (AY CC (Av AH (AB 2) AM) AM) AM (BF _))))) (Ab (BD 4 nd (Ax (Q2 T) hr #v[AB 0]))) Bs)) (Ag (Jt (BD 5 nd (Hv (AB 0) T.aj (kN T) hr #v[AB 2]))) (Cc (JY hr.u1 (AB 3) BZ (AY DH (Cg hr.u1 (AB 3) BZ (λ_ _=>rfl)) AM) rfl) (Ag (Bi (Gd (Fx (Fw (FH (Bw (JR (K:=AH)) (by rfl) T.ao Gj #v[AB 5,(Ij (v:=.ty "tuple") (by rfl) T.aad AC7 rfl)]))) (Fx (BK L6 (Bw (FE (K:=AH)) (by rfl) T.eh FJ #v[AB 5]) AM (BF _)) (JZ (Fw (FH (Bw (JR (K:=AH)) (by rfl) T.ao Gj #v[Av AH (AB 5) AM,(Ij (v:=.ty "bool") (by rfl) T.xf cO rfl)]))))))) (Ab (Aw Dh)) Bs) (Cc (Bi (BK L6 (Bq (Bq (AB 0) rfl) rfl) (Cg hr.u1 (AB 3) BZ (λ_ _=>rfl)) (BF _)) (Ab (Aw Dh)) Bs) (Ag (Bi (BK Mv (Av AH (AB 2) AM) (Cg hr.u1 (AB 3) BZ (λ_ _=>rfl)) (BF _)) (Ab (Aw (JU (Ik (U9 (K:=AH) hr.kz) (AB 5) (Cq #v[Dh,Cy Eg]) (BF _)) (KW (Ik (U9 (K:=AH) hr.kz) (Ax (Q2 T) hr #v[AB 0]) (AB 4) (BF _)))))) Bs) (Ag (BD 6 nd (Cg hr.u1 (AB 3) BZ (λ_ _=>rfl))) (Ag (JY hr.u1 (AB 3) BZ (Bw (RV rfl) (by rfl) T.yn Vw #v[(Cg hr.u1 (AB 3) BZ (λ_ _=>rfl)),(AY Fv (Av AH (AB 2) AM) (Cg hr.u1 (AB 3) BZ (λ_ _=>rfl)))]) rfl) (Ag (JY hr.u1 (AB 3) BZ (AY DH (Cg hr.u1 (AB 3) BZ (λ_ _=>rfl)) (Bw (FE (K:=AH)) (by rfl) T.eh FJ #v[Av AH (AB 5) AM])) rfl) (Cc (Bi (Gd (Fx (Fw (FH (Av AH (AB 5) AM))) (JZ (Fw (FH (Ax (Xj T) hr #v[AB 1,Av AH (AB 5) AM,AB 6,(Cg hr.u1 (AB 3) BZ (λ_ _=>rfl))])))))) (Ab (Aw Dh)) Bs) (Cc (EG EN rfl (DI (K:=AH) (Ax (Xr T) hr #v[AB 1,(Cg hr.u1 (AB 3) BZ (λ_ _=>rfl)),AB 2])) (NW rfl (G1 (EF 7 nd) (G1 (EF 8 nd) L8))) (Ab (FT (Hv (Cg hr.u1 (Cg hr.u1 (AB 3) BZ (λ_ _=>rfl)) (AB 7) (λ_ _=>rfl)) T.bh (Xk T) hr #v[AB 8])))) (Cc (Bi (BK (LF (K:=AH) hr.kz) (Av AH (AB 5) AM) (Ax (Xm T) hr #v[AB 1,(Cg hr.u1 (AB 3) BZ (λ_ _=>rfl)),(Cg hr.u1 (AB 3) BZ (λ_ _=>rfl))]) (BF _)) (Ab (Aw Dh)) Bs) (Cc (FT (L7 AH (Cg hr.u1 (AB 3) BZ (λ_ _=>rfl)) #v[(Cq #v[Av AH (AB 5) AM,(AY Jr (JV (Mq (K:=AH)) (by rfl) T.jc Ki #v[Av AH (AB 5) AM]) (Cy #v[IB]))])])) (Ag (FT (L7 AH (Av AH (AB 5) AM) #v[IB])) (Cc (Bi (Gd (Fx (BK L6 (Bq (Bq (AB 0) rfl) rfl) (Cg hr.u1 (AB 3) BZ (λ_ _=>rfl)) (BF _)) (JZ (BK L6 (Bq (AB 0) rfl) (Cg hr.u1 (AB 3) BZ (λ_ _=>rfl)) (BF _))))) (Ab (Aw Dh)) Bs) (Ab (Aw (wQ (Ik Cp (AY CC (Av AH (AB 2) AM) AM) AM (BF _)) (KW (Ax (mB T) hr #v[AB 0,(Cg hr.u1 (AB 3) BZ (λ_ _=>rfl))]))))))))))))))))))))),?_⟩;have sz:Ay=16777216:=Dc;have oke:∀e'∈evs,Ho (Hr e'):=λe' he'=>oke' e' (HU _ he');obtain⟨dxF,exF⟩:=w0.c.f.bz;show⟨Bd _,λt0 ht0=>?_⟩;show BM (o:=.lst []) ht0 λH0 s0 et0=>?_;show Jp (λσ' H'=>FD (λ(st:AD)(xs:List AE)=>σ'=[AA (.ref F.x),AA (.ref A.lp),AA (.ref q),AA (.ref dm),AA (.ref st),AF,AF,AF,AF]) (λ_ _=>Ah H H') (λst xs=>(e.1<now->H' st=AA (.lst xs)/\EW AH H' xs (Jl ss num now sdF (DS ss now (Bm ss evs)))/\Hj (.list (Jl ss num now sdF (DS ss now (Bm ss evs))))=AJ))) ?_ ?_
    . have c0:=w0.c.ah s0;have hq:=Qr pok lim oke w0.fl w0.fs;have gm:=(Et (s0 _ _ w0.m)).1.1;have se:=Ar (K:=AH) (s0 _ _ ev);show⟨_,_,se,Ap (j:=0) rfl,dm,.int now,rfl,gm,_,rfl,GU (λ_=>?_) λhn=>⟨_,_,se,Ap (j:=3) rfl,(zzp rfl),rfl,_,rfl,C7 (λ_=>?_) λ_=>?_⟩⟩;.show⟨ss,F,sl,now,cnt,num,sdF,_,gkF,rfl,c0.f,lss,hq,λH' r xs s hr er dv sh=>⟨r,xs,rfl,s0.aa s,λ_=>⟨er,dv,sh⟩⟩⟩
      .show⟨ss,F,sl,now,cnt,num,sdF,_,gkF,rfl,c0.f,lss,hq,λH' r xs s hr er dv sh=>⟨r,xs,rfl,s0.aa s,λ_=>⟨er,dv,sh⟩⟩⟩
      .show⟨t0,[],rfl,s0,λh=>absurd h hn⟩
    intro σ1 H1 hI;lk;obtain⟨st,xs0,rfl,s1,hst⟩:=hI;clear s0 et0 ht0;have g1:=w0.g.aa s1;have c1:=w0.c.ah s1;have em1:=s1 _ _ w0.m;have el1:=s1 _ _ w0.l;have h1:=w0.h.ae λb o e _ _=>s1 _ _ e;have ev1:=s1 _ _ ev;obtain⟨dxF1,exF1⟩:=c1.f.bz;k_in;have limT:∀{evs:List CL},La ss evs->∀(i:Nat)s,ss[i]?=AA s->s.bj=AQ->(Bm ss evs s.nm).length<=600/\∀y∈Bm ss evs s.nm,0<=y.1/\y.1<=1000000000:=λlim i s ei ht=>by have:=lim (λ_=>AJ) i s ei ht;rw[Lc]at this;show this
    have hL:∀(i:Nat)s,ss[i]?=AA s->s.bj=AQ->Bm ss evs s.nm=Ef s (Bm ss evs) evs/\Bm ss (evs++[e]) s.nm=Ef s (Bm ss (evs++[e])) (evs++[e])/\(Bm ss (evs++[e]) s.nm).length<=600:=λi s ei ht=>⟨Qi pok ei,Qi pok ei,(limT lim' i s ei ht).1⟩;show Jp (λσ' H'=>(J6 λ(p r:AD)(xs:List AE)(b:Bool)(now' num':Int)(sdF':ET)(gkF':Er)(evs':List CL)=>Kq (σ'=[AA (.ref F.x),AA (.ref A.lp),AA (.ref q),AA (.ref dm),AA (.ref st),AA (.ref p),AF,AF,AF]) ((∀b o,¬HI ss F b->H1 b=AA o->H' b=AA o)) (Ob AN H' ss F sl now' (cnt+1) num' sdF' gkF' (Bm ss evs')) (H1 p=AF) (H1 r=AF) (H' p=AA (.tup [.bl b,.ref r])) (H' r=AA (.lst xs)) ((e.1<now/\b=AQ/\xs=[]/\now=now'/\num=num'/\sdF=sdF'/\gkF=gkF'/\evs=evs'\/now<=e.1/\b=AJ/\JL now sl e.1=now'/\evs++[e]=evs'/\∃qs:List C1,num+(qs.length:Int)=num'/\BW (JG ss H') xs qs/\(qs.map Co).Nodup/\CZ (qs.map Co)/\(∀q:C1,q∈qs↔q.1∈Aj ss/\q.2.2∈Kw now' (DS ss now (Bm ss (evs++[e])) q.1 q.2.1))/\qs.length<=14400000)))) ?_ ?_
    . show⟨F.x,dxF1,_,rfl,exF1,by rfl,ss,F,sl,now,cnt,num,sdF,gkF,Bm ss evs,Bm ss (evs++[e]),evs,e,q,rfl,⟨c1.f,w0.fl,w0.fs⟩,pok,lss,ev1,hL,λi s ei ht=>(limT lim' i s ei ht).2,λhe H' p r u f hp hr ep er=>?_,λhe H' p r xs qs sd' gk' u f hp hr ep er rw nd sd mm lq _=>?_⟩;.show⟨p,r,[],AQ,now,num,sdF,gkF,evs,rfl,u,f,hp,hr,ep,er,.inl ⟨he,rfl,rfl,rfl,rfl,rfl,rfl,rfl⟩⟩
      .show⟨p,r,xs,AJ,_,_,sd',gk',evs++[e],rfl,u,f,hp,hr,ep,er,.inr ⟨he,rfl,rfl,rfl,qs,rfl,rw,nd,sd,mm,lq⟩⟩
    intro σ2 H2 hI;obtain⟨p,r,xs,b,now',num',sdF',gkF',evs',rfl,u2,f2,hp,hr,ep2,er2,alt⟩:_:=hI;have c2:=c1.wo x u2 f2.ag;have lt12:=c1.f.lt u2;have em2:=u2 _ _ (λz=>x.fm (.inl z)) em1;have g2:Ah H4 H2:=λb o e'=>u2 _ _ (λz=>by have:=x.fF b z;rw[e']at this;cases this) (g1 _ _ e');showλ_ _ _ _ z1=>⟨dm,.int cnt,rfl,(Et em2).1.2.1,dm,_,rfl,.inl ⟨_,.inr "count",em2,rfl,Ba rfl,rfl⟩,z1 _ _ ?_⟩;rw[To.2.1];have x3:Bk dm H2 (AO H2 dm (.dK (EU now (cnt+1) num sl A.dj A.dg lh))):=zzu
    have em3:(AO H2 dm (.dK (EU now (cnt+1) num sl A.dj A.dg lh))) dm=AA (.dK (EU now (cnt+1) num sl A.dj A.dg lh)):=Ac;generalize AO H2 dm (.dK (EU now (cnt+1) num sl A.dj A.dg lh))=H3 at x3 em3⊢;have c3:=c2.aq x em2 x3;have lt23:FK H2 H3:=λb o e n1 n2=>x3 _ _ (λz=>by rw[z,em2]at e;show n2 _ (Bz e).symm) e;have lt13:FK H1 H3:=λb o e n1 n2=>lt23 b o (lt12 b o e n1 n2) n1 n2;have g3:Ah H4 H3:=λb o e'=>x3 _ _ (BE e' x.aes) (g2 _ _ e');have ep3:=lt23.tp _ _ ep2;have er3:=lt23.vp er2;have ev3:=lt13.tp _ _ ev1;have el3:=lt13.vp el1;have h3:=h1.ae lt13;have sp3:=Ar (K:=AH) ep3;lk;obtain⟨dxF3,exF3⟩:=c3.f.bz;obtain⟨dcF3,ecF3⟩:=c3.f.gv;k_in;clear x3 em2 em1 exF1 z1;show⟨_,"tuple",_,_,rfl,.tup ep3,rfl,_,rfl,Ce ⟨_,.inr sp3,rfl,_,rfl,Lx (C7 (λ_=>?_) λz=>absurd rfl z)⟩⟩;show⟨_,_,sp3,Ap (j:=0) rfl,_,"bool",_,_,rfl,.bl b,rfl,_,rfl,Ce ?_⟩;showλ_ _ _ _ z2=>⟨_,⟨exF3,T.aj,T.cw,rfl⟩,_,⟨ecF3,T.cj,T.gc,rfl⟩,dm,.int (cnt+1),rfl,(Et em3).1.2.1,rfl,_,rfl,Lx (C7 (λ_=>z2 _ _ ?_) λz=>absurd rfl z)⟩;show⟨_,_,Ar ev3,Ap (j:=0) rfl,dm,.int now,rfl,(Et em3).1.1,_,rfl,?_⟩;rcases alt with⟨he,rfl,rfl,rfl,rfl,rfl,rfl,rfl⟩|⟨he,rfl,rfl,rfl,qs,rfl,rw2,nd2,sd2,mm2,lq2⟩
    . show GU (λ_=>?_) λh=>absurd he h;obtain⟨est,dv1,sh1⟩:_:=hst he;show⟨Bd _,λl1 hl1=>?_⟩;show BM (o:=.lst []) hl1 λHa sa ea=>⟨Ba rfl,λt1 ht1=>?_⟩;show BM ht1 λHb sb eb=>?_;have s3b:=sa.aa sb;show Uh (d:=.tuple [.bool AQ,.list []]) (.tup (Ar (s3b _ _ ep3)) (.cons (.bl _) (.cons (.lst (AX (s3b _ _ er3)) .nil) .nil))) (.tup (Ar eb) (.cons (.bl _) (.cons (.lst (AX (sb _ _ ea)) .nil) .nil))) rfl ⟨_,rfl,Fd ?_⟩;have cb:=c3.ah s3b;show⟨ss,F,sl,now,cnt+1,num,sdF,_,gkF,rfl,cb.f,lss,Qr pok lim oke w0.fl w0.fs,λH' r2 xs2 s hr2 er2 dv sh=>?_⟩;have lt1:FK H1 H':=λb o e n1 n2=>s _ _ (s3b _ _ (lt13 b o e n1 n2));show Uh (.lst (AX er2) dv) (.lst (AX (lt1.vp est)) (Om lt1 dv1)) sh (k H' hs evs now (cnt+1) num sdF sdA gkF gkA ⟨g3.aa (s3b.aa s),cb.ah s,w0.fl,w0.fs,w0.ol,w0.os,w0.al,w0.as,s _ _ (s3b _ _ em3),s _ _ (s3b _ _ el3),h1.ae lt1,w0.n⟩ (OG _) (.inl rfl))
    show GU (λh=>absurd he (OW h)) λ_=>?_;have nle:=Xe (n:=now) (s:=sl) (t:=e.1);have hnw:(if e.1-sl>now then e.1-sl else now)=JL now sl e.1:=(AFh (WS.mpr he)).symm;generalize JL now sl e.1=nw at nle hnw f2 c2 c3 ecF3 mm2;have lxq:=(Cf rw2).1;show⟨dm,.int now,rfl,(Et em3).1.1,dm,.int now,rfl,(Et em3).1.1,_,_,Ar ev3,Ap (j:=0) rfl,dm,.int sl,rfl,(Et em3).1.2.2.2,dm,_,rfl,.inl ⟨_,.inr "now",em3,rfl,Ba rfl,rfl⟩,?_⟩;rw[hnw,To.1];have em4:(AO H3 dm (.dK (EU nw (cnt+1) num sl A.dj A.dg lh))) dm=AA (.dK (EU nw (cnt+1) num sl A.dj A.dg lh)):=Ac;have nd:∀{b:AD}{o:Bg},H3 b=AA o->(∀kvs,o≠.dK kvs)->b≠dm:=λe n z=>by rw[z,em3]at e;show n _ (Bz e).symm
    have npm:=nd ep3 (by intro _ z;cases z);have ep4:(AO H3 dm (.dK (EU nw (cnt+1) num sl A.dj A.dg lh))) p=AA (.tup [.bl AJ,.ref r]):=by rw[AW npm];show ep3
    have er4:(AO H3 dm (.dK (EU nw (cnt+1) num sl A.dj A.dg lh))) r=AA (.lst xs):=by rw[AW (nd er3 (by intro _ z;cases z))];show er3
    show⟨dm,.int num,rfl,(Et em4).1.2.2.1,_,_,Ar ep4,Ap (j:=1) rfl,_,.inl (AX er4),dm,_,rfl,.inl ⟨_,.inr "number",em4,rfl,Ba rfl,rfl⟩,?_⟩;rw[To.2.2,N8,lxq];have x4:Bk dm H3 (AO H3 dm (.dK (EU nw (cnt+1) (num+(qs.length:Int)) sl A.dj A.dg lh))):=zzu
    have em5:(AO H3 dm (.dK (EU nw (cnt+1) (num+(qs.length:Int)) sl A.dj A.dg lh))) dm=AA (.dK (EU nw (cnt+1) (num+(qs.length:Int)) sl A.dj A.dg lh)):=Ac;clear em4 ep4 er4;generalize AO H3 dm (.dK (EU nw (cnt+1) (num+(qs.length:Int)) sl A.dj A.dg lh))=H5 at x4 em5⊢;have c5:=c3.aq x em3 x4;have lt35:FK H3 H5:=λb o e n1 n2=>x4 _ _ (nd e n2) e;have lt15:FK H1 H5:=λb o e n1 n2=>lt35 b o (lt13 b o e n1 n2) n1 n2;have g5:Ah H4 H5:=λb o e'=>x4 _ _ (BE e' x.aes) (g3 _ _ e');have ep5:=lt35.tp _ _ ep3;have er5:=lt35.vp er3;have ev5:=lt15.tp _ _ ev1;have rw5:=Me rw2 λb xs e=>lt35.tp _ _ (lt23.tp _ _ e);clear x4 em3 nd npm exF3 ecF3 z2 hnw;have hqs:∀m∈qs,m.1∈Aj ss/\(now<m.2.2.2.1/\m.2.2.1<m.2.2.2.1)/\m.2.2.2.1<=nw/\m.2.2∈DS ss now (Bm ss (evs++[e])) m.1 m.2.1:=λm hm=>by
      obtain⟨ht,h⟩:=(mm2 m).mp hm;obtain⟨h1,h2⟩:=Dx.mp h;show⟨ht,O0 pok ht h1,?_,h1⟩;have:EE nw m.2.2=AQ:=by simpa using h2
      show WS.mp (AFp this)
    have sp5:=Ar (K:=AH) ep5;have elp5:=c5.a.ie;have epr5:=c5.a.gx;showλ_ _ _ _ z3=>⟨_,_,sp5,Ap (j:=0) rfl,_,rfl,Ce ⟨_,_,sp5,Ap (j:=1) rfl,dm,.int nw,rfl,(Et em5).1.1,A.lp,r,now,AA nw,A.ps,xs,ss,qs,rfl,elp5,epr5,pok,lss,er5,rw5,nd2,sd2,(λm hm=>?_),λH6 s6=>⟨_,rfl,Ce (z3 _ _ ?_)⟩⟩⟩;. obtain⟨h1,h2,h3,_⟩:_:=hqs m hm;show⟨h1,h2.2,h2.1,λn hn=>by cases hn;show h3⟩
    have c6:=c5.ah s6;have em6:=s6 _ _ em5;obtain⟨n0,hn0,hwi⟩:_:=jI ss;have e0:(0:Int)<=e.1:=(oke' e (Ea _ (.head _))).1.1;have hS:∀(i:Nat)n a b wi,ss[i]?=AA (.join n a b wi)->(sdA i).1.Perm (Br (n0-wi) (Bm ss evs a))/\(sdA i).2.Perm (Br (n0-wi) (Bm ss evs b)):=λi n a b wi ei=>by
      have h:=w0.as i n a b wi ei;have hw:=hwi i n a b wi ei;have al:∀f∈(AU.join n a b wi).bo,∀y∈Bm ss evs f,n0-wi<=y.1:=λf hf y hy=>by obtain⟨i',s',_,e',rfl,t'⟩:=pok.ph i _ f ei hf;have:=(limT lim i' s' e' t').2 y hy;(first|lia|omega)
      rw[YS (al a (.head _)),YS (al b (.tail _ (.head _)))];show h
    showλ_ _ _ _ z4=>⟨dm,.ref A.dj,rfl,(Et em6).2.1,[],A.lp,A.dj,q,A.ps,ss,A.nc,A.jd,sdA,Bm ss evs,Bm ss (evs++[e]),evs,e,n0,rfl,c6.a.ie,c6.a.gx,pok,Ak lss (by decide),c6.a.df,(λc hc=>by cases hc),s6 _ _ ev5,hL,hS,by(first|lia|omega),λH7 m ys bt s7 jr7 hm em its br=>?_⟩;have jr7:=jr7.jz;have isd:∀b,EB ss A.jd b->∃kvs,H6 b=AA (.dK kvs):=λb hb=>c6.a.df.xg hb;have gr7:=c6.a.bc.fh s7 (λb hb=>.inr (isd b hb)) (λi hi=>(c6.a.vv i hi).1) c6.a.qh;have tel:∀i∈Aj ss,Of ss now (Bm ss evs) (Bm ss (evs++[e])) bt i:=λi hi=>mF pok hL hS (Eo hn0 w0.n) he (λi s ei ht=>(limT lim' i s ei ht).2) br hi;have hmd:¬∃i∈Aj ss,m=(A.gd i).d:=λ⟨i,hi,z⟩=>by obtain⟨_,_,_,g⟩:=gr7.jo i hi;have:=g.av.aq;rw[<-z,em]at this;cases this
    have em7:=s7 _ _ (λz=>x.am (.inl (.inl z))) em6;have lx:=its.dh;show⟨m,rfl,⟨_,AX em⟩,HQ (K:=AH) (xs:=ys) (λn σ H'=>(ER λ(o7 o8:Option AE)(gk':Nat->List (AL×AE))=>Qf (σ=[AA (.ref F.x),AA (.ref A.lp),AA (.ref q),AA (.ref dm),AA (.ref st),AA (.ref p),AA (.int now),o7,o8]) (NO ss A.dg A.je A.gd (Bm ss evs) bt now H7 n H' gk'))) ⟨AF,AF,gkA,rfl,.aci gr7 w0.al tel⟩ (λn σ H' _ hh=>by obtain⟨_,_,_,_,c⟩:=hh;show AX (c.sm _ _ hmd em)) (λn y σ H8 hy hI=>?_) λσ H8 hI=>?_⟩
    . lk;obtain⟨o7,o8,gk',rfl,c⟩:=hI;obtain⟨a,qi,i,s,it,dx,g,rfl,ea,eqi,v,gr,eo,tk,gd,tm,lg,lk,nx⟩:=c.at gr7 tel its hy;k_in;show⟨a,_,rfl,Ar ea,rfl,_,_,rfl,_,_,rfl,rfl,?_⟩;have em8:=c.sm _ _ (λ⟨i,hi,z⟩=>x.am (.inl (.inr ⟨i,hi,z⟩))) em7;show⟨dm,.ref A.dg,rfl,(Et em8).2.2.1,A.dg,.ref (A.gd i).x,rfl,by rw[<-v];show .inl ⟨A.je,.inl (i:Int),c.gr.aq,rfl,rfl⟩,?_⟩;show⟨(A.gd i).x,dx,_,rfl,eo,by rfl,[],(A.gd i).x,(A.gd i).p,(A.gd i).d,qi,s,g,gk' i,it,rfl,gr,(λc hc=>by cases hc),tk,gd,tm.1,tm.2,eqi,lg,lk,λH3 k3 s3 g3 l3=>⟨_,_,_,rfl,nx H3 k3 s3 g3 l3⟩⟩
    . lk;obtain⟨o7,o8,gk',rfl,c⟩:=hI;rw[lx]at c;obtain⟨gr8,lg8⟩:=c.adu tel;k_in;show z4 _ _ ?_;have s68:C6 (GN ss A.jd A.gd) H6 H8:=λb o nb e=>c.sm _ _ (λz=>nb (.inr z)) (s7 _ _ (λz=>nb (.inl z)) e);have jr8:=jr7.fh c.sm (λb⟨i,hi,z⟩=>.inr (by obtain⟨_,_,_,g⟩:=gr7.jo i hi;show⟨_,by rw[z];show g.av.aq⟩)) (λb⟨i,hi,z⟩=>by rw[z];show(c6.a.vv i hi).1) λ⟨i,hi,z⟩=>(c6.a.vv i hi).2 z;have c8:=c6.aev x s68 jr8 gr8;have em8:=s68 _ _ (λz=>x.am (.inl z)) em6;have lt68:FK H6 H8:=λb o e n1 n2=>s68 b o (λz=>by obtain⟨kv,e'⟩:=c6.a.abf z;rw[e]at e';show n2 _ (Bz e')) e;have lt58:FK H5 H8:=λb o e n1 n2=>lt68 b o (s6 _ _ e) n1 n2;have g8:Ah H4 H8:=λb o e'=>s68 _ _ (λz=>by have:=x.fA b z;rw[e']at this;cases this) (s6 _ _ (g5 _ _ e'));clear s68 lt68 jr7 gr7 jr8 gr8 s7 em7 em6 c6 c5 em5 c3 isd z3;have limF:∀i∈Aj ss,(Bm ss (evs++[e]) (FL ss i)).length<=600:=λi hi=>by have:=(lim'.acp pok (λ_=>AJ) hi).1;rw[Lc]at this;show this
      have lgg:∀i∈Aj ss,∀z,Dw (DS ss now (Bm ss (evs++[e])) i z)/\(DS ss now (Bm ss (evs++[e])) i z).length<=3000:=λi hi z=>by have:=lim'.vc pok (λ_=>AJ) now hi z;rw[Lc]at this;show this
      have hgg:∀i∈Aj ss,∀z,∀y∈DS ss now (Bm ss (evs++[e])) i z,C0 z/\y.1<y.2.1:=λi hi z y hy=>by show⟨YR pok oke' (λ_=>AJ) (now:=now) hi (z:=z) ?_,(O0 pok hi hy).2⟩;rw[Lc];show Vi hy
      showλ_ _ _ _ z5=>⟨_,_,Ar (lt58.tp _ _ ep5),Ap (j:=1) rfl,dm,.ref A.dg,rfl,(Et em8).2.2.1,dm,.int nw,rfl,(Et em8).1.1,A.lp,A.dg,A.ps,ss,A.je,A.gd,_,gk',AA nw,rfl,c8.a.ie,c8.a.gx,c8.a.di,pok,lss,c8.a.qd,c8.a.xh,c8.a.bc,(λi hi=>Ak (lg8 i hi) (limF i hi)),lgg,hgg,λH9 r2 xs2 qs2 gk2 s9 gr9 lg9 hr9 er9 rw9 nd9 sd9 mm9 lq9=>?_⟩;have e9:qs2=qs:=YI pok (g:=λt z=>Kw nw (DS ss now (Bm ss (evs++[e])) t z)) (λt ht z=>X0 (now:=AA nw) (lgg t ht z).1) nd9 nd2 sd9 sd2 mm9 mm2;rw[e9]at rw9;have s9w:C6 (GN ss A.jd A.gd) H8 H9:=λb o nb e=>s9 _ _ (λz=>nb (.inr z)) e;have lt89:FK H8 H9:=λb o e n1 n2=>s9w b o (λz=>by obtain⟨kv,e'⟩:=c8.a.abf z;rw[e]at e';show n2 _ (Bz e')) e;have lt59:FK H5 H9:=λb o e n1 n2=>lt89 b o (lt58 b o e n1 n2) n1 n2;have lt19:FK H1 H9:=λb o e n1 n2=>lt59 b o (lt15 b o e n1 n2) n1 n2;have jr9:=c8.a.df.fh s9 (λb⟨i,hi,z⟩=>.inr (by obtain⟨_,_,_,g⟩:=c8.a.bc.jo i hi;show⟨_,by rw[z];show g.av.aq⟩)) (λb⟨i,hi,z⟩=>by rw[z];show(c8.a.vv i hi).1) λ⟨i,hi,z⟩=>(c8.a.vv i hi).2 z;have c9:=c8.aev x s9w jr9 (gr9.vc (gg':=DS ss nw (Bm ss (evs++[e]))) λi hi=>funext λz=>by obtain⟨s,es,_⟩:=HM.mp hi;rw[JP es];change F8 s nw _ z=IV nw (DS ss now _ i z);rw[JP es];show(Xx nle _).symm);have em9:=s9w _ _ (λz=>x.am (.inl z)) em8;have g9:Ah H4 H9:=λb o e'=>s9w _ _ (λz=>by have:=x.fA b z;rw[e']at this;cases this) (g8 _ _ e');have rok:=X9 txt (qs:=qs) λm hm=>(hgg m.1 (hqs m hm).1 m.2.1 _ (hqs m hm).2.2.2).1;have rw9':=(Ov rw5).ae lt59.tp;have er9':=lt59.vp er5;have ep9:=lt59.tp _ _ ep5;have el9:=lt19.vp el1;have nlr:lh≠r:=BE el1 hr;show N0 (rw9'.dv er9') ((Ov rw9).dv er9) (Pu rok) ⟨_,rfl,Ce (z5 _ _ ?_)⟩;clear er9 rw9 z4 z5 s9 s9w gr9 mm9 nd9 sd9 jr9 c8 em8 g8 lt58;showλ_ _ _ _ z6=>⟨dm,.ref lh,rfl,(Et em9).2.2.2,.inl ⟨rfl,_,AX el9⟩,_,_,Ar ep9,Ap (j:=1) rfl,_,_,Ar ep9,Ap (j:=1) rfl,r,xs,rfl,.inl (AX er9'),λl1 hl1=>?_⟩;show BM hl1 λHa sa ea=>⟨Ba rfl,λl2 hl2=>?_⟩;show BM hl2 λHb sb eb=>⟨l1,l2,xs,[.non],rfl,rfl,sb _ _ ea,eb,by change xs.length+1<=Ay;(first|lia|omega),λl3 hl3=>?_⟩;have nl3:lh≠l3:=BE (sb _ _ (sa _ _ el9)) hl3;have nr3:r≠l3:=BE (sb _ _ (sa _ _ er9')) hl3;show BM hl3 λHc sc ec=>⟨Ba rfl,λt ht=>?_⟩;have ht':=ht;show BM ht λHd sd et=>?_;have sd9:=sa.aa (sb.aa (sc.aa sd));have eld:=sd9 _ _ el9;have ecd:=sd _ _ ec;show⟨lh,_,_,rfl,rfl,eld,by(first|lia|omega),z6 _ _ ?_⟩;have nplh:p≠lh:=λz=>by rw[z,el9]at ep9;cases ep9
      have erd:(AO Hd lh (.lst (hs++[.ref t]))) r=AA (.lst xs):=by rw[AW (El nlr)];show sd9 _ _ er9'
      show⟨_,.ref r,Ar (by rw[AW nplh];show sd9 _ _ ep9),Ap (j:=1) rfl,.inl ⟨rfl,_,AX erd⟩,r,_,_,rfl,rfl,erd,by(first|lia|omega),?_⟩;have tpL:By Hd (AO Hd lh (.lst (hs++[.ref t]))):=(HP Hd).gu eld λxs=>by intro z;cases z
      have tpR:By (AO Hd lh (.lst (hs++[.ref t]))) (AO (AO Hd lh (.lst (hs++[.ref t]))) r (.lst (xs++[.non]))):=(HP _).gu erd λxs=>by intro z;cases z
      have lt1d:FK H1 Hd:=λb o e n1 n2=>sd9 _ _ (lt19 b o e n1 n2);have odd:=(h1.ae lt1d).yz;have odr:=m7 (Me rw5 λb zs e=>tpL _ _ (sd9 _ _ (lt59.tp _ _ e)));have nf:∀{b:AD}{o:Bg},H1 b=AA o->b≠r:=λe=>BE e hr;have cE:=((c9.ah sd9).yz (ob:=.lst (hs++[.ref t])) eld odd x.lF x.lG x.lA x.lS).yz (ob:=.lst (xs++[.non])) erd odr (nf c1.f.ie) (nf c1.o.ie) (nf c1.a.ie) (nf c1.s.ie);have ntr:t≠r:=λz=>by rw[z,sc _ _ (sb _ _ (sa _ _ er9'))]at ht';cases ht'
      have ntl:t≠lh:=λz=>by rw[z,sc _ _ (sb _ _ (sa _ _ el9))]at ht';cases ht'
      have hE:LZ lh (AO (AO Hd lh (.lst (hs++[.ref t]))) r (.lst (xs++[.non]))) (hs++[.ref t]):=λv hv=>by
        rcases DN.mp hv with hv|hv;.show h1.adz lt1d el1 hr v hv
        . rw[Bt.mp hv];show⟨t,r,l3,xs,[.non],_,rfl,by rw[AW ntr,AW ntl];show et,Ac,by rw[AW (El nr3),AW (El nl3)];show ecd,rw9'.ae λb zs e=>tpR _ _ (tpL _ _ (sd9 _ _ e)),rok,.inr rfl,El nlr,El nl3⟩
      have gE:Ah H4 (AO (AO Hd lh (.lst (hs++[.ref t]))) r (.lst (xs++[.non]))):=λb o e=>by rw[AW (nf (g1 _ _ e)),AW (BE e x.aet)];show sd9 _ _ (g9 _ _ e)
      have emE:(AO (AO Hd lh (.lst (hs++[.ref t]))) r (.lst (xs++[.non]))) dm=AA (.dK (EU nw (cnt+1) (num+(qs.length:Int)) sl A.dj A.dg lh)):=by rw[AW (λz=>by rw[z,er9']at em9;cases em9),AW (λz=>by rw[z,el9]at em9;cases em9)];show sd9 _ _ em9
      have elE:(AO (AO Hd lh (.lst (hs++[.ref t]))) r (.lst (xs++[.non]))) lh=AA (.lst (hs++[.ref t])):=by rw[AW nlr];show Ac
      have evE:Ks (AO (AO Hd lh (.lst (hs++[.ref t]))) r (.lst (xs++[.non]))) q e:=tpR _ _ (tpL _ _ (lt1d.tp _ _ ev1));generalize AO (AO Hd lh (.lst (hs++[.ref t]))) r (.lst (xs++[.non]))=HE at cE hE gE emE elE evE⊢;lk;obtain⟨dxE,exE⟩:=cE.f.bz;obtain⟨dcE,ecE⟩:=cE.f.gv;k_in;have hF:=Qr pok lim' oke' f2.acj f2.bu;have fin:∀{H'},Ah HE H'->Q (.bl AJ) H':=λ{H'}s=>k H' (hs++[.ref t]) (evs++[e]) nw (cnt+1) (num+(qs.length:Int)) sdF' _ gkF' gk2 ⟨gE.aa s,cE.ah s,f2.acj,f2.bu,w0.ol,w0.os,λi hi=>Ak (lg9 i hi) (lg8 i hi),λi n a b wi ei=>by
        have hi:i<ss.length:=(BV.mp ei).1;obtain⟨pa,pb⟩:=w0.as i n a b wi ei;rw[KG ei,AFi hi];have ap:∀f∈(AU.join n a b wi).bo,(Bm ss (evs++[e]) f).Perm (Bm ss evs f++bt f):=λf hf=>by obtain⟨i',s',l,e',rfl,t'⟩:=pok.ph i _ f ei hf;show Oh pok (Eo hn0 e0) hL hS br ss.length i' s' (MG l hi) e' t'
        show⟨(pa.append_right _).trans (ap a (.head _)).symm,(pb.append_right _).trans (ap b (.tail _ (.head _))).symm⟩,s _ _ emE,s _ _ elE,hE.ae λb o e _ _=>s _ _ e,Eo w0.n nle⟩ (by rw[CI];show Al _) (.inr rfl);showλ_ _ _ _ z7=>⟨_,⟨exE,T.aj,T.cw,rfl⟩,_,⟨ecE,T.cj,T.dk,rfl⟩,dm,.int nw,rfl,(Et emE).1.1,rfl,_,rfl,Lx (C7 (λ_=>?_) λz=>absurd rfl z)⟩;show⟨_,⟨exE,T.aj,T.ff,rfl⟩,dm,.int (num+(qs.length:Int)),rfl,(Et emE).1.2.2.1,rfl,_,rfl,Lx (C7 (λ_=>z7 _ _ ?_) λz=>absurd rfl z)⟩;show⟨_,_,Ar evE,Ap (j:=3) rfl,(zzp rfl),rfl,_,rfl,C7 (λ_=>fin (CA _)) λ_=>⟨dm,.int nw,rfl,(Et emE).1.1,ss,F,sl,nw,cnt+1,num+(qs.length:Int),sdF',_,gkF',rfl,cE.f,lss,hF,(λt n a b wi et m i hi=>?_),(λt ht z y hy=>(O0 pok ht hy).1),λH' s=>fin s⟩⟩;obtain⟨pa,pb⟩:=f2.bu t n a b wi et;unfold Ox at hi;split at hi;.show AFm (Dx.mp (pa.mem_iff.mp hi)).2
      .show AFm (Dx.mp (pb.mem_iff.mp hi)).2
theorem mO(h:D1 H ps ss):Kt H ps:=λv W=>by lk;obtain⟨i,U,e⟩:=G8.mp W;obtain⟨a,s,D,_,J⟩:=h.at (by rw[Cr U,e]);k_in;show .inr ⟨a,_,D,J,λi z=>by cases s<;>cases z⟩
theorem NX(h:D1 H ps ss):EW AH H ps (ss.map λs=>Ih s.zx):=by induction h with|nil=>show .nil|cons a _ D=>obtain⟨a,rfl,e⟩:_:=a;show .cons (.tup (Ar e) (RY _)) D
theorem rT:LP "take"=AJ/\LP "only"=AJ/\LP "turn"=AJ/\LP "both"=AJ/\LP "join"=AJ/\LP "gap"=AJ/\LP "each"=AJ:=by decide+kernel
theorem Q4{ss:List AU}(D:∀s∈ss,∀t∈s.yj,C0 t):Hj (.list (ss.map λs=>Ih s.zx))=AJ:=by
 have e:(ss.map λs=>Ih s.zx)=(ss.map AU.zx).map Ih:=by rw[C8];rfl
 rw[e];show Pu λE J=>?_;lk;obtain⟨s,U,rfl⟩:=BQ.mp J;have t:=λx(V:x∈s.yj)=>(D s U x V).ok;obtain⟨W,Y,Z,z,A,B,C⟩:=rT;k_in;cases s<;>simp only[AU.yj,CJ,M8,AFt,forall_eq_or_imp,forall_eq]at t<;>simp[Gy,AU.zx,Lz,W,Y,Z,z,A,B,C,t]
theorem EK.cq(c:EK AN [] H ss A sd J gk)(D:JN ss A b):∃o,H b=AA o:=by
 rcases D with D|rfl|rfl;. obtain⟨U,e⟩:=c.abf D;show⟨_,e⟩
 .show⟨_,c.gq⟩
 .show⟨_,c.di⟩
theorem D9.cq(c:D9 AN H ss F W now J U sd V gk)(D:IU ss F b):∃o,H b=AA o:=by
 rcases D with(rfl|rfl|D)|D;. obtain⟨_,e⟩:=c.bz;show⟨_,e⟩
 . obtain⟨_,e⟩:=c.gv;show⟨_,e⟩
 .show c.toEK.cq (.inl D)
 .show c.toEK.cq (.inr D)
theorem Qq(c:EK AN [] H ss A sd (λ_ _=>[]) gk)(hi:i∈Aj ss):(gk i).length<=600:=by obtain⟨_,_,_,g⟩:_:=c.bc.jo i hi;cases q:gk i with|nil=>show Bd _|cons D l=>lk;obtain⟨z,r,J,_,_,_,w,n⟩:=g.av.zj D (by rw[q];show .head _);cases w;k_in;show absurd rfl n
theorem nO(h:v∈[AE.int (-1),.int 1000000001,.bl AJ,.non,.str "3",.int (-(10^(20:Int).toNat))]):Oe 0 1000000000 v:=by
 simp only[CJ,M8,AFt]at h;rcases h with rfl|rfl|rfl|rfl|rfl|rfl;.show .inr ⟨_,rfl,.inl (by decide)⟩
 .show .inr ⟨_,rfl,.inr (by decide)⟩
 .show .inl (.inr (.inl ⟨_,rfl⟩))
 .show .inl (.inl rfl)
 .show .inl (.inr (.inr ⟨_,rfl⟩))
 .show .inr ⟨_,rfl,.inl (by decide)⟩
theorem XC(c:EK AN [] H ss A sd (λ_ _=>[]) gk)(h:∀(i:Nat)n a b wi,ss[i]?=AA (.join n a b wi)->(sd i).1=[]/\(sd i).2=[]):MT ss sd (λ_ _=>[]) gk C0:=⟨λt⟨n,a,b,wi,e⟩=>by rw[(h t n a b wi e).1,(h t n a b wi e).2];show⟨Bd _,Bd _⟩,λt⟨n,a,b,wi,e⟩=>by rw[(h t n a b wi e).1,(h t n a b wi e).2];show⟨λx D=>(by cases D),λx D=>(by cases D)⟩,λt J=>⟨Qq c J,λz=>⟨.nil,Bd _⟩⟩,λt J z U=>absurd rfl U⟩
theorem NP.ah{K:AD}(w:NP ss F G A S E K L C H I evs now D Y z B Z U W J)(s:Ah H H'):NP ss F G A S E K L C H' I evs now D Y z B Z U W J:=⟨w.g.aa s,w.c.ah s,w.fl,w.fs,w.ol,w.os,w.al,w.as,s _ _ w.m,s _ _ w.l,w.h.ae λb o e _ _=>s _ _ e,w.n⟩
theorem k8(T:BR AH Af AN):HN P w AH Af base BI Oj AN.xj AN.zt ["_law_script"] (Nb AH):=by
    have G_Flow___init__:=kQ (P:=P) (w:=w) (base:=base) T;have G_Flow_finish:=kP (P:=P) (w:=w) (base:=base) T;show T.abk.ok YM (λ_ _ _ _ h=>by obtain⟨a,ns,rfl,_⟩:=h;rfl) λcdv A outer s H vs Q E hr h=>?_;obtain⟨a,ns,rfl,hS,hl,k⟩:_:=h;have nd:=(YM).nd;show⟨_,(Ag (BD 1 nd (Dj AH (Cy #v[AM,AM]) (AY CC (AY C4 (Ax (Kv T) hr #v[AB 0,AM]) AM) AM))) (Ag (BD 2 nd (Ax (kC T) hr #v[AB 0,AB 1])) (Ag (BD 3 nd (Ax (lV T) hr #v[AB 0])) (Cc (BD 4 nd (JV (Mq (K:=AH)) (by rfl) T.jc Ki #v[AB 2])) (Cc (BD 5 nd (Mb G_Flow___init__ hr T.uj Js #v[AB 4,AB 3])) (Cc (BD 6 nd (Mb G_Flow___init__ hr T.uj Js #v[AB 4,AB 3])) (Cc (Bi (BK (LF (K:=AH) hr.kz) (AB 4) (AB 2) (BF _)) (Ab (Aw Dh)) Bs) (Cc (FT (wN (K:=AH) QA ADe F.type_list_clear vS (AB 4))) (Cc (BD 7 nd (Ax (lC T) hr #v[AB 2,AB 3])) (Cc (BD 8 nd (Cy #v[Ax (Tv T) hr #v[AB 2],Ax (Tu T) hr #v[AB 2]])) (Cc (Bi (Fw (FH (Ax (Xi T) hr #v[AB 2,(Cg hr.u1 (AB 7) BZ (λ_ _=>rfl)),(Cg hr.u1 (AB 7) BZ (λ_ _=>rfl))]))) (Ab (Aw Dh)) Bs) (Cc (Bi (Fw (FH (Ax (lR T) hr #v[AB 2,Dj AH (Cy #v[VG VW AM,AM,Dh,IB,BZ,VG VW (AY Rq AM AM)]) (AY CC (Ax (Kv T) hr #v[AB 0,AM]) AM)]))) (Ab (Aw Dh)) Bs) (Cc (EG EN rfl (wY (by rfl) T.qw #v[AM,(Bw (Y2 rfl) (by rfl) T.aba AAk #v[(AY Fv (Bw (FE (K:=AH)) (by rfl) T.eh FJ #v[AB 0]) AM),AY DH AM (AY Fe AM (AB 1))]),AM]) (EF 9 nd) (Ab (Bi (Fw (FH (Ax (kH T) hr #v[AB 5,AB 2,Ax (kM T) hr #v[AB 0,AB 9],AB 7]))) (Ab (Aw Dh)) Bs))) (Cc (BD 10 nd (KD (AB 5) T.aj G_Flow_finish hr)) (Cc (FT (L7 AH (Cg hr.u1 (AB 7) BZ (λ_ _=>rfl)) #v[(Cq #v[AB 10,(JV (Mq (K:=AH)) (by rfl) T.jc Ki #v[AB 10])])])) (Cc (BD 11 nd (Ax (Xi T) hr #v[AB 2,Dj AH (AB 8) AM,Dj AH (AB 8) AM])) (Cc (Bi (Gd (Fx (Fw (FH (AB 11))) (JZ (BK (LF (K:=AH) hr.kz) (AB 10) (Ax (Xm T) hr #v[AB 2,(Cg hr.u1 (AB 7) BZ (λ_ _=>rfl)),IB]) (BF _))))) (Ab (Aw Dh)) Bs) (Cc (Bi (Gd (Fx (Fw (FH (Ax (Xj T) hr #v[AB 2,AB 10,(Cg hr.u1 (AB 7) BZ (λ_ _=>rfl)),IB]))) (JZ (BK L6 (Bq (AB 5) rfl) (AY DH (Cg hr.u1 (AB 7) BZ (λ_ _=>rfl)) (Bw (FE (K:=AH)) (by rfl) T.eh FJ #v[AB 10])) (BF _))))) (Ab (Aw Dh)) Bs) (Cc (Bi (Gd (Fx (BK (VB (K:=AH) hr.rj) (KD (AB 5) T.aj G_Flow_finish hr) (Cy Eg) (BF _)) (Fx (BK (LF (K:=AH) hr.kz) (Bq (AB 5) rfl) (AB 2) (BF _)) (JZ (BK (LF (K:=AH) hr.kz) (Bq (AB 6) rfl) (AB 2) (BF _)))))) (Ab (Aw Dh)) Bs) (Cc (Bi (BK LA (Bw (FE (K:=AH)) (by rfl) T.eh FJ #v[(HR (CU Q7) [] trivial (DI (K:=AH) (Cg hr.u1 (AB 7) BZ (λ_ _=>rfl))) (λ_ _ _ _=>HS (BK (LF (K:=AH) hr.kz) (Av AH (AB 0) AM) (Av AH (AB 0) AM) (BF _))) (λ_ _ _ _=>(AB 0)))]) AM (BF _)) (Ab (Aw Dh)) Bs) (Ag (Bi (BK LA (Bw (FE (K:=AH)) (by rfl) T.eh FJ #v[(HR (CU Q7) [("_law_flow",5)] ⟨rfl,rfl,trivial⟩ (N3 (Bq (AB 5) rfl)) (λ_ _ _ _=>HS (BK (VB (K:=AH) hr.rj) (KD (Cg hr.u1 (Rr (K:=AH) (AB 1) rfl) (AB 0) (λ_ _=>rfl)) T.bh (Q1 T) hr) (Cy Eg) (BF _))) (λ_ _ _ _=>(AB 0)))]) AM (BF _)) (Ab (Aw Dh)) Bs) (Ab (Aw (JU (Ik (vZ (K:=AH) hr.rj) (KD (AB 6) T.aj G_Flow_finish hr) (Cy Eg) (BF _)) (JU (Ik (U9 (K:=AH) hr.kz) (Ax (Q2 T) hr #v[AB 6]) (Ax (Q2 T) hr #v[Mb G_Flow___init__ hr T.uj Js #v[AB 2,AB 3]]) (BF _)) (KW (Ik Cp (Bq (Bq (AB 6) rfl) rfl) AM (BF _)))))))))))))))))))))))))))),?_⟩;have sz:Ay=16777216:=Dc;show⟨Ba rfl,λp0 hp0=>?_⟩;show BM hp0 λH1 g1 ep0=>?_;show⟨a,ns,_,rfl,g1.vd hS,by decide,hl,λc0=>?_⟩;lk;obtain⟨v,hv,hm⟩:=Ie [AE.int 8,.int 20] 2 rfl (by decide) (c0/432);obtain⟨mo,rfl,hmo⟩:∃mo:Nat,v=.int (mo:Int)/\(mo=8\/mo=20):=by
      simp only[CJ,M8,AFt]at hm;rcases hm with rfl|rfl;.show⟨8,rfl,.inl rfl⟩
      .show⟨20,rfl,.inr rfl⟩
    k_in;show⟨(zzd rfl),(zzp rfl),_,_,AX ep0,hv,?_⟩;show⟨a,ns,mo,rfl,g1.vd hS,hl,by(first|lia|omega),λlp H2 ps ss z g2 hlp elp pr pok lss txt siz=>?_⟩;show⟨a,ns,rfl,g2.vd (g1.vd hS),hl,λsl H4 g4 s0 s1=>?_⟩;have hS4:=g4.vd (g2.vd (g1.vd hS));have elp4:=g4 _ _ elp;have pr4:=pr.ae g4.tp;clear g1 g2 g4 ep0 elp pr hS hv hm;showλ_ _ _ _ z1=>⟨lp,ps,rfl,.inl (AX elp4),λhd hhd=>z1 _ _ ?_⟩;show BM hhd λH5 g5 ehd=>?_;have elp5:=g5 _ _ elp4;have pr5:=pr4.ae g5.tp;showλ_ _ _ _ z2=>λy dy hy hdy hyn=>⟨y,dy,hd,ps,ss,sl,rfl,Ac,by rw[AW (BE ehd hy),AW (BE ehd hdy)];show ehd,pr5.ae λb xs e=>by rw[AW (BE e hy),AW (BE e hdy)];show e,lss,s0,s1,λH6 F sdF gkF eF sy f6 freF flp=>⟨rfl,z2 _ _ ?_⟩⟩;subst eF;have g6:Ah H5 H6:=Tn hy hdy sy;have fF5:∀b,IU ss F b->H5 b=AF:=λb hb=>(freF b (by rcases hb with hb|hb;show .inl hb;show .inr hb)).elim (λz=>by rw[z];show hy) λz=>(Oq hyn z).1;have nF:F.lp≠hd:=λz=>by rw[z]at flp;have:=(Oq hyn flp).1;rw[ehd]at this;cases this
    showλ_ _ _ _ z3=>λy dy hy hdy hyn=>⟨y,dy,hd,ps,ss,sl,rfl,Ac,by rw[AW (BE (g6 _ _ ehd) hy),AW (BE (g6 _ _ ehd) hdy)];show g6 _ _ ehd,(pr5.ae g6.tp).ae λb xs e=>by rw[AW (BE e hy),AW (BE e hdy)];show e,lss,s0,s1,λH7 G sdG gkG eG sy f7 freG glp=>⟨rfl,z3 _ _ ?_⟩⟩;subst eG;have g7:Ah H6 H7:=Tn hy hdy sy;have fG6:∀b,IU ss G b->H6 b=AF:=λb hb=>(freG b (by rcases hb with hb|hb;show .inl hb;show .inr hb)).elim (λz=>by rw[z];show hy) λz=>(Oq hyn z).1;have nG:G.lp≠hd:=λz=>by rw[z]at glp;have:=(Oq hyn glp).1;rw[g6 _ _ ehd]at this;cases this
    have fF7:=f6.ag.ah g7;have g57:=g6.aa g7;have elp7:=g57 _ _ elp5;have ehd7:=g57 _ _ ehd;have pr7:=pr5.ae g57.tp;clear freF freG flp glp sy hy hdy hyn z1;showλ_ _ _ _ z4=>⟨_,_,.lst (AX ehd7) (NX pr7),.lst (AX elp7) (NX pr7),Q4 txt,Q4 txt,?_⟩;rw[V7 _ (V6 (Q4 txt))];show⟨_,rfl,Ce (z4 _ _ ?_)⟩;showλ_ _ _ _ z5=>⟨.inl ⟨rfl,_,AX ehd7⟩,hd,ps,rfl,rfl,ehd7,z5 _ _ ?_⟩;have od:=mO pr7;have f8:=fF7.yz (o:=.lst []) ehd7 od nF;have o8:=f7.ag.yz (o:=.lst []) ehd7 od nG;have g48:Ah H4 (AO H7 hd (.lst [])):=λb o e=>by rw[AW (BE e hhd)];show g57 _ _ (g5 _ _ e)
    have elp8:=g48 _ _ elp4;have pr8:=pr4.ae g48.tp;generalize AO H7 hd (.lst [])=H8 at f8 o8 g48 elp8 pr8⊢;clear z2 z3 z4 ehd7 od pr7 elp7 g57 fF7;showλ_ _ _ _ z6=>⟨lp,sl,ps,ss,rfl,elp8,pr8,lss,λH9 dm lh A eA s9 hdm hlh em9 el9 a9 frA=>z6 _ _ ?_⟩;have elp9:=s9 _ _ elp8;have pr9:=pr8.ae s9.tp;showλ_ _ _ _ z7=>⟨lp,ps,ss,rfl,elp9,pr9,by(first|lia|omega),λHa dj jkvs jd sa hdj ej jks jr fj=>⟨lp,ps,ss,rfl,sa _ _ elp9,pr9.ae sa.tp,by(first|lia|omega),λHb dg gkvs gd sb hdg eg lkg gks gr fg=>⟨Ba rfl,λsp hsp=>z7 _ _ ?_⟩⟩⟩;have sS:=Wo (sb _ _ (sa _ _ elp9)) (pr9.ae λb xs e=>sb _ _ (sa _ _ e)) lss ej jks jr sb hdg eg lkg gks gr fg;show BM hsp λHc sc ec=>?_;have s9c:=sa.aa (sb.aa sc);lk;obtain⟨S,eS⟩:∃S:Ey,S=⟨lp,ps,dj,jkvs,jd,dg,gkvs,gd⟩:=⟨_,rfl⟩;have frS:∀b,JN ss S b->H9 b=AF:=λb hb=>by
      subst eS;rcases hb with(hb|⟨i,hi,rfl⟩)|rfl|rfl;.show fj _ hb
      .show sa.au (fg i hi)
      .show hdj
      .show sa.au hdg
    have dis:∀{H:AI}{p q:AD->Prop},(∀b,p b->∃o,H b=AA o)->(∀b,q b->H b=AF)->∀b,p b->¬q b:=λh1 h2 b hp hq=>by obtain⟨o,e⟩:=h1 b hp;rw[h2 b hq]at e;cases e
    have g49:=g48.aa s9;have toB:∀{b:AD}{o:Bg},H9 b=AA o->b≠sp:=λe=>BE (sb _ _ (sa _ _ e)) hsp;obtain⟨HB,eB⟩:∃HB:AI,HB=AO H4 sp (.lst [.ref dj,.ref dg]):=⟨_,rfl⟩;k_in;have gB:Ah H4 HB:=λb o e=>by rw[eB,AW (toB (g49 _ _ e))];show e
    have nB:∀{b:AD},H4 b=AF->b≠sp->HB b=AF:=λh n=>by rw[eB,AW n];show h
    have gC:Ah HB Hc:=λb o e=>by
      rw[eB]at e;by_cases q:b=sp
      . rw[q,Ac]at e;rw[q,ec];show e
      . rw[AW q]at e;show s9c _ _ (g49 _ _ e)
    have x:Oc HB ss F G A S dm lh:=by
      show⟨dis (λb hb=>f6.ag.cq hb) fG6,dis (λb hb=>f8.cq hb) λb hb=>(frA b hb).1,dis (λb hb=>(f8.ah s9).cq hb) frS,dis (λb hb=>o8.cq hb) λb hb=>(frA b hb).1,dis (λb hb=>a9.cq hb) frS,λz=>?_,λz=>?_,λz=>(frA _ z).2 rfl,λz=>?_,BE f8.ie hlh,BE o8.ie hlh,?_,?_,λb hb=>nB (g5.au (fF5 b (.inl hb))) ?_,λb hb=>nB (g48.au (frA b (.inl hb)).1) ?_,nB (g48.au hdm) (toB em9),nB (g48.au hlh) (toB el9)⟩;. obtain⟨o,e⟩:=f8.cq z;rw[hdm]at e;cases e
      . obtain⟨o,e⟩:=o8.cq z;rw[hdm]at e;cases e
      . rw[frS _ z]at em9;cases em9
      . rw[eA];show BE elp8 hlh
      . rw[eS];show BE elp8 hlh
      . obtain⟨o,e⟩:=f8.cq (.inl hb);show toB (s9 _ _ e)
      . obtain⟨o,e⟩:=a9.cq (.inl hb);show toB e
    have sem0:∀i,DS ss 0 (Bm ss []) i=λ_=>[]:=λi=>by change DS ss 0 (F5 ss [] ss.length) i=_;rw[Qj];show Oy ss 0 i
    have le0:∀f,Bm ss [] f=[]:=λf=>by change F5 ss [] ss.length f=_;rw[Qj]
    have si0:∀f,DS ss 0 (λ_=>[]) f=λ_=>[]:=Oy ss 0;have fc:=(f8.ah s9).ah s9c;have oc:=(o8.ah s9).ah s9c;have w0:NP ss F G A S dm lh sl HB Hc [] [] 0 0 0 sdF sdG (λ_=>([],[])) gkF gkG (λ_=>[]):=by show⟨gC,⟨fc.vc λi hi=>by rw[sem0,si0],oc.vc λi hi=>by rw[si0],(a9.ah s9c).vc λi hi=>sem0 i,by rw[eS];show sS.ah sc⟩,λi hi=>by rw[le0];show f6.acj i hi,λi n a b wi ei=>by rw[le0,le0];show f6.bu i n a b wi ei,λi hi=>f7.acj i hi,λi n a b wi ei=>?_,λi hi=>Bd _,λi n a b wi ei=>by rw[le0,le0];show⟨.nil,.nil⟩,s9c _ _ em9,s9c _ _ el9,λv hv=>(by cases hv),Qc _⟩;obtain⟨h1,h2⟩:=f7.bu i n a b wi ei;show⟨SE.mp h1,SE.mp h2⟩
    have eB:HB sp=AA (.lst [.ref S.dj,.ref S.dg]):=by rw[eB,eS];show Ac
    have nsp:sp≠lh:=(toB el9).symm;have hS4:=gB.vd hS4;clear gB gC nB toB ec fc oc frS dis sS frA f8 o8 f6 f7 a9 fF5 fG6 z5 z6 eS nF nG g6 g7 g5 g48 s9 s9c sa sb sc g49;subst eA;showλ_ _ _ _ z8=>⟨dm,.ref A.dj,rfl,(Et w0.m).2.1,dm,.ref A.dg,rfl,(Et w0.m).2.2.1,A.lp,A.dj,A.dg,A.ps,ss,A.nc,A.je,A.jd,A.gd,λ_=>[],rfl,w0.c.a.ie,w0.c.a.gx,lss,w0.c.a.gq,w0.c.a.yq,w0.c.a.df,w0.c.a.di,w0.c.a.xh,w0.c.a.qd,(w0.c.a.vc (gg':=λ_ _=>[]) λi hi=>(sem0 i).symm).bc,(λt ht=>Bd _),λHd sd=>⟨_,rfl,Ce (z8 _ _ ?_)⟩⟩;have w1:=w0.ah sd;clear w0 sd;showλ_ _ _ _ z9=>⟨_,_,rfl,rfl,⟨by decide,by decide,by decide⟩,Ba rfl,λl6 hl6=>?_⟩;show BM hl6 λHe se e6=>?_;show⟨a,ns,_,rfl,(w1.g.aa se).vd hS4,by decide,hl,λc1=>⟨(zzp rfl),?_⟩⟩;obtain⟨v,hv,hm⟩:_:=Ie [AE.int (-1),.int 1000000001,.bl AJ,.non,.str "3",.int (-(10^(20:Int).toNat))] 6 rfl (by decide) c1;show⟨_,v,AX e6,hv,?_⟩;show⟨A.lp,A.ps,v,rfl,se _ _ w1.c.a.ie,nO hm,λHf sf=>⟨_,rfl,Ce (z9 _ _ ?_)⟩⟩;have w2:=w1.ah (se.aa sf);clear w1 se sf e6 hl6 hv hm;have lns:(ns.map AE.int).length=ns.length:=BB ..;have hS2:=w2.g.vd hS4;showλ_ _ _ _ za=>⟨_,.inl hS2,.inl ⟨by decide,by decide⟩,_,_,_,rfl,⟨by decide,by decide,by decide,by decide,?_,?_⟩,?_⟩;.rw[lns];split<;>(first|lia|omega)
    .rw[lns];split<;>(first|lia|omega)
    have hn:Fz 15 (if 15+2*(mo:Int)<((ns.map AE.int).length:Int)-1 then 15+2*(mo:Int)else((ns.map AE.int).length:Int)-1) 2<=mo:=by unfold Fz;(repeat' split)<;>(first|lia|omega)
    generalize Fz 15 (if 15+2*(mo:Int)<((ns.map AE.int).length:Int)-1 then 15+2*(mo:Int)else((ns.map AE.int).length:Int)-1) 2=nt at hn⊢;show t8 (λi σ H'=>(Qh λ(o:Option AE)(hs:List AE)(evs:List CL)(now cnt num:Int)(sdF sdA:ET)(gkF gkA:Er)=>Ee (σ=[AA (.ref a),AA (.int (mo:Int)),AA (.ref A.lp),AA (.int sl),AA (.ref hd),AA (.ref F.x),AA (.ref G.x),AA (.ref dm),AA (.ref sp),o,AF,AF]) (NP ss F G A S dm lh sl HB H' hs evs now cnt num sdF sdG sdA gkF gkG gkA) (hs.length<=i) (evs.length<=i) (∀e∈evs,Ho (Hr e)))) ⟨AF,[],[],0,0,0,_,_,_,_,rfl,w2,Bd _,Bd _,λe he=>(by cases he)⟩ ?_ ?_
    . intro i σ H0 hi hI;obtain⟨o,hs,evs,now,cnt,num,sdF',sdA,gkF',gkA,rfl,w3,lhs,lev,oke⟩:_:=hI;show⟨a,ns,_,rfl,w3.g.vd hS4,hl,by(first|lia|omega),λq Hb e gb hq eq ak az te=>?_⟩;have w4:=w3.ah gb;have oke':∀e'∈evs++[e],Ho (Hr e'):=λe' he'=>(DN.mp he').elim (oke e') λh=>by rw[Bt.mp h];show⟨te,az⟩
      have lim:=S8 pok siz (evs:=evs) (by(first|lia|omega)) oke;have lim':=S8 pok siz (evs:=evs++[e]) (by rw[CI];change evs.length+1<=mo;(first|lia|omega)) oke';show⟨HB,ss,F,G,A,S,dm,lh,q,sl,now,cnt,num,hs,evs,e,sdF',sdG,sdA,gkF',gkG,gkA,rfl,x,w4,pok,lss,txt,lim,lim',oke',by(first|lia|omega),eq,λH' hs' evs' now' cnt' num' sdF2 sdA2 gkF2 gkA2 w5 lh5 ev5=>⟨_,rfl,Ce ⟨_,hs',evs',now',cnt',num',sdF2,sdA2,gkF2,gkA2,rfl,w5,by(first|lia|omega),?_,?_⟩⟩⟩
      . rcases ev5 with rfl|rfl;. (first|lia|omega)
        . rw[CI];show Nat.add_le_add_right lev 1
      . rcases ev5 with rfl|rfl;.show oke
        .show oke'
    . intro σ H0 hI;obtain⟨o,hs,evs,now,cnt,num,sdF',sdA,gkF',gkA,rfl,w3,lhs,lev,oke⟩:_:=hI;show za _ _ ?_;clear w2 za z9 z8 z7 hS2 sem0 le0 si0;have lim:=S8 pok siz (evs:=evs) (Ak lev hn) oke;have hqF:=Qr pok lim oke w3.fl w3.fs;obtain⟨dxF,exF⟩:=w3.c.f.bz;showλ_ _ _ _ zb=>⟨F.x,dxF,_,rfl,exF,by rfl,ss,F,sl,now,cnt,num,sdF',_,gkF',rfl,w3.c.f,pok,lss,(λt ht=>(hqF.gl t ht).1),(λt ht=>(hqF.gl t ht).2),λH2 r xs qs gk2 u2 f2 hr2 er2 rw2 nd2 sd2 mm2 lq2=>zb _ _ ?_⟩;have c2:=w3.c.wo x u2 f2;have lt2:=w3.c.f.lt u2;have em2:=u2 _ _ (λz=>x.fm (.inl z)) w3.m;have el2:=lt2.vp w3.l;have e2:=lt2.vp (w3.g _ _ eB);have h2:=w3.h.ae lt2;have g2:Ah HB H2:=λb o e'=>u2 _ _ (λz=>by have:=x.fF b z;rw[e']at this;cases this) (w3.g _ _ e');have lx:=(Cf rw2).1;have nlr:lh≠r:=BE w3.l hr2;showλ_ _ _ _ zc=>⟨dm,.ref lh,rfl,(Et em2).2.2.2,.inl ⟨rfl,_,AX el2⟩,r,xs,rfl,.inl (AX er2),λl1 hl1=>?_⟩;have nl1:lh≠l1:=BE el2 hl1;show BM hl1 λHa sa el1=>⟨Ba rfl,λt ht=>?_⟩;show BM ht λHb sb et=>?_;have s2b:=sa.aa sb;have elb:=s2b _ _ el2;show⟨lh,_,_,rfl,rfl,elb,by(first|lia|omega),zc _ _ ?_⟩;have ntl:t≠lh:=λz=>by rw[z,elb]at et;cases et
      have tpL:By Hb (AO Hb lh (.lst (hs++[.ref t]))):=(HP Hb).gu elb λxs=>by intro z;cases z
      have od:=(h2.ae λb o e _ _=>s2b _ _ e).yz;have c6:=(c2.ah s2b).yz (ob:=.lst (hs++[.ref t])) elb od x.lF x.lG x.lA x.lS;have rw6:=Me rw2 λb zs e=>tpL _ _ (s2b _ _ e);have er6:(AO Hb lh (.lst (hs++[.ref t]))) r=AA (.lst xs):=by rw[AW (El nlr)];show s2b _ _ er2
      have rok:=X9 txt (qs:=qs) λm hm=>by obtain⟨h1,h2⟩:=(mm2 m).mp hm;show hqF.gp m.1 h1 m.2.1 (Vi h2)
      have h6:LZ lh (AO Hb lh (.lst (hs++[.ref t]))) (hs++[.ref t]):=λv hv=>by
        rcases DN.mp hv with hv|hv
        . obtain⟨q,r0,r0',ys,tl,kss,e,e1,e2,e3,w,ok,n,n1,n2⟩:=h2 v hv;show⟨q,r0,r0',ys,tl,kss,e,tpL _ _ (s2b _ _ e1),by rw[AW n1];show s2b _ _ e2,by rw[AW n2];show s2b _ _ e3,w.ae λb zs e=>tpL _ _ (s2b _ _ e),ok,n,n1,n2⟩
        . rw[Bt.mp hv];show⟨t,r,l1,xs,[],_,rfl,by rw[AW ntl];show et,by rw[Ew];show er6,by rw[Ew,AW (El nl1)];show sb _ _ el1,(Ov rw6),rok,.inl rfl,El nlr,El nl1⟩
      have el6:(AO Hb lh (.lst (hs++[.ref t]))) lh=AA (.lst (hs++[.ref t])):=Ac;have em6:(AO Hb lh (.lst (hs++[.ref t]))) dm=AA (.dK (EU now cnt num sl A.dj A.dg lh)):=by rw[AW (λz=>by rw[z,el2]at em2;cases em2)];show s2b _ _ em2
      have e6:(AO Hb lh (.lst (hs++[.ref t]))) sp=AA (.lst [.ref S.dj,.ref S.dg]):=by rw[AW nsp];show s2b _ _ e2
      have g6:Ah HB (AO Hb lh (.lst (hs++[.ref t]))):=λb o e=>by rw[AW (BE e x.aet)];show s2b _ _ (g2 _ _ e)
      generalize AO Hb lh (.lst (hs++[.ref t]))=H6 at c6 rw6 er6 h6 el6 em6 e6 g6⊢;clear c2 lt2 em2 el2 e2 h2 g2 u2 f2 tpL od ht et sa sb s2b elb el1 hl1 rw2 er2 zb zc exF;have gF:∀t∈Aj ss,(gkA t).length<=600:=λt ht=>by have:=(lim.acp pok (λ_=>AJ) ht).1;rw[Lc]at this;show Ak (w3.al t ht) this
      have hgg:∀t∈Aj ss,∀z,∀y∈DS ss now (Bm ss evs) t z,C0 z/\y.1<y.2.1:=λt ht z y hy=>⟨hqF.gp t ht z (Vi hy),(O0 pok ht hy).2⟩;showλ_ _ _ _ zd=>⟨_,_,AX e6,Ap (j:=0) rfl,_,_,AX e6,Ap (j:=1) rfl,A.lp,S.dj,S.dg,A.ps,ss,S.nc,S.je,S.jd,S.gd,λ_=>[],rfl,c6.a.ie,c6.a.gx,lss,c6.s.gq,c6.s.yq,c6.s.df,c6.s.di,c6.s.xh,c6.s.qd,c6.s.bc,(λt ht=>Bd _),λH7 s7=>zd _ _ ?_⟩;have c7:=c6.ah s7;have em7:=s7 _ _ em6;have hu:∀t∈Aj ss,∀z,Dw (DS ss now (Bm ss evs) t z):=λt ht z=>((hqF.gl t ht).2 z).1;showλ_ _ _ _ ze=>⟨_,rfl,Ce ⟨dm,.ref A.dg,rfl,(Et em7).2.2.1,A.lp,A.dg,A.ps,ss,A.je,A.gd,_,gkA,AF,rfl,c7.a.ie,c7.a.gx,c7.a.di,pok,lss,c7.a.qd,c7.a.xh,c7.a.bc,gF,(λt ht=>(hqF.gl t ht).2),hgg,λH8 r2 xs2 qs2 gk3 s8 gr8 lg8 hr8 er8 rw8 nd8 sd8 mm8 lq8=>?_⟩⟩;have e8:qs2=qs:=YI pok hu nd8 nd2 sd8 sd2 mm8 mm2;rw[e8]at rw8;have s8w:C6 (GN ss A.jd A.gd) H7 H8:=λb o nb e=>s8 _ _ (λz=>nb (.inr z)) e;have hd8:∀b,GN ss A.jd A.gd b->∃kvs,H7 b=AA (.dK kvs):=λb hb=>c7.a.abf hb;have f8:=c7.f.uz s8w hd8 λb hb y=>x.fa b y (.inl hb);have o8:=c7.o.uz s8w hd8 λb hb y=>x.ga b y (.inl hb);have lt68:FK H6 H8:=λb o e n1 n2=>s8w b o (λz=>by obtain⟨kv,e'⟩:=hd8 b z;rw[s7 _ _ e]at e';show n2 _ (Bz e')) (s7 _ _ e);have em8:=s8w _ _ (λz=>x.am (.inl z)) em7;have er8':=lt68.vp er6;have rw8':=Me rw6 lt68.tp;show N0 ((Ov rw8').dv er8') ((Ov rw8).dv er8) (Pu rok) ⟨_,rfl,Ce (ze _ _ ?_)⟩;have g8:Ah HB H8:=λb o e=>s8w _ _ (λz=>by have:=x.fA b z;rw[e]at this;cases this) (s7 _ _ (g6 _ _ e));have elp8:=lt68.vp c6.a.ie;have pr8:=c6.a.gx.ae lt68.tp;have el8:=lt68.vp el6;have h8:=h6.ae lt68;obtain⟨dx8,ex8⟩:=f8.bz;clear zd c7 c6 em7 em6 e6 el6 h6 er8 rw8 s8 s8w hd8 gr8 mm8 nd8 sd8 lt68 er6 rw6 g6 gF;showλ_ _ _ _ zf=>⟨dm,.int now,rfl,(Et em8).1.1,A.lp,r,now,AF,A.ps,xs,ss,qs,rfl,elp8,pr8,pok,lss,er8',rw8',nd2,sd2,(λm hm=>?_),λH9 s9=>⟨_,rfl,Ce ?_⟩⟩
      . lk;obtain⟨h1,h2⟩:=(mm2 m).mp hm;obtain⟨h3,h4⟩:=O0 pok h1 h2;k_in;show⟨h1,h4,h3,λn hn=>by cases hn⟩
      show⟨_,⟨s9 _ _ ex8,T.aj,T.ff,rfl⟩,dm,.int num,rfl,(Et (s9 _ _ em8)).1.2.2.1,_,.inl (AX (s9 _ _ er8')),rfl,_,rfl,Lx (C7 (λ_=>zf _ _ ?_) λz=>absurd (by rw[lx]) z)⟩;have f9:=f8.ah s9;have o9:=o8.ah s9;have ex9:=s9 _ _ ex8;showλ_ _ _ _ zg=>⟨F.x,dx8,_,rfl,ex9,by rfl,ss,F,sl,now,cnt,_,sdF',_,gk2,rfl,f9,pok,lss,(λt ht=>Qq f9.toEK ht),(λt ht z=>⟨.nil,Bd _⟩),λHa ra xa qa gka ua fa hra era rwa nda sda mma lqa=>⟨Bd _,λl9 hl9=>?_⟩⟩;have qa0:qa=[]:=bO.mpr λm hm=>by cases((mma m).mp hm).2
      subst qa0;cases rwa;have oa:=o9.wo f9 x.fg ua;have lta:=f9.lt ua;show BM hl9 λHb sb el9=>⟨ra,l9,[],rfl,rfl,AX (sb _ _ era),AX el9,_,rfl,Ce ?_⟩;have fb:=fa.ah sb;have ob:=oa.ah sb;have lt8b:FK H8 Hb:=λb o e n1 n2=>sb _ _ (lta b o (s9 _ _ e) n1 n2);have elpb:=lt8b.vp elp8;have prb:=pr8.ae lt8b.tp;lk;obtain⟨dxb,exb⟩:=fb.bz;obtain⟨dyb,eyb⟩:=ob.bz;k_in;have shp:=Q4 txt;show⟨_,⟨exb,T.aj,T.ir,rfl⟩,_,_,.lst (AX fb.ie) (NX fb.gx),.lst (AX elpb) (NX prb),shp,shp,?_⟩;rw[V7 _ (V6 shp)];show⟨_,rfl,Ce ⟨_,⟨eyb,T.aj,T.ir,rfl⟩,_,_,.lst (AX ob.ie) (NX ob.gx),.lst (AX elpb) (NX prb),shp,shp,?_⟩⟩;rw[V7 _ (V6 shp)];show⟨_,rfl,Ce (zg _ _ ?_)⟩;have emb:Hb dm=AA (.dK (EU now cnt num sl A.dj A.dg lh)):=sb _ _ (ua _ _ (λz=>x.fm (.inl z)) (s9 _ _ em8));have elb:=lt8b.vp el8;have hb:=h8.ae lt8b;clear zf zg ze f8 o8 f9 o9 fa oa g8 em8 el8 h8 ex8 ex9 er8' rw8' lt8b lta ua elp8 pr8 el9 hl9;showλ_ _ _ _ zh=>⟨dm,.ref lh,rfl,(Et emb).2.2.2,lh,rfl,⟨_,AX elb⟩,Ue (K:=AH) (xs:=hs++[.ref t]) (λ_=>AQ) (λx=>x) (AX elb) (by rw[CI];change hs.length+1<=Ay;(first|lia|omega)) (λv R hv rr=>?_) (λv R hv h=>by cases h) λD hD=>?_⟩;. lk;obtain⟨q,r0,r0',ys,tl,kss,rfl,e1,e2,e3,w,ok,n,_⟩:=hb v hv;obtain⟨DD,dd,sh⟩:=i6 w ok n;k_in;show⟨_,_,Ar e1,Ap (j:=0) rfl,_,_,Ar e1,Ap (j:=1) rfl,N0 (.lst (AX e2) dd) (.lst (AX e3) dd) sh ⟨_,rfl,rr⟩⟩
      rw[TZ];show BM hD λHc sc eD=>⟨_,.inl (AX eD),_,rfl,Ce (zh _ _ ?_)⟩;have fc:=fb.ah sc;have oc:=ob.ah sc;have exc:=sc _ _ exb;have elpc:=sc _ _ elpb;have prc:=prb.ae sc.tp;clear zh fb ob exb eyb elpb prb emb elb hb eD hD;show⟨_,⟨exc,T.aj,T.bx,rfl⟩,F.dg,F.je,rfl,.inl fc.di,λo' Hd edd ned=>?_⟩;have grd:=fc.bc.qr (.inr ⟨o',edd⟩) ned;have exd:Hd F.x=AA (.ins AN.ax dxb (KA F (num+(qs.length:Int)+(([]:List C1).length:Int)))):=by rw[ned _ λz=>by rw[z,fc.di]at exc;cases exc];show exc
      show Y7 (n0:=1) (kvs:=F.je) (λn τ acc H'=>(∃o,τ=[o,AA (.ref F.x)])/\acc=[]/\Ah Hd H') (Ak fc.qd (by decide)) ⟨⟨_,rfl⟩,rfl,CA _⟩ (λn τ acc H'⟨_,_,s'⟩=>s' _ _ edd) ?_ ?_
      . intro n q τ acc H2 R1 R0 hn _ hI k1 k0;lk;obtain⟨⟨o',rfl⟩,rfl,s2⟩:=hI;obtain⟨t,ht,rfl⟩:=fc.xh.wm q (Ct hn);have gr2:=grd.ah s2;obtain⟨st,es,vt,g⟩:=gr2.jo t ht;obtain⟨dxg,exg⟩:=g.bz;k_in;show⟨_,⟨s2 _ _ exd,T.aj,T.bx,rfl⟩,F.dg,.ref (F.gd t).x,rfl,by rw[<-vt];show .inl ⟨F.je,.inl (t:Int),gr2.aq,rfl,rfl⟩,(F.gd t).x,dxg,_,rfl,exg,by rfl,[],(F.gd t).x,(F.gd t).p,(F.gd t).d,st,_,gka t,rfl,g,Qq fc.toEK ht,(λz=>Bd _),λH3 r ys ks s3 hr3 er3 pk3 _ _ _ lk3=>⟨Bd _,λl4 hl4=>?_⟩⟩;have e0:EV (λ_=>[]) ks=[]:=bO.mpr λm hm=>by cases(Li.mp hm).2
        rw[e0]at pk3;cases pk3;show BM hl4 λH4 s4 el4=>⟨r,l4,[],rfl,rfl,AX (s4 _ _ er3),AX el4,_,rfl,Ce (k0 _ _ ⟨⟨_,rfl⟩,rfl,s2.aa (s3.aa s4)⟩)⟩
      . intro τ acc H2 _ hI D hD;obtain⟨_,rfl,s2⟩:_:=hI;show BM hD λH3 s3 eD=>⟨_,.inl (AX eD),_,rfl,Ce ?_⟩;have sd3:C6 (λb=>b=F.dg) Hc H3:=λb ob nb e=>s3 _ _ (s2 _ _ (by rw[ned b nb];show e));have og:=oc.uz sd3 (λb z=>⟨F.je,by rw[z];show fc.di⟩) λb z=>x.fg b (.inr (.inr z));have lt3:FK Hc H3:=λb ob e n1 n2=>sd3 b ob (λz=>by rw[z,fc.di]at e;show n2 _ (Bz e).symm) e;have elp3:=lt3.vp elpc;have pr3:=prc.ae lt3.tp;clear fc oc grd exd ned edd s2 s3 sd3 lt3 elpc prc exc eD;obtain⟨dy,ey⟩:=og.bz;show⟨G.x,dy,_,rfl,ey,by rfl,ss,G,sl,0,0,0,sdG,_,gkG,rfl,og,pok,lss,(λt ht=>Qq og.toEK ht),(λt ht z=>⟨.nil,Bd _⟩),λH4 r4 x4 q4 gk4 u4 f4 hr4 er4 rw4 nd4 sd4 mm4 lq4=>⟨Bd _,λl5 hl5=>?_⟩⟩;have q40:q4=[]:=bO.mpr λm hm=>by cases((mm4 m).mp hm).2
        subst q40;cases rw4;have lt4:=og.lt u4;show BM hl5 λH5 s5 el5=>⟨r4,l5,[],rfl,rfl,AX (s5 _ _ er4),AX el5,_,rfl,Fd ?_⟩;have f5:=f4.ah s5;have elp5:=s5 _ _ (lt4.vp elp3);have pr5:=(pr3.ae lt4.tp).ae s5.tp;show⟨ss,G,sl,0,0,_,sdG,_,gk4,rfl,f5,lss,XC f5.toEK w3.os,λH6 r6 xs6 s6 hr6 er6 dv6 sh6=>?_⟩;showλy dy hy hdy hyn=>⟨y,dy,A.lp,A.ps,ss,sl,rfl,Ac,by rw[AW (BE (s6 _ _ elp5) hy),AW (BE (s6 _ _ elp5) hdy)];show s6 _ _ elp5,(pr5.ae s6.tp).ae λb xs e=>by rw[AW (BE e hy),AW (BE e hdy)];show e,lss,s0,s1,λH7 N sdN gkN eN sy f7 _ _=>⟨rfl,?_⟩⟩;have g7:Ah H6 H7:=Tn hy hdy sy;have fN:=f7.ag.vc (gg':=λ_ _=>[]) λi hi=>(Oy ss 0 i).symm;have oN:∀(i:Nat)n a b wi,ss[i]?=AA (.join n a b wi)->(sdN i).1=[]/\(sdN i).2=[]:=λi n a b wi ei=>by obtain⟨h1,h2⟩:=f7.bu i n a b wi ei;show⟨SE.mp h1,SE.mp h2⟩
        rw[<-eN];show⟨ss,N,sl,0,0,0,sdN,_,gkN,rfl,fN,lss,XC fN.toEK oN,λH8 r8 xs8 s8 hr8 er8 dv8 sh8=>?_⟩;have s68:=g7.aa s8;have eqs:Jl ss (0+(([]:List C1).length:Int)) 0 sdG (λ_ _=>[])=Jl ss 0 0 sdN (λ_ _=>[]):=qW (λt hh=>by obtain⟨n,a,b,wi,e⟩:=hh;show by rw[(w3.os t n a b wi e).1,(w3.os t n a b wi e).2,(oN t n a b wi e).1,(oN t n a b wi e).2];show⟨.nil,.nil⟩) λt ht=>rfl;rw[eqs]at dv6;show Uh (.lst (AX (s68 _ _ er6)) (Om (λb o e _ _=>s68 _ _ e) dv6)) (.lst (AX er8) dv8) sh8 ⟨_,rfl,Fd ?_⟩;have f8:=(f5.ah s6).ah s68;lk;obtain⟨dz,ez⟩:=f8.bz;obtain⟨dc,ec⟩:=f8.gv;k_in;show⟨_,⟨ez,T.aj,T.cw,rfl⟩,_,⟨ec,T.cj,T.gc,rfl⟩,rfl,?_⟩;change Q (.bl (Ae (AE.int 0=AE.int 0))) _;rw[AFk rfl];show k _
theorem iF{l:Sa}{K:Aq}(B:D "law"=AA (.ref C))(T:BR K D ⟨F,A,G,H,I,L,M,N,O,Q,J,U,V,W,Y,Z,z⟩):∃E:Iv,(∀(s:AV)(v:AK),SS s E ⟨[v],[]⟩ [("_law_script",v)])/\∀base:BJ,K.In base->base.Ns LR D->HN l.prog w K D base BI Oj C E ["_law_script"] (Nb K):=by have e:=B.symm.trans T.adg;cases e;obtain⟨_,_,_,_,_,_,_,_,_,e,_,_⟩:=T.abk.ex;show⟨A,λs v=>by have e:A=_:=e;rw[e];show .of_eq rfl,λbase _ _=>fV λn=>?_⟩;have h:=WJ (p:=λx:Sz=>BR x.K x.mg x.ad/\¬∀(P:CN)(w:Bu)(base:BJ),HN P w x.K x.mg base BI Oj x.ad.xj x.ad.zt ["_law_script"] (Nb x.K)) ⟨⟨K,D,⟨F,A,G,H,I,L,M,N,O,Q,J,U,V,W,Y,Z,z⟩⟩,T,λh=>n (h _ _ _)⟩;show h.2 λP w base=>k8 h.1
end
noncomputable def PySem.W.Fast:=()where
 tw5058362448888065742:=()
 tw7557105067755443935:=()
 tw13415222099782694911:=()
 tw6101962328782802497:=()
 tw1902104795040848628:=()
 tw9112224509105780273:=()
 tw8784337515700262976:=()
 tw14962889063920222381:=()
 tw4209304138696202171:=()
 tw4479234975732680984:=()
 tw8331081028923799721:=()
 tw7172630255223930148:=()
 tw10465119454961204860:=()
 tw13511644875097961576:=()
 tw14045110552573063447:=()
 tw17512242668811133726:=()
 tw2160358190273252040:=()
 tw10880319029271235449:=()
 tw3227086724594351468:=()
 tw12704204131126742319:=()
 tw16292685717449852688:=()
 tw17306901928668098342:=()
 tw16777708163576921930:=()
 tw3793086908260374308:=()
 tw5672511779489806821:=()
 tw15519083551713601248:=()
 tw12637099788539451839:=()
 tw5768333525202294210:=()
 tw15972382992555282213:=()
 tw12604335899478130434:=()
 tw12366457334833042709:=()
 tw16055698080213143796:=()
 tw10719841777380739286:=()
 tw3339102536268562002:=()
 tw13886814944376427634:=()
 tw10571419246218912546:=()
 tw1711960769230795413:=()
 tw17649455685178531011:=()
 tw11134827399697247478:=()
 tw15384094969129826449:=()
 tw7877020204265898235:=()
 tw13879529260390504300:=()
 tw9875829770884780338:=()
 tw251540963042890700:=()
 tw17502464232526884274:=()
 tw8671758752060144939:=()
 tw13442826615092435215:=()
 tw7731218253964367327:=()
 tw6825921024158565473:=()
 tw14855104773454211435:=()
 tw3652195980952629840:=()
 tw11797060105507723283:=()
 tw7817799799564737559:=()
 tw9245620064333059285:=()
 tw9273261268294147313:=()
 tw18281679938910362410:=()
 tw696185371789620305:=()
 tw10274011977638472434:=()
 tw6732366683962017827:=()
 tw6397155268419635983:=()
 tw9676719284438436172:=()
 tw10067216457959007323:=()
 tw4901454250466041296:=()
 tw295338807850355855:=()
 tw11835588121529200950:=()
 tw14224254827338482917:=()
 tw9939586890845811591:=()
 tw5797458013454572177:=()
 tw5179107932263975270:=()
 tw17692519338273143854:=()
 tw14238277879304620931:=()
 tw5907153868978282337:=()
 tw1711984194608077516:=()
 tw10636522968062788117:=()
 tw10372607649271784925:=()
 tw14663109665289040885:=()
 tw2819465341440250552:=()
 tw4574792739270525773:=()
 tw1639288704732548640:=()
 tw13581737475736250856:=()
 tw16996344970848776635:=()
 tw16583325184362836791:=()
 tw15754528399291744279:=()
 tw11291021108701909631:=()
 tw3020013286527861026:=()
 tw765227245749110278:=()
 tw12228738571817137100:=()
 tw7550560990836163567:=()
 tw16029324771328516423:=()
 tw8947667026713582552:=()
 tw11395651852479762402:=()
 tw3902262368810298163:=()
 tw2226329106257592082:=()
 tw4236038341022006089:=()
 tw8238491342872648484:=()
 tw12620056619070152211:=()
 tw16218611231933495356:=()
 tw17914384396870053403:=()
 tw4082691181265557426:=()
 tw11274206512616761766:=()
 tw13192700919819481157:=()
 tw13149482503215394272:=()
 tw3366888316447585852:=()
 tw14864807896892417251:=()
 tw10458017507763616824:=()
 tw12523736634615021975:=()
 tw1487182025647546019:=()
 tw18276595902519024033:=()
 tw7403638104924382848:=()
 tw5328126930261808531:=()
 tw7490681123971627253:=()
 tw16557271688994254306:=()
 tw12294076436389711338:=()
 tw5354121476705871886:=()
 tw8936384861128486498:=()
 tw14745883473357319240:=()
 tw966249596722731858:=()
 tw13799513992654693012:=()
 tw9796721260863159245:=()
 tw14083657119796214889:=()
 tw12113064809151089255:=()
 tw8605661688658875328:=()
 tw11275760814522155135:=()
 tw7765308977114790141:=()
 tw14243182258551384678:=()
 tw10380946630203608282:=()
 tw9136307289673112425:=()
 tw8965594332362007337:=()
 tw8379578977211671249:=()
 tw9013992826075488254:=()
 tw15013987698507118528:=()
 tw8917721489228294120:=()
 tw10360048456690433640:=()
 tw16855818596686790219:=()
 tw4522923847625165840:=()
 tw12720212042477470042:=()
 tw3746277166540245642:=()
 tw11538156694336562809:=()
 tw16842659080984933320:=()
 tw13465743067738902917:=()
 tw14628303814262724494:=()
 tw2798080309534324896:=()
 tw8788798450421932238:=()
 tw3691295557213900689:=()
 tw8451355845996635801:=()
 tw1773266989890843466:=()
 tw8903089795525356680:=()
 tw5323913779812219525:=()
 tw14895080768176097533:=()
 tw10903038263688948527:=()
 tw5935015128507567780:=()
 tw15299435091297166485:=()
 tw698846039245564280:=()
 tw15685127937994186434:=()
 tw12809645206736967604:=()
 tw6740339337134048014:=()
 tw1103890073067003737:=()
 tw15430427212919702748:=()
 tw10671015345873335316:=()
 tw13805299273848958548:=()
 tw15555045195252018653:=()
 tw9829382632338443242:=()
 tw5301229653377648660:=()
 tw11910398188688254883:=()
 tw15076684166057986387:=()
 tw10886528251082896463:=()
 tw4286519797358944565:=()
 tw14349503245946556980:=()
 tw7327767125310469250:=()
 tw5369563902513071006:=()
 tw5123202378723397959:=()
 tw14861097453093375559:=()
 tw3874723504440429925:=()
 tw1005484084498022560:=()
 tw15357297449075361934:=()
 tw2646052531503232496:=()
 tw9820797849041120391:=()
 tw227439366793421910:=()
 tw13848609801940189962:=()
 tw4835664789967183151:=()
 tw14024926712729248697:=()
 tw6011756606001419715:=()
 tw643708489398485817:=()
 tw5753629041596651205:=()
 tw14602070067217347384:=()
 tw14554937987359957125:=()
 tw16973947762866993818:=()
 tw5367501049641092198:=()
 tw5203531919228376855:=()
 tw2525246510454234441:=()
 tw17627398075084104630:=()
 tw11662810643556862064:=()
 tw4568617249624612686:=()
 tw17813299524851396238:=()
 tw9031147644465198357:=()
 tw11607676341942825110:=()
 tw2692054201890896489:=()
 tw17403669951389990307:=()
 tw17741363632834370516:=()
 tw3295990220561172764:=()
 tw790222558703262129:=()
 tw5004192293468079431:=()
 tw8333326739182168919:=()
 tw13425435325885829954:=()
 tw17405577055570329214:=()
 tw9261180433903013462:=()
 tw3272824804393068734:=()
 tw4378077458181595575:=()
 tw17182440319654006066:=()
 tw16465173750139001087:=()
 tw5170848634485603851:=()
 tw7434040011871019400:=()
 tw12943100283777918968:=()
 tw2995007436278281717:=()
 tw1908760217981518329:=()
 tw16909417699822840391:=()
 tw3469991236160915787:=()
 tw17908737351958775734:=()
 tw6055999426176382649:=()
 tw7708107005138555904:=()
 tw13252127596615951373:=()
 tw6266031520757921449:=()
 tw7321777519769932581:=()
 tw12163631063493956533:=()
 tw5009396673541867907:=()
 tw12657490570498110612:=()
 tw15498503354770759424:=()
 tw2986382537086394616:=()
 tw11072454024821108807:=()
 tw10843483878244148753:=()
 tw10377649279584671111:=()
 tw18238770357637702100:=()
 tw11569888070612588708:=()
 tw6297710321779043915:=()
 tw9605772792376038451:=()
 tw9376904787078180646:=()
 tw13041354328973557187:=()
 tw16773157467599280624:=()
 tw14772202437343623804:=()
 tw15093836366132600799:=()
 tw14246917878050986338:=()
 tw5882675848777397405:=()
 tw2981876235045073856:=()
 tw10146033258672235502:=()
 tw18077969751335603165:=()
 tw10467648854782739522:=()
 tw12096964345321190556:=()
 tw7411420506330303178:=()
 tw6141606713136673497:=()
 tw12735095735078964462:=()
 tw17061478071834267532:=()
 tw14012497329635140273:=()
 tw16027022332113753656:=()
 tw18216153024172294145:=()
 tw13369850147898069946:=()
 tw16934171968849373230:=()
 tw11609497224063207597:=()
 tw75730865787293288:=()
 tw11149251776573581787:=()
 tw7717080773872015482:=()
 tw12328564273666776872:=()
 tw15573603828341185152:=()
 tw8909714037104002680:=()
 tw18399525579944886923:=()
 tw6674759233998324386:=()
 tw3862349264985077174:=()
 tw7504727912418990160:=()
 tw14906674027657994837:=()
 tw2275350818689212010:=()
 tw15634454076966101439:=()
 tw11141216129865227173:=()
 tw11364469042978439104:=()
 tw495414331732560813:=()
 tw11826256579632940664:=()
 tw8492454805873019270:=()
 tw12785199289675104599:=()
 tw9273157338033799901:=()
 tw8123478658771183360:=()
 tw10352384707169931459:=()
 tw15403878581650938445:=()
 tw8293440530774996745:=()
 tw12706753338692251983:=()
 tw14546160062131446269:=()
 tw1013577953685764087:=()
 tw6474030755943463332:=()
 tw17653318967177463995:=()
 tw7064009682592385033:=()
 tw5326244208980115014:=()
 tw7840467301807812906:=()
 tw13235483233642188683:=()
 tw13269233523984291525:=()
 tw7633789289104676737:=()
 tw4200691595324509918:=()
 tw7249423682039815004:=()
 tw7198978003482963319:=()
 tw8486661169080922733:=()
 tw17637015035191630846:=()
 tw1477285443998850925:=()
 tw2560816428792923167:=()
 tw4777488708372324094:=()
 tw10969681082068951495:=()
 tw2757527026924374488:=()
 tw18408872622717170746:=()
 tw9876342101858730002:=()
 tw14835697296252356869:=()
 tw8739390424022742273:=()
 tw16642325020447224756:=()
 tw5905457423089217053:=()
 tw1321494095975420090:=()
 tw9816775178935780768:=()
 tw5308386915393658724:=()
 tw10473339128200248828:=()
 tw10707342371158555653:=()
 tw2208104068041151246:=()
 tw3993003960094431000:=()
 tw14401686029510478938:=()
 tw5789093458463531080:=()
 tw12462414800563183113:=()
 tw3658075602893551376:=()
 tw2429947424613795351:=()
 tw6052949694827800288:=()
 tw4417248069380849199:=()
 tw9792306465576485561:=()
 tw8804274002616009075:=()
 tw15332170874464267417:=()
 tw17202402996722313737:=()
 tw11881120765188743012:=()
 tw4949891091959850494:=()
 tw10959782542076330078:=()
 tw17554578009078038031:=()
 tw2681908145307450385:=()
 tw16883076331569500527:=()
 tw3821194239099427148:=()
 tw15246885549217439276:=()
 tw9710052996772129457:=()
 tw5462738955584741637:=()
 tw14097855522107794575:=()
 tw11324359891339074098:=()
 tw6554533148209097087:=()
 tw12739950133471654712:=()
 tw8636877996595893086:=()
 tw12219161965490121748:=()
 tw11356156098169731475:=()
 tw9598603778993896285:=()
 tw7570052093126141877:=()
 tw6550013434112272044:=()
 tw17463762824622214019:=()
 tw920634259418802001:=()
 tw8801101080176699256:=()
 tw13478022410582879319:=()
 tw11307891397675935269:=()
 tw5224138502550647885:=()
 tw5359993305666397445:=()
 tw3236973233322251313:=()
 tw4616077814928459897:=()
 tw17972770315224845301:=()
 tw14625015274514935725:=()
 tw12904088534734087572:=()
 tw9758036900037767457:=()
 tw4659187389138301178:=()
 tw14025849702102631152:=()
 tw8549686888997879893:=()
 tw1196949161064047887:=()
 tw2054800744079699472:=()
 tw6386396760896262724:=()
 tw13597476125194297807:=()
 tw6692508789704506867:=()
 tw8755287811649331947:=()
 tw11765031362886078606:=()
 tw278624855079522708:=()
 tw5556196682622591711:=()
 tw4344328282615667787:=()
 tw269174755798472847:=()
 tw1560397705009300204:=()
 tw15087556556279277316:=()
 tw8701676869949226021:=()
 tw12358531841612628236:=()
 tw14948091496406171858:=()
 tw16250128004268577679:=()
 tw13772758931252306174:=()
 tw9549831219636904419:=()
 tw3586866598249544672:=()
 tw14443165121262518082:=()
 tw9445946575432499656:=()
 tw11250345431970831629:=()
open PySem PySem.W PyProof.Rows
set_option maxRecDepth 100000 in
set_option maxHeartbeats 0 in
theorem PySem.Challenge.cw_brooktally_k20_rows_told_at_an_event_holds : PySem.Challenge.rw_brooktally_k20_rows_told_at_an_event.Holds := by
  w_on; o_law; k_head; (case hw => w_witness2)
  k_fill
  refine AAA (l := ADR) (n := 63) (k := Oj) (x := "_law_script") (CX := BI) (sp := Nb) rfl (by decide) rfl ⟨rfl, by decide, by decide⟩ (fun w h Y => W.kIn_of Y) ?F jD (fun _ _ _ _ z => z)
  case F =>
    intro w mg fa h KX G hmg
    refine' iF hmg ?T
    case' T => constructor
    all_goals try dsimp only
    all_goals first
      | (refine' ABI KX G ?_; k_is)
      | (refine' W.mg_none_of KX G ?_; k_is)
      | (refine' jR KX G ?_; any_goals k_is)
      | (refine' ⟨?_, ?_, ?_, ?_⟩ <;> k_is)
      | (first
          | refine' TV ⟨ABI KX G ?_, ?_⟩ ?_ ?_ ?_ Ry ?_
          | refine' TV ⟨?_, ?_, ?_⟩ ?_ ?_ ?_ Ry ?_
          | refine' TV ⟨?_, ?_, ?_, ?_⟩ ?_ ?_ ?_ Ry ?_); (any_goals k_is); intro _ _ _ _ _ _ us hl; first | (obtain ⟨_, rfl⟩ := rF hl; rfl) | (obtain ⟨_, _, rfl⟩ := rG hl; rfl) | (obtain ⟨_, _, _, rfl⟩ := rH hl; rfl) | (obtain ⟨_, _, _, _, rfl⟩ := rJ hl; rfl) | (obtain ⟨_, _, _, _, _, rfl⟩ := rK hl; rfl)
      | k_is
      | (refine' Um ?_ ?_ ?_; any_goals k_is)
      | k_exc
      | kit_is
      | kts_exm
      | (refine' iW ?_ ?_ ?_ ?_ ?_ ?_; any_goals k_is)
      | (refine' j8 ?_; any_goals k_is)
      | (refine' qU ?_ ?_ ?_; (any_goals k_is); (first | decide | exact (by decide : 2 ≤ sizeLine) | exact (by decide : 4 ≤ sizeLine)); repeat (first | exact .nil | refine .cons ?_ ?_ | exact ⟨_, rfl⟩ | rfl))
      | (unfold GA; k_is)
      | skip
