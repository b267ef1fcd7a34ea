import PyProof.Rows.All
import Wide.All
import OpenK.AllK
import Wide.FinOn
import Lean
import PyProof.EqAt
import PyProof.EqKinds
import PyProof.TupleCall
import PySem.Challenge.RW_brooktally_k22_a_flow_packed
set_option Elab.async false
set_option linter.all false
set_option maxRecDepth 100000
set_option tactic.hygienic false
set_option maxHeartbeats 4000000
open PySem PySem.Spec PyProof.Rows
open _root_.Array renaming length_toList->MN,getElem?_toList->Oz,toList_append->RB,perm_iff_toList_perm->T4,size_map->iO,toArray_toList->iP,toList_extract->iQ,append_empty->ADP,getElem?_eq_getElem->ADQ,mem_toList_iff->ADR,toList->ADS,toList_map->ADT,toList_push->ADU,toList_setIfInBounds->ADV
open _root_.Array.Perm renaming refl->Wx
open _root_.Bool renaming true->AJ,false->AQ,false_ne_true->Dk,noConfusion->HX,false_eq_true->LP,and_eq_true->O0,eq_iff_iff->RC,or_eq_true->iV,and_false->ADW,not_false->ADX,not_true->ADY
open _root_.Char renaming toNat->iW
open _root_.Classical renaming byContradiction->RD,epsilon_spec->T5,epsilon->iX,axiomOfChoice->AGP,not_not->AGQ
open _root_.Decidable renaming decide->Ab
open _root_.Eq renaming trans->O1
open _root_.False renaming elim->HY
open _root_.ForIn renaming forIn->IH
open _root_.ForInStep renaming yield->UA
open _root_.Inhabited renaming default->jB
open _root_.Int renaming le_trans->FQ,lt_of_le_of_lt->JP,le_refl->LQ,ne_of_gt->LR,lt_of_lt_of_le->MO,le_of_lt->NV,le_of_not_gt->NW,natCast_inj->NX,not_le_of_gt->RE,emod_lt_of_pos->UB,emod_nonneg->UC,lt_asymm->UD,lt_of_not_ge->UE,le_add_of_nonneg_right->W3,le_max_right->W4,lt_add_of_le_of_pos->W5,toNat_natCast->W6,toNat_of_nonneg->W7,zero_add->W8,le_total->jC,lt_irrefl->jD,lt_trans->jE,min_eq_left->jF,min_le_right->jG,sub_right_le_iff_le_add->jH,toNat_le->jI,ediv_nonneg->ADZ,eq_ofNat_of_zero_le->ADa,le_antisymm->ADb,le_max_left->ADc,le_min->ADd,lt_iff_le_and_ne->ADe,min_eq_right->ADf,mul_le_mul_of_nonneg_right->ADg,mul_nonneg->ADh,natAbs_mul->ADi,natCast_le_zero->ADj,not_lt->ADk,not_ofNat_neg->ADl,ofNat_le->ADm,ofNat_lt->ADn,sub_le_of_sub_le->ADo,sub_le_sub_right->ADp,toNat->ADq
open _root_.LawfulBEq renaming eq_of_beq->dI
open _root_.List renaming length_map->Au,mem_map->Ax,getElem?_eq_some_iff->BU,mem_cons->BY,length_append->Ba,mem_singleton->Bc,getElem?_map->Bo,getElem?_eq_getElem->CG,map_append->CQ,mem_cons_self->Ci,mem_of_getElem?->Cp,cons->Cs,nil->Ct,map_map->Cz,mem_append->C1,take_add_one->DH,append_assoc->Dh,take_of_length_le->Dj,append_nil->D4,mem_cons_of_mem->D5,length_take->EH,map_cons->EI,mem_filter->EJ,mem_append_right->EO,pairwise_map->Eh,range->Ei,flatMap_cons->Ew,length_cons->Ex,length_filter_le->Fh,filter_append->F0,filter_cons->F1,not_mem_nil->F3,length_singleton->GP,pairwise_cons->Gi,size_toArray->Gj,mem_iff_getElem->Gz,mem_of_mem_tail->G0,mem_append_left->Ic,nodup_cons->Ie,pairwise_iff_getElem->Ig,cons_append->Js,getElem?_append_left->Jt,filter_eq_nil_iff->LC,flatMap_append->LD,length->LF,nil_append->LG,take_length->LH,getElem?_append_right->L5,getElem?_zip_eq_some->L6,length_drop->L7,mem_flatMap->L8,filter_congr->NB,map_flatMap->NC,length_nil->OR,map_congr_left->OS,mem_range->OT,pairwise_append->OU,replicate->OV,zip->OW,filter_eq_self->QT,filter_sublist->QU,lookup->QV,mem_of_mem_drop->QW,mem_of_mem_take->QX,perm_append_comm->QY,take_append_drop->QZ,filter_cons_of_neg->TH,filter_cons_of_pos->TJ,filter_filter->TK,find?_cons->TL,flatMap_singleton->TM,getElem?_eq_none_iff->TN,getElem_take->TQ,map->TR,range_succ->TU,any_cons->WD,any_eq_true->WE,extract_eq_take_drop->WH,filter->WI,filter_flatMap->WJ,getElem?_eq_none->WK,length_range->WL,mem_iff_getElem?->WM,pairwise_lt_range->WN,take->WO,take_sublist->WQ,zip_cons_cons->WR,all_cons->dN,all_eq_true->dO,all_map->dP,eq_nil_of_length_eq_zero->dQ,ext_getElem?->dR,flatMap->dU,foldl_cons->dW,getElem?_take_of_lt->dX,getElem_inj->dY,getElem_map->dZ,map_id->d4,ne_nil_of_mem->d5,of_mem_zip->d6,pairwise_flatMap->d7,pairwise_singleton->d8,take_zero->d9,drop_drop->ABV,drop_eq_getElem_cons->ABW,drop_sublist->ABX,filterMap_cons->ABY,filter_map->ABZ,flatMap_eq_nil_iff->ABa,length_pos_of_mem->ABb,length_replicate->ABc,map_snd_zip->ABd,mem_replicate->ABe,nodup_append->ABf,nodup_range->ABg,pairwise_reverse->ABh,zip_nil_right->ABi,Perm->ADr,append_cancel_left->ADt,drop_of_length_le->ADu,flatMap_def->ADv,forall_mem_cons->ADw,getElem?_cons_succ->ADx,getElem?_replicate->ADy,getElem?_set_ne->ADz,getElem?_set_self->AD0,getElem_mem->AD1,length_reverse->AD2,length_zip->AD3,map_id'->AD4,map_take->AD5,mem_filterMap->AD6,mem_reverse->AD7,perm_middle->AD8,sum_cons->AD9,take_add->AEA
open _root_.List.Pairwise renaming nil->AGR
open _root_.List.Perm renaming of_eq->TF,trans->WC,cons->dJ,swap->dM,append_left->ABU,append_right->ADs,append->AGS,refl->AGT
open _root_.List.Sublist renaming eq_of_length_le->AGU,map->AGV
open _root_.List.cons renaming inj->EG,injEq->WG
open _root_.Max renaming max->Ju
open _root_.Min renaming min->DR
open _root_.Nat renaming le_trans->Ag,le_refl->Ai,lt_of_lt_of_le->Bl,zero_le->Bm,le_of_eq->Bq,le_of_lt->Bz,lt_of_le_of_ne->DT,ne_of_lt->Dv,le_of_add_right_le->D6,le_antisymm->Eb,le_of_lt_succ->Ej,add_le_add_left->Ey,le_of_not_lt->F4,lt_of_succ_lt->GQ,lt_of_le_of_lt->HS,add_sub_cancel'->Ih,le_succ_of_le->Ii,lt_irrefl->JN,sub_succ_lt_self->JO,add_one_le_add_one_iff->Jv,one_le_iff_ne_zero->KQ,add_lt_of_lt_sub'->LI,min_le_left->LJ,le_sub_iff_add_le'->L9,lt_of_not_le->MA,sub_one_lt_of_le->MB,lt_add_one_iff->ND,lt_trans->NF,ne_of_gt->NG,not_lt_zero->NH,add_lt_add_left->OX,lt_or_ge->OY,lt_succ_self->OZ,le_add_right->Qa,mul_le_mul->Qb,sub_self->Qc,le_of_add_left_le->TV,le_succ->TX,sub_lt_iff_lt_add'->TY,sub_lt_of_lt->TZ,sub_lt_right_of_lt_add->Ta,add_zero->WS,le_sub_iff_add_le->WT,lt_of_add_right_lt->WU,lt_sub_iff_add_lt'->WV,min_le_right->WW,succ_le_succ->WX,succ_pos->WY,add_comm->eG,eq_of_le_of_lt_succ->eI,le_of_ble_eq_true->eK,le_of_succ_le_succ->eL,le_sub_of_add_le->eM,lt_iff_add_one_le->eO,min_eq_left->eP,not_lt->eQ,repr->eR,sub_le_sub_iff_right->eU,sub_lt->eV,toDigits->eW,le_add_left_of_le->ABj,le_add_right_of_le->ABk,le_pred_iff_lt->ABl,lt_add_left->ABm,lt_add_one_of_lt->ABn,lt_succ_of_lt->ABo,not_succ_le_zero->ABp,pow_le_pow_right->ABq,pow_succ->ABr,sub_eq_iff_eq_add->ABs,sub_le->ABt,sub_ne_zero_iff_lt->ABu,sub_one_lt_of_lt->ABv,sub_sub_self->ABw,sub_sub_sub_cancel_right->ABx,add_eq_right->AEB,add_one_inj->AEC,add_right_cancel_iff->AED,eq_zero_of_le_zero->AEE,le_mul_of_pos_left->AEF,le_of_add_le_add_left->AEG,le_sub_one_of_lt->AEH,lt_one_iff->AEI,lt_trichotomy->AEJ,max_eq_right->AEK,mul_le_mul_right->AEL,not_lt_of_ge->AEM,not_lt_of_le->AEN,pow_add->AEO,strongRecOn->AEP,succ_lt_succ->AEQ
open _root_.Ne renaming symm->Gk
open _root_.Not renaming imp->Oa
open _root_.Option renaming some->AA,none->AG,map_eq_some_iff->EK,map_some->eX,getD_none->AER,isSome_iff_exists->AES,isSome_map->AET
open _root_.Option.some renaming inj->CD
open _root_.Or renaming inl->FN,intro_right->ABz
open _root_.Prod renaming ext->Tb,fst->AB0,snd->AEU
open _root_.Prod.mk renaming inj->Tc
open _root_.Pure renaming pure->Be
open _root_.PyProof renaming noPylong_small->ACB
open _root_.PyProof.Rows renaming arrOf->Am,Keyed->BG,wpS_bind->BL,wpS_pure->BV,pendingOf->B9,seqObj->CZ,SortSt->Ce,wpS->Ec,boot_str->IB,wpS_forRange->IC,wpS_mono->Ij,pairsOf->Jw,wpS_modify->Jx,boot_list->MC,envOfC->MD,ltAt'->ME,wpS_get->MF,AllBare->NI,failedOf->NK,reverseSlice'->NL,SortKind->Qd,callWith_type1->Qe,listUpdate_at->Qf,setArr->Qg,wpS_lift->Qh,IntsAre->Td,boot_isinstance->Te,boot_sorted->Tf,Call_->WZ,IsTup->Wa,KeyOrd->Wb,boot_max->Wc,elem'->Wd,get?_update_seq->We,pairsOf_toList->Wf,seqEpoch_at->Wg,boot_min->eZ,boot_range->fC,keyKind'->fH,kindOf->fJ,mirror->fM,setPending->fN,slot_tuple_getitem->fO,Subscript_->AB2,boot_tuple->AB3,elem'_eq->AB4,join_plain_closes->AB5,ksk_tail->AB6,listItems_at->AB7,lt_int->AB8,mem_zip_self->AB9,sortedHeap->ACA,boot_all->AEW,boot_int->AEX,entry_list_sort->AEZ,eqGives_str->AEb,ge_int->AEc,getElem?_bubble->AEd,getElem?_mirror_all->AEe,gt_int->AEf,keyLt'_oneType->AEg,lt_str->AEh,reverseSlice'_eq->AEk,slicePart_none->AEl,slot_list_sort->AEm,subscriptTail_builtinR->AEn,boot_bool->AGW,boot_reversed->AGX,callWith_builtin1->AGY,split_le->AGZ
open _root_.PyProof.Rows.IsTup renaming new->AB1
open _root_.PyProof.Rows.KeyOrd renaming kle_trans->HU,kle_of_klt->KR,kle_refl->NJ,klt_of_kle_of_klt->AEV
open _root_.PyProof.Rows.SortSt renaming mk'->eY
open _root_.PySem renaming Addr->AE,Str->AF,Value->AK,Shared->AX,sizeLine->As,model->Av,wpAny->Aw,wpAny_bind->Ay,Obj->BP,Expr->BR,Heap->BW,eval->BX,Paired->Bf,World->B0,sizeLine_eq->CL,wpAny_pure->CN,Program->CS,Stmt->Cc,starEach->Cj,Pos->C6,Around->DB,Sem->DW,Env->EL,compareOp->Ek,boot_len->Ez,Scope->Fi,backTo->GR,binaryOp->G4,Tok->HV,cLine->HW,valueAt->IE,wpAny_mono->IF,FuncData->Ik,call->Il,attributeBase->Jy,sysModules->Ka,mainGlobals->LN,Keyword->MH,NameKind->MI,pyNext->ML,wpAny_rule->MM,IsPart->NO,call_meets->NS,codeAny->NT,CmpOp->Oc,ItemsOf->Oe,Model->Of,atKey->Oj,foldedSetIterable->Ol,getItem->Om,lookup_relabel_local->Oo,strValues->Oq,swapsWith->Ot,typeIs_str->Ou,wpAny_truthy_bool->Ov,assignEach->Qo,backToKw->Qp,behindInMarks->Qq,bindC->Qr,bindL->Qs,bootBuiltins->Qt,callerA->Qu,keywordEach->Qv,mem_of_lookup->Qw,sliceBounds->Qx,wpAny_Call_Name_kw->Qy,wpAny_holding->Qz,wpAny_passesOwn->Q0,BindsTo->Tg,Moved->Th,codeAny_builtin->Tr,codeAny_mono->Ts,collect->Tt,stored->Tu,wpAny_newObj_type->Tv,intText?->Wo,isTrue->Wq,pyIter->Wr,tupleKind->Ws,wpAny_Call_method->Wt,Fin->fV,IsRangeIter->fX,Params->fZ,PlainAttrs->gB,call_meetsIn->gQ,getMethod->gR,numAt_eq->gS,plainId_quiet->gT,richCompare_meets_room->gU,subscripted->gV,tupleKind_room_in1->gW,typeLookup->gX,typeOf->gY,wpAny_call->gZ,wpAny_execs_nil->g8,wpAny_field->hE,wpAny_forIn_list->hG,wpAny_newList->hU,DictEntry->ACG,Within->ACj,bindArgs->ACk,builtinsNs->ACl,cellsFrom->ACm,closureFor->ACn,evalArgs_none->ACo,letOwnedTupleGo->ACr,richCompare->ACt,wpAny_Name->ACw,wpAny_attempt->ACx,wpAny_call_entry->ACy,wpAny_load->ACz,wpAny_specialOf->AC0,wpAny_standAt->AC1,wpAny_typeOf->AC2,builtinLookup_eq_fast->AFv,call_list_seq->AFw,dictSetDefault->AFz,findBy_of_findIdx?->AF0,intBits_le_64->AF1,list_append->AF2,method_meetsIn->AF3,noFill_tuple_add->AF4,numbered_texts->AF5,nums_intItems->AF6,recursionLimit->AF7,seq_tuple_add->AF9,slot_list_getitem->AGA,typeLookup_type->AGB,wpAny_Compare1->AGC,wpAny_assign_Name->AGD,wpAny_callSpecial?_slot->AGE,wpAny_execs_cons->AGF,wpAny_isInstance->AGG,wpAny_newTuple->AGH,wpAny_pyIter_enum->AGI,wpAny_pyIter_list->AGJ,wpAny_pyIter_range->AGK,wpAny_pyIter_rangeiter->AGL,wpAny_pyNext_range_end->AGM,wpAny_runValue->AGN
open _root_.PySem.Around renaming under_plainId->fP
open _root_.PySem.AutoSeq1 renaming sub_tuple_tuple->ACC
open _root_.PySem.Builtin.List renaming listExtendWith->AEo,listSameRef->AEp,listTooLong->AEq,listLengthHint->AGa
open _root_.PySem.Builtin.Range renaming rangeSize->fQ,small->fR,rangeFitsLong->AEr
open _root_.PySem.Builtin.Slice renaming sliceAdjust->ACD,slicePlaces->ACE,sliceApplied->AGb,slicePartIndex->AGc
open _root_.PySem.Builtin.Str renaming occurrences->Ob,partsBetween->fS,tooLong->AGd
open _root_.PySem.Builtin.Tuple renaming tupleCompareSizes->ACF,tupleItemsOf->AGe
open _root_.PySem.Calls renaming spliced_cons->NM,spliced_nil->Qi,callWith_builtin->Wh,evalArgs_plain->fT,Name_function_global->AEs
open _root_.PySem.Challenge renaming rw_brooktally_k22_a_flow_packed->AEt,pw_brooktally_k22_a_flow_packed->AGf
open _root_.PySem.CmpOp renaming In->AEu,NotIn->AEv
open _root_.PySem.DictEntry renaming refKey->AGg
open _root_.PySem.EqMixed renaming eq_bool_str->AGh,eq_int_str->AGi,eq_str_bool->AGj,eq_str_int->AGk,ne_bool_str->AGl,ne_int_str->AGm,ne_str_bool->AGn,ne_str_int->AGo
open _root_.PySem.EqNone renaming eq_bool_none->AGp,eq_int_none->AGq,eq_none_bool->AGr,eq_none_int->AGs,eq_none_none->AGt,eq_none_str->AGu,eq_str_none->AGv,ne_bool_none->AGw,ne_int_none->AGx,ne_none_bool->AGy,ne_none_int->AGz,ne_none_none->AG0,ne_none_str->AG1,ne_str_none->AG2
open _root_.PySem.F renaming plainAttrs_list->MG,plainAttrs_str->NN,slot_list_extend->Od,slot_str_join->Qj,type_list_extend->Qk,plainAttrs_dict->Wi,slot_str_split->Wj,type_str_join->Wl,plain_extend_loop->fU,args_str_split_2->ACH,entry_str_split->ACI,plain_list_iadd->ACJ,slot_dict_get->ACK,slot_list_append->ACL,slot_list_clear->ACN,slot_str_startswith->ACO,args_dict_get_3->AEw,args_list_append_2->AEx,args_tuple_add_2->AEy,entry_dict_get->AEz,entry_extend_loop->AE0,entry_list_append->AE1,entry_list_iadd->AE2,entry_proto_collect->AE3,entry_tuple_add->AE4,entry_tuple_lt->AE5,slot_dict_items->AE6,slot_dict_pop->AE7,slot_dict_setdefault->AE8,slot_dict_values->AE9,slot_lri_next->AFA,slot_tuple_add->AFB,slot_tuple_index->AFC,slot_tuple_lt->AFD,type_list_clear->AFE,type_str_split->AFF,type_str_startswith->AFG
open _root_.PySem.Flow renaming brk->KS,cont->KU,next->KW,ret->KY
open _root_.PySem.Heap renaming get?_push_of_some->Ca,lt_size->Cb,get?_push_size->ER,SameBut->Ql,get?_update_other->fW,get?_update_ne->ACP,size_push->ACQ,get?_none_of_le->AFH,get?_update_self->AFI
open _root_.PySem.Heap.DictOf renaming new->AG3
open _root_.PySem.Heap.ExtBut renaming refl->AG4
open _root_.PySem.Heap.IsSliceOf renaming new->AG5
open _root_.PySem.Heap.SameBut renaming update->Wm
open _root_.PySem.IsL renaming update->AFJ
open _root_.PySem.IsRange renaming new->ACR
open _root_.PySem.MeetsSeq.EqGives renaming int->AG6
open _root_.PySem.NameKind renaming free->NP,cell->fY
open _root_.PySem.Obj renaming mapSeq->ES,data_mapDictKeys->AFK
open _root_.PySem.Paired renaming cons->CI,nil->FO,length->KZ,snoc->AFL
open _root_.PySem.PassesOwn renaming never->D7
open _root_.PySem.PyData renaming int->Og,canLay0->ACS,canLayAll0->AFM,depth->AFN,depthAll->AFO,eqv->AFP,eqvAll->AFQ
open _root_.PySem.SeqAt renaming EqAt->gC
open _root_.PySem.SeqAt.EqAt renaming int_str->AFR,same->AFS,str_int->AFT,bool_bool->AG7,bool_int->AG8,bool_none->AG9,bool_str->AHA,int_bool->AHB,int_int->AHC,int_none->AHD,none_bool->AHE,none_int->AHF,none_str->AHG,str_bool->AHH,str_none->AHI,str_str->AHJ
open _root_.PySem.Str renaming join->MJ,ofString->MK,length_append->gD,length->AFU,ofString_eq_toList->AFV
open _root_.PySem.StrLaws renaming sliceText->Ti,sliceText_from->ACT,sliceText_to->ACU,join_split->AFW
open _root_.PySem.Txt renaming slice->G1,mul->LK,join->NQ,split->NR,startswith->Oh,slice_le->AFX
open _root_.PySem.Value renaming ref->DM,bool->Qm,str->Qn,int->Tj,none->gE,float->ACV,notImplemented->ACW,type->ACX,bytes->AFY,isInt->AFZ,isStrOf->AFa
open _root_.PySem.Value.type renaming inj->AHK
open _root_.PySem.W renaming Frag->BB,findIn->ID,kia_one->LM,fnOf->Oi,OpenLaw->Tn,instObj->To,keepIn->Tq,KatLex->gF,codeIn->gG,emptyDict->gJ,kat_cons->gL,kat_kind->gM,lookIn->gN,plainGet->gO,subIn->gP,WalkO->ACY,callWith_K->ACZ,hasDictIn->ACa,isFn->ACb,kat_go->ACc,kat_no->ACd,kat_one->ACe,kat_yes->ACf,mg_of->ACg,plainGet_of->ACh,takerIn->ACi,KatTups->AFb,callWith_K0->AFe,cellsFrom_some->AFf,clsIn->AFg,handedIn->AFh,kas_kind->AFi,kat_lt->AFj,kat_nil->AFk,kdl_dict->AFl,kitOne->AFm,kitx_dict->AFn,kitx_list->AFo,makesIn->AFp,methodCall_KW->AFq,plainOver->AFr
open _root_.PySem.W.KIN renaming call_text->AHL,signs_num->AHM,val_back->AHN
open _root_.PySem.W.KatTups renaming cons->AFc
open _root_.PySem.W.Looks renaming here->AHO
open _root_.PySem.W.WData renaming int->AFd
open _root_.PySem.Walks renaming range->AFs,strAscii->AFt,strWide->AFu
open _root_.PySem.Within renaming cons->AHP
open _root_.StateT renaming run_pure->AGO
open _root_.Std.Legacy.Range renaming forIn_eq_forIn_range'->AHQ,size->AHR
open _root_.Sum renaming inr->Br,inl->Cd
open _root_.Sum.inl renaming inj->Iq
open _root_.Sum.inr renaming inj->GS
open _root_.ToString renaming toString->Ww
open _root_.True renaming intro->Ir
noncomputable def AHS:=@if_neg
noncomputable def AHT:=@if_pos
noncomputable def AHU:=@congrArg
noncomputable def AHV:=@decide_eq_true
noncomputable def AHW:=@decide_eq_false
noncomputable def AHX:=@of_decide_eq_true
noncomputable def AHY:=@decide_eq_true_eq
noncomputable def AHZ:=@or_false
noncomputable def AHa:=@if_false
noncomputable def AHb:=@if_true
noncomputable def AHc:=@of_decide_eq_false
noncomputable def AHd:=@lt_of_lt_of_eq
noncomputable def AHe:=@beq_iff_eq
noncomputable def AHf:=@beq_eq_false_iff_ne
noncomputable def AHg:=@decide_eq_decide
noncomputable def AHh:=@le_of_eq_of_le
noncomputable def AHi:=@ne_true_of_eq_false
noncomputable def AHj:=@bne_self_eq_false
noncomputable def AHk:=@getElem?_pos
noncomputable def AHl:=@le_of_le_of_eq
structure Za(p:Prop):Prop where go:p->False
theorem wU(h:Za p->False):p:=RD λg=>h ⟨g⟩
section
set_option hygiene false in
local macro_rules | `(tactic| lk) => `(tactic| refine wU fun nG0 => ?_)
set_option hygiene false in
local macro_rules | `(tactic| k_in) => `(tactic| (rename Za _ => nG0; refine nG0.go ?_; try clear nG0))
local macro_rules | `(tactic| obtain $p : _ := $e) => `(tactic| (lk; obtain $p := $e; k_in))
local macro_rules | `(tactic| show $t) => `(tactic| refine $t)
inductive Gf{a:Type}(A B:a->Prop):Prop|mk(a:a)(_:A a)(_:B a)
inductive Lh{a:Type}(A B C:a->Prop):Prop|mk(a:a)(_:A a)(_:B a)(_:C a)
inductive Zf{a:Type}(A B C D:a->Prop):Prop|mk(a:a)(_:A a)(_:B a)(_:C a)(_:D a)
inductive Mq{a b:Type}(A B:a->b->Prop):Prop|mk(a:a)(b:b)(_:A a b)(_:B a b)
inductive Eg{a b:Type}(A B C:a->b->Prop):Prop|mk(a:a)(b:b)(_:A a b)(_:B a b)(_:C a b)
inductive Mr{a b:Type}(A B C D:a->b->Prop):Prop|mk(a:a)(b:b)(_:A a b)(_:B a b)(_:C a b)(_:D a b)
inductive SJ{a b:Type}(A B C D E:a->b->Prop):Prop|mk(a:a)(b:b)(_:A a b)(_:B a b)(_:C a b)(_:D a b)(_:E a b)
inductive SK{a b:Type}(A B C D E F:a->b->Prop):Prop|mk(a:a)(b:b)(_:A a b)(_:B a b)(_:C a b)(_:D a b)(_:E a b)(_:F a b)
inductive SM{a b c:Type}(A B C:a->b->c->Prop):Prop|mk(a:a)(b:b)(c:c)(_:A a b c)(_:B a b c)(_:C a b c)
inductive P1{a b c:Type}(A B C D:a->b->c->Prop):Prop|mk(a:a)(b:b)(c:c)(_:A a b c)(_:B a b c)(_:C a b c)(_:D a b c)
inductive P2{a b c:Type}(A B C D E:a->b->c->Prop):Prop|mk(a:a)(b:b)(c:c)(_:A a b c)(_:B a b c)(_:C a b c)(_:D a b c)(_:E a b c)
inductive Zg{a b c:Type}(A B C D E F:a->b->c->Prop):Prop|mk(a:a)(b:b)(c:c)(_:A a b c)(_:B a b c)(_:C a b c)(_:D a b c)(_:E a b c)(_:F a b c)
inductive VV{a b c d:Type}(A B C D E:a->b->c->d->Prop):Prop|mk(a:a)(b:b)(c:c)(d:d)(_:A a b c d)(_:B a b c d)(_:C a b c d)(_:D a b c d)(_:E a b c d)
inductive SN{a b c d:Type}(A B C D E F:a->b->c->d->Prop):Prop|mk(a:a)(b:b)(c:c)(d:d)(_:A a b c d)(_:B a b c d)(_:C a b c d)(_:D a b c d)(_:E a b c d)(_:F a b c d)
inductive Zh{a b c d:Type}(A B C D E F G H:a->b->c->d->Prop):Prop|mk(a:a)(b:b)(c:c)(d:d)(_:A a b c d)(_:B a b c d)(_:C a b c d)(_:D a b c d)(_:E a b c d)(_:F a b c d)(_:G a b c d)(_:H a b c d)
inductive Zi{a b c d e:Type}(A B C D E F:a->b->c->d->e->Prop):Prop|mk(a:a)(b:b)(c:c)(d:d)(e:e)(_:A a b c d e)(_:B a b c d e)(_:C a b c d e)(_:D a b c d e)(_:E a b c d e)(_:F a b c d e)
inductive Zj{a b c d e:Type}(A B C D E F G:a->b->c->d->e->Prop):Prop|mk(a:a)(b:b)(c:c)(d:d)(e:e)(_:A a b c d e)(_:B a b c d e)(_:C a b c d e)(_:D a b c d e)(_:E a b c d e)(_:F a b c d e)(_:G a b c d e)
abbrev AL:=Sum Int AF
noncomputable def Ln:AL->AK->Bool|.inl k,v=>AFZ k v|.inr x,v=>AFa x v
noncomputable def yT(w:B0):AL->Int|.inl k=>hashInt k|.inr x=>hashStr w x
theorem KG:∀{k:AL}{v:AK},Ln k v=AJ->(∃i t,k=Cd i/\v=Tj i t)\/(∃x t,k=Br x/\v=Qn x t)|.inl i,v,h=>by obtain⟨t,e⟩:=Value.isInt_shape h;show .inl ⟨i,t,rfl,e⟩|.inr x,v,h=>by obtain⟨t,e⟩:=Value.isStrOf_shape h;show .inr ⟨x,t,rfl,e⟩
theorem yU(i:Int)(t:HV):Ln (.inl i) (.int i t)=AJ:=by simp[Ln,AFZ]
theorem yV(x:AF)(t:HV):Ln (.inr x) (.str x t)=AJ:=by simp[Ln,AFa]
theorem yW(a b:Int):Ab ((Cd a:AL)=Cd b)=(a==b):=by
 by_cases e:a=b;.subst e;simp
 . have h:¬(Cd a:AL)=Cd b:=λq=>e (Iq q);rw[AHW h];show(AHf.mpr e).symm
theorem yZ(a b:AF):Ab ((Br a:AL)=Br b)=Ab (a=b):=by
 by_cases e:a=b;.simp
 . have h:¬(Br a:AL)=Br b:=λq=>e (GS q);rw[AHW h,AHW e]
theorem yX(a:Int)(b:AF):Ab ((Cd a:AL)=Br b)=AQ:=AHW (λq=>nomatch q)
theorem yY(a:AF)(b:Int):Ab ((Br a:AL)=Cd b)=AQ:=AHW (λq=>nomatch q)
noncomputable def FK(prog:CS)(w:B0):KeyKind prog w AL where
  is:=Ln
  hash:=yT w
  inj:=λv a b V U=>by
    rcases KG V with⟨i,t,rfl,rfl⟩|⟨x,t,rfl,rfl⟩
    . rcases KG U with⟨j,u,rfl,e⟩|⟨y,u,rfl,e⟩;.injection e with D _;rw[D]
      .show nomatch e
    . rcases KG U with⟨j,u,rfl,e⟩|⟨y,u,rfl,e⟩;.show nomatch e
      .injection e with D _;rw[D]
  byValue:=λk v h=>by rcases KG h with⟨i,t,rfl,rfl⟩|⟨x,t,rfl,rfl⟩<;>rfl
  pyHash:=λJ h=>by
    rcases KG J with⟨i,t,rfl,rfl⟩|⟨x,t,rfl,rfl⟩;.show wpAny_pyHash_int h
    .show wpAny_pyHash_str h
  eqBool:=λW J h=>by
    rcases KG W with⟨i,t,rfl,rfl⟩|⟨x,t,rfl,rfl⟩
    . rcases KG J with⟨j,u,rfl,rfl⟩|⟨y,u,rfl,rfl⟩;.rw[yW]at h;show wpAny_eqBool_int h
      .rw[yX]at h;show AFR i t y u _ _ _ _ h
    . rcases KG J with⟨j,u,rfl,rfl⟩|⟨y,u,rfl,rfl⟩;.rw[yY]at h;show AFT x t j u _ _ _ _ h
      .rw[yZ]at h;show wpAny_eqBool_str h
  «strs»:=λk x t v h=>by
    rcases KG h with⟨i,u,rfl,e⟩|⟨y,u,rfl,e⟩;.show nomatch e
    . injection e with D _;subst D;cases v<;>rfl
theorem zA(prog:CS)(w:B0)(i:Int)(t:HV):(FK prog w).is (.inl i) (.int i t)=AJ:=yU i t
theorem zB(prog:CS)(w:B0)(x:AF)(t:HV):(FK prog w).is (.inr x) (.str x t)=AJ:=yV x t
inductive AB where|non|bl(b:Bool)|int(i:Int)|str(x:AF)|byt(b:Array UInt8)|flt(b:UInt64)|ref(a:AE)|ty(n:String)deriving DecidableEq
def Bn:AB->AK->Prop|.non,u=>u=gE|.bl b,u=>u=Qm b|.int i,u=>∃t,u=Tj i t|.str x,u=>∃t,u=Qn x t|.byt b,u=>∃t,u=AFY b t|.flt b,u=>∃t,u=ACV b t|.ref a,u=>u=DM a|.ty n,u=>u=ACX n
abbrev Bb:List AB->List AK->Prop:=Bf Bn
theorem Bb.ai(r:Bb xs D):xs.length=D.length:=KZ r
theorem Bb.se:∀{xs:List AB}{D:List AK}{i:Nat}{x:AB},Bb xs D->xs[i]?=AA x->∃u,D[i]?=AA u/\Bn x u|_,_,_,_,.nil,e=>by simp at e|_,_,0,_,.cons r _,e=>by simp at e;subst e;show⟨_,rfl,r⟩|_,_,i+1,x,.cons _ t,e=>by obtain⟨u,J,U⟩:_:=Bb.se t (by simpa using e);show⟨u,by simpa using J,U⟩
theorem Bb.kg(h:Bb xs D)(s:Bb ys J):Bb (xs++ys) (D++J):=by induction h with|nil=>show s|cons r _ U=>show .cons r U
theorem Bb.ach:∀{xs:List AB}{D:List AK}(n:Nat),Bb xs D->Bb (xs.take n) (D.take n)|_,_,0,_=>.nil|_,_,_+1,.nil=>.nil|_,_,n+1,.cons r t=>.cons r (Bb.ach n t)
theorem Bb.ye:∀{xs:List AB}{D:List AK}(n:Nat),Bb xs D->Bb (xs.drop n) (D.drop n)|_,_,0,r=>r|_,_,_+1,.nil=>.nil|_,_,n+1,.cons _ t=>Bb.ye n t
def Kz:Option AB->Option AK->Prop|AA v,AA u=>Bn v u|AG,AG=>True|_,_=>False
def Gs:List (D×AB)->List (D×AK)->Prop:=Bf λ(p:D×AB)(q:D×AK)=>p.1=q.1/\Bn p.2 q.2
noncomputable def Az:AL->AB|.inl i=>.int i|.inr x=>.str x
inductive Bw where|lst(xs:List AB)|tup(xs:List AB)|dK(kvs:List (AL×AB))|dT(kvs:List (List AL×AB))|set(S:Int->Bool)(n:Nat)|ins(C dx:AE)(fs:List (AF×AB))|own(x:AE)|xd(fs:List (AF×AB))|met(f x:AE)|rng(lo hi:Int)|frz(o:BP)(u:Bw)|tbl(ps:Array AK)|ext(φ:BW->Prop)
abbrev AI:=AE->Option Bw
noncomputable def AR(H:AI)(a:AE)(o:Bw):AI:=λb=>if b=a then AA o else H b
theorem Ak:AR H a o a=AA o:=by unfold AR;rw[AHT rfl]
theorem Aa(h:b≠a):AR H a o b=H b:=by unfold AR;rw[AHS h]
theorem zzu:∀b o,b≠d->H b=AA o->AR H d x b=AA o:=λb o n e=>(Aa n).trans e
theorem QS:AR (AR H a o) a u=AR H a u:=by funext b;unfold AR;split<;>rfl
theorem zF{H:AI}(h:H a=AA o)(h':H b=AA u)(d:o≠u):a≠b:=by intro e;subst e;rw[h]at h';show d (CD h')
theorem Bh{H:AI}(h:H a=AA o)(h':H b=AG):a≠b:=by intro e;subst e;rw[h]at h';cases h'
section
variable(P:CS)(w:B0)
def C8(H:AI)(h:BW)(a:AE):Bw->Prop|.lst xs=>xs.length<=As/\∃(D:List AK)(n:Nat),Bb xs D/\h.get? a=AA {cls:=.type "list",data:=.seq D.toArray n}|.tup xs=>xs.length<=As/\∃D:List AK,Bb xs D/\Wa h a D.toArray|.dK kvs=>kvs.length<=As/\(a==Ka)=AQ/\∃U,Gs kvs U/\h.DictOf (FK P w) a U|.dT kvs=>kvs.length<=As/\(a==Ka)=AQ/\∃xs:List (List AL×AE×AK),Bf (λ(p:List AL×AB)(q:List AL×AE×AK)=>p.1=q.1/\H q.2.1=AA (.tup (p.1.map Az))/\Bn p.2 q.2.2) kvs xs/\∃o es ep,h.get? a=AA o/\o.ExactDict/\o.data=.dict es ep/\es.toList=xs.map (entryOfKey (Ws (FK P w)))/\(xs.map (·.1)).Nodup|.set S n=>h.SetOf (intKind P w) a S n|.ins C dx fs=>H dx=AA (.own a)/\fs.length<=1000/\dx≠a/\h.get? a=AA (To C dx)/\∃mA,h.Ns1 dx mA/\(∀f,Kz (fs.lookup f) (mA f))/\ACj mA (fs.map (·.1))|.own _=>∃o,h.get? a=AA o|.xd fs=>∃mA,h.Ns1 a mA/\∀f,Kz (fs.lookup f) (mA f)|.rng lo hi=>∃t u v,h.get? a=AA {cls:=.type "range",data:=.fields #[.int lo t,.int hi u,.int 1 v]}|.frz o u=>h.get? a=AA o/\C8 H h a u|.tbl ps=>h.get? a=AA {cls:=.none,data:=.fields ps}|.met f x=>h.get? a=AA (W.methodObj (.ref f) (.ref x))|.ext J=>J h/\(∃o,h.get? a=AA o)/\∀h1 h2:BW,J h1->(∀o,h1.get? a=AA o->h2.get? a=AA o)->J h2
end
def DE(P:CS)(w:B0)(H:AI)(h:BW):Prop:=∀a o,H a=AA o->C8 P w H h a o
theorem C8.lt(x:C8 P w H h a o):a<h.objs.size:=by cases o with|lst U=>obtain⟨_,_,_,_,e⟩:=x;show Cb e|tup U=>obtain⟨_,_,_,p⟩:=x;show p.lt|dK D=>obtain⟨_,_,_,_,o,_,_,e,_⟩:=x;show Cb e|dT D=>obtain⟨_,_,_,_,o,_,_,e,_⟩:=x;show Cb e|set S n=>obtain⟨o,_,_,_,e,_⟩:=x;show Cb e|ins C V J=>obtain⟨_,_,_,e,_⟩:=x;show Cb e|own y=>obtain⟨_,e⟩:=x;show Cb e|xd J=>obtain⟨_,⟨_,_,_,e,_⟩,_⟩:=x;show Cb e|rng Y W=>obtain⟨_,_,_,e⟩:=x;show Cb e|frz Z u=>obtain⟨e,_⟩:=x;show Cb e|tbl A=>show Cb (show h.get? a=AA _ from x)|met f y=>show Cb (show h.get? a=AA _ from x)|ext B=>obtain⟨_,⟨_,e⟩,_⟩:=x;show Cb e
theorem Zd{F G:U->V->Prop}(h:Bf F D J)(f:∀a b,F a b->G a b):Bf G D J:=by induction h with|nil=>show .nil|cons r _ W=>show .cons (f _ _ r) W
theorem C8.uy(x:C8 P w H h a o)(k:∀b u,(b=a\/H b=AA (.own a))->h.get? b=AA u->h'.get? b=AA u)(F:∀b,H b=AA (.own a)->H' b=AA (.own a))(G:∀b xs,H b=AA (.tup xs)->H' b=AA (.tup xs)):C8 P w H' h' a o:=by induction o with|lst xs=>obtain⟨z,V,n,r,e⟩:=x;show⟨z,V,n,r,k _ _ (.inl rfl) e⟩|tup xs=>obtain⟨z,V,r,D,e,c⟩:=x;show⟨z,V,r,D,k _ _ (.inl rfl) e,c⟩|dK W=>obtain⟨z,y,L,r,D,U,J,e,c⟩:=x;show⟨z,y,L,r,D,U,J,k _ _ (.inl rfl) e,c⟩|dT W=>obtain⟨z,y,xs,r,D,U,J,e,c⟩:_:=x;show⟨z,y,xs,Zd r λp q z=>⟨z.1,G _ _ z.2.1,z.2.2⟩,D,U,J,k _ _ (.inl rfl) e,c⟩|set S n=>obtain⟨D,U,J,t,e,c⟩:=x;show⟨D,U,J,t,k _ _ (.inl rfl) e,c⟩|ins C M E=>obtain⟨d,z,K,e,Y,⟨Z,U,J,B,c⟩,r⟩:_:=x;show⟨F _ d,z,K,k _ _ (.inl rfl) e,Y,⟨Z,U,J,k _ _ (.inr d) B,c⟩,r⟩|own y=>obtain⟨D,e⟩:=x;show⟨D,k _ _ (.inl rfl) e⟩|xd E=>obtain⟨Y,⟨Z,U,J,e,c⟩,r⟩:=x;show⟨Y,⟨Z,U,J,k _ _ (.inl rfl) e,c⟩,r⟩|rng O N=>obtain⟨t,u,v,e⟩:=x;show⟨t,u,v,k _ _ (.inl rfl) e⟩|frz D u I=>obtain⟨e,q⟩:=x;show⟨k _ _ (.inl rfl) e,I q⟩|tbl Q=>have e:=x;show k a _ (.inl rfl) e|met f y=>have e:=x;show k a _ (.inl rfl) e|ext R=>obtain⟨p,⟨o,e⟩,A⟩:=x;show⟨A _ _ p λo q=>k _ _ (.inl rfl) q,⟨o,k _ _ (.inl rfl) e⟩,A⟩
theorem DE.lt(x:DE P w H h)(e:H a=AA o):a<h.objs.size:=(x a o e).lt
theorem DE.ax(x:DE P w H h)(e:h.objs.size<=a):H a=AG:=by cases q:H a with|none=>rfl|some u=>show absurd (Bl (x.lt q) e) (JN _)
theorem DE.ff(x:DE P w H h)(k:∀b u,h.get? b=AA u->h'.get? b=AA u):DE P w H h':=λa o e=>(x a o e).uy (λb u _ q=>k b u q) (λ_ q=>q) λ_ _ q=>q
theorem DE.jb(x:DE P w H h)(k:∀b u,h.get? b=AA u->h'.get? b=AA u)(V:h.objs.size<=a)(D:C8 P w (AR H a o) h' a o):DE P w (AR H a o) h':=λb u e=>by
 have U:=x.ax V;by_cases J:b=a;.subst J;rw[Ak]at e;cases e;show D
 . rw[Aa J]at e;show(x b u e).uy (λc v _ q=>k c v q) (λc q=>by rw[Aa (Bh q U)];show q) λc W q=>by rw[Aa (Bh q U)];show q
def GK(H:AI)(a:AE)(u:Bw):Prop:=H a=AA u\/∃o,H a=AA (.frz o u)
theorem GK.ok(r:GK H a u)(x:DE P w H h):C8 P w H h a u:=by
 rcases r with r|⟨o,r⟩;.show x a u r
 . obtain⟨_,q⟩:=x a _ r;show q
def Pq:Option Bw->Prop|AA (.lst _)=>True|AA (.dK _)=>True|AA (.dT _)=>True|AA (.set _ _)=>True|AA (.ins _ _ _)=>True|AA (.ext _)=>True|_=>False
theorem DE.rj(I:DE P w H h)(Y:Pq (H x))(C:e=x\/H e=AA (.own x))(k:∀b u,b≠e->h.get? b=AA u->h'.get? b=AA u)(A:∃u,h'.get? e=AA u)(B:C8 P w (AR H x E) h' x E):DE P w (AR H x E) h':=λb u q=>by
  have J:∀c y,H c=AA (.own y)->c≠x:=λc y r z=>by subst z;rw[r]at Y;show Y
  have U:∀c Z,H c=AA (.tup Z)->c≠x:=λc Z r z=>by subst z;rw[r]at Y;show Y
  by_cases V:b=x;.subst V;rw[Ak]at q;cases q;show B
  . rw[Aa V]at q;by_cases D:b=e
    . have F:H b=AA (.own x):=by
        rcases C with z|z;.show absurd (D.trans z) V
        .rw[D];show z
      rw[q]at F;cases F;obtain⟨v,G⟩:=A;show⟨v,by rw[D];show G⟩
    . show(I b u q).uy (λc v W r=>k c v ?_ r) (λc r=>by rw[Aa (J c b r)];show r) λc Z r=>by rw[Aa (U c Z r)];show r
      rcases W with rfl|W;.show D
      . rintro rfl;rcases C with z|z;.show J c b W z
        .rw[W]at z;cases z;show V rfl
structure Hw(fs ex:List AE)(H H':AI)(h h':BW):Prop where
 ab:∀b o,h.get? b=AA o->H b=AG->b∉fs->b∉ex->h'.get? b=AA o
 su:∀b o,h.get? b=AA o->H b=AG->b∈fs->b∉ex->∃sl,h'.get? b=AA {o with slots:=sl}az:∀b o,h.get? b=AA o->H b=AG->b∉ex->H' b=AG
 gc:∀b o,h.get? b=AA o->b∉ex->∃o',h'.get? b=AA o'
 vc:∀b xs,H b=AA (.tup xs)->H' b=AA (.tup xs)qz:∀b o u,H b=AA (.frz o u)->H' b=AA (.frz o u)vb:∀b ps,H b=AA (.tbl ps)->∃more,H' b=AA (.tbl (ps++more))
theorem Hw.abe(u:Hw V ex H Z h W)(q:h.get? b=AA D)(n:H b=AG)(U:b∉ex):∃Y,W.get? b=AA {D with slots:=Y}:=by
 by_cases J:b∈V;.show u.su b D q n J U
 .show⟨_,u.ab b D q n J U⟩
theorem SH(k:∀b u,h.get? b=AA u->h'.get? b=AA u):Hw J ex H H h h':=⟨λb D q _ _ _=>k b D q,λb D q _ _ _=>⟨_,k b D q⟩,λ_ _ _ n _=>n,λb D q _=>⟨D,k b D q⟩,λ_ _ q=>q,λ_ _ _ q=>q,λ_ U q=>⟨#[],by rw[q];simp⟩⟩
theorem wL:Hw D ex H H h h:=SH λ_ _ q=>q
theorem wK(k:∀b u,h.get? b=AA u->h'.get? b=AA u)(J:h.objs.size<=a)(D:H a=AG):Hw V ex H (AR H a o) h h' where
 ab:=λb u q _ _ _=>k b u q
 su:=λb u q _ _ _=>⟨_,k b u q⟩
 az:=λb u q n _=>by rw[Aa (Dv (Bl (Cb q) J))];show n
 gc:=λb u q _=>⟨u,k b u q⟩
 vc:=λb U q=>by rw[Aa (Bh q D)];show q
 qz:=λb u U q=>by rw[Aa (Bh q D)];show q
 vb:=λb W q=>⟨#[],by rw[Aa (Bh q D),q];simp⟩
theorem wM(J:Pq (H x))(Z:e=x\/H e=AA (.own x))(k:∀b u,b≠e->h.get? b=AA u->h'.get? b=AA u)(U:∃u,h'.get? e=AA u):Hw C ex H (AR H x o) h h':=by
 have Y:∀b,H b=AG->b≠x:=λb n z=>by subst z;rw[n]at J;show J
 have W:∀b,H b=AG->b≠e:=λb n z=>by
  subst z;rcases Z with r|r;.show Y b n r
  .rw[n]at r;cases r
 have V:∀b u,H b=AA u->¬Pq (AA u)->b≠x:=λb u q A z=>by subst z;rw[q]at J;show A J
 show⟨λb u q n _ _=>k b u (W b n) q,λb u q n _ _=>⟨_,k b u (W b n) q⟩,λb u q n _=>by rw[Aa (Y b n)];show n,λb u q _=>?_,λb B q=>by rw[Aa (V b _ q λz=>z)];show q,λb u B q=>by rw[Aa (V b _ q λz=>z)];show q,λb E q=>⟨#[],by rw[Aa (V b _ q λz=>z),q];simp⟩⟩;by_cases D:b=e;.subst D;show U
 .show⟨u,k b u D q⟩
noncomputable def c8(h:BW)(H:AI):List AE:=(Ei h.objs.size).filter λa=>(H a).isSome
noncomputable def OC(h:BW)(H:AI):BW:=W.hideAll h (c8 h H)
theorem yH(h:BW)(H:AI):(OC h H).objs.size=h.objs.size:=W.hideAll_size _ _
theorem yG(e:h.get? b=AA o)(n:H b=AG):(OC h H).get? b=AA o:=W.hideAll_get _ e λD=>by have q:=(EJ.mp D).2;rw[n]at q;simp at q
theorem zI(e:(OC h H).get? b=AA o):h.get? b=AA o/\H b=AG:=by have D:=W.of_hideAll _ e;show⟨D,?_⟩;cases q:H b with|none=>rfl|some x=>have J:b∈c8 h H:=EJ.mpr ⟨OT.mpr (Cb D),by simp[q]⟩;have z:(OC h H).get? b=AG:=W.hideAll_none _ J;rw[z]at e;cases e
structure R9(K:BB)(mg:AF->Option AK)(base:BW):Prop where
 abu:K.In base
 uv:base.Ns LN mg
 abb:∃mb,base.Ns ACl mb/\∀x:AF,x≠"__name__"->mb x=Qt x
 aae:base.NoLimit
structure Bv where
 af:CS
 w:B0
 K:BB
 mg:AF->Option AK
 ag:BW
 A:DB
 N:List AF
 s₀:AX
 H₀:AI
 ae:EL
 rg:List EL
 cw:List EL
 ex:List AE
 fn:AF->Bool
 fh:Bool
 pn:List (AE×BP)xe:AK->AX->Prop
noncomputable def Gv(l:List EL):List AE:=l.filterMap (·.frame)
noncomputable abbrev Bv.fs(X:Bv):List AE:=Gv X.rg
def P0(D:Fi)(x:AF):Prop:=D.names.lookup x=AA .local\/D.names.lookup x=AA .cell\/D.names.lookup x=AA .free
def Lf(D:Fi)(x:AF):Prop:=D.names.lookup x=AA .local\/D.names.lookup x=AA .cell
def wF(env:EL)(h:BW)(m:AF->Option AK)(x:AF)(u:AK):Prop:=(env.kindOf x=AA .local/\m x=AA u)\/((env.kindOf x=AA .cell\/env.kindOf x=AA .free)/\Gf (λc=>env.cells.lookup x=AA c) (λc=>h.IsCell c (AA u)))
structure Bv.Ok(X:Bv):Prop where
 uk:R9 X.K X.mg X.ag
 gq:X.ae.scope.kind=.function
 uv:X.ae.globals=LN
 abb:X.ae.builtins=ACl
 ni:X.s₀.heap.objs.size<=X.ae.locals
 xu:∀x y c,X.ae.cells.lookup x=AA c->X.ae.cells.lookup y=AA c->x=y
 abp:∀x,(X.ae.kindOf x=AA .cell\/X.ae.kindOf x=AA .free)->∃c,X.ae.cells.lookup x=AA c
 abh:∀x c,X.fn x=AJ->X.ae.cells.lookup x=AA c->X.s₀.heap.objs.size<=c
 hd:X.fh=AJ->X.A.handled=AG
 jh:X.A.frames=AA X.cw
 acr:X.cw=X.rg\/(X.cw=X.ae::X.rg/\X.ae.frame=AA X.ae.locals)acu:∀b∈X.ex,b≠X.ae.locals/\∀x c,X.ae.cells.lookup x=AA c->c≠b
 bs:∀b o,X.ag.get? b=AA o->X.s₀.heap.get? b=AA o/\X.H₀ b=AG
 zu:X.ag.objs.size<=X.s₀.heap.objs.size
 zi:∀b o,X.ag.get? b=AA o->b∉X.ex
 za:∀b∈X.ex,b∉X.fs
 ml:X.s₀.heap.FunFrames X.ag X.rg
 aah:∀b∈X.fs,X.H₀ b=AG
structure AY(X:Bv)(pins:List (AE×BP))(σ:List (Option AB))(H:AI)(s:AX):Prop where
 ok:X.Ok
 os:s.os=X.s₀.os
 il:NI s.gens
 ag:Hw X.fs X.ex X.H₀ H X.s₀.heap s.heap
 wq:∃m,s.heap.Ns X.ae.locals m/\∀(i:Nat)(x:AF)(v:AB),X.N[i]?=AA x->σ[i]?=AA (AA v)->P0 X.ae.scope x->∃u,Bn v u/\wF X.ae s.heap m x u
 kj:∀x c,X.ae.cells.lookup x=AA c->∃v,s.heap.IsCell c v
 az:H X.ae.locals=AG
 gy:∀x c,X.ae.cells.lookup x=AA c->H c=AG
 sj:∀p∈X.pn++pins,s.heap.get? p.1=AA p.2/\H p.1=AG/\p.1≠X.ae.locals/\p.1∉X.fs/\∀v,p.2.data≠.cell v
 bj:DE X.af X.w H s.heap
 bh:σ.length=X.N.length
theorem Bv.Ok.ade{X:Bv}(J:X.Ok)(e:X.ag.get? b=AA o):b∉X.fs:=λD=>by have:=(J.ml.mem D).1;rw[e]at this;cases this
theorem AY.bs(I:AY X D J H s):∀b o,X.ag.get? b=AA o->s.heap.get? b=AA o/\H b=AG:=λb o e=>⟨I.ag.ab b o (I.ok.bs b o e).1 (I.ok.bs b o e).2 (I.ok.ade e) (I.ok.zi b o e),I.ag.az b o (I.ok.bs b o e).1 (I.ok.bs b o e).2 (I.ok.zi b o e)⟩
theorem AY.bk(I:AY X D J H s):∀b o,X.ag.get? b=AA o->s.heap.get? b=AA o:=λb o e=>(I.bs b o e).1
theorem AY.uk(I:AY X D J H s):R9 X.K X.mg X.ag:=I.ok.uk
theorem AY.my(I:AY X D J H s):X.K.In s.heap:=I.ok.uk.abu.keeps I.bk
theorem AY.lt(I:AY X D U H s):X.ae.locals<s.heap.objs.size:=let⟨_,J,_⟩:=I.wq;J.lt
theorem AY.sz(I:AY X D J H s):X.s₀.heap.objs.size<=s.heap.objs.size:=Ag I.ok.ni (Bz I.lt)
theorem AY.adf(I:AY X D V H s)(h:s.heap.objs.size<=a):a∉X.fs:=λJ=>by obtain⟨_,o,U,_⟩:_:=I.ok.ml.mem J;show absurd (Bl (Cb U) (Ag I.sz h)) (JN _)
theorem AY.acs(I:AY X W B H s):∀x c,X.ae.cells.lookup x=AA c->c≠X.ae.locals:=λx c e z=>by lk;obtain⟨v,o,V,U⟩:=I.kj x c e;obtain⟨m,⟨A,Z,Y,J,D,_⟩,_⟩:=I.wq;k_in;rw[z,J]at V;cases V;rw[D]at U;cases U
theorem AY.ml(I:AY X Y N H s):s.heap.FunFrames X.ag X.rg:=by
 have D:∀(l:List _),(∀b∈Gv l,b∈X.fs)->X.s₀.heap.FunFrames X.ag l->s.heap.FunFrames X.ag l:=by intro l;induction l with |nil=>intro _ _;trivial|cons Z r K=> intro W C;obtain⟨B,⟨L,o,V,E,F,A⟩,G⟩:=C;have J:=W L (by unfold Gv;rw[ABY,V];show Ci);obtain⟨M,e⟩:=I.ag.su L o F (I.ok.aah L J) J λz=>I.ok.za L z J;show⟨B,⟨L,_,V,E,e,A⟩,K (λb U=>W b (by unfold Gv;rw[ABY,V];show D5 _ U)) G⟩
 show D _ (λ_ U=>U) I.ok.ml
theorem AY.cw(I:AY X D V H s):s.heap.FunFrames X.ag X.cw:=by
 rcases I.ok.acr with e|⟨e,J⟩;.rw[e];show I.ml
 . rw[e];obtain⟨m,U,_⟩:_:=I.wq;show .cons (by rw[I.ok.gq];decide) J U ?_ I.ml;show AFH (Ag I.ok.zu I.ok.ni)
theorem AY.uz(I:AY X J V H s):∀b∈Gv X.cw,b∈X.ae.locals::X.fs:=λb D=>by
 rcases I.ok.acr with e|⟨e,U⟩;.rw[e]at D;show D5 _ D
 . rw[e]at D;unfold Gv at D;rw[ABY,U]at D;show D
theorem AY.yb(I:AY X J V H s):∀b∈Gv X.cw,H b=AG:=λb D=>by
 rcases BY.mp (I.uz b D)with e|D;.rw[e];show I.az
 . obtain⟨_,o,U,_⟩:_:=I.ok.ml.mem D;show I.ag.az b o U (I.ok.aah b D) λz=>I.ok.za b z D
theorem AY.gh{X:Bv}{B:List (AE×BP)}{σ:List (Option AB)}{H H':AI}{h':BW}{g:Array GenState}{t':Nat}{d':Drawn}{ch:List AE}(I:AY X B σ H s)(V:∀b∈ch,(b∈X.ex\/X.s₀.heap.objs.size<=b)/\b≠X.ae.locals/\(∀x c,X.ae.cells.lookup x=AA c->c≠b)/\∀p∈X.pn++B,p.1≠b)(W:∀b o,b≠X.ae.locals->b∉X.fs->b∉ch->s.heap.get? b=AA o->H b=AG->h'.get? b=AA o)(C:∀b o,b≠X.ae.locals->b∈X.fs->b∉ch->s.heap.get? b=AA o->H b=AG->∃a,h'.get? b=AA {o with slots:=a})(J:∀b o,b∉ch->s.heap.get? b=AA o->H b=AG->H' b=AG)(F:∀b o,b∉ch->s.heap.get? b=AA o->∃O,h'.get? b=AA O)(Q:∀b xs,H b=AA (.tup xs)->H' b=AA (.tup xs))(L:∀b o u,H b=AA (.frz o u)->H' b=AA (.frz o u))(P:∀b R,H b=AA (.tbl R)->∃M,H' b=AA (.tbl (R++M)))(ns:∀m,s.heap.Ns X.ae.locals m->h'.Ns X.ae.locals m)(T:DE X.af X.w H' h')(hg:NI g):AY X B σ H' {s with heap:=h',gens:=g,drawn:=d',toks:=t'}:=by
  have N:∀b o,X.s₀.heap.get? b=AA o->b≠X.ae.locals:=λb o e=>Dv (Bl (Cb e) I.ok.ni);have A:∀b o,X.s₀.heap.get? b=AA o->b∉X.ex->b∉ch:=λb o e D E=>by
    rcases(V b E).1 with z|z;.show D z
    .show absurd (Bl (Cb e) z) (JN _)
  have U:∀x c,X.ae.cells.lookup x=AA c->∀v,s.heap.IsCell c v->h'.IsCell c v:=λx c e v⟨o,G,S⟩=>by
    have Y:=λz=>(V c z).2.2.1 x c e rfl;by_cases h:c∈X.fs
    . obtain⟨a,q⟩:=C c o (I.acs x c e) h Y G (I.gy x c e);show⟨_,q,S⟩
    .show⟨o,W c o (I.acs x c e) h Y G (I.gy x c e),S⟩
  show⟨I.ok,I.os,hg,⟨λb o e n E D=>?_,λb o e n E D=>?_,λb o e n D=>?_,λb o e D=>?_,λb xs e=>Q b xs (I.ag.vc b xs e),λb o xs e=>L b o xs (I.ag.qz b o xs e),λb R e=>?_⟩,?_,λx c e=>?_,?_,λx c e=>?_,λp j=>?_,T,I.bh⟩;.show W b o (N b o e) E (A b o e D) (I.ag.ab b o e n E D) (I.ag.az b o e n D)
  . lk;obtain⟨a,Z⟩:=I.ag.su b o e n E D;obtain⟨f,K⟩:=C b _ (N b o e) E (A b o e D) Z (I.ag.az b o e n D);k_in;show⟨f,K⟩
  . obtain⟨O,Z⟩:=I.ag.gc b o e D;show J b O (A b o e D) Z (I.ag.az b o e n D)
  . obtain⟨O,Z⟩:=I.ag.gc b o e D;show F b O (A b o e D) Z
  . lk;obtain⟨m1,Z⟩:=I.ag.vb b R e;obtain⟨m2,K⟩:=P b _ Z;k_in;show⟨_,by rw[K,Array.append_assoc]⟩
  . obtain⟨m,hn,hl⟩:_:=I.wq;show⟨m,ns m hn,λi x v Z K y=>?_⟩;obtain⟨u,r,l⟩:_:=hl i x v Z K y;show⟨u,r,?_⟩;rcases l with l|⟨k,c,e,z⟩;.show .inl l
    .show .inr ⟨k,c,e,U x c e _ z⟩
  . obtain⟨v,z⟩:=I.kj x c e;show⟨v,U x c e v z⟩
  . obtain⟨m,⟨o,_,_,G,_⟩,_⟩:_:=I.wq;show J _ o (λz=>(V _ z).2.1 rfl) G I.az
  . obtain⟨v,o,G,S⟩:_:=I.kj x c e;show J c o (λz=>(V c z).2.2.1 x c e rfl) G (I.gy x c e)
  . obtain⟨e,n,t,w,d⟩:_:=I.sj p j;have Y:=λz=>(V _ z).2.2.2 p j rfl;show⟨W _ _ t w Y e n,J _ _ Y e n,t,w,d⟩
theorem AY.un(I:AY X J E H s)(u:Hw X.fs [] H H' s.heap h')(Y:DE X.af X.w H' h'):AY X J E H' {s with heap:=h',toks:=t'}:=by lk;obtain⟨m,⟨o,G,F,Z,r⟩,_⟩:=id I.wq;obtain⟨M,A⟩:=u.abe Z I.az (by simp);k_in;show I.gh (ch:=[]) (λ_ z=>nomatch z) (λb o _ W _ e n=>u.ab b o e n W (by simp)) (λb o _ W _ e n=>u.su b o e n W (by simp)) (λb o _ e n=>u.az b o e n (by simp)) (λb o _ e=>u.gc b o e (by simp)) u.vc u.qz u.vb (λK B=>by obtain⟨L,V,U,D,C⟩:_:=B;rw[Z]at D;cases D;show⟨_,V,U,A,C⟩) Y I.il
theorem AY.abi(I:AY X D L H s)(u:Hw (Gv X.cw) ch H H' s.heap h')(A:DE X.af X.w H' h')(F:NI B)(U:∀b∈ch,(b∈X.ex\/X.s₀.heap.objs.size<=b)/\b≠X.ae.locals/\(∀x c,X.ae.cells.lookup x=AA c->c≠b)/\∀p∈X.pn++D,p.1≠b):AY X D L H' {s with heap:=h',gens:=B,drawn:=d',toks:=t'}:=by lk;obtain⟨m,⟨o,N,M,C,r⟩,_⟩:=id I.wq;obtain⟨Q,Z⟩:=u.abe C I.az λz=>(U _ z).2.1 rfl;k_in;show I.gh U (λb o Z E J e n=>u.ab b o e n (λz=>(BY.mp (I.uz b z)).elim Z E) J) (λb o _ _ J e n=>u.abe e n J) (λb o J e n=>u.az b o e n J) (λb o J e=>u.gc b o e J) u.vc u.qz u.vb (λO G=>by obtain⟨P,Y,W,V,K⟩:_:=G;rw[C]at V;cases V;show⟨_,Y,W,Z,K⟩) A F
theorem AY.cb{K:List (Option AB)}(I:AY X D K H s)(k:∀b o,b≠it->s.heap.get? b=AA o->h'.get? b=AA o)(F:H it=AG)(V:it≠X.ae.locals)(Z:it∈X.ex\/X.s₀.heap.objs.size<=it)(A:∀x c,X.ae.cells.lookup x=AA c->c≠it)(B:∀p∈X.pn++D,p.1≠it):AY X D K H {s with heap:=h',toks:=t'}:=by
  have U:∀b u,H b=AA u->b≠it:=λb u e z=>by rw[z,F]at e;cases e
  show I.gh (ch:=[it]) (λb C=>?_) (λb o _ _ J e _=>k b o (λz=>J (by simp[z])) e) (λb o _ _ J e _=>⟨_,k b o (λz=>J (by simp[z])) e⟩) (λ_ _ _ _ n=>n) (λb o J e=>⟨o,k b o (λz=>J (by simp[z])) e⟩) (λ_ _ e=>e) (λ_ _ _ e=>e) (λb L e=>⟨#[],by rw[e];simp⟩) (λm E=>?_) (λb u e=>?_) I.il
  . have e:=by simpa using C
    subst e;show⟨Z,V,A,B⟩
  . obtain⟨o,Y,W,G,r⟩:_:=E;show⟨o,Y,W,k _ o (Gk V) G,r⟩
  . show(I.bj b u e).uy (λc v J q=>k c v ?_ q) (λ_ q=>q) λ_ _ q=>q;rcases J with z|z;.rw[z];show U b u e
    .show U c _ z
theorem AY.dw(I:AY X D J H s)(t:Nat):AY X D J H {s with toks:=t}:=I.un wL I.bj
theorem AY.ff(I:AY X D J H s)(k:∀b u,s.heap.get? b=AA u->h'.get? b=AA u):AY X D J H {s with heap:=h',toks:=t'}:=I.un (SH k) (I.bj.ff k)
theorem AY.jb(I:AY X D V H s)(k:∀b u,s.heap.get? b=AA u->h'.get? b=AA u)(J:s.heap.objs.size<=a)(U:C8 X.af X.w (AR H a o) h' a o):AY X D V (AR H a o) {s with heap:=h',toks:=t'}:=I.un (wK k J (I.bj.ax J)) (I.bj.jb k J U)
theorem AY.rj(I:AY X J Y H s)(W:Pq (H x))(V:e=x\/H e=AA (.own x))(k:∀b u,b≠e->s.heap.get? b=AA u->h'.get? b=AA u)(D:∃u,h'.get? e=AA u)(U:C8 X.af X.w (AR H x o) h' x o):AY X J Y (AR H x o) {s with heap:=h',toks:=t'}:=I.un (wM W V k D) (I.bj.rj W V k D U)
theorem AY.gm(I:AY X J V H s)(h:∀p∈D,s.heap.get? p.1=AA p.2/\H p.1=AG/\p.1≠X.ae.locals/\p.1∉X.fs/\∀v,p.2.data≠.cell v):AY X D V H s:=⟨I.ok,I.os,I.il,I.ag,I.wq,I.kj,I.az,I.gy,λp U=>(C1.mp U).elim (λz=>I.sj p (Ic _ z)) (h p),I.bj,I.bh⟩
theorem aX{N:List AF}(U:N.Nodup){i j:Nat}{x:AF}(a:N[i]?=AA x)(b:N[j]?=AA x):i=j:=by lk;obtain⟨V,D⟩:=BU.mp a;obtain⟨W,J⟩:=BU.mp b;k_in;show(dY U).mp (D.trans J.symm)
theorem cM(I:AY X g σ H s)(hN:X.N.Nodup)(hi:X.N[i]?=AA x)(Y:Lf X.ae.scope x)(r:Bn v u)(h:∀s',AY X g (σ.set i (AA v)) H s'->(∃a,Ql a s.heap s'.heap/\(a=X.ae.locals\/X.ae.cells.lookup x=AA a))->Q () s')(hf:X.fn x=AJ\/X.ae.scope.names.lookup x=AA .local:=by first|show .inl rfl|show .inr rfl|assumption):Aw M A (storeName X.ae x u) Q E s:=by
  obtain⟨m,hn,hl⟩:_:=id I.wq;have S:(X.ae.scope.kind==.class||(X.ae.scope.kind==.module&&X.ae.locals !=X.ae.globals))=AQ:=by rw[I.ok.gq];rfl
  have C:i<σ.length:=by rw[I.bh];show(BU.mp hi).1
  have G:=I.acs;have U:∀{a:AE}{O:BW},(∃o,s.heap.get? a=AA o/\H a=AG)->Ql a _ O->DE _ X.w H O:=λ{a O}ha D b ob e=>by
    obtain⟨_,_,Z⟩:=ha;show(I.bj b ob e).uy (λc w W q=>(D.2 c ?_).trans q) (λ_ q=>q) λ_ _ q=>q;rintro rfl;rcases W with rfl|W;.rw[Z]at e;cases e
    .rw[Z]at W;cases W
  rcases Y with F|F
  . show wpAny_storeName_local F hn (λO hn' D=>?_) S;obtain⟨oL,_,_,hoL,_⟩:_:=id hn;show h _ ⟨I.ok,I.os,I.il,⟨λb o e n K Y=>?_,λb o e n K Y=>?_,I.ag.az,λb o e Y=>?_,I.ag.vc,I.ag.qz,I.ag.vb⟩,⟨_,hn',λj y v' J B e3=>?_⟩,λy c e=>?_,I.az,I.gy,λp hp=>?_,U ⟨oL,hoL,I.az⟩ D,by simpa using I.bh⟩ ⟨_,D,.inl rfl⟩;.show(D.2 b (Dv (Bl (Cb e) I.ok.ni))).trans (I.ag.ab b o e n K Y)
    . obtain⟨sl,J⟩:=I.ag.su b o e n K Y;show⟨sl,(D.2 b (Dv (Bl (Cb e) I.ok.ni))).trans J⟩
    . obtain⟨o',J⟩:=I.ag.gc b o e Y;show⟨o',(D.2 b (Dv (Bl (Cb e) I.ok.ni))).trans J⟩
    . by_cases N:j=i
      . subst N;rw[hi]at J;cases J;rw[AD0 C]at B;cases B;show⟨u,r,.inl ⟨F,by simp⟩⟩
      . rw[ADz (Gk N)]at B;obtain⟨u',r',q⟩:_:=hl j y v' J B e3;show⟨u',r',?_⟩;rcases q with⟨k,e⟩|⟨k,c,e,z⟩
        . show .inl ⟨k,?_⟩;have:y≠x:=λe=>N (aX hN J (e▸hi));simp[this,e]
        .show .inr ⟨k,c,e,z.sameBut D (G y c e)⟩
    . obtain⟨w,z⟩:=I.kj y c e;show⟨w,z.sameBut D (G y c e)⟩
    . obtain⟨e,n,t,nf,d⟩:_:=I.sj p hp;show⟨(D.2 p.1 t).trans e,n,t,nf,d⟩
  . have L:X.fn x=AJ:=by
      rcases hf with z|z;.show z
      .rw[z]at F;cases F
    lk;obtain⟨c,W⟩:=I.ok.abp x (.inl F);obtain⟨w,z⟩:=I.kj x c W;k_in;show wpAny_storeName_cell I.ok.gq F W z (λO P D=>?_);obtain⟨oc,T,f⟩:_:=id z;show h _ ⟨I.ok,I.os,I.il,⟨λb o e n K Y=>?_,λb o e n K Y=>?_,I.ag.az,λb o e Y=>?_,I.ag.vc,I.ag.qz,I.ag.vb⟩,⟨m,hn.sameBut D (Gk (G x c W)),λj y v' J B e3=>?_⟩,λy l e=>?_,I.az,I.gy,λp hp=>?_,U ⟨oc,T,I.gy x c W⟩ D,by simpa using I.bh⟩ ⟨c,D,.inr W⟩;.show(D.2 b (Dv (Bl (Cb e) (I.ok.abh x c L W)))).trans (I.ag.ab b o e n K Y)
    . obtain⟨sl,J⟩:=I.ag.su b o e n K Y;show⟨sl,(D.2 b (Dv (Bl (Cb e) (I.ok.abh x c L W)))).trans J⟩
    . obtain⟨o',J⟩:=I.ag.gc b o e Y;show⟨o',(D.2 b (Dv (Bl (Cb e) (I.ok.abh x c L W)))).trans J⟩
    . by_cases N:j=i
      . subst N;rw[hi]at J;cases J;rw[AD0 C]at B;cases B;show⟨u,r,.inr ⟨.inl F,c,W,P⟩⟩
      . rw[ADz (Gk N)]at B;obtain⟨u',r',q⟩:_:=hl j y v' J B e3;show⟨u',r',?_⟩;rcases q with q|⟨k,l,e,z'⟩;.show .inl q
        . show .inr ⟨k,l,e,z'.sameBut D ?_⟩;rintro rfl;show N (aX hN J (I.ok.xu _ _ _ e W▸hi))
    . by_cases R:l=c;.subst R;show⟨_,P⟩
      . obtain⟨w2,z2⟩:=I.kj y l e;show⟨w2,z2.sameBut D R⟩
    . obtain⟨e,n,t,nf,d⟩:_:=I.sj p hp;show⟨(D.2 p.1 ?_).trans e,n,t,nf,d⟩;intro q;rw[q,T]at e;have q':=CD e;show d w (by rw[<-q'];show f)
theorem cL(I:AY X D Z H s)(U:X.N.Nodup)(hi:X.N[i]?=AA x)(Y:Lf X.ae.scope x)(r:Bn v u)(h:∀s',AY X D (Z.set i (AA v)) H s'->Q () s')(W:X.fn x=AJ\/X.ae.scope.names.lookup x=AA .local:=by first|show .inl rfl|show .inr rfl|assumption):Aw M A (storeName X.ae x u) Q E s:=cM I U hi Y r (λs' J _=>h s' J) W
theorem AY.yy(I:AY X D Y H s)(W:s'.os=s.os)(u:Hw (Gv X.cw) ch H H' s.heap s'.heap)(U:DE X.af X.w H' s'.heap)(V:NI s'.gens)(J:∀b∈ch,(b∈X.ex\/X.s₀.heap.objs.size<=b)/\b≠X.ae.locals/\(∀x c,X.ae.cells.lookup x=AA c->c≠b)/\∀p∈X.pn++D,p.1≠b):AY X D Y H' s':=by obtain⟨B,A,Z,E,C⟩:_:=s';have e:=W;subst e;show I.abi u U V J
abbrev Fb:=AK->Option AE->AI->Prop
abbrev Ap:=List (Option AB)
abbrev BS:=AB->AI->Prop
abbrev BH:=Ap->AI->BS->Prop
abbrev DG:=Ap->AI->(Bool->AI->Prop)->Prop
abbrev FY:=Ap->AI->(List AB->AI->Prop)->Prop
structure IV where
 nx:Ap->AI->Prop
 rt:BS
 bk:Ap->AI->Prop:=λ_ _=>False
 ct:Ap->AI->Prop:=λ_ _=>False
abbrev C0:=IV->Ap->AI->Prop
def Ee(X:Bv)(D:List (AE×BP))(U:Ap)(Q:BS)(u:AK)(s':AX):Prop:=Eg (λv J=>AY X D U J s') (λv _=>Bn v u) (λv J=>Q v J)
def VU(X:Bv)(D:List (AE×BP))(U:Ap)(Q:Bool->AI->Prop)(b:Bool)(s':AX):Prop:=Gf (λJ=>AY X D U J s') (λJ=>Q b J)
def v9(X:Bv)(D:List (AE×BP))(Y:Ap)(Q:List AB->AI->Prop)(W:List AK)(s':AX):Prop:=Eg (λJ U=>AY X D Y U s') (λJ _=>Bb J W) (λJ U=>Q J U)
set_option tactic.hygienic true in def SE(X:Bv)(pins:List (AE×BP))(D:IV)(f:Flow)(s':AX):Prop:=match f with|.next=>Mq (λJ H'=>AY X pins J H' s') (λJ H'=>D.nx J H')|.brk=>Mq (λJ H'=>AY X pins J H' s') (λJ H'=>D.bk J H')|.cont=>Mq (λJ H'=>AY X pins J H' s') (λJ H'=>D.ct J H')|.ret u=>SM (λv J H'=>AY X pins J H' s') (λv _ _=>Bn v u) (λv _ H'=>D.rt v H')
def Ar(X:Bv)(e:BR)(t:BH):Prop:=∀(D:List (AE×BP))(s:AX)(J:Ap)(H:AI)(Q:BS),AY X D J H s->t J H Q->Aw (Av X.af X.w) X.A (BX e X.ae) (Ee X D J Q) X.xe s
def Ht(X:Bv)(e:BR)(t:DG):Prop:=∀(D:List (AE×BP))(s:AX)(J:Ap)(H:AI)(Q:Bool->AI->Prop),AY X D J H s->t J H Q->Aw (Av X.af X.w) X.A (Wq e X.ae (BX e X.ae)) (VU X D J Q) X.xe s
def Mp(X:Bv)(e:BR)(t:DG):Prop:=∀(J:DW AK)(D:List (AE×BP))(s:AX)(U:Ap)(H:AI)(Q:Bool->AI->Prop),AY X D U H s->t U H Q->Aw (Av X.af X.w) X.A (Wq e X.ae J) (VU X D U Q) X.xe s
theorem Hu(h:Mp X e t):Ht X e t:=h _
def Ge(X:Bv)(W:List BR)(t:FY):Prop:=∀(J:C6)(D:List (AE×BP))(s:AX)(U:Ap)(H:AI)(Q:List AB->AI->Prop),AY X D U H s->t U H Q->Aw (Av X.af X.w) X.A (spliced (GR J (Cj W X.ae))) (v9 X D U Q) X.xe s
def EW(X:Bv)(st:Cc)(t:C0):Prop:=∀(J:List (AE×BP))(s:AX)(U:Ap)(H:AI)(D:IV),AY X J U H s->t D U H->Aw (Av X.af X.w) X.A (exec st X.ae) (SE X J D) X.xe s
def Gu(X:Bv)(st:List Cc)(t:C0):Prop:=∀(J:List (AE×BP))(s:AX)(U:Ap)(H:AI)(D:IV),AY X J U H s->t D U H->Aw (Av X.af X.w) X.A (execs st X.ae) (SE X J D) X.xe s
theorem BI{Q D:J->AX->Prop}(h:Aw M A t Q E s)(U:∀a s,Q a s->D a s):Aw M A t D E s:=IF h U λ_ _ x=>x
def cZ(i:Nat):BH:=λD H Q=>Gf (λv=>D[i]?=AA (AA v)) (λv=>Q v H)
def Ib(v:AB):BH:=λ_ H Q=>Q v H
theorem So{x:AF}(A:X.N[i]?=AA x)(F:P0 X.ae.scope x)(V:(x==("__debug__":AF))=AQ:=by decide)(U:(x==("__classdict__":AF))=AQ:=by decide):Ar X (.Name x W) (cZ i):=by
  intro Z s G H Q I h;lk;obtain⟨v,e,h⟩:=h;obtain⟨m,E,B⟩:=I.wq;obtain⟨u,r,l⟩:=B i x v A e F;k_in;have fin:Ee X _ G Q u s:=⟨v,H,I,r,h⟩;rcases l with⟨J,C⟩|⟨J,c,Y,D⟩;.show ACw (wpAny_loadName_local I.ok.gq J E C fin) V
  . rcases J with J|J;.show ACw (wpAny_loadName_cell I.ok.gq J Y D fin) V
    .show ACw (wpAny_loadName_free I.ok.gq J Y D fin U) V
theorem AN:Ar X (.Constant (.int i) j D) (Ib (.int i)):=λ_ _ _ H _ I h=>wpAny_Constant_int ⟨.int i,H,I.dw _,⟨_,rfl⟩,h⟩
theorem K6:Ar X (.Constant (.bool b) j D) (Ib (.bl b)):=λ_ _ _ H _ I h=>Constant_bool ⟨.bl b,H,I,rfl,h⟩
theorem Gh:Ar X (.Constant .none j D) (Ib .non):=λ_ _ _ H _ I h=>Constant_none ⟨.non,H,I,rfl,h⟩
theorem Bi:Ar X (.Constant (.str x) j D) (Ib (.str x)):=λ_ _ _ H _ I h=>Calls.Constant_str ⟨.str x,H,I.dw _,⟨_,rfl⟩,h⟩
def Gd(X:Bv)(x:AF):Prop:=X.ae.kindOf x=AA .globalImplicit
theorem QD{x:AF}(I:AY X D Y H s)(V:Gd X x)(W:X.mg x=AA u)(h:Q u s)(U:(x==("__debug__":AF))=AQ:=by decide):Aw (Av X.af X.w) X.A (BX (.Name x J) X.ae) Q E s:=AEs I.ok.gq V (Calls.loadGlobal_global (by rw[I.ok.uv];show I.uk.uv.keeps I.bk) W h) U
theorem KH{x:AF}(I:AY X D C H s)(Y:Gd X x)(Z:X.mg x=AG)(B:Qt x=AA u)(h:Q u s)(A:x≠"__name__":=by decide)(W:(x==("__debug__":AF))=AQ:=by decide):Aw (Av X.af X.w) X.A (BX (.Name x J) X.ae) Q E s:=by obtain⟨F,U,V⟩:_:=I.uk.abb;show AEs I.ok.gq Y (Calls.loadGlobal_builtin (by rw[I.ok.uv];show I.uk.uv.keeps I.bk) Z (by rw[I.ok.abb];show U.keeps I.bk) ((V x A).trans B) h) W
theorem K7{x:AF}(U:Gd X x)(W:X.mg x=AA u)(r:Bn v u)(J:(x==("__debug__":AF))=AQ:=by decide):Ar X (.Name x D) (Ib v):=λ_ _ _ H _ I h=>QD I U W ⟨v,H,I,r,h⟩ J
theorem OI{x:AF}(U:Gd X x)(W:X.mg x=AG)(Z:Qt x=AA u)(r:Bn v u)(Y:x≠"__name__":=by decide)(J:(x==("__debug__":AF))=AQ:=by decide):Ar X (.Name x D) (Ib v):=λ_ _ _ H _ I h=>KH I U W Z ⟨v,H,I,r,h⟩ Y J
def Zc(X:Bv)(op:Oc)(a b:BR)(t:BH):Prop:=∀(D:List (AE×BP))(s:AX)(V:Ap)(H:AI)(Q:BS),AY X D V H s->t V H Q->Aw (Av X.af X.w) X.A (BX a X.ae) (λv J=>Aw (Av X.af X.w) X.A (BX b X.ae) (λu U=>Aw (Av X.af X.w) X.A (Ek op v u) (Ee X D V Q) X.xe U) X.xe J) X.xe s
theorem zG(b:BR)(h:op≠.In)(U:op≠.NotIn):Qq op b=AQ:=by
 have D:(op==AEu)=AQ:=by cases op<;>first|rfl|show absurd rfl h
 have J:(op==AEv)=AQ:=by cases op<;>first|rfl|show absurd rfl U
 cases b<;>simp[Qq,D,J]
def AAr(t:BH):DG:=λJ H Q=>t J H λx D=>Gf (λc=>x=.bl c) (λc=>Q c D)
theorem bL(h:Zc X op a b t)(J:Qq op b=AQ:=by first|show zG _ (by decide) (by decide)|rfl):Ar X (.Compare a [op] [b] U) t:=λD s V H Q I hw=>AGC (h D s V H Q I hw) J
theorem Fg(h:Ar X e t)(W:∀D,Wq e X.ae D=(do let v<-D;standAt e.pos;holding [v] (truthy v)):=by intro _;rfl):Ht X e (AAr t):=by intro J s Z H Q I hw;show isTrue_plain (BI (h _ s Z H _ I hw) λv s1⟨x,U,V,r1,Y⟩=>?_) (W _);lk;obtain⟨d,rfl,q⟩:=Y;cases r1;k_in;show Ov ⟨U,V,q⟩
def AAp(t u:DG):DG:=λJ H Q=>t J H λc D=>if c=AJ then u J D Q else Q AQ D
def ABB(t u:DG):DG:=λJ H Q=>t J H λc D=>if c=AJ then Q AJ D else u J D Q
def AA9(t:DG):DG:=λJ H Q=>t J H λc D=>Q (!c) D
theorem ON(J:Ht X a V):Mp X (.BoolOp .And [a] U) V:=by intro Y D s W H Q I h;show isTrue_and (BI (J _ s W H Q I h) λc s1 e=>?_);cases c with|true=>show isTrue_and_nil e|false=>show e
theorem Ly(J:Ht X a V):Mp X (.BoolOp .Or [a] U) V:=by intro Y D s W H Q I h;show isTrue_or (BI (J _ s W H Q I h) λc s1 e=>?_);cases c with|false=>show isTrue_or_nil e|true=>show e
theorem OM(C:Ht X a F)(E:Mp X (.BoolOp .And (b::J) U) V):Mp X (.BoolOp .And (a::b::J) U) (AAp F V):=by intro G Z s B H Q I h;show isTrue_and (BI (C _ s B H _ I h) λc s1 D=>?_);obtain⟨W,Y,A⟩:_:=D;cases c with|true=>show E G _ s1 B W Q Y A|false=>show⟨W,Y,A⟩
theorem K8(C:Ht X a F)(E:Mp X (.BoolOp .Or (b::J) U) V):Mp X (.BoolOp .Or (a::b::J) U) (ABB F V):=by intro G Z s B H Q I h;show isTrue_or (BI (C _ s B H _ I h) λc s1 D=>?_);obtain⟨W,Y,A⟩:_:=D;cases c with|true=>show⟨W,Y,A⟩|false=>show E G _ s1 B W Q Y A
theorem Jn(J:Ht X a V):Ht X (.UnaryOp .Not a U) (AA9 V):=by intro D s W H Q I h;show isTrue_not (J _ s W H _ I h)
def AAq(U V:BH):BH:=λJ H Q=>U J H λx D=>Gf (λc=>x=.bl c) (λc=>if c=AJ then V J D Q else Q (.bl AQ) D)
def ABA(J:BH):BH:=λU H Q=>J U H λx D=>Gf (λc=>x=.bl c) (λc=>Q (.bl (!c)) D)
theorem OJ(h:Ar X a t):Ar X (.BoolOp op [a] J) t:=λD s U H Q I hw=>BoolOp_one (h _ s U H Q I hw)
theorem Jk(B:Ar X a E)(C:Ar X (.BoolOp .And (b::J) V) F):Ar X (.BoolOp .And (a::b::J) V) (AAq E F):=by intro Z s A H Q I h;show BoolOp_and (BI (B _ s A H _ I h) λv s1 D=>?_);lk;obtain⟨x,W,Y,r1,U⟩:=D;obtain⟨c,rfl,U⟩:=U;cases r1;k_in;show Ov ?_;cases c with|true=>show C _ s1 A W Q Y U|false=>show⟨.bl _,W,Y,rfl,U⟩
theorem AAD(Y:Ar X a A):Ar X (.UnaryOp .Not a Z) (ABA A):=by intro U s B H Q I h;show UnaryOp_ (BI (Y _ s B H _ I h) λv s1 D=>?_);lk;obtain⟨x,V,W,r1,J⟩:=D;obtain⟨c,rfl,J⟩:=J;cases r1;k_in;show not_of (Ov ⟨.bl _,V,W,rfl,J⟩)
def AA2(t:DG)(U V:BH):BH:=λD H Q=>t D H λc J=>if c=AJ then U D J Q else V D J Q
theorem KL(B:Ht X c E)(Z:Ar X a F)(A:Ar X b G):Ar X (.IfExp c a b C) (AA2 E F G):=by intro W s J H Q I h;show wpAny_IfExp (BI (B _ s J H _ I h) λd s1 D=>?_);obtain⟨U,V,Y⟩:_:=D;cases d with|true=>show Z _ s1 J U Q V Y|false=>show A _ s1 J U Q V Y
def CO(K:BB)(H:AI)(a:AE)(xs:List AB):Prop:=GK H a (.lst xs)\/Zg (λ(o:BP)(D:Array AK)(n:Nat)=>K.lookup a=AA o) (λo _ _=>o.cls=.type "list") (λo _ _=>o.dict=AG) (λo D n=>o.data=.seq D n) (λ_ D _=>D.size<=As) (λ_ D _=>Bb xs D.toList)
def CB(K:BB)(H:AI)(a:AE)(xs:List AB):Prop:=GK H a (.tup xs)\/P2 (λ(o:BP)(D:Array AK)(n:Nat)=>K.lookup a=AA o) (λo _ _=>o.cls=.type "tuple") (λo D n=>o.data=.seq D n) (λ_ D _=>D.size<=As) (λ_ D _=>Bb xs D.toList)
noncomputable def wN:AK->Option AB|.none=>AA .non|.bool b=>AA (.bl b)|.int i _=>AA (.int i)|.str x _=>AA (.str x)|.bytes b _=>AA (.byt b)|.float b _=>AA (.flt b)|.ref a=>AA (.ref a)|.type n=>AA (.ty n)|_=>AG
theorem Bn.ado(r:Bn x u):wN u=AA x:=by cases x with|non=>cases r;rfl|bl _=>cases r;rfl|int _=>obtain⟨t,rfl⟩:=r;rfl|str _=>obtain⟨t,rfl⟩:=r;rfl|byt _=>obtain⟨t,rfl⟩:=r;rfl|flt _=>obtain⟨t,rfl⟩:=r;rfl|ref _=>cases r;rfl|ty _=>cases r;rfl
theorem Bn.xu(r:Bn x u)(q:Bn y u):x=y:=CD (r.ado.symm.trans q.ado)
theorem Bb.xu(h:Bb xs D):Bb ys D->xs=ys:=by induction h generalizing ys with|nil=>intro g;cases g;rfl|cons r _ J=>intro g;cases g with|cons U W=>rw[r.xu U,J W]
theorem AW{K:BB}(h:H a=AA (.lst xs)):CO K H a xs:=.inl (.inl h)
theorem Aq{K:BB}(h:H a=AA (.tup xs)):CB K H a xs:=.inl (.inl h)
theorem AY.fw(I:AY X D Z H s)(h:CO X.K H a xs):∃its:List AK,Bb xs its/\PlainL s.heap a its.toArray/\xs.length<=As:=by
 rcases h with h|⟨o,its,n,V,J,U,W,Y,r⟩
 . obtain⟨z,its,n,r,e⟩:_:=h.ok I.bj;show⟨its,r,⟨_,n,e,rfl,rfl,rfl⟩,z⟩
 . show⟨_,r,⟨o,n,I.my a o V,J,U,by simpa using W⟩,?_⟩;have e:=r.ai;simp_all
theorem AY.de(I:AY X D Y H s)(h:CB X.K H a xs):∃its:List AK,Bb xs its/\Wa s.heap a its.toArray/\xs.length<=As:=by
 rcases h with h|⟨o,its,n,U,J,V,W,r⟩
 . obtain⟨z,its,r,p⟩:_:=h.ok I.bj;show⟨its,r,p,z⟩
 . show⟨_,r,⟨o,I.my a o U,J,n,by simpa using V⟩,?_⟩;have e:=r.ai;simp_all
theorem AY.vz(I:AY X V C H s)(h:CO X.K H a xs)(h':CO X.K H a ys):xs=ys:=by
 lk;obtain⟨Y,r,⟨o,n,e,_,_,d⟩,_⟩:=I.fw h;obtain⟨U,Z,⟨B,A,J,_,_,D⟩,_⟩:=I.fw h';k_in;rw[e]at J;cases J;rw[d]at D;injection D with W _;have:=by simpa using AHU ADS W
 subst this;show r.xu Z
theorem AY.yp(I:AY X W C H s)(h:CB X.K H a xs)(h':CB X.K H a ys):xs=ys:=by
 lk;obtain⟨J,r,⟨o,e,_,n,d⟩,_⟩:=I.de h;obtain⟨D,Z,⟨B,V,_,A,U⟩,_⟩:=I.de h';k_in;rw[e]at V;cases V;rw[d]at U;injection U with Y _;have:J=D:=by simpa using AHU ADS Y
 subst this;show r.xu Z
noncomputable abbrev Bv.tf(X:Bv)(E:AK->AX->Prop):Bv:={X with xe:=E}
noncomputable abbrev Bv.aby(X:Bv):Bv:=X.tf λ_ _=>False
theorem Bv.Ok.tf{X:Bv}(D:X.Ok)(E:AK->AX->Prop):(X.tf E).Ok:=⟨D.uk,D.gq,D.uv,D.abb,D.ni,D.xu,D.abp,D.abh,D.hd,D.jh,D.acr,D.acu,D.bs,D.zu,D.zi,D.za,D.ml,D.aah⟩
theorem Bv.Ok.jl{X:Bv}(D:(X.tf E).Ok):X.Ok:=⟨D.uk,D.gq,D.uv,D.abb,D.ni,D.xu,D.abp,D.abh,D.hd,D.jh,D.acr,D.acu,D.bs,D.zu,D.zi,D.za,D.ml,D.aah⟩
theorem AY.tf(I:AY X D J H s)(E:AK->AX->Prop):AY (X.tf E) D J H s:=⟨I.ok.tf E,I.os,I.il,I.ag,I.wq,I.kj,I.az,I.gy,I.sj,I.bj,I.bh⟩
theorem AY.jl(I:AY (X.tf E) D J H s):AY X D J H s:=⟨I.ok.jl,I.os,I.il,I.ag,I.wq,I.kj,I.az,I.gy,I.sj,I.bj,I.bh⟩
section
variable{X:Bv}{pins:List (AE×BP)}{E:AK->AX->Prop}
set_option tactic.hygienic true in theorem SE.jl{D:IV}{f:Flow}{s':AX}(h:SE (X.tf E) pins D f s'):SE X pins D f s':=by cases f with|next=>obtain⟨J,H',I,q⟩:=h;show⟨J,H',I.jl,q⟩|brk=>obtain⟨J,H',I,q⟩:=h;show⟨J,H',I.jl,q⟩|cont=>obtain⟨J,H',I,q⟩:=h;show⟨J,H',I.jl,q⟩|ret u=>obtain⟨v,J,H',I,r,q⟩:=h;show⟨v,J,H',I.jl,r,q⟩
end
theorem Gu.aby{st:List Cc}(h:Gu X.aby st t):Gu X st t:=λJ s U H D I hw=>IF (h _ s U H D (I.tf _) hw) (λ_ _ q=>q.jl) λ_ _ z=>HY z
def AA8:C0:=λD J H=>D.nx J H
def S7(t u:C0):C0:=λD J H=>t {D with nx:=u D} J H
theorem Cg:Gu X [] AA8:=λ_ _ D H _ I h=>g8 ⟨D,H,I,h⟩
section
variable{X:Bv}{st:Cc}{rest:List Cc}{t u:C0}
set_option tactic.hygienic true in theorem Ah(h1:EW X st t)(h2:Gu X rest u):Gu X (st::rest) (S7 t u):=by intro pins s σ H D I h;show AGF (BI (h1 _ s σ H _ I h) λf s1 q=>?_);cases f with|next=>obtain⟨U,H',J,q⟩:_:=q;show h2 _ s1 _ H' D J q|ret v=>show q|brk=>show q|cont=>show q
end
section
variable{X:Bv}{st:Cc}{t:C0}
set_option tactic.hygienic true in theorem Af(h1:EW X st t):Gu X [st] t:=by intro pins s σ H D I h;show AGF (BI (h1 _ s σ H D I h) λf s1 q=>?_);cases f with|next=>show g8 q|ret v=>show q|brk=>show q|cont=>show q
end
theorem AY.acb(I:AY X D J H s):interactive X.ae=AQ:=by simp[interactive,I.ok.gq]
def AAz(V:BH):C0:=λD J H=>V J H λ_ U=>D.nx J U
theorem Dr(Z:Ar X e C)(A:Ot e AG J.line X.ae=Be AQ:=by rfl):EW X (.Expr e J) (AAz C):=by intro U s V H D I h;show wpAny_Expr_any (BI (Z _ s V H _ I h) λv s1⟨x,W,Y,r1,B⟩=>⟨V,W,Y,B⟩) I.acb A
def ABC(J:BH):C0:=λD U H=>J U H D.rt
theorem BD(Z:Ar X e C):EW X (.Return (AA e) A) (ABC C):=by intro U s V H D I h;show wpAny_Return_some (BI (Z _ s V H _ I h) λv s1 J=>?_);obtain⟨x,W,Y,r1,B⟩:_:=J;show⟨x,V,W,Y,r1,B⟩
def ABD:C0:=λD _ H=>D.rt .non H
theorem AAN:EW X (.Return AG D) ABD:=λ_ _ J H _ I h=>wpAny_Return_none ⟨.non,J,H,I,rfl,h⟩
def AA3(c:DG)(t u:C0):C0:=λD J H=>c J H λb U=>if b=AJ then t D J U else u D J U
theorem CP(E:Ht X c A)(B:Gu X a t)(C:Gu X b u):EW X (.If c a b F) (AA3 A t u):=by intro Y s U H D I h;show wpAny_If (BI (E _ s U H _ I h) λd s1 J=>?_);obtain⟨V,W,Z⟩:_:=J;cases d with|true=>show B _ s1 U V D W Z|false=>show C _ s1 U V D W Z
def AA7:C0:=λ_ _ _=>False
theorem QP:Gu X D AA7:=λ_ _ _ _ _ _ h=>h.elim
abbrev Ef:=AB->Ap->AI->(Ap->AI->Prop)->Prop
abbrev Lg:=List AB->Ap->AI->(Ap->AI->Prop)->Prop
def Kx(X:Bv)(D:BR)(t:Ef):Prop:=∀(J:List (AE×BP))(s:AX)(Y:Ap)(H:AI)(v:AB)(u:AK)(Q:Ap->AI->Prop),AY X J Y H s->Bn v u->t v Y H Q->Aw (Av X.af X.w) X.A (assign D X.ae u) (λ_ Z=>Mq (λU W=>AY X J U W Z) (λU W=>Q U W)) X.xe s
def Pu(X:Bv)(B:List BR)(t:Lg):Prop:=∀(D:List (AE×BP))(s:AX)(Z:Ap)(H:AI)(Y:List AB)(W:List AK)(Q:Ap->AI->Prop),AY X D Z H s->Bb Y W->t Y Z H Q->Aw (Av X.af X.w) X.A (assignInOrder ((Qo B X.ae).map (·.2)) W) (λ_ A=>Mq (λJ U=>AY X D J U A) (λJ U=>Q J U)) X.xe s
def Gg(i:Nat):Ef:=λv D H Q=>Q (D.set i (AA v)) H
theorem Jm(U:X.N.Nodup)(hi:X.N[i]?=AA x)(W:Lf X.ae.scope x)(V:X.fn x=AJ\/X.ae.scope.names.lookup x=AA .local:=by first|show .inl rfl|show .inr rfl|assumption):Kx X (.Name x Y) (Gg i):=by intro D s A H v u Q I r h;show AGD (cL I U hi W r (λZ J=>⟨_,H,J,h⟩) V)
def Z8:Lg:=λD J H Q=>D=[]/\Q J H
def Vi(t:Ef)(u:Lg):Lg:=λU V H Q=>Mq (λv r=>U=v::r) (λv r=>t v V H λD J=>u r D J Q)
theorem M4:Pu X [] Z8:=by intro D s J H V U Q I r h;obtain⟨e,h⟩:=h;subst e;show assignInOrder_nil ⟨J,H,I,h⟩
theorem IA(Z:Kx X e t)(A:Pu X J u)(B:(Qo (e::J) X.ae).map (·.2)=assign e X.ae::(Qo J X.ae).map (·.2):=by rfl):Pu X (e::J) (Vi t u):=by intro U s F H M K Q I r h;obtain⟨v,L,Y,h⟩:_:=h;subst Y;cases r with|cons r E=>rw[B];show assignInOrder_cons (BI (Z _ s F H _ _ _ I r h) λ_ s1 D=>?_);obtain⟨G,V,W,C⟩:_:=D;show A _ s1 _ V _ _ Q W E C
def Vj(K:BB)(n:Nat)(t:Lg):Ef:=λv J H Q=>Mr (λa D=>v=.ref a) (λa D=>CB K H a D) (λ_ D=>D.length=n) (λ_ D=>t D J H Q)
theorem bR{K:C6}(Z:X.fh=AJ)(h:Pu X D t)(B:(Qo D X.ae).length=n:=by rfl)(J:(Qo D X.ae).findIdx? (·.1)=AG:=by rfl):Kx X (.Tuple D k K) (Vj X.K n t):=by intro U s M H v u Q I r hw;obtain⟨a,L,Y,C,A,hw⟩:_:=hw;subst Y;lk;cases r;obtain⟨G,V,E,O⟩:=I.de C;k_in;show assign_Tuple_tuple (I.ok.hd Z) E (by simp[B,<-A,V.ai]) J λN F=>?_;have W:=I.ff (t':=s.toks) λb o e=>F b o (Dv (Cb e)) e;show h _ _ M H L _ Q W (by simpa using V) hw
def Sz(V:BH)(g:Ef):C0:=λD J H=>V J H λx U=>g x J U D.nx
theorem KN(B:X.N.Nodup)(hi:X.N[i]?=AA x)(G:Lf X.ae.scope x)(C:Ar X e W)(F:Ot e (AA (.Name x J)) U.line X.ae=Be AQ:=by rfl)(E:X.fn x=AJ\/X.ae.scope.names.lookup x=AA .local:=by first|show .inl rfl|show .inr rfl|assumption):EW X (.Assign [.Name x J] e U) (Sz W (Gg i)):=by intro V s L H D I h;show wpAny_Assign_Name (BI (C _ s L H _ I h) λv s1⟨y,Y,Z,r1,K⟩=>?_) F;show cL Z B hi G r1 (λs2 A=>⟨_,Y,A,K⟩) E
def c7(c:DG)(A:C0):C0:=λD J H=>∃W:Nat->Ap->AI->Prop,(∃m,W m J H)/\∀m J H,W m J H->c J H λb Y=>if b=AJ then∃N:Ap->AI->Prop,(∀U V,N U V->∃Z,Z<m/\W Z U V)/\A {D with nx:=N,ct:=N,bk:=D.nx} J Y else D.nx J Y
section
variable{X:Bv}{pos:C6}
set_option tactic.hygienic true in theorem bW{c:BR}{body:List Cc}{tc:DG}{tb:C0}(M:PassesOwn (Av X.af X.w) X.A X.ae X.xe)(R:Ht X c tc)(Q:Gu X body tb):EW X (.While c body [] pos) (c7 tc tb):=by intro pins s σ H D I h;obtain⟨W,⟨S,T⟩,turn⟩:_:=h;show wpAny_While (codeAny_whileLoop (λn s'=>∃Y H',AY X _ Y H' s'/\W n Y H') ?_ S ⟨σ,H,I,T⟩);intro n s1 P;obtain⟨G,H1,O,a⟩:_:=P;show Q0 M (BI (R _ s1 _ H1 _ O (turn n _ H1 a)) λb s2 V=>?_);obtain⟨H2,K,Z⟩:_:=V;cases b with
 |true=> obtain⟨N,L,Z⟩:_:=Z;show Q0 M (BI (Q _ s2 _ H2 _ K Z) λf s3 A=>?_);cases f with
  |next=> lk;obtain⟨J,U,B,E⟩:=A;obtain⟨C,hm,F⟩:=L _ U E;k_in;show⟨C,hm,J,U,B,F⟩|cont=> lk;obtain⟨J,U,B,E⟩:=A;obtain⟨C,hm,F⟩:=L _ U E;k_in;show⟨C,hm,J,U,B,F⟩|brk=>show A|ret v=>show A
 |false=>show g8 ⟨G,H2,K,Z⟩
end
structure Es where
 go:Nat->AI->Prop
 yu:Nat->AI->AB->AI->Prop
 qe:Nat->AI->Prop
def Jf(X:Bv)(D:List (AE×BP))(H:AI)(b:AE):Prop:=H b=AG/\b≠X.ae.locals/\b∉X.fs/\(b∈X.ex\/X.s₀.heap.objs.size<=b)/\(∀x c,X.ae.cells.lookup x=AA c->c≠b)/\∀p∈X.pn++D,p.1≠b
theorem AY.pj(I:AY X D W H s)(J:s.heap.objs.size<=b)(U:H' b=AG):Jf X D H' b:=by
 show⟨U,NG (Bl I.lt J),I.adf J,.inr (Ag I.sz J),λx c e z=>?_,λp V z=>?_⟩;. obtain⟨v,q⟩:=I.kj x c e;show absurd (Bl q.lt (by rw[z];show J)) (JN _)
 .show absurd (Bl (Cb (I.sj p V).1) (by rw[z];show J)) (JN _)
structure K0(P:CS)(w:B0)(K:BB)(tg:BR)(J:Es)(fp:List AE)(it:AE)(tn:Nat->BW->Prop):Prop where
 zw:it∈fp
 bb:∀i h,tn i h->∀b∈fp,∃o,h.get? b=AA o/\∀v,o.data≠.cell v
 ab:∀i h h',tn i h->(∀b∈fp,∀o,h.get? b=AA o->h'.get? b=AA o)->tn i h'
 si:∀(X:Bv),X.af=P->X.w=w->X.K=K->X.fh=AJ->∀(i:Nat)(pins:List (AE×BP))(s:AX)(σ:Ap)(H:AI)(E:AK->AX->Prop),AY X pins σ H s->(∀b∈fp,Jf X pins H b)->tn i s.heap->J.go i H->Aw (Av P w) X.A (ML (.ref it)) (λr s1=>∃u,r=AA u/\Aw (Av P w) X.A (ACr tg (.ref it) u) (λ_ s2=>∃x H',AY X pins σ H' s2/\Bn x u/\J.yu i H x H'/\tn (i+1) s2.heap/\∀b∈fp,H' b=AG) E s1) E s
 rq:∀(X:Bv),X.af=P->X.w=w->X.K=K->X.fh=AJ->∀(i:Nat)(pins:List (AE×BP))(s:AX)(σ:Ap)(H:AI)(E:AK->AX->Prop),AY X pins σ H s->(∀b∈fp,Jf X pins H b)->tn i s.heap->J.qe i H->Aw (Av P w) X.A (ML (.ref it)) (λr s1=>r=AG/\AY X pins σ H s1) E s
 ux:∀(A:DB)(i:Nat)(s:AX)(Q:AK->AX->Prop)(E:AK->AX->Prop),tn i s.heap->Q (.ref it) s->Aw (Av P w) A (Wr (.ref it)) Q E s
abbrev FZ:=Ap->AI->(Es->AI->Prop)->Prop
def VR(X:Bv)(D:List (AE×BP))(B:Ap)(A:BR)(R:Es->AI->Prop)(Z:AK)(s2:AX):Prop:=Zi (λ(Y:AE)(V:List AE)(W:Nat->BW->Prop)(J:Es)(U:AI)=>Z=.ref Y) (λ_ _ _ _ U=>AY X D B U s2) (λY V W J _=>K0 X.af X.w X.K A J V Y W) (λ_ _ W _ _=>W 0 s2.heap) (λ_ V _ _ U=>(∀b∈V,Jf X D U b)) (λ_ _ _ J U=>R J U)
def FJ(X:Bv)(V J:BR)(wi:FZ):Prop:=∀(D:List (AE×BP))(s:AX)(U:Ap)(H:AI)(R:Es->AI->Prop),AY X D U H s->wi U H R->Aw (Av X.af X.w) X.A (BX J X.ae) (λv s1=>Aw (Av X.af X.w) X.A (Wr v) (VR X D U V R) X.xe s1) X.xe s
theorem Mu(Y:s.heap.get? it=AA o)(U:o.cls=.type n)(V:o.data=.fields vs)(W:["enumerate","zip","dict_itemiterator","dict_reverseitemiterator","odict_iterator","itertools.zip_longest","itertools.pairwise"].contains n=AQ)(D:Q () s):Aw M A (ACr J (.ref it) u) Q E s:=by cases J<;>first|show CN D|(cases u<;>first|show CN D| (show Ay (ACz Y ?_);rw[U,V];change Aw M A (if(["enumerate","zip","dict_itemiterator","dict_reverseitemiterator","odict_iterator","itertools.zip_longest","itertools.pairwise"].contains n&&vs[0]?==AA _)=AJ then _ else _) Q E s;rw[AHS (by intro h;rw[W]at h;cases h)];show CN D))
noncomputable def Mo(K:BB)(a:AE):Es:=⟨λi H=>∃D x,CO K H a D/\D[i]?=AA x,λi H x J=>J=H/\∀D,CO K H a D->D[i]?=AA x,λi H=>Gf (λD=>CO K H a D) (λD=>D.length<=i)⟩
noncomputable def VO(K:BB)(a:AE):Es:=⟨λi H=>∃D x,CB K H a D/\D[i]?=AA x,λi H x J=>J=H/\∀D,CB K H a D->D[i]?=AA x,λi H=>Gf (λD=>CB K H a D) (λD=>D.length<=i)⟩
noncomputable def Le(lo:Int)(n:Nat):Es:=⟨λi _=>i<n,λi H x D=>D=H/\x=.int (lo+i),λi _=>n<=i⟩
theorem ABK{K:BB}(a it:AE):K0 P w K r (Mo K a) [it] it (λi h=>h.IsListIter it a i)where
 zw:=by simp
 bb:=λi h D b J=>by
  have e:b=it:=by simpa using J
  subst e;obtain⟨o,e,c,d⟩:_:=D;show⟨o,e,λv z=>by rw[d]at z;cases z⟩
 ab:=λi h R D k=>D.at λo e=>k it (by simp) o e
 si:=by intro X L hw G S i U s y H E I W D M;subst L hw G;lk;obtain⟨t,x,Y,N⟩:=M;obtain⟨O,Q,p,m⟩:=I.fw Y;obtain⟨u,j,n⟩:=Q.se N;obtain⟨Z,A,g,B,C,F⟩:=W it (by simp);k_in;show wpAny_pyNext_list_item D p.isList (x:=u) (by simpa using j) λR V q=>?_;have T:=I.cb (t':=s.toks) (λb o J e=>(q.2 b J).trans e) Z A B C F;obtain⟨o,e,c,d⟩:_:=id V;show⟨u,rfl,Mu e c d (by decide) ⟨x,H,T,n,⟨rfl,λys l=>by rw[I.vz l Y];show N⟩,V,λb J=>(W b J).1⟩⟩
 rq:=by intro X L hw G S i U s y H E I W D M;subst L hw G;lk;obtain⟨t,Y,N⟩:=M;obtain⟨O,Q,p,m⟩:=I.fw Y;obtain⟨Z,A,g,B,C,F⟩:=W it (by simp);k_in;have hl:=Q.ai;show wpAny_pyNext_list_end (I.ok.hd S) D p.isList (by simp;simp_all) λR f=>⟨rfl,I.cb (λb o J e=>f b o J e) Z A B C F⟩
 ux:=λ_ _ _ _ _ D h=>wpAny_pyIter_listiter D h
theorem ABN{K:BB}(a it:AE):K0 P w K t (VO K a) [it] it (λi h=>h.IsTupleIter it a i)where
 zw:=by simp
 bb:=λi h D b U=>by
  have e:b=it:=by simpa using U
  subst e;obtain⟨o,e,c,d⟩:_:=D;show⟨o,e,λv z=>by rw[d]at z;cases z⟩
 ab:=λi h Y D k=>D.at λo e=>k it (by simp) o e
 si:=by intro X N hw M S i J s T H E I Z D O;subst N hw M;lk;obtain⟨y,x,A,Q⟩:=O;obtain⟨V,R,p,n⟩:=I.de A;obtain⟨u,l,q⟩:=R.se Q;obtain⟨B,C,j,F,G,L⟩:=Z it (by simp);k_in;show wpAny_pyNext_tuple_item D (show s.heap.IsTuple a V.toArray from p) (x:=u) (by simpa using l) λY W r=>?_;have f:AY X J T H {s with heap:=Y}:=I.cb (t':=s.toks) (λb o U e=>(r.2 b U).trans e) B C F G L;obtain⟨o,e,c,d⟩:_:=id W;show⟨u,rfl,Mu (s:={s with heap:=Y}) e c d (by decide) ⟨x,H,f,q,⟨rfl,λys m=>by rw[I.yp m A];show Q⟩,W,λb U=>(Z b U).1⟩⟩
 rq:=by intro X N hw M S i J s T H E I Z D O;subst N hw M;lk;obtain⟨y,A,Q⟩:=O;obtain⟨V,R,p,n⟩:=I.de A;obtain⟨B,C,j,F,G,L⟩:=Z it (by simp);k_in;have hl:=R.ai;show wpAny_pyNext_tuple_end (I.ok.hd S) D (show s.heap.IsTuple a V.toArray from p) (by simp;omega) λY g=>⟨rfl,I.cb (t':=s.toks) (λb o U e=>g b o U e) B C F G L⟩
 ux:=λ_ _ _ _ _ D h=>wpAny_pyIter_tupleiter D h
theorem ABL{K:BB}(it:AE)(lo:Int)(n:Nat):K0 P w K d (Le lo n) [it] it (λi h=>fX h it (lo+(i:Nat)*1) ((n:Int)-(i:Nat)) 1)where
 zw:=by simp
 bb:=λi h D b U=>by
  have e:b=it:=by simpa using U
  subst e;show⟨_,D,λv z=>by have g:=z;cases g⟩
 ab:=λi h G D k=>k it (by simp) _ D
 si:=by intro X O hw N L i J s Q H E I Y D M;subst O hw N;obtain⟨Z,A,T,B,C,F⟩:_:=Y it (by simp);have W:=AFs (prog:=X.af) (w:=X.w) (I.ok.hd L) it lo 1 n;show W.item i s _ _ M D λv G f a V c=>?_;obtain⟨t,rfl⟩:=a;have R:AY X J Q H {s with heap:=G,toks:=f}:=I.cb (λb o U e=>c b o (by simpa using U) e) Z A B C F;show⟨_,rfl,Mu V rfl rfl (by decide) ⟨.int (lo+i),H,R,⟨t,?_⟩,⟨rfl,rfl⟩,V,λb U=>(Y b U).1⟩⟩;rw[Int.mul_one]
 rq:=by intro X O hw N L i J s Q H E I Y D M;obtain⟨Z,A,T,B,C,F⟩:_:=Y it (by simp);show AGM (I.ok.hd L) D (by have:=M;show ADo (jI.mp this)) λG S=>⟨rfl,I.cb (λb o U e=>S b o U e) Z A B C F⟩
 ux:=λ_ _ _ _ _ D h=>AGL D h
def aB(K:BB)(J:BH):FZ:=λV H R=>J V H λx D=>Lh (λa=>x=.ref a) (λa=>(∃U,CO K D a U)) (λa=>R (Mo K a) D)
def aC(K:BB)(J:BH):FZ:=λV H R=>J V H λx D=>Lh (λa=>x=.ref a) (λa=>(∃U,CB K D a U)) (λa=>R (VO K a) D)
theorem bS{K:BR}(Z:Ar X l V):FJ X K l (aB X.K V):=by
 intro U s E H R I h;show BI (Z _ s E H _ I h) λv s1 D=>?_;lk;obtain⟨x,W,J,r1,C⟩:=D;obtain⟨a,e,⟨L,A⟩,q⟩:=C;k_in;subst e;lk;cases r1;obtain⟨B,G,p,F⟩:=J.fw A;k_in;show AGJ p.isList ?_;show⟨_,_,_,_,W,rfl,J.ff λb o e=>Ca _ e,ABK a _,⟨_,ER _ rfl,rfl,rfl⟩,λb Y=>?_,q⟩;have e:=by simpa using Y
 subst e;show J.pj (Ai _) (J.bj.ax (Ai _))
theorem bU(Z:Ar X l V):FJ X G l (aC X.K V):=by
 intro D s C H R I h;show BI (Z D s C H _ I h) λv s1⟨x,W,J,r1,B⟩=>?_;obtain⟨a,e,⟨K,A⟩,q⟩:_:=B;subst e;lk;cases r1;obtain⟨U,F,p,E⟩:=J.de A;k_in;show wpAny_pyIter_tuple (show s1.heap.IsTuple a U.toArray from p) ?_;show⟨s1.heap.objs.size,[s1.heap.objs.size],_,_,W,rfl,J.ff (t':=s1.toks) λb o e=>Ca _ e,ABN a _,⟨_,ER _ rfl,rfl,rfl⟩,λb Y=>?_,q⟩;have e:b=s1.heap.objs.size:=by simpa using Y
 subst e;show J.pj (Ai _) (J.bj.ax (Ai _))
theorem cC{lo:Int}(I:AY X D U H s)(Y:-(2^62)<=lo)(Z:lo<2^62)(A:-(2^62)<=hi)(B:hi<2^62)(q:R (Le lo (hi-lo).toNat) H):Aw (Av X.af X.w) X.A (Wr (.ref s.heap.objs.size)) (VR X D U F R) E {s with heap:=s.heap.push {cls:=.type "range",data:=.fields #[.int lo t,.int hi u,.int 1 v]},toks:=tk}:=by
  show AGK (ACR ..) (small_one Y Z A B) ?_;have J:AY X _ U H {s with heap:=s.heap.push {cls:=.type "range",data:=.fields #[.int lo t,.int hi u,.int 1 v]},toks:=tk}:=I.ff λb o e=>Ca _ e;show⟨_,_,_,_,H,rfl,J.ff λb o e=>Ca _ e,ABL _ lo _,?_,λb C=>?_,q⟩
  . have V:lo+((0:Nat))*1=lo:=by simp
    have W:(((hi-lo).toNat:Nat))-((0:Nat))=fQ lo hi 1:=by rw[rangeSize_one];split<;>lia
    change fX _ _ _ _ 1;rw[V,W];show ER _ rfl
  . have e:b=(s.heap.push {cls:=.type "range",data:=.fields #[.int lo t,.int hi u,.int 1 v]}).objs.size:=by simpa using C
    subst e;show J.pj (Ai _) (J.bj.ax (Ai _))
def yJ(J:FY):FZ:=λV H R=>J V H λU D=>Zf (λ(j:Int)=>U=[.int j]) (λj=>-(2^62)<=j) (λj=>j<2^62) (λj=>R (Le 0 j.toNat) D)
def yK(J:FY):FZ:=λV H R=>J V H λU D=>Eg (λ(i j:Int)=>U=[.int i,.int j]) (λi j=>(-(2^62)<=i/\i<2^62/\-(2^62)<=j/\j<2^62)) (λi j=>R (Le i (j-i).toNat) D)
theorem QN{K:BR}(Z:Gd X "range")(A:X.mg "range"=AG)(Y:Ge X [a] V)(B:Cj [a] X.ae=[(AQ,BX a X.ae)]:=by rfl):FJ X K (.Call (.Name "range" p) [a] [] D) (yJ V):=by intro U s F H R I h;show WZ (KH I Z A fC (Qe (BI (Y _ _ s F H _ I h) λL s1⟨M,G,W,r1,J⟩=>?_) B rfl));obtain⟨j,e,J,C,q⟩:_:=J;subst e;cases r1 with|cons r E=>lk;cases E;obtain⟨t,rfl⟩:=r;k_in;show call_range_1 (cC W (by simp) (by simp) J C (by simpa using q))
theorem AAH(B:Gd X "range")(C:X.mg "range"=AG)(A:Ge X [a,b] Y)(E:Cj [a,b] X.ae=[(AQ,BX a X.ae),(AQ,BX b X.ae)]:=by rfl)(D:Cj [b] X.ae=[(AQ,BX b X.ae)]:=by rfl):FJ X P (.Call (.Name "range" p) [a,b] [] J) (yK Y):=by intro W s M H R I h;show WZ (KH I B C fC (Qe (BI (A _ _ s M H _ I h) λQ s1⟨S,N,Z,r1,U⟩=>?_) (by rw[E,D]) (by rw[D];rfl)));obtain⟨i,j,e,⟨U,F,G,K⟩,q⟩:_:=U;subst e;cases r1 with|cons r V=>cases V with|cons L V=>lk;cases V;obtain⟨t,rfl⟩:=r;obtain⟨O,rfl⟩:=L;k_in;show call_range_2 (cC Z U F G K q)
def AA1(wi:FZ)(g:Ef)(E:C0):C0:=λD U H=>wi U H λJ B=>∃W:Nat->Nat->Ap->AI->Prop,(∃m,W 0 m U B)/\∀i m U H,W i m U H->(J.qe i H/\D.nx U H)\/(J.go i H/\∃N:Ap->AI->Prop,(∀Y V,N Y V->∃A,A<m/\W (i+1) A Y V)/\∀x V,J.yu i H x V->g x U V λZ C=>E {D with nx:=N,ct:=N,bk:=D.nx} Z C)
noncomputable def Sq(D:List AE)(h:BW):List (AE×BP):=D.filterMap λb=>(h.get? b).map λo=>(b,o)
theorem Vq(J:b∈D)(e:h.get? b=AA o):(b,o)∈Sq D h:=AD6.mpr ⟨b,J,by rw[e];rfl⟩
theorem zJ(V:p∈Sq D h):p.1∈D/\h.get? p.1=AA p.2:=by obtain⟨b,U,e⟩:_:=AD6.mp V;cases q:h.get? b with|none=>rw[q]at e;cases e|some o=>rw[q]at e;have J:=CD e;subst J;show⟨U,q⟩
theorem AY.zm(I:AY X D W H s)(B:∀b∈J,Jf X D H b)(C:∀b∈J,∃o,s.heap.get? b=AA o/\∀v,o.data≠.cell v):AY X (D++Sq J s.heap) W H s:=I.gm λp E=>(C1.mp E).elim (λz=>I.sj p (EO _ z)) λz=>by lk;obtain⟨V,e⟩:=zJ z;obtain⟨Y,Z,A,_⟩:=B _ V;obtain⟨o,U,d⟩:=C _ V;k_in;rw[e]at U;cases U;show⟨e,Y,Z,A,d⟩
theorem AY.ri(I:AY X (D++V) J H s):AY X D J H s:=I.gm λp U=>I.sj p (EO _ (Ic _ U))
section
variable{X:Bv}{tg:BR}
set_option tactic.hygienic true in theorem D3{B:BR}{body:List Cc}{wi:FZ}{g:Ef}{tb:C0}{pos:C6}(Q:PassesOwn (Av X.af X.w) X.A X.ae X.xe)(hc:X.fh=AJ)(hi:FJ X tg B wi)(hg:Kx X tg g)(A:Gu X body tb)(hs:∀x,Ol B X.ae x=Be x:=by intro _;rfl):EW X (.For tg B body [] pos) (AA1 wi g tb):=by
  intro pins s σ H D I h;show wpAny_For (BI (hi pins s σ H _ I h) λv s1 h1=>BI h1 λitv s2 h2=>?_) hs;obtain⟨it,fp,tn,J,H2,e,I2,T,q,z,W,⟨m0,w0⟩,turn⟩:_:=h2;subst e;have C:∀{H':AI},(∀b∈fp,H' b=AG)->∀b∈fp,Jf X pins H' b:=λhn b A=>⟨hn b A,(z b A).2⟩;show codeAny_forLoop_any (λn s'=>∃i E H',AY X pins E H' s'/\tn i s'.heap/\(∀b∈fp,H' b=AG)/\W i n E H') ?_ m0 ⟨0,σ,H2,I2,q,λb A=>(z b A).1,w0⟩;intro n s3 hI;obtain⟨i,F,c,y,S,L,w3⟩:_:=hI;rcases turn i n F c w3 with⟨a,qn⟩|⟨go,N,hN,step⟩
  . show Q0 Q (BI (T.rq X rfl rfl rfl hc i pins s3 F c X.xe y (C L) S a) λr s4 M=>?_);obtain⟨l,I4⟩:=M;subst l;show g8 ⟨F,c,I4,qn⟩
  . show Q0 Q (BI (T.si X rfl rfl rfl hc i pins s3 F c X.xe y (C L) S go) λr s4 O=>?_);obtain⟨u,l,h4⟩:_:=O;subst l;show Q0 Q (BI h4 λ_ s5⟨x,w,I5,r5,y5,K,k⟩=>?_);have j:=I5.zm (C k) (T.bb _ _ K);show Q0 Q (BI (hg _ s5 F w x u _ j r5 (step x w y5)) λ_ s6 P=>?_);obtain⟨t,H6,I6,q6⟩:_:=P;show Q0 Q (BI (A _ s6 t H6 _ I6 q6) λf p G=>?_);have Z:∀{U:Ap}{V:AI},AY X _ U V p->N U V->∃m,m<n/\∃i E H',AY X pins E H' p/\tn i p.heap/\(∀b∈fp,H' b=AG)/\W i m E H':=λ{U V}Y R=>by obtain⟨m',hm,w7⟩:=hN U V R;show⟨m',hm,i+1,U,V,Y.ri,T.ab _ _ _ K λb A o e=>(Y.sj (b,o) (EO _ (EO _ (Vq A e)))).1,λb A=>?_,w7⟩;obtain⟨o,e,d⟩:=T.bb _ _ K b A;show(Y.sj (b,o) (EO _ (EO _ (Vq A e)))).2.1
    cases f with |next=>obtain⟨U,V,Y,R⟩:=G;show Z Y R|cont=>obtain⟨U,V,Y,R⟩:=G;show Z Y R|brk=>obtain⟨U,V,Y,G⟩:=G;show⟨U,V,Y.ri,G⟩|ret v=>obtain⟨x7,U,V,Y,r7,G⟩:=G;show⟨x7,U,V,Y.ri,r7,G⟩
end
theorem HK{K:BB}{a:AE}{xs:List AB}{g:Ef}{F:C0}{D:IV}{J:Ap}{H:AI}(Y:Nat->Ap->AI->Prop)(G:Y 0 J H)(M:∀i J H,i<=xs.length->Y i J H->CO K H a xs)(O:∀i x J H,xs[i]?=AA x->Y i J H->g x J H λA B=>F {D with nx:=Y (i+1),ct:=Y (i+1),bk:=D.nx} A B)(L:∀J H,Y xs.length J H->D.nx J H):∃W:Nat->Nat->Ap->AI->Prop,(∃m,W 0 m J H)/\∀i m J H,W i m J H->((Mo K a).qe i H/\D.nx J H)\/((Mo K a).go i H/\∃N:Ap->AI->Prop,(∀Z H',N Z H'->∃E,E<m/\W (i+1) E Z H')/\∀x H',(Mo K a).yu i H x H'->g x J H' λA B=>F {D with nx:=N,ct:=N,bk:=D.nx} A B):=by
 show⟨λi m J H=>m=xs.length-i/\i<=xs.length/\Y i J H,⟨xs.length,by simp,Bm _,G⟩,?_⟩;intro i m J H I;obtain⟨rfl,C,p⟩:_:=I;have q:=M i J H C p;by_cases U:i<xs.length
 . show .inr ⟨⟨xs,xs[i],q,by simp[U]⟩,_,λZ H' P=>⟨_,JO _ _ U,rfl,U,P⟩,λx H' y=>?_⟩;obtain⟨e,y⟩:=y;subst e;show O i x J _ (y xs q) p
 . have e:=Eb C (F4 U);subst e;show .inl ⟨⟨xs,q,Ai _⟩,L J H p⟩
theorem QA{lo:Int}{n:Nat}{g:Ef}{C:C0}{D:IV}{J:Ap}{H:AI}(Z:Nat->Ap->AI->Prop)(E:Z 0 J H)(K:∀i J H,i<n->Z i J H->g (.int (lo+i)) J H λY A=>C {D with nx:=Z (i+1),ct:=Z (i+1),bk:=D.nx} Y A)(G:∀J H,Z n J H->D.nx J H):∃W:Nat->Nat->Ap->AI->Prop,(∃m,W 0 m J H)/\∀i m J H,W i m J H->((Le lo n).qe i H/\D.nx J H)\/((Le lo n).go i H/\∃N:Ap->AI->Prop,(∀V H',N V H'->∃B,B<m/\W (i+1) B V H')/\∀x H',(Le lo n).yu i H x H'->g x J H' λY A=>C {D with nx:=N,ct:=N,bk:=D.nx} Y A):=by
 show⟨λi m J H=>m=n-i/\i<=n/\Z i J H,⟨n,by simp,Bm _,E⟩,?_⟩;intro i m J H F;obtain⟨rfl,I,p⟩:_:=F;by_cases U:i<n
 . show .inr ⟨U,_,λV H' L=>⟨_,JO _ _ U,rfl,U,L⟩,λx H' y=>?_⟩;obtain⟨e,y⟩:=y;subst e y;show K i J _ U p
 . have e:=Eb I (F4 U);subst e;show .inl ⟨Ai _,G J H p⟩
theorem ABT(W:Ap->AI->Prop)(Z:Ap->AI->Nat)(C:W J H)(E:∀J H,W J H->c J H λb V=>if b=AJ then B {D with nx:=λU H'=>W U H'/\Z U H'<Z J H,ct:=λU H'=>W U H'/\Z U H'<Z J H,bk:=D.nx} J V else D.nx J V)(Y:∀J H Q A,(∀b V,Q b V->A b V)->c J H Q->c J H A):c7 c B D J H:=by show⟨λm J H=>m=Z J H/\W J H,⟨_,rfl,C⟩,?_⟩;rintro m J H⟨rfl,p⟩;show Y J H _ _ (λb V q=>?_) (E J H p);cases b with|true=>show⟨_,λU H'⟨F,l⟩=>⟨_,l,rfl,F⟩,q⟩|false=>show q
abbrev EC:=AB->AB->AI->BS->Prop
def CU(X:Bv)(f:AK->AK->DW AK)(r:EC):Prop:=∀(D:List (AE×BP))(s:AX)(J:Ap)(H:AI)(x y:AB)(v u:AK)(Q:BS),AY X D J H s->Bn x v->Bn y u->r x y H Q->Aw (Av X.af X.w) X.A (f v u) (Ee X D J Q) X.xe s
def SI(X:Bv)(f:AK->DW AK)(r:AB->AI->BS->Prop):Prop:=∀(D:List (AE×BP))(s:AX)(J:Ap)(H:AI)(x:AB)(v:AK)(Q:BS),AY X D J H s->Bn x v->r x H Q->Aw (Av X.af X.w) X.A (f v) (Ee X D J Q) X.xe s
def EV(X:Bv)(f:AK)(r:List AB->AI->BS->Prop):Prop:=∀(D:List (AE×BP))(s:AX)(W:Ap)(H:AI)(U:List AB)(J:List AK)(Q:BS),AY X D W H s->Bb U J->r U H Q->Aw (Av X.af X.w) X.A (Il f J) (Ee X D W Q) X.xe s
def KP(r:EC)(V W:BH):BH:=λD H Q=>V D H λx J=>W D J λy U=>r x y U Q
def ABF(r:AB->AI->BS->Prop)(J:BH):BH:=λU H Q=>J U H λx D=>r x D Q
def OO(C:Int->Int->Prop)(g:Int->Int->AB):EC:=λx y H Q=>Mr (λi j=>x=.int i) (λ_ j=>y=.int j) (λi j=>C i j) (λi j=>Q (g i j) H)
def K9(g:Int->Int->AB):EC:=λx y H Q=>Eg (λi j=>x=.int i) (λ_ j=>y=.int j) (λi j=>Q (g i j) H)
def cB(g:Int->AB):AB->AI->BS->Prop:=λx H Q=>Gf (λi=>x=.int i) (λi=>Q (g i) H)
theorem VX{L M:BH}(C:Ar X a L)(E:Ar X b M){R:AB->AB->AI->Prop}(I:AY X D U H s)(h:L U H λx Z=>M U Z λy J=>R x y J){f:AK->AK->DW AK}(F:∀v u s2 x y J,AY X D U J s2->Bn x v->Bn y u->R x y J->Aw (Av X.af X.w) X.A (f v u) Q X.xe s2):Aw (Av X.af X.w) X.A (BX a X.ae) (λv W=>Aw (Av X.af X.w) X.A (BX b X.ae) (λu Y=>Aw (Av X.af X.w) X.A (f v u) Q X.xe Y) X.xe W) X.xe s:=by show BI (C _ s U H _ I h) λv s1⟨x,Z,A,r1,G⟩=>?_;show BI (E _ s1 U Z _ A G) λu s2⟨y,J,B,r2,K⟩=>?_;show F v u s2 x y J B r1 r2 K
theorem Ac(Y:CU X (G4 op) r)(V:Ar X a C)(W:Ar X b E):Ar X (.BinOp a op b Z) (KP r C E):=by intro D s F H Q I h;show wpAny_BinOp (VX V W I h λv u s2 x y J U A B q=>Y _ s2 F J x y v u Q U A B q)
theorem bP(A:SI X (unaryOp op) r)(Z:Ar X a E):Ar X (.UnaryOp op a B) (ABF r E):=by intro J s U H Q I h;show UnaryOp_ (BI (Z _ s U H _ I h) λv s1 D=>?_);obtain⟨x,W,Y,r1,C⟩:_:=D;show A _ s1 U W x v Q Y r1 C
theorem Si{f:AK->AK->DW AK}{C:Int->Int->Prop}{g:Int->Int->Int}(D:∀(i j:Int)(t u:HV)(s:AX)(Q:AK->AX->Prop)(E:AK->AX->Prop),C i j->Q (.int (g i j) s.toks) {s with toks:=s.toks+1}->Aw (Av X.af X.w) X.A (f (.int i t) (.int j u)) Q E s):CU X f (OO C λi j=>.int (g i j)):=by intro J s Z H x y v u Q I V W h;lk;obtain⟨i,j,rfl,rfl,U,q⟩:=h;obtain⟨t,rfl⟩:=V;obtain⟨Y,rfl⟩:=W;k_in;show D i j t Y s _ _ U ⟨.int _,H,I.dw _,⟨_,rfl⟩,q⟩
theorem bA{f:AK->AK->DW AK}{g:Int->Int->Int}(D:∀(i j:Int)(t u:HV)(s:AX)(Q:AK->AX->Prop)(E:AK->AX->Prop),Q (.int (g i j) s.toks) {s with toks:=s.toks+1}->Aw (Av X.af X.w) X.A (f (.int i t) (.int j u)) Q E s):CU X f (K9 λi j=>.int (g i j)):=by intro J s Y H x y v u Q I U V h;lk;obtain⟨i,j,rfl,rfl,q⟩:=h;obtain⟨t,rfl⟩:=U;obtain⟨W,rfl⟩:=V;k_in;show D i j t W s _ _ ⟨.int _,H,I.dw _,⟨_,rfl⟩,q⟩
theorem Sh{f:AK->AK->DW AK}{g:Int->Int->Bool}(D:∀(i j:Int)(t u:HV)(s:AX)(Q:AK->AX->Prop)(E:AK->AX->Prop),Q (.bool (g i j)) s->Aw (Av X.af X.w) X.A (f (.int i t) (.int j u)) Q E s):CU X f (K9 λi j=>.bl (g i j)):=by intro J s Y H x y v u Q I U V h;lk;obtain⟨i,j,rfl,rfl,q⟩:=h;obtain⟨t,rfl⟩:=U;obtain⟨W,rfl⟩:=V;k_in;show D i j t W s _ _ ⟨.bl _,H,I,rfl,q⟩
def ZW(i j:Int):Prop:=0<j/\j<1073741824
theorem zzd{i j:Int}(h:decide (0<j/\j<1073741824)=true):ZW i j:=(of_decide_eq_true h:0<j/\j<1073741824)
theorem zzp{j:Int}(h:decide (0<j)=true):0<j:=of_decide_eq_true h
def wA(i j:Int):Prop:=0<=j/\j<=1000000/\i.natAbs<2^64
def VM(i j:Int):Prop:=(-(2^64)<i/\i<2^64)\/(-(2^64)<j/\j<2^64)
theorem VM.ok(h:VM i j):IntMulOk i j:=by
 rcases h with⟨D,J⟩|⟨D,J⟩;.show .of_left (AF1 D J)
 .show .of_right (AF1 D J)
theorem bB:CU X (G4 .Add) (K9 λi j=>.int (i+j)):=bA λ_ _ _ _ _ _ _ q=>add_int q
theorem Vv:CU X (G4 .Sub) (K9 λi j=>.int (i-j)):=bA λ_ _ _ _ _ _ _ q=>sub_int q
theorem zS:CU X (G4 .Mult) (OO VM λi j=>.int (i*j)):=Si λ_ _ _ _ _ _ _ D q=>mul_int q D.ok
theorem zM:CU X (G4 .FloorDiv) (OO ZW λi j=>.int (i/j)):=Si λi j _ _ _ _ _ J q=>by have D:(0:Int)<j:=J.1;have U:j<1073741824:=J.2;show floordiv_int (LR D) (by rw[Int.fdiv_eq_ediv_of_nonneg i (NV D)];show q) (.inl (ACB (by grind)))
theorem zR:CU X (G4 .Mod) (OO (λ_ j=>0<j) λi j=>.int (i%j)):=Si λi j _ _ _ _ _ D q=>by show mod_int' (LR D) (by rw[Int.fmod_eq_emod_of_nonneg i (NV D)];show q)
theorem Sm:CU X (G4 .Pow) (OO wA λi j=>.int (i^j.toNat)):=Si λ_ _ _ _ _ _ _ D q=>pow_int_small D.1 D.2.1 D.2.2 q
theorem ABO{f:AK->DW AK}{g:Int->Int}(D:∀(i:Int)(t:HV)(s:AX)(Q:AK->AX->Prop)(E:AK->AX->Prop),Q (.int (g i) s.toks) {s with toks:=s.toks+1}->Aw (Av X.af X.w) X.A (f (.int i t)) Q E s):SI X f (cB λi=>.int (g i)):=by intro J s V H x v Q I U h;lk;obtain⟨i,rfl,q⟩:=h;obtain⟨t,rfl⟩:=U;k_in;show D i t s _ _ ⟨.int _,H,I.dw _,⟨_,rfl⟩,q⟩
theorem ABP:SI X (unaryOp .USub) (cB λi=>.int (-i)):=ABO λ_ _ _ _ _ q=>neg_int q
noncomputable def cJ:AB->AB->Bool|.non,.non=>AJ|.non,.int _=>AJ|.int _,.non=>AJ|.non,.bl _=>AJ|.bl _,.non=>AJ|.non,.str _=>AJ|.str _,.non=>AJ|.int _,.int _=>AJ|.bl _,.bl _=>AJ|.str _,.str _=>AJ|.byt _,.byt _=>AJ|.int _,.str _=>AJ|.str _,.int _=>AJ|.bl _,.str _=>AJ|.str _,.bl _=>AJ|_,_=>AQ
def AAR:EC:=λx y H Q=>cJ x y=AJ/\Q (.bl (Ab (x=y))) H
def AAW:EC:=λx y H Q=>cJ x y=AJ/\Q (.bl (!Ab (x=y))) H
theorem Z1:Ab (AB.int i=AB.int j)=(i==j):=by rw[RC];simp
theorem Zz:Ab (AB.bl i=AB.bl j)=(i==j):=by rw[RC];simp
theorem Z2:Ab (AB.str i=AB.str j)=(i==j):=by rw[RC];simp
theorem Z0:Ab (AB.byt i=AB.byt j)=(i.toList==j.toList):=by rw[RC];lk;cases i;cases j;k_in;simp
theorem DP(I:AY X D U H s)(q:Q (.bl k) H)(e:k=J):Ee X D U Q (.bool J) s:=by subst e;show⟨.bl k,H,I,rfl,q⟩
theorem ED:CU X (Ek .Eq) AAR:=by intro pins s σ H x y v u Q I rx ry h;obtain⟨hs,q⟩:=h;cases x with
 |non=> cases rx;cases y with |non=>cases ry;show AGt (DP I q (by simp))|bl j=>cases ry;show AGr (DP I q (by simp))|int j=>obtain⟨t',rfl⟩:=ry;show AGs (DP I q (by simp))|str j=>obtain⟨t',rfl⟩:=ry;show AGu (DP I q (by simp))|_=>show absurd (show AQ=AJ from hs) Dk
 |bl i=> cases rx;cases y with |non=>cases ry;show AGp (DP I q (by simp))|bl j=>cases ry;show eq_bool (DP I q Zz)|str j=>obtain⟨t',rfl⟩:=ry;show AGh (DP I q (by simp))|_=>show absurd (show AQ=AJ from hs) Dk
 |int i=> obtain⟨t,rfl⟩:=rx;cases y with |non=>cases ry;show AGq (DP I q (by simp))|int j=>obtain⟨t',rfl⟩:=ry;show eq_int (DP I q Z1)|str j=>obtain⟨t',rfl⟩:=ry;show AGi (DP I q (by simp))|_=>show absurd (show AQ=AJ from hs) Dk
 |str i=> obtain⟨t,rfl⟩:=rx;cases y with |non=>cases ry;show AGv (DP I q (by simp))|bl j=>cases ry;show AGj (DP I q (by simp))|int j=>obtain⟨t',rfl⟩:=ry;show AGk (DP I q (by simp))|str j=>obtain⟨t',rfl⟩:=ry;show eq_str (DP I q Z2)|_=>show absurd (show AQ=AJ from hs) Dk
 |byt i=> obtain⟨t,rfl⟩:=rx;cases y with |byt j=>obtain⟨t',rfl⟩:=ry;show W.eq_bytes (DP I q Z0)|_=>show absurd (show AQ=AJ from hs) Dk
 |_=>cases y<;>show absurd (show AQ=AJ from hs) Dk
theorem Jj:CU X (Ek .NotEq) AAW:=by intro pins s σ H x y v u Q I rx ry h;obtain⟨hs,q⟩:=h;cases x with
 |non=>cases rx;cases y with |non=>cases ry;show AG0 (DP I q (by simp))|bl j=>cases ry;show AGy (DP I q (by simp))|int j=>obtain⟨t',rfl⟩:=ry;show AGz (DP I q (by simp))|str j=>obtain⟨t',rfl⟩:=ry;show AG1 (DP I q (by simp))|_=>show absurd (show AQ=AJ from hs) Dk
 |bl i=>cases rx;cases y with |non=>cases ry;show AGw (DP I q (by simp))|bl j=>cases ry;show ne_bool (DP I q (AHU not Zz))|str j=>obtain⟨t',rfl⟩:=ry;show AGl (DP I q (by simp))|_=>show absurd (show AQ=AJ from hs) Dk
 |int i=> obtain⟨t,rfl⟩:=rx;cases y with |non=>cases ry;show AGx (DP I q (by simp))|int j=>obtain⟨t',rfl⟩:=ry;show ne_int (DP I q (AHU not Z1))|str j=>obtain⟨t',rfl⟩:=ry;show AGm (DP I q (by simp))|_=>show absurd (show AQ=AJ from hs) Dk
 |str i=> obtain⟨t,rfl⟩:=rx;cases y with |non=>cases ry;show AG2 (DP I q (by simp))|bl j=>cases ry;show AGn (DP I q (by simp))|int j=>obtain⟨t',rfl⟩:=ry;show AGo (DP I q (by simp))|str j=>obtain⟨t',rfl⟩:=ry;show ne_str (DP I q (AHU not Z2))|_=>show absurd (show AQ=AJ from hs) Dk
 |byt i=> obtain⟨t,rfl⟩:=rx;cases y with |byt j=>obtain⟨t',rfl⟩:=ry;show W.ne_bytes (DP I q (AHU not Z0))|_=>show absurd (show AQ=AJ from hs) Dk
 |_=>cases y<;>show absurd (show AQ=AJ from hs) Dk
theorem zP:CU X (Ek .Lt) (K9 λi j=>.bl (Ab (i<j))):=Sh λ_ _ _ _ _ _ _ q=>AB8 q
theorem Vu:CU X (Ek .LtE) (K9 λi j=>.bl (Ab (i<=j))):=Sh λ_ _ _ _ _ _ _ q=>le_int q
theorem bD:CU X (Ek .Gt) (K9 λi j=>.bl (Ab (j<i))):=Sh λ_ _ _ _ _ _ _ q=>AEf q
theorem bC:CU X (Ek .GtE) (K9 λi j=>.bl (Ab (j<=i))):=Sh λ_ _ _ _ _ _ _ q=>AEc q
theorem zO:CU X (Ek .In) (λx y H Q=>∃i j,x=.str i/\y=.str j/\Q (.bl (!(Ob j i 0 j.length 1).isEmpty)) H):=by intro D s W H x y v u Q I J U h;lk;obtain⟨i,j,rfl,rfl,q⟩:=h;obtain⟨t,rfl⟩:=J;obtain⟨V,rfl⟩:=U;k_in;show in_str (DP I q rfl)
theorem Vt:CU X (Ek .Is) (λx y H Q=>y=.non/\Q (.bl (Ab (x=.non))) H):=by intro D s V H x y v u Q I J U h;lk;obtain⟨rfl,q⟩:=h;cases U;k_in;show is_none_gen (DP I q ?_);cases x<;>first|(rfl)|(obtain⟨t,rfl⟩:=J;rfl)
theorem bE:CU X (Ek .IsNot) (λx y H Q=>y=.non/\Q (.bl (!Ab (x=.non))) H):=by intro D s V H x y v u Q I J U h;lk;obtain⟨rfl,q⟩:=h;cases U;k_in;show isnot_none_gen (DP I q ?_);cases x<;>first|(cases J;rfl)|(obtain⟨t,rfl⟩:=J;rfl)
theorem Bt(b:BR)(h:op≠.In:=by decide)(U:op≠.NotIn:=by decide):Qq op b=AQ:=by
 have D:(op==AEu)=AQ:=by cases op<;>first|rfl|show absurd rfl h
 have J:(op==AEv)=AQ:=by cases op<;>first|rfl|show absurd rfl U
 cases b<;>simp[Qq,D,J]
theorem QJ(Z:CU X (Ek op) r)(V:Ar X a E)(W:Ar X b F)(Y:Qq op b=AQ):Ar X (.Compare a [op] [b] A) (KP r E F):=by intro D s G H Q I h;show AGC (VX V W I h λv u s2 x y J U B C q=>Z _ s2 G J x y v u Q U B C q) Y
def cY(t:BH):DG:=λJ H Q=>t J H λx D=>Gf (λk=>x=.bl k) (λk=>Q k D)
theorem Bu(F:CU X (Ek op) r)(B:Ar X a O)(C:Ar X b P)(E:Qq op b=AQ):Ht X (.Compare a [op] [b] G) (cY (KP r O P)):=by intro J s D H Q I h;show wpAny_isTrue_Compare1 (BI (B _ s D H _ I h) λv s1⟨x,U,Y,r1,K⟩=>BI (C _ s1 D U _ Y K) λu s2⟨y,V,Z,r2,L⟩=>BI (F _ s2 D V x y v u _ Z r1 r2 L) λc s3⟨z,W,A,N,k,e,M⟩=>?_) E;subst e;cases N;show Ov ⟨W,A,M⟩
def cU(r Y:EC)(Z A B:BH):BH:=λD H Q=>Z D H λx U=>A D U λy V=>r x y V λz J=>Gf (λk=>z=.bl k) (λk=>(if k=AJ then B D J λC W=>Y y C W Q else Q (.bl AQ) J))
theorem bK(R:CU X (Ek op) r)(V:CU X (Ek D) B)(M:Ar X a l)(N:Ar X b m)(O:Ar X c n)(P:lastMarks [op,D] [b,c]=AQ:=by with_unfolding_all rfl):Ar X (.Compare a [op,D] [b,c] S) (cU r B l m n):=by intro Z s U H Q I h;show Compare_chain (BI (M _ s U H _ I h) λv s1⟨x,C,G,r1,T⟩=>chain_link (BI (N _ s1 U C _ G T) λu s2⟨y,E,K,r2,f⟩=>BI (R _ s2 U E x y v u _ K r1 r2 f) λd s3⟨z,W,Y,i,k,e,A⟩=>?_)) P;subst e;cases i;show Ov ?_;cases k with|false=>show ite_ff ⟨.bl _,W,Y,rfl,A⟩| true => show ite_tt (chain_last (BI (O _ s3 U W _ Y A) λo s4 J=>?_));obtain⟨p,F,L,j,g⟩:_:=J;show V _ s4 U F y p u o Q L r2 j g
theorem AAO(f:CU X (Ek op) r)(U:CU X (Ek D) A)(P:Ar X a t)(R:Ar X b w)(S:Ar X c tc)(T:lastMarks [op,D] [b,c]=AQ:=by with_unfolding_all rfl):Ht X (.Compare a [op,D] [b,c] g) (cY (cU r A t w tc)):=by intro Y s J H Q I h;show isTrue_chain (BI (P _ s J H _ I h) λv s1⟨x,B,G,r1,j⟩=>test_link (BI (R _ s1 J B _ G j) λu s2⟨y,C,K,r2,l⟩=>BI (f _ s2 J C x y v u _ K r1 r2 l) λd s3⟨z,V,W,o,k,e,Z⟩=>?_)) T;subst e;cases o;show Ov ?_;cases k with|false=>lk;obtain⟨k',N,i⟩:=Z;cases N;k_in;show ite_ff ⟨V,W,i⟩|true=>show ite_tt (test_last (BI (S _ s3 J V _ W Z) λw' s4⟨z',E,L,p,m⟩=>BI (U _ s4 J E y z' u w' _ L r2 p m) λd' s5⟨z2,F,M,q,k2,O,n⟩=>?_));subst O;cases q;show Ov ⟨F,M,n⟩
theorem QF:(As:Nat)<2^63:=by decide
theorem Lv:CU X (G4 .Add) (λx y H Q=>∃i j,x=.str i/\y=.str j/\i.length+j.length<=As/\Q (.str (i++j)) H):=by intro D s Z H x y v u Q I U V h;lk;obtain⟨i,j,rfl,rfl,J,q⟩:=h;obtain⟨t,rfl⟩:=U;obtain⟨W,rfl⟩:=V;k_in;show add_str (λW Y=>⟨.str (i++j),H,I.dw _,⟨_,rfl⟩,q⟩) J
theorem Fz(r:Bb [x] D):∃u,D=[u]/\Bn x u:=by cases r with|cons r1 r2=>cases r2;show⟨_,rfl,r1⟩
theorem V9(r:Bb [x,y] D):∃u J,D=[u,J]/\Bn x u/\Bn y J:=by cases r with|cons r1 r2=>cases r2 with|cons U W=>cases W;show⟨_,_,rfl,r1,U⟩
theorem wY(U:X.fh=AJ):EV X (.builtin "max") (λxs H Q=>∃i j,xs=[.int i,.int j]/\Q (.int (if j>i then j else i)) H):=by
 intro J s B H xs Z Q I r h;lk;obtain⟨i,j,rfl,q⟩:=h;obtain⟨u,A,rfl,⟨t,rfl⟩,⟨W,rfl⟩⟩:=V9 r;k_in;show max_two_ints (I.ok.hd U) λV Y k=>⟨_,H,I.ff k,?_,q⟩;by_cases D:j>i;.rw[AHT D,AHT D];show⟨_,rfl⟩
 .rw[AHS D,AHS D];show⟨_,rfl⟩
theorem w4(U:X.fh=AJ):EV X (.builtin "min") (λxs H Q=>∃i j,xs=[.int i,.int j]/\Q (.int (if j<i then j else i)) H):=by
 intro J s B H xs Z Q I r h;lk;obtain⟨i,j,rfl,q⟩:=h;obtain⟨u,A,rfl,⟨t,rfl⟩,⟨W,rfl⟩⟩:=V9 r;k_in;show min_two_ints (I.ok.hd U) λV Y k=>⟨_,H,I.ff k,?_,q⟩;by_cases D:j<i;.rw[AHT D,AHT D];show⟨_,rfl⟩
 .rw[AHS D,AHS D];show⟨_,rfl⟩
theorem IZ:EV X (.type "str") (λxs H Q=>∃i,xs=[.int i]/\i.natAbs.log2<1920/\Q (.str (Ww i)) H):=by intro D s V H xs U Q I r h;lk;obtain⟨i,rfl,J,q⟩:=h;obtain⟨u,rfl,t,rfl⟩:=Fz r;k_in;show P.str_of_int J ⟨.str _,H,I.dw _,⟨_,rfl⟩,q⟩
structure N2(h:BW)(x dx C:AE)(mA:AF->Option AK):Prop where
 bb:h.get? x=AA (To C dx)ns:h.Ns1 dx mA
 ne:dx≠x
set_option tactic.hygienic true in theorem y4{h:BW}{dx:AE}{mA:AF->Option AK}(n:h.Ns1 dx mA):∃od,h.get? dx=AA od/\∀name,gN name od=AA (mA name):=by
  obtain⟨o,es,ep,W,U,V,_,hm⟩:_:=n;show⟨o,W,λname=>?_⟩;have e:=hm name;unfold nsFind findBy at e;rw[<-Array.find?_toList]at e;unfold gN;rw[U];dsimp only;split
  . rename_i y q;rw[q]at e;show AHU _ e
  . rename_i q;rw[q]at e;have a:es.toList.any (·.refKey)=AQ:=by rw[List.any_eq_false];intro y Y;obtain⟨z,t,D⟩:=V y (ADR.mp Y);simp[AGg,D]
    have J:¬es.toList.any (·.refKey)=AJ:=by rw[a];show Dk
    rw[AHS J];show AHU _ e
theorem N2.aac(I:N2 h x J C U):∃D,W.InstAt h x (To C J) C (AA D)/\∀name,gN name D=AA (U name):=let⟨D,W,V⟩:=y4 I.ns
 ⟨D,⟨I.bb,rfl,rfl,W⟩,V⟩
theorem yC{K:BB}(X:K.In s.heap)(I:N2 s.heap x dx C mA)(hg:gO K C name=AJ)(hh:ACa K C=AJ)(ha:ID K (.ref C) name=AA AG)(hv:mA name=AA v)(hv':AFh v=AJ)(h:Q v {s with toks:=s.toks+1}):Aw (Av prog w) A (getAttr (.ref x) name expr) Q E s:=by obtain⟨od,J,hl⟩:_:=I.aac;show W.get_value X J (ACh hg).1 (W.findObj_own hh ha rfl (by rw[hl,hv])) hv' h
theorem yD{K:BB}(X:K.In s.heap)(I:N2 s.heap x dx C mA)(hg:gO K C name=AJ)(hf:ID K (.ref C) name=AA (AA (.ref f)))(ht:ACb K (.ref f)=AJ)(hv:mA name=AG)(h:Q (.ref f,[.ref x]) s):Aw (Av prog w) A (gR (.ref x) name pl) Q E s:=by obtain⟨od,J,hl⟩:_:=I.aac;show W.method_fn X J (ACh hg).1 (ACh hg).2 hf (AHe.mp ht) (by change(gN _ od).map _=AA _;rw[hl,hv];rfl) h
theorem AAc{K:BB}{name:AF}(X:K.In s.heap)(I:N2 s.heap x dx C mA)(hs:ID K (.ref C) "__setattr__"=AA (AA (.builtin "object.__setattr__")))(hp:AFr K C=AJ)(ht:ACi K C name=AA AG)(hh:ACa K C=AJ)(hw:ACj mA ns)(hsz:ns.length<=As)(h:∀h',N2 h' x dx C (λy=>if y=name then AA v else mA y)->Ql dx s.heap h'->Q () {s with heap:=h',toks:=s.toks+2}):Aw (Av prog w) A (setAttr (.ref x) name v) Q E s:=by obtain⟨od,J,hl⟩:_:=I.aac;show W.set_plain X J hs (W.osa_open X J hp ht λb=>?_);obtain⟨cd,hc,hd'⟩:_:=W.any_some hh;have hx:=I.bb;show Ay (CN (Ay (Ay (wpAny_loadPart hx (Ay (AHO (W.looks_clsIn X hc) ?_))))));rw[hd'];show CN (Ay (CN (Ay ?_)));show wpAny_nsSet1 I.ns λh' hn2 hs2=>?_;obtain⟨oD,esD,epD,hoD,hdD,hcD⟩:_:=hn2.count (AHP _ v hw);show Ay (wpAny_lookBehind hoD (by rw[hdD];show pastItsLine_dict (Ag hcD (by show Jv.mpr hsz))) ?_);show CN (h _ ⟨(hs2.2 _ (Gk I.ne)).trans I.bb,hn2,I.ne⟩ hs2)
theorem y8{K:BB}(X:K.In s.heap)(V:AFp K C=AJ)(hi:ID K (.ref C) "__init__"=AA (AA (.ref f)))(U:W.typeIn K (.ref f)=AA (.type "function"))(h:NT (Av prog w) (A.under (.builtin "type.__call__" ⟨.ref C::vs,D⟩)) (.call (.ref f) ⟨.ref (s.heap.objs.size+1)::vs,D⟩) (W.InitBack (s.heap.objs.size+1) R) {s with heap:=(s.heap.push gJ).push (To C s.heap.objs.size)}):NT (Av prog w) A (.call (.ref C) ⟨vs,D⟩) R s:=by show W.make_core (W.makes_of X V) (W.looks_findIn X hi) (λJ=>W.bind_fn X _ U) (.inl rfl) h
noncomputable def Gw(f:AF)(v:AB):List (AF×AB)->List (AF×AB)|[]=>[(f,v)]|(g,x)::r=>if g=f then(g,v)::r else(g,x)::Gw f v r
theorem aP(f g:AF)(v:AB):∀U:List (AF×AB),(Gw f v U).lookup g=if g=f then AA v else U.lookup g
  |[]=>by
    change QV g [(f,v)]=_;by_cases h:g=f
    . have D:=AHe.mpr h;simp only[QV,D,AHT h]
    . have D:=AHf.mpr h;simp only[QV,D,AHS h]|(k,x)::r=>by
    have W:=aP f g v r;rw[show Gw f v _=(if k=f then(k,v)::r else(k,x)::Gw f v r)from rfl];by_cases J:k=f
    . rw[AHT J];by_cases h:g=k
      . have D:=AHe.mpr h;simp only[QV,D,AHT (h.trans J)]
      . have D:=AHf.mpr h;simp only[QV,D,AHS (λe:g=f=>h (e.trans J.symm))]
    . rw[AHS J];by_cases h:g=k;. have D:=AHe.mpr h;simp only[QV,D,AHS (λe:g=f=>J (h.symm.trans e))]
      . have D:=AHf.mpr h;simp only[QV,D];show W
theorem Vn(f:AF)(v:AB):∀D:List (AF×AB),f∈(Gw f v D).map (·.1)/\∀g,g∈D.map (·.1)->g∈(Gw f v D).map (·.1)
  |[]=>⟨by simp[Gw],λg h=>by simp at h⟩|(k,x)::r=>by
    obtain⟨i1,i2⟩:=Vn f v r;rw[show Gw f v _=(if k=f then(k,v)::r else(k,x)::Gw f v r)from rfl];by_cases J:k=f;. subst J;show⟨by simp,λg h=>by simpa using h⟩
    . rw[AHS J];show⟨?_,λg h=>?_⟩;.show D5 _ i1
      . rcases BY.mp h with e|e;.show BY.mpr (.inl e)
        .show D5 _ (i2 g e)
theorem aK(f:AF)(v:AB):∀D:List (AF×AB),(Gw f v D).length<=D.length+1
 |[]=>by simp[Gw]|(k,x)::r=>by
  have U:=aK f v r;rw[show Gw f v _=(if k=f then(k,v)::r else(k,x)::Gw f v r)from rfl];by_cases J:k=f;.rw[AHT J,Ex];simp
  .rw[AHS J,Ex];show Jv.mpr U
theorem N3(r:Kz (AA v) o):∃u,o=AA u/\Bn v u:=by cases o with|none=>show(show False from r).elim|some u=>show⟨u,rfl,r⟩
theorem Ze(r:Kz AG o):o=AG:=by cases o with|none=>rfl|some u=>show(show False from r).elim
theorem yF(r:Bn v u):AFh u=AJ:=by cases v with|non=>cases(show u=gE from r);rfl|bl b=>cases(show u=Qm b from r);rfl|int i=>obtain⟨t,e⟩:=(show∃t,u=Tj i t from r);cases e;rfl|str x=>obtain⟨t,e⟩:=(show∃t,u=Qn x t from r);cases e;rfl|byt b=>obtain⟨t,e⟩:=(show∃t,u=AFY b t from r);cases e;rfl|flt b=>obtain⟨t,e⟩:=(show∃t,u=ACV b t from r);cases e;rfl|ref a=>cases(show u=DM a from r);rfl|ty n=>cases(show u=ACX n from r);rfl
theorem SU(U:DE P w H h)(e:H a=AA (.ins C V J)):∃D,N2 h a V C D/\(∀f,Kz (J.lookup f) (D f))/\ACj D (J.map (·.1))/\J.length<=1000/\H V=AA (.own a):=by obtain⟨d,z,W,Y,D,n,r,q⟩:_:=(show C8 P w H h a _ from U a _ e);show⟨D,⟨Y,n,W⟩,r,q,z,d⟩
structure Hq(K:BB)(C:AE):Prop where
 pg:gO K C Str.empty=AJ
 hd:ACa K C=AJ
 po:AFr K C=AJ
 sa:ID K (.ref C) "__setattr__"=AA (AA (.builtin "object.__setattr__"))
theorem Hq.se{K:BB}(c:Hq K C)(f:AF):gO K C f=AJ:=c.pg
def Fu(K:BB)(C:AE)(f:AF):Prop:=ID K (.ref C) f=AA AG
theorem Fu.aci{K:BB}(n:Fu K C f):ACi K C f=AA AG:=by unfold ACi;rw[show ID K _ f=AA _ from n];rfl
structure R7(K:BB)(C:AE)(m:AF)(f:AE):Prop where
 ady:ID K (.ref C) m=AA (AA (.ref f))fn:ACb K (.ref f)=AJ
 kp:Tq K (.ref f)=AJ
theorem yE(I:AY X D W H s)(e:H a=AA (.ins C Y U))(c:Hq X.K C)(n:Fu X.K C f)(l:U.lookup f=AA v)(h:∀u s',AY X D W H s'->Bn v u->Q u s'):Aw (Av X.af X.w) A (getAttr (.ref a) f b) Q E s:=by lk;obtain⟨Z,O,r,_,_,_⟩:=SU I.bj e;obtain⟨u,V,J⟩:=N3 (by rw[<-l];show r f);k_in;show yC I.my O (c.se f) c.hd n V (yF J) (h u _ (I.dw _) J)
theorem Z9(I:AY X D Z H s)(e:H a=AA (.ins C W J))(c:Hq X.K C)(k:R7 X.K C m g)(l:J.lookup m=AG)(h:Q (.ref g,[.ref a]) s):Aw (Av X.af X.w) A (gR (.ref a) m V) Q E s:=by obtain⟨Y,O,r,_,_,_⟩:_:=SU I.bj e;have U:=Ze (by rw[<-l];show r m);show yD I.my O (c.se m) k.ady k.fn U h
theorem AAd(I:AY X J T H s)(e:H a=AA (.ins C W D))(c:Hq X.K C)(n:Fu X.K C f)(Y:D.length<1000)(R:Bn y u)(h:∀s',AY X J T (AR H a (.ins C W (Gw f y D))) s'->Q () s'):Aw (Av X.af X.w) A (setAttr (.ref a) f u) Q E s:=by
  obtain⟨P,O,r,B,_,Z⟩:_:=SU I.bj e;have N:(D.map (·.1)).length<=As:=by rw[Au];show Ag (Bz Y) (by decide)
  show AAc I.my O c.sa c.po n.aci c.hd B N λG U S=>h _ ?_;have L:∃o,G.get? W=AA o:=let⟨o,_,_,F,_⟩:=U.ns;⟨o,F⟩;show I.rj (by rw[e];show Ir) (.inr Z) (λb q K z=>(S.2 b K).trans z) L ?_;show⟨by rw[Aa O.ne];show Z,?_,O.ne,U.bb,_,U.ns,λg=>?_,λg M=>?_⟩;.have:=aK f y D;show Ag this Y
  . rw[aP];by_cases q:g=f;.rw[AHT q,AHT q];show R
    .rw[AHS q,AHS q];show r g
  . by_cases q:g=f;.rw[q];show(Vn f y D).1
    . show(Vn f y D).2 g (B g λz=>M ?_);change(if g=f then AA u else P g)=AG;rw[AHS q];show z
theorem wD(I:AY X D B H s):AY X D B (AR (AR H s.heap.objs.size (.own (s.heap.objs.size+1))) (s.heap.objs.size+1) (.ins C s.heap.objs.size [])) {s with heap:=(s.heap.push gJ).push (To C s.heap.objs.size)}:=by
 have J:(s.heap.push gJ).get? _=AA _:=ER _ rfl;have W:=by have:=ER (s.heap.push gJ) (o:=To C s.heap.objs.size) rfl;rwa[ACQ]at this
 have Y:(s.heap.push _).Ns _ _:=⟨_,#[],_,J,rfl,(λe Z=>absurd Z (by simp)),λ_=>rfl⟩;have V:=I.jb (o:=.own (s.heap.objs.size+1)) (t':=s.toks) (λb u q=>Ca _ q) (Ai _) ⟨_,J⟩;show V.jb (λb u q=>Ca _ q) (Bq (ACQ _ _)) ?_;have U:s.heap.objs.size≠s.heap.objs.size+1:=Dv (OZ _);show⟨by rw[Aa U,Ak],Bm _,U,W,_,(Heap.Ns1.of_empty Y).at λo q=>Ca _ q,λ_=>Ir,λy A=>absurd rfl A⟩
theorem wQ(U:Jy e f env (BX e env)=BX e env)(h:Aw (Av prog w) A (BX e env) (λo D=>Aw (Av prog w) A (getAttr o f AJ) Q E D) E s):Aw (Av prog w) A (BX (.Attribute e f J) env) Q E s:=Attribute_any_ h (by rw[arm_eval_Attribute,U])
inductive ZX(K:BB)(H:AI)(f:AF):AB->AB->Prop|mk{a C dx:AE}{fs:List (AF×AB)}{v:AB}(e:H a=AA (.ins C dx fs))(c:Hq K C)(n:Fu K C f)(l:fs.lookup f=AA v):ZX K H f (.ref a) v
def V7(K:BB)(J:BH)(f:AF):BH:=λU H Q=>J U H λx D=>Gf (λv=>ZX K D f x v) (λv=>Q v D)
def cH(K:BB)(Z A:BH)(f:AF):C0:=λD V H=>A V H λy Y=>Z V Y λx W=>SN (λa C U J=>x=.ref a) (λa C U J=>W a=AA (.ins C U J)) (λ_ C _ _=>Hq K C) (λ_ C _ _=>Fu K C f) (λ_ _ _ J=>J.length<1000) (λa C U J=>D.nx V (AR W a (.ins C U (Gw f y J))))
theorem bO(A:Ar X e F)(Z:Jy e f X.ae (BX e X.ae)=BX e X.ae):Ar X (.Attribute e f B) (V7 X.K F f):=by intro J s G H Q I h;show wQ Z (BI (A _ s G H _ I h) λu s1 D=>?_);obtain⟨x,U,V,E,v,g,q⟩:_:=D;cases g with|mk Y c n l=>obtain rfl:u=DM _:=E;show yE V Y c n l λK s2 W C=>⟨v,U,W,C,q⟩
theorem AAM(K:Ar X o R)(M:Ar X J S)(L:Ot J (AA (.Attribute o f U)) V.line X.ae=Be AQ):EW X (.Assign [.Attribute o f U] J V) (cH X.K R S f):=by intro Y s W H D I h;show plainObj_wpAny_Assign_Attribute (BI (M _ s W H _ I h) λu s1⟨y,Z,A,Q,q⟩=>BI (K _ s1 W Z _ A q) λN s2⟨x,T,B,P,a,C,b,d,G,F,c,n,l,O⟩=>?_) L;subst G;obtain rfl:N=DM a:=P;show AAd B F c n l Q λs3 E=>⟨W,_,E,O⟩
section
variable{H:AI}
inductive IW(K:BB)(H:AI):AB->AK->Prop where|non:IW K H .non (.type "NoneType")|bl(x:Bool):IW K H (.bl x) (.type "bool")|int(i:Int):IW K H (.int i) (.type "int")|str(x:AF):IW K H (.str x) (.type "str")|flt(x:UInt64):IW K H (.flt x) (.type "float")|lst{a:AE}{xs:List AB}(e:H a=AA (.lst xs)):IW K H (.ref a) (.type "list")|frz{a:AE}{o:BP}{xs:List AB}(e:H a=AA (.frz o (.lst xs))):IW K H (.ref a) (.type "list")|tup{a:AE}{xs:List AB}(e:H a=AA (.tup xs)):IW K H (.ref a) (.type "tuple")|dK{a:AE}{kvs:List (AL×AB)}(e:H a=AA (.dK kvs)):IW K H (.ref a) (.type "dict")|dT{a:AE}{kvs:List (List AL×AB)}(e:H a=AA (.dT kvs)):IW K H (.ref a) (.type "dict")|ins{a C dx:AE}{fs:List (AF×AB)}(e:H a=AA (.ins C dx fs))(cl:Hq K C)(ha:ID K (.ref C) "__class__"=AA (AA (.builtin "object.__class__")))(hn:W.specialIn K (.builtin "object.__class__") "__get__"=AA (AA (.builtin "getset_descriptor.__get__")))(htk:W.takesIn K (.builtin "object.__class__")=AA AJ)(hm:W.mroIn K C (.type "object")=AA AJ):IW K H (.ref a) (.ref C)
end
theorem yO(I:AY X pins σ H s)(rx:Bn x u)(ty:IW X.K H x t)(e:AFm X.K t c=AA b)(h:∀tk,Q (.bool b) {s with toks:=tk}):Aw (Av X.af X.w) A (Il (.builtin "isinstance") [u,c]) Q E s:=by cases ty with|non=>cases(show u=gE from rx);show LM W.kitx_none I.my Ir e (λz=>nomatch z) h|bl y=>cases(show u=Qm y from rx);show LM W.kitx_bool I.my Ir e (λz=>nomatch z) h|int i=>obtain⟨t,q⟩:=(show∃t,u=Tj i t from rx);cases q;show LM W.kitx_int I.my Ir e (λz=>nomatch z) h|str y=>obtain⟨t,q⟩:=(show∃t,u=Qn y t from rx);cases q;show LM W.kitx_str I.my Ir e (λz=>nomatch z) h|flt y=>obtain⟨t,q⟩:=(show∃t,u=ACV y t from rx);cases q;show LM W.kitx_float I.my Ir e (λz=>nomatch z) h|@lst a xs ea=>lk;cases(show u=DM a from rx);obtain⟨_,_,n,_,h1⟩:=(show C8 _ _ H _ a _ from I.bj a _ ea);k_in;show LM AFo I.my ⟨_,h1,rfl⟩ e (λz=>nomatch z) h|@frz a ob xs ea=>lk;cases(show u=DM a from rx);obtain⟨_,_,_,n,_,h1⟩:=(show C8 _ _ H _ a _ from I.bj a _ ea);k_in;show LM AFo I.my ⟨_,h1,rfl⟩ e (λz=>nomatch z) h|@tup a xs ea=>lk;cases(show u=DM a from rx);obtain⟨_,_,_,p⟩:=(show C8 _ _ H _ a _ from I.bj a _ ea);obtain⟨o,h1,h2,_⟩:=p;k_in;show LM W.kitx_tuple I.my ⟨o,h1,h2⟩ e (λz=>nomatch z) h|@dK a kvs ea=>lk;cases(show u=DM a from rx);obtain⟨_,_,vs,_,p⟩:=(show C8 _ _ H _ a _ from I.bj a _ ea);obtain⟨o,es,ep,h1,h2,_⟩:=p;k_in;show LM AFn I.my ⟨o,h1,h2.1⟩ e (λz=>nomatch z) h|@dT a kvs ea=>lk;cases(show u=DM a from rx);obtain⟨_,_,xs,_,o,es,ep,h1,h2,_⟩:=(show C8 _ _ H _ a _ from I.bj a _ ea);k_in;show LM AFn I.my ⟨o,h1,h2.1⟩ e (λz=>nomatch z) h|@ins a C dx fs ea cl ha hn htk hm=>lk;cases(show u=DM a from rx);obtain⟨mA,O,_⟩:=SU I.bj ea;obtain⟨od,J,_⟩:=O.aac;k_in;show LM (W.kitx_own (cl.se _) cl.hd ha hn htk hm) I.my J e (λz=>nomatch z) h
structure Dq(k:Nat)(A:DB):Prop where
 hd:A.handled=AG
 dp:A.depth+3*k+5<AF7
 un:A.units+16*k+200<HW
theorem Dq.ym(r:Dq k A)(h:j<=k):Dq j A:=⟨r.hd,by have:=r.dp;lia,by have:=r.un;lia⟩
theorem Dq.aao(r:Dq (k+1) A)(env:EL):Dq k (A.deeper env):=⟨r.hd,by have:=r.dp;change A.depth+1+3*k+5<_;lia,by have:=r.un;change A.units+3+16*k+200<_;lia⟩
theorem Dq.abq(r:Dq (k+1) A):Dq k A.in1:=⟨r.hd,by have:=r.dp;lia,by have:=r.un;lia⟩
theorem y7{A:DB}:(A.under (.builtin "type.__call__" ⟨.ref C::J,D⟩)).depth=A.depth+1:=by first|rfl|simp
theorem y9{A:DB}:(A.under (.builtin "type.__call__" ⟨.ref C::J,D⟩)).units=A.units+1:=by first|rfl|simp
theorem Dq.aar(r:Dq (k+1) A)(C:AE)(J:List AK)(D:List (AF×AK)):Dq k (A.under (.builtin "type.__call__" ⟨.ref C::J,D⟩)):=⟨r.hd,by have:=r.dp;rw[y7];lia,by have:=r.un;rw[y9];lia⟩
theorem Dq.abl(r:Dq k A):A.depth<AF7:=by have:=r.dp;lia
theorem Dq.wz(r:Dq k A):A.units<HW:=by have:=r.un;lia
def L4:FY:=λ_ H Q=>Q [] H
def L3(V:BH)(W:FY):FY:=λD H Q=>V D H λx J=>W D J λY U=>Q (x::Y) U
theorem Fx:Ge X [] L4:=λ_ _ _ _ H Q I h=>Qi ⟨[],H,I,.nil,h⟩
theorem bF(C:Ar X e M)(E:Ge X U t)(F:Cj (e::U) X.ae=(AQ,BX e X.ae)::Cj U X.ae:=by rfl):Ge X (e::U) (L3 M t):=by intro G V s W H Q I h;rw[F];show NM (BI (C _ s W H _ I h) λu s1 D=>?_);obtain⟨x,Y,A,r1,K⟩:_:=D;show BI (E _ _ s1 W Y _ A K) λN s2 J=>?_;obtain⟨O,Z,B,r2,L⟩:_:=J;show⟨_,Z,B,.cons r1 r2,L⟩
local macro_rules | `(#v[]) => `(Fx) | `(#v[$x]) => `(bF $x Fx) | `(#v[$x,$xs,*]) => `(bF $x #v[$xs,*])
def TB(t:FY):BH:=λU H Q=>t U H λJ D=>J.length<=As/\∀p,D p=AG->Q (.ref p) (AR D p (.tup J))
def AA6(t:FY):BH:=λU H Q=>t U H λJ D=>J.length<=As/\∀p,D p=AG->Q (.ref p) (AR D p (.lst J))
theorem CY(h:Ge X V t):Ar X (.Tuple V B Z) (TB t):=by intro U s C H Q I Y;show wpAny_Tuple_spliced (BI (h _ _ s C H _ I Y) λA s1 D=>?_);obtain⟨F,E,J,r,z,q⟩:_:=D;show⟨by rw[<-r.ai];show z,?_⟩;have W:=J.bj.ax (Ai _);show⟨.ref _,_,J.jb (λb u e=>Ca _ e) (Ai _) ?_,rfl,q _ W⟩;show⟨z,A,r,⟨_,ER _ rfl,rfl,_,rfl⟩⟩
theorem CM(h:Ge X V t):Ar X (.List V Z) (AA6 t):=by intro U s B H Q I Y;show wpAny_List_spliced (BI (h _ _ s B H _ I Y) λA s1 D=>?_);obtain⟨E,C,J,r,z,q⟩:_:=D;show⟨by rw[<-r.ai];show z,?_⟩;have W:=J.bj.ax (Ai _);show⟨.ref _,_,J.jb (λb u e=>Ca _ e) (Ai _) ?_,rfl,q _ W⟩;show⟨z,A,0,r,ER _ rfl⟩
abbrev BF:=List AB->AI->BS->Fb->Prop
abbrev Ho:=List EL->AI->AX->Fb->AK->AX->Prop
structure Ld(P:CS)(w:B0)(K:BB)(mg:AF->Option AK)(base:BW)(A:DB)(outer:List EL)(s:AX)(H:AI):Prop where
 jh:A.frames=AA outer
 uk:R9 K mg base
 bs:∀b o,base.get? b=AA o->s.heap.get? b=AA o/\H b=AG
 zu:base.objs.size<=s.heap.objs.size
 ml:s.heap.FunFrames base outer
 aah:∀b∈Gv outer,H b=AG
 bj:DE P w H s.heap
 il:NI s.gens
def VL(D:List EL)(P:CS)(w:B0)(H:AI)(s:AX)(Q:BS)(u:AK)(s':AX):Prop:=SK (λv J=>s'.os=s.os) (λ_ _=>NI s'.gens) (λ_ J=>Hw (Gv D) [] H J s.heap s'.heap) (λ_ J=>DE P w J s'.heap) (λv _=>Bn v u) (λv J=>Q v J)
def wB(CX:Ho)(D:List EL)(P:CS)(w:B0)(H:AI)(s:AX)(Q:BS)(E:Fb)(r:Result)(s':AX):Prop:=match r with|.ok (.ret u)=>VL D P w H s Q u s'|.ok _=>False|.error e=>CX D H s E e s'
structure Gr(P:CS)(w:B0)(K:BB)(mg:AF->Option AK)(base:BW)(CX:Ho)(k:Nat)(f:AE)(fd:Ik)(ps:List AF)(sp:BF):Prop where
 bh:∀vs H Q E,sp vs H Q E->vs.length=ps.length
 acd:∀(A:DB)(outer:List EL)(s:AX)(H:AI)(args:Args)(us:List AK)(vs:List AB)(Q:BS)(E:Fb),Dq k A->Ld P w K mg base A outer s H->Tg s fd args (ps.zip us)->Bb vs us->sp vs H Q E->NT (Av P w) A (.call (.ref f) args) (wB CX outer P w H s Q E) s
theorem Gr.aec{K:BB}(F:Gr P w K W base CX k f V Y sp)(h:∀vs H Q E,U vs H Q E->sp vs H Q E):Gr P w K W base CX k f V Y U:=⟨λvs H Q E q=>F.bh vs H Q E (h _ _ _ _ q),λA D s H J L vs Q E C B Z I G=>F.acd A D s H J L vs Q E C B Z I (h _ _ _ _ G)⟩
theorem Ld.aar{K:BB}(e:Ld P w K J base A D s H)(C:AE)(V:List AK)(U:List (AF×AK)):Ld P w K J base (A.under (.builtin "type.__call__" ⟨.ref C::V,U⟩)) D s H:=⟨by first|show e.jh|(simpa[pushEnvs]using e.frames),e.uk,e.bs,e.zu,e.ml,e.aah,e.bj,e.il⟩
theorem Ld.abq{K:BB}(e:Ld P w K J base A D s H):Ld P w K J base A.in1 D s H:=⟨e.jh,e.uk,e.bs,e.zu,e.ml,e.aah,e.bj,e.il⟩
theorem AY.aap(I:AY X D J H s):Ld X.af X.w X.K X.mg X.ag X.A X.cw s H:=⟨I.ok.jh,I.ok.uk,I.bs,Ag I.ok.zu I.sz,I.cw,I.yb,I.bj,I.il⟩
theorem AY.yx(I:AY X J A H s)(h:VL X.cw X.af X.w H s Q u s'):Ee X J A Q u s':=by lk;obtain⟨v,W,Y,D,Z,U,r,q⟩:=h;obtain⟨B,g,d,t,V⟩:=s';obtain rfl:V=s.os:=Y;k_in;show⟨v,W,I.abi Z U D (λb z=>absurd z (by simp)),r,q⟩
def AAs(sp:BF)(D:List AB)(E:Fb)(t:FY):BH:=λW H Q=>t W H λU J=>sp (U++D) J Q E
def cX(C:AE)(m:AF)(sp:BF)(J:List AB)(E:Fb)(A:BH)(t:FY):BH:=λY H Q=>A Y H λx U=>P1 (λa W D=>x=.ref a) (λa W D=>U a=AA (.ins C W D)) (λ_ _ D=>D.lookup m=AG) (λ_ _ _=>t Y U λB Z=>sp (x::(B++J)) Z Q E)
def cW(C:AE)(sp:BF)(U:List AB)(E:Fb)(t:FY):BH:=λZ H Q=>t Z H λY J=>∀x D,J x=AG->J D=AG->D≠x->sp (.ref x::(Y++U)) (AR (AR J D (.own x)) x (.ins C D [])) (λv W=>v=.non/\Q (.ref x) W) E
def Lb(K:BB)(V:Ik)(U:List AF)(J:List AK):Prop:=∀(s:AX)(D:List AK),K.In s.heap->(D++J).length=U.length->Tg s V ⟨D,[]⟩ (U.zip (D++J))
theorem Lb.nj{K:BB}(h:∀D:List AK,D.length=J.length->ACk U ⟨D,[]⟩=Be (J.zip D)):Lb K U J []:=λs D _ V=>by rw[D4]at V⊢;show .of_eq (h D V)
def Pw(CX:Ho)(X:Bv)(E:Fb):Prop:=∀(D:List (AE×BP))(U:Ap)(H:AI)(s:AX)(e:AK)(J:AX),AY X D U H s->CX X.cw H s E e J->X.xe e J
section
variable{X:Bv}{CX:Ho}{k:Nat}{f:AE}{fd:Ik}{ps:List AF}{sp:BF}{dvs:List AB}{ds:List AK}{E:Fb}{e:BR}
set_option tactic.hygienic true in theorem V2{pins:List (AE×BP)}{σ:Ap}{H:AI}{s:AX}{Q:BS}{J:List AK}{vs:List AB}(F:Gr X.af X.w X.K X.mg X.ag CX k f fd ps sp)(Z:Dq k X.A)(U:Lb X.K fd ps ds)(W:Bb dvs ds)(A:Pw CX X E)(I:AY X pins σ H s)(r:Bb vs J)(h:sp (vs++dvs) H Q E):Aw (Av X.af X.w) X.A (Il (.ref f) J) (Ee X pins σ Q) X.xe s:=by
 have r2:=r.kg W;have Y:(J++ds).length=ps.length:=by rw[<-r2.ai];show F.bh _ _ _ _ h
 show gZ (Ts (F.acd _ _ s H _ _ _ Q E Z I.aap (U s J I.my Y) r2 h) λr s' D=>?_);cases r with|error e=>show A _ σ H s e s' I D|ok fl=>cases fl with|ret u=>show I.yx D|next=>show HY D|brk=>show HY D|cont=>show HY D
end
section
variable{f C:AE}
structure R8(K:BB)(C f:AE):Prop where
 abw:AFp K C=AJ
 acw:ID K (.ref C) "__init__"=AA (AA (.ref f))fn:ACb K (.ref f)=AJ
 kp:Tq K (.ref C)=AJ
end
section
variable{X:Bv}{CX:Ho}{k:Nat}{f C:AE}{fd:Ik}{ps:List AF}{sp:BF}{dvs:List AB}{ds:List AK}{E:Fb}{x:AF}{e:BR}
set_option tactic.hygienic true in theorem cG{pins:List (AE×BP)}{σ:Ap}{H:AI}{s:AX}{Q:BS}{U:List AK}{vs:List AB}(M:R8 X.K C f)(F:Gr X.af X.w X.K X.mg X.ag CX k f fd ps sp)(K:Dq (k+1) X.A)(A:Lb X.K fd ps ds)(B:Bb dvs ds)(L:Pw CX X E)(I:AY X pins σ H s)(r:Bb vs U)(h:∀x dx,H x=AG->H dx=AG->dx≠x->sp (.ref x::(vs++dvs)) (AR (AR H dx (.own x)) x (.ins C dx [])) (λv H2=>v=.non/\Q (.ref x) H2) E):Aw (Av X.af X.w) X.A (Il (.ref C) U) (Ee X pins σ Q) X.xe s:=by
 have W:=h _ _ (I.bj.ax (TX _)) (I.bj.ax (Ai _)) (Dv (OZ _));have J:=wD (C:=C) I;have r2:Bb (AB.ref (s.heap.objs.size+1)::(vs++dvs)) _:=.cons rfl (r.kg B);have G:=by have e:=r2.ai;rw[F.bh _ _ _ _ W]at e;show e.symm
 show gZ (y8 I.my M.abw M.acw (AHe.mp M.fn) (Ts (F.acd _ _ _ _ _ _ _ _ E (K.aar C U []) (J.aap.aar C U []) (A _ _ J.my G) r2 W) λr s' D=>?_));cases r with|error e=>show L _ σ _ _ e s' J D|ok fl=>cases fl with|ret u=>obtain⟨v,H',Y,O,Z,N⟩:_:=J.yx D;subst Z;show⟨O,⟨AB.ref _,H',Y,rfl,N⟩⟩|next=>show HY D|brk=>show HY D|cont=>show HY D
end
structure Mm(N P:List AF)(sc:Fi):Prop where
 gq:sc.kind=.function
 co:sc.isCoroutine=AQ
 aeb:sc.isGenerator=AQ
 nd:N.Nodup
 adk:N.take P.length=P
 adw:∀x∈P,sc.names.lookup x=AA .local\/sc.names.lookup x=AA .cell
 aas:∀y∈sc.names,y.2≠.free
theorem Zo:∀{D:List (AF×AK)}{m:AF->Option AK},(∀v,(x,v)∉D)->Qs J D m x=m x
  |[],_,_=>rfl|(n,v)::r,m,h=>by
    unfold Qs;rw[Zo λw hw=>h w (D5 _ hw)];split
    . have:x≠n:=by rintro rfl;show h v Ci
      simp[this]
    .rfl
theorem Zm:∀{D:List (AF×AK)}{m:AF->Option AK},(∀v,(x,v)∉D)->Qr J D m x=m x
  |[],_,_=>rfl|(n,v)::r,m,h=>by
    unfold Qr;rw[Zm λw hw=>h w (D5 _ hw)];split;.rfl
    . have:x≠n:=by rintro rfl;show h v Ci
      simp[this]
theorem Zn:∀{P:List AF}{vs:List AK}{i:Nat}{m:AF->Option AK},P.Nodup->P[i]?=AA x->vs[i]?=AA v->D x=AA .local->Qs D (P.zip vs) m x=AA v|[],_,_,_,_,h,_,_=>by simp at h|_::_,[],_,_,_,_,h,_=>by simp at h|p::P,w::vs,0,m,W,J,U,V=>by simp at J U;subst J;subst U;change Qs _ ((p,w)::P.zip vs) m p=_;unfold Qs;rw[Zo λv Y=>(Ie.mp W).1 (d6 Y).1,AHT V];simp|p::P,w::vs,i+1,m,W,J,U,V=>by unfold Qs;show Zn (Ie.mp W).2 (by simpa using J) (by simpa using U) V
theorem Zl:∀{P:List AF}{vs:List AK}{i:Nat}{m:AF->Option AK},P.Nodup->P[i]?=AA x->vs[i]?=AA v->D x≠AA .local->Qr D (P.zip vs) m x=AA v|[],_,_,_,_,h,_,_=>by simp at h|_::_,[],_,_,_,_,h,_=>by simp at h|p::P,w::vs,0,m,W,J,U,V=>by simp at J U;subst J;subst U;change Qr _ ((p,w)::P.zip vs) m p=_;unfold Qr;rw[Zm λv Y=>(Ie.mp W).1 (d6 Y).1,AHS V];simp|p::P,w::vs,i+1,m,W,J,U,V=>by unfold Qr;show Zl (Ie.mp W).2 (by simpa using J) (by simpa using U) V
noncomputable def M7(N:List AF)(vs:List AB):Ap:=vs.map AA++OV (N.length-vs.length) AG
noncomputable def Mt(CX:Ho)(P:CS)(w:B0)(K:BB)(Z:AF->Option AK)(base:BW)(N:List AF)(U:AF)(D:Fi)(f:AE)(W:AK)(A:DB)(J:List EL)(s:AX)(H:AI)(E:Fb):Bv where
 af:=P
 w:=w
 K:=K
 mg:=Z
 ag:=base
 A:=A.deeper (MD U D s.heap.objs.size f W)
 N:=N
 s₀:=s
 H₀:=H
 ae:=MD U D s.heap.objs.size f W
 rg:=J
 cw:=MD U D s.heap.objs.size f W::J
 ex:=[]
 fh:=AJ
 fn:=λ_=>AJ
 pn:=[]
 xe:=λe B=>Aw (Av P w) (A.deeper (MD U D s.heap.objs.size f W)) (leaving (MD U D s.heap.objs.size f W) e) (λ_ V=>CX J H s E e V) (λY V=>CX J H s E Y V) B
theorem Zu{D:Fi}(h:D.names.lookup x=AA .cell):∃c,(ACm n D.names []).lookup x=AA c:=by have q:=AFf _ n [] (.inl h);show AES.mp q
theorem yN{K:BB}(S:Mm N B D)(g:A.handled=AG)(Y:Ld P w K Q base A J s H)(j:vs.length=B.length)(r:Bb vs R)(x:InCallC s s.heap.objs.size (Qs (MD U D s.heap.objs.size f I).kindOf (B.zip R) λ_=>AG) (ACm (s.heap.objs.size+1) D.names []) (Qr (MD U D s.heap.objs.size f I).kindOf (B.zip R) λ_=>AG) s1):AY (Mt CX P w K Q base N U D f I A J s H E) [] (M7 N vs) H s1:=by
  have O:=by have:=AHU LF S.adk;rw[EH]at this;show AHh this.symm (WW _ _)
  obtain⟨L,n,rfl,T⟩:_:=x.done;have Z:∀b:AE,b∉(Mt CX P w K Q base N U D f I A J s H E).ex:=λb z=>absurd (show b∈([])from z) (by simp);show⟨⟨Y.uk,S.gq,rfl,rfl,Ai _,λy z c L W=>?_,λy F=>?_,λy c _ h=>?_,λ_=>g,Around.frames_deeper Y.jh,.inr ⟨rfl,rfl⟩,λb z=>absurd z (Z b),Y.bs,Y.zu,λb _ _=>Z b,λb z=>absurd z (Z b),Y.ml,Y.aah⟩,rfl,Y.il,SH T,⟨_,x.toInCall.ns,λi y v L W m=>?_⟩,λy c h=>⟨_,x.cell y c h⟩,Y.bj.ax (Ai _),λy c h=>?_,λp C=>absurd (show p∈([])from C) (by simp),Y.bj.ff T,?_⟩;.show name_of_addr x.apart (Qw L) (Qw W)
  . rcases F with F|F;.show Zu F
    .show absurd rfl (S.aas _ (Qw F))
  .show Bz (x.above y c (Qw h))
  . have M:i<vs.length:=by
      unfold M7 at W;by_cases M:i<vs.length;.show M
      . rw[L5 (by simpa using M)]at W;rw[ADy]at W;split at W<;>cases W
    have d:vs[i]?=AA v:=by unfold M7 at W;rw[Jt (by simpa using M),Bo]at W;cases e:vs[i]? with|none=>rw[e]at W;cases W|some a=>rw[e]at W;cases W;rfl
    obtain⟨u,X,l⟩:_:=r.se d;have C:B[i]?=AA y:=by rw[<-S.adk,dX (by simp_all)];show L
    have G:B.Nodup:=by rw[<-S.adk];show S.nd.sublist (WQ _ _)
    show⟨u,l,?_⟩;rcases S.adw y (Cp C)with k|k;.show .inl ⟨k,Zn G C X k⟩
    . obtain⟨c,e⟩:=Zu k;show .inr ⟨.inl k,c,e,?_⟩;have q:=x.cell y c e;rw[Zl G C X (by change D.names.lookup y≠_;rw[k];decide)]at q;show q
  .show Y.bj.ax (Bz (x.above y c (Qw h)))
  . unfold M7;rw[Ba,Au,ABc];show Ih (Ag (Bq j) O)
set_option tactic.hygienic true in theorem xY{CX:Ho}{P:CS}{w:B0}{K:BB}{mg:AF->Option AK}{base:BW}{k:Nat}{f:AE}{name qual:AF}{params:Arguments}{body:List Cc}{scope:Fi}{dV kV doc pm cdv ct oc:AK}{an od:Option AE}{osl:Array (Option AK)}{N ps:List AF}{sp:BF}(lk:K.lookup f=AA ⟨oc,od,.func (Oi name qual params body scope dV kV doc pm an cdv ct),osl⟩)(hcd:gG K cdv qual=AJ)(S:Mm N ps scope)(len:∀vs H Q E,sp vs H Q E->vs.length=ps.length)(hbody:∀(A:DB)(outer:List EL)(s:AX)(H:AI)(vs:List AB)(Q:BS)(E:Fb),Dq k (A.deeper (MD qual scope s.heap.objs.size f cdv))->sp vs H Q E->∃t,Gu (Mt CX P w K mg base N qual scope f cdv A outer s H E) body t/\t {nx:=λ_ H'=>Q .non H',rt:=Q} (M7 N vs) H):Gr P w K mg base CX (k+1) f (Oi name qual params body scope dV kV doc pm an cdv ct) ps sp:=by
 show⟨len,λA outer s H args us vs Q E hr e0 hb r hsp=>?_⟩;have hl:=len _ _ _ _ hsp;have KX:=e0.uk.abu.keeps λb o e=>(e0.bs b o e).1;have lim:=e0.uk.aae.keeps λb o e=>(e0.bs b o e).1;have hkind:∀y∈ps.zip us,scope.names.lookup y.1=AA _\/(scope.names.lookup y.1=AA _/\((ACm (s.heap.objs.size+1) _ []).lookup y.1).isSome=AJ):=λ⟨n,v⟩hy=>by
  rcases S.adw n (d6 hy).1 with q|q;.show .inl q
  .show .inr ⟨q,AFf _ _ _ (.inl q)⟩
 show codeAny_call_function hr.abl (KX _ _ lk) rfl S.co S.aeb rfl (W.codeRec_of KX hcd) (hb _ _ _ _ ?_);show wpAny_newFunctionEnv_cells S.gq hkind λenv he s1 x=>?_;subst he;show⟨lim.keeps x.toInCall.keep,codeAny_func ?_⟩;obtain⟨t,ht,hq⟩:_:=hbody A _ s H vs Q E (hr.aao _) hsp;have I:AY (Mt CX P w K mg _ N _ _ f _ A _ s H E) [] _ H s1:=yN S hr.hd e0 hl r x;show IF (ht [] s1 _ H _ I hq) (λfl s' hs=>?_) λe s' hs=>hs;have fin:∀{σ':Ap}{H':AI}{v:AB}{u:AK},AY (Mt CX P w K mg base N qual scope f cdv A _ s H E) [] σ' H' s'->Bn v u->Q v H'->VL outer P w H s Q u s':=λ{σ' H' v u}J rv q=>⟨v,H',J.os,J.il,J.ag,J.bj,rv,q⟩;cases fl with|ret u=>obtain⟨v,σ',H',J,rv,q⟩:_:=hs;show fin J rv q|next=>obtain⟨σ',H',J,q⟩:_:=hs;show fin (v:=AB.non) J rfl q|brk=>obtain⟨_,_,_,q⟩:_:=hs;show HY q|cont=>obtain⟨_,_,_,q⟩:_:=hs;show HY q
def V6(r:List AB->AI->BS->Prop)(t:FY):BH:=λU H Q=>t U H λJ D=>r J D Q
theorem CW{x:AF}{id:String}(C:EV X (.builtin id) r)(F:Gd X x)(G:X.mg x=AG)(L:Qt x=AA (.builtin id))(B:Ge X (e::D) t)(K:x≠"__name__":=by decide)(J:(x==("__debug__":AF))=AQ:=by decide)(E:Cj (e::D) X.ae=(AQ,BX e X.ae)::Cj D X.ae:=by rfl)(U:(GR V (Cj D X.ae)).any (·.1)=AQ:=by rfl):Ar X (.Call (.Name x p) (e::D) [] V) (V6 r t):=by intro W s Y H Q I h;show Qy (KH I F G L ?_ K J);show AGY (BI (B _ _ s Y H _ I h) λN s1⟨O,Z,A,r1,M⟩=>C _ s1 Y Z O N Q A r1 M) E U
theorem EF{x:AF}(C:EV X (.type T) r)(F:Gd X x)(G:X.mg x=AG)(L:Qt x=AA (.type T))(B:Ge X (e::D) t)(K:x≠"__name__":=by decide)(J:(x==("__debug__":AF))=AQ:=by decide)(E:Cj (e::D) X.ae=(AQ,BX e X.ae)::Cj D X.ae:=by rfl)(U:(GR V (Cj D X.ae)).any (·.1)=AQ:=by rfl):Ar X (.Call (.Name x p) (e::D) [] V) (V6 r t):=by intro W s Y H Q I h;show Qy (KH I F G L ?_ K J);show Qe (BI (B _ _ s Y H _ I h) λN s1⟨O,Z,A,r1,M⟩=>C _ s1 Y Z O N Q A r1 M) E U
theorem i5(S:Wa s.heap t vs.toArray)(O:Wa s.heap b J.toArray)(G:vs≠[])(M:J=[]->Q (.ref t) s)(N:J≠[]->Q (.ref s.heap.objs.size) {s with heap:=s.heap.push {cls:=.type "tuple",data:=.seq (vs++J).toArray}})(Z:vs.length+J.length<=As):Aw (Av prog w) A (G4 .Add (.ref t) (.ref b)) Q E s:=by
 lk;obtain⟨⟨K,F,C,I⟩,U,P,n,R⟩:=id S;obtain⟨⟨B,L,V,T⟩,D,W,H,Y⟩:=id O;k_in;subst P R W Y;have e:vs.toArray++J.toArray=(vs++J).toArray:=by simp
 by_cases hw:J=[]
 .show concat_meets ⟨_,U,rfl⟩ ⟨_,D,rfl⟩ AF4 AF9 AFB AE4 (AEy _ _) (tuple_addW1 t b _ _ n H F _ I _ (by simpa using G) (by simp[hw])) ⟨U,D,M hw⟩
 . show concat_meets ⟨_,U,rfl⟩ ⟨_,D,rfl⟩ AF4 AF9 AFB AE4 (AEy _ _) (tuple_addW2 t b _ _ n H F _ I _ (by simpa using G) (by simpa using hw) (by show Z)) ⟨U,D,?_⟩;rw[e];show N hw
noncomputable def CT(n d:Nat):Option Int->Nat|AG=>d|AA v=>if v<0 then(v+(n:Int)).toNat else DR v.toNat n
theorem i9(n d k:Nat):CT n d (AA (k:Int))=DR k n:=by change(if(k:Int)<0 then((k)+(n:Int)).toNat else DR _ n)=DR k n;rw[AHS (ADl _),W6]
theorem W0(v:Int)(n d:Nat):(if v<0 then Ju (v+(n:Int)) 0 else DR v (n:Int))=((CT n d (AA v):Nat):Int):=by
 change(if v<0 then Ju _ 0 else DR v _)=(((if v<0 then(v+(n)).toNat else DR _ n):Nat):Int);by_cases D:v<0;.simp only[AHT D];simp
 .lia
theorem iZ(lo hi:Option Int)(n:Nat):ACD lo hi 1 (n:Int)=(((CT n 0 lo:Nat):Int),((CT n n hi:Nat):Int)):=by
 have D:¬((1)<0):=by simp
 unfold ACD;show Tb ?_ ?_;.cases lo with |none=>rfl|some v=>show W0 v n 0
 .cases hi with|none=>rfl|some v=>show W0 v n n
theorem i8(i j:Nat):ACE (i:Int) (j:Int) 1=j-i:=by
 unfold ACE;have D:(1)>0:=by simp
 simp;split<;>simp_all
theorem W2(p:NO v o)(h:Q o s):Aw (Av prog w) A (AGc v) Q E s:=by cases p with|none=>show AEl h|int i t=>show slicePart_int h
theorem jA{lo:Option Int}{Q:Int×Int×Nat->AX->Prop}(Z:s.heap.IsSliceOf U V W .none)(B:NO V lo)(C:NO W hi)(h:Q (((CT n 0 lo:Nat):Int),1,CT n n hi-CT n 0 lo) s):Aw (Av prog w) A (AGb (.ref U) (Be (n:Int))) Q E s:=by obtain⟨F,J,Y,D⟩:_:=id Z;show Ay (Ay (hE J D rfl (Ay (hE J D rfl (Ay (hE J D rfl (CN ?_)))))));show Ay (AEl ?_);show Ay (W2 B (Ay (W2 C (Ay (CN ?_)))));change Aw _ _ (match ACD lo hi 1 _ with|(lo,hi)=>Be (lo,(1:Int),ACE lo hi 1)) _ _ s;rw[iZ lo hi n];change Aw _ _ (Be _) _ _ s;rw[i8];show CN h
theorem i7(xs:Array AK)(i k:Nat):((Ei k).filterMap λ(m:Nat)=>xs[((i:Int)+(m:Int)*1).toNat]?).toArray=((xs.toList.drop i).take k).toArray:=by
 have e:(λ(m:Nat)=>xs[((i:Int)+(m)*1).toNat]?)=λm=>xs[i+m]?:=by
  funext m;have:((i)+(m:Int)*1).toNat=i+m:=by lia
  rw[this]
 rw[e];have:=pick_run xs i k;rw[List.filterMap_map]at this;have D:((λx=>xs[x]?)∘λx=>i+x)=λm=>xs[i+m]?:=rfl;rw[D]at this;rw[this]
theorem i6{lo:Option Int}(U:Wa s.heap t D)(C:s.heap.IsSliceOf B F G .none)(L:NO F lo)(M:NO G hi)(hw:¬(CT D.size 0 lo=0/\CT D.size D.size hi=D.size))(h:Q (.ref s.heap.objs.size) {s with heap:=s.heap.push {cls:=.type "tuple",data:=.seq ((D.toList.drop (CT D.size 0 lo)).take (CT D.size D.size hi-CT D.size 0 lo)).toArray}})(I:D.size<=As):Aw (Av prog w) A (Om (.ref t) (.ref B)) Q E s:=by
 have J:=by change((D.toList.drop (CT D.size 0 lo)).take (CT D.size D.size hi-CT D.size 0 lo)).toArray.size<=As;rw[Gj,EH,L7,MN];omega
 obtain⟨K,Z,W,H⟩:_:=id C;have V:s.TypeIs (.ref B) _:=⟨K,Z,W⟩;unfold Om;try with_reducible show Qz ?_
 show Ay (wpAny_sequenceKey U.typeIs (by decide) ?_);show Ay (AGE U.typeIs fO (ACy fO U.typeIs entry_tuple_getitem ?_ (args_tuple_getitem _ _)));change Aw _ _ (AGe _>>=_) _ _ s;show Ay (tupleItemsOf_ U ?_);show Ay (AC2 V ?_);show Ay (jA C L M ?_);have Y:¬((((CT D.size 0 lo):Int)==0&&(1:Int)==1&&(CT D.size D.size hi-CT D.size 0 lo)==D.size)=AJ):=by intro q;rw[O0,O0]at q;have N:=dI q.1.1;show hw ⟨NX.mp N,by simp_all⟩
 change Aw _ _ (if(((CT _ 0 lo:Nat):Int)==0&&(1)==1&&(CT _ _ hi-CT _ 0 lo)==D.size)=AJ then _ else _) _ _ s;rw[AHS Y,i7];first|show Ay (Tv (CN ⟨_,rfl,CN h⟩) J)|show wpAny_bind _|show wpAny_bind _|show wpAny_bind _
abbrev SG:=Ap->AI->(Option Int->AI->Prop)->Prop
def SD(X:Bv)(e:Option BR)(t:SG):Prop:=∀(D:List (AE×BP))(s:AX)(U:Ap)(H:AI)(Q:Option Int->AI->Prop),AY X D U H s->t U H Q->Aw (Av X.af X.w) X.A (evalPart e X.ae) (λu V=>Eg (λo J=>AY X D U J V) (λo _=>NO u o) (λo J=>Q o J)) X.xe s
def S5:SG:=λ_ H Q=>Q AG H
def S6(t:BH):SG:=λJ H Q=>t J H λx D=>Gf (λi=>x=.int i) (λi=>Q (AA i) D)
theorem aD:∀{D:List AK},Bb (ns.map AB.int) D->Td D ns:=by induction ns with|nil=>intro D r;cases r;show .nil|cons n ns J=>intro D r;cases r with|cons r1 r2=>obtain⟨t,e⟩:=r1;subst e;show .cons n t (J r2)
theorem Eu:SD X AG S5:=by intro D s J H Q I h;show CN ⟨_,H,I,.none,h⟩
theorem DL(h:Ar X e Y):SD X (AA e) (S6 Y):=by intro J s Z H Q I hw;show BI (h _ s Z H _ I hw) λu s1 D=>?_;lk;obtain⟨x,U,V,r1,W⟩:=D;obtain⟨i,rfl,q⟩:=W;obtain⟨t,rfl⟩:=r1;k_in;show⟨_,U,V,.int i t,q⟩
def N4(X:Bv)(r:AB->Option Int->Option Int->AI->BS->Prop):Prop:=∀(D:List (AE×BP))(s:AX)(A:Ap)(H:AI)(x:AB)(v Y Z:AK)(U J:Option Int)(W:AE)(Q:BS),AY X D A H s->Bn x v->s.heap.IsSliceOf W Y Z .none->NO Y U->NO Z J->r x U J H Q->Eg (λT B=>gX (.type T) "__getitem__"=Be (AA (.builtin B))) (λT _=>s.TypeIs v T) (λ_ _=>Aw (Av X.af X.w) X.A (Om v (.ref W)) (Ee X D A Q) X.xe s)
def S9(r:AB->Option Int->Option Int->AI->BS->Prop)(Y:BH)(A Z:SG):BH:=λD H Q=>Y D H λx J=>A D J λl U=>Z D U λu W=>r x l u W Q
theorem Du{lo:Option BR}(R:N4 X r)(N:Ar X e k)(P:SD X lo n)(a:SD X hi m):Ar X (.Subscript e (.Slice lo hi AG t) d) (S9 r k n m):=by intro Z s W H Q I h;show AB2 (BI (N _ s W H _ I h) λv s1 D=>?_);obtain⟨x,C,F,r1,g⟩:_:=D;show wpAny_Slice (BI (P _ s1 W C _ F g) λA s2 J=>?_);obtain⟨l,E,G,c,i⟩:_:=J;show BI (a _ s2 W E _ G i) λB s3 U=>?_;obtain⟨u,Y,K,f,j⟩:_:=U;show CN ?_;have L:AY X _ W Y {s3 with heap:=s3.heap.push {cls:=.type "slice",data:=.fields #[A,B,.none]}}:=K.ff λb p q=>Ca _ q;obtain⟨T,o,M,S,O⟩:_:=R _ _ W Y x v A B l u _ Q L r1 (AG5 ..) c f j;show tail_any S M O (by with_unfolding_all rfl)
noncomputable def Fe(xs:List AB)(lo hi:Option Int):List AB:=(xs.drop (CT xs.length 0 lo)).take (CT xs.length xs.length hi-CT xs.length 0 lo)
theorem Vd(xs:List AB)(lo hi:Option Int):(Fe xs lo hi).length<=xs.length:=by unfold Fe;rw[EH,L7];lia
def Su(K:BB):AB->Option Int->Option Int->AI->BS->Prop:=λx U J H Q=>Mr (λa D=>x=.ref a) (λa D=>CB K H a D) (λ_ D=>¬(CT D.length 0 U=0/\CT D.length D.length J=D.length)) (λ_ D=>∀p,H p=AG->Q (.ref p) (AR H p (.tup (Fe D U J))))
theorem AAf:N4 X (Su X.K):=by
 intro W s O H x v M N C Z L Q I G A E F h;lk;obtain⟨a,Y,rfl,B,hw,q⟩:=h;cases G;obtain⟨J,r,U,V⟩:=I.de B;k_in;have D:J.toArray.size=Y.length:=by show r.ai.symm
 show⟨_,_,fO.lookup,U.typeIs,?_⟩;show i6 U A E F (by rw[D];show hw) ?_ (by rw[D];show V);rw[D];show⟨.ref _,_,I.jb (λb K q=>Ca _ q) (Ai _) ?_,rfl,q _ (I.bj.ax (Ai _))⟩;show⟨Ag (Vd Y C Z) V,_,(r.ye _).ach _,AB1 _ _⟩
def Sr(K:BB):EC:=λx y H Q=>Zh (λa b J D=>x=.ref a) (λ_ b _ _=>y=.ref b) (λa _ J _=>CB K H a J) (λ_ b _ D=>CB K H b D) (λ_ _ J _=>J≠[]) (λ_ _ J D=>J.length+D.length<=As) (λa _ _ D=>(D=[]->Q (.ref a) H)) (λ_ _ J D=>(D≠[]->∀p,H p=AG->Q (.ref p) (AR H p (.tup (J++D)))))
theorem Bb.uw(r:Bb xs D):D=[]↔xs=[]:=by cases r with|nil=>simp|cons _ _=>simp
theorem zL:CU X (G4 .Add) (Sr X.K):=by intro U s N H x y v u Q I F G h;lk;obtain⟨a,b,L,M,rfl,rfl,V,W,Y,D,C,E⟩:=h;cases F;cases G;obtain⟨Z,r1,A,_⟩:=I.de V;obtain⟨J,r2,B,_⟩:=I.de W;k_in;show i5 A B (λz=>Y (r1.uw.mp z)) (λz=>⟨.ref a,H,I,rfl,C (r2.uw.mp z)⟩) (λz=>?_) (by rw[<-r1.ai,<-r2.ai];show D);show⟨.ref _,_,I.jb (λb K q=>Ca _ q) (Ai _) ?_,rfl,E (λw=>z (r2.uw.mpr w)) _ (I.bj.ax (Ai _))⟩;show⟨by rw[Ba];show D,_,r1.kg r2,AB1 _ _⟩
noncomputable def OD(n:Nat)(i:Int):Option Nat:=if 0<=i then(if i<n then AA i.toNat else AG)else if-(n:Int)<=i then AA (i+n).toNat else AG
noncomputable def Cr(xs:List D)(i:Int):Option D:=(OD xs.length i).bind λj=>xs[j]?
theorem yQ(h:OD n i=AA j):seqIndex? i n=AA j/\j<n/\-(n:Int)<=i/\i<n:=by
  unfold OD at h;by_cases J:0<=i
  . rw[AHT J]at h;by_cases D:i<n
    . rw[AHT D]at h;have e:=CD h;show⟨by rw[seqIndex_of J D,e],by lia,FQ (Int.neg_ofNat_le_ofNat _ _) J,D⟩
    .rw[AHS D]at h;cases h
  . rw[AHS J]at h;by_cases D:-(n)<=i;. rw[AHT D]at h;have e:=CD h;show⟨by rw[seqIndex_neg (by simp_all) D,e],by lia,D,jE (UE J) (Int.neg_lt_zero_iff.mp (JP D (UE J)))⟩
    .rw[AHS D]at h;cases h
theorem VW{xs:List D}(h:Cr xs i=AA v):∃j,seqIndex? i xs.length=AA j/\xs[j]?=AA v/\j<xs.length/\-(xs.length:Int)<=i/\i<xs.length:=by unfold Cr at h;cases e:OD _ i with|none=>rw[e]at h;cases h|some j=>rw[e]at h;obtain⟨J,U,V,W⟩:_:=yQ e;show⟨j,J,h,U,V,W⟩
theorem Ae{D:Type}{xs:List D}{j:Nat}{v:D}(h:xs[j]?=AA v):Cr xs (j:Int)=AA v:=by
 have J:=(BU.mp h).1;have e:OD xs.length (j)=AA j:=by unfold OD;rw[AHT (by simp),AHT (by simp_all)];simp
 unfold Cr;rw[e];show h
def VS(b:BR):Prop:=∀o i,gV b AQ o i=operate [o,i] (Om o i)
def N1(X:Bv)(r:EC):Prop:=∀(U D:BR)(J:List (AE×BP))(s:AX)(W:Ap)(H:AI)(x y:AB)(v u:AK)(Q:BS),AY X J W H s->Bn x v->Bn y u->r x y H Q->gV D AQ v u=operate [v,u] (Om v u)->Aw (Av X.af X.w) X.A (subscriptTail U D v u) (Ee X J W Q) X.xe s
def Kw(X:Bv)(id:String)(r:AB->List AB->AI->BS->Prop):Prop:=∀(D:List (AE×BP))(s:AX)(W:Ap)(H:AI)(x:AB)(U:List AB)(v:AK)(J:List AK)(Q:BS),AY X D W H s->Bn x v->Bb U J->r x U H Q->Aw (Av X.af X.w) X.A (Il (.builtin id) (v::J)) (Ee X D W Q) X.xe s
theorem EY(Y:N1 X r)(V:Ar X a E)(W:Ar X b F)(Z:VS b):Ar X (.Subscript a b A) (KP r E F):=by intro D s G H Q I h;show AB2 (VX V W I h λv u s2 x y J U B C q=>Y a b _ s2 G J x y v u Q U B C q (Z _ _))
def bZ(K:BB):EC:=λx y H Q=>VV (λp D i v=>x=.ref p) (λ_ _ i _=>y=.int i) (λp D _ _=>CO K H p D) (λ_ D i v=>Cr D i=AA v) (λ_ _ _ v=>Q v H)
def b8(K:BB):EC:=λx y H Q=>VV (λp D i v=>x=.ref p) (λ_ _ i _=>y=.int i) (λp D _ _=>CB K H p D) (λ_ D i v=>Cr D i=AA v) (λ_ _ _ v=>Q v H)
def AAU:EC:=λx y H Q=>P2 (λz i c=>x=.str z) (λ_ i _=>y=.int i) (λz _ _=>z.length<=As) (λz i c=>Cr z.cps.toList i=AA c) (λ_ _ c=>Q (.str ⟨#[c]⟩) H)
theorem yR:N1 X (bZ X.K):=by
  intro A Z D s R H x y v u Q I O P h E;lk;obtain⟨p,b,i,z,rfl,rfl,N,L,q⟩:=h;cases O;obtain⟨t,rfl⟩:=P;obtain⟨V,r,W,a⟩:=I.fw N;obtain⟨j,J,F,S,G,K⟩:=VW L;obtain⟨w,B,Y⟩:=r.se F;k_in;have M:=r.ai;have T:=QF;have fin:Ee X D R Q w s:=⟨z,H,I,Y,q⟩;by_cases C:0<=i
  . have U:=by rw[seqIndex_of C K]at J;show CD J
    show item_listR W.isList C (by lia) (by rw[U];simpa using B) fin E
  . have U:(i+(V.toArray.size:Int)).toNat=j:=by rw[seqIndex_neg (by simp_all) G]at J;rw[Gj,<-M];show CD J
    show AEn (x:=w) W.isList.typeIs AGA.lookup (wpAny_getItem_list_neg W.isList (by simp_all) (by rw[Gj]<;>simp_all) (by lia) (by rw[U];simpa using B) ⟨rfl,fin⟩) E
theorem yS:N1 X (b8 X.K):=by intro U J V s M H x y v u Q I K L h F;lk;obtain⟨p,T,i,z,rfl,rfl,E,B,q⟩:=h;cases K;obtain⟨t,rfl⟩:=L;obtain⟨G,r,W,S⟩:=I.de E;obtain⟨j,Z,A,N,O,P⟩:=VW B;obtain⟨w,Y,D⟩:=r.se A;k_in;have C:=r.ai;have R:=QF;have fin:Ee X _ M Q w s:=⟨z,H,I,D,q⟩;show AEn W.typeIs fO.lookup (getItem_tuple W (by lia) (by lia) (by rw[Gj,<-C];show Z) (by simpa using Y) ⟨rfl,fin⟩) F
theorem SW:N1 X AAU:=by
 intro J D V s P H x y v u Q I G K h F;lk;obtain⟨z,i,c,rfl,rfl,N,C,q⟩:=h;obtain⟨t,rfl⟩:=G;obtain⟨O,rfl⟩:=K;obtain⟨j,U,Z,L,A,B⟩:=VW C;k_in;have E:z.cps.toList.length=z.length:=by simp[AFU]
 rw[E]at U A B;have M:=QF;show tail_any (Ou s z t) slot_str_getitem.lookup (getItem_str (c:=c) (by have W:Ab (i< -(2^63:Int))=AQ:=AHW (by lia);have Y:Ab (i>=2^63)=AQ:=AHW (by lia);rw[W,Y,Bool.or_false]) (by rw[U];simpa using Z) ⟨.str ⟨#[c]⟩,H,I.dw _,⟨_,rfl⟩,q⟩) F
theorem AAh(lo hi:Option Int)(n:Nat):(Qx lo hi AG n).1=((CT n 0 lo:Nat):Int)/\(Qx lo hi AG n).2.1=((CT n n hi:Nat):Int)/\(Qx lo hi AG n).2.2=1:=by
 show⟨?_,?_,rfl⟩;.cases lo with |none=>simp[Qx,CT]|some i=>
  simp only[Qx,CT,AER,show(1)>0 by decide,AHb];by_cases h:i<0;.simp only[h,AHb]<;>lia
  .simp only[h,AHa]<;>lia
 .cases hi with |none=>simp[Qx,CT]|some i=>
  simp only[Qx,CT,AER,show(1)>0 by decide,AHb];by_cases h:i<0;.simp only[h,AHb]<;>lia
  .simp only[h,AHa]<;>lia
theorem AAg(its:List AK)(lo hi:Option Int):slicePick its.toArray lo hi AG=((its.drop (CT its.length 0 lo)).take (CT its.length its.length hi-CT its.length 0 lo)).toArray:=by obtain⟨D,J,U⟩:_:=AAh lo hi _;unfold slicePick;rw[D,J,U];simp only[sliceRange_one,pick_run,Gj]<;>rfl
def b9(K:BB):AB->Option Int->Option Int->AI->BS->Prop:=λx U J H Q=>Eg (λa D=>x=.ref a) (λa D=>CO K H a D) (λ_ D=>∀p,H p=AG->Q (.ref p) (AR H p (.lst (Fe D U J))))
theorem AAe:N4 X (b9 X.K):=by intro U s O H x v M N B V L Q I F W C E h;lk;obtain⟨a,G,rfl,Y,q⟩:=h;cases F;obtain⟨A,r,J,Z⟩:=I.fw Y;k_in;have D:=r.ai;show⟨_,_,AGA.lookup,J.isList.typeIs,?_⟩;show wpAny_getItem_list_slice J.isList W C E .none (by simp) ?_ (by rw[Gj]<;>simp_all);rw[AAg,<-D];show⟨.ref _,_,I.jb (λb K q=>Ca _ q) (Ai _) ?_,rfl,q _ (I.bj.ax (Ai _))⟩;show⟨Ag (Vd G B V) Z,_,0,(r.ye _).ach _,ER _ rfl⟩
noncomputable def Ll:AB->Bool|.non=>AJ|.bl _=>AJ|.int _=>AJ|.str _=>AJ|_=>AQ
noncomputable def Lj:AB->AB->Bool|.non,.non=>AJ|.bl a,.bl b=>a==b|.bl a,.int b=>(if a then 1 else 0)==b|.int a,.bl b=>a==(if b then 1 else 0)|.int a,.int b=>a==b|.str a,.str b=>a==b|_,_=>AQ
theorem xW(W:Bn y u)(D:Bn x v)(Y:Ll y=AJ)(U:Ll x=AJ):gC A s u v (Lj y x):=by cases y with
 |non=>cases W;cases x with |non=>cases D;show AFS _|bl b=>cases D;show AHE b|int b=>obtain⟨t,rfl⟩:=D;show AHF b t|str b=>obtain⟨t,rfl⟩:=D;show AHG b t|_=>show absurd (show AQ=AJ from U) Dk
 |bl a=> cases W;cases x with |non=>cases D;show AG9 a|bl b=>cases D;show AG7 a b|int b=>obtain⟨t,rfl⟩:=D;show AG8 a b t|str b=>obtain⟨t,rfl⟩:=D;show AHA a b t|_=>show absurd (show AQ=AJ from U) Dk
 |int a=> obtain⟨J,rfl⟩:=W;cases x with |non=>cases D;show AHD a J|bl b=>cases D;show AHB a J b|int b=>obtain⟨t,rfl⟩:=D;show AHC a J b t|str b=>obtain⟨t,rfl⟩:=D;show AFR a J b t|_=>show absurd (show AQ=AJ from U) Dk
 |str a=> obtain⟨J,rfl⟩:=W;cases x with |non=>cases D;show AHI a J|bl b=>cases D;show AHH a J b|int b=>obtain⟨t,rfl⟩:=D;show AFT a J b t|str b=>obtain⟨t,rfl⟩:=D;show AHJ a J b t|_=>show absurd (show AQ=AJ from U) Dk
 |_=>show absurd (show AQ=AJ from Y) Dk
noncomputable def P9(x:AB)(u:AK):Bool:=match u with|.none=>Lj .non x|.bool b=>Lj (.bl b) x|.int i _=>Lj (.int i) x|.str z _=>Lj (.str z) x|_=>AQ
theorem Z4(r:Bn y u)(f:Ll y=AJ):P9 x u=Lj y x:=by cases y with|non=>cases r;rfl|bl b=>cases r;rfl|int i=>obtain⟨t,rfl⟩:=r;rfl|str z=>obtain⟨t,rfl⟩:=r;rfl|_=>show absurd (show AQ=AJ from f) Dk
theorem Zk(h:Bb xs D):xs.all Ll=AJ->D.any (P9 x)=xs.any λy=>Lj y x:=by induction h with|nil=>showλ_=>rfl|cons r _ J=>intro f;rw[dN,O0]at f;rw[WD,WD,Z4 r f.1,J f.2]
theorem aS(Y:Bn x v)(U:Ll x=AJ)(h:Bb xs J):xs.all Ll=AJ->∀u∈J,gC A s u v (P9 x u):=by induction h with |nil=>intro _ u D;cases D|cons r _ W=>
 intro f Z D;rw[dN,O0]at f;rcases BY.mp D with rfl|D;.rw[Z4 r f.1];show xW r Y f.1 U
 .show W f.2 Z D
noncomputable def EX(x:AB)(xs:List AB):Bool:=xs.any λy=>Lj y x
def bY(K:BB)(J:Bool):EC:=λx y H Q=>SJ (λp D=>y=.ref p) (λp D=>(CO K H p D\/CB K H p D)) (λ_ _=>Ll x=AJ) (λ_ D=>D.all Ll=AJ) (λ_ D=>Q (.bl (if J then !EX x D else EX x D)) H)
theorem zN:CU X (Ek .In) (bY X.K AQ):=by
 intro Y s E H x y v u Q I Z B h;lk;obtain⟨p,C,rfl,J,W,U,q⟩:=h;cases B;k_in;rcases J with J|J
 . obtain⟨D,r,V,A⟩:_:=I.fw J;show SeqAt.in_listAt _ V.isList (λw hw=>aS Z W r U w (by simpa using hw)) ⟨.bl _,H,I,rfl,?_⟩;rw[show D.toArray.any _=D.any (P9 x)by simp,Zk r U];show q
 . obtain⟨D,r,V,A⟩:_:=I.de J;show SeqAt.in_tupleAt _ V (λw hw=>aS Z W r U w (by simpa using hw)) ⟨.bl _,H,I,rfl,?_⟩;rw[show D.toArray.any _=D.any (P9 x)by simp,Zk r U];show q
theorem wW:EV X (.builtin "len") (λxs H Q=>∃p ys,xs=[.ref p]/\(CO X.K H p ys\/CB X.K H p ys)/\Q (.int ys.length) H):=by
 intro Y s E H xs C Q I r h;lk;obtain⟨p,ys,rfl,J,q⟩:=h;obtain⟨u,rfl,A⟩:=Fz r;cases A;k_in;have B:=QF;rcases J with J|J
 . obtain⟨U,W,V,Z⟩:_:=I.fw J;have D:=W.ai;show Calls.call_len_list V.isList (by simp<;>lia) ⟨.int _,H,I.dw _,⟨_,by rw[Gj,D]⟩,q⟩
 . obtain⟨U,W,V,Z⟩:_:=I.de J;have D:=W.ai;show len_tuple V (by simp<;>lia) ⟨.int _,H,I.dw _,⟨_,by rw[Gj,D]⟩,q⟩
theorem VY:EV X (.builtin "len") (λxs H Q=>∃z,xs=[.str z]/\z.length<=As/\Q (.int z.length) H):=by intro D s W H xs V Q I r h;lk;obtain⟨z,rfl,U,q⟩:=h;obtain⟨u,rfl,t,rfl⟩:=Fz r;k_in;have J:=QF;show len_str (by lia) ⟨.int _,H,I.dw _,⟨_,rfl⟩,q⟩
theorem wX:EV X (.type "list") (λxs H Q=>∃p ys,xs=[.ref p]/\(CO X.K H p ys\/CB X.K H p ys)/\∀l,H l=AG->Q (.ref l) (AR H l (.lst ys))):=by
 intro K s M H xs N Q I r h;lk;obtain⟨p,ys,rfl,Y,q⟩:=h;obtain⟨u,rfl,L⟩:=Fz r;cases L;k_in;have fin:∀(D:List _),Bb ys _->ys.length<=As->∀(J:BW)(V:Nat),(∀b G,s.heap.get? b=AA G->J.get? b=AA G)->J.get? _=AA _->Ee X _ M Q _ _:=λD U Z J V A e=>⟨.ref _,_,I.jb (t':=s.toks) A (Ai _) (show C8 _ _ _ J _ (.lst ys)from⟨Z,D,V,U,e⟩),rfl,q _ (I.bj.ax (Ai _))⟩;rcases Y with Y|Y;. lk;obtain⟨D,U,F,Z⟩:=I.fw Y;have W:=U.ai;obtain⟨o,E,B,n,C⟩:=F.isList;k_in;show AFw p (.inl rfl) E B C (λJ V A e=>fin _ U Z J V A e) (by simp<;>simp_all)
 . lk;obtain⟨D,U,F,Z⟩:=I.de Y;have W:=U.ai;obtain⟨o,E,B,n,C⟩:=F;k_in;show AFw p (.inr rfl) E B C (λJ V A e=>fin _ U Z J V A e) (by simp<;>simp_all)
theorem Va:EV X (.type "tuple") (λxs H Q=>∃p ys,xs=[.ref p]/\((CO X.K H p ys/\∀l,H l=AG->Q (.ref l) (AR H l (.tup ys)))\/(CB X.K H p ys/\Q (.ref p) H))):=by
 intro D s C H xs K Q I r h;lk;obtain⟨p,ys,rfl,h⟩:=h;obtain⟨u,rfl,G⟩:=Fz r;cases G;k_in;rcases h with⟨V,q⟩|⟨V,q⟩
 . obtain⟨J,Y,W,B⟩:_:=I.fw V;have A:=Y.ai;show call_tuple_list W.isList (λU F=>?_) (by simp only[Gj]<;>omega);have Z:AY X D C H {s with heap:=U}:=I.ff (t':=s.toks) F;have E:AY X D C (AR H U.objs.size (.tup ys)) {s with heap:=U.push {cls:=.type "tuple",data:=.seq J.toArray}}:=Z.jb (t':=s.toks) (λb o e=>Ca _ e) (Ai _) (show C8 X.af X.w _ _ _ (.tup ys)from⟨B,J,Y,AB1 _ _⟩);show⟨.ref U.objs.size,_,E,rfl,q _ (Z.bj.ax (Ai _))⟩
 . obtain⟨J,Y,W,B⟩:_:=I.de V;show call_tuple_same W ⟨.ref p,H,I,rfl,q⟩
def TC(K:BB)(T:String)(x:AB)(H:AI):Prop:=match x with|.str _=>T="str"|.int _=>T="int"|.ref p=>(T="list"/\∃J,CO K H p J)\/(T="tuple"/\∃o,K.lookup p=AA o/\o.cls=.type "tuple"/\o.dict=AG)\/(T="dict"/\((∃D,H p=AA (.dK D))\/∃D,H p=AA (.dT D)))\/(T="set"/\∃S n,H p=AA (.set S n))|_=>False
theorem dD{K:Ap}(I:AY X U K H s)(r:Bn x v)(W:TC X.K T x H):s.TypeIs v T/\∀a,v=.ref a->∃B,s.heap.get? a=AA B/\B.dict=AG:=by cases x with
  |str z=> lk;obtain⟨t,rfl⟩:=r;cases(show T="str"from W);k_in;show⟨Ou s z t,λ_ e=>nomatch e⟩|int i=> lk;obtain⟨t,rfl⟩:=r;cases(show T="int"from W);k_in;show⟨typeIs_int s i t,λ_ e=>nomatch e⟩|ref p=>
    cases r;rcases W with⟨rfl,L,F⟩|⟨rfl,o,D,E,Z⟩|⟨rfl,D⟩|⟨rfl,S,n,D⟩
    . obtain⟨G,_,C,_⟩:_:=I.fw F;show⟨C.isList.typeIs,λa e=>?_⟩;lk;cases e;obtain⟨o,n,e,c,Z,_⟩:=C;k_in;show⟨o,e,Z⟩
    . show⟨⟨o,I.my p o D,E⟩,λa e=>?_⟩;cases e;show⟨o,I.my _ o D,Z⟩
    . have z:∃o,s.heap.get? p=AA o/\o.ExactDict:=by
        rcases D with⟨A,D⟩|⟨A,D⟩;. obtain⟨_,_,_,_,o,_,_,e,J,_⟩:=I.bj p _ D;show⟨o,e,J⟩
        . obtain⟨_,_,_,_,o,_,_,e,J,_⟩:=I.bj p _ D;show⟨o,e,J⟩
      obtain⟨o,e,J⟩:_:=z;show⟨⟨o,e,J.1⟩,λa Y=>?_⟩;cases Y;show⟨o,e,J.2.1⟩
    . obtain⟨o,_,_,_,e,J,_⟩:_:=I.bj p _ D;show⟨⟨o,e,J.1⟩,λa Y=>?_⟩;cases Y;show⟨o,e,J.2.1⟩|_=>show HY W
def cR(K:BB)(T:String)(r:AB->List AB->AI->BS->Prop)(J:BH):BH:=λU H Q=>J U H λx D=>TC K T x D/\r x [] D Q
def V5(K:BB)(T:String)(r:AB->List AB->AI->BS->Prop)(W:BH)(t:FY):BH:=λJ H Q=>W J H λx D=>TC K T x D/\t J D λY U=>r x Y U Q
theorem zZ{name:AF}{id:String}(M:gB T)(Y:Slot T name id)(Z:gY (.builtin id)=Be (.type "method_descriptor"))(K:Kw X id r)(L:Ar X o O)(D:Jy o name X.ae (BX o X.ae)=BX o X.ae:=by rfl)(J:(U.endLine==V.line)=AJ:=by rfl):Ar X (.Call (.Attribute o name U) [] [] V) (cR X.K T r O):=by intro B s C H Q I h;show wpAny_Call_method0_late D J (BI (L _ s C H _ I h) λv s1 W=>?_);lk;obtain⟨x,E,A,r1,P,N⟩:=W;obtain⟨F,G⟩:=dD A r1 P;k_in;show⟨T,id,M,Y,Z,F,G,Wh rfl (ACo (K _ s1 C E x [] v [] Q A r1 .nil N))⟩
theorem zW{name:AF}{id:String}(d:gB T)(C:Slot T name id)(E:gY (.builtin id)=Be (.type "method_descriptor"))(a:Kw X id r)(b:Ar X o i)(S:Ge X (e::W) t)(U:Jy o name X.ae (BX o X.ae)=BX o X.ae:=by rfl)(Z:((GR D (Cj (e::W) X.ae)).all (λx=>!x.1)&&(Qp D (Qv [] X.ae)).all (λx=>x.1.isSome)&&Ab ((e::W).length+([]:List MH).length+(if([]:List MH).isEmpty then 0 else 1)<30))=AJ:=by rfl)(V:(Y.endLine==D.line)=AJ:=by rfl)(c:Cj (e::W) X.ae=(AQ,BX e X.ae)::Cj W X.ae:=by rfl)(J:(GR D (Cj W X.ae)).any (·.1)=AQ:=by rfl):Ar X (.Call (.Attribute o name Y) (e::W) [] D) (V5 X.K T r i t):=by intro L s F H Q I h;show wpAny_Call_method_late U Z V rfl (BI (b _ s F H _ I h) λv s1 A=>?_);lk;obtain⟨x,M,G,r1,j,f⟩:=A;obtain⟨P,R⟩:=dD G r1 j;k_in;show⟨T,id,d,C,E,P,R,?_⟩;have K:=S D _ s1 F M _ G f;rw[c]at K⊢;show Wh (by change(AQ||(GR _ _).any _)=AQ;rw[J]<;>rfl) (fT ?_);show BI K λk s2 B=>?_;obtain⟨l,N,O,r2,g⟩:_:=B;show a _ s2 F N x l v k Q O r1 r2 g
def VQ(X:Bv)(id:String)(r:AB->List AB->AI->BS->Prop):Prop:=∀(D:List (AE×BP))(s:AX)(W:Ap)(H:AI)(x:AB)(U:List AB)(v:AK)(J:List AK)(Q:BS),AY X D W H s->Bn x v->Bb U J->r x U H Q->Aw (Av X.af X.w) X.A (Il (.builtin id) (v::J)) (Ee X D W Q) X.xe s
theorem Bb.yr(h:Bb [x] D):∃u,D=[u]/\Bn x u:=by cases h with|cons r t=>cases t;show⟨_,rfl,r⟩
theorem Bb.adn:∀{D:List AK},Bb [] D->D=[]|_,.nil=>rfl
theorem AY.aaq{its D:List AK}(I:AY X J B H s)(U:H l=AA (.lst xs))(e:s.heap.get? l=AA {cls:=.type "list",data:=.seq its.toArray n})(W:f its.toArray=D.toArray)(Z:Bb ys D)(A:ys.length<=As):AY X J B (AR H l (.lst ys)) {s with heap:=s.heap.update l (ES f),toks:=t'}:=by have q:=AFJ e f;rw[W]at q;show I.rj (by rw[U];show trivial) (.inl rfl) (λC u V Y=>(fW _ _ (Gk V)).trans Y) ⟨_,q⟩ ?_;show⟨A,_,_,Z,q⟩
theorem AY.acz(I:AY X D V H s)(J:Bb ys its)(U:ys.length<=As):AY X D V (AR H s.heap.objs.size (.lst ys)) {s with heap:=s.heap.push {cls:=.type "list",data:=.seq its.toArray},toks:=t'}:=I.jb (λ_ _ q=>Ca _ q) (Ai _) ⟨U,its,0,J,ER _ rfl⟩
theorem AY.ax(I:AY X D J H s):H s.heap.objs.size=AG:=I.bj.ax (Ai _)
theorem AY.yl(I:AY X D U H s)(J:H l=AA (.lst xs)):xs.length<=As/\∃(its:List AK)(n:Nat),Bb xs its/\xs.length=its.length/\s.heap.get? l=AA {cls:=.type "list",data:=.seq its.toArray n}:=by obtain⟨z,its,n,r,e⟩:_:=I.bj l _ J;show⟨z,its,n,r,r.ai,e⟩
theorem zH(h:n<=As):AEq n=AQ:=by show AHW (eQ.mpr h)
def Vx:AB->List AB->AI->BS->Prop:=λx J H Q=>P2 (λl D y=>x=.ref l) (λ_ _ y=>J=[y]) (λl D _=>H l=AA (.lst D)) (λ_ D _=>D.length<As) (λl D y=>Q .non (AR H l (.lst (D++[y]))))
theorem zC:VQ X "list.append" Vx:=by intro J s G H x C v B Q I Y W h;lk;obtain⟨l,E,y,rfl,rfl,D,A,q⟩:=h;cases Y;obtain⟨u,rfl,V⟩:=W.yr;obtain⟨z,U,n,r,Z,e⟩:=I.yl D;k_in;show NS ACL ⟨_,e,rfl⟩ AE1 (AEx _ _) (AF2 l _ n u (by simp_all)) ⟨e,?_⟩;show⟨.non,_,I.aaq D e (by simp) (r.kg (.cons V .nil)) ?_,rfl,q⟩;rw[Ba];assumption
def AAS:AB->List AB->AI->BS->Prop:=λx U H Q=>SN (λl b D J=>x=.ref l) (λ_ b _ _=>U=[.ref b]) (λl _ D _=>H l=AA (.lst D)) (λ_ b _ J=>H b=AA (.lst J)) (λ_ _ D J=>D.length+J.length<=As) (λl _ D J=>Q .non (AR H l (.lst (D++J))))
theorem My:VQ X "list.extend" AAS:=by
 intro Y s T H x O v N Q I K G h;lk;obtain⟨l,b,P,S,rfl,rfl,W,A,M,q⟩:=h;cases K;obtain⟨u,rfl,E⟩:=G.yr;cases E;obtain⟨z,U,n,r,L,e⟩:=I.yl W;obtain⟨R,D,C,r2,B,Z⟩:=I.yl A;k_in;have V:U.toArray.size+D.toArray.size<=As:=by simp_all
 have J:¬(!U.toArray.isEmpty&&AEq (U.toArray.size+D.toArray.size))=AJ:=by rw[zH V,ADW];show Dk
 show NS Od ⟨_,e,rfl⟩ F.entry_list_extend (F.args_list_extend_2 _ _) (AutoSeq1.list_extend_list_list_0 l _ n b _ C J (by simp_all) (Ii V)) ⟨e,Z,?_⟩;show⟨.non,_,I.aaq W e (by simp) (r.kg r2) ?_,rfl,q⟩;rw[Ba];omega
def AAQ:AB->List AB->AI->BS->Prop:=λx J H Q=>Mr (λl D=>x=.ref l) (λ_ _=>J=[]) (λl D=>H l=AA (.lst D)) (λl _=>Q .non (AR H l (.lst [])))
theorem aT:VQ X "list.clear" AAQ:=by intro U s E H x B v A Q I Y W h;lk;obtain⟨l,C,rfl,rfl,J,q⟩:=h;cases Y;k_in;have D:=W.adn;subst D;obtain⟨z,V,n,r,Z,e⟩:_:=I.yl J;show NS ACN ⟨_,e,rfl⟩ F.entry_list_clear (F.args_list_clear_1 _) (AutoSeq1.list_clear_list_0 l _ n (by rw[Gj];omega)) ⟨e,?_⟩;show⟨.non,_,I.aaq J e rfl .nil (Bm _),rfl,q⟩
def AAP:EC:=λx y H Q=>SN (λl b D J=>x=.ref l) (λ_ b _ _=>y=.ref b) (λl _ D _=>H l=AA (.lst D)) (λ_ b _ J=>H b=AA (.lst J)) (λ_ _ D J=>D.length+J.length<=As) (λ_ _ D J=>∀p,H p=AG->Q (.ref p) (AR H p (.lst (D++J))))
theorem Ff:CU X (G4 .Add) AAP:=by
 intro U s N H x y v u Q I B C h;lk;obtain⟨l,b,K,M,rfl,rfl,Z,Y,F,q⟩:=h;cases B;cases C;obtain⟨z,J,n,r,E,e⟩:=I.yl Z;obtain⟨L,D,G,r2,A,V⟩:=I.yl Y;k_in;show P.add_list e V ?_ (by simp_all);have W:J.toArray++D.toArray=(J++D).toArray:=by simp
 rw[W];show⟨.ref _,_,I.acz (r.kg r2) (by rw[Ba];omega),rfl,q _ I.ax⟩
noncomputable def BZ[DecidableEq J](kvs:List (J×AB))(k:J):Option AB:=(kvs.find? λD=>Ab (D.1=k)).map (·.2)
noncomputable def Bk[DecidableEq J](kvs:List (J×AB))(k:J)(v:AB):List (J×AB):=if(kvs.any λD=>Ab (D.1=k))=AJ then kvs.map (λD=>if D.1=k then(D.1,v)else D)else kvs++[(k,v)]
noncomputable def DK[DecidableEq D](kvs:List (D×AB))(k:D):List (D×AB):=kvs.filter λJ=>Ab (J.1≠k)
theorem Jq[DecidableEq D]{p:D×AB}(e:p.1=k):BZ (p::r) k=AA p.2:=by simp[BZ,TL,e]
theorem Jp[DecidableEq D]{p:D×AB}(e:¬p.1=k):BZ (p::r) k=BZ r k:=by simp[BZ,TL,e]
section
variable{κ:Type}[DecidableEq κ]
theorem OQ(k:κ):∀kvs:List (κ×AB),(kvs.any λD=>Ab (D.1=k))=(BZ kvs k).isSome
 |[]=>rfl|p::r=>by
  rw[WD];by_cases e:p.1=k;.simp only[Jq e,AHV e,Bool.true_or,Option.isSome_some]
  .rw[Jp e,AHW e];show OQ k r
end
section
variable{κ:Type}[DecidableEq κ]
theorem dG(k j:κ)(y:AB):∀kvs:List (κ×AB),BZ (kvs.map λD=>if D.1=k then(D.1,y)else D) j=(BZ kvs j).map λx=>if j=k then y else x
  |[]=>rfl|p::r=>by
    have J:=dG k j y r;rw[EI];by_cases h:p.1=k
    . rw[AHT h];by_cases e:p.1=j;.rw[Jq (p:=(p.1,y)) e,Jq e,eX,AHT (e.symm.trans h)]
      .rw[Jp (p:=(p.1,y)) e,Jp e,J]
    . rw[AHS h];by_cases e:p.1=j;.rw[Jq e,Jq e,eX,AHS (λz=>h (e.trans z))]
      .rw[Jp e,Jp e,J]
end
section
variable{κ:Type}[DecidableEq κ]
theorem dH(k j:κ)(y:AB):∀kvs:List (κ×AB),BZ kvs k=AG->BZ (kvs++[(k,y)]) j=if j=k then AA y else BZ kvs j
 |[],_=>by
  by_cases e:k=j;.rw[AHT e.symm];show Jq e
  .rw[AHS (λz=>e z.symm)];show Jp e|p::r,D=>by
  rw[Js];have J:¬p.1=k:=λz=>by rw[Jq z]at D;cases D
  rw[Jp J]at D;have U:=dH k j y r D;by_cases e:p.1=j;.rw[Jq e,Jq e,AHS (λz=>J (e.trans z))]
  .rw[Jp e,Jp e,U]
end
theorem Jr{U:Type}[DecidableEq U](kvs:List (U×AB))(k j:U)(y:AB):BZ (Bk kvs k y) j=if j=k then AA y else BZ kvs j:=by
  unfold Bk;by_cases a:(kvs.any λJ=>Ab (J.1=k))=AJ
  . rw[AHT a,dG];rw[OQ]at a;by_cases e:j=k
    . obtain⟨x,D⟩:=AES.mp a;rw[AHT e,e,D,eX,AHT rfl]
    . rw[AHS e];cases BZ _ j with|none=>rfl|some x=>rw[eX,AHS e]
  . rw[AHS a];show dH k j y _ ?_;rw[OQ]at a;cases q:BZ _ k with|none=>rfl|some x=>rw[q]at a;show(a rfl).elim
theorem Vp[DecidableEq D](kvs:List (D×AB))(k:D)(v:AB):(Bk kvs k v).length<=kvs.length+1:=by
 unfold Bk;split;.simp
 .rw[Ba,Ex];show Ai _
theorem bX{D:Type}[DecidableEq D]{kvs:List (D×AB)}{k:D}(v:AB)(h:BZ kvs k=AG):Bk kvs k v=kvs++[(k,v)]:=by unfold Bk;rw[OQ,h];show AHS (by decide)
theorem Kz.mv(r:Kz o u):o.isSome=u.isSome:=by cases o with
 |none=>cases u with |none=>rfl|some _=>show(show False from r).elim
 |some _=>cases u with |none=>show(show False from r).elim|some _=>rfl
theorem Kz.abo(r:Kz o u)(D:Bn d d'):Bn (o.getD d) (u.getD d'):=by cases o with
 |none=>cases u with |none=>show D|some _=>show(show False from r).elim
 |some _=>cases u with|none=>show(show False from r).elim|some _=>show r
theorem Gs.yt[DecidableEq W](r:Gs kvs vs)(k:W):Kz (BZ kvs k) (IE vs k):=by induction r with|nil=>show Ir|@cons p q A J h t Z=>
    obtain⟨U,Y⟩:=h;by_cases e:p.1=k
    . have D:=U.symm.trans e;have b:IE (q::J) k=AA q.2:=by simp[IE,TL,D]
      rw[Jq e,b];show Y
    . have D:¬q.1=k:=λz=>e (U.trans z);have b:IE (q::J) k=IE J k:=by simp[IE,TL,D]
      rw[Jp e,b];show Z
theorem Gs.abe[DecidableEq J](r:Gs kvs vs)(k:J):(kvs.any λD=>Ab (D.1=k))=vs.any λD=>Ab (D.1=k):=by induction r with|nil=>rfl|cons h t U=>rw[WD,WD,U,h.1]
theorem Gs.aav[DecidableEq U](r:Gs kvs vs)(k:U)(Z:Bn y u):Gs (kvs.map λD=>if D.1=k then(D.1,y)else D) (vs.map λD=>if D.1=k then(D.1,u)else D):=by induction r with|nil=>show .nil|@cons p q A B h t Y=>
 rw[EI,EI];show .cons ?_ Y;obtain⟨J,W⟩:=h;by_cases e:p.1=k;.rw[AHT e,AHT (J.symm.trans e)];show⟨J,Z⟩
 .rw[AHS e,AHS (λz=>e (J.trans z))];show⟨J,W⟩
theorem Gs.ja[DecidableEq J](r:Gs kvs vs)(k:J)(D:Bn y u):Gs (Bk kvs k y) (Tu vs k u):=by
 unfold Bk Tu;rw[r.abe k];by_cases e:(vs.any λU=>Ab (U.1=k))=AJ;.rw[AHT e,AHT e];show r.aav k D
 .rw[AHS e,AHS e];show AFL r ⟨rfl,D⟩
theorem Gs.ye[DecidableEq U](r:Gs kvs vs)(k:U):Gs (DK kvs k) (without vs k):=by unfold DK without;induction r with|nil=>show .nil|@cons p q Z A h t J=>
    obtain⟨D,Y⟩:=h;rw[F1,F1];by_cases e:p.1=k
    . have a:¬Ab (p.1≠k)=AJ:=by simp[e]
      have b:¬Ab (q.1≠k)=AJ:=by simp[D.symm.trans e]
      rw[AHS a,AHS b];show J
    . have W:¬q.1=k:=λz=>e (D.trans z);have a:Ab (p.1≠k)=AJ:=by simp[e]
      have b:Ab (q.1≠k)=AJ:=by simp[W]
      rw[AHT a,AHT b];show .cons ⟨D,Y⟩ J
theorem Gs.ai[DecidableEq D]{kvs:List (D×AB)}{vs:List (D×AK)}(r:Gs kvs vs):kvs.length=vs.length:=KZ r
theorem Z3[DecidableEq D](kvs:List (D×AB))(k:D):(DK kvs k).length<=kvs.length:=Fh _ _
theorem Mw(r:Bn (Az k) u):(FK P w).is k u=AJ:=by cases k with|inl i=>obtain⟨t,e⟩:=(show∃t,u=Tj i t from r);subst e;show zA P w i t|inr x=>obtain⟨t,e⟩:=(show∃t,u=Qn x t from r);subst e;show zB P w x t
theorem aE:∀{ks:List AL}{D:List AK},Bb (ks.map Az) D->ItemsAre (FK P w) ks D|[],_,r=>by cases r;show .nil|k::ks,_,r=>by cases r with|cons h t=>show .cons (Mw h) (aE t)
abbrev KA(H:AI):List (List AL×AB)->List (List AL×AE×AK)->Prop:=Bf λp q=>p.1=q.1/\H q.2.1=AA (.tup (p.1.map Az))/\Bn p.2 q.2.2
theorem KA.yt(r:KA H kvs xs)(k:List AL):Kz (BZ kvs k) ((Oj xs k).map (·.2)):=by induction r with |nil=>show Ir|@cons p q Z J h t Y=>
    obtain⟨U,_,W⟩:_:=h;by_cases e:p.1=k
    . have D:=U.symm.trans e;have b:Oj (q::J) k=AA q.2:=by simp[Oj,TL,D]
      rw[Jq e,b];show W
    . have D:¬q.1=k:=λz=>e (U.trans z);have b:Oj (q::J) k=Oj J k:=by simp[Oj,TL,D]
      rw[Jp e,b];show Y
theorem KA.aav(r:KA H kvs xs)(k:List AL)(Z:Bn y u):KA H (kvs.map λJ=>if J.1=k then(J.1,y)else J) (xs.map (putAt k u)):=by induction r with|nil=>show .nil|@cons p q A B h t Y=>
 rw[EI];show .cons ?_ Y;obtain⟨D,U,W⟩:_:=h;unfold putAt;by_cases e:p.1=k;.rw[AHT e,AHT (D.symm.trans e)];show⟨D,U,Z⟩
 .rw[AHS e,AHS (λz=>e (D.trans z))];show⟨D,U,W⟩
theorem KA.ja(r:KA H kvs xs)(k:List AL)(J:H b=AA (.tup (k.map Az)))(D:Bn y u):KA H (Bk kvs k y) (storedH xs k b u):=by
 have e:(kvs.any λU=>Ab (U.1=k))=(Oj xs k).isSome:=by rw[OQ,(r.yt k).mv,AET]
 unfold Bk storedH;rw[e];by_cases q:(Oj xs k).isSome=AJ;.rw[AHT q,AHT q];show r.aav k D
 .rw[AHS q,AHS q];show AFL r ⟨rfl,J,D⟩
theorem KA.abt(r:KA H kvs xs)(D:∀b ys,H b=AA (.tup ys)->H' b=AA (.tup ys)):KA H' kvs xs:=Zd r λ_ _ z=>⟨z.1,D _ _ z.2.1,z.2.2⟩
theorem cD(D:DE P w H h)(e:GK H a u):C8 P w H h a u:=e.ok D
theorem OA(D:DE P w H h)(e:GK H a (.dK kvs)):kvs.length<=As/\(a==Ka)=AQ/\∃vs,Gs kvs vs/\h.DictOf (FK P w) a vs:=show C8 P w H h a _ from cD D e
theorem P7(D:DE P w H h)(e:H a=AA (.dK kvs)):kvs.length<=As/\(a==Ka)=AQ/\∃vs,Gs kvs vs/\h.DictOf (FK P w) a vs:=OA D (.inl e)
theorem QC(W:DE P w H h)(e:H a=AA (.tup (ks.map Az))):(Ws (FK P w)).is h ks a:=by obtain⟨_,V,r,o,D,J,n,U⟩:_:=(show C8 P w H h a _ from W a _ e);show⟨o,_,n,D,J,U,by simpa using aE r⟩
theorem OB(W:DE P w H h)(e:GK H a (.dT kvs)):kvs.length<=As/\(a==Ka)=AQ/\∃xs,KA H kvs xs/\h.DictOfH (Ws (FK P w)) a xs:=by
 obtain⟨z,y,xs,r,o,Z,Y,A,B,C,E,F⟩:_:=(show C8 P w H h a _ from cD W e);show⟨z,y,xs,r,o,Z,Y,A,B,C,E,λx D=>?_,F⟩;have J:∀{l:List _}{m:List _},KA H l m->∀x∈m,(Ws (FK P w)).is h x.1 x.2.1:=by intro l m q;induction q with |nil=>intro x D;show nomatch D|@cons p q I K U t G=>
  intro x D;rcases BY.mp D with e|D
  . subst e;show QC W (by rw[<-U.1];show U.2.1)
  .show G x D
 show J r x D
theorem xV(D:DE P w H h)(e:H a=AA (.dT kvs)):kvs.length<=As/\(a==Ka)=AQ/\∃xs,KA H kvs xs/\h.DictOfH (Ws (FK P w)) a xs:=OB D (.inl e)
def Lc(H:AI)(a:AE)(y:AB)(r:Option AB):Prop:=(Eg (λD k=>GK H a (.dK D)) (λ_ k=>y=Az k) (λD k=>r=BZ D k))\/P1 (λD k b=>GK H a (.dT D)) (λ_ _ b=>y=.ref b) (λ_ k b=>H b=AA (.tup (k.map Az))) (λD k _=>r=BZ D k)
def VN(H:AI)(a:AE)(y v:AB)(H':AI):Prop:=(Mr (λD k=>H a=AA (.dK D)) (λ_ k=>y=Az k) (λD _=>D.length<As) (λD k=>H'=AR H a (.dK (Bk D k v))))\/P2 (λD k b=>H a=AA (.dT D)) (λ_ _ b=>y=.ref b) (λ_ k b=>H b=AA (.tup (k.map Az))) (λD _ _=>D.length<As) (λD k _=>H'=AR H a (.dT (Bk D k v)))
theorem JI(e:H a=AA (.dK kvs)):Lc H a (Az k) (BZ kvs k):=.inl ⟨kvs,k,.inl e,rfl,rfl⟩
theorem Nw(e:H a=AA (.dK kvs))(D:kvs.length<As):VN H a (Az k) v (AR H a (.dK (Bk kvs k v))):=.inl ⟨kvs,k,e,rfl,D,rfl⟩
theorem AY.adz(I:AY X D J H s):Ka<s.heap.objs.size:=by have h:=(I.uk.uv.keeps I.bk).lt;show NF (by decide) h
theorem xM(L:A.units+1<HW)(I:AY X V M H s)(g:Lc H a y (AA v))(C:Bn y u)(h:∀U s',AY X V M H s'->Bn v U->Q U s'):Aw (Av X.af X.w) A (Om (.ref a) u) Q E s:=by
 rcases g with⟨B,k,e,Y,l⟩|⟨B,k,b,e,Y,F,l⟩
 . subst Y;lk;obtain⟨z,G,N,D,W⟩:=OA I.bj e;obtain⟨U,hw,J⟩:=N3 (by rw[l];show D.yt k);k_in;show wpAny_getItem_of (Mw C) W.mapOf hw (h U _ (I.dw _) J)
 . subst Y;lk;cases(show u=DM b from C);obtain⟨z,G,O,D,W⟩:=OB I.bj e;obtain⟨U,hw,J⟩:=N3 (by rw[l];show D.yt k);obtain⟨p,K,Z⟩:=EK.mp hw;k_in;show wpAny_getItem_heap (gW L) (QC I.bj F) W K ?_;rw[Z];show h U _ (I.dw _) J
theorem xN(C:A.units+1<HW)(I:AY X J F H s)(g:Lc H a y o)(Z:Bn y u)(h:∀s',AY X J F H s'->Q (.bool o.isSome) s'):Aw (Av X.af X.w) A (Ek .In u (.ref a)) Q E s:=by
 rcases g with⟨Y,k,e,V,l⟩|⟨Y,k,b,e,V,B,l⟩
 . subst V;obtain⟨z,W,G,D,U⟩:_:=OA I.bj e;show wpAny_in_of (Mw Z) W U.mapOf ?_;rw[<-(D.yt k).mv,<-l];show h _ (I.dw _)
 . subst V;lk;cases(show u=DM b from Z);obtain⟨z,W,K,D,U⟩:=OB I.bj e;k_in;show wpAny_in_heap (gW C) (QC I.bj B) W U ?_;have q:=(D.yt k).mv;rw[AET]at q;rw[<-q,<-l];show h _ (I.dw _)
theorem SQ(I:AY X D A H s)(Z:Pq (H a))(Y:Ql a s.heap h')(W:∃q,h'.get? a=AA q)(J:C8 X.af X.w (AR H a U) h' a U):AY X D A (AR H a U) {s with heap:=h',toks:=t'}:=I.rj Z (.inl rfl) (λb q V z=>(Y.2 b V).trans z) W J
theorem Ve(z:kvs.length<=As)(U:(a==Ka)=AQ)(D:Gs kvs vs)(J:h'.DictOf (FK P w) a vs):C8 P w H' h' a (.dK kvs):=⟨z,U,vs,D,J⟩
theorem xP(j:A.units+1<HW)(I:AY X V p H s)(g:VN H a y v H')(O:Bn y u)(N:Bn v r)(h:∀s',AY X V p H' s'->Q () s'):Aw (Av X.af X.w) A (setItem (.ref a) u r) Q E s:=by
  rcases g with⟨U,k,e,B,l,Z⟩|⟨U,k,b,e,B,K,l,Z⟩
  . subst B Z;obtain⟨z,C,n,D,Y⟩:_:=P7 I.bj e;have m:n.length<=As:=by rw[<-D.ai];show z
    have F:=by have:=Vp U k v;show Ag this l
    show wpAny_setItem_pairs (Mw O) Y λM J G=>h _ ?_;have i:∃q,M.get? a=AA q:=let⟨q,_,_,W,_⟩:=J;⟨q,W⟩;show SQ I (by rw[e];show Ir) G i (Ve F C (D.ja k N) J)
  . subst B Z;lk;cases(show u=DM b from O);obtain⟨z,C,o,D,Y⟩:=xV I.bj e;k_in;have m:o.length<=As:=by rw[<-KZ D];show z
    have F:=by have:=Vp U k v;show Ag this l
    show wpAny_setItem_heap (gW j) (QC I.bj K) Y λM J G=>h _ ?_;obtain⟨q,R,P,W,S,T,d,_,f⟩:_:=J;show SQ I (by rw[e];show Ir) G ⟨q,W⟩ ⟨F,C,_,(D.ja k K N).abt λc t L=>?_,q,R,P,W,S,T,d,f⟩;rw[Aa (zF L e (λz=>nomatch z))];show L
theorem xO(I:AY X pins σ H s)(e:H a=AA (.dK kvs))(ry:Bn (Az k) u)(l:BZ kvs k=AA v)(hm:more=[]\/∃x,more=[x])(h:∀w' s',AY X pins σ (AR H a (.dK (DK kvs k))) s'->Bn v w'->Q w' s'):Aw (Av X.af X.w) A (Il (.builtin "dict.pop") (.ref a::u::more)) Q E s:=by
 lk;obtain⟨z,hd,vs,rel,dd⟩:=P7 I.bj e;obtain⟨w',hw,rw'⟩:=N3 (by rw[<-l];show rel.yt k);k_in;have hp:(keyPart u).isSome=AJ:=by cases k with |inl i=>obtain⟨t,q⟩:=(show∃t,u=Tj i t from ry);subst q;rfl|inr x=>obtain⟨t,q⟩:=(show∃t,u=Qn x t from ry);subst q;rfl
 have ha:argsOk "dict.pop" ⟨.ref a::u::more,[]⟩:=by
  rcases hm with q|⟨x,q⟩;.subst q;show F.args_dict_pop_2 _ _
  .subst q;show F.args_dict_pop_3 _ _ _
 show gQ AE7 dd.typeIs F.entry_dict_pop ha (meets_dict_pop_there _ a (Mw ry) _ hm hp) ⟨vs,w',dd,by rw[<-rel.ai];show z,hw,λh' dd' hs=>h w' _ ?_ rw'⟩;have he:∃q,h'.get? a=AA q:=let⟨q,_,_,hq,_⟩:=dd';⟨q,hq⟩;show SQ I (by rw[e];show Ir) hs he (Ve (Ag (Z3 _ k) z) hd (rel.ye k) dd')
def Zb(i:BR):Prop:=∀J D,gV i AQ J D=operate [J,D] (Om J D)
theorem AAo{id:String}(G:gX (.type T) "__getitem__"=Be (AA (.builtin id)))(H:Zb D)(h:Aw (Av prog w) A (BX J env) (λo W=>Aw (Av prog w) A (BX D env) (λi U=>U.TypeIs o T/\Aw (Av prog w) A (Om o i) Q E U) E W) E s):Aw (Av prog w) A (BX (.Subscript J D C) env) Q E s:=by
 show AB2 (IF h (λo W Z=>IF Z (λi U V=>?_) λ_ _ x=>x) λ_ _ x=>x);obtain⟨F,V⟩:=V;show Ay ?_;show Ay (AC0 F G ?_);have fin:Aw (Av prog w) A (gV D AQ o i) (λr Y=>Aw (Av prog w) A (letTemporaryGo J o r>>=λ_=>Be r) Q E Y) E U:=by rw[H o i];show wpAny_operating (IF V (λr Y B=>Ay (wpAny_letTemporaryGo (CN B))) λ_ _ x=>x)
 first |show CN (Ay fin)|show wpAny_bind _|show wpAny_bind _
theorem xQ(I:AY X D W H s)(g:Lc H a y o):s.TypeIs (.ref a) "dict":=by
 rcases g with⟨U,k,e,_,_⟩|⟨U,k,b,e,_,_,_⟩
 . obtain⟨_,_,Y,_,J⟩:_:=OA I.bj e;show J.typeIs
 . obtain⟨_,_,Z,_,J⟩:_:=OB I.bj e;show J.typeIs
def AAt(V W:BH):BH:=λJ H Q=>V J H λx U=>W J U λy D=>Eg (λa v=>x=.ref a) (λa v=>Lc D a y (AA v)) (λ_ v=>Q v D)
def AAv(W V:BH):BH:=λJ H Q=>W J H λy U=>V J U λx D=>Eg (λa o=>x=.ref a) (λa o=>Lc D a y o) (λ_ o=>Q (.bl o.isSome) D)
def AAb(Z B A:BH):C0:=λD U H=>A U H λv V=>Z U V λx W=>B U W λy Y=>Eg (λa J=>x=.ref a) (λa J=>VN Y a y v J) (λ_ J=>D.nx U J)
theorem Jl(hu:X.A.units+1<HW)(ho:Ar X o td)(hi:Ar X i ty)(hs:Zb i):Ar X (.Subscript o i pos) (AAt td ty):=by intro pins s σ H Q I h;show AAo F.slot_dict_getitem.lookup hs (BI (ho _ s σ H _ I h) λu s1 hh11=>?_);obtain⟨x,H1,I1,rx,q1⟩:_:=hh11;show BI (hi _ s1 σ H1 _ I1 q1) λiv s2 hh21=>?_;obtain⟨y,H2,I2,ry,a,v,ex,g,q2⟩:_:=hh21;subst ex;obtain rfl:u=DM a:=rx;show⟨xQ I2 g,xM hu I2 g ry λw' s3 I3 rw'=>⟨v,H2,I3,rw',q2⟩⟩
theorem bI(C:X.A.units+1<HW)(hi:Ar X i N)(B:Ar X o M):Zc X .In i o (AAv N M):=by intro D s J H Q I h;show BI (hi D s J H _ I h) λO s1⟨y,U,W,L,F⟩=>BI (B D s1 J U _ W F) λu s2⟨x,V,Y,K,a,E,A,g,G⟩=>?_;subst A;obtain rfl:u=DM a:=K;show xN C Y g L λs3 Z=>⟨.bl E.isSome,V,Z,rfl,G⟩
theorem M5(N:X.A.units+1<HW)(L:Ar X o c)(hi:Ar X i e)(O:Ar X J d)(M:Ot J (AA (.Subscript o i U)) W.line X.ae=Be AQ):EW X (.Assign [.Subscript o i U] J W) (AAb c e d):=by intro Y s V H D I h;show wpAny_Assign_Subscript (BI (O _ s V H _ I h) λr s1⟨v,Z,C,S,P⟩=>BI (L _ s1 V Z _ C P) λu s2⟨x,A,E,T,Q⟩=>BI (hi _ s2 V A _ E Q) λj s3⟨y,f,F,b,a,B,K,g,R⟩=>?_) M;subst K;obtain rfl:u=DM a:=T;show xP N F g b S λs4 G=>⟨V,B,G,R⟩
theorem xR(h:BW)(D:Ka<h.objs.size):C8 P w H (h.push {cls:=.type "dict",data:=.dict #[]}) h.objs.size (.dK []):=⟨Bm _,AHf.mpr (Gk (Dv D)),[],.nil,AG3 h⟩
def AAw:BH:=λ_ H Q=>∀p,H p=AG->Q (.ref p) (AR H p (.dK []))
theorem QL:Ar X (.Dict [] [] J) AAw:=λD s U H Q I h=>wpAny_Dict_empty ⟨.ref _,_,I.jb (λ_ _ q=>Ca _ q) (Ai _) (xR _ I.adz),rfl,h _ (I.bj.ax (Ai _))⟩
structure wH(X:Bv)(o:BR)(m:AF)(apos:C6)(e:BR)(cpos:C6):Prop where
 ag:Jy o m X.ae (BX o X.ae)=BX o X.ae
 yq:((GR cpos (Cj [e] X.ae)).all (λx=>!x.1)&&(Qp cpos (Qv [] X.ae)).all (λx=>x.1.isSome)&&Ab (([e]:List BR).length+([]:List MH).length+(if([]:List MH).isEmpty then 0 else 1)<30))=AJ
 aab:(apos.endLine==cpos.line)=AJ
 yc:GR cpos (Cj [e] X.ae)=[(AQ,BX e X.ae)]
structure ZZ(X:Bv)(o:BR)(m:AF)(apos:C6)(e f:BR)(cpos:C6):Prop where
 ag:Jy o m X.ae (BX o X.ae)=BX o X.ae
 yq:((GR cpos (Cj [e,f] X.ae)).all (λx=>!x.1)&&(Qp cpos (Qv [] X.ae)).all (λx=>x.1.isSome)&&Ab (([e,f]:List BR).length+([]:List MH).length+(if([]:List MH).isEmpty then 0 else 1)<30))=AJ
 aab:(apos.endLine==cpos.line)=AJ
 yc:GR cpos (Cj [e,f] X.ae)=[(AQ,BX e X.ae),(AQ,BX f X.ae)]
def Mn(H:AI)(a:AE):Prop:=(∃D,GK H a (.dK D))\/∃D,GK H a (.dT D)
theorem Vk(I:AY X U A H s)(d:Mn H a):s.TypeIs (.ref a) "dict"/\(∀b,DM a=.ref b->∃D,s.heap.get? b=AA D/\D.dict=AG)/\(a==Ka)=AQ:=by
 rcases d with⟨Z,e⟩|⟨Z,e⟩
 . obtain⟨_,Y,B,_,J⟩:_:=OA I.bj e;show⟨J.typeIs,λb q=>?_,Y⟩;lk;cases q;obtain⟨D,_,_,V,W,_⟩:=J;k_in;show⟨D,V,W.2.1⟩
 . obtain⟨_,Y,C,_,J⟩:_:=OB I.bj e;show⟨J.typeIs,λb q=>?_,Y⟩;lk;cases q;obtain⟨D,_,_,V,W,_⟩:=J;k_in;show⟨D,V,W.2.1⟩
theorem xK(G:A.units+1<HW)(I:AY X U L H s)(g:Lc H a y o)(B:Bn y u)(Z:Bn d r)(h:∀C s',AY X U L H s'->Bn (o.getD d) C->Q C s'):Aw (Av X.af X.w) A (Il (.builtin "dict.get") [.ref a,u,r]) Q E s:=by
 rcases g with⟨Y,k,e,V,l⟩|⟨Y,k,b,e,V,F,l⟩
 . subst V;obtain⟨z,W,M,D,J⟩:_:=OA I.bj e;show gQ ACK J.typeIs AEz (AEw _ _ _) (meets_dict_get_default _ a (Mw B) W r) ⟨_,J.mapOf,h _ _ (I.dw _) ?_⟩;rw[l];show(D.yt k).abo Z
 . subst V;lk;cases(show u=DM b from B);obtain⟨z,W,K,D,J⟩:=OB I.bj e;k_in;show gQ ACK J.typeIs AEz (AEw _ _ _) (meetsH_dict_get_default _ a b W r) ⟨gW G,k,K,QC I.bj F,J,h _ _ (I.dw _) ?_⟩;rw[l];show(D.yt k).abo Z
def AAu(W Z Y:BH):BH:=λD H Q=>W D H λx J=>Lh (λa=>x=.ref a) (λa=>Mn J a) (λa=>Z D J λy V=>Y D V λz U=>Gf (λo=>Lc U a y o) (λo=>Q (o.getD z) U))
def AAx(W Y:BH):BH:=λV H Q=>W V H λx J=>Lh (λa=>x=.ref a) (λa=>Mn J a) (λa=>Y V J λy U=>P1 (λD k v=>U a=AA (.dK D)) (λ_ k _=>y=Az k) (λD k v=>BZ D k=AA v) (λD k v=>Q v (AR U a (.dK (DK D k)))))
theorem Vw(R:X.A.units+1<HW)(P:Ar X o k)(N:Ar X e n)(O:Ar X f l)(m:ZZ X o "get" D e f J):Ar X (.Call (.Attribute o "get" D) [e,f] [] J) (AAu k n l):=by intro B s Z H Q I h;show Wt m.ag m.yq m.aab Wi ACK F.type_dict_get (BI (P _ s Z H _ I h) λu s1 U=>?_);obtain⟨x,C,A,c,a,M,d,S⟩:_:=U;subst M;lk;obtain rfl:u=DM a:=c;obtain⟨t1,t2,_⟩:=Vk A d;k_in;show⟨t1,t2,?_⟩;rw[m.yc];show Wh rfl (fT (NM (BI (N _ s1 Z C _ A S) λq s2 V=>?_)));obtain⟨y,E,G,i,T⟩:_:=V;show NM (BI (O _ s2 Z E _ G T) λp s3 W=>?_);obtain⟨z,F,K,j,r,g,b⟩:_:=W;show Qi ?_;show xK R K g i j λt s4 L Y=>⟨_,F,L,Y,b⟩
theorem bN(M:Ar X o T)(L:Ar X e b)(m:wH X o "pop" D e J):Ar X (.Call (.Attribute o "pop" D) [e] [] J) (AAx T b):=by intro Z s A H Q I h;show Wt m.ag m.yq m.aab Wi AE7 F.type_dict_pop (BI (M _ s A H _ I h) λu s1 U=>?_);obtain⟨x,B,Y,R,a,G,d,O⟩:_:=U;subst G;lk;obtain rfl:u=DM a:=R;obtain⟨t1,t2,_⟩:=Vk Y d;k_in;show⟨t1,t2,?_⟩;rw[m.yc];show Wh rfl (fT (NM (BI (L _ s1 A B _ Y O) λf s2 V=>?_)));obtain⟨y,c,C,S,N,k,v,F,K,l,P⟩:_:=V;show Qi ?_;subst K;show xO C F S l (.inl rfl) λg s3 E W=>⟨v,_,E,W,P⟩
theorem iS:∀(ns:List Int)(vs:List AK),W.WellAll P h vs (ns.map AFd)->Td vs ns:=by intro ns;induction ns with|nil=>intro vs w;cases w;show .nil|cons n ns D=>intro vs w;cases w with|cons a b=>cases a;show .cons _ _ (D _ b)
theorem iU{l:Tn}(H:l.most=AA n)(J:l.row.toRowW.claim.pre D=AJ)(A:W.WellAll P h U D):∃a vs ns,U=[DM a]/\D=[W.WData.list (ns.map AFd)]/\h.get? a=AA {cls:=.type "list",data:=.seq vs.toArray}/\Td vs ns/\ns.length<=n:=by
 have Z:=(W.pre_splitW J).1;have G:l.pre.holds [] _=AJ:=(W.pre_splitW J).2;lk;obtain⟨d,r,rfl,C,E⟩:=W.hasAllW_cons Z;obtain rfl:=W.hasAllW_nil E;obtain⟨M,rfl,F⟩:=W.hasW_list C;obtain⟨ns,rfl⟩:=W.items_int F;k_in;have W:=by
  have Y:=by have Y:=(W.holds_andW G).1;rw[H]at Y;show Y
  have B:=W.condW_of Y (W.w_not (W.w_lt W.w_lit (W.w_len_list (W.w_arg rfl))));first |(show absurd B _)|(simp at B;omega)
 cases A with|cons K L=>cases L;cases K with|list I V=>show⟨_,_,ns,rfl,rfl,I,iS ns _ V,W⟩
theorem iT(l:Tn)(D:List W.WData):l.row.toRowW.claim.post D (.bool AJ) D=AJ:=W.postW_of (by first|rfl|decide|simp) (show(W.WTm.eq _ _).value [] _=AA _ from W.w_eq_bool (W.w_res rfl) W.w_lit) rfl
theorem iR{l:Tn}{d:DefRec}(hn:l.most=AA n)(hdf:d.params.defaults=[])(call:∀(w:B0)(s₀ s₁:AX)(mg mb:AF->Option AK)(fa:AE)(o:BP)(pm cd doc:AK)(a:AE)(vs:List AK)(ns:List Int),W.Ground q loose [] XP w s₀ mg mb s₁.heap->YP w s₁.heap->s₁.heap.get? fa=AA o->o.data=.func (Calls.docDef d.name d.params d.body d.scope pm cd doc)->s₁.heap.CodeRec cd d.name->mg d.name=AA (.ref fa)->s₁.heap.get? a=AA {cls:=.type "list",data:=.seq vs.toArray}->Td vs ns->ns.length<=n->s₁.gens=#[]->NT (Av l.prog w) Qu (.call (.ref fa) ⟨[.ref a],[]⟩) (λr s'=>r=.ok (.ret (.bool AJ))/\OldK s₁.heap s'.heap/\s'.os=s₁.os/\NI s'.gens) s₁):ACY q loose XP YP l.row.toRowW d [] (λf vs=>Il f vs):=by intro w s₀ s₁ mg mb G Y fa o pm cd doc dV kV ho hd hcd hD hmg hg args vals as hpre hlay hrd hwl hlo;lk;obtain rfl:dV=.none:=W.Dflts.none hD hdf;obtain rfl:kV=.none:=W.Dflts.noKw hD;obtain⟨a,vs,ns,rfl,rfl,hobj,hints,hlen⟩:=iU hn hpre hwl;k_in;show W.enter_call (Ts (call w _ _ mg mb fa o pm cd _ a vs ns G Y ho (W.fd_plain hd) hcd hmg hobj hints hlen hg) λr s' hq=>?_);obtain⟨rfl,h2,h3,h4⟩:_:=hq;show⟨.inl ⟨_,_,[],rfl,λ_=>rfl,.bool _,iT l _,λ_=>⟨AGR,λ_ hm=>(nomatch hm)⟩⟩,h2,h3,h4⟩
theorem ABQ(h:Td vs ns):Bb (ns.map AB.int) vs:=by induction h with|nil=>show .nil|cons n t _ D=>show .cons ⟨t,rfl⟩ D
def Pt(H:AI):Prop:=∀b,H b=AG\/∃o D,H b=AA (.frz o (.lst D))
set_option tactic.hygienic true in theorem y3{P:CS}{w:B0}{K:BB}{mg c:AF->Option AK}{CX:Ho}{k:Nat}{Q a:AE}{fd:Ik}{x:AF}{sp:BF}{D:AX}{vs:List AK}{ns:List Int}(g:K.In D.heap)(E:D.heap.Ns LN mg)(U:D.heap.Ns ACl c)(S:∀x:AF,x≠"__name__"->c x=Qt x)(C:D.heap.NoLimit)(hg:D.gens=#[])(N:D.heap.get? a=AA {cls:=.type "list",data:=.seq vs.toArray})(hi:Td vs ns)(p:ns.length<=As)(hr:Dq k Qu)(F:∀base:BW,K.In base->base.Ns LN mg->Gr P w K mg base CX k Q fd [x] sp)(Z:∀(s:AX)(u:AK),Tg s fd ⟨[u],[]⟩ [(x,u)])(X:∀H:AI,Pt H->CO K H a (ns.map AB.int)->sp [.ref a] H (λv _=>v=.bl AJ) λ_ _ _=>False)(R:∀H e s',CX [] H D (λ_ _ _=>False) e s'->False):NT (Av P w) Qu (.call (.ref Q) ⟨[.ref a],[]⟩) (λr s'=>r=.ok (.ret (.bool AJ))/\OldK D.heap s'.heap/\s'.os=D.os/\NI s'.gens) D:=by
  have t:=ABQ hi;have L:=hi.length;have Y:∀H:AI,Pt H->CO K H a (ns.map AB.int)->DE P w H D.heap->(∀b,H b≠AG->b=a)->(H a≠AG->K.lookup a=AG)->NT (Av P w) Qu (.call (.ref Q) ⟨[.ref a],[]⟩) (λr s'=>r=.ok (.ret (.bool AJ))/\OldK D.heap s'.heap/\s'.os=D.os/\NI s'.gens) D:=by
    intro H l hS G j hK;have J:∀{b:AE}{o:BP},D.heap.get? b=AA o->H b=AG->(OC _ H).get? b=AA o:=λe n=>yG e n;have f:∀{b:AE}{o:BP}{es:Array _}{ep:Nat},D.heap.get? b=AA o->o.data=.dict es ep->H b=AG:=λ{b o es ep}e d=>by cases q:H b with |none=>rfl|some u=> have O:=j b (by rw[q];simp);subst O;rw[N]at e;cases e;have d':=d;cases d'
    have W:∀{b:AE}{m:AF->Option _},D.heap.Ns b m->(OC _ H).Ns b m:=λ{b m}⟨o,es,ep,e,d,r⟩=>⟨o,es,ep,J e (f e d),d,r⟩;have B:=λb o e=>J (g b o e) (by cases q:H b with|none=>rfl|some u=>have O:=j b (by rw[q];simp);subst O;rw[hK (by rw[q];simp)]at e;cases e);have hM:R9 K mg _:=⟨B,W E,⟨c,W U,S⟩,let⟨mc,h1,h2⟩:=C;⟨mc,W h1,h2⟩⟩;have e0:Ld P w K mg _ Qu [] _ H:=⟨rfl,hM,λb o e=>zI e,Bq (yH _ _),trivial,λb U=>absurd (show b∈([])from U) (by simp),G,.of_eq hg⟩;show Ts ((F _ B (W E)).acd _ [] _ H _ [.ref a] [.ref a] _ _ hr e0 (Z _ _) (.cons rfl .nil) (X H l hS)) λr s' h=>?_;cases r with |error e=>show(R H e s' h).elim|ok fl=>cases fl with |next=>show HY h|brk=>show HY h|cont=>show HY h|ret u=> obtain⟨v,H',os,A,y,I,r',q⟩:=h;have q':=q;subst q';obtain rfl:u=Qm _:=r';show⟨rfl,OldK.of_keep λb o e=>?_,os,A⟩;cases q:H b with |none=>show y.ab b o e q (by intro z;show absurd (show b∈([])from z) (by simp)) (by simp)|some u=>
          rcases l b with z|⟨ob,xs,z⟩;.rw[q]at z;cases z
          . have z2:=y.qz b ob _ z;obtain⟨i,_⟩:=G b _ z;obtain⟨e2,_⟩:=I b _ z2;rw[e]at i;cases i;show e2
  cases T:K.lookup a with |some o=>have e:=g a o T;rw[N]at e;cases e;show Y _ (λ_=>.inl rfl) (.inr ⟨_,_,_,T,rfl,rfl,rfl,by rw[Gj,L];show p,by simpa using t⟩) (λb u z=>by have M:=z;cases M) (λb z=>absurd rfl z) λz=>absurd rfl z|none=>
    show Y (λb=>if b=a then AA _ else AG) (λb=>?_) (.inl (.inr ⟨{cls:=.type "list",data:=.seq vs.toArray},AHT rfl⟩)) (λb u z=>?_) (λb z=>?_) λ_=>T
    . by_cases U:b=a;.show .inr ⟨_,_,AHT U⟩
      .show .inl (AHS U)
    . by_cases U:b=a;. have M:=(AHT U).symm.trans z;cases M;subst U;show⟨N,by rw[Au];show p,vs,_,t,N⟩
      . have M:=(AHS U).symm.trans z;cases M
    . by_cases U:b=a;.show U
      .show absurd (AHS U) z
theorem ABR{l:Tn}{O:B0->BW->Prop}{d:DefRec}{K:fZ->BB}{CX:B0->Ho}{sp:B0->BF}(m:l.most=AA n)(L:n<=As)(E:d.params.defaults=[])(p:Dq k Qu)(c:∀(w:B0)(h:BW),O w h->(K w.params).In h)(F:∀(w:B0)(W:AF->Option AK)(A:AE)(h:BW),(K w.params).In h->h.Ns LN W->W d.name=AA (.ref A)->∃B:Ik,(∀(s:AX)(u:AK),Tg s B ⟨[u],[]⟩ [(x,u)])/\∀base:BW,(K w.params).In base->base.Ns LN W->Gr l.prog w (K w.params) W base (CX w) k A B [x] (sp w))(M:∀(w:B0)(H:AI)(a:AE)(ns:List Int),ns.length<=n->Pt H->CO (K w.params) H a (ns.map AB.int)->sp w [.ref a] H (λv _=>v=.bl AJ) λ_ _ _=>False)(C:∀(w:B0)(H:AI)(s:AX)(e:AK)(s':AX),CX w [] H s (λ_ _ _=>False) e s'->False):ACY q U R O l.row.toRowW d [] (λf vs=>Il f vs):=by show iR m E λw P Q W z A o pm r S a vs ns G Y y t i I Z J D j=>?_;have N:=c w _ Y;obtain⟨B,g,T⟩:_:=F w W A _ N G.T.g I;show y3 N G.T.g G.T.b G.T.builtins G.T.nolimit j Z J (Ag D L) p T g (λH X b=>M w H a ns D X b) λH e s'=>C w H _ e s'
theorem ABS{l:Tn}{A:B0->BW->Prop}{d:DefRec}{K:fZ->BB}{CX:Ho}{sp:BB->BF}(N:l.most=AA n)(Y:n<=As)(W:d.params.defaults=[])(O:Dq k Qu)(M:∀(w:B0)(h:BW),A w h->(K w.params).In h)(F:∀(w:B0)(J:AF->Option AK)(B:AE)(h:BW),(K w.params).In h->h.Ns LN J->J d.name=AA (.ref B)->∃C:Ik,(∀(s:AX)(u:AK),Tg s C ⟨[u],[]⟩ [(x,u)])/\∀base:BW,(K w.params).In base->base.Ns LN J->Gr l.prog w (K w.params) J base CX k B C [x] (sp (K w.params)))(Z:∀(K:BB)(H:AI)(a:AE)(ns:List Int),ns.length<=n->Pt H->CO K H a (ns.map AB.int)->sp K [.ref a] H (λv _=>v=.bl AJ) λ_ _ _=>False)(U:∀(H:AI)(s:AX)(e:AK)(s':AX),CX [] H s (λ_ _ _=>False) e s'->False):ACY q D E A l.row.toRowW d [] (λf vs=>Il f vs):=ABR N Y W O M F (λw H a ns G I L=>Z _ H a ns G I L) λ_ H s e s'=>U H s e s'
noncomputable def Fv(s:Cc)(j:Nat):Cc:=match s with|.ClassDef _ _ _ body _ _ _ _ _ _ _=>body.getD j (.Pass ⟨0,0,0,0⟩)|_=>.Pass ⟨0,0,0,0⟩
noncomputable def N9(s:Cc):Arguments:=match s with|.FunctionDef _ a _ _ _ _ _ _ _ _=>a|_=>{posonlyargs:=[],args:=[],vararg:=AG,kwonlyargs:=[],kw_defaults:=[],kwarg:=AG,defaults:=[]}
noncomputable def Li(s:Cc):List Cc:=match s with|.FunctionDef _ _ b _ _ _ _ _ _ _=>b|_=>[]
noncomputable def Cy(s:Cc):Fi:=match s with|.FunctionDef _ _ _ _ _ _ D _ _ _=>D|_=>{kind:=.function,names:=[],isGenerator:=AQ,isCoroutine:=AQ}
abbrev BE:Ho:=λ_ _ _ _ _ _=>False
abbrev Ml:Fb:=λ_ _ _=>False
theorem KJ:Pw BE X Ml:=λ_ _ _ _ _ _ _ h=>h.elim
structure Pp(K:BB)(x qual:AF)(st:Cc)(f:AE)(fd:Ik):Prop where
 ex:∃(oc:AK)(od:Option AE)(kV doc pm:AK)(an:Option AE)(cdv ct:AK)(osl:Array (Option AK)),fd=Oi x qual (N9 st) (Li st) (Cy st) .none kV doc pm an cdv ct/\K.lookup f=AA ⟨oc,od,.func fd,osl⟩/\gG K cdv qual=AJ
 kp:Tq K (.ref f)=AJ
theorem Pp.ok{K:BB}{st:Cc}(F:Pp K x J st f G)(S:Mm N C (Cy st))(B:∀vs H Q E,sp vs H Q E->vs.length=C.length)(W:∀(U:AK)(A:DB)(D:List EL)(s:AX)(H:AI)(vs:List AB)(Q:BS)(E:Fb),Dq k (A.deeper (MD J (Cy st) s.heap.objs.size f U))->sp vs H Q E->∃t,Gu (Mt BE P w K O base N J (Cy st) f U A D s H E).aby (Li st) t/\t {nx:=λ_ H'=>Q .non H',rt:=Q} (M7 N vs) H):Gr P w K O base BE (k+1) f G C sp:=by lk;obtain⟨b,c,a,I,d,T,U,X,R,rfl,M,Y⟩:=F.ex;k_in;refine xY M Y S B λA D s H vs Q E L Z=>?_;lk;obtain⟨t,h,q⟩:=W _ A _ s H vs Q E L Z;k_in;exact⟨t,h.aby,q⟩
theorem Pp.abf{K:BB}{st:Cc}(F:Pp K x D st f C)(h:∀(Y U Z:AK)(V:Option AE)(J W:AK)(B:List AK),B.length=A.length->ACk (Oi x D (N9 st) (Li st) (Cy st) .none Y U Z V J W) ⟨B,[]⟩=Be (A.zip B)):Lb K C A []:=by lk;obtain⟨I,L,Y,U,Z,V,J,W,G,rfl,H,E⟩:=F.ex;k_in;exact .nj (h Y _ Z V _ W)
theorem Vh{K:BB}{st:Cc}(l:K.lookup f=AA ⟨B,C,.func (Oi x D (N9 st) (Li st) (Cy st) .none Z U A W J Y),V⟩)(c:gG K J D=AJ)(k:Tq K (.ref f)=AJ):Pp K x D st f (Oi x D (N9 st) (Li st) (Cy st) .none Z U A W J Y):=⟨⟨B,C,Z,U,A,W,J,Y,V,rfl,l,c⟩,k⟩
theorem Bd(i:Nat){x:AF}(U:X.N[i]?=AA x:=by rfl)(W:P0 X.ae.scope x:=by first|exact Or.inl rfl|exact Or.inr (Or.inl rfl)|exact Or.inr (Or.inr rfl))(V:(x==("__debug__":AF))=AQ:=by decide)(D:(x==("__classdict__":AF))=AQ:=by decide):Ar X (.Name x J) (cZ i):=So U W V D
theorem HM{A B:Prop}(h:B):if AQ=AJ then A else B:=by exact h
theorem GL{A B:Prop}(h:A):if AJ=AJ then A else B:=by exact h
def Aj(H H':AI):Prop:=∀b o,H b=AA o->H' b=AA o
theorem DF(H:AI):Aj H H:=λ_ _ h=>h
theorem Aj.aa(a:Aj H D)(b:Aj D J):Aj H J:=λc o h=>b c o (a c o h)
theorem Aj.az(e:Aj H H')(h:H' l=AG):H l=AG:=by cases q:H l with|none=>rfl|some o=>rw[e l o q]at h;cases h
theorem Aj.aal{K:BB}(e:Aj H H')(h:CO K H a xs):CO K H' a xs:=by
 rcases h with(h|⟨o,h⟩)|h;.exact .inl (.inl (e _ _ h))
 .exact .inl (.inr ⟨o,e _ _ h⟩)
 .exact .inr h
theorem V8{U:Type}[DecidableEq U]{kvs:List (U×AB)}{k:U}(h:BZ kvs k=AG):¬k∈kvs.map (·.1):=by intro m;lk;obtain⟨p,D,e⟩:=Ax.mp m;k_in;have q:(kvs.any λJ=>Ab (J.1=k))=AJ:=WE.mpr ⟨p,D,AHV e⟩;rw[OQ,h]at q;exact absurd q (by simp)
section
variable{κ:Type}[DecidableEq κ]
theorem aW:∀{l:List κ}{k:κ},l.Nodup->¬k∈l->(l++[k]).Nodup
 |[],k,_,_=>by simp|a::r,k,h,D=>by
  obtain⟨h1,h2⟩:=Ie.mp h;refine Ie.mpr ⟨λm=>?_,aW h2 λm=>D (BY.mpr (Or.inr m))⟩;rcases C1.mp m with q|q;.exact h1 q
  .exact D (BY.mpr (FN (Bc.mp q).symm))
end
theorem xU[DecidableEq D]{p:D×AB}(e:p.1=k):DK (p::r) k=DK r k:=by unfold DK;rw[F1,AHS (by simp[e])]
theorem xT[DecidableEq D]{p:D×AB}(e:¬p.1=k):DK (p::r) k=p::DK r k:=by unfold DK;rw[F1,AHT (by simp[e])]
theorem xS{D:Type}[DecidableEq D]{kvs:List (D×AB)}{k:D}{p:D×AB}(h:p∈DK kvs k):p∈kvs:=(EJ.mp h).1
section
variable{κ:Type}[DecidableEq κ]
theorem Vr:∀{kvs:List (κ×AB)}{k:κ},(kvs.map (·.1)).Nodup->((DK kvs k).map (·.1)).Nodup
 |[],_,_=>List.nodup_nil|p::r,k,h=>by
  obtain⟨h1,h2⟩:=Ie.mp h;by_cases e:p.1=k;. rw[xU e];exact Vr h2
  . rw[xT e];refine Ie.mpr ⟨λm=>h1 ?_,Vr h2⟩;lk;obtain⟨q,J,D⟩:=Ax.mp m;k_in;exact Ax.mpr ⟨q,xS J,D⟩
end
theorem DE.zr(x:DE P w H h)(V:H a=AG)(J:C8 P w (AR H a o) h a o):DE P w (AR H a o) h:=by
  intro b u e;by_cases D:b=a
  . subst D;rw[Ak]at e;simp_all
  . rw[Aa D]at e;refine(x b u e).uy (λW u2 u3 U=>U) (λc q=>?_) λc Y q=>?_;.rw[Aa (by grind)];exact q
    .rw[Aa (by grind)];exact q
noncomputable def K4(env:EL)(D:List (AF×AE))(x:AF×MI):List (AF×AE):=if x.2=.free then(x.1,(env.cells.lookup x.1).getD 0)::D else D
noncomputable def N8(env:EL)(D:List (AF×MI)):List (AF×AE):=D.foldl (K4 env) []
theorem Z7{f:U->J->DW (ForInStep J)}{g:J->U->J}:∀(l:List U)(D:J),(∀x∈l,∀c,f x c=Be (.yield (g c x)))->IH l D f=Be (l.foldl g D)|[],D,_=>rfl|x::l,D,h=>by rw[List.forIn_cons,h x Ci _];show IH l _ f=_;rw[Z7 l _ λy V=>h y (G0 V)];rfl
theorem xC(h:∀y∈D.names,y.2=.free->∃c,env.cells.lookup y.1=AA c):ACn D env=Be (N8 env D.names):=by
  simp only[ACn];rw[Z7 (g:=K4 env) _ [] λx Z c=>by
    obtain⟨n,J⟩:=x;by_cases V:J=.free
    . subst V;obtain⟨a,W⟩:=h _ Z rfl;have U:=W;simp only[beq_self_eq_true,AHb,K4,cellOf,U,Option.getD_some];rfl
    . have Y:(J==NP)=AQ:=by(simpa using V)
      simp only[Y,LP,AHa,K4,V]];rfl
theorem Zv:∀(D:List (AF×MI))(J:List (AF×AE)),(D.foldl (K4 env) J).lookup y=AA c->J.lookup y=AA c\/((y,NP)∈D/\(env.cells.lookup y).getD 0=c)
 |[],J,h=>.inl h|(n,k)::r,J,h=>by
  rcases Zv r _ h with q|⟨q,z⟩
  . unfold K4 at q;grind
  simp_all
theorem Vb:∀(D:List (AF×MI))(J:List (AF×AE)),((y,NP)∈D\/∃c,J.lookup y=AA c)->∃c,(D.foldl (K4 env) J).lookup y=AA c
  |[],J,h=>by simp_all|(n,k)::r,J,h=>by
    refine Vb r _ ?_;by_cases U:(y,NP)∈r;.exact FN U
    . refine .inr ?_;rcases h with h|⟨c,h⟩
      . rcases BY.mp h with e|e;. cases e;exact⟨_,by unfold K4;rw[AHT rfl,List.lookup_cons_self]⟩
        exact absurd e U
      . unfold K4;grind
theorem xE(I:Nat->AX->Prop)(turn:∀n s,I n s->Aw (Av prog w) A (ML it) (λr J=>match r with|AG=>R (.ok .next) J|AA v=>Aw (Av prog w) A (ACr D it v) (λ_ U=>Aw (Av prog w) A (assign D env v) (λ_ Z=>Aw (Av prog w) A (IH N AJ λc r=>if r=AJ then do let P<-Wq c env (BX c env);Be (UA P)else Be (UA r)) (λP V=>if P=AJ then Aw (Av prog w) A (BX H env) (λx B=>Aw (Av prog w) A (Il (.builtin "list.append") [G,x]) (λ_ C=>∃m,m<n/\I m C) (λ_ _=>False) B) (λ_ _=>False) V else∃m,m<n/\I m V) (λ_ _=>False) Z) (λ_ _=>False) U) (λ_ _=>False) J) (λ_ _=>False) s)(n:Nat)(h:I n s):NT (Av prog w) A (.compLoop (.ListComp H [⟨D,O,N,0⟩] F Q) 0 it G env) R s:=by refine codeAny_loop rfl I (λn s T=>?_) n h;refine wpAny_noted ?_;refine Ay (AC1 (Ay (IF (turn n s T) (λr J W=>?_) λ_ _ S=>S.elim)));cases r with|none=>exact CN W|some v=>refine Ay (IF W (λ_ U E=>?_) (by simp));refine Ay (IF E (λ_ Z K=>Ay (IF K (λP V Y=>?_) (by simp))) (by simp));cases P with|false=>exact CN ⟨rfl,Y⟩|true=>exact Ay (Ay (IF Y (λx B L=>Ay (IF L (λ_ C M=>CN (CN ⟨rfl,M⟩)) (by simp))) (by simp)))
def Ky(X:Bv)(J:List BR)(t:DG):Prop:=∀(D:List (AE×BP))(s:AX)(U:Ap)(H:AI)(Q:Bool->AI->Prop),AY X D U H s->t U H Q->Aw (Av X.af X.w) X.A (IH J AJ λc r=>if r=AJ then do let V<-Wq c X.ae (BX c X.ae);Be (UA V)else Be (UA r)) (VU X D U Q) X.xe s
def M9:DG:=λ_ H Q=>Q AJ H
theorem Fy:Ky X [] M9:=λD s J H Q I h=>wpAny_tests_nil ⟨H,I,h⟩
theorem M6(h:Ht X c t):Ky X [c] t:=λD s J H Q I hw=>wpAny_tests_one (h _ s J H Q I hw)
noncomputable def Ds(X:Bv)(D:Fi)(N:List AF)(C:AE)(s:AX)(H:AI)(ex:List AE):Bv:={X with N:=N,s₀:=s,H₀:=H,ae:=compEnvC D (N8 X.ae D.names) C X.ae,rg:=X.cw,cw:=X.cw,ex:=ex,fn:=λ_=>AQ,pn:=[],xe:=λ_ _=>False}
noncomputable def Ea(D:Ap)(j:Nat):Option AB:=(D[j]?).getD AG
def Je(I:Nat)(G:List Nat)(g:Ef)(L:DG)(K:BH)(M:Ap)(Q:BS)(J:Es)(A:AI):Prop:=∃W:Nat->Nat->Ap->List AB->AI->Prop,(∃m,W 0 m (OV I AG++G.map (Ea M)) [] A)/\∀i m E U H,W i m E U H->(J.qe i H/\∀D,H D=AG->Q (.ref D) (AR H D (.lst U)))\/(J.go i H/\U.length<As/\∀x B,J.yu i H x B->g x E B λY A=>L Y A λb C=>if b=AJ then K Y C λy F=>∃Z,Z<m/\W (i+1) Z Y (U++[y]) F else∃Z,Z<m/\W (i+1) Z Y U C)
def M8(U:Nat)(J:List Nat)(wi:FZ)(g:Ef)(W:DG)(V:BH):BH:=λD H Q=>wi D H (Je U J g W V D Q)
theorem cF{env:EL}:∀{D:List (AF×MI)}{y:AF},(∀z∈D,z.2≠.cell)->((D.map λ(n,k)=>if(k==NP&&env.scope.kind==.function&&env.kindOf n==AA .cell)then(n,fY)else(n,k)).lookup y=AA .cell\/(D.map λ(n,k)=>if(k==NP&&env.scope.kind==.function&&env.kindOf n==AA .cell)then(n,fY)else(n,k)).lookup y=AA .free)->(y,NP)∈D|[],y,_,h=>by simp_all|(n,k)::r,y,J,h=>by have U:=@cF env r y (λV u2=>J _ (G0 u2));grind
theorem aQ{env:EL}:∀{D:List (AF×MI)}{y:AF},D.lookup y=AA .free->(D.map λ(n,k)=>if(k==NP&&env.scope.kind==.function&&env.kindOf n==AA .cell)then(n,fY)else(n,k)).lookup y=AA .cell\/(D.map λ(n,k)=>if(k==NP&&env.scope.kind==.function&&env.kindOf n==AA .cell)then(n,fY)else(n,k)).lookup y=AA .free|[],y,h=>ABz _ h|(n,k)::r,y,h=>by have J:=@aQ env r y;grind
def Kv(X:Bv)(D:Fi):List (AF×Nat)->Prop|[]=>True|p::r=>X.N[p.2]?=AA p.1/\D.names.lookup p.1=AA .free/\Kv X D r
theorem Kv.nj:∀{J:List (AF×Nat)},Kv X D J->∀p∈J,X.N[p.2]?=AA p.1/\D.names.lookup p.1=AA .free
 |p::r,h,q,U=>by
  rcases BY.mp U with e|e;.subst e;exact⟨h.1,h.2.1⟩
  .exact Kv.nj h.2.2 q e
theorem Zx(hc:X.fh=AJ)(hi:FJ X tg O wi)(hk:U.kind=.function)(hcell:∀y∈U.names,y.2≠.cell)(hnames:∀y∈U.names,y.2=.local->U.names.lookup y.1=AA .local)(f:∀y∈U.names,y.2=.free->X.ae.kindOf y.1=AA .cell\/X.ae.kindOf y.1=AA .free)(hfr:Kv X U N)(hg:∀C s H ex,Kx (Ds X U (own++N.map (·.1)) C s H ex) tg g)(ht:∀C s H ex,Ky (Ds X U (own++N.map (·.1)) C s H ex) ifs tt)(he:∀C s H ex,Ar (Ds X U (own++N.map (·.1)) C s H ex) elt te)(hs:∀x,Ol O X.ae x=Be x)(I:AY X P σ H s)(h:M8 own.length (N.map (·.2)) wi g tt te σ H Q)(fin:∀(D C:AE)m(s4:AX)(H5:AI)v,AY X P σ H5 s4->s4.heap.Ns C m->H5 C=AG->C≠X.ae.locals->X.s₀.heap.objs.size<=C->(∀x c,X.ae.cells.lookup x=AA c->c≠C)->(∀p∈X.pn++P,p.1≠C)->Q (.ref D) H5->compPost (Av X.af X.w) X.A X.xe use PQ (.ref D) C (.ok v) s4):Aw (Av X.af X.w) X.A (comprehension (.ListComp elt [⟨tg,O,ifs,0⟩] U pos) U X.ae p0 (newList []) AQ (BX O X.ae) use) PQ X.xe s:=by
  have d:∀y c,(N8 X.ae U.names).lookup y=AA c->X.ae.cells.lookup y=AA c:=λy c e=>by
    rcases Zv U.names [] e with q|⟨q,z⟩;.simp at q
    . obtain⟨c',e'⟩:=I.ok.abp y (f _ q rfl);rw[e']at z;rw[e',<-z];rfl
  have hclos:ACn U X.ae=Be (N8 X.ae U.names):=xC λy hy e=>I.ok.abp y.1 (f y hy e);refine wpAny_comprehension_free (use:=use) (cl:=N8 X.ae U.names) (Q:=PQ) rfl hs hclos hk hnames ?_;refine BI (hi P s σ H _ I h) λv s1 h1=>BI h1 λitv s2 h2=>?_;lk;obtain⟨it,L,tn,J,R,e,Z,T,st2,f2,W,⟨m0,w0⟩,turn⟩:=h2;k_in;subst e;refine Tv (wpAny_newFunctionEnv hcell (by intro y hy;simp at hy) (λh₁ E A=>?_) hk);dsimp only at E A⊢;generalize hH2:s2.heap.push _=HL at E A⊢;have hC:HL.objs.size=s2.heap.objs.size+1:=by rw[<-hH2,ACQ]
  generalize hCC:HL.objs.size=C at E A hC⊢;have hDC:s2.heap.objs.size≠C:=by rw[hC];exact Dv (OZ _)
  have G:∀b,b<s2.heap.objs.size->b≠C/\b≠s2.heap.objs.size:=λb Y=>⟨by rw[hC];exact Dv (ABo Y),Dv Y⟩;have old:=λb o e=>A.extBut b o (G b (Cb e)).1 (Ca _ (hH2▸Ca _ e));have eD0:=A.extBut _ _ hDC (Ca _ (hH2▸ER _ rfl));have t:∀b∈L,b<s2.heap.objs.size:=λb Y=>by obtain⟨o,e,_⟩:=T.bb _ _ st2 b Y;exact Cb e
  generalize hD:s2.heap.objs.size=D at hDC G eD0 t hC;have hDfp:D∉L:=λz=>JN _ (t D z);have okY:(Ds X U (own++N.map (·.1)) C s2 R L).Ok:=by
    refine⟨Z.ok.uk,hk,Z.ok.uv,Z.ok.abb,by show s2.heap.objs.size<=C;simp_all,λx y c e1 e2=>Z.ok.xu x y c (d x c e1) (d y c e2),λy hy=>?_,λx c z _=>(by cases z),Z.ok.hd,Z.ok.jh,.inl rfl,λb Y=>⟨(G b (t b Y)).1,λy c e=>?_⟩,Z.bs,Ag Z.ok.zu Z.sz,λb o e Y=>?_,λb Y z=>?_,Z.cw,Z.yb⟩;.exact Vb U.names [] (.inl (cF (env:=X.ae) hcell hy))
    .exact(f2 b Y).2.2.2.2.1 y c (d y c e)
    . rcases(f2 b Y).2.2.2.1 with z|z;.exact Z.ok.zi b o e z
      .exact absurd (Bl (Cb e) (Ag Z.ok.zu z)) (JN _)
    . rcases BY.mp (Z.uz b z)with q|q;.exact(f2 b Y).2.1 q
      .exact(f2 b Y).2.2.1 q
  have j:∀y c,X.ae.cells.lookup y=AA c->c<D:=λy c e=>by obtain⟨v,z⟩:=Z.kj y c e;exact Bl z.lt (Bq hD)
  have stkLt:∀b∈Gv X.cw,b<D:=λb Y=>by
    rcases BY.mp (Z.uz b Y)with q|q;.rw[q];exact Bl Z.lt (Bq hD)
    . obtain⟨_,o,ho,_⟩:=Z.ok.ml.mem q;exact Bl (Cb ho) (Ag Z.sz (Bq hD))
  have S:∀a,D<=a->R a=AG:=λa ha=>Z.bj.ax (Ag (Bq hD) ha);have IY:AY (Ds X U (own++N.map (·.1)) C s2 R L) [] (OV own.length AG++(N.map (·.2)).map (Ea σ)) R {s2 with heap:=h₁,toks:=s2.toks+([]:List (AF×AK)).length}:=by
    refine⟨okY,rfl,Z.il,SH old,⟨_,E,λi y v e1 e2 e3=>?_⟩,λy c e=>?_,S C (by simp_all),λy c e=>Z.gy y c (d y c e),λp M=>absurd (show p∈([]:List (AE×BP))from M) (by simp),Z.bj.ff old,?_⟩
    . have e1:(own++N.map (·.1))[i]?=AA y:=e1;have hi':own.length<=i:=by
        by_cases hlt:i<own.length
        . rw[Jt (by simpa using hlt),ADy,AHT hlt]at e2;cases e2
        .simp_all
      rw[L5 hi',Bo]at e1;rw[L5 (by simpa using hi'),Bo,Bo,ABc]at e2;cases M:N[i-own.length]? with|none=>rw[M]at e1;cases e1|some p=>
        rw[M]at e1 e2;have ey:p.1=y:=CD e1;have ev:Ea σ p.2=AA v:=CD e2;obtain⟨a1,a3⟩:=hfr.nj p (Cp M);have es:σ[p.2]?=AA (AA v):=by unfold Ea at ev;cases q:σ[p.2]? with|none=>rw[q]at ev;cases ev|some z=>rw[q]at ev;exact AHU AA ev
        have hfk:=f (p.1,.free) (Qw a3) rfl;obtain⟨m,hn,hl⟩:=Z.wq;obtain⟨u,r,l⟩:=hl p.2 p.1 v a1 es (hfk.elim (λz=>.inr (.inl z)) λz=>.inr (.inr z));refine⟨u,r,.inr ?_⟩;rcases l with⟨z,_⟩|⟨_,c,ec,zc⟩;.rcases hfk with q|q<;>rw[z]at q<;>cases q
        . obtain⟨c',ec'⟩:=Vb (env:=X.ae) (y:=p.1) U.names [] (.inl (Qw a3));have:c'=c:=CD ((d _ _ ec').symm.trans ec);subst this;rw[<-ey];obtain⟨o,ho,hdd⟩:=zc;exact⟨aQ (env:=X.ae) a3,c',ec',o,old _ o ho,hdd⟩
    . obtain⟨v,z⟩:=Z.kj y c (d y c e);obtain⟨o,ho,hdd⟩:=z;exact⟨v,o,old _ o ho,hdd⟩
    . show(OV own.length (AG:Option AB)++(N.map (λp=>p.2)).map (Ea σ)).length=(own++N.map (λp=>p.1)).length;simp
  have fpY:∀{w:AI}{ob:BP},(∀b∈L,w b=AG)->∀b∈L,Jf (Ds X U (own++N.map (·.1)) C s2 R L) [(D,ob)] w b:=λ{w ob}hn b Y=>⟨hn b Y,(G b (t b Y)).1,λz=>okY.za b Y z,.inl Y,λy c e=>(okY.acu b Y).2 y c e,λp M=>by
      have e:p=(D,ob):=by simpa[Ds]using M
      rw[e];show D≠b;exactλz=>hDfp (z▸Y)⟩;have noC:∀(xs:Array AK)(k:Nat)(v:Option AK),({cls:=.type "list",data:=.seq xs k}:BP).data≠.cell v:=λxs k v z=>by cases z
  have loop:∀s₃:AX,s₃={s2 with heap:=h₁,toks:=s2.toks+([]:List (AF×AK)).length}->NT (Av X.af X.w) X.A (.compLoop (.ListComp elt [⟨tg,O,ifs,0⟩] U pos) 0 (.ref it) (.ref D) (compEnvC U (N8 X.ae U.names) C X.ae)) (compPost (Av X.af X.w) X.A X.xe use PQ (.ref D) C) s₃:=by
    rintro s₃ rfl;refine xE (λn s'=>∃(i:Nat)(τ:Ap)(K:List AB)(H':AI)(B:List AK)(k:Nat),AY (Ds X U (own++N.map (·.1)) C s2 R L) [] τ H' s'/\tn i s'.heap/\(∀b∈L,H' b=AG)/\H' D=AG/\Bb K B/\s'.heap.get? D=AA {cls:=.type "list",data:=.seq B.toArray k}/\K.length<=As/\W i n τ K H') ?_ m0 ⟨0,_,[],R,[],0,IY,T.ab _ _ _ st2 λb _ o e=>old b o e,λb Y=>(f2 b Y).1,S D (Ai _),.nil,eD0,Bm _,w0⟩;rintro n s3⟨i,τ,K,w,B,k,I3,st3,fr3,fD,rv,eD,hz,w3⟩;have I3':AY (Ds X U (own++N.map (·.1)) C s2 R L) [(D,{cls:=.type "list",data:=.seq B.toArray k})] τ w s3:=I3.gm λp M=>by
      have e:=by simpa using M
      subst e;exact⟨eD,fD,hDC,λz=>JN _ (stkLt D z),noC _ _⟩
    rcases turn i n τ K w w3 with⟨stop,qn⟩|⟨go,hlt,step⟩
    . refine BI (T.rq (Ds X U (own++N.map (·.1)) C s2 R L) rfl rfl rfl hc i _ s3 τ w (λ_ _=>False) I3' (fpY fr3) st3 stop) λr s4 hh11=>?_;obtain⟨hr,I4⟩:=hh11;subst hr;obtain⟨m,hn4,_⟩:=I4.wq;obtain⟨eD4,fD4,_⟩:=I4.sj (D,{cls:=.type "list",data:=.seq B.toArray k}) (EO _ (Bc.mpr rfl));have b4:Hw (Gv X.cw) L R w s2.heap s4.heap:=I4.ag;have lt2:∀b o,s2.heap.get? b=AA o->b≠C/\b≠D:=λb o e=>G b (Bl (Cb e) (Bq hD));have tr2:∀b o,R b=AA o->b≠D:=λb o e z=>by have:=S D (Ai _);rw[z,this]at e;cases e
      have un:Hw (Gv X.cw) L R (AR w D (.lst K)) s2.heap s4.heap:=by
        refine⟨λb o e n Y hx=>b4.ab b o e n Y hx,λb o e n Y hx=>?_,λb o e n hx=>?_,λb o e hx=>?_,λb xs e=>?_,λb o u e=>?_,λb ps e=>?_⟩
        . obtain⟨sl,q⟩:=b4.su b o e n Y hx;exact⟨sl,q⟩
        .rw[Aa (lt2 b o e).2];exact b4.az b o e n hx
        . obtain⟨o',q⟩:=b4.gc b o e hx;exact⟨o',q⟩
        .rw[Aa (tr2 _ _ e)];exact b4.vc b xs e
        .rw[Aa (tr2 _ _ e)];exact b4.qz b o u e
        .rw[Aa (tr2 _ _ e)];exact b4.vb b ps e
      have hok':DE X.af X.w (AR w D (.lst K)) s4.heap:=I4.bj.zr fD4 ⟨hz,B,k,rv,eD4⟩;have IX:AY X P σ (AR w D (.lst K)) s4:=Z.yy (s':=s4) (ch:=L) I4.os un hok' I4.il λb Y=>⟨(f2 b Y).2.2.2.1,(f2 b Y).2.1,(f2 b Y).2.2.2.2.1,(f2 b Y).2.2.2.2.2⟩;have hHC:w C=AG:=I4.az;have noCD:∀b:AE,b<D->C≠b:=λb Y z=>by rw[<-z,hC]at Y;exact JN D (GQ Y)
      have hCL:C≠X.ae.locals:=noCD _ (Bl Z.lt (Bq hD));refine fin D C m s4 _ _ IX hn4 (by rw[Aa hDC.symm];exact hHC) hCL (Ag Z.sz (by simp_all)) (λz c e q=>?_) (λp M q=>?_) (qn D fD4);.exact noCD _ (j z c e) q.symm
      .exact noCD _ (Bl (Cb (Z.sj p M).1) (Bq hD)) q.symm
    . refine BI (T.si (Ds X U (own++N.map (·.1)) C s2 R L) rfl rfl rfl hc i _ s3 τ w (λ_ _=>False) I3' (fpY fr3) st3 go) λr s4 hh21=>?_;obtain⟨u,hr,h4⟩:=hh21;subst hr;refine BI h4 λ_ s5 hh31=>?_;obtain⟨x,H5,I5,r5,y5,st5,fr5⟩:=hh31;have I5':=I5.zm (fpY fr5) (T.bb _ _ st5);refine BI (hg _ _ _ _ _ s5 τ H5 x u _ I5' r5 (step x H5 y5)) λ_ s6 hh41=>?_;obtain⟨τ6,H6,I6,q6⟩:=hh41;refine BI (ht _ _ _ _ _ s6 τ6 H6 _ I6 q6) λb s7 hh51=>?_;obtain⟨H7,I7,q7⟩:=hh51;have facts:∀{s8:AX}{H8:AI}{τ8:Ap},AY (Ds X U (own++N.map (·.1)) C s2 R L) ([(D,{cls:=.type "list",data:=.seq B.toArray k})]++Sq L s5.heap) τ8 H8 s8->tn (i+1) s8.heap/\(∀b∈L,H8 b=AG)/\H8 D=AG/\s8.heap.get? D=AA {cls:=.type "list",data:=.seq B.toArray k}:=λ{s8 H8 τ8}I8=>by
        have M:∀b∈L,∀o,s5.heap.get? b=AA o->s8.heap.get? b=AA o/\H8 b=AG:=λb Y o e=>by have q:=I8.sj (b,o) (EO _ (EO _ (Vq Y e)));exact⟨q.1,q.2.1⟩
        have qD:=I8.sj (D,{cls:=.type "list",data:=.seq B.toArray k}) (EO _ (Ic _ (Bc.mpr rfl)));refine⟨T.ab _ _ _ st5 λb Y o e=>(M b Y o e).1,λb Y=>?_,qD.2.1,qD.1⟩;obtain⟨o,e,_⟩:=T.bb _ _ st5 b Y;exact(M b Y o e).2
      cases b with |false=> obtain⟨m',hm,w7⟩:=q7;obtain⟨z1,z2,z3,z4⟩:=facts I7;exact⟨m',hm,i+1,τ6,K,H7,B,k,I7.gm λp M=>absurd M (by simp),z1,z2,z3,rv,z4,hz,w7⟩|true=>
        refine BI (he _ _ _ _ _ s7 τ6 H7 _ I7 q7) λu8 s8 hh61=>?_;obtain⟨y,H8,I8,r8,m',hm,w8⟩:=hh61;obtain⟨z1,z2,z3,z4⟩:=facts I8;have hl:=rv.ai;refine NS ACL ⟨_,z4,rfl⟩ AE1 (AEx _ _) (AF2 D B.toArray k u8 (by rw[Gj];exact Ag (Bq hl.symm) (Bz hlt))) ⟨z4,?_⟩;have z5:=AFJ z4 (·.push u8);have z6:B.toArray.push u8=(B++[u8]).toArray:=by simp
        rw[z6]at z5;have kk:∀b o,b≠D->s8.heap.get? b=AA o->(s8.heap.update D (ES (·.push u8))).get? b=AA o:=λb o Y e=>(fW s8.heap (ES (·.push u8)) (Gk Y)).trans e;have I8':AY (Ds X U (own++N.map (·.1)) C s2 R L) [] τ6 H8 s8:=I8.gm λp M=>absurd M (by simp);refine⟨m',hm,i+1,τ6,K++[y],H8,B++[u8],_,I8'.cb (it:=D) kk z3 hDC (.inr (by show s2.heap.objs.size<=D;exact Bq hD)) (λy c e=>Dv (j y c (d y c e))) (λp M=>absurd (show p∈([]:List (AE×BP))from M) (by simp)),?_,z2,z3,rv.kg (.cons r8 .nil),z5,?_,w8⟩;.exact T.ab _ _ _ z1 λb Y o e=>kk b o (λz=>hDfp (z▸Y)) e
        .rw[Ba,GP];assumption
  exact codeAny_compStart_list (loop _ rfl) (T.ux X.A 0 _ _ _ (T.ab _ _ _ st2 λb _ o e=>old b o e) (loop _ rfl))
theorem bM(c:X.fh=AJ)(hi:FJ X G U wi)(i:J.kind=.function)(W:∀y∈J.names,y.2≠.cell)(V:∀y∈J.names,y.2=.local->J.names.lookup y.1=AA .local)(Y:∀y∈J.names,y.2=.free->X.ae.kindOf y.1=AA .cell\/X.ae.kindOf y.1=AA .free)(E:Kv X J A)(f:∀C s H ex,Kx (Ds X J (own++A.map (·.1)) C s H ex) G g)(l:∀C s H ex,Ky (Ds X J (own++A.map (·.1)) C s H ex) B M)(d:∀C s H ex,Ar (Ds X J (own++A.map (·.1)) C s H ex) Z L)(k:∀x,Ol U X.ae x=Be x:=by intro _;rfl):Ar X (.ListComp Z [⟨G,U,B,0⟩] J F) (M8 own.length (A.map (·.2)) wi g M L):=by intro K s t H Q I h;exact Zx c hi i W V Y E f l d k I h λD C m s4 p v N j S T O P R q=>⟨m,j,λr n=>⟨.ref D,_,N.cb (λb o a e=>(n.2 b a).trans e) S T (.inr O) P R,rfl,q⟩⟩
theorem QK{K:BH}(Z:List (AF×Nat))(M:X.fh=AJ)(hi:FJ X (.Name x I) J wi)(P:X.ae.scope=osc)(O:D.kind=.function)(V:∀y∈D.names,y.2≠.cell)(U:∀y∈D.names,y.2=.local->D.names.lookup y.1=AA .local)(W:∀y∈D.names,y.2=.free->osc.names.lookup y.1=AA .cell\/osc.names.lookup y.1=AA .free)(B:Kv X D Z)(G:D.names.lookup x=AA .local)(E:(x::Z.map (·.1)).Nodup)(R:∀C s H ex,Ky (Ds X D (x::Z.map (·.1)) C s H ex) A L)(N:∀C s H ex,Ar (Ds X D (x::Z.map (·.1)) C s H ex) Y K)(Q:∀x,Ol J X.ae x=Be x:=by intro _;rfl):Ar X (.ListComp Y [⟨.Name x I,J,A,0⟩] D F) (M8 1 (Z.map (·.2)) wi (Gg 0) L K):=bM (own:=[x]) M hi O V U (λy S e=>by show X.ae.scope.names.lookup _=_\/X.ae.scope.names.lookup _=_;rw[P];exact W y S e) B (λC s H ex=>Jm E rfl (.inl (Oo G)) (.inr (Oo G))) R N Q
noncomputable def R5(z:AF):Es:=⟨λi _=>i<z.cps.size,λi H x D=>D=H/\∃c,z.cps[i]?=AA c/\x=.str ⟨#[c]⟩,λi _=>z.cps.size<=i⟩
def yM(J:BH):FZ:=λU H R=>J U H λx D=>Gf (λz=>x=.str z) (λz=>R (R5 z) D)
theorem dB{K:BB}(it:AE)(z:AF)(t:HV)(l:String)(Z:l="str_ascii_iterator"\/l="str_iterator"):K0 P w K p (R5 z) [it] it (λi h=>i<=z.cps.size/\h.IsStrIter it l z t i)where
 zw:=by simp
 bb:=λi h J b D=>by
  have e:b=it:=by simpa using D
  subst e;lk;obtain⟨_,o,e,c,d⟩:=J;k_in;exact⟨o,e,λv z=>by rw[d]at z;cases z⟩
 ab:=λi h B J k=>by lk;obtain⟨g,o,e,r⟩:=J;k_in;exact⟨g,o,k it (by simp) o e,r⟩
 si:=by
  intro X f hw a O i U s m H E I Q J C;subst f hw a;lk;obtain⟨F,G,n,L,M,N⟩:=Q it (by simp);k_in;rcases Z with e|e<;>subst e
  . have W:=AFt (prog:=X.af) (w:=X.w) (I.ok.hd O) it z t;refine W.item i s _ _ C J.2 λv B R j V A=>?_;lk;obtain⟨c,u,Y,rfl⟩:=j;have S:AY X U m H {s with heap:=B,toks:=R}:=I.cb (λb o D e=>A b o (by simpa using D) e) F G L M N;obtain⟨o,e,T,d⟩:=id V;k_in;exact⟨_,rfl,Mu e T d (by decide) ⟨.str ⟨#[c]⟩,H,S,⟨_,rfl⟩,⟨rfl,c,Y,rfl⟩,⟨C,V⟩,λb D=>(Q b D).1⟩⟩
  . have W:=AFu (prog:=X.af) (w:=X.w) (I.ok.hd O) it z t;refine W.item i s _ _ C J.2 λv B R j V A=>?_;lk;obtain⟨c,u,Y,rfl⟩:=j;have S:AY X U m H {s with heap:=B,toks:=R}:=I.cb (λb o D e=>A b o (by simpa using D) e) F G L M N;obtain⟨o,e,T,d⟩:=id V;k_in;exact⟨_,rfl,Mu e T d (by decide) ⟨.str ⟨#[c]⟩,H,S,⟨_,rfl⟩,⟨rfl,c,Y,rfl⟩,⟨C,V⟩,λb D=>(Q b D).1⟩⟩
 rq:=by
  intro X f hw a O i U s m H E I Q J C;subst f hw a;lk;obtain⟨F,G,n,L,M,N⟩:=Q it (by simp);k_in;have g:i=z.cps.size:=Eb J.1 C;subst g;rcases Z with e|e<;>subst e;. have W:=AFt (prog:=X.af) (w:=X.w) (I.ok.hd O) it z t;exact W.done s _ _ J.2 λB R A=>⟨rfl,I.cb (λb o D e=>A b o (by simpa using D) e) F G L M N⟩
  . have W:=AFu (prog:=X.af) (w:=X.w) (I.ok.hd O) it z t;exact W.done s _ _ J.2 λB R A=>⟨rfl,I.cb (λb o D e=>A b o (by simpa using D) e) F G L M N⟩
 ux:=λ_ _ _ _ _ J h=>by
  rcases Z with e|e<;>subst e;.exact wpAny_pyIter_striter_ascii J.2 h
  .exact wpAny_pyIter_striter_wide J.2 h
theorem bT(A:Ar X l Z):FJ X E l (yM Z):=by
  intro U s C H R I h;refine BI (A U s C H _ I h) λv s1 J=>?_;lk;obtain⟨x,W,D,r1,B⟩:=J;obtain⟨z,e,q⟩:=B;k_in;subst e;obtain⟨t,rfl⟩:=r1;cases Y:z.cps.all (.<128)
  . refine wpAny_pyIter_wide Y ?_;refine⟨s1.heap.objs.size,[s1.heap.objs.size],_,_,W,rfl,D.ff (t':=s1.toks) λb o e=>Ca _ e,dB _ z t "str_iterator" (.inr rfl),⟨Bm _,_,ER _ rfl,rfl,rfl⟩,λb V=>?_,q⟩;have e:b=s1.heap.objs.size:=by simpa using V
    subst e;exact D.pj (Ai _) (D.bj.ax (Ai _))
  . refine wpAny_pyIter_ascii Y ?_;refine⟨s1.heap.objs.size,[s1.heap.objs.size],_,_,W,rfl,D.ff (t':=s1.toks) λb o e=>Ca _ e,dB _ z t "str_ascii_iterator" (.inl rfl),⟨Bm _,_,ER _ rfl,rfl,rfl⟩,λb V=>?_,q⟩;have e:b=s1.heap.objs.size:=by simpa using V
    subst e;exact D.pj (Ai _) (D.bj.ax (Ai _))
theorem Vc(xs:List AB)(p:AB->Bool)(f:AB->AB)(c:xs.length<=As)(Z:∀i,i<xs.length->J.go i H)(B:J.qe xs.length H)(b:∀i x H',i<xs.length->J.yu i H x H'->H'=H/\xs[i]?=AA x)(E:∀x(R:Bool->AI->Prop),x∈xs->R (p x) H->M (AA x::Y.map (Ea F)) H R)(C:∀x(R:BS),x∈xs->p x=AJ->R (f x) H->L (AA x::Y.map (Ea F)) H R)(X:∀D,H D=AG->Q (.ref D) (AR H D (.lst ((xs.filter p).map f)))):Je 1 Y (Gg 0) M L F Q J H:=by
  refine⟨λi m N W H'=>m=xs.length-i/\i<=xs.length/\H'=H/\(∃o,N=o::Y.map _)/\W=(((xs.take i).filter p).map f),⟨xs.length,by simp,Bm _,rfl,⟨_,rfl⟩,rfl⟩,?_⟩;intro i m N W H' T;lk;obtain⟨rfl,a,rfl,⟨o,rfl⟩,rfl⟩:=T;k_in;by_cases U:i<xs.length
  . refine .inr ⟨Z i U,?_,λx O y=>?_⟩
    . rw[Au];have S:((xs.take i).filter p).length<=(xs.take i).length:=Fh _ _;rw[EH]at S;lia
    . obtain⟨P,G⟩:=b i x O U y;subst P;have K:=Cp G;refine E x _ K ?_;have I:=take_succ_filter p xs i x G;cases A:p x with |true=> refine C x _ K A ⟨_,JO _ _ U,rfl,U,rfl,⟨_,rfl⟩,?_⟩;rw[I,A];simp|false=> refine⟨_,JO _ _ U,rfl,U,rfl,⟨_,rfl⟩,?_⟩;rw[I,A];simp
  . have e:=Eb a (F4 U);subst e;rw[LH];exact .inl ⟨B,X⟩
noncomputable def Jo(z:AF):List AB:=z.cps.toList.map λc=>AB.str ⟨#[c]⟩
theorem xH(p:AB->Bool)(f:AB->AB)(K:z.length<=As)(W:∀x(R:Bool->AI->Prop),x∈Jo z->R (p x) H->A (AA x::J.map (Ea Y)) H R)(U:∀x(R:BS),x∈Jo z->p x=AJ->R (f x) H->Z (AA x::J.map (Ea Y)) H R)(C:∀D,H D=AG->Q (.ref D) (AR H D (.lst (((Jo z).filter p).map f)))):Je 1 J (Gg 0) A Z Y Q (R5 z) H:=by
 have F:(Jo z).length=z.cps.size:=by simp[Jo]
 have G:z.length=z.cps.size:=rfl;refine Vc _ p f (by simp_all) (λi E=>by show i<z.cps.size;simp_all) (by exact Bq F.symm) (λi x I E y=>?_) W U C;lk;obtain⟨e,c,B,rfl⟩:=y;k_in;refine⟨e,?_⟩;unfold Jo;rw[Bo];have:z.cps.toList[i]?=AA c:=by simpa using B
 rw[this];rfl
noncomputable def Mv(lo:Int)(n:Nat):List AB:=(Ei n).map λ(i:Nat)=>AB.int (lo+(i:Int))
theorem xG{lo:Int}(p:AB->Bool)(f:AB->AB)(G:n<=As)(W:∀x(R:Bool->AI->Prop),x∈Mv lo n->R (p x) H->A (AA x::J.map (Ea Y)) H R)(U:∀x(R:BS),x∈Mv lo n->p x=AJ->R (f x) H->Z (AA x::J.map (Ea Y)) H R)(B:∀D,H D=AG->Q (.ref D) (AR H D (.lst (((Mv lo n).filter p).map f)))):Je 1 J (Gg 0) A Z Y Q (Le lo n) H:=by
 have F:(Mv lo n).length=n:=by simp[Mv]
 refine Vc (Mv lo n) p f (by omega) (λi C=>by show i<n;omega) (by show n<=_;omega) (λi x E C y=>?_) W U B;obtain⟨e,rfl⟩:=y;refine⟨e,?_⟩;unfold Mv;rw[Bo,List.getElem?_range (by omega)];rfl
theorem wO(ys:List Bool):(Ei ys.length).all (λi=>ys.getD i AQ)=ys.all id:=by induction ys with|nil=>rfl|cons y r D=>rw[Ex,List.range_succ_eq_map,dN,dP,dN];show(y&&_)=(y&&_);rw[<-D];rfl
theorem wR{ys:List Bool}(r:Bb (ys.map AB.bl) its){i:Nat}(h:its.toArray[i]?=AA v):v=.bool (ys.getD i AQ):=by
 have h:its[i]?=AA v:=by simpa using h
 have D:=r.ai;rw[Au]at D;have J:i<ys.length:=by rw[D];exact(BU.mp h).1
 lk;obtain⟨u,e,q⟩:=r.se (i:=i) (x:=AB.bl (ys.getD i AQ)) (by simp[J,List.getD_eq_getElem?_getD]);rw[h]at e;cases e;k_in;exact q
theorem Zp{K:BB}(C:X.fh=AJ)(Z:X.K=K:=by rfl):EV X (.builtin "all") (λxs H Q=>∃(p:AE)(ys:List Bool),xs=[.ref p]/\CO K H p (ys.map AB.bl)/\Q (.bl (ys.all id)) H):=by
 subst Z;intro W s a H xs T Q I r h;lk;obtain⟨p,ys,rfl,G,q⟩:=h;obtain⟨u,rfl,L⟩:=Fz r;cases L;obtain⟨D,Y,J,R⟩:=I.fw G;k_in;have U:=Y.ai;rw[Au]at U;have F:p<s.heap.objs.size:=by obtain⟨o,e,_⟩:=J.isList;exact Cb e
 refine call_all_walk (AGJ J.isList ?_);refine⟨s.heap.objs.size,_,_,_,_,_,λi=>ys.getD i AQ,rfl,Walks.list (show X.A.in1.handled=AG from I.ok.hd C) _ p (Dv F) D.toArray,⟨⟨_,ER _ rfl,rfl,rfl⟩,J.isList.push _⟩,λi v S O N A B=>?_,λP M E=>?_⟩
 . rw[wR Y A];exact Ov B
 . rw[Gj,<-U,wO];refine⟨.bl _,H,I.ff (t':=M) λb o e=>E b o (by simp;exact Dv (Cb e)) (Ca _ e),rfl,q⟩
def cA:AB->Option Int->Option Int->AI->BS->Prop:=λx J D H Q=>Lh (λz=>x=.str z) (λz=>z.length<=As) (λz=>Q (.str (G1 z J D)) H)
theorem bH(p:NO v o):∃l:Option (Int×HV),v=partValue l/\l.map (·.1)=o:=by cases p with|none=>exact⟨AG,rfl,rfl⟩|int i t=>exact⟨AA (i,t),rfl,rfl⟩
theorem Sy:N4 X cA:=by intro D s K H x v E G A Z B Q I Y J V W h;lk;obtain⟨z,rfl,U,q⟩:=h;obtain⟨t,rfl⟩:=Y;obtain⟨l,rfl,rfl⟩:=bH V;obtain⟨u,rfl,rfl⟩:=bH W;k_in;exact⟨"str",_,F.slot_str_getitem.lookup,Ou _ _ _,wpAny_getItem_str_slice (l:=l) (u:=u) (st:=AG) J rfl (post_val_or_str ⟨Ag (AFX z _ _) U,λC k=>⟨.str _,H,I.dw _,⟨_,rfl⟩,q⟩⟩)⟩
theorem cO:∀{D:List AK},Bb (zs.map AB.str) D->StrsAre D zs:=by induction zs with|nil=>intro D r;cases r;exact .nil|cons n U J=>intro D r;cases r with|cons r1 r2=>obtain⟨t,e⟩:=r1;subst e;exact .cons n t (J r2)
theorem Sf{K:BB}(U:X.K=K:=by rfl):Kw X "str.join" (λx xs H Q=>∃(D:AF)(p:AE)(zs:List AF),x=.str D/\xs=[.ref p]/\CO K H p (zs.map AB.str)/\(zs.map (·.length)).sum+zs.length*D.length<=16777216/\Q (.str (NQ D zs)) H):=by subst U;intro J s M H x xs v L Q I F B h;lk;obtain⟨D,p,zs,rfl,rfl,W,Y,q⟩:=h;obtain⟨t,rfl⟩:=F;obtain⟨u,rfl,C⟩:=Fz B;cases C;obtain⟨Z,E,A,_⟩:=I.fw W;k_in;exact join_list A.isList (by simpa using cO E) Y λG k=>⟨.str _,H,I.dw _,⟨_,rfl⟩,q⟩
theorem N6{K:BB}(J:X.K=K:=by rfl):EV X (.builtin "isinstance") (λxs H Q=>∃x n t b,xs=[x,.ty n]/\IW K H x t/\AFm K t (.type n)=AA b/\Q (.bl b) H):=by subst J;intro D s B H xs A Q I r h;lk;obtain⟨x,n,t,b,rfl,W,e,q⟩:=h;obtain⟨u,Y,rfl,V,U⟩:=V9 r;cases(show Y=ACX n from U);k_in;exact yO I V W e λZ=>⟨.bl b,H,I.dw _,rfl,q⟩
theorem P4{V:Type}(xs:List V)(n:Int)(Y:(xs.length:Int)=n)(D:0<n)(c:Int):∃v,Cr xs (c%n)=AA v/\v∈xs:=by have J:0<=c%n:=UC _ (LR D);have W:c%n<n:=UB _ D;obtain⟨j,U⟩:=ADa J;refine⟨xs[j],?_,(by simp)⟩;rw[U];exact Ae (by simp)
theorem Jh{c:Bool}{A B:Prop}(D:c=AJ->A)(J:c=AQ->B):if c=AJ then A else B:=by simp_all
theorem Aj.dz(e:Aj H H')(h:H' a=AG):Aj H (AR H' a o):=λb u q=>by rw[Aa (Bh (e b u q) h)];exact e b u q
theorem Lm{K:BB}(D:X.K=K:=by rfl):N1 X (bZ K):=by subst D;exact yR
theorem JK{K:BB}(D:X.K=K:=by rfl):N1 X (b8 K):=by subst D;exact yS
theorem Gx{K:BB}(D:X.K=K:=by rfl):N4 X (b9 K):=by subst D;exact AAe
theorem Lz{K:BB}(D:X.K=K:=by rfl):N4 X (Su K):=by subst D;exact AAf
theorem Sk{K:BB}(D:X.K=K:=by rfl):CU X (Ek .In) (bY K AQ):=by subst D;exact zN
theorem KI{K:BB}(D:X.K=K:=by rfl):CU X (G4 .Add) (Sr K):=by subst D;exact zL
theorem Zq{K:BB}(D:X.K=K:=by rfl):EV X (.builtin "len") (λxs H Q=>∃p ys,xs=[.ref p]/\(CO K H p ys\/CB K H p ys)/\Q (.int ys.length) H):=by subst D;exact wW
theorem N7{K:BB}(D:X.K=K:=by rfl):EV X (.type "list") (λxs H Q=>∃p ys,xs=[.ref p]/\(CO K H p ys\/CB K H p ys)/\∀l,H l=AG->Q (.ref l) (AR H l (.lst ys))):=by subst D;exact wX
theorem DQ{K:BB}(U:Ar X l D)(J:X.K=K:=by rfl):FJ X V l (aB K D):=by subst J;exact bS U
theorem AAJ{K:BB}(U:Ar X l D)(J:X.K=K:=by rfl):FJ X V l (aC K D):=by subst J;exact bU U
theorem bJ{K:BB}{name:AF}{id:String}(F:gB T)(Y:Slot T name id)(Z:gY (.builtin id)=Be (.type "method_descriptor"))(C:Kw X id r)(E:Ar X o A)(B:X.K=K:=by rfl)(U:Jy o name X.ae (BX o X.ae)=BX o X.ae:=by rfl)(W:(D.endLine==J.line)=AJ:=by rfl):Ar X (.Call (.Attribute o name D) [] [] J) (cR K T r A):=by subst B;exact zZ F Y Z C E U W
theorem GO{K:BB}{name:AF}{id:String}(M:gB T)(B:Slot T name id)(C:gY (.builtin id)=Be (.type "method_descriptor"))(H:Kw X id r)(I:Ar X o E)(G:Ge X (e::W) t)(F:X.K=K:=by rfl)(Y:Jy o name X.ae (BX o X.ae)=BX o X.ae:=by rfl)(A:((GR D (Cj (e::W) X.ae)).all (λx=>!x.1)&&(Qp D (Qv [] X.ae)).all (λx=>x.1.isSome)&&Ab ((e::W).length+([]:List MH).length+(if([]:List MH).isEmpty then 0 else 1)<30))=AJ:=by rfl)(Z:(U.endLine==D.line)=AJ:=by rfl)(L:Cj (e::W) X.ae=(AQ,BX e X.ae)::Cj W X.ae:=by rfl)(J:(GR D (Cj W X.ae)).any (·.1)=AQ:=by rfl):Ar X (.Call (.Attribute o name U) (e::W) [] D) (V5 K T r E t):=by subst F;exact zW M B C H I G Y A Z L J
theorem Sl:CU X (G4 .Mult) (λx y H Q=>∃z n,x=.str z/\y=.int n/\MulOk z n/\Q (.str (LK z n)) H):=by intro D s Y H x y v u Q I U V h;lk;obtain⟨z,n,rfl,rfl,J,q⟩:=h;obtain⟨t,rfl⟩:=U;obtain⟨W,rfl⟩:=V;k_in;exact SB.mul J λW k=>⟨.str _,H,I.dw _,⟨_,rfl⟩,q⟩
theorem aV:Kw X "str.startswith" (λx xs H Q=>∃z y,x=.str z/\xs=[.str y]/\Q (.bl (Oh z y)) H):=by intro D s Y H x xs v W Q I U J h;lk;obtain⟨z,y,rfl,rfl,q⟩:=h;obtain⟨t,rfl⟩:=U;obtain⟨u,rfl,V,rfl⟩:=Fz J;k_in;exact NS ACO (Ou _ _ _) F.entry_str_startswith (F.args_str_startswith_2 _ _) (gives_str_startswith z y t V).meets ⟨.bl _,H,I,rfl,q⟩
theorem wV:EV X (.type "int") (λxs H Q=>∃z n,xs=[.str z]/\Wo z=AA n/\z.length<=640/\Q (.int n) H):=by intro D s V H xs U Q I r h;lk;obtain⟨z,n,rfl,e,J,q⟩:=h;obtain⟨u,rfl,t,rfl⟩:=Fz r;k_in;exact AHL e J ⟨.int n,H,I.dw _,⟨_,rfl⟩,q⟩
theorem AC7:gX (.type "list_reverseiterator") "__len__"=Be AG:=by rw[AGB,AFv];kernel_rfl
theorem AC5:gX (.type "list_reverseiterator") "__length_hint__"=Be (AA (.builtin "list_reverseiterator.__length_hint__")):=by rw[AGB,AFv];kernel_rfl
theorem AC4{R:Result->AX->Prop}{q:Nat->AX->Prop}{Live:AX->Prop}(W:WalksS prog w A.in1 I r d G n P q)(M:∀(s:AX)(Q:Option AK->AX->Prop)(E:AK->AX->Prop),q n s->(∀s',Th d G s s'->Live s'->Q AG s')->Aw (Av prog w) A.in1 (ML (.ref I)) Q E s)(z:n<=As)(S:AE)(H:S∉r)(a:AK):∀(k i:Nat)(s:AX)(J:Array AK)(c:Nat),n-i=k->i<=n->q i s->s.heap.get? S=AA {cls:=.type "list",dict:=AG,data:=.seq J c,slots:=#[]}->Oe P J i->(∀s' U f,Th (S::d) G s s'->s'.heap.get? S=AA {cls:=.type "list",dict:=AG,data:=.seq U f,slots:=#[]}->Oe P U n->Live s'->R (.ok (.ret a)) s')->NT (Av prog w) A (.builtin "list.extend.loop" ⟨[.ref S,.ref I,a],[]⟩) R s:=by have K:S∉d:=λh=>H (W.sub _ h);have V:∀b∈d,b∈S::d:=λb L=>D5 _ L;intro k;induction k with
 |zero=>
  intro i s J c x u Z j D g;have l:i=n:=by omega
  subst l;refine Tr AE0 ?_;rw[fP fU _];show Aw _ A.in1 (ML (.ref I)>>=_) _ _ s;refine Ay (M s _ _ Z λs' O m=>?_);exact CN (g s' J c (O.mono V) (O.heap S _ K j) D m)|succ k y=>
  intro i s J c x u Z j D g;have N:i<n:=by omega
  refine Tr AE0 ?_;rw[fP fU _];show Aw _ A.in1 (ML (.ref I)>>=_) _ _ s;refine Ay (W.item i s _ _ N Z λv s' t X O=>?_);have B:=O.heap S _ K j;show Aw _ A.in1 (updateSeq S (·.push v)>>=_) _ _ _;refine Ay ?_;refine wpAny_updateSeq B rfl (CN ⟨gT fU _,y (i+1) _ (J.push v) _ (by omega) N (W.frame _ s' _ s'.toks X (Ai _) λb L o e=>?_) (AFI _ B rfl) (D.push t) λp U f T C Y m=>?_⟩) (by rw[D.1];omega) (by show(J.push v).size<=As+1;rw[Array.size_push,D.1];omega);.exact(fW _ _ (λh:S=b=>H (by rw[h];exact L))).trans e
  . refine g p U f (Moved.trans W.gtrans ((O.mono V).then_heap (by first|exact Ai _|exact Nat.le_succ _|omega) λb o L e=>?_) T) C Y m;exact(fW _ _ (λh:S=b=>L (by rw[h];exact Ci))).trans e
theorem AC8(J:A.handled=AG)(D:s.heap.IsRevIter it l (-1))(V:∀h',Heap.ExtBut it s.heap h'->(∃o,h'.get? it=AA o)->Q AG {s with heap:=h'}):Aw (Av prog w) A (ML (.ref it)) Q E s:=by
 lk;obtain⟨o,U,Y,W⟩:=id D;k_in;unfold ML;refine Ay (ACx (AGE (name:=MK "__next__") D.typeIs AFA (ACy AFA D.typeIs F.entry_lri_next ?_ (F.args_lri_next_1 _))));unfold Builtin.«list_reverseiterator.__next__»;refine Ay (wpAny_of_eq (a:=(DM it,[])) rfl ?_);try dsimp only
 refine Ay (hE U W (x:=rawInt (-1)) rfl ?_);show Aw _ _ (if(-1:Int)<0 then _ else _) _ _ s;rw[AHT (by decide)];refine Ay (MM ?_);first |show Aw _ _ (newExc (.type "StopIteration") []>>=_) _ _ _|(refine Ay ?_;show Aw _ _ (newExc (.type "StopIteration") []>>=_) _ _ _)
 refine Ay ?_;simp only[newExc,newTuple];refine Ay (Tv ?_ (by size_fits));refine Ay (m:=firstArgMember _ _) (wpAny_of_eq (a:=gE) (by first|rfl|(simp only[firstArgMember];rfl)) ?_);refine Tv ?_ (by size_fits);simp only[raiseNew];refine Ay (wpAny_handled ?_);first|rw[show A.in1.handled=AG from J]|rw[J]
 refine Ay (CN (wpAny_throw ?_));refine Ay (AGG (T:="StopIteration") (b:=AJ) ⟨_,ER _ rfl,rfl⟩ isSubtype_stop ?_);exact CN (V _ (((AG4 _ _).push _).push _) ⟨o,Ca _ (Ca _ U)⟩)
theorem AC3{L:Nat->AX->Prop}{Live:AX->Prop}{Q:List AK->AX->Prop}(W:WalksS prog w A.in1 I M X G n P L)(C:∀(s:AX)(Q:Option AK->AX->Prop)(E:AK->AX->Prop),L n s->(∀s',Th X G s s'->Live s'->Q AG s')->Aw (Av prog w) A.in1 (ML (.ref I)) Q E s)(K:∀i s,L i s->s.TypeIs (.ref I) "list_reverseiterator")(T:L 0 s)(R:∀b∈M,b<s.heap.objs.size)(c:I∈M)(d:∀s' V,Th X G s s'->Oe P V n->Live s'->Q V.toList s')(g:n<=As:=by size_fits):Aw (Av prog w) A (Tt (.ref I)) Q E s:=by
 have Z:s.heap.objs.size∉M:=λS=>JN _ (R _ S);have O:s.heap.objs.size≠I:=λe=>Z (e▸c);unfold Tt;refine Ay (AGN (Tr AE3 ?_));rw[fP F.plain_proto_collect _];show Aw _ A.in1 (newList []>>=λl=>again (.builtin "list.__iadd__" ⟨[l,.ref I],[]⟩)) _ _ s;refine Ay (Tv ?_);refine CN ⟨gT ACJ _,Tr AE2 ?_⟩;rw[fP ACJ _];have D:=W.frame 0 s (s.heap.push {cls:=.type "list",data:=.seq ([]:List AK).toArray}) s.toks T (Ai _) λb _ o e=>Ca _ e;have J:(s.heap.push {cls:=.type "list",data:=.seq ([]:List AK).toArray}).get? s.heap.objs.size=AA {cls:=.type "list",data:=.seq ([]:List AK).toArray}:=ER _ rfl;have a:AEp (.ref s.heap.objs.size) (.ref I)=AQ:=by simp[AEp,O]
 show Aw _ A.in1 (AEo (.ref s.heap.objs.size) (.ref I) (.ref s.heap.objs.size)) _ _ _;unfold AEo;refine Ay (AC2 (K 0 _ D) ?_);rw[AHS (by rw[a];decide)];refine Ay (W.self 0 _ _ _ D ?_);refine Ay (Qz ?_);unfold AGa;refine Ay (AC0 (K 0 _ D) AC7 ?_);show Aw _ A.in1 (specialOf (DM I) (MK "__length_hint__")>>=_) _ _ _;refine Ay (AC0 (K 0 _ D) AC5 ?_);(generalize U:("list_reverseiterator.__length_hint__":String)=H;(fail_if_success(clear U H));wp_delta;rw[show splitId H=AA ("list_reverseiterator","__length_hint__")from by subst U;decide+kernel];subst U);refine Ay (AGG (b:=AJ) (K 0 _ D) (by rw[isSubtype_type];kernel_rfl) ?_);refine CN ?_;rw[AHS (by decide)];refine CN ⟨gT fU _,AC4 W C g _ Z _ n 0 _ _ _ rfl (Bm _) D J (ItemsOf.nil P) λs' Y h S N B f=>?_⟩;show Aw _ A (load s.heap.objs.size>>=_) _ _ s';refine Ay (ACz N ?_);exact CN (d s' Y (Moved.drop_new (o:={cls:=.type "list",data:=.seq ([]:List AK).toArray}) (tk:=s.toks) S (Ai _)) B f)
theorem AC6{x:AF}{Q:AK->AX->Prop}{P:Nat->AK->Prop}{H:Nat->AX->Prop}{Live:AX->Prop}(W:WalksS prog w A.in1.in1 I R X G n P H)(B:∀(s:AX)(Q:Option AK->AX->Prop)(E:AK->AX->Prop),H n s->(∀s',Th X G s s'->Live s'->Q AG s')->Aw (Av prog w) A.in1.in1 (ML (.ref I)) Q E s)(S:∀i s,H i s->s.TypeIs (.ref I) "list_reverseiterator")(Y:H 0 s)(M:∀b∈R,b<s.heap.objs.size)(a:I∈R)(C:∀i v,P i v->∃y u,v=Qn y u)(e:∀s'(l:List (AF×HV)),Th X G s s'->Oe P (Oq l).toArray n->Live s'->JoinOk x (l.map (·.1))=AJ/\∀t' k,Q (.str (NQ x (l.map (·.1))) t') {s' with toks:=k})(O:n<=As:=by size_fits):Aw (Av prog w) A (Il (.builtin "str.join") [.str x t,.ref I]) Q E s:=by
 refine gZ (codeAny_call_builtin Qj.plain F.entry_str_join (Qj.check _ _ _ _ _ _ _ _ (Ou _ _ _) (F.args_str_join_2 _ _) ?_));rw[join_tree_other];refine Ay (AC2 (S 0 s Y) ?_);show Aw _ A.in1 ((Wr (.ref I)).tryCatch _>>=λh=>Tt h>>=λZ=>joinTail x Z) _ _ s;refine Ay (wpAny_tryCatch (W.of_in1.self 0 s _ _ Y ?_));refine Ay (AC3 W B S Y M a (λs' K d J N=>?_) O);obtain⟨l,T⟩:=exists_strValues K.toList λv f=>by obtain⟨j,c,rfl⟩:=Array.mem_iff_getElem.mp (ADR.mp f);exact C j _ (J.2 j _ (ADQ c))
 rw[<-T];have U:Oe P (Oq l).toArray n:=by rw[T];simpa using J
 obtain⟨D,V⟩:=e s' l d U N;unfold JoinOk at D;rw[Bool.not_eq_true']at D;have g:Gives (joinTail x (Oq l)) (joinMade x l):=by have L:=gives_joinTail x l D;cases l with|nil=>exact L|cons p r=>cases r with |nil=>exact L|cons q m=>exact L
 exact g prog w A (wants Q E) s' (post_join l ⟨joinFit_length D,V⟩)
noncomputable def Px(r p:AE)(n:Nat):Bw:=.ext λh=>h.IsRevIter r p ((n:Int)-1)
theorem w9{K:BB}(V:X.K=K:=by rfl):EV X (.type "reversed") (λxs H Q=>∃p ys,xs=[.ref p]/\CO K H p ys/\∀r,H r=AG->Q (.ref r) (AR H r (Px r p ys.length))):=by
 subst V;intro J s G H xs F Q I r h;lk;obtain⟨p,ys,rfl,Y,q⟩:=h;obtain⟨u,rfl,A⟩:=Fz r;cases A;obtain⟨D,B,Z,_⟩:=I.fw Y;k_in;have W:=B.ai;refine call_reversed_list Z.isList ?_;have e:((D.toArray.size:Nat):Int)-1=(ys.length:Int)-1:=by rw[Gj,W]
 rw[e];refine⟨.ref s.heap.objs.size,_,I.jb (t':=s.toks) (o:=Px s.heap.objs.size p ys.length) (λb o e=>Ca _ e) (Ai _) ?_,rfl,q _ I.ax⟩;exact⟨⟨_,ER _ rfl,rfl,rfl⟩,⟨_,ER _ rfl⟩,λC E⟨o,U,r1⟩k=>⟨o,k o U,r1⟩⟩
theorem zD{K:BB}(hc:X.fh=AJ)(hK:X.K=K:=by rfl):Kw X "str.join" (λx xs H Q=>∃(sep:AF)(r p:AE)(zs:List AF),x=.str sep/\xs=[.ref r]/\H r=AA (Px r p zs.length)/\CO K H p (zs.map AB.str)/\(zs.map (·.length)).sum+zs.length*sep.length<=16777216/\Q (.str (NQ sep zs.reverse)) (AR H r (.ext λ_=>True))):=by
  subst hK;intro pins s σ H x xs v us Q I rx rs h;lk;obtain⟨sep,r,p,zs,rfl,rfl,hr,hq,hz,q⟩:=h;obtain⟨t,rfl⟩:=rx;obtain⟨u,rfl,ru⟩:=Fz rs;cases ru;obtain⟨its,rv,pl,hlz⟩:=I.fw hq;have hl:=rv.ai;rw[Au]at hl hlz;have sa:=cO rv;obtain⟨hrev,⟨orv,eorv⟩,_⟩:C8 X.af X.w H s.heap r (Px r p zs.length):=I.bj r _ hr;have hrev:s.heap.IsRevIter r p ((zs.length:Int)-1):=hrev;obtain⟨ol,eol,_⟩:=id pl.isList;k_in;have hne:p≠r:=by rintro rfl;obtain⟨o1,e1,c1,_⟩:=pl.isList;obtain⟨o2,e2,c2,_⟩:=hrev;rw[e1]at e2;cases e2;rw[c1]at c2;exact absurd (AHK c2) (by decide)
  have W:=(Walks.listRev (prog:=X.af) (w:=X.w) (A:=X.A.in1.in1) (show X.A.in1.in1.handled=AG from I.ok.hd hc) r p hne its.toArray).toS;have hst:s.heap.IsRevIter r p ((its.toArray.size:Int)-1-((0:Nat):Int)):=by
    have e:(its.toArray.size:Int)-1-((0:Nat):Int)=(zs.length:Int)-1:=by rw[Gj,hl];simp
    rw[e];exact hrev
  refine AC6 (Live:=λs'=>∃u,s'.heap.get? r=AA u) W (λs1 Q1 E1 st hQ1=>?_) (λi s' st=>st.2.1.typeIs) ⟨Bm _,hst,pl.isList⟩ (λb hb=>?_) (by simp) (λi v hv=>?_) (λs' l hm hacc there=>?_) (by rw[Gj,<-hl];exact hlz)
  . have e:(its.toArray.size:Int)-1-(its.toArray.size:Int)=-1:=by omega
    have hit:s1.heap.IsRevIter r p ((its.toArray.size:Int)-1-(its.toArray.size:Int)):=st.2.1;rw[e]at hit;exact AC8 (show X.A.in1.in1.handled=AG from I.ok.hd hc) hit λh' he ho=>hQ1 _ ⟨λb o hb eo=>he b o (by simpa using hb) eo,rfl,rfl,rfl,Ai _⟩ ho
  . simp at hb;rcases hb with rfl|rfl;.exact Cb eorv
    .exact Cb eol
  . have hv:its.toArray[its.toArray.size-1-i]?=AA v:=hv;have hv':its[its.toArray.size-1-i]?=AA v:=by simpa using hv
    have hlt:its.toArray.size-1-i<zs.length:=by rw[hl];exact(BU.mp hv').1
    obtain⟨t',e'⟩:=sa.get (its.toArray.size-1-i) zs[its.toArray.size-1-i] (CG hlt);rw[hv']at e';exact⟨_,t',CD e'⟩
  . have e:l.map (·.1)=zs.reverse:=by
      apply dR;intro j;have hsz:l.length=zs.length:=by have:=hacc.1;simp[Oq]at this;omega
      by_cases hj:j<l.length
      . have hvj:=hacc.2 j (.str l[j].1 l[j].2) (by simp[Oq,CG hj]);have hvj:its.toArray[its.toArray.size-1-j]?=AA (.str l[j].1 l[j].2):=hvj;have hv':its[its.toArray.size-1-j]?=AA (.str l[j].1 l[j].2):=by simpa using hvj
        have e0:its.toArray.size-1-j=zs.length-1-j:=by rw[Gj,hl]
        rw[e0]at hv';have hlt:zs.length-1-j<zs.length:=by omega
        obtain⟨t',e'⟩:=sa.get (zs.length-1-j) zs[zs.length-1-j] (CG hlt);rw[hv']at e';injection e' with e';injection e' with e1 e2;rw[Bo,CG hj,List.getElem?_reverse (by omega),CG hlt];show AA l[j].1=_;rw[e1]
      .rw[WK (by simpa using F4 hj),WK (by rw[AD2];omega)]
    rw[e];refine⟨joinOk_of ?_,λt' k=>?_⟩
    . rw[List.map_reverse,List.sum_reverse,AD2];exact hz
    . have kk:∀b u,b≠r->s.heap.get? b=AA u->s'.heap.get? b=AA u:=λb u hb eb=>hm.heap b u (by simpa using hb) eb;have g1:s'.gens=s.gens:=hm.gens;have o1:s'.os=s.os:=hm.os;have d1:s'.drawn=s.drawn:=hm.drawn;lk;obtain⟨h',g',d',tk',os'⟩:=s';k_in;have g1:g'=s.gens:=g1;have o1:os'=s.os:=o1;have d1:d'=s.drawn:=d1;subst g1 o1 d1;refine⟨.str _,_,I.rj (x:=r) (e:=r) (o:=.ext λ_=>True) (t':=k) (h':=h') (by rw[hr];exact trivial) (.inl rfl) kk there ⟨trivial,there,λ_ _ _ _=>trivial⟩,⟨_,rfl⟩,q⟩
noncomputable def Gn(m:Nat):List Nat:=(eW 10 m).map iW
theorem O3(h:m<10):Gn m=[48+m]:=by
 unfold Gn;rw[Nat.toDigits_of_lt_base h];have:∀d:Nat,d<10->(Nat.digitChar d).toNat=48+d:=by decide
 rw[EI,this m h,List.map_nil]
theorem T6(h:10<=m):Gn m=Gn (m/10)++[48+m%10]:=by have D:m%10<10:=Nat.mod_lt m (by decide);have t:eW 10 (m/10)++eW 10 (m%10)=eW 10 (10*(m/10)+m%10):=Nat.toDigits_append_toDigits (by decide) (by omega) D;rw[Nat.div_add_mod]at t;have e:=O3 D;unfold Gn at e⊢;rw[<-t,CQ,e]
theorem O2(m:Nat):∀c∈Gn m,48<=c/\c<=57:=by induction m using AEP with|_ m J=>
    intro c D;by_cases h:m<10
    . rw[O3 h]at D;have:=Bc.mp D;omega
    . rw[T6 (by omega)]at D;rcases C1.mp D with q|q;.exact J (m/10) (by omega) c q
      . have:=Bc.mp q;omega
theorem T7(m:Nat):∃c r,Gn m=c::r/\(0<m->c≠48):=by induction m using AEP with|_ m J=>
 by_cases h:m<10;.exact⟨48+m,[],O3 h,λ_=>by omega⟩
 . lk;obtain⟨c,r,e,D⟩:=J (m/10) (by omega);k_in;exact⟨c,r++[48+m%10],by rw[T6 (by omega),e];rfl,λ_=>D (by omega)⟩
theorem T9(m:Nat):Gn m≠[]:=by lk;obtain⟨c,r,e,_⟩:=T7 m;k_in;rw[e];exact List.cons_ne_nil _ _
theorem T8:∀(k m:Nat),m<10^(k+1)->(Gn m).length<=k+1
 |0,m,h=>by rw[O3 (by simpa using h)];exact Ai _|k+1,m,h=>by
  by_cases D:m<10;.rw[O3 D];show 1<=_;omega
  . rw[T6 (by omega),Ba,GP];have:=T8 k (m/10) (by rw[ABr]at h;omega);omega
theorem Wz(m:Nat):NumText.digitsVal (Gn m)=m:=AHN m
theorem iY(m:Nat):(MK (Ww ((m:Nat):Int))).cps.toList=Gn m:=AHM m
inductive Ku(Pr:AB->AB->Prop):List AB->List AB->Prop where|nil:Ku Pr [] []|cons{x y:AB}{xs ys:List AB}(h:Pr x y)(t:Ku Pr xs ys):Ku Pr (x::xs) (y::ys)
theorem Ku.iq:∀{xs ys:List AB}{x y:AB},Ku D xs ys->D x y->Ku D (xs++[x]) (ys++[y])|[],_,_,_,h,p=>by cases h;exact .cons p .nil|a::xs,_,_,_,h,p=>by cases h with|cons q t=>exact .cons q (t.iq p)
theorem Ku.bh:∀{xs ys:List AB},Ku D xs ys->xs.length=ys.length|[],_,h=>by cases h;rfl|a::xs,_,h=>by cases h with|cons q t=>simp[t.bh]
theorem Ku.adt:∀{xs ys:List AB},Ku (λx y=>y=f x) xs ys->ys=xs.map f|[],_,h=>by cases h;rfl|a::xs,_,h=>by cases h with|cons q t=>rw[q,t.adt];rfl
theorem xJ(xs:List AB)(C:AB->AB->Prop)(a:xs.length<=As)(E:∀i U,Aj H U->i<xs.length->J.go i U)(F:∀U,Aj H U->J.qe xs.length U)(T:∀i x U H',Aj H U->i<xs.length->J.yu i U x H'->H'=U/\xs[i]?=AA x)(G:∀x U(R:BS),x∈xs->Aj H U->(∀y B,Aj U B->C x y->R y B)->I (AA x::Z.map (Ea A)) U R)(O:∀W U,Aj H U->Ku C xs W->∀D,U D=AG->Q (.ref D) (AR U D (.lst W))):Je 1 Z (Gg 0) M9 I A Q J H:=by
  refine⟨λi m L W H'=>m=xs.length-i/\i<=xs.length/\Aj H H'/\(∃o,L=o::Z.map (Ea A))/\Ku C (xs.take i) W,⟨xs.length,by simp,Bm _,DF H,⟨AG,rfl⟩,.nil⟩,?_⟩;intro i m L W H' N;lk;obtain⟨rfl,X,s1,⟨o,rfl⟩,f⟩:=N;k_in;by_cases Y:i<xs.length
  . refine .inr ⟨E i H' s1 Y,?_,λx U y=>?_⟩
    . have:=f.bh;rw[EH]at this;omega
    . obtain⟨M,K⟩:=T i x H' U s1 Y y;subst M;have S:x∈xs:=Cp K;show I (AA x::Z.map (Ea A)) U _;refine G x U _ S s1 λy B s2 p=>⟨xs.length-(i+1),by omega,rfl,Y,s1.aa s2,⟨AA x,rfl⟩,?_⟩;have P:xs.take (i+1)=xs.take i++[x]:=by rw[DH,K];rfl
      rw[P];exact f.iq p
  . have e:i=xs.length:=by omega
    subst e;rw[LH]at f;exact .inl ⟨F H' s1,O W H' s1 f⟩
theorem Dq.u1(r:Dq k A):A.units+1<HW:=by have:=r.un;lia
noncomputable def Nz(lo d:Int)(n:Nat):Es:=⟨λi _=>i<n,λi H x D=>D=H/\x=.int (lo+(i:Int)*d),λi _=>n<=i⟩
theorem ABM{K:BB}(it:AE)(lo d:Int)(n:Nat):K0 P w K c (Nz lo d n) [it] it (λi h=>fX h it (lo+(i:Nat)*d) ((n:Int)-(i:Nat)) d)where
 zw:=by simp
 bb:=(by simp_all)
 ab:=(λf u2 u3 L M=>M _ Ci _ L)
 si:=by intro X Q hw O C i D s R H E I F J G;subst Q hw O;lk;obtain⟨V,Y,T,Z,A,B⟩:=F it (by simp);k_in;have W:=AFs (prog:=X.af) (w:=X.w) (I.ok.hd C) it lo d n;refine W.item i s _ _ G J λv N e a U b=>?_;obtain⟨t,rfl⟩:=a;have S:AY X _ R H {s with heap:=N,toks:=e}:=I.cb (λf u2 u3 L=>b _ _ (Oa u3 (λM=>Bc.mp M)) L) V Y Z A B;exact⟨_,rfl,Mu U rfl rfl (by decide) ⟨.int _,H,S,⟨t,rfl⟩,⟨rfl,rfl⟩,U,(by(simp[*]))⟩⟩
 rq:=by intro X Q hw O C i D s R H E I F J G;lk;obtain⟨V,Y,T,Z,A,B⟩:=F it (by simp);k_in;exact AGM (I.ok.hd C) J (by have:=G;exact ADo (jI.mp this)) λN g=>⟨rfl,I.cb (by assumption) V Y Z A B⟩
 ux:=λ_ _ _ _ _ J h=>AGL J h
noncomputable def FL(lo hi d:Int):Nat:=if lo<hi then((hi-lo-1)/d+1).toNat else 0
theorem Sx{lo:Int}(D:1<=d):fQ lo hi d=(FL lo hi d:Int):=by
 unfold fQ FL;rw[AHT (by assumption)];split
 . have:0<=(hi-lo-1)/d:=ADZ (by lia) (NV D);exact Int.eq_natCast_toNat.mpr (Int.le_add_one this)
 .rfl
theorem dC{lo:Int}(J:1<=d):(FL lo hi d:Int)<=(if lo<hi then hi-lo else 0):=by
 unfold FL;split
 . have D:(hi-lo-1)/d<=hi-lo-1:=Int.ediv_le_self _ (by lia);omega
 simp
theorem AAi(D:1<=c)(V:c<1000000)(W:-(2^40)<=a)(J:a<2^40)(Y:-(2^40)<=b)(U:b<2^40):fR a b c=AJ:=by have h:=dC (lo:=a) (hi:=b) D;have Z:=Sx (lo:=a) (hi:=b) D;unfold fR;simp only[AEr,O0,iV,AHY,AHe,show c>0 by assumption,AHb];(constructor<;>lia)
theorem AAY{K:BR}{lo:Int}(I:AY X D U H s)(V:1<=d)(W:d<1000000)(A:-(2^40)<=lo)(B:lo<2^40)(C:-(2^40)<=hi)(F:hi<2^40)(q:R (Nz lo d (FL lo hi d)) H):Aw (Av X.af X.w) X.A (Wr (.ref s.heap.objs.size)) (VR X D U K R) E {s with heap:=s.heap.push {cls:=.type "range",data:=.fields #[.int lo t,.int hi u,.int d v]},toks:=tk}:=by
  refine AGK (ACR ..) (AAi V W A B C F) ?_;have J:AY X _ U H {s with heap:=s.heap.push {cls:=.type "range",data:=.fields #[.int lo t,.int hi u,.int d v]},toks:=tk}:=I.ff λb o e=>Ca _ e;refine⟨_,_,_,_,H,rfl,J.ff λb o e=>Ca _ e,ABM _ lo d _,?_,λb G=>?_,q⟩
  . have Y:lo+((0:Nat))*d=lo:=by simp
    have Z:((FL lo hi d))-((0:Nat))=fQ lo hi d:=by rw[Sx V];rfl
    show fX _ _ _ _ d;rw[Y,Z];exact ER _ rfl
  . have e:=Bc.mp G;subst e;exact J.pj (Ai _) (J.bj.ax (Ai _))
def yL(J:FY):FZ:=λV H R=>J V H λU D=>SM (λ(i j d:Int)=>U=[.int i,.int j,.int d]) (λi j d=>(1<=d/\d<1000000/\-(2^40)<=i/\i<2^40/\-(2^40)<=j/\j<2^40)) (λi j d=>R (Nz i d (FL i j d)) D)
theorem AAI(E:Gd X "range")(F:X.mg "range"=AG)(C:Ge X [a,b,c] Z)(P:Cj [a,b,c] X.ae=[(AQ,BX a X.ae),(AQ,BX b X.ae),(AQ,BX c X.ae)]:=by rfl)(J:Cj [b,c] X.ae=[(AQ,BX b X.ae),(AQ,BX c X.ae)]:=by rfl):FJ X S (.Call (.Name "range" p) [a,b,c] [] U) (yL Z):=by intro Y s N H R I h;refine WZ (KH I E F fC (Qe (BI (C _ _ s N H _ I h) λT s1⟨f,O,A,r1,V⟩=>?_) (by simp_all) (by rw[J];rfl)));lk;obtain⟨i,j,d,e,⟨W,B,V,G,K,L⟩,q⟩:=V;k_in;subst e;cases r1 with|cons r D=>cases D with|cons M D=>cases D with|cons r2 D=>lk;cases D;obtain⟨t,rfl⟩:=r;obtain⟨Q,rfl⟩:=M;obtain⟨t2,rfl⟩:=r2;k_in;exact call_range_3 (LR W) (AAY A W B V G K L q) (.inl (ACB (by grind)))
theorem yB{lo d:Int}{n:Nat}{g:Ef}{C:C0}{D:IV}{J:Ap}{H:AI}(Z:Nat->Ap->AI->Prop)(E:Z 0 J H)(K:∀i J H,i<n->Z i J H->g (.int (lo+(i:Int)*d)) J H λY A=>C {D with nx:=Z (i+1),ct:=Z (i+1),bk:=D.nx} Y A)(G:∀J H,Z n J H->D.nx J H):∃W:Nat->Nat->Ap->AI->Prop,(∃m,W 0 m J H)/\∀i m J H,W i m J H->((Nz lo d n).qe i H/\D.nx J H)\/((Nz lo d n).go i H/\∃N:Ap->AI->Prop,(∀V H',N V H'->∃B,B<m/\W (i+1) B V H')/\∀x H',(Nz lo d n).yu i H x H'->g x J H' λY A=>C {D with nx:=N,ct:=N,bk:=D.nx} Y A):=by
 refine⟨λi m J H=>m=n-i/\i<=n/\Z i J H,⟨n,by simp,Bm _,E⟩,?_⟩;intro i m J H F;lk;obtain⟨rfl,I,p⟩:=F;k_in;by_cases U:i<n
 . refine .inr ⟨U,_,λV H' L=>⟨_,JO _ _ U,rfl,U,L⟩,λx H' y=>?_⟩;obtain⟨e,y⟩:=y;subst e y;exact K i J _ U p
 . have e:=Eb I (F4 U);subst e;exact .inl ⟨Ai _,G J H p⟩
theorem AAK(r:X.N.Nodup)(N:X.N[R]?=AA y)(P:Lf X.ae.scope y)(M:X.fn y=AJ\/X.ae.scope.names.lookup y=AA .local)(u:X.fh=AJ)(hi:FJ X G U wi)(hk:J.kind=.function)(Z:∀y∈J.names,y.2≠.cell)(V:∀y∈J.names,y.2=.local->J.names.lookup y.1=AA .local)(A:∀y∈J.names,y.2=.free->X.ae.kindOf y.1=AA .cell\/X.ae.kindOf y.1=AA .free)(L:Kv X J E)(z:∀C s H ex,Kx (Ds X J (own++E.map (·.1)) C s H ex) G g)(ht:∀C s H ex,Ky (Ds X J (own++E.map (·.1)) C s H ex) B d)(w:∀C s H ex,Ar (Ds X J (own++E.map (·.1)) C s H ex) Y c)(O:Ot (.ListComp Y [⟨G,U,B,0⟩] J F) (AA (.Name y T)) W.line X.ae=Be AJ)(hs:∀x,Ol U X.ae x=Be x:=by intro _;rfl):EW X (.Assign [.Name y T] (.ListComp Y [⟨G,U,B,0⟩] J F) W) (Sz (M8 own.length (E.map (·.2)) wi g d c) (Gg R)):=by
 intro S s σ H D0 I h;rw[exec_Assign_Name_used _ _ _ _ O];refine Ay (AC1 (Ay ?_));refine Ay (IF (Zx u hi hk Z V A L z ht w hs I h λD C m s4 H5 v f hn n p j k l q=>?_) (λ_ s' hq=>CN (CN hq)) λ_ _ e=>e);refine AGD (cM f r N P (v:=.ref D) rfl (λs5 i⟨a,Q,ha⟩=>?_) M);have K:C≠a:=by grind
 exact⟨m,Heap.Ns.sameBut hn Q K,λh' sb=>⟨_,_,i.cb (λb o t e=>(sb.2 b t).trans e) n p (.inr j) k l,q⟩⟩
theorem OL(B:List (AF×Nat))(R:X.N.Nodup)(G:X.N[i]?=AA y)(L:Lf X.ae.scope y)(S:X.fh=AJ)(hi:FJ X (.Name x M) J wi)(c:X.ae.scope=osc)(b:D.kind=.function)(Y:∀y∈D.names,y.2≠.cell)(U:∀y∈D.names,y.2=.local->D.names.lookup y.1=AA .local)(Z:∀y∈D.names,y.2=.free->osc.names.lookup y.1=AA .cell\/osc.names.lookup y.1=AA .free)(F:Kv X D B)(N:D.names.lookup x=AA .local)(I:(x::B.map (·.1)).Nodup)(f:∀C s H ex,Ky (Ds X D (x::B.map (·.1)) C s H ex) A Q)(T:∀C s H ex,Ar (Ds X D (x::B.map (·.1)) C s H ex) W P)(K:Ot (.ListComp W [⟨.Name x M,J,A,0⟩] D E) (AA (.Name y O)) V.line X.ae=Be AJ:=by rfl)(a:X.fn y=AJ\/X.ae.scope.names.lookup y=AA .local:=by first|exact .inl rfl|exact .inr rfl|assumption)(d:∀x,Ol J X.ae x=Be x:=by intro _;rfl):EW X (.Assign [.Name y O] (.ListComp W [⟨.Name x M,J,A,0⟩] D E) V) (Sz (M8 1 (B.map (·.2)) wi (Gg 0) Q P) (Gg i)):=AAK (own:=[x]) R G L a S hi b Y U (λy g e=>by show X.ae.scope.names.lookup _=_\/X.ae.scope.names.lookup _=_;rw[c];exact Z y g e) F (λC s H ex=>Jm I rfl (.inl (Oo N)) (.inr (Oo N))) f T K d
theorem AAj(D:1<=c)(V:c<=2000000)(W:-(2^40)<=a)(J:a<2^40)(Y:-(2^40)<=b)(U:b<2^40):fR a b c=AJ:=by have h:=dC (lo:=a) (hi:=b) D;have Z:=Sx (lo:=a) (hi:=b) D;unfold fR;simp only[AEr,O0,iV,AHY,AHe,show c>0 by assumption,AHb];(constructor<;>lia)
theorem HQ:∀{D:List U}{J:List V},D.length=J.length->(∀(i:Nat)a b,D[i]?=AA a->J[i]?=AA b->F a b)->Bf F D J|[],[],_,_=>.nil|a::D,b::J,W,h=>.cons (h 0 a b rfl rfl) (HQ (AED.mp W) λi x y Y Z=>h (i+1) x y (by assumption) (by assumption))
noncomputable def QR(i j d:Int):List Int:=(Ei (FL i j d)).map λk:Nat=>i+(k:Int)*d
theorem V1(i j d:Int):(QR i j d).length=FL i j d:=by unfold QR;simp
theorem AAa(h:k<FL i j d):(QR i j d)[k]?=AA (i+(k:Int)*d):=by unfold QR;simp_all
def AA5(J:FY):BH:=λW H Q=>J W H λU D=>SM (λ(i j d:Int)=>U=[.int i,.int j,.int d]) (λi j d=>(1<=d/\d<=2000000/\-(2^40)<=i/\i<2^40/\-(2^40)<=j/\j<2^40/\FL i j d<=16777216)) (λi j d=>∀l,D l=AG->Q (.ref l) (AR D l (.lst ((QR i j d).map AB.int))))
theorem AAC(l:X.fh=AJ)(Z:Gd X "list")(B:X.mg "list"=AG)(m:Gd X "range")(v:X.mg "range"=AG)(g:Ge X [a,b,c] O)(hs:Cj [a,b,c] X.ae=[(AQ,BX a X.ae),(AQ,BX b X.ae),(AQ,BX c X.ae)]:=by rfl)(C:Cj [b,c] X.ae=[(AQ,BX b X.ae),(AQ,BX c X.ae)]:=by rfl)(w:Cj [.Call (.Name "range" F) [a,b,c] [] D] X.ae=[(AQ,BX (.Call (.Name "range" F) [a,b,c] [] D) X.ae)]:=by rfl):Ar X (.Call (.Name "list" p) [.Call (.Name "range" F) [a,b,c] [] D] [] G) (AA5 O):=by intro U s P H Q I h;refine Qy (KH I Z B MC ?_);refine Qe ?_ (by rfl) rfl;refine NM ?_;refine WZ (KH I m v fC (Qe (BI (g D U s P H _ I h) λus s1⟨vs,R,L,r1,K⟩=>?_) (by simp_all) (by rw[C];rfl)));lk;obtain⟨i,j,d,e,⟨Y,T,K,z,q3,q4,N⟩,q⟩:=K;k_in;subst e;cases r1 with|cons r V=>cases V with|cons r' V=>cases V with|cons r2 V=>
        lk;cases V;obtain⟨t,rfl⟩:=r;obtain⟨t',rfl⟩:=r';obtain⟨t2,rfl⟩:=r2;k_in;refine call_range_3 (LR Y) ?_ (.inl (ACB (by grind)));refine Qi ?_;have M:AY X U P R {s1 with heap:=s1.heap.push {cls:=.type "range",data:=.fields #[.int i t,.int j t',.int d t2]},toks:=s1.toks}:=L.ff λb o e=>Ca _ e;refine call_list_range (L.ok.hd l) (ACR ..) (AAj Y T K z q3 q4) (Sx Y) N λf tk W S n hS J=>?_;refine⟨.ref _,_,M.jb n (Ai _) (show C8 X.af X.w _ f _ (.lst _)from⟨?_,W.toList,S,?_,by assumption⟩),rfl,q _ (M.bj.ax (Ai _))⟩
        . rw[Au,V1];exact N
        . refine HQ (by rw[Au,V1,MN,J.1]) λk x u E y=>?_;have A:k<FL i j d:=by have:=(BU.mp E).1;rw[Au,V1]at this;assumption
          rw[Bo,AAa A]at E;obtain⟨tk',e⟩:=J.2 k u (by(simpa using y));rw[<-CD E,e];exact⟨_,rfl⟩
theorem Zt{K:BB}(B:X.fh=AJ)(A:X.K=K:=by rfl):EV X (.builtin "min") (λxs H Q=>∃(p:AE)(ns:List Int),xs=[.ref p]/\CO K H p (ns.map AB.int)/\0<ns.length/\∀M,M∈ns->(∀a,a∈ns->M<=a)->Q (.int M) H):=by
 subst A;intro Z s i H xs g Q I r h;lk;obtain⟨p,ns,rfl,G,F,q⟩:=h;obtain⟨u,rfl,P⟩:=Fz r;cases P;obtain⟨N,R,O,d⟩:=I.fw G;have Y:=aD R;obtain⟨D,e⟩:=Y.allInts.items;k_in;have J:ns=D.toList.map (·.1):=by rw[<-AF6,<-e];exact(show numsOf _=ns from Y.numsOf).symm
 have U:0<D.size:=by simp_all
 have E:=e▸O.isList;refine min_intList (I.ok.hd B) E U λv S f L C=>?_;lk;obtain⟨t,rfl⟩:=intItems_at L;obtain⟨T,b⟩:=argBest_lt (numAt D) (D.size-1);k_in;refine⟨.int _,H,I.ff C,⟨_,rfl⟩,q _ ?_ λa W=>?_⟩;.rw[gS];grind
 . rw[J]at W;lk;obtain⟨j,c,rfl⟩:=mem_getD W;k_in;rw[<-gS];grind
theorem wZ{K:BB}(B:X.fh=AJ)(A:X.K=K:=by rfl):EV X (.builtin "max") (λxs H Q=>∃(p:AE)(ns:List Int),xs=[.ref p]/\CO K H p (ns.map AB.int)/\0<ns.length/\∀M,M∈ns->(∀a,a∈ns->a<=M)->Q (.int M) H):=by
 subst A;intro Z s i H xs g Q I r h;lk;obtain⟨p,ns,rfl,G,F,q⟩:=h;obtain⟨u,rfl,P⟩:=Fz r;cases P;obtain⟨N,R,O,d⟩:=I.fw G;have Y:=aD R;obtain⟨D,e⟩:=Y.allInts.items;k_in;have J:ns=D.toList.map (·.1):=by rw[<-AF6,<-e];exact(show numsOf _=ns from Y.numsOf).symm
 have U:0<D.size:=by simp_all
 have E:=e▸O.isList;refine max_intList (I.ok.hd B) E U λv S f L C=>?_;lk;obtain⟨t,rfl⟩:=intItems_at L;obtain⟨T,b⟩:=argBest_gt (numAt D) (D.size-1);k_in;refine⟨.int _,H,I.ff C,⟨_,rfl⟩,q _ ?_ λa W=>?_⟩;.rw[gS];grind
 . rw[J]at W;lk;obtain⟨j,c,rfl⟩:=mem_getD W;k_in;rw[<-gS];grind
theorem Z5:∀ys zs:List Int,AFQ (ys.map Og) (zs.map Og)=Ab (ys=zs)|[],[]=>rfl|[],_::_=>rfl|_::_,[]=>rfl|y::ys,z::zs=>by show(AFP _ _&&AFQ _ _)=_;rw[Z5 ys zs];show((y==z)&&Ab _)=_;grind
theorem Sb:∀ys:List Int,AFM (ys.map Og)=AJ/\AFO (ys.map Og)=0|[]=>⟨rfl,rfl⟩|y::r=>by obtain⟨a,b⟩:=Sb r;simp[AFM,ACS,AFO,AFN,a,b]
theorem DE.zj(l:List AE)(x:DE P w H h)(J:∀a∈l,H a=AG)(k:∀b u,b∉l->h.get? b=AA u->h'.get? b=AA u):DE P w H h':=by intro b u e;refine(x b u e).uy (λc v D q=>k c v ?_ q) (λ_ q=>q) λ_ _ q=>q;grind
noncomputable def N0(K:BB)(a:AE):Es:=⟨λi H=>∃D x,CO K H a D/\D[i]?=AA x,λi H x J=>∃p y,x=.ref p/\H p=AG/\J=AR H p (.tup [.int (i:Int),y])/\∀D,CO K H a D->D[i]?=AA y,λi H=>∃D,CO K H a D/\D.length<=i⟩
theorem ABJ{K:BB}(a e it:AE)(L:e≠it):K0 P w K (.Tuple B x1 O) (N0 K a) [e,it] e (λi h=>(∃D,IsEnum h e it i D)/\h.IsListIter it a i)where
 zw:=by simp
 bb:=λi h J b U=>by lk;obtain⟨⟨D,W⟩,o,e2,c,d⟩:=J;k_in;grind
 ab:=λi h h' J k=>by lk;obtain⟨⟨D,W⟩,J⟩:=J;k_in;exact⟨(by grind),J.at (λu1 u2=>k _ (List.singleton_sublist.mp (List.sublist_cons_self _ _)) _ u2)⟩
 si:=by
  intro X T hw S hc i N s σ H E I Z J g;subst T hw S;lk;obtain⟨xs,x,Q,A⟩:=g;obtain⟨m,r,p,hz⟩:=I.fw Q;obtain⟨u,hu,ru⟩:=r.se A;obtain⟨⟨D,W⟩,V⟩:=J;obtain⟨y,f1,f2,f3,f4,f5⟩:=Z e (by simp);obtain⟨g0,g1,g2,g3,g4,g5⟩:=Z it (by simp);k_in;have R:e<s.heap.objs.size:=Cb W;have ilt:it<s.heap.objs.size:=by obtain⟨o,q,_⟩:=id V;exact Cb q
  refine wpAny_pyNext_enum_item W V p.isList (x:=u) (by simpa using hu) L λh' eo F ht hsz kk=>⟨_,rfl,wpAny_letOwnedTupleGo_enum eo λC he2 t=>?_⟩;have M:H s.heap.objs.size=AG:=I.bj.ax (Ai _);have pe:s.heap.objs.size≠e:=NG R;have Y:∀b o,b∉[e,it]->s.heap.get? b=AA o->C.get? b=AA o:=λb o U q=>by have v:b≠e:=λz=>U (by simp[z]);have b2:b≠it:=λz=>U (by simp[z]);exact(t.2 b v).trans (kk b o v b2 q)
  have G:C.IsListIter it a (i+1):=by obtain⟨o,q,c,d⟩:=id F;exact⟨o,(t.2 it (λz=>L z.symm)).trans q,c,d⟩
  have l:=(t.2 _ pe).trans ht;have j:DE X.af X.w (AR H s.heap.objs.size (.tup [.int (i:Int),x])) C:=by refine(I.bj.zj [e,it] (λb U=>(Z b U).1) Y).zr M ?_;exact⟨show 2<=As by decide,[.int i s.toks,u],.cons ⟨_,rfl⟩ (.cons ru .nil),⟨_,l,rfl,_,rfl⟩⟩
  have un:Hw (Gv X.cw) [e,it] H (AR H s.heap.objs.size (.tup [.int (i:Int),x])) s.heap C:=by
   refine⟨(λu1 u2 u3 u4 u5 u6=>Y _ _ u6 u3),λb o q n U A=>⟨o.slots,Y b o A q⟩,λb o q n A=>?_,(by grind),λb ys q=>?_,λb o u q=>?_,λb ps q=>?_⟩;.rw[Aa (Dv (Cb q))];exact n
   .rw[Aa (Bh q M)];exact q
   .rw[Aa (Bh q M)];exact q
   .exact⟨#[],by rw[Aa (Bh q M),ADP];exact q⟩
  have I2:=I.yy (s':={s with heap:=C,toks:=s.toks+1}) (ch:=[e,it]) rfl un j I.il (by grind);refine⟨.ref s.heap.objs.size,_,I2,rfl,⟨_,x,rfl,M,rfl,λys hy=>by rw[I.vz hy Q];exact A⟩,⟨⟨u,?_⟩,G⟩,λb U=>?_⟩;.assumption
  . have f:b≠s.heap.objs.size:=(by grind);rw[Aa f];exact(Z b U).1
 rq:=by intro X T hw S hc i N s σ H E I Z J g;subst T hw S;lk;obtain⟨xs,Q,A⟩:=g;obtain⟨m,r,p,hz⟩:=I.fw Q;obtain⟨⟨D,W⟩,V⟩:=J;obtain⟨y,f1,f2,f3,f4,f5⟩:=Z it (by simp);k_in;have hl:=r.ai;exact wpAny_pyNext_enum_end (I.ok.hd hc) W V p.isList (by simp;simp_all) λh' eb=>⟨rfl,I.cb (t':=s.toks) (λb o U e=>eb b o U e) y f1 f3 f4 f5⟩
 ux:=λ_ _ _ _ _ J h=>by lk;obtain⟨⟨D,W⟩,_⟩:=J;k_in;exact AGI W h
def yI(K:BB)(J:BH):FZ:=λV H R=>J V H λx D=>Lh (λa=>x=.ref a) (λa=>(∃U,CO K D a U)) (λa=>R (N0 K a) D)
theorem QM{K:BB}(L:Gd X "enumerate")(O:X.mg "enumerate"=AG)(N:Ar X l A)(E:X.K=K:=by rfl)(Y:Cj [l] X.ae=[(AQ,BX l X.ae)]:=by rfl):FJ X (.Tuple J d V) (.Call (.Name "enumerate" p) [l] [] W) (yI K A):=by
 subst E;intro Z s f H R I h;refine WZ (KH I L O boot_enumerate (Qe ?_ Y rfl));rw[Y];refine NM (BI (N _ s f H _ I h) λv s1 U=>?_);lk;obtain⟨x,B,D,r1,c⟩:=U;k_in;refine Qi ?_;lk;obtain⟨a,e,⟨k,P⟩,q⟩:=c;k_in;subst e;lk;cases r1;obtain⟨S,j,p,i⟩:=D.fw P;k_in;refine call_enumerate_list p.isList λg G M Q T=>?_;have C:=D.ff (t':=s1.toks) T;refine AGI G ?_;refine⟨_,_,_,_,B,rfl,C,ABJ a _ _ (Nat.add_one_ne_self _),(by grind),λb F=>?_,q⟩;rcases BY.mp F with z|z;. subst z;exact D.pj (TX _) (D.bj.ax (TX _))
 . have z:=Bc.mp z;subst z;exact D.pj (Ai _) (D.bj.ax (Ai _))
theorem z9(A:List (AF×Nat))(K:X.fh=AJ)(hi:FJ X (.Tuple [.Name x N,.Name y O] M V) J wi)(T:X.ae.scope=osc)(S:D.kind=.function)(W:∀y∈D.names,y.2≠.cell)(U:∀y∈D.names,y.2=.local->D.names.lookup y.1=AA .local)(Y:∀y∈D.names,y.2=.free->osc.names.lookup y.1=AA .cell\/osc.names.lookup y.1=AA .free)(G:Kv X D A)(L:D.names.lookup x=AA .local)(F:D.names.lookup y=AA .local)(B:(x::y::A.map (·.1)).Nodup)(b:∀C s H ex,Ky (Ds X D (x::y::A.map (·.1)) C s H ex) E Q)(R:∀C s H ex,Ar (Ds X D (x::y::A.map (·.1)) C s H ex) Z P)(a:∀x,Ol J X.ae x=Be x:=by intro _;rfl):Ar X (.ListComp Z [⟨.Tuple [.Name x N,.Name y O] M V,J,E,0⟩] D I) (M8 2 (A.map (·.2)) wi (Vj X.K 2 (Vi (Gg 0) (Vi (Gg 1) Z8))) Q P):=bM (own:=[x,y]) K hi S W U (λy F e=>by show X.ae.scope.names.lookup _=_\/X.ae.scope.names.lookup _=_;rw[T];exact Y y F e) G (λC s H ex=>bR (show(Ds X _ _ C s H ex).fh=AJ from K) (IA (Jm B rfl (.inl (Oo L)) (.inr (Oo L))) (IA (Jm B rfl (.inl (Oo F)) (.inr (Oo F))) M4))) b R a
theorem SR{K:BB}{a:AE}{xs:List AB}{g:Ef}{F:C0}{D:IV}{J:Ap}{H:AI}(Y:Nat->Ap->AI->Prop)(G:Y 0 J H)(M:∀i J H,i<=xs.length->Y i J H->CO K H a xs)(P:∀(i:Nat)x J H p,xs[i]?=AA x->Y i J H->H p=AG->g (.ref p) J (AR H p (.tup [.int (i:Int),x])) λA B=>F {D with nx:=Y (i+1),ct:=Y (i+1),bk:=D.nx} A B)(L:∀J H,Y xs.length J H->D.nx J H):∃W:Nat->Nat->Ap->AI->Prop,(∃m,W 0 m J H)/\∀i m J H,W i m J H->((N0 K a).qe i H/\D.nx J H)\/((N0 K a).go i H/\∃N:Ap->AI->Prop,(∀Z H',N Z H'->∃E,E<m/\W (i+1) E Z H')/\∀x H',(N0 K a).yu i H x H'->g x J H' λA B=>F {D with nx:=N,ct:=N,bk:=D.nx} A B):=by
 refine⟨λi m J H=>m=xs.length-i/\i<=xs.length/\Y i J H,⟨xs.length,by simp,Bm _,G⟩,?_⟩;intro i m J H I;lk;obtain⟨rfl,C,p⟩:=I;k_in;have q:=M i J H C p;by_cases U:i<xs.length
 . refine .inr ⟨⟨xs,xs[i],q,by simp[U]⟩,_,λZ H' R=>⟨_,JO _ _ U,rfl,U,R⟩,λx H' y=>?_⟩;lk;obtain⟨r,z,rfl,O,rfl,Q⟩:=y;k_in;exact P i z J H r (Q xs q) p O
 . have e:=Eb C (F4 U);subst e;exact .inl ⟨⟨xs,q,Ai _⟩,L J H p⟩
theorem xF{K:BB}(G:Nat->AB->Bool)(f:Nat->AB->AB)(n:xs.length<=As)(M:∀J,Aj H J->CO K J a xs)(k:∀(i:Nat)x p E F J(R:Ap->AI->Prop),xs[i]?=AA x->Aj H J->J p=AA (.tup [.int (i:Int),x])->R (AA (.int (i:Int))::AA x::C.map (Ea I)) J->g (.ref p) (E::F::C.map (Ea I)) J R)(O:∀(i:Nat)x J(R:Bool->AI->Prop),xs[i]?=AA x->Aj H J->(∀B,Aj J B->R (G i x) B)->X (AA (.int (i:Int))::AA x::C.map (Ea I)) J R)(N:∀(i:Nat)x J(R:BS),xs[i]?=AA x->G i x=AJ->Aj H J->(∀B,Aj J B->R (f i x) B)->S (AA (.int (i:Int))::AA x::C.map (Ea I)) J R)(j:∀J,Aj H J->∀D,J D=AG->Q (.ref D) (AR J D (.lst (((OW (Ei xs.length) xs).filter λq=>G q.1 q.2).map λq=>f q.1 q.2)))):Je 2 C g X S I Q (N0 K a) H:=by
  refine⟨λi m b Z L=>m=xs.length-i/\i<=xs.length/\Aj H L/\(∃E F,b=E::F::C.map _)/\Z=((((OW (Ei xs.length) xs).take i).filter λq=>G q.1 q.2).map λq=>f q.1 q.2),⟨xs.length,by simp,Bm _,DF H,⟨_,_,rfl⟩,rfl⟩,?_⟩;intro i m b Z L h;lk;obtain⟨rfl,l,s1,⟨E,F,rfl⟩,U⟩:=h;k_in;have P:(OW (Ei xs.length) xs).length=xs.length:=by simp
  by_cases W:i<xs.length
  . have Y:=CG W;have T:(OW (Ei xs.length) xs).take (i+1)=(OW (Ei xs.length) xs).take i++[(i,xs[i])]:=by
      rw[DH];have:(OW (Ei xs.length) xs)[i]?=AA (i,xs[i]):=by rw[L6];exact⟨by simp[W],Y⟩
      rw[this];rfl
    refine .inr ⟨⟨xs,_,M _ s1,Y⟩,?_,λx J y=>?_⟩
    . have:Z.length<=i:=by rw[U,Au];refine Ag (Fh _ _) ?_;rw[EH];exact LJ _ _
      exact Bl (HS this W) n
    . lk;obtain⟨p,z,rfl,r,rfl,s⟩:=y;k_in;have c:=CD ((s xs (M _ s1)).symm.trans Y);subst c;have s2:=s1.dz (o:=.tup [.int (i),xs[i]]) r;refine k i _ p E F _ _ Y s2 Ak ?_;refine O i _ _ _ Y s2 λB s3=>?_;cases A:G i _ with |true=> refine N i _ _ _ Y A (s2.aa s3) λt s4=>⟨_,JO _ _ W,rfl,W,(s2.aa s3).aa s4,⟨_,_,rfl⟩,?_⟩;rw[T,F0,CQ,<-U];simp[A]|false=>refine⟨_,JO _ _ W,rfl,W,s2.aa s3,⟨_,_,rfl⟩,?_⟩;rw[T,F0,CQ,<-U];simp[A]
  . have e:=Eb l (F4 W);subst e;rw[Dj (by rw[P];exact Ai _)]at U;exact .inl ⟨⟨xs,M _ s1,Ai _⟩,λD d=>by rw[U];exact j L s1 D d⟩
theorem ABG(l:AE)(D:Array AK)(n:Nat)(F:Option AE)(Q:Array (Option AK))(x:AK)(e:AK->Bool)(K:∀y,y∈D->MeetsSeq.EqGives y x (e y))(j:Nat)(L:j<D.size)(Z:e D[j]=AJ)(B:∀m(X:m<D.size),m<j->e D[m]=AQ):Meets (Builtin.«tuple.index» ⟨[.ref l,x],[]⟩) (λ_ R s=>s.heap.get? l=AA {cls:=.type "tuple",dict:=F,data:=.seq D n,slots:=Q}/\R (.ok (.ret (.int j s.toks))) {s with toks:=s.toks+1}):=.of_wp λJ w A R s h=>by
    lk;obtain⟨N,g,d,S,P⟩:=s;obtain⟨M,h⟩:=h;k_in;wp_walk using wpAny_loadPart' M;change Aw (Av J w) A.in1 (IH [:DR D.size D.size] ((AG,()):Option fV×Unit) _) _ _ _;rw[AHQ];simp only[AHR,Nat.sub_zero,Nat.add_sub_cancel,Nat.div_one,Nat.min_self];refine hG _ (λU b E=>∃k,U=List.range' k (D.size-k) 1/\k<=j/\b.1=AG/\E=(⟨N,g,d,S,P⟩:AX)) _ ?_ ?_ _ _ ⟨0,rfl,Bm _,rfl,rfl⟩
    . intro i U b E I;lk;obtain⟨k,C,Y,T,rfl⟩:=I;k_in;have V:k<D.size:=(HS Y L);rw[show D.size-k=(D.size-(k+1))+1 by exact Nat.sub_one_cancel (WV.mpr V) (ABm _ (by decide)) (Nat.eq_sub_of_add_eq rfl),List.range'_succ]at C;injection C with G H;subst G H;have O:D[i]?=AA D[i]:=(by simp);simp only[O];refine Ay (K _ (Array.getElem_mem V) J w _ _ _ _ ?_);by_cases W:i=j;. subst W;rw[Z];wp_walk;exact⟨_,rfl,h⟩
      . rw[B i V (DT Y W)];wp_walk;grind
    grind
theorem cP{ys:List AF}{its:List AK}(r:Bb (ys.map AB.str) its){i:Nat}{z:AF}(h:ys[i]?=AA z):∃t,its[i]?=AA (.str z t):=by lk;obtain⟨u,D,t,rfl⟩:=r.se (i:=i) (x:=.str z) (by simp_all);k_in;(constructor<;>omega)
noncomputable def cN(z:AF):AK->Bool|.str y _=>y==z|_=>AQ
theorem zE{K:BB}(P:X.K=K:=by rfl):Kw X "tuple.index" (λx xs H Q=>∃(p:AE)(ys:List AF)(z:AF)(j:Nat),x=.ref p/\xs=[.str z]/\CB K H p (ys.map AB.str)/\ys[j]?=AA z/\(∀m,m<j->ys[m]?≠AA z)/\Q (.int (j:Int)) H):=by
 subst P;intro M s w H x xs v r Q I k g h;lk;obtain⟨p,ys,z,j,rfl,rfl,d,G,b,q⟩:=h;cases k;obtain⟨u,rfl,t,rfl⟩:=Fz g;obtain⟨D,E,e,o⟩:=I.de d;obtain⟨⟨c,N,O,l⟩,L,Z,n,A⟩:=e;k_in;have Z:c=.type "tuple":=Z;have A:O=.seq D.toArray n:=A;subst Z A;have T:=E.ai;rw[Au]at T;have B:j<ys.length:=(by grind);have R:∀y,y∈D.toArray->MeetsSeq.EqGives y (.str z t) (cN z y):=λy f=>by obtain⟨i,S,rfl⟩:=Gz.mp (by simpa using f);obtain⟨Y,J⟩:=cP E (CG (by simp_all:i<ys.length));rw[CG S]at J;rw[CD J];exact AEb _ _ _ _
 have U:∀m(W:m<D.toArray.size),∃Y,D.toArray[m]=.str (ys[m]'(by simp at W;simp_all)) Y:=λm W=>by
  have C:m<ys.length:=by simp at W;simp_all
  obtain⟨Y,J⟩:=cP E (CG C);grind
 refine NS AFC ⟨_,L,rfl⟩ F.entry_tuple_index (by rfl) (ABG p D.toArray n N l (.str z t) (cN z) R j (by simp;simp_all) ?_ ?_) ⟨L,⟨.int (j:Int),H,I.dw _,⟨_,rfl⟩,q⟩⟩
 . obtain⟨Y,J⟩:=U j (by simp;simp_all);rw[J];rw[CG B]at G;show(ys[j]==z)=AJ;(simpa using G)
 . intro m W a;obtain⟨Y,J⟩:=U m W;rw[J];show(ys[m]==z)=AQ;grind
theorem yP{c A B:Prop}[Decidable c](D:c)(h:A):if Ab c=AJ then A else B:=by rw[AHV D];exact GL h
theorem SV{c A B:Prop}[Decidable c](D:¬c)(h:B):if Ab c=AJ then A else B:=by rw[AHW D];exact HM h
structure wC(K:BB)(C:AE):Prop where
 ga:ID K (.ref C) "__getattribute__"=AA (AA (.builtin "BaseException.__getattribute__"))gt:ID K (.ref C) "__getattr__"=AA AG
 ck:ID K (.ref C) "__class__"=AA (AA (.builtin "object.__class__"))sb:gP K (.ref C) (.type "BaseException")=AA AJ
 so:gP K (.ref C) (.type "object")=AA AJ
 cl:(AFg K C).isSome=AJ
theorem Aj.xc(e:Aj H H')(h:H b=AG):Aj H (AR H' b o):=λc u q=>by rw[Aa (Bh q h)];exact e c u q
theorem cQ:∀(l:List (AF×HV)),Bb ((l.map (·.1)).map AB.str) (Oq l)|[]=>.nil|(z,t)::r=>.cons ⟨t,rfl⟩ (cQ r)
theorem aU{K:BB}(Z:X.K=K:=by rfl):Kw X "str.split" (λx xs H Q=>∃z y:AF,x=.str z/\xs=[.str y]/\0<y.length/\z.length+2<=As/\∀l,H l=AG->Q (.ref l) (AR H l (.lst ((NR z y).map AB.str)))):=by
  subst Z;intro W s M H x xs v P Q I L G h;lk;obtain⟨z,y,rfl,rfl,N,E,q⟩:=h;obtain⟨t,rfl⟩:=L;obtain⟨u,rfl,t2,rfl⟩:=Fz G;k_in;have U:(y.length==0)=AQ:=AHf.mpr (by omega);have fin:∀(l:List (AF×HV))(k:Nat),l.map (·.1)=NR z y->l.length<=As->Ee X W M Q (.ref s.heap.objs.size) {s with heap:=s.heap.push {cls:=.type "list",data:=.seq (Oq l).toArray},toks:=k}:=λl k e B=>⟨.ref s.heap.objs.size,_,I.jb (t':=k) (λb O A=>Ca _ A) (Ai _) (show C8 X.af X.w _ _ _ (.lst ((NR z y).map AB.str))from⟨by rw[<-e];simpa using B,Oq l,0,by rw[<-e];exact cQ l,ER _ rfl⟩),rfl,q _ (I.bj.ax (Ai _))⟩;cases D:(Ab (z.length<y.length)||Ab (Builtin.Str.strKind z<Builtin.Str.strKind y))
  . cases J:(Ob z y 0 z.length (z.length+1)).isEmpty
    . have Y:NR z y=fS z (Ob z y 0 z.length (z.length+1)) y.length:=(AHS (AHi D)).trans (AHS (AHi J));have C:(fS z (Ob z y 0 z.length (z.length+1)) y.length).length<=As:=by rw[<-Y];exact Ag (AGZ z y) E
      refine NS Wj (Ou _ _ _) ACI (ACH _ _) (meets_str_split_sep z y t t2 D U J (by omega) C) ?_;show wants _ _ _ {s with toks:=_,heap:=s.heap.push {cls:=.type "list",data:=.seq (strsFrom s.toks (fS z (Ob z y 0 z.length (z.length+1)) y.length)).toArray}};rw[strsFrom_eq];exact fin (numbered s.toks _) _ ((AF5 _ _).trans ((AHS (AHi D)).trans (AHS (AHi J))).symm) (by have:=AHU LF (AF5 s.toks (fS z (Ob z y 0 z.length (z.length+1)) y.length));rw[Au]at this;omega)
    .exact NS Wj (Ou _ _ _) ACI (ACH _ _) (meets_str_split_not_found z y t t2 D U J) (fin [(z,t)] s.toks ((AHS (AHi D)).trans (AHT J)).symm (show 1<=As by decide))
  .exact NS Wj (Ou _ _ _) ACI (ACH _ _) (meets_str_split_cannot_occur z y t t2 D) (fin [(z,t)] s.toks (AHT D).symm (show 1<=As by decide))
theorem SX(c:Nat)(a b:AF)(r:List AF):(MJ ⟨#[c]⟩ (a::b::r)).cps.toList=a.cps.toList++c::(MJ ⟨#[c]⟩ (b::r)).cps.toList:=by show(a++⟨#[c]⟩++MJ ⟨#[c]⟩ (b::r)).cps.toList=_;show((a.cps++#[c])++(MJ ⟨#[c]⟩ (b::r)).cps).toList=_;simp
theorem Zy:∀{a b x y:List Nat},c∉a->c∉b->a++c::x=b++c::y->a=b/\x=y|[],[],x,y,_,_,e=>⟨rfl,(EG e).2⟩|[],V::b,x,y,_,J,e=>absurd ((EG e).1▸Ci) J|U::a,[],x,y,D,_,e=>absurd ((EG e).1.symm▸Ci) D|U::a,V::b,x,y,D,J,e=>by lk;obtain⟨W,Y⟩:=EG e;obtain⟨r1,r2⟩:=Zy (λh=>D (D5 _ h)) (λh=>J (D5 _ h)) Y;k_in;exact⟨by rw[W,r1],r2⟩
theorem V4{a b:AF}(h:a.cps.toList=b.cps.toList):a=b:=by cases a;simp_all
theorem aF:∀{as bs:List AF},as≠[]->bs≠[]->(∀p∈as,c∉p.cps.toList)->(∀p∈bs,c∉p.cps.toList)->MJ ⟨#[c]⟩ as=MJ ⟨#[c]⟩ bs->as=bs|[],_,h,_,_,_,_=>absurd rfl h|_::_,[],_,h,_,_,_=>absurd rfl h|[a],[b],_,_,_,_,e=>by have e:a=b:=e;rw[e]|[a],b::V::r,_,_,D,_,e=>by have e:a=MJ ⟨#[c]⟩ (b::V::r):=e;refine absurd ?_ (D a Ci);rw[e,SX];exact EO _ Ci|a::U::r,[b],_,_,_,J,e=>by have e:MJ ⟨#[c]⟩ (a::U::r)=b:=e;refine absurd ?_ (J b Ci);rw[<-e,SX];exact EO _ Ci|a::U::r,b::V::B,_,_,D,J,e=>by have e:=AHU (λz:AF=>z.cps.toList) e;simp only[SX]at e;obtain⟨Y,Z⟩:=Zy (D a Ci) (J b Ci) e;have A:=aF (as:=U::r) (bs:=V::B) (by simp) (by simp) (λp W=>D p (D5 _ W)) (λp W=>J p (D5 _ W)) (V4 Z);rw[V4 Y,A]
theorem AAn(x:AF)(c:Nat):NR x ⟨#[c]⟩≠[]:=λe=>by have h:=AFW x ⟨#[c]⟩;rw[e]at h;have h:(⟨#[]⟩:AF)=x:=h;rw[<-h]at e;have D:NR ⟨#[]⟩ ⟨#[c]⟩=[⟨#[]⟩]:=AHT (by rw[iV];exact .inl rfl);rw[D]at e;cases e
theorem cK(D:zs≠[])(h:∀p∈zs,c∉p.cps.toList):NR (NQ ⟨#[c]⟩ zs) ⟨#[c]⟩=zs:=by refine aF (AAn _ _) D (StrLaws.split_free _ _) h ?_;rw[AFW];exact dI (AB5 _ _)
theorem Sn{F:U->V->Prop}(h:Bf F D J):∀{i:Nat}{a:U}{b:V},D[i]?=AA a->J[i]?=AA b->F a b:=by induction h with|nil=>intro i a b h;cases h|cons r _ Z=>intro i a b W Y;cases i with|zero=>cases W;cases Y;exact r|succ i=>exact Z W Y
theorem aI(h:Ln k v=AJ):Bn (Az k) v:=by
 rcases KG h with⟨i,t,rfl,rfl⟩|⟨x,t,rfl,rfl⟩;.exact⟨t,rfl⟩
 .exact⟨t,rfl⟩
theorem aJ(J:Gs kvs vs)(Z:D.length=vs.length)(h:∀(j:Nat)(v:AK),D[j]?=AA v->∃(k:AL)(x:AK),vs[j]?=AA (k,x)/\Ln k v=AJ):Bb (kvs.map λp=>Az p.1) D:=by
 refine HQ ?_ ?_;.rw[Au,Z];exact KZ J
 . intro i a b U W;lk;obtain⟨k,x,B,Y⟩:=h i b W;rw[Bo]at U;obtain⟨p,A,rfl⟩:=EK.mp U;k_in;have q:=Sn J A B;rw[q.1];exact aI Y
theorem Zr{K:BB}(F:X.fh=AJ):EV X (.type "list") (λxs H Q=>∃(a:AE)(kvs:List (AL×AB)),xs=[.ref a]/\H a=AA (.dK kvs)/\∀l,H l=AG->Q (.ref l) (AR H l (.lst (kvs.map λp=>Az p.1)))):=by intro Y s T H xs R Q I r h;lk;obtain⟨a,kvs,rfl,e,q⟩:=h;obtain⟨u,rfl,N⟩:=Fz r;cases N;obtain⟨z,M,S,D,B⟩:=P7 I.bj e;obtain⟨O,J⟩:=B.dictAt;k_in;have U:=KZ D;refine W.kdl_call (AFl M) (I.ok.hd F) J (by simp_all) λE P Z A L C W=>?_;refine⟨.ref _,_,I.jb L (Ai _) (show C8 _ _ _ E _ (.lst _)from⟨by rw[Au];exact z,_,A,?_,by simpa using C⟩),rfl,q _ (I.bj.ax (Ai _))⟩;exact aJ D (by exact W.1) λj v G=>W.2 j v (by rw[<-Oz];exact G)
theorem Fw{a b:Int}{A B:Prop}(D:a=b->A)(J:¬a=b->B):if Ab (AB.int a=AB.int b)=AJ then A else B:=Jh (λe=>D (AB.int.inj (AHX e))) λe=>J λz=>AHc e (AHU _ z)
theorem Ji{A B:Prop}(D:a=b->A)(J:¬a=b->B):if Ab (AB.str a=AB.str b)=AJ then A else B:=Jh (λe=>D (AB.str.inj (AHX e))) λe=>J λz=>AHc e (AHU _ z)
theorem Hx{c:Prop}[Decidable c]{A B:Prop}(D:c->A)(J:¬c->B):if Ab c=AJ then A else B:=(by simp_all)
theorem HN{c:Bool}{A B:Prop}(h:if c=AJ then B else A):if(!c)=AJ then A else B:=by
 cases c;.exact h
 .exact h
def cV(t:C0):C0:=λD V H=>Gf (λ(N:Ap->AI->Prop)=>t {D with nx:=N} V H) (λN=>∀J U,N J U->D.nx J U)
set_option tactic.hygienic true in theorem QO{X:Bv}{st:Cc}{t:C0}(h:EW X st t):EW X st (cV t):=λpins s σ H D I⟨N,q,k⟩=>by refine BI (h _ s σ H _ I q) λf s' z=>?_;cases f with|next=>obtain⟨J,H',U,n⟩:=z;exact⟨J,H',U,k _ _ n⟩|brk=>exact z|cont=>exact z|ret u=>exact z
theorem P5(N:Ap->AI->Prop)(h:t {D with nx:=N} U H)(k:∀J H',N J H'->D.nx J H'):cV t D U H:=⟨N,h,k⟩
theorem C9(h:H a=AG):Aj H (AR H a o):=(DF H).dz h
structure F5(prog:CS)(w:B0)(A:DB)(s:AX)(κ:Qd)(O:Wb)(kf:AK->O.α)(a₀:Array BG):Prop where adq:∀p∈a₀.toList,∀q∈a₀.toList,∀(Q:Bool->AX->Prop)(E:AK->AX->Prop),Q (O.blt (kf p.1) (kf q.1)) s->Aw (Av prog w) A (keyLt' κ p.1 q.1) Q E s
structure Ck(κ:Qd)(a₀:Array BG)(st:Ce):Prop where
 jo:(Am st).Perm a₀
 gq:fJ st=κ
 jg:NK st=AG
noncomputable def BQ{O:Wb}(kf:AK->O.α)(xs:Array BG)(i:Nat):O.α:=kf ((xs[i]?.map (·.1)).getD .none)
def DN{O:Wb}(kf:AK->O.α)(xs:Array BG)(lo hi:Nat):Prop:=∀i j,lo<=i->i<=j->j<hi->O.kle (BQ kf xs i) (BQ kf xs j)
theorem Gm{O:Wb}{kf:AK->O.α}{xs ys:Array BG}{i j:Nat}(h:xs[i]?=ys[j]?):BQ kf xs i=BQ kf ys j:=by unfold BQ;rw[h]
theorem Ck.we{D:Array BG}{st:Ce}(B:Ck J D st):(Am st).size=D.size:=B.jo.size_eq
theorem Ck.ja{st:Ce}(B:Ck J D st){xs:Array BG}(h:xs.Perm (Am st)):Ck J D (Qg st xs):=⟨h.trans B.jo,B.gq,B.jg⟩
theorem Ck.at{U:Qd}{O:Wb}{kf:AK->O.α}{D:Array BG}{st:Ce}(B:Ck U D st){i:Nat}(hi:i<D.size):∃p,(Am st)[i]?=AA p/\p∈D.toList/\BQ kf (Am st) i=kf p.1:=by
 have J:i<(Am st).size:=by rw[B.we];exact hi
 refine⟨(Am st)[i],(by simp),(T4.mp B.jo).mem_iff.mp (by simp),?_⟩;unfold BQ;simp_all
theorem Q7{prog:CS}{w:B0}{A:DB}{E:AK->AX->Prop}{s:AX}{V:Qd}{O:Wb}{kf:AK->O.α}{D:Array BG}{st:Ce}(C:F5 prog w A s V O kf D)(B:Ck V D st){p q:BG}(J:p∈D.toList)(U:q∈D.toList){Q:Option Bool->Ce->Prop}(h:Q (AA (O.blt (kf p.1) (kf q.1))) st):Ec (Av prog w) A E s (lt' p q) Q st:=by rw[lt'_eq];refine BL (MF ?_);rw[B.gq];exact BL (Qh (ACx (C.adq p J q U _ _ ⟨rfl,BV h⟩)))
theorem Q8{prog:CS}{w:B0}{A:DB}{E:AK->AX->Prop}{s:AX}{G:Qd}{O:Wb}{kf:AK->O.α}{D:Array BG}{st:Ce}(C:F5 prog w A s G O kf D)(B:Ck G D st){i j:Nat}(hi:i<D.size)(V:j<D.size){Q:Option Bool->Ce->Prop}(h:Q (AA (O.blt (BQ kf (Am st) i) (BQ kf (Am st) j))) st):Ec (Av prog w) A E s (ME i j) Q st:=by lk;obtain⟨p,J,Z,W⟩:=B.at hi;obtain⟨q,U,F,Y⟩:=B.at V;k_in;rw[W,Y]at h;show Ec _ _ _ _ (Wd _ i>>=λx=>Wd _ j>>=λy=>lt' x y) Q st;rw[AB4,AB4,J,U];exact BL (BV (BL (BV (Q7 C B Z F h))))
theorem Wv{O:Wb}{kf:AK->O.α}{xs:Array BG}{i j:Nat}(D:j<=xs.size)(k:Nat):BQ kf (fM xs i j ((j-i)/2)) k=if i<=k/\k<j then BQ kf xs (i+j-1-k)else BQ kf xs k:=by
 have e:=AEe (i:=i) D k;by_cases h:i<=k/\k<j;.rw[AHT h]at e⊢;exact Gm e
 .rw[AHS h]at e⊢;exact Gm e
theorem iC{O:Wb}{kf:AK->O.α}{xs:Array BG}{D d:Nat}(W:D<xs.size)(V:d<=D)(k:Nat):BQ kf (bubble xs D d) k=if k=D-d then BQ kf xs D else if D-d<k/\k<=D then BQ kf xs (k-1)else BQ kf xs k:=by
  have e:=AEd W d V k;by_cases J:k=D-d;.rw[AHT J]at e⊢;exact Gm e
  . rw[AHS J]at e⊢;by_cases U:D-d<k/\k<=D;.rw[AHT U]at e⊢;exact Gm e
    .rw[AHS U]at e⊢;exact Gm e
section
variable{st:Ce}
structure Io(lo:Nat)(st st':Ce):Prop where
 wt:B9 st'=B9 st
 aco:∀k,k<lo->(Am st')[k]?=(Am st)[k]?
end
theorem Tw(lo:Nat)(st:Ce):Io lo st st:=⟨rfl,λ_ _=>rfl⟩
theorem Io.aa{lo:Nat}(x:Io lo a b)(y:Io lo b c):Io lo a c:=⟨y.wt.trans x.wt,λk h=>(y.aco k h).trans (x.aco k h)⟩
theorem ADH{U:Array BG}{st:Ce}(C:F5 prog w A s T O kf U){lo:Nat}(d:lo+n<=U.size)(y:R<=n)(B:Ck T U st)(hs:DN kf (Am st) lo (lo+R))(h:∀D,Ck T U D->Io lo st D->DN kf (Am D) lo (lo+n)->Q AJ D):Ec (Av prog w) A E s (binarySort' lo n R) Q st:=by
  rw[binarySort'_eq];refine BL (Ij (IC (I:=λk c D=>c=(AG,())/\Ck T U D/\Io lo st D/\DN kf (Am D) lo (lo+DR k n)) (Q:=λc D=>c=(AG,())/\Ck T U D/\Io lo st D/\DN kf (Am D) lo (lo+n)) ?gh ?fin ?acw) ?post);case post=> intro c D Z;lk;obtain⟨rfl,L,X,u⟩:=Z;k_in;exact BV (h D L X u)
  case acw=>
    refine⟨rfl,B,Tw _ _,λi j Y W M=>?_⟩;by_cases z:R=0
    . obtain rfl:i=j:=by lia
      exact NJ _
    .exact hs i j Y W (by lia)
  case fin=>grind
  case gh=>
    intro k c D v V Z;lk;obtain⟨rfl,L,X,u⟩:=Z;k_in;rw[show DR k n=k by exact eP (Bz V)]at u;refine BL (Ij (IC (I:=λx c J=>J=D/\∃l r,c=(AG,l,r)/\l<=r/\r<=k/\r+x<=k+l/\(∀i,i<l->O.kle (BQ kf (Am D) (lo+i)) (BQ kf (Am D) (lo+k)))/\(∀i,r<=i->i<k->O.klt (BQ kf (Am D) (lo+k)) (BQ kf (Am D) (lo+i)))) (Q:=λc J=>J=D/\∃l r,c=(AG,l,r)/\l<=k/\(∀i,i<l->O.kle (BQ kf (Am D) (lo+i)) (BQ kf (Am D) (lo+k)))/\(∀i,l<=i->i<k->O.klt (BQ kf (Am D) (lo+k)) (BQ kf (Am D) (lo+i)))) ?i1 ?i2 ?i3) ?i4);case i3=>exact⟨rfl,0,k,rfl,Bm _,Ai _,Ai _,λ_ h=>absurd h (NH _),λ_ Y W=>absurd W (AEN Y)⟩
    case i2=> intro c J Z;lk;obtain⟨rfl,l,r,rfl,Y,W,M,H,K⟩:=Z;rw[AEK (Bm _),eG]at M;obtain rfl:l=r:=Eb Y (AEG M);k_in;exact⟨rfl,l,l,rfl,W,H,K⟩
    case i1=>
      intro x c J _ hx Z;lk;obtain⟨rfl,l,r,rfl,Y,W,M,H,K⟩:=Z;k_in;dsimp only;by_cases g:l>=r
      . rw[AHT g];obtain rfl:l=r:=Eb Y g;exact BV ⟨rfl,l,l,rfl,W,H,K⟩
      . rw[AHS g];have f:l<=(l+r)/2:=by lia
        have P:(l+r)/2<r:=by lia
        have o:=OX (Bl P W) lo;refine BL (Q8 C L (Bl (OX V _) d) (Bl o (Ag (Ey (Bz V) _) d)) ?_);generalize(l+r)/2=m at f P o⊢;cases e:O.blt (BQ kf (Am J) (lo+k)) (BQ kf (Am J) (lo+m))with |true=> refine BV ⟨rfl,l,m,rfl,f,Ag (Bz P) W,by lia,H,λi S t=>?_⟩;exact KeyOrd.klt_of_klt_of_kle e (u _ _ (Qa _ _) (Ey S _) (OX t _))|false=>refine BV ⟨rfl,m+1,r,rfl,P,W,WX (Ag M (Ey f _)),λi S=>?_,K⟩;exact HU (u (lo+i) (lo+m) (Qa _ _) (Ey (Ej S) _) o) (show O.kle _ _ from e)
    case i4=>
      intro c J Z;lk;obtain⟨rfl,l,r,rfl,Y,H,K⟩:=Z;k_in;show Ec _ _ _ _ (moveDown' (lo+k) (lo+l)>>=λ_=>Be (UA (AG,()))) _ _;rw[moveDown'_eq];have F:lo+k<(Am J).size:=by rw[L.we];exact Bl (OX V _) d
      have a:lo+k-(lo+l)<=lo+k:=ABt _ _;have q:lo+k-(lo+k-(lo+l))=lo+l:=ABw (Ey Y lo);refine BL (Jx (BV ⟨rfl,L.ja (bubble_perm _ _ _),X.aa ⟨rfl,λz hz=>?_⟩,?_⟩));.rw[AEd F _ a,q,AHS (by lia),AHS (by lia)]
      . rw[show DR (k+1) n=k+1 by exact eP V];intro i j S t q3;rw[iC F a,iC F a,q];have N:∀z,lo<=z->z<lo+l->O.kle (BQ kf (Am J) z) (BQ kf (Am J) (lo+k)):=λz G p=>by have:=H (z-lo) ((TY G).mpr p);rwa[Ih G]at this
        have b:∀z,lo+l<=z->z<lo+k->O.klt (BQ kf (Am J) (lo+k)) (BQ kf (Am J) z):=λz G p=>by have:=K (z-lo) ((L9 (D6 G)).mpr G) ((TY (D6 G)).mpr p);rwa[show lo+(z-lo)=z by exact Ih (D6 G)]at this
        repeat' split
        all_goals first |(exfalso;lia)|exact NJ _|exact N _ (by lia) (by lia)|exact KR (b _ (by lia) (by lia))|exact u _ _ (by lia) (by lia) (by lia)
theorem DN.ic{O:Wb}{kf:AK->O.α}{xs:Array BG}{lo n:Nat}(u:DN kf xs lo (lo+n))(V:1<=n)(h:O.kle (BQ kf xs (lo+n-1)) (BQ kf xs (lo+n))):DN kf xs lo (lo+(n+1)):=λi j D J W=>by
  by_cases z:j=lo+n
  . subst z;by_cases U:i=lo+n;.subst U;exact NJ _
    .exact HU (u i _ D (AEH (DT J U)) ((ABl (ABm _ V)).mp (Ai _))) h
  .exact u i j D J (DT (eL W) z)
def Ow{O:Wb}(kf:AK->O.α)(xs:Array BG)(lo hi:Nat):Prop:=∀i j,lo<=i->i<=j->j<hi->O.kle (BQ kf xs j) (BQ kf xs i)
theorem Ow.ic{O:Wb}{kf:AK->O.α}{xs:Array BG}{lo n:Nat}(u:Ow kf xs lo (lo+n))(V:1<=n)(h:O.kle (BQ kf xs (lo+n)) (BQ kf xs (lo+n-1))):Ow kf xs lo (lo+(n+1)):=λi j D J W=>by
  by_cases z:j=lo+n
  . subst z;by_cases U:i=lo+n;.subst U;exact NJ _
    .exact HU h (u i _ D (AEH (DT J U)) ((ABl (ABm _ V)).mp (Ai _)))
  .exact u i j D J (DT (eL W) z)
theorem T1{D:Array BG}{st:Ce}(B:Ck W D st){lo:Nat}(hi:lo<=i)(J:j<=D.size):Ck W D (Qg st (fM (Am st) i j ((j-i)/2)))/\Io lo st (Qg st (fM (Am st) i j ((j-i)/2))):=by refine⟨B.ja (mirror_perm _ _ _ _),rfl,λk U=>?_⟩;rw[AEe (by rw[B.we];exact J),AHS (λV=>AEM hi (HS V.1 U))]
theorem T2{U:Qd}{O:Wb}{kf:AK->O.α}{D:Array BG}{st:Ce}(B:Ck U D st){i j:Nat}(J:j<=D.size)(h:∀k,i<=k->k<j->BQ kf (Am st) k=BQ kf (Am st) (j-1))(k:Nat):BQ kf (fM (Am st) i j ((j-i)/2)) k=BQ kf (Am st) k:=by rw[Wv (by rw[B.we];exact J)];grind
theorem iI{prog:CS}{w:B0}{A:DB}{E:AK->AX->Prop}{s:AX}{N:Qd}{O:Wb}{kf:AK->O.α}{J:Array BG}{st:Ce}(C:F5 prog w A s N O kf J){lo D U:Nat}(M:lo+D<=J.size)(F:1<=U)(P:U<=D)(B:Ck N J st)(u:DN kf (Am st) lo (lo+U)){Q:Option (Option Nat)×Nat->Ce->Prop}(h:∀n,U<=n->n<=D->DN kf (Am st) lo (lo+n)->(n<D->O.klt (BQ kf (Am st) (lo+n)) (BQ kf (Am st) (lo+n-1)))->Q (AG,n) st){f:Nat->Option (Option Nat)×Nat->StateT Ce DW (ForInStep (Option (Option Nat)×Nat))}(L:∀x c,f x c=(do match(<-ME (lo+c.2) (lo+c.2-1))with|AA b=>if b=AJ then Be (.done (AG,c.2))else Be (.yield (AG,c.2+1))|AG=>Be (.done (AA AG,c.2)))):Ec (Av prog w) A E s (IH [U:D] (AG,U) f) Q st:=by
 refine IC (I:=λx c W=>W=st/\c=(AG,x)/\U<=x/\x<=D/\DN kf (Am st) lo (lo+x)) ?_ ?_ (by simp_all)
 . intro x c W V Y K;lk;obtain⟨rfl,rfl,G,H,Z⟩:=K;k_in;rw[L];refine BL (Q8 C B (Bl (OX Y _) M) (by lia) ?_);cases e:O.blt _ _ with |true=>exact BV (h x G H Z λ_=>e)|false=>exact BV ⟨rfl,rfl,Ii V,by assumption,Z.ic (Ag F V) e⟩
 simp_all
abbrev Ip:=Option (Option Nat)×Nat
noncomputable def Q9(lo:Nat)(c:Ip):StateT Ce DW (ForInStep Ip):=ME (lo+c.2) (lo+c.2-1)>>=λo=>match o with|AA b=>if b=AJ then Be (.done (AG,c.2))else Be (.yield (AG,c.2+1))|_=>Be (.done (AA AG,c.2))
noncomputable def NU(lo D n:Nat):StateT Ce DW (Option Nat):=NL lo (lo+n)>>=λ_=>IH [n:D] ((AG,n):Ip) (λ_ c=>Q9 lo c)>>=λc=>match c.1 with|AA r=>Be r|AG=>Be (AA c.2)
abbrev Wu:=Option (Option Nat)×Nat×Nat
noncomputable def hZ(lo:Nat)(c:Wu):StateT Ce DW (ForInStep Wu):=ME (lo+c.2.1) (lo+c.2.1-1)>>=λo=>match o with
 |AA b=>if b=AJ then(if c.2.2>0 then NL (lo+c.2.1-(c.2.2+1)) (lo+c.2.1)>>=λ_=>Be (.yield (AG,c.2.1+1,0))else Be (.yield (AG,c.2.1+1,0)))else ME (lo+c.2.1-1) (lo+c.2.1)>>=λJ=>match J with |AA D=>if D=AJ then Be (.done (AG,c.2.1,c.2.2))else Be (.yield (AG,c.2.1+1,c.2.2+1))|_=>Be (.done (AA AG,c.2.1,c.2.2))
 |_=>Be (.done (AA AG,c.2.1,c.2.2))
noncomputable def Tz(lo D n:Nat):StateT Ce DW (Option Nat):=liftM (rule "list.sort.descending-run")>>=λ_=>IH [n+1:D] ((AG,n+1,0):Wu) (λ_ c=>hZ lo c)>>=λc=>match c.1 with|AA r=>Be r|AG=>if c.2.2>0 then NL (lo+c.2.1-(c.2.2+1)) (lo+c.2.1)>>=λ_=>NU lo D c.2.1 else NU lo D c.2.1
theorem iK{J:Array BG}{st:Ce}(C:F5 prog w A s G O kf J){lo:Nat}(W:lo+D<=J.size)(K:1<=n)(V:n<=D)(B:Ck G J st)(I:Ow kf (Am st) lo (lo+n))(h:∀m U,Ck G J U->Io lo st U->1<=m->m<=D->DN kf (Am U) lo (lo+m)->Q (AA m) U):Ec (Av prog w) A E s (NU lo D n) Q st:=by
 refine BL (Jx ?_);obtain⟨H,L⟩:=T1 B (Ai lo) (by exact Ag (Ey V _) W);have u:DN kf _ lo _:=λi j Z Y F=>by rw[Wv (by rw[B.we];exact Ag (Ey V _) W),Wv (by rw[B.we];exact Ag (Ey V _) W),AHT (⟨Z,HS Y F⟩),AHT (⟨Ag Z Y,F⟩)];exact I _ _ (by omega) (Nat.sub_le_sub_left Y _) (by omega)
 refine BL (iI C W K V H u (λm M N u2 _=>?_) λx c=>AHU (ME _ _>>=.) (by grind));exact BV (by grind)
theorem iG{prog:CS}{w:B0}{A:DB}{E:AK->AX->Prop}{s:AX}{T:Qd}{O:Wb}{kf:AK->O.α}{J:Array BG}{st:Ce}(C:F5 prog w A s T O kf J){lo U n:Nat}(Z:lo+U<=J.size)(t:1<=n)(y:n<U)(B:Ck T J st)(r:∀k,lo<=k->k<lo+n->BQ kf (Am st) k=BQ kf (Am st) (lo+n-1))(z:O.klt (BQ kf (Am st) (lo+n)) (BQ kf (Am st) (lo+n-1))){Q:Option Nat->Ce->Prop}(h:∀m D,Ck T J D->Io lo st D->1<=m->m<=U->DN kf (Am D) lo (lo+m)->Q (AA m) D):Ec (Av prog w) A E s (Tz lo U n) Q st:=by
 unfold Tz;refine BL (Qh (MM ⟨rfl,?_⟩));have g:=Ow.ic (λi j G H R=>by rw[r i G (HS H R),r j (Ag G H) R];exact NJ _) t (KR z);refine BL (Ij (IC (I:=λx c D=>∃e,c=(AG,x,e)/\n+1<=x/\x<=U/\e+1<=x/\Ck T J D/\Io lo st D/\Ow kf (Am D) lo (lo+x)/\∀k,lo+x-(e+1)<=k->k<lo+x->BQ kf (Am D) k=BQ kf (Am D) (lo+x-1)) (Q:=λc D=>∃x e,c=(AG,x,e)/\n+1<=x/\x<=U/\e+1<=x/\Ck T J D/\Io lo st D/\Ow kf (Am D) lo (lo+x)/\∀k,lo+x-(e+1)<=k->k<lo+x->BQ kf (Am D) k=BQ kf (Am D) (lo+x-1)) ?gh ?fin ?acw) ?post);case acw=>exact⟨0,rfl,Ai _,y,Ii t,B,Tw _ _,g,(by grind)⟩
 case fin=>grind
 case gh=> intro x c D S F o;lk;obtain⟨e,rfl,v,L,W,V,M,N,Y⟩:=o;k_in;unfold hZ;dsimp only;refine BL (Q8 C V (Bl (OX F _) Z) (by lia) ?_);cases b:O.blt (BQ kf (Am D) (lo+x)) _ with
  |true=>
   dsimp only;rw[AHT rfl];have l:∀p:Array BG,(∀k,BQ kf p k=BQ kf (Am D) k)->Ow kf p lo (lo+(x+1)):=λp u=>by have:=N.ic (TV W) (KR b);intro i j G H R;rw[u,u];exact this i j G H R
   by_cases P:e>0
   . rw[AHT P,AEk];refine BL (Jx (BV ?_));obtain⟨X,d⟩:=T1 V (show lo<=lo+x-(e+1)by exact(WT (ABj W)).mpr (Ey W _)) (show lo+x<=J.size by exact Ag (Ey (Bz F) _) Z);exact⟨0,rfl,Ii S,by assumption,by simp,X,M.aa d,l _ (T2 V (Ag (Ey (Bz F) _) Z) Y),(by grind)⟩
   . rw[AHS P];exact BV (by grind)|false=>dsimp only;refine BL (Q8 C V (by lia) (Bl (OX F _) Z) ?_);cases q:O.blt _ (BQ kf (Am D) (lo+x))with |true=>exact BV ⟨x,e,rfl,v,L,W,V,M,N,Y⟩|false=> have ek:=O.total _ _ q b;refine BV ⟨e+1,rfl,Ii S,by assumption,Jv.mpr W,V,M,N.ic (TV W) q,λk G H=>?_⟩;grind
 case post=>
  intro c D o;lk;obtain⟨x,e,rfl,v,L,W,V,M,N,Y⟩:=o;k_in;dsimp only;by_cases P:e>0
  . rw[AHT P,AEk];obtain⟨X,d⟩:=T1 V (show lo<=lo+x-(e+1)by exact(WT (ABj W)).mpr (Ey W _)) (show lo+x<=J.size by exact Ag (Ey L _) Z);refine iK C Z (eO.mp (NF P W)) L X (λi j G H R=>?_) λm K a f=>h m K a ((M.aa d).aa f);rw[T2 V (Ag (Ey L _) Z) Y,T2 V (Ag (Ey L _) Z) Y];exact N i j G H R
  . rw[AHS P];exact iK C Z (TV W) L V N λm K a f=>h m K a (M.aa f)
theorem iN{A:DB}{E:AK->AX->Prop}{s:AX}{M:Of}{U D:Type}{m J:StateT D DW U}{Q:U->D->Prop}{t:D}(e:J=m)(h:Ec M A E s m Q t):Ec M A E s J Q t:=by simp_all
theorem ADI{U:Array BG}{st:Ce}(C:F5 prog w A s f O kf U){lo:Nat}(H:lo+D<=U.size)(Z:1<=D)(B:Ck f U st)(h:∀n W,Ck f U W->Io lo st W->1<=n->n<=D->DN kf (Am W) lo (lo+n)->Q (AA n) W):Ec (Av prog w) A E s (countRun' lo D) Q st:=by
  have v:DN kf (Am st) lo (lo+1):=λi j F V t=>by obtain rfl:i=j:=Eb V (Ag (Ej t) F);exact NJ _
  refine BL (iI C H (Ai _) Z B v (λn L I u e=>?_) λx c=>AHU (ME _ _>>=.) (funext λo=>by cases o<;>rfl));dsimp only;by_cases J:n=D;. subst J;rw[AHT (beq_self_eq_true n)];exact BV (h n st B (Tw _ _) L I u)
  . rw[AHS (by simpa using J)];by_cases T:n>1
    . rw[AHT T];refine BL (Q8 C B (Bl (Nat.lt_add_right_iff_pos.mpr Z) H) (by omega) ?_);cases b:O.blt _ _ with |true=>exact BV (h n st B (Tw _ _) L I u)|false=>
        have K:=λk F V=>by refine KeyOrd.kle_antisymm (u k (lo+n-1) F (eM V) (ABv V)) (HU (show O.kle _ _ from b) (u lo k (Ai _) F V))
        refine BL ?_;refine Jx ?_;refine iN (m:=Tz lo D n) ?same ?_;case same=>exact(by
            refine AHU _ (funext λ_=>congr (AHU _ (AHU (IH _ _) (funext λ_=>funext λc=>?_))) (funext λc=>?_));. refine AHU (ME _ _>>=.) (funext λo=>?_);cases o with|none=>rfl|some b=>cases b with|true=>rfl|false=>exact AHU (ME _ _>>=.) (funext λa=>by cases a<;>rfl)
            . obtain⟨N,P⟩:=c;have t3:∀n,NU lo D n=(NL lo (lo+n)>>=λ_=>IH [n:D] ((AG,n):Ip) _>>=λc=>match c.1 with|AA r=>Be r|AG=>Be (AA c.2)):=λ_=>rfl;have t4:∀n(X:Nat->Ip->StateT Ce DW (ForInStep Ip))(Y:Ip->StateT Ce DW (Option Nat)),(∀x c,X x c=Q9 lo c)->(∀c,Y c=match c.1 with|AA r=>Be r|AG=>Be (AA c.2))->(NL lo (lo+n)>>=λ_=>IH [n:D] ((AG,n):Ip) X>>=Y)=NU lo D n:=λn X Y Z S=>by rw[t3,show X=λ_ c=>Q9 lo c from funext λx=>funext λc=>Z x c,show Y=_ from funext S]
              cases N with |some r=>rfl|none=>
                by_cases z:P.2>0
                . rw[AHT z,AHT z];refine AHU (NL _ _>>=.) (funext λ_=>?_);exact t4 _ _ _ (λx c=>AHU _ (funext λo=>by cases o<;>rfl)) (λc=>by obtain⟨G,R⟩:=c;cases G<;>rfl)
                . rw[AHS z,AHS z];exact t4 _ _ _ (λx c=>AHU _ (funext λo=>by cases o<;>rfl)) (λc=>by obtain⟨G,R⟩:=c;cases G<;>rfl))
        obtain⟨g,p⟩:=T1 B (Ai lo) (by exact Ag (Ey I _) H);have M:=T2 B (i:=lo) (j:=lo+n) (Ag (Ey I _) H) K;refine iG C H L (DT I J) g (λk F V=>?_) ?_ λm d l q=>h m d l (p.aa q)
        . rw[M,M];exact K k F V
        . rw[M,M];exact e (DT I J)
    . rw[AHS T];refine iN (m:=Tz lo D n) ?same ?_;case same=>exact(by
            refine AHU _ (funext λ_=>congr (AHU _ (AHU (IH _ _) (funext λ_=>funext λc=>?_))) (funext λc=>?_))
            . refine AHU _ (funext λo=>?_);cases o with|none=>rfl|some b=>cases b with|true=>rfl|false=>exact AHU (ME _ _>>=.) (funext λa=>by cases a<;>rfl)
            . obtain⟨N,P⟩:=c;have t3:∀n,NU lo D n=(NL lo (lo+n)>>=λ_=>IH [n:D] ((AG,n):Ip) _>>=λc=>match c.1 with|AA r=>Be r|AG=>Be (AA c.2)):=λ_=>rfl;have t4:∀n(X:Nat->Ip->StateT Ce DW (ForInStep Ip))(Y:Ip->StateT Ce DW (Option Nat)),(∀x c,X x c=Q9 lo c)->(∀c,Y c=match c.1 with |AA r=>Be r|AG=>Be (AA c.2))->(NL lo (lo+n)>>=λ_=>IH [n:D] ((AG,n):Ip) X>>=Y)=NU lo D n:=λn X Y Z S=>by rw[t3,show X=λ_ c=>Q9 lo c from funext λx=>funext λc=>Z x c,show Y=_ from funext S]
              cases N with |some r=>rfl|none=>
                by_cases z:P.2>0
                . rw[AHT z,AHT z];refine AHU (NL _ _>>=.) (funext λ_=>?_);exact t4 _ _ _ (λx c=>AHU _ (funext λo=>by cases o<;>rfl)) (λc=>by obtain⟨G,R⟩:=c;cases G<;>rfl)
                . rw[AHS z,AHS z];exact t4 _ _ _ (λx c=>AHU _ (funext λo=>by cases o<;>rfl)) (λc=>by obtain⟨G,R⟩:=c;cases G<;>rfl))
      obtain rfl:n=1:=Eb (F4 T) L;exact iG C H L (DT Z J) B (λk F V=>by rw[show k=lo+1-1 by exact eI F V]) (e (DT Z J)) h
noncomputable def ADD:Bool->BG->Array BG->Nat->Nat->Nat->StateT Ce DW (Option Nat):=sortPriv%PySem.Builtin.gallop
noncomputable def ADF:Array BG->Array BG->StateT Ce DW (Array BG):=sortPriv%PySem.Builtin.mergeLo
noncomputable def ADE:Array BG->Array BG->StateT Ce DW (Array BG):=sortPriv%PySem.Builtin.mergeHi
theorem FP{prog:CS}{w:B0}{A:DB}{E:AK->AX->Prop}{s:AX}{st:Ce}{D:Array BG}{i:Nat}(hi:i<D.size){Q:BG->Ce->Prop}(h:Q D[i] st):Ec (Av prog w) A E s (Wd D i) Q st:=by rw[AB4,AHk _ i hi];exact BV h
noncomputable def Cu{O:Wb}(kf:AK->O.α)(left:Bool)(key:BG)(D:Array BG)(base i:Nat):Bool:=if left=AJ then O.blt (BQ kf D (base+i)) (kf key.1)else !O.blt (kf key.1) (BQ kf D (base+i))
theorem DX{O:Wb}{kf:AK->O.α}{D:Array BG}{i:Nat}(hi:i<D.size):BQ kf D i=kf D[i].1:=by unfold BQ;simp_all
theorem ADG{D:Array BG}{st:Ce}(C:F5 prog w A s Y O kf D)(B:Ck Y D st){J:Array BG}(U:key∈D.toList)(W:∀p∈J.toList,p∈D.toList)(hi:base+i<J.size)(h:Q (AA (Cu kf left key J base i)) st):Ec (Av prog w) A E s (Wd J (base+i)>>=λx=>if left=AJ then lt' x key else lt' key x>>=λo=>Be (o.map λb=>!b)) Q st:=by refine BL (FP hi ?_);have V:J[base+i]∈D.toList:=W _ (by simp);unfold Cu at h;rw[DX hi]at h;cases left with|true=>exact Q7 C B V U h|false=>exact BL (Q7 C B U V (BV h))
theorem ADB{O:Wb}{kf:AK->O.α}{left:Bool}{key:BG}{D:Array BG}{base n i j:Nat}(u:DN kf D base (base+n))(U:i<=j)(V:j<n)(h:Cu kf left key D base j=AJ):Cu kf left key D base i=AJ:=by have J:=u (base+i) (base+j) (by simp) (by simp_all) (by simp_all);unfold Cu at h⊢;cases left with |true=>exact AEV J h|false=>
 have h:O.kle (BQ kf D (base+j)) (kf key.1):=by exact Bool.not_inj h
 have:O.blt _ _=AQ:=HU J h;simp_all
theorem Oy{F:Array BG}{st:Ce}(C:F5 prog w A s κ O kf F)(B:Ck κ F st){D:Array BG}(hk:key∈F.toList)(ha:∀p∈D.toList,p∈F.toList)(L:base+n<=D.size)(H:hint<n)(u:DN kf D base (base+n))(h:∀k,k<=n->(∀i,i<k->Cu kf left key D base i=AJ)->(∀i,k<=i->i<n->Cu kf left key D base i=AQ)->Q (AA k) st):Ec (Av prog w) A E s (ADD left key D base n hint) Q st:=by
  have T:∀{i:Nat}{Q:Option Bool->Ce->Prop},i<n->Q (AA (Cu kf left key D base i)) st->Ec (Av prog w) A E s _ Q st:=λK q=>ADG C B hk ha (Bl (OX K _) L) q;have M:∀i j,i<=j->j<n->Cu kf left key D base j=AJ->Cu kf left key D base i=AJ:=λi j V U Z=>ADB u V U Z;refine BL (T H ?_);have fin:∀P K,P<=K->K<=n->(∀i,i<P->Cu kf left key D base i=AJ)->(∀i,K<=i->i<n->Cu kf left key D base i=AQ)->∀{f:Nat->Option (Option Nat)×Nat×Nat->StateT Ce DW (ForInStep (Option (Option Nat)×Nat×Nat))}{g:Option (Option Nat)×Nat×Nat->StateT Ce DW (Option Nat)},(∀x c,f x c=if c.2.1>=c.2.2 then Be (.done (AG,c.2.1,c.2.2))else(Wd D (base+(c.2.1+(c.2.2-c.2.1)/2))>>=λx=>if left=AJ then lt' x key else lt' key x>>=λo=>Be (o.map λb=>!b))>>=λo=>match o with|AA b=>if b=AJ then Be (.yield (AG,c.2.1+(c.2.2-c.2.1)/2+1,c.2.2))else Be (.yield (AG,c.2.1,c.2.1+(c.2.2-c.2.1)/2))|AG=>Be (.done (AA AG,c.2.1,c.2.2)))->(∀c,g (AG,c)=Be (AA c.2))->Ec (Av prog w) A E s (IH [:n] ((AG,P,K):Option (Option Nat)×Nat×Nat) f>>=g) Q st:=by
    intro P K d X h3 h4 f g hf hg;refine BL (Ij (IC (I:=λx c J=>J=st/\∃l r,c=(AG,l,r)/\l<=r/\r<=n/\r+x<=n+l/\(∀i,i<l->Cu kf left key D base i=AJ)/\(∀i,r<=i->i<n->Cu kf left key D base i=AQ)) (Q:=λc J=>J=st/\∃l,c=(AG,l,l)/\l<=n/\(∀i,i<l->Cu kf left key D base i=AJ)/\(∀i,l<=i->i<n->Cu kf left key D base i=AQ)) ?_ ?_ ⟨rfl,P,K,rfl,d,X,Ag X (Qa _ _),h3,h4⟩) ?_)
    . rintro x c J _ t⟨rfl,l,r,rfl,V,U,Z,W,Y⟩;rw[hf];dsimp only;by_cases g:l>=r;. rw[AHT g];obtain rfl:l=r:=Eb V g;exact BV ⟨rfl,l,rfl,U,W,Y⟩
      . rw[AHS g];have v:l<=l+(r-l)/2:=Qa _ _;have R:l+(r-l)/2<r:=by(clear Z U V t X d H L;lia)
        refine BL (T (Bl R U) ?_);generalize l+(r-l)/2=m at v R⊢;cases e:Cu kf left key D base m with |true=>exact BV ⟨rfl,_,r,rfl,R,U,WX (Ag Z (Ey v _)),λi z=>M i _ (Ej z) (Bl R U) e,Y⟩|false=>exact BV ⟨rfl,l,_,rfl,v,Ag (Bz R) U,by(clear U V X d H L;lia),W,λi y S=>by cases z:Cu kf left key D base i with|false=>rfl|true=>rw[M _ i y S z]at e;cases e⟩
    . rintro c J⟨rfl,l,r,rfl,V,U,Z,W,Y⟩;rw[AEK (Bm _),eG]at Z;obtain rfl:l=r:=Eb V (AEG Z);exact⟨rfl,l,rfl,U,W,Y⟩
    . rintro c J⟨rfl,l,rfl,U,W,Y⟩;rw[hg];exact BV (h l U W Y)
  cases e:Cu kf left key D base hint with |true=>
    refine BL (Ij (IC (I:=λx c J=>J=st/\∃l o,c=(AG,l,o)/\l<o/\hint+l<n/\x+1<=o/\Cu kf left key D base (hint+l)=AJ) (Q:=λc J=>J=st/\∃l o,c=(AG,l,o)/\l<o/\hint+l<n/\Cu kf left key D base (hint+l)=AJ/\(o>=n-hint\/(hint+o<n/\Cu kf left key D base (hint+o)=AQ))) ?_ ?_ ⟨rfl,0,1,rfl,by simp,by omega,(by decide),e⟩) ?_)
    . intro x c J _ t G;lk;obtain⟨rfl,l,o,rfl,V,U,Z,W⟩:=G;k_in;dsimp only;by_cases g:o>=n-hint
      . rw[AHT g];exact BV ⟨rfl,l,o,rfl,V,U,W,.inl g⟩
      . rw[AHS g];refine BL (T (LI (MA g)) ?_);cases N:Cu kf left key D base (hint+o)with|true=>exact BV ⟨rfl,o,_,rfl,ND.mpr (AEF _ (by decide)),LI (MA g),by lia,N⟩|false=>exact BV ⟨rfl,l,o,rfl,V,U,W,.inr ⟨LI (MA g),N⟩⟩
    . intro c J G;lk;obtain⟨rfl,l,o,rfl,V,U,Z,W⟩:=G;k_in;exact⟨rfl,l,o,rfl,V,U,W,.inl (Bz (TZ Z))⟩
    . intro c J G;lk;obtain⟨rfl,l,o,rfl,V,U,W,Y⟩:=G;k_in;refine fin (hint+l+1) (hint+DR o (n-hint)) (by omega) ((L9 (Bz H)).mp (WW _ _)) (λi z=>M i _ (Ej z) U W) (λi y S=>?_) (λx c=>?_) (λc=>rfl)
      . rcases Y with Y|⟨Y,a⟩;.lia
        .cases z:Cu kf left key D base i with|false=>rfl|true=>rw[M (hint+o) i (by(clear Y U V L;lia)) S z]at a;cases a
      . dsimp only;split;.rfl
        .exact AHU (_>>=.) (funext λo=>by cases o<;>rfl)|false=>
    refine BL (Ij (IC (I:=λx c J=>J=st/\∃l o,c=(AG,l,o)/\l<o/\l<=hint/\x+1<=o/\Cu kf left key D base (hint-l)=AQ) (Q:=λc J=>J=st/\∃l o,c=(AG,l,o)/\l<o/\l<=hint/\Cu kf left key D base (hint-l)=AQ/\(o>=hint+1\/(o<=hint/\Cu kf left key D base (hint-o)=AJ))) ?_ ?_ ⟨rfl,0,1,rfl,by simp,by simp,(by decide),e⟩) ?_)
    . intro x c J _ t G;lk;obtain⟨rfl,l,o,rfl,V,U,Z,W⟩:=G;k_in;dsimp only;by_cases g:o>=hint+1;. rw[AHT g];exact BV ⟨rfl,l,o,rfl,V,U,W,.inl g⟩
      . rw[AHS g];refine BL (T (TZ H) ?_);cases N:Cu kf left key D base (hint-o)with |false=>exact BV ⟨rfl,o,_,rfl,ND.mpr (AEF _ (by decide)),Ej (MA g),by lia,N⟩|true=>exact BV ⟨rfl,l,o,rfl,V,U,W,.inr ⟨Ej (MA g),N⟩⟩
    . intro c J G;lk;obtain⟨rfl,l,o,rfl,V,U,Z,W⟩:=G;k_in;exact⟨rfl,l,o,rfl,V,U,W,.inl (Nat.le_of_pred_lt (NF H Z))⟩
    . intro c J G;lk;obtain⟨rfl,l,o,rfl,V,U,W,Y⟩:=G;k_in;refine fin (hint+1-DR o (hint+1)) (hint-l) (by(clear Y H L;omega)) (Bz (TZ H)) (λi z=>?_) (λi y S=>?_) (λx c=>?_) (λc=>rfl)
      . rcases Y with Y|⟨Y,a⟩;. (clear U V H L;simp_all)
        .exact M i _ (by(clear U V H L;grind)) (TZ H) a
      .cases z:Cu kf left key D base i with|false=>rfl|true=>rw[M (hint-l) i (by omega) S z]at W;cases W
      . dsimp only;split;.rfl
        .exact AHU (_>>=.) (funext λo=>by cases o<;>rfl)
structure Dw(R:BG->BG->Prop)(la lb lo:List BG)(i j:Nat):Prop where
 jo:lo.Perm (la.take i++lb.take j)acg:lo.Pairwise R
 a:∀x∈lo,∀y∈la.drop i,R x y
 b:∀x∈lo,∀y∈lb.drop j,R x y
theorem Dw.va{lo:List BG}(h:Dw R D U lo i j):Dw R U D lo j i:=⟨h.jo.trans QY,h.acg,h.b,h.a⟩
theorem Dw.wc{U Y lo:List BG}(h:Dw R U Y lo i j)(C:U.Pairwise R)(W:∀x∈(U.drop i).take k,∀y∈Y.drop j,R x y):Dw R U Y (lo++(U.drop i).take k) (i+k) j:=by
  have E:((U.drop i).take k++(U.drop i).drop k).Pairwise R:=by rw[QZ];exact C.sublist (ABX _ _)
  lk;obtain⟨A,_,B⟩:=OU.mp E;k_in;have Z:U.drop (i+k)=(U.drop i).drop k:=by rw[ABV]
  refine⟨?_,OU.mpr ⟨h.acg,A,λx W y D=>h.a x W y (QX D)⟩,λx V y D=>?_,λx V y D=>?_⟩
  . rw[AEA,Dh];refine(h.jo.append_right _).trans ?_;rw[Dh];exact ABU _ QY
  . rw[Z]at D;rcases C1.mp V with q|q;.exact h.a x q y (QW D)
    .exact B x q y D
  . rcases C1.mp V with q|q;.exact h.b x q y D
    .exact W x q y D
theorem Dw.xy{U D lo:List BG}(h:Dw R U D lo i j)(W:D.Pairwise R)(V:∀x∈(D.drop j).take k,∀y∈U.drop i,R x y):Dw R U D (lo++(D.drop j).take k) i (j+k):=(h.va.wc W V).va
def F6(R:BG->BG->Prop)(D J l:List BG):Prop:=l.Perm (D++J)/\l.Pairwise R
theorem Dw.zy{D U lo:List BG}(h:Dw R D U lo i j)(B:D.Pairwise R)(C:U.Pairwise R)(Y:∀x∈D.drop i,∀y∈U.drop j,R x y):F6 R D U (lo++D.drop i++U.drop j):=by
  refine⟨?_,OU.mpr ⟨OU.mpr ⟨h.acg,(by grind),h.a⟩,(by grind),λx V y W=>?_⟩⟩
  . refine((h.jo.append_right _).append_right _).trans ?_;have Z:D=D.take i++D.drop i:=(by simp_all);have A:U=U.take j++U.drop j:=(by simp);grind
  . rcases C1.mp V with q|q;.exact h.b x q y W
    exact Y _ q _ W
theorem F6.va(h:F6 R J D l):F6 R D J l:=⟨h.1.trans QY,h.2⟩
theorem iM{out a:Array BG}:(out++a.extract i (i+k)).toList=out.toList++(a.toList.drop i).take k:=by simp_all
theorem T3{a:Array BG}:(a.extract i).toList=a.toList.drop i:=by simp;exact Dj (by simp)
theorem Q6{a:Array BG}(hi:i<a.size):(a.toList.drop i).take 1=[a[i]]:=by rw[ABW (by assumption)];simp
theorem iL{out a:Array BG}(hi:i<a.size):(out.push a[i]).toList=out.toList++(a.toList.drop i).take 1:=by rw[Q6 hi];simp
def Bg{O:Wb}(kf:AK->O.α):BG->BG->Prop:=λp q=>O.kle (kf p.1) (kf q.1)
theorem LO{O:Wb}{kf:AK->O.α}{a:Array BG}(h:a.toList.Pairwise (Bg kf)){lo hi:Nat}(D:hi<=a.size):DN kf a lo hi:=λi j V J U=>by
 by_cases z:i=j;.rw[z];exact NJ _
 . rw[DX _,DX _];have:=Ig.mp h i j (Bl (HS J U) D) (Bl U D) (DT J z);assumption
theorem Ox{a:Array BG}(h:p∈a.toList.drop i):∃k,∃(D:i+k<a.size),p=a[i+k]:=by lk;obtain⟨k,D,e⟩:=Gz.mp h;k_in;grind
theorem Q4{a:Array BG}(h:p∈(a.toList.drop i).take k):∃m,m<k/\∃(D:i+m<a.size),p=a[i+m]:=by lk;obtain⟨m,J,e⟩:=Gz.mp h;k_in;grind
section
variable{κ:Qd}{a₀:Array BG}{st:Ce}
structure IG(κ:Qd)(a₀:Array BG)(st st':Ce):Prop where
 sb:Ck κ a₀ st'
 adp:Am st'=Am st
 wt:B9 st'=B9 st
end
theorem IG.acn{st:Ce}(x:IG U J st D)(g:Nat):IG U J st (eY (fJ D) (Am D) (B9 D) g (NK D)):=⟨⟨x.sb.jo,x.sb.gq,x.sb.jg⟩,x.adp,x.wt⟩
theorem C2{M:Of}{A:DB}{E:AK->AX->Prop}{s:AX}{D:Type}{c:Prop}[Decidable c]{x y:StateT Ce DW D}{Q:D->Ce->Prop}{st:Ce}(h:c)(k:Ec M A E s x Q st):Ec M A E s (if c then x else y) Q st:=by simp_all
theorem DC{M:Of}{A:DB}{E:AK->AX->Prop}{s:AX}{D:Type}{c:Prop}[Decidable c]{x y:StateT Ce DW D}{Q:D->Ce->Prop}{st:Ce}(h:¬c)(k:Ec M A E s y Q st):Ec M A E s (if c then x else y) Q st:=by simp_all
theorem ADM{K:Array BG}{st:Ce}(C:F5 prog w A s κ O kf K)(B:Ck κ K st){a b:Array BG}(ha:∀p∈a.toList,p∈K.toList)(hb:∀p∈b.toList,p∈K.toList)(a1:1<=a.size)(b1:1<=b.size)(pa:a.toList.Pairwise (Bg kf))(pb:b.toList.Pairwise (Bg kf))(M:∀p∈a.toList,Bg kf b[0] p)(X:∀p∈b.toList,Bg kf p a[a.size-1])(h:∀m H,IG κ K st H->F6 (Bg kf) a.toList b.toList m.toList->Q m H):Ec (Av prog w) A E s (ADF a b) Q st:=by
  have T:∀{D:Array BG}{V Y:Nat},Dw (Bg kf) a.toList b.toList D.toList V Y->(Y=b.size\/V=a.size)->F6 (Bg kf) a.toList b.toList (D++a.extract V++b.extract Y).toList:=λ{D V Y}j e=>by
    rw[RB,RB,T3,T3];refine j.zy pa pb λx P y R=>?_;rcases e with rfl|rfl;.rw[ADu (by simp)]at R;cases R
    .rw[ADu (by simp)]at P;cases P
  have t:∀{D:Array BG}{V Y:Nat},Dw (Bg kf) a.toList b.toList D.toList V Y->V+1=a.size->F6 (Bg kf) a.toList b.toList (D++b.extract Y++a.extract V).toList:=λ{D V Y}j e=>by rw[RB,RB,T3,T3];refine(j.va.zy pb pa λx P y R=>?_).va;obtain⟨k,d,rfl⟩:=Ox R;have:k=0:=eI (Bm _) (Nat.lt_of_add_lt_add_left (Bl d (Bq e.symm)));subst this;have:=X x (QW P);simpa[show a.size-1=V by exact(ABs a1).mpr e.symm]using this
  have am:∀{i:Nat}(hi:i<a.size),a[i]∈K.toList:=λhi=>ha _ (by simp);have bm:∀{i:Nat}(hi:i<b.size),b[i]∈K.toList:=λhi=>hb _ (by simp);have la:∀{i k:Nat}(d:i+k<a.size),Bg kf (a[i]'(WU d)) a[i+k]:=λ{i k}d=>by have:=LO pa (lo:=0) (Ai _) i (i+k) (by simp) (by simp) d;rw[DX (WU d:i<a.size),DX d]at this;exact this
  have lb:∀{i k:Nat}(d:i+k<b.size),Bg kf (b[i]'(WU d)) b[i+k]:=λ{i k}d=>by have:=LO pb (lo:=0) (Ai _) i (i+k) (by simp) (by simp) d;rw[DX (WU d:i<b.size),DX d]at this;exact this
  have oneB:∀{D:Array BG}{V Y:Nat}(h1:V<a.size)(h2:Y<b.size),Dw (Bg kf) a.toList b.toList D.toList V Y->Bg kf b[Y] a[V]->Dw (Bg kf) a.toList b.toList (D.push b[Y]).toList V (Y+1):=λ{D V Y}h1 h2 j r=>by rw[iL h2];refine j.xy pb λx P y R=>?_;rw[Q6 h2,Bc]at P;obtain⟨k,d,rfl⟩:=Ox R;rw[P];exact HU r (la d)
  have oneA:∀{D:Array BG}{V Y:Nat}(h1:V<a.size)(h2:Y<b.size),Dw (Bg kf) a.toList b.toList D.toList V Y->Bg kf a[V] b[Y]->Dw (Bg kf) a.toList b.toList (D.push a[V]).toList (V+1) Y:=λ{D V Y}h1 h2 j r=>by rw[iL h1];refine j.wc pa λx P y R=>?_;rw[Q6 h1,Bc]at P;obtain⟨k,d,rfl⟩:=Ox R;rw[P];exact HU r (lb d)
  refine BL (Qh (MM ⟨rfl,?_⟩));refine BL (FP (by assumption:0<b.size) ?_);have j0:Dw (Bg kf) a.toList b.toList (#[b[0]]:Array BG).toList 0 1:=by
    refine⟨?_,by simp,λx P y R=>?_,λx P y R=>?_⟩
    . rw[<-Q6 (by assumption:0<b.size)];simp
    .simp at P R;subst P;exact M y (by simpa using R)
    . simp only[Bc]at P;obtain⟨k,d,rfl⟩:=Ox R;rw[P];have:=lb (i:=0) (k:=1+k) (LI d);simpa using this
  by_cases e1:1=b.size
  . refine C2 (by simpa using e1) ?_;exact BV (h _ st ⟨B,rfl,rfl⟩ (T j0 (.inl e1)))
  refine DC (by simpa using e1) ?_;by_cases e2:0+1=a.size;. refine C2 (by simpa using e2) ?_;exact BV (h _ st ⟨B,rfl,rfl⟩ (t j0 e2))
  refine DC (by simpa using e2) ?_;refine BL (MF ?_);refine BL (Ij (IC (I:=λx c H=>IG κ K st H/\∃D V Y g,c=(AG,D,V,Y,g)/\Dw (Bg kf) a.toList b.toList D.toList V Y/\V+1<a.size/\Y<b.size/\x+1<=V+Y) (Q:=λc H=>IG κ K st H/\∃r,c.1=AA r/\F6 (Bg kf) a.toList b.toList r.toList) ?gh ?fin ?acw) ?post);case acw=>exact⟨⟨B,rfl,rfl⟩,_,0,1,_,rfl,j0,DT a1 e2,DT b1 e1,(by decide)⟩
  case fin=> intro c H hI;lk;obtain⟨S,D,V,Y,g,rfl,j,h1,h2,h3⟩:=hI;k_in;lia
  case post=> intro c H hI;lk;obtain⟨S,r,e,f⟩:=hI;obtain⟨c1,c2⟩:=c;obtain rfl:c1=AA r:=e;k_in;exact BV (h r H S f)
  case gh=>
    intro x c st1 _ P hI;lk;obtain⟨S,D,V,Y,g,rfl,j,h1,h2,h3⟩:=hI;k_in;refine BL (Ij (IC (I:=λy c H=>H=st1/\∃L W F p q,c=(AG,L,W,F,p,q)/\Dw (Bg kf) a.toList b.toList L.toList W F/\W+1<a.size/\F<b.size/\V+Y+y<=W+F) (Q:=λc H=>H=st1/\((∃r,c.1=AA r/\F6 (Bg kf) a.toList b.toList r.toList)\/∃L W F p q,c=(AG,L,W,F,p,q)/\Dw (Bg kf) a.toList b.toList L.toList W F/\W+1<a.size/\F<b.size/\V+Y+1<=W+F)) ?s1 ?s2 ?s3) ?s4);case s3=>exact⟨rfl,D,V,Y,0,0,rfl,j,h1,h2,Ai _⟩
    case s2=> intro c H hI;lk;obtain⟨rfl,L,W,F,p,q,rfl,j',o,g2,g3⟩:=hI;k_in;exact⟨rfl,.inr ⟨L,W,F,p,q,rfl,j',o,g2,by lia⟩⟩
    case s1=> intro y c H _ R hI;lk;obtain⟨rfl,L,W,F,p,q,rfl,j',o,g2,g3⟩:=hI;k_in;refine BL (FP g2 (BL (FP (GQ o:W<a.size) (BL (Q7 C S.sb (bm g2) (am (GQ o)) ?_)))));cases e:O.blt (kf b[F].1) (kf (a[W]'(GQ o)).1)with
      |true=>
        refine C2 rfl ?_;refine BL (FP g2 ?_);have j2:=oneB (GQ o) g2 j' (KR e);by_cases z:F+1=b.size;. refine C2 (by simpa using z) ?_;exact BV ⟨rfl,.inl ⟨_,rfl,T j2 (.inl z)⟩⟩
        . refine DC (by simpa using z) ?_;split;.exact BV ⟨rfl,.inr ⟨_,_,_,_,_,rfl,j2,o,by dsimp only;exact DT g2 z,by dsimp only;exact Jv.mpr (D6 g3)⟩⟩
          .exact BV ⟨rfl,_,_,_,_,_,rfl,j2,o,by dsimp only;exact DT g2 z,by dsimp only;exact Jv.mpr g3⟩|false=>
        refine DC Dk ?_;refine BL (FP (GQ o:W<a.size) ?_);have j2:=oneA (GQ o) g2 j' e;by_cases z:W+1+1=a.size;. refine C2 (by simpa using z) ?_;exact BV ⟨rfl,.inl ⟨_,rfl,t j2 z⟩⟩
        . refine DC (by simpa using z) ?_;split;.exact BV ⟨rfl,.inr ⟨_,_,_,_,_,rfl,j2,by dsimp only;exact DT o z,g2,by dsimp only;lia⟩⟩
          .exact BV ⟨rfl,_,_,_,_,_,rfl,j2,by dsimp only;exact DT o z,g2,by dsimp only;lia⟩
    case s4=>
      rintro c H⟨rfl,⟨r,e,f⟩|⟨L,W,F,p,q,rfl,j',o,g2,g3⟩⟩;. obtain⟨c1,c2⟩:=c;obtain rfl:c1=AA r:=e;exact BV ⟨S,r,rfl,f⟩
      refine BL (Qh (MM ⟨rfl,?_⟩));refine BL (Ij (IC (I:=λy c st2=>IG κ K st st2/\∃o2 i2 U m2 p q,c=(AG,o2,i2,U,m2,p,q)/\Dw (Bg kf) a.toList b.toList o2.toList i2 U/\i2+1<a.size/\U<b.size/\V+Y+1<=i2+U) (Q:=λc st2=>IG κ K st st2/\((∃r,c.1=AA r/\F6 (Bg kf) a.toList b.toList r.toList)\/∃o2 i2 U m2 p q,c=(AG,o2,i2,U,m2,p,q)/\Dw (Bg kf) a.toList b.toList o2.toList i2 U/\i2+1<a.size/\U<b.size/\V+Y+1<=i2+U)) ?t1 ?t2 ?t3) ?t4);case t3=>exact⟨S,L,W,F,_,p,q,rfl,j',o,g2,g3⟩
      case t2=>rintro c st2⟨S2,r⟩;exact⟨S2,.inr r⟩
      case t4=>
        rintro c st2⟨S2,⟨r,e,f⟩|⟨o2,i2,U,m2,p,q,rfl,j2,f1,f2,f3⟩⟩
        . obtain⟨c1,c2⟩:=c;obtain rfl:c1=AA r:=e;exact BV ⟨S2,r,rfl,f⟩
        .refine BL (Jx (BV ⟨S2.acn _,o2,i2,U,_,rfl,j2,f1,f2,eO.mp (HS h3 f3)⟩))
      case t1=>
        intro y c st2 _ R hI;lk;obtain⟨S2,o2,i2,U,m2,p,q,rfl,j2,f1,f2,f3⟩:=hI;k_in;refine(λ(N:∀m3:Nat,(?G:Nat->Prop) m3)=>?u) ?v;case u=>
          by_cases z:m2>1
          . refine C2 z ?_;generalize m2-1=m3;exact N m3
          . refine DC z ?_;generalize m2=m3;exact N m3
        case v=>
          intro m3;refine BL (Jx ?_);have S3:=S2.acn m3;refine BL (FP f2 ?_);refine(λ(N:∀(k i3:Nat)(o3:Array BG),Dw (Bg kf) a.toList b.toList o3.toList i3 U->(∀m(l:m<a.size),i3<=m->Bg kf b[U] a[m])->i3+1<a.size->V+Y+1<=i3+U->(?G2:Nat->Nat->Array BG->Prop) k i3 o3)=>?u2) ?v2;case u2=>
            refine BL (Oy C S3.sb (bm f2) ha (by dsimp only;exact(L9 (D6 (Bz f1))).mp (Ai _)) (by dsimp only;exact WV.mpr (GQ f1)) (LO pa (by dsimp only;exact(L9 (D6 (Bz f1))).mp (Ai _))) λk d bl bg=>?_);dsimp only at d;have runA:∀m,m<k->∀(l:i2+m<a.size),Bg kf a[i2+m] b[U]:=λm z l=>by have:=bl m z;unfold Cu at this;rw[AHS Dk,DX l]at this;show O.blt _ _=AQ;simpa using this
            have runB:∀m,k<=m->∀(l:i2+m<a.size),Bg kf b[U] a[i2+m]:=λm z l=>by have:=bg m z (by(clear z runA bg bl d N f3 f2 R g3 g2 o h3 h2 h1 P e2 e1 j0 X M b1 a1;dsimp only;exact WV.mpr l));unfold Cu at this;rw[AHS Dk,DX l]at this;exact KR (by show O.blt _ _=AJ;simpa using this)
            have j3:Dw (Bg kf) a.toList b.toList (o2++a.extract i2 (i2+k)).toList (i2+k) U:=by rw[iM];refine j2.wc pa λx P y R=>?_;obtain⟨m,l,hm2,rfl⟩:=Q4 P;obtain⟨m',hm',rfl⟩:=Ox R;exact HU (runA m l hm2) (lb hm')
            have pre:(k>0/\i2+k+1=a.size)\/(k>0/\i2+k=a.size)\/i2+k+1<a.size:=by(clear runB runA bg bl N f3 f2 R g3 g2 o h3 h2 h1 P e2 e1 j0 X M b1 a1;lia)
            rcases pre with⟨zk,n⟩|⟨zk,n⟩|n;. refine C2 zk (C2 (by simpa using n) ?_);exact BV ⟨S3,.inl ⟨_,rfl,t j3 n⟩⟩
            . refine C2 zk (DC (by simp;exact NG (ND.mpr (Bq n.symm))) (C2 (by simpa using n) ?_));exact BV ⟨S3,.inl ⟨_,rfl,T j3 (.inr n)⟩⟩
            have hB3:∀m(l:m<a.size),i2+k<=m->Bg kf b[U] a[m]:=λm l z=>by have:=runB (m-i2) ((L9 (D6 z)).mpr z) (lt_of_eq_of_lt (Ih (D6 z)) l);simpa[show i2+(m-i2)=m from Ih (D6 z)]using this
            by_cases zk:k>0
            . refine C2 zk (DC (by simp;exact Dv n) (DC (by simp;exact Dv (GQ n)) ?_));generalize o2++a.extract i2 (i2+k)=o3 at j3⊢;have f3':V+Y+1<=(i2+k)+U:=by lia
              generalize i2+k=i3 at j3 hB3 n f3'⊢;exact N k i3 o3 j3 hB3 n f3'
            . refine DC zk ?_;have zk0:k=0:=AEE (F4 zk);have eo:o2++a.extract i2 (i2+k)=o2:=by rw[zk0];simp;exact LJ _ _
              rw[eo,zk0,WS]at j3;rw[zk0,WS]at hB3 n;exact N k i2 o2 j3 hB3 n f3
          case v2=>
            intro k i3 o3 j3 hB3 n f3';have hi3:i3<a.size:=GQ n;refine BL (FP f2 ?_);have j4:=oneB (by omega) f2 j3 (hB3 i3 (by omega) (Ai _));by_cases z3:U+1=b.size
            . refine C2 (by simpa using z3) ?_;exact BV ⟨S3,.inl ⟨_,rfl,T j4 (.inl z3)⟩⟩
            refine DC (by simpa using z3) ?_;refine BL (FP (by omega:i3<a.size) ?_);refine(λ(N:∀(k' k5:Nat)(o5:Array BG),Dw (Bg kf) a.toList b.toList o5.toList i3 k5->(∀m(l:m<b.size),k5<=m->Bg kf (a[i3]'hi3) b[m])->k5<b.size->V+Y+1<=i3+k5->(?G3:Nat->Nat->Array BG->Prop) k' k5 o5)=>?u3) ?v3;case u3=>
              refine BL (Oy C S3.sb (am (by omega)) hb (by dsimp only;exact Bq (Ih f2)) (by(clear N hi3 f3' n f3 f1 R g3 g2 o h3 h2 h1 P e2 e1 j0 X M b1 a1;dsimp only;exact WV.mpr (DT f2 z3))) (LO pb (by dsimp only;exact Bq (Ih f2))) λk' hk' bl' bg'=>?_);dsimp only at hk';have runB':∀m,m<k'->∀(l:U+1+m<b.size),Bg kf b[U+1+m] (a[i3]'(by omega)):=λm z l=>by have:=bl' m z;unfold Cu at this;rw[AHT rfl,DX l]at this;exact KR this
              have Z:∀m(l:m<b.size),U+1+k'<=m->Bg kf (a[i3]'(by omega)) b[m]:=λm l z=>by have:=bg' (m-(U+1)) ((L9 (D6 z)).mpr z) (by(clear runB' bg' bl' hk' N z3 hi3 f3' n f3 f1 R g3 g2 o h3 h2 h1 P e2 e1 j0 X M b1 a1;dsimp only;exact Nat.sub_lt_sub_right (D6 z) l));unfold Cu at this;rw[AHT rfl]at this;have e:U+1+(m-(U+1))=m:=Ih (D6 z);rw[e,DX l]at this;exact this
              have j5:Dw (Bg kf) a.toList b.toList (o3.push b[U]++b.extract (U+1) (U+1+k')).toList i3 (U+1+k'):=by rw[iM];refine j4.xy pb λx P y R=>?_;obtain⟨m,l,hm2,rfl⟩:=Q4 P;obtain⟨m',hm',rfl⟩:=Ox R;exact HU (runB' m l hm2) (la hm')
              have pre:(k'>0/\U+1+k'=b.size)\/U+1+k'<b.size:=by(clear Z runB' bg' bl' N hi3 f3' n f3 f1 R g3 g2 o h3 h2 h1 P e2 e1 j0 X M b1 a1;lia)
              rcases pre with⟨zk',z4⟩|z4;. refine C2 zk' (C2 (by simpa using z4) ?_);exact BV ⟨S3,.inl ⟨_,rfl,T j5 (.inl z4)⟩⟩
              have f4':V+Y+1<=i3+(U+1+k'):=by lia
              by_cases zk':k'>0
              . refine C2 zk' (DC (by simp;exact Dv z4) ?_);generalize o3.push b[U]++b.extract (U+1) (U+1+k')=o5 at j5⊢;generalize U+1+k'=k5 at j5 Z z4 f4'⊢;exact N k' k5 o5 j5 Z z4 f4'
              . refine DC zk' ?_;have zk0:k'=0:=by(exact AEE (F4 zk'))
                have eo:o3.push b[U]++b.extract (U+1) (U+1+k')=o3.push b[U]:=by rw[zk0];simp;(clear zk0 zk' f4' z4 Z runB' bg' bl' hk' N z3 hi3 f3' n f3 f1 R g3 g2 o h3 h2 h1 P e2 e1 j0 X M b1 a1;exact LJ _ _)
                rw[eo,zk0,WS]at j5;rw[zk0,WS]at Z z4 f4';exact N k' _ _ j5 Z z4 f4'
            case v3=>
              intro k' k5 o5 j5 Z z4 f4';refine BL (FP (by omega:i3<a.size) ?_);have j6:=oneA (by omega) z4 j5 (Z k5 z4 (Ai _));by_cases z5:i3+1+1=a.size;. refine C2 (by simpa using z5) ?_;exact BV ⟨S3,.inl ⟨_,rfl,t j6 z5⟩⟩
              refine DC (by simpa using z5) ?_;by_cases z6:(Ab (k<7)&&Ab (k'<7))=AJ
              . refine C2 z6 ?_;exact BV ⟨S3,.inr ⟨_,_,_,_,_,_,rfl,j6,DT n z5,z4,by lia⟩⟩
              . refine DC z6 ?_;exact BV ⟨S3,_,_,_,_,_,_,rfl,j6,DT n z5,z4,by lia⟩
theorem Q3(a:Array BG)(h:n<=a.size):a.toList.reverse.drop (a.size-n)=(a.toList.take n).reverse:=by rw[List.drop_reverse];grind
theorem Kb{a:Array BG}(h:n<=a.size)(J:x∈a.toList.reverse.drop (a.size-n)):∃m,∃(D:m<a.size),m<n/\x=a[m]:=by lk;obtain⟨m,D,e⟩:=Gz.mp J;k_in;grind
theorem RA(a:Array BG)(h:n<=a.size)(D:t<=n):(a.toList.reverse.drop (a.size-n)).take (n-t)=(a.extract t n).toList.reverse:=by rw[Q3 a h,List.take_reverse];simp;rw[List.drop_take];grind
theorem Q5(a:Array BG)(h:n<=a.size)(D:1<=n):(a.toList.reverse.drop (a.size-n)).take 1=[a[n-1]]:=by have e:=RA a h (show n-1<=n by simp);rw[show n-(n-1)=1 by exact ABw D]at e;rw[e];have:=Q6 (MB D h);simp;grind
theorem iA{D J l:List BG}(h:F6 (λp q=>R q p) D.reverse J.reverse l.reverse):F6 R D J l:=by refine⟨(List.reverse_perm l).symm.trans (h.1.trans (by grind)),?_⟩;exact ABh.mp h.2
abbrev G5{O:Wb}(kf:AK->O.α)(a b out:Array BG)(D U:Nat):Prop:=Dw (λp q=>Bg kf q p) a.toList.reverse b.toList.reverse out.toList (a.size-D) (b.size-U)
theorem ADL{N:Array BG}{st:Ce}(C:F5 prog w A s κ O kf N)(B:Ck κ N st){a b:Array BG}(ha:∀p∈a.toList,p∈N.toList)(hb:∀p∈b.toList,p∈N.toList)(a1:1<=a.size)(b1:1<=b.size)(pa:a.toList.Pairwise (Bg kf))(pb:b.toList.Pairwise (Bg kf))(o:∀p∈a.toList,Bg kf b[0] p)(last:∀p∈b.toList,Bg kf p a[a.size-1])(h:∀m M,IG κ N st M->F6 (Bg kf) a.toList b.toList m.toList->Q m M):Ec (Av prog w) A E s (ADE a b) Q st:=by
  have pa':a.toList.reverse.Pairwise (λp q=>Bg kf q p):=ABh.mpr pa;have pb':b.toList.reverse.Pairwise (λp q=>Bg kf q p):=ABh.mpr pb;have n:∀{D:Array BG}{Y W:Nat},Y<=a.size->W<=b.size->G5 kf a b D Y W->(Y=0\/W=0)->F6 (Bg kf) a.toList b.toList (a.extract 0 Y++b.extract 0 W++D.reverse).toList:=λ{D Y W}q1 q2 j e=>by
    refine iA ?_;have el:(a.extract 0 Y++b.extract 0 W++D.reverse).toList.reverse=D.toList++b.toList.reverse.drop (b.size-W)++a.toList.reverse.drop (a.size-Y):=by rw[Q3 a q1,Q3 b q2];simp[WH]
    rw[el];refine(j.va.zy pb' pa' λx X y hy=>?_).va;obtain⟨m,hm,z,rfl⟩:=Kb q2 X;obtain⟨m',hm',z',rfl⟩:=Kb q1 hy;lia
  have l:∀{D:Array BG}{Y W:Nat},Y<=a.size->W<=b.size->G5 kf a b D Y W->W=1->F6 (Bg kf) a.toList b.toList (b.extract 0 W++a.extract 0 Y++D.reverse).toList:=λ{D Y W}q1 q2 j e=>by
    refine iA ?_;have el:(b.extract 0 W++a.extract 0 Y++D.reverse).toList.reverse=D.toList++a.toList.reverse.drop (a.size-Y)++b.toList.reverse.drop (b.size-W):=by rw[Q3 a q1,Q3 b q2];simp[WH]
    rw[el];refine j.zy pa' pb' λx X y hy=>?_;obtain⟨m,hm,z,rfl⟩:=Kb q1 X;obtain⟨m',hm',z',rfl⟩:=Kb q2 hy;have:m'=0:=by simp_all
    subst this;exact o _ (by simp)
  have am:∀{i:Nat}(hi:i<a.size),a[i]∈N.toList:=λhi=>ha _ (by simp);have bm:∀{i:Nat}(hi:i<b.size),b[i]∈N.toList:=λhi=>hb _ (by simp);have la:∀{i k:Nat}(hk:k<a.size)(h:i<=k),Bg kf (a[i]'(HS h hk)) a[k]:=λ{i k}hk h=>by have:=LO pa (lo:=0) (Ai _) i k (by simp) (by omega) hk;rw[DX (HS h hk:i<a.size),DX hk]at this;exact this
  have lb:∀{i k:Nat}(hk:k<b.size)(h:i<=k),Bg kf (b[i]'(HS h hk)) b[k]:=λ{i k}hk h=>by have:=LO pb (lo:=0) (Ai _) i k (by simp) (by omega) hk;rw[DX (HS h hk:i<b.size),DX hk]at this;exact this
  have oneA:∀{D:Array BG}{Y W:Nat}(h1:1<=Y)(h2:Y<=a.size)(h3:1<=W)(h4:W<=b.size),G5 kf a b D Y W->Bg kf b[W-1] a[Y-1]->G5 kf a b (D.push a[Y-1]) (Y-1) W:=λ{D Y W}h1 h2 h3 h4 j r=>by
    have e:(D.push a[Y-1]).toList=D.toList++(a.toList.reverse.drop (a.size-Y)).take 1:=by rw[Q5 a h2 h1];simp
    show Dw _ _ _ (D.push a[Y-1]).toList _ _;rw[e,show a.size-(Y-1)=a.size-Y+1 by(clear r h4 h3 last o b1 a1;lia)];refine j.wc pa' λx X y hy=>?_;rw[Q5 a h2 h1,Bc]at X;obtain⟨m,hm,z,rfl⟩:=Kb h4 hy;rw[X];exact HU (lb (MB h3 h4) ((WT h3).mpr z:m<=W-1)) r
  have oneB:∀{D:Array BG}{Y W:Nat}(h1:1<=Y)(h2:Y<=a.size)(h3:1<=W)(h4:W<=b.size),G5 kf a b D Y W->Bg kf a[Y-1] b[W-1]->G5 kf a b (D.push b[W-1]) Y (W-1):=λ{D Y W}h1 h2 h3 h4 j r=>by
    have e:(D.push b[W-1]).toList=D.toList++(b.toList.reverse.drop (b.size-W)).take 1:=by rw[Q5 b h4 h3];simp
    show Dw _ _ _ (D.push b[W-1]).toList _ _;rw[e,show b.size-(W-1)=b.size-W+1 by(clear r h2 h1 last o b1 a1;lia)];refine j.xy pb' λx X y hy=>?_;rw[Q5 b h4 h3,Bc]at X;obtain⟨m,hm,z,rfl⟩:=Kb h2 hy;rw[X];exact HU (la (MB h1 h2) ((WT h1).mpr z:m<=Y-1)) r
  refine BL (Qh (MM ⟨rfl,?_⟩));refine BL (FP (by omega:a.size-1<a.size) ?_);have j0:G5 kf a b (#[a[a.size-1]]:Array BG) (a.size-1) b.size:=by
    refine⟨?_,by simp,λx X y hy=>?_,λx X y hy=>?_⟩
    . have:=Q5 a (Ai _) a1;rw[Qc,List.drop_zero]at this;rw[show a.size-(a.size-1)=1 by exact ABw a1,this];simp
    . simp only[Bc]at X;obtain⟨m,hm,z,rfl⟩:=Kb (by simp) hy;rw[X];exact la (eV a1 (by decide)) (Bz z)
    . simp only[Bc]at X;obtain⟨m,hm,z,rfl⟩:=Kb (Ai _) hy;rw[X];exact last _ (by simp)
  by_cases e1:a.size-1=0;. refine C2 (by simpa using e1) ?_;exact BV (h _ st ⟨B,rfl,rfl⟩ (n (by simp) (Ai _) j0 (.inl e1)))
  refine DC (by simpa using e1) ?_;by_cases e2:b.size=1;. refine C2 (by simpa using e2) ?_;exact BV (h _ st ⟨B,rfl,rfl⟩ (l (by simp) (Ai _) j0 e2))
  refine DC (by simpa using e2) ?_;refine BL (MF ?_);refine BL (Ij (IC (I:=λx c M=>IG κ N st M/\∃Y W D g,c=(AG,Y,W,D,g)/\G5 kf a b D Y W/\1<=Y/\Y<=a.size/\2<=W/\W<=b.size/\x+1+Y+W<=a.size+b.size) (Q:=λc M=>IG κ N st M/\∃r,c.1=AA r/\F6 (Bg kf) a.toList b.toList r.toList) ?gh ?fin ?acw) ?post);case acw=>exact⟨⟨B,rfl,rfl⟩,_,_,_,_,rfl,j0,KQ.mpr e1,by simp,eO.mp (DT b1 (Gk e2)),Ai _,by simp_all⟩
  case fin=> intro c M hI;lk;obtain⟨S,Y,W,D,g,rfl,j,h1,h2,h3,h4,h5⟩:=hI;k_in;lia
  case post=> intro c M hI;lk;obtain⟨S,r,e,f⟩:=hI;obtain⟨c1,c2⟩:=c;obtain rfl:c1=AA r:=e;k_in;exact BV (h r M S f)
  case gh=>
    intro x c st1 hx0 X hI;lk;obtain⟨S,Y,W,D,g,rfl,j,h1,h2,h3,h4,h5⟩:=hI;k_in;refine BL (Ij (IC (I:=λy c M=>M=st1/\∃H K P p q,c=(AG,H,K,P,p,q)/\G5 kf a b P H K/\1<=H/\H<=a.size/\2<=K/\K<=b.size/\H+K+y<=Y+W) (Q:=λc M=>M=st1/\((∃r,c.1=AA r/\F6 (Bg kf) a.toList b.toList r.toList)\/∃H K P p q,c=(AG,H,K,P,p,q)/\G5 kf a b P H K/\1<=H/\H<=a.size/\2<=K/\K<=b.size/\H+K+1<=Y+W)) ?s1 ?s2 ?s3) ?s4);case s3=>exact⟨rfl,Y,W,D,0,0,rfl,j,h1,h2,h3,h4,Ai _⟩
    case s2=> intro c M hI;lk;obtain⟨rfl,H,K,P,p,q,rfl,j',g1,g2,g3,g4,g5⟩:=hI;k_in;exact⟨rfl,.inr ⟨H,K,P,p,q,rfl,j',g1,g2,g3,g4,by lia⟩⟩
    case s1=> intro y c M hy0 hy hI;lk;obtain⟨rfl,H,K,P,p,q,rfl,j',g1,g2,g3,g4,g5⟩:=hI;k_in;clear hy0 h1 h2 h3 h4 h5 X hx0 e1 e2 j0 j o last;refine BL (FP (Ta (Bz g3) (ND.mpr g4):K-1<b.size) (BL (FP (MB g1 g2:H-1<a.size) (BL (Q7 C S.sb (bm (Ta (Bz g3) (ND.mpr g4))) (am (MB g1 g2)) ?_)))));cases e:O.blt (kf (b[K-1]'(Ta (Bz g3) (ND.mpr g4))).1) (kf (a[H-1]'(MB g1 g2)).1)with
      |true=>
        refine C2 rfl ?_;refine BL (FP (MB g1 g2:H-1<a.size) ?_);have j2:=oneA g1 g2 (Bz g3) g4 j' (KR e);by_cases z:H-1=0
        . refine C2 (by simpa using z) ?_;exact BV ⟨rfl,.inl ⟨_,rfl,n (by dsimp only;simp_all) g4 j2 (.inl z)⟩⟩
        . refine DC (by simpa using z) ?_;split;.exact BV ⟨rfl,.inr ⟨_,_,_,_,_,rfl,j2,by dsimp only;exact KQ.mpr z,by dsimp only;exact Bz (MB g1 g2),g3,g4,by dsimp only;lia⟩⟩
          .exact BV ⟨rfl,_,_,_,_,_,rfl,j2,by dsimp only;exact KQ.mpr z,by dsimp only;exact Bz (MB g1 g2),g3,g4,by dsimp only;lia⟩|false=>
        refine DC Dk ?_;refine BL (FP (Ta (Bz g3) (ND.mpr g4):K-1<b.size) ?_);have j2:=oneB g1 g2 (Bz g3) g4 j' e;by_cases z:K-1=1;. refine C2 (by simpa using z) ?_;exact BV ⟨rfl,.inl ⟨_,rfl,l g2 (by dsimp only;exact Ag (Bq z) b1) j2 z⟩⟩
        . refine DC (by simpa using z) ?_;split;.exact BV ⟨rfl,.inr ⟨_,_,_,_,_,rfl,j2,g1,g2,by(clear j2 e g5 g4 g2 g1 hy b1 a1;dsimp only;lia),by dsimp only;exact Ag (ABt _ _) g4,by dsimp only;lia⟩⟩
          .exact BV ⟨rfl,_,_,_,_,_,rfl,j2,g1,g2,by(clear j2 e g5 g4 g2 g1 hy b1 a1;dsimp only;lia),by dsimp only;exact Ag (ABt _ _) g4,by dsimp only;lia⟩
    case s4=>
      rintro c M⟨rfl,⟨r,e,f⟩|⟨H,K,P,p,q,rfl,j',g1,g2,g3,g4,g5⟩⟩;. obtain⟨c1,c2⟩:=c;obtain rfl:c1=AA r:=e;exact BV ⟨S,r,rfl,f⟩
      refine BL (Qh (MM ⟨rfl,?_⟩));refine BL (Ij (IC (I:=λy c st2=>IG κ N st st2/\∃i2 Z o2 m2 p q,c=(AG,i2,Z,o2,m2,p,q)/\G5 kf a b o2 i2 Z/\1<=i2/\i2<=a.size/\2<=Z/\Z<=b.size/\i2+Z+1<=Y+W) (Q:=λc st2=>IG κ N st st2/\((∃r,c.1=AA r/\F6 (Bg kf) a.toList b.toList r.toList)\/∃i2 Z o2 m2 p q,c=(AG,i2,Z,o2,m2,p,q)/\G5 kf a b o2 i2 Z/\1<=i2/\i2<=a.size/\2<=Z/\Z<=b.size/\i2+Z+1<=Y+W)) ?t1 ?t2 ?t3) ?t4);case t3=>exact⟨S,H,K,P,_,p,q,rfl,j',g1,g2,g3,g4,g5⟩
      case t2=>rintro c st2⟨S2,r⟩;exact⟨S2,.inr r⟩
      case t4=>
        rintro c st2⟨S2,⟨r,e,f⟩|⟨i2,Z,o2,m2,p,q,rfl,j2,f1,f2,f3,f4,f5⟩⟩;. obtain⟨c1,c2⟩:=c;obtain rfl:c1=AA r:=e;exact BV ⟨S2,r,rfl,f⟩
        .refine BL (Jx (BV ⟨S2.acn _,i2,Z,o2,_,rfl,j2,f1,f2,f3,f4,by lia⟩))
      case t1=>
        intro y c st2 hy0 hy hI;lk;obtain⟨S2,i2,Z,o2,m2,p,q,rfl,j2,f1,f2,f3,f4,f5⟩:=hI;k_in;clear hy0 hy j' g1 g2 g3 g4 g5 j h1 h2 h3 h4 h5 X hx0 e1 e2 j0 S o last;refine(λ(L:∀m3:Nat,(?G:Nat->Prop) m3)=>?u) ?v;case u=>
          by_cases z:m2>1
          . refine C2 z ?_;generalize m2-1=m3;exact L m3
          . refine DC z ?_;generalize m2=m3;exact L m3
        case v=>
          intro m3;refine BL (Jx ?_);have S3:=S2.acn m3;have U:Z-1<b.size:=Ta (Bz f3) (ND.mpr f4);refine BL (FP U ?_);refine(λ(L:∀(c i3:Nat)(o3:Array BG),G5 kf a b o3 i3 Z->(∀m(hm:m<a.size),m<i3->Bg kf a[m] (b[Z-1]'U))->1<=i3->i3<=a.size->i3+Z+1<=Y+W->(?G2:Nat->Nat->Array BG->Prop) c i3 o3)=>?u2) ?v2;case u2=>
            refine BL (Oy C S3.sb (bm U) ha (by dsimp only;simp_all) (by dsimp only;exact eV f1 (by decide)) (LO pa (by dsimp only;simp_all)) λt ht bl bg=>?_);dsimp only at ht;have F:∀m(hm:m<a.size),m<t->Bg kf a[m] (b[Z-1]'U):=λm hm z=>by have:=bl m z;unfold Cu at this;rw[AHS Dk,DX (LI hm:0+m<a.size)]at this;show O.blt _ _=AQ;simpa using this
            have runB:∀m(hm:m<a.size),t<=m->m<i2->Bg kf (b[Z-1]'U) a[m]:=λm hm z z'=>by have:=bg m z z';unfold Cu at this;rw[AHS Dk,DX (LI hm:0+m<a.size)]at this;exact KR (by show O.blt _ _=AJ;simpa using this)
            have j3:G5 kf a b (o2++(a.extract t i2).reverse) t Z:=by
              have e:(o2++(a.extract t i2).reverse).toList=o2.toList++(a.toList.reverse.drop (a.size-i2)).take (i2-t):=by rw[RA a f2 ht];simp
              show Dw _ _ _ (o2++(a.extract t i2).reverse).toList _ _;rw[e,show a.size-t=a.size-i2+(i2-t)from(ABs ((eU (Ag ht f2)).mpr f2)).mp (ABx ht)];refine j2.wc pa' λx X y hy=>?_;rw[RA a f2 ht,AD7]at X;simp only[iQ,WH]at X;obtain⟨m,hm,hm2,rfl⟩:=Q4 X;obtain⟨m',hm',z,rfl⟩:=Kb f4 hy;exact HU (lb (by omega) (eM z:m'<=Z-1)) (runB _ hm2 (by simp) (LI hm))
            have pre:(i2-t>0/\t=0)\/1<=t:=by(clear runB F bg bl L U f5 f4 f3 f2 b1 a1;lia)
            rcases pre with⟨zk,z1⟩|z1
            . refine C2 zk (C2 (by simpa using z1) ?_);exact BV ⟨S3,.inl ⟨_,rfl,n (by simp_all) f4 j3 (.inl z1)⟩⟩
            have t2:t<=a.size:=Ag ht f2;have T:t+Z+1<=Y+W:=by lia
            by_cases zk:i2-t>0
            . refine C2 zk (DC (by simp;exact NG z1) ?_);generalize i2-t=c;generalize o2++(a.extract t i2).reverse=o3 at j3⊢;clear bl bg ht runB zk;generalize t=i3 at j3 F z1 t2 T⊢;exact L c i3 o3 j3 F z1 t2 T
            . refine DC zk ?_;have zk0:t=i2:=by(clear T t2 z1 runB F bg bl L U f5 f4 f3 f2 f1 b1 a1;lia)
              have eo:o2++(a.extract t i2).reverse=o2:=by rw[zk0];simp;exact LJ _ _
              rw[eo,zk0]at j3;rw[zk0]at F z1 t2 T;generalize i2-t=c;exact L c i2 o2 j3 F z1 t2 T
          case v2=>
            intro c i3 o3 j3 F z1 t2 T;have d:i3-1<a.size:=MB z1 t2;refine BL (FP U ?_);have j4:=oneB z1 t2 (Bz f3) f4 j3 (F _ (by omega) (eV z1 (by decide)));by_cases z3:Z-1=1;. refine C2 (by simpa using z3) ?_;exact BV ⟨S3,.inl ⟨_,rfl,l t2 (by dsimp only;exact Bz U) j4 z3⟩⟩
            refine DC (by simpa using z3) ?_;refine BL (FP (by omega:i3-1<a.size) ?_);refine(λ(L:∀(c' k5:Nat)(o5:Array BG),G5 kf a b o5 i3 k5->(∀m(hm:m<b.size),m<k5->Bg kf b[m] (a[i3-1]'d))->2<=k5->k5<=b.size->i3+k5+1<=Y+W->(?G3:Nat->Nat->Array BG->Prop) c' k5 o5)=>?u3) ?v3;case u3=>
              refine BL (Oy C S3.sb (am (by omega)) hb (by dsimp only;exact AHh (AEB.mpr rfl) (Bz U)) (by(clear L j4 d T t2 F U f5 f4 f2 f1 b1 a1;dsimp only;exact(Nat.mod_eq_iff_lt (ABu.mpr f3)).mp (Nat.self_sub_mod _ _))) (LO pb (by dsimp only;exact AHh (AEB.mpr rfl) (Bz U))) λt' ht' bl' bg'=>?_);dsimp only at ht';have V:∀m(hm:m<b.size),m<t'->Bg kf b[m] (a[i3-1]'(by omega)):=λm hm z=>by have:=bl' m z;unfold Cu at this;rw[AHT rfl,DX (LI hm:0+m<b.size)]at this;exact KR (by show O.blt _ _=AJ;simpa using this)
              have R:∀m(hm:m<b.size),t'<=m->m<Z-1->Bg kf (a[i3-1]'(by omega)) b[m]:=λm hm z z'=>by have:=bg' m z z';unfold Cu at this;rw[AHT rfl,DX (LI hm:0+m<b.size)]at this;show O.blt _ _=AQ;simpa using this
              have j5:G5 kf a b (o3.push (b[Z-1]'U)++(b.extract t' (Z-1)).reverse) i3 t':=by
                have e:(o3.push (b[Z-1]'U)++(b.extract t' (Z-1)).reverse).toList=(o3.push (b[Z-1]'U)).toList++(b.toList.reverse.drop (b.size-(Z-1))).take (Z-1-t'):=by rw[RA b (Bz U) ht'];simp
                show Dw _ _ _ (o3.push (b[Z-1]'U)++(b.extract t' (Z-1)).reverse).toList _ _;rw[e,show b.size-t'=b.size-(Z-1)+(Z-1-t')from(ABs ((eU (Ag ht' (Bz U))).mpr (Bz U))).mp (ABx ht')];refine j4.xy pb' λx X y hy=>?_;rw[RA b (Bz U) ht',AD7]at X;simp only[iQ,WH]at X;obtain⟨m,hm,hm2,rfl⟩:=Q4 X;obtain⟨m',hm',z,rfl⟩:=Kb t2 hy;exact HU (la (by omega) ((WT z1).mpr z:m'<=i3-1)) (R _ hm2 (by simp) (LI hm))
              have pre:(Z-1-t'>0/\t'=1)\/(Z-1-t'>0/\t'=0)\/2<=t':=by(clear j5 R V bg' bl' L j4 d T t2 F U f5 f4 f2 f1 b1 a1;lia)
              rcases pre with⟨zk',z4⟩|⟨zk',z4⟩|z4;. refine C2 zk' (C2 (by simpa using z4) ?_);exact BV ⟨S3,.inl ⟨_,rfl,l t2 (Ag ht' (Bz U)) j5 z4⟩⟩
              . refine C2 zk' (DC (by simp;simp_all) (C2 (by simpa using z4) ?_));exact BV ⟨S3,.inl ⟨_,rfl,n t2 (by(clear zk' R V bg' bl' L z3 j4 d T t2 z1 f5 f4 f3 f2 f1 b1 a1;simp_all)) j5 (.inr z4)⟩⟩
              have t4:t'<=b.size:=Ag ht' (Bz U);have f6':i3+t'+1<=Y+W:=by(clear t4 j5 R V bg' bl' L j4 d t2 F U f5 f4 f2 f1 b1 a1;lia)
              by_cases zk':Z-1-t'>0
              . refine C2 zk' (DC (by simp;exact NG z4) (DC (by simp;exact Ne.intro (λu1=>ABp _ (Ag z4 (Bq u1)))) ?_));generalize Z-1-t'=c';generalize o3.push (b[Z-1]'U)++(b.extract t' (Z-1)).reverse=o5 at j5⊢;clear bl' bg' ht' R zk';generalize t'=k5 at j5 V z4 t4 f6'⊢;exact L c' k5 o5 j5 V z4 t4 f6'
              . refine DC zk' ?_;have zk0:t'=Z-1:=by(clear f6' t4 j5 R V bg' bl' L j4 d T t2 F U f5 f4 f2 f1 b1 a1;grind)
                have eo:o3.push (b[Z-1]'U)++(b.extract t' (Z-1)).reverse=o3.push (b[Z-1]'U):=by rw[zk0];simp;(clear zk' f6' t4 z4 R V bg' bl' ht' L z3 j4 d T t2 z1 f5 f4 f3 f2 f1 b1 a1;exact LJ _ _)
                rw[eo,zk0]at j5;rw[zk0]at V z4 t4 f6';generalize Z-1-t'=c';exact L c' _ _ j5 V z4 t4 f6'
            case v3=>
              intro c' k5 o5 j5 V z4 t4 f6';refine BL (FP (by omega:i3-1<a.size) ?_);have j6:=oneA z1 t2 (Bz z4) t4 j5 (V _ (Ta (Bz z4) (ND.mpr t4)) ((ABl (GQ z4)).mp (Ai _)));by_cases z5:i3-1=0;. refine C2 (by simpa using z5) ?_;exact BV ⟨S3,.inl ⟨_,rfl,n (Bz d) t4 j6 (.inl z5)⟩⟩
              refine DC (by simpa using z5) ?_;split;.exact BV ⟨S3,.inr ⟨_,_,_,_,_,_,rfl,j6,KQ.mpr z5,Bz d,z4,t4,by(clear j6 t4 z4 V j4 d T t2 F U f5 f4 f3 f2 f1 b1 a1;lia)⟩⟩
              .exact BV ⟨S3,_,_,_,_,_,_,rfl,j6,KQ.mpr z5,Bz d,z4,t4,by(clear j6 t4 z4 V j4 d T t2 F U f5 f4 f3 f2 f1 b1 a1;lia)⟩
theorem iB(p:Nat):∀(M:List BG)(n:Nat)(xs:Array BG),p+n+M.length<=xs.size->((M.zipIdx n).foldl (λa x=>a.setIfInBounds (p+x.2) x.1) xs).toList=xs.toList.take (p+n)++M++xs.toList.drop (p+n+M.length)|[],n,xs,h=>by simp|m::r,n,xs,h=>by rw[List.zipIdx_cons,dW,iB p r _ _ (by simp;exact AHh (Nat.succ_add _ _) h)];simp only[ADV];rw[List.drop_set_of_lt (by omega),show p+(n+1)=p+n+1 by rfl,DH,List.take_set_of_le (Ai _)];grind
theorem iE{O:Wb}{kf:AK->O.α}{xs:Array BG}{lo hi:Nat}(h:hi<=xs.size)(u:DN kf xs lo hi):(xs.extract lo hi).toList.Pairwise (Bg kf):=by
 rw[Ig];intro i j U V D;have e:∀k(W:k<(xs.extract lo hi).toList.length),(xs.extract lo hi).toList[k]=xs[lo+k]'(by grind):=(by simp);rw[e i _,e j V];have J:j<hi-lo:=by grind
 have:=u _ _ (by simp) (Ey (Bz D) _) (LI J);rw[DX _,DX _]at this;exact this
theorem iD{xs:Array BG}{lo:Nat}(h:hi<=xs.size)(D:p∈(xs.extract lo hi).toList):∃m,lo<=m/\m<hi/\∃(J:m<xs.size),p=xs[m]:=by simp at D;lk;obtain⟨m,J,U,rfl⟩:=Q4 D;k_in;grind
theorem ADC(xs:Array BG)(D:i<=j)(J:j<=k)(W:k<=xs.size):xs.toList=xs.toList.take i++((xs.extract i j).toList++(xs.extract j k).toList)++xs.toList.drop k:=by
 simp only[iQ,WH];have U:WO (k-i) (xs.toList.drop i)=WO (j-i) (xs.toList.drop i)++WO (k-j) (xs.toList.drop j):=by rw[show k-i=(j-i)+(k-j)by exact(Nat.sub_eq_iff_eq_add' ((eU (Ag D J)).mpr J)).mp (ABx D),AEA,ABV,show i+(j-i)=j by exact Ih D]
 have V:xs.toList.drop i=WO (k-i) (xs.toList.drop i)++xs.toList.drop k:=by conv=>lhs;rw[<-QZ _ (xs.toList.drop i),ABV,show i+(k-i)=k by exact Ih (Ag D J)]
 rw[<-U,Dh,<-V,QZ]
theorem ADN{A:DB}{E:AK->AX->Prop}{s:AX}{M:Of}{D:Type}{t u:D}{Q:PUnit->D->Prop}(h:Q ⟨⟩ t):Ec M A E s (set t:StateT D DW PUnit) Q u:=by exact CN ⟨rfl,h⟩
theorem ADK{d:Array BG}{st:Ce}(C:F5 prog w A s κ O kf d)(B:Ck κ d st)(p1:(B9 st)[i]?=AA (D,Z,pw))(p2:(B9 st)[i+1]?=AA (D+Z,nb,pw'))(u:1<=Z)(P:1<=nb)(g:D+Z+nb<=d.size)(ua:DN kf (Am st) D (D+Z))(ub:DN kf (Am st) (D+Z) (D+Z+nb))(h:∀st',Ck κ d st'->B9 st'=((B9 st).setIfInBounds i (D,Z+nb,pw)).eraseIdxIfInBounds (i+1)->DN kf (Am st') D (D+(Z+nb))->(∀k,k<D\/D+Z+nb<=k->BQ kf (Am st') k=BQ kf (Am st) k)->Q AJ st'):Ec (Av prog w) A E s (mergeAt' i) Q st:=by
  have l:=B.we;refine BL (MF ?_);rw[show(sortPriv%PySem.Builtin.SortState.pending) st=B9 st from rfl,p1,p2];dsimp only;refine BL (ADN (t:=eY (fJ st) (Am st) (((B9 st).setIfInBounds i (D,Z+nb,pw)).eraseIdxIfInBounds (i+1)) (gallopOf st) (NK st)) ?_);have memA:∀p∈(Am st).toList,p∈d.toList:=λp hp=>(T4.mp B.jo).mem_iff.mp hp;have K:D+Z<(Am st).size:=by lia
  refine BL (FP K ?_);generalize hst1:eY (fJ st) (Am st) (((B9 st).setIfInBounds i (D,Z+nb,pw)).eraseIdxIfInBounds (i+1)) (gallopOf st) (NK st)=st1;have B1:Ck κ d st1:=by rw[<-hst1];exact⟨B.jo,B.gq,B.jg⟩
  have ar1:Am st1=Am st:=by rw[<-hst1]
  have pe1:B9 st1=((B9 st).setIfInBounds i (D,Z+nb,pw)).eraseIdxIfInBounds (i+1):=by rw[<-hst1]
  have V:BQ kf (Am st) (D+Z)=kf ((Am st)[D+Z]'K).1:=DX K;refine BL (Oy (left:=AQ) (key:=(Am st)[D+Z]'K) (base:=D) (n:=Z) (hint:=0) C B1 (memA _ (by simp)) memA (Bz K) (by assumption) ua λk hk r o=>?_);have lowA:∀j,D<=j->j<D+k->O.kle (BQ kf (Am st) j) (BQ kf (Am st) (D+Z)):=λj j1 j2=>by have:=r (j-D) ((TY j1).mpr j2);unfold Cu at this;rw[AHS Dk,<-V,show D+(j-D)=j by exact Ih j1]at this;show O.blt _ _=AQ;simpa using this
  have highA:∀j,D+k<=j->j<D+Z->O.kle (BQ kf (Am st) (D+Z)) (BQ kf (Am st) j):=λj j1 j2=>by have:=o (j-D) ((L9 (D6 j1)).mpr j1) ((TY (D6 j1)).mpr j2);unfold Cu at this;rw[AHS Dk,<-V,show D+(j-D)=j by exact Ih (D6 j1)]at this;exact KR (by show O.blt _ _=AJ;simpa using this)
  dsimp only;by_cases R:Z-k=0
  . refine C2 (by simpa using R) ?_;refine BV (h st1 B1 pe1 ?_ λz _=>by rw[ar1]);rw[ar1];intro x y h1 h2 h3;by_cases hx:x<D+Z
    . by_cases hy:y<D+Z;.exact ua x y h1 h2 hy
      .exact HU (lowA x h1 (by lia)) (ub _ y (Ai _) (by simp_all) (by lia))
    .exact ub x y (by simp_all) h2 (by lia)
  refine DC (by simpa using R) ?_;have L:D+k+(Z-k)-1<(Am st).size:=by(clear R l g P u;omega)
  refine BL (FP L ?_);have U:BQ kf (Am st) (D+Z-1)=kf ((Am st)[D+k+(Z-k)-1]'L).1:=by rw[<-DX (kf:=kf) L];congr 1;lia
  refine BL (Oy (left:=AJ) (key:=(Am st)[D+k+(Z-k)-1]'L) (base:=D+Z) (n:=nb) (hint:=nb-1) C B1 (memA _ (by simp)) memA (by simp_all) (eV P (by decide)) ub λk' H G F=>?_);have lowB:∀j,D+Z<=j->j<D+Z+k'->O.kle (BQ kf (Am st) j) (BQ kf (Am st) (D+Z-1)):=λj j1 j2=>by have:=G (j-(D+Z)) ((TY j1).mpr j2);unfold Cu at this;rw[AHT rfl,<-U,show D+Z+(j-(D+Z))=j from Ih j1]at this;exact KR this
  have highB:∀j,D+Z+k'<=j->j<D+Z+nb->O.kle (BQ kf (Am st) (D+Z-1)) (BQ kf (Am st) j):=λj j1 j2=>by have:=F (j-(D+Z)) ((L9 (D6 j1)).mpr j1) ((TY (D6 j1)).mpr j2);unfold Cu at this;rw[AHT rfl,<-U,show D+Z+(j-(D+Z))=j by exact Ih (D6 j1)]at this;exact this
  dsimp only;by_cases T:k'=0
  . refine C2 (by simpa using T) ?_;refine BV (h st1 B1 pe1 ?_ λz _=>by rw[ar1]);rw[ar1];intro x y h1 h2 h3;by_cases hx:x<D+Z
    . by_cases hy:y<D+Z;.exact ua x y h1 h2 hy
      .exact HU (ua x (D+Z-1) h1 (eM hx) (ABv hx)) (highB y (by simp_all) (by lia))
    .exact ub x y (by simp_all) h2 (by lia)
  refine DC (by simpa using T) ?_;generalize hX:(Am st).extract (D+k) (D+Z)=X;generalize hY:(Am st).extract (D+Z) (D+Z+k')=Y;have pX:X.toList.Pairwise (Bg kf):=by rw[<-hX];exact iE (Bz K) λa b v q2 q3=>ua a b (D6 v) q2 q3
  have pY:Y.toList.Pairwise (Bg kf):=by rw[<-hY];exact iE (by lia) λa b v q2 q3=>ub a b (by omega) q2 (Bl q3 (Ey H _))
  have c:X.size=Z-k:=by rw[<-hX];simp;(clear T F G H U L R l g P u;lia)
  have zY:Y.size=k':=by rw[<-hY];simp;(clear c T F G U L R hk P u;lia)
  have mX:∀p∈X.toList,∃m,D+k<=m/\m<D+Z/\∃(hm:m<(Am st).size),p=(Am st)[m]:=λp hp=>iD (Bz K) (by rw[hX];exact hp);have mY:∀p∈Y.toList,∃m,D+Z<=m/\m<D+Z+k'/\∃(hm:m<(Am st).size),p=(Am st)[m]:=λp hp=>iD (by lia) (by rw[hY];exact hp);have y0:Y[0]'(by(clear c F G H U L R o r V K l g P u;exact AHd (ABu.mp T) zY.symm))=(Am st)[D+Z]'K:=by subst hY;simp
  have xl:X[X.size-1]'(by(clear y0 F G H U L o r V K l g P;lia))=(Am st)[D+Z-1]'(TZ K):=by subst hX;rw[Array.getElem_extract];congr 1;rw[c];(clear c y0 F G H U L o r V K l g P;lia)
  have J:∀p∈X.toList,Bg kf (Y[0]'(by(clear xl y0 c F G H U L R o r V K l g P u;exact AHd (ABu.mp T) zY.symm))) p:=λp hp=>by obtain⟨m,v,q2,hm,rfl⟩:=mX p hp;rw[y0];have:=highA m v q2;rw[V,DX hm]at this;exact this
  have W:∀p∈Y.toList,Bg kf p (X[X.size-1]'(by(clear xl y0 F G H U L o r V K l g P;lia))):=λp hp=>by obtain⟨m,v,q2,hm,rfl⟩:=mY p hp;rw[xl];have:=lowB m v q2;rw[DX hm,DX (TZ K:D+Z-1<(Am st).size)]at this;exact this
  have inX:∀p∈X.toList,p∈d.toList:=λp hp=>by obtain⟨m,v,q2,hm,rfl⟩:=mX p hp;exact memA _ (by simp)
  have inY:∀p∈Y.toList,p∈d.toList:=λp hp=>by obtain⟨m,v,q2,hm,rfl⟩:=mY p hp;exact memA _ (by simp)
  have fin:∀(M:Array BG)(I:Ce),IG κ d st1 I->F6 (Bg kf) X.toList Y.toList M.toList->Q AJ (Qg I (M.toList.zipIdx.foldl (λa x=>a.setIfInBounds (D+k+x.2) x.1) (Am I))):=λM I S f=>by
    have lM:M.toList.length=(Z-k)+k':=by rw[f.1.length_eq,Ba];simp[c,zY]
    have ar2:Am I=Am st:=S.adp.trans ar1;have el:=iB (D+k) M.toList 0 (Am st) (by grind);rw[WS,lM,show D+k+(Z-k+k')=D+Z+k' by(clear W J xl y0 c T F G H U L R o r V K l g P u;lia)]at el;generalize hN:M.toList.zipIdx.foldl (λa x=>a.setIfInBounds (D+k+x.2) x.1) (Am I)=N;have eN:N.toList=(Am st).toList.take (D+k)++M.toList++(Am st).toList.drop (D+Z+k'):=by rw[<-hN,ar2];exact el
    have perm:N.Perm (Am I):=by
      rw[ar2,T4,eN];have sp:=ADC (Am st) (i:=D+k) (j:=D+Z) (k:=D+Z+k') (by simp_all) (by simp) (by lia);rw[hX,hY]at sp;conv=>rhs;rw[sp]
      exact ADs _ (ABU _ f.1)
    have lt:((Am st).toList.take (D+k)).length=D+k:=by simp;(clear lM W J xl y0 zY c T F G H U L R l g P u;lia)
    have nOut:∀z,z<D+k\/D+Z+k'<=z->N[z]?=(Am st)[z]?:=λz hz'=>by
      rw[<-Oz,<-Oz,eN];rcases hz' with q|q;.rw[Dh,Jt (Bl q (Bq lt.symm)),dX q]
      . rw[L5 (by rw[Ba];(clear W J xl y0 c T F G H U L R o r V K l g P u;lia)),Ba,lt,lM,List.getElem?_drop];congr 1;(clear W J xl y0 c T F G H U L R o r V K l g P u;grind)
    have nIn:∀z,D+k<=z->z<D+Z+k'->N[z]?=M[z-(D+k)]?:=λz v q2=>by rw[<-Oz,<-Oz,eN,Dh,L5 (Ag (Bq lt) v),lt,Jt (by(clear W J xl y0 c T F G H U L R o r V K l g P u;grind))]
    have upM:DN kf M 0 M.size:=LO f.2 (Ai _);have sM:M.size=(Z-k)+k':=by rw[<-lM];simp
    have inM:∀z,D+k<=z->z<D+Z+k'->∃m,D+k<=m/\m<D+Z+k'/\BQ kf N z=BQ kf (Am st) m:=λz v q2=>by
      have hz2:z-(D+k)<M.size:=by(clear W J xl y0 c T F G H U L R o r V K l g P u;grind)
      have hm:M[z-(D+k)]∈X.toList++Y.toList:=f.1.mem_iff.mp (by simp);rw[Gm (nIn z v q2),DX hz2];rcases C1.mp hm with q|q;. obtain⟨m,v,q2,hm,e⟩:=mX _ q;exact⟨m,v,Nat.lt_add_right _ q2,by rw[e,DX hm]⟩
      . obtain⟨m,v,q2,hm,e⟩:=mY _ q;exact⟨m,Ag (Ey hk _) v,q2,by rw[e,DX hm]⟩
    refine h _ (S.sb.ja perm) (S.wt.trans pe1) ?_ λz hz'=>Gm (nOut z (by(clear sM lM W J xl y0 c T F G U L R o r hk V K l g P u;lia)));show DN kf N D (D+(Z+nb));intro x y h1 h2 h3;by_cases x1:x<D+k
    . rw[Gm (nOut x (.inl x1))];have all:∀m,D+k<=m->m<D+Z+nb->O.kle (BQ kf (Am st) x) (BQ kf (Am st) m):=λm v q2=>by
        by_cases q3:m<D+Z;.exact ua x m h1 (Ag (Bz x1) v) q3
        .exact HU (lowA x h1 x1) (ub _ m (Ai _) (by(clear q2 v x1 h3 h2 h1 sM lM W J xl y0 zY c T F G H U L R o r hk V K l g P u;simp_all)) q2)
      by_cases y1:y<D+k;. rw[Gm (nOut y (.inl y1))];exact ua x y h1 h2 (Bl y1 (Ey hk _))
      . by_cases y2:y<D+Z+k';. obtain⟨m,v,q2,e⟩:=inM y (by(clear y2 x1 h3 h2 h1 sM lM W J xl y0 zY c T F G H U L R o r hk V K l g P u;simp_all)) y2;rw[e];exact all m v (Bl q2 (Ey H _))
        . rw[Gm (nOut y (.inr (by(clear y1 x1 h3 h2 h1 sM lM W J xl y0 c T F G H U L R o r hk V K l g P u;simp_all))))];exact all y (by(clear y2 x1 h3 h2 h1 sM lM W J xl y0 zY c T F G H U L R o r hk V K l g P u;simp_all)) (by(clear y2 y1 x1 h2 h1 sM lM W J xl y0 zY c T F G H U L R o r hk V K l g P u;lia))
    . by_cases x2:x<D+Z+k'
      . by_cases y2:y<D+Z+k'
        . rw[Gm (nIn x (by(clear y2 x2 h3 h2 h1 sM lM W J xl y0 zY c T F G H U L R o r hk V K l g P u;simp_all)) x2),Gm (nIn y (Ag (F4 x1) h2) y2)];exact upM _ _ (by simp) ((eU (Ag (F4 x1) h2)).mpr h2) (by(clear x2 h3 h1 W J xl y0 c T F G H U L R o r V K l g P u;grind))
        . rw[Gm (nOut y (.inr (by(clear x2 x1 h3 h2 h1 sM lM W J xl y0 c T F G H U L R o r hk V K l g P u;simp_all))))];obtain⟨m,v,q2,e⟩:=inM x (by(clear y2 x2 h3 h2 h1 sM lM W J xl y0 zY c T F G H U L R o r hk V K l g P u;simp_all)) x2;rw[e];by_cases q3:m<D+Z;.exact HU (ua m (D+Z-1) (D6 v) (eM q3) (ABv q3)) (highB y (by(clear q3 q2 v x2 x1 h3 h2 h1 sM lM W J xl y0 c T F G H U L R o r hk V K l g P u;simp_all)) (by(clear q3 q2 v y2 x2 x1 h2 h1 sM lM W J xl y0 zY c T F G H U L R o r hk V K l g P u;lia)))
          .exact ub m y (by(clear q2 v y2 x2 x1 h3 h2 h1 sM lM W J xl y0 zY c T F G H U L R o r hk V K l g P u;simp_all)) (Ag (Bz q2) (F4 y2)) (by(clear q3 q2 v y2 x2 x1 h2 h1 sM lM W J xl y0 zY c T F G H U L R o r hk V K l g P u;lia))
      . rw[Gm (nOut x (.inr (by(clear x1 h3 h2 h1 sM lM W J xl y0 c T F G H U L R o r hk V K l g P u;simp_all)))),Gm (nOut y (.inr (Ag (F4 x2) h2)))];exact ub x y (D6 (F4 x2)) h2 (by(clear x2 x1 h2 h1 sM lM W J xl y0 zY c T F G H U L R o r hk V K l g P u;lia))
  have fin2:∀(M:Array BG)(I:Ce),IG κ d st1 I->F6 (Bg kf) X.toList Y.toList M.toList->NK (Qg I (M.toList.zipIdx.foldl (λa x=>a.setIfInBounds (D+k+x.2) x.1) (Am I)))=AG:=λM I S _=>S.sb.jg;by_cases le:Z-k<=k'
  . refine C2 le ?_;refine BL (ADM C B1 inX inY (AHl (KQ.mpr R) c.symm) (AHl (KQ.mpr T) zY.symm) pX pY J W λM I S f=>?_);refine BL (Jx (BL (MF ?_)));have:=fin M I S f;have e:=fin2 M I S f;refine BV ?_;show Q (NK (Qg I _)).isNone _;rw[e];exact this
  . refine DC le ?_;refine BL (ADL C B1 inX inY (Nat.one_le_of_lt (Bl (MA le) (Bq c.symm))) (AHl (KQ.mpr T) zY.symm) pX pY J W λM I S f=>?_);refine BL (Jx (BL (MF ?_)));have:=fin M I S f;have e:=fin2 M I S f;refine BV ?_;show Q (NK (Qg I _)).isNone _;rw[e];exact this
def Fj{O:Wb}(kf:AK->O.α)(xs:Array BG):Nat->List (Nat×Nat×Nat)->Nat->Prop|x,[],y=>x=y|x,(s,n,_)::r,y=>s=x/\1<=n/\DN kf xs s (s+n)/\Fj kf xs (x+n) r y
theorem Fj.le{O:Wb}{kf:AK->O.α}{xs:Array BG}:∀{l:List (Nat×Nat×Nat)}{x y:Nat},Fj kf xs x l y->x+l.length<=y|[],x,y,h=>by exact Bq h|(s,n,p)::r,x,y,h=>by lk;obtain⟨_,J,_,D⟩:=h;k_in;have:=Fj.le D;grind
theorem Q2{O:Wb}{kf:AK->O.α}{xs:Array BG}:∀{l m:List (Nat×Nat×Nat)}{x z:Nat},Fj kf xs x (l++m) z↔∃y,Fj kf xs x l y/\Fj kf xs y m z
 |[],m,x,z=>⟨λh=>⟨x,rfl,h⟩,λ⟨y,D,J⟩=>by have D:x=y:=D;simp_all⟩|(s,n,p)::r,m,x,z=>by
  constructor
  . intro Y;lk;obtain⟨D,J,U,Z⟩:=Y;obtain⟨y,V,W⟩:=Q2.mp Z;k_in;exact⟨y,⟨D,J,U,V⟩,W⟩
  . intro Y;lk;obtain⟨y,⟨D,J,U,V⟩,W⟩:=Y;k_in;exact⟨D,J,U,Q2.mpr ⟨y,V,W⟩⟩
theorem Fj.ab{O:Wb}{kf:AK->O.α}{xs ys:Array BG}:∀{l:List (Nat×Nat×Nat)}{x y:Nat},Fj kf xs x l y->(∀k,x<=k->k<y->BQ kf ys k=BQ kf xs k)->Fj kf ys x l y|[],x,y,h,_=>h|(s,n,p)::r,x,y,⟨W,Y,Z,V⟩,k=>by have:=Fj.le V;subst W;exact⟨rfl,Y,λi j D J U=>by rw[k i D (Bl (HS J U) (D6 this)),k j (Ag D J) (Bl U (D6 this))];exact Z i j D J U,Fj.ab V (λA u2 u3=>k _ (D6 u2) u3)⟩
theorem iH{J:Array BG}{st:Ce}(C:F5 prog w A s R O kf J)(B:Ck R J st)(c:Fj kf (Am st) 0 (B9 st).toList hi)(L:i+1<(B9 st).size)(b:hi<=J.size)(h:∀D,Ck R J D->(B9 D).size+1=(B9 st).size->Fj kf (Am D) 0 (B9 D).toList hi->(∀k,hi<=k->BQ kf (Am D) k=BQ kf (Am st) k)->Q AJ D):Ec (Av prog w) A E s (mergeAt' i) Q st:=by
  lk;obtain⟨⟨W,Y,M⟩,X⟩:∃x,(B9 st)[i]?=AA x:=⟨_,AHk _ i (by omega)⟩;obtain⟨⟨n,Z,I⟩,a⟩:∃x,(B9 st)[i+1]?=AA x:=(by simp_all);k_in;have F:(B9 st).toList=(B9 st).toList.take i++(W,Y,M)::(n,Z,I)::(B9 st).toList.drop (i+2):=by
    have G:=GQ L;have H:i+1<(B9 st).toList.length:=by assumption
    conv=>lhs;rw[<-QZ i (B9 st).toList]
    congr 1;rw[ABW G,ABW H];grind
  have V:=List.length_take_of_le (D6 (Bz L));generalize(B9 st).toList.take i=G at F V;generalize(B9 st).toList.drop (i+2)=H at F;rw[F]at c;lk;obtain⟨y,T,⟨f,g,j,⟨l,N,m,K⟩⟩⟩:=Q2.mp c;k_in;subst f l;have U:=K.le;refine ADK C B X a g N (Ag (D6 U) b) j m λD S d u k=>h D S ?_ ?_ (λP u2=>k _ (ABz _ (Ag (D6 U) u2)));.grind
  . have e:(B9 D).toList=G++(W,Y+Z,M)::H:=by rw[d];simp only[Array.toList_eraseIdxIfInBounds,ADV,F];rw[List.set_append_right _ _ (Bq V),V,Qc,List.set_cons_zero,List.eraseIdx_append_of_length_le (Ii (Bq V)),V];simp
    rw[e];refine Q2.mpr ⟨W,T.ab (λP u2 u3=>k _ (FN u3)),rfl,ABj N,u,?_⟩;rw[show W+(Y+Z)=W+Y+Z by exact Eq.comm.mp (Nat.add_assoc _ _ _)];exact K.ab (λP u2 u3=>k _ (ABz _ u2))
theorem hV{O:Wb}{kf:AK->O.α}{xs:Array BG}:∀{l m:List (Nat×Nat×Nat)}{x y:Nat},l.map (λv=>(v.1,v.2.1))=m.map (λv=>(v.1,v.2.1))->Fj kf xs x l y->Fj kf xs x m y|[],[],_,_,_,h=>h|[],_::_,_,_,e,_=>by cases e|_::_,[],_,_,e,_=>by cases e|(a,n,p)::l,(b,k,q)::m,x,y,e,⟨J,U,V,W⟩=>by have e:=EG e;have D:=e.1;cases D;exact⟨J,U,V,hV e.2 W⟩
theorem iF{C:Qd}{O:Wb}{kf:AK->O.α}{J:Array BG}{D:Ce}{lo m x:Nat}(V:Ck C J D)(Z:Fj kf (Am D) 0 (B9 D).toList lo)(u3:DN kf (Am D) lo (lo+m))(Y:1<=m)(A:lo+m<=J.size)(B:x<=lo\/J.size<=lo):Ck C J (fN D ((B9 D).push (lo,m,0)))/\∃U,((AG,lo+m):Option Unit×Nat)=(AG,U)/\(x+1<=U\/J.size<=U)/\U<=J.size/\Fj kf (Am (fN D ((B9 D).push (lo,m,0)))) 0 (B9 (fN D ((B9 D).push (lo,m,0)))).toList U:=by refine⟨⟨V.jo,V.gq,V.jg⟩,_,rfl,Or.imp (λW=>Nat.add_le_add W Y) (λW=>ABk W) B,A,?_⟩;rw[ADU];exact Q2.mpr ⟨lo,Z,rfl,Y,u3,rfl⟩
theorem iJ{K:Qd}{D:Array BG}{st:Ce}(C:F5 prog w A s K O kf D)(B:Ck K D st)(p0:B9 st=#[])(h:∀V,Ck K D V->DN kf (Am V) 0 D.size->Q () V):Ec (Av prog w) A E s sortRuns' Q st:=by
  rw[sortRuns'_eq];refine BL (MF ?_);dsimp only;simp only[B.we];generalize minRun' D.size D.size 0=o;refine BL (Ij (IC (I:=λx c V=>Ck K D V/\∃W,c=(AG,W)/\(x<=W\/D.size<=W)/\W<=D.size/\Fj kf (Am V) 0 (B9 V).toList W) (Q:=λc V=>Ck K D V/\c=(AG,D.size)/\Fj kf (Am V) 0 (B9 V).toList D.size) ?gh ?fin ?acw) ?post);case acw=>exact⟨B,0,rfl,.inl (Ai _),Bm _,by rw[p0];rfl⟩
  case fin=>
    intro c V Z;lk;obtain⟨S,W,rfl,t,R,c⟩:=Z;obtain rfl:W=D.size:=by lia
    k_in;exact⟨S,rfl,c⟩
  case post=>
    intro c V Z;lk;obtain⟨S,rfl,c⟩:=Z;k_in;dsimp only;refine BL (Ij (IC (I:=λx c J=>c=(AG,())/\Ck K D J/\Fj kf (Am J) 0 (B9 J).toList D.size/\((B9 J).size+x<=D.size\/(B9 J).size<=1)) (Q:=λc J=>c=(AG,())/\Ck K D J/\Fj kf (Am J) 0 (B9 J).toList D.size/\(B9 J).size<=1) ?t1 ?t2 ?t3) ?t4);case t3=>exact⟨rfl,S,c,.inl (by have:=c.le;simp at this;omega)⟩
    case t2=> intro Y J Z;lk;obtain⟨rfl,H,Y,q⟩:=Z;k_in;exact⟨rfl,H,Y,by lia⟩
    case t4=> intro Y J Z;lk;obtain⟨rfl,H,Y,q⟩:=Z;k_in;refine BV (h J H ?_);generalize(B9 J)=P at Y q;obtain⟨l⟩:=P;match l,q,Y with
      |[],_,Y=> have Y:0=D.size:=Y;intro i j _ _ q3;exact AGQ.mp (λu1=>Nat.ne_zero_of_lt q3 Y.symm)|[(a,n,p)],_,Y=> lk;obtain⟨e1,_,u,e2⟩:=Y;k_in;have e2:0+n=D.size:=e2;subst e1;rw[<-e2];exact u
    case t1=>
      intro x Y J _ g Z;lk;obtain⟨rfl,H,Y,q⟩:=Z;k_in;refine BL (MF ?_);by_cases z:(B9 J).size<=1
      . refine C2 z ?_;exact BV ⟨rfl,H,Y,z⟩
      . refine DC z ?_;generalize hi:(if Option.any _ _=AJ then(B9 J).size-2-1 else(B9 J).size-2)=i;have aux:∀(c:Prop)[Decidable c](u v N:Nat),u+1<N->v+1<N->(if c then u else v)+1<N:=λc _ u v N h1 h2=>by split<;>assumption
        refine BL (iH C H Y (by rw[<-hi];exact aux _ _ _ _ (by omega) (Nat.add_lt_iff_lt_sub_right.mpr (JO _ _ (MA z)))) (Ai _) λF T z3 X _=>?_);exact BV ⟨rfl,T,X,by(constructor<;>lia)⟩
  case gh=>
    intro x c V _ g Z;lk;obtain⟨S,W,rfl,t,R,c⟩:=Z;k_in;dsimp only;by_cases z:W>=D.size
    . refine C2 z ?_;obtain rfl:W=D.size:=Eb R z;exact BV ⟨S,rfl,c⟩
    refine DC z ?_;refine BL (ADI C (Bq (Ih R)) (eO.mp (WV.mpr (MA z))) S λn J H K2 r e u2=>?_);have Y:Fj kf (Am J) 0 (B9 J).toList W:=by rw[K2.wt];exact c.ab λk _ k2=>Gm (K2.aco k k2)
    dsimp only;by_cases d:n<o;all_goals first
      | (refine C2 d ?_;refine BL (Qh (MM ⟨rfl,?_⟩));refine BL (ADH C ((L9 (Bz (MA z))).mp (LJ _ _)) (Nat.le_min_of_le_of_le e (Bz d)) H u2 λF T K3 u3=>?_);refine DC (by simp) ?_;have G:1<=DR (D.size-W) o/\W+DR (D.size-W) o<=D.size:=by lia
         have X:Fj kf (Am F) 0 (B9 F).toList W:=by rw[K3.wt];exact Y.ab λk _ k2=>Gm (K3.aco k k2)
         generalize DR (D.size-W) o=m at u3 G⊢) | (refine DC d ?_;have G:1<=n/\W+n<=D.size:=⟨r,(L9 (Bz (MA z))).mp e⟩;have T:=H;have X:=Y;have u3:=u2;generalize n=m at u3 G⊢;generalize J=F at T X u3⊢)
    all_goals refine BL (MF ?_);cases hb:(B9 F).back? with |none=>exact BL (Jx (BV (iF T X u3 G.1 G.2 (by omega))))|some b=>
        lk;obtain⟨s1,m1,pw⟩:=b;k_in;dsimp only;generalize power' D.size (2*s1+m1) (2*s1+m1+m1+m) D.size=pp;refine BL (Ij (IC (I:=λ_ c U=>c=(AG,())/\Ck K D U/\Fj kf (Am U) 0 (B9 U).toList W/\DN kf (Am U) W (W+m)) ?r1 (λ_ _ q=>q) ⟨rfl,T,X,u3⟩) ?r2);case r1=>
          intro y M U _ hy Z;lk;obtain⟨rfl,L,M,f⟩:=Z;k_in;refine BL (MF ?_);by_cases z4:(B9 U).size>1
          . have e4:=AHk (B9 U) ((B9 U).size-2) (by(clear hy G d e r z R t g;omega));simp only[AHT z4,e4];split;.exact BV ⟨rfl,L,M,f⟩
            . refine BL (iH C L M (by(clear hy G d e r z R t g;lia)) R λst5 B5 z5 c5 k5=>?_);exact BV ⟨rfl,B5,c5,λi j w1 w2 w3=>by rw[k5 i w1,k5 j (by(clear w3 z5 hy G d e r z R t g;lia))];exact f i j w1 w2 w3⟩
          . simp only[AHS z4];exact BV ⟨rfl,L,M,f⟩
        case r2=> intro M U Z;lk;obtain⟨rfl,L,M,f⟩:=Z;k_in;dsimp only;refine BL (Jx (BL (Jx (BV ?_))));have B5:Ck K D (fN U ((B9 U).modify ((B9 U).size-1) λx=>(x.1,x.2.1,pp))):=⟨L.jo,L.gq,L.jg⟩;refine iF B5 ?_ f G.1 G.2 (by omega);refine hV (l:=(B9 U).toList) ?_ M;rw[Array.toList_modify];refine dR λk=>?_;rw[Bo,Bo,List.getElem?_modify];cases(B9 U).toList[k]? with |none=>rfl|some v=>
            show AA _=AA _;by_cases w:(B9 U).size-1=k;.simp[w]
            .simp[w]
noncomputable def Co:AL->AL->Bool|.inl a,.inl b=>Ab (a<b)|.inl _,.inr _=>AJ|.inr _,.inl _=>AQ|.inr x,.inr y=>Ab (x.cps.toList<y.cps.toList)
theorem QB:∀a,Co a a=AQ|.inl a=>AHW (jD _)|.inr x=>AHW (List.lt_irrefl _)
theorem aH:∀{a b c},Co a b=AJ->Co b c=AJ->Co a c=AJ|.inl a,.inl b,.inl c,D,J=>AHV (jE (AHX D) (AHX J))|.inl _,.inl _,.inr _,_,_=>rfl|.inl _,.inr _,.inr _,_,_=>rfl|.inr x,.inr y,.inr z,D,J=>AHV (List.lt_trans (AHX D) (AHX J))
theorem Vm:∀{a b},Co a b=AQ->Co b a=AQ->a=b|.inl a,.inl b,D,J=>by have D:=AHc D;have J:=AHc J;grind|.inr x,.inr y,D,J=>by have D:=AHc D;have J:=AHc J;rw[V4 (List.le_antisymm (by assumption) (List.not_lt.mp D))]
noncomputable def BK:List AL->List AL->Bool|[],[]=>AQ|[],_::_=>AJ|_::_,[]=>AQ|a::x,b::y=>if a=b then BK x y else Co a b
theorem Lp:∀x,BK x x=AQ|[]=>rfl|a::x=>by rw[BK,AHT rfl];exact Lp x
theorem QE:∀{x y z},BK x y=AJ->BK y z=AJ->BK x z=AJ
  |[],[],_,h,_=>by cases h|[],_::_,[],_,h=>by cases h|[],_::_,_::_,_,_=>rfl|_::_,[],_,h,_=>by cases h|_::_,_::_,[],_,h=>by cases h|a::x,b::y,c::z,D,J=>by
    unfold BK at D J⊢;by_cases W:a=b
    . subst W;rw[AHT rfl]at D;by_cases U:a=c;. subst U;rw[AHT rfl]at J⊢;exact QE D J
      simp_all
    . rw[AHS W]at D;by_cases U:b=c;.simp_all
      . rw[AHS U]at J;have V:=aH D J;have:a≠c:=λe=>by rw[e,QB]at V;cases V
        exact O1 (AHS this) V
theorem Se:∀{x y},BK x y=AQ->BK y x=AQ->x=y
 |[],[],_,_=>rfl|[],_::_,h,_=>by cases h|_::_,[],_,h=>by cases h|a::x,b::y,D,J=>by
  unfold BK at D J;by_cases e:a=b
  . subst e;rw[AHT rfl]at D J;rw[Se D J]
  . rw[AHS e]at D;rw[AHS (Gk e)]at J;exact absurd (Vm D J) e
@[reducible]noncomputable def HP:Wb where
 α:=List AL
 blt:=BK
 irrefl:=Lp
 trans _ _ _:=QE
 negTrans a b c h:=by cases e:BK a b with |true=>exact .inl rfl|false=>cases D:BK b a with |true=>exact .inr (QE D h)|false=>rw[<-Se e D];exact .inr h
 total _ _:=Se
noncomputable def BO:AK->AL|.int i _=>.inl i|.str x _=>.inr x|_=>.inl 0
noncomputable def Hy(h:BW):AK->List AL
 |.int i _=>[.inl i]|.str x _=>[.inr x]|.ref a=>match h.get? a with
  |AA o=>match o.data with |.seq D _=>D.toList.map BO|_=>[]
  |AG=>[]
 |_=>[]
theorem ADJ{s:AX}{O:Wb}{vs:List AK}(Y:s.heap.get? a=AA (CZ "list" vs.toArray n))(N:vs.length<=As)(kf:AK->O.α)(Z:∀h',(∀b o,b≠a->s.heap.get? b=AA o->h'.get? b=AA o)->2<=vs.length->∃W,(∀(Q:Qd->AX->Prop)(E:AK->AX->Prop),Q W {s with heap:=h'}->Aw (Av prog w) A (fH vs.toArray) Q E {s with heap:=h'})/\F5 prog w A {s with heap:=h'} W O kf (Jw vs))(h:∀out:Array BG,out.Perm (Jw vs)->DN kf out 0 (Jw vs).size->P (.done (.ret .none)) {s with heap:=ACA s.heap a vs (out.map (·.2))}):Aw (Av prog w) A (Builtin.«list.sort» ⟨[.ref a],[]⟩) P E s:=by
  rw[list_sort_plain];have X:a<s.heap.objs.size:=Cb Y;refine Ay (AB7 Y rfl (Ay (Qf Y rfl ?_)));lk;obtain⟨F,V⟩:∃F,(s.heap.update a (ES λ_=>#[])).get? a=AA (CZ "list" #[] F):=⟨_,We Y (λ_=>#[])⟩;k_in;refine Ay (Wg V rfl (Ay (AGH (Ay (hU (Qz ?_))))));generalize H:((s.heap.update a (ES λ_=>#[])).push (CZ "tuple" vs.toArray 0)).push (CZ "list" #[] 0)=G;have S:∀b o,b≠a->s.heap.get? b=AA o->G.get? b=AA o:=λb o L q=>by rw[<-H];exact Ca _ (Ca _ ((ACP _ _ _ _ L).trans q))
  have J:G.get? a=AA (CZ "list" #[] F):=by rw[<-H];exact Ca _ (Ca _ V)
  have fin:=λout I K=>by have:=h out I K;unfold ACA at this;rw[H]at this;exact this
  dsimp only;by_cases D:vs.toArray.size<2
  . rw[AHT D,AHT D];refine Ay (CN ?_);rw[AGO];refine Ay (CN ?_);dsimp only;refine Ay (Wg J rfl (Ay (Qf J rfl ?_ (hsz2:=by grind))));simp only[AHj,LP,AHa];refine CN (fin (vs.toArray.zip vs.toArray) (Wx _) λi j _ c T=>?_);rw[pairsOf_size]at T;have M:vs.toArray.size=vs.length:=by simp
    obtain rfl:i=j:=by lia
    exact NJ _
  . rw[AHS D,AHS D];lk;obtain⟨W,R,C⟩:=Z G S (by simpa using D);k_in;refine Ay (R _ _ ?_);refine Ay (IF (iJ C (st:=eY W (Jw vs) #[] 7 AG) (Q:=λ_ U=>Ck W (Jw vs) U/\DN kf (Am U) 0 (Jw vs).size) ⟨Wx _,rfl,rfl⟩ rfl λU B u=>⟨B,u⟩) ?_ λ_ _ e=>e);rintro⟨⟨⟩,U⟩d⟨rfl,B,u⟩;dsimp only;refine Ay (Wg J rfl (Ay (Qf J rfl ?_ (hsz2:=by refine Ag (Bq ((iO ..).trans (B.jo.size_eq.trans (pairsOf_size _)))) ?_;exact Ii N))));rw[B.jg];simp only[AHj,LP,AHa];exact CN (fin _ B.jo u)
noncomputable def CC:AL->Bool|.inl _=>AJ|.inr _=>AQ
def Dt:AK->Prop|.int _ _=>True|.str _ _=>True|_=>False
theorem aR(c:Bool)(D:Dt x)(J:Dt y)(U:CC (BO x)=CC (BO y))(h:Q (Co (BO x) (BO y)) s):Aw (Av prog w) A (oneLt' c x y) Q E s:=by
 cases x<;>first|exact D.elim|skip
 all_goals(cases y<;>first|exact J.elim|exact HX (by assumption)|exact HX (by assumption)|skip)
 .cases c with |true=>exact oneLt_int h|false=>exact ACe _ _ (AB8 h)
 .cases c with|true=>exact oneLt_str h|false=>exact ACe _ _ (AEh h)
section
variable{prog:CS}{w:B0}{A:DB}{E:AK->AX->Prop}{s:AX}{Q:Bool->AX->Prop}
set_option tactic.hygienic true in theorem Vf{x y:AK}(D:Dt x)(J:Dt y)(hs:CC (BO x)=CC (BO y))(h:Q (Ab (BO x=BO y)) s):Aw (Av prog w) A (eqBool x y) Q E s:=by
  cases x<;>first|exact D.elim|skip
  all_goals(cases y<;>first|exact J.elim|exact HX (by assumption)|exact HX _|skip)
  . rename_i a t c u;refine AG6 a c t u _ w A E s Q ?_;have e:(a==c)=Ab (BO (.int a t)=BO (.int c u)):=by show(a==c)=Ab ((Cd a)=Cd c);grind
    simp_all
  . rename_i a t c u;refine AEb a c t u _ w A E s Q ?_;have e:(a==c)=Ab (BO (.str a t)=BO (.str c u)):=by show(a==c)=Ab ((Br a)=Br c);grind
    simp_all
end
theorem aM:∀(xs ys:List AK)(i:Nat),(∀v∈xs,Dt v)->(∀v∈ys,Dt v)->xs.map (λv=>CC (BO v))=ys.map (λv=>CC (BO v))->Q (BK (xs.map BO) (ys.map BO)) s->gF prog w A b AQ Q (xs.zip ys) i s
 |[],[],_,_,_,_,h=>AFk h|[],_::_,_,_,_,e,_=>by cases e|_::_,[],_,_,_,e,_=>by cases e|x::xs,y::ys,i,V,W,e,h=>by
  obtain⟨D,Y⟩:=EG e;have J:=V x Ci;have U:=W y Ci;have h:Q (if BO x=BO y then BK _ _ else Co _ _) s:=h;refine gL (Vf J U D (ACc (λq=>?_) λq=>?_));. rw[AHT (by(simpa using q))]at h;exact ACf (aM xs ys _ (λZ u2=>V _ (G0 u2)) (λZ u2=>W _ (G0 u2)) Y h)
  . rw[AHS (AHc q)]at h;exact ACd (aR _ J U D h)
def Hv(h:BW)(u:AK)(ks:List AL):Prop:=∃a o D m,u=.ref a/\h.get? a=AA o/\o.cls=.type "tuple"/\o.data=.seq D m/\D.toList.map BO=ks/\∀v∈D.toList,Dt v
theorem Hv.kf(t:Hv h u ks):Hy h u=ks:=by lk;obtain⟨a,o,D,m,rfl,e,_,d,k,_⟩:=t;k_in;simp only[Hy,e,d];exact k
inductive KC(h:BW):List AK->List (List AL)->Prop|cI{vs kss}:vs.length=kss.length->(∀(i:Nat)u ks,vs[i]?=AA u->kss[i]?=AA ks->∃n t,u=.int n t/\ks=[.inl n])->KC h vs kss|cS{vs kss}:vs.length=kss.length->(∀(i:Nat)u ks,vs[i]?=AA u->kss[i]?=AA ks->∃n t,u=.str n t/\ks=[.inr n])->KC h vs kss|cT{vs kss}(sh:List Bool):vs.length=kss.length->sh≠[]->(∀(i:Nat)u ks,vs[i]?=AA u->kss[i]?=AA ks->Hv h u ks/\ks.map CC=sh)->KC h vs kss
theorem KC.bh(x:KC h vs kss):vs.length=kss.length:=by cases x<;>assumption
theorem KC.kf(x:KC h vs kss):∀(i:Nat)u ks,vs[i]?=AA u->kss[i]?=AA ks->Hy h u=ks:=by intro i u ks D J;cases x with|cI _ f=>obtain⟨n,t,rfl,rfl⟩:=f i u ks D J;rfl|cS _ f=>obtain⟨n,t,rfl,rfl⟩:=f i u ks D J;rfl|cT _ _ _ f=>exact(f i u ks D J).1.kf
theorem Lq{l:List J}{m:List U}(V:l.length=m.length)(h:x∈l):∃(i:Nat)(y:U),l[i]?=AA x/\m[i]?=AA y:=by lk;obtain⟨i,D,e⟩:=Gz.mp h;k_in;exact⟨i,m[i]'(Bl D (Bq V)),(List.getElem_eq_iff D).mp e,(by simp)⟩
theorem KC.abj(x:KC h vs kss)(O:2<=vs.length)(kp:∀a o D m,.ref a∈vs->h.get? a=AA o->o.cls=.type "tuple"->o.data=.seq D m->s.heap.get? a=AA o):∃κ,(∀(Q:Qd->AX->Prop)(E:AK->AX->Prop),Q κ s->Aw (Av prog w) A (fH vs.toArray) Q E s)/\F5 prog w A s κ HP (Hy h) (Jw vs):=by
  have L:∀p∈(Jw vs).toList,p.1∈vs:=λp B=>by rw[Wf]at B;exact(AB9 B).2
  cases x with |cI Y f=>
    refine⟨oneType',λQ E q=>AFi (T:=.type "int") O (λv C=>?_) (by decide) (by decide) q,⟨λp B q M Q E k=>?_⟩⟩
    . lk;obtain⟨i,U,V,W⟩:=Lq Y C;obtain⟨n,t,rfl,_⟩:=f i _ _ V W;k_in;exact .now
    . lk;obtain⟨i,U,V,W⟩:=Lq Y (L p B);obtain⟨j,ls,P,R⟩:=Lq Y (L q M);obtain⟨n,t,G,_⟩:=f i _ _ V W;obtain⟨m,t',u2,_⟩:=f j _ _ P R;k_in;rw[G,u2]at k⊢;rw[AEg];refine oneLt_int ?_;have e:Ab (n<m)=BK [.inl n] [.inl m]:=by show _=if(Cd n:AL)=Cd m then AQ else Ab (n<m);(split<;>simp_all)
      rw[e];exact k|cS Y f=>
    refine⟨oneType',λQ E q=>AFi (T:=.type "str") O (λv C=>?_) (by decide) (by decide) q,⟨λp B q M Q E k=>?_⟩⟩
    . lk;obtain⟨i,U,V,W⟩:=Lq Y C;obtain⟨n,t,rfl,_⟩:=f i _ _ V W;k_in;exact .now
    . lk;obtain⟨i,U,V,W⟩:=Lq Y (L p B);obtain⟨j,ls,P,R⟩:=Lq Y (L q M);obtain⟨n,t,G,_⟩:=f i _ _ V W;obtain⟨m,t',u2,_⟩:=f j _ _ P R;k_in;rw[G,u2]at k⊢;rw[AEg];refine oneLt_str ?_;have e:Ab (n.cps.toList<m.cps.toList)=BK [.inr n] [.inr m]:=by show _=if(Br n:AL)=Br m then AQ else Ab (n.cps.toList<m.cps.toList);(split<;>simp_all)
      rw[e];exact k|cT g Y hn f=>
    have F:∀u∈vs,∃U,Hv s.heap u U/\Hy h u=U/\U.map CC=g:=λu N=>by obtain⟨i,U,V,W⟩:=Lq Y N;obtain⟨t,z⟩:=f i u U V W;refine⟨U,?_,t.kf,z⟩;obtain⟨a,o,D,m,rfl,e,c,d,r⟩:=t;exact⟨a,o,D,m,rfl,(kp _ _ _ _ N e c d),c,d,r⟩
    refine⟨tuples' AJ,λQ E q=>?_,⟨λp B q M Q E k=>?_⟩⟩;.
      have b:∀(l:List AK),(∀u∈l,u∈vs)->∃H,AFb s.heap l H/\H.length=l.length/\∀v∈H,Dt v/\CC (BO v)=g.headD AJ:=λl=>by induction l with |nil=>exactλ_=>⟨[],trivial,rfl,(λG u2=>absurd u2 F3)⟩|cons u l ih=>intro N;obtain⟨H,I,K,X⟩:=ih (λG u2=>N _ (G0 u2));obtain⟨U,⟨a,o,D,m,rfl,e,c,d,r,Z⟩,_,z⟩:=F u (N _ Ci);obtain⟨l0⟩:=D;match l0,r,Z with |[],r,_=>simp_all|f0::l1,r,Z=> refine⟨f0::H,AFc e c d rfl I,AEC.mpr K,λv C=>?_⟩;grind
      lk;obtain⟨H,I,K,X⟩:=b vs λ_ h=>h;k_in;cases hh:g.headD AJ with
      |true=> refine gM (T:=.type "int") I (AHd (GQ O) K.symm) (λv C=>?_) (by decide) q;obtain⟨Z,z⟩:=X v C;rw[hh]at z;cases v<;>first|exact Z.elim|exact HX (show AJ=AQ from z)|exact HX (by assumption)|exact .now
      |false=> refine gM (T:=.type "str") I (AHd (GQ O) K.symm) (λv C=>?_) (by decide) q;obtain⟨Z,z⟩:=X v C;rw[hh]at z;cases v<;>first|exact Z.elim|exact HX (by assumption)|exact HX (show AQ=AJ from z)|exact .now
    . lk;obtain⟨U,⟨a,o,D,m,G,e,c,d,r,Z⟩,I,z1⟩:=F _ (L p B);obtain⟨ls,⟨a',o',J,m',u2,e',c',d',r',S⟩,K,z2⟩:=F _ (L q M);k_in;have k:Q (BK (Hy h p.1) (Hy h q.1)) s:=k;rw[I,K,<-r,<-r']at k;rw[G,u2];have y:=by
        have h1:(D.toList.map BO).map CC=(J.toList.map BO).map CC:=by rw[r,r',z1,z2]
        rw[Cz,Cz]at h1;exact h1
      have el:D.size=J.size:=by have:=AHU LF y;simpa using this
      refine AFj e d e' d' ?_;rw[AHW (eQ.mpr (Bq el.symm))];exact aM _ _ 0 Z S y k
inductive N5(K:BB)(H:AI):List AB->List (List AL)->Prop|cI(ns:List Int):N5 K H (ns.map AB.int) (ns.map λn=>[.inl n])|cS(zs:List AF):N5 K H (zs.map AB.str) (zs.map λz=>[.inr z])|cT{xs:List AB}{kss:List (List AL)}(sh:List Bool):sh≠[]->Bf (λx ks=>(∃a,x=.ref a/\CB K H a (ks.map Az))/\ks.map CC=sh) xs kss->N5 K H xs kss
theorem QH{J:List C}(p:J.Perm bs):∀{as:List B},Bf F as bs->∃D,D.Perm as/\Bf F D J:=by induction p with
 |nil=>intro as h;cases h;exact⟨[],.nil,.nil⟩|cons x _ I=>intro as h;cases h with|cons U V=>lk;obtain⟨D,Z,A⟩:=I V;k_in;exact⟨_,Z.cons _,.cons U A⟩
 |swap x y l=>intro as h;cases h with|cons U V=>cases V with|cons G H=>exact⟨_,dM _ _ _,.cons G (.cons U H)⟩
 |trans _ _ W Y=> intro as h;lk;obtain⟨M,Z,A⟩:=Y h;obtain⟨E,K,L⟩:=W A;k_in;exact⟨E,K.trans Z,L⟩
theorem Cn{l:List D}{m:List J}(h:Bf F l m):l.length=m.length/\∀(i:Nat)a b,l[i]?=AA a->m[i]?=AA b->F a b:=by refine⟨?_,λ_ _ _=>Sn h⟩;induction h with|nil=>rfl|cons _ _ U=>exact AHU _ U
theorem K5:∀{ks:List AL}{J:List AK},Bb (ks.map Az) J->J.map BO=ks/\∀v∈J,Dt v|[],_,h=>by cases h;simp|k::ks,_,h=>by cases h with|cons U V=>obtain⟨e,f⟩:=K5 V;cases k with|inl i=>obtain⟨t,rfl⟩:=U;exact⟨by rw[EI,e];rfl,λv D=>by rcases BY.mp D with rfl|D;exact Ir;simp_all⟩|inr x=>obtain⟨t,rfl⟩:=U;exact⟨by rw[EI,e];rfl,λv D=>by rcases BY.mp D with rfl|D;exact Ir;simp_all⟩
theorem N5.aaz(I:AY X B e H s)(h:N5 X.K H xs kss)(r:Bb xs its):KC s.heap its kss:=by have M:=r.ai;cases h with|cI c=>refine .cI (by simp_all) λi u A Y D=>?_;rw[Bo]at D;lk;obtain⟨n,J,rfl⟩:=EK.mp D;obtain⟨C,U,t,W⟩:=r.se (i:=i) (x:=.int n) (by simp_all);k_in;grind|cS d=>refine .cS (by simp_all) λi u A Y D=>?_;rw[Bo]at D;lk;obtain⟨n,J,rfl⟩:=EK.mp D;obtain⟨C,U,t,W⟩:=r.se (i:=i) (x:=.str n) (by simp_all);k_in;grind|cT R N p=>obtain⟨F,G⟩:=Cn p;refine .cT R (O1 M.symm F) N λi u A Y D=>?_;have S:=(BU.mp D).1;have J:xs[i]?=AA xs[i]:=(by simp);lk;obtain⟨⟨a,E,P⟩,z⟩:=G i _ _ J D;obtain⟨C,U,W⟩:=r.se J;rw[Y]at U;cases U;rw[E]at W;obtain rfl:u=DM a:=W;obtain⟨Z,Q,⟨o,O,K,n,L⟩,_⟩:=I.de P;obtain⟨T,b⟩:=K5 Q;k_in;exact⟨⟨a,o,_,n,rfl,O,K,L,by assumption,by assumption⟩,z⟩
theorem zU(r:Bb ys its)(B:its.length=kss.length)(H:∀(i:Nat)u ks,its[i]?=AA u->kss[i]?=AA ks->kf u=ks)(p:out.Perm (Jw its))(u:DN (O:=HP) kf out 0 (Jw its).size):∃D:List (AB×List AL),D.Perm (ys.zip kss)/\Bb (D.map (·.1)) (out.map (·.2)).toList/\(D.map (·.2)).Pairwise (λa b=>BK b a=AQ):=by
  have E:out.toList.Perm (its.zip its):=by rw[<-Wf];exact T4.mp p
  have d:∀q∈out.toList,q.1=q.2/\q.1∈its:=λq I=>AB9 (E.mem_iff.mp I);have F:(out.map (·.2)).toList=out.toList.map (·.2):=ADT ..;have M:=by have:=E.map (·.2);rwa[ABd (Ai _)]at this
  have X:=r.ai;have L:Bf (λ(q:AB×List AL)v=>Bn q.1 v/\kf v=q.2) (ys.zip kss) its:=by refine HQ (by(simp[*])) λi a b W Y=>?_;obtain⟨G,Q⟩:=L6.mp W;obtain⟨v,R,S⟩:=r.se G;grind
  lk;obtain⟨D,N,P⟩:=QH M L;obtain⟨K,T⟩:=Cn P;k_in;refine⟨D,N,?_,?_⟩
  . rw[F];refine HQ (O1 (Au _) K) λi a b W Y=>?_;grind
  . rw[Ig];intro i j Z A J;rw[Au]at Z A;have c:=p.size_eq.symm;have C:∀k(B:k<D.length),(D[k]).2=BQ (O:=HP) kf out k:=λk B=>by
      have U:k<out.size:=by simp_all
      rw[DX U];have Y:(out.toList.map (·.2))[k]?=AA out[k].2:=by simp_all
      grind
    have:=u i j (Bm _) (Bz J) (by simp_all);rw[<-C i Z,<-C j A]at this;rw[dZ,dZ];exact this
theorem V3(I:AY X pins σ H s)(hz:ys.length<=As)(hc:∀(Q:List AK->AX->Prop)(E:AK->AX->Prop),(∀h1 tk its,(∀b o,s.heap.get? b=AA o->h1.get? b=AA o)->s.heap.objs.size<=h1.objs.size->Bb ys its->Q its {s with heap:=h1,toks:=tk})->Aw (Av X.af X.w) X.A.in1 (Tt (.ref p)) Q E s)(sk:∀its,Bb ys its->its.length=kss.length/\∃kf,(∀(i:Nat)u ks,its[i]?=AA u->kss[i]?=AA ks->kf u=ks)/\∀s':AX,(∀b o,s.heap.get? b=AA o->s'.heap.get? b=AA o)->2<=its.length->∃κ,(∀(Q:Qd->AX->Prop)(E:AK->AX->Prop),Q κ s'->Aw (Av X.af X.w) X.A.in1.in1 (fH its.toArray) Q E s')/\F5 X.af X.w X.A.in1.in1 s' κ HP kf (Jw its))(q:∀l(qs:List (AB×List AL)),H l=AG->qs.Perm (ys.zip kss)->(qs.map (·.2)).Pairwise (λa b=>BK b a=AQ)->Q (.ref l) (AR H l (.lst (qs.map (·.1))))):Aw (Av X.af X.w) X.A (Il (.builtin "sorted") [.ref p]) (Ee X pins σ Q) X.xe s:=by
 refine Calls.call_function_entry kind_sorted plain_sorted entry_sorted (args_sorted1 _) ?_;refine Ay (CN ?_);refine Ay (hc _ _ λh1 tk its k1 grow rv=>?_);lk;obtain⟨hk,kf,hkf,cm⟩:=sk its rv;k_in;have ra:=Ag (Bq rv.ai.symm) hz;refine Ay (hU ?_ ra);have hoL:(h1.push _).get? h1.objs.size=AA (CZ "list" its.toArray 0):=ER _ rfl;refine Ay (Qz (ACy AEm ⟨_,hoL,rfl⟩ AEZ (ADJ (O:=HP) hoL ra kf (λh' k' h2=>cm _ (λa o e=>k' a o (Dv (Cb (k1 a o e))) (Ca _ (k1 a o e))) h2) λout p u=>⟨_,rfl,CN ⟨_,rfl,?_⟩⟩) (args_list_sort _)));lk;obtain⟨qs,q1,q2,q3⟩:=zU rv hk hkf p u;obtain⟨e',ho⟩:=sortedHeap_at (a:=h1.objs.size) (vs:=its) (out:=out.map (·.2)) hoL;k_in;have lz:(qs.map (·.1)).length<=As:=by rw[Au,q1.length_eq,AD3];exact Ag (LJ _ _) hz
 have old:∀b o,s.heap.get? b=AA o->(ACA (h1.push (CZ "list" its.toArray 0)) h1.objs.size its (out.map (·.2))).get? b=AA o:=λb o e=>by have e1:=k1 b o e;have hlt:=Cb e1;rw[sortedHeap_old (Dv hlt) (by rw[size_push'];exact ABo hlt)];exact Ca _ e1
 exact⟨.ref h1.objs.size,_,I.jb (a:=h1.objs.size) (o:=.lst (qs.map (·.1))) (t':=tk) old grow ⟨lz,_,e',q2,by rw[iP];exact ho⟩,rfl,q _ qs (I.bj.ax grow) q1 q3⟩
theorem Zw{X:Bv}{s:AX}(U:Bb ys its)(W:PlainL s.heap p its.toArray)(Y:ys.length<=As)(Q:List AK->AX->Prop)(E:AK->AX->Prop)(f:∀D tk its,(∀b o,s.heap.get? b=AA o->D.get? b=AA o)->s.heap.objs.size<=D.objs.size->Bb ys its->Q its {s with heap:=D,toks:=tk}):Aw (Av X.af X.w) X.A.in1 (Tt (.ref p)) Q E s:=by have J:=U.ai;refine collect_list W.isList (f _ _ _ (λb o e=>(ACP _ _ _ _ (Dv (Cb e))).trans (Ca _ e)) ?_ U) (by simp_all);simp_all
theorem xA{K:BB}(B:X.K=K:=by rfl):EV X (.builtin "sorted") (λxs H Q=>∃(p:AE)(ys:List AB)(kss:List (List AL)),xs=[.ref p]/\CO K H p ys/\N5 K H ys kss/\∀l(J:List (AB×List AL)),H l=AG->J.Perm (ys.zip kss)->(J.map (·.2)).Pairwise (λa b=>BK b a=AQ)->Q (.ref l) (AR H l (.lst (J.map (·.1))))):=by subst B;intro Z s O H xs N Q I r h;lk;obtain⟨p,ys,kss,rfl,C,L,q⟩:=h;obtain⟨u,rfl,G⟩:=Fz r;cases G;obtain⟨D,U,F,Y⟩:=I.fw C;k_in;refine V3 I Y (Zw U F Y) (λD U=>?_) q;have W:=L.aaz I U;exact⟨W.bh,_,W.kf,λM E A=>W.abj A λa o _ _ _ e _ _=>E a o e⟩
theorem xD(K:W.KdlSrc prog w T r d n P OK)(hh:A.handled=AG)(hok:OK s.heap)(hn:n<=As)(hQ:∀h' tk(acc:Array AK),(∀b o,s.heap.get? b=AA o->h'.get? b=AA o)->s.heap.objs.size<h'.objs.size->Oe P acc n->Q acc.toList {s with heap:=h',toks:=tk}):Aw (Av prog w) A (Tt (.ref r)) Q E s:=by
 refine Ay (AGN (Tr AE3 ?_));refine Ay (Tv ?_);refine CN ⟨gT ACJ _,Tr AE2 ?_⟩;have hS₁:(s.heap.push {cls:=.type "list",data:=.seq ([]:List AK).toArray}).get? _=AA _:=ER _ rfl;have ht:=K.there _ hok;have kp:∀b o,s.heap.get? b=AA o->(s.heap.push {cls:=.type "list",data:=.seq ([]).toArray}).get? b=AA o:=λb o e=>Ca _ e;have key:∀s',(∃h' tk acc c',s'={s with heap:=h',toks:=tk}/\(∀b o,b≠s.heap.objs.size->(s.heap.push {cls:=.type "list",data:=.seq ([]:List AK).toArray}).get? b=AA o->h'.get? b=AA o)/\h'.get? s.heap.objs.size=AA {cls:=.type "list",dict:=AG,data:=.seq acc c',slots:=#[]}/\Oe P acc n)->Aw (Av prog w) A (load _>>=λo=>match o.data with|.seq xs _=>Be xs.toList|_=>unsupported "internal:collect") Q E s':=λs'⟨h',tk,acc,c',e,k1,k2,k3⟩=>by subst e;refine Ay (ACz k2 ?_);exact CN (hQ h' tk acc (λb o e=>k1 b o (Dv (Cb e)) (kp b o e)) (Cb k2) k3)
 refine IF (W.kdl_extend (A:=A) (R:=λr s'=>r=.ok (.ret (.ref s.heap.objs.size))/\∃h' tk acc c',s'={s with heap:=h',toks:=tk}/\(∀b o,b≠s.heap.objs.size->(s.heap.push {cls:=.type "list",data:=.seq ([]:List AK).toArray}).get? b=AA o->h'.get? b=AA o)/\h'.get? s.heap.objs.size=AA {cls:=.type "list",dict:=AG,data:=.seq acc c',slots:=#[]}/\Oe P acc n) K hh (K.keep _ _ hok (λu1 u2 u3 u4=>kp _ _ u4)) _ (NG ht.1) (NG ht.2) _ 0 hS₁ (by simp_all) hn) (λfin s' hf=>?_) (by simp);cases fin with|done f=>grind|again c=>refine⟨hf.1,Ts hf.2 λr s2 hh11=>?_⟩;obtain⟨e,q⟩:=hh11;grind
theorem VZ(hc:X.fh=AJ):EV X (.builtin "sorted") (λxs H Q=>∃(d:AE)(kvs:List (AL×AB)),xs=[.ref d]/\H d=AA (.dK kvs)/\((∀p∈kvs,∃i,p.1=.inl i)\/∀p∈kvs,∃i,p.1=.inr i)/\∀l(ks:List AL),H l=AG->ks.Perm (kvs.map (·.1))->ks.Pairwise (λa b=>Co b a=AQ)->Q (.ref l) (AR H l (.lst (ks.map Az)))):=by
  intro pins s σ H xs us Q I r h;lk;obtain⟨d,kvs,rfl,e,hty,q⟩:=h;obtain⟨u,rfl,ru⟩:=Fz r;cases ru;obtain⟨z,lo,vs,rel,dd⟩:=P7 I.bj e;obtain⟨ep,hat⟩:=dd.dictAt;k_in;have hlen:kvs.length=vs.length:=KZ rel;have sv:∀{its:List AK},Bb (kvs.map λp=>Az p.1) its->KC s.heap its (kvs.map λp=>[p.1]):=λ{its}rv=>by
    have ra:=rv.ai;rw[Au]at ra;rcases hty with hty|hty
    . refine .cI (by rw[Au];exact ra.symm) λi u ks e1 e2=>?_;rw[Bo]at e2;obtain⟨p,e3,rfl⟩:=EK.mp e2;obtain⟨n,en⟩:=hty p (Cp e3);obtain⟨u',e4,e5⟩:=rv.se (i:=i) (x:=Az p.1) (by rw[Bo,e3];rfl);rw[e1]at e4;cases e4;rw[en]at e5⊢;obtain⟨t,rfl⟩:=e5;exact⟨n,t,rfl,rfl⟩
    . refine .cS (by rw[Au];exact ra.symm) λi u ks e1 e2=>?_;rw[Bo]at e2;obtain⟨p,e3,rfl⟩:=EK.mp e2;obtain⟨n,en⟩:=hty p (Cp e3);obtain⟨u',e4,e5⟩:=rv.se (i:=i) (x:=Az p.1) (by rw[Bo,e3];rfl);rw[e1]at e4;cases e4;rw[en]at e5⊢;obtain⟨t,rfl⟩:=e5;exact⟨n,t,rfl,rfl⟩
  refine V3 (kss:=kvs.map λp=>[p.1]) I (by rw[Au];exact z) (λQ E f=>xD (AFl (knd:=FK X.af X.w) (kvs:=vs) (ep:=ep) lo) (I.ok.hd hc) hat (by simp_all) λh1 tk acc k1 gr it=>f h1 tk _ k1 (Bz gr) ?_) (λits rv=>⟨(sv rv).bh,_,(sv rv).kf,λs' kp h2=>(sv rv).abj h2 λa o _ _ _ e _ _=>kp a o e⟩) λl qs hl q1 q3=>?_;.exact aJ rel (by rw[MN];exact it.1) λj v hv=>it.2 j v (by rw[<-Oz];exact hv)
  . have ep:qs.map (·.1)=(qs.map λx=>x.2.headD (.inl 0)).map Az:=by rw[Cz];refine OS λx hx=>?_;have hm:=q1.mem_iff.mp hx;obtain⟨i,hi⟩:=WM.mp hm;obtain⟨e3,e4⟩:=L6.mp hi;rw[Bo]at e3 e4;obtain⟨p3,e5,e6⟩:=EK.mp e3;rw[e5]at e4;show x.1=Az (x.2.headD (.inl 0));rw[<-e6,<-CD e4];rfl
    have pm:(qs.map λx=>x.2.headD (.inl 0)).Perm (kvs.map (·.1)):=by refine(q1.map _).trans (TF ?_);rw[show(λx:AB×List AL=>x.2.headD (.inl 0))=(λl:List AL=>l.headD (.inl 0))∘AEU from rfl,<-Cz,ABd (by simp),Cz];rfl
    have pw:(qs.map λx=>x.2.headD (.inl 0)).Pairwise (λa b=>Co b a=AQ):=by
      rw[Eh];rw[Eh]at q3;refine q3.imp_of_mem λ{a b}ha hb hab=>?_;have one:∀x∈qs,∃k,x.2=[k]:=λx hx=>by have hm:=q1.mem_iff.mp hx;obtain⟨i,hi⟩:=WM.mp hm;obtain⟨_,e4⟩:=L6.mp hi;rw[Bo]at e4;obtain⟨p3,_,e6⟩:=EK.mp e4;exact⟨_,e6.symm⟩
      obtain⟨x,ex⟩:=one a ha;obtain⟨y,ey⟩:=one b hb;rw[ex,ey]at hab⊢;show Co y x=AQ;have hab:(if y=x then AQ else Co y x)=AQ:=hab;by_cases z:y=x;.rw[z];exact QB x
      .rw[AHS z]at hab;exact hab
    rw[ep];exact q _ _ hl pm pw
theorem P8(A:DB)(s:AX)(U:Dt x)(V:Dt y)(J:CC (BO x)=CC (BO y)):gC A s x y (Ab (BO x=BO y)):=by intro D w E Q h;exact Vf U V J h
theorem AAZ(A:DB)(s:AX)(D:Dt x)(J:Dt y)(U:CC (BO x)=CC (BO y))(prog:CS)(w:B0)(E:AK->AX->Prop)(Q:AK->AX->Prop)(h:Q (.bool (Co (BO x) (BO y))) s):Aw (Av prog w) A (ACt .Lt x y) Q E s:=by
 cases x<;>first|exact D.elim|skip
 all_goals(cases y<;>first|exact J.elim|exact HX _|exact HX (by assumption)|skip)
 .exact(AB8 h)
 .exact(AEh h)
structure R6(vs ws:List AK)(n m:Nat)(r:Bool):Prop where
 ex:∃(us zs:List AK),vs=us++zs/\(zs=[]\/ws.length<=us.length)/\(∀v∈us,Dt v)/\(∀v∈ws,Dt v)/\(∀(i:Nat)x y,us[i]?=AA x->ws[i]?=AA y->CC (BO x)=CC (BO y))/\BK (us.map BO) (ws.map BO)=r
 bh:vs.length+m=ws.length+n
theorem dA(l b:AE)(J D:Array AK)(n n2:Nat)(z O:Option AE)(sl m:Array (Option AK))(r:Bool)(X:R6 J.toList D.toList J.size D.size r):Meets (Builtin.«tuple.__lt__» ⟨[.ref l,.ref b],[]⟩) (λ_ R s=>s.heap.get? l=AA {cls:=.type "tuple",dict:=z,data:=.seq J n,slots:=sl}/\s.heap.get? b=AA {cls:=.type "tuple",dict:=O,data:=.seq D n2,slots:=m}/\R (.ok (.ret (.bool r))) s):=.of_wp λY w A R s h=>by
 lk;obtain⟨K,g,d,M,L⟩:=s;obtain⟨hl,hb,h⟩:=h;k_in;have f2:=ACC;wp_walk using wpAny_loadPart' hl,wpAny_loadPart' hb,hG _ (λZ b k=>b.1=AG/\k=⟨K,g,d,M,L⟩/\∃(N V:List AK)(q:Bool),Z=N.zip V/\R6 N V J.size D.size q/\R (.ok (.ret (.bool q))) ⟨K,g,d,M,L⟩) _;case turn=> rintro⟨y,x⟩Z b k⟨C,rfl,N,V,q,F,f,H⟩;lk;obtain⟨⟨B,o,rfl,G,P,Q,S,W⟩,U⟩:=f;k_in;cases V with |nil=>rw[ABi]at F;cases F|cons c V=>cases B with |nil=>simp_all|cons a B=> rw[Js,WR]at F;injection F with j E;injection j with hy X;subst hy X;have p:=P y Ci;have t:=Q x Ci;have u:=S 0 y x rfl rfl;have W:(if BO y=BO x then BK (B.map BO) (V.map BO)else Co (BO y) (BO x))=q:=W;refine Ay (P8 A.in1 ⟨K,g,d,M,L⟩ p t u Y w _ _ ?_);cases e:Ab (BO y=BO x)with |true=> rw[AHT (AHX e)]at W;wp_walk;refine⟨rfl,rfl,B++o,V,q,E,⟨⟨B,o,rfl,?_,λv I=>P v (D5 _ I),λv I=>Q v (D5 _ I),λi x y e1 e2=>S (i+1) x y (by simpa using e1) (by simpa using e2),W⟩,?_⟩,H⟩;all_goals grind|false=> rw[AHS (AHc e)]at W;have T:=AAZ A.in1 ⟨K,g,d,M,L⟩ p t u Y w;wp_walk using T;exact⟨_,rfl,by rw[W];exact H⟩
 case fin=>
  rintro⟨b1,b2⟩k⟨C,rfl,N,V,q,F,⟨⟨B,o,rfl,G,P,Q,S,W⟩,U⟩,H⟩;simp only at C;subst C;have I:q=Ab (J.size<D.size):=by rw[<-W];cases B with
   |nil=>
    rcases G with G|G
    . subst G;cases V with |nil=> simp only[OR,D4]at U;exact(AHW (eQ.mpr (Nat.add_le_add_iff_left.mp (Bq U)))).symm|cons c V=> simp only[OR,D4,Ex]at U;exact(AHV (by simp_all)).symm
    . have:V=[]:=dQ (by simpa using G);subst this;simp only[OR,LG]at U;exact(AHW (by lia)).symm|cons a B=>cases V with |nil=> simp only[OR,Ex,Js]at U;exact(AHW (by lia)).symm|cons c V=>rw[Js,WR]at F;cases F
  rw[I]at H;wp_walk;exact⟨_,rfl,by simpa[ACF]using H⟩
 case h=>exact⟨rfl,rfl,J.toList,D.toList,r,rfl,X,h⟩
def AAV(K:BB):EC:=λx y H Q=>Zj (λa b D U J=>x=.ref a) (λ_ b _ _ _=>y=.ref b) (λa _ D U _=>CB K H a (D.map Az++U)) (λ_ b _ _ J=>CB K H b (J.map Az)) (λ_ _ D U J=>(U=[]\/J.length<=D.length)) (λ_ _ D _ J=>(∀(i:Nat)k m,D[i]?=AA k->J[i]?=AA m->CC k=CC m)) (λ_ _ D _ J=>Q (.bl (BK D J)) H)
theorem WA:∀{xs ys:List AB}{D:List AK},Bb (xs++ys) D->∃vs J,D=vs++J/\Bb xs vs/\Bb ys J|[],ys,D,h=>⟨[],D,rfl,.nil,h⟩|x::xs,ys,_,h=>by cases h with|cons U W=>lk;obtain⟨vs,J,e,Y,Z⟩:=WA W;k_in;exact⟨_,J,by simp_all,.cons U Y,Z⟩
theorem zQ{K:BB}(j:X.A.units<HW)(d:X.K=K:=by rfl):CU X (Ek .Lt) (AAV K):=by
 subst d;intro W s σ H x y v u Q I rx ry h;lk;obtain⟨a,b,A,zs,B,rfl,rfl,e,f,hz,g,q⟩:=h;cases rx;cases ry;obtain⟨k,r1,w,_⟩:=I.de e;obtain⟨D,r2,z,_⟩:=I.de f;obtain⟨E,F,rfl,P,q2⟩:=WA r1;obtain⟨l,T⟩:=K5 P;obtain⟨m,c⟩:=K5 r2;have o:=P.ai;have p:=r2.ai;have l3:=q2.ai;rw[Au]at o p;obtain⟨⟨R,S,L,sl⟩,O,M,n,N⟩:=id w;obtain⟨⟨G,Z,Y,C⟩,V,J,t,U⟩:=id z;k_in;simp only at M N J U;subst M N J U;have r:R6 (E++F).toArray.toList D.toArray.toList (E++F).toArray.size D.toArray.size (BK A B):=by
  refine⟨⟨E,F,by simp,?_,T,by simpa using c,λi x y e1 e2=>?_,by simp[l,m]⟩,by simp;exact eG _ _⟩;.grind
  .refine g i _ _ (by grind) (by grind)
 exact gU (op:=.Lt) ⟨_,O,rfl⟩ ⟨_,V,rfl⟩ AFD AE5 (by rfl) (dA a b _ _ n t S Z sl C _ r) ⟨O,V,show Qm (BK A B)≠ACW/\Ee X W σ Q (.bool (BK A B)) s from⟨(by simp),⟨.bl _,H,I,rfl,q⟩⟩⟩ j
def Cq(H:AI)(xs:List AB)(kss:List (List AL)):Prop:=Bf (λx D=>∃a,x=.ref a/\H a=AA (.tup (D.map Az))) xs kss
def B7(H H':AI):Prop:=∀p D,H p=AA (.tup D)->H' p=AA (.tup D)
theorem Aj.tp(s:Aj H H'):B7 H H':=λp D e=>s _ _ e
theorem KD(H:AI):B7 H H:=λ_ _ h=>h
theorem B7.aa(a:B7 H D)(b:B7 D J):B7 H J:=λp U e=>b _ _ (a _ _ e)
theorem B7.dz(t:B7 H H')(h:H' b=AA u)(D:∀xs,u≠.tup xs):B7 H (AR H' b o):=λp xs e=>by
 have e:=t p xs e;have:p≠b:=λz=>by rw[z,h]at e;exact D xs (CD e)
 rw[Aa this];exact e
theorem GN{F G:D->J->Prop}(h:∀a b,F a b->G a b):∀{l:List D}{m:List J},Bf F l m->Bf G l m|_,_,.nil=>.nil|_,_,.cons a r=>.cons (h _ _ a) (GN h r)
theorem EE{U V:Type}{F:U->V->Prop}{l D:List U}{m J:List V}(h:Bf F l m)(s:Bf F D J):Bf F (l++D) (m++J):=by induction h with|nil=>exact s|cons r _ W=>exact .cons r W
theorem QI:∀{l:List D}{m:List J}(n:Nat),Bf F l m->Bf F (l.take n) (m.take n)|_,_,0,_=>.nil|_,_,_+1,.nil=>.nil|_,_,n+1,.cons a r=>.cons a (QI n r)
theorem OG:∀{l:List D}{m:List J}(n:Nat),Bf F l m->Bf F (l.drop n) (m.drop n)|_,_,0,h=>h|_,_,_+1,.nil=>.nil|_,_,n+1,.cons a r=>OG n r
theorem Cq.ab(h:Cq H xs kss)(t:B7 H H'):Cq H' xs kss:=GN (λx D⟨a,e,q⟩=>⟨a,e,t _ _ q⟩) h
theorem Cq.bh(h:Cq H xs kss):xs.length=kss.length:=(Cn h).1
theorem Cq.at(h:Cq H xs kss){i:Nat}(e:xs[i]?=AA x):∃a ks,x=.ref a/\kss[i]?=AA ks/\H a=AA (.tup (ks.map Az)):=by have U:=(BU.mp e).1;have D:kss[i]?=AA (kss[i]'(by rw[<-h.bh];exact U)):=CG _;lk;obtain⟨a,J,q⟩:=(Cn h).2 i _ _ e D;k_in;exact⟨a,_,J,D,q⟩
theorem Cq.iq(h:Cq H xs kss)(e:H p=AA (.tup (ks.map Az))):Cq H (xs++[.ref p]) (kss++[ks]):=EE h (.cons ⟨p,rfl,e⟩ .nil)
theorem KO(H:AI):Cq H [] []:=FO
noncomputable def aG:AL->PyData|.inl i=>.int i|.inr x=>.str x
theorem Cq.ya{K:BB}(h:Cq H xs kss)(W:sh≠[])(Y:∀ks∈kss,ks.map CC=sh):N5 K H xs kss:=by refine .cT sh W (HQ h.bh λi a b J D=>?_);lk;obtain⟨p,U,q⟩:=(Cn h).2 i a b J D;k_in;exact⟨⟨p,U,Aq q⟩,Y b (Cp D)⟩
theorem Cq.aax(h:Cq H xs kss){D:List (AB×List AL)}(p:D.Perm (xs.zip kss)):Cq H (D.map (·.1)) (D.map (·.2))/\(D.map (·.2)).Perm kss:=by
 have B:=h.bh;constructor
 . refine HQ (by rw[Au,Au]) λi a b U J=>?_;rw[Bo]at U J;lk;obtain⟨q,W,rfl⟩:=EK.mp U;rw[W]at J;cases J;obtain⟨j,A⟩:=WM.mp (p.mem_iff.mp (Cp W));obtain⟨Y,Z⟩:=L6.mp A;k_in;exact(Cn h).2 j _ _ Y Z
 . have:=p.map (·.2);rwa[ABd (Bq B.symm)]at this
def Cm(kss:List (List AL)):Prop:=kss.Pairwise λa b=>BK b a=AQ
theorem Sw:∀{a b:List (List AL)},a.Perm b->Cm a->Cm b->a=b
  |[],b,p,_,_=>by simp_all|x::a,[],p,_,_=>List.perm_nil.mp p|x::a,y::b,p,Z,A=>by
    lk;obtain⟨U,V⟩:=Gi.mp Z;obtain⟨W,Y⟩:=Gi.mp A;k_in;have e:x=y:=by
      have D:y∈x::a:=(by grind);have J:x∈y::b:=(by grind);rcases BY.mp D with e|D;.exact e.symm
      . rcases BY.mp J with e|J;.exact e
        .exact Se (W x J) (U y D)
    subst e;rw[Sw (by simp_all) V Y]
theorem Ms{K:BB}(C:Nat->Ap->List AB->AI->Prop)(k:xs.length<=As)(X:C 0 (OV N AG++M.map (Ea R)) [] H)(j:∀i Y J Z,C i Y J Z->CO K Z a xs)(l:∀(i:Nat)x Y J Z(L:AB->Ap->AI->Prop)(I:Ap->AI->Prop),xs[i]?=AA x->J.length<=i->C i Y J Z->(∀y W A,C (i+1) W (J++[y]) A->L y W A)->(∀W A,C (i+1) W J A->I W A)->g x Y Z λB A=>P B A λb G=>if b=AJ then O B G λy S=>L y B S else I B G)(d:∀Y J Z,J.length<=xs.length->C xs.length Y J Z->∀D,Z D=AG->Q (.ref D) (AR Z D (.lst J))):Je N M g P O R Q (Mo K a) H:=by
 refine⟨λi m Y J F=>m=xs.length-i/\i<=xs.length/\J.length<=i/\C i Y J F,⟨xs.length,by simp,Bm _,Bm _,X⟩,?_⟩;intro i m Y J F c;lk;obtain⟨rfl,f,E,p⟩:=c;k_in;have q:=j i Y _ F p;by_cases U:i<xs.length
 . refine .inr ⟨⟨xs,xs[i],q,by simp[U]⟩,Bl (HS E U) k,λx Z y=>?_⟩;obtain⟨e,y⟩:=y;subst e;have T:=y xs q;exact l i x Y _ _ _ _ T E p (λy W A h=>⟨_,JO _ _ U,rfl,U,by rw[Ba];exact Jv.mpr E,h⟩) λW A h=>⟨_,JO _ _ U,rfl,U,Ii E,h⟩
 . have e:=Eb f (F4 U);subst e;exact .inl ⟨⟨xs,q,Ai _⟩,d Y _ F E p⟩
theorem JJ{K:BB}(A:Nat->Ap->List AB->AI->Prop)(X:xs.length<=As)(R:A 0 (OV M AG++L.map (Ea N)) [] H)(T:∀i Z U W,A i Z U W->CO K W a xs)(c:∀(i:Nat)x Z U W(B:AB->Ap->AI->Prop),xs[i]?=AA x->U.length<=i->A i Z U W->(∀y F Y,A (i+1) F (U++[y]) Y->B y F Y)->g x Z W λJ Y=>E J Y λy C=>B y J C)(S:∀Z U W,U.length<=xs.length->A xs.length Z U W->∀D,W D=AG->Q (.ref D) (AR W D (.lst U))):Je M L g M9 E N Q (Mo K a) H:=by
 refine Ms A X R T (λi x Z U W B I O P p d _=>?_) S;have e:(λ(J)(Y)=>M9 J Y λb G=>if b=AJ then E J G λy C=>B y J C else I J G)=λJ Y=>E J Y λy C=>B y J C:=by funext J Y;show(if AJ=AJ then E _ Y _ else I J Y)=_;rw[AHT rfl]
 exact c i x Z _ W B O P p d
section
variable{κ:Type}[DecidableEq κ]
set_option tactic.hygienic true in theorem Mx{kvs:List (κ×AB)}{k:κ}{v:AB}{q:κ×AB}(h:q∈Bk kvs k v):q=(k,v)\/(q∈kvs/\q.1≠k):=by
  unfold Bk at h;split at h
  . lk;obtain⟨p,J,e⟩:=Ax.mp h;k_in;by_cases z:p.1=k;.rw[AHT z]at e;rw[<-e,z];exact .inl rfl
    .rw[AHS z]at e;rw[<-e];exact .inr ⟨J,z⟩
  . rename_i D;rcases C1.mp h with h|h;.refine .inr ⟨h,λz=>D (WE.mpr ⟨q,h,AHV z⟩)⟩
    .exact .inl (Bc.mp h)
end
theorem SY[DecidableEq J](kvs:List (J×AB))(k:J)(v:AB):(Bk kvs k v).map (·.1)=if k∈kvs.map (·.1)then kvs.map (·.1)else kvs.map (·.1)++[k]:=by
  by_cases h:k∈kvs.map (·.1)
  . rw[AHT h];lk;obtain⟨p,D,e⟩:=Ax.mp h;k_in;unfold Bk;rw[AHT (WE.mpr ⟨p,D,AHV e⟩),Cz];refine OS λq _=>?_;show(if q.1=k then(q.1,v)else q).1=q.1;split<;>rfl
  . rw[AHS h];unfold Bk;rw[AHS (λq=>?_),CQ];.rfl
    . lk;obtain⟨p,D,e⟩:=WE.mp q;k_in;exact h (Ax.mpr ⟨p,D,AHX e⟩)
section
variable{κ:Type}[DecidableEq κ]
set_option tactic.hygienic true in theorem OE{kvs:List (κ×AB)}{k:κ}{v:AB}(h:(kvs.map (·.1)).Nodup):((Bk kvs k v).map (·.1)).Nodup:=by
 rw[SY];split;.exact h
 . rename_i D;exact aW h D
end
theorem Vo[DecidableEq D](kvs:List (D×AB))(k:D)(v:AB):(Bk kvs k v).length<=kvs.length+1:=by
 have e:=AHU LF (SY kvs k v);rw[Au]at e;rw[e];split;.simp
 .simp
theorem Gy{U:Type}[DecidableEq U]{kvs:List (U×AB)}{k:U}{v:AB}(h:BZ kvs k=AA v):(k,v)∈kvs:=by lk;obtain⟨p,D,J⟩:=EK.mp h;k_in;have:=List.find?_some D;have e:=AHX this;rw[<-e,<-J];exact List.mem_of_find?_eq_some D
theorem NA{D:Type}[DecidableEq D]{kvs:List (D×AB)}{k:D}(h:k∈kvs.map (·.1)):∃v,BZ kvs k=AA v:=by cases e:BZ _ k with|some v=>exact⟨v,rfl⟩|none=>exact absurd h (V8 e)
theorem P6:∀{l:List U}{n m:Nat},(∀(i:Nat)x,l[i]?=AA x->(p x=AJ↔n<=i/\i<m))->(l.drop n).take (m-n)=l.filter p|[],n,m,_=>by simp|x::l,0,0,h=>by have D:=h 0 x rfl;have J:=P6 (n:=0) (m:=0) λi y e=>(h (i+1) y (by simpa using e)).trans (by simp);rw[F1,AHS (λz=>by have:=D.mp z;exact AEM this.1 this.2),<-J];rfl|x::l,0,m+1,h=>by have D:=h 0 x rfl;have J:=P6 (n:=0) (m:=m) λi y e=>(h (i+1) y (by simpa using e)).trans (by simp);rw[F1,AHT (D.mpr ⟨Ai _,WY _⟩),<-J];rfl|x::l,n+1,m,h=>by have D:=h 0 x rfl;have J:=P6 (n:=n) (m:=m-1) λi y e=>(h (i+1) y (by simpa using e)).trans (by(constructor<;>lia));rw[F1,AHS (λz=>by have:=D.mp z;exact ABp _ this.1),<-J];congr 1;lia
theorem Vg[DecidableEq V](f:Z->V):∀(L:List Z)(ks:List V),ks.Nodup->(∀x∈L,f x∈ks)->(ks.flatMap λk=>L.filter λx=>Ab (f x=k)).Perm L
  |[],ks,_,_=>by
    have:(ks.flatMap λk=>([]).filter λx=>Ab (f x=k))=[]:=by simp
    rw[this]|x::L,ks,U,Y=>by
    have E:=Vg f L ks U λy C=>Y y (D5 _ C);refine WC ?_ (E.cons x);have W:∀ks:List V,ks.Nodup->(ks.flatMap λk=>(x::L).filter λx=>Ab (f x=k)).Perm (if f x∈ks then x::(ks.flatMap λk=>L.filter λx=>Ab (f x=k))else ks.flatMap λk=>L.filter λx=>Ab (f x=k)):=by intro ks;induction ks with |nil=>simp|cons k ks D=>
        intro U;obtain⟨A,B⟩:=Ie.mp U;have D:=D B;rw[Ew];by_cases e:f x=k
        . have J:=λz=>A (e▸z);rw[AHS J]at D;rw[AHT (by rw[e];exact Ci),F1,AHT (by simpa using e)];exact(D.append_left _).cons x
        . rw[F1,AHS (by simpa using e)];by_cases z:f x∈ks;. rw[AHT z]at D;rw[AHT (D5 _ z)];exact(D.append_left _).trans AD8
          . rw[AHS z]at D;rw[AHS (λq=>by rcases BY.mp q with q|q;exact e q;exact z q)];exact D.append_left _
    have:=W ks U;rwa[AHT (Y x Ci)]at this
theorem bQ{f g:D->List U}:∀{l:List D},(∀x∈l,(f x).Perm (g x))->(l.flatMap f).Perm (l.flatMap g)|[],_=>by simp|x::l,h=>by exact(h x Ci).append (bQ λy J=>h y (D5 _ J))
theorem AAE{D W:Type}{f:D->List W}{l m:List D}(p:l.Perm m):(l.flatMap f).Perm (m.flatMap f):=by induction p with|nil=>simp|cons x _ V=>exact V.append_left _|swap x y l=>rw[Ew,Ew,Ew,Ew,<-Dh,<-Dh];exact QY.append_right _|trans _ _ J U=>exact J.trans U
def Bj(d:AE)(H H':AI):Prop:=∀b o,b≠d->H b=AA o->H' b=AA o
theorem Aj.x(s:Aj H H')(d:AE):Bj d H H':=λb o _ e=>s b o e
theorem Bj.aa(a:Bj d H D)(b:Bj d D J):Bj d H J:=λc o n e=>b c o n (a c o n e)
theorem Bj.dz(a:Bj d H H'):Bj d H (AR H' d o):=λc u n e=>by rw[Aa n];exact a c u n e
theorem Bj.tp(a:Bj d H H')(h:H d=AA u)(D:∀xs,u≠.tup xs):B7 H H':=λp xs e=>a p _ (λz=>by rw[z,h]at e;exact D xs (CD e)) e
theorem DE.yw(x:DE P w H h)(V:H a=AG)(J:C8 P w (AR H a o) h a o):DE P w (AR H a o) h:=λb u e=>by
 by_cases D:b=a;.subst D;rw[Ak]at e;simp_all
 . rw[Aa D]at e;exact(x b u e).uy (λW u2 u3 U=>U) (λc q=>by rw[Aa (by grind)];exact q) λc Y q=>by rw[Aa (by grind)];exact q
theorem ADA{prog:CS}{w:B0}{K:Type}[DecidableEq K]{knd:KeyKind prog w K}{A:DB}{E:AK->AX->Prop}{s:AX}{d:AE}{kvs:List (K×AK)}{k:K}{key D:AK}{Q:AK->AX->Prop}(J:knd.is k key=AJ)(f:s.heap.DictOf knd d kvs)(W:∀v,IE kvs k=AA v->Q v {s with toks:=s.toks+1})(G:IE kvs k=AG->∀h',h'.DictOf knd d (Tu kvs k D)->Ql d s.heap h'->Q D {s with heap:=h',toks:=s.toks+1})(h:kvs.length<=As):Aw (Av prog w) A (AFz d key D) Q E s:=by
 lk;obtain⟨o,U,n,L,X,B,S,M,g⟩:=f;k_in;have R:∀x,findBy knd.is U x=IE _ x:=λx=>by rw[<-M.find x];simp[findBy]
 have c:U.size<=As:=by
  have j:=M.length;have m:U.toList.length=U.size:=by simp
  omega
 unfold AFz;try with_reducible refine Qz ?_
 refine Ay (knd.pyHash J ?_);refine Ay (wpAny_dictFind_of J L B S ?_);have F:(U.findIdx? λe=>knd.is k e.key)=kvs.findIdx? λH=>Ab (H.1=k):=by rw[<-M.findIdx k];obtain⟨l⟩:=U;simp
 cases I:U.findIdx? _ with
 |some i=>
  have V:IE kvs k=(U[i]?).map (·.val):=by rw[<-R k,AF0,I]
  refine Ay (wpAny_dictEntries L B ?_);cases C:U[i]? with |none=> have:=Array.findIdx?_eq_some_iff_findIdx_eq.mp I;have O:=this.1;rw[ADQ O]at C;exact nomatch C|some e=>rw[C]at V;exact Ay (MM (CN (W _ V)))
 |none=>
  have V:IE kvs k=AG:=by rw[<-R k,AF0,I]
  have Z:=not_mem_of_findIdx_none (F▸I);have Y:¬(kvs.any λH=>Ab (H.1=k))=AJ:=by rw[WE];rintro⟨H,N,C⟩;exact Z (Ax.mpr ⟨H,N,AHX C⟩)
  refine Ay (MM (Ay (wpAny_updateDictKeys L B (CN (G V _ ⟨_,_,_,AFI _ L (Obj.isFreed_of_dict (AFK B _)),X.mapDictKeys _,AFK B _,S.push J _,?_,?_⟩ (Wm ..))))))
  . rw[Tu,AHS Y];have:=M.append J (knd.hash k) D;simpa using this
  . rw[Tu,AHS Y,CQ,ABf];refine⟨g,by simp,?_⟩;intro a T b P;simp at P;subst P;exactλe=>Z (e▸T)
theorem AC9{prog:CS}{w:B0}{K:Type}[DecidableEq K]{knd:KeyKind prog w K}{d:AE}{k:K}{key:AK}(J:knd.is k key=AJ)(C:(d==Ka)=AQ)(D:AK):MeetsIn prog w (Builtin.«dict.setdefault» ⟨[.ref d,key,D],[]⟩) (λ_ R s=>∃kvs,s.heap.DictOf knd d kvs/\kvs.length<=As/\(∀v,IE kvs k=AA v->R (.ok (.ret v)) {s with toks:=s.toks+1})/\(IE kvs k=AG->∀h',h'.DictOf knd d (Tu kvs k D)->Ql d s.heap h'->R (.ok (.ret D)) {s with heap:=h',toks:=s.toks+1})):=.of_wp λA R s⟨kvs,Y,W,Z,B⟩=>by refine Ay ?_;refine Ay (wpAny_notOrdered_dict Y.typeIs ?_);refine CN ?_;simp only[C,LP,AHa];exact Ay (ADA J Y (λv F=>CN ⟨v,rfl,Z v F⟩) (λE h' U V=>CN ⟨_,rfl,B E h' U V⟩) W)
def AAy(Y A Z:BH):BH:=λU H Q=>Y U H λx V=>Lh (λa=>x=.ref a) (λa=>Mn V a) (λa=>A U V λy W=>Z U W λz J=>SJ (λD k=>J a=AA (.dK D)) (λ_ k=>y=Az k) (λD _=>D.length<As) (λD k=>(∀v,BZ D k=AA v->Q v J)) (λD k=>(BZ D k=AG->Q z (AR J a (.dK (Bk D k z))))))
theorem AAA(p:Ar X o td)(C:Ar X e ty)(j:Ar X f tx)(m:ZZ X o "setdefault" W e f Y):Ar X (.Call (.Attribute o "setdefault" W) [e,f] [] Y) (AAy td ty tx):=by
  intro U s G H Q I h;refine Wt m.ag m.yq m.aab Wi AE8 F.type_dict_setdefault (BI (p U s G H _ I h) λu s1⟨x,P,K,rx,a,b,d,w⟩=>?_);subst b;lk;obtain rfl:u=DM a:=rx;obtain⟨t1,t2,_⟩:=Vk K d;k_in;refine⟨t1,t2,?_⟩;rw[m.yc];refine Wh rfl (fT (NM (BI (C U s1 G P _ K w) λiv s2⟨y,R,T,ry,q2⟩=>NM (BI (j U s2 G R _ T q2) λg s3⟨z,S,B,O,J,k,M,c,hl,q3,q4⟩=>Qi ?_))));subst c;lk;obtain⟨zz,N,A,V,L⟩:=P7 B.bj M;k_in;refine gQ AE8 L.typeIs F.entry_dict_setdefault (F.args_dict_setdefault_3 _ _ _) (AC9 (knd:=FK X.af X.w) (Mw ry) N g) ⟨A,L,by rw[<-V.ai];exact zz,λw' hw=>?_,λn i Z t=>?_⟩;.cases l:BZ J k with|none=>have:=Ze (o:=IE A k) (by rw[<-l];exact V.yt k);rw[hw]at this;cases this|some v=> lk;obtain⟨w2,D,F⟩:=N3 (v:=v) (o:=IE A k) (by rw[<-l];exact V.yt k);rw[hw]at D;cases D;k_in;exact⟨v,S,B.dw _,F,q3 v l⟩
  . have l:BZ J k=AG:=by cases l:BZ J k with|none=>rfl|some v=> obtain⟨w2,D,_⟩:=N3 (v:=v) (o:=IE A k) (by rw[<-l];exact V.yt k);rw[n]at D;cases D
    have C:∃q,i.get? a=AA q:=let⟨q,_,_,r,_⟩:=Z;⟨q,r⟩;have E:(Bk J k z).length<=As:=by have:=Vp J k z;omega
    exact⟨z,_,SQ B (by rw[M];exact Ir) t C (Ve E N (V.ja k O) Z),O,q4 l⟩
theorem xI{K:BB}(p:AB->Bool)(f:AB->AB)(U:CB K H a xs)(F:xs.length<=As)(Y:∀x(R:Bool->AI->Prop),x∈xs->R (p x) H->B (AA x::J.map (Ea Z)) H R)(W:∀x(R:BS),x∈xs->p x=AJ->R (f x) H->A (AA x::J.map (Ea Z)) H R)(C:∀D,H D=AG->Q (.ref D) (AR H D (.lst ((xs.filter p).map f)))):Je 1 J (Gg 0) B A Z Q (VO K a) H:=Vc xs p f F (λi E=>⟨xs,xs[i],U,by simp[E]⟩) ⟨xs,U,Ai _⟩ (λi x G _ y=>⟨y.1,y.2 xs U⟩) Y W C
theorem zT(r:Bb ys its)(G:KC h kvs kss)(X:its.length=kvs.length)(p:out.Perm (kvs.toArray.zip its.toArray))(u:DN (O:=HP) (Hy h) out 0 out.size):∃D:List (AB×List AL),D.Perm (ys.zip kss)/\Bb (D.map (·.1)) (out.map (·.2)).toList/\(D.map (·.2)).Pairwise (λa b=>BK b a=AQ):=by
  have Q:out.toList.Perm (kvs.zip its):=by have:=T4.mp p;simp_all
  have H:(out.map (·.2)).toList=out.toList.map (·.2):=ADT;have c:=r.ai;have C:=G.bh;have P:Bf (λ(q)(v:BG)=>Bn q.1 v.2/\Hy h v.1=q.2) (ys.zip kss) (kvs.zip its):=by refine HQ (by(simp[*])) λi a b Z J=>?_;obtain⟨I,K⟩:=L6.mp Z;obtain⟨L,M⟩:=L6.mp J;obtain⟨v,A,N⟩:=r.se I;rw[M]at A;cases A;exact⟨N,G.kf i b.1 a.2 L K⟩
  lk;obtain⟨D,R,S⟩:=QH Q P;obtain⟨F,T⟩:=Cn S;k_in;refine⟨D,R,?_,?_⟩
  . rw[H];refine HQ (by(simpa using F)) λi a b Z J=>?_;grind
  . rw[Ig];intro i j B W U;rw[Au]at B W;have E:∀k(C:k<D.length),(D[k]).2=BQ (O:=HP) (Hy h) out k:=λk C=>by
      have Y:k<out.size:=by simp_all
      rw[DX Y];have J:out.toList[k]?=AA out[k]:=by simp_all
      grind
    have:=u i j (Bm _) (Bz U) (Bl W (Bq F));rw[<-E i B,<-E j W]at this;rw[dZ,dZ];exact this
theorem bG{kvs its:List AK}(h:v∈(kvs.toArray.zip its.toArray).toList):v.1∈kvs:=by rw[Array.toList_zip]at h;exact(d6 h).1
theorem wI{K:BB}(s:Aj H H')(h:CB K H a xs):CB K H' a xs:=h.imp (λh=>h.imp (s _ _) λ⟨o,h⟩=>⟨o,s _ _ h⟩) id
def VP(K:BB)(H:AI)(J:List AK)(kss:List (List AL)):Prop:=J.length=kss.length/\∀(i:Nat)u D,J[i]?=AA u->kss[i]?=AA D->∃q,u=.ref q/\CB K H q (D.map Az)
theorem VP.ya(I:AY X J G H s)(h:VP X.K H U kss)(Y:sh≠[])(Z:∀ks∈kss,ks.map CC=sh):KC s.heap U kss:=by refine .cT sh h.1 Y λi u ks V D=>⟨?_,(Z _ (Cp D))⟩;lk;obtain⟨q,rfl,W⟩:=h.2 i u ks V D;obtain⟨B,C,A,_⟩:=I.de W;obtain⟨o,e,c,n,d⟩:=A;obtain⟨E,F⟩:=K5 C;k_in;exact⟨q,o,_,n,rfl,e,c,d,by assumption,(by assumption)⟩
theorem AY.wg(I:AY X (U::D) V H s):AY X D V H s:=I.gm λp J=>I.sj p (EO _ (G0 J))
theorem AY.um(I:AY X (D::J) U H s):s.heap.get? D.1=AA D.2/\H D.1=AG/\D.1≠X.ae.locals/\D.1∉X.fs:=by have:=I.sj D List.mem_append_cons_self;(simp[*])
theorem AY.zp(I:AY X ((b,o)::D) Z H s)(U:(b∈X.ex\/X.s₀.heap.objs.size<=b)/\(∀x c,X.ae.cells.lookup x=AA c->c≠b)/\∀p∈X.pn++D,p.1≠b)(C:Ql b s.heap h')(G:h'.get? b=AA W)(Y:∀v,W.data≠.cell v):AY X ((b,W)::D) Z H {s with heap:=h',toks:=t'}:=by
 lk;obtain⟨E,A,B,F⟩:=I.um;k_in;have J:AY X _ Z H {s with heap:=h',toks:=t'}:=I.wg.cb (λc u Y e=>(C.2 c Y).trans e) A B U.1 U.2.1 U.2.2;refine J.gm λp V=>?_;rcases BY.mp V with rfl|V;. (simp[*])
 .exact J.sj p (EO _ V)
theorem WB:∀{l:List AK},x∈l->(x,x)∈l.zip l
 |y::r,h=>by
  rcases BY.mp h with rfl|h;. (constructor<;>lia)
  .exact D5 _ (WB h)
abbrev Po(X:Bv)(D:List (AE×BP))(b:AE):Prop:=(b∈X.ex\/X.s₀.heap.objs.size<=b)/\(∀x c,X.ae.cells.lookup x=AA c->c≠b)/\∀p∈X.pn++D,p.1≠b
theorem AAl{st:Ce}(S:Bb ys its)(l:its.length<=As)(g:sh≠[])(j:∀ks∈kss,ks.map CC=sh)(u:ys.length=kss.length)(I:AY X ((J,CZ "list" U e)::(a,CZ "list" #[] Y)::D) T H s)(L:J≠a)(G:Po X ((a,CZ "list" #[] Y)::D) J)(F:Po X D a)(Q:VP X.K H U.toList kss)(N:(Am st).Perm (U.zip its.toArray))(k:DN (O:=HP) (Hy s.heap) (Am st) 0 (Am st).size)(i:NK st=AG)(h:∀s' out c(A:List (AB×List AL)),AY X D T H s'->s'.heap.get? a=AA (CZ "list" out c)->out.size<=As->A.Perm (ys.zip kss)->Bb (A.map (·.1)) out.toList->(A.map (·.2)).Pairwise (λa b=>BK b a=AQ)->P (.done (.ret .none)) s'):Aw (Av X.af X.w) X.A.in1.in1 (AB6 a AQ Y (.ref J) st) P E s:=by
 have R:=I.um.1;have n:=I.wg.um.1;have r:=Q.ya I g j;have t:U.size=kss.length:=by have:=Q.1;rwa[MN]at this
 have w:=S.ai;lk;obtain⟨A,o,p,q⟩:=zT (kvs:=U.toList) S r (by simp_all) (by rw[iP];exact N) k;have M:(Am st).size=its.length:=by
  have m:(U.zip its.toArray).size=DR U.size its.length:=by simp[Array.size_zip]
  rw[N.size_eq,m];simp_all
 have s1:=Wm s.heap J (ES λ_=>(#[]:Array AK));obtain⟨B,K⟩:∃B,(s.heap.update J (ES λ_=>(#[]:Array AK))).get? J=AA (CZ "list" #[] B):=⟨_,We R λ_=>#[]⟩;k_in;have W:(s.heap.update J (ES λ_=>(#[]:Array AK))).get? a=AA (CZ "list" #[] Y):=(s1.2 a L.symm).trans n;have d:AY X ((J,CZ "list" #[] B)::(a,CZ "list" #[] Y)::D) T H {s with heap:=s.heap.update J (ES λ_=>(#[]:Array AK)),toks:=s.toks}:=I.zp G s1 K λv z=>by cases z
 unfold AB6;try dsimp only
 refine Ay (Qf R rfl ?_ (by simp_all) (Bm _));refine Ay (wpAny_letGo ?_);refine Ay (Wg W rfl ?_);simp only[LP,AHa];have s2:=Wm (s.heap.update J (ES λ_=>(#[]:Array AK))) a (ES λ_=>(Am st).map (·.2));lk;obtain⟨C,Z⟩:∃C,((s.heap.update J (ES λ_=>(#[]:Array AK))).update a (ES λ_=>(Am st).map (·.2))).get? a=AA (CZ "list" ((Am st).map (·.2)) C):=⟨_,We W λ_=>(Am st).map (·.2)⟩;k_in;have f:=d.wg.zp (t':=s.toks) F s2 Z λv z=>by cases z
 refine Ay (Qf W rfl ?_ (Bm _) (Ag (Bq (iO ..)) (by(constructor<;>lia))));rw[i];simp only[AHj,LP,AHa];exact CN (h _ _ C A f.wg Z (by rw[iO];exact Ag (Bq M) l) o p q)
section
variable{X:Bv}{pins:List (AE×BP)}{σ:Ap}{k:Nat}{f:AE}{fd:Ik}{ps:List AF}{sp:BF}
set_option tactic.hygienic true in theorem AAk{H:AI}{s:AX}{a U:AE}{Z:Nat}{ys:List AB}{its:List AK}{kss:List (List AL)}{sh:List Bool}{P:fV->AX->Prop}{E:AK->AX->Prop}(F:Gr X.af X.w X.K X.mg X.ag BE k f fd ps sp)(hb:Lb X.K fd ps [])(hr:Dq (k+2) X.A)(rv:Bb ys its)(hl:ys.length=kss.length)(hz:its.length<=As)(h0:sh≠[])(hs:∀ks∈kss,ks.map CC=sh)(I:AY X ((U,CZ "list" #[] 0)::(a,CZ "list" #[] Z)::pins) σ H s)(hka:U≠a)(L:Po X ((a,CZ "list" #[] Z)::pins) U)(g:Po X pins a)(turn:∀(i:Nat)y ks H1,ys[i]?=AA y->kss[i]?=AA ks->Aj H H1->sp [y] H1 (λv H2=>Aj H1 H2/\∃q,v=.ref q/\CB X.K H2 q (ks.map Az)) Ml)(h:∀H1 s' out c(qs:List (AB×List AL)),Aj H H1->AY X pins σ H1 s'->s'.heap.get? a=AA (CZ "list" out c)->H1 a=AG->out.size<=As->qs.Perm (ys.zip kss)->Bb (qs.map (·.1)) out.toList->(qs.map (·.2)).Pairwise (λa b=>BK b a=AQ)->P (.done (.ret .none)) s'):Aw (Av X.af X.w) X.A.in1.in1 (ksk_rest a (.ref f) AQ its.toArray Z (.ref U)) P E s:=by
  have hy:=rv.ai;unfold ksk_rest;refine Ay (MM ?_);first |rw[List.forIn_toArray]|(rw[<-Array.forIn_toList];simp only[List.toList_toArray])|rw[<-Array.forIn_toList]
  refine Ay (ksk_fold (λi s'=>∃H1 D e,Aj H H1/\AY X ((U,CZ "list" D e)::(a,CZ "list" #[] Z)::pins) σ H1 s'/\VP X.K H1 D.toList (kss.take i)) its 0 s ⟨H,#[],0,DF _,I,rfl,λi u ks Z=>by simp at Z⟩ ?gh ?rq);case gh=>
    intro j x s' hx r;lk;obtain⟨H1,D,e,sm,W,Y⟩:=r;k_in;simp only[Nat.zero_add]at Y⊢;have hj:j<its.length:=(by grind);have M:j<ys.length:=Bl hj (Bq hy.symm);have hjk:j<kss.length:=by simp_all
    lk;obtain⟨u0,N,ry⟩:=rv.se (CG M);rw[hx]at N;cases N;k_in;have K:kss[j]?=AA kss[j]:=CG hjk;have S:=turn j ys[j] kss[j] H1 (CG M) K sm;have lk:=Y.1;rw[MN,EH]at lk;have hl1:([x]:List AK).length=ps.length:=F.bh _ _ _ _ S;refine Ay (ACx (gZ (Ts (F.acd X.A.in1.in1 X.cw s' H1 ⟨[x],[]⟩ [x] [ys[j]] _ Ml hr.abq.abq W.aap.abq.abq (by have:=hb s' [x] W.my (by simpa using hl1);simpa using this) (.cons ry .nil) S) λrr s2 G=>?_)));cases rr with |error ev=>exact G.elim|ok fl=>cases fl with |next=>exact HY G|brk=>exact HY G|cont=>exact HY G|ret u=>
        lk;obtain⟨v,H2,I2,rv2,R,q,rfl,eq⟩:=W.yx G;cases(show u=DM q from rv2);have T:=I2.um.1;have s1:=Wm s2.heap U (ES (·.push (.ref q)));obtain⟨d,t⟩:∃d,(s2.heap.update U (ES (·.push (.ref q)))).get? U=AA (CZ "list" (D.push (.ref q)) d):=⟨_,We T (·.push (.ref q))⟩;k_in;try dsimp only
        refine Ay (Qf T rfl ?_ (by lia) (by grind));refine CN ⟨rfl,H2,D.push (.ref q),d,sm.aa R,(I2.zp (t':=s2.toks) L s1 t (λv z=>by cases z)),?_,λi u ks l n=>?_⟩;.grind
        . rw[ADU]at l;rw[DH,K]at n;by_cases hi:i<D.toList.length
          . rw[Jt hi]at l;rw[Jt (by simp_all)]at n;lk;obtain⟨q',w1,w2⟩:=Y.2 i u ks l n;k_in;exact⟨q',w1,wI R w2⟩
          grind
  case rq=>
    intro s' r;lk;obtain⟨H1,D,e,sm,W,Y⟩:=r;k_in;rw[Dj (by simp_all)]at Y;have T:=W.um.1;have na0:=W.wg.um.2.1;try dsimp only
    refine Ay (AB7 T rfl ?_);have hk:D.size=its.length:=by have:=Y.1;simp_all
    have hzs:(D.zip its.toArray).size=its.length:=by(simp[*])
    have fin:∀st:Ce,(Am st).Perm (D.zip its.toArray)->DN (O:=HP) (Hy s'.heap) (Am st) 0 (Am st).size->NK st=AG->Aw (Av X.af X.w) X.A.in1.in1 (AB6 a AQ Z (.ref U) st) P E s':=λst p u fl=>AAl rv hz h0 hs hl W hka L g Y p u fl (by grind);unfold ksk_end;try dsimp only
    simp only[LP,AHa];by_cases h2:its.toArray.size<2
    . rw[AHT h2,AHT h2];refine Ay (CN ?_);rw[AGO];refine Ay (CN ?_);try dsimp only
      refine fin _ (Wx _) (λi j _ q1 q2=>?_) rfl;rw[hzs]at q2;rw[Gj]at h2;obtain rfl:i=j:=by lia
      exact NJ _
    . rw[AHS h2,AHS h2];rw[Gj]at h2;have sv:=Y.ya W h0 hs;lk;obtain⟨κ,kk,C⟩:=sv.abj (prog:=X.af) (w:=X.w) (A:=X.A.in1.in1) (s:=s') (by rw[MN];exact Ag (F4 h2) (Bq hk.symm)) λa o items m _ e _ _=>e;k_in;rw[iP]at kk;have C':F5 X.af X.w X.A.in1.in1 s' κ HP (Hy s'.heap) (D.zip its.toArray):=⟨λp hp q G Q E z=>by have m1:p.1∈D.toList:=bG (kvs:=D.toList) (its:=its) (by assumption);have m2:q.1∈D.toList:=bG (kvs:=D.toList) (its:=its) (by assumption);exact C.adq (p.1,p.1) (by rw[Wf];exact WB m1) (q.1,q.1) (by rw[Wf];exact WB m2) Q E z⟩;refine Ay (kk _ _ ?_);refine Ay (IF (iJ C' (Q:=λ_ J=>Ck κ (D.zip its.toArray) J/\DN (O:=HP) (Hy s'.heap) (Am J) 0 (D.zip its.toArray).size) ⟨Wx _,rfl,rfl⟩ rfl λJ B u=>⟨B,u⟩) ?_ λ_ _ e=>e);rintro⟨⟨⟩,J⟩s2⟨rfl,B,u⟩;try dsimp only
      exact fin J B.jo (by rw[B.jo.size_eq];exact u) B.jg
end
theorem AY.yw(I:AY X D O H s)(f:Jf X D H a)(P:X.s₀.heap.get? a=AG)(U:C8 X.af X.w (AR H a o) s.heap a o):AY X D O (AR H a o) s:=by
 lk;obtain⟨G,E,_,_,F,K⟩:=f;k_in;have J:∀b o,H b=AA o->b≠a:=(by grind);refine⟨I.ok,I.os,I.il,⟨I.ag.ab,I.ag.su,λb o C n L=>?_,I.ag.gc,λb N z=>?_,λb o u z=>?_,λb M z=>?_⟩,I.wq,I.kj,?_,λx c z=>?_,λp q=>?_,I.bj.yw G U,I.bh⟩;. have q:b≠a:=(by grind);rw[Aa q];exact I.ag.az b o C n L
 .have:=I.ag.vc b N z;rw[Aa (J _ _ this)];assumption
 .have:=I.ag.qz b o u z;rw[Aa (J _ _ this)];assumption
 .obtain⟨V,q⟩:=I.ag.vb b M z;exact⟨_,by rw[Aa (J _ _ q)];exact q⟩
 .rw[Aa E.symm];exact I.az
 .rw[Aa (F x c z)];exact I.gy x c z
 . lk;obtain⟨W,Y,Z,A,B⟩:=I.sj p q;k_in;exact⟨W,by rw[Aa (K p q)];exact Y,Z,A,B⟩
def ZY(K:BB)(sp:BF)(H:AI)(ys:List AB)(kss:List (List AL)):Prop:=ys.length=kss.length/\(∃W:List Bool,W≠[]/\∀D∈kss,D.map CC=W)/\∀(i:Nat)y D J,ys[i]?=AA y->kss[i]?=AA D->Aj H J->sp [y] J (λv U=>Aj J U/\∃q,v=.ref q/\CB K U q (D.map Az)) Ml
theorem AAm(F:Gr X.af X.w X.K X.mg X.ag BE k f fd ps sp)(hb:Lb X.K fd ps [])(hr:Dq (k+2) X.A)(I:AY X U r H s)(hq:CO X.K H p ys)(kb:ZY X.K sp H ys kss)(q:∀l(L:List (AB×List AL))K,Aj H K->K l=AG->L.Perm (ys.zip kss)->(L.map (·.2)).Pairwise (λa b=>BK b a=AQ)->Q (.ref l) (AR K l (.lst (L.map (·.1))))):Aw (Av X.af X.w) X.A (Il (.builtin "sorted") [.ref p] [(MK "key",.ref f)]) (Ee X U r Q) E s:=by
  lk;obtain⟨hl,⟨sh,h0,hs⟩,turn⟩:=kb;obtain⟨D,y,pl,S⟩:=I.fw hq;k_in;have W:=y.ai;have h:=pl.isList;refine call_function_entry_kw kind_sorted plain_sorted entry_sorted (ksk_s1 _ _) ?_;unfold Builtin.«sorted»;refine Ay (m:=checkCount "sorted" 1 1 _) (CN ?_);refine Ay (collect_list h ?_ (Ag (Bq W.symm) S));refine Ay (hU ?_ (Ag (Bq W.symm) S));have C:((s.heap.push (CZ "list" #[] 0)).update s.heap.objs.size (ES (.++D.toArray))).objs.size=s.heap.objs.size+1:=by simp_all
  have B:(((s.heap.push (CZ "list" #[] 0)).update s.heap.objs.size (ES (.++D.toArray))).push (CZ "list" D.toArray 0)).get? (s.heap.objs.size+1)=AA (CZ "list" D.toArray 0):=by rw[<-C];exact ER _ rfl
  have u:∀b o,s.heap.get? b=AA o->(((s.heap.push (CZ "list" #[] 0)).update s.heap.objs.size (ES (.++D.toArray))).push (CZ "list" D.toArray 0)).get? b=AA o:=λb o e=>Ca _ ((ACP _ _ _ _ (Dv (Cb e))).trans (Ca _ e));rw[C];refine Ay (Qz (wpAny_call_entry_kw AEm ⟨_,B,rfl⟩ AEZ ?body (ksk_l1 _ _)));case body=>
    have j:=ksk_t1 f (s.heap.objs.size+1);rw[j];generalize hg:(((s.heap.push (CZ "list" #[] 0)).update s.heap.objs.size (ES (.++D.toArray))).push (CZ "list" D.toArray 0))=g at B u⊢;have d:g.objs.size=s.heap.objs.size+2:=by rw[<-hg,size_push',C]
    have s1:=Wm g (s.heap.objs.size+1) (ES λ_=>(#[]:Array AK));lk;obtain⟨M,R⟩:∃M,(g.update (s.heap.objs.size+1) (ES λ_=>(#[]:Array AK))).get? (s.heap.objs.size+1)=AA (CZ "list" #[] M):=⟨_,We B λ_=>#[]⟩;k_in;have O:((g.update (s.heap.objs.size+1) (ES λ_=>(#[]:Array AK))).push (CZ "tuple" D.toArray 0)).objs.size=s.heap.objs.size+3:=by simpa using d
    have n:∀b o,s.heap.get? b=AA o->(((g.update (s.heap.objs.size+1) (ES λ_=>(#[]:Array AK))).push (CZ "tuple" D.toArray 0)).push (CZ "list" #[] 0)).get? b=AA o:=λb o e=>Ca _ (Ca _ ((s1.2 b (Dv (ABo (Cb e)))).trans (u b o e)));have A:Jf X U H (s.heap.objs.size+1):=I.pj (TX _) (I.bj.ax (TX _));have Y:Jf X U H (s.heap.objs.size+3):=I.pj (Qa _ 3) (I.bj.ax (Qa _ 3));have t:AY X U r H {s with heap:=((g.update (s.heap.objs.size+1) (ES λ_=>(#[]:Array AK))).push (CZ "tuple" D.toArray 0)).push (CZ "list" #[] 0),toks:=s.toks}:=I.ff n;have gA:(((g.update (s.heap.objs.size+1) (ES λ_=>(#[]:Array AK))).push (CZ "tuple" D.toArray 0)).push (CZ "list" #[] 0)).get? (s.heap.objs.size+1)=AA (CZ "list" #[] M):=Ca _ (Ca _ R);have gK:(((g.update (s.heap.objs.size+1) (ES λ_=>(#[]:Array AK))).push (CZ "tuple" D.toArray 0)).push (CZ "list" #[] 0)).get? (s.heap.objs.size+3)=AA (CZ "list" #[] 0):=by rw[<-O];exact ER _ rfl
    have J:AY X ((s.heap.objs.size+3,CZ "list" #[] 0)::(s.heap.objs.size+1,CZ "list" #[] M)::U) r H {s with heap:=((g.update (s.heap.objs.size+1) (ES λ_=>(#[]:Array AK))).push (CZ "tuple" D.toArray 0)).push (CZ "list" #[] 0),toks:=s.toks}:=by
      refine t.gm λx Z=>?_;rcases BY.mp Z with rfl|Z;.exact⟨gK,Y.1,Y.2.1,Y.2.2.1,λv z=>by cases z⟩
      . rcases BY.mp Z with rfl|Z;.exact⟨gA,A.1,A.2.1,A.2.2.1,λv z=>by cases z⟩
        .exact t.sj x (EO _ Z)
    unfold ksk_tree;refine Ay (AB7 B rfl ?_);refine Ay (Qf B rfl ?_ (Ag (Bq W.symm) S) (Bm _));refine Ay (Wg R rfl ?_);refine Ay (AGH ?_ (Ag (Bq W.symm) S));refine Ay (hU ?_ (Bm _));refine Qz ?_;have P:(s.heap.objs.size+3:AE)≠s.heap.objs.size+1:=(by simp);have T:Po X ((s.heap.objs.size+1,CZ "list" #[] M)::U) (s.heap.objs.size+3):=⟨Y.2.2.2.1,Y.2.2.2.2.1,λx Z=>by
      rcases C1.mp Z with Z|Z;.exact Y.2.2.2.2.2 x (Ic _ Z)
      . rcases BY.mp Z with rfl|Z;.exact P.symm
        .exact Y.2.2.2.2.2 x (EO _ Z)⟩;rw[O];refine AAk F hb hr y hl (Ag (Bq W.symm) S) h0 hs J P T A.2.2.2 turn λK s' G c L sm J' g1 w z1 w1 w2 w3=>⟨_,rfl,CN ⟨_,rfl,?_⟩⟩;have N:Jf X U K (s.heap.objs.size+1):=⟨w,A.2⟩;have i:X.s₀.heap.get? (s.heap.objs.size+1)=AG:=AFH (Ag I.sz (TX _));refine⟨.ref (s.heap.objs.size+1),_,J'.yw (o:=.lst (L.map (·.1))) N i ⟨?_,G.toList,c,w2,by assumption⟩,rfl,q _ L K sm w w1 w3⟩;have l0:G.toList.length=G.size:=MN;have l1:=w2.ai;exact AHh l1 z1
def ABE(K:BB)(sp:BF)(t:BH):BH:=λZ H Q=>t Z H λv U=>P1 (λ(a:AE)(J:List AB)(D:List (List AL))=>v=.ref a) (λa J _=>CO K U a J) (λ_ J D=>ZY K sp U J D) (λa J D=>∀l(Y:List (AB×List AL))W,Aj U W->W l=AG->Y.Perm (J.zip D)->(Y.map (·.2)).Pairwise (λa b=>BK b a=AQ)->Q (.ref l) (AR W l (.lst (Y.map (·.1)))))
theorem SS(E:DE P w H h)(e:H d=AA (.frz o (.dK kvs)))(Y:o.data=.dict W ep):∃vs,Gs kvs vs/\h.DictAt (FK P w) d vs ep:=by lk;obtain⟨Z,z,F,vs,U,G,B,A,J,C,D,r⟩:=(show C8 P w H h d _ from E d _ e);rw[Z]at J;cases J;rw[Y]at D;cases D;k_in;exact⟨vs,U,o,W,Z,C,Y,r⟩
theorem AAB{K:BB}(W:Ar X e J)(V:Jy e f X.ae (BX e X.ae)=BX e X.ae)(U:X.K=K:=by rfl):Ar X (.Attribute e f D) (V7 K J f):=by subst U;exact bO W V
noncomputable instance ADO(k:AL):∀L:List AL,Decidable (k∈L)|[]=>.isFalse (by simp)|x::L=>if h:k=x then .isTrue (by simp[h])else match ADO k L with|.isTrue h2=>.isTrue (by simp[h2])|.isFalse h2=>.isFalse (by simp[h,h2])
def Py(h:BW)(u:AK)(ks:List AL)(U:List AE):Prop:=∃a o D m J,u=.ref a/\h.get? a=AA o/\o.cls=.type "tuple"/\o.data=.seq D m/\D.toList=J++U.map DM/\J.map BO=ks/\∀v∈J,Dt v
def wJ(h:BW)(V:List AE)(U:List AL)(J:List AE)(D:List AL):Prop:=(V=J/\U=D)\/∃(p q:AE)(Y W:List Int),V=[p]/\J=[q]/\U=Y.map Cd/\D=W.map Cd/\Hv h (.ref p) U/\Hv h (.ref q) D
abbrev IU:=List AL×List AE×List AL
noncomputable def Jg(d:IU):List AL:=d.1++d.2.2
structure VT(h:BW)(vs:List AK)(ds:List IU)(sh:List Bool):Prop where
 bh:vs.length=ds.length
 hn:sh≠[]yr:∀(i:Nat)u d,vs[i]?=AA u->ds[i]?=AA d->Py h u d.1 d.2.1/\d.1.map CC=sh
 adx:∀(i j:Nat)d e,ds[i]?=AA d->ds[j]?=AA e->d.1=e.1->wJ h d.2.1 d.2.2 e.2.1 e.2.2
theorem Z6:∀{V J:List AK}{U D:List AE},(∀v∈V,Dt v)->(∀v∈J,Dt v)->V++U.map DM=J++D.map DM->V=J/\U=D
 |[],[],U,D,_,_,e=>⟨rfl,by exact(List.map_inj_right (by simp)).mp e⟩|[],v::J,U,D,_,h,e=>by cases U with|nil=>cases e|cons r U=>
  injection e with W _;have:=h v Ci;rw[<-W]at this;exact this.elim|v::V,[],U,D,h,_,e=>by cases D with|nil=>cases e|cons r D=>
  injection e with W _;have:=h v Ci;rw[W]at this;exact this.elim|v::V,B::J,U,D,h,Z,e=>by injection e with W Y;obtain⟨a,b⟩:=Z6 (λA u2=>h _ (G0 u2)) (λA u2=>Z _ (G0 u2)) Y;simp_all
theorem Py.yr(t:Py h u ks Z)(t':Py h u D J):ks=D/\Z=J:=by lk;obtain⟨a,o,V,m,I,rfl,e,_,d,l,k,f⟩:=t;obtain⟨E,H,U,G,C,q,Y,_,W,B,F,A⟩:=t';k_in;injection q with q;subst q;rw[e]at Y;lk;cases Y;rw[d]at W;cases W;obtain⟨x,y⟩:=Z6 f A (l.symm.trans B);k_in;simp_all
theorem Hv.yr(t:Hv h u ks)(t':Hv h u D):ks=D:=t.kf.symm.trans t'.kf
noncomputable def Sa(vs:List AK)(kss:List (List AL))(u:AK):List AL:=by classical exact if D:∃J,(u,J)∈vs.zip kss then D.choose else[]
theorem VT.kf(x:VT h vs D sh):∀(i:Nat)u d,vs[i]?=AA u->D[i]?=AA d->Sa vs (D.map Jg) u=Jg d:=by
 intro i u d Y U;have B:∃C,(u,C)∈vs.zip (D.map Jg):=⟨Jg d,WM.mpr ⟨i,(by grind)⟩⟩;unfold Sa;lk;obtain⟨j,A⟩:=WM.mp B.choose_spec;obtain⟨Z,V⟩:=L6.mp A;rw[Bo]at V;obtain⟨J,W,E⟩:=EK.mp V;obtain⟨a,b⟩:=(x.yr i u d Y U).1.yr (x.yr j u J Z W).1;k_in;have F:d.2.2=J.2.2:=by
  rcases x.adx i j d J U W a with⟨_,q⟩|⟨p,q,_,_,r1,r2,_,_,t1,t2⟩;.exact q
  . rw[b,r2]at r1;injection r1 with r1;subst r1;exact t1.yr t2
 grind
theorem aN:∀(xs ys:List AK)(zs D:List AK)(i:Nat),(∀v∈xs,Dt v)->(∀v∈ys,Dt v)->xs.map (λv=>CC (BO v))=ys.map (λv=>CC (BO v))->(xs.map BO=ys.map BO->∀j,i+xs.length<=j->gF prog w A b fin Q (zs.zip D) j s)->(xs.map BO≠ys.map BO->Q (BK (xs.map BO) (ys.map BO)) s)->gF prog w A b fin Q ((xs++zs).zip (ys++D)) i s
 |[],[],zs,D,i,_,_,_,h,_=>(by(simp[*]))|[],_::_,_,_,_,_,_,e,_,_=>by cases e|_::_,[],_,_,_,_,_,e,_,_=>by cases e|x::xs,y::ys,zs,D,i,Y,Z,e,h,W=>by
  obtain⟨J,B⟩:=EG e;have U:=Y x Ci;have V:=Z y Ci;refine gL (Vf U V J (ACc (λq=>?_) λq=>?_))
  . refine ACf (aN xs ys zs _ _ (λC u2=>Y _ (G0 u2)) (λC u2=>Z _ (G0 u2)) B (by grind) λz=>?_);have:=W (by simp_all);rw[EI,EI,BK]at this;simp_all
  . have q:=AHc q;have:=W (by simp_all);rw[EI,EI,BK,AHS q]at this;exact ACd (aR _ U V J this)
theorem aO:∀(D:List AE)(i:Nat),Q AQ s->gF prog w A b AQ Q ((D.map DM).zip (D.map DM)) i s|[],_,h=>AFk h|r::D,i,h=>gL (AFS _ _ w _ _ (ACf (aO D _ h)))
theorem aL:∀{ks D xs ys:List AL},ks.length=D.length->BK (ks++xs) (D++ys)=if ks=D then BK xs ys else BK ks D|[],[],_,_,_=>by rfl|[],_::_,_,_,e=>by cases e|_::_,[],_,_,e=>by cases e|k::ks,l::D,xs,ys,e=>by have J:=aL (xs:=xs) (ys:=ys) (AED.mp e);show(if k=l then BK _ _ else Co k l)=if k::ks=l::D then BK xs ys else(if k=l then BK ks D else Co k l);(split<;>simp_all)
theorem V0:∀{D:List AK},(∀v∈D,Dt v)->∃as,ReadsAll h D ((D.map BO).map aG) as
 |[],_=>⟨_,.nil⟩|v::D,f=>by
  obtain⟨as,r⟩:=V0 (λw hw=>f w (D5 _ hw));have J:=f v Ci;cases v<;>first|exact J.elim|skip
  .exact⟨_,.cons (.int _ _) r⟩
  .exact⟨_,.cons (.str _ _) r⟩
theorem Vl:∀ns:List Int,(ns.map (Cd:Int->AL)).map aG=ns.map Og|[]=>rfl|n::ns=>by rw[EI,EI,Vl ns];rfl
theorem xX{A:DB}{s:AX}{ns J:List Int}(t1:Hv s.heap (.ref p) (ns.map Cd))(t2:Hv s.heap (.ref q) (J.map Cd))(M:A.units+64<HW):gC A s (.ref p) (.ref q) (Ab (ns=J)):=by
 lk;obtain⟨a,o,W,m,V,e,c,d,k,f⟩:=t1;obtain⟨I,O,U,N,D,F,C,E,H,G⟩:=t2;k_in;injection V with V;injection D with D;subst V D;lk;obtain⟨Z,r⟩:=V0 f;obtain⟨B,Y⟩:=V0 G;k_in;rw[k,Vl]at r;rw[H,Vl]at Y;have:=SeqAt.eqAt_reads _ _ A s _ _ Z _ (.tuple e c d r) (.tuple F C E Y) (by simp[ACS,(Sb ns).1]) (by simp[ACS,(Sb J).1]) (by
  have L:(PyData.tuple (ns.map Og)).depth<=1:=by simp[AFN,(Sb ns).2]
  lia);have K:AFP (.tuple (ns.map Og)) (.tuple (J.map Og))=Ab (ns=J):=by exact Z5 ns J
 simp_all
theorem y6{A:DB}{s:AX}{ns W:List Int}(t1:Hv s.heap (.ref p) (ns.map Cd))(t2:Hv s.heap (.ref q) (W.map Cd))(P:A.units+64<HW)(h:Q (BK (ns.map Cd) (W.map Cd)) s):Aw (Av prog w) A (oneLt' AQ (.ref p) (.ref q)) Q E s:=by
 lk;obtain⟨a,o,D,m,B,e,c,d,k,f⟩:=t1;obtain⟨g,X,J,T,U,K,F,H,R,O⟩:=t2;k_in;injection B with B;injection U with U;subst B U;lk;obtain⟨M,N,I,b⟩:=o;obtain⟨G,Z,Y,C⟩:=X;k_in;simp only at c d F H;subst c d F H;have V:∀(l:List Int)(i:Nat)(z:AL),(l.map (Cd:Int->AL))[i]?=AA z->CC z=AJ:=λl i z L=>by rw[Bo]at L;obtain⟨n,_,rfl⟩:=EK.mp L;rfl
 have S:R6 D.toList J.toList D.size J.size (BK (ns.map Cd) (W.map Cd)):=by refine⟨⟨D.toList,[],by simp,.inl rfl,f,O,λi x y j r=>?_,by rw[k,R]⟩,eG _ _⟩;rw[V ns i (BO x) (by grind),V W i (BO y) (by grind)]
 refine ACe _ _ ?_;exact gU (op:=.Lt) ⟨_,e,rfl⟩ ⟨_,K,rfl⟩ AFD AE5 (by rfl) (dA p q _ _ m T N Z b C _ S) ⟨e,K,⟨(by simp),h⟩⟩ (WU P)
theorem VT.abj(x:VT h vs X sh)(B:A.units+64<HW)(h2:2<=vs.length)(kp:∀a o D m,h.get? a=AA o->o.cls=.type "tuple"->o.data=.seq D m->s.heap.get? a=AA o):∃κ,(∀(Q:Qd->AX->Prop)(E:AK->AX->Prop),Q κ s->Aw (Av prog w) A (fH vs.toArray) Q E s)/\F5 prog w A s κ HP (Sa vs (X.map Jg)) (Jw vs):=by
  have mp:∀p∈(Jw vs).toList,p.1∈vs:=λp N=>by rw[Wf]at N;exact(AB9 N).2
  have kn:∀{u K rs},Py h u K rs->Py s.heap u K rs:=λ⟨a,o,D,m,U,b,e,c,d,r⟩=>⟨a,o,D,m,U,b,kp a o D m e c d,c,d,r⟩;have R:∀{u K},Hv h u K->Hv s.heap u K:=λ⟨a,o,D,m,b,e,c,d,r⟩=>⟨a,o,D,m,b,kp a o D m e c d,c,d,r⟩;have Y:∀u∈vs,∃(i:Nat)(d:IU),vs[i]?=AA u/\X[i]?=AA d:=λu B=>Lq x.bh B;refine⟨tuples' AJ,λQ E q=>?_,⟨λp N q hq Q E k=>?_⟩⟩
  . have y:∀(l:List AK),(∀u∈l,u∈vs)->∃C,AFb s.heap l C/\C.length=l.length/\∀v∈C,Dt v/\CC (BO v)=sh.headD AJ:=λl=>by induction l with |nil=>exactλ_=>⟨[],trivial,rfl,λv F=>by cases F⟩|cons u l ih=> intro B;obtain⟨C,O,P,n⟩:=ih (λu1 u2=>B _ (G0 u2));obtain⟨i,d,M,H⟩:=Y u (B u Ci);obtain⟨t,z⟩:=x.yr i u d M H;obtain⟨a,o,D,m,U,rfl,e,c,Z,G,r,W⟩:=kn t;match U,G,r,W with
        |[],_,r,_=>rw[<-r]at z;exact absurd z.symm x.hn|f0::l1,G,r,W=>
          have g0:D[0]?=AA f0:=by rw[<-Oz,G];rfl
          refine⟨f0::C,AFc e c Z g0 O,AEC.mpr P,λv F=>?_⟩;grind
    lk;obtain⟨C,O,P,n⟩:=y vs λ_ h=>h;k_in;cases hh:sh.headD AJ with
    |true=> refine gM (T:=.type "int") O (AHd (GQ h2) P.symm) (λv F=>?_) (by decide) q;obtain⟨W,z⟩:=n v F;rw[hh]at z;cases v<;>first|exact W.elim|exact HX _|exact HX (show AQ=AJ from z)|exact .now
    |false=> refine gM (T:=.type "str") O (AHd (GQ h2) P.symm) (λv F=>?_) (by decide) q;obtain⟨W,z⟩:=n v F;rw[hh]at z;cases v<;>first|exact W.elim|exact HX (show AJ=AQ from z)|exact HX (show AQ=AJ from z)|exact .now
  . lk;obtain⟨i,d,M,H⟩:=Y _ (mp p N);obtain⟨j,Z,e3,f⟩:=Y _ (mp q hq);have k:Q (BK _ _) s:=k;rw[x.kf i _ d M H,x.kf j _ Z e3 f]at k;obtain⟨t,z1⟩:=x.yr i _ d M H;obtain⟨t',z2⟩:=x.yr j _ Z e3 f;obtain⟨a,o,D,m,U,u1,e,c,dd,G,r,W⟩:=kn t;obtain⟨a',o',J,m',V,u2,e',c',S,L,r',g⟩:=kn t';k_in;have es:=by
      have h1:(U.map BO).map CC=(V.map BO).map CC:=by rw[r,r',z1,z2]
      rw[Cz,Cz]at h1;exact h1
    have el:=by have:=AHU LF (z1.trans z2.symm);simpa using this
    unfold Jg at k;rw[aL el]at k;rw[u1,u2];refine AFj e dd e' S ?_;rw[G,L];have lu:U.length=d.1.length:=by rw[<-r,Au]
    have lu':V.length=Z.1.length:=by rw[<-r',Au]
    have sz1:D.size=U.length+d.2.1.length:=by rw[<-MN,G];simp
    have sz2:J.size=V.length+Z.2.1.length:=by rw[<-MN,L];simp
    have I:0<U.length:=by rw[lu];refine Nat.pos_of_ne_zero λz=>x.hn ?_;grind
    refine aN U V _ _ 0 W g es (λq j hj=>?_) λq=>?_
    . rw[r,r']at q;rw[AHT q]at k;rcases x.adx i _ d Z H f q with⟨q1,q2⟩|⟨p',q',ns,ms,r1,r2,r3,r4,t1,t2⟩;. rw[AHW (by rw[sz1,sz2,lu,lu',el,q1];exact JN _),q1];rw[q2,Lp]at k;exact aO _ _ k
      . rw[AHW (by(simp[*])),r1,r2];rw[r3]at t1;rw[r4]at t2;rw[r3,r4]at k;refine gL (xX (R t1) (R t2) B prog w _ _ (ACc (λz=>?_) λz=>?_))
        . have z:=AHX z;rw[z,Lp]at k;assumption
        . refine ACd ?_;have j0:(j==0)=AQ:=by simp;exact NG (Bl I (TV hj))
          rw[j0,ADW];exact y6 (R t1) (R t2) B k
    simp_all
def SF(K:BB)(H:AI)(xs:List AB)(D:List IU)(sh:List Bool):Prop:=sh≠[]/\Bf (λx(d:IU)=>(∃a,x=.ref a/\CB K H a (d.1.map Az++d.2.1.map AB.ref))/\d.1.map CC=sh) xs D/\∀(i j:Nat)d e,D[i]?=AA d->D[j]?=AA e->d.1=e.1->(d.2.1=e.2.1/\d.2.2=e.2.2)\/∃(p q:AE)(U J:List Int),d.2.1=[p]/\e.2.1=[q]/\d.2.2=U.map Cd/\e.2.2=J.map Cd/\CB K H p (U.map AB.int)/\CB K H q (J.map AB.int)
theorem cE:∀{D:List AE}{J:List AK},Bb (D.map AB.ref) J->J=D.map DM|[],_,h=>by cases h;rfl|r::D,_,h=>by cases h with|cons U W=>cases U;rw[cE W];rfl
theorem c9(I:AY X J E H s){ns:List Int}(h:CB X.K H p (ns.map AB.int)):Hv s.heap (.ref p) (ns.map Cd):=by
 have U:CB X.K H p ((ns.map (Cd)).map Az):=by rw[Cz];exact h
 lk;obtain⟨D,A,⟨o,Z,W,n,Y⟩,_⟩:=I.de U;obtain⟨B,C⟩:=K5 A;k_in;exact⟨p,o,_,n,rfl,Z,W,Y,by assumption,by assumption⟩
theorem SF.aaz(I:AY X E v H s)(h:SF X.K H xs W sh)(r:Bb xs its):VT s.heap its W sh:=by
  lk;obtain⟨P,p,U⟩:=h;have O:=r.ai;obtain⟨L,M⟩:=Cn p;k_in;refine⟨O1 O.symm L,P,λi u d J D=>?_,λi j d e J D q=>?_⟩
  . have l:=(BU.mp D).1;have Y:xs[i]?=AA xs[i]:=CG _;lk;obtain⟨⟨a,K,R⟩,z⟩:=M i _ _ Y D;obtain⟨m,Z,A⟩:=r.se Y;rw[J]at Z;cases Z;rw[K]at A;obtain rfl:u=DM a:=A;obtain⟨C,f,⟨o,Q,N,n,B⟩,_⟩:=I.de R;obtain⟨g,t,rfl,k,v2⟩:=WA f;obtain⟨S,T⟩:=K5 k;k_in;rw[cE v2]at B;exact⟨⟨a,o,_,n,g,rfl,Q,N,B,by simp,S,T⟩,z⟩
  . rcases U i j d e J D q with h|⟨p,q,c,b,r1,r2,F,G,t1,t2⟩;.exact .inl h
    .exact .inr ⟨p,q,c,b,r1,r2,F,G,by rw[F];exact c9 I t1,by rw[G];exact c9 I t2⟩
theorem xB{K:BB}(M:Dq k X.A)(G:X.K=K:=by rfl):EV X (.builtin "sorted") (λxs H Q=>∃(p:AE)(ys:List AB)(J:List IU)(sh:List Bool),xs=[.ref p]/\CO K H p ys/\SF K H ys J sh/\∀l(U:List (AB×List AL)),H l=AG->U.Perm (ys.zip (J.map Jg))->(U.map (·.2)).Pairwise (λa b=>BK b a=AQ)->Q (.ref l) (AR H l (.lst (U.map (·.1))))):=by
 subst G;intro B s f H xs c Q I r h;lk;obtain⟨p,ys,J,sh,rfl,L,R,q⟩:=h;obtain⟨u,rfl,P⟩:=Fz r;cases P;obtain⟨D,W,O,A⟩:=I.fw L;k_in;refine V3 I A (Zw W O A) (λD W=>?_) q;have Y:=R.aaz I W;refine⟨by rw[Au];exact Y.bh,Sa D (J.map Jg),λi u S C Z=>?_,λT N F=>Y.abj ?_ F λa o _ _ e _ _=>N a o e⟩
 . rw[Bo]at Z;obtain⟨d,E,rfl⟩:=EK.mp Z;exact Y.kf i u d C E
 . have:=M.un;grind
def AA4(t u:C0):C0:=λD V H=>∀(N:Ap->AI->Prop)(r:BS)(b c:Ap->AI->Prop),(∀J U,u D J U->N J U)->t ⟨N,r,b,c⟩ V H
theorem EN{st:Cc}(V:EW X st t)(W:Gu X J u):Gu X (st::J) (AA4 t u):=λU s Y H D I h=>Ah V W _ s Y H D I (h _ _ _ _ λ_ _ z=>z)
def AA0(t:C0):C0:=λD V H=>∀(N:Ap->AI->Prop)(r:BS)(b c:Ap->AI->Prop),(∀J U,D.nx J U->N J U)->t ⟨N,r,b,c⟩ V H
theorem AAL{st:Cc}(U:EW X st t):EW X st (AA0 t):=λJ s V H D I h=>U _ s V H D I (h _ _ _ _ λ_ _ z=>z)
@[elab_as_elim]theorem Ao{H:AI}{R:AI->Prop}(D:H c=AG)(k:∀G,Aj H G->G c=AA o->R G):R (AR H c o):=k _ (C9 D) Ak
theorem A1{n:Nat}(h:n.ble m=AJ):n<=m:=(eK h)
theorem Sv(J:D.kind=.function:=by rfl)(U:D.isCoroutine=AQ:=by rfl)(V:D.isGenerator=AQ:=by rfl)(W:N.Nodup:=by decide+kernel)(Y:N.take P.length=P:=by rfl)(Z:∀x∈P,D.names.lookup x=AA .local\/D.names.lookup x=AA .cell:=by decide+kernel)(A:∀y∈D.names,y.2≠.free:=by decide+kernel):Mm N P D:=⟨J,U,V,W,Y,Z,A⟩
theorem BN(i:Nat)(U:X.N.Nodup)(V:Ar X e A)(hi:X.N[i]?=AA x:=by rfl)(Z:Lf X.ae.scope x:=by first|exact .inl rfl|exact .inr rfl)(Y:Ot e (AA (.Name x D)) J.line X.ae=Be AQ:=by rfl)(W:X.fn x=AJ\/X.ae.scope.names.lookup x=AA .local:=by first|exact .inl rfl|exact .inr rfl|assumption):EW X (.Assign [.Name x D] e J) (Sz A (Gg i)):=KN U hi Z V Y W
theorem D2(i:Nat)(D:X.N.Nodup)(hi:X.N[i]?=AA x:=by rfl)(U:Lf X.ae.scope x:=by first|exact .inl rfl|exact .inr rfl)(J:X.fn x=AJ\/X.ae.scope.names.lookup x=AA .local:=by first|exact .inl rfl|exact .inr rfl|assumption):Kx X (.Name x V) (Gg i):=Jm D hi U J
theorem OH(K:BB)(B:Ar X a E)(A:Ge X (e::V) t)(Z:X.K=K:=by rfl)(J:Jy a "append" X.ae (BX a X.ae)=BX a X.ae:=by rfl)(W:((GR D (Cj (e::V) X.ae)).all (λx=>!x.1)&&(Qp D (Qv [] X.ae)).all (λx=>x.1.isSome)&&Ab ((e::V).length+([]:List MH).length+(if([]:List MH).isEmpty then 0 else 1)<30))=AJ:=by rfl)(U:(p.endLine==D.line)=AJ:=by rfl)(C:Cj (e::V) X.ae=(AQ,BX e X.ae)::Cj V X.ae:=by rfl)(Y:(GR D (Cj V X.ae)).any (·.1)=AQ:=by rfl):Ar X (.Call (.Attribute a "append" p) (e::V) [] D) (V5 K "list" Vx E t):=GO MG ACL F.type_list_append zC B A Z J W U C Y
theorem HR(osc:Fi)(Y:List (AF×Nat))(B:Kv X D Y)(hi:FJ X (.Name x F) J wi)(O:∀C s H ex,Ky (Ds X D (x::Y.map (·.1)) C s H ex) A G)(K:∀C s H ex,Ar (Ds X D (x::Y.map (·.1)) C s H ex) Z R)(I:X.fh=AJ:=by rfl)(M:X.ae.scope=osc:=by rfl)(L:D.kind=.function:=by rfl)(V:∀y∈D.names,y.2≠.cell:=by decide+kernel)(U:∀y∈D.names,y.2=.local->D.names.lookup y.1=AA .local:=by decide+kernel)(W:∀y∈D.names,y.2=.free->osc.names.lookup y.1=AA .cell\/osc.names.lookup y.1=AA .free:=by decide+kernel)(P:D.names.lookup x=AA .local:=by rfl)(E:(x::Y.map (·.1)).Nodup:=by decide+kernel)(N:∀x,Ol J X.ae x=Be x:=by intro _;rfl):Ar X (.ListComp Z [⟨.Name x F,J,A,0⟩] D Q) (M8 1 (Y.map (·.2)) wi (Gg 0) G R):=QK Y I hi M L V U W B P E O K N
def JL(x:AB)(k:Int->Prop):Prop:=match x with|.int i=>k i|_=>False
def Mz(x:AB)(k:AE->Prop):Prop:=match x with|.ref i=>k i|_=>False
def QG(x:Option (Option AB))(k:AB->Prop):Prop:=match x with|AA (AA v)=>k v|_=>False
def aY(xs:List AB)(k:AB->Prop):Prop:=match xs with|[x]=>k x|_=>False
def Vs(xs:List AB)(k:AB->AB->Prop):Prop:=match xs with|[x,y]=>k x y|_=>False
theorem Ia(h:JL x k):∃i,x=.int i/\k i:=by cases x<;>first|exact⟨_,rfl,h⟩|exact h.elim
theorem Lu(h:Mz x k):∃i,x=.ref i/\k i:=by cases x<;>first|exact⟨_,rfl,h⟩|exact h.elim
theorem Sg(h:QG x k):∃v,x=AA (AA v)/\k v:=by match x,h with|AA (AA v),h=>exact⟨v,rfl,h⟩
theorem zK(h:aY xs k):∃x,xs=[x]/\k x:=by match xs,h with|[x],h=>exact⟨x,rfl,h⟩
theorem aZ(h:Vs xs k):∃x y,xs=[x,y]/\k x y:=by match xs,h with|[x,y],h=>exact⟨x,y,rfl,h⟩
def LA(i:Nat):BH:=λD H Q=>QG D[i]? λv=>Q v H
def Ss(C:Int->Int->Prop)(g:Int->Int->AB):EC:=λx y H Q=>JL x λi=>JL y λj=>C i j/\Q (g i j) H
def OP(g:Int->Int->AB):EC:=λx y H Q=>JL x λi=>JL y λj=>Q (g i j) H
def AAX(g:Int->AB):AB->AI->BS->Prop:=λx H Q=>JL x λi=>Q (g i) H
def AAT(K:BB):EC:=λx y H Q=>Mz x λp=>JL y λi=>Eg (λD v=>CO K H p D) (λD v=>Cr D i=AA v) (λ_ v=>Q v H)
def Vz(K:BB):EC:=λx y H Q=>Mz x λp=>JL y λi=>Eg (λD v=>CB K H p D) (λD v=>Cr D i=AA v) (λ_ v=>Q v H)
theorem zV(h:Ar X e t)(m:∀D H Q,t' D H Q->t D H Q):Ar X e t':=λJ s D H Q I w=>h _ s D H Q I (m D H Q w)
theorem Lw(h:CU X J r)(m:∀x y H Q,U x y H Q->r x y H Q):CU X J U:=λD s Y H x y v u Q I V W w=>h _ s Y H x y v u Q I V W (m x y H Q w)
theorem Vy(x y:AB)(H:AI)(Q:BS)(h:Ss C g x y H Q):OO C g x y H Q:=by lk;obtain⟨i,rfl,D⟩:=Ia h;obtain⟨j,rfl,c,q⟩:=Ia D;k_in;exact⟨i,j,rfl,rfl,c,q⟩
theorem QQ(x y:AB)(H:AI)(Q:BS)(h:OP g x y H Q):K9 g x y H Q:=by lk;obtain⟨i,rfl,D⟩:=Ia h;obtain⟨j,rfl,q⟩:=Ia D;k_in;exact⟨i,j,rfl,rfl,q⟩
theorem AD{x:AF}(i:Nat)(J:X.N[i]?=AA x:=by rfl)(V:P0 X.ae.scope x:=by first|exact Or.inl rfl|exact Or.inr (Or.inl rfl)|exact Or.inr (Or.inr rfl))(U:(x==("__debug__":AF))=AQ:=by decide)(D:(x==("__classdict__":AF))=AQ:=by decide):Ar X (.Name x W) (LA i):=zV (So J V U D) λ_ _ _ h=>have⟨v,e,q⟩:=Sg h;⟨v,e,q⟩
theorem Et:CU X (G4 .Add) (OP λi j=>.int (i+j)):=Lw bB QQ
theorem Hz:CU X (G4 .Sub) (OP λi j=>.int (i-j)):=Lw Vv QQ
theorem JM:CU X (G4 .Mult) (Ss VM λi j=>.int (i*j)):=Lw zS Vy
theorem Dg:CU X (G4 .FloorDiv) (Ss ZW λi j=>.int (i/j)):=Lw zM Vy
theorem DA:CU X (G4 .Mod) (Ss (λ_ j=>0<j) λi j=>.int (i%j)):=Lw zR Vy
theorem OF:CU X (Ek .Lt) (OP λi j=>.bl (Ab (i<j))):=Lw zP QQ
theorem M3:CU X (Ek .LtE) (OP λi j=>.bl (Ab (i<=j))):=Lw Vu QQ
theorem Sj:CU X (Ek .Gt) (OP λi j=>.bl (Ab (j<i))):=Lw bD QQ
theorem dE:SI X (unaryOp .USub) (AAX λi=>.int (-i)):=λD s U H x v Q I J h=>ABP _ s U H x v Q I J (have⟨v,e,q⟩:=Ia h;⟨v,e,q⟩)
theorem By(K:BB)(W:Ar X a E)(Y:Ar X b F)(Z:VS b:=by exactλ_ _=>rfl)(V:X.K=K:=by rfl):Ar X (.Subscript a b A) (KP (AAT K) E F):=EY (λa b D s L H x y v u Q I B C h=>Lm V a b _ s L H x y v u Q I B C (by lk;obtain⟨p,rfl,h⟩:=Lu h;obtain⟨i,rfl,G,w,J,U,q⟩:=Ia h;k_in;exact⟨p,G,i,w,rfl,rfl,J,U,q⟩)) W Y Z
theorem BA(K:BB)(W:Ar X a E)(Y:Ar X b F)(Z:VS b:=by exactλ_ _=>rfl)(V:X.K=K:=by rfl):Ar X (.Subscript a b A) (KP (Vz K) E F):=EY (λa b D s L H x y v u Q I B C h=>JK V a b _ s L H x y v u Q I B C (by lk;obtain⟨p,rfl,h⟩:=Lu h;obtain⟨i,rfl,G,w,J,U,q⟩:=Ia h;k_in;exact⟨p,G,i,w,rfl,rfl,J,U,q⟩)) W Y Z
theorem SO(J:X.fh=AJ):EV X (.builtin "max") (λxs H Q=>Vs xs λx y=>JL x λi=>JL y λj=>Q (.int (if j>i then j else i)) H):=λD s V H xs U Q I r h=>wY J _ s V H xs U Q I r (by lk;obtain⟨x,y,rfl,h⟩:=aZ h;obtain⟨i,rfl,h⟩:=Ia h;obtain⟨j,rfl,q⟩:=Ia h;k_in;exact⟨i,j,rfl,q⟩)
theorem Zs(J:X.fh=AJ):EV X (.builtin "min") (λxs H Q=>Vs xs λx y=>JL x λi=>JL y λj=>Q (.int (if j<i then j else i)) H):=λD s V H xs U Q I r h=>w4 J _ s V H xs U Q I r (by lk;obtain⟨x,y,rfl,h⟩:=aZ h;obtain⟨i,rfl,h⟩:=Ia h;obtain⟨j,rfl,q⟩:=Ia h;k_in;exact⟨i,j,rfl,q⟩)
theorem Fc{K:BB}(J:X.K=K:=by rfl):EV X (.builtin "len") (λxs H Q=>aY xs λx=>Mz x λp=>∃ys,(CO K H p ys\/CB K H p ys)/\Q (.int ys.length) H):=λD s V H xs U Q I r h=>Zq J _ s V H xs U Q I r (by lk;obtain⟨x,rfl,h⟩:=zK h;obtain⟨p,rfl,ys,h,q⟩:=Lu h;k_in;exact⟨p,ys,rfl,h,q⟩)
theorem AY.adm(I:AY X D Y H s)(e:H a=AA (.frz o u))(n:∀o u,X.H₀ a≠AA (.frz o u)):AY X D Y (AR H a u) s:=by
  have J:∀{b},H b=AG->b≠a:=(by grind);refine⟨I.ok,I.os,I.il,⟨I.ag.ab,I.ag.su,λb o q h C=>?_,I.ag.gc,λb W q=>?_,λb o u q=>?_,λb E q=>?_⟩,I.wq,I.kj,by rw[Aa (J I.az)];exact I.az,λx c q=>by rw[Aa (J (I.gy x c q))];exact I.gy x c q,λp B=>?_,λb v q=>?_,I.bh⟩;. have:=I.ag.az b o q h C;rw[Aa (J this)];assumption
  . have:=I.ag.vc b W q;rw[Aa (by grind)];assumption
  . have:=I.ag.qz b o u q;rw[Aa (by grind)];assumption
  . obtain⟨m,this⟩:=I.ag.vb b E q;exact⟨m,by rw[Aa (by grind)];assumption⟩
  . lk;obtain⟨Z,U,A⟩:=I.sj p B;k_in;exact⟨Z,by rw[Aa (J U)];exact U,A⟩
  . have V:∀{v},C8 _ _ H _ b v->C8 X.af X.w (AR H a u) s.heap b v:=λh=>h.uy (λG u2 u3 F=>F) (λc q=>by rw[Aa (by grind)];exact q) λc W q=>by rw[Aa (by grind)];exact q
    by_cases z:b=a
    . subst z;rw[Ak]at q;cases q;exact V (I.bj b _ e).2
    . rw[Aa z]at q;exact V (I.bj b v q)
set_option tactic.hygienic true in theorem bV{X:Bv}{st:Cc}{t:C0}(h:EW X st t):EW X st (λD σ H=>∃a,(∀o u,H a≠AA (.frz o u))/\t {D with nx:=λJ H'=>∃o u,H' a=AA (.frz o u)/\D.nx J (AR H' a u)} σ H):=by intro pins s σ H D I⟨a,V,w⟩;have W:=λo u z=>V o u (I.ag.qz _ _ _ z);refine BI (h _ s σ H _ I w) λf s' q=>?_;cases f with|next=>lk;obtain⟨J,H',U,o,u,e,q⟩:=q;k_in;exact⟨J,_,U.adm e W,q⟩|brk=>exact q|cont=>exact q|ret u=>exact q
noncomputable def Ny(o:BP)(kvs:List (AL×AB))(d:AE):Es:=⟨λi H=>H d=AA (.frz o (.dK kvs))/\i<kvs.length,λi H x D=>D=H/\∃p,kvs[i]?=AA p/\x=p.2,λi H=>H d=AA (.frz o (.dK kvs))/\kvs.length<=i⟩
theorem ABI{K:BB}(d it:AE)(l:o.data=.dict v ep):K0 P w K tg (Ny o kvs d) [it] it (λi h=>h.IsValIter it d i kvs.length ep)where
 zw:=by simp
 bb:=λi h D b g=>by lk;obtain⟨o,e,c,d⟩:=D;k_in;simp_all
 ab:=λi h f D k=>by lk;obtain⟨o,e,r⟩:=D;k_in;exact⟨o,(k _ Ci _ e),r⟩
 si:=by intro X N hw M j i Z s σ H E I O D Q;subst N hw M;lk;obtain⟨e,R⟩:=Q;obtain⟨A,J,U⟩:=SS I.bj e l;k_in;have Y:=KZ J;have T:A[i]?=AA (A[i]'(by simp_all)):=(by simp);have S:kvs[i]?=AA kvs[i]:=(by simp);have a:=Sn J S T;generalize kvs[i]=p at S a;generalize A[i]'(Bl R (Bq Y))=q at T a;lk;obtain⟨k,x⟩:=q;obtain⟨B,C,y,F,G,L⟩:=O it (by simp);k_in;rw[Y]at D;refine wpAny_pyNext_values_item D U T λf W z=>?_;have m:=I.cb (t':=s.toks) (λb o g e=>(z.2 b g).trans e) B C F G L;lk;obtain⟨o',u,n,t⟩:=id W;k_in;rw[<-Y]at W;exact⟨x,rfl,Mu u n t (by decide) ⟨p.2,H,m,a.2,⟨rfl,p,S,rfl⟩,W,(by(simp[*]))⟩⟩
 rq:=by intro X N hw M j i Z s σ H E I O D Q;subst N hw M;lk;obtain⟨e,R⟩:=Q;obtain⟨A,J,U⟩:=SS I.bj e l;have Y:=KZ J;obtain⟨B,C,y,F,G,L⟩:=O it (by simp);k_in;rw[Y]at D;exact wpAny_pyNext_values_end (I.ok.hd j) D U (TN.mpr (Ag (Bq Y.symm) R)) λf eb=>⟨rfl,I.cb (by assumption) B C F G L⟩
 ux:=λ_ _ _ _ _ D h=>wpAny_pyIter_valiter D h
noncomputable def Nx(o:BP)(kvs:List (AL×AB))(d:AE):Es:=⟨λi H=>H d=AA (.frz o (.dK kvs))/\i<kvs.length,λi H x D=>∃r p,kvs[i]?=AA p/\x=.ref r/\H r=AG/\D=AR H r (.tup [Az p.1,p.2]),λi H=>H d=AA (.frz o (.dK kvs))/\kvs.length<=i⟩
theorem ABH{K:BB}(d it:AE)(z:o.data=.dict es ep):K0 P w K (.Tuple C x1 O) (Nx o kvs d) [it] it (λi h=>∃R S,IsItemIter h it d i kvs.length ep R S)where
 zw:=by simp
 bb:=(by simp_all)
 ab:=(by grind)
 si:=by
  intro X c hw a y i M s σ H E I F D g;subst c hw a;lk;obtain⟨e,j⟩:=g;obtain⟨B,U,W⟩:=SS I.bj e z;k_in;have Z:kvs.length=B.length:=KZ U;have A:B[i]?=AA (B[i]'(by simp_all)):=(by simp);have m:kvs[i]?=AA kvs[i]:=(by simp);have T:=Sn U m A;generalize kvs[i]=p at m T;generalize B[i]'(Bl j (Bq Z))=q at A T;lk;obtain⟨k,x⟩:=q;obtain⟨R,S,D⟩:=D;k_in;rw[Z]at D;have t:it<s.heap.objs.size:=Cb D;refine wpAny_pyNext_items_item D W A λL h' G eo ht hsz kk=>⟨_,rfl,wpAny_letOwnedTupleGo_items eo λQ f sb=>?_⟩;have hn:=I.bj.ax (Ai _);have N:s.heap.objs.size≠it:=NG t;have Y:∀b o,b∉[it]->s.heap.get? b=AA o->Q.get? b=AA o:=λb o J q=>by have v:b≠it:=(List.ne_of_not_mem_cons J);exact(sb.2 b v).trans (kk b o v q)
  have hk:p.1=k:=T.1;have rk:Bn (Az p.1) L:=by rw[hk];exact aI G
  have r:=(sb.2 _ N).trans ht;have l:DE X.af X.w (AR H s.heap.objs.size (.tup [Az p.1,p.2])) Q:=by refine(I.bj.zj [it] (λb J=>(F b J).1) Y).zr hn ?_;exact⟨show 2<=As by decide,[L,x],.cons rk (.cons T.2 .nil),⟨_,r,rfl,_,rfl⟩⟩
  have un:Hw (Gv X.cw) [it] H (AR H s.heap.objs.size (.tup [Az p.1,p.2])) s.heap Q:=by
   refine⟨(λu1 u2 u3 u4 u5 u6=>Y _ _ u6 u3),λb o q n J A=>⟨o.slots,Y b o A q⟩,λb o q n A=>?_,(by grind),λb ys q=>?_,λb o u q=>?_,λb ps q=>?_⟩;.rw[Aa (Dv (Cb q))];exact n
   .rw[Aa (by grind)];exact q
   .rw[Aa (by grind)];exact q
   .exact⟨#[],by rw[Aa (by grind),ADP];exact q⟩
  have I2:=I.yy (s':={s with heap:=Q}) (ch:=[it]) rfl un l I.il λb J=>by obtain⟨q0,q1,q2,q3,q4,q5⟩:=F b J;(constructor<;>lia)
  rw[<-Z]at f;refine⟨.ref s.heap.objs.size,_,I2,rfl,⟨_,p,m,rfl,hn,rfl⟩,(by grind),λb J=>?_⟩;have e:b=it:=Bc.mp J;subst e;rw[Aa N.symm];exact(F b J).1
 rq:=by intro X c hw a y i M s σ H E I F D g;subst c hw a;lk;obtain⟨e,j⟩:=g;obtain⟨B,U,W⟩:=SS I.bj e z;have Z:kvs.length=B.length:=KZ U;obtain⟨f0,f1,f2,f3,f4,f5⟩:=F it (by simp);obtain⟨R,S,D⟩:=D;k_in;rw[Z]at D;exact wpAny_pyNext_items_end (I.ok.hd y) D W (TN.mpr (Ag (Bq Z.symm) j)) λh' eb=>⟨rfl,I.cb (t':=s.toks) (by assumption) f0 f1 f3 f4 f5⟩
 ux:=λ_ _ _ _ _ D h=>by lk;obtain⟨R,S,D⟩:=D;k_in;exact W.kcp_self D h
def aA(J:BP->List (AL×AB)->AE->Es)(Y:BH):FZ:=λZ H R=>Y Z H λx U=>Eg (λa D=>x=.ref a) (λa D=>U a=AA (.dK D)) (λa D=>∀o W,W=AR U a (.frz o (.dK D))->R (J o D a) W)
theorem AY.vy(I:AY X D B H s)(q:H a=AA (.dK kvs)):∃vs o J ep,Gs kvs vs/\o.data=.dict J ep/\(a==Ka)=AQ/\AY X D B (AR H a (.frz o (.dK kvs))) s/\s.heap.DictAt (FK X.af X.w) a vs ep:=by lk;obtain⟨z,A,vs,U,o,J,ep,W,Z,Y,r⟩:=(show C8 _ _ H _ a _ from I.bj a _ q);k_in;exact⟨vs,o,J,ep,U,Y,A,I.rj (by rw[q];trivial) (.inl rfl) (λE u2 u3 C=>C) ⟨o,W⟩ ⟨W,z,A,vs,U,o,J,ep,W,Z,Y,r⟩,o,J,W,Z,Y,r⟩
theorem AAG(ho:Ar X o tl)(hbase:Jy o "values" X.ae (BX o X.ae)=BX o X.ae)(hline:(apos.endLine==pos.line)=AJ):FJ X tg (.Call (.Attribute o "values" apos) [] [] pos) (aA Ny tl):=by intro pins s σ H R I h;refine Wt (T:="dict") (id:="dict.values") hbase rfl hline Wi AE9 F.type_dict_values (BI (ho pins s σ H _ I h) λv s1 hh11=>?_);lk;obtain⟨x,H1,I1,r1,a,kvs,e,q0,q⟩:=hh11;k_in;subst e;lk;cases r1;obtain⟨vs,o,es,ep,rel,hd,lo,I2,hat⟩:=I1.vy q0;k_in;have hl:kvs.length=vs.length:=KZ rel;refine⟨hat.dictOf.typeIs,hat.dictOf.mapOf.noDict,?_⟩;refine AF3 AE9 F.entry_dict_values rfl (ACo ⟨rfl,hat.dictOf.typeIs,(by rfl),_,meets_dict_values (FK X.af X.w) a lo,⟨vs,hat.dictOf⟩,?_⟩);refine wpAny_pyIter_values (knd:=FK X.af X.w) (d:=a) (kvs:=vs) (ep:=ep) ⟨_,ER _ rfl,rfl,rfl⟩ (hat.push _) ?_;have I3:AY X pins σ (AR H1 a (.frz o (.dK kvs))) {s1 with heap:=s1.heap.push {cls:=.type "dict_values",data:=.fields #[.ref a]}}:=I2.ff (t':=s1.toks) λb o e=>Ca _ e;generalize s1.heap.push _=h1 at I3⊢;refine⟨h1.objs.size,[h1.objs.size],_,Ny o kvs a,_,rfl,I3.ff (t':=s1.toks) λb o e=>Ca _ e,ABI a _ hd,⟨_,ER _ rfl,rfl,by simp_all⟩,λb hb=>?_,q o _ rfl⟩;have e:b=h1.objs.size:=Bc.mp hb;subst e;exact I3.pj (Ai _) (I3.bj.ax (Ai _))
theorem AAF(ho:Ar X o tl)(hbase:Jy o "items" X.ae (BX o X.ae)=BX o X.ae)(hline:(apos.endLine==pos.line)=AJ):FJ X (.Tuple elts x1 tpos) (.Call (.Attribute o "items" apos) [] [] pos) (aA Nx tl):=by intro pins s σ H R I h;refine Wt (T:="dict") (id:="dict.items") hbase rfl hline Wi AE6 F.type_dict_items (BI (ho pins s σ H _ I h) λv s1 hh11=>?_);lk;obtain⟨x,H1,I1,r1,a,kvs,e,q0,q⟩:=hh11;k_in;subst e;lk;cases r1;obtain⟨vs,o,es,ep,rel,hd,lo,I2,hat⟩:=I1.vy q0;k_in;have hl:kvs.length=vs.length:=KZ rel;refine⟨hat.dictOf.typeIs,hat.dictOf.mapOf.noDict,?_⟩;refine AF3 AE6 F.entry_dict_items rfl (ACo ⟨rfl,hat.dictOf.typeIs,(by rfl),_,meets_dict_items (FK X.af X.w) a lo,⟨vs,hat.dictOf⟩,?_⟩);refine wpAny_pyIter_items (knd:=FK X.af X.w) (d:=a) (kvs:=vs) (ep:=ep) ⟨_,ER _ rfl,rfl,rfl⟩ (hat.push _) ?_;have I3:AY X pins σ (AR H1 a (.frz o (.dK kvs))) {s1 with heap:=s1.heap.push {cls:=.type "dict_items",data:=.fields #[.ref a]}}:=I2.ff (t':=s1.toks) λb o e=>Ca _ e;generalize s1.heap.push _=h1 at I3⊢;refine⟨h1.objs.size,[h1.objs.size],_,Nx o kvs a,_,rfl,I3.ff (t':=s1.toks) λb o e=>Ca _ e,ABH a _ hd,⟨.none,.none,by rw[hl];exact ER _ rfl⟩,λb hb=>?_,q o _ rfl⟩;have e:b=h1.objs.size:=Bc.mp hb;subst e;exact I3.pj (Ai _) (I3.bj.ax (Ai _))
theorem yA{d:AE}{o:BP}{kvs:List (AL×AB)}{g:Ef}{F:C0}{D:IV}{J:Ap}{H:AI}(Y:Nat->Ap->AI->Prop)(G:Y 0 J H)(L:∀i J H,i<=kvs.length->Y i J H->H d=AA (.frz o (.dK kvs)))(O:∀(i:Nat)p J H,kvs[i]?=AA p->Y i J H->g p.2 J H λA B=>F {D with nx:=Y (i+1),ct:=Y (i+1),bk:=D.nx} A B)(K:∀J H,Y kvs.length J H->D.nx J H):∃W:Nat->Nat->Ap->AI->Prop,(∃m,W 0 m J H)/\∀i m J H,W i m J H->((Ny o kvs d).qe i H/\D.nx J H)\/((Ny o kvs d).go i H/\∃N:Ap->AI->Prop,(∀Z H',N Z H'->∃E,E<m/\W (i+1) E Z H')/\∀x H',(Ny o kvs d).yu i H x H'->g x J H' λA B=>F {D with nx:=N,ct:=N,bk:=D.nx} A B):=by
 refine⟨λi m J H=>m=kvs.length-i/\i<=kvs.length/\Y i J H,⟨kvs.length,by simp,Bm _,G⟩,?_⟩;intro i m J H I;lk;obtain⟨rfl,C,p⟩:=I;k_in;have q:=L i J H C p;by_cases U:i<kvs.length
 . refine .inr ⟨⟨q,U⟩,_,λZ H' P=>⟨_,JO _ _ U,rfl,U,P⟩,λx H' y=>?_⟩;lk;obtain⟨e,Q,M,rfl⟩:=y;k_in;subst e;exact O i Q J _ M p
 . have:=Eb C (F4 U);subst this;exact .inl ⟨⟨q,Ai _⟩,K J H p⟩
theorem xZ{d:AE}{o:BP}{kvs:List (AL×AB)}{g:Ef}{F:C0}{D:IV}{J:Ap}{H:AI}(Y:Nat->Ap->AI->Prop)(G:Y 0 J H)(L:∀i J H,i<=kvs.length->Y i J H->H d=AA (.frz o (.dK kvs)))(P:∀(i:Nat)p J H r,kvs[i]?=AA p->Y i J H->H r=AG->g (.ref r) J (AR H r (.tup [Az p.1,p.2])) λA B=>F {D with nx:=Y (i+1),ct:=Y (i+1),bk:=D.nx} A B)(K:∀J H,Y kvs.length J H->D.nx J H):∃W:Nat->Nat->Ap->AI->Prop,(∃m,W 0 m J H)/\∀i m J H,W i m J H->((Nx o kvs d).qe i H/\D.nx J H)\/((Nx o kvs d).go i H/\∃N:Ap->AI->Prop,(∀Z H',N Z H'->∃E,E<m/\W (i+1) E Z H')/\∀x H',(Nx o kvs d).yu i H x H'->g x J H' λA B=>F {D with nx:=N,ct:=N,bk:=D.nx} A B):=by
 refine⟨λi m J H=>m=kvs.length-i/\i<=kvs.length/\Y i J H,⟨kvs.length,by simp,Bm _,G⟩,?_⟩;intro i m J H I;lk;obtain⟨rfl,C,p⟩:=I;k_in;have q:=L i J H C p;by_cases U:i<kvs.length
 . refine .inr ⟨⟨q,U⟩,_,λZ H' Q=>⟨_,JO _ _ U,rfl,U,Q⟩,λx H' y=>?_⟩;lk;obtain⟨r,R,M,rfl,O,rfl⟩:=y;k_in;exact P i R J _ r M p O
 . have:=Eb C (F4 U);subst this;exact .inl ⟨⟨q,Ai _⟩,K J H p⟩
inductive JR(CX:Ho)(P:CS)(w:B0)(K:BB)(mg:AF->Option AK)(base:BW)(k:Nat)(R:AE->Prop)(sp:BF):Prop|mk{f:AE}{fd:Ik}{ps:List AF}(r:R f)(b:Lb K fd ps [])(F:Gr P w K mg base CX k f fd ps sp):JR CX P w K mg base k R sp
inductive MP(K:BB)(R:AE->Prop)(x q:AF)(st:Cc)(N:List AF)(n:Nat):Prop|mk{f:AE}{fd:Ik}(r:R f)(F:Pp K x q st f fd)(b:Lb K fd (N.take n) [])(S:Mm N (N.take n) (Cy st)):MP K R x q st N n
abbrev UL(K:BB)(D:AF->Option AK)(x:AF)(f:AE):Prop:=D x=AA (.ref f)/\Tq K (.ref f)=AJ
abbrev Bp(K:BB)(D:AF->Option AK)(x:AF):=MP K (UL K D x) x x
abbrev Ha(K:BB)(C:AE)(m:AF):=MP K (R7 K C m) m
abbrev O5(K:BB)(C:AE):=MP K (R8 K C) "__init__"
abbrev MP.Ok{K:BB}{st:Cc}(_:MP K R x q st N n)(CX:Ho)(P:CS)(w:B0)(D:AF->Option AK)(base:BW)(k:Nat)(sp:BF):Prop:=JR CX P w K D base k R sp
theorem MP.ok{K:BB}{st:Cc}(D:MP K R x q st N n)(Y:∀(C:N.Nodup)(f:AE)(U:AK)(A:DB)(J:List EL)(s:AX),Dq k (A.deeper (MD q (Cy st) s.heap.objs.size f U))->∀(H:AI)(vs:List AB)(Q:BS)(E:Fb),sp vs H Q E->∃t,Gu (Mt BE P w K B base N q (Cy st) f U A J s H E).aby (Li st) t/\t {nx:=λ_ H'=>Q .non H',rt:=Q} (M7 N vs) H)(W:∀vs H Q E,sp vs H Q E->vs.length=(N.take n).length:=by intro _ _ _ _ h;first|(obtain⟨rfl,_⟩:=h;rfl)|(obtain⟨_,rfl,_⟩:=h;rfl)|(obtain⟨_,_,rfl,_⟩:=h;rfl)|(obtain⟨_,_,_,rfl,_⟩:=h;rfl)|(obtain⟨_,_,_,_,rfl,_⟩:=h;rfl)|(obtain⟨_,_,_,_,_,rfl,_⟩:=h;rfl)|(obtain⟨_,_,_,_,_,_,rfl,_⟩:=h;rfl)|(obtain⟨_,_,_,_,_,_,_,rfl,_⟩:=h;rfl)|(obtain⟨_,_,_,_,_,_,_,_,rfl,_⟩:=h;rfl)|(obtain⟨_,_,_,_,_,_,_,_,_,rfl,_⟩:=h;rfl)|(obtain⟨_,_,_,_,_,_,_,_,_,_,rfl,_⟩:=h;rfl)|(obtain⟨_,_,_,_,_,_,_,_,_,_,_,rfl,_⟩:=h;rfl)|(obtain⟨_,_,_,_,_,_,_,_,_,_,_,_,rfl,_⟩:=h;rfl)|(obtain⟨_,_,_,_,_,_,_,_,_,_,_,_,_,rfl,_⟩:=h;rfl)|(obtain⟨_,_,_,_,_,_,_,_,_,_,_,_,_,_,rfl,_⟩:=h;rfl)|(obtain⟨_,_,_,_,_,_,_,_,_,_,_,_,_,_,_,rfl,_⟩:=h;rfl)|(obtain⟨_,_,_,_,_,_,_,_,_,_,_,_,_,_,_,_,rfl,_⟩:=h;rfl)|(obtain⟨_,_,_,_,_,_,_,_,_,_,_,_,_,_,_,_,_,rfl,_⟩:=h;rfl)|(obtain⟨_,_,_,_,_,_,_,_,_,_,_,_,_,_,_,_,_,_,_,_,_,_,rfl,_⟩:=h;rfl)|(cases h;subst_vars;rfl)):JR BE P w K B base (k+1) R sp:=by cases D with|mk r F b S=>show⟨r,b,F.ok S W λU A J s H vs Q E Z h=>Y S.nd _ U A J s Z H vs Q E h⟩
theorem BC{x:AF}(c:JR BE X.af X.w X.K X.mg X.ag k (UL X.K X.mg x) sp)(E:Dq n X.A)(Z:Ge X (e::D) t)(C:k<=n:=by decide)(B:Gd X x:=by rfl)(J:(x==("__debug__":AF))=AQ:=by decide)(A:Cj (e::D) X.ae=(AQ,BX e X.ae)::Cj D X.ae:=by rfl)(U:(GR V (Cj D X.ae)).any (·.1)=AQ:=by rfl):Ar X (.Call (.Name x p) (e::D) [] V) (AAs sp [] Ml t):=by intro Y s G H Q I h;cases c with|mk r b F=>show Qy (QD I B r.1 ?_ J);show ACZ I.ok.uk.abu r.2 (BI (Z _ _ s G H _ I h) λL s1⟨M,K,W,r,q⟩=>⟨W.my,?_⟩) A U;show V2 F (E.ym C) b .nil KJ W r q
theorem Hk(he:Ar X o ta)(c:Hq X.K C)(h:JR BE X.af X.w X.K X.mg X.ag k (R7 X.K C m) sp)(hr:Dq n X.A)(ha:Ge X (e::es) t)(hn:k<=n:=by decide)(hst:Cj (e::es) X.ae=(AQ,BX e X.ae)::Cj es X.ae:=by rfl)(hpl:(GR pos (Cj es X.ae)).any (·.1)=AQ:=by rfl)(ht:BX (.Call (.Attribute o m apos) (e::es) [] pos) X.ae=(do
 let ov<-BX o X.ae
 standAt apos.atName let(f,first)<-holding [ov] (gR ov m pl)callWith pos f first (GR pos (Cj (e::es) X.ae)) (Qp pos (Qv [] X.ae))):=by rfl):Ar X (.Call (.Attribute o m apos) (e::es) [] pos) (cX C m sp [] Ml ta t):=by intro pins s σ H Q I g;cases h with|mk r b F=>show AFq (BI (he _ s σ H _ I g) λu s1⟨x,H1,I1,rx,a,dx,fs,ex,ea,l,q⟩=>?_) ht;subst ex;obtain rfl:u=DM a:=rx;show Z9 I1 ea c r l ?_;show ACZ I.ok.uk.abu r.kp (BI (ha _ _ s1 σ H1 _ I1 q) λus s2⟨vs,H2,I2,r,q2⟩=>⟨I2.my,?_⟩) hst hpl;show V2 (vs:=.ref a::vs) F (hr.ym hn) b .nil KJ I2 (.cons rfl r) q2
theorem Pb(B:Ar X o N)(c:Hq X.K C)(h:JR BE X.af X.w X.K X.mg X.ag k (R7 X.K C m) sp)(G:Dq n X.A)(E:k<=n:=by decide)(K:BX (.Call (.Attribute o m J) [] [] D) X.ae=(do
 let W<-BX o X.ae
 standAt J.atName let(f,U)<-holding [W] (gR W m L)callWith D f U (GR D (Cj [] X.ae)) (Qp D (Qv [] X.ae))):=by rfl):Ar X (.Call (.Attribute o m J) [] [] D) (cX C m sp [] Ml N L4):=by intro Y s O H Q I g;cases h with|mk r b F=>show AFq (BI (B _ s O H _ I g) λu s1⟨x,P,V,M,a,R,S,A,Z,l,q⟩=>?_) K;subst A;obtain rfl:u=DM a:=M;show Z9 V Z c r l ?_;show AFe V.my r.kp (V2 (vs:=[.ref a]) F (G.ym E) b .nil KJ V (.cons rfl .nil) q)
theorem Pa{x:AF}(h:JR CX X.af X.w X.K X.mg X.ag k (R8 X.K C) sp)(L:Dq n X.A)(G:X.mg x=AA (.ref C))(N:Pw CX X E)(Z:Ge X (e::D) t)(K:k+1<=n:=by decide)(B:Gd X x:=by rfl)(J:(x==("__debug__":AF))=AQ:=by decide)(A:Cj (e::D) X.ae=(AQ,BX e X.ae)::Cj D X.ae:=by rfl)(U:(GR V (Cj D X.ae)).any (·.1)=AQ:=by rfl):Ar X (.Call (.Name x p) (e::D) [] V) (cW C sp [] E t):=by intro Y s O H Q I g;cases h with|mk M b F=>show Qy (QD I B G ?_ J);show ACZ I.ok.uk.abu M.kp (BI (Z _ _ s O H _ I g) λR s1⟨S,P,W,r,q⟩=>⟨W.my,?_⟩) A U;show cG M F (L.ym K) b .nil N W r q
theorem Yr{x:AF}(h:JR CX X.af X.w X.K X.mg X.ag k (R8 X.K C) sp)(Y:Dq n X.A)(V:X.mg x=AA (.ref C))(Z:Pw CX X E)(W:k+1<=n:=by decide)(U:Gd X x:=by rfl)(D:(x==("__debug__":AF))=AQ:=by decide):Ar X (.Call (.Name x p) [] [] A) (cW C sp [] E L4):=by intro J s B H Q I g;cases h with|mk M b F=>show Qy (QD I U V ?_ D);show AFe I.my M.kp (cG M F (Y.ym W) b .nil Z I .nil g)
theorem qB{x y:AF}{K:BB}(h:JR BE X.af X.w X.K X.mg X.ag k (UL X.K X.mg y) sp)(O:Dq n X.A)(W:X.mg x=AG)(R:Qt x=AA (.builtin "sorted"))(G:Ar X e d)(E:k+2<=n:=by decide)(L:Gd X y:=by rfl)(P:Gd X x:=by rfl)(C:X.K=K:=by rfl)(M:x≠"__name__":=by decide)(U:(x==("__debug__":AF))=AQ:=by decide)(V:(y==("__debug__":AF))=AQ:=by decide)(J:GR Y (Cj [e] X.ae)=[(AQ,BX e X.ae)]:=by rfl):Ar X (.Call (.Name x p) [e] [⟨AA "key",.Name y j,l⟩] Y) (ABE K sp d):=by subst C;intro A s f H Q I g;cases h with|mk r b F=>show Qy (KH I P W R ?_ M U);show callWith_kw ?_ J (by simp_all) rfl rfl;rw[J];show NM (BI (G _ s f H _ I g) λu s1 D=>?_);obtain⟨v,i,Z,c,a,m,T,B,N,S,q⟩:_:=D;show Qi ?_;subst B;obtain rfl:u=DM a:=c;show wpAny_evalAll_cons (Ay (QD Z L r.1 (Ay (AC1 (CN (wpAny_evalAll_nil ?_)))) V));show AAm F b (O.ym E) Z N S q
theorem Ue{K:BB}{st:Cc}(r:R f)(l:K.lookup f=AA ⟨B,C,.func (Oi x q (N9 st) (Li st) (Cy st) .none Y J Z V D W),A⟩)(c:gG K D q=AJ)(k:Tq K (.ref f)=AJ)(S:Mm N (N.take n) (Cy st))(b:∀(Y J Z:AK)(V:Option AE)(D W:AK)(U:List AK),U.length=(N.take n).length->ACk (Oi x q (N9 st) (Li st) (Cy st) .none Y J Z V D W) ⟨U,[]⟩=Be ((N.take n).zip U)):MP K R x q st N n:=⟨r,Vh l c k,(Vh l c k).abf b,S⟩
theorem mL{K:BB}{D:AF->Option AK}{g:HV->AK}(X:K.In h)(G:h.Ns LN D)(e:W.nsIn K LN x=AA (AA (g t))):∃t,D x=AA (g t):=⟨t,ACg X G e⟩
theorem k7{K:BB}(a:ID K (.ref C) "__getattribute__"=AA (AA (.builtin "BaseException.__getattribute__")))(b:ID K (.ref C) "__getattr__"=AA AG)(c:ID K (.ref C) "__class__"=AA (AA (.builtin "object.__class__")))(d:gP K (.ref C) (.type "BaseException")=AA AJ)(e:gP K (.ref C) (.type "object")=AA AJ)(i:AFg K C=AA D):wC K C:=⟨a,b,c,d,e,by rw[i];rfl⟩
theorem vG{K:BB}(l:K.lookup f=AA ⟨.type "tuple",AG,.seq vs n,D⟩)(a:vs.size<=As)(b:Bb xs vs.toList)(H:AI):CB K H f xs:=.inr ⟨_,_,_,l,rfl,rfl,a,b⟩
theorem nC{K:BB}(l:K.lookup f=AA ⟨.type "tuple",AG,.seq vs n,D⟩):∃o,K.lookup f=AA o/\o.cls=.type "tuple"/\o.dict=AG:=⟨_,l,rfl,rfl⟩
theorem vS{J:List U}(h:J.length=1):∃D,J=[D]:=by match J,h with|[D],_=>show⟨D,rfl⟩
theorem vT{U:List V}(h:U.length=2):∃D J,U=[D,J]:=by match U,h with|[D,J],_=>show⟨D,J,rfl⟩
theorem vU{V:List W}(h:V.length=3):∃D J U,V=[D,J,U]:=by match V,h with|[D,J,U],_=>show⟨D,J,U,rfl⟩
theorem vV{W:List Y}(h:W.length=4):∃D J U V,W=[D,J,U,V]:=by match W,h with|[D,J,U,V],_=>show⟨D,J,U,V,rfl⟩
theorem vW{Y:List Z}(h:Y.length=5):∃D J U V W,Y=[D,J,U,V,W]:=by match Y,h with|[D,J,U,V,W],_=>show⟨D,J,U,V,W,rfl⟩
seal Ar Ht Mp Ge EW Gu Kx Pu FJ Ky SD CU SI EV N1 N4
noncomputable def BJ(i:Nat):Cc:=AGf.main.body.getD i (.Pass ⟨0,0,0,0⟩)
noncomputable abbrev Y8:Cc:=BJ 30
noncomputable abbrev Pf:Cc:=BJ 49
noncomputable abbrev U6:Cc:=BJ 50
noncomputable abbrev Y2:Cc:=Fv (BJ 55) 2
noncomputable abbrev Y3:Cc:=Fv (BJ 60) 1
noncomputable abbrev Y7:Cc:=BJ 62
noncomputable abbrev U7:Cc:=BJ 66
noncomputable abbrev U8:Cc:=BJ 68
noncomputable abbrev Y4:Cc:=BJ 74
noncomputable abbrev Y6:Cc:=BJ 75
noncomputable abbrev Y5:Cc:=BJ 98
noncomputable abbrev qZ:Cc:=BJ 79
noncomputable abbrev rA:Cc:=BJ 9
noncomputable abbrev rB:Cc:=BJ 17
noncomputable abbrev rC:Cc:=BJ 13
noncomputable abbrev rD:Cc:=BJ 78
noncomputable abbrev rE:Cc:=BJ 18
noncomputable abbrev rF:Cc:=BJ 92
noncomputable abbrev rG:Cc:=BJ 96
noncomputable abbrev rH:Cc:=BJ 93
noncomputable abbrev rJ:Cc:=BJ 91
theorem ZD:Mm ["_law_script","_law_first","_law_tick","_law_begin","_law_plan_here","_law_slack","_law_flow","_law_events_here","_law_event_here","_law_lines","_law_due_here","_law_handed","_law_read","_law_other"] ["_law_script"] (Cy Y5):=Sv
set_option genInjectivity false in structure CA where
 vf:AE
 xj:Ik
 aq:AE
 ar:AE
 fk:AE
 eh:AE
 av:AE
 rf:AE
 nh:AE
 ng:AE
structure BM(K:BB)(mg:AF->Option AK)(ad:CA):Prop where
 zg:mg "Clock"=AA (.ref ad.aq)zh:mg "Group"=AA (.ref ad.ar)xx:mg "Side"=AA (.ref ad.fk)aad:mg "Join"=AA (.ref ad.eh)xw:mg "Flow"=AA (.ref ad.av)aw:Hq K ad.aq
 kc:Fu K ad.aq "slack"bp:Fu K ad.aq "now"cn:Fu K ad.aq "count"ba:Hq K ad.ar
 ip:Fu K ad.ar "step"bu:Fu K ad.ar "rows"cg:Hq K ad.fk
 bw:Fu K ad.fk "rows"cv:Hq K ad.eh
 di:Fu K ad.eh "within"cj:Fu K ad.eh "sides"ah:Hq K ad.av
 dm:Fu K ad.av "plan"bc:Fu K ad.av "clock"df:Fu K ad.av "joins"cp:Fu K ad.av "groups"cq:Fu K ad.av "number"ql:Bp K mg "is_whole" (BJ 6) ["thing"] 1
 qk:Bp K mg "is_among" (BJ 7) ["thing","least","most"] 3
 tw:Bp K mg "is_time" (BJ 8) ["thing"] 1
 lh:Bp K mg "is_made_of" (BJ 9) ["text","signs"] 2
 tj:Bp K mg "is_name" (BJ 10) ["thing"] 1
 kx:Bp K mg "figures_of" (BJ 11) ["number","great","pieces"] 1
 jw:Bp K mg "number_text" (BJ 12) ["number"] 1
 ue:Bp K mg "line_of" (BJ 13) ["parts"] 1
 oq:Bp K mg "number_of" (BJ 14) ["word","figures"] 1
 qj:Bp K mg "end_line" (BJ 16) ["many"] 1
 ma:Bp K mg "item_lines" (BJ 17) ["joins","lines","place","side","items"] 1
 jx:Bp K mg "piece_lines" (BJ 18) ["groups","lines","place"] 1
 ud:Bp K mg "keep_of" (BJ 19) ["first","joins","groups","lines"] 3
 vk:Bp K mg "packed" (BJ 20) ["flow","first"] 1
 gv:O5 K ad.aq "Clock.__init__" (Fv (BJ 27) 0) ["self","slack"] 2
 js:Ha K ad.aq "admit" "Clock.admit" (Fv (BJ 27) 1) ["self","time"] 2
 xi:Bp K mg "ahead" (BJ 29) ["rows","mark","low","high","middle"] 2
 oz:Bp K mg "with_keys" Y8 ["rows","told","key"] 1
 vt:Bp K mg "starts" (BJ 32) ["time","size","step","first"] 3
 xk:Bp K mg "meets" (BJ 33) ["start","end","time","most","last"] 4
 oo:Bp K mg "names_end" (BJ 38) ["step"] 1
 uf:Bp K mg "name_of" (BJ 39) ["step"] 1
 ti:Bp K mg "feeders" (BJ 40) ["step"] 1
 om:Bp K mg "is_teller" (BJ 41) ["step"] 1
 qx:Bp K mg "tally_of" (BJ 43) ["amount"] 1
 xh:Bp K mg "added" (BJ 44) ["one","other"] 2
 xp:Bp K mg "value" (BJ 45) ["sort","tally"] 2
 mf:Bp K mg "put_window" (BJ 47) ["pieces","start","end","tally","place","there"] 4
 qv:Bp K mg "put_each" (BJ 48) ["pieces","time","amount","size","step","told","start"] 5
 ug:Bp K mg "put_gap" Pf ["pieces","time","amount","most","met","rest","start","end","tally","piece"] 4
 vm:Bp K mg "parted" U6 ["pieces","now","over","still"] 2
 vo:Bp K mg "put_by" (BJ 52) ["step","pieces","item"] 3
 vp:Bp K mg "row_of" (BJ 53) ["step","key","piece"] 3
 qr:Bp K mg "order_of" (BJ 54) ["row"] 1
 gw:O5 K ad.ar "Group.__init__" (Fv (BJ 55) 0) ["self","step"] 2
 nu:Ha K ad.ar "put" "Group.put" (Fv (BJ 55) 1) ["self","item","key"] 2
 ju:Ha K ad.ar "close" "Group.close" Y2 ["self","now","told","key"] 2
 ku:Ha K ad.ar "take" "Group.take" (Fv (BJ 55) 3) ["self","key","now","pieces","pair"] 3
 je:Ha K ad.ar "pieces" "Group.pieces" (Fv (BJ 55) 4) ["self"] 1
 iw:O5 K ad.fk "Side.__init__" (Fv (BJ 57) 0) ["self"] 1
 qf:Ha K ad.fk "put" "Side.put" (Fv (BJ 57) 1) ["self","item","pair","row","place"] 2
 oh:Ha K ad.fk "near" "Side.near" (Fv (BJ 57) 2) ["self","key","low","high","row"] 4
 oa:Ha K ad.fk "drop" "Side.drop" (Fv (BJ 57) 3) ["self","least","key","row","kept"] 2
 og:Ha K ad.fk "kept" "Side.kept" (Fv (BJ 57) 4) ["self"] 1
 qo:Bp K mg "met_item" (BJ 59) ["side","item","pair","first","second"] 3
 iu:O5 K ad.eh "Join.__init__" (Fv (BJ 60) 0) ["self","within"] 2
 nv:Ha K ad.eh "come" "Join.come" Y3 ["self","side","item","met"] 3
 ny:Ha K ad.eh "drop" "Join.drop" (Fv (BJ 60) 2) ["self","now","side"] 2
 ui:Bp K mg "tellers" Y7 ["plan"] 1
 xn:Bp K mg "taken" (BJ 64) ["step","event"] 2
 vv:Bp K mg "turned" (BJ 65) ["step","item"] 2
 vn:Bp K mg "passed" U7 ["step","streams"] 2
 vi:Bp K mg "joined" (BJ 67) ["join","streams","made","side","items","item"] 2
 vq:Bp K mg "spread" U8 ["plan","joins","event","brought","told","place","step","streams","items"] 3
 qm:Bp K mg "joins_of" (BJ 70) ["plan","joins","place","step"] 1
 oj:Bp K mg "groups_of" (BJ 71) ["plan","groups","place"] 1
 ot:Bp K mg "put_event" (BJ 72) ["plan","joins","groups","event","place","item"] 4
 qh:Bp K mg "drop_all" (BJ 73) ["joins","now","join"] 2
 vh:Bp K mg "closed" Y4 ["groups","now","told","place","group"] 2
 uh:Bp K mg "rows_of" Y6 ["told"] 1
 ir:O5 K ad.av "Flow.__init__" (Fv (BJ 76) 0) ["self","plan","slack"] 3
 nq:Ha K ad.av "come" "Flow.come" (Fv (BJ 76) 1) ["self","event"] 2
 jc:Ha K ad.av "told_by" "Flow.told_by" (Fv (BJ 76) 2) ["self","now","rows"] 2
 jt:Ha K ad.av "finish" "Flow.finish" (Fv (BJ 76) 3) ["self"] 1
 md:Bp K mg "numbers_of" (BJ 78) ["words"] 1
 oi:Bp K mg "are_whole" (BJ 79) ["numbers"] 1
 qg:Bp K mg "clock_of" (BJ 80) ["line","words","numbers"] 1
 uc:Bp K mg "item_of" (BJ 81) ["words","joins","item","good"] 2
 qu:Bp K mg "piece_of" (BJ 82) ["words","groups","piece","good"] 2
 qw:Bp K mg "put_item" (BJ 83) ["joins","item"] 2
 ox:Bp K mg "put_piece" (BJ 84) ["groups","piece"] 2
 kh:Bp K mg "put_line" (BJ 85) ["line","joins","groups","last","words","item","piece"] 4
 ou:Bp K mg "put_lines" (BJ 86) ["lines","joins","groups","last","place"] 3
 qy:Bp K mg "unpacked" (BJ 87) ["plan","slack","lines","flow","first","clock"] 3
 iz:Bp K mg "_law_cell_at" (BJ 89) ["_law_script","_law_k"] 2
 mi:Bp K mg "_law_name" (BJ 90) ["_law_cell","_law_k","_law_letters","_law_frame","_law_at"] 2
 mj:Bp K mg "_law_plan" (BJ 91) ["_law_cell","_law_tick","_law_names","_law_size","_law_step","_law_within","_law_first","_law_second","_law_teller","_law_gaps","_law_way","_law_third"] 2
 fo:Bp K mg "_law_behind_idle" (BJ 92) ["_law_plan_here","_law_cell"] 2
 jy:Bp K mg "_law_event" (BJ 93) ["_law_plan_here","_law_time","_law_rest","_law_many_here","_law_mixed","_law_kinds","_law_amount","_law_own","_law_key"] 4
 mh:Bp K mg "_law_many" (BJ 94) ["_law_cell"] 1
 jf:Bp K mg "_law_events" (BJ 95) ["_law_script","_law_plan_here","_law_tick","_law_begin","_law_found","_law_many_here","_law_k"] 4
 oy:Bp K mg "_law_due" (BJ 96) ["_law_flow","_law_lines","_law_place","_law_side","_law_row","_law_words"] 1
 jz:Bp K mg "_law_texts" (BJ 97) ["_law_found","_law_due_here","_law_k"] 2
 abv:mg "law"=AA (.ref ad.vf)aaf:Pp K "law" "law" Y5 ad.vf ad.xj
 yg:∃t,mg "LETTERS"=AA (.str "abcdefghijklmnopqrstuvwxyz" t)yf:∃t,mg "FIGURES"=AA (.str "0123456789" t)rb:∃t,mg "MOST_LETTERS"=AA (.int 12 t)uq:∃t,mg "MOST_SIGNS"=AA (.int 60 t)vx:∃t,mg "MOST_TIME"=AA (.int 1000000000 t)ur:∃t,mg "MOST_SLACK"=AA (.int 1000000000 t)zb:mg "PAIRED"=AA (.ref ad.rf)zo:∀H,CB K H ad.rf [.str "both",.str "join"]yi:mg "TELLERS"=AA (.ref ad.nh)yo:∀H,CB K H ad.nh [.str "each",.str "gap"]yh:mg "TALLIES"=AA (.ref ad.ng)yn:∀H,CB K H ad.ng [.str "count",.str "sum",.str "least",.str "greatest"]yk:∃o,K.lookup ad.ng=AA o/\o.cls=.type "tuple"/\o.dict=AG
 aam:mg "all"=AG
 aba:mg "bool"=AG
 fi:mg "enumerate"=AG
 aan:mg "int"=AG
 dh:mg "isinstance"=AG
 cx:mg "len"=AG
 gu:mg "list"=AG
 wj:mg "max"=AG
 yd:mg "min"=AG
 gp:mg "range"=AG
 xg:mg "reversed"=AG
 ik:mg "sorted"=AG
 fu:mg "str"=AG
 vd:mg "tuple"=AG
inductive El{A B C:Type}(p:A->B->C->Prop):Prop|mk(a:A)(b:B)(c:C)(_:p a b c)
inductive JS{A B C D:Type}(p:A->B->C->D->Prop):Prop|mk(a:A)(b:B)(c:C)(d:D)(_:p a b c d)
inductive Iv{A B C D E:Type}(p:A->B->C->D->E->Prop):Prop|mk(a:A)(b:B)(c:C)(d:D)(e:E)(_:p a b c d e)
inductive JT{A B C D E F:Type}(p:A->B->C->D->E->F->Prop):Prop|mk(a:A)(b:B)(c:C)(d:D)(e:E)(f:F)(_:p a b c d e f)
inductive Jz{A B C D E F G:Type}(p:A->B->C->D->E->F->G->Prop):Prop|mk(a:A)(b:B)(c:C)(d:D)(e:E)(f:F)(g:G)(_:p a b c d e f g)
inductive UJ{A B C D E F G H:Type}(p:A->B->C->D->E->F->G->H->Prop):Prop|mk(a:A)(b:B)(c:C)(d:D)(e:E)(f:F)(g:G)(h:H)(_:p a b c d e f g h)
inductive MQ{A B C D E F G H I:Type}(p:A->B->C->D->E->F->G->H->I->Prop):Prop|mk(a:A)(b:B)(c:C)(d:D)(e:E)(f:F)(g:G)(h:H)(i:I)(_:p a b c d e f g h i)
inductive UH{A B C D E F G H I J:Type}(p:A->B->C->D->E->F->G->H->I->J->Prop):Prop|mk(a:A)(b:B)(c:C)(d:D)(e:E)(f:F)(g:G)(h:H)(i:I)(j:J)(_:p a b c d e f g h i j)
inductive NZ{A B C D E F G H I J K:Type}(p:A->B->C->D->E->F->G->H->I->J->K->Prop):Prop|mk(a:A)(b:B)(c:C)(d:D)(e:E)(f:F)(g:G)(h:H)(i:I)(j:J)(k:K)(_:p a b c d e f g h i j k)
inductive UI{A B C D E F G H I J K L M:Type}(p:A->B->C->D->E->F->G->H->I->J->K->L->M->Prop):Prop|mk(a:A)(b:B)(c:C)(d:D)(e:E)(f:F)(g:G)(h:H)(i:I)(j:J)(k:K)(l:L)(m:M)(_:p a b c d e f g h i j k l m)
inductive XD{A B C D E F G H I J K L M N:Type}(p:A->B->C->D->E->F->G->H->I->J->K->L->M->N->Prop):Prop|mk(a:A)(b:B)(c:C)(d:D)(e:E)(f:F)(g:G)(h:H)(i:I)(j:J)(k:K)(l:L)(m:M)(n:N)(_:p a b c d e f g h i j k l m n)
inductive XE{A B C D E F G H I J K L M N O:Type}(p:A->B->C->D->E->F->G->H->I->J->K->L->M->N->O->Prop):Prop|mk(a:A)(b:B)(c:C)(d:D)(e:E)(f:F)(g:G)(h:H)(i:I)(j:J)(k:K)(l:L)(m:M)(n:N)(o:O)(_:p a b c d e f g h i j k l m n o)
inductive XF{A B C D E F G H I J K L M N O Q R:Type}(p:A->B->C->D->E->F->G->H->I->J->K->L->M->N->O->Q->R->Prop):Prop|mk(a:A)(b:B)(c:C)(d:D)(e:E)(f:F)(g:G)(h:H)(i:I)(j:J)(k:K)(l:L)(m:M)(n:N)(o:O)(q:Q)(r:R)(_:p a b c d e f g h i j k l m n o q r)
inductive XC(a b:Prop):Prop|mk(_:a)(_:b)
inductive RF(a b c:Prop):Prop|mk(_:a)(_:b)(_:c)
inductive Iu(a b c d:Prop):Prop|mk(_:a)(_:b)(_:c)(_:d)
inductive FT(a b c d e:Prop):Prop|mk(_:a)(_:b)(_:c)(_:d)(_:e)
inductive HZ(a b c d e f:Prop):Prop|mk(_:a)(_:b)(_:c)(_:d)(_:e)(_:f)
inductive JQ(a b c d e f g:Prop):Prop|mk(_:a)(_:b)(_:c)(_:d)(_:e)(_:f)(_:g)
inductive LS(a b c d e f g h:Prop):Prop|mk(_:a)(_:b)(_:c)(_:d)(_:e)(_:f)(_:g)(_:h)
inductive LU(a b c d e f g h i:Prop):Prop|mk(_:a)(_:b)(_:c)(_:d)(_:e)(_:f)(_:g)(_:h)(_:i)
inductive NY(a b c d e f g h i j:Prop):Prop|mk(_:a)(_:b)(_:c)(_:d)(_:e)(_:f)(_:g)(_:h)(_:i)(_:j)
inductive UG(a b c d e f g h i j k:Prop):Prop|mk(_:a)(_:b)(_:c)(_:d)(_:e)(_:f)(_:g)(_:h)(_:i)(_:j)(_:k)
inductive W9(a b c d e f g h i j k l:Prop):Prop|mk(_:a)(_:b)(_:c)(_:d)(_:e)(_:f)(_:g)(_:h)(_:i)(_:j)(_:k)(_:l)
inductive XA(a b c d e f g h i j k l m n o p:Prop):Prop|mk(_:a)(_:b)(_:c)(_:d)(_:e)(_:f)(_:g)(_:h)(_:i)(_:j)(_:k)(_:l)(_:m)(_:n)(_:o)(_:p)
inductive XB(a b c d e f g h i j k l m n o p q:Prop):Prop|mk(_:a)(_:b)(_:c)(_:d)(_:e)(_:f)(_:g)(_:h)(_:i)(_:j)(_:k)(_:l)(_:m)(_:n)(_:o)(_:p)(_:q)
inductive UT{a b:Type}(A B C D E F G H I J K:a->b->Prop):Prop|mk(a:a)(b:b)(_:A a b)(_:B a b)(_:C a b)(_:D a b)(_:E a b)(_:F a b)(_:G a b)(_:H a b)(_:I a b)(_:J a b)(_:K a b)
def Nt(K:BB):BF:=λU H Q _=>∃(a:AE)(D:List Int),U=[.ref a]/\CO K H a (D.map AB.int)/\D.length<=63/\∀J,Q (.bl AJ) J
theorem mC(K:BB)(H:AI)(a:AE)(ns:List Int)(J:ns.length<=63)(_:Pt H)(D:CO K H a (ns.map AB.int)):Nt K [.ref a] H (λv _=>v=.bl AJ) λ_ _ _=>False:=⟨a,ns,rfl,D,J,λ_=>rfl⟩
noncomputable abbrev PH:Nat:=16
structure UK where
 K:BB
 mg:AF->Option AK
 ad:CA
noncomputable def VJ:UK:=@iX UK ⟨⟨jB,λ_=>AG,⟨0,jB,0,0,0,0,0,0,0,0⟩⟩⟩ λx=>BM x.K x.mg x.ad/\¬∀(P:CS)(w:B0)(D:BW),Gr P w x.K x.mg D BE PH x.ad.vf x.ad.xj ["_law_script"] (Nt x.K)
noncomputable def AH:BB:=VJ.K
noncomputable def AZ:AF->Option AK:=VJ.mg
noncomputable def AM:CA:=VJ.ad
theorem Bs(W:Ar X e J)(V:Jy e f X.ae (BX e X.ae)=BX e X.ae)(U:X.K=AH:=by rfl):Ar X (.Attribute e f D) (V7 AH J f):=by rw[<-U];show bO W V
theorem Fs(Z:Ar X o V)(B:Ar X D W)(A:Ot D (AA (.Attribute o f J)) U.line X.ae=Be AQ)(Y:X.K=AH:=by rfl):EW X (.Assign [.Attribute o f J] D U) (cH AH V W f):=by rw[<-Y];show AAM Z B A
theorem Nn(W:X.fh=AJ)(h:Pu X D t)(Y:(Qo D X.ae).length=D.length:=by rfl)(J:(Qo D X.ae).findIdx? (·.1)=AG:=by rfl)(V:X.K=AH:=by rfl):Kx X (.Tuple D k U) (Vj AH D.length t):=by rw[<-V];show bR W h Y J
noncomputable def jX(D:AE)(J:Int)(U W Y:Option AB):Ap:=[AA (.ref D),AA (.int J),U,W,Y]
noncomputable def jY(D:AE)(J:Option AB)(U:AE)(W Y:Option AB):Ap:=[AA (.ref D),J,AA (.ref U),W,Y]
noncomputable def jZ(D J:AE)(U W:Int)(Y:Option AB):Ap:=[AA (.ref D),AA (.ref J),AA (.int U),AA (.int W),Y]
noncomputable def j8(D:AE)(J:AF)(U:Int)(V W:AE):Ap:=[AA (.ref D),AA (.str J),AA (.int U),AA (.ref V),AA (.ref W)]
noncomputable def jW(D:AE)(J U:Int)(W:AE)(Y:Int)(Z:Option AB):Ap:=[AA (.ref D),AA (.int J),AA (.int U),AA (.ref W),AA (.int Y),Z]
noncomputable def XQ(D J U:AE)(W Y Z:Option AB):Ap:=[AA (.ref D),AA (.ref J),AA (.ref U),W,Y,Z]
noncomputable def j7(D J U W:AE)(Y Z:Option AB):Ap:=[AA (.ref D),AA (.ref J),AA (.ref U),AA (.ref W),Y,Z]
noncomputable def jU(D:AE)(J U W Y:Int)(Z:AE)(A:Option AB):Ap:=[AA (.ref D),AA (.int J),AA (.int U),AA (.int W),AA (.int Y),AA (.ref Z),A]
noncomputable def RL(D J U W Y:AE)(Z A B C:Option AB):Ap:=[AA (.ref D),AA (.ref J),AA (.ref U),AA (.ref W),AA (.ref Y),Z,A,B,C]
noncomputable def jV(D:AE)(J U W:Int)(Y Z:AE)(A B:Int)(C:AE)(E:Option AB):Ap:=[AA (.ref D),AA (.int J),AA (.int U),AA (.int W),AA (.ref Y),AA (.ref Z),AA (.int A),AA (.int B),AA (.ref C),E]
noncomputable abbrev MU:AF:="abcdefghijklmnopqrstuvwxyz"
def FR(z:AF):Prop:=∀c∈z.cps.toList,97<=c/\c<123
theorem JZ(z:AF):z.length=z.cps.toList.length:=by simp[AFU]
theorem JW(a b:AF):(a++b).cps.toList=a.cps.toList++b.cps.toList:=by change(a.cps++b.cps).toList=_;simp
def jJ(z:AF):Prop:=FR z/\z.length<=12
theorem FR.wo(J:FR a)(U:FR b):FR (a++b):=λc D=>by
 rw[JW]at D;rcases C1.mp D with h|h;.show J c h
 .show U c h
theorem kT(J:0<=j)(U:j<=k)(Z:k<=(x.length:Int))(V:FR x):FR (G1 x AG (AA j))/\FR (G1 x (AA k) AG)/\((G1 x AG (AA j)).length:Int)=j/\((G1 x (AA k) AG).length:Int)=x.length-k:=by
 have W:G1 x _ _=Ti x AG (AA j):=rfl;have Y:G1 x (AA k) AG=Ti x _ _:=rfl;have A:=JZ x;rw[W,Y,ACU ⟨J,FQ U Z⟩,ACT ⟨FQ J U,by assumption⟩];show⟨λc D=>V c (QW (QX D)),λc D=>V c (QW (QX D)),?_,?_⟩
 . rw[JZ];rw[EH,L7];lia
 . rw[JZ];rw[EH,L7];omega
def sG(K:BB):BF:=λJ H Q _=>(El λ(a:AE)(D:List Int)(k:Int)=>FT (J=[.ref a,.int k]) (CO K H a (D.map AB.int)) (0<=k) (D.length<=63) (∀r:Int,Q (.int r) H))
theorem YR(T:BM AH AZ AM):T.iz.Ok BE P w AZ base 1 (sG AH):=by
 show T.iz.ok λA _ _ _ _ _ Z H B Q E h=>?_;obtain⟨a,D,i,rfl,U,W,Y,k⟩:_:=h;show⟨_,(Ah (CP (Bu OF (AD 1) (CW (Fc (K:=AH)) (by rfl) T.cx Ez #v[AD 0]) (Bt _)) (Af (BD (By AH (AD 0) (AD 1)))) Cg) (Af (BD AN))),?_⟩;show⟨_,.inl U,_,rfl,Hx (λe=>?_) λe=>k 0⟩;rw[Au]at e;have J:i.toNat<D.length:=by simp_all
 show⟨_,.int D[i.toNat],U,?_,k _⟩;have q:=Ae (xs:=D.map AB.int) (j:=i.toNat) (v:=.int D[i.toNat]) (by rw[Bo,CG J];rfl);rw[W7 W]at q;show q
noncomputable def Hh(m:Int):Nat:=97+(m%26).toNat
theorem Uo(m:Int):Cr MU.cps.toList (m%26)=AA (Hh m):=by
 have D:∀r:Fin 26,Cr MU.cps.toList (r.val)=AA (97+r.val):=by decide+kernel
 have J:=UC m (show(26)≠0 by decide);have U:=UB m (show(0)<26 by decide);have h:=D ⟨(m%26).toNat,by simp_all⟩;have e:=W7 J;rw[show((⟨(m%26).toNat,_⟩:Fin 26).val:Int)=m%26 from e]at h;show h
abbrev AO:=Int×AF×Int
noncomputable def Gb(i:AO):List AL:=[.inl i.1,.inl i.2.2]
noncomputable def GZ(i:AO):List AL:=[.inr i.2.1,.inl i.1,.inl i.2.2]
noncomputable def EM(i:AO):List AL:=[.inl i.1,.inr i.2.1,.inl i.2.2]
def UM(m:Nat)(H:AI)(x:AB)(ks:List AL):Prop:=∃a D,x=.ref a/\H a=AA (.tup (ks.map Az++D))/\(D=[]\/m<=ks.length)
theorem Rq(h:Cq H xs kss):Bf (UM m H) xs kss:=GN (λ_ _⟨a,e,q⟩=>⟨a,[],e,by rw[D4];show q,.inl rfl⟩) h
def r6:BF:=λZ H Q _=>(Iv λ(r W:AE)(Y:List AB)(D:List (List AL))(U:List AL)=>JQ (Z=[.ref r,.ref W]) (H r=AA (.lst Y)) (Bf (UM U.length H) Y D) (H W=AA (.tup (U.map Az))) ((∀J∈D,∀(i:Nat)k m,J[i]?=AA k->U[i]?=AA m->CC k=CC m)) (Cm D) (∀n:Nat,n<=D.length->(∀(i:Nat)J,i<n->D[i]?=AA J->BK J U=AJ)->(∀(i:Nat)J,n<=i->D[i]?=AA J->BK J U=AQ)->Q (.int (n:Int)) H))
theorem rQ(h:Cm kss){i j:Nat}(J:i<=j)(U:kss[i]?=AA a)(D:kss[j]?=AA b):BK b a=AQ:=by
 by_cases e:i=j;. subst e;rw[U]at D;cases D;show Lp _
 . lk;obtain⟨Y,V⟩:=BU.mp U;obtain⟨Z,W⟩:=BU.mp D;k_in;have:=Ig.mp h i j Y Z (DT J e);rw[V,W]at this;show this
theorem ZE(h:Cm kss){i j:Nat}(D:i<=j)(U:kss[i]?=AA a)(V:kss[j]?=AA b)(W:BK b J=AJ):BK a J=AJ:=AEV (show HP.kle a b from rQ h D U V) W
theorem PY(T:BM AH AZ AM):T.xi.Ok BE P w AZ base 1 r6:=by
  show T.xi.ok λB _ _ _ _ _ hr H vs Q E h=>?_;obtain⟨r,g,n,U,C,rfl,X,hw,x,hs,m,k⟩:_:=h;show⟨_,(Ah (BN 2 B AN) (Ah (BN 3 B (CW (Fc (K:=AH)) (by rfl) T.cx Ez #v[AD 0])) (Ah (bW D7 (Bu OF (AD 2) (AD 3) (Bt _)) (Ah (BN 4 B (Ac Dg (Ac Et (AD 2) (AD 3)) AN)) (Af (CP (Bu (zQ (K:=AH) hr.wz) (By AH (AD 0) (AD 4)) (AD 1) (Bt _)) (Af (BN 2 B (Ac Et (AD 4) AN))) (Af (BN 3 B (AD 4))))))) (Af (BD (AD 2)))))),?_⟩;obtain⟨O,F⟩:=Cn hw;show⟨_,.inl (AW X),?_⟩;show ABT (λZ S=>S=H/\∃(J D:Nat)(l:Option AB),Z=(jZ r g (J:Int) (D:Int) l)/\J<=D/\D<=U.length/\(∀(i:Nat)W,i<J->U[i]?=AA W->BK W C=AJ)/\(∀(i:Nat)W,D<=i->U[i]?=AA W->BK W C=AQ)) (λZ _=>match Z with|[_,_,AA (.int J),AA (.int D),_]=>(D-J).toNat|_=>0) ⟨rfl,0,U.length,AG,by rw[O];rfl,Bm _,Ai _,λi W h=>by simp_all,λi W h e=>by have:=(BU.mp e).1;show absurd this (eQ.mpr h)⟩ ?_ ?_
  . intro Z S hI;obtain⟨rfl,J,D,l,rfl,h1,c,d,f⟩:_:=hI;show⟨_,rfl,Hx (λe=>?_) λe=>?_⟩
    . have e:J<D:=by simp_all
      have A:((J:Int)+(D:Int))/2=(((J+D)/2:Nat):Int):=by rfl
      have N:(J+D)/2<U.length:=by lia
      have L:U[(J+D)/2]?=AA U[(J+D)/2]:=CG N;have M:=CG (show(J+D)/2<n.length by simp_all);obtain⟨a,zs,t,y,hz⟩:_:=F _ _ _ M L;rw[t]at M;have I:Cr n (((J:Int)+(D:Int))/2)=AA (.ref a):=by rw[A];show Ae M
      show⟨(zzd rfl),_,_,AW X,I,a,g,U[(J+D)/2],zs,C,rfl,rfl,Aq y,Aq x,hz,hs _ (AD1 N),_,rfl,Jh (λb=>?_) λb=>?_⟩
      . show⟨⟨rfl,(J+D)/2+1,D,_,by change _=[_,_,AA (AB.int _),_,_];rw[show((((J+D)/2+1:Nat)):Int)=((J:Int)+(D:Int))/2+1 by rfl];rfl,by lia,c,λi W Y G=>ZE m (Ej Y) G L b,f⟩,?_⟩;change((D:Int)-(((J:Int)+(D:Int))/2+1)).toNat<((D:Int)-(J:Int)).toNat;lia
      . show⟨⟨rfl,J,(J+D)/2,_,by change _=[_,_,_,AA (AB.int _),_];rw[<-A];rfl,by lia,Bz N,d,λi W Y G=>?_⟩,?_⟩;.cases z:BK W C with|false=>rfl|true=>rw[ZE m Y L G z]at b;cases b
        . change((((J:Int)+(D:Int))/2)-(J:Int)).toNat<((D:Int)-(J:Int)).toNat;lia
    . have e:J=D:=Eb h1 (ADm.mp (NW e));subst e;show k J c d f
  . intro Z H1 R R' hR q;lk;obtain⟨v,o,q1⟩:=Sg q;obtain⟨u,p,q2⟩:=Sg q1;obtain⟨i,rfl,q3⟩:=Ia q2;obtain⟨j,rfl,b,s,q4⟩:=Ia q3;k_in;change QG Z[2]? λv=>QG Z[3]? _;rw[o,p];show⟨b,s,hR _ _ q4⟩
def MX(ex:List AE)(H:AI)(L:List AO)(q:AL×AB):Prop:=∃(z:AF)(r:AE)(J:List AB)(D:List (List AL)),q=(.inr z,.ref r)/\r∉ex/\H r=AA (.lst J)/\Cq H J D/\D≠[]/\Cm D/\D.Perm ((L.filter λi=>Ab (i.2.1=z)).map Gb)
structure C5(ad:CA)(ex:List AE)(H:AI)(x d:AE)(L:List AO):Prop where bb:∃dx,H x=AA (.ins ad.fk dx [("rows",.ref d)])ao:∃kvs,H d=AA (.dK kvs)/\(kvs.map (·.1)).Nodup/\kvs.length<=L.length/\(∀q∈kvs,MX ex H L q)/\∀i∈L,(Br i.2.1:AL)∈kvs.map (·.1)
theorem MX.ab(h:MX ex H L q)(W:∀b xs,b∉ex->H b=AA (.lst xs)->H' b=AA (.lst xs))(t:B7 H H'):MX ex H' L q:=by obtain⟨z,r,xs,D,e,J,U,hw,r1⟩:_:=h;show⟨z,r,xs,D,e,J,W _ _ J U,hw.ab t,r1⟩
theorem C5.ab(h:C5 J ex H x d L)(A:∀C D U,H x=AA (.ins C D U)->H' x=AA (.ins C D U))(Y:∀kvs,H d=AA (.dK kvs)->H' d=AA (.dK kvs))(Z:∀b xs,b∉ex->H b=AA (.lst xs)->H' b=AA (.lst xs))(t:B7 H H'):C5 J ex H' x d L:=by obtain⟨⟨D,e⟩,kvs,V,n,l,q,c⟩:_:=h;show⟨⟨D,A _ _ _ e⟩,kvs,Y _ V,n,l,λp W=>(q p W).ab Z t,c⟩
theorem C5.ak(h:C5 D ex H x d L)(s:Aj H H'):C5 D ex H' x d L:=h.ab (λC U V e=>s _ _ e) (λJ e=>s _ _ e) (λb W _ e=>s _ _ e) s.tp
theorem C5.wd(h:C5 J ex H x d L)(s:Bj d' H H')(e:H d'=AA (.dK kvs))(U:d≠d'):C5 J ex H' x d L:=h.ab (λC Y Z D=>s _ _ (λz=>by rw[z,e]at D;cases D) D) (λkvs D=>s _ _ U D) (λb W _ D=>s _ _ (λz=>by rw[z,e]at D;cases D) D) (s.tp e λW=>by intro z;cases z)
theorem C5.uj(h:C5 J ex H x d L)(e:H c=AA (.lst xs))(W:c∈ex):C5 J ex (AR H c o) x d L:=h.ab (λC Z A D=>by rw[Aa (λz=>by rw[z,e]at D;cases D)];show D) (λY D=>by rw[Aa (λz=>by rw[z,e]at D;cases D)];show D) (λb xs U D=>by rw[Aa (λz=>U (by rw[z];show W))];show D) ((KD H).dz e λxs=>by intro z;cases z)
theorem C5.qc(h:C5 W ex H x d L)(z:AF)(e:H d=AA (.dK kvs)):(BZ kvs (.inr z)=AG/\(L.filter λi=>Ab (i.2.1=z))=[])\/∃r xs kss,BZ kvs (.inr z)=AA (.ref r)/\r∉ex/\H r=AA (.lst xs)/\Cq H xs kss/\kss≠[]/\Cm kss/\kss.Perm ((L.filter λi=>Ab (i.2.1=z)).map Gb):=by lk;obtain⟨_,U,D,n,l,q,c⟩:=h;rw[e]at D;cases D;k_in;cases J:BZ kvs _ with|none=>show .inl ⟨rfl,LC.mpr λi Z A=>?_⟩;have:=c i Z;rw[AHX A]at this;show V8 J this|some v=>lk;obtain⟨B,r,xs,kss,Y,r1⟩:=q _ (Gy J);cases Y;k_in;show .inr ⟨r,xs,kss,rfl,r1⟩
theorem U5{L:List AO}{kss:List (List AL)}(p:kss.Perm ((L.filter λi=>Ab (i.2.1=z)).map Gb)):kss.length<=L.length:=by rw[p.length_eq,Au];show Fh _ _
theorem Mg{L:List AO}{kss:List (List AL)}(h:kss.Perm ((L.filter p).map Gb)):∀ks∈kss,∃t a,ks=[.inl t,.inl a]:=λks D=>by obtain⟨i,_,rfl⟩:_:=Ax.mp (h.mem_iff.mp D);show⟨_,_,rfl⟩
theorem Rn{kss:List (List AL)}{D:List AL}(h:∀ks∈kss,∃t a,ks=[.inl t,.inl a])(W:∀m∈D,CC m=AJ):∀ks∈kss,∀(i:Nat)k m,ks[i]?=AA k->D[i]?=AA m->CC k=CC m:=λks V i k m J U=>by obtain⟨t,a,rfl⟩:_:=h ks V;rw[W m (Cp U)];have:=Cp J;simp at this;rcases this with rfl|rfl<;>rfl
theorem RP(xs:List AB)(n:Nat)(h:n<=xs.length):Fe xs AG (AA (n:Int))=xs.take n:=by
 unfold Fe;have J:CT xs.length 0 AG=0:=rfl;have D:CT xs.length xs.length (AA (n))=n:=by change(if(n:Int)<0 then((n:Int)+(xs.length)).toNat else DR _ _)=n;rw[AHS (ADl _)];simp_all
 rw[D];rfl
theorem RO(xs:List AB)(n:Nat)(h:n<=xs.length):Fe xs (AA (n:Int)) AG=xs.drop n:=by
 unfold Fe;have J:CT xs.length _ AG=xs.length:=rfl;have D:CT xs.length 0 (AA (n))=n:=by change(if(n)<0 then((n)+(xs.length:Int)).toNat else DR _ _)=n;lia
 rw[D];show Dj (by rw[L7];show Ai _)
theorem kR(xs:List AB)(n m:Nat)(h:n<=xs.length)(U:m<=xs.length):Fe xs (AA (n:Int)) (AA (m:Int))=(xs.drop n).take (m-n):=by
 unfold Fe;have D:∀d,CT xs.length d (AA (m))=m:=λd=>by change(if(m)<0 then((m)+(xs.length:Int)).toNat else DR _ _)=m;lia
 have J:∀d,CT _ d (AA (n))=n:=λd=>by change(if(n)<0 then((n)+(xs.length:Int)).toNat else DR _ xs.length)=n;lia
 rw[D,J]
theorem qM(sd:Cm kss)(Z:∀(i:Nat)ks,i<n->kss[i]?=AA ks->BK ks J=AJ)(A:∀(i:Nat)ks,n<=i->kss[i]?=AA ks->BK ks J=AQ):Cm (kss.take n++[J]++kss.drop n):=by
  have B:∀ks∈kss.take n,BK ks J=AJ:=λks W=>by obtain⟨i,V,e⟩:=Gz.mp W;rw[EH]at V;show Z i ks (Bl V (LJ _ _)) (by rw[<-e,TQ];show CG _)
  have Y:∀ks∈kss.drop n,BK ks J=AQ:=λks W=>by obtain⟨i,V,e⟩:=Gz.mp W;show A (n+i) ks (by simp) (by rw[<-e,List.getElem_drop];show CG _)
  have C:Cm (kss.take n++kss.drop n):=by rw[QZ];show sd
  obtain⟨s1,s2,s3⟩:_:=OU.mp C;show OU.mpr ⟨OU.mpr ⟨s1,d8 _ _,λa D b U=>?_⟩,s2,λa D b U=>?_⟩
  . rw[Bc.mp U];show KR (O:=HP) (B a D)
  . rcases C1.mp D with D|D;.show s3 a D b U
    . rw[Bc.mp D];show Y b U
def uL(U:CA):BF:=λV H Q _=>(JT λ(J:List AE)(x d p:AE)(L:List AO)(i:AO)=>HZ (V=[.ref x,.ref p]) (C5 U J H x d L) ((∀c∈J,∃o,H c=AA o)) (H p=AA (.tup ((EM i).map Az))) (L.length<=30000) (∀D,Bj d H D->C5 U J D x d (L++[i])->Q .non D))
theorem Xg{L:List AO}{i:AO}:((L++[i]).filter λj=>Ab (j.2.1=z))=if i.2.1=z then(L.filter λj=>Ab (j.2.1=z))++[i]else L.filter λj=>Ab (j.2.1=z):=by
 rw[F0];by_cases e:i.2.1=z;.rw[AHT e,F1,AHT (AHV e)];rfl
 . rw[AHS e,F1,AHS (by simpa using e)];simp
theorem Ye(T:BM AH AZ AM):T.qf.Ok BE P w AZ base 2 (uL AM):=by
  show T.qf.ok λnd _ _ _ _ _ hr H vs Q E h=>?_;obtain⟨ex,x,d,p,L,⟨t,z,a⟩,rfl,sr,hex,S,hL,k⟩:_:=h;show⟨_,(Ah (BN 2 nd (CY #v[BA AH (AD 1) AN,BA AH (AD 1) AN])) (Ah (BN 3 nd (Vw hr.u1 (Bs (AD 0) rfl) (BA AH (AD 1) AN) (CM Fx) ⟨rfl,rfl,rfl,rfl⟩)) (Ah (BN 4 nd (BC (PY T) hr #v[AD 3,AD 2])) (Af (M5 hr.u1 (Bs (AD 0) rfl) (BA AH (AD 1) AN) (Ac Ff (Ac Ff (Du (Gx (K:=AH)) (AD 3) Eu (DL (AD 4))) (CM #v[AD 2])) (Du (Gx (K:=AH)) (AD 3) (DL (AD 4)) Eu)) rfl))))),?_⟩;have sz:As=16777216:=CL;have i0:∀{a b c:AB},Cr [a,b,c] 0=AA a:=Ae (j:=0) rfl;have i1:∀{a b c:AB},Cr [a,b,c] 1=AA b:=Ae (j:=1) rfl;have i2:∀{a b c:AB},Cr [a,b,c] 2=AA c:=Ae (j:=2) rfl;have S:H p=AA (.tup [.int t,.str z,.int a]):=S;show⟨_,_,Aq S,i0,_,_,Aq S,i2,A1 rfl,λU hpp=>?_⟩;have s1:=C9 (o:=.tup [.int t,.int a]) hpp;have I:(AR H U (.tup [.int t,.int a])) U=AA (.tup ([.inl t,.inl a].map Az)):=Ak;generalize AR H U (.tup [.int t,.int a])=H1 at s1 I⊢;have O:=sr.ak s1;lk;obtain⟨dx,eo⟩:=O.bb;obtain⟨B,ed,nd',hk,hq,hc⟩:=id O.ao;k_in;have isd:Mn H1 d:=.inl ⟨B,.inl ed⟩;show⟨_,⟨eo,T.cg,T.bw,rfl⟩,d,rfl,isd,_,_,Aq (s1 _ _ S),i1,Bm _,λel hel=>?_⟩;show Ao (o:=.lst []) hel λH2 s2 eel=>?_;have sr2:=O.ak s2;have l:=s2 _ _ ed;lk;obtain⟨M,D,J,erw,s,hw,sd,pm⟩:∃(r:AE)(D:List AB)(J:List (List AL)),(BZ B (.inr z)).getD (.ref el)=.ref r/\H2 r=AA (.lst D)/\Cq H2 D J/\Cm J/\J.Perm ((L.filter λi=>Ab (i.2.1=z)).map Gb):=by
    rcases sr2.qc z l with⟨e1,e2⟩|⟨r,D,J,e1,_,s,hw,_,sd,pm⟩;.show⟨el,[],[],by rw[e1];rfl,eel,KO _,.nil,by rw[e2];show .nil⟩
    .show⟨r,D,J,by rw[e1];rfl,s,hw,sd,pm⟩
  k_in;show⟨_,JI (k:=Br z) l,?_⟩;rw[erw];have hl:=U5 pm;have hxl:=hw.bh;show⟨M,U,D,J,_,rfl,s,Rq hw,s2 _ _ I,Rn (Mg pm) (by intro m X;simp only[BY,F3,AHZ]at X;rcases X with rfl|rfl<;>rfl),sd,λn hn b1 b2=>?_⟩;show⟨_,rfl,M,D,rfl,AW s,λc1 hc1=>?_⟩;rw[RP D n (by simp_all)];show Ao (o:=.lst (D.take n)) hc1 λH3 s3 ec1=>?_;show⟨A1 rfl,λc2 hc2=>?_⟩;show Ao (o:=.lst [.ref U]) hc2 λH4 s4 ec2=>?_;show⟨c1,c2,_,_,rfl,rfl,s4 _ _ ec1,ec2,by rw[EH];simp;lia,λc3 hc3=>?_⟩;have s5:=C9 (o:=.lst (D.take n++[.ref U])) hc3;have g:(AR H4 c3 (.lst (D.take n++[.ref U]))) c3=AA (.lst (D.take n++[.ref U])):=Ak;generalize AR H4 c3 (.lst (D.take n++[.ref U]))=H5 at s5 g⊢;have N:=(s3.aa s4).aa s5;show⟨_,rfl,M,D,rfl,AW (N _ _ s),λc4 hc4=>?_⟩;rw[RO D n (by simp_all)];show Ao (o:=.lst (D.drop n)) hc4 λH6 s6 ec4=>?_;show⟨c3,c4,_,_,rfl,rfl,s6 _ _ g,ec4,by rw[Ba,EH,L7];simp;lia,λY u=>?_⟩;have s7:=C9 (o:=.lst (D.take n++[.ref U]++D.drop n)) u;have G:(AR H6 Y (.lst (D.take n++[.ref U]++D.drop n))) Y=AA (.lst (D.take n++[.ref U]++D.drop n)):=Ak;have C:=N.aa (s6.aa s7);have v:H6 Y=AG:=u;have nex:Y∉ex:=λX=>by obtain⟨o,ho⟩:=hex Y X;have:=((s1.aa s2).aa (N.aa s6)) _ _ ho;rw[v]at this;cases this
  generalize AR H6 Y (.lst (D.take n++[.ref U]++D.drop n))=R at s7 G C⊢;have W:=s2.aa C;have s07:=s1.aa W;have sr7:=sr2.ak C;obtain⟨dx7,A⟩:=sr7.bb;have Z:=W _ _ ed;show⟨_,⟨A,T.cg,T.bw,rfl⟩,_,_,Aq (s07 _ _ S),i1,d,_,rfl,Nw (k:=Br z) Z (by lia),?_⟩;have rw7:Cq R (D.take n++[.ref U]++D.drop n) (J.take n++[[.inl t,.inl a]]++J.drop n):=by have h7:=hw.ab C.tp;show EE (EE (QI n h7) (.cons ⟨U,rfl,W _ _ I⟩ .nil)) (OG n h7)
  have pm7:ADr (J.take n++[([.inl t,.inl a]:List AL)]++J.drop n) (((L.filter λi:AO=>Ab (i.2.1=z))++[(t,z,a)]).map Gb):=by rw[CQ,Dh];show AD8.trans ((dJ _ ?_).trans (List.perm_append_singleton (Gb (t,z,a)) _).symm);change(J.take n++J.drop n).Perm _;rw[QZ];show pm
  have nr:∀b F,R b=AA (.lst F)->b≠d:=λb F e f=>by rw[f,Z]at e;cases e
  show k _ ((s07.x d).dz) ⟨⟨dx7,by rw[Aa (λf=>by rw[f,Z]at A;cases A)];show A⟩,_,Ak,OE nd',?_,λq hq'=>?_,λj y=>?_⟩
  . have:=Vo B (Br z) (.ref Y);rw[Ba,GP];show Ag this (Jv.mpr hk)
  . have tp:B7 R (AR R d (.dK (Bk B (Br z) (.ref Y)))):=(KD R).dz Z λD=>by intro z;cases z
    rcases Mx hq' with rfl|⟨X,hne⟩
    . show⟨z,Y,_,_,rfl,nex,by rw[Aa (nr _ _ G)];show G,rw7.ab tp,by simp,qM sd b1 b2,?_⟩;rw[Xg,AHT rfl];show pm7
    . obtain⟨f,r',F,kss',rfl,h1,h2,h3,h4,h5,h6⟩:_:=(hq q X).ab (H':=R) (λb D _ e=>W _ _ e) W.tp;show⟨f,r',F,kss',rfl,h1,by rw[Aa (nr _ _ h2)];show h2,h3.ab tp,h4,h5,?_⟩;rw[Xg,AHS (λe=>hne (by change Br f=_;rw[<-e]))];show h6
  . rw[SY];rcases C1.mp y with y|y
    . have:=hc j y;split;.show this
      .show Ic _ this
    . rw[Bc.mp y];split;.assumption
      .show EO _ (Bc.mpr rfl)
theorem mZ(sd:Cm kss)(hi:∀ks∈kss,∃t a,ks=[.inl t,.inl a]){lo:Int}(U:∀(i:Nat)ks,i<n->kss[i]?=AA ks->BK ks [.inl lo]=AJ)(V:∀(i:Nat)ks,n<=i->kss[i]?=AA ks->BK ks [.inl lo]=AQ)(W:∀(i:Nat)ks,i<m->kss[i]?=AA ks->BK ks [.inl (D+1)]=AJ)(Y:∀(i:Nat)ks,m<=i->kss[i]?=AA ks->BK ks [.inl (D+1)]=AQ):(kss.drop n).take (m-n)=kss.filter λks=>match ks with|.inl t::_=>Ab (lo<=t/\t<=D)|_=>AQ:=by
  have J:∀t a b:Int,BK [.inl t,.inl a] [.inl b]=Ab _:=λt a b=>by
    change(if(Cd t)=Cd b then AQ else Ab _)=_;split;. rename_i e;have e:=Iq e;rw[e];show(AHW (jD b)).symm
    .rfl
  show P6 λi ks e=>?_;obtain⟨t,a,rfl⟩:_:=hi ks (Cp e);by_cases Z:i<n
  . have:=U i _ Z e;rw[J]at this;lia
  . have A:=V i _ (by simp_all) e;rw[J]at A;by_cases B:i<m
    . have:=W i _ B e;rw[J]at this;lia
    . have:=Y i _ (by simp_all) e;rw[J]at this;lia
def t6(Y:CA):BF:=λA H Q _=>(Jz λ(Z:List AE)(x d:AE)(L:List AO)(z:AF)(V U:Int)=>Iu (A=[.ref x,.str z,.int V,.int U]) (C5 Y Z H x d L) (L.length<=30000) (∀J r W D,Aj H J->H r=AG->J r=AA (.lst W)->Cq J W D->Cm D->D.Perm ((L.filter λi=>Ab (i.2.1=z/\V<=i.1/\i.1<=U)).map Gb)->Q (.ref r) J))
theorem oJ(T:BM AH AZ AM):T.oh.Ok BE P w AZ base 2 (t6 AM):=by
 show T.oh.ok λnd _ _ _ _ _ p H vs Q E h=>?_;obtain⟨ex,x,d,L,z,Y,B,rfl,q,hL,k⟩:_:=h;show⟨_,(Ah (BN 4 nd (Vw p.u1 (Bs (AD 0) rfl) (AD 1) (CM Fx) ⟨rfl,rfl,rfl,rfl⟩)) (Af (BD (Du (Gx (K:=AH)) (AD 4) (DL (BC (PY T) p #v[AD 4,CY #v[AD 2]])) (DL (BC (PY T) p #v[AD 4,CY #v[Ac Et (AD 3) AN]])))))),?_⟩;have sz:As=16777216:=CL;lk;obtain⟨dx,eo⟩:=q.bb;obtain⟨R,u,nd',hk,hq,hc⟩:=id q.ao;k_in;show⟨_,⟨eo,T.cg,T.bw,rfl⟩,d,rfl,.inl ⟨R,.inl u⟩,Bm _,λv g=>?_⟩;show Ao (o:=.lst []) g λX s2 e=>?_;have s:=q.ak s2;have I:=s2 _ _ u;lk;obtain⟨A,U,D,f,O,hw,F,Z⟩:∃(r:AE)(U:List AB)(D:List (List AL)),(BZ R (.inr z)).getD (.ref v)=.ref r/\X r=AA (.lst U)/\Cq X U D/\Cm D/\D.Perm ((L.filter λi=>Ab (i.2.1=z)).map Gb):=by
  rcases s.qc z I with⟨G,c⟩|⟨r,U,D,G,_,O,hw,_,F,Z⟩;.show⟨v,[],[],by rw[G];rfl,e,KO _,.nil,by rw[c];show .nil⟩
  .show⟨r,U,D,by rw[G];rfl,O,hw,F,Z⟩
 k_in;show⟨_,JI (k:=Br z) I,?_⟩;rw[f];have hl:=U5 Z;have hxl:=hw.bh;have one:∀m∈([Cd Y]:List AL),CC m=AJ:=by intro m C;rw[Bc.mp C];rfl
 show⟨A1 rfl,λa j=>?_⟩;have s3:=C9 (o:=.tup [.int Y]) j;have M:(AR X a (.tup [.int Y])) a=AA (.tup ([Cd Y].map Az)):=Ak;generalize AR X a (.tup [.int Y])=t at s3 M⊢;show⟨A,a,U,D,_,rfl,s3 _ _ O,Rq (hw.ab s3.tp),M,Rn (Mg Z) (by intro m C;rw[Bc.mp C];rfl),F,λn hn a1 a2=>⟨_,rfl,?_⟩⟩;show⟨A1 rfl,λb l=>?_⟩;have s4:=C9 (o:=.tup [.int (B+1)]) l;have N:(AR t b (.tup [.int (B+1)])) b=AA (.tup ([Cd (B+1)].map Az)):=Ak;generalize AR t b (.tup [.int (B+1)])=H4 at s4 N⊢;have J:=s3.aa s4;show⟨A,b,U,D,_,rfl,J _ _ O,Rq (hw.ab J.tp),N,Rn (Mg Z) (by intro m C;rw[Bc.mp C];rfl),F,λm C b1 b2=>⟨_,rfl,?_⟩⟩;show⟨A,U,rfl,AW (J _ _ O),λr W=>?_⟩;rw[kR U n m (by simp_all) (by simp_all)];have S:=s2.aa J;have y:=mZ F (Mg Z) a1 a2 b1 b2;show k _ r _ _ (S.dz W) (S.az W) Ak (QI _ (OG _ (hw.ab (J.dz W).tp))) ?_ ?_
 . rw[y];show F.sublist QU
 . rw[y];show(Z.filter _).trans (TF ?_);rw[ABZ,TK];congr 1;show NB λi _=>?_;change(Ab (Y<=i.1/\i.1<=B)&&Ab (i.2.1=z))=_;by_cases G:i.2.1=z<;>by_cases c:Y<=i.1/\i.1<=B<;>simp[G,c]
theorem mF{D J:Type}{f:D->J}{l:List D}{i:Nat}{x:J}(h:(l.map f)[i]?=AA x):∃y,l[i]?=AA y/\f y=x:=by rw[Bo]at h;show EK.mp h
theorem mB[DecidableEq D](f:J->D)(L:List J)(ks:List D)(A:ks.Nodup)(U:∀x∈L,f x∈ks)(V:∀k∈ks,∃x∈L,f x=k):ks.length<=L.length:=by
 rw[<-(Vg f L ks A U).length_eq];have g:∀ks:List D,(∀k∈ks,∃x∈L,f x=k)->ks.length<=(ks.flatMap λk=>L.filter λx=>Ab (f x=k)).length:=λks=>by induction ks with |nil=>intro _;show Ai _|cons k ks Z=> intro h;rw[Ew,Ba,Ex];obtain⟨x,Y,e⟩:=h k Ci;have:0<(L.filter λx=>Ab (f x=k)).length:=ABb (EJ.mpr ⟨Y,AHV e⟩);have:=Z λk W=>h k (D5 _ W);lia
 show g ks V
theorem mK[DecidableEq D]{q:D×AB}(h:q∈kvs)(J:q.1≠k):q∈Bk kvs k v:=by
 unfold Bk;split;.show Ax.mpr ⟨q,h,by rw[AHS J]⟩
 .show Ic _ h
theorem Ut[DecidableEq D]{q:D×AB}:q∈DK kvs k↔q∈kvs/\q.1≠k:=by unfold DK;rw[EJ,AHY]
theorem RZ(t a b:Int):BK [.inl t,.inl a] [.inl b]=Ab (t<b):=by
 change(if(Cd t)=Cd b then AQ else Ab _)=_;split
 . rename_i e;have e:=Iq e;rw[e];show(AHW (jD b)).symm
 .rfl
theorem kZ{kss:List (List AL)}(hi:∀ks∈kss,∃t a,ks=[.inl t,.inl a]){lo:Int}(D:∀(i:Nat)ks,i<n->kss[i]?=AA ks->BK ks [.inl lo]=AJ)(J:∀(i:Nat)ks,n<=i->kss[i]?=AA ks->BK ks [.inl lo]=AQ):kss.drop n=kss.filter λks=>match ks with|.inl t::_=>Ab (lo<=t)|_=>AQ:=by
 have:=P6 (l:=kss) (n:=n) (m:=kss.length) (p:=λks=>match ks with|.inl t::_=>Ab (lo<=t)|_=>AQ) λi ks e=>by
  obtain⟨t,a,rfl⟩:=hi ks (Cp e);have W:=(BU.mp e).1;by_cases U:i<n
  . have:=D i _ U e;rw[RZ]at this;lia
  . have V:=J i _ (by simp_all) e;rw[RZ]at V;simp_all
 rw[Dj (by rw[L7];show Ai _)]at this;show this
noncomputable def CH(D:Int)(L:List AO):List AO:=L.filter λi=>Ab (D<=i.1)
theorem Ph(D:Int)(L:List AO):(CH D L).length<=L.length:=Fh _ _
theorem kY{L:List AO}{kss:List (List AL)}(J:kss.Perm ((L.filter λi=>Ab (i.2.1=z)).map Gb))(e:kss.drop n=kss.filter λks=>match ks with|.inl t::_=>Ab (D<=t)|_=>AQ):(kss.drop n).Perm (((CH D L).filter λi=>Ab (i.2.1=z)).map Gb):=by rw[e];show(J.filter _).trans (TF ?_);unfold CH;rw[ABZ,TK,TK];congr 1;show NB λi _=>?_;change(Ab _&&Ab _)=_;rw[Bool.and_comm]
def sR(U:CA):BF:=λW H Q _=>(Iv λ(J:List AE)(x d:AE)(L:List AO)(V:Int)=>FT (W=[.ref x,.int V]) (C5 U J H x d L) ((∀c∈J,∃o,H c=AA o)) (L.length<=30000) (∀D,Bj d H D->C5 U J D x d (CH V L)->Q .non D))
theorem nK(T:BM AH AZ AM):T.oa.Ok BE P w AZ base 2 (sR AM):=by
  show T.oa.ok λnd _ _ _ _ _ hr H vs Q E h=>?_;obtain⟨ex,x,d,L,le,rfl,sr,hex,hL,k⟩:_:=h;show⟨_,(Af (D3 D7 rfl (DQ (K:=AH) (EF (Zr (K:=AH) rfl) (by rfl) T.gu MC #v[Bs (Bd 0) rfl])) (Jm (i:=2) nd rfl (FN rfl)) (Ah (KN (i:=3) nd rfl (FN rfl) (Jl hr.u1 (Bs (Bd 0) rfl) (Bd 2) (λ_ _=>rfl))) (Ah (KN (i:=4) nd rfl (FN rfl) (Du (Gx (K:=AH)) (Bd 3) (DL (BC (PY T) hr #v[Bd 3,CY #v[Bd 1]])) Eu)) (Af (CP (Bu bD (CW (Zq (K:=AH)) (by rfl) T.cx Ez #v[Bd 4]) AN (Bt _)) (Af (M5 hr.u1 (Bs (Bd 0) rfl) (Bd 2) (Bd 4) rfl)) (Af (Dr (bN (Bs (Bd 0) rfl) (Bd 2) ⟨rfl,rfl,rfl,rfl⟩))))))))),?_⟩;have sz:As=16777216:=CL;lk;obtain⟨dx,eo⟩:=sr.bb;obtain⟨kvs,ed,nd',hk,hq,hc⟩:=id sr.ao;k_in;show⟨_,rfl,_,⟨eo,T.cg,T.bw,rfl⟩,d,kvs,rfl,ed,λl hl=>?_⟩;have s1:=C9 (o:=.lst (kvs.map λp=>Az p.1)) hl;have el:(AR H l (.lst (kvs.map λp=>Az p.1))) l=AA (.lst (kvs.map λp=>Az p.1)):=Ak;have nld:l≠d:=(Bh ed hl).symm;generalize AR H l (.lst (kvs.map λp=>Az p.1))=H1 at s1 el⊢;have ed1:=s1 _ _ ed;have tpd:∀{H'},Bj d H1 H'->B7 H1 H':=λsx=>sx.tp ed1 λxs=>by intro z;cases z
  have lst':∀{H':AI}{b:AE}{xs:List AB},Bj d H1 H'->H1 b=AA (.lst xs)->H' b=AA (.lst xs):=λsx e=>sx _ _ (λz=>by rw[z,ed1]at e;cases e) e;show⟨l,rfl,⟨_,AW el⟩,HK (K:=AH) (xs:=kvs.map λp=>Az p.1) (λn σ H'=>(JS λ(o2 o3 o4:Option AB)(kvs':List (AL×AB))=>LS (σ=(jX x le o2 o3 o4)) (Bj d H1 H') (H' d=AA (.dK kvs')) ((kvs'.map (·.1)).Nodup) (kvs'.length<=30000) ((∀q∈kvs',(q.1∈(kvs.map (·.1)).take n/\MX ex H' (CH le L) q)\/(q.1∉(kvs.map (·.1)).take n/\q∈kvs))) ((∀q∈kvs,q.1∉(kvs.map (·.1)).take n->q∈kvs')) (∀i∈CH le L,(Br i.2.1:AL)∈(kvs.map (·.1)).take n->(Br i.2.1:AL)∈kvs'.map (·.1)))) ⟨AG,AG,AG,kvs,rfl,λb o _ e=>e,ed1,nd',Ag hk hL,λq hq=>.inr ⟨by simp,hq⟩,λq hq _=>hq,λi _ hi=>by simp at hi⟩ (λn σ H' _ hh=>by obtain⟨_,_,_,_,_,sx,_⟩:=hh;show AW (lst' sx el)) ?_ ?_⟩
  . intro n y σ H2 hy hI;lk;obtain⟨o2,o3,o4,kvs',rfl,sx2,ed2,nd2,lk2,a2,b2,c2⟩:=hI;obtain⟨q0,hq0,rfl⟩:=mF hy;obtain⟨z,r0,xs0,kss0,e0,_⟩:=hq q0 (Cp hq0);have hk0:(kvs.map (·.1))[n]?=AA (.inr z):=by rw[Bo,hq0,e0];rfl
    have hnl:n<(kvs.map (·.1)).length:=(BU.mp hk0).1;have hnot:(Br z:AL)∉(kvs.map (·.1)).take n:=λhm=>by obtain⟨i,hi,e⟩:=Gz.mp hm;rw[EH]at hi;rw[TQ]at e;have e2:=(BU.mp hk0).2;have:=(dY nd').mp (e.trans e2.symm);lia
    have tk:(kvs.map (·.1)).take (n+1)=(kvs.map (·.1)).take n++[.inr z]:=by rw[DH,hk0];rfl
    have mem1:q0∈kvs':=b2 q0 (Cp hq0) (by rw[e0];show hnot);have hkm:(Br z:AL)∈kvs'.map (·.1):=Ax.mpr ⟨q0,mem1,by rw[e0]⟩;obtain⟨v,hv⟩:=NA hkm;have hvk:((Br z:AL),v)∈kvs:=by
      rcases a2 _ (Gy hv)with⟨h1,_⟩|⟨_,h2⟩;.show absurd h1 hnot
      .show h2
    obtain⟨z',r,xs,kss,e1,hrx,er,hw,hne,sd,pm⟩:=hq _ hvk;cases e1;k_in;have er2:=lst' sx2 (s1 _ _ er);have hw2:=(hw.ab s1.tp).ab (tpd sx2);have eo2:=sx2 _ _ (λz=>by rw[z,ed]at eo;cases eo) (s1 _ _ eo);have yv:Az q0.1=.str z:=by rw[e0];rfl
    rw[yv];have hl':=U5 pm;have hxl:=hw.bh;show⟨_,rfl,_,⟨eo2,T.cg,T.bw,rfl⟩,_,rfl,d,_,rfl,(by have:=JI (k:=Br z) ed2;rw[hv]at this;show this),?_⟩;show⟨_,rfl,_,rfl,_,rfl,eK rfl,λp hp=>?_⟩;have s3:=C9 (o:=.tup [.int le]) hp;have ep:(AR H2 p (.tup [.int le])) p=AA (.tup ([Cd le].map Az)):=Ak;generalize AR H2 p (.tup [.int le])=H3 at s3 ep⊢;show⟨r,p,xs,kss,_,rfl,s3 _ _ er2,Rq (hw2.ab s3.tp),ep,Rn (Mg pm) (by intro m hm;rw[Bc.mp hm];rfl),sd,λm hm b1 b2'=>⟨_,rfl,?_⟩⟩;have dr:=kZ (Mg pm) b1 b2';have pm2:=kY pm dr;have sd2:Cm (kss.drop m):=sd.sublist (ABX _ _);show⟨r,xs,rfl,AW (s3 _ _ er2),λc hc'=>?_⟩;rw[RO xs m (by simp_all)];have s4:=C9 (o:=.lst (xs.drop m)) hc';have ec:(AR H3 c (.lst (xs.drop m))) c=AA (.lst (xs.drop m)):=Ak;have nex:c∉ex:=λhm=>by
      obtain⟨o,ho⟩:=hex c hm;by_cases z:c=d;.rw[z,s3 _ _ ed2]at hc';cases hc'
      .rw[s3 _ _ (sx2 _ _ z (s1 _ _ ho))]at hc';cases hc'
    generalize AR H3 c (.lst (xs.drop m))=H4 at s4 ec⊢;have s34:=s3.aa s4;have ed4:=s34 _ _ ed2;have eo4:=s34 _ _ eo2;have sx4:Bj d H1 H4:=sx2.aa (s34.x d);have hw4:Cq H4 (xs.drop m) (kss.drop m):=OG m (hw2.ab s34.tp);have ncd:c≠d:=λz=>by rw[z,ed4]at ec;cases ec
    have tpu:∀{o:Bw},B7 H4 (AR H4 d o):=(KD H4).dz ed4 λxs=>by intro z;cases z
    have row':∀{o:Bw}{q:AL×AB},MX ex H2 (CH le L) q->MX ex (AR H4 d o) (CH le L) q:=λh=>h.ab (λb xs _ e=>by rw[Aa (λz=>by rw[z,ed2]at e;cases e)];show s34 _ _ e) (s34.tp.aa tpu);show⟨_,rfl,c,_,rfl,.inl (AW ec),_,_,rfl,rfl,_,rfl,Hx (λe=>?_) λe=>?_⟩
    . have hpos:0<(kss.drop m).length:=by rw[<-hw4.bh];have:((xs.drop m).length:Int)>0:=e;show ADn.mp e
      show⟨_,rfl,_,rfl,_,⟨eo4,T.cg,T.bw,rfl⟩,_,rfl,d,_,rfl,Nw (k:=Br z) ed4 (HS lk2 (by decide)),?_⟩;have ke:(Bk kvs' (Br z) (.ref c)).map (·.1)=kvs'.map (·.1):=by rw[SY,AHT hkm]
      show⟨_,_,_,Bk kvs' (Br z) (.ref c),rfl,sx4.dz,Ak,OE nd2,?_,λq hq'=>?_,λq hq' hn=>?_,λi hi hm=>?_⟩;. have:=AHU LF ke;rw[Au,Au]at this;simp_all
      . rw[tk];rcases Mx hq' with rfl|⟨h1,h2⟩;.show .inl ⟨EO _ (Bc.mpr rfl),z,c,_,_,rfl,nex,by rw[Aa ncd];show ec,hw4.ab tpu,List.ne_nil_of_length_pos hpos,sd2,pm2⟩
        . rcases a2 q h1 with⟨h3,h4⟩|⟨h3,h4⟩;.show .inl ⟨Ic _ h3,row' h4⟩
          .show .inr ⟨λhm=>by rcases C1.mp hm with hm|hm;show h3 hm;show h2 (Bc.mp hm),h4⟩
      . rw[tk]at hn;show mK (b2 q hq' λh=>hn (Ic _ h)) λh=>hn (EO _ (Bc.mpr h))
      . rw[ke];rw[tk]at hm;rcases C1.mp hm with hm|hm;.show c2 i hi hm
        .rw[Bc.mp hm];show hkm
    . have hz:kss.drop m=[]:=dQ (by rw[<-hw4.bh];have:¬((xs.drop m).length:Int)>0:=e;show ADj.mp (NW e));show⟨_,rfl,_,⟨eo4,T.cg,T.bw,rfl⟩,d,rfl,.inl ⟨_,.inl ed4⟩,_,rfl,kvs',.inr z,_,ed4,rfl,hv,?_⟩;show⟨_,_,_,DK kvs' (Br z),rfl,sx4.dz,Ak,Vr nd2,Ag (Z3 ..) lk2,λq hq'=>?_,λq hq' hn=>?_,λi hi hm=>?_⟩
      . rw[tk];obtain⟨h1,h2⟩:=Ut.mp hq';rcases a2 q h1 with⟨h3,h4⟩|⟨h3,h4⟩;.show .inl ⟨Ic _ h3,row' h4⟩
        .show .inr ⟨λhm=>by rcases C1.mp hm with hm|hm;show h3 hm;show h2 (Bc.mp hm),h4⟩
      . rw[tk]at hn;show Ut.mpr ⟨b2 q hq' λh=>hn (Ic _ h),λh=>hn (EO _ (Bc.mpr h))⟩
      . rw[tk]at hm;by_cases ez:(Br i.2.1:AL)=Br z
        . rw[hz]at pm2;have:=pm2.length_eq;have hmem:Gb i∈((CH le L).filter λi=>Ab (i.2.1=z)).map Gb:=Ax.mpr ⟨i,EJ.mpr ⟨hi,AHV (GS ez)⟩,rfl⟩;have:=ABb hmem;simp_all
        . rcases C1.mp hm with hm|hm;. obtain⟨q,hq1,hq2⟩:_:=Ax.mp (c2 i hi hm);show Ax.mpr ⟨q,Ut.mpr ⟨hq1,by rw[hq2];show ez⟩,hq2⟩
          .show absurd (Bc.mp hm) ez
  . intro σ H2 hI;obtain⟨o2,o3,o4,kvs',rfl,sx2,ed2,nd2,lk2,a2,b2,c2⟩:_:=hI;have all:(kvs.map (·.1)).take (kvs.map λp=>Az p.1).length=kvs.map (·.1):=Dj (by rw[Au,Au];show Ai _);rw[all]at a2 c2;have a3:∀q∈kvs',MX ex H2 (CH le L) q:=λq hq'=>by
      rcases a2 q hq' with⟨_,h⟩|⟨h1,h2⟩;.show h
      .show absurd (Ax.mpr ⟨q,h2,rfl⟩) h1
    have c3:∀i∈CH le L,(Br i.2.1:AL)∈kvs'.map (·.1):=λi hi=>c2 i hi (hc i (EJ.mp hi).1);show k _ ((s1.x d).aa sx2) ⟨⟨dx,sx2 _ _ (λz=>by rw[z,ed]at eo;cases eo) (s1 _ _ eo)⟩,kvs',ed2,nd2,?_,a3,c3⟩;have:=mB (λi:AO=>(Br i.2.1:AL)) (CH le L) (kvs'.map (·.1)) nd2 c3 λk hk=>by
      obtain⟨q,hq',rfl⟩:=Ax.mp hk;obtain⟨z,r,xs,kss,rfl,_,_,_,hne,_,pm⟩:=a3 q hq';have hlen:0<(((CH le L).filter λi=>Ab (i.2.1=z)).map Gb).length:=by rw[<-pm.length_eq];show List.length_pos_iff.mpr hne
      rw[Au]at hlen;obtain⟨i,hi⟩:=List.exists_mem_of_length_pos hlen;obtain⟨h1,h2⟩:=EJ.mp hi;show⟨i,h1,by change(Br i.2.1:AL)=Br z;rw[AHX h2]⟩
    rw[Au]at this;show this
def ZG(D:CA):BF:=λU H Q _=>∃x J,U=[.ref x]/\H x=AA (.ins D.fk J [])/\∀d,H d=AG->Q .non (AR (AR H d (.dK [])) x (.ins D.fk J [("rows",.ref d)]))
theorem Yg(T:BM AH AZ AM):T.iw.Ok BE P w AZ base 1 (ZG AM):=by show T.iw.ok λV _ _ _ _ _ U H W Q E h=>?_;obtain⟨x,J,rfl,e,k⟩:_:=h;show⟨_,(Af (Fs (AD 0) QL rfl)),?_⟩;intro d D;show⟨x,_,J,[],rfl,by rw[Aa (Bh e D)];show e,T.cg,T.bw,by decide,k d D⟩
theorem YC(Y:H x=AG)(V:H D=AG)(A:D≠x)(k:∀d H',Aj H H'->H d=AG->C5 AM ex H' x d []->Q .non H'):ZG AM [.ref x] (AR (AR H D (.own x)) x (.ins AM.fk D [])) Q E:=by
 show⟨x,D,rfl,Ak,λd J=>?_⟩;have U:=Bh Ak J;rw[Aa U.symm]at J;have W:D≠d:=λz=>by rw[z,Ak]at J;cases J
 rw[Aa W.symm]at J;show k d _ (λb o e=>?_) J ⟨⟨D,Ak⟩,[],by rw[Aa U.symm];show Ak,.nil,Ai _,λq B=>(by cases B),λi Z=>by cases Z⟩;rw[Aa (Bh e Y),Aa (Bh e J),Aa (Bh e Y),Aa (Bh e V)];show e
structure DD(ad:CA)(ex:List AE)(H:AI)(j sl x0 x1 d0 d1:AE)(wi:Int)(L0 L1:List AO):Prop where
 bb:∃dx,H j=AA (.ins ad.eh dx [("within",.int wi),("sides",.ref sl)])ay:H sl=AA (.lst [.ref x0,.ref x1])s0:C5 ad ex H x0 d0 L0
 s1:C5 ad ex H x1 d1 L1
 ne:d0≠d1
 adg:sl∉ex
theorem DD.ak(h:DD AM ex H j W Y Z U V wi D J)(s:Aj H H'):DD AM ex H' j W Y Z U V wi D J:=by obtain⟨⟨A,e⟩,B,E,r1,n,C⟩:_:=h;show⟨⟨A,s _ _ e⟩,s _ _ B,E.ak s,r1.ak s,n,C⟩
theorem DD.uj(h:DD AM ex H j B C E Y Z wi U W)(e:H c=AA (.lst xs))(J:c∈ex):DD AM ex (AR H c o) j B C E Y Z wi U W:=by obtain⟨⟨F,D⟩,G,I,r1,n,A⟩:_:=h;show⟨⟨F,by rw[Aa (λz=>by rw[z,e]at D;cases D)];show D⟩,by rw[Aa (λz=>A (by rw[z];show J))];show G,I.uj e J,r1.uj e J,n,A⟩
def tQ(J:CA):BF:=λB H Q _=>(JS λ(W:List AE)(j Z:AE)(Y:Int)=>Iu (B=[.ref j,.int Y]) (H j=AA (.ins J.eh Z [])) ((∀c∈W,∃o,H c=AA o)) (∀D A C E U V,Bj j H D->H U=AG->H V=AG->DD J W D j A C E U V Y [] []->Q .non D))
theorem n8(T:BM AH AZ AM):T.iu.Ok BE P w AZ base 3 (tQ AM):=by
 show T.iu.ok λnd _ _ _ _ _ hr H vs Q E h=>?_;obtain⟨ex,j,dx,wi,rfl,ej,hex,k⟩:_:=h;show⟨_,(Ah (Fs (AD 0) (AD 1) rfl) (Af (Fs (AD 0) (CM #v[Yr (Yg T) hr T.xx KJ,Yr (Yg T) hr T.xx KJ]) rfl))),?_⟩;show⟨j,_,dx,[],rfl,ej,T.cv,T.di,by decide,?_⟩;generalize hH:AR H j _=H1;have x1':Bj j H H1:=by rw[<-hH];show((DF H).x j).dz
 have ej1:H1 j=AA (.ins AM.eh dx [("within",.int wi)]):=by rw[<-hH];show Ak
 intro x0 dx0 hx0 hdx0 hn0;show YC (ex:=ex) hx0 hdx0 hn0 λd0 H2 s2 hd0 r0=>⟨rfl,?_⟩;intro x1 dx1 hx1 hdx1 hn1;show YC (ex:=ex) hx1 hdx1 hn1 λd1 H3 s3 hd1 r1=>⟨rfl,?_⟩;show⟨A1 rfl,λsl hsl=>?_⟩;have s4:=C9 (o:=.lst [.ref x0,.ref x1]) hsl;have esl:(AR H3 sl (.lst [.ref x0,.ref x1])) sl=AA _:=Ak;have nsl:sl∉ex:=λhm=>by
  obtain⟨o,ho⟩:=hex sl hm;by_cases z:sl=j;.rw[z,(s2.aa s3) _ _ ej1]at hsl;cases hsl
  .rw[(s2.aa s3) _ _ (x1' _ _ z ho)]at hsl;cases hsl
 generalize AR H3 sl _=H4 at s4 esl⊢;have s14:=(s2.aa s3).aa s4;have ej4:=s14 _ _ ej1;show⟨j,_,dx,_,rfl,ej4,T.cv,T.cj,(by change 1<1000;decide),?_⟩;have r04:=r0.ak (s3.aa s4);have r14:=r1.ak s4;have up:∀{x d:AE},x≠j->C5 AM ex H4 x d []->C5 AM ex (AR H4 j (.ins AM.eh dx [("within",.int wi),("sides",.ref sl)])) x d []:=λhx r=>by show r.ab (λC dx fs e=>by rw[Aa hx];show e) (λkvs e=>by rw[Aa (λz=>by rw[z,ej4]at e;cases e)];show e) (λb xs _ e=>by rw[Aa (λz=>by rw[z,ej4]at e;cases e)];show e) ((KD H4).dz ej4 λxs=>by intro z;cases z)
 have nx0:x0≠j:=λz=>by rw[z,ej1]at hx0;cases hx0
 have nx1:x1≠j:=λz=>by rw[z,s2 _ _ ej1]at hx1;cases hx1
 have nd01:d0≠d1:=λz=>by obtain⟨kvs,e,_⟩:=r0.ao;rw[z,hd1]at e;cases e
 have fr:∀{d:AE},H1 d=AG->H d=AG:=λ{d}hd=>by cases q:H d with |none=>rfl|some o=>
   by_cases z:d=j;.rw[z,ej1]at hd;cases hd
   .rw[x1' _ _ z q]at hd;cases hd
 have hd11:=s2.az hd1;show k _ sl x0 x1 d0 d1 ((x1'.aa (s14.x j)).dz) (fr hd0) (fr hd11) ⟨⟨dx,Ak⟩,by rw[Aa (λz=>by rw[z,ej4]at esl;cases esl)];show esl,up nx0 r04,up nx1 r14,nd01,nsl⟩
theorem C5.ic(h:C5 AM ex H x d L)(Y:H l=AG):C5 AM (l::ex) H x d L:=by obtain⟨o,V,Z,n,C,q,c⟩:_:=h;show⟨o,V,Z,n,C,λp B=>?_,c⟩;obtain⟨z,r,E,U,e,A,W,D⟩:_:=q p B;show⟨z,r,E,U,e,λJ=>by rcases BY.mp J with rfl|J;rw[W]at Y;cases Y;show A J,W,D⟩
theorem C5.jq(h:C5 AM (l::ex) H x d L):C5 AM ex H x d L:=by obtain⟨o,U,V,n,A,q,c⟩:_:=h;show⟨o,U,V,n,A,λp Z=>?_,c⟩;obtain⟨z,r,B,J,e,Y,D⟩:_:=q p Z;show⟨z,r,B,J,e,λW=>Y (D5 _ W),D⟩
theorem DD.jq(h:DD AM (l::ex) H j W Y Z U V wi D J):DD AM ex H j W Y Z U V wi D J:=by obtain⟨o,A,E,r1,n,C⟩:_:=h;show⟨o,A,E.jq,r1.jq,n,λB=>C (D5 _ B)⟩
noncomputable def JC(i j:Int):Int:=if i<j then j else i
noncomputable def Md(s:Int)(i j:AO):List AL:=[.inl (JC i.1 j.1),.inr i.2.1,.inl (if s=0 then i.2.2-j.2.2 else j.2.2-i.2.2)]
def tZ:BF:=λJ H Q _=>(JT λ(s:Int)(p q:AE)(i:AO)(t a:Int)=>Iu (J=[.int s,.ref p,.ref q]) (H p=AA (.tup ((EM i).map Az))) (H q=AA (.tup [.int t,.int a])) (∀D r,Aj H D->D r=AA (.tup ((Md s i (t,i.2.1,a)).map Az))->Q (.ref r) D))
theorem oF(T:BM AH AZ AM):T.qo.Ok BE P w AZ base 1 tZ:=by
 show T.qo.ok λF _ _ _ _ _ I H L Q E h=>?_;obtain⟨G,p,q,⟨Z,z,U⟩,t,a,rfl,D,J,k⟩:_:=h;have D:H p=AA (.tup [.int Z,.str z,.int U]):=D;show⟨_,(Ah (BN 3 F (KL (Bu ED (AD 0) AN (Bt _)) (BA AH (AD 1) AN) (BA AH (AD 2) AN))) (Ah (BN 4 F (KL (Bu ED (AD 0) AN (Bt _)) (BA AH (AD 2) AN) (BA AH (AD 1) AN))) (Af (BD (CY #v[(CW (SO rfl) (by rfl) T.wj Wc #v[BA AH (AD 1) AN,BA AH (AD 2) AN]),BA AH (AD 1) AN,Ac Hz (AD 3) (AD 4)]))))),?_⟩;have A:∀{a b c:AB},Cr [a,b,c] 0=AA a:=Ae (j:=0) rfl;have i1:∀{a b c:AB},Cr [a,b,c] 1=AA b:=Ae (j:=1) rfl;have i2:∀{a b c:AB},Cr [a,b,c] 2=AA c:=Ae (j:=2) rfl;have B:∀{a b:AB},Cr [a,b] 0=AA a:=Ae (j:=0) rfl;have C:∀{a b:AB},Cr [a,b] 1=AA b:=Ae (j:=1) rfl;have fin:∀{x y:Int},x-y=(if G=0 then U-a else a-U)->∀r,H r=AG->Q (.ref r) (AR H r (.tup [.int (if Z<t then t else Z),.str z,.int (x-y)])):=λ{x y}e r Y=>by show k _ r ((DF H).dz Y) ?_;rw[Ak,e];rfl
 show⟨rfl,_,rfl,Fw (λe=>?_) λe=>?_⟩;. show⟨_,_,Aq D,i2,rfl,_,rfl,Fw (λ_=>?_) λW=>absurd e W⟩;show⟨_,_,Aq J,C,_,_,Aq D,A,_,_,Aq J,B,_,_,Aq D,i1,A1 rfl,fin (by rw[AHT e])⟩
 . show⟨_,_,Aq J,C,rfl,_,rfl,Fw (λW=>absurd W e) λ_=>?_⟩;show⟨_,_,Aq D,i2,_,_,Aq D,A,_,_,Aq J,B,_,_,Aq D,i1,A1 rfl,fin (by rw[AHS e])⟩
noncomputable def GG(s wi:Int)(i:AO)(D:List AO):List (List AL):=(D.filter λj=>Ab (j.2.1=i.2.1/\i.1-wi<=j.1/\j.1<=i.1+wi)).map (Md s i)
def sQ(B:CA):BF:=λI H Q _=>(UI λ(Z:List AE)(j C E F W Y p:AE)(A s:Int)(U V:List AO)(i:AO)=>LS (I=[.ref j,.int s,.ref p]) (DD B Z H j C E F W Y A U V) ((s=0\/s=1)) ((∀c∈Z,∃o,H c=AA o)) (H p=AA (.tup ((EM i).map Az))) (U.length<=30000) (V.length<=30000) (∀J r G D,Bj (if s=0 then W else Y) H J->DD B (r::Z) J j C E F W Y A (if s=0 then U++[i]else U) (if s=0 then V else V++[i])->H r=AG->J r=AA (.lst G)->Cq J G D->Cm D->D.Perm (GG s A i (if s=0 then V else U))->Q (.ref r) J))
theorem nJ(T:BM AH AZ AM):T.nv.Ok BE P w AZ base 3 (sQ AM):=by
  show T.nv.ok λnd _ _ _ _ _ hr H vs Q E h=>?_;obtain⟨ex,j,sl,x0,x1,d0,d1,p,wi,sd,L0,L1,i,rfl,jr,hs,hex,ep,l0,l1,k⟩:_:=h;show⟨_,(Ah (KN (i:=3) nd rfl (FN rfl) (Hk (EY (Lm (K:=AH)) (Bs (Bd 0) rfl) (Ac Vv AN (Bd 1)) (λ_ _=>rfl)) T.cg (oJ T) hr #v[(EY (JK (K:=AH)) (Bd 2) AN (λ_ _=>rfl)),(Ac Vv (EY (JK (K:=AH)) (Bd 2) AN (λ_ _=>rfl)) (Bs (Bd 0) rfl)),(Ac bB (EY (JK (K:=AH)) (Bd 2) AN (λ_ _=>rfl)) (Bs (Bd 0) rfl))])) (Ah (Dr (Hk (EY (Lm (K:=AH)) (Bs (Bd 0) rfl) (Bd 1) (λ_ _=>rfl)) T.cg (Ye T) hr #v[Bd 2])) (Af (BD (CW (xA (K:=AH)) (by rfl) T.ik Tf #v[(QK (osc:=Cy Y3) [("side",1),("item",2)] rfl (DQ (K:=AH) (Bd 3)) rfl rfl (by decide+kernel) (by decide+kernel) (by decide+kernel) ⟨rfl,rfl,rfl,rfl,trivial⟩ rfl (by decide+kernel) (λ_ _ _ _=>Fy) (λ_ _ _ _=>(BC (oF T) hr #v[Bd 1,Bd 2,Bd 0])))]))))),?_⟩;have sz:As=16777216:=CL;lk;obtain⟨dx,ej⟩:=jr.bb;obtain⟨t,z,a⟩:=i;k_in;have ep:H p=AA (.tup [.int t,.str z,.int a]):=ep;have i0:∀{a b c:AB},Cr [a,b,c] 0=AA a:=Ae (j:=0) rfl;have i1:∀{a b c:AB},Cr [a,b,c] 1=AA b:=Ae (j:=1) rfl;lk;obtain⟨xo,do',Lo,xs,ds,Ls,at1,at2,ro,rs,nds,lo',ls',fin⟩:∃(xo do':AE)(Lo:List AO)(xs ds:AE)(Ls:List AO),Cr [AB.ref x0,.ref x1] (1-sd)=AA (.ref xo)/\Cr [AB.ref x0,.ref x1] sd=AA (.ref xs)/\C5 AM ex H xo do' Lo/\C5 AM ex H xs ds Ls/\do'≠ds/\Lo.length<=30000/\Ls.length<=30000/\∀H' r xs' kss,Bj ds H H'->C5 AM (r::ex) H' xs ds (Ls++[(t,z,a)])->C5 AM (r::ex) H' xo do' Lo->H r=AG->H' r=AA (.lst xs')->Cq H' xs' kss->Cm kss->kss.Perm (GG sd wi (t,z,a) Lo)->Q (.ref r) H':=by
    have ob:∀{H':AI}{d:AE}{kvs:List (AL×AB)},Bj d H H'->H d=AA (.dK kvs)->(∃dx,H' j=AA (.ins AM.eh dx [("within",.int wi),("sides",.ref sl)]))/\H' sl=AA (.lst [.ref x0,.ref x1]):=λsx e=>⟨⟨dx,sx _ _ (λz=>by rw[z,e]at ej;cases ej) ej⟩,sx _ _ (λz=>by have:=jr.ay;rw[z,e]at this;cases this) jr.ay⟩;have nsl:∀{r:AE},H r=AG->sl∉r::ex:=λhr0 hm=>by
      rcases BY.mp hm with rfl|hm;.rw[jr.ay]at hr0;cases hr0
      .show jr.adg hm
    rcases hs with rfl|rfl
    . show⟨x1,d1,L1,x0,d0,L0,Ae (j:=1) rfl,Ae (j:=0) rfl,jr.s1,jr.s0,jr.ne.symm,l1,l0,λH' r xs' kss sx r1 r2 hr0=>?_⟩;obtain⟨kvs,e,_⟩:=jr.s0.ao;obtain⟨o1,o2⟩:=ob sx e;show k H' r xs' kss sx ⟨o1,o2,r1,r2,jr.ne,nsl hr0⟩ hr0
    . show⟨x0,d0,L0,x1,d1,L1,Ae (j:=0) rfl,Ae (j:=1) rfl,jr.s0,jr.s1,jr.ne,l0,l1,λH' r xs' kss sx r1 r2 hr0=>?_⟩;obtain⟨kvs,e,_⟩:=jr.s1.ao;obtain⟨o1,o2⟩:=ob sx e;show k H' r xs' kss sx ⟨o1,o2,r2,r1,jr.ne,nsl hr0⟩ hr0
  obtain⟨dxo,eo⟩:=ro.bb;k_in;show⟨_,rfl,_,⟨ej,T.cv,T.cj,rfl⟩,_,rfl,_,_,rfl,rfl,sl,_,_,_,rfl,rfl,AW jr.ay,at1,xo,dxo,_,rfl,eo,by rfl,?_⟩;show⟨_,rfl,p,_,_,_,rfl,rfl,Aq ep,i1,_,rfl,p,_,_,_,rfl,rfl,Aq ep,i0,_,rfl,_,⟨ej,T.cv,T.di,rfl⟩,_,_,rfl,rfl,_,rfl,p,_,_,_,rfl,rfl,Aq ep,i0,_,rfl,_,⟨ej,T.cv,T.di,rfl⟩,_,_,rfl,rfl,?_⟩;show⟨ex,xo,do',Lo,z,t-wi,t+wi,rfl,ro,lo',λH1 rm xm km s1 hrm em hwm sdm pmm=>?_⟩;have rs1:=rs.ak s1;obtain⟨dxs,es⟩:=rs1.bb;show⟨_,rfl,_,⟨s1 _ _ ej,T.cv,T.cj,rfl⟩,_,rfl,sl,_,_,_,rfl,rfl,AW (s1 _ _ jr.ay),at2,xs,dxs,_,rfl,es,by rfl,?_⟩;show⟨_,rfl,ex,xs,ds,p,Ls,(t,z,a),rfl,rs1,(λc hc=>let⟨o,ho⟩:=hex c hc;⟨o,s1 _ _ ho⟩),s1 _ _ ep,ls',λH2 sx2 r2=>?_⟩;obtain⟨kvs,ekv,_⟩:_:=rs1.ao;have em2:H2 rm=AA (.lst xm):=sx2 _ _ (λz=>by rw[z,ekv]at em;cases em) em;have tp2:B7 H1 H2:=sx2.tp ekv λxs=>by intro z;cases z
  have hwm2:=hwm.ab tp2;have ro2:=(ro.ak s1).wd sx2 ekv nds;have ep2:=tp2 _ _ (s1 _ _ ep);have lm:km.length<=30000:=by rw[pmm.length_eq,Au];show Ag (Fh _ _) lo'
  have lxm:=hwm.bh;show⟨_,rfl,rm,rfl,⟨_,AW em2⟩,?_⟩;show JJ (K:=AH) (xs:=xm) (λn τ acc H'=>(∃o,τ=[o,AA (.int sd),AA (.ref p)])/\Aj H2 H'/\Cq H' acc ((km.take n).map λks=>match ks with|[.inl t',.inl a']=>Md sd (t,z,a) (t',z,a')|_=>[])) (by lia) ⟨⟨AG,rfl⟩,DF _,KO _⟩ (λn τ acc H'⟨_,s',_⟩=>AW (s' _ _ em2)) ?_ ?_
  . intro n y τ acc H3 R1 hy _ hI k1;lk;obtain⟨⟨o,rfl⟩,s3,hw3⟩:=hI;obtain⟨b,kk,rfl,ek,eb⟩:=hwm2.at hy;obtain⟨t',a',rfl⟩:=Mg pmm kk (Cp ek);k_in;show⟨_,rfl,_,rfl,_,rfl,sd,p,b,(t,z,a),t',a',rfl,s3 _ _ ep2,s3 _ _ eb,λH4 r s4 er=>k1 _ _ _ ⟨⟨_,rfl⟩,s3.aa s4,?_⟩⟩;rw[DH,ek,CQ];show(hw3.ab s4.tp).iq er
  . intro τ acc H3 la hI D hD;obtain⟨_,s3,hw3⟩:_:=hI;rw[Dj (Bq lxm.symm)]at hw3;have s4:=C9 (o:=.lst acc) hD;have eD:(AR H3 D (.lst acc)) D=AA (.lst acc):=Ak;generalize AR H3 D (.lst acc)=H4 at s4 eD⊢;have hw4:=hw3.ab s4.tp;have pmm2:ADr (km.map λks=>match ks with|[.inl t',.inl a']=>Md sd (t,z,a) (t',z,a')|_=>[]) (GG sd wi (t,z,a) Lo):=by show(pmm.map _).trans (TF ?_);rw[Cz];rfl
    show⟨D,acc,_,rfl,AW eD,hw4.ya (sh:=[AJ,AQ,AJ]) (by simp) (λks hk=>?_),λl qs hl pq sq=>?_⟩
    . obtain⟨i',_,rfl⟩:_:=Ax.mp (pmm2.mem_iff.mp hk);rfl
    . obtain⟨g1,g2⟩:=hw4.aax pq;have s5:=s4.dz (o:=.lst (qs.map (·.1))) hl;have s25:=s3.aa s5;have hl0:H l=AG:=by
        have h2:=(s3.aa s4).az hl;have hne:l≠ds:=λz=>by obtain⟨kv2,e2,_⟩:=r2.ao;rw[z,e2]at h2;cases h2
        cases q:H l with |none=>rfl|some o=>rw[sx2 _ _ hne (s1 _ _ q)]at h2;cases h2
      show fin _ l _ _ (((s1.x ds).aa sx2).aa (s25.x ds)) (((r2.ak (s3.aa s4)).ic hl).ak (C9 hl)) (((ro2.ak (s3.aa s4)).ic hl).ak (C9 hl)) hl0 Ak (g1.ab (C9 hl).tp) sq (g2.trans pmm2)
theorem mU(a b:Int):JC a b=JC b a:=by unfold JC;split<;>split<;>lia
def GW(D J:AE)(H H':AI):Prop:=∀b o,b≠D->b≠J->H b=AA o->H' b=AA o
theorem GW.aa(a:GW D J H U)(b:GW D J U V):GW D J H V:=λc o n m e=>b c o n m (a c o n m e)
theorem Y9(s:Aj H H')(D J:AE):GW D J H H':=λb o _ _ e=>s b o e
theorem ZA(s:Bj D H H'):GW D J H H':=λb o n _ e=>s b o n e
theorem ZC(s:Bj D H H'):GW J D H H':=λb o _ n e=>s b o n e
theorem DD.vw(h:DD AM ex H j Z A B D J wi U V):(∃k0,H D=AA (.dK k0))/\∃k1,H J=AA (.dK k1):=by lk;obtain⟨k0,W,_⟩:=h.s0.ao;obtain⟨k1,Y,_⟩:=h.s1.ao;k_in;show⟨⟨k0,W⟩,k1,Y⟩
theorem DD.y(h:DD AM ex H j A B C D J wi V W)(s:GW D J H H')(e:H b=AA o)(U:∀kvs,o≠.dK kvs):H' b=AA o:=by obtain⟨⟨E,Y⟩,F,Z⟩:_:=h.vw;show s b o (λz=>by rw[z,Y]at e;show U _ (CD e).symm) (λz=>by rw[z,Z]at e;show U _ (CD e).symm) e
theorem DD.ack(h:DD AM ex H j Y Z A D J wi U V)(s:GW D J H H'):B7 H H':=λp B e=>h.y s e λW=>by intro z;cases z
theorem DD.wd{K:List AO}(h:DD AM ex H j R S T A B wi K L)(g:DD AM ex H F V Y Z J U W M0 M1)(s:GW A B H H')(G:J≠A/\J≠B)(I:U≠A/\U≠B):DD AM ex H' F V Y Z J U W M0 M1:=by
 have k:∀{b:AE}{o:Bw},H b=AA o->(∀D,o≠.dK _)->H' b=AA o:=λe O=>h.y s e O;obtain⟨⟨E,e⟩,M,Q,r1,n,P⟩:_:=g;show⟨⟨E,k e (by intro D z;cases z)⟩,k M (by intro D z;cases z),?_,?_,n,P⟩;.show Q.ab (λC E N e=>k e (by intro D z;cases z)) (λD e=>s _ _ G.1 G.2 e) (λb X _ e=>k e (by intro D z;cases z)) (h.ack s)
 .show r1.ab (λC E N e=>k e (by intro D z;cases z)) (λD e=>s _ _ I.1 I.2 e) (λb X _ e=>k e (by intro D z;cases z)) (h.ack s)
theorem DD.abz(h:DD AM ex H j Y U Z D W wi A V)(s:Bj D H H')(r:C5 AM ex H' U D M):DD AM ex H' j Y U Z D W wi M V:=by lk;obtain⟨B,e⟩:=h.bb;obtain⟨C,J,_⟩:=h.s0.ao;k_in;show⟨⟨B,s _ _ (λz=>by rw[z,J]at e;cases e) e⟩,s _ _ (λz=>by have:=h.ay;rw[z,J]at this;cases this) h.ay,r,h.s1.wd s J h.ne.symm,h.ne,h.adg⟩
theorem DD.aca(h:DD AM ex H j Y Z U W D wi V A)(s:Bj D H H')(r:C5 AM ex H' U D M):DD AM ex H' j Y Z U W D wi V M:=by lk;obtain⟨B,e⟩:=h.bb;obtain⟨C,J,_⟩:=h.s1.ao;k_in;show⟨⟨B,s _ _ (λz=>by rw[z,J]at e;cases e) e⟩,s _ _ (λz=>by have:=h.ay;rw[z,J]at this;cases this) h.ay,h.s0.wd s J h.ne,r,h.ne,h.adg⟩
theorem DD.aea{ex:List AE}{H H':AI}{j F G I D J:AE}{wi:Int}{Y Z M0 M1:List AO}(h:DD AM ex H' j F G I D J wi Y Z)(s:GW D J H H')(U:∀c∈ex,∃o,H c=AA o):∀c∈ex,∃o,H' c=AA o:=λc C=>by
  obtain⟨⟨K,A⟩,L,B⟩:_:=h.vw;by_cases V:c=D;.show⟨_,by rw[V];show A⟩
  . by_cases W:c=J;.show⟨_,by rw[W];show B⟩
    . obtain⟨o,E⟩:=U c C;show⟨o,s _ _ V W E⟩
def tP(B:CA):BF:=λG H Q _=>(NZ λ(A:List AE)(j C E F Y Z:AE)(J D:Int)(V W:List AO)=>HZ (G=[.ref j,.int D]) (DD B A H j C E F Y Z J V W) ((∀c∈A,∃o,H c=AA o)) (V.length<=30000) (W.length<=30000) (∀U,GW Y Z H U->DD B A U j C E F Y Z J (CH (D-J) V) (CH (D-J) W)->Q .non U))
theorem nZ(T:BM AH AZ AM):T.ny.Ok BE P w AZ base 3 (tP AM):=by
  show T.ny.ok λx _ _ _ _ _ t H vs Q E h=>?_;obtain⟨R,j,i,B,C,M,N,g,W,I,L,rfl,c,X,u,v,k⟩:_:=h;show⟨_,(Af (D3 D7 rfl (DQ (K:=AH) (Bs (AD 0) rfl)) (D2 2 x) (Af (Dr (Hk (AD 2) T.cg (nK T) t #v[Ac Hz (AD 1) (Bs (AD 0) rfl)]))))),?_⟩;have sz:As=16777216:=CL;obtain⟨z,q⟩:=c.bb;show⟨_,⟨q,T.cv,T.cj,rfl⟩,i,rfl,⟨_,AW c.ay⟩,HK (K:=AH) (xs:=[.ref B,.ref C]) (λn F G=>∃f:Option AB,F=[AA (.ref j),AA (.int W),f]/\GW M N H G/\DD AM R G j i B C M N g (if n=0 then I else CH (W-g) I) (if n<=1 then L else CH (W-g) L)) ⟨AG,rfl,λb o _ _ e=>e,c⟩ (λn F G _ r=>by obtain⟨_,_,_,d⟩:=r;show AW d.ay) ?_ ?_⟩
  . intro n y F l a S;lk;obtain⟨f,rfl,A,D⟩:=S;have s:n=0\/n=1:=by have:=(BU.mp a).1;simp at this;show Nat.le_one_iff_eq_zero_or_eq_one.mp (eL this)
    obtain⟨p,Y⟩:=D.bb;k_in;have J:=D.aea (M0:=[]) (M1:=[]) A X;rcases s with rfl|rfl;. lk;cases a;obtain⟨U,O⟩:=D.s0.bb;k_in;show⟨B,U,_,rfl,O,by rfl,_,⟨Y,T.cv,T.di,rfl⟩,R,B,M,I,_,rfl,D.s0,J,u,λm Z r2=>⟨_,rfl,A.aa (ZA Z),D.abz Z r2⟩⟩
    . lk;cases a;obtain⟨U,O⟩:=D.s1.bb;k_in;show⟨C,U,_,rfl,O,by rfl,_,⟨Y,T.cv,T.di,rfl⟩,R,C,N,L,_,rfl,D.s1,J,v,λm Z r2=>⟨_,rfl,A.aa (ZC Z),D.aca Z r2⟩⟩
  . intro F l S;obtain⟨f,rfl,A,D⟩:_:=S;show k _ A D
inductive AU where|take(n k:AF)|only(n a:AF)(lo hi:Int)|turn(n a:AF)(f g:Int)|both(n a b:AF)|join(n a b:AF)(wi:Int)|gap(n a s:AF)(m:Int)|each(n a s:AF)(sz st:Int)
noncomputable def AU.zf:AU->List AL|AU.take n k=>[.inr "take",.inr n,.inr k]|AU.only n a J D=>[.inr "only",.inr n,.inr a,.inl J,.inl D]|AU.turn n a f g=>[.inr "turn",.inr n,.inr a,.inl f,.inl g]|AU.both n a b=>[.inr "both",.inr n,.inr a,.inr b]|AU.join n a b W=>[.inr "join",.inr n,.inr a,.inr b,.inl W]|AU.gap n a s m=>[.inr "gap",.inr n,.inr a,.inr s,.inl m]|AU.each n a s V U=>[.inr "each",.inr n,.inr a,.inr s,.inl V,.inl U]
noncomputable def AU.gf:AU->AF|AU.take ..=>"take"|AU.only ..=>"only"|AU.turn ..=>"turn"|AU.both ..=>"both"|AU.join ..=>"join"|AU.gap ..=>"gap"|AU.each ..=>"each"
noncomputable def AU.nm:AU->AF|AU.take n _|AU.only n _ _ _|AU.turn n _ _ _|AU.both n _ _|AU.join n _ _ _|AU.gap n _ _ _|AU.each n _ _ _ _=>n
noncomputable def AU.bx:AU->List AF|AU.take ..=>[]|AU.only _ a _ _|AU.turn _ a _ _|AU.gap _ a _ _|AU.each _ a _ _ _=>[a]|AU.both _ a b|AU.join _ a b _=>[a,b]
noncomputable def AU.cu:AU->Bool|AU.gap ..|AU.each ..=>AJ|_=>AQ
noncomputable def AU.abm:AU->Int|AU.both ..|AU.join ..=>4|_=>3
noncomputable def AU.adj:AU->Bool|AU.both ..|AU.join ..=>AJ|_=>AQ
def Ed(H:AI)(p:AE)(s:AU):Prop:=H p=AA (.tup (s.zf.map Az))
theorem Ed.tp(h:Ed H p s)(t:B7 H H'):Ed H' p s:=t _ _ h
noncomputable def RI:List AB:=[.str "both",.str "join"]
noncomputable def MY:List AB:=[.str "each",.str "gap"]
theorem Ed.gf(h:Ed H p s):CB AH H p (s.zf.map Az)/\Cr (s.zf.map Az) 0=AA (.str s.gf)/\Cr (s.zf.map Az) 1=AA (.str s.nm):=by show⟨Aq h,?_⟩;cases s<;>show⟨Ae rfl,Ae rfl⟩
theorem v8:∀st:AU,EX (.str st.gf) RI=st.adj|.take ..=>(by decide+kernel:EX (.str "take") _=false)|.only ..=>(by decide+kernel:EX (.str "only") _=false)|.turn ..=>(by decide+kernel:EX (.str "turn") _=false)|.both ..=>(by decide+kernel:EX (.str "both") _=true)|.join ..=>(by decide+kernel:EX (.str "join") _=true)|.gap ..=>(by decide+kernel:EX (.str "gap") _=false)|.each ..=>(by decide+kernel:EX (.str "each") _=false)
theorem VH:∀st:AU,EX (.str st.gf) MY=st.cu|.take ..=>(by decide+kernel:EX (.str "take") _=false)|.only ..=>(by decide+kernel:EX (.str "only") _=false)|.turn ..=>(by decide+kernel:EX (.str "turn") _=false)|.both ..=>(by decide+kernel:EX (.str "both") _=false)|.join ..=>(by decide+kernel:EX (.str "join") _=false)|.gap ..=>(by decide+kernel:EX (.str "gap") _=true)|.each ..=>(by decide+kernel:EX (.str "each") _=true)
noncomputable def AU.no:AU->Nat|.take ..=>0|.only ..=>1|.turn ..=>2|.both ..=>3|.join ..=>4|.gap ..=>5|.each ..=>6
noncomputable def Pn:List AF:=["take","only","turn","both","join","gap","each"]
theorem ZV(st:AU):Pn[st.no]?=AA st.gf:=by cases st<;>rfl
theorem v7{st:AU}(Y:Pn[i]?=AA z)(e:st.gf=z):st.no=i:=by
 have Z:Pn.Nodup:=by decide+kernel
 have h:=ZV st;rw[e]at h;lk;obtain⟨U,D⟩:=BU.mp h;obtain⟨V,J⟩:=BU.mp Y;k_in;have W:=Ig.mp Z;rcases AEJ _ i with q|q|q;.show absurd (D.trans J.symm) (W _ _ U V q)
 .show q
 .show absurd (J.trans D.symm) (W _ _ V U q)
theorem vZ{st:AU}(D:Pn[i]?=AA z)(e:st.no≠i):st.gf≠z:=λq=>e (v7 D q)
theorem Kk{st:AU}{i:Nat}{z:AF}{A B:Prop}(D:Pn[i]?=AA z)(J:st.no=i->A)(U:st.no≠i->B):if Ab (AB.str st.gf=AB.str z)=AJ then A else B:=by
  by_cases h:st.no=i
  . have e:=by have:=ZV st;rw[h,D]at this;show(CD this).symm
    rw[AHT (by rw[e];show AHV rfl)];show J h
  . rw[AHS (by rw[AHY];showλq=>vZ D h (AB.str.inj q))];show U h
def sV:BF:=λD H Q _=>Eg (λ(p:AE)(s:AU)=>D=[.ref p]) (λp s=>Ed H p s) (λ_ s=>Q (.int s.abm) H)
theorem oI(T:BM AH AZ AM):T.oo.Ok BE P w AZ base 1 sV:=by
 show T.oo.ok λZ _ _ _ _ _ Y H A Q E h=>?_;obtain⟨p,D,rfl,e,k⟩:_:=h;show⟨_,(Af (BD (KL (Bu (Sk (K:=AH)) (BA AH (AD 0) AN) (K7 (v:=.ref AM.rf) (by rfl) T.zb rfl) (by with_unfolding_all rfl)) AN AN))),?_⟩;obtain⟨U,V,W⟩:_:=e.gf;show⟨_,_,U,V,_,RI,rfl,.inr (T.zo H),rfl,rfl,_,rfl,?_⟩;have J:=v8 D;show Jh (λq=>?_) λq=>?_
 . have q:EX (.str D.gf) RI=AJ:=q;rw[J]at q;cases D<;>first|show k|cases q
 . have q:EX (.str D.gf) RI=AQ:=q;rw[J]at q;cases D<;>first|show k|cases q
def t7:BF:=λD H Q _=>Eg (λ(p:AE)(s:AU)=>D=[.ref p]) (λp s=>Ed H p s) (λ_ s=>Q (.str s.nm) H)
theorem oH(T:BM AH AZ AM):T.uf.Ok BE P w AZ base 1 t7:=by show T.uf.ok λW _ _ _ _ _ V H Z Q E h=>?_;obtain⟨p,Y,rfl,e,k⟩:_:=h;show⟨_,(Af (BD (BA AH (AD 0) AN))),?_⟩;obtain⟨D,U,J⟩:_:=e.gf;show⟨_,_,D,J,k⟩
def uX:BF:=λD H Q _=>Eg (λ(p:AE)(s:AU)=>D=[.ref p]) (λp s=>Ed H p s) (λ_ s=>Q (.bl s.cu) H)
theorem YZ(T:BM AH AZ AM):T.om.Ok BE P w AZ base 1 uX:=by show T.om.ok λZ _ _ _ _ _ Y H A Q E h=>?_;obtain⟨p,D,rfl,e,k⟩:_:=h;show⟨_,(Af (BD (QJ (Sk (K:=AH)) (BA AH (AD 0) AN) (K7 (v:=.ref AM.nh) (by rfl) T.yi rfl) (by with_unfolding_all rfl)))),?_⟩;obtain⟨J,U,W⟩:_:=e.gf;have V:=VH D;show⟨_,_,J,U,_,MY,rfl,.inr (T.yo H),rfl,rfl,?_⟩;change Q (.bl (EX (.str D.gf) MY)) H;rw[V];show k
def tE:BF:=λJ H Q _=>Eg (λ(p:AE)(s:AU)=>J=[.ref p]) (λp s=>Ed H p s) (λ_ s=>∀l D,Aj H D->H l=AG->D l=AA (.lst (s.bx.map AB.str))->Q (.ref l) D)
theorem nQ(T:BM AH AZ AM):T.ti.Ok BE P w AZ base 2 tE:=by
  show T.ti.ok λI _ _ _ _ _ C H M Q E h=>?_;obtain⟨p,D,rfl,e,k⟩:_:=h;show⟨_,(Ah (CP (Bu ED (BA AH (AD 0) AN) Bi (Bt _)) (Af (BD (CM Fx))) Cg) (Af (BD (EF (N7 (K:=AH)) (by rfl) T.gu MC #v[Du (Lz (K:=AH)) (AD 0) (DL AN) (DL (BC (oI T) C #v[AD 0]))])))),?_⟩;obtain⟨A,B,G⟩:_:=e.gf;show⟨_,_,A,B,rfl,_,rfl,Kk (i:=0) rfl (λZ=>?_) λZ=>?_⟩
  . have U:D.bx=[]:=by cases D<;>first|rfl|cases Z
    show⟨Bm _,λl J=>k l _ ((DF H).dz J) J (by rw[U];show Ak)⟩
  . have U:Fe (D.zf.map Az) (AA 2) (AA D.abm)=D.bx.map AB.str:=by cases D<;>first|rfl|show absurd rfl Z
    show⟨_,rfl,p,D,rfl,e,_,rfl,p,_,rfl,A,?_,λF Y=>⟨F,_,rfl,.inr (Aq Ak),λl J=>k l _ (((DF H).dz Y).dz J) (by have W:=J;rw[Aa (Bh Ak W).symm]at J;show J) ?_⟩⟩
    . rintro⟨q,_⟩;have J:3<=(D.zf.map Az).length:=by cases D<;>show A1 rfl
      have L:=(i9 (D.zf.map Az).length 0 2).symm.trans q;simp_all
    .rw[Ak,U]
theorem DD.ic(h:DD AM ex H j A B C W Y wi U V)(D:H l=AG):DD AM (l::ex) H j A B C W Y wi U V:=by obtain⟨o,Z,F,r1,n,E⟩:_:=h;show⟨o,Z,F.ic D,r1.ic D,n,λJ=>by rcases BY.mp J with rfl|J;rw[Z]at D;cases D;show E J⟩
def F7(H:AI)(c:AE)(L:List AO):Prop:=∃D,H c=AA (.lst D)/\Cq H D (L.map EM)
theorem F7.ab(h:F7 H c L)(k:∀xs,H c=AA (.lst xs)->H' c=AA (.lst xs))(t:B7 H H'):F7 H' c L:=by obtain⟨xs,e,w⟩:_:=h;show⟨xs,k _ e,w.ab t⟩
abbrev CF:=Int×AF×AF×Int
noncomputable def k6(e:CF):List AL:=[.inl e.1,.inr e.2.1,.inr e.2.2.1,.inl e.2.2.2]
noncomputable def PK(e:CF):AO:=(e.1,e.2.2.1,e.2.2.2)
def Kd(H:AI)(p:AE)(e:CF):Prop:=H p=AA (.tup ((k6 e).map Az))
theorem Jd(h:(AR H p o) l=AG):H l=AG:=by have D:=(Bh Ak h).symm;rw[Aa D]at h;show h
noncomputable def Nv(k:AF)(e:CF):List AO:=if e.2.1=k then[PK e]else[]
def uV:BF:=λJ H Q _=>(Iv λ(p q:AE)(n k:AF)(e:CF)=>Iu (J=[.ref p,.ref q]) (Ed H p (.take n k)) (Kd H q e) (∀l D,Aj H D->H l=AG->F7 D l (Nv k e)->Q (.ref l) D))
theorem pG(T:BM AH AZ AM):T.xn.Ok BE P w AZ base 1 uV:=by
 show T.xn.ok λC _ _ _ _ _ A H G Q E h=>?_;obtain⟨p,q,n,V,⟨t,B,z,W⟩,rfl,e,Z,k⟩:_:=h;show⟨_,(Af (BD (KL (Bu ED (BA AH (AD 1) AN) (BA AH (AD 0) AN) (Bt _)) (CM #v[CY #v[BA AH (AD 1) AN,BA AH (AD 1) AN,BA AH (AD 1) AN]]) (CM Fx)))),?_⟩;have Y:CB AH H p _:=Aq e;have J:CB AH H q _:=Aq Z;show⟨_,_,J,Ae rfl,_,_,Y,Ae rfl,rfl,_,rfl,Ji (λh=>?_) λh=>?_⟩
 . show⟨_,_,J,Ae rfl,_,_,J,Ae rfl,_,_,J,Ae rfl,A1 rfl,λF U=>⟨A1 rfl,λl D=>k l _ (((DF H).dz U).dz D) (Jd D) ⟨_,Ak,?_⟩⟩⟩;rw[show Nv V _=[(t,z,W)]from AHT h];show(KO _).iq (by rw[Aa (Bh Ak D)];show Ak)
 . show⟨Bm _,λl D=>k l _ ((DF H).dz D) D ⟨[],Ak,?_⟩⟩;rw[show Nv V _=[]from AHS h];show KO _
noncomputable def Rx(f g:Int)(i:AO):AO:=(i.1,i.2.1,i.2.2*f+g)
def vB:BF:=λJ H Q _=>(Jz λ(p q:AE)(n a:AF)(f g:Int)(i:AO)=>FT (J=[.ref p,.ref q]) (Ed H p (.turn n a f g)) ((-100<=f/\f<=100)) (H q=AA (.tup ((EM i).map Az))) (∀r D,Aj H D->D r=AA (.tup ((EM (Rx f g i)).map Az))->Q (.ref r) D))
theorem pK(T:BM AH AZ AM):T.vv.Ok BE P w AZ base 1 vB:=by
 show T.vv.ok λS _ _ _ _ _ R H X Q E h=>?_;obtain⟨p,q,n,a,f,g,⟨t,z,D⟩,rfl,e,⟨M,N⟩,Y,k⟩:_:=h;show⟨_,(Af (BD (Ac (KI) (Ac (KI) (Du (Lz) (AD 1) Eu (DL AN)) (CY #v[Ac Et (Ac JM (BA AH (AD 1) AN) (BA AH (AD 0) AN)) (BA AH (AD 0) AN)])) (Du (Lz) (AD 1) (DL AN) Eu)))),?_⟩;have O:CB AH H q _:=Aq Y;show⟨_,rfl,q,_,rfl,O,(by change¬(CT 3 0 _=0/\CT 3 3 _=3);decide),λG Z=>?_⟩;have s1:=(DF H).dz (o:=.tup (Fe ((EM (t,z,D)).map Az) AG (AA 2))) Z;show⟨_,_,Aq (s1 _ _ Y),Ae rfl,_,_,Aq (s1 _ _ e),Ae rfl,.inr ⟨MO (by decide) M,JP N (by decide)⟩,_,_,Aq (s1 _ _ e),Ae rfl,A1 rfl,λI J=>?_⟩;have s2:=s1.dz (o:=.tup [AB.int (D*f+g)]) J;have B:=Bh Ak J;show⟨G,I,_,_,rfl,rfl,Aq (by rw[Aa B];show Ak),Aq Ak,(by intro h;cases h),A1 rfl,(λh=>by cases h),λ_ W A=>?_⟩;have s3:=s2.dz (o:=.tup [AB.int t,AB.str z,AB.int (D*f+g)]) A;show⟨_,rfl,q,_,rfl,Aq (s3 _ _ Y),(by change¬(CT 3 0 _=0/\CT 3 3 _=3);decide),λL U=>?_⟩;have s4:=s3.dz (o:=.tup (Fe ((EM (t,z,D)).map Az) (AA 3) AG)) U;have C:=Bh Ak U;have F:(AR (AR (AR (AR H G (.tup [AB.int t,AB.str z])) I (.tup [AB.int (D*f+g)])) W (.tup [AB.int t,AB.str z,AB.int (D*f+g)])) L (.tup [])) W=AA (.tup [AB.int t,AB.str z,AB.int (D*f+g)]):=by rw[Aa C];show Ak
 show⟨W,L,_,[],rfl,rfl,Aq F,Aq Ak,(by intro h;cases h),A1 rfl,λ_=>k W _ s4 F,λh=>absurd rfl h⟩
noncomputable def Kn:AU->List (List AO)->List AO|.only _ _ J D,[A]=>A.filter λi=>Ab (J<=i.2.2/\i.2.2<=D)|.turn _ _ f g,[A]=>A.map (Rx f g)|.both ..,[A,B]=>A++B|.gap ..,[A]=>A|.each ..,[A]=>A|_,_=>[]
noncomputable def G6:List AF:=["count","sum","least","greatest"]
def VC:AU->Prop|.turn _ _ f _=>-100<=f/\f<=100|.gap _ _ D m=>0<=m/\D∈G6|.each _ _ D z d=>(1<=d/\d<=300000/\d<=z/\z<=4*d)/\D∈G6|_=>True
def O4(H:AI)(J:List AB)(D:List (List AO)):Prop:=Bf (λx L=>∃r,x=.ref r/\F7 H r L) J D
theorem PL{l:List D}(e:l[n]?=AA x):(l.take (n+1)).filter p=(l.take n).filter p++(if p x=AJ then[x]else[]):=by rw[DH,e,F0];congr 1;change[x].filter p=_;rw[F1];cases p x<;>rfl
theorem U0{l:List D}(h:l.length=1):∃x,l=[x]:=List.length_eq_one_iff.mp h
theorem UY(h:O4 H D [L]):∃r xs,D=[.ref r]/\H r=AA (.lst xs)/\Cq H xs (L.map EM):=by cases h with|cons a b=>lk;cases b;obtain⟨r,rfl,xs,e,w⟩:=a;k_in;show⟨r,xs,rfl,e,w⟩
theorem vN{l:List D}(h:l.length=2):∃x y,l=[x,y]:=by match l,h with|[x,y],_=>show⟨x,y,rfl⟩
theorem XU(h:O4 H U [L,M]):∃r J xs D,U=[.ref r,.ref J]/\H r=AA (.lst xs)/\H J=AA (.lst D)/\Cq H xs (L.map EM)/\Cq H D (M.map EM):=by cases h with|cons a b=>cases b with|cons b c=>lk;cases c;obtain⟨r,rfl,xs,e,w⟩:=a;obtain⟨J,rfl,D,W,Y⟩:=b;k_in;show⟨r,J,xs,D,rfl,e,W,w,Y⟩
def uG:BF:=λY H Q _=>(Iv λ(p W:AE)(s:AU)(U:List AB)(D:List (List AO))=>NY (Y=[.ref p,.ref W]) (Ed H p s) (VC s) (s.no≠0) (s.no≠4) (H W=AA (.lst U)) (O4 H U D) (D.length=s.bx.length) ((∀L∈D,L.length<=30000)) (∀r J,Aj H J->F7 J r (Kn s D)->(H r=AG\/AB.ref r∈U)->Q (.ref r) J))
theorem oQ(T:BM AH AZ AM):T.vn.Ok BE P w AZ base 2 uG:=by
  show T.vn.ok λnd _ _ _ _ _ hr H vs Q E h=>?_;obtain⟨p,ls,st,rs,Ls,rfl,e,ok,n0,n4,els,cs,cl,cz,k⟩:_:=h;show⟨_,(Ah (CP (Bu ED (EY (JK (K:=AH)) (Bd 0) AN (λ_ _=>rfl)) Bi (Bt _)) (Af (BD (QK (osc:=Cy U7) [("step",0)] rfl (DQ (K:=AH) (EY (Lm (K:=AH)) (Bd 1) AN (λ_ _=>rfl))) rfl rfl (by decide+kernel) (by decide+kernel) (by decide+kernel) ⟨rfl,rfl,trivial⟩ rfl (by decide+kernel) (λ_ _ _ _=>M6 (AAO Vu Vu (EY (JK (K:=AH)) (Bd 1) AN (λ_ _=>rfl)) (EY (JK (K:=AH)) (Bd 0) AN (λ_ _=>rfl)) (EY (JK (K:=AH)) (Bd 1) AN (λ_ _=>rfl)))) (λ_ _ _ _=>(Bd 0))))) Cg) (Ah (CP (Bu ED (EY (JK (K:=AH)) (Bd 0) AN (λ_ _=>rfl)) Bi (Bt _)) (Af (BD (QK (osc:=Cy U7) [("step",0)] rfl (DQ (K:=AH) (EY (Lm (K:=AH)) (Bd 1) AN (λ_ _=>rfl))) rfl rfl (by decide+kernel) (by decide+kernel) (by decide+kernel) ⟨rfl,rfl,trivial⟩ rfl (by decide+kernel) (λ_ _ _ _=>Fy) (λ_ _ _ _=>(BC (pK T) hr #v[Bd 1,Bd 0]))))) Cg) (Ah (CP (Bu ED (EY (JK (K:=AH)) (Bd 0) AN (λ_ _=>rfl)) Bi (Bt _)) (Af (BD (Ac Ff (EY (Lm (K:=AH)) (Bd 1) AN (λ_ _=>rfl)) (EY (Lm (K:=AH)) (Bd 1) AN (λ_ _=>rfl))))) Cg) (Af (BD (EY (Lm (K:=AH)) (Bd 1) AN (λ_ _=>rfl))))))),?_⟩;have sz:As=16777216:=CL;obtain⟨e0,e1,e2⟩:_:=e.gf;show⟨_,rfl,p,_,_,_,rfl,rfl,e0,e1,rfl,_,rfl,Kk (i:=1) rfl (λq1=>?_) λq1=>?_⟩
  . lk;obtain⟨n,a,lo,hi,rfl⟩:∃n a lo hi,st=.only n a lo hi:=by cases st<;>first|show⟨_,_,_,_,rfl⟩|cases q1
    obtain⟨L,rfl⟩:=U0 cl;obtain⟨r,xs,rfl,er,hw⟩:=UY cs;k_in;have hL:=cz L (.head _);have hx:=hw.bh;rw[Au]at hx;show⟨_,rfl,ls,_,_,_,rfl,rfl,AW els,Ae (j:=0) rfl,r,rfl,⟨_,AW er⟩,?_⟩;show Ms (K:=AH) (xs:=xs) (λm τ acc H'=>(∃o,τ=[o,AA (.ref p)])/\H'=H/\Cq H acc (((L.take m).filter λi=>Ab (lo<=i.2.2/\i.2.2<=hi)).map EM)) (by lia) ⟨⟨AG,rfl⟩,rfl,KO _⟩ (λm τ acc H'⟨_,e,_⟩=>by rw[e];show AW er) ?_ ?_
    . intro m y τ acc H' R1 R0 hy _ hI k1 k0;lk;obtain⟨⟨o,rfl⟩,rfl,hp⟩:=hI;obtain⟨b,ks,rfl,ek,eb⟩:=hw.at hy;rw[Bo]at ek;obtain⟨⟨t,z,am⟩,ei,rfl⟩:=EK.mp ek;k_in;have fs:=PL (p:=λi:AO=>Ab (lo<=i.2.2/\i.2.2<=hi)) ei;show⟨_,rfl,p,_,_,_,rfl,rfl,e0,Ae (j:=3) rfl,_,rfl,b,_,_,_,rfl,rfl,Aq eb,Ae (j:=2) rfl,_,_,rfl,rfl,_,rfl,?_⟩;have no:¬(lo<=am/\am<=hi)->Cq H' acc (((L.take (m+1)).filter λi=>Ab (lo<=i.2.2/\i.2.2<=hi)).map EM):=λq=>by rw[fs,AHS (by rw[AHY];show q),D4];show hp
      show Hx (λh1=>?_) λh1=>⟨_,rfl,HM (k0 _ _ ⟨⟨_,rfl⟩,rfl,no λq=>h1 q.1⟩)⟩;show⟨_,rfl,p,_,_,_,rfl,rfl,e0,Ae (j:=4) rfl,_,_,rfl,rfl,_,rfl,Hx (λh2=>?_) λh2=>k0 _ _ ⟨⟨_,rfl⟩,rfl,no λq=>h2 q.2⟩⟩;show⟨_,rfl,k1 _ _ _ ⟨⟨_,rfl⟩,rfl,?_⟩⟩;rw[fs,AHT (by rw[AHY];show⟨h1,h2⟩),CQ];show hp.iq eb
    . intro τ acc H' la hI D hD;obtain⟨_,rfl,hp⟩:_:=hI;rw[Dj (Bq hx.symm)]at hp;show k D _ ((DF _).dz hD) ⟨_,Ak,hp.ab ((DF _).dz hD).tp⟩ (.inl hD)
  . show⟨_,rfl,p,_,_,_,rfl,rfl,e0,e1,rfl,_,rfl,Kk (i:=2) rfl (λq2=>?_) λq2=>?_⟩
    . lk;obtain⟨n,a,f,g,rfl⟩:∃n a f g,st=.turn n a f g:=by cases st<;>first|show⟨_,_,_,_,rfl⟩|cases q2
      obtain⟨L,rfl⟩:=U0 cl;obtain⟨r,xs,rfl,er,hw⟩:=UY cs;k_in;have hL:=cz L (.head _);have hx:=hw.bh;rw[Au]at hx;show⟨_,rfl,ls,_,_,_,rfl,rfl,AW els,Ae (j:=0) rfl,r,rfl,⟨_,AW er⟩,?_⟩;show JJ (K:=AH) (xs:=xs) (λm τ acc H'=>(∃o,τ=[o,AA (.ref p)])/\Aj H H'/\Cq H' acc (((L.take m).map (Rx f g)).map EM)) (by lia) ⟨⟨AG,rfl⟩,DF _,KO _⟩ (λm τ acc H'⟨_,s,_⟩=>AW (s _ _ er)) ?_ ?_
      . intro m y τ acc H' R1 hy _ hI k1;lk;obtain⟨⟨o,rfl⟩,s,hp⟩:=hI;obtain⟨b,ks,rfl,ek,eb⟩:=hw.at hy;rw[Bo]at ek;obtain⟨i,ei,rfl⟩:=EK.mp ek;k_in;show⟨_,rfl,_,rfl,p,b,n,a,f,g,i,rfl,s _ _ e,ok,s _ _ eb,λr2 H2 s2 e2=>k1 _ _ _ ⟨⟨_,rfl⟩,s.aa s2,?_⟩⟩;rw[DH,ei,CQ,CQ];show(hp.ab s2.tp).iq e2
      . intro τ acc H' la hI D hD;obtain⟨_,s,hp⟩:_:=hI;rw[Dj (Bq hx.symm)]at hp;show k D _ (s.dz hD) ⟨_,Ak,hp.ab ((DF _).dz hD).tp⟩ (.inl (s.az hD))
    . show⟨_,rfl,p,_,_,_,rfl,rfl,e0,e1,rfl,_,rfl,Kk (i:=3) rfl (λq3=>?_) λq3=>?_⟩
      . lk;obtain⟨n,a,b,rfl⟩:∃n a b,st=.both n a b:=by cases st<;>first|show⟨_,_,_,rfl⟩|cases q3
        obtain⟨L,M,rfl⟩:=vN cl;obtain⟨r,r',xs,xs',rfl,er,er',hw,hw'⟩:=XU cs;k_in;have hL:=cz L (.head _);have hM:=cz M (.tail _ (.head _));have hx:=hw.bh;have hx':=hw'.bh;rw[Au]at hx hx';show⟨_,rfl,ls,_,_,_,rfl,rfl,AW els,Ae (j:=0) rfl,_,rfl,ls,_,_,_,rfl,rfl,AW els,Ae (j:=1) rfl,r,r',xs,xs',rfl,rfl,er,er',by lia,λD hD=>k D _ ((DF _).dz hD) ⟨_,Ak,?_⟩ (.inl hD)⟩;change Cq _ _ ((L++M).map EM);rw[CQ];show Cq.ab (EE hw hw') ((DF _).dz hD).tp
      . have n1:st.bx.length=1/\∀L,Kn st [L]=L:=by cases st<;>first|show⟨rfl,λ_=>rfl⟩|show absurd rfl n0|show absurd rfl q1|show absurd rfl q2|show absurd rfl q3|show absurd rfl n4
        lk;obtain⟨L,rfl⟩:=U0 (cl.trans n1.1);obtain⟨r,xs,rfl,er,hw⟩:=UY cs;k_in;show⟨_,rfl,ls,_,_,_,rfl,rfl,AW els,Ae (j:=0) rfl,k r _ (DF _) (by rw[n1.2];show⟨_,er,hw⟩) (.inr (Bc.mpr rfl))⟩
noncomputable def GB(wi:Int)(A B:List AO):List (List AL):=A.flatMap λi=>GG 0 wi i B
theorem X8(s wi:Int)(i:AO)(A B:List AO):GG s wi i (A++B)=GG s wi i A++GG s wi i B:=by unfold GG;rw[F0,CQ]
theorem kL(wi:Int)(A B:List AO)(i:AO):GB wi (A++[i]) B=GB wi A B++GG 0 wi i B:=by unfold GB;simp
theorem Xh(f g:D->List J):∀l:List D,(l.flatMap λx=>f x++g x).Perm (l.flatMap f++l.flatMap g)|[]=>.nil|a::l=>by simp only[Ew];show((AGT _).append (Xh f g l)).trans ?_;rw[Dh,Dh];show ABU _ ?_;rw[<-Dh,<-Dh];show ADs _ QY
theorem XY(wi:Int)(i:AO):∀A:List AO,(A.flatMap λj=>GG 0 wi j [i])=GG 1 wi i A
 |[]=>rfl|j::A=>by
  rw[Ew,XY wi i A];change _=GG 1 wi i ([j]++A);rw[X8];congr 1;unfold GG;rw[F1,F1];by_cases h:j.2.1=i.2.1/\i.1-wi<=j.1/\j.1<=i.1+wi
  . rw[AHT (AHV h),AHT (AHV ⟨h.1.symm,jH.mpr h.2.2,jH.mp h.2.1⟩)];change[Md 0 j i]=[Md 1 i j];unfold Md;rw[mU,h.1];simp
  . rw[AHS (λq=>h (by have:=AHX q;show⟨this.1.symm,by lia,by lia⟩)),AHS (by simpa using h)];rfl
theorem kN(wi:Int)(A B:List AO)(i:AO):(GB wi A (B++[i])).Perm (GB wi A B++GG 1 wi i A):=by unfold GB;rw[<-XY];show WC (TF ?_) (Xh _ _ A);congr 1;funext j;show X8 ..
theorem kM(wi:Int)(A B:List AO):(GB wi A B).length<=A.length*B.length:=by unfold GB;induction A with|nil=>simp|cons i A D=>
 rw[Ew,Ba,Ex];have:(GG 0 wi i B).length<=B.length:=by unfold GG;rw[Au];show Fh _ _
 lia
def tR(E:CA):BF:=λN H Q _=>(XE λ(C:List AE)(j I K L Y Z F G r1:AE)(W:Int)(D J A B:List AO)=>NY (N=[.ref j,.ref F]) (DD E C H j I K L Y Z W D J) ((∀c∈C,∃o,H c=AA o)) (H F=AA (.lst [.ref G,.ref r1])) (F7 H G A) (F7 H r1 B) (D.length+A.length<=30000) (J.length+B.length<=30000) ((D.length+A.length)*(J.length+B.length)<=1000000) (∀U m M V,GW Y Z H U->DD E C U j I K L Y Z W (D++A) (J++B)->H m=AG->U m=AA (.lst M)->Cq U M V->(GB W (D++A) (J++B)).Perm (GB W D J++V)->Q (.ref m) U))
theorem n9(T:BM AH AZ AM):T.vi.Ok BE P w AZ base 4 (tR AM):=by
  show T.vi.ok λnd _ _ _ _ _ hr H vs Q E h=>?_;obtain⟨ex,j,sl,x0,x1,d0,d1,ls,r0,r1,wi,L0,L1,C,B,rfl,jr,hex,els,⟨xa,ea,wa⟩,⟨xb,eb,wb⟩,l0,l1,l2,k⟩:_:=h;show⟨_,(Ah (KN (i:=2) nd rfl (FN rfl) (CM Fx)) (Ah (D3 D7 rfl (QM (K:=AH) (by rfl) T.fi (Bd 1)) (Nn rfl (IA (Jm (i:=3) nd rfl (FN rfl)) (IA (Jm (i:=4) nd rfl (FN rfl)) M4))) (Af (D3 D7 rfl (DQ (K:=AH) (Bd 4)) (Jm (i:=5) nd rfl (FN rfl)) (Af (Dr (GO (K:=AH) MG Od Qk My (Bd 2) #v[Hk (Bd 0) T.cv (nJ T) hr #v[Bd 3,Bd 5]])))))) (Af (BD (Bd 2))))),?_⟩;have sz:As=16777216:=CL;show⟨Bm _,λu hu=>?_⟩;have s0:=C9 (o:=.lst []) hu;have eu0:(AR H u (.lst [])) u=AA (.lst []):=Ak;generalize AR H u (.lst [])=H0 at s0 eu0⊢;have sx:∀{n:Nat}{x:AB},[AB.ref r0,AB.ref r1][n]?=AA x->n<=1/\∃r xs,x=.ref r/\H r=AA (.lst xs)/\Cq H xs ((if n=0 then C else B).map EM):=λ{n x}e=>by match n,e with |0,e=>cases e;show⟨by decide,r0,xa,rfl,ea,wa⟩|1,e=>cases e;show⟨by decide,r1,xb,rfl,eb,wb⟩
  have bnd:∀(X Y:List AO)(kss:List (List AL)),X.length<=L0.length+C.length->Y.length<=L1.length+B.length->(GB wi X Y).Perm (GB wi L0 L1++kss)->kss.length<=1000000:=λX Y kss hX hY pm=>by have h1:=pm.length_eq;rw[Ba]at h1;have h2:=kM wi X Y;have h3:=Qb hX hY;lia
  show⟨_,rfl,ls,rfl,⟨_,AW (s0 _ _ els)⟩,SR (K:=AH) (xs:=[.ref r0,.ref r1]) (λn σ H'=>(Iv λ(o3 o4 o5:Option AB)(acc:List AB)(kss:List (List AL))=>HZ (σ=(XQ j ls u o3 o4 o5)) (GW d0 d1 H H') (DD AM (u::ex) H' j sl x0 x1 d0 d1 wi (L0++(if n=0 then[]else C)) (L1++(if n<=1 then[]else B))) (H' u=AA (.lst acc)) (Cq H' acc kss) ((GB wi (L0++(if n=0 then[]else C)) (L1++(if n<=1 then[]else B))).Perm (GB wi L0 L1++kss)))) ⟨AG,AG,AG,[],[],rfl,Y9 s0 _ _,by simpa using(jr.ic hu).ak s0,eu0,KO _,by simp⟩ (λn σ H' _ hh=>by obtain⟨_,_,_,_,_,_,s',_⟩:=hh;show AW (jr.y s' els (by intro kvs z;cases z))) ?_ ?_⟩
  . intro n x σ H1 p hx hI hp;lk;obtain⟨o3,o4,o5,acc,kss,rfl,s1,jr1,eu,hw1,pm1⟩:=hI;obtain⟨n1,r,xs,rfl,er,hw⟩:=sx hx;k_in;have s2:=C9 (o:=.tup [.int (n:Int),.ref r]) hp;have lx:=hw.bh;rw[Au]at lx;show⟨p,_,rfl,Aq Ak,rfl,_,_,rfl,_,_,rfl,rfl,?_⟩;show⟨_,rfl,r,rfl,⟨_,AW (s2 _ _ (jr.y s1 er (by intro kvs z;cases z)))⟩,HK (K:=AH) (xs:=xs) (λm σ H'=>(El λ(o5:Option AB)(acc:List AB)(kss:List (List AL))=>HZ (σ=(XQ j ls u (AA (.int (n:Int))) (AA (.ref r)) o5)) (GW d0 d1 H H') (DD AM (u::ex) H' j sl x0 x1 d0 d1 wi (L0++(if n=0 then C.take m else C)) (L1++(if n=0 then[]else B.take m))) (H' u=AA (.lst acc)) (Cq H' acc kss) ((GB wi (L0++(if n=0 then C.take m else C)) (L1++(if n=0 then[]else B.take m))).Perm (GB wi L0 L1++kss)))) ⟨_,acc,kss,rfl,s1.aa (Y9 s2 _ _),?_,s2 _ _ eu,hw1.ab s2.tp,?_⟩ (λm σ H' _ hh=>by obtain⟨_,_,_,_,s',_⟩:=hh;show AW (jr.y s' er (by intro kvs z;cases z))) ?_ ?_⟩
    . have j2:=jr1.ak s2;by_cases hn:n=0;.subst hn;simpa using j2
      . have:n=1:=Eb n1 (KQ.mpr hn);subst this;simpa using j2
    . by_cases hn:n=0;.subst hn;simpa using pm1
      . have:n=1:=Eb n1 (KQ.mpr hn);subst this;simpa using pm1
    . intro m y σ H2 hy hI;lk;obtain⟨o5,acc,kss,rfl,sy,jr2,eu2,hw2,pm2⟩:=hI;obtain⟨b,ks,rfl,ek,eb2⟩:=hw.at hy;rw[Bo]at ek;obtain⟨it,ei,rfl⟩:=EK.mp ek;obtain⟨dx,ej⟩:=jr2.bb;k_in;have hl0:(L0++(if n=0 then C.take m else C)).length<=L0.length+C.length:=by
        rw[Ba];split;.rw[EH];lia
        .exact Ai _
      have hl1:(L1++(if n=0 then[]else B.take m)).length<=L1.length+B.length:=by
        rw[Ba];split;.exact Ey (Bm _) _
        .rw[EH];lia
      have lacc:acc.length<=1000000:=by rw[hw2.bh];show bnd _ _ _ hl0 hl1 pm2
      have h01:(n:Int)=0\/(n:Int)=1:=by lia
      have hex2:∀c∈u::ex,∃o,H2 c=AA o:=λc hc=>by
        rcases BY.mp hc with rfl|hc;.show⟨_,eu2⟩
        . obtain⟨o,eo⟩:=hex c hc;obtain⟨⟨k0,g0⟩,k1,g1⟩:=jr2.vw;by_cases q0:c=d0;.rw[q0];show⟨_,g0⟩
          . by_cases q1:c=d1;.rw[q1];show⟨_,g1⟩
            .show⟨_,sy c o q0 q1 eo⟩
      show⟨_,rfl,.inl ⟨rfl,_,AW eu2⟩,_,rfl,j,dx,_,rfl,ej,by rfl,_,rfl,_,rfl,u::ex,j,sl,x0,x1,d0,d1,b,wi,(n:Int),_,_,it,rfl,jr2,h01,hex2,jr.ack sy _ _ eb2,Ag hl0 l0,Ag hl1 l1,λH3 r3 xr kr sx3 jr3 hr3 er3 hwr sdr pmr=>?_⟩;have sy3:GW d0 d1 H2 H3:=by
        rcases h01 with e|e;.rw[AHT e]at sx3;show ZA sx3
        .rw[AHS (by simp_all)]at sx3;show ZC sx3
      have eu3:=jr2.y sy3 eu2 (by intro kvs z;cases z);have hw3:=hw2.ab (jr2.ack sy3);have lr:xr.length<=30000:=by
        rw[hwr.bh,pmr.length_eq];unfold GG;rw[Au];show Ag (Fh _ _) ?_;split;.show Ag hl1 l1
        .show Ag hl0 l0
      show⟨u,r3,_,_,rfl,rfl,eu3,er3,by lia,?_⟩;have tpu:B7 H3 (AR H3 u (.lst (acc++xr))):=(KD H3).dz eu3 λxs=>by intro z;cases z
      have j4:=(jr3.jq).uj (o:=.lst (acc++xr)) eu3 (.head _);have tk:(L0++(if n=0 then C.take (m+1)else C))=(if(n:Int)=0 then(L0++(if n=0 then C.take m else C))++[it]else(L0++(if n=0 then C.take m else C)))/\(L1++(if n=0 then[]else B.take (m+1)))=(if(n:Int)=0 then(L1++(if n=0 then[]else B.take m))else(L1++(if n=0 then[]else B.take m))++[it]):=by
        by_cases hn:n=0
        . subst hn;have ei:C[m]?=AA it:=ei;simp[DH,ei]
        . have:n=1:=Eb n1 (KQ.mpr hn);subst this;have ei:B[m]?=AA it:=ei;simp[DH,ei]
      show⟨_,acc++xr,kss++kr,rfl,λc o q0 q1 e=>?_,by rw[tk.1,tk.2];show j4,Ak,Cq.ab (EE hw3 hwr) tpu,?_⟩
      . have hc:c≠u:=λz=>by rw[z,hu]at e;cases e
        rw[Aa hc];show(sy.aa sy3) c o q0 q1 e
      . rw[tk.1,tk.2,<-Dh];rcases h01 with e|e
        . rw[AHT e]at pmr;rw[AHT e,AHT e];rw[e]at pmr;rw[kL];show pm2.append pmr.symm
        . rw[AHS (by simp_all)]at pmr;rw[AHS (show¬(n:Int)=0 by simp_all),AHS (show¬(n:Int)=0 by simp_all)];rw[e]at pmr;show(kN ..).trans (pm2.append pmr.symm)
    . intro σ H2 hI;obtain⟨o5,acc,kss,rfl,sy,jr2,eu2,hw2,pm2⟩:_:=hI;have tk:(L0++(if n=0 then C.take xs.length else C))=(L0++(if n+1=0 then[]else C))/\(L1++(if n=0 then[]else B.take xs.length))=(L1++(if n+1<=1 then[]else B)):=by
        by_cases hn:n=0
        . subst hn;rw[AHT rfl]at lx;simp[lx]
        . have:n=1:=Eb n1 (KQ.mpr hn);subst this;rw[AHS (by decide)]at lx;simp[lx]
      rw[tk.1,tk.2]at jr2 pm2;show⟨_,_,_,acc,kss,rfl,sy,jr2,eu2,hw2,pm2⟩
  . intro σ H1 hI;obtain⟨o3,o4,o5,acc,kss,rfl,s1,jr1,eu,hw1,pm1⟩:_:=hI;show⟨_,rfl,k H1 u acc kss s1 (by simpa using jr1.jq) hu eu hw1 (by simpa using pm1)⟩
noncomputable def mT(i j:AO):AO:=(JC i.1 j.1,i.2.1,i.2.2-j.2.2)
noncomputable def PV(wi:Int)(i j:AO):Bool:=Ab (j.2.1=i.2.1/\i.1-wi<=j.1/\j.1<=i.1+wi)
noncomputable def DO(wi:Int)(A B:List AO):List AO:=A.flatMap λi=>(B.filter (PV wi i)).map (mT i)
theorem XX(wi:Int)(A B:List AO):GB wi A B=(DO wi A B).map EM:=by unfold GB DO GG;rw[NC];congr 1;funext i;rw[Cz];rfl
noncomputable def Pk:List AL->AO|[.inl t,.inr z,.inl a]=>(t,z,a)|_=>(0,"",0)
theorem vP(i:AO):Pk (EM i)=i:=rfl
noncomputable def FF(s:AU)(L:AF->List AO)(evs:List CF):List AO:=match s with|.take _ k=>(evs.filter λe=>Ab (e.2.1=k)).map PK|.only _ a J D=>(L a).filter λi=>Ab (J<=i.2.2/\i.2.2<=D)|.turn _ a f g=>(L a).map (Rx f g)|.both _ a b=>L b++L a|.join _ a b U=>DO U (L a) (L b)|.gap ..|.each ..=>[]
def GU(s:AU)(bt:AF->List AO)(S:List AO×List AO)(e:CF):Prop:=match s with|.take n k=>bt n=Nv k e|.join n a b D=>(DO D (S.1++bt a) (S.2++bt b)).Perm (DO D S.1 S.2++bt n)|.only n a U J=>bt n=Kn (.only n a U J) [bt a]|.turn n a f g=>bt n=Kn (.turn n a f g) [bt a]|.both n a b=>bt n=bt a++bt b|.gap n a _ _=>bt n=bt a|.each n a _ _ _=>bt n=bt a
theorem Xi(f g:D->List J)(h:∀x,(f x).Perm (g x)):∀l:List D,(l.flatMap f).Perm (l.flatMap g)|[]=>.nil|x::r=>by show(h x).append (Xi f g h r)
theorem Uc(p:A.Perm D)(q:B.Perm J):(DO wi A B).Perm (DO wi D J):=(p.flatMap_right _).trans (Xi _ _ (λi=>(q.filter _).map _) D)
theorem kP:DO wi (A++C) B=DO wi A B++DO wi C B:=LD
theorem RN:∀{A:List AO},(DO wi A (B++D)).Perm (DO wi A B++DO wi A D)|[]=>.nil|i::A=>by have J:=RN (wi:=wi) (B:=B) (D:=D) (A:=A);unfold DO at J⊢;rw[Ew,Ew,Ew,F0,CQ];show(AGS (.refl _) J).trans ?_;rw[Dh,Dh];show .append (.refl _) ?_;rw[<-Dh,<-Dh];show QY.append (.refl _)
theorem Xa(h:∀y∈D,now<=y.1):∀A:List AO,DO wi (CH (now-wi) A) D=DO wi A D
  |[]=>rfl|i::A=>by
    have J:=Xa (wi:=wi) h A;unfold DO CH at J⊢;rw[F1];split;.rw[Ew,Ew,J]
    . rename_i q;have e:D.filter (PV wi i)=[]:=LC.mpr λy U z=>by obtain⟨_,_,z⟩:=AHX z;have:=h y U;rw[AHY]at q;show absurd (jH.mpr (FQ this z)) q
      rw[Ew,e,J];rfl
theorem Xb:∀{C:List AO},(∀y∈C,now<=y.1)->DO wi C (CH (now-wi) B)=DO wi C B
 |[],_=>rfl|i::C,h=>by
  have D:=Xb (wi:=wi) (B:=B) λy J=>h y (.tail _ J);unfold DO CH at D⊢;rw[Ew,Ew,D,TK];have e:(B.filter λa=>PV wi i a&&Ab _)=B.filter (PV wi i):=NB λy _=>by cases q:PV wi i y with |false=>rfl|true=> obtain⟨_,z,_⟩:=AHX q;have:=h i (.head _);show AHV (FQ (ADp this _) z)
  rw[e]
noncomputable def Ud(wi:Int)(A B C D:List AO):List AO:=DO wi A D++DO wi C (B++D)
theorem XZ:(DO wi (A++C) (B++D)).Perm (DO wi A B++Ud wi A B C D):=by rw[kP];show(RN.append (.refl _)).trans (by rw[Dh];show .refl _)
theorem Xc(W:∀y∈C,now<=y.1)(Y:∀y∈D,now<=y.1)(p:J.Perm (CH (now-wi) A))(q:U.Perm (CH (now-wi) B))(h:(DO wi (J++C) (U++D)).Perm (DO wi J U++M)):M.Perm (Ud wi A B C D):=by have V:=(List.perm_append_left_iff _).mp (h.symm.trans XZ);show V.trans (((Uc p (.refl _)).trans (.of_eq (Xa Y A))).append ?_);show(Uc (.refl _) (q.append (.refl _))).trans (RN.trans ?_);rw[Xb W];show RN.symm
theorem kO(V:∀y∈C,now<=y.1)(W:∀y∈D,now<=y.1):∀y∈Ud wi A B C D,now<=y.1:=λy J=>by
 have U:∀{X Y:List AO},((∀y∈X,now<=y.1)\/∀y∈Y,now<=y.1)->y∈DO wi X Y->now<=y.1:=λ{X Y}h J=>by
  obtain⟨i,Z,J⟩:=L8.mp J;obtain⟨j,E,rfl⟩:=Ax.mp J;change now<=JC _ _;unfold JC;rcases h with h|h;.have:=h i Z;split<;>(first|lia|omega)
  .have:=h j (EJ.mp E).1;split<;>lia
 rcases C1.mp J with J|J;.show U (.inr W) J
 .show U (.inl V) J
theorem XT(W:s.cu=AQ)(m:L s.nm=FF s L evs)(Z:J s.nm=FF s J (evs++[e]))(U:∀a∈s.bx,(J a).Perm (L a++bt a))(Y:∀n a b wi,s=.join n a b wi->S.1.Perm (CH (now-wi) (L a))/\S.2.Perm (CH (now-wi) (L b)))(V:∀a∈s.bx,∀y∈bt a,now<=y.1)(D:GU s bt S e):(J s.nm).Perm (L s.nm++bt s.nm):=by rw[m,Z];cases s with
 |take n k=>
  change((evs++[e]).filter _|>.map PK).Perm ((evs.filter _).map _++bt n);rw[D,F0,CQ];unfold Nv;by_cases q:e.2.1=k;. rw[AHT q,TJ (by show AHV q)];show .refl _
  . rw[AHS q,TH (by rw[AHY];show q)];show .refl _|only n a B A=> have D:bt n=(bt a).filter _:=D;change((J a).filter _).Perm ((L a).filter _++bt n);rw[D,<-F0];show(U a (.head _)).filter _|turn n a f g=>have D:bt n=(bt a).map _:=D;change((J a).map _).Perm ((L a).map _++bt n);rw[D,<-CQ];show(U a (.head _)).map _|both n a b=>change(J b++J a).Perm (L b++L a++bt n);rw[D];show((U b (.tail _ (.head _))).append (U a (.head _))).trans ?_;rw[Dh,Dh];show .append (.refl _) ?_;show QY.trans ?_;rw[Dh]|join n a b wi=>obtain⟨p,q⟩:=Y n a b wi rfl;show(Uc (U a (.head _)) (U b (.tail _ (.head _)))).trans ?_;show XZ.trans (.append (.refl _) (Xc (V a (.head _)) (V b (.tail _ (.head _))) p q D).symm)|gap=>cases W|each=>cases W
theorem kI{L:AF->List AO}(hw:now<=V)(Y:V<=e.1)(W:∀n a b wi,s=.join n a b wi->S.1.Perm (CH (now-wi) (L a))/\S.2.Perm (CH (now-wi) (L b)))(J:∀a∈s.bx,∀y∈bt a,V<=y.1)(U:GU s bt S e):∀y∈bt s.nm,V<=y.1:=λy D=>by cases s with
 |take n k=>
  have D:y∈bt n:=D;rw[U]at D;unfold Nv at D;split at D;.rw[Bc.mp D];show Y
  .cases D|only n a C B=>have D:y∈bt n:=D;rw[U]at D;show J a (.head _) y (EJ.mp D).1|turn n a f g=> have D:y∈bt n:=D;rw[U]at D;obtain⟨x,Z,rfl⟩:_:=Ax.mp D;show J a (.head _) x Z|both n a b=>have D:y∈bt n:=D;rw[U]at D;show(C1.mp D).elim (J a (.head _) y) (J b (.tail _ (.head _)) y)|join n a b wi=>obtain⟨p,q⟩:=W n a b wi rfl;show kO (J a (.head _)) (J b (.tail _ (.head _))) y ((Xc (λy h=>FQ hw (J a (.head _) y h)) (λy h=>FQ hw (J b (.tail _ (.head _)) y h)) p q U).mem_iff.mp D)|gap n a A m=>have D:y∈bt n:=D;rw[U]at D;show J a (.head _) y D|each n a A z d=>have D:y∈bt n:=D;rw[U]at D;show J a (.head _) y D
theorem GU.abk(J:D s.nm=bt s.nm)(U:∀a∈s.bx,D a=bt a)(h:GU s bt S e):GU s D S e:=by cases s with|take n k=>show J.trans h|only n a Y W=>change D n=Kn _ _;rw[U a (.head _),<-h];show J|turn n a f g=>change D n=Kn _ _;rw[U a (.head _),<-h];show J|both n a b=>change D n=D a++D b;rw[U a (.head _),U b (.tail _ (.head _)),<-h];show J|join n a b V=>have J:D n=bt n:=J;change(DO V _ _).Perm _;rw[U a (.head _),U b (.tail _ (.head _)),J];show h|gap n a s m=>change D n=D a;rw[U a (.head _),<-h];show J|each n a s z m=>change D n=D a;rw[U a (.head _),<-h];show J
structure DI(ss:List AU):Prop where
 bo:∀(i i':Nat)s s',ss[i]?=AA s->ss[i']?=AA s'->s.nm=s'.nm->i=i'
 rl:∀(i:Nat)s a,ss[i]?=AA s->a∈s.bx->∃(i':Nat)(s':AU),i'<i/\ss[i']?=AA s'/\s'.nm=a/\s'.cu=AQ
 ok:∀s∈ss,VC s
noncomputable def B8(bt:AF->List AO)(n:AF)(L:List AO):AF->List AO:=λa=>if a=n then L else bt a
theorem IQ:B8 bt n L n=L:=AHT rfl
theorem DI.abd(h:DI ss){i k:Nat}(D:ss[i]?=AA s)(J:ss[k]?=AA t)(U:k<i)(bt:AF->List AO)(L:List AO):B8 bt s.nm L t.nm=bt t.nm:=AHS λe=>by have:=h.bo k i t s J D e;simp_all
theorem DI.fm(h:DI ss){i k:Nat}(J:ss[i]?=AA s)(U:ss[k]?=AA t)(W:k<=i)(bt:AF->List AO)(L:List AO)(V:a∈t.bx):B8 bt s.nm L a=bt a:=by obtain⟨Y,Z,l,D,rfl,_⟩:_:=h.rl k t a U V;show h.abd J D (Bl l W) bt L
theorem DI.abg(h:DI ss)(U:ss[i]?=AA s){sd:Nat->List AO×List AO}(L:List AO)(Y:∀(k:Nat)t,k<i->ss[k]?=AA t->GU t bt (sd k) e)(Z:GU s (B8 bt s.nm L) (sd i) e):∀(k:Nat)t,k<i+1->ss[k]?=AA t->GU t (B8 bt s.nm L) (sd k) e:=λk t V J=>by
 by_cases D:k=i;.subst D;rw[U]at J;cases J;show Z
 .show(Y k t (DT (Ej V) D) J).abk (h.abd U J (DT (Ej V) D) bt L) λa W=>h.fm U J (Ej V) bt L W
theorem DI.adb(h:DI ss){L:AF->List AO}{sd:Nat->List AO×List AO}(hw:now<=V)(Z:V<=e.1)(W:∀(i:Nat)n a b wi,ss[i]?=AA (.join n a b wi)->(sd i).1.Perm (CH (now-wi) (L a))/\(sd i).2.Perm (CH (now-wi) (L b)))(Y:∀(i:Nat)s,i<n->ss[i]?=AA s->GU s bt (sd i) e):∀m,m<=n->∀(i:Nat)s,i<m->ss[i]?=AA s->∀y∈bt s.nm,V<=y.1|0,_,i,_,D,_=>absurd D (NH _)|m+1,A,i,s,D,J=>by have E:=DI.adb h hw Z W Y m (D6 A);show kI hw Z (λn a b wi q=>W i n a b wi (by rw[<-q];show J)) (λa B=>?_) (Y i s (Bl D A) J);obtain⟨C,G,F,U,rfl,_⟩:_:=h.rl i s a J B;show E C G (Bl F (Ej D)) U
theorem DI.abc(h:DI ss){L:AF->List AO}{sd:Nat->List AO×List AO}(U:now<=e.1)(D:∀(i:Nat)n a b wi,ss[i]?=AA (.join n a b wi)->(sd i).1.Perm (CH (now-wi) (L a))/\(sd i).2.Perm (CH (now-wi) (L b)))(J:∀(i:Nat)s,i<n->ss[i]?=AA s->GU s bt (sd i) e):∀m,m<=n->∀(i:Nat)s,i<m->ss[i]?=AA s->∀y∈bt s.nm,now<=y.1:=h.adb (LQ _) U D J
def F9(H:AI)(D:List AB)(ss:List AU):Prop:=Bf (λx s=>∃a,x=.ref a/\Ed H a s) D ss
theorem F9.ab(h:F9 H D ss)(t:B7 H H'):F9 H' D ss:=GN (λx s⟨a,e,q⟩=>⟨a,e,q.tp t⟩) h
theorem F9.bh(h:F9 H D ss):D.length=ss.length:=(Cn h).1
theorem F9.at(h:F9 H J ss){i:Nat}(e:J[i]?=AA x):∃a s,x=.ref a/\ss[i]?=AA s/\Ed H a s:=by lk;obtain⟨l,f⟩:=Cn h;have U:=(BU.mp e).1;have D:=CG (show i<ss.length by simp_all);obtain⟨a,r1,r2⟩:=f i x _ e D;k_in;show⟨a,_,r1,D,r2⟩
def DZ(p:AE->Prop)(H H':AI):Prop:=∀b o,¬p b->H b=AA o->H' b=AA o
theorem DD.cy{K:AE}(h:DD AM ex H j G K L U W wi B E)(s:DZ p H H')(Y:∀b,p b->(b∈ex/\∃xs,H b=AA (.lst xs))\/∃kvs,H b=AA (.dK kvs))(N:¬p U)(O:¬p W):DD AM ex H' j G K L U W wi B E:=by
 have Z:∀{b:AE}{C D:AE}{J:List _},H b=AA _->H' b=AA (.ins C D J):=λ{b C D J}e=>s _ _ (λq=>by rcases Y b q with⟨_,xs,z⟩|⟨kvs,z⟩<;>(rw[e]at z;cases z)) e;have A:∀{b:AE}{xs:List AB},b∉ex->H b=AA _->H' b=AA (.lst xs):=λ{b xs}n e=>s _ _ (λq=>by
  rcases Y b q with⟨z,_⟩|⟨kvs,z⟩;.show n z
  .rw[e]at z;cases z) e;have I:B7 H H':=λb xs e=>s _ _ (λq=>by rcases Y b q with⟨_,xs,z⟩|⟨kvs,z⟩<;>(rw[e]at z;cases z)) e;obtain⟨⟨D,e⟩,M,P,r1,n,F⟩:_:=h;show⟨⟨D,Z e⟩,A F M,P.ab (λC D J e=>Z e) (λkvs e=>s _ _ N e) (λb xs n e=>A n e) I,r1.ab (λC D J e=>Z e) (λkvs e=>s _ _ O e) (λb xs n e=>A n e) I,n,F⟩
theorem Kp(h:GK H a u)(s:∀o,H a=AA o->H' a=AA o):GK H' a u:=by show h.elim (λe=>.inl (s _ e)) λD=>?_;obtain⟨o,e⟩:=D;show .inr ⟨o,s _ e⟩
theorem Y0(h:GK H a u)(D:H b=AG):a≠b:=λz=>by rcases h with e|⟨o,e⟩<;>(rw[z,D]at e;cases e)
structure DS where
 j:AE
 sl:AE
 x0:AE
 x1:AE
 d0:AE
 d1:AE
def C7(ss:List AU)(i:Nat):Prop:=∃(n a b:AF)(D:Int),ss[i]?=AA (.join n a b D)
structure Cf(ad:CA)(ex:List AE)(H:AI)(ss:List AU)(dj:AE)(jkvs:List (AL×AB))(jd:Nat->DS)(sd:Nat->List AO×List AO):Prop where
 aj:GK H dj (.dK jkvs)dq:∀(i:Nat)(n a b:AF)(wi:Int),ss[i]?=AA (.join n a b wi)->BZ jkvs (.inl (i:Int))=AA (.ref (jd i).j)/\DD ad ex H (jd i).j (jd i).sl (jd i).x0 (jd i).x1 (jd i).d0 (jd i).d1 wi (sd i).1 (sd i).2
 bo:∀i i':Nat,C7 ss i->C7 ss i'->i≠i'->((jd i').d0≠(jd i).d0/\(jd i').d0≠(jd i).d1)/\(jd i').d1≠(jd i).d0/\(jd i').d1≠(jd i).d1
 ve:∀i:Nat,C7 ss i->dj≠(jd i).d0/\dj≠(jd i).d1
def Dy(ss:List AU)(D:Nat->DS)(b:AE):Prop:=∃i,C7 ss i/\(b=(D i).d0\/b=(D i).d1)
theorem Cf.ak(h:Cf AM ex H ss J D U sd)(s:Aj H H'):Cf AM ex H' ss J D U sd:=⟨Kp h.aj (s _),λi n a b W e=>⟨(h.dq i n a b W e).1,(h.dq i n a b W e).2.ak s⟩,h.bo,h.ve⟩
theorem Cf.ic(h:Cf AM ex H ss J D U sd)(Y:H l=AG):Cf AM (l::ex) H ss J D U sd:=⟨h.aj,λi n a b W e=>⟨(h.dq i n a b W e).1,(h.dq i n a b W e).2.ic Y⟩,h.bo,h.ve⟩
theorem Cf.jq(h:Cf AM (l::ex) H ss J D U sd):Cf AM ex H ss J D U sd:=⟨h.aj,λi n a b W e=>⟨(h.dq i n a b W e).1,(h.dq i n a b W e).2.jq⟩,h.bo,h.ve⟩
theorem Cf.cy(h:Cf AM ex H ss J D U sd)(s:DZ p H H')(A:∀b,p b->(b∈ex/\∃xs,H b=AA (.lst xs))\/∃kvs,H b=AA (.dK kvs))(W:∀b,p b->¬Dy ss U b)(Z:¬p J):Cf AM ex H' ss J D U sd:=⟨Kp h.aj λo=>s _ o Z,λi n a b Y e=>⟨(h.dq i n a b Y e).1,(h.dq i n a b Y e).2.cy s A (λq=>W _ q ⟨i,⟨_,_,_,_,e⟩,.inl rfl⟩) λq=>W _ q ⟨i,⟨_,_,_,_,e⟩,.inr rfl⟩⟩,h.bo,h.ve⟩
theorem Cf.gh(h:Cf AM ex H ss B J D sd)(W:ss[i]?=AA (.join n a b wi))(s:GW (D i).d0 (D i).d1 H H')(g:DD AM ex H' (D i).j (D i).sl (D i).x0 (D i).x1 (D i).d0 (D i).d1 wi M0 M1):Cf AM ex H' ss B J D λk=>if k=i then(M0,M1)else sd k:=by
 have Y:C7 ss i:=⟨_,_,_,_,W⟩;show⟨Kp h.aj λo=>s _ o (h.ve i Y).1 (h.ve i Y).2,λk G E F C U=>⟨(h.dq k _ _ _ _ U).1,?_⟩,h.bo,h.ve⟩;by_cases Z:k=i
 . subst Z;rw[W]at U;cases U;rw[AHT rfl];show g
 . rw[AHS Z];have A:=h.bo i k Y ⟨_,_,_,_,U⟩ (Gk Z);show(h.dq i _ _ _ _ W).2.wd (h.dq k _ _ _ _ U).2 s A.1 A.2
def IK(H:AI)(xs:List AB)(D:List (Int×AO)):Prop:=Bf (λx p=>∃a q,x=.ref a/\H a=AA (.tup [.int p.1,.ref q])/\H q=AA (.tup ((EM p.2).map Az))) xs D
theorem IK.ab(h:IK H xs D)(t:B7 H H'):IK H' xs D:=GN (λx p W=>by obtain⟨a,q,e,J,U⟩:=W;show⟨a,q,e,t _ _ J,t _ _ U⟩) h
theorem IK.bh(h:IK H xs D):xs.length=D.length:=(Cn h).1
theorem IK.at(h:IK H xs D){i:Nat}(e:xs[i]?=AA x):∃a q s it,x=.ref a/\D[i]?=AA (s,it)/\H a=AA (.tup [.int s,.ref q])/\H q=AA (.tup ((EM it).map Az)):=by lk;obtain⟨l,f⟩:=Cn h;have W:=(BU.mp e).1;have J:=CG (show i<D.length by simp_all);obtain⟨a,q,r1,r2,U⟩:=f i x _ e J;k_in;show⟨a,q,_,_,r1,J,r2,U⟩
theorem Cf.ay(h:Cf AM ex H ss W D Y sd)(e:∀i,C7 ss i->J i=sd i):Cf AM ex H ss W D Y J:=⟨h.aj,λi n a b Z U=>⟨(h.dq i n a b Z U).1,by rw[e i ⟨_,_,_,_,U⟩];show(h.dq i n a b Z U).2⟩,h.bo,h.ve⟩
noncomputable def Ft(ss:List AU)(sd:Nat->List AO×List AO)(n:Nat)(bt:AF->List AO)(i:Nat):List AO×List AO:=match ss[i]? with|AA (.join _ a b _)=>if i<n then((sd i).1++bt a,(sd i).2++bt b)else sd i|_=>sd i
theorem Kq(e:ss[i]?=AA (.join m a b wi)):Ft ss sd n bt i=if i<n then((sd i).1++bt a,(sd i).2++bt b)else sd i:=by unfold Ft;rw[e]
theorem rP(ss:List AU)(sd:Nat->List AO×List AO)(bt:AF->List AO):Ft ss sd 0 bt=sd:=by
 funext i;unfold Ft;split;.show AHS (NH _)
 .rfl
theorem rO(V:DI ss)(J:ss[n]?=AA s)(Y:s.no≠4)(L:List AO):∀i,C7 ss i->Ft ss sd (n+1) (B8 bt s.nm L) i=Ft ss sd n bt i:=by
  intro i W;obtain⟨m,a,b,A,D⟩:_:=W;rw[Kq D,Kq D];by_cases h:i<n;.rw[AHT (ABn h),AHT h,V.fm J D (Bz h) bt L (.head _),V.fm J D (Bz h) bt L (.tail _ (.head _))]
  . by_cases U:i=n
    . subst U;rw[J]at D;cases D;show absurd rfl Y
    .rw[AHS (Oa U (λZ=>Eb (Ej Z) (F4 h))),AHS h]
theorem rN(U:DI ss)(D:ss[n]?=AA (.join m a b wi))(L:List AO):∀i,C7 ss i->Ft ss sd (n+1) (B8 bt m L) i=if i=n then((Ft ss sd n bt n).1++bt a,(Ft ss sd n bt n).2++bt b)else Ft ss sd n bt i:=by
  intro i E;obtain⟨H,Z,A,G,J⟩:_:=E;have V:=U.fm D D (Ai _) bt L (.head _);have W:=U.fm D D (Ai _) bt L (.tail _ (.head _));have V:B8 bt m L a=bt a:=V;have W:B8 bt m L b=bt b:=W;by_cases Y:i=n;. subst Y;rw[D]at J;rw[Kq D,Kq D,AHT rfl,AHT (OZ _),AHS (JN _),V,W]
  . rw[AHS Y,Kq J,Kq J];by_cases h:i<n
    . have B:B8 bt m L Z=bt Z:=U.fm D J (by lia) bt L (.head _);have C:B8 bt m L A=bt A:=U.fm D J (by lia) bt L (.tail _ (.head _));rw[AHT (by lia),AHT h,B,C]
    .rw[AHS (Oa h (λF=>DT (Ej F) Y)),AHS h]
noncomputable def Ep(ss:List AU)(bt:AF->List AO):Nat->List (Int×AO)|0=>[]|n+1=>Ep ss bt n++(match ss[n]? with|AA s=>if s.cu=AJ then(bt s.nm).map λi=>((n:Int),i)else[]|AG=>[])
theorem ZN(J:DI ss)(D:ss[i]?=AA s)(bt:AF->List AO)(L:List AO):∀n,n<=i->Ep ss (B8 bt s.nm L) n=Ep ss bt n|0,_=>rfl|n+1,h=>by unfold Ep;rw[ZN J D bt L n (D6 h)];congr 1;cases U:ss[n]? with|none=>rfl|some t=>change(if t.cu=AJ then _ else _)=_;rw[J.abd D U (by assumption) bt L]
theorem pZ{st:AU}(W:st.no≠0)(Y:st.no≠4)(U:L=Kn st (st.bx.map bt))(J:∀a∈st.bx,B8 bt st.nm L a=bt a):GU st (B8 bt st.nm L) S e:=by cases st with|take=>show absurd rfl W|join=>show absurd rfl Y|only n f A Z=>have D:B8 bt n L f=bt f:=J f (.head _);change B8 bt n L n=Kn _ [B8 bt n L f];rw[IQ,D,U];rfl|turn n f x y=>have D:B8 bt n L f=bt f:=J f (.head _);change B8 bt n L n=Kn _ [B8 bt n L f];rw[IQ,D,U];rfl|both n f g=>have D:B8 bt n L f=bt f:=J f (.head _);have V:B8 bt n L g=bt g:=J g (.tail _ (.head _));change B8 bt n L n=B8 bt n L f++B8 bt n L g;rw[IQ,D,V,U];rfl|gap n f x y=>have D:B8 bt n L f=bt f:=J f (.head _);change B8 bt n L n=B8 bt n L f;rw[IQ,D,U];rfl|each n f x y z=>have D:B8 bt n L f=bt f:=J f (.head _);change B8 bt n L n=B8 bt n L f;rw[IQ,D,U];rfl
theorem vQ{X Y:List AO}(p:(X.map EM).Perm (Y.map EM++kss)):∃M:List AO,kss=M.map EM/\X.Perm (Y++M):=by
  show⟨kss.map Pk,?_,?_⟩
  . rw[Cz];have:∀D∈kss,(EM∘Pk) D=D:=λD J=>by obtain⟨i,_,rfl⟩:=Ax.mp (p.mem_iff.mpr (EO _ J));rfl
    rw[OS this,AD4]
  . have:=p.map Pk;have e:Pk∘EM=id:=funext vP;rw[CQ,Cz,Cz,e,d4,d4]at this;show this
theorem U3[DecidableEq D](kvs:List (D×AB))(k:D)(v:AB):(Bk kvs k v).length<=kvs.length+1:=by
 unfold Bk;split;.simp
 .rw[Ba];show Ai _
theorem ZM:∀{n:Nat},(∀(i:Nat)s,i<n->ss[i]?=AA s->(bt s.nm).length<=20000)->(Ep ss bt n).length<=20000*n |0,_=>Ai _|n+1,h=>by have D:=ZM (n:=n) λi s V J=>h i s (by lia) J;unfold Ep;rw[Ba];cases U:ss[n]? with |none=>show Ii (ABk D)|some t=>
 have:=h n t (by simp) U;change _+(if t.cu=AJ then _ else[]).length<=_;split;.rw[Au];lia
 .show Ii (ABk D)
structure Nf(s:AU)(L:AF->List AO):Prop where
 bh:(L s.nm).length<=20000
 pr:∀n a b wi,s=.join n a b wi->(L a).length*(L b).length<=1000000
def uS(I:CA):BF:=λO H Q _=>(XD λ(E:List AE)(K C q:AE)(M:List AB)(D:List AU)(J:List (AL×AB))(F:Nat->DS)(Z:Nat->List AO×List AO)(L A:AF->List AO)(Y:List CF)(e:CF)(U:Int)=>W9 (O=[.ref K,.ref C,.ref q]) (H K=AA (.lst M)) (F9 H M D) (DI D) (D.length<=20) (Cf I E H D C J F Z) ((∀c∈E,∃o,H c=AA o)) (Kd H q e) ((∀(i:Nat)s,D[i]?=AA s->s.cu=AQ->L s.nm=FF s L Y/\A s.nm=FF s A (Y++[e])/\Nf s A)) ((∀(i:Nat)n a b G,D[i]?=AA (.join n a b G)->(Z i).1.Perm (CH (U-G) (L a))/\(Z i).2.Perm (CH (U-G) (L b)))) (U<=e.1) (∀W m N B,DZ (Dy D F) H W->Cf I (m::E) W D C J F (Ft D Z D.length B)->H m=AG->W m=AA (.lst N)->IK W N (Ep D B D.length)->(∀(i:Nat)s,D[i]?=AA s->GU s B (Z i) e)->Q (.ref m) W))
theorem pD(T:BM AH AZ AM):T.vq.Ok BE P w AZ base 5 (uS AM):=by
  show T.vq.ok λnd _ _ _ _ _ hr H vs Q E h=>?_;obtain⟨ex,lp,dj,q,ps,ss,jkvs,jd,sd,L,L',evs,e,now,rfl,elp,pr,pok,lss,jr,hex,ev,hL,hS,he,k⟩:_:=h;show⟨_,(Ah (KN (i:=3) nd rfl (Or.inr rfl) QL) (Ah (KN (i:=4) nd rfl (FN rfl) (CM Fx)) (Ah (D3 D7 rfl (QM (K:=AH) (by rfl) T.fi (Bd 0)) (Nn rfl (IA (Jm (i:=5) nd rfl (Or.inr rfl)) (IA (Jm (i:=6) nd rfl (FN rfl)) M4))) (Ah (OL (i:=7) (osc:=Cy U8) [("brought",3)] nd rfl (FN rfl) rfl (DQ (K:=AH) (BC (nQ T) hr #v[Bd 6])) rfl rfl (by decide+kernel) (by decide+kernel) (by decide+kernel) ⟨rfl,rfl,trivial⟩ rfl (by decide+kernel) (λ_ _ _ _=>Fy) (λ_ _ _ _=>(Jl hr.u1 (Bd 1) (Bd 0) (λ_ _=>rfl)))) (Ah (QO (CP (Bu ED (EY (JK (K:=AH)) (Bd 6) AN (λ_ _=>rfl)) Bi (Bt _)) (Af (KN (i:=8) nd rfl (FN rfl) (BC (pG T) hr #v[Bd 6,Bd 2]))) (Af (CP (Bu ED (EY (JK (K:=AH)) (Bd 6) AN (λ_ _=>rfl)) Bi (Bt _)) (Af (KN (i:=8) nd rfl (FN rfl) (BC (n9 T) hr #v[(Jl hr.u1 (Bd 1) (Bd 5) (λ_ _=>rfl)),Bd 7]))) (Af (KN (i:=8) nd rfl (FN rfl) (BC (oQ T) hr #v[Bd 6,Bd 7]))))))) (Ah (M5 hr.u1 (Bd 3) (BC (oH T) hr #v[Bd 6]) (Bd 8) rfl) (Af (CP (Fg (BC (YZ T) hr #v[Bd 6])) (Af (Dr (GO (K:=AH) MG Od Qk My (Bd 4) #v[(QK (osc:=Cy U8) [("place",5)] rfl (DQ (K:=AH) (Bd 8)) rfl rfl (by decide+kernel) (by decide+kernel) (by decide+kernel) ⟨rfl,rfl,trivial⟩ rfl (by decide+kernel) (λ_ _ _ _=>Fy) (λ_ _ _ _=>(CY #v[Bd 1,Bd 0])))]))) Cg)))))) (Af (BD (Bd 4)))))),?_⟩;have sz:As=16777216:=CL;have lps:=pr.bh;have isd:∀b,Dy ss jd b->∃kvs,H b=AA (.dK kvs):=λb hb=>by
    obtain⟨i,⟨n,a,b',wi,ei⟩,hb⟩:=hb;obtain⟨⟨k0,e0⟩,k1,e1⟩:=(jr.dq i n a b' wi ei).2.vw;rcases hb with rfl|rfl;.show⟨_,e0⟩
    .show⟨_,e1⟩
  showλbr hbr=>⟨Bm _,λu hu0=>?_⟩;have hu:H u=AG:=Jd hu0;have nbu:br≠u:=Bh Ak hu0;have s0:Aj H (AR (AR H br (.dK [])) u (.lst [])):=((DF H).dz hbr).dz hu0;have ebr0:(AR (AR H br (.dK [])) u (.lst [])) br=AA (.dK []):=by rw[Aa nbu];show Ak
  have eu0:(AR (AR H br (.dK [])) u (.lst [])) u=AA (.lst []):=Ak;generalize AR (AR H br (.dK [])) u (.lst [])=H0 at s0 ebr0 eu0⊢;have keep:∀{H':AI}{b:AE}{o:Bw},DZ (Dy ss jd) H H'->H b=AA o->(∀kvs,o≠.dK kvs)->H' b=AA o:=λ{H' b o}s eo hn=>s b o (λz=>by obtain⟨kvs,ek⟩:=isd b z;rw[eo]at ek;show hn _ (CD ek)) eo;show⟨_,rfl,lp,rfl,⟨_,AW (s0 _ _ elp)⟩,SR (K:=AH) (xs:=ps) (λn σ H'=>(Jz λ(o5 o6 o7 o8:Option AB)(kvs:List (AL×AB))(acc:List AB)(bt:AF->List AO)=>NY (σ=(RL lp dj q br u o5 o6 o7 o8)) (DZ (Dy ss jd) H H') (Cf AM (u::ex) H' ss dj jkvs jd (Ft ss sd n bt)) (kvs.length<=n) (H' br=AA (.dK kvs)) (H' u=AA (.lst acc)) (IK H' acc (Ep ss bt n)) ((∀(i:Nat)s,i<n->ss[i]?=AA s->GU s bt (sd i) e)) ((∀(i:Nat)s,i<n->ss[i]?=AA s->∃r,BZ kvs (.inr s.nm)=AA (.ref r)/\F7 H' r (bt s.nm)/\r≠u/\(bt s.nm).length<=20000)) ((∀(i:Nat)s,i<n->ss[i]?=AA s->s.cu=AQ->(L' s.nm).Perm (L s.nm++bt s.nm))))) ⟨AG,AG,AG,AG,[],[],λ_=>[],rfl,λb o _ eo=>s0 _ _ eo,?_,Ai _,ebr0,eu0,.nil,λi s h=>absurd h (NH _),λi s h=>absurd h (NH _),λi s h=>absurd h (NH _)⟩ (λn σ H' _ hh=>by obtain⟨_,_,_,_,_,_,_,_,s',_⟩:=hh;show AW (keep s' elp (by intro kvs z;cases z))) ?_ ?_⟩;. rw[rP];show(jr.ic hu).ak s0
  . intro n x σ H1 p hx hI hp;lk;obtain⟨o5,o6,o7,o8,kvs,acc,bt,rfl,s1,jr1,lk1,eb1,eu1,it1,br1,cm1,pm1⟩:=hI;obtain⟨a,st,rfl,es,ea⟩:=pr.at hx;k_in;have hn:n<ss.length:=(BU.mp es).1;have s2:=C9 (o:=.tup [.int (n:Int),.ref a]) hp;have ea1:Ed H1 a st:=keep s1 ea (by intro kvs z;cases z);show⟨p,_,rfl,Aq Ak,rfl,_,_,rfl,_,_,rfl,rfl,?_⟩;show⟨_,rfl,a,st,rfl,ea1.tp s2.tp,λlf Hf sf hlf elf=>⟨lf,rfl,⟨_,AW elf⟩,?_⟩⟩;have s3:=s2.aa sf;have cmf:∀(i:Nat)s,i<n->ss[i]?=AA s->∃r,BZ kvs (.inr s.nm)=AA (.ref r)/\F7 Hf r (bt s.nm)/\r≠u/\(bt s.nm).length<=20000:=λi s hi ei=>by obtain⟨r,v1,v2,v3,v4⟩:=cm1 i s hi ei;show⟨r,v1,v2.ab (λxs z=>s3 _ _ z) s3.tp,v3,v4⟩
    have lf5:st.bx.length<=2:=by cases st<;>show eK rfl
    show JJ (K:=AH) (xs:=st.bx.map AB.str) (λm τ acc H'=>(∃o,τ=[o,AA (.ref br)])/\H'=Hf/\O4 Hf acc ((st.bx.take m).map bt)/\∀r,AB.ref r∈acc->r≠u) (by rw[Au];lia) ⟨⟨AG,rfl⟩,rfl,.nil,λr hr=>by cases hr⟩ (λm τ acc H'⟨_,ee,_⟩=>by rw[ee];show AW elf) ?_ ?_
    . intro m y τ acc H' R1 hy _ hI k1;lk;obtain⟨⟨o,rfl⟩,rfl,hc,hru⟩:=hI;rw[Bo]at hy;obtain⟨f,ef,rfl⟩:=EK.mp hy;obtain⟨i',s',li,ei',rfl,_⟩:=pok.rl n st f es (Cp ef);obtain⟨r,v1,v2,v3,v4⟩:=cmf i' s' li ei';k_in;show⟨_,rfl,_,rfl,br,.ref r,rfl,?_,k1 _ _ _ ⟨⟨_,rfl⟩,rfl,?_,λr' hr'=>?_⟩⟩;. rw[<-v1];show JI (k:=.inr s'.nm) (s3 _ _ eb1)
      . rw[DH,ef,CQ];show EE hc (.cons ⟨r,rfl,v2⟩ .nil)
      . rcases C1.mp hr' with h|h;.show hru r' h
        .cases Bc.mp h;show v3
    . intro τ acc2 H' la hI ls hls;obtain⟨_,rfl,hc,ru4⟩:_:=hI;rw[Au,Dj (Ai _)]at hc;have s4:=s3.dz (o:=.lst acc2) hls;have sl4:=C9 (o:=.lst acc2) hls;have els:(AR H' ls (.lst acc2)) ls=AA (.lst acc2):=Ak;have hc4:O4 (AR H' ls (.lst acc2)) acc2 (st.bx.map bt):=GN (λx L⟨r,e1,e2⟩=>⟨r,e1,e2.ab (λxs z=>sl4 _ _ z) sl4.tp⟩) hc;have cm4:∀(i:Nat)s,i<n->ss[i]?=AA s->∃r,BZ kvs (.inr s.nm)=AA (.ref r)/\F7 (AR H' ls (.lst acc2)) r (bt s.nm)/\r≠u/\(bt s.nm).length<=20000:=λi s hi ei=>by obtain⟨r,v1,v2,v3,v4⟩:=cmf i s hi ei;show⟨r,v1,v2.ab (λxs z=>sl4 _ _ z) sl4.tp,v3,v4⟩
      generalize AR H' ls (.lst acc2)=H4 at s4 els hc4 cm4⊢;have sp4:DZ (Dy ss jd) H H4:=λb o nb eo=>s4 _ _ (s1 b o nb eo);have jr4:=jr1.ak s4;have ea4:Ed H4 a st:=ea1.tp s4.tp;have eb4:=s4 _ _ eb1;have ev4:Kd H4 q e:=s4 _ _ (keep s1 ev (by intro kvs z;cases z));have eu4:=s4 _ _ eu1;have it4:=it1.ab s4.tp;have fz:∀f∈st.bx,(L' f).Perm (L f++bt f)/\(L f).length+(bt f).length<=20000:=λf hf=>by obtain⟨i',s',li,ei',rfl,ht⟩:=pok.rl n st f es hf;have pp:=pm1 i' s' li ei' ht;have:=pp.length_eq;rw[Ba]at this;have:=(hL i' s' ei' ht).2.2.bh;show⟨pp,by simp_all⟩
      show P5 (λσ' H'=>UT (λ(r:AE)(Lr:List AO)=>σ'=(RL lp dj q br u (AA (.int (n:Int))) (AA (.ref a)) (AA (.ref ls)) (AA (.ref r)))) (λ_ _=>DZ (Dy ss jd) H H') (λ_ Lr=>Cf AM (u::ex) H' ss dj jkvs jd (Ft ss sd (n+1) (B8 bt st.nm Lr))) (λ_ _=>H' br=AA (.dK kvs)) (λ_ _=>H' u=AA (.lst acc)) (λ_ _=>IK H' acc (Ep ss bt n)) (λr Lr=>F7 H' r Lr) (λr _=>r≠u) (λ_ Lr=>GU st (B8 bt st.nm Lr) (sd n) e) (λ_ _=>Ed H' a st) (λr _=>∀(i:Nat)s,i<n->ss[i]?=AA s->∃r,BZ kvs (.inr s.nm)=AA (.ref r)/\F7 H' r (bt s.nm)/\r≠u/\(bt s.nm).length<=20000)) ?_ ?_
      . obtain⟨e0,e1,e2⟩:_:=ea4.gf;have plain:∀{r:AE}{Lr:List AO}{H5:AI},Aj H4 H5->st.no≠4->F7 H5 r Lr->r≠u->GU st (B8 bt st.nm Lr) (sd n) e->(λ(σ':List (Option AB))(H':AI)=>UT (λ(r:AE)(Lr:List AO)=>σ'=(RL lp dj q br u (AA (.int (n:Int))) (AA (.ref a)) (AA (.ref ls)) (AA (.ref r)))) (λ_ _=>DZ (Dy ss jd) H H') (λ_ Lr=>Cf AM (u::ex) H' ss dj jkvs jd (Ft ss sd (n+1) (B8 bt st.nm Lr))) (λ_ _=>H' br=AA (.dK kvs)) (λ_ _=>H' u=AA (.lst acc)) (λ_ _=>IK H' acc (Ep ss bt n)) (λr Lr=>F7 H' r Lr) (λr _=>r≠u) (λ_ Lr=>GU st (B8 bt st.nm Lr) (sd n) e) (λ_ _=>Ed H' a st) (λr _=>∀(i:Nat)s,i<n->ss[i]?=AA s->∃r,BZ kvs (.inr s.nm)=AA (.ref r)/\F7 H' r (bt s.nm)/\r≠u/\(bt s.nm).length<=20000)) (RL lp dj q br u (AA (.int (n:Int))) (AA (.ref a)) (AA (.ref ls)) (AA (.ref r))) H5:=λ{r Lr H5}s5 n4 cr ru bs=>⟨r,Lr,rfl,λb o nb eo=>s5 _ _ (sp4 b o nb eo),(jr4.ak s5).ay (rO pok es n4 Lr),s5 _ _ eb4,s5 _ _ eu4,it4.ab s5.tp,cr,ru,bs,ea4.tp s5.tp,λi s hi ei=>by obtain⟨r,v1,v2,v3,v4⟩:=cm4 i s hi ei;show⟨r,v1,v2.ab (λxs z=>s5 _ _ z) s5.tp,v3,v4⟩⟩;show⟨_,rfl,a,_,_,_,rfl,rfl,e0,e1,rfl,_,rfl,Kk (i:=0) rfl (λq0=>?_) λq0=>?_⟩
        . lk;obtain⟨nn,kd,rfl⟩:∃nn kd,st=.take nn kd:=by cases st<;>first|show⟨_,_,rfl⟩|cases q0
          k_in;show⟨_,rfl,_,rfl,a,q,nn,kd,e,rfl,ea4,ev4,λr H5 s5 hr5 cr=>plain s5 (by intro z;cases z) cr (Bh eu4 hr5).symm ?_⟩;show IQ
        . show⟨_,rfl,a,_,_,_,rfl,rfl,e0,e1,rfl,_,rfl,Kk (i:=4) rfl (λq4=>?_) λq4=>?_⟩
          . lk;obtain⟨nn,f,g,wi,rfl⟩:∃nn f g wi,st=.join nn f g wi:=by cases st<;>first|show⟨_,_,_,_,rfl⟩|cases q4
            obtain⟨jv,jj⟩:=jr4.dq n nn f g wi es;have e9:Ft ss sd n bt n=sd n:=by rw[Kq es,AHS (JN _)]
            rw[e9]at jj;obtain⟨r0,r1,xs0,xs1,rfl,er0,er1,w0,w1⟩:=XU hc4;have z0:=fz f (.head _);have z1:=fz g (.tail _ (.head _));obtain⟨pf,pg⟩:=hS n nn f g wi es;k_in;have lf0:(sd n).1.length<=(L f).length:=pf.length_eq▸Ph _ _;have lg0:(sd n).2.length<=(L g).length:=pg.length_eq▸Ph _ _;have y0:=z0.1.length_eq;have y1:=z1.1.length_eq;rw[Ba]at y0 y1;have hex4:∀c∈u::ex,∃o,H4 c=AA o:=λc hc=>by
              rcases BY.mp hc with rfl|hc;.show⟨_,eu4⟩
              . obtain⟨o,eo⟩:=hex c hc;by_cases hd:Dy ss jd c
                . obtain⟨i,⟨n',a',b',wi',ei⟩,hd⟩:=hd;obtain⟨⟨k0,g0⟩,k1,g1⟩:=(jr4.dq i n' a' b' wi' ei).2.vw;rcases hd with rfl|rfl;.show⟨_,g0⟩
                  .show⟨_,g1⟩
                .show⟨_,sp4 c o hd eo⟩
            show⟨_,rfl,_,rfl,dj,.ref (jd n).j,rfl,by rw[<-jv];show .inl ⟨jkvs,.inl (n:Int),jr4.aj,rfl,rfl⟩,_,rfl,u::ex,(jd n).j,(jd n).sl,(jd n).x0,(jd n).x1,(jd n).d0,(jd n).d1,ls,r0,r1,wi,(sd n).1,(sd n).2,bt f,bt g,rfl,jj,hex4,els,⟨_,er0,w0⟩,⟨_,er1,w1⟩,by lia,by lia,Ag (Qb (by lia) (by lia)) ((hL n _ es rfl).2.2.pr _ _ _ _ rfl),λH5 m xs5 kss sy5 j5 hm em hw5 pm5=>?_⟩;have sp5:DZ (Dy ss jd) H4 H5:=λb o nb eo=>sy5 b o (λz=>nb ⟨n,⟨_,_,_,_,es⟩,.inl z⟩) (λz=>nb ⟨n,⟨_,_,_,_,es⟩,.inr z⟩) eo;have ky:∀{b:AE}{o:Bw},H4 b=AA o->(∀kvs,o≠.dK kvs)->H5 b=AA o:=λeo hn=>jj.y sy5 eo hn;have tp5:=jj.ack sy5;rw[XX,XX]at pm5;obtain⟨M,rfl,pmM⟩:_:=vQ pm5;have nbr:¬Dy ss jd br:=λz=>by obtain⟨kv,ek⟩:=isd br z;rw[hbr]at ek;cases ek
            have fe:∀a'∈(AU.join nn f g wi).bx,B8 bt nn M a'=bt a':=λa' ha'=>pok.fm es es (Ai _) bt M ha';show⟨m,M,rfl,λb o nb eo=>sp5 b o nb (sp4 b o nb eo),?_,sp5 _ _ nbr eb4,ky eu4 (by intro kv z;cases z),it4.ab tp5,⟨_,em,hw5⟩,(Bh eu4 hm).symm,?_,ea4.tp tp5,λi s hi ei=>?_⟩
            . show(jr4.gh es sy5 j5).ay λi hi=>?_;have q:=rN pok (sd:=sd) (bt:=bt) es M i hi;rw[e9]at q;show q
            . change(DO wi ((sd n).1++B8 bt nn M f) ((sd n).2++B8 bt nn M g)).Perm (DO wi (sd n).1 (sd n).2++B8 bt nn M nn);rw[fe f (.head _),fe g (.tail _ (.head _)),IQ];show pmM
            . obtain⟨r,v1,v2,v3,v4⟩:_:=cm4 i s hi ei;show⟨r,v1,v2.ab (λxs z=>ky z (by intro kv z;cases z)) tp5,v3,v4⟩
          . have bf:∀f∈st.bx,(bt f).length<=30000:=λf hf=>by have:=(fz f hf).2;show Ag (TV this) (by decide)
            show⟨_,rfl,_,rfl,a,ls,st,acc2,st.bx.map bt,rfl,ea4,pok.ok st (Cp es),q0,q4,els,hc4,by rw[Au],λL hL=>by obtain⟨f,hf,rfl⟩:=Ax.mp hL;show bf f hf,λr H5 s5 cr hr5=>plain s5 q4 cr ?_ (pZ q0 q4 rfl λf hf=>pok.fm es es (Ai _) bt _ hf)⟩;rcases hr5 with hr5|hr5;.show(Bh eu4 hr5).symm
            .show ru4 r hr5
      . intro σ H5 hI;obtain⟨r,Lr,rfl,sp5,jr5,eb5,eu5,it5,cr5,ru5,bs5,ea5,cm5⟩:_:=hI;show⟨_,rfl,_,rfl,_,rfl,a,st,rfl,ea5,br,_,rfl,.inl ⟨_,.inr st.nm,eb5,rfl,?_,rfl⟩,?_⟩;.lia
        have nbr:¬Dy ss jd br:=λz=>by obtain⟨kv,ek⟩:=isd br z;rw[hbr]at ek;cases ek
        have ndj:dj≠br:=Y0 jr.aj hbr;have s6:DZ (.=br) H5 (AR H5 br (.dK (Bk kvs (.inr st.nm) (.ref r)))):=zzu
        have ne6:∀{b:AE}{o:Bw},H5 b=AA o->(∀kv,o≠.dK kv)->b≠br:=λeo hn z=>by rw[z,eb5]at eo;show hn _ (CD eo).symm
        have tp6:B7 H5 (AR H5 br (.dK (Bk kvs (.inr st.nm) (.ref r)))):=λb xs eo=>s6 _ _ (ne6 eo (by intro kv z;cases z)) eo;have sp6:DZ (Dy ss jd) H (AR H5 br (.dK (Bk kvs (.inr st.nm) (.ref r)))):=λb o nb eo=>s6 _ _ (λz=>by rw[z,hbr]at eo;cases eo) (sp5 b o nb eo);have jr6:Cf AM (u::ex) (AR H5 br (.dK (Bk kvs (.inr st.nm) (.ref r)))) ss dj jkvs jd (Ft ss sd (n+1) (B8 bt st.nm Lr)):=jr5.cy s6 (λb hb=>.inr ⟨kvs,by rw[hb];show eb5⟩) (λb hb=>by rw[hb];show nbr) ndj;have eu6:(AR H5 br (.dK (Bk kvs (.inr st.nm) (.ref r)))) u=AA (.lst acc):=s6 _ _ (ne6 eu5 (by intro kv z;cases z)) eu5;have it6:=it5.ab tp6;have ck6:∀{b:AE}{M:List AO},F7 H5 b M->F7 (AR H5 br (.dK (Bk kvs (.inr st.nm) (.ref r)))) b M:=λc=>c.ab (λxs z=>s6 _ _ (ne6 z (by intro kv z;cases z)) z) tp6;have cr6:=ck6 cr5;have ea6:=ea5.tp tp6;have eb6:(AR H5 br (.dK (Bk kvs (.inr st.nm) (.ref r)))) br=AA (.dK (Bk kvs (.inr st.nm) (.ref r))):=Ak;have bt6:=pok.abg es Lr br1 bs5;have fz6:∀f∈st.bx,B8 bt st.nm Lr f=bt f:=λf hf=>pok.fm es es (Ai _) bt Lr hf;have pmn:st.cu=AQ->(L' st.nm).Perm (L st.nm++B8 bt st.nm Lr st.nm):=λht=>XT ht (hL n st es ht).1 (hL n st es ht).2.1 (λf hf=>by rw[fz6 f hf];show(fz f hf).1) (λn' a' b' wi' q=>hS n n' a' b' wi' (by rw[<-q];show es)) (λf hf=>by rw[fz6 f hf];obtain⟨i',s',li,ei',rfl,_⟩:=pok.rl n st f es hf;show pok.abc he hS br1 n (Ai _) i' s' li ei') bs5;have lr6:Lr.length<=20000:=by cases ht:st.cu with |false=> have:=(pmn ht).length_eq;rw[Ba,IQ]at this;have:=(hL n st es ht).2.2.bh;lia|true=>
            obtain⟨f,hf,eq⟩:∃f∈st.bx,B8 bt st.nm Lr st.nm=B8 bt st.nm Lr f:=by cases st with |gap n' f x y=>show⟨f,.head _,bs5⟩|each n' f x y z=>show⟨f,.head _,bs5⟩|_=>cases ht
            rw[IQ,fz6 f hf]at eq;have:=(fz f hf).2;rw[eq];show TV this
        have cm6:∀(i:Nat)s,i<n+1->ss[i]?=AA s->∃r',BZ (Bk kvs (.inr st.nm) (.ref r)) (.inr s.nm)=AA (.ref r')/\F7 (AR H5 br (.dK (Bk kvs (.inr st.nm) (.ref r)))) r' (B8 bt st.nm Lr s.nm)/\r'≠u/\(B8 bt st.nm Lr s.nm).length<=20000:=λi s hi ei=>by
          by_cases hin:i=n
          . subst hin;rw[es]at ei;cases ei;show⟨r,by rw[Jr,AHT rfl],by rw[IQ];show cr6,ru5,by rw[IQ];show lr6⟩
          . obtain⟨r',v1,v2,v3,v4⟩:=cm5 i s (DT (Ej hi) hin) ei;have eo:=pok.abd es ei (DT (Ej hi) hin) bt Lr;show⟨r',?_,by rw[eo];show ck6 v2,v3,by rw[eo];show v4⟩;rw[Jr,AHS (λz=>hin (pok.bo i n s st ei es (GS z)))];show v1
        have pm6:∀(i:Nat)s,i<n+1->ss[i]?=AA s->s.cu=AQ->(L' s.nm).Perm (L s.nm++B8 bt st.nm Lr s.nm):=λi s hi ei ht=>by
          by_cases hin:i=n
          . subst hin;rw[es]at ei;cases ei;show pmn ht
          . rw[pok.abd es ei (DT (Ej hi) hin) bt Lr];show pm1 i s (DT (Ej hi) hin) ei ht
        have lk6:=U3 kvs (.inr st.nm) (.ref r);have tl6:=ZN pok es bt Lr n (Ai _);generalize AR H5 br (.dK (Bk kvs (.inr st.nm) (.ref r)))=H6 at sp6 jr6 eu6 it6 cr6 ea6 eb6 cm6⊢;show⟨_,rfl,a,st,rfl,ea6,_,rfl,Jh (λht=>?_) λht=>?_⟩
        . obtain⟨xs6,er6,w6⟩:_:=cr6;have lx6:=w6.bh;rw[Au]at lx6;show⟨_,rfl,.inl ⟨rfl,_,AW eu6⟩,_,rfl,r,rfl,⟨_,AW er6⟩,?_⟩;show JJ (K:=AH) (xs:=xs6) (λm τ acc' H'=>(∃o,τ=[o,AA (.int (n:Int))])/\Aj H6 H'/\IK H' acc' ((Lr.take m).map λi=>((n:Int),i))) (by lia) ⟨⟨AG,rfl⟩,DF _,.nil⟩ (λm τ acc' H'⟨_,s,_⟩=>AW (s _ _ er6)) ?_ ?_
          . intro m y τ acc' H' R1 hy _ hI k1;lk;obtain⟨⟨o,rfl⟩,s,hp⟩:=hI;obtain⟨b,ks,rfl,ek,eb⟩:=w6.at hy;rw[Bo]at ek;obtain⟨i,ei,rfl⟩:=EK.mp ek;k_in;show⟨_,rfl,_,rfl,eK rfl,λp2 hp2=>k1 _ _ _ ⟨⟨_,rfl⟩,s.dz hp2,?_⟩⟩;have sp2:=C9 (o:=.tup [.int (n:Int),.ref b]) hp2;rw[DH,ei,CQ];show EE (hp.ab sp2.tp) (.cons ⟨p2,b,rfl,Ak,sp2 _ _ (s _ _ eb)⟩ .nil)
          . intro τ acc' H7 la hI D hD;obtain⟨_,s7,hp7⟩:_:=hI;rw[Dj (Bq lx6.symm)]at hp7;have s8:=s7.dz (o:=.lst acc') hD;have sD:=C9 (o:=.lst acc') hD;have eD:(AR H7 D (.lst acc')) D=AA (.lst acc'):=Ak;have hp8:=hp7.ab sD.tp;generalize AR H7 D (.lst acc')=H8 at s8 eD hp8⊢;have eu8:=s8 _ _ eu6;have la6:acc.length<=20000*n:=by rw[it6.bh];show ZM λi s hi ei=>by obtain⟨_,_,_,_,v4⟩:=cm1 i s hi ei;show v4
            show⟨u,D,acc,acc',rfl,rfl,eu8,eD,by lia,?_⟩;have s9:DZ (.=u) H8 (AR H8 u (.lst (acc++acc'))):=zzu
            have tp9:B7 H8 (AR H8 u (.lst (acc++acc'))):=λb xs eo=>s9 _ _ (λz=>by rw[z,eu8]at eo;cases eo) eo;have nud:¬Dy ss jd u:=λz=>by obtain⟨kv,ek⟩:=isd u z;rw[hu]at ek;cases ek
            have ndu:dj≠u:=Y0 jr.aj hu;show⟨_,_,_,_,_,acc++acc',B8 bt st.nm Lr,rfl,λb o nb eo=>s9 _ _ (λz=>by rw[z,hu]at eo;cases eo) (s8 _ _ (sp6 b o nb eo)),?_,Ag lk6 (Jv.mpr lk1),s9 _ _ nbu (s8 _ _ eb6),Ak,?_,bt6,λi s hi ei=>?_,pm6⟩;.show(jr6.ak s8).cy s9 (λb hb=>.inl ⟨by rw[hb];show .head _,acc,by rw[hb];show eu8⟩) (λb hb=>by rw[hb];show nud) ndu
            . change IK _ _ (Ep ss (B8 bt st.nm Lr) n++_);rw[tl6,es];change IK _ _ (Ep ss bt n++(if st.cu=AJ then _ else[]));rw[AHT ht,IQ];show IK.ab (EE (it6.ab s8.tp) hp8) tp9
            . obtain⟨r',v1,v2,v3,v4⟩:_:=cm6 i s hi ei;show⟨r',v1,v2.ab (λxs z=>s9 _ _ v3 (s8 _ _ z)) (λb xs z=>tp9 _ _ (s8 _ _ z)),v3,v4⟩
        . have ht:st.cu=AQ:=ht;show⟨_,_,_,_,_,acc,B8 bt st.nm Lr,rfl,sp6,jr6,Ag lk6 (Jv.mpr lk1),eb6,eu6,?_,bt6,cm6,pm6⟩;change IK H6 acc (Ep ss (B8 bt st.nm Lr) n++_);rw[tl6,es];change IK H6 acc (Ep ss bt n++(if st.cu=AJ then _ else[]));rw[ht,AHS Dk,D4];show it6
  . intro σ H1 hI;obtain⟨o5,o6,o7,o8,kvs,acc,bt,rfl,s1,jr1,lk1,eb1,eu1,it1,br1,cm1,pm1⟩:_:=hI;rw[lps]at jr1 it1 br1;show⟨_,rfl,k H1 u acc bt s1 jr1 hu eu1 it1 λi s ei=>br1 i s (BU.mp ei).1 ei⟩
abbrev Dc:=Int×Int×Int×Int
abbrev AV:=Int×Int×Dc
abbrev Iy:=Int×Int
noncomputable def GX(a b:Dc):Dc:=(a.1+b.1,a.2.1+b.2.1,DR a.2.2.1 b.2.2.1,Ju a.2.2.2 b.2.2.2)
noncomputable def Hn(a:Int):Dc:=(1,a,a,a)
theorem mM(a b:Int):(if b<a then b else a)=DR a b:=by(split<;>lia)
theorem PD(a b:Dc):GX a b=GX b a:=by unfold GX;grind
theorem XR(a b c:Dc):GX (GX a b) c=GX a (GX b c):=by unfold GX;grind
noncomputable def Bx(s e:Int)(t:Dc):List AV->List AV|[]=>[(s,e,t)]|b::r=>if b.1<s then b::Bx s e t r else if b.1=s then(s,b.2.1,GX b.2.2 t)::r else(s,e,t)::b::r
def De(l:List AV):Prop:=l.Pairwise λa b=>a.1<b.1
theorem Uj:∀{l:List AV}{x:AV},x∈Bx s e t l->x.1=s\/x∈l
  |[],x,h=>.inl (by rw[Bc.mp h])|b::r,x,h=>by
    unfold Bx at h;split at h
    . rcases BY.mp h with h|h;.simp_all
      .show(Uj h).imp id (λD=>G0 D)
    grind
theorem Uk:∀{l:List AV},De l->De (Bx s e t l)
 |[],_=>d8 _ _|b::r,h=>by
  obtain⟨U,J⟩:=Gi.mp h;unfold Bx;split;. show Gi.mpr ⟨λx D=>?_,Uk J⟩;rcases Uj D with z|z;all_goals(simp[*])
  split;.show Gi.mpr (by grind)
  . show Gi.mpr ⟨λx D=>?_,h⟩;grind
theorem Xu:∀{l:List AV},(Bx s e t l).length<=l.length+1
 |[]=>Ai _|b::r=>by
  unfold Bx;split;.show WX Xu
  (split<;>simp_all)
theorem Xy{s e s' W:Int}{t t':Dc}(h:s=s'->e=W):∀{l:List AV},Bx s' W t' (Bx s e t l)=Bx s e t (Bx s' W t' l)
  |[]=>by
    by_cases z:s=s';.have:=h z;subst z this;simp[Bx,PD]
    . by_cases y:s<s';.simp[Bx,y,by show UD y,by show LR y]
      .simp[Bx,y,by show ADe.mpr ⟨NW y,Gk z⟩,show s≠s' by assumption]|b::r=>by
    have Y:=@Xy s e s' W t t' h r;by_cases J:b.1<s<;>by_cases U:b.1<s';.simp[Bx,J,U,Y]
    . by_cases D:b.1=s';.simp[Bx,J,D,show s'<s by simp_all]
      .simp[Bx,J,U,D,by show JP (NW U) J]
    . by_cases D:b.1=s;.simp[Bx,U,D,show s<s' by simp_all]
      .simp[Bx,J,U,D,by show JP (NW J) U]
    . by_cases D:b.1=s<;>by_cases V:b.1=s'
      . have z:=O1 D.symm V;have:=h z;subst z this;simp[Bx,D,XR,PD t t']
      .simp[Bx,D,show¬s<s' by simp_all,show s'<s by lia,show s≠s' by simp_all]
      .simp[Bx,V,show¬s'<s by simp_all,show s<s' by lia,show s'≠s by simp_all]
      . by_cases z:s=s'
        . have:=h z;subst z this;simp[Bx,J,D,PD]
        . by_cases y:s<s';.simp[Bx,J,U,D,V,y,by show UD y,by show LR y,by(first|lia|omega)]
          .simp[Bx,J,U,D,V,y,by show ADe.mpr ⟨NW y,Gk z⟩,show s≠s' by assumption]
noncomputable def Dz(w:Int)(p:AV):Bool:=Ab (w<p.2.1)
theorem Xt:∀{l:List AV},(∀x∈l,s<x.1)->Bx s e t l=(s,e,t)::l|[],_=>rfl|b::r,h=>by have:=h b Ci;simp[Bx,by show UD this,by show LR this]
theorem Xw{w s e:Int}{t:Dc}(V:w<e):∀{l:List AV},De l->(∀b∈l,b.1=s->w<b.2.1)->(Bx s e t l).filter (Dz w)=Bx s e t (l.filter (Dz w))/\(Bx s e t l).filter (λp=>!Dz w p)=l.filter λp=>!Dz w p
  |[],_,_=>by simp[Bx,Dz,V]|b::r,u,h=>by
    obtain⟨A,u2⟩:=Gi.mp u;have Y:=@Xw w s e t V r u2 (λA u2 u3=>h _ (G0 u2) u3);by_cases D:b.1<s;.cases c:Dz w b<;>simp[Bx,D,c,Y.1,Y.2]
    . by_cases J:b.1=s
      . have W:=h b Ci J;have Z:Dz w b=AJ:=AHV W;have U:Dz w (s,b.2.1,GX b.2.2 t)=AJ:=AHV W;simp[Bx,D,J,Z,U]
      . have U:Dz w (s,e,t)=AJ:=AHV V;cases c:Dz w b
        . simp only[Bx,D,J,AHa,F1,U,c,AHb,ADY,ADX,LP,and_true];show(Xt (by grind)).symm
        .simp[Bx,D,J,U,c]
noncomputable def DJ(b p:AV):AV:=(DR b.1 p.1,Ju b.2.1 p.2.1,GX b.2.2 p.2.2)
theorem RW(a b:AV):DJ a b=DJ b a:=by unfold DJ;rw[PD];grind
theorem RV(a b c:AV):DJ (DJ a b) c=DJ a (DJ b c):=by unfold DJ;rw[XR];simp
noncomputable def CJ(p:AV):List AV->List AV|[]=>[p]|b::r=>if b.2.1<=p.1 then b::CJ p r else if p.2.1<=b.1 then p::b::r else CJ (DJ b p) r
def II(l:List AV):Prop:=(∀b∈l,b.1<b.2.1)/\l.Pairwise λa b=>a.2.1<=b.1
theorem Rf:∀{l:List AV}{p:AV},x<=p.1->(∀b∈l,x<=b.1)->∀b∈CJ p l,x<=b.1
  |[],p,h,_,b,D=>by rw[Bc.mp D];show h|c::r,p,h,J,b,D=>by
    have U:=λb D=>J b (D5 _ D);unfold CJ at D;split at D
    . rcases BY.mp D with z|z;.show J _ (BY.mpr (FN z))
      .show Rf h U b z
    split at D;.grind
    .show Rf (by unfold DJ;grind) U b D
theorem Rc:∀{l:List AV}{p:AV},p.1<p.2.1->II l->II (CJ p l)
 |[],p,h,_=>⟨λb D=>by rw[Bc.mp D];show h,d8 _ _⟩|c::r,p,h,⟨U,V⟩=>by
  obtain⟨W,u2⟩:=Gi.mp V;have J:II r:=⟨(λW u2=>U _ (G0 u2)),u2⟩;unfold CJ;split
  . obtain⟨i1,i2⟩:=Rc h J;show⟨λb D=>?_,Gi.mpr ⟨λb D=>Rf (by assumption) (by assumption) b D,i2⟩⟩;grind
  split
  . show⟨λb D=>?_,Gi.mpr (by grind)⟩;all_goals grind
  .show Rc (by unfold DJ;grind) J
theorem Mc:∀{l:List AV}{p q:AV},q.1<p.2.1->p.1<q.2.1->(∀b∈l,b.1<b.2.1)->CJ q (CJ p l)=CJ (DJ p q) l
  |[],p,q,V,D,_=>by simp[CJ,by show RE V,by show RE D]|b::r,p,q,V,D,B=>by
    have Z:=B b Ci;have A:=λb Z=>B b (D5 _ Z);by_cases J:b.2.1<=p.1
    . by_cases U:b.2.1<=q.1
      . have:b.2.1<=(DJ p q).1:=by show ADd.mpr ⟨J,U⟩
        simp[CJ,J,U,this,Mc V D A]
      . have W:¬b.2.1<=(DJ p q).1:=by unfold DJ;grind
        have Y:¬(DJ p q).2.1<=b.1:=by unfold DJ;grind
        simp only[CJ,J,U,AHb,AHa,by show RE (jE (MO Z J) D),W,Y];rw[Mc (by show JP (jG _ _) V) (by show MO D (W4 _ _)) A,RW b (DJ p q),RV,RW q b]
    . by_cases U:p.2.1<=b.1;.simp[CJ,J,U,by show RE V,by show RE D]
      . have W:¬b.2.1<=(DJ p q).1:=by unfold DJ;omega
        have Y:¬(DJ p q).2.1<=b.1:=by unfold DJ;grind
        simp only[CJ,J,U,AHa,W,Y];rw[Mc (by show MO V (W4 _ _)) (by show JP (jG _ _) D) A,RV]
theorem mR:∀{l:List AV},p.1<p.2.1->(∀b∈l,b.1<b.2.1)->(∀b∈l,p.2.1<=b.1)->CJ p l=p::l|[],_,_,_=>rfl|b::r,h,D,J=>by have:=D b Ci;have:=J b Ci;simp[CJ,show¬b.2.1<=p.1 by lia,by(first|lia|omega)]
theorem Rb:∀{l:List AV}{p q:AV},p.1<p.2.1->q.1<q.2.1->p.2.1<=q.1->II l->CJ q (CJ p l)=CJ p (CJ q l)
  |[],p,q,Z,U,h,_=>by simp[CJ,h,show¬q.2.1<=p.1 by lia]|b::r,p,q,Z,U,h,Y=>by
    obtain⟨B,u2⟩:=Gi.mp Y.2;have A:=Y.1 b Ci;have W:II r:=⟨λb A=>Y.1 b (G0 A),u2⟩;by_cases J:b.2.1<=p.1;.simp[CJ,J,by show FQ (FQ J (NV Z)) h,Rb Z U h W]
    . by_cases D:p.2.1<=b.1
      . have e:=mR Z (Rc U Y).1 (Rf h (by grind));rw[e];simp[CJ,J,D,h]
      . by_cases V:b.2.1<=q.1
        . simp only[CJ,J,D,V,AHb,AHa];show Rb (by unfold DJ;grind) U (by show Int.max_le.mpr ⟨V,h⟩) W
        . simp only[CJ,J,D,V,AHa,by show Oa D (λB=>FQ (FQ h (NV U)) B)];rw[Mc (by show MO (UE V) (ADc _ _)) (by unfold DJ;omega) W.1,Mc (by unfold DJ;grind) (by show lt_of_eq_of_lt (jF (FQ (NV (UE D)) h)) (UE D)) W.1,RV,RV,RW p q]
theorem mS(J:p.1<p.2.1)(U:q.1<q.2.1)(D:II l):CJ q (CJ p l)=CJ p (CJ q l):=by
 by_cases V:p.2.1<=q.1;.show Rb J U V D
 by_cases W:q.2.1<=p.1;.show(Rb U J W D).symm
 rw[Mc (by simp_all) (by simp_all) D.1,Mc (by simp_all) (by simp_all) D.1,RW]
theorem YF:∀{l:List AV}{p:AV},w<=p.1->p.1<p.2.1->II l->(CJ p l).filter (Dz w)=CJ p (l.filter (Dz w))/\(CJ p l).filter (λp=>!Dz w p)=l.filter λp=>!Dz w p
  |[],p,h,J,_=>by simp[CJ,Dz,by show JP h J]|b::r,p,h,J,Z=>by
    obtain⟨F,u2⟩:=Gi.mp Z.2;have Y:II r:=⟨λb W=>Z.1 b (G0 W),u2⟩;cases c:Dz w b;. have hw:=AHc c;have U:=YF h J Y;simp[CJ,by show FQ (NW hw) h,c,U.1,U.2]
    . have hw:=AHX c;have A:∀{l:List _},(∀x∈l,w<x.2.1)->l.filter (Dz w)=l/\l.filter (λp=>!Dz w p)=[]:=λ{l}h=>⟨QT.mpr λx D=>AHV (h x D),LC.mpr λx D=>by simp[Dz,h x D]⟩;have B:∀x∈b::r,w<x.2.1:=λx D=>by
        rcases BY.mp D with z|z;.rw[z];show hw
        .have:=F x z;have:=Y.1 x z;lia
      have G:=by
        have V:∀{l:List _}{p:AV},w<p.2.1->(∀x∈l,w<x.2.1)->∀x∈CJ p l,w<x.2.1:=λ{l}=>by induction l with |nil=>intro p h _ x D;rw[Bc.mp D];show h|cons c l U=>
            intro p h C x D;have E:=λb W=>C b (D5 _ W);unfold CJ at D;split at D;.grind
            split at D;.grind
            .show U (by unfold DJ;show MO h (W4 _ _)) E x D
        show V (JP h J) B
      grind
noncomputable def D1(p x:AV):Bool:=Ab (x.1<p.2.1)&&Ab (p.1<x.2.1)
theorem Uw:∀{l:List AV}{p:AV},p.1<p.2.1->II l->Bx (((l.filter (D1 p)).map (·.1)).foldl DR p.1) (((l.filter (D1 p)).map (·.2.1)).foldl Ju p.2.1) ((l.filter (D1 p)).foldl (λt x=>GX t x.2.2) p.2.2) (l.filter λx=>!D1 p x)=CJ p l
  |[],p,_,_=>rfl|b::r,p,H,V=>by
    obtain⟨W,u2⟩:=Gi.mp V.2;have A:=V.1 b Ci;have U:II r:=⟨λb A=>V.1 b (by grind),u2⟩;by_cases J:b.2.1<=p.1
    . have o:D1 p b=AQ:=by unfold D1;simp_all
      have K:∀{m:List Int}{a:Int},b.2.1<=a->(∀x∈m,b.2.1<=x)->b.2.1<=m.foldl DR a:=λ{m}=>by induction m with|nil=>simp|cons x m D=>showλG Z=>D (by have:=Z x Ci;show ADd.mpr ⟨G,this⟩) (λW u2=>Z _ (G0 u2))
      have I:b.2.1<=((r.filter (D1 p)).map (·.1)).foldl DR p.1:=(by grind);simp only[F1,o,ADX,AHb,LP,AHa,CJ,J];rw[<-Uw H U];show AHT (MO A I)
    . by_cases Y:p.2.1<=b.1
      . have C:∀x∈b::r,D1 p x=AQ:=λx B=>by unfold D1;grind
        rw[LC.mpr (λW u2=>Bool.eq_false_iff.mp (C _ u2)),QT.mpr (by simpa using C)];simp only[CJ,J,Y,AHb,AHa];show Xt (by grind)
      . have o:D1 p b=AJ:=by unfold D1;simp_all
        have same:∀x∈r,D1 p x=D1 (DJ b p) x:=λx B=>by have:=U.1 x B;unfold D1 DJ;grind
        have D:=Uw (p:=DJ b p) (by unfold DJ;grind) U;have E:=NB same;have F:=NB (λW u2=>Bool.not_inj_iff.mpr (same _ u2));rw[<-E,<-F,show(DJ b p).1=DR p.1 b.1 from Int.min_comm _ _,show(DJ b p).2.1=Ju p.2.1 b.2.1 from Int.max_comm _ _,show(DJ b p).2.2=GX p.2.2 b.2.2 from PD _ _]at D;simp only[F1,o,ADY,AHb,LP,AHa,CJ,J,Y,EI,dW];show D
theorem UZ:∀{l:List AV},II l->De l|[],_=>.nil|b::r,h=>by obtain⟨J,u2⟩:=Gi.mp h.2;show Gi.mpr ⟨λx D=>by have:=J x D;have:=h.1 b Ci;lia,UZ ⟨λb U=>h.1 b (by grind),u2⟩⟩
noncomputable def Hl(t z d:Int):List Int:=(Ei (FL (((t-z)/d+1)*d) (t+1) d)).map λk:Nat=>((t-z)/d+1)*d+(k:Int)*d
structure PB(t z d:Int):Prop where
 d1:1<=d
 d2:d<=300000
 z1:d<=z
 z2:z<=4*d
 t1:0<=t
 t2:t<=1000000000
theorem PM{t z d:Int}(h:1<=d):t-z<((t-z)/d+1)*d/\((t-z)/d+1)*d<=t-z+d:=by have D:=Int.mul_ediv_add_emod (t-z) d;have J:=UC (t-z) (by show LR h);have U:=UB (t-z) (by assumption);(constructor<;>lia)
theorem Pj(h:PB t z d):(Hl t z d).length<=5/\FL (((t-z)/d+1)*d) (t+1) d<=5:=by
 obtain⟨D,J,U,V,W,Y⟩:_:=h;have f:=(PM (t:=t) (z:=z) D).1;have:FL (((t-z)/d+1)*d) (t+1) d<=5:=by
  unfold FL;split
  . have:(t+1-((t-z)/d+1)*d-1)/d<=4:=Int.ediv_le_of_le_mul (by assumption) (by lia);show jI.mpr (Int.add_le_iff_le_sub.mpr this)
  .simp
 show⟨by unfold Hl;simp_all,this⟩
noncomputable def Ro(t a z d:Int)(l:List AV):List AV:=(Hl t z d).foldl (λl s=>Bx s (s+z) (Hn a) l) l
theorem Xl:∀{ss:List Int}{l:List AV},De l->De (ss.foldl (λl s=>Bx s (s+z) x l) l)/\(ss.foldl (λl s=>Bx s (s+z) x l) l).length<=l.length+ss.length|[],l,h=>(by simp_all)|s::ss,l,h=>by obtain⟨i1,i2⟩:=Xl (ss:=ss) (z:=z) (x:=x) (Uk (s:=s) (e:=s+z) (t:=x) h);have:=Xu (s:=s) (e:=s+z) (t:=x) (l:=l);grind
theorem ZK{f:J->D->J}{l:List D}(h:l[i]?=AA x):(l.take (i+1)).foldl f b=f ((l.take i).foldl f b) x:=by rw[DH,h,List.foldl_append];rfl
noncomputable def JE(w:Int)(l:List AV):List AV:=l.filter (Dz w)
noncomputable def Me(w:Int)(l:List AV):List AV:=l.filter λp=>!Dz w p
def AU.dw:AU->Prop|.gap _ _ _ m=>0<=m|.each _ _ _ z d=>1<=d/\d<=300000/\d<=z/\z<=4*d|_=>False
noncomputable def AU.ja(s:AU)(t a:Int)(l:List AV):List AV:=match s with|.each _ _ _ z d=>Ro t a z d l|.gap _ _ _ m=>CJ (t,t+m+1,Hn a) l|_=>l
def AU.gd(s:AU)(l:List AV):Prop:=match s with|.each _ _ _ z _=>De l/\∀b∈l,b.2.1=b.1+z|.gap ..=>II l|_=>De l
theorem vH(h:1<=d)(D:s∈Hl t z d):t<s+z:=by obtain⟨k,_,rfl⟩:_:=Ax.mp D;have:=PM (t:=t) (z:=z) h;have:0<=(k)*d:=ADh (by lia) (NV h);lia
noncomputable def Hj(z:Int)(x:Dc)(l:List AV)(s:Int):List AV:=Bx s (s+z) x l
def O6(z:Int)(l:List AV):Prop:=De l/\∀b∈l,b.2.1=b.1+z
theorem Xr(h:O6 z l):O6 z (Hj z x l s):=by
 show⟨Uk h.1,?_⟩;have:∀{l:List _},(∀b∈l,b.2.1=b.1+z)->∀b∈Bx s (s+z) x l,b.2.1=b.1+z:=λ{l}=>by induction l with |nil=>intro _ b D;rw[Bc.mp D]|cons c l J=> intro h b D;unfold Bx at D;grind
 show this h.2
theorem Xm:∀{ss:List Int}{l:List AV},O6 z l->O6 z (ss.foldl (Hj z x) l)|[],_,h=>h|s::ss,l,h=>Xm (ss:=ss) (Xr h)
theorem Xn:∀{ss:List Int}{l:List AV},Hj z y (ss.foldl (Hj z x) l) s=ss.foldl (Hj z x) (Hj z y l s)|[],_=>rfl|r::ss,l=>by change Hj z y (ss.foldl _ _) s=_;rw[Xn];change _=ss.foldl _ _;congr 1;show Xy (by simp)
theorem Xp{ss:List Int}:∀{D:List Int}{l:List AV},D.foldl (Hj z y) (ss.foldl (Hj z x) l)=ss.foldl (Hj z x) (D.foldl (Hj z y) l)|[],_=>rfl|r::D,l=>by change D.foldl _ _=_;rw[Xn,Xp];rfl
theorem Xo:∀{ss:List Int}{l:List AV},(∀s∈ss,w<s+z)->O6 z l->JE w (ss.foldl (Hj z x) l)=ss.foldl (Hj z x) (JE w l)/\Me w (ss.foldl (Hj z x) l)=Me w l
 |[],_,_,_=>⟨rfl,rfl⟩|s::ss,l,h,J=>by
  have D:=h s Ci;lk;obtain⟨W,U⟩:=Xw D J.1 λb V e=>by rw[J.2 b V,e];show D
  obtain⟨i1,i2⟩:=Xo (λs D=>h s (G0 D)) (Xr J);k_in;show⟨i1.trans ?_,i2.trans U⟩;change ss.foldl _ _=ss.foldl _ _;congr 1
theorem AU.ze{s:AU}(D:s.dw)(h:s.gd l):s.gd (s.ja t a l):=by cases s with|each _ _ _ z d=>show Xm h|gap _ _ _ m=>show Rc (by show W5 (W3 D) (by decide)) h|_=>cases D
theorem AU.va{s:AU}(D:s.dw)(h:s.gd l):s.ja t' J (s.ja t a l)=s.ja t a (s.ja t' J l):=by cases s with|each _ _ _ z d=>show Xp|gap _ _ _ m=>show mS (by show W5 (W3 D) (by decide)) (by show W5 (W3 D) (by decide)) h|_=>cases D
theorem jR{s:AU}(D:s.dw)(h:s.gd l)(J:w<=t):JE w (s.ja t a l)=s.ja t a (JE w l)/\Me w (s.ja t a l)=Me w l:=by cases s with|each _ _ _ z d=>show Xo (λr U=>by have:=vH D.1 U;show JP J this) h|gap _ _ _ m=>show YF J (by have:0<=m:=D;lia) h|_=>cases D
theorem jQ{s:AU}{m:List AV}(h:s.gd l)(D:m.Sublist l):s.gd m:=by cases s with|each _ _ _ z d=>show⟨h.1.sublist D,λb J=>h.2 b (D.mem J)⟩|gap _ _ _ m=>show⟨λb J=>h.1 b (D.mem J),h.2.sublist D⟩|_=>show h.sublist D
theorem US{s:AU}(h:s.gd l):De l:=by cases s with|each _ _ _ z d=>show h.1|gap _ _ _ m=>show UZ h|_=>show h
theorem AU.ads{s:AU}:s.gd []:=by cases s with|each _ _ _ z d=>show⟨.nil,(by simp)⟩|gap _ _ _ m=>show⟨(by simp),.nil⟩|_=>show .nil
noncomputable def Iz(s:AU)(l:List Iy):List AV:=l.foldl (λl x=>s.ja x.1 x.2 l) []
theorem lD{s:AU}{D:List Iy}(J:s.dw):∀{l:List AV},s.gd l->s.gd (D.foldl (λl x=>s.ja x.1 x.2 l) l):=by induction D with|nil=>simp|cons p D U=>showλh=>U (s.ze J h)
theorem lE{s:AU}{J:List Iy}(D:s.dw)(h:J.Perm U):∀{l:List AV},s.gd l->J.foldl (λl x=>s.ja x.1 x.2 l) l=U.foldl (λl x=>s.ja x.1 x.2 l) l:=by induction h with|nil=>simp|cons x _ V=>showλh=>V (s.ze D h)|swap x y l=>showλh=>by change l.foldl _ _=l.foldl _ (s.ja _ _ _);rw[s.va D h]|trans _ _ W Y=>simp_all
theorem j9(U:s.dw)(h:D.Perm J):Iz s D=Iz s J:=lE U h s.ads
theorem UU{s:AU}(D:s.dw):s.gd (Iz s J):=lD D s.ads
theorem kB:Iz s (D++[x])=s.ja x.1 x.2 (Iz s D):=by unfold Iz;simp
def GA(H:AI)(q:AE)(t:Dc):Prop:=H q=AA (.tup [.int t.1,.int t.2.1,.int t.2.2.1,.int t.2.2.2])
def MW(H:AI)(x:AB)(p:AV):Prop:=∃a q,x=.ref a/\H a=AA (.tup [.int p.1,.int p.2.1,.ref q])/\GA H q p.2.2
def DY(H:AI)(xs:List AB)(D:List AV):Prop:=Bf (MW H) xs D
theorem DY.ab(h:DY H xs D)(t:B7 H H'):DY H' xs D:=GN (λ_ _ W=>by obtain⟨a,q,e,J,U⟩:=W;show⟨a,q,e,t _ _ J,t _ _ U⟩) h
theorem DY.bh(h:DY H xs D):xs.length=D.length:=(Cn h).1
theorem DY.at(h:DY H xs J){i:Nat}(e:J[i]?=AA p):∃a q,xs[i]?=AA (.ref a)/\H a=AA (.tup [.int p.1,.int p.2.1,.ref q])/\GA H q p.2.2:=by lk;obtain⟨l,Y⟩:=Cn h;have D:=CG (by rw[l];show(BU.mp e).1);obtain⟨a,q,U,W⟩:=Y _ _ _ D e;k_in;rw[U]at D;show⟨a,q,D,W⟩
theorem DY.ix(h:DY H xs J){i:Nat}(e:xs[i]?=AA x):∃p a q,J[i]?=AA p/\x=.ref a/\H a=AA (.tup [.int p.1,.int p.2.1,.ref q])/\GA H q p.2.2:=by lk;obtain⟨l,Y⟩:=Cn h;have D:=CG (by rw[<-l];show(BU.mp e).1);obtain⟨a,q,U,W⟩:=Y _ _ _ e D;k_in;show⟨_,a,q,D,U,W⟩
theorem mH(a b:Int):(if b>a then b else a)=Ju a b:=by lia
theorem mE(h:c<a):BK [.inl a,.inl b] [.inl c,.inl d]=AQ:=by change(if(Cd a)=Cd c then _ else Ab _)=_;rw[AHS λe=>by simp_all];show AHW (UD h)
theorem pW{F:D->U->Prop}{f:J->U}(h:Bf (λa b=>F a (f b)) as bs):Bf F as (bs.map f):=by induction h with|nil=>show .nil|cons r _ V=>show .cons r V
noncomputable def Mf(p:AV):List AL:=[.inl p.1,.inl p.2.1]
theorem DY.hd(h:DY H xs D):Bf (UM 1 H) xs (D.map Mf):=pW (GN (λ_ _ U=>by obtain⟨a,q,e,J,_⟩:=U;show⟨a,_,e,J,.inr (A1 rfl)⟩) h)
theorem De.sd(h:De D):Cm (D.map Mf):=Eh.mpr (h.imp λq=>mE q)
theorem Xz:∀{D:List AV}{n:Nat}{p:AV},(∀(i:Nat)p,i<n->D[i]?=AA p->p.1<S)->D[n]?=AA p->p.1=S->Bx S E t D=D.take n++[(S,p.2.1,GX p.2.2 t)]++D.drop (n+1)|[],n,p,_,e,_=>by cases e|b::r,0,p,_,e,q=>by cases e;unfold Bx;rw[AHS (ADk.mpr (Int.le_of_eq q.symm)),AHT q];rfl|b::r,n+1,p,h,e,q=>by unfold Bx;rw[AHT (h 0 b (WY _) rfl),Xz (λi p U J=>h _ p (AEQ U) J) e q];rfl
theorem Xv:∀{D:List AV}{n:Nat},(∀(i:Nat)p,i<n->D[i]?=AA p->p.1<S)->n<=D.length->(∀p,D[n]?=AA p->S<p.1)->Bx S E t D=D.take n++[(S,E,t)]++D.drop n
 |[],n,_,h,_=>by cases n with |zero=>rfl|succ n=>show absurd h (ABp _)
 |b::r,0,_,_,q=>by have:=q b rfl;unfold Bx;rw[AHS (UD this),AHS (LR this)];rfl|b::r,n+1,h,V,q=>by unfold Bx;rw[AHT (h 0 b (WY _) rfl),Xv (λi p U J=>h _ p (AEQ U) J) (eL V) q];rfl
def uW:BF:=λJ H Q _=>∃a:Int,J=[.int a]/\∀r D,Aj H D->H r=AG->GA D r (Hn a)->Q (.ref r) D
def rY:BF:=λJ H Q _=>(JS λ(p q:AE)(x y:Dc)=>Iu (J=[.ref p,.ref q]) (GA H p x) (GA H q y) (∀r D,Aj H D->H r=AG->GA D r (GX x y)->Q (.ref r) D))
def tY:BF:=λD H Q _=>∃a b c m:Int,D=[.int a,.int b,.int c,.int m]/\Q (.bl (Ab (a-c<=m)&&Ab (c-(b-m-1)<=m))) H
def uT:BF:=λJ H Q _=>∃t z d:Int,J=[.int t,.int z,.int d]/\PB t z d/\∀l D,Aj H D->H l=AG->D l=AA (.lst ((Hl t z d).map AB.int))->Q (.ref l) D
theorem Yh(T:BM AH AZ AM):T.qx.Ok BE P w AZ base 1 uW:=by show T.qx.ok λU _ _ _ _ _ J H V Q E h=>?_;obtain⟨a,rfl,k⟩:_:=h;show⟨_,(Af (BD (CY #v[AN,AD 0,AD 0,AD 0]))),?_⟩;show⟨A1 rfl,λr D=>k r _ (C9 D) D Ak⟩
theorem YO(T:BM AH AZ AM):T.xh.Ok BE P w AZ base 1 rY:=by show T.xh.ok λW _ _ _ _ _ V H Y Q E h=>?_;obtain⟨p,q,x,y,rfl,J,U,k⟩:_:=h;show⟨_,(Af (BD (CY #v[Ac Et (BA AH (AD 0) AN) (BA AH (AD 1) AN),Ac Et (BA AH (AD 0) AN) (BA AH (AD 1) AN),(CW (Zs rfl) (by rfl) T.yd eZ #v[BA AH (AD 0) AN,BA AH (AD 1) AN]),(CW (SO rfl) (by rfl) T.wj Wc #v[BA AH (AD 0) AN,BA AH (AD 1) AN])]))),?_⟩;have i1:CB AH H p _:=Aq J;have i2:CB AH H q _:=Aq U;show⟨_,_,i1,Ae rfl,_,_,i2,Ae rfl,_,_,i1,Ae rfl,_,_,i2,Ae rfl,_,_,i1,Ae rfl,_,_,i2,Ae rfl,_,_,i1,Ae rfl,_,_,i2,Ae rfl,?_⟩;show⟨A1 rfl,λr D=>k r _ (C9 D) D (by rw[mM,mH];show Ak)⟩
theorem Yc(T:BM AH AZ AM):T.xk.Ok BE P w AZ base 1 tY:=by
 show T.xk.ok λD _ _ _ _ _ J H U Q E h=>?_;obtain⟨a,b,c,m,rfl,k⟩:_:=h;show⟨_,(Ah (BN 4 D (Ac Hz (Ac Hz (AD 1) (AD 3)) AN)) (Af (BD (Jk (QJ M3 (Ac Hz (AD 0) (AD 2)) (AD 3) (Bt _)) (OJ (QJ M3 (Ac Hz (AD 2) (AD 4)) (AD 3) (Bt _))))))),?_⟩;show⟨_,rfl,Jh (λe=>?_) λe=>?_⟩
 . rw[e]at k;show k
 . rw[e]at k;show k
theorem pE(T:BM AH AZ AM):T.vt.Ok BE P w AZ base 1 uT:=by
 show T.vt.ok λA _ _ _ _ _ I H L Q E h=>?_;obtain⟨t,z,d,rfl,V,k⟩:_:=h;show⟨_,(Ah (BN 3 A (Ac JM (Ac Et (Ac Dg (Ac Hz (AD 0) (AD 1)) (AD 2)) AN) (AD 2))) (Af (BD (AAC rfl (by rfl) T.gu (by rfl) T.gp #v[AD 3,Ac Et (AD 0) AN,AD 2])))),?_⟩;lk;obtain⟨U,J,F,G,W,Y⟩:=id V;obtain⟨B,C⟩:=PM (t:=t) (z:=z) U;k_in;have Z:=(Pj V).2;show⟨⟨by assumption,JP J (by decide)⟩,.inr ⟨MO (by decide) U,JP J (by decide)⟩,?_⟩;show⟨_,_,_,rfl,⟨by assumption,FQ J (by decide),?_,?_,Int.le_add_of_neg_add_le_right (FQ (by decide) W),Int.add_lt_iff.mpr (JP Y (by decide)),?_⟩,λl D=>k l _ (C9 D) D Ak⟩;.lia
 .omega
 .show Ag Z (by decide)
def uP:BF:=λY H Q _=>(Jz λ(l q:AE)(W:List AB)(U:List AV)(S E:Int)(t:Dc)=>JQ (Y=[.ref l,.int S,.int E,.ref q]) (H l=AA (.lst W)) (DY H W U) (De U) (U.length<=10000) (GA H q t) (∀r J D,Aj H J->H r=AG->J r=AA (.lst D)->DY J D (Bx S E t U)->Q (.ref r) J))
theorem Yf(T:BM AH AZ AM):T.mf.Ok BE P w AZ base 2 uP:=by
  show T.mf.ok λnd _ _ _ _ _ hr H vs Q E h=>?_;obtain⟨l,q,J,F,S,E0,t,rfl,el,hw,up,hl,tq,k⟩:_:=h;show⟨_,(Ah (BN 4 nd (BC (PY T) hr #v[AD 0,CY #v[AD 1]])) (Ah (QO (CP (Hu (OM (Bu OF (AD 4) (CW (Fc (K:=AH)) (by rfl) T.cx Ez #v[AD 0]) (Bt _)) (ON (Bu ED (BA AH (By AH (AD 0) (AD 4)) AN) (AD 1) (Bt _))))) (Ah (BN 5 nd (By AH (AD 0) (AD 4))) (Af (BD (Ac Ff (Ac Ff (Du (Gx (K:=AH)) (AD 0) Eu (DL (AD 4))) (CM #v[CY #v[AD 1,BA AH (AD 5) AN,BC (YO T) hr #v[BA AH (AD 5) AN,AD 3]]])) (Du (Gx (K:=AH)) (AD 0) (DL (Ac Et (AD 4) AN)) Eu))))) Cg)) (Af (BD (Ac Ff (Ac Ff (Du (Gx (K:=AH)) (AD 0) Eu (DL (AD 4))) (CM #v[CY #v[AD 1,AD 2,AD 3]])) (Du (Gx (K:=AH)) (AD 0) (DL (AD 4)) Eu)))))),?_⟩;have sz:As=16777216:=CL;have lx:=hw.bh;show⟨A1 rfl,λmk hmk=>?_⟩;show Ao (o:=.tup [.int S]) hmk λH1 s1 emk=>?_;have D:=s1 _ _ el;have A:=hw.ab s1.tp;have x:GA H1 q t:=s1 _ _ tq;show⟨l,mk,J,F.map Mf,[.inl S],rfl,D,A.hd,emk,λks hk i k m e1 e2=>?_,up.sd,λn hn b1 b2=>?_⟩
  . obtain⟨p,_,rfl⟩:_:=Ax.mp hk;match i,e1,e2 with|0,e1,e2=>cases e1;cases e2;rfl
  rw[Au]at hn;have d1:∀(i:Nat)p,i<n->F[i]?=AA p->p.1<S:=λi p hi W=>by have:=b1 i (Mf p) hi (by rw[Bo,W];rfl);rw[show Mf p=[.inl p.1,.inl p.2.1]from rfl,RZ]at this;show AHX this
  have d2:∀p,F[n]?=AA p->¬p.1<S:=λp W=>by have:=b2 n (Mf p) (Ai _) (by rw[Bo,W];rfl);rw[show Mf p=[.inl p.1,.inl p.2.1]from rfl,RZ]at this;show AHc this
  clear b1 b2;show P5 (λy H'=>H'=H1/\(∀p,F[n]?=AA p->S<p.1)/\y=(jW l S E0 q (n:Int) AG)) ?_ ?_
  . show⟨_,.inl (AW D),_,rfl,Hx (λe=>?_) λe=>⟨rfl,λp W=>absurd (BU.mp W).1 (Oa e (λu1=>ADn.mpr (Bl u1 (Bq lx.symm)))),rfl⟩⟩;have hnl:n<F.length:=by simp_all
    have W:F[n]?=AA F[n]:=CG hnl;generalize F[n]=p at W;obtain⟨a,qp,ea,G,eqp⟩:_:=A.at W;have c:Cr J (n:Int)=AA (.ref a):=Ae ea;show⟨_,_,AW D,c,_,_,Aq G,Ae (j:=0) rfl,rfl,_,rfl,Fw (λz=>?_) λz=>⟨rfl,λp' d=>?_,rfl⟩⟩
    . show⟨_,_,AW D,c,?_⟩;show⟨_,rfl,l,J,rfl,AW D,λc1 O=>?_⟩;rw[RP J n (by simp_all)];show Ao O λH2 s2 I=>?_;show⟨_,_,Aq (s2 _ _ G),Ae (j:=1) rfl,_,_,Aq (s2 _ _ G),Ae (j:=2) rfl,qp,q,_,t,rfl,s2 _ _ eqp,s2 _ _ x,λu H3 s3 hu tu=>?_⟩;show⟨A1 rfl,λv hv=>?_⟩;show Ao hv λH4 s4 ev=>⟨A1 rfl,λc2 R=>?_⟩;show Ao R λH5 g L=>?_;have Z:=s3.aa (s4.aa g);show⟨c1,c2,_,_,rfl,rfl,Z _ _ I,L,by rw[EH];simp;lia,λc3 X=>?_⟩;show Ao X λH6 r M=>?_;have U:=s2.aa (Z.aa r);show⟨_,rfl,l,J,rfl,AW (U _ _ D),λc4 b=>?_⟩;have cf:Fe J (AA ((n:Int)+1)) AG=J.drop (n+1):=RO J (n+1) (ADm.mp e);rw[cf];show Ao b λH7 C N=>?_;show⟨c3,c4,_,_,rfl,rfl,C _ _ M,N,by rw[Ba,EH,L7];simp;lia,λc5 Y=>?_⟩;have s:=C9 (o:=.lst (J.take n++[.ref v]++J.drop (n+1))) Y;have V:=U.aa (C.aa s);have B:=g.aa (r.aa (C.aa s));show k c5 _ _ (s1.aa V) ((s1.aa (U.aa C)).az Y) Ak ?_;rw[Xz d1 W z];have f:=A.ab V.tp;show EE (EE (QI n f) (.cons ⟨v,u,rfl,B _ _ ev,(s4.aa B) _ _ tu⟩ .nil)) (OG (n+1) f)
    . rw[W]at d;cases d;have:=d2 _ W;have z:¬p.1=S:=z;lia
  intro y H1' hI;obtain⟨rfl,hno,rfl⟩:_:=hI;show⟨_,rfl,l,J,rfl,AW D,λc1 O=>?_⟩;rw[RP J n (by simp_all)];show Ao O λH2 s2 I=>⟨A1 rfl,λv hv=>?_⟩;show Ao hv λH4 s4 ev=>⟨A1 rfl,λc2 R=>?_⟩;show Ao R λH5 g L=>?_;have Z:=s4.aa g;show⟨c1,c2,_,_,rfl,rfl,Z _ _ I,L,by rw[EH];simp;lia,λc3 X=>?_⟩;show Ao X λH6 r M=>?_;have U:=s2.aa (Z.aa r);show⟨_,rfl,l,J,rfl,AW (U _ _ D),λc4 b=>?_⟩;rw[RO J n (by simp_all)];show Ao b λH7 C N=>?_;show⟨c3,c4,_,_,rfl,rfl,C _ _ M,N,by rw[Ba,EH,L7];simp;grind,λc5 Y=>?_⟩;have s:=C9 (o:=.lst (J.take n++[.ref v]++J.drop n)) Y;have V:=U.aa (C.aa s);have B:=g.aa (r.aa (C.aa s));show k c5 _ _ (s1.aa V) ((s1.aa (U.aa C)).az Y) Ak ?_;rw[Xv d1 hn hno];have f:=A.ab V.tp;show EE (EE (QI n f) (.cons ⟨v,q,rfl,B _ _ ev,V _ _ x⟩ .nil)) (OG n f)
def sU:BF:=λY H Q _=>(Jz λ(l:AE)(W:List AB)(U:List AV)(t a z d:Int)=>JQ (Y=[.ref l,.int t,.int a,.int z,.int d]) (PB t z d) (H l=AA (.lst W)) (DY H W U) (De U) (U.length<=5000) (∀r J D,Aj H J->H r=AG->J r=AA (.lst D)->DY J D (Ro t a z d U)->Q (.ref r) J))
theorem nN(T:BM AH AZ AM):T.qv.Ok BE P w AZ base 3 sU:=by
 show T.qv.ok λnd _ _ _ _ _ hr H vs Q E h=>?_;obtain⟨l,xs,ps,t,a,z,d,rfl,hW,el,hw,up,hl,k⟩:_:=h;show⟨_,(Ah (BN 5 nd (EF (N7 (K:=AH)) (by rfl) T.gu MC #v[AD 0])) (Ah (D3 D7 rfl (DQ (K:=AH) (BC (pE T) hr #v[AD 1,AD 3,AD 4])) (D2 6 nd) (Af (BN 5 nd (BC (Yf T) hr #v[AD 5,AD 6,Ac Et (AD 6) (AD 3),BC (Yh T) hr #v[AD 2]])))) (Af (BD (AD 5))))),?_⟩;have sz:As=16777216:=CL;have sl:=(Pj hW).1;show⟨l,xs,rfl,.inl (AW el),λtl htl=>?_⟩;show Ao htl λH1 s1 etl=>?_;show⟨t,z,d,rfl,hW,λst H2 s2 hst est=>?_⟩;show⟨st,rfl,⟨_,AW est⟩,HK (K:=AH) (xs:=(Hl t z d).map AB.int) (λn σ H'=>(El λ(o6:Option AB)(tl:AE)(xt:List AB)=>FT (σ=(jU l t a z d tl o6)) (Aj H2 H') (H tl=AG) (H' tl=AA (.lst xt)) (DY H' xt (((Hl t z d).take n).foldl (λl s=>Bx s (s+z) (Hn a) l) ps)))) ⟨AG,tl,xs,rfl,DF _,htl,s2 _ _ etl,hw.ab (s1.aa s2).tp⟩ (λn σ H' _ hh=>by obtain⟨_,_,_,_,s',_⟩:=hh;show AW (s' _ _ est)) ?_ ?_⟩
 . intro n y σ H3 hy hI;lk;obtain⟨o6,tl',xt,rfl,s3,ht',et,hwt⟩:=hI;rw[Bo]at hy;obtain⟨sv,hsv,rfl⟩:=EK.mp hy;have hnl:n<(Hl t z d).length:=(BU.mp hsv).1;obtain⟨up',ln'⟩:=Xl (z:=z) (x:=Hn a) (ss:=(Hl t z d).take n) up;k_in;rw[EH]at ln';show⟨a,rfl,λu H4 s4 hu tu=>?_⟩;show⟨tl',u,xt,_,sv,sv+z,Hn a,rfl,s4 _ _ et,hwt.ab s4.tp,up',by lia,tu,λr H5 xr s5 hr5 er hwr=>?_⟩;show⟨_,r,xr,rfl,s3.aa (s4.aa s5),((s1.aa s2).aa (s3.aa s4)).az hr5,er,by rw[ZK hsv];show hwr⟩
 . intro σ H3 hI;obtain⟨o6,tl',xt,rfl,s3,ht',et,hwt⟩:_:=hI;rw[Au,Dj (Ai _)]at hwt;show k _ _ _ ((s1.aa s2).aa s3) ht' et hwt
def uF:BF:=λA H Q _=>(JS λ(l:AE)(W:List AB)(U:List AV)(J:Int)=>FT (A=[.ref l,.int J]) (H l=AA (.lst W)) (DY H W U) (U.length<=10000) (∀r b c D Y Z,Aj H D->H b=AG->H c=AG->D r=AA (.tup [.ref b,.ref c])->D b=AA (.lst Y)->D c=AA (.lst Z)->DY D Y (Me J U)->DY D Z (JE J U)->Q (.ref r) D))
theorem oP(T:BM AH AZ AM):T.vm.Ok BE P w AZ base 1 uF:=by
  show T.vm.ok λnd _ _ _ _ _ hr H vs Q E h=>?_;obtain⟨l,xs,ps,now,rfl,el,hw,hl,k⟩:_:=h;show⟨_,(Ah (OL (i:=2) (osc:=Cy U6) [("now",1)] nd rfl (FN rfl) rfl (DQ (K:=AH) (AD 0)) rfl rfl (by decide+kernel) (by decide+kernel) (by decide+kernel) ⟨rfl,rfl,trivial⟩ rfl (by decide+kernel) (λ_ _ _ _=>M6 (Bu M3 (BA AH (AD 0) AN) (AD 1) (Bt _))) (λ_ _ _ _=>(AD 0))) (Ah (OL (i:=3) (osc:=Cy U6) [("now",1)] nd rfl (FN rfl) rfl (DQ (K:=AH) (AD 0)) rfl rfl (by decide+kernel) (by decide+kernel) (by decide+kernel) ⟨rfl,rfl,trivial⟩ rfl (by decide+kernel) (λ_ _ _ _=>M6 (Bu Sj (BA AH (AD 0) AN) (AD 1) (Bt _))) (λ_ _ _ _=>(AD 0))) (Af (BD (CY #v[AD 2,AD 3]))))),?_⟩;have sz:As=16777216:=CL;have lx:=hw.bh;show⟨l,rfl,⟨_,AW el⟩,?_⟩;show Ms (K:=AH) (xs:=xs) (λn τ acc H'=>(∃o,τ=[o,AA (.int now)])/\H'=H/\DY H acc ((ps.take n).filter λp=>!Dz now p)) (by lia) ⟨⟨AG,rfl⟩,rfl,.nil⟩ (λn τ acc H'⟨_,e,_⟩=>by rw[e];show AW el) ?_ ?_
  . intro n y τ acc H' R1 R0 hy _ hI k1 k0;lk;obtain⟨⟨o,rfl⟩,rfl,hp⟩:=hI;obtain⟨p,b,q,ep,rfl,eb,eq⟩:=hw.ix hy;k_in;have fs:=PL (p:=λp=>!Dz now p) ep;show⟨_,_,Aq eb,Ae (j:=1) rfl,_,rfl,Hx (λe=>?_) λe=>?_⟩;. rw[AHT (by change(!Ab (now<p.2.1))=AJ;rw[AHW (ADk.mpr e)];rfl)]at fs;show k1 _ _ _ ⟨⟨_,rfl⟩,rfl,by rw[fs];show EE hp (.cons ⟨b,q,rfl,eb,eq⟩ .nil)⟩
    . rw[AHS (by change¬(!Ab (now<p.2.1))=AJ;rw[AHV (by simp_all)];decide),D4]at fs;show k0 _ _ ⟨⟨_,rfl⟩,rfl,by rw[fs];show hp⟩
  intro τ xm H' lxm hI lm hlm;obtain⟨_,rfl,hpm⟩:_:=hI;rw[Dj (Bq lx.symm)]at hpm;show Ao hlm λH1 s1 elm=>?_;have el1:=s1 _ _ el;have hw1:=hw.ab s1.tp;show⟨l,rfl,⟨_,AW el1⟩,?_⟩;show Ms (K:=AH) (xs:=xs) (λn τ acc H'=>(∃o,τ=[o,AA (.int now)])/\H'=H1/\DY H1 acc ((ps.take n).filter (Dz now))) (by lia) ⟨⟨AG,rfl⟩,rfl,.nil⟩ (λn τ acc H'⟨_,e,_⟩=>by rw[e];show AW el1) ?_ ?_
  . intro n y τ acc H2 R1 R0 hy _ hI k1 k0;lk;obtain⟨⟨o,rfl⟩,rfl,hp⟩:=hI;obtain⟨p,b,q,ep,rfl,eb,eq⟩:=hw1.ix hy;k_in;have fs:(ps.take (n+1)).filter (Dz now)=(ps.take n).filter (Dz now)++(if Ab (now<p.2.1)=AJ then[p]else[]):=PL (p:=Dz now) ep;show⟨_,_,Aq eb,Ae (j:=1) rfl,_,rfl,Hx (λe=>?_) λe=>?_⟩;. rw[AHT (show Ab (now<p.2.1)=AJ from AHV e)]at fs;show k1 _ _ _ ⟨⟨_,rfl⟩,rfl,by rw[fs];show EE hp (.cons ⟨b,q,rfl,eb,eq⟩ .nil)⟩
    . rw[AHS (by rw[AHY];show e),D4]at fs;show k0 _ _ ⟨⟨_,rfl⟩,rfl,by rw[fs];show hp⟩
  intro τ xr H2 lxr hI lr hlr;obtain⟨_,rfl,hpr⟩:_:=hI;rw[Dj (Bq lx.symm)]at hpr;show Ao hlr λH3 s2 elr=>⟨A1 rfl,λr hr'=>?_⟩;have s3:=C9 (o:=.tup [.ref lm,.ref lr]) hr';show k r lm lr _ xm xr (s1.aa (s2.aa s3)) hlm (s1.az hlr) Ak ((s2.aa s3) _ _ elm) (s3 _ _ elr) (hpm.ab (s1.aa (s2.aa s3)).tp) (hpr.ab (s2.aa s3).tp)
def tJ:BF:=λY H Q _=>(JT λ(l:AE)(W:List AB)(U:List AV)(t a m:Int)=>JQ (Y=[.ref l,.int t,.int a,.int m]) (0<=m) (H l=AA (.lst W)) (DY H W U) (II U) (U.length<=5000) (∀r J D,Aj H J->H r=AG->J r=AA (.lst D)->DY J D (CJ (t,t+m+1,Hn a) U)->Q (.ref r) J))
theorem Ui:∀{ns:List Int}{t:Int},ns.foldl DR t∈t::ns/\∀a∈t::ns,ns.foldl DR t<=a
  |[],t=>⟨.head _,λa h=>by rw[Bc.mp h];show LQ _⟩|n::ns,t=>by
    obtain⟨V,J⟩:=Ui (ns:=ns) (t:=DR t n);have U:=J _ (.head _);change ns.foldl _ _∈_/\∀a∈_,ns.foldl _ _<=a;constructor
    . rcases BY.mp V with h|h
      . rw[h];rcases jC t n with q|q;.rw[jF q];show .head _
        .rw[ADf q];show .tail _ (.head _)
      .show .tail _ (.tail _ h)
    . intro a D;rcases BY.mp D with rfl|D;.show FQ U (Int.min_le_left _ _)
      rcases BY.mp D with rfl|D;.show FQ U (jG _ _)
      show J a (.tail _ D)
theorem Uh:∀{ns:List Int}{t:Int},ns.foldl Ju t∈t::ns/\∀a∈t::ns,a<=ns.foldl Ju t
  |[],t=>⟨.head _,λa h=>by rw[Bc.mp h];show LQ _⟩|n::ns,t=>by
    obtain⟨V,J⟩:=Uh (ns:=ns) (t:=Ju t n);have U:=J _ (.head _);change ns.foldl _ _∈_/\∀a∈_,a<=ns.foldl _ _;constructor
    . rcases BY.mp V with h|h
      . rw[h];rcases jC t n with q|q;.rw[Int.max_eq_right q];show .tail _ (.head _)
        .rw[Int.max_eq_left q];show .head _
      .show .tail _ (.tail _ h)
    . intro a D;rcases BY.mp D with rfl|D;.show FQ (ADc _ _) U
      rcases BY.mp D with rfl|D;.show FQ (W4 _ _) U
      show J a (.tail _ D)
theorem mN{ns:List Int}(D:S∈t::ns)(J:∀a∈t::ns,S<=a):S=ns.foldl DR t:=ADb (J _ Ui.1) (Ui.2 _ D)
theorem mI{ns:List Int}(D:S∈t::ns)(J:∀a∈t::ns,a<=S):S=ns.foldl Ju t:=ADb (Uh.2 _ D) (J _ Uh.1)
theorem nS(T:BM AH AZ AM):T.ug.Ok BE P w AZ base 3 tJ:=by
  show T.ug.ok λnd _ _ _ _ _ hr H vs Q E h=>?_;obtain⟨l,xs,ps,t,a,m,rfl,m0,el,hw,ch,hl,k⟩:_:=h;show⟨_,(EN (OL (i:=4) (osc:=Cy Pf) [("time",1),("most",3)] nd rfl (FN rfl) rfl (DQ (K:=AH) (AD 0)) rfl rfl (by decide+kernel) (by decide+kernel) (by decide+kernel) ⟨rfl,rfl,rfl,rfl,trivial⟩ rfl (by decide+kernel) (λ_ _ _ _=>M6 (Fg (BC (Yc T) hr #v[BA AH (AD 0) AN,BA AH (AD 0) AN,AD 1,AD 2]))) (λ_ _ _ _=>(AD 0))) (EN (OL (i:=5) (osc:=Cy Pf) [("time",1),("most",3)] nd rfl (FN rfl) rfl (DQ (K:=AH) (AD 0)) rfl rfl (by decide+kernel) (by decide+kernel) (by decide+kernel) ⟨rfl,rfl,rfl,rfl,trivial⟩ rfl (by decide+kernel) (λ_ _ _ _=>M6 (Jn (Fg (BC (Yc T) hr #v[BA AH (AD 0) AN,BA AH (AD 0) AN,AD 1,AD 2])))) (λ_ _ _ _=>(AD 0))) (EN (BN 6 nd (CW (Zt (K:=AH) rfl) (by rfl) T.yd eZ #v[(Ac Ff (CM #v[AD 1]) (HR (Cy Pf) [] trivial (DQ (K:=AH) (AD 4)) (λ_ _ _ _=>Fy) (λ_ _ _ _=>(BA AH (AD 0) AN))))])) (EN (BN 7 nd (CW (wZ (K:=AH) rfl) (by rfl) T.wj Wc #v[(Ac Ff (CM #v[Ac Et (Ac Et (AD 1) (AD 3)) AN]) (HR (Cy Pf) [] trivial (DQ (K:=AH) (AD 4)) (λ_ _ _ _=>Fy) (λ_ _ _ _=>(BA AH (AD 0) AN))))])) (EN (BN 8 nd (BC (Yh T) hr #v[AD 2])) (EN (D3 D7 rfl (DQ (K:=AH) (AD 4)) (D2 9 nd) (Af (BN 8 nd (BC (YO T) hr #v[AD 8,BA AH (AD 9) AN])))) (Af (BD (BC (Yf T) hr #v[AD 5,AD 6,AD 7,AD 8]))))))))),?_⟩;have sz:As=16777216:=CL;have lx:=hw.bh;generalize ePP:((t,t+m+1,Hn a):AV)=PP at k;have hmt:∀p:AV,(Ab (p.1-t<=m)&&Ab (t-(p.2.1-m-1)<=m))=D1 PP p:=λp=>by rw[<-ePP];change _=(Ab (p.1<t+m+1)&&Ab (t<p.2.1));rw[show Ab (p.1-t<=m)=Ab (p.1<t+m+1)from AHg.mpr (by lia),show Ab (t-(p.2.1-m-1)<=m)=Ab (t<p.2.1)from AHg.mpr (by lia)]
  showλ_ _ _ _ z1=>⟨l,rfl,⟨_,AW el⟩,?_⟩;show Ms (K:=AH) (xs:=xs) (λn τ acc H'=>(∃o,τ=[o,AA (.int t),AA (.int m)])/\H'=H/\DY H acc ((ps.take n).filter (D1 PP))) (by lia) ⟨⟨AG,rfl⟩,rfl,.nil⟩ (λn τ acc H'⟨_,e,_⟩=>by rw[e];show AW el) ?_ ?_
  . intro n y τ acc H' R1 R0 hy _ hI k1 k0;lk;obtain⟨⟨o,rfl⟩,rfl,hp⟩:=hI;obtain⟨p,b,q,ep,rfl,eb,eq⟩:=hw.ix hy;k_in;show⟨_,_,Aq eb,Ae (j:=0) rfl,_,_,Aq eb,Ae (j:=1) rfl,_,_,_,_,rfl,?_⟩;rw[hmt];have fs:=PL (p:=D1 PP) ep;show⟨_,rfl,Jh (λhb=>?_) λhb=>?_⟩
    . rw[hb,AHT rfl]at fs;show k1 _ _ _ ⟨⟨_,rfl⟩,rfl,by rw[fs];show EE hp (.cons ⟨b,q,rfl,eb,eq⟩ .nil)⟩
    . rw[hb,AHS Dk,D4]at fs;show k0 _ _ ⟨⟨_,rfl⟩,rfl,by rw[fs];show hp⟩
  intro τ xm H' lxm hI lm hlm;obtain⟨_,rfl,hpm⟩:_:=hI;rw[Dj (Bq lx.symm)]at hpm;show Ao hlm λH1 s1 elm=>?_;have hpm1:=hpm.ab s1.tp;have el1:=s1 _ _ el;have hw1:=hw.ab s1.tp;show z1 _ _ λ_ _ _ _ z2=>⟨l,rfl,⟨_,AW el1⟩,?_⟩;show Ms (K:=AH) (xs:=xs) (λn τ acc H'=>(∃o,τ=[o,AA (.int t),AA (.int m)])/\H'=H1/\DY H1 acc ((ps.take n).filter λp=>!D1 PP p)) (by lia) ⟨⟨AG,rfl⟩,rfl,.nil⟩ (λn τ acc H'⟨_,e,_⟩=>by rw[e];show AW el1) ?_ ?_
  . intro n y τ acc H2 R1 R0 hy _ hI k1 k0;lk;obtain⟨⟨o,rfl⟩,rfl,hp⟩:=hI;obtain⟨p,b,q,ep,rfl,eb,eq⟩:=hw1.ix hy;k_in;show⟨_,_,Aq eb,Ae (j:=0) rfl,_,_,Aq eb,Ae (j:=1) rfl,_,_,_,_,rfl,?_⟩;rw[hmt];have fs:=PL (p:=λp=>!D1 PP p) ep;cases hb:D1 PP p with |true=> rw[hb,AHS (by decide),D4]at fs;show⟨_,rfl,k0 _ _ ⟨⟨_,rfl⟩,rfl,by rw[fs];show hp⟩⟩|false=>rw[hb,AHT (by decide)]at fs;show⟨_,rfl,k1 _ _ _ ⟨⟨_,rfl⟩,rfl,by rw[fs];show EE hp (.cons ⟨b,q,rfl,eb,eq⟩ .nil)⟩⟩
  intro τ xr H2 lxr hI lr hlr;obtain⟨_,rfl,hpr⟩:_:=hI;rw[Dj (Bq lx.symm)]at hpr;show Ao hlr λH3 s2 elr=>?_;have hpr2:=hpr.ab s2.tp;have hpm2:=hpm1.ab s2.tp;have elm2:=s2 _ _ elm;have s02:=s1.aa s2;have lmm:(ps.filter (D1 PP)).length<=ps.length:=Fh _ _;have lxm2:xm.length<=5000:=by rw[hpm.bh];show Ag lmm hl
  show z2 _ _ λ_ _ _ _ z3=>⟨A1 rfl,λq1 hq1=>?_⟩;show Ao hq1 λH4 s3 eq1=>?_;show⟨lm,rfl,⟨_,AW (s3 _ _ elm2)⟩,?_⟩;show JJ (K:=AH) (xs:=xm) (λn τ acc H'=>(∃o,τ=[o])/\H'=H4/\acc=((ps.filter (D1 PP)).take n).map λp=>AB.int p.1) (by lia) ⟨⟨AG,rfl⟩,rfl,rfl⟩ (λn τ acc H'⟨_,e,_⟩=>by rw[e];show AW (s3 _ _ elm2)) ?_ ?_;. intro n y τ acc H5 R1 hy _ hI k1;lk;obtain⟨⟨o,rfl⟩,rfl,rfl⟩:=hI;obtain⟨p,b,q,ep,rfl,eb,eq⟩:=(hpm2.ab s3.tp).ix hy;k_in;show⟨_,_,Aq eb,Ae (j:=0) rfl,k1 _ _ _ ⟨⟨_,rfl⟩,rfl,by rw[DH,ep,CQ];rfl⟩⟩
  intro τ acc H5 _ hI q2 hq2;obtain⟨_,rfl,rfl⟩:_:=hI;rw[Dj (by rw[hpm.bh];show Ai _)];show Ao hq2 λH6 s4 eq2=>?_;show⟨q1,q2,_,_,rfl,rfl,s4 _ _ eq1,eq2,by simp;lia,λq3 hq3=>?_⟩;show Ao hq3 λH7 s5 eq3=>?_;have eq3:H7 q3=AA (.lst ((t::(ps.filter (D1 PP)).map (·.1)).map AB.int)):=by rw[eq3,EI,Cz];rfl
  show⟨q3,_,rfl,AW eq3,by simp,λS hS1 hS2=>?_⟩;have s37:=s3.aa (s4.aa s5);show z3 _ _ λ_ _ _ _ z4=>⟨A1 rfl,λq4 hq4=>?_⟩;show Ao hq4 λH8 s6 eq4=>?_;have s38:=s37.aa s6;show⟨lm,rfl,⟨_,AW (s38 _ _ elm2)⟩,?_⟩;show JJ (K:=AH) (xs:=xm) (λn τ acc H'=>(∃o,τ=[o])/\H'=H8/\acc=((ps.filter (D1 PP)).take n).map λp=>AB.int p.2.1) (by lia) ⟨⟨AG,rfl⟩,rfl,rfl⟩ (λn τ acc H'⟨_,e,_⟩=>by rw[e];show AW (s38 _ _ elm2)) ?_ ?_
  . intro n y τ acc H9 R1 hy _ hI k1;lk;obtain⟨⟨o,rfl⟩,rfl,rfl⟩:=hI;obtain⟨p,b,q,ep,rfl,eb,eq⟩:=(hpm2.ab s38.tp).ix hy;k_in;show⟨_,_,Aq eb,Ae (j:=1) rfl,k1 _ _ _ ⟨⟨_,rfl⟩,rfl,by rw[DH,ep,CQ];rfl⟩⟩
  intro τ acc H9 _ hI q5 hq5;obtain⟨_,rfl,rfl⟩:_:=hI;rw[Dj (by rw[hpm.bh];show Ai _)];show Ao hq5 λHA s7 eq5=>?_;show⟨q4,q5,_,_,rfl,rfl,s7 _ _ eq4,eq5,by simp;lia,λq6 hq6=>?_⟩;show Ao hq6 λHB s8 eq6=>?_;have eq6:HB q6=AA (.lst (((t+m+1)::(ps.filter (D1 PP)).map (·.2.1)).map AB.int)):=by rw[eq6,EI,Cz];rfl
  show⟨q6,_,rfl,AW eq6,by simp,λE1 hE1 hE2=>?_⟩;have s3B:=s38.aa (s7.aa s8);show z4 _ _ λ_ _ _ _ z5=>⟨a,rfl,λu HC s9 hu tu=>z5 _ _ ?_⟩;have s3C:=s3B.aa s9;showλ_ _ _ _ z6=>⟨lm,rfl,⟨_,AW (s3C _ _ elm2)⟩,HK (K:=AH) (xs:=xm) (λn σ H'=>Eg (λ(o9:Option AB)(tl:AE)=>σ=(jV l t a m lm lr S E1 tl o9)) (λ_ _=>Aj HC H') (λ_ tl=>GA H' tl (((ps.filter (D1 PP)).take n).foldl (λt x=>GX t x.2.2) (Hn a)))) ⟨AG,u,rfl,DF _,tu⟩ (λn σ H' _ hh=>by obtain⟨_,_,_,s',_⟩:=hh;show AW ((s3C.aa s') _ _ elm2)) ?_ ?_⟩
  . intro n y σ HD hy hI;lk;obtain⟨o9,tl,rfl,sD,etl⟩:=hI;obtain⟨p,b,q,ep,rfl,eb,eq⟩:=(hpm2.ab (s3C.aa sD).tp).ix hy;k_in;show⟨_,_,Aq eb,Ae (j:=2) rfl,tl,q,_,_,rfl,etl,eq,λr HE sE hr' tr=>⟨_,r,rfl,sD.aa sE,?_⟩⟩;rw[ZK ep];show tr
  . intro σ HD hI;obtain⟨o9,tl,rfl,sD,etl⟩:_:=hI;rw[hpm.bh,Dj (Ai _)]at etl;have s3D:=s3C.aa sD;have eS:=mN hS1 hS2;have eE:=mI hE1 hE2;show z6 _ _ ⟨lr,tl,xr,_,S,E1,_,rfl,s3D _ _ elr,hpr2.ab s3D.tp,(UZ ch).sublist QU,by have:=Fh (λp=>!D1 PP p) ps;lia,etl,λr HE xe sE hre ere hpe=>?_⟩;show k r HE xe (s02.aa (s3D.aa sE)) ((s02.aa s3D).az hre) ere ?_;have me:=Uw (l:=ps) (p:=PP) (by rw[<-ePP];change t<t+m+1;show W5 (W3 m0) (by decide)) ch;rw[<-me];rw[eS,eE]at hpe;subst ePP;show hpe
def uM:BF:=λY H Q _=>(MQ λ(p l i:AE)(W:List AB)(U:List AV)(s:AU)(t a:Int)(y:AF)=>UG (Y=[.ref p,.ref l,.ref i]) (Ed H p s) (s.dw) (s.gd U) (H l=AA (.lst W)) (DY H W U) (U.length<=5000) (H i=AA (.tup [.int t,.str y,.int a])) (0<=t) (t<=1000000000) (∀r J D,Aj H J->H r=AG->J r=AA (.lst D)->DY J D (s.ja t a U)->Q (.ref r) J))
theorem oU(T:BM AH AZ AM):T.vo.Ok BE P w AZ base 4 uM:=by show T.vo.ok λR _ _ _ _ _ A H S Q E h=>?_;obtain⟨p,l,i,C,B,N,t,a,y,rfl,W,U,Y,V,hw,Z,J,O,t1,k⟩:_:=h;show⟨_,(Ah (CP (Bu ED (BA AH (AD 0) AN) Bi (Bt _)) (Af (BD (BC (nN T) A #v[AD 1,BA AH (AD 2) AN,BA AH (AD 2) AN,BA AH (AD 0) AN,BA AH (AD 0) AN]))) Cg) (Af (BD (BC (nS T) A #v[AD 1,BA AH (AD 2) AN,BA AH (AD 2) AN,BA AH (AD 0) AN])))),?_⟩;cases N with|each n f M z d=>have D:=W;obtain⟨F,G,I,L⟩:_:=U;show⟨_,_,Aq D,Ae (j:=0) rfl,rfl,_,rfl,Ji (λ_=>?_) λq=>absurd rfl q⟩;show⟨_,_,Aq J,Ae (j:=0) rfl,_,_,Aq J,Ae rfl,_,_,Aq D,Ae rfl,_,_,Aq D,Ae rfl,l,C,B,t,a,z,d,rfl,⟨F,G,I,L,O,t1⟩,V,hw,Y.1,Z,k⟩|gap n f M m=>have D:=W;show⟨_,_,Aq D,Ae rfl,rfl,_,rfl,Ji (λq=>absurd q (by decide+kernel)) λ_=>?_⟩;show⟨_,_,Aq J,Ae (j:=0) rfl,_,_,Aq J,Ae (j:=2) rfl,_,_,Aq D,Ae (j:=4) rfl,l,C,B,t,a,m,rfl,U,V,hw,Y,Z,k⟩|_=>cases U
noncomputable def Mj(D:AF)(t:Dc):Int:=if D="count"then t.1 else if D="sum"then t.2.1 else if D="least"then t.2.2.1 else t.2.2.2
def vD:BF:=λJ H Q _=>(El λ(D:AF)(q:AE)(t:Dc)=>Iu (J=[.str D,.ref q]) (D∈G6) (GA H q t) (Q (.int (Mj D t)) H))
theorem pN(T:BM AH AZ AM):T.xp.Ok BE P w AZ base 1 vD:=by
 show T.xp.ok λY _ _ _ _ _ O H Z Q E h=>?_;obtain⟨J,q,t,rfl,W,A,k⟩:_:=h;show⟨_,(Af (BD (BA AH (AD 1) (GO F.plainAttrs_tuple AFC F.type_tuple_index (zE) (K7 (v:=.ref _) (by rfl) T.yh rfl) #v[AD 0])))),?_⟩;have N:=T.yn H;have Z:Mj "count" t=t.1/\Mj "sum" t=t.2.1/\Mj "least" t=t.2.2.1/\Mj "greatest" t=t.2.2.2:=⟨rfl,rfl,rfl,rfl⟩;lk;obtain⟨R,S,v2,v3⟩:=Z;have Y:G6.Nodup:=by decide+kernel
 obtain⟨j,I,D⟩:=Gz.mp W;k_in;have D:G6[j]?=AA J:=by rw[<-D];show CG I
 have U:∀m,m<j->G6[m]?≠AA J:=λm L e=>by obtain⟨F,B⟩:=BU.mp D;obtain⟨G,C⟩:=BU.mp e;show(Ig.mp Y) m j G F L (C.trans B.symm)
 have M:Cr [AB.int t.1,.int t.2.1,.int t.2.2.1,.int t.2.2.2] (j)=AA (.int (Mj J t)):=by match j,D with |0,e=>cases e;rfl|1,e=>cases e;rfl|2,e=>cases e;rfl|3,e=>cases e;rfl
 show⟨.inr (.inl ⟨rfl,T.yk⟩),_,G6,J,j,rfl,rfl,N,D,U,_,_,Aq A,M,k⟩
noncomputable def AU.so:AU->AF|AU.gap _ _ s _|AU.each _ _ s _ _=>s|_=>""
theorem Ed.adl(h:Ed H p s)(D:s.dw):CB AH H p (s.zf.map Az)/\Cr (s.zf.map Az) 1=AA (.str s.nm)/\Cr (s.zf.map Az) 3=AA (.str s.so):=by show⟨Aq h,?_⟩;cases s with|gap n f J m=>show⟨Ae rfl,Ae rfl⟩|each n f J z d=>show⟨Ae rfl,Ae rfl⟩|_=>cases D
noncomputable def Pe(s:AU)(z:AF)(p:AV):List AL:=[.inr s.nm,.inr z,.inl p.1,.inl p.2.1,.inl (Mj s.so p.2.2)]
noncomputable def pT(z:AF)(p:AV):List AL:=[.inl p.2.1,.inr z,.inl p.1]
def uQ:BF:=λU H Q _=>(Iv λ(p a:AE)(s:AU)(z:AF)(J:AV)=>HZ (U=[.ref p,.str z,.ref a]) (Ed H p s) (s.dw) (s.so∈G6) (MW H (.ref a) J) (∀r D,Aj H D->H r=AG->D r=AA (.tup ((Pe s z J).map Az))->Q (.ref r) D))
theorem pB(T:BM AH AZ AM):T.vp.Ok BE P w AZ base 2 uQ:=by show T.vp.ok λC _ _ _ _ _ D H I Q E h=>?_;lk;obtain⟨p,a,G,z,F,rfl,Y,Z,U,⟨_,q,e,J,W⟩,k⟩:=h;cases e;k_in;show⟨_,(Af (BD (CY #v[BA AH (AD 0) AN,AD 1,BA AH (AD 2) AN,BA AH (AD 2) AN,BC (pN T) D #v[BA AH (AD 0) AN,BA AH (AD 2) AN]]))),?_⟩;obtain⟨V,A,B⟩:_:=Y.adl Z;show⟨_,_,V,A,_,_,Aq J,Ae (j:=0) rfl,_,_,Aq J,Ae (j:=1) rfl,_,_,V,B,_,_,Aq J,Ae (j:=2) rfl,_,q,_,rfl,U,W,A1 rfl,λr D=>k r _ (C9 D) D Ak⟩
def uD:BF:=λJ H Q _=>(JS λ(a:AE)(s:AU)(z:AF)(D:AV)=>RF (J=[.ref a]) (H a=AA (.tup ((Pe s z D).map Az))) (∀r,H r=AG->Q (.ref r) (AR H r (.tup ((pT z D).map Az)))))
theorem oN(T:BM AH AZ AM):T.qr.Ok BE P w AZ base 1 uD:=by show T.qr.ok λU _ _ _ _ _ J H Y Q E h=>?_;obtain⟨a,W,z,V,rfl,D,k⟩:_:=h;show⟨_,(Af (BD (CY #v[BA AH (AD 0) AN,BA AH (AD 0) AN,BA AH (AD 0) AN]))),?_⟩;show⟨_,_,Aq D,Ae rfl,_,_,Aq D,Ae rfl,_,_,Aq D,Ae rfl,A1 rfl,k⟩
structure Hg(ex:List AE)(H:AI)(d:AE)(g:AF->List AV)(kvs:List (AL×AB)):Prop where
 aj:H d=AA (.dK kvs)nd:(kvs.map (·.1)).Nodup
 qc:∀q∈kvs,∃(key:AF)(r:AE)(xs:List AB),q=(.inr key,.ref r)/\r∉ex/\H r=AA (.lst xs)/\DY H xs (g key)/\xs≠[]nj:∀key,g key≠[]->(.inr key:AL)∈kvs.map (·.1)
theorem Hg.ab(h:Hg ex H d g kvs)(W:H' d=AA (.dK kvs))(Y:∀b xs,b∉ex->H b=AA (.lst xs)->H' b=AA (.lst xs))(t:B7 H H'):Hg ex H' d g kvs:=⟨W,h.nd,λq U=>by obtain⟨D,r,xs,e,n,J,w⟩:_:=h.qc q U;show⟨D,r,xs,e,n,Y _ _ n J,w.1.ab t,w.2⟩,h.nj⟩
theorem Hg.ak(h:Hg ex H d g kvs)(s:Aj H H'):Hg ex H' d g kvs:=h.ab (s _ _ h.aj) (λ_ _ _ e=>s _ _ e) s.tp
theorem Hg.at(h:Hg ex H d g kvs)(key:AF):(BZ kvs (.inr key)=AG/\g key=[])\/∃r xs,BZ kvs (.inr key)=AA (.ref r)/\r∉ex/\H r=AA (.lst xs)/\DY H xs (g key):=by cases J:BZ kvs _ with
 |none=> show .inl ⟨rfl,?_⟩;cases Y:g _ with |nil=>rfl|cons a b=> obtain⟨v,D⟩:=NA (h.nj _ (by rw[Y];simp));rw[J]at D;cases D
 |some v=>lk;obtain⟨U,r,xs,e,n,W,w⟩:=h.qc _ (Gy J);cases e;k_in;show .inr ⟨r,xs,rfl,n,W,w.1⟩
noncomputable def JG(g:AF->List AV)(key:AF)(D:List AV):AF->List AV:=λk=>if k=key then D else g k
theorem Np:JG g key D key=D:=AHT rfl
theorem Ko(h:k≠key):JG g key D k=g k:=AHS h
theorem Hg.ja(h:Hg ex H d g kvs)(L:r∉ex)(G:H r=AA (.lst xs))(hw:DY H xs B)(M:xs≠[]):Hg ex (AR H d (.dK (Bk kvs (.inr key) (.ref r)))) d (JG g key B) (Bk kvs (.inr key) (.ref r)):=by
  have A:∀{b:AE}{F:List AB},H b=AA (.lst F)->(AR H d (.dK (Bk kvs (.inr key) (.ref r)))) b=AA _:=λ{b F}e=>by rw[Aa λz=>by rw[z,h.aj]at e;cases e];show e
  have C:B7 H (AR H d (.dK (Bk kvs (.inr key) (.ref r)))):=(KD H).dz h.aj λxs=>by intro z;cases z
  show⟨Ak,OE h.nd,λq K=>?_,λk J=>?_⟩
  . rcases Mx K with rfl|⟨I,W⟩;.show⟨key,r,xs,rfl,L,A G,by rw[Np];show hw.ab C,M⟩
    . obtain⟨D,N,Z,e,n,U,E⟩:_:=h.qc q I;subst e;have J:D≠key:=λz=>W (by rw[z]);show⟨_,N,Z,rfl,n,A U,by rw[Ko J];show E.1.ab C,E.2⟩
  . by_cases e:k=key
    . subst e;lk;obtain⟨v,Y⟩:∃v,BZ (Bk kvs _ _) _=AA v:=⟨_,by rw[Jr,AHT rfl]⟩;k_in;show Ax.mpr ⟨_,Gy Y,rfl⟩
    . rw[Ko e]at J;obtain⟨v,Y⟩:=NA (h.nj k J);have:BZ (Bk kvs (.inr key) (.ref r)) (.inr k)=AA v:=by rw[Jr,AHS (λz=>e (GS z))];show Y
      show Ax.mpr ⟨_,Gy this,rfl⟩
theorem lQ:∀{l:List AV},Bx s e x l≠[]
 |[]=>λh=>(by cases h)|b::r=>by
  change(if b.1<s then _ else if b.1=s then _ else _)≠[];split;.showλh=>(by cases h)
  .split<;>showλh=>(by cases h)
theorem YE:∀{l:List AV}{p:AV},CJ p l≠[]
  |[],p=>λh=>(by cases h)|b::r,p=>by
    change(if b.2.1<=p.1 then _ else if p.2.1<=b.1 then _ else CJ _ r)≠[];split;.showλh=>(by cases h)
    . split;.showλh=>(by cases h)
      .show YE
theorem Xk:∀{ss:List Int}{l:List AV},(ss≠[]\/l≠[])->ss.foldl (λl s=>Bx s (s+z) x l) l≠[]|[],l,h=>h.elim (λh=>absurd rfl h) id|s::ss,l,_=>Xk (ss:=ss) (.inr lQ)
theorem jS{s:AU}(J:s.dw)(W:0<=t)(Y:t<=1000000000):s.ja t a l≠[]:=by cases s with
 |gap n f U m=>show YE|each n f U z d=>
  show Xk (.inl λe=>?_);have e:=AHU LF e;unfold Hl at e;rw[Au,WL]at e;obtain⟨D,V,Z,A⟩:_:=J;have f:=(PM (t:=t) (z:=z) D).2;unfold FL at e;split at e
  . have:0<=(t+1-((t-z)/d+1)*d-1)/d:=ADZ (by omega) (NV D);have e:((t+1-((t-z)/d+1)*d-1)/d+1).toNat=0:=e;omega
  .omega|_=>show J.elim
section
variable{s:AU}
structure Dl(ad:CA)(ex:List AE)(H:AI)(x p d:AE)(s:AU)(g:AF->List AV)(kvs:List (AL×AB)):Prop where
 bb:∃dx,H x=AA (.ins ad.ar dx [("step",.ref p),("rows",.ref d)])gh:Ed H p s
 ao:Hg ex H d g kvs
end
theorem Dl.ak{st:AU}(h:Dl AM ex H x p d st g kvs)(s:Aj H H'):Dl AM ex H' x p d st g kvs:=by obtain⟨⟨D,e⟩,st,r⟩:_:=h;show⟨⟨D,s _ _ e⟩,s _ _ st,r.ak s⟩
theorem Dl.wu{st:AU}(h:Dl AM ex H x p d st g kvs)(s:Bj d H H')(r:Hg ex H' d J D):Dl AM ex H' x p d st J D:=by
 obtain⟨⟨W,e⟩,st,U⟩:_:=h;have Y:x≠d:=λz=>by rw[z,U.aj]at e;cases e
 have Z:p≠d:=λz=>by have st:H p=_:=st;rw[z,U.aj]at st;cases st
 show⟨⟨W,s _ _ Y e⟩,s _ _ Z st,r⟩
def tH(D:CA):BF:=λU H Q _=>(El λ(x J p:AE)=>RF (U=[.ref x,.ref p]) (H x=AA (.ins D.ar J [])) (∀d,H d=AG->Q .non (AR (AR (AR H x (.ins D.ar J [("step",.ref p)])) d (.dK [])) x (.ins D.ar J [("step",.ref p),("rows",.ref d)]))))
theorem nT(T:BM AH AZ AM):T.gw.Ok BE P w AZ base 1 (tH AM):=by
 show T.gw.ok λV _ _ _ _ _ U H W Q E h=>?_;obtain⟨x,J,p,rfl,e,k⟩:_:=h;show⟨_,(Ah (Fs (AD 0) (AD 1) rfl) (Af (Fs (AD 0) QL rfl))),?_⟩;show⟨x,_,J,[],rfl,e,T.ba,T.ip,by decide,?_⟩;showλd D=>⟨x,_,J,[("step",.ref p)],rfl,?_,T.ba,T.bu,(by change 1<1000;decide),?_⟩;.rw[Aa (Bh Ak D)];show Ak
 . show k d ?_;rw[Aa (Bh Ak D).symm]at D;show D
def tI(Z:CA):BF:=λA H Q _=>(MQ λ(Y:List AE)(x p d q:AE)(U:AU)(g:AF->List AV)(J:List (AL×AB))(i:AO)=>UG (A=[.ref x,.ref q]) (Dl Z Y H x p d U g J) ((∀c∈Y,∃o,H c=AA o)) (U.dw) (U.gd (g i.2.1)) (0<=i.1) (i.1<=1000000000) (H q=AA (.tup [.int i.1,.str i.2.1,.int i.2.2])) ((g i.2.1).length<=5000) (J.length<=30000) (∀W D,Bj d H W->Dl Z Y W x p d U (JG g i.2.1 (U.ja i.1 i.2.2 (g i.2.1))) D->D.length<=J.length+1->Q .non W))
theorem nU(T:BM AH AZ AM):T.nu.Ok BE P w AZ base 5 (tI AM):=by
 show T.nu.ok λnd _ _ _ _ _ Y H vs Q E h=>?_;obtain⟨v,x,p,d,q,st,g,W,⟨t,D,a⟩,rfl,M,O,m,y,n,t1,l,lg,lk,k⟩:_:=h;show⟨_,(Ah (BN 2 nd (BA AH (AD 1) AN)) (Af (M5 Y.u1 (Bs (AD 0) rfl) (AD 2) (BC (oU T) Y #v[Bs (AD 0) rfl,Vw Y.u1 (Bs (AD 0) rfl) (AD 2) (CM Fx) ⟨rfl,rfl,rfl,rfl⟩,AD 1]) rfl))),?_⟩;have sz:As=16777216:=CL;obtain⟨dx,i⟩:=M.bb;show⟨_,_,Aq l,Ae (j:=1) rfl,?_⟩;have S:Mn H d:=.inl ⟨W,.inl M.ao.aj⟩;show⟨_,⟨i,T.ba,T.ip,rfl⟩,_,⟨i,T.ba,T.bu,rfl⟩,d,rfl,S,Bm _,λf N=>?_⟩;show Ao N λc s1 C=>?_;have J:=M.ak s1;lk;obtain⟨X,Z,L,G,hw⟩:∃(r:AE)(Z:List AB),(BZ W (.inr D)).getD (.ref f)=.ref r/\c r=AA (.lst Z)/\DY c Z (g D):=by
  rcases J.ao.at D with⟨B,u⟩|⟨r,Z,B,_,G,hw⟩;.show⟨f,[],by rw[B];rfl,C,by rw[u];show .nil⟩
  .show⟨r,Z,by rw[B];rfl,G,hw⟩
 k_in;show⟨_,JI (k:=Br D) J.ao.aj,?_⟩;rw[L];show⟨p,X,q,Z,g D,st,t,a,D,rfl,J.gh,m,y,G,hw,lg,s1 _ _ l,n,t1,λr H2 xs' s2 Y I A=>?_⟩;have U:=J.ak s2;obtain⟨s,F⟩:=U.bb;show⟨_,⟨F,T.ba,T.bu,rfl⟩,d,_,rfl,Nw (k:=Br D) U.ao.aj (HS lk (by decide)),?_⟩;have R:r∉v:=λhm=>by obtain⟨o,e⟩:=O r hm;rw[s1 _ _ e]at Y;cases Y
 show k _ _ ((((s1.aa s2).x d)).dz) (U.wu zzu (U.ao.ja R I A λz=>jS m n t1 (dQ (by rw[<-A.bh,z];rfl)))) (by have:=Vo W (.inr D) (.ref r);assumption)
theorem Hg.ye(h:Hg ex H d g kvs)(key:AF):Hg ex (AR H d (.dK (DK kvs (.inr key)))) d (JG g key []) (DK kvs (.inr key)):=by
 have G:∀{b:AE}{E:List AB},H b=AA (.lst E)->(AR H d (.dK (DK kvs (.inr key)))) b=AA _:=λ{b E}e=>by rw[Aa λz=>by rw[z,h.aj]at e;cases e];show e
 have K:B7 H (AR H d (.dK (DK kvs (.inr key)))):=(KD H).dz h.aj λL=>by intro z;cases z
 have U:∀{q:AL×AB},q∈DK _ _↔q∈kvs/\q.1≠.inr key:=λ{q}=>by unfold DK;rw[EJ,AHY]
 show⟨Ak,h.nd.sublist (AGV _ QU),λq Z=>?_,λk D=>?_⟩
 . lk;obtain⟨F,Y⟩:=U.mp Z;obtain⟨J,I,A,e,n,W,C⟩:=h.qc q F;k_in;subst e;have D:J≠key:=λz=>Y (by rw[z]);show⟨_,I,A,rfl,n,G W,by rw[Ko D];show C.1.ab K,C.2⟩
 . have e:k≠key:=λz=>D (by rw[z];show Np);rw[Ko e]at D;obtain⟨q,Z,B⟩:_:=Ax.mp (h.nj k D);show Ax.mpr ⟨q,U.mpr ⟨Z,by rw[B];showλz=>e (GS z)⟩,B⟩
theorem qI:JG (JG g key a) key b=JG g key b:=by
 funext k;by_cases e:k=key;.rw[e,Np,Np]
 .rw[Ko e,Ko e,Ko e]
noncomputable def GH:Option Int->List AV->List AV|AG,J=>J|AA D,J=>Me D J
noncomputable def GJ:Option Int->List AV->List AV|AG,_=>[]|AA D,J=>JE D J
noncomputable def Nm:Option Int->AB|AG=>.non|AA n=>.int n
theorem lY{kvs:List (AL×AB)}:∀k,k≠k0->k∈kvs.map (·.1)->k∈(DK kvs k0).map (·.1):=λk D h=>by obtain⟨q,J,rfl⟩:_:=Ax.mp h;show Ax.mpr ⟨q,EJ.mpr ⟨J,AHV D⟩,rfl⟩
theorem lZ{kvs:List (AL×AB)}:∀k,k∈kvs.map (·.1)->k∈(Bk kvs k0 v).map (·.1):=λk h=>by
 lk;obtain⟨u,D⟩:=NA h;have:∃y,BZ (Bk kvs k0 v) k=AA y:=by
  rw[Jr];split;.show⟨_,rfl⟩
  .show⟨_,D⟩
 obtain⟨y,J⟩:=this;k_in;show Ax.mpr ⟨_,Gy J,rfl⟩
def uU(A:CA):BF:=λE H Q _=>(MQ λ(Z:List AE)(x p d:AE)(B:AU)(D:AF)(g:AF->List AV)(J:List (AL×AB))(W:Option Int)=>JQ (E=[.ref x,.str D,Nm W]) (Dl A Z H x p d B g J) ((∀c∈Z,∃o,H c=AA o)) ((.inr D:AL)∈J.map (·.1)) ((g D).length<=10000) (J.length<=1000) (∀Y r C U,Bj d H Y->Dl A Z Y x p d B (JG g D (GJ W (g D))) U->Y r=AA (.lst C)->DY Y C (GH W (g D))->U.length<=J.length->(∀k,k≠.inr D->k∈J.map (·.1)->k∈U.map (·.1))->Q (.ref r) Y))
theorem pF(T:BM AH AZ AM):T.ku.Ok BE P w AZ base 2 (uU AM):=by
  show T.ku.ok λnd _ _ _ _ _ hr H vs Q E h=>?_;obtain⟨ex,x,p,d,st,key,g,kvs,now,rfl,gr,hex,hg,lg,lk,k⟩:_:=h;show⟨_,(Ah (BN 3 nd (bN (Bs (AD 0) rfl) (AD 1) ⟨rfl,rfl,rfl,rfl⟩)) (Ah (CP (Bu Vt (AD 2) Gh (Bt _)) (Af (BD (AD 3))) Cg) (Ah (BN 4 nd (BC (oP T) hr #v[AD 3,AD 2])) (Ah (QO (CP (Bu Sj (CW (Fc (K:=AH)) (by rfl) T.cx Ez #v[BA AH (AD 4) AN]) AN (Bt _)) (Af (M5 hr.u1 (Bs (AD 0) rfl) (AD 1) (BA AH (AD 4) AN) rfl)) Cg)) (Af (BD (BA AH (AD 4) AN))))))),?_⟩;have sz:As=16777216:=CL;obtain⟨dx,eo⟩:=gr.bb;have isd:Mn H d:=.inl ⟨kvs,.inl gr.ao.aj⟩;rcases gr.ao.at key with⟨e1,_⟩|⟨r,xs,e1,hrx,er,hw⟩
  . obtain⟨v,hv⟩:=NA hg;rw[e1]at hv;cases hv
  show⟨_,⟨eo,T.ba,T.bu,rfl⟩,d,rfl,isd,kvs,.inr key,.ref r,gr.ao.aj,rfl,e1,?_⟩;have rd:=gr.ao.ye key;have sx1:Bj d H (AR H d (.dK (DK kvs (.inr key)))):=zzu
  have gr1:=gr.wu sx1 rd;have nrd:r≠d:=λz=>by rw[z,gr.ao.aj]at er;cases er
  have er1:=sx1 _ _ nrd er;have hw1:=hw.ab (sx1.tp gr.ao.aj (by intro xs z;cases z));have ll:(DK kvs (.inr key)).length<=kvs.length:=Fh _ _;generalize AR H d (.dK (DK kvs (.inr key)))=H1 at sx1 gr1 er1 hw1⊢;have lt1:BZ (DK kvs (.inr key)) (.inr key)=AG->(DK kvs (.inr key)).length<kvs.length:=λ_=>by
    have hm:=Gy e1;have hne:DK kvs (.inr key)≠kvs:=λz=>by rw[<-z]at hm;unfold DK at hm;have:=(EJ.mp hm).2;simp at this
    rcases OY (DK kvs (.inr key)).length kvs.length with h|h;.show h
    .show absurd (AGU (QU) h) hne
  have lt0:BZ (DK kvs (.inr key)) (.inr key)=AG:=by cases q:BZ (DK kvs (.inr key)) (.inr key)with|none=>rfl|some v=>have:=(EJ.mp (Gy q)).2;rw[AHY]at this;show absurd rfl this
  have kd1:=lY (kvs:=kvs) (k0:=.inr key);generalize DK kvs (.inr key)=kvs1 at gr1 ll lt1 lt0 kd1;cases now with |none=>show⟨rfl,_,rfl,yP rfl (k H1 r xs kvs1 sx1 gr1 er1 hw1 ll kd1)⟩|some now=>
    show⟨rfl,_,rfl,SV (by intro z;cases z) ⟨r,xs,g key,now,rfl,er1,hw1,by assumption,λq r1 r2 H2 x1 x2 s2 hr1 hr2 eq e1 e2 p1 p2=>?_⟩⟩;have gr2:=gr1.ak s2;obtain⟨dx2,eo2⟩:=gr2.bb;have q0:CB AH H2 q _:=Aq eq;have l2:=p2.bh;show P5 (λσ' H'=>∃kvs',σ'=(j8 x key now r q)/\Bj d H2 H'/\Dl AM ex H' x p d st (JG g key (GJ (AA now) (g key))) kvs'/\kvs'.length<=kvs.length/\(∀k,k≠.inr key->k∈kvs.map (·.1)->k∈kvs'.map (·.1))) ?_ ?_
    . show⟨_,_,q0,Ae (j:=1) rfl,x2,.inl (AW e2),_,rfl,Hx (λh=>?_) λh=>?_⟩
      . show⟨_,_,q0,Ae (j:=1) rfl,_,⟨eo2,T.ba,T.bu,rfl⟩,d,_,rfl,Nw (k:=Br key) gr2.ao.aj (by lia),?_⟩;have hrx2:r2∉ex:=λhm=>by
          obtain⟨o,e⟩:=hex r2 hm;have nd:r2≠d:=λz=>by rw[z,gr1.ao.aj]at hr2;cases hr2
          rw[sx1 _ _ nd e]at hr2;cases hr2
        have rp:=gr2.ao.ja (key:=key) hrx2 e2 p2 λz=>by rw[z]at h;show absurd h (by decide)
        rw[qI]at rp;have sxp:Bj d H2 (AR H2 d (.dK (Bk kvs1 (.inr key) (.ref r2)))):=zzu
        show⟨_,rfl,sxp,gr2.wu sxp rp,?_,λk' h1 h2=>lZ _ (kd1 k' h1 h2)⟩;have nk:(BZ kvs1 (.inr key))=AG:=by show lt0
        have lk1:kvs1.length<kvs.length:=lt1 nk;have:=Vo kvs1 (.inr key) (.ref r2);lia
      . have e0:GJ (AA now) (g key)=[]:=dQ (by change(JE now (g key)).length=0;show O1 l2.symm (ADj.mp (NW h)));show⟨kvs1,rfl,λb o _ e=>e,by rw[e0];show gr2,ll,kd1⟩
    . intro σ' H3 hI;obtain⟨kvs',rfl,sx3,gr3,l3,kd3⟩:_:=hI;have nqd:q≠d:=λz=>by rw[z,gr2.ao.aj]at eq;cases eq
      have n1d:r1≠d:=λz=>by rw[z,gr2.ao.aj]at e1;cases e1
      show⟨_,_,Aq (sx3 _ _ nqd eq),Ae (j:=0) rfl,k H3 r1 x1 kvs' (sx1.aa ((s2.x d).aa sx3)) gr3 (sx3 _ _ n1d e1) (p1.ab (sx3.tp gr2.ao.aj (by intro xs z;cases z))) l3 kd3⟩
noncomputable def EU(g:AF->List AV)(ks:List AF):List (AF×AV):=ks.flatMap λz=>(g z).map λp=>(z,p)
noncomputable def Nq(st:AU)(D:AF×AV):List AL:=Pe st D.1 D.2
noncomputable def Yl:List AL->List AL|[_,k,s,e,_]=>[e,k,s]|_=>[]
theorem Dl.ic{st:AU}(h:Dl AM ex H x p d st g kvs)(W:H l=AG):Dl AM (l::ex) H x p d st g kvs:=⟨h.bb,h.gh,h.ao.aj,h.ao.nd,λq Y=>by
 obtain⟨U,r,Z,e,n,D,w⟩:_:=h.ao.qc q Y;show⟨U,r,Z,e,λJ=>?_,D,w⟩;rcases BY.mp J with rfl|J;.rw[W]at D;cases D
 .show n J,h.ao.nj⟩
theorem Dl.jq{st:AU}(h:Dl AM (l::ex) H x p d st g kvs):Dl AM ex H x p d st g kvs:=⟨h.bb,h.gh,h.ao.aj,h.ao.nd,λq W=>by obtain⟨D,r,Y,e,n,J,w⟩:_:=h.ao.qc q W;show⟨D,r,Y,e,λU=>n (D5 _ U),J,w⟩,h.ao.nj⟩
theorem Dl.uj{st:AU}(h:Dl AM ex H x p d st g kvs)(e:H c=AA (.lst ys))(B:c∈ex):Dl AM ex (AR H c o) x p d st g kvs:=by
 obtain⟨⟨Z,A⟩,st,r⟩:_:=h;have Y:=st;have U:∀{b:AE}{W:Bw},H b=AA W->(∀J,W≠.lst J)->(AR H c o) b=AA W:=λ{b W}D n=>by rw[Aa λz=>by rw[z,e]at D;show n _ (CD D).symm];show D
 show⟨⟨Z,U A (by intro J z;cases z)⟩,U Y (by intro J z;cases z),r.ab (U r.aj (by intro J z;cases z)) (λb J C D=>?_) λb J D=>U D (by intro J z;cases z)⟩;rw[Aa λz=>C (by rw[z];show B)];show D
theorem qY(h:Cq H ys R){Y:List (AB×List AL)}(p:Y.Perm (ys.zip (R.map f))):∃U,U.Perm R/\Cq H (Y.map (·.1)) U/\U.map f=Y.map (·.2):=by
 have E:=h.bh;have F:Bf (λ(D)(q)=>(∃a,q.1=.ref a/\H a=AA (.tup (D.map Az)))/\f D=q.2) R (ys.zip (R.map f)):=by show HQ (by rw[AD3,Au];show Eq.comm.mp (Nat.min_eq_right (Bq E.symm))) λi D q J W=>?_;obtain⟨Z,A⟩:=L6.mp W;rw[Bo,J]at A;show⟨(Cn h).2 i _ _ Z J,CD A⟩
 lk;obtain⟨U,G,I⟩:=QH p F;obtain⟨C,B⟩:=Cn I;k_in;show⟨U,G,HQ (by rw[Au,C]) λi v D J W=>?_,?_⟩;. rw[Bo]at J;obtain⟨q,Z,rfl⟩:_:=EK.mp J;show(B i _ q W Z).1
 . show dR λi=>?_;rw[Bo,Bo];cases J:U[i]? with |none=>rw[WK (by rw[<-C];show TN.mp J)];rfl|some D=>have K:=(BU.mp J).1;have W:=CG (show i<Y.length by simp_all);rw[W];show AHU _ (B i _ _ J W).2
theorem vY{ks:List AF}(e:ks[i]?=AA z):EU g (ks.take (i+1))=EU g (ks.take i)++(g z).map λp=>(z,p):=by unfold EU;rw[DH,e];simp
def sO(E:CA):BF:=λG H Q _=>(UJ λ(C:List AE)(x p d:AE)(A:AU)(g:AF->List AV)(D:List (AL×AB))(Y:Option Int)=>LS (G=[.ref x,Nm Y]) (Dl E C H x p d A g D) ((∀c∈C,∃o,H c=AA o)) (A.dw) (A.so∈G6) (D.length<=1000) ((∀k,(g k).length<=10000)) (∀Z r F W J B,Bj d H Z->Dl E (r::C) Z x p d A (λU=>GJ Y (g U)) J->H r=AG->Z r=AA (.lst F)->Cq Z F W->W.Perm ((EU (λU=>GH Y (g U)) B).map (Nq A))->(W.map Yl).Pairwise (λa b=>BK b a=AQ)->B.Nodup->(∀k,g k≠[]->k∈B)->J.length<=D.length->B.length=D.length->Q (.ref r) Z))
theorem nH(T:BM AH AZ AM):T.ju.Ok BE P w AZ base 4 (sO AM):=by
  show T.ju.ok λnd _ _ _ _ _ I H vs Q E h=>?_;obtain⟨ex,x,p,d,X,g,C,U,rfl,gr,hex,ok,hso,lk,lg,k⟩:_:=h;show⟨_,(EN (BN 2 nd (CM Fx)) (EN (D3 D7 rfl (DQ (K:=AH) (EF (Zr (K:=AH) rfl) (by rfl) T.gu MC #v[Bs (AD 0) rfl])) (D2 3 nd) (Af (AAL (Dr (GO (K:=AH) MG Od Qk My (AD 2) #v[(HR (Cy Y2) [("key",3),("self",0)] ⟨rfl,rfl,rfl,rfl,trivial⟩ (DQ (K:=AH) (Hk (AD 0) T.ba (pF T) I #v[AD 3,AD 1])) (λ_ _ _ _=>Fy) (λ_ _ _ _=>(BC (pB T) I #v[AAB (K:=AH) (AD 2) rfl,AD 1,AD 0])))]))))) (Af (BD (qB (oN T) I T.ik Tf (AD 2)))))),?_⟩;have sz:As=16777216:=CL;showλ_ _ _ _ z1=>⟨Bm _,λl hl=>z1 _ _ ?_⟩;show Ao (o:=.lst []) hl λH1 s1 el=>?_;have gr1:=(gr.ic hl).ak s1;obtain⟨dx1,eo1⟩:=gr1.bb;showλ_ _ _ _ z2=>⟨_,⟨eo1,T.ba,T.bu,rfl⟩,d,C,rfl,gr1.ao.aj,λls hls=>?_⟩;lk;obtain⟨W,f⟩:∃W:List AF,(C.map λp=>Az p.1)=W.map AB.str:=by show⟨C.map λq=>match q.1 with|.inr i=>i|.inl _=>"",?_⟩;rw[Cz];show OS λq hq=>?_;obtain⟨z,r,xs,rfl,_⟩:=gr.ao.qc q hq;rfl
  k_in;have ekk:C.map (·.1)=W.map (Br:AF->AL):=by
    have h1:∀q∈C,∃z,q.1=.inr z:=λq hq=>by obtain⟨z,r,xs,rfl,_⟩:=gr.ao.qc q hq;show⟨z,rfl⟩
    have h2:(C.map λp=>Az p.1).map (λv=>match v with|.str z=>(Br z:AL)|_=>.inl 0)=C.map (·.1):=by rw[Cz];show OS λq hq=>?_;obtain⟨z,e⟩:=h1 q hq;change(match Az q.1 with|.str z=>(Br z:AL)|_=>.inl 0)=q.1;rw[e];rfl
    rw[<-h2,f,Cz];rfl
  have kn:W.Nodup:=by have h:=gr.ao.nd;rw[ekk,List.Nodup,Eh]at h;show h.imp λh e=>h (by rw[e])
  have km:∀z,g z≠[]->z∈W:=λz ne=>by have h:=gr.ao.nj z ne;rw[ekk]at h;obtain⟨y,hy,e⟩:=Ax.mp h;rw[<-GS e];show hy
  have lke:W.length=C.length:=by have:=AHU LF f;rw[Au,Au]at this;show this.symm
  have lks:W.length<=1000:=by have:=AHU LF f;rw[Au,Au]at this;show Ag (Bq lke) lk
  rw[f];show Ao (o:=.lst (W.map AB.str)) hls λH2 s2 m=>?_;have nll:ls≠l:=λz=>by rw[z,el]at hls;cases hls
  have gr2:=gr1.ak s2;have nld:ls≠d:=λz=>by rw[z,gr2.ao.aj]at m;cases m
  have exs:∀{F:AI},Bj d H F->(∀{kv g':_},Dl AM (l::ex) F x p d X g' kv->(∃Y,F l=AA (.lst Y))->∀c∈l::ex,∃o,F c=AA o):=λ{F}sx{kv g'}gr' el' c hc=>by
    rcases BY.mp hc with rfl|hc;. obtain⟨Y,e⟩:=el';show⟨_,e⟩
    . obtain⟨o,eo⟩:=hex c hc;by_cases q:c=d;.rw[q];show⟨_,gr'.ao.aj⟩
      .show⟨_,sx c o q eo⟩
  show⟨ls,rfl,⟨_,AW m⟩,HK (K:=AH) (xs:=W.map AB.str) (λi σ F=>(El λ(o3:Option AB)(Y:List AB)(A:List (AL×AB))=>LU (σ=[AA (.ref x),AA (Nm U),AA (.ref l),o3]) (Bj d H F) (F ls=AA (.lst (W.map AB.str))) (Dl AM (l::ex) F x p d X (λJ=>if J∈W.take i then GJ U (g J)else g J) A) (F l=AA (.lst Y)) (Cq F Y ((EU (λJ=>GH U (g J)) (W.take i)).map (Nq X))) (A.length<=C.length) (Y.length<=10000*i) (∀z,z∉W.take i->z∈W->(.inr z:AL)∈A.map (·.1)))) ⟨AG,[],C,rfl,(s1.aa s2).x d,m,?_,s2 _ _ el,KO _,Ai _,Bm _,λz _ hz=>by rw[ekk];show Ax.mpr ⟨z,hz,rfl⟩⟩ (λi σ F _ hh=>by obtain⟨_,_,_,_,_,e,_⟩:=hh;show AW e) ?_ ?_⟩
  . have e:(λJ=>if J∈W.take 0 then GJ U (g J)else g J)=g:=by funext J;show AHS (by simp)
    rw[e];show gr2
  . intro i y σ H3 hy hI;lk;obtain⟨o3,Y,A,rfl,R,els3,B,G,L,lk3,la3,kin⟩:=hI;rw[Bo]at hy;obtain⟨z,hz,rfl⟩:=EK.mp hy;have hi:i<W.length:=(BU.mp hz).1;have zn:z∉W.take i:=λhm=>by obtain⟨j,hj,e⟩:=Gz.mp hm;rw[EH]at hj;rw[TQ]at e;obtain⟨h2,g2⟩:=BU.mp hz;show(Ig.mp kn) j i (Bl hj (WW _ _)) h2 (AHd hj (eP (Bz hi))) (e.trans g2.symm)
    have gz:(if z∈W.take i then GJ U (g z)else g z)=g z:=AHS zn;obtain⟨dx3,eo3⟩:=B.bb;k_in;have lgz:=lg z;showλ_ _ _ _ z3=>⟨.inl ⟨rfl,_,AW G⟩,x,dx3,_,rfl,eo3,by rfl,l::ex,x,p,d,X,z,_,A,U,rfl,B,exs R B ⟨_,G⟩,kin z zn (Cp hz),Ag (Bq (AHU LF gz)) lgz,Ag lk3 lk,λH4 r xs kvs4 sx4 s er4 hw4 l4 kk4=>⟨r,rfl,⟨_,AW er4⟩,?_⟩⟩;simp only[gz]at s hw4;have eg:JG (λJ=>if J∈W.take i then GJ U (g J)else g J) z (GJ U (g z))=λJ=>if J∈W.take (i+1)then GJ U (g J)else g J:=by
      funext J;have tm:J∈W.take (i+1)↔J∈W.take i\/J=z:=by rw[DH,hz];simp
      by_cases e:J=z;.rw[e,Np,AHT (by rw[<-e,tm];show .inr e)]
      . rw[Ko e];by_cases q:J∈W.take i;.rw[AHT q,AHT (tm.mpr (.inl q))]
        .rw[AHS q,AHS (λh=>(tm.mp h).elim q e)]
    rw[eg]at s;have nl3:l≠d:=λq=>by rw[q,B.ao.aj]at G;cases G
    have el4:=sx4 _ _ nl3 G;have els4:=sx4 _ _ nld els3;have hw34:=L.ab (sx4.tp B.ao.aj (by intro xs z;cases z));have lo:(GH U (g z)).length<=10000:=by cases U with|none=>show lgz|some n=>show Ag (Fh _ _) lgz
    have lx4:=hw4.bh;show JJ (K:=AH) (xs:=xs) (λj τ Z F=>(∃o,τ=[o,AA (.str z),AA (.ref x)])/\Aj H4 F/\Cq F Z (((GH U (g z)).take j).map λp=>Nq X (z,p))) (by lia) ⟨⟨AG,rfl⟩,DF _,KO _⟩ (λj τ Z F⟨_,s',_⟩=>AW (s' _ _ er4)) ?_ ?_
    . intro j y τ Z H5 R1 hy _ hI k1;lk;obtain⟨⟨o,rfl⟩,S,u⟩:=hI;obtain⟨pc,a,q,ep,rfl,ea,eq⟩:=hw4.ix hy;have gr5:=s.ak S;obtain⟨dx5,eo5⟩:=gr5.bb;k_in;show⟨_,⟨eo5,T.ba,T.ip,rfl⟩,p,a,X,z,pc,rfl,gr5.gh,ok,hso,⟨a,q,rfl,S _ _ ea,S _ _ eq⟩,λr' H7 s7 hr' er'=>k1 _ _ _ ⟨⟨_,rfl⟩,S.aa s7,?_⟩⟩;rw[DH,ep,CQ];show(u.ab s7.tp).iq er'
    . intro τ Z H5 la5 hI D hD;obtain⟨_,S,u⟩:_:=hI;rw[Dj (Bq lx4.symm)]at u;show Ao (o:=.lst Z) hD λH6 s6 eD=>?_;have N:=S.aa s6;have el6:=N _ _ el4;show⟨l,D,_,_,rfl,rfl,el6,eD,by lia,?_⟩;have tp6:B7 H6 (AR H6 l (.lst (Y++Z))):=(KD H6).dz el6 λxs=>by intro z;cases z
      show z3 _ _ ⟨_,Y++Z,kvs4,rfl,λb o nb e=>?_,by rw[Aa nll];show N _ _ els4,(s.ak N).uj el6 (.head _),Ak,?_,Ag l4 lk3,by rw[Ba];lia,λz' hz' hk'=>?_⟩
      . rw[Aa (λq=>by rw[q,hl]at e;cases e)];show N _ _ (sx4 b o nb (R b o nb e))
      . rw[vY hz,CQ,Cz];show Cq.ab (EE (hw34.ab N.tp) (u.ab s6.tp)) tp6
      . rw[DH,hz]at hz';show kk4 _ (λq=>hz' (EO _ (by rw[GS q];show .head _))) (kin z' (λq=>hz' (Ic _ q)) hk')
  . intro σ H3 hI;obtain⟨o3,Y,A,rfl,R,els3,B,G,L,lk3,la3,kin⟩:_:=hI;rw[Au,Dj (Ai _)]at B L;have eg:(λJ=>if J∈W then GJ U (g J)else g J)=λJ=>GJ U (g J):=by
      funext J;by_cases q:J∈W;.show AHT q
      . rw[AHS q];have:g J=[]:=by cases e:g J with|nil=>rfl|cons a b=>show absurd (km J (by rw[e];simp)) q
        rw[this];cases U<;>rfl
    rw[eg]at B;have O:∀M∈(EU (λJ=>GH U (g J)) W).map (Nq X),∃kp,M=Nq X kp:=λM I=>by obtain⟨kp,_,rfl⟩:=Ax.mp I;show⟨kp,rfl⟩
    show z2 _ _ ⟨l,Y,((EU (λJ=>GH U (g J)) W).map (Nq X)).map Yl,rfl,AW G,⟨by simp[L.bh],⟨[AJ,AQ,AJ],by simp,λkk hk=>?_⟩,λi y kk H4 hy hk s4=>?_⟩,λr qs H4 s4 I pq sq=>?_⟩
    . lk;obtain⟨M,I,rfl⟩:=Ax.mp hk;obtain⟨kp,rfl⟩:=O M I;k_in;rfl
    . lk;obtain⟨a,M,rfl,er,ea⟩:=L.at hy;rw[Bo,er]at hk;have hk:=CD hk;obtain⟨kp,rfl⟩:=O M (Cp er);k_in;subst hk;show⟨a,X,kp.1,kp.2,rfl,s4 _ _ ea,λr I=>⟨C9 I,r,rfl,Aq Ak⟩⟩
    . obtain⟨R',p1,w1,e1⟩:_:=qY L pq;have t:H3 r=AG:=s4.az I;have nrd:r≠d:=λq=>by rw[q,B.ao.aj]at t;cases t
      have hrH:H r=AG:=by cases q:H r with|none=>rfl|some o=>rw[R r o nrd q]at t;cases t
      have S:=C9 (o:=.lst (qs.map (·.1))) I;show k _ r _ R' A W (λb o nb e=>S _ _ (s4 _ _ (R b o nb e))) (((B.jq.ak s4).ic I).ak S) hrH Ak ((w1.ab s4.tp).ab S.tp) p1 (by rw[e1];show sq) kn km lk3 lke
unseal EW in theorem qH{X:Bv}{st:Cc}:EW X st (λ_ _ _=>False):=λ_ _ _ _ _ _ h=>h.elim
noncomputable def HI(ss:List AU)(i:Nat):Bool:=match ss[i]? with|AA s=>s.cu|AG=>AQ
noncomputable def An(ss:List AU):List Nat:=(Ei ss.length).filter (HI ss)
def uY:BF:=λY H Q _=>(El λ(U:AE)(W:List AB)(J:List AU)=>FT (Y=[.ref U]) (H U=AA (.lst W)) (F9 H W J) (J.length<=100) (∀D r,Aj H D->H r=AG->D r=AA (.lst ((An J).map λi:Nat=>AB.int (i:Int)))->Q (.ref r) D))
theorem pH(T:BM AH AZ AM):T.ui.Ok BE P w AZ base 2 uY:=by
  show T.ui.ok λb _ _ _ _ _ N H g Q E h=>?_;obtain⟨O,S,W,rfl,Z,B,X,k⟩:_:=h;show⟨_,(Af (BD (z9 (osc:=Cy Y7) [] rfl (QM (by rfl) T.fi (AD 0)) rfl rfl (by decide+kernel) (by decide+kernel) (by decide+kernel) trivial rfl rfl (by decide+kernel) (λ_ _ _ _=>M6 (Fg (BC (YZ T) N #v[AD 1]))) (λ_ _ _ _=>(AD 0))))),?_⟩;have f:=CL;have Y:=B.bh;show⟨O,rfl,⟨_,AW Z⟩,xF (λi _=>HI W i) _ (by lia) (λJ s1=>AW (s1 _ _ Z)) (λi x p c d J R _ _ e q=>⟨p,_,rfl,Aq e,rfl,_,_,rfl,_,_,rfl,rfl,q⟩) (λi x J R C s1 q=>?_) (λi x J R C _ s1 q=>q _ (DF _)) λJ s1 D A=>?_⟩
  . obtain⟨a,F,rfl,L,G⟩:_:=B.at C;have I:HI W i=F.cu:=by unfold HI;rw[L]
    rw[I]at q;show⟨a,F,rfl,s1 _ _ G,_,rfl,q J (DF _)⟩
  . show k _ D (s1.dz A) (s1.az A) ?_;rw[Ak];congr 2;unfold An;rw[<-Y];have:∀(n:Nat)(U:List AB),U.length=n->((OW _ U).filter λq=>HI W q.1).map _=((Ei n).filter (HI W)).map λi:Nat=>AB.int (i:Int):=λn U e=>by
      have M:(Ei n)=(OW _ U).map AB0:=(List.map_fst_zip (by rw[WL];show Bq e.symm)).symm;conv=>rhs;rw[M]
      rw[ABZ,Cz];rfl
    show this _ S rfl
def vE:BF:=λD H Q _=>∃i:Int,D=[.int i]/\Q (.bl AJ) H
theorem Uz(T:BM AH AZ AM):T.ql.Ok BE P w AZ base 1 vE:=by show T.ql.ok λJ _ _ _ _ _ D H U Q E h=>?_;obtain⟨i,rfl,k⟩:_:=h;show⟨_,(Af (BD (Jk (CW (N6) (by rfl) T.dh Te #v[AD 0,(OI (v:=.ty _) (by rfl) T.aan AEX rfl)]) (OJ (AAD (CW (N6) (by rfl) T.dh Te #v[AD 0,(OI (v:=.ty _) (by rfl) T.aba AGW rfl)])))))),?_⟩;show⟨_,_,_,_,rfl,.int i,rfl,_,rfl,GL ⟨_,_,_,_,rfl,.int i,rfl,_,rfl,k⟩⟩
def r9:BF:=λD H Q _=>∃i a b:Int,D=[.int i,.int a,.int b]/\a<=i/\i<=b/\Q (.bl AJ) H
theorem YW(T:BM AH AZ AM):T.qk.Ok BE P w AZ base 2 r9:=by show T.qk.ok λV _ _ _ _ _ U H W Q E h=>?_;obtain⟨i,a,b,rfl,D,J,k⟩:_:=h;show⟨_,(Af (BD (Jk (BC (Uz T) U #v[AD 0]) (OJ (bK M3 M3 (AD 1) (AD 0) (AD 2)))))),?_⟩;show⟨i,rfl,_,rfl,GL ?_⟩;show⟨_,rfl,Hx (λe=>?_) λe=>absurd D e⟩;change Q (.bl _) H;rw[AHV J];show k
noncomputable abbrev E2(s n k:Int):List (AF×AB):=[("slack",.int s),("now",.int n),("count",.int k)]
def sI(D:CA):BF:=λU H Q _=>(El λ(x J:AE)(s:Int)=>FT (U=[.ref x,.int s]) (H x=AA (.ins D.aq J [])) (0<=s) (s<=1000000000) (Q .non (AR H x (.ins D.aq J (E2 s 0 0)))))
theorem nF(T:BM AH AZ AM):T.gv.Ok BE P w AZ base 3 (sI AM):=by show T.gv.ok λZ _ _ _ _ _ V H A Q E h=>?_;lk;obtain⟨x,U,z,rfl,e,W,Y,k⟩:=h;obtain⟨J,D⟩:=T.ur;k_in;show⟨_,(Ah (CP (Jn (Fg (BC (YW T) V #v[AD 1,AN,(K7 (v:=.int _) (by rfl) D ⟨_,rfl⟩)]))) (Af qH) Cg) (Ah (Fs (AD 0) (AD 1) rfl) (Ah (Fs (AD 0) AN rfl) (Af (Fs (AD 0) AN rfl))))),?_⟩;show⟨z,0,_,rfl,W,Y,_,rfl,HM ?_⟩;show⟨x,_,U,_,rfl,e,T.aw,T.kc,by decide,?_⟩;show⟨x,_,U,_,rfl,Ak,T.aw,T.bp,by change 1<1000;decide,?_⟩;show⟨x,_,U,_,rfl,Ak,T.aw,T.cn,by change 2<1000;decide,?_⟩;rw[QS,QS];show k
noncomputable def Gq(n s t:Int):Int:=if t<n then n else JC n (t-s)
def rZ(D:CA):BF:=λU H Q _=>(JT λ(x J:AE)(t s n k:Int)=>RF (U=[.ref x,.int t]) (H x=AA (.ins D.aq J (E2 s n k))) (Q (.bl (Ab (n<=t))) (AR H x (.ins D.aq J (E2 s (Gq n s t) (k+1))))))
theorem nE(T:BM AH AZ AM):T.js.Ok BE P w AZ base 1 (rZ AM):=by
 show T.js.ok λU _ _ _ _ _ J H V Q E h=>?_;obtain⟨x,D,t,z,n,c,rfl,e,k⟩:_:=h;show⟨_,(Ah (Fs (AD 0) (Ac Et (Bs (AD 0) rfl) AN) rfl) (Ah (CP (Bu OF (AD 1) (Bs (AD 0) rfl) (Bt _)) (Af (BD K6)) Cg) (Ah (Fs (AD 0) (CW (SO rfl) (by rfl) T.wj Wc #v[Bs (AD 0) rfl,Ac Hz (AD 1) (Bs (AD 0) rfl)]) rfl) (Af (BD K6))))),?_⟩;show⟨_,⟨e,T.aw,T.cn,rfl⟩,x,_,D,_,rfl,e,T.aw,T.cn,by change 3<1000;decide,?_⟩;show⟨_,⟨Ak,T.aw,T.bp,rfl⟩,_,rfl,Jh (λq=>?_) λq=>?_⟩
 . have q:t<n:=AHX q;unfold Gq at k;rw[AHT q,AHW (by simp_all)]at k;show k
 . have q:¬t<n:=AHc q;unfold Gq at k;rw[AHS q,AHV (by simp_all)]at k;show⟨_,⟨Ak,T.aw,T.bp,rfl⟩,_,⟨Ak,T.aw,T.kc,rfl⟩,?_⟩;show⟨x,_,D,E2 z n (c+1),rfl,Ak,T.aw,T.bp,by change 3<1000;decide,?_⟩;rw[QS];show k
theorem Ks{l:List U}(h:(l.take n)[i]?=AA x):i<n/\l[i]?=AA x:=by have D:=(BU.mp h).1;rw[EH]at D;have J:=Bl D (LJ _ _);rw[dX J]at h;show⟨J,h⟩
theorem Rw{l:List D}(J:i<n)(h:l[i]?=AA x):(l.take n)[i]?=AA x:=by rw[dX J];show h
theorem Mb(h:C7 (ss.take n) i):i<n/\C7 ss i:=by lk;obtain⟨m,a,b,D,e⟩:=h;obtain⟨l,e⟩:=Ks e;k_in;show⟨l,m,a,b,D,e⟩
theorem X0(D:i<n)(h:C7 ss i):C7 (ss.take n) i:=by obtain⟨m,a,b,J,e⟩:_:=h;show⟨m,a,b,J,Rw D e⟩
theorem Cf.vw(h:Cf AM ex H ss Y D U sd)(J:Dy ss U b):∃kvs,H b=AA (.dK kvs):=by
 lk;obtain⟨i,⟨n,a,W,C,B⟩,J⟩:=J;obtain⟨⟨E,Z⟩,F,A⟩:=(h.dq i n a W C B).2.vw;k_in;rcases J with rfl|rfl;.show⟨_,Z⟩
 .show⟨_,A⟩
theorem Cf.zt{ss:List AU}(h:Cf AM ex H (ss.take n) A D C λ_=>([],[]))(O:H A=AA (.dK D))(w:ss[n]?=AA (.join m a b wi))(s:Aj H Z)(M:H E=AG)(N:H F=AG)(jr:DD AM ex Z j k p r E F wi [] []):Cf AM ex (AR Z A (.dK (Bk D (.inl (n:Int)) (.ref j)))) (ss.take (n+1)) A (Bk D (.inl (n:Int)) (.ref j)) (λi=>if i=n then⟨j,k,p,r,E,F⟩else C i) λ_=>([],[]):=by
  have l:DZ _ Z (AR Z A (.dK (Bk D (.inl (n)) (.ref j)))):=zzu
  have T:∀b,b=A->(b∈ex/\∃xs,Z b=AA (.lst xs))\/∃P,Z b=AA (.dK P):=λb x=>.inr ⟨D,by rw[x];show s _ _ O⟩;have c:=(Bh O M).symm;have d:=(Bh O N).symm;have J:∀{i:Nat},C7 _ i->i≠n->C7 (ss.take n) i:=λ{i}U y=>X0 (by have:=(Mb U).1;show DT (Ej this) y) (Mb U).2;have S:∀{i:Nat},C7 _ i->(E≠(C i).d0/\E≠(C i).d1)/\F≠(C i).d0/\F≠(C i).d1:=λ{i}U=>by obtain⟨k0,Q⟩:=h.vw ⟨i,U,.inl rfl⟩;obtain⟨k1,R⟩:=h.vw ⟨i,U,.inr rfl⟩;show⟨⟨(Bh Q M).symm,(Bh R M).symm⟩,(Bh Q N).symm,(Bh R N).symm⟩
  show⟨.inl Ak,λi n' t u wi' L=>?_,λi X U I K=>?_,λi U=>?_⟩
  . by_cases Y:i=n
    . subst Y;have e:=(Ks L).2;rw[w]at e;cases e;rw[AHT rfl];show⟨by rw[Jr,AHT rfl],jr.cy l T c d⟩
    . rw[AHS Y];have G:=Rw (by have:=(Ks L).1;show DT (Ej this) Y) (Ks L).2;obtain⟨v,q⟩:=h.dq i n' t u _ G;have g:=h.ve i ⟨_,_,_,_,G⟩;show⟨by rw[Jr,AHS (λz=>Y (by lia))];show v,(q.ak s).cy l T g.1.symm g.2.symm⟩
  . by_cases W:i=n
    . subst W;have B:=Gk K;rw[AHT rfl,AHS B];have f:=S (J I B);show⟨⟨f.1.1.symm,f.2.1.symm⟩,f.1.2.symm,f.2.2.symm⟩
    . by_cases B:X=n
      . subst B;rw[AHS W,AHT rfl];show S (J U W)
      . rw[AHS W,AHS B];show h.bo i X (J U W) (J I B) K
  . by_cases W:i=n
    . subst W;rw[AHT rfl];show⟨c.symm,d.symm⟩
    . rw[AHS W];show h.ve i (J U W)
theorem Cf.aaw{ss:List AU}(h:Cf AM ex H (ss.take n) Z J C sd)(G:ss[n]?=AA s)(I:s.no≠4):Cf AM ex H (ss.take (n+1)) Z J C sd:=by
 have D:∀{i:Nat},C7 _ i->C7 (ss.take n) i:=λ{i}U=>by
  obtain⟨m,a,b,W,e⟩:=U;obtain⟨l,F⟩:=Ks e;clear e;have e:=F;show⟨m,a,b,W,Rw ?_ e⟩;by_cases q:i=n
  . subst q;rw[G]at e;cases e;show absurd rfl I
  .show DT (Ej l) q
 show⟨h.aj,λi E a b W B=>?_,λi K U Y=>h.bo i K (D U) (D Y),λi U=>h.ve i (D U)⟩;lk;obtain⟨O,M,N,L,A⟩:=D ⟨E,a,b,W,B⟩;have q:=(Ks B).2;rw[(Ks A).2]at q;cases q;k_in;show h.dq i E a b W A
noncomputable def IP(ss:List AU)(i:Nat):Bool:=match ss[i]? with|AA s=>Ab (s.no=4)|AG=>AQ
theorem RT:IP ss i=AJ↔C7 ss i:=by unfold IP C7;cases ss[i]? with |none=>exact⟨λh=>(by cases h),λ⟨_,_,_,_,h⟩=>(by cases h)⟩|some s=>
 constructor
 . intro h;have h:s.no=4:=AHX h;cases s<;>first|exact⟨_,_,_,_,rfl⟩|cases h
 . intro⟨_,_,_,_,h⟩;cases h;rfl
structure JV(ss:List AU)(n:Nat)(jd:Nat->DS)(jkvs:List (AL×AB)):Prop where
 yz:∀p∈jkvs,∃i:Nat,i<n/\C7 ss i/\p=(.inl (i:Int),.ref (jd i).j)nd:(jkvs.map (·.1)).Nodup
 aau:jkvs.map (·.1)=((Ei n).filter (IP ss)).map λi=>.inl (i:Int)
theorem JV.aaw(h:JV ss n J D)(U:ss[n]?=AA s)(W:s.no≠4):JV ss (n+1) J D:=⟨λp Y=>by obtain⟨i,l,q,e⟩:_:=h.yz p Y;show⟨i,ABn l,q,e⟩,h.nd,by rw[TU,F0,TH (by unfold IP;rw[U];simpa using W),List.filter_nil,D4];show h.aau⟩
theorem JV.zt(h:JV ss n W D)(U:C7 ss n)(J:DS):JV ss (n+1) (λi=>if i=n then J else W i) (Bk D (.inl (n:Int)) (.ref J.j)):=by
  show⟨λp Z=>?_,OE h.nd,?_⟩
  . rcases Mx Z with rfl|⟨Y,_⟩;.show⟨n,by simp,U,by rw[AHT rfl]⟩
    . obtain⟨i,l,q,e⟩:_:=h.yz p Y;show⟨i,by lia,q,by rw[AHS (Dv l)];show e⟩
  . have e:BZ D (.inl (n:Int))=AG:=by cases q:BZ D (.inl (n:Int))with|none=>rfl|some v=> obtain⟨i,l,_,e⟩:=h.yz _ (Gy q);have:=Iq (Tc e).1;omega
    rw[bX _ e,CQ,h.aau,TU,F0,TJ (RT.mpr U),CQ];rfl
def tS(B:CA):BF:=λC H Q _=>(El λ(Z:AE)(A:List AB)(J:List AU)=>FT (C=[.ref Z]) (H Z=AA (.lst A)) (F9 H A J) (J.length<=20) (∀U W D Y,Aj H U->H W=AG->U W=AA (.dK D)->JV J J.length Y D->Cf B [] U J W D Y (λ_=>([],[]))->(∀b,Dy J Y b->H b=AG)->Q (.ref W) U))
theorem oA(T:BM AH AZ AM):T.qm.Ok BE P w AZ base 5 (tS AM):=by
  show T.qm.ok λnd _ _ _ _ _ hr H vs Q E h=>?_;obtain⟨lp,ps,u,rfl,S,pr,lss,k⟩:_:=h;show⟨_,(Ah (BN 1 nd QL) (Ah (D3 D7 rfl (QM (K:=AH) (by rfl) T.fi (AD 0)) (Nn rfl (IA (D2 2 nd) (IA (D2 3 nd) M4))) (Af (CP (Bu ED (BA AH (AD 3) AN) Bi (Bt _)) (Af (M5 hr.u1 (AD 1) (AD 2) (Pa (n8 T) hr T.aad KJ #v[BA AH (AD 3) AN]) rfl)) Cg))) (Af (BD (AD 1))))),?_⟩;have sz:As=16777216:=CL;have lps:=pr.bh;intro O G;show Ao (o:=.dK []) G λH0 g0 R=>?_;show⟨lp,rfl,⟨_,AW (g0 _ _ S)⟩,SR (K:=AH) (xs:=ps) (λn v t=>(JS λ(o3 o4:Option AB)(D:List (AL×AB))(I:Nat->DS)=>JQ (v=[AA (.ref lp),AA (.ref O),o3,o4]) (Aj H t) (t O=AA (.dK D)) (D.length<=n) (JV u n I D) (Cf AM [] t (u.take n) O D I (λ_=>([],[]))) (∀b,Dy (u.take n) I b->H b=AG))) ⟨AG,AG,[],λ_=>⟨0,0,0,0,0,0⟩,rfl,g0,R,Ai _,⟨λp hp=>(by cases hp),.nil,rfl⟩,⟨.inl R,λi n a b N e=>(by cases(Ks e).1),λi i' B=>(by cases(Mb B).1),λi B=>(by cases(Mb B).1)⟩,λb⟨i,B,_⟩=>(by cases(Mb B).1)⟩ (λn v t _ hh=>by obtain⟨_,_,_,_,_,s',_⟩:=hh;show AW (s' _ _ S)) ?_ ?_⟩
  . intro n x v H1 p hx hI hp;lk;obtain⟨o3,o4,D,I,rfl,s1,C,L,U,W,J⟩:=hI;obtain⟨b,st,rfl,M,eb⟩:=pr.at hx;k_in;show Ao (o:=.tup [.int (n:Int),.ref b]) hp λH2 g2 ep=>?_;show⟨p,_,rfl,Aq ep,rfl,_,_,rfl,_,_,rfl,rfl,?_⟩;have s2:=s1.aa g2;have eb2:Ed H2 b st:=s2 _ _ eb;have r:=W.ak g2;have F:=g2 _ _ C;obtain⟨e0,e1,_⟩:_:=eb2.gf;have hn:n<u.length:=(BU.mp M).1;show⟨_,_,e0,e1,rfl,_,rfl,Kk (i:=4) rfl (λs=>?_) λs=>⟨_,_,D,I,rfl,s2,F,Ii L,U.aaw M s,r.aaw M s,λy Y=>?_⟩⟩
    . lk;obtain⟨m,f,g,N,rfl⟩:∃m f g N,st=.join m f g N:=by cases st<;>first|show⟨_,_,_,_,rfl⟩|cases s
      k_in;show⟨_,_,e0,Ae (j:=4) rfl,λj z hj X hnj=>⟨[],j,z,N,rfl,Ak,(λc hc=>by cases hc),λHs sl x0 x1 d0 d1 sx Z A jr=>⟨rfl,?_⟩⟩⟩;have s3:Aj H2 Hs:=λb o e=>sx _ _ (Bh e hj) (by rw[Aa (Bh e hj),Aa (Bh e X)];show e);have Z:=Jd (Jd Z);have A:=Jd (Jd A);show⟨O,_,rfl,Nw (k:=.inl (n:Int)) (s3 _ _ F) (by lia),?_⟩;have lk:=U3 D (.inl (n:Int)) (.ref j);show⟨_,_,Bk D (.inl (n:Int)) (.ref j),_,rfl,(s2.aa s3).xc G,Ak,Ag lk (Jv.mpr L),U.zt ⟨_,_,_,_,M⟩ ⟨j,sl,x0,x1,d0,d1⟩,r.zt F M s3 Z A jr,λy d=>?_⟩;obtain⟨i,B,Y⟩:=d;by_cases q:i=n
      . subst q;dsimp only at Y;rw[AHT rfl]at Y;rcases Y with rfl|rfl;.show s2.az Z
        .show s2.az A
      . dsimp only at Y;rw[AHS q]at Y;show J y ⟨i,X0 (by have:=(Mb B).1;lia) (Mb B).2,Y⟩
    . lk;obtain⟨i,⟨m,a,c,N,e⟩,Y⟩:=Y;obtain⟨l,e2⟩:=Ks e;k_in;show J y ⟨i,⟨m,a,c,N,Rw ?_ e2⟩,Y⟩;by_cases q:i=n;. subst q;rw[M]at e2;cases e2;show absurd rfl s
      .lia
  . intro v H1 hI;obtain⟨o3,o4,D,I,rfl,s1,C,L,U,W,J⟩:_:=hI;rw[lps]at U W J;rw[LH]at W J;show k H1 O D I s1 G C U W J
structure Em where
 x:AE
 p:AE
 d:AE
section
variable{s:AU}
structure C4(ad:CA)(ex:List AE)(H:AI)(ss:List AU)(ts:List Nat)(dg:AE)(gkvs:List (AL×AB))(gd:Nat->Em)(gg:Nat->AF->List AV)(gk:Nat->List (AL×AB)):Prop where
 aj:GK H dg (.dK gkvs)ie:∀i∈ts,∃s,ss[i]?=AA s/\BZ gkvs (.inl (i:Int))=AA (.ref (gd i).x)/\Dl ad ex H (gd i).x (gd i).p (gd i).d s (gg i) (gk i)bo:∀i∈ts,∀i'∈ts,i≠i'->(gd i).d≠(gd i').d
 jm:∀i∈ts,dg≠(gd i).d
end
theorem Dl.cy{st:AU}(h:Dl AM ex H x p d st g kvs)(s:DZ q H H')(D:∀b,q b->(b∈ex/\∃xs,H b=AA (.lst xs))\/∃kvs,H b=AA (.dK kvs))(Y:¬q d):Dl AM ex H' x p d st g kvs:=by have J:B7 H H':=λb xs e=>s _ _ (λz=>by rcases D b z with⟨_,xs,y⟩|⟨kvs,y⟩<;>(rw[e]at y;cases y)) e;obtain⟨⟨U,e⟩,W,r⟩:_:=h;show⟨⟨U,s _ _ (λz=>by rcases D x z with⟨_,xs,y⟩|⟨kvs,y⟩<;>(rw[e]at y;cases y)) e⟩,W.tp J,r.ab (s _ _ Y r.aj) (λb xs n e=>s _ _ (λz=>by
 rcases D b z with⟨y,_⟩|⟨kvs,y⟩;.show n y
 .rw[e]at y;cases y) e) J⟩
theorem C4.ak(h:C4 AM ex H ss A J D U V W)(s:Aj H H'):C4 AM ex H' ss A J D U V W:=⟨Kp h.aj (s _),λi Y=>by obtain⟨Z,e,v,g⟩:_:=h.ie i Y;show⟨Z,e,v,g.ak s⟩,h.bo,h.jm⟩
theorem C4.ic(h:C4 AM ex H ss B J D U V W)(Z:H l=AG):C4 AM (l::ex) H ss B J D U V W:=⟨h.aj,λi Y=>by obtain⟨A,e,v,g⟩:_:=h.ie i Y;show⟨A,e,v,g.ic Z⟩,h.bo,h.jm⟩
theorem C4.jq(h:C4 AM (l::ex) H ss A J D U V W):C4 AM ex H ss A J D U V W:=⟨h.aj,λi Y=>by obtain⟨Z,e,v,g⟩:_:=h.ie i Y;show⟨Z,e,v,g.jq⟩,h.bo,h.jm⟩
theorem C4.cy(h:C4 AM ex H ss W J D U Y Z)(s:DZ q H H')(C:∀b,q b->(b∈ex/\∃xs,H b=AA (.lst xs))\/∃kvs,H b=AA (.dK kvs))(A:∀i∈W,¬q (U i).d)(B:¬q J):C4 AM ex H' ss W J D U Y Z:=⟨Kp h.aj λo=>s _ o B,λi V=>by obtain⟨E,e,v,g⟩:_:=h.ie i V;show⟨E,e,v,g.cy s C (A i V)⟩,h.bo,h.jm⟩
theorem C4.gh{st:AU}(h:C4 AM ex H ss B C J D F G)(hi:i∈B)(Y:ss[i]?=AA st)(s:Bj (D i).d H H')(r:Dl AM ex H' (D i).x (D i).p (D i).d st Z A):C4 AM ex H' ss B C J D (λk=>if k=i then Z else F k) (λk=>if k=i then A else G k):=by
 have K:∃L,H (D i).d=AA (.dK L):=by obtain⟨_,_,_,g⟩:=h.ie i hi;show⟨_,g.ao.aj⟩
 show⟨Kp h.aj λo=>s _ o (h.jm i hi),λk W=>?_,h.bo,h.jm⟩;by_cases q:k=i
 . subst q;lk;obtain⟨U,e,v,_⟩:=h.ie k W;rw[Y]at e;k_in;show⟨st,Y,v,by rw[AHT rfl,AHT rfl];show r⟩
 . obtain⟨U,e,v,g⟩:_:=h.ie k W;show⟨U,e,v,by rw[AHS q,AHS q];show g.cy (λb o M E=>s b o M E) (λb I=>.inr (by rw[I];show K)) (h.bo k W i hi q)⟩
theorem C4.vy{K:Nat->List (AL×AB)}(h:C4 AM ex H ss O V D G I K)(e:GK H' V (.dK D))(A:∀b,b≠V->H' b=H b):C4 AM ex H' ss O V D G I K:=by
 have W:∀{b:AE}{U:Bw},H b=AA U->(∀o u,U≠.frz o u)->(∀u,U≠.dK u)->H' b=AA U:=λ{b U}J M L=>by
  rw[A b λz=>by
   rw[z]at J;rcases h.aj with Y|⟨Q,Y⟩<;>rw[Y]at J;.show L _ (CD J).symm
   .show M _ _ (CD J).symm];show J
 have B:B7 H H':=λb P J=>W J (by intro o u z;cases z) (by intro u z;cases z);show⟨e,λi Z=>?_,h.bo,h.jm⟩;obtain⟨N,e,v,⟨C,E⟩,F,r⟩:_:=h.ie i Z;show⟨N,e,v,⟨C,W E (by intro o u z;cases z) (by intro u z;cases z)⟩,F.tp B,r.ab (by rw[A _ (h.jm i Z).symm];show r.aj) (λb P _ e=>W e (by intro o u z;cases z) (by intro u z;cases z)) B⟩
structure JU(ts:List Nat)(gd:Nat->Em)(gkvs:List (AL×AB)):Prop where
 yz:∀p∈gkvs,∃i∈ts,p=(.inl (i:Int),.ref (gd i).x)nd:(gkvs.map (·.1)).Nodup
 aau:gkvs.map (·.1)=ts.map λi=>.inl (i:Int)
theorem Hm:i∈An ss↔∃s,ss[i]?=AA s/\s.cu=AJ:=by
 unfold An HI;rw[EJ,OT];constructor
 . rintro⟨h,q⟩;rw[CG h]at q;show⟨_,CG h,q⟩
 . intro D;obtain⟨s,e,q⟩:_:=D;show⟨(BU.mp e).1,by rw[e];show q⟩
theorem ZL(ss:List AU):(An ss).Nodup:=ABg.sublist QU
theorem YB(U:H x=AG)(J:H D=AG)(s:Bj x (AR (AR H D (.own x)) x (.ins C D [])) H'):Aj H H':=λb o e=>s b o (Bh e U) (by rw[Aa (Bh e U),Aa (Bh e J)];show e)
theorem PR(U:D≠x)(h:AR (AR H D (.own x)) x (.ins C D []) b=AG):H b=AG/\b≠x:=by
 have J:b≠x:=λz=>by rw[z,Ak]at h;cases h
 have V:b≠D:=λz=>by rw[z,Aa U,Ak]at h;cases h
 rw[Aa J,Aa V]at h;show⟨h,J⟩
theorem C4.zt{st:AU}(h:C4 AM [] H ss A B D G (λ_ _=>[]) (λ_=>[]))(O:H B=AA (.dK D))(T:ss[i]?=AA st)(K:i∉A)(s:Aj H Z)(M:H J.d=AG)(X:Dl AM [] Z J.x J.p J.d st (λ_=>[]) []):C4 AM [] (AR Z B (.dK (Bk D (.inl (i:Int)) (.ref J.x)))) ss (A++[i]) B (Bk D (.inl (i:Int)) (.ref J.x)) (λk=>if k=i then J else G k) (λ_ _=>[]) (λ_=>[]):=by
  have S:DZ _ Z (AR Z B (.dK (Bk D (.inl (i)) (.ref J.x)))):=zzu
  have P:∀b,b=B->(b∈([])/\∃j,Z b=AA (.lst j))\/∃I,Z b=AA (.dK I):=λb a=>.inr ⟨D,by rw[a];show s _ _ O⟩;have Q:=(Bh O M).symm;have W:∀{k:Nat},k∈A->k≠i:=λU z=>K (by rw[<-z];show U);have N:∀{k:Nat},k∈A->J.d≠(G k).d:=λ{k}U=>by obtain⟨_,_,_,g⟩:=h.ie k U;show(Bh g.ao.aj M).symm
  have Y:∀{k:Nat},k∈A++[i]->k∈A\/k=i:=λU=>(C1.mp U).imp id Bc.mp;show⟨.inl Ak,λk U=>?_,λk U c E R=>?_,λk U=>?_⟩
  . rcases Y U with U|rfl;. obtain⟨L,e,v,g⟩:_:=h.ie k U;rw[AHS (W U)];show⟨L,e,by rw[Jr,AHS (λz=>W U (by lia))];show v,(g.ak s).cy S P (h.jm k U).symm⟩
    . rw[AHT rfl];show⟨st,T,by rw[Jr,AHT rfl],X.cy S P Q⟩
  . rcases Y U with F|rfl
    . rcases Y E with C|rfl
      . rw[AHS (W F),AHS (W C)];show h.bo k F c C R
      . rw[AHS (W F),AHT rfl];show(N F).symm
    . rcases Y E with C|rfl
      . rw[AHT rfl,AHS (W C)];show N C
      .show absurd rfl R
  . rcases Y U with U|rfl;. rw[AHS (W U)];show h.jm k U
    . rw[AHT rfl];show Q.symm
theorem JU.zt(h:JU Y Z D)(U:i∉Y)(J:Em):JU (Y++[i]) (λk=>if k=i then J else Z k) (Bk D (.inl (i:Int)) (.ref J.x)):=by
  show⟨λp B=>?_,OE h.nd,?_⟩
  . rcases Mx B with rfl|⟨A,_⟩;.show⟨i,EO _ (.head _),by rw[AHT rfl]⟩
    . obtain⟨k,W,e⟩:_:=h.yz p A;show⟨k,Ic _ W,by rw[AHS (λz=>U (by rw[<-z];show W))];show e⟩
  . have e:BZ D (.inl (i:Int))=AG:=by cases q:BZ D (.inl (i:Int))with |none=>rfl|some v=> obtain⟨k,W,e⟩:=h.yz _ (Gy q);have:=Iq (Tc e).1;exact absurd (by rw[NX.mp this];show W) U
    rw[bX _ e,CQ,h.aau,CQ];rfl
def tL(B:CA):BF:=λC H Q _=>(El λ(Z:AE)(A:List AB)(J:List AU)=>FT (C=[.ref Z]) (H Z=AA (.lst A)) (F9 H A J) (J.length<=20) (∀U W D Y,Aj H U->H W=AG->U W=AA (.dK D)->D.length<=J.length->JU (An J) Y D->C4 B [] U J (An J) W D Y (λ_ _=>[]) (λ_=>[])->(∀i∈An J,H (Y i).d=AG)->Q (.ref W) U))
theorem nV(T:BM AH AZ AM):T.oj.Ok BE P w AZ base 3 (tL AM):=by
  show T.oj.ok λnd _ _ _ _ _ hr H vs Q E h=>?_;obtain⟨lp,ps,Y,rfl,c,pr,lss,k⟩:_:=h;show⟨_,(Ah (BN 1 nd QL) (Ah (D3 D7 rfl (DQ (K:=AH) (BC (pH T) hr #v[AD 0])) (D2 2 nd) (Af (M5 hr.u1 (AD 1) (AD 2) (Pa (nT T) hr T.zh KJ #v[By AH (AD 0) (AD 2)]) rfl))) (Af (BD (AD 1))))),?_⟩;have sz:As=16777216:=CL;have lps:=pr.bh;intro O N;show Ao (o:=.dK []) N λH0 u X=>?_;show⟨lp,ps,Y,rfl,u _ _ c,pr.ab u.tp,Ag lss (by decide),λH1 lt s1 hlt f=>?_⟩;have lts:(An Y).length<=Y.length:=Ag (Fh _ _) (by rw[WL];show Ai _);show⟨lt,rfl,⟨_,AW f⟩,HK (K:=AH) (xs:=(An Y).map λi:Nat=>AB.int (i:Int)) (λn r R=>(El λ(o2:Option AB)(D:List (AL×AB))(L:Nat->Em)=>LS (r=[AA (.ref lp),AA (.ref O),o2]) (Aj H R) (R lt=AA (.lst ((An Y).map λi:Nat=>AB.int (i:Int)))) (R O=AA (.dK D)) (D.length<=n) (JU ((An Y).take n) L D) (C4 AM [] R Y ((An Y).take n) O D L (λ_ _=>[]) (λ_=>[])) (∀i∈(An Y).take n,H (L i).d=AG))) ⟨AG,[],λ_=>⟨0,0,0⟩,rfl,u.aa s1,f,s1 _ _ X,Ai _,⟨λp hp=>(by cases hp),.nil,rfl⟩,⟨.inl (s1 _ _ X),λi Z=>(by cases Z),λi Z=>(by cases Z),λi Z=>(by cases Z)⟩,λi Z=>(by cases Z)⟩ (λn r R _ hh=>by obtain⟨_,_,_,_,_,e,_⟩:=hh;show AW e) ?_ ?_⟩
  . intro n y r I hy v;lk;obtain⟨o2,D,L,rfl,s2,W,A,G,C,F,B⟩:=v;rw[Bo]at hy;obtain⟨i,Z,rfl⟩:=EK.mp hy;obtain⟨st,s,ht⟩:=Hm.mp (Cp Z);obtain⟨a,ea,eq⟩:∃a,ps[i]?=AA (.ref a)/\Ed H a st:=by have t:=CG (show i<ps.length by rw[lps];show(BU.mp s).1);obtain⟨a,s',e1,e2,e3⟩:=pr.at t;rw[s]at e2;cases e2;rw[e1]at t;show⟨a,t,e3⟩
    k_in;have hnt:n<(An Y).length:=(BU.mp Z).1;have m:i∉(An Y).take n:=λhm=>by obtain⟨j,hj,e⟩:=Gz.mp hm;rw[EH]at hj;rw[TQ]at e;obtain⟨h2,g2⟩:=BU.mp Z;show(Ig.mp (ZL Y)) j n (Bl hj (WW _ _)) h2 (AHd hj (eP (Bz hnt))) (e.trans g2.symm)
    show⟨_,_,AW (s2 _ _ c),Ae ea,λx U hx hdx hxn=>⟨x,U,a,rfl,Ak,λd hd=>⟨rfl,?_⟩⟩⟩;obtain⟨M,ndx⟩:=PR hxn hd;have s3:Aj I (AR (AR (AR (AR (AR I U (.own x)) x (.ins AM.ar U [])) x (.ins AM.ar U [("step",.ref a)])) d (.dK [])) x (.ins AM.ar U [("step",.ref a),("rows",.ref d)])):=λb o e=>by have n1:=Bh e hx;rw[Aa n1,Aa (Bh e M),Aa n1,Aa n1,Aa (Bh e hdx)];show e
    have g:(AR (AR (AR (AR (AR I U (.own x)) x (.ins AM.ar U [])) x (.ins AM.ar U [("step",.ref a)])) d (.dK [])) x (.ins AM.ar U [("step",.ref a),("rows",.ref d)])) x=AA (.ins AM.ar U [("step",.ref a),("rows",.ref d)]):=Ak;have S:(AR (AR (AR (AR (AR I U (.own x)) x (.ins AM.ar U [])) x (.ins AM.ar U [("step",.ref a)])) d (.dK [])) x (.ins AM.ar U [("step",.ref a),("rows",.ref d)])) d=AA (.dK []):=by rw[Aa ndx];show Ak
    generalize AR (AR (AR (AR (AR I U (.own x)) x (.ins AM.ar U [])) x (.ins AM.ar U [("step",.ref a)])) d (.dK [])) x (.ins AM.ar U [("step",.ref a),("rows",.ref d)])=H3 at s3 g S⊢;show⟨O,_,rfl,Nw (k:=.inl (i:Int)) (s3 _ _ A) (by lia),?_⟩;have lk:=U3 D (.inl (i:Int)) (.ref x);have tk:(An Y).take (n+1)=(An Y).take n++[i]:=by rw[DH,Z];rfl
    have nlt:lt≠O:=λz=>by rw[z,A]at W;cases W
    show⟨_,Bk D (.inl (i:Int)) (.ref x),λk=>if k=i then⟨x,a,d⟩else L k,rfl,(s2.aa s3).xc N,by rw[Aa nlt];show s3 _ _ W,Ak,Ag lk (Jv.mpr G),by rw[tk];show C.zt m ⟨x,a,d⟩,?_,λk' l=>?_⟩;. rw[tk];show F.zt (J:=⟨x,a,d⟩) A s m s3 M ⟨⟨U,g⟩,(s2.aa s3) _ _ eq,S,.nil,λq hq=>(by cases hq),λkey ne=>absurd rfl ne⟩
    . rw[tk]at l;dsimp only;by_cases q:k'=i
      . rw[AHT q];show s2.az M
      . rw[AHS q];show B k' ((C1.mp l).elim id λh=>absurd (Bc.mp h) q)
  . intro r I v;obtain⟨o2,D,L,rfl,s2,W,A,G,C,F,B⟩:_:=v;rw[Au]at G C F B;rw[Dj (Ai _)]at C F B;show k I O D L s2 N A (Ag G lts) C F B
noncomputable def FG(z:AF)(l:List AO):List Iy:=(l.filter λi=>Ab (i.2.1=z)).map λi=>(i.1,i.2.2)
theorem Yt(z:AF)(l m:List AO):FG z (l++m)=FG z l++FG z m:=by unfold FG;rw[F0,CQ]
theorem qG(p:l.Perm m):(FG z l).Perm (FG z m):=(p.filter _).map _
theorem qE(z:AF)(l:List AO):(FG z l).length<=l.length:=by unfold FG;rw[Au];show Fh _ _
theorem qF(h:x∈FG z l):∃i∈l,i.1=x.1:=by obtain⟨i,D,rfl⟩:_:=Ax.mp h;show⟨i,(EJ.mp D).1,rfl⟩
noncomputable def AU.fd:AU->AF|AU.gap _ a _ _|AU.each _ a _ _ _=>a|_=>""
noncomputable def FH(s:AU)(now:Int)(l:List AO)(z:AF):List AV:=JE now (Iz s (FG z l))
theorem rS(D:s.dw)(J:now<=x.1):JG (FH s now l) x.2.1 (s.ja x.1 x.2.2 (FH s now l x.2.1))=FH s now (l++[x]):=by
  funext z;by_cases q:z=x.2.1
  . have e:FG z [x]=[(x.1,x.2.2)]:=by change(WI _ _).map _=_;rw[TJ (by show AHV q.symm)];rfl
    unfold FH;rw[Yt,e,kB,(jR D (UU D) J).1,q,Np]
  . have e:FG z [x]=[]:=by change(WI _ _).map _=_;rw[TH (by rw[AHY];show Gk q)];rfl
    unfold FH;rw[Ko q,Yt,e,D4]
theorem VB{s:AU}(D:s.dw):s.gd (FH s now l z):=jQ (UU D) QU
theorem rR(D:s.dw)(p:l.Perm m):FH s now l=FH s now m:=by funext z;unfold FH;rw[j9 D (qG p)]
theorem PX[DecidableEq V]:∀{l m:List V},l.Nodup->(∀x∈l,x∈m)->l.length<=m.length|[],_,_,_=>Bm _|x::l,m,h,D=>by obtain⟨W,Y⟩:=Ie.mp h;have J:=D x (.head _);have:=PX (m:=m.erase x) Y λy U=>(List.mem_erase_of_ne (λe=>W (by rw[<-e];show U))).mpr (D y (.tail _ U));rw[List.length_erase_of_mem J]at this;have:=ABb J;change l.length+1<=m.length;lia
theorem RS{f:D->List U}:∀{l:List D},(∀x∈l,(f x).length<=n)->(l.flatMap f).length<=n*l.length|[],_=>Bm _|x::l,h=>by have V:=h x (.head _);have W:=RS λy J=>h y (.tail _ J);rw[Ew,Ba,Ex];lia
noncomputable def Nu(s:AU)(t:Int):List Int:=match s with|.each _ _ _ z d=>Hl t z d|_=>[t]
def Hd(l:List AO):Prop:=∃(D:List Int)(J:List AF),D.length<=600/\J.length<=600/\(∀t∈D,0<=t/\t<=1000000000)/\∀x∈l,x.1∈D/\x.2.1∈J
theorem Hd.tm(h:Hd l):∀x∈l,0<=x.1/\x.1<=1000000000:=λx J=>by obtain⟨V,U,_,_,D,h⟩:=h;show D _ (h x J).1
theorem Hd.aeh(h:Hd l)(s:∀x∈m,x∈l):Hd m:=by obtain⟨V,U,a,b,D,h⟩:=h;show⟨V,U,a,b,D,λx J=>h x (s x J)⟩
theorem Ux:∀{l:List AV}{p b:AV},b∈CJ p l->b.1=p.1\/∃c∈l,b.1=c.1
  |[],p,b,h=>.inl (by rw[Bc.mp h])|c::r,p,b,h=>by
    unfold CJ at h;split at h
    . rcases BY.mp h with rfl|h;.show .inr ⟨_,.head _,rfl⟩
      . rcases Ux h with h|⟨d,D,h⟩;.show .inl h
        .show .inr ⟨d,.tail _ D,h⟩
    . split at h
      . rcases BY.mp h with rfl|h;.show .inl rfl
        .show .inr ⟨b,h,rfl⟩
      . rcases Ux h with h|⟨d,D,h⟩
        . change b.1=DR c.1 p.1 at h;rcases jC c.1 p.1 with q|q;.show .inr ⟨c,.head _,by rw[h,jF q]⟩
          .show .inl (by rw[h,ADf q])
        .show .inr ⟨d,.tail _ D,h⟩
theorem qN(W:s.dw)(h:b∈s.ja t a l):(∃c∈l,b.1=c.1)\/b.1∈Nu s t:=by cases s with
  |each n x y z d=>
    have J:∀{D:List Int}{l:List AV},b∈D.foldl (λl s=>Bx s (s+z) (Hn a) l) l->(∃c∈l,b.1=c.1)\/b.1∈D:=λ{D}=>by induction D with |nil=>intro l h;show .inl ⟨b,h,rfl⟩|cons s D Y=>
        intro l h;rcases Y h with⟨c,V,e⟩|h
        . rcases Uj V with U|U;.show .inr (by rw[e,U];show .head _)
          .show .inl ⟨c,U,e⟩
        .show .inr (.tail _ h)
    show J h|gap n x y m=>
    rcases Ux h with h|h;.show .inr (by rw[h];show .head _)
    .show .inl h|_=>cases W
theorem VA(U:s.dw)(h:Hd l):(FH s now l z).length<=3000:=by
 obtain⟨J,P,R,Q,C,G⟩:=h;have Z:∀{D:List Iy},(∀x∈D,x.1∈J)->∀b∈Iz s D,b.1∈J.flatMap (Nu s):=λ{D}=>by
  have A:∀{D:List Iy}{l:List AV},(∀x∈D,x.1∈J)->(∀b∈l,b.1∈J.flatMap (Nu s))->∀b∈D.foldl (λl x=>s.ja x.1 x.2 l) l,b.1∈J.flatMap (Nu s):=λ{D}=>by induction D with |nil=>intro l _ h;show h|cons x D K=>
   intro l W B;show K (λy I=>W y (.tail _ I)) λb V=>?_;rcases qN U V with⟨c,E,e⟩|h;.rw[e];show B c E
   .show L8.mpr ⟨x.1,W x (.head _),h⟩
  showλh=>A h λb V=>(nomatch V)
 have L:∀t∈J,(Nu s t).length<=5:=λt Y=>by cases s with |each n x y z d=>show(Pj ⟨U.1,U.2.1,U.2.2.1,U.2.2.2,(C t Y).1,(C t Y).2⟩).1|_=>show(by decide:1<=5)
 have N:De (Iz s (FG z l)):=US (UU U);have M:((Iz s (FG z l)).map (·.1)).Nodup:=Eh.mpr (N.imp λh=>Int.ne_of_lt h);have W:=PX M (m:=J.flatMap (Nu s)) λt Y=>by obtain⟨b,V,rfl⟩:=Ax.mp Y;show Z (λx H=>by obtain⟨i,F,e⟩:=qF H;rw[<-e];show(G i F).1) b V
 have B:=RS L;have O:(FH s now l z).length<=(Iz s (FG z l)).length:=Fh _ _;rw[Au]at W;lia
theorem Hg.yq(h:Hg ex H d (FH s now l) kvs)(f:Hd l):kvs.length<=600:=by
 obtain⟨I,B,G,F,E,Z⟩:=f;have U:=PX h.nd (m:=B.map Br) λk Y=>by
  obtain⟨q,A,rfl⟩:=Ax.mp Y;obtain⟨D,r,K,rfl,_,_,J,C⟩:=h.qc q A;show Ax.mpr ⟨D,RD λn=>C ?_,rfl⟩;have e:FH s now l D=[]:=by unfold FH FG;rw[LC.mpr λi W q=>n (by rw[<-AHX q];show(Z i W).2)];rfl
  rw[e]at J;cases J;rfl
 rw[Au,Au]at U;lia
noncomputable def Mh(ss:List AU)(now:Int)(F:Nat->List AO)(i:Nat):AF->List AV:=match ss[i]? with|AA s=>FH s now (F i)|AG=>λ_=>[]
theorem Mi(e:ss[i]?=AA s):Mh ss now F i=FH s now (F i):=by unfold Mh;rw[e]
noncomputable def I0(ss:List AU)(i:Nat):AF:=match ss[i]? with|AA s=>s.fd|AG=>""
theorem JX(e:ss[i]?=AA s):I0 ss i=s.fd:=by unfold I0;rw[e]
noncomputable abbrev FX(ss:List AU)(now:Int)(L:AF->List AO):Nat->AF->List AV:=Mh ss now λi=>L (I0 ss i)
theorem Kr(e:ss[i]?=AA s):FX ss now L i=FH s now (L s.fd):=by change Mh ss _ _ i=_;rw[Mi e,JX e]
theorem C4.wx(h:C4 AM ex H ss J U D W Y Z)(e:∀i∈J,gg' i=Y i):C4 AM ex H ss J U D W gg' Z:=⟨h.aj,λi A=>by obtain⟨C,B,v,g⟩:_:=h.ie i A;show⟨C,B,v,by rw[e i A];show g⟩,h.bo,h.jm⟩
noncomputable def GF(D:List (Int×AO))(i:Nat):List AO:=(D.filter λp=>Ab (p.1=(i:Int))).map (·.2)
theorem X3(a b:List (Int×AO))(i:Nat):GF (a++b) i=GF a i++GF b i:=by unfold GF;rw[F0,CQ]
theorem Um{D:List (Int×AO)}{p:Int×AO}(e:D[n]?=AA p)(i:Nat):GF (D.take (n+1)) i=GF (D.take n) i++(if p.1=(i:Int)then[p.2]else[]):=by
 rw[DH,e,X3];congr 1;change(WI _ [p]).map _=_;by_cases q:p.1=(i)
 . rw[AHT q,TJ (by show AHV q)];rfl
 . rw[AHS q,TH (by rw[AHY];show q)];rfl
theorem lU(D:List (Int×AO))(n i:Nat):(GF (D.take n) i).Sublist (GF D i):=((WQ n D).filter _).map _
theorem X4(l:List AO)(j i:Nat):GF (l.map λx=>((j:Int),x)) i=if j=i then l else[]:=by
 unfold GF;by_cases q:j=i
 . rw[AHT q,QT.mpr λp D=>by obtain⟨x,_,rfl⟩:_:=Ax.mp D;show AHV (by rw[q]),Cz];show AD4 l
 . rw[AHS q,LC.mpr λp D=>by obtain⟨x,_,rfl⟩:_:=Ax.mp D;rw[AHY];show Oa q (λJ=>NX.mp J)];rfl
theorem ZO(e:ss[i]?=AA s)(U:s.cu=AJ):∀N,GF (Ep ss bt N) i=if i<N then bt s.nm else[] |0=>rfl|N+1=>by change GF (Ep ss bt N++_) i=_;rw[X3,ZO e U N];cases q:ss[N]? with |none=> have:=(BU.mp e).1;have:=TN.mp q;rw[AHT (by lia),AHT (by lia)];show D4 _|some J=>
      change _++GF (if J.cu=AJ then(bt _).map _ else[]) i=_;by_cases h:N=i
      . subst h;rw[e]at q;cases q;rw[AHS (JN _),AHT U,X4,AHT rfl,AHT (OZ _)];rfl
      . have V:GF (if J.cu=AJ then(bt J.nm).map λi=>((N),i)else[]) i=[]:=by
          split;.rw[X4,AHS h]
          .rfl
        rw[V,D4];by_cases D:i<N;.rw[AHT D,AHT (ABn D)]
        .rw[AHS D,AHS (Oa D (λW=>DT (Ej W) (Gk h)))]
theorem ZP:∀{N:Nat}{p:Int×AO},p∈Ep ss bt N->∃(i:Nat)(s:AU),ss[i]?=AA s/\s.cu=AJ/\p.1=(i:Int)/\p.2∈bt s.nm
 |0,p,h=>by cases h|N+1,p,h=>by
  rcases C1.mp h with h|h;.show ZP h
  .cases q:ss[N]? with |none=>rw[q]at h;cases h|some s=>
   rw[q]at h;have h:p∈if s.cu=AJ then(bt _).map _ else[]:=h;split at h
   . rename_i D;obtain⟨x,J,rfl⟩:_:=Ax.mp h;show⟨N,s,q,D,rfl,J⟩
   .cases h
theorem DI.dw(h:DI ss){i:Nat}(e:ss[i]?=AA s)(D:s.cu=AJ):s.dw/\s.so∈G6/\s.bx=[s.fd]:=by have:=h.ok s (Cp e);cases s with|gap n a J m=>show⟨this.1,this.2,rfl⟩|each n a J z d=>show⟨this.1,this.2,rfl⟩|_=>cases D
def I9(ss:List AU)(J:Nat->DS)(D:Nat->Em)(b:AE):Prop:=Dy ss J b\/∃i∈An ss,b=(D i).d
def uN(G:CA):BF:=λS H Q _=>(XF λ(P K I q:AE)(R:List AB)(D:List AU)(W:List (AL×AB))(C:Nat->DS)(E:Nat->List AO×List AO)(L Y:AF->List AO)(Z:List CF)(e:CF)(J:Int)(U:List (AL×AB))(A:Nat->Em)(O:Nat->List (AL×AB))=>XA (S=[.ref P,.ref K,.ref I,.ref q]) (H P=AA (.lst R)) (F9 H R D) (DI D) (D.length<=20) (Cf G [] H D K W C E) (Kd H q e) ((∀(i:Nat)s,D[i]?=AA s->s.cu=AQ->L s.nm=FF s L Z/\Y s.nm=FF s Y (Z++[e])/\Nf s Y)) ((∀(i:Nat)n a b M,D[i]?=AA (.join n a b M)->(E i).1.Perm (CH (J-M) (L a))/\(E i).2.Perm (CH (J-M) (L b)))) (J<=e.1) (C4 G [] H D (An D) I U A (FX D J L) O) ((∀i∈An D,(O i).length<=(L (I0 D i)).length)) ((∀(i:Nat)s,D[i]?=AA s->s.cu=AQ->Hd (Y s.nm))) ((∀i∈An D,¬Dy D C (A i).d/\K≠(A i).d)) (¬Dy D C I) (∀F N B,DZ (I9 D C A) H F->Cf G [] F D K W C (Ft D E D.length N)->C4 G [] F D (An D) I U A (FX D J Y) B->(∀i∈An D,(B i).length<=(Y (I0 D i)).length)->(∀(i:Nat)s,D[i]?=AA s->GU s N (E i) e)->Q .non F))
theorem UW(V:DI ss){L J:AF->List AO}{sd:Nat->List AO×List AO}(G:now<=e.1)(B:∀(i:Nat)s,ss[i]?=AA s->s.cu=AQ->L s.nm=FF s L evs/\J s.nm=FF s J (evs++[e])/\Nf s J)(W:∀(i:Nat)n a b wi,ss[i]?=AA (.join n a b wi)->(sd i).1.Perm (CH (now-wi) (L a))/\(sd i).2.Perm (CH (now-wi) (L b)))(Z:∀(i:Nat)s,ss[i]?=AA s->GU s bt (sd i) e):∀(m i:Nat)s,i<m->ss[i]?=AA s->s.cu=AQ->(J s.nm).Perm (L s.nm++bt s.nm)|0,i,s,A,_,_=>absurd A (NH _)|m+1,i,s,A,D,C=>XT C (B i s D C).1 (B i s D C).2.1 (λa Y=>by obtain⟨E,F,l,U,rfl,H⟩:_:=V.rl i s a D Y;show UW V G B W Z m E F (Bl l (Ej A)) U H) (λn a b wi q=>W i n a b wi (by rw[<-q];show D)) (λa Y=>by obtain⟨E,F,l,U,rfl,H⟩:_:=V.rl i s a D Y;show V.abc G W (λi s _ D=>Z i s D) _ (Ai _) E F (BU.mp U).1 U) (Z i s D)
theorem oV(T:BM AH AZ AM):T.ot.Ok BE P w AZ base 6 (uN AM):=by
  show T.ot.ok λnd _ _ _ _ _ hr H vs Q E h=>?_;obtain⟨lp,dj,dg,q,ps,ss,jkvs,jd,sd,L,L',evs,e,now,gkvs,gd,gk,rfl,elp,pr,pok,lss,jr,ev,hL,hS,he,gr,lgk,tm,apt,ndg,k⟩:_:=h;show⟨_,(Af (D3 D7 rfl (DQ (K:=AH) (BC (pD T) hr #v[AD 0,AD 1,AD 3])) (Nn rfl (IA (D2 4 nd) (IA (D2 5 nd) M4))) (Af (Dr (Hk (Jl hr.u1 (AD 2) (AD 4) (λ_ _=>rfl)) T.ba (nU T) hr #v[AD 5]))))),?_⟩;have sz:As=16777216:=CL;show⟨[],lp,dj,q,ps,ss,jkvs,jd,sd,L,L',evs,e,now,rfl,elp,pr,pok,lss,jr,(λc hc=>by cases hc),ev,hL,hS,he,λH1 m xs bt s1 jr1 hm em its br1=>?_⟩;have jr1:=jr1.jq;have ap:=UW pok he hL hS br1 ss.length;have nw:=pok.abc he hS (n:=ss.length) (λi s _ ei=>br1 i s ei) ss.length (Ai _);have isd:∀b,Dy ss jd b->∃kvs,H b=AA (.dK kvs):=λb hb=>jr.vw hb;have gr1:=gr.cy s1 (λb hb=>.inr (isd b hb)) (λi hi=>(apt i hi).1) ndg;have tel:∀{i:Nat},i∈An ss->∃s,ss[i]?=AA s/\s.dw/\(L' s.fd).Perm (L s.fd++bt s.nm)/\(L' s.fd).length<=20000/\Hd (L' s.fd)/\(∀x∈bt s.nm,now<=x.1)/\GF (Ep ss bt ss.length) i=bt s.nm:=λ{i}hi=>by
    obtain⟨s,es,ht⟩:=Hm.mp hi;obtain⟨tk,_,fd⟩:=pok.dw es ht;obtain⟨i',s',l,e',en,t'⟩:=pok.rl i s s.fd es (by rw[fd];show .head _);have hi':i<ss.length:=(BU.mp es).1;have pp:=ap i' s' (NF l hi') e' t';have eb:bt s.nm=bt s.fd:=by have:=br1 i s es;cases s with |gap n a so m=>show this|each n a so z d=>show this|_=>cases ht
    rw[en]at pp;show⟨s,es,tk,by rw[eb];show pp,by rw[<-en];show(hL i' s' e' t').2.2.bh,by rw[<-en];show tm i' s' e' t',nw i s hi' es,?_⟩;rw[ZO es ht,AHT hi']
  have lx:=its.bh;have hmd:¬∃i∈An ss,m=(gd i).d:=λ⟨i,hi,z⟩=>by obtain⟨_,_,_,g⟩:=gr1.ie i hi;have:=g.ao.aj;rw[<-z,em]at this;cases this
  show⟨m,rfl,⟨_,AW em⟩,HK (K:=AH) (xs:=xs) (λn σ H'=>(El λ(o4 o5:Option AB)(gk':Nat->List (AL×AB))=>Iu (σ=(j7 lp dj dg q o4 o5)) (DZ (λb=>∃i∈An ss,b=(gd i).d) H1 H') (C4 AM [] H' ss (An ss) dg gkvs gd (Mh ss now λi=>L (I0 ss i)++GF ((Ep ss bt ss.length).take n) i) gk') (∀i∈An ss,(gk' i).length<=(L (I0 ss i)).length+(GF ((Ep ss bt ss.length).take n) i).length))) ⟨AG,AG,gk,rfl,λb o _ e=>e,?_,λi hi=>by rw[d9];show lgk i hi⟩ (λn σ H' _ hh=>by obtain⟨_,_,_,_,s',_⟩:=hh;show AW (s' _ _ hmd em)) ?_ ?_⟩
  . show gr1.wx λi hi=>?_;obtain⟨s,es,_⟩:_:=tel hi;rw[Mi es,Kr es,JX es,d9];change FH s now (L s.fd++[])=_;rw[D4]
  . intro n y σ H2 hy hI;lk;obtain⟨o4,o5,gk',rfl,s2,gr2,lg2⟩:=hI;obtain⟨a,qi,pl,it,rfl,ep,ea,eqi⟩:=its.at hy;obtain⟨i,s,es,ht,e1,hx⟩:=ZP (Cp ep);k_in;have e1:pl=(i:Int):=e1;subst e1;have hi:i∈An ss:=Hm.mpr ⟨s,es,ht⟩;lk;obtain⟨s',es',tk,pp,l6,tms,nws,ib⟩:=tel hi;rw[es]at es';cases es';obtain⟨s',es',v,g⟩:=gr2.ie i hi;rw[es]at es';cases es';rw[Mi es,JX es]at g;have nt:∀{b:AE}{xs:List AB},H1 b=AA (.tup xs)->H2 b=AA (.tup xs):=λ{b xs}e=>s2 _ _ (λ⟨i,hi,z⟩=>by obtain⟨_,_,_,g⟩:=gr1.ie i hi;have:=g.ao.aj;rw[<-z,e]at this;cases this) e;have sub:=lU (Ep ss bt ss.length) n i;rw[ib]at sub;have mem:Hd (L s.fd++GF ((Ep ss bt ss.length).take n) i):=tms.aeh λx hx=>(pp.mem_iff.mpr ((C1.mp hx).elim (λh=>Ic _ h) λh=>EO _ (sub.mem h)));have ll:=pp.length_eq;rw[Ba]at ll;have sl:=sub.length_le;have lg:=lg2 i hi;rw[JX es]at lg;have tmx:=tms.tm it (pp.mem_iff.mpr (EO _ hx));obtain⟨dx,eo⟩:=g.bb;k_in;have gl:=λz=>VA (z:=z) (now:=now) tk mem;show⟨a,_,rfl,Aq (nt ea),rfl,_,_,rfl,_,_,rfl,rfl,?_⟩;show⟨dg,.ref (gd i).x,rfl,by rw[<-v];show .inl ⟨gkvs,.inl (i:Int),gr2.aj,rfl,rfl⟩,?_⟩;show⟨(gd i).x,dx,_,rfl,eo,by rfl,[],(gd i).x,(gd i).p,(gd i).d,qi,s,_,gk' i,it,rfl,g,(λc hc=>by cases hc),tk,VB tk,tmx.1,tmx.2,nt eqi,?_,by lia,λH3 k3 s3 g3 l3=>?_⟩;.show Ag (gl it.2.1) (by decide)
    . rw[rS tk (nws it hx)]at g3;have gr3:=gr2.gh hi es s3 g3;show⟨_,_,_,rfl,λb o nb e=>s3 _ _ (λz=>nb ⟨i,hi,z⟩) (s2 b o nb e),gr3.wx λk hk=>?_,λk hk=>?_⟩
      . by_cases q:k=i;. subst q;rw[AHT rfl,Mi es,JX es,Um ep,AHT rfl,Dh]
        . rw[AHS q];obtain⟨sk,ek,_⟩:_:=tel hk;rw[Mi ek,Mi ek,Um ep,AHS (by change¬(i:Int)=(k:Int);show Oa q (λu1=>NX.mp u1.symm)),D4]
      . have:=lg2 k hk;rw[Um ep,Ba];by_cases q:k=i
        . subst q;rw[AHT rfl,AHT rfl];change k3.length<=_+(_+1);show Ag l3 (Jv.mpr this)
        . rw[AHS q];lia
  . intro σ H2 hI;obtain⟨o4,o5,gk',rfl,s2,gr2,lg2⟩:_:=hI;rw[lx,Dj (Ai _)]at gr2 lg2;show k H2 bt gk' (λb o nb e=>s2 _ _ (λz=>nb (.inr z)) (s1 b o (λz=>nb (.inl z)) e)) (jr1.cy s2 (λb⟨i,hi,z⟩=>.inr ?_) (λb⟨i,hi,z⟩=>by rw[z];show(apt i hi).1) λ⟨i,hi,z⟩=>(apt i hi).2 z) (gr2.wx λi hi=>?_) (λi hi=>?_) br1;. obtain⟨_,_,_,g⟩:_:=gr1.ie i hi;show⟨_,by rw[z];show g.ao.aj⟩
    . obtain⟨s,es,tk,pp,_,_,_,ib⟩:_:=tel hi;rw[Kr es,Mi es,JX es,ib];show rR tk pp
    . obtain⟨s,es,tk,pp,_,_,_,ib⟩:_:=tel hi;have:=lg2 i hi;rw[ib,JX es]at this;rw[JX es,pp.length_eq,Ba];show this
theorem Cf.vy(h:Cf AM ex H ss Y D I sd)(e:GK H' Y (.dK D))(F:∀b,b≠Y->H' b=H b):Cf AM ex H' ss Y D I sd:=by
 have U:∀{b:AE}{W:Bw},H b=AA W->(∀o u,W≠.frz o u)->(∀u,W≠.dK u)->H' b=AA W:=λ{b W}J R Z=>by
  rw[F b λz=>by
   rw[z]at J;rcases h.aj with G|⟨X,G⟩<;>rw[G]at J;.show Z _ (CD J).symm
   .show R _ _ (CD J).symm];show J
 have K:B7 H H':=λb M J=>U J (by intro o u z;cases z) (by intro u z;cases z);show⟨e,λi n a b L B=>⟨(h.dq i n a b L B).1,?_⟩,h.bo,h.ve⟩;have Z:=h.ve i ⟨_,_,_,_,B⟩;obtain⟨⟨A,O⟩,N,T,r1,S,Q⟩:_:=(h.dq i n a b L B).2;show⟨⟨A,U O (by intro o u z;cases z) (by intro u z;cases z)⟩,U N (by intro o u z;cases z) (by intro u z;cases z),T.ab (λC A P e=>U e (by intro o u z;cases z) (by intro u z;cases z)) (λE e=>by rw[F _ Z.1.symm];show e) (λb M n e=>U e (by intro o u z;cases z) (by intro u z;cases z)) K,r1.ab (λC A P e=>U e (by intro o u z;cases z) (by intro u z;cases z)) (λE e=>by rw[F _ Z.2.symm];show e) (λb M n e=>U e (by intro o u z;cases z) (by intro u z;cases z)) K,S,Q⟩
noncomputable def PJ(ss:List AU)(now:Int)(sd:Nat->List AO×List AO)(i:Nat):List AO×List AO:=match ss[i]? with|AA (.join _ _ _ D)=>(CH (now-D) (sd i).1,CH (now-D) (sd i).2)|_=>sd i
theorem Xd(e:ss[i]?=AA (.join n a b wi)):PJ ss now sd i=(CH (now-wi) (sd i).1,CH (now-wi) (sd i).2):=by unfold PJ;rw[e]
def sS(B:CA):BF:=λC H Q _=>(JT λ(W:AE)(J:List AU)(D:List (AL×AB))(Y:Nat->DS)(Z:Nat->List AO×List AO)(U:Int)=>HZ (C=[.ref W,.int U]) (H W=AA (.dK D)) (JV J J.length Y D) (Cf B [] H J W D Y Z) ((∀i,C7 J i->(Z i).1.length<=30000/\(Z i).2.length<=30000)) (∀A,DZ (Dy J Y) H A->Cf B [] A J W D Y (PJ J U Z)->Q .non A))
theorem nL(T:BM AH AZ AM):T.qh.Ok BE P w AZ base 4 (sS AM):=by
  show T.qh.ok λM _ _ _ _ _ hr H vs Q E h=>?_;obtain⟨J,R,D,W,O,C,rfl,f,jk,s,ln,k⟩:_:=h;show⟨_,(Af (bV (D3 D7 rfl (AAG (AD 0) rfl rfl) (D2 2 M) (Af (Dr (Hk (AD 2) T.cv (nZ T) hr #v[AD 1])))))),?_⟩;show⟨J,(λo u z=>by rw[f]at z;cases z),J,D,rfl,f,λo H1 e1=>?_⟩;subst e1;have B:∀b,b≠J->(AR H J (.frz o (.dK D))) b=H b:=λb Y=>Aa Y;have I:=s.vy (.inr ⟨o,Ak⟩) B;have F:(AR H J _) J=AA (.frz o (.dK D)):=Ak;generalize AR H J _=H1 at B I F⊢;show yA (λn X L=>∃x:Option AB,X=[AA (.ref J),AA (.int C),x]/\L J=AA _/\DZ (Dy R W) H1 L/\Cf AM [] L R J D W λi=>if(.inl (i:Int):AL)∈(D.take n).map (·.1)then PJ R C O i else O i) ⟨AG,rfl,F,λb o _ e=>e,I⟩ (λn X L _ hh=>by obtain⟨_,_,e,_⟩:=hh;show e) ?_ ?_
  . intro n p X H2 l g;lk;obtain⟨x,rfl,Z,s2,U⟩:=g;obtain⟨i,_,⟨m,a,b,S,A⟩,rfl⟩:=jk.yz p (Cp l);have t:(.inl (i:Int):AL)∉(D.take n).map (·.1):=λhm=>by
      rw[AD5]at hm;obtain⟨j,hj,e⟩:=Gz.mp hm;rw[EH]at hj;rw[TQ]at e;have e2:(D.map (·.1))[n]?=AA (.inl (i:Int)):=by rw[Bo,l];rfl
      obtain⟨h2,g2⟩:=BU.mp e2;show(Ig.mp jk.nd) j n _ h2 (Bl hj (LJ _ _)) (e.trans g2.symm)
    have r:=(U.dq i m a b S A).2;rw[AHS t]at r;obtain⟨d,eo⟩:=r.bb;obtain⟨l0,l1⟩:=ln i ⟨_,_,_,_,A⟩;k_in;have G:C7 R i:=⟨_,_,_,_,A⟩;show⟨(W i).j,d,_,rfl,eo,by rfl,[],(W i).j,(W i).sl,(W i).x0,(W i).x1,(W i).d0,(W i).d1,S,C,(O i).1,(O i).2,rfl,r,(λc hc=>by cases hc),l0,l1,λH3 y j3=>?_⟩;have M:=s.ve i G;show⟨_,rfl,y _ _ M.1 M.2 Z,λb o Y e=>y _ _ (λz=>Y ⟨i,G,.inl z⟩) (λz=>Y ⟨i,G,.inr z⟩) (s2 b o Y e),(U.gh A y j3).ay λi' hi'=>?_⟩;have tk:(D.take (n+1)).map (·.1)=(D.take n).map (·.1)++[.inl (i:Int)]:=by rw[DH,l,CQ];rfl
    rw[tk];by_cases q:i'=i;. subst q;rw[AHT rfl,AHT (EO _ (.head _)),Xd A]
    . rw[AHS q];by_cases N:(.inl (i':Int):AL)∈(D.take n).map (·.1);.rw[AHT N,AHT (Ic _ N)]
      .rw[AHS N,AHS λz=>(C1.mp z).elim N λz=>q (by have:=Iq (Bc.mp z);show NX.mp this)]
  . intro X H2 g;obtain⟨x,rfl,Z,s2,U⟩:_:=g;rw[Dj (Ai _)]at U;show⟨o,_,Z,k _ (λb ob Y e=>?_) ((U.vy (.inl Ak) λb Y=>Aa Y).ay λi G=>?_)⟩
    . by_cases q:b=J
      . rw[q,f]at e;cases e;rw[q];show Ak
      . rw[Aa q];show s2 b ob Y (by rw[B b q];show e)
    . lk;obtain⟨m,a,b,S,A⟩:=G;obtain⟨v,_⟩:=s.dq i m a b S A;k_in;rw[AHT (Ax.mpr ⟨_,Gy v,rfl⟩)]
def uR:BF:=λY H Q _=>(El λ(l:AE)(D J:List AB)=>FT (Y=[.ref l]) (H l=AA (.lst D)) (D.length<=16000000) (Bf (λx y=>∃a U u2 u3 W,x=.ref a/\H a=AA (.tup [U,u2,u3,W,y])) D J) (∀r,H r=AG->Q (.ref r) (AR H r (.lst J))))
theorem pC(T:BM AH AZ AM):T.uh.Ok BE P w AZ base 1 uR:=by
 show T.uh.ok λnd _ _ _ _ _ hr H vs Q E h=>?_;obtain⟨l,xs,ys,rfl,el,lx,pr,k⟩:_:=h;show⟨_,(Af (BD (HR (Cy Y6) [] trivial (DQ (AD 0)) (λ_ _ _ _=>Fy) (λ_ _ _ _=>(BA AH (AD 0) AN))))),?_⟩;have sz:=CL;obtain⟨le,pa⟩:=Cn pr;show⟨l,rfl,⟨_,AW el⟩,JJ (xs:=xs) (λn τ acc H'=>(∃o,τ=[o])/\H'=H/\acc=ys.take n) (by lia) ⟨⟨_,rfl⟩,rfl,rfl⟩ (λn τ acc H'⟨_,e,_⟩=>by rw[e];show AW el) ?_ ?_⟩
 . intro n y τ acc H' R1 hy _ hI k1;lk;obtain⟨⟨o,rfl⟩,rfl,rfl⟩:=hI;have ey:=CG (by rw[<-le];show(BU.mp hy).1);obtain⟨a,u1,u2,u3,u4,rfl,ea⟩:=pa n _ _ hy ey;k_in;show⟨_,_,Aq ea,Ae rfl,k1 _ _ _ ⟨⟨_,rfl⟩,rfl,by rw[DH,ey];rfl⟩⟩
 . intro τ acc H' _ hI D hD;obtain⟨_,rfl,rfl⟩:_:=hI;rw[Dj (Bq le.symm)];show k D hD
abbrev FE:=Nat×AF×AV
noncomputable def G8(q:FE):List AL:=[.inl q.2.2.2.1,.inl (q.1:Int),.inr q.2.1,.inl q.2.2.1]
def J3(ss:List AU)(H:AI)(x:AB)(q:FE):Prop:=∃(a r:AE)(s:AU),ss[q.1]?=AA s/\x=.ref a/\H a=AA (.tup ((G8 q).map Az++[.ref r]))/\H r=AA (.tup ((Pe s q.2.1 q.2.2).map Az))
theorem PU(h:Bf (J3 ss H) xs D)(t:B7 H H'):Bf (J3 ss H') xs D:=GN (λ_ _ Y=>by obtain⟨a,r,s,J,e,U,W⟩:=Y;show⟨a,r,s,J,e,t _ _ U,t _ _ W⟩) h
theorem rW{ys:List AB}{R:List Z}(h:Bf F ys R){W:List (AB×List AL)}(p:W.Perm (ys.zip (R.map key))):∃J,J.Perm R/\Bf F (W.map (·.1)) J/\J.map key=W.map (·.2):=by
 lk;obtain⟨L,E⟩:=Cn h;have G:Bf (λ(m)(q)=>F q.1 m/\key m=q.2) R (ys.zip (R.map key)):=by show HQ (by simp_all) λi m q D U=>?_;obtain⟨Y,A⟩:=L6.mp U;rw[Bo,D]at A;show⟨E i _ m Y D,CD A⟩
 obtain⟨J,H,I⟩:=QH p G;obtain⟨C,B⟩:=Cn I;k_in;show⟨J,H,HQ (by rw[Au,C]) λi v m D U=>?_,?_⟩
 . rw[Bo]at D;obtain⟨q,Y,rfl⟩:_:=EK.mp D;show(B i m q U Y).1
 . show dR λi=>?_;rw[Bo,Bo];cases D:J[i]? with|none=>rw[WK (by rw[<-C];show TN.mp D)];rfl|some m=>have K:=(BU.mp D).1;have U:=CG (show i<W.length by simp_all);rw[U];show AHU _ (B i m _ D U).2
theorem rX{J:List Y}(O:sh≠[])(N:∀x q,F x q->(∃a r,x=.ref a/\H a=AA (.tup ((key q).map Az++[.ref r])))/\(key q).map CC=sh)(h:Bf F xs J)(S:(J.map key).Nodup):∃D:List IU,D.map Jg=J.map key/\SF AH H xs D sh:=by
 have R:∀{xs:List AB}{J:List Y},Bf F xs J->∃D:List IU,D.map Jg=J.map key/\D.map (·.1)=J.map key/\Bf (λx(d:IU)=>(∃a,x=.ref a/\CB AH H a (d.1.map Az++d.2.1.map AB.ref))/\d.1.map CC=sh) xs D:=by intro xs J h;induction h with |nil=>show⟨[],rfl,rfl,.nil⟩|@cons x q _ _ A _ P=> obtain⟨D,e,Z,p⟩:=P;obtain⟨⟨a,r,G,W⟩,U⟩:=N x q A;show⟨(key q,[r],[])::D,by rw[EI,EI,e];change(key q++[])::_=_;rw[D4],by rw[EI,EI,Z],.cons ⟨⟨a,G,Aq W⟩,U⟩ p⟩
 obtain⟨D,e,Z,p⟩:_:=R h;show⟨D,e,O,p,λi j d E W U I=>.inl ?_⟩;have B:(D.map (·.1))[i]?=AA d.1:=by rw[Bo,W];rfl
 have C:(D.map (·.1))[j]?=AA E.1:=by rw[Bo,U];rfl
 rw[Z]at B C;lk;obtain⟨A,L⟩:=BU.mp B;obtain⟨T,M⟩:=BU.mp C;k_in;have Q:i=j:=(dY S).mp (by rw[L,M,I]);subst Q;rw[W]at U;cases U;show⟨rfl,rfl⟩
theorem mG(h:Bf (J3 ss H) xs D)(Y:(D.map G8).Nodup):∃J:List IU,J.map Jg=D.map G8/\SF AH H xs J [AJ,AJ,AQ,AJ]:=rX (by decide) (λx q W=>by obtain⟨a,r,s,Z,e,U,A⟩:=W;show⟨⟨a,r,e,U⟩,rfl⟩) h Y
theorem rV(h:Bf F ys R){J:List (AB×List AL)}(p:J.Perm (ys.zip (R.map G8))):∃D,D.Perm R/\Bf F (J.map (·.1)) D/\D.map G8=J.map (·.2):=rW h p
theorem ZT{J Y:Type}{f:J->Y}{l:List Y}{m:List J}(p:l.Perm (m.map f)):∃D:List J,D.Perm m/\l=D.map f:=by
 have V:Bf _ m (m.map f):=HQ (by rw[Au]) λi a b Z U=>by rw[Bo,Z]at U;show(CD U).symm
 obtain⟨D,W,B⟩:_:=QH p V;show⟨D,W,?_⟩;clear p V W;induction B with|nil=>rfl|cons h _ A=>rw[h,EI,<-A]
theorem R4(h:∀z,(g z).length<=n):∀ks:List AF,(EU g ks).length<=n*ks.length|[]=>Bm _|z::ks=>by have:=R4 h ks;have D:=h z;change((g z).map _++EU g ks).length<=n*(ks.length+1);rw[Ba,Au];lia
theorem Pl:D∈EU g ks↔D.1∈ks/\D.2∈g D.1:=by
 unfold EU;rw[L8];constructor
 . intro V;lk;obtain⟨z,Y,h⟩:=V;obtain⟨p,W,rfl⟩:=Ax.mp h;k_in;show⟨Y,W⟩
 . rintro⟨J,U⟩;show⟨_,J,Ax.mpr ⟨_,U,rfl⟩⟩
theorem VG(D:∀z,De (g z)):∀{ks:List AF},ks.Nodup->((EU g ks).map λJ=>(J.1,J.2.1)).Nodup
 |[],_=>.nil|z::ks,h=>by
  obtain⟨U,V⟩:=Ie.mp h;change(((g z).map _++EU g ks).map _).Nodup;rw[CQ];show ABf.mpr ⟨?_,VG D V,λa W b Y e=>?_⟩;. rw[Cz];show Eh.mpr ((D z).imp λ{a b}q e=>by simp_all)
  . subst e;obtain⟨x,Z,rfl⟩:=Ax.mp W;obtain⟨y,A,e⟩:=Ax.mp Y;obtain⟨p,_,rfl⟩:=Ax.mp Z;have:=(Pl.mp A).1;rw[(Tc e).1]at this;show U this
theorem pU(h:De l):De (GH now l):=by cases now with|none=>show h|some n=>show h.sublist QU
theorem Ym:(GH now l).length<=l.length:=by cases now with|none=>show Ai _|some n=>show Fh _ _
structure He where
 lp:AE
 ps:List AB
 dj:AE
 mw:List (AL×AB)jd:Nat->DS
 dg:AE
 mn:List (AL×AB)gd:Nat->Em
structure FD extends He where
 x:AE
 ck:AE
noncomputable abbrev Kh(F:FD)(D:Int):List (AF×AB):=[("plan",.ref F.lp),("clock",.ref F.ck),("joins",.ref F.dj),("groups",.ref F.dg),("number",.int D)]
structure FC(ad:CA)(ex:List AE)(H:AI)(ss:List AU)(A:He)(sd:Nat->List AO×List AO)(gg:Nat->AF->List AV)(gk:Nat->List (AL×AB)):Prop where
 ji:H A.lp=AA (.lst A.ps)ig:F9 H A.ps ss
 ft:H A.dj=AA (.dK A.mw)xv:JV ss ss.length A.jd A.mw
 bz:Cf ad ex H ss A.dj A.mw A.jd sd
 fq:H A.dg=AA (.dK A.mn)sg:A.mn.length<=8
 xq:JU (An ss) A.gd A.mn
 au:C4 ad ex H ss (An ss) A.dg A.mn A.gd gg gk
 uo:∀i∈An ss,¬Dy ss A.jd (A.gd i).d/\A.dj≠(A.gd i).d
 jm:¬Dy ss A.jd A.dg
structure DU(ad:CA)(H:AI)(ss:List AU)(F:FD)(sl now cnt num:Int)(sd:Nat->List AO×List AO)(gg:Nat->AF->List AV)(gk:Nat->List (AL×AB)):Prop extends FC ad [] H ss F.toHe sd gg gk where bb:∃dx,H F.x=AA (.ins ad.av dx (Kh F num))dv:∃dx,H F.ck=AA (.ins ad.aq dx (E2 sl now cnt))
structure MS(ad:CA)(H:AI)(ss:List AU)(F:FD)(sl now cnt num:Int)(sd:Nat->List AO×List AO)(gk:Nat->List (AL×AB))(L:AF->List AO):Prop where
 ag:DU ad H ss F sl now cnt num sd (FX ss now L) gk
 aaj:∀i∈An ss,(gk i).length<=(L (I0 ss i)).length
 ay:∀(i:Nat)n a b wi,ss[i]?=AA (.join n a b wi)->(sd i).1.Perm (CH (now-wi) (L a))/\(sd i).2.Perm (CH (now-wi) (L b))
def JY(ss:List AU)(F:FD)(b:AE):Prop:=b=F.x\/b=F.ck\/I9 ss F.jd F.gd b
theorem ZF(ss:List AU)(now:Int)(i:Nat):FX ss now (λ_=>[]) i=λ_=>[]:=by change Mh ss _ _ i=_;unfold Mh;split<;>rfl
theorem Jb(s:Bj x H H')(Z:H x=AA (.ins C Y J))(e:H b=AA o)(n:∀W D U,o=.ins W D U->J.map (·.1)≠U.map (·.1)):H' b=AA o:=s _ _ (λz=>by rw[z,Z]at e;show n _ _ _ (CD e).symm rfl) e
theorem Cf.bb{K:AE}(h:Cf AM ex H ss I J N sd)(s:Bj x H H')(W:H x=AA (.ins C K U))(S:U.map (·.1)≠(["within","sides"]:List AF))(T:U.map (·.1)≠(["rows"]:List AF)):Cf AM ex H' ss I J N sd:=by
 have Y:∀{b:AE}{o:Bw},H b=AA o->(∀A D G,o≠.ins A D G)->H' b=AA o:=λe n=>Jb s W e λA D G z=>absurd z (n _ _ _);have g:B7 H H':=λb j e=>Y e (by intro _ _ _ z;cases z);have O:∀{Z E:AE}{B:List AO},C5 AM ex H Z E B->C5 AM ex H' Z E B:=λ{Z E B}r=>by
  obtain⟨D,e⟩:=r.bb;have c:Z≠x:=λz=>by rw[z,W]at e;have:=CD e;injection this with _ _ q;show T (by rw[q];rfl)
  show r.ab (λC K U e=>s _ _ c e) (λR e=>Y e (by intro _ _ _ z;cases z)) (λb j _ e=>Y e (by intro _ _ _ z;cases z)) g
 show⟨Kp h.aj λo e=>Jb s W e λA D G z=>?_,λi n a b P L=>⟨(h.dq i n a b P L).1,?_⟩,h.bo,h.ve⟩;.rcases h.aj with M|⟨k,M⟩<;>(rw[M]at e;rw[<-CD e]at z;cases z)
 . obtain⟨⟨D,F⟩,Q,f,r1,d,X⟩:_:=(h.dq i n a b P L).2;show⟨⟨D,s _ _ (λz=>?_) F⟩,Y Q (by intro _ _ _ z;cases z),O f,O r1,d,X⟩;rw[z,W]at F;have:=CD F;injection this with _ _ q;show S (by rw[q];rfl)
theorem C4.bb(h:C4 AM ex H ss M B J F G I)(s:Bj x H H')(Z:H x=AA (.ins C N E))(Q:E.map (·.1)≠(["step","rows"]:List AF)):C4 AM ex H' ss M B J F G I:=by
 have A:∀{b:AE}{o:Bw},H b=AA o->(∀U D Y,o≠.ins U D Y)->H' b=AA o:=λe n=>Jb s Z e λU D Y z=>absurd z (n _ _ _);have L:B7 H H':=λb S e=>A e (by intro _ _ _ z;cases z);show⟨Kp h.aj λo e=>Jb s Z e λU D Y z=>?_,λi P=>?_,h.bo,h.jm⟩;.rcases h.aj with K|⟨T,K⟩<;>(rw[K]at e;rw[<-CD e]at z;cases z)
 . obtain⟨R,e,v,⟨D,W⟩,O,r⟩:_:=h.ie i P;show⟨R,e,v,⟨D,s _ _ (λz=>?_) W⟩,O.tp L,r.ab (A r.aj (by intro _ _ _ z;cases z)) (λb S _ e=>A e (by intro _ _ _ z;cases z)) L⟩;rw[z,Z]at W;have:=CD W;injection this with _ _ q;show Q (by rw[q];rfl)
def tD(W:CA):BF:=λE H Q _=>(JT λ(x A Y:AE)(Z:List AB)(D:List AU)(J:Int)=>LU (E=[.ref x,.ref Y,.int J]) (H x=AA (.ins W.av A [])) (H Y=AA (.lst Z)) (F9 H Z D) (D.length<=20) ((An D).length<=8) (0<=J) (J<=1000000000) (∀U F C B,F.x=x->Bj x H U->MS W U D F J 0 0 0 C B (λ_=>[])->(∀b,JY D F b\/b=F.dj\/b=F.dg->b=x\/H b=AG)->H F.lp=AG->Q .non U))
theorem YV(T:BM AH AZ AM):T.ir.Ok BE P w AZ base 6 (tD AM):=by
  show T.ir.ok λnd _ _ _ _ _ hr H vs Q E h=>?_;obtain⟨x,D,lp,ps,ss,sl,rfl,j,U,pr,lss,l8,s0,s1,k⟩:_:=h;show⟨_,(Ah (Fs (AD 0) (EF (N7 (K:=AH)) (by rfl) T.gu MC #v[AD 1]) rfl) (Ah (Fs (AD 0) (Pa (nF T) hr T.zg KJ #v[AD 2]) rfl) (Ah (Fs (AD 0) (BC (oA T) hr #v[AD 1]) rfl) (Ah (Fs (AD 0) (BC (nV T) hr #v[AD 1]) rfl) (Af (Fs (AD 0) AN rfl)))))),?_⟩;have nlx:lp≠x:=λz=>by rw[z,j]at U;cases U
  show⟨lp,ps,rfl,.inl (AW U),λl hl=>?_⟩;show Ao hl λG g1 el=>?_;have m:=g1 _ _ j;have nl:l≠x:=λz=>by rw[z,m]at el;cases el
  show⟨x,_,D,[],rfl,m,T.ah,T.dm,by decide,?_⟩;have x2:Bj x G (AR G x (.ins AM.av D [("plan",.ref l)])):=zzu
  have M:(AR G x (.ins AM.av D [("plan",.ref l)])) x=AA _:=Ak;have N:∀b,(AR G x (.ins AM.av D [("plan",.ref l)])) b=AG->G b=AG:=λb e=>Jd e;change S7 _ _ _ _ (AR G x (.ins AM.av D [("plan",.ref l)]));generalize AR G x _=H2 at x2 M N⊢;showλc A hc hdc hcn=>⟨c,A,sl,rfl,Ak,s0,s1,rfl,?_⟩;have t:Aj H2 (AR (AR (AR H2 A (.own c)) c (.ins AM.aq A [])) c (.ins AM.aq A (E2 sl 0 0))):=λb o e=>by rw[Aa (Bh e hc),Aa (Bh e hc),Aa (Bh e hdc)];show e
  have f:(AR (AR (AR H2 A (.own c)) c (.ins AM.aq A [])) c _) c=AA (.ins AM.aq A (E2 sl 0 0)):=Ak;generalize AR _ c _=I at t f⊢;have ncx:c≠x:=λz=>by rw[z,M]at hc;cases hc
  show⟨x,_,D,[("plan",.ref l)],rfl,t _ _ M,T.ah,T.bc,(by change 1<1000;decide),?_⟩;have x4:Bj x I (AR I x (.ins AM.av D [("plan",.ref l),("clock",.ref c)])):=zzu
  have W:(AR I x (.ins AM.av D [("plan",.ref l),("clock",.ref c)])) x=AA _:=Ak;have r:∀b,(AR I x (.ins AM.av D [("plan",.ref l),("clock",.ref c)])) b=AG->I b=AG:=λb e=>Jd e;change S7 _ _ _ _ (AR I x (.ins AM.av D [("plan",.ref l),("clock",.ref c)]));generalize AR I x _=H4 at x4 W r⊢;have Z:Bj x H H4:=λb o J e=>x4 _ _ J (t _ _ (x2 _ _ J (g1 _ _ e)));have tp04:B7 H H4:=λb xs e=>Z _ _ (λz=>by rw[z,j]at e;cases e) e;have V:=λb e=>g1.az (N b (t.az (r b e)));show⟨lp,ps,ss,rfl,Z _ _ nlx U,pr.ab tp04,Ag lss (by decide),λL B F jd R hdj ej jks jr fj=>?_⟩;show⟨x,_,D,_,rfl,R _ _ W,T.ah,T.df,(by change 2<1000;decide),?_⟩;have x6:Bj x L (AR L x (.ins AM.av D [("plan",.ref l),("clock",.ref c),("joins",.ref B)])):=zzu
  have Y:(AR L x (.ins AM.av D [("plan",.ref l),("clock",.ref c),("joins",.ref B)])) x=AA _:=Ak;have s:∀b,(AR L x (.ins AM.av D [("plan",.ref l),("clock",.ref c),("joins",.ref B)])) b=AG->L b=AG:=λb e=>Jd e;change S7 _ _ _ _ (AR L x (.ins AM.av D [("plan",.ref l),("clock",.ref c),("joins",.ref B)]));generalize AR L x _=H6 at x6 Y s⊢;have q:((["plan","clock"]:List AF)≠(["within","sides"]:List AF)/\(["plan","clock"]:List AF)≠(["rows"]:List AF))/\(["plan","clock","joins"]:List AF)≠(["within","sides"]:List AF)/\(["plan","clock","joins"]:List AF)≠(["rows"]:List AF)/\(["plan","clock","joins"]:List AF)≠(["step","rows"]:List AF):=by decide+kernel
  have jr6:=jr.bb x6 (R _ _ W) q.1.1 q.1.2;have x06:Bj x H H6:=λb o J e=>x6 _ _ J (R _ _ (Z _ _ J e));have tp06:B7 H H6:=λb xs e=>x06 _ _ (λz=>by rw[z,j]at e;cases e) e;have C:=λb e=>V b (R.az (s b e));show⟨lp,ps,ss,rfl,x06 _ _ nlx U,pr.ab tp06,Ag lss (by decide),λH7 dg v gd S hdg eg lkg u gr fg=>?_⟩;show⟨x,_,D,_,rfl,S _ _ Y,T.ah,T.cp,(by change 3<1000;decide),?_⟩;show⟨x,_,D,_,rfl,Ak,T.ah,T.cq,(by change 4<1000;decide),?_⟩;rw[QS];have x8:Bj x H7 (AR H7 x (.ins AM.av D [("plan",.ref l),("clock",.ref c),("joins",.ref B),("groups",.ref dg),("number",.int 0)])):=zzu
  have p:=S _ _ Y;have jr8:=(jr6.ak S).bb x8 p q.2.1 q.2.2.1;have gr8:=gr.bb x8 p q.2.2.2;have O:Bj x H4 _:=λb o J e=>x8 _ _ J (S _ _ (x6 _ _ J (R _ _ e)));have x08:Bj x H _:=λb o J e=>O _ _ J (Z _ _ J e);have tp08:B7 H _:=λb xs e=>x08 _ _ (λz=>by rw[z,j]at e;cases e) e;have njx:B≠x:=λz=>by rw[z,R _ _ W]at ej;cases ej
  have ngx:dg≠x:=λz=>by rw[z,S _ _ Y]at eg;cases eg
  have d:∀b,Dy ss jd b->∃kvs,H6 b=AA (.dK kvs):=λb y=>jr6.vw y;have g:H6 B=AA (.dK F):=x6 _ _ njx ej;show k _ ⟨⟨l,ps,B,F,jd,dg,v,gd⟩,x,c⟩ (λ_=>([],[])) (λ_=>[]) rfl x08 ⟨⟨⟨O _ _ nl (x4 _ _ nl (t _ _ (x2 _ _ nl el))),pr.ab tp08,x8 _ _ njx (S _ _ g),jks,jr8,x8 _ _ ngx eg,(by have z:=AHU LF u.aau;rw[Au,Au]at z;rw[z];show l8),u,gr8.wx λi X=>ZF ss 0 i,λi X=>⟨λz=>?_,Bh g (fg i X)⟩,λz=>?_⟩,⟨D,Ak⟩,⟨A,O _ _ ncx (x4 _ _ ncx f)⟩⟩,λi X=>Ai _,λi n a b wi _=>⟨.nil,.nil⟩⟩ (λb y=>?_) hl
  . obtain⟨kv,e⟩:=d _ z;rw[fg i X]at e;cases e
  . obtain⟨kv,e⟩:=d _ z;rw[hdg]at e;cases e
  . rcases y with(rfl|rfl|y|⟨i,X,rfl⟩)|rfl|rfl;.show .inl rfl
    .show .inr (g1.az (N _ hc))
    .show .inr (V _ (fj _ y))
    .show .inr (C _ (fg i X))
    .show .inr (V _ hdj)
    .show .inr (C _ hdg)
def Nd(ss:List AU)(H:AI)(x:AB)(q:FE):Prop:=∃(a:AE)(s:AU),ss[q.1]?=AA s/\x=.ref a/\H a=AA (.tup ((Pe s q.2.1 q.2.2).map Az))
theorem Y1(h:Bf (Nd ss H) xs D)(t:B7 H H'):Bf (Nd ss H') xs D:=GN (λ_ _ W=>by obtain⟨a,s,J,e,U⟩:=W;show⟨a,s,J,e,t _ _ U⟩) h
theorem mQ(h:Bf (J3 ss H) xs D):∃ys:List AB,Bf (λx y=>∃a B u2 u3 C,x=.ref a/\H a=AA (.tup [B,u2,u3,C,y])) xs ys/\Bf (Nd ss H) ys D:=by induction h with|nil=>show⟨[],.nil,.nil⟩|cons h _ Y=>lk;obtain⟨ys,Z,A⟩:=Y;obtain⟨a,r,s,J,e,U,W⟩:=h;k_in;show⟨_,.cons ⟨a,_,_,_,_,e,U⟩ Z,.cons ⟨r,s,J,rfl,W⟩ A⟩
noncomputable def RM(D:List (AL×AB))(n:Nat)(now:Option Int)(J:Nat->AF->List AV):Nat->AF->List AV:=λi z=>if(.inl (i:Int):AL)∈(D.take n).map (·.1)then GJ now (J i z)else J i z
def kJ(ss:List AU)(D:Nat->Em)(J b:AE):Prop:=b=J\/∃i∈An ss,b=(D i).d
structure Kc(F:AI->AB->FE->Prop)(ss:List AU)(dg tl:AE)(o:BP)(gkvs:List (AL×AB))(gd:Nat->Em)(gg:Nat->AF->List AV)(gk:Nat->List (AL×AB))(now:Option Int)(H1:AI)(n:Nat)(H':AI)(acc:List AB)(qs:List FE)(gk':Nat->List (AL×AB)):Prop where
 ed:H' dg=AA (.frz o (.dK gkvs))sm:DZ (kJ ss gd tl) H1 H'
 gr:C4 AM [tl] H' ss (An ss) dg gkvs gd (RM gkvs n now gg) gk'
 lk:∀i∈An ss,(gk' i).length<=(gk i).length
 et:H' tl=AA (.lst acc)pr:Bf (F H') acc qs
 nd:(qs.map G8).Nodup
 mm:∀q:FE,q∈qs↔(.inl (q.1:Int):AL)∈(gkvs.take n).map (·.1)/\q.2.2∈GH now (gg q.1 q.2.1)lq:qs.length<=1800000*n
theorem Kc.bh(c:Kc F ss Z E o J A B C now W n Y D V U):D.length=V.length:=(Cn c.pr).1
theorem Kc.ak{K:List FE}(c:Kc F ss Z L o D A B C now W n Y J K U)(E:∀{H H':AI}{x:AB}{q:FE},B7 H H'->F H x q->F H' x q)(s:Aj Y H'):Kc F ss Z L o D A B C now W n H' J K U:=⟨s _ _ c.ed,λb I G e=>s _ _ (c.sm b I G e),c.gr.ak s,c.lk,s _ _ c.et,GN (λ_ _=>E s.tp) c.pr,c.nd,c.mm,c.lq⟩
theorem Kc.ie{now:Option Int}{n:Nat}(c:Kc F ss b L o D J Z f now a n I M h A)(G:DI ss)(B:JU (An ss) J D){i:Nat}(R:D[n]?=AA (.inl (i:Int),.ref (J i).x))(hi:i∈An ss):∃st W,ss[i]?=AA st/\st.dw/\st.so∈G6/\Dl AM [L] I (J i).x (J i).p (J i).d st (Z i) (A i)/\I (J i).x=AA (.ins AM.ar W [("step",.ref (J i).p),("rows",.ref (J i).d)])/\(.inl (i:Int):AL)∉(D.take n).map (·.1)/\L≠(J i).d:=by
 have V:(.inl (i:Int):AL)∉(D.take n).map (·.1):=λK=>by
  rw[AD5]at K;obtain⟨j,C,e⟩:=Gz.mp K;rw[EH]at C;rw[TQ]at e;have N:(D.map (·.1))[n]?=AA (.inl (i:Int)):=by rw[Bo,R];rfl
  obtain⟨Q,T⟩:=BU.mp N;show(Ig.mp B.nd) j n (Bl C (WW _ _)) Q (Bl C (LJ _ _)) (e.trans T.symm)
 lk;obtain⟨st,Y,S⟩:=Hm.mp hi;obtain⟨H,E,_⟩:=G.dw Y S;obtain⟨X,U,v,g⟩:=c.gr.ie i hi;rw[Y]at U;cases U;have P:RM D n now Z i=Z i:=funext λz=>AHS V;rw[P]at g;obtain⟨W,O⟩:=g.bb;k_in;show⟨st,W,Y,H,E,g,O,V,λz=>by have:=c.et;rw[z,g.ao.aj]at this;cases this⟩
theorem Kc.gh{F:AI->AB->FE->Prop}{A:Nat->Em}{W:Nat->AF->List AV}{gk B:Nat->List (AL×AB)}{i:Nat}{st:AU}{M:List (AF×AV)}{N:AI}(c:Kc F ss dg C o D A W gk now H1 n H2 T qs B)(m:∀i∈An ss,(gk i).length<=600)(I:∀i∈An ss,∀z,De (W i z)/\(W i z).length<=3000)(hp:D[n]?=AA (.inl (i:Int),.ref (A i).x))(hi:i∈An ss)(es:ss[i]?=AA st)(u:(.inl (i:Int):AL)∉(D.take n).map (·.1))(v:C≠(A i).d)(s3:Bj (A i).d H2 S)(g3:Dl AM [r,C] S (A i).x (A i).p (A i).d st (λkey=>GJ now (W i key)) l)(Q:M.Perm (EU (λkey=>GH now (W i key)) ks))(kn:ks.Nodup)(km:∀k,W i k≠[]->k∈ks)(l3:l.length<=(B i).length)(lke:ks.length=(B i).length)(w:Bj C S N)(X:N C=AA (.lst U))(s:Bf (F N) U (qs++M.map λY=>(i,Y.1,Y.2))):Kc F ss dg C o D A W gk now H1 (n+1) N U (qs++M.map λY=>(i,Y.1,Y.2)) (λk=>if k=i then l else B k):=by
  have tk:(D.take (n+1)).map (·.1)=(D.take n).map (·.1)++[.inl (i:Int)]:=by rw[DH,hp,CQ];rfl
  have H:=c.gr.gh hi es s3 g3.jq;have L:C≠dg:=λz=>by have:=c.et;rw[z,c.ed]at this;cases this
  have G:=s3 _ _ v c.et;have t:=c.gr.jm i hi;have j:=H.cy (q:=(.=C)) (λb P K e=>w b P K e) (λb O=>.inl ⟨by rw[O];show .head _,T,by rw[O];show G⟩) (λk E z=>by obtain⟨_,_,_,f⟩:=H.ie k E;have:=f.ao.aj;rw[z,G]at this;cases this) L.symm;show⟨w _ _ L.symm (s3 _ _ t c.ed),λb P K e=>w b P (λz=>K (.inl z)) (s3 _ _ (λz=>K (.inr ⟨i,hi,z⟩)) (c.sm b P K e)),j.wx λk E=>?_,λk E=>?_,X,s,?_,λq=>?_,?_⟩
  . unfold RM;rw[tk];by_cases q:k=i;. subst q;rw[AHT rfl];funext z;show AHT (EO _ (.head _))
    . rw[AHS q];funext z;by_cases R:(.inl (k:Int):AL)∈(D.take n).map (·.1);.rw[AHT R,AHT (Ic _ R)]
      .rw[AHS R,AHS λz=>(C1.mp z).elim R λz=>q (by have:=Iq (Bc.mp z);show NX.mp this)]
  . by_cases q:k=i;. subst q;rw[AHT rfl];show Ag l3 (c.lk k hi)
    . rw[AHS q];show c.lk k E
  . rw[CQ,Cz];show ABf.mpr ⟨c.nd,?_,λa ha b O e=>?_⟩
    . have Z:=VG (g:=λz=>GH now (W i z)) (λz=>pU (I i hi z).1) kn;have J:=(Q.map λY=>(Y.1,Y.2.1)).nodup_iff.mpr Z;show Eh.mpr ((Eh.mp J).imp λ{a b}h e=>h (Tb (GS (EG (EG (EG e).2).2).1) (Iq (EG (EG (EG (EG e).2).2).2).1)))
    . subst e;lk;obtain⟨x,hx,rfl⟩:=Ax.mp ha;obtain⟨y,hy,e⟩:=Ax.mp O;k_in;have d1:(i:Int)=(x.1:Int):=Iq (EG (EG e).2).1;have:=((c.mm x).mp hx).1;rw[<-d1]at this;show u this
  . rw[C1,c.mm,tk,C1,Bc];constructor
    . rintro(⟨Z,J⟩|h);.show⟨.inl Z,J⟩
      . obtain⟨Y,E,rfl⟩:_:=Ax.mp h;show⟨.inr rfl,(Pl.mp (Q.mem_iff.mp E)).2⟩
    . rintro⟨Z|Z,J⟩;.show .inl ⟨Z,J⟩
      . have e:q.1=i:=NX.mp (Iq Z);rw[e]at J;show .inr (Ax.mpr ⟨(q.2.1,q.2.2),Q.mem_iff.mpr (Pl.mpr ⟨km _ λz=>?_,J⟩),by rw[<-e]⟩);have J:q.2.2∈GH now (W i q.2.1):=J;rw[z]at J;cases now<;>cases J
  . rw[Ba,Au,Q.length_eq];have Z:=R4 (g:=λz=>GH now (W i z)) (n:=3000) (λz=>Ag Ym (I i hi z).2) ks;have J:=m i hi;have h3:=c.lk i hi;have h4:=c.lq;(first|lia|omega)
theorem Kc.acm{K:AE}(c:Kc F ss J K o D B L s now k D.length U A T M)(l:∀{H H':AI}{x:AB}{q:FE},B7 H H'->F H x q->F H' x q)(r:D.length<=8)(N:JU (An ss) B D)(Z:H K=AG)(a:H J=AA (.dK D))(R:∀b,b≠J->b≠K->k b=H b\/H b=AG):(AR U J (.dK D)) K=AA (.lst A)/\C4 AM [] (AR U J (.dK D)) ss (An ss) J D B (λi z=>GJ now (L i z)) M/\Bf (F (AR U J (.dK D))) A T/\DZ (λb=>∃i∈An ss,b=(B i).d) H (AR U J (.dK D))/\(∀q:FE,q∈T↔q.1∈An ss/\q.2.2∈GH now (L q.1 q.2.1))/\T.length<=14400000/\∀b,(AR U J (.dK D)) b=AG->H b=AG:=by
  have G:∀{i:Nat},i∈An ss↔(.inl (i:Int):AL)∈D.map (·.1):=λ{i}=>by
    constructor
    . intro E;obtain⟨_,_,v,_⟩:=c.gr.ie i E;show Ax.mpr ⟨_,Gy v,rfl⟩
    . intro h;obtain⟨p,n,e⟩:=Ax.mp h;obtain⟨j,m,rfl⟩:=N.yz p n;have:j=i:=NX.mp (Iq e);rw[<-this];show m
  have Q:K≠J:=λz=>by rw[z,a]at Z;cases Z
  have W:∀b,b≠J->(AR U J (.dK D)) b=U b:=λb P=>Aa P;have Y:=c.gr;have I:=c.mm;have t:=c.lq;unfold RM at Y;rw[Dj (Ai _)]at Y I;have C:=(Y.vy (.inl Ak) W).wx (gg':=λi z=>GJ now (L i z)) λi E=>funext λz=>(AHT (G.mp E)).symm;have X:B7 U (AR U J (.dK D)):=λb u e=>by rw[W b λz=>by rw[z,c.ed]at e;cases e];show e
  have s3:DZ (λb=>∃i∈An ss,b=(B i).d) H (AR U J (.dK D)):=λb S P e=>by
    by_cases q:b=J
    . rw[q,a]at e;cases e;rw[q];show Ak
    . rw[W b q];have f:b≠K:=λz=>by rw[z,Z]at e;cases e
      rcases R b q f with h|h;.show c.sm b S (λz=>z.elim f P) (by rw[h];show e)
      .rw[h]at e;cases e
  show⟨by rw[W _ Q];show c.et,C.jq,GN (λ_ _=>l X) c.pr,s3,λq=>by rw[I,<-G],by(first|lia|omega),λb O=>?_⟩;cases q:H b with |none=>rfl|some S=>
    by_cases z:∃i∈An ss,b=(B i).d
    . obtain⟨i,E,z⟩:=z;obtain⟨_,_,_,g⟩:=C.ie i E;have:=g.ao.aj;rw[<-z,O]at this;cases this
    . rw[s3 b S z q]at O;cases O
theorem YD(t:B7 H H')(h:J3 ss H x q):J3 ss H' x q:=by obtain⟨a,r,s,D,e,J,U⟩:_:=h;show⟨a,r,s,D,e,t _ _ J,t _ _ U⟩
def sP(F:CA):BF:=λI H Q _=>(Jz λ(B:AE)(J:List AU)(D:List (AL×AB))(C:Nat->Em)(Y:Nat->AF->List AV)(E:Nat->List (AL×AB))(U:Option Int)=>NY (I=[.ref B,Nm U]) (H B=AA (.dK D)) (DI J) (J.length<=20) (D.length<=8) (JU (An J) C D) (C4 F [] H J (An J) B D C Y E) ((∀i∈An J,(E i).length<=600)) ((∀i∈An J,∀z,De (Y i z)/\(Y i z).length<=3000)) (∀W r G A Z,DZ (λb=>∃i∈An J,b=(C i).d) H W->C4 F [] W J (An J) B D C (λi z=>GJ U (Y i z)) Z->(∀i∈An J,(Z i).length<=(E i).length)->H r=AG->W r=AA (.lst G)->Bf (J3 J W) G A->(A.map G8).Nodup->Cm (A.map G8)->(∀q:FE,q∈A↔q.1∈An J/\q.2.2∈GH U (Y q.1 q.2.1))->A.length<=14400000->Q (.ref r) W))
theorem nI(T:BM AH AZ AM):T.vh.Ok BE P w AZ base 5 (sP AM):=by
    show T.vh.ok λnd _ _ _ _ _ hr H vs Q E h=>?_;obtain⟨Y,ss,J,N,gg,gk,F,rfl,eg,pok,lss,lkv,O,gr,lgk,X,k⟩:_:=h;show⟨_,(EN (BN 2 nd (CM Fx)) (EN (bV (D3 D7 rfl (AAF (AD 0) rfl rfl) (Nn rfl (IA (D2 3 nd) (IA (D2 4 nd) M4))) (Af (Dr (GO (K:=AH) MG Od Qk My (AD 2) #v[(HR (Cy Y4) [("place",3)] ⟨rfl,rfl,trivial⟩ (DQ (K:=AH) (Hk (AD 4) T.ba (nH T) hr #v[AD 1])) (λ_ _ _ _=>Fy) (λ_ _ _ _=>(CY #v[BA AH (AD 0) AN,AD 1,BA AH (AD 0) AN,BA AH (AD 0) AN,AD 0])))]))))) (Af (BD (CW (xB (K:=AH) hr) (by rfl) T.ik Tf #v[AD 2]))))),?_⟩;have sz:As=16777216:=CL;showλ_ _ _ _ z1=>⟨Bm _,λL A=>z1 _ _ ?_⟩;show Ao (o:=.lst []) A λH0 s0 et0=>?_;have gr0:=(gr.ic A).ak s0;have eg0:=s0 _ _ eg;showλ_ _ _ _ z2=>⟨Y,(λo u z=>by rw[eg0]at z;cases z),Y,J,rfl,eg0,λo H1 e1=>?_⟩;subst e1;have ndt:L≠Y:=λz=>by rw[z,eg]at A;cases A
    have s:∀b,b≠Y->(AR H0 Y (.frz o (.dK J))) b=H0 b:=λb f=>Aa f;have c0:Kc (J3 ss) ss Y L o J N gg gk F (AR H0 Y (.frz o (.dK J))) 0 (AR H0 Y (.frz o (.dK J))) [] [] gk:=⟨Ak,λb o _ e=>e,gr0.vy (.inr ⟨o,Ak⟩) s,λi _=>Ai _,by rw[Aa ndt];show et0,.nil,.nil,λq=>⟨λh=>(by cases h),λh=>(by cases h.1)⟩,Bm _⟩;generalize AR H0 Y (.frz o (.dK J))=H1 at s c0⊢;show xZ (kvs:=J) (λn σ v=>(Iv λ(o3 o4:Option AB)(W:List AB)(qs:List FE)(Z:Nat->List (AL×AB))=>XC (σ=(jY Y (AA (Nm F)) L o3 o4)) (Kc (J3 ss) ss Y L o J N gg gk F H1 n v W qs Z))) ⟨AG,AG,[],[],gk,rfl,c0⟩ (λn σ v _ hh=>by obtain⟨_,_,_,_,_,_,c⟩:=hh;show c.ed) ?_ ?_
    . intro n p σ H2' rp hp R hrp;lk;obtain⟨o3,o4,W,qs,Z,rfl,c'⟩:=R;obtain⟨i,hi,rfl⟩:=O.yz p (Cp hp);k_in;show Ao (o:=.tup [Az (.inl (i:Int)),.ref (N i).x]) hrp λH2 g2 erp=>?_;show⟨rp,_,rfl,Aq erp,rfl,_,_,rfl,_,_,rfl,rfl,?_⟩;have c:=c'.ak YD g2;have hn:n<J.length:=(BU.mp hp).1;obtain⟨st,dx,es,tok,hso,g,eo,new,ntd⟩:_:=c.ie pok O hp hi;have l1:=c.lk i hi;have l2:=lgk i hi;show⟨.inl ⟨rfl,_,AW c.et⟩,(N i).x,dx,_,rfl,eo,by rfl,[L],(N i).x,(N i).p,(N i).d,st,gg i,Z i,F,rfl,g,(λc' hc=>by rw[Bc.mp hc];show⟨_,c.et⟩),tok,hso,Ag l1 (Ag l2 (by decide)),(λz=>Ag (X i hi z).2 (by decide)),λH3 r xs kss k3 ks s3 g3 hr3 er3 hw3 pm3 _ kn km l3 lke=>⟨r,rfl,⟨_,AW er3⟩,?_⟩⟩;obtain⟨M,pM,rfl⟩:_:=ZT pm3;have I:=s3 _ _ ntd c.et;have tp3:B7 H2 H3:=s3.tp g.ao.aj (by intro xs z;cases z);have B:=PU c.pr tp3;have lM:M.length<=1800000:=by rw[pM.length_eq];have:=R4 (g:=λz=>GH F (gg i z)) (n:=3000) (λz=>Ag Ym (X i hi z).2) ks;(first|lia|omega)
      have lx:=hw3.bh;rw[Au]at lx;have lacc:=c.bh;have lq:=c.lq;show JJ (K:=AH) (xs:=xs) (λj τ U v=>(∃o,τ=[o,AA (.int (i:Int))])/\Aj H3 v/\Bf (J3 ss v) U ((M.take j).map λkp=>(i,kp.1,kp.2))) (by(first|lia|omega)) ⟨⟨AG,rfl⟩,DF _,.nil⟩ (λj τ U v⟨_,s',_⟩=>AW (s' _ _ er3)) ?_ ?_
      . intro j y τ U H5 R1 hy _ R k1;lk;obtain⟨⟨o,rfl⟩,s5,C⟩:=R;obtain⟨a,row,rfl,er,ea⟩:=hw3.at hy;rw[Bo]at er;obtain⟨kp,ekp,rfl⟩:=EK.mp er;k_in;have G:=s5 _ _ ea;show⟨_,_,Aq G,Ae (j:=3) rfl,_,_,Aq G,Ae (j:=1) rfl,_,_,Aq G,Ae (j:=2) rfl,A1 rfl,λm hm=>k1 _ _ _ ⟨⟨_,rfl⟩,s5.dz hm,?_⟩⟩;have sm:=C9 (o:=.tup [.int kp.2.2.1,.int (i:Int),.str kp.1,.int kp.2.1,.ref a]) hm;rw[DH,ekp,CQ];show EE (PU C sm.tp) (.cons ⟨m,a,st,es,rfl,Ak,sm _ _ G⟩ .nil)
      . intro τ U H5 _ R D hD;obtain⟨_,s5,C⟩:_:=R;rw[Dj (Bq lx.symm)]at C;have S:=(Cn C).1;rw[Au]at S;show Ao hD λH6 s6 eD=>?_;have t:=s5.aa s6;have et6:=t _ _ I;show⟨L,D,_,_,rfl,rfl,et6,eD,by(first|lia|omega),?_⟩;have tp6:B7 H6 (AR H6 L (.lst (W++U))):=(KD H6).dz et6 λxs=>by intro z;cases z
        show⟨_,_,W++U,_,_,rfl,c.gh lgk X hp hi es new ntd s3 g3 pM kn km l3 lke (λb o f e=>by rw[Aa f];show t _ _ e) Ak (EE (PU B λb ys e=>tp6 _ _ (t _ _ e)) (PU C λb ys e=>tp6 _ _ (s6 _ _ e)))⟩
    . intro σ H2 R;lk;obtain⟨o3,o4,W,qs,Z,rfl,c⟩:=R;obtain⟨I,gr3,B,s3,mm,lq,fr⟩:=c.acm (H:=H) YD lkv O A eg λb f nt=>by rw[s b f];cases q:H b with|none=>show .inr rfl|some ob=>show .inl (s0 _ _ q)
      k_in;show⟨o,_,c.ed,z2 _ _ ?_⟩;have nd2:=c.nd;have lk2:=c.lk;clear c;generalize AR H2 Y (.dK J)=H3 at I gr3 B s3 fr⊢;obtain⟨ds,ed,sn⟩:_:=mG B nd2;show⟨L,W,ds,_,rfl,AW I,sn,λl qq hl pq sq=>?_⟩;rw[ed]at pq;obtain⟨R',p1,w1,e1⟩:_:=rV B pq;have s4:=C9 (o:=.lst (qq.map (·.1))) hl;have lr:=p1.length_eq;show k _ l _ R' Z (λb ob f e=>s4 _ _ (s3 b ob f e)) (gr3.ak s4) lk2 (fr _ hl) Ak (PU w1 s4.tp) ((p1.map G8).nodup_iff.mpr nd2) (by change List.Pairwise _ _;rw[e1];show sq) (λq=>by rw[p1.mem_iff,mm]) (by(first|lia|omega))
def vA(E:CA):BF:=λL H Q _=>(UH λ(D:List AU)(F:FD)(I A W B:Int)(G:Nat->List AO×List AO)(Y:Nat->AF->List AV)(C:Nat->List (AL×AB))(m:Option Int)=>JQ (L=[.ref F.x,Nm m]) (DU E H D F I A W B G Y C) (DI D) (D.length<=20) ((∀i∈An D,(C i).length<=600)) ((∀i∈An D,∀z,De (Y i z)/\(Y i z).length<=3000)) (∀U r K J Z,(∀b o,¬JY D F b->H b=AA o->U b=AA o)->DU E U D F I A W (B+(J.length:Int)) G (λi z=>GJ m (Y i z)) Z->(∀i∈An D,(Z i).length<=(C i).length)->H r=AG->U r=AA (.lst K)->Bf (Nd D U) K J->(J.map G8).Nodup->Cm (J.map G8)->(∀q:FE,q∈J↔q.1∈An D/\q.2.2∈GH m (Y q.1 q.2.1))->J.length<=14400000->Q (.ref r) U))
theorem Yi(T:BM AH AZ AM):T.jc.Ok BE P w AZ base 6 (vA AM):=by
 show T.jc.ok λl _ _ _ _ _ hr H vs Q E h=>?_;obtain⟨p,F,sl,now,cnt,W,sd,gg,gk,m,rfl,U,pok,lss,lgk,lgg,k⟩:_:=h;show⟨_,(Ah (BN 2 l (BC (pC T) hr #v[BC (nI T) hr #v[Bs (AD 0) rfl,AD 1]])) (Ah (Fs (AD 0) (Ac Et (Bs (AD 0) rfl) (CW (Fc (K:=AH)) (by rfl) T.cx Ez #v[AD 2])) rfl) (Af (BD (AD 2))))),?_⟩;have sz:As=16777216:=CL;obtain⟨G,ex⟩:=U.bb;show⟨_,⟨ex,T.ah,T.cp,rfl⟩,?_⟩;show⟨F.dg,p,F.mn,F.gd,gg,gk,m,rfl,U.fq,pok,lss,U.sg,U.xq,U.au,lgk,lgg,λH1 r xs qs u s1 N y hr1 t R nd1 sd1 mm1 lq1=>?_⟩;obtain⟨C,p1,p2⟩:_:=mQ R;have lx:=(Cn R).1;have lys:=(Cn p2).1;show⟨r,xs,C,rfl,t,by lia,p1,λr2 B=>?_⟩;show Ao B λL I A=>?_;have O:∀b,(∃i∈An p,b=(F.gd i).d)->∃D,H b=AA (.dK D):=λb⟨i,Y,z⟩=>by obtain⟨_,_,_,g⟩:=U.au.ie i Y;show⟨_,by rw[z];show g.ao.aj⟩
 have f:∀{b:AE}{o:Bw},H b=AA o->(∀D,o≠.dK D)->L b=AA o:=λ{b o}e n=>I _ _ (s1 _ _ (λz=>by obtain⟨D,e'⟩:=O _ z;rw[e]at e';show n _ (CD e')) e);have J:=f ex (by intro D z;cases z);show⟨_,⟨J,T.ah,T.cq,rfl⟩,_,.inl (AW A),F.x,_,G,_,rfl,J,T.ah,T.cq,(by change 5<1000;decide),?_⟩;have Z:Bj F.x L (AR L F.x (.ins AM.av G (Kh F (W+(C.length:Int))))):=zzu
 have s:Gw "number" (.int (W+(C.length:Int))) (Kh F W)=Kh F (W+(C.length:Int)):=by
  have d:("plan":AF)≠"number"/\("clock":AF)≠"number"/\("joins":AF)≠"number"/\("groups":AF)≠"number":=by decide+kernel
  rfl
 rw[s];have M:(AR L F.x (.ins AM.av G (Kh F (W+(C.length:Int))))) F.x=AA (.ins AM.av G (Kh F (W+(C.length:Int)))):=Ak;generalize AR L F.x (.ins AM.av G (Kh F (W+(C.length:Int))))=a at Z M⊢;have c:((["plan","clock","joins","groups","number"]:List AF)≠(["within","sides"]:List AF)/\(["plan","clock","joins","groups","number"]:List AF)≠(["rows"]:List AF))/\(["plan","clock","joins","groups","number"]:List AF)≠(["step","rows"]:List AF)/\(["plan","clock","joins","groups","number"]:List AF)≠(["slack","now","count"]:List AF):=by decide+kernel
 have x:=((U.bz.cy s1 (λb hb=>.inr (O b hb)) (λb⟨i,Y,z⟩=>by rw[z];show(U.uo i Y).1) λ⟨i,Y,z⟩=>(U.uo i Y).2 z).ak I).bb Z J c.1.1 c.1.2;have v:=(N.ak I).bb Z J c.2.1;have S:B7 H a:=λb xs e=>Jb Z J (f e (by intro D z;cases z)) λ_ _ _ z=>by cases z
 have X:B7 H1 a:=λb xs e=>Jb Z J (I _ _ e) λ_ _ _ z=>by cases z
 obtain⟨dc,ec⟩:=U.dv;have l:∀{b:AE}{D:List (AL×AB)},H b=AA (.dK D)->(¬∃i∈An p,b=(F.gd i).d)->a b=AA (.dK D):=λ{b D}e n=>Jb Z J (I _ _ (s1 _ _ n e)) λ_ _ _ z=>by cases z
 have r2x:r2≠F.x:=λz=>by rw[z,J]at A;cases A
 show k a r2 C qs u (λb o j e=>?_) ?_ y ?_ (Z _ _ r2x A) (Y1 p2 X) nd1 sd1 mm1 lq1;.show Z _ _ (λz=>j (.inl z)) (I _ _ (s1 _ _ (λz=>j (.inr (.inr (.inr z)))) e))
 . rw[<-lys];show⟨⟨Jb Z J (f U.ji (by intro D z;cases z)) (λ_ _ _ z=>by cases z),U.ig.ab S,l U.ft λ⟨i,Y,z⟩=>(U.uo i Y).2 z,U.xv,x,l U.fq λ⟨i,Y,z⟩=>U.au.jm i Y z,U.sg,U.xq,v,U.uo,U.jm⟩,⟨G,M⟩,⟨dc,Jb Z J (f ec (by intro D z;cases z)) λ_ _ gs z=>?_⟩⟩;injection z with _ _ z;rw[<-z];show c.2.2
 .cases q:H r2 with|none=>rfl|some o=>
   by_cases z:∃i∈An p,r2=(F.gd i).d
   . obtain⟨i,Y,z⟩:=z;obtain⟨_,_,_,g⟩:=N.ie i Y;have:=g.ao.aj;rw[<-z,B]at this;cases this
   . rw[s1 _ _ z q]at B;cases B
theorem Kl:((["plan","clock","joins","groups","number"]:List AF)≠(["slack","now","count"]:List AF))/\(["slack","now","count"]:List AF)≠(["within","sides"]:List AF)/\(["slack","now","count"]:List AF)≠(["rows"]:List AF)/\(["slack","now","count"]:List AF)≠(["step","rows"]:List AF):=by decide+kernel
theorem FC.bb(h:FC AM ex H ss A sd Z B)(s:Bj x H H')(W:H x=AA (.ins C F J))(G:J.map (·.1)≠(["within","sides"]:List AF))(I:J.map (·.1)≠(["rows"]:List AF))(K:J.map (·.1)≠(["step","rows"]:List AF)):FC AM ex H' ss A sd Z B:=by have U:∀{b:AE}{o:Bw},H b=AA o->(∀Y D E,o≠.ins Y D E)->H' b=AA o:=λe n=>Jb s W e λY D E z=>absurd z (n _ _ _);show⟨U h.ji (by intro _ _ _ z;cases z),h.ig.ab λb L e=>U e (by intro _ _ _ z;cases z),U h.ft (by intro _ _ _ z;cases z),h.xv,h.bz.bb s W G I,U h.fq (by intro _ _ _ z;cases z),h.sg,h.xq,h.au.bb s W K,h.uo,h.jm⟩
theorem FC.abr(h:FC AM ex H ss A sd J U)(D:I9 ss A.jd A.gd b):∃kvs,H b=AA (.dK kvs):=by
 rcases D with D|⟨i,W,z⟩;.show h.bz.vw D
 . obtain⟨_,_,_,g⟩:_:=h.au.ie i W;show⟨_,by rw[z];show g.ao.aj⟩
theorem FC.kp(h:FC AM ex H ss A sd J U)(s:DZ (I9 ss A.jd A.gd) H H')(e:H b=AA o)(n:∀kvs,o≠.dK kvs):H' b=AA o:=s _ _ (λz=>by obtain⟨kvs,D⟩:=h.abr z;rw[e]at D;show n _ (CD D)) e
theorem FC.xf(h:FC AM ex H ss A sd Y Z)(s:DZ (I9 ss A.jd A.gd) H H')(C:Cf AM ex H' ss A.dj A.mw A.jd U)(B:C4 AM ex H' ss (An ss) A.dg A.mn A.gd gg' J):FC AM ex H' ss A U gg' J:=⟨h.kp s h.ji (by intro W z;cases z),h.ig.ab λb E e=>h.kp s e (by intro W z;cases z),s _ _ (λz=>z.elim (λ⟨i,D,z⟩=>z.elim (h.bz.ve i D).1 (h.bz.ve i D).2) λ⟨i,D,z⟩=>(h.uo i D).2 z) h.ft,h.xv,C,s _ _ (λz=>z.elim h.jm λ⟨i,D,z⟩=>h.au.jm i D z) h.fq,h.sg,h.xq,B,h.uo,h.jm⟩
theorem DU.aay(h:DU AM H ss F Y now W U sd B C)(s:Bj F.ck H H')(e:H' F.ck=AA (.ins AM.aq Z (E2 Y J D))):DU AM H' ss F Y J D U sd B C:=by lk;obtain⟨G,I⟩:=h.bb;obtain⟨E,A⟩:=h.dv;k_in;show⟨h.toFC.bb s A Kl.2.1 Kl.2.2.1 Kl.2.2.2,⟨G,Jb s A I λ_ _ K z=>?_⟩,⟨Z,e⟩⟩;injection z with _ _ z;rw[<-z];show Gk Kl.1
theorem DU.xf(h:DU AM H ss F Z now D U sd G I)(s:DZ (I9 ss F.jd F.gd) H H')(L:Cf AM [] H' ss F.dj F.mw F.jd W)(K:C4 AM [] H' ss (An ss) F.dg F.mn F.gd gg' J):DU AM H' ss F Z now D U W gg' J:=by lk;obtain⟨B,E⟩:=h.bb;obtain⟨A,C⟩:=h.dv;k_in;show⟨h.toFC.xf s L K,⟨B,h.kp s E (by intro Y z;cases z)⟩,⟨A,h.kp s C (by intro Y z;cases z)⟩⟩
theorem rT(h:a<=b)(l:List AO):CH b (CH a l)=CH b l:=by
 unfold CH;rw[TK];show NB λi _=>?_;by_cases q:b<=i.1
 . rw[AHV q,AHV (FQ h q)];rfl
 . rw[AHW q];rfl
theorem pR(h:a<=b)(l:List AV):JE b (JE a l)=JE b l:=by
 unfold JE;rw[TK];show NB λi _=>?_;change(Ab _&&Ab _)=Ab _;by_cases q:b<i.2.1
 . rw[AHV q,AHV (JP h q)];rfl
 . rw[AHW q];rfl
theorem nA:n<=Gq n s t:=by
 unfold Gq JC;split;.show LQ _
 .split<;>(first|lia|omega)
def tG(C:CA):BF:=λL H Q _=>(MQ λ(D:List AU)(F:FD)(I Y W Z:Int)(G:Nat->List AO×List AO)(A:Nat->AF->List AV)(E:Nat->List (AL×AB))=>JQ (L=[.ref F.x]) (DU C H D F I Y W Z G A E) (DI D) (D.length<=20) ((∀i∈An D,(E i).length<=600)) ((∀i∈An D,∀z,De (A i z)/\(A i z).length<=3000)) (∀U r K J B,(∀b o,¬JY D F b->H b=AA o->U b=AA o)->DU C U D F I Y W (Z+(J.length:Int)) G (λ_ _=>[]) B->H r=AG->U r=AA (.lst K)->Bf (Nd D U) K J->(J.map G8).Nodup->Cm (J.map G8)->(∀q:FE,q∈J↔q.1∈An D/\q.2.2∈A q.1 q.2.1)->J.length<=14400000->Q (.ref r) U))
theorem nR(T:BM AH AZ AM):T.jt.Ok BE P w AZ base 7 (tG AM):=by show T.jt.ok λI _ _ _ _ _ U H i Q E h=>?_;obtain⟨f,F,e,Z,D,A,C,R,S,rfl,G,B,Y,W,V,k⟩:_:=h;show⟨_,(Af (BD (Hk (AD 0) T.ah (Yi T) U #v[Gh]))),?_⟩;obtain⟨M,O⟩:=G.bb;show⟨F.x,M,_,rfl,O,by rfl,f,F,e,Z,D,A,C,R,S,AG,rfl,G,B,Y,W,V,λL r g d X s1 J _ U N c I C b a=>k L r g d _ s1 J U N c I C b a⟩
theorem FC.ak(h:FC AM ex H ss A sd D J)(s:Aj H H'):FC AM ex H' ss A sd D J:=⟨s _ _ h.ji,h.ig.ab s.tp,s _ _ h.ft,h.xv,h.bz.ak s,s _ _ h.fq,h.sg,h.xq,h.au.ak s,h.uo,h.jm⟩
theorem DU.ak(h:DU AM H ss F Y now D J sd U W)(s:Aj H H'):DU AM H' ss F Y now D J sd U W:=by lk;obtain⟨A,C⟩:=h.bb;obtain⟨Z,B⟩:=h.dv;k_in;show⟨h.toFC.ak s,⟨A,s _ _ C⟩,⟨Z,s _ _ B⟩⟩
theorem FC.wx(h:FC AM ex H ss A sd D J)(e:∀i∈An ss,gg' i=D i):FC AM ex H ss A sd gg' J:=⟨h.ji,h.ig,h.ft,h.xv,h.bz,h.fq,h.sg,h.xq,h.au.wx e,h.uo,h.jm⟩
theorem DU.wx(h:DU AM H ss F Y now D J sd U W)(e:∀i∈An ss,gg' i=U i):DU AM H ss F Y now D J sd gg' W:=⟨h.toFC.wx e,h.bb,h.dv⟩
def sZ(G:CA):BF:=λP H Q _=>(UI λ(J:List AU)(F:FD)(E D Y Z:Int)(N:Nat->List AO×List AO)(M:Nat->List (AL×AB))(L W:AF->List AO)(C:List CF)(e:CF)(q:AE)=>LU (P=[.ref F.x,.ref q]) (MS G H J F E D Y Z N M L) (DI J) (J.length<=20) (Kd H q e) ((∀(i:Nat)s,J[i]?=AA s->s.cu=AQ->L s.nm=FF s L C/\W s.nm=FF s W (C++[e])/\Nf s W)) ((∀(i:Nat)s,J[i]?=AA s->s.cu=AQ->Hd (W s.nm))) ((e.1<D->∀U p r,(∀b o,¬JY J F b->H b=AA o->U b=AA o)->MS G U J F E D (Y+1) Z N M L->H p=AG->H r=AG->U p=AA (.tup [.bl AQ,.ref r])->U r=AA (.lst [])->Q (.ref p) U)) ((D<=e.1->∀U p r O A K I,(∀b o,¬JY J F b->H b=AA o->U b=AA o)->MS G U J F E (Gq D E e.1) (Y+1) (Z+(A.length:Int)) K I W->H p=AG->H r=AG->U p=AA (.tup [.bl AJ,.ref r])->U r=AA (.lst O)->Bf (Nd J U) O A->(A.map G8).Nodup->Cm (A.map G8)->(∀q:FE,q∈A↔q.1∈An J/\q.2.2∈Me (Gq D E e.1) (FX J D W q.1 q.2.1))->A.length<=14400000->(∀i∈An J,∃B,(W (I0 J i)).Perm (L (I0 J i)++B)/\∀x∈B,D<=x.1)->Q (.ref p) U)))
theorem YT(T:BM AH AZ AM):T.nq.Ok BE P w AZ base 7 (sZ AM):=by
  show T.nq.ok λnd _ _ _ _ _ y H vs Q E h=>?_;obtain⟨Z,F,O,D,W,num,sd,gk,L,L',evs,e,q,rfl,N,V,lss,ev,hL,tm,kl,k⟩:_:=h;show⟨_,(Ah (CP (Jn (Fg (Hk (Bs (AD 0) rfl) T.aw (nE T) y #v[BA AH (AD 1) AN]))) (Af (BD (CY #v[K6,CM Fx]))) Cg) (Ah (Dr (BC (oV T) y #v[Bs (AD 0) rfl,Bs (AD 0) rfl,Bs (AD 0) rfl,AD 1])) (Ah (Dr (BC (nL T) y #v[Bs (AD 0) rfl,Bs (Bs (AD 0) rfl) rfl])) (Af (BD (CY #v[K6,Hk (AD 0) T.ah (Yi T) y #v[Bs (Bs (AD 0) rfl) rfl]])))))),?_⟩;have sz:As=16777216:=CL;lk;obtain⟨dx,ex⟩:=N.ag.bb;obtain⟨u,ec⟩:=N.ag.dv;k_in;have nl:=nA (n:=D) (s:=O) (t:=e.1);show⟨_,⟨ex,T.ah,T.bc,rfl⟩,F.ck,u,_,rfl,ec,by rfl,_,_,Aq ev,Ae (j:=0) rfl,F.ck,u,e.1,O,D,W,rfl,ec,_,rfl,?_⟩;by_cases v:e.1<D
  . rw[AHW (RE v:¬D<=e.1)];have e0:Gq D O e.1=D:=AHT v;rw[e0];have x:Bj F.ck H (AR H F.ck (.ins AM.aq u (E2 O D (W+1)))):=zzu
    have J:=N.ag.aay x Ak;have c:∀b,(AR H F.ck (.ins AM.aq u (E2 O D (W+1)))) b=AG->H b=AG:=λb e=>Jd e;show GL ⟨Bm _,λr y=>?_⟩;have hrH:=c _ y;generalize AR H F.ck (.ins AM.aq u (E2 O D (W+1)))=H1 at x J c y⊢;show Ao y λH2 s2 er=>⟨A1 rfl,λp f=>?_⟩;have s3:=C9 (o:=.tup [.bl AQ,.ref r]) f;show kl v _ p r (λb o M e=>s3 _ _ (s2 _ _ (x _ _ (λz=>M (.inr (.inl z))) e))) ⟨(J.ak s2).ak s3,N.aaj,N.ay⟩ (c _ (s2.az f)) hrH Ak (s3 _ _ er)
  have v:D<=e.1:=by simp_all
  have k:=k v;clear kl;rw[AHV v];show HM ?_;generalize Gq D O e.1=m at nl k⊢;have x:Bj F.ck H (AR H F.ck (.ins AM.aq u (E2 O m (W+1)))):=zzu
  have J:=N.ag.aay x Ak;have ev1:Kd (AR H F.ck (.ins AM.aq u (E2 O m (W+1)))) q e:=x _ _ (λz=>by have ev:H q=_:=ev;rw[z,ec]at ev;cases ev) ev;have c:∀b,(AR H F.ck (.ins AM.aq u (E2 O m (W+1)))) b=AG->H b=AG:=λb e=>Jd e;generalize AR H F.ck (.ins AM.aq u (E2 O m (W+1)))=H1 at x J ev1 c⊢;obtain⟨dx1,ex1⟩:=J.bb;show⟨_,⟨ex1,T.ah,T.dm,rfl⟩,_,⟨ex1,T.ah,T.df,rfl⟩,_,⟨ex1,T.ah,T.cp,rfl⟩,F.lp,F.dj,F.dg,q,F.ps,Z,F.mw,F.jd,sd,L,L',evs,e,D,F.mn,F.gd,gk,rfl,J.ji,J.ig,V,Ag lss (by decide),J.bz,ev1,hL,N.ay,v,J.au,N.aaj,tm,J.uo,J.jm,λH2 bt gk2 s2 jr2 gr2 lg2 br2=>?_⟩;have Y:=J.xf s2 jr2 gr2;have ap:=UW V v hL N.ay br2 Z.length;lk;obtain⟨dx2,ex2⟩:=Y.bb;obtain⟨dc2,ec2⟩:=Y.dv;k_in;have fdp:∀{i:Nat}{n a b:AF}{d:Int},Z[i]?=AA (.join n a b d)->((L' a).Perm (L a++bt a)/\(L' a).length<=20000)/\(L' b).Perm (L b++bt b)/\(L' b).length<=20000:=λ{i n a b d}G=>by have U:i<Z.length:=(BU.mp G).1;obtain⟨i1,s1,l1,e1,rfl,t1⟩:=V.rl i _ a G (.head _);obtain⟨i2,s2,l2,e2,rfl,t2⟩:=V.rl i _ b G (.tail _ (.head _));show⟨⟨ap i1 s1 (NF l1 U) e1 t1,(hL i1 s1 e1 t1).2.2.bh⟩,ap i2 s2 (NF l2 U) e2 t2,(hL i2 s2 e2 t2).2.2.bh⟩
  show⟨_,⟨ex2,T.ah,T.df,rfl⟩,_,⟨ex2,T.ah,T.bc,rfl⟩,_,⟨ec2,T.aw,T.bp,rfl⟩,F.dj,Z,F.mw,F.jd,Ft Z sd Z.length bt,m,rfl,Y.ft,Y.xv,Y.bz,λi⟨n,a,b,d,G⟩=>?_,λH3 s3 jr3=>?_⟩
  . lk;obtain⟨⟨pa,la⟩,pb,lb⟩:=fdp G;obtain⟨qa,qb⟩:=N.ay i n a b d G;k_in;have h1:=Ph (D-d) (L a);have h2:=Ph (D-d) (L b);have h3:=pa.length_eq;have h4:=pb.length_eq;rw[Ba]at h3 h4;rw[Kq G,AHT (BU.mp G).1];change((sd i).1++bt a).length<=30000/\((sd i).2++bt b).length<=30000;rw[Ba,Ba,qa.length_eq,qb.length_eq];lia
  have R:=Y.xf (λb o M e=>s3 b o (λz=>M (.inl z)) e) jr3 (gr2.cy s3 (λb hb=>.inr (Y.bz.vw hb)) (λi U=>(Y.uo i U).1) Y.jm);lk;obtain⟨dx3,ex3⟩:=R.bb;obtain⟨dc3,ec3⟩:=R.dv;k_in;have tl:∀{i:Nat},i∈An Z->∃s,Z[i]?=AA s/\s.dw/\(L' s.fd).length<=20000/\Hd (L' s.fd):=λ{i}U=>by obtain⟨s,I,ht⟩:=Hm.mp U;obtain⟨tk,_,fd⟩:=V.dw I ht;obtain⟨i',s',l,C,en,t'⟩:=V.rl i s s.fd I (by rw[fd];show .head _);show⟨s,I,tk,by rw[<-en];show(hL i' s' C t').2.2.bh,by rw[<-en];show tm i' s' C t'⟩
  show⟨F.x,dx3,_,rfl,ex3,by rfl,_,⟨ex3,T.ah,T.bc,rfl⟩,_,⟨ec3,T.aw,T.bp,rfl⟩,Z,F,O,m,W+1,num,_,_,gk2,AA m,rfl,R,V,lss,(λi U=>?_),(λi U z=>?_),λH4 r xs qs gk4 s4 X lg4 hr4 er4 pr4 nd4 sd4 mm4 lq4=>?_⟩
  . obtain⟨s,I,tk,l,tms⟩:_:=tl U;obtain⟨s',es',_,g⟩:_:=gr2.ie i U;rw[Kr I]at g;show g.ao.yq tms
  . obtain⟨s,I,tk,l,tms⟩:_:=tl U;rw[Kr I];show⟨US (VB tk),VA tk tms⟩
  show⟨A1 rfl,λp f=>?_⟩;have s5:=C9 (o:=.tup [.bl AJ,.ref r]) f;have fb5:=X.ak s5;have kk:∀b o,¬JY Z F b->H b=AA o->H4 b=AA o:=λb o M e=>s4 b o M (s3 _ _ (λz=>M (.inr (.inr (.inl z)))) (s2 _ _ (λz=>M (.inr (.inr z))) (x _ _ (λz=>M (.inr (.inl z))) e)));have thr:∀b,H3 b=AG->H b=AG:=λb e3=>by cases q0:H b with |none=>rfl|some o=>
      exfalso;by_cases z1:b=F.ck;.rw[z1,ec3]at e3;cases e3
      have q1:=x _ _ z1 q0;by_cases z2:I9 Z F.jd F.gd b
      . rcases z2 with z2|⟨i,U,z2⟩
        . obtain⟨kv,C⟩:=R.bz.vw z2;rw[e3]at C;cases C
        . obtain⟨_,_,_,g⟩:=R.au.ie i U;have:=g.ao.aj;rw[<-z2,e3]at this;cases this
      . rw[s3 _ _ (λz=>z2 (.inl z)) (s2 _ _ z2 q1)]at e3;cases e3
  have frp:H p=AG:=by cases q0:H p with |none=>rfl|some o=>
      exfalso;by_cases z:JY Z F p
      . rcases z with z|z|z|⟨i,U,z⟩;. obtain⟨_,C⟩:=X.bb;rw[<-z,f]at C;cases C
        . obtain⟨_,C⟩:=X.dv;rw[<-z,f]at C;cases C
        . obtain⟨kv,C⟩:=X.bz.vw z;rw[f]at C;cases C
        . obtain⟨_,_,_,g⟩:=X.au.ie i U;have:=g.ao.aj;rw[<-z,f]at this;cases this
      . rw[kk p o z q0]at f;cases f
  show k _ p r xs qs (PJ Z m (Ft Z sd Z.length bt)) gk4 (λb o M e=>s5 _ _ (kk b o M e)) ⟨fb5.wx λi U=>?_,λi U=>Ag (lg4 i U) (lg2 i U),λi n a b d G=>?_⟩ frp (thr r hr4) Ak (s5 _ _ er4) (Y1 pr4 s5.tp) nd4 sd4 mm4 lq4 λi U=>?_
  . obtain⟨s,I,_⟩:_:=tl U;rw[Kr I,Kr I];funext z;show(pR nl _).symm
  . lk;obtain⟨⟨pa,_⟩,pb,_⟩:=fdp G;obtain⟨qa,qb⟩:=N.ay i n a b d G;k_in;rw[Xd G,Kq G,AHT (BU.mp G).1];have two:∀{S A B A':List AO},S.Perm (CH (D-d) A)->A'.Perm (A++B)->(CH (m-d) (S++B)).Perm (CH (m-d) A'):=λ{S A B A'}p1 p2=>by show .trans ?_ (p2.symm.filter _);change(WI _ (S++B)).Perm (WI _ (A++B));rw[F0,F0];show .append ((p1.filter _).trans (.of_eq ?_)) (.refl _);show rT (ADp nl _) A
    show⟨two qa pa,two qb pb⟩
  . lk;obtain⟨s,I,ht⟩:=Hm.mp U;obtain⟨_,_,fd⟩:=V.dw I ht;obtain⟨i',s',l,C,en,t'⟩:=V.rl i s s.fd I (by rw[fd];show .head _);k_in;have hi':i<Z.length:=(BU.mp I).1;rw[JX I,<-en];show⟨_,ap i' s' (NF l hi') C t',V.abc v N.ay (n:=Z.length) (λi s _ G=>br2 i s G) Z.length (Ai _) i' s' (NF l hi') C⟩
theorem X9(h:∀a∈s.bx,D a=L a):FF s D evs=FF s L evs:=by cases s with|take n k=>rfl|only n a V U=>change(D a).filter _=(L a).filter _;rw[h a (.head _)]|turn n a f g=>change(D a).map _=(L a).map _;rw[h a (.head _)]|both n a b=>change D b++D a=L b++L a;rw[h a (.head _),h b (.tail _ (.head _))]|join n a b J=>change DO J _ _=DO J _ _;rw[h a (.head _),h b (.tail _ (.head _))]|gap=>rfl|each=>rfl
noncomputable def IL(ss:List AU)(evs:List CF):Nat->AF->List AO|0=>λ_=>[]|n+1=>match ss[n]? with|AA s=>B8 (IL ss evs n) s.nm (FF s (IL ss evs n) evs)|AG=>IL ss evs n
theorem XI(J:DI ss):∀(n i:Nat)s,i<n->ss[i]?=AA s->IL ss evs n s.nm=FF s (IL ss evs n) evs |0,i,s,h,_=>absurd h (NH _)|n+1,i,s,h,D=>by have W:=XI J (evs:=evs) n;cases q:ss[n]? with
 |none=>
  have:=(BU.mp D).1;have:=TN.mp q;have e:IL ss evs (n+1)=IL ss evs n:=by change(match ss[n]? with|AA s=>_|AG=>_)=_;rw[q]
  rw[e];show W i s (by lia) D|some t=>
  have e:IL ss evs (n+1)=B8 (IL ss evs n) t.nm (FF t (IL ss evs n) evs):=by change(match ss[n]? with|AA s=>_|AG=>_)=_;rw[q]
  rw[e];by_cases V:i=n
  . subst V;rw[D]at q;cases q;rw[IQ];show(X9 λa U=>J.fm D D (Ai _) _ _ U).symm
  . rw[J.abd q D (DT (Ej h) V),W i s (DT (Ej h) V) D];show(X9 λa U=>J.fm q D (Ej h) _ _ U).symm
noncomputable abbrev CV(ss:List AU)(evs:List CF):AF->List AO:=IL ss evs ss.length
theorem UP(J:DI ss){i:Nat}(D:ss[i]?=AA s):CV ss evs s.nm=FF s (CV ss evs) evs:=XI J _ i s (BU.mp D).1 D
def XG(i:AO):Prop:=(0<=i.1/\i.1<=1000000000)/\jJ i.2.1
theorem XJ(ss:List AU):∀n,IL ss [] n=λ_=>[] |0=>rfl|n+1=>by have D:=XJ ss n;change(match ss[n]? with|AA s=>B8 _ _ _|AG=>IL ss [] n)=_;rw[D];cases ss[n]? with |none=>rfl|some s=>
 change B8 _ _ _=_;have e:FF s (λ_=>[]) []=[]:=by cases s<;>rfl
 rw[e];funext a;change(if a=s.nm then[]else[])=[];split<;>rfl
noncomputable def LY(p:AF->Bool)(evs:List CF):List CF:=evs.filter λe=>p e.2.2.1
theorem FC.aeg(h:FC AM ex H ss A sd W Y)(s:DZ p H H')(J:∀b,p b->∃kvs,H b=AA (.dK kvs))(n:∀b,p b->¬I9 ss A.jd A.gd b/\b≠A.dj/\b≠A.dg):FC AM ex H' ss A sd W Y:=by have Z:∀{b:AE}{o:Bw},H b=AA o->(∀kvs,o≠.dK kvs)->H' b=AA o:=λ{b o}e n=>s _ _ (λz=>by obtain⟨kvs,U⟩:=J b z;rw[e]at U;show n _ (CD U)) e;show⟨Z h.ji (by intro kvs z;cases z),h.ig.ab λb C e=>Z e (by intro kvs z;cases z),s _ _ (λz=>(n _ z).2.1 rfl) h.ft,h.xv,h.bz.cy s (λb D=>.inr (J b D)) (λb D z=>(n b D).1 (.inl z)) (λz=>(n _ z).2.1 rfl),s _ _ (λz=>(n _ z).2.2 rfl) h.fq,h.sg,h.xq,h.au.cy s (λb D=>.inr (J b D)) (λi B z=>(n _ z).1 (.inr ⟨i,B,rfl⟩)) (λz=>(n _ z).2.2 rfl),h.uo,h.jm⟩
noncomputable def Jc(f:Nat->D)(i:Nat)(v:D):Nat->D:=λj=>if j=i then v else f j
abbrev C3:=Nat->List AO×List AO
abbrev Dp:=Nat->AF->List AV
abbrev Eo:=Nat->List (AL×AB)
theorem FC.zv(h:FC AM ex H ss A sd E F)(G:c∈ex)(e:H c=AA (.lst ys))(L:A.lp≠c):FC AM ex (AR H c o) ss A sd E F:=by
 have s:DZ _ H (AR H c o):=zzu
 have C:∀{b:AE}{Y:Bw},H b=AA Y->(∀B,Y≠.lst B)->(AR H c o) b=AA Y:=λ{b Y}J n=>s _ _ (λz=>by rw[z,e]at J;show n _ (CD J).symm) J;have Z:∀{b:AE}{W:List _},H b=AA (.dK W)->b≠c:=λ{b W}J z=>by rw[z,e]at J;cases J
 show⟨s _ _ L h.ji,h.ig.ab λb N U=>C U (by intro B z;cases z),C h.ft (by intro B z;cases z),h.xv,h.bz.cy s (λb D=>.inl ⟨by rw[D];show G,ys,by rw[D];show e⟩) (λb D z=>by obtain⟨M,U⟩:=h.bz.vw z;show Z U D) (Z h.ft),C h.fq (by intro B z;cases z),h.sg,h.xq,h.au.cy s (λb D=>.inl ⟨by rw[D];show G,ys,by rw[D];show e⟩) (λi I z=>by obtain⟨_,_,_,g⟩:_:=h.au.ie i I;show Z g.ao.aj z) (Z h.fq),h.uo,h.jm⟩
def UQ(ss:List AU)(evs:List CF):Prop:=∀(p:AF->Bool)(i:Nat)s,ss[i]?=AA s->s.cu=AQ->(CV ss (LY p evs) s.nm).length<=20000/\Hd (CV ss (LY p evs) s.nm)
theorem UQ.adl(h:UQ ss evs)(D:DI ss)(p:AF->Bool)(Y:t∈An ss):(CV ss (LY p evs) (I0 ss t)).length<=20000/\Hd (CV ss (LY p evs) (I0 ss t)):=by lk;obtain⟨s,J,C⟩:=Hm.mp Y;obtain⟨_,_,W⟩:=D.dw J C;obtain⟨Z,A,_,U,V,B⟩:=D.rl t s _ J (by rw[W];show .head _);k_in;rw[JX J,<-V];show h p Z A U B
theorem k8(evs:List CF):LY (λ_=>AJ) evs=evs:=QT.mpr λ_ _=>rfl
theorem UQ.wx(h:UQ ss evs)(D:DI ss)(p:AF->Bool)(now:Int)(W:t∈An ss)(z:AF):De (FX ss now (CV ss (LY p evs)) t z)/\(FX ss now (CV ss (LY p evs)) t z).length<=3000:=by lk;obtain⟨s,U,Z⟩:=Hm.mp W;obtain⟨Y,V⟩:=h.adl D p W;k_in;rw[JX U]at Y V;rw[Kr U];have J:=(D.dw U Z).1;show⟨US (VB J),VA J V⟩
def J5(H:AI)(xs:List AB)(D:List (List AB)):Prop:=Bf (λx u=>∃a,x=.ref a/\H a=AA (.tup u)) xs D
theorem J5.ab(h:J5 H xs D)(t:B7 H H'):J5 H' xs D:=GN (λ_ _⟨a,e,J⟩=>⟨a,e,t _ _ J⟩) h
theorem Ug{F:D->List J}{f:D->J->U}:∀l:List D,(l.flatMap λk=>(F k).map (f k)).length=(l.flatMap F).length|[]=>rfl|k::l=>by rw[Ew,Ew,Ba,Ba,Au,Ug l]
def vF:BF:=λZ H Q _=>(El λ(d:AE)(D:List (AL×AB))(F:AL->List (List AB))=>HZ (Z=[.ref d]) (H d=AA (.dK D)) (D.length<=20000) ((∀q∈D,∃(z:AF)(r:AE)(W:List AB),q=(.inr z,.ref r)/\H r=AA (.lst W)/\J5 H W (F q.1)/\∀u∈F q.1,u≠[]/\u.length<=3)) (((D.map (·.1)).flatMap F).length<=4000000) (∀J r Y(U:List AL),Aj H J->H r=AG->J r=AA (.lst Y)->J5 J Y (U.flatMap λk=>(F k).map λu=>Az k::u)->U.Perm (D.map (·.1))->U.Pairwise (λa b=>Co b a=AQ)->Q (.ref r) J))
theorem Yj(T:BM AH AZ AM):T.oz.Ok BE P w AZ base 1 vF:=by
  show T.oz.ok λnd _ _ _ _ _ hr H vs Q E h=>?_;obtain⟨d,kvs,F,rfl,ed,lk,hq,lw,k⟩:_:=h;show⟨_,(Ah (BN 1 nd (CM Fx)) (Ah (D3 D7 rfl (DQ (K:=AH) (CW (VZ rfl) (by rfl) T.ik Tf #v[AD 0])) (D2 2 nd) (Af (Dr (GO (K:=AH) MG Od Qk My (AD 1) #v[(HR (Cy Y8) [("key",2)] ⟨rfl,rfl,trivial⟩ (DQ (K:=AH) (Jl hr.u1 (AD 0) (AD 2) (λ_ _=>rfl))) (λ_ _ _ _=>Fy) (λ_ _ _ _=>(Ac (KI (K:=AH)) (CY #v[AD 1]) (AD 0))))])))) (Af (BD (AD 1))))),?_⟩;have sz:As=16777216:=CL;show⟨Bm _,λl hl=>?_⟩;show Ao (o:=.lst []) hl λH1 s1 el=>?_;show⟨d,kvs,rfl,s1 _ _ ed,.inr λq hq'=>?_,λls ks hls pk ps=>?_⟩
  . obtain⟨z,r,xs,e,_⟩:_:=hq q hq';show⟨z,by rw[e]⟩
  have hls':=hls;show Ao (o:=.lst (ks.map Az)) hls λH2 s2 els=>?_;have nll:ls≠l:=λz=>by rw[z,el]at hls';cases hls'
  have lks:ks.length<=20000:=by rw[pk.length_eq,Au];assumption
  show⟨ls,rfl,⟨_,AW els⟩,HK (xs:=ks.map Az) (λi σ H'=>SK (λ(o2:Option AB)(acc:List AB)=>σ=[AA (.ref d),AA (.ref l),o2]) (λ_ _=>Aj H H') (λ_ acc=>H' l=AA (.lst acc)) _ (λ_ acc=>J5 H' acc ((ks.take i).flatMap λk=>(F k).map λu=>Az k::u)) (λ_ acc=>acc.length=((ks.take i).flatMap F).length)) ⟨AG,[],rfl,s1.aa s2,s2 _ _ el,els,.nil,rfl⟩ (λi σ H' _ hh=>by obtain⟨_,_,_,_,_,e,_⟩:=hh;show AW e) ?_ ?_⟩
  . intro i x σ H3 hx hI;lk;obtain⟨o2,acc,rfl,s3,el3,els3,hw3,la⟩:=hI;rw[Bo]at hx;obtain⟨ky,hky,rfl⟩:=EK.mp hx;have hi:i<ks.length:=(BU.mp hky).1;obtain⟨v,hv⟩:=NA (pk.mem_iff.mp (Cp hky));obtain⟨z,r,xs,e1,er,hw,hu⟩:=hq _ (Gy hv);cases e1;k_in;have hxl:=(Cn hw).1;have tk:((ks.take (i+1)).flatMap F).length=((ks.take i).flatMap F).length+(F (.inr z)).length:=by rw[DH,hky,LD,Ba];change _+([Br z].flatMap F).length=_;rw[TM]
    have hs1:((ks.take (i+1)).flatMap F).length<=4000000:=by have e:=AHU (λl=>(l.flatMap F).length) (QZ (i+1) ks);change((_++_:List AL).flatMap F).length=(ks.flatMap F).length at e;rw[LD,Ba,(pk.flatMap_right F).length_eq]at e;lia
    have ed3:=s3 _ _ ed;show⟨.inl ⟨rfl,_,AW el3⟩,d,_,rfl,by have:=JI (k:=Br z) ed3;rw[hv]at this;show this,r,rfl,⟨_,AW (s3 _ _ er)⟩,?_⟩;show JJ (K:=AH) (xs:=xs) (λj τ acc' H'=>(∃o,τ=[o,AA (.str z)])/\Aj H3 H'/\J5 H' acc' (((F (.inr z)).take j).map λu=>AB.str z::u)) (by lia) ⟨⟨AG,rfl⟩,DF _,.nil⟩ (λj τ acc' H'⟨_,s',_⟩=>AW (s' _ _ (s3 _ _ er))) ?_ ?_
    . intro j y τ acc' H4 R1 hy _ hI k1;obtain⟨⟨o,rfl⟩,s4,hw4⟩:_:=hI;have hj:j<(F (.inr z)).length:=by have:=(BU.mp hy).1;rw[<-hxl];show this
      have ek:=CG hj;generalize(F (.inr z))[j]=u at ek;lk;obtain⟨a,rfl,ea⟩:=(Cn hw).2 j _ _ hy ek;have ea4:=s4 _ _ (s3 _ _ ea);obtain⟨b1,b2⟩:=hu u (Cp ek);k_in;show⟨A1 rfl,λp hp=>?_⟩;show Ao (o:=.tup [.str z]) hp λH5 s5 ep=>?_;show⟨p,a,_,_,rfl,rfl,Aq ep,Aq (s5 _ _ ea4),by simp,by simp;lia,λe=>absurd e b1,λ_ q hq'=>k1 _ _ _ ⟨⟨_,rfl⟩,(s4.aa s5).dz hq',?_⟩⟩;rw[DH,ek,CQ];show EE (hw4.ab (s5.dz hq').tp) (.cons ⟨q,rfl,Ak⟩ .nil)
    . intro τ acc' H4 la4 hI D hD;obtain⟨_,s4,hw4⟩:_:=hI;show Ao (o:=.lst acc') hD λH5 s5 eD=>?_;have s35:=s4.aa s5;have el5:=s35 _ _ el3;have la5:=(Cn hw4).1;rw[Au,Dj (Bq hxl.symm)]at la5;show⟨l,D,_,_,rfl,rfl,el5,eD,by lia,?_⟩;have tp5:B7 H5 (AR H5 l (.lst (acc++acc'))):=(KD H5).dz el5 λxs=>by intro z;cases z
      show⟨_,acc++acc',rfl,(s3.aa s35).xc hl,Ak,by rw[Aa nll];show s35 _ _ els3,?_,by rw[Ba];lia⟩;rw[DH,hky,LD];show J5.ab (EE (hw3.ab s35.tp) ?_) tp5;rw[Dj (Bq hxl.symm)]at hw4;change J5 H5 acc' ([Br z].flatMap _);rw[Ew,List.flatMap_nil,D4];show hw4.ab s5.tp
  . intro σ H3 hI;obtain⟨o2,acc,rfl,s3,el3,els3,hw3,la⟩:_:=hI;rw[Au,Dj (Ai _)]at hw3;show k H3 l acc ks s3 hl el3 hw3 pk ps
theorem UX[Inhabited Y]{p:AL×AB->Y->Prop}:∀{kvs:List (AL×AB)},(kvs.map (·.1)).Nodup->(∀q∈kvs,∃y,p q y)->∃F:AL->Y,∀q∈kvs,p q (F q.1)
 |[],_,_=>⟨λ_=>jB,λq h=>(by cases h)⟩|q::kvs,n,h=>by
  lk;obtain⟨Z,A⟩:=Ie.mp n;obtain⟨F,U⟩:=UX A λD J=>h D (.tail _ J);obtain⟨y,W⟩:=h q (.head _);k_in;show⟨λk=>if k=q.1 then y else F k,λD J=>?_⟩;rcases BY.mp J with rfl|J
  . change p D (if D.1=D.1 then y else F _);rw[AHT rfl];show W
  . change p D (if D.1=q.1 then y else F _);rw[AHS λ(e)=>Z (Ax.mpr ⟨D,J,e⟩)];show U D J
theorem Ry:∀{kss:List (List AL)}{xs:List AB},J5 H xs (kss.map λks=>ks.map Az)↔Cq H xs kss
 |[],xs=>⟨λh=>(by cases h;show .nil),λh=>(by cases h;show .nil)⟩|ks::kss,xs=>by
  constructor
  . intro h;cases h with|cons a b=>show .cons a (Ry.mp b)
  . intro h;cases h with|cons a b=>show .cons a (Ry.mpr b)
theorem U9{F:AL->List (List AL)}:∀{ks:List AL},ks.Pairwise (λa b=>Co b a=AQ)->ks.Nodup->(∀k∈ks,Cm (F k))->Cm (ks.flatMap λk=>(F k).map λr=>k::r)
 |[],_,_,_=>.nil|k::ks,W,Y,V=>by
  lk;obtain⟨E,G⟩:=Gi.mp W;obtain⟨B,C⟩:=Ie.mp Y;k_in;show OU.mpr ⟨?_,U9 G C λk A=>V k (D5 _ A),λa Z b J=>?_⟩
  . show Eh.mpr ((V k Ci).imp λ{a b}h=>?_);change(if k=k then BK b a else Co k k)=AQ;rw[AHT rfl];show h
  . lk;obtain⟨x,_,rfl⟩:=Ax.mp Z;obtain⟨U,D,J⟩:=L8.mp J;obtain⟨y,_,rfl⟩:=Ax.mp J;k_in;change(if U=k then BK y x else Co U k)=AQ;rw[AHS (λe=>B (by rw[<-e];show D))];show E U D
def tU(V:CA):BF:=λY H Q _=>(JS λ(W:List AE)(x d:AE)(L:List AO)=>Iu (Y=[.ref x]) (C5 V W H x d L) (L.length<=20000) (∀J r U D,Aj H J->H r=AG->J r=AA (.lst U)->Cq J U D->Cm D->D.Perm (L.map GZ)->Q (.ref r) J))
theorem Yb(T:BM AH AZ AM):T.og.Ok BE P w AZ base 2 (tU AM):=by
  show T.og.ok λnd _ _ _ _ _ N H vs Q E h=>?_;obtain⟨ex,x,d,L,rfl,a,m,k⟩:_:=h;show⟨_,(Af (BD (BC (Yj T) N #v[Bs (AD 0) rfl]))),?_⟩;lk;obtain⟨dx,l⟩:=a.bb;obtain⟨W,j,Z,U,t,n⟩:=a.ao;obtain⟨F,R⟩:=UX (Y:=List (List AL)) (p:=λq D=>(El λ(z:AF)(r:AE)(A:List AB)=>FT (q=(.inr z,.ref r)) (H r=AA (.lst A)) (Cq H A D) (Cm D) (D.Perm ((L.filter λi=>Ab (i.2.1=z)).map Gb)))) Z λq G=>by obtain⟨z,r,A,D,e,_,C,hw,_,B,J⟩:=t q G;show⟨D,z,r,A,e,C,hw,B,J⟩
  k_in;have S:∀k∈W.map (·.1),∃z:AF,k=.inr z/\Cm (F k)/\(F k).Perm ((L.filter λi=>Ab (i.2.1=z)).map Gb):=λk U=>by obtain⟨q,G,rfl⟩:=Ax.mp U;obtain⟨z,r,A,e,_,_,B,J⟩:=R q G;rw[e]at B J⊢;show⟨z,rfl,B,J⟩
  have X:((W.map (·.1)).flatMap λk=>(F k).map λr=>k::r).Perm (L.map GZ):=by
    show(bQ (g:=λk=>(L.filter λi=>Ab ((Br i.2.1:AL)=k)).map GZ) λk U=>?_).trans ?_
    . obtain⟨z,rfl,_,J⟩:_:=S k U;show(J.map _).trans (TF ?_);rw[Cz];have e:(L.filter λi=>Ab ((Br i.2.1:AL)=Br z))=L.filter λi=>Ab (i.2.1=z):=NB λi _=>by
        by_cases h:i.2.1=z;.rw[h];simp
        .rw[AHW h,AHW (λq=>h (GS q))]
      rw[e];show OS λi o=>?_;have:=AHX (EJ.mp o).2;change Br z::Gb i=GZ i;rw[<-this];rfl
    . rw[<-NC];show(Vg (λi:AO=>(Br i.2.1:AL)) L _ Z n).map GZ
  show⟨_,⟨l,T.cg,T.bw,rfl⟩,d,W,λk=>(F k).map λM=>M.map Az,rfl,j,Ag U m,λq G=>?_,by rw[Ug,<-Ug (f:=λk r=>k::r),X.length_eq,Au];lia,λc r ys M s N C b O y=>?_⟩
  . obtain⟨z,r,A,e,C,hw,_,J⟩:_:=R q G;show⟨z,r,A,e,C,Ry.mpr hw,λu v=>?_⟩
    . lk;obtain⟨row,I,rfl⟩:=Ax.mp v;obtain⟨i,_,rfl⟩:=Ax.mp (J.mem_iff.mp I);k_in;show⟨λz=>(nomatch z),A1 rfl⟩
  . have e:(M.flatMap λk=>((F k).map λr=>r.map Az).map λu=>Az k::u)=(M.flatMap λk=>(F k).map λr=>k::r).map λr=>r.map Az:=by rw[NC];congr 1;funext k;rw[Cz,Cz];rfl
    rw[e]at b;show k c r ys _ s N C (Ry.mp b) (U9 y (O.nodup_iff.mpr Z) λk U=>?_) ?_
    . obtain⟨_,_,B,_⟩:_:=S k (O.mem_iff.mp U);show B
    .show(AAE O).trans X
def jO(H:AI)(x:AB)(m:AF×AV):Prop:=∃(a q:AE),x=.ref a/\H a=AA (.tup [.str m.1,.int m.2.1,.int m.2.2.1,.ref q])/\GA H q m.2.2.2
theorem Yq:∀{D:List AV}{xs:List AB},DY H xs D->∃J:List (List AB),J5 H xs J/\Bf (λu(p:AV)=>∃q,u=[.int p.1,.int p.2.1,.ref q]/\GA H q p.2.2) J D|[],xs,h=>by cases h;show⟨[],.nil,.nil⟩|p::D,xs,h=>by cases h with|cons a b=>lk;obtain⟨J,Z,A⟩:=Yq b;obtain⟨U,q,e,W,Y⟩:=a;k_in;show⟨_,.cons ⟨U,e,W⟩ Z,.cons ⟨q,rfl,Y⟩ A⟩
def uJ(Y:CA):BF:=λB H Q _=>(Jz λ(Z:List AE)(x p d:AE)(A:AU)(g:AF->List AV)(J:List (AL×AB))=>FT (B=[.ref x]) (Dl Y Z H x p d A g J) (J.length<=600) ((∀z,(g z).length<=3000)) (∀U r W(D:List AF),Aj H U->H r=AG->U r=AA (.lst W)->Bf (jO U) W (EU g D)->D.Pairwise (λa b=>Co (.inr b) (.inr a)=AQ)->D.Nodup->(∀z,g z≠[]->z∈D)->D.length<=600->Q (.ref r) U))
theorem Yd(T:BM AH AZ AM):T.je.Ok BE P w AZ base 2 (uJ AM):=by
  show T.je.ok λnd _ _ _ _ _ c H vs Q E h=>?_;obtain⟨ex,x,p,d,st,g,j,rfl,G,lk,lg,k⟩:_:=h;show⟨_,(Af (BD (BC (Yj T) c #v[Bs (AD 0) rfl]))),?_⟩;lk;obtain⟨dx,eo⟩:=G.bb;obtain⟨F,O⟩:=UX (Y:=List (List AB)) (p:=λq W=>(El λ(z:AF)(r:AE)(B:List AB)=>Iu (q=(.inr z,.ref r)) (H r=AA (.lst B)) (J5 H B W) (Bf (λu(p:AV)=>∃q,u=[.int p.1,.int p.2.1,.ref q]/\GA H q p.2.2) W (g z)))) G.ao.nd λq U=>by obtain⟨z,r,B,e,_,C,w⟩:=G.ao.qc q U;obtain⟨W,N,J⟩:=Yq w.1;show⟨W,z,r,B,e,C,N,J⟩
  k_in;show⟨_,⟨eo,T.ba,T.bu,rfl⟩,d,j,F,rfl,G.ao.aj,Ag lk (by decide),λq U=>?_,Ag (RS (n:=3000) λk L=>?_) (by rw[Au];lia),λH' r ys S s c C tr Z A=>?_⟩
  . obtain⟨z,r,B,e,C,N,J⟩:_:=O q U;show⟨z,r,B,e,C,N,λu hu=>?_⟩;lk;obtain⟨i,R,ei⟩:=Gz.mp hu;have l:=(Cn J).1;obtain⟨q',I,_⟩:=(Cn J).2 i u (g z)[i] (by rw[CG R,ei]) (CG (Bl R (Bq l)));k_in;rw[I];show⟨λz=>(nomatch z),A1 rfl⟩
  . obtain⟨q,U,rfl⟩:=Ax.mp L;obtain⟨z,r,B,e,C,N,J⟩:_:=O q U;rw[(Cn J).1];show lg z
  . lk;obtain⟨D,rfl⟩:∃D:List AF,S=D.map Br:=by
      have:∀k∈S,∃z:AF,k=.inr z:=λk L=>by obtain⟨q,U,rfl⟩:=Ax.mp (Z.mem_iff.mp L);obtain⟨z,_,_,e,_⟩:=O q U;show⟨z,by rw[e]⟩
      clear tr Z A;induction S with|nil=>show⟨[],rfl⟩|cons k S M=> obtain⟨D,e⟩:=M λk L=>this k (.tail _ L);obtain⟨z,I⟩:=this k (.head _);show⟨z::D,by rw[EI,e,I]⟩
    k_in;have lz:=Z.length_eq;rw[Au,Au]at lz;have kn:=Z.nodup_iff.mpr G.ao.nd;show k H' r ys D s c C ?_ (Eh.mp A) ((Eh.mp kn).imp λh e=>h (by rw[e])) (λz ne=>?_) (by simp_all)
    . have fz:∀z∈D,Bf (λu(p:AV)=>∃q,u=[.int p.1,.int p.2.1,.ref q]/\GA H q p.2.2) (F (.inr z)) (g z):=λz f=>by obtain⟨q,U,e⟩:=Ax.mp (Z.mem_iff.mp (Ax.mpr ⟨z,f,rfl⟩));obtain⟨z',_,_,I,_,_,J⟩:=O q U;rw[e]at J;rw[I]at e;have e:z'=z:=GS e;rw[e]at J;show J
      have o:∀{W:List (List AB)}{A:List AV}{z:AF},Bf (λu(p:AV)=>∃q,u=[.int p.1,.int p.2.1,.ref q]/\GA H q p.2.2) W A->Bf (λu(m:AF×AV)=>∃q,u=[.str m.1,.int m.2.1,.int m.2.2.1,.ref q]/\GA H q m.2.2.2) (W.map λu=>AB.str z::u) (A.map λp=>(z,p)):=λ{W A z}h=>by induction h with|nil=>show .nil|cons a b M=> obtain⟨q,e,t⟩:=a;show .cons ⟨q,by rw[e],t⟩ M
      have X:Bf (λu(m:AF×AV)=>∃q,u=[.str m.1,.int m.2.1,.int m.2.2.1,.ref q]/\GA H q m.2.2.2) ((D.map Br).flatMap λk=>(F k).map λu=>Az k::u) (EU g D):=by clear tr Z A lz kn;unfold EU;induction D with|nil=>show .nil|cons z D M=>rw[EI,Ew,Ew];show EE (o (fz z (.head _))) (M λz f=>fz z (.tail _ f))
      lk;obtain⟨l1,g1⟩:=Cn tr;obtain⟨l,g2⟩:=Cn X;k_in;show HQ (O1 l1 l) λi v m e1 e2=>?_;have R:=(BU.mp e1).1;have e3:=CG (show i<((D.map Br).flatMap λk=>(F k).map λu=>Az k::u).length by show Bl R (Bq l1));lk;obtain⟨a,ea,ha⟩:=g1 i v _ e1 e3;obtain⟨q,eq,tq⟩:=g2 i _ m e3 e2;k_in;rw[eq]at ha;show⟨a,q,ea,ha,s _ _ tq⟩
    . obtain⟨y,hy,e⟩:_:=Ax.mp (Z.mem_iff.mpr (G.ao.nj z ne));rw[<-GS e];show hy
theorem Us{f:D->Y}:∀{l m:List D},l.map f=m.map f->(∀a∈l,∀b∈m,f a=f b->a=b)->l=m|[],[],_,_=>rfl|[],b::m,e,_=>by cases e|a::l,[],e,_=>by cases e|a::l,b::m,e,h=>by obtain⟨J,U⟩:=EG e;rw[h a (.head _) b (.head _) J,Us U λx V y W=>h x (.tail _ V) y (.tail _ W)]
theorem vR(h:De l)(U:a∈l)(V:b∈l)(e:a.1=b.1):a=b:=by
 lk;obtain⟨i,D,rfl⟩:=Gz.mp U;obtain⟨j,J,rfl⟩:=Gz.mp V;k_in;rcases AEJ i j with q|q|q
 . have:=Ig.mp h i j D J q;simp_all
 .subst q;rfl
 . have:=Ig.mp h j i J D q;simp_all
theorem rK{l m:List J}(W:(l.map key).Nodup)(Y:(m.map key).Nodup)(s1:Cm (l.map key))(s2:Cm (m.map key))(V:∀q,q∈l↔q∈m)(D:∀a∈l,∀b∈m,key a=key b->a=b):l=m:=by have U:∀{l:List J},(l.map key).Nodup->l.Nodup:=λh=>(Eh.mp h).imp λh e=>h (by rw[e]);show Us (Sw (((List.perm_ext_iff_of_nodup (U W) (U Y)).mpr V).map _) s1 s2) D
noncomputable def RY(m:AF×AV):List AL:=[.inr m.1,.inl m.2.1,.inl m.2.2.1]
theorem vX(J:∀z,De (g z))(V:ks.Pairwise λa b=>Co (.inr b) (.inr a)=AQ)(D:ks.Nodup):Cm ((EU g ks).map RY)/\((EU g ks).map RY).Nodup:=by
  constructor
  . have:=U9 (F:=λk=>match k with|.inr z=>(g z).map _|.inl _=>[]) (Eh.mpr V) (Eh.mpr (D.imp λh e=>h (GS e))) λk U=>by obtain⟨z,_,rfl⟩:=Ax.mp U;show(J z).sd
    show Eq.mp (AHU Cm ?_) this;unfold EU;rw[List.flatMap_map,NC];congr 1;funext z;rw[Cz,Cz];rfl
  . show Eh.mpr ((Eh.mp (VG J D)).imp λh e=>h ?_);show Tb (GS (EG e).1) (Iq (EG (EG e).2).1)
noncomputable def EA(m:Nat)(p:List AO×List AO):List AO:=if m=0 then p.1 else p.2
theorem DD.acf(h:DD AM ex H j Z D J U W wi L.1 L.2)(Y:m<2):∃x d,([.ref D,.ref J]:List AB)[m]?=AA (.ref x)/\C5 AM ex H x d (EA m L):=by
 rcases OY m 1 with q|q
 . have:=AEI.mp q;subst this;show⟨_,_,rfl,h.s0⟩
 . have:=eI q Y;subst this;show⟨_,_,rfl,h.s1⟩
def O8(H H':AI):Prop:=∀b o,H b=AA o->(∀C J U,o≠.ins C J U)->(∀D,o≠.dK D)->H' b=AA o
theorem O8.zv(h:O8 H H')(e:H b=AA (.lst xs)):H' b=AA (.lst xs):=h b _ e (by intro _ _ _ z;cases z) (by intro _ z;cases z)
theorem O8.tp(h:O8 H H'):B7 H H':=λb _ e=>h b _ e (by intro _ _ _ z;cases z) (by intro _ z;cases z)
theorem DU.lt(h:DU AM H ss F C V J A B W Y)(s:∀b o,¬JY ss F b->H b=AA o->H' b=AA o):O8 H H':=λb o e U Z=>s b o (λz=>by
 rcases z with z|z|z
 . obtain⟨_,D⟩:=h.bb;rw[<-z,e]at D;show U _ _ _ (CD D)
 . obtain⟨_,D⟩:=h.dv;rw[<-z,e]at D;show U _ _ _ (CD D)
 . obtain⟨E,D⟩:=h.abr z;rw[e]at D;show Z _ (CD D)) e
theorem Nl:((["plan","clock","joins","groups","number"]:List AF)≠(["within","sides"]:List AF))/\(["plan","clock","joins","groups","number"]:List AF)≠(["rows"]:List AF)/\(["plan","clock","joins","groups","number"]:List AF)≠(["step","rows"]:List AF):=by decide+kernel
def MV(H:AI)(ys:List AB):Prop:=∀v∈ys,(∀a,v≠.ref a)\/∃a u,v=.ref a/\H a=AA (.tup u)/\∀i:Int,u.head?≠AA (.int i)
theorem MV.adu(h:MV H ys)(U:AB.ref a∈ys)(e:H a=AA (.tup (.int i::u))):False:=by
 rcases h _ U with z|⟨W,Y,J,D,n⟩;.show z _ rfl
 . cases J;rw[e]at D;cases D;show n i rfl
theorem C5.acq(h:C5 AM [] H x d L)(e:H c=AA (.lst ys))(G:MV H ys):C5 AM [c] H x d L:=by obtain⟨o,U,A,n,l,q,Z⟩:_:=h;show⟨o,U,A,n,l,λp F=>?_,Z⟩;obtain⟨z,r,K,D,B,_,J,hw,W,I,Y⟩:_:=q p F;show⟨z,r,K,D,B,λE=>?_,J,hw,W,I,Y⟩;rw[Bc.mp E,e]at J;cases J;cases D with|nil=>show W rfl|cons M D=>cases hw with|cons a _=>obtain⟨b,rfl,C⟩:=a;obtain⟨i,_,rfl⟩:=Ax.mp (Y.mem_iff.mp (.head _));show G.adu (.head _) C
theorem Dl.acq{st:AU}(h:Dl AM [] H x p d st g kvs)(e:H c=AA (.lst ys))(B:MV H ys):Dl AM [c] H x p d st g kvs:=⟨h.bb,h.gh,h.ao.aj,h.ao.nd,λq A=>by obtain⟨J,r,C,W,_,D,w,U⟩:_:=h.ao.qc q A;show⟨J,r,C,W,λZ=>?_,D,w,U⟩;rw[Bc.mp Z,e]at D;cases D;generalize g _=E at w;cases w with|nil=>show U rfl|cons a _=>obtain⟨b,F,rfl,Y,_⟩:_:=a;show B.adu (.head _) Y,h.ao.nj⟩
theorem FC.aat(h:FC AM [] H ss A sd J U)(e:H c=AA (.lst ys))(W:MV H ys)(N:A.lp≠c):FC AM [] (AR H c o) ss A sd J U:=by
 have M:Cf AM [c] H ss A.dj A.mw A.jd sd:=by
  show⟨h.bz.aj,λt n a b P F=>?_,h.bz.bo,h.bz.ve⟩;obtain⟨v,j⟩:=h.bz.dq t n a b P F;show⟨v,j.bb,j.ay,j.s0.acq e W,j.s1.acq e W,j.ne,λK=>?_⟩;have Y:=j.ay;rw[Bc.mp K,e]at Y;cases Y;obtain⟨R,C⟩:=j.s0.bb;rcases W _ (.head _)with z|⟨Q,u,B,Z,_⟩;.show(z _ rfl).elim
  . cases B;rw[C]at Z;cases Z
 have G:C4 AM [c] H ss (An ss) A.dg A.mn A.gd J U:=by show⟨h.au.aj,λt L=>?_,h.au.bo,h.au.jm⟩;obtain⟨O,E,v,g⟩:=h.au.ie t L;show⟨O,E,v,g.acq e W⟩
 have I:FC AM _ H ss A sd J U:=⟨h.ji,h.ig,h.ft,h.xv,M,h.fq,h.sg,h.xq,G,h.uo,h.jm⟩;have D:=I.zv (o:=o) (.head _) e N;show⟨D.ji,D.ig,D.ft,D.xv,D.bz.jq,D.fq,D.sg,D.xq,D.au.jq,D.uo,D.jm⟩
theorem DU.aat(h:DU AM H ss F C now D J sd Z A)(e:H c=AA (.lst ys))(M:MV H ys)(L:F.lp≠c):DU AM (AR H c o) ss F C now D J sd Z A:=by
 have B:∀{b:AE}{U:Bw},H b=AA U->(∀Y,U≠.lst Y)->(AR H c o) b=AA U:=λ{b U}W n=>by rw[Aa λz=>by rw[z,e]at W;show n _ (CD W).symm];show W
 lk;obtain⟨G,K⟩:=h.bb;obtain⟨E,I⟩:=h.dv;k_in;show⟨h.toFC.aat e M L,⟨G,B K (by intro Y z;cases z)⟩,⟨E,B I (by intro Y z;cases z)⟩⟩
noncomputable def Rp(m:Nat)(p:List AO×List AO)(i:AO):List AO×List AO:=if m=0 then(p.1++[i],p.2)else(p.1,p.2++[i])
noncomputable def Kg(D:Nat->DS)(t m:Nat):AE:=if m=0 then(D t).d0 else(D t).d1
theorem Cf.ja(Y:Cf AM ex H ss Z D J sd)(F:C7 ss t)(G:m<2):∃j E x U wi,BZ D (.inl (t:Int))=AA (.ref j)/\H j=AA (.ins AM.eh U [("within",.int wi),("sides",.ref E)])/\(∃xs,H E=AA (.lst xs)/\xs[m]?=AA (.ref x))/\C5 AM ex H x (Kg J t m) (EA m (sd t))/\∀H' i,Bj (Kg J t m) H H'->C5 AM ex H' x (Kg J t m) (EA m (sd t)++[i])->Cf AM ex H' ss Z D J (Jc sd t (Rp m (sd t) i)):=by
 lk;obtain⟨n,a,b,wi,W⟩:=F;obtain⟨C,g⟩:=Y.dq t n a b wi W;obtain⟨U,A⟩:=g.bb;k_in;have B:=g.ay;rcases OY m 1 with q|q
 . have:m=0:=AEI.mp q;subst this;show⟨_,_,_,U,wi,C,A,⟨_,B,rfl⟩,g.s0,λH' i s r=>?_⟩;show Y.gh W (λc o I _ e=>s _ _ I e) (g.abz s r)
 . have:m=1:=eI q G;subst this;show⟨_,_,_,U,wi,C,A,⟨_,B,rfl⟩,g.s1,λH' i s r=>?_⟩;show Y.gh W (λc o _ K e=>s _ _ K e) (g.aca s r)
def Rt(B:CA):BF:=λC H Q _=>(UH λ(Y:List AE)(A:List AU)(W q:AE)(D:List (AL×AB))(Z:Nat->DS)(J:C3)(t m:Nat)(i:AO)=>LS (C=[.ref W,.ref q]) (Cf B Y H A W D Z J) ((∀c∈Y,∃o,H c=AA o)) (C7 A t) (m<2) (H q=AA (.tup [.int (t:Int),.int (m:Int),.str i.2.1,.int i.1,.int i.2.2])) ((EA m (J t)).length<=30000) (∀U,Bj (Kg Z t m) H U->Cf B Y U A W D Z (Jc J t (Rp m (J t) i))->Q .non U))
def Ru(B:CA):BF:=λE H Q _=>(NZ λ(Z q A C p d:AE)(U D:List (AL×AB))(t:Int)(z:AF)(W:AV)=>LU (E=[.ref Z,.ref q]) (GK H Z (.dK U)) (BZ U (.inl t)=AA (.ref A)) (H A=AA (.ins B.ar C [("step",.ref p),("rows",.ref d)])) (H d=AA (.dK D)) (D.length<1000) (H q=AA (.tup [.int t,.str z,.int W.1,.int W.2.1,.int W.2.2.1,.int W.2.2.2.1,.int W.2.2.2.2.1,.int W.2.2.2.2.2])) ((∀v,BZ D (.inr z)=AA v->∃r Y,v=.ref r/\H r=AA (.lst Y)/\Y.length<100000/\∀J x,Bj r H J->J r=AA (.lst (Y++[x]))->MW J x W->Q .non J)) ((BZ D (.inr z)=AG->∀r J x,H r=AG->Bj d H J->J d=AA (.dK (Bk D (.inr z) (.ref r)))->J r=AA (.lst [x])->MW J x W->Q .non J)))
theorem C4.aed(g:C4 AM ex H ss U W D Y Z A)(h:∀i∈U,J i=A i):C4 AM ex H ss U W D Y Z J:=⟨g.aj,λi B=>by rw[h i B];show g.ie i B,g.bo,g.jm⟩
noncomputable abbrev Ke:AF:="0123456789"
noncomputable abbrev jK:AF:=Ke
noncomputable abbrev jL:AF:=MU
noncomputable def Km(y:AF):AB->Bool|.str c=>!(Ob y c 0 y.length 1).isEmpty|_=>AQ
noncomputable abbrev IT(n:Int):AF:=MK (Ww n)
noncomputable def B6(n:Int):AF:=if n<0 then("-":AF)++IT (-n)else IT n
noncomputable def G7(z:AF):AF:=if Oh z "-"=AJ then G1 z (AA 1) AG else z
theorem RQ:((10^60:Nat):Int)=(10:Int)^60:=by decide+kernel
theorem Xe{a b:AF}(h:a.cps.toList=b.cps.toList):a=b:=by cases a;cases b;congr 1;show Array.toList_inj.mp h
theorem X7{n:Int}(J:n.natAbs<10^60):n.natAbs.log2<1920:=by
 by_cases D:n.natAbs=0;.rw[D];decide
 .show(Nat.log2_lt D).mpr (NF J (by decide+kernel))
theorem VD(D:0<=n):(IT n).cps.toList=Gn n.toNat:=by obtain⟨m,rfl⟩:=ADa D;show iY m
theorem ZS(D:0<=n)(h:n<10^60):(IT n).length<=60:=by rw[JZ,VD D];show T8 59 _ (by have:=RQ;(first|lia|omega))
theorem Rh(n:Int):(B6 n).cps.toList=(if n<0 then[45]else[])++Gn n.natAbs:=by
 unfold B6;by_cases h:n<0
 . rw[AHT h,AHT h,JW,VD (by(first|lia|omega))];change[45]++_=_;congr 2;(first|lia|omega)
 . rw[AHS h,AHS h,VD (by(first|lia|omega))];change _=[]++_;rw[LG];congr 1;(first|lia|omega)
theorem vO(n:Int):IT n=B6 n:=by
 unfold B6;by_cases h:n<0
 . rw[AHT h];lk;obtain⟨m,rfl⟩:∃m:Nat,n=Int.negSucc m:=⟨(-n-1).toNat,by(first|lia|omega)⟩;k_in;show Xe ?_;rw[JW];change(MK ("-"++(eR (m+1)))).cps.toList=[45]++(MK (eR (m+1))).cps.toList;rw[AFV,AFV];change(TR iW ("-"++(eR (m+1))).toList)=[45]++TR iW (eR (m+1)).toList;rw[String.toList_append,CQ];rfl
 .rw[AHS h]
theorem ZJ(z:AF)(c:Nat):Oh z ⟨#[c]⟩=Ab (z.cps.toList[0]?=AA c):=by unfold Oh;rw[RC,O0,AHY,AHY];show StrLaws.subAt_one z c 0
theorem kX(z:AF)(h:1<=z.length):(G1 z (AA 1) AG).cps.toList=z.cps.toList.drop 1:=by have e:G1 z (AA 1) AG=Ti z (AA 1) AG:=rfl;rw[e,ACT ⟨by decide,by rw[JZ]at h;(first|lia|omega)⟩];change WO _ (List.drop 1 _)=_;rw[Dj];rw[L7];(first|lia|omega)
theorem pV(c:Nat):Km Ke (.str ⟨#[c]⟩)=Ab (48<=c/\c<=57):=by
 change(!(Ob Ke ⟨#[c]⟩ 0 Ke.length 1).isEmpty)=_;rw[StrLaws.found_one Ke c];have e:Ke.cps.toList=[48,49,50,51,52,53,54,55,56,57]:=by decide+kernel
 rw[e,RC,AHY,AHY];simp only[BY,F3,AHZ];(first|lia|omega)
theorem kC(z:AF):(Jo z).all (Km Ke)=AJ↔NumText.AllDigits z.cps.toList:=by unfold Jo;rw[dP,dO];show forall_congr' λc=>imp_congr_right λ_=>by change Km Ke (.str ⟨#[c]⟩)=AJ↔_;rw[pV,AHY]
theorem kH(z:AF):(G7 z).length<=z.length:=by
 unfold G7;split;.show AFX _ _ _
 .show Ai _
theorem kG(z:AF):(z.cps.toList=45::(G7 z).cps.toList)\/(z.cps.toList[0]?≠AA 45/\G7 z=z):=by
 have e:Oh z "-"=Ab (z.cps.toList[0]?=AA 45):=ZJ z 45;unfold G7;rw[e];by_cases h:z.cps.toList[0]?=AA 45
 . left;rw[AHT (AHV h)];cases q:z.cps.toList with|nil=>rw[q]at h;cases h|cons a r=> rw[q]at h;have D:a=45:=CD h;rw[kX z (by rw[JZ,q];show WX (Bm _)),q,D];rfl
 . right;rw[AHS (by rw[AHY];show h)];show⟨h,rfl⟩
theorem Ri(h:n.natAbs<10^30):(B6 n).length<=31:=by
 have q:=T8 29 n.natAbs h;rw[JZ,Rh,Ba];by_cases h:n<0;.rw[AHT h];change 1+_<=_;(first|lia|omega)
 .rw[AHS h];change 0+_<=_;(first|lia|omega)
theorem XS(n:Int):(G7 (B6 n)).cps.toList=Gn n.natAbs:=by
  have e:=Rh n;rcases kG (B6 n)with q|⟨q,r⟩
  . by_cases h:n<0;. rw[AHT h,q]at e;show(EG e).2
    . rw[AHS h,q]at e;obtain⟨c,r,D,_⟩:_:=T7 n.natAbs;have a:=O2 n.natAbs;rw[D]at e a;have:=(EG e).1;have:=a c (.head _);(first|lia|omega)
  . by_cases h:n<0
    . rw[AHT h]at e;show absurd (by rw[e];rfl) q
    . rw[AHS h]at e;rw[r,e];rfl
theorem YN(h:n.natAbs<10^30):Wo (B6 n)=AA n:=by
 have e:=Rh n;have l:=Ri h;by_cases q:n<0
 . rw[AHT q]at e;have e:(B6 n).cps.toList=45::Gn n.natAbs:=e;rw[intText_neg e (O2 _) (T9 _) (by(first|lia|omega)),Wz];congr 1;(first|lia|omega)
 . rw[AHS q]at e;have e:(B6 n).cps.toList=Gn n.natAbs:=e;rw[intText_digits (by rw[e];show O2 _) (by rw[e];show T9 _) (by(first|lia|omega)),e,Wz];congr 1;(first|lia|omega)
theorem nB(h:Oh (G7 (B6 n)) "0"=AJ):B6 n="0":=by have D:Oh (G7 (B6 n)) "0"=Ab ((G7 (B6 n)).cps.toList[0]?=AA 48):=ZJ _ 48;rw[D,XS]at h;have h:=AHX h;obtain⟨c,r,e,p⟩:_:=T7 n.natAbs;rw[e]at h;have h:c=48:=CD h;have z:n=0:=RD λq=>p (by(first|lia|omega)) h;rw[z];decide+kernel
def XO(J:Es)(xs:List AB)(H:AI):Prop:=(∀i D,Aj H D->i<xs.length->J.go i D)/\(∀D,Aj H D->J.qe xs.length D)/\∀i x D U,Aj H D->i<xs.length->J.yu i D x U->U=D/\xs[i]?=AA x
def UR(H:AI)(a:AE)(xs:List AB):Prop:=H a=AA (.lst xs)\/H a=AA (.tup xs)
def lJ(i:Nat):FZ:=λU H R=>QG U[i]? λx=>Mz x λa=>∃D,UR H a D/\∀J:Es,XO J D H->R J H
section
variable{s:AU}{X:Bv}{tg:BR}{x:AF}{p:C6}
unseal FJ in theorem U2(i:Nat)(J:X.N[i]?=AA x:=by rfl)(V:P0 X.ae.scope x:=by first|show Or.inl rfl|show Or.inr (Or.inl rfl)|show Or.inr (Or.inr rfl))(U:(x==("__debug__":AF))=AQ:=by decide)(D:(x==("__classdict__":AF))=AQ:=by decide):FJ X tg (.Name x p) (lJ i):=λpins s σ H R I h=>by
 lk;obtain⟨v,e,h⟩:=Sg h;obtain⟨a,rfl,xs,q,h⟩:=Lu h;k_in;rcases q with q|q;.show bS (So J V U D) pins s σ H R I ⟨_,e,a,rfl,⟨xs,AW q⟩,h _ ⟨λi H1 s hi=>⟨xs,xs[i],AW (s _ _ q),by simp[hi]⟩,λH1 s=>⟨xs,AW (s _ _ q),Ai _⟩,λi x H1 H' s _ y=>⟨y.1,y.2 xs (AW (s _ _ q))⟩⟩⟩
 .show bU (So J V U D) pins s σ H R I ⟨_,e,a,rfl,⟨xs,Aq q⟩,h _ ⟨λi H1 s hi=>⟨xs,xs[i],Aq (s _ _ q),by simp[hi]⟩,λH1 s=>⟨xs,Aq (s _ _ q),Ai _⟩,λi x H1 H' s _ y=>⟨y.1,y.2 xs (Aq (s _ _ q))⟩⟩⟩
end
theorem Ub(f:AB->AB)(Y:XO J xs H)(I:xs.length<=As)(Z:∀x U(R:BS),x∈xs->Aj H U->(∀W,Aj U W->R (f x) W)->C (AA x::A.map (Ea E)) U R)(G:∀U D,Aj H U->H D=AG->U D=AA (.lst (xs.map f))->Q (.ref D) U):Je 1 A (Gg 0) M9 C E Q J H:=xJ xs (λx y=>y=f x) I Y.1 Y.2.1 Y.2.2 (λx U R K s q=>Z x U R K s λW s2=>q _ W s2 rfl) λF U s f D B=>by rw[f.adt];show G _ D (s.dz B) (s.az B) Ak
def u9:BF:=λD H Q _=>∃i:Int,D=[.int i]/\0<=i/\i<=1000000000/\Q (.bl AJ) H
theorem Ya(T:BM AH AZ AM):T.tw.Ok BE P w AZ base 3 u9:=by show T.tw.ok λY _ _ _ _ _ W H Z Q E h=>?_;lk;obtain⟨i,rfl,U,V,k⟩:=h;obtain⟨J,D⟩:=T.vx;k_in;show⟨_,(Af (BD (BC (YW T) W #v[AD 0,AN,(K7 (v:=.int 1000000000) (by rfl) D ⟨J,rfl⟩)]))),?_⟩;show⟨i,0,1000000000,rfl,U,V,k⟩
def tW:BF:=λJ H Q _=>∃z y,J=[.str z,.str y]/\z.length<=60000/\∀D,Aj H D->Q (.bl ((Jo z).all (Km y))) D
theorem YX(T:BM AH AZ AM):T.lh.Ok BE P w AZ base 1 tW:=by
    show T.lh.ok λY _ _ _ _ _ W H Z Q E h=>?_;obtain⟨z,y,rfl,V,k⟩:_:=h;show⟨_,(Af (BD (CW (Zp (K:=AH) rfl) (by rfl) T.aam AEW #v[(HR (Cy rA) [("signs",1)] ⟨rfl,rfl,trivial⟩ (bT (AD 0)) (λ_ _ _ _=>Fy) (λ_ _ _ _=>(QJ zO (AD 0) (AD 1) (by with_unfolding_all rfl))))]))),?_⟩;show⟨z,rfl,xH (λ_=>AJ) (λx=>.bl (Km y x)) (Ag V (by decide)) (λx R _ q=>q) (λx R U _ q=>?_) λD J=>?_⟩
    . obtain⟨c,_,rfl⟩:_:=Ax.mp U;show⟨_,_,rfl,rfl,q⟩
    . show⟨D,(Jo z).map (Km y),rfl,AW ?_,?_⟩
      . rw[Ak,QT.mpr (λ_ _=>rfl),Cz];rfl
      . rw[dP];show k _ (C9 J)
def F8(z:AF):Prop:=1<=z.length/\z.length<=12/\(Jo z).all (Km MU)=AJ
def t5:BF:=λJ H Q _=>∃z,J=[.str z]/\F8 z/\∀D,Aj H D->Q (.bl AJ) D
theorem YY(T:BM AH AZ AM):T.tj.Ok BE P w AZ base 2 t5:=by show T.tj.ok λF _ _ _ _ _ Y H I Q E h=>?_;lk;obtain⟨z,rfl,⟨B,C,W⟩,k⟩:=h;obtain⟨J,D⟩:=T.rb;obtain⟨V,U⟩:=T.yg;k_in;show⟨_,(Af (BD (Jk (CW (N6 (K:=AH)) (by rfl) T.dh Te #v[AD 0,(OI (v:=.ty "str") (by rfl) T.fu IB rfl)]) (Jk (bK M3 M3 AN (CW VY (by rfl) T.cx Ez #v[AD 0]) (K7 (v:=.int 12) (by rfl) D ⟨J,rfl⟩)) (OJ (BC (YX T) Y #v[AD 0,(K7 (v:=.str jL) (by rfl) U ⟨V,rfl⟩)])))))),?_⟩;have G:As=16777216:=CL;show⟨_,"str",_,_,rfl,.str z,rfl,_,rfl,GL ?_⟩;show⟨z,rfl,by(first|lia|omega),_,rfl,?_⟩;rw[AHV (show(1:Int)<=(z.length:Int)by(first|lia|omega))];show⟨_,rfl,?_⟩;rw[AHV (show(z.length:Int)<=12 by(first|lia|omega))];show⟨z,MU,rfl,by(first|lia|omega),λA Z=>?_⟩;rw[W];show k _ Z
noncomputable def Er:AB->AF|.str z=>z|.int n=>B6 n|_=>""
def RJ(v:AB):Prop:=(∃n,v=.int n/\n.natAbs<10^30)\/∃z,v=.str z/\z.length<=60
theorem Rv:∀{zs:List AF},(∀z∈zs,z.length<=B)->(zs.map (·.length)).sum<=zs.length*B|[],_=>Bm _|a::r,h=>by have i:=Rv λz D=>h z (D5 _ D);have j:=h a Ci;rw[EI,AD9,Ex,Nat.succ_mul];(first|lia|omega)
noncomputable def ET(xs:List AB):AF:=NQ " " (xs.map Er)
def tF:BF:=λJ H Q _=>∃n:Int,J=[.int n]/\0<=n/\n<10^60/\∀D,Aj H D->Q (.str (IT n)) D
def uZ:BF:=λJ H Q _=>∃n:Int,J=[.int n]/\n.natAbs<10^60/\∀D,Aj H D->Q (.str (B6 n)) D
def uB:BF:=λJ H Q _=>∃n:Int,J=[.str (B6 n)]/\n.natAbs<10^30/\∀D,Aj H D->Q (.int n) D
def tV:BF:=λU H Q _=>∃l D,U=[.ref l]/\UR H l D/\D.length<=9/\(∀v∈D,RJ v)/\∀J,Aj H J->Q (.str (ET D)) J
def uC:BF:=λU H Q _=>SJ (λ(l:AE)(D:List Int)=>U=[.ref l]) (λl D=>H l=AA (.lst (D.map λn=>.str (B6 n)))) (λ_ D=>D.length<=9) (λ_ D=>(∀n∈D,n.natAbs<10^30)) (λ_ D=>∀J r,Aj H J->H r=AG->J r=AA (.lst (D.map AB.int))->Q (.ref r) J)
def sF:BF:=λU H Q _=>Mr (λ(l:AE)(D:List Int)=>U=[.ref l]) (λl D=>UR H l (D.map AB.int)) (λ_ D=>D.length<=9) (λ_ _=>∀J,Aj H J->Q (.bl AJ) J)
theorem YU(T:BM AH AZ AM):T.kx.Ok BE P w AZ base 1 tF:=by
 show T.kx.ok λA _ _ _ _ _ U H O Q E h=>?_;obtain⟨n,rfl,F,Y,k⟩:_:=h;show⟨_,(Ah (BN 1 A (Ac Sm AN AN)) (Ah (BN 2 A (CM Fx)) (Ah (bW D7 (Bu bC (AD 0) (AD 1) (Bt _)) QP) (Ah (Dr (OH AH (AD 2) #v[(EF IZ (by rfl) T.fu IB #v[AD 0])])) (Af (BD (GO (K:=AH) NN Qj Wl (zD (K:=AH) rfl) Bi #v[(EF (w9 (K:=AH)) (by rfl) T.xg AGX #v[AD 2])]))))))),?_⟩;have I:=ZS F Y;show⟨_,_,rfl,rfl,⟨by decide,by decide,by decide⟩,⟨Bm _,λl Z=>?_⟩⟩;show Ao (o:=.lst []) Z λB s1 W=>?_;show⟨λm D J=>m=0/\D=[AA (.int n),AA (.int ((10:Int)^ADq 60)),AA (.ref l)]/\J=B,⟨0,rfl,rfl,rfl⟩,?_⟩;intro m D J G;obtain⟨rfl,rfl,rfl⟩:_:=G;show⟨_,_,rfl,rfl,_,rfl,SV (show¬(10:Int)^ADq 60<=n from Int.not_le.mpr Y) ?_⟩;show⟨.inl ⟨rfl,_,AW W⟩,n,rfl,X7 (by have:=RQ;(first|lia|omega)),l,_,_,rfl,rfl,W,by decide,rfl,l,[.str (IT n)],rfl,AW Ak,λr U=>?_⟩;have s2:Aj H (AR J l (.lst ([]++[AB.str (IT n)]))):=s1.xc Z;show Ao (o:=Px r l 1) U λL s3 C=>?_;show⟨"",r,l,[IT n],rfl,rfl,C,AW (s3 _ _ Ak),?_,?_⟩
 . have M:(MK "").length=0:=rfl;simp;have N:As=16777216:=CL;(first|lia|omega)
 . have e:NQ "" [IT n]=IT n:=dI (AB5 "" [IT n]);change Q (.str (NQ "" [IT n])) _;rw[e];show k _ (((s2.aa s3)).xc (s2.az U))
theorem oM(T:BM AH AZ AM):T.jw.Ok BE P w AZ base 2 uZ:=by
 show T.jw.ok λW _ _ _ _ _ D H Z Q E h=>?_;obtain⟨n,rfl,V,k⟩:_:=h;show⟨_,(Ah (CP (Bu OF (AD 0) AN (Bt _)) (Af (BD (Ac Lv Bi (BC (YU T) D #v[bP dE (AD 0)])))) Cg) (Af (BD (BC (YU T) D #v[AD 0])))),?_⟩;have e:=RQ;have Y:As=16777216:=CL;unfold B6 at k;show⟨_,rfl,Hx (λh=>?_) λh=>?_⟩
 . rw[AHT h]at k;show⟨-n,rfl,by(first|lia|omega),by(first|lia|omega),λJ s1=>⟨_,_,rfl,rfl,?_,k J s1⟩⟩;have:=ZS (n:=-n) (by(first|lia|omega)) (by(first|lia|omega));have U:(("-":AF)).length=1:=rfl;(first|lia|omega)
 . rw[AHS h]at k;show⟨n,rfl,by(first|lia|omega),by(first|lia|omega),k⟩
theorem oK(T:BM AH AZ AM):T.oq.Ok BE P w AZ base 2 uB:=by
 show T.oq.ok λS _ _ _ _ _ N H c Q E h=>?_;lk;obtain⟨n,rfl,L,k⟩:=h;obtain⟨J,D⟩:=T.uq;obtain⟨W,U⟩:=T.yf;k_in;show⟨_,(Ah (CP (Bu Sj (CW VY (by rfl) T.cx Ez #v[AD 0]) (K7 (v:=.int 60) (by rfl) D ⟨J,rfl⟩) (Bt _)) (Af (BD Gh)) Cg) (Ah (BN 1 S (KL (Fg (GO (K:=AH) NN ACO AFG aV (AD 0) #v[Bi])) (Du Sy (AD 0) (DL AN) Eu) (AD 0))) (Ah (CP (Hu (K8 (Bu ED (AD 1) Bi (Bt _)) (Ly (Jn (Fg (BC (YX T) N #v[AD 1,(K7 (v:=.str jK) (by rfl) U ⟨W,rfl⟩)])))))) (Af (BD Gh)) Cg) (Ah (CP (Hu (OM (Fg (GO (K:=AH) NN ACO AFG aV (AD 1) #v[Bi])) (ON (Bu Jj (AD 0) Bi (Bt _))))) (Af (BD Gh)) Cg) (Af (BD (EF wV (by rfl) T.aan AEX #v[AD 0]))))))),?_⟩;have b:As=16777216:=CL;have M:=kH (B6 n);have O:=Ri L;have I:=YN L;have G:=nB (n:=n);have Z:=XS n;generalize a:B6 n=z at M O I G Z;show⟨z,rfl,by(first|lia|omega),_,rfl,SV (by(first|lia|omega)) ?_⟩;have A:∀R:BS,R (.str (G7 z)) H->if Oh z "-"=AJ then S9 cA (LA 0) (S6 (Ib (.int 1))) S5 [AA (.str z),AG] H R else LA 0 [AA (.str z),AG] H R:=λR q=>by
  unfold G7 at q;show Jh (λe=>?_) λe=>?_
  . rw[AHT e]at q;show⟨_,rfl,z,rfl,by(first|lia|omega),q⟩
  . rw[AHS (by rw[e];show Dk)]at q;show q
 show⟨rfl,z,_,rfl,rfl,_,rfl,A _ ?_⟩;have X:AB.str (G7 z)≠AB.str "":=λe=>by have e:=AHU (λs:AF=>s.cps.toList) (AB.str.inj e);have e:(G7 z).cps.toList=[]:=e;rw[Z]at e;show T9 _ e
 show⟨rfl,_,rfl,SV X ?_⟩;show⟨G7 z,Ke,rfl,by(first|lia|omega),λC s1=>⟨_,rfl,?_⟩⟩;rw[(kC (G7 z)).mpr (by rw[Z];show O2 _)];show HM ?_;have Y:∃(B:AF)(m:Int),[AB.str z]=[.str B]/\Wo B=AA m/\B.length<=640/\Q (.int m) C:=⟨z,n,rfl,I,by(first|lia|omega),k C s1⟩;show⟨rfl,_,_,rfl,rfl,_,rfl,Jh (λF=>?_) λF=>?_⟩
 . show⟨rfl,_,rfl,?_⟩;rw[AHV (AHU AB.str (G F))];show HM Y
 .show HM Y
theorem VI(h:RJ v):(Er v).length<=60:=by
 rcases h with⟨n,rfl,h⟩|⟨z,rfl,h⟩
 . have:=Ri h;change(B6 n).length<=_;(first|lia|omega)
 .show h
theorem Rj(T:BM AH AZ AM):T.ue.Ok BE P w AZ base 3 tV:=by
    show T.ue.ok λL _ _ _ _ _ F H N Q E h=>?_;obtain⟨l,U,rfl,e,C,hw,k⟩:_:=h;show⟨_,(Af (BD (GO (K:=AH) NN Qj Wl (Sf (K:=AH)) Bi #v[(HR (Cy rC) [] trivial (U2 0) (λ_ _ _ _=>Fy) (λ_ _ _ _=>(KL (Fg (CW (N6 (K:=AH)) (by rfl) T.dh Te #v[AD 0,(OI (v:=.ty "str") (by rfl) T.fu IB rfl)])) (AD 0) (BC (oM T) F #v[AD 0]))))]))),?_⟩;have M:As=16777216:=CL;show⟨rfl,U,e,λJ A=>Ub (λx=>.str (Er x)) A (by(first|lia|omega)) (λx V R I s1 q=>?_) λV D s1 _ Z=>?_⟩
    . rcases hw x I with⟨n,rfl,h⟩|⟨z,rfl,W⟩;.show⟨.int n,"str",.type "int",AQ,rfl,.int n,rfl,_,rfl,HM ⟨n,rfl,by have:=RQ;(first|lia|omega),q⟩⟩
      .show⟨.str z,"str",.type "str",AJ,rfl,.str z,rfl,_,rfl,GL (q V (DF _))⟩
    . have j:=Rv (B:=60) (zs:=U.map Er) λz W=>by obtain⟨v,G,rfl⟩:=Ax.mp W;show VI (hw v G)
      have:(U.map Er).length*60<=9*60:=AEL _ (by rw[Au];show C);have Y:(" ":AF).length=1:=rfl;show⟨" ",D,U.map Er,rfl,rfl,AW ?_,by rw[Au,Y];(first|lia|omega),k _ s1⟩;rw[Z,Cz];rfl
def sW:BF:=λJ H Q _=>∃n:Int,J=[.int n]/\n.natAbs<10^30/\∀D,Aj H D->Q (.str (ET [.str "end",.int n])) D
theorem YS(T:BM AH AZ AM):T.qj.Ok BE P w AZ base 4 sW:=by
 show T.qj.ok λZ _ _ _ _ _ W H A Q E h=>?_;obtain⟨n,rfl,V,k⟩:_:=h;show⟨_,(Af (BD (BC (Rj T) W #v[CM #v[Bi,AD 0]]))),?_⟩;show⟨A1 rfl,λl U=>⟨l,_,rfl,.inl Ak,A1 rfl,λv D=>?_,λJ Y=>k J ((C9 U).aa Y)⟩⟩;simp only[BY,F3,AHZ]at D;rcases D with rfl|rfl;.show .inr ⟨_,rfl,by decide⟩
 .show .inl ⟨n,rfl,V⟩
noncomputable def Yy:AB->AB|.str z=>.int ((Wo z).getD 0)|v=>v
theorem Yz(h:n.natAbs<10^30):Yy (.str (B6 n))=.int n:=by change AB.int ((Wo (B6 n)).getD 0)=_;rw[YN h];rfl
theorem PZ(T:BM AH AZ AM):T.md.Ok BE P w AZ base 3 uC:=by
 show T.md.ok λF _ _ _ _ _ Z H L Q E h=>?_;obtain⟨l,G,rfl,e,C,hw,k⟩:_:=h;show⟨_,(Af (BD (HR (Cy rD) [] trivial (U2 0) (λ_ _ _ _=>Fy) (λ_ _ _ _=>(BC (oK T) Z #v[AD 0]))))),?_⟩;have I:As=16777216:=CL;show⟨_,.inl e,λJ Y=>Ub Yy Y (by rw[Au];(first|lia|omega)) (λx V R A s1 q=>?_) λV D s1 B W=>k _ D s1 B ?_⟩
 . obtain⟨n,U,rfl⟩:_:=Ax.mp A;rw[Yz (hw n U)]at q;show⟨n,rfl,hw n U,q⟩
 . rw[W,Cz];show AHU (λz=>AA (Bw.lst z)) (OS λn U=>Yz (hw n U))
theorem YQ(T:BM AH AZ AM):T.oi.Ok BE P w AZ base 2 sF:=by show T.oi.ok λG _ _ _ _ _ A H L Q E h=>?_;obtain⟨l,W,rfl,e,C,k⟩:_:=h;show⟨_,(Af (BD (CW (Zp (K:=AH) rfl) (by rfl) T.aam AEW #v[(HR (Cy qZ) [] trivial (U2 0) (λ_ _ _ _=>Fy) (λ_ _ _ _=>(BC (Uz T) A #v[AD 0])))]))),?_⟩;have I:As=16777216:=CL;show⟨_,e,λJ Z=>Ub (λ_=>AB.bl AJ) Z (by rw[Au];(first|lia|omega)) (λx U R B s1 q=>by obtain⟨n,_,rfl⟩:=Ax.mp B;show⟨n,rfl,q U (DF _)⟩) λU D s1 F Y=>⟨D,W.map λ_=>AJ,rfl,AW (by rw[Y,Cz,Cz];rfl),?_⟩⟩;rw[show(W.map λ_=>AJ).all id=AJ by rw[dP,dO];showλ_ _=>rfl];show k _ s1
def Ma(v:AB):Prop:=(∃n,v=.int n/\n.natAbs<10^30)\/∃z,v=.str z/\F8 z
theorem Ma.wy(h:Ma v):RJ v:=h.imp id λ⟨z,e,h⟩=>⟨z,e,by have:=h.2.1;(first|lia|omega)⟩
theorem mV(h:F8 z):32∉z.cps.toList:=λD=>by
 have q:=dO.mp h.2.2 (.str ⟨#[32]⟩) (Ax.mpr ⟨32,D,rfl⟩);have e:Km MU (.str ⟨#[32]⟩)=AQ:=by decide+kernel
 rw[e]at q;cases q
theorem YM(n:Int):32∉(B6 n).cps.toList:=λD=>by
  rw[Rh]at D;rcases C1.mp D with h|h
  . by_cases q:n<0
    . rw[AHT q]at h;have:=Bc.mp h;(first|lia|omega)
    . rw[AHS q]at h;cases h
  . have:=O2 _ _ h;(first|lia|omega)
theorem R3(D:xs≠[])(h:∀v∈xs,Ma v):NR (ET xs) " "=xs.map Er:=by
 show cK (c:=32) (by intro z;show D (List.map_eq_nil_iff.mp z)) λp J=>?_;obtain⟨v,U,rfl⟩:_:=Ax.mp J;rcases h v U with⟨n,rfl,_⟩|⟨z,rfl,W⟩;.show YM n
 .show mV W
theorem X5:∀{zs:List AF},(MJ ⟨#[32]⟩ zs).length<=(zs.map (·.length)).sum+zs.length|[]=>Bm _|[a]=>Ii (Ai _)|a::b::r=>by have i:=X5 (zs:=b::r);rw[JZ,SX,Ba,Ex,<-JZ,<-JZ,EI,AD9,Ex];(first|lia|omega)
theorem Ur(U:xs.length<=9)(h:∀v∈xs,Ma v):(ET xs).length<=600:=by
 have j:=Rv (B:=60) (zs:=xs.map Er) λz J=>by obtain⟨v,D,rfl⟩:=Ax.mp J;show VI (h v D).wy
 have q:=X5 (zs:=xs.map Er);rw[Au]at j q;have e:NQ ⟨#[32]⟩ (xs.map Er)=MJ ⟨#[32]⟩ (xs.map Er):=dI (AB5 _ _);change(NQ ⟨#[32]⟩ (xs.map Er)).length<=600;rw[e];(first|lia|omega)
theorem YI:F8 "clock":=⟨by decide,by decide,by decide+kernel⟩
theorem YJ:F8 "item":=⟨by decide,by decide,by decide+kernel⟩
theorem YK:F8 "piece":=⟨by decide,by decide,by decide+kernel⟩
theorem m6:F8 "end":=⟨by decide,by decide,by decide+kernel⟩
def sN:BF:=λJ H Q _=>∃a b c:Int,J=[.str (ET [.str "clock",.int a,.int b,.int c])]/\0<=a/\a<=1000000000/\0<=b/\b<10^30/\0<=c/\c<10^30/\∀D r,Aj H D->D r=AA (.tup [.int a,.int b,.int c])->Q (.ref r) D
theorem nG(T:BM AH AZ AM):T.qg.Ok BE P w AZ base 4 sN:=by
 show T.qg.ok λF _ _ _ _ _ W H vs Q E h=>?_;obtain⟨a,b,c,rfl,I,L,r,s,t,u,k⟩:_:=h;show⟨_,(Ah (BN 1 F (GO (K:=AH) NN Wj AFF aU (AD 0) #v[Bi])) (Ah (BN 2 F (BC (PZ T) W #v[Du (Gx (K:=AH)) (AD 1) (DL AN) Eu])) (Ah (CP (Hu (K8 (Bu Jj (By AH (AD 1) AN) Bi (Bt _)) (K8 (Bu Jj (CW (Fc (K:=AH)) (by rfl) T.cx Ez #v[AD 2]) AN (Bt _)) (Ly (Jn (Fg (BC (YQ T) W #v[AD 2]))))))) (Af (BD Gh)) Cg) (Af (BD (KL (Hu (OM (Fg (BC (Ya T) W #v[By AH (AD 2) AN])) (ON (Bu bC (CW (Zt (K:=AH) rfl) (by rfl) T.yd eZ #v[AD 2]) AN (Bt _))))) (EF Va (by rfl) T.vd AB3 #v[AD 2]) Gh)))))),?_⟩;have sz:As=16777216:=CL;have G:∀v∈[.str "clock",AB.int a,.int b,.int c],Ma v:=λv B=>by
  simp only[BY,F3,AHZ]at B;rcases B with rfl|rfl|rfl|rfl;.show .inr ⟨_,rfl,YI⟩
  .show .inl ⟨_,rfl,by(first|lia|omega)⟩
  .show .inl ⟨_,rfl,by(first|lia|omega)⟩
  .show .inl ⟨_,rfl,by(first|lia|omega)⟩
 have y:=Ur (A1 rfl) G;show⟨rfl,_," ",rfl,rfl,by decide,by(first|lia|omega),λl R=>?_⟩;rw[R3 (by simp) G];show Ao (o:=.lst [.str "clock",.str (B6 a),.str (B6 b),.str (B6 c)]) R λi s1 A=>?_;show⟨_,rfl,l,_,rfl,AW A,λe U=>?_⟩;show Ao (o:=.lst [.str (B6 a),.str (B6 b),.str (B6 c)]) U λm s2 N=>?_;show⟨e,[a,b,c],rfl,N,A1 rfl,λx C=>?_,λn Y s3 _ D=>?_⟩
 . simp only[BY,F3,AHZ]at C;rcases C with rfl|rfl|rfl<;>(first|lia|omega)
 have Z:=s2.aa s3;have S:=s1.aa Z;show⟨_,_,AW (Z _ _ A),Ae (j:=0) rfl,rfl,_,rfl,HN (Ji (λ_=>?_) λf=>absurd rfl f)⟩;show⟨_,.inl (AW D),rfl,_,rfl,HN (Fw (λ_=>?_) λg=>absurd rfl g)⟩;show⟨Y,_,rfl,.inl D,A1 rfl,λq s4=>⟨_,rfl,HM ?_⟩⟩;have J:=s4 _ _ D;show⟨_,_,AW J,Ae (j:=0) rfl,a,rfl,I,L,_,rfl,GL ?_⟩;show⟨Y,[a,b,c],rfl,AW J,WY _,λM O X=>⟨_,_,rfl,rfl,_,rfl,Hx (λ_=>?_) λz=>?_⟩⟩;.show⟨Y,_,rfl,.inl ⟨AW J,λp d=>k _ p ((S.aa s4).dz d) Ak⟩⟩
 . simp only[BY,F3,AHZ]at O;(first|lia|omega)
noncomputable def X2(p s:Int)(k:AF)(t a:Int):List AB:=[.str "item",.str (B6 p),.str (B6 s),.str k,.str (B6 t),.str (B6 a)]
def tO:BF:=λY H Q _=>(JS λ(l W:AE)(U:List AB)(D:List (AL×AB))=>Iu (Y=[.ref l,.ref W]) (H l=AA (.lst U)) (H W=AA (.dK D)) (((∃r,U=.str "piece"::r)/\Q .non H\/∃(p s:Int)(k:AF)(t a:Int),U=X2 p s k t a/\((BZ D (.inl p)).isSome=AJ)/\p.natAbs<10^30/\(s=0\/s=1)/\F8 k/\0<=t/\t<=1000000000/\a.natAbs<10^30/\∀J r,Aj H J->J r=AA (.tup [.int p,.int s,.str k,.int t,.int a])->Q (.ref r) J)))
theorem nY(T:BM AH AZ AM):T.uc.Ok BE P w AZ base 4 tO:=by
 show T.uc.ok λI _ _ _ _ _ J H vs Q E h=>?_;obtain⟨l,dj,ws,G,rfl,D,e,h⟩:_:=h;show⟨_,(Ah (CP (Hu (K8 (Bu Jj (By AH (AD 0) AN) Bi (Bt _)) (Ly (Bu Jj (CW (Fc (K:=AH)) (by rfl) T.cx Ez #v[AD 0]) AN (Bt _))))) (Af (BD Gh)) Cg) (Ah (BN 2 I (EF Va (by rfl) T.vd AB3 #v[Ac Ff (Ac Ff (BC (PZ T) J #v[Du (Gx (K:=AH)) (AD 0) (DL AN) (DL AN)]) (Du (Gx (K:=AH)) (AD 0) (DL AN) (DL AN))) (BC (PZ T) J #v[Du (Gx (K:=AH)) (AD 0) (DL AN) Eu])])) (EN (BN 3 I (Jk (bL (bI J.u1 (BA AH (AD 2) AN) (AD 1))) (Jk (QJ (Sk (K:=AH)) (BA AH (AD 2) AN) (CY #v[AN,AN]) (by with_unfolding_all rfl)) (Jk (BC (YY T) J #v[BA AH (AD 2) AN]) (Jk (BC (Ya T) J #v[BA AH (AD 2) AN]) (OJ (BC (Uz T) J #v[BA AH (AD 2) AN]))))))) (Af (BD (KL (Fg (AD 3)) (AD 2) Gh)))))),?_⟩;have M:As=16777216:=CL;rcases h with⟨⟨r,rfl⟩,k⟩|⟨p,s,n,t,a,rfl,hp,hp0,hs,y,t0,t1,ha,k⟩;.show⟨_,_,AW D,Ae (j:=0) rfl,rfl,_,rfl,HN (Ji (λY=>by cases Y) λY=>GL k)⟩
 show⟨_,_,AW D,Ae (j:=0) rfl,rfl,_,rfl,HN (Ji (λ_=>?_) λY=>absurd rfl Y)⟩;show⟨_,.inl (AW D),rfl,_,rfl,HN (Fw (λ_=>?_) λq2=>absurd rfl q2)⟩;show⟨_,rfl,_,rfl,l,_,rfl,AW D,λl1 g=>?_⟩;show Ao (o:=.lst [.str (B6 p),.str (B6 s)]) g λH1 s1 N=>?_;show⟨l1,[p,s],rfl,N,A1 rfl,λz V=>?_,λH2 l2 s2 _ O=>?_⟩;. simp only[BY,F3,AHZ]at V;rcases V with rfl|rfl<;>(first|lia|omega)
 have A:=s1.aa s2;show⟨_,rfl,_,rfl,l,_,rfl,AW (A _ _ D),λl3 i=>?_⟩;show Ao (o:=.lst [.str n]) i λH3 s3 R=>?_;show⟨l2,l3,_,_,rfl,rfl,s3 _ _ O,R,by rw[M];show A1 rfl,λl4 m=>?_⟩;show Ao (o:=.lst [.int p,.int s,.str n]) m λH4 s4 S=>?_;have B:=(A.aa s3).aa s4;show⟨_,rfl,l,_,rfl,AW (B _ _ D),λl5 q=>?_⟩;show Ao (o:=.lst [.str (B6 t),.str (B6 a)]) q λH5 s5 X=>?_;show⟨l5,[t,a],rfl,X,A1 rfl,λz V=>?_,λH6 l6 s6 _ b=>?_⟩
 . simp only[BY,F3,AHZ]at V;rcases V with rfl|rfl<;>(first|lia|omega)
 have U:=s5.aa s6;show⟨l4,l6,_,_,rfl,rfl,U _ _ S,b,by rw[M];show A1 rfl,λl7 u=>?_⟩;show Ao (o:=.lst [.int p,.int s,.str n,.int t,.int a]) u λH7 s7 c=>?_;show⟨l7,_,rfl,.inl ⟨AW c,λl8 v=>?_⟩⟩;show Ao (o:=.tup [.int p,.int s,.str n,.int t,.int a]) v λH8 s8 W=>?_;have C:=((B.aa U).aa s7).aa s8;showλ_ _ _ _ z1=>⟨_,_,Aq W,Ae (j:=0) rfl,_,_,rfl,JI (k:=.inl p) (C _ _ e),?_⟩;rw[hp];show⟨_,rfl,?_⟩;show⟨_,_,Aq W,Ae (j:=1) rfl,A1 rfl,λl9 x=>?_⟩;show Ao (o:=.tup [.int 0,.int 1]) x λH9 L d=>?_;have f:EX (.int s) [.int 0,.int 1]=AJ:=by rcases hs with rfl|rfl<;>rfl
 show⟨l9,_,rfl,.inr (Aq d),rfl,rfl,_,rfl,?_⟩;rw[f];show⟨_,_,Aq (L _ _ W),Ae (j:=2) rfl,n,rfl,y,λHA sA=>⟨_,rfl,?_⟩⟩;have F:=L.aa sA;have Z:=F _ _ W;show⟨_,_,Aq Z,Ae (j:=3) rfl,t,rfl,t0,t1,_,rfl,?_⟩;show⟨_,_,Aq Z,Ae (j:=4) rfl,a,rfl,z1 _ _ ⟨_,rfl,GL (k _ _ (C.aa F) Z)⟩⟩
noncomputable def Yp(p:Int)(k:AF)(D J U W Y Z:Int):List AB:=[.str "piece",.str (B6 p),.str k,.str (B6 D),.str (B6 J),.str (B6 U),.str (B6 W),.str (B6 Y),.str (B6 Z)]
def uI:BF:=λE H Q _=>(NZ λ(l C:AE)(D:List (AL×AB))(p:Int)(k:AF)(U W Y Z A B:Int)=>LS (E=[.ref l,.ref C]) (H l=AA (.lst (Yp p k U W Y Z A B))) (H C=AA (.dK D)) (((BZ D (.inl p)).isSome=AJ)) (p.natAbs<10^30) (F8 k) ((∀n∈[U,W,Y,Z,A,B],n.natAbs<10^30)) (∀J r,Aj H J->J r=AA (.tup [.int p,.str k,.int U,.int W,.int Y,.int Z,.int A,.int B])->Q (.ref r) J))
theorem oS(T:BM AH AZ AM):T.qu.Ok BE P w AZ base 4 uI:=by show T.qu.ok λR _ _ _ _ _ U H vs Q E h=>?_;obtain⟨l,dj,O,p,n,W,Y,Z,A,B,C,rfl,J,q,hp,G,hn,hm,k⟩:_:=h;show⟨_,(Ah (CP (Hu (K8 (Bu Jj (By AH (AD 0) AN) Bi (Bt _)) (Ly (Bu Jj (CW (Fc (K:=AH)) (by rfl) T.cx Ez #v[AD 0]) AN (Bt _))))) (Af (BD Gh)) Cg) (Ah (BN 2 R (EF Va (by rfl) T.vd AB3 #v[Ac Ff (Ac Ff (BC (PZ T) U #v[Du (Gx (K:=AH)) (AD 0) (DL AN) (DL AN)]) (Du (Gx (K:=AH)) (AD 0) (DL AN) (DL AN))) (BC (PZ T) U #v[Du (Gx (K:=AH)) (AD 0) (DL AN) Eu])])) (EN (BN 3 R (Jk (bL (bI U.u1 (BA AH (AD 2) AN) (AD 1))) (Jk (BC (YY T) U #v[BA AH (AD 2) AN]) (OJ (BC (YQ T) U #v[Du (Lz (K:=AH)) (AD 2) (DL AN) Eu]))))) (Af (BD (KL (Fg (AD 3)) (AD 2) Gh)))))),?_⟩;have a:As=16777216:=CL;show⟨_,_,AW J,Ae (j:=0) rfl,rfl,_,rfl,HN (Ji (λ_=>?_) λq1=>absurd rfl q1)⟩;show⟨_,.inl (AW J),rfl,_,rfl,HN (Fw (λ_=>?_) λq2=>absurd rfl q2)⟩;show⟨_,rfl,_,rfl,l,_,rfl,AW J,λl1 r=>?_⟩;show Ao (o:=.lst [.str (B6 p)]) r λH1 s1 b=>?_;show⟨l1,[p],rfl,b,A1 rfl,λz hz=>by rw[Bc.mp hz];show G,λH2 l2 s2 _ c=>?_⟩;have L:=s1.aa s2;show⟨_,rfl,_,rfl,l,_,rfl,AW (L _ _ J),λl3 s=>?_⟩;show Ao (o:=.lst [.str n]) s λH3 s3 d=>?_;show⟨l2,l3,_,_,rfl,rfl,s3 _ _ c,d,by rw[a];show A1 rfl,λl4 t=>?_⟩;show Ao (o:=.lst [.int p,.str n]) t λH4 s4 e=>?_;have M:=(L.aa s3).aa s4;show⟨_,rfl,l,_,rfl,AW (M _ _ J),λl5 u=>?_⟩;show Ao (o:=.lst ([W,Y,Z,A,B,C].map λn=>.str (B6 n))) u λH5 s5 f=>?_;show⟨l5,[W,Y,Z,A,B,C],rfl,f,A1 rfl,hm,λH6 l6 s6 _ g=>?_⟩;have D:=s5.aa s6;show⟨l4,l6,_,_,rfl,rfl,D _ _ e,g,by rw[a];show A1 rfl,λl7 v=>?_⟩;show Ao (o:=.lst (.int p::.str n::[W,Y,Z,A,B,C].map AB.int)) v λH7 s7 i=>?_;show⟨l7,_,rfl,.inl ⟨AW i,λl8 x=>?_⟩⟩;show Ao (o:=.tup (.int p::.str n::[W,Y,Z,A,B,C].map AB.int)) x λH8 s8 F=>?_;have N:=((M.aa D).aa s7).aa s8;showλ_ _ _ _ z1=>⟨_,_,Aq F,Ae (j:=0) rfl,_,_,rfl,JI (k:=.inl p) (N _ _ q),?_⟩;rw[hp];show⟨_,rfl,?_⟩;show⟨_,_,Aq F,Ae (j:=1) rfl,n,rfl,hn,λHA I=>⟨_,rfl,?_⟩⟩;show⟨_,rfl,l8,_,rfl,Aq (I _ _ F),λh=>absurd (show(2:Nat)=0 from h.1) (by decide),λl9 y=>?_⟩;show Ao (o:=.tup ([W,Y,Z,A,B,C].map AB.int)) y λH9 S m=>?_;show⟨l9,_,rfl,.inr m,A1 rfl,λHB X=>z1 _ _ ⟨_,rfl,GL (k _ _ (((N.aa I).aa S).aa X) ((I.aa (S.aa X)) _ _ F))⟩⟩
theorem oW(T:BM AH AZ AM):T.qw.Ok BE P w AZ base 3 (Rt AM):=by
 show T.qw.ok λv _ _ _ _ _ A H vs Q E h=>?_;lk;obtain⟨S,ss,I,q,B,i,y,t,m,⟨n,z,G⟩,rfl,C,Y,a,f,N,d,k⟩:=h;obtain⟨j,sl,x,u,wi,R,M,⟨xs,O,W⟩,F,Z⟩:=C.ja a f;k_in;show⟨_,(Af (Dr (Hk (By AH (Bs (Jl A.u1 (AD 0) (BA AH (AD 1) AN) (λ_ _=>rfl)) rfl) (BA AH (AD 1) AN)) T.cg (Ye T) A #v[CY #v[BA AH (AD 1) AN,BA AH (AD 1) AN,BA AH (AD 1) AN]]))),?_⟩;obtain⟨U,V⟩:=F.bb;have D:=Aq (K:=AH) N;show⟨_,_,D,Ae (j:=0) rfl,I,_,rfl,.inl ⟨_,.inl (t:Int),C.aj,rfl,R.symm⟩,_,⟨M,T.cv,T.cj,rfl⟩,_,_,D,Ae (j:=1) rfl,_,_,AW O,Ae W,x,U,_,rfl,V,rfl,_,_,D,Ae (j:=3) rfl,_,_,D,Ae (j:=2) rfl,_,_,D,Ae (j:=4) rfl,(by decide:3<=sizeLine),λp g=>?_⟩;show Ao g λs s1 L=>?_;show⟨S,x,_,p,_,(n,z,G),rfl,F.ak s1,λc X=>?_,L,d,λJ s2 r=>?_⟩;. obtain⟨o,e⟩:=Y c X;show⟨o,s1 _ _ e⟩
 . have s3:Bj (Kg i t m) H J:=λb o l e=>s2 _ _ l (s1 _ _ e);show k J s3 (Z J _ s3 r)
theorem pA(T:BM AH AZ AM):T.ox.Ok BE P w AZ base 2 (Ru AM):=by
    show T.ox.ok λnd _ _ _ _ _ hr H vs Q E h=>?_;obtain⟨X,q,gx,dx,p,d,f,F,t,z,⟨y,c,t1,t2,t3,t4⟩,rfl,eg,ev,eo,I,lk',B,k1,k2⟩:_:=h;show⟨_,(Af (Dr (OH AH (AAA (Bs (Jl hr.u1 (AD 0) (BA AH (AD 1) AN) (λ_ _=>rfl)) rfl) (BA AH (AD 1) AN) (CM Fx) ⟨rfl,rfl,rfl,rfl⟩) #v[CY #v[BA AH (AD 1) AN,BA AH (AD 1) AN,Du (Lz (K:=AH)) (AD 1) (DL AN) Eu]]))),?_⟩;have s:=Aq (K:=AH) B;have C:∀{W:AI}{l:AE}{U:List AB},W q=AA (.tup [.int t,.str z,.int y,.int c,.int t1,.int t2,.int t3,.int t4])->W l=AA (.lst U)->U.length<100000->(∀J x,Bj l W J->J l=AA (.lst (U++[x]))->MW J x (y,c,t1,t2,t3,t4)->Q .non J)->TC AH "list" (.ref l) W/\L3 (TB (L3 (KP (Vz AH) (LA 1) (Ib (AB.int 2))) (L3 (KP (Vz AH) (LA 1) (Ib (AB.int 3))) (L3 (S9 (Su AH) (LA 1) (S6 (Ib (AB.int 4))) S5) L4)))) L4 [AA (.ref X),AA (.ref q)] W λU R=>Vx (.ref l) U R λ_ J=>Q .non J:=λ{W l U}s1 L g k=>by
      have Y:=Aq (K:=AH) s1;show⟨.inl ⟨rfl,_,AW L⟩,_,_,Y,Ae (j:=2) rfl,_,_,Y,Ae (j:=3) rfl,4,rfl,q,_,rfl,Y,(by change¬(CT 8 0 (AA 4)=0/\CT 8 8 AG=8);decide),λu hu=>?_⟩;show Ao hu λR s2 Z=>⟨(by decide:3<=sizeLine),λa ha=>?_⟩;show Ao ha λS s3 e3=>?_;have A:=s3 _ _ (s2 _ _ L);show⟨l,U,.ref a,rfl,rfl,A,by rw[CL];(first|lia|omega),?_⟩;have i:∀{b:AE}{o:Bw},S b=AA o->(∀O,o≠.lst O)->(AR S l (.lst (U++[.ref a]))) b=AA o:=λ{b o}e n=>by rw[Aa λz=>by rw[z,A]at e;show n _ (CD e).symm];show e
      show k _ _ (λb o G e=>by rw[Aa G];show s3 _ _ (s2 _ _ e)) Ak ⟨a,u,rfl,i e3 (by intro O z;cases z),i (s3 _ _ Z) (by intro O z;cases z)⟩
    show⟨_,_,s,Ae (j:=0) rfl,X,_,rfl,.inl ⟨_,.inl t,eg,rfl,ev.symm⟩,_,⟨eo,T.ba,T.bu,rfl⟩,d,rfl,.inl ⟨_,.inl I⟩,_,_,s,Ae (j:=1) rfl,Bm _,λr D=>?_⟩;show Ao D λW s1 er=>?_;show⟨F,.inr z,s1 _ _ I,rfl,by rw[CL];(first|lia|omega),λv hv=>?_,λhn=>?_⟩;. obtain⟨r',U,rfl,M,g,k⟩:_:=k1 v hv;show C (s1 _ _ B) (s1 _ _ M) g λJ x s2 Z N=>k J x (λb o G e=>s2 _ _ G (s1 _ _ e)) Z N
    . have m:r≠d:=λe=>by rw[e,I]at D;cases D
      have qd:q≠d:=λe=>by rw[e,I]at B;cases B
      have L:(AR W d (.dK (Bk F (.inr z) (.ref r)))) r=AA (.lst []):=by rw[Aa m];show er
      show C (by rw[Aa qd];show s1 _ _ B) L (by decide) λJ x s2 Z N=>k2 hn r J x D (λb o G e=>?_) (s2 _ _ (Gk m) Ak) Z N;have nr:b≠r:=λz=>by rw[z,D]at e;cases e
      show s2 _ _ nr (by rw[Aa G];show s1 _ _ e)
noncomputable def JA(ss:List AU):List Nat:=(Ei ss.length).filter (IP ss)
theorem RX:i∈JA ss↔C7 ss i:=by show EJ.trans ⟨λh=>RT.mp h.2,λh=>⟨?_,RT.mpr h⟩⟩;obtain⟨_,_,_,_,e⟩:_:=h;show OT.mpr (BU.mp e).1
theorem X6{ks:List AL}{l:List Nat}(U:ks.Perm (l.map λt:Nat=>.inl (t:Int)))(V:ks.Pairwise λa b=>Co b a=AQ)(W:l.Pairwise (.<.)):ks=l.map λt:Nat=>.inl (t:Int):=by
 have e:∀(a b:AL),BK [b] [a]=Co b a:=λa b=>by
  change(if b=a then AQ else Co b a)=_;by_cases q:b=a;.rw[AHT q,q,QB]
  .rw[AHS q]
 have D:Cm (ks.map λk=>[k]):=Eh.mpr (V.imp λ{a b}h=>(e a b).trans h);have J:Cm ((l.map λt:Nat=>(Cd (t:Int):AL)).map λk=>[k]):=Eh.mpr (Eh.mpr (W.imp λ{a b:Nat}h=>(e (.inl (a:Int)) (.inl (b:Int))).trans (AHW (show¬(b:Int)<(a:Int)by(first|lia|omega)))));show Us (Sw (U.map _) D J) λa _ b _ e=>(EG e).1
theorem lW(h:JV ss ss.length U D){ks:List AL}(J:ks.Perm (D.map (·.1)))(W:ks.Pairwise λa b=>Co b a=AQ):ks.map Az=(JA ss).map λt:Nat=>AB.int (t:Int):=by rw[h.aau]at J;have e:ks=(JA ss).map λt:Nat=>.inl (t:Int):=X6 J W ((WN.filter _));rw[e,Cz];rfl
theorem lH(h:JU (An ss) U D){ks:List AL}(J:ks.Perm (D.map (·.1)))(W:ks.Pairwise λa b=>Co b a=AQ):ks.map Az=(An ss).map λt:Nat=>AB.int (t:Int):=by rw[h.aau]at J;have e:ks=(An ss).map λt:Nat=>.inl (t:Int):=X6 J W ((WN.filter _));rw[e,Cz];rfl
noncomputable def EB(L:List AO):List AO:=iX λM=>Cm (M.map GZ)/\M.Perm L
theorem ZH(sd:Cm kss)(J:kss.Perm (L.map GZ)):kss=(EB L).map GZ/\(EB L).Perm L:=by obtain⟨M,D,rfl⟩:_:=ZT J;have q:=T5 (p:=λM=>Cm (M.map GZ)/\M.Perm L) ⟨M,sd,D⟩;show⟨Sw ((D.trans q.2.symm).map GZ) sd q.1,q.2⟩
theorem ZI(p:L.Perm D):EB L=EB D:=by unfold EB;congr 1;funext M;show propext ⟨λh=>⟨h.1,h.2.trans p⟩,λh=>⟨h.1,h.2.trans p.symm⟩⟩
def ZU(g:AF->List AV)(M:List (AF×AV)):Prop:=Cm (M.map RY)/\(M.map RY).Nodup/\∀m,m∈M↔m.2∈g m.1
noncomputable def Kt(g:AF->List AV):List (AF×AV):=iX (ZU g)
theorem VF(W:∀z,De (g z))(B:ks.Pairwise λa b=>Co (.inr b) (.inr a)=AQ)(A:ks.Nodup)(C:∀z,g z≠[]->z∈ks):EU g ks=Kt g/\∀m,m∈Kt g↔m.2∈g m.1:=by obtain⟨V,D⟩:=vX W B A;have J:∀m,m∈EU g ks↔m.2∈g m.1:=λm=>Pl.trans ⟨λh=>h.2,λh=>⟨C _ (d5 h),h⟩⟩;have q:=T5 (p:=ZU g) ⟨_,V,D,J⟩;show⟨rK D q.2.1 V q.1 (λm=>(J m).trans (q.2.2 m).symm) λa Y b Z e=>?_,q.2.2⟩;have D:=(q.2.2 b).mp Z;have U:a.1=b.1:=GS (EG e).1;rw[<-U]at D;show Tb U (vR (W a.1) ((J a).mp Y) D (Iq (EG (EG e).2).1))
theorem Xx(x:U):∀{M:List U},Cm (M.map f)->∃J:List U,Cm (J.map f)/\J.Perm (x::M) |[],_=>⟨[x],d8 _ _,.refl _⟩|y::M,h=>by obtain⟨V,Y⟩:=Gi.mp h;cases q:BK (f y) (f x)with
 |false=>
  show⟨x::y::M,Gi.mpr ⟨λk D=>?_,h⟩,.refl _⟩;rcases BY.mp D with rfl|D;.show q
  .cases e:BK k (f x)with |false=>rfl|true=>
   rcases HP.negTrans k (f y) (f x) e with z|z;.show absurd ((V k D).symm.trans z) (by decide)
   .show absurd (q.symm.trans z) (by decide)
 |true=>
  obtain⟨J,Z,W⟩:_:=Xx x Y;show⟨y::J,Gi.mpr ⟨λk D=>?_,Z⟩,(W.cons y).trans (.swap _ _ _)⟩;rcases BY.mp (((W.map f).mem_iff).mp D)with rfl|D;.cases e:BK (f x) (f y)with|false=>rfl|true=> have:=QE e q;rw[Lp]at this;cases this
  .show V k D
theorem Rr(f:D->List AL):∀L:List D,∃M:List D,Cm (M.map f)/\M.Perm L|[]=>⟨[],.nil,.nil⟩|x::L=>by lk;obtain⟨M,U,V⟩:=Rr f L;obtain⟨J,W,Y⟩:=Xx x U;k_in;show⟨J,W,Y.trans (V.cons x)⟩
theorem La(L:List AO):(EB L).Perm L:=(T5 (p:=λM:List AO=>Cm (M.map GZ)/\M.Perm L) (have⟨M,h⟩:=Rr GZ L;⟨M,h⟩)).2
structure MZ(g:AF->List AV)(ks:List AF):Prop where
 nd:ks.Nodup
 so:ks.Pairwise λa b=>Co (.inr b) (.inr a)=AQ
 e:EU g ks=Kt g
 nj:∀z,g z≠[]->z∈ks
theorem Hg.wk(h:Hg ex H d g kvs)(C:∀z,De (g z)):∃ks,MZ g ks/\ks.length=kvs.length:=by
 lk;obtain⟨M,J,D⟩:=Rr (λk:AL=>[k]) (kvs.map (·.1));obtain⟨ks,rfl⟩:∃ks:List AF,M=ks.map Br:=by
  have:∀k∈M,∃z:AF,k=.inr z:=λk U=>by obtain⟨q,B,rfl⟩:=Ax.mp (D.mem_iff.mp U);obtain⟨z,_,_,e,_⟩:=h.qc q B;show⟨z,by rw[e]⟩
  clear J D;induction M with |nil=>show⟨[],rfl⟩|cons k M F=> obtain⟨ks,rfl⟩:=F λk U=>this k (.tail _ U);obtain⟨z,rfl⟩:=this k (.head _);show⟨z::ks,rfl⟩
 k_in;have G:=D.nodup_iff.mpr h.nd;have A:ks.Nodup:=(Eh.mp G).imp λh e=>h (AHU _ e);have s1:ks.Pairwise λa b=>Co (.inr b) (.inr a)=AQ:=by
  rw[Cz]at J;show(Eh.mp J).imp_of_mem λ{a b}I K q=>?_;change(if(Br b:AL)=Br a then AQ else Co (.inr b) (.inr a))=AQ at q;by_cases e:b=a;.rw[e,QB]
  . rw[AHS λz=>e (GS z)]at q;show q
 have Y:∀z,g z≠[]->z∈ks:=λz E=>by obtain⟨L,W,e⟩:=Ax.mp (D.mem_iff.mpr (h.nj z E));rw[<-GS e];show W
 have Z:=D.length_eq;rw[Au,Au]at Z;show⟨ks,⟨A,s1,(VF C s1 A Y).1,Y⟩,Z⟩
theorem MZ.zw(h:MZ g ks):∀m,m∈Kt g↔m.2∈g m.1:=λm=>by rw[<-h.e];show Pl.trans ⟨λq=>q.2,λq=>⟨h.nj _ (d5 q),q⟩⟩
def Nb(i:AO):Prop:=F8 i.2.1/\0<=i.1/\i.1<=1000000000/\i.2.2.natAbs<10^30
noncomputable def Ja(t m:Nat)(i:AO):List AB:=[.str "item",.int (t:Int),.int (m:Int),.str i.2.1,.int i.1,.int i.2.2]
theorem Ra(Z:t<100)(Y:m<2)(h:Nb i):∀v∈Ja t m i,Ma v:=λv D=>by
 obtain⟨J,V,W,U⟩:_:=h;simp only[Ja,BY,F3,AHZ]at D;rcases D with rfl|rfl|rfl|rfl|rfl|rfl;.show .inr ⟨_,rfl,YJ⟩
 .show .inl ⟨_,rfl,by(first|lia|omega)⟩
 .show .inl ⟨_,rfl,by(first|lia|omega)⟩
 .show .inr ⟨_,rfl,J⟩
 .show .inl ⟨_,rfl,by(first|lia|omega)⟩
 .show .inl ⟨_,rfl,U⟩
noncomputable def Fp(sd:C3)(t m:Nat):List AF:=(EB (EA m (sd t))).map λi=>ET (Ja t m i)
noncomputable def Kj(sd:C3)(t n:Nat):List AF:=(Ei n).flatMap (Fp sd t)
noncomputable def Cw(ss:List AU)(sd:C3):List AF:=(JA ss).flatMap λt=>Kj sd t 2
theorem Nk:Kj sd t (n+1)=Kj sd t n++Fp sd t n:=by unfold Kj;rw[TU,LD,TM]
def LW(ss:List AU)(sd:C3):Prop:=∀t,C7 ss t->∀m,m<2->(EA m (sd t)).length<=20000/\∀i∈EA m (sd t),Nb i
def tN(A:CA):BF:=λB H Q _=>(Iv λ(J:List AU)(Y:AE)(D:List (AL×AB))(Z:Nat->DS)(U:C3)=>JQ (B=[.ref Y]) (H Y=AA (.dK D)) (Cf A [] H J Y D Z U) (JV J J.length Z D) (J.length<=20) (LW J U) (∀W r,Aj H W->H r=AG->W r=AA (.lst ((Cw J U).map AB.str))->(Cw J U).length<=800000->Q (.ref r) W))
theorem nX(T:BM AH AZ AM):T.ma.Ok BE P w AZ base 4 (tN AM):=by
    show T.ma.ok λnd _ _ _ _ _ hr H vs Q E h=>?_;obtain⟨ss,dj,jkvs,jd,sd,rfl,ej,jr,jks,lss,ok,k⟩:_:=h;show⟨_,(Ah (BN 1 nd (CM Fx)) (Ah (D3 D7 rfl (DQ (K:=AH) (CW (VZ rfl) (by rfl) T.ik Tf #v[AD 0])) (D2 2 nd) (Af (D3 D7 rfl (QM (K:=AH) (by rfl) T.fi (Bs (Jl hr.u1 (AD 0) (AD 2) (λ_ _=>rfl)) rfl)) (Nn rfl (IA (D2 3 nd) (IA (D2 4 nd) M4))) (Af (Dr (GO (K:=AH) MG Od Qk My (AD 1) #v[(HR (Cy rB) [("place",2),("side",3)] ⟨rfl,rfl,rfl,rfl,trivial⟩ (DQ (K:=AH) (Pb (AD 4) T.cg (Yb T) hr)) (λ_ _ _ _=>Fy) (λ_ _ _ _=>(BC (Rj T) hr #v[Ac (KI (K:=AH)) (CY #v[Bi,AD 1,AD 2]) (AD 0)])))])))))) (Af (BD (AD 1))))),?_⟩;have sz:As=16777216:=CL;have lj:(JA ss).length<=20:=Ag (Fh _ _) (by rw[WL];show lss);show⟨Bm _,λl hl=>?_⟩;show Ao (o:=.lst []) hl λH1 s1 el=>?_;show⟨dj,jkvs,rfl,s1 _ _ ej,.inl λq hq=>?_,λls ks hls pk ps=>?_⟩
    . obtain⟨i,_,_,e⟩:_:=jks.yz q hq;show⟨_,by rw[e]⟩
    rw[lW jks pk ps];show Ao hls λH2 s2 els=>?_;have nll:ls≠l:=λz=>by rw[z,el]at hls;cases hls
    clear pk ps;show⟨ls,rfl,⟨_,AW els⟩,HK (K:=AH) (xs:=(JA ss).map λt:Nat=>AB.int (t:Int)) (λn σ H'=>(JS λ(o2 o3 o4:Option AB)(A:List AF)=>HZ (σ=[AA (.ref dj),AA (.ref l),o2,o3,o4]) (Aj H H') (H' l=AA (.lst (A.map AB.str))) (H' ls=AA (.lst ((JA ss).map λt:Nat=>AB.int (t:Int)))) (A=((JA ss).take n).flatMap (λt=>Kj sd t 2)) (A.length<=40000*n))) ⟨AG,AG,AG,[],rfl,s1.aa s2,s2 _ _ el,els,rfl,Bm _⟩ (λn σ H' _ hh=>by obtain⟨_,_,_,_,_,_,_,e,_⟩:=hh;show AW e) (λn x σ H3 hx hI=>?_) λσ H3 hI=>?_⟩
    . lk;obtain⟨o2,o3,o4,A,rfl,s3,el3,els3,eA,lA⟩:=hI;rw[Bo]at hx;obtain⟨t,et,rfl⟩:=EK.mp hx;have ht:C7 ss t:=RX.mp (Cp et);have hn:n<20:=Bl (BU.mp et).1 lj;obtain⟨nn,a,b,wi,eJ⟩:=id ht;have t20:t<100:=by have:=(BU.mp eJ).1;(first|lia|omega)
      obtain⟨vj,jj⟩:=jr.dq t nn a b wi eJ;obtain⟨dxj,exj⟩:=(jj.ak s3).bb;k_in;show⟨dj,_,rfl,by have:=JI (k:=Cd (t:Int)) (s3 _ _ ej);rw[vj]at this;show this,_,⟨exj,T.cv,T.cj,rfl⟩,(jd t).sl,rfl,⟨_,AW (s3 _ _ jj.ay)⟩,?_⟩;show SR (K:=AH) (xs:=[.ref (jd t).x0,.ref (jd t).x1]) (λm σ H'=>(El λ(o3 o4:Option AB)(B:List AF)=>HZ (σ=[AA (.ref dj),AA (.ref l),AA (.int (t:Int)),o3,o4]) (Aj H H') (H' l=AA (.lst (B.map AB.str))) (H' ls=AA (.lst ((JA ss).map λt:Nat=>AB.int (t:Int)))) (B=A++Kj sd t m) (B.length<=40000*n+20000*m))) ⟨o3,o4,A,rfl,s3,el3,els3,(D4 _).symm,lA⟩ (λm σ H' _ hh=>by obtain⟨_,_,_,_,s',_⟩:=hh;show AW (s' _ _ jj.ay)) (λm x σ H4' pt hx hI hpt=>?_) λσ H4 hI=>?_
      . lk;obtain⟨o3,o4,B,rfl,s4',el4',els4',eB,lB⟩:=hI;have hm:m<2:=(BU.mp hx).1;obtain⟨S,d,eS,sr0⟩:=jj.acf (L:=sd t) hm;rw[eS]at hx;cases hx;obtain⟨lL,hL⟩:=ok t ht m hm;k_in;show Ao (o:=.tup [.int (m:Int),.ref S]) hpt λH4 s44 ept=>?_;have s4:=s4'.aa s44;have el4:=s44 _ _ el4';have els4:=s44 _ _ els4';have sr:=sr0.ak s4;obtain⟨dxs,exs⟩:=sr.bb;show⟨pt,_,rfl,Aq ept,rfl,_,_,rfl,_,_,rfl,rfl,.inl ⟨rfl,_,AW el4⟩,S,dxs,_,rfl,exs,by rfl,[],S,d,EA m (sd t),rfl,sr,lL,λH5 r xs kss s5 hr5 er5 w5 sd5 pm5=>?_⟩;obtain⟨ek,pI⟩:=ZH sd5 pm5;have lI:(EB (EA m (sd t))).length<=20000:=by rw[pI.length_eq];show lL
        have pa:=Cn w5;have lx:xs.length=(EB (EA m (sd t))).length:=by rw[pa.1,ek,Au]
        show⟨r,rfl,⟨_,AW er5⟩,?_⟩;show JJ (K:=AH) (xs:=xs) (λq τ acc' H'=>(∃o,τ=[o,AA (.int (t:Int)),AA (.int (m:Int))])/\Aj H5 H'/\acc'=((Fp sd t m).take q).map AB.str) (by(first|lia|omega)) ⟨⟨AG,rfl⟩,DF _,rfl⟩ (λq τ acc' H'⟨_,s',_⟩=>AW (s' _ _ er5)) ?_ ?_
        . intro q y τ acc' H6 R1 hy _ hI k1;lk;obtain⟨⟨o,rfl⟩,s6,rfl⟩:=hI;have hq:=(BU.mp hy).1;rw[lx]at hq;obtain⟨i,ei⟩:∃i:AO,(EB (EA m (sd t)))[q]?=AA i:=⟨_,CG hq⟩;obtain⟨a,rfl,ea⟩:=pa.2 q y (GZ i) hy (by rw[ek,Bo,ei];rfl);k_in;have io:=hL i (pI.mem_iff.mp (Cp ei));have wn:=Ra t20 hm io;show⟨A1 rfl,λp hp=>?_⟩;show Ao (o:=.tup [.str "item",.int (t:Int),.int (m:Int)]) hp λH7 s7 ep=>?_;show⟨p,a,_,_,rfl,rfl,Aq ep,Aq (s7 _ _ (s6 _ _ ea)),(λz=>nomatch z),by rw[sz];show A1 rfl,(λz=>nomatch z),λ_ p2 hp2=>⟨p2,Ja t m i,rfl,.inr (by rw[Ak];rfl),A1 rfl,λv hv=>(wn v hv).wy,λH8 s8=>k1 _ _ _ ⟨⟨_,rfl⟩,((s6.aa s7).dz hp2).aa s8,?_⟩⟩⟩;unfold Fp;rw[DH,Bo,ei,CQ];rfl
        . intro τ acc' H6 la6 hI C hC;obtain⟨_,s6,rfl⟩:_:=hI;have lS:(Fp sd t m).length=xs.length:=by unfold Fp;rw[Au,lx]
          rw[<-lS,LH];show Ao (o:=.lst ((Fp sd t m).map AB.str)) hC λH7 s7 eC=>?_;have s47:=(s5.aa s6).aa s7;show⟨l,C,_,_,rfl,rfl,s47 _ _ el4,eC,by rw[Au,Au];(first|lia|omega),_,_,B++Fp sd t m,rfl,(s4.aa s47).xc hl,by rw[Ak,CQ],by rw[Aa nll];show s47 _ _ els4,by rw[eB,Nk,Dh],by rw[Ba];(first|lia|omega)⟩
      . obtain⟨o3,o4,B,rfl,s4,el4,els4,eB,lB⟩:_:=hI;show⟨_,_,_,B,rfl,s4,el4,els4,?_,by(first|lia|omega)⟩;rw[DH,et,LD,<-eA,eB];change _=A++dU _ [t];rw[TM];rfl
    . obtain⟨o2,o3,o4,A,rfl,s3,el3,els3,eA,lA⟩:_:=hI;rw[Au]at eA lA;rw[LH]at eA;subst eA;show k H3 l s3 hl el3 (by change(Cw ss sd).length<=_ at lA;(first|lia|omega))
def O9(m:AF×AV):Prop:=F8 m.1/\∀n∈[m.2.1,m.2.2.1,m.2.2.2.1,m.2.2.2.2.1,m.2.2.2.2.2.1,m.2.2.2.2.2.2],n.natAbs<10^30
noncomputable def JF(t:Nat)(m:AF×AV):List AB:=[.str "piece",.int (t:Int),.str m.1,.int m.2.1,.int m.2.2.1,.int m.2.2.2.1,.int m.2.2.2.2.1,.int m.2.2.2.2.2.1,.int m.2.2.2.2.2.2]
theorem Rm(C:t<100)(h:O9 m):∀v∈JF t m,Ma v:=λv J=>by
 lk;obtain⟨B,D⟩:=h;simp only[ADw,F3,false_implies,implies_true,and_true]at D;obtain⟨U,V,W,Y,Z,A⟩:=D;k_in;simp only[JF,BY,F3,AHZ]at J;rcases J with rfl|rfl|rfl|rfl|rfl|rfl|rfl|rfl|rfl;.show .inr ⟨_,rfl,YK⟩
 .show .inl ⟨_,rfl,by(first|lia|omega)⟩
 .show .inr ⟨_,rfl,B⟩
 .show .inl ⟨_,rfl,U⟩
 .show .inl ⟨_,rfl,V⟩
 .show .inl ⟨_,rfl,W⟩
 .show .inl ⟨_,rfl,Y⟩
 .show .inl ⟨_,rfl,Z⟩
 .show .inl ⟨_,rfl,A⟩
noncomputable def Ga(D:Dp)(t:Nat):List AF:=(Kt (D t)).map λm=>ET (JF t m)
noncomputable def DV(ss:List AU)(D:Dp):List AF:=(An ss).flatMap (Ga D)
def Na(ss:List AU)(D:Dp)(J:Eo):Prop:=∀t∈An ss,(J t).length<=600/\(Kt (D t)).length<=100000/\(∀z,De (D t z)/\(D t z).length<=3000)/\∀m:AF×AV,m.2∈D t m.1->O9 m
def uH(B:CA):BF:=λC H Q _=>(JT λ(J:List AU)(Y:AE)(D:List (AL×AB))(Z:Nat->Em)(U:Dp)(A:Eo)=>JQ (C=[.ref Y]) (H Y=AA (.dK D)) (C4 B [] H J (An J) Y D Z U A) (JU (An J) Z D) (J.length<=20) (Na J U A) (∀W r,Aj H W->H r=AG->W r=AA (.lst ((DV J U).map AB.str))->(DV J U).length<=2000000->Q (.ref r) W))
theorem oR(T:BM AH AZ AM):T.jx.Ok BE P w AZ base 4 (uH AM):=by
    show T.jx.ok λnd _ _ _ _ _ hr H vs Q E h=>?_;obtain⟨f,dg,R,s,J,gk,rfl,eg,gr,O,lss,ok,k⟩:_:=h;show⟨_,(Ah (BN 1 nd (CM Fx)) (Ah (D3 D7 rfl (DQ (K:=AH) (CW (VZ rfl) (by rfl) T.ik Tf #v[AD 0])) (D2 2 nd) (Af (Dr (GO (K:=AH) MG Od Qk My (AD 1) #v[(HR (Cy rE) [("place",2)] ⟨rfl,rfl,trivial⟩ (DQ (K:=AH) (Pb (Jl hr.u1 (AD 0) (AD 2) (λ_ _=>rfl)) T.ba (Yd T) hr)) (λ_ _ _ _=>Fy) (λ_ _ _ _=>(BC (Rj T) hr #v[Ac (KI (K:=AH)) (Ac (KI (K:=AH)) (CY #v[Bi,AD 1]) (Du (Lz (K:=AH)) (AD 0) Eu (DL AN))) (BA AH (AD 0) AN)])))])))) (Af (BD (AD 1))))),?_⟩;have sz:As=16777216:=CL;have lj:(An f).length<=20:=Ag (Fh _ _) (by rw[WL];show lss);show⟨Bm _,λl hl=>?_⟩;show Ao (o:=.lst []) hl λH1 s1 el=>?_;show⟨dg,R,rfl,s1 _ _ eg,.inl λq u=>?_,λls ks Y pk ps=>?_⟩;. obtain⟨i,_,e⟩:_:=O.yz q u;show⟨_,by rw[e]⟩
    rw[lH O pk ps];show Ao Y λH2 s2 L=>?_;have nll:ls≠l:=λz=>by rw[z,el]at Y;cases Y
    clear pk ps;show⟨ls,rfl,⟨_,AW L⟩,HK (K:=AH) (xs:=(An f).map λt:Nat=>AB.int (t:Int)) (λn σ U=>SK (λ(o2:Option AB)(A:List AF)=>σ=[AA (.ref dg),AA (.ref l),o2]) (λ_ _=>Aj H U) (λ_ A=>U l=AA (.lst (A.map AB.str))) (λ_ _=>U ls=AA (.lst ((An f).map λt:Nat=>AB.int (t:Int)))) (λ_ A=>A=((An f).take n).flatMap (Ga J)) (λ_ A=>A.length<=100000*n)) ⟨AG,[],rfl,s1.aa s2,s2 _ _ el,L,rfl,Bm _⟩ (λn σ U _ hh=>by obtain⟨_,_,_,_,_,e,_⟩:=hh;show AW e) (λn x σ H4 hx W=>?_) λσ H3 W=>?_⟩
    . lk;obtain⟨o2,A,rfl,s4,I,M,F,lA⟩:=W;rw[Bo]at hx;obtain⟨t,et,rfl⟩:=EK.mp hx;have ht:=Cp et;have hn:n<20:=Bl (BU.mp et).1 lj;obtain⟨lg1,lw,S,pok⟩:=ok t ht;obtain⟨st,es,vj,g⟩:=(gr.ak s4).ie t ht;have t20:t<100:=by have:=(BU.mp es).1;(first|lia|omega)
      obtain⟨dxg,exg⟩:=g.bb;k_in;show⟨.inl ⟨rfl,_,AW I⟩,dg,_,rfl,by have:=JI (k:=Cd (t:Int)) (s4 _ _ eg);rw[vj]at this;show this,(s t).x,dxg,_,rfl,exg,by rfl,[],(s t).x,(s t).p,(s t).d,st,J t,gk t,rfl,g,lg1,(λz=>(S z).2),λH5 r ys ks s5 hr5 N b ps5 kn5 km5 lk5=>⟨r,rfl,⟨_,AW N⟩,?_⟩⟩;obtain⟨ew,wm⟩:=VF (λz=>(S z).1) ps5 kn5 km5;rw[ew]at b;have X:=Cn b;show JJ (K:=AH) (xs:=ys) (λq τ D U=>(∃o,τ=[o,AA (.int (t:Int))])/\Aj H5 U/\D=((Ga J t).take q).map AB.str) (by have:=X.1;(first|lia|omega)) ⟨⟨AG,rfl⟩,DF _,rfl⟩ (λq τ D U⟨_,s',_⟩=>AW (s' _ _ N)) ?_ ?_
      . intro q y τ D H6 R1 hy _ W k1;lk;obtain⟨⟨o,rfl⟩,c,rfl⟩:=W;have u:=(BU.mp hy).1;rw[X.1]at u;obtain⟨m,em⟩:∃m:AF×AV,(Kt (J t))[q]?=AA m:=⟨_,CG u⟩;obtain⟨a,q',rfl,ea,eq'⟩:=X.2 q y m hy em;k_in;have po:=pok m ((wm m).mp (Cp em));have wn:=Rm t20 po;have G:=c _ _ ea;have eq6:=c _ _ eq';show⟨A1 rfl,λp hp=>?_⟩;show Ao (o:=.tup [.str "piece",.int (t:Int)]) hp λH7 s7 ep=>?_;show⟨_,rfl,a,_,rfl,Aq (s7 _ _ G),(λh=>absurd (show(3:Nat)=4 from h.2) (by decide)),λp1 hp1=>?_⟩;show Ao (o:=.tup [.str m.1,.int m.2.1,.int m.2.2.1]) hp1 λH8 s8 ep1=>?_;show⟨p,p1,_,_,rfl,rfl,Aq (s8 _ _ ep),Aq ep1,(λz=>nomatch z),A1 rfl,(λz=>nomatch z),λ_ p2 hp2=>?_⟩;show Ao (o:=.tup [.str "piece",.int (t:Int),.str m.1,.int m.2.1,.int m.2.2.1]) hp2 λH9 s9 ep2=>?_;have B:=(s7.aa s8).aa s9;show⟨_,_,Aq (B _ _ G),Ae (j:=3) rfl,p2,q',_,_,rfl,rfl,Aq ep2,Aq (B _ _ eq6),(λz=>nomatch z),A1 rfl,(λz=>nomatch z),λ_ p3 hp3=>⟨p3,JF t m,rfl,.inr Ak,A1 rfl,λv hv=>(wn v hv).wy,λHA sA=>k1 _ _ _ ⟨⟨_,rfl⟩,(c.aa (B.dz hp3)).aa sA,?_⟩⟩⟩;unfold Ga;rw[DH,Bo,em,CQ];rfl
      . intro τ D H6 la6 W C hC;obtain⟨_,c,rfl⟩:_:=W;have lS:(Ga J t).length=ys.length:=by unfold Ga;rw[Au,X.1]
        rw[<-lS,LH];show Ao (o:=.lst ((Ga J t).map AB.str)) hC λH7 s7 eC=>?_;have Z:=(s5.aa c).aa s7;have p1:=X.1;show⟨l,C,_,_,rfl,rfl,Z _ _ I,eC,by rw[Au,Au];(first|lia|omega),_,A++Ga J t,rfl,(s4.aa Z).xc hl,by rw[Ak,CQ],by rw[Aa nll];show Z _ _ M,?_,by rw[Ba];(first|lia|omega)⟩;rw[DH,et,LD,<-F];change _=A++dU _ [t];rw[TM]
    . obtain⟨o2,A,rfl,s3,el3,els3,F,lA⟩:_:=W;rw[Au]at F lA;rw[LH]at F;subst F;show k H3 l s3 hl el3 (by change(DV f J).length<=_ at lA;(first|lia|omega))
structure UO(ad:CA)(H:AI)(ss:List AU)(dj dg:AE)(jkvs gkvs:List (AL×AB))(jd:Nat->DS)(gd:Nat->Em)(sd:C3)(gg:Dp)(gk:Eo):Prop where
 ej:H dj=AA (.dK jkvs)jr:Cf ad [] H ss dj jkvs jd sd
 xv:JV ss ss.length jd jkvs
 eg:H dg=AA (.dK gkvs)gr:C4 ad [] H ss (An ss) dg gkvs gd gg gk
 xq:JU (An ss) gd gkvs
theorem UO.ak(h:UO AM H ss W U J D B Y sd Z A)(s:Aj H H'):UO AM H' ss W U J D B Y sd Z A:=⟨s _ _ h.ej,h.jr.ak s,h.xv,s _ _ h.eg,h.gr.ak s,h.xq⟩
noncomputable def Fq(z:AF)(D:List AF):List AF:=(z::D)++[ET [.str "end",.int ((D.length:Int)+1)]]
def tT(E:CA):BF:=λI H Q _=>(NZ λ(D:List AU)(B A:AE)(U J:List (AL×AB))(G:Nat->DS)(F:Nat->Em)(Y:C3)(W:Dp)(C:Eo)(z:AF)=>HZ (I=[.str z,.ref B,.ref A]) (UO E H D B A U J G F Y W C) (D.length<=20) (LW D Y) (Na D W C) (∀Z r,Aj H Z->H r=AG->Z r=AA (.lst ((Fq z (Cw D Y++DV D W)).map AB.str))->(Cw D Y++DV D W).length<=2800000->Q (.ref r) Z))
theorem oB(T:BM AH AZ AM):T.ud.Ok BE P w AZ base 5 (tT AM):=by
 show T.ud.ok λnd _ _ _ _ _ D H vs Q E h=>?_;obtain⟨J,X,S,W,U,q,f,N,I,i,z,rfl,g,Z,so,j,k⟩:_:=h;show⟨_,(Ah (BN 3 nd (Ac Ff (Ac Ff (CM #v[AD 0]) (BC (nX T) D #v[AD 1])) (BC (oR T) D #v[AD 2]))) (Af (BD (Ac Ff (AD 3) (CM #v[(BC (YS T) D #v[(CW (Fc (K:=AH)) (by rfl) T.cx Ez #v[AD 3])])]))))),?_⟩;have sz:As=16777216:=CL;show⟨A1 rfl,λs l=>?_⟩;show Ao (o:=.lst [.str z]) l λH1 s1 a=>?_;have F:=g.ak s1;show⟨J,X,W,q,N,rfl,F.ej,F.jr,F.xv,Z,so,λH2 t s2 _ b n2=>?_⟩;show⟨s,t,_,_,rfl,rfl,s2 _ _ a,b,by rw[GP,Au];(first|lia|omega),λu m=>?_⟩;show Ao m λH3 s3 c=>?_;have A:=(s1.aa s2).aa s3;have G:=g.ak A;show⟨J,S,U,f,I,i,rfl,G.eg,G.gr,G.xq,Z,j,λH4 v s4 _ d n4=>?_⟩;show⟨u,v,_,_,rfl,rfl,s4 _ _ c,d,by rw[Ba,GP,Au,Au];(first|lia|omega),λx n=>?_⟩;rw[Dh,<-CQ];have R:(Cw J N++DV J I).length<=2800000:=by rw[Ba];(first|lia|omega)
 generalize Cw J N++DV J I=C at R k;show Ao n λH5 s5 O=>?_;have Y:([AB.str z]++C.map AB.str).length=C.length+1:=by rw[Ba,Au,GP];(first|lia|omega)
 have B:=(A.aa s4).aa s5;show⟨_,.inl (AW O),(C.length:Int)+1,by rw[Y];rfl,by(first|lia|omega),λH6 L=>⟨A1 rfl,λy p=>?_⟩⟩;show Ao (o:=.lst [.str (ET [.str "end",.int ((C.length:Int)+1)])]) p λH7 M e=>?_;show⟨x,y,_,_,rfl,rfl,M _ _ (L _ _ O),e,by rw[Y,GP];(first|lia|omega),λr D=>k _ r ((B.aa (L.aa M)).dz D) ((B.aa (L.aa M)).az D) ?_ R⟩;rw[Ak,Fq,CQ,EI];rfl
noncomputable def FV(now D J:Int):AF:=ET [.str "clock",.int now,.int D,.int J]
def uE(C:CA):BF:=λG H Q _=>(MQ λ(D:List AU)(F:FD)(E U J W:Int)(Z:C3)(Y:Dp)(B:Eo)=>LU (G=[.ref F.x]) (DU C H D F E U J W Z Y B) (D.length<=20) (LW D Z) (Na D Y B) (U.natAbs<10^30) (J.natAbs<10^30) (W.natAbs<10^30) (∀A r,Aj H A->H r=AG->A r=AA (.lst ((Fq (FV U J W) (Cw D Z++DV D Y)).map AB.str))->(Cw D Z++DV D Y).length<=2800000->Q (.ref r) A))
theorem oO(T:BM AH AZ AM):T.vk.Ok BE P w AZ base 6 (uE AM):=by
    show T.vk.ok λd _ _ _ _ _ I H s Q E h=>?_;obtain⟨g,F,q,B,W,C,e,X,a,rfl,Y,A,f,b,M,N,O,k⟩:_:=h;show⟨_,(Ah (BN 1 d (BC (Rj T) I #v[CM #v[Bi,Bs (Bs (AD 0) rfl) rfl,Bs (Bs (AD 0) rfl) rfl,Bs (AD 0) rfl]])) (Af (BD (BC (oB T) I #v[AD 1,Bs (AD 0) rfl,Bs (AD 0) rfl])))),?_⟩;lk;obtain⟨p,V⟩:=Y.bb;obtain⟨m,G⟩:=Y.dv;k_in;show⟨_,⟨V,T.ah,T.bc,rfl⟩,_,⟨G,T.aw,T.bp,rfl⟩,_,⟨V,T.ah,T.bc,rfl⟩,_,⟨G,T.aw,T.cn,rfl⟩,_,⟨V,T.ah,T.cq,rfl⟩,A1 rfl,λl c=>?_⟩;show Ao (o:=.lst [.str "clock",.int B,.int W,.int C]) c λi s1 R=>?_;show⟨l,_,rfl,.inl R,A1 rfl,λw hw=>?_,λj s2=>?_⟩
    . simp only[BY,F3,AHZ]at hw;rcases hw with rfl|rfl|rfl|rfl;.show .inr ⟨_,rfl,by decide⟩
      .show .inl ⟨_,rfl,M⟩
      .show .inl ⟨_,rfl,N⟩
      .show .inl ⟨_,rfl,O⟩
    have D:=s1.aa s2;have U:=D _ _ V;have J:=Y.ak D;show⟨_,⟨U,T.ah,T.df,rfl⟩,_,⟨U,T.ah,T.cp,rfl⟩,g,F.dj,F.dg,F.mw,F.mn,F.jd,F.gd,e,X,a,_,rfl,⟨J.ft,J.bz,J.xv,J.fq,J.au,J.xq⟩,A,f,b,λL r s3 Z S n=>k L r (D.aa s3) (D.az Z) S n⟩
noncomputable def Hi:List AL->List AL->Option Ordering|[],[]=>AA .eq|[],_::_=>AA .lt|_::_,[]=>AA .gt|a::x,b::y=>if a=b then Hi x y else if CC a=CC b then AA (if Co a b=AJ then .lt else .gt)else AG
structure LV(vs ws:List AK)(n m:Nat)(r:Ordering):Prop where
 f1:∀v∈vs,Dt v
 f2:∀v∈ws,Dt v
 c:Hi (vs.map BO) (ws.map BO)=AA r
 bh:vs.length+m=ws.length+n
theorem LV.gh(h:LV (v::vs) (w::U) n m r):(BO v=BO w/\LV vs U n m r)\/(BO v≠BO w/\CC (BO v)=CC (BO w)/\r=if Co (BO v) (BO w)=AJ then .lt else .gt):=by
  obtain⟨V,W,c,J⟩:_:=h;rw[EI,EI,Hi]at c;by_cases e:BO v=BO w
  . rw[AHT e]at c;show .inl ⟨e,λx D=>V x (D5 _ D),λx D=>W x (D5 _ D),c,by simp only[Ex]at J;(first|lia|omega)⟩
  . rw[AHS e]at c;by_cases i:CC (BO v)=CC (BO w)
    . rw[AHT i]at c;show .inr ⟨e,i,(CD c).symm⟩
    . rw[AHS i]at c;cases c
theorem LV.acm(h:LV vs J n m r)(z:vs.zip J=[]):r=if n<m then .lt else if m<n then .gt else .eq:=by obtain⟨_,_,c,D⟩:_:=h;cases vs with
 |nil=>cases J with |nil=>cases c;simp only[OR]at D;rw[AHS (by(first|lia|omega)),AHS (by(first|lia|omega))]|cons a J=>cases c;simp only[OR,Ex]at D;rw[AHT (by(first|lia|omega))]
 |cons a vs=>cases J with |nil=>cases c;simp only[OR,Ex]at D;rw[AHS (by(first|lia|omega)),AHT (by(first|lia|omega))]|cons b J=>rw[WR]at z;cases z
noncomputable def J7:Ordering->Bool|.lt=>AQ|_=>AJ
noncomputable def J8:Ordering->Bool|.gt=>AJ|_=>AQ
section
variable{w:B0}{s:AU}
set_option tactic.hygienic true in theorem qW(A:DB)(s:AX){x y:AK}(D:Dt x)(J:Dt y)(hs:CC (BO x)=CC (BO y))(U:BO x≠BO y)(prog:CS)(w:B0)(E:AK->AX->Prop)(Q:AK->AX->Prop)(h:Q (.bool (J7 (if Co (BO x) (BO y)=AJ then .lt else .gt))) s):Aw (Av prog w) A (ACt .GtE x y) Q E s:=by
  cases x<;>first|show D.elim|skip
  all_goals(cases y<;>first|show J.elim|show HX (by assumption)|skip)
  . rename_i i _ j _;show AEc ?_;have e:∀b:Bool,J7 (if b=AJ then .lt else .gt)=!b:=λb=>by cases b<;>rfl
    rw[e]at h;rw[show Ab (j<=i)=!Ab (i<j)by rw[<-decide_not];show AHg.mpr (by(first|lia|omega))];show h
  . show P.ge_str ?_;have e:∀b:Bool,J7 (if b=AJ then .lt else .gt)=!b:=λb=>by cases b<;>rfl
    rw[e]at h;show h
end
theorem vK(l b:AE)(J D:Array AK)(n o:Nat)(i I:Option AE)(p T:Array (Option AK))(r:Ordering)(P:LV J.toList D.toList J.size D.size r):Meets (Builtin.«tuple.__ge__» ⟨[.ref l,.ref b],[]⟩) (λ_ R s=>s.heap.get? l=AA {cls:=.type "tuple",dict:=i,data:=.seq J n,slots:=p}/\s.heap.get? b=AA {cls:=.type "tuple",dict:=I,data:=.seq D o,slots:=T}/\R (.ok (.ret (.bool (J7 r)))) s):=.of_wp λV w A R s h=>by
 obtain⟨F,g,d,H,G⟩:_:=s;obtain⟨k,j,h⟩:=h;have v:=ACC;wp_walk using wpAny_loadPart' k,wpAny_loadPart' j,hG _ (λW b S=>b.1=AG/\S=⟨F,g,d,H,G⟩/\∃(E C:List AK),W=E.zip C/\LV E C J.size D.size r) _;case turn=>rintro⟨y,x⟩W b S⟨Y,rfl,E,C,B,U⟩;cases C with|nil=>rw[ABi]at B;cases B|cons c C=>cases E with|nil=>cases B|cons a q=>
    rw[WR]at B;injection B with Q Z;injection Q with m P;subst m P;have K:=U.f1 y Ci;have L:=U.f2 x Ci;rcases U.gh with⟨e,M⟩|⟨e,f,M⟩
    . show Ay (P8 A.in1 ⟨F,g,d,H,G⟩ K L (by rw[e]) V w _ _ ?_);rw[AHV e];wp_walk;show⟨rfl,rfl,q,C,Z,M⟩
    . show Ay (P8 A.in1 ⟨F,g,d,H,G⟩ K L f V w _ _ ?_);rw[AHW e];have N:=qW A.in1 ⟨F,g,d,H,G⟩ K L f e V w;wp_walk using N;show⟨_,rfl,by rw[<-M];show h⟩
 case fin=>
  rintro⟨t,u⟩S⟨Y,rfl,E,C,B,U⟩;simp only at Y;subst Y;have O:=U.acm B.symm;have O:J7 r=Ab (D.size<=J.size):=by
   rw[O];by_cases X:J.size<D.size;.rw[AHT X,AHW (by(first|lia|omega))];rfl
   . rw[AHS X,AHV (by(first|lia|omega))];split<;>rfl
  rw[O]at h;wp_walk;show⟨_,rfl,by simpa[ACF]using h⟩
 case h=>show⟨rfl,rfl,J.toList,D.toList,rfl,P⟩
section
variable{w:B0}{s:AU}
set_option tactic.hygienic true in theorem qX(A:DB)(s:AX){x y:AK}(U:Dt x)(V:Dt y)(hs:CC (BO x)=CC (BO y))(D:BO x≠BO y)(prog:CS)(w:B0)(E:AK->AX->Prop)(Q:AK->AX->Prop)(h:Q (.bool (J8 (if Co (BO x) (BO y)=AJ then .lt else .gt))) s):Aw (Av prog w) A (ACt .Gt x y) Q E s:=by
  cases x<;>first|show U.elim|skip
  all_goals(cases y<;>first|show V.elim|show HX (by assumption)|skip)
  . rename_i i _ j _;show AEf ?_;have e:∀b:Bool,J8 (if b=AJ then .lt else .gt)=!b:=λb=>by cases b<;>rfl
    rw[e]at h;have D:i≠j:=λz=>D (by change(Cd i:AL)=.inl j;rw[z]);rw[show Ab (j<i)=!Ab (i<j)by rw[<-decide_not];show AHg.mpr (by(first|lia|omega))];show h
  . rename_i i _ j _;show P.gt_str ?_;have e:∀b:Bool,J8 (if b=AJ then .lt else .gt)=!b:=λb=>by cases b<;>rfl
    rw[e]at h;have D:i≠j:=λz=>D (by change(Br i:AL)=.inr j;rw[z]);have J:Ab (j.cps.toList<i.cps.toList)=!Ab (i.cps.toList<j.cps.toList):=by
      have t:=@Vm (.inr i) (.inr j);have a:Co (.inr i) (.inr j)=AJ->Co (.inr j) (.inr i)=AQ:=λh1=>by cases h2:Co (.inr j) (.inr i)with|false=>rfl|true=>have:=aH h1 h2;rw[QB]at this;cases this
      revert t a;change((Ab (i.cps.toList<j.cps.toList))=AQ->(Ab (j.cps.toList<i.cps.toList))=AQ->(Br i:AL)=.inr j)->((Ab (i.cps.toList<j.cps.toList))=AJ->(Ab (j.cps.toList<i.cps.toList))=AQ)->_;cases Ab (i.cps.toList<j.cps.toList)<;>cases Ab (j.cps.toList<i.cps.toList)<;>intro t a;.show absurd (GS (t rfl rfl)) D
      .rfl
      .rfl
      .cases a rfl
    rw[J];show h
end
theorem vL(l b:AE)(J D:Array AK)(n p:Nat)(j K:Option AE)(q X:Array (Option AK))(r:Ordering)(Q:LV J.toList D.toList J.size D.size r):Meets (Builtin.«tuple.__gt__» ⟨[.ref l,.ref b],[]⟩) (λ_ R s=>s.heap.get? l=AA {cls:=.type "tuple",dict:=j,data:=.seq J n,slots:=q}/\s.heap.get? b=AA {cls:=.type "tuple",dict:=K,data:=.seq D p,slots:=X}/\R (.ok (.ret (.bool (J8 r)))) s):=.of_wp λV w A R s h=>by
    obtain⟨G,g,d,I,H⟩:_:=s;obtain⟨m,k,h⟩:=h;have z:=ACC;wp_walk using wpAny_loadPart' m,wpAny_loadPart' k,hG _ (λW b T=>b.1=AG/\T=⟨G,g,d,I,H⟩/\∃(E C:List AK),W=E.zip C/\LV E C J.size D.size r) _;case turn=> rintro⟨y,x⟩W b T⟨Y,rfl,E,C,B,U⟩;cases C with|nil=>rw[ABi]at B;cases B|cons c C=>cases E with|nil=>cases B|cons a t=>
          rw[WR]at B;injection B with S Z;injection S with o Q;subst o Q;have L:=U.f1 y Ci;have M:=U.f2 x Ci;rcases U.gh with⟨e,N⟩|⟨e,i,N⟩
          . show Ay (P8 A.in1 ⟨G,g,d,I,H⟩ L M (by rw[e]) V w _ _ ?_);rw[AHV e];wp_walk;show⟨rfl,rfl,t,C,Z,N⟩
          . show Ay (P8 A.in1 ⟨G,g,d,I,H⟩ L M i V w _ _ ?_);rw[AHW e];have O:=qX A.in1 ⟨G,g,d,I,H⟩ L M i e V w;wp_walk using O;show⟨_,rfl,by rw[<-N];show h⟩
    case fin=>
      rintro⟨u,v⟩T⟨Y,rfl,E,C,B,U⟩;simp only at Y;subst Y;have P:=U.acm B.symm;have P:J8 r=Ab (D.size<J.size):=by
        rw[P];by_cases f:J.size<D.size;.rw[AHT f,AHW (by(first|lia|omega))];rfl
        . rw[AHS f];by_cases F:D.size<J.size;.rw[AHT F,AHV F];rfl
          .rw[AHS F,AHW F];rfl
      rw[P]at h;wp_walk;show⟨_,rfl,by simpa[ACF]using h⟩
    case h=>show⟨rfl,rfl,J.toList,D.toList,rfl,Q⟩
def Yx(K:BB)(f:Ordering->Bool):EC:=λx y H Q=>Mz x λa=>Mz y λb=>∃D J r,CB K H a (D.map Az)/\CB K H b (J.map Az)/\Hi D J=AA r/\Q (.bl (f r)) H
theorem XW(I:AY X A j H s)(S:CB X.K H a (ks.map Az))(T:CB X.K H b (O.map Az))(c:Hi ks O=AA r):∃J D n F C U G V,s.heap.get? a=AA {cls:=.type "tuple",dict:=C,data:=.seq J n,slots:=G}/\s.heap.get? b=AA {cls:=.type "tuple",dict:=U,data:=.seq D F,slots:=V}/\LV J.toList D.toList J.size D.size r:=by lk;obtain⟨e,r1,h,_⟩:=I.de S;obtain⟨N,r2,i,_⟩:=I.de T;obtain⟨f,Q⟩:=K5 r1;obtain⟨g,R⟩:=K5 r2;obtain⟨⟨P,C,L,G⟩,d,W,n,M⟩:=id h;obtain⟨⟨K,U,B,V⟩,E,Y,F,Z⟩:=id i;k_in;simp only at W M Y Z;subst W M Y Z;show⟨_,_,n,F,C,U,G,V,d,E,by simpa using Q,by simpa using R,by simpa[f,g]using c,by simp;(first|lia|omega)⟩
section
variable{s:AU}{X:Bv}{K:BB}
unseal CU in theorem pP(B:X.A.units<HW)(W:X.K=K:=by rfl):CU X (Ek .GtE) (Yx K J7):=by subst W;intro pins s σ H x y v u Q I F G h;lk;obtain⟨a,rfl,h1⟩:=Lu h;obtain⟨b,rfl,ks,L,r,Y,Z,A,q⟩:=Lu h1;cases F;cases G;obtain⟨_,_,n,E,dd,J,sl,U,V,D,C⟩:=XW I Y Z A;k_in;show gU (op:=.GtE) ⟨_,V,rfl⟩ ⟨_,D,rfl⟩ F.slot_tuple_ge F.entry_tuple_ge (by rfl) (vK a b _ _ n E dd J sl U _ C) ⟨V,D,show Qm (J7 r)≠ACW/\Ee X pins σ Q (.bool (J7 r)) s from⟨(λe=>nomatch e),⟨.bl _,H,I,rfl,q⟩⟩⟩ B
end
section
variable{s:AU}{X:Bv}{K:BB}
unseal CU in theorem pQ(B:X.A.units<HW)(W:X.K=K:=by rfl):CU X (Ek .Gt) (Yx K J8):=by subst W;intro pins s σ H x y v u Q I F G h;lk;obtain⟨a,rfl,h1⟩:=Lu h;obtain⟨b,rfl,ks,L,r,Y,Z,A,q⟩:=Lu h1;cases F;cases G;obtain⟨_,_,n,E,dd,J,sl,U,V,D,C⟩:=XW I Y Z A;k_in;show gU (op:=.Gt) ⟨_,V,rfl⟩ ⟨_,D,rfl⟩ F.slot_tuple_gt F.entry_tuple_gt (by rfl) (vL a b _ _ n E dd J sl U _ C) ⟨V,D,show Qm (J8 r)≠ACW/\Ee X pins σ Q (.bool (J8 r)) s from⟨(λe=>nomatch e),⟨.bl _,H,I,rfl,q⟩⟩⟩ B
end
noncomputable def GY(t m:Nat)(i:AO):List AL:=[.inl 0,.inl (t:Int),.inl (m:Int),.inr i.2.1,.inl i.1,.inl i.2.2]
noncomputable def GI(t:Nat)(m:AF×AV):List AL:=[.inl 1,.inl (t:Int),.inr m.1,.inl m.2.1]
def Nr(F:CA):BF:=λI H Q E=>(UJ λ(z:AF)(B A G:AE)(W U:List (AL×AB))(C:List AL)(o:Ordering)=>FT (I=[.str z,.ref B,.ref A,.ref G]) (H G=AA (.tup (C.map Az))) (H B=AA (.dK W)) (H A=AA (.dK U)) (((∃(t m:Nat)(i:AO),z=ET (Ja t m i)/\t<100/\m<2/\Nb i/\((BZ W (.inl (t:Int))).isSome=AJ)/\Hi (GY t m i) C=AA o/\J7 o=AJ/\∀J q,Aj H J->J q=AA (.tup [.int (t:Int),.int (m:Int),.str i.2.1,.int i.1,.int i.2.2])->Rt F [.ref B,.ref q] J (λ_ Y=>B7 J Y/\∀Z D,Aj Y D->D Z=AA (.tup ((GY t m i).map Az))->Q (.ref Z) D) E)\/∃(t:Nat)(m:AF×AV),z=ET (JF t m)/\t<100/\O9 m/\((BZ U (.inl (t:Int))).isSome=AJ)/\Hi (GI t m) C=AA o/\J8 o=AJ/\∀J q,Aj H J->J q=AA (.tup [.int (t:Int),.str m.1,.int m.2.1,.int m.2.2.1,.int m.2.2.2.1,.int m.2.2.2.2.1,.int m.2.2.2.2.2.1,.int m.2.2.2.2.2.2])->Ru F [.ref A,.ref q] J (λ_ Y=>B7 J Y/\∀Z D,Aj Y D->D Z=AA (.tup ((GI t m).map Az))->Q (.ref Z) D) E)))
theorem oX(T:BM AH AZ AM):T.kh.Ok BE P w AZ base 5 (Nr AM):=by
    show T.kh.ok λnd _ _ _ _ _ L H vs Q E h=>?_;obtain⟨z,d,u,la,A,O,lk,o,rfl,el,ej,eg,h⟩:_:=h;show⟨_,(Ah (BN 4 nd (GO (K:=AH) NN Wj AFF aU (AD 0) #v[Bi])) (Ah (BN 5 nd (BC (nY T) L #v[AD 4,AD 1])) (Ah (CP (Hu (OM (Bu bE (AD 5) Gh (Bt _)) (ON (Bu (pP (K:=AH) L.wz) (Ac (KI (K:=AH)) (CY #v[AN]) (AD 5)) (AD 3) (Bt _))))) (Ah (Dr (BC (oW T) L #v[AD 1,AD 5])) (Af (BD (Ac (KI (K:=AH)) (CY #v[AN]) (AD 5))))) Cg) (Ah (BN 6 nd (BC (oS T) L #v[AD 4,AD 2])) (Ah (CP (Hu (OM (Bu bE (AD 6) Gh (Bt _)) (ON (Bu (pQ (K:=AH) L.wz) (Ac (KI (K:=AH)) (CY #v[AN]) (Du (Lz (K:=AH)) (AD 6) Eu (DL AN))) (AD 3) (Bt _))))) (Ah (Dr (BC (pA T) L #v[AD 2,AD 6])) (Af (BD (Ac (KI (K:=AH)) (CY #v[AN]) (Du (Lz (K:=AH)) (AD 6) Eu (DL AN)))))) Cg) (Af (BD Gh))))))),?_⟩;have sz:As=16777216:=CL;rcases h with⟨t,m,i,rfl,ht,hm,io,hs,hc,ho,k⟩|⟨t,m,rfl,ht,po,hs,hc,ho,k⟩
    . have c:=Ra ht hm io;have ln:=Ur (A1 rfl) c;show⟨rfl,_," ",rfl,rfl,by decide,by(first|lia|omega),λl hl=>?_⟩;rw[R3 (xs:=Ja t m i) (λz=>nomatch z) c];show Ao (o:=.lst (X2 t m i.2.1 i.1 i.2.2)) hl λH1 s1 e=>?_;obtain⟨i1,i2,i3,i4⟩:_:=io;show⟨l,d,_,A,rfl,e,s1 _ _ ej,.inr ⟨(t:Int),(m:Int),i.2.1,i.1,i.2.2,rfl,hs,by(first|lia|omega),by(first|lia|omega),i1,i2,i3,i4,λH2 r s2 U=>?_⟩⟩;have g:=s1.aa s2;have J:∀{D:AI}{R:BS},D r=AA (.tup [.int (t:Int),.int (m:Int),.str i.2.1,.int i.1,.int i.2.2])->(∀q Y,Aj D Y->Y q=AA (.tup ((GY t m i).map Az))->R (.ref q) Y)->KP (Sr AH) (TB (L3 (Ib (AB.int 0)) L4)) (LA 5) [AA (.str (ET (Ja t m i))),AA (.ref d),AA (.ref u),AA (.ref la),AA (.ref l),AA (.ref r),AG] D R:=λ{D R}U k=>by show⟨A1 rfl,λq hq=>?_⟩;show Ao (o:=.tup [.int 0]) hq λY s4 B=>?_;show⟨q,r,_,_,rfl,rfl,Aq B,Aq (s4 _ _ U),(λz=>nomatch z),A1 rfl,(λz=>nomatch z),λ_ Z F=>k Z _ (s4.dz F) Ak⟩
      show⟨rfl,_,rfl,GL (J U λq D s3 B=>?_)⟩;have N:=g.aa s3;show⟨_,_,o,Aq B,Aq (N _ _ el),hc,_,rfl,?_⟩;rw[ho];obtain⟨ex',ss',dj',j,G,jd',sd',t',m',i',h1,h2,h3,h4,h5,h6,h7,kk⟩:_:=k D r N (s3 _ _ U);show GL ⟨ex',ss',dj',j,G,jd',sd',t',m',i',h1,h2,h3,h4,h5,h6,h7,λI f j5=>?_⟩;obtain⟨b,S⟩:=kk I f j5;show J (b _ _ (s3 _ _ U)) λZ M a W=>S Z M a W
    . have c:=Rm ht po;have ln:=Ur (A1 rfl) c;show⟨rfl,_," ",rfl,rfl,by decide,by(first|lia|omega),λl hl=>?_⟩;rw[R3 (xs:=JF t m) (λz=>nomatch z) c];show Ao (o:=.lst (Yp t m.1 m.2.1 m.2.2.1 m.2.2.2.1 m.2.2.2.2.1 m.2.2.2.2.2.1 m.2.2.2.2.2.2)) hl λH1 s1 e=>?_;show⟨l,d,_,A,rfl,e,s1 _ _ ej,.inl ⟨⟨_,rfl⟩,⟨rfl,_,rfl,HM ?_⟩⟩⟩;show⟨l,u,O,(t:Int),m.1,m.2.1,m.2.2.1,m.2.2.2.1,m.2.2.2.2.1,m.2.2.2.2.2.1,m.2.2.2.2.2.2,rfl,e,s1 _ _ eg,hs,by(first|lia|omega),po.1,po.2,λH2 r s2 U=>?_⟩;have g:=s1.aa s2;have J:∀{D:AI}{R:BS},D r=AA (.tup [.int (t:Int),.str m.1,.int m.2.1,.int m.2.2.1,.int m.2.2.2.1,.int m.2.2.2.2.1,.int m.2.2.2.2.2.1,.int m.2.2.2.2.2.2])->(∀q Y,Aj D Y->Y q=AA (.tup ((GI t m).map Az))->R (.ref q) Y)->KP (Sr AH) (TB (L3 (Ib (AB.int 1)) L4)) (S9 (Su AH) (LA 6) S5 (S6 (Ib (AB.int 3)))) [AA (.str (ET (JF t m))),AA (.ref d),AA (.ref u),AA (.ref la),AA (.ref l),AA .non,AA (.ref r)] D R:=λ{D R}U k=>by show⟨A1 rfl,λq hq=>?_⟩;show Ao (o:=.tup [.int 1]) hq λY s4 B=>?_;show⟨_,rfl,r,_,rfl,Aq (s4 _ _ U),(λh=>absurd (show(3:Nat)=8 from h.2) (by decide)),λq1 hq1=>?_⟩;show Ao (o:=.tup [.int (t:Int),.str m.1,.int m.2.1]) hq1 λI f eq1=>?_;show⟨q,q1,_,_,rfl,rfl,Aq (f _ _ B),Aq eq1,(λz=>nomatch z),A1 rfl,(λz=>nomatch z),λ_ Z F=>k Z _ ((s4.aa f).dz F) Ak⟩
      show⟨rfl,_,rfl,GL (J U λq D s3 B=>?_)⟩;have N:=g.aa s3;show⟨_,_,o,Aq B,Aq (N _ _ el),hc,_,rfl,?_⟩;rw[ho];obtain⟨y,j,gx',dx',p',d',C,X,t',z',pc',h1,h2,h3,h4,h5,h6,h7,k1,k2⟩:_:=k D r N (s3 _ _ U);show GL ⟨y,j,gx',dx',p',d',C,X,t',z',pc',h1,h2,h3,h4,h5,h6,h7,λv ev=>?_,λev r' I x n p s b4 b5=>?_⟩
      . obtain⟨r',xs',e1',e2',e3',k1⟩:_:=k1 v ev;show⟨r',xs',e1',e2',e3',λI x n p s=>?_⟩;obtain⟨b,S⟩:=k1 I x n p s;show J (b _ _ (s3 _ _ U)) λZ M a W=>S Z M a W
      . obtain⟨b,S⟩:=k2 ev r' I x n p s b4 b5;show J (b _ _ (s3 _ _ U)) λZ M a W=>S Z M a W
section
variable{s:AU}
structure XN(s:BF)(vs:List AB)(H:AI)(Q:BS)(E:Fb):Prop where go:s vs H Q E
end
theorem jM(c:JR CX P w AH D base k R sp):JR CX P w AH D base k R (XN sp):=by obtain⟨r,b,F⟩:_:=c;show⟨r,b,F.aec λ_ _ _ _ h=>h.go⟩
theorem oY(T:BM AH AZ AM):T.kh.Ok BE P w AZ base 5 (XN (Nr AM)):=jM (oX (P:=P) (w:=w) (base:=base) T)
theorem qJ(h:Rt AM vs H Q E)(q:∀H',Q .non H'->J .non H'):Rt AM vs H J U:=by obtain⟨Y,M,W,a,D,K,L,t,m,i,Z,A,B,C,F,G,I,k⟩:_:=h;show⟨Y,M,W,a,D,K,L,t,m,i,Z,A,B,C,F,G,I,λH' s j=>q _ (k H' s j)⟩
theorem qK(h:Ru AM vs H Q E)(q:∀H',Q .non H'->Z .non H'):Ru AM vs H Z A:=by obtain⟨F,a,M,G,p,d,D,Y,t,z,f,N,O,P,R,S,T,X,b,c⟩:_:=h;show⟨F,a,M,G,p,d,D,Y,t,z,f,N,O,P,R,S,T,X,λv e=>?_,λe r H' x J U W B C=>q _ (c e r H' x J U W B C)⟩;obtain⟨r,g,I,K,L,k⟩:_:=b v e;show⟨r,g,I,K,L,λH' x J U W=>q _ (k H' x J U W)⟩
theorem Yv(h:Nr AM vs H Q E)(q:∀v H',Q v H'->M v H'):Nr AM vs H M N:=by
 obtain⟨z,R,P,b,W,J,c,o,S,T,X,a,h⟩:_:=h;show⟨z,R,P,b,W,J,c,o,S,T,X,a,h.imp (λh=>?_) λh=>?_⟩;. obtain⟨t,m,i,Z,A,B,C,F,G,O,k⟩:_:=h;show⟨t,m,i,Z,A,B,C,F,G,O,λY p s e=>qJ (k Y p s e) λH' U=>⟨U.1,λK D L I=>q _ _ (U.2 K D L I)⟩⟩
 . obtain⟨t,m,Z,A,B,C,F,G,k⟩:_:=h;show⟨t,m,Z,A,B,C,F,G,λY p s e=>qK (k Y p s e) λH' U=>⟨U.1,λK D L I=>q _ _ (U.2 K D L I)⟩⟩
noncomputable def Ni(n:Int):AF:=ET [.str "end",.int n]
def uO(C:CA):BF:=λF H Q E=>(JT λ(l A Z:AE)(G:AF)(Y:List AF)(I:Nat->AI->List AL->Prop)=>LS (F=[.ref l,.ref A,.ref Z]) (Y.length<=2800000) ((∀z∈Y,∀n:Nat,z≠Ni (n:Int))) ((∀n D U,I n D U->D l=AA (.lst ((Fq G Y).map AB.str)))) ((∀n D J U,I n D U->Aj D J->I n J U)) (I 0 H [.inl 0]) ((∀n z D B U,Y[n]?=AA z->I n D U->D B=AA (.tup (U.map Az))->Nr C [.str z,.ref A,.ref Z,.ref B] D (λv J=>∃(q:AE)(W:List AL),v=.ref q/\J q=AA (.tup (W.map Az))/\I (n+1) J W) E)) (∀D U,I Y.length D U->Q .non D))
theorem oZ(T:BM AH AZ AM):T.ou.Ok BE P w AZ base 6 (uO AM):=by
    show T.ou.ok λX _ _ _ _ _ e H vs Q E h=>?_;obtain⟨l,m,j,Y,D,I,rfl,lz,t,Z,R,u,step,k⟩:_:=h;show⟨_,(Ah (BN 3 X (CY #v[AN])) (Ah (D3 D7 rfl (AAH (by rfl) T.gp #v[AN,(CW (Fc (K:=AH)) (by rfl) T.cx Ez #v[AD 0])]) (D2 4 X) (Ah (CP (Bu ED (By AH (AD 0) (AD 4)) (BC (YS T) e #v[AD 4]) (Bt _)) (Ah (CP (Bu OF (Ac Et (AD 4) AN) (CW (Fc (K:=AH)) (by rfl) T.cx Ez #v[AD 0]) (Bt _)) QP Cg) (Af AAN)) Cg) (Ah (BN 3 X (BC (oY T) e #v[By AH (AD 0) (AD 4),AD 1,AD 2,AD 3])) (Af (CP (Bu Vt (AD 3) Gh (Bt _)) QP Cg))))) QP)),?_⟩;have sz:As=16777216:=CL;show⟨A1 rfl,λW N=>?_⟩;show Ao (o:=.tup [.int 0]) N λH1 s1 p=>?_;have C:(Fq Y D).map AB.str=AB.str Y::(D++[Ni ((D.length:Int)+1)]).map AB.str:=rfl;have x:((Fq Y D).map AB.str).length=D.length+2:=by rw[C,Ex,Au,Ba,GP]
    have i1:=R _ _ _ _ u s1;show⟨_,.inl (AW (Z _ _ _ i1)),1,_,rfl,⟨by decide,by decide,by(first|lia|omega),by(first|lia|omega)⟩,?_⟩;rw[show((((Fq Y D).map AB.str).length:Int)-1).toNat=D.length+1 by(first|lia|omega)];show QA (λk a b=>(El λ(f:Option AB)(W:AE)(A:List AL)=>Iu (a=[AA (.ref l),AA (.ref m),AA (.ref j),AA (.ref W),f]) (I k b A) (b W=AA (.tup (A.map Az))) (k<=D.length))) ⟨AG,W,[.inl 0],rfl,i1,p,Bm _⟩ (λn a i d L=>?_) λa i L=>?_
    . obtain⟨f,W,A,rfl,i2,F,O⟩:_:=L;have c:(1+(n:Int)).natAbs<10^30:=by(first|lia|omega)
      rcases OY n D.length with U|M
      . lk;obtain⟨z,G⟩:∃z,D[n]?=AA z:=⟨_,CG U⟩;k_in;have J:Cr ((Fq Y D).map AB.str) (1+(n:Int))=AA (.str z):=by rw[show(1+(n:Int))=((n+1:Nat):Int)by(first|lia|omega)];show Ae (by rw[C,ADx,Bo,Jt U,G];rfl)
        have y:=t z (Cp G) (n+1);show⟨_,_,AW (Z _ _ _ i2),J,1+(n:Int),rfl,c,λB s3=>⟨rfl,_,rfl,Ji (λq=>absurd (show z=Ni ((n+1:Nat):Int)by rw[show((n+1:Nat):Int)=1+(n:Int)by(first|lia|omega)];show q) y) λq=>?_⟩⟩;have i3:=R _ _ _ _ i2 s3;show⟨_,_,AW (Z _ _ _ i3),J,XN.mk (Yv (step n z B W A G i3 (s3 _ _ F)) λv g s=>?_)⟩;obtain⟨q',S,rfl,r,i4⟩:_:=s;show⟨rfl,_,rfl,HM ⟨_,q',S,rfl,i4,r,U⟩⟩
      . have d:n=D.length:=Eb O M;subst d;have J:Cr ((Fq Y D).map AB.str) (1+(D.length:Int))=AA (.str (Ni ((D.length:Int)+1))):=by rw[show(1+(D.length:Int))=((D.length+1:Nat):Int)by(first|lia|omega)];show Ae (by rw[C,ADx,Bo,L5 (Ai _),Qc];rfl)
        show⟨_,_,AW (Z _ _ _ i2),J,1+(D.length:Int),rfl,c,λB s3=>⟨rfl,_,rfl,Ji (λ_=>?_) λq=>absurd (by rw[Int.add_comm];rfl) q⟩⟩;have i3:=R _ _ _ _ i2 s3;show⟨_,.inl (AW (Z _ _ _ i3)),_,rfl,Hx (λh=>by(first|lia|omega)) λ_=>k B A i3⟩
    . obtain⟨_,_,_,_,_,_,h⟩:_:=L;show absurd h (by(first|lia|omega))
def u7:BF:=λJ H Q _=>(El λ(a b:AE)(D:List AF)=>FT (J=[.ref a,.ref b]) (H a=AA (.lst (D.map AB.str))) (H b=AA (.lst (D.map AB.str))) (D.length<=3000000) (Q (.bl AJ) H))
theorem pJ(T:BM AH AZ AM):T.jz.Ok BE P w AZ base 1 u7:=by
    show T.jz.ok λC _ _ _ _ _ F H M Q E h=>?_;obtain⟨a,b,J,rfl,U,Y,I,k⟩:_:=h;show⟨_,(Ah (CP (Hu (K8 (Jn (Fg (CW (N6 (K:=AH)) (by rfl) T.dh Te #v[AD 0,(OI (v:=.ty "list") (by rfl) T.gu MC rfl)]))) (Ly (Bu Jj (CW (Fc (K:=AH)) (by rfl) T.cx Ez #v[AD 0]) (CW (Fc (K:=AH)) (by rfl) T.cx Ez #v[AD 1]) (Bt _))))) (Af (BD K6)) Cg) (Ah (D3 D7 rfl (QN (by rfl) T.gp #v[(CW (Fc (K:=AH)) (by rfl) T.cx Ez #v[AD 1])]) (D2 2 C) (Af (CP (Hu (K8 (Jn (Fg (CW (N6 (K:=AH)) (by rfl) T.dh Te #v[By AH (AD 0) (AD 2),(OI (v:=.ty "str") (by rfl) T.fu IB rfl)]))) (Ly (Bu Jj (By AH (AD 0) (AD 2)) (By AH (AD 1) (AD 2)) (Bt _))))) (Af (BD K6)) Cg))) (Af (BD K6)))),?_⟩;have L:As=16777216:=CL;have G:(J.map AB.str).length=J.length:=Au _;show⟨_,"list",_,_,rfl,.lst U,rfl,_,rfl,HM ⟨_,.inl (AW U),_,.inl (AW Y),rfl,_,rfl,HN (Fw (λ_=>?_) λz=>absurd rfl z)⟩⟩;show⟨_,.inl (AW Y),_,rfl,by(first|lia|omega),by(first|lia|omega),?_⟩;rw[W6];show QA (λn A W=>∃o:Option AB,A=[AA (.ref a),AA (.ref b),o]/\W=H) ⟨AG,rfl,rfl⟩ (λn A W B Z=>?_) λA W Z=>?_
    . obtain⟨o,rfl,rfl⟩:_:=Z;have B:n<J.length:=by(first|lia|omega)
      have D:Cr (J.map AB.str) (0+(n:Int))=AA (.str J[n]):=by rw[W8];show Ae (by rw[Bo,CG B];rfl)
      show⟨_,_,AW U,D,_,"str",_,_,rfl,.str _,rfl,_,rfl,HM ⟨_,_,AW U,D,_,_,AW Y,D,rfl,_,rfl,HN (Ji (λ_=>?_) λz=>absurd rfl z)⟩⟩;show⟨_,rfl,rfl⟩
    . obtain⟨o,rfl,rfl⟩:_:=Z;show k
def tX:BF:=λJ H Q _=>∃c:Int,J=[.int c]/\∀D m j,Aj H D->(m=3\/m=12)->0<=j->j<=8->Q (.int (m+13*j)) D
theorem oE(T:BM AH AZ AM):T.mh.Ok BE P w AZ base 1 tX:=by
 show T.mh.ok λB _ _ _ _ _ A H F Q E h=>?_;obtain⟨c,rfl,k⟩:_:=h;show⟨_,(Af (BD (Ac Et (By AH (CM #v[AN,AN,AN]) (Ac DA (AD 0) AN)) (Ac JM AN (Ac DA (Ac Dg (AD 0) AN) AN))))),?_⟩;have C:As=16777216:=CL;have J:c%3=0\/c%3=1\/c%3=2:=by(first|lia|omega)
 lk;obtain⟨m,Y,D⟩:∃m:Int,(m=3\/m=12)/\Cr [AB.int 3,.int 3,.int 12] (c%3)=AA (.int m):=by
  rcases J with e|e|e<;>rw[e];.show⟨3,.inl rfl,rfl⟩
  .show⟨3,.inl rfl,rfl⟩
  .show⟨12,.inr rfl,rfl⟩
 k_in;show⟨A1 rfl,λl W=>?_⟩;show Ao (o:=.lst [.int 3,.int 3,.int 12]) W λZ s1 U=>?_;show⟨(zzp rfl),_,_,AW U,D,(zzd rfl),(zzp rfl),.inl ⟨by decide,by decide⟩,k _ m _ s1 Y (by(first|lia|omega)) (by(first|lia|omega))⟩
theorem Pc{X:J->List Y}:∀{l:List J},l.Nodup->t∈l->(∀s∈l,s≠t->X s=[])->l.flatMap X=X t
 |[],_,h,_=>nomatch h|s::l,W,h,z=>by
  obtain⟨U,V⟩:=Ie.mp W;rw[Ew];by_cases e:s=t;. subst e;rw[ABa.mpr λu D=>z u (.tail _ D) λe=>U (by rw[<-e];show D),D4]
  . rw[z s (.head _) e,LG];show Pc V ((BY.mp h).resolve_left λq=>e q.symm) λu D=>z u (.tail _ D)
abbrev GV:=Nat×Nat×AO
abbrev Gp:=Nat×AF×AV
noncomputable def Nj(sd:C3)(t m:Nat):List GV:=(EB (EA m (sd t))).map λi=>(t,m,i)
noncomputable def Cv(ss:List AU)(sd:C3):List GV:=(JA ss).flatMap λt=>(Ei 2).flatMap (Nj sd t)
noncomputable def Rl(D:Dp)(t:Nat):List Gp:=(Kt (D t)).map λm=>(t,m)
noncomputable def FW(ss:List AU)(D:Dp):List Gp:=(An ss).flatMap (Rl D)
theorem RU:Cw ss sd=(Cv ss sd).map λx=>ET (Ja x.1 x.2.1 x.2.2):=by unfold Cw Kj Fp Cv Nj;rw[NC];congr 1;funext t;rw[NC];congr 1;funext m;rw[Cz];rfl
theorem U1:DV ss D=(FW ss D).map λx=>ET (JF x.1 x.2):=by unfold DV Ga FW Rl;rw[NC];congr 1;funext t;rw[Cz];rfl
noncomputable def IM(l:List GV)(t m:Nat):List AO:=(l.filter λx=>Ab (x.1=t/\x.2.1=m)).map (·.2.2)
noncomputable def G9(l:List GV):C3:=λt=>(IM l t 0,IM l t 1)
noncomputable def GC(l:List Gp):Dp:=λt z=>(l.filter λx=>Ab (x.1=t/\x.2.1=z)).map (·.2.2)
theorem rL(D:m<2):EA m (G9 l t)=IM l t m:=by rcases(by(first|lia|omega):m=0\/m=1)with rfl|rfl<;>rfl
theorem Xf:IM (l++[(t,m,i)]) t m=IM l t m++[i]:=by unfold IM;rw[F0,CQ,TJ (by show AHV ⟨rfl,rfl⟩)];rfl
theorem RR(h:¬(x.1=t/\x.2.1=m)):IM (l++[x]) t m=IM l t m:=by unfold IM;rw[F0,CQ,TH (by rw[AHY];show h)];show D4 _
theorem rM(D:m<2):G9 (l++[(t,m,i)])=Jc (G9 l) t (Rp m (G9 l t) i):=by
  funext u;unfold Jc;by_cases q:u=t
  . subst q;rw[AHT rfl];unfold G9 Rp;rcases(by(first|lia|omega):m=0\/m=1)with rfl|rfl;.rw[Xf,RR (λh=>by cases h.2),AHT rfl]
    .rw[Xf,RR (λh=>by cases h.2),AHS (by decide)]
  . rw[AHS q];unfold G9;rw[RR (λh=>q h.1.symm),RR (λh=>q h.1.symm)]
theorem Xq:GC (l++[(t,z,p)]) t z=GC l t z++[p]:=by unfold GC;rw[F0,CQ,TJ (by show AHV ⟨rfl,rfl⟩)];rfl
theorem PN(h:¬(x.1=t/\x.2.1=z)):GC (l++[x]) t z=GC l t z:=by unfold GC;rw[F0,CQ,TH (by rw[AHY];show h)];show D4 _
theorem lV:(JA ss).Nodup:=ABg.filter _
theorem Ul(Y:C7 ss t)(W:m<2):IM (Cv ss sd) t m=EB (EA m (sd t)):=by
 have g:∀J D:Nat,(Nj sd J D).filter (λx=>Ab (x.1=t/\x.2.1=m))=if J=t/\D=m then Nj sd J D else[]:=λJ D=>by
  unfold Nj;split
  . rename_i h;show QT.mpr λx U=>by obtain⟨i,_,rfl⟩:=Ax.mp U;show AHV h
  . rename_i h;show LC.mpr λx U q=>by obtain⟨i,_,rfl⟩:=Ax.mp U;show h (AHX q)
 unfold IM Cv;rw[WJ,Pc lV (RX.mpr Y) (λs _ V=>?_),WJ,Pc ABg (OT.mpr W) (λs _ V=>?_),g,AHT ⟨rfl,rfl⟩]
 . unfold Nj;rw[Cz];show d4 _
 .rw[g,AHS λh=>V h.2]
 . rw[WJ];show ABa.mpr λD _=>by rw[g,AHS λh=>V h.1]
theorem Yo(Y:t∈An ss)(w:MZ (D t) ks)(z:AF):GC (FW ss D) t z=D t z:=by
  unfold GC FW;rw[WJ,Pc (ZL ss) Y (λs _ W=>?_)]
  . unfold Rl;rw[<-w.e];unfold EU;rw[NC,WJ,NC];have g:∀J,((((D t J).map λp=>(J,p)).map λm:AF×AV=>((t,m):Gp)).filter λx=>Ab (x.1=t/\x.2.1=z)).map (·.2.2)=if J=z then D t J else[]:=λJ=>by
      split
      . rename_i h;rw[QT.mpr λx U=>by obtain⟨m,V,rfl⟩:=Ax.mp U;obtain⟨p,_,rfl⟩:=Ax.mp V;show AHV ⟨rfl,h⟩,Cz,Cz];show d4 _
      . rename_i h;rw[LC.mpr λx U q=>by obtain⟨m,V,rfl⟩:=Ax.mp U;obtain⟨p,_,rfl⟩:=Ax.mp V;show h (AHX q).2];rfl
    by_cases h:D t z=[]
    . rw[h];show ABa.mpr λJ _=>?_;rw[g];split;.rename_i q;rw[q,h]
      .rfl
    .rw[Pc w.nd (w.nj z h) λs _ W=>by rw[g,AHS W],g,AHT rfl]
  . show LC.mpr λx U q=>?_;obtain⟨m,_,rfl⟩:_:=Ax.mp U;show W (AHX q).1
inductive Nc:List AL->List AL->Prop|nil:Nc [] []|cons{a b:AL}{x y:List AL}:CC a=CC b->Nc x y->Nc (a::x) (b::y)
theorem Ua:∀{a b:List AL},Nc a b->Hi a b=AA (if BK a b=AJ then .lt else if a=b then .eq else .gt)
 |_,_,.nil=>rfl|_,_,.cons (a:=a) (b:=b) (x:=x) (y:=y) i h=>by
  rw[Hi,BK];by_cases e:a=b
  . subst e;rw[AHT rfl,AHT rfl,Ua h];simp
  .rw[AHS e,AHS e,AHT i,AHS (λq=>e (EG q).1)]
theorem lO(t m t' J:Nat)(i D:AO):Nc (GY t m i) (GY t' J D):=.cons rfl (.cons rfl (.cons rfl (.cons rfl (.cons rfl (.cons rfl .nil)))))
theorem qC(t t':Nat)(p D:AF×AV):Nc (GI t p) (GI t' D):=.cons rfl (.cons rfl (.cons rfl (.cons rfl .nil)))
theorem LZ(a b:Nat)(x y:List AL):BK (.inl (a:Int)::x) (.inl (b:Int)::y)=if a=b then BK x y else Ab (a<b):=by
 rw[BK];by_cases e:a=b;.rw[AHT e,AHT (by rw[e])]
 . rw[AHS e,AHS (λq:(Cd (a:Int):AL)=.inl (b:Int)=>e (by have:=Iq q;(first|lia|omega)))];change Ab ((a:Int)<(b:Int))=_;show AHg.mpr (by(first|lia|omega))
theorem lR:(Cv ss sd).Pairwise λx y=>BK (GY y.1 y.2.1 y.2.2) (GY x.1 x.2.1 x.2.2)=AQ:=by
 have U:∀x y:List AL,BK (.inl 0::x) (.inl 0::y)=BK x y:=λx y=>by rw[BK,AHT rfl]
 have Y:(JA ss).Pairwise (.<.):=WN.filter _;show d7.mpr ⟨λt _=>d7.mpr ⟨λm _=>?_,WN.imp λ{m W}V x D y J=>?_⟩,Y.imp λ{t Z}V x D y J=>?_⟩
 . have q:Cm ((EB (EA m (sd t))).map GZ):=(T5 (p:=λM:List AO=>Cm (M.map GZ)/\M.Perm (EA m (sd t))) (have⟨M,h⟩:=Rr GZ (EA m (sd t));⟨M,h⟩)).1;show Eh.mpr ((Eh.mp q).imp λ{a b}h=>?_);unfold GY;rw[U,LZ,AHT rfl,LZ,AHT rfl];show h
 . lk;obtain⟨i,_,rfl⟩:=Ax.mp D;obtain⟨j,_,rfl⟩:=Ax.mp J;k_in;unfold GY;rw[U,LZ,AHT rfl,LZ,AHS (by(first|lia|omega))];show AHW (by(first|lia|omega))
 . lk;obtain⟨m,_,D⟩:=L8.mp D;obtain⟨i,_,rfl⟩:=Ax.mp D;obtain⟨W,_,J⟩:=L8.mp J;obtain⟨j,_,rfl⟩:=Ax.mp J;k_in;unfold GY;rw[U,LZ,AHS (by(first|lia|omega))];show AHW (by(first|lia|omega))
theorem lX(h:Co b a=AQ)(n:a≠b):Co a b=AJ:=by cases e:Co a b with|true=>rfl|false=>show absurd (Vm e h) n
theorem qA(w:∀t∈An ss,∃ks,MZ (D t) ks)(A:∀t∈An ss,∀z,De (D t z)):(FW ss D).Pairwise λx y=>BK (GI x.1 x.2) (GI y.1 y.2)=AJ:=by
  have J:∀x y:List AL,BK (.inl 1::x) (.inl 1::y)=BK x y:=λx y=>by rw[BK,AHT rfl]
  have C:(An ss).Pairwise (.<.):=WN.filter _;show d7.mpr ⟨λt Y=>?_,C.imp λ{t H}Z x U y V=>?_⟩
  . obtain⟨ks,W⟩:=w t Y;unfold Rl;rw[<-W.e];show Eh.mpr (d7.mpr ⟨λz _=>Eh.mpr ((A t Y z).imp λ{a b}h=>?_),?_⟩);. unfold GI;rw[J,LZ,AHT rfl,BK,AHT rfl,BK,AHS (λq=>by have:=Iq q;(first|lia|omega))];show AHV h
    . have B:ks.Pairwise λa b=>a≠b:=W.nd;show(W.so.and B).imp λ{z E}h x U y V=>?_;lk;obtain⟨p,_,rfl⟩:=Ax.mp U;obtain⟨G,_,rfl⟩:=Ax.mp V;k_in;have n:(Br z:AL)≠Br E:=λq=>h.2 (GS q);unfold GI;rw[J,LZ,AHT rfl,BK,AHS n];show lX h.1 n
  . lk;obtain⟨m,_,rfl⟩:=Ax.mp U;obtain⟨F,_,rfl⟩:=Ax.mp V;k_in;unfold GI;rw[J,LZ,AHS (by(first|lia|omega))];show AHV Z
structure Iw(ss:List AU)(gd:Nat->Em)(H0 H1:AI)(l:List Gp)(G:Eo):Prop where
 ab:DZ (λb=>∃t∈An ss,b=(gd t).d) H0 H1
 aj:∀t∈An ss,H1 (gd t).d=AA (.dK (G t))nd:∀t∈An ss,((G t).map (·.1)).Nodup
 qc:∀t∈An ss,∀q∈G t,∃(z:AF)(r:AE)(xs:List AB),q=(.inr z,.ref r)/\H0 r=AG/\H1 r=AA (.lst xs)/\DY H1 xs (GC l t z)/\xs≠[]nj:∀t∈An ss,∀z,GC l t z≠[]->(.inr z:AL)∈(G t).map (·.1)xu:∀t∈An ss,∀t'∈An ss,∀k k' r,(k,AB.ref r)∈G t->(k',AB.ref r)∈G t'->t=t'/\k=k'
theorem jP(h:∀t∈An ss,D (J t).d=AA (.dK [])):Iw ss J D D [] λ_=>[]:=⟨λ_ _ _ e=>e,h,λ_ _=>.nil,λ_ _ q U=>(nomatch U),λ_ _ z V=>absurd rfl V,λ_ _ _ _ _ _ _ h=>(nomatch h)⟩
theorem Iw.ak(h:Iw ss Y J U l G)(s:Aj U V):Iw ss Y J V l G:=⟨λb o A e=>s _ _ (h.ab b o A e),λt D=>s _ _ (h.aj t D),h.nd,λt D q Z=>by obtain⟨z,r,F,e,E,W,C,B⟩:_:=h.qc t D q Z;show⟨z,r,F,e,E,s _ _ W,C.ab s.tp,B⟩,h.nj,h.xu⟩
theorem pO{kvs:List (AL×AB)}(B:(kvs.map (·.1)).Nodup)(h:(k,v)∈kvs)(h':(k,Y)∈kvs):v=Y:=by induction kvs with|nil=>cases h|cons p kvs Z=>
    obtain⟨W,A⟩:=Ie.mp B;rcases BY.mp h with e|U
    . rcases BY.mp h' with D|J;.show AHU AEU (e.trans D.symm)
      .show absurd (Ax.mpr ⟨_,J,by rw[<-e]⟩) W
    . rcases BY.mp h' with D|J;.show absurd (Ax.mpr ⟨_,U,by rw[<-D]⟩) W
      .show Z A U J
theorem Iw.ada(h:Iw ss d a F l G)(M:t∈An ss)(E:(Br z,AB.ref r)∈G t)(C:F r=AA (.lst xs))(s:Bj r F B)(I:B r=AA (.lst (xs++[x])))(i:MW B x p):Iw ss d a B (l++[(t,z,p)]) G:=by
  have X:B7 F B:=λb m U=>s _ _ (λq=>by rw[q,C]at U;cases U) U;lk;obtain⟨n,r1,j,H,T,Y,P,k⟩:=h.qc t M _ E;obtain⟨c,K⟩:=Tc H;cases c;cases K;rw[C]at Y;cases Y;k_in;show⟨λb o f U=>s _ _ (λq=>by rw[q,T]at U;cases U) (h.ab b o f U),λJ D=>s _ _ (λq=>by have:=h.aj J D;rw[q,C]at this;cases this) (h.aj J D),h.nd,λJ D q L=>?_,λJ D A Z=>?_,h.xu⟩
  . obtain⟨A,S,R,rfl,Q,W,O,N⟩:_:=h.qc J D q L;by_cases y:t=J/\z=A;. lk;obtain⟨rfl,rfl⟩:=y;have:=pO (h.nd t M) E L;cases this;rw[C]at W;cases W;k_in;show⟨z,r,_,rfl,T,I,by rw[Xq];show EE (P.ab X) (.cons i .nil),by simp⟩
    . have g:S≠r:=λe=>by subst e;obtain⟨H,I⟩:=h.xu t M J D _ _ _ E L;show y ⟨H,GS I⟩
      show⟨A,S,R,rfl,Q,s _ _ g W,by rw[PN y];show O.ab X,N⟩
  . by_cases y:t=J/\z=A
    . obtain⟨rfl,rfl⟩:=y;show Ax.mpr ⟨_,E,rfl⟩
    . rw[PN y]at Z;show h.nj J D A Z
theorem Iw.abc(h:Iw ss E O Q l G)(ap:∀i∈An ss,∀w∈An ss,i≠w->(E i).d≠(E w).d)(K:t∈An ss)(L:BZ (G t) (.inr z)=AG)(I:Q r=AG)(s:Bj (E t).d Q B)(ed:B (E t).d=AA (.dK (Bk (G t) (.inr z) (.ref r))))(er:B r=AA (.lst [x]))(pa:MW B x p):Iw ss E O B (l++[(t,z,p)]) (Jc G t (Bk (G t) (.inr z) (.ref r))):=by
  have H:=h.aj t K;have tp:B7 Q B:=λb ys F=>s _ _ (λq=>by rw[q,H]at F;cases F) F;have r0:O r=AG:=by cases q:O r with |none=>rfl|some o=>
      by_cases n:∃t∈An ss,r=(E t).d
      . obtain⟨J,D,rfl⟩:=n;rw[h.aj J D]at I;cases I
      . rw[h.ab r o n q]at I;cases I
  have nz:GC l t z=[]:=RD λn=>V8 L (h.nj t K z n);have M:∀J∈An ss,∀q∈G J,¬(t=J/\q.1=.inr z)->∃(Y:AF)(W:AE)(g:List AB),q=(.inr Y,.ref W)/\O W=AG/\B W=AA (.lst g)/\DY B g (GC (l++[(t,z,p)]) J Y)/\g≠[]:=λJ D q C n=>by obtain⟨Y,W,N,rfl,f,U,X,T⟩:=h.qc J D q C;show⟨Y,W,N,rfl,f,s _ _ (λy=>by rw[y,H]at U;cases U) U,by rw[PN λy=>n ⟨y.1,AHU Br y.2.symm⟩];show X.ab tp,T⟩
  have A:∀J∈An ss,∀k,(k,AB.ref r)∈G J->False:=λJ D k hk=>by obtain⟨Y,W,N,e,_,U,_⟩:=h.qc J D _ hk;cases e;rw[I]at U;cases U
  show⟨λb o nb F=>s _ _ (λq=>nb ⟨t,K,q⟩) (h.ab b o nb F),λJ D=>?_,λJ D=>?_,λJ D q C=>?_,λJ D Y Z=>?_,λt1 u t2 S k1 k2 W e1 j=>?_⟩
  . unfold Jc;by_cases q:J=t
    . subst q;rw[AHT rfl];show ed
    . rw[AHS q];show s _ _ (ap J D t K q) (h.aj J D)
  . unfold Jc;split;.show OE (h.nd t K)
    .show h.nd J D
  . unfold Jc at C;by_cases y:J=t
    . subst y;rw[AHT rfl]at C;rcases Mx C with rfl|⟨P,ne⟩;.show⟨z,r,[x],rfl,r0,er,by rw[Xq,nz];show .cons pa .nil,by simp⟩
      .show M J D q P λy=>ne y.2
    . rw[AHS y]at C;show M J D q C λz=>y z.1.symm
  . unfold Jc;by_cases y:J=t
    . subst y;rw[AHT rfl];by_cases q:z=Y
      . subst q;lk;obtain⟨v,L⟩:∃v,BZ (Bk (G J) (.inr z) (.ref r)) (.inr z)=AA v:=⟨_,by rw[Jr,AHT rfl]⟩;k_in;show Ax.mpr ⟨_,Gy L,rfl⟩
      . rw[PN λy=>q y.2]at Z;obtain⟨v,L⟩:=NA (h.nj J D Y Z);have:BZ (Bk (G J) (.inr z) (.ref r)) (.inr Y)=AA v:=by rw[Jr,AHS (λe=>q (GS e).symm)];show L
        show Ax.mpr ⟨_,Gy this,rfl⟩
    . rw[AHS y];rw[PN λq=>y q.1.symm]at Z;show h.nj J D Y Z
  . have R:∀{J:Nat}{k:AL},J∈An ss->(k,AB.ref W)∈Jc G t (Bk (G t) (.inr z) (.ref r)) J->(J=t/\k=.inr z/\W=r)\/(W≠r/\(k,AB.ref W)∈G J):=λ{J k}D e=>by
      unfold Jc at e;by_cases y:J=t
      . subst y;rw[AHT rfl]at e;rcases Mx e with e|⟨P,_⟩
        . obtain⟨a,b⟩:=Tc e;cases b;show .inl ⟨rfl,a,rfl⟩
        .show .inr ⟨λy=>A J D k (by rw[<-y];show P),P⟩
      . rw[AHS y]at e;show .inr ⟨λy=>A J D k (by rw[<-y];show e),e⟩
    rcases R u e1 with⟨a,b,c⟩|⟨n,m⟩
    . rcases R S j with⟨a',b',_⟩|⟨n',_⟩;.show⟨a.trans a'.symm,b.trans b'.symm⟩
      .show absurd c n'
    . rcases R S j with⟨_,_,c⟩|⟨_,m'⟩;.show absurd c n
      .show h.xu t1 u t2 S _ _ _ m m'
theorem Iw.au(h:Iw ss Z W Y l G)(g:C4 AM [] W ss (An ss) B U Z N A):C4 AM [] Y ss (An ss) B U Z (GC l) G:=by
 have P:∀t∈An ss,∃D,W (Z t).d=AA (.dK D):=λt J=>by obtain⟨s,_,_,O⟩:=g.ie t J;show⟨_,O.ao.aj⟩
 have C:∀{b:AE}{o:Bw},W b=AA o->(∀D,o≠.dK D)->Y b=AA o:=λ{b o}e n=>h.ab b o (λ⟨t,J,q⟩=>by obtain⟨D,H⟩:=P t J;rw[q,H]at e;show n _ (CD e).symm) e;have a:B7 W Y:=λb E e=>C e (by intro D z;cases z);show⟨Kp g.aj λo e=>h.ab _ o (λ⟨t,J,q⟩=>g.jm t J q) e,λt J=>?_,g.bo,g.jm⟩;obtain⟨s,L,M,⟨F,I⟩,X,T⟩:_:=g.ie t J;show⟨s,L,M,⟨F,C I (by intro D z;cases z)⟩,a _ _ X,h.aj t J,h.nd t J,λq Q=>?_,h.nj t J⟩;obtain⟨z,r,E,e,_,K,S,R⟩:_:=h.qc t J q Q;show⟨z,r,E,e,(λh=>nomatch h),K,S,R⟩
theorem Iw.bh(h:Iw ss I F H l G){ks:List AF}(U:t∈An ss)(Z:∀x∈l,x.1=t->x.2.1∈ks):(G t).length<=ks.length:=by
 have J:=PX (h.nd t U) (m:=ks.map Br) λk A=>by obtain⟨q,C,rfl⟩:=Ax.mp A;obtain⟨z,r,L,rfl,_,_,V,E⟩:=h.qc t U q C;show Ax.mpr ⟨z,?_,rfl⟩;cases e:GC l t z with |nil=> rw[e]at V;cases V;show absurd rfl E|cons p K=>
  have B:p∈GC l t z:=by rw[e];show .head _
  obtain⟨x,D,_⟩:=Ax.mp B;obtain⟨D,c⟩:=EJ.mp D;obtain⟨W,Y⟩:=AHX c;rw[<-Y];show Z x D W
 rw[Au,Au]at J;show J
def Yn(ss:List AU)(A:He)(b:AE):Prop:=I9 ss A.jd A.gd b\/b=A.dj\/b=A.dg
def Kf(ss:List AU)(F:FD)(b:AE):Prop:=JY ss F b\/b=F.dj\/b=F.dg
theorem FC.aaa{K:Dp}(h:FC AM [] H ss A sd K L)(f:DU AM H ss F M now D B I Y Z)(n:∀b,Kf ss F b->¬Yn ss A b)(s:∀b o,¬JY ss F b->H b=AA o->H' b=AA o):FC AM [] H' ss A sd K L:=by
  lk;obtain⟨S,W⟩:=f.bb;obtain⟨N,V⟩:=f.dv;k_in;have C:F.ck≠F.x:=λz=>by rw[z,W]at V;have:=CD V;injection this with _ _ q;show Kl.1 (AHU (TR AB0) q)
  have P:=h.bb (H':=λb=>if b=F.x then H' b else H b) (λb o U e=>by change(if b=F.x then H' b else H b)=_;rw[AHS U];show e) W Nl.1 Nl.2.1 Nl.2.2;have O:(λb=>if b=F.x then H' b else H b) F.ck=AA (.ins AM.aq N (E2 M now D)):=by change(if F.ck=F.x then H' _ else H _)=_;rw[AHS C];show V
  have Q:=P.bb (H':=λb=>if b=F.ck then H' b else if b=F.x then H' b else H b) (λb o U e=>by change(if b=F.ck then H' b else _)=_;rw[AHS U];show e) O Kl.2.1 Kl.2.2.1 Kl.2.2.2;show Q.aeg (p:=I9 ss F.jd F.gd) (λb o U e=>?_) (λb J=>?_) λb J=>⟨λz=>n b (.inl (.inr (.inr J))) (.inl z),λz=>n b (.inl (.inr (.inr J))) (.inr (.inl z)),λz=>n b (.inl (.inr (.inr J))) (.inr (.inr z))⟩
  . have e:(if b=F.ck then H' b else if b=F.x then H' b else H b)=AA o:=e;by_cases E:b=F.ck;.rw[AHT E]at e;show e
    . rw[AHS E]at e;by_cases G:b=F.x;.rw[AHT G]at e;show e
      . rw[AHS G]at e;show s b o (λz=>z.elim G λz=>z.elim E U) e
  . obtain⟨R,e⟩:=f.abr J;show⟨R,?_⟩;change(if b=F.ck then H' b else if b=F.x then H' b else H b)=_;rw[AHS (λz=>by rw[z,V]at e;cases e),AHS (λz=>by rw[z,W]at e;cases e)];show e
theorem DU.aaa(h:DU AM H ss G V J D U sd C E)(f:DU AM H ss F O now W A B Y Z)(n:∀b,Kf ss F b->¬Kf ss G b)(s:∀b o,¬JY ss F b->H b=AA o->H' b=AA o):DU AM H' ss G V J D U sd C E:=by
 lk;obtain⟨K,M⟩:=h.bb;obtain⟨I,L⟩:=h.dv;k_in;show⟨h.toFC.aaa f (λb N z=>n b N ?_) s,⟨K,s _ _ (λz=>n _ (.inl z) (.inl (.inl rfl))) M⟩,⟨I,s _ _ (λz=>n _ (.inl z) (.inl (.inr (.inl rfl)))) L⟩⟩;rcases z with z|z|z;.show .inl (.inr (.inr z))
 .show .inr (.inl z)
 .show .inr (.inr z)
structure UN(ss:List AU)(sd:C3)(gg:Dp)(ks:Nat->List AF):Prop where
 so:LW ss sd
 go:∀t∈An ss,MZ (gg t) (ks t)/\(ks t).length<=600/\(∀z,De (gg t z)/\(gg t z).length<=3000)/\∀m:AF×AV,m.2∈gg t m.1->O9 m
theorem YL{a:AF}(h:∀v∈AB.str a::r,Ma v)(W:a≠"end")(n:Nat):ET (.str a::r)≠Ni (n:Int):=λe=>by
 have J:=R3 (xs:=.str a::r) (by simp) h;have U:NR (Ni (n:Int)) " "=([("end":AF),B6 (n:Int)]:List AF):=by
  show cK (c:=32) (zs:=([("end":AF),B6 (n:Int)]:List AF)) (by simp) λp D=>?_;rcases BY.mp D with rfl|D;.decide+kernel
  . rw[Bc.mp D];show YM _
 rw[e,U]at J;show W (EG J).1.symm
theorem X1(h:x∈Cv ss sd):C7 ss x.1/\x.2.1<2/\x.2.2∈EA x.2.1 (sd x.1):=by lk;obtain⟨t,U,h⟩:=L8.mp h;obtain⟨m,J,h⟩:=L8.mp h;obtain⟨i,D,rfl⟩:=Ax.mp h;k_in;show⟨RX.mp U,OT.mp J,(La _).mem_iff.mp D⟩
theorem Rk{D:Dp}{ks:Nat->List AF}(w:∀t∈An ss,MZ (D t) (ks t))(h:x∈FW ss D):x.1∈An ss/\x.2.2∈D x.1 x.2.1:=by lk;obtain⟨t,J,h⟩:=L8.mp h;obtain⟨m,U,rfl⟩:=Ax.mp h;k_in;show⟨J,((w t J).zw m).mp U⟩
noncomputable def J6(I:List GV)(P:List Gp):Nat->List AL|0=>[.inl 0]|n+1=>match I[n]? with|AA x=>GY x.1 x.2.1 x.2.2|AG=>match P[n-I.length]? with|AA x=>GI x.1 x.2|AG=>[]
theorem Uu(h:I[n]?=AA x):J6 I P (n+1)=GY x.1 x.2.1 x.2.2:=by rw[J6,h]
theorem YA(h:P[k]?=AA x)(e:n=I.length+k):J6 I P (n+1)=GI x.1 x.2:=by rw[J6,WK (by(first|lia|omega)),show n-I.length=k by(first|lia|omega),h]
theorem mO(U:I.Pairwise λx y=>BK (GY y.1 y.2.1 y.2.2) (GY x.1 x.2.1 x.2.2)=AQ)(h:I[n]?=AA x):∃o,Hi (GY x.1 x.2.1 x.2.2) (J6 I P n)=AA o/\J7 o=AJ:=by cases n with|zero=>show⟨.gt,by rw[J6,GY,Hi,AHT rfl];rfl,rfl⟩|succ n=>obtain⟨D,e⟩:=BU.mp h;have J:=CG (GQ D);have r:=Ig.mp U n (n+1) (GQ D) D (OZ n);rw[e]at r;rw[Uu J];show⟨_,Ua (lO _ _ _ _ _ _),?_⟩;rw[AHS (by rw[r];decide)];split<;>rfl
theorem mP(Z:P.Pairwise λx y=>BK (GI x.1 x.2) (GI y.1 y.2)=AJ)(h:P[k]?=AA x)(A:n=I.length+k):∃o,Hi (GI x.1 x.2) (J6 I P n)=AA o/\J8 o=AJ:=by
 have J:¬(Cd 1:AL)=.inl 0:=by decide
 cases n with |zero=>show⟨.gt,by rw[J6,GI,Hi,AHS J];rfl,rfl⟩|succ n=>
  rcases OY n I.length with q|q;. rw[Uu (CG q)];show⟨.gt,by rw[GI,GY,Hi,AHS J];rfl,rfl⟩
  . lk;obtain⟨k,rfl⟩:∃Y,k=Y+1:=⟨k-1,by(first|lia|omega)⟩;obtain⟨U,e⟩:=BU.mp h;k_in;have V:=CG (GQ U);have r:=Ig.mp Z k (k+1) (GQ U) U (OZ k);rw[e]at r;rw[YA V (by(first|lia|omega))];have D:∀{a b:List AL},BK a b=AJ->¬BK b a=AJ/\b≠a:=λ{a b}h=>⟨λW=>(by have:=QE h W;rw[Lp]at this;cases this),λe=>by rw[e,Lp]at h;cases h⟩;show⟨_,Ua (qC _ _ _ _),?_⟩;rw[AHS (D r).1,AHS (D r).2];rfl
def LX(ss:List AU)(F:FD)(U:Int)(sd:C3)(J:Dp)(H:AI)(n:Nat)(H':AI)(V:List AL):Prop:=V=J6 (Cv ss sd) (FW ss J) n/\((n<=(Cv ss sd).length/\DU AM H' ss F U 0 0 0 (G9 ((Cv ss sd).take n)) (λ_ _=>[]) (λ_=>[])/\Aj H H')\/((Cv ss sd).length<=n/\∃D G,DU AM D ss F U 0 0 0 (G9 (Cv ss sd)) (λ_ _=>[]) (λ_=>[])/\Aj H D/\Iw ss F.gd D H' ((FW ss J).take (n-(Cv ss sd).length)) G))
theorem LX.ak(h:LX ss F W sd U H n H' V)(s:Aj H' D):LX ss F W sd U H n D V:=by obtain⟨e,h⟩:=h;show⟨e,h.imp (λ⟨a,b,c⟩=>⟨a,b.ak s,c.aa s⟩) λ⟨a,J,G,b,c,d⟩=>⟨a,J,G,b,c,d.ak s⟩⟩
theorem LX.aak(h:LX ss F W sd J H n H' Y)(U:(Cv ss sd).length<=n):∃D G,DU AM D ss F W 0 0 0 (G9 (Cv ss sd)) (λ_ _=>[]) (λ_=>[])/\Aj H D/\Iw ss F.gd D H' ((FW ss J).take (n-(Cv ss sd).length)) G:=by
 obtain⟨_,⟨a,b,c⟩|⟨_,h⟩⟩:=h
 . have e:n=(Cv ss sd).length:=Eb a U;subst e;rw[LH]at b;rw[Qc];show⟨H',_,b,c,jP λt V=>?_⟩;obtain⟨_,_,_,g⟩:_:=b.au.ie t V;show g.ao.aj
 .show h
theorem LX.kp(h:LX ss F Y sd V H n H' W)(D:∀t∈An ss,H (F.gd t).d=AG):Aj H H':=by
 obtain⟨_,⟨_,_,c⟩|⟨_,U,G,b,c,d⟩⟩:=h;.show c
 .showλb o e=>d.ab b o (λ⟨t,J,q⟩=>by rw[q,D t J]at e;cases e) (c _ _ e)
theorem PF(h:C7 ss t):Dy ss D (Kg D t m):=by
 show⟨t,h,?_⟩;unfold Kg;split;.show .inl rfl
 .show .inr rfl
theorem jT(A:UN ss sd J ks)(fr:∀b,I9 ss F.jd F.gd b->H b=AG)(lss:ss.length<=20)(Q:(Cw ss sd++DV ss J)[n]?=AA z)(h:LX ss F sl sd J H n H' w)(l:H' la=AA (.tup (w.map Az))):Nr AM [.str z,.ref F.dj,.ref F.dg,.ref la] H' (λv f=>Eg (λ(q:AE)(L:List AL)=>v=.ref q) (λq L=>f q=AA (.tup (L.map Az))) (λ_ L=>LX ss F sl sd J H (n+1) f L)) E:=by
  have e0:w=J6 (Cv ss sd) (FW ss J) n:=h.1;have lI:(Cw ss sd).length=(Cv ss sd).length:=by rw[RU,Au]
  rcases OY n (Cv ss sd).length with q|q
  . obtain⟨_,⟨a,V,c⟩|⟨a,_⟩⟩:=h
    . lk;obtain⟨⟨t,m,i⟩,Y⟩:∃x,(Cv ss sd)[n]?=AA x:=⟨_,CG q⟩;rw[Jt (by rw[lI];show q),RU,Bo,Y]at Q;cases Q;obtain⟨D,K,hi⟩:=X1 (Cp Y);obtain⟨o,R,ho⟩:=mO (P:=FW ss J) lR Y;rw[<-e0]at R;obtain⟨nn,na,nb,wi,et⟩:=id D;have T:t<100:=by have:=(BU.mp et).1;(first|lia|omega)
      obtain⟨vj,jj⟩:=V.bz.dq t nn na nb wi et;k_in;show⟨_,F.dj,F.dg,la,F.mw,F.mn,w,o,rfl,l,V.ft,V.fq,.inl ⟨t,m,i,rfl,T,K,(A.so t D m K).2 i hi,by rw[vj];rfl,R,ho,λH1 q1 s1 O=>?_⟩⟩;have W:=V.ak s1;show⟨[],ss,F.dj,q1,F.mw,F.jd,G9 ((Cv ss sd).take n),t,m,i,rfl,W.bz,(λc R=>nomatch R),D,K,O,?_,λM s2 j2=>?_⟩
      . rw[rL K];have h1:(IM ((Cv ss sd).take n) t m).length<=(IM (Cv ss sd) t m).length:=(((WQ n (Cv ss sd)).filter _).map _).length_le;rw[Ul D K,(La _).length_eq]at h1;have:=(A.so t D m K).1;(first|lia|omega)
      . have dk:∀b,b=Kg F.jd t m->∃U,H1 b=AA (.dK U):=λb z=>by rw[z];show W.bz.vw (PF D)
        have gr2:=W.au.cy (q:=λb=>b=Kg F.jd t m) s2 (λb z=>.inr (dk b z)) (λj hj z=>(W.uo j hj).1 (by rw[z];show PF D)) λz=>W.jm (by rw[z];show PF D);have tp:B7 H1 M:=λb ys C=>s2 _ _ (λz=>by obtain⟨kv,ek⟩:=dk b z;rw[C]at ek;cases ek) C;have fb2:=W.xf (λb o nb e=>s2 b o (λz=>nb (.inl (by rw[z];show PF D))) e) j2 gr2;show⟨tp,λq2 N s3 k=>⟨q2,_,rfl,k,(Uu Y).symm,.inl ⟨q,?_,?_⟩⟩⟩
        . rw[DH,Y];change DU AM N ss F sl 0 0 0 (G9 (_++[(t,m,i)])) _ _;rw[rM K];show fb2.ak s3
        .showλb o e=>s3 _ _ (s2 _ _ (λz=>by rw[z,fr _ (.inl (PF D))]at e;cases e) (s1 _ _ (c _ _ e)))
    .show absurd q (AEN a)
  . obtain⟨Hb,G,V,sb,y⟩:_:=h.aak q;have en:n=(Cv ss sd).length+(n-(Cv ss sd).length):=by(first|lia|omega)
    rw[L5 (by rw[lI];show q),lI,U1,Bo]at Q;cases Y:(FW ss J)[n-(Cv ss sd).length]? with |none=>rw[Y]at Q;cases Q|some x=>
    lk;obtain⟨t,S,X⟩:=x;rw[Y]at Q;cases Q;obtain⟨D,K⟩:=Rk (λt D=>(A.go t D).1) (Cp Y);obtain⟨o,R,ho⟩:=mP (I:=Cv ss sd) (qA (λt D=>⟨ks t,(A.go t D).1⟩) λt D z=>((A.go t D).2.2.1 z).1) Y en;rw[<-e0]at R;obtain⟨st,et,_⟩:=Hm.mp D;have T:t<100:=by have:=(BU.mp et).1;(first|lia|omega)
    obtain⟨_,_,vg,gr⟩:=V.au.ie t D;obtain⟨dx,eo⟩:=gr.bb;k_in;have hd:∀b,(∃t∈An ss,b=(F.gd t).d)->∃U,Hb b=AA (.dK U):=λb z=>by obtain⟨t',Z,rfl⟩:=z;obtain⟨_,_,_,g⟩:=V.au.ie t' Z;show⟨_,g.ao.aj⟩
    have kp:∀{b:AE}{o:Bw},Hb b=AA o->(∀U,o≠.dK U)->H' b=AA o:=λ{b o}e n=>y.ab b o (λz=>by obtain⟨U,ek⟩:=hd b z;rw[ek]at e;show n _ (CD e).symm) e;have ej:H' F.dj=AA (.dK F.mw):=y.ab _ _ (λz=>by obtain⟨t',Z,q⟩:=z;show(V.uo t' Z).2 q) V.ft;have eg:H' F.dg=AA (.dK F.mn):=y.ab _ _ (λz=>by obtain⟨t',Z,q⟩:=z;show V.au.jm t' Z q) V.fq;have tk:(FW ss J).take (n+1-(Cv ss sd).length)=(FW ss J).take (n-(Cv ss sd).length)++[(t,S,X)]:=by rw[show n+1-(Cv ss sd).length=(n-(Cv ss sd).length)+1 by(first|lia|omega),DH,Y];rfl
    have sub:∀z,(GC ((FW ss J).take (n-(Cv ss sd).length)) t z).length<=3000:=λz=>by have h1:(GC ((FW ss J).take (n-(Cv ss sd).length)) t z).length<=(GC (FW ss J) t z).length:=(((WQ _ (FW ss J)).filter _).map _).length_le;rw[Yo D (A.go t D).1]at h1;show Ag h1 ((A.go t D).2.2.1 z).2
    have lG:(G t).length<=600:=Ag (y.bh D λx hx e=>by obtain⟨hx1,u⟩:=Rk (λt D=>(A.go t D).1) (QX hx);rw[e]at u;show(A.go t D).1.nj _ (d5 u)) (A.go t D).2.1;show⟨_,F.dj,F.dg,la,F.mw,F.mn,w,o,rfl,l,ej,eg,.inr ⟨t,(S,X),rfl,T,(A.go t D).2.2.2 (S,X) K,by rw[vg];rfl,R,ho,λH1 q1 s1 O=>?_⟩⟩;have B:=y.ak s1;have fin:∀{M N:AI}{G2:Eo},Iw ss F.gd Hb M ((FW ss J).take (n-(Cv ss sd).length)++[(t,S,X)]) G2->Aj M N->LX ss F sl sd J H (n+1) N (GI t (S,X)):=λ{M N G2}p2 s3=>⟨(YA Y en).symm,.inr ⟨Ii q,Hb,G2,V,sb,by rw[tk];show p2.ak s3⟩⟩;show⟨F.dg,q1,(F.gd t).x,dx,(F.gd t).p,(F.gd t).d,F.mn,G t,(t:Int),S,X,rfl,.inl (s1 _ _ eg),vg,s1 _ _ (kp eo (by intro U z;cases z)),B.aj t D,by(first|lia|omega),O,λv hv=>?_,λhv r M x r1 sx ed s pa=>?_⟩
    . have hq:=Gy hv;lk;obtain⟨z',r,xs,e,r0,s,pc,nx⟩:=B.qc t D _ hq;obtain⟨ez',rfl⟩:=Tc e;cases ez';k_in;have lx:=pc.bh;have:=sub S;show⟨r,xs,rfl,s,by(first|lia|omega),λM x sx e2 pa=>⟨λb ys C=>sx _ _ (λq=>?_) C,λq2 N s3 k=>⟨q2,_,rfl,k,fin (B.ada D hq s sx e2 pa) s3⟩⟩⟩;rw[q,s]at C;cases C
    . show⟨λb ys C=>sx _ _ (λq=>?_) C,λq2 N s3 k=>⟨q2,_,rfl,k,fin (B.abc V.au.bo D hv r1 sx ed s pa) s3⟩⟩;rw[q,B.aj t D]at C;cases C
theorem k9(ss:List AU)(sd:C3)(t:Nat)(h:C7 ss t):G9 (Cv ss sd) t=(EB (sd t).1,EB (sd t).2):=Tb (Ul h (m:=0) (by decide)) (Ul h (m:=1) (by decide))
def vC(L:CA):BF:=λM H Q _=>(NZ λ(I l:AE)(K:List AB)(D:List AU)(C U J W:Int)(Z:C3)(B:Dp)(G:Nat->List AF)=>XB (M=[.ref I,.int C,.ref l]) (H I=AA (.lst K)) (F9 H K D) (D.length<=20) ((An D).length<=8) (0<=C) (C<=1000000000) (H l=AA (.lst ((Fq (FV U J W) (Cw D Z++DV D B)).map AB.str))) ((Cw D Z++DV D B).length<=2800000) (UN D Z B G) (0<=U) (U<=1000000000) (0<=J) (J<10^30) (0<=W) (W<10^30) (∀E F A Y,Aj H E->DU L E D F C U J W A B Y->(∀t∈An D,(Y t).length<=(G t).length)->(∀t,C7 D t->A t=(EB (Z t).1,EB (Z t).2))->(∀b,Kf D F b->H b=AG)->H F.lp=AG->Q (.ref F.x) E))
theorem pL(T:BM AH AZ AM):T.qy.Ok BE P w AZ base 8 (vC AM):=by
    show T.qy.ok λnd _ _ _ _ _ hr H vs Q E h=>?_;obtain⟨lp,l,ps,W,X,J,D,U,B,C,ks,rfl,p,pr,lss,l8,s0,s1,el,ln,kd,n0,n1,c0,c1,m0,m1,k⟩:_:=h;show⟨_,(Ah (BN 3 nd (Pa (YV T) hr T.xw KJ #v[AD 0,AD 1])) (Ah (BN 4 nd (KL (Bu Sj (CW (Fc (K:=AH)) (by rfl) T.cx Ez #v[AD 2]) AN (Bt _)) (BC (nG T) hr #v[By AH (AD 2) AN]) Gh)) (Ah (CP (Bu Vt (AD 4) Gh (Bt _)) QP Cg) (Ah (Dr (BC (oZ T) hr #v[AD 2,Bs (AD 3) rfl,Bs (AD 3) rfl])) (Ah (BN 5 nd (Bs (AD 3) rfl)) (Ah (Fs (AD 5) (BA AH (AD 4) AN) rfl) (Ah (Fs (AD 5) (BA AH (AD 4) AN) rfl) (Ah (Fs (AD 3) (BA AH (AD 4) AN) rfl) (Af (BD (AD 3))))))))))),?_⟩;have sz:As=16777216:=CL;showλx dx L u hxn=>⟨x,dx,lp,ps,W,X,rfl,Ak,by rw[Aa (Bh p L),Aa (Bh p u)];show p,pr.ab λb xs e=>by rw[Aa (Bh e L),Aa (Bh e u)];show e,lss,l8,s0,s1,λH1 F sd0 gk0 eF sy f1 fr flp=>⟨rfl,?_⟩⟩;subst eF;have g1:Aj H H1:=YB L u sy;have fF:∀b,Kf W F b->H b=AG:=λb M=>(fr b (by rcases M with M|M;show .inl M;show .inr M)).elim (λz=>by rw[z];show L) λz=>(PR hxn z).1;have nlp:=(PR hxn flp).1;lk;obtain⟨dx1,ex1⟩:=f1.ag.bb;obtain⟨dc1,ec1⟩:=f1.ag.dv;k_in;have ek:(Fq (FV J D U) (Cw W B++DV W C)).map AB.str=AB.str (FV J D U)::((Cw W B++DV W C)++[ET [.str "end",.int (((Cw W B++DV W C).length:Int)+1)]]).map AB.str:=rfl;have len:((Fq (FV J D U) (Cw W B++DV W C)).map AB.str).length=(Cw W B++DV W C).length+2:=by rw[ek,Ex,Au,Ba,GP]
    have at0:Cr ((Fq (FV J D U) (Cw W B++DV W C)).map AB.str) 0=AA (.str (FV J D U)):=Ae (j:=0) rfl;have el1:=g1 _ _ el;show⟨_,.inl (AW el1),_,rfl,Hx (λ_=>?_) λh=>by(first|lia|omega)⟩;show⟨_,_,AW el1,at0,J,D,U,rfl,n0,n1,c0,c1,m0,m1,λH2 r s2 er=>⟨rfl,_,rfl,HM ?_⟩⟩;have f2:=f1.ag.ak s2;have gr:Aj H (AR H r (.tup [.int J,.int D,.int U])):=λb o e=>by
      by_cases q:b=r
      . have:=s2 _ _ (g1 _ _ e);rw[q,er]at this;rw[q,Ak];show this
      . rw[Aa q];show e
    have g02:Aj (AR H r (.tup [.int J,.int D,.int U])) H2:=λb o e=>by
      by_cases q:b=r
      . rw[q,Ak]at e;rw[q,er];show e
      . rw[Aa q]at e;show s2 _ _ (g1 _ _ e)
    have S:∀b,I9 W F.jd F.gd b->(AR H r (.tup [.int J,.int D,.int U])) b=AG:=λb M=>by obtain⟨kvs,ed⟩:=f2.abr M;rw[Aa λz=>by rw[z,er]at ed;cases ed];show fF b (.inl (.inr (.inr M)))
    have err:(AR H r (.tup [.int J,.int D,.int U])) r=AA (.tup [.int J,.int D,.int U]):=Ak;have elr:=gr _ _ el;generalize AR H r (.tup [.int J,.int D,.int U])=Hr at gr g02 S err elr;show⟨_,⟨s2 _ _ ex1,T.ah,T.df,rfl⟩,_,⟨s2 _ _ ex1,T.ah,T.cp,rfl⟩,l,F.dj,F.dg,FV J D U,Cw W B++DV W C,LX W F X B C Hr,rfl,ln,λz y n=>?_,λn H' lk h=>(h.kp λt Y=>S _ (.inr ⟨t,Y,rfl⟩)) _ _ elr,λn H' H'' lk h s=>h.ak s,⟨rfl,.inl ⟨Bm _,?_,g02⟩⟩,λn z H' la lk ez h ela=>Yv (jT (E:=E) kd S lss ez h ela) λv H'' hv=>?_,λf lk h=>?_⟩
    . rcases C1.mp y with y|y
      . rw[RU]at y;lk;obtain⟨⟨t,m,i⟩,L,rfl⟩:=Ax.mp y;obtain⟨Y,hm,hi⟩:=X1 L;obtain⟨_,_,_,_,et⟩:=id Y;k_in;show YL (Ra (by have:=(BU.mp et).1;(first|lia|omega)) hm ((kd.so t Y m hm).2 i hi)) (by decide+kernel) n
      . rw[U1]at y;lk;obtain⟨⟨t,m⟩,L,rfl⟩:=Ax.mp y;obtain⟨Y,hm⟩:=Rk (λt Y=>(kd.go t Y).1) L;obtain⟨_,et,_⟩:=Hm.mp Y;k_in;show YL (Rm (by have:=(BU.mp et).1;(first|lia|omega)) ((kd.go t Y).2.2.2 m hm)) (by decide+kernel) n
    . show f2.xf (λb o _ e=>e) (f2.bz.ay λt Y=>?_) ((f2.au.wx λi _=>(ZF W 0 i).symm).aed λi hi=>?_)
      . lk;obtain⟨n,a,b,wi,e⟩:=Y;obtain⟨h1,h2⟩:=f1.ay t n a b wi e;k_in;show(Tb h1.eq_nil h2.eq_nil:sd0 t=([],[])).symm
      .show(List.length_eq_zero_iff.mp (Nat.le_zero.mp (f1.aaj i hi))).symm
    . obtain⟨q,lk',a,b,c⟩:_:=hv;show⟨q,lk',a,b,c⟩
    . have lI:(Cw W B).length=(Cv W B).length:=by rw[RU,Au]
      have lP:(DV W C).length=(FW W C).length:=by rw[U1,Au]
      lk;obtain⟨Hb,G,fb,sb,pk⟩:=h.aak (by rw[Ba];(first|lia|omega));rw[Ba,Dj (by(first|lia|omega))]at pk;have hd:∀b,(∃t∈An W,b=(F.gd t).d)->∃kvs,Hb b=AA (.dK kvs):=λb z=>by obtain⟨t',I,rfl⟩:=z;obtain⟨_,_,_,g⟩:=fb.au.ie t' I;show⟨_,g.ao.aj⟩
      have f3:DU AM f W F X 0 0 0 (G9 (Cv W B)) C G:=(fb.xf (λb o nb e=>pk.ab b o (λz=>nb (.inr z)) e) (fb.bz.cy pk.ab (λb M=>.inr (hd b M)) (λb z=>by obtain⟨t',I,rfl⟩:=z;show(fb.uo t' I).1) λz=>by obtain⟨t',I,q⟩:=z;show(fb.uo t' I).2 q) (pk.au fb.au)).wx λt Y=>funext λz=>(Yo Y (kd.go t Y).1 z).symm;have g3:Aj Hr f:=λb o e=>pk.ab b o (λ⟨t,Y,q⟩=>by rw[q,S _ (.inr ⟨t,Y,rfl⟩)]at e;cases e) (sb _ _ e);obtain⟨N,R⟩:=f3.bb;obtain⟨Z,O⟩:=f3.dv;k_in;have A:=g3 _ _ err;have nrc:r≠F.ck:=λz=>by rw[z,O]at A;cases A
      have nrx:r≠F.x:=λz=>by rw[z,R]at A;cases A
      have nxc:F.x≠F.ck:=λz=>by rw[<-z,R]at O;have:=CD O;injection this with _ _ q;show Kl.1 (AHU (TR AB0) q)
      show⟨_,⟨R,T.ah,T.bc,rfl⟩,?_⟩;show⟨_,_,Aq A,Ae (j:=0) rfl,F.ck,_,Z,_,rfl,O,T.aw,T.bp,(by change 3<1000;decide),?_⟩;show⟨_,_,Aq (by rw[Aa nrc];show A),Ae (j:=1) rfl,F.ck,_,Z,_,rfl,Ak,T.aw,T.cn,(by change 3<1000;decide),?_⟩;rw[QS];have f4:DU AM (AR f F.ck (.ins AM.aq Z (E2 X J D))) W F X J D 0 (G9 (Cv W B)) C G:=f3.aay zzu Ak;have ex4:(AR f F.ck (.ins AM.aq Z (E2 X J D))) F.x=AA (.ins AM.av N (Kh F 0)):=by rw[Aa nxc];show R
      have er4:(AR f F.ck (.ins AM.aq Z (E2 X J D))) r=AA (.tup [.int J,.int D,.int U]):=by rw[Aa nrc];show A
      show⟨_,_,Aq er4,Ae (j:=2) rfl,F.x,_,N,_,rfl,ex4,T.ah,T.cq,(by change 5<1000;decide),k _ F (G9 (Cv W B)) G (λb o e=>?_) ?_ (λt Y=>?_) (λt Y=>k9 W B t Y) fF nlp⟩
      . have nx:b≠F.x:=λz=>by rw[z,L]at e;cases e
        have nc:b≠F.ck:=λz=>by rw[z,fF F.ck (.inl (.inr (.inl rfl)))]at e;cases e
        rw[Aa nx,Aa nc];show g3 _ _ (gr _ _ e)
      . have x5:Bj F.x (AR f F.ck (.ins AM.aq Z (E2 X J D))) (AR (AR f F.ck (.ins AM.aq Z (E2 X J D))) F.x (.ins AM.av N (Kh F U))):=zzu
        obtain⟨dc5,ec5⟩:=f4.dv;show⟨f4.toFC.bb x5 ex4 Nl.1 Nl.2.1 Nl.2.2,⟨N,Ak⟩,⟨dc5,x5 _ _ (Gk nxc) ec5⟩⟩
      . show pk.bh Y λx L e=>?_;obtain⟨hx1,hx2⟩:=Rk (λt Y=>(kd.go t Y).1) L;rw[e]at hx2;show(kd.go t Y).1.nj _ (d5 hx2)
theorem Uy(c:Nat):∀n:Int,0<=n->n<=3->(LK ⟨#[c]⟩ n).cps.toList=OV n.toNat c:=λn D J=>by rcases(by(first|lia|omega):n=0\/n=1\/n=2\/n=3)with rfl|rfl|rfl|rfl<;>rfl
theorem Rg(J:0<=n)(U:n<=100)(D:z.length<=1000):MulOk z n:=by
 show⟨?_,λh _=>?_,λh _=>?_⟩;.rw[AHW (by(first|lia|omega)),AHW (by(first|lia|omega))];rfl
 . have V:(1000:Int)<=(2^63-1)/n:=(Int.le_ediv_iff_mul_le (by(first|lia|omega))).mpr (by(first|lia|omega));(first|lia|omega)
 . unfold AGd;have Y:As=16777216:=CL;have W:z.length*n.toNat<=1000*100:=Qb D (by(first|lia|omega));show AHW (by(first|lia|omega))
theorem Pd(J:0<=n)(U:n<=3):FR (LK ⟨#[Hh c]⟩ n)/\(LK ⟨#[Hh c]⟩ n).length=n.toNat:=by have e:=Uy (Hh c) n J U;show⟨λx D=>?_,by rw[JZ,e,ABc]⟩;rw[e]at D;rw[(ABe.mp D).2];unfold Hh;(first|lia|omega)
noncomputable def D9(c:Int):AF:=LK ⟨#[Hh c]⟩ (c/26%4)++LK ⟨#[Hh (c/104)]⟩ (c/2704%3)
noncomputable def Al(c k:Int):AF:=G1 (D9 c) AG (AA (c/8112%(((D9 c).length:Int)+1)))++⟨#[Hh (c+5*k)]⟩++G1 (D9 c) (AA (c/8112%(((D9 c).length:Int)+1))) AG
theorem lF(c:Int):FR (D9 c)/\(D9 c).length<=5:=by have D:=Pd (c:=c) (n:=c/26%4) (by(first|lia|omega)) (by(first|lia|omega));have J:=Pd (c:=c/104) (n:=c/2704%3) (by(first|lia|omega)) (by(first|lia|omega));show⟨D.1.wo J.1,?_⟩;unfold D9;rw[gD,D.2,J.2];(first|lia|omega)
theorem YH(c:Int):0<=c/8112%(((D9 c).length:Int)+1)/\c/8112%(((D9 c).length:Int)+1)<=((D9 c).length:Int):=⟨UC _ (by(first|lia|omega)),Int.le_of_lt_add_one (UB _ (by(first|lia|omega)))⟩
theorem YG(hi:0<=i/\i<8)(W:0<=j/\j<8)(e:Al c i=Al c j):i=j:=by
 have D:=AHU (λz:AF=>z.cps.toList) e;unfold Al at D;simp only[JW]at D;have J:=List.append_cancel_right D;have U:=ADt J;have V:Hh (c+5*i)=Hh (c+5*j):=by simpa using U
 unfold Hh at V;(first|lia|omega)
theorem m5(c k:Int):∃(u v:List Nat)(l x y:Nat),(Al c k).cps.toList=u++[l]++v/\∀a∈u++v,a=x\/a=y:=by
 obtain⟨J,U⟩:=YH c;show⟨_,_,_,Hh c,Hh (c/104),by unfold Al;rw[JW,JW],λa Y=>?_⟩;have V:G1 (D9 c) AG (AA (c/8112%(((D9 c).length:Int)+1)))=Ti (D9 c) AG (AA _):=rfl;have W:G1 (D9 c) (AA (c/8112%(((D9 c).length:Int)+1))) AG=Ti (D9 c) (AA _) AG:=rfl;have D:a∈(D9 c).cps.toList:=by
  rcases C1.mp Y with h|h;. rw[V,ACU ⟨J,U⟩]at h;show QW (QX h)
  . rw[W,ACT ⟨J,U⟩]at h;show QW (QX h)
 unfold D9 at D;rw[JW,Uy _ _ (by(first|lia|omega)) (by(first|lia|omega)),Uy _ _ (by(first|lia|omega)) (by(first|lia|omega))]at D;rcases C1.mp D with h|h;.show .inl (ABe.mp h).2
 .show .inr (ABe.mp h).2
theorem m4(c k:Int)(a:Nat):Al c k≠("idle":AF)++⟨#[a]⟩:=λe=>by
 obtain⟨u,v,l,x,y,J,h⟩:_:=m5 c k;rw[e,JW]at J;have D:u++[l]++v=[105,100,108,101,a]:=by rw[<-J];rfl
 rw[Dh]at D;match u,D,h with |[],D,h=> simp only[Js,LG,WG]at D;rw[D.2]at h;have:=h 100 (by simp);have:=h 108 (by simp);have:=h 101 (by simp);(first|lia|omega)|[_],D,h=>simp only[Js,LG,WG]at D;rw[D.1,D.2.2]at h;have:=h 105 (by simp);have:=h 108 (by simp);have:=h 101 (by simp);(first|lia|omega)|[_,_],D,h=>simp only[Js,LG,WG]at D;rw[D.1,D.2.1,D.2.2.2]at h;have:=h 105 (by simp);have:=h 100 (by simp);have:=h 101 (by simp);(first|lia|omega)|[_,_,_],D,h=>simp only[Js,LG,WG]at D;rw[D.1,D.2.1,D.2.2.1]at h;have:=h 105 (by simp);have:=h 100 (by simp);have:=h 108 (by simp);(first|lia|omega)|_::_::_::_::_,D,h=>simp only[Js,LG,WG]at D;rw[D.1,D.2.1,D.2.2.1]at h;have:=h 105 (by simp);have:=h 100 (by simp);have:=h 108 (by simp);(first|lia|omega)
def uA:BF:=λD H Q _=>∃c k:Int,D=[.int c,.int k]/\0<=k/\k<8/\Q (.str (Al c k)) H
theorem oG(T:BM AH AZ AM):T.mi.Ok BE P w AZ base 1 uA:=by
 show T.mi.ok λD _ _ _ _ _ Z H M Q E h=>?_;obtain⟨c,k,rfl,A,B,q⟩:_:=h;show⟨_,(Ah (BN 2 D Bi) (Ah (BN 3 D (Ac Sl (EY SW (AD 2) (Ac DA (AD 0) AN) (λ_ _=>rfl)) (Ac DA (Ac Dg (AD 0) AN) AN))) (Ah (BN 3 D (Ac Lv (AD 3) (Ac Sl (EY SW (AD 2) (Ac DA (Ac Dg (AD 0) AN) AN) (λ_ _=>rfl)) (Ac DA (Ac Dg (AD 0) AN) AN)))) (Ah (BN 4 D (Ac DA (Ac Dg (AD 0) AN) (Ac Et (CW VY (by rfl) T.cx Ez #v[AD 3]) AN))) (Af (BD (Ac Lv (Ac Lv (Du Sy (AD 3) Eu (DL (AD 4))) (EY SW (AD 2) (Ac DA (Ac Et (AD 0) (Ac JM AN (AD 1))) AN) (λ_ _=>rfl))) (Du Sy (AD 3) (DL (AD 4)) Eu)))))))),?_⟩;have L:As=16777216:=CL;have V:=Pd (c:=c) (n:=c/26%4) (by(first|lia|omega)) (by(first|lia|omega));have W:=Pd (c:=c/104) (n:=c/2704%3) (by(first|lia|omega)) (by(first|lia|omega));have Y:=lF c;lk;obtain⟨J,U⟩:=YH c;obtain⟨C,F,G,I⟩:=kT J (LQ _) U Y.1;k_in;show⟨(zzp rfl),_,_,_,rfl,rfl,by decide+kernel,Uo c,(zzd rfl),(zzp rfl),_,_,rfl,rfl,Rg (by(first|lia|omega)) (by(first|lia|omega)) (by change 1<=1000;decide),?_⟩;show⟨(zzd rfl),(zzp rfl),_,_,_,rfl,rfl,by decide+kernel,Uo (c/104),(zzd rfl),(zzp rfl),_,_,rfl,rfl,Rg (by(first|lia|omega)) (by(first|lia|omega)) (by change 1<=1000;decide),_,_,rfl,rfl,by rw[V.2,W.2];(first|lia|omega),?_⟩;show⟨(zzd rfl),D9 c,rfl,by(first|lia|omega),(by(first|lia|omega):(0:Int)<((D9 c).length:Int)+1),?_⟩;show⟨_,rfl,D9 c,rfl,by(first|lia|omega),.inl ⟨by decide,by decide⟩,(zzp rfl),_,_,_,rfl,rfl,by decide+kernel,Uo (c+5*k),_,_,rfl,rfl,?_,_,rfl,D9 c,rfl,by(first|lia|omega),_,_,rfl,rfl,?_,q⟩;. change(G1 (D9 c) AG (AA (c/8112%(((D9 c).length:Int)+1)))).length+1<=As;(first|lia|omega)
 . rw[gD];change(G1 (D9 c) AG (AA (c/8112%(((D9 c).length:Int)+1)))).length+1+_<=As;(first|lia|omega)
def RG(D:AF->Nat):AU->Prop|.take _ _=>True|.only n a _ _=>D a<=D n|.turn n a f g=>D a<D n/\(-9<=f/\f<=9)/\-9<=g/\g<=9|.both n a b=>D a<D n/\D b<D n|.join n a b _=>D a+D b<=D n|.gap _ _ _ m=>m<=1000000000|.each _ _ _ _ _=>True
section
variable{s:AU}
structure IJ(dg:AF->Nat)(ss:List AU):Prop where
 lo:∀a,1<=dg a
 hi:∀a,dg a<=3
 st:∀s∈ss,RG dg s
end
structure MT(n:Nat)(evs:List CF)(d:Nat)(L:List AO):Prop where
 bh:L.length<=n^d
 it:∀x∈L,x.1∈evs.map (λe:CF=>e.1)/\x.2.1∈evs.map (λe:CF=>e.2.2.1)/\x.2.2.natAbs<=10^(9+d)
theorem IS(D:1<=b)(h:x<=y):b^x<=b^y:=ABq D h
theorem Yw(d:Nat):10^9<=10^(9+d):=ABq (by decide) (Qa 9 d)
theorem U4(h:d<d'):10*10^(9+d)<=10^(9+d'):=by have:=IS (b:=10) (x:=9+d+1) (y:=9+d') (by decide) (by(first|lia|omega));rw[ABr]at this;(first|lia|omega)
theorem mJ(lo:∀a,1<=D a)(W:RG D s)(S:2<=n)(R:evs.length<=n)(G:∀e∈evs,e.2.2.2.natAbs<=10^9)(Z:∀a∈s.bx,MT n evs (D a) (L a)):MT n evs (D s.nm) (FF s L evs):=by
  have A:1<=n:=by(first|lia|omega)
  cases s with |take m k=>
    show⟨?_,λx U=>?_⟩
    . have V:(FF (.take m k) L evs).length<=evs.length:=by change(TR _ _).length<=_;rw[Au];show Fh _ _
      have J:=IS A (lo m);rw[Nat.pow_one]at J;show Ag V (Ag R J)
    . obtain⟨e,M,rfl⟩:_:=Ax.mp U;have E:=(EJ.mp M).1;show⟨Ax.mpr ⟨e,E,rfl⟩,Ax.mpr ⟨e,E,rfl⟩,Ag (G e E) (Yw _)⟩|only m a u F=> have h:=Z a (.head _);have W:D a<=D m:=W;show⟨Ag (Fh _ _) (Ag h.bh (IS A W)),λx U=>?_⟩;obtain⟨V,J,Y⟩:_:=h.it x (EJ.mp U).1;show⟨V,J,Ag Y (IS (by decide) (by change 9+D a<=9+D m;(first|lia|omega)))⟩|turn m a f g=>
    have h:=Z a (.head _);lk;obtain⟨W,X,c⟩:D a<D m/\(-9<=f/\f<=9)/\-9<=g/\g<=9:=W;k_in;show⟨?_,λx U=>?_⟩
    . change(TR _ _).length<=_;rw[Au];show Ag h.bh (IS A (Bz W))
    . lk;obtain⟨y,P,rfl⟩:=Ax.mp U;obtain⟨V,J,Y⟩:=h.it y P;k_in;show⟨V,J,Ag ?_ (U4 W)⟩;change(y.2.2*f+g).natAbs<=_;have l:=Yw (D a);have o:(y.2.2*f).natAbs<=10^(9+D a)*9:=by rw[ADi];show Qb Y (by(first|lia|omega))
      (first|lia|omega)|both m a b=>
    have B:=Z a (.head _);have C:=Z b (.tail _ (.head _));obtain⟨H,I⟩:D a<D m/\D b<D m:=W;show⟨?_,λx U=>?_⟩
    . change(L b++L a).length<=n^D m;rw[Ba];lk;obtain⟨d,K⟩:∃d,D m=d+1:=⟨D m-1,by(first|lia|omega)⟩;k_in;have V:=Ag B.bh (IS (y:=d) A (by(first|lia|omega)));have J:=Ag C.bh (IS (y:=d) A (by(first|lia|omega)));rw[K,ABr];have Y:=Nat.mul_le_mul_left (n^d) S;(first|lia|omega)
    . have F:∀{d:Nat},d<D m->10^(9+d)<=10^(9+D m):=λh=>IS (by decide) (by(first|lia|omega));rcases C1.mp U with h|h
      . obtain⟨V,J,Y⟩:_:=C.it x h;show⟨V,J,Ag Y (F I)⟩
      . obtain⟨V,J,Y⟩:_:=B.it x h;show⟨V,J,Ag Y (F H)⟩|join m a b T=>
    have B:=Z a (.head _);have C:=Z b (.tail _ (.head _));have W:D a+D b<=D m:=W;have r:=lo a;have t:=lo b;show⟨?_,λx U=>?_⟩
    . have V:(DO T (L a) (L b)).length<=(L b).length*(L a).length:=RS λi _=>by rw[Au];show Fh _ _
      have J:=Qb C.bh B.bh;rw[<-AEO]at J;show Ag V (Ag J (IS A (by change D b+D a<=D m;(first|lia|omega))))
    . lk;obtain⟨i,N,U⟩:=L8.mp U;obtain⟨j,O,rfl⟩:=Ax.mp U;obtain⟨i1,i2,i3⟩:=B.it i N;obtain⟨Q,p,q⟩:=C.it j (EJ.mp O).1;k_in;show⟨?_,i2,?_⟩
      . change JC i.1 j.1∈_;unfold JC;split;.show Q
        .show i1
      . change(i.2.2-j.2.2).natAbs<=10^(9+D m);have V:=U4 (d:=D a) (d':=D m) (by(first|lia|omega));have J:=U4 (d:=D b) (d':=D m) (by(first|lia|omega));(first|lia|omega)|gap=>show⟨Bm _,λx U=>by cases U⟩|each=>show⟨Bm _,λx U=>by cases U⟩
theorem XH(U:DI ss)(D:IJ Z ss)(Y:2<=n)(W:evs.length<=n)(V:∀e∈evs,e.2.2.2.natAbs<=10^9):∀(m i:Nat)s,i<m->ss[i]?=AA s->MT n evs (Z s.nm) (CV ss evs s.nm)|0,i,s,h,_=>absurd h (NH _)|m+1,i,s,h,J=>by rw[UP U J];show mJ D.lo (D.st s (Cp J)) Y W V λa C=>by obtain⟨E,F,l,A,B,_⟩:_:=U.rl i s a J C;rw[<-B];show XH U D Y W V m E F (by(first|lia|omega)) A
section
variable{evs:List CF}
structure Fm(evs:List CF):Prop where
 bh:evs.length<=27
 it:∀e∈evs,XG (PK e)/\F8 e.2.2.1/\e.2.2.2.natAbs<=10^9
end
theorem Fm.fe(h:Fm evs)(p:AF->Bool):Fm (LY p evs):=⟨Ag (Fh _ _) h.bh,λe D=>h.it e (EJ.mp D).1⟩
theorem Fm.lb(h:Fm evs)(W:DI ss)(J:IJ D ss){i:Nat}(U:ss[i]?=AA s):MT 27 evs (D s.nm) (CV ss evs s.nm):=XH W J (by decide) h.bh (λe V=>(h.it e V).2.2) _ i s (OZ i) U
theorem Fm.yq(h:Fm evs)(J:d<=3)(b:MT 27 evs d L):L.length<=20000/\Hd L:=by
 show⟨Ag b.bh (Ag (IS (by decide) J) (by decide)),evs.map (λe:CF=>e.1),evs.map (λe:CF=>e.2.2.1),?_,?_,λt V=>?_,λx D=>⟨(b.it x D).1,(b.it x D).2.1⟩⟩;.rw[Au];show Ag h.bh (by decide)
 .rw[Au];show Ag h.bh (by decide)
 . obtain⟨e,U,rfl⟩:_:=Ax.mp V;show(h.it e U).1.1
theorem Fm.aee(h:Fm evs)(U:DI ss)(D:IJ V ss):UQ ss evs:=λp i s J _=>(h.fe p).yq (D.hi _) ((h.fe p).lb U D J)
theorem Fm.adv(h:Fm evs)(F:d<=3)(b:MT 27 evs d L)(E:x∈L):Nb x:=by lk;obtain⟨A,B,C⟩:=b.it x E;obtain⟨W,J,D⟩:=Ax.mp A;obtain⟨Y,U,V⟩:=Ax.mp B;k_in;have t:=(h.it W J).1.1;have Z:=(h.it Y U).2.1;have D:W.1=x.1:=D;have V:Y.2.2.1=x.2.1:=V;rw[V]at Z;show⟨Z,by rw[<-D];show t.1,by rw[<-D];show t.2,HS (Ag C (IS (y:=12) (by decide) (by(first|lia|omega)))) (by decide)⟩
structure Fo(B:Int)(p:AV):Prop where
 s:-(10^10)<=p.1/\p.1<=10^10
 e:-(10^10)<=p.2.1/\p.2.1<=10^10
 c:0<=p.2.2.1
 m:-(p.2.2.1*B)<=p.2.2.2.1/\p.2.2.2.1<=p.2.2.1*B
 lo:-B<=p.2.2.2.2.1/\p.2.2.2.2.1<=B
 hi:-B<=p.2.2.2.2.2/\p.2.2.2.2.2<=B
theorem Fo.zt{B:Int}{s e:Int}(h:Fo B p)(g:Fo B q)(J:-(10^10)<=s/\s<=10^10)(D:-(10^10)<=e/\e<=10^10):Fo B (s,e,GX p.2.2 q.2.2):=by
 show⟨J,D,Int.add_nonneg h.c g.c,?_,?_,?_⟩
 . change-((p.2.2.1+q.2.2.1)*B)<=p.2.2.2.1+q.2.2.2.1/\p.2.2.2.1+q.2.2.2.1<=(p.2.2.1+q.2.2.1)*B;rw[Int.add_mul];have:=h.m;have:=g.m;(first|lia|omega)
 . have:=h.lo;have:=g.lo;change-B<=DR _ _/\DR _ _<=B;(first|lia|omega)
 . have:=h.hi;have:=g.hi;change-B<=Ju _ _/\Ju _ _<=B;(first|lia|omega)
noncomputable def FI(l:List AV):Int:=(l.map λp:AV=>p.2.2.1).sum
theorem J9(b:AV)(l:List AV):FI (b::l)=b.2.2.1+FI l:=rfl
theorem Xs(g:Fo B (s,e,t)):∀{l:List AV},(∀b∈l,Fo B b)->(∀b∈Bx s e t l,Fo B b)/\FI (Bx s e t l)=t.1+FI l
  |[],_=>⟨λb D=>by rw[Bc.mp D];show g,rfl⟩|c::r,h=>by
    have J:=h c (.head _);obtain⟨U,V⟩:=Xs g (l:=r) λb D=>h b (.tail _ D);unfold Bx;split
    . show⟨λb D=>?_,by rw[J9,J9,V];(first|lia|omega)⟩;rcases BY.mp D with rfl|D;.show J
      .show U b D
    . split
      . show⟨λb D=>?_,?_⟩
        . rcases BY.mp D with rfl|D;.show J.zt g g.s J.e
          .show h b (.tail _ D)
        . rw[J9,J9];change c.2.2.1+t.1+_=_;(first|lia|omega)
      . show⟨λb D=>?_,J9 _ _⟩;rcases BY.mp D with rfl|D;.show g
        .show h b D
theorem Uv:∀{l:List AV}{p:AV},Fo B p->(∀b∈l,Fo B b)->(∀b∈CJ p l,Fo B b)/\FI (CJ p l)=p.2.2.1+FI l
  |[],p,g,_=>⟨λb D=>by rw[Bc.mp D];show g,rfl⟩|c::r,p,g,h=>by
    have J:=h c (.head _);have W:∀b∈r,Fo B b:=λb D=>h b (.tail _ D);unfold CJ;split
    . obtain⟨U,V⟩:=Uv g W;show⟨λb D=>?_,by rw[J9,J9,V];(first|lia|omega)⟩;rcases BY.mp D with rfl|D;.show J
      .show U b D
    . split
      . show⟨λb D=>?_,J9 _ _⟩;rcases BY.mp D with rfl|D;.show g
        .show h b D
      . have Y:Fo B (DJ c p):=J.zt g (by have:=J.s;have:=g.s;(first|lia|omega)) (by have:=J.e;have:=g.e;(first|lia|omega));obtain⟨U,V⟩:=Uv Y W;show⟨U,?_⟩;rw[V,J9];change c.2.2.1+p.2.2.1+_=_;(first|lia|omega)
theorem Yk{B t a s e:Int}(D:-B<=a/\a<=B)(U:-(10^10)<=s/\s<=10^10)(J:-(10^10)<=e/\e<=10^10):Fo B (s,e,Hn a):=⟨U,J,by change(0:Int)<=1;decide,by change-(1*B)<=a/\a<=1*B;(first|lia|omega),D,D⟩
theorem vI(h:PB t z d)(W:s∈Hl t z d):-(10^10)<=s/\s<=10^9+10^7:=by have F:=(Pj h).2;lk;obtain⟨V,Y,Z,A,B,C⟩:=h;have f:=PM (t:=t) (z:=z) V;obtain⟨k,D,rfl⟩:=Ax.mp W;k_in;have D:=OT.mp D;have J:0<=(k:Int)*d:=ADh (by(first|lia|omega)) (by(first|lia|omega));have U:(k:Int)*d<=5*d:=ADg (by(first|lia|omega)) (by(first|lia|omega));generalize(k:Int)*d=E at J U;generalize((t-z)/d+1)*d=x at f;(first|lia|omega)
theorem qL{s:AU}(W:s.dw)(C:∀n x y m,s=.gap n x y m->m<=1000000000)(N:0<=t)(t1:t<=1000000000)(Z:-B<=a/\a<=B)(h:∀b∈l,Fo B b):(∀b∈s.ja t a l,Fo B b)/\FI (s.ja t a l)<=FI l+5:=by cases s with
 |each n x y z d=>
  lk;obtain⟨I,K,L,M⟩:=id W;have w:PB t z d:=⟨I,K,L,M,N,t1⟩;have V:∀(D:List Int)(l:List AV),(∀s∈D,s∈Hl t z d)->(∀b∈l,Fo B b)->(∀b∈D.foldl (λl s=>Bx s (s+z) (Hn a) l) l,Fo B b)/\FI (D.foldl (λl s=>Bx s (s+z) (Hn a) l) l)=D.length+FI l:=λD=>by induction D with |nil=>showλl _ h=>⟨h,by change FI l=((0:Nat):Int)+FI l;(first|lia|omega)⟩|cons s D F=> intro l Y A;have r:=vI w (Y s (.head _));obtain⟨i1,i2⟩:=Xs (Yk (t:=t) Z (s:=s) (e:=s+z) (by(first|lia|omega)) (by(first|lia|omega))) A;obtain⟨G,H⟩:=F (Bx s (s+z) (Hn a) l) (λu E=>Y u (.tail _ E)) i1;show⟨G,?_⟩;rw[dW,H,i2,Ex];change _+(1+_)=_;(first|lia|omega)
  obtain⟨J,U⟩:=V (Hl t z d) l (λ_ h=>h) h;k_in;have O:=(Pj w).1;show⟨J,?_⟩;change FI (Ro t a z d l)<=_;unfold Ro;rw[U];(first|lia|omega)|gap n x y m=>have P:0<=m:=W;have Q:=C n x y m rfl;obtain⟨J,U⟩:=Uv (Yk (t:=t) Z (s:=t) (e:=t+m+1) (by(first|lia|omega)) (by(first|lia|omega))) h;show⟨J,?_⟩;change FI (CJ _ l)<=_;rw[U];change 1+_<=_;(first|lia|omega)|_=>cases W
theorem Xj{s:AU}(U:s.dw)(J:∀n x y m,s=.gap n x y m->m<=1000000000):∀(D:List Iy)(l:List AV),(∀x∈D,(0<=x.1/\x.1<=1000000000)/\-B<=x.2/\x.2<=B)->(∀b∈l,Fo B b)->(∀b∈D.foldl (λl x=>s.ja x.1 x.2 l) l,Fo B b)/\FI (D.foldl (λl x=>s.ja x.1 x.2 l) l)<=FI l+5*D.length|[],l,_,h=>⟨h,by change FI l<=FI l+5*((0:Nat):Int);(first|lia|omega)⟩|x::D,l,V,h=>by lk;obtain⟨t,a⟩:=V x (.head _);obtain⟨Z,C⟩:=qL U J t.1 t.2 a h;obtain⟨W,A⟩:=Xj U J D _ (λy Y=>V y (.tail _ Y)) Z;k_in;show⟨W,?_⟩;rw[dW,Ex];(first|lia|omega)
theorem ZQ:∀{l:List AV},(∀b∈l,Fo B b)->0<=FI l/\∀b∈l,b.2.2.1<=FI l
 |[],_=>⟨LQ _,λb D=>by cases D⟩|c::l,h=>by
  obtain⟨U,J⟩:=ZQ λb D=>h b (.tail _ D);have V:=(h c (.head _)).c;rw[J9];show⟨by(first|lia|omega),λb D=>?_⟩;rcases BY.mp D with rfl|D;. (first|lia|omega)
  . have:=J b D;(first|lia|omega)
theorem Fm.zl(h:Fm evs)(Y:DI ss)(V:IJ N ss)(now:Int)(S:t∈An ss)(m:AF×AV)(E:m.2∈FX ss now (CV ss evs) t m.1):O9 m:=by
 lk;obtain⟨s,W,c⟩:=Hm.mp S;obtain⟨X,_,P⟩:=Y.dw W c;obtain⟨p,v,_,O,Z,_⟩:=Y.rl t s _ W (by rw[P];show .head _);have b:=h.lb Y V O;rw[Z]at b;rw[Kr W]at E;have D:m.2∈Iz s (FG m.1 (CV ss evs s.fd)):=(EJ.mp E).1;have G:∀x∈CV ss evs s.fd,Nb x:=λx U=>h.adv (V.hi _) b U;have H:∀x∈CV ss evs s.fd,-(10^12)<=x.2.2/\x.2.2<=10^12:=λx U=>by have o:=Ag (b.it x U).2.2 (IS (b:=10) (y:=12) (by decide) (by have:=V.hi s.fd;rw[<-Z]at this⊢;(first|lia|omega)));(first|lia|omega)
 have R:∀n x y m,s=.gap n x y m->m<=1000000000:=λn x y m q=>by have:=V.st s (Cp W);rw[q]at this;show this
 obtain⟨A,C⟩:=Xj (B:=10^12) X R (FG m.1 (CV ss evs s.fd)) [] (λx U=>by obtain⟨i,J,rfl⟩:=Ax.mp U;have J:=(EJ.mp J).1;obtain⟨_,i2,i3,_⟩:=G i J;show⟨⟨i2,i3⟩,H i J⟩) λb Q=>by cases Q
 obtain⟨w,a⟩:=ZQ A;k_in;have r:=qE m.1 (CV ss evs s.fd);have u:=(h.yq (V.hi _) b).1;have q:=A m.2 D;have L:=a m.2 D;change FI _<=0+_ at C;have M:m.2.2.2.1<=100000:=by show FQ L (FQ C ?_);(first|lia|omega)
 have T:F8 m.1:=by cases e:FG m.1 (CV ss evs s.fd)with |nil=> rw[e]at D;cases D|cons x l=>
  have U:x∈FG m.1 (CV ss evs s.fd):=by rw[e];show .head _
  obtain⟨i,J,_⟩:=Ax.mp U;obtain⟨J,q⟩:=EJ.mp J;rw[<-(AHX q:i.2.1=m.1)];show(G i J).1
 obtain⟨d,f,g,I,j,k⟩:_:=q;have K:m.2.2.2.1*10^12<=100000*10^12:=ADg M (by decide);show⟨T,λn F=>?_⟩;simp only[BY,F3,AHZ]at F;generalize m.2.2.2.1*10^12=y at I K;rcases F with rfl|rfl|rfl|rfl|rfl|rfl<;>(first|lia|omega)
noncomputable def Dx(c:Int)(a:AF):Nat:=if a=Al c 2 then 3 else if a=Al c 3 then 2 else 1
theorem kW(c:Int)(a:AF):1<=Dx c a:=by unfold Dx;split;decide;split<;>decide
theorem kU(c:Int)(a:AF):Dx c a<=3:=by unfold Dx;split;decide;split<;>decide
theorem Nh(c:Int):Dx c (Al c 0)=1/\Dx c (Al c 1)=1/\Dx c (Al c 2)=3/\Dx c (Al c 3)=2:=by
 have D:∀{i j:Int},0<=i/\i<8->0<=j/\j<8->i≠j->Al c i≠Al c j:=λh g n e=>n (YG h g e);have r:∀i:Int,i=0\/i=1\/i=2\/i=3->0<=i/\i<8:=by(first|lia|omega)
 show⟨?_,?_,AHT rfl,?_⟩<;>unfold Dx;.rw[AHS (D (r _ (by decide)) (r _ (by decide)) (by decide)),AHS (D (r _ (by decide)) (r _ (by decide)) (by decide))]
 .rw[AHS (D (r _ (by decide)) (r _ (by decide)) (by decide)),AHS (D (r _ (by decide)) (r _ (by decide)) (by decide))]
 .rw[AHS (D (r _ (by decide)) (r _ (by decide)) (by decide)),AHT rfl]
def FU(ss:List AU)(a:AF):Prop:=∃(i:Nat)(s:AU),ss[i]?=AA s/\s.nm=a/\s.cu=AQ
theorem FU.wo(h:FU ss a):FU (ss++[s]) a:=by obtain⟨i,t,e,q⟩:_:=h;show⟨i,t,by rw[Jt (BU.mp e).1];show e,q⟩
theorem MR(h:s.cu=AQ):FU (ss++[s]) s.nm:=⟨ss.length,s,by rw[L5 (Ai _),Qc];rfl,rfl,h⟩
theorem vJ(ss:List AU)(s:AU):An (ss++[s])=An ss++if s.cu=AJ then[ss.length]else[]:=by
 unfold An;rw[Ba,GP,TU,F0];congr 1;. show NB λi D=>?_;unfold HI;rw[Jt (OT.mp D)]
 . rw[F1];unfold HI;rw[L5 (Ai _),Qc];rfl
section
variable{s:AU}
structure D8(c:Int)(ss:List AU)(N:List Int):Prop where
 ok:DI ss
 st:∀s∈ss,RG (Dx c) s
 nm:∀s∈ss,(∃k∈N,(0<=k/\k<8)/\s.nm=Al c k)\/∃a:Nat,s.nm=("idle":AF)++⟨#[a]⟩tl:(An ss).length<=N.length
end
theorem D8.iq(h:D8 c ss N)(I:0<=j/\j<8)(S:j∉N)(e:s.nm=Al c j)(R:∀a∈s.bx,FU ss a)(X:VC s)(sd:RG (Dx c) s):D8 c (ss++[s]) (j::N):=by
  have Y:∀t∈ss,t.nm≠s.nm:=λt D q=>by
    rcases h.nm t D with⟨k,A,B,Q⟩|⟨a,P⟩
    . rw[Q,e]at q;show S (by rw[<-YG B I q];show A)
    . rw[P,e]at q;show m4 c j a q.symm
  have J:∀{i:Nat}{t:AU},(ss++[s])[i]?=AA t->ss[i]?=AA t\/(i=ss.length/\t=s):=λ{i t}q=>by
    rcases OY i ss.length with l|l;. rw[Jt l]at q;show .inl q
    . have T:=(BU.mp q).1;rw[Ba,GP]at T;obtain rfl:i=ss.length:=by(first|lia|omega)
      rw[L5 l,Qc]at q;cases q;show .inr ⟨rfl,rfl⟩
  show⟨⟨λi W t M q L U=>?_,λi t a q H=>?_,λt D=>?_⟩,λt D=>?_,λt D=>?_,?_⟩
  . rcases J q with K|⟨G,Z⟩
    . rcases J L with C|⟨G,Z⟩;.show h.ok.bo i W t M K C U
      .show absurd (by rw[<-Z];show U) (Y t (Cp K))
    . rcases J L with C|⟨O,b⟩;.show absurd (by rw[<-Z];show U.symm) (Y M (Cp C))
      .show G.trans O.symm
  . rcases J q with q|⟨rfl,rfl⟩
    . obtain⟨W,E,l,V,U,F⟩:_:=h.ok.rl i t a q H;show⟨W,E,l,by rw[Jt (BU.mp V).1];show V,U,F⟩
    . obtain⟨W,E,V,U,F⟩:_:=R a H;have l:=(BU.mp V).1;show⟨W,E,l,by rw[Jt l];show V,U,F⟩
  . rcases C1.mp D with D|D;.show h.ok.ok t D
    . rw[Bc.mp D];show X
  . rcases C1.mp D with D|D;.show h.st t D
    . rw[Bc.mp D];show sd
  . rcases C1.mp D with D|D;.show(h.nm t D).imp (λ⟨k,A,q⟩=>⟨k,.tail _ A,q⟩) id
    . rw[Bc.mp D];show .inl ⟨j,.head _,I,e⟩
  . rw[vJ,Ba,Ex];have:=h.tl;split;.rw[GP];(first|lia|omega)
    .rw[OR];(first|lia|omega)
noncomputable def Ki(a:Nat):AU:=.take (("idle":AF)++⟨#[a]⟩) "idle"
theorem lK(h:(Ki a).nm=(Ki b).nm):a=b:=by have D:(("idle":AF)++⟨#[a]⟩).cps.toList=(("idle":AF)++⟨#[b]⟩).cps.toList:=AHU (λz:AF=>z.cps.toList) h;rw[JW,JW]at D;have J:=ADt D;simpa using J
theorem XM(c:Int){as:List Nat}(E:as.Nodup):D8 c (as.map Ki) []:=by
  have D:∀{i:Nat}{t:AU},(as.map Ki)[i]?=AA t->∃a,as[i]?=AA a/\t=Ki a:=λ{i t}q=>by rw[Bo]at q;cases e:as[i]? with|none=>rw[e]at q;cases q|some a=>rw[e]at q;cases q;show⟨a,rfl,rfl⟩
  show⟨⟨λi L t M q F Z=>?_,λi t a q B=>?_,λt J=>?_⟩,λt J=>?_,λt J=>?_,?_⟩
  . lk;obtain⟨a,Y,rfl⟩:=D q;obtain⟨H,U,rfl⟩:=D F;k_in;have:=lK Z;subst this;lk;obtain⟨I,V⟩:=BU.mp Y;obtain⟨K,W⟩:=BU.mp U;k_in;show(dY E).mp (V.trans W.symm)
  . obtain⟨b,_,rfl⟩:=D q;cases B
  . obtain⟨a,_,rfl⟩:_:=Ax.mp J;trivial
  . obtain⟨a,_,rfl⟩:_:=Ax.mp J;trivial
  . obtain⟨a,_,rfl⟩:_:=Ax.mp J;show .inr ⟨a,rfl⟩
  . have:An (as.map Ki)=[]:=LC.mpr λi C q=>by obtain⟨s,A,G⟩:=Hm.mp (EJ.mpr ⟨C,q⟩);obtain⟨a,_,rfl⟩:=D A;cases G
    rw[this];show Ai _
def J4(c:Int)(ss:List AU):Prop:=∀D,D8 c D []->∃N,N.length<=8/\D8 c (D++ss) N
theorem D8.zx(h:D8 c ss N)(U:(4:Int)∉N)(D:FU ss (Al c 2))(V:W∈G6)(Y:1<=d/\d<=300000/\d<=z/\z<=4*d):D8 c (ss++[.each (Al c 4) (Al c 2) W z d]) (4::N):=h.iq (by(first|lia|omega)) U rfl (λa J=>by rw[Bc.mp J];show D) ⟨Y,V⟩ trivial
theorem D8.yj(h:D8 c ss N)(V:(5:Int)∉N)(J:FU ss (Al c 2))(W:Y∈G6)(D:0<=m/\m<=1000000000):D8 c (ss++[.gap (Al c 5) (Al c 2) Y m]) (5::N):=h.iq (by(first|lia|omega)) V rfl (λa U=>by rw[Bc.mp U];show J) ⟨D.1,W⟩ D.2
theorem D8.ph(h:D8 c ss []):D8 c (ss++[.take (Al c 0) k0]) [0]:=h.iq (by(first|lia|omega)) (by decide) rfl (λa D=>by cases D) trivial trivial
theorem D8.rh(h:D8 c ss [0]):D8 c (ss++[.take (Al c 1) k1]) [1,0]:=h.iq (by(first|lia|omega)) (by decide) rfl (λa D=>by cases D) trivial trivial
theorem Rz(J:FU ss a)(U:FU ss b):∀x∈[a,b],FU ss x:=λx D=>by
 rcases BY.mp D with rfl|D;.show J
 . rw[Bc.mp D];show U
theorem D8.zq(h:D8 c ss [1,0])(D:FU ss (Al c 0))(J:FU ss (Al c 1)):D8 c (ss++[.join (Al c 3) (Al c 1) (Al c 0) wi]) [3,1,0]:=by obtain⟨U,V,W,Y⟩:_:=Nh c;show h.iq (by(first|lia|omega)) (by decide) rfl (Rz J D) trivial (by change Dx c (Al c 1)+Dx c (Al c 0)<=Dx c (Al c 3);(first|lia|omega))
theorem D8.aai(h:D8 c ss N)(V:(2:Int)∉N)(U:j=0\/j=1)(D:FU ss (Al c 0))(J:FU ss (Al c j)):D8 c (ss++[.join (Al c 2) (Al c 0) (Al c j) wi]) (2::N):=by obtain⟨W,Y,Z,A⟩:_:=Nh c;show h.iq (by(first|lia|omega)) V rfl (Rz D J) trivial (by change Dx c (Al c 0)+Dx c (Al c j)<=Dx c (Al c 2);rcases U with rfl|rfl<;>(first|lia|omega))
theorem D8.aag(h:D8 c ss N)(V:(2:Int)∉N)(hi:i=0\/i=3)(U:j=0\/j=1)(D:FU ss (Al c i))(J:FU ss (Al c j)):D8 c (ss++[.both (Al c 2) (Al c i) (Al c j)]) (2::N):=by obtain⟨W,Y,Z,A⟩:_:=Nh c;show h.iq (by(first|lia|omega)) V rfl (Rz D J) trivial (by change Dx c (Al c i)<Dx c (Al c 2)/\Dx c (Al c j)<Dx c (Al c 2);rcases hi with rfl|rfl<;>rcases U with rfl|rfl<;>(first|lia|omega))
theorem D8.acp(h:D8 c (D++[x]++[y]++[w]) N)(l:N.length<=8):∃N:List Int,N.length<=8/\D8 c (D++[x,y,w]) N:=⟨N,l,by simpa only[Dh,Js,LG]using h⟩
theorem D8.adh(h:D8 c (D++[x]++[y]++[w]++[u]++[v]) N)(l:N.length<=8):∃N:List Int,N.length<=8/\D8 c (D++[x,y,w,u,v]) N:=⟨N,l,by simpa only[Dh,Js,LG]using h⟩
theorem D8.aef(h:D8 c (D++[x]++[y]++[w]++[u]++[v]++[r]) N)(l:N.length<=8):∃N:List Int,N.length<=8/\D8 c (D++[x,y,w,u,v,r]) N:=⟨N,l,by simpa only[Dh,Js,LG]using h⟩
theorem FU.f0:FU (ss++[.take (Al c 0) k0]) (Al c 0):=MR (s:=.take (Al c 0) k0) rfl
theorem FU.f1:FU (ss++[.take (Al c 1) k1]) (Al c 1):=MR (s:=.take (Al c 1) k1) rfl
theorem FU.f3:FU (ss++[.join (Al c 3) a b wi]) (Al c 3):=MR (s:=.join (Al c 3) a b wi) rfl
theorem FU.j2:FU (ss++[.join (Al c 2) a b wi]) (Al c 2):=MR (s:=.join (Al c 2) a b wi) rfl
theorem FU.b2:FU (ss++[.both (Al c 2) a b]) (Al c 2):=MR (s:=.both (Al c 2) a b) rfl
section
variable{s:AU}{c:Int}{pre:List AU}{k0 so:AF}{f g z d:Int}(hs:so∈G6)(zd:1<=d/\d<=300000/\d<=z/\z<=4*d)
include hs zd in theorem qO(J:-9<=f/\f<=9)(U:-9<=g/\g<=9):J4 c [.take (Al c 0) k0,.turn (Al c 2) (Al c 0) f g,.each (Al c 4) (Al c 2) so z d]:=λpre h=>by obtain⟨V,W,Y,Z⟩:_:=Nh c;have h1:=(h.ph (k0:=k0)).iq (s:=.turn (Al c 2) (Al c 0) f g) (j:=2) (by(first|lia|omega)) (by decide) rfl (λa D=>by rw[Bc.mp D];show .f0) (by change-100<=f/\f<=100;(first|lia|omega)) ⟨by(first|lia|omega),J,U⟩;show(h1.zx (by decide) (MR (s:=.turn (Al c 2) (Al c 0) f g) rfl) hs zd).acp (by decide)
end
section
variable{s:AU}{c:Int}{pre:List AU}{k0 so':AF}{lo hi m:Int}(hs':so'∈G6)(hm:0<=m/\m<=1000000000)
include hs' hm in theorem qP:J4 c [.take (Al c 0) k0,.only (Al c 2) (Al c 0) lo hi,.gap (Al c 5) (Al c 2) so' m]:=λpre h=>by obtain⟨J,U,V,W⟩:_:=Nh c;have h1:=(h.ph (k0:=k0)).iq (s:=.only (Al c 2) (Al c 0) lo hi) (j:=2) (by(first|lia|omega)) (by decide) rfl (λa D=>by rw[Bc.mp D];show .f0) trivial (by change Dx c (Al c 0)<=Dx c (Al c 2);(first|lia|omega));show(h1.yj (by decide) (MR (s:=.only (Al c 2) (Al c 0) lo hi) rfl) hs' hm).acp (by decide)
end
section
variable{c:Int}{pre:List AU}{k0 k1 so so':AF}{wi z d m:Int}(hs:so∈G6)(hs':so'∈G6)(zd:1<=d/\d<=300000/\d<=z/\z<=4*d)(hm:0<=m/\m<=1000000000)
include hs hs' zd hm in theorem qQ:J4 c [.take (Al c 0) k0,.take (Al c 1) k1,.join (Al c 2) (Al c 0) (Al c 1) wi,.each (Al c 4) (Al c 2) so z d,.gap (Al c 5) (Al c 2) so' m]:=λpre h=>(((h.ph.rh.aai (by decide) (.inr rfl) (.wo .f0) .f1).zx (by decide) .j2 hs zd).yj (by decide) (.wo .j2) hs' hm).adh (by decide)
end
section
variable{c:Int}{pre:List AU}{k0 so':AF}{wi m:Int}(hs':so'∈G6)(hm:0<=m/\m<=1000000000)
include hs' hm in theorem qR:J4 c [.take (Al c 0) k0,.join (Al c 2) (Al c 0) (Al c 0) wi,.gap (Al c 5) (Al c 2) so' m]:=λpre h=>((h.ph.aai (by decide) (.inl rfl) .f0 .f0).yj (by decide) .j2 hs' hm).acp (by decide)
end
section
variable{c:Int}{pre:List AU}{k0 k1 so so':AF}{z d m:Int}(hs:so∈G6)(hs':so'∈G6)(zd:1<=d/\d<=300000/\d<=z/\z<=4*d)(hm:0<=m/\m<=1000000000)
include hs hs' zd hm in theorem qS:J4 c [.take (Al c 0) k0,.take (Al c 1) k1,.both (Al c 2) (Al c 0) (Al c 1),.each (Al c 4) (Al c 2) so z d,.gap (Al c 5) (Al c 2) so' m]:=λpre h=>(((h.ph.rh.aag (by decide) (.inl rfl) (.inr rfl) (.wo .f0) .f1).zx (by decide) .b2 hs zd).yj (by decide) (.wo .b2) hs' hm).adh (by decide)
end
theorem qU:J4 c [.take (Al c 0) k0,.take (Al c 1) k1,.join (Al c 3) (Al c 1) (Al c 0) wi]:=λD h=>(h.ph.rh.zq (.wo .f0) .f1).acp (by decide)
section
variable{s:AU}{c:Int}{pre:List AU}{k0 k1 so so':AF}{wi z d m:Int}(hs:so∈G6)(hs':so'∈G6)(zd:1<=d/\d<=300000/\d<=z/\z<=4*d)(hm:0<=m/\m<=1000000000)
include hs hs' zd hm in theorem qV:J4 c [.take (Al c 0) k0,.take (Al c 1) k1,.join (Al c 3) (Al c 1) (Al c 0) wi,.join (Al c 2) (Al c 3) (Al c 0) wi,.each (Al c 4) (Al c 2) so z d,.gap (Al c 5) (Al c 2) so' m]:=λpre h=>by obtain⟨D,J,U,V⟩:_:=Nh c;have h1:=(h.ph.rh (k1:=k1)).zq (wi:=wi) (.wo (.f0 (k0:=k0))) .f1;have h2:=h1.iq (s:=.join (Al c 2) (Al c 3) (Al c 0) wi) (j:=2) (by(first|lia|omega)) (by decide) rfl (Rz .f3 (.wo (.wo .f0))) trivial (by change Dx c (Al c 3)+Dx c (Al c 0)<=Dx c (Al c 2);(first|lia|omega));show((h2.zx (by decide) .j2 hs zd).yj (by decide) (.wo .j2) hs' hm).aef (by decide)
end
section
variable{c:Int}{pre:List AU}{k0 k1 so':AF}{wi m:Int}(hs':so'∈G6)(hm:0<=m/\m<=1000000000)
include hs' hm in theorem qT:J4 c [.take (Al c 0) k0,.take (Al c 1) k1,.join (Al c 3) (Al c 1) (Al c 0) wi,.both (Al c 2) (Al c 3) (Al c 0),.gap (Al c 5) (Al c 2) so' m]:=λpre h=>by have h1:=(h.ph.rh (k1:=k1)).zq (wi:=wi) (.wo (.f0 (k0:=k0))) .f1;show((h1.aag (by decide) (.inr rfl) (.inl rfl) .f3 (.wo (.wo .f0))).yj (by decide) .b2 hs' hm).adh (by decide)
end
def uK:BF:=λY H Q _=>∃c D:Int,Y=[.int c,.int D]/\(D=1\/D=40000)/\∀J l V U W,Aj H J->J l=AA (.lst V)->F9 J V U->U.length<=6->J4 W U->Q (.ref l) J
theorem oT(T:BM AH AZ AM):T.mj.Ok BE P w AZ base 2 uK:=by
 show T.mj.ok λX _ _ _ _ _ hr H vs Q E h=>?_;obtain⟨c,D,rfl,ht,k⟩:_:=h;show⟨_,(Ah (CP (Bu ED (Ac DA (AD 0) AN) AN (Bt _)) (Af (BD (CM Fx))) Cg) (Ah (OL (i:=2) (osc:=Cy rJ) [("_law_cell",0)] X rfl (FN rfl) rfl (QN (by rfl) T.gp #v[AN]) rfl rfl (by decide+kernel) (by decide+kernel) (by decide+kernel) ⟨rfl,rfl,trivial⟩ rfl (by decide+kernel) (λ_ _ _ _=>Fy) (λ_ _ _ _=>(BC (oG T) hr #v[Ac Dg (AD 1) AN,AD 0]))) (Ah (BN 3 X (Ac JM (Ac Et AN (Ac DA (Ac Dg (AD 0) AN) AN)) (AD 1))) (Ah (BN 4 X (CW (SO rfl) (by rfl) T.wj Wc #v[AD 1,Ac Hz (AD 3) (Ac JM (Ac DA (Ac Dg (AD 0) AN) AN) (AD 1))])) (Ah (BN 5 X (Ac JM (Ac DA (Ac Dg (AD 0) AN) AN) (AD 1))) (Ah (BN 6 X (CY #v[Bi,By AH (AD 2) AN,By AH (AD 2) AN])) (Ah (BN 7 X (CY #v[Bi,By AH (AD 2) AN,By AH (AD 2) AN])) (Ah (BN 8 X (CY #v[Bi,By AH (AD 2) AN,By AH (AD 2) AN,By AH (CM #v[Bi,Bi]) (Ac DA (Ac Dg (AD 0) AN) AN),AD 3,AD 4])) (Ah (BN 9 X (CY #v[Bi,By AH (AD 2) AN,By AH (AD 2) AN,By AH (CM #v[Bi,Bi]) (Ac DA (Ac Dg (AD 0) AN) AN),Ac JM (Ac DA (Ac Dg (AD 0) AN) AN) (AD 1)])) (EN (BN 10 X (Ac DA (AD 0) AN)) (Ah (CP (Bu ED (AD 10) AN (Bt _)) (Af (BD (CM #v[AD 6,CY #v[Bi,By AH (AD 2) AN,By AH (AD 2) AN,Ac Hz (Ac DA (Ac Dg (AD 0) AN) AN) AN,Ac Hz (Ac DA (Ac Dg (AD 0) AN) AN) AN],AD 8]))) Cg) (Ah (CP (Bu ED (AD 10) AN (Bt _)) (Af (BD (CM #v[AD 6,CY #v[Bi,By AH (AD 2) AN,By AH (AD 2) AN,bP dE AN,Ac DA (Ac Dg (AD 0) AN) AN],AD 9]))) Cg) (Ah (CP (Bu ED (AD 10) AN (Bt _)) (Af (BD (CM #v[AD 6,AD 7,CY #v[Bi,By AH (AD 2) AN,By AH (AD 2) AN,By AH (AD 2) AN,AD 5],AD 8,AD 9]))) Cg) (Ah (CP (Bu ED (AD 10) AN (Bt _)) (Af (BD (CM #v[AD 6,CY #v[Bi,By AH (AD 2) AN,By AH (AD 2) AN,By AH (AD 2) AN,AD 5],AD 9]))) Cg) (Ah (CP (Bu ED (AD 10) AN (Bt _)) (Af (BD (CM #v[AD 6,AD 7,CY #v[Bi,By AH (AD 2) AN,By AH (AD 2) AN,By AH (AD 2) AN],AD 8,AD 9]))) Cg) (Ah (BN 11 X (CY #v[Bi,By AH (AD 2) AN,By AH (AD 2) AN,By AH (AD 2) AN,AD 5])) (Ah (CP (Bu ED (AD 10) AN (Bt _)) (Af (BD (CM #v[AD 6,AD 7,AD 11]))) Cg) (Ah (CP (Bu ED (AD 10) AN (Bt _)) (Af (BD (CM #v[AD 6,AD 7,AD 11,CY #v[Bi,By AH (AD 2) AN,By AH (AD 2) AN,By AH (AD 2) AN,AD 5],AD 8,AD 9]))) Cg) (Af (BD (CM #v[AD 6,AD 7,AD 11,CY #v[Bi,By AH (AD 2) AN,By AH (AD 2) AN,By AH (AD 2) AN],AD 9]))))))))))))))))))))),?_⟩;have sz:As=16777216:=CL;show⟨(zzp rfl),rfl,_,rfl,Fw (λ_=>?_) λ_=>?_⟩;. show⟨Bm _,λl Y=>?_⟩;show Ao (o:=.lst []) Y λH1 s1 u=>?_;show k H1 l [] [] 0 s1 u .nil (Bm _) λpre h=>⟨[],Bm _,by rw[D4];show h⟩
 lk;obtain⟨n,a⟩:∃n:Int->AF,n=Al (c/7):=⟨_,rfl⟩;k_in;show⟨8,rfl,by decide,by decide,xG (lo:=0) (n:=8) (λ_=>AJ) (λx=>match x with|.int k=>.str (n k)|_=>x) (by decide) (λ_ _ _ r=>r) (λx R hx _ r=>?_) λl0 hl0=>?_⟩;. obtain⟨i,hi,rfl⟩:_:=Ax.mp hx;have hi:=OT.mp hi;show⟨(zzd rfl),c/7,0+(i:Int),rfl,by(first|lia|omega),by(first|lia|omega),by rw[<-a];show r⟩
 show Ao (o:=.lst [.str (n 0),.str (n 1),.str (n 2),.str (n 3),.str (n 4),.str (n 5),.str (n 6),.str (n 7)]) hl0 λH1 s1 u=>?_;have tb:-1000000<D/\D<1000000:=by(first|lia|omega)
 show⟨(zzd rfl),(zzp rfl),.inr ⟨by(first|lia|omega),by(first|lia|omega)⟩,?_⟩;show⟨(zzd rfl),(zzp rfl),.inr ⟨by(first|lia|omega),by(first|lia|omega)⟩,?_⟩;show⟨(zzd rfl),(zzp rfl),.inr ⟨by(first|lia|omega),by(first|lia|omega)⟩,?_⟩;show⟨_,_,AW u,Ae (j:=0) rfl,_,_,AW u,Ae (j:=6) rfl,A1 rfl,λp6 h6=>?_⟩;show Ao (o:=.tup [.str "take",.str (n 0),.str (n 6)]) h6 λH2 s2 e2=>?_;have l2:=s2 _ _ u;show⟨_,_,AW l2,Ae (j:=1) rfl,_,_,AW l2,Ae (j:=7) rfl,A1 rfl,λp7 h7=>?_⟩;show Ao (o:=.tup [.str "take",.str (n 1),.str (n 7)]) h7 λH3 s3 e3=>?_;have l3:=s3 _ _ l2;lk;obtain⟨v4,hv4,v⟩:=P4 [AB.str "count",.str "sum"] 2 rfl (by decide) (c/5);obtain⟨L,rfl,b⟩:∃L:AF,v4=.str L/\L∈G6:=by
  simp only[BY,F3,AHZ]at v;rcases v with rfl|rfl;.show⟨_,rfl,.head _⟩
  .show⟨_,rfl,.tail _ (.head _)⟩
 k_in;show⟨_,_,AW l3,Ae (j:=4) rfl,_,_,AW l3,Ae (j:=2) rfl,A1 rfl,λq4 hq4=>?_⟩;show Ao (o:=.lst [.str "count",.str "sum"]) hq4 λH4 s4 e4=>?_;show⟨(zzd rfl),(zzp rfl),_,_,AW e4,hv4,A1 rfl,λp8 h8=>?_⟩;show Ao h8 λH5 s5 N=>?_;have l5:=s5 _ _ (s4 _ _ l3);lk;obtain⟨v5,hv5,y⟩:=P4 [AB.str "least",.str "greatest"] 2 rfl (by decide) (c/3);obtain⟨B,rfl,U⟩:∃L:AF,v5=.str L/\L∈G6:=by
  simp only[BY,F3,AHZ]at y;rcases y with rfl|rfl;.show⟨_,rfl,.tail _ (.tail _ (.head _))⟩
  .show⟨_,rfl,.tail _ (.tail _ (.tail _ (.head _)))⟩
 k_in;show⟨_,_,AW l5,Ae (j:=5) rfl,_,_,AW l5,Ae (j:=2) rfl,A1 rfl,λq5 hq5=>?_⟩;show Ao (o:=.lst [.str "least",.str "greatest"]) hq5 λH6 s6 e6'=>?_;show⟨(zzd rfl),(zzp rfl),_,_,AW e6',hv5,(zzd rfl),(zzp rfl),.inr ⟨by(first|lia|omega),by(first|lia|omega)⟩,A1 rfl,λp9 h9=>?_⟩;show Ao h9 λH7 s7 I=>?_;have J:=s7 _ _ (s6 _ _ l5);have m:=s6.aa s7;have N:H7 p8=AA (.tup [.str "each",.str (n 4),.str (n 2),.str L,.int ((1+c/6%7)*D),.int (if(1+c/6%7)*D-c/42%4*D>D then(1+c/6%7)*D-c/42%4*D else D)]):=m _ _ N;have I:H7 p9=AA (.tup [.str "gap",.str (n 5),.str (n 2),.str B,.int (c/11%5*D)]):=I;have e:=(s4.aa s5).aa m;have f:=e _ _ e3;have M:=e _ _ (s3 _ _ e2);have O:=s1.aa (s2.aa (s3.aa e));have t:1<=(if(1+c/6%7)*D-c/42%4*D>D then(1+c/6%7)*D-c/42%4*D else D)/\(if(1+c/6%7)*D-c/42%4*D>D then(1+c/6%7)*D-c/42%4*D else D)<=300000/\(if(1+c/6%7)*D-c/42%4*D>D then(1+c/6%7)*D-c/42%4*D else D)<=(1+c/6%7)*D/\(1+c/6%7)*D<=4*(if(1+c/6%7)*D-c/42%4*D>D then(1+c/6%7)*D-c/42%4*D else D):=by rcases ht with rfl|rfl<;>split<;>(first|lia|omega)
 have g:0<=c/11%5*D/\c/11%5*D<=1000000000:=by rcases ht with rfl|rfl<;>(first|lia|omega)
 showλ_ _ _ _ z1=>⟨(zzp rfl),z1 [AA (.int c),AA (.int D),AA (.ref l0),AA (.int ((1+c/6%7)*D)),AA (.int (if(1+c/6%7)*D-c/42%4*D>D then(1+c/6%7)*D-c/42%4*D else D)),AA (.int (c/7%6*D)),AA (.ref p6),AA (.ref p7),AA (.ref p8),AA (.ref p9),AA (.int (c%8)),AG] _ ?_⟩;generalize(if(1+c/6%7)*D-c/42%4*D>D then(1+c/6%7)*D-c/42%4*D else D)=d at t N⊢;generalize(1+c/6%7)*D=z at t N⊢;generalize c/7%6*D=wi;generalize c/11%5*D=mo at g I;clear s1 s2 s3 s4 s5 s6 s7 m e z1;show⟨rfl,_,rfl,Fw (λ_=>?_) λ_=>?_⟩;. show⟨_,_,AW J,Ae (j:=2) rfl,_,_,AW J,Ae (j:=0) rfl,(zzd rfl),(zzp rfl),(zzd rfl),(zzp rfl),A1 rfl,λq F=>?_⟩;show Ao F λp G C=>⟨A1 rfl,λl Y=>?_⟩;show Ao Y λZ W A=>?_;have S:=G.aa W;show k Z l _ [.take (n 0) (n 6),.turn (n 2) (n 0) _ _,.each (n 4) (n 2) L _ _] (c/7) (O.aa S) A (.cons ⟨_,rfl,S _ _ M⟩ (.cons ⟨_,rfl,W _ _ C⟩ (.cons ⟨_,rfl,S _ _ N⟩ (.nil)))) (A1 rfl) (by subst a;show qO b t (by(first|lia|omega)) (by(first|lia|omega)))
 show⟨rfl,_,rfl,Fw (λ_=>?_) λ_=>?_⟩
 . show⟨_,_,AW J,Ae (j:=2) rfl,_,_,AW J,Ae (j:=0) rfl,(zzd rfl),(zzp rfl),A1 rfl,λq F=>?_⟩;show Ao F λp G C=>⟨A1 rfl,λl Y=>?_⟩;show Ao Y λZ W A=>?_;have S:=G.aa W;show k Z l _ [.take (n 0) (n 6),.only (n 2) (n 0) _ _,.gap (n 5) (n 2) B _] (c/7) (O.aa S) A (.cons ⟨_,rfl,S _ _ M⟩ (.cons ⟨_,rfl,W _ _ C⟩ (.cons ⟨_,rfl,S _ _ I⟩ (.nil)))) (A1 rfl) (by subst a;show qP U g)
 show⟨rfl,_,rfl,Fw (λ_=>?_) λ_=>?_⟩
 . show⟨_,_,AW J,Ae (j:=2) rfl,_,_,AW J,Ae (j:=0) rfl,_,_,AW J,Ae (j:=1) rfl,A1 rfl,λq F=>?_⟩;show Ao F λp G C=>⟨A1 rfl,λl Y=>?_⟩;show Ao Y λZ W A=>?_;have S:=G.aa W;show k Z l _ [.take (n 0) (n 6),.take (n 1) (n 7),.join (n 2) (n 0) (n 1) _,.each (n 4) (n 2) L _ _,.gap (n 5) (n 2) B _] (c/7) (O.aa S) A (.cons ⟨_,rfl,S _ _ M⟩ (.cons ⟨_,rfl,S _ _ f⟩ (.cons ⟨_,rfl,W _ _ C⟩ (.cons ⟨_,rfl,S _ _ N⟩ (.cons ⟨_,rfl,S _ _ I⟩ (.nil)))))) (A1 rfl) (by subst a;show qQ b U t g)
 show⟨rfl,_,rfl,Fw (λ_=>?_) λ_=>?_⟩
 . show⟨_,_,AW J,Ae (j:=2) rfl,_,_,AW J,Ae (j:=0) rfl,_,_,AW J,Ae (j:=0) rfl,A1 rfl,λq F=>?_⟩;show Ao F λp G C=>⟨A1 rfl,λl Y=>?_⟩;show Ao Y λZ W A=>?_;have S:=G.aa W;show k Z l _ [.take (n 0) (n 6),.join (n 2) (n 0) (n 0) _,.gap (n 5) (n 2) B _] (c/7) (O.aa S) A (.cons ⟨_,rfl,S _ _ M⟩ (.cons ⟨_,rfl,W _ _ C⟩ (.cons ⟨_,rfl,S _ _ I⟩ (.nil)))) (A1 rfl) (by subst a;show qR U g)
 show⟨rfl,_,rfl,Fw (λ_=>?_) λ_=>?_⟩
 . show⟨_,_,AW J,Ae (j:=2) rfl,_,_,AW J,Ae (j:=0) rfl,_,_,AW J,Ae (j:=1) rfl,A1 rfl,λq F=>?_⟩;show Ao F λp G C=>⟨A1 rfl,λl Y=>?_⟩;show Ao Y λZ W A=>?_;have S:=G.aa W;show k Z l _ [.take (n 0) (n 6),.take (n 1) (n 7),.both (n 2) (n 0) (n 1),.each (n 4) (n 2) L _ _,.gap (n 5) (n 2) B _] (c/7) (O.aa S) A (.cons ⟨_,rfl,S _ _ M⟩ (.cons ⟨_,rfl,S _ _ f⟩ (.cons ⟨_,rfl,W _ _ C⟩ (.cons ⟨_,rfl,S _ _ N⟩ (.cons ⟨_,rfl,S _ _ I⟩ (.nil)))))) (A1 rfl) (by subst a;show qS b U t g)
 show⟨_,_,AW J,Ae (j:=3) rfl,_,_,AW J,Ae (j:=1) rfl,_,_,AW J,Ae (j:=0) rfl,A1 rfl,λp11 h11=>?_⟩;show Ao h11 λHA s eA=>?_;have J:=s _ _ J;have O:=O.aa s;have M:=s _ _ M;have f:=s _ _ f;have N:=s _ _ N;have I:=s _ _ I;show⟨rfl,_,rfl,Fw (λ_=>?_) λ_=>?_⟩;. show⟨A1 rfl,λl Y=>?_⟩;show Ao Y λZ S A=>?_;show k Z l _ [.take (n 0) (n 6),.take (n 1) (n 7),.join (n 3) (n 1) (n 0) _] (c/7) (O.aa S) A (.cons ⟨_,rfl,S _ _ M⟩ (.cons ⟨_,rfl,S _ _ f⟩ (.cons ⟨_,rfl,S _ _ eA⟩ .nil))) (A1 rfl) (by subst a;show qU)
 show⟨rfl,_,rfl,Fw (λ_=>?_) λ_=>?_⟩
 . show⟨_,_,AW J,Ae (j:=2) rfl,_,_,AW J,Ae (j:=3) rfl,_,_,AW J,Ae (j:=0) rfl,A1 rfl,λq F=>?_⟩;show Ao F λp G C=>⟨A1 rfl,λl Y=>?_⟩;show Ao Y λZ W A=>?_;have S:=G.aa W;show k Z l _ [.take (n 0) (n 6),.take (n 1) (n 7),.join (n 3) (n 1) (n 0) _,.join (n 2) (n 3) (n 0) _,.each (n 4) (n 2) L _ _,.gap (n 5) (n 2) B _] (c/7) (O.aa S) A (.cons ⟨_,rfl,S _ _ M⟩ (.cons ⟨_,rfl,S _ _ f⟩ (.cons ⟨_,rfl,S _ _ eA⟩ (.cons ⟨_,rfl,W _ _ C⟩ (.cons ⟨_,rfl,S _ _ N⟩ (.cons ⟨_,rfl,S _ _ I⟩ (.nil))))))) (A1 rfl) (by subst a;show qV b U t g)
 . show⟨_,_,AW J,Ae (j:=2) rfl,_,_,AW J,Ae (j:=3) rfl,_,_,AW J,Ae (j:=0) rfl,A1 rfl,λq F=>?_⟩;show Ao F λp G C=>⟨A1 rfl,λl Y=>?_⟩;show Ao Y λZ W A=>?_;have S:=G.aa W;show k Z l _ [.take (n 0) (n 6),.take (n 1) (n 7),.join (n 3) (n 1) (n 0) _,.both (n 2) (n 3) (n 0),.gap (n 5) (n 2) B _] (c/7) (O.aa S) A (.cons ⟨_,rfl,S _ _ M⟩ (.cons ⟨_,rfl,S _ _ f⟩ (.cons ⟨_,rfl,S _ _ eA⟩ (.cons ⟨_,rfl,W _ _ C⟩ (.cons ⟨_,rfl,S _ _ I⟩ (.nil)))))) (A1 rfl) (by subst a;show qT U g)
theorem kK(A:Nat->Ap->List AB->AI->Prop)(j:z.cps.size<=As)(T:A 0 (OV O AG++M.map (Ea P)) [] H)(k:∀(i:Nat)B J C(c:Nat)(L:AB->Ap->AI->Prop),z.cps.toList[i]?=AA c->A i B J C->(∀y E W,A (i+1) E (J++[y]) W->L y E W)->g (.str ⟨#[c]⟩) B C λU W=>G U W λy F=>L y U F)(d:∀B J C,A z.cps.size B J C->∀D,C D=AG->Q (.ref D) (AR C D (.lst J))):Je O M g M9 G P Q (R5 z) H:=by
  show⟨λi m B J I=>m=z.cps.size-i/\i<=z.cps.size/\J.length<=i/\A i B J I,⟨z.cps.size,by simp,Bm _,Bm _,T⟩,?_⟩;intro i m B J I X;obtain⟨rfl,f,N,p⟩:_:=X;by_cases Y:i<z.cps.size
  . show .inr ⟨Y,Bl (HS N Y) j,λx C y=>?_⟩;obtain⟨R,c,a,S⟩:_:=y;subst R S;have e:(λ(U)(W)=>M9 U W λb K=>if b=AJ then G U K λy F=>∃Z,Z<z.cps.size-i/\Z=z.cps.size-(i+1)/\i+1<=z.cps.size/\(J++[y]).length<=i+1/\A (i+1) U (J++[y]) F else∃Z,Z<z.cps.size-i/\Z=z.cps.size-(i+1)/\i+1<=z.cps.size/\J.length<=i+1/\A (i+1) U J K)=λU W=>G U W λy F=>∃Z,Z<z.cps.size-i/\Z=z.cps.size-(i+1)/\i+1<=z.cps.size/\(J++[y]).length<=i+1/\A (i+1) U (J++[y]) F:=by funext U W;change(if AJ=AJ then(G _ W _)else∃Z,Z<z.cps.size-i/\Z=z.cps.size-(i+1)/\i+1<=z.cps.size/\J.length<=i+1/\A (i+1) U J W)=_;rw[AHT rfl]
    show k i B _ _ c _ (by simpa using a) p (λy E W h=>⟨_,JO _ _ Y,rfl,Y,by rw[Ba];show Jv.mpr N,h⟩)
  . have e:=Eb f (F4 Y);subst e;show .inl ⟨Ai _,d B _ I p⟩
def jN(ss:List AU):Prop:=ss.length<=18/\∃(c:Int)(N:List Int),N.length<=8/\D8 c ss N
def tM:BF:=λB H Q _=>(Iv λ(Y:AE)(c A:Int)(Z:List AB)(W:List AU)=>HZ (B=[.ref Y,.int c]) (H Y=AA (.lst Z)) (F9 H Z W) (W.length<=6) (J4 A W) (∀U l D J,Aj H U->U l=AA (.lst D)->F9 U D J->jN J->Q (.ref l) U))
theorem nW(T:BM AH AZ AM):T.fo.Ok BE P w AZ base 1 tM:=by
    show T.fo.ok λg _ _ _ _ _ hr H vs Q E h=>?_;obtain⟨f,c,A,B,m,rfl,V,M,l6,d,k⟩:_:=h;show⟨_,(Ah (CP (Bu Jj (Ac DA (AD 1) AN) AN (Bt _)) (Af (BD (AD 0))) Cg) (Af (BD (Ac Ff (HR (Cy rF) [] trivial (bT (Du Sy Bi Eu (DL (Ac Et AN (Ac DA (Ac Dg (AD 1) AN) AN))))) (λ_ _ _ _=>Fy) (λ_ _ _ _=>(CY #v[Bi,Ac Lv Bi (AD 0),Bi]))) (AD 0))))),?_⟩;have sz:As=16777216:=CL;show⟨(zzp rfl),rfl,_,rfl,HN (Fw (λ_=>?_) λ_=>?_)⟩
    . have b:0<=8+c/5%5/\8+c/5%5<=12:=by(first|lia|omega)
      have v:=ACU (x:="abcdefghijkl") (j:=8+c/5%5) ⟨b.1,b.2⟩;show⟨(zzd rfl),(zzp rfl),_,rfl,_,rfl,by decide,?_⟩;have r:G1 "abcdefghijkl" AG (AA (8+c/5%5))=Ti "abcdefghijkl" AG (AA (8+c/5%5)):=rfl;lk;obtain⟨t,X⟩:∃t:AF,t=G1 "abcdefghijkl" AG (AA (8+c/5%5)):=⟨_,rfl⟩;k_in;have Z:t.cps.toList.Sublist ("abcdefghijkl":AF).cps.toList:=by rw[X,r,v];show(WQ _ _).trans (ABX _ _)
      have g:t.cps.toList.Nodup:=(by decide+kernel:(("abcdefghijkl":Str).cps.toList).Nodup).sublist Z;have lt:t.cps.toList.length<=12:=Z.length_le;have lc:t.cps.size=t.cps.toList.length:=rfl;show⟨t,by rw[X],?_⟩;show kK (λi O J R=>(∃o,O=[o])/\Aj H R/\Bf (λx s=>∃a,x=.ref a/\Ed R a s) J ((t.cps.toList.take i).map Ki)) (by(first|lia|omega)) ⟨⟨AG,rfl⟩,DF _,.nil⟩ ?_ ?_
      . intro i O J S a R1 z F k1;obtain⟨⟨o,rfl⟩,s1,U⟩:_:=F;show⟨_,_,rfl,rfl,?_,A1 rfl,λp hp=>?_⟩;. change 4+1<=As;(first|lia|omega)
        have s2:=C9 (o:=.tup [.str "take",.str (("idle":AF)++⟨#[a]⟩),.str "idle"]) hp;have C:(AR S p (.tup [.str "take",.str (("idle":AF)++⟨#[a]⟩),.str "idle"])) p=AA (.tup [.str "take",.str (("idle":AF)++⟨#[a]⟩),.str "idle"]):=Ak;show k1 (.ref p) _ _ ⟨⟨_,rfl⟩,s1.aa s2,?_⟩;rw[DH,z,CQ];show EE (GN (λx s G=>by obtain⟨b,e,q⟩:=G;show⟨b,e,q.tp s2.tp⟩) U) (.cons ⟨p,rfl,C⟩ .nil)
      . intro O J S F D y;obtain⟨_,s1,U⟩:_:=F;rw[lc,LH]at U;show Ao (o:=.lst J) y λH2 s2 C=>?_;have W:=s1.aa s2;have l1:=(Cn U).1;rw[Au]at l1;have l2:=M.bh;show⟨D,f,J,B,rfl,rfl,C,W _ _ V,by(first|lia|omega),λl hl=>?_⟩;show Ao (o:=.lst (J++B)) hl λn s3 u=>?_;have Y:=W.aa s3;obtain⟨N,I,L⟩:_:=d (t.cps.toList.map Ki) (XM A g);show k n l (J++B) (t.cps.toList.map Ki++m) Y u (EE (GN (λx s G=>by obtain⟨b,e,q⟩:=G;show⟨b,e,q.tp (s2.aa s3).tp⟩) U) (M.ab Y.tp)) ⟨by rw[Ba,Au];(first|lia|omega),A,N,I,L⟩
    . obtain⟨N,I,L⟩:_:=d [] (XM A .nil);show k H f B m (DF _) V M ⟨Ag l6 (by decide),A,N,I,L⟩
theorem mW(h:FR z)(V:1<=z.length)(W:z.length<=12):F8 z:=by
 show⟨V,W,dO.mpr λv U=>?_⟩;lk;obtain⟨c,J,rfl⟩:=Ax.mp U;obtain⟨Y,Z⟩:=h c J;k_in;have D:∀r:Fin 26,Km MU (.str ⟨#[97+r.val]⟩)=AJ:=by decide+kernel
 have:=D ⟨c-97,by(first|lia|omega)⟩;rw[show 97+(⟨c-97,by(first|lia|omega)⟩:Fin 26).val=c from by change 97+(c-97)=c;(first|lia|omega)]at this;show this
theorem mD(J:0<=i)(V:i<12):∃c,Cr ("abcdefghijkl":AF).cps.toList i=AA c/\FR ⟨#[c]⟩:=by
 have D:∀c∈("abcdefghijkl":AF).cps.toList,97<=c/\c<123:=by decide+kernel
 have l:("abcdefghijkl":AF).cps.toList.length=12:=by decide+kernel
 have q:=Ae (xs:=("abcdefghijkl":AF).cps.toList) (j:=i.toNat) (v:=("abcdefghijkl":AF).cps.toList[i.toNat]'(by(first|lia|omega))) (CG _);rw[W7 J]at q;show⟨_,q,λc U=>?_⟩;have e:c=("abcdefghijkl":AF).cps.toList[i.toNat]'(by(first|lia|omega)):=by simpa using U
 rw[e];show D _ (AD1 _)
theorem m7:F8 "hand":=⟨by decide,by decide,by decide+kernel⟩
theorem kF:FR "item"/\FR "piece"/\FR "end"/\FR "clock"/\FR "hand":=by unfold FR;decide+kernel
def O7(e:CF):Prop:=XG (PK e)/\F8 e.2.2.1/\e.2.2.2.natAbs<=10^9
def sX:BF:=λZ H Q _=>(Jz λ(U:AE)(t D m j:Int)(W:List AB)(Y:List AU)=>NY (Z=[.ref U,.int t,.int D,.int (m+13*j)]) (H U=AA (.lst W)) (F9 H W Y) (Y.length<=18) (0<=t) (t<=1000000000) ((m=3\/m=12)) (0<=j) (j<=8) (∀J q e,Aj H J->Kd J q e->e.1=t->O7 e->Q (.ref q) J))
theorem nO(T:BM AH AZ AM):T.jy.Ok BE P w AZ base 1 sX:=by
    show T.jy.ok λI _ _ _ _ _ hr H vs Q E h=>?_;obtain⟨lp,t,W,m,j,ps,ss,rfl,N,pr,l18,t0,t1,hm,j0,j1,k⟩:_:=h;show⟨_,(Ah (BN 4 I (Ac DA (Ac JM (AD 2) AN) AN)) (EN (BN 5 I (Ac Ff (HR (Cy rH) [] trivial (DQ (K:=AH) (AD 0)) (λ_ _ _ _=>M6 (Hu (OM (Bu ED (BA AH (AD 0) AN) Bi (Bt _)) (ON (Bu Jj (BA AH (AD 0) AN) Bi (Bt _)))))) (λ_ _ _ _=>(BA AH (AD 0) AN))) (CM #v[Bi]))) (Ah (BN 6 I (Ac JM (Ac Hz (Ac DA (Ac Dg (AD 4) AN) AN) AN) (By AH (CM #v[AN,Ac Sm AN AN]) (Ac DA (Ac Dg (AD 4) AN) AN)))) (Ah (BN 7 I (EY SW Bi (Ac DA (Ac Dg (AD 4) AN) (Ac DA (AD 3) AN)) (λ_ _=>rfl))) (Ah (BN 8 I (Ac Lv (Ac Lv (Ac Sl Bi (Ac DA (Ac Dg (AD 3) AN) AN)) (AD 7)) (Ac Sl Bi (Ac DA (Ac Dg (AD 3) AN) AN)))) (Ah (QO (CP (Bu ED (Ac DA (AD 4) AN) AN (Bt _)) (Af (BN 8 I (By AH (CM #v[Bi,Bi,Bi,Bi,Bi]) (Ac DA (Ac Dg (AD 4) AN) AN)))) Cg)) (Af (BD (CY #v[AD 1,(By AH (AD 5) (Ac DA (AD 4) (CW (Fc (K:=AH)) (by rfl) T.cx Ez #v[AD 5]))),AD 8,AD 6]))))))))),?_⟩;have sz:As=16777216:=CL;show⟨.inr ⟨by decide,by decide⟩,(zzp rfl),?_⟩;have lps:=pr.bh;showλ_ _ _ _ z1=>⟨lp,rfl,⟨_,AW N⟩,Ms (xs:=ps) (λi y A b=>(∃o,y=[o])/\b=H/\∃Z:List AF,A=Z.map AB.str/\Z.length<=i) (by(first|lia|omega)) ⟨⟨AG,rfl⟩,rfl,[],rfl,Ai _⟩ (λi y A c F=>by obtain⟨_,rfl,_⟩:=F;show AW N) ?_ ?_⟩
    . intro i x y A c R1 R0 hx _ F k1 k0;lk;obtain⟨⟨o,rfl⟩,rfl,Z,rfl,R⟩:=F;obtain⟨a,s,rfl,es,ea⟩:=pr.at hx;obtain⟨w1,w2,_⟩:=ea.gf;k_in;have no:∀B,(∃o,B=[o])->R0 B c:=λB h=>k0 B c ⟨h,rfl,Z,rfl,Ii R⟩;show⟨_,_,w1,w2,rfl,_,rfl,Kk (i:=0) rfl (λe=>?_) λ_=>HM (no _ ⟨_,rfl⟩)⟩;cases s with
      |take n G=>
        have L:Cr ((AU.take n G).zf.map Az) 2=AA (.str G):=Ae (j:=2) rfl;show⟨_,_,w1,L,rfl,_,rfl,HN (Ji (λ_=>?_) λ_=>?_)⟩;.show no _ ⟨_,rfl⟩
        .show⟨_,_,w1,L,k1 _ _ _ ⟨⟨_,rfl⟩,rfl,Z++[G],by rw[CQ];rfl,by rw[Ba];show WX R⟩⟩|_=>cases e
    . intro y A c _ F D hD;obtain⟨_,rfl,Z,rfl,R⟩:_:=F;show Ao (o:=.lst (Z.map AB.str)) hD λH2 s2 e2=>?_;show⟨A1 rfl,λl4 h4=>?_⟩;show Ao (o:=.lst [.str "other"]) h4 λH3 s3 e3=>?_;show⟨D,l4,_,_,rfl,rfl,s3 _ _ e2,e3,by rw[Au,GP];(first|lia|omega),λl5 h5=>?_⟩;show z1 [AA (.ref lp),AA (.int t),AA (.int W),AA (.int (m+13*j)),AA (.int (W*48271%1000003)),AA (.ref l5),AG,AG,AG] _ ?_;show Ao h5 λH4 s4 g=>?_;clear z1;have g:H4 l5=AA (.lst ((Z++[("other":AF)]).map AB.str)):=by rw[CQ];show g
      have R:(Z++[("other":AF)]).length<=19:=by rw[Ba,GP];(first|lia|omega)
      have lp0:0<(Z++[("other":AF)]).length:=by rw[Ba];show WY _
      generalize Z++[("other":AF)]=kz at g R lp0;have s14:=(s2.aa s3).aa s4;generalize W*48271%1000003=C;show⟨(zzd rfl),(zzp rfl),_,_,rfl,rfl,⟨by decide,by decide,by decide⟩,A1 rfl,λl6 h6=>?_⟩;show Ao (o:=.lst [.int 1,.int 100000000]) h6 λH5 s5 e5=>?_;lk;obtain⟨v,O,U⟩:=P4 [AB.int 1,.int 100000000] 2 rfl (by decide) (C/403);obtain⟨f,rfl,hf⟩:∃f:Int,v=.int f/\1<=f/\f<=100000000:=by
        simp only[BY,F3,AHZ]at U;rcases U with rfl|rfl;.show⟨_,rfl,by decide,by decide⟩
        .show⟨_,rfl,by decide,by decide⟩
      k_in;show⟨(zzd rfl),(zzp rfl),_,_,AW e5,O,.inl ⟨by(first|lia|omega),by(first|lia|omega)⟩,?_⟩;have d:((C/31%13-6)*f).natAbs<=10^9:=by
        have h1:(C/31%13-6).natAbs<=6:=by(first|lia|omega)
        have h2:f.natAbs<=100000000:=by(first|lia|omega)
        rw[ADi];show Ag (Qb h1 h2) (by decide)
      have M:(m+13*j)%13=m:=by(first|lia|omega)
      have b7:0<=C/7%m/\C/7%m<12:=⟨UC _ (by(first|lia|omega)),MO (UB _ (by(first|lia|omega))) (by(first|lia|omega))⟩;obtain⟨ch,hch,z⟩:_:=mD b7.1 b7.2;show⟨(zzd rfl),(zzp rfl),(by rw[M];(first|lia|omega)),_,_,_,rfl,rfl,by decide+kernel,by rw[M];show hch,?_⟩;have ra:∀n:Int,0<=n->n<=2->FR (LK "a" n)/\(LK "a" n).length=n.toNat:=λn h0 h1=>by rw[show("a":AF)=⟨#[Hh 0]⟩from by decide+kernel];show Pd h0 (by(first|lia|omega))
      lk;obtain⟨r1,r2⟩:=ra ((m+13*j)/13%3) (by(first|lia|omega)) (by(first|lia|omega));obtain⟨r3,r4⟩:=ra ((m+13*j)/39%3) (by(first|lia|omega)) (by(first|lia|omega));k_in;have lk:(LK "a" ((m+13*j)/13%3)++⟨#[ch]⟩).length=((m+13*j)/13%3).toNat+1:=by rw[gD,r2];rfl
      show⟨(zzd rfl),(zzp rfl),_,_,rfl,rfl,Rg (by(first|lia|omega)) (by(first|lia|omega)) (by decide),_,_,rfl,rfl,?_,(zzd rfl),(zzp rfl),_,_,rfl,rfl,Rg (by(first|lia|omega)) (by(first|lia|omega)) (by decide),_,_,rfl,rfl,?_,?_⟩
      . rw[r2];change _+1<=As;(first|lia|omega)
      . rw[lk,r4];(first|lia|omega)
      have p:=(r1.wo z).wo r3;have kl:(LK "a" ((m+13*j)/13%3)++⟨#[ch]⟩++LK "a" ((m+13*j)/39%3)).length=((m+13*j)/13%3).toNat+1+((m+13*j)/39%3).toNat:=by rw[gD,lk,r4]
      have r:=mW p (by(first|lia|omega)) (by(first|lia|omega));show P5 (λX b=>(El λ(Y:Int)(ow J:AF)=>FT (X=[AA (.ref lp),AA (.int t),AA (.int W),AA (.int (m+13*j)),AA (.int C),AA (.ref l5),AA (.int Y),AA (.str ow),AA (.str J)]) (Y.natAbs<=10^9) (Aj H5 b) (FR J) (F8 J))) ?_ ?_
      . show⟨(zzp rfl),rfl,_,rfl,Fw (λ_=>?_) λ_=>⟨_,_,_,rfl,d,DF _,p,r⟩⟩;show⟨A1 rfl,λl7 h7=>?_⟩;show Ao (o:=.lst [.str "item",.str "piece",.str "end",.str "clock",.str "hand"]) h7 λH6 u l=>?_;lk;obtain⟨v,O,U⟩:=P4 [AB.str "item",.str "piece",.str "end",.str "clock",.str "hand"] 5 rfl (by decide) (C/17);obtain⟨J,rfl,hk1,hk2⟩:∃J:AF,v=.str J/\FR J/\F8 J:=by
          obtain⟨a1,a2,a3,a4,a5⟩:=kF;simp only[BY,F3,AHZ]at U;rcases U with rfl|rfl|rfl|rfl|rfl;.show⟨_,rfl,a1,YJ⟩
          .show⟨_,rfl,a2,YK⟩
          .show⟨_,rfl,a3,m6⟩
          .show⟨_,rfl,a4,YI⟩
          .show⟨_,rfl,a5,m7⟩
        k_in;show⟨(zzd rfl),(zzp rfl),_,_,AW l,O,_,_,J,rfl,d,u,hk1,hk2⟩
      . intro X b F;lk;obtain⟨Y,ow,J,rfl,d,u,p,r⟩:=F;have l:=u _ _ (s5 _ _ g);have S:(0:Int)<((kz.map AB.str).length:Int):=by rw[Au];(first|lia|omega)
        obtain⟨v,O,U⟩:=P4 (kz.map AB.str) _ rfl S C;obtain⟨G,_,rfl⟩:=Ax.mp U;k_in;show⟨_,.inl (AW l),S,_,_,AW l,O,A1 rfl,λq hq=>?_⟩;show Ao (o:=.tup [.int t,.str G,.str J,.int Y]) hq λH7 s7 e7=>?_;show k H7 q (t,G,J,Y) ((s14.aa s5).aa (u.aa s7)) e7 rfl ⟨⟨⟨t0,t1⟩,p,r.2.1⟩,r,d⟩
def RH(H:AI)(xs:List AB)(D:List CF):Prop:=Bf (λx e=>∃q,x=.ref q/\Kd H q e) xs D
theorem vM{lo:Int}(h:i<FL lo hi 2):lo+(i:Int)*2<hi:=by unfold FL at h;split at h<;>(first|lia|omega)
theorem ZR(h:hi<=50):FL 3 hi 2<=24:=by unfold FL;split<;>(first|lia|omega)
def sY(K:BB):BF:=λE H Q _=>(Jz λ(a Y:AE)(Z:List Int)(D J:Int)(A:List AB)(B:List AU)=>LU (E=[.ref a,.ref Y,.int D,.int J]) (CO K H a (Z.map AB.int)) (Z.length<=63) (H Y=AA (.lst A)) (F9 H A B) (B.length<=18) ((D=1\/D=40000)) ((J=0\/J=998000000)) (∀U l C W,Aj H U->H l=AG->U l=AA (.lst C)->RH U C W->W.length<=24->(∀e∈W,O7 e)->Q (.ref l) U))
theorem nP(T:BM AH AZ AM):T.jf.Ok BE P w AZ base 2 (sY AH):=by
    show T.jf.ok λnd _ _ _ _ _ hr H vs Q E h=>?_;obtain⟨a,lp,ns,tick,beg,ps,ss,rfl,hS,hl,elp,pr,l18,ht,hb,k⟩:_:=h;show⟨_,(Ah (BN 4 nd (CM Fx)) (Ah (BN 5 nd (BC (oE T) hr #v[Ac Dg (BC (YR T) hr #v[AD 0,AN]) AN])) (Ah (D3 D7 rfl (AAI (by rfl) T.gp #v[AN,(Ac Hz (CW (Zs rfl) (by rfl) T.yd eZ #v[(CW (Fc (K:=AH)) (by rfl) T.cx Ez #v[AD 0]),AN]) AN),AN]) (D2 6 nd) (Af (Dr (OH AH (AD 4) #v[BC (nO T) hr #v[AD 1,Ac Et (AD 3) (Ac JM (Ac DA (By AH (AD 0) (AD 6)) AN) (AD 2)),By AH (AD 0) (Ac Et (AD 6) AN),AD 5]])))) (Af (BD (AD 4)))))),?_⟩;have sz:As=16777216:=CL;show⟨Bm _,λl hl0=>?_⟩;show Ao (o:=.lst []) hl0 λH1 s1 e1=>?_;show⟨a,ns,1,rfl,s1.aal hS,by decide,hl,λc=>⟨(zzd rfl),c/25,rfl,λH2 m j s2 hm j0 j1=>?_⟩⟩;have s02:=s1.aa s2;have e2:=s2 _ _ e1;lk;obtain⟨hi,ehi⟩:∃hi:Int,hi=(if(51:Int)<((ns.map AB.int).length:Int)then 51 else((ns.map AB.int).length:Int))-1:=⟨_,rfl⟩;k_in;have bhi:hi<=50/\hi+1<=(ns.length:Int)/\-1<=hi:=by rw[ehi,Au];split<;>(first|lia|omega)
    show⟨_,.inl (s02.aal hS),3,hi,2,by rw[ehi],⟨by decide,by decide,by decide,by decide,by(first|lia|omega),by(first|lia|omega)⟩,?_⟩;show yB (λi σ H'=>(El λ(o6:Option AB)(xs:List AB)(es:List CF)=>HZ (σ=[AA (.ref a),AA (.ref lp),AA (.int tick),AA (.int beg),AA (.ref l),AA (.int (m+13*j)),o6]) (Aj H H') (H' l=AA (.lst xs)) (RH H' xs es) (es.length=i) (∀e∈es,O7 e))) ⟨AG,[],[],rfl,s02,e2,.nil,rfl,λe he=>by cases he⟩ (λi σ H3 hi3 hI=>?_) λσ H3 hI=>?_
    . lk;obtain⟨o6,xs,es,rfl,s3,el,er,le,eo⟩:=hI;have lt:=vM hi3;have l24:=ZR bhi.1;have lx:=(Cn er).1;have hS3:=s3.aal hS;have at':∀{k:Int},0<=k->k<(ns.length:Int)->∃x,Cr (ns.map AB.int) k=AA (.int x):=λ{k}h0 h1=>by have q:=Ae (xs:=ns.map AB.int) (j:=k.toNat) (v:=.int (ns[k.toNat]'(by(first|lia|omega)))) (by rw[Bo,CG (by(first|lia|omega))];rfl);rw[W7 h0]at q;show⟨_,q⟩
      obtain⟨x,hx⟩:=at' (k:=3+(i:Int)*2) (by(first|lia|omega)) (by(first|lia|omega));obtain⟨y,hy⟩:=at' (k:=3+(i:Int)*2+1) (by(first|lia|omega)) (by(first|lia|omega));k_in;have tm:0<=beg+x%30*tick/\beg+x%30*tick<=1000000000:=by rcases ht with rfl|rfl<;>rcases hb with rfl|rfl<;>(first|lia|omega)
      show⟨.inl ⟨rfl,_,AW el⟩,_,_,hS3,hx,(zzp rfl),.inl ⟨by(first|lia|omega),by(first|lia|omega)⟩,_,_,hS3,hy,lp,_,y,m,j,ps,ss,rfl,s3 _ _ elp,pr.ab s3.tp,l18,tm.1,tm.2,hm,j0,j1,λH4 q e s4 ev et eo4=>?_⟩;have el4:=s4 _ _ el;show⟨l,xs,.ref q,rfl,rfl,el4,by(first|lia|omega),?_⟩;have ex4:∀{b:AE}{o:Bw},H4 b=AA o->(∀ys,o≠.lst ys)->AR H4 l (.lst (xs++[.ref q])) b=AA o:=λ{b o}eb n=>by rw[Aa λz=>by rw[z,el4]at eb;show n _ (CD eb).symm];show eb
      show⟨_,xs++[.ref q],es++[e],rfl,?_,Ak,?_,by rw[Ba,le];rfl,λu hu=>?_⟩;.showλb o eb=>by rw[Aa λz=>by rw[z,hl0]at eb;cases eb];show s4 _ _ (s3 _ _ eb)
      .show EE (GN (λv u hh=>by obtain⟨b,e,qb⟩:=hh;show⟨b,e,ex4 (s4 _ _ qb) (by intro ys z;cases z)⟩) er) (.cons ⟨q,rfl,ex4 ev (by intro ys z;cases z)⟩ .nil)
      . rcases C1.mp hu with hu|hu;.show eo u hu
        . rw[Bc.mp hu];show eo4
    . obtain⟨o6,xs,es,rfl,s3,el,er,le,eo⟩:_:=hI;show k H3 l xs es s3 hl0 el er (by rw[le];show ZR bhi.1) eo
theorem Uq{xs:List AB}(J:xs.length<=9)(hw:∀v∈xs,RJ v):((xs.map Er).map (·.length)).sum+(xs.map Er).length*(" ":AF).length<=16777216:=by
 have j:=Rv (B:=60) (zs:=xs.map Er) λz W=>by obtain⟨v,U,rfl⟩:=Ax.mp W;show VI (hw v U)
 have:(xs.map Er).length*60<=9*60:=AEL _ (by rw[Au];show J);have D:(" ":AF).length=1:=rfl;rw[Au,D];rw[Au]at j this;(first|lia|omega)
theorem k4(n:Int):("end ":AF)++B6 n=ET [.str "end",.int n]:=by show Xe ?_;rw[JW];change _=(("end":AF).cps++(" ":AF).cps++(B6 n).cps).toList;rw[RB,RB];congr 1
theorem Yu:AA (Bw.lst ((z::X).map AB.str++[AB.str y]))=AA (Bw.lst ((z::(X++[y])).map AB.str)):=by rw[<-Js,CQ];rfl
theorem JB{n:Int}(h:n.natAbs<10^30):n.natAbs.log2<1920:=X7 (Bl h (ABq (by decide) (by decide)))
def sT(C:CA):BF:=λG H Q _=>(MQ λ(W:List AU)(F:FD)(E J D U:Int)(A:C3)(Z:Dp)(B:Eo)=>LU (G=[.ref F.x]) (DU C H W F E J D U A Z B) (W.length<=20) (LW W A) (Na W Z B) (J.natAbs<10^30) (D.natAbs<10^30) (U.natAbs<10^30) (∀Y r,Aj H Y->H r=AG->Y r=AA (.lst ((Fq (FV J D U) (Cw W A++DV W Z)).map AB.str))->Q (.ref r) Y))
theorem nM(T:BM AH AZ AM):T.oy.Ok BE P w AZ base 4 (sT AM):=by
    show T.oy.ok λnd _ _ _ _ _ hr H vs Q E h=>?_;obtain⟨J,F,sl,A,Z,G,Y,gg,gk,rfl,fb,lss,so,go,b1,b2,b3,k⟩:_:=h;show⟨_,(EN (BN 1 nd (CM #v[(GO (K:=AH) NN Qj Wl (Sf (K:=AH)) Bi #v[(CM #v[Bi,(EF IZ (by rfl) T.fu IB #v[Bs (Bs (AD 0) rfl) rfl]),(EF IZ (by rfl) T.fu IB #v[Bs (Bs (AD 0) rfl) rfl]),(EF IZ (by rfl) T.fu IB #v[Bs (AD 0) rfl])])])])) (EN (D3 D7 rfl (QN (by rfl) T.gp #v[(CW (Fc (K:=AH)) (by rfl) T.cx Ez #v[Bs (AD 0) rfl])]) (D2 2 nd) (Af (CP (Bu ED (BA AH (By AH (Bs (AD 0) rfl) (AD 2)) AN) Bi (Bt _)) (Af (D3 D7 rfl (QN (by rfl) T.gp #v[AN]) (D2 3 nd) (Af (D3 D7 rfl (DQ (K:=AH) (Pb (By AH (Bs (Jl hr.u1 (Bs (AD 0) rfl) (AD 2) (λ_ _=>rfl)) rfl) (AD 3)) T.cg (Yb T) hr)) (D2 4 nd) (Af (Dr (OH AH (AD 1) #v[(GO (K:=AH) NN Qj Wl (Sf (K:=AH)) Bi #v[(CM #v[Bi,(EF IZ (by rfl) T.fu IB #v[AD 2]),(EF IZ (by rfl) T.fu IB #v[AD 3]),BA AH (AD 4) AN,(EF IZ (by rfl) T.fu IB #v[BA AH (AD 4) AN]),(EF IZ (by rfl) T.fu IB #v[BA AH (AD 4) AN])])])]))))))) Cg))) (EN (D3 D7 rfl (QN (by rfl) T.gp #v[(CW (Fc (K:=AH)) (by rfl) T.cx Ez #v[Bs (AD 0) rfl])]) (D2 2 nd) (Af (CP (Bu (Sk (K:=AH)) (BA AH (By AH (Bs (AD 0) rfl) (AD 2)) AN) (CY #v[Bi,Bi]) (by with_unfolding_all rfl)) (Af (D3 D7 rfl (DQ (K:=AH) (Pb (Jl hr.u1 (Bs (AD 0) rfl) (AD 2) (λ_ _=>rfl)) T.ba (Yd T) hr)) (D2 4 nd) (Ah (BN 5 nd (CM #v[Bi,(EF IZ (by rfl) T.fu IB #v[AD 2]),BA AH (AD 4) AN,(EF IZ (by rfl) T.fu IB #v[BA AH (AD 4) AN]),(EF IZ (by rfl) T.fu IB #v[BA AH (AD 4) AN])])) (Af (Dr (OH AH (AD 1) #v[(GO (K:=AH) NN Qj Wl (Sf (K:=AH)) Bi #v[(Ac Ff (AD 5) (HR (Cy rG) [] trivial (AAJ (K:=AH) (BA AH (AD 4) AN)) (λ_ _ _ _=>Fy) (λ_ _ _ _=>(EF IZ (by rfl) T.fu IB #v[AD 0]))))])])))))) Cg))) (Af (BD (Ac Ff (AD 1) (CM #v[(Ac Lv Bi (EF IZ (by rfl) T.fu IB #v[(CW (Fc (K:=AH)) (by rfl) T.cx Ez #v[AD 1])]))]))))))),?_⟩;have sz:As=16777216:=CL;lk;obtain⟨dx,eo⟩:=fb.bb;obtain⟨dc,ec⟩:=fb.dv;k_in;have tn:∀n:Int,MK (Ww n)=B6 n:=vO;showλ_ _ _ _ z1=>⟨rfl,_,⟨eo,T.ah,T.bc,rfl⟩,_,⟨ec,T.aw,T.bp,rfl⟩,A,rfl,JB b1,_,⟨eo,T.ah,T.bc,rfl⟩,_,⟨ec,T.aw,T.cn,rfl⟩,Z,rfl,JB b2,_,⟨eo,T.ah,T.cq,rfl⟩,G,rfl,JB b3,A1 rfl,λp hp=>?_⟩;show Ao hp λH1 s1 e1=>?_;rw[tn,tn,tn]at e1;show⟨" ",p,[AB.str "clock",.int A,.int Z,.int G].map Er,rfl,rfl,AW e1,Uq (A1 rfl) ?_,A1 rfl,λl hl=>z1 [AA (.ref F.x),AA (.ref l),AG,AG,AG,AG] _ ?_⟩
    . intro v hv;simp only[BY,F3,AHZ]at hv;rcases hv with rfl|rfl|rfl|rfl;.show .inr ⟨_,rfl,by decide⟩
      .show .inl ⟨_,rfl,b1⟩
      .show .inl ⟨_,rfl,b2⟩
      .show .inl ⟨_,rfl,b3⟩
    show Ao (o:=.lst [.str (FV A Z G)]) hl λH2 s2 e2=>?_;have s02:=s1.aa s2;have el:H l=AG:=s1.az hl;clear e1 s1 hl z1;have plL:=fb.ig.bh;showλ_ _ _ _ z2=>⟨_,⟨s02 _ _ eo,T.ah,T.dm,rfl⟩,_,.inl (AW (s02 _ _ fb.ji)),_,rfl,by(first|lia|omega),by(first|lia|omega),?_⟩;rw[W6,plL];show QA (λn I X=>(Iv λ(o2 c U W:Option AB)(B:List AF)=>FT (I=[AA (.ref F.x),AA (.ref l),o2,c,U,W]) (Aj H X) (X l=AA (.lst ((FV A Z G::B).map AB.str))) (B=((Ei n).filter (IP J)).flatMap (λt=>Kj Y t 2)) (B.length<=40000*n))) ⟨AG,AG,AG,AG,[],rfl,s02,e2,rfl,Ai _⟩ (λn I H3 hn O=>?_) λI H3 O=>?_
    . obtain⟨o2,c,U,W,B,rfl,s3,el3,s,lB⟩:_:=O;rw[W8];have s3':=fb.ig.ab s3.tp;lk;obtain⟨x,ex⟩:∃x,F.ps[n]?=AA x:=⟨_,CG (by(first|lia|omega))⟩;obtain⟨a,st,rfl,est,ea⟩:=s3'.at ex;obtain⟨w1,w2,_⟩:=ea.gf;k_in;have rng:∀b,IP J n=b->(Ei (n+1)).filter (IP J)=(Ei n).filter (IP J)++if b=AJ then[n]else[]:=λb e=>by rw[TU,F0,F1,e];rfl
      show⟨_,⟨s3 _ _ eo,T.ah,T.dm,rfl⟩,_,_,AW (s3 _ _ fb.ji),Ae ex,_,_,w1,w2,rfl,_,rfl,Kk (i:=4) rfl (λe=>?_) λe=>?_⟩
      . have j1:IP J n=AJ:=by unfold IP;rw[est];show AHV e
        have ht:C7 J n:=RT.mp j1;lk;obtain⟨nn,a',b',wi,eJ⟩:=id ht;have t20:n<100:=by(first|lia|omega)
        obtain⟨vj,jj⟩:=fb.bz.dq n nn a' b' wi eJ;k_in;show⟨2,rfl,by decide,by decide,?_⟩;show QA (n:=2) (λm I X=>(JS λ(c U W:Option AB)(C:List AF)=>FT (I=[AA (.ref F.x),AA (.ref l),AA (.int (n:Int)),c,U,W]) (Aj H X) (X l=AA (.lst ((FV A Z G::C).map AB.str))) (C=B++Kj Y n m) (C.length<=40000*n+20000*m))) ⟨c,U,W,B,rfl,s3,el3,(D4 _).symm,lB⟩ (λm I H4 hm O=>?_) λI H4 O=>?_
        . obtain⟨c,U,W,C,rfl,s4,M,eC,lC⟩:_:=O;rw[W8];lk;obtain⟨S,d,eS,sr0⟩:=jj.acf (L:=Y n) hm;have sr:=sr0.ak s4;obtain⟨dxs,exs⟩:=sr.bb;obtain⟨dxj,exj⟩:=(jj.ak s4).bb;obtain⟨lL,hL⟩:=so n ht m hm;k_in;have dg:=JI (k:=Cd (n:Int)) (s4 _ _ fb.ft);rw[vj]at dg;show⟨_,⟨s4 _ _ eo,T.ah,T.df,rfl⟩,F.dj,_,rfl,dg,_,⟨exj,T.cv,T.cj,rfl⟩,_,_,AW (s4 _ _ jj.ay),Ae eS,S,dxs,_,rfl,exs,by rfl,[],S,d,EA m (Y n),rfl,sr,lL,λH5 r xs kss s5 hr5 er5 w5 sd5 pm5=>?_⟩;obtain⟨ek,pI⟩:=ZH sd5 pm5;have lI:(EB (EA m (Y n))).length<=20000:=by rw[pI.length_eq];show lL
          have pa:=Cn w5;have lx:xs.length=(EB (EA m (Y n))).length:=by rw[pa.1,ek,Au]
          have s05:=s4.aa s5;have u:=s5 _ _ M;have nrl:r≠l:=λz=>by rw[z,M]at hr5;cases hr5
          show⟨r,rfl,⟨_,AW er5⟩,HK (K:=AH) (xs:=xs) (λq I X=>Eg (λ(U W:Option AB)=>I=[AA (.ref F.x),AA (.ref l),AA (.int (n:Int)),AA (.int (m:Int)),U,W]) (λ_ _=>Bj l H5 X) (λ_ _=>X l=AA (.lst ((FV A Z G::(C++(Fp Y n m).take q)).map AB.str)))) ⟨U,W,rfl,λb o _ e=>e,by rw[d9,D4];show u⟩ (λq I X _ hh=>by obtain⟨_,_,_,s',_⟩:=hh;show AW (s' _ _ nrl er5)) (λq y I H6 hy O=>?_) λI H6 O=>?_⟩
          . lk;obtain⟨U,W,rfl,s6,N⟩:=O;have hq:=(BU.mp hy).1;rw[lx]at hq;obtain⟨i,ei⟩:∃i:AO,(EB (EA m (Y n)))[q]?=AA i:=⟨_,CG hq⟩;obtain⟨a,rfl,ea⟩:=pa.2 q y (GZ i) hy (by rw[ek,Bo,ei];rfl);k_in;have io:=hL i (pI.mem_iff.mp (Cp ei));have wn:=Ra t20 hm io;have nal:a≠l:=λz=>by rw[z,u]at ea;cases ea
            have ea6:=s6 _ _ nal ea;show⟨.inl ⟨rfl,_,AW N⟩,rfl,_,rfl,JB (by(first|lia|omega)),_,rfl,JB (by(first|lia|omega)),_,_,Aq ea6,Ae (j:=0) rfl,_,_,Aq ea6,Ae (j:=1) rfl,_,rfl,JB (by have:=io.2;(first|lia|omega)),_,_,Aq ea6,Ae (j:=2) rfl,_,rfl,JB io.2.2.2,A1 rfl,λp hp=>?_⟩;show Ao hp λH7 s7 ep=>?_;rw[tn,tn,tn,tn]at ep;have f:=s7 _ _ N;show⟨" ",p,(Ja n m i).map Er,rfl,rfl,AW ep,Uq (A1 rfl) λv hv=>(wn v hv).wy,l,_,.str (ET (Ja n m i)),rfl,rfl,f,?_,_,_,rfl,λb o nb eb=>?_,?_⟩
            . rw[Au,Ex,Ba,EH];(first|lia|omega)
            . rw[Aa nb];show s7 _ _ (s6 _ _ nb eb)
            . have eT:C++(Fp Y n m).take (q+1)=C++(Fp Y n m).take q++[ET (Ja n m i)]:=by unfold Fp;rw[DH,Bo,ei,<-Dh];rfl
              rw[Ak,eT];show Yu
          . obtain⟨U,W,rfl,s6,N⟩:_:=O;have lS:(Fp Y n m).length=xs.length:=by unfold Fp;rw[Au,lx]
            rw[<-lS,LH]at N;show⟨_,_,_,C++Fp Y n m,rfl,λb o eb=>s6 _ _ (λz=>by rw[z,el]at eb;cases eb) (s05 _ _ eb),N,by rw[eC,Nk,Dh],by rw[Ba];(first|lia|omega)⟩
        . obtain⟨c,U,W,C,rfl,s4,M,eC,lC⟩:_:=O;show⟨_,_,_,_,C,rfl,s4,M,?_,by(first|lia|omega)⟩;rw[rng _ j1,LD,<-s,eC];change _=B++dU _ [n];rw[TM]
      . have j0:IP J n=AQ:=by unfold IP;rw[est];show AHW e
        show⟨_,_,_,_,B,rfl,s3,el3,by rw[rng _ j0,s,LD];show(D4 _).symm,by(first|lia|omega)⟩
    . obtain⟨o2,c,U,W,B,rfl,s3,el3,s,lB⟩:_:=O;have s:B=Cw J Y:=s;subst s;have lB:(Cw J Y).length<=800000:=by(first|lia|omega)
      show z2 [AA (.ref F.x),AA (.ref l),o2,c,U,W] _ ?_;clear z2;showλ_ _ _ _ z3=>⟨_,⟨s3 _ _ eo,T.ah,T.dm,rfl⟩,_,.inl (AW (s3 _ _ fb.ji)),_,rfl,by(first|lia|omega),by(first|lia|omega),?_⟩;rw[W6,plL];show QA (λn I X=>(Iv λ(o2 c U W:Option AB)(B:List AF)=>FT (I=[AA (.ref F.x),AA (.ref l),o2,c,U,W]) (Aj H X) (X l=AA (.lst ((FV A Z G::(Cw J Y++B)).map AB.str))) (B=((Ei n).filter (HI J)).flatMap (Ga gg)) (B.length<=100000*n))) ⟨o2,c,U,W,[],rfl,s3,by rw[D4];show el3,rfl,Ai _⟩ (λn I H4 hn O=>?_) λI H4 O=>?_
      . obtain⟨o2,c,U,W,B,rfl,s4,M,s,lB'⟩:_:=O;rw[W8];lk;obtain⟨x,ex⟩:∃x,F.ps[n]?=AA x:=⟨_,CG (by(first|lia|omega))⟩;obtain⟨a,st,rfl,est,ea⟩:=(fb.ig.ab s4.tp).at ex;obtain⟨w1,w2,_⟩:=ea.gf;k_in;have rng:∀b,HI J n=b->(Ei (n+1)).filter (HI J)=(Ei n).filter (HI J)++if b=AJ then[n]else[]:=λb e=>by rw[TU,F0,F1,e];rfl
        have et:HI J n=st.cu:=by unfold HI;rw[est]
        show⟨_,⟨s4 _ _ eo,T.ah,T.dm,rfl⟩,_,_,AW (s4 _ _ fb.ji),Ae ex,_,_,w1,w2,A1 rfl,λpt hpt=>?_⟩;show Ao (o:=.tup MY) hpt λH5 s5 ept=>?_;have s45:=s4.aa s5;have u:=s5 _ _ M;show⟨pt,MY,rfl,.inr (Aq ept),rfl,rfl,_,rfl,Jh (λq=>?_) λq=>?_⟩
        . have q:EX (.str st.gf) MY=AJ:=q;rw[VH]at q;have ht:n∈An J:=Hm.mpr ⟨st,est,q⟩;lk;obtain⟨lg1,lw,lg2,pok⟩:=go n ht;obtain⟨st',es,vj,g⟩:=(fb.au.ak s45).ie n ht;obtain⟨dxg,exg⟩:=g.bb;k_in;have dgt:=JI (k:=Cd (n:Int)) (s45 _ _ fb.fq);rw[vj]at dgt;show⟨_,⟨s45 _ _ eo,T.ah,T.cp,rfl⟩,F.dg,_,rfl,dgt,(F.gd n).x,dxg,_,rfl,exg,by rfl,[],(F.gd n).x,(F.gd n).p,(F.gd n).d,st',gg n,gk n,rfl,g,lg1,(λz=>(lg2 z).2),λH6 r ys ks s6 hr6 er6 pk6 ps6 kn6 km6 lk6=>⟨r,rfl,⟨_,AW er6⟩,?_⟩⟩;obtain⟨ew,wm⟩:=VF (λz=>(lg2 z).1) ps6 kn6 km6;rw[ew]at pk6;have pa:=Cn pk6;have N:=s6 _ _ u;have nrl:r≠l:=λz=>by rw[z,u]at hr6;cases hr6
          have lP:(Ga gg n).length=ys.length:=by unfold Ga;rw[Au,pa.1]
          have ly:=pa.1;show HK (K:=AH) (xs:=ys) (λq I X=>Eg (λ(U W:Option AB)=>I=[AA (.ref F.x),AA (.ref l),AA (.int (n:Int)),c,U,W]) (λ_ _=>Bj l H6 X) (λ_ _=>X l=AA (.lst ((FV A Z G::(Cw J Y++B++(Ga gg n).take q)).map AB.str)))) ⟨U,W,rfl,λb o _ e=>e,by rw[d9,D4];show N⟩ (λq I X _ hh=>by obtain⟨_,_,_,s',_⟩:=hh;show AW (s' _ _ nrl er6)) (λq y I H7 hy O=>?_) λI H7 O=>?_
          . lk;obtain⟨U,W,rfl,s7,f⟩:=O;have hq:=(BU.mp hy).1;rw[pa.1]at hq;obtain⟨m,em⟩:∃m:AF×AV,(Kt (gg n))[q]?=AA m:=⟨_,CG hq⟩;obtain⟨a,q',rfl,ea,eq'⟩:=pa.2 q y m hy em;have po:=pok m ((wm m).mp (Cp em));have wn:=Rm (t:=n) (by(first|lia|omega)) po;have p2:=po.2;simp only[ADw,F3,false_implies,implies_true,and_true]at p2;obtain⟨c1,c2,c3,c4,c5,c6⟩:=p2;k_in;have nal:a≠l:=λz=>by rw[z,N]at ea;cases ea
            have eq':H6 q'=AA (.tup [.int m.2.2.2.1,.int m.2.2.2.2.1,.int m.2.2.2.2.2.1,.int m.2.2.2.2.2.2]):=eq';have nql:q'≠l:=λz=>by rw[z,N]at eq';cases eq'
            have ea7:=s7 _ _ nal ea;have eq7:=s7 _ _ nql eq';show⟨_,rfl,JB (by(first|lia|omega)),_,_,Aq ea7,Ae (j:=0) rfl,_,_,Aq ea7,Ae (j:=1) rfl,_,rfl,JB c1,_,_,Aq ea7,Ae (j:=2) rfl,_,rfl,JB c2,A1 rfl,λp hp=>?_⟩;show Ao hp λH8 s8 ep=>?_;rw[tn,tn,tn]at ep;have eq8:=s8 _ _ eq7;show⟨.inl ⟨rfl,_,AW (s8 _ _ f)⟩,rfl,_,_,Aq (s8 _ _ ea7),Ae (j:=3) rfl,q',rfl,⟨_,Aq eq8⟩,xI (λ_=>AJ) (λx=>.str (Er x)) (Aq eq8) (A1 rfl) (λ_ _ _ r=>r) (λx R hx _ rr=>?_) λD hD=>?_⟩
            . simp only[BY,F3,AHZ]at hx;have g:∀n:Int,n.natAbs<10^30->R (.str (Er (.int n))) H8->V6 (λxs H Q=>∃i:Int,xs=[AB.int i]/\i.natAbs.log2<1920/\Q (AB.str (MK (Ww i))) H) (L3 (LA 0) L4) [AA (.int n)] H8 R:=λn hn rr=>⟨n,rfl,JB hn,by rw[tn];show rr⟩;rcases hx with rfl|rfl|rfl|rfl;.show g _ c3 rr
              .show g _ c4 rr
              .show g _ c5 rr
              .show g _ c6 rr
            show Ao (o:=.lst [.str (B6 m.2.2.2.1),.str (B6 m.2.2.2.2.1),.str (B6 m.2.2.2.2.2.1),.str (B6 m.2.2.2.2.2.2)]) hD λH9 s9 eD=>?_;show⟨p,D,_,_,rfl,rfl,s9 _ _ ep,eD,A1 rfl,λp2 hp2=>?_⟩;show Ao (o:=.lst (((JF n m).map Er).map AB.str)) hp2 λHA sA ep2=>?_;have s7A:=(s8.aa s9).aa sA;have elA:=s7A _ _ f;show⟨" ",p2,(JF n m).map Er,rfl,rfl,AW ep2,Uq (A1 rfl) λv hv=>(wn v hv).wy,l,_,.str (ET (JF n m)),rfl,rfl,elA,?_,_,_,rfl,λb o nb eb=>?_,?_⟩;. rw[Au,Ex,Ba,Ba,EH];(first|lia|omega)
            . rw[Aa nb];show s7A _ _ (s7 _ _ nb eb)
            . have eT:Cw J Y++B++(Ga gg n).take (q+1)=Cw J Y++B++(Ga gg n).take q++[ET (JF n m)]:=by unfold Ga;rw[DH,Bo,em,<-Dh];rfl
              rw[Ak,eT];show Yu
          . obtain⟨U,W,rfl,s7,f⟩:_:=O;rw[<-lP,LH,Dh]at f;show⟨_,_,_,_,B++Ga gg n,rfl,λb o eb=>s7 _ _ (λz=>by rw[z,el]at eb;cases eb) (s6 _ _ (s45 _ _ eb)),f,?_,by rw[Ba];(first|lia|omega)⟩;rw[rng _ (et.trans q),LD,<-s];change _=B++dU _ [n];rw[TM]
        . have q:EX (.str st.gf) MY=AQ:=q;rw[VH]at q;show⟨_,_,_,_,B,rfl,s45,u,by rw[rng _ (et.trans q),s,LD];show(D4 _).symm,by(first|lia|omega)⟩
      . obtain⟨o2,c,U,W,B,rfl,s4,M,s,lB'⟩:_:=O;have s:B=DV J gg:=s;subst s;show z3 [AA (.ref F.x),AA (.ref l),o2,c,U,W] _ ?_;clear z3;have ll:((FV A Z G::(Cw J Y++DV J gg)).map AB.str).length=(Cw J Y++DV J gg).length+1:=by rw[Au,Ex]
        have la:(Cw J Y++DV J gg).length<=2800000:=by rw[Ba];(first|lia|omega)
        show⟨_,.inl (AW M),_,rfl,JB (by rw[ll];(first|lia|omega)),_,_,rfl,rfl,?_,A1 rfl,λq hq=>?_⟩;. rw[tn];have h4:=Ri (n:=(((FV A Z G::(Cw J Y++DV J gg)).map AB.str).length:Int)) (by rw[ll];(first|lia|omega));change 4+_<=As;(first|lia|omega)
        show Ao hq λH5 s5 eq=>?_;rw[tn,k4]at eq;show⟨l,q,_,_,rfl,rfl,s5 _ _ M,eq,by rw[ll,GP];(first|lia|omega),λr hr=>k _ r ((s4.aa s5).dz hr) ((s4.aa s5).az hr) ?_⟩;rw[Ak,ll,Fq,CQ];rfl
theorem Hg.acx{kvs:List (AL×AB)}{ks:List AF}(h:Hg ex H d (FH s now l) kvs)(Z:∀x∈l,x.2.1∈ks):kvs.length<=ks.length:=by
 have J:=PX h.nd (m:=ks.map Br) λk Y=>by
  obtain⟨q,A,rfl⟩:=Ax.mp Y;obtain⟨D,r,C,rfl,_,_,U,B⟩:=h.qc q A;show Ax.mpr ⟨D,RD λn=>B ?_,rfl⟩;have e:FH s now l D=[]:=by unfold FH FG;rw[LC.mpr λi W q=>n (by rw[<-(AHX q:i.2.1=D)];show Z i W)];rfl
  rw[e]at U;cases U;rfl
 rw[Au,Au]at J;show J
theorem Fm.rl(h:Fm evs)(D:DI ss)(U:IJ J ss){i:Nat}(Y:ss[i]?=AA s)(Z:a∈s.bx):MT 27 evs (J a) (CV ss evs a):=by obtain⟨A,B,_,V,W,_⟩:_:=D.rl i s a Y Z;have:=h.lb D U V;rw[W]at this;show this
theorem Fm.aei(h:Fm evs)(V:DI ss)(D:IJ U ss){i:Nat}(J:ss[i]?=AA s):Nf s (CV ss evs):=by show⟨(h.yq (D.hi _) (h.lb V D J)).1,λn a b B e=>?_⟩;subst e;have Z:=(h.rl V D J (a:=a) (.head _)).bh;have A:=(h.rl V D J (a:=b) (.tail _ (.head _))).bh;have W:=Qb Z A;rw[<-AEO]at W;have Y:U a+U b<=U n:=D.st _ (Cp J);show Ag W (Ag (IS (y:=3) (by decide) (Ag Y (D.hi n))) (by decide))
section
variable{ss:List AU}{evs:List CF}{ad:CA}{H:AI}{F:FD}{sl now cnt num:Int}{sd:C3}{gk:Eo}
structure Hc(ad:CA)(H:AI)(ss:List AU)(F:FD)(sl now cnt num:Int)(sd:C3)(gk:Eo)(evs:List CF):Prop where
 fr:MS ad H ss F sl now cnt num sd gk (CV ss evs)s0:0<=sl
 n0:0<=now
 n1:now<=1000000000
 c0:0<=cnt
 m0:0<=num
 m1:num<=14400000*cnt
end
theorem Hc.acv(f:Hc G H ss F L now W C sd A evs)(h:Fm evs)(V:DI ss)(Y:IJ I ss)(U:t∈An ss):(A t).length<=27:=by lk;obtain⟨s,J,_,g⟩:=f.fr.ag.au.ie t U;obtain⟨K,D,E⟩:=Hm.mp U;rw[J]at D;cases D;have r:=g.ao;rw[Kr J]at r;obtain⟨_,_,Z⟩:=V.dw J E;k_in;have b:=h.rl V Y J (a:=s.fd) (by rw[Z];show .head _);have l:=r.acx (ks:=evs.map (λe:CF=>e.2.2.1)) λx B=>(b.it x B).2.1;rw[Au]at l;show Ag l h.bh
theorem Hc.acj(f:Hc Y H ss F B now J W sd A evs)(h:Fm evs)(D:DI ss)(U:IJ Z ss)(V:t∈An ss)(z:AF):De (FX ss now (CV ss evs) t z)/\(FX ss now (CV ss evs) t z).length<=3000:=by have:=(h.aee D U).wx D (λ_=>AJ) now V z;rw[k8]at this;show this
theorem Hc.ace{K:Eo}(f:Hc G H ss F M now W A sd K evs)(h:Fm evs)(B:DI ss)(D:IJ I ss):LW ss sd:=λt⟨n,a,b,V,e⟩m L=>by
 obtain⟨C,E⟩:=f.fr.ay t n a b V e;have J:∀{x:AF}{l:List AO},x∈[a,b]->l.Perm (CH (now-V) (CV ss evs x))->l.length<=20000/\∀i∈l,Nb i:=λ{x l}Z p=>by have U:=h.rl B D e (a:=x) Z;show⟨by rw[p.length_eq];show Ag (Ph _ _) (h.yq (D.hi _) U).1,λi Y=>h.adv (D.hi _) U ?_⟩;show(EJ.mp (p.mem_iff.mp Y)).1
 rcases(by(first|lia|omega):m=0\/m=1)with rfl|rfl;.show J (.head _) C
 .show J (.tail _ (.head _)) E
theorem Hc.adi(f:Hc C H ss F G now Z A sd V evs)(h:Fm evs)(U:DI ss)(J:IJ E ss):Na ss (FX ss now (CV ss evs)) V/\∃ks:Nat->List AF,UN ss sd (FX ss now (CV ss evs)) ks/\∀t∈An ss,(ks t).length=(V t).length:=by
 have w:∀t,∃ks,t∈An ss->MZ (FX ss now (CV ss evs) t) ks/\ks.length=(V t).length:=λt=>by
  by_cases D:t∈An ss
  . obtain⟨_,_,_,g⟩:=f.fr.ag.au.ie t D;obtain⟨ks,q⟩:=g.ao.wk λz=>(f.acj h U J D z).1;show⟨ks,λ_=>q⟩
  .show⟨[],λq=>absurd q D⟩
 obtain⟨ks,w⟩:=AGP w;show⟨λt D=>?_,ks,⟨f.ace h U J,λt D=>?_⟩,λt D=>(w t D).2⟩
 . obtain⟨Y,B⟩:=w t D;have W:=f.acv h U J D;show⟨by(first|lia|omega),?_,f.acj h U J D,h.zl U J now D⟩;rw[<-Y.e];have:=R4 (g:=FX ss now (CV ss evs) t) (n:=3000) (λz=>(f.acj h U J D z).2) (ks t);(first|lia|omega)
 . obtain⟨Y,B⟩:=w t D;have W:=f.acv h U J D;show⟨Y,by(first|lia|omega),f.acj h U J D,h.zl U J now D⟩
theorem Fm.hL(h:Fm (evs++[e]))(J:DI ss)(U:IJ V ss):∀(i:Nat)s,ss[i]?=AA s->s.cu=AQ->CV ss evs s.nm=FF s (CV ss evs) evs/\CV ss (evs++[e]) s.nm=FF s (CV ss (evs++[e])) (evs++[e])/\Nf s (CV ss (evs++[e])):=λi s D _=>⟨UP J D,UP J D,h.aei J U D⟩
theorem Fm.abn(h:Fm evs)(U:DI ss)(D:IJ V ss):∀(i:Nat)s,ss[i]?=AA s->s.cu=AQ->Hd (CV ss evs s.nm):=λi s J _=>(h.yq (D.hi _) (h.lb U D J)).2
theorem Hc.acy(f:Hc U H ss F W now D J sd V evs)(Y:MS U H' ss F W now (D+1) J sd V (CV ss evs)):Hc U H' ss F W now (D+1) J sd V evs:=by have Z:=f.c0;have A:=f.m1;show⟨Y,f.s0,f.n0,f.n1,by(first|lia|omega),f.m0,by(first|lia|omega)⟩
theorem Hc.abx{D now J V:Int}{k:Nat}(f:Hc Y H ss F D now J V sd I evs)(N:0<=e.1/\e.1<=1000000000)(K:k<=14400000)(A:MS Y H' ss F D (Gq now D e.1) (J+1) (V+(k:Int)) W U (CV ss (evs++[e]))):Hc Y H' ss F D (Gq now D e.1) (J+1) (V+(k:Int)) W U (evs++[e]):=by
 have G:=f.c0;have L:=f.m0;have M:=f.m1;have E:=f.s0;have B:=f.n0;have C:=f.n1;have Z:0<=Gq now D e.1/\Gq now D e.1<=1000000000:=by
  unfold Gq JC;split;.show⟨B,C⟩
  .split<;>(first|lia|omega)
 show⟨A,E,Z.1,Z.2,by(first|lia|omega),by(first|lia|omega),by(first|lia|omega)⟩
theorem lT(h:∀t,C7 ss t->D t=(EB (sd t).1,EB (sd t).2)):Cw ss D=Cw ss sd:=by
 unfold Cw;rw[ADv,ADv];congr 1;show OS λt U=>?_;have e:=h t (RX.mp U);have J:∀m,m<2->Fp D t m=Fp sd t m:=λm V=>by
  have q:EB (EA m (D t))=EB (EA m (sd t)):=by
   rw[e];rcases(by(first|lia|omega):m=0\/m=1)with rfl|rfl;.show ZI (La (sd t).1)
   .show ZI (La (sd t).2)
  unfold Fp;rw[q]
 rw[Nk,Nk,Nk,Nk,J 0 (by decide),J 1 (by decide)];rfl
theorem LW.acg(o:LW ss sd)(h:∀t,C7 ss t->D t=(EB (sd t).1,EB (sd t).2)):LW ss D:=λt J m V=>by
 have q:=o t J m V;have p:(EA m (D t)).Perm (EA m (sd t)):=by
  rw[h t J];rcases(by(first|lia|omega):m=0\/m=1)with rfl|rfl;.show La (sd t).1
  .show La (sd t).2
 show⟨by rw[p.length_eq];show q.1,λi U=>q.2 i (p.mem_iff.mp U)⟩
theorem VE(zs:List AF):MV H (zs.map AB.str):=λv D=>.inl λa z=>by obtain⟨s,_,rfl⟩:=Ax.mp D;cases z
theorem kQ(xs:List AB):(Fe xs AG (AA 3)).length<=3/\∀y∈Fe xs AG (AA 3),y∈xs:=by
  show⟨?_,λy D=>?_⟩
  . rcases OY xs.length 3 with h|h;.show Ag (Vd xs _ _) (Bz h)
    . have e:Fe xs AG (AA ((3:Nat):Int))=xs.take 3:=RP xs 3 h;change(Fe xs AG (AA ((3:Nat):Int))).length<=3;rw[e,EH];(first|lia|omega)
  . unfold Fe at D;show QW (QX D)
theorem Ys(h:F9 H D ss):MV H D:=λv Y=>by lk;obtain⟨i,W,e⟩:=Gz.mp Y;obtain⟨a,s,J,_,U⟩:=h.at (by rw[CG W,e]);k_in;show .inr ⟨a,_,J,U,λi z=>by cases s<;>cases z⟩
theorem FC.gc(c:FC AM [] H ss A sd J U)(D:Yn ss A b):∃o,H b=AA o:=by
 rcases D with D|rfl|rfl;. obtain⟨V,e⟩:=c.abr D;show⟨_,e⟩
 .show⟨_,c.ft⟩
 .show⟨_,c.fq⟩
theorem DU.gc(c:DU AM H ss F Y now J U sd V W)(D:Kf ss F b):∃o,H b=AA o:=by
 rcases D with(rfl|rfl|D)|D;. obtain⟨_,e⟩:=c.bb;show⟨_,e⟩
 . obtain⟨_,e⟩:=c.dv;show⟨_,e⟩
 .show c.toFC.gc (.inl D)
 .show c.toFC.gc (.inr D)
theorem oC(T:BM AH AZ AM):Gr P w AH AZ base BE PH AM.vf AM.xj ["_law_script"] (Nt AH):=by
    have D:=YR (P:=P) (w:=w) (base:=base) T;have L:=oO (P:=P) (w:=w) (base:=base) T;have J:=pJ (P:=P) (w:=w) (base:=base) T;show T.aaf.ok ZD (λ_ _ _ _ h=>by obtain⟨a,ns,rfl,_⟩:=h;rfl) λcdv A outer s H vs Q E R h=>?_;obtain⟨a,ns,rfl,hS,hl,k⟩:_:=h;have nd:=(ZD).nd;show⟨_,(Ah (BN 1 nd (BC D R #v[AD 0,AN])) (Ah (BN 2 nd (By AH (CM #v[AN,AN]) (Ac Dg (Ac DA (BC D R #v[AD 0,AN]) AN) AN))) (Ah (BN 3 nd (By AH (CM #v[AN,AN]) (Ac Dg (Ac DA (Ac Dg (BC D R #v[AD 0,AN]) AN) AN) AN))) (Ah (BN 4 nd (BC (nW T) R #v[BC (oT T) R #v[AD 1,AD 2],Ac Dg (BC D R #v[AD 0,AN]) AN])) (EN (BN 5 nd (Ac JM (Ac DA (BC D R #v[AD 0,AN]) AN) (AD 2))) (Ah (QO (CP (Bu ED (Ac DA (Ac Dg (BC D R #v[AD 0,AN]) AN) AN) AN (Bt _)) (Af (BN 5 nd (Ac Hz (Ac Sm AN AN) (AD 5)))) Cg)) (Ah (BN 6 nd (Pa (YV T) R T.xw KJ #v[(EF (N7 (K:=AH)) (by rfl) T.gu MC #v[AD 4]),AD 5])) (EN (BN 7 nd (BC (nP T) R #v[AD 0,AD 4,AD 2,AD 3])) (EN (D3 D7 rfl (DQ (K:=AH) (AD 7)) (D2 8 nd) (Af (Dr (Hk (AD 6) T.ah (YT T) R #v[AD 8])))) (Ah (BN 9 nd (BC L R #v[AD 6])) (EN (BN 10 nd (BC (nM T) R #v[AD 6])) (Ah (CP (Hu (K8 (Jn (Fg (BC J R #v[AD 9,AD 10]))) (Ly (Jn (Fg (BC J R #v[BC L R #v[AD 6],AD 10])))))) (Af (BD K6)) Cg) (Ah (BN 11 nd (EF (N7 (K:=AH)) (by rfl) T.gu MC #v[AD 4])) (Ah (BN 12 nd (EF (N7 (K:=AH)) (by rfl) T.gu MC #v[AD 9])) (EN (BN 13 nd (BC (pL T) R #v[AD 11,AD 5,AD 12])) (Ah (Dr (bJ (K:=AH) MG ACN AFE aT (AD 11))) (EN (Dr (bJ (K:=AH) MG ACN AFE aT (AD 12))) (Ah (CP (Hu (K8 (Jn (Fg (BC J R #v[BC L R #v[AD 13],AD 10]))) (Ly (Jn (Fg (BC J R #v[AD 9,AD 10])))))) (Af (BD K6)) Cg) (EN (D3 D7 rfl (DQ (K:=AH) (Du (Gx (K:=AH)) (AD 7) Eu (DL AN))) (D2 8 nd) (Af (Dr (Hk (AD 13) T.ah (YT T) R #v[CY #v[Ac Sm AN AN,BA AH (AD 8) AN,BA AH (AD 8) AN,BA AH (AD 8) AN]])))) (Ah (Dr (Pb (AD 13) T.ah (nR T) R)) (EN (Dr (OH AH (AD 9) #v[Bi])) (Af (BD (BC J R #v[BC L R #v[AD 6],AD 10])))))))))))))))))))))))),?_⟩;have sz:As=16777216:=CL;show⟨a,ns,0,rfl,hS,by decide,hl,λc0=>⟨A1 rfl,λp1 hp1=>?_⟩⟩;show Ao (o:=.lst [.int 1,.int 40000]) hp1 λH1 s1 e1=>?_;show⟨a,ns,1,rfl,s1.aal hS,by decide,hl,λc1=>?_⟩;lk;obtain⟨U,htk,hv1⟩:∃t:Int,(t=1\/t=40000)/\Cr [AB.int 1,.int 40000] (c1%5/4)=AA (.int t):=by
      rcases(by(first|lia|omega):c1%5/4=0\/c1%5/4=1)with e|e<;>rw[e];.show⟨1,.inl rfl,rfl⟩
      .show⟨40000,.inr rfl,rfl⟩
    k_in;show⟨(zzp rfl),(zzd rfl),_,_,AW e1,hv1,A1 rfl,λp2 hp2=>?_⟩;show Ao (o:=.lst [.int 0,.int 998000000]) hp2 λH2 s2 e2=>?_;have s02:=s1.aa s2;show⟨a,ns,1,rfl,s02.aal hS,by decide,hl,λc2=>?_⟩;lk;obtain⟨O,hbg,hv2⟩:∃t:Int,(t=0\/t=998000000)/\Cr [AB.int 0,.int 998000000] (c2/5%5/4)=AA (.int t):=by
      rcases(by(first|lia|omega):c2/5%5/4=0\/c2/5%5/4=1)with e|e<;>rw[e];.show⟨0,.inl rfl,rfl⟩
      .show⟨998000000,.inr rfl,rfl⟩
    k_in;show⟨(zzd rfl),(zzp rfl),(zzd rfl),_,_,AW e2,hv2,?_⟩;show⟨c0,U,rfl,htk,λH3 l3 ps3 ss3 cc s3 el3 pr3 l6 pz=>?_⟩;have s03:=s02.aa s3;show⟨a,ns,1,rfl,s03.aal hS,by decide,hl,λc3=>⟨(zzd rfl),l3,_,cc,ps3,ss3,rfl,el3,pr3,l6,pz,λH4 lp ps Y s4 elp pr pgx=>?_⟩⟩;have s04:=s03.aa s4;have hS4:=s04.aal hS;clear s1 s2 s3 s4 s02 s03 s04 e1 e2 hp1 hp2 el3 pr3 hS hv1 hv2 l6 pz;obtain⟨l18,c,N,lN,pg⟩:_:=pgx;have f:=pg.ok;have dp:IJ (Dx c) Y:=⟨kW c,kU c,pg.st⟩;have l8:(An Y).length<=8:=Ag pg.tl lN;have g:Y.length<=20:=by(first|lia|omega)
    showλ_ _ _ _ z1=>⟨a,ns,2,rfl,hS4,by decide,hl,λc4=>⟨(zzp rfl),.inr (by constructor<;>(first|lia|omega)),z1 [AA (.ref a),AA (.int c0),AA (.int U),AA (.int O),AA (.ref lp),AA (.int (c4%13*U)),AG,AG,AG,AG,AG,AG,AG,AG] _ ?_⟩⟩;have hsl:0<=c4%13*U/\c4%13*U<=1000000000:=by rcases htk with rfl|rfl<;>(first|lia|omega)
    generalize c4%13*U=sl0 at hsl⊢;show P5 (λσ' H'=>∃M:Int,σ'=[AA (.ref a),AA (.int c0),AA (.int U),AA (.int O),AA (.ref lp),AA (.int M),AG,AG,AG,AG,AG,AG,AG,AG]/\H'=H4/\0<=M/\M<=1000000000) ?_ ?_;. show⟨a,ns,2,rfl,hS4,by decide,hl,λc5=>⟨(zzd rfl),(zzp rfl),rfl,_,rfl,Fw (λ_=>?_) λ_=>⟨sl0,rfl,rfl,hsl⟩⟩⟩;show⟨_,_,rfl,rfl,⟨by decide,by decide,by decide⟩,10^9-sl0,rfl,rfl,by(first|lia|omega),by(first|lia|omega)⟩
    intro σ' H' hI;obtain⟨M,rfl,rfl,s0,s1⟩:_:=hI;show⟨lp,ps,rfl,.inl (AW elp),λhd0 hh0=>?_⟩;show Ao hh0 λH5 s5 eh0=>?_;have pr5:=pr.ab s5.tp;showλy dy hy hdy hyn=>⟨y,dy,hd0,ps,Y,M,rfl,Ak,by rw[Aa (Bh eh0 hy),Aa (Bh eh0 hdy)];show eh0,pr5.ab λb xs e=>by rw[Aa (Bh e hy),Aa (Bh e hdy)];show e,g,l8,s0,s1,λH6 F sd0 gk0 eF sy f6 freF flp=>⟨rfl,?_⟩⟩;subst eF;have g6:Aj H5 H6:=YB hy hdy sy;have fF5:∀b,Kf Y F b->H5 b=AG:=λb hb=>(freF b (by rcases hb with hb|hb;show .inl hb;show .inr hb)).elim (λz=>by rw[z];show hy) λz=>(PR hyn z).1;have nlp5:=(PR hyn flp).1;have s56:=s5.aa g6;have elp6:=s56 _ _ elp;have pr6:=pr5.ab g6.tp;clear freF flp sy hy hdy hyn z1 pr5;showλ_ _ _ _ z2=>⟨a,lp,ns,U,O,ps,Y,rfl,s56.aal hS4,hl,elp6,pr6,l18,htk,hbg,λH7 le xs es s7 hle ele er l24 eo=>z2 [AA (.ref a),AA (.int c0),AA (.int U),AA (.int O),AA (.ref lp),AA (.int M),AA (.ref F.x),AA (.ref le),AG,AG,AG,AG,AG,AG] _ ?_⟩;have elp7:=s7 _ _ elp6;have pr7:=pr6.ab s7.tp;have f7:Hc AM H7 Y F M 0 0 0 sd0 gk0 []:=by have e0:CV Y []=λ_=>[]:=XJ Y _;show⟨by rw[e0];show⟨f6.ag.ak s7,f6.aaj,f6.ay⟩,s0,LQ _,by decide,LQ _,LQ _,by decide⟩
    have lx:=(Cn er).1;clear z2 f6 elp6 pr6 s56 hS4;showλ_ _ _ _ z3=>⟨le,rfl,⟨_,AW ele⟩,HK (K:=AH) (xs:=xs) (λi σ H'=>(JT λ(o8:Option AB)(B:List CF)(W C:Int)(sd:C3)(gk:Eo)=>FT (σ=[AA (.ref a),AA (.int c0),AA (.int U),AA (.int O),AA (.ref lp),AA (.int M),AA (.ref F.x),AA (.ref le),o8,AG,AG,AG,AG,AG]) (O8 H7 H') (Hc AM H' Y F M W (i:Int) C sd gk B) (B.length<=i) ((∀e∈B,e∈es)))) ⟨AG,[],0,0,sd0,gk0,rfl,λb o e _ _=>e,f7,Ai _,λe he=>by cases he⟩ (λi σ H' _ hh=>by obtain⟨_,_,_,_,_,_,_,t,_⟩:=hh;show AW (t.zv ele)) (λi x σ H8 hx hI=>?_) λσ H8 hI=>?_⟩
    . lk;obtain⟨o8,B,W,C,sd,gk,rfl,t8,l,le8,m8⟩:=hI;have hi:=(BU.mp hx).1;obtain⟨e,hee⟩:∃e,es[i]?=AA e:=⟨_,CG (by(first|lia|omega))⟩;obtain⟨q,rfl,eq⟩:=(Cn er).2 i x e hx hee;have hem:=Cp hee;have ev:Fm (B++[e]):=⟨by rw[Ba,GP];(first|lia|omega),λu hu=>eo u ((C1.mp hu).elim (m8 u) λh=>by rw[Bc.mp h];show hem)⟩;obtain⟨dx,ex⟩:=l.fr.ag.bb;k_in;have t0:=(eo e hem).1.1;show⟨F.x,dx,_,rfl,ex,by rfl,Y,F,M,W,(i:Int),C,sd,gk,CV Y B,CV Y (B++[e]),B,e,q,rfl,l.fr,f,g,t8.tp _ _ eq,ev.hL f dp,ev.abn f dp,λlt H9 p r s9 f9 _ _ _ _=>?_,λle H9 p r xs9 qs sd' gk' s9 f9 _ _ _ _ _ _ _ _ lq _=>?_⟩;. have t9:=l.fr.ag.lt s9;show⟨_,B,W,C,sd,gk,rfl,λb o e n1 n2=>t9 _ _ (t8 _ _ e n1 n2) n1 n2,l.acy f9,Ii le8,m8⟩
      . have t9:=l.fr.ag.lt s9;show⟨_,B++[e],Gq W M e.1,C+(qs.length:Int),sd',gk',rfl,λb o e n1 n2=>t9 _ _ (t8 _ _ e n1 n2) n1 n2,l.abx t0 lq f9,by rw[Ba,GP];(first|lia|omega),λu hu=>?_⟩;show(C1.mp hu).elim (m8 u) λh=>by rw[Bc.mp h];show hem
    obtain⟨o8,B,W,C,sd,gk,rfl,t8,l,le8,m8⟩:_:=hI;have ev:Fm B:=⟨by(first|lia|omega),λu hu=>eo u (m8 u hu)⟩;show z3 [AA (.ref a),AA (.int c0),AA (.int U),AA (.int O),AA (.ref lp),AA (.int M),AA (.ref F.x),AA (.ref le),o8,AG,AG,AG,AG,AG] _ ?_;clear z3;obtain⟨ggok,ks,kd,lks⟩:_:=l.adi ev f dp;have sdok:=l.ace ev f dp;have n0:=l.n0;have n1:=l.n1;have m0:=l.m0;have m1:=l.m1;have lxs:xs.length<=24:=by(first|lia|omega)
    generalize ecnt:((xs.length:Nat):Int)=Z at l m1;have c24:0<=Z/\Z<=24:=by(first|lia|omega)
    show⟨Y,F,M,W,Z,C,sd,_,gk,rfl,l.fr.ag,g,sdok,ggok,by(first|lia|omega),by(first|lia|omega),by(first|lia|omega),λH9 li s9 hli eli lls=>?_⟩;have f9:=l.fr.ag.ak s9;have elp8:=t8.zv elp7;showλ_ _ _ _ z4=>⟨Y,F,M,W,Z,C,sd,_,gk,rfl,f9,g,sdok,ggok,by(first|lia|omega),by(first|lia|omega),by(first|lia|omega),λHA du sA hdu edu=>z4 [AA (.ref a),AA (.int c0),AA (.int U),AA (.int O),AA (.ref lp),AA (.int M),AA (.ref F.x),AA (.ref le),o8,AA (.ref li),AA (.ref du),AG,AG,AG] _ ?_⟩;clear z4;have eliA:=sA _ _ eli;have fA:=f9.ak sA;have lzs:(Fq (FV W Z C) (Cw Y sd++DV Y (FX Y W (CV Y B)))).length<=3000000:=by unfold Fq;rw[Ba,Ex,GP];(first|lia|omega)
    lk;obtain⟨zs,ezs⟩:∃zs,zs=Fq (FV W Z C) (Cw Y sd++DV Y (FX Y W (CV Y B))):=⟨_,rfl⟩;k_in;show⟨li,du,_,rfl,eliA,edu,lzs,_,rfl,HN (GL ?_)⟩;show⟨Y,F,M,W,Z,C,sd,_,gk,rfl,fA,g,sdok,ggok,by(first|lia|omega),by(first|lia|omega),by(first|lia|omega),λHB l2 sB hl2 el2 _=>⟨l2,du,_,rfl,el2,sB _ _ edu,lzs,_,rfl,HN (GL ?_)⟩⟩;have s8B:=(s9.aa sA).aa sB;have elpB:=s8B _ _ elp8;have eleB:=s8B _ _ (t8.zv ele);have erB:RH HB xs es:=GN (λv u hh=>by obtain⟨b,e,qb⟩:=hh;show⟨b,e,s8B.tp _ _ (t8.tp _ _ qb)⟩) er;have prB:=(pr7.ab t8.tp).ab s8B.tp;have eliB:=sB _ _ eliA;have eduB:=sB _ _ edu;have fB:=fA.ak sB;have nul:du≠li:=λz=>by rw[z,eli]at hdu;cases hdu
    clear elp8 elp7 ele er pr7 eliA edu fA f9 el2 hl2 eli;show⟨lp,ps,rfl,.inl (AW elpB),λhd hhd=>?_⟩;show Ao hhd λHC sC ehd=>?_;show⟨li,_,rfl,.inl (AW (sC _ _ eliB)),λrd hrd=>?_⟩;show Ao hrd λHD sD erd=>?_;have sBD:=sC.aa sD;have ehdD:=sD _ _ ehd;have prD:=prB.ab sBD.tp;have fD:=fB.ak sBD;showλ_ _ _ _ z5=>⟨hd,rd,ps,Y,M,W,Z,C,sd,_,ks,rfl,ehdD,prD,g,l8,s0,s1,erd,lls,kd,n0,n1,c24.1,by(first|lia|omega),m0,by(first|lia|omega),λHE G sd' gk' sE fG lg eg frG glp=>z5 [AA (.ref a),AA (.int c0),AA (.int U),AA (.int O),AA (.ref lp),AA (.int M),AA (.ref F.x),AA (.ref le),o8,AA (.ref li),AA (.ref du),AA (.ref hd),AA (.ref rd),AA (.ref G.x)] _ ?_⟩;clear z5;have nFd:F.lp≠hd:=Bh fB.ji hhd;have nFr:F.lp≠rd:=Bh (sC _ _ fB.ji) hrd;have nFl:F.lp≠li:=λz=>by have:=l.fr.ag.ji;rw[z,hli]at this;cases this
    have nGd:G.lp≠hd:=λz=>by rw[z,ehdD]at glp;cases glp
    have nGr:G.lp≠rd:=λz=>by rw[z,erd]at glp;cases glp
    have nGl:G.lp≠li:=λz=>by rw[z,sBD _ _ eliB]at glp;cases glp
    have ap:∀b,Kf Y G b->¬Kf Y F b:=λb hb hf=>by obtain⟨o,e⟩:=fD.gc hf;rw[frG b hb]at e;cases e
    have fE:=fD.ak sE;have ehdE:=sE _ _ ehdD;have erdE:=sE _ _ erd;have prE:=prD.ab sE.tp;have sBE:=sBD.aa sE;have ndr:rd≠hd:=λz=>by rw[z,ehd]at hrd;cases hrd
    have nld:li≠hd:=Bh eliB hhd;have nlr:li≠rd:=Bh (sC _ _ eliB) hrd;have nud:du≠hd:=Bh eduB hhd;have nur:du≠rd:=Bh (sC _ _ eduB) hrd;have ned:le≠hd:=Bh eleB hhd;have ner:le≠rd:=Bh (sC _ _ eleB) hrd;show⟨.inl ⟨rfl,_,AW ehdE⟩,hd,ps,rfl,rfl,ehdE,?_⟩;have fF1:=fE.aat (o:=.lst []) ehdE (Ys prE) nFd;have gF1:=fG.aat (o:=.lst []) ehdE (Ys prE) nGd;have x1:Bj hd HE (AR HE hd (.lst [])):=zzu
    generalize AR HE hd (.lst [])=HF at fF1 gF1 x1⊢;have erdF:=x1 _ _ ndr erdE;showλ_ _ _ _ z6=>⟨.inl ⟨rfl,_,AW erdF⟩,rd,_,rfl,rfl,erdF,z6 [AA (.ref a),AA (.int c0),AA (.int U),AA (.int O),AA (.ref lp),AA (.int M),AA (.ref F.x),AA (.ref le),o8,AA (.ref li),AA (.ref du),AA (.ref hd),AA (.ref rd),AA (.ref G.x)] _ ?_⟩;clear z6;have fF2:=fF1.aat (o:=.lst []) erdF (VE _) nFr;have gF2:=gF1.aat (o:=.lst []) erdF (VE _) nGr;have x2:Bj rd HF (AR HF rd (.lst [])):=zzu
    generalize AR HF rd (.lst [])=HG at fF2 gF2 x2⊢;have ht:B7 HB HG:=λb u e=>x2 _ _ (Bh (sC _ _ e) hrd) (x1 _ _ (Bh e hhd) (sBE _ _ e));have eliG:=x2 _ _ nlr (x1 _ _ nld (sBE _ _ eliB));have eduG:=x2 _ _ nur (x1 _ _ nud (sBE _ _ eduB));have eleG:=x2 _ _ ner (x1 _ _ ned (sBE _ _ eleB));have gg2:Na Y (FX Y W (CV Y B)) gk':=λt S=>by obtain⟨_,q2,q3,q4⟩:=ggok t S;show⟨Ag (lg t S) (kd.go t S).2.1,q2,q3,q4⟩
    have sd2:=sdok.acg eg;have gH:Hc AM HG Y G M W Z C sd' gk' B:=by show⟨⟨gF2,λt S=>by have:=lg t S;rw[lks t S]at this;show Ag this (l.fr.aaj t S),λi n a b wi e=>?_⟩,s0,n0,n1,c24.1,m0,m1⟩;obtain⟨p1,p2⟩:=l.fr.ay i n a b wi e;rw[eg i ⟨n,a,b,wi,e⟩];show⟨(La _).trans p1,(La _).trans p2⟩
    have eitl:=lT eg;show⟨Y,G,M,W,Z,C,sd',_,gk',rfl,gF2,g,sd2,gg2,by(first|lia|omega),by(first|lia|omega),by(first|lia|omega),λHH l3 sH hl3 el3 _=>?_⟩;rw[eitl]at el3;show⟨l3,du,_,rfl,el3,sH _ _ eduG,lzs,_,rfl,HN (GL ?_)⟩;show⟨li,du,_,rfl,sH _ _ eliG,sH _ _ eduG,lzs,_,rfl,HN (GL ?_)⟩;have gI:Hc AM HH Y G M W Z C sd' gk' B:=⟨⟨gH.fr.ag.ak sH,gH.fr.aaj,gH.fr.ay⟩,s0,n0,n1,c24.1,m0,m1⟩;have fI:=fF2.ak sH;have eliI:=sH _ _ eliG;have eduI:=sH _ _ eduG;have eleI:=sH _ _ eleG;have erI:RH HH xs es:=GN (λv u hh=>by obtain⟨b,e,qb⟩:=hh;show⟨b,e,sH.tp _ _ (ht _ _ qb)⟩) erB;clear el3 gH gF2 fF2 gF1 fF1 sd2 gg2 eitl x1 x2 ht eliG eduG eleG erdF erdE ehdE prE fE sBE ehdD prD fD;obtain⟨q1,q2⟩:=kQ xs;showλ_ _ _ _ z7=>⟨3,rfl,le,xs,rfl,AW eleI,λl7 h7=>?_⟩;show Ao h7 λHJ sJ e7=>⟨l7,rfl,⟨_,AW e7⟩,HK (K:=AH) (xs:=Fe xs AG (AA 3)) (λi σ H'=>(JT λ(o8:Option AB)(I:List CF)(X d:Int)(sdG:C3)(gkG:Eo)=>HZ (σ=[AA (.ref a),AA (.int c0),AA (.int U),AA (.int O),AA (.ref lp),AA (.int M),AA (.ref F.x),AA (.ref le),o8,AA (.ref li),AA (.ref du),AA (.ref hd),AA (.ref rd),AA (.ref G.x)]) (O8 HJ H') (DU AM H' Y F M W Z C sd (FX Y W (CV Y B)) gk) (Hc AM H' Y G M X (Z+(i:Int)) d sdG gkG I) (I.length<=24+i) (∀e∈I,O7 e))) ⟨o8,B,W,C,sd',gk',rfl,λb o e _ _=>e,fI.ak sJ,?_,by(first|lia|omega),λe he=>eo e (m8 e he)⟩ (λi σ H' _ hh=>by obtain⟨_,_,_,_,_,_,_,t,_⟩:=hh;show AW (t.zv e7)) (λi x σ H8 hx hI=>?_) λσ H8 hI=>?_⟩;. rw[show Z+((0:Nat):Int)=Z from Int.add_zero _];show⟨⟨gI.fr.ag.ak sJ,gI.fr.aaj,gI.fr.ay⟩,s0,n0,n1,c24.1,m0,m1⟩
    . lk;obtain⟨o8,I,X,d,sdG,gkG,rfl,t9,fF9,m,l9,m9⟩:=hI;have hi:=(BU.mp hx).1;obtain⟨j,hj,ej⟩:=Gz.mp (q2 x (Cp hx));obtain⟨e,hee⟩:∃e,es[j]?=AA e:=⟨_,CG (by have:=(Cn erI).1;(first|lia|omega))⟩;obtain⟨q,rfl,eq⟩:=(Cn erI).2 j x e (by rw[CG hj,ej]) hee;have oe:=eo e (Cp hee);have eq9:H8 q=AA (.tup [.int e.1,.str e.2.1,.str e.2.2.1,.int e.2.2.2]):=t9.tp _ _ (sJ _ _ eq);obtain⟨e',he'⟩:∃e':CF,e'=(1000000000,e.2.1,e.2.2.1,e.2.2.2):=⟨_,rfl⟩;have oe':O7 e':=by rw[he'];show⟨⟨⟨(by decide:(0:Int)<=1000000000),LQ _⟩,oe.1.2⟩,oe.2⟩
      have ev':Fm (I++[e']):=⟨by rw[Ba,GP];(first|lia|omega),λu hu=>(C1.mp hu).elim (m9 u) λh=>by rw[Bc.mp h];show oe'⟩;obtain⟨dx,ex⟩:=m.fr.ag.bb;k_in;show⟨G.x,dx,_,rfl,ex,by rfl,_,_,rfl,rfl,⟨by decide,by decide,by decide⟩,_,_,Aq eq9,Ae (j:=1) rfl,_,_,Aq eq9,Ae (j:=2) rfl,_,_,Aq eq9,Ae (j:=3) rfl,A1 rfl,λq' hq'=>?_⟩;show Ao (o:=.tup [.int 1000000000,.str e.2.1,.str e.2.2.1,.int e.2.2.2]) hq' λH9 sK eq'=>?_;have ea':Kd H9 q' e':=by rw[he'];show eq'
      have gK:Hc AM H9 Y G M X (Z+(i:Int)) d sdG gkG I:=⟨⟨m.fr.ag.ak sK,m.fr.aaj,m.fr.ay⟩,m.s0,m.n0,m.n1,m.c0,m.m0,m.m1⟩;have fK:=fF9.ak sK;have b1:=m.n1;have t1:e'.1=1000000000:=by rw[he']
      show⟨Y,G,M,X,Z+(i:Int),d,sdG,gkG,CV Y I,CV Y (I++[e']),I,e',q',rfl,gK.fr,f,g,ea',ev'.hL f dp,ev'.abn f dp,λlt=>by(first|lia|omega),λ_ HA p r xs9 qs sd2 gk2 s9 f9 _ _ _ _ _ _ _ _ lq _=>?_⟩;have tK:=gK.fr.ag.lt s9;show⟨_,I++[e'],Gq X M e'.1,d+(qs.length:Int),sd2,gk2,rfl,λb o e n1 n2=>tK _ _ (sK _ _ (t9 _ _ e n1 n2)) n1 n2,fK.aaa gK.fr.ag ap s9,?_,by rw[Ba,GP];(first|lia|omega),λu hu=>(C1.mp hu).elim (m9 u) λh=>by rw[Bc.mp h];show oe'⟩;have:=gK.abx (by(first|lia|omega)) lq f9;rw[show Z+(i:Int)+1=Z+((i+1:Nat):Int)by(first|lia|omega)]at this;show this
    obtain⟨o8',I,X,d,sdG,gkG,rfl,t9,fF9,m,l9,m9⟩:_:=hI;show z7 [AA (.ref a),AA (.int c0),AA (.int U),AA (.int O),AA (.ref lp),AA (.int M),AA (.ref F.x),AA (.ref le),o8',AA (.ref li),AA (.ref du),AA (.ref hd),AA (.ref rd),AA (.ref G.x)] _ ?_;clear z7;have ev':Fm I:=⟨by(first|lia|omega),λu hu=>m9 u hu⟩;obtain⟨dx,ex⟩:=m.fr.ag.bb;show⟨G.x,dx,_,rfl,ex,by rfl,Y,G,M,X,_,d,sdG,_,gkG,rfl,m.fr.ag,f,g,λt S=>Ag (m.acv ev' f dp S) (by decide),λt S z=>m.acj ev' f dp S z,λH9 r xs9 qs gk3 s9 f9 _ _ _ _ _ _ _=>?_⟩;have t10:=m.fr.ag.lt s9;have fF10:=fF9.aaa m.fr.ag ap s9;have eliK:=t10.zv (t9.zv (sJ _ _ eliI));have eduK:=t10.zv (t9.zv (sJ _ _ eduI));showλ_ _ _ _ z8=>⟨.inl ⟨rfl,_,AW eliK⟩,li,_,.str "end",rfl,rfl,eliK,by rw[Au];(first|lia|omega),z8 [AA (.ref a),AA (.int c0),AA (.int U),AA (.int O),AA (.ref lp),AA (.int M),AA (.ref F.x),AA (.ref le),o8',AA (.ref li),AA (.ref du),AA (.ref hd),AA (.ref rd),AA (.ref G.x)] _ ?_⟩;clear z8;have fL:=fF10.aat (o:=.lst ((Fq (FV W Z C) (Cw Y sd++DV Y (FX Y W (CV Y B)))).map AB.str++[.str "end"])) eliK (VE _) nFl;show⟨Y,F,M,W,Z,C,sd,_,gk,rfl,fL,g,sdok,ggok,by(first|lia|omega),by(first|lia|omega),by(first|lia|omega),λHL l4 sL hl4 el4 _=>⟨l4,du,_,rfl,el4,sL _ _ (by rw[Aa nul];show eduK),lzs,k _⟩⟩
theorem kE{l:Tn}{K:BB}(U:D "law"=AA (.ref V))(T:BM K D ⟨Y,J,Z,A,B,C,E,F,G,H⟩):∃W:Ik,(∀(s:AX)(v:AK),Tg s W ⟨[v],[]⟩ [("_law_script",v)])/\∀base:BW,K.In base->base.Ns LN D->Gr l.prog w K D base BE PH V W ["_law_script"] (Nt K):=by have e:=U.symm.trans T.abv;cases e;obtain⟨_,_,_,_,_,_,_,_,_,e,_,_⟩:=T.aaf.ex;show⟨J,λs v=>by have e:J=_:=e;rw[e];show .of_eq rfl,λbase _ _=>RD λn=>?_⟩;have h:=T5 (p:=λx:UK=>BM x.K x.mg x.ad/\¬∀(P:CS)(w:B0)(base:BW),Gr P w x.K x.mg base BE PH x.ad.vf x.ad.xj ["_law_script"] (Nt x.K)) ⟨⟨K,D,⟨Y,J,Z,A,B,C,E,F,G,H⟩⟩,T,λh=>n (h _ _ _)⟩;show h.2 λP w base=>oC h.1
end
noncomputable def PySem.W.Fast:=()where
 tw16734980758513625239:=()
 tw14939658884087963337:=()
 tw6983999185574224084:=()
 tw17735487759085527252:=()
 tw1360167176128419251:=()
 tw7433945845996478133:=()
 tw15416587132457816292:=()
 tw12697755894568715540:=()
 tw2897268712884595134:=()
 tw13335241835697111587:=()
 tw18014414287660761094:=()
 tw9789837433788609686:=()
 tw929923752477748989:=()
 tw2111967027250097000:=()
 tw2517948035090952117:=()
 tw6063821765090821007:=()
 tw17629738490177557871:=()
 tw5925263429836542759:=()
 tw11945044013105611577:=()
 tw4677868402043336620:=()
 tw1934216281496081841:=()
 tw17212971599079834287:=()
 tw9860409264425149920:=()
 tw14510136744142918649:=()
 tw14241898278961776298:=()
 tw7148200703889162624:=()
 tw383104458254654011:=()
 tw9458218824189177419:=()
 tw7880849893330465381:=()
 tw3726361523504191045:=()
 tw1898191526984019427:=()
 tw13976597813811454808:=()
 tw13160735678937398552:=()
 tw14603832658300836440:=()
 tw10492552858767705807:=()
 tw9118229266599934322:=()
 tw8850319749862152947:=()
 tw13633547476034178680:=()
 tw2433449867871233949:=()
 tw11242316185126565062:=()
 tw5853369506738102646:=()
 tw12263710925183391815:=()
 tw7374986751446995826:=()
 tw17719303205943665799:=()
 tw10317991216605686859:=()
 tw3892558275315535096:=()
 tw18190661971706662520:=()
 tw2667082278335699082:=()
 tw3843436581750399116:=()
 tw9847735335140577355:=()
 tw12793700887576333045:=()
 tw12833287246749702590:=()
 tw14594302040150799564:=()
 tw7038199608785599987:=()
 tw3070121084667753165:=()
 tw2145626269177498437:=()
 tw4041765467122979830:=()
 tw11701717884844223910:=()
 tw4839888066504087700:=()
 tw4457955830733966477:=()
 tw1025350351011686211:=()
 tw14589548661898102332:=()
 tw4516315334170323632:=()
 tw3580044576086456500:=()
 tw17633965683429701837:=()
 tw686557375077536942:=()
 tw11515587060195314228:=()
 tw5130294566519166395:=()
 tw11364936855655041967:=()
 tw904210361081311066:=()
 tw4753869857531695350:=()
 tw4916935792309154893:=()
 tw8156747780671152334:=()
 tw16408885011913625425:=()
 tw1070608126385433313:=()
 tw3555026550250409426:=()
 tw18071433783211284421:=()
 tw2663631625550940251:=()
 tw18128943181514403722:=()
 tw290884071889395286:=()
 tw7862684720650429505:=()
 tw6569193864363582294:=()
 tw13525998364227537748:=()
 tw440879170747112403:=()
 tw10110016346189137339:=()
 tw8409585049199520533:=()
 tw13899241827353176289:=()
 tw11645890283261230157:=()
 tw18417345287065043200:=()
 tw15144274377253296541:=()
 tw5430349447919301146:=()
 tw14272689412453491783:=()
 tw15727477311224469015:=()
 tw13356433284721226245:=()
 tw1642898752045301618:=()
 tw4036753817301205504:=()
 tw3461709184986168482:=()
 tw6395940577872672450:=()
 tw2485020097976059222:=()
 tw10374769900770762164:=()
 tw6599388516409426164:=()
 tw4654945802686622833:=()
 tw16589096733508001747:=()
 tw12068207916672873244:=()
 tw6946087030390853899:=()
 tw15820548849865953361:=()
 tw9691749992232347133:=()
 tw11098597701417706108:=()
 tw15063506815323972178:=()
 tw13847840428760358141:=()
 tw5843143924653262782:=()
 tw7594440244464613007:=()
 tw14640712923044610740:=()
 tw13257048504853493095:=()
 tw13410939121562058873:=()
 tw5460717927112184375:=()
 tw15549047699567569573:=()
 tw1898861309597980389:=()
 tw16080659281697932928:=()
 tw5132958201739869948:=()
 tw11658175649241290053:=()
 tw6030374536380053651:=()
 tw4669136857354638157:=()
 tw12306457575247820103:=()
 tw16992371208896082567:=()
 tw11426689981033453181:=()
 tw15808503487378365644:=()
 tw5479655388830856409:=()
 tw7964408539234368041:=()
 tw13831936745473247375:=()
 tw2606508945278680026:=()
 tw1625141748409889762:=()
 tw8291993799078525803:=()
 tw2106851960595866784:=()
 tw4205795735909740109:=()
 tw7683590899093232503:=()
 tw13033739160049020910:=()
 tw9390027204475226462:=()
 tw7702002724081580321:=()
 tw16743825706225160767:=()
 tw9804070956418486424:=()
 tw10972004125223667028:=()
 tw9185818909253107558:=()
 tw3650779360434442649:=()
 tw1562500839919353877:=()
 tw1616447749145011899:=()
 tw2920486166952533044:=()
 tw4153827215459798320:=()
 tw3012326077367909475:=()
 tw8554668278942154214:=()
 tw14910735735549023479:=()
 tw8891004370517693:=()
 tw11112017599513405004:=()
 tw8497569354632440355:=()
 tw1061485892655223:=()
 tw7798326251532273123:=()
 tw3483767433619943648:=()
 tw12131303569027617091:=()
 tw14834078383698468854:=()
 tw15687823445681079607:=()
 tw5576926657609721310:=()
 tw14730867734151214314:=()
 tw3124680798506209273:=()
 tw16843630367726097487:=()
 tw8317057421236361354:=()
 tw371929712065381452:=()
 tw4983287303079819190:=()
 tw17284430305198017542:=()
 tw13231902891459827713:=()
 tw13814739765730453277:=()
 tw3411815583229598137:=()
 tw9087870182143120282:=()
 tw1713194506337749100:=()
 tw11165860563064377646:=()
 tw6264277790780101508:=()
 tw14089139738864898327:=()
 tw10912703758501706578:=()
 tw12598479066654642326:=()
 tw10741358361576290535:=()
 tw2614443400115788313:=()
 tw3837925983082418565:=()
 tw18292413349624654129:=()
 tw9782622553174043435:=()
 tw5133930710234557618:=()
 tw13318115113740121666:=()
 tw4738970169273389758:=()
 tw2788020720120029107:=()
 tw12602721487364426392:=()
 tw11172140397613136183:=()
 tw16547317947413978092:=()
 tw2950759542628419177:=()
 tw8842553091383606499:=()
 tw18406497488759930785:=()
 tw17843309518572974174:=()
 tw4353467194232034837:=()
 tw6670110037730551373:=()
 tw7057221466957990465:=()
 tw10961110483020226106:=()
 tw5983584470192022359:=()
 tw18026934558754960436:=()
 tw8608773890143759194:=()
 tw11262722851389074934:=()
 tw9007515776584280232:=()
 tw18415543692838325535:=()
 tw1145422463915311776:=()
 tw8355687668399491157:=()
 tw7281868758396632048:=()
 tw2861082878881888060:=()
 tw14973223949745078398:=()
 tw17118172463213037639:=()
 tw15867665416077912258:=()
 tw13521687860639995133:=()
 tw7589413267736084524:=()
 tw4790771359872850775:=()
 tw402194459983704280:=()
 tw7315734958331474946:=()
 tw13298604858846187813:=()
 tw3892977280815397325:=()
 tw13617641169076707813:=()
 tw18243404503409811805:=()
 tw17262231661283241188:=()
 tw9859398230741208159:=()
 tw3879094476903233177:=()
 tw3014185394684294634:=()
 tw7226264538272140828:=()
 tw9387524387161626422:=()
 tw7875817504953077039:=()
 tw440308549833566584:=()
 tw8569395072433559027:=()
 tw851706892572210320:=()
 tw5392945751764956153:=()
 tw551335514789588238:=()
 tw15121185849131433355:=()
 tw7307548343790891119:=()
 tw3160019661407029874:=()
 tw17927544977903812353:=()
 tw8798681777000291951:=()
 tw895156060573626028:=()
 tw7660879407953999800:=()
 tw7619315484742822466:=()
 tw16028764507656517075:=()
 tw15177632517030746052:=()
 tw13802348967031553537:=()
 tw12719583086827783311:=()
 tw5348073510113141556:=()
 tw4755619898080137338:=()
 tw6660449128739482335:=()
 tw9993333105318965205:=()
 tw7481488326523707141:=()
 tw17596831444347997874:=()
 tw14298523191312514165:=()
 tw1380180799785443561:=()
 tw16312340229298091638:=()
 tw8543606386629994022:=()
 tw2071792933304337982:=()
 tw9942540660516401718:=()
 tw9408246591731172346:=()
 tw18131590170664392623:=()
 tw1446380381773718064:=()
 tw10056798797143693140:=()
 tw16846980478059716993:=()
 tw5576481681293437336:=()
 tw15157938105626257192:=()
 tw3076214928813978031:=()
 tw2597736505341848341:=()
 tw16764288858873193629:=()
 tw16763151117395885483:=()
 tw15410686649062517961:=()
 tw13279326413203286052:=()
 tw1415448094312523612:=()
 tw8104360041084307083:=()
 tw355969692015977866:=()
 tw13586140974562353579:=()
 tw9997715212349932832:=()
 tw6919073000419195023:=()
 tw616389977504807437:=()
 tw5815500123842307114:=()
 tw5291186587419779635:=()
 tw4755623000961143962:=()
 tw4641775215803971904:=()
 tw17696093139739795294:=()
 tw17211941082377012913:=()
 tw16834666899442282417:=()
 tw16166088454497694457:=()
 tw15969964039420014774:=()
 tw15669078298456793275:=()
 tw14835224599208808063:=()
 tw14497004877610591097:=()
 tw14430437733708892146:=()
 tw14377384269513264987:=()
 tw13840980182657504628:=()
 tw10611220875569488145:=()
 tw10240364346419672392:=()
 tw7200954332201760556:=()
 tw4679021260072429492:=()
 tw17972313518286109702:=()
 tw9359851624780679315:=()
 tw11517031923402360694:=()
 tw6649978698589675839:=()
 tw6570912515957846915:=()
 tw3012139256310550986:=()
 tw15897224644589936565:=()
 tw15514378949910747443:=()
 tw15342904876741022345:=()
 tw15059104144267495619:=()
 tw13537004920177542551:=()
 tw13030393749287751348:=()
 tw12532769423714299552:=()
 tw10981848198065744554:=()
 tw5371256684797722565:=()
 tw2482187698653268543:=()
 tw11799311521181811520:=()
 tw11598244657156002944:=()
 tw11248339628107630930:=()
 tw11099796469813970653:=()
 tw8881006701205557299:=()
 tw6169091531266465292:=()
 tw3178199538495158885:=()
 tw16794807876706512301:=()
 tw15261031205223904544:=()
 tw14268753934709925926:=()
 tw11759880875843693832:=()
 tw12955096397478715326:=()
 tw9945985126789080750:=()
 tw9573793818253023307:=()
 tw9296649165611578887:=()
 tw9270000110528157718:=()
 tw9092259481682200697:=()
 tw8417989407629167235:=()
 tw8322104282888509755:=()
 tw8060782493152594096:=()
 tw7944377664433012952:=()
 tw7775093194386653389:=()
 tw7672006787852682522:=()
 tw7641575269303283907:=()
 tw6826736887540201735:=()
 tw6821699056160501216:=()
 tw6409615404373365869:=()
 tw5696988351332779420:=()
 tw5692894329717277460:=()
 tw552352980486634231:=()
 tw52552094706035082:=()
 tw5041071326841053896:=()
 tw4897180214842480078:=()
 tw4895731082711951720:=()
 tw4819980858558736690:=()
 tw4577674371063095199:=()
 tw4392151682045854620:=()
 tw4384462886389225578:=()
 tw3350997539824360192:=()
 tw3251745614305309082:=()
 tw2929533082628902779:=()
 tw2801790891798343627:=()
 tw2624344759184432129:=()
 tw2343713051436667531:=()
 tw2073777022963233120:=()
 tw2024398232460923209:=()
 tw1985185823804467667:=()
 tw17744518225975766334:=()
 tw17629291087799580958:=()
 tw17514052622548283193:=()
 tw17486428975826962906:=()
 tw17466642718062973835:=()
 tw17374637296247637333:=()
 tw17238189149879451836:=()
 tw166011925805612144:=()
 tw1638719142350806621:=()
 tw16010032169592206317:=()
 tw15151865222350179093:=()
 tw14995799369984352084:=()
 tw14680602450646669245:=()
 tw14599731956082690153:=()
 tw14463830155647939080:=()
 tw14235961567232168374:=()
 tw14033939814824100857:=()
 tw13656668072644755515:=()
 tw13569180994652058685:=()
 tw1325876838219338193:=()
 tw13050293884707816608:=()
 tw12764872512354965270:=()
 tw12142691303799311854:=()
 tw10802715331504899638:=()
 tw1683300011406694484:=()
 tw10628334404609793715:=()
 tw2554545019343373829:=()
open PySem PySem.W PyProof.Rows
set_option maxRecDepth 100000 in
set_option maxHeartbeats 0 in
theorem PySem.Challenge.cw_brooktally_k22_a_flow_packed_holds : PySem.Challenge.rw_brooktally_k22_a_flow_packed.Holds := by
  w_on; o_law; k_head; (case hw => w_witness2)
  k_fill
  refine ABS (l := AEt) (n := 63) (k := PH) (x := "_law_script") (CX := BE) (sp := Nt) rfl (by decide) rfl ⟨rfl, by decide, by decide⟩ (fun w h Y => W.kIn_of Y) ?F mC (fun _ _ _ _ z => z)
  case F =>
    intro w mg fa h KX G hmg
    refine' kE hmg ?T
    case' T => constructor
    all_goals try dsimp only
    all_goals first
      | (refine' ACg KX G ?_; k_is)
      | (refine' W.mg_none_of KX G ?_; k_is)
      | (refine' mL KX G ?_; any_goals k_is)
      | (refine' ⟨?_, ?_, ?_, ?_⟩ <;> k_is)
      | (first
          | refine' Ue ⟨ACg KX G ?_, ?_⟩ ?_ ?_ ?_ Sv ?_
          | refine' Ue ⟨?_, ?_, ?_⟩ ?_ ?_ ?_ Sv ?_
          | refine' Ue ⟨?_, ?_, ?_, ?_⟩ ?_ ?_ ?_ Sv ?_); (any_goals k_is); intro _ _ _ _ _ _ us hl; first | (obtain ⟨_, rfl⟩ := vS hl; rfl) | (obtain ⟨_, _, rfl⟩ := vT hl; rfl) | (obtain ⟨_, _, _, rfl⟩ := vU hl; rfl) | (obtain ⟨_, _, _, _, rfl⟩ := vV hl; rfl) | (obtain ⟨_, _, _, _, _, rfl⟩ := vW hl; rfl)
      | k_is
      | (refine' Vh ?_ ?_ ?_; any_goals k_is)
      | k_exc
      | kit_is
      | kts_exm
      | (refine' k7 ?_ ?_ ?_ ?_ ?_ ?_; any_goals k_is)
      | (refine' nC ?_; any_goals k_is)
      | (refine' vG ?_ ?_ ?_; (any_goals k_is); (first | decide | exact (by decide : 2 ≤ sizeLine) | exact (by decide : 4 ≤ sizeLine)); repeat (first | exact .nil | refine .cons ?_ ?_ | exact ⟨_, rfl⟩ | rfl))
      | (unfold Fu; k_is)
      | skip
