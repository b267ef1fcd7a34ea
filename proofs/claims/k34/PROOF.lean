import PyProof.Rows.All
import Wide.All
import OpenK.AllK
import Wide.FinOn
import Lean
import PyProof.EqAt
import PyProof.EqKinds
import PyProof.TupleCall
import PySem.Challenge.RW_brooktally_k34_whole_many_hands
set_option Elab.async false
set_option linter.all false
set_option maxRecDepth 100000
set_option maxHeartbeats 4000000
open PySem PySem.Spec PyProof.Rows
open _root_.Array renaming length_toList->Li,getElem?_toList->Mc,perm_iff_toList_perm->RV,toArray_toList->VA,toList_append->VB,size_map->c7,toList_extract->c8,append_empty->AAM,toList_map->AAN,toList_push->AAO,toList_setIfInBounds->AAP
open _root_.Array.Perm renaming refl->U9
open _root_.Bool renaming true->AI,false->AM,false_ne_true->DN,noConfusion->ID,false_eq_true->Lj,and_eq_true->Pd,eq_iff_iff->VC,and_eq_true_iff->dD,and_comm->AAQ,and_false->AAR,eq_false_iff->AAS,not_false->AAT,not_true->AAU,or_eq_true->AAV
open _root_.Classical renaming byContradiction->Nx,not_not->ADC
open _root_.Decidable renaming decide->Ac
open _root_.Eq renaming trans->Ny
open _root_.Except renaming error->RW
open _root_.False renaming elim->Er
open _root_.ForIn renaming forIn->HN
open _root_.ForInStep renaming yield->RX
open _root_.Int renaming le_trans->Fh,emod_nonneg->Fz,lt_of_le_of_lt->Ga,emod_lt_of_pos->HP,lt_of_lt_of_le->IE,ne_of_gt->JR,not_le_of_gt->JS,le_of_lt->Kp,le_of_not_gt->Lk,natCast_inj->Md,le_add_of_nonneg_right->Pe,lt_trans->Pf,lt_asymm->RY,lt_of_not_ge->RZ,toNat_le->Ra,le_max_right->VF,lt_add_of_le_of_pos->VG,lt_add_of_neg_add_lt->VH,mul_pos->VI,zero_add->VJ,le_refl->dN,lt_irrefl->dO,lt_toNat->dP,min_le_right->dQ,mul_nonneg->dR,ofNat_le->dS,pos_iff_toNat_pos->dU,sub_right_le_iff_le_add->dW,add_lt_of_lt_sub_left->AAW,add_zero->AAX,ediv_nonneg->AAY,eq_natCast_toNat->AAZ,le_add_one->AAa,le_antisymm->AAb,le_max_left->AAc,le_min->AAd,le_of_lt_add_one->AAe,le_total->AAf,lt_iff_le_and_ne->AAg,min_eq_left->AAh,natCast_le_zero->AAi,not_lt->AAj,not_ofNat_neg->AAk,ofNat_lt->AAl,sub_le_of_sub_le->AAm,sub_le_self->AAn,sub_le_sub_right->AAo,toNat_of_nonneg->AAp
open _root_.List renaming length_map->As,mem_map->A7,getElem?_eq_some_iff->BH,mem_singleton->BV,getElem?_map->Bl,length_append->Bs,mem_cons->B6,mem_append->CS,mem_of_getElem?->CZ,getElem?_eq_getElem->Cd,map_append->Ce,mem_cons_self->DI,cons->DR,nil->DT,map_map->DX,take_of_length_le->Dk,mem_filter->EH,take_add_one->EI,append_nil->Ea,mem_append_right->Eb,replicate->Ec,flatMap_cons->El,length_take->Em,mem_cons_of_mem->En,append_assoc->E4,range->FP,length_filter_le->Fc,map_cons->Fd,filter_append->GG,mem_of_mem_tail->GH,filter_cons->GV,mem_iff_getElem->Gk,pairwise_iff_getElem->Gm,pairwise_cons->G7,pairwise_map->G8,mem_append_left->Ht,size_toArray->Hu,filter_filter->JK,nodup_cons->JL,filter_congr->Kb,getElem?_zip_eq_some->LW,filter_eq_nil_iff->MP,length_cons->MQ,length_drop->MR,pairwise_append->MS,filter_sublist->NZ,getElem?_append_left->Na,length->Nb,map_congr_left->Nc,ne_nil_of_mem->Nd,zip->Nf,getElem?_append_right->Oo,length_range->Oq,lookup->Ot,perm_append_comm->Ou,filter->Qy,filter_map->Qz,find?_cons->Q0,flatMap_append->Q1,getElem?_eq_none_iff->Q2,getElem_take->Q3,mem_flatMap->Q4,not_mem_nil->Q5,take_append_drop->Q6,any_cons->UW,any_eq_true->UX,cons_append->UY,extract_eq_take_drop->UZ,filterMap_cons->Ua,filter_cons_of_neg->Ub,filter_cons_of_pos->Uc,filter_eq_self->Ud,length_nil->Ue,mem_iff_getElem?->Ug,Pairwise->Zy,drop_eq_getElem_cons->Z1,eq_nil_of_length_eq_zero->Z2,getElem?_take_of_lt->Z3,getElem_map->Z4,map_flatMap->Z5,map_id->Z6,mem_of_mem_drop->Z7,mem_range->Z8,nodup_append->Z9,of_mem_zip->aA,pairwise_singleton->aB,range_succ->aC,take->aD,Perm->wM,drop_drop->wO,ext_getElem?->wQ,flatMap_singleton->wR,foldl_cons->wU,getElem?_eq_none->wV,getElem?_set_ne->wW,getElem?_set_self->wX,getElem_inj->wY,getElem_mem->wZ,length_pos_of_mem->w4,map_snd_zip->w5,mem_filterMap->w9,mem_of_mem_take->xA,pairwise_reverse->xB,replicate_succ->xC,Nodup->AAq,all_cons->AAs,drop_of_length_le->AAt,drop_sublist->AAu,eq_nil_iff_forall_not_mem->AAv,find?_some->AAw,flatMap_nil->AAx,flatten_cons->AAy,foldl->AAz,getElem?_replicate->AA0,length_replicate->AA1,length_singleton->AA2,length_zip->AA3,map_id'->AA4,map_take->AA5,mem_reverse->AA6,nil_append->AA7,nodup_range->AA8,perm_middle->AA9,take_add->ABA,take_length->ABB,take_sublist->ABC,take_zero->ABD,zip_cons_cons->ABE
open _root_.List.Pairwise renaming imp_of_mem->ADD,nil->ADE
open _root_.List.Perm renaming of_eq->Qx,trans->UU,cons->Zz,swap->Z0,append_left->wN,append_right->AAr,append->ADF,refl->ADG
open _root_.List.Sublist renaming eq_of_length_le->ADH,map->ADI
open _root_.List.cons renaming inj->DS
open _root_.Max renaming max->Jn
open _root_.Min renaming min->DU
open _root_.Nat renaming le_trans->Af,le_refl->Ag,lt_of_lt_of_le->BK,le_of_eq->BW,zero_le->BZ,le_of_lt->Bg,lt_of_le_of_ne->Cy,ne_of_lt->DV,le_of_add_right_le->DY,le_of_lt_succ->Dl,le_antisymm->EJ,le_of_ble_eq_true->Ed,add_le_add_left->E5,le_of_not_lt->E6,lt_of_le_of_lt->FQ,lt_irrefl->GI,add_one_le_add_one_iff->Gn,add_sub_cancel'->G9,lt_of_succ_lt->HF,sub_succ_lt_self->HG,not_lt_zero->Il,le_succ_of_le->JM,lt_succ_self->Jo,one_le_iff_ne_zero->Jp,add_lt_of_lt_sub'->Kc,lt_trans->Ke,min_le_left->Kf,le_sub_iff_add_le'->LX,lt_add_one_iff->LY,lt_of_not_le->LZ,sub_one_lt_of_le->La,ne_of_gt->MT,add_lt_add_left->Nh,lt_add_one_of_lt->Ni,le_add_right->Ov,le_succ->Ow,sub_lt_right_of_lt_add->Ox,le_of_add_left_le->Q7,lt_iff_add_one_le->Q8,sub_lt_iff_lt_add'->Q9,sub_lt_of_lt->RA,add_comm->Uh,add_zero->Ui,le_sub_iff_add_le->Uj,lt_of_add_right_lt->Uk,lt_sub_iff_add_lt'->Ul,not_lt->Um,sub_lt->Uo,eq_of_le_of_lt_succ->aE,le_of_succ_le_succ->aF,le_sub_of_add_le->aG,lt_trichotomy->aH,min_eq_left->aI,min_le_right->aJ,mul_le_mul->aK,sub_le_sub_iff_right->aL,sub_self->aM,sub_sub_self->aN,succ_le_succ->aO,succ_pos->aP,le_add_left_of_le->xD,le_add_right_of_le->xE,le_pred_iff_lt->xF,lt_add_left->xG,lt_or_ge->xH,lt_succ_of_lt->xI,not_lt_of_ge->xJ,not_succ_le_zero->xK,sub_eq_iff_eq_add->xM,sub_le->xN,sub_ne_zero_iff_lt->xO,sub_one_lt_of_lt->xP,sub_sub_sub_cancel_right->xQ,add_eq_right->ABF,add_one_inj->ABG,add_right_cancel_iff->ABH,eq_zero_of_le_zero->ABI,le_mul_of_pos_left->ABJ,le_of_add_le_add_left->ABK,le_sub_one_of_lt->ABL,lt_one_iff->ABM,max_eq_right->ABN,max_le_of_le_of_le->ABO,succ_lt_succ->ABP,zero_add->ABQ
open _root_.Ne renaming symm->DZ
open _root_.Not renaming imp->Kg
open _root_.Option renaming some->AA,none->AF,map_eq_some_iff->Dp,isSome_iff_exists->Uq,map_some->aQ,getD_none->ABR
open _root_.Option.some renaming inj->Bt
open _root_.Or renaming inl->BX,inr->xR,intro_right->xS
open _root_.Prod renaming ext->RB,fst->ABS
open _root_.Pure renaming pure->BY
open _root_.PyProof renaming noPylong_small->yA
open _root_.PyProof.Rows renaming arrOf->Ah,Keyed->Au,wpS_bind->A1,wpS_pure->BD,pendingOf->Bn,seqObj->CH,SortSt->CJ,wpS->EV,envOfC->Fy,wpS_forRange->HH,wpS_mono->Hv,pairsOf->JN,wpS_modify->JO,boot_isinstance->Jr,boot_list->Kh,AllBare->Lb,ltAt'->Lc,wpS_get->Ld,failedOf->MV,reverseSlice'->MW,SortKind->Oy,boot_sorted->Oz,callWith_type1->O0,listUpdate_at->O1,setArr->O2,wpS_lift->O3,IntsAre->RC,Call_->Ur,IsTup->Us,KeyOrd->Ut,elem'->Uu,get?_update_seq->Uv,pairsOf_toList->Uw,seqEpoch_at->Ux,boot_int->aS,boot_max->aT,boot_range->aU,keyKind'->aV,kindOf->aW,mirror->aX,setPending->aY,slot_tuple_getitem->aZ,Subscript_->xT,boot_bool->xU,boot_min->xV,elem'_eq->xW,ksk_tail->xX,listItems_at->xY,lt_int->xZ,mem_zip_self->x5,sortedHeap->x9,entry_list_sort->ABW,eqGives_str->ABY,getElem?_bubble->ABZ,getElem?_mirror_all->ABa,keyLt'_oneType->ABb,lt_str->ABc,reverseSlice'_eq->ABf,slicePart_none->ABg,slot_list_sort->ABh,subscriptTail_builtinR->ABi,boot_sum->ADJ,callWith_builtin1->ADK
open _root_.PyProof.Rows.IsTup renaming new->ABT
open _root_.PyProof.Rows.KeyOrd renaming kle_trans->Gp,kle_of_klt->Jq,kle_refl->MU,klt_of_kle_of_klt->ABU
open _root_.PyProof.Rows.SortSt renaming mk'->aR
open _root_.PySem renaming Addr->AB,Str->AE,Value->AJ,Shared->AV,model->Ak,wpAny->Am,sizeLine->Az,Obj->A2,wpAny_bind->A6,Heap->A8,Expr->A9,Paired->BF,eval->BI,World->Bm,starEach->By,Program->CI,Pos->CP,Around->Cf,Stmt->Cg,wpAny_pure->Ci,Sem->Cz,Env->DL,sizeLine_eq->D8,backTo->Eo,wpAny_mono->Ep,compareOp->E7,Scope->FR,binaryOp->GX,boot_len->GY,cLine->Gq,Tok->HI,FuncData->Hw,call->Ir,PyData->JP,Model->Jt,attributeBase->Jv,mainGlobals->Km,sysModules->Kn,Keyword->Lf,NameKind->Lg,IsPart->MX,call_meets->MZ,codeAny->Ma,atKey->Nm,foldedSetIterable->Nn,getItem->Np,lookup_relabel_local->Nq,swapsWith->Nr,wpAny_Call_Name_kw->Nt,backToKw->O6,bindC->O7,bindL->O8,bootBuiltins->O9,callerA->PB,codeAny_mono->PC,keywordEach->PD,mem_of_lookup->PF,sliceBounds->PH,typeOf->PJ,wpAny_holding->PK,wpAny_passesOwn->PL,wpAny_rule->PM,wpAny_truthy_bool->PN,BindsTo->RD,valueAt->RO,wpAny_execs_nil->RP,CmpOp->Uy,Fin->U0,assignEach->U2,isTrue->U3,tupleKind->U4,typeIs_str->U5,wpAny_call->U6,DictEntry->bF,IsRangeIter->bI,Params->bK,PlainAttrs->bL,Result->bM,behindInMarks->b7,getMethod->b8,leaving->b9,noteFrame->cA,numAt_eq->cB,pyIter->cC,setFlight->cD,subscripted->cE,wpAny_Call_method->cF,wpAny_loadPart_at->cG,wpAny_newList->cH,ItemsOf->yN,Within->y9,bindArgs->zA,builtinsNs->zB,call_meetsIn->zC,cellsFrom->zD,closureFor->zE,codeAny_builtin->zF,collect->zG,evalArgs_none->zH,getAttr->zI,holding->zJ,letOwnedTupleGo->zK,nums_intItems->zL,operate->zM,setField->zN,standAt->zO,tupleKind_room_in1->zP,typeIs_int->zQ,unaryOp->zR,wpAny_Name->zS,wpAny_attempt->zT,wpAny_execs_cons->zU,wpAny_field->zV,wpAny_newObj_type->zW,wpAny_standAt->zZ,boundAndCalled->ACj,call_list_seq->ACk,checkBuiltinCall->ACm,codeAny_call_builtin->ACn,frameOf->ACq,getAttrByItsOwn->ACr,intBits_le_64->ACs,list_append->ACt,method_meetsIn->ACu,noFill_tuple_add->ACv,recursionLimit->ACw,richCompare_meets_room->ACx,seq_tuple_add->ACz,slot_list_getitem->AC0,wpAny_Expr_any->AC1,wpAny_assign_Name->AC2,wpAny_call_entry->AC3,wpAny_forIn_list->AC4,wpAny_loadPart->AC5,wpAny_newTuple->AC6,wpAny_pyIter_enum->AC7,wpAny_pyIter_range->AC8,wpAny_pyIter_rangeiter->AC9,wpAny_pyNext_range_end->ADA
open _root_.PySem.AutoListH renaming list___mul___list_int_3->ADL
open _root_.PySem.Builtin.List renaming listTooLong->yB,listFitsIndex->ADM
open _root_.PySem.Builtin.Range renaming rangeSize->bA,small->bB,rangeFitsLong->ABj
open _root_.PySem.Builtin.Slice renaming sliceAdjust->yC,slicePlaces->yD,sliceApplied->ADN,slicePartIndex->ADO
open _root_.PySem.Builtin.Str renaming occurrences->bC
open _root_.PySem.Builtin.Tuple renaming tupleCompareSizes->ADP,tupleItemsOf->ADQ
open _root_.PySem.Calls renaming spliced_cons->Nj,spliced_nil->O4,callWith_builtin->bD,evalArgs_plain->bE,Name_function_global->ABk
open _root_.PySem.Challenge renaming rw_brooktally_k34_whole_many_hands->ABl,pw_brooktally_k34_whole_many_hands->ADR
open _root_.PySem.DictEntry renaming refKey->ADS
open _root_.PySem.EntryCells renaming newEntry->yE
open _root_.PySem.EqMixed renaming eq_bool_str->ADT,eq_int_str->ADU,eq_str_bool->ADV,eq_str_int->ADW,ne_bool_str->ADX,ne_int_str->ADY,ne_str_bool->ADZ,ne_str_int->ADa
open _root_.PySem.EqNone renaming eq_bool_none->ADb,eq_int_none->ADc,eq_none_bool->ADd,eq_none_int->ADe,eq_none_none->ADf,eq_none_str->ADg,eq_str_none->ADh,ne_bool_none->ADi,ne_int_none->ADj,ne_none_bool->ADk,ne_none_int->ADl,ne_none_none->ADm,ne_none_str->ADn,ne_str_none->ADo
open _root_.PySem.F renaming plainAttrs_list->Le,slot_list_extend->O5,type_list_extend->RE,slot_list_append->Uz,plainAttrs_dict->bG,slot_dict_get->yF,slot_gs_get->yG,typeOf_object_class->yH,type_list_append->yI,args_dict_get_3->ABm,args_list_append_2->ABn,args_tuple_add_2->ABo,attrBase_ValueError->ABp,entry_dict_get->ABq,entry_list_append->ABr,entry_tuple_add->ABs,entry_tuple_lt->ABt,excBase_ValueError->ABu,plainAttrs_str->ABv,slot_dict_items->ABw,slot_dict_pop->ABx,slot_dict_values->ABy,slot_int_rmul->ABz,slot_list_clear->AB0,slot_str_find->AB1,slot_str_index->AB2,slot_tuple_add->AB3,slot_tuple_index->AB4,slot_tuple_lt->AB5
open _root_.PySem.Flow renaming brk->Im,cont->Io,next->Ip,ret->Iq
open _root_.PySem.Heap renaming lt_size->B7,get?_push_of_some->Cb,get?_push_size->Fe,FlyingW->Js,SameBut->U1,HeldW->yJ,get?_update_ne->yK,size_push->yL,get?_none_of_le->AB6,get?_some_iff->AB7,get?_update_other->AB8
open _root_.PySem.Heap.DictOf renaming new->ADp
open _root_.PySem.Heap.IsSliceOf renaming new->ADq
open _root_.PySem.Heap.SameBut renaming update->bH
open _root_.PySem.IsL renaming update->AB9
open _root_.PySem.IsRange renaming new->yM
open _root_.PySem.MeetsSeq.EqGives renaming int->ADr
open _root_.PySem.NameKind renaming free->MY,cell->bJ
open _root_.PySem.Obj renaming mapSeq->EK,mapFields->ACA
open _root_.PySem.Paired renaming cons->Bo,nil->EL,length->Hz,snoc->ACB
open _root_.PySem.PassesOwn renaming never->Dc
open _root_.PySem.PyData renaming depthAll->GW,canLayAll0->IA,canLay0->Ki,depth->Kj,int->Nk,strOk->RF,eqv->yO,eqvAll->ACC
open _root_.PySem.SeqAt renaming shaped->Kk,EqAt->bN,eqv_refl->AD7
open _root_.PySem.SeqAt.EqAt renaming int_str->ACD,same->ACE,str_int->ACF,bool_bool->ADs,bool_int->ADt,bool_none->ADu,bool_str->ADv,int_bool->ADw,int_int->ADx,int_none->ADy,none_bool->ADz,none_int->AD0,none_str->AD1,str_bool->AD2,str_none->AD3,str_str->AD4
open _root_.PySem.SeqAt.RcNeAt renaming lists->AD5,lists_lengths->AD6
open _root_.PySem.Str renaming length_append->bO,length->ACG
open _root_.PySem.StrLaws renaming sliceText->ACH
open _root_.PySem.Txt renaming slice->Kl
open _root_.PySem.Value renaming ref->DM,bool->RG,int->RH,str->RI,type->bP,float->yP,none->yQ,bytes->ACI,isInt->ACJ,isStrOf->ACK
open _root_.PySem.Value.ref renaming inj->AD8
open _root_.PySem.W renaming Frag->An,findIn->HJ,kia_one->Ju,kitOne->Lh,fnOf->Nl,Looks->RJ,OpenLaw->RL,instObj->RM,keepIn->RN,KatLex->bQ,callWith_K->bR,clsIn->bS,codeIn->bT,emptyDict->bU,excIn->bV,kat_cons->bW,kat_kind->bX,lookIn->bY,plainGet->bZ,subIn->b0,WalkO->yS,hasDictIn->yT,isFn->yU,kat_go->yV,kat_no->yW,kat_one->yX,kat_yes->yY,looks_findIn->yZ,mg_of->y3,plainGet_of->y4,takerIn->y8,KatTups->ACL,callWith_K0->ACP,cellsFrom_some->ACQ,exmOne->ACR,handedIn->ACS,hideAll->ACT,hideAll_get->ACU,kas_kind->ACV,kat_lt->ACW,kat_nil->ACX,kdl_dict->ACY,kitx_dict->ACZ,kitx_list->ACa,looks_subIn->ACb,makesIn->ACc,methodCall_KW->ACd,of_hideAll->ACe,plainOver->ACf
open _root_.PySem.W.KatTups renaming cons->ACN
open _root_.PySem.W.Looks renaming ld->yR,here->AD9
open _root_.PySem.W.WData renaming int->ACO
open _root_.PySem.Walks renaming range->ACg,strAscii->ACh,strWide->ACi
open _root_.PySem.Within renaming cons->AEA
open _root_.StateT renaming run_pure->ADB
open _root_.Std.Legacy.Range renaming forIn_eq_forIn_range'->AEB,size->AEC
open _root_.Sum renaming inr->Bx,inl->Co
open _root_.Sum.inl renaming inj->JQ
open _root_.Sum.inr renaming inj->Gr
open _root_.True renaming intro->HM
noncomputable def AED:=@if_neg
noncomputable def AEE:=@if_pos
noncomputable def AEF:=@decide_eq_true
noncomputable def AEG:=@congrArg
noncomputable def AEH:=@decide_eq_false
noncomputable def AEI:=@of_decide_eq_true
noncomputable def AEJ:=@if_false
noncomputable def AEK:=@decide_eq_true_eq
noncomputable def AEL:=@if_true
noncomputable def AEM:=@of_decide_eq_false
noncomputable def AEN:=@lt_of_lt_of_eq
noncomputable def AEO:=@beq_iff_eq
noncomputable def AEP:=@beq_eq_false_iff_ne
noncomputable def AEQ:=@le_of_eq_of_le
noncomputable def AER:=@or_false
noncomputable def AES:=@bne_self_eq_false
noncomputable def AET:=@getElem?_pos
noncomputable def AEU:=@le_of_le_of_eq
structure Xz(p:Prop):Prop where go:p->False
theorem oN(h:Xz p->False):p:=Nx λg=>h ⟨g⟩
section
set_option hygiene false in
local macro_rules | `(tactic| lk) => `(tactic| refine oN fun nG0 => ?_)
set_option hygiene false in
local macro_rules | `(tactic| k_in) => `(tactic| (rename Xz _ => nG0; refine nG0.go ?_; try clear nG0))
local macro_rules | `(tactic| show $t) => `(tactic| refine $t)
inductive FZ{a:Type}(A B:a->Prop):Prop|mk(a:a)(_:A a)(_:B a)
inductive Jf{a:Type}(A B C:a->Prop):Prop|mk(a:a)(_:A a)(_:B a)(_:C a)
inductive X5{a:Type}(A B C D:a->Prop):Prop|mk(a:a)(_:A a)(_:B a)(_:C a)(_:D a)
inductive LF{a b:Type}(A B:a->b->Prop):Prop|mk(a:a)(b:b)(_:A a b)(_:B a b)
inductive Ei{a b:Type}(A B C:a->b->Prop):Prop|mk(a:a)(b:b)(_:A a b)(_:B a b)(_:C a b)
inductive Hh{a b:Type}(A B C D:a->b->Prop):Prop|mk(a:a)(b:b)(_:A a b)(_:B a b)(_:C a b)(_:D a b)
inductive TC{a b:Type}(A B C D E:a->b->Prop):Prop|mk(a:a)(b:b)(_:A a b)(_:B a b)(_:C a b)(_:D a b)(_:E a b)
inductive QQ{a b:Type}(A B C D E F:a->b->Prop):Prop|mk(a:a)(b:b)(_:A a b)(_:B a b)(_:C a b)(_:D a b)(_:E a b)(_:F a b)
inductive LG{a b c:Type}(A B C:a->b->c->Prop):Prop|mk(a:a)(b:b)(c:c)(_:A a b c)(_:B a b c)(_:C a b c)
inductive KP{a b c:Type}(A B C D:a->b->c->Prop):Prop|mk(a:a)(b:b)(c:c)(_:A a b c)(_:B a b c)(_:C a b c)(_:D a b c)
inductive FK{a b c:Type}(A B C D E:a->b->c->Prop):Prop|mk(a:a)(b:b)(c:c)(_:A a b c)(_:B a b c)(_:C a b c)(_:D a b c)(_:E a b c)
inductive TF{a b c:Type}(A B C D E F:a->b->c->Prop):Prop|mk(a:a)(b:b)(c:c)(_:A a b c)(_:B a b c)(_:C a b c)(_:D a b c)(_:E a b c)(_:F a b c)
inductive X6{a b c:Type}(A B C D E F G:a->b->c->Prop):Prop|mk(a:a)(b:b)(c:c)(_:A a b c)(_:B a b c)(_:C a b c)(_:D a b c)(_:E a b c)(_:F a b c)(_:G a b c)
inductive ON{a b c d:Type}(A B C D E:a->b->c->d->Prop):Prop|mk(a:a)(b:b)(c:c)(d:d)(_:A a b c d)(_:B a b c d)(_:C a b c d)(_:D a b c d)(_:E a b c d)
inductive OO{a b c d:Type}(A B C D E F:a->b->c->d->Prop):Prop|mk(a:a)(b:b)(c:c)(d:d)(_:A a b c d)(_:B a b c d)(_:C a b c d)(_:D a b c d)(_:E a b c d)(_:F a b c d)
inductive QR{a b c d:Type}(A B C D E F G:a->b->c->d->Prop):Prop|mk(a:a)(b:b)(c:c)(d:d)(_:A a b c d)(_:B a b c d)(_:C a b c d)(_:D a b c d)(_:E a b c d)(_:F a b c d)(_:G a b c d)
inductive QS{a b c d:Type}(A B C D E F G H:a->b->c->d->Prop):Prop|mk(a:a)(b:b)(c:c)(d:d)(_:A a b c d)(_:B a b c d)(_:C a b c d)(_:D a b c d)(_:E a b c d)(_:F a b c d)(_:G a b c d)(_:H a b c d)
inductive TH{a b c d e:Type}(A B C D:a->b->c->d->e->Prop):Prop|mk(a:a)(b:b)(c:c)(d:d)(e:e)(_:A a b c d e)(_:B a b c d e)(_:C a b c d e)(_:D a b c d e)
inductive OP{a b c d e:Type}(A B C D E F:a->b->c->d->e->Prop):Prop|mk(a:a)(b:b)(c:c)(d:d)(e:e)(_:A a b c d e)(_:B a b c d e)(_:C a b c d e)(_:D a b c d e)(_:E a b c d e)(_:F a b c d e)
inductive TJ{a b c d e:Type}(A B C D E F G:a->b->c->d->e->Prop):Prop|mk(a:a)(b:b)(c:c)(d:d)(e:e)(_:A a b c d e)(_:B a b c d e)(_:C a b c d e)(_:D a b c d e)(_:E a b c d e)(_:F a b c d e)(_:G a b c d e)
inductive X7{a b c d e:Type}(A B C D E F G H:a->b->c->d->e->Prop):Prop|mk(a:a)(b:b)(c:c)(d:d)(e:e)(_:A a b c d e)(_:B a b c d e)(_:C a b c d e)(_:D a b c d e)(_:E a b c d e)(_:F a b c d e)(_:G a b c d e)(_:H a b c d e)
inductive TK{a b c d e f:Type}(A B C D:a->b->c->d->e->f->Prop):Prop|mk(a:a)(b:b)(c:c)(d:d)(e:e)(f:f)(_:A a b c d e f)(_:B a b c d e f)(_:C a b c d e f)(_:D a b c d e f)
inductive TL{a b c d e f:Type}(A B C D E F:a->b->c->d->e->f->Prop):Prop|mk(a:a)(b:b)(c:c)(d:d)(e:e)(f:f)(_:A a b c d e f)(_:B a b c d e f)(_:C a b c d e f)(_:D a b c d e f)(_:E a b c d e f)(_:F a b c d e f)
abbrev AL:=Sum Int AE
noncomputable def LM:AL->AJ->Bool|.inl k,v=>ACJ k v|.inr x,v=>ACK x v
noncomputable def rG(w:Bm):AL->Int|.inl k=>hashInt k|.inr x=>hashStr w x
theorem Ji:∀{k:AL}{v:AJ},LM k v=AI->(∃i t,k=Co i/\v=RH i t)\/(∃x t,k=Bx x/\v=RI x t)|.inl i,v,h=>by obtain⟨t,e⟩:=Value.isInt_shape h;show .inl ⟨i,t,rfl,e⟩|.inr x,v,h=>by obtain⟨t,e⟩:=Value.isStrOf_shape h;show .inr ⟨x,t,rfl,e⟩
theorem rH(i:Int)(t:HI):LM (.inl i) (.int i t)=AI:=by simp[LM,ACJ]
theorem rJ(x:AE)(t:HI):LM (.inr x) (.str x t)=AI:=by simp[LM,ACK]
theorem rK(a b:Int):Ac ((Co a:AL)=Co b)=(a==b):=by
 by_cases e:a=b;.subst e;simp
 . have h:¬(Co a:AL)=Co b:=λq=>e (JQ q);rw[AEH h];show(AEP.mpr e).symm
theorem rN(a b:AE):Ac ((Bx a:AL)=Bx b)=Ac (a=b):=by
 by_cases e:a=b;.simp
 . have h:¬(Bx a:AL)=Bx b:=λq=>e (Gr q);rw[AEH h,AEH e]
theorem rL(a:Int)(b:AE):Ac ((Co a:AL)=Bx b)=AM:=AEH (λq=>nomatch q)
theorem rM(a:AE)(b:Int):Ac ((Bx a:AL)=Co b)=AM:=AEH (λq=>nomatch q)
noncomputable def Ek(prog:CI)(w:Bm):KeyKind prog w AL where
  is:=LM
  hash:=rG w
  inj:=λv a b U J=>by
    rcases Ji U with⟨i,t,rfl,rfl⟩|⟨x,t,rfl,rfl⟩
    . rcases Ji J with⟨j,u,rfl,e⟩|⟨y,u,rfl,e⟩;.injection e with e1 _;rw[e1]
      .show nomatch e
    . rcases Ji J with⟨j,u,rfl,e⟩|⟨y,u,rfl,e⟩;.show nomatch e
      .injection e with e1 _;rw[e1]
  byValue:=λk v h=>by rcases Ji h with⟨i,t,rfl,rfl⟩|⟨x,t,rfl,rfl⟩<;>rfl
  pyHash:=λD h=>by
    rcases Ji D with⟨i,t,rfl,rfl⟩|⟨x,t,rfl,rfl⟩;.show wpAny_pyHash_int h
    .show wpAny_pyHash_str h
  eqBool:=λV D h=>by
    rcases Ji V with⟨i,t,rfl,rfl⟩|⟨x,t,rfl,rfl⟩
    . rcases Ji D with⟨j,u,rfl,rfl⟩|⟨y,u,rfl,rfl⟩;.rw[rK]at h;show wpAny_eqBool_int h
      .rw[rL]at h;show ACD i t y u _ _ _ _ h
    . rcases Ji D with⟨j,u,rfl,rfl⟩|⟨y,u,rfl,rfl⟩;.rw[rM]at h;show ACF x t j u _ _ _ _ h
      .rw[rN]at h;show wpAny_eqBool_str h
  «strs»:=λk x t v h=>by
    rcases Ji h with⟨i,u,rfl,e⟩|⟨y,u,rfl,e⟩;.show nomatch e
    . injection e with e1 _;subst e1;cases v<;>rfl
theorem sF(prog:CI)(w:Bm)(i:Int)(t:HI):(Ek prog w).is (.inl i) (.int i t)=AI:=rH i t
theorem sG(prog:CI)(w:Bm)(x:AE)(t:HI):(Ek prog w).is (.inr x) (.str x t)=AI:=rJ x t
inductive AD where|non|bl(b:Bool)|int(i:Int)|str(x:AE)|byt(b:Array UInt8)|flt(b:UInt64)|ref(a:AB)|ty(n:String)deriving DecidableEq
def BU:AD->AJ->Prop|.non,u=>u=yQ|.bl b,u=>u=RG b|.int i,u=>∃t,u=RH i t|.str x,u=>∃t,u=RI x t|.byt b,u=>∃t,u=ACI b t|.flt b,u=>∃t,u=yP b t|.ref a,u=>u=DM a|.ty n,u=>u=bP n
abbrev BM:List AD->List AJ->Prop:=BF BU
theorem BM.aq(r:BM xs D):xs.length=D.length:=Hz r
theorem BM.wx:∀{xs:List AD}{D:List AJ}{i:Nat}{x:AD},BM xs D->xs[i]?=AA x->∃u,D[i]?=AA u/\BU x u|_,_,_,_,.nil,e=>by simp at e|_,_,0,_,.cons r _,e=>by simp at e;subst e;show⟨_,rfl,r⟩|_,_,i+1,x,.cons _ t,e=>by lk;obtain⟨u,J,U⟩:=BM.wx t (by simpa using e);k_in;show⟨u,by simpa using J,U⟩
theorem BM.qu(h:BM xs D)(s:BM ys J):BM (xs++ys) (D++J):=by induction h with|nil=>show s|cons r _ U=>show .cons r U
theorem BM.aee:∀{xs:List AD}{D:List AJ}(n:Nat),BM xs D->BM (xs.take n) (D.take n)|_,_,0,_=>.nil|_,_,_+1,.nil=>.nil|_,_,n+1,.cons r t=>.cons r (BM.aee n t)
theorem BM.aam:∀{xs:List AD}{D:List AJ}(n:Nat),BM xs D->BM (xs.drop n) (D.drop n)|_,_,0,r=>r|_,_,_+1,.nil=>.nil|_,_,n+1,.cons _ t=>BM.aam n t
def KN:Option AD->Option AJ->Prop|AA v,AA u=>BU v u|AF,AF=>True|_,_=>False
def Ey:List (D×AD)->List (D×AJ)->Prop:=BF λ(p:D×AD)(q:D×AJ)=>p.1=q.1/\BU p.2 q.2
noncomputable def Ar:AL->AD|.inl i=>.int i|.inr x=>.str x
inductive BL where|lst(xs:List AD)|tup(xs:List AD)|dK(kvs:List (AL×AD))|dT(kvs:List (List AL×AD))|set(S:Int->Bool)(n:Nat)|ins(C dx:AB)(fs:List (AE×AD))|own(x:AB)|xd(fs:List (AE×AD))|met(f x:AB)|rng(lo hi:Int)|frz(o:A2)(u:BL)|tbl(ps:Array AJ)|ext(φ:A8->Prop)
abbrev AG:=AB->Option BL
noncomputable def AK(H:AG)(a:AB)(o:BL):AG:=λb=>if b=a then AA o else H b
theorem AZ:AK H a o a=AA o:=by unfold AK;rw[AEE rfl]
theorem AU(h:b≠a):AK H a o b=H b:=by unfold AK;rw[AED h]
theorem Qv:AK (AK H a o) a u=AK H a u:=by funext b;unfold AK;split<;>rfl
theorem sJ{H:AG}(h:H a=AA o)(D:H b=AA u)(d:o≠u):a≠b:=by intro e;subst e;rw[h]at D;show d (Bt D)
theorem A4{H:AG}(h:H a=AA o)(D:H b=AF):a≠b:=by intro e;subst e;rw[h]at D;cases D
section
variable(P:CI)(w:Bm)
def Cv(H:AG)(h:A8)(a:AB):BL->Prop|.lst xs=>xs.length<=Az/\∃(D:List AJ)(n:Nat),BM xs D/\h.get? a=AA {cls:=.type "list",data:=.seq D.toArray n}|.tup xs=>xs.length<=Az/\∃D:List AJ,BM xs D/\Us h a D.toArray|.dK kvs=>kvs.length<=Az/\(a==Kn)=AM/\∃U,Ey kvs U/\h.DictOf (Ek P w) a U|.dT kvs=>kvs.length<=Az/\(a==Kn)=AM/\∃xs:List (List AL×AB×AJ),BF (λ(p:List AL×AD)(q:List AL×AB×AJ)=>p.1=q.1/\H q.2.1=AA (.tup (p.1.map Ar))/\BU p.2 q.2.2) kvs xs/\∃o es ep,h.get? a=AA o/\o.ExactDict/\o.data=.dict es ep/\es.toList=xs.map (entryOfKey (U4 (Ek P w)))/\(xs.map (·.1)).Nodup|.set S n=>h.SetOf (intKind P w) a S n|.ins C dx fs=>H dx=AA (.own a)/\fs.length<=1000/\dx≠a/\h.get? a=AA (RM C dx)/\∃mA,h.Ns1 dx mA/\(∀f,KN (fs.lookup f) (mA f))/\y9 mA (fs.map (·.1))|.own _=>∃o,h.get? a=AA o|.xd fs=>∃mA,h.Ns1 a mA/\∀f,KN (fs.lookup f) (mA f)|.rng lo hi=>∃t u v,h.get? a=AA {cls:=.type "range",data:=.fields #[.int lo t,.int hi u,.int 1 v]}|.frz o u=>h.get? a=AA o/\Cv H h a u|.tbl ps=>h.get? a=AA {cls:=.none,data:=.fields ps}|.met f x=>h.get? a=AA (W.methodObj (.ref f) (.ref x))|.ext J=>J h/\(∃o,h.get? a=AA o)/\∀h1 h2:A8,J h1->(∀o,h1.get? a=AA o->h2.get? a=AA o)->J h2
end
def Cr(P:CI)(w:Bm)(H:AG)(h:A8):Prop:=∀a o,H a=AA o->Cv P w H h a o
theorem Cv.lt(x:Cv P w H h a o):a<h.objs.size:=by cases o with|lst U=>obtain⟨_,_,_,_,e⟩:=x;show B7 e|tup U=>obtain⟨_,_,_,p⟩:=x;show p.lt|dK D=>obtain⟨_,_,_,_,o,_,_,e,_⟩:=x;show B7 e|dT D=>obtain⟨_,_,_,_,o,_,_,e,_⟩:=x;show B7 e|set S n=>obtain⟨o,_,_,_,e,_⟩:=x;show B7 e|ins C V J=>obtain⟨_,_,_,e,_⟩:=x;show B7 e|own y=>obtain⟨_,e⟩:=x;show B7 e|xd J=>obtain⟨_,⟨_,_,_,e,_⟩,_⟩:=x;show B7 e|rng Y W=>obtain⟨_,_,_,e⟩:=x;show B7 e|frz Z u=>obtain⟨e,_⟩:=x;show B7 e|tbl z=>show B7 (show h.get? a=AA _ from x)|met f y=>show B7 (show h.get? a=AA _ from x)|ext A=>obtain⟨_,⟨_,e⟩,_⟩:=x;show B7 e
theorem X2{F G:α->U->Prop}(h:BF F D J)(f:∀a b,F a b->G a b):BF G D J:=by induction h with|nil=>show .nil|cons r _ V=>show .cons (f _ _ r) V
theorem Cv.wg(x:Cv P w H h a o)(k:∀b u,(b=a\/H b=AA (.own a))->h.get? b=AA u->F.get? b=AA u)(G:∀b,H b=AA (.own a)->H' b=AA (.own a))(I:∀b xs,H b=AA (.tup xs)->H' b=AA (.tup xs)):Cv P w H' F a o:=by induction o with|lst xs=>obtain⟨z,V,n,r,e⟩:=x;show⟨z,V,n,r,k _ _ (.inl rfl) e⟩|tup xs=>obtain⟨z,V,r,D,e,c⟩:=x;show⟨z,V,r,D,k _ _ (.inl rfl) e,c⟩|dK W=>obtain⟨z,y,M,r,D,U,J,e,c⟩:=x;show⟨z,y,M,r,D,U,J,k _ _ (.inl rfl) e,c⟩|dT W=>lk;obtain⟨z,y,xs,r,D,U,J,e,c⟩:=x;k_in;show⟨z,y,xs,X2 r λp q z=>⟨z.1,I _ _ z.2.1,z.2.2⟩,D,U,J,k _ _ (.inl rfl) e,c⟩|set S n=>obtain⟨D,U,J,t,e,c⟩:=x;show⟨D,U,J,t,k _ _ (.inl rfl) e,c⟩|ins C N E=>lk;obtain⟨d,z,L,e,Y,⟨Z,U,J,B,c⟩,r⟩:=x;k_in;show⟨G _ d,z,L,k _ _ (.inl rfl) e,Y,⟨Z,U,J,k _ _ (.inr d) B,c⟩,r⟩|own y=>obtain⟨D,e⟩:=x;show⟨D,k _ _ (.inl rfl) e⟩|xd E=>obtain⟨Y,⟨Z,U,J,e,c⟩,r⟩:=x;show⟨Y,⟨Z,U,J,k _ _ (.inl rfl) e,c⟩,r⟩|rng Q O=>obtain⟨t,u,v,e⟩:=x;show⟨t,u,v,k _ _ (.inl rfl) e⟩|frz D u K=>obtain⟨e,q⟩:=x;show⟨k _ _ (.inl rfl) e,K q⟩|tbl R=>have e:=x;show k a _ (.inl rfl) e|met f y=>have e:=x;show k a _ (.inl rfl) e|ext T=>obtain⟨p,⟨o,e⟩,A⟩:=x;show⟨A _ _ p λo q=>k _ _ (.inl rfl) q,⟨o,k _ _ (.inl rfl) e⟩,A⟩
theorem Cr.lt(x:Cr P w H h)(e:H a=AA o):a<h.objs.size:=(x a o e).lt
theorem Cr.bw(x:Cr P w H h)(e:h.objs.size<=a):H a=AF:=by cases q:H a with|none=>rfl|some u=>show absurd (BK (x.lt q) e) (GI _)
theorem Cr.ig(x:Cr P w H h)(k:∀b u,h.get? b=AA u->D.get? b=AA u):Cr P w H D:=λa o e=>(x a o e).wg (λb u O q=>k b u q) (λO q=>q) λO O q=>q
theorem Cr.oz(x:Cr P w H h)(k:∀b u,h.get? b=AA u->J.get? b=AA u)(W:h.objs.size<=a)(D:Cv P w (AK H a o) J a o):Cr P w (AK H a o) J:=λb u e=>by
 have V:=x.bw W;by_cases U:b=a;.subst U;rw[AZ]at e;cases e;show D
 . rw[AU U]at e;show(x b u e).wg (λc v O q=>k c v q) (λc q=>by rw[AU (A4 q V)];show q) λc Y q=>by rw[AU (A4 q V)];show q
def Fu(H:AG)(a:AB)(u:BL):Prop:=H a=AA u\/∃o,H a=AA (.frz o u)
theorem Fu.ok(r:Fu H a u)(x:Cr P w H h):Cv P w H h a u:=by
 rcases r with r|⟨o,r⟩;.show x a u r
 . obtain⟨_,q⟩:=x a _ r;show q
def OI:Option BL->Prop|AA (.lst _)=>True|AA (.dK _)=>True|AA (.dT _)=>True|AA (.set _ _)=>True|AA (.ins _ _ _)=>True|AA (.ext _)=>True|_=>False
theorem Cr.wo(K:Cr P w H h)(Y:OI (H x))(E:e=x\/H e=AA (.own x))(k:∀b u,b≠e->h.get? b=AA u->A.get? b=AA u)(B:∃u,A.get? e=AA u)(C:Cv P w (AK H x F) A x F):Cr P w (AK H x F) A:=λb u q=>by
  have J:∀c y,H c=AA (.own y)->c≠x:=λc y r z=>by subst z;rw[r]at Y;show Y
  have U:∀c Z,H c=AA (.tup Z)->c≠x:=λc Z r z=>by subst z;rw[r]at Y;show Y
  by_cases V:b=x;.subst V;rw[AZ]at q;cases q;show C
  . rw[AU V]at q;by_cases D:b=e
    . have G:H b=AA (.own x):=by
        rcases E with z|z;.show absurd (D.trans z) V
        .rw[D];show z
      rw[q]at G;cases G;obtain⟨v,I⟩:=B;show⟨v,by rw[D];show I⟩
    . show(K b u q).wg (λc v W r=>k c v ?_ r) (λc r=>by rw[AU (J c b r)];show r) λc Z r=>by rw[AU (U c Z r)];show r
      rcases W with rfl|W;.show D
      . rintro rfl;rcases E with z|z;.show J c b W z
        .rw[W]at z;cases z;show V rfl
structure GB(fs ex:List AB)(H H':AG)(h h':A8):Prop where
 ae:∀b o,h.get? b=AA o->H b=AF->b∉fs->b∉ex->h'.get? b=AA o
 tw:∀b o,h.get? b=AA o->H b=AF->b∈fs->b∉ex->∃sl,h'.get? b=AA {o with slots:=sl}ar:∀b o,h.get? b=AA o->H b=AF->b∉ex->H' b=AF
 gw:∀b o,h.get? b=AA o->b∉ex->∃o',h'.get? b=AA o'
 uj:∀b xs,H b=AA (.tup xs)->H' b=AA (.tup xs)qw:∀b o u,H b=AA (.frz o u)->H' b=AA (.frz o u)ui:∀b ps,H b=AA (.tbl ps)->∃more,H' b=AA (.tbl (ps++more))
theorem GB.acp(u:GB V ex H Z h W)(q:h.get? b=AA D)(n:H b=AF)(U:b∉ex):∃Y,W.get? b=AA {D with slots:=Y}:=by
 by_cases J:b∈V;.show u.tw b D q n J U
 .show⟨_,u.ae b D q n J U⟩
theorem QN(k:∀b u,h.get? b=AA u->J.get? b=AA u):GB U ex H H h J:=⟨λb D q O O O=>k b D q,λb D q O O O=>⟨_,k b D q⟩,λO O O n O=>n,λb D q O=>⟨D,k b D q⟩,λO O q=>q,λO O O q=>q,λO V q=>⟨#[],by rw[q];simp⟩⟩
theorem oI:GB D ex H H h h:=QN λO O q=>q
theorem oH(k:∀b u,h.get? b=AA u->J.get? b=AA u)(U:h.objs.size<=a)(D:H a=AF):GB W ex H (AK H a o) h J where
 ae:=λb u q O O O=>k b u q
 tw:=λb u q O O O=>⟨_,k b u q⟩
 ar:=λb u q n O=>by rw[AU (DV (BK (B7 q) U))];show n
 gw:=λb u q O=>⟨u,k b u q⟩
 uj:=λb V q=>by rw[AU (A4 q D)];show q
 qw:=λb u V q=>by rw[AU (A4 q D)];show q
 ui:=λb Y q=>⟨#[],by rw[AU (A4 q D),q];simp⟩
theorem oJ(J:OI (H x))(A:e=x\/H e=AA (.own x))(k:∀b u,b≠e->h.get? b=AA u->W.get? b=AA u)(U:∃u,W.get? e=AA u):GB E ex H (AK H x o) h W:=by
 have Z:∀b,H b=AF->b≠x:=λb n z=>by subst z;rw[n]at J;show J
 have Y:∀b,H b=AF->b≠e:=λb n z=>by
  subst z;rcases A with r|r;.show Z b n r
  .rw[n]at r;cases r
 have V:∀b u,H b=AA u->¬OI (AA u)->b≠x:=λb u q B z=>by subst z;rw[q]at J;show B J
 show⟨λb u q n O O=>k b u (Y b n) q,λb u q n O O=>⟨_,k b u (Y b n) q⟩,λb u q n O=>by rw[AU (Z b n)];show n,λb u q O=>?_,λb C q=>by rw[AU (V b _ q λz=>z)];show q,λb u C q=>by rw[AU (V b _ q λz=>z)];show q,λb F q=>⟨#[],by rw[AU (V b _ q λz=>z),q];simp⟩⟩;by_cases D:b=e;.subst D;show U
 .show⟨u,k b u D q⟩
noncomputable def Zm(h:A8)(H:AG):List AB:=(FP h.objs.size).filter λa=>(H a).isSome
noncomputable def NG(h:A8)(H:AG):A8:=ACT h (Zm h H)
theorem qM(h:A8)(H:AG):(NG h H).objs.size=h.objs.size:=W.hideAll_size _ _
theorem qL(e:h.get? b=AA o)(n:H b=AF):(NG h H).get? b=AA o:=ACU _ e λD=>by have q:=(EH.mp D).2;rw[n]at q;simp at q
theorem sL(e:(NG h H).get? b=AA o):h.get? b=AA o/\H b=AF:=by have D:=ACe _ e;show⟨D,?_⟩;cases q:H b with|none=>rfl|some x=>have J:b∈Zm h H:=EH.mpr ⟨Z8.mpr (B7 D),by simp[q]⟩;have z:(NG h H).get? b=AF:=W.hideAll_none _ J;rw[z]at e;cases e
structure QG(K:An)(mg:AE->Option AJ)(base:A8):Prop where
 acu:K.In base
 wc:base.Ns Km mg
 ace:∃mb,base.Ns zB mb/\∀x:AE,x≠"__name__"->mb x=O9 x
 abz:base.NoLimit
structure BP where
 ai:CI
 w:Bm
 K:An
 mg:AE->Option AJ
 ag:A8
 A:Cf
 N:List AE
 s₀:AV
 H₀:AG
 af:DL
 ng:List DL
 cj:List DL
 ex:List AB
 fn:AE->Bool
 iw:Bool
 pn:List (AB×A2)xe:AJ->AV->Prop
noncomputable def C6(l:List DL):List AB:=l.filterMap (·.frame)
noncomputable abbrev BP.fs(X:BP):List AB:=C6 X.ng
def QP(D:FR)(x:AE):Prop:=D.names.lookup x=AA .local\/D.names.lookup x=AA .cell\/D.names.lookup x=AA .free
def K9(D:FR)(x:AE):Prop:=D.names.lookup x=AA .local\/D.names.lookup x=AA .cell
def oA(env:DL)(h:A8)(m:AE->Option AJ)(x:AE)(u:AJ):Prop:=(env.kindOf x=AA .local/\m x=AA u)\/((env.kindOf x=AA .cell\/env.kindOf x=AA .free)/\FZ (λc=>env.cells.lookup x=AA c) (λc=>h.IsCell c (AA u)))
structure BP.Ok(X:BP):Prop where
 vn:QG X.K X.mg X.ag
 jq:X.af.scope.kind=.function
 wc:X.af.globals=Km
 ace:X.af.builtins=zB
 jw:X.s₀.heap.objs.size<=X.af.locals
 abr:∀x y c,X.af.cells.lookup x=AA c->X.af.cells.lookup y=AA c->x=y
 acs:∀x,(X.af.kindOf x=AA .cell\/X.af.kindOf x=AA .free)->∃c,X.af.cells.lookup x=AA c
 acq:∀x c,X.fn x=AI->X.af.cells.lookup x=AA c->X.s₀.heap.objs.size<=c
 hd:X.iw=AI->X.A.handled=AF
 ir:X.A.frames=AA X.cj
 adi:X.cj=X.ng\/(X.cj=X.af::X.ng/\X.af.frame=AA X.af.locals)adq:∀b∈X.ex,b≠X.af.locals/\∀x c,X.af.cells.lookup x=AA c->c≠b
 bs:∀b o,X.ag.get? b=AA o->X.s₀.heap.get? b=AA o/\X.H₀ b=AF
 aax:X.ag.objs.size<=X.s₀.heap.objs.size
 zp:∀b o,X.ag.get? b=AA o->b∉X.ex
 zg:∀b∈X.ex,b∉X.fs
 ot:X.s₀.heap.FunFrames X.ag X.ng
 abq:∀b∈X.fs,X.H₀ b=AF
structure AX(X:BP)(pins:List (AB×A2))(σ:List (Option AD))(H:AG)(s:AV):Prop where
 ok:X.Ok
 os:s.os=X.s₀.os
 je:Lb s.gens
 ag:GB X.fs X.ex X.H₀ H X.s₀.heap s.heap
 wz:∃m,s.heap.Ns X.af.locals m/\∀(i:Nat)(x:AE)(v:AD),X.N[i]?=AA x->σ[i]?=AA (AA v)->QP X.af.scope x->∃u,BU v u/\oA X.af s.heap m x u
 ni:∀x c,X.af.cells.lookup x=AA c->∃v,s.heap.IsCell c v
 ar:H X.af.locals=AF
 ip:∀x c,X.af.cells.lookup x=AA c->H c=AF
 uc:∀p∈X.pn++pins,s.heap.get? p.1=AA p.2/\H p.1=AF/\p.1≠X.af.locals/\p.1∉X.fs/\∀v,p.2.data≠.cell v
 cq:Cr X.ai X.w H s.heap
 fq:σ.length=X.N.length
theorem BP.Ok.aes{X:BP}(J:X.Ok)(e:X.ag.get? b=AA o):b∉X.fs:=λD=>by have:=(J.ot.mem D).1;rw[e]at this;cases this
theorem AX.bs(I:AX X D J H s):∀b o,X.ag.get? b=AA o->s.heap.get? b=AA o/\H b=AF:=λb o e=>⟨I.ag.ae b o (I.ok.bs b o e).1 (I.ok.bs b o e).2 (I.ok.aes e) (I.ok.zp b o e),I.ag.ar b o (I.ok.bs b o e).1 (I.ok.bs b o e).2 (I.ok.zp b o e)⟩
theorem AX.bk(I:AX X D J H s):∀b o,X.ag.get? b=AA o->s.heap.get? b=AA o:=λb o e=>(I.bs b o e).1
theorem AX.vn(I:AX X D J H s):QG X.K X.mg X.ag:=I.ok.vn
theorem AX.oy(I:AX X D J H s):X.K.In s.heap:=I.ok.vn.acu.keeps I.bk
theorem AX.lt(I:AX X D U H s):X.af.locals<s.heap.objs.size:=let⟨_,J,_⟩:=I.wz;J.lt
theorem AX.sz(I:AX X D J H s):X.s₀.heap.objs.size<=s.heap.objs.size:=Af I.ok.jw (Bg I.lt)
theorem AX.aet(I:AX X D V H s)(h:s.heap.objs.size<=a):a∉X.fs:=λJ=>by lk;obtain⟨_,o,U,_⟩:=I.ok.ot.mem J;k_in;show absurd (BK (B7 U) (Af I.sz h)) (GI _)
theorem AX.aei(I:AX X W B H s):∀x c,X.af.cells.lookup x=AA c->c≠X.af.locals:=λx c e z=>by lk;obtain⟨v,o,V,U⟩:=I.ni x c e;obtain⟨m,⟨A,Z,Y,J,D,_⟩,_⟩:=I.wz;k_in;rw[z,J]at V;cases V;rw[D]at U;cases U
theorem AX.ot(I:AX X Y N H s):s.heap.FunFrames X.ag X.ng:=by
 have D:∀(l:List _),(∀b∈C6 l,b∈X.fs)->X.s₀.heap.FunFrames X.ag l->s.heap.FunFrames X.ag l:=by intro l;induction l with |nil=>intro _ _;trivial|cons Z r K=> intro W C;obtain⟨B,⟨L,o,V,E,F,A⟩,G⟩:=C;have J:=W L (by unfold C6;rw[Ua,V];show DI);obtain⟨M,e⟩:=I.ag.tw L o F (I.ok.abq L J) J λz=>I.ok.zg L z J;show⟨B,⟨L,_,V,E,e,A⟩,K (λb U=>W b (by unfold C6;rw[Ua,V];show En _ U)) G⟩
 show D _ (λO U=>U) I.ok.ot
theorem AX.cj(I:AX X D V H s):s.heap.FunFrames X.ag X.cj:=by
 rcases I.ok.adi with e|⟨e,J⟩;.rw[e];show I.ot
 . rw[e];lk;obtain⟨m,U,_⟩:=I.wz;k_in;show .cons (by rw[I.ok.jq];decide) J U ?_ I.ot;show AB6 (Af I.ok.aax I.ok.jw)
theorem AX.ya(I:AX X J V H s):∀b∈C6 X.cj,b∈X.af.locals::X.fs:=λb D=>by
 rcases I.ok.adi with e|⟨e,U⟩;.rw[e]at D;show En _ D
 . rw[e]at D;unfold C6 at D;rw[Ua,U]at D;show D
theorem AX.xy(I:AX X J V H s):∀b∈C6 X.cj,H b=AF:=λb D=>by
 rcases B6.mp (I.ya b D)with e|D;.rw[e];show I.ar
 . lk;obtain⟨_,o,U,_⟩:=I.ok.ot.mem D;k_in;show I.ag.ar b o U (I.ok.abq b D) λz=>I.ok.zg b z D
theorem AX.pj{X:BP}{A:List (AB×A2)}{σ:List (Option AD)}{H H':AG}{F:A8}{f:Array GenState}{t':Nat}{w:Drawn}{ch:List AB}(I:AX X A σ H s)(V:∀b∈ch,(b∈X.ex\/X.s₀.heap.objs.size<=b)/\b≠X.af.locals/\(∀x c,X.af.cells.lookup x=AA c->c≠b)/\∀p∈X.pn++A,p.1≠b)(W:∀b o,b≠X.af.locals->b∉X.fs->b∉ch->s.heap.get? b=AA o->H b=AF->F.get? b=AA o)(B:∀b o,b≠X.af.locals->b∈X.fs->b∉ch->s.heap.get? b=AA o->H b=AF->∃T,F.get? b=AA {o with slots:=T})(J:∀b o,b∉ch->s.heap.get? b=AA o->H b=AF->H' b=AF)(E:∀b o,b∉ch->s.heap.get? b=AA o->∃O,F.get? b=AA O)(Q:∀b xs,H b=AA (.tup xs)->H' b=AA (.tup xs))(L:∀b o u,H b=AA (.frz o u)->H' b=AA (.frz o u))(P:∀b ps,H b=AA (.tbl ps)->∃M,H' b=AA (.tbl (ps++M)))(ns:∀m,s.heap.Ns X.af.locals m->F.Ns X.af.locals m)(S:Cr X.ai X.w H' F)(hg:Lb f):AX X A σ H' {s with heap:=F,gens:=f,drawn:=w,toks:=t'}:=by
  have N:∀b o,X.s₀.heap.get? b=AA o->b≠X.af.locals:=λb o e=>DV (BK (B7 e) I.ok.jw);have Z:∀b o,X.s₀.heap.get? b=AA o->b∉X.ex->b∉ch:=λb o e D C=>by
    rcases(V b C).1 with z|z;.show D z
    .show absurd (BK (B7 e) z) (GI _)
  have U:∀x c,X.af.cells.lookup x=AA c->∀v,s.heap.IsCell c v->F.IsCell c v:=λx c e v⟨o,G,R⟩=>by
    have Y:=λz=>(V c z).2.2.1 x c e rfl;by_cases g:c∈X.fs
    . obtain⟨T,q⟩:=B c o (I.aei x c e) g Y G (I.ip x c e);show⟨_,q,R⟩
    .show⟨o,W c o (I.aei x c e) g Y G (I.ip x c e),R⟩
  show⟨I.ok,I.os,hg,⟨λb o e n C D=>?_,λb o e n C D=>?_,λb o e n D=>?_,λb o e D=>?_,λb xs e=>Q b xs (I.ag.uj b xs e),λb o xs e=>L b o xs (I.ag.qw b o xs e),λb ps e=>?_⟩,?_,λx c e=>?_,?_,λx c e=>?_,λp h=>?_,S,I.fq⟩;.show W b o (N b o e) C (Z b o e D) (I.ag.ae b o e n C D) (I.ag.ar b o e n D)
  . lk;obtain⟨T,e1⟩:=I.ag.tw b o e n C D;obtain⟨a,K⟩:=B b _ (N b o e) C (Z b o e D) e1 (I.ag.ar b o e n D);k_in;show⟨a,K⟩
  . obtain⟨O,e1⟩:=I.ag.gw b o e D;show J b O (Z b o e D) e1 (I.ag.ar b o e n D)
  . obtain⟨O,e1⟩:=I.ag.gw b o e D;show E b O (Z b o e D) e1
  . lk;obtain⟨m1,e1⟩:=I.ag.ui b ps e;obtain⟨m2,K⟩:=P b _ e1;k_in;show⟨_,by rw[K,Array.append_assoc]⟩
  . lk;obtain⟨m,hn,hl⟩:=I.wz;k_in;show⟨m,ns m hn,λi x v e1 K y=>?_⟩;lk;obtain⟨u,r,l⟩:=hl i x v e1 K y;k_in;show⟨u,r,?_⟩;rcases l with l|⟨k,c,e,z⟩;.show .inl l
    .show .inr ⟨k,c,e,U x c e _ z⟩
  . obtain⟨v,z⟩:=I.ni x c e;show⟨v,U x c e v z⟩
  . lk;obtain⟨m,⟨o,_,_,G,_⟩,_⟩:=I.wz;k_in;show J _ o (λz=>(V _ z).2.1 rfl) G I.ar
  . lk;obtain⟨v,o,G,R⟩:=I.ni x c e;k_in;show J c o (λz=>(V c z).2.2.1 x c e rfl) G (I.ip x c e)
  . lk;obtain⟨e,n,j,t,d⟩:=I.uc p h;k_in;have Y:=λz=>(V _ z).2.2.2 p h rfl;show⟨W _ _ j t Y e n,J _ _ Y e n,j,t,d⟩
theorem AX.un(I:AX X J F H s)(u:GB X.fs [] H H' s.heap Z)(Y:Cr X.ai X.w H' Z):AX X J F H' {s with heap:=Z,toks:=t'}:=by lk;obtain⟨m,⟨o,K,G,A,r⟩,_⟩:=id I.wz;obtain⟨N,B⟩:=u.acp A I.ar (by simp);k_in;show I.pj (ch:=[]) (λO z=>nomatch z) (λb o O W O e n=>u.ae b o e n W (by simp)) (λb o O W O e n=>u.tw b o e n W (by simp)) (λb o O e n=>u.ar b o e n (by simp)) (λb o O e=>u.gw b o e (by simp)) u.uj u.qw u.ui (λL C=>by lk;obtain⟨M,V,U,D,E⟩:=C;k_in;rw[A]at D;cases D;show⟨_,V,U,B,E⟩) Y I.je
theorem AX.adl(I:AX X D N H s)(u:GB (C6 X.cj) ch H H' s.heap C)(A:Cr X.ai X.w H' C)(K:Lb B)(U:∀b∈ch,(b∈X.ex\/X.s₀.heap.objs.size<=b)/\b≠X.af.locals/\(∀x c,X.af.cells.lookup x=AA c->c≠b)/\∀p∈X.pn++D,p.1≠b):AX X D N H' {s with heap:=C,gens:=B,drawn:=F,toks:=t'}:=by lk;obtain⟨m,⟨o,P,O,E,r⟩,_⟩:=id I.wz;obtain⟨S,Z⟩:=u.acp E I.ar λz=>(U _ z).2.1 rfl;k_in;show I.pj U (λb o Z G J e n=>u.ae b o e n (λz=>(B6.mp (I.ya b z)).elim Z G) J) (λb o i i J e n=>u.acp e n J) (λb o J e n=>u.ar b o e n J) (λb o J e=>u.gw b o e J) u.uj u.qw u.ui (λQ L=>by lk;obtain⟨R,Y,W,V,M⟩:=L;k_in;rw[E]at V;cases V;show⟨_,Y,W,Z,M⟩) A K
theorem AX.fh(I:AX X D L H s)(k:∀b o,b≠it->s.heap.get? b=AA o->Z.get? b=AA o)(G:H it=AF)(V:it≠X.af.locals)(A:it∈X.ex\/X.s₀.heap.objs.size<=it)(B:∀x c,X.af.cells.lookup x=AA c->c≠it)(C:∀p∈X.pn++D,p.1≠it):AX X D L H {s with heap:=Z,toks:=t'}:=by
  have U:∀b u,H b=AA u->b≠it:=λb u e z=>by rw[z,G]at e;cases e
  show I.pj (ch:=[it]) (λb E=>?_) (λb o O O J e O=>k b o (λz=>J (by simp[z])) e) (λb o O O J e O=>⟨_,k b o (λz=>J (by simp[z])) e⟩) (λO O O O n=>n) (λb o J e=>⟨o,k b o (λz=>J (by simp[z])) e⟩) (λO O e=>e) (λO O O e=>e) (λb M e=>⟨#[],by rw[e];simp⟩) (λm F=>?_) (λb u e=>?_) I.je
  . have e:=by simpa using E
    subst e;show⟨A,V,B,C⟩
  . lk;obtain⟨o,Y,W,K,r⟩:=F;k_in;show⟨o,Y,W,k _ o (DZ V) K,r⟩
  . show(I.cq b u e).wg (λc v J q=>k c v ?_ q) (λO q=>q) λO O q=>q;rcases J with z|z;.rw[z];show U b u e
    .show U c _ z
theorem AX.iu(I:AX X D J H s)(t:Nat):AX X D J H {s with toks:=t}:=I.un oI I.cq
theorem AX.ig(I:AX X D U H s)(k:∀b u,s.heap.get? b=AA u->J.get? b=AA u):AX X D U H {s with heap:=J,toks:=t'}:=I.un (QN k) (I.cq.ig k)
theorem AX.oz(I:AX X D W H s)(k:∀b u,s.heap.get? b=AA u->V.get? b=AA u)(J:s.heap.objs.size<=a)(U:Cv X.ai X.w (AK H a o) V a o):AX X D W (AK H a o) {s with heap:=V,toks:=t'}:=I.un (oH k J (I.cq.bw J)) (I.cq.oz k J U)
theorem AX.wo(I:AX X J Z H s)(Y:OI (H x))(W:e=x\/H e=AA (.own x))(k:∀b u,b≠e->s.heap.get? b=AA u->U.get? b=AA u)(D:∃u,U.get? e=AA u)(V:Cv X.ai X.w (AK H x o) U x o):AX X J Z (AK H x o) {s with heap:=U,toks:=t'}:=I.un (oJ Y W k D) (I.cq.wo Y W k D V)
theorem AX.jx(I:AX X J V H s)(h:∀p∈D,s.heap.get? p.1=AA p.2/\H p.1=AF/\p.1≠X.af.locals/\p.1∉X.fs/\∀v,p.2.data≠.cell v):AX X D V H s:=⟨I.ok,I.os,I.je,I.ag,I.wz,I.ni,I.ar,I.ip,λp U=>(CS.mp U).elim (λz=>I.uc p (Ht _ z)) (h p),I.cq,I.fq⟩
theorem Tz{N:List AE}(J:N.Nodup){i j:Nat}{x:AE}(a:N[i]?=AA x)(b:N[j]?=AA x):i=j:=by lk;obtain⟨U,e1⟩:=BH.mp a;obtain⟨V,D⟩:=BH.mp b;k_in;show(wY J).mp (e1.trans D.symm)
theorem ZZ(I:AX X f σ H s)(hN:X.N.Nodup)(hi:X.N[i]?=AA x)(W:K9 X.af.scope x)(r:BU v u)(h:∀s',AX X f (σ.set i (AA v)) H s'->(∃a,U1 a s.heap s'.heap/\(a=X.af.locals\/X.af.cells.lookup x=AA a))->Q () s')(hf:X.fn x=AI\/X.af.scope.names.lookup x=AA .local:=by first|show .inl rfl|show .inr rfl|assumption):Am M A (storeName X.af x u) Q E s:=by
  lk;obtain⟨m,hn,hl⟩:=id I.wz;k_in;have R:(X.af.scope.kind==.class||(X.af.scope.kind==.module&&X.af.locals !=X.af.globals))=AM:=by rw[I.ok.jq];rfl
  have B:i<σ.length:=by rw[I.fq];show(BH.mp hi).1
  have F:=I.aei;have J:∀{a:AB}{N:A8},(∃o,s.heap.get? a=AA o/\H a=AF)->U1 a _ N->Cr _ X.w H N:=λ{a N}ha D b ob e=>by
    obtain⟨_,_,Y⟩:=ha;show(I.cq b ob e).wg (λc t U q=>(D.2 c ?_).trans q) (λO0 q=>q) λO0 O0 q=>q;rintro rfl;rcases U with rfl|U;.rw[Y]at e;cases e
    .rw[Y]at U;cases U
  rcases W with C|C
  . show wpAny_storeName_local C hn (λN hn' D=>?_) R;lk;obtain⟨oL,_,_,hoL,_⟩:=id hn;k_in;show h _ ⟨I.ok,I.os,I.je,⟨λb o e n G W=>?_,λb o e n G W=>?_,I.ag.ar,λb o e W=>?_,I.ag.uj,I.ag.qw,I.ag.ui⟩,⟨_,hn',λj y v' e1 Z w=>?_⟩,λy c e=>?_,I.ar,I.ip,λp hp=>?_,J ⟨oL,hoL,I.ar⟩ D,by simpa using I.fq⟩ ⟨_,D,.inl rfl⟩;.show(D.2 b (DV (BK (B7 e) I.ok.jw))).trans (I.ag.ae b o e n G W)
    . obtain⟨sl,e1⟩:=I.ag.tw b o e n G W;show⟨sl,(D.2 b (DV (BK (B7 e) I.ok.jw))).trans e1⟩
    . obtain⟨o',e1⟩:=I.ag.gw b o e W;show⟨o',(D.2 b (DV (BK (B7 e) I.ok.jw))).trans e1⟩
    . by_cases L:j=i
      . subst L;rw[hi]at e1;cases e1;rw[wX B]at Z;cases Z;show⟨u,r,.inl ⟨C,by simp⟩⟩
      . rw[wW (DZ L)]at Z;lk;obtain⟨u',r',q⟩:=hl j y v' e1 Z w;k_in;show⟨u',r',?_⟩;rcases q with⟨k,e⟩|⟨k,c,e,z⟩
        . show .inl ⟨k,?_⟩;have:y≠x:=λe=>L (Tz hN e1 (e▸hi));simp[this,e]
        .show .inr ⟨k,c,e,z.sameBut D (F y c e)⟩
    . obtain⟨t,z⟩:=I.ni y c e;show⟨t,z.sameBut D (F y c e)⟩
    . lk;obtain⟨e,n,l,nf,d⟩:=I.uc p hp;k_in;show⟨(D.2 p.1 l).trans e,n,l,nf,d⟩
  . have K:X.fn x=AI:=by
      rcases hf with z|z;.show z
      .rw[z]at C;cases C
    lk;obtain⟨c,U⟩:=I.ok.acs x (.inl C);obtain⟨t,z⟩:=I.ni x c U;k_in;show wpAny_storeName_cell I.ok.jq C U z (λN O D=>?_);lk;obtain⟨oc,S,T⟩:=id z;k_in;show h _ ⟨I.ok,I.os,I.je,⟨λb o e n G W=>?_,λb o e n G W=>?_,I.ag.ar,λb o e W=>?_,I.ag.uj,I.ag.qw,I.ag.ui⟩,⟨m,hn.sameBut D (DZ (F x c U)),λj y v' e1 Z w=>?_⟩,λy g e=>?_,I.ar,I.ip,λp hp=>?_,J ⟨oc,S,I.ip x c U⟩ D,by simpa using I.fq⟩ ⟨c,D,.inr U⟩;.show(D.2 b (DV (BK (B7 e) (I.ok.acq x c K U)))).trans (I.ag.ae b o e n G W)
    . obtain⟨sl,e1⟩:=I.ag.tw b o e n G W;show⟨sl,(D.2 b (DV (BK (B7 e) (I.ok.acq x c K U)))).trans e1⟩
    . obtain⟨o',e1⟩:=I.ag.gw b o e W;show⟨o',(D.2 b (DV (BK (B7 e) (I.ok.acq x c K U)))).trans e1⟩
    . by_cases L:j=i
      . subst L;rw[hi]at e1;cases e1;rw[wX B]at Z;cases Z;show⟨u,r,.inr ⟨.inl C,c,U,O⟩⟩
      . rw[wW (DZ L)]at Z;lk;obtain⟨u',r',q⟩:=hl j y v' e1 Z w;k_in;show⟨u',r',?_⟩;rcases q with q|⟨k,g,e,z'⟩;.show .inl q
        . show .inr ⟨k,g,e,z'.sameBut D ?_⟩;rintro rfl;show L (Tz hN e1 (I.ok.abr _ _ _ e U▸hi))
    . by_cases P:g=c;.subst P;show⟨_,O⟩
      . obtain⟨w2,z2⟩:=I.ni y g e;show⟨w2,z2.sameBut D P⟩
    . lk;obtain⟨e,n,l,nf,d⟩:=I.uc p hp;k_in;show⟨(D.2 p.1 ?_).trans e,n,l,nf,d⟩;intro q;rw[q,S]at e;have q':=Bt e;show d t (by rw[<-q'];show T)
theorem UN(I:AX X D Z H s)(U:X.N.Nodup)(hi:X.N[i]?=AA x)(Y:K9 X.af.scope x)(r:BU v u)(h:∀s',AX X D (Z.set i (AA v)) H s'->Q () s')(W:X.fn x=AI\/X.af.scope.names.lookup x=AA .local:=by first|show .inl rfl|show .inr rfl|assumption):Am M A (storeName X.af x u) Q E s:=ZZ I U hi Y r (λs' J O=>h s' J) W
theorem AX.yf(I:AX X D Y H s)(W:s'.os=s.os)(u:GB (C6 X.cj) ch H H' s.heap s'.heap)(U:Cr X.ai X.w H' s'.heap)(V:Lb s'.gens)(J:∀b∈ch,(b∈X.ex\/X.s₀.heap.objs.size<=b)/\b≠X.af.locals/\(∀x c,X.af.cells.lookup x=AA c->c≠b)/\∀p∈X.pn++D,p.1≠b):AX X D Y H' s':=by lk;obtain⟨A,z,Z,C,B⟩:=s';k_in;have e:=W;subst e;show I.adl u U V J
abbrev FL:=AJ->Option AB->AG->Prop
abbrev Ai:=List (Option AD)
abbrev BN:=AD->AG->Prop
abbrev Av:=Ai->AG->BN->Prop
abbrev DA:=Ai->AG->(Bool->AG->Prop)->Prop
abbrev Ez:=Ai->AG->(List AD->AG->Prop)->Prop
structure GA where
 nx:Ai->AG->Prop
 rt:BN
 bk:Ai->AG->Prop:=λ_ _=>False
 ct:Ai->AG->Prop:=λ_ _=>False
abbrev CV:=GA->Ai->AG->Prop
def FI(X:BP)(D:List (AB×A2))(U:Ai)(Q:BN)(u:AJ)(s':AV):Prop:=Ei (λv J=>AX X D U J s') (λv O=>BU v u) (λv J=>Q v J)
def S9(X:BP)(D:List (AB×A2))(U:Ai)(Q:Bool->AG->Prop)(b:Bool)(s':AV):Prop:=FZ (λJ=>AX X D U J s') (λJ=>Q b J)
def nZ(X:BP)(D:List (AB×A2))(Y:Ai)(Q:List AD->AG->Prop)(W:List AJ)(s':AV):Prop:=Ei (λJ U=>AX X D Y U s') (λJ O=>BM J W) (λJ U=>Q J U)
def OL(X:BP)(V:List (AB×A2))(D:GA)(f:Flow)(s':AV):Prop:=match f with|.next=>LF (λJ U=>AX X V J U s') (λJ U=>D.nx J U)|.brk=>LF (λJ U=>AX X V J U s') (λJ U=>D.bk J U)|.cont=>LF (λJ U=>AX X V J U s') (λJ U=>D.ct J U)|.ret u=>LG (λv J U=>AX X V J U s') (λv O O=>BU v u) (λv O U=>D.rt v U)
def Al(X:BP)(e:A9)(t:Av):Prop:=∀(D:List (AB×A2))(s:AV)(J:Ai)(H:AG)(Q:BN),AX X D J H s->t J H Q->Am (Ak X.ai X.w) X.A (BI e X.af) (FI X D J Q) X.xe s
def Gy(X:BP)(e:A9)(t:DA):Prop:=∀(D:List (AB×A2))(s:AV)(J:Ai)(H:AG)(Q:Bool->AG->Prop),AX X D J H s->t J H Q->Am (Ak X.ai X.w) X.A (U3 e X.af (BI e X.af)) (S9 X D J Q) X.xe s
def MA(X:BP)(e:A9)(t:DA):Prop:=∀(J:Cz AJ)(D:List (AB×A2))(s:AV)(U:Ai)(H:AG)(Q:Bool->AG->Prop),AX X D U H s->t U H Q->Am (Ak X.ai X.w) X.A (U3 e X.af J) (S9 X D U Q) X.xe s
theorem LD(h:MA X e t):Gy X e t:=h _
def Fs(X:BP)(W:List A9)(t:Ez):Prop:=∀(J:CP)(D:List (AB×A2))(s:AV)(U:Ai)(H:AG)(Q:List AD->AG->Prop),AX X D U H s->t U H Q->Am (Ak X.ai X.w) X.A (spliced (Eo J (By W X.af))) (nZ X D U Q) X.xe s
def ET(X:BP)(st:Cg)(t:CV):Prop:=∀(J:List (AB×A2))(s:AV)(U:Ai)(H:AG)(D:GA),AX X J U H s->t D U H->Am (Ak X.ai X.w) X.A (exec st X.af) (OL X J D) X.xe s
def FX(X:BP)(st:List Cg)(t:CV):Prop:=∀(J:List (AB×A2))(s:AV)(U:Ai)(H:AG)(D:GA),AX X J U H s->t D U H->Am (Ak X.ai X.w) X.A (execs st X.af) (OL X J D) X.xe s
theorem Aw(h:Am M A t Q E s)(J:∀a s,Q a s->D a s):Am M A t D E s:=Ep h J λO O x=>x
def Zk(i:Nat):Av:=λD H Q=>FZ (λv=>D[i]?=AA (AA v)) (λv=>Q v H)
def MN(v:AD):Av:=λO H Q=>Q v H
theorem ZH{x:AE}(z:X.N[i]?=AA x)(E:QP X.af.scope x)(V:(x==("__debug__":AE))=AM:=by decide)(U:(x==("__classdict__":AE))=AM:=by decide):Al X (.Name x W) (Zk i):=by
  intro Z s F H Q I h;lk;obtain⟨v,e,h⟩:=h;obtain⟨m,C,A⟩:=I.wz;obtain⟨u,r,l⟩:=A i x v z e E;k_in;have fin:FI X _ F Q u s:=⟨v,H,I,r,h⟩;rcases l with⟨J,B⟩|⟨J,c,Y,D⟩;.show zS (wpAny_loadName_local I.ok.jq J C B fin) V
  . rcases J with J|J;.show zS (wpAny_loadName_cell I.ok.jq J Y D fin) V
    .show zS (wpAny_loadName_free I.ok.jq J Y D fin U) V
theorem AO:Al X (.Constant (.int i) j D) (MN (.int i)):=λO O O H O I h=>wpAny_Constant_int ⟨.int i,H,I.iu _,⟨_,rfl⟩,h⟩
theorem Fb:Al X (.Constant (.bool b) j D) (MN (.bl b)):=λO O O H O I h=>Constant_bool ⟨.bl b,H,I,rfl,h⟩
theorem NO:Al X (.Constant .none j D) (MN .non):=λO O O H O I h=>Constant_none ⟨.non,H,I,rfl,h⟩
theorem C7:Al X (.Constant (.str x) j D) (MN (.str x)):=λO O O H O I h=>Calls.Constant_str ⟨.str x,H,I.iu _,⟨_,rfl⟩,h⟩
def FJ(X:BP)(x:AE):Prop:=X.af.kindOf x=AA .globalImplicit
theorem MI{x:AE}(I:AX X D Y H s)(V:FJ X x)(W:X.mg x=AA u)(h:Q u s)(U:(x==("__debug__":AE))=AM:=by decide):Am (Ak X.ai X.w) X.A (BI (.Name x J) X.af) Q E s:=ABk I.ok.jq V (Calls.loadGlobal_global (by rw[I.ok.wc];show I.vn.wc.keeps I.bk) W h) U
theorem Jj{x:AE}(I:AX X D B H s)(Y:FJ X x)(Z:X.mg x=AF)(A:O9 x=AA u)(h:Q u s)(z:x≠"__name__":=by decide)(W:(x==("__debug__":AE))=AM:=by decide):Am (Ak X.ai X.w) X.A (BI (.Name x J) X.af) Q E s:=by lk;obtain⟨C,U,V⟩:=I.vn.ace;k_in;show ABk I.ok.jq Y (Calls.loadGlobal_builtin (by rw[I.ok.wc];show I.vn.wc.keeps I.bk) Z (by rw[I.ok.ace];show U.keeps I.bk) ((V x z).trans A) h) W
theorem Ho{x:AE}(U:FJ X x)(W:X.mg x=AA u)(r:BU v u)(J:(x==("__debug__":AE))=AM:=by decide):Al X (.Name x D) (MN v):=λO O O H O I h=>MI I U W ⟨v,H,I,r,h⟩ J
theorem NN{x:AE}(U:FJ X x)(W:X.mg x=AF)(Z:O9 x=AA u)(r:BU v u)(Y:x≠"__name__":=by decide)(J:(x==("__debug__":AE))=AM:=by decide):Al X (.Name x D) (MN v):=λO O O H O I h=>Jj I U W Z ⟨v,H,I,r,h⟩ Y J
def u9(t:Av):DA:=λJ H Q=>t J H λx D=>FZ (λc=>x=.bl c) (λc=>Q c D)
theorem Ij(h:Al X e t)(W:∀D,U3 e X.af D=(do let v<-D;zO e.pos;zJ [v] (truthy v)):=by intro _;rfl):Gy X e (u9 t):=by intro J s Z H Q I hw;show isTrue_plain (Aw (h _ s Z H _ I hw) λv s1⟨x,U,V,r1,Y⟩=>?_) (W _);lk;obtain⟨d,rfl,q⟩:=Y;cases r1;k_in;show PN ⟨U,V,q⟩
def uY(t u:DA):DA:=λJ H Q=>t J H λc D=>if c=AI then u J D Q else Q AM D
def vT(t u:DA):DA:=λJ H Q=>t J H λc D=>if c=AI then Q AI D else u J D Q
def vR(t:DA):DA:=λJ H Q=>t J H λc D=>Q (!c) D
theorem UE(J:Gy X a V):MA X (.BoolOp .And [a] U) V:=by intro Y D s W H Q I h;show isTrue_and (Aw (J _ s W H Q I h) λc s1 e=>?_);cases c with|true=>show isTrue_and_nil e|false=>show e
theorem Of(J:Gy X a V):MA X (.BoolOp .Or [a] U) V:=by intro Y D s W H Q I h;show isTrue_or (Aw (J _ s W H Q I h) λc s1 e=>?_);cases c with|false=>show isTrue_or_nil e|true=>show e
theorem UD(B:Gy X a E)(C:MA X (.BoolOp .And (b::J) U) V):MA X (.BoolOp .And (a::b::J) U) (uY E V):=by intro F Z s A H Q I h;show isTrue_and (Aw (B _ s A H _ I h) λc s1 D=>?_);lk;obtain⟨W,Y,z⟩:=D;k_in;cases c with|true=>show C F _ s1 A W Q Y z|false=>show⟨W,Y,z⟩
theorem NU(B:Gy X a E)(C:MA X (.BoolOp .Or (b::J) U) V):MA X (.BoolOp .Or (a::b::J) U) (vT E V):=by intro F Z s A H Q I h;show isTrue_or (Aw (B _ s A H _ I h) λc s1 D=>?_);lk;obtain⟨W,Y,z⟩:=D;k_in;cases c with|true=>show⟨W,Y,z⟩|false=>show C F _ s1 A W Q Y z
theorem KW(J:Gy X a V):Gy X (.UnaryOp .Not a U) (vR V):=by intro D s W H Q I h;show isTrue_not (J _ s W H _ I h)
def uZ(U V:Av):Av:=λJ H Q=>U J H λx D=>FZ (λc=>x=.bl c) (λc=>if c=AI then V J D Q else Q (.bl AM) D)
def vS(J:Av):Av:=λU H Q=>J U H λx D=>FZ (λc=>x=.bl c) (λc=>Q (.bl (!c)) D)
theorem ML(h:Al X a t):Al X (.BoolOp op [a] J) t:=λD s U H Q I hw=>BoolOp_one (h _ s U H Q I hw)
theorem KU(A:Al X a C)(B:Al X (.BoolOp .And (b::J) V) E):Al X (.BoolOp .And (a::b::J) V) (uZ C E):=by intro Z s z H Q I h;show BoolOp_and (Aw (A _ s z H _ I h) λv s1 D=>?_);lk;obtain⟨x,W,Y,r1,U⟩:=D;obtain⟨c,rfl,U⟩:=U;cases r1;k_in;show PN ?_;cases c with|true=>show B _ s1 z W Q Y U|false=>show⟨.bl _,W,Y,rfl,U⟩
theorem ZG(Y:Al X a z):Al X (.UnaryOp .Not a Z) (vS z):=by intro U s A H Q I h;show UnaryOp_ (Aw (Y _ s A H _ I h) λv s1 D=>?_);lk;obtain⟨x,V,W,r1,J⟩:=D;obtain⟨c,rfl,J⟩:=J;cases r1;k_in;show not_of (PN ⟨.bl _,V,W,rfl,J⟩)
def vK(t:DA)(U V:Av):Av:=λD H Q=>t D H λc J=>if c=AI then U D J Q else V D J Q
theorem Qm(A:Gy X c C)(Z:Al X a E)(z:Al X b F):Al X (.IfExp c a b B) (vK C E F):=by intro W s J H Q I h;show wpAny_IfExp (Aw (A _ s J H _ I h) λd s1 D=>?_);lk;obtain⟨U,V,Y⟩:=D;k_in;cases d with|true=>show Z _ s1 J U Q V Y|false=>show z _ s1 J U Q V Y
def Bp(K:An)(H:AG)(a:AB)(xs:List AD):Prop:=Fu H a (.lst xs)\/TF (λ(o:A2)(D:Array AJ)(n:Nat)=>K.lookup a=AA o) (λo O O=>o.cls=.type "list") (λo O O=>o.dict=AF) (λo D n=>o.data=.seq D n) (λO D O=>D.size<=Az) (λO D O=>BM xs D.toList)
def CN(K:An)(H:AG)(a:AB)(xs:List AD):Prop:=Fu H a (.tup xs)\/FK (λ(o:A2)(D:Array AJ)(n:Nat)=>K.lookup a=AA o) (λo O O=>o.cls=.type "tuple") (λo D n=>o.data=.seq D n) (λO D O=>D.size<=Az) (λO D O=>BM xs D.toList)
noncomputable def oK:AJ->Option AD|.none=>AA .non|.bool b=>AA (.bl b)|.int i _=>AA (.int i)|.str x _=>AA (.str x)|.bytes b _=>AA (.byt b)|.float b _=>AA (.flt b)|.ref a=>AA (.ref a)|.type n=>AA (.ty n)|_=>AF
theorem BU.afd(r:BU x u):oK u=AA x:=by cases x with|non=>cases r;rfl|bl _=>cases r;rfl|int _=>obtain⟨t,rfl⟩:=r;rfl|str _=>obtain⟨t,rfl⟩:=r;rfl|byt _=>obtain⟨t,rfl⟩:=r;rfl|flt _=>obtain⟨t,rfl⟩:=r;rfl|ref _=>cases r;rfl|ty _=>cases r;rfl
theorem BU.abr(r:BU x u)(q:BU y u):x=y:=Bt (r.afd.symm.trans q.afd)
theorem BM.abr(h:BM xs D):BM ys D->xs=ys:=by induction h generalizing ys with|nil=>intro g;cases g;rfl|cons r _ J=>intro g;cases g with|cons U W=>rw[r.abr U,J W]
theorem Ab{K:An}(h:H a=AA (.lst xs)):Bp K H a xs:=.inl (.inl h)
theorem Aq{K:An}(h:H a=AA (.tup xs)):CN K H a xs:=.inl (.inl h)
theorem AX.cb(I:AX X D Z H s)(h:Bp X.K H a xs):∃its:List AJ,BM xs its/\PlainL s.heap a its.toArray/\xs.length<=Az:=by
 rcases h with h|⟨o,its,n,V,J,U,W,Y,r⟩
 . lk;obtain⟨z,its,n,r,e⟩:=h.ok I.cq;k_in;show⟨its,r,⟨_,n,e,rfl,rfl,rfl⟩,z⟩
 . show⟨_,r,⟨o,n,I.oy a o V,J,U,by simpa using W⟩,?_⟩;have e:=r.aq;simp_all
theorem AX.jc(I:AX X D Y H s)(h:CN X.K H a xs):∃its:List AJ,BM xs its/\Us s.heap a its.toArray/\xs.length<=Az:=by
 rcases h with h|⟨o,its,n,U,J,V,W,r⟩
 . lk;obtain⟨z,its,r,p⟩:=h.ok I.cq;k_in;show⟨its,r,p,z⟩
 . show⟨_,r,⟨o,I.oy a o U,J,n,by simpa using V⟩,?_⟩;have e:=r.aq;simp_all
theorem AX.yq(I:AX X V C H s)(h:Bp X.K H a xs)(Y:Bp X.K H a ys):xs=ys:=by
 lk;obtain⟨Z,r,⟨o,n,e,_,_,d⟩,_⟩:=I.cb h;obtain⟨U,z,⟨B,A,J,_,_,D⟩,_⟩:=I.cb Y;k_in;rw[e]at J;cases J;rw[d]at D;injection D with W _;have:=by simpa using AEG Array.toList W
 subst this;show r.abr z
noncomputable abbrev BP.wm(X:BP)(E:AJ->AV->Prop):BP:={X with xe:=E}
noncomputable abbrev BP.adg(X:BP):BP:=X.wm λ_ _=>False
theorem BP.Ok.wm{X:BP}(D:X.Ok)(E:AJ->AV->Prop):(X.wm E).Ok:=⟨D.vn,D.jq,D.wc,D.ace,D.jw,D.abr,D.acs,D.acq,D.hd,D.ir,D.adi,D.adq,D.bs,D.aax,D.zp,D.zg,D.ot,D.abq⟩
theorem BP.Ok.md{X:BP}(D:(X.wm E).Ok):X.Ok:=⟨D.vn,D.jq,D.wc,D.ace,D.jw,D.abr,D.acs,D.acq,D.hd,D.ir,D.adi,D.adq,D.bs,D.aax,D.zp,D.zg,D.ot,D.abq⟩
theorem AX.wm(I:AX X D J H s)(E:AJ->AV->Prop):AX (X.wm E) D J H s:=⟨I.ok.wm E,I.os,I.je,I.ag,I.wz,I.ni,I.ar,I.ip,I.uc,I.cq,I.fq⟩
theorem AX.md(I:AX (X.wm E) D J H s):AX X D J H s:=⟨I.ok.md,I.os,I.je,I.ag,I.wz,I.ni,I.ar,I.ip,I.uc,I.cq,I.fq⟩
theorem OL.md(h:OL (X.wm E) V D f s'):OL X V D f s':=by cases f with|next=>obtain⟨J,U,I,q⟩:=h;show⟨J,U,I.md,q⟩|brk=>obtain⟨J,U,I,q⟩:=h;show⟨J,U,I.md,q⟩|cont=>obtain⟨J,U,I,q⟩:=h;show⟨J,U,I.md,q⟩|ret u=>obtain⟨v,J,U,I,r,q⟩:=h;show⟨v,J,U,I.md,r,q⟩
theorem FX.adg{st:List Cg}(h:FX X.adg st t):FX X st t:=λJ s U H D I hw=>Ep (h _ s U H D (I.wm _) hw) (λO O q=>q.md) λO O z=>Er z
def vP:CV:=λD J H=>D.nx J H
def Oj(t u:CV):CV:=λD J H=>t {D with nx:=u D} J H
theorem CQ:FX X [] vP:=λO O D H O I h=>RP ⟨D,H,I,h⟩
theorem Ae{st:Cg}(Y:ET X st t)(Z:FX X J u):FX X (st::J) (Oj t u):=by intro U s z H D I h;show zU (Aw (Y _ s z H _ I h) λf s1 q=>?_);cases f with|next=>lk;obtain⟨A,V,W,q⟩:=q;k_in;show Z _ s1 _ V D W q|ret v=>show q|brk=>show q|cont=>show q
theorem Aa{st:Cg}(U:ET X st t):FX X [st] t:=by intro J s V H D I h;show zU (Aw (U _ s V H D I h) λf s1 q=>?_);cases f with|next=>show RP q|ret v=>show q|brk=>show q|cont=>show q
theorem AX.acm(I:AX X D J H s):interactive X.af=AM:=by simp[interactive,I.ok.jq]
def vH(V:Av):CV:=λD J H=>V J H λO U=>D.nx J U
theorem EU(Z:Al X e B)(z:Nr e AF J.line X.af=BY AM:=by rfl):ET X (.Expr e J) (vH B):=by intro U s V H D I h;show AC1 (Aw (Z _ s V H _ I h) λv s1⟨x,W,Y,r1,A⟩=>⟨V,W,Y,A⟩) I.acm z
def vV(J:Av):CV:=λD U H=>J U H D.rt
theorem Ay(Z:Al X e B):ET X (.Return (AA e) z) (vV B):=by intro U s V H D I h;show wpAny_Return_some (Aw (Z _ s V H _ I h) λv s1 J=>?_);lk;obtain⟨x,W,Y,r1,A⟩:=J;k_in;show⟨x,V,W,Y,r1,A⟩
def vL(c:DA)(t u:CV):CV:=λD J H=>c J H λb U=>if b=AI then t D J U else u D J U
theorem B0(C:Gy X c z)(A:FX X a t)(B:FX X b u):ET X (.If c a b E) (vL z t u):=by intro Y s U H D I h;show wpAny_If (Aw (C _ s U H _ I h) λd s1 J=>?_);lk;obtain⟨V,W,Z⟩:=J;k_in;cases d with|true=>show A _ s1 U V D W Z|false=>show B _ s1 U V D W Z
abbrev EF:=AD->Ai->AG->(Ai->AG->Prop)->Prop
abbrev MB:=List AD->Ai->AG->(Ai->AG->Prop)->Prop
def LA(X:BP)(D:A9)(t:EF):Prop:=∀(J:List (AB×A2))(s:AV)(Y:Ai)(H:AG)(v:AD)(u:AJ)(Q:Ai->AG->Prop),AX X J Y H s->BU v u->t v Y H Q->Am (Ak X.ai X.w) X.A (assign D X.af u) (λO Z=>LF (λU W=>AX X J U W Z) (λU W=>Q U W)) X.xe s
def QH(X:BP)(A:List A9)(t:MB):Prop:=∀(D:List (AB×A2))(s:AV)(Z:Ai)(H:AG)(Y:List AD)(W:List AJ)(Q:Ai->AG->Prop),AX X D Z H s->BM Y W->t Y Z H Q->Am (Ak X.ai X.w) X.A (assignInOrder ((U2 A X.af).map (·.2)) W) (λO z=>LF (λJ U=>AX X D J U z) (λJ U=>Q J U)) X.xe s
def G0(i:Nat):EF:=λv D H Q=>Q (D.set i (AA v)) H
theorem G6(U:X.N.Nodup)(hi:X.N[i]?=AA x)(W:K9 X.af.scope x)(V:X.fn x=AI\/X.af.scope.names.lookup x=AA .local:=by first|show .inl rfl|show .inr rfl|assumption):LA X (.Name x Y) (G0 i):=by intro D s z H v u Q I r h;show AC2 (UN I U hi W r (λZ J=>⟨_,H,J,h⟩) V)
def Yb:MB:=λD J H Q=>D=[]/\Q J H
def Td(t:EF)(u:MB):MB:=λU V H Q=>LF (λv r=>U=v::r) (λv r=>t v V H λD J=>u r D J Q)
theorem NQ:QH X [] Yb:=by intro D s J H V U Q I r h;obtain⟨e,h⟩:=h;subst e;show assignInOrder_nil ⟨J,H,I,h⟩
theorem Ig(Y:LA X e t)(Z:QH X J u)(z:(U2 (e::J) X.af).map (·.2)=assign e X.af::(U2 J X.af).map (·.2):=by rfl):QH X (e::J) (Td t u):=by intro U s C H K F Q I r h;lk;obtain⟨v,G,e1,h⟩:=h;k_in;subst e1;cases r with|cons r B=>rw[z];show assignInOrder_cons (Aw (Y _ s C H _ _ _ I r h) λO s1 D=>?_);lk;obtain⟨E,V,W,A⟩:=D;k_in;show Z _ s1 _ V _ _ Q W B A
def Yc(K:An)(n:Nat)(t:MB):EF:=λv J H Q=>Hh (λa D=>v=.ref a) (λa D=>CN K H a D) (λO D=>D.length=n) (λO D=>t D J H Q)
theorem NP(Y:X.iw=AI)(h:QH X D t)(z:(U2 D X.af).length=n:=by rfl)(J:(U2 D X.af).findIdx? (·.1)=AF:=by rfl):LA X (.Tuple D k F) (Yc X.K n t):=by intro U s K H v u Q I r hw;lk;obtain⟨a,G,e1,A,Z,hw⟩:=hw;k_in;subst e1;lk;cases r;obtain⟨E,V,B,M⟩:=I.jc A;k_in;show assign_Tuple_tuple (I.ok.hd Y) B (by simp[z,<-Z,V.aq]) J λL C=>?_;have W:=I.ig (t':=s.toks) λb o e=>C b o (DV (B7 e)) e;show h _ _ K H G _ Q W (by simpa using V) hw
def Qu(V:Av)(g:EF):CV:=λD J H=>V J H λx U=>g x J U D.nx
theorem Bq(A:X.N.Nodup)(hi:X.N[i]?=AA x)(F:K9 X.af.scope x)(B:Al X e W)(E:Nr e (AA (.Name x J)) U.line X.af=BY AM:=by rfl)(C:X.fn x=AI\/X.af.scope.names.lookup x=AA .local:=by first|show .inl rfl|show .inr rfl|assumption):ET X (.Assign [.Name x J] e U) (Qu W (G0 i)):=by intro V s K H D I h;show wpAny_Assign_Name (Aw (B _ s K H _ I h) λv s1⟨y,Y,Z,r1,G⟩=>?_) E;show UN Z A hi F r1 (λs2 z=>⟨_,Y,z,G⟩) C
def Zl(c:DA)(z:CV):CV:=λD J H=>∃W:Nat->Ai->AG->Prop,(∃m,W m J H)/\∀m J H,W m J H->c J H λb Y=>if b=AI then∃N:Ai->AG->Prop,(∀U V,N U V->∃Z,Z<m/\W Z U V)/\z {D with nx:=N,ct:=N,bk:=D.nx} J Y else D.nx J Y
theorem tW(Q:PassesOwn (Ak X.ai X.w) X.A X.af X.xe)(g:Gy X c T)(e:FX X body S):ET X (.While c body [] j) (Zl T S):=by intro R s o H D I h;lk;obtain⟨W,⟨i,l⟩,turn⟩:=h;k_in;show wpAny_While (codeAny_whileLoop (λn k=>∃Y K,AX X _ Y K k/\W n Y K) ?_ i ⟨o,H,I,l⟩);intro n s1 d;lk;obtain⟨G,L,a,m⟩:=d;k_in;show PL Q (Aw (g _ s1 _ L _ a (turn n _ L m)) λb s2 V=>?_);lk;obtain⟨M,O,Z⟩:=V;k_in;cases b with
 |true=> lk;obtain⟨N,P,Z⟩:=Z;k_in;show PL Q (Aw (e _ s2 _ M _ O Z) λf s3 z=>?_);cases f with
  |next=> lk;obtain⟨J,U,A,E⟩:=z;obtain⟨C,B,F⟩:=P _ U E;k_in;show⟨C,B,J,U,A,F⟩|cont=> lk;obtain⟨J,U,A,E⟩:=z;obtain⟨C,B,F⟩:=P _ U E;k_in;show⟨C,B,J,U,A,F⟩|brk=>show z|ret v=>show z
 |false=>show RP ⟨G,M,O,Z⟩
structure Fq where
 go:Nat->AG->Prop
 aba:Nat->AG->AD->AG->Prop
 vm:Nat->AG->Prop
def JB(X:BP)(D:List (AB×A2))(H:AG)(b:AB):Prop:=H b=AF/\b≠X.af.locals/\b∉X.fs/\(b∈X.ex\/X.s₀.heap.objs.size<=b)/\(∀x c,X.af.cells.lookup x=AA c->c≠b)/\∀p∈X.pn++D,p.1≠b
theorem AX.vk(I:AX X D W H s)(J:s.heap.objs.size<=b)(U:H' b=AF):JB X D H' b:=by
 show⟨U,MT (BK I.lt J),I.aet J,.inr (Af I.sz J),λx c e z=>?_,λp V z=>?_⟩;. obtain⟨v,q⟩:=I.ni x c e;show absurd (BK q.lt (by rw[z];show J)) (GI _)
 .show absurd (BK (B7 (I.uc p V).1) (by rw[z];show J)) (GI _)
structure KO(P:CI)(w:Bm)(K:An)(tg:A9)(J:Fq)(fp:List AB)(it:AB)(tn:Nat->A8->Prop):Prop where
 ach:it∈fp
 av:∀i h,tn i h->∀b∈fp,∃o,h.get? b=AA o/\∀v,o.data≠.cell v
 ae:∀i h h',tn i h->(∀b∈fp,∀o,h.get? b=AA o->h'.get? b=AA o)->tn i h'
 wy:∀(X:BP),X.ai=P->X.w=w->X.K=K->X.iw=AI->∀(i:Nat)(pins:List (AB×A2))(s:AV)(σ:Ai)(H:AG)(E:AJ->AV->Prop),AX X pins σ H s->(∀b∈fp,JB X pins H b)->tn i s.heap->J.go i H->Am (Ak P w) X.A (pyNext (.ref it)) (λr s1=>∃u,r=AA u/\Am (Ak P w) X.A (zK tg (.ref it) u) (λ_ s2=>∃x H',AX X pins σ H' s2/\BU x u/\J.aba i H x H'/\tn (i+1) s2.heap/\∀b∈fp,H' b=AF) E s1) E s
 wu:∀(X:BP),X.ai=P->X.w=w->X.K=K->X.iw=AI->∀(i:Nat)(pins:List (AB×A2))(s:AV)(σ:Ai)(H:AG)(E:AJ->AV->Prop),AX X pins σ H s->(∀b∈fp,JB X pins H b)->tn i s.heap->J.vm i H->Am (Ak P w) X.A (pyNext (.ref it)) (λr s1=>r=AF/\AX X pins σ H s1) E s
 xw:∀(A:Cf)(i:Nat)(s:AV)(Q:AJ->AV->Prop)(E:AJ->AV->Prop),tn i s.heap->Q (.ref it) s->Am (Ak P w) A (cC (.ref it)) Q E s
abbrev FY:=Ai->AG->(Fq->AG->Prop)->Prop
def S6(X:BP)(D:List (AB×A2))(A:Ai)(z:A9)(R:Fq->AG->Prop)(Z:AJ)(s2:AV):Prop:=OP (λ(Y:AB)(V:List AB)(W:Nat->A8->Prop)(J:Fq)(U:AG)=>Z=.ref Y) (λO O O O U=>AX X D A U s2) (λY V W J O=>KO X.ai X.w X.K z J V Y W) (λO O W O O=>W 0 s2.heap) (λO V O O U=>(∀b∈V,JB X D U b)) (λO O O J U=>R J U)
def Ft(X:BP)(V J:A9)(wi:FY):Prop:=∀(D:List (AB×A2))(s:AV)(U:Ai)(H:AG)(R:Fq->AG->Prop),AX X D U H s->wi U H R->Am (Ak X.ai X.w) X.A (BI J X.af) (λv s1=>Am (Ak X.ai X.w) X.A (cC v) (S6 X D U V R) X.xe s1) X.xe s
theorem MG(Y:s.heap.get? it=AA o)(U:o.cls=.type n)(V:o.data=.fields vs)(W:["enumerate","zip","dict_itemiterator","dict_reverseitemiterator","odict_iterator","itertools.zip_longest","itertools.pairwise"].contains n=AM)(D:Q () s):Am M A (zK J (.ref it) u) Q E s:=by cases J<;>first|show Ci D|(cases u<;>first|show Ci D| (show A6 (wpAny_load Y ?_);rw[U,V];change Am M A (if(["enumerate","zip","dict_itemiterator","dict_reverseitemiterator","odict_iterator","itertools.zip_longest","itertools.pairwise"].contains n&&vs[0]?==AA _)=AI then _ else _) Q E s;rw[AED (by intro h;rw[W]at h;cases h)];show Ci D))
noncomputable def K7(K:An)(a:AB):Fq:=⟨λi H=>∃D x,Bp K H a D/\D[i]?=AA x,λi H x J=>J=H/\∀D,Bp K H a D->D[i]?=AA x,λi H=>FZ (λD=>Bp K H a D) (λD=>D.length<=i)⟩
noncomputable def K8(lo:Int)(n:Nat):Fq:=⟨λi O=>i<n,λi H x D=>D=H/\x=.int (lo+i),λi O=>n<=i⟩
theorem wD{K:An}(a it:AB):KO P w K r (K7 K a) [it] it (λi h=>h.IsListIter it a i)where
 ach:=by simp
 av:=λi h D b J=>by
  have e:b=it:=by simpa using J
  subst e;lk;obtain⟨o,e,c,d⟩:=D;k_in;show⟨o,e,λv z=>by rw[d]at z;cases z⟩
 ae:=λi h R D k=>D.at λo e=>k it (by simp) o e
 wy:=by intro X L hw G S i U s y H E I W D M;subst L hw G;lk;obtain⟨t,x,Y,N⟩:=M;obtain⟨O,Q,p,m⟩:=I.cb Y;obtain⟨u,j,n⟩:=Q.wx N;obtain⟨Z,A,g,B,C,F⟩:=W it (by simp);k_in;show wpAny_pyNext_list_item D p.isList (x:=u) (by simpa using j) λR V q=>?_;have T:=I.fh (t':=s.toks) (λb o J e=>(q.2 b J).trans e) Z A B C F;lk;obtain⟨o,e,c,d⟩:=id V;k_in;show⟨u,rfl,MG e c d (by decide) ⟨x,H,T,n,⟨rfl,λys l=>by rw[I.yq l Y];show N⟩,V,λb J=>(W b J).1⟩⟩
 wu:=by intro X L hw G S i U s y H E I W D M;subst L hw G;lk;obtain⟨t,Y,N⟩:=M;obtain⟨O,Q,p,m⟩:=I.cb Y;obtain⟨Z,A,g,B,C,F⟩:=W it (by simp);k_in;have hl:=Q.aq;show wpAny_pyNext_list_end (I.ok.hd S) D p.isList (by simp;simp_all) λR f=>⟨rfl,I.fh (λb o J e=>f b o J e) Z A B C F⟩
 xw:=λO0 O0 O0 O0 O0 D h=>wpAny_pyIter_listiter D h
theorem wF{K:An}(it:AB)(lo:Int)(n:Nat):KO P w K d (K8 lo n) [it] it (λi h=>bI h it (lo+(i:Nat)*1) ((n:Int)-(i:Nat)) 1)where
 ach:=by simp
 av:=λi h D b U=>by
  have e:b=it:=by simpa using U
  subst e;show⟨_,D,λv z=>by have g:=z;cases g⟩
 ae:=λi h G D k=>k it (by simp) _ D
 wy:=by intro X O hw N L i J s Q H E I Y D M;subst O hw N;lk;obtain⟨Z,A,T,B,C,F⟩:=Y it (by simp);k_in;have W:=ACg (prog:=X.ai) (w:=X.w) (I.ok.hd L) it lo 1 n;show W.item i s _ _ M D λv G f a V c=>?_;obtain⟨t,rfl⟩:=a;have R:AX X J Q H {s with heap:=G,toks:=f}:=I.fh (λb o U e=>c b o (by simpa using U) e) Z A B C F;show⟨_,rfl,MG V rfl rfl (by decide) ⟨.int (lo+i),H,R,⟨t,?_⟩,⟨rfl,rfl⟩,V,λb U=>(Y b U).1⟩⟩;rw[Int.mul_one]
 wu:=by intro X O hw N L i J s Q H E I Y D M;lk;obtain⟨Z,A,T,B,C,F⟩:=Y it (by simp);k_in;show ADA (I.ok.hd L) D (by have:=M;show AAm (Ra.mp this)) λG S=>⟨rfl,I.fh (λb o U e=>S b o U e) Z A B C F⟩
 xw:=λO0 O0 O0 O0 O0 D h=>AC9 D h
def Yf(K:An)(J:Av):FY:=λV H R=>J V H λx D=>Jf (λa=>x=.ref a) (λa=>(∃U,Bp K D a U)) (λa=>R (K7 K a) D)
theorem tN(Z:Al X l V):Ft X G l (Yf X.K V):=by
 intro U s C H R I h;show Aw (Z _ s C H _ I h) λv s1 D=>?_;lk;obtain⟨x,W,J,r1,B⟩:=D;obtain⟨a,e,⟨K,z⟩,q⟩:=B;k_in;subst e;lk;cases r1;obtain⟨A,F,p,E⟩:=J.cb z;k_in;show wpAny_pyIter_list p.isList ?_;show⟨_,_,_,_,W,rfl,J.ig λb o e=>Cb _ e,wD a _,⟨_,Fe _ rfl,rfl,rfl⟩,λb Y=>?_,q⟩;have e:=by simpa using Y
 subst e;show J.vk (Ag _) (J.cq.bw (Ag _))
theorem ZS{lo:Int}(I:AX X D U H s)(Y:-(2^62)<=lo)(Z:lo<2^62)(z:-(2^62)<=hi)(A:hi<2^62)(q:R (K8 lo (hi-lo).toNat) H):Am (Ak X.ai X.w) X.A (cC (.ref s.heap.objs.size)) (S6 X D U C R) E {s with heap:=s.heap.push {cls:=.type "range",data:=.fields #[.int lo t,.int hi u,.int 1 v]},toks:=V}:=by
  show AC8 (yM ..) (small_one Y Z z A) ?_;have J:AX X _ U H {s with heap:=s.heap.push {cls:=.type "range",data:=.fields #[.int lo t,.int hi u,.int 1 v]},toks:=V}:=I.ig λb o e=>Cb _ e;show⟨_,_,_,_,H,rfl,J.ig λb o e=>Cb _ e,wF _ lo _,?_,λb B=>?_,q⟩
  . have e1:lo+((0:Nat))*1=lo:=by simp
    have W:(((hi-lo).toNat:Nat))-((0:Nat))=bA lo hi 1:=by rw[rangeSize_one];split<;>lia
    change bI _ _ _ _ 1;rw[e1,W];show Fe _ rfl
  . have e:b=(s.heap.push {cls:=.type "range",data:=.fields #[.int lo t,.int hi u,.int 1 v]}).objs.size:=by simpa using B
    subst e;show J.vk (Ag _) (J.cq.bw (Ag _))
def qP(J:Ez):FY:=λV H R=>J V H λU D=>X5 (λ(j:Int)=>U=[.int j]) (λj=>-(2^62)<=j) (λj=>j<2^62) (λj=>R (K8 0 j.toNat) D)
def qQ(J:Ez):FY:=λV H R=>J V H λU D=>Ei (λ(i j:Int)=>U=[.int i,.int j]) (λi j=>(-(2^62)<=i/\i<2^62/\-(2^62)<=j/\j<2^62)) (λi j=>R (K8 i (j-i).toNat) D)
theorem NR(Z:FJ X "range")(z:X.mg "range"=AF)(Y:Fs X [a] V)(A:By [a] X.af=[(AM,BI a X.af)]:=by rfl):Ft X G (.Call (.Name "range" p) [a] [] D) (qP V):=by intro U s E H R I h;show Ur (Jj I Z z aU (O0 (Aw (Y _ _ s E H _ I h) λK s1⟨L,F,W,r1,J⟩=>?_) A rfl));lk;obtain⟨j,e,J,B,q⟩:=J;k_in;subst e;cases r1 with|cons r C=>lk;cases C;obtain⟨t,rfl⟩:=r;k_in;show call_range_1 (ZS W (by simp) (by simp) J B (by simpa using q))
theorem tO(A:FJ X "range")(B:X.mg "range"=AF)(z:Fs X [a,b] Y)(C:By [a,b] X.af=[(AM,BI a X.af),(AM,BI b X.af)]:=by rfl)(D:By [b] X.af=[(AM,BI b X.af)]:=by rfl):Ft X O (.Call (.Name "range" p) [a,b] [] J) (qQ Y):=by intro W s L H R I h;show Ur (Jj I A B aU (O0 (Aw (z _ _ s L H _ I h) λP s1⟨Q,M,Z,r1,U⟩=>?_) (by rw[C,D]) (by rw[D];rfl)));lk;obtain⟨i,j,e,⟨U,E,F,G⟩,q⟩:=U;k_in;subst e;cases r1 with|cons r V=>cases V with|cons K V=>lk;cases V;obtain⟨t,rfl⟩:=r;obtain⟨N,rfl⟩:=K;k_in;show call_range_2 (ZS Z U E F G q)
def vJ(wi:FY)(g:EF)(C:CV):CV:=λD U H=>wi U H λJ A=>∃W:Nat->Nat->Ai->AG->Prop,(∃m,W 0 m U A)/\∀i m U H,W i m U H->(J.vm i H/\D.nx U H)\/(J.go i H/\∃N:Ai->AG->Prop,(∀Y V,N Y V->∃z,z<m/\W (i+1) z Y V)/\∀x V,J.aba i H x V->g x U V λZ B=>C {D with nx:=N,ct:=N,bk:=D.nx} Z B)
noncomputable def Qp(D:List AB)(h:A8):List (AB×A2):=D.filterMap λb=>(h.get? b).map λo=>(b,o)
theorem Tu(J:b∈D)(e:h.get? b=AA o):(b,o)∈Qp D h:=w9.mpr ⟨b,J,by rw[e];rfl⟩
theorem sN(V:p∈Qp D h):p.1∈D/\h.get? p.1=AA p.2:=by lk;obtain⟨b,U,e⟩:=w9.mp V;k_in;cases q:h.get? b with|none=>rw[q]at e;cases e|some o=>rw[q]at e;have J:=Bt e;subst J;show⟨U,q⟩
theorem AX.abk(I:AX X D W H s)(B:∀b∈J,JB X D H b)(C:∀b∈J,∃o,s.heap.get? b=AA o/\∀v,o.data≠.cell v):AX X (D++Qp J s.heap) W H s:=I.jx λp E=>(CS.mp E).elim (λz=>I.uc p (Eb _ z)) λz=>by lk;obtain⟨V,e⟩:=sN z;obtain⟨Y,Z,A,_⟩:=B _ V;obtain⟨o,U,d⟩:=C _ V;k_in;rw[e]at U;cases U;show⟨e,Y,Z,A,d⟩
theorem AX.wj(I:AX X (D++V) J H s):AX X D J H s:=I.jx λp U=>I.uc p (Eb _ (Ht _ U))
theorem DQ(R:PassesOwn (Ak X.ai X.w) X.A X.af X.xe)(hc:X.iw=AI)(hi:Ft X tg B wi)(hg:LA X tg g)(A:FX X body tb)(hs:∀x,Nn B X.af x=BY x:=by intro _;rfl):ET X (.For tg B body [] t) (vJ wi g tb):=by
  intro V s σ H D I h;show wpAny_For (Aw (hi V s σ H _ I h) λv s1 h1=>Aw h1 λitv s2 h2=>?_) hs;lk;obtain⟨it,k,tn,J,H2,e,I2,T,y,f2,W,⟨m0,w0⟩,turn⟩:=h2;k_in;subst e;have C:∀{G:AG},(∀b∈k,G b=AF)->∀b∈k,JB X V G b:=λhn b A=>⟨hn b A,(f2 b A).2⟩;show codeAny_forLoop_any (λn s'=>∃i E G,AX X V E G s'/\tn i s'.heap/\(∀b∈k,G b=AF)/\W i n E G) ?_ m0 ⟨0,σ,H2,I2,y,λb A=>(f2 b A).1,w0⟩;intro n s3 hI;lk;obtain⟨i,F,j,I3,a,M,w3⟩:=hI;k_in;rcases turn i n F j w3 with⟨c,qn⟩|⟨go,N,hN,step⟩
  . show PL R (Aw (T.wu X rfl rfl rfl hc i V s3 F j X.xe I3 (C M) a c) λr s4 O=>?_);obtain⟨q,I4⟩:=O;subst q;show RP ⟨F,j,I4,qn⟩
  . show PL R (Aw (T.wy X rfl rfl rfl hc i V s3 F j X.xe I3 (C M) a go) λr s4 P=>?_);lk;obtain⟨u,q,h4⟩:=P;k_in;subst q;show PL R (Aw h4 λ_ s5⟨x,H5,I5,r5,y5,L,p⟩=>?_);have l:=I5.abk (C p) (T.av _ _ L);show PL R (Aw (hg _ s5 F H5 x u _ l r5 (step x H5 y5)) λO0 s6 Q=>?_);lk;obtain⟨σ6,H6,I6,q6⟩:=Q;k_in;show PL R (Aw (A _ s6 σ6 H6 _ I6 q6) λf w K=>?_);have z:∀{U:Ai}{Y:AG},AX X _ U Y w->N U Y->∃m,m<n/\∃i E G,AX X V E G w/\tn i w.heap/\(∀b∈k,G b=AF)/\W i m E G:=λ{U Y}Z S=>by obtain⟨m',hm,w7⟩:=hN U Y S;show⟨m',hm,i+1,U,Y,Z.wj,T.ae _ _ _ L λb A o e=>(Z.uc (b,o) (Eb _ (Eb _ (Tu A e)))).1,λb A=>?_,w7⟩;obtain⟨o,e,d⟩:=T.av _ _ L b A;show(Z.uc (b,o) (Eb _ (Eb _ (Tu A e)))).2.1
    cases f with |next=>obtain⟨U,Y,Z,S⟩:=K;show z Z S|cont=>obtain⟨U,Y,Z,S⟩:=K;show z Z S|brk=>obtain⟨U,Y,Z,K⟩:=K;show⟨U,Y,Z.wj,K⟩|ret v=>obtain⟨x7,U,Y,Z,r7,K⟩:=K;show⟨x7,U,Y,Z.wj,r7,K⟩
theorem Gf{K:An}{a:AB}{xs:List AD}{g:EF}{E:CV}{D:GA}{J:Ai}{H:AG}(Y:Nat->Ai->AG->Prop)(F:Y 0 J H)(L:∀i J H,i<=xs.length->Y i J H->Bp K H a xs)(M:∀i x J H,xs[i]?=AA x->Y i J H->g x J H λz A=>E {D with nx:=Y (i+1),ct:=Y (i+1),bk:=D.nx} z A)(I:∀J H,Y xs.length J H->D.nx J H):∃W:Nat->Nat->Ai->AG->Prop,(∃m,W 0 m J H)/\∀i m J H,W i m J H->((K7 K a).vm i H/\D.nx J H)\/((K7 K a).go i H/\∃N:Ai->AG->Prop,(∀Z H',N Z H'->∃C,C<m/\W (i+1) C Z H')/\∀x H',(K7 K a).aba i H x H'->g x J H' λz A=>E {D with nx:=N,ct:=N,bk:=D.nx} z A):=by
 show⟨λi m J H=>m=xs.length-i/\i<=xs.length/\Y i J H,⟨xs.length,by simp,BZ _,F⟩,?_⟩;intro i m J H G;lk;obtain⟨rfl,B,p⟩:=G;k_in;have q:=L i J H B p;by_cases U:i<xs.length
 . show .inr ⟨⟨xs,xs[i],q,by simp[U]⟩,_,λZ H' O=>⟨_,HG _ _ U,rfl,U,O⟩,λx H' y=>?_⟩;obtain⟨e,y⟩:=y;subst e;show M i x J _ (y xs q) p
 . have e:=EJ B (E6 U);subst e;show .inl ⟨⟨xs,q,Ag _⟩,I J H p⟩
theorem OU{lo:Int}{n:Nat}{g:EF}{B:CV}{D:GA}{J:Ai}{H:AG}(Z:Nat->Ai->AG->Prop)(C:Z 0 J H)(I:∀i J H,i<n->Z i J H->g (.int (lo+i)) J H λY z=>B {D with nx:=Z (i+1),ct:=Z (i+1),bk:=D.nx} Y z)(F:∀J H,Z n J H->D.nx J H):∃W:Nat->Nat->Ai->AG->Prop,(∃m,W 0 m J H)/\∀i m J H,W i m J H->((K8 lo n).vm i H/\D.nx J H)\/((K8 lo n).go i H/\∃N:Ai->AG->Prop,(∀V H',N V H'->∃A,A<m/\W (i+1) A V H')/\∀x H',(K8 lo n).aba i H x H'->g x J H' λY z=>B {D with nx:=N,ct:=N,bk:=D.nx} Y z):=by
 show⟨λi m J H=>m=n-i/\i<=n/\Z i J H,⟨n,by simp,BZ _,C⟩,?_⟩;intro i m J H E;lk;obtain⟨rfl,G,p⟩:=E;k_in;by_cases U:i<n
 . show .inr ⟨U,_,λV H' K=>⟨_,HG _ _ U,rfl,U,K⟩,λx H' y=>?_⟩;obtain⟨e,y⟩:=y;subst e y;show I i J _ U p
 . have e:=EJ G (E6 U);subst e;show .inl ⟨Ag _,F J H p⟩
theorem wL(W:Ai->AG->Prop)(Z:Ai->AG->Nat)(B:W J H)(C:∀J H,W J H->c J H λb V=>if b=AI then A {D with nx:=λU H'=>W U H'/\Z U H'<Z J H,ct:=λU H'=>W U H'/\Z U H'<Z J H,bk:=D.nx} J V else D.nx J V)(Y:∀J H Q z,(∀b V,Q b V->z b V)->c J H Q->c J H z):Zl c A D J H:=by show⟨λm J H=>m=Z J H/\W J H,⟨_,rfl,B⟩,?_⟩;rintro m J H⟨rfl,p⟩;show Y J H _ _ (λb V q=>?_) (C J H p);cases b with|true=>show⟨_,λU H'⟨E,l⟩=>⟨_,l,rfl,E⟩,q⟩|false=>show q
abbrev Dr:=AD->AD->AG->BN->Prop
def CC(X:BP)(f:AJ->AJ->Cz AJ)(r:Dr):Prop:=∀(D:List (AB×A2))(s:AV)(J:Ai)(H:AG)(x y:AD)(v u:AJ)(Q:BN),AX X D J H s->BU x v->BU y u->r x y H Q->Am (Ak X.ai X.w) X.A (f v u) (FI X D J Q) X.xe s
def QO(X:BP)(f:AJ->Cz AJ)(r:AD->AG->BN->Prop):Prop:=∀(D:List (AB×A2))(s:AV)(J:Ai)(H:AG)(x:AD)(v:AJ)(Q:BN),AX X D J H s->BU x v->r x H Q->Am (Ak X.ai X.w) X.A (f v) (FI X D J Q) X.xe s
def Eg(X:BP)(f:AJ)(r:List AD->AG->BN->Prop):Prop:=∀(D:List (AB×A2))(s:AV)(W:Ai)(H:AG)(U:List AD)(J:List AJ)(Q:BN),AX X D W H s->BM U J->r U H Q->Am (Ak X.ai X.w) X.A (Ir f J) (FI X D W Q) X.xe s
def NX(r:Dr)(V W:Av):Av:=λD H Q=>V D H λx J=>W D J λy U=>r x y U Q
def vZ(r:AD->AG->BN->Prop)(J:Av):Av:=λU H Q=>J U H λx D=>r x D Q
def NV(C:Int->Int->Prop)(g:Int->Int->AD):Dr:=λx y H Q=>Hh (λi j=>x=.int i) (λO j=>y=.int j) (λi j=>C i j) (λi j=>Q (g i j) H)
def LU(g:Int->Int->AD):Dr:=λx y H Q=>Ei (λi j=>x=.int i) (λO j=>y=.int j) (λi j=>Q (g i j) H)
def ZR(g:Int->AD):AD->AG->BN->Prop:=λx H Q=>FZ (λi=>x=.int i) (λi=>Q (g i) H)
theorem TN{K L:Av}(B:Al X a K)(C:Al X b L){R:AD->AD->AG->Prop}(I:AX X D U H s)(h:K U H λx Z=>L U Z λy J=>R x y J){f:AJ->AJ->Cz AJ}(E:∀v u s2 x y J,AX X D U J s2->BU x v->BU y u->R x y J->Am (Ak X.ai X.w) X.A (f v u) Q X.xe s2):Am (Ak X.ai X.w) X.A (BI a X.af) (λv W=>Am (Ak X.ai X.w) X.A (BI b X.af) (λu Y=>Am (Ak X.ai X.w) X.A (f v u) Q X.xe Y) X.xe W) X.xe s:=by show Aw (B _ s U H _ I h) λv s1⟨x,Z,z,r1,F⟩=>?_;show Aw (C _ s1 U Z _ z F) λu s2⟨y,J,A,r2,G⟩=>?_;show E v u s2 x y J A r1 r2 G
theorem AW(Y:CC X (GX op) r)(V:Al X a B)(W:Al X b C):Al X (.BinOp a op b Z) (NX r B C):=by intro D s E H Q I h;show wpAny_BinOp (TN V W I h λv u s2 x y J U z A q=>Y _ s2 E J x y v u Q U z A q)
theorem UC(z:QO X (zR op) r)(Z:Al X a C):Al X (.UnaryOp op a A) (vZ r C):=by intro J s U H Q I h;show UnaryOp_ (Aw (Z _ s U H _ I h) λv s1 D=>?_);lk;obtain⟨x,W,Y,r1,B⟩:=D;k_in;show z _ s1 U W x v Q Y r1 B
theorem Qg{f:AJ->AJ->Cz AJ}{C:Int->Int->Prop}{g:Int->Int->Int}(D:∀(i j:Int)(t u:HI)(s:AV)(Q:AJ->AV->Prop)(E:AJ->AV->Prop),C i j->Q (.int (g i j) s.toks) {s with toks:=s.toks+1}->Am (Ak X.ai X.w) X.A (f (.int i t) (.int j u)) Q E s):CC X f (NV C λi j=>.int (g i j)):=by intro J s Z H x y v u Q I V W h;lk;obtain⟨i,j,rfl,rfl,U,q⟩:=h;obtain⟨t,rfl⟩:=V;obtain⟨Y,rfl⟩:=W;k_in;show D i j t Y s _ _ U ⟨.int _,H,I.iu _,⟨_,rfl⟩,q⟩
theorem Y6{f:AJ->AJ->Cz AJ}{g:Int->Int->Int}(D:∀(i j:Int)(t u:HI)(s:AV)(Q:AJ->AV->Prop)(E:AJ->AV->Prop),Q (.int (g i j) s.toks) {s with toks:=s.toks+1}->Am (Ak X.ai X.w) X.A (f (.int i t) (.int j u)) Q E s):CC X f (LU λi j=>.int (g i j)):=by intro J s Y H x y v u Q I U V h;lk;obtain⟨i,j,rfl,rfl,q⟩:=h;obtain⟨t,rfl⟩:=U;obtain⟨W,rfl⟩:=V;k_in;show D i j t W s _ _ ⟨.int _,H,I.iu _,⟨_,rfl⟩,q⟩
theorem T4{f:AJ->AJ->Cz AJ}{g:Int->Int->Bool}(D:∀(i j:Int)(t u:HI)(s:AV)(Q:AJ->AV->Prop)(E:AJ->AV->Prop),Q (.bool (g i j)) s->Am (Ak X.ai X.w) X.A (f (.int i t) (.int j u)) Q E s):CC X f (LU λi j=>.bl (g i j)):=by intro J s Y H x y v u Q I U V h;lk;obtain⟨i,j,rfl,rfl,q⟩:=h;obtain⟨t,rfl⟩:=U;obtain⟨W,rfl⟩:=V;k_in;show D i j t W s _ _ ⟨.bl _,H,I,rfl,q⟩
def Xu(i j:Int):Prop:=0<j/\j<1073741824
def n5(i j:Int):Prop:=0<=j/\j<=1000000/\i.natAbs<2^64
def Sx(i j:Int):Prop:=(-(2^64)<i/\i<2^64)\/(-(2^64)<j/\j<2^64)
theorem Sx.ok(h:Sx i j):IntMulOk i j:=by
 rcases h with⟨D,J⟩|⟨D,J⟩;.show .of_left (ACs D J)
 .show .of_right (ACs D J)
theorem E2:CC X (GX .Add) (LU λi j=>.int (i+j)):=Y6 λO O O O O O O q=>add_int q
theorem Hl:CC X (GX .Sub) (LU λi j=>.int (i-j)):=Y6 λO O O O O O O q=>sub_int q
theorem Fv:CC X (GX .Mult) (NV Sx λi j=>.int (i*j)):=Qg λO O O O O O O D q=>mul_int q D.ok
theorem DK:CC X (GX .FloorDiv) (NV Xu λi j=>.int (i/j)):=Qg λi j O O O O O J q=>by have D:(0:Int)<j:=J.1;have U:j<1073741824:=J.2;show floordiv_int (JR D) (by rw[Int.fdiv_eq_ediv_of_nonneg i (Kp D)];show q) (.inl (yA (by grind)))
theorem CG:CC X (GX .Mod) (NV (λO j=>0<j) λi j=>.int (i%j)):=Qg λi j O O O O O D q=>by show mod_int' (JR D) (by rw[Int.fmod_eq_emod_of_nonneg i (Kp D)];show q)
theorem Qj:CC X (GX .Pow) (NV n5 λi j=>.int (i^j.toNat)):=Qg λO O O O O O O D q=>pow_int_small D.1 D.2.1 D.2.2 q
theorem wH{f:AJ->Cz AJ}{g:Int->Int}(D:∀(i:Int)(t:HI)(s:AV)(Q:AJ->AV->Prop)(E:AJ->AV->Prop),Q (.int (g i) s.toks) {s with toks:=s.toks+1}->Am (Ak X.ai X.w) X.A (f (.int i t)) Q E s):QO X f (ZR λi=>.int (g i)):=by intro J s V H x v Q I U h;lk;obtain⟨i,rfl,q⟩:=h;obtain⟨t,rfl⟩:=U;k_in;show D i t s _ _ ⟨.int _,H,I.iu _,⟨_,rfl⟩,q⟩
theorem Zs:QO X (zR .USub) (ZR λi=>.int (-i)):=wH λO O O O O q=>neg_int q
noncomputable def ZX:AD->AD->Bool|.non,.non=>AI|.non,.int _=>AI|.int _,.non=>AI|.non,.bl _=>AI|.bl _,.non=>AI|.non,.str _=>AI|.str _,.non=>AI|.int _,.int _=>AI|.bl _,.bl _=>AI|.str _,.str _=>AI|.byt _,.byt _=>AI|.int _,.str _=>AI|.str _,.int _=>AI|.bl _,.str _=>AI|.str _,.bl _=>AI|_,_=>AM
def t5:Dr:=λx y H Q=>ZX x y=AI/\Q (.bl (Ac (x=y))) H
def uB:Dr:=λx y H Q=>ZX x y=AI/\Q (.bl (!Ac (x=y))) H
theorem YR:Ac (AD.int i=AD.int j)=(i==j):=by rw[VC];simp
theorem YO:Ac (AD.bl i=AD.bl j)=(i==j):=by rw[VC];simp
theorem YS:Ac (AD.str i=AD.str j)=(i==j):=by rw[VC];simp
theorem YQ:Ac (AD.byt i=AD.byt j)=(i.toList==j.toList):=by rw[VC];lk;cases i;cases j;k_in;simp
theorem DP(I:AX X D U H s)(q:Q (.bl k) H)(e:k=J):FI X D U Q (.bool J) s:=by subst e;show⟨.bl k,H,I,rfl,q⟩
theorem Cs:CC X (E7 .Eq) t5:=by intro pins s σ H x y v u Q I rx ry h;obtain⟨hs,q⟩:=h;cases x with
 |non=> cases rx;cases y with |non=>cases ry;show ADf (DP I q (by simp))|bl j=>cases ry;show ADd (DP I q (by simp))|int j=>obtain⟨t',rfl⟩:=ry;show ADe (DP I q (by simp))|str j=>obtain⟨t',rfl⟩:=ry;show ADg (DP I q (by simp))|_=>show absurd (show AM=AI from hs) DN
 |bl i=> cases rx;cases y with |non=>cases ry;show ADb (DP I q (by simp))|bl j=>cases ry;show eq_bool (DP I q YO)|str j=>obtain⟨t',rfl⟩:=ry;show ADT (DP I q (by simp))|_=>show absurd (show AM=AI from hs) DN
 |int i=> obtain⟨t,rfl⟩:=rx;cases y with |non=>cases ry;show ADc (DP I q (by simp))|int j=>obtain⟨t',rfl⟩:=ry;show eq_int (DP I q YR)|str j=>obtain⟨t',rfl⟩:=ry;show ADU (DP I q (by simp))|_=>show absurd (show AM=AI from hs) DN
 |str i=> obtain⟨t,rfl⟩:=rx;cases y with |non=>cases ry;show ADh (DP I q (by simp))|bl j=>cases ry;show ADV (DP I q (by simp))|int j=>obtain⟨t',rfl⟩:=ry;show ADW (DP I q (by simp))|str j=>obtain⟨t',rfl⟩:=ry;show eq_str (DP I q YS)|_=>show absurd (show AM=AI from hs) DN
 |byt i=> obtain⟨t,rfl⟩:=rx;cases y with |byt j=>obtain⟨t',rfl⟩:=ry;show W.eq_bytes (DP I q YQ)|_=>show absurd (show AM=AI from hs) DN
 |_=>cases y<;>show absurd (show AM=AI from hs) DN
theorem UB:CC X (E7 .NotEq) uB:=by intro pins s σ H x y v u Q I rx ry h;obtain⟨hs,q⟩:=h;cases x with
 |non=>cases rx;cases y with |non=>cases ry;show ADm (DP I q (by simp))|bl j=>cases ry;show ADk (DP I q (by simp))|int j=>obtain⟨t',rfl⟩:=ry;show ADl (DP I q (by simp))|str j=>obtain⟨t',rfl⟩:=ry;show ADn (DP I q (by simp))|_=>show absurd (show AM=AI from hs) DN
 |bl i=>cases rx;cases y with |non=>cases ry;show ADi (DP I q (by simp))|bl j=>cases ry;show ne_bool (DP I q (AEG not YO))|str j=>obtain⟨t',rfl⟩:=ry;show ADX (DP I q (by simp))|_=>show absurd (show AM=AI from hs) DN
 |int i=> obtain⟨t,rfl⟩:=rx;cases y with |non=>cases ry;show ADj (DP I q (by simp))|int j=>obtain⟨t',rfl⟩:=ry;show ne_int (DP I q (AEG not YR))|str j=>obtain⟨t',rfl⟩:=ry;show ADY (DP I q (by simp))|_=>show absurd (show AM=AI from hs) DN
 |str i=> obtain⟨t,rfl⟩:=rx;cases y with |non=>cases ry;show ADo (DP I q (by simp))|bl j=>cases ry;show ADZ (DP I q (by simp))|int j=>obtain⟨t',rfl⟩:=ry;show ADa (DP I q (by simp))|str j=>obtain⟨t',rfl⟩:=ry;show ne_str (DP I q (AEG not YS))|_=>show absurd (show AM=AI from hs) DN
 |byt i=> obtain⟨t,rfl⟩:=rx;cases y with |byt j=>obtain⟨t',rfl⟩:=ry;show W.ne_bytes (DP I q (AEG not YQ))|_=>show absurd (show AM=AI from hs) DN
 |_=>cases y<;>show absurd (show AM=AI from hs) DN
theorem Y7:CC X (E7 .Lt) (LU λi j=>.bl (Ac (i<j))):=T4 λO O O O O O O q=>xZ q
theorem T9:CC X (E7 .LtE) (LU λi j=>.bl (Ac (i<=j))):=T4 λO O O O O O O q=>le_int q
theorem Qh:CC X (E7 .Gt) (LU λi j=>.bl (Ac (j<i))):=T4 λO O O O O O O q=>gt_int q
theorem sR:CC X (E7 .Is) (λx y H Q=>y=.non/\Q (.bl (Ac (x=.non))) H):=by intro D s V H x y v u Q I J U h;lk;obtain⟨rfl,q⟩:=h;cases U;k_in;show is_none_gen (DP I q ?_);cases x<;>first|(rfl)|(obtain⟨t,rfl⟩:=J;rfl)
theorem Ba(b:A9)(h:op≠.In:=by decide)(J:op≠.NotIn:=by decide):b7 op b=AM:=by
 have e1:(op==CmpOp.In)=AM:=by cases op<;>first|rfl|show absurd rfl h
 have D:(op==CmpOp.NotIn)=AM:=by cases op<;>first|rfl|show absurd rfl J
 cases b<;>simp[b7,e1,D]
theorem Jm(Z:CC X (E7 op) r)(V:Al X a C)(W:Al X b E)(Y:b7 op b=AM):Al X (.Compare a [op] [b] z) (NX r C E):=by intro D s F H Q I h;show wpAny_Compare1 (TN V W I h λv u s2 x y J U A B q=>Z _ s2 F J x y v u Q U A B q) Y
def Zj(t:Av):DA:=λJ H Q=>t J H λx D=>FZ (λk=>x=.bl k) (λk=>Q k D)
theorem Bj(F:CC X (E7 op) r)(B:Al X a O)(C:Al X b P)(E:b7 op b=AM):Gy X (.Compare a [op] [b] G) (Zj (NX r O P)):=by intro J s D H Q I h;show wpAny_isTrue_Compare1 (Aw (B _ s D H _ I h) λv s1⟨x,U,Y,r1,K⟩=>Aw (C _ s1 D U _ Y K) λu s2⟨y,V,Z,r2,L⟩=>Aw (F _ s2 D V x y v u _ Z r1 r2 L) λc s3⟨z,W,A,N,k,e,M⟩=>?_) E;subst e;cases N;show PN ⟨W,A,M⟩
def Ze(r Y:Dr)(Z A B:Av):Av:=λD H Q=>Z D H λx U=>A D U λy V=>r x y V λz J=>FZ (λk=>z=.bl k) (λk=>(if k=AI then B D J λC W=>Y y C W Q else Q (.bl AM) J))
theorem ZD(R:CC X (E7 op) r)(V:CC X (E7 D) B)(M:Al X a l)(N:Al X b m)(O:Al X c n)(P:lastMarks [op,D] [b,c]=AM:=by with_unfolding_all rfl):Al X (.Compare a [op,D] [b,c] S) (Ze r B l m n):=by intro Z s U H Q I h;show Compare_chain (Aw (M _ s U H _ I h) λv s1⟨x,C,G,r1,T⟩=>chain_link (Aw (N _ s1 U C _ G T) λu s2⟨y,E,K,r2,f⟩=>Aw (R _ s2 U E x y v u _ K r1 r2 f) λd s3⟨z,W,Y,i,k,e,A⟩=>?_)) P;subst e;cases i;show PN ?_;cases k with|false=>show ite_ff ⟨.bl _,W,Y,rfl,A⟩| true => show ite_tt (chain_last (Aw (O _ s3 U W _ Y A) λo s4 J=>?_));lk;obtain⟨p,F,L,j,g⟩:=J;k_in;show V _ s4 U F y p u o Q L r2 j g
theorem tX(f:CC X (E7 op) r)(U:CC X (E7 D) A)(P:Al X a t)(R:Al X b w)(S:Al X c tc)(T:lastMarks [op,D] [b,c]=AM:=by with_unfolding_all rfl):Gy X (.Compare a [op,D] [b,c] g) (Zj (Ze r A t w tc)):=by intro Y s J H Q I h;show isTrue_chain (Aw (P _ s J H _ I h) λv s1⟨x,B,G,r1,j⟩=>test_link (Aw (R _ s1 J B _ G j) λu s2⟨y,C,K,r2,l⟩=>Aw (f _ s2 J C x y v u _ K r1 r2 l) λd s3⟨z,V,W,o,k,e,Z⟩=>?_)) T;subst e;cases o;show PN ?_;cases k with|false=>lk;obtain⟨k',N,i⟩:=Z;cases N;k_in;show ite_ff ⟨V,W,i⟩|true=>show ite_tt (test_last (Aw (S _ s3 J V _ W Z) λw' s4⟨z',E,L,p,m⟩=>Aw (U _ s4 J E y z' u w' _ L r2 p m) λd' s5⟨z2,F,M,q,k2,O,n⟩=>?_));subst O;cases q;show PN ⟨F,M,n⟩
theorem OW:(Az:Nat)<2^63:=by decide
theorem T5:CC X (GX .Add) (λx y H Q=>∃i j,x=.str i/\y=.str j/\i.length+j.length<=Az/\Q (.str (i++j)) H):=by intro D s Z H x y v u Q I U V h;lk;obtain⟨i,j,rfl,rfl,J,q⟩:=h;obtain⟨t,rfl⟩:=U;obtain⟨W,rfl⟩:=V;k_in;show add_str (λW Y=>⟨.str (i++j),H,I.iu _,⟨_,rfl⟩,q⟩) J
theorem Gj(r:BM [x] D):∃u,D=[u]/\BU x u:=by cases r with|cons r1 r2=>cases r2;show⟨_,rfl,r1⟩
theorem Qw(r:BM [x,y] D):∃u J,D=[u,J]/\BU x u/\BU y J:=by cases r with|cons r1 r2=>cases r2 with|cons U W=>cases W;show⟨_,_,rfl,r1,U⟩
theorem YD(U:X.iw=AI):Eg X (.builtin "max") (λxs H Q=>∃i j,xs=[.int i,.int j]/\Q (.int (if j>i then j else i)) H):=by
 intro J s A H xs Z Q I r h;lk;obtain⟨i,j,rfl,q⟩:=h;obtain⟨u,z,rfl,⟨t,rfl⟩,⟨W,rfl⟩⟩:=Qw r;k_in;show max_two_ints (I.ok.hd U) λV Y k=>⟨_,H,I.ig k,?_,q⟩;by_cases D:j>i;.rw[AEE D,AEE D];show⟨_,rfl⟩
 .rw[AED D,AED D];show⟨_,rfl⟩
theorem oS(U:X.iw=AI):Eg X (.builtin "min") (λxs H Q=>∃i j,xs=[.int i,.int j]/\Q (.int (if j<i then j else i)) H):=by
 intro J s A H xs Z Q I r h;lk;obtain⟨i,j,rfl,q⟩:=h;obtain⟨u,z,rfl,⟨t,rfl⟩,⟨W,rfl⟩⟩:=Qw r;k_in;show min_two_ints (I.ok.hd U) λV Y k=>⟨_,H,I.ig k,?_,q⟩;by_cases D:j<i;.rw[AEE D,AEE D];show⟨_,rfl⟩
 .rw[AED D,AED D];show⟨_,rfl⟩
theorem YC:Eg X (.type "int") (λxs H Q=>(∃i,xs=[.int i]/\Q (.int i) H)\/∃k,xs=[.bl k]/\Q (.int (if k then 1 else 0)) H):=by
 intro D s U H xs J Q I r h;rcases h with⟨i,rfl,q⟩|⟨k,rfl,q⟩;. lk;obtain⟨u,rfl,t,rfl⟩:=Gj r;k_in;show call_int_int ⟨.int i,H,I,⟨_,rfl⟩,q⟩
 . lk;obtain⟨u,rfl,r1⟩:=Gj r;cases r1;k_in;show call_int_bool ⟨.int _,H,I.iu _,⟨_,rfl⟩,q⟩
structure M6(h:A8)(x dx C:AB)(mA:AE->Option AJ):Prop where
 av:h.get? x=AA (RM C dx)ns:h.Ns1 dx mA
 ne:dx≠x
theorem rX{h:A8}(n:h.Ns1 U W):∃Y,h.get? U=AA Y/\∀D,bY D Y=AA (W D):=by
  lk;obtain⟨o,V,G,E,A,B,_,C⟩:=n;k_in;show⟨o,E,λD=>?_⟩;have e:=C D;unfold nsFind findBy at e;rw[<-Array.find?_toList]at e;unfold bY;rw[A];dsimp only;split
  . rename_i y q;rw[q]at e;show AEG _ e
  . rename_i q;rw[q]at e;have a:V.toList.any (·.refKey)=AM:=by rw[List.any_eq_false];intro y F;obtain⟨z,t,J⟩:=B y (Array.mem_toList_iff.mp F);simp[ADS,J]
    have Z:¬V.toList.any (·.refKey)=AI:=by rw[a];show DN
    rw[AED Z];show AEG _ e
theorem M6.abw(I:M6 h x U C V):∃J,W.InstAt h x (RM C U) C (AA J)/\∀D,bY D J=AA (V D):=let⟨J,Y,W⟩:=rX I.ns
 ⟨J,⟨I.av,rfl,rfl,Y⟩,W⟩
theorem qH{K:An}(X:K.In s.heap)(I:M6 s.heap x dx C mA)(hg:bZ K C name=AI)(hh:yT K C=AI)(ha:HJ K (.ref C) name=AA AF)(hv:mA name=AA v)(hv':ACS v=AI)(h:Q v {s with toks:=s.toks+1}):Am (Ak prog w) A (zI (.ref x) name expr) Q E s:=by lk;obtain⟨od,J,hl⟩:=I.abw;k_in;show W.get_value X J (y4 hg).1 (W.findObj_own hh ha rfl (by rw[hl,hv])) hv' h
theorem qI{K:An}(X:K.In s.heap)(I:M6 s.heap x dx C mA)(hg:bZ K C name=AI)(hf:HJ K (.ref C) name=AA (AA (.ref f)))(ht:yU K (.ref f)=AI)(hv:mA name=AF)(h:Q (.ref f,[.ref x]) s):Am (Ak prog w) A (b8 (.ref x) name pl) Q E s:=by lk;obtain⟨od,J,hl⟩:=I.abw;k_in;show W.method_fn X J (y4 hg).1 (y4 hg).2 hf (AEO.mp ht) (by change(bY _ od).map _=AA _;rw[hl,hv];rfl) h
theorem uL{K:An}{D:AE}(X:K.In s.heap)(I:M6 s.heap x G C H)(R:HJ K (.ref C) "__setattr__"=AA (AA (.builtin "object.__setattr__")))(P:ACf K C=AI)(S:y8 K C D=AA AF)(O:yT K C=AI)(hw:y9 H ns)(F:ns.length<=Az)(h:∀W,M6 W x G C (λy=>if y=D then AA v else H y)->U1 G s.heap W->Q () {s with heap:=W,toks:=s.toks+2}):Am (Ak prog w) A (setAttr (.ref x) D v) Q E s:=by lk;obtain⟨e,J,c⟩:=I.abw;k_in;show W.set_plain X J R (W.osa_open X J P S λb=>?_);lk;obtain⟨a,N,Z⟩:=W.any_some O;k_in;have T:=I.av;show A6 (Ci (A6 (A6 (AC5 T (A6 (AD9 (W.looks_clsIn X N) ?_))))));rw[Z];show Ci (A6 (Ci (A6 ?_)));show wpAny_nsSet1 I.ns λW U V=>?_;lk;obtain⟨d,M,L,B,z,Y⟩:=U.count (AEA _ v hw);k_in;show A6 (wpAny_lookBehind B (by rw[z];show pastItsLine_dict (Af Y (by show Gn.mpr F))) ?_);show Ci (h _ ⟨(V.2 _ (DZ I.ne)).trans I.av,U,I.ne⟩ V)
theorem Y0{K:An}(X:K.In s.heap)(V:ACc K C=AI)(hi:HJ K (.ref C) "__init__"=AA (AA (.ref f)))(U:W.typeIn K (.ref f)=AA (.type "function"))(h:Ma (Ak prog w) (A.under (.builtin "type.__call__" ⟨.ref C::vs,D⟩)) (.call (.ref f) ⟨.ref (s.heap.objs.size+1)::vs,D⟩) (W.InitBack (s.heap.objs.size+1) R) {s with heap:=(s.heap.push bU).push (RM C s.heap.objs.size)}):Ma (Ak prog w) A (.call (.ref C) ⟨vs,D⟩) R s:=by show W.make_core (W.makes_of X V) (yZ X hi) (λJ=>W.bind_fn X _ U) (.inl rfl) h
noncomputable def Fx(f:AE)(v:AD):List (AE×AD)->List (AE×AD)|[]=>[(f,v)]|(g,x)::r=>if g=f then(g,v)::r else(g,x)::Fx f v r
theorem Yx(f g:AE)(v:AD):∀U:List (AE×AD),(Fx f v U).lookup g=if g=f then AA v else U.lookup g
  |[]=>by
    change Ot g [(f,v)]=_;by_cases h:g=f
    . have D:=AEO.mpr h;simp only[Ot,D,AEE h]
    . have D:=AEP.mpr h;simp only[Ot,D,AED h]|(k,x)::r=>by
    have W:=Yx f g v r;rw[show Fx f v _=(if k=f then(k,v)::r else(k,x)::Fx f v r)from rfl];by_cases J:k=f
    . rw[AEE J];by_cases h:g=k
      . have D:=AEO.mpr h;simp only[Ot,D,AEE (h.trans J)]
      . have D:=AEP.mpr h;simp only[Ot,D,AED (λe:g=f=>h (e.trans J.symm))]
    . rw[AED J];by_cases h:g=k;. have D:=AEO.mpr h;simp only[Ot,D,AED (λe:g=f=>J (h.symm.trans e))]
      . have D:=AEP.mpr h;simp only[Ot,D];show W
theorem Tq(f:AE)(v:AD):∀D:List (AE×AD),f∈(Fx f v D).map (·.1)/\∀g,g∈D.map (·.1)->g∈(Fx f v D).map (·.1)
  |[]=>⟨by simp[Fx],λg h=>by simp at h⟩|(k,x)::r=>by
    obtain⟨i1,i2⟩:=Tq f v r;rw[show Fx f v _=(if k=f then(k,v)::r else(k,x)::Fx f v r)from rfl];by_cases J:k=f;. subst J;show⟨by simp,λg h=>by simpa using h⟩
    . rw[AED J];show⟨?_,λg h=>?_⟩;.show En _ i1
      . rcases B6.mp h with e|e;.show B6.mpr (.inl e)
        .show En _ (i2 g e)
theorem Ys(f:AE)(v:AD):∀D:List (AE×AD),(Fx f v D).length<=D.length+1
 |[]=>by simp[Fx]|(k,x)::r=>by
  have U:=Ys f v r;rw[show Fx f v _=(if k=f then(k,v)::r else(k,x)::Fx f v r)from rfl];by_cases J:k=f;.rw[AEE J,MQ];simp
  .rw[AED J,MQ];show Gn.mpr U
theorem QK(r:KN (AA v) o):∃u,o=AA u/\BU v u:=by cases o with|none=>show(show False from r).elim|some u=>show⟨u,rfl,r⟩
theorem oE(r:KN AF o):o=AF:=by cases o with|none=>rfl|some u=>show(show False from r).elim
theorem qK(r:BU v u):ACS u=AI:=by cases v with|non=>cases(show u=yQ from r);rfl|bl b=>cases(show u=RG b from r);rfl|int i=>obtain⟨t,e⟩:=(show∃t,u=RH i t from r);cases e;rfl|str x=>obtain⟨t,e⟩:=(show∃t,u=RI x t from r);cases e;rfl|byt b=>obtain⟨t,e⟩:=(show∃t,u=ACI b t from r);cases e;rfl|flt b=>obtain⟨t,e⟩:=(show∃t,u=yP b t from r);cases e;rfl|ref a=>cases(show u=DM a from r);rfl|ty n=>cases(show u=bP n from r);rfl
theorem QW(U:Cr P w H h)(e:H a=AA (.ins C V J)):∃D,M6 h a V C D/\(∀f,KN (J.lookup f) (D f))/\y9 D (J.map (·.1))/\J.length<=1000/\H V=AA (.own a):=by lk;obtain⟨d,z,W,Y,D,n,r,q⟩:=(show Cv P w H h a _ from U a _ e);k_in;show⟨D,⟨Y,n,W⟩,r,q,z,d⟩
structure GQ(K:An)(C:AB):Prop where
 pg:bZ K C Str.empty=AI
 hd:yT K C=AI
 po:ACf K C=AI
 sa:HJ K (.ref C) "__setattr__"=AA (AA (.builtin "object.__setattr__"))
theorem GQ.wx{K:An}(c:GQ K C)(f:AE):bZ K C f=AI:=c.pg
def EE(K:An)(C:AB)(f:AE):Prop:=HJ K (.ref C) f=AA AF
theorem EE.aef{K:An}(n:EE K C f):y8 K C f=AA AF:=by unfold y8;rw[show HJ K _ f=AA _ from n];rfl
structure QF(K:An)(C:AB)(m:AE)(f:AB):Prop where
 afk:HJ K (.ref C) m=AA (AA (.ref f))fn:yU K (.ref f)=AI
 kp:RN K (.ref f)=AI
theorem qJ(I:AX X D W H s)(e:H a=AA (.ins C Y U))(c:GQ X.K C)(n:EE X.K C f)(l:U.lookup f=AA v)(h:∀u s',AX X D W H s'->BU v u->Q u s'):Am (Ak X.ai X.w) A (zI (.ref a) f b) Q E s:=by lk;obtain⟨Z,O,r,_,_,_⟩:=QW I.cq e;obtain⟨u,V,J⟩:=QK (by rw[<-l];show r f);k_in;show qH I.oy O (c.wx f) c.hd n V (qK J) (h u _ (I.iu _) J)
theorem Yd(I:AX X D Z H s)(e:H a=AA (.ins C W J))(c:GQ X.K C)(k:QF X.K C m g)(l:J.lookup m=AF)(h:Q (.ref g,[.ref a]) s):Am (Ak X.ai X.w) A (b8 (.ref a) m V) Q E s:=by lk;obtain⟨Y,O,r,_,_,_⟩:=QW I.cq e;k_in;have U:=oE (by rw[<-l];show r m);show qI I.oy O (c.wx m) k.afk k.fn U h
theorem uM(I:AX X J T H s)(e:H a=AA (.ins C W D))(c:GQ X.K C)(n:EE X.K C f)(Y:D.length<1000)(R:BU y u)(h:∀s',AX X J T (AK H a (.ins C W (Fx f y D))) s'->Q () s'):Am (Ak X.ai X.w) A (setAttr (.ref a) f u) Q E s:=by
  lk;obtain⟨P,O,r,B,_,Z⟩:=QW I.cq e;k_in;have N:(D.map (·.1)).length<=Az:=by rw[As];show Af (Bg Y) (by decide)
  show uL I.oy O c.sa c.po n.aef c.hd B N λG U S=>h _ ?_;have L:∃o,G.get? W=AA o:=let⟨o,_,_,F,_⟩:=U.ns;⟨o,F⟩;show I.wo (by rw[e];show HM) (.inr Z) (λb q K z=>(S.2 b K).trans z) L ?_;show⟨by rw[AU O.ne];show Z,?_,O.ne,U.av,_,U.ns,λg=>?_,λg M=>?_⟩;.have:=Ys f y D;show Af this Y
  . rw[Yx];by_cases q:g=f;.rw[AEE q,AEE q];show R
    .rw[AED q,AED q];show r g
  . by_cases q:g=f;.rw[q];show(Tq f y D).1
    . show(Tq f y D).2 g (B g λz=>M ?_);change(if g=f then AA u else P g)=AF;rw[AED q];show z
theorem Xw(I:AX X D z H s):AX X D z (AK (AK H s.heap.objs.size (.own (s.heap.objs.size+1))) (s.heap.objs.size+1) (.ins C s.heap.objs.size [])) {s with heap:=(s.heap.push bU).push (RM C s.heap.objs.size)}:=by
 have e1:(s.heap.push bU).get? _=AA _:=Fe _ rfl;have V:=by have:=Fe (s.heap.push bU) (o:=RM C s.heap.objs.size) rfl;rwa[yL]at this
 have W:(s.heap.push _).Ns _ _:=⟨_,#[],_,e1,rfl,(λe Y=>absurd Y (by simp)),λO=>rfl⟩;have U:=I.oz (o:=.own (s.heap.objs.size+1)) (t':=s.toks) (λb u q=>Cb _ q) (Ag _) ⟨_,e1⟩;show U.oz (λb u q=>Cb _ q) (BW (yL _ _)) ?_;have J:s.heap.objs.size≠s.heap.objs.size+1:=DV (Jo _);show⟨by rw[AU J,AZ],BZ _,J,V,_,(Heap.Ns1.of_empty W).at λo q=>Cb _ q,λO=>HM,λy Z=>absurd rfl Z⟩
theorem oM(U:Jv e f env (BI e env)=BI e env)(h:Am (Ak prog w) A (BI e env) (λo D=>Am (Ak prog w) A (zI o f AI) Q E D) E s):Am (Ak prog w) A (BI (.Attribute e f J) env) Q E s:=Attribute_any_ h (by rw[arm_eval_Attribute,U])
inductive Xv(K:An)(H:AG)(f:AE):AD->AD->Prop|mk{a C dx:AB}{fs:List (AE×AD)}{v:AD}(e:H a=AA (.ins C dx fs))(c:GQ K C)(n:EE K C f)(l:fs.lookup f=AA v):Xv K H f (.ref a) v
def Zg(K:An)(J:Av)(f:AE):Av:=λU H Q=>J U H λx D=>FZ (λv=>Xv K D f x v) (λv=>Q v D)
def uK(K:An)(Z z:Av)(f:AE):CV:=λD V H=>z V H λy Y=>Z V Y λx W=>OO (λa C U J=>x=.ref a) (λa C U J=>W a=AA (.ins C U J)) (λO C O O=>GQ K C) (λO C O O=>EE K C f) (λO O O J=>J.length<1000) (λa C U J=>D.nx V (AK W a (.ins C U (Fx f y J))))
theorem BC(z:Al X e E)(Z:Jv e f X.af (BI e X.af)=BI e X.af):Al X (.Attribute e f A) (Zg X.K E f):=by intro J s F H Q I h;show oM Z (Aw (z _ s F H _ I h) λu s1 D=>?_);lk;obtain⟨x,U,V,C,v,g,q⟩:=D;k_in;cases g with|mk Y c n l=>obtain rfl:u=DM _:=C;show qJ V Y c n l λG s2 W B=>⟨v,U,W,B,q⟩
theorem Du(G:Al X o Q)(L:Al X J R)(K:Nr J (AA (.Attribute o f U)) V.line X.af=BY AM):ET X (.Assign [.Attribute o f U] J V) (uK X.K Q R f):=by intro Y s W H D I h;show plainObj_wpAny_Assign_Attribute (Aw (L _ s W H _ I h) λu s1 A0=>?_) K;obtain⟨y,Z,z,P,q⟩:=A0;show Aw (G _ s1 W Z _ z q) λM s2 A1=>?_;obtain⟨x,S,A,O,a,C,T,b,F,E,c,n,l,N⟩:=A1;subst F;obtain rfl:M=DM a:=O;show uM A E c n l P λs3 B=>⟨W,_,B,N⟩
section
variable{H:AG}
inductive Hg(K:An)(H:AG):AD->AJ->Prop where|non:Hg K H .non (.type "NoneType")|bl(x:Bool):Hg K H (.bl x) (.type "bool")|int(i:Int):Hg K H (.int i) (.type "int")|str(x:AE):Hg K H (.str x) (.type "str")|flt(x:UInt64):Hg K H (.flt x) (.type "float")|lst{a:AB}{xs:List AD}(e:H a=AA (.lst xs)):Hg K H (.ref a) (.type "list")|frz{a:AB}{o:A2}{xs:List AD}(e:H a=AA (.frz o (.lst xs))):Hg K H (.ref a) (.type "list")|tup{a:AB}{xs:List AD}(e:H a=AA (.tup xs)):Hg K H (.ref a) (.type "tuple")|dK{a:AB}{kvs:List (AL×AD)}(e:H a=AA (.dK kvs)):Hg K H (.ref a) (.type "dict")|dT{a:AB}{kvs:List (List AL×AD)}(e:H a=AA (.dT kvs)):Hg K H (.ref a) (.type "dict")|ins{a C dx:AB}{fs:List (AE×AD)}(e:H a=AA (.ins C dx fs))(cl:GQ K C)(ha:HJ K (.ref C) "__class__"=AA (AA (.builtin "object.__class__")))(hn:W.specialIn K (.builtin "object.__class__") "__get__"=AA (AA (.builtin "getset_descriptor.__get__")))(htk:W.takesIn K (.builtin "object.__class__")=AA AI)(hm:W.mroIn K C (.type "object")=AA AI):Hg K H (.ref a) (.ref C)
end
theorem qU(I:AX X pins σ H s)(rx:BU x u)(ty:Hg X.K H x t)(e:Lh X.K t c=AA b)(h:∀tk,Q (.bool b) {s with toks:=tk}):Am (Ak X.ai X.w) A (Ir (.builtin "isinstance") [u,c]) Q E s:=by cases ty with|non=>cases(show u=yQ from rx);show Ju W.kitx_none I.oy HM e (λz=>nomatch z) h|bl y=>cases(show u=RG y from rx);show Ju W.kitx_bool I.oy HM e (λz=>nomatch z) h|int i=>obtain⟨t,q⟩:=(show∃t,u=RH i t from rx);cases q;show Ju W.kitx_int I.oy HM e (λz=>nomatch z) h|str y=>obtain⟨t,q⟩:=(show∃t,u=RI y t from rx);cases q;show Ju W.kitx_str I.oy HM e (λz=>nomatch z) h|flt y=>obtain⟨t,q⟩:=(show∃t,u=yP y t from rx);cases q;show Ju W.kitx_float I.oy HM e (λz=>nomatch z) h|@lst a xs ea=>lk;cases(show u=DM a from rx);obtain⟨_,_,n,_,h1⟩:=(show Cv _ _ H _ a _ from I.cq a _ ea);k_in;show Ju ACa I.oy ⟨_,h1,rfl⟩ e (λz=>nomatch z) h|@frz a ob xs ea=>lk;cases(show u=DM a from rx);obtain⟨_,_,_,n,_,h1⟩:=(show Cv _ _ H _ a _ from I.cq a _ ea);k_in;show Ju ACa I.oy ⟨_,h1,rfl⟩ e (λz=>nomatch z) h|@tup a xs ea=>lk;cases(show u=DM a from rx);obtain⟨_,_,_,p⟩:=(show Cv _ _ H _ a _ from I.cq a _ ea);obtain⟨o,h1,h2,_⟩:=p;k_in;show Ju W.kitx_tuple I.oy ⟨o,h1,h2⟩ e (λz=>nomatch z) h|@dK a kvs ea=>lk;cases(show u=DM a from rx);obtain⟨_,_,vs,_,p⟩:=(show Cv _ _ H _ a _ from I.cq a _ ea);obtain⟨o,es,ep,h1,h2,_⟩:=p;k_in;show Ju ACZ I.oy ⟨o,h1,h2.1⟩ e (λz=>nomatch z) h|@dT a kvs ea=>lk;cases(show u=DM a from rx);obtain⟨_,_,xs,_,o,es,ep,h1,h2,_⟩:=(show Cv _ _ H _ a _ from I.cq a _ ea);k_in;show Ju ACZ I.oy ⟨o,h1,h2.1⟩ e (λz=>nomatch z) h|@ins a C dx fs ea cl ha hn htk hm=>lk;cases(show u=DM a from rx);obtain⟨mA,O,_⟩:=QW I.cq ea;obtain⟨od,J,_⟩:=O.abw;k_in;show Ju (W.kitx_own (cl.wx _) cl.hd ha hn htk hm) I.oy J e (λz=>nomatch z) h
structure DF(k:Nat)(A:Cf):Prop where
 hd:A.handled=AF
 dp:A.depth+3*k+5<ACw
 un:A.units+16*k+200<Gq
theorem DF.zo(r:DF k A)(h:j<=k):DF j A:=⟨r.hd,by have:=r.dp;lia,by have:=r.un;lia⟩
theorem DF.acr(r:DF (k+1) A)(env:DL):DF k (A.deeper env):=⟨r.hd,by have:=r.dp;change A.depth+1+3*k+5<_;lia,by have:=r.un;change A.units+3+16*k+200<_;lia⟩
theorem DF.adu(r:DF (k+1) A):DF k A.in1:=⟨r.hd,by have:=r.dp;lia,by have:=r.un;lia⟩
theorem sA{A:Cf}:(A.under (.builtin "type.__call__" ⟨.ref C::J,D⟩)).depth=A.depth+1:=by first|rfl|simp
theorem sC{A:Cf}:(A.under (.builtin "type.__call__" ⟨.ref C::J,D⟩)).units=A.units+1:=by first|rfl|simp
theorem DF.abh(r:DF (k+1) A)(C:AB)(J:List AJ)(D:List (AE×AJ)):DF k (A.under (.builtin "type.__call__" ⟨.ref C::J,D⟩)):=⟨r.hd,by have:=r.dp;rw[sA];lia,by have:=r.un;rw[sC];lia⟩
theorem DF.ado(r:DF k A):A.depth<ACw:=by have:=r.dp;lia
theorem DF.zb(r:DF k A):A.units+64<Gq:=by have:=r.un;lia
theorem DF.zu(r:DF k A):A.units<Gq:=by have:=r.un;lia
def UP:Ez:=λO H Q=>Q [] H
def vB(V:Av)(W:Ez):Ez:=λD H Q=>V D H λx J=>W D J λY U=>Q (x::Y) U
theorem E3:Fs X [] UP:=λO O O O H Q I h=>O4 ⟨[],H,I,.nil,h⟩
theorem Y9(B:Al X e L)(C:Fs X U t)(E:By (e::U) X.af=(AM,BI e X.af)::By U X.af:=by rfl):Fs X (e::U) (vB L t):=by intro F V s W H Q I h;rw[E];show Nj (Aw (B _ s W H _ I h) λu s1 D=>?_);lk;obtain⟨x,Y,z,r1,G⟩:=D;k_in;show Aw (C _ _ s1 W Y _ z G) λM s2 J=>?_;lk;obtain⟨N,Z,A,r2,K⟩:=J;k_in;show⟨_,Z,A,.cons r1 r2,K⟩
def vY(t:Ez):Av:=λU H Q=>t U H λJ D=>J.length<=Az/\∀p,D p=AF->Q (.ref p) (AK D p (.tup J))
def vO(t:Ez):Av:=λU H Q=>t U H λJ D=>J.length<=Az/\∀p,D p=AF->Q (.ref p) (AK D p (.lst J))
theorem Cn(h:Fs X V t):Al X (.Tuple V B Z) (vY t):=by intro U s C H Q I Y;show wpAny_Tuple_spliced (Aw (h _ _ s C H _ I Y) λA s1 D=>?_);lk;obtain⟨F,E,J,r,z,q⟩:=D;k_in;show⟨by rw[<-r.aq];show z,?_⟩;have W:=J.cq.bw (Ag _);show⟨.ref _,_,J.oz (λb u e=>Cb _ e) (Ag _) ?_,rfl,q _ W⟩;show⟨z,A,r,⟨_,Fe _ rfl,rfl,_,rfl⟩⟩
theorem DB(h:Fs X V t):Al X (.List V Z) (vO t):=by intro U s B H Q I Y;show wpAny_List_spliced (Aw (h _ _ s B H _ I Y) λA s1 D=>?_);lk;obtain⟨E,C,J,r,z,q⟩:=D;k_in;show⟨by rw[<-r.aq];show z,?_⟩;have W:=J.cq.bw (Ag _);show⟨.ref _,_,J.oz (λb u e=>Cb _ e) (Ag _) ?_,rfl,q _ W⟩;show⟨z,A,0,r,Fe _ rfl⟩
abbrev Ax:=List AD->AG->BN->FL->Prop
abbrev HY:=List DL->AG->AV->FL->AJ->AV->Prop
structure K4(P:CI)(w:Bm)(K:An)(mg:AE->Option AJ)(base:A8)(A:Cf)(outer:List DL)(s:AV)(H:AG):Prop where
 ir:A.frames=AA outer
 vn:QG K mg base
 bs:∀b o,base.get? b=AA o->s.heap.get? b=AA o/\H b=AF
 aax:base.objs.size<=s.heap.objs.size
 ot:s.heap.FunFrames base outer
 abq:∀b∈C6 outer,H b=AF
 cq:Cr P w H s.heap
 je:Lb s.gens
def Sw(D:List DL)(P:CI)(w:Bm)(H:AG)(s:AV)(Q:BN)(u:AJ)(s':AV):Prop:=QQ (λv J=>s'.os=s.os) (λO O=>Lb s'.gens) (λO J=>GB (C6 D) [] H J s.heap s'.heap) (λO J=>Cr P w J s'.heap) (λv O=>BU v u) (λv J=>Q v J)
def n6(CX:HY)(D:List DL)(P:CI)(w:Bm)(H:AG)(s:AV)(Q:BN)(E:FL)(r:bM)(s':AV):Prop:=match r with|.ok (.ret u)=>Sw D P w H s Q u s'|.ok _=>False|.error e=>CX D H s E e s'
structure HZ(P:CI)(w:Bm)(K:An)(mg:AE->Option AJ)(base:A8)(CX:HY)(k:Nat)(f:AB)(fd:Hw)(ps:List AE)(sp:Ax):Prop where
 fq:∀vs H Q E,sp vs H Q E->vs.length=ps.length
 aeb:∀(A:Cf)(outer:List DL)(s:AV)(H:AG)(args:Args)(us:List AJ)(vs:List AD)(Q:BN)(E:FL),DF k A->K4 P w K mg base A outer s H->RD s fd args (ps.zip us)->BM vs us->sp vs H Q E->Ma (Ak P w) A (.call (.ref f) args) (n6 CX outer P w H s Q E) s
theorem K4.abh{K:An}(e:K4 P w K J base A D s H)(C:AB)(V:List AJ)(U:List (AE×AJ)):K4 P w K J base (A.under (.builtin "type.__call__" ⟨.ref C::V,U⟩)) D s H:=⟨by first|show e.ir|(simpa[pushEnvs]using e.frames),e.vn,e.bs,e.aax,e.ot,e.abq,e.cq,e.je⟩
theorem K4.adu{K:An}(e:K4 P w K J base A D s H):K4 P w K J base A.in1 D s H:=⟨e.ir,e.vn,e.bs,e.aax,e.ot,e.abq,e.cq,e.je⟩
theorem AX.abu(I:AX X D J H s):K4 X.ai X.w X.K X.mg X.ag X.A X.cj s H:=⟨I.ok.ir,I.ok.vn,I.bs,Af I.ok.aax I.sz,I.cj,I.xy,I.cq,I.je⟩
theorem AX.zx(I:AX X J A H s)(h:Sw X.cj X.ai X.w H s Q u s'):FI X J A Q u s':=by lk;obtain⟨v,W,Y,D,Z,U,r,q⟩:=h;obtain⟨B,g,d,t,V⟩:=s';obtain rfl:V=s.os:=Y;k_in;show⟨v,W,I.adl Z U D (λb z=>absurd z (by simp)),r,q⟩
def vA(sp:Ax)(D:List AD)(E:FL)(t:Ez):Av:=λW H Q=>t W H λU J=>sp (U++D) J Q E
def Zi(C:AB)(m:AE)(sp:Ax)(J:List AD)(E:FL)(z:Av)(t:Ez):Av:=λY H Q=>z Y H λx U=>KP (λa W D=>x=.ref a) (λa W D=>U a=AA (.ins C W D)) (λO O D=>D.lookup m=AF) (λO O O=>t Y U λA Z=>sp (x::(A++J)) Z Q E)
def Zh(C:AB)(sp:Ax)(U:List AD)(E:FL)(t:Ez):Av:=λZ H Q=>t Z H λY J=>∀x D,J x=AF->J D=AF->D≠x->sp (.ref x::(Y++U)) (AK (AK J D (.own x)) x (.ins C D [])) (λv W=>v=.non/\Q (.ref x) W) E
def Kz(K:An)(U:Hw)(ps:List AE)(J:List AJ):Prop:=∀(s:AV)(D:List AJ),K.In s.heap->(D++J).length=ps.length->RD s U ⟨D,[]⟩ (ps.zip (D++J))
theorem Kz.zy{K:An}(h:∀D:List AJ,D.length=ps.length->zA J ⟨D,[]⟩=BY (ps.zip D)):Kz K J ps []:=λs D O U=>by rw[Ea]at U⊢;show .of_eq (h D U)
def M8(CX:HY)(X:BP)(E:FL):Prop:=∀(D:List (AB×A2))(U:Ai)(H:AG)(s:AV)(e:AJ)(J:AV),AX X D U H s->CX X.cj H s E e J->X.xe e J
theorem UJ(F:HZ X.ai X.w X.K X.mg X.ag CX k f z ps sp)(K:DF k X.A)(B:Kz X.K z ps Z)(C:BM W Z)(L:M8 CX X E)(I:AX X D Y H s)(r:BM vs U)(h:sp (vs++W) H Q E):Am (Ak X.ai X.w) X.A (Ir (.ref f) U) (FI X D Y Q) X.xe s:=by
 have r2:=r.qu C;have G:(U++Z).length=ps.length:=by rw[<-r2.aq];show F.fq _ _ _ _ h
 show U6 (PC (F.aeb _ _ s H _ _ _ Q E K I.abu (B s U I.oy G) r2 h) λr M J=>?_);cases r with|error e=>show L _ Y H s e M I J|ok A=>cases A with|ret u=>show I.zx J|next=>show Er J|brk=>show Er J|cont=>show Er J
section
variable{f C:AB}
structure OH(K:An)(C f:AB):Prop where
 acg:ACc K C=AI
 adv:HJ K (.ref C) "__init__"=AA (AA (.ref f))fn:yU K (.ref f)=AI
 kp:RN K (.ref C)=AI
end
theorem ZW(M:OH X.K C f)(F:HZ X.ai X.w X.K X.mg X.ag CX k f O ps sp)(a:DF (k+1) X.A)(R:Kz X.K O ps L)(S:BM U L)(b:M8 CX X E)(I:AX X J z H s)(r:BM vs Z)(h:∀x Y,H x=AF->H Y=AF->Y≠x->sp (.ref x::(vs++U)) (AK (AK H Y (.own x)) x (.ins C Y [])) (λv G=>v=.non/\Q (.ref x) G) E):Am (Ak X.ai X.w) X.A (Ir (.ref C) Z) (FI X J z Q) X.xe s:=by
 have A:=h _ _ (I.cq.bw (Ow _)) (I.cq.bw (Ag _)) (DV (Jo _));have W:=Xw (C:=C) I;have r2:BM (AD.ref (s.heap.objs.size+1)::(vs++U)) _:=.cons rfl (r.qu S);have T:=by have e:=r2.aq;rw[F.fq _ _ _ _ A]at e;show e.symm
 show U6 (Y0 I.oy M.acg M.adv (AEO.mp M.fn) (PC (F.aeb _ _ _ _ _ _ _ _ E (a.abh C Z []) (W.abu.abh C Z []) (R _ _ W.oy T) r2 A) λr g D=>?_));cases r with|error e=>show b _ z _ _ e g W D|ok P=>cases P with|ret u=>lk;obtain⟨v,B,K,d,N,c⟩:=W.zx D;k_in;subst N;show⟨d,⟨AD.ref _,B,K,rfl,c⟩⟩|next=>show Er D|brk=>show Er D|cont=>show Er D
structure K6(N P:List AE)(sc:FR):Prop where
 jq:sc.kind=.function
 co:sc.isCoroutine=AM
 afm:sc.isGenerator=AM
 nd:N.Nodup
 aew:N.take P.length=P
 afj:∀x∈P,sc.names.lookup x=AA .local\/sc.names.lookup x=AA .cell
 acx:∀y∈sc.names,y.2≠.free
theorem YB:∀{D:List (AE×AJ)}{m:AE->Option AJ},(∀v,(x,v)∉D)->O8 J D m x=m x
  |[],_,_=>rfl|(n,v)::r,m,h=>by
    unfold O8;rw[YB λw hw=>h w (En _ hw)];split
    . have:x≠n:=by rintro rfl;show h v DI
      simp[this]
    .rfl
theorem X9:∀{D:List (AE×AJ)}{m:AE->Option AJ},(∀v,(x,v)∉D)->O7 J D m x=m x
  |[],_,_=>rfl|(n,v)::r,m,h=>by
    unfold O7;rw[X9 λw hw=>h w (En _ hw)];split;.rfl
    . have:x≠n:=by rintro rfl;show h v DI
      simp[this]
theorem YA:∀{P:List AE}{vs:List AJ}{i:Nat}{m:AE->Option AJ},P.Nodup->P[i]?=AA x->vs[i]?=AA v->D x=AA .local->O8 D (P.zip vs) m x=AA v|[],_,_,_,_,h,_,_=>by simp at h|_::_,[],_,_,_,_,h,_=>by simp at h|p::P,w::vs,0,m,W,J,U,V=>by simp at J U;subst J;subst U;change O8 _ ((p,w)::P.zip vs) m p=_;unfold O8;rw[YB λv Y=>(JL.mp W).1 (aA Y).1,AEE V];simp|p::P,w::vs,i+1,m,W,J,U,V=>by unfold O8;show YA (JL.mp W).2 (by simpa using J) (by simpa using U) V
theorem X8:∀{P:List AE}{vs:List AJ}{i:Nat}{m:AE->Option AJ},P.Nodup->P[i]?=AA x->vs[i]?=AA v->D x≠AA .local->O7 D (P.zip vs) m x=AA v|[],_,_,_,_,h,_,_=>by simp at h|_::_,[],_,_,_,_,h,_=>by simp at h|p::P,w::vs,0,m,W,J,U,V=>by simp at J U;subst J;subst U;change O7 _ ((p,w)::P.zip vs) m p=_;unfold O7;rw[X9 λv Y=>(JL.mp W).1 (aA Y).1,AED V];simp|p::P,w::vs,i+1,m,W,J,U,V=>by unfold O7;show X8 (JL.mp W).2 (by simpa using J) (by simpa using U) V
noncomputable def KZ(N:List AE)(vs:List AD):Ai:=vs.map AA++Ec (N.length-vs.length) AF
noncomputable def EX(CX:HY)(P:CI)(w:Bm)(K:An)(Z:AE->Option AJ)(base:A8)(N:List AE)(U:AE)(D:FR)(f:AB)(W:AJ)(A:Cf)(J:List DL)(s:AV)(H:AG)(E:FL):BP where
 ai:=P
 w:=w
 K:=K
 mg:=Z
 ag:=base
 A:=A.deeper (Fy U D s.heap.objs.size f W)
 N:=N
 s₀:=s
 H₀:=H
 af:=Fy U D s.heap.objs.size f W
 ng:=J
 cj:=Fy U D s.heap.objs.size f W::J
 ex:=[]
 iw:=AI
 fn:=λO=>AI
 pn:=[]
 xe:=λe z=>Am (Ak P w) (A.deeper (Fy U D s.heap.objs.size f W)) (b9 (Fy U D s.heap.objs.size f W) e) (λO V=>CX J H s E e V) (λY V=>CX J H s E Y V) z
theorem YI{D:FR}(h:D.names.lookup x=AA .cell):∃c,(zD n D.names []).lookup x=AA c:=by have q:=ACQ _ n [] (.inl h);show Uq.mp q
theorem qT{K:An}(S:K6 N ps D)(X:A.handled=AF)(e0:K4 P w K M base A J s H)(d:vs.length=ps.length)(r:BM vs O)(x:InCallC s s.heap.objs.size (O8 (Fy U D s.heap.objs.size f F).kindOf (ps.zip O) λo=>AF) (zD (s.heap.objs.size+1) D.names []) (O7 (Fy U D s.heap.objs.size f F).kindOf (ps.zip O) λo=>AF) s1):AX (EX CX P w K M base N U D f F A J s H E) [] (KZ N vs) H s1:=by
  have L:=by have:=AEG Nb S.aew;rw[Em]at this;show AEQ this.symm (aJ _ _)
  lk;obtain⟨G,l,rfl,Q⟩:=x.done;k_in;have Y:∀b:AB,b∉(EX CX P w K M base N U D f F A J s H E).ex:=λb z=>absurd (show b∈([])from z) (by simp);show⟨⟨e0.vn,S.jq,rfl,rfl,Ag _,λy z c G W=>?_,λy B=>?_,λy c o h=>?_,λo=>X,Around.frames_deeper e0.ir,.inr ⟨rfl,rfl⟩,λb z=>absurd z (Y b),e0.bs,e0.aax,λb o o=>Y b,λb z=>absurd z (Y b),e0.ot,e0.abq⟩,rfl,e0.je,QN Q,⟨_,x.toInCall.ns,λi y v G W j=>?_⟩,λy c h=>⟨_,x.cell y c h⟩,e0.cq.bw (Ag _),λy c h=>?_,λp Z=>absurd (show p∈([])from Z) (by simp),e0.cq.ig Q,?_⟩;.show name_of_addr x.apart (PF G) (PF W)
  . rcases B with B|B;.show YI B
    .show absurd rfl (S.acx _ (PF B))
  .show Bg (x.above y c (PF h))
  . have I:i<vs.length:=by
      unfold KZ at W;by_cases I:i<vs.length;.show I
      . rw[Oo (by simpa using I)]at W;rw[AA0]at W;split at W<;>cases W
    have T:vs[i]?=AA v:=by unfold KZ at W;rw[Na (by simpa using I),Bl]at W;cases e:vs[i]? with|none=>rw[e]at W;cases W|some a=>rw[e]at W;cases W;rfl
    lk;obtain⟨u,R,g⟩:=r.wx T;k_in;have Z:ps[i]?=AA y:=by rw[<-S.aew,Z3 (by simp_all)];show G
    have C:ps.Nodup:=by rw[<-S.aew];show S.nd.sublist (ABC _ _)
    show⟨u,g,?_⟩;rcases S.afj y (CZ Z)with k|k;.show .inl ⟨k,YA C Z R k⟩
    . obtain⟨c,e⟩:=YI k;show .inr ⟨.inl k,c,e,?_⟩;have q:=x.cell y c e;rw[X8 C Z R (by change D.names.lookup y≠_;rw[k];decide)]at q;show q
  .show e0.cq.bw (Bg (x.above y c (PF h)))
  . unfold KZ;rw[Bs,As,AA1];show G9 (Af (BW d) L)
theorem YY{K:An}(lk:K.lookup f=AA ⟨oc,od,.func (Nl name qual params body scope dV kV doc pm an cdv ct),osl⟩)(hcd:bT K cdv qual=AI)(S:K6 N ps scope)(len:∀vs H Q E,sp vs H Q E->vs.length=ps.length)(hbody:∀(A:Cf)(outer:List DL)(s:AV)(H:AG)(vs:List AD)(Q:BN)(E:FL),DF k (A.deeper (Fy qual scope s.heap.objs.size f cdv))->sp vs H Q E->∃t,FX (EX CX P w K mg base N qual scope f cdv A outer s H E) body t/\t {nx:=λO H'=>Q .non H',rt:=Q} (KZ N vs) H):HZ P w K mg base CX (k+1) f (Nl name qual params body scope dV kV doc pm an cdv ct) ps sp:=by
 show⟨len,λA outer s H args us vs Q E hr e0 hb r hsp=>?_⟩;have hl:=len _ _ _ _ hsp;have KX:=e0.vn.acu.keeps λb o e=>(e0.bs b o e).1;have lim:=e0.vn.abz.keeps λb o e=>(e0.bs b o e).1;have hkind:∀y∈ps.zip us,scope.names.lookup y.1=AA _\/(scope.names.lookup y.1=AA _/\((zD (s.heap.objs.size+1) _ []).lookup y.1).isSome=AI):=λ⟨n,v⟩hy=>by
  rcases S.afj n (aA hy).1 with q|q;.show .inl q
  .show .inr ⟨q,ACQ _ _ _ (.inl q)⟩
 show codeAny_call_function hr.ado (KX _ _ lk) rfl S.co S.afm rfl (W.codeRec_of KX hcd) (hb _ _ _ _ ?_);show wpAny_newFunctionEnv_cells S.jq hkind λenv he s1 x=>?_;subst he;show⟨lim.keeps x.toInCall.keep,codeAny_func ?_⟩;lk;obtain⟨t,ht,hq⟩:=hbody A _ s H vs Q E (hr.acr _) hsp;k_in;have I:AX (EX CX P w K mg _ N _ _ f _ A _ s H E) [] _ H s1:=qT S hr.hd e0 hl r x;show Ep (ht [] s1 _ H _ I hq) (λfl s' hs=>?_) λe s' hs=>hs;have fin:∀{σ':Ai}{H':AG}{v:AD}{u:AJ},AX (EX CX P w K mg base N qual scope f cdv A _ s H E) [] σ' H' s'->BU v u->Q v H'->Sw outer P w H s Q u s':=λ{σ' H' v u}J rv q=>⟨v,H',J.os,J.je,J.ag,J.cq,rv,q⟩;cases fl with|ret u=>lk;obtain⟨v,σ',H',J,rv,q⟩:=hs;k_in;show fin J rv q|next=>lk;obtain⟨σ',H',J,q⟩:=hs;k_in;show fin (v:=AD.non) J rfl q|brk=>lk;obtain⟨_,_,_,q⟩:=hs;k_in;show Er q|cont=>lk;obtain⟨_,_,_,q⟩:=hs;k_in;show Er q
def Zd(r:List AD->AG->BN->Prop)(t:Ez):Av:=λU H Q=>t U H λJ D=>r J D Q
theorem CL{x:AE}{id:String}(B:Eg X (.builtin id) r)(E:FJ X x)(F:X.mg x=AF)(K:O9 x=AA (.builtin id))(A:Fs X (e::D) t)(G:x≠"__name__":=by decide)(J:(x==("__debug__":AE))=AM:=by decide)(C:By (e::D) X.af=(AM,BI e X.af)::By D X.af:=by rfl)(U:(Eo V (By D X.af)).any (·.1)=AM:=by rfl):Al X (.Call (.Name x p) (e::D) [] V) (Zd r t):=by intro W s Y H Q I h;show Nt (Jj I E F K ?_ G J);show ADK (Aw (A _ _ s Y H _ I h) λM s1⟨N,Z,z,r1,L⟩=>B _ s1 Y Z N M Q z r1 L) C U
theorem Ie{x:AE}(B:Eg X (.type T) r)(E:FJ X x)(F:X.mg x=AF)(K:O9 x=AA (.type T))(A:Fs X (e::D) t)(G:x≠"__name__":=by decide)(J:(x==("__debug__":AE))=AM:=by decide)(C:By (e::D) X.af=(AM,BI e X.af)::By D X.af:=by rfl)(U:(Eo V (By D X.af)).any (·.1)=AM:=by rfl):Al X (.Call (.Name x p) (e::D) [] V) (Zd r t):=by intro W s Y H Q I h;show Nt (Jj I E F K ?_ G J);show O0 (Aw (A _ _ s Y H _ I h) λM s1⟨N,Z,z,r1,L⟩=>B _ s1 Y Z N M Q z r1 L) C U
theorem dF(R:Us s.heap t vs.toArray)(N:Us s.heap b J.toArray)(F:vs≠[])(L:J=[]->Q (.ref t) s)(M:J≠[]->Q (.ref s.heap.objs.size) {s with heap:=s.heap.push {cls:=.type "tuple",data:=.seq (vs++J).toArray}})(Z:vs.length+J.length<=Az):Am (Ak prog w) A (GX .Add (.ref t) (.ref b)) Q E s:=by
 lk;obtain⟨⟨I,C,B,H⟩,U,O,n,P⟩:=id R;obtain⟨⟨z,K,V,S⟩,D,W,G,Y⟩:=id N;k_in;subst O P W Y;have e:vs.toArray++J.toArray=(vs++J).toArray:=by simp
 by_cases hw:J=[]
 .show concat_meets ⟨_,U,rfl⟩ ⟨_,D,rfl⟩ ACv ACz AB3 ABs (ABo _ _) (tuple_addW1 t b _ _ n G C _ H _ (by simpa using F) (by simp[hw])) ⟨U,D,L hw⟩
 . show concat_meets ⟨_,U,rfl⟩ ⟨_,D,rfl⟩ ACv ACz AB3 ABs (ABo _ _) (tuple_addW2 t b _ _ n G C _ H _ (by simpa using F) (by simpa using hw) (by show Z)) ⟨U,D,?_⟩;rw[e];show M hw
noncomputable def B9(n d:Nat):Option Int->Nat|AF=>d|AA v=>if v<0 then(v+(n:Int)).toNat else DU v.toNat n
theorem dJ(n d k:Nat):B9 n d (AA (k:Int))=DU k n:=by change(if(k:Int)<0 then((k)+(n:Int)).toNat else DU _ n)=DU k n;rw[AED (AAk _),Int.toNat_natCast]
theorem VD(v:Int)(n d:Nat):(if v<0 then Jn (v+(n:Int)) 0 else DU v (n:Int))=((B9 n d (AA v):Nat):Int):=by
 change(if v<0 then Jn _ 0 else DU v _)=(((if v<0 then(v+(n)).toNat else DU _ n):Nat):Int);by_cases D:v<0;.simp only[AEE D];simp
 .lia
theorem dE(lo hi:Option Int)(n:Nat):yC lo hi 1 (n:Int)=(((B9 n 0 lo:Nat):Int),((B9 n n hi:Nat):Int)):=by
 have D:¬((1)<0):=by simp
 unfold yC;show RB ?_ ?_;.cases lo with |none=>rfl|some v=>show VD v n 0
 .cases hi with|none=>rfl|some v=>show VD v n n
theorem dI(i j:Nat):yD (i:Int) (j:Int) 1=j-i:=by
 unfold yD;have D:(1)>0:=by simp
 simp;split<;>simp_all
theorem VE(p:MX v o)(h:Q o s):Am (Ak prog w) A (ADO v) Q E s:=by cases p with|none=>show ABg h|int i t=>show slicePart_int h
theorem dM{lo:Option Int}{Q:Int×Int×Nat->AV->Prop}(Z:s.heap.IsSliceOf U V W .none)(z:MX V lo)(B:MX W hi)(h:Q (((B9 n 0 lo:Nat):Int),1,B9 n n hi-B9 n 0 lo) s):Am (Ak prog w) A (ADN (.ref U) (BY (n:Int))) Q E s:=by lk;obtain⟨C,J,Y,D⟩:=id Z;k_in;show A6 (A6 (zV J D rfl (A6 (zV J D rfl (A6 (zV J D rfl (Ci ?_)))))));show A6 (ABg ?_);show A6 (VE z (A6 (VE B (A6 (Ci ?_)))));change Am _ _ (match yC lo hi 1 _ with|(lo,hi)=>BY (lo,(1:Int),yD lo hi 1)) _ _ s;rw[dE lo hi n];change Am _ _ (BY _) _ _ s;rw[dI];show Ci h
theorem dH(xs:Array AJ)(i k:Nat):((FP k).filterMap λ(m:Nat)=>xs[((i:Int)+(m:Int)*1).toNat]?).toArray=((xs.toList.drop i).take k).toArray:=by
 have e:(λ(m:Nat)=>xs[((i:Int)+(m)*1).toNat]?)=λm=>xs[i+m]?:=by
  funext m;have:((i)+(m:Int)*1).toNat=i+m:=by lia
  rw[this]
 rw[e];have:=pick_run xs i k;rw[List.filterMap_map]at this;have D:((λx=>xs[x]?)∘λx=>i+x)=λm=>xs[i+m]?:=rfl;rw[D]at this;rw[this]
theorem dG{lo:Option Int}(U:Us s.heap t D)(B:s.heap.IsSliceOf z C F .none)(K:MX C lo)(L:MX F hi)(hw:¬(B9 D.size 0 lo=0/\B9 D.size D.size hi=D.size))(h:Q (.ref s.heap.objs.size) {s with heap:=s.heap.push {cls:=.type "tuple",data:=.seq ((D.toList.drop (B9 D.size 0 lo)).take (B9 D.size D.size hi-B9 D.size 0 lo)).toArray}})(H:D.size<=Az):Am (Ak prog w) A (Np (.ref t) (.ref z)) Q E s:=by
 have J:=by change((D.toList.drop (B9 D.size 0 lo)).take (B9 D.size D.size hi-B9 D.size 0 lo)).toArray.size<=Az;rw[Hu,Em,MR,Li];omega
 lk;obtain⟨I,Z,W,G⟩:=id B;k_in;have V:s.TypeIs (.ref z) _:=⟨I,Z,W⟩;unfold Np;try with_reducible show PK ?_
 show A6 (wpAny_sequenceKey U.typeIs (by decide) ?_);show A6 (wpAny_callSpecial?_slot U.typeIs aZ (AC3 aZ U.typeIs entry_tuple_getitem ?_ (args_tuple_getitem _ _)));change Am _ _ (ADQ _>>=_) _ _ s;show A6 (tupleItemsOf_ U ?_);show A6 (wpAny_typeOf V ?_);show A6 (dM B K L ?_);have Y:¬((((B9 D.size 0 lo):Int)==0&&(1:Int)==1&&(B9 D.size D.size hi-B9 D.size 0 lo)==D.size)=AI):=by intro q;rw[Pd,Pd]at q;have M:=eq_of_beq q.1.1;show hw ⟨Md.mp M,by simp_all⟩
 change Am _ _ (if(((B9 _ 0 lo:Nat):Int)==0&&(1)==1&&(B9 _ _ hi-B9 _ 0 lo)==D.size)=AI then _ else _) _ _ s;rw[AED Y,dH];first|show A6 (zW (Ci ⟨_,rfl,Ci h⟩) J)|show wpAny_bind _|show wpAny_bind _|show wpAny_bind _
abbrev QM:=Ai->AG->(Option Int->AG->Prop)->Prop
def QI(X:BP)(e:Option A9)(t:QM):Prop:=∀(D:List (AB×A2))(s:AV)(U:Ai)(H:AG)(Q:Option Int->AG->Prop),AX X D U H s->t U H Q->Am (Ak X.ai X.w) X.A (evalPart e X.af) (λu V=>Ei (λo J=>AX X D U J V) (λo O=>MX u o) (λo J=>Q o J)) X.xe s
def vQ:QM:=λO H Q=>Q AF H
def vU(t:Av):QM:=λJ H Q=>t J H λx D=>FZ (λi=>x=.int i) (λi=>Q (AA i) D)
theorem Te:∀{D:List AJ},BM (ns.map AD.int) D->RC D ns:=by induction ns with|nil=>intro D r;cases r;show .nil|cons n ns J=>intro D r;cases r with|cons r1 r2=>obtain⟨t,e⟩:=r1;subst e;show .cons n t (J r2)
theorem Ih:QI X AF vQ:=by intro D s J H Q I h;show Ci ⟨_,H,I,.none,h⟩
theorem GU(h:Al X e Y):QI X (AA e) (vU Y):=by intro J s Z H Q I hw;show Aw (h _ s Z H _ I hw) λu s1 D=>?_;lk;obtain⟨x,U,V,r1,W⟩:=D;obtain⟨i,rfl,q⟩:=W;obtain⟨t,rfl⟩:=r1;k_in;show⟨_,U,V,.int i t,q⟩
def M9(X:BP)(r:AD->Option Int->Option Int->AG->BN->Prop):Prop:=∀(D:List (AB×A2))(s:AV)(z:Ai)(H:AG)(x:AD)(v Y Z:AJ)(U J:Option Int)(W:AB)(Q:BN),AX X D z H s->BU x v->s.heap.IsSliceOf W Y Z .none->MX Y U->MX Z J->r x U J H Q->Ei (λT A=>typeLookup (.type T) "__getitem__"=BY (AA (.builtin A))) (λT O=>s.TypeIs v T) (λO O=>Am (Ak X.ai X.w) X.A (Np v (.ref W)) (FI X D z Q) X.xe s)
def vW(r:AD->Option Int->Option Int->AG->BN->Prop)(Y:Av)(z Z:QM):Av:=λD H Q=>Y D H λx J=>z D J λl U=>Z D U λu W=>r x l u W Q
theorem G5{lo:Option A9}(P:M9 X r)(M:Al X e j)(O:QI X lo m)(S:QI X hi k):Al X (.Subscript e (.Slice lo hi AF p) c) (vW r j m k):=by intro Z s W H Q I h;show xT (Aw (M _ s W H _ I h) λv s1 D=>?_);lk;obtain⟨x,B,E,r1,f⟩:=D;k_in;show wpAny_Slice (Aw (O _ s1 W B _ E f) λz s2 J=>?_);lk;obtain⟨l,C,F,a,g⟩:=J;k_in;show Aw (S _ s2 W C _ F g) λA s3 U=>?_;lk;obtain⟨u,Y,G,d,i⟩:=U;k_in;show Ci ?_;have K:AX X _ W Y {s3 with heap:=s3.heap.push {cls:=.type "slice",data:=.fields #[z,A,.none]}}:=G.ig λb o q=>Cb _ q;lk;obtain⟨T,n,L,R,N⟩:=P _ _ W Y x v z A l u _ Q K r1 (ADq ..) a d i;k_in;show tail_any R L N (by with_unfolding_all rfl)
noncomputable def GR(xs:List AD)(lo hi:Option Int):List AD:=(xs.drop (B9 xs.length 0 lo)).take (B9 xs.length xs.length hi-B9 xs.length 0 lo)
theorem YN(xs:List AD)(lo hi:Option Int):(GR xs lo hi).length<=xs.length:=by unfold GR;rw[Em,MR];lia
def ZQ(K:An):AD->Option Int->Option Int->AG->BN->Prop:=λx U J H Q=>Hh (λa D=>x=.ref a) (λa D=>CN K H a D) (λO D=>¬(B9 D.length 0 U=0/\B9 D.length D.length J=D.length)) (λO D=>∀p,H p=AF->Q (.ref p) (AK H p (.tup (GR D U J))))
theorem uO:M9 X (ZQ X.K):=by
 intro W s N H x v L M B Z K Q I F z C E h;lk;obtain⟨a,Y,rfl,A,hw,q⟩:=h;cases F;obtain⟨J,r,U,V⟩:=I.jc A;k_in;have D:J.toArray.size=Y.length:=by show r.aq.symm
 show⟨_,_,aZ.lookup,U.typeIs,?_⟩;show dG U z C E (by rw[D];show hw) ?_ (by rw[D];show V);rw[D];show⟨.ref _,_,I.oz (λb G q=>Cb _ q) (Ag _) ?_,rfl,q _ (I.cq.bw (Ag _))⟩;show⟨Af (YN Y B Z) V,_,(r.aam _).aee _,ABT _ _⟩
def ZL(K:An):Dr:=λx y H Q=>QS (λa b J D=>x=.ref a) (λO b O O=>y=.ref b) (λa O J O=>CN K H a J) (λO b O D=>CN K H b D) (λO O J O=>J≠[]) (λO O J D=>J.length+D.length<=Az) (λa O O D=>(D=[]->Q (.ref a) H)) (λO O J D=>(D≠[]->∀p,H p=AF->Q (.ref p) (AK H p (.tup (J++D)))))
theorem BM.xv(r:BM xs D):D=[]↔xs=[]:=by cases r with|nil=>simp|cons _ _=>simp
theorem sP:CC X (GX .Add) (ZL X.K):=by intro U s N H x y v u Q I F G h;lk;obtain⟨a,b,L,M,rfl,rfl,V,W,Y,D,C,E⟩:=h;cases F;cases G;obtain⟨Z,r1,A,_⟩:=I.jc V;obtain⟨J,r2,B,_⟩:=I.jc W;k_in;show dF A B (λz=>Y (r1.xv.mp z)) (λz=>⟨.ref a,H,I,rfl,C (r2.xv.mp z)⟩) (λz=>?_) (by rw[<-r1.aq,<-r2.aq];show D);show⟨.ref _,_,I.oz (λb K q=>Cb _ q) (Ag _) ?_,rfl,E (λw=>z (r2.xv.mpr w)) _ (I.cq.bw (Ag _))⟩;show⟨by rw[Bs];show D,_,r1.qu r2,ABT _ _⟩
noncomputable def NH(n:Nat)(i:Int):Option Nat:=if 0<=i then(if i<n then AA i.toNat else AF)else if-(n:Int)<=i then AA (i+n).toNat else AF
noncomputable def Cw(xs:List α)(i:Int):Option α:=(NH xs.length i).bind λj=>xs[j]?
theorem qX(h:NH n i=AA j):seqIndex? i n=AA j/\j<n/\-(n:Int)<=i/\i<n:=by
  unfold NH at h;by_cases J:0<=i
  . rw[AEE J]at h;by_cases D:i<n
    . rw[AEE D]at h;have e:=Bt h;show⟨by rw[seqIndex_of J D,e],by lia,Fh (Int.neg_ofNat_le_ofNat _ _) J,D⟩
    .rw[AED D]at h;cases h
  . rw[AED J]at h;by_cases D:-(n)<=i;. rw[AEE D]at h;have e:=Bt h;show⟨by rw[seqIndex_neg (by simp_all) D,e],by lia,D,Pf (RZ J) (Int.neg_lt_zero_iff.mp (Ga D (RZ J)))⟩
    .rw[AED D]at h;cases h
theorem TM(h:Cw xs i=AA v):∃j,seqIndex? i xs.length=AA j/\xs[j]?=AA v/\j<xs.length/\-(xs.length:Int)<=i/\i<xs.length:=by unfold Cw at h;cases e:NH _ i with|none=>rw[e]at h;cases h|some j=>rw[e]at h;lk;obtain⟨D,J,U,V⟩:=qX e;k_in;show⟨j,D,h,J,U,V⟩
theorem Ao{α:Type}{xs:List α}{j:Nat}{v:α}(h:xs[j]?=AA v):Cw xs (j:Int)=AA v:=by
 have D:=(BH.mp h).1;have e:NH xs.length (j)=AA j:=by unfold NH;rw[AEE (by simp),AEE (by simp_all)];simp
 unfold Cw;rw[e];show h
def S7(b:A9):Prop:=∀o i,cE b AM o i=zM [o,i] (Np o i)
def M5(X:BP)(r:Dr):Prop:=∀(U D:A9)(J:List (AB×A2))(s:AV)(W:Ai)(H:AG)(x y:AD)(v u:AJ)(Q:BN),AX X J W H s->BU x v->BU y u->r x y H Q->cE D AM v u=zM [v,u] (Np v u)->Am (Ak X.ai X.w) X.A (subscriptTail U D v u) (FI X J W Q) X.xe s
def L9(X:BP)(id:String)(r:AD->List AD->AG->BN->Prop):Prop:=∀(D:List (AB×A2))(s:AV)(W:Ai)(H:AG)(x:AD)(U:List AD)(v:AJ)(J:List AJ)(Q:BN),AX X D W H s->BU x v->BM U J->r x U H Q->Am (Ak X.ai X.w) X.A (Ir (.builtin id) (v::J)) (FI X D W Q) X.xe s
theorem Bc(Y:M5 X r)(V:Al X a C)(W:Al X b E)(Z:S7 b):Al X (.Subscript a b z) (NX r C E):=by intro D s F H Q I h;show xT (TN V W I h λv u s2 x y J U A B q=>Y a b _ s2 F J x y v u Q U A B q (Z _ _))
def ZM(K:An):Dr:=λx y H Q=>ON (λp D i v=>x=.ref p) (λO O i O=>y=.int i) (λp D O O=>Bp K H p D) (λO D i v=>Cw D i=AA v) (λO O O v=>Q v H)
def ZN(K:An):Dr:=λx y H Q=>ON (λp D i v=>x=.ref p) (λO O i O=>y=.int i) (λp D O O=>CN K H p D) (λO D i v=>Cw D i=AA v) (λO O O v=>Q v H)
def t8:Dr:=λx y H Q=>FK (λz i c=>x=.str z) (λO i O=>y=.int i) (λz O O=>z.length<=Az) (λz i c=>Cw z.cps.toList i=AA c) (λO O c=>Q (.str ⟨#[c]⟩) H)
theorem qY:M5 X (ZM X.K):=by
  intro A Z D s R H x y v u Q I O P h E;lk;obtain⟨p,b,i,z,rfl,rfl,N,L,q⟩:=h;cases O;obtain⟨t,rfl⟩:=P;obtain⟨V,r,W,a⟩:=I.cb N;obtain⟨j,J,F,S,G,K⟩:=TM L;obtain⟨w,B,Y⟩:=r.wx F;k_in;have M:=r.aq;have T:=OW;have fin:FI X D R Q w s:=⟨z,H,I,Y,q⟩;by_cases C:0<=i
  . have U:=by rw[seqIndex_of C K]at J;show Bt J
    show item_listR W.isList C (by lia) (by rw[U];simpa using B) fin E
  . have U:(i+(V.toArray.size:Int)).toNat=j:=by rw[seqIndex_neg (by simp_all) G]at J;rw[Hu,<-M];show Bt J
    show ABi (x:=w) W.isList.typeIs AC0.lookup (wpAny_getItem_list_neg W.isList (by simp_all) (by rw[Hu]<;>simp_all) (by lia) (by rw[U];simpa using B) ⟨rfl,fin⟩) E
theorem qZ:M5 X (ZN X.K):=by intro U J V s M H x y v u Q I K L h F;lk;obtain⟨p,T,i,z,rfl,rfl,E,B,q⟩:=h;cases K;obtain⟨t,rfl⟩:=L;obtain⟨G,r,W,S⟩:=I.jc E;obtain⟨j,Z,A,N,O,P⟩:=TM B;obtain⟨w,Y,D⟩:=r.wx A;k_in;have C:=r.aq;have R:=OW;have fin:FI X _ M Q w s:=⟨z,H,I,D,q⟩;show ABi W.typeIs aZ.lookup (getItem_tuple W (by lia) (by lia) (by rw[Hu,<-C];show Z) (by simpa using Y) ⟨rfl,fin⟩) F
theorem Yi:M5 X t8:=by
 intro J D V s O H x y v u Q I F G h E;lk;obtain⟨z,i,c,rfl,rfl,M,B,q⟩:=h;obtain⟨t,rfl⟩:=F;obtain⟨N,rfl⟩:=G;obtain⟨j,U,Y,K,Z,A⟩:=TM B;k_in;have C:z.cps.toList.length=z.length:=by simp[ACG]
 rw[C]at U Z A;have L:=OW;show tail_any (U5 s z t) slot_str_getitem.lookup (getItem_str (c:=c) (by have e1:Ac (i< -(2^63:Int))=AM:=AEH (by lia);have W:Ac (i>=2^63)=AM:=AEH (by lia);rw[e1,W,Bool.or_false]) (by rw[U];simpa using Y) ⟨.str ⟨#[c]⟩,H,I.iu _,⟨_,rfl⟩,q⟩) E
theorem uQ(lo hi:Option Int)(n:Nat):(PH lo hi AF n).1=((B9 n 0 lo:Nat):Int)/\(PH lo hi AF n).2.1=((B9 n n hi:Nat):Int)/\(PH lo hi AF n).2.2=1:=by
 show⟨?_,?_,rfl⟩;.cases lo with |none=>simp[PH,B9]|some i=>
  simp only[PH,B9,ABR,show(1)>0 by decide,AEL];by_cases h:i<0;.simp only[h,AEL]<;>lia
  .simp only[h,AEJ]<;>lia
 .cases hi with |none=>simp[PH,B9]|some i=>
  simp only[PH,B9,ABR,show(1)>0 by decide,AEL];by_cases h:i<0;.simp only[h,AEL]<;>lia
  .simp only[h,AEJ]<;>lia
theorem uP(its:List AJ)(lo hi:Option Int):slicePick its.toArray lo hi AF=((its.drop (B9 its.length 0 lo)).take (B9 its.length its.length hi-B9 its.length 0 lo)).toArray:=by lk;obtain⟨D,J,U⟩:=uQ lo hi _;k_in;unfold slicePick;rw[D,J,U];simp only[sliceRange_one,pick_run,Hu]<;>rfl
def ZP(K:An):AD->Option Int->Option Int->AG->BN->Prop:=λx U J H Q=>Ei (λa D=>x=.ref a) (λa D=>Bp K H a D) (λO D=>∀p,H p=AF->Q (.ref p) (AK H p (.lst (GR D U J))))
theorem uN:M9 X (ZP X.K):=by intro U s N H x v L M A V K Q I E W B C h;lk;obtain⟨a,F,rfl,Y,q⟩:=h;cases E;obtain⟨z,r,J,Z⟩:=I.cb Y;k_in;have D:=r.aq;show⟨_,_,AC0.lookup,J.isList.typeIs,?_⟩;show wpAny_getItem_list_slice J.isList W B C .none (by simp) ?_ (by rw[Hu]<;>simp_all);rw[uP,<-D];show⟨.ref _,_,I.oz (λb G q=>Cb _ q) (Ag _) ?_,rfl,q _ (I.cq.bw (Ag _))⟩;show⟨Af (YN F A V) Z,_,0,(r.aam _).aee _,Fe _ rfl⟩
noncomputable def LK:AD->Bool|.non=>AI|.bl _=>AI|.int _=>AI|.str _=>AI|_=>AM
noncomputable def LJ:AD->AD->Bool|.non,.non=>AI|.bl a,.bl b=>a==b|.bl a,.int b=>(if a then 1 else 0)==b|.int a,.bl b=>a==(if b then 1 else 0)|.int a,.int b=>a==b|.str a,.str b=>a==b|_,_=>AM
theorem pR(W:BU y u)(D:BU x v)(Y:LK y=AI)(U:LK x=AI):bN A s u v (LJ y x):=by cases y with
 |non=>cases W;cases x with |non=>cases D;show ACE _|bl b=>cases D;show ADz b|int b=>obtain⟨t,rfl⟩:=D;show AD0 b t|str b=>obtain⟨t,rfl⟩:=D;show AD1 b t|_=>show absurd (show AM=AI from U) DN
 |bl a=> cases W;cases x with |non=>cases D;show ADu a|bl b=>cases D;show ADs a b|int b=>obtain⟨t,rfl⟩:=D;show ADt a b t|str b=>obtain⟨t,rfl⟩:=D;show ADv a b t|_=>show absurd (show AM=AI from U) DN
 |int a=> obtain⟨J,rfl⟩:=W;cases x with |non=>cases D;show ADy a J|bl b=>cases D;show ADw a J b|int b=>obtain⟨t,rfl⟩:=D;show ADx a J b t|str b=>obtain⟨t,rfl⟩:=D;show ACD a J b t|_=>show absurd (show AM=AI from U) DN
 |str a=> obtain⟨J,rfl⟩:=W;cases x with |non=>cases D;show AD3 a J|bl b=>cases D;show AD2 a J b|int b=>obtain⟨t,rfl⟩:=D;show ACF a J b t|str b=>obtain⟨t,rfl⟩:=D;show AD4 a J b t|_=>show absurd (show AM=AI from U) DN
 |_=>show absurd (show AM=AI from Y) DN
noncomputable def MF(x:AD)(u:AJ):Bool:=match u with|.none=>LJ .non x|.bool b=>LJ (.bl b) x|.int i _=>LJ (.int i) x|.str z _=>LJ (.str z) x|_=>AM
theorem YV(r:BU y u)(f:LK y=AI):MF x u=LJ y x:=by cases y with|non=>cases r;rfl|bl b=>cases r;rfl|int i=>obtain⟨t,rfl⟩:=r;rfl|str z=>obtain⟨t,rfl⟩:=r;rfl|_=>show absurd (show AM=AI from f) DN
theorem QT(h:BM xs D):xs.all LK=AI->D.any (MF x)=xs.any λy=>LJ y x:=by induction h with|nil=>showλO=>rfl|cons r _ J=>intro f;rw[AAs,Pd]at f;rw[UW,UW,YV r f.1,J f.2]
theorem Qd(Y:BU x v)(U:LK x=AI)(h:BM xs J):xs.all LK=AI->∀u∈J,bN A s u v (MF x u):=by induction h with |nil=>intro _ u D;cases D|cons r _ W=>
 intro f Z D;rw[AAs,Pd]at f;rcases B6.mp D with rfl|D;.rw[YV r f.1];show pR r Y f.1 U
 .show W f.2 Z D
noncomputable def FN(x:AD)(xs:List AD):Bool:=xs.any λy=>LJ y x
def Qr(K:An)(J:Bool):Dr:=λx y H Q=>TC (λp D=>y=.ref p) (λp D=>(Bp K H p D\/CN K H p D)) (λO O=>LK x=AI) (λO D=>D.all LK=AI) (λO D=>Q (.bl (if J then !FN x D else FN x D)) H)
theorem sQ:CC X (E7 .In) (Qr X.K AM):=by
 intro Y s C H x y v u Q I Z A h;lk;obtain⟨p,B,rfl,J,W,U,q⟩:=h;cases A;k_in;rcases J with J|J
 . lk;obtain⟨D,r,V,z⟩:=I.cb J;k_in;show SeqAt.in_listAt _ V.isList (λw hw=>Qd Z W r U w (by simpa using hw)) ⟨.bl _,H,I,rfl,?_⟩;rw[show D.toArray.any _=D.any (MF x)by simp,QT r U];show q
 . lk;obtain⟨D,r,V,z⟩:=I.jc J;k_in;show SeqAt.in_tupleAt _ V (λw hw=>Qd Z W r U w (by simpa using hw)) ⟨.bl _,H,I,rfl,?_⟩;rw[show D.toArray.any _=D.any (MF x)by simp,QT r U];show q
theorem sU:CC X (E7 .NotIn) (Qr X.K AI):=by
 intro Y s C H x y v u Q I Z A h;lk;obtain⟨p,B,rfl,J,W,U,q⟩:=h;cases A;k_in;rcases J with J|J
 . lk;obtain⟨D,r,V,z⟩:=I.cb J;k_in;show SeqAt.notIn_listAt _ V.isList (λw hw=>Qd Z W r U w (by simpa using hw)) ⟨.bl _,H,I,rfl,?_⟩;rw[show D.toArray.any _=D.any (MF x)by simp,QT r U];show q
 . lk;obtain⟨D,r,V,z⟩:=I.jc J;k_in;show SeqAt.notIn_tupleAt _ V (λw hw=>Qd Z W r U w (by simpa using hw)) ⟨.bl _,H,I,rfl,?_⟩;rw[show D.toArray.any _=D.any (MF x)by simp,QT r U];show q
theorem oO:Eg X (.builtin "len") (λxs H Q=>∃p ys,xs=[.ref p]/\(Bp X.K H p ys\/CN X.K H p ys)/\Q (.int ys.length) H):=by
 intro Y s C H xs B Q I r h;lk;obtain⟨p,ys,rfl,J,q⟩:=h;obtain⟨u,rfl,z⟩:=Gj r;cases z;k_in;have A:=OW;rcases J with J|J
 . lk;obtain⟨U,W,V,Z⟩:=I.cb J;k_in;have D:=W.aq;show Calls.call_len_list V.isList (by simp<;>lia) ⟨.int _,H,I.iu _,⟨_,by rw[Hu,D]⟩,q⟩
 . lk;obtain⟨U,W,V,Z⟩:=I.jc J;k_in;have D:=W.aq;show len_tuple V (by simp<;>lia) ⟨.int _,H,I.iu _,⟨_,by rw[Hu,D]⟩,q⟩
theorem oP:Eg X (.builtin "len") (λxs H Q=>∃z,xs=[.str z]/\z.length<=Az/\Q (.int z.length) H):=by intro D s W H xs V Q I r h;lk;obtain⟨z,rfl,U,q⟩:=h;obtain⟨u,rfl,t,rfl⟩:=Gj r;k_in;have J:=OW;show len_str (by lia) ⟨.int _,H,I.iu _,⟨_,rfl⟩,q⟩
theorem oQ:Eg X (.type "list") (λxs H Q=>∃p ys,xs=[.ref p]/\(Bp X.K H p ys\/CN X.K H p ys)/\∀l,H l=AF->Q (.ref l) (AK H l (.lst ys))):=by
 intro G s L H xs M Q I r h;lk;obtain⟨p,ys,rfl,Y,q⟩:=h;obtain⟨u,rfl,K⟩:=Gj r;cases K;k_in;have fin:∀(D:List _),BM ys _->ys.length<=Az->∀(J:A8)(V:Nat),(∀b F,s.heap.get? b=AA F->J.get? b=AA F)->J.get? _=AA _->FI X _ L Q _ _:=λD U Z J V z e=>⟨.ref _,_,I.oz (t':=s.toks) z (Ag _) (show Cv _ _ _ J _ (.lst ys)from⟨Z,D,V,U,e⟩),rfl,q _ (I.cq.bw (Ag _))⟩;rcases Y with Y|Y;. lk;obtain⟨D,U,E,Z⟩:=I.cb Y;have W:=U.aq;obtain⟨o,C,A,n,B⟩:=E.isList;k_in;show ACk p (.inl rfl) C A B (λJ V z e=>fin _ U Z J V z e) (by simp<;>simp_all)
 . lk;obtain⟨D,U,E,Z⟩:=I.jc Y;have W:=U.aq;obtain⟨o,C,A,n,B⟩:=E;k_in;show ACk p (.inr rfl) C A B (λJ V z e=>fin _ U Z J V z e) (by simp<;>simp_all)
def UR(K:An)(T:String)(x:AD)(H:AG):Prop:=match x with|.str _=>T="str"|.int _=>T="int"|.ref p=>(T="list"/\∃J,Bp K H p J)\/(T="tuple"/\∃o,K.lookup p=AA o/\o.cls=.type "tuple"/\o.dict=AF)\/(T="dict"/\((∃D,H p=AA (.dK D))\/∃D,H p=AA (.dT D)))\/(T="set"/\∃S n,H p=AA (.set S n))|_=>False
theorem Zr{K:Ai}(I:AX X U K H s)(r:BU x v)(W:UR X.K T x H):s.TypeIs v T/\∀a,v=.ref a->∃B,s.heap.get? a=AA B/\B.dict=AF:=by cases x with
  |str z=> lk;obtain⟨t,rfl⟩:=r;cases(show T="str"from W);k_in;show⟨U5 s z t,λO e=>nomatch e⟩|int i=> lk;obtain⟨t,rfl⟩:=r;cases(show T="int"from W);k_in;show⟨zQ s i t,λO e=>nomatch e⟩|ref p=>
    cases r;rcases W with⟨rfl,L,F⟩|⟨rfl,o,D,E,Z⟩|⟨rfl,D⟩|⟨rfl,S,n,D⟩
    . lk;obtain⟨G,_,C,_⟩:=I.cb F;k_in;show⟨C.isList.typeIs,λa e=>?_⟩;lk;cases e;obtain⟨o,n,e,c,Z,_⟩:=C;k_in;show⟨o,e,Z⟩
    . show⟨⟨o,I.oy p o D,E⟩,λa e=>?_⟩;cases e;show⟨o,I.oy _ o D,Z⟩
    . have z:∃o,s.heap.get? p=AA o/\o.ExactDict:=by
        rcases D with⟨A,D⟩|⟨A,D⟩;. obtain⟨_,_,_,_,o,_,_,e,J,_⟩:=I.cq p _ D;show⟨o,e,J⟩
        . obtain⟨_,_,_,_,o,_,_,e,J,_⟩:=I.cq p _ D;show⟨o,e,J⟩
      lk;obtain⟨o,e,J⟩:=z;k_in;show⟨⟨o,e,J.1⟩,λa Y=>?_⟩;cases Y;show⟨o,e,J.2.1⟩
    . lk;obtain⟨o,_,_,_,e,J,_⟩:=I.cq p _ D;k_in;show⟨⟨o,e,J.1⟩,λa Y=>?_⟩;cases Y;show⟨o,e,J.2.1⟩|_=>show Er W
def Zc(K:An)(T:String)(r:AD->List AD->AG->BN->Prop)(J:Av):Av:=λU H Q=>J U H λx D=>UR K T x D/\r x [] D Q
def UO(K:An)(T:String)(r:AD->List AD->AG->BN->Prop)(W:Av)(t:Ez):Av:=λJ H Q=>W J H λx D=>UR K T x D/\t J D λY U=>r x Y U Q
theorem tE{D:AE}{id:String}(M:bL T)(Z:Slot T D id)(z:PJ (.builtin id)=BY (.type "method_descriptor"))(K:L9 X id r)(L:Al X o O)(J:Jv o D X.af (BI o X.af)=BI o X.af:=by rfl)(U:(V.endLine==W.line)=AI:=by rfl):Al X (.Call (.Attribute o D V) [] [] W) (Zc X.K T r O):=by intro B s C H Q I h;show wpAny_Call_method0_late J U (Aw (L _ s C H _ I h) λv s1 Y=>?_);lk;obtain⟨x,E,A,r1,P,N⟩:=Y;obtain⟨F,G⟩:=Zr A r1 P;k_in;show⟨T,id,M,Z,z,F,G,bD rfl (zH (K _ s1 C E x [] v [] Q A r1 .nil N))⟩
theorem tD{U:AE}{id:String}(d:bL T)(C:Slot T U id)(E:PJ (.builtin id)=BY (.type "method_descriptor"))(a:L9 X id r)(b:Al X o i)(S:Fs X (e::Y) t)(V:Jv o U X.af (BI o X.af)=BI o X.af:=by rfl)(z:((Eo D (By (e::Y) X.af)).all (λx=>!x.1)&&(O6 D (PD [] X.af)).all (λx=>x.1.isSome)&&Ac ((e::Y).length+([]:List Lf).length+(if([]:List Lf).isEmpty then 0 else 1)<30))=AI:=by rfl)(W:(Z.endLine==D.line)=AI:=by rfl)(c:By (e::Y) X.af=(AM,BI e X.af)::By Y X.af:=by rfl)(J:(Eo D (By Y X.af)).any (·.1)=AM:=by rfl):Al X (.Call (.Attribute o U Z) (e::Y) [] D) (UO X.K T r i t):=by intro L s F H Q I h;show wpAny_Call_method_late V z W rfl (Aw (b _ s F H _ I h) λv s1 A=>?_);lk;obtain⟨x,M,G,r1,j,f⟩:=A;obtain⟨P,R⟩:=Zr G r1 j;k_in;show⟨T,id,d,C,E,P,R,?_⟩;have K:=S D _ s1 F M _ G f;rw[c]at K⊢;show bD (by change(AM||(Eo _ _).any _)=AM;rw[J]<;>rfl) (bE ?_);show Aw K λk s2 B=>?_;lk;obtain⟨l,N,O,r2,g⟩:=B;k_in;show a _ s2 F N x l v k Q O r1 r2 g
def S5(X:BP)(id:String)(r:AD->List AD->AG->BN->Prop):Prop:=∀(D:List (AB×A2))(s:AV)(W:Ai)(H:AG)(x:AD)(U:List AD)(v:AJ)(J:List AJ)(Q:BN),AX X D W H s->BU x v->BM U J->r x U H Q->Am (Ak X.ai X.w) X.A (Ir (.builtin id) (v::J)) (FI X D W Q) X.xe s
theorem BM.aai(h:BM [x] D):∃u,D=[u]/\BU x u:=by cases h with|cons r t=>cases t;show⟨_,rfl,r⟩
theorem BM.afc:∀{D:List AJ},BM [] D->D=[]|_,.nil=>rfl
theorem BM.afp(h:BM xs D):∀k:Nat,BM (Ec k xs).flatten (Ec k D).flatten|0=>.nil|k+1=>by show BM.qu h (BM.afp h k)
theorem YZ(its:List AJ):∀(k:Nat)(D:List AJ),AAz (λU V=>U++V) D.toArray (Ec k its.toArray)=(D++(Ec k its).flatten).toArray
 |0,D=>by simp|k+1,D=>by
  have e:D.toArray++its.toArray=(D++its).toArray:=by simp
  have J:(D++its)++(Ec k its).flatten=D++(Ec (k+1) its).flatten:=by rw[xC,AAy,E4]
  rw[<-J,<-YZ _ k _,<-e,xC,wU]
theorem AX.acw{its D:List AJ}(I:AX X J A H s)(U:H l=AA (.lst xs))(e:s.heap.get? l=AA {cls:=.type "list",data:=.seq its.toArray n})(W:f its.toArray=D.toArray)(Z:BM ys D)(z:ys.length<=Az):AX X J A (AK H l (.lst ys)) {s with heap:=s.heap.update l (EK f),toks:=t'}:=by have q:=AB9 e f;rw[W]at q;show I.wo (by rw[U];show trivial) (.inl rfl) (λB u V Y=>(AB8 _ _ (DZ V)).trans Y) ⟨_,q⟩ ?_;show⟨z,_,_,Z,q⟩
theorem AX.adx(I:AX X D V H s)(J:BM ys its)(U:ys.length<=Az):AX X D V (AK H s.heap.objs.size (.lst ys)) {s with heap:=s.heap.push {cls:=.type "list",data:=.seq its.toArray},toks:=t'}:=I.oz (λO O q=>Cb _ q) (Ag _) ⟨U,its,0,J,Fe _ rfl⟩
theorem AX.bw(I:AX X D J H s):H s.heap.objs.size=AF:=I.cq.bw (Ag _)
theorem AX.zi(I:AX X D U H s)(J:H l=AA (.lst xs)):xs.length<=Az/\∃(its:List AJ)(n:Nat),BM xs its/\xs.length=its.length/\s.heap.get? l=AA {cls:=.type "list",data:=.seq its.toArray n}:=by lk;obtain⟨z,its,n,r,e⟩:=I.cq l _ J;k_in;show⟨z,its,n,r,r.aq,e⟩
theorem Y3(h:n<=Az):yB n=AM:=by show AEH (Um.mpr h)
def ZK:AD->List AD->AG->BN->Prop:=λx J H Q=>FK (λl D y=>x=.ref l) (λO O y=>J=[y]) (λl D O=>H l=AA (.lst D)) (λO D O=>D.length<Az) (λl D y=>Q .non (AK H l (.lst (D++[y]))))
theorem Tv:S5 X "list.append" ZK:=by intro J s G H x C v B Q I Y W h;lk;obtain⟨l,E,y,rfl,rfl,D,A,q⟩:=h;cases Y;obtain⟨u,rfl,V⟩:=W.aai;obtain⟨z,U,n,r,Z,e⟩:=I.zi D;k_in;show MZ Uz ⟨_,e,rfl⟩ ABr (ABn _ _) (ACt l _ n u (by simp_all)) ⟨e,?_⟩;show⟨.non,_,I.acw D e (by simp) (r.qu (.cons V .nil)) ?_,rfl,q⟩;rw[Bs];assumption
def t6:AD->List AD->AG->BN->Prop:=λx U H Q=>OO (λl b D J=>x=.ref l) (λO b O O=>U=[.ref b]) (λl O D O=>H l=AA (.lst D)) (λO b O J=>H b=AA (.lst J)) (λO O D J=>D.length+J.length<=Az) (λl O D J=>Q .non (AK H l (.lst (D++J))))
theorem NK:S5 X "list.extend" t6:=by
 intro Y s T H x O v N Q I K G h;lk;obtain⟨l,b,P,S,rfl,rfl,W,A,M,q⟩:=h;cases K;obtain⟨u,rfl,E⟩:=G.aai;cases E;obtain⟨z,U,n,r,L,e⟩:=I.zi W;obtain⟨R,D,C,r2,B,Z⟩:=I.zi A;k_in;have V:U.toArray.size+D.toArray.size<=Az:=by simp_all
 have J:¬(!U.toArray.isEmpty&&yB (U.toArray.size+D.toArray.size))=AI:=by rw[Y3 V,AAR];show DN
 show MZ O5 ⟨_,e,rfl⟩ F.entry_list_extend (F.args_list_extend_2 _ _) (AutoSeq1.list_extend_list_list_0 l _ n b _ C J (by simp_all) (JM V)) ⟨e,Z,?_⟩;show⟨.non,_,I.acw W e (by simp) (r.qu r2) ?_,rfl,q⟩;rw[Bs];omega
def tZ:AD->List AD->AG->BN->Prop:=λx J H Q=>Hh (λl D=>x=.ref l) (λO O=>J=[]) (λl D=>H l=AA (.lst D)) (λl O=>Q .non (AK H l (.lst [])))
theorem sH:S5 X "list.clear" tZ:=by intro U s E H x B v A Q I Y W h;lk;obtain⟨l,C,rfl,rfl,J,q⟩:=h;cases Y;k_in;have D:=W.afc;subst D;lk;obtain⟨z,V,n,r,Z,e⟩:=I.zi J;k_in;show MZ AB0 ⟨_,e,rfl⟩ F.entry_list_clear (F.args_list_clear_1 _) (AutoSeq1.list_clear_list_0 l _ n (by rw[Hu];omega)) ⟨e,?_⟩;show⟨.non,_,I.acw J e rfl .nil (BZ _),rfl,q⟩
def tY:Dr:=λx y H Q=>OO (λl b D J=>x=.ref l) (λO b O O=>y=.ref b) (λl O D O=>H l=AA (.lst D)) (λO b O J=>H b=AA (.lst J)) (λO O D J=>D.length+J.length<=Az) (λO O D J=>∀p,H p=AF->Q (.ref p) (AK H p (.lst (D++J))))
theorem Gg:CC X (GX .Add) tY:=by
 intro U s N H x y v u Q I B C h;lk;obtain⟨l,b,K,M,rfl,rfl,Z,Y,F,q⟩:=h;cases B;cases C;obtain⟨z,J,n,r,E,e⟩:=I.zi Z;obtain⟨L,D,G,r2,A,V⟩:=I.zi Y;k_in;show P.add_list e V ?_ (by simp_all);have W:J.toArray++D.toArray=(J++D).toArray:=by simp
 rw[W];show⟨.ref _,_,I.adx (r.qu r2) (by rw[Bs];omega),rfl,q _ I.bw⟩
def uD:Dr:=λx y H Q=>X6 (λl k D=>x=.ref l) (λO k O=>y=.int k) (λl O D=>H l=AA (.lst D)) (λO k O=>-(2^63)<=k) (λO k O=>k<2^63) (λO k D=>D.length*k.toNat<=Az) (λO k D=>∀p,H p=AF->Q (.ref p) (AK H p (.lst (Ec k.toNat D).flatten)))
theorem Yq(xs:List α)(k:Nat):(Ec k xs).flatten.length=k*xs.length:=by induction k with|zero=>simp|succ k D=>rw[xC,AAy,Bs,D,Nat.succ_mul,Uh]
theorem sV:CC X (GX .Mult) uD:=by
 intro A s T H x y v u Q I L M h;lk;obtain⟨l,k,S,rfl,rfl,G,C,E,Z,q⟩:=h;cases L;obtain⟨t,rfl⟩:=M;obtain⟨z,D,n,r,K,e⟩:=I.zi G;k_in;have J:D.toArray.size*k.toNat<=Az:=by rw[Hu,<-K];show Z
 have V:=by
  have:(Az)<=(2^63-1)/8:=by decide
  show Um.mpr (Af J this)
 have W:¬(!ADM k)=AI:=by rw[fitsIndex_both C E];show DN
 have U:¬yB (D.toArray.size*k.toNat)=AI:=by rw[Y3 J];show DN
 have Y:AAz (λO P=>O++P) #[] (Ec (if D.toArray.isEmpty=AI then 0 else k.toNat) D.toArray)=(Ec k.toNat D).flatten.toArray:=by
  have B:=λm=>by have:=YZ D m [];rw[AA7]at this;show this
  rw[B];cases D with |nil=>simp|cons a R=>rw[AED (by simp)]
 show wpAny_binaryOp_repeat_ref (by decide) ⟨_,e,rfl⟩ (λN=>zQ N k t) noFill_list_mul F.fills_int_mul ABz repeat_list F.slot_int_index.lookup (MZ ABz (zQ s k t) F.entry_int_rmul (F.args_int_rmul_2 _ _) (int___rmul___int_list k t l _ n) ⟨e,rfl,⟨_,e,rfl⟩,MZ F.slot_list_mul ⟨_,e,rfl⟩ F.entry_list_mul (F.args_list_mul_2 _ _) (ADL l _ n k t W V U) ⟨e,?_⟩⟩);rw[Y];show⟨.ref _,_,I.adx (r.afp _) (by rw[Yq,Nat.mul_comm];show Z),rfl,q _ I.bw⟩
noncomputable def Br[DecidableEq J](kvs:List (J×AD))(k:J):Option AD:=(kvs.find? λD=>Ac (D.1=k)).map (·.2)
noncomputable def Bk[DecidableEq J](kvs:List (J×AD))(k:J)(v:AD):List (J×AD):=if(kvs.any λD=>Ac (D.1=k))=AI then kvs.map (λD=>if D.1=k then(D.1,v)else D)else kvs++[(k,v)]
noncomputable def DG[DecidableEq D](kvs:List (D×AD))(k:D):List (D×AD):=kvs.filter λJ=>Ac (J.1≠k)
theorem JJ[DecidableEq D]{p:D×AD}(e:p.1=k):Br (p::r) k=AA p.2:=by simp[Br,Q0,e]
theorem JI[DecidableEq D]{p:D×AD}(e:¬p.1=k):Br (p::r) k=Br r k:=by simp[Br,Q0,e]
section
variable{κ:Type}[DecidableEq κ]
theorem Om(k:κ):∀kvs:List (κ×AD),(kvs.any λD=>Ac (D.1=k))=(Br kvs k).isSome
 |[]=>rfl|p::r=>by
  rw[UW];by_cases e:p.1=k;.simp only[JJ e,AEF e,Bool.true_or,Option.isSome_some]
  .rw[JI e,AEH e];show Om k r
end
section
variable{κ:Type}[DecidableEq κ]
theorem Zu(k j:κ)(y:AD):∀kvs:List (κ×AD),Br (kvs.map λD=>if D.1=k then(D.1,y)else D) j=(Br kvs j).map λx=>if j=k then y else x
  |[]=>rfl|p::r=>by
    have J:=Zu k j y r;rw[Fd];by_cases h:p.1=k
    . rw[AEE h];by_cases e:p.1=j;.rw[JJ (p:=(p.1,y)) e,JJ e,aQ,AEE (e.symm.trans h)]
      .rw[JI (p:=(p.1,y)) e,JI e,J]
    . rw[AED h];by_cases e:p.1=j;.rw[JJ e,JJ e,aQ,AED (λz=>h (e.trans z))]
      .rw[JI e,JI e,J]
end
section
variable{κ:Type}[DecidableEq κ]
theorem Zw(k j:κ)(y:AD):∀kvs:List (κ×AD),Br kvs k=AF->Br (kvs++[(k,y)]) j=if j=k then AA y else Br kvs j
 |[],_=>by
  by_cases e:k=j;.rw[AEE e.symm];show JJ e
  .rw[AED (λz=>e z.symm)];show JI e|p::r,D=>by
  rw[UY];have J:¬p.1=k:=λz=>by rw[JJ z]at D;cases D
  rw[JI J]at D;have U:=Zw k j y r D;by_cases e:p.1=j;.rw[JJ e,JJ e,AED (λz=>J (e.trans z))]
  .rw[JI e,JI e,U]
end
theorem Ka{U:Type}[DecidableEq U](kvs:List (U×AD))(k j:U)(y:AD):Br (Bk kvs k y) j=if j=k then AA y else Br kvs j:=by
  unfold Bk;by_cases a:(kvs.any λJ=>Ac (J.1=k))=AI
  . rw[AEE a,Zu];rw[Om]at a;by_cases e:j=k
    . obtain⟨x,D⟩:=Uq.mp a;rw[AEE e,e,D,aQ,AEE rfl]
    . rw[AED e];cases Br _ j with|none=>rfl|some x=>rw[aQ,AED e]
  . rw[AED a];show Zw k j y _ ?_;rw[Om]at a;cases q:Br _ k with|none=>rfl|some x=>rw[q]at a;show(a rfl).elim
theorem Ts[DecidableEq D](kvs:List (D×AD))(k:D)(v:AD):(Bk kvs k v).length<=kvs.length+1:=by
 unfold Bk;split;.simp
 .rw[Bs,MQ];show Ag _
theorem KN.aaq(r:KN o u):o.isSome=u.isSome:=by cases o with
 |none=>cases u with |none=>rfl|some _=>show(show False from r).elim
 |some _=>cases u with |none=>show(show False from r).elim|some _=>rfl
theorem KN.adt(r:KN o u)(J:BU d D):BU (o.getD d) (u.getD D):=by cases o with
 |none=>cases u with |none=>show J|some _=>show(show False from r).elim
 |some _=>cases u with|none=>show(show False from r).elim|some _=>show r
theorem Ey.ade[DecidableEq W](r:Ey kvs vs)(k:W):KN (Br kvs k) (RO vs k):=by induction r with|nil=>show HM|@cons p q A J h t Z=>
    obtain⟨U,Y⟩:=h;by_cases e:p.1=k
    . have D:=U.symm.trans e;have b:RO (q::J) k=AA q.2:=by simp[RO,Q0,D]
      rw[JJ e,b];show Y
    . have D:¬q.1=k:=λz=>e (U.trans z);have b:RO (q::J) k=RO J k:=by simp[RO,Q0,D]
      rw[JI e,b];show Z
theorem Ey.acp[DecidableEq J](r:Ey kvs vs)(k:J):(kvs.any λD=>Ac (D.1=k))=vs.any λD=>Ac (D.1=k):=by induction r with|nil=>rfl|cons h t U=>rw[UW,UW,U,h.1]
theorem Ey.acy[DecidableEq U](r:Ey kvs vs)(k:U)(Z:BU y u):Ey (kvs.map λD=>if D.1=k then(D.1,y)else D) (vs.map λD=>if D.1=k then(D.1,u)else D):=by induction r with|nil=>show .nil|@cons p q A B h t Y=>
 rw[Fd,Fd];show .cons ?_ Y;obtain⟨J,W⟩:=h;by_cases e:p.1=k;.rw[AEE e,AEE (J.symm.trans e)];show⟨J,Z⟩
 .rw[AED e,AED (λz=>e (J.trans z))];show⟨J,W⟩
theorem Ey.nv[DecidableEq J](r:Ey kvs vs)(k:J)(D:BU y u):Ey (Bk kvs k y) (stored vs k u):=by
 unfold Bk stored;rw[r.acp k];by_cases e:(vs.any λU=>Ac (U.1=k))=AI;.rw[AEE e,AEE e];show r.acy k D
 .rw[AED e,AED e];show ACB r ⟨rfl,D⟩
theorem Ey.aam[DecidableEq U](r:Ey kvs vs)(k:U):Ey (DG kvs k) (without vs k):=by unfold DG without;induction r with|nil=>show .nil|@cons p q Z A h t J=>
    obtain⟨D,Y⟩:=h;rw[GV,GV];by_cases e:p.1=k
    . have a:¬Ac (p.1≠k)=AI:=by simp[e]
      have b:¬Ac (q.1≠k)=AI:=by simp[D.symm.trans e]
      rw[AED a,AED b];show J
    . have W:¬q.1=k:=λz=>e (D.trans z);have a:Ac (p.1≠k)=AI:=by simp[e]
      have b:Ac (q.1≠k)=AI:=by simp[W]
      rw[AEE a,AEE b];show .cons ⟨D,Y⟩ J
theorem Ey.aq[DecidableEq D]{kvs:List (D×AD)}{vs:List (D×AJ)}(r:Ey kvs vs):kvs.length=vs.length:=Hz r
theorem YU[DecidableEq D](kvs:List (D×AD))(k:D):(DG kvs k).length<=kvs.length:=Fc _ _
theorem NJ(r:BU (Ar k) u):(Ek P w).is k u=AI:=by cases k with|inl i=>obtain⟨t,e⟩:=(show∃t,u=RH i t from r);subst e;show sF P w i t|inr x=>obtain⟨t,e⟩:=(show∃t,u=RI x t from r);subst e;show sG P w x t
theorem Yh:∀{D:List AL}{J:List AJ},BM (D.map Ar) J->ItemsAre (Ek P w) D J|[],_,r=>by cases r;show .nil|k::D,_,r=>by cases r with|cons h t=>show .cons (NJ h) (Yh t)
abbrev Jd(H:AG):List (List AL×AD)->List (List AL×AB×AJ)->Prop:=BF λp q=>p.1=q.1/\H q.2.1=AA (.tup (p.1.map Ar))/\BU p.2 q.2.2
theorem Jd.ade(r:Jd H kvs xs)(k:List AL):KN (Br kvs k) ((Nm xs k).map (·.2)):=by induction r with |nil=>show HM|@cons p q Z J h t Y=>
    lk;obtain⟨U,_,W⟩:=h;k_in;by_cases e:p.1=k
    . have D:=U.symm.trans e;have b:Nm (q::J) k=AA q.2:=by simp[Nm,Q0,D]
      rw[JJ e,b];show W
    . have D:¬q.1=k:=λz=>e (U.trans z);have b:Nm (q::J) k=Nm J k:=by simp[Nm,Q0,D]
      rw[JI e,b];show Y
theorem Jd.acy(r:Jd H kvs xs)(k:List AL)(Z:BU y u):Jd H (kvs.map λJ=>if J.1=k then(J.1,y)else J) (xs.map (putAt k u)):=by induction r with|nil=>show .nil|@cons p q A B h t Y=>
 rw[Fd];show .cons ?_ Y;lk;obtain⟨D,U,W⟩:=h;k_in;unfold putAt;by_cases e:p.1=k;.rw[AEE e,AEE (D.symm.trans e)];show⟨D,U,Z⟩
 .rw[AED e,AED (λz=>e (D.trans z))];show⟨D,U,W⟩
theorem Jd.nv(r:Jd H kvs xs)(k:List AL)(J:H b=AA (.tup (k.map Ar)))(D:BU y u):Jd H (Bk kvs k y) (storedH xs k b u):=by
 have e:(kvs.any λU=>Ac (U.1=k))=(Nm xs k).isSome:=by rw[Om,(r.ade k).aaq,Option.isSome_map]
 unfold Bk storedH;rw[e];by_cases q:(Nm xs k).isSome=AI;.rw[AEE q,AEE q];show r.acy k D
 .rw[AED q,AED q];show ACB r ⟨rfl,J,D⟩
theorem Jd.adw(r:Jd H kvs xs)(D:∀b ys,H b=AA (.tup ys)->H' b=AA (.tup ys)):Jd H' kvs xs:=X2 r λO O z=>⟨z.1,D _ _ z.2.1,z.2.2⟩
theorem ZT(D:Cr P w H h)(e:Fu H a u):Cv P w H h a u:=e.ok D
theorem OS(D:Cr P w H h)(e:Fu H a (.dK kvs)):kvs.length<=Az/\(a==Kn)=AM/\∃vs,Ey kvs vs/\h.DictOf (Ek P w) a vs:=show Cv P w H h a _ from ZT D e
theorem ME(D:Cr P w H h)(e:H a=AA (.dK kvs)):kvs.length<=Az/\(a==Kn)=AM/\∃vs,Ey kvs vs/\h.DictOf (Ek P w) a vs:=OS D (.inl e)
theorem QY(Y:Cr P w H h)(e:H a=AA (.tup (D.map Ar))):(U4 (Ek P w)).is h D a:=by lk;obtain⟨_,W,r,o,J,U,n,V⟩:=(show Cv P w H h a _ from Y a _ e);k_in;show⟨o,_,n,J,U,V,by simpa using Yh r⟩
theorem OT(W:Cr P w H h)(e:Fu H a (.dT kvs)):kvs.length<=Az/\(a==Kn)=AM/\∃xs,Jd H kvs xs/\h.DictOfH (U4 (Ek P w)) a xs:=by
 lk;obtain⟨z,y,xs,r,o,Z,Y,A,B,C,E,F⟩:=(show Cv P w H h a _ from ZT W e);k_in;show⟨z,y,xs,r,o,Z,Y,A,B,C,E,λx D=>?_,F⟩;have J:∀{l:List _}{m:List _},Jd H l m->∀x∈m,(U4 (Ek P w)).is h x.1 x.2.1:=by intro l m q;induction q with |nil=>intro x D;show nomatch D|@cons p q I K U t G=>
  intro x D;rcases B6.mp D with e|D
  . subst e;show QY W (by rw[<-U.1];show U.2.1)
  .show G x D
 show J r x D
theorem pQ(D:Cr P w H h)(e:H a=AA (.dT kvs)):kvs.length<=Az/\(a==Kn)=AM/\∃xs,Jd H kvs xs/\h.DictOfH (U4 (Ek P w)) a xs:=OT D (.inl e)
def L5(H:AG)(a:AB)(y:AD)(r:Option AD):Prop:=(Ei (λD k=>Fu H a (.dK D)) (λO k=>y=Ar k) (λD k=>r=Br D k))\/KP (λD k b=>Fu H a (.dT D)) (λO O b=>y=.ref b) (λO k b=>H b=AA (.tup (k.map Ar))) (λD k O=>r=Br D k)
def Sy(H:AG)(a:AB)(y v:AD)(H':AG):Prop:=(Hh (λD k=>H a=AA (.dK D)) (λO k=>y=Ar k) (λD O=>D.length<Az) (λD k=>H'=AK H a (.dK (Bk D k v))))\/FK (λD k b=>H a=AA (.dT D)) (λO O b=>y=.ref b) (λO k b=>H b=AA (.tup (k.map Ar))) (λD O O=>D.length<Az) (λD k O=>H'=AK H a (.dT (Bk D k v)))
theorem L6(e:H a=AA (.dK kvs)):L5 H a (Ar k) (Br kvs k):=.inl ⟨kvs,k,.inl e,rfl,rfl⟩
theorem L7(e:H a=AA (.dK kvs))(D:kvs.length<Az):Sy H a (Ar k) v (AK H a (.dK (Bk kvs k v))):=.inl ⟨kvs,k,e,rfl,D,rfl⟩
theorem AX.afg(I:AX X D J H s):Kn<s.heap.objs.size:=by have h:=(I.vn.wc.keeps I.bk).lt;show Ke (by decide) h
theorem pG(L:A.units+1<Gq)(I:AX X V M H s)(g:L5 H a y (AA v))(C:BU y u)(h:∀U s',AX X V M H s'->BU v U->Q U s'):Am (Ak X.ai X.w) A (Np (.ref a) u) Q E s:=by
 rcases g with⟨B,k,e,Y,l⟩|⟨B,k,b,e,Y,F,l⟩
 . subst Y;lk;obtain⟨z,G,N,D,W⟩:=OS I.cq e;obtain⟨U,hw,J⟩:=QK (by rw[l];show D.ade k);k_in;show wpAny_getItem_of (NJ C) W.mapOf hw (h U _ (I.iu _) J)
 . subst Y;lk;cases(show u=DM b from C);obtain⟨z,G,O,D,W⟩:=OT I.cq e;obtain⟨U,hw,J⟩:=QK (by rw[l];show D.ade k);obtain⟨p,K,Z⟩:=Dp.mp hw;k_in;show wpAny_getItem_heap (zP L) (QY I.cq F) W K ?_;rw[Z];show h U _ (I.iu _) J
theorem QU(I:AX X D B H s)(A:OI (H a))(Z:U1 a s.heap J)(Y:∃q,J.get? a=AA q)(U:Cv X.ai X.w (AK H a V) J a V):AX X D B (AK H a V) {s with heap:=J,toks:=t'}:=I.wo A (.inl rfl) (λb q W z=>(Z.2 b W).trans z) Y U
theorem TV(z:kvs.length<=Az)(U:(a==Kn)=AM)(D:Ey kvs vs)(dd:J.DictOf (Ek P w) a vs):Cv P w H' J a (.dK kvs):=⟨z,U,vs,D,dd⟩
theorem pI(j:A.units+1<Gq)(I:AX X V p H s)(g:Sy H a y v H')(O:BU y u)(N:BU v r)(h:∀s',AX X V p H' s'->Q () s'):Am (Ak X.ai X.w) A (setItem (.ref a) u r) Q E s:=by
  rcases g with⟨U,k,e,B,l,Z⟩|⟨U,k,b,e,B,K,l,Z⟩
  . subst B Z;lk;obtain⟨z,C,n,D,Y⟩:=ME I.cq e;k_in;have m:n.length<=Az:=by rw[<-D.aq];show z
    have F:=by have:=Ts U k v;show Af this l
    show wpAny_setItem_pairs (NJ O) Y λM J G=>h _ ?_;have i:∃q,M.get? a=AA q:=let⟨q,_,_,W,_⟩:=J;⟨q,W⟩;show QU I (by rw[e];show HM) G i (TV F C (D.nv k N) J)
  . subst B Z;lk;cases(show u=DM b from O);obtain⟨z,C,o,D,Y⟩:=pQ I.cq e;k_in;have m:o.length<=Az:=by rw[<-Hz D];show z
    have F:=by have:=Ts U k v;show Af this l
    show wpAny_setItem_heap (zP j) (QY I.cq K) Y λM J G=>h _ ?_;lk;obtain⟨q,R,P,W,S,T,d,_,f⟩:=J;k_in;show QU I (by rw[e];show HM) G ⟨q,W⟩ ⟨F,C,_,(D.nv k K N).adw λc t L=>?_,q,R,P,W,S,T,d,f⟩;rw[AU (sJ L e (λz=>nomatch z))];show L
theorem pH(I:AX X pins σ H s)(e:H a=AA (.dK kvs))(ry:BU (Ar k) u)(l:Br kvs k=AA v)(hm:more=[]\/∃x,more=[x])(h:∀w' s',AX X pins σ (AK H a (.dK (DG kvs k))) s'->BU v w'->Q w' s'):Am (Ak X.ai X.w) A (Ir (.builtin "dict.pop") (.ref a::u::more)) Q E s:=by
 lk;obtain⟨z,hd,vs,rel,dd⟩:=ME I.cq e;obtain⟨w',hw,rw'⟩:=QK (by rw[<-l];show rel.ade k);k_in;have hp:(keyPart u).isSome=AI:=by cases k with |inl i=>obtain⟨t,q⟩:=(show∃t,u=RH i t from ry);subst q;rfl|inr x=>obtain⟨t,q⟩:=(show∃t,u=RI x t from ry);subst q;rfl
 have ha:argsOk "dict.pop" ⟨.ref a::u::more,[]⟩:=by
  rcases hm with q|⟨x,q⟩;.subst q;show F.args_dict_pop_2 _ _
  .subst q;show F.args_dict_pop_3 _ _ _
 show zC ABx dd.typeIs F.entry_dict_pop ha (meets_dict_pop_there _ a (NJ ry) _ hm hp) ⟨vs,w',dd,by rw[<-rel.aq];show z,hw,λh' dd' hs=>h w' _ ?_ rw'⟩;have he:∃q,h'.get? a=AA q:=let⟨q,_,_,hq,_⟩:=dd';⟨q,hq⟩;show QU I (by rw[e];show HM) hs he (TV (Af (YU _ k) z) hd (rel.aam k) dd')
def X0(i:A9):Prop:=∀J D,cE i AM J D=zM [J,D] (Np J D)
theorem uX{id:String}(F:typeLookup (.type T) "__getitem__"=BY (AA (.builtin id)))(G:X0 D)(h:Am (Ak prog w) A (BI J env) (λo W=>Am (Ak prog w) A (BI D env) (λi U=>U.TypeIs o T/\Am (Ak prog w) A (Np o i) Q E U) E W) E s):Am (Ak prog w) A (BI (.Subscript J D B) env) Q E s:=by
 show xT (Ep h (λo W Z=>Ep Z (λi U V=>?_) λO O x=>x) λO O x=>x);obtain⟨C,V⟩:=V;show A6 ?_;show A6 (wpAny_specialOf C F ?_);have fin:Am (Ak prog w) A (cE D AM o i) (λr Y=>Am (Ak prog w) A (letTemporaryGo J o r>>=λO=>BY r) Q E Y) E U:=by rw[G o i];show wpAny_operating (Ep V (λr Y z=>A6 (wpAny_letTemporaryGo (Ci z))) λO O x=>x)
 first |show Ci (A6 fin)|show wpAny_bind _|show wpAny_bind _
theorem pK(I:AX X D W H s)(g:L5 H a y o):s.TypeIs (.ref a) "dict":=by
 rcases g with⟨U,k,e,_,_⟩|⟨U,k,b,e,_,_,_⟩
 . lk;obtain⟨_,_,Y,_,J⟩:=OS I.cq e;k_in;show J.typeIs
 . lk;obtain⟨_,_,Z,_,J⟩:=OT I.cq e;k_in;show J.typeIs
def vC(V W:Av):Av:=λJ H Q=>V J H λx U=>W J U λy D=>Ei (λa v=>x=.ref a) (λa v=>L5 D a y (AA v)) (λO v=>Q v D)
def uJ(Z A z:Av):CV:=λD U H=>z U H λv V=>Z U V λx W=>A U W λy Y=>Ei (λa J=>x=.ref a) (λa J=>Sy Y a y v J) (λO J=>D.nx U J)
theorem GS(hu:X.A.units+1<Gq)(ho:Al X o td)(hi:Al X i ty)(hs:X0 i):Al X (.Subscript o i pos) (vC td ty):=by intro pins s σ H Q I h;show uX F.slot_dict_getitem.lookup hs (Aw (ho _ s σ H _ I h) λu s1 hh11=>?_);lk;obtain⟨x,H1,I1,rx,q1⟩:=hh11;k_in;show Aw (hi _ s1 σ H1 _ I1 q1) λiv s2 hh21=>?_;lk;obtain⟨y,H2,I2,ry,a,v,ex,g,q2⟩:=hh21;k_in;subst ex;obtain rfl:u=DM a:=rx;show⟨pK I2 g,pG hu I2 g ry λw' s3 I3 rw'=>⟨v,H2,I3,rw',q2⟩⟩
theorem LR(M:X.A.units+1<Gq)(K:Al X o b)(hi:Al X i d)(N:Al X J c)(L:Nr J (AA (.Subscript o i U)) W.line X.af=BY AM):ET X (.Assign [.Subscript o i U] J W) (uJ b d c):=by intro Y s V H D I h;show wpAny_Assign_Subscript (Aw (N _ s V H _ I h) λr s1⟨v,Z,B,R,O⟩=>Aw (K _ s1 V Z _ B O) λu s2⟨x,z,C,S,P⟩=>Aw (hi _ s2 V z _ C P) λf s3⟨y,e,E,T,a,A,G,g,Q⟩=>?_) L;subst G;obtain rfl:u=DM a:=S;show pI M E g T R λs4 F=>⟨V,A,F,Q⟩
theorem YT(h:A8)(D:Kn<h.objs.size):Cv P w H (h.push {cls:=.type "dict",data:=.dict #[]}) h.objs.size (.dK []):=⟨BZ _,AEP.mpr (DZ (DV D)),[],.nil,ADp h⟩
def vE:Av:=λO H Q=>∀p,H p=AF->Q (.ref p) (AK H p (.dK []))
theorem LQ:Al X (.Dict [] [] J) vE:=λD s U H Q I h=>wpAny_Dict_empty ⟨.ref _,_,I.oz (λO O q=>Cb _ q) (Ag _) (YT _ I.afg),rfl,h _ (I.cq.bw (Ag _))⟩
def UQ:List (Av×Av)->Ai->AG->(List (AD×AD)->AG->Prop)->Prop|[],_,H,Q=>Q [] H|(Z,z)::r,D,H,Q=>Z D H λx J=>z D J λy U=>UQ r D U λY W=>Q ((x,y)::Y) W
abbrev X4:List (AD×AD)->List (AJ×AJ)->Prop:=BF λp q=>BU p.1 q.1/\BU p.2 q.2
def QJ(X:BP)(Z:CP)(U:List (Option A9))(D:List A9)(z:List (Av×Av)):Prop:=∀(J:List (AB×A2))(s:AV)(A:Ai)(H:AG)(Q:List (AD×AD)->AG->Prop),AX X J A H s->UQ z A H Q->Am (Ak X.ai X.w) X.A (evalPairs (pairTrees U D X.af Z)) (λC B=>Ei (λW Y=>AX X J A Y B) (λW O=>X4 W C) (λW Y=>Q W Y)) X.xe s
theorem tR:QJ X D [] [] []:=λJ s U H Q I h=>pairTrees_nil_walk ⟨[],H,I,.nil,h⟩
theorem tQ(N:Al X k B)(P:Al X v C)(O:QJ X V z vs W):QJ X V (AA k::z) (v::vs) ((B,C)::W):=by showλA s Z H Q I h=>pairTrees_cons_walk (Aw (N _ s Z H _ I h) λu s1 D=>?_);lk;obtain⟨x,E,K,a,R⟩:=D;k_in;show Aw (P _ s1 Z E _ K R) λd s2 J=>?_;lk;obtain⟨y,F,L,b,S⟩:=J;k_in;show Aw (O _ s2 Z F _ L S) λe s3 U=>?_;lk;obtain⟨c,G,M,Y,T⟩:=U;k_in;show⟨_,G,M,.cons ⟨a,b⟩ Y,T⟩
noncomputable def Jk(kvs D:List (AL×AD)):List (AL×AD):=D.foldl (λJ U=>Bk J U.1 U.2) kvs
theorem Ey.adz:∀{D:List (AL×AD)}{J:List (AL×AJ)}{kvs:List (AL×AD)}{vs:List (AL×AJ)},Ey D J->Ey kvs vs->Ey (Jk kvs D) (merged vs J):=by intro D J kvs vs r;induction r generalizing kvs vs with|nil=>intro q;show q|@cons p q Y Z h t U=>
 intro W;have e:Ey (Bk kvs p.1 p.2) (stored vs q.1 q.2):=by have:=W.nv p.1 h.2;rw[<-h.1];show this
 show U e
theorem Yr:∀(D kvs:List (AL×AD)),(Jk kvs D).length<=kvs.length+D.length|[],kvs=>by show Ag _|p::r,kvs=>by have J:=Yr r (Bk kvs p.1 p.2);have U:=Ts kvs p.1 p.2;change(Jk _ r).length<=_;rw[MQ];lia
theorem YH:∀{kvs:List (AL×AD)}{U:List (AJ×AJ)},X4 (kvs.map λJ=>(Ar J.1,J.2)) U->∃D,Carries (Ek P w) U D/\Ey kvs D|[],_,r=>by cases r;show⟨[],HM,.nil⟩|p::kvs,_,r=>by cases r with|@cons a b Y z h t=>lk;obtain⟨D,c,q⟩:=YH t;obtain⟨Z,W⟩:=b;k_in;show⟨(p.1,W)::D,⟨NJ h.1,rfl,c⟩,.cons ⟨rfl,h.2⟩ q⟩
def vG(J:List (Av×Av)):Av:=λZ H Q=>∀p,H p=AF->UQ J Z (AK H p (.dK [])) λY U=>U p=AA (.dK [])/\Jf (λ(D:List (AL×AD))=>Y=D.map (λW=>(Ar W.1,W.2))) (λD=>D.length<=15) (λD=>Q (.ref p) (AK U p (.dK (Jk [] D))))
theorem tH(h:QJ X Z D J A)(V:D.all (·.isSome)=AI)(S:D.length=J.length)(N:D≠[])(B:D.length<=15):Al X (.Dict D J Z) (vG A):=by
 intro F s l H Q I q;have T:=I.cq.bw (Ag _);have G:=I.oz (t':=s.toks) (λv v q=>Cb _ q) (Ag _) (YT _ I.afg);show wpAny_Dict_walk (knd:=Ek _ _) V S N B (Aw (h _ _ l _ _ G (q _ T)) λp s2 W=>?_);lk;obtain⟨o,m,E,C,e,Y,L,n,f⟩:=W;k_in;subst L;lk;obtain⟨j,c,i⟩:=YH C;obtain⟨z,P,k,g,K⟩:=ME E.cq e;cases g;k_in;show⟨j,c,K,λM U b=>⟨.ref _,_,?_,rfl,f⟩⟩;have d:(Jk [] Y).length<=Az:=by have O:=Yr Y [];rw[Ue]at O;rw[D8];lia
 have R:∃q,M.get? _=AA q:=let⟨q,_,_,a,_⟩:=U;⟨q,a⟩;show QU E (by rw[e];show HM) b R (TV d P (i.adz .nil) U)
structure oB(X:BP)(o:A9)(m:AE)(apos:CP)(e:A9)(cpos:CP):Prop where
 ag:Jv o m X.af (BI o X.af)=BI o X.af
 aeq:((Eo cpos (By [e] X.af)).all (λx=>!x.1)&&(O6 cpos (PD [] X.af)).all (λx=>x.1.isSome)&&Ac (([e]:List A9).length+([]:List Lf).length+(if([]:List Lf).isEmpty then 0 else 1)<30))=AI
 acv:(apos.endLine==cpos.line)=AI
 abo:Eo cpos (By [e] X.af)=[(AM,BI e X.af)]
structure oC(X:BP)(o:A9)(m:AE)(apos:CP)(e f:A9)(cpos:CP):Prop where
 ag:Jv o m X.af (BI o X.af)=BI o X.af
 aeq:((Eo cpos (By [e,f] X.af)).all (λx=>!x.1)&&(O6 cpos (PD [] X.af)).all (λx=>x.1.isSome)&&Ac (([e,f]:List A9).length+([]:List Lf).length+(if([]:List Lf).isEmpty then 0 else 1)<30))=AI
 acv:(apos.endLine==cpos.line)=AI
 abo:Eo cpos (By [e,f] X.af)=[(AM,BI e X.af),(AM,BI f X.af)]
def Mv(H:AG)(a:AB):Prop:=(∃D,Fu H a (.dK D))\/∃D,Fu H a (.dT D)
theorem Yg(I:AX X U z H s)(d:Mv H a):s.TypeIs (.ref a) "dict"/\(∀b,DM a=.ref b->∃D,s.heap.get? b=AA D/\D.dict=AF)/\(a==Kn)=AM:=by
 rcases d with⟨Z,e⟩|⟨Z,e⟩
 . lk;obtain⟨_,Y,A,_,J⟩:=OS I.cq e;k_in;show⟨J.typeIs,λb q=>?_,Y⟩;lk;cases q;obtain⟨D,_,_,V,W,_⟩:=J;k_in;show⟨D,V,W.2.1⟩
 . lk;obtain⟨_,Y,B,_,J⟩:=OT I.cq e;k_in;show⟨J.typeIs,λb q=>?_,Y⟩;lk;cases q;obtain⟨D,_,_,V,W,_⟩:=J;k_in;show⟨D,V,W.2.1⟩
theorem pF(G:A.units+1<Gq)(I:AX X U L H s)(g:L5 H a y o)(B:BU y u)(Z:BU d r)(h:∀C s',AX X U L H s'->BU (o.getD d) C->Q C s'):Am (Ak X.ai X.w) A (Ir (.builtin "dict.get") [.ref a,u,r]) Q E s:=by
 rcases g with⟨Y,k,e,V,l⟩|⟨Y,k,b,e,V,F,l⟩
 . subst V;lk;obtain⟨z,W,M,D,J⟩:=OS I.cq e;k_in;show zC yF J.typeIs ABq (ABm _ _ _) (meets_dict_get_default _ a (NJ B) W r) ⟨_,J.mapOf,h _ _ (I.iu _) ?_⟩;rw[l];show(D.ade k).adt Z
 . subst V;lk;cases(show u=DM b from B);obtain⟨z,W,K,D,J⟩:=OT I.cq e;k_in;show zC yF J.typeIs ABq (ABm _ _ _) (meetsH_dict_get_default _ a b W r) ⟨zP G,k,K,QY I.cq F,J,h _ _ (I.iu _) ?_⟩;rw[l];show(D.ade k).adt Z
def vD(W Z Y:Av):Av:=λD H Q=>W D H λx J=>Jf (λa=>x=.ref a) (λa=>Mv J a) (λa=>Z D J λy V=>Y D V λz U=>FZ (λo=>L5 U a y o) (λo=>Q (o.getD z) U))
def vF(W Y:Av):Av:=λV H Q=>W V H λx J=>Jf (λa=>x=.ref a) (λa=>Mv J a) (λa=>Y V J λy U=>KP (λD k v=>U a=AA (.dK D)) (λO k O=>y=Ar k) (λD k v=>Br D k=AA v) (λD k v=>Q v (AK U a (.dK (DG D k)))))
theorem Ql(R:X.A.units+1<Gq)(P:Al X o k)(N:Al X e n)(O:Al X f l)(m:oC X o "get" D e f J):Al X (.Call (.Attribute o "get" D) [e,f] [] J) (vD k n l):=by intro B s Z H Q I h;show cF m.ag m.aeq m.acv bG yF F.type_dict_get (Aw (P _ s Z H _ I h) λu s1 U=>?_);lk;obtain⟨x,C,A,c,a,M,d,S⟩:=U;k_in;subst M;lk;obtain rfl:u=DM a:=c;obtain⟨t1,t2,_⟩:=Yg A d;k_in;show⟨t1,t2,?_⟩;rw[m.abo];show bD rfl (bE (Nj (Aw (N _ s1 Z C _ A S) λq s2 V=>?_)));lk;obtain⟨y,E,G,i,T⟩:=V;k_in;show Nj (Aw (O _ s2 Z E _ G T) λp s3 W=>?_);lk;obtain⟨z,F,K,j,r,g,b⟩:=W;k_in;show O4 ?_;show pF R K g i j λt s4 L Y=>⟨_,F,L,Y,b⟩
theorem ZF(L:Al X o S)(K:Al X e T)(m:oB X o "pop" D e J):Al X (.Call (.Attribute o "pop" D) [e] [] J) (vF S T):=by intro Z s z H Q I h;show cF m.ag m.aeq m.acv bG ABx F.type_dict_pop (Aw (L _ s z H _ I h) λu s1 U=>?_);lk;obtain⟨x,A,Y,P,a,F,d,N⟩:=U;k_in;subst F;lk;obtain rfl:u=DM a:=P;obtain⟨t1,t2,_⟩:=Yg Y d;k_in;show⟨t1,t2,?_⟩;rw[m.abo];show bD rfl (bE (Nj (Aw (K _ s1 z A _ Y N) λc s2 V=>?_)));lk;obtain⟨y,b,B,R,M,k,v,E,G,l,O⟩:=V;k_in;show O4 ?_;subst G;show pH B E R l (.inl rfl) λf s3 C W=>⟨v,_,C,W,O⟩
theorem dA:∀(ns:List Int)(vs:List AJ),W.WellAll P h vs (ns.map ACO)->RC vs ns:=by intro ns;induction ns with|nil=>intro vs w;cases w;show .nil|cons n ns D=>intro vs w;cases w with|cons a b=>cases a;show .cons _ _ (D _ b)
theorem dC{l:RL}(G:l.most=AA n)(J:l.row.toRowW.claim.pre D=AI)(z:W.WellAll P h U D):∃a vs ns,U=[DM a]/\D=[W.WData.list (ns.map ACO)]/\h.get? a=AA {cls:=.type "list",data:=.seq vs.toArray}/\RC vs ns/\ns.length<=n:=by
 have Z:=(W.pre_splitW J).1;have F:l.pre.holds [] _=AI:=(W.pre_splitW J).2;lk;obtain⟨d,r,rfl,B,C⟩:=W.hasAllW_cons Z;obtain rfl:=W.hasAllW_nil C;obtain⟨L,rfl,E⟩:=W.hasW_list B;obtain⟨ns,rfl⟩:=W.items_int E;k_in;have W:=by
  have Y:=by have Y:=(W.holds_andW F).1;rw[G]at Y;show Y
  have A:=W.condW_of Y (W.w_not (W.w_lt W.w_lit (W.w_len_list (W.w_arg rfl))));first |(show absurd A _)|(simp at A;omega)
 cases z with|cons I K=>cases K;cases I with|list H V=>show⟨_,_,ns,rfl,rfl,H,dA ns _ V,W⟩
theorem dB(l:RL)(D:List W.WData):l.row.toRowW.claim.post D (.bool AI) D=AI:=W.postW_of (by first|rfl|decide|simp) (show(W.WTm.eq _ _).value [] _=AA _ from W.w_eq_bool (W.w_res rfl) W.w_lit) rfl
theorem c9{l:RL}{d:DefRec}(hn:l.most=AA n)(hdf:d.params.defaults=[])(call:∀(w:Bm)(s₀ s₁:AV)(mg mb:AE->Option AJ)(fa:AB)(o:A2)(pm cd doc:AJ)(a:AB)(vs:List AJ)(ns:List Int),W.Ground q loose [] XP w s₀ mg mb s₁.heap->YP w s₁.heap->s₁.heap.get? fa=AA o->o.data=.func (Calls.docDef d.name d.params d.body d.scope pm cd doc)->s₁.heap.CodeRec cd d.name->mg d.name=AA (.ref fa)->s₁.heap.get? a=AA {cls:=.type "list",data:=.seq vs.toArray}->RC vs ns->ns.length<=n->s₁.gens=#[]->Ma (Ak l.prog w) PB (.call (.ref fa) ⟨[.ref a],[]⟩) (λr s'=>r=.ok (.ret (.bool AI))/\OldK s₁.heap s'.heap/\s'.os=s₁.os/\Lb s'.gens) s₁):yS q loose XP YP l.row.toRowW d [] (λf vs=>Ir f vs):=by intro w s₀ s₁ mg mb G Y fa o pm cd doc dV kV ho hd hcd hD hmg hg args vals as hpre hlay hrd hwl hlo;lk;obtain rfl:dV=.none:=W.Dflts.none hD hdf;obtain rfl:kV=.none:=W.Dflts.noKw hD;obtain⟨a,vs,ns,rfl,rfl,hobj,hints,hlen⟩:=dC hn hpre hwl;k_in;show W.enter_call (PC (call w _ _ mg mb fa o pm cd _ a vs ns G Y ho (W.fd_plain hd) hcd hmg hobj hints hlen hg) λr s' hq=>?_);lk;obtain⟨rfl,h2,h3,h4⟩:=hq;k_in;show⟨.inl ⟨_,_,[],rfl,λO=>rfl,.bool _,dB l _,λO=>⟨ADE,λO hm=>(nomatch hm)⟩⟩,h2,h3,h4⟩
theorem wI(h:RC vs ns):BM (ns.map AD.int) vs:=by induction h with|nil=>show .nil|cons n t _ D=>show .cons ⟨t,rfl⟩ D
def OJ(H:AG):Prop:=∀b,H b=AF\/∃o D,H b=AA (.frz o (.lst D))
theorem rS{K:An}{x:AE}(l:K.In D.heap)(E:D.heap.Ns Km M)(U:D.heap.Ns zB i)(c:∀x:AE,x≠"__name__"->i x=O9 x)(C:D.heap.NoLimit)(hg:D.gens=#[])(R:D.heap.get? a=AA {cls:=.type "list",data:=.seq vs.toArray})(hi:RC vs ns)(hl:ns.length<=Az)(hr:DF k PB)(F:∀base:A8,K.In base->base.Ns Km M->HZ P w K M base CX k T p [x] sp)(Z:∀(s:AV)(u:AJ),RD s p ⟨[u],[]⟩ [(x,u)])(g:∀H:AG,OJ H->Bp K H a (ns.map AD.int)->sp [.ref a] H (λv O0=>v=.bl AI) λO0 O0 O0=>False)(X:∀H e s',CX [] H D (λO0 O0 O0=>False) e s'->False):Ma (Ak P w) PB (.call (.ref T) ⟨[.ref a],[]⟩) (λr s'=>r=.ok (.ret (.bool AI))/\OldK D.heap s'.heap/\s'.os=D.os/\Lb s'.gens) D:=by
  have rv:=wI hi;have L:=hi.length;have Y:∀H:AG,OJ H->Bp K H a (ns.map AD.int)->Cr P w H D.heap->(∀b,H b≠AF->b=a)->(H a≠AF->K.lookup a=AF)->Ma (Ak P w) PB (.call (.ref T) ⟨[.ref a],[]⟩) (λr s'=>r=.ok (.ret (.bool AI))/\OldK D.heap s'.heap/\s'.os=D.os/\Lb s'.gens) D:=by
    intro H y hS G t hK;have J:∀{b:AB}{o:A2},D.heap.get? b=AA o->H b=AF->(NG _ H).get? b=AA o:=λe n=>qL e n;have j:∀{b:AB}{o:A2}{Q:Array _}{O:Nat},D.heap.get? b=AA o->o.data=.dict Q O->H b=AF:=λ{b o Q O}e d=>by cases q:H b with|none=>rfl|some u=> have S:=t b (by rw[q];simp);subst S;rw[R]at e;cases e;have d':=d;cases d'
    have W:∀{b:AB}{m:AE->Option _},D.heap.Ns b m->(NG _ H).Ns b m:=λ{b m}⟨o,Q,O,e,d,r⟩=>⟨o,Q,O,J e (j e d),d,r⟩;have B:=λb o e=>J (l b o e) (by cases q:H b with |none=>rfl|some u=> have S:=t b (by rw[q];simp);subst S;rw[hK (by rw[q];simp)]at e;cases e);have hM:QG K M _:=⟨B,W E,⟨i,W U,c⟩,let⟨mc,h1,h2⟩:=C;⟨mc,W h1,h2⟩⟩;have e0:K4 P w K M _ PB [] _ H:=⟨rfl,hM,λb o e=>sL e,BW (qM _ _),trivial,λb U=>absurd (show b∈([])from U) (by simp),G,.of_eq hg⟩;show PC ((F _ B (W E)).aeb _ [] _ H _ [.ref a] [.ref a] _ _ hr e0 (Z _ _) (.cons rfl .nil) (g H y hS)) λr s' h=>?_;cases r with|error e=>show(X H e s' h).elim|ok fl=>cases fl with|next=>show Er h|brk=>show Er h|cont=>show Er h|ret u=>obtain⟨v,H',os,A,un,I,r',q⟩:=h;have q':=q;subst q';obtain rfl:u=RG _:=r';show⟨rfl,OldK.of_keep λb o e=>?_,os,A⟩;cases q:H b with|none=>show un.ae b o e q (by intro z;show absurd (show b∈([])from z) (by simp)) (by simp)|some u=>
          rcases y b with z|⟨ob,xs,z⟩;.rw[q]at z;cases z
          . have z2:=un.qw b ob _ z;obtain⟨e1,_⟩:=G b _ z;obtain⟨e2,_⟩:=I b _ z2;rw[e]at e1;cases e1;show e2
  cases f:K.lookup a with |some o=> have e:=l a o f;rw[R]at e;cases e;show Y _ (λO0=>.inl rfl) (.inr ⟨_,_,_,f,rfl,rfl,rfl,by rw[Hu,L];show hl,by simpa using rv⟩) (λb u z=>by have N:=z;cases N) (λb z=>absurd rfl z) λz=>absurd rfl z|none=>
    show Y (λb=>if b=a then AA _ else AF) (λb=>?_) (.inl (.inr ⟨{cls:=.type "list",data:=.seq vs.toArray},AEE rfl⟩)) (λb u z=>?_) (λb z=>?_) λO0=>f
    . by_cases U:b=a;.show .inr ⟨_,_,AEE U⟩
      .show .inl (AED U)
    . by_cases U:b=a
      . have N:=(AEE U).symm.trans z;cases N;subst U;show⟨R,by rw[As];show hl,vs,_,rv,R⟩
      . have N:=(AED U).symm.trans z;cases N
    . by_cases U:b=a;.show U
      .show absurd (AED U) z
theorem wJ{l:RL}{N:Bm->A8->Prop}{d:DefRec}{K:bK->An}{CX:Bm->HY}{sp:Bm->Ax}(j:l.most=AA n)(I:n<=Az)(C:d.params.defaults=[])(m:DF k PB)(b:∀(w:Bm)(h:A8),N w h->(K w.params).In h)(F:∀(w:Bm)(W:AE->Option AJ)(z:AB)(h:A8),(K w.params).In h->h.Ns Km W->W d.name=AA (.ref z)->∃A:Hw,(∀(s:AV)(u:AJ),RD s A ⟨[u],[]⟩ [(x,u)])/\∀base:A8,(K w.params).In base->base.Ns Km W->HZ l.prog w (K w.params) W base (CX w) k z A [x] (sp w))(L:∀(w:Bm)(H:AG)(a:AB)(ns:List Int),ns.length<=n->OJ H->Bp (K w.params) H a (ns.map AD.int)->sp w [.ref a] H (λv O0=>v=.bl AI) λO0 O0 O0=>False)(B:∀(w:Bm)(H:AG)(s:AV)(e:AJ)(s':AV),CX w [] H s (λO0 O0 O0=>False) e s'->False):yS q U Q N l.row.toRowW d [] (λf vs=>Ir f vs):=by show c9 j C λw O P W y z o pm p R a vs ns G Y t r g E Z J D i=>?_;have M:=b w _ Y;lk;obtain⟨A,c,S⟩:=F w W z _ M G.T.g E;k_in;show rS M G.T.g G.T.b G.T.builtins G.T.nolimit i Z J (Af D I) m S c (λH T X=>L w H a ns D T X) λH e s'=>B w H _ e s'
theorem wK{l:RL}{z:Bm->A8->Prop}{d:DefRec}{K:bK->An}{CX:HY}{sp:An->Ax}(M:l.most=AA n)(Y:n<=Az)(W:d.params.defaults=[])(N:DF k PB)(L:∀(w:Bm)(h:A8),z w h->(K w.params).In h)(F:∀(w:Bm)(J:AE->Option AJ)(A:AB)(h:A8),(K w.params).In h->h.Ns Km J->J d.name=AA (.ref A)->∃B:Hw,(∀(s:AV)(u:AJ),RD s B ⟨[u],[]⟩ [(x,u)])/\∀base:A8,(K w.params).In base->base.Ns Km J->HZ l.prog w (K w.params) J base CX k A B [x] (sp (K w.params)))(Z:∀(K:An)(H:AG)(a:AB)(ns:List Int),ns.length<=n->OJ H->Bp K H a (ns.map AD.int)->sp K [.ref a] H (λv O=>v=.bl AI) λO O O=>False)(U:∀(H:AG)(s:AV)(e:AJ)(s':AV),CX [] H s (λO O O=>False) e s'->False):yS q D C z l.row.toRowW d [] (λf vs=>Ir f vs):=wJ M Y W N L F (λw H a ns E G I=>Z _ H a ns E G I) λO H s e s'=>U H s e s'
noncomputable def Dt(s:Cg)(j:Nat):Cg:=match s with|.ClassDef _ _ _ body _ _ _ _ _ _ _=>body.getD j (.Pass ⟨0,0,0,0⟩)|_=>.Pass ⟨0,0,0,0⟩
noncomputable def ND(s:Cg):Arguments:=match s with|.FunctionDef _ a _ _ _ _ _ _ _ _=>a|_=>{posonlyargs:=[],args:=[],vararg:=AF,kwonlyargs:=[],kw_defaults:=[],kwarg:=AF,defaults:=[]}
noncomputable def Jh(s:Cg):List Cg:=match s with|.FunctionDef _ _ b _ _ _ _ _ _ _=>b|_=>[]
noncomputable def CT(s:Cg):FR:=match s with|.FunctionDef _ _ _ _ _ _ D _ _ _=>D|_=>{kind:=.function,names:=[],isGenerator:=AM,isCoroutine:=AM}
abbrev A3:HY:=λ_ _ _ _ _ _=>False
abbrev L8:FL:=λ_ _ _=>False
theorem Hn:M8 A3 X L8:=λO O O O O O O h=>h.elim
structure Mu(K:An)(x qual:AE)(st:Cg)(f:AB)(fd:Hw):Prop where
 ex:∃(oc:AJ)(od:Option AB)(kV doc pm:AJ)(an:Option AB)(cdv ct:AJ)(osl:Array (Option AJ)),fd=Nl x qual (ND st) (Jh st) (CT st) .none kV doc pm an cdv ct/\K.lookup f=AA ⟨oc,od,.func fd,osl⟩/\bT K cdv qual=AI
 kp:RN K (.ref f)=AI
theorem Mu.ok{K:An}{st:Cg}(F:Mu K x J st f B)(S:K6 N ps (CT st))(z:∀vs H Q E,sp vs H Q E->vs.length=ps.length)(W:∀(U:AJ)(A:Cf)(D:List DL)(s:AV)(H:AG)(vs:List AD)(Q:BN)(E:FL),DF k (A.deeper (Fy J (CT st) s.heap.objs.size f U))->sp vs H Q E->∃t,FX (EX A3 P w K L base N J (CT st) f U A D s H E).adg (Jh st) t/\t {nx:=λo H'=>Q .non H',rt:=Q} (KZ N vs) H):HZ P w K L base A3 (k+1) f B ps sp:=by lk;obtain⟨X,a,T,C,b,O,U,R,M,rfl,I,Y⟩:=F.ex;k_in;show YY I Y S z λA D s H vs Q E G Z=>?_;lk;obtain⟨t,h,q⟩:=W _ A _ s H vs Q E G Z;k_in;show⟨t,h.adg,q⟩
theorem Mu.adj{K:An}{st:Cg}(F:Mu K x D st f A)(h:∀(Y U Z:AJ)(V:Option AB)(J W:AJ)(z:List AJ),z.length=ps.length->zA (Nl x D (ND st) (Jh st) (CT st) .none Y U Z V J W) ⟨z,[]⟩=BY (ps.zip z)):Kz K A ps []:=by lk;obtain⟨G,H,Y,U,Z,V,J,W,C,rfl,E,B⟩:=F.ex;k_in;show .zy (h Y _ Z V _ W)
theorem Tc{K:An}{st:Cg}(l:K.lookup f=AA ⟨A,B,.func (Nl x D (ND st) (Jh st) (CT st) .none Z U z W J Y),V⟩)(c:bT K J D=AI)(k:RN K (.ref f)=AI):Mu K x D st f (Nl x D (ND st) (Jh st) (CT st) .none Z U z W J Y):=⟨⟨A,B,Z,U,z,W,J,Y,V,rfl,l,c⟩,k⟩
theorem AQ(i:Nat){x:AE}(U:X.N[i]?=AA x:=by rfl)(W:QP X.af.scope x:=by first|show Or.inl rfl|show Or.inr (Or.inl rfl)|show Or.inr (Or.inr rfl))(V:(x==("__debug__":AE))=AM:=by decide)(D:(x==("__classdict__":AE))=AM:=by decide):Al X (.Name x J) (Zk i):=ZH U W V D
theorem EG{A B:Prop}(h:B):if AM=AI then A else B:=by show h
theorem GC{A B:Prop}(h:A):if AI=AI then A else B:=by show h
def Aj(H H':AG):Prop:=∀b o,H b=AA o->H' b=AA o
theorem Bz(H:AG):Aj H H:=λO O h=>h
theorem Aj.aa(a:Aj H D)(b:Aj D J):Aj H J:=λc o h=>b c o (a c o h)
theorem Aj.ar(e:Aj H H')(h:H' l=AF):H l=AF:=by cases q:H l with|none=>rfl|some o=>rw[e l o q]at h;cases h
theorem Aj.xp{K:An}(e:Aj H H')(h:Bp K H a xs):Bp K H' a xs:=by
 rcases h with(h|⟨o,h⟩)|h;.show .inl (.inl (e _ _ h))
 .show .inl (.inr ⟨o,e _ _ h⟩)
 .show .inr h
theorem Zv{U:Type}[DecidableEq U]{kvs:List (U×AD)}{k:U}(h:Br kvs k=AF):¬k∈kvs.map (·.1):=by intro m;lk;obtain⟨p,D,e⟩:=A7.mp m;k_in;have q:(kvs.any λJ=>Ac (J.1=k))=AI:=UX.mpr ⟨p,D,AEF e⟩;rw[Om,h]at q;show absurd q (by simp)
section
variable{κ:Type}[DecidableEq κ]
theorem Y2:∀{l:List κ}{k:κ},l.Nodup->¬k∈l->(l++[k]).Nodup
 |[],k,_,_=>by simp|a::r,k,h,D=>by
  obtain⟨h1,h2⟩:=JL.mp h;show JL.mpr ⟨λm=>?_,Y2 h2 λm=>D (B6.mpr (xR m))⟩;rcases CS.mp m with q|q;.show h1 q
  .show D (B6.mpr (BX (BV.mp q).symm))
end
theorem pP[DecidableEq D]{p:D×AD}(e:p.1=k):DG (p::r) k=DG r k:=by unfold DG;rw[GV,AED (by simp[e])]
theorem pO[DecidableEq D]{p:D×AD}(e:¬p.1=k):DG (p::r) k=p::DG r k:=by unfold DG;rw[GV,AEE (by simp[e])]
theorem pN{D:Type}[DecidableEq D]{kvs:List (D×AD)}{k:D}{p:D×AD}(h:p∈DG kvs k):p∈kvs:=(EH.mp h).1
section
variable{κ:Type}[DecidableEq κ]
theorem Tw:∀{kvs:List (κ×AD)}{k:κ},(kvs.map (·.1)).Nodup->((DG kvs k).map (·.1)).Nodup
 |[],_,_=>List.nodup_nil|p::r,k,h=>by
  obtain⟨h1,h2⟩:=JL.mp h;by_cases e:p.1=k;. rw[pP e];show Tw h2
  . rw[pO e];show JL.mpr ⟨λm=>h1 ?_,Tw h2⟩;lk;obtain⟨q,J,D⟩:=A7.mp m;k_in;show A7.mpr ⟨q,pN J,D⟩
end
theorem Cr.aaj(x:Cr P w H h)(V:H a=AF)(J:Cv P w (AK H a o) h a o):Cr P w (AK H a o) h:=by
  intro b u e;by_cases D:b=a
  . subst D;rw[AZ]at e;simp_all
  . rw[AU D]at e;show(x b u e).wg (λW u2 u3 U=>U) (λc q=>?_) λc Y q=>?_;.rw[AU (by grind)];show q
    .rw[AU (by grind)];show q
noncomputable def KQ(env:DL)(D:List (AE×AB))(x:AE×Lg):List (AE×AB):=if x.2=.free then(x.1,(env.cells.lookup x.1).getD 0)::D else D
noncomputable def NB(env:DL)(D:List (AE×Lg)):List (AE×AB):=D.foldl (KQ env) []
theorem Ya{f:α->J->Cz (ForInStep J)}{g:J->α->J}:∀(l:List α)(D:J),(∀x∈l,∀c,f x c=BY (.yield (g c x)))->HN l D f=BY (l.foldl g D)|[],D,_=>rfl|x::l,D,h=>by rw[List.forIn_cons,h x DI _];change HN l _ f=_;rw[Ya l _ λy U=>h y (GH U)];rfl
theorem oX(h:∀y∈D.names,y.2=.free->∃c,env.cells.lookup y.1=AA c):zE D env=BY (NB env D.names):=by
  simp only[zE];rw[Ya (g:=KQ env) _ [] λx Z c=>by
    obtain⟨n,J⟩:=x;by_cases V:J=.free
    . subst V;obtain⟨a,W⟩:=h _ Z rfl;have U:=W;simp only[beq_self_eq_true,AEL,KQ,cellOf,U,Option.getD_some];rfl
    . have Y:(J==MY)=AM:=by(simpa using V)
      simp only[Y,Lj,AEJ,KQ,V]];rfl
theorem YJ:∀(D:List (AE×Lg))(J:List (AE×AB)),(D.foldl (KQ env) J).lookup y=AA c->J.lookup y=AA c\/((y,MY)∈D/\(env.cells.lookup y).getD 0=c)
 |[],J,h=>.inl h|(n,k)::r,J,h=>by
  rcases YJ r _ h with q|⟨q,z⟩
  . unfold KQ at q;grind
  simp_all
theorem TU:∀(D:List (AE×Lg))(J:List (AE×AB)),((y,MY)∈D\/∃c,J.lookup y=AA c)->∃c,(D.foldl (KQ env) J).lookup y=AA c
  |[],J,h=>by simp_all|(n,k)::r,J,h=>by
    show TU r _ ?_;by_cases U:(y,MY)∈r;.show BX U
    . show .inr ?_;rcases h with h|⟨c,h⟩
      . rcases B6.mp h with e|e;. cases e;show⟨_,by unfold KQ;rw[AEE rfl,List.lookup_cons_self]⟩
        show absurd e U
      . unfold KQ;grind
theorem pA(I:Nat->AV->Prop)(turn:∀n s,I n s->Am (Ak prog w) A (pyNext it) (λr J=>match r with|AF=>R (.ok .next) J|AA v=>Am (Ak prog w) A (zK D it v) (λX U=>Am (Ak prog w) A (assign D env v) (λX Z=>Am (Ak prog w) A (HN M AI λc r=>if r=AI then do let O<-U3 c env (BI c env);BY (RX O)else BY (RX r)) (λO V=>if O=AI then Am (Ak prog w) A (BI G env) (λx z=>Am (Ak prog w) A (Ir (.builtin "list.append") [F,x]) (λX B=>∃m,m<n/\I m B) (λX X=>False) z) (λX X=>False) V else∃m,m<n/\I m V) (λX X=>False) Z) (λX X=>False) U) (λX X=>False) J) (λX X=>False) s)(n:Nat)(h:I n s):Ma (Ak prog w) A (.compLoop (.ListComp G [⟨D,N,M,0⟩] E P) 0 it F env) R s:=by show codeAny_loop rfl I (λn s S=>?_) n h;show wpAny_noted ?_;show A6 (zZ (A6 (Ep (turn n s S) (λr J W=>?_) λX X Q=>Q.elim)));cases r with|none=>show Ci W|some v=>show A6 (Ep W (λX U C=>?_) (by simp));show A6 (Ep C (λX Z H=>A6 (Ep H (λO V Y=>?_) (by simp))) (by simp));cases O with|false=>show Ci ⟨rfl,Y⟩|true=>show A6 (A6 (Ep Y (λx z K=>A6 (Ep K (λX B L=>Ci (Ci ⟨rfl,L⟩)) (by simp))) (by simp)))
def KL(X:BP)(J:List A9)(t:DA):Prop:=∀(D:List (AB×A2))(s:AV)(U:Ai)(H:AG)(Q:Bool->AG->Prop),AX X D U H s->t U H Q->Am (Ak X.ai X.w) X.A (HN J AI λc r=>if r=AI then do let V<-U3 c X.af (BI c X.af);BY (RX V)else BY (RX r)) (S9 X D U Q) X.xe s
def Ol:DA:=λO H Q=>Q AI H
theorem Gi:KL X [] Ol:=λD s J H Q I h=>wpAny_tests_nil ⟨H,I,h⟩
theorem MM(h:Gy X c t):KL X [c] t:=λD s J H Q I hw=>wpAny_tests_one (h _ s J H Q I hw)
noncomputable def Ds(X:BP)(D:FR)(N:List AE)(C:AB)(s:AV)(H:AG)(ex:List AB):BP:={X with N:=N,s₀:=s,H₀:=H,af:=compEnvC D (NB X.af D.names) C X.af,ng:=X.cj,cj:=X.cj,ex:=ex,fn:=λO=>AM,pn:=[],xe:=λO O=>False}
noncomputable def Fw(D:Ai)(j:Nat):Option AD:=(D[j]?).getD AF
def K0(G:Nat)(F:List Nat)(g:EF)(K:DA)(I:Av)(L:Ai)(Q:BN)(J:Fq)(z:AG):Prop:=∃W:Nat->Nat->Ai->List AD->AG->Prop,(∃m,W 0 m (Ec G AF++F.map (Fw L)) [] z)/\∀i m C U H,W i m C U H->(J.vm i H/\∀D,H D=AF->Q (.ref D) (AK H D (.lst U)))\/(J.go i H/\U.length<Az/\∀x A,J.aba i H x A->g x C A λY z=>K Y z λb B=>if b=AI then I Y B λy E=>∃Z,Z<m/\W (i+1) Z Y (U++[y]) E else∃Z,Z<m/\W (i+1) Z Y U B)
def MO(U:Nat)(J:List Nat)(wi:FY)(g:EF)(W:DA)(V:Av):Av:=λD H Q=>wi D H (K0 U J g W V D Q)
theorem ZV{env:DL}:∀{D:List (AE×Lg)}{y:AE},(∀z∈D,z.2≠.cell)->((D.map λ(n,k)=>if(k==MY&&env.scope.kind==.function&&env.kindOf n==AA .cell)then(n,bJ)else(n,k)).lookup y=AA .cell\/(D.map λ(n,k)=>if(k==MY&&env.scope.kind==.function&&env.kindOf n==AA .cell)then(n,bJ)else(n,k)).lookup y=AA .free)->(y,MY)∈D|[],y,_,h=>by simp_all|(n,k)::r,y,J,h=>by have U:=@ZV env r y (λV u2=>J _ (GH u2));grind
theorem Yy{env:DL}:∀{D:List (AE×Lg)}{y:AE},D.lookup y=AA .free->(D.map λ(n,k)=>if(k==MY&&env.scope.kind==.function&&env.kindOf n==AA .cell)then(n,bJ)else(n,k)).lookup y=AA .cell\/(D.map λ(n,k)=>if(k==MY&&env.scope.kind==.function&&env.kindOf n==AA .cell)then(n,bJ)else(n,k)).lookup y=AA .free|[],y,h=>xS _ h|(n,k)::r,y,h=>by have J:=@Yy env r y;grind
def KJ(X:BP)(D:FR):List (AE×Nat)->Prop|[]=>True|p::r=>X.N[p.2]?=AA p.1/\D.names.lookup p.1=AA .free/\KJ X D r
theorem KJ.zy:∀{J:List (AE×Nat)},KJ X D J->∀p∈J,X.N[p.2]?=AA p.1/\D.names.lookup p.1=AA .free
 |p::r,h,q,U=>by
  rcases B6.mp U with e|e;.subst e;show⟨h.1,h.2.1⟩
  .show KJ.zy h.2.2 q e
theorem YL(hc:X.iw=AI)(hi:Ft X tg O wi)(hk:U.kind=.function)(hcell:∀y∈U.names,y.2≠.cell)(hnames:∀y∈U.names,y.2=.local->U.names.lookup y.1=AA .local)(f:∀y∈U.names,y.2=.free->X.af.kindOf y.1=AA .cell\/X.af.kindOf y.1=AA .free)(hfr:KJ X U N)(hg:∀C s H ex,LA (Ds X U (own++N.map (·.1)) C s H ex) tg g)(ht:∀C s H ex,KL (Ds X U (own++N.map (·.1)) C s H ex) ifs tt)(he:∀C s H ex,Al (Ds X U (own++N.map (·.1)) C s H ex) elt te)(hs:∀x,Nn O X.af x=BY x)(I:AX X P σ H s)(h:MO own.length (N.map (·.2)) wi g tt te σ H Q)(fin:∀(D C:AB)m(s4:AV)(H5:AG)v,AX X P σ H5 s4->s4.heap.Ns C m->H5 C=AF->C≠X.af.locals->X.s₀.heap.objs.size<=C->(∀x c,X.af.cells.lookup x=AA c->c≠C)->(∀p∈X.pn++P,p.1≠C)->Q (.ref D) H5->compPost (Ak X.ai X.w) X.A X.xe use PQ (.ref D) C (.ok v) s4):Am (Ak X.ai X.w) X.A (comprehension (.ListComp elt [⟨tg,O,ifs,0⟩] U pos) U X.af p0 (newList []) AM (BI O X.af) use) PQ X.xe s:=by
  have d:∀y c,(NB X.af U.names).lookup y=AA c->X.af.cells.lookup y=AA c:=λy c e=>by
    rcases YJ U.names [] e with q|⟨q,z⟩;.simp at q
    . obtain⟨c',e'⟩:=I.ok.acs y (f _ q rfl);rw[e']at z;rw[e',<-z];rfl
  have hclos:zE U X.af=BY (NB X.af U.names):=oX λy hy e=>I.ok.acs y.1 (f y hy e);show wpAny_comprehension_free (use:=use) (cl:=NB X.af U.names) (Q:=PQ) rfl hs hclos hk hnames ?_;show Aw (hi P s σ H _ I h) λv s1 h1=>Aw h1 λitv s2 h2=>?_;lk;obtain⟨it,L,tn,J,R,e,Z,T,st2,f2,W,⟨m0,w0⟩,turn⟩:=h2;k_in;subst e;show zW (wpAny_newFunctionEnv hcell (by intro y hy;simp at hy) (λh₁ E A=>?_) hk);dsimp only at E A⊢;generalize hH2:s2.heap.push _=HL at E A⊢;have hC:HL.objs.size=s2.heap.objs.size+1:=by rw[<-hH2,yL]
  generalize hCC:HL.objs.size=C at E A hC⊢;have hDC:s2.heap.objs.size≠C:=by rw[hC];show DV (Jo _)
  have G:∀b,b<s2.heap.objs.size->b≠C/\b≠s2.heap.objs.size:=λb Y=>⟨by rw[hC];show DV (xI Y),DV Y⟩;have old:=λb o e=>A.extBut b o (G b (B7 e)).1 (Cb _ (hH2▸Cb _ e));have eD0:=A.extBut _ _ hDC (Cb _ (hH2▸Fe _ rfl));have t:∀b∈L,b<s2.heap.objs.size:=λb Y=>by obtain⟨o,e,_⟩:=T.av _ _ st2 b Y;show B7 e
  generalize hD:s2.heap.objs.size=D at hDC G eD0 t hC;have hDfp:D∉L:=λz=>GI _ (t D z);have okY:(Ds X U (own++N.map (·.1)) C s2 R L).Ok:=by
    show⟨Z.ok.vn,hk,Z.ok.wc,Z.ok.ace,by change s2.heap.objs.size<=C;simp_all,λx y c e1 e2=>Z.ok.abr x y c (d x c e1) (d y c e2),λy hy=>?_,λx c z O0=>(by cases z),Z.ok.hd,Z.ok.ir,.inl rfl,λb Y=>⟨(G b (t b Y)).1,λy c e=>?_⟩,Z.bs,Af Z.ok.aax Z.sz,λb o e Y=>?_,λb Y z=>?_,Z.cj,Z.xy⟩;.show TU U.names [] (.inl (ZV (env:=X.af) hcell hy))
    .show(f2 b Y).2.2.2.2.1 y c (d y c e)
    . rcases(f2 b Y).2.2.2.1 with z|z;.show Z.ok.zp b o e z
      .show absurd (BK (B7 e) (Af Z.ok.aax z)) (GI _)
    . rcases B6.mp (Z.ya b z)with q|q;.show(f2 b Y).2.1 q
      .show(f2 b Y).2.2.1 q
  have j:∀y c,X.af.cells.lookup y=AA c->c<D:=λy c e=>by obtain⟨v,z⟩:=Z.ni y c e;show BK z.lt (BW hD)
  have stkLt:∀b∈C6 X.cj,b<D:=λb Y=>by
    rcases B6.mp (Z.ya b Y)with q|q;.rw[q];show BK Z.lt (BW hD)
    . obtain⟨_,o,ho,_⟩:=Z.ok.ot.mem q;show BK (B7 ho) (Af Z.sz (BW hD))
  have S:∀a,D<=a->R a=AF:=λa ha=>Z.cq.bw (Af (BW hD) ha);have IY:AX (Ds X U (own++N.map (·.1)) C s2 R L) [] (Ec own.length AF++(N.map (·.2)).map (Fw σ)) R {s2 with heap:=h₁,toks:=s2.toks+([]:List (AE×AJ)).length}:=by
    show⟨okY,rfl,Z.je,QN old,⟨_,E,λi y v e1 e2 e3=>?_⟩,λy c e=>?_,S C (by simp_all),λy c e=>Z.ip y c (d y c e),λp M=>absurd (show p∈([]:List (AB×A2))from M) (by simp),Z.cq.ig old,?_⟩
    . have e1:(own++N.map (·.1))[i]?=AA y:=e1;have hi':own.length<=i:=by
        by_cases hlt:i<own.length
        . rw[Na (by simpa using hlt),AA0,AEE hlt]at e2;cases e2
        .simp_all
      rw[Oo hi',Bl]at e1;rw[Oo (by simpa using hi'),Bl,Bl,AA1]at e2;cases M:N[i-own.length]? with|none=>rw[M]at e1;cases e1|some p=>
        rw[M]at e1 e2;have ey:p.1=y:=Bt e1;have ev:Fw σ p.2=AA v:=Bt e2;obtain⟨a1,a3⟩:=hfr.zy p (CZ M);have es:σ[p.2]?=AA (AA v):=by unfold Fw at ev;cases q:σ[p.2]? with|none=>rw[q]at ev;cases ev|some z=>rw[q]at ev;show AEG AA ev
        have hfk:=f (p.1,.free) (PF a3) rfl;obtain⟨m,hn,hl⟩:=Z.wz;obtain⟨u,r,l⟩:=hl p.2 p.1 v a1 es (hfk.elim (λz=>.inr (.inl z)) λz=>.inr (.inr z));show⟨u,r,.inr ?_⟩;rcases l with⟨z,_⟩|⟨_,c,ec,zc⟩;.rcases hfk with q|q<;>rw[z]at q<;>cases q
        . obtain⟨c',ec'⟩:=TU (env:=X.af) (y:=p.1) U.names [] (.inl (PF a3));have:c'=c:=Bt ((d _ _ ec').symm.trans ec);subst this;rw[<-ey];obtain⟨o,ho,hdd⟩:=zc;show⟨Yy (env:=X.af) a3,c',ec',o,old _ o ho,hdd⟩
    . obtain⟨v,z⟩:=Z.ni y c (d y c e);obtain⟨o,ho,hdd⟩:=z;show⟨v,o,old _ o ho,hdd⟩
    . change(Ec own.length (AF:Option AD)++(N.map (λp=>p.2)).map (Fw σ)).length=(own++N.map (λp=>p.1)).length;simp
  have fpY:∀{w:AG}{ob:A2},(∀b∈L,w b=AF)->∀b∈L,JB (Ds X U (own++N.map (·.1)) C s2 R L) [(D,ob)] w b:=λ{w ob}hn b Y=>⟨hn b Y,(G b (t b Y)).1,λz=>okY.zg b Y z,.inl Y,λy c e=>(okY.adq b Y).2 y c e,λp M=>by
      have e:p=(D,ob):=by simpa[Ds]using M
      rw[e];change D≠b;showλz=>hDfp (z▸Y)⟩;have noC:∀(xs:Array AJ)(k:Nat)(v:Option AJ),({cls:=.type "list",data:=.seq xs k}:A2).data≠.cell v:=λxs k v z=>by cases z
  have loop:∀s₃:AV,s₃={s2 with heap:=h₁,toks:=s2.toks+([]:List (AE×AJ)).length}->Ma (Ak X.ai X.w) X.A (.compLoop (.ListComp elt [⟨tg,O,ifs,0⟩] U pos) 0 (.ref it) (.ref D) (compEnvC U (NB X.af U.names) C X.af)) (compPost (Ak X.ai X.w) X.A X.xe use PQ (.ref D) C) s₃:=by
    rintro s₃ rfl;show pA (λn s'=>∃(i:Nat)(τ:Ai)(K:List AD)(H':AG)(B:List AJ)(k:Nat),AX (Ds X U (own++N.map (·.1)) C s2 R L) [] τ H' s'/\tn i s'.heap/\(∀b∈L,H' b=AF)/\H' D=AF/\BM K B/\s'.heap.get? D=AA {cls:=.type "list",data:=.seq B.toArray k}/\K.length<=Az/\W i n τ K H') ?_ m0 ⟨0,_,[],R,[],0,IY,T.ae _ _ _ st2 λb O0 o e=>old b o e,λb Y=>(f2 b Y).1,S D (Ag _),.nil,eD0,BZ _,w0⟩;rintro n s3⟨i,τ,K,w,B,k,I3,st3,fr3,fD,rv,eD,hz,w3⟩;have I3':AX (Ds X U (own++N.map (·.1)) C s2 R L) [(D,{cls:=.type "list",data:=.seq B.toArray k})] τ w s3:=I3.jx λp M=>by
      have e:=by simpa using M
      subst e;show⟨eD,fD,hDC,λz=>GI _ (stkLt D z),noC _ _⟩
    rcases turn i n τ K w w3 with⟨stop,qn⟩|⟨go,hlt,step⟩
    . show Aw (T.wu (Ds X U (own++N.map (·.1)) C s2 R L) rfl rfl rfl hc i _ s3 τ w (λO0 O0=>False) I3' (fpY fr3) st3 stop) λr s4 hh11=>?_;obtain⟨hr,I4⟩:=hh11;subst hr;obtain⟨m,hn4,_⟩:=I4.wz;obtain⟨eD4,fD4,_⟩:=I4.uc (D,{cls:=.type "list",data:=.seq B.toArray k}) (Eb _ (BV.mpr rfl));have b4:GB (C6 X.cj) L R w s2.heap s4.heap:=I4.ag;have lt2:∀b o,s2.heap.get? b=AA o->b≠C/\b≠D:=λb o e=>G b (BK (B7 e) (BW hD));have tr2:∀b o,R b=AA o->b≠D:=λb o e z=>by have:=S D (Ag _);rw[z,this]at e;cases e
      have un:GB (C6 X.cj) L R (AK w D (.lst K)) s2.heap s4.heap:=by
        show⟨λb o e n Y hx=>b4.ae b o e n Y hx,λb o e n Y hx=>?_,λb o e n hx=>?_,λb o e hx=>?_,λb xs e=>?_,λb o u e=>?_,λb ps e=>?_⟩
        . obtain⟨sl,q⟩:=b4.tw b o e n Y hx;show⟨sl,q⟩
        .rw[AU (lt2 b o e).2];show b4.ar b o e n hx
        . obtain⟨o',q⟩:=b4.gw b o e hx;show⟨o',q⟩
        .rw[AU (tr2 _ _ e)];show b4.uj b xs e
        .rw[AU (tr2 _ _ e)];show b4.qw b o u e
        .rw[AU (tr2 _ _ e)];show b4.ui b ps e
      have hok':Cr X.ai X.w (AK w D (.lst K)) s4.heap:=I4.cq.aaj fD4 ⟨hz,B,k,rv,eD4⟩;have IX:AX X P σ (AK w D (.lst K)) s4:=Z.yf (s':=s4) (ch:=L) I4.os un hok' I4.je λb Y=>⟨(f2 b Y).2.2.2.1,(f2 b Y).2.1,(f2 b Y).2.2.2.2.1,(f2 b Y).2.2.2.2.2⟩;have hHC:w C=AF:=I4.ar;have noCD:∀b:AB,b<D->C≠b:=λb Y z=>by rw[<-z,hC]at Y;show GI D (HF Y)
      have hCL:C≠X.af.locals:=noCD _ (BK Z.lt (BW hD));show fin D C m s4 _ _ IX hn4 (by rw[AU hDC.symm];show hHC) hCL (Af Z.sz (by simp_all)) (λz c e q=>?_) (λp M q=>?_) (qn D fD4);.show noCD _ (j z c e) q.symm
      .show noCD _ (BK (B7 (Z.uc p M).1) (BW hD)) q.symm
    . show Aw (T.wy (Ds X U (own++N.map (·.1)) C s2 R L) rfl rfl rfl hc i _ s3 τ w (λO0 O0=>False) I3' (fpY fr3) st3 go) λr s4 hh21=>?_;obtain⟨u,hr,h4⟩:=hh21;subst hr;show Aw h4 λO0 s5 hh31=>?_;obtain⟨x,H5,I5,r5,y5,st5,fr5⟩:=hh31;have I5':=I5.abk (fpY fr5) (T.av _ _ st5);show Aw (hg _ _ _ _ _ s5 τ H5 x u _ I5' r5 (step x H5 y5)) λO0 s6 hh41=>?_;obtain⟨τ6,H6,I6,q6⟩:=hh41;show Aw (ht _ _ _ _ _ s6 τ6 H6 _ I6 q6) λb s7 hh51=>?_;obtain⟨H7,I7,q7⟩:=hh51;have facts:∀{s8:AV}{H8:AG}{τ8:Ai},AX (Ds X U (own++N.map (·.1)) C s2 R L) ([(D,{cls:=.type "list",data:=.seq B.toArray k})]++Qp L s5.heap) τ8 H8 s8->tn (i+1) s8.heap/\(∀b∈L,H8 b=AF)/\H8 D=AF/\s8.heap.get? D=AA {cls:=.type "list",data:=.seq B.toArray k}:=λ{s8 H8 τ8}I8=>by
        have M:∀b∈L,∀o,s5.heap.get? b=AA o->s8.heap.get? b=AA o/\H8 b=AF:=λb Y o e=>by have q:=I8.uc (b,o) (Eb _ (Eb _ (Tu Y e)));show⟨q.1,q.2.1⟩
        have qD:=I8.uc (D,{cls:=.type "list",data:=.seq B.toArray k}) (Eb _ (Ht _ (BV.mpr rfl)));show⟨T.ae _ _ _ st5 λb Y o e=>(M b Y o e).1,λb Y=>?_,qD.2.1,qD.1⟩;obtain⟨o,e,_⟩:=T.av _ _ st5 b Y;show(M b Y o e).2
      cases b with |false=> obtain⟨m',hm,w7⟩:=q7;obtain⟨z1,z2,z3,z4⟩:=facts I7;show⟨m',hm,i+1,τ6,K,H7,B,k,I7.jx λp M=>absurd M (by simp),z1,z2,z3,rv,z4,hz,w7⟩|true=>
        show Aw (he _ _ _ _ _ s7 τ6 H7 _ I7 q7) λu8 s8 hh61=>?_;obtain⟨y,H8,I8,r8,m',hm,w8⟩:=hh61;obtain⟨z1,z2,z3,z4⟩:=facts I8;have hl:=rv.aq;show MZ Uz ⟨_,z4,rfl⟩ ABr (ABn _ _) (ACt D B.toArray k u8 (by rw[Hu];show Af (BW hl.symm) (Bg hlt))) ⟨z4,?_⟩;have z5:=AB9 z4 (·.push u8);have z6:B.toArray.push u8=(B++[u8]).toArray:=by simp
        rw[z6]at z5;have kk:∀b o,b≠D->s8.heap.get? b=AA o->(s8.heap.update D (EK (·.push u8))).get? b=AA o:=λb o Y e=>(AB8 s8.heap (EK (·.push u8)) (DZ Y)).trans e;have I8':AX (Ds X U (own++N.map (·.1)) C s2 R L) [] τ6 H8 s8:=I8.jx λp M=>absurd M (by simp);show⟨m',hm,i+1,τ6,K++[y],H8,B++[u8],_,I8'.fh (it:=D) kk z3 hDC (.inr (by change s2.heap.objs.size<=D;show BW hD)) (λy c e=>DV (j y c (d y c e))) (λp M=>absurd (show p∈([]:List (AB×A2))from M) (by simp)),?_,z2,z3,rv.qu (.cons r8 .nil),z5,?_,w8⟩;.show T.ae _ _ _ z1 λb Y o e=>kk b o (λz=>hDfp (z▸Y)) e
        .rw[Bs,AA2];assumption
  show codeAny_compStart_list (loop _ rfl) (T.xw X.A 0 _ _ _ (T.ae _ _ _ st2 λb O0 o e=>old b o e) (loop _ rfl))
theorem ZE{K:Av}(a:X.iw=AI)(hi:Ft X F U wi)(f:J.kind=.function)(W:∀y∈J.names,y.2≠.cell)(V:∀y∈J.names,y.2=.local->J.names.lookup y.1=AA .local)(Y:∀y∈J.names,y.2=.free->X.af.kindOf y.1=AA .cell\/X.af.kindOf y.1=AA .free)(B:KJ X J z)(d:∀C s H ex,LA (Ds X J (own++z.map (·.1)) C s H ex) F g)(k:∀C s H ex,KL (Ds X J (own++z.map (·.1)) C s H ex) A L)(c:∀C s H ex,Al (Ds X J (own++z.map (·.1)) C s H ex) Z K)(j:∀x,Nn U X.af x=BY x:=by intro _;rfl):Al X (.ListComp Z [⟨F,U,A,0⟩] J E) (MO own.length (z.map (·.2)) wi g L K):=by intro G s r H Q I h;show YL a hi f W V Y B d k c j I h λD C m s4 n v M i R S N O P q=>⟨m,i,λp l=>⟨.ref D,_,M.fh (λb o T e=>(l.2 b T).trans e) R S (.inr N) O P,rfl,q⟩⟩
theorem Od{K:DA}(Z:List (AE×Nat))(L:X.iw=AI)(hi:Ft X (.Name x G) J wi)(O:X.af.scope=osc)(N:D.kind=.function)(V:∀y∈D.names,y.2≠.cell)(U:∀y∈D.names,y.2=.local->D.names.lookup y.1=AA .local)(W:∀y∈D.names,y.2=.free->osc.names.lookup y.1=AA .cell\/osc.names.lookup y.1=AA .free)(A:KJ X D Z)(F:D.names.lookup x=AA .local)(B:(x::Z.map (·.1)).Nodup)(Q:∀C s H ex,KL (Ds X D (x::Z.map (·.1)) C s H ex) z K)(M:∀C s H ex,Al (Ds X D (x::Z.map (·.1)) C s H ex) Y I)(P:∀x,Nn J X.af x=BY x:=by intro _;rfl):Al X (.ListComp Y [⟨.Name x G,J,z,0⟩] D E) (MO 1 (Z.map (·.2)) wi (G0 0) K I):=ZE (own:=[x]) L hi N V U (λy R e=>by change X.af.scope.names.lookup _=_\/X.af.scope.names.lookup _=_;rw[O];show W y R e) A (λC s H ex=>G6 B rfl (.inl (Nq F)) (.inr (Nq F))) Q M P
noncomputable def M4(z:AE):Fq:=⟨λi O=>i<z.cps.size,λi H x D=>D=H/\∃c,z.cps[i]?=AA c/\x=.str ⟨#[c]⟩,λi O=>z.cps.size<=i⟩
def qS(J:Av):FY:=λU H R=>J U H λx D=>FZ (λz=>x=.str z) (λz=>R (M4 z) D)
theorem Zp{K:An}(it:AB)(z:AE)(t:HI)(l:String)(Z:l="str_ascii_iterator"\/l="str_iterator"):KO P w K p (M4 z) [it] it (λi h=>i<=z.cps.size/\h.IsStrIter it l z t i)where
 ach:=by simp
 av:=λi h J b D=>by
  have e:b=it:=by simpa using D
  subst e;lk;obtain⟨_,o,e,c,d⟩:=J;k_in;show⟨o,e,λv z=>by rw[d]at z;cases z⟩
 ae:=λi h B J k=>by lk;obtain⟨g,o,e,r⟩:=J;k_in;show⟨g,o,k it (by simp) o e,r⟩
 wy:=by
  intro X f hw a O i U s m H E I Q J C;subst f hw a;lk;obtain⟨F,G,n,L,M,N⟩:=Q it (by simp);k_in;rcases Z with e|e<;>subst e
  . have W:=ACh (prog:=X.ai) (w:=X.w) (I.ok.hd O) it z t;show W.item i s _ _ C J.2 λv B R j V A=>?_;lk;obtain⟨c,u,Y,rfl⟩:=j;have S:AX X U m H {s with heap:=B,toks:=R}:=I.fh (λb o D e=>A b o (by simpa using D) e) F G L M N;obtain⟨o,e,T,d⟩:=id V;k_in;show⟨_,rfl,MG e T d (by decide) ⟨.str ⟨#[c]⟩,H,S,⟨_,rfl⟩,⟨rfl,c,Y,rfl⟩,⟨C,V⟩,λb D=>(Q b D).1⟩⟩
  . have W:=ACi (prog:=X.ai) (w:=X.w) (I.ok.hd O) it z t;show W.item i s _ _ C J.2 λv B R j V A=>?_;lk;obtain⟨c,u,Y,rfl⟩:=j;have S:AX X U m H {s with heap:=B,toks:=R}:=I.fh (λb o D e=>A b o (by simpa using D) e) F G L M N;obtain⟨o,e,T,d⟩:=id V;k_in;show⟨_,rfl,MG e T d (by decide) ⟨.str ⟨#[c]⟩,H,S,⟨_,rfl⟩,⟨rfl,c,Y,rfl⟩,⟨C,V⟩,λb D=>(Q b D).1⟩⟩
 wu:=by
  intro X f hw a O i U s m H E I Q J C;subst f hw a;lk;obtain⟨F,G,n,L,M,N⟩:=Q it (by simp);k_in;have g:i=z.cps.size:=EJ J.1 C;subst g;rcases Z with e|e<;>subst e;. have W:=ACh (prog:=X.ai) (w:=X.w) (I.ok.hd O) it z t;show W.done s _ _ J.2 λB R A=>⟨rfl,I.fh (λb o D e=>A b o (by simpa using D) e) F G L M N⟩
  . have W:=ACi (prog:=X.ai) (w:=X.w) (I.ok.hd O) it z t;show W.done s _ _ J.2 λB R A=>⟨rfl,I.fh (λb o D e=>A b o (by simpa using D) e) F G L M N⟩
 xw:=λO0 O0 O0 O0 O0 J h=>by
  rcases Z with e|e<;>subst e;.show wpAny_pyIter_striter_ascii J.2 h
  .show wpAny_pyIter_striter_wide J.2 h
theorem ZJ(A:Al X l Z):Ft X E l (qS Z):=by
  intro U s C H R I h;show Aw (A U s C H _ I h) λv s1 J=>?_;lk;obtain⟨x,W,D,r1,B⟩:=J;obtain⟨z,e,q⟩:=B;k_in;subst e;obtain⟨t,rfl⟩:=r1;cases Y:z.cps.all (.<128)
  . show wpAny_pyIter_wide Y ?_;show⟨s1.heap.objs.size,[s1.heap.objs.size],_,_,W,rfl,D.ig (t':=s1.toks) λb o e=>Cb _ e,Zp _ z t "str_iterator" (.inr rfl),⟨BZ _,_,Fe _ rfl,rfl,rfl⟩,λb V=>?_,q⟩;have e:b=s1.heap.objs.size:=by simpa using V
    subst e;show D.vk (Ag _) (D.cq.bw (Ag _))
  . show wpAny_pyIter_ascii Y ?_;show⟨s1.heap.objs.size,[s1.heap.objs.size],_,_,W,rfl,D.ig (t':=s1.toks) λb o e=>Cb _ e,Zp _ z t "str_ascii_iterator" (.inl rfl),⟨BZ _,_,Fe _ rfl,rfl,rfl⟩,λb V=>?_,q⟩;have e:b=s1.heap.objs.size:=by simpa using V
    subst e;show D.vk (Ag _) (D.cq.bw (Ag _))
theorem YM{K:Av}(xs:List AD)(p:AD->Bool)(f:AD->AD)(a:xs.length<=Az)(Z:∀i,i<xs.length->J.go i H)(A:J.vm xs.length H)(X:∀i x H',i<xs.length->J.aba i H x H'->H'=H/\xs[i]?=AA x)(C:∀x(R:Bool->AG->Prop),x∈xs->R (p x) H->L (AA x::Y.map (Fw E)) H R)(B:∀x(R:BN),x∈xs->p x=AI->R (f x) H->K (AA x::Y.map (Fw E)) H R)(S:∀D,H D=AF->Q (.ref D) (AK H D (.lst ((xs.filter p).map f)))):K0 1 Y (G0 0) L K E Q J H:=by
  show⟨λi m M W H'=>m=xs.length-i/\i<=xs.length/\H'=H/\(∃o,M=o::Y.map _)/\W=(((xs.take i).filter p).map f),⟨xs.length,by simp,BZ _,rfl,⟨_,rfl⟩,rfl⟩,?_⟩;intro i m M W H' P;lk;obtain⟨rfl,T,rfl,⟨o,rfl⟩,rfl⟩:=P;k_in;by_cases U:i<xs.length
  . show .inr ⟨Z i U,?_,λx N y=>?_⟩
    . rw[As];have O:((xs.take i).filter p).length<=(xs.take i).length:=Fc _ _;rw[Em]at O;lia
    . obtain⟨e1,F⟩:=X i x N U y;subst e1;have I:=CZ F;show C x _ I ?_;have G:=take_succ_filter p xs i x F;cases z:p x with |true=> show B x _ I z ⟨_,HG _ _ U,rfl,U,rfl,⟨_,rfl⟩,?_⟩;rw[G,z];simp|false=> show⟨_,HG _ _ U,rfl,U,rfl,⟨_,rfl⟩,?_⟩;rw[G,z];simp
  . have e:=EJ T (E6 U);subst e;rw[ABB];show .inl ⟨A,S⟩
theorem pC{K:An}(p:AD->Bool)(f:AD->AD)(U:Bp K H a xs)(E:xs.length<=Az)(Y:∀x(R:Bool->AG->Prop),x∈xs->R (p x) H->A (AA x::J.map (Fw Z)) H R)(W:∀x(R:BN),x∈xs->p x=AI->R (f x) H->z (AA x::J.map (Fw Z)) H R)(B:∀D,H D=AF->Q (.ref D) (AK H D (.lst ((xs.filter p).map f)))):K0 1 J (G0 0) A z Z Q (K7 K a) H:=YM xs p f E (λi C=>⟨xs,xs[i],U,by simp[C]⟩) ⟨xs,U,Ag _⟩ (λi x F O y=>⟨y.1,y.2 xs U⟩) Y W B
noncomputable def LV(z:AE):List AD:=z.cps.toList.map λc=>AD.str ⟨#[c]⟩
theorem pD(p:AD->Bool)(f:AD->AD)(K:z.length<=Az)(W:∀x(R:Bool->AG->Prop),x∈LV z->R (p x) H->A (AA x::J.map (Fw Y)) H R)(U:∀x(R:BN),x∈LV z->p x=AI->R (f x) H->Z (AA x::J.map (Fw Y)) H R)(C:∀D,H D=AF->Q (.ref D) (AK H D (.lst (((LV z).filter p).map f)))):K0 1 J (G0 0) A Z Y Q (M4 z) H:=by
 have F:(LV z).length=z.cps.size:=by simp[LV]
 have G:z.length=z.cps.size:=rfl;show YM _ p f (by simp_all) (λi E=>by change i<z.cps.size;simp_all) (by show BW F.symm) (λi x I E y=>?_) W U C;lk;obtain⟨e,c,B,rfl⟩:=y;k_in;show⟨e,?_⟩;unfold LV;rw[Bl];have:z.cps.toList[i]?=AA c:=by simpa using B
 rw[this];rfl
def uE:AD->Option Int->Option Int->AG->BN->Prop:=λx J D H Q=>Jf (λz=>x=.str z) (λz=>z.length<=Az) (λz=>Q (.str (Kl z J D)) H)
theorem ZC(p:MX v o):∃l:Option (Int×HI),v=partValue l/\l.map (·.1)=o:=by cases p with|none=>show⟨AF,rfl,rfl⟩|int i t=>show⟨AA (i,t),rfl,rfl⟩
theorem ZY:M9 X uE:=by intro D s K H x v E G A Z B Q I Y J V W h;lk;obtain⟨z,rfl,U,q⟩:=h;obtain⟨t,rfl⟩:=Y;obtain⟨l,rfl,rfl⟩:=ZC V;obtain⟨u,rfl,rfl⟩:=ZC W;k_in;show⟨"str",_,F.slot_str_getitem.lookup,U5 _ _ _,wpAny_getItem_str_slice (l:=l) (u:=u) (st:=AF) J rfl (post_val_or_str ⟨Af (Txt.slice_le z _ _) U,λC k=>⟨.str _,H,I.iu _,⟨_,rfl⟩,q⟩⟩)⟩
theorem OQ{K:An}(J:X.K=K:=by rfl):Eg X (.builtin "isinstance") (λxs H Q=>∃x n t b,xs=[x,.ty n]/\Hg K H x t/\Lh K t (.type n)=AA b/\Q (.bl b) H):=by subst J;intro D s A H xs z Q I r h;lk;obtain⟨x,n,t,b,rfl,W,e,q⟩:=h;obtain⟨u,Y,rfl,V,U⟩:=Qw r;cases(show Y=bP n from U);k_in;show qU I V W e λZ=>⟨.bl b,H,I.iu _,rfl,q⟩
mutual inductive Gd(K:An)(H:AG):AD->JP->Prop where|non:Gd K H .non .none|bl(b:Bool):Gd K H (.bl b) (.bool b)|int(i:Int):Gd K H (.int i) (.int i)|str(x:AE):Gd K H (.str x) (.str x)|lst{a:AB}{xs:List AD}{ds:List JP}:Bp K H a xs->IT K H xs ds->Gd K H (.ref a) (.list ds)|tup{a:AB}{xs:List AD}{ds:List JP}:CN K H a xs->IT K H xs ds->Gd K H (.ref a) (.tuple ds)inductive IT(K:An)(H:AG):List AD->List JP->Prop where|nil:IT K H [] []|cons{x:AD}{d:JP}{xs:List AD}{ds:List JP}:Gd K H x d->IT K H xs ds->IT K H (x::xs) (d::ds)end
section
variable{X:BP}{pins:List (AB×A2)}{σ:Ai}{H:AG}{s:AV}
mutual theorem Gd.acn(I:AX X pins σ H s):∀{x:AD}{d:JP}{u:AJ},Gd X.K H x d->BU x u->∃D,Reads s.heap u d D|_,_,_,.non,r=>by cases(by assumption);show⟨_,.none⟩|_,_,_,.bl b,r=>by cases(by assumption);show⟨_,.bool b⟩|_,_,_,.int i,r=>by obtain⟨t,rfl⟩:=r;show⟨_,.int i t⟩|_,_,_,.str x,r=>by obtain⟨t,rfl⟩:=r;show⟨_,.str x t⟩|_,_,_,.lst J ds,r=>by lk;cases r;obtain⟨U,Y,W,_⟩:=I.cb J;obtain⟨D,q⟩:=Sz I ds Y;obtain⟨o,e,c,n,d⟩:=W.isList;k_in;show⟨_,.list e c d (by simpa using q)⟩|_,_,_,.tup J ds,r=>by lk;cases r;obtain⟨U,Y,W,_⟩:=I.jc J;obtain⟨D,q⟩:=Sz I ds Y;obtain⟨o,e,c,n,d⟩:=W;k_in;show⟨_,.tuple e c d (by simpa using q)⟩theorem Sz(I:AX X pins σ H s):∀{xs:List AD}{ds:List JP}{Z:List AJ},IT X.K H xs ds->BM xs Z->∃D,ReadsAll s.heap Z ds D|_,_,_,.nil,r=>by cases r;show⟨_,.nil⟩|_,_,_,.cons d ds,r=>by cases r with|cons r1 r2=>lk;obtain⟨D,q⟩:=Gd.acn I d r1;obtain⟨z,p⟩:=Sz I ds r2;k_in;show⟨_,.cons q p⟩end
end
def ZO(K:An):Dr:=λx y H Q=>TC (λd e=>Gd K H x d) (λO e=>Gd K H y e) (λd O=>Kk d=AI) (λO e=>Kk e=AI) (λd e=>Q (.bl (!yO d e)) H)
theorem OZ{K:An}(W:X.A.units+64<Gq)(J:X.K=K:=by rfl):CC X (E7 .NotEq) (ZO K):=by subst J;intro D s E H x y v u Q I Y Z h;lk;obtain⟨d,e,U,V,z,A,q⟩:=h;obtain⟨B,r1⟩:=U.acn I Y;obtain⟨C,r2⟩:=V.acn I Z;k_in;show ne_dataH r1 r2 z A W ⟨.bl _,H,I,rfl,q⟩
theorem Hi{α:Type}(xs:List α)(n:Int)(W:(xs.length:Int)=n)(D:0<n)(c:Int):∃v,Cw xs (c%n)=AA v/\v∈xs:=by have J:0<=c%n:=Fz _ (JR D);have V:c%n<n:=HP _ D;obtain⟨j,U⟩:=Int.eq_ofNat_of_zero_le J;show⟨xs[j],?_,(by simp)⟩;rw[U];show Ao (by simp)
theorem KR{c:Bool}{A B:Prop}(D:c=AI->A)(J:c=AM->B):if c=AI then A else B:=by simp_all
theorem Aj.ik(e:Aj H H')(h:H' a=AF):Aj H (AK H' a o):=λb u q=>by rw[AU (A4 (e b u q) h)];show e b u q
theorem Dh{K:An}(D:X.K=K:=by rfl):M5 X (ZM K):=by subst D;show qY
theorem Dj{K:An}(D:X.K=K:=by rfl):M5 X (ZN K):=by subst D;show qZ
theorem KY{K:An}(D:X.K=K:=by rfl):M9 X (ZP K):=by subst D;show uN
theorem UL{K:An}(D:X.K=K:=by rfl):M9 X (ZQ K):=by subst D;show uO
theorem T8{K:An}(D:X.K=K:=by rfl):CC X (E7 .In) (Qr K AM):=by subst D;show sQ
theorem Y8{K:An}(D:X.K=K:=by rfl):CC X (E7 .NotIn) (Qr K AI):=by subst D;show sU
theorem T6{K:An}(D:X.K=K:=by rfl):CC X (GX .Add) (ZL K):=by subst D;show sP
theorem Jg{K:An}(D:X.K=K:=by rfl):Eg X (.builtin "len") (λxs H Q=>∃p ys,xs=[.ref p]/\(Bp K H p ys\/CN K H p ys)/\Q (.int ys.length) H):=by subst D;show oO
theorem MD{K:An}(D:X.K=K:=by rfl):Eg X (.type "list") (λxs H Q=>∃p ys,xs=[.ref p]/\(Bp K H p ys\/CN K H p ys)/\∀l,H l=AF->Q (.ref l) (AK H l (.lst ys))):=by subst D;show oQ
theorem DH{K:An}(U:Al X l D)(J:X.K=K:=by rfl):Ft X V l (Yf K D):=by subst J;show tN U
theorem tF{K:An}{D:AE}{id:String}(F:bL T)(Z:Slot T D id)(z:PJ (.builtin id)=BY (.type "method_descriptor"))(C:L9 X id r)(E:Al X o A)(B:X.K=K:=by rfl)(W:Jv o D X.af (BI o X.af)=BI o X.af:=by rfl)(Y:(J.endLine==U.line)=AI:=by rfl):Al X (.Call (.Attribute o D J) [] [] U) (Zc K T r A):=by subst B;show tE F Z z C E W Y
theorem Ic{K:An}{J:AE}{id:String}(M:bL T)(B:Slot T J id)(C:PJ (.builtin id)=BY (.type "method_descriptor"))(H:L9 X id r)(I:Al X o E)(G:Fs X (e::Y) t)(F:X.K=K:=by rfl)(Z:Jv o J X.af (BI o X.af)=BI o X.af:=by rfl)(A:((Eo D (By (e::Y) X.af)).all (λx=>!x.1)&&(O6 D (PD [] X.af)).all (λx=>x.1.isSome)&&Ac ((e::Y).length+([]:List Lf).length+(if([]:List Lf).isEmpty then 0 else 1)<30))=AI:=by rfl)(z:(W.endLine==D.line)=AI:=by rfl)(L:By (e::Y) X.af=(AM,BI e X.af)::By Y X.af:=by rfl)(U:(Eo D (By Y X.af)).any (·.1)=AM:=by rfl):Al X (.Call (.Attribute o J W) (e::Y) [] D) (UO K T r E t):=by subst F;show tD M B C H I G Z A z L U
def uC(K:An):Dr:=λx y H Q=>FK (λa b D=>x=.ref a) (λO b O=>y=.ref b) (λa O D=>Bp K H a D) (λO b O=>Bp K H b []) (λO O D=>Q (.bl (!D.isEmpty)) H)
theorem sT{K:An}(D:X.A.units<Gq)(Z:X.K=K:=by rfl):CC X (E7 .NotEq) (uC K):=by subst Z;intro W s L H x y v u Q I E F h;lk;obtain⟨a,b,G,rfl,rfl,z,A,q⟩:=h;cases E;cases F;obtain⟨C,r1,U,_⟩:=I.cb z;obtain⟨J,r2,V,_⟩:=I.cb A;cases r2;k_in;have B:=r1.aq;cases G with|nil=>cases r1;show AD5 (e:=λO=>AI) U.isList V.isList rfl D (λj Y O=>absurd Y (by simp)) _ _ _ _ ⟨.bl AM,H,I,rfl,q⟩|cons x r=>show AD6 U.isList V.isList ?_ D _ _ _ _ ⟨.bl AI,H,I,rfl,q⟩;rw[Hu,<-B];rfl
theorem DF.u1(r:DF k A):A.units+1<Gq:=by have:=r.un;lia
noncomputable def Mz(lo d:Int)(n:Nat):Fq:=⟨λi O=>i<n,λi H x D=>D=H/\x=.int (lo+(i:Int)*d),λi O=>n<=i⟩
theorem wG{K:An}(it:AB)(lo d:Int)(n:Nat):KO P w K b (Mz lo d n) [it] it (λi h=>bI h it (lo+(i:Nat)*d) ((n:Int)-(i:Nat)) d)where
 ach:=by simp
 av:=(by simp_all)
 ae:=(λe u2 u3 G L=>L _ DI _ G)
 wy:=by intro X O hw N B i D s Q H E I C J F;subst O hw N;lk;obtain⟨V,Y,S,Z,z,A⟩:=C it (by simp);k_in;have W:=ACg (prog:=X.ai) (w:=X.w) (I.ok.hd B) it lo d n;show W.item i s _ _ F J λv M c T U a=>?_;obtain⟨t,rfl⟩:=T;have R:AX X _ Q H {s with heap:=M,toks:=c}:=I.fh (λe u2 u3 G=>a _ _ (Kg u3 (λL=>BV.mp L)) G) V Y Z z A;show⟨_,rfl,MG U rfl rfl (by decide) ⟨.int _,H,R,⟨t,rfl⟩,⟨rfl,rfl⟩,U,(by(simp[*]))⟩⟩
 wu:=by intro X O hw N B i D s Q H E I C J F;lk;obtain⟨V,Y,S,Z,z,A⟩:=C it (by simp);k_in;show ADA (I.ok.hd B) J (by have:=F;show AAm (Ra.mp this)) λM f=>⟨rfl,I.fh (by assumption) V Y Z z A⟩
 xw:=λo o o o o J h=>AC9 J h
noncomputable def FO(lo hi d:Int):Nat:=if lo<hi then((hi-lo-1)/d+1).toNat else 0
theorem Qt{lo:Int}(D:1<=d):bA lo hi d=(FO lo hi d:Int):=by
 unfold bA FO;rw[AEE (by assumption)];split
 . have:0<=(hi-lo-1)/d:=AAY (by lia) (Kp D);show AAZ.mpr (AAa this)
 .rfl
theorem Zq{lo:Int}(J:1<=d):(FO lo hi d:Int)<=(if lo<hi then hi-lo else 0):=by
 unfold FO;split
 . have D:(hi-lo-1)/d<=hi-lo-1:=Int.ediv_le_self _ (by lia);omega
 simp
theorem uR(D:1<=c)(V:c<1000000)(W:-(2^40)<=a)(J:a<2^40)(Y:-(2^40)<=b)(U:b<2^40):bB a b c=AI:=by have h:=Zq (lo:=a) (hi:=b) D;have Z:=Qt (lo:=a) (hi:=b) D;unfold bB;simp only[ABj,Pd,AAV,AEK,AEO,show c>0 by assumption,AEL];(constructor<;>lia)
theorem uG{lo:Int}(I:AX X D U H s)(V:1<=d)(Y:d<1000000)(z:-(2^40)<=lo)(A:lo<2^40)(B:-(2^40)<=hi)(C:hi<2^40)(q:R (Mz lo d (FO lo hi d)) H):Am (Ak X.ai X.w) X.A (cC (.ref s.heap.objs.size)) (S6 X D U G R) E {s with heap:=s.heap.push {cls:=.type "range",data:=.fields #[.int lo t,.int hi u,.int d v]},toks:=W}:=by
  show AC8 (yM ..) (uR V Y z A B C) ?_;have J:AX X _ U H {s with heap:=s.heap.push {cls:=.type "range",data:=.fields #[.int lo t,.int hi u,.int d v]},toks:=W}:=I.ig λb o e=>Cb _ e;show⟨_,_,_,_,H,rfl,J.ig λb o e=>Cb _ e,wG _ lo d _,?_,λb F=>?_,q⟩
  . have e1:lo+((0:Nat))*d=lo:=by simp
    have Z:((FO lo hi d))-((0:Nat))=bA lo hi d:=by rw[Qt V];rfl
    change bI _ _ _ _ d;rw[e1,Z];show Fe _ rfl
  . have e:=BV.mp F;subst e;show J.vk (Ag _) (J.cq.bw (Ag _))
def qR(J:Ez):FY:=λV H R=>J V H λU D=>LG (λ(i j d:Int)=>U=[.int i,.int j,.int d]) (λi j d=>(1<=d/\d<1000000/\-(2^40)<=i/\i<2^40/\-(2^40)<=j/\j<2^40)) (λi j d=>R (Mz i d (FO i j d)) D)
theorem tP(C:FJ X "range")(E:X.mg "range"=AF)(B:Fs X [a,b,c] Z)(O:By [a,b,c] X.af=[(AM,BI a X.af),(AM,BI b X.af),(AM,BI c X.af)]:=by rfl)(J:By [b,c] X.af=[(AM,BI b X.af),(AM,BI c X.af)]:=by rfl):Ft X Q (.Call (.Name "range" p) [a,b,c] [] U) (qR Z):=by intro Y s M H R I h;show Ur (Jj I C E aU (O0 (Aw (B _ _ s M H _ I h) λS s1⟨T,N,z,r1,V⟩=>?_) (by simp_all) (by rw[J];rfl)));lk;obtain⟨i,j,d,e,⟨W,A,V,F,G,K⟩,q⟩:=V;k_in;subst e;cases r1 with|cons r D=>cases D with|cons L D=>cases D with|cons r2 D=>lk;cases D;obtain⟨t,rfl⟩:=r;obtain⟨P,rfl⟩:=L;obtain⟨t2,rfl⟩:=r2;k_in;show call_range_3 (JR W) (uG z W A V F G K q) (.inl (yA (by grind)))
theorem qG{lo d:Int}{n:Nat}{g:EF}{B:CV}{D:GA}{J:Ai}{H:AG}(Z:Nat->Ai->AG->Prop)(C:Z 0 J H)(I:∀i J H,i<n->Z i J H->g (.int (lo+(i:Int)*d)) J H λY z=>B {D with nx:=Z (i+1),ct:=Z (i+1),bk:=D.nx} Y z)(F:∀J H,Z n J H->D.nx J H):∃W:Nat->Nat->Ai->AG->Prop,(∃m,W 0 m J H)/\∀i m J H,W i m J H->((Mz lo d n).vm i H/\D.nx J H)\/((Mz lo d n).go i H/\∃N:Ai->AG->Prop,(∀V H',N V H'->∃A,A<m/\W (i+1) A V H')/\∀x H',(Mz lo d n).aba i H x H'->g x J H' λY z=>B {D with nx:=N,ct:=N,bk:=D.nx} Y z):=by
 show⟨λi m J H=>m=n-i/\i<=n/\Z i J H,⟨n,by simp,BZ _,C⟩,?_⟩;intro i m J H E;lk;obtain⟨rfl,G,p⟩:=E;k_in;by_cases U:i<n
 . show .inr ⟨U,_,λV H' K=>⟨_,HG _ _ U,rfl,U,K⟩,λx H' y=>?_⟩;obtain⟨e,y⟩:=y;subst e y;show I i J _ U p
 . have e:=EJ G (E6 U);subst e;show .inl ⟨Ag _,F J H p⟩
theorem tS(p:X.N.Nodup)(M:X.N[Q]?=AA y)(O:K9 X.af.scope y)(L:X.fn y=AI\/X.af.scope.names.lookup y=AA .local)(t:X.iw=AI)(hi:Ft X F U wi)(hk:J.kind=.function)(Z:∀y∈J.names,y.2≠.cell)(V:∀y∈J.names,y.2=.local->J.names.lookup y.1=AA .local)(z:∀y∈J.names,y.2=.free->X.af.kindOf y.1=AA .cell\/X.af.kindOf y.1=AA .free)(K:KJ X J B)(w:∀C s H ex,LA (Ds X J (own++B.map (·.1)) C s H ex) F g)(ht:∀C s H ex,KL (Ds X J (own++B.map (·.1)) C s H ex) A c)(u:∀C s H ex,Al (Ds X J (own++B.map (·.1)) C s H ex) Y T)(N:Nr (.ListComp Y [⟨F,U,A,0⟩] J E) (AA (.Name y S)) W.line X.af=BY AI)(hs:∀x,Nn U X.af x=BY x:=by intro _;rfl):ET X (.Assign [.Name y S] (.ListComp Y [⟨F,U,A,0⟩] J E) W) (Qu (MO own.length (B.map (·.2)) wi g c T) (G0 Q)):=by
 intro R s σ H D0 I h;rw[exec_Assign_Name_used _ _ _ _ N];show A6 (zZ (A6 ?_));show A6 (Ep (YL t hi hk Z V z K w ht u hs I h λD C m s4 H5 v d hn l n i j k q=>?_) (λO0 s' hq=>Ci (Ci hq)) λO0 O0 e=>e);show AC2 (ZZ d p M O (v:=.ref D) rfl (λs5 f⟨a,P,ha⟩=>?_) L);have G:C≠a:=by grind
 show⟨m,Heap.Ns.sameBut hn P G,λh' sb=>⟨_,_,f.fh (λb o r e=>(sb.2 b r).trans e) l n (.inr i) j k,q⟩⟩
theorem Oe(A:List (AE×Nat))(Q:X.N.Nodup)(F:X.N[i]?=AA y)(K:K9 X.af.scope y)(R:X.iw=AI)(hi:Ft X (.Name x L) J wi)(b:X.af.scope=osc)(a:D.kind=.function)(Y:∀y∈D.names,y.2≠.cell)(U:∀y∈D.names,y.2=.local->D.names.lookup y.1=AA .local)(Z:∀y∈D.names,y.2=.free->osc.names.lookup y.1=AA .cell\/osc.names.lookup y.1=AA .free)(E:KJ X D A)(M:D.names.lookup x=AA .local)(G:(x::A.map (·.1)).Nodup)(d:∀C s H ex,KL (Ds X D (x::A.map (·.1)) C s H ex) z P)(S:∀C s H ex,Al (Ds X D (x::A.map (·.1)) C s H ex) W O)(I:Nr (.ListComp W [⟨.Name x L,J,z,0⟩] D B) (AA (.Name y N)) V.line X.af=BY AI:=by rfl)(T:X.fn y=AI\/X.af.scope.names.lookup y=AA .local:=by first|show .inl rfl|show .inr rfl|assumption)(c:∀x,Nn J X.af x=BY x:=by intro _;rfl):ET X (.Assign [.Name y N] (.ListComp W [⟨.Name x L,J,z,0⟩] D B) V) (Qu (MO 1 (A.map (·.2)) wi (G0 0) P O) (G0 i)):=tS (own:=[x]) Q F K T R hi a Y U (λy f e=>by change X.af.scope.names.lookup _=_\/X.af.scope.names.lookup _=_;rw[b];show Z y f e) E (λC s H ex=>G6 G rfl (.inl (Nq M)) (.inr (Nq M))) d S I c
def Dg:Cz α->Prop|.pure _=>True|.raise _=>True|.unsupported _=>True|.finish _=>True|.rule _ k=>Dg (k ())|.at _ k=>Dg (k ())|.load _ _ k=>∀o,Dg (k o)|.update _ _ f k=>(∀o,(f o).dict=o.dict)/\Dg (k ())|.loadIfAlive _ k=>∀o,Dg (k o)|.point _ k=>Dg (k ())|.alloc _ k=>∀a,Dg (k a)|.fresh k=>∀t,Dg (k t)|.ask k=>∀t,Dg (k t)|.stack k=>∀l,Dg (k l)|_=>False
theorem EW{f:α->Cz J}(h:Dg t)(g:∀a,Dg (f a)):Dg (t>>=f):=by induction t with|pure a=>show g a|raise e=>trivial|unsupported w=>trivial|finish e=>trivial|rule t k D=>show D () h|«at»p k D=>show D () h|load a p k D=>showλo=>D o (h o)|update a p f k D=>show⟨h.1,D () h.2⟩|alloc o k D=>showλa=>D a (h a)|loadIfAlive a k D=>showλo=>D o (h o)|point l k D=>show D () h|fresh k D=>showλo=>D o (h o)|ask k D=>showλo=>D o (h o)|stack k D=>showλo=>D o (h o)|_=>show h.elim
def Eh(e:AB)(d:Option AB)(h:A8):Prop:=∃o,h.objs[e]?=AA o/\o.dict=d
theorem Eh.aca(x:Eh e d h)(o:A2):Eh e d (h.push o):=by lk;obtain⟨u,U,V⟩:=x;k_in;show⟨u,?_,V⟩;have J:=(Array.getElem?_eq_some_iff.mp U).1;cases h with|mk D l=>change(D.push o)[e]?=AA u;rw[Array.getElem?_push_lt J];show(Array.getElem?_eq_getElem J).symm.trans U
theorem Eh.adb(x:Eh e d h)(a:AB)(V:∀o,(f o).dict=o.dict):Eh e d (h.update a f):=by lk;obtain⟨u,U,J⟩:=x;k_in;cases h with|mk D l=>
 change∃o,(D.modify a f)[e]?=AA o/\o.dict=d;rw[Array.getElem?_modify];by_cases q:a=e
 . rw[AEE q,U];show⟨f u,rfl,(V u).trans J⟩
 . rw[AED q];show⟨u,U,J⟩
theorem Eh.wx(x:Eh e d h)(g:h.get? e=AA o):o.dict=d:=by lk;obtain⟨u,J,D⟩:=x;have:=(AB7.mp g).1;rw[J]at this;cases this;k_in;show D
theorem n8(g:h.get? e=AA o):Eh e o.dict h:=⟨o,(AB7.mp g).1,rfl⟩
theorem Dg.wp:∀{Q:α->CP->AV->Prop}{E:AJ->CP->AV->Prop}{p:CP}{s:AV},Dg t->Eh e d s.heap->Sem.wp M J t Q E p s->Sem.wp M J t (λa p s=>Q a p s/\Eh e d s.heap) (λa p s=>E a p s/\Eh e d s.heap) p s:=by induction t with|pure a=>intro Q E p s h x q;show⟨q,x⟩|raise v=>intro Q E p s h x q;show⟨q,x⟩|unsupported w=>intro Q E p s h x q;show q.elim|finish v=>intro Q E p s h x q;show q.elim|rule t k D=>intro Q E p s h x q;show D () h x q|«at»V k D=>intro Q E p s h x q;show D () h x q|load a U k D=>intro Q E p s h x q;obtain⟨o,e1,q⟩:=q;show⟨o,e1,D o (h o) x q⟩|update a U f k D=>intro Q E p s h x q;show⟨q.1,D () h.2 (x.adb a h.1) q.2⟩|alloc o k D=>intro Q E p s h x q;show D _ (h _) (x.aca o) q|loadIfAlive a k D=>intro Q E p s h x q;show D _ (h _) x q|point l k D=>intro Q E p s h x q;show D () h x q|fresh k D=>intro Q E p s h x q;show D _ (h _) x q|ask k D=>intro Q E p s h x q;show D _ (h _) x q|stack k D=>intro Q E p s h x q;show D _ (h _) x q|_=>intro Q E p s h;show h.elim
theorem OG(h:Dg t)(x:Eh e d s.heap)(q:Am M A t Q E s):Am M A t (λa s'=>Q a s'/\Eh e d s'.heap) (λv s'=>E v s'/\Eh e d s'.heap) s:=λJ p D=>h.wp x (q J p D)
theorem Ti(a:AB):Dg (load a):=λO=>trivial
theorem Tn:Dg stack:=λO=>trivial
theorem rE(v:AJ):Dg (fieldsOf v):=by
 unfold fieldsOf;split
 . show EW (Ti _) λo=>?_;split<;>trivial
 .trivial
theorem QX(v:AJ)(i:Nat):Dg (field v i):=by show EW (rE v) λo=>?_;split<;>trivial
theorem pJ(f:Array AJ->Array AJ)(o:A2):(ACA f o).dict=o.dict:=by unfold ACA;split<;>rfl
theorem Tj(v:AJ)(i:Nat)(x:AJ):Dg (zN v i x):=by
  unfold zN;split
  . show EW (Ti _) λo=>?_;split
    . split;.show⟨pJ _,trivial⟩
      .trivial
    .trivial
  .trivial
theorem rD(f:AB)(b:Bool):Dg (entryPlaceOf f b):=by show EW Tn λo=>?_;split<;>trivial
theorem Ym:∀l:List DL,Dg (readyFrames l)
  |[]=>trivial|J::D=>by
    unfold readyFrames;split
    . show EW (Ti _) λo=>?_;split;.trivial
      . show EW ?_ λb=>EW ?_ λv=>?_
        . unfold behindIsImport;split;.trivial
          . split;.trivial
            .show EW (QX _ _) λO=>trivial
        . unfold keptBack;split
          . split;.trivial
            .show EW (EW Tn λO=>trivial) λO=>trivial
          .trivial
        .show⟨λO=>rfl,Ym _⟩
    .trivial
theorem rF(env:DL):Dg (ACq env):=by
  show EW (EW Tn λO=>trivial) λl=>EW ?_ λo=>?_
  . unfold frameObject;split;.trivial
    .show EW (Ym _) λO=>trivial
  .split<;>trivial
theorem rC(a b c d e:AJ)(l:List AJ):Dg (yE a b c d e l):=by
 unfold yE newFields newObj;have k:∀D:Array _,Dg (newObjAsIs (.type "traceback") (.fields D)):=λD=>by show EW (λO=>trivial) λO=>trivial
 dsimp only;split<;>split<;>first|trivial|show k _
theorem Yl(e:AJ)(env:DL):Dg (cA e env):=by
  unfold cA;split
  . rename_i f _;show EW (QX _ _) λD=>?_;have k:∀x:AJ,Dg (do let a<-ACq env;let J<-entryPlaceOf f (x !=.none);let b<-yE x a .none (rawInt f) .none J;zN e 1 b):=λx=>EW (rF _) λO=>EW (rD _ _) λO=>EW (rC _ _ _ _ _ _) λO=>Tj _ _ _;split
    . show EW (QX _ _) λy=>?_;split;.trivial
      .show EW (Tj _ _ _) λO=>k D
    .show k D
  .trivial
theorem Th(e:AJ)(D:Option AB):Dg (cD e D):=by
 show EW (QX _ _) λO=>?_;split;.show Tj _ _ _
 .trivial
theorem Yk(env:DL)(e:AJ):Dg (b9 env e):=EW (Yl _ _) λO=>Th _ _
theorem rW(W:A.frames=AA (env::J))(B:env.frame=AA L)(V:Js base (env::J) e U Y s.heap)(Z:Eh e dd s.heap)(k:∀D,Js base J e U Y D->s.heap.UpToSlots D->Eh e dd D->Q () {s with heap:=D}):Am M A (b9 env (.ref e)) Q E s:=by show Ep (OG (Yk _ _) Z (wpAny_leaves_onW (Q:=λO s3=>∃D,s3={s with heap:=D}/\Js _ _ e _ Y D/\s.heap.UpToSlots D) (E:=λO O=>False) W B V λD x y=>⟨D,rfl,x,y⟩)) (λO s3 q=>?_) λO O z=>z.1.elim;lk;obtain⟨⟨D,rfl,x,y⟩,z⟩:=q;k_in;show k D x y z
theorem rV(W:A.frames=AA (env::J))(I:s.heap.FunFrames base (env::J))(H:env.frame=AA L)(B:s.heap.get? e=AA V)(Y:base.StaysIn s.heap)(U:base.get? e=AF)(G:V.data=.fields vs)(F:vs[1]?=AA .none)(C:vs[0]?=AA Z)(k:∀D,Js base J e V.cls Z D->s.heap.UpToSlots D->Eh e V.dict D->Q () {s with heap:=D}):Am M A (b9 env (.ref e)) Q E s:=by show Ep (OG (Yk _ _) (n8 B) (wpAny_leaving_firstW (Q:=λS s3=>∃D,s3={s with heap:=D}/\Heap.LeftW _ _ e _ Z _ D) (E:=λS S=>False) W I H B Y U G F C λD x=>⟨D,rfl,x⟩)) (λS s3 q=>?_) λS S z=>z.1.elim;lk;obtain⟨⟨D,rfl,K,⟨_,_,N⟩,O,P⟩,z⟩:=q;k_in;show k D ⟨K,U,N,O⟩ P z
theorem rY(W:A.frames=AA (env::J))(B:env.frame=AA L)(V:Js base (env::J) e U Y s.heap)(Z:Eh e dd s.heap)(k:∀D,yJ base (env::J) e U Y L D->s.heap.UpToSlots D->Eh e dd D->Q () {s with heap:=D}):Am M A (cA (.ref e) env) Q E s:=by show Ep (OG (Yl _ _) Z (wpAny_looks_onW (Q:=λO s3=>∃D,s3={s with heap:=D}/\yJ _ _ e _ Y L D/\s.heap.UpToSlots D) (E:=λO O=>False) W B V λD x y=>⟨D,rfl,x,y⟩)) (λO s3 q=>?_) λO O z=>z.1.elim;lk;obtain⟨⟨D,rfl,x,y⟩,z⟩:=q;k_in;show k D x y z
theorem rP(W:yJ base l e J U L s.heap)(V:Eh e dd s.heap)(k:∀D,Js base l e J U D->s.heap.UpToSlots D->Eh e dd D->Q () {s with heap:=D}):Am M A (cD (.ref e) AF) Q E s:=by show Ep (OG (Th _ _) V (wpAny_landsW (Q:=λO s3=>∃D,s3={s with heap:=D}/\Js _ l e _ U D/\s.heap.UpToSlots D) (E:=λO O=>False) W λD x y=>⟨D,rfl,x,y⟩)) (λO s3 q=>?_) λO O z=>z.1.elim;lk;obtain⟨⟨D,rfl,x,y⟩,z⟩:=q;k_in;show k D x y z
theorem rQ(W:Js base l e J U s.heap)(V:Eh e dd s.heap)(k:∀D,Js base l e J U D->s.heap.UpToSlots D->Eh e dd D->Q () {s with heap:=D}):Am M A (cD (.ref e) AF) Q E s:=by show Ep (OG (Th _ _) V (lands_againW (Q:=λO s3=>∃D,s3={s with heap:=D}/\Js _ l e _ U D/\s.heap.UpToSlots D) (E:=λO O=>False) W λD x y=>⟨D,rfl,x,y⟩)) (λO s3 q=>?_) λO O z=>z.1.elim;lk;obtain⟨⟨D,rfl,x,y⟩,z⟩:=q;k_in;show k D x y z
def GP(P:CI)(w:Bm):HY:=λD H s E Z J=>∃(e:AB)(C Y:AJ)(U:AG)(B:A8)(V:Option AB),Z=.ref e/\J.os=s.os/\Lb J.gens/\Cr P w U B/\Js B D e C Y J.heap/\GB (C6 D) [] H U s.heap J.heap/\(∀b o,s.heap.get? b=AA o->b∉C6 D->∃W,B.get? b=AA W/\(H b=AF->W=o))/\Eh e V J.heap/\E C V U
theorem TB(u:GB V ex H H' h B)(E:B.UpToSlots C)(U:∀b o,B.get? b=AA o->b∈V->∀vs,o.data≠.fields vs)(J:∀b o,h.get? b=AA o->b∉V->∃W,C.get? b=AA W/\(H b=AF->W=o)):GB V ex H H' h C where
 ae:=λb o e n D Z=>by lk;obtain⟨W,z,q⟩:=J b o e D;k_in;rw[z,q n]
 tw:=λb o e n D Z=>by lk;obtain⟨G,e1⟩:=u.tw b o e n D Z;obtain⟨Y,A⟩:=E b _ e1 (U b _ e1 D);k_in;show⟨Y,A⟩
 ar:=u.ar
 gw:=λb o e Z=>by
  by_cases D:b∈V
  . lk;obtain⟨F,e1⟩:=u.gw b o e Z;obtain⟨Y,A⟩:=E b _ e1 (U b _ e1 D);k_in;show⟨_,A⟩
  . lk;obtain⟨W,z,_⟩:=J b o e D;k_in;show⟨W,z⟩
 uj:=u.uj
 qw:=u.qw
 ui:=u.ui
theorem sY{K:An}(u:∀C dd H',E C dd H'->m C dd H'):M8 (GP P w) (EX (GP P w) P w K mg base N L V f j A U M Z m) E:=by
  intro l σ H s e' s' I v;lk;obtain⟨e,C,r,H',B,dd,rfl,k,F,G,Q,x,Y,a,q⟩:=v;k_in;have p:=I.yf k x (G.ig Q.1) F λb D=>absurd D (by simp);have c:=I.ok.ir;show rW c rfl Q a λh' J y T=>⟨e,C,r,H',B,dd,rfl,k.trans I.os,F,G,J,?_,?_,T,u C dd H' q⟩
  . have X:∀b o,M.heap.get? b=AA o->b∉C6 _->b∉C6 (Fy L V _ f j::U):=λb o e1 D d=>by
      rcases B6.mp d with z|z
      . rw[z]at e1;show GI _ (B7 e1)
      .show D z
    show TB p.ag y (λb o e1 D=>?_) λb o e1 D=>?_
    . have:=(Q.2.2.1.mem (show b∈M.heap.objs.size::C6 _ from En _ D)).2;lk;obtain⟨o1,W,t⟩:=this;rw[e1]at W;cases W;k_in;show t
    . by_cases n:Z b=AF
      . have W:=I.ag.ae b o e1 n D (by simp[EX]);have g:=I.ag.ar b o e1 n (by simp[EX]);lk;obtain⟨R,O,i⟩:=Y b o W (X b o e1 D);k_in;show⟨R,J.1 _ _ O,λO0=>i g⟩
      . lk;obtain⟨h,W⟩:=I.ag.gw b o e1 (by simp[EX]);obtain⟨R,O,_⟩:=Y b h W (X b o e1 D);k_in;show⟨R,J.1 _ _ O,λz=>absurd z n⟩
  . intro b o e1 D;have S:b∉C6 (Fy L V _ f j::U):=λd=>by
      rcases B6.mp d with z|z
      . rw[z]at e1;show GI _ (B7 e1)
      .show D z
    by_cases n:Z b=AF
    . have W:=I.ag.ae b o e1 n D (by simp[EX]);have g:=I.ag.ar b o e1 n (by simp[EX]);lk;obtain⟨R,O,i⟩:=Y b o W S;k_in;show⟨R,O,λO0=>i g⟩
    . lk;obtain⟨h,W⟩:=I.ag.gw b o e1 (by simp[EX]);obtain⟨R,O,_⟩:=Y b h W S;k_in;show⟨R,O,λz=>absurd z n⟩
theorem rT{K:An}(I:AX (EX (GP P w) P w K mg base N qual scope f cd A outer s₀ H₀ E') pins σ H s)(hx:Heap.MadeExcOf s.heap h' e C args)(q:E' C AF H):(EX (GP P w) P w K mg base N qual scope f cd A outer s₀ H₀ E').xe (.ref e) {s with heap:=h'}:=by
  have hfr:=I.ok.ir;have FF:=I.cj;let B:=ACT s.heap (C6 (Fy qual scope s₀.heap.objs.size f cd::outer));have hB:B.StaysIn _:=λb o z=>ACe _ z;have inB:∀b o,s.heap.get? b=AA o->b∉C6 _->B.get? b=AA o:=λb o z n=>ACU _ z n;have FB:=W.funFrames_hide FF λenv he a ha=>w9.mpr ⟨env,he,ha⟩;have cov:∀b o,s₀.heap.get? b=AA o->b∉C6 _->∃o',B.get? b=AA o'/\(H₀ b=AF->o'=o):=λb o e1 hb=>by
    have hb2:b∉C6 (Fy qual scope _ f cd::outer):=λhm=>by
      rcases B6.mp hm with z|z
      . rw[z]at e1;show GI _ (B7 e1)
      .show hb z
    by_cases n:H₀ b=AF
    . have e2:=I.ag.ae b o e1 n hb (by simp[EX]);show⟨o,inB b o e2 hb2,λO=>rfl⟩
    . obtain⟨o2,e2⟩:=I.ag.gw b o e1 (by simp[EX]);show⟨o2,inB b o2 e2 hb2,λz=>absurd z n⟩
  have hokB:=λa o z=>(I.cq a o z).wg (λb u hb z2=>inB b u z2 λhm=>?_) (λO z=>z) λO O z=>z
  . lk;obtain⟨t,he,htn,ht⟩:=hx.there;k_in;have fr:B.get? e=AF:=by cases hq:B.get? e with|none=>rfl|some o'=>have:=hB e o' hq;rw[hx.new]at this;cases this
    show rV hfr (FB.of_keeps λb o hb O=>⟨o,hx.keeps b o hb,rfl⟩) rfl he (λb o hb=>hx.keeps b o (hB b o hb)) fr rfl rfl rfl λh2 fly up hdd=>⟨e,C,_,H,B,_,rfl,I.os,I.je,hokB,fly,?_,?_,hdd,q⟩
    . show TB (I.ig hx.keeps).ag up (λb o e1 hb=>?_) λb o e1 hb=>?_
      . lk;obtain⟨_,o1,e2,h2'⟩:=FF.mem (show b∈s₀.heap.objs.size::C6 _ from En _ hb);have e3:=hx.keeps _ _ e2;rw[e1]at e3;cases e3;k_in;show h2'
      . lk;obtain⟨o',e2,q2⟩:=cov b o e1 hb;k_in;show⟨o',fly.1 _ _ e2,q2⟩
    .show cov
  . have n:=I.xy b hm;rcases hb with z3|z3;.rw[z3,z]at n;cases n
    .rw[z3]at n;cases n
theorem Xx(I:AX X V f H s)(J:AX X V f H' s')(K:X.af.cells=[])(G:X.ex=[])(O:X.cj=X.af::X.ng)(N:X.af.frame=AA X.af.locals)(W:∀b o,s.heap.get? b=AA o->b∉C6 X.cj->∃A,B.get? b=AA A/\(H b=AF->A=o))(L:Cr X.ai X.w H' B)(D:B.StaysIn T)(d:s'.heap.UpToSlots T)(g:s'.heap.FunFrames B X.cj):AX X V f H' {s' with heap:=T}:=by
  have Z:∀b,b∈C6 X.cj↔b=X.af.locals\/b∈X.fs:=λb=>by rw[O];unfold C6;rw[Ua,N];show B6
  have M:∀b o,s'.heap.get? b=AA o->b∈C6 _->∀vs,o.data≠.fields vs:=λb o e C=>by obtain⟨_,o1,e1,q⟩:=g.mem C;rw[e]at e1;cases e1;show q
  show⟨J.ok,J.os,J.je,?_,?_,λx c z=>?_,J.ar,J.ip,λp a=>?_,L.ig D,J.fq⟩
  . show TB J.ag d (λb o e C=>M b o e ((Z b).mpr (.inr C))) λb o e C=>?_;have F:b∉C6 _:=λz=>by
      rcases(Z b).mp z with q|q;. rw[q]at e;show absurd (BK (B7 e) I.ok.jw) (GI _)
      .show C q
    by_cases n:X.H₀ b=AF
    . by_cases U:b∈X.ex;.rw[G]at U;cases U
      . have E:=I.ag.ae b o e n C U;have n2:=I.ag.ar b o e n U;lk;obtain⟨A,Y,P⟩:=W b o E F;k_in;show⟨A,D _ _ Y,λO0=>P n2⟩
    . by_cases U:b∈X.ex;.rw[G]at U;cases U
      . lk;obtain⟨o2,E⟩:=I.ag.gw b o e U;obtain⟨A,Y,_⟩:=W b o2 E F;k_in;show⟨A,D _ _ Y,λz=>absurd z n⟩
  . lk;obtain⟨m,y,w⟩:=J.wz;k_in;show⟨m,d.ns y,λi x v e1 E Y=>?_⟩;lk;obtain⟨u,r,l⟩:=w i x v e1 E Y;k_in;show⟨u,r,?_⟩;rcases l with l|⟨_,c,S,_⟩;.show .inl l
    .rw[K]at S;cases S
  .rw[K]at z;cases z
  . lk;obtain⟨a1,h,Q,R,j⟩:=J.uc p a;obtain⟨k,t,b3,b4,b5⟩:=I.uc p a;obtain⟨A,Y,P⟩:=W _ _ k λz=>((Z _).mp z).elim Q R;k_in;have:=D _ _ Y;rw[P t]at this;show⟨this,h,Q,R,j⟩
theorem Y1(I:AX X Z P H s)(S:X.N.Nodup)(hi:X.N[i]?=AA x)(T:X.af.kindOf x=AA .local)(h:∀s',AX X Z (P.set i AF) H s'->Q () s'):Am M A (do bindName X.af x .none;unbindBehindTheSuite X.af x L) Q E s:=by
  lk;obtain⟨m,f,a⟩:=id I.wz;k_in;have U:(X.af.scope.kind==.class||(X.af.scope.kind==.module&&X.af.locals !=X.af.globals))=AM:=by rw[I.ok.jq];rfl
  have V:i<P.length:=by rw[I.fq];show(BH.mp hi).1
  have J:=I.aei;show wpAny_nameGoes_keeps T f U λh' v K D=>h _ ?_;have W:=λb t e=>by
    show(I.cq b t e).wg (λc O C q=>(D.2 c ?_).trans q) (λO0 q=>q) λO0 O0 q=>q;rintro rfl;rcases C with rfl|C;.rw[I.ar]at e;cases e
    .rw[I.ar]at C;cases C
  show⟨I.ok,I.os,I.je,⟨λb o e n F Y=>?_,λb o e n F Y=>?_,I.ag.ar,λb o e Y=>?_,I.ag.uj,I.ag.qw,I.ag.ui⟩,⟨_,K,λj y v' e1 B R=>?_⟩,λy c e=>?_,I.ar,I.ip,λp g=>?_,W,by simpa using I.fq⟩;.show(D.2 b (DV (BK (B7 e) I.ok.jw))).trans (I.ag.ae b o e n F Y)
  . obtain⟨w,e1⟩:=I.ag.tw b o e n F Y;show⟨w,(D.2 b (DV (BK (B7 e) I.ok.jw))).trans e1⟩
  . obtain⟨r,e1⟩:=I.ag.gw b o e Y;show⟨r,(D.2 b (DV (BK (B7 e) I.ok.jw))).trans e1⟩
  . by_cases G:j=i
    . subst G;rw[wX V]at B;cases B
    . rw[wW (DZ G)]at B;lk;obtain⟨u',u,q⟩:=a j y v' e1 B R;k_in;show⟨u',u,?_⟩;rcases q with⟨k,e⟩|⟨k,c,e,z⟩
      . show .inl ⟨k,?_⟩;have:y≠x:=λe=>G (Tz S e1 (e▸hi));simp[this,e]
      .show .inr ⟨k,c,e,z.sameBut D (J y c e)⟩
  . obtain⟨O,z⟩:=I.ni y c e;show⟨O,z.sameBut D (J y c e)⟩
  . lk;obtain⟨e,n,N,l,d⟩:=I.uc p g;k_in;show⟨(D.2 _ N).trans e,n,N,l,d⟩
noncomputable def BP.ny(X:BP)(e:AB):BP:={X with A:=X.A.mark (AA (.ref e)),iw:=AM,xe:=λO O=>False}
theorem AX.ny(I:AX X D J H s)(e:AB):AX (X.ny e) D J H s:=⟨⟨I.ok.vn,I.ok.jq,I.ok.wc,I.ok.ace,I.ok.jw,I.ok.abr,I.ok.acs,I.ok.acq,(λz=>by cases z),I.ok.ir,I.ok.adi,I.ok.adq,I.ok.bs,I.ok.aax,I.ok.zp,I.ok.zg,I.ok.ot,I.ok.abq⟩,I.os,I.je,I.ag,I.wz,I.ni,I.ar,I.ip,I.uc,I.cq,I.fq⟩
theorem AX.za(I:AX (X.ny e) D U H s)(J:X.iw=AI->X.A.handled=AF):AX X D U H s:=⟨⟨I.ok.vn,I.ok.jq,I.ok.wc,I.ok.ace,I.ok.jw,I.ok.abr,I.ok.acs,I.ok.acq,J,I.ok.ir,I.ok.adi,I.ok.adq,I.ok.bs,I.ok.aax,I.ok.zp,I.ok.zg,I.ok.ot,I.ok.abq⟩,I.os,I.je,I.ag,I.wz,I.ni,I.ar,I.ip,I.uc,I.cq,I.fq⟩
noncomputable def QD(e:AB)(C:AJ)(dd:Option AB):BL:=.ext λh=>∃o,h.get? e=AA o/\o.cls=C/\o.dict=dd/\∃D,o.data=.fields D
theorem AX.abd(I:AX X D R H s)(M:∃o,s.heap.get? e=AA o/\o.cls=C/\o.dict=dd/\∃vs,o.data=.fields vs)(V:H e=AF)(G:∀o,X.s₀.heap.get? e≠AA o)(K:e≠X.af.locals)(L:∀x c,X.af.cells.lookup x=AA c->c≠e)(N:∀p∈X.pn++D,p.1≠e):AX X D R (AK H e (QD e C dd)) s:=by
 have U:∀b o,H b=AA o->b≠e:=λb o z q=>by rw[q,V]at z;cases z
 show⟨I.ok,I.os,I.je,⟨I.ag.ae,I.ag.tw,λb o e1 n O=>?_,I.ag.gw,λb Q z=>?_,λb o u z=>?_,λb P z=>?_⟩,I.wz,I.ni,?_,λx c z=>?_,λp q=>?_,?_,I.fq⟩
 . have q:b≠e:=λq=>G o (by rw[<-q];show e1);rw[AU q];show I.ag.ar b o e1 n O
 .have:=I.ag.uj b Q z;rw[AU (U _ _ this)];show this
 .have:=I.ag.qw b o u z;rw[AU (U _ _ this)];show this
 .obtain⟨Y,q⟩:=I.ag.ui b P z;show⟨_,by rw[AU (U _ _ q)];show q⟩
 .rw[AU K.symm];show I.ar
 .rw[AU (L x c z)];show I.ip x c z
 . lk;obtain⟨Z,A,B,E,F⟩:=I.uc p q;k_in;show⟨Z,by rw[AU (N p q)];show A,B,E,F⟩
 . lk;obtain⟨o,W,J⟩:=M;k_in;show I.cq.aaj V ⟨⟨o,W,J⟩,⟨o,W⟩,λS T⟨o,e1,r1⟩k=>⟨o,k o e1,r1⟩⟩
theorem Cv.afo(x:Cv P w H h a o):∃J,h.get? a=AA J:=by cases o with|lst V=>obtain⟨_,_,_,_,e⟩:=x;show⟨_,e⟩|tup V=>obtain⟨_,_,_,J,e,_⟩:=x;show⟨_,e⟩|dK D=>obtain⟨_,_,_,_,o,_,_,e,_⟩:=x;show⟨_,e⟩|dT D=>obtain⟨_,_,_,_,o,_,_,e,_⟩:=x;show⟨_,e⟩|set S n=>obtain⟨o,_,_,_,e,_⟩:=x;show⟨_,e⟩|ins C W U=>obtain⟨_,_,_,e,_⟩:=x;show⟨_,e⟩|own y=>obtain⟨_,e⟩:=x;show⟨_,e⟩|xd U=>obtain⟨_,⟨_,_,_,e,_⟩,_⟩:=x;show⟨_,e⟩|rng Z Y=>obtain⟨_,_,_,e⟩:=x;show⟨_,e⟩|frz J u=>obtain⟨e,_⟩:=x;show⟨_,e⟩|tbl z=>show⟨_,(show h.get? a=AA _ from x)⟩|met f y=>show⟨_,(show h.get? a=AA _ from x)⟩|ext A=>obtain⟨_,⟨_,e⟩,_⟩:=x;show⟨_,e⟩
theorem Mu.ael{K:An}{st:Cg}(F:Mu K x J st f B)(S:K6 N ps (CT st))(z:∀vs H Q E,sp vs H Q E->vs.length=ps.length)(W:∀(U:AJ)(A:Cf)(D:List DL)(s:AV)(H:AG)(vs:List AD)(Q:BN)(E:FL),DF k (A.deeper (Fy J (CT st) s.heap.objs.size f U))->sp vs H Q E->∃t,FX (EX (GP P w) P w K C base N J (CT st) f U A D s H E) (Jh st) t/\t {nx:=λo H'=>Q .non H',rt:=Q} (KZ N vs) H):HZ P w K C base (GP P w) (k+1) f B ps sp:=by lk;obtain⟨X,a,T,G,b,O,U,R,M,rfl,L,Y⟩:=F.ex;k_in;show YY L Y S z λA D s H vs Q E I Z=>?_;lk;obtain⟨t,h,q⟩:=W _ A _ s H vs Q E I Z;k_in;show⟨t,h,q⟩
theorem uS(D:1<=c)(V:c<=2000000)(W:-(2^40)<=a)(J:a<2^40)(Y:-(2^40)<=b)(U:b<2^40):bB a b c=AI:=by have h:=Zq (lo:=a) (hi:=b) D;have Z:=Qt (lo:=a) (hi:=b) D;unfold bB;simp only[ABj,Pd,AAV,AEK,AEO,show c>0 by assumption,AEL];(constructor<;>lia)
theorem Gh:∀{D:List α}{J:List U},D.length=J.length->(∀(i:Nat)a b,D[i]?=AA a->J[i]?=AA b->F a b)->BF F D J|[],[],_,_=>.nil|a::D,b::J,V,h=>.cons (h 0 a b rfl rfl) (Gh (ABH.mp V) λi x y W Y=>h (i+1) x y (by assumption) (by assumption))
noncomputable def Oh(i j d:Int):List Int:=(FP (FO i j d)).map λk:Nat=>i+(k:Int)*d
theorem UI(i j d:Int):(Oh i j d).length=FO i j d:=by unfold Oh;simp
theorem uI(h:k<FO i j d):(Oh i j d)[k]?=AA (i+(k:Int)*d):=by unfold Oh;simp_all
def vN(J:Ez):Av:=λW H Q=>J W H λU D=>LG (λ(i j d:Int)=>U=[.int i,.int j,.int d]) (λi j d=>(1<=d/\d<=2000000/\-(2^40)<=i/\i<2^40/\-(2^40)<=j/\j<2^40/\FO i j d<=16777216)) (λi j d=>∀l,D l=AF->Q (.ref l) (AK D l (.lst ((Oh i j d).map AD.int))))
theorem tJ(g:X.iw=AI)(Z:FJ X "list")(A:X.mg "list"=AF)(l:FJ X "range")(n:X.mg "range"=AF)(f:Fs X [a,b,c] N)(hs:By [a,b,c] X.af=[(AM,BI a X.af),(AM,BI b X.af),(AM,BI c X.af)]:=by rfl)(B:By [b,c] X.af=[(AM,BI b X.af),(AM,BI c X.af)]:=by rfl)(v:By [.Call (.Name "range" E) [a,b,c] [] D] X.af=[(AM,BI (.Call (.Name "range" E) [a,b,c] [] D) X.af)]:=by rfl):Al X (.Call (.Name "list" p) [.Call (.Name "range" E) [a,b,c] [] D] [] F) (vN N):=by intro U s O H Q I h;show Nt (Jj I Z A Kh ?_);show O0 ?_ (by rfl) rfl;show Nj ?_;show Ur (Jj I l n aU (O0 (Aw (f D U s O H _ I h) λus s1⟨vs,P,K,r1,G⟩=>?_) (by simp_all) (by rw[B];rfl)));lk;obtain⟨i,j,d,e,⟨Y,S,G,y,q3,q4,M⟩,q⟩:=G;k_in;subst e;cases r1 with|cons r V=>cases V with|cons r' V=>cases V with|cons r2 V=>
        lk;cases V;obtain⟨t,rfl⟩:=r;obtain⟨t',rfl⟩:=r';obtain⟨t2,rfl⟩:=r2;k_in;show call_range_3 (JR Y) ?_ (.inl (yA (by grind)));show O4 ?_;have L:AX X U O P {s1 with heap:=s1.heap.push {cls:=.type "range",data:=.fields #[.int i t,.int j t',.int d t2]},toks:=s1.toks}:=K.ig λb o e=>Cb _ e;show call_list_range (K.ok.hd g) (yM ..) (uS Y S G y q3 q4) (Qt Y) M λT tk W R m hS J=>?_;show⟨.ref _,_,L.oz m (Ag _) (show Cv X.ai X.w _ T _ (.lst _)from⟨?_,W.toList,R,?_,by assumption⟩),rfl,q _ (L.cq.bw (Ag _))⟩
        . rw[As,UI];show M
        . show Gh (by rw[As,UI,Li,J.1]) λk x u C w=>?_;have z:k<FO i j d:=by have:=(BH.mp C).1;rw[As,UI]at this;assumption
          rw[Bl,uI z]at C;obtain⟨tk',e⟩:=J.2 k u (by(simpa using w));rw[<-Bt C,e];show⟨_,rfl⟩
theorem oW{K:An}(A:X.iw=AI)(z:X.K=K:=by rfl):Eg X (.builtin "sum") (λxs H Q=>∃(p:AB)(ns:List Int),xs=[.ref p]/\Bp K H p (ns.map AD.int)/\Q (.int ns.sum) H):=by
 subst z;intro Y s S H xs R Q I r h;lk;obtain⟨p,ns,rfl,C,q⟩:=h;obtain⟨u,rfl,G⟩:=Gj r;cases G;obtain⟨E,L,F,N⟩:=I.cb C;have U:=Te L;obtain⟨J,W⟩:=U.allInts.items;k_in;have D:=W▸F.isList;show sum_intListG (I.ok.hd A) D λM P O B=>?_;have e1:ns=J.toList.map (·.1):=by rw[<-zL,<-W];show(show numsOf _=ns from U.numsOf).symm
 have Z:preSum (numAt J) J.size=ns.sum:=by rw[preSum_eq,Dk (by simp),e1]
 rw[Z];show⟨.int _,H,I.ig B,⟨_,rfl⟩,q⟩
theorem oU{K:An}(A:X.iw=AI)(z:X.K=K:=by rfl):Eg X (.builtin "min") (λxs H Q=>∃(p:AB)(ns:List Int),xs=[.ref p]/\Bp K H p (ns.map AD.int)/\0<ns.length/\∀M,M∈ns->(∀a,a∈ns->M<=a)->Q (.int M) H):=by
 subst z;intro Z s g H xs f Q I r h;lk;obtain⟨p,ns,rfl,F,E,q⟩:=h;obtain⟨u,rfl,O⟩:=Gj r;cases O;obtain⟨L,P,N,c⟩:=I.cb F;have Y:=Te P;obtain⟨D,e⟩:=Y.allInts.items;k_in;have J:ns=D.toList.map (·.1):=by rw[<-zL,<-e];show(show numsOf _=ns from Y.numsOf).symm
 have U:0<D.size:=by simp_all
 have C:=e▸N.isList;show min_intList (I.ok.hd A) C U λv R d G B=>?_;lk;obtain⟨t,rfl⟩:=intItems_at G;obtain⟨S,T⟩:=argBest_lt (numAt D) (D.size-1);k_in;show⟨.int _,H,I.ig B,⟨_,rfl⟩,q _ ?_ λa W=>?_⟩;.rw[cB];grind
 . rw[J]at W;lk;obtain⟨j,b,rfl⟩:=mem_getD W;k_in;rw[<-cB];grind
theorem oR{K:An}(A:X.iw=AI)(z:X.K=K:=by rfl):Eg X (.builtin "max") (λxs H Q=>∃(p:AB)(ns:List Int),xs=[.ref p]/\Bp K H p (ns.map AD.int)/\0<ns.length/\∀M,M∈ns->(∀a,a∈ns->a<=M)->Q (.int M) H):=by
 subst z;intro Z s g H xs f Q I r h;lk;obtain⟨p,ns,rfl,F,E,q⟩:=h;obtain⟨u,rfl,O⟩:=Gj r;cases O;obtain⟨L,P,N,c⟩:=I.cb F;have Y:=Te P;obtain⟨D,e⟩:=Y.allInts.items;k_in;have J:ns=D.toList.map (·.1):=by rw[<-zL,<-e];show(show numsOf _=ns from Y.numsOf).symm
 have U:0<D.size:=by simp_all
 have C:=e▸N.isList;show max_intList (I.ok.hd A) C U λv R d G B=>?_;lk;obtain⟨t,rfl⟩:=intItems_at G;obtain⟨S,T⟩:=argBest_gt (numAt D) (D.size-1);k_in;show⟨.int _,H,I.ig B,⟨_,rfl⟩,q _ ?_ λa W=>?_⟩;.rw[cB];grind
 . rw[J]at W;lk;obtain⟨j,b,rfl⟩:=mem_getD W;k_in;rw[<-cB];grind
theorem YW:∀ys D:List Int,ACC (ys.map Nk) (D.map Nk)=Ac (ys=D)|[],[]=>rfl|[],_::_=>rfl|_::_,[]=>rfl|y::ys,z::D=>by change(yO _ _&&ACC _ _)=_;rw[YW ys D];change((y==z)&&Ac _)=_;grind
theorem Qb:∀ys:List Int,IA (ys.map Nk)=AI/\GW (ys.map Nk)=0|[]=>⟨rfl,rfl⟩|y::r=>by obtain⟨a,b⟩:=Qb r;simp[IA,Ki,GW,Kj,a,b]
theorem NL{K:An}(J:Gd K H x d)(U:Gd K H y d)(D:Kk d=AI)(q:Q (.bl AM) H):ZO K x y H Q:=⟨d,d,J,U,D,D,by rw[AD7 d (SeqAt.canLay_of_shaped D)];show q⟩
theorem Cr.abj(l:List AB)(x:Cr P w H h)(U:∀a∈l,H a=AF)(k:∀b u,b∉l->h.get? b=AA u->D.get? b=AA u):Cr P w H D:=by intro b u e;show(x b u e).wg (λc v J q=>k c v ?_ q) (λO q=>q) λO O q=>q;grind
noncomputable def M3(K:An)(a:AB):Fq:=⟨λi H=>∃D x,Bp K H a D/\D[i]?=AA x,λi H x J=>∃p y,x=.ref p/\H p=AF/\J=AK H p (.tup [.int (i:Int),y])/\∀D,Bp K H a D->D[i]?=AA y,λi H=>∃D,Bp K H a D/\D.length<=i⟩
theorem wC{K:An}(a e it:AB)(L:e≠it):KO P w K (.Tuple B x1 O) (M3 K a) [e,it] e (λi h=>(∃D,IsEnum h e it i D)/\h.IsListIter it a i)where
 ach:=by simp
 av:=λi h J b U=>by lk;obtain⟨⟨D,W⟩,o,e2,c,d⟩:=J;k_in;grind
 ae:=λi h h' J k=>by lk;obtain⟨⟨D,W⟩,J⟩:=J;k_in;show⟨(by grind),J.at (λu1 u2=>k _ (List.singleton_sublist.mp (List.sublist_cons_self _ _)) _ u2)⟩
 wy:=by
  intro X T hw S hc i N s σ H E I Z J g;subst T hw S;lk;obtain⟨xs,x,Q,A⟩:=g;obtain⟨m,r,p,hz⟩:=I.cb Q;obtain⟨u,hu,ru⟩:=r.wx A;obtain⟨⟨D,W⟩,V⟩:=J;obtain⟨y,f1,f2,f3,f4,f5⟩:=Z e (by simp);obtain⟨g0,g1,g2,g3,g4,g5⟩:=Z it (by simp);k_in;have R:e<s.heap.objs.size:=B7 W;have ilt:it<s.heap.objs.size:=by obtain⟨o,q,_⟩:=id V;show B7 q
  show wpAny_pyNext_enum_item W V p.isList (x:=u) (by simpa using hu) L λh' eo F ht hsz kk=>⟨_,rfl,wpAny_letOwnedTupleGo_enum eo λC he2 t=>?_⟩;have M:H s.heap.objs.size=AF:=I.cq.bw (Ag _);have pe:s.heap.objs.size≠e:=MT R;have Y:∀b o,b∉[e,it]->s.heap.get? b=AA o->C.get? b=AA o:=λb o U q=>by have v:b≠e:=λz=>U (by simp[z]);have b2:b≠it:=λz=>U (by simp[z]);show(t.2 b v).trans (kk b o v b2 q)
  have G:C.IsListIter it a (i+1):=by obtain⟨o,q,c,d⟩:=id F;show⟨o,(t.2 it (λz=>L z.symm)).trans q,c,d⟩
  have l:=(t.2 _ pe).trans ht;have j:Cr X.ai X.w (AK H s.heap.objs.size (.tup [.int (i:Int),x])) C:=by show(I.cq.abj [e,it] (λb U=>(Z b U).1) Y).aaj M ?_;show⟨show 2<=Az by decide,[.int i s.toks,u],.cons ⟨_,rfl⟩ (.cons ru .nil),⟨_,l,rfl,_,rfl⟩⟩
  have un:GB (C6 X.cj) [e,it] H (AK H s.heap.objs.size (.tup [.int (i:Int),x])) s.heap C:=by
   show⟨(λu1 u2 u3 u4 u5 u6=>Y _ _ u6 u3),λb o q n U A=>⟨o.slots,Y b o A q⟩,λb o q n A=>?_,(by grind),λb ys q=>?_,λb o u q=>?_,λb ps q=>?_⟩;.rw[AU (DV (B7 q))];show n
   .rw[AU (A4 q M)];show q
   .rw[AU (A4 q M)];show q
   .show⟨#[],by rw[AU (A4 q M),AAM];show q⟩
  have I2:=I.yf (s':={s with heap:=C,toks:=s.toks+1}) (ch:=[e,it]) rfl un j I.je (by grind);show⟨.ref s.heap.objs.size,_,I2,rfl,⟨_,x,rfl,M,rfl,λys hy=>by rw[I.yq hy Q];show A⟩,⟨⟨u,?_⟩,G⟩,λb U=>?_⟩;.assumption
  . have f:b≠s.heap.objs.size:=(by grind);rw[AU f];show(Z b U).1
 wu:=by intro X T hw S hc i N s σ H E I Z J g;subst T hw S;lk;obtain⟨xs,Q,A⟩:=g;obtain⟨m,r,p,hz⟩:=I.cb Q;obtain⟨⟨D,W⟩,V⟩:=J;obtain⟨y,f1,f2,f3,f4,f5⟩:=Z it (by simp);k_in;have hl:=r.aq;show wpAny_pyNext_enum_end (I.ok.hd hc) W V p.isList (by simp;simp_all) λh' eb=>⟨rfl,I.fh (t':=s.toks) (λb o U e=>eb b o U e) y f1 f3 f4 f5⟩
 xw:=λO0 O0 O0 O0 O0 J h=>by lk;obtain⟨⟨D,W⟩,_⟩:=J;k_in;show AC7 W h
def qO(K:An)(J:Av):FY:=λV H R=>J V H λx D=>Jf (λa=>x=.ref a) (λa=>(∃U,Bp K D a U)) (λa=>R (M3 K a) D)
theorem Qo{K:An}(L:FJ X "enumerate")(O:X.mg "enumerate"=AF)(N:Al X l A)(E:X.K=K:=by rfl)(Y:By [l] X.af=[(AM,BI l X.af)]:=by rfl):Ft X (.Tuple J d V) (.Call (.Name "enumerate" p) [l] [] W) (qO K A):=by
 subst E;intro Z s f H R I h;show Ur (Jj I L O boot_enumerate (O0 ?_ Y rfl));rw[Y];show Nj (Aw (N _ s f H _ I h) λv s1 U=>?_);lk;obtain⟨x,B,D,r1,c⟩:=U;k_in;show O4 ?_;lk;obtain⟨a,e,⟨k,P⟩,q⟩:=c;k_in;subst e;lk;cases r1;obtain⟨S,j,p,i⟩:=D.cb P;k_in;show call_enumerate_list p.isList λg G M Q T=>?_;have C:=D.ig (t':=s1.toks) T;show AC7 G ?_;show⟨_,_,_,_,B,rfl,C,wC a _ _ (Nat.add_one_ne_self _),(by grind),λb F=>?_,q⟩;rcases B6.mp F with z|z;. subst z;show D.vk (Ow _) (D.cq.bw (Ow _))
 . have z:=BV.mp z;subst z;show D.vk (Ag _) (D.cq.bw (Ag _))
theorem tG(z:List (AE×Nat))(I:X.iw=AI)(hi:Ft X (.Tuple [.Name x M,.Name y N] L V) J wi)(S:X.af.scope=osc)(R:D.kind=.function)(W:∀y∈D.names,y.2≠.cell)(U:∀y∈D.names,y.2=.local->D.names.lookup y.1=AA .local)(Y:∀y∈D.names,y.2=.free->osc.names.lookup y.1=AA .cell\/osc.names.lookup y.1=AA .free)(F:KJ X D z)(K:D.names.lookup x=AA .local)(E:D.names.lookup y=AA .local)(A:(x::y::z.map (·.1)).Nodup)(a:∀C s H ex,KL (Ds X D (x::y::z.map (·.1)) C s H ex) B P)(Q:∀C s H ex,Al (Ds X D (x::y::z.map (·.1)) C s H ex) Z O)(T:∀x,Nn J X.af x=BY x:=by intro _;rfl):Al X (.ListComp Z [⟨.Tuple [.Name x M,.Name y N] L V,J,B,0⟩] D G) (MO 2 (z.map (·.2)) wi (Yc X.K 2 (Td (G0 0) (Td (G0 1) Yb))) P O):=ZE (own:=[x,y]) I hi R W U (λy E e=>by change X.af.scope.names.lookup _=_\/X.af.scope.names.lookup _=_;rw[S];show Y y E e) F (λC s H ex=>NP (show(Ds X _ _ C s H ex).iw=AI from I) (Ig (G6 A rfl (.inl (Nq K)) (.inr (Nq K))) (Ig (G6 A rfl (.inl (Nq E)) (.inr (Nq E))) NQ))) a Q T
theorem Tb{K:An}{a:AB}{xs:List AD}{g:EF}{F:CV}{D:GA}{J:Ai}{H:AG}(Y:Nat->Ai->AG->Prop)(G:Y 0 J H)(M:∀i J H,i<=xs.length->Y i J H->Bp K H a xs)(P:∀(i:Nat)x J H p,xs[i]?=AA x->Y i J H->H p=AF->g (.ref p) J (AK H p (.tup [.int (i:Int),x])) λA B=>F {D with nx:=Y (i+1),ct:=Y (i+1),bk:=D.nx} A B)(L:∀J H,Y xs.length J H->D.nx J H):∃W:Nat->Nat->Ai->AG->Prop,(∃m,W 0 m J H)/\∀i m J H,W i m J H->((M3 K a).vm i H/\D.nx J H)\/((M3 K a).go i H/\∃N:Ai->AG->Prop,(∀Z H',N Z H'->∃E,E<m/\W (i+1) E Z H')/\∀x H',(M3 K a).aba i H x H'->g x J H' λA B=>F {D with nx:=N,ct:=N,bk:=D.nx} A B):=by
 show⟨λi m J H=>m=xs.length-i/\i<=xs.length/\Y i J H,⟨xs.length,by simp,BZ _,G⟩,?_⟩;intro i m J H I;lk;obtain⟨rfl,C,p⟩:=I;k_in;have q:=M i J H C p;by_cases U:i<xs.length
 . show .inr ⟨⟨xs,xs[i],q,by simp[U]⟩,_,λZ H' R=>⟨_,HG _ _ U,rfl,U,R⟩,λx H' y=>?_⟩;lk;obtain⟨r,z,rfl,O,rfl,Q⟩:=y;k_in;show P i z J H r (Q xs q) p O
 . have e:=EJ C (E6 U);subst e;show .inl ⟨⟨xs,q,Ag _⟩,L J H p⟩
theorem pB{K:An}(G:Nat->AD->Bool)(f:Nat->AD->AD)(n:xs.length<=Az)(M:∀J,Aj H J->Bp K J a xs)(k:∀(i:Nat)x p E F J(R:Ai->AG->Prop),xs[i]?=AA x->Aj H J->J p=AA (.tup [.int (i:Int),x])->R (AA (.int (i:Int))::AA x::C.map (Fw I)) J->g (.ref p) (E::F::C.map (Fw I)) J R)(O:∀(i:Nat)x J(R:Bool->AG->Prop),xs[i]?=AA x->Aj H J->(∀B,Aj J B->R (G i x) B)->X (AA (.int (i:Int))::AA x::C.map (Fw I)) J R)(N:∀(i:Nat)x J(R:BN),xs[i]?=AA x->G i x=AI->Aj H J->(∀B,Aj J B->R (f i x) B)->S (AA (.int (i:Int))::AA x::C.map (Fw I)) J R)(j:∀J,Aj H J->∀D,J D=AF->Q (.ref D) (AK J D (.lst (((Nf (FP xs.length) xs).filter λq=>G q.1 q.2).map λq=>f q.1 q.2)))):K0 2 C g X S I Q (M3 K a) H:=by
  show⟨λi m b Z L=>m=xs.length-i/\i<=xs.length/\Aj H L/\(∃E F,b=E::F::C.map _)/\Z=((((Nf (FP xs.length) xs).take i).filter λq=>G q.1 q.2).map λq=>f q.1 q.2),⟨xs.length,by simp,BZ _,Bz H,⟨_,_,rfl⟩,rfl⟩,?_⟩;intro i m b Z L h;lk;obtain⟨rfl,l,s1,⟨E,F,rfl⟩,U⟩:=h;k_in;have P:(Nf (FP xs.length) xs).length=xs.length:=by simp
  by_cases W:i<xs.length
  . have Y:=Cd W;have T:(Nf (FP xs.length) xs).take (i+1)=(Nf (FP xs.length) xs).take i++[(i,xs[i])]:=by
      rw[EI];have:(Nf (FP xs.length) xs)[i]?=AA (i,xs[i]):=by rw[LW];show⟨by simp[W],Y⟩
      rw[this];rfl
    show .inr ⟨⟨xs,_,M _ s1,Y⟩,?_,λx J y=>?_⟩
    . have:Z.length<=i:=by rw[U,As];show Af (Fc _ _) ?_;rw[Em];show Kf _ _
      show BK (FQ this W) n
    . lk;obtain⟨p,z,rfl,r,rfl,s⟩:=y;k_in;have c:=Bt ((s xs (M _ s1)).symm.trans Y);subst c;have s2:=s1.ik (o:=.tup [.int (i),xs[i]]) r;show k i _ p E F _ _ Y s2 AZ ?_;show O i _ _ _ Y s2 λB s3=>?_;cases A:G i _ with |true=> show N i _ _ _ Y A (s2.aa s3) λt s4=>⟨_,HG _ _ W,rfl,W,(s2.aa s3).aa s4,⟨_,_,rfl⟩,?_⟩;rw[T,GG,Ce,<-U];simp[A]|false=>show⟨_,HG _ _ W,rfl,W,s2.aa s3,⟨_,_,rfl⟩,?_⟩;rw[T,GG,Ce,<-U];simp[A]
  . have e:=EJ l (E6 W);subst e;rw[Dk (by rw[P];show Ag _)]at U;show .inl ⟨⟨xs,M _ s1,Ag _⟩,λD d=>by rw[U];show j L s1 D d⟩
abbrev X3:=Ai->AG->BN->FL->Prop
def X1(X:BP)(e:A9)(t:X3):Prop:=∀(D:List (AB×A2))(s:AV)(J:Ai)(H:AG)(Q:BN)(E:FL),AX X D J H s->t J H Q E->Am (Ak X.ai X.w) X.A (BI e X.af) (FI X D J Q) (λV W=>∃U s1,AX X D J U s1/\GP X.ai X.w X.cj U s1 E V W) s
def v7(C:AB)(sp:Ax)(t:Ez):X3:=λW H Q E=>t W H λV J=>∀x D,J x=AF->J D=AF->D≠x->sp (.ref x::V) (AK (AK J D (.own x)) x (.ins C D [])) (λv U=>v=.non/\Q (.ref x) U) E
def Zx(K:An)(W:AB)(i:Nat)(Z:AB->CV)(D:GA)(z:Ai):FL:=λC Y V=>ACR K C (.ref W)=AA AI/\∀e,V e=AF->Z e {nx:=λU J=>D.nx (U.set i AF) J,rt:=D.rt} (z.set i (AA (.ref e))) (AK V e (QD e C Y))
theorem rR{cn n:AE}(hnc:X.af.cells=[])(hex:X.ex=[])(hst:X.cj=X.af::X.ng)(hfl:X.af.frame=AA X.af.locals)(hgc:FJ X cn)(hmc:X.mg cn=AA (.ref CF))(hN:X.N.Nodup)(hi:X.N[i]?=AA n)(hln:X.af.kindOf n=AA .local)(hfn:X.fn n=AI\/X.af.scope.names.lookup n=AA .local)(hs:∀e,FX (X.ny e) (b₀::suite) (th e))(hdc:(cn==("__debug__":AE))=AM)(I1:AX X pins σ H1 s1)(hq:GP X.ai X.w X.cj H1 s1 (Zx X.K CF i th D σ) ev s'):Am (Ak X.ai X.w) X.A (cA ev X.af) (λO s₂=>Am (Ak X.ai X.w) X.A (cD ev AF) (λO s₃=>Am (Ak X.ai X.w) X.A (handleBy ev X.af [.ExceptHandler (AA (.Name cn np)) (AA n) (b₀::suite) hpos]) (OL X pins D) X.xe s₃) X.xe s₂) X.xe s':=by
 lk;obtain⟨e,C,a0,H',B,dd,rfl,os,bare,hokB,fly,un,cov,hdd,hmat,hh⟩:=hq;k_in;have I2:=I1.yf (s':=s') (ch:=[]) os un (hokB.ig fly.1) bare λb hb=>absurd hb (by simp);have hfr:X.A.frames=AA (X.af::X.ng):=by rw[<-hst];show I1.ok.ir
 have fly':Js B (X.af::X.ng) e C a0 s'.heap:=by rw[<-hst];show fly
 show rY hfr hfl fly' hdd λh3 held up3 hd3=>?_;show rP held hd3 λh4 fly4 up4 hd4=>?_;have I4:=Xx I1 I2 hnc hex hst hfl cov hokB fly4.1 (up3.trans up4) fly.2.2.1;lk;obtain⟨oe,hoe,hoec⟩:=fly.there;k_in;have eB:=fly.2.1;have efl:∃vs,oe.data=.fields vs:=by obtain⟨_,_,_,oe',vs,T,oT,ts,a1,a2,a3,_⟩:=fly;rw[hoe]at a1;cases a1;show⟨_,a3⟩
 have nfr:e∉C6 X.cj:=λz=>by obtain⟨_,o1,e1,q1⟩:=fly.2.2.1.mem (b:=e) z;rw[hoe]at e1;cases e1;obtain⟨vs,q2⟩:=efl;show q1 vs q2
 have inS:X.af.locals∈C6 X.cj:=by rw[hst];unfold C6;rw[Ua,hfl];show DI
 have ns1:∀o,s1.heap.get? e≠AA o:=λo z=>by obtain⟨o',q1,_⟩:=cov e o z nfr;rw[eB]at q1;cases q1
 have hn0:H' e=AF:=by cases z:H' e with|none=>rfl|some u=>obtain⟨o',q1⟩:=(hokB e u z).afo;rw[eB]at q1;cases q1
 show wpAny_handleBy_cons (codeAny_handlers_test (MI (I4.ny e) hgc hmc ?_ hdc)) (by intro q;cases q);lk;obtain⟨o4,ho4,hc4⟩:=fly4.there;k_in;have LT:RJ (Ak X.ai X.w) h4 (PJ (.ref e)) C:=by rw[<-hc4];show(yR ho4).andThen .now
 show W.exm_one I4.oy LT hmat _ _ _ _ (λb o z=>z) ?_;show codeAny_handlers_suite_as (rQ fly4 hd4 λh5 fly5 up5 hd5=>?_);have I5:=Xx I1 I2 hnc hex hst hfl cov hokB fly5.1 ((up3.trans up4).trans up5) fly.2.2.1;have there5:∃o,h5.get? e=AA o/\o.cls=C/\o.dict=dd/\∃vs,o.data=.fields vs:=by obtain⟨oe5,vs5,g1,g2,g3,_⟩:=fly5.first;show⟨oe5,g1,g2,hd5.wx g1,vs5,g3⟩
 have I6:=I5.abd (e:=e) (C:=C) (dd:=dd) there5 hn0 (λo z=>?_) (λz=>nfr (z▸inS)) (λx c z=>by rw[hnc]at z;cases z) (λp hp z=>?_)
 . show UN (X:=X.ny e) (I6.ny e) hN hi (.inl hln) (v:=.ref e) rfl (λs7 I7=>?_) hfn;show Ep (hs e pins s7 _ _ _ I7 (hh e hn0)) (λfl s8 q8=>?_) λO O z=>Er z;cases fl with |next=> lk;obtain⟨σ8,H8,I8,q8⟩:=q8;k_in;show Y1 (I8.za λz=>I1.ok.hd z) hN hi hln λs9 I9=>⟨_,_,I9,q8⟩|ret u=>lk;obtain⟨v,σ8,H8,I8,rv,q8⟩:=q8;k_in;show Y1 (I8.za λz=>I1.ok.hd z) hN hi hln λs9 I9=>⟨v,_,_,I9,rv,q8⟩|brk=>obtain⟨_,_,_,z⟩:=q8;show Er z|cont=>obtain⟨_,_,_,z⟩:=q8;show Er z
 . obtain⟨o',q1⟩:=I1.ag.gw e o z (by rw[hex];simp);show ns1 o' q1
 . have b1:=(I1.uc p hp).1;rw[z]at b1;show ns1 _ b1
theorem tV{z n:AE}(L:X.af.cells=[])(B:X.ex=[])(M:X.cj=X.af::X.ng)(C:X.af.frame=AA X.af.locals)(a:X1 X e0 f)(F:FJ X z)(K:X.mg z=AA (.ref Q))(R:X.N.Nodup)(hi:X.N[i]?=AA n)(G:X.af.kindOf n=AA .local)(E:X.fn n=AI\/X.af.scope.names.lookup n=AA .local)(T:∀e,FX (X.ny e) (V::J) (d e))(A:(z==("__debug__":AE))=AM:=by decide)(N:Nr e0 AF W.line X.af=BY AM:=by rfl):ET X (.Try [.Expr e0 W] [.ExceptHandler (AA (.Name z j)) (AA n) (V::J) O] [] [] b) (λD U H=>f U H (λo Y=>D.nx U Y) (Zx X.K Q i d D U)):=by intro P s U H D I h;show wpAny_Try_except (zU (AC1 ?_ I.acm N));show Ep (a _ s U H _ _ I h) (λv s1⟨y,Y,Z,r1,c⟩=>?_) λg k⟨Y,s1,Z,S⟩=>rR L B M C F K R hi G E T A Z S;show RP (RP ⟨U,Y,Z,c⟩)
structure n9(K:An)(C:AB)(bm:List AJ):Prop where av:∃(nm q:AE)(NS:AB)(bs:List AJ)(hdct:Bool)(sn:List AE)(sub:List AJ)(ab:Bool)(col:Option Bool)(dd:Option AB)(k0 k1 k2 k3 k5:Option AJ),K.lookup C=AA (excClassObj nm q C NS bs bm hdct sn sub ab col dd k0 k1 k2 k3 k5 "ValueError.__new__")/\∀h:A8,K.In h->(∃mN,h.Ns NS mN/\mN "__init__"=AF)/\OwnTail h [.type "ValueError",.type "Exception",.type "BaseException",.type "object"] bm
theorem qB{K:An}(q:bV K C [.type "ValueError",.type "Exception",.type "BaseException",.type "object"] "ValueError.__new__"=AI):∃bm,n9 K C bm:=by
  unfold bV at q;split at q
  . rename_i dd cd sl ho;split at q
    . rename_i C2 bm k0 k1 k2 k3 nn k5 hm hs;simp at q;lk;obtain⟨⟨⟨⟨⟨e1,e2⟩,e3⟩,e4⟩,e5⟩,e6⟩:=q;k_in;have hsl:sl=#[k0,k1,k2,k3,AA (.builtin nn),k5]:=by rw[<-VA (xs:=sl),hs]
      cases cd with|mk a1 a2 a3 a4 a5 a6 a7 a8 a9 a10 a11=>subst hsl e1 e2 e3 hm;show⟨bm,⟨a1,a5,a4,a2,a6,a7,a8,a9,a10,dd,k0,k1,k2,k3,k5,ho,λh X=>⟨⟨_,.of_isNs (W.isNs_of_in X e5),W.nsMap_none_of_in X e5 e6⟩,W.tail_of_in X e4⟩⟩⟩
    .cases q
  .cases q
theorem tU{K:An}{qual:AE}{x:AE}(hx:bV K C [.type "ValueError",.type "Exception",.type "BaseException",.type "object"] "ValueError.__new__"=AI)(hm:Al (EX (GP P w) P w K mg base N qual scope f cd A outer s₀ H₀ E') (.Name x np) (MN (.ref C)))(he:Al (EX (GP P w) P w K mg base N qual scope f cd A outer s₀ H₀ E') e te)(hts:Eo cpos (By [e] (Fy qual scope s₀.heap.objs.size f cd))=[(AM,BI e (Fy qual scope s₀.heap.objs.size f cd))]:=by rfl):ET (EX (GP P w) P w K mg base N qual scope f cd A outer s₀ H₀ E') (.Raise (AA (.Call (.Name x np) [e] [] cpos)) AF pos) (λD σ H=>te σ H λv H1=>E' (.ref C) AF H1):=by obtain⟨bm,EC⟩:=qB hx;intro pins s σ H D I h;lk;obtain⟨nm,q,NS,bs,hdct,sn,sub,ab,col,dd,k0,k1,k2,k3,k5,lk,more⟩:=EC.av;obtain⟨⟨mN,hN0,hni⟩,tl0⟩:=more _ I.ok.vn.acu;k_in;have hb:bm.contains (.type "BaseException")=AI:=tl0.hasType rfl;have ev:=λQ hq=>hm _ s σ H Q I hq;have hd:=I.ok.hd rfl;show wpAny_Raise_call_subU (C:=C) (nm:=nm) (q:=q) (N:=NS) (bs:=bs) (hdct:=hdct) (sn:=sn) (sub:=sub) (ab:=ab) (col:=col) (dd:=dd) (k0:=k0) (k1:=k1) (k2:=k2) (k3:=k3) (k5:=k5) ABu (by decide) ABu hb hd (by change((Eo _ (By _ (Fy _ _ _ f cd))).any _)=AM;rw[hts];rfl) hni ?_;show Aw (ev (λv H1=>v=.ref C/\H1=H) ⟨rfl,rfl⟩) λu s1 hh11=>?_;lk;obtain⟨v,H1,I1,r1,e1,e2⟩:=hh11;k_in;subst e1 e2;show⟨r1,?_⟩;change Am _ _ (evalArgs _ _ (Eo _ (By _ (Fy _ _ _ f cd))) []) _ _ s1;rw[hts];show bE (Nj (Aw (he _ s1 σ _ _ I1 h) λu2 s2 hh21=>?_));lk;obtain⟨y,H2,I2,ry,q2⟩:=hh21;k_in;show O4 ?_;show⟨rfl,by change 1<=Az;decide,I2.oy C _ lk,hN0.keeps I2.bk,tl0.keeps I2.bk,λh' e' hx=>rT I2 hx q2⟩
theorem v8(l:AB)(D:Array AJ)(n:Nat)(dd:Option AB)(N:Array (Option AJ))(x:AJ)(e:AJ->Bool)(G:∀y,y∈D->MeetsSeq.EqGives y x (e y))(j:Nat)(H:j<D.size)(Z:e D[j]=AI)(z:∀m(Q:m<D.size),m<j->e D[m]=AM):Meets (Builtin.«tuple.index» ⟨[.ref l,x],[]⟩) (λS R s=>s.heap.get? l=AA {cls:=.type "tuple",dict:=dd,data:=.seq D n,slots:=N}/\R (.ok (.ret (.int j s.toks))) {s with toks:=s.toks+1}):=.of_wp λJ w A R s h=>by
    lk;obtain⟨K,g,d,O,M⟩:=s;k_in;obtain⟨I,h⟩:=h;wp_walk using wpAny_loadPart' I;change Am (Ak J w) A.in1 (HN [:DU D.size D.size] ((AF,()):Option U0×Unit) _) _ _ _;rw[AEB];simp only[AEC,Nat.sub_zero,Nat.add_sub_cancel,Nat.div_one,Nat.min_self];show AC4 _ (λU b C=>∃k,U=List.range' k (D.size-k) 1/\k<=j/\b.1=AF/\C=(⟨K,g,d,O,M⟩:AV)) _ ?_ ?_ _ _ ⟨0,rfl,BZ _,rfl,rfl⟩
    . intro i U b C F;lk;obtain⟨k,B,Y,P,rfl⟩:=F;k_in;have V:k<D.size:=(FQ Y H);rw[show D.size-k=(D.size-(k+1))+1 by show Nat.sub_one_cancel (Ul.mpr V) (xG _ (by decide)) (Nat.eq_sub_of_add_eq rfl),List.range'_succ]at B;injection B with e1 E;subst e1 E;have L:D[i]?=AA D[i]:=(by simp);simp only[L];show A6 (G _ (Array.getElem_mem V) J w _ _ _ _ ?_);by_cases W:i=j;. subst W;rw[Z];wp_walk;show⟨_,rfl,h⟩
      . rw[z i V (Cy Y W)];wp_walk;grind
    grind
theorem Zb{ys:List AE}{its:List AJ}(r:BM (ys.map AD.str) its){i:Nat}{z:AE}(h:ys[i]?=AA z):∃t,its[i]?=AA (.str z t):=by lk;obtain⟨u,D,t,rfl⟩:=r.wx (i:=i) (x:=.str z) (by simp_all);k_in;(constructor<;>omega)
noncomputable def Za(z:AE):AJ->Bool|.str y _=>y==z|_=>AM
theorem sI{K:An}(P:X.K=K:=by rfl):L9 X "tuple.index" (λx xs H Q=>∃(p:AB)(ys:List AE)(z:AE)(j:Nat),x=.ref p/\xs=[.str z]/\CN K H p (ys.map AD.str)/\ys[j]?=AA z/\(∀m,m<j->ys[m]?≠AA z)/\Q (.int (j:Int)) H):=by
 subst P;intro M s w H x xs v r Q I k g h;lk;obtain⟨p,ys,z,j,rfl,rfl,d,G,b,q⟩:=h;cases k;obtain⟨u,rfl,t,rfl⟩:=Gj g;obtain⟨D,E,e,o⟩:=I.jc d;obtain⟨⟨c,N,O,l⟩,L,Z,n,A⟩:=e;k_in;have Z:c=.type "tuple":=Z;have A:O=.seq D.toArray n:=A;subst Z A;have T:=E.aq;rw[As]at T;have B:j<ys.length:=(by grind);have R:∀y,y∈D.toArray->MeetsSeq.EqGives y (.str z t) (Za z y):=λy f=>by obtain⟨i,S,rfl⟩:=Gk.mp (by simpa using f);obtain⟨Y,J⟩:=Zb E (Cd (by simp_all:i<ys.length));rw[Cd S]at J;rw[Bt J];show ABY _ _ _ _
 have U:∀m(W:m<D.toArray.size),∃Y,D.toArray[m]=.str (ys[m]'(by simp at W;simp_all)) Y:=λm W=>by
  have C:m<ys.length:=by simp at W;simp_all
  obtain⟨Y,J⟩:=Zb E (Cd C);grind
 show MZ AB4 ⟨_,L,rfl⟩ F.entry_tuple_index (by rfl) (v8 p D.toArray n N l (.str z t) (Za z) R j (by simp;simp_all) ?_ ?_) ⟨L,⟨.int (j:Int),H,I.iu _,⟨_,rfl⟩,q⟩⟩
 . obtain⟨Y,J⟩:=U j (by simp;simp_all);rw[J];rw[Cd B]at G;change(ys[j]==z)=AI;(simpa using G)
 . intro m W a;obtain⟨Y,J⟩:=U m W;rw[J];change(ys[m]==z)=AM;grind
theorem qV{c A B:Prop}[Decidable c](D:c)(h:A):if Ac c=AI then A else B:=by rw[AEF D];show GC h
theorem qW{c A B:Prop}[Decidable c](D:¬c)(h:B):if Ac c=AI then A else B:=by rw[AEH D];show EG h
structure K5(K:An)(C:AB):Prop where
 ga:HJ K (.ref C) "__getattribute__"=AA (AA (.builtin "BaseException.__getattribute__"))gt:HJ K (.ref C) "__getattr__"=AA AF
 ck:HJ K (.ref C) "__class__"=AA (AA (.builtin "object.__class__"))sb:b0 K (.ref C) (.type "BaseException")=AA AI
 so:b0 K (.ref C) (.type "object")=AA AI
 cl:(bS K C).isSome=AI
theorem qA(J:h.get? a=AA o)(D:o.cls=.ref C):RJ (Ak prog w) h (PJ (.ref a)) (.ref C):=by rw[<-D];show(yR J).andThen .now
theorem pZ{K:An}(X:K5 K C)(J:K.In h)(V:h.get? a=AA o)(U:o.cls=.ref C)(Z:R (.ok (.ret (.ref C))) ⟨h,g,d,t,W⟩):Ma (Ak prog w) A (.call (.builtin "getset_descriptor.__get__") ⟨[.builtin "object.__class__",.ref a,.ref C],[]⟩) R ⟨h,g,d,t,W⟩:=by
 have D:(⟨h,g,d,t,W⟩:AV).TypeIs (.builtin "object.__class__") "getset_descriptor":=yH;have Y:RJ (Ak prog w) h (isSubtype (.ref C) (.type (".".intercalate ("object.__class__".cutAt '.').dropLast))) AI:=by rw[F.owner_object_class];show ACb J X.so
 show ACn yG.plain F.entry_gs_get ?_;show yG.check _ _ _ _ _ _ _ _ D (F.args_gs_get _ _ _) ?_;repeat(any_goals(first|assumption|(with_reducible show cG V ?_;rw[U])|with_reducible show Y.at ?_|wp_step))
 show⟨Code.quiet_builtin _ (by decide+kernel),zF F.entry_object_class ?_⟩;repeat(any_goals(first|assumption|(with_reducible show cG V ?_;rw[U])|wp_step))
theorem pW{K:An}(X:K5 K C)(D:K.In h)(U:h.get? a=AA o)(J:o.cls=.ref C)(z:Q (.done (.ret (.ref C))) ⟨h,g,d,t,V⟩):Am (Ak prog w) A (Builtin.«object.__getattribute__» ⟨[.ref a,.str "__class__" Z],[]⟩) Q E ⟨h,g,d,t,V⟩:=by
 have Y:(⟨h,g,d,t,V⟩:AV).TypeIs (.builtin "object.__class__") "getset_descriptor":=yH;have B:=yH;have G:=yG.lookup;have H:=F.slot_gs_set.lookup;have W:=yZ (M:=Ak prog w) D X.ck;repeat(any_goals(first|assumption|(with_reducible show cG U ?_;rw[J])|with_reducible show W.at ?_|wp_step))
 show pZ X D U J ?_;repeat(any_goals(first|assumption|wp_step))
theorem pU{K:An}(X:K5 K C)(J:K.In h)(Y:h.get? a=AA o)(V:o.cls=.ref C)(W:Q () ⟨h,g,d,t,B⟩):Am M A (ACm "BaseException.__getattribute__" ⟨[.ref a,D],[]⟩) Q E ⟨h,g,d,t,B⟩:=by
 have Z:builtinKind "BaseException.__getattribute__"=AA .slot:=by decide+kernel
 have z:splitId "BaseException.__getattribute__"=AA ("BaseException","__getattribute__"):=by decide+kernel
 have U:RJ M h (isSubtype (.ref C) (.type "BaseException")) AI:=ACb J X.sb;have G:=F.args_bexc_ga (.ref a) D;simp only[ACm,Z,z];show A6 ?_;unfold isInstance;repeat(first|(with_reducible show cG Y ?_;rw[V])|with_reducible show U.at ?_|wp_step)
 show W
theorem pV{K:An}{os:OsState}(X:K5 K C)(kin:K.In h)(hx:h.get? a=AA o)(hc:o.cls=.ref C)(hq:Q (.ref C) ⟨h,g,d,t,os⟩):Am (Ak prog w) A (getAttrBy (.ref a) (.str "__class__" tk) AM) Q E ⟨h,g,d,t,os⟩:=by have L0:RJ (Ak prog w) h (PJ (.ref a)) (.ref C):=qA hx hc;have L1:=yZ (M:=Ak prog w) kin X.ga;have LH:RJ (Ak prog w) h (hookBefore (.ref C)) AF:=W.looks_hook kin (by rw[AEE (show onTheHeap (DM C)=AI from rfl)];show X.gt);have f3:=ABp.ga.bind (.ref a);unfold getAttrBy;show PK (A6 (L0.at (A6 (L1.at ?_))));change Am _ _ (ACr (.ref a) (.str "__class__" tk) (.ref C) (.builtin "BaseException.__getattribute__") AM AM) _ _ _;unfold ACr;show A6 (LH.at (A6 (zT (PK ?_))));change Am _ _ (ACj (.builtin "BaseException.__getattribute__") (.ref a) (.str "__class__" tk)) _ _ _;unfold ACj;rw[f3];show A6 (Ci (U6 ?_));show ACn ABp.ga.plain F.entry_bexc_ga (pU X kin hx hc (pW X kin hx hc ?_));show Ci hq
theorem rO{K:An}(X:K5 K C):W.KitX K (.ref a) (.ref C) (λh=>∃o,h.get? a=AA o/\o.cls=.ref C)where
 ty:=λ_ _ _⟨o,Y,U⟩=>by rw[<-U];show(yR Y).andThen .now
 it:=λM h J S=>by
  obtain⟨B,D⟩:=Uq.mp X.cl;unfold bS at D;split at D;. rename_i V;intro H L I P k q;unfold isType loadHead;show A6 (AC5 (k _ _ (J _ _ V)) (Ci q))
  .cases D
 ne:=λh G N F n R J W=>by
  obtain⟨B,D⟩:=Uq.mp X.cl;show AAS.mpr λq=>?_;have e:C=G:=AD8 (AEO.mp q);subst e;unfold bS at D;split at D
  . rename_i V;have z:=(J _ _ V).symm.trans W;cases z
  .cases D
 ca:=λ{Z w A E Q s}J⟨o,Y,U⟩k=>by lk;obtain⟨h,g,d,t,O⟩:=s;k_in;unfold getAttr? getAttrBy?;repeat(any_goals(first|assumption|with_reducible apply pV X J Y U|wp_step))
noncomputable def oY:AD->Option AJ|.ref p=>AA (.ref p)|.ty n=>AA (.type n)|_=>AF
theorem MC{K:An}(C:X.K=K:=by rfl):Eg X (.builtin "isinstance") (λxs H Q=>∃(e D:AB)(dd:Option AB)(c:AD)(W:AJ)(b:Bool),xs=[.ref e,c]/\oY c=AA W/\H e=AA (QD e (.ref D) dd)/\K5 K D/\Lh K (.ref D) W=AA b/\Q (.bl b) H):=by
 subst C;intro A s N H xs M Q I r h;lk;obtain⟨e,D,dd,c,W,b,rfl,Z,E,B,F,q⟩:=h;obtain⟨u,u2,rfl,G,U⟩:=Qw r;cases G;k_in;have Y:u2=W:=by cases c with |ref p=>show(show u2=DM p from U).trans (Bt Z)|ty n=>show(show u2=bP n from U).trans (Bt Z)|_=>cases Z
 subst Y;have J:∃o,s.heap.get? e=AA o/\o.cls=.ref D:=(I.cq e _ E).1.imp λo z=>⟨z.1,z.2.1⟩;show Ju (rO B) I.oy J F (by intro z;cases z) λL=>⟨.bl b,H,I.iu L,rfl,q⟩
theorem Aj.wk(e:Aj H H')(h:H b=AF):Aj H (AK H' b o):=λc u q=>by rw[AU (A4 q h)];show e c u q
theorem uW{a b:AE}(h:a.cps.toList=b.cps.toList):a=b:=by cases a;simp_all
theorem Oa{F:α->U->Prop}(h:BF F D J):∀{i:Nat}{a:α}{b:U},D[i]?=AA a->J[i]?=AA b->F a b:=by induction h with|nil=>intro i a b h;cases h|cons r _ Y=>intro i a b V W;cases i with|zero=>cases V;cases W;show r|succ i=>show Y V W
theorem To(h:LM k v=AI):BU (Ar k) v:=by
 rcases Ji h with⟨i,t,rfl,rfl⟩|⟨x,t,rfl,rfl⟩;.show⟨t,rfl⟩
 .show⟨t,rfl⟩
theorem Yn(J:Ey kvs vs)(Z:D.length=vs.length)(h:∀(j:Nat)(v:AJ),D[j]?=AA v->∃(k:AL)(x:AJ),vs[j]?=AA (k,x)/\LM k v=AI):BM (kvs.map λp=>Ar p.1) D:=by
 show Gh ?_ ?_;.rw[As,Z];show Hz J
 . intro i a b U W;lk;obtain⟨k,x,A,Y⟩:=h i b W;rw[Bl]at U;obtain⟨p,z,rfl⟩:=Dp.mp U;k_in;have q:=Oa J z A;rw[q.1];show To Y
theorem TQ{K:An}(F:X.iw=AI):Eg X (.type "list") (λxs H Q=>∃(a:AB)(kvs:List (AL×AD)),xs=[.ref a]/\H a=AA (.dK kvs)/\∀l,H l=AF->Q (.ref l) (AK H l (.lst (kvs.map λp=>Ar p.1)))):=by intro Y s T H xs R Q I r h;lk;obtain⟨a,kvs,rfl,e,q⟩:=h;obtain⟨u,rfl,N⟩:=Gj r;cases N;obtain⟨z,M,S,D,B⟩:=ME I.cq e;obtain⟨O,J⟩:=B.dictAt;k_in;have U:=Hz D;show W.kdl_call (ACY M) (I.ok.hd F) J (by simp_all) λE P Z A L C W=>?_;show⟨.ref _,_,I.oz L (Ag _) (show Cv _ _ _ E _ (.lst _)from⟨by rw[As];show z,_,A,?_,by simpa using C⟩),rfl,q _ (I.cq.bw (Ag _))⟩;show Yn D (by show W.1) λj v G=>W.2 j v (by rw[<-Mc];show G)
theorem D6{a b:Int}{A B:Prop}(D:a=b->A)(J:¬a=b->B):if Ac (AD.int a=AD.int b)=AI then A else B:=KR (λe=>D (AD.int.inj (AEI e))) λe=>J λz=>AEM e (AEG _ z)
theorem Tf{A B:Prop}(D:a=b->A)(J:¬a=b->B):if Ac (AD.str a=AD.str b)=AI then A else B:=KR (λe=>D (AD.str.inj (AEI e))) λe=>J λz=>AEM e (AEG _ z)
theorem IW{c:Prop}[Decidable c]{A B:Prop}(D:c->A)(J:¬c->B):if Ac c=AI then A else B:=(by simp_all)
def Zf(t:CV):CV:=λD V H=>FZ (λ(N:Ai->AG->Prop)=>t {D with nx:=N} V H) (λN=>∀J U,N J U->D.nx J U)
theorem Ii{st:Cg}(h:ET X st t):ET X st (Zf t):=λU s Y H D I⟨N,q,k⟩=>by show Aw (h _ s Y H _ I q) λf Z z=>?_;cases f with|next=>obtain⟨J,V,W,n⟩:=z;show⟨J,V,W,k _ _ n⟩|brk=>show z|cont=>show z|ret u=>show z
theorem IV(N:Ai->AG->Prop)(h:t {D with nx:=N} U H)(k:∀J H',N J H'->D.nx J H'):Zf t D U H:=⟨N,h,k⟩
theorem Bb(h:H a=AF):Aj H (AK H a o):=(Bz H).ik h
structure Ff(prog:CI)(w:Bm)(A:Cf)(s:AV)(κ:Oy)(O:Ut)(kf:AJ->O.α)(a₀:Array Au):Prop where aff:∀p∈a₀.toList,∀q∈a₀.toList,∀(Q:Bool->AV->Prop)(E:AJ->AV->Prop),Q (O.blt (kf p.1) (kf q.1)) s->Am (Ak prog w) A (keyLt' κ p.1 q.1) Q E s
structure CM(κ:Oy)(a₀:Array Au)(st:CJ):Prop where
 ph:(Ah st).Perm a₀
 jq:aW st=κ
 oo:MV st=AF
noncomputable def BB{O:Ut}(kf:AJ->O.α)(xs:Array Au)(i:Nat):O.α:=kf ((xs[i]?.map (·.1)).getD .none)
def DC{O:Ut}(kf:AJ->O.α)(xs:Array Au)(lo hi:Nat):Prop:=∀i j,lo<=i->i<=j->j<hi->O.kle (BB kf xs i) (BB kf xs j)
theorem GJ{O:Ut}{kf:AJ->O.α}{xs ys:Array Au}{i j:Nat}(h:xs[i]?=ys[j]?):BB kf xs i=BB kf ys j:=by unfold BB;rw[h]
theorem CM.yy{D:Array Au}{st:CJ}(B:CM J D st):(Ah st).size=D.size:=B.ph.size_eq
theorem CM.nv{st:CJ}(B:CM J D st){xs:Array Au}(h:xs.Perm (Ah st)):CM J D (O2 st xs):=⟨h.trans B.ph,B.jq,B.oo⟩
theorem CM.at{U:Oy}{O:Ut}{kf:AJ->O.α}{D:Array Au}{st:CJ}(B:CM U D st){i:Nat}(hi:i<D.size):∃p,(Ah st)[i]?=AA p/\p∈D.toList/\BB kf (Ah st) i=kf p.1:=by
 have J:i<(Ah st).size:=by rw[B.yy];show hi
 show⟨(Ah st)[i],(by simp),(RV.mp B.ph).mem_iff.mp (by simp),?_⟩;unfold BB;simp_all
theorem PZ{prog:CI}{w:Bm}{A:Cf}{E:AJ->AV->Prop}{s:AV}{V:Oy}{O:Ut}{kf:AJ->O.α}{D:Array Au}{st:CJ}(C:Ff prog w A s V O kf D)(B:CM V D st){p q:Au}(J:p∈D.toList)(U:q∈D.toList){Q:Option Bool->CJ->Prop}(h:Q (AA (O.blt (kf p.1) (kf q.1))) st):EV (Ak prog w) A E s (lt' p q) Q st:=by rw[lt'_eq];show A1 (Ld ?_);rw[B.jq];show A1 (O3 (zT (C.aff p J q U _ _ ⟨rfl,BD h⟩)))
theorem Pa{prog:CI}{w:Bm}{A:Cf}{E:AJ->AV->Prop}{s:AV}{F:Oy}{O:Ut}{kf:AJ->O.α}{D:Array Au}{st:CJ}(C:Ff prog w A s F O kf D)(B:CM F D st){i j:Nat}(hi:i<D.size)(V:j<D.size){Q:Option Bool->CJ->Prop}(h:Q (AA (O.blt (BB kf (Ah st) i) (BB kf (Ah st) j))) st):EV (Ak prog w) A E s (Lc i j) Q st:=by lk;obtain⟨p,J,Z,W⟩:=B.at hi;obtain⟨q,U,z,Y⟩:=B.at V;k_in;rw[W,Y]at h;change EV _ _ _ _ (Uu _ i>>=λx=>Uu _ j>>=λy=>lt' x y) Q st;rw[xW,xW,J,U];show A1 (BD (A1 (BD (PZ C B Z z h))))
theorem U8{O:Ut}{kf:AJ->O.α}{xs:Array Au}{i j:Nat}(D:j<=xs.size)(k:Nat):BB kf (aX xs i j ((j-i)/2)) k=if i<=k/\k<j then BB kf xs (i+j-1-k)else BB kf xs k:=by
 have e:=ABa (i:=i) D k;by_cases h:i<=k/\k<j;.rw[AEE h]at e⊢;show GJ e
 .rw[AED h]at e⊢;show GJ e
theorem cN{O:Ut}{kf:AJ->O.α}{xs:Array Au}{D d:Nat}(W:D<xs.size)(V:d<=D)(k:Nat):BB kf (bubble xs D d) k=if k=D-d then BB kf xs D else if D-d<k/\k<=D then BB kf xs (k-1)else BB kf xs k:=by
  have e:=ABZ W d V k;by_cases J:k=D-d;.rw[AEE J]at e⊢;show GJ e
  . rw[AED J]at e⊢;by_cases U:D-d<k/\k<=D;.rw[AEE U]at e⊢;show GJ e
    .rw[AED U]at e⊢;show GJ e
section
variable{st:CJ}
structure IB(lo:Nat)(st st':CJ):Prop where
 zq:Bn st'=Bn st
 aek:∀k,k<lo->(Ah st')[k]?=(Ah st)[k]?
end
theorem RQ(lo:Nat)(st:CJ):IB lo st st:=⟨rfl,λO O=>rfl⟩
theorem IB.aa{lo:Nat}(x:IB lo a b)(y:IB lo b c):IB lo a c:=⟨y.zq.trans x.zq,λk h=>(y.aek k h).trans (x.aek k h)⟩
theorem AAE{U:Array Au}{st:CJ}(C:Ff prog w A s T O kf U){lo:Nat}(d:lo+n<=U.size)(y:R<=n)(B:CM T U st)(hs:DC kf (Ah st) lo (lo+R))(h:∀D,CM T U D->IB lo st D->DC kf (Ah D) lo (lo+n)->Q AI D):EV (Ak prog w) A E s (binarySort' lo n R) Q st:=by
  rw[binarySort'_eq];show A1 (Hv (HH (I:=λk c D=>c=(AF,())/\CM T U D/\IB lo st D/\DC kf (Ah D) lo (lo+DU k n)) (Q:=λc D=>c=(AF,())/\CM T U D/\IB lo st D/\DC kf (Ah D) lo (lo+n)) ?pj ?fin ?adv) ?post);case post=> intro c D Z;lk;obtain⟨rfl,L,X,u⟩:=Z;k_in;show BD (h D L X u)
  case adv=>
    show⟨rfl,B,RQ _ _,λi j Y W M=>?_⟩;by_cases z:R=0
    . obtain rfl:i=j:=by lia
      show MU _
    .show hs i j Y W (by lia)
  case fin=>grind
  case pj=>
    intro k c D v V Z;lk;obtain⟨rfl,L,X,u⟩:=Z;k_in;rw[show DU k n=k by show aI (Bg V)]at u;show A1 (Hv (HH (I:=λx c J=>J=D/\∃l r,c=(AF,l,r)/\l<=r/\r<=k/\r+x<=k+l/\(∀i,i<l->O.kle (BB kf (Ah D) (lo+i)) (BB kf (Ah D) (lo+k)))/\(∀i,r<=i->i<k->O.klt (BB kf (Ah D) (lo+k)) (BB kf (Ah D) (lo+i)))) (Q:=λc J=>J=D/\∃l r,c=(AF,l,r)/\l<=k/\(∀i,i<l->O.kle (BB kf (Ah D) (lo+i)) (BB kf (Ah D) (lo+k)))/\(∀i,l<=i->i<k->O.klt (BB kf (Ah D) (lo+k)) (BB kf (Ah D) (lo+i)))) ?i1 ?i2 ?i3) ?i4);case i3=>show⟨rfl,0,k,rfl,BZ _,Ag _,Ag _,λO0 h=>absurd h (Il _),λO0 Y W=>absurd W (Nat.not_lt_of_le Y)⟩
    case i2=> intro c J Z;lk;obtain⟨rfl,l,r,rfl,Y,W,M,H,K⟩:=Z;rw[ABN (BZ _),Uh]at M;obtain rfl:l=r:=EJ Y (ABK M);k_in;show⟨rfl,l,l,rfl,W,H,K⟩
    case i1=>
      intro x c J _ hx Z;lk;obtain⟨rfl,l,r,rfl,Y,W,M,H,K⟩:=Z;k_in;dsimp only;by_cases g:l>=r
      . rw[AEE g];obtain rfl:l=r:=EJ Y g;show BD ⟨rfl,l,l,rfl,W,H,K⟩
      . rw[AED g];have f:l<=(l+r)/2:=by lia
        have P:(l+r)/2<r:=by lia
        have o:=Nh (BK P W) lo;show A1 (Pa C L (BK (Nh V _) d) (BK o (Af (E5 (Bg V) _) d)) ?_);generalize(l+r)/2=m at f P o⊢;cases e:O.blt (BB kf (Ah J) (lo+k)) (BB kf (Ah J) (lo+m))with |true=> show BD ⟨rfl,l,m,rfl,f,Af (Bg P) W,by lia,H,λi S t=>?_⟩;show KeyOrd.klt_of_klt_of_kle e (u _ _ (Ov _ _) (E5 S _) (Nh t _))|false=>show BD ⟨rfl,m+1,r,rfl,P,W,aO (Af M (E5 f _)),λi S=>?_,K⟩;show Gp (u (lo+i) (lo+m) (Ov _ _) (E5 (Dl S) _) o) (show O.kle _ _ from e)
    case i4=>
      intro c J Z;lk;obtain⟨rfl,l,r,rfl,Y,H,K⟩:=Z;k_in;change EV _ _ _ _ (moveDown' (lo+k) (lo+l)>>=λO0=>BY (RX (AF,()))) _ _;rw[moveDown'_eq];have F:lo+k<(Ah J).size:=by rw[L.yy];show BK (Nh V _) d
      have a:lo+k-(lo+l)<=lo+k:=xN _ _;have q:lo+k-(lo+k-(lo+l))=lo+l:=aN (E5 Y lo);show A1 (JO (BD ⟨rfl,L.nv (bubble_perm _ _ _),X.aa ⟨rfl,λz hz=>?_⟩,?_⟩));.rw[ABZ F _ a,q,AED (by lia),AED (by lia)]
      . rw[show DU (k+1) n=k+1 by show aI V];intro i j S t q3;rw[cN F a,cN F a,q];have N:∀z,lo<=z->z<lo+l->O.kle (BB kf (Ah J) z) (BB kf (Ah J) (lo+k)):=λz G p=>by have:=H (z-lo) ((Q9 G).mpr p);rwa[G9 G]at this
        have b:∀z,lo+l<=z->z<lo+k->O.klt (BB kf (Ah J) (lo+k)) (BB kf (Ah J) z):=λz G p=>by have:=K (z-lo) ((LX (DY G)).mpr G) ((Q9 (DY G)).mpr p);rwa[show lo+(z-lo)=z by show G9 (DY G)]at this
        repeat' split
        all_goals first |(exfalso;lia)|show MU _|show N _ (by lia) (by lia)|show Jq (b _ (by lia) (by lia))|show u _ _ (by lia) (by lia) (by lia)
theorem DC.jo{O:Ut}{kf:AJ->O.α}{xs:Array Au}{lo n:Nat}(u:DC kf xs lo (lo+n))(V:1<=n)(h:O.kle (BB kf xs (lo+n-1)) (BB kf xs (lo+n))):DC kf xs lo (lo+(n+1)):=λi j D J W=>by
  by_cases z:j=lo+n
  . subst z;by_cases U:i=lo+n;.subst U;show MU _
    .show Gp (u i _ D (ABL (Cy J U)) ((xF (xG _ V)).mp (Ag _))) h
  .show u i j D J (Cy (aF W) z)
def Nu{O:Ut}(kf:AJ->O.α)(xs:Array Au)(lo hi:Nat):Prop:=∀i j,lo<=i->i<=j->j<hi->O.kle (BB kf xs j) (BB kf xs i)
theorem Nu.jo{O:Ut}{kf:AJ->O.α}{xs:Array Au}{lo n:Nat}(u:Nu kf xs lo (lo+n))(V:1<=n)(h:O.kle (BB kf xs (lo+n)) (BB kf xs (lo+n-1))):Nu kf xs lo (lo+(n+1)):=λi j D J W=>by
  by_cases z:j=lo+n
  . subst z;by_cases U:i=lo+n;.subst U;show MU _
    .show Gp h (u i _ D (ABL (Cy J U)) ((xF (xG _ V)).mp (Ag _)))
  .show u i j D J (Cy (aF W) z)
theorem RS{D:Array Au}{st:CJ}(B:CM W D st){lo:Nat}(hi:lo<=i)(J:j<=D.size):CM W D (O2 st (aX (Ah st) i j ((j-i)/2)))/\IB lo st (O2 st (aX (Ah st) i j ((j-i)/2))):=by show⟨B.nv (mirror_perm _ _ _ _),rfl,λk U=>?_⟩;rw[ABa (by rw[B.yy];show J),AED (λV=>xJ hi (FQ V.1 U))]
theorem RT{U:Oy}{O:Ut}{kf:AJ->O.α}{D:Array Au}{st:CJ}(B:CM U D st){i j:Nat}(J:j<=D.size)(h:∀k,i<=k->k<j->BB kf (Ah st) k=BB kf (Ah st) (j-1))(k:Nat):BB kf (aX (Ah st) i j ((j-i)/2)) k=BB kf (Ah st) k:=by rw[U8 (by rw[B.yy];show J)];grind
theorem cV{prog:CI}{w:Bm}{A:Cf}{E:AJ->AV->Prop}{s:AV}{M:Oy}{O:Ut}{kf:AJ->O.α}{J:Array Au}{st:CJ}(C:Ff prog w A s M O kf J){lo D U:Nat}(L:lo+D<=J.size)(z:1<=U)(N:U<=D)(B:CM M J st)(u:DC kf (Ah st) lo (lo+U)){Q:Option (Option Nat)×Nat->CJ->Prop}(h:∀n,U<=n->n<=D->DC kf (Ah st) lo (lo+n)->(n<D->O.klt (BB kf (Ah st) (lo+n)) (BB kf (Ah st) (lo+n-1)))->Q (AF,n) st){f:Nat->Option (Option Nat)×Nat->StateT CJ Cz (ForInStep (Option (Option Nat)×Nat))}(K:∀x c,f x c=(do match(<-Lc (lo+c.2) (lo+c.2-1))with|AA b=>if b=AI then BY (.done (AF,c.2))else BY (.yield (AF,c.2+1))|AF=>BY (.done (AA AF,c.2)))):EV (Ak prog w) A E s (HN [U:D] (AF,U) f) Q st:=by
 show HH (I:=λx c W=>W=st/\c=(AF,x)/\U<=x/\x<=D/\DC kf (Ah st) lo (lo+x)) ?_ ?_ (by simp_all)
 . intro x c W V Y H;lk;obtain⟨rfl,rfl,F,G,Z⟩:=H;k_in;rw[K];show A1 (Pa C B (BK (Nh Y _) L) (by lia) ?_);cases e:O.blt _ _ with |true=>show BD (h x F G Z λS=>e)|false=>show BD ⟨rfl,rfl,JM V,by assumption,Z.jo (Af z V) e⟩
 simp_all
abbrev IC:=Option (Option Nat)×Nat
noncomputable def Pb(lo:Nat)(c:IC):StateT CJ Cz (ForInStep IC):=Lc (lo+c.2) (lo+c.2-1)>>=λo=>match o with|AA b=>if b=AI then BY (.done (AF,c.2))else BY (.yield (AF,c.2+1))|_=>BY (.done (AA AF,c.2))
noncomputable def Mb(lo D n:Nat):StateT CJ Cz (Option Nat):=MW lo (lo+n)>>=λO=>HN [n:D] ((AF,n):IC) (λO c=>Pb lo c)>>=λc=>match c.1 with|AA r=>BY r|AF=>BY (AA c.2)
abbrev U7:=Option (Option Nat)×Nat×Nat
noncomputable def cK(lo:Nat)(c:U7):StateT CJ Cz (ForInStep U7):=Lc (lo+c.2.1) (lo+c.2.1-1)>>=λo=>match o with
 |AA b=>if b=AI then(if c.2.2>0 then MW (lo+c.2.1-(c.2.2+1)) (lo+c.2.1)>>=λO=>BY (.yield (AF,c.2.1+1,0))else BY (.yield (AF,c.2.1+1,0)))else Lc (lo+c.2.1-1) (lo+c.2.1)>>=λJ=>match J with |AA D=>if D=AI then BY (.done (AF,c.2.1,c.2.2))else BY (.yield (AF,c.2.1+1,c.2.2+1))|_=>BY (.done (AA AF,c.2.1,c.2.2))
 |_=>BY (.done (AA AF,c.2.1,c.2.2))
noncomputable def RR(lo D n:Nat):StateT CJ Cz (Option Nat):=liftM (rule "list.sort.descending-run")>>=λO=>HN [n+1:D] ((AF,n+1,0):U7) (λO c=>cK lo c)>>=λc=>match c.1 with|AA r=>BY r|AF=>if c.2.2>0 then MW (lo+c.2.1-(c.2.2+1)) (lo+c.2.1)>>=λO=>Mb lo D c.2.1 else Mb lo D c.2.1
theorem cX{J:Array Au}{st:CJ}(C:Ff prog w A s F O kf J){lo:Nat}(W:lo+D<=J.size)(I:1<=n)(V:n<=D)(B:CM F J st)(H:Nu kf (Ah st) lo (lo+n))(h:∀m U,CM F J U->IB lo st U->1<=m->m<=D->DC kf (Ah U) lo (lo+m)->Q (AA m) U):EV (Ak prog w) A E s (Mb lo D n) Q st:=by
 show A1 (JO ?_);obtain⟨G,K⟩:=RS B (Ag lo) (by show Af (E5 V _) W);have u:DC kf _ lo _:=λi j Z Y z=>by rw[U8 (by rw[B.yy];show Af (E5 V _) W),U8 (by rw[B.yy];show Af (E5 V _) W),AEE (⟨Z,FQ Y z⟩),AEE (⟨Af Z Y,z⟩)];show H _ _ (by omega) (Nat.sub_le_sub_left Y _) (by omega)
 show A1 (cV C W I V G u (λm L M u2 S=>?_) λx c=>AEG (Lc _ _>>=.) (by grind));show BD (by grind)
theorem cR{prog:CI}{w:Bm}{A:Cf}{E:AJ->AV->Prop}{s:AV}{R:Oy}{O:Ut}{kf:AJ->O.α}{J:Array Au}{st:CJ}(C:Ff prog w A s R O kf J){lo U n:Nat}(Y:lo+U<=J.size)(q:1<=n)(u:n<U)(B:CM R J st)(p:∀k,lo<=k->k<lo+n->BB kf (Ah st) k=BB kf (Ah st) (lo+n-1))(v:O.klt (BB kf (Ah st) (lo+n)) (BB kf (Ah st) (lo+n-1))){Q:Option Nat->CJ->Prop}(h:∀m D,CM R J D->IB lo st D->1<=m->m<=U->DC kf (Ah D) lo (lo+m)->Q (AA m) D):EV (Ak prog w) A E s (RR lo U n) Q st:=by
 unfold RR;show A1 (O3 (PM ⟨rfl,?_⟩));have d:=Nu.jo (λi j z F N=>by rw[p i z (FQ F N),p j (Af z F) N];show MU _) q (Jq v);show A1 (Hv (HH (I:=λx c D=>∃e,c=(AF,x,e)/\n+1<=x/\x<=U/\e+1<=x/\CM R J D/\IB lo st D/\Nu kf (Ah D) lo (lo+x)/\∀k,lo+x-(e+1)<=k->k<lo+x->BB kf (Ah D) k=BB kf (Ah D) (lo+x-1)) (Q:=λc D=>∃x e,c=(AF,x,e)/\n+1<=x/\x<=U/\e+1<=x/\CM R J D/\IB lo st D/\Nu kf (Ah D) lo (lo+x)/\∀k,lo+x-(e+1)<=k->k<lo+x->BB kf (Ah D) k=BB kf (Ah D) (lo+x-1)) ?pj ?fin ?adv) ?post);case adv=>show⟨0,rfl,Ag _,u,JM q,B,RQ _ _,d,(by grind)⟩
 case fin=>grind
 case pj=> intro x c D P Z g;lk;obtain⟨e,rfl,t,H,e1,V,K,L,W⟩:=g;k_in;unfold cK;dsimp only;show A1 (Pa C V (BK (Nh Z _) Y) (by lia) ?_);cases b:O.blt (BB kf (Ah D) (lo+x)) _ with
  |true=>
   dsimp only;rw[AEE rfl];have f:∀l:Array Au,(∀k,BB kf l k=BB kf (Ah D) k)->Nu kf l lo (lo+(x+1)):=λl r=>by have:=L.jo (Q7 e1) (Jq b);intro i j z F N;rw[r,r];show this i j z F N
   by_cases M:e>0
   . rw[AEE M,ABf];show A1 (JO (BD ?_));obtain⟨S,X⟩:=RS V (show lo<=lo+x-(e+1)by show(Uj (xD e1)).mpr (E5 e1 _)) (show lo+x<=J.size by show Af (E5 (Bg Z) _) Y);show⟨0,rfl,JM P,by assumption,by simp,S,K.aa X,f _ (RT V (Af (E5 (Bg Z) _) Y) W),(by grind)⟩
   . rw[AED M];show BD (by grind)|false=>dsimp only;show A1 (Pa C V (by lia) (BK (Nh Z _) Y) ?_);cases o:O.blt _ (BB kf (Ah D) (lo+x))with |true=>show BD ⟨x,e,rfl,t,H,e1,V,K,L,W⟩|false=> have y:=O.total _ _ o b;show BD ⟨e+1,rfl,JM P,by assumption,Gn.mpr e1,V,K,L.jo (Q7 e1) o,λk z F=>?_⟩;grind
 case post=>
  intro c D g;lk;obtain⟨x,e,rfl,t,H,e1,V,K,L,W⟩:=g;k_in;dsimp only;by_cases M:e>0
  . rw[AEE M,ABf];obtain⟨S,X⟩:=RS V (show lo<=lo+x-(e+1)by show(Uj (xD e1)).mpr (E5 e1 _)) (show lo+x<=J.size by show Af (E5 H _) Y);show cX C Y (Q8.mp (Ke M e1)) H S (λi j z F N=>?_) λm G T a=>h m G T ((K.aa X).aa a);rw[RT V (Af (E5 H _) Y) W,RT V (Af (E5 H _) Y) W];show L i j z F N
  . rw[AED M];show cX C Y (Q7 e1) H V L λm G T a=>h m G T (K.aa a)
theorem c6{A:Cf}{E:AJ->AV->Prop}{s:AV}{M:Jt}{α D:Type}{m J:StateT D Cz α}{Q:α->D->Prop}{t:D}(e:J=m)(h:EV M A E s m Q t):EV M A E s J Q t:=by simp_all
theorem AAF{U:Array Au}{st:CJ}(C:Ff prog w A s f O kf U){lo:Nat}(H:lo+D<=U.size)(Z:1<=D)(B:CM f U st)(h:∀n W,CM f U W->IB lo st W->1<=n->n<=D->DC kf (Ah W) lo (lo+n)->Q (AA n) W):EV (Ak prog w) A E s (countRun' lo D) Q st:=by
  have v:DC kf (Ah st) lo (lo+1):=λi j F V t=>by obtain rfl:i=j:=EJ V (Af (Dl t) F);show MU _
  show A1 (cV C H (Ag _) Z B v (λn L I u e=>?_) λx c=>AEG (Lc _ _>>=.) (funext λo=>by cases o<;>rfl));dsimp only;by_cases J:n=D;. subst J;rw[AEE (beq_self_eq_true n)];show BD (h n st B (RQ _ _) L I u)
  . rw[AED (by simpa using J)];by_cases T:n>1
    . rw[AEE T];show A1 (Pa C B (BK (Nat.lt_add_right_iff_pos.mpr Z) H) (by omega) ?_);cases b:O.blt _ _ with |true=>show BD (h n st B (RQ _ _) L I u)|false=>
        have K:=λk F V=>by show KeyOrd.kle_antisymm (u k (lo+n-1) F (aG V) (xP V)) (Gp (show O.kle _ _ from b) (u lo k (Ag _) F V))
        show A1 ?_;show JO ?_;show c6 (m:=RR lo D n) ?same ?_;case same=>show(by
            show AEG _ (funext λO0=>congr (AEG _ (AEG (HN _ _) (funext λO0=>funext λc=>?_))) (funext λc=>?_));. show AEG (Lc _ _>>=.) (funext λo=>?_);cases o with|none=>rfl|some b=>cases b with|true=>rfl|false=>show AEG (Lc _ _>>=.) (funext λa=>by cases a<;>rfl)
            . obtain⟨N,P⟩:=c;have t3:∀n,Mb lo D n=(MW lo (lo+n)>>=λO0=>HN [n:D] ((AF,n):IC) _>>=λc=>match c.1 with|AA r=>BY r|AF=>BY (AA c.2)):=λO0=>rfl;have t4:∀n(X:Nat->IC->StateT CJ Cz (ForInStep IC))(Y:IC->StateT CJ Cz (Option Nat)),(∀x c,X x c=Pb lo c)->(∀c,Y c=match c.1 with|AA r=>BY r|AF=>BY (AA c.2))->(MW lo (lo+n)>>=λO0=>HN [n:D] ((AF,n):IC) X>>=Y)=Mb lo D n:=λn X Y Z S=>by rw[t3,show X=λO0 c=>Pb lo c from funext λx=>funext λc=>Z x c,show Y=_ from funext S]
              cases N with |some r=>rfl|none=>
                by_cases z:P.2>0
                . rw[AEE z,AEE z];show AEG (MW _ _>>=.) (funext λO0=>?_);show t4 _ _ _ (λx c=>AEG _ (funext λo=>by cases o<;>rfl)) (λc=>by obtain⟨G,R⟩:=c;cases G<;>rfl)
                . rw[AED z,AED z];show t4 _ _ _ (λx c=>AEG _ (funext λo=>by cases o<;>rfl)) (λc=>by obtain⟨G,R⟩:=c;cases G<;>rfl))
        obtain⟨g,p⟩:=RS B (Ag lo) (by show Af (E5 I _) H);have M:=RT B (i:=lo) (j:=lo+n) (Af (E5 I _) H) K;show cR C H L (Cy I J) g (λk F V=>?_) ?_ λm d l q=>h m d l (p.aa q)
        . rw[M,M];show K k F V
        . rw[M,M];show e (Cy I J)
    . rw[AED T];show c6 (m:=RR lo D n) ?same ?_;case same=>show(by
            show AEG _ (funext λO0=>congr (AEG _ (AEG (HN _ _) (funext λO0=>funext λc=>?_))) (funext λc=>?_))
            . show AEG _ (funext λo=>?_);cases o with|none=>rfl|some b=>cases b with|true=>rfl|false=>show AEG (Lc _ _>>=.) (funext λa=>by cases a<;>rfl)
            . obtain⟨N,P⟩:=c;have t3:∀n,Mb lo D n=(MW lo (lo+n)>>=λO0=>HN [n:D] ((AF,n):IC) _>>=λc=>match c.1 with|AA r=>BY r|AF=>BY (AA c.2)):=λO0=>rfl;have t4:∀n(X:Nat->IC->StateT CJ Cz (ForInStep IC))(Y:IC->StateT CJ Cz (Option Nat)),(∀x c,X x c=Pb lo c)->(∀c,Y c=match c.1 with |AA r=>BY r|AF=>BY (AA c.2))->(MW lo (lo+n)>>=λO0=>HN [n:D] ((AF,n):IC) X>>=Y)=Mb lo D n:=λn X Y Z S=>by rw[t3,show X=λO0 c=>Pb lo c from funext λx=>funext λc=>Z x c,show Y=_ from funext S]
              cases N with |some r=>rfl|none=>
                by_cases z:P.2>0
                . rw[AEE z,AEE z];show AEG (MW _ _>>=.) (funext λO0=>?_);show t4 _ _ _ (λx c=>AEG _ (funext λo=>by cases o<;>rfl)) (λc=>by obtain⟨G,R⟩:=c;cases G<;>rfl)
                . rw[AED z,AED z];show t4 _ _ _ (λx c=>AEG _ (funext λo=>by cases o<;>rfl)) (λc=>by obtain⟨G,R⟩:=c;cases G<;>rfl))
      obtain rfl:n=1:=EJ (E6 T) L;show cR C H L (Cy Z J) B (λk F V=>by rw[show k=lo+1-1 by show aE F V]) (e (Cy Z J)) h
noncomputable def AAA:Bool->Au->Array Au->Nat->Nat->Nat->StateT CJ Cz (Option Nat):=sortPriv%PySem.Builtin.gallop
noncomputable def AAC:Array Au->Array Au->StateT CJ Cz (Array Au):=sortPriv%PySem.Builtin.mergeLo
noncomputable def AAB:Array Au->Array Au->StateT CJ Cz (Array Au):=sortPriv%PySem.Builtin.mergeHi
theorem E8{prog:CI}{w:Bm}{A:Cf}{E:AJ->AV->Prop}{s:AV}{st:CJ}{D:Array Au}{i:Nat}(hi:i<D.size){Q:Au->CJ->Prop}(h:Q D[i] st):EV (Ak prog w) A E s (Uu D i) Q st:=by rw[xW,AET _ i hi];show BD h
noncomputable def CU{O:Ut}(kf:AJ->O.α)(left:Bool)(key:Au)(D:Array Au)(base i:Nat):Bool:=if left=AI then O.blt (BB kf D (base+i)) (kf key.1)else !O.blt (kf key.1) (BB kf D (base+i))
theorem DW{O:Ut}{kf:AJ->O.α}{D:Array Au}{i:Nat}(hi:i<D.size):BB kf D i=kf D[i].1:=by unfold BB;simp_all
theorem AAD{D:Array Au}{st:CJ}(C:Ff prog w A s Y O kf D)(B:CM Y D st){J:Array Au}(U:key∈D.toList)(W:∀p∈J.toList,p∈D.toList)(hi:base+i<J.size)(h:Q (AA (CU kf left key J base i)) st):EV (Ak prog w) A E s (Uu J (base+i)>>=λx=>if left=AI then lt' x key else lt' key x>>=λo=>BY (o.map λb=>!b)) Q st:=by show A1 (E8 hi ?_);have V:J[base+i]∈D.toList:=W _ (by simp);unfold CU at h;rw[DW hi]at h;cases left with|true=>show PZ C B V U h|false=>show A1 (PZ C B U V (BD h))
theorem z8{O:Ut}{kf:AJ->O.α}{left:Bool}{key:Au}{D:Array Au}{base n i j:Nat}(u:DC kf D base (base+n))(U:i<=j)(V:j<n)(h:CU kf left key D base j=AI):CU kf left key D base i=AI:=by have J:=u (base+i) (base+j) (by simp) (by simp_all) (by simp_all);unfold CU at h⊢;cases left with |true=>show ABU J h|false=>
 have h:O.kle (BB kf D (base+j)) (kf key.1):=by show Bool.not_inj h
 have:O.blt _ _=AM:=Gp J h;simp_all
theorem Nw{F:Array Au}{st:CJ}(C:Ff prog w A s κ O kf F)(B:CM κ F st){D:Array Au}(hk:key∈F.toList)(ha:∀p∈D.toList,p∈F.toList)(L:base+n<=D.size)(H:hint<n)(u:DC kf D base (base+n))(h:∀k,k<=n->(∀i,i<k->CU kf left key D base i=AI)->(∀i,k<=i->i<n->CU kf left key D base i=AM)->Q (AA k) st):EV (Ak prog w) A E s (AAA left key D base n hint) Q st:=by
  have T:∀{i:Nat}{Q:Option Bool->CJ->Prop},i<n->Q (AA (CU kf left key D base i)) st->EV (Ak prog w) A E s _ Q st:=λK q=>AAD C B hk ha (BK (Nh K _) L) q;have M:∀i j,i<=j->j<n->CU kf left key D base j=AI->CU kf left key D base i=AI:=λi j V U Z=>z8 u V U Z;show A1 (T H ?_);have fin:∀P K,P<=K->K<=n->(∀i,i<P->CU kf left key D base i=AI)->(∀i,K<=i->i<n->CU kf left key D base i=AM)->∀{f:Nat->Option (Option Nat)×Nat×Nat->StateT CJ Cz (ForInStep (Option (Option Nat)×Nat×Nat))}{g:Option (Option Nat)×Nat×Nat->StateT CJ Cz (Option Nat)},(∀x c,f x c=if c.2.1>=c.2.2 then BY (.done (AF,c.2.1,c.2.2))else(Uu D (base+(c.2.1+(c.2.2-c.2.1)/2))>>=λx=>if left=AI then lt' x key else lt' key x>>=λo=>BY (o.map λb=>!b))>>=λo=>match o with|AA b=>if b=AI then BY (.yield (AF,c.2.1+(c.2.2-c.2.1)/2+1,c.2.2))else BY (.yield (AF,c.2.1,c.2.1+(c.2.2-c.2.1)/2))|AF=>BY (.done (AA AF,c.2.1,c.2.2)))->(∀c,g (AF,c)=BY (AA c.2))->EV (Ak prog w) A E s (HN [:n] ((AF,P,K):Option (Option Nat)×Nat×Nat) f>>=g) Q st:=by
    intro P K d X h3 h4 f g hf hg;show A1 (Hv (HH (I:=λx c J=>J=st/\∃l r,c=(AF,l,r)/\l<=r/\r<=n/\r+x<=n+l/\(∀i,i<l->CU kf left key D base i=AI)/\(∀i,r<=i->i<n->CU kf left key D base i=AM)) (Q:=λc J=>J=st/\∃l,c=(AF,l,l)/\l<=n/\(∀i,i<l->CU kf left key D base i=AI)/\(∀i,l<=i->i<n->CU kf left key D base i=AM)) ?_ ?_ ⟨rfl,P,K,rfl,d,X,Af X (Ov _ _),h3,h4⟩) ?_)
    . rintro x c J _ t⟨rfl,l,r,rfl,V,U,Z,W,Y⟩;rw[hf];dsimp only;by_cases g:l>=r;. rw[AEE g];obtain rfl:l=r:=EJ V g;show BD ⟨rfl,l,rfl,U,W,Y⟩
      . rw[AED g];have v:l<=l+(r-l)/2:=Ov _ _;have R:l+(r-l)/2<r:=by(clear Z U V t X d H L;lia)
        show A1 (T (BK R U) ?_);generalize l+(r-l)/2=m at v R⊢;cases e:CU kf left key D base m with |true=>show BD ⟨rfl,_,r,rfl,R,U,aO (Af Z (E5 v _)),λi z=>M i _ (Dl z) (BK R U) e,Y⟩|false=>show BD ⟨rfl,l,_,rfl,v,Af (Bg R) U,by(clear U V X d H L;lia),W,λi y S=>by cases z:CU kf left key D base i with|false=>rfl|true=>rw[M _ i y S z]at e;cases e⟩
    . rintro c J⟨rfl,l,r,rfl,V,U,Z,W,Y⟩;rw[ABN (BZ _),Uh]at Z;obtain rfl:l=r:=EJ V (ABK Z);show⟨rfl,l,rfl,U,W,Y⟩
    . rintro c J⟨rfl,l,rfl,U,W,Y⟩;rw[hg];show BD (h l U W Y)
  cases e:CU kf left key D base hint with |true=>
    show A1 (Hv (HH (I:=λx c J=>J=st/\∃l o,c=(AF,l,o)/\l<o/\hint+l<n/\x+1<=o/\CU kf left key D base (hint+l)=AI) (Q:=λc J=>J=st/\∃l o,c=(AF,l,o)/\l<o/\hint+l<n/\CU kf left key D base (hint+l)=AI/\(o>=n-hint\/(hint+o<n/\CU kf left key D base (hint+o)=AM))) ?_ ?_ ⟨rfl,0,1,rfl,by simp,by omega,(by decide),e⟩) ?_)
    . intro x c J _ t G;lk;obtain⟨rfl,l,o,rfl,V,U,Z,W⟩:=G;k_in;dsimp only;by_cases g:o>=n-hint
      . rw[AEE g];show BD ⟨rfl,l,o,rfl,V,U,W,.inl g⟩
      . rw[AED g];show A1 (T (Kc (LZ g)) ?_);cases N:CU kf left key D base (hint+o)with|true=>show BD ⟨rfl,o,_,rfl,LY.mpr (ABJ _ (by decide)),Kc (LZ g),by lia,N⟩|false=>show BD ⟨rfl,l,o,rfl,V,U,W,.inr ⟨Kc (LZ g),N⟩⟩
    . intro c J G;lk;obtain⟨rfl,l,o,rfl,V,U,Z,W⟩:=G;k_in;show⟨rfl,l,o,rfl,V,U,W,.inl (Bg (RA Z))⟩
    . intro c J G;lk;obtain⟨rfl,l,o,rfl,V,U,W,Y⟩:=G;k_in;show fin (hint+l+1) (hint+DU o (n-hint)) (by omega) ((LX (Bg H)).mp (aJ _ _)) (λi z=>M i _ (Dl z) U W) (λi y S=>?_) (λx c=>?_) (λc=>rfl)
      . rcases Y with Y|⟨Y,a⟩;.lia
        .cases z:CU kf left key D base i with|false=>rfl|true=>rw[M (hint+o) i (by(clear Y U V L;lia)) S z]at a;cases a
      . dsimp only;split;.rfl
        .show AEG (_>>=.) (funext λo=>by cases o<;>rfl)|false=>
    show A1 (Hv (HH (I:=λx c J=>J=st/\∃l o,c=(AF,l,o)/\l<o/\l<=hint/\x+1<=o/\CU kf left key D base (hint-l)=AM) (Q:=λc J=>J=st/\∃l o,c=(AF,l,o)/\l<o/\l<=hint/\CU kf left key D base (hint-l)=AM/\(o>=hint+1\/(o<=hint/\CU kf left key D base (hint-o)=AI))) ?_ ?_ ⟨rfl,0,1,rfl,by simp,by simp,(by decide),e⟩) ?_)
    . intro x c J _ t G;lk;obtain⟨rfl,l,o,rfl,V,U,Z,W⟩:=G;k_in;dsimp only;by_cases g:o>=hint+1;. rw[AEE g];show BD ⟨rfl,l,o,rfl,V,U,W,.inl g⟩
      . rw[AED g];show A1 (T (RA H) ?_);cases N:CU kf left key D base (hint-o)with |false=>show BD ⟨rfl,o,_,rfl,LY.mpr (ABJ _ (by decide)),Dl (LZ g),by lia,N⟩|true=>show BD ⟨rfl,l,o,rfl,V,U,W,.inr ⟨Dl (LZ g),N⟩⟩
    . intro c J G;lk;obtain⟨rfl,l,o,rfl,V,U,Z,W⟩:=G;k_in;show⟨rfl,l,o,rfl,V,U,W,.inl (Nat.le_of_pred_lt (Ke H Z))⟩
    . intro c J G;lk;obtain⟨rfl,l,o,rfl,V,U,W,Y⟩:=G;k_in;show fin (hint+1-DU o (hint+1)) (hint-l) (by(clear Y H L;omega)) (Bg (RA H)) (λi z=>?_) (λi y S=>?_) (λx c=>?_) (λc=>rfl)
      . rcases Y with Y|⟨Y,a⟩;. (clear U V H L;simp_all)
        .show M i _ (by(clear U V H L;grind)) (RA H) a
      .cases z:CU kf left key D base i with|false=>rfl|true=>rw[M (hint-l) i (by omega) S z]at W;cases W
      . dsimp only;split;.rfl
        .show AEG (_>>=.) (funext λo=>by cases o<;>rfl)
structure Dx(R:Au->Au->Prop)(la lb lo:List Au)(i j:Nat):Prop where
 ph:lo.Perm (la.take i++lb.take j)afa:lo.Pairwise R
 a:∀x∈lo,∀y∈la.drop i,R x y
 b:∀x∈lo,∀y∈lb.drop j,R x y
theorem Dx.yb{lo:List Au}(h:Dx R D U lo i j):Dx R U D lo j i:=⟨h.ph.trans Ou,h.afa,h.b,h.a⟩
theorem Dx.yu{U Y lo:List Au}(h:Dx R U Y lo i j)(B:U.Pairwise R)(W:∀x∈(U.drop i).take k,∀y∈Y.drop j,R x y):Dx R U Y (lo++(U.drop i).take k) (i+k) j:=by
  have C:((U.drop i).take k++(U.drop i).drop k).Pairwise R:=by rw[Q6];show B.sublist (AAu _ _)
  lk;obtain⟨z,_,A⟩:=MS.mp C;k_in;have Z:U.drop (i+k)=(U.drop i).drop k:=by rw[wO]
  show⟨?_,MS.mpr ⟨h.afa,z,λx W y D=>h.a x W y (xA D)⟩,λx V y D=>?_,λx V y D=>?_⟩
  . rw[ABA,E4];show(h.ph.append_right _).trans ?_;rw[E4];show wN _ Ou
  . rw[Z]at D;rcases CS.mp V with q|q;.show h.a x q y (Z7 D)
    .show A x q y D
  . rcases CS.mp V with q|q;.show h.b x q y D
    .show W x q y D
theorem Dx.aag{U D lo:List Au}(h:Dx R U D lo i j)(W:D.Pairwise R)(V:∀x∈(D.drop j).take k,∀y∈U.drop i,R x y):Dx R U D (lo++(D.drop j).take k) i (j+k):=(h.yb.yu W V).yb
def Fg(R:Au->Au->Prop)(D J l:List Au):Prop:=l.Perm (D++J)/\l.Pairwise R
theorem Dx.abv{D U lo:List Au}(h:Dx R D U lo i j)(z:D.Pairwise R)(A:U.Pairwise R)(Y:∀x∈D.drop i,∀y∈U.drop j,R x y):Fg R D U (lo++D.drop i++U.drop j):=by
  show⟨?_,MS.mpr ⟨MS.mpr ⟨h.afa,(by grind),h.a⟩,(by grind),λx V y W=>?_⟩⟩
  . show((h.ph.append_right _).append_right _).trans ?_;have e1:D=D.take i++D.drop i:=(by simp_all);have Z:U=U.take j++U.drop j:=(by simp);grind
  . rcases CS.mp V with q|q;.show h.b x q y W
    show Y _ q _ W
theorem Fg.yb(h:Fg R J D l):Fg R D J l:=⟨h.1.trans Ou,h.2⟩
theorem cZ{out a:Array Au}:(out++a.extract i (i+k)).toList=out.toList++(a.toList.drop i).take k:=by simp_all
theorem RU{a:Array Au}:(a.extract i).toList=a.toList.drop i:=by simp;show Dk (by simp)
theorem PY{a:Array Au}(hi:i<a.size):(a.toList.drop i).take 1=[a[i]]:=by rw[Z1 (by assumption)];simp
theorem cY{out a:Array Au}(hi:i<a.size):(out.push a[i]).toList=out.toList++(a.toList.drop i).take 1:=by rw[PY hi];simp
def BS{O:Ut}(kf:AJ->O.α):Au->Au->Prop:=λp q=>O.kle (kf p.1) (kf q.1)
theorem Ko{O:Ut}{kf:AJ->O.α}{a:Array Au}(h:a.toList.Pairwise (BS kf)){lo hi:Nat}(D:hi<=a.size):DC kf a lo hi:=λi j V J U=>by
 by_cases z:i=j;.rw[z];show MU _
 . rw[DW _,DW _];have:=Gm.mp h i j (BK (FQ J U) D) (BK U D) (Cy J z);assumption
theorem Nv{a:Array Au}(h:p∈a.toList.drop i):∃k,∃(D:i+k<a.size),p=a[i+k]:=by lk;obtain⟨k,D,e⟩:=Gk.mp h;k_in;grind
theorem PV{a:Array Au}(h:p∈(a.toList.drop i).take k):∃m,m<k/\∃(D:i+m<a.size),p=a[i+m]:=by lk;obtain⟨m,J,e⟩:=Gk.mp h;k_in;grind
section
variable{κ:Oy}{a₀:Array Au}{st:CJ}
structure HK(κ:Oy)(a₀:Array Au)(st st':CJ):Prop where
 sb:CM κ a₀ st'
 afe:Ah st'=Ah st
 zq:Bn st'=Bn st
end
theorem HK.aej{st:CJ}(x:HK U J st D)(g:Nat):HK U J st (aR (aW D) (Ah D) (Bn D) g (MV D)):=⟨⟨x.sb.ph,x.sb.jq,x.sb.oo⟩,x.afe,x.zq⟩
theorem Cj[Decidable c]{st:CJ}(h:c)(k:EV M A E s x Q st):EV M A E s (if c then x else y) Q st:=by simp_all
theorem C0[Decidable c]{st:CJ}(h:¬c)(k:EV M A E s y Q st):EV M A E s (if c then x else y) Q st:=by simp_all
theorem AAJ{K:Array Au}{st:CJ}(C:Ff prog w A s κ O kf K)(B:CM κ K st){a b:Array Au}(ha:∀p∈a.toList,p∈K.toList)(hb:∀p∈b.toList,p∈K.toList)(a1:1<=a.size)(b1:1<=b.size)(pa:a.toList.Pairwise (BS kf))(pb:b.toList.Pairwise (BS kf))(M:∀p∈a.toList,BS kf b[0] p)(X:∀p∈b.toList,BS kf p a[a.size-1])(h:∀m H,HK κ K st H->Fg (BS kf) a.toList b.toList m.toList->Q m H):EV (Ak prog w) A E s (AAC a b) Q st:=by
  have T:∀{D:Array Au}{V Y:Nat},Dx (BS kf) a.toList b.toList D.toList V Y->(Y=b.size\/V=a.size)->Fg (BS kf) a.toList b.toList (D++a.extract V++b.extract Y).toList:=λ{D V Y}j e=>by
    rw[VB,VB,RU,RU];show j.abv pa pb λx P y R=>?_;rcases e with rfl|rfl;.rw[AAt (by simp)]at R;cases R
    .rw[AAt (by simp)]at P;cases P
  have t:∀{D:Array Au}{V Y:Nat},Dx (BS kf) a.toList b.toList D.toList V Y->V+1=a.size->Fg (BS kf) a.toList b.toList (D++b.extract Y++a.extract V).toList:=λ{D V Y}j e=>by rw[VB,VB,RU,RU];show(j.yb.abv pb pa λx P y R=>?_).yb;obtain⟨k,d,rfl⟩:=Nv R;have:k=0:=aE (BZ _) (Nat.lt_of_add_lt_add_left (BK d (BW e.symm)));subst this;have:=X x (Z7 P);simpa[show a.size-1=V by show(xM a1).mpr e.symm]using this
  have am:∀{i:Nat}(hi:i<a.size),a[i]∈K.toList:=λhi=>ha _ (by simp);have bm:∀{i:Nat}(hi:i<b.size),b[i]∈K.toList:=λhi=>hb _ (by simp);have la:∀{i k:Nat}(d:i+k<a.size),BS kf (a[i]'(Uk d)) a[i+k]:=λ{i k}d=>by have:=Ko pa (lo:=0) (Ag _) i (i+k) (by simp) (by simp) d;rw[DW (Uk d:i<a.size),DW d]at this;show this
  have lb:∀{i k:Nat}(d:i+k<b.size),BS kf (b[i]'(Uk d)) b[i+k]:=λ{i k}d=>by have:=Ko pb (lo:=0) (Ag _) i (i+k) (by simp) (by simp) d;rw[DW (Uk d:i<b.size),DW d]at this;show this
  have oneB:∀{D:Array Au}{V Y:Nat}(h1:V<a.size)(h2:Y<b.size),Dx (BS kf) a.toList b.toList D.toList V Y->BS kf b[Y] a[V]->Dx (BS kf) a.toList b.toList (D.push b[Y]).toList V (Y+1):=λ{D V Y}h1 h2 j r=>by rw[cY h2];show j.aag pb λx P y R=>?_;rw[PY h2,BV]at P;obtain⟨k,d,rfl⟩:=Nv R;rw[P];show Gp r (la d)
  have oneA:∀{D:Array Au}{V Y:Nat}(h1:V<a.size)(h2:Y<b.size),Dx (BS kf) a.toList b.toList D.toList V Y->BS kf a[V] b[Y]->Dx (BS kf) a.toList b.toList (D.push a[V]).toList (V+1) Y:=λ{D V Y}h1 h2 j r=>by rw[cY h1];show j.yu pa λx P y R=>?_;rw[PY h1,BV]at P;obtain⟨k,d,rfl⟩:=Nv R;rw[P];show Gp r (lb d)
  show A1 (O3 (PM ⟨rfl,?_⟩));show A1 (E8 (by assumption:0<b.size) ?_);have j0:Dx (BS kf) a.toList b.toList (#[b[0]]:Array Au).toList 0 1:=by
    show⟨?_,by simp,λx P y R=>?_,λx P y R=>?_⟩
    . rw[<-PY (by assumption:0<b.size)];simp
    .simp at P R;subst P;show M y (by simpa using R)
    . simp only[BV]at P;obtain⟨k,d,rfl⟩:=Nv R;rw[P];have:=lb (i:=0) (k:=1+k) (Kc d);simpa using this
  by_cases e1:1=b.size
  . show Cj (by simpa using e1) ?_;show BD (h _ st ⟨B,rfl,rfl⟩ (T j0 (.inl e1)))
  show C0 (by simpa using e1) ?_;by_cases e2:0+1=a.size;. show Cj (by simpa using e2) ?_;show BD (h _ st ⟨B,rfl,rfl⟩ (t j0 e2))
  show C0 (by simpa using e2) ?_;show A1 (Ld ?_);show A1 (Hv (HH (I:=λx c H=>HK κ K st H/\∃D V Y g,c=(AF,D,V,Y,g)/\Dx (BS kf) a.toList b.toList D.toList V Y/\V+1<a.size/\Y<b.size/\x+1<=V+Y) (Q:=λc H=>HK κ K st H/\∃r,c.1=AA r/\Fg (BS kf) a.toList b.toList r.toList) ?pj ?fin ?adv) ?post);case adv=>show⟨⟨B,rfl,rfl⟩,_,0,1,_,rfl,j0,Cy a1 e2,Cy b1 e1,(by decide)⟩
  case fin=> intro c H hI;lk;obtain⟨S,D,V,Y,g,rfl,j,h1,h2,h3⟩:=hI;k_in;lia
  case post=> intro c H hI;lk;obtain⟨S,r,e,f⟩:=hI;obtain⟨c1,c2⟩:=c;obtain rfl:c1=AA r:=e;k_in;show BD (h r H S f)
  case pj=>
    intro x c st1 _ P hI;lk;obtain⟨S,D,V,Y,g,rfl,j,h1,h2,h3⟩:=hI;k_in;show A1 (Hv (HH (I:=λy c H=>H=st1/\∃L W F p q,c=(AF,L,W,F,p,q)/\Dx (BS kf) a.toList b.toList L.toList W F/\W+1<a.size/\F<b.size/\V+Y+y<=W+F) (Q:=λc H=>H=st1/\((∃r,c.1=AA r/\Fg (BS kf) a.toList b.toList r.toList)\/∃L W F p q,c=(AF,L,W,F,p,q)/\Dx (BS kf) a.toList b.toList L.toList W F/\W+1<a.size/\F<b.size/\V+Y+1<=W+F)) ?s1 ?s2 ?s3) ?s4);case s3=>show⟨rfl,D,V,Y,0,0,rfl,j,h1,h2,Ag _⟩
    case s2=> intro c H hI;lk;obtain⟨rfl,L,W,F,p,q,rfl,j',o,g2,g3⟩:=hI;k_in;show⟨rfl,.inr ⟨L,W,F,p,q,rfl,j',o,g2,by lia⟩⟩
    case s1=> intro y c H _ R hI;lk;obtain⟨rfl,L,W,F,p,q,rfl,j',o,g2,g3⟩:=hI;k_in;show A1 (E8 g2 (A1 (E8 (HF o:W<a.size) (A1 (PZ C S.sb (bm g2) (am (HF o)) ?_)))));cases e:O.blt (kf b[F].1) (kf (a[W]'(HF o)).1)with
      |true=>
        show Cj rfl ?_;show A1 (E8 g2 ?_);have j2:=oneB (HF o) g2 j' (Jq e);by_cases z:F+1=b.size;. show Cj (by simpa using z) ?_;show BD ⟨rfl,.inl ⟨_,rfl,T j2 (.inl z)⟩⟩
        . show C0 (by simpa using z) ?_;split;.show BD ⟨rfl,.inr ⟨_,_,_,_,_,rfl,j2,o,by dsimp only;show Cy g2 z,by dsimp only;show Gn.mpr (DY g3)⟩⟩
          .show BD ⟨rfl,_,_,_,_,_,rfl,j2,o,by dsimp only;show Cy g2 z,by dsimp only;show Gn.mpr g3⟩|false=>
        show C0 DN ?_;show A1 (E8 (HF o:W<a.size) ?_);have j2:=oneA (HF o) g2 j' e;by_cases z:W+1+1=a.size;. show Cj (by simpa using z) ?_;show BD ⟨rfl,.inl ⟨_,rfl,t j2 z⟩⟩
        . show C0 (by simpa using z) ?_;split;.show BD ⟨rfl,.inr ⟨_,_,_,_,_,rfl,j2,by dsimp only;show Cy o z,g2,by dsimp only;lia⟩⟩
          .show BD ⟨rfl,_,_,_,_,_,rfl,j2,by dsimp only;show Cy o z,g2,by dsimp only;lia⟩
    case s4=>
      rintro c H⟨rfl,⟨r,e,f⟩|⟨L,W,F,p,q,rfl,j',o,g2,g3⟩⟩;. obtain⟨c1,c2⟩:=c;obtain rfl:c1=AA r:=e;show BD ⟨S,r,rfl,f⟩
      show A1 (O3 (PM ⟨rfl,?_⟩));show A1 (Hv (HH (I:=λy c st2=>HK κ K st st2/\∃o2 i2 U m2 p q,c=(AF,o2,i2,U,m2,p,q)/\Dx (BS kf) a.toList b.toList o2.toList i2 U/\i2+1<a.size/\U<b.size/\V+Y+1<=i2+U) (Q:=λc st2=>HK κ K st st2/\((∃r,c.1=AA r/\Fg (BS kf) a.toList b.toList r.toList)\/∃o2 i2 U m2 p q,c=(AF,o2,i2,U,m2,p,q)/\Dx (BS kf) a.toList b.toList o2.toList i2 U/\i2+1<a.size/\U<b.size/\V+Y+1<=i2+U)) ?t1 ?t2 ?t3) ?t4);case t3=>show⟨S,L,W,F,_,p,q,rfl,j',o,g2,g3⟩
      case t2=>rintro c st2⟨S2,r⟩;show⟨S2,.inr r⟩
      case t4=>
        rintro c st2⟨S2,⟨r,e,f⟩|⟨o2,i2,U,m2,p,q,rfl,j2,f1,f2,f3⟩⟩
        . obtain⟨c1,c2⟩:=c;obtain rfl:c1=AA r:=e;show BD ⟨S2,r,rfl,f⟩
        .show A1 (JO (BD ⟨S2.aej _,o2,i2,U,_,rfl,j2,f1,f2,Q8.mp (FQ h3 f3)⟩))
      case t1=>
        intro y c st2 _ R hI;lk;obtain⟨S2,o2,i2,U,m2,p,q,rfl,j2,f1,f2,f3⟩:=hI;k_in;show(λ(N:∀m3:Nat,(?G:Nat->Prop) m3)=>?u) ?v;case u=>
          by_cases z:m2>1
          . show Cj z ?_;generalize m2-1=m3;show N m3
          . show C0 z ?_;generalize m2=m3;show N m3
        case v=>
          intro m3;show A1 (JO ?_);have S3:=S2.aej m3;show A1 (E8 f2 ?_);show(λ(N:∀(k i3:Nat)(o3:Array Au),Dx (BS kf) a.toList b.toList o3.toList i3 U->(∀m(l:m<a.size),i3<=m->BS kf b[U] a[m])->i3+1<a.size->V+Y+1<=i3+U->(?G2:Nat->Nat->Array Au->Prop) k i3 o3)=>?u2) ?v2;case u2=>
            show A1 (Nw C S3.sb (bm f2) ha (by dsimp only;show(LX (DY (Bg f1))).mp (Ag _)) (by dsimp only;show Ul.mpr (HF f1)) (Ko pa (by dsimp only;show(LX (DY (Bg f1))).mp (Ag _))) λk d bl bg=>?_);dsimp only at d;have runA:∀m,m<k->∀(l:i2+m<a.size),BS kf a[i2+m] b[U]:=λm z l=>by have:=bl m z;unfold CU at this;rw[AED DN,DW l]at this;change O.blt _ _=AM;simpa using this
            have runB:∀m,k<=m->∀(l:i2+m<a.size),BS kf b[U] a[i2+m]:=λm z l=>by have:=bg m z (by(clear z runA bg bl d N f3 f2 R g3 g2 o h3 h2 h1 P e2 e1 j0 X M b1 a1;dsimp only;show Ul.mpr l));unfold CU at this;rw[AED DN,DW l]at this;show Jq (by change O.blt _ _=AI;simpa using this)
            have j3:Dx (BS kf) a.toList b.toList (o2++a.extract i2 (i2+k)).toList (i2+k) U:=by rw[cZ];show j2.yu pa λx P y R=>?_;obtain⟨m,l,hm2,rfl⟩:=PV P;obtain⟨m',hm',rfl⟩:=Nv R;show Gp (runA m l hm2) (lb hm')
            have pre:(k>0/\i2+k+1=a.size)\/(k>0/\i2+k=a.size)\/i2+k+1<a.size:=by(clear runB runA bg bl N f3 f2 R g3 g2 o h3 h2 h1 P e2 e1 j0 X M b1 a1;lia)
            rcases pre with⟨zk,n⟩|⟨zk,n⟩|n;. show Cj zk (Cj (by simpa using n) ?_);show BD ⟨S3,.inl ⟨_,rfl,t j3 n⟩⟩
            . show Cj zk (C0 (by simp;show MT (LY.mpr (BW n.symm))) (Cj (by simpa using n) ?_));show BD ⟨S3,.inl ⟨_,rfl,T j3 (.inr n)⟩⟩
            have hB3:∀m(l:m<a.size),i2+k<=m->BS kf b[U] a[m]:=λm l z=>by have:=runB (m-i2) ((LX (DY z)).mpr z) (lt_of_eq_of_lt (G9 (DY z)) l);simpa[show i2+(m-i2)=m from G9 (DY z)]using this
            by_cases zk:k>0
            . show Cj zk (C0 (by simp;show DV n) (C0 (by simp;show DV (HF n)) ?_));generalize o2++a.extract i2 (i2+k)=o3 at j3⊢;have f3':V+Y+1<=(i2+k)+U:=by lia
              generalize i2+k=i3 at j3 hB3 n f3'⊢;show N k i3 o3 j3 hB3 n f3'
            . show C0 zk ?_;have zk0:k=0:=ABI (E6 zk);have eo:o2++a.extract i2 (i2+k)=o2:=by rw[zk0];simp;show Kf _ _
              rw[eo,zk0,Ui]at j3;rw[zk0,Ui]at hB3 n;show N k i2 o2 j3 hB3 n f3
          case v2=>
            intro k i3 o3 j3 hB3 n f3';have hi3:i3<a.size:=HF n;show A1 (E8 f2 ?_);have j4:=oneB (by omega) f2 j3 (hB3 i3 (by omega) (Ag _));by_cases z3:U+1=b.size
            . show Cj (by simpa using z3) ?_;show BD ⟨S3,.inl ⟨_,rfl,T j4 (.inl z3)⟩⟩
            show C0 (by simpa using z3) ?_;show A1 (E8 (by omega:i3<a.size) ?_);show(λ(N:∀(k' k5:Nat)(o5:Array Au),Dx (BS kf) a.toList b.toList o5.toList i3 k5->(∀m(l:m<b.size),k5<=m->BS kf (a[i3]'hi3) b[m])->k5<b.size->V+Y+1<=i3+k5->(?G3:Nat->Nat->Array Au->Prop) k' k5 o5)=>?u3) ?v3;case u3=>
              show A1 (Nw C S3.sb (am (by omega)) hb (by dsimp only;show BW (G9 f2)) (by(clear N hi3 f3' n f3 f1 R g3 g2 o h3 h2 h1 P e2 e1 j0 X M b1 a1;dsimp only;show Ul.mpr (Cy f2 z3))) (Ko pb (by dsimp only;show BW (G9 f2))) λk' hk' bl' bg'=>?_);dsimp only at hk';have runB':∀m,m<k'->∀(l:U+1+m<b.size),BS kf b[U+1+m] (a[i3]'(by omega)):=λm z l=>by have:=bl' m z;unfold CU at this;rw[AEE rfl,DW l]at this;show Jq this
              have Z:∀m(l:m<b.size),U+1+k'<=m->BS kf (a[i3]'(by omega)) b[m]:=λm l z=>by have:=bg' (m-(U+1)) ((LX (DY z)).mpr z) (by(clear runB' bg' bl' hk' N z3 hi3 f3' n f3 f1 R g3 g2 o h3 h2 h1 P e2 e1 j0 X M b1 a1;dsimp only;show Nat.sub_lt_sub_right (DY z) l));unfold CU at this;rw[AEE rfl]at this;have e:U+1+(m-(U+1))=m:=G9 (DY z);rw[e,DW l]at this;show this
              have j5:Dx (BS kf) a.toList b.toList (o3.push b[U]++b.extract (U+1) (U+1+k')).toList i3 (U+1+k'):=by rw[cZ];show j4.aag pb λx P y R=>?_;obtain⟨m,l,hm2,rfl⟩:=PV P;obtain⟨m',hm',rfl⟩:=Nv R;show Gp (runB' m l hm2) (la hm')
              have pre:(k'>0/\U+1+k'=b.size)\/U+1+k'<b.size:=by(clear Z runB' bg' bl' N hi3 f3' n f3 f1 R g3 g2 o h3 h2 h1 P e2 e1 j0 X M b1 a1;lia)
              rcases pre with⟨zk',z4⟩|z4;. show Cj zk' (Cj (by simpa using z4) ?_);show BD ⟨S3,.inl ⟨_,rfl,T j5 (.inl z4)⟩⟩
              have f4':V+Y+1<=i3+(U+1+k'):=by lia
              by_cases zk':k'>0
              . show Cj zk' (C0 (by simp;show DV z4) ?_);generalize o3.push b[U]++b.extract (U+1) (U+1+k')=o5 at j5⊢;generalize U+1+k'=k5 at j5 Z z4 f4'⊢;show N k' k5 o5 j5 Z z4 f4'
              . show C0 zk' ?_;have zk0:k'=0:=by(show ABI (E6 zk'))
                have eo:o3.push b[U]++b.extract (U+1) (U+1+k')=o3.push b[U]:=by rw[zk0];simp;(clear zk0 zk' f4' z4 Z runB' bg' bl' hk' N z3 hi3 f3' n f3 f1 R g3 g2 o h3 h2 h1 P e2 e1 j0 X M b1 a1;show Kf _ _)
                rw[eo,zk0,Ui]at j5;rw[zk0,Ui]at Z z4 f4';show N k' _ _ j5 Z z4 f4'
            case v3=>
              intro k' k5 o5 j5 Z z4 f4';show A1 (E8 (by omega:i3<a.size) ?_);have j6:=oneA (by omega) z4 j5 (Z k5 z4 (Ag _));by_cases z5:i3+1+1=a.size;. show Cj (by simpa using z5) ?_;show BD ⟨S3,.inl ⟨_,rfl,t j6 z5⟩⟩
              show C0 (by simpa using z5) ?_;by_cases z6:(Ac (k<7)&&Ac (k'<7))=AI
              . show Cj z6 ?_;show BD ⟨S3,.inr ⟨_,_,_,_,_,_,rfl,j6,Cy n z5,z4,by lia⟩⟩
              . show C0 z6 ?_;show BD ⟨S3,_,_,_,_,_,_,rfl,j6,Cy n z5,z4,by lia⟩
theorem PU(a:Array Au)(h:n<=a.size):a.toList.reverse.drop (a.size-n)=(a.toList.take n).reverse:=by rw[List.drop_reverse];grind
theorem Jw{a:Array Au}(h:n<=a.size)(J:x∈a.toList.reverse.drop (a.size-n)):∃m,∃(D:m<a.size),m<n/\x=a[m]:=by lk;obtain⟨m,D,e⟩:=Gk.mp J;k_in;grind
theorem Pc(a:Array Au)(h:n<=a.size)(D:t<=n):(a.toList.reverse.drop (a.size-n)).take (n-t)=(a.extract t n).toList.reverse:=by rw[PU a h,List.take_reverse];simp;rw[List.drop_take];grind
theorem PX(a:Array Au)(h:n<=a.size)(D:1<=n):(a.toList.reverse.drop (a.size-n)).take 1=[a[n-1]]:=by have e:=Pc a h (show n-1<=n by simp);rw[show n-(n-1)=1 by show aN D]at e;rw[e];have:=PY (La D h);simp;grind
theorem cL{D J l:List Au}(h:Fg (λp q=>R q p) D.reverse J.reverse l.reverse):Fg R D J l:=by show⟨(List.reverse_perm l).symm.trans (h.1.trans (by grind)),?_⟩;show xB.mp h.2
abbrev GZ{O:Ut}(kf:AJ->O.α)(a b out:Array Au)(D U:Nat):Prop:=Dx (λp q=>BS kf q p) a.toList.reverse b.toList.reverse out.toList (a.size-D) (b.size-U)
theorem AAI{N:Array Au}{st:CJ}(C:Ff prog w A s κ O kf N)(B:CM κ N st){a b:Array Au}(ha:∀p∈a.toList,p∈N.toList)(hb:∀p∈b.toList,p∈N.toList)(a1:1<=a.size)(b1:1<=b.size)(pa:a.toList.Pairwise (BS kf))(pb:b.toList.Pairwise (BS kf))(o:∀p∈a.toList,BS kf b[0] p)(last:∀p∈b.toList,BS kf p a[a.size-1])(h:∀m M,HK κ N st M->Fg (BS kf) a.toList b.toList m.toList->Q m M):EV (Ak prog w) A E s (AAB a b) Q st:=by
  have pa':a.toList.reverse.Pairwise (λp q=>BS kf q p):=xB.mpr pa;have pb':b.toList.reverse.Pairwise (λp q=>BS kf q p):=xB.mpr pb;have n:∀{D:Array Au}{Y W:Nat},Y<=a.size->W<=b.size->GZ kf a b D Y W->(Y=0\/W=0)->Fg (BS kf) a.toList b.toList (a.extract 0 Y++b.extract 0 W++D.reverse).toList:=λ{D Y W}q1 q2 j e=>by
    show cL ?_;have el:(a.extract 0 Y++b.extract 0 W++D.reverse).toList.reverse=D.toList++b.toList.reverse.drop (b.size-W)++a.toList.reverse.drop (a.size-Y):=by rw[PU a q1,PU b q2];simp[UZ]
    rw[el];show(j.yb.abv pb' pa' λx X y hy=>?_).yb;obtain⟨m,hm,z,rfl⟩:=Jw q2 X;obtain⟨m',hm',z',rfl⟩:=Jw q1 hy;lia
  have l:∀{D:Array Au}{Y W:Nat},Y<=a.size->W<=b.size->GZ kf a b D Y W->W=1->Fg (BS kf) a.toList b.toList (b.extract 0 W++a.extract 0 Y++D.reverse).toList:=λ{D Y W}q1 q2 j e=>by
    show cL ?_;have el:(b.extract 0 W++a.extract 0 Y++D.reverse).toList.reverse=D.toList++a.toList.reverse.drop (a.size-Y)++b.toList.reverse.drop (b.size-W):=by rw[PU a q1,PU b q2];simp[UZ]
    rw[el];show j.abv pa' pb' λx X y hy=>?_;obtain⟨m,hm,z,rfl⟩:=Jw q1 X;obtain⟨m',hm',z',rfl⟩:=Jw q2 hy;have:m'=0:=by simp_all
    subst this;show o _ (by simp)
  have am:∀{i:Nat}(hi:i<a.size),a[i]∈N.toList:=λhi=>ha _ (by simp);have bm:∀{i:Nat}(hi:i<b.size),b[i]∈N.toList:=λhi=>hb _ (by simp);have la:∀{i k:Nat}(hk:k<a.size)(h:i<=k),BS kf (a[i]'(FQ h hk)) a[k]:=λ{i k}hk h=>by have:=Ko pa (lo:=0) (Ag _) i k (by simp) (by omega) hk;rw[DW (FQ h hk:i<a.size),DW hk]at this;show this
  have lb:∀{i k:Nat}(hk:k<b.size)(h:i<=k),BS kf (b[i]'(FQ h hk)) b[k]:=λ{i k}hk h=>by have:=Ko pb (lo:=0) (Ag _) i k (by simp) (by omega) hk;rw[DW (FQ h hk:i<b.size),DW hk]at this;show this
  have oneA:∀{D:Array Au}{Y W:Nat}(h1:1<=Y)(h2:Y<=a.size)(h3:1<=W)(h4:W<=b.size),GZ kf a b D Y W->BS kf b[W-1] a[Y-1]->GZ kf a b (D.push a[Y-1]) (Y-1) W:=λ{D Y W}h1 h2 h3 h4 j r=>by
    have e:(D.push a[Y-1]).toList=D.toList++(a.toList.reverse.drop (a.size-Y)).take 1:=by rw[PX a h2 h1];simp
    change Dx _ _ _ (D.push a[Y-1]).toList _ _;rw[e,show a.size-(Y-1)=a.size-Y+1 by(clear r h4 h3 last o b1 a1;lia)];show j.yu pa' λx X y hy=>?_;rw[PX a h2 h1,BV]at X;obtain⟨m,hm,z,rfl⟩:=Jw h4 hy;rw[X];show Gp (lb (La h3 h4) ((Uj h3).mpr z:m<=W-1)) r
  have oneB:∀{D:Array Au}{Y W:Nat}(h1:1<=Y)(h2:Y<=a.size)(h3:1<=W)(h4:W<=b.size),GZ kf a b D Y W->BS kf a[Y-1] b[W-1]->GZ kf a b (D.push b[W-1]) Y (W-1):=λ{D Y W}h1 h2 h3 h4 j r=>by
    have e:(D.push b[W-1]).toList=D.toList++(b.toList.reverse.drop (b.size-W)).take 1:=by rw[PX b h4 h3];simp
    change Dx _ _ _ (D.push b[W-1]).toList _ _;rw[e,show b.size-(W-1)=b.size-W+1 by(clear r h2 h1 last o b1 a1;lia)];show j.aag pb' λx X y hy=>?_;rw[PX b h4 h3,BV]at X;obtain⟨m,hm,z,rfl⟩:=Jw h2 hy;rw[X];show Gp (la (La h1 h2) ((Uj h1).mpr z:m<=Y-1)) r
  show A1 (O3 (PM ⟨rfl,?_⟩));show A1 (E8 (by omega:a.size-1<a.size) ?_);have j0:GZ kf a b (#[a[a.size-1]]:Array Au) (a.size-1) b.size:=by
    show⟨?_,by simp,λx X y hy=>?_,λx X y hy=>?_⟩
    . have:=PX a (Ag _) a1;rw[aM,List.drop_zero]at this;rw[show a.size-(a.size-1)=1 by show aN a1,this];simp
    . simp only[BV]at X;obtain⟨m,hm,z,rfl⟩:=Jw (by simp) hy;rw[X];show la (Uo a1 (by decide)) (Bg z)
    . simp only[BV]at X;obtain⟨m,hm,z,rfl⟩:=Jw (Ag _) hy;rw[X];show last _ (by simp)
  by_cases e1:a.size-1=0;. show Cj (by simpa using e1) ?_;show BD (h _ st ⟨B,rfl,rfl⟩ (n (by simp) (Ag _) j0 (.inl e1)))
  show C0 (by simpa using e1) ?_;by_cases e2:b.size=1;. show Cj (by simpa using e2) ?_;show BD (h _ st ⟨B,rfl,rfl⟩ (l (by simp) (Ag _) j0 e2))
  show C0 (by simpa using e2) ?_;show A1 (Ld ?_);show A1 (Hv (HH (I:=λx c M=>HK κ N st M/\∃Y W D g,c=(AF,Y,W,D,g)/\GZ kf a b D Y W/\1<=Y/\Y<=a.size/\2<=W/\W<=b.size/\x+1+Y+W<=a.size+b.size) (Q:=λc M=>HK κ N st M/\∃r,c.1=AA r/\Fg (BS kf) a.toList b.toList r.toList) ?pj ?fin ?adv) ?post);case adv=>show⟨⟨B,rfl,rfl⟩,_,_,_,_,rfl,j0,Jp.mpr e1,by simp,Q8.mp (Cy b1 (DZ e2)),Ag _,by simp_all⟩
  case fin=> intro c M hI;lk;obtain⟨S,Y,W,D,g,rfl,j,h1,h2,h3,h4,h5⟩:=hI;k_in;lia
  case post=> intro c M hI;lk;obtain⟨S,r,e,f⟩:=hI;obtain⟨c1,c2⟩:=c;obtain rfl:c1=AA r:=e;k_in;show BD (h r M S f)
  case pj=>
    intro x c st1 hx0 X hI;lk;obtain⟨S,Y,W,D,g,rfl,j,h1,h2,h3,h4,h5⟩:=hI;k_in;show A1 (Hv (HH (I:=λy c M=>M=st1/\∃H K P p q,c=(AF,H,K,P,p,q)/\GZ kf a b P H K/\1<=H/\H<=a.size/\2<=K/\K<=b.size/\H+K+y<=Y+W) (Q:=λc M=>M=st1/\((∃r,c.1=AA r/\Fg (BS kf) a.toList b.toList r.toList)\/∃H K P p q,c=(AF,H,K,P,p,q)/\GZ kf a b P H K/\1<=H/\H<=a.size/\2<=K/\K<=b.size/\H+K+1<=Y+W)) ?s1 ?s2 ?s3) ?s4);case s3=>show⟨rfl,Y,W,D,0,0,rfl,j,h1,h2,h3,h4,Ag _⟩
    case s2=> intro c M hI;lk;obtain⟨rfl,H,K,P,p,q,rfl,j',g1,g2,g3,g4,g5⟩:=hI;k_in;show⟨rfl,.inr ⟨H,K,P,p,q,rfl,j',g1,g2,g3,g4,by lia⟩⟩
    case s1=> intro y c M hy0 hy hI;lk;obtain⟨rfl,H,K,P,p,q,rfl,j',g1,g2,g3,g4,g5⟩:=hI;k_in;clear hy0 h1 h2 h3 h4 h5 X hx0 e1 e2 j0 j o last;show A1 (E8 (Ox (Bg g3) (LY.mpr g4):K-1<b.size) (A1 (E8 (La g1 g2:H-1<a.size) (A1 (PZ C S.sb (bm (Ox (Bg g3) (LY.mpr g4))) (am (La g1 g2)) ?_)))));cases e:O.blt (kf (b[K-1]'(Ox (Bg g3) (LY.mpr g4))).1) (kf (a[H-1]'(La g1 g2)).1)with
      |true=>
        show Cj rfl ?_;show A1 (E8 (La g1 g2:H-1<a.size) ?_);have j2:=oneA g1 g2 (Bg g3) g4 j' (Jq e);by_cases z:H-1=0
        . show Cj (by simpa using z) ?_;show BD ⟨rfl,.inl ⟨_,rfl,n (by dsimp only;simp_all) g4 j2 (.inl z)⟩⟩
        . show C0 (by simpa using z) ?_;split;.show BD ⟨rfl,.inr ⟨_,_,_,_,_,rfl,j2,by dsimp only;show Jp.mpr z,by dsimp only;show Bg (La g1 g2),g3,g4,by dsimp only;lia⟩⟩
          .show BD ⟨rfl,_,_,_,_,_,rfl,j2,by dsimp only;show Jp.mpr z,by dsimp only;show Bg (La g1 g2),g3,g4,by dsimp only;lia⟩|false=>
        show C0 DN ?_;show A1 (E8 (Ox (Bg g3) (LY.mpr g4):K-1<b.size) ?_);have j2:=oneB g1 g2 (Bg g3) g4 j' e;by_cases z:K-1=1;. show Cj (by simpa using z) ?_;show BD ⟨rfl,.inl ⟨_,rfl,l g2 (by dsimp only;show Af (BW z) b1) j2 z⟩⟩
        . show C0 (by simpa using z) ?_;split;.show BD ⟨rfl,.inr ⟨_,_,_,_,_,rfl,j2,g1,g2,by(clear j2 e g5 g4 g2 g1 hy b1 a1;dsimp only;lia),by dsimp only;show Af (xN _ _) g4,by dsimp only;lia⟩⟩
          .show BD ⟨rfl,_,_,_,_,_,rfl,j2,g1,g2,by(clear j2 e g5 g4 g2 g1 hy b1 a1;dsimp only;lia),by dsimp only;show Af (xN _ _) g4,by dsimp only;lia⟩
    case s4=>
      rintro c M⟨rfl,⟨r,e,f⟩|⟨H,K,P,p,q,rfl,j',g1,g2,g3,g4,g5⟩⟩;. obtain⟨c1,c2⟩:=c;obtain rfl:c1=AA r:=e;show BD ⟨S,r,rfl,f⟩
      show A1 (O3 (PM ⟨rfl,?_⟩));show A1 (Hv (HH (I:=λy c st2=>HK κ N st st2/\∃i2 Z o2 m2 p q,c=(AF,i2,Z,o2,m2,p,q)/\GZ kf a b o2 i2 Z/\1<=i2/\i2<=a.size/\2<=Z/\Z<=b.size/\i2+Z+1<=Y+W) (Q:=λc st2=>HK κ N st st2/\((∃r,c.1=AA r/\Fg (BS kf) a.toList b.toList r.toList)\/∃i2 Z o2 m2 p q,c=(AF,i2,Z,o2,m2,p,q)/\GZ kf a b o2 i2 Z/\1<=i2/\i2<=a.size/\2<=Z/\Z<=b.size/\i2+Z+1<=Y+W)) ?t1 ?t2 ?t3) ?t4);case t3=>show⟨S,H,K,P,_,p,q,rfl,j',g1,g2,g3,g4,g5⟩
      case t2=>rintro c st2⟨S2,r⟩;show⟨S2,.inr r⟩
      case t4=>
        rintro c st2⟨S2,⟨r,e,f⟩|⟨i2,Z,o2,m2,p,q,rfl,j2,f1,f2,f3,f4,f5⟩⟩;. obtain⟨c1,c2⟩:=c;obtain rfl:c1=AA r:=e;show BD ⟨S2,r,rfl,f⟩
        .show A1 (JO (BD ⟨S2.aej _,i2,Z,o2,_,rfl,j2,f1,f2,f3,f4,by lia⟩))
      case t1=>
        intro y c st2 hy0 hy hI;lk;obtain⟨S2,i2,Z,o2,m2,p,q,rfl,j2,f1,f2,f3,f4,f5⟩:=hI;k_in;clear hy0 hy j' g1 g2 g3 g4 g5 j h1 h2 h3 h4 h5 X hx0 e1 e2 j0 S o last;show(λ(L:∀m3:Nat,(?G:Nat->Prop) m3)=>?u) ?v;case u=>
          by_cases z:m2>1
          . show Cj z ?_;generalize m2-1=m3;show L m3
          . show C0 z ?_;generalize m2=m3;show L m3
        case v=>
          intro m3;show A1 (JO ?_);have S3:=S2.aej m3;have U:Z-1<b.size:=Ox (Bg f3) (LY.mpr f4);show A1 (E8 U ?_);show(λ(L:∀(c i3:Nat)(o3:Array Au),GZ kf a b o3 i3 Z->(∀m(hm:m<a.size),m<i3->BS kf a[m] (b[Z-1]'U))->1<=i3->i3<=a.size->i3+Z+1<=Y+W->(?G2:Nat->Nat->Array Au->Prop) c i3 o3)=>?u2) ?v2;case u2=>
            show A1 (Nw C S3.sb (bm U) ha (by dsimp only;simp_all) (by dsimp only;show Uo f1 (by decide)) (Ko pa (by dsimp only;simp_all)) λt ht bl bg=>?_);dsimp only at ht;have F:∀m(hm:m<a.size),m<t->BS kf a[m] (b[Z-1]'U):=λm hm z=>by have:=bl m z;unfold CU at this;rw[AED DN,DW (Kc hm:0+m<a.size)]at this;change O.blt _ _=AM;simpa using this
            have runB:∀m(hm:m<a.size),t<=m->m<i2->BS kf (b[Z-1]'U) a[m]:=λm hm z z'=>by have:=bg m z z';unfold CU at this;rw[AED DN,DW (Kc hm:0+m<a.size)]at this;show Jq (by change O.blt _ _=AI;simpa using this)
            have j3:GZ kf a b (o2++(a.extract t i2).reverse) t Z:=by
              have e:(o2++(a.extract t i2).reverse).toList=o2.toList++(a.toList.reverse.drop (a.size-i2)).take (i2-t):=by rw[Pc a f2 ht];simp
              change Dx _ _ _ (o2++(a.extract t i2).reverse).toList _ _;rw[e,show a.size-t=a.size-i2+(i2-t)from(xM ((aL (Af ht f2)).mpr f2)).mp (xQ ht)];show j2.yu pa' λx X y hy=>?_;rw[Pc a f2 ht,AA6]at X;simp only[c8,UZ]at X;obtain⟨m,hm,hm2,rfl⟩:=PV X;obtain⟨m',hm',z,rfl⟩:=Jw f4 hy;show Gp (lb (by omega) (aG z:m'<=Z-1)) (runB _ hm2 (by simp) (Kc hm))
            have pre:(i2-t>0/\t=0)\/1<=t:=by(clear runB F bg bl L U f5 f4 f3 f2 b1 a1;lia)
            rcases pre with⟨zk,z1⟩|z1
            . show Cj zk (Cj (by simpa using z1) ?_);show BD ⟨S3,.inl ⟨_,rfl,n (by simp_all) f4 j3 (.inl z1)⟩⟩
            have t2:t<=a.size:=Af ht f2;have T:t+Z+1<=Y+W:=by lia
            by_cases zk:i2-t>0
            . show Cj zk (C0 (by simp;show MT z1) ?_);generalize i2-t=c;generalize o2++(a.extract t i2).reverse=o3 at j3⊢;clear bl bg ht runB zk;generalize t=i3 at j3 F z1 t2 T⊢;show L c i3 o3 j3 F z1 t2 T
            . show C0 zk ?_;have zk0:t=i2:=by(clear T t2 z1 runB F bg bl L U f5 f4 f3 f2 f1 b1 a1;lia)
              have eo:o2++(a.extract t i2).reverse=o2:=by rw[zk0];simp;show Kf _ _
              rw[eo,zk0]at j3;rw[zk0]at F z1 t2 T;generalize i2-t=c;show L c i2 o2 j3 F z1 t2 T
          case v2=>
            intro c i3 o3 j3 F z1 t2 T;have d:i3-1<a.size:=La z1 t2;show A1 (E8 U ?_);have j4:=oneB z1 t2 (Bg f3) f4 j3 (F _ (by omega) (Uo z1 (by decide)));by_cases z3:Z-1=1;. show Cj (by simpa using z3) ?_;show BD ⟨S3,.inl ⟨_,rfl,l t2 (by dsimp only;show Bg U) j4 z3⟩⟩
            show C0 (by simpa using z3) ?_;show A1 (E8 (by omega:i3-1<a.size) ?_);show(λ(L:∀(c' k5:Nat)(o5:Array Au),GZ kf a b o5 i3 k5->(∀m(hm:m<b.size),m<k5->BS kf b[m] (a[i3-1]'d))->2<=k5->k5<=b.size->i3+k5+1<=Y+W->(?G3:Nat->Nat->Array Au->Prop) c' k5 o5)=>?u3) ?v3;case u3=>
              show A1 (Nw C S3.sb (am (by omega)) hb (by dsimp only;show AEQ (ABF.mpr rfl) (Bg U)) (by(clear L j4 d T t2 F U f5 f4 f2 f1 b1 a1;dsimp only;show(Nat.mod_eq_iff_lt (xO.mpr f3)).mp (Nat.self_sub_mod _ _))) (Ko pb (by dsimp only;show AEQ (ABF.mpr rfl) (Bg U))) λt' ht' bl' bg'=>?_);dsimp only at ht';have V:∀m(hm:m<b.size),m<t'->BS kf b[m] (a[i3-1]'(by omega)):=λm hm z=>by have:=bl' m z;unfold CU at this;rw[AEE rfl,DW (Kc hm:0+m<b.size)]at this;show Jq (by change O.blt _ _=AI;simpa using this)
              have R:∀m(hm:m<b.size),t'<=m->m<Z-1->BS kf (a[i3-1]'(by omega)) b[m]:=λm hm z z'=>by have:=bg' m z z';unfold CU at this;rw[AEE rfl,DW (Kc hm:0+m<b.size)]at this;change O.blt _ _=AM;simpa using this
              have j5:GZ kf a b (o3.push (b[Z-1]'U)++(b.extract t' (Z-1)).reverse) i3 t':=by
                have e:(o3.push (b[Z-1]'U)++(b.extract t' (Z-1)).reverse).toList=(o3.push (b[Z-1]'U)).toList++(b.toList.reverse.drop (b.size-(Z-1))).take (Z-1-t'):=by rw[Pc b (Bg U) ht'];simp
                change Dx _ _ _ (o3.push (b[Z-1]'U)++(b.extract t' (Z-1)).reverse).toList _ _;rw[e,show b.size-t'=b.size-(Z-1)+(Z-1-t')from(xM ((aL (Af ht' (Bg U))).mpr (Bg U))).mp (xQ ht')];show j4.aag pb' λx X y hy=>?_;rw[Pc b (Bg U) ht',AA6]at X;simp only[c8,UZ]at X;obtain⟨m,hm,hm2,rfl⟩:=PV X;obtain⟨m',hm',z,rfl⟩:=Jw t2 hy;show Gp (la (by omega) ((Uj z1).mpr z:m'<=i3-1)) (R _ hm2 (by simp) (Kc hm))
              have pre:(Z-1-t'>0/\t'=1)\/(Z-1-t'>0/\t'=0)\/2<=t':=by(clear j5 R V bg' bl' L j4 d T t2 F U f5 f4 f2 f1 b1 a1;lia)
              rcases pre with⟨zk',z4⟩|⟨zk',z4⟩|z4;. show Cj zk' (Cj (by simpa using z4) ?_);show BD ⟨S3,.inl ⟨_,rfl,l t2 (Af ht' (Bg U)) j5 z4⟩⟩
              . show Cj zk' (C0 (by simp;simp_all) (Cj (by simpa using z4) ?_));show BD ⟨S3,.inl ⟨_,rfl,n t2 (by(clear zk' R V bg' bl' L z3 j4 d T t2 z1 f5 f4 f3 f2 f1 b1 a1;simp_all)) j5 (.inr z4)⟩⟩
              have t4:t'<=b.size:=Af ht' (Bg U);have f6':i3+t'+1<=Y+W:=by(clear t4 j5 R V bg' bl' L j4 d t2 F U f5 f4 f2 f1 b1 a1;lia)
              by_cases zk':Z-1-t'>0
              . show Cj zk' (C0 (by simp;show MT z4) (C0 (by simp;show Ne.intro (λu1=>xK _ (Af z4 (BW u1)))) ?_));generalize Z-1-t'=c';generalize o3.push (b[Z-1]'U)++(b.extract t' (Z-1)).reverse=o5 at j5⊢;clear bl' bg' ht' R zk';generalize t'=k5 at j5 V z4 t4 f6'⊢;show L c' k5 o5 j5 V z4 t4 f6'
              . show C0 zk' ?_;have zk0:t'=Z-1:=by(clear f6' t4 j5 R V bg' bl' L j4 d T t2 F U f5 f4 f2 f1 b1 a1;grind)
                have eo:o3.push (b[Z-1]'U)++(b.extract t' (Z-1)).reverse=o3.push (b[Z-1]'U):=by rw[zk0];simp;(clear zk' f6' t4 z4 R V bg' bl' ht' L z3 j4 d T t2 z1 f5 f4 f3 f2 f1 b1 a1;show Kf _ _)
                rw[eo,zk0]at j5;rw[zk0]at V z4 t4 f6';generalize Z-1-t'=c';show L c' _ _ j5 V z4 t4 f6'
            case v3=>
              intro c' k5 o5 j5 V z4 t4 f6';show A1 (E8 (by omega:i3-1<a.size) ?_);have j6:=oneA z1 t2 (Bg z4) t4 j5 (V _ (Ox (Bg z4) (LY.mpr t4)) ((xF (HF z4)).mp (Ag _)));by_cases z5:i3-1=0;. show Cj (by simpa using z5) ?_;show BD ⟨S3,.inl ⟨_,rfl,n (Bg d) t4 j6 (.inl z5)⟩⟩
              show C0 (by simpa using z5) ?_;split;.show BD ⟨S3,.inr ⟨_,_,_,_,_,_,rfl,j6,Jp.mpr z5,Bg d,z4,t4,by(clear j6 t4 z4 V j4 d T t2 F U f5 f4 f3 f2 f1 b1 a1;lia)⟩⟩
              .show BD ⟨S3,_,_,_,_,_,_,rfl,j6,Jp.mpr z5,Bg d,z4,t4,by(clear j6 t4 z4 V j4 d T t2 F U f5 f4 f3 f2 f1 b1 a1;lia)⟩
theorem cM(p:Nat):∀(M:List Au)(n:Nat)(xs:Array Au),p+n+M.length<=xs.size->((M.zipIdx n).foldl (λa x=>a.setIfInBounds (p+x.2) x.1) xs).toList=xs.toList.take (p+n)++M++xs.toList.drop (p+n+M.length)|[],n,xs,h=>by simp|m::r,n,xs,h=>by rw[List.zipIdx_cons,wU,cM p r _ _ (by simp;show AEQ (Nat.succ_add _ _) h)];simp only[AAP];rw[List.drop_set_of_lt (by omega),show p+(n+1)=p+n+1 by rfl,EI,List.take_set_of_le (Ag _)];grind
theorem cP{O:Ut}{kf:AJ->O.α}{xs:Array Au}{lo hi:Nat}(h:hi<=xs.size)(u:DC kf xs lo hi):(xs.extract lo hi).toList.Pairwise (BS kf):=by
 rw[Gm];intro i j U V D;have e:∀k(W:k<(xs.extract lo hi).toList.length),(xs.extract lo hi).toList[k]=xs[lo+k]'(by grind):=(by simp);rw[e i _,e j V];have J:j<hi-lo:=by grind
 have:=u _ _ (by simp) (E5 (Bg D) _) (Kc J);rw[DW _,DW _]at this;show this
theorem cO{xs:Array Au}{lo:Nat}(h:hi<=xs.size)(D:p∈(xs.extract lo hi).toList):∃m,lo<=m/\m<hi/\∃(J:m<xs.size),p=xs[m]:=by simp at D;lk;obtain⟨m,J,U,rfl⟩:=PV D;k_in;grind
theorem z9(xs:Array Au)(D:i<=j)(J:j<=k)(V:k<=xs.size):xs.toList=xs.toList.take i++((xs.extract i j).toList++(xs.extract j k).toList)++xs.toList.drop k:=by
 simp only[c8,UZ];have e1:aD (k-i) (xs.toList.drop i)=aD (j-i) (xs.toList.drop i)++aD (k-j) (xs.toList.drop j):=by rw[show k-i=(j-i)+(k-j)by show(Nat.sub_eq_iff_eq_add' ((aL (Af D J)).mpr J)).mp (xQ D),ABA,wO,show i+(j-i)=j by show G9 D]
 have U:xs.toList.drop i=aD (k-i) (xs.toList.drop i)++xs.toList.drop k:=by conv=>lhs;rw[<-Q6 _ (xs.toList.drop i),wO,show i+(k-i)=k by show G9 (Af D J)]
 rw[<-e1,E4,<-U,Q6]
theorem AAK{A:Cf}{E:AJ->AV->Prop}{s:AV}{M:Jt}{D:Type}{t u:D}{Q:PUnit->D->Prop}(h:Q ⟨⟩ t):EV M A E s (set t:StateT D Cz PUnit) Q u:=by show Ci ⟨rfl,h⟩
theorem AAH{c:Array Au}{st:CJ}(C:Ff prog w A s κ O kf c)(B:CM κ c st)(p1:(Bn st)[i]?=AA (D,Z,pw))(p2:(Bn st)[i+1]?=AA (D+Z,nb,pw'))(r:1<=Z)(L:1<=nb)(d:D+Z+nb<=c.size)(ua:DC kf (Ah st) D (D+Z))(ub:DC kf (Ah st) (D+Z) (D+Z+nb))(h:∀st',CM κ c st'->Bn st'=((Bn st).setIfInBounds i (D,Z+nb,pw)).eraseIdxIfInBounds (i+1)->DC kf (Ah st') D (D+(Z+nb))->(∀k,k<D\/D+Z+nb<=k->BB kf (Ah st') k=BB kf (Ah st) k)->Q AI st'):EV (Ak prog w) A E s (mergeAt' i) Q st:=by
  have g:=B.yy;show A1 (Ld ?_);rw[show(sortPriv%PySem.Builtin.SortState.pending) st=Bn st from rfl,p1,p2];dsimp only;show A1 (AAK (t:=aR (aW st) (Ah st) (((Bn st).setIfInBounds i (D,Z+nb,pw)).eraseIdxIfInBounds (i+1)) (gallopOf st) (MV st)) ?_);have memA:∀p∈(Ah st).toList,p∈c.toList:=λp hp=>(RV.mp B.ph).mem_iff.mp hp;have e1:D+Z<(Ah st).size:=by lia
  show A1 (E8 e1 ?_);generalize hst1:aR (aW st) (Ah st) (((Bn st).setIfInBounds i (D,Z+nb,pw)).eraseIdxIfInBounds (i+1)) (gallopOf st) (MV st)=st1;have B1:CM κ c st1:=by rw[<-hst1];show⟨B.ph,B.jq,B.oo⟩
  have ar1:Ah st1=Ah st:=by rw[<-hst1]
  have pe1:Bn st1=((Bn st).setIfInBounds i (D,Z+nb,pw)).eraseIdxIfInBounds (i+1):=by rw[<-hst1]
  have V:BB kf (Ah st) (D+Z)=kf ((Ah st)[D+Z]'e1).1:=DW e1;show A1 (Nw (left:=AM) (key:=(Ah st)[D+Z]'e1) (base:=D) (n:=Z) (hint:=0) C B1 (memA _ (by simp)) memA (Bg e1) (by assumption) ua λk hk o l=>?_);have lowA:∀j,D<=j->j<D+k->O.kle (BB kf (Ah st) j) (BB kf (Ah st) (D+Z)):=λj j1 j2=>by have:=o (j-D) ((Q9 j1).mpr j2);unfold CU at this;rw[AED DN,<-V,show D+(j-D)=j by show G9 j1]at this;change O.blt _ _=AM;simpa using this
  have highA:∀j,D+k<=j->j<D+Z->O.kle (BB kf (Ah st) (D+Z)) (BB kf (Ah st) j):=λj j1 j2=>by have:=l (j-D) ((LX (DY j1)).mpr j1) ((Q9 (DY j1)).mpr j2);unfold CU at this;rw[AED DN,<-V,show D+(j-D)=j by show G9 (DY j1)]at this;show Jq (by change O.blt _ _=AI;simpa using this)
  dsimp only;by_cases P:Z-k=0
  . show Cj (by simpa using P) ?_;show BD (h st1 B1 pe1 ?_ λz O0=>by rw[ar1]);rw[ar1];intro x y h1 h2 h3;by_cases hx:x<D+Z
    . by_cases hy:y<D+Z;.show ua x y h1 h2 hy
      .show Gp (lowA x h1 (by lia)) (ub _ y (Ag _) (by simp_all) (by lia))
    .show ub x y (by simp_all) h2 (by lia)
  show C0 (by simpa using P) ?_;have K:D+k+(Z-k)-1<(Ah st).size:=by(clear P g d L r;omega)
  show A1 (E8 K ?_);have U:BB kf (Ah st) (D+Z-1)=kf ((Ah st)[D+k+(Z-k)-1]'K).1:=by rw[<-DW (kf:=kf) K];congr 1;lia
  show A1 (Nw (left:=AI) (key:=(Ah st)[D+k+(Z-k)-1]'K) (base:=D+Z) (n:=nb) (hint:=nb-1) C B1 (memA _ (by simp)) memA (by simp_all) (Uo L (by decide)) ub λk' H G F=>?_);have lowB:∀j,D+Z<=j->j<D+Z+k'->O.kle (BB kf (Ah st) j) (BB kf (Ah st) (D+Z-1)):=λj j1 j2=>by have:=G (j-(D+Z)) ((Q9 j1).mpr j2);unfold CU at this;rw[AEE rfl,<-U,show D+Z+(j-(D+Z))=j from G9 j1]at this;show Jq this
  have highB:∀j,D+Z+k'<=j->j<D+Z+nb->O.kle (BB kf (Ah st) (D+Z-1)) (BB kf (Ah st) j):=λj j1 j2=>by have:=F (j-(D+Z)) ((LX (DY j1)).mpr j1) ((Q9 (DY j1)).mpr j2);unfold CU at this;rw[AEE rfl,<-U,show D+Z+(j-(D+Z))=j by show G9 (DY j1)]at this;show this
  dsimp only;by_cases R:k'=0
  . show Cj (by simpa using R) ?_;show BD (h st1 B1 pe1 ?_ λz O0=>by rw[ar1]);rw[ar1];intro x y h1 h2 h3;by_cases hx:x<D+Z
    . by_cases hy:y<D+Z;.show ua x y h1 h2 hy
      .show Gp (ua x (D+Z-1) h1 (aG hx) (xP hx)) (highB y (by simp_all) (by lia))
    .show ub x y (by simp_all) h2 (by lia)
  show C0 (by simpa using R) ?_;generalize hX:(Ah st).extract (D+k) (D+Z)=X;generalize hY:(Ah st).extract (D+Z) (D+Z+k')=Y;have pX:X.toList.Pairwise (BS kf):=by rw[<-hX];show cP (Bg e1) λa b u v q3=>ua a b (DY u) v q3
  have pY:Y.toList.Pairwise (BS kf):=by rw[<-hY];show cP (by lia) λa b u v q3=>ub a b (by omega) v (BK q3 (E5 H _))
  have T:X.size=Z-k:=by rw[<-hX];simp;(clear R F G H U K P g d L r;lia)
  have zY:Y.size=k':=by rw[<-hY];simp;(clear T R F G U K P hk L r;lia)
  have mX:∀p∈X.toList,∃m,D+k<=m/\m<D+Z/\∃(hm:m<(Ah st).size),p=(Ah st)[m]:=λp hp=>cO (Bg e1) (by rw[hX];show hp);have mY:∀p∈Y.toList,∃m,D+Z<=m/\m<D+Z+k'/\∃(hm:m<(Ah st).size),p=(Ah st)[m]:=λp hp=>cO (by lia) (by rw[hY];show hp);have y0:Y[0]'(by(clear T F G H U K P l o V e1 g d L r;show AEN (xO.mp R) zY.symm))=(Ah st)[D+Z]'e1:=by subst hY;simp
  have xl:X[X.size-1]'(by(clear y0 F G H U K l o V e1 g d L;lia))=(Ah st)[D+Z-1]'(RA e1):=by subst hX;rw[Array.getElem_extract];congr 1;rw[T];(clear T y0 F G H U K l o V e1 g d L;lia)
  have J:∀p∈X.toList,BS kf (Y[0]'(by(clear xl y0 T F G H U K P l o V e1 g d L r;show AEN (xO.mp R) zY.symm))) p:=λp hp=>by obtain⟨m,u,v,hm,rfl⟩:=mX p hp;rw[y0];have:=highA m u v;rw[V,DW hm]at this;show this
  have W:∀p∈Y.toList,BS kf p (X[X.size-1]'(by(clear xl y0 F G H U K l o V e1 g d L;lia))):=λp hp=>by obtain⟨m,u,v,hm,rfl⟩:=mY p hp;rw[xl];have:=lowB m u v;rw[DW hm,DW (RA e1:D+Z-1<(Ah st).size)]at this;show this
  have inX:∀p∈X.toList,p∈c.toList:=λp hp=>by obtain⟨m,u,v,hm,rfl⟩:=mX p hp;show memA _ (by simp)
  have inY:∀p∈Y.toList,p∈c.toList:=λp hp=>by obtain⟨m,u,v,hm,rfl⟩:=mY p hp;show memA _ (by simp)
  have fin:∀(M:Array Au)(I:CJ),HK κ c st1 I->Fg (BS kf) X.toList Y.toList M.toList->Q AI (O2 I (M.toList.zipIdx.foldl (λa x=>a.setIfInBounds (D+k+x.2) x.1) (Ah I))):=λM I S f=>by
    have lM:M.toList.length=(Z-k)+k':=by rw[f.1.length_eq,Bs];simp[T,zY]
    have ar2:Ah I=Ah st:=S.afe.trans ar1;have el:=cM (D+k) M.toList 0 (Ah st) (by grind);rw[Ui,lM,show D+k+(Z-k+k')=D+Z+k' by(clear W J xl y0 T R F G H U K P l o V e1 g d L r;lia)]at el;generalize hN:M.toList.zipIdx.foldl (λa x=>a.setIfInBounds (D+k+x.2) x.1) (Ah I)=N;have eN:N.toList=(Ah st).toList.take (D+k)++M.toList++(Ah st).toList.drop (D+Z+k'):=by rw[<-hN,ar2];show el
    have perm:N.Perm (Ah I):=by
      rw[ar2,RV,eN];have sp:=z9 (Ah st) (i:=D+k) (j:=D+Z) (k:=D+Z+k') (by simp_all) (by simp) (by lia);rw[hX,hY]at sp;conv=>rhs;rw[sp]
      show AAr _ (wN _ f.1)
    have lt:((Ah st).toList.take (D+k)).length=D+k:=by simp;(clear lM W J xl y0 zY T R F G H U K P g d L r;lia)
    have nOut:∀z,z<D+k\/D+Z+k'<=z->N[z]?=(Ah st)[z]?:=λz hz'=>by
      rw[<-Mc,<-Mc,eN];rcases hz' with q|q;.rw[E4,Na (BK q (BW lt.symm)),Z3 q]
      . rw[Oo (by rw[Bs];(clear W J xl y0 T R F G H U K P l o V e1 g d L r;lia)),Bs,lt,lM,List.getElem?_drop];congr 1;(clear W J xl y0 T R F G H U K P l o V e1 g d L r;grind)
    have nIn:∀z,D+k<=z->z<D+Z+k'->N[z]?=M[z-(D+k)]?:=λz u v=>by rw[<-Mc,<-Mc,eN,E4,Oo (Af (BW lt) u),lt,Na (by(clear W J xl y0 T R F G H U K P l o V e1 g d L r;grind))]
    have upM:DC kf M 0 M.size:=Ko f.2 (Ag _);have sM:M.size=(Z-k)+k':=by rw[<-lM];simp
    have inM:∀z,D+k<=z->z<D+Z+k'->∃m,D+k<=m/\m<D+Z+k'/\BB kf N z=BB kf (Ah st) m:=λz u v=>by
      have hz2:z-(D+k)<M.size:=by(clear W J xl y0 T R F G H U K P l o V e1 g d L r;grind)
      have hm:M[z-(D+k)]∈X.toList++Y.toList:=f.1.mem_iff.mp (by simp);rw[GJ (nIn z u v),DW hz2];rcases CS.mp hm with q|q;. obtain⟨m,u,v,hm,e⟩:=mX _ q;show⟨m,u,Nat.lt_add_right _ v,by rw[e,DW hm]⟩
      . obtain⟨m,u,v,hm,e⟩:=mY _ q;show⟨m,Af (E5 hk _) u,v,by rw[e,DW hm]⟩
    show h _ (S.sb.nv perm) (S.zq.trans pe1) ?_ λz hz'=>GJ (nOut z (by(clear sM lM W J xl y0 T R F G U K P l o hk V e1 g d L r;lia)));change DC kf N D (D+(Z+nb));intro x y h1 h2 h3;by_cases x1:x<D+k
    . rw[GJ (nOut x (.inl x1))];have all:∀m,D+k<=m->m<D+Z+nb->O.kle (BB kf (Ah st) x) (BB kf (Ah st) m):=λm u v=>by
        by_cases q3:m<D+Z;.show ua x m h1 (Af (Bg x1) u) q3
        .show Gp (lowA x h1 x1) (ub _ m (Ag _) (by(clear v u x1 h3 h2 h1 sM lM W J xl y0 zY T R F G H U K P l o hk V e1 g d L r;simp_all)) v)
      by_cases y1:y<D+k;. rw[GJ (nOut y (.inl y1))];show ua x y h1 h2 (BK y1 (E5 hk _))
      . by_cases y2:y<D+Z+k';. obtain⟨m,u,v,e⟩:=inM y (by(clear y2 x1 h3 h2 h1 sM lM W J xl y0 zY T R F G H U K P l o hk V e1 g d L r;simp_all)) y2;rw[e];show all m u (BK v (E5 H _))
        . rw[GJ (nOut y (.inr (by(clear y1 x1 h3 h2 h1 sM lM W J xl y0 T R F G H U K P l o hk V e1 g d L r;simp_all))))];show all y (by(clear y2 x1 h3 h2 h1 sM lM W J xl y0 zY T R F G H U K P l o hk V e1 g d L r;simp_all)) (by(clear y2 y1 x1 h2 h1 sM lM W J xl y0 zY T R F G H U K P l o hk V e1 g d L r;lia))
    . by_cases x2:x<D+Z+k'
      . by_cases y2:y<D+Z+k'
        . rw[GJ (nIn x (by(clear y2 x2 h3 h2 h1 sM lM W J xl y0 zY T R F G H U K P l o hk V e1 g d L r;simp_all)) x2),GJ (nIn y (Af (E6 x1) h2) y2)];show upM _ _ (by simp) ((aL (Af (E6 x1) h2)).mpr h2) (by(clear x2 h3 h1 W J xl y0 T R F G H U K P l o V e1 g d L r;grind))
        . rw[GJ (nOut y (.inr (by(clear x2 x1 h3 h2 h1 sM lM W J xl y0 T R F G H U K P l o hk V e1 g d L r;simp_all))))];obtain⟨m,u,v,e⟩:=inM x (by(clear y2 x2 h3 h2 h1 sM lM W J xl y0 zY T R F G H U K P l o hk V e1 g d L r;simp_all)) x2;rw[e];by_cases q3:m<D+Z;.show Gp (ua m (D+Z-1) (DY u) (aG q3) (xP q3)) (highB y (by(clear q3 v u x2 x1 h3 h2 h1 sM lM W J xl y0 T R F G H U K P l o hk V e1 g d L r;simp_all)) (by(clear q3 v u y2 x2 x1 h2 h1 sM lM W J xl y0 zY T R F G H U K P l o hk V e1 g d L r;lia)))
          .show ub m y (by(clear v u y2 x2 x1 h3 h2 h1 sM lM W J xl y0 zY T R F G H U K P l o hk V e1 g d L r;simp_all)) (Af (Bg v) (E6 y2)) (by(clear q3 v u y2 x2 x1 h2 h1 sM lM W J xl y0 zY T R F G H U K P l o hk V e1 g d L r;lia))
      . rw[GJ (nOut x (.inr (by(clear x1 h3 h2 h1 sM lM W J xl y0 T R F G H U K P l o hk V e1 g d L r;simp_all)))),GJ (nOut y (.inr (Af (E6 x2) h2)))];show ub x y (DY (E6 x2)) h2 (by(clear x2 x1 h2 h1 sM lM W J xl y0 zY T R F G H U K P l o hk V e1 g d L r;lia))
  have fin2:∀(M:Array Au)(I:CJ),HK κ c st1 I->Fg (BS kf) X.toList Y.toList M.toList->MV (O2 I (M.toList.zipIdx.foldl (λa x=>a.setIfInBounds (D+k+x.2) x.1) (Ah I)))=AF:=λM I S O0=>S.sb.oo;by_cases le:Z-k<=k'
  . show Cj le ?_;show A1 (AAJ C B1 inX inY (AEU (Jp.mpr P) T.symm) (AEU (Jp.mpr R) zY.symm) pX pY J W λM I S f=>?_);show A1 (JO (A1 (Ld ?_)));have:=fin M I S f;have e:=fin2 M I S f;show BD ?_;change Q (MV (O2 I _)).isNone _;rw[e];show this
  . show C0 le ?_;show A1 (AAI C B1 inX inY (Nat.one_le_of_lt (BK (LZ le) (BW T.symm))) (AEU (Jp.mpr R) zY.symm) pX pY J W λM I S f=>?_);show A1 (JO (A1 (Ld ?_)));have:=fin M I S f;have e:=fin2 M I S f;show BD ?_;change Q (MV (O2 I _)).isNone _;rw[e];show this
def FT{O:Ut}(kf:AJ->O.α)(xs:Array Au):Nat->List (Nat×Nat×Nat)->Nat->Prop|x,[],y=>x=y|x,(s,n,_)::r,y=>s=x/\1<=n/\DC kf xs s (s+n)/\FT kf xs (x+n) r y
theorem FT.le{O:Ut}{kf:AJ->O.α}{xs:Array Au}:∀{l:List (Nat×Nat×Nat)}{x y:Nat},FT kf xs x l y->x+l.length<=y|[],x,y,h=>by show BW h|(s,n,p)::r,x,y,h=>by lk;obtain⟨_,J,_,D⟩:=h;k_in;have:=FT.le D;grind
theorem PR{O:Ut}{kf:AJ->O.α}{xs:Array Au}:∀{l m:List (Nat×Nat×Nat)}{x z:Nat},FT kf xs x (l++m) z↔∃y,FT kf xs x l y/\FT kf xs y m z
 |[],m,x,z=>⟨λh=>⟨x,rfl,h⟩,λ⟨y,D,J⟩=>by have D:x=y:=D;simp_all⟩|(s,n,p)::r,m,x,z=>by
  constructor
  . intro Y;lk;obtain⟨D,J,U,Z⟩:=Y;obtain⟨y,V,W⟩:=PR.mp Z;k_in;show⟨y,⟨D,J,U,V⟩,W⟩
  . intro Y;lk;obtain⟨y,⟨D,J,U,V⟩,W⟩:=Y;k_in;show⟨D,J,U,PR.mpr ⟨y,V,W⟩⟩
theorem FT.ae{O:Ut}{kf:AJ->O.α}{xs ys:Array Au}:∀{l:List (Nat×Nat×Nat)}{x y:Nat},FT kf xs x l y->(∀k,x<=k->k<y->BB kf ys k=BB kf xs k)->FT kf ys x l y|[],x,y,h,_=>h|(s,n,p)::r,x,y,⟨W,Y,Z,V⟩,k=>by have:=FT.le V;subst W;show⟨rfl,Y,λi j D J U=>by rw[k i D (BK (FQ J U) (DY this)),k j (Af D J) (BK U (DY this))];show Z i j D J U,FT.ae V (λz u2 u3=>k _ (DY u2) u3)⟩
theorem cU{J:Array Au}{st:CJ}(C:Ff prog w A s P O kf J)(B:CM P J st)(c:FT kf (Ah st) 0 (Bn st).toList hi)(K:i+1<(Bn st).size)(X:hi<=J.size)(h:∀D,CM P J D->(Bn D).size+1=(Bn st).size->FT kf (Ah D) 0 (Bn D).toList hi->(∀k,hi<=k->BB kf (Ah D) k=BB kf (Ah st) k)->Q AI D):EV (Ak prog w) A E s (mergeAt' i) Q st:=by
  lk;obtain⟨⟨W,Y,L⟩,e1⟩:∃x,(Bn st)[i]?=AA x:=⟨_,AET _ i (by omega)⟩;obtain⟨⟨l,Z,H⟩,T⟩:∃x,(Bn st)[i+1]?=AA x:=(by simp_all);k_in;have z:(Bn st).toList=(Bn st).toList.take i++(W,Y,L)::(l,Z,H)::(Bn st).toList.drop (i+2):=by
    have F:=HF K;have G:i+1<(Bn st).toList.length:=by assumption
    conv=>lhs;rw[<-Q6 i (Bn st).toList]
    congr 1;rw[Z1 F,Z1 G];grind
  have V:=List.length_take_of_le (DY (Bg K));generalize(Bn st).toList.take i=F at z V;generalize(Bn st).toList.drop (i+2)=G at z;rw[z]at c;lk;obtain⟨y,S,⟨d,e,f,⟨g,M,j,I⟩⟩⟩:=PR.mp c;k_in;subst d g;have U:=I.le;show AAH C B e1 T e M (Af (DY U) X) f j λD R a u k=>h D R ?_ ?_ (λN u2=>k _ (xS _ (Af (DY U) u2)));.grind
  . have b:(Bn D).toList=F++(W,Y+Z,L)::G:=by rw[a];simp only[Array.toList_eraseIdxIfInBounds,AAP,z];rw[List.set_append_right _ _ (BW V),V,aM,List.set_cons_zero,List.eraseIdx_append_of_length_le (JM (BW V)),V];simp
    rw[b];show PR.mpr ⟨W,S.ae (λN u2 u3=>k _ (BX u3)),rfl,xD M,u,?_⟩;rw[show W+(Y+Z)=W+Y+Z by show Eq.comm.mp (Nat.add_assoc _ _ _)];show I.ae (λN u2 u3=>k _ (xS _ u2))
theorem cJ{O:Ut}{kf:AJ->O.α}{xs:Array Au}:∀{l m:List (Nat×Nat×Nat)}{x y:Nat},l.map (λv=>(v.1,v.2.1))=m.map (λv=>(v.1,v.2.1))->FT kf xs x l y->FT kf xs x m y|[],[],_,_,_,h=>h|[],_::_,_,_,e,_=>by cases e|_::_,[],_,_,e,_=>by cases e|(a,n,p)::l,(b,k,q)::m,x,y,e,⟨D,J,U,V⟩=>by have e:=DS e;have e1:=e.1;cases e1;show⟨D,J,U,cJ e.2 V⟩
theorem cQ{B:Oy}{O:Ut}{kf:AJ->O.α}{J:Array Au}{D:CJ}{lo m x:Nat}(V:CM B J D)(Z:FT kf (Ah D) 0 (Bn D).toList lo)(u3:DC kf (Ah D) lo (lo+m))(Y:1<=m)(z:lo+m<=J.size)(A:x<=lo\/J.size<=lo):CM B J (aY D ((Bn D).push (lo,m,0)))/\∃U,((AF,lo+m):Option Unit×Nat)=(AF,U)/\(x+1<=U\/J.size<=U)/\U<=J.size/\FT kf (Ah (aY D ((Bn D).push (lo,m,0)))) 0 (Bn (aY D ((Bn D).push (lo,m,0)))).toList U:=by show⟨⟨V.ph,V.jq,V.oo⟩,_,rfl,Or.imp (λW=>Nat.add_le_add W Y) (λW=>xE W) A,z,?_⟩;rw[AAO];show PR.mpr ⟨lo,Z,rfl,Y,u3,rfl⟩
theorem cW{K:Oy}{D:Array Au}{st:CJ}(C:Ff prog w A s K O kf D)(B:CM K D st)(p0:Bn st=#[])(h:∀V,CM K D V->DC kf (Ah V) 0 D.size->Q () V):EV (Ak prog w) A E s sortRuns' Q st:=by
  rw[sortRuns'_eq];show A1 (Ld ?_);dsimp only;simp only[B.yy];generalize minRun' D.size D.size 0=o;show A1 (Hv (HH (I:=λx c V=>CM K D V/\∃W,c=(AF,W)/\(x<=W\/D.size<=W)/\W<=D.size/\FT kf (Ah V) 0 (Bn V).toList W) (Q:=λc V=>CM K D V/\c=(AF,D.size)/\FT kf (Ah V) 0 (Bn V).toList D.size) ?pj ?fin ?adv) ?post);case adv=>show⟨B,0,rfl,.inl (Ag _),BZ _,by rw[p0];rfl⟩
  case fin=>
    intro c V Z;lk;obtain⟨S,W,rfl,t,R,c⟩:=Z;obtain rfl:W=D.size:=by lia
    k_in;show⟨S,rfl,c⟩
  case post=>
    intro c V Z;lk;obtain⟨S,rfl,c⟩:=Z;k_in;dsimp only;show A1 (Hv (HH (I:=λx c J=>c=(AF,())/\CM K D J/\FT kf (Ah J) 0 (Bn J).toList D.size/\((Bn J).size+x<=D.size\/(Bn J).size<=1)) (Q:=λc J=>c=(AF,())/\CM K D J/\FT kf (Ah J) 0 (Bn J).toList D.size/\(Bn J).size<=1) ?t1 ?t2 ?t3) ?t4);case t3=>show⟨rfl,S,c,.inl (by have:=c.le;simp at this;omega)⟩
    case t2=> intro Y J Z;lk;obtain⟨rfl,H,Y,q⟩:=Z;k_in;show⟨rfl,H,Y,by lia⟩
    case t4=> intro Y J Z;lk;obtain⟨rfl,H,Y,q⟩:=Z;k_in;show BD (h J H ?_);generalize(Bn J)=P at Y q;obtain⟨l⟩:=P;cases l with
      |nil=> have Y:0=D.size:=Y;intro i j _ _ q3;show ADC.mp (λu1=>Nat.ne_zero_of_lt q3 Y.symm)
      |cons v l=>
       cases l with
       |cons w l=> have q:l.length+1+1<=1:=q;omega
       |nil=> obtain⟨a,n,p⟩:=v;lk;obtain⟨e1,_,u,e2⟩:=Y;k_in;have e2:0+n=D.size:=e2;subst e1;rw[<-e2];show u
    case t1=>
      intro x Y J _ g Z;lk;obtain⟨rfl,H,Y,q⟩:=Z;k_in;show A1 (Ld ?_);by_cases z:(Bn J).size<=1
      . show Cj z ?_;show BD ⟨rfl,H,Y,z⟩
      . show C0 z ?_;generalize hi:(if Option.any _ _=AI then(Bn J).size-2-1 else(Bn J).size-2)=i;have aux:∀(c:Prop)[Decidable c](u v N:Nat),u+1<N->v+1<N->(if c then u else v)+1<N:=λc O0 u v N h1 h2=>by split<;>assumption
        show A1 (cU C H Y (by rw[<-hi];show aux _ _ _ _ (by omega) (Nat.add_lt_iff_lt_sub_right.mpr (HG _ _ (LZ z)))) (Ag _) λF T z3 X O0=>?_);show BD ⟨rfl,T,X,by(constructor<;>lia)⟩
  case pj=>
    intro x c V _ g Z;lk;obtain⟨S,W,rfl,t,R,c⟩:=Z;k_in;dsimp only;by_cases z:W>=D.size
    . show Cj z ?_;obtain rfl:W=D.size:=EJ R z;show BD ⟨S,rfl,c⟩
    show C0 z ?_;show A1 (AAF C (BW (G9 R)) (Q8.mp (Ul.mpr (LZ z))) S λn J H K2 r e u2=>?_);have Y:FT kf (Ah J) 0 (Bn J).toList W:=by rw[K2.zq];show c.ae λk O0 k2=>GJ (K2.aek k k2)
    dsimp only;by_cases d:n<o;all_goals first
      | (show Cj d ?_;show A1 (O3 (PM ⟨rfl,?_⟩));show A1 (AAE C ((LX (Bg (LZ z))).mp (Kf _ _)) (Nat.le_min_of_le_of_le e (Bg d)) H u2 λF T K3 u3=>?_);show C0 (by simp) ?_;have G:1<=DU (D.size-W) o/\W+DU (D.size-W) o<=D.size:=by lia
         have X:FT kf (Ah F) 0 (Bn F).toList W:=by rw[K3.zq];show Y.ae λk O0 k2=>GJ (K3.aek k k2)
         generalize DU (D.size-W) o=m at u3 G⊢) | (show C0 d ?_;have G:1<=n/\W+n<=D.size:=⟨r,(LX (Bg (LZ z))).mp e⟩;have T:=H;have X:=Y;have u3:=u2;generalize n=m at u3 G⊢;generalize J=F at T X u3⊢)
    all_goals show A1 (Ld ?_);cases hb:(Bn F).back? with |none=>show A1 (JO (BD (cQ T X u3 G.1 G.2 (by omega))))|some b=>
        lk;obtain⟨s1,m1,pw⟩:=b;k_in;dsimp only;generalize power' D.size (2*s1+m1) (2*s1+m1+m1+m) D.size=pp;show A1 (Hv (HH (I:=λO0 c U=>c=(AF,())/\CM K D U/\FT kf (Ah U) 0 (Bn U).toList W/\DC kf (Ah U) W (W+m)) ?r1 (λO0 O0 q=>q) ⟨rfl,T,X,u3⟩) ?r2);case r1=>
          intro y M U _ hy Z;lk;obtain⟨rfl,L,M,f⟩:=Z;k_in;show A1 (Ld ?_);by_cases z4:(Bn U).size>1
          . have e4:=AET (Bn U) ((Bn U).size-2) (by(clear hy G d e r z R t g;omega));simp only[AEE z4,e4];split;.show BD ⟨rfl,L,M,f⟩
            . show A1 (cU C L M (by(clear hy G d e r z R t g;lia)) R λst5 B5 z5 c5 k5=>?_);show BD ⟨rfl,B5,c5,λi j w1 w2 w3=>by rw[k5 i w1,k5 j (by(clear w3 z5 hy G d e r z R t g;lia))];show f i j w1 w2 w3⟩
          . simp only[AED z4];show BD ⟨rfl,L,M,f⟩
        case r2=> intro M U Z;lk;obtain⟨rfl,L,M,f⟩:=Z;k_in;dsimp only;show A1 (JO (A1 (JO (BD ?_))));have B5:CM K D (aY U ((Bn U).modify ((Bn U).size-1) λx=>(x.1,x.2.1,pp))):=⟨L.ph,L.jq,L.oo⟩;show cQ B5 ?_ f G.1 G.2 (by omega);show cJ (l:=(Bn U).toList) ?_ M;rw[Array.toList_modify];show wQ λk=>?_;rw[Bl,Bl,List.getElem?_modify];cases(Bn U).toList[k]? with |none=>rfl|some v=>
            change AA _=AA _;by_cases w:(Bn U).size-1=k;.simp[w]
            .simp[w]
noncomputable def EY:AL->AL->Bool|.inl a,.inl b=>Ac (a<b)|.inl _,.inr _=>AI|.inr _,.inl _=>AM|.inr x,.inr y=>Ac (x.cps.toList<y.cps.toList)
theorem Yj:∀a,EY a a=AM|.inl a=>AEH (dO _)|.inr x=>AEH (List.lt_irrefl _)
theorem rB:∀{a b c},EY a b=AI->EY b c=AI->EY a c=AI|.inl a,.inl b,.inl c,D,J=>AEF (Pf (AEI D) (AEI J))|.inl _,.inl _,.inr _,_,_=>rfl|.inl _,.inr _,.inr _,_,_=>rfl|.inr x,.inr y,.inr z,D,J=>AEF (List.lt_trans (AEI D) (AEI J))
theorem rA:∀{a b},EY a b=AM->EY b a=AM->a=b|.inl a,.inl b,D,J=>by have D:=AEM D;have J:=AEM J;grind|.inr x,.inr y,D,J=>by have D:=AEM D;have J:=AEM J;rw[uW (List.le_antisymm (by assumption) (List.not_lt.mp D))]
noncomputable def BO:List AL->List AL->Bool|[],[]=>AM|[],_::_=>AI|_::_,[]=>AM|a::x,b::y=>if a=b then BO x y else EY a b
theorem OV:∀x,BO x x=AM|[]=>rfl|a::x=>by rw[BO,AEE rfl];show OV x
theorem Tt:∀{x y z},BO x y=AI->BO y z=AI->BO x z=AI
  |[],[],_,h,_=>by cases h|[],_::_,[],_,h=>by cases h|[],_::_,_::_,_,_=>rfl|_::_,[],_,h,_=>by cases h|_::_,_::_,[],_,h=>by cases h|a::x,b::y,c::z,D,J=>by
    unfold BO at D J⊢;by_cases e1:a=b
    . subst e1;rw[AEE rfl]at D;by_cases U:a=c;. subst U;rw[AEE rfl]at J⊢;show Tt D J
      simp_all
    . rw[AED e1]at D;by_cases U:b=c;.simp_all
      . rw[AED U]at J;have V:=rB D J;have:a≠c:=λe=>by rw[e,Yj]at V;cases V
        show Ny (AED this) V
theorem Qc:∀{x y},BO x y=AM->BO y x=AM->x=y
 |[],[],_,_=>rfl|[],_::_,h,_=>by cases h|_::_,[],_,h=>by cases h|a::x,b::y,D,J=>by
  unfold BO at D J;by_cases e:a=b
  . subst e;rw[AEE rfl]at D J;rw[Qc D J]
  . rw[AED e]at D;rw[AED (DZ e)]at J;show absurd (rA D J) e
@[reducible]noncomputable def G4:Ut where
 α:=List AL
 blt:=BO
 irrefl:=OV
 trans _ _ _:=Tt
 negTrans a b c h:=by cases e:BO a b with |true=>show .inl rfl|false=>cases D:BO b a with |true=>show .inr (Tt D h)|false=>rw[<-Qc e D];show .inr h
 total _ _:=Qc
noncomputable def Be:AJ->AL|.int i _=>.inl i|.str x _=>.inr x|_=>.inl 0
noncomputable def G1(h:A8):AJ->List AL
 |.int i _=>[.inl i]|.str x _=>[.inr x]|.ref a=>match h.get? a with
  |AA o=>match o.data with |.seq D _=>D.toList.map Be|_=>[]
  |AF=>[]
 |_=>[]
theorem AAG{s:AV}{O:Ut}{vs:List AJ}(Z:s.heap.get? a=AA (CH "list" vs.toArray n))(M:vs.length<=Az)(kf:AJ->O.α)(z:∀Y,(∀b o,b≠a->s.heap.get? b=AA o->Y.get? b=AA o)->2<=vs.length->∃W,(∀(Q:Oy->AV->Prop)(E:AJ->AV->Prop),Q W {s with heap:=Y}->Am (Ak prog w) A (aV vs.toArray) Q E {s with heap:=Y})/\Ff prog w A {s with heap:=Y} W O kf (JN vs))(h:∀out:Array Au,out.Perm (JN vs)->DC kf out 0 (JN vs).size->P (.done (.ret .none)) {s with heap:=x9 s.heap a vs (out.map (·.2))}):Am (Ak prog w) A (Builtin.«list.sort» ⟨[.ref a],[]⟩) P E s:=by
  rw[list_sort_plain];have T:a<s.heap.objs.size:=B7 Z;show A6 (xY Z rfl (A6 (O1 Z rfl ?_)));lk;obtain⟨e1,V⟩:∃e1,(s.heap.update a (EK λv=>#[])).get? a=AA (CH "list" #[] e1):=⟨_,Uv Z (λv=>#[])⟩;k_in;show A6 (Ux V rfl (A6 (AC6 (A6 (cH (PK ?_))))));generalize G:((s.heap.update a (EK λv=>#[])).push (CH "tuple" vs.toArray 0)).push (CH "list" #[] 0)=F;have R:∀b o,b≠a->s.heap.get? b=AA o->F.get? b=AA o:=λb o K q=>by rw[<-G];show Cb _ (Cb _ ((yK _ _ _ _ K).trans q))
  have J:F.get? a=AA (CH "list" #[] e1):=by rw[<-G];show Cb _ (Cb _ V)
  have fin:=λout H I=>by have:=h out H I;unfold x9 at this;rw[G]at this;show this
  dsimp only;by_cases D:vs.toArray.size<2
  . rw[AEE D,AEE D];show A6 (Ci ?_);rw[ADB];show A6 (Ci ?_);dsimp only;show A6 (Ux J rfl (A6 (O1 J rfl ?_ (hsz2:=by grind))));simp only[AES,Lj,AEJ];show Ci (fin (vs.toArray.zip vs.toArray) (U9 _) λi j v X S=>?_);rw[pairsOf_size]at S;have L:vs.toArray.size=vs.length:=by simp
    obtain rfl:i=j:=by lia
    show MU _
  . rw[AED D,AED D];lk;obtain⟨W,N,C⟩:=z F R (by simpa using D);k_in;show A6 (N _ _ ?_);show A6 (Ep (cW C (st:=aR W (JN vs) #[] 7 AF) (Q:=λv U=>CM W (JN vs) U/\DC kf (Ah U) 0 (JN vs).size) ⟨U9 _,rfl,rfl⟩ rfl λU B u=>⟨B,u⟩) ?_ λv v e=>e);rintro⟨⟨⟩,U⟩c⟨rfl,B,u⟩;dsimp only;show A6 (Ux J rfl (A6 (O1 J rfl ?_ (hsz2:=by show Af (BW ((c7 ..).trans (B.ph.size_eq.trans (pairsOf_size _)))) ?_;show JM M))));rw[B.oo];simp only[AES,Lj,AEJ];show Ci (fin _ B.ph u)
noncomputable def CW:AL->Bool|.inl _=>AI|.inr _=>AM
def Ej:AJ->Prop|.int _ _=>True|.str _ _=>True|_=>False
theorem Yz(c:Bool)(D:Ej x)(J:Ej y)(U:CW (Be x)=CW (Be y))(h:Q (EY (Be x) (Be y)) s):Am (Ak prog w) A (oneLt' c x y) Q E s:=by
 cases x<;>first|show D.elim|skip
 all_goals(cases y<;>first|show J.elim|show ID (by assumption)|show ID (by assumption)|skip)
 .cases c with |true=>show oneLt_int h|false=>show yX _ _ (xZ h)
 .cases c with|true=>show oneLt_str h|false=>show yX _ _ (ABc h)
theorem TZ(D:Ej x)(J:Ej y)(U:CW (Be x)=CW (Be y))(h:Q (Ac (Be x=Be y)) s):Am (Ak prog w) A (eqBool x y) Q E s:=by
  cases x<;>first|show D.elim|skip
  all_goals(cases y<;>first|show J.elim|show ID (by assumption)|show ID _|skip)
  . rename_i a t c u;show ADr a c t u _ w A E s Q ?_;have e:(a==c)=Ac (Be (.int a t)=Be (.int c u)):=by change(a==c)=Ac ((Co a)=Co c);grind
    simp_all
  . rename_i a t c u;show ABY a c t u _ w A E s Q ?_;have e:(a==c)=Ac (Be (.str a t)=Be (.str c u)):=by change(a==c)=Ac ((Bx a)=Bx c);grind
    simp_all
theorem Yu:∀(xs ys:List AJ)(i:Nat),(∀v∈xs,Ej v)->(∀v∈ys,Ej v)->xs.map (λv=>CW (Be v))=ys.map (λv=>CW (Be v))->Q (BO (xs.map Be) (ys.map Be)) s->bQ prog w A b AM Q (xs.zip ys) i s
 |[],[],_,_,_,_,h=>ACX h|[],_::_,_,_,_,e,_=>by cases e|_::_,[],_,_,_,e,_=>by cases e|x::xs,y::ys,i,U,V,e,h=>by
  obtain⟨e1,W⟩:=DS e;have D:=U x DI;have J:=V y DI;have h:Q (if Be x=Be y then BO _ _ else EY _ _) s:=h;show bW (TZ D J e1 (yV (λq=>?_) λq=>?_));. rw[AEE (by(simpa using q))]at h;show yY (Yu xs ys _ (λY u2=>U _ (GH u2)) (λY u2=>V _ (GH u2)) W h)
  . rw[AED (AEM q)]at h;show yW (Yz _ D J e1 h)
def Gz(h:A8)(u:AJ)(J:List AL):Prop:=∃a o D m,u=.ref a/\h.get? a=AA o/\o.cls=.type "tuple"/\o.data=.seq D m/\D.toList.map Be=J/\∀v∈D.toList,Ej v
theorem Gz.kf(t:Gz h u J):G1 h u=J:=by lk;obtain⟨a,o,D,m,rfl,e,_,d,k,_⟩:=t;k_in;simp only[G1,e,d];show k
inductive Je(h:A8):List AJ->List (List AL)->Prop|cI{vs kss}:vs.length=kss.length->(∀(i:Nat)u ks,vs[i]?=AA u->kss[i]?=AA ks->∃n t,u=.int n t/\ks=[.inl n])->Je h vs kss|cS{vs kss}:vs.length=kss.length->(∀(i:Nat)u ks,vs[i]?=AA u->kss[i]?=AA ks->∃n t,u=.str n t/\ks=[.inr n])->Je h vs kss|cT{vs kss}(sh:List Bool):vs.length=kss.length->sh≠[]->(∀(i:Nat)u ks,vs[i]?=AA u->kss[i]?=AA ks->Gz h u ks/\ks.map CW=sh)->Je h vs kss
theorem Je.fq(x:Je h vs kss):vs.length=kss.length:=by cases x<;>assumption
theorem Je.kf(x:Je h vs kss):∀(i:Nat)u D,vs[i]?=AA u->kss[i]?=AA D->G1 h u=D:=by intro i u D e1 J;cases x with|cI _ f=>obtain⟨n,t,rfl,rfl⟩:=f i u D e1 J;rfl|cS _ f=>obtain⟨n,t,rfl,rfl⟩:=f i u D e1 J;rfl|cT _ _ _ f=>show(f i u D e1 J).1.kf
theorem LN{l:List α}{m:List J}(U:l.length=m.length)(h:x∈l):∃(i:Nat)(y:J),l[i]?=AA x/\m[i]?=AA y:=by lk;obtain⟨i,D,e⟩:=Gk.mp h;k_in;show⟨i,m[i]'(BK D (BW U)),(List.getElem_eq_iff D).mp e,(by simp)⟩
theorem Je.adm(x:Je h vs kss)(N:2<=vs.length)(kp:∀a o D m,.ref a∈vs->h.get? a=AA o->o.cls=.type "tuple"->o.data=.seq D m->s.heap.get? a=AA o):∃κ,(∀(Q:Oy->AV->Prop)(E:AJ->AV->Prop),Q κ s->Am (Ak prog w) A (aV vs.toArray) Q E s)/\Ff prog w A s κ G4 (G1 h) (JN vs):=by
  have K:∀p∈(JN vs).toList,p.1∈vs:=λp Z=>by rw[Uw]at Z;show(x5 Z).2
  cases x with |cI W f=>
    show⟨oneType',λQ E q=>ACV (T:=.type "int") N (λv B=>?_) (by decide) (by decide) q,⟨λp Z q L Q E k=>?_⟩⟩
    . lk;obtain⟨i,U,e1,V⟩:=LN W B;obtain⟨n,t,rfl,_⟩:=f i _ _ e1 V;k_in;show .now
    . lk;obtain⟨i,U,e1,V⟩:=LN W (K p Z);obtain⟨j,ls,O,P⟩:=LN W (K q L);obtain⟨n,t,F,_⟩:=f i _ _ e1 V;obtain⟨m,t',u2,_⟩:=f j _ _ O P;k_in;rw[F,u2]at k⊢;rw[ABb];show oneLt_int ?_;have e:Ac (n<m)=BO [.inl n] [.inl m]:=by change _=if(Co n:AL)=Co m then AM else Ac (n<m);(split<;>simp_all)
      rw[e];show k|cS W f=>
    show⟨oneType',λQ E q=>ACV (T:=.type "str") N (λv B=>?_) (by decide) (by decide) q,⟨λp Z q L Q E k=>?_⟩⟩
    . lk;obtain⟨i,U,e1,V⟩:=LN W B;obtain⟨n,t,rfl,_⟩:=f i _ _ e1 V;k_in;show .now
    . lk;obtain⟨i,U,e1,V⟩:=LN W (K p Z);obtain⟨j,ls,O,P⟩:=LN W (K q L);obtain⟨n,t,F,_⟩:=f i _ _ e1 V;obtain⟨m,t',u2,_⟩:=f j _ _ O P;k_in;rw[F,u2]at k⊢;rw[ABb];show oneLt_str ?_;have e:Ac (n.cps.toList<m.cps.toList)=BO [.inr n] [.inr m]:=by change _=if(Bx n:AL)=Bx m then AM else Ac (n.cps.toList<m.cps.toList);(split<;>simp_all)
      rw[e];show k|cT b W hn f=>
    have C:∀u∈vs,∃U,Gz s.heap u U/\G1 h u=U/\U.map CW=b:=λu M=>by obtain⟨i,U,e1,V⟩:=LN W M;obtain⟨t,z⟩:=f i u U e1 V;show⟨U,?_,t.kf,z⟩;obtain⟨a,o,D,m,rfl,e,c,d,r⟩:=t;show⟨a,o,D,m,rfl,(kp _ _ _ _ M e c d),c,d,r⟩
    show⟨tuples' AI,λQ E q=>?_,⟨λp Z q L Q E k=>?_⟩⟩;.
      have X:∀(l:List AJ),(∀u∈l,u∈vs)->∃G,ACL s.heap l G/\G.length=l.length/\∀v∈G,Ej v/\CW (Be v)=b.headD AI:=λl=>by induction l with |nil=>showλO0=>⟨[],trivial,rfl,(λF u2=>absurd u2 Q5)⟩|cons u l ih=>intro M;obtain⟨G,H,I,S⟩:=ih (λF u2=>M _ (GH u2));obtain⟨U,⟨a,o,D,m,rfl,e,c,d,r,Y⟩,_,z⟩:=C u (M _ DI);obtain⟨l0⟩:=D;match l0,r,Y with |[],r,_=>simp_all|f0::l1,r,Y=> show⟨f0::G,ACN e c d rfl H,ABG.mpr I,λv B=>?_⟩;grind
      lk;obtain⟨G,H,I,S⟩:=X vs λO0 h=>h;k_in;cases hh:b.headD AI with
      |true=> show bX (T:=.type "int") H (AEN (HF N) I.symm) (λv B=>?_) (by decide) q;obtain⟨Y,z⟩:=S v B;rw[hh]at z;cases v<;>first|show Y.elim|show ID (show AI=AM from z)|show ID (by assumption)|show .now
      |false=> show bX (T:=.type "str") H (AEN (HF N) I.symm) (λv B=>?_) (by decide) q;obtain⟨Y,z⟩:=S v B;rw[hh]at z;cases v<;>first|show Y.elim|show ID (by assumption)|show ID (show AM=AI from z)|show .now
    . lk;obtain⟨U,⟨a,o,D,m,F,e,c,d,r,Y⟩,H,z1⟩:=C _ (K p Z);obtain⟨ls,⟨a',o',J,m',u2,e',c',d',r',R⟩,I,z2⟩:=C _ (K q L);k_in;have k:Q (BO (G1 h p.1) (G1 h q.1)) s:=k;rw[H,I,<-r,<-r']at k;rw[F,u2];have g:=by
        have y:(D.toList.map Be).map CW=(J.toList.map Be).map CW:=by rw[r,r',z1,z2]
        rw[DX,DX]at y;show y
      have el:D.size=J.size:=by have:=AEG Nb g;simpa using this
      show ACW e d e' d' ?_;rw[AEH (Um.mpr (BW el.symm))];show Yu _ _ 0 Y R g k
inductive NA(K:An)(H:AG):List AD->List (List AL)->Prop|cI(ns:List Int):NA K H (ns.map AD.int) (ns.map λn=>[.inl n])|cS(zs:List AE):NA K H (zs.map AD.str) (zs.map λz=>[.inr z])|cT{xs:List AD}{kss:List (List AL)}(sh:List Bool):sh≠[]->BF (λx ks=>(∃a,x=.ref a/\CN K H a (ks.map Ar))/\ks.map CW=sh) xs kss->NA K H xs kss
theorem Ob{U:List B}(p:U.Perm bs):∀{J:List α},BF F J bs->∃D,D.Perm J/\BF F D U:=by induction p with
 |nil=>intro J h;cases h;show⟨[],.nil,.nil⟩|cons x _ H=>intro J h;cases h with|cons V W=>lk;obtain⟨D,z,A⟩:=H W;k_in;show⟨_,z.cons _,.cons V A⟩
 |swap x y l=>intro J h;cases h with|cons V W=>cases W with|cons E G=>show⟨_,Z0 _ _ _,.cons E (.cons V G)⟩
 |trans _ _ Y Z=> intro J h;lk;obtain⟨L,z,A⟩:=Z h;obtain⟨C,I,K⟩:=Y A;k_in;show⟨C,I.trans z,K⟩
theorem CO{l:List α}{m:List D}(h:BF F l m):l.length=m.length/\∀(i:Nat)a b,l[i]?=AA a->m[i]?=AA b->F a b:=by show⟨?_,λO O O=>Oa h⟩;induction h with|nil=>rfl|cons _ _ J=>show AEG _ J
theorem MH:∀{J:List AL}{U:List AJ},BM (J.map Ar) U->U.map Be=J/\∀v∈U,Ej v|[],_,h=>by cases h;simp|k::J,_,h=>by cases h with|cons V W=>obtain⟨e,f⟩:=MH W;cases k with|inl i=>obtain⟨t,rfl⟩:=V;show⟨by rw[Fd,e];rfl,λv D=>by rcases B6.mp D with rfl|D;show HM;simp_all⟩|inr x=>obtain⟨t,rfl⟩:=V;show⟨by rw[Fd,e];rfl,λv D=>by rcases B6.mp D with rfl|D;show HM;simp_all⟩
theorem NA.adf(I:AX X A d H s)(h:NA X.K H xs kss)(r:BM xs its):Je s.heap its kss:=by have L:=r.aq;cases h with|cI b=>show .cI (by simp_all) λi u Z e1 D=>?_;rw[Bl]at D;lk;obtain⟨n,J,rfl⟩:=Dp.mp D;obtain⟨B,U,t,W⟩:=r.wx (i:=i) (x:=.int n) (by simp_all);k_in;grind|cS c=>show .cS (by simp_all) λi u Z e1 D=>?_;rw[Bl]at D;lk;obtain⟨n,J,rfl⟩:=Dp.mp D;obtain⟨B,U,t,W⟩:=r.wx (i:=i) (x:=.str n) (by simp_all);k_in;grind|cT Q M p=>obtain⟨E,F⟩:=CO p;show .cT Q (Ny L.symm E) M λi u Z e1 D=>?_;have R:=(BH.mp D).1;have J:xs[i]?=AA xs[i]:=(by simp);lk;obtain⟨⟨a,C,O⟩,z⟩:=F i _ _ J D;obtain⟨B,U,W⟩:=r.wx J;rw[e1]at U;cases U;rw[C]at W;obtain rfl:u=DM a:=W;obtain⟨Y,P,⟨o,N,G,n,K⟩,_⟩:=I.jc O;obtain⟨S,T⟩:=MH P;k_in;show⟨⟨a,o,_,n,rfl,N,G,K,by assumption,by assumption⟩,z⟩
theorem sX(r:BM ys its)(Z:its.length=kss.length)(E:∀(i:Nat)u A,its[i]?=AA u->kss[i]?=AA A->kf u=A)(p:out.Perm (JN its))(u:DC (O:=G4) kf out 0 (JN its).size):∃qs:List (AD×List AL),qs.Perm (ys.zip kss)/\BM (qs.map (·.1)) (out.map (·.2)).toList/\(qs.map (·.2)).Pairwise (λa b=>BO b a=AM):=by
  have B:out.toList.Perm (its.zip its):=by rw[<-Uw];show RV.mp p
  have T:∀q∈out.toList,q.1=q.2/\q.1∈its:=λq F=>x5 (B.mem_iff.mp F);have e0:(out.map (·.2)).toList=out.toList.map (·.2):=AAN ..;have I:=by have:=B.map (·.2);rwa[w5 (Ag _)]at this
  have R:=r.aq;have H:BF (λ(q:AD×List AL)v=>BU q.1 v/\kf v=q.2) (ys.zip kss) its:=by show Gh (by(simp[*])) λi a b e1 U=>?_;obtain⟨C,M⟩:=LW.mp e1;obtain⟨v,N,P⟩:=r.wx C;grind
  lk;obtain⟨qs,K,L⟩:=Ob I H;obtain⟨G,Q⟩:=CO L;k_in;show⟨qs,K,?_,?_⟩
  . rw[e0];show Gh (Ny (As _) G) λi a b e1 U=>?_;grind
  . rw[Gm];intro i j W Y D;rw[As]at W Y;have S:=p.size_eq.symm;have z:∀k(Z:k<qs.length),(qs[k]).2=BB (O:=G4) kf out k:=λk Z=>by
      have J:k<out.size:=by simp_all
      rw[DW J];have U:(out.toList.map (·.2))[k]?=AA out[k].2:=by simp_all
      grind
    have:=u i j (BZ _) (Bg D) (by simp_all);rw[<-z i W,<-z j Y]at this;rw[Z4,Z4];show this
theorem UM(I:AX X pins σ H s)(hz:ys.length<=Az)(hc:∀(Q:List AJ->AV->Prop)(E:AJ->AV->Prop),(∀h1 tk its,(∀b o,s.heap.get? b=AA o->h1.get? b=AA o)->s.heap.objs.size<=h1.objs.size->BM ys its->Q its {s with heap:=h1,toks:=tk})->Am (Ak X.ai X.w) X.A.in1 (zG (.ref p)) Q E s)(sk:∀its,BM ys its->its.length=kss.length/\∃kf,(∀(i:Nat)u ks,its[i]?=AA u->kss[i]?=AA ks->kf u=ks)/\∀s':AV,(∀b o,s.heap.get? b=AA o->s'.heap.get? b=AA o)->2<=its.length->∃κ,(∀(Q:Oy->AV->Prop)(E:AJ->AV->Prop),Q κ s'->Am (Ak X.ai X.w) X.A.in1.in1 (aV its.toArray) Q E s')/\Ff X.ai X.w X.A.in1.in1 s' κ G4 kf (JN its))(q:∀l(qs:List (AD×List AL)),H l=AF->qs.Perm (ys.zip kss)->(qs.map (·.2)).Pairwise (λa b=>BO b a=AM)->Q (.ref l) (AK H l (.lst (qs.map (·.1))))):Am (Ak X.ai X.w) X.A (Ir (.builtin "sorted") [.ref p]) (FI X pins σ Q) X.xe s:=by
 show Calls.call_function_entry kind_sorted plain_sorted entry_sorted (args_sorted1 _) ?_;show A6 (Ci ?_);show A6 (hc _ _ λh1 tk its k1 grow rv=>?_);lk;obtain⟨hk,kf,hkf,cm⟩:=sk its rv;k_in;have ra:=Af (BW rv.aq.symm) hz;show A6 (cH ?_ ra);have hoL:(h1.push _).get? h1.objs.size=AA (CH "list" its.toArray 0):=Fe _ rfl;show A6 (PK (AC3 ABh ⟨_,hoL,rfl⟩ ABW (AAG (O:=G4) hoL ra kf (λh' k' h2=>cm _ (λa o e=>k' a o (DV (B7 (k1 a o e))) (Cb _ (k1 a o e))) h2) λout p u=>⟨_,rfl,Ci ⟨_,rfl,?_⟩⟩) (args_list_sort _)));lk;obtain⟨qs,q1,q2,q3⟩:=sX rv hk hkf p u;obtain⟨e',ho⟩:=sortedHeap_at (a:=h1.objs.size) (vs:=its) (out:=out.map (·.2)) hoL;k_in;have lz:(qs.map (·.1)).length<=Az:=by rw[As,q1.length_eq,AA3];show Af (Kf _ _) hz
 have old:∀b o,s.heap.get? b=AA o->(x9 (h1.push (CH "list" its.toArray 0)) h1.objs.size its (out.map (·.2))).get? b=AA o:=λb o e=>by have e1:=k1 b o e;have hlt:=B7 e1;rw[sortedHeap_old (DV hlt) (by rw[size_push'];show xI hlt)];show Cb _ e1
 show⟨.ref h1.objs.size,_,I.oz (a:=h1.objs.size) (o:=.lst (qs.map (·.1))) (t':=tk) old grow ⟨lz,_,e',q2,by rw[VA];show ho⟩,rfl,q _ qs (I.cq.bw grow) q1 q3⟩
theorem YK{X:BP}{s:AV}(U:BM ys its)(W:PlainL s.heap p its.toArray)(Z:ys.length<=Az)(Q:List AJ->AV->Prop)(E:AJ->AV->Prop)(f:∀D Y its,(∀b o,s.heap.get? b=AA o->D.get? b=AA o)->s.heap.objs.size<=D.objs.size->BM ys its->Q its {s with heap:=D,toks:=Y}):Am (Ak X.ai X.w) X.A.in1 (zG (.ref p)) Q E s:=by have J:=U.aq;show collect_list W.isList (f _ _ _ (λb o e=>(yK _ _ _ _ (DV (B7 e))).trans (Cb _ e)) ?_ U) (by simp_all);simp_all
theorem YG{K:An}(z:X.K=K:=by rfl):Eg X (.builtin "sorted") (λxs H Q=>∃(p:AB)(ys:List AD)(kss:List (List AL)),xs=[.ref p]/\Bp K H p ys/\NA K H ys kss/\∀l(qs:List (AD×List AL)),H l=AF->qs.Perm (ys.zip kss)->(qs.map (·.2)).Pairwise (λa b=>BO b a=AM)->Q (.ref l) (AK H l (.lst (qs.map (·.1))))):=by subst z;intro Y s M H xs L Q I r h;lk;obtain⟨p,ys,kss,rfl,A,F,q⟩:=h;obtain⟨u,rfl,E⟩:=Gj r;cases E;obtain⟨D,J,C,W⟩:=I.cb A;k_in;show UM I W (YK J C W) (λD J=>?_) q;have U:=F.adf I J;show⟨U.fq,_,U.kf,λG B Z=>U.adm Z λa o O O O e O O=>B a o e⟩
theorem oZ(K:W.KdlSrc prog w T r d n P B)(M:A.handled=AF)(Z:B s.heap)(N:n<=Az)(L:∀J V(D:Array AJ),(∀b o,s.heap.get? b=AA o->J.get? b=AA o)->s.heap.objs.size<J.objs.size->yN P D n->Q D.toList {s with heap:=J,toks:=V}):Am (Ak prog w) A (zG (.ref r)) Q E s:=by
 show A6 (wpAny_runValue (zF F.entry_proto_collect ?_));show A6 (zW ?_);show Ci ⟨plainId_quiet F.plain_list_iadd _,zF F.entry_list_iadd ?_⟩;have U:(s.heap.push {cls:=.type "list",data:=.seq ([]:List AJ).toArray}).get? _=AA _:=Fe _ rfl;have G:=K.there _ Z;have I:∀b o,s.heap.get? b=AA o->(s.heap.push {cls:=.type "list",data:=.seq ([]).toArray}).get? b=AA o:=λb o e=>Cb _ e;have X:∀W,(∃J V D z,W={s with heap:=J,toks:=V}/\(∀b o,b≠s.heap.objs.size->(s.heap.push {cls:=.type "list",data:=.seq ([]:List AJ).toArray}).get? b=AA o->J.get? b=AA o)/\J.get? s.heap.objs.size=AA {cls:=.type "list",dict:=AF,data:=.seq D z,slots:=#[]}/\yN P D n)->Am (Ak prog w) A (load _>>=λo=>match o.data with|.seq g _=>BY g.toList|_=>unsupported "internal:collect") Q E W:=λW A0=>by obtain⟨J,V,D,z,e,O,H,S⟩:=A0;subst e;show A6 (wpAny_load H ?_);show Ci (L J V D (λb o e=>O b o (DV (B7 e)) (I b o e)) (B7 H) S)
 show Ep (W.kdl_extend (A:=A) (R:=λr W=>r=.ok (.ret (.ref s.heap.objs.size))/\∃J V D z,W={s with heap:=J,toks:=V}/\(∀b o,b≠s.heap.objs.size->(s.heap.push {cls:=.type "list",data:=.seq ([]:List AJ).toArray}).get? b=AA o->J.get? b=AA o)/\J.get? s.heap.objs.size=AA {cls:=.type "list",dict:=AF,data:=.seq D z,slots:=#[]}/\yN P D n) K M (K.keep _ _ Z (λh u2 u3 a=>I _ _ a)) _ (MT G.1) (MT G.2) _ 0 U (by simp_all) N) (λfin W C=>?_) (by simp);cases fin with|done f=>grind|again c=>show⟨C.1,PC C.2 λr s2 Y=>?_⟩;obtain⟨e,q⟩:=Y;grind
theorem oV(hc:X.iw=AI):Eg X (.builtin "sorted") (λxs H Q=>∃(d:AB)(kvs:List (AL×AD)),xs=[.ref d]/\H d=AA (.dK kvs)/\((∀p∈kvs,∃i,p.1=.inl i)\/∀p∈kvs,∃i,p.1=.inr i)/\∀l(ks:List AL),H l=AF->ks.Perm (kvs.map (·.1))->ks.Pairwise (λa b=>EY b a=AM)->Q (.ref l) (AK H l (.lst (ks.map Ar)))):=by
  intro pins s σ H xs us Q I r h;lk;obtain⟨d,kvs,rfl,e,hty,q⟩:=h;obtain⟨u,rfl,ru⟩:=Gj r;cases ru;obtain⟨z,lo,vs,rel,dd⟩:=ME I.cq e;obtain⟨ep,hat⟩:=dd.dictAt;k_in;have hlen:kvs.length=vs.length:=Hz rel;have sv:∀{its:List AJ},BM (kvs.map λp=>Ar p.1) its->Je s.heap its (kvs.map λp=>[p.1]):=λ{its}rv=>by
    have ra:=rv.aq;rw[As]at ra;rcases hty with hty|hty
    . show .cI (by rw[As];show ra.symm) λi u ks e1 e2=>?_;rw[Bl]at e2;obtain⟨p,e3,rfl⟩:=Dp.mp e2;obtain⟨n,en⟩:=hty p (CZ e3);obtain⟨u',e4,e5⟩:=rv.wx (i:=i) (x:=Ar p.1) (by rw[Bl,e3];rfl);rw[e1]at e4;cases e4;rw[en]at e5⊢;obtain⟨t,rfl⟩:=e5;show⟨n,t,rfl,rfl⟩
    . show .cS (by rw[As];show ra.symm) λi u ks e1 e2=>?_;rw[Bl]at e2;obtain⟨p,e3,rfl⟩:=Dp.mp e2;obtain⟨n,en⟩:=hty p (CZ e3);obtain⟨u',e4,e5⟩:=rv.wx (i:=i) (x:=Ar p.1) (by rw[Bl,e3];rfl);rw[e1]at e4;cases e4;rw[en]at e5⊢;obtain⟨t,rfl⟩:=e5;show⟨n,t,rfl,rfl⟩
  show UM (kss:=kvs.map λp=>[p.1]) I (by rw[As];show z) (λQ E f=>oZ (ACY (knd:=Ek X.ai X.w) (kvs:=vs) (ep:=ep) lo) (I.ok.hd hc) hat (by simp_all) λh1 tk acc k1 gr it=>f h1 tk _ k1 (Bg gr) ?_) (λits rv=>⟨(sv rv).fq,_,(sv rv).kf,λs' kp h2=>(sv rv).adm h2 λa o O O O e O O=>kp a o e⟩) λl qs hl q1 q3=>?_;.show Yn rel (by rw[Li];show it.1) λj v hv=>it.2 j v (by rw[<-Mc];show hv)
  . have ep:qs.map (·.1)=(qs.map λx=>x.2.headD (.inl 0)).map Ar:=by rw[DX];show Nc λx hx=>?_;have hm:=q1.mem_iff.mp hx;obtain⟨i,hi⟩:=Ug.mp hm;obtain⟨e3,e4⟩:=LW.mp hi;rw[Bl]at e3 e4;obtain⟨p3,e5,e6⟩:=Dp.mp e3;rw[e5]at e4;change x.1=Ar (x.2.headD (.inl 0));rw[<-e6,<-Bt e4];rfl
    have pm:(qs.map λx=>x.2.headD (.inl 0)).Perm (kvs.map (·.1)):=by show(q1.map _).trans (Qx ?_);rw[show(λx:AD×List AL=>x.2.headD (.inl 0))=(λl:List AL=>l.headD (.inl 0))∘Prod.snd from rfl,<-DX,w5 (by simp),DX];rfl
    have pw:(qs.map λx=>x.2.headD (.inl 0)).Pairwise (λa b=>EY b a=AM):=by
      rw[G8];rw[G8]at q3;show q3.imp_of_mem λ{a b}ha hb hab=>?_;have one:∀x∈qs,∃k,x.2=[k]:=λx hx=>by have hm:=q1.mem_iff.mp hx;obtain⟨i,hi⟩:=Ug.mp hm;obtain⟨_,e4⟩:=LW.mp hi;rw[Bl]at e4;obtain⟨p3,_,e6⟩:=Dp.mp e4;show⟨_,e6.symm⟩
      obtain⟨x,ex⟩:=one a ha;obtain⟨y,ey⟩:=one b hb;rw[ex,ey]at hab⊢;change EY y x=AM;have hab:(if y=x then AM else EY y x)=AM:=hab;by_cases z:y=x;.rw[z];show Yj x
      .rw[AED z]at hab;show hab
    rw[ep];show q _ _ hl pm pw
theorem pS(A:Cf)(s:AV)(U:Ej x)(V:Ej y)(J:CW (Be x)=CW (Be y)):bN A s x y (Ac (Be x=Be y)):=by intro D w E Q h;show TZ U V J h
theorem uH(A:Cf)(s:AV)(D:Ej x)(J:Ej y)(U:CW (Be x)=CW (Be y))(prog:CI)(w:Bm)(E:AJ->AV->Prop)(Q:AJ->AV->Prop)(h:Q (.bool (EY (Be x) (Be y))) s):Am (Ak prog w) A (richCompare .Lt x y) Q E s:=by
 cases x<;>first|show D.elim|skip
 all_goals(cases y<;>first|show J.elim|show ID _|show ID (by assumption)|skip)
 .show(xZ h)
 .show(ABc h)
structure QE(vs ws:List AJ)(n m:Nat)(r:Bool):Prop where
 ex:∃(us zs:List AJ),vs=us++zs/\(zs=[]\/ws.length<=us.length)/\(∀v∈us,Ej v)/\(∀v∈ws,Ej v)/\(∀(i:Nat)x y,us[i]?=AA x->ws[i]?=AA y->CW (Be x)=CW (Be y))/\BO (us.map Be) (ws.map Be)=r
 fq:vs.length+m=ws.length+n
theorem Zo(l b:AB)(J D:Array AJ)(n n2:Nat)(dd N:Option AB)(sl k:Array (Option AJ))(r:Bool)(T:QE J.toList D.toList J.size D.size r):Meets (Builtin.«tuple.__lt__» ⟨[.ref l,.ref b],[]⟩) (λO0 R s=>s.heap.get? l=AA {cls:=.type "tuple",dict:=dd,data:=.seq J n,slots:=sl}/\s.heap.get? b=AA {cls:=.type "tuple",dict:=N,data:=.seq D n2,slots:=k}/\R (.ok (.ret (.bool r))) s):=.of_wp λY w A R s h=>by
 lk;obtain⟨I,g,d,L,K⟩:=s;k_in;obtain⟨hl,hb,h⟩:=h;have f2:=AutoSeq1.sub_tuple_tuple;wp_walk using wpAny_loadPart' hl,wpAny_loadPart' hb,AC4 _ (λZ b j=>b.1=AF/\j=⟨I,g,d,L,K⟩/\∃(M V:List AJ)(q:Bool),Z=M.zip V/\QE M V J.size D.size q/\R (.ok (.ret (.bool q))) ⟨I,g,d,L,K⟩) _;case turn=> rintro⟨y,x⟩Z b j⟨B,rfl,M,V,q,E,X,G⟩;lk;obtain⟨⟨z,m,rfl,F,O,P,Q,W⟩,U⟩:=X;k_in;cases V with |nil=>rw[List.zip_nil_right]at E;cases E|cons c V=>cases z with |nil=>simp_all|cons a z=> rw[UY,ABE]at E;injection E with f C;injection f with hy T;subst hy T;have o:=O y DI;have p:=P x DI;have t:=Q 0 y x rfl rfl;have W:(if Be y=Be x then BO (z.map Be) (V.map Be)else EY (Be y) (Be x))=q:=W;show A6 (pS A.in1 ⟨I,g,d,L,K⟩ o p t Y w _ _ ?_);cases e:Ac (Be y=Be x)with |true=> rw[AEE (AEI e)]at W;wp_walk;show⟨rfl,rfl,z++m,V,q,C,⟨⟨z,m,rfl,?_,λv H=>O v (En _ H),λv H=>P v (En _ H),λi x y e1 u=>Q (i+1) x y (by simpa using e1) (by simpa using u),W⟩,?_⟩,G⟩;all_goals grind|false=> rw[AED (AEM e)]at W;have S:=uH A.in1 ⟨I,g,d,L,K⟩ o p t Y w;wp_walk using S;show⟨_,rfl,by rw[W];show G⟩
 case fin=>
  rintro⟨b1,b2⟩j⟨B,rfl,M,V,q,E,⟨⟨z,m,rfl,F,O,P,Q,W⟩,U⟩,G⟩;simp only at B;subst B;have H:q=Ac (J.size<D.size):=by rw[<-W];cases z with
   |nil=>
    rcases F with F|F
    . subst F;cases V with |nil=> simp only[Ue,Ea]at U;show(AEH (Um.mpr (Nat.add_le_add_iff_left.mp (BW U)))).symm|cons c V=> simp only[Ue,Ea,MQ]at U;show(AEF (by simp_all)).symm
    . have:V=[]:=Z2 (by simpa using F);subst this;simp only[Ue,AA7]at U;show(AEH (by lia)).symm|cons a z=>cases V with |nil=> simp only[Ue,MQ,UY]at U;show(AEH (by lia)).symm|cons c V=>rw[UY,ABE]at E;cases E
  rw[H]at G;wp_walk;show⟨_,rfl,by simpa[ADP]using G⟩
 case h=>show⟨rfl,rfl,J.toList,D.toList,r,rfl,T,h⟩
def uA(K:An):Dr:=λx y H Q=>TJ (λa b D U J=>x=.ref a) (λO b O O O=>y=.ref b) (λa O D U O=>CN K H a (D.map Ar++U)) (λO b O O J=>CN K H b (J.map Ar)) (λO O D U J=>(U=[]\/J.length<=D.length)) (λO O D O J=>(∀(i:Nat)k m,D[i]?=AA k->J[i]?=AA m->CW k=CW m)) (λO O D O J=>Q (.bl (BO D J)) H)
theorem US:∀{xs ys:List AD}{D:List AJ},BM (xs++ys) D->∃vs J,D=vs++J/\BM xs vs/\BM ys J|[],ys,D,h=>⟨[],D,rfl,.nil,h⟩|x::xs,ys,_,h=>by cases h with|cons U W=>lk;obtain⟨vs,J,e,Y,Z⟩:=US W;k_in;show⟨_,J,by simp_all,.cons U Y,Z⟩
theorem sS{K:An}(g:X.A.units<Gq)(c:X.K=K:=by rfl):CC X (E7 .Lt) (uA K):=by
 subst c;intro W s σ H x y v u Q I rx ry h;lk;obtain⟨a,b,z,zs,A,rfl,rfl,d,e,hz,f,q⟩:=h;cases rx;cases ry;obtain⟨j,r1,t,_⟩:=I.jc d;obtain⟨D,r2,w,_⟩:=I.jc e;obtain⟨C,E,rfl,O,q2⟩:=US r1;obtain⟨k,S⟩:=MH O;obtain⟨l,T⟩:=MH r2;have m:=O.aq;have o:=r2.aq;have l3:=q2.aq;rw[As]at m o;obtain⟨⟨P,R,G,sl⟩,N,L,n,M⟩:=id t;obtain⟨⟨F,Z,Y,B⟩,V,J,r,U⟩:=id w;k_in;simp only at L M J U;subst L M J U;have p:QE (C++E).toArray.toList D.toArray.toList (C++E).toArray.size D.toArray.size (BO z A):=by
  show⟨⟨C,E,by simp,?_,S,by simpa using T,λi x y e1 e2=>?_,by simp[k,l]⟩,by simp;show Uh _ _⟩;.grind
  .show f i _ _ (by grind) (by grind)
 show ACx (op:=.Lt) ⟨_,N,rfl⟩ ⟨_,V,rfl⟩ AB5 ABt (by rfl) (Zo a b _ _ n r R Z sl B _ p) ⟨N,V,show RG (BO z A)≠Value.notImplemented/\FI X W σ Q (.bool (BO z A)) s from⟨(by simp),⟨.bl _,H,I,rfl,q⟩⟩⟩ g
def CD(H:AG)(xs:List AD)(kss:List (List AL)):Prop:=BF (λx D=>∃a,x=.ref a/\H a=AA (.tup (D.map Ar))) xs kss
def Bd(H H':AG):Prop:=∀p D,H p=AA (.tup D)->H' p=AA (.tup D)
theorem Aj.tp(s:Aj H H'):Bd H H':=λp D e=>s _ _ e
theorem Ge(H:AG):Bd H H:=λO O h=>h
theorem Bd.aa(a:Bd H D)(b:Bd D J):Bd H J:=λp U e=>b _ _ (a _ _ e)
theorem Bd.ik(t:Bd H H')(h:H' b=AA u)(D:∀xs,u≠.tup xs):Bd H (AK H' b o):=λp xs e=>by
 have e:=t p xs e;have:p≠b:=λz=>by rw[z,h]at e;show D xs (Bt e)
 rw[AU this];show e
theorem Hm{F G:α->D->Prop}(h:∀a b,F a b->G a b){l:List α}{m:List D}(p:BF F l m):BF G l m:=by induction p with|nil=>show .nil|cons a _ i=>show .cons (h _ _ a) i
theorem D9{α U:Type}{F:α->U->Prop}{l D:List α}{m J:List U}(h:BF F l m)(s:BF F D J):BF F (l++D) (m++J):=by induction h with|nil=>show s|cons r _ V=>show .cons r V
theorem Oc:∀{l:List α}{m:List D}(n:Nat),BF F l m->BF F (l.take n) (m.take n)|_,_,0,_=>.nil|_,_,_+1,.nil=>.nil|_,_,n+1,.cons a r=>.cons a (Oc n r)
theorem NM:∀{l:List α}{m:List D}(n:Nat),BF F l m->BF F (l.drop n) (m.drop n)|_,_,0,h=>h|_,_,_+1,.nil=>.nil|_,_,n+1,.cons a r=>NM n r
theorem CD.ae(h:CD H xs kss)(t:Bd H H'):CD H' xs kss:=Hm (λx D⟨a,e,q⟩=>⟨a,e,t _ _ q⟩) h
theorem CD.fq(h:CD H xs kss):xs.length=kss.length:=(CO h).1
theorem CD.at(h:CD H xs kss){i:Nat}(e:xs[i]?=AA x):∃a J,x=.ref a/\kss[i]?=AA J/\H a=AA (.tup (J.map Ar)):=by have W:=(BH.mp e).1;have D:kss[i]?=AA (kss[i]'(by rw[<-h.fq];show W)):=Cd _;lk;obtain⟨a,U,q⟩:=(CO h).2 i _ _ e D;k_in;show⟨a,_,U,D,q⟩
theorem CD.zt(h:CD H xs kss)(e:H p=AA (.tup (D.map Ar))):CD H (xs++[.ref p]) (kss++[D]):=D9 h (.cons ⟨p,rfl,e⟩ .nil)
theorem Ik(H:AG):CD H [] []:=EL
noncomputable def KS:AL->JP|.inl i=>.int i|.inr x=>.str x
noncomputable def IZ(D:List AL):JP:=.tuple (D.map KS)
noncomputable def NI:AL->Bool|.inl _=>AI|.inr x=>RF x
noncomputable def JE(D:List AL):Bool:=D.all NI
theorem TY{K:An}:∀D:List AL,IT K H (D.map Ar) (D.map KS)|[]=>.nil|.inl i::r=>.cons (.int i) (TY r)|.inr x::r=>.cons (.str x) (TY r)
theorem CD.aep{K:An}(h:CD H xs kss):IT K H xs (kss.map IZ):=by induction h with|nil=>show .nil|cons h _ D=>lk;obtain⟨a,rfl,q⟩:=h;k_in;show .cons (.tup (Aq q) (TY _)) D
theorem Yo:∀J:List AL,JE J=AI->IA (J.map KS)=AI/\GW (J.map KS)=0|[],_=>⟨rfl,rfl⟩|k::r,h=>by lk;obtain⟨D,U⟩:=dD.mp h;obtain⟨a,b⟩:=Yo r U;k_in;cases k with|inl i=>simp[KS,IA,Ki,GW,Kj,a,b]|inr x=>have D:RF x=AI:=D;simp[KS,IA,Ki,GW,Kj,a,b,D]
theorem Yp:∀kss:List (List AL),(∀D∈kss,JE D=AI)->IA (kss.map IZ)=AI/\GW (kss.map IZ)<=1|[],_=>⟨rfl,by decide⟩|D::r,h=>by lk;obtain⟨a,b⟩:=Yp r λz J=>h z (En _ J);obtain⟨c,d⟩:=Yo D (h D DI);k_in;show⟨by simp[IZ,IA,Ki,a,c],?_⟩;simp[IZ,GW,Kj,d];simp_all
theorem Oi{kss:List (List AL)}(h:∀D∈kss,JE D=AI):Kk (.list (kss.map IZ))=AI:=by obtain⟨a,b⟩:=Yp _ h;simp[Kk,Ki,Kj,a];show Af b (by decide)
theorem CD.dv{K:An}(h:CD H xs kss)(e:H l=AA (.lst xs)):Gd K H (.ref l) (.list (kss.map IZ)):=.lst (Ab e) h.aep
theorem CD.yz{K:An}(h:CD H xs kss)(U:sh≠[])(W:∀Y∈kss,Y.map CW=sh):NA K H xs kss:=by show .cT sh U (Gh h.fq λi a b e1 D=>?_);lk;obtain⟨p,J,q⟩:=(CO h).2 i a b e1 D;k_in;show⟨⟨p,J,Aq q⟩,W b (CZ D)⟩
theorem CD.ada(h:CD H xs kss){qs:List (AD×List AL)}(p:qs.Perm (xs.zip kss)):CD H (qs.map (·.1)) (qs.map (·.2))/\(qs.map (·.2)).Perm kss:=by
 have Z:=h.fq;constructor
 . show Gh (by rw[As,As]) λi a b e1 D=>?_;rw[Bl]at e1 D;lk;obtain⟨q,J,rfl⟩:=Dp.mp e1;rw[J]at D;cases D;obtain⟨j,Y⟩:=Ug.mp (p.mem_iff.mp (CZ J));obtain⟨U,W⟩:=LW.mp Y;k_in;show(CO h).2 j _ _ U W
 . have:=p.map (·.2);rwa[w5 (BW Z.symm)]at this
def C5(kss:List (List AL)):Prop:=kss.Pairwise λa b=>BO b a=AM
theorem UK:∀{a b:List (List AL)},a.Perm b->C5 a->C5 b->a=b
  |[],b,p,_,_=>by simp_all|x::a,[],p,_,_=>List.perm_nil.mp p|x::a,y::b,p,Z,z=>by
    lk;obtain⟨U,V⟩:=G7.mp Z;obtain⟨W,Y⟩:=G7.mp z;k_in;have e:x=y:=by
      have D:y∈x::a:=(by grind);have J:x∈y::b:=(by grind);rcases B6.mp D with e|D;.show e.symm
      . rcases B6.mp J with e|J;.show e
        .show Qc (W x J) (U y D)
    subst e;rw[UK (by simp_all) V Y]
theorem NC{K:An}(B:Nat->Ai->List AD->AG->Prop)(j:xs.length<=Az)(T:B 0 (Ec M AF++L.map (Fw P)) [] H)(f:∀i Y J Z,B i Y J Z->Bp K Z a xs)(k:∀(i:Nat)x Y J Z(I:AD->Ai->AG->Prop)(G:Ai->AG->Prop),xs[i]?=AA x->J.length<=i->B i Y J Z->(∀y W z,B (i+1) W (J++[y]) z->I y W z)->(∀W z,B (i+1) W J z->G W z)->g x Y Z λA z=>O A z λb F=>if b=AI then N A F λy R=>I y A R else G A F)(c:∀Y J Z,J.length<=xs.length->B xs.length Y J Z->∀D,Z D=AF->Q (.ref D) (AK Z D (.lst J))):K0 M L g O N P Q (K7 K a) H:=by
 show⟨λi m Y J E=>m=xs.length-i/\i<=xs.length/\J.length<=i/\B i Y J E,⟨xs.length,by simp,BZ _,BZ _,T⟩,?_⟩;intro i m Y J E X;lk;obtain⟨rfl,d,C,p⟩:=X;k_in;have q:=f i Y _ E p;by_cases U:i<xs.length
 . show .inr ⟨⟨xs,xs[i],q,by simp[U]⟩,BK (FQ C U) j,λx Z y=>?_⟩;obtain⟨e,y⟩:=y;subst e;have S:=y xs q;show k i x Y _ _ _ _ S C p (λy W z h=>⟨_,HG _ _ U,rfl,U,by rw[Bs];show Gn.mpr C,h⟩) λW z h=>⟨_,HG _ _ U,rfl,U,JM C,h⟩
 . have e:=EJ d (E6 U);subst e;show .inl ⟨⟨xs,q,Ag _⟩,c Y _ E C p⟩
theorem IU{K:An}(z:Nat->Ai->List AD->AG->Prop)(S:xs.length<=Az)(O:z 0 (Ec L AF++I.map (Fw M)) [] H)(R:∀i Z U W,z i Z U W->Bp K W a xs)(T:∀(i:Nat)x Z U W(A:AD->Ai->AG->Prop),xs[i]?=AA x->U.length<=i->z i Z U W->(∀y E Y,z (i+1) E (U++[y]) Y->A y E Y)->g x Z W λJ Y=>C J Y λy B=>A y J B)(P:∀Z U W,U.length<=xs.length->z xs.length Z U W->∀D,W D=AF->Q (.ref D) (AK W D (.lst U))):K0 L I g Ol C M Q (K7 K a) H:=by
 show NC z S O R (λi x Z U W A G e1 N p X o=>?_) P;have e:(λ(J)(Y)=>Ol J Y λb F=>if b=AI then C J F λy B=>A y J B else G J F)=λJ Y=>C J Y λy B=>A y J B:=by funext J Y;change(if AI=AI then C _ Y _ else G J Y)=_;rw[AEE rfl]
 show T i x Z _ W A e1 N p X
theorem OX[DecidableEq D]{q:D×AD}(h:q∈Bk kvs k v):q=(k,v)\/(q∈kvs/\q.1≠k):=by
  unfold Bk at h;split at h
  . lk;obtain⟨p,U,e⟩:=A7.mp h;k_in;by_cases z:p.1=k;.rw[AEE z]at e;rw[<-e,z];show .inl rfl
    .rw[AED z]at e;rw[<-e];show .inr ⟨U,z⟩
  . rename_i J;rcases CS.mp h with h|h;.show .inr ⟨h,λz=>J (UX.mpr ⟨q,h,AEF z⟩)⟩
    .show .inl (BV.mp h)
theorem QZ[DecidableEq J](kvs:List (J×AD))(k:J)(v:AD):(Bk kvs k v).map (·.1)=if k∈kvs.map (·.1)then kvs.map (·.1)else kvs.map (·.1)++[k]:=by
  by_cases h:k∈kvs.map (·.1)
  . rw[AEE h];lk;obtain⟨p,D,e⟩:=A7.mp h;k_in;unfold Bk;rw[AEE (UX.mpr ⟨p,D,AEF e⟩),DX];show Nc λq O=>?_;change(if q.1=k then(q.1,v)else q).1=q.1;split<;>rfl
  . rw[AED h];unfold Bk;rw[AED (λq=>?_),Ce];.rfl
    . lk;obtain⟨p,D,e⟩:=UX.mp q;k_in;show h (A7.mpr ⟨p,D,AEI e⟩)
theorem OY{J:Type}[DecidableEq J]{kvs:List (J×AD)}{k:J}{v:AD}(h:(kvs.map (·.1)).Nodup):((Bk kvs k v).map (·.1)).Nodup:=by
 rw[QZ];split;.show h
 . rename_i D;show Y2 h D
theorem Tr[DecidableEq D](kvs:List (D×AD))(k:D)(v:AD):(Bk kvs k v).length<=kvs.length+1:=by
 have e:=AEG Nb (QZ kvs k v);rw[As]at e;rw[e];split;.simp
 .simp
theorem JG{U:Type}[DecidableEq U]{kvs:List (U×AD)}{k:U}{v:AD}(h:Br kvs k=AA v):(k,v)∈kvs:=by lk;obtain⟨p,D,J⟩:=Dp.mp h;k_in;have:=AAw D;have e:=AEI this;rw[<-e,<-J];show List.mem_of_find?_eq_some D
theorem NY{D:Type}[DecidableEq D]{kvs:List (D×AD)}{k:D}(h:k∈kvs.map (·.1)):∃v,Br kvs k=AA v:=by cases e:Br _ k with|some v=>show⟨v,rfl⟩|none=>show absurd h (Zv e)
theorem OR:∀{l:List α}{n m:Nat},(∀(i:Nat)x,l[i]?=AA x->(p x=AI↔n<=i/\i<m))->(l.drop n).take (m-n)=l.filter p|[],n,m,_=>by simp|x::l,0,0,h=>by have D:=h 0 x rfl;have J:=OR (n:=0) (m:=0) λi y e=>(h (i+1) y (by simpa using e)).trans (by simp);rw[GV,AED (λz=>by have:=D.mp z;show xJ this.1 this.2),<-J];rfl|x::l,0,m+1,h=>by have D:=h 0 x rfl;have J:=OR (n:=0) (m:=m) λi y e=>(h (i+1) y (by simpa using e)).trans (by simp);rw[GV,AEE (D.mpr ⟨Ag _,aP _⟩),<-J];rfl|x::l,n+1,m,h=>by have D:=h 0 x rfl;have J:=OR (n:=n) (m:=m-1) λi y e=>(h (i+1) y (by simpa using e)).trans (by(constructor<;>lia));rw[GV,AED (λz=>by have:=D.mp z;show xK _ this.1),<-J];congr 1;lia
theorem Ta[DecidableEq W](f:α->W):∀(L:List α)(D:List W),D.Nodup->(∀x∈L,f x∈D)->(D.flatMap λk=>L.filter λx=>Ac (f x=k)).Perm L
  |[],D,_,_=>by
    have:(D.flatMap λk=>([]).filter λx=>Ac (f x=k))=[]:=by simp
    rw[this]|x::L,D,V,Z=>by
    have E:=Ta f L D V λy C=>Z y (En _ C);show UU ?_ (E.cons x);have Y:∀D:List W,D.Nodup->(D.flatMap λk=>(x::L).filter λx=>Ac (f x=k)).Perm (if f x∈D then x::(D.flatMap λk=>L.filter λx=>Ac (f x=k))else D.flatMap λk=>L.filter λx=>Ac (f x=k)):=by intro D;induction D with |nil=>simp|cons k D J=>
        intro V;obtain⟨A,B⟩:=JL.mp V;have J:=J B;rw[El];by_cases e:f x=k
        . have U:=λz=>A (e▸z);rw[AED U]at J;rw[AEE (by rw[e];show DI),GV,AEE (by simpa using e)];show(J.append_left _).cons x
        . rw[GV,AED (by simpa using e)];by_cases z:f x∈D;. rw[AEE z]at J;rw[AEE (En _ z)];show(J.append_left _).trans AA9
          . rw[AED z]at J;rw[AED (λq=>by rcases B6.mp q with q|q;show e q;show z q)];show J.append_left _
    have:=Y D V;rwa[AEE (Z x DI)]at this
theorem ZI{f g:α->List J}:∀{l:List α},(∀x∈l,(f x).Perm (g x))->(l.flatMap f).Perm (l.flatMap g)|[],_=>by simp|x::l,h=>by show(h x DI).append (ZI λy D=>h y (En _ D))
theorem tK{α V:Type}{f:α->List V}{l m:List α}(p:l.Perm m):(l.flatMap f).Perm (m.flatMap f):=by induction p with|nil=>simp|cons x _ U=>show U.append_left _|swap x y l=>rw[El,El,El,El,<-E4,<-E4];show Ou.append_right _|trans _ _ D J=>show D.trans J
def BR(d:AB)(H H':AG):Prop:=∀b o,b≠d->H b=AA o->H' b=AA o
theorem Aj.x(s:Aj H H')(d:AB):BR d H H':=λb o O e=>s b o e
theorem BR.aa(a:BR d H D)(b:BR d D J):BR d H J:=λc o n e=>b c o n (a c o n e)
theorem BR.ik(a:BR d H H'):BR d H (AK H' d o):=λc u n e=>by rw[AU n];show a c u n e
theorem BR.tp(a:BR d H H')(h:H d=AA u)(D:∀xs,u≠.tup xs):Bd H H':=λp xs e=>a p _ (λz=>by rw[z,h]at e;show D xs (Bt e)) e
theorem Cr.abc(x:Cr P w H h)(V:H a=AF)(J:Cv P w (AK H a o) h a o):Cr P w (AK H a o) h:=λb u e=>by
 by_cases D:b=a;.subst D;rw[AZ]at e;simp_all
 . rw[AU D]at e;show(x b u e).wg (λW u2 u3 U=>U) (λc q=>by rw[AU (by grind)];show q) λc Y q=>by rw[AU (by grind)];show q
theorem pE{lo:Int}(z:Nat->Ai->List AD->AG->Prop)(a:n<=Az)(R:z 0 (Ec N AF++M.map (Fw O)) [] H)(c:∀(i:Nat)A J B(L:AD->Ai->AG->Prop),i<n->J.length<=i->z i A J B->(∀y C Y,z (i+1) C (J++[y]) Y->L y C Y)->g (.int (lo+i)) A B λU Y=>F U Y λy E=>L y U E)(T:∀A J B,J.length<=n->z n A J B->∀D,B D=AF->Q (.ref D) (AK B D (.lst J))):K0 N M g Ol F O Q (K8 lo n) H:=by
  show⟨λi m A J I=>m=n-i/\i<=n/\J.length<=i/\z i A J I,⟨n,by simp,BZ _,BZ _,R⟩,?_⟩;intro i m A J I S;lk;obtain⟨rfl,X,G,p⟩:=S;k_in;by_cases W:i<n
  . show .inr ⟨W,BK (FQ G W) a,λx B y=>?_⟩;obtain⟨e1,P⟩:=y;subst e1 P;have e:(λ(U)(Y)=>Ol U Y λb K=>if b=AI then F U K λy E=>∃Z,Z<n-i/\Z=n-(i+1)/\i+1<=n/\(J++[y]).length<=i+1/\z (i+1) U (J++[y]) E else∃Z,Z<n-i/\Z=n-(i+1)/\i+1<=n/\J.length<=i+1/\z (i+1) U J K)=λU Y=>F U Y λy E=>∃Z,Z<n-i/\Z=n-(i+1)/\i+1<=n/\(J++[y]).length<=i+1/\z (i+1) U (J++[y]) E:=by funext U Y;change(if AI=AI then(F _ Y _)else∃Z,Z<n-i/\Z=n-(i+1)/\i+1<=n/\J.length<=i+1/\z (i+1) U J Y)=_;rw[AEE rfl]
    show c i A _ _ _ W G p (λy C Y h=>⟨_,HG _ _ W,rfl,W,by rw[Bs];show Gn.mpr G,h⟩)
  . have e:=EJ X (E6 W);subst e;show .inl ⟨Ag _,T A _ I G p⟩
theorem sW(r:BM ys its)(C:Je h kvs kss)(Q:its.length=kvs.length)(p:out.Perm (kvs.toArray.zip its.toArray))(u:DC (O:=G4) (G1 h) out 0 out.size):∃qs:List (AD×List AL),qs.Perm (ys.zip kss)/\BM (qs.map (·.1)) (out.map (·.2)).toList/\(qs.map (·.2)).Pairwise (λa b=>BO b a=AM):=by
  have L:out.toList.Perm (kvs.zip its):=by have:=RV.mp p;simp_all
  have e0:(out.map (·.2)).toList=out.toList.map (·.2):=AAN;have R:=r.aq;have z:=C.fq;have K:BF (λ(q)(v:Au)=>BU q.1 v.2/\G1 h v.1=q.2) (ys.zip kss) (kvs.zip its):=by show Gh (by(simp[*])) λi a b e1 D=>?_;obtain⟨E,F⟩:=LW.mp e1;obtain⟨G,H⟩:=LW.mp D;obtain⟨v,Y,I⟩:=r.wx E;rw[H]at Y;cases Y;show⟨I,C.kf i b.1 a.2 G F⟩
  lk;obtain⟨qs,M,N⟩:=Ob L K;obtain⟨B,P⟩:=CO N;k_in;show⟨qs,M,?_,?_⟩
  . rw[e0];show Gh (by(simpa using B)) λi a b e1 D=>?_;grind
  . rw[Gm];intro i j Z U J;rw[As]at Z U;have A:∀k(z:k<qs.length),(qs[k]).2=BB (O:=G4) (G1 h) out k:=λk z=>by
      have W:k<out.size:=by simp_all
      rw[DW W];have D:out.toList[k]?=AA out[k]:=by simp_all
      grind
    have:=u i j (BZ _) (Bg J) (BK U (BW B));rw[<-A i Z,<-A j U]at this;rw[Z4,Z4];show this
theorem ZA{kvs its:List AJ}(h:v∈(kvs.toArray.zip its.toArray).toList):v.1∈kvs:=by rw[Array.toList_zip]at h;show(aA h).1
theorem oF{K:An}(s:Aj H H')(h:CN K H a xs):CN K H' a xs:=h.imp (λh=>h.imp (s _ _) λ⟨o,h⟩=>⟨o,s _ _ h⟩) id
def S4(K:An)(H:AG)(J:List AJ)(kss:List (List AL)):Prop:=J.length=kss.length/\∀(i:Nat)u D,J[i]?=AA u->kss[i]?=AA D->∃q,u=.ref q/\CN K H q (D.map Ar)
theorem S4.yz(I:AX X U F H s)(h:S4 X.K H V kss)(Y:sh≠[])(Z:∀D∈kss,D.map CW=sh):Je s.heap V kss:=by show .cT sh h.1 Y λi u D e1 J=>⟨?_,(Z _ (CZ J))⟩;lk;obtain⟨q,rfl,W⟩:=h.2 i u D e1 J;obtain⟨A,B,z,_⟩:=I.jc W;obtain⟨o,e,c,n,d⟩:=z;obtain⟨C,E⟩:=MH B;k_in;show⟨q,o,_,n,rfl,e,c,d,by assumption,(by assumption)⟩
theorem AX.zd(I:AX X (U::D) V H s):AX X D V H s:=I.jx λp J=>I.uc p (Eb _ (GH J))
theorem AX.xn(I:AX X (D::J) U H s):s.heap.get? D.1=AA D.2/\H D.1=AF/\D.1≠X.af.locals/\D.1∉X.fs:=by have:=I.uc D List.mem_append_cons_self;(simp[*])
theorem AX.abm(I:AX X ((b,o)::D) z H s)(V:(b∈X.ex\/X.s₀.heap.objs.size<=b)/\(∀x c,X.af.cells.lookup x=AA c->c≠b)/\∀p∈X.pn++D,p.1≠b)(C:U1 b s.heap U)(G:U.get? b=AA Y)(Z:∀v,Y.data≠.cell v):AX X ((b,Y)::D) z H {s with heap:=U,toks:=t'}:=by
 lk;obtain⟨E,A,B,F⟩:=I.xn;k_in;have J:AX X _ z H {s with heap:=U,toks:=t'}:=I.zd.fh (λc u Z e=>(C.2 c Z).trans e) A B V.1 V.2.1 V.2.2;show J.jx λp W=>?_;rcases B6.mp W with rfl|W;. (simp[*])
 .show J.uc p (Eb _ W)
theorem UT:∀{l:List AJ},x∈l->(x,x)∈l.zip l
 |y::r,h=>by
  rcases B6.mp h with rfl|h;. (constructor<;>lia)
  .show En _ (UT h)
abbrev OF(X:BP)(D:List (AB×A2))(b:AB):Prop:=(b∈X.ex\/X.s₀.heap.objs.size<=b)/\(∀x c,X.af.cells.lookup x=AA c->c≠b)/\∀p∈X.pn++D,p.1≠b
theorem uU{st:CJ}(Q:BM ys its)(j:its.length<=Az)(d:sh≠[])(g:∀k∈kss,k.map CW=sh)(t:ys.length=kss.length)(I:AX X ((J,CH "list" U e)::(a,CH "list" #[] e1)::D) R H s)(G:J≠a)(C:OF X ((a,CH "list" #[] e1)::D) J)(B:OF X D a)(M:S4 X.K H U.toList kss)(L:(Ah st).Perm (U.zip its.toArray))(i:DC (O:=G4) (G1 s.heap) (Ah st) 0 (Ah st).size)(f:MV st=AF)(h:∀s' out c(qs:List (AD×List AL)),AX X D R H s'->s'.heap.get? a=AA (CH "list" out c)->out.size<=Az->qs.Perm (ys.zip kss)->BM (qs.map (·.1)) out.toList->(qs.map (·.2)).Pairwise (λa b=>BO b a=AM)->P (.done (.ret .none)) s'):Am (Ak X.ai X.w) X.A.in1.in1 (xX a AM e1 (.ref J) st) P E s:=by
 have N:=I.xn.1;have m:=I.zd.xn.1;have q:=M.yz I d g;have r:U.size=kss.length:=by have:=M.1;rwa[Li]at this
 have u:=Q.aq;lk;obtain⟨qs,n,o,p⟩:=sW (kvs:=U.toList) Q q (by simp_all) (by rw[VA];show L) i;have K:(Ah st).size=its.length:=by
  have l:(U.zip its.toArray).size=DU U.size its.length:=by simp[Array.size_zip]
  rw[L.size_eq,l];simp_all
 have s1:=bH s.heap J (EK λO0=>(#[]:Array AJ));obtain⟨Z,F⟩:∃Z,(s.heap.update J (EK λO0=>(#[]:Array AJ))).get? J=AA (CH "list" #[] Z):=⟨_,Uv N λO0=>#[]⟩;k_in;have W:(s.heap.update J (EK λO0=>(#[]:Array AJ))).get? a=AA (CH "list" #[] e1):=(s1.2 a G.symm).trans m;have S:AX X ((J,CH "list" #[] Z)::(a,CH "list" #[] e1)::D) R H {s with heap:=s.heap.update J (EK λO0=>(#[]:Array AJ)),toks:=s.toks}:=I.abm C s1 F λv z=>by cases z
 unfold xX;try dsimp only
 show A6 (O1 N rfl ?_ (by simp_all) (BZ _));show A6 (wpAny_letGo ?_);show A6 (Ux W rfl ?_);simp only[Lj,AEJ];have s2:=bH (s.heap.update J (EK λO0=>(#[]:Array AJ))) a (EK λO0=>(Ah st).map (·.2));lk;obtain⟨A,Y⟩:∃A,((s.heap.update J (EK λO0=>(#[]:Array AJ))).update a (EK λO0=>(Ah st).map (·.2))).get? a=AA (CH "list" ((Ah st).map (·.2)) A):=⟨_,Uv W λO0=>(Ah st).map (·.2)⟩;k_in;have T:=S.zd.abm (t':=s.toks) B s2 Y λv z=>by cases z
 show A6 (O1 W rfl ?_ (BZ _) (Af (BW (c7 ..)) (by(constructor<;>lia))));rw[f];simp only[AES,Lj,AEJ];show Ci (h _ _ A qs T.zd Y (by rw[c7];show Af (BW K) j) n o p)
theorem uT(F:HZ X.ai X.w X.K X.mg X.ag A3 k f fd ps sp)(hb:Kz X.K fd ps [])(hr:DF (k+2) X.A)(rv:BM ys its)(hl:ys.length=kss.length)(hz:its.length<=Az)(h0:sh≠[])(hs:∀L∈kss,L.map CW=sh)(I:AX X ((Y,CH "list" #[] 0)::(a,CH "list" #[] e1)::U) σ H s)(hka:Y≠a)(S:OF X ((a,CH "list" #[] e1)::U) Y)(fpa:OF X U a)(turn:∀(i:Nat)y L J,ys[i]?=AA y->kss[i]?=AA L->Aj H J->sp [y] J (λv n=>Aj J n/\∃q,v=.ref q/\CN X.K n q (L.map Ar)) L8)(h:∀J s' out c(qs:List (AD×List AL)),Aj H J->AX X U σ J s'->s'.heap.get? a=AA (CH "list" out c)->J a=AF->out.size<=Az->qs.Perm (ys.zip kss)->BM (qs.map (·.1)) out.toList->(qs.map (·.2)).Pairwise (λa b=>BO b a=AM)->P (.done (.ret .none)) s'):Am (Ak X.ai X.w) X.A.in1.in1 (ksk_rest a (.ref f) AM its.toArray e1 (.ref Y)) P E s:=by
  have hy:=rv.aq;unfold ksk_rest;show A6 (PM ?_);first |rw[List.forIn_toArray]|(rw[<-Array.forIn_toList];simp only[List.toList_toArray])|rw[<-Array.forIn_toList]
  show A6 (ksk_fold (λi s'=>∃J D e,Aj H J/\AX X ((Y,CH "list" D e)::(a,CH "list" #[] e1)::U) σ J s'/\S4 X.K J D.toList (kss.take i)) its 0 s ⟨H,#[],0,Bz _,I,rfl,λi u L e1=>by simp at e1⟩ ?pj ?wu);case pj=>
    intro j x s' hx hI;lk;obtain⟨J,D,e,sm,Z,G⟩:=hI;k_in;simp only[ABQ]at G⊢;have hj:j<its.length:=(by grind);have T:j<ys.length:=BK hj (BW hy.symm);have hjk:j<kss.length:=by simp_all
    lk;obtain⟨u0,d,ry⟩:=rv.wx (Cd T);rw[hx]at d;cases d;k_in;have R:kss[j]?=AA kss[j]:=Cd hjk;have l:=turn j ys[j] kss[j] J (Cd T) R sm;have lk:=G.1;rw[Li,Em]at lk;have hl1:([x]:List AJ).length=ps.length:=F.fq _ _ _ _ l;show A6 (zT (U6 (PC (F.aeb X.A.in1.in1 X.cj s' J ⟨[x],[]⟩ [x] [ys[j]] _ L8 hr.adu.adu Z.abu.adu.adu (by have:=hb s' [x] Z.oy (by simpa using hl1);simpa using this) (.cons ry .nil) l) λrr s2 M=>?_)));cases rr with |error ev=>show M.elim|ok fl=>cases fl with |next=>show Er M|brk=>show Er M|cont=>show Er M|ret u=>
        lk;obtain⟨v,n,I2,rv2,g,q,rfl,eq⟩:=Z.zx M;cases(show u=DM q from rv2);have r:=I2.xn.1;have s1:=bH s2.heap Y (EK (·.push (.ref q)));obtain⟨t,hc2⟩:∃t,(s2.heap.update Y (EK (·.push (.ref q)))).get? Y=AA (CH "list" (D.push (.ref q)) t):=⟨_,Uv r (·.push (.ref q))⟩;k_in;try dsimp only
        show A6 (O1 r rfl ?_ (by lia) (by grind));show Ci ⟨rfl,n,D.push (.ref q),t,sm.aa g,(I2.abm (t':=s2.toks) S s1 hc2 (λv z=>by cases z)),?_,λi u L g1 g2=>?_⟩;.grind
        . rw[AAO]at g1;rw[EI,R]at g2;by_cases hi:i<D.toList.length;. rw[Na hi]at g1;rw[Na (by simp_all)]at g2;lk;obtain⟨q',w1,w2⟩:=G.2 i u L g1 g2;k_in;show⟨q',w1,oF g w2⟩
          grind
  case wu=>
    intro s' hI;lk;obtain⟨J,D,e,sm,Z,G⟩:=hI;k_in;rw[Dk (by simp_all)]at G;have r:=Z.xn.1;have na0:=Z.zd.xn.2.1;try dsimp only
    show A6 (xY r rfl ?_);have hk:D.size=its.length:=by have:=G.1;simp_all
    have hzs:(D.zip its.toArray).size=its.length:=by(simp[*])
    have fin:∀N:CJ,(Ah N).Perm (D.zip its.toArray)->DC (O:=G4) (G1 s'.heap) (Ah N) 0 (Ah N).size->MV N=AF->Am (Ak X.ai X.w) X.A.in1.in1 (xX a AM e1 (.ref Y) N) P E s':=λN p u fl=>uU rv hz h0 hs hl Z hka S fpa G p u fl (by grind);unfold ksk_end;try dsimp only
    simp only[Lj,AEJ];by_cases K:its.toArray.size<2
    . rw[AEE K,AEE K];show A6 (Ci ?_);rw[ADB];show A6 (Ci ?_);try dsimp only
      show fin _ (U9 _) (λi j O0 q1 q2=>?_) rfl;rw[hzs]at q2;rw[Hu]at K;obtain rfl:i=j:=by lia
      show MU _
    . rw[AED K,AED K];rw[Hu]at K;have sv:=G.yz Z h0 hs;lk;obtain⟨κ,kk,C⟩:=sv.adm (prog:=X.ai) (w:=X.w) (A:=X.A.in1.in1) (s:=s') (by rw[Li];show Af (E6 K) (BW hk.symm)) λa o items m O0 e O0 O0=>e;k_in;rw[VA]at kk;have C':Ff X.ai X.w X.A.in1.in1 s' κ G4 (G1 s'.heap) (D.zip its.toArray):=⟨λp hp q M Q E z=>by have m1:p.1∈D.toList:=ZA (kvs:=D.toList) (its:=its) (by assumption);have m2:q.1∈D.toList:=ZA (kvs:=D.toList) (its:=its) (by assumption);show C.aff (p.1,p.1) (by rw[Uw];show UT m1) (q.1,q.1) (by rw[Uw];show UT m2) Q E z⟩;show A6 (kk _ _ ?_);show A6 (Ep (cW C' (Q:=λO0 W=>CM κ (D.zip its.toArray) W/\DC (O:=G4) (G1 s'.heap) (Ah W) 0 (D.zip its.toArray).size) ⟨U9 _,rfl,rfl⟩ rfl λW B u=>⟨B,u⟩) ?_ λO0 O0 e=>e);rintro⟨⟨⟩,W⟩s2⟨rfl,B,u⟩;try dsimp only
      show fin W B.ph (by rw[B.ph.size_eq];show u) B.oo
theorem AX.abc(I:AX X D N H s)(f:JB X D H a)(O:X.s₀.heap.get? a=AF)(U:Cv X.ai X.w (AK H a o) s.heap a o):AX X D N (AK H a o) s:=by
 lk;obtain⟨F,C,_,_,E,G⟩:=f;k_in;have J:∀b o,H b=AA o->b≠a:=(by grind);show⟨I.ok,I.os,I.je,⟨I.ag.ae,I.ag.tw,λb o e1 n K=>?_,I.ag.gw,λb M z=>?_,λb o u z=>?_,λb L z=>?_⟩,I.wz,I.ni,?_,λx c z=>?_,λp q=>?_,I.cq.abc F U,I.fq⟩;. have q:b≠a:=(by grind);rw[AU q];show I.ag.ar b o e1 n K
 .have:=I.ag.uj b M z;rw[AU (J _ _ this)];assumption
 .have:=I.ag.qw b o u z;rw[AU (J _ _ this)];assumption
 .obtain⟨V,q⟩:=I.ag.ui b L z;show⟨_,by rw[AU (J _ _ q)];show q⟩
 .rw[AU C.symm];show I.ar
 .rw[AU (E x c z)];show I.ip x c z
 . lk;obtain⟨W,Y,Z,A,B⟩:=I.uc p q;k_in;show⟨W,by rw[AU (G p q)];show Y,Z,A,B⟩
def Xy(K:An)(sp:Ax)(H:AG)(ys:List AD)(kss:List (List AL)):Prop:=ys.length=kss.length/\(∃W:List Bool,W≠[]/\∀D∈kss,D.map CW=W)/\∀(i:Nat)y D J,ys[i]?=AA y->kss[i]?=AA D->Aj H J->sp [y] J (λv U=>Aj J U/\∃q,v=.ref q/\CN K U q (D.map Ar)) L8
theorem uV(F:HZ X.ai X.w X.K X.mg X.ag A3 k f fd ps sp)(hb:Kz X.K fd ps [])(hr:DF (k+2) X.A)(I:AX X U j H s)(hq:Bp X.K H p ys)(kb:Xy X.K sp H ys kss)(q:∀l(qs:List (AD×List AL))K,Aj H K->K l=AF->qs.Perm (ys.zip kss)->(qs.map (·.2)).Pairwise (λa b=>BO b a=AM)->Q (.ref l) (AK K l (.lst (qs.map (·.1))))):Am (Ak X.ai X.w) X.A (Ir (.builtin "sorted") [.ref p] [(Str.ofString "key",.ref f)]) (FI X U j Q) E s:=by
  lk;obtain⟨hl,⟨sh,h0,hs⟩,turn⟩:=kb;obtain⟨D,u,pl,P⟩:=I.cb hq;k_in;have W:=u.aq;have T:=pl.isList;show call_function_entry_kw kind_sorted plain_sorted entry_sorted (ksk_s1 _ _) ?_;unfold Builtin.«sorted»;show A6 (m:=checkCount "sorted" 1 1 _) (Ci ?_);show A6 (collect_list T ?_ (Af (BW W.symm) P));show A6 (cH ?_ (Af (BW W.symm) P));have C:((s.heap.push (CH "list" #[] 0)).update s.heap.objs.size (EK (.++D.toArray))).objs.size=s.heap.objs.size+1:=by simp_all
  have B:(((s.heap.push (CH "list" #[] 0)).update s.heap.objs.size (EK (.++D.toArray))).push (CH "list" D.toArray 0)).get? (s.heap.objs.size+1)=AA (CH "list" D.toArray 0):=by rw[<-C];show Fe _ rfl
  have r:∀b o,s.heap.get? b=AA o->(((s.heap.push (CH "list" #[] 0)).update s.heap.objs.size (EK (.++D.toArray))).push (CH "list" D.toArray 0)).get? b=AA o:=λb o e=>Cb _ ((yK _ _ _ _ (DV (B7 e))).trans (Cb _ e));rw[C];show A6 (PK (wpAny_call_entry_kw ABh ⟨_,B,rfl⟩ ABW ?body (ksk_l1 _ _)));case body=>
    have h:=ksk_t1 f (s.heap.objs.size+1);rw[h];generalize hg:(((s.heap.push (CH "list" #[] 0)).update s.heap.objs.size (EK (.++D.toArray))).push (CH "list" D.toArray 0))=g at B r⊢;have S:g.objs.size=s.heap.objs.size+2:=by rw[<-hg,size_push',C]
    have s1:=bH g (s.heap.objs.size+1) (EK λO0=>(#[]:Array AJ));lk;obtain⟨e1,O⟩:∃e1,(g.update (s.heap.objs.size+1) (EK λO0=>(#[]:Array AJ))).get? (s.heap.objs.size+1)=AA (CH "list" #[] e1):=⟨_,Uv B λO0=>#[]⟩;k_in;have M:((g.update (s.heap.objs.size+1) (EK λO0=>(#[]:Array AJ))).push (CH "tuple" D.toArray 0)).objs.size=s.heap.objs.size+3:=by simpa using S
    have i:∀b o,s.heap.get? b=AA o->(((g.update (s.heap.objs.size+1) (EK λO0=>(#[]:Array AJ))).push (CH "tuple" D.toArray 0)).push (CH "list" #[] 0)).get? b=AA o:=λb o e=>Cb _ (Cb _ ((s1.2 b (DV (xI (B7 e)))).trans (r b o e)));have A:JB X U H (s.heap.objs.size+1):=I.vk (Ow _) (I.cq.bw (Ow _));have Y:JB X U H (s.heap.objs.size+3):=I.vk (Ov _ 3) (I.cq.bw (Ov _ 3));have n:AX X U j H {s with heap:=((g.update (s.heap.objs.size+1) (EK λO0=>(#[]:Array AJ))).push (CH "tuple" D.toArray 0)).push (CH "list" #[] 0),toks:=s.toks}:=I.ig i;have gA:(((g.update (s.heap.objs.size+1) (EK λO0=>(#[]:Array AJ))).push (CH "tuple" D.toArray 0)).push (CH "list" #[] 0)).get? (s.heap.objs.size+1)=AA (CH "list" #[] e1):=Cb _ (Cb _ O);have gK:(((g.update (s.heap.objs.size+1) (EK λO0=>(#[]:Array AJ))).push (CH "tuple" D.toArray 0)).push (CH "list" #[] 0)).get? (s.heap.objs.size+3)=AA (CH "list" #[] 0):=by rw[<-M];show Fe _ rfl
    have J:AX X ((s.heap.objs.size+3,CH "list" #[] 0)::(s.heap.objs.size+1,CH "list" #[] e1)::U) j H {s with heap:=((g.update (s.heap.objs.size+1) (EK λO0=>(#[]:Array AJ))).push (CH "tuple" D.toArray 0)).push (CH "list" #[] 0),toks:=s.toks}:=by
      show n.jx λx Z=>?_;rcases B6.mp Z with rfl|Z;.show⟨gK,Y.1,Y.2.1,Y.2.2.1,λv z=>by cases z⟩
      . rcases B6.mp Z with rfl|Z;.show⟨gA,A.1,A.2.1,A.2.2.1,λv z=>by cases z⟩
        .show n.uc x (Eb _ Z)
    unfold ksk_tree;show A6 (xY B rfl ?_);show A6 (O1 B rfl ?_ (Af (BW W.symm) P) (BZ _));show A6 (Ux O rfl ?_);show A6 (AC6 ?_ (Af (BW W.symm) P));show A6 (cH ?_ (BZ _));show PK ?_;have N:(s.heap.objs.size+3:AB)≠s.heap.objs.size+1:=(by simp);have R:OF X ((s.heap.objs.size+1,CH "list" #[] e1)::U) (s.heap.objs.size+3):=⟨Y.2.2.2.1,Y.2.2.2.2.1,λx Z=>by
      rcases CS.mp Z with Z|Z;.show Y.2.2.2.2.2 x (Ht _ Z)
      . rcases B6.mp Z with rfl|Z;.show N.symm
        .show Y.2.2.2.2.2 x (Eb _ Z)⟩;rw[M];show uT F hb hr u hl (Af (BW W.symm) P) h0 hs J N R A.2.2.2 turn λK s' G c qs sm y g1 t z1 w1 w w3=>⟨_,rfl,Ci ⟨_,rfl,?_⟩⟩;have L:JB X U K (s.heap.objs.size+1):=⟨t,A.2⟩;have d:X.s₀.heap.get? (s.heap.objs.size+1)=AF:=AB6 (Af I.sz (Ow _));show⟨.ref (s.heap.objs.size+1),_,y.abc (o:=.lst (qs.map (·.1))) L d ⟨?_,G.toList,c,w,by assumption⟩,rfl,q _ qs K sm t w1 w3⟩;have l0:G.toList.length=G.size:=Li;have l1:=w.aq;show AEQ l1 z1
def vX(K:An)(sp:Ax)(t:Av):Av:=λZ H Q=>t Z H λv U=>KP (λ(a:AB)(J:List AD)(D:List (List AL))=>v=.ref a) (λa J O=>Bp K U a J) (λO J D=>Xy K sp U J D) (λa J D=>∀l(Y:List (AD×List AL))W,Aj U W->W l=AF->Y.Perm (J.zip D)->(Y.map (·.2)).Pairwise (λa b=>BO b a=AM)->Q (.ref l) (AK W l (.lst (Y.map (·.1)))))
noncomputable def Mx(o:A2)(kvs:List (AL×AD))(d:AB):Fq:=⟨λi H=>H d=AA (.frz o (.dK kvs))/\i<kvs.length,λi H x D=>D=H/\∃p,kvs[i]?=AA p/\x=Ar p.1,λi H=>H d=AA (.frz o (.dK kvs))/\kvs.length<=i⟩
theorem NF(E:Cr P w H h)(e:H d=AA (.frz o (.dK kvs)))(Y:o.data=.dict W ep):∃vs,Ey kvs vs/\h.DictAt (Ek P w) d vs ep:=by lk;obtain⟨Z,z,F,vs,U,G,B,A,J,C,D,r⟩:=(show Cv P w H h d _ from E d _ e);rw[Z]at J;cases J;rw[Y]at D;cases D;k_in;show⟨vs,U,o,W,Z,C,Y,r⟩
theorem v9{K:An}(d it:AB)(n:o.data=.dict es ep):KO P w K tg (Mx o kvs d) [it] it (λi h=>h.IsKeyIter it d i kvs.length ep)where
 ach:=by simp
 av:=λi h D b W=>by
  have e:=by simpa using W
  subst e;lk;obtain⟨o,e,c,d⟩:=D;k_in;show⟨o,e,λv z=>by rw[d]at z;cases z⟩
 ae:=λi h l D k=>D.at λo e=>k it (by simp) o e
 wy:=by intro X Q hw O m i B s σ H E I C D R;subst Q hw O;lk;obtain⟨e,S⟩:=R;obtain⟨j,J,U⟩:=NF I.cq e n;k_in;have A:=Hz J;have a:j[i]?=AA _:=Cd (by simp_all);have T:=Cd S;have g:=Oa J T a;generalize kvs[i]=p at T g;generalize j[i]'(BK S (BW A))=q at a g;lk;obtain⟨F,G,f2,L,M,N⟩:=C it (by simp);k_in;rw[A]at D;show wpAny_pyNext_dict_item D U a λf l Z Y sb=>?_;have r:=I.fh (t':=s.toks) (λb o W e=>(sb.2 b W).trans e) F G L M N;lk;obtain⟨o',x,t,u⟩:=id Y;k_in;rw[<-A]at Y;have hk:=g.1;show⟨f,rfl,MG x t u (by decide) ⟨_,H,r,by rw[hk];show To Z,⟨rfl,p,T,rfl⟩,Y,λb W=>(C b W).1⟩⟩
 wu:=by intro X Q hw O m i B s σ H E I C D R;subst Q hw O;lk;obtain⟨e,S⟩:=R;obtain⟨j,J,U⟩:=NF I.cq e n;have A:=Hz J;obtain⟨F,G,f2,L,M,N⟩:=C it (by simp);k_in;rw[A]at D;show wpAny_pyNext_dict_end (I.ok.hd m) D U (by simp;simp_all) λl y=>⟨rfl,I.fh (λb o W e=>y b o W e) F G L M N⟩
 xw:=λO0 O0 O0 O0 O0 D h=>wpAny_pyIter_keyiter D h
theorem tI{K:An}(W:Al X e J)(V:Jv e f X.af (BI e X.af)=BI e X.af)(U:X.K=K:=by rfl):Al X (.Attribute e f D) (Zg K J f):=by subst U;show BC W V
def qN(V:Av):FY:=λW H R=>V W H λx U=>Ei (λa D=>x=.ref a) (λa D=>Fu U a (.dK D)) (λa D=>∀o J,J a=AA (.frz o (.dK D))->(∀b,b≠a->J b=U b)->R (Mx o D a) J)
theorem Qn(F:Al X l N):Ft X f l (qN N):=by
 intro M s P H R I h;show Aw (F _ s P H _ I h) λv s1 W=>?_;lk;obtain⟨x,Z,C,r1,c⟩:=W;obtain⟨a,S,e,T,q⟩:=c;k_in;subst e;lk;cases r1;obtain⟨o,J,A,Q,d,g⟩:∃o J,AX X _ P J s1/\J a=AA (.frz o _)/\R (Mx o _ a) J/\∀b,Z b=AF->J b=AF:=by
  rcases T with e|⟨o,e⟩
  . obtain⟨z,K,O,U,o,E,L,V,G,B,r⟩:=(show Cv _ _ Z _ a _ from C.cq a _ e);show⟨o,_,?_,AZ,q o _ AZ (λb D=>AU D),λb D=>by rw[AU (A4 e D).symm];show D⟩;show C.wo (by rw[e];trivial) (.inl rfl) (λb u w q=>q) ⟨o,V⟩ ⟨V,z,K,O,U,o,E,L,V,G,B,r⟩
  .show⟨o,Z,C,e,q o Z e λb w=>rfl,λb D=>D⟩
 obtain⟨V,z,K,O,U,i,E,L,Y,G,B,r⟩:=(show Cv _ _ J _ a _ from A.cq a _ Q);rw[V]at Y;cases Y;k_in;have F:=Hz U;show wpAny_pyIter_dict K ⟨o,E,V,G,B,r⟩ ?_;show⟨_,_,_,_,J,rfl,A.ig λb o e=>Cb _ e,v9 a _ B,⟨_,Fe _ rfl,rfl,by rw[F];rfl⟩,λb D=>?_,d⟩;have e:=by simpa using D
 subst e;show A.vk (Ag _) (A.cq.bw (Ag _))
theorem QV{d:AB}{o:A2}{kvs:List (AL×AD)}{g:EF}{E:CV}{D:GA}{J:Ai}{H:AG}(Y:Nat->Ai->AG->Prop)(F:Y 0 J H)(K:∀i J H,i<=kvs.length->Y i J H->H d=AA (.frz o (.dK kvs)))(M:∀(i:Nat)p J H,kvs[i]?=AA p->Y i J H->g (Ar p.1) J H λz A=>E {D with nx:=Y (i+1),ct:=Y (i+1),bk:=D.nx} z A)(I:∀J H,Y kvs.length J H->D.nx J H):∃W:Nat->Nat->Ai->AG->Prop,(∃m,W 0 m J H)/\∀i m J H,W i m J H->((Mx o kvs d).vm i H/\D.nx J H)\/((Mx o kvs d).go i H/\∃N:Ai->AG->Prop,(∀Z H',N Z H'->∃C,C<m/\W (i+1) C Z H')/\∀x H',(Mx o kvs d).aba i H x H'->g x J H' λz A=>E {D with nx:=N,ct:=N,bk:=D.nx} z A):=by
 show⟨λi m J H=>m=kvs.length-i/\i<=kvs.length/\Y i J H,⟨kvs.length,by simp,BZ _,F⟩,?_⟩;intro i m J H G;lk;obtain⟨rfl,B,p⟩:=G;k_in;have q:=K i J H B p;by_cases U:i<kvs.length
 . show .inr ⟨⟨q,U⟩,_,λZ H' O=>⟨_,HG _ _ U,rfl,U,O⟩,λx H' y=>?_⟩;lk;obtain⟨e,P,L,rfl⟩:=y;k_in;subst e;show M i P J _ L p
 . have:=EJ B (E6 U);subst this;show .inl ⟨⟨q,Ag _⟩,I J H p⟩
noncomputable instance AAL(k:AL):∀L:List AL,Decidable (k∈L)|[]=>.isFalse (by simp)|x::L=>if h:k=x then .isTrue (by simp[h])else match AAL k L with|.isTrue h2=>.isTrue (by simp[h2])|.isFalse h2=>.isFalse (by simp[h,h2])
def OM(h:A8)(u:AJ)(U:List AL)(V:List AB):Prop:=∃a o D m J,u=.ref a/\h.get? a=AA o/\o.cls=.type "tuple"/\o.data=.seq D m/\D.toList=J++V.map DM/\J.map Be=U/\∀v∈J,Ej v
def oG(h:A8)(V:List AB)(U:List AL)(J:List AB)(D:List AL):Prop:=(V=J/\U=D)\/∃(p q:AB)(Y W:List Int),V=[p]/\J=[q]/\U=Y.map Co/\D=W.map Co/\Gz h (.ref p) U/\Gz h (.ref q) D
abbrev IS:=List AL×List AB×List AL
noncomputable def JC(d:IS):List AL:=d.1++d.2.2
structure S8(h:A8)(vs:List AJ)(ds:List IS)(sh:List Bool):Prop where
 fq:vs.length=ds.length
 hn:sh≠[]aai:∀(i:Nat)u d,vs[i]?=AA u->ds[i]?=AA d->OM h u d.1 d.2.1/\d.1.map CW=sh
 aen:∀(i j:Nat)d e,ds[i]?=AA d->ds[j]?=AA e->d.1=e.1->oG h d.2.1 d.2.2 e.2.1 e.2.2
theorem YX:∀{V J:List AJ}{U D:List AB},(∀v∈V,Ej v)->(∀v∈J,Ej v)->V++U.map DM=J++D.map DM->V=J/\U=D
 |[],[],U,D,_,_,e=>⟨rfl,by show(List.map_inj_right (by simp)).mp e⟩|[],v::J,U,D,_,h,e=>by cases U with|nil=>cases e|cons r U=>
  injection e with e1 _;have:=h v DI;rw[<-e1]at this;show this.elim|v::V,[],U,D,h,_,e=>by cases D with|nil=>cases e|cons r D=>
  injection e with e1 _;have:=h v DI;rw[e1]at this;show this.elim|v::V,z::J,U,D,h,Y,e=>by injection e with e1 W;obtain⟨a,b⟩:=YX (λZ u2=>h _ (GH u2)) (λZ u2=>Y _ (GH u2)) W;simp_all
theorem OM.aai(t:OM h u Z z)(t':OM h u D J):Z=D/\z=J:=by lk;obtain⟨a,o,V,m,I,rfl,e,_,d,l,k,f⟩:=t;obtain⟨E,H,U,G,C,q,Y,_,W,B,F,A⟩:=t';k_in;injection q with q;subst q;rw[e]at Y;lk;cases Y;rw[d]at W;cases W;obtain⟨x,y⟩:=YX f A (l.symm.trans B);k_in;simp_all
theorem Gz.aai(t:Gz h u J)(t':Gz h u D):J=D:=t.kf.symm.trans t'.kf
noncomputable def Qa(vs:List AJ)(kss:List (List AL))(u:AJ):List AL:=by classical show if D:∃J,(u,J)∈vs.zip kss then D.choose else[]
theorem S8.kf(x:S8 h vs D sh):∀(i:Nat)u d,vs[i]?=AA u->D[i]?=AA d->Qa vs (D.map JC) u=JC d:=by
 intro i u d e1 U;have z:∃A,(u,A)∈vs.zip (D.map JC):=⟨JC d,Ug.mpr ⟨i,(by grind)⟩⟩;unfold Qa;lk;obtain⟨j,Z⟩:=Ug.mp z.choose_spec;obtain⟨Y,V⟩:=LW.mp Z;rw[Bl]at V;obtain⟨J,W,B⟩:=Dp.mp V;obtain⟨a,b⟩:=(x.aai i u d e1 U).1.aai (x.aai j u J Y W).1;k_in;have C:d.2.2=J.2.2:=by
  rcases x.aen i j d J U W a with⟨_,q⟩|⟨p,q,_,_,r1,r2,_,_,t1,t2⟩;.show q
  . rw[b,r2]at r1;injection r1 with r1;subst r1;show t1.aai t2
 grind
theorem Yv:∀(xs ys:List AJ)(J D:List AJ)(i:Nat),(∀v∈xs,Ej v)->(∀v∈ys,Ej v)->xs.map (λv=>CW (Be v))=ys.map (λv=>CW (Be v))->(xs.map Be=ys.map Be->∀j,i+xs.length<=j->bQ prog w A b fin Q (J.zip D) j s)->(xs.map Be≠ys.map Be->Q (BO (xs.map Be) (ys.map Be)) s)->bQ prog w A b fin Q ((xs++J).zip (ys++D)) i s
 |[],[],J,D,i,_,_,_,h,_=>(by(simp[*]))|[],_::_,_,_,_,_,_,e,_,_=>by cases e|_::_,[],_,_,_,_,_,e,_,_=>by cases e|x::xs,y::ys,J,D,i,Y,Z,e,h,W=>by
  obtain⟨e1,B⟩:=DS e;have U:=Y x DI;have V:=Z y DI;show bW (TZ U V e1 (yV (λq=>?_) λq=>?_))
  . show yY (Yv xs ys J _ _ (λC u2=>Y _ (GH u2)) (λC u2=>Z _ (GH u2)) B (by grind) λz=>?_);have:=W (by simp_all);rw[Fd,Fd,BO]at this;simp_all
  . have q:=AEM q;have:=W (by simp_all);rw[Fd,Fd,BO,AED q]at this;show yW (Yz _ U V e1 this)
theorem Yw:∀(D:List AB)(i:Nat),Q AM s->bQ prog w A b AM Q ((D.map DM).zip (D.map DM)) i s|[],_,h=>ACX h|r::D,i,h=>bW (ACE _ _ w _ _ (yY (Yw D _ h)))
theorem Yt:∀{D J xs ys:List AL},D.length=J.length->BO (D++xs) (J++ys)=if D=J then BO xs ys else BO D J|[],[],_,_,_=>by rfl|[],_::_,_,_,e=>by cases e|_::_,[],_,_,e=>by cases e|k::D,l::J,xs,ys,e=>by have U:=Yt (xs:=xs) (ys:=ys) (ABH.mp e);change(if k=l then BO _ _ else EY k l)=if k::D=l::J then BO xs ys else(if k=l then BO D J else EY k l);(split<;>simp_all)
theorem UH:∀{D:List AJ},(∀v∈D,Ej v)->∃J,ReadsAll h D ((D.map Be).map KS) J
 |[],_=>⟨_,.nil⟩|v::D,f=>by
  obtain⟨J,r⟩:=UH (λw hw=>f w (En _ hw));have U:=f v DI;cases v<;>first|show U.elim|skip
  .show⟨_,.cons (.int _ _) r⟩
  .show⟨_,.cons (.str _ _) r⟩
theorem Tg:∀ns:List Int,(ns.map (Co:Int->AL)).map KS=ns.map Nk|[]=>rfl|n::ns=>by rw[Fd,Fd,Tg ns];rfl
theorem pT{A:Cf}{s:AV}{ns J:List Int}(t1:Gz s.heap (.ref p) (ns.map Co))(t2:Gz s.heap (.ref q) (J.map Co))(K:A.units+64<Gq):bN A s (.ref p) (.ref q) (Ac (ns=J)):=by
 lk;obtain⟨a,o,V,m,e0,e,c,d,k,f⟩:=t1;obtain⟨G,M,U,L,D,C,z,B,F,E⟩:=t2;k_in;injection e0 with e0;injection D with D;subst e0 D;lk;obtain⟨Y,r⟩:=UH f;obtain⟨Z,W⟩:=UH E;k_in;rw[k,Tg]at r;rw[F,Tg]at W;have:=SeqAt.eqAt_reads _ _ A s _ _ Y _ (.tuple e c d r) (.tuple C z B W) (by simp[Ki,(Qb ns).1]) (by simp[Ki,(Qb J).1]) (by
  have I:(PyData.tuple (ns.map Nk)).depth<=1:=by simp[Kj,(Qb ns).2]
  lia);have H:yO (.tuple (ns.map Nk)) (.tuple (J.map Nk))=Ac (ns=J):=by show YW ns J
 simp_all
theorem rZ{A:Cf}{s:AV}{ns W:List Int}(t1:Gz s.heap (.ref p) (ns.map Co))(t2:Gz s.heap (.ref q) (W.map Co))(O:A.units+64<Gq)(h:Q (BO (ns.map Co) (W.map Co)) s):Am (Ak prog w) A (oneLt' AM (.ref p) (.ref q)) Q E s:=by
 lk;obtain⟨a,o,D,m,e0,e,c,d,k,f⟩:=t1;obtain⟨b,T,J,S,U,I,C,G,P,N⟩:=t2;k_in;injection e0 with e0;injection U with U;subst e0 U;lk;obtain⟨L,M,H,X⟩:=o;obtain⟨F,Z,Y,B⟩:=T;k_in;simp only at c d C G;subst c d C G;have V:∀(l:List Int)(i:Nat)(z:AL),(l.map (Co:Int->AL))[i]?=AA z->CW z=AI:=λl i z K=>by rw[Bl]at K;obtain⟨n,_,rfl⟩:=Dp.mp K;rfl
 have R:QE D.toList J.toList D.size J.size (BO (ns.map Co) (W.map Co)):=by show⟨⟨D.toList,[],by simp,.inl rfl,f,N,λi x y e1 g=>?_,by rw[k,P]⟩,Uh _ _⟩;rw[V ns i (Be x) (by grind),V W i (Be y) (by grind)]
 show yX _ _ ?_;show ACx (op:=.Lt) ⟨_,e,rfl⟩ ⟨_,I,rfl⟩ AB5 ABt (by rfl) (Zo p q _ _ m S M Z X B _ R) ⟨e,I,⟨(by simp),h⟩⟩ (Uk O)
theorem S8.adm(x:S8 h vs S sh)(B:A.units+64<Gq)(h2:2<=vs.length)(kp:∀a o D m,h.get? a=AA o->o.cls=.type "tuple"->o.data=.seq D m->s.heap.get? a=AA o):∃κ,(∀(Q:Oy->AV->Prop)(E:AJ->AV->Prop),Q κ s->Am (Ak prog w) A (aV vs.toArray) Q E s)/\Ff prog w A s κ G4 (Qa vs (S.map JC)) (JN vs):=by
  have mp:∀p∈(JN vs).toList,p.1∈vs:=λp M=>by rw[Uw]at M;show(x5 M).2
  have n:∀{u K rs},OM h u K rs->OM s.heap u K rs:=λ⟨a,o,D,m,U,e0,e,c,d,r⟩=>⟨a,o,D,m,U,e0,kp a o D m e c d,c,d,r⟩;have P:∀{u K},Gz h u K->Gz s.heap u K:=λ⟨a,o,D,m,e0,e,c,d,r⟩=>⟨a,o,D,m,e0,kp a o D m e c d,c,d,r⟩;have Y:∀u∈vs,∃(i:Nat)(d:IS),vs[i]?=AA u/\S[i]?=AA d:=λu B=>LN x.fq B;show⟨tuples' AI,λQ E q=>?_,⟨λp M q hq Q E k=>?_⟩⟩
  . have g:∀(l:List AJ),(∀u∈l,u∈vs)->∃C,ACL s.heap l C/\C.length=l.length/\∀v∈C,Ej v/\CW (Be v)=sh.headD AI:=λl=>by induction l with |nil=>showλO0=>⟨[],trivial,rfl,λv F=>by cases F⟩|cons u l ih=> intro B;obtain⟨C,N,O,f⟩:=ih (λu1 u2=>B _ (GH u2));obtain⟨i,d,e1,H⟩:=Y u (B u DI);obtain⟨t,z⟩:=x.aai i u d e1 H;obtain⟨a,o,D,m,U,rfl,e,c,Z,G,r,W⟩:=n t;cases U with
        |nil=>rw[<-r]at z;show absurd z.symm x.hn|cons f0 l1=>
          have g0:D[0]?=AA f0:=by rw[<-Mc,G];rfl
          show⟨f0::C,ACN e c Z g0 N,ABG.mpr O,λv F=>?_⟩;grind
    lk;obtain⟨C,N,O,f⟩:=g vs λO0 h=>h;k_in;cases hh:sh.headD AI with
    |true=> show bX (T:=.type "int") N (AEN (HF h2) O.symm) (λv F=>?_) (by decide) q;obtain⟨W,z⟩:=f v F;rw[hh]at z;cases v<;>first|show W.elim|show ID _|show ID (show AM=AI from z)|show .now
    |false=> show bX (T:=.type "str") N (AEN (HF h2) O.symm) (λv F=>?_) (by decide) q;obtain⟨W,z⟩:=f v F;rw[hh]at z;cases v<;>first|show W.elim|show ID (show AI=AM from z)|show ID (show AM=AI from z)|show .now
  . lk;obtain⟨i,d,e1,H⟩:=Y _ (mp p M);obtain⟨j,Z,e3,X⟩:=Y _ (mp q hq);have k:Q (BO _ _) s:=k;rw[x.kf i _ d e1 H,x.kf j _ Z e3 X]at k;obtain⟨t,z1⟩:=x.aai i _ d e1 H;obtain⟨t',z2⟩:=x.aai j _ Z e3 X;obtain⟨a,o,D,m,U,u1,e,c,dd,G,r,W⟩:=n t;obtain⟨a',o',J,m',V,u2,e',c',R,L,r',b⟩:=n t';k_in;have es:=by
      have h1:(U.map Be).map CW=(V.map Be).map CW:=by rw[r,r',z1,z2]
      rw[DX,DX]at h1;show h1
    have el:=by have:=AEG Nb (z1.trans z2.symm);simpa using this
    unfold JC at k;rw[Yt el]at k;rw[u1,u2];show ACW e dd e' R ?_;rw[G,L];have lu:U.length=d.1.length:=by rw[<-r,As]
    have y:V.length=Z.1.length:=by rw[<-r',As]
    have sz1:D.size=U.length+d.2.1.length:=by rw[<-Li,G];simp
    have sz2:J.size=V.length+Z.2.1.length:=by rw[<-Li,L];simp
    have I:0<U.length:=by rw[lu];show Nat.pos_of_ne_zero λz=>x.hn ?_;grind
    show Yv U V _ _ 0 W b es (λq j hj=>?_) λq=>?_
    . rw[r,r']at q;rw[AEE q]at k;rcases x.aen i _ d Z H X q with⟨q1,q2⟩|⟨p',q',ns,ms,r1,r2,r3,r4,t1,t2⟩;. rw[AEH (by rw[sz1,sz2,lu,y,el,q1];show GI _),q1];rw[q2,OV]at k;show Yw _ _ k
      . rw[AEH (by(simp[*])),r1,r2];rw[r3]at t1;rw[r4]at t2;rw[r3,r4]at k;show bW (pT (P t1) (P t2) B prog w _ _ (yV (λz=>?_) λz=>?_))
        . have z:=AEI z;rw[z,OV]at k;assumption
        . show yW ?_;have j0:(j==0)=AM:=by simp;show MT (BK I (Q7 hj))
          rw[j0,AAR];show rZ (P t1) (P t2) B k
    simp_all
def QL(K:An)(H:AG)(xs:List AD)(D:List IS)(sh:List Bool):Prop:=sh≠[]/\BF (λx(d:IS)=>(∃a,x=.ref a/\CN K H a (d.1.map Ar++d.2.1.map AD.ref))/\d.1.map CW=sh) xs D/\∀(i j:Nat)d e,D[i]?=AA d->D[j]?=AA e->d.1=e.1->(d.2.1=e.2.1/\d.2.2=e.2.2)\/∃(p q:AB)(U J:List Int),d.2.1=[p]/\e.2.1=[q]/\d.2.2=U.map Co/\e.2.2=J.map Co/\CN K H p (U.map AD.int)/\CN K H q (J.map AD.int)
theorem ZU:∀{D:List AB}{J:List AJ},BM (D.map AD.ref) J->J=D.map DM|[],_,h=>by cases h;rfl|r::D,_,h=>by cases h with|cons U W=>cases U;rw[ZU W];rfl
theorem Zn(I:AX X J C H s){ns:List Int}(h:CN X.K H p (ns.map AD.int)):Gz s.heap (.ref p) (ns.map Co):=by
 have U:CN X.K H p ((ns.map (Co)).map Ar):=by rw[DX];show h
 lk;obtain⟨D,z,⟨o,Z,W,n,Y⟩,_⟩:=I.jc U;obtain⟨A,B⟩:=MH z;k_in;show⟨p,o,_,n,rfl,Z,W,Y,by assumption,by assumption⟩
theorem QL.adf(I:AX X C t H s)(h:QL X.K H xs U sh)(r:BM xs its):S8 s.heap its U sh:=by
  lk;obtain⟨O,p,J⟩:=h;have N:=r.aq;obtain⟨K,L⟩:=CO p;k_in;show⟨Ny N.symm K,O,λi u d e1 D=>?_,λi j d e e1 D q=>?_⟩
  . have k:=(BH.mp D).1;have W:xs[i]?=AA xs[i]:=Cd _;lk;obtain⟨⟨a,G,Q⟩,z⟩:=L i _ _ W D;obtain⟨l,Y,Z⟩:=r.wx W;rw[e1]at Y;cases Y;rw[G]at Z;obtain rfl:u=DM a:=Z;obtain⟨B,c,⟨o,P,M,n,A⟩,_⟩:=I.jc Q;obtain⟨f,m,rfl,g,v2⟩:=US c;obtain⟨R,S⟩:=MH g;k_in;rw[ZU v2]at A;show⟨⟨a,o,_,n,f,rfl,P,M,A,by simp,R,S⟩,z⟩
  . rcases J i j d e e1 D q with h|⟨p,q,b,T,r1,r2,E,F,t1,t2⟩;.show .inl h
    .show .inr ⟨p,q,b,T,r1,r2,E,F,by rw[E];show Zn I t1,by rw[F];show Zn I t2⟩
theorem TR{K:An}(F:DF k X.A)(C:X.K=K:=by rfl):Eg X (.builtin "sorted") (λxs H Q=>∃(p:AB)(ys:List AD)(J:List IS)(sh:List Bool),xs=[.ref p]/\Bp K H p ys/\QL K H ys J sh/\∀l(qs:List (AD×List AL)),H l=AF->qs.Perm (ys.zip (J.map JC))->(qs.map (·.2)).Pairwise (λa b=>BO b a=AM)->Q (.ref l) (AK H l (.lst (qs.map (·.1))))):=by
 subst C;intro z s S H xs R Q I r h;lk;obtain⟨p,ys,J,sh,rfl,E,N,q⟩:=h;obtain⟨u,rfl,M⟩:=Gj r;cases M;obtain⟨D,U,L,Z⟩:=I.cb E;k_in;show UM I Z (YK U L Z) (λD U=>?_) q;have W:=N.adf I U;show⟨by rw[As];show W.fq,Qa D (J.map JC),λi u O e1 Y=>?_,λP G B=>W.adm ?_ B λa o v v e v v=>G a o e⟩
 . rw[Bl]at Y;obtain⟨d,A,rfl⟩:=Dp.mp Y;show W.kf i u d e1 A
 . have:=F.un;grind
def vM(t u:CV):CV:=λD V H=>∀(N:Ai->AG->Prop)(r:BN)(b c:Ai->AG->Prop),(∀J U,u D J U->N J U)->t ⟨N,r,b,c⟩ V H
theorem Dw{st:Cg}(V:ET X st t)(W:FX X J u):FX X (st::J) (vM t u):=λU s Y H D I h=>Ae V W _ s Y H D I (h _ _ _ _ λO O z=>z)
def vI(t:CV):CV:=λD V H=>∀(N:Ai->AG->Prop)(r:BN)(b c:Ai->AG->Prop),(∀J U,D.nx J U->N J U)->t ⟨N,r,b,c⟩ V H
theorem tT{st:Cg}(U:ET X st t):ET X st (vI t):=λJ s V H D I h=>U _ s V H D I (h _ _ _ _ λO O z=>z)
@[elab_as_elim]theorem BQ{H:AG}{R:AG->Prop}(D:H c=AF)(k:∀G,Aj H G->G c=AA o->R G):R (AK H c o):=k _ (Bb D) AZ
theorem CY{n:Nat}(h:n.ble m=AI):n<=m:=(Ed h)
theorem Qs(J:D.kind=.function:=by rfl)(U:D.isCoroutine=AM:=by rfl)(V:D.isGenerator=AM:=by rfl)(W:N.Nodup:=by decide+kernel)(Y:N.take P.length=P:=by rfl)(Z:∀x∈P,D.names.lookup x=AA .local\/D.names.lookup x=AA .cell:=by decide+kernel)(z:∀y∈D.names,y.2≠.free:=by decide+kernel):K6 N P D:=⟨J,U,V,W,Y,Z,z⟩
theorem Bw(i:Nat)(U:X.N.Nodup)(V:Al X e z)(hi:X.N[i]?=AA x:=by rfl)(Z:K9 X.af.scope x:=by first|show .inl rfl|show .inr rfl)(Y:Nr e (AA (.Name x D)) J.line X.af=BY AM:=by rfl)(W:X.fn x=AI\/X.af.scope.names.lookup x=AA .local:=by first|show .inl rfl|show .inr rfl|assumption):ET X (.Assign [.Name x D] e J) (Qu z (G0 i)):=Bq U hi Z V Y W
theorem D7(i:Nat)(D:X.N.Nodup)(hi:X.N[i]?=AA x:=by rfl)(U:K9 X.af.scope x:=by first|show .inl rfl|show .inr rfl)(J:X.fn x=AI\/X.af.scope.names.lookup x=AA .local:=by first|show .inl rfl|show .inr rfl|assumption):LA X (.Name x V) (G0 i):=G6 D hi U J
theorem Qk(K:An)(A:Al X a C)(z:Fs X (e::V) t)(Z:X.K=K:=by rfl)(J:Jv a "append" X.af (BI a X.af)=BI a X.af:=by rfl)(W:((Eo D (By (e::V) X.af)).all (λx=>!x.1)&&(O6 D (PD [] X.af)).all (λx=>x.1.isSome)&&Ac ((e::V).length+([]:List Lf).length+(if([]:List Lf).isEmpty then 0 else 1)<30))=AI:=by rfl)(U:(p.endLine==D.line)=AI:=by rfl)(B:By (e::V) X.af=(AM,BI e X.af)::By V X.af:=by rfl)(Y:(Eo D (By V X.af)).any (·.1)=AM:=by rfl):Al X (.Call (.Attribute a "append" p) (e::V) [] D) (UO K "list" ZK C t):=Ic Le Uz yI Tv A z Z J W U B Y
theorem Ib(osc:FR)(Y:List (AE×Nat))(A:KJ X D Y)(hi:Ft X (.Name x E) J wi)(N:∀C s H ex,KL (Ds X D (x::Y.map (·.1)) C s H ex) z F)(I:∀C s H ex,Al (Ds X D (x::Y.map (·.1)) C s H ex) Z Q)(G:X.iw=AI:=by rfl)(L:X.af.scope=osc:=by rfl)(K:D.kind=.function:=by rfl)(V:∀y∈D.names,y.2≠.cell:=by decide+kernel)(U:∀y∈D.names,y.2=.local->D.names.lookup y.1=AA .local:=by decide+kernel)(W:∀y∈D.names,y.2=.free->osc.names.lookup y.1=AA .cell\/osc.names.lookup y.1=AA .free:=by decide+kernel)(O:D.names.lookup x=AA .local:=by rfl)(B:(x::Y.map (·.1)).Nodup:=by decide+kernel)(M:∀x,Nn J X.af x=BY x:=by intro _;rfl):Al X (.ListComp Z [⟨.Name x E,J,z,0⟩] D P) (MO 1 (Y.map (·.2)) wi (G0 0) F Q):=Od Y G hi L K V U W A O B N I M
def Ia(x:AD)(k:Int->Prop):Prop:=match x with|.int i=>k i|_=>False
def Qe(x:AD)(k:AB->Prop):Prop:=match x with|.ref i=>k i|_=>False
def Qf(x:Option (Option AD))(k:AD->Prop):Prop:=match x with|AA (AA v)=>k v|_=>False
def Y4(xs:List AD)(k:AD->Prop):Prop:=match xs with|[x]=>k x|_=>False
def T1(xs:List AD)(k:AD->AD->Prop):Prop:=match xs with|[x,y]=>k x y|_=>False
theorem Hj(h:Ia x k):∃i,x=.int i/\k i:=by cases x<;>first|show⟨_,rfl,h⟩|show h.elim
theorem T2(h:Qe x k):∃i,x=.ref i/\k i:=by cases x<;>first|show⟨_,rfl,h⟩|show h.elim
theorem T3(h:Qf x k):∃v,x=AA (AA v)/\k v:=by match x,h with|AA (AA v),h=>show⟨v,rfl,h⟩
theorem sO(h:Y4 xs k):∃x,xs=[x]/\k x:=by match xs,h with|[x],h=>show⟨x,rfl,h⟩
theorem Y5(h:T1 xs k):∃x y,xs=[x,y]/\k x y:=by cases xs with|nil=>cases h|cons x l=>cases l with|nil=>cases h|cons y l=>cases l with|nil=>show⟨x,y,rfl,h⟩|cons _ _=>cases h
def v5(i:Nat):Av:=λD H Q=>Qf D[i]? λv=>Q v H
def Qq(C:Int->Int->Prop)(g:Int->Int->AD):Dr:=λx y H Q=>Ia x λi=>Ia y λj=>C i j/\Q (g i j) H
def NW(g:Int->Int->AD):Dr:=λx y H Q=>Ia x λi=>Ia y λj=>Q (g i j) H
def uF(g:Int->AD):AD->AG->BN->Prop:=λx H Q=>Ia x λi=>Q (g i) H
def t7(K:An):Dr:=λx y H Q=>Qe x λp=>Ia y λi=>Ei (λD v=>Bp K H p D) (λD v=>Cw D i=AA v) (λO v=>Q v H)
def t9(K:An):Dr:=λx y H Q=>Qe x λp=>Ia y λi=>Ei (λD v=>CN K H p D) (λD v=>Cw D i=AA v) (λO v=>Q v H)
theorem sZ(h:Al X e t)(m:∀D H Q,t' D H Q->t D H Q):Al X e t':=λJ s D H Q I w=>h _ s D H Q I (m D H Q w)
theorem LO(h:CC X J r)(m:∀x y H Q,U x y H Q->r x y H Q):CC X J U:=λD s Y H x y v u Q I V W w=>h _ s Y H x y v u Q I V W (m x y H Q w)
theorem UG(x y:AD)(H:AG)(Q:BN)(h:Qq C g x y H Q):NV C g x y H Q:=by lk;obtain⟨i,rfl,D⟩:=Hj h;obtain⟨j,rfl,c,q⟩:=Hj D;k_in;show⟨i,j,rfl,rfl,c,q⟩
theorem Og(x y:AD)(H:AG)(Q:BN)(h:NW g x y H Q):LU g x y H Q:=by lk;obtain⟨i,rfl,D⟩:=Hj h;obtain⟨j,rfl,q⟩:=Hj D;k_in;show⟨i,j,rfl,rfl,q⟩
theorem AH{x:AE}(i:Nat)(J:X.N[i]?=AA x:=by rfl)(V:QP X.af.scope x:=by first|show Or.inl rfl|show Or.inr (Or.inl rfl)|show Or.inr (Or.inr rfl))(U:(x==("__debug__":AE))=AM:=by decide)(D:(x==("__classdict__":AE))=AM:=by decide):Al X (.Name x W) (v5 i):=sZ (ZH J V U D) λO O O h=>have⟨v,e,q⟩:=T3 h;⟨v,e,q⟩
theorem GF:CC X (GX .Add) (NW λi j=>.int (i+j)):=LO E2 Og
theorem LP:CC X (GX .Sub) (NW λi j=>.int (i-j)):=LO Hl Og
theorem Qi:CC X (GX .Mult) (Qq Sx λi j=>.int (i*j)):=LO Fv UG
theorem MJ:CC X (GX .FloorDiv) (Qq Xu λi j=>.int (i/j)):=LO DK UG
theorem Jl:CC X (GX .Mod) (Qq (λO j=>0<j) λi j=>.int (i%j)):=LO CG UG
theorem UA:CC X (E7 .Lt) (NW λi j=>.bl (Ac (i<j))):=LO Y7 Og
theorem MK:CC X (E7 .LtE) (NW λi j=>.bl (Ac (i<=j))):=LO T9 Og
theorem T7:CC X (E7 .Gt) (NW λi j=>.bl (Ac (j<i))):=LO Qh Og
theorem Zt:QO X (zR .USub) (uF λi=>.int (-i)):=λD s U H x v Q I J h=>Zs _ s U H x v Q I J (have⟨v,e,q⟩:=Hj h;⟨v,e,q⟩)
theorem JF(K:An)(W:Al X a C)(Y:Al X b E)(Z:S7 b:=by showλO O=>rfl)(V:X.K=K:=by rfl):Al X (.Subscript a b z) (NX (t7 K) C E):=Bc (λa b D s G H x y v u Q I A B h=>Dh V a b _ s G H x y v u Q I A B (by lk;obtain⟨p,rfl,h⟩:=T2 h;obtain⟨i,rfl,F,w,J,U,q⟩:=Hj h;k_in;show⟨p,F,i,w,rfl,rfl,J,U,q⟩)) W Y Z
theorem BG(K:An)(W:Al X a C)(Y:Al X b E)(Z:S7 b:=by showλO O=>rfl)(V:X.K=K:=by rfl):Al X (.Subscript a b z) (NX (t9 K) C E):=Bc (λa b D s G H x y v u Q I A B h=>Dj V a b _ s G H x y v u Q I A B (by lk;obtain⟨p,rfl,h⟩:=T2 h;obtain⟨i,rfl,F,w,J,U,q⟩:=Hj h;k_in;show⟨p,F,i,w,rfl,rfl,J,U,q⟩)) W Y Z
theorem YE(J:X.iw=AI):Eg X (.builtin "max") (λxs H Q=>T1 xs λx y=>Ia x λi=>Ia y λj=>Q (.int (if j>i then j else i)) H):=λD s V H xs U Q I r h=>YD J _ s V H xs U Q I r (by lk;obtain⟨x,y,rfl,h⟩:=Y5 h;obtain⟨i,rfl,h⟩:=Hj h;obtain⟨j,rfl,q⟩:=Hj h;k_in;show⟨i,j,rfl,q⟩)
theorem YF(J:X.iw=AI):Eg X (.builtin "min") (λxs H Q=>T1 xs λx y=>Ia x λi=>Ia y λj=>Q (.int (if j<i then j else i)) H):=λD s V H xs U Q I r h=>oS J _ s V H xs U Q I r (by lk;obtain⟨x,y,rfl,h⟩:=Y5 h;obtain⟨i,rfl,h⟩:=Hj h;obtain⟨j,rfl,q⟩:=Hj h;k_in;show⟨i,j,rfl,q⟩)
theorem LI{K:An}(J:X.K=K:=by rfl):Eg X (.builtin "len") (λxs H Q=>Y4 xs λx=>Qe x λp=>∃ys,(Bp K H p ys\/CN K H p ys)/\Q (.int ys.length) H):=λD s V H xs U Q I r h=>Jg J _ s V H xs U Q I r (by lk;obtain⟨x,rfl,h⟩:=sO h;obtain⟨p,rfl,ys,h,q⟩:=T2 h;k_in;show⟨p,ys,rfl,h,q⟩)
theorem AX.afb(I:AX X D Y H s)(e:H a=AA (.frz o u))(n:∀o u,X.H₀ a≠AA (.frz o u)):AX X D Y (AK H a u) s:=by
  have J:∀{b},H b=AF->b≠a:=(by grind);show⟨I.ok,I.os,I.je,⟨I.ag.ae,I.ag.tw,λb o q h C=>?_,I.ag.gw,λb W q=>?_,λb o u q=>?_,λb E q=>?_⟩,I.wz,I.ni,by rw[AU (J I.ar)];show I.ar,λx c q=>by rw[AU (J (I.ip x c q))];show I.ip x c q,λp B=>?_,λb v q=>?_,I.fq⟩;. have:=I.ag.ar b o q h C;rw[AU (J this)];assumption
  . have:=I.ag.uj b W q;rw[AU (by grind)];assumption
  . have:=I.ag.qw b o u q;rw[AU (by grind)];assumption
  . obtain⟨m,this⟩:=I.ag.ui b E q;show⟨m,by rw[AU (by grind)];assumption⟩
  . lk;obtain⟨Z,U,A⟩:=I.uc p B;k_in;show⟨Z,by rw[AU (J U)];show U,A⟩
  . have V:∀{v},Cv _ _ H _ b v->Cv X.ai X.w (AK H a u) s.heap b v:=λh=>h.wg (λG u2 u3 F=>F) (λc q=>by rw[AU (by grind)];show q) λc W q=>by rw[AU (by grind)];show q
    by_cases z:b=a
    . subst z;rw[AZ]at q;cases q;show V (I.cq b _ e).2
    . rw[AU z]at q;show V (I.cq b v q)
theorem NT{st:Cg}(h:ET X st t):ET X st (λD U H=>∃a,(∀o u,H a≠AA (.frz o u))/\t {D with nx:=λJ H'=>∃o u,H' a=AA (.frz o u)/\D.nx J (AK H' a u)} U H):=by intro V s U H D I⟨a,Y,w⟩;have Z:=λo u z=>Y o u (I.ag.qw _ _ _ z);show Aw (h _ s U H _ I w) λf A q=>?_;cases f with|next=>lk;obtain⟨J,H',W,o,u,e,q⟩:=q;k_in;show⟨J,_,W.afb e Z,q⟩|brk=>show q|cont=>show q|ret u=>show q
noncomputable def My(o:A2)(kvs:List (AL×AD))(d:AB):Fq:=⟨λi H=>H d=AA (.frz o (.dK kvs))/\i<kvs.length,λi H x D=>D=H/\∃p,kvs[i]?=AA p/\x=p.2,λi H=>H d=AA (.frz o (.dK kvs))/\kvs.length<=i⟩
theorem wB{K:An}(d it:AB)(j:o.data=.dict u ep):KO P w K tg (My o kvs d) [it] it (λi h=>h.IsValIter it d i kvs.length ep)where
 ach:=by simp
 av:=λi h D b f=>by lk;obtain⟨o,e,c,d⟩:=D;k_in;simp_all
 ae:=λi h a D k=>by lk;obtain⟨o,e,r⟩:=D;k_in;show⟨o,(k _ DI _ e),r⟩
 wy:=by intro X M hw L g i Z s σ H E I N D O;subst M hw L;lk;obtain⟨e,Q⟩:=O;obtain⟨z,J,U⟩:=NF I.cq e j;k_in;have Y:=Hz J;have S:z[i]?=AA (z[i]'(by simp_all)):=(by simp);have R:kvs[i]?=AA kvs[i]:=(by simp);have T:=Oa J R S;generalize kvs[i]=p at R T;generalize z[i]'(BK Q (BW Y))=q at S T;lk;obtain⟨k,x⟩:=q;obtain⟨A,B,v,C,F,G⟩:=N it (by simp);k_in;rw[Y]at D;show wpAny_pyNext_values_item D U S λa W y=>?_;have l:=I.fh (t':=s.toks) (λb o f e=>(y.2 b f).trans e) A B C F G;lk;obtain⟨o',t,m,n⟩:=id W;k_in;rw[<-Y]at W;show⟨x,rfl,MG t m n (by decide) ⟨p.2,H,l,T.2,⟨rfl,p,R,rfl⟩,W,(by(simp[*]))⟩⟩
 wu:=by intro X M hw L g i Z s σ H E I N D O;subst M hw L;lk;obtain⟨e,Q⟩:=O;obtain⟨z,J,U⟩:=NF I.cq e j;have Y:=Hz J;obtain⟨A,B,v,C,F,G⟩:=N it (by simp);k_in;rw[Y]at D;show wpAny_pyNext_values_end (I.ok.hd g) D U (Q2.mpr (Af (BW Y.symm) Q)) λa eb=>⟨rfl,I.fh (by assumption) A B C F G⟩
 xw:=λO0 O0 O0 O0 O0 D h=>wpAny_pyIter_valiter D h
noncomputable def Mw(o:A2)(kvs:List (AL×AD))(d:AB):Fq:=⟨λi H=>H d=AA (.frz o (.dK kvs))/\i<kvs.length,λi H x D=>∃r p,kvs[i]?=AA p/\x=.ref r/\H r=AF/\D=AK H r (.tup [Ar p.1,p.2]),λi H=>H d=AA (.frz o (.dK kvs))/\kvs.length<=i⟩
theorem wA{K:An}(d it:AB)(y:o.data=.dict es ep):KO P w K (.Tuple B x1 N) (Mw o kvs d) [it] it (λi h=>∃Q R,IsItemIter h it d i kvs.length ep Q R)where
 ach:=by simp
 av:=(by simp_all)
 ae:=(by grind)
 wy:=by
  intro X a hw T v i L s σ H E I C D f;subst a hw T;lk;obtain⟨e,g⟩:=f;obtain⟨A,U,W⟩:=NF I.cq e y;k_in;have Z:kvs.length=A.length:=Hz U;have z:A[i]?=AA (A[i]'(by simp_all)):=(by simp);have l:kvs[i]?=AA kvs[i]:=(by simp);have S:=Oa U l z;generalize kvs[i]=p at l S;generalize A[i]'(BK g (BW Z))=q at z S;lk;obtain⟨k,x⟩:=q;obtain⟨Q,R,D⟩:=D;k_in;rw[Z]at D;have r:it<s.heap.objs.size:=B7 D;show wpAny_pyNext_items_item D W z λG h' F eo ht hsz kk=>⟨_,rfl,wpAny_letOwnedTupleGo_items eo λO c sb=>?_⟩;have hn:=I.cq.bw (Ag _);have M:s.heap.objs.size≠it:=MT r;have Y:∀b o,b∉[it]->s.heap.get? b=AA o->O.get? b=AA o:=λb o J q=>by have t:b≠it:=(List.ne_of_not_mem_cons J);show(sb.2 b t).trans (kk b o t q)
  have hk:p.1=k:=S.1;have rk:BU (Ar p.1) G:=by rw[hk];show To F
  have m:=(sb.2 _ M).trans ht;have j:Cr X.ai X.w (AK H s.heap.objs.size (.tup [Ar p.1,p.2])) O:=by show(I.cq.abj [it] (λb J=>(C b J).1) Y).aaj hn ?_;show⟨show 2<=Az by decide,[G,x],.cons rk (.cons S.2 .nil),⟨_,m,rfl,_,rfl⟩⟩
  have un:GB (C6 X.cj) [it] H (AK H s.heap.objs.size (.tup [Ar p.1,p.2])) s.heap O:=by
   show⟨(λu1 u2 u3 u4 u5 u6=>Y _ _ u6 u3),λb o q n J z=>⟨o.slots,Y b o z q⟩,λb o q n z=>?_,(by grind),λb ys q=>?_,λb o u q=>?_,λb ps q=>?_⟩;.rw[AU (DV (B7 q))];show n
   .rw[AU (by grind)];show q
   .rw[AU (by grind)];show q
   .show⟨#[],by rw[AU (by grind),AAM];show q⟩
  have I2:=I.yf (s':={s with heap:=O}) (ch:=[it]) rfl un j I.je λb J=>by obtain⟨q0,q1,q2,q3,q4,q5⟩:=C b J;(constructor<;>lia)
  rw[<-Z]at c;show⟨.ref s.heap.objs.size,_,I2,rfl,⟨_,p,l,rfl,hn,rfl⟩,(by grind),λb J=>?_⟩;have e:b=it:=BV.mp J;subst e;rw[AU M.symm];show(C b J).1
 wu:=by intro X a hw T v i L s σ H E I C D f;subst a hw T;lk;obtain⟨e,g⟩:=f;obtain⟨A,U,W⟩:=NF I.cq e y;have Z:kvs.length=A.length:=Hz U;obtain⟨f0,f1,f2,f3,f4,f5⟩:=C it (by simp);obtain⟨Q,R,D⟩:=D;k_in;rw[Z]at D;show wpAny_pyNext_items_end (I.ok.hd v) D W (Q2.mpr (Af (BW Z.symm) g)) λh' eb=>⟨rfl,I.fh (t':=s.toks) (by assumption) f0 f1 f3 f4 f5⟩
 xw:=λO0 O0 O0 O0 O0 D h=>by lk;obtain⟨Q,R,D⟩:=D;k_in;show W.kcp_self D h
def Ye(J:A2->List (AL×AD)->AB->Fq)(Y:Av):FY:=λZ H R=>Y Z H λx U=>Ei (λa D=>x=.ref a) (λa D=>U a=AA (.dK D)) (λa D=>∀o W,W=AK U a (.frz o (.dK D))->R (J o D a) W)
theorem AX.qy(I:AX X D B H s)(q:H a=AA (.dK kvs)):∃vs o J ep,Ey kvs vs/\o.data=.dict J ep/\(a==Kn)=AM/\AX X D B (AK H a (.frz o (.dK kvs))) s/\s.heap.DictAt (Ek X.ai X.w) a vs ep:=by lk;obtain⟨z,A,vs,U,o,J,ep,W,Z,Y,r⟩:=(show Cv _ _ H _ a _ from I.cq a _ q);k_in;show⟨vs,o,J,ep,U,Y,A,I.wo (by rw[q];trivial) (.inl rfl) (λE u2 u3 C=>C) ⟨o,W⟩ ⟨W,z,A,vs,U,o,J,ep,W,Z,Y,r⟩,o,J,W,Z,Y,r⟩
theorem tM(ho:Al X o tl)(hbase:Jv o "values" X.af (BI o X.af)=BI o X.af)(hline:(apos.endLine==pos.line)=AI):Ft X tg (.Call (.Attribute o "values" apos) [] [] pos) (Ye My tl):=by intro pins s σ H R I h;show cF (T:="dict") (id:="dict.values") hbase rfl hline bG ABy F.type_dict_values (Aw (ho pins s σ H _ I h) λv s1 hh11=>?_);lk;obtain⟨x,H1,I1,r1,a,kvs,e,q0,q⟩:=hh11;k_in;subst e;lk;cases r1;obtain⟨vs,o,es,ep,rel,hd,lo,I2,hat⟩:=I1.qy q0;k_in;have hl:kvs.length=vs.length:=Hz rel;show⟨hat.dictOf.typeIs,hat.dictOf.mapOf.noDict,?_⟩;show ACu ABy F.entry_dict_values rfl (zH ⟨rfl,hat.dictOf.typeIs,(by rfl),_,meets_dict_values (Ek X.ai X.w) a lo,⟨vs,hat.dictOf⟩,?_⟩);show wpAny_pyIter_values (knd:=Ek X.ai X.w) (d:=a) (kvs:=vs) (ep:=ep) ⟨_,Fe _ rfl,rfl,rfl⟩ (hat.push _) ?_;have I3:AX X pins σ (AK H1 a (.frz o (.dK kvs))) {s1 with heap:=s1.heap.push {cls:=.type "dict_values",data:=.fields #[.ref a]}}:=I2.ig (t':=s1.toks) λb o e=>Cb _ e;generalize s1.heap.push _=h1 at I3⊢;show⟨h1.objs.size,[h1.objs.size],_,My o kvs a,_,rfl,I3.ig (t':=s1.toks) λb o e=>Cb _ e,wB a _ hd,⟨_,Fe _ rfl,rfl,by simp_all⟩,λb hb=>?_,q o _ rfl⟩;have e:b=h1.objs.size:=BV.mp hb;subst e;show I3.vk (Ag _) (I3.cq.bw (Ag _))
theorem tL(ho:Al X o tl)(hbase:Jv o "items" X.af (BI o X.af)=BI o X.af)(hline:(apos.endLine==pos.line)=AI):Ft X (.Tuple elts x1 tpos) (.Call (.Attribute o "items" apos) [] [] pos) (Ye Mw tl):=by intro pins s σ H R I h;show cF (T:="dict") (id:="dict.items") hbase rfl hline bG ABw F.type_dict_items (Aw (ho pins s σ H _ I h) λv s1 hh11=>?_);lk;obtain⟨x,H1,I1,r1,a,kvs,e,q0,q⟩:=hh11;k_in;subst e;lk;cases r1;obtain⟨vs,o,es,ep,rel,hd,lo,I2,hat⟩:=I1.qy q0;k_in;have hl:kvs.length=vs.length:=Hz rel;show⟨hat.dictOf.typeIs,hat.dictOf.mapOf.noDict,?_⟩;show ACu ABw F.entry_dict_items rfl (zH ⟨rfl,hat.dictOf.typeIs,(by rfl),_,meets_dict_items (Ek X.ai X.w) a lo,⟨vs,hat.dictOf⟩,?_⟩);show wpAny_pyIter_items (knd:=Ek X.ai X.w) (d:=a) (kvs:=vs) (ep:=ep) ⟨_,Fe _ rfl,rfl,rfl⟩ (hat.push _) ?_;have I3:AX X pins σ (AK H1 a (.frz o (.dK kvs))) {s1 with heap:=s1.heap.push {cls:=.type "dict_items",data:=.fields #[.ref a]}}:=I2.ig (t':=s1.toks) λb o e=>Cb _ e;generalize s1.heap.push _=h1 at I3⊢;show⟨h1.objs.size,[h1.objs.size],_,Mw o kvs a,_,rfl,I3.ig (t':=s1.toks) λb o e=>Cb _ e,wA a _ hd,⟨.none,.none,by rw[hl];show Fe _ rfl⟩,λb hb=>?_,q o _ rfl⟩;have e:b=h1.objs.size:=BV.mp hb;subst e;show I3.vk (Ag _) (I3.cq.bw (Ag _))
theorem qE{d:AB}{o:A2}{kvs:List (AL×AD)}{g:EF}{E:CV}{D:GA}{J:Ai}{H:AG}(Y:Nat->Ai->AG->Prop)(F:Y 0 J H)(K:∀i J H,i<=kvs.length->Y i J H->H d=AA (.frz o (.dK kvs)))(M:∀(i:Nat)p J H,kvs[i]?=AA p->Y i J H->g p.2 J H λz A=>E {D with nx:=Y (i+1),ct:=Y (i+1),bk:=D.nx} z A)(I:∀J H,Y kvs.length J H->D.nx J H):∃W:Nat->Nat->Ai->AG->Prop,(∃m,W 0 m J H)/\∀i m J H,W i m J H->((My o kvs d).vm i H/\D.nx J H)\/((My o kvs d).go i H/\∃N:Ai->AG->Prop,(∀Z H',N Z H'->∃C,C<m/\W (i+1) C Z H')/\∀x H',(My o kvs d).aba i H x H'->g x J H' λz A=>E {D with nx:=N,ct:=N,bk:=D.nx} z A):=by
 show⟨λi m J H=>m=kvs.length-i/\i<=kvs.length/\Y i J H,⟨kvs.length,by simp,BZ _,F⟩,?_⟩;intro i m J H G;lk;obtain⟨rfl,B,p⟩:=G;k_in;have q:=K i J H B p;by_cases U:i<kvs.length
 . show .inr ⟨⟨q,U⟩,_,λZ H' O=>⟨_,HG _ _ U,rfl,U,O⟩,λx H' y=>?_⟩;lk;obtain⟨e,P,L,rfl⟩:=y;k_in;subst e;show M i P J _ L p
 . have:=EJ B (E6 U);subst this;show .inl ⟨⟨q,Ag _⟩,I J H p⟩
theorem qC{d:AB}{o:A2}{kvs:List (AL×AD)}{g:EF}{E:CV}{D:GA}{J:Ai}{H:AG}(Y:Nat->Ai->AG->Prop)(F:Y 0 J H)(K:∀i J H,i<=kvs.length->Y i J H->H d=AA (.frz o (.dK kvs)))(O:∀(i:Nat)p J H r,kvs[i]?=AA p->Y i J H->H r=AF->g (.ref r) J (AK H r (.tup [Ar p.1,p.2])) λz A=>E {D with nx:=Y (i+1),ct:=Y (i+1),bk:=D.nx} z A)(I:∀J H,Y kvs.length J H->D.nx J H):∃W:Nat->Nat->Ai->AG->Prop,(∃m,W 0 m J H)/\∀i m J H,W i m J H->((Mw o kvs d).vm i H/\D.nx J H)\/((Mw o kvs d).go i H/\∃N:Ai->AG->Prop,(∀Z H',N Z H'->∃C,C<m/\W (i+1) C Z H')/\∀x H',(Mw o kvs d).aba i H x H'->g x J H' λz A=>E {D with nx:=N,ct:=N,bk:=D.nx} z A):=by
 show⟨λi m J H=>m=kvs.length-i/\i<=kvs.length/\Y i J H,⟨kvs.length,by simp,BZ _,F⟩,?_⟩;intro i m J H G;lk;obtain⟨rfl,B,p⟩:=G;k_in;have q:=K i J H B p;by_cases U:i<kvs.length
 . show .inr ⟨⟨q,U⟩,_,λZ H' P=>⟨_,HG _ _ U,rfl,U,P⟩,λx H' y=>?_⟩;lk;obtain⟨r,Q,L,rfl,M,rfl⟩:=y;k_in;show O i Q J _ r L p M
 . have:=EJ B (E6 U);subst this;show .inl ⟨⟨q,Ag _⟩,I J H p⟩
inductive Iu(CX:HY)(P:CI)(w:Bm)(K:An)(mg:AE->Option AJ)(base:A8)(k:Nat)(R:AB->Prop)(sp:Ax):Prop|mk{f:AB}{fd:Hw}{ps:List AE}(r:R f)(b:Kz K fd ps [])(F:HZ P w K mg base CX k f fd ps sp):Iu CX P w K mg base k R sp
inductive Kq(K:An)(R:AB->Prop)(x q:AE)(st:Cg)(N:List AE)(n:Nat):Prop|mk{f:AB}{fd:Hw}(r:R f)(F:Mu K x q st f fd)(b:Kz K fd (N.take n) [])(S:K6 N (N.take n) (CT st)):Kq K R x q st N n
abbrev Rb(K:An)(D:AE->Option AJ)(x:AE)(f:AB):Prop:=D x=AA (.ref f)/\RN K (.ref f)=AI
abbrev B8(K:An)(D:AE->Option AJ)(x:AE):=Kq K (Rb K D x) x x
abbrev Es(K:An)(C:AB)(m:AE):=Kq K (QF K C m) m
abbrev Ll(K:An)(C:AB):=Kq K (OH K C) "__init__"
abbrev Kq.Ok{K:An}{st:Cg}(_:Kq K R x q st N n)(CX:HY)(P:CI)(w:Bm)(D:AE->Option AJ)(base:A8)(k:Nat)(sp:Ax):Prop:=Iu CX P w K D base k R sp
theorem Kq.ok{K:An}{st:Cg}(D:Kq K R x q st N n)(Y:∀(B:N.Nodup)(f:AB)(U:AJ)(A:Cf)(J:List DL)(s:AV),DF k (A.deeper (Fy q (CT st) s.heap.objs.size f U))->∀(H:AG)(vs:List AD)(Q:BN)(E:FL),sp vs H Q E->∃t,FX (EX A3 P w K z base N q (CT st) f U A J s H E).adg (Jh st) t/\t {nx:=λO H'=>Q .non H',rt:=Q} (KZ N vs) H)(W:∀vs H Q E,sp vs H Q E->vs.length=(N.take n).length:=by intro _ _ _ _ h;first|(obtain⟨rfl,_⟩:=h;rfl)|(obtain⟨_,rfl,_⟩:=h;rfl)|(obtain⟨_,_,rfl,_⟩:=h;rfl)|(obtain⟨_,_,_,rfl,_⟩:=h;rfl)|(obtain⟨_,_,_,_,rfl,_⟩:=h;rfl)|(obtain⟨_,_,_,_,_,rfl,_⟩:=h;rfl)|(obtain⟨_,_,_,_,_,_,rfl,_⟩:=h;rfl)|(obtain⟨_,_,_,_,_,_,_,rfl,_⟩:=h;rfl)|(obtain⟨_,_,_,_,_,_,_,_,rfl,_⟩:=h;rfl)|(cases h;subst_vars;rfl)):Iu A3 P w K z base (k+1) R sp:=by cases D with|mk r F b S=>show⟨r,b,F.ok S W λU A J s H vs Q E Z h=>Y S.nd _ U A J s Z H vs Q E h⟩
theorem Kq.ael{K:An}{st:Cg}(D:Kq K R x q st N n)(W:∀vs H Q E,sp vs H Q E->vs.length=(N.take n).length)(Y:∀(B:N.Nodup)(f:AB)(U:AJ)(A:Cf)(J:List DL)(s:AV),DF k (A.deeper (Fy q (CT st) s.heap.objs.size f U))->∀(H:AG)(vs:List AD)(Q:BN)(E:FL),sp vs H Q E->∃t,FX (EX (GP P w) P w K z base N q (CT st) f U A J s H E) (Jh st) t/\t {nx:=λO H'=>Q .non H',rt:=Q} (KZ N vs) H):Iu (GP P w) P w K z base (k+1) R sp:=by cases D with|mk r F b S=>show⟨r,b,F.ael S W λU A J s H vs Q E Z h=>Y S.nd _ U A J s Z H vs Q E h⟩
theorem A5{x:AE}(c:Iu A3 X.ai X.w X.K X.mg X.ag k (Rb X.K X.mg x) sp)(C:DF n X.A)(Z:Fs X (e::D) t)(B:k<=n:=by decide)(A:FJ X x:=by rfl)(J:(x==("__debug__":AE))=AM:=by decide)(z:By (e::D) X.af=(AM,BI e X.af)::By D X.af:=by rfl)(U:(Eo V (By D X.af)).any (·.1)=AM:=by rfl):Al X (.Call (.Name x p) (e::D) [] V) (vA sp [] L8 t):=by intro Y s E H Q I h;cases c with|mk r b F=>show Nt (MI I A r.1 ?_ J);show bR I.ok.vn.acu r.2 (Aw (Z _ _ s E H _ I h) λK s1⟨L,G,W,r,q⟩=>⟨W.oy,?_⟩) z U;show UJ F (C.zo B) b .nil Hn W r q
theorem Ee(he:Al X o ta)(c:GQ X.K C)(h:Iu A3 X.ai X.w X.K X.mg X.ag k (QF X.K C m) sp)(hr:DF n X.A)(ha:Fs X (e::es) t)(hn:k<=n:=by decide)(hst:By (e::es) X.af=(AM,BI e X.af)::By es X.af:=by rfl)(hpl:(Eo pos (By es X.af)).any (·.1)=AM:=by rfl)(ht:BI (.Call (.Attribute o m apos) (e::es) [] pos) X.af=(do
 let ov<-BI o X.af
 zO apos.atName let(f,first)<-zJ [ov] (b8 ov m pl)callWith pos f first (Eo pos (By (e::es) X.af)) (O6 pos (PD [] X.af))):=by rfl):Al X (.Call (.Attribute o m apos) (e::es) [] pos) (Zi C m sp [] L8 ta t):=by intro pins s σ H Q I g;cases h with|mk r b F=>show ACd (Aw (he _ s σ H _ I g) λu s1 A0=>?_) ht;obtain⟨x,H1,I1,rx,a,dx,fs,ex,ea,l,q⟩:=A0;subst ex;obtain rfl:u=DM a:=rx;show Yd I1 ea c r l ?_;show bR I.ok.vn.acu r.kp (Aw (ha _ _ s1 σ H1 _ I1 q) λus s2⟨vs,H2,I2,r,q2⟩=>⟨I2.oy,?_⟩) hst hpl;show UJ (vs:=.ref a::vs) F (hr.zo hn) b .nil Hn I2 (.cons rfl r) q2
theorem KA{K:Cz Bool}(A:Al X o M)(c:GQ X.K C)(h:Iu A3 X.ai X.w X.K X.mg X.ag k (QF X.K C m) sp)(E:DF n X.A)(B:k<=n:=by decide)(G:BI (.Call (.Attribute o m J) [] [] D) X.af=(do
 let W<-BI o X.af
 zO J.atName let(f,U)<-zJ [W] (b8 W m K)callWith D f U (Eo D (By [] X.af)) (O6 D (PD [] X.af))):=by rfl):Al X (.Call (.Attribute o m J) [] [] D) (Zi C m sp [] L8 M UP):=by intro Y s N H Q I g;cases h with|mk r b F=>show ACd (Aw (A _ s N H _ I g) λu s1 A0=>?_) G;obtain⟨x,O,V,L,a,P,R,z,Z,l,q⟩:=A0;subst z;obtain rfl:u=DM a:=L;show Yd V Z c r l ?_;show ACP V.oy r.kp (UJ (vs:=[.ref a]) F (E.zo B) b .nil Hn V (.cons rfl .nil) q)
theorem J9{x:AE}(h:Iu CX X.ai X.w X.K X.mg X.ag k (OH X.K C) sp)(K:DF n X.A)(B:X.mg x=AA (.ref C))(L:M8 CX X E)(Z:Fs X (e::D) t)(G:k+1<=n:=by decide)(A:FJ X x:=by rfl)(J:(x==("__debug__":AE))=AM:=by decide)(z:By (e::D) X.af=(AM,BI e X.af)::By D X.af:=by rfl)(U:(Eo V (By D X.af)).any (·.1)=AM:=by rfl):Al X (.Call (.Name x p) (e::D) [] V) (Zh C sp [] E t):=by intro Y s N H Q I g;cases h with|mk M b F=>show Nt (MI I A B ?_ J);show bR I.ok.vn.acu M.kp (Aw (Z _ _ s N H _ I g) λP s1⟨R,O,W,r,q⟩=>⟨W.oy,?_⟩) z U;show ZW M F (K.zo G) b .nil L W r q
theorem XC{x:AE}(h:Iu CX X.ai X.w X.K X.mg X.ag k (OH X.K C) sp)(Y:DF n X.A)(V:X.mg x=AA (.ref C))(Z:M8 CX X E)(W:k+1<=n:=by decide)(U:FJ X x:=by rfl)(D:(x==("__debug__":AE))=AM:=by decide):Al X (.Call (.Name x p) [] [] z) (Zh C sp [] E UP):=by intro J s A H Q I g;cases h with|mk M b F=>show Nt (MI I U V ?_ D);show ACP I.oy M.kp (ZW M F (Y.zo W) b .nil Z I .nil g)
theorem jN{x:AE}(h:Iu (GP X.ai X.w) X.ai X.w X.K X.mg X.ag k (OH X.K C) sp)(j:DF n X.A)(f:X.mg x=AA (.ref C))(T:Fs X.adg (e::W) t)(i:k+1<=n:=by decide)(c:FJ X x:=by rfl)(Z:(x==("__debug__":AE))=AM:=by decide)(b:By (e::W) X.af=(AM,BI e X.af)::By W X.af:=by rfl)(A:(Eo B (By W X.af)).any (·.1)=AM:=by rfl):X1 X (.Call (.Name x p) (e::W) [] B) (v7 C sp t):=by intro N o y P Q E Y g;cases h with|mk M a F=>
 show Nt (MI Y c f ?_ Z);show bR Y.ok.vn.acu M.kp (Ep (T _ _ o y P _ (Y.wm _) g) (λG s⟨w,H,J,r,q⟩=>⟨J.oy,?_⟩) λO0 O0 z=>Er z) b A;have I:=J.md;have L:=q _ _ (I.cq.bw (Ow _)) (I.cq.bw (Ag _)) (DV (Jo _));have U:=Xw (C:=C) I;have r2:BM (AD.ref (s.heap.objs.size+1)::w) _:=.cons rfl r;have d:=by have e:=r2.aq;rw[F.fq _ _ _ _ L]at e;show e.symm
 show U6 (Y0 I.oy M.acg M.adv (AEO.mp M.fn) (PC (F.aeb _ _ _ _ _ _ _ _ E ((j.zo i).abh C G []) (U.abu.abh C G []) (by have:=a _ (DM (s.heap.objs.size+1)::G) U.oy (by simpa using d);simpa using this) r2 L) λr s' D=>?_));cases r with|error K=>show⟨_,_,U,D⟩|ok S=>cases S with|ret u=>lk;obtain⟨v,O,R,m,K,l⟩:=U.zx D;k_in;subst K;show⟨m,⟨AD.ref _,O,R,rfl,l⟩⟩|next=>show Er D|brk=>show Er D|cont=>show Er D
theorem jM{x y:AE}{K:An}(h:Iu A3 X.ai X.w X.K X.mg X.ag k (Rb X.K X.mg y) sp)(N:DF n X.A)(W:X.mg x=AF)(P:O9 x=AA (.builtin "sorted"))(E:Al X e c)(C:k+2<=n:=by decide)(G:FJ X y:=by rfl)(O:FJ X x:=by rfl)(B:X.K=K:=by rfl)(L:x≠"__name__":=by decide)(U:(x==("__debug__":AE))=AM:=by decide)(V:(y==("__debug__":AE))=AM:=by decide)(J:Eo Y (By [e] X.af)=[(AM,BI e X.af)]:=by rfl):Al X (.Call (.Name x p) [e] [⟨AA "key",.Name y i,j⟩] Y) (vX K sp c):=by subst B;intro z s d H Q I g;cases h with|mk r b F=>show Nt (Jj I O W P ?_ L U);show callWith_kw ?_ J (by simp_all) rfl rfl;rw[J];show Nj (Aw (E _ s d H _ I g) λu s1 D=>?_);lk;obtain⟨v,f,Z,T,a,l,S,A,M,R,q⟩:=D;k_in;show O4 ?_;subst A;obtain rfl:u=DM a:=T;show wpAny_evalAll_cons (A6 (MI Z G r.1 (A6 (zZ (Ci (wpAny_evalAll_nil ?_)))) V));show uV F b (N.zo C) Z M R q
theorem R4{K:An}{st:Cg}(r:R f)(l:K.lookup f=AA ⟨A,B,.func (Nl x q (ND st) (Jh st) (CT st) .none Y J Z V D W),z⟩)(c:bT K D q=AI)(k:RN K (.ref f)=AI)(S:K6 N (N.take n) (CT st))(b:∀(Y J Z:AJ)(V:Option AB)(D W:AJ)(U:List AJ),U.length=(N.take n).length->zA (Nl x q (ND st) (Jh st) (CT st) .none Y J Z V D W) ⟨U,[]⟩=BY ((N.take n).zip U)):Kq K R x q st N n:=⟨r,Tc l c k,(Tc l c k).adj b,S⟩
theorem f6{K:An}{D:AE->Option AJ}{g:HI->AJ}(X:K.In h)(G:h.Ns Km D)(e:W.nsIn K Km x=AA (AA (g t))):∃t,D x=AA (g t):=⟨t,y3 X G e⟩
theorem eW{K:An}(a:HJ K (.ref C) "__getattribute__"=AA (AA (.builtin "BaseException.__getattribute__")))(b:HJ K (.ref C) "__getattr__"=AA AF)(c:HJ K (.ref C) "__class__"=AA (AA (.builtin "object.__class__")))(d:b0 K (.ref C) (.type "BaseException")=AA AI)(e:b0 K (.ref C) (.type "object")=AA AI)(i:bS K C=AA D):K5 K C:=⟨a,b,c,d,e,by rw[i];rfl⟩
theorem nD{K:An}(l:K.lookup f=AA ⟨.type "tuple",AF,.seq vs n,D⟩)(a:vs.size<=Az)(b:BM xs vs.toList)(H:AG):CN K H f xs:=.inr ⟨_,_,_,l,rfl,rfl,a,b⟩
theorem gL{K:An}(l:K.lookup f=AA ⟨.type "tuple",AF,.seq vs n,D⟩):∃o,K.lookup f=AA o/\o.cls=.type "tuple"/\o.dict=AF:=⟨_,l,rfl,rfl⟩
theorem nN(h:J.length=1):∃D,J=[D]:=List.length_eq_one_iff.mp h
theorem nO(h:U.length=2):∃D J,U=[D,J]:=by
  obtain⟨D,Z,rfl⟩:=List.exists_cons_of_length_eq_add_one h;obtain⟨J,rfl⟩:=nN (Nat.succ.inj h);show⟨D,J,rfl⟩
theorem nP(h:V.length=3):∃D J U,V=[D,J,U]:=by
  obtain⟨D,Z,rfl⟩:=List.exists_cons_of_length_eq_add_one h;obtain⟨J,U,rfl⟩:=nO (Nat.succ.inj h);show⟨D,J,U,rfl⟩
theorem nQ(h:W.length=4):∃D J U V,W=[D,J,U,V]:=by
  obtain⟨D,Z,rfl⟩:=List.exists_cons_of_length_eq_add_one h;obtain⟨J,U,V,rfl⟩:=nP (Nat.succ.inj h);show⟨D,J,U,V,rfl⟩
theorem nR(h:Y.length=5):∃D J U V W,Y=[D,J,U,V,W]:=by
  obtain⟨D,Z,rfl⟩:=List.exists_cons_of_length_eq_add_one h;obtain⟨J,U,V,W,rfl⟩:=nQ (Nat.succ.inj h);show⟨D,J,U,V,W,rfl⟩
seal Al Gy MA Fs ET FX LA QH Ft KL QI CC QO Eg M5 M9
noncomputable def BE(i:Nat):Cg:=ADR.main.body.getD i (.Pass ⟨0,0,0,0⟩)
noncomputable abbrev XX:Cg:=BE 18
noncomputable abbrev OA:Cg:=BE 37
noncomputable abbrev Sb:Cg:=BE 38
noncomputable abbrev XQ:Cg:=Dt (BE 43) 2
noncomputable abbrev XR:Cg:=Dt (BE 48) 1
noncomputable abbrev XW:Cg:=BE 50
noncomputable abbrev Se:Cg:=BE 54
noncomputable abbrev Sf:Cg:=BE 56
noncomputable abbrev XS:Cg:=BE 62
noncomputable abbrev XU:Cg:=BE 63
noncomputable abbrev XT:Cg:=BE 68
noncomputable abbrev SY:Cg:=Dt (BE 69) 0
noncomputable abbrev Sg:Cg:=BE 81
noncomputable abbrev Sa:Cg:=BE 85
theorem Xd:K6 ["_law_script","_law_most","_law_plan_here","_law_slack","_law_many","_law_handed","_law_house","_law_flow","_law_held","_law_k","_law_event_here","_law_found","_law_rows"] ["_law_script"] (CT Sa):=Qs
set_option genInjectivity false in structure Bh where
 abb:AB
 acf:Hw
 uk:AB
 qv:AB
 ba:AB
 vo:AB
 ug:AB
 uf:AB
 ue:AB
 aj:AB
 bx:AB
 jg:AB
 jf:AB
 bo:AB
 dq:AB
 de:AB
 yw:AB
 xk:AB
 uh:AB
structure BA(K:An)(mg:AE->Option AJ)(ad:Bh):Prop where
 xq:mg "FlowError"=AA (.ref ad.uk)yr:mg "BadEvent"=AA (.ref ad.qv)vg:mg "BadSlack"=AA (.ref ad.ba)aas:mg "Broken"=AA (.ref ad.vo)zm:mg "BadStep"=AA (.ref ad.ug)zl:mg "BadLine"=AA (.ref ad.uf)zj:mg "BadKeep"=AA (.ref ad.ue)we:mg "Clock"=AA (.ref ad.aj)abi:mg "Group"=AA (.ref ad.bx)aaf:mg "Side"=AA (.ref ad.jg)aby:mg "Join"=AA (.ref ad.jf)abx:mg "Flow"=AA (.ref ad.bo)aae:mg "Hand"=AA (.ref ad.dq)yt:mg "House"=AA (.ref ad.de)bu:GQ K ad.aj
 qr:EE K ad.aj "slack"df:EE K ad.aj "now"gx:EE K ad.aj "count"cy:GQ K ad.bx
 ma:EE K ad.bx "step"fm:EE K ad.bx "rows"fi:GQ K ad.jg
 dk:EE K ad.jg "rows"gc:GQ K ad.jf
 ic:EE K ad.jf "within"fo:EE K ad.jf "sides"bc:GQ K ad.bo
 vh:EE K ad.bo "plan"gu:EE K ad.bo "clock"il:EE K ad.bo "joins"gy:EE K ad.bo "groups"kc:EE K ad.bo "number"di:GQ K ad.dq
 vi:EE K ad.dq "plan"gv:EE K ad.dq "joins"ft:EE K ad.dq "groups"au:GQ K ad.de
 fw:EE K ad.de "clock"cg:EE K ad.de "hands"kg:EE K ad.de "homes"kz:B8 K mg "is_whole" (BE 11) ["thing"] 1
 kx:B8 K mg "is_among" (BE 12) ["thing","least","most"] 3
 gm:Ll K ad.aj "Clock.__init__" (Dt (BE 15) 0) ["self","slack"] 2
 pz:Es K ad.aj "admit" "Clock.admit" (Dt (BE 15) 1) ["self","time"] 2
 aaa:B8 K mg "ahead" (BE 17) ["rows","mark","low","high","middle"] 2
 vf:B8 K mg "with_keys" XX ["rows","told","key"] 1
 yn:B8 K mg "starts" (BE 20) ["time","size","step","first"] 3
 aab:B8 K mg "meets" (BE 21) ["start","end","time","most","last"] 4
 vd:B8 K mg "names_end" (BE 26) ["step"] 1
 xf:B8 K mg "name_of" (BE 27) ["step"] 1
 xc:B8 K mg "feeders" (BE 28) ["step"] 1
 vc:B8 K mg "is_teller" (BE 29) ["step"] 1
 vz:B8 K mg "tally_of" (BE 31) ["amount"] 1
 zz:B8 K mg "added" (BE 32) ["one","other"] 2
 aad:B8 K mg "value" (BE 33) ["sort","tally"] 2
 sj:B8 K mg "put_window" (BE 35) ["pieces","start","end","tally","place","there"] 4
 vy:B8 K mg "put_each" (BE 36) ["pieces","time","amount","size","step","told","start"] 5
 xg:B8 K mg "put_gap" OA ["pieces","time","amount","most","met","rest","start","end","tally","piece"] 4
 yi:B8 K mg "parted" Sb ["pieces","now","over","still"] 2
 yk:B8 K mg "put_by" (BE 40) ["step","pieces","item"] 3
 yl:B8 K mg "row_of" (BE 41) ["step","key","piece"] 3
 vx:B8 K mg "order_of" (BE 42) ["row"] 1
 kj:Ll K ad.bx "Group.__init__" (Dt (BE 43) 0) ["self","step"] 2
 uo:Es K ad.bx "put" "Group.put" (Dt (BE 43) 1) ["self","item","key"] 2
 qe:Es K ad.bx "close" "Group.close" XQ ["self","now","told","key"] 2
 ri:Es K ad.bx "take" "Group.take" (Dt (BE 43) 3) ["self","key","now","pieces","pair"] 3
 oa:Es K ad.bx "pieces" "Group.pieces" (Dt (BE 43) 4) ["self"] 1
 ml:Ll K ad.jg "Side.__init__" (Dt (BE 45) 0) ["self"] 1
 vp:Es K ad.jg "put" "Side.put" (Dt (BE 45) 1) ["self","item","pair","row","place"] 2
 uy:Es K ad.jg "near" "Side.near" (Dt (BE 45) 2) ["self","key","low","high","row"] 4
 uw:Es K ad.jg "drop" "Side.drop" (Dt (BE 45) 3) ["self","least","key","row","kept"] 2
 ux:Es K ad.jg "kept" "Side.kept" (Dt (BE 45) 4) ["self"] 1
 vw:B8 K mg "met_item" (BE 47) ["side","item","pair","first","second"] 3
 mj:Ll K ad.jf "Join.__init__" (Dt (BE 48) 0) ["self","within"] 2
 ur:Es K ad.jf "come" "Join.come" XR ["self","side","item","met"] 3
 uv:Es K ad.jf "drop" "Join.drop" (Dt (BE 48) 2) ["self","now","side"] 2
 xi:B8 K mg "tellers" XW ["plan"] 1
 aac:B8 K mg "taken" (BE 52) ["step","event"] 2
 yo:B8 K mg "turned" (BE 53) ["step","item"] 2
 yj:B8 K mg "passed" Se ["step","streams"] 2
 yh:B8 K mg "joined" (BE 55) ["join","streams","made","side","items","item"] 2
 ym:B8 K mg "spread" Sf ["plan","joins","event","brought","told","place","step","streams","items"] 3
 vv:B8 K mg "joins_of" (BE 58) ["plan","joins","place","step"] 1
 uz:B8 K mg "groups_of" (BE 59) ["plan","groups","place"] 1
 ve:B8 K mg "put_event" (BE 60) ["plan","joins","groups","event","place","item"] 4
 vq:B8 K mg "drop_all" (BE 61) ["joins","now","join"] 2
 yg:B8 K mg "closed" XS ["groups","now","told","place","group"] 2
 xh:B8 K mg "rows_of" XU ["told"] 1
 mf:Ll K ad.bo "Flow.__init__" (Dt (BE 64) 0) ["self","plan","slack"] 3
 um:Es K ad.bo "come" "Flow.come" (Dt (BE 64) 1) ["self","event"] 2
 nz:Es K ad.bo "told_by" "Flow.told_by" (Dt (BE 64) 2) ["self","now","rows"] 2
 qd:Es K ad.bo "finish" "Flow.finish" (Dt (BE 64) 3) ["self"] 1
 mh:Ll K ad.dq "Hand.__init__" (Dt (BE 66) 0) ["self","plan"] 2
 rj:Es K ad.dq "bring" "Hand.bring" (Dt (BE 66) 1) ["self","event"] 2
 qf:Es K ad.dq "forget" "Hand.forget" (Dt (BE 66) 2) ["self","now"] 2
 uq:Es K ad.dq "over" "Hand.over" (Dt (BE 66) 3) ["self","now"] 2
 si:B8 K mg "first_home" XT ["key","many"] 2
 gq:Ll K ad.de "House.__init__" SY ["self","plan","slack","many"] 4
 rq:Es K ad.de "home" "House.home" (Dt (BE 69) 1) ["self","key"] 2
 rl:Es K ad.de "come" "House.come" (Dt (BE 69) 3) ["self","event","hand"] 2
 mi:Es K ad.de "told_by" "House.told_by" (Dt (BE 69) 4) ["self","now","told","hand"] 2
 og:Es K ad.de "finish" "House.finish" (Dt (BE 69) 5) ["self"] 1
 mn:B8 K mg "_law_cell_at" (BE 71) ["_law_script","_law_k"] 2
 oh:B8 K mg "_law_number" (BE 72) ["_law_script","_law_k","_law_base"] 2
 qk:B8 K mg "_law_names" (BE 73) ["_law_script","_law_start","_law_many","_law_some","_law_number_here","_law_step","_law_word","_law_j","_law_place","_law_names_here","_law_k","_law_sign"] 3
 ql:B8 K mg "_law_scale" (BE 74) ["_law_script"] 1
 oi:B8 K mg "_law_stream" (BE 75) ["_law_name","_law_number_here","_law_streams","_law_scale_here","_law_one","_law_other","_law_low"] 4
 oj:B8 K mg "_law_teller" (BE 76) ["_law_name","_law_number_here","_law_streams","_law_scale_here","_law_one","_law_sort","_law_step"] 4
 qg:B8 K mg "_law_bound" (BE 77) ["_law_step","_law_sizes","_law_most"] 3
 su:B8 K mg "_law_plan" (BE 78) ["_law_script","_law_most","_law_names_here","_law_kinds","_law_scale_here","_law_plan_here","_law_sizes","_law_wide","_law_many","_law_joined","_law_k","_law_number_here","_law_streams","_law_step"] 2
 qh:B8 K mg "_law_event" (BE 79) ["_law_script","_law_k","_law_number_here","_law_scale_here","_law_time","_law_kind","_law_keys","_law_key","_law_amount"] 2
 qj:B8 K mg "_law_first" (BE 80) ["_law_key","_law_many","_law_total","_law_sign"] 2
 mw:B8 K mg "_law_keys_of" Sg ["_law_hand","_law_found","_law_place","_law_side"] 1
 jm:B8 K mg "_law_keeps_alike" (BE 82) ["_law_house","_law_flow","_law_place","_law_side","_law_found","_law_hand"] 2
 mz:B8 K mg "_law_refused" (BE 83) ["_law_plan_here","_law_slack","_law_many","e","_law_told"] 3
 jl:B8 K mg "_law_homes_right" (BE 84) ["_law_house","_law_many","_law_number_here","_law_key"] 2
 ady:mg "law"=AA (.ref ad.abb)acd:Mu K "law" "law" Sa ad.abb ad.acf
 zv:bV K ad.ba [.type "ValueError",.type "Exception",.type "BaseException",.type "object"] "ValueError.__new__"=AI
 gf:K5 K ad.ba
 nj:Lh K (.ref ad.ba) (.type "ValueError")=AA AI
 om:ACR K (.ref ad.ba) (.ref ad.uk)=AA AI
 ow:Lh K (.ref ad.ba) (.ref ad.qv)=AA AM
 ox:Lh K (.ref ad.ba) (.ref ad.ba)=AA AI
 tj:Lh K (.ref ad.ba) (.ref ad.vo)=AA AM
 rh:Lh K (.ref ad.ba) (.ref ad.ug)=AA AM
 rg:Lh K (.ref ad.ba) (.ref ad.uf)=AA AM
 qz:Lh K (.ref ad.ba) (.ref ad.ue)=AA AM
 aan:∃t,mg "LETTERS"=AA (.str "abcdefghijklmnopqrstuvwxyz" t)ti:∃t,mg "MOST_SLACK"=AA (.int 1000000000 t)abe:mg "PAIRED"=AA (.ref ad.yw)abl:∀H,CN K H ad.yw [.str "both",.str "join"]aap:mg "TELLERS"=AA (.ref ad.xk)aau:∀H,CN K H ad.xk [.str "each",.str "gap"]aao:mg "TALLIES"=AA (.ref ad.uh)aat:∀H,CN K H ad.uh [.str "count",.str "sum",.str "least",.str "greatest"]aar:∃o,K.lookup ad.uh=AA o/\o.cls=.type "tuple"/\o.dict=AF
 yd:mg "ValueError"=AF
 zw:mg "bool"=AF
 jz:mg "enumerate"=AF
 aak:mg "int"=AF
 bh:mg "isinstance"=AF
 iq:mg "len"=AF
 jt:mg "list"=AF
 aal:mg "max"=AF
 abp:mg "min"=AF
 js:mg "range"=AF
 ju:mg "sorted"=AF
 aeh:mg "sum"=AF
inductive Rk{a b:Type}(A B C D E F G H I J K:a->b->Prop):Prop|mk(a:a)(b:b)(_:A a b)(_:B a b)(_:C a b)(_:D a b)(_:E a b)(_:F a b)(_:G a b)(_:H a b)(_:I a b)(_:J a b)(_:K a b)
inductive Ve{a b c:Type}(A B:a->b->c->Prop):Prop|mk(a:a)(b:b)(c:c)(_:A a b c)(_:B a b c)
inductive Rl{a b c:Type}(A B C D E F G H:a->b->c->Prop):Prop|mk(a:a)(b:b)(c:c)(_:A a b c)(_:B a b c)(_:C a b c)(_:D a b c)(_:E a b c)(_:F a b c)(_:G a b c)(_:H a b c)
inductive Vf{a b c:Type}(A B C D E F G H I:a->b->c->Prop):Prop|mk(a:a)(b:b)(c:c)(_:A a b c)(_:B a b c)(_:C a b c)(_:D a b c)(_:E a b c)(_:F a b c)(_:G a b c)(_:H a b c)(_:I a b c)
inductive Rm{a b c d:Type}(A B:a->b->c->d->Prop):Prop|mk(a:a)(b:b)(c:c)(d:d)(_:A a b c d)(_:B a b c d)
inductive Vg{a b c d:Type}(A B C:a->b->c->d->Prop):Prop|mk(a:a)(b:b)(c:c)(d:d)(_:A a b c d)(_:B a b c d)(_:C a b c d)
inductive Pj{a b c d:Type}(A B C D:a->b->c->d->Prop):Prop|mk(a:a)(b:b)(c:c)(d:d)(_:A a b c d)(_:B a b c d)(_:C a b c d)(_:D a b c d)
inductive Pk{a b c d e:Type}(A B C D E:a->b->c->d->e->Prop):Prop|mk(a:a)(b:b)(c:c)(d:d)(e:e)(_:A a b c d e)(_:B a b c d e)(_:C a b c d e)(_:D a b c d e)(_:E a b c d e)
inductive Rn{a b c d e:Type}(A B C D E F G H I J:a->b->c->d->e->Prop):Prop|mk(a:a)(b:b)(c:c)(d:d)(e:e)(_:A a b c d e)(_:B a b c d e)(_:C a b c d e)(_:D a b c d e)(_:E a b c d e)(_:F a b c d e)(_:G a b c d e)(_:H a b c d e)(_:I a b c d e)(_:J a b c d e)
inductive Vi{a b c d e f:Type}(A B C:a->b->c->d->e->f->Prop):Prop|mk(a:a)(b:b)(c:c)(d:d)(e:e)(f:f)(_:A a b c d e f)(_:B a b c d e f)(_:C a b c d e f)
inductive Ro{a b c d e f:Type}(A B C D E:a->b->c->d->e->f->Prop):Prop|mk(a:a)(b:b)(c:c)(d:d)(e:e)(f:f)(_:A a b c d e f)(_:B a b c d e f)(_:C a b c d e f)(_:D a b c d e f)(_:E a b c d e f)
inductive Vj{a b c d e f:Type}(A B C D E F G:a->b->c->d->e->f->Prop):Prop|mk(a:a)(b:b)(c:c)(d:d)(e:e)(f:f)(_:A a b c d e f)(_:B a b c d e f)(_:C a b c d e f)(_:D a b c d e f)(_:E a b c d e f)(_:F a b c d e f)(_:G a b c d e f)
inductive Vk{a b c d e f:Type}(A B C D E F G H:a->b->c->d->e->f->Prop):Prop|mk(a:a)(b:b)(c:c)(d:d)(e:e)(f:f)(_:A a b c d e f)(_:B a b c d e f)(_:C a b c d e f)(_:D a b c d e f)(_:E a b c d e f)(_:F a b c d e f)(_:G a b c d e f)(_:H a b c d e f)
inductive Vh{a b c d e f:Type}(A B C D E F G H I J K L:a->b->c->d->e->f->Prop):Prop|mk(a:a)(b:b)(c:c)(d:d)(e:e)(f:f)(_:A a b c d e f)(_:B a b c d e f)(_:C a b c d e f)(_:D a b c d e f)(_:E a b c d e f)(_:F a b c d e f)(_:G a b c d e f)(_:H a b c d e f)(_:I a b c d e f)(_:J a b c d e f)(_:K a b c d e f)(_:L a b c d e f)
inductive Vm{a b c d e f g:Type}(A B C D:a->b->c->d->e->f->g->Prop):Prop|mk(a:a)(b:b)(c:c)(d:d)(e:e)(f:f)(g:g)(_:A a b c d e f g)(_:B a b c d e f g)(_:C a b c d e f g)(_:D a b c d e f g)
inductive Rp{a b c d e f g:Type}(A B C D E:a->b->c->d->e->f->g->Prop):Prop|mk(a:a)(b:b)(c:c)(d:d)(e:e)(f:f)(g:g)(_:A a b c d e f g)(_:B a b c d e f g)(_:C a b c d e f g)(_:D a b c d e f g)(_:E a b c d e f g)
inductive Rq{a b c d e f g:Type}(A B C D E F G:a->b->c->d->e->f->g->Prop):Prop|mk(a:a)(b:b)(c:c)(d:d)(e:e)(f:f)(g:g)(_:A a b c d e f g)(_:B a b c d e f g)(_:C a b c d e f g)(_:D a b c d e f g)(_:E a b c d e f g)(_:F a b c d e f g)(_:G a b c d e f g)
inductive Vn{a b c d e f g:Type}(A B C D E F G H:a->b->c->d->e->f->g->Prop):Prop|mk(a:a)(b:b)(c:c)(d:d)(e:e)(f:f)(g:g)(_:A a b c d e f g)(_:B a b c d e f g)(_:C a b c d e f g)(_:D a b c d e f g)(_:E a b c d e f g)(_:F a b c d e f g)(_:G a b c d e f g)(_:H a b c d e f g)
inductive Vo{a b c d e f g:Type}(A B C D E F G H I:a->b->c->d->e->f->g->Prop):Prop|mk(a:a)(b:b)(c:c)(d:d)(e:e)(f:f)(g:g)(_:A a b c d e f g)(_:B a b c d e f g)(_:C a b c d e f g)(_:D a b c d e f g)(_:E a b c d e f g)(_:F a b c d e f g)(_:G a b c d e f g)(_:H a b c d e f g)(_:I a b c d e f g)
inductive Vl{a b c d e f g:Type}(A B C D E F G H I J:a->b->c->d->e->f->g->Prop):Prop|mk(a:a)(b:b)(c:c)(d:d)(e:e)(f:f)(g:g)(_:A a b c d e f g)(_:B a b c d e f g)(_:C a b c d e f g)(_:D a b c d e f g)(_:E a b c d e f g)(_:F a b c d e f g)(_:G a b c d e f g)(_:H a b c d e f g)(_:I a b c d e f g)(_:J a b c d e f g)
inductive Vq{a b c d e f g h:Type}(A B C D E F G:a->b->c->d->e->f->g->h->Prop):Prop|mk(a:a)(b:b)(c:c)(d:d)(e:e)(f:f)(g:g)(h:h)(_:A a b c d e f g h)(_:B a b c d e f g h)(_:C a b c d e f g h)(_:D a b c d e f g h)(_:E a b c d e f g h)(_:F a b c d e f g h)(_:G a b c d e f g h)
inductive Vr{a b c d e f g h:Type}(A B C D E F G H:a->b->c->d->e->f->g->h->Prop):Prop|mk(a:a)(b:b)(c:c)(d:d)(e:e)(f:f)(g:g)(h:h)(_:A a b c d e f g h)(_:B a b c d e f g h)(_:C a b c d e f g h)(_:D a b c d e f g h)(_:E a b c d e f g h)(_:F a b c d e f g h)(_:G a b c d e f g h)(_:H a b c d e f g h)
inductive Vp{a b c d e f g h:Type}(A B C D E F G H I J K:a->b->c->d->e->f->g->h->Prop):Prop|mk(a:a)(b:b)(c:c)(d:d)(e:e)(f:f)(g:g)(h:h)(_:A a b c d e f g h)(_:B a b c d e f g h)(_:C a b c d e f g h)(_:D a b c d e f g h)(_:E a b c d e f g h)(_:F a b c d e f g h)(_:G a b c d e f g h)(_:H a b c d e f g h)(_:I a b c d e f g h)(_:J a b c d e f g h)(_:K a b c d e f g h)
inductive Rt{a b c d e f g h i:Type}(A B C D E F G:a->b->c->d->e->f->g->h->i->Prop):Prop|mk(a:a)(b:b)(c:c)(d:d)(e:e)(f:f)(g:g)(h:h)(i:i)(_:A a b c d e f g h i)(_:B a b c d e f g h i)(_:C a b c d e f g h i)(_:D a b c d e f g h i)(_:E a b c d e f g h i)(_:F a b c d e f g h i)(_:G a b c d e f g h i)
inductive Vs{a b c d e f g h i:Type}(A B C D E F G H:a->b->c->d->e->f->g->h->i->Prop):Prop|mk(a:a)(b:b)(c:c)(d:d)(e:e)(f:f)(g:g)(h:h)(i:i)(_:A a b c d e f g h i)(_:B a b c d e f g h i)(_:C a b c d e f g h i)(_:D a b c d e f g h i)(_:E a b c d e f g h i)(_:F a b c d e f g h i)(_:G a b c d e f g h i)(_:H a b c d e f g h i)
inductive Rr{a b c d e f g h i:Type}(A B C D E F G H I J K:a->b->c->d->e->f->g->h->i->Prop):Prop|mk(a:a)(b:b)(c:c)(d:d)(e:e)(f:f)(g:g)(h:h)(i:i)(_:A a b c d e f g h i)(_:B a b c d e f g h i)(_:C a b c d e f g h i)(_:D a b c d e f g h i)(_:E a b c d e f g h i)(_:F a b c d e f g h i)(_:G a b c d e f g h i)(_:H a b c d e f g h i)(_:I a b c d e f g h i)(_:J a b c d e f g h i)(_:K a b c d e f g h i)
inductive VT{a b c d e f g h i j:Type}(A B C D E F G:a->b->c->d->e->f->g->h->i->j->Prop):Prop|mk(a:a)(b:b)(c:c)(d:d)(e:e)(f:f)(g:g)(h:h)(i:i)(j:j)(_:A a b c d e f g h i j)(_:B a b c d e f g h i j)(_:C a b c d e f g h i j)(_:D a b c d e f g h i j)(_:E a b c d e f g h i j)(_:F a b c d e f g h i j)(_:G a b c d e f g h i j)
inductive VU{a b c d e f g h i j:Type}(A B C D E F G H I:a->b->c->d->e->f->g->h->i->j->Prop):Prop|mk(a:a)(b:b)(c:c)(d:d)(e:e)(f:f)(g:g)(h:h)(i:i)(j:j)(_:A a b c d e f g h i j)(_:B a b c d e f g h i j)(_:C a b c d e f g h i j)(_:D a b c d e f g h i j)(_:E a b c d e f g h i j)(_:F a b c d e f g h i j)(_:G a b c d e f g h i j)(_:H a b c d e f g h i j)(_:I a b c d e f g h i j)
inductive Rj{a b c d e f g h i j:Type}(A B C D E F G H I J K:a->b->c->d->e->f->g->h->i->j->Prop):Prop|mk(a:a)(b:b)(c:c)(d:d)(e:e)(f:f)(g:g)(h:h)(i:i)(j:j)(_:A a b c d e f g h i j)(_:B a b c d e f g h i j)(_:C a b c d e f g h i j)(_:D a b c d e f g h i j)(_:E a b c d e f g h i j)(_:F a b c d e f g h i j)(_:G a b c d e f g h i j)(_:H a b c d e f g h i j)(_:I a b c d e f g h i j)(_:J a b c d e f g h i j)(_:K a b c d e f g h i j)
inductive VW{a b c d e f g h i j k:Type}(A B C D E F:a->b->c->d->e->f->g->h->i->j->k->Prop):Prop|mk(a:a)(b:b)(c:c)(d:d)(e:e)(f:f)(g:g)(h:h)(i:i)(j:j)(k:k)(_:A a b c d e f g h i j k)(_:B a b c d e f g h i j k)(_:C a b c d e f g h i j k)(_:D a b c d e f g h i j k)(_:E a b c d e f g h i j k)(_:F a b c d e f g h i j k)
inductive VX{a b c d e f g h i j k l:Type}(A B C D E F G H I:a->b->c->d->e->f->g->h->i->j->k->l->Prop):Prop|mk(a:a)(b:b)(c:c)(d:d)(e:e)(f:f)(g:g)(h:h)(i:i)(j:j)(k:k)(l:l)(_:A a b c d e f g h i j k l)(_:B a b c d e f g h i j k l)(_:C a b c d e f g h i j k l)(_:D a b c d e f g h i j k l)(_:E a b c d e f g h i j k l)(_:F a b c d e f g h i j k l)(_:G a b c d e f g h i j k l)(_:H a b c d e f g h i j k l)(_:I a b c d e f g h i j k l)
inductive VY{a b c d e f g h i j k l m:Type}(A B C D E F G H:a->b->c->d->e->f->g->h->i->j->k->l->m->Prop):Prop|mk(a:a)(b:b)(c:c)(d:d)(e:e)(f:f)(g:g)(h:h)(i:i)(j:j)(k:k)(l:l)(m:m)(_:A a b c d e f g h i j k l m)(_:B a b c d e f g h i j k l m)(_:C a b c d e f g h i j k l m)(_:D a b c d e f g h i j k l m)(_:E a b c d e f g h i j k l m)(_:F a b c d e f g h i j k l m)(_:G a b c d e f g h i j k l m)(_:H a b c d e f g h i j k l m)
inductive VZ{a b c d e f g h i j k l m:Type}(A B C D E F G H I:a->b->c->d->e->f->g->h->i->j->k->l->m->Prop):Prop|mk(a:a)(b:b)(c:c)(d:d)(e:e)(f:f)(g:g)(h:h)(i:i)(j:j)(k:k)(l:l)(m:m)(_:A a b c d e f g h i j k l m)(_:B a b c d e f g h i j k l m)(_:C a b c d e f g h i j k l m)(_:D a b c d e f g h i j k l m)(_:E a b c d e f g h i j k l m)(_:F a b c d e f g h i j k l m)(_:G a b c d e f g h i j k l m)(_:H a b c d e f g h i j k l m)(_:I a b c d e f g h i j k l m)
inductive Va{a b c d e f g h i j k l m n:Type}(A B C D E F G H I J K L:a->b->c->d->e->f->g->h->i->j->k->l->m->n->Prop):Prop|mk(a:a)(b:b)(c:c)(d:d)(e:e)(f:f)(g:g)(h:h)(i:i)(j:j)(k:k)(l:l)(m:m)(n:n)(_:A a b c d e f g h i j k l m n)(_:B a b c d e f g h i j k l m n)(_:C a b c d e f g h i j k l m n)(_:D a b c d e f g h i j k l m n)(_:E a b c d e f g h i j k l m n)(_:F a b c d e f g h i j k l m n)(_:G a b c d e f g h i j k l m n)(_:H a b c d e f g h i j k l m n)(_:I a b c d e f g h i j k l m n)(_:J a b c d e f g h i j k l m n)(_:K a b c d e f g h i j k l m n)(_:L a b c d e f g h i j k l m n)
inductive Vb{a b c d e f g h i j k l m n o:Type}(A B C D E F G H I:a->b->c->d->e->f->g->h->i->j->k->l->m->n->o->Prop):Prop|mk(a:a)(b:b)(c:c)(d:d)(e:e)(f:f)(g:g)(h:h)(i:i)(j:j)(k:k)(l:l)(m:m)(n:n)(o:o)(_:A a b c d e f g h i j k l m n o)(_:B a b c d e f g h i j k l m n o)(_:C a b c d e f g h i j k l m n o)(_:D a b c d e f g h i j k l m n o)(_:E a b c d e f g h i j k l m n o)(_:F a b c d e f g h i j k l m n o)(_:G a b c d e f g h i j k l m n o)(_:H a b c d e f g h i j k l m n o)(_:I a b c d e f g h i j k l m n o)
inductive Vc{a b c d e f g h i j k l m n o p:Type}(A B C D E F G H I J:a->b->c->d->e->f->g->h->i->j->k->l->m->n->o->p->Prop):Prop|mk(a:a)(b:b)(c:c)(d:d)(e:e)(f:f)(g:g)(h:h)(i:i)(j:j)(k:k)(l:l)(m:m)(n:n)(o:o)(p:p)(_:A a b c d e f g h i j k l m n o p)(_:B a b c d e f g h i j k l m n o p)(_:C a b c d e f g h i j k l m n o p)(_:D a b c d e f g h i j k l m n o p)(_:E a b c d e f g h i j k l m n o p)(_:F a b c d e f g h i j k l m n o p)(_:G a b c d e f g h i j k l m n o p)(_:H a b c d e f g h i j k l m n o p)(_:I a b c d e f g h i j k l m n o p)(_:J a b c d e f g h i j k l m n o p)
inductive Vd{a b c d e f g h i j k l m n o p q:Type}(A B C D E F G H I J K L M N O P:a->b->c->d->e->f->g->h->i->j->k->l->m->n->o->p->q->Prop):Prop|mk(a:a)(b:b)(c:c)(d:d)(e:e)(f:f)(g:g)(h:h)(i:i)(j:j)(k:k)(l:l)(m:m)(n:n)(o:o)(p:p)(q:q)(_:A a b c d e f g h i j k l m n o p q)(_:B a b c d e f g h i j k l m n o p q)(_:C a b c d e f g h i j k l m n o p q)(_:D a b c d e f g h i j k l m n o p q)(_:E a b c d e f g h i j k l m n o p q)(_:F a b c d e f g h i j k l m n o p q)(_:G a b c d e f g h i j k l m n o p q)(_:H a b c d e f g h i j k l m n o p q)(_:I a b c d e f g h i j k l m n o p q)(_:J a b c d e f g h i j k l m n o p q)(_:K a b c d e f g h i j k l m n o p q)(_:L a b c d e f g h i j k l m n o p q)(_:M a b c d e f g h i j k l m n o p q)(_:N a b c d e f g h i j k l m n o p q)(_:O a b c d e f g h i j k l m n o p q)(_:P a b c d e f g h i j k l m n o p q)
def P5(K:An):Ax:=λU H Q O=>∃(a:AB)(D:List Int),U=[.ref a]/\Bp K H a (D.map AD.int)/\D.length<=63/\∀J,Q (.bl AI) J
theorem fN(K:An)(H:AG)(a:AB)(ns:List Int)(J:ns.length<=63)(_:OJ H)(D:Bp K H a (ns.map AD.int)):P5 K [.ref a] H (λv O=>v=.bl AI) λO O O=>False:=⟨a,ns,rfl,D,J,λO=>rfl⟩
noncomputable abbrev R5:Nat:=16
noncomputable abbrev IH:AE:="abcdefghijklmnopqrstuvwxyz"
def JT(z:AE):Prop:=∀c∈z.cps.toList,97<=c/\c<123
theorem SI(z:AE):z.length=z.cps.toList.length:=by simp[ACG]
theorem Vz(a b:AE):(a++b).cps.toList=a.cps.toList++b.cps.toList:=by change(a.cps++b.cps).toList=_;simp
def Cp(z:AE):Prop:=JT z/\z.length<=12
theorem Cp.ok(h:Cp z):RF z=AI:=by unfold RF;rw[<-Array.all_toList,List.all_eq_true];intro c D;have:=h.1 c D;simp;show FQ (Bg this.2) (by decide)
theorem JT.aeo(J:JT a)(U:JT b):JT (a++b):=λc D=>by
 rw[Vz]at D;rcases CS.mp D with h|h;.show J c h
 .show U c h
theorem eR(J:0<=j)(U:j<=k)(Y:k<=(x.length:Int))(V:JT x):JT (Kl x AF (AA j))/\JT (Kl x (AA k) AF)/\((Kl x AF (AA j)).length:Int)=j/\((Kl x (AA k) AF).length:Int)=x.length-k:=by
 have e1:Kl x _ _=ACH x AF (AA j):=rfl;have W:Kl x (AA k) AF=ACH x _ _:=rfl;have Z:=SI x;rw[e1,W,StrLaws.sliceText_to ⟨J,Fh U Y⟩,StrLaws.sliceText_from ⟨Fh J U,by assumption⟩];show⟨λc D=>V c (Z7 (xA D)),λc D=>V c (Z7 (xA D)),?_,?_⟩
 . rw[SI];rw[Em,MR];lia
 . rw[SI];rw[Em,MR];omega
theorem fO(m:Int):∃c,Cw IH.cps.toList (m%26)=AA c/\JT ⟨#[c]⟩:=by
 lk;obtain⟨v,V,U⟩:=Hi IH.cps.toList 26 (by decide+kernel) (by decide) m;k_in;have D:∀c∈IH.cps.toList,97<=c/\c<123:=by decide+kernel
 show⟨v,V,λc J=>?_⟩;have e:=by simpa using J
 rw[e];show D v U
def kH(K:An):Ax:=λJ H Q O=>FK (λ(a:AB)(D:List Int)(k:Int)=>J=[.ref a,.int k]) (λa D O=>Bp K H a (D.map AD.int)) (λO O k=>0<=k) (λO D O=>D.length<=63) (λO O O=>∀r:Int,Q (.int r) H)
theorem P0{K:An}(T:BA K Y Z):T.mn.Ok A3 P w Y base 1 (kH K):=by
 show T.mn.ok λB O O O O O A H C Q E h=>?_;lk;obtain⟨a,J,i,rfl,U,W,z,k⟩:=h;k_in;show⟨_,(Ae (B0 (Bj Y7 (AQ 1) (CL (Jg) (by rfl) T.iq GY (Y9 (AQ 0) E3)) (Ba _)) (Aa (Ay (Bc (Dh) (AQ 0) (AQ 1) (λO O=>rfl)))) CQ) (Aa (Ay AO))),?_⟩;show⟨_,rfl,_,rfl,a,_,rfl,.inl U,_,_,rfl,rfl,_,rfl,IW (λe=>?_) λe=>k 0⟩;have D:i.toNat<J.length:=by simp_all
 show⟨_,rfl,_,rfl,a,_,_,.int J[i.toNat],rfl,rfl,U,?_,k _⟩;have q:=Ao (xs:=J.map AD.int) (by rw[Bl,Cd D];rfl);rw[AAp W]at q;show q
def lV(K:An):Ax:=λJ H Q O=>FK (λ(a:AB)(D:List Int)(k:Int)=>J=[.ref a,.int k]) (λa D O=>Bp K H a (D.map AD.int)) (λO D O=>D.length<=63) (λO O k=>0<=k) (λO O O=>∀r:Int,0<=r->Q (.int r) H)
theorem SR{K:An}(T:BA K Z A):T.oh.Ok A3 P w Z base 1 (lV K):=by
 show T.oh.ok λz O O O O O C H F Q E h=>?_;lk;obtain⟨a,J,k,rfl,D,B,Y,q⟩:=h;k_in;show⟨_,(Ae (B0 (Bj Cs (CL (Jg) (by rfl) T.iq GY (Y9 (AQ 0) E3)) AO (Ba _)) (Aa (Ay (AW Fv AO (AQ 1)))) CQ) (Ae (Bq (i:=2) z rfl (BX rfl) (AW E2 (AW E2 (Bc (Dh) (AQ 0) (AW CG (AQ 1) (CL (Jg) (by rfl) T.iq GY (Y9 (AQ 0) E3))) (λO O=>rfl)) (AW Fv AO (AW DK (AQ 1) (CL (Jg) (by rfl) T.iq GY (Y9 (AQ 0) E3))))) (AW Fv AO (AQ 1)))) (Aa (Ay (AW CG (AW Fv (AQ 2) AO) AO))))),?_⟩;have e0:((J.map AD.int).length)=J.length:=by rw[As]
 show⟨_,rfl,a,_,rfl,.inl D,rfl,_,rfl,D6 (λe=>?_) λe=>?_⟩;.show⟨_,rfl,_,_,rfl,rfl,.inl ⟨by decide,by decide⟩,q _ ((Int.le_mul_iff_le_right (by decide)).mpr Y)⟩
 . have e:=Int.natCast_ne_zero_iff_pos.mp e;lk;obtain⟨v,W,U⟩:=Hi _ _ rfl (dU.mpr e) k;obtain⟨n,_,rfl⟩:=A7.mp U;k_in;show⟨_,rfl,_,rfl,_,rfl,a,_,rfl,.inl D,_,_,rfl,rfl,(by show dU.mpr e),a,_,_,_,rfl,rfl,D,W,?_⟩;show⟨_,rfl,_,rfl,a,_,rfl,.inl D,_,_,rfl,rfl,⟨dU.mpr e,by lia⟩,_,_,rfl,rfl,.inl ⟨by decide,by decide⟩,_,_,rfl,rfl,_,rfl,_,_,rfl,rfl,.inl ⟨by decide,by decide⟩,_,_,rfl,rfl,?_⟩;show⟨_,rfl,_,_,rfl,rfl,.inr ⟨by decide,by decide⟩,_,_,rfl,rfl,(by decide:(0:Int)<2147483647),q _ (Fz _ (by decide))⟩
noncomputable def N6(m:Int):Nat:=97+(m%26).toNat
theorem fP(m:Int):Cw IH.cps.toList (m%26)=AA (N6 m):=by
 have D:∀r:Fin 26,Cw IH.cps.toList (r.val)=AA (97+r.val):=by decide+kernel
 have J:=Fz m (show(26)≠0 by decide);have U:=HP m (show(0)<26 by decide);have h:=D ⟨(m%26).toNat,by simp_all⟩;have e:=AAp J;rw[show((⟨(m%26).toNat,_⟩:Fin 26).val:Int)=m%26 from e]at h;show h
theorem eI(m:Int):JT ⟨#[N6 m]⟩:=λc D=>by
 have e:=by simpa using D
 rw[e];unfold N6;lia
noncomputable def Ml(u v:AE)(c:Int)(k:Nat):AE:=u++⟨#[N6 (c+3*(k:Int))]⟩++v
theorem gI(hi:i<12)(V:j<12)(e:Ml u v c i=Ml u v c j):i=j:=by
 have e1:=AEG (λz:AE=>z.cps.toList) e;unfold Ml at e1;simp only[Vz]at e1;have D:=List.append_cancel_right e1;have J:=List.append_cancel_left D;have U:=by simpa using J
 unfold N6 at U;omega
theorem gJ(u v:AE)(c:Int)(h:n<=12):((FP n).map (Ml u v c)).Nodup:=by rw[AAq,G8];show ADD (λ{a b}D J U e=>?_) AA8;rw[Z8]at D J;show U (gI (BK D h) (BK J h) e)
def lR(K:An):Ax:=λY H Q O=>QR (λ(a:AB)(D:List Int)(W m:Int)=>Y=[.ref a,.int W,.int m]) (λa D O O=>Bp K H a (D.map AD.int)) (λO D O O=>D.length<=63) (λO O W O=>0<=W) (λO O O m=>0<=m) (λO O O m=>m<=12) (λO O O m=>∀l U(J:List AE),Aj H U->H l=AF->U l=AA (.lst (J.map AD.str))->(J.length:Int)=m->J.Nodup->(∀z∈J,Cp z)->Q (.ref l) U)
theorem Wx{K:An}{ad:Bh}(T:BA K s ad):T.qk.Ok A3 P w s base 2 (lR K):=by
  show T.qk.ok λD O0 O0 O0 O0 O0 q H vs Q E h=>?_;lk;obtain⟨a,t,f,m,rfl,g,p,R,d,e,k⟩:=h;k_in;show⟨_,(Ae (Bq (i:=3) D rfl (BX rfl) C7) (Ae (Bq (i:=4) D rfl (BX rfl) (A5 (SR T) q (Y9 (AQ 0) (Y9 (AQ 1) E3)))) (Ae (Bq (i:=5) D rfl (BX rfl) (AW E2 AO (AW CG (AW DK (AQ 4) AO) AO))) (Ae (Bq (i:=6) D rfl (BX rfl) C7) (Ae (DQ Dc rfl (NR (by rfl) T.js (Y9 (AW E2 AO (AW CG (AQ 4) AO)) E3)) (G6 (i:=7) D rfl (BX rfl)) (Aa (Bq (i:=6) D rfl (BX rfl) (AW T5 (AQ 6) (Bc Yi (AQ 3) (AW CG (AW E2 (AW DK (AQ 4) AO) (AW Fv (AQ 7) (AQ 5))) AO) (λO0 O0=>rfl)))))) (Ae (Bq (i:=8) D rfl (BX rfl) (AW CG (AW DK (AQ 4) AO) (CL oP (by rfl) T.iq GY (Y9 (AQ 6) E3)))) (Ae (Bq (i:=9) D rfl (BX rfl) (DB E3)) (Ae (DQ Dc rfl (NR (by rfl) T.js (Y9 (AQ 2) E3)) (G6 (i:=10) D rfl (BX rfl)) (Ae (Bq (i:=11) D rfl (BX rfl) (Bc Yi (AQ 3) (AW CG (AW E2 (AW DK (AQ 4) AO) (AW Fv AO (AQ 10))) AO) (λO0 O0=>rfl))) (Aa (EU (Ic (K:=K) Le Uz yI Tv (AQ 9) (Y9 (AW T5 (AW T5 (G5 ZY (AQ 6) Ih (GU (AQ 8))) (AQ 11)) (G5 ZY (AQ 6) (GU (AW E2 (AQ 8) AO)) Ih)) E3)))))) (Aa (Ay (AQ 9))))))))))),?_⟩;have sz:Az=16777216:=D8;show⟨_,rfl,_,rfl,a,t,_,rfl,g,p,R,λn n0=>?_⟩;show⟨_,rfl,_,_,rfl,rfl,⟨by decide,by decide⟩,_,_,rfl,rfl,(by decide:(0:Int)<25),_,_,rfl,rfl,?_⟩;have J:0<=n%12/\n%12<12:=⟨Fz _ (by decide),HP _ (by decide)⟩;have F:0<=n/312%25/\n/312%25<25:=⟨Fz _ (by decide),HP _ (by decide)⟩;show⟨_,rfl,_,_,rfl,rfl,(by decide:(0:Int)<12),_,_,rfl,rfl,_,rfl,Int.le_add_of_sub_left_le (Fh (by decide) J.1),AAW (Pf J.2 (by decide)),?_⟩;show OU (λj C L=>L=H/\∃(O:Option AD)(z:AE),C=[AA (.ref a),AA (.int f),AA (.int m),AA (.str IH),AA (.int n),AA (.int (1+n/312%25)),AA (.str z),O,AF,AF,AF,AF]/\z.length=j/\JT z) ⟨rfl,AF,"",rfl,rfl,λc o=>by cases o⟩ ?_ ?_
  . intro j C X hj U;lk;obtain⟨rfl,o8,z,rfl,G,Z⟩:=U;k_in;rw[VJ];lk;obtain⟨ch,W,N⟩:=fO (n/12+(j:Int)*(1+n/312%25));k_in;show⟨_,rfl,_,rfl,_,rfl,_,_,rfl,rfl,⟨by decide,by decide⟩,_,rfl,_,rfl,_,_,rfl,rfl,.inr ⟨VH (IE (by decide) F.1),AAW (Pf F.2 (by decide))⟩,_,_,rfl,rfl,_,_,rfl,rfl,(by decide:(0:Int)<26),_,_,_,rfl,rfl,by decide+kernel,W,_,_,rfl,rfl,?_,rfl,_,_,rfl,?_,Z.aeo N⟩
    . change z.length+1<=Az;lia
    .rw[bO,G];rfl
  . intro C X U;lk;obtain⟨rfl,O,z,rfl,G,Z⟩:=U;k_in;have I:(z.length:Int)=1+n%12:=by lia
    show⟨_,rfl,_,_,rfl,rfl,⟨by decide,by decide⟩,_,rfl,z,rfl,by grind,_,_,rfl,rfl,(by change(0:Int)<(z.length:Int);show AEN (VH J.1) I.symm),?_⟩;have b:0<=n/7800%(z.length:Int)/\n/7800%(z.length:Int)<(z.length:Int):=⟨Fz _ (by lia),HP _ (AEN (VH J.1) I.symm)⟩;lk;obtain⟨u,v,p3,p4⟩:=eR (x:=z) (j:=n/7800%(z.length:Int)) (k:=n/7800%(z.length:Int)+1) b.1 (Pe (by decide)) b.2 Z;k_in;show⟨BZ _,λl Y=>⟨_,rfl,_,rfl,Fh (by decide) d,Ga e (by decide),?_⟩⟩;show OU (λi C L=>Ei (λ(A B:Option AD)=>C=[AA (.ref a),AA (.int f),AA (.int m),AA (.str IH),AA (.int n),AA (.int (1+n/312%25)),AA (.str z),O,AA (.int (n/7800%(z.length:Int))),AA (.ref l),A,B]) (λO0 O0=>Aj X L) (λO0 O0=>L l=AA (.lst (((FP i).map (Ml (Kl z AF (AA (n/7800%(z.length:Int)))) (Kl z (AA (n/7800%(z.length:Int)+1)) AF) (n/93600))).map AD.str)))) ⟨AF,AF,rfl,(Bz _).ik Y,AZ⟩ ?_ ?_
    . intro i C S hi U;lk;obtain⟨A,B,rfl,s1,M⟩:=U;k_in;rw[VJ];have W:=fP (n/93600+3*(i:Int));show⟨_,rfl,_,rfl,_,_,rfl,rfl,⟨by decide,by decide⟩,_,rfl,_,_,rfl,rfl,.inl ⟨by decide,by decide⟩,_,_,rfl,rfl,_,_,rfl,rfl,(by decide:(0:Int)<26),_,_,_,rfl,rfl,by decide+kernel,W,?_⟩;show⟨_,rfl,.inl ⟨rfl,_,Ab M⟩,_,rfl,_,rfl,_,rfl,z,rfl,by grind,_,rfl,_,_,rfl,rfl,?_,_,rfl,_,rfl,_,_,rfl,rfl,_,rfl,z,rfl,by grind,_,_,rfl,rfl,?_,l,_,_,rfl,rfl,M,by rw[As,As,Oq];lia,?_⟩
      . change(Kl z AF (AA (n/7800%(z.length:Int)))).length+1<=Az;grind
      . rw[bO];change(Kl z AF (AA (n/7800%(z.length:Int)))).length+1+_<=Az;lia
      . show⟨_,_,rfl,s1.wk Y,?_⟩;rw[AZ,aC,Ce,Ce];rfl
    . intro C S U;lk;obtain⟨A,B,rfl,s1,M⟩:=U;k_in;show⟨_,rfl,k l S _ s1 Y M ?_ (gJ _ _ _ (Ra.mpr e)) λy r=>?_⟩;.rw[As,Oq];show Int.natCast_toNat_eq_self.mpr d
      . lk;obtain⟨i,_,rfl⟩:=A7.mp r;k_in;show⟨(u.aeo (eI _)).aeo v,?_⟩;unfold Ml;rw[bO,bO];change _+1+_<=12;lia
abbrev AN:=Int×AE×Int
noncomputable def Gx(i:AN):List AL:=[.inl i.1,.inl i.2.2]
noncomputable def Kw(i:AN):List AL:=[.inr i.2.1,.inl i.1,.inl i.2.2]
noncomputable def D3(i:AN):List AL:=[.inl i.1,.inr i.2.1,.inl i.2.2]
def Rc(m:Nat)(H:AG)(x:AD)(D:List AL):Prop:=∃a J,x=.ref a/\H a=AA (.tup (D.map Ar++J))/\(J=[]\/m<=D.length)
theorem P4(h:CD H xs kss):BF (Rc m H) xs kss:=Hm (λ_ _⟨a,e,q⟩=>⟨a,[],e,by rw[Ea];show q,.inl rfl⟩) h
def kC:Ax:=λZ H Q O=>TJ (λ(r Y:AB)(W:List AD)(D:List (List AL))(J:List AL)=>Z=[.ref r,.ref Y]) (λr O W O O=>H r=AA (.lst W)) (λO O W D J=>BF (Rc J.length H) W D) (λO Y O O J=>H Y=AA (.tup (J.map Ar))) (λO O O D J=>(∀U∈D,∀(i:Nat)k m,U[i]?=AA k->J[i]?=AA m->CW k=CW m)) (λO O O D O=>C5 D) (λO O O D J=>∀n:Nat,n<=D.length->(∀(i:Nat)U,i<n->D[i]?=AA U->BO U J=AI)->(∀(i:Nat)U,n<=i->D[i]?=AA U->BO U J=AM)->Q (.int (n:Int)) H)
theorem jZ(h:C5 kss){i j:Nat}(J:i<=j)(U:kss[i]?=AA a)(D:kss[j]?=AA b):BO b a=AM:=by
 by_cases e:i=j;. subst e;rw[U]at D;cases D;show OV _
 . lk;obtain⟨W,e1⟩:=BH.mp U;obtain⟨Y,V⟩:=BH.mp D;k_in;have:=Gm.mp h i j W Y (Cy J e);rw[e1,V]at this;show this
theorem Xe(h:C5 kss){i j:Nat}(D:i<=j)(U:kss[i]?=AA a)(V:kss[j]?=AA b)(W:BO b J=AI):BO a J=AI:=ABU (show G4.kle a b from jZ h D U V) W
theorem Pz{K:An}{ad:Bh}(T:BA K mg ad):T.aaa.Ok A3 P w mg base 1 kC:=by
  show T.aaa.ok λB O0 O0 O0 O0 O0 hr H vs Q E h=>?_;lk;obtain⟨r,g,n,U,C,rfl,X,hw,t,hs,m,k⟩:=h;k_in;show⟨_,(Ae (Bw 2 B AO) (Ae (Bw 3 B (CL (LI (K:=K)) (by rfl) T.iq GY (Y9 (AH 0) E3))) (Ae (tW Dc (Bj UA (AH 2) (AH 3) (Ba _)) (Ae (Bw 4 B (AW MJ (AW GF (AH 2) (AH 3)) AO)) (Aa (B0 (Bj (sS (K:=K) hr.zu) (JF K (AH 0) (AH 4)) (AH 1) (Ba _)) (Aa (Bw 2 B (AW GF (AH 4) AO))) (Aa (Bw 3 B (AH 4))))))) (Aa (Ay (AH 2)))))),?_⟩;obtain⟨O,F⟩:=CO hw;show⟨_,.inl (Ab X),?_⟩;show wL (λZ S=>S=H/\∃(J D:Nat)(l:Option AD),Z=[AA (.ref r),AA (.ref g),AA (.int (J:Int)),AA (.int (D:Int)),l]/\J<=D/\D<=U.length/\(∀(i:Nat)W,i<J->U[i]?=AA W->BO W C=AI)/\(∀(i:Nat)W,D<=i->U[i]?=AA W->BO W C=AM)) (λZ O0=>match Z with|[_,_,AA (.int J),AA (.int D),_]=>(D-J).toNat|_=>0) ⟨rfl,0,U.length,AF,by rw[O];rfl,BZ _,Ag _,λi W h=>by simp_all,λi W h e=>by have:=(BH.mp e).1;show absurd this (Um.mpr h)⟩ ?_ ?_
  . intro Z S hI;lk;obtain⟨rfl,J,D,l,rfl,y,c,d,f⟩:=hI;k_in;show⟨_,rfl,IW (λe=>?_) λe=>?_⟩
    . have A:((J:Int)+(D:Int))/2=(((J+D)/2:Nat):Int):=by rfl
      have N:(J+D)/2<U.length:=by lia
      have L:=Cd N;have M:=Cd (show(J+D)/2<n.length by simp_all);lk;obtain⟨a,zs,s,x,hz⟩:=F _ _ _ M L;k_in;rw[s]at M;have I:Cw n (((J:Int)+(D:Int))/2)=AA (.ref a):=by rw[A];show Ao M
      show⟨⟨by decide,by decide⟩,_,_,Ab X,I,a,g,U[(J+D)/2],zs,C,rfl,rfl,Aq x,Aq t,hz,hs _ (wZ N),_,rfl,KR (λb=>?_) λb=>?_⟩
      . show⟨⟨rfl,(J+D)/2+1,D,_,by rfl,by lia,c,λi W Y G=>Xe m (Dl Y) G L b,f⟩,?_⟩;change((D:Int)-(((J:Int)+(D:Int))/2+1)).toNat<((D:Int)-(J:Int)).toNat;lia
      . show⟨⟨rfl,J,(J+D)/2,_,by rw[<-A];rfl,by lia,Bg N,d,λi W Y G=>?_⟩,?_⟩;.cases z:BO W C with|false=>rfl|true=>rw[Xe m Y L G z]at b;cases b
        . change((((J:Int)+(D:Int))/2)-(J:Int)).toNat<((D:Int)-(J:Int)).toNat;lia
    . have e:J=D:=EJ y (dS.mp (Lk e));subst e;show k J c d f
  . intro Z H1 R R' hR q;lk;obtain⟨v,e1,q1⟩:=T3 q;obtain⟨u,o,q2⟩:=T3 q1;obtain⟨i,rfl,q3⟩:=Hj q2;obtain⟨j,rfl,b,p,q4⟩:=Hj q3;k_in;change Qf Z[2]? λv=>Qf Z[3]? _;rw[e1,o];show⟨b,p,hR _ _ q4⟩
def Lm(ex:List AB)(H:AG)(L:List AN)(q:AL×AD):Prop:=∃(z:AE)(r:AB)(J:List AD)(D:List (List AL)),q=(.inr z,.ref r)/\r∉ex/\H r=AA (.lst J)/\CD H J D/\D≠[]/\C5 D/\D.Perm ((L.filter λi=>Ac (i.2.1=z)).map Gx)
section
variable{ad:Bh}
structure Cm(ad:Bh)(ex:List AB)(H:AG)(x d:AB)(L:List AN):Prop where av:∃dx,H x=AA (.ins ad.jg dx [("rows",.ref d)])aw:∃kvs,H d=AA (.dK kvs)/\(kvs.map (·.1)).Nodup/\kvs.length<=L.length/\(∀q∈kvs,Lm ex H L q)/\∀i∈L,(Bx i.2.1:AL)∈kvs.map (·.1)
end
theorem Lm.ae(h:Lm ex H L q)(W:∀b xs,b∉ex->H b=AA (.lst xs)->H' b=AA (.lst xs))(t:Bd H H'):Lm ex H' L q:=by lk;obtain⟨z,r,xs,D,e,J,U,hw,r1⟩:=h;k_in;show⟨z,r,xs,D,e,J,W _ _ J U,hw.ae t,r1⟩
theorem Cm.ae(h:Cm J ex H x d L)(z:∀C D U,H x=AA (.ins C D U)->H' x=AA (.ins C D U))(Y:∀kvs,H d=AA (.dK kvs)->H' d=AA (.dK kvs))(Z:∀b xs,b∉ex->H b=AA (.lst xs)->H' b=AA (.lst xs))(t:Bd H H'):Cm J ex H' x d L:=by lk;obtain⟨⟨D,e⟩,kvs,V,n,l,q,c⟩:=h;k_in;show⟨⟨D,z _ _ _ e⟩,kvs,Y _ V,n,l,λp W=>(q p W).ae Z t,c⟩
theorem Cm.ah(h:Cm D ex H x d L)(s:Aj H H'):Cm D ex H' x d L:=h.ae (λC U V e=>s _ _ e) (λJ e=>s _ _ e) (λb W O e=>s _ _ e) s.tp
theorem Cm.yx(h:Cm U ex H x d L)(s:BR J H H')(e:H J=AA (.dK kvs))(W:d≠J):Cm U ex H' x d L:=h.ae (λC Z A D=>s _ _ (λz=>by rw[z,e]at D;cases D) D) (λkvs D=>s _ _ W D) (λb Y O D=>s _ _ (λz=>by rw[z,e]at D;cases D) D) (s.tp e λY=>by intro z;cases z)
theorem Cm.xj(h:Cm J ex H x d L)(e:H c=AA (.lst xs))(W:c∈ex):Cm J ex (AK H c o) x d L:=h.ae (λC Z A D=>by rw[AU (λz=>by rw[z,e]at D;cases D)];show D) (λY D=>by rw[AU (λz=>by rw[z,e]at D;cases D)];show D) (λb xs U D=>by rw[AU (λz=>U (by rw[z];show W))];show D) ((Ge H).ik e λxs=>by intro z;cases z)
theorem Cm.aav(h:Cm W ex H x d L)(z:AE)(e:H d=AA (.dK kvs)):(Br kvs (.inr z)=AF/\(L.filter λi=>Ac (i.2.1=z))=[])\/∃r xs kss,Br kvs (.inr z)=AA (.ref r)/\r∉ex/\H r=AA (.lst xs)/\CD H xs kss/\kss≠[]/\C5 kss/\kss.Perm ((L.filter λi=>Ac (i.2.1=z)).map Gx):=by lk;obtain⟨_,U,D,n,l,q,c⟩:=h;rw[e]at D;cases D;k_in;cases J:Br kvs _ with|none=>show .inl ⟨rfl,MP.mpr λi Z A=>?_⟩;have:=c i Z;rw[AEI A]at this;show Zv J this|some v=>lk;obtain⟨B,r,xs,kss,Y,r1⟩:=q _ (JG J);cases Y;k_in;show .inr ⟨r,xs,kss,rfl,r1⟩
theorem XN{L:List AN}{kss:List (List AL)}(p:kss.Perm ((L.filter λi=>Ac (i.2.1=z)).map Gx)):kss.length<=L.length:=by rw[p.length_eq,As];show Fc _ _
theorem Ly{L:List AN}{kss:List (List AL)}(h:kss.Perm ((L.filter p).map Gx)):∀D∈kss,∃t a,D=[.inl t,.inl a]:=λD J=>by lk;obtain⟨i,_,rfl⟩:=A7.mp (h.mem_iff.mp J);k_in;show⟨_,_,rfl⟩
theorem P1{kss:List (List AL)}{J:List AL}(h:∀D∈kss,∃t a,D=[.inl t,.inl a])(W:∀m∈J,CW m=AI):∀D∈kss,∀(i:Nat)k m,D[i]?=AA k->J[i]?=AA m->CW k=CW m:=λD V i k m e1 U=>by lk;obtain⟨t,a,rfl⟩:=h D V;k_in;rw[W m (CZ U)];have:=CZ e1;simp at this;rcases this with rfl|rfl<;>rfl
theorem R3(xs:List AD)(n:Nat)(h:n<=xs.length):GR xs AF (AA (n:Int))=xs.take n:=by
 unfold GR;have e1:B9 xs.length 0 AF=0:=rfl;have D:B9 xs.length xs.length (AA (n))=n:=by change(if(n:Int)<0 then((n:Int)+(xs.length)).toNat else DU _ _)=n;rw[AED (AAk _)];simp_all
 rw[D];rfl
theorem Pn(xs:List AD)(n:Nat)(h:n<=xs.length):GR xs (AA (n:Int)) AF=xs.drop n:=by
 unfold GR;have e1:B9 xs.length _ AF=xs.length:=rfl;have D:B9 xs.length 0 (AA (n))=n:=by change(if(n)<0 then((n)+(xs.length:Int)).toNat else DU _ _)=n;lia
 rw[D];show Dk (by rw[MR];show Ag _)
theorem eQ(xs:List AD)(n m:Nat)(h:n<=xs.length)(J:m<=xs.length):GR xs (AA (n:Int)) (AA (m:Int))=(xs.drop n).take (m-n):=by
 unfold GR;have e1:∀d,B9 xs.length d (AA (m))=m:=λd=>by change(if(m)<0 then((m)+(xs.length:Int)).toNat else DU _ _)=m;lia
 have D:∀d,B9 _ d (AA (n))=n:=λd=>by change(if(n)<0 then((n)+(xs.length:Int)).toNat else DU _ xs.length)=n;lia
 rw[e1,D]
theorem jT(sd:C5 kss)(z:∀(i:Nat)D,i<n->kss[i]?=AA D->BO D U=AI)(A:∀(i:Nat)D,n<=i->kss[i]?=AA D->BO D U=AM):C5 (kss.take n++[U]++kss.drop n):=by
  have B:∀D∈kss.take n,BO D U=AI:=λD Y=>by obtain⟨i,W,e⟩:=Gk.mp Y;rw[Em]at W;show z i D (BK W (Kf _ _)) (by rw[<-e,Q3];show Cd _)
  have Z:∀D∈kss.drop n,BO D U=AM:=λD Y=>by obtain⟨i,W,e⟩:=Gk.mp Y;show A (n+i) D (by simp) (by rw[<-e,List.getElem_drop];show Cd _)
  have C:C5 (kss.take n++kss.drop n):=by rw[Q6];show sd
  lk;obtain⟨s1,s2,s3⟩:=MS.mp C;k_in;show MS.mpr ⟨MS.mpr ⟨s1,aB _ _,λa J b V=>?_⟩,s2,λa J b V=>?_⟩
  . rw[BV.mp V];show Jq (O:=G4) (B a J)
  . rcases CS.mp J with J|J;.show s3 a J b V
    . rw[BV.mp J];show Z b V
def mD(U:Bh):Ax:=λV H Q O=>TL (λ(D:List AB)(x d p:AB)(L:List AN)(i:AN)=>V=[.ref x,.ref p]) (λD x d O L O=>Cm U D H x d L) (λD O O O O O=>(∀c∈D,∃o,H c=AA o)) (λO O O p O i=>H p=AA (.tup ((D3 i).map Ar))) (λO O O O L O=>L.length<=1000) (λD x d O L i=>∀J,BR d H J->Cm U D J x d (L++[i])->Q .non J)
theorem V8{L:List AN}{i:AN}:((L++[i]).filter λj=>Ac (j.2.1=z))=if i.2.1=z then(L.filter λj=>Ac (j.2.1=z))++[i]else L.filter λj=>Ac (j.2.1=z):=by
 rw[GG];by_cases e:i.2.1=z;.rw[AEE e,GV,AEE (AEF e)];rfl
 . rw[AED e,GV,AED (by simpa using e)];simp
theorem iS{K:An}{ad:Bh}(T:BA K mg ad):T.vp.Ok A3 P w mg base 2 (mD ad):=by
  show T.vp.ok λnd O0 O0 O0 O0 O0 hr H vs Q E h=>?_;lk;obtain⟨ex,x,d,p,L,⟨t,z,a⟩,rfl,sr,hex,S,hL,k⟩:=h;k_in;show⟨_,(Ae (Bw 2 nd (Cn (Y9 (BG K (AH 1) AO) (Y9 (BG K (AH 1) AO) E3)))) (Ae (Bw 3 nd (Ql hr.u1 (BC (AH 0) rfl) (BG K (AH 1) AO) (DB E3) ⟨rfl,rfl,rfl,rfl⟩)) (Ae (Bw 4 nd (A5 (Pz T) hr (Y9 (AH 3) (Y9 (AH 2) E3)))) (Aa (LR hr.u1 (BC (AH 0) rfl) (BG K (AH 1) AO) (AW Gg (AW Gg (G5 (KY (K:=K)) (AH 3) Ih (GU (AH 4))) (DB (Y9 (AH 2) E3))) (G5 (KY (K:=K)) (AH 3) (GU (AH 4)) Ih)) rfl))))),?_⟩;have sz:Az=16777216:=D8;have i0:∀{a b c:AD},Cw [a,b,c] 0=AA a:=Ao (j:=0) rfl;have i1:∀{a b c:AD},Cw [a,b,c] 1=AA b:=Ao (j:=1) rfl;have i2:∀{a b c:AD},Cw [a,b,c] 2=AA c:=Ao (j:=2) rfl;have S:H p=AA (.tup [.int t,.str z,.int a]):=S;show⟨_,_,Aq S,i0,_,_,Aq S,i2,CY rfl,λU hpp=>?_⟩;have s1:=Bb (o:=.tup [.int t,.int a]) hpp;have I:(AK H U (.tup [.int t,.int a])) U=AA (.tup ([.inl t,.inl a].map Ar)):=AZ;generalize AK H U (.tup [.int t,.int a])=H1 at s1 I⊢;have O:=sr.ah s1;lk;obtain⟨dx,eo⟩:=O.av;obtain⟨B,ed,nd',hk,hq,hc⟩:=id O.aw;k_in;have isd:Mv H1 d:=.inl ⟨B,.inl ed⟩;show⟨_,⟨eo,T.fi,T.dk,rfl⟩,d,rfl,isd,_,_,Aq (s1 _ _ S),i1,BZ _,λel hel=>?_⟩;show BQ (o:=.lst []) hel λH2 s2 eel=>?_;have sr2:=O.ah s2;have l:=s2 _ _ ed;lk;obtain⟨M,D,J,erw,s,hw,sd,pm⟩:∃(r:AB)(D:List AD)(J:List (List AL)),(Br B (.inr z)).getD (.ref el)=.ref r/\H2 r=AA (.lst D)/\CD H2 D J/\C5 J/\J.Perm ((L.filter λi=>Ac (i.2.1=z)).map Gx):=by
    rcases sr2.aav z l with⟨e1,e2⟩|⟨r,D,J,e1,_,s,hw,_,sd,pm⟩;.show⟨el,[],[],by rw[e1];rfl,eel,Ik _,.nil,by rw[e2];show .nil⟩
    .show⟨r,D,J,by rw[e1];rfl,s,hw,sd,pm⟩
  k_in;show⟨_,L6 (k:=Bx z) l,?_⟩;rw[erw];have hl:=XN pm;have hxl:=hw.fq;show⟨M,U,D,J,_,rfl,s,P4 hw,s2 _ _ I,P1 (Ly pm) (by intro m X;simp only[B6,Q5,AER]at X;rcases X with rfl|rfl<;>rfl),sd,λn hn b1 b2=>?_⟩;show⟨_,rfl,M,D,rfl,Ab s,λc1 hc1=>?_⟩;rw[R3 D n (by simp_all)];show BQ (o:=.lst (D.take n)) hc1 λH3 s3 ec1=>?_;show⟨CY rfl,λc2 hc2=>?_⟩;show BQ (o:=.lst [.ref U]) hc2 λH4 s4 ec2=>?_;show⟨c1,c2,_,_,rfl,rfl,s4 _ _ ec1,ec2,by rw[Em];simp;lia,λc3 hc3=>?_⟩;have s5:=Bb (o:=.lst (D.take n++[.ref U])) hc3;have g:(AK H4 c3 (.lst (D.take n++[.ref U]))) c3=AA (.lst (D.take n++[.ref U])):=AZ;generalize AK H4 c3 (.lst (D.take n++[.ref U]))=H5 at s5 g⊢;have N:=(s3.aa s4).aa s5;show⟨_,rfl,M,D,rfl,Ab (N _ _ s),λc4 hc4=>?_⟩;rw[Pn D n (by simp_all)];show BQ (o:=.lst (D.drop n)) hc4 λH6 s6 ec4=>?_;show⟨c3,c4,_,_,rfl,rfl,s6 _ _ g,ec4,by rw[Bs,Em,MR];simp;lia,λY u=>?_⟩;have s7:=Bb (o:=.lst (D.take n++[.ref U]++D.drop n)) u;have G:(AK H6 Y (.lst (D.take n++[.ref U]++D.drop n))) Y=AA (.lst (D.take n++[.ref U]++D.drop n)):=AZ;have C:=N.aa (s6.aa s7);have v:H6 Y=AF:=u;have nex:Y∉ex:=λX=>by obtain⟨o,ho⟩:=hex Y X;have:=((s1.aa s2).aa (N.aa s6)) _ _ ho;rw[v]at this;cases this
  generalize AK H6 Y (.lst (D.take n++[.ref U]++D.drop n))=R at s7 G C⊢;have W:=s2.aa C;have s07:=s1.aa W;have sr7:=sr2.ah C;obtain⟨dx7,A⟩:=sr7.av;have Z:=W _ _ ed;show⟨_,⟨A,T.fi,T.dk,rfl⟩,_,_,Aq (s07 _ _ S),i1,d,_,rfl,L7 (k:=Bx z) Z (by lia),?_⟩;have rw7:CD R (D.take n++[.ref U]++D.drop n) (J.take n++[[.inl t,.inl a]]++J.drop n):=by have h7:=hw.ae C.tp;show D9 (D9 (Oc n h7) (.cons ⟨U,rfl,W _ _ I⟩ .nil)) (NM n h7)
  have pm7:wM (J.take n++[([.inl t,.inl a]:List AL)]++J.drop n) (((L.filter λi:AN=>Ac (i.2.1=z))++[(t,z,a)]).map Gx):=by rw[Ce,E4];show AA9.trans ((Zz _ ?_).trans (List.perm_append_singleton (Gx (t,z,a)) _).symm);change(J.take n++J.drop n).Perm _;rw[Q6];show pm
  have nr:∀b F,R b=AA (.lst F)->b≠d:=λb F e f=>by rw[f,Z]at e;cases e
  show k _ ((s07.x d).ik) ⟨⟨dx7,by rw[AU (λf=>by rw[f,Z]at A;cases A)];show A⟩,_,AZ,OY nd',?_,λq hq'=>?_,λj y=>?_⟩
  . have:=Tr B (Bx z) (.ref Y);rw[Bs,AA2];show Af this (Gn.mpr hk)
  . have tp:Bd R (AK R d (.dK (Bk B (Bx z) (.ref Y)))):=(Ge R).ik Z λD=>by intro z;cases z
    rcases OX hq' with rfl|⟨X,hne⟩
    . show⟨z,Y,_,_,rfl,nex,by rw[AU (nr _ _ G)];show G,rw7.ae tp,by simp,jT sd b1 b2,?_⟩;rw[V8,AEE rfl];show pm7
    . lk;obtain⟨f,r',F,kss',rfl,h1,h2,h3,h4,h5,h6⟩:=(hq q X).ae (H':=R) (λb D O0 e=>W _ _ e) W.tp;k_in;show⟨f,r',F,kss',rfl,h1,by rw[AU (nr _ _ h2)];show h2,h3.ae tp,h4,h5,?_⟩;rw[V8,AED (λe=>hne (by change Bx f=_;rw[<-e]))];show h6
  . rw[QZ];rcases CS.mp y with y|y
    . have:=hc j y;split;.show this
      .show Ht _ this
    . rw[BV.mp y];split;.assumption
      .show Eb _ (BV.mpr rfl)
theorem gH(sd:C5 kss)(hi:∀D∈kss,∃t a,D=[.inl t,.inl a]){lo:Int}(V:∀(i:Nat)D,i<n->kss[i]?=AA D->BO D [.inl lo]=AI)(W:∀(i:Nat)D,n<=i->kss[i]?=AA D->BO D [.inl lo]=AM)(Y:∀(i:Nat)D,i<m->kss[i]?=AA D->BO D [.inl (J+1)]=AI)(Z:∀(i:Nat)D,m<=i->kss[i]?=AA D->BO D [.inl (J+1)]=AM):(kss.drop n).take (m-n)=kss.filter λD=>match D with|.inl t::_=>Ac (lo<=t/\t<=J)|_=>AM:=by
  have U:∀t a b:Int,BO [.inl t,.inl a] [.inl b]=Ac _:=λt a b=>by
    change(if(Co t)=Co b then AM else Ac _)=_;split;. rename_i e;have e:=JQ e;rw[e];show(AEH (dO b)).symm
    .rfl
  show OR λi D e=>?_;lk;obtain⟨t,a,rfl⟩:=hi D (CZ e);k_in;by_cases z:i<n
  . have:=V i _ z e;rw[U]at this;lia
  . have A:=W i _ (by simp_all) e;rw[U]at A;by_cases B:i<m
    . have:=Y i _ B e;rw[U]at this;lia
    . have:=Z i _ (by simp_all) e;rw[U]at this;lia
def lT(Z:Bh):Ax:=λA H Q O=>Vm (λ(W:List AB)(x d:AB)(L:List AN)(z:AE)(V U:Int)=>A=[.ref x,.str z,.int V,.int U]) (λW x d L O O O=>Cm Z W H x d L) (λO O O L O O O=>L.length<=1000) (λO O O L z V U=>∀J r Y D,Aj H J->H r=AF->J r=AA (.lst Y)->CD J Y D->C5 D->D.Perm ((L.filter λi=>Ac (i.2.1=z/\V<=i.1/\i.1<=U)).map Gx)->Q (.ref r) J)
theorem iM{K:An}{ad:Bh}(T:BA K mg ad):T.uy.Ok A3 P w mg base 2 (lT ad):=by
 have D:=Pz (P:=P) (w:=w) (base:=base) T;show T.uy.ok λnd O0 O0 O0 O0 O0 l H vs Q E h=>?_;lk;obtain⟨ex,x,d,L,z,M,f,rfl,q,hL,k⟩:=h;k_in;show⟨_,(Ae (Bw 4 nd (Ql l.u1 (BC (AH 0) rfl) (AH 1) (DB E3) ⟨rfl,rfl,rfl,rfl⟩)) (Aa (Ay (G5 (KY (K:=K)) (AH 4) (GU (A5 D l (Y9 (AH 4) (Y9 (Cn (Y9 (AH 2) E3)) E3)))) (GU (A5 D l (Y9 (AH 4) (Y9 (Cn (Y9 (AW GF (AH 3) AO) E3)) E3)))))))),?_⟩;lk;obtain⟨dx,eo⟩:=q.av;obtain⟨I,t,nd',hk,hq,hc⟩:=id q.aw;k_in;show⟨_,⟨eo,T.fi,T.dk,rfl⟩,d,rfl,.inl ⟨I,.inl t⟩,BZ _,λu e=>?_⟩;show BQ (o:=.lst []) e λO s2 a=>?_;have s:=q.ah s2;have C:=s2 _ _ t;lk;obtain⟨Z,W,J,c,G,hw,B,A⟩:∃(r:AB)(W:List AD)(J:List (List AL)),(Br I (.inr z)).getD (.ref u)=.ref r/\O r=AA (.lst W)/\CD O W J/\C5 J/\J.Perm ((L.filter _).map Gx):=by
  rcases s.aav z C with⟨e1,X⟩|⟨r,W,J,e1,_,G,hw,_,B,A⟩;.show⟨u,[],[],by rw[e1];rfl,a,Ik _,.nil,by rw[X];show .nil⟩
  .show⟨r,W,J,by rw[e1];rfl,G,hw,B,A⟩
 k_in;show⟨_,L6 (k:=Bx z) C,?_⟩;rw[c];have hxl:=hw.fq;show⟨CY rfl,λS g=>?_⟩;have s3:=Bb (o:=.tup [.int M]) g;have F:(AK O S (.tup [.int M])) S=AA (.tup ([Co M].map Ar)):=AZ;generalize AK O S (.tup [.int M])=y at s3 F⊢;show⟨Z,S,W,J,_,rfl,s3 _ _ G,P4 (hw.ae s3.tp),F,P1 (Ly A) (by intro m R;rw[BV.mp R];rfl),B,λn hn a1 a2=>⟨_,rfl,?_⟩⟩;show⟨CY rfl,λp j=>?_⟩;have s4:=Bb (o:=.tup [.int (f+1)]) j;have b:(AK y p _) p=AA (.tup ([Co (f+1)].map Ar)):=AZ;have U:=s3.aa s4;show⟨Z,p,W,J,_,rfl,U _ _ G,P4 (hw.ae U.tp),b,P1 (Ly A) (by intro m R;rw[BV.mp R];rfl),B,λm R b1 b2=>⟨_,rfl,?_⟩⟩;show⟨Z,W,rfl,Ab (U _ _ G),λr Y=>?_⟩;rw[eQ W n m (by simp_all) (by simp_all)];have N:=s2.aa U;have v:=gH B (Ly A) a1 a2 b1 b2;show k _ r _ _ (N.ik Y) (N.ar Y) AZ (Oc _ (NM _ (hw.ae (U.ik Y).tp))) ?_ ?_;. rw[v];show B.sublist NZ
 . rw[v];show(A.filter _).trans (Qx ?_);rw[Qz,JK];congr 1;show Kb λi O0=>?_;change(Ac _&&Ac (i.2.1=z))=_;by_cases e1:i.2.1=z<;>by_cases X:M<=i.1/\i.1<=f<;>simp[e1,X]
theorem fS{α D:Type}{f:α->D}{l:List α}{i:Nat}{x:D}(h:(l.map f)[i]?=AA x):∃y,l[i]?=AA y/\f y=x:=by rw[Bl]at h;show Dp.mp h
theorem fM[DecidableEq J](f:α->J)(L:List α)(D:List J)(z:D.Nodup)(U:∀x∈L,f x∈D)(V:∀k∈D,∃x∈L,f x=k):D.length<=L.length:=by
 rw[<-(Ta f L D z U).length_eq];have g:∀D:List J,(∀k∈D,∃x∈L,f x=k)->D.length<=(D.flatMap λk=>L.filter λx=>Ac (f x=k)).length:=λD=>by induction D with |nil=>intro _;show Ag _|cons k D Z=> intro h;rw[El,Bs,MQ];obtain⟨x,Y,e⟩:=h k DI;have:0<(L.filter λx=>Ac (f x=k)).length:=w4 (EH.mpr ⟨Y,AEF e⟩);have:=Z λk W=>h k (En _ W);lia
 show g D V
theorem fZ[DecidableEq D]{q:D×AD}(h:q∈kvs)(J:q.1≠k):q∈Bk kvs k v:=by
 unfold Bk;split;.show A7.mpr ⟨q,h,by rw[AED J]⟩
 .show Ht _ h
theorem SJ[DecidableEq D]{q:D×AD}:q∈DG kvs k↔q∈kvs/\q.1≠k:=by unfold DG;rw[EH,AEK]
theorem Pu(t a b:Int):BO [.inl t,.inl a] [.inl b]=Ac (t<b):=by
 change(if(Co t)=Co b then AM else Ac _)=_;split
 . rename_i e;have e:=JQ e;rw[e];show(AEH (dO b)).symm
 .rfl
theorem eU{kss:List (List AL)}(hi:∀D∈kss,∃t a,D=[.inl t,.inl a]){lo:Int}(J:∀(i:Nat)D,i<n->kss[i]?=AA D->BO D [.inl lo]=AI)(U:∀(i:Nat)D,n<=i->kss[i]?=AA D->BO D [.inl lo]=AM):kss.drop n=kss.filter λD=>match D with|.inl t::_=>Ac (lo<=t)|_=>AM:=by
 have:=OR (l:=kss) (n:=n) (m:=kss.length) (p:=λD=>match D with|.inl t::_=>Ac (lo<=t)|_=>AM) λi D e=>by
  obtain⟨t,a,rfl⟩:=hi D (CZ e);have Y:=(BH.mp e).1;by_cases V:i<n
  . have:=J i _ V e;rw[Pu]at this;lia
  . have W:=U i _ (by simp_all) e;rw[Pu]at W;simp_all
 rw[Dk (by rw[MR];show Ag _)]at this;show this
noncomputable def BJ(D:Int)(L:List AN):List AN:=L.filter λi=>Ac (D<=i.1)
theorem Lz(D:Int)(L:List AN):(BJ D L).length<=L.length:=Fc _ _
theorem eT{L:List AN}{kss:List (List AL)}(U:kss.Perm ((L.filter λi=>Ac (i.2.1=z)).map Gx))(e:kss.drop n=kss.filter λJ=>match J with|.inl t::_=>Ac (D<=t)|_=>AM):(kss.drop n).Perm (((BJ D L).filter λi=>Ac (i.2.1=z)).map Gx):=by rw[e];show(U.filter _).trans (Qx ?_);unfold BJ;rw[Qz,JK,JK];congr 1;show Kb λi O=>?_;change(Ac _&&Ac _)=_;rw[AAQ]
def kP(V:Bh):Ax:=λW H Q O=>Pk (λ(D:List AB)(x d:AB)(L:List AN)(U:Int)=>W=[.ref x,.int U]) (λD x d L O=>Cm V D H x d L) (λD O O O O=>(∀c∈D,∃o,H c=AA o)) (λO O O L O=>L.length<=1000) (λD x d L U=>∀J,BR d H J->Cm V D J x d (BJ U L)->Q .non J)
theorem gT{K:An}{ad:Bh}(T:BA K mg ad):T.uw.Ok A3 P w mg base 2 (kP ad):=by
  show T.uw.ok λnd O O O O O hr H vs Q E h=>?_;lk;obtain⟨ex,x,d,L,le,rfl,sr,hex,hL,k⟩:=h;k_in;show⟨_,(Aa (DQ Dc rfl (DH (K:=K) (Ie (TQ (K:=K) rfl) (by rfl) T.jt Kh (Y9 (BC (AQ 0) rfl) E3))) (G6 (i:=2) nd rfl (BX rfl)) (Ae (Bq (i:=3) nd rfl (BX rfl) (GS hr.u1 (BC (AQ 0) rfl) (AQ 2) (λO O=>rfl))) (Ae (Bq (i:=4) nd rfl (BX rfl) (G5 (KY (K:=K)) (AQ 3) (GU (A5 (Pz T) hr (Y9 (AQ 3) (Y9 (Cn (Y9 (AQ 1) E3)) E3)))) Ih)) (Aa (B0 (Bj Qh (CL (Jg (K:=K)) (by rfl) T.iq GY (Y9 (AQ 4) E3)) AO (Ba _)) (Aa (LR hr.u1 (BC (AQ 0) rfl) (AQ 2) (AQ 4) rfl)) (Aa (EU (ZF (BC (AQ 0) rfl) (AQ 2) ⟨rfl,rfl,rfl,rfl⟩))))))))),?_⟩;have sz:Az=16777216:=D8;lk;obtain⟨dx,eo⟩:=sr.av;obtain⟨kvs,ed,nd',hk,hq,hc⟩:=id sr.aw;k_in;show⟨_,rfl,_,⟨eo,T.fi,T.dk,rfl⟩,d,kvs,rfl,ed,λl hl=>?_⟩;have s1:=Bb (o:=.lst (kvs.map λp=>Ar p.1)) hl;have el:(AK H l (.lst (kvs.map λp=>Ar p.1))) l=AA (.lst (kvs.map λp=>Ar p.1)):=AZ;have nld:l≠d:=(A4 ed hl).symm;generalize AK H l (.lst (kvs.map λp=>Ar p.1))=H1 at s1 el⊢;have ed1:=s1 _ _ ed;have tpd:∀{H'},BR d H1 H'->Bd H1 H':=λsx=>sx.tp ed1 λxs=>by intro z;cases z
  have lst':∀{H':AG}{b:AB}{xs:List AD},BR d H1 H'->H1 b=AA (.lst xs)->H' b=AA (.lst xs):=λsx e=>sx _ _ (λz=>by rw[z,ed1]at e;cases e) e;show⟨l,rfl,⟨_,Ab el⟩,Gf (K:=K) (xs:=kvs.map λp=>Ar p.1) (λn σ H'=>QS (λ(o2 o3 o4:Option AD)(kvs':List (AL×AD))=>σ=[AA (.ref x),AA (.int le),o2,o3,o4]) (λO O O O=>BR d H1 H') (λO O O kvs'=>H' d=AA (.dK kvs')) (λO O O kvs'=>(kvs'.map (·.1)).Nodup) (λO O O kvs'=>kvs'.length<=1000) (λO O O kvs'=>(∀q∈kvs',(q.1∈(kvs.map (·.1)).take n/\Lm ex H' (BJ le L) q)\/(q.1∉(kvs.map (·.1)).take n/\q∈kvs))) (λO O O kvs'=>(∀q∈kvs,q.1∉(kvs.map (·.1)).take n->q∈kvs')) (λO O O kvs'=>∀i∈BJ le L,(Bx i.2.1:AL)∈(kvs.map (·.1)).take n->(Bx i.2.1:AL)∈kvs'.map (·.1))) ⟨AF,AF,AF,kvs,rfl,λb o O e=>e,ed1,nd',Af hk hL,λq hq=>.inr ⟨by simp,hq⟩,λq hq O=>hq,λi O hi=>by simp at hi⟩ (λn σ H' O hh=>by obtain⟨_,_,_,_,_,sx,_⟩:=hh;show Ab (lst' sx el)) ?_ ?_⟩
  . intro n y σ H2 hy hI;lk;obtain⟨o2,o3,o4,kvs',rfl,sx2,ed2,nd2,lk2,a2,b2,c2⟩:=hI;obtain⟨q0,hq0,rfl⟩:=fS hy;obtain⟨z,r0,xs0,kss0,e0,_⟩:=hq q0 (CZ hq0);have hk0:(kvs.map (·.1))[n]?=AA (.inr z):=by rw[Bl,hq0,e0];rfl
    have hnot:(Bx z:AL)∉(kvs.map (·.1)).take n:=λhm=>by obtain⟨i,hi,e⟩:=Gk.mp hm;rw[Em]at hi;rw[Q3]at e;have e2:=(BH.mp hk0).2;have:=(wY nd').mp (e.trans e2.symm);lia
    have tk:(kvs.map (·.1)).take (n+1)=(kvs.map (·.1)).take n++[.inr z]:=by rw[EI,hk0];rfl
    have mem1:q0∈kvs':=b2 q0 (CZ hq0) (by rw[e0];show hnot);have hkm:(Bx z:AL)∈kvs'.map (·.1):=A7.mpr ⟨q0,mem1,by rw[e0]⟩;obtain⟨v,hv⟩:=NY hkm;have hvk:((Bx z:AL),v)∈kvs:=by
      rcases a2 _ (JG hv)with⟨h1,_⟩|⟨_,h2⟩;.show absurd h1 hnot
      .show h2
    obtain⟨z',r,xs,kss,e1,hrx,er,hw,hne,sd,pm⟩:=hq _ hvk;cases e1;k_in;have er2:=lst' sx2 (s1 _ _ er);have hw2:=(hw.ae s1.tp).ae (tpd sx2);have eo2:=sx2 _ _ (λz=>by rw[z,ed]at eo;cases eo) (s1 _ _ eo);have yv:Ar q0.1=.str z:=by rw[e0];rfl
    rw[yv];have hl':=XN pm;have hxl:=hw.fq;show⟨_,rfl,_,⟨eo2,T.fi,T.dk,rfl⟩,_,rfl,d,_,rfl,(by have:=L6 (k:=Bx z) ed2;rw[hv]at this;show this),?_⟩;show⟨_,rfl,_,rfl,_,rfl,Ed rfl,λp hp=>?_⟩;have s3:=Bb (o:=.tup [.int le]) hp;have ep:(AK H2 p (.tup [.int le])) p=AA (.tup ([Co le].map Ar)):=AZ;generalize AK H2 p (.tup [.int le])=H3 at s3 ep⊢;show⟨r,p,xs,kss,_,rfl,s3 _ _ er2,P4 (hw2.ae s3.tp),ep,P1 (Ly pm) (by intro m hm;rw[BV.mp hm];rfl),sd,λm hm b1 b2'=>⟨_,rfl,?_⟩⟩;have dr:=eU (Ly pm) b1 b2';have pm2:=eT pm dr;have sd2:C5 (kss.drop m):=sd.sublist (AAu _ _);show⟨r,xs,rfl,Ab (s3 _ _ er2),λc hc'=>?_⟩;rw[Pn xs m (by simp_all)];have s4:=Bb (o:=.lst (xs.drop m)) hc';have ec:(AK H3 c (.lst (xs.drop m))) c=AA (.lst (xs.drop m)):=AZ;have nex:c∉ex:=λhm=>by
      obtain⟨o,ho⟩:=hex c hm;by_cases z:c=d;.rw[z,s3 _ _ ed2]at hc';cases hc'
      .rw[s3 _ _ (sx2 _ _ z (s1 _ _ ho))]at hc';cases hc'
    generalize AK H3 c (.lst (xs.drop m))=H4 at s4 ec⊢;have s34:=s3.aa s4;have ed4:=s34 _ _ ed2;have eo4:=s34 _ _ eo2;have sx4:BR d H1 H4:=sx2.aa (s34.x d);have hw4:CD H4 (xs.drop m) (kss.drop m):=NM m (hw2.ae s34.tp);have ncd:c≠d:=λz=>by rw[z,ed4]at ec;cases ec
    have tpu:∀{o:BL},Bd H4 (AK H4 d o):=(Ge H4).ik ed4 λxs=>by intro z;cases z
    have row':∀{o:BL}{q:AL×AD},Lm ex H2 (BJ le L) q->Lm ex (AK H4 d o) (BJ le L) q:=λh=>h.ae (λb xs O e=>by rw[AU (λz=>by rw[z,ed2]at e;cases e)];show s34 _ _ e) (s34.tp.aa tpu);show⟨_,rfl,c,_,rfl,.inl (Ab ec),_,_,rfl,rfl,_,rfl,IW (λe=>?_) λe=>?_⟩
    . have hpos:0<(kss.drop m).length:=by rw[<-hw4.fq];have:((xs.drop m).length:Int)>0:=e;show AAl.mp e
      show⟨_,rfl,_,rfl,_,⟨eo4,T.fi,T.dk,rfl⟩,_,rfl,d,_,rfl,L7 (k:=Bx z) ed4 (FQ lk2 (by decide)),?_⟩;have ke:(Bk kvs' (Bx z) (.ref c)).map (·.1)=kvs'.map (·.1):=by rw[QZ,AEE hkm]
      show⟨_,_,_,Bk kvs' (Bx z) (.ref c),rfl,sx4.ik,AZ,OY nd2,?_,λq hq'=>?_,λq hq' hn=>?_,λi hi hm=>?_⟩
      . have:=AEG Nb ke;rw[As,As]at this;simp_all
      . rw[tk];rcases OX hq' with rfl|⟨h1,h2⟩;.show .inl ⟨Eb _ (BV.mpr rfl),z,c,_,_,rfl,nex,by rw[AU ncd];show ec,hw4.ae tpu,List.ne_nil_of_length_pos hpos,sd2,pm2⟩
        . rcases a2 q h1 with⟨h3,h4⟩|⟨h3,h4⟩;.show .inl ⟨Ht _ h3,row' h4⟩
          .show .inr ⟨λhm=>by rcases CS.mp hm with hm|hm;show h3 hm;show h2 (BV.mp hm),h4⟩
      . rw[tk]at hn;show fZ (b2 q hq' λh=>hn (Ht _ h)) λh=>hn (Eb _ (BV.mpr h))
      . rw[ke];rw[tk]at hm;rcases CS.mp hm with hm|hm;.show c2 i hi hm
        .rw[BV.mp hm];show hkm
    . have hz:kss.drop m=[]:=Z2 (by rw[<-hw4.fq];have:¬((xs.drop m).length:Int)>0:=e;show AAi.mp (Lk e));show⟨_,rfl,_,⟨eo4,T.fi,T.dk,rfl⟩,d,rfl,.inl ⟨_,.inl ed4⟩,_,rfl,kvs',.inr z,_,ed4,rfl,hv,?_⟩;show⟨_,_,_,DG kvs' (Bx z),rfl,sx4.ik,AZ,Tw nd2,Af (YU ..) lk2,λq hq'=>?_,λq hq' hn=>?_,λi hi hm=>?_⟩
      . rw[tk];obtain⟨h1,h2⟩:=SJ.mp hq';rcases a2 q h1 with⟨h3,h4⟩|⟨h3,h4⟩;.show .inl ⟨Ht _ h3,row' h4⟩
        .show .inr ⟨λhm=>by rcases CS.mp hm with hm|hm;show h3 hm;show h2 (BV.mp hm),h4⟩
      . rw[tk]at hn;show SJ.mpr ⟨b2 q hq' λh=>hn (Ht _ h),λh=>hn (Eb _ (BV.mpr h))⟩
      . rw[tk]at hm;by_cases ez:(Bx i.2.1:AL)=Bx z
        . rw[hz]at pm2;have:=pm2.length_eq;have hmem:Gx i∈((BJ le L).filter λi=>Ac (i.2.1=z)).map Gx:=A7.mpr ⟨i,EH.mpr ⟨hi,AEF (Gr ez)⟩,rfl⟩;have:=w4 hmem;simp_all
        . rcases CS.mp hm with hm|hm
          . lk;obtain⟨q,hq1,hq2⟩:=A7.mp (c2 i hi hm);k_in;show A7.mpr ⟨q,SJ.mpr ⟨hq1,by rw[hq2];show ez⟩,hq2⟩
          .show absurd (BV.mp hm) ez
  . intro σ H2 hI;lk;obtain⟨o2,o3,o4,kvs',rfl,sx2,ed2,nd2,lk2,a2,b2,c2⟩:=hI;k_in;have all:(kvs.map (·.1)).take (kvs.map λp=>Ar p.1).length=kvs.map (·.1):=Dk (by rw[As,As];show Ag _);rw[all]at a2 c2;have a3:∀q∈kvs',Lm ex H2 (BJ le L) q:=λq hq'=>by
      rcases a2 q hq' with⟨_,h⟩|⟨h1,h2⟩;.show h
      .show absurd (A7.mpr ⟨q,h2,rfl⟩) h1
    have c3:∀i∈BJ le L,(Bx i.2.1:AL)∈kvs'.map (·.1):=λi hi=>c2 i hi (hc i (EH.mp hi).1);show k _ ((s1.x d).aa sx2) ⟨⟨dx,sx2 _ _ (λz=>by rw[z,ed]at eo;cases eo) (s1 _ _ eo)⟩,kvs',ed2,nd2,?_,a3,c3⟩;have:=fM (λi:AN=>(Bx i.2.1:AL)) (BJ le L) (kvs'.map (·.1)) nd2 c3 λk hk=>by
      obtain⟨q,hq',rfl⟩:=A7.mp hk;obtain⟨z,r,xs,kss,rfl,_,_,_,hne,_,pm⟩:=a3 q hq';have hlen:0<(((BJ le L).filter λi=>Ac (i.2.1=z)).map Gx).length:=by rw[<-pm.length_eq];show List.length_pos_iff.mpr hne
      rw[As]at hlen;obtain⟨i,hi⟩:=List.exists_mem_of_length_pos hlen;obtain⟨h1,h2⟩:=EH.mp hi;show⟨i,h1,by change(Bx i.2.1:AL)=Bx z;rw[AEI h2]⟩
    rw[As]at this;show this
def Xk(D:Bh):Ax:=λU H Q O=>∃x J,U=[.ref x]/\H x=AA (.ins D.jg J [])/\∀d,H d=AF->Q .non (AK (AK H d (.dK [])) x (.ins D.jg J [("rows",.ref d)]))
theorem iW{K:An}(T:BA K V J):T.ml.Ok A3 P w V base 1 (Xk J):=by show T.ml.ok λY O O O O O W H Z Q E h=>?_;lk;obtain⟨x,U,rfl,e,k⟩:=h;k_in;show⟨_,(Aa (Du (AH 0) LQ rfl)),?_⟩;intro d D;show⟨x,_,U,[],rfl,by rw[AU (A4 e D)];show e,T.fi,T.dk,by decide,k d D⟩
theorem Wd(Z:H x=AF)(V:H D=AF)(B:D≠x)(k:∀d H',Aj H H'->H d=AF->Cm Y ex H' x d []->Q .non H'):Xk Y [.ref x] (AK (AK H D (.own x)) x (.ins Y.jg D [])) Q E:=by
 show⟨x,D,rfl,AZ,λd J=>?_⟩;have U:=A4 AZ J;rw[AU U.symm]at J;have W:D≠d:=λz=>by rw[z,AZ]at J;cases J
 rw[AU W.symm]at J;show k d _ (λb o e=>?_) J ⟨⟨D,AZ⟩,[],by rw[AU U.symm];show AZ,.nil,Ag _,λq C=>(by cases C),λi A=>by cases A⟩;rw[AU (A4 e Z),AU (A4 e J),AU (A4 e Z),AU (A4 e V)];show e
section
variable{ad:Bh}
structure C1(ad:Bh)(ex:List AB)(H:AG)(j sl x0 x1 d0 d1:AB)(wi:Int)(L0 L1:List AN):Prop where
 av:∃dx,H j=AA (.ins ad.jf dx [("within",.int wi),("sides",.ref sl)])ax:H sl=AA (.lst [.ref x0,.ref x1])s0:Cm ad ex H x0 d0 L0
 s1:Cm ad ex H x1 d1 L1
 ne:d0≠d1
 aeu:sl∉ex
end
theorem C1.ah(h:C1 z ex H j W Y Z U V wi D J)(s:Aj H H'):C1 z ex H' j W Y Z U V wi D J:=by lk;obtain⟨⟨A,e⟩,B,E,r1,n,C⟩:=h;k_in;show⟨⟨A,s _ _ e⟩,s _ _ B,E.ah s,r1.ah s,n,C⟩
theorem C1.xj(h:C1 F ex H j B C E Y Z wi U W)(e:H c=AA (.lst xs))(J:c∈ex):C1 F ex (AK H c o) j B C E Y Z wi U W:=by lk;obtain⟨⟨G,D⟩,I,K,r1,n,A⟩:=h;k_in;show⟨⟨G,by rw[AU (λz=>by rw[z,e]at D;cases D)];show D⟩,by rw[AU (λz=>A (by rw[z];show J))];show I,K.xj e J,r1.xj e J,n,A⟩
def lI(V:Bh):Ax:=λA H Q O=>Pj (λ(D:List AB)(j Z:AB)(U:Int)=>A=[.ref j,.int U]) (λO j Z O=>H j=AA (.ins V.jf Z [])) (λD O O O=>(∀c∈D,∃o,H c=AA o)) (λD j O U=>∀J z B C W Y,BR j H J->H W=AF->H Y=AF->C1 V D J j z B C W Y U [] []->Q .non J)
theorem iE{K:An}{ad:Bh}(T:BA K mg ad):T.mj.Ok A3 P w mg base 3 (lI ad):=by
 have G_Side___init__:=iW (P:=P) (w:=w) (base:=base) T;show T.mj.ok λnd O O O O O hr H vs Q E h=>?_;lk;obtain⟨ex,j,dx,wi,rfl,ej,hex,k⟩:=h;k_in;show⟨_,(Ae (Du (AH 0) (AH 1) rfl) (Aa (Du (AH 0) (DB (Y9 (XC G_Side___init__ hr T.aaf Hn) (Y9 (XC G_Side___init__ hr T.aaf Hn) E3))) rfl))),?_⟩;show⟨j,_,dx,[],rfl,ej,T.gc,T.ic,by decide,?_⟩;generalize hH:AK H j _=H1;have x1':BR j H H1:=by rw[<-hH];show((Bz H).x j).ik
 have ej1:H1 j=AA (.ins ad.jf dx [("within",.int wi)]):=by rw[<-hH];show AZ
 intro x0 dx0 hx0 hdx0 hn0;show Wd (ex:=ex) hx0 hdx0 hn0 λd0 H2 s2 hd0 r0=>⟨rfl,?_⟩;intro x1 dx1 hx1 hdx1 hn1;show Wd (ex:=ex) hx1 hdx1 hn1 λd1 H3 s3 hd1 r1=>⟨rfl,?_⟩;show⟨CY rfl,λsl hsl=>?_⟩;have s4:=Bb (o:=.lst [.ref x0,.ref x1]) hsl;have esl:(AK H3 sl (.lst [.ref x0,.ref x1])) sl=AA _:=AZ;have nsl:sl∉ex:=λhm=>by
  obtain⟨o,ho⟩:=hex sl hm;by_cases z:sl=j;.rw[z,(s2.aa s3) _ _ ej1]at hsl;cases hsl
  .rw[(s2.aa s3) _ _ (x1' _ _ z ho)]at hsl;cases hsl
 generalize AK H3 sl _=H4 at s4 esl⊢;have s14:=(s2.aa s3).aa s4;have ej4:=s14 _ _ ej1;show⟨j,_,dx,_,rfl,ej4,T.gc,T.fo,(by change 1<1000;decide),?_⟩;have r04:=r0.ah (s3.aa s4);have r14:=r1.ah s4;have up:∀{x d:AB},x≠j->Cm ad ex H4 x d []->Cm ad ex (AK H4 j (.ins ad.jf dx [("within",.int wi),("sides",.ref sl)])) x d []:=λhx r=>by show r.ae (λC dx fs e=>by rw[AU hx];show e) (λkvs e=>by rw[AU (λz=>by rw[z,ej4]at e;cases e)];show e) (λb xs O e=>by rw[AU (λz=>by rw[z,ej4]at e;cases e)];show e) ((Ge H4).ik ej4 λxs=>by intro z;cases z)
 have nx0:x0≠j:=λz=>by rw[z,ej1]at hx0;cases hx0
 have nx1:x1≠j:=λz=>by rw[z,s2 _ _ ej1]at hx1;cases hx1
 have nd01:d0≠d1:=λz=>by obtain⟨kvs,e,_⟩:=r0.aw;rw[z,hd1]at e;cases e
 have fr:∀{d:AB},H1 d=AF->H d=AF:=λ{d}hd=>by cases q:H d with|none=>rfl|some o=>
   by_cases z:d=j;.rw[z,ej1]at hd;cases hd
   .rw[x1' _ _ z q]at hd;cases hd
 have hd11:=s2.ar hd1;show k _ sl x0 x1 d0 d1 ((x1'.aa (s14.x j)).ik) (fr hd0) (fr hd11) ⟨⟨dx,AZ⟩,by rw[AU (λz=>by rw[z,ej4]at esl;cases esl)];show esl,up nx0 r04,up nx1 r14,nd01,nsl⟩
theorem Cm.jo(h:Cm Z ex H x d L)(Y:H l=AF):Cm Z (l::ex) H x d L:=by lk;obtain⟨o,V,A,n,E,q,c⟩:=h;k_in;show⟨o,V,A,n,E,λp C=>?_,c⟩;lk;obtain⟨z,r,F,U,e,B,W,D⟩:=q p C;k_in;show⟨z,r,F,U,e,λJ=>by rcases B6.mp J with rfl|J;rw[W]at Y;cases Y;show B J,W,D⟩
theorem Cm.ji(h:Cm V (l::ex) H x d L):Cm V ex H x d L:=by lk;obtain⟨o,U,W,n,B,q,c⟩:=h;k_in;show⟨o,U,W,n,B,λp A=>?_,c⟩;lk;obtain⟨z,r,C,J,e,Z,D⟩:=q p A;k_in;show⟨z,r,C,J,e,λY=>Z (En _ Y),D⟩
theorem C1.ji(h:C1 z (l::ex) H j W Y Z U V wi D J):C1 z ex H j W Y Z U V wi D J:=by lk;obtain⟨o,A,E,r1,n,C⟩:=h;k_in;show⟨o,A,E.ji,r1.ji,n,λB=>C (En _ B)⟩
noncomputable def IL(i j:Int):Int:=if i<j then j else i
noncomputable def Lw(s:Int)(i j:AN):List AL:=[.inl (IL i.1 j.1),.inr i.2.1,.inl (if s=0 then i.2.2-j.2.2 else j.2.2-i.2.2)]
def lQ:Ax:=λJ H Q O=>TK (λ(s:Int)(p q:AB)(i:AN)(t a:Int)=>J=[.int s,.ref p,.ref q]) (λO p O i O O=>H p=AA (.tup ((D3 i).map Ar))) (λO O q O t a=>H q=AA (.tup [.int t,.int a])) (λs O O i t a=>∀D r,Aj H D->D r=AA (.tup ((Lw s i (t,i.2.1,a)).map Ar))->Q (.ref r) D)
theorem iJ{K:An}(T:BA K F I):T.vw.Ok A3 P w F base 1 lQ:=by
 show T.vw.ok λC O O O O O L H N Q E h=>?_;lk;obtain⟨G,p,q,⟨M,z,Y⟩,t,a,rfl,D,J,k⟩:=h;k_in;show⟨_,(Ae (Bq (i:=3) C rfl (BX rfl) (Qm (Bj Cs (AQ 0) AO (Ba _)) (Bc (Dj) (AQ 1) AO (λO O=>rfl)) (Bc (Dj) (AQ 2) AO (λO O=>rfl)))) (Ae (Bq (i:=4) C rfl (BX rfl) (Qm (Bj Cs (AQ 0) AO (Ba _)) (Bc (Dj) (AQ 2) AO (λO O=>rfl)) (Bc (Dj) (AQ 1) AO (λO O=>rfl)))) (Aa (Ay (Cn (Y9 (CL (YD rfl) (by rfl) T.aal aT (Y9 (Bc (Dj) (AQ 1) AO (λO O=>rfl)) (Y9 (Bc (Dj) (AQ 2) AO (λO O=>rfl)) E3))) (Y9 (Bc (Dj) (AQ 1) AO (λO O=>rfl)) (Y9 (AW Hl (AQ 3) (AQ 4)) E3)))))))),?_⟩;have Z:∀{a b c:AD},Cw [a,b,c] 0=AA a:=Ao rfl;have i1:∀{a b c:AD},Cw [a,b,c] 1=AA b:=Ao rfl;have i2:∀{a b c:AD},Cw [a,b,c] 2=AA c:=Ao rfl;have A:∀{a b:AD},Cw [a,b] 0=AA a:=Ao rfl;have B:∀{a b:AD},Cw [a,b] 1=AA b:=Ao rfl;have fin:∀{x y:Int},x-y=(if G=0 then Y-a else a-Y)->∀r,H r=AF->Q _ (AK H r (.tup [.int _,.str z,.int (x-y)])):=λ{x y}e r W=>by show k _ r ((Bz H).ik W) ?_;rw[AZ,e];rfl
 show⟨_,rfl,rfl,_,rfl,D6 (λe=>?_) λe=>?_⟩;. show⟨_,rfl,p,_,_,_,rfl,rfl,Aq D,i2,_,rfl,rfl,_,rfl,D6 (λO=>?_) λU=>absurd e U⟩;show⟨_,rfl,q,_,_,_,rfl,rfl,Aq J,B,_,rfl,p,_,_,_,rfl,rfl,Aq D,Z,_,rfl,q,_,_,_,rfl,rfl,Aq J,A,_,_,rfl,_,rfl,p,_,_,_,rfl,rfl,Aq D,i1,_,rfl,_,rfl,_,_,rfl,rfl,Ed rfl,fin (by rw[AEE e])⟩
 . show⟨_,rfl,q,_,_,_,rfl,rfl,Aq J,B,_,rfl,rfl,_,rfl,D6 (λU=>absurd U e) λO=>?_⟩;show⟨_,rfl,p,_,_,_,rfl,rfl,Aq D,i2,_,rfl,p,_,_,_,rfl,rfl,Aq D,Z,_,rfl,q,_,_,_,rfl,rfl,Aq J,A,_,_,rfl,_,rfl,p,_,_,_,rfl,rfl,Aq D,i1,_,rfl,_,rfl,_,_,rfl,rfl,Ed rfl,fin (by rw[AED e])⟩
noncomputable def Fo(s wi:Int)(i:AN)(D:List AN):List (List AL):=(D.filter λj=>Ac (j.2.1=i.2.1/\i.1-wi<=j.1/\j.1<=i.1+wi)).map (Lw s i)
def kO(E:Bh):Ax:=λG H Q O=>VY (λ(V:List AB)(j A B C Y Z p:AB)(z s:Int)(D J:List AN)(i:AN)=>G=[.ref j,.int s,.ref p]) (λV j A B C Y Z O z O D J O=>C1 E V H j A B C Y Z z D J) (λO O O O O O O O O s O O O=>(s=0\/s=1)) (λV O O O O O O O O O O O O=>(∀c∈V,∃o,H c=AA o)) (λO O O O O O O p O O O O i=>H p=AA (.tup ((D3 i).map Ar))) (λO O O O O O O O O O D O O=>D.length<=1000) (λO O O O O O O O O O O J O=>J.length<=1000) (λV j A B C Y Z O z s D J i=>∀W r F U,BR (if s=0 then Y else Z) H W->C1 E (r::V) W j A B C Y Z z (if s=0 then D++[i]else D) (if s=0 then J else J++[i])->H r=AF->W r=AA (.lst F)->CD W F U->C5 U->U.Perm (Fo s z i (if s=0 then J else D))->Q (.ref r) W)
theorem gR{K:An}{ad:Bh}(T:BA K mg ad):T.ur.Ok A3 P w mg base 3 (kO ad):=by
  show T.ur.ok λnd O O O O O hr H vs Q E h=>?_;lk;obtain⟨ex,j,sl,x0,x1,d0,d1,p,wi,sd,L0,L1,i,rfl,jr,hs,hex,ep,l0,l1,k⟩:=h;k_in;show⟨_,(Ae (Bq (i:=3) nd rfl (BX rfl) (Ee (Bc (Dh (K:=K)) (BC (AQ 0) rfl) (AW Hl AO (AQ 1)) (λO O=>rfl)) T.fi (iM T) hr (Y9 (Bc (Dj (K:=K)) (AQ 2) AO (λO O=>rfl)) (Y9 (AW Hl (Bc (Dj (K:=K)) (AQ 2) AO (λO O=>rfl)) (BC (AQ 0) rfl)) (Y9 (AW E2 (Bc (Dj (K:=K)) (AQ 2) AO (λO O=>rfl)) (BC (AQ 0) rfl)) E3))))) (Ae (EU (Ee (Bc (Dh (K:=K)) (BC (AQ 0) rfl) (AQ 1) (λO O=>rfl)) T.fi (iS T) hr (Y9 (AQ 2) E3))) (Aa (Ay (CL (YG (K:=K)) (by rfl) T.ju Oz (Y9 (Od (osc:=CT XR) [("side",1),("item",2)] rfl (DH (K:=K) (AQ 3)) rfl rfl (by decide+kernel) (by decide+kernel) (by decide+kernel) ⟨rfl,rfl,rfl,rfl,trivial⟩ rfl (by decide+kernel) (λO O O O=>Gi) (λO O O O=>(A5 (iJ T) hr (Y9 (AQ 1) (Y9 (AQ 2) (Y9 (AQ 0) E3)))))) E3)))))),?_⟩;have sz:Az=16777216:=D8;lk;obtain⟨dx,ej⟩:=jr.av;obtain⟨t,z,a⟩:=i;k_in;have i0:∀{a b c:AD},Cw [a,b,c] 0=AA a:=Ao (j:=0) rfl;have i1:∀{a b c:AD},Cw [a,b,c] 1=AA b:=Ao (j:=1) rfl;lk;obtain⟨xo,do',Lo,xs,ds,Ls,at1,at2,ro,rs,nds,lo',ls',fin⟩:∃(xo do':AB)(Lo:List AN)(xs ds:AB)(Ls:List AN),Cw [AD.ref x0,.ref x1] (1-sd)=AA (.ref xo)/\Cw [AD.ref x0,.ref x1] sd=AA (.ref xs)/\Cm ad ex H xo do' Lo/\Cm ad ex H xs ds Ls/\do'≠ds/\Lo.length<=1000/\Ls.length<=1000/\∀H' r xs' kss,BR ds H H'->Cm ad (r::ex) H' xs ds (Ls++[(t,z,a)])->Cm ad (r::ex) H' xo do' Lo->H r=AF->H' r=AA (.lst xs')->CD H' xs' kss->C5 kss->kss.Perm (Fo sd wi (t,z,a) Lo)->Q (.ref r) H':=by
    have ob:∀{H':AG}{d:AB}{kvs:List (AL×AD)},BR d H H'->H d=AA (.dK kvs)->(∃dx,H' j=AA (.ins ad.jf dx _))/\H' sl=AA (.lst [.ref x0,.ref x1]):=λsx e=>⟨⟨dx,sx _ _ (λz=>by rw[z,e]at ej;cases ej) ej⟩,sx _ _ (λz=>by have:=jr.ax;rw[z,e]at this;cases this) jr.ax⟩;have nsl:∀{r:AB},H r=AF->sl∉r::ex:=λhr0 hm=>by
      rcases B6.mp hm with rfl|hm;.rw[jr.ax]at hr0;cases hr0
      .show jr.aeu hm
    rcases hs with rfl|rfl
    . show⟨x1,d1,L1,x0,d0,L0,Ao (j:=1) rfl,Ao (j:=0) rfl,jr.s1,jr.s0,jr.ne.symm,l1,l0,λH' r xs' kss sx r1 r2 hr0=>?_⟩;obtain⟨kvs,e,_⟩:=jr.s0.aw;obtain⟨o1,o2⟩:=ob sx e;show k H' r xs' kss sx ⟨o1,o2,r1,r2,jr.ne,nsl hr0⟩ hr0
    . show⟨x0,d0,L0,x1,d1,L1,Ao (j:=0) rfl,Ao (j:=1) rfl,jr.s0,jr.s1,jr.ne,l0,l1,λH' r xs' kss sx r1 r2 hr0=>?_⟩;obtain⟨kvs,e,_⟩:=jr.s1.aw;obtain⟨o1,o2⟩:=ob sx e;show k H' r xs' kss sx ⟨o1,o2,r2,r1,jr.ne,nsl hr0⟩ hr0
  obtain⟨dxo,eo⟩:=ro.av;k_in;show⟨_,rfl,_,⟨ej,T.gc,T.fo,rfl⟩,_,rfl,_,_,rfl,rfl,sl,_,_,_,rfl,rfl,Ab jr.ax,at1,xo,dxo,_,rfl,eo,by rfl,?_⟩;show⟨_,rfl,p,_,_,_,rfl,rfl,Aq ep,i1,_,rfl,p,_,_,_,rfl,rfl,Aq ep,i0,_,rfl,_,⟨ej,T.gc,T.ic,rfl⟩,_,_,rfl,rfl,_,rfl,p,_,_,_,rfl,rfl,Aq ep,i0,_,rfl,_,⟨ej,T.gc,T.ic,rfl⟩,_,_,rfl,rfl,?_⟩;show⟨ex,xo,do',Lo,z,t-wi,t+wi,rfl,ro,lo',λH1 rm xm km s1 hrm em hwm sdm pmm=>?_⟩;have rs1:=rs.ah s1;obtain⟨dxs,es⟩:=rs1.av;show⟨_,rfl,_,⟨s1 _ _ ej,T.gc,T.fo,rfl⟩,_,rfl,sl,_,_,_,rfl,rfl,Ab (s1 _ _ jr.ax),at2,xs,dxs,_,rfl,es,by rfl,?_⟩;show⟨_,rfl,ex,xs,ds,p,Ls,(t,z,a),rfl,rs1,(λc hc=>let⟨o,ho⟩:=hex c hc;⟨o,s1 _ _ ho⟩),s1 _ _ ep,ls',λH2 sx2 r2=>?_⟩;lk;obtain⟨kvs,ekv,_⟩:=rs1.aw;k_in;have em2:H2 rm=AA (.lst xm):=sx2 _ _ (λz=>by rw[z,ekv]at em;cases em) em;have tp2:Bd H1 H2:=sx2.tp ekv λxs=>by intro z;cases z
  have hwm2:=hwm.ae tp2;have ro2:=(ro.ah s1).yx sx2 ekv nds;have ep2:=tp2 _ _ (s1 _ _ ep);have lm:km.length<=1000:=by rw[pmm.length_eq,As];show Af (Fc _ _) lo'
  have lxm:=hwm.fq;show⟨_,rfl,rm,rfl,⟨_,Ab em2⟩,?_⟩;show IU (K:=K) (xs:=xm) (λn τ acc H'=>(∃o,τ=[o,AA (.int sd),AA (.ref p)])/\Aj H2 H'/\CD H' acc ((km.take n).map λks=>match ks with|[.inl t',.inl a']=>Lw sd (t,z,a) (t',z,a')|_=>[])) (by lia) ⟨⟨AF,rfl⟩,Bz _,Ik _⟩ (λn τ acc H'⟨_,s',_⟩=>Ab (s' _ _ em2)) ?_ ?_
  . intro n y τ acc H3 R1 hy _ hI k1;lk;obtain⟨⟨o,rfl⟩,s3,hw3⟩:=hI;obtain⟨b,kk,rfl,ek,eb⟩:=hwm2.at hy;obtain⟨t',a',rfl⟩:=Ly pmm kk (CZ ek);k_in;show⟨_,rfl,_,rfl,_,rfl,sd,p,b,(t,z,a),t',a',rfl,s3 _ _ ep2,s3 _ _ eb,λH4 r s4 er=>k1 _ _ _ ⟨⟨_,rfl⟩,s3.aa s4,?_⟩⟩;rw[EI,ek,Ce];show(hw3.ae s4.tp).zt er
  . intro τ acc H3 la hI D hD;lk;obtain⟨_,s3,hw3⟩:=hI;k_in;rw[Dk (BW lxm.symm)]at hw3;have s4:=Bb (o:=.lst acc) hD;have eD:(AK H3 D (.lst acc)) D=AA (.lst acc):=AZ;have hw4:=hw3.ae s4.tp;have pmm2:wM (km.map λks=>match ks with|[.inl t',.inl a']=>Lw sd (t,z,a) (t',z,a')|_=>[]) (Fo sd wi (t,z,a) Lo):=by show(pmm.map _).trans (Qx ?_);rw[DX];rfl
    show⟨D,acc,_,rfl,Ab eD,hw4.yz (sh:=[AI,AM,AI]) (by simp) (λks hk=>?_),λl qs hl pq sq=>?_⟩
    . lk;obtain⟨i',_,rfl⟩:=A7.mp (pmm2.mem_iff.mp hk);k_in;rfl
    . obtain⟨g1,g2⟩:=hw4.ada pq;have s5:=s4.ik (o:=.lst (qs.map (·.1))) hl;have s25:=s3.aa s5;have hl0:H l=AF:=by
        have h2:=(s3.aa s4).ar hl;have hne:l≠ds:=λz=>by obtain⟨kv2,e2,_⟩:=r2.aw;rw[z,e2]at h2;cases h2
        cases q:H l with |none=>rfl|some o=>rw[sx2 _ _ hne (s1 _ _ q)]at h2;cases h2
      show fin _ l _ _ (((s1.x ds).aa sx2).aa (s25.x ds)) (((r2.ah (s3.aa s4)).jo hl).ah (Bb hl)) (((ro2.ah (s3.aa s4)).jo hl).ah (Bb hl)) hl0 AZ (g1.ae (Bb hl).tp) sq (g2.trans pmm2)
theorem gG(a b:Int):IL a b=IL b a:=by unfold IL;split<;>split<;>lia
def F3(D J:AB)(H H':AG):Prop:=∀b o,b≠D->b≠J->H b=AA o->H' b=AA o
theorem F3.aa(a:F3 D J H U)(b:F3 D J U V):F3 D J H V:=λc o n m e=>b c o n m (a c o n m e)
theorem Xa(s:Aj H H')(D J:AB):F3 D J H H':=λb o O O e=>s b o e
theorem Xb(s:BR D H H'):F3 D J H H':=λb o n O e=>s b o n e
theorem Xc(s:BR D H H'):F3 J D H H':=λb o O n e=>s b o n e
theorem C1.ye(h:C1 z ex H j W Y Z D J wi U V):(∃k0,H D=AA (.dK k0))/\∃k1,H J=AA (.dK k1):=by lk;obtain⟨k0,e0,_⟩:=h.s0.aw;obtain⟨k1,e1,_⟩:=h.s1.aw;k_in;show⟨⟨k0,e0⟩,k1,e1⟩
theorem C1.y(h:C1 B ex H j Y Z A D J wi V W)(s:F3 D J H H')(e:H b=AA o)(U:∀kvs,o≠.dK kvs):H' b=AA o:=by lk;obtain⟨⟨C,e0⟩,E,e1⟩:=h.ye;k_in;show s b o (λz=>by rw[z,e0]at e;show U _ (Bt e).symm) (λz=>by rw[z,e1]at e;show U _ (Bt e).symm) e
theorem C1.aeg(h:C1 B ex H j Y Z A D J wi U V)(s:F3 D J H H'):Bd H H':=λp C e=>h.y s e λW=>by intro z;cases z
theorem C1.yx(h:C1 F ex H j S T X A B wi L M)(g:C1 F ex H G V Y Z J U W M0 M1)(s:F3 A B H H')(I:J≠A/\J≠B)(K:U≠A/\U≠B):C1 F ex H' G V Y Z J U W M0 M1:=by
 have k:∀{b:AB}{o:BL},H b=AA o->(∀D,o≠.dK _)->H' b=AA o:=λe P=>h.y s e P;lk;obtain⟨⟨E,e⟩,N,R,r1,n,Q⟩:=g;k_in;show⟨⟨E,k e (by intro D z;cases z)⟩,k N (by intro D z;cases z),?_,?_,n,Q⟩;.show R.ae (λC E O e=>k e (by intro D z;cases z)) (λD e=>s _ _ I.1 I.2 e) (λb a i e=>k e (by intro D z;cases z)) (h.aeg s)
 .show r1.ae (λC E O e=>k e (by intro D z;cases z)) (λD e=>s _ _ K.1 K.2 e) (λb a i e=>k e (by intro D z;cases z)) (h.aeg s)
theorem C1.aex(h:C1 V ex H j Y J Z D W wi A U)(s:BR D H H')(r:Cm V ex H' J D M):C1 V ex H' j Y J Z D W wi M U:=by lk;obtain⟨B,e⟩:=h.av;obtain⟨C,e0,_⟩:=h.s0.aw;k_in;show⟨⟨B,s _ _ (λz=>by rw[z,e0]at e;cases e) e⟩,s _ _ (λz=>by have:=h.ax;rw[z,e0]at this;cases this) h.ax,r,h.s1.yx s e0 h.ne.symm,h.ne,h.aeu⟩
theorem C1.aey(h:C1 V ex H j Y Z J W D wi U A)(s:BR D H H')(r:Cm V ex H' J D M):C1 V ex H' j Y Z J W D wi U M:=by lk;obtain⟨B,e⟩:=h.av;obtain⟨C,e0,_⟩:=h.s1.aw;k_in;show⟨⟨B,s _ _ (λz=>by rw[z,e0]at e;cases e) e⟩,s _ _ (λz=>by have:=h.ax;rw[z,e0]at this;cases this) h.ax,h.s0.yx s e0 h.ne,r,h.ne,h.aeu⟩
theorem C1.afl{F:Bh}{ex:List AB}{H H':AG}{j B C E D J:AB}{wi:Int}{Y Z M0 M1:List AN}(h:C1 F ex H' j B C E D J wi Y Z)(s:F3 D J H H')(U:∀c∈ex,∃o,H c=AA o):∀c∈ex,∃o,H' c=AA o:=λc z=>by
  lk;obtain⟨⟨G,e0⟩,I,e1⟩:=h.ye;k_in;by_cases V:c=D;.show⟨_,by rw[V];show e0⟩
  . by_cases W:c=J;.show⟨_,by rw[W];show e1⟩
    . obtain⟨o,A⟩:=U c z;show⟨o,s _ _ V W A⟩
def lH(E:Bh):Ax:=λF H Q O=>VW (λ(V:List AB)(j z A B Y Z:AB)(W D:Int)(J U:List AN)=>F=[.ref j,.int D]) (λV j z A B Y Z W O J U=>C1 E V H j z A B Y Z W J U) (λV O O O O O O O O O O=>(∀c∈V,∃o,H c=AA o)) (λO O O O O O O O O J O=>J.length<=1000) (λO O O O O O O O O O U=>U.length<=1000) (λV j z A B Y Z W D J U=>∀C,F3 Y Z H C->C1 E V C j z A B Y Z W (BJ (D-W) J) (BJ (D-W) U)->Q .non C)
theorem iD{K:An}(T:BA K x g):T.uv.Ok A3 P w x base 3 (lH g):=by
  show T.uv.ok λnd O0 O0 O0 O0 O0 t H vs Q E h=>?_;lk;obtain⟨M,j,i,d,f,G,I,c,Y,C,F,rfl,S,O,u,v,k⟩:=h;k_in;show⟨_,(Aa (DQ Dc rfl (DH (BC (AH 0) rfl)) (D7 2 nd) (Aa (EU (Ee (AH 2) T.fi (gT T) t (Y9 (AW LP (AH 1) (BC (AH 0) rfl)) E3)))))),?_⟩;obtain⟨dx,q⟩:=S.av;show⟨_,⟨q,T.gc,T.fo,rfl⟩,i,rfl,⟨_,Ab S.ax⟩,Gf (λn A B=>∃a:Option AD,A=[AA _,AA _,a]/\F3 G I H B/\C1 g M B j i d f G I c (if n=0 then C else BJ (Y-c) C) (if n<=1 then F else BJ (Y-c) F)) ⟨_,rfl,λb o O0 O0 e=>e,S⟩ (λn A B O0 r=>by obtain⟨_,_,_,X⟩:=r;show Ab X.ax) ?_ ?_⟩
  . intro n y A l R N;lk;obtain⟨a,rfl,z,D⟩:=N;have s:=by have:=(BH.mp R).1;show Nat.le_one_iff_eq_zero_or_eq_one.mp (aF this)
    obtain⟨p,W⟩:=D.av;have J:=D.afl (M0:=[]) (M1:=[]) z O;rcases s with rfl|rfl;. lk;cases R;obtain⟨U,L⟩:=D.s0.av;k_in;show⟨d,U,_,rfl,L,by rfl,_,⟨W,T.gc,T.ic,rfl⟩,M,d,G,C,_,rfl,D.s0,J,u,λm Z r2=>⟨_,rfl,z.aa (Xb Z),D.aex Z r2⟩⟩
    . cases R;obtain⟨U,L⟩:=D.s1.av;k_in;show⟨f,U,_,rfl,L,by rfl,_,⟨W,T.gc,T.ic,rfl⟩,M,f,I,F,_,rfl,D.s1,J,v,λm Z r2=>⟨_,rfl,z.aa (Xc Z),D.aey Z r2⟩⟩
  . intro A l N;lk;obtain⟨a,rfl,z,D⟩:=N;k_in;show k _ z D
inductive AR where|take(n k:AE)|only(n a:AE)(lo hi:Int)|turn(n a:AE)(f g:Int)|both(n a b:AE)|join(n a b:AE)(wi:Int)|gap(n a s:AE)(m:Int)|each(n a s:AE)(sz st:Int)
noncomputable def AR.abt:AR->List AL|AR.take n k=>[.inr "take",.inr n,.inr k]|AR.only n a J D=>[.inr "only",.inr n,.inr a,.inl J,.inl D]|AR.turn n a f g=>[.inr "turn",.inr n,.inr a,.inl f,.inl g]|AR.both n a b=>[.inr "both",.inr n,.inr a,.inr b]|AR.join n a b W=>[.inr "join",.inr n,.inr a,.inr b,.inl W]|AR.gap n a s m=>[.inr "gap",.inr n,.inr a,.inr s,.inl m]|AR.each n a s V U=>[.inr "each",.inr n,.inr a,.inr s,.inl V,.inl U]
noncomputable def AR.ku:AR->AE|AR.take ..=>"take"|AR.only ..=>"only"|AR.turn ..=>"turn"|AR.both ..=>"both"|AR.join ..=>"join"|AR.gap ..=>"gap"|AR.each ..=>"each"
noncomputable def AR.nm:AR->AE|AR.take n _|AR.only n _ _ _|AR.turn n _ _ _|AR.both n _ _|AR.join n _ _ _|AR.gap n _ _ _|AR.each n _ _ _ _=>n
noncomputable def AR.bz:AR->List AE|AR.take ..=>[]|AR.only _ a _ _|AR.turn _ a _ _|AR.gap _ a _ _|AR.each _ a _ _ _=>[a]|AR.both _ a b|AR.join _ a b _=>[a,b]
noncomputable def AR.cu:AR->Bool|AR.gap ..|AR.each ..=>AI|_=>AM
noncomputable def AR.adp:AR->Int|AR.both ..|AR.join ..=>4|_=>3
noncomputable def AR.aev:AR->Bool|AR.both ..|AR.join ..=>AI|_=>AM
def C4(H:AG)(p:AB)(s:AR):Prop:=H p=AA (.tup (s.abt.map Ar))
theorem C4.tp(h:C4 H p s)(t:Bd H H'):C4 H' p s:=t _ _ h
noncomputable def Ph:List AD:=[.str "both",.str "join"]
noncomputable def Mh:List AD:=[.str "each",.str "gap"]
theorem C4.ku{K:An}(h:C4 H p s):CN K H p (s.abt.map Ar)/\Cw (s.abt.map Ar) 0=AA (.str s.ku)/\Cw (s.abt.map Ar) 1=AA (.str s.nm):=by show⟨Aq h,?_⟩;cases s<;>show⟨Ao rfl,Ao rfl⟩
theorem nY:∀st:AR,FN (.str st.ku) Ph=st.aev|.take ..=>(by decide+kernel:FN (.str "take") _=false)|.only ..=>(by decide+kernel:FN (.str "only") _=false)|.turn ..=>(by decide+kernel:FN (.str "turn") _=false)|.both ..=>(by decide+kernel:FN (.str "both") _=true)|.join ..=>(by decide+kernel:FN (.str "join") _=true)|.gap ..=>(by decide+kernel:FN (.str "gap") _=false)|.each ..=>(by decide+kernel:FN (.str "each") _=false)
theorem Sv:∀st:AR,FN (.str st.ku) Mh=st.cu|.take ..=>(by decide+kernel:FN (.str "take") _=false)|.only ..=>(by decide+kernel:FN (.str "only") _=false)|.turn ..=>(by decide+kernel:FN (.str "turn") _=false)|.both ..=>(by decide+kernel:FN (.str "both") _=false)|.join ..=>(by decide+kernel:FN (.str "join") _=false)|.gap ..=>(by decide+kernel:FN (.str "gap") _=true)|.each ..=>(by decide+kernel:FN (.str "each") _=true)
noncomputable def AR.no:AR->Nat|.take ..=>0|.only ..=>1|.turn ..=>2|.both ..=>3|.join ..=>4|.gap ..=>5|.each ..=>6
noncomputable def OE:List AE:=["take","only","turn","both","join","gap","each"]
theorem Xt(st:AR):OE[st.no]?=AA st.ku:=by cases st<;>rfl
theorem nW{st:AR}(Y:OE[i]?=AA z)(e:st.ku=z):st.no=i:=by
 have Z:OE.Nodup:=by decide+kernel
 have h:=Xt st;rw[e]at h;lk;obtain⟨U,D⟩:=BH.mp h;obtain⟨V,J⟩:=BH.mp Y;k_in;have W:=Gm.mp Z;rcases aH _ i with q|q|q;.show absurd (D.trans J.symm) (W _ _ U V q)
 .show q
 .show absurd (J.trans D.symm) (W _ _ V U q)
theorem nV{st:AR}(D:OE[i]?=AA z)(e:st.no≠i):st.ku≠z:=λq=>e (nW D q)
theorem JX{st:AR}{i:Nat}{z:AE}{A B:Prop}(D:OE[i]?=AA z)(J:st.no=i->A)(U:st.no≠i->B):if Ac (AD.str st.ku=AD.str z)=AI then A else B:=by
  by_cases h:st.no=i
  . have e:=by have:=Xt st;rw[h,D]at this;show(Bt this).symm
    rw[AEE (by rw[e];show AEF rfl)];show J h
  . rw[AED (by rw[AEK];showλq=>nV D h (AD.str.inj q))];show U h
def kT:Ax:=λD H Q O=>Ei (λ(p:AB)(s:AR)=>D=[.ref p]) (λp s=>C4 H p s) (λO s=>Q (.int s.adp) H)
theorem iL{K:An}(T:BA K J U):T.vd.Ok A3 P w J base 1 kT:=by
 show T.vd.ok λZ O O O O O Y H z Q E h=>?_;lk;obtain⟨p,D,rfl,e,k⟩:=h;k_in;show⟨_,(Aa (Ay (Qm (Bj (T8) (BG K (AH 0) AO) (Ho (v:=.ref _) (by rfl) T.abe rfl) (by with_unfolding_all rfl)) AO AO))),?_⟩;lk;obtain⟨e0,e1,V⟩:=e.ku;k_in;show⟨_,_,e0,e1,_,Ph,rfl,.inr (T.abl H),rfl,rfl,_,rfl,?_⟩;have W:=nY D;show KR (λq=>?_) λq=>?_;.cases D<;>first|show k|cases q
 .cases D<;>first|show k|cases q
def lU:Ax:=λD H Q O=>Ei (λ(p:AB)(s:AR)=>D=[.ref p]) (λp s=>C4 H p s) (λO s=>Q (.str s.nm) H)
theorem iK{K:An}(T:BA K J U):T.xf.Ok A3 P w J base 1 lU:=by show T.xf.ok λW O O O O O V H Z Q E h=>?_;lk;obtain⟨p,Y,rfl,e,k⟩:=h;k_in;show⟨_,(Aa (Ay (BG K (AH 0) AO))),?_⟩;lk;obtain⟨e0,e1,D⟩:=e.ku;k_in;show⟨_,_,e0,D,k⟩
def mS:Ax:=λD H Q O=>Ei (λ(p:AB)(s:AR)=>D=[.ref p]) (λp s=>C4 H p s) (λO s=>Q (.bl s.cu) H)
theorem Wu{K:An}(T:BA K J V):T.vc.Ok A3 P w J base 1 mS:=by show T.vc.ok λZ O O O O O Y H z Q E h=>?_;lk;obtain⟨p,U,rfl,e,k⟩:=h;k_in;show⟨_,(Aa (Ay (Jm (T8) (BG K (AH 0) AO) (Ho (v:=.ref _) (by rfl) T.aap rfl) (by with_unfolding_all rfl)))),?_⟩;lk;obtain⟨e0,e1,W⟩:=e.ku;k_in;have D:=Sv U;show⟨_,_,e0,e1,_,Mh,rfl,.inr (T.aau H),rfl,rfl,?_⟩;rw[D];show k
def kY:Ax:=λJ H Q O=>Ei (λ(p:AB)(s:AR)=>J=[.ref p]) (λp s=>C4 H p s) (λO s=>∀l D,Aj H D->H l=AF->D l=AA (.lst (s.bz.map AD.str))->Q (.ref l) D)
theorem gX{K:An}(T:BA K A C):T.xc.Ok A3 P w A base 2 kY:=by
  show T.xc.ok λG O O O O O z H L Q E h=>?_;lk;obtain⟨p,D,rfl,e,k⟩:=h;k_in;show⟨_,(Ae (B0 (Bj Cs (BG K (AH 0) AO) C7 (Ba _)) (Aa (Ay (DB E3))) CQ) (Aa (Ay (Ie (MD) (by rfl) T.jt Kh (Y9 (G5 (UL) (AH 0) (GU AO) (GU (A5 (iL T) z (Y9 (AH 0) E3)))) E3))))),?_⟩;lk;obtain⟨e0,e1,F⟩:=e.ku;k_in;show⟨_,_,e0,e1,rfl,_,rfl,JX (i:=0) rfl (λZ=>?_) λZ=>?_⟩
  . have U:D.bz=[]:=by cases D<;>first|rfl|cases Z
    show⟨BZ _,λl J=>k l _ ((Bz H).ik J) J (by rw[U];show AZ)⟩
  . have U:GR (D.abt.map Ar) (AA 2) (AA D.adp)=D.bz.map AD.str:=by cases D<;>first|rfl|show absurd rfl Z
    show⟨_,rfl,p,D,rfl,e,_,rfl,p,_,rfl,e0,?_,λB Y=>⟨B,_,rfl,.inr (Aq AZ),λl J=>k l _ (((Bz H).ik Y).ik J) (by have W:=J;rw[AU (A4 AZ W).symm]at J;show J) ?_⟩⟩
    . rintro⟨q,_⟩;have J:3<=(D.abt.map Ar).length:=by cases D<;>show CY rfl
      have I:=(dJ _ 0 2).symm.trans q;simp_all
    .rw[AZ,U]
theorem C1.jo(h:C1 C ex H j z A B W Y wi U V)(D:H l=AF):C1 C (l::ex) H j z A B W Y wi U V:=by lk;obtain⟨o,Z,F,r1,n,E⟩:=h;k_in;show⟨o,Z,F.jo D,r1.jo D,n,λJ=>by rcases B6.mp J with rfl|J;rw[Z]at D;cases D;show E J⟩
def Fi(H:AG)(c:AB)(L:List AN):Prop:=∃D,H c=AA (.lst D)/\CD H D (L.map D3)
theorem Fi.ae(h:Fi H c L)(k:∀xs,H c=AA (.lst xs)->H' c=AA (.lst xs))(t:Bd H H'):Fi H' c L:=by lk;obtain⟨xs,e,w⟩:=h;k_in;show⟨xs,k _ e,w.ae t⟩
theorem fH(h:Cp i.2.1):JE (D3 i)=AI/\JE (Kw i)=AI:=by have:=h.ok;simp[JE,D3,Kw,NI,this]
theorem fL{L:List AN}(h:∀i∈L,Cp i.2.1):∀D∈L.map Kw,JE D=AI:=λD U=>by lk;obtain⟨j,J,rfl⟩:=A7.mp U;k_in;show(fH (h j J)).2
abbrev Bf:=Int×AE×AE×Int
noncomputable def eV(e:Bf):List AL:=[.inl e.1,.inr e.2.1,.inr e.2.2.1,.inl e.2.2.2]
noncomputable def IK(e:Bf):AN:=(e.1,e.2.2.1,e.2.2.2)
def HR(H:AG)(p:AB)(e:Bf):Prop:=H p=AA (.tup ((eV e).map Ar))
theorem F9(h:(AK H p o) l=AF):H l=AF:=by have D:=(A4 AZ h).symm;rw[AU D]at h;show h
noncomputable def Mt(k:AE)(e:Bf):List AN:=if e.2.1=k then[IK e]else[]
def mQ:Ax:=λJ H Q O=>TH (λ(p q:AB)(n k:AE)(e:Bf)=>J=[.ref p,.ref q]) (λp O n k O=>C4 H p (.take n k)) (λO q O O e=>HR H q e) (λO O O k e=>∀l D,Aj H D->H l=AF->Fi D l (Mt k e)->Q (.ref l) D)
theorem i6{K:An}(T:BA K Z A):T.aac.Ok A3 P w Z base 1 mQ:=by
 show T.aac.ok λF O O O O O B H I Q E h=>?_;lk;obtain⟨p,q,n,V,⟨t,C,z,W⟩,rfl,e,Y,k⟩:=h;k_in;show⟨_,(Aa (Ay (Qm (Bj Cs (BG K (AH 1) AO) (BG K (AH 0) AO) (Ba _)) (DB (Y9 (Cn (Y9 (BG K (AH 1) AO) (Y9 (BG K (AH 1) AO) (Y9 (BG K (AH 1) AO) E3)))) E3)) (DB E3)))),?_⟩;have e0:CN K H p _:=Aq e;have J:CN K H q _:=Aq Y;show⟨_,_,J,Ao rfl,_,_,e0,Ao rfl,rfl,_,rfl,Tf (λh=>?_) λh=>?_⟩
 . show⟨_,_,J,Ao rfl,_,_,J,Ao rfl,_,_,J,Ao rfl,CY rfl,λG U=>⟨CY rfl,λl D=>k l _ (((Bz H).ik U).ik D) (F9 D) ⟨_,AZ,?_⟩⟩⟩;rw[show Mt V _=[(t,z,W)]from AEE h];show(Ik _).zt (by rw[AU (A4 AZ D)];show AZ)
 . show⟨BZ _,λl D=>k l _ ((Bz H).ik D) D ⟨[],AZ,?_⟩⟩;rw[show Mt V _=[]from AED h];show Ik _
noncomputable def P7(f g:Int)(i:AN):AN:=(i.1,i.2.1,i.2.2*f+g)
def mW:Ax:=λJ H Q O=>Rp (λ(p q:AB)(n a:AE)(f g:Int)(i:AN)=>J=[.ref p,.ref q]) (λp O n a f g O=>C4 H p (.turn n a f g)) (λO O O O f O O=>(-100<=f/\f<=100)) (λO q O O O O i=>H q=AA (.tup ((D3 i).map Ar))) (λO O O O f g i=>∀r D,Aj H D->D r=AA (.tup ((D3 (P7 f g i)).map Ar))->Q (.ref r) D)
theorem i9{K:An}(T:BA K O S):T.yo.Ok A3 P w O base 1 mW:=by
 show T.yo.ok λb i i i i i X H c Q E h=>?_;lk;obtain⟨p,q,n,a,f,g,⟨t,z,D⟩,rfl,e,⟨M,N⟩,Y,k⟩:=h;k_in;show⟨_,(Aa (Ay (AW (T6) (AW (T6) (G5 (UL) (AH 1) Ih (GU AO)) (Cn (Y9 (AW GF (AW Qi (BG K (AH 1) AO) (BG K (AH 0) AO)) (BG K (AH 0) AO)) E3))) (G5 (UL) (AH 1) (GU AO) Ih)))),?_⟩;have R:CN K H q _:=Aq Y;show⟨_,rfl,q,_,rfl,R,(by change¬(B9 3 0 _=0/\B9 3 3 _=3);decide),λG Z=>?_⟩;have s1:=(Bz H).ik (o:=.tup (GR ((D3 (t,z,D)).map Ar) AF (AA 2))) Z;show⟨_,_,Aq (s1 _ _ Y),Ao rfl,_,_,Aq (s1 _ _ e),Ao rfl,.inr ⟨IE (by decide) M,Ga N (by decide)⟩,_,_,Aq (s1 _ _ e),Ao rfl,CY rfl,λI J=>?_⟩;have s2:=s1.ik (o:=.tup [AD.int (D*f+g)]) J;have B:=A4 AZ J;show⟨G,I,_,_,rfl,rfl,Aq (by rw[AU B];show AZ),Aq AZ,(by intro h;cases h),CY rfl,(λh=>by cases h),λi W A=>?_⟩;have s3:=s2.ik (o:=.tup [AD.int t,AD.str z,AD.int (D*f+g)]) A;show⟨_,rfl,q,_,rfl,Aq (s3 _ _ Y),(by change¬(B9 3 0 _=0/\B9 3 3 _=3);decide),λL U=>?_⟩;have s4:=s3.ik (o:=.tup (GR ((D3 (t,z,D)).map Ar) (AA 3) AF)) U;have C:=A4 AZ U;have F:(AK (AK (AK (AK H G (.tup [AD.int t,AD.str z])) I (.tup [AD.int (D*f+g)])) W (.tup [AD.int t,AD.str z,AD.int (D*f+g)])) L (.tup [])) W=AA (.tup [AD.int t,AD.str z,AD.int (D*f+g)]):=by rw[AU C];show AZ
 show⟨W,L,_,[],rfl,rfl,Aq F,Aq AZ,(by intro h;cases h),CY rfl,λi=>k W _ s4 F,λh=>absurd rfl h⟩
noncomputable def J8:AR->List (List AN)->List AN|.only _ _ J D,[A]=>A.filter λi=>Ac (J<=i.2.2/\i.2.2<=D)|.turn _ _ f g,[A]=>A.map (P7 f g)|.both ..,[A,B]=>A++B|.gap ..,[A]=>A|.each ..,[A]=>A|_,_=>[]
noncomputable def F2:List AE:=["count","sum","least","greatest"]
def OC:AR->Prop|.turn _ _ f _=>-100<=f/\f<=100|.gap _ _ D m=>0<=m/\D∈F2|.each _ _ D z d=>(1<=d/\d<=200000/\d<=z/\z<=4*d)/\D∈F2|_=>True
def Nz(H:AG)(J:List AD)(D:List (List AN)):Prop:=BF (λx L=>∃r,x=.ref r/\Fi H r L) J D
theorem N7{l:List α}(e:l[n]?=AA x):(l.take (n+1)).filter p=(l.take n).filter p++(if p x=AI then[x]else[]):=by rw[EI,e,GG];congr 1;change[x].filter p=_;rw[GV];cases p x<;>rfl
theorem SV(h:l.length=1):∃x,l=[x]:=List.length_eq_one_iff.mp h
theorem Rv(h:Nz H D [L]):∃r xs,D=[.ref r]/\H r=AA (.lst xs)/\CD H xs (L.map D3):=by cases h with|cons a b=>lk;cases b;obtain⟨r,rfl,xs,e,w⟩:=a;k_in;show⟨r,xs,rfl,e,w⟩
theorem nJ(h:l.length=2):∃x y,l=[x,y]:=by match l,h with|[x,y],_=>show⟨x,y,rfl⟩
theorem Vy(h:Nz H U [L,M]):∃r J xs D,U=[.ref r,.ref J]/\H r=AA (.lst xs)/\H J=AA (.lst D)/\CD H xs (L.map D3)/\CD H D (M.map D3):=by cases h with|cons a b=>cases b with|cons b c=>lk;cases c;obtain⟨r,rfl,xs,e,w⟩:=a;obtain⟨J,rfl,D,W,Y⟩:=b;k_in;show⟨r,J,xs,D,rfl,e,W,w,Y⟩
def l8:Ax:=λY H Q O=>Rn (λ(p W:AB)(s:AR)(J:List AD)(D:List (List AN))=>Y=[.ref p,.ref W]) (λp O s O O=>C4 H p s) (λO O s O O=>OC s) (λO O s O O=>s.no≠0) (λO O s O O=>s.no≠4) (λO W O J O=>H W=AA (.lst J)) (λO O O J D=>Nz H J D) (λO O s O D=>D.length=s.bz.length) (λO O O O D=>(∀L∈D,L.length<=1000)) (λO O s J D=>∀r U,Aj H U->Fi U r (J8 s D)->(H r=AF\/AD.ref r∈J)->Q (.ref r) U)
theorem iQ{K:An}{ad:Bh}(T:BA K mg ad):T.yj.Ok A3 P w mg base 2 l8:=by
  show T.yj.ok λnd O O O O O hr H vs Q E h=>?_;lk;obtain⟨p,ls,st,rs,Ls,rfl,e,ok,n0,n4,els,cs,cl,cz,k⟩:=h;k_in;show⟨_,(Ae (B0 (Bj Cs (Bc (Dj (K:=K)) (AQ 0) AO (λO O=>rfl)) C7 (Ba _)) (Aa (Ay (Od (osc:=CT Se) [("step",0)] rfl (DH (K:=K) (Bc (Dh (K:=K)) (AQ 1) AO (λO O=>rfl))) rfl rfl (by decide+kernel) (by decide+kernel) (by decide+kernel) ⟨rfl,rfl,trivial⟩ rfl (by decide+kernel) (λO O O O=>MM (tX T9 T9 (Bc (Dj (K:=K)) (AQ 1) AO (λO O=>rfl)) (Bc (Dj (K:=K)) (AQ 0) AO (λO O=>rfl)) (Bc (Dj (K:=K)) (AQ 1) AO (λO O=>rfl)))) (λO O O O=>(AQ 0))))) CQ) (Ae (B0 (Bj Cs (Bc (Dj (K:=K)) (AQ 0) AO (λO O=>rfl)) C7 (Ba _)) (Aa (Ay (Od (osc:=CT Se) [("step",0)] rfl (DH (K:=K) (Bc (Dh (K:=K)) (AQ 1) AO (λO O=>rfl))) rfl rfl (by decide+kernel) (by decide+kernel) (by decide+kernel) ⟨rfl,rfl,trivial⟩ rfl (by decide+kernel) (λO O O O=>Gi) (λO O O O=>(A5 (i9 T) hr (Y9 (AQ 1) (Y9 (AQ 0) E3))))))) CQ) (Ae (B0 (Bj Cs (Bc (Dj (K:=K)) (AQ 0) AO (λO O=>rfl)) C7 (Ba _)) (Aa (Ay (AW Gg (Bc (Dh (K:=K)) (AQ 1) AO (λO O=>rfl)) (Bc (Dh (K:=K)) (AQ 1) AO (λO O=>rfl))))) CQ) (Aa (Ay (Bc (Dh (K:=K)) (AQ 1) AO (λO O=>rfl))))))),?_⟩;have sz:Az=16777216:=D8;lk;obtain⟨e0,e1,e2⟩:=e.ku (K:=K);k_in;show⟨_,rfl,p,_,_,_,rfl,rfl,e0,e1,rfl,_,rfl,JX (i:=1) rfl (λq1=>?_) λq1=>?_⟩
  . lk;obtain⟨n,a,lo,hi,rfl⟩:∃n a lo hi,st=.only n a lo hi:=by cases st<;>first|show⟨_,_,_,_,rfl⟩|cases q1
    obtain⟨L,rfl⟩:=SV cl;obtain⟨r,xs,rfl,er,hw⟩:=Rv cs;k_in;have hL:=cz L (.head _);have hx:=hw.fq;rw[As]at hx;show⟨_,rfl,ls,_,_,_,rfl,rfl,Ab els,Ao (j:=0) rfl,r,rfl,⟨_,Ab er⟩,?_⟩;show NC (K:=K) (xs:=xs) (λm τ acc H'=>(∃o,τ=[o,AA (.ref p)])/\H'=H/\CD H acc (((L.take m).filter λi=>Ac (lo<=i.2.2/\i.2.2<=hi)).map D3)) (by lia) ⟨⟨AF,rfl⟩,rfl,Ik _⟩ (λm τ acc H'⟨_,e,_⟩=>by rw[e];show Ab er) ?_ ?_
    . intro m y τ acc H' R1 R0 hy _ hI k1 k0;lk;obtain⟨⟨o,rfl⟩,rfl,hp⟩:=hI;obtain⟨b,ks,rfl,ek,eb⟩:=hw.at hy;rw[Bl]at ek;obtain⟨⟨t,z,am⟩,ei,rfl⟩:=Dp.mp ek;k_in;have fs:=N7 (p:=λi:AN=>Ac (lo<=i.2.2/\i.2.2<=hi)) ei;show⟨_,rfl,p,_,_,_,rfl,rfl,e0,Ao (j:=3) rfl,_,rfl,b,_,_,_,rfl,rfl,Aq eb,Ao (j:=2) rfl,_,_,rfl,rfl,_,rfl,?_⟩;have no:¬(lo<=am/\am<=hi)->CD H' acc (((L.take (m+1)).filter _).map D3):=λq=>by rw[fs,AED (by rw[AEK];show q),Ea];show hp
      show IW (λh1=>?_) λh1=>⟨_,rfl,EG (k0 _ _ ⟨⟨_,rfl⟩,rfl,no λq=>h1 q.1⟩)⟩;show⟨_,rfl,p,_,_,_,rfl,rfl,e0,Ao (j:=4) rfl,_,_,rfl,rfl,_,rfl,IW (λh2=>?_) λh2=>k0 _ _ ⟨⟨_,rfl⟩,rfl,no λq=>h2 q.2⟩⟩;show⟨_,rfl,k1 _ _ _ ⟨⟨_,rfl⟩,rfl,?_⟩⟩;rw[fs,AEE (by rw[AEK];show⟨h1,h2⟩),Ce];show hp.zt eb
    . intro τ acc H' la hI D hD;lk;obtain⟨_,rfl,hp⟩:=hI;k_in;rw[Dk (BW hx.symm)]at hp;show k D _ ((Bz _).ik hD) ⟨_,AZ,hp.ae ((Bz _).ik hD).tp⟩ (.inl hD)
  . show⟨_,rfl,p,_,_,_,rfl,rfl,e0,e1,rfl,_,rfl,JX (i:=2) rfl (λq2=>?_) λq2=>?_⟩
    . lk;obtain⟨n,a,f,g,rfl⟩:∃n a f g,st=.turn n a f g:=by cases st<;>first|show⟨_,_,_,_,rfl⟩|cases q2
      obtain⟨L,rfl⟩:=SV cl;obtain⟨r,xs,rfl,er,hw⟩:=Rv cs;k_in;have hL:=cz L (.head _);have hx:=hw.fq;rw[As]at hx;show⟨_,rfl,ls,_,_,_,rfl,rfl,Ab els,Ao (j:=0) rfl,r,rfl,⟨_,Ab er⟩,?_⟩;show IU (K:=K) (xs:=xs) (λm τ acc H'=>(∃o,τ=[o,AA (.ref p)])/\Aj H H'/\CD H' acc (((L.take m).map (P7 f g)).map D3)) (by lia) ⟨⟨AF,rfl⟩,Bz _,Ik _⟩ (λm τ acc H'⟨_,s,_⟩=>Ab (s _ _ er)) ?_ ?_
      . intro m y τ acc H' R1 hy _ hI k1;lk;obtain⟨⟨o,rfl⟩,s,hp⟩:=hI;obtain⟨b,ks,rfl,ek,eb⟩:=hw.at hy;rw[Bl]at ek;obtain⟨i,ei,rfl⟩:=Dp.mp ek;k_in;show⟨_,rfl,_,rfl,p,b,n,a,f,g,i,rfl,s _ _ e,ok,s _ _ eb,λr2 H2 s2 e2=>k1 _ _ _ ⟨⟨_,rfl⟩,s.aa s2,?_⟩⟩;rw[EI,ei,Ce,Ce];show(hp.ae s2.tp).zt e2
      . intro τ acc H' la hI D hD;lk;obtain⟨_,s,hp⟩:=hI;k_in;rw[Dk (BW hx.symm)]at hp;show k D _ (s.ik hD) ⟨_,AZ,hp.ae ((Bz _).ik hD).tp⟩ (.inl (s.ar hD))
    . show⟨_,rfl,p,_,_,_,rfl,rfl,e0,e1,rfl,_,rfl,JX (i:=3) rfl (λq3=>?_) λq3=>?_⟩
      . lk;obtain⟨n,a,b,rfl⟩:∃n a b,st=.both n a b:=by cases st<;>first|show⟨_,_,_,rfl⟩|cases q3
        obtain⟨L,M,rfl⟩:=nJ cl;obtain⟨r,r',xs,xs',rfl,er,er',hw,hw'⟩:=Vy cs;k_in;have hL:=cz L (.head _);have hM:=cz M (.tail _ (.head _));have hx:=hw.fq;have hx':=hw'.fq;rw[As]at hx hx';show⟨_,rfl,ls,_,_,_,rfl,rfl,Ab els,Ao (j:=0) rfl,_,rfl,ls,_,_,_,rfl,rfl,Ab els,Ao (j:=1) rfl,r,r',xs,xs',rfl,rfl,er,er',by lia,λD hD=>k D _ ((Bz _).ik hD) ⟨_,AZ,?_⟩ (.inl hD)⟩;change CD _ _ ((L++M).map D3);rw[Ce];show CD.ae (D9 hw hw') ((Bz _).ik hD).tp
      . have n1:st.bz.length=1/\∀L,J8 st [L]=L:=by cases st<;>first|show⟨rfl,λO=>rfl⟩|show absurd rfl n0|show absurd rfl q1|show absurd rfl q2|show absurd rfl q3|show absurd rfl n4
        lk;obtain⟨L,rfl⟩:=SV (cl.trans n1.1);obtain⟨r,xs,rfl,er,hw⟩:=Rv cs;k_in;show⟨_,rfl,ls,_,_,_,rfl,rfl,Ab els,Ao (j:=0) rfl,k r _ (Bz _) (by rw[n1.2];show⟨_,er,hw⟩) (.inr (BV.mpr rfl))⟩
noncomputable def Fj(wi:Int)(A B:List AN):List (List AL):=A.flatMap λi=>Fo 0 wi i B
theorem WY(s wi:Int)(i:AN)(A B:List AN):Fo s wi i (A++B)=Fo s wi i A++Fo s wi i B:=by unfold Fo;rw[GG,Ce]
theorem eK(wi:Int)(A B:List AN)(i:AN):Fj wi (A++[i]) B=Fj wi A B++Fo 0 wi i B:=by unfold Fj;simp
theorem WA(f g:α->List D):∀l:List α,(l.flatMap λx=>f x++g x).Perm (l.flatMap f++l.flatMap g)|[]=>.nil|a::l=>by simp only[El];show((ADG _).append (WA f g l)).trans ?_;rw[E4,E4];show wN _ ?_;rw[<-E4,<-E4];show AAr _ Ou
theorem V1(wi:Int)(i:AN):∀A:List AN,(A.flatMap λj=>Fo 0 wi j [i])=Fo 1 wi i A
 |[]=>rfl|j::A=>by
  rw[El,V1 wi i A];change _=Fo 1 wi i ([j]++A);rw[WY];congr 1;unfold Fo;rw[GV,GV];by_cases h:j.2.1=i.2.1/\i.1-wi<=j.1/\j.1<=i.1+wi
  . rw[AEE (AEF h),AEE (AEF ⟨h.1.symm,dW.mpr h.2.2,dW.mp h.2.1⟩)];change[Lw 0 j i]=[Lw 1 i j];unfold Lw;rw[gG,h.1];simp
  . rw[AED (λq=>h (by have:=AEI q;show⟨this.1.symm,by lia,by lia⟩)),AED (by simpa using h)];rfl
theorem eL(wi:Int)(A B:List AN)(i:AN):(Fj wi A (B++[i])).Perm (Fj wi A B++Fo 1 wi i A):=by unfold Fj;rw[<-V1];show UU (Qx ?_) (WA _ _ A);congr 1;funext j;show WY ..
theorem V0(wi:Int)(A B:List AN):(Fj wi A B).length<=A.length*B.length:=by unfold Fj;induction A with|nil=>simp|cons i A D=>
 rw[El,Bs,MQ];have:(Fo 0 wi i B).length<=B.length:=by unfold Fo;rw[As];show Fc _ _
 lia
def lJ(K:Bh):Ax:=λM H Q O=>Vb (λ(U:List AB)(j E F G Y Z I C r1:AB)(V:Int)(D J A B:List AN)=>M=[.ref j,.ref I]) (λU j E F G Y Z O O O V D J O O=>C1 K U H j E F G Y Z V D J) (λU O O O O O O O O O O O O O O=>(∀c∈U,∃o,H c=AA o)) (λO O O O O O O I C r1 O O O O O=>H I=AA (.lst [.ref C,.ref r1])) (λO O O O O O O O C O O O O A O=>Fi H C A) (λO O O O O O O O O r1 O O O O B=>Fi H r1 B) (λO O O O O O O O O O O D O A O=>D.length+A.length<=700) (λO O O O O O O O O O O O J O B=>J.length+B.length<=700) (λU j E F G Y Z O O O V D J A B=>∀W m L z,F3 Y Z H W->C1 K U W j E F G Y Z V (D++A) (J++B)->H m=AF->W m=AA (.lst L)->CD W L z->(Fj V (D++A) (J++B)).Perm (Fj V D J++z)->Q (.ref m) W)
theorem iF{K:An}{ad:Bh}(T:BA K mg ad):T.yh.Ok A3 P w mg base 4 (lJ ad):=by
  show T.yh.ok λnd O O O O O hr H vs Q E h=>?_;lk;obtain⟨ex,j,sl,x0,x1,d0,d1,ls,r0,r1,wi,L0,L1,C,B,rfl,jr,hex,els,⟨xa,ea,wa⟩,⟨xb,eb,wb⟩,l0,l1,k⟩:=h;k_in;show⟨_,(Ae (Bq (i:=2) nd rfl (BX rfl) (DB E3)) (Ae (DQ Dc rfl (Qo (K:=K) (by rfl) T.jz (AQ 1)) (NP rfl (Ig (G6 (i:=3) nd rfl (BX rfl)) (Ig (G6 (i:=4) nd rfl (BX rfl)) NQ))) (Aa (DQ Dc rfl (DH (K:=K) (AQ 4)) (G6 (i:=5) nd rfl (BX rfl)) (Aa (EU (Ic (K:=K) Le O5 RE NK (AQ 2) (Y9 (Ee (AQ 0) T.gc (gR T) hr (Y9 (AQ 3) (Y9 (AQ 5) E3))) E3))))))) (Aa (Ay (AQ 2))))),?_⟩;have sz:Az=16777216:=D8;show⟨BZ _,λu hu=>?_⟩;have s0:=Bb (o:=.lst []) hu;have eu0:(AK H u (.lst [])) u=AA (.lst []):=AZ;have sx:∀{n:Nat}{x:AD},[AD.ref r0,AD.ref r1][n]?=AA x->n<=1/\∃r xs,x=.ref r/\H r=AA (.lst xs)/\CD H xs ((if n=0 then C else B).map D3):=λ{n x}e=>by match n,e with|0,e=>cases e;show⟨by decide,r0,xa,rfl,ea,wa⟩|1,e=>cases e;show⟨by decide,r1,xb,rfl,eb,wb⟩
  have bnd:∀(X Y:List AN)(kss:List (List AL)),X.length<=700->Y.length<=700->(Fj wi X Y).Perm (Fj wi L0 L1++kss)->kss.length<=490000:=λX Y kss hX hY pm=>by have h1:=pm.length_eq;rw[Bs]at h1;have h2:=V0 wi X Y;have h3:=aK hX hY;lia
  show⟨_,rfl,ls,rfl,⟨_,Ab (s0 _ _ els)⟩,Tb (K:=K) (xs:=[.ref r0,.ref r1]) (λn σ H'=>OP (λ(o3 o4 o5:Option AD)(acc:List AD)(kss:List (List AL))=>σ=[AA (.ref j),AA (.ref ls),AA (.ref u),o3,o4,o5]) (λO O O O O=>F3 d0 d1 H H') (λO O O O O=>C1 ad (u::ex) H' j sl x0 x1 d0 d1 wi (L0++(if n=0 then[]else C)) (L1++(if n<=1 then[]else B))) (λO O O acc O=>H' u=AA (.lst acc)) (λO O O acc kss=>CD H' acc kss) (λO O O O kss=>(Fj wi (L0++(if n=0 then[]else C)) (L1++(if n<=1 then[]else B))).Perm (Fj wi L0 L1++kss))) ⟨AF,AF,AF,[],[],rfl,Xa s0 _ _,by simpa using(jr.jo hu).ah s0,eu0,Ik _,by simp⟩ (λn σ H' O hh=>by obtain⟨_,_,_,_,_,_,s',_⟩:=hh;show Ab (jr.y s' els (by intro kvs z;cases z))) ?_ ?_⟩
  . intro n x σ H1 p hx hI hp;lk;obtain⟨o3,o4,o5,acc,kss,rfl,s1,jr1,eu,hw1,pm1⟩:=hI;obtain⟨n1,r,xs,rfl,er,hw⟩:=sx hx;k_in;have s2:=Bb (o:=.tup [.int (n:Int),.ref r]) hp;have lx:=hw.fq;rw[As]at lx;show⟨p,_,rfl,Aq AZ,rfl,_,_,rfl,_,_,rfl,rfl,?_⟩;show⟨_,rfl,r,rfl,⟨_,Ab (s2 _ _ (jr.y s1 er (by intro kvs z;cases z)))⟩,Gf (K:=K) (xs:=xs) (λm σ H'=>TF (λ(o5:Option AD)(acc:List AD)(kss:List (List AL))=>σ=[AA (.ref j),AA (.ref ls),AA (.ref u),AA (.int (n:Int)),AA (.ref r),o5]) (λO O O=>F3 d0 d1 H H') (λO O O=>C1 ad (u::ex) H' j sl x0 x1 d0 d1 wi (L0++(if n=0 then C.take m else C)) (L1++(if n=0 then[]else B.take m))) (λO acc O=>H' u=AA (.lst acc)) (λO acc kss=>CD H' acc kss) (λO O kss=>(Fj wi (L0++(if n=0 then C.take m else C)) (L1++(if n=0 then[]else B.take m))).Perm (Fj wi L0 L1++kss))) ⟨_,acc,kss,rfl,s1.aa (Xa s2 _ _),?_,s2 _ _ eu,hw1.ae s2.tp,?_⟩ (λm σ H' O hh=>by obtain⟨_,_,_,_,s',_⟩:=hh;show Ab (jr.y s' er (by intro kvs z;cases z))) ?_ ?_⟩
    . have j2:=jr1.ah s2;by_cases hn:n=0;.subst hn;simpa using j2
      . have:n=1:=EJ n1 (Jp.mpr hn);subst this;simpa using j2
    . by_cases hn:n=0;.subst hn;simpa using pm1
      . have:n=1:=EJ n1 (Jp.mpr hn);subst this;simpa using pm1
    . intro m y σ H2 hy hI;lk;obtain⟨o5,acc,kss,rfl,sy,jr2,eu2,hw2,pm2⟩:=hI;obtain⟨b,ks,rfl,ek,eb2⟩:=hw.at hy;rw[Bl]at ek;obtain⟨it,ei,rfl⟩:=Dp.mp ek;obtain⟨dx,ej⟩:=jr2.av;k_in;have hl0:(L0++(if n=0 then C.take m else C)).length<=700:=by
        rw[Bs];split;.rw[Em];lia
        .show l0
      have hl1:(L1++(if n=0 then[]else B.take m)).length<=700:=by
        rw[Bs];split;.simp;show DY l1
        .rw[Em];lia
      have lacc:acc.length<=490000:=by rw[hw2.fq];show bnd _ _ _ hl0 hl1 pm2
      have h01:(n:Int)=0\/(n:Int)=1:=by lia
      have hex2:∀c∈u::ex,∃o,H2 c=AA o:=λc hc=>by
        rcases B6.mp hc with rfl|hc;.show⟨_,eu2⟩
        . obtain⟨o,eo⟩:=hex c hc;obtain⟨⟨k0,g0⟩,k1,g1⟩:=jr2.ye;by_cases q0:c=d0;.rw[q0];show⟨_,g0⟩
          . by_cases q1:c=d1;.rw[q1];show⟨_,g1⟩
            .show⟨_,sy c o q0 q1 eo⟩
      show⟨_,rfl,.inl ⟨rfl,_,Ab eu2⟩,_,rfl,j,dx,_,rfl,ej,by rfl,_,rfl,_,rfl,u::ex,j,sl,x0,x1,d0,d1,b,wi,(n:Int),_,_,it,rfl,jr2,h01,hex2,jr.aeg sy _ _ eb2,Af hl0 (by decide),Af hl1 (by decide),λH3 r3 xr kr sx3 jr3 hr3 er3 hwr sdr pmr=>?_⟩;have sy3:F3 d0 d1 H2 H3:=by
        rcases h01 with e|e;.rw[AEE e]at sx3;show Xb sx3
        .rw[AED (by simp_all)]at sx3;show Xc sx3
      have eu3:=jr2.y sy3 eu2 (by intro kvs z;cases z);have hw3:=hw2.ae (jr2.aeg sy3);have lr:xr.length<=700:=by
        rw[hwr.fq,pmr.length_eq];unfold Fo;rw[As];show Af (Fc _ _) ?_;split;.show hl1
        .show hl0
      show⟨u,r3,_,_,rfl,rfl,eu3,er3,by lia,?_⟩;have tpu:Bd H3 (AK H3 u (.lst (acc++xr))):=(Ge H3).ik eu3 λxs=>by intro z;cases z
      have j4:=(jr3.ji).xj (o:=.lst (acc++xr)) eu3 (.head _);have tk:(L0++(if n=0 then C.take (m+1)else C))=(if(n:Int)=0 then(L0++(if n=0 then C.take m else C))++[it]else(L0++(if n=0 then C.take m else C)))/\(L1++(if n=0 then[]else B.take (m+1)))=(if(n:Int)=0 then(L1++(if n=0 then[]else B.take m))else(L1++(if n=0 then[]else B.take m))++[it]):=by
        by_cases hn:n=0
        . subst hn;have ei:C[m]?=AA it:=ei;simp[EI,ei]
        . have:n=1:=EJ n1 (Jp.mpr hn);subst this;have ei:B[m]?=AA it:=ei;simp[EI,ei]
      show⟨_,acc++xr,kss++kr,rfl,λc o q0 q1 e=>?_,by rw[tk.1,tk.2];show j4,AZ,CD.ae (D9 hw3 hwr) tpu,?_⟩
      . have hc:c≠u:=λz=>by rw[z,hu]at e;cases e
        rw[AU hc];show(sy.aa sy3) c o q0 q1 e
      . rw[tk.1,tk.2,<-E4];rcases h01 with e|e
        . rw[AEE e]at pmr;rw[AEE e,AEE e];rw[e]at pmr;rw[eK];show pm2.append pmr.symm
        . rw[AED (show¬(n:Int)=0 by simp_all),AED (show¬(n:Int)=0 by simp_all)];rw[e]at pmr;show(eL ..).trans (pm2.append pmr.symm)
    . intro σ H2 hI;lk;obtain⟨o5,acc,kss,rfl,sy,jr2,eu2,hw2,pm2⟩:=hI;k_in;have tk:(L0++(if n=0 then C.take xs.length else C))=(L0++(if n+1=0 then[]else C))/\(L1++(if n=0 then[]else B.take xs.length))=(L1++(if n+1<=1 then[]else B)):=by
        by_cases hn:n=0
        . subst hn;rw[AEE rfl]at lx;simp[lx]
        . have:n=1:=EJ n1 (Jp.mpr hn);subst this;rw[AED (by decide)]at lx;simp[lx]
      rw[tk.1,tk.2]at jr2 pm2;show⟨_,_,_,acc,kss,rfl,sy,jr2,eu2,hw2,pm2⟩
  . intro σ H1 hI;lk;obtain⟨o3,o4,o5,acc,kss,rfl,s1,jr1,eu,hw1,pm1⟩:=hI;k_in;show⟨_,rfl,k H1 u acc kss s1 (by simpa using jr1.ji) hu eu hw1 (by simpa using pm1)⟩
noncomputable def Wh(i j:AN):AN:=(IL i.1 j.1,i.2.1,i.2.2-j.2.2)
noncomputable def J6(wi:Int)(i j:AN):Bool:=Ac (j.2.1=i.2.1/\i.1-wi<=j.1/\j.1<=i.1+wi)
noncomputable def Ct(wi:Int)(A B:List AN):List AN:=A.flatMap λi=>(B.filter (J6 wi i)).map (Wh i)
theorem Rx(wi:Int)(A B:List AN):Fj wi A B=(Ct wi A B).map D3:=by unfold Fj Ct Fo;rw[Z5];congr 1;funext i;rw[DX];rfl
noncomputable def OD:List AL->AN|[.inl t,.inr z,.inl a]=>(t,z,a)|_=>(0,"",0)
theorem nK(i:AN):OD (D3 i)=i:=rfl
noncomputable def ED(s:AR)(L:AE->List AN)(evs:List Bf):List AN:=match s with|.take _ k=>(evs.filter λe=>Ac (e.2.1=k)).map IK|.only _ a J D=>(L a).filter λi=>Ac (J<=i.2.2/\i.2.2<=D)|.turn _ a f g=>(L a).map (P7 f g)|.both _ a b=>L b++L a|.join _ a b U=>Ct U (L a) (L b)|.gap ..|.each ..=>[]
def F0(s:AR)(bt:AE->List AN)(S:List AN×List AN)(e:Bf):Prop:=match s with|.take n k=>bt n=Mt k e|.join n a b D=>(Ct D (S.1++bt a) (S.2++bt b)).Perm (Ct D S.1 S.2++bt n)|.only n a U J=>bt n=J8 (.only n a U J) [bt a]|.turn n a f g=>bt n=J8 (.turn n a f g) [bt a]|.both n a b=>bt n=bt a++bt b|.gap n a _ _=>bt n=bt a|.each n a _ _ _=>bt n=bt a
theorem WB(f g:α->List D)(h:∀x,(f x).Perm (g x)):∀l:List α,(l.flatMap f).Perm (l.flatMap g)|[]=>.nil|x::r=>by show(h x).append (WB f g h r)
theorem Ry(p:A.Perm D)(q:B.Perm J):(Ct wi A B).Perm (Ct wi D J):=(p.flatMap_right _).trans (WB _ _ (λi=>(q.filter _).map _) D)
theorem eO:Ct wi (A++C) B=Ct wi A B++Ct wi C B:=Q1
theorem Pm:∀{A:List AN},(Ct wi A (B++D)).Perm (Ct wi A B++Ct wi A D)|[]=>.nil|i::A=>by have J:=Pm (wi:=wi) (B:=B) (D:=D) (A:=A);unfold Ct at J⊢;rw[El,El,El,GG,Ce];show(ADF (.refl _) J).trans ?_;rw[E4,E4];show .append (.refl _) ?_;rw[<-E4,<-E4];show Ou.append (.refl _)
theorem V4(h:∀y∈D,now<=y.1):∀A:List AN,Ct wi (BJ (now-wi) A) D=Ct wi A D
  |[]=>rfl|i::A=>by
    have J:=V4 (wi:=wi) h A;unfold Ct BJ at J⊢;rw[GV];split;.rw[El,El,J]
    . rename_i q;have e:D.filter (J6 wi i)=[]:=MP.mpr λy U z=>by obtain⟨_,_,z⟩:=AEI z;have:=h y U;rw[AEK]at q;show absurd (dW.mpr (Fh this z)) q
      rw[El,e,J];rfl
theorem V5:∀{C:List AN},(∀y∈C,now<=y.1)->Ct wi C (BJ (now-wi) B)=Ct wi C B
 |[],_=>rfl|i::C,h=>by
  have D:=V5 (wi:=wi) (B:=B) λy J=>h y (.tail _ J);unfold Ct BJ at D⊢;rw[El,El,D,JK];have e:(B.filter λa=>J6 wi i a&&Ac _)=B.filter (J6 wi i):=Kb λy O=>by cases q:J6 wi i y with |false=>rfl|true=> obtain⟨_,z,_⟩:=AEI q;have:=h i (.head _);show AEF (Fh (AAo this _) z)
  rw[e]
noncomputable def Rz(wi:Int)(A B C D:List AN):List AN:=Ct wi A D++Ct wi C (B++D)
theorem V3:(Ct wi (A++C) (B++D)).Perm (Ct wi A B++Rz wi A B C D):=by rw[eO];show(Pm.append (.refl _)).trans (by rw[E4];show .refl _)
theorem V6(W:∀y∈C,now<=y.1)(Y:∀y∈D,now<=y.1)(p:J.Perm (BJ (now-wi) A))(q:U.Perm (BJ (now-wi) B))(h:(Ct wi (J++C) (U++D)).Perm (Ct wi J U++M)):M.Perm (Rz wi A B C D):=by have V:=(List.perm_append_left_iff _).mp (h.symm.trans V3);show V.trans (((Ry p (.refl _)).trans (.of_eq (V4 Y A))).append ?_);show(Ry (.refl _) (q.append (.refl _))).trans (Pm.trans ?_);rw[V5 W];show Pm.symm
theorem eM(V:∀y∈C,now<=y.1)(W:∀y∈D,now<=y.1):∀y∈Rz wi A B C D,now<=y.1:=λy J=>by
 have U:∀{X Y:List AN},((∀y∈X,now<=y.1)\/∀y∈Y,now<=y.1)->y∈Ct wi X Y->now<=y.1:=λ{X Y}h J=>by
  obtain⟨i,Z,J⟩:=Q4.mp J;obtain⟨j,z,rfl⟩:=A7.mp J;change now<=IL _ _;unfold IL;rcases h with h|h;.have:=h i Z;split<;>(first|lia|omega)
  .have:=h j (EH.mp z).1;split<;>lia
 rcases CS.mp J with J|J;.show U (.inr W) J
 .show U (.inl V) J
theorem Vx(W:s.cu=AM)(m:L s.nm=ED s L evs)(Z:J s.nm=ED s J (evs++[e]))(U:∀a∈s.bz,(J a).Perm (L a++bt a))(Y:∀n a b wi,s=.join n a b wi->S.1.Perm (BJ (now-wi) (L a))/\S.2.Perm (BJ (now-wi) (L b)))(V:∀a∈s.bz,∀y∈bt a,now<=y.1)(D:F0 s bt S e):(J s.nm).Perm (L s.nm++bt s.nm):=by rw[m,Z];cases s with
 |take n k=>
  change((evs++[e]).filter _|>.map IK).Perm ((evs.filter _).map _++bt n);rw[D,GG,Ce];unfold Mt;by_cases q:e.2.1=k;. rw[AEE q,Uc (by show AEF q)];show .refl _
  . rw[AED q,Ub (by rw[AEK];show q)];show .refl _|only n a A z=> have D:bt n=(bt a).filter _:=D;change((J a).filter _).Perm ((L a).filter _++bt n);rw[D,<-GG];show(U a (.head _)).filter _|turn n a f g=>have D:bt n=(bt a).map _:=D;change((J a).map _).Perm ((L a).map _++bt n);rw[D,<-Ce];show(U a (.head _)).map _|both n a b=>change(J b++J a).Perm (L b++L a++bt n);rw[D];show((U b (.tail _ (.head _))).append (U a (.head _))).trans ?_;rw[E4,E4];show .append (.refl _) ?_;show Ou.trans ?_;rw[E4]|join n a b wi=>obtain⟨p,q⟩:=Y n a b wi rfl;show(Ry (U a (.head _)) (U b (.tail _ (.head _)))).trans ?_;show V3.trans (.append (.refl _) (V6 (V a (.head _)) (V b (.tail _ (.head _))) p q D).symm)|gap=>cases W|each=>cases W
theorem eG{L:AE->List AN}(W:now<=e.1)(V:∀n a b wi,s=.join n a b wi->S.1.Perm (BJ (now-wi) (L a))/\S.2.Perm (BJ (now-wi) (L b)))(J:∀a∈s.bz,∀y∈bt a,now<=y.1)(U:F0 s bt S e):∀y∈bt s.nm,now<=y.1:=λy D=>by cases s with
 |take n k=>
  have D:y∈bt n:=D;rw[U]at D;unfold Mt at D;split at D;.rw[BV.mp D];show W
  .cases D|only n a B A=>have D:y∈bt n:=D;rw[U]at D;show J a (.head _) y (EH.mp D).1|turn n a f g=> have D:y∈bt n:=D;rw[U]at D;lk;obtain⟨x,Y,rfl⟩:=A7.mp D;k_in;show J a (.head _) x Y|both n a b=>have D:y∈bt n:=D;rw[U]at D;show(CS.mp D).elim (J a (.head _) y) (J b (.tail _ (.head _)) y)|join n a b wi=>obtain⟨p,q⟩:=V n a b wi rfl;show eM (J a (.head _)) (J b (.tail _ (.head _))) y ((V6 (J a (.head _)) (J b (.tail _ (.head _))) p q U).mem_iff.mp D)|gap n a Z m=>have D:y∈bt n:=D;rw[U]at D;show J a (.head _) y D|each n a Z z d=>have D:y∈bt n:=D;rw[U]at D;show J a (.head _) y D
theorem F0.adn(J:D s.nm=bt s.nm)(U:∀a∈s.bz,D a=bt a)(h:F0 s bt S e):F0 s D S e:=by cases s with|take n k=>show J.trans h|only n a Y W=>change D n=J8 _ _;rw[U a (.head _),<-h];show J|turn n a f g=>change D n=J8 _ _;rw[U a (.head _),<-h];show J|both n a b=>change D n=D a++D b;rw[U a (.head _),U b (.tail _ (.head _)),<-h];show J|join n a b V=>have J:D n=bt n:=J;change(Ct V _ _).Perm _;rw[U a (.head _),U b (.tail _ (.head _)),J];show h|gap n a s m=>change D n=D a;rw[U a (.head _),<-h];show J|each n a s z m=>change D n=D a;rw[U a (.head _),<-h];show J
structure C8(ss:List AR):Prop where
 bj:∀(i i':Nat)s s',ss[i]?=AA s->ss[i']?=AA s'->s.nm=s'.nm->i=i'
 qm:∀(i:Nat)s a,ss[i]?=AA s->a∈s.bz->∃(i':Nat)(s':AR),i'<i/\ss[i']?=AA s'/\s'.nm=a/\s'.cu=AM
 ok:∀s∈ss,OC s
noncomputable def Bi(bt:AE->List AN)(n:AE)(L:List AN):AE->List AN:=λa=>if a=n then L else bt a
theorem HV:Bi bt n L n=L:=AEE rfl
theorem C8.adh(h:C8 ss){i k:Nat}(D:ss[i]?=AA s)(J:ss[k]?=AA t)(U:k<i)(bt:AE->List AN)(L:List AN):Bi bt s.nm L t.nm=bt t.nm:=AED λe=>by have:=h.bj k i t s J D e;simp_all
theorem C8.jh(h:C8 ss){i k:Nat}(J:ss[i]?=AA s)(U:ss[k]?=AA t)(W:k<=i)(bt:AE->List AN)(L:List AN)(V:a∈t.bz):Bi bt s.nm L a=bt a:=by lk;obtain⟨Y,Z,l,D,rfl,_⟩:=h.qm k t a U V;k_in;show h.adh J D (BK l W) bt L
theorem C8.adk(h:C8 ss)(U:ss[i]?=AA s){sd:Nat->List AN×List AN}(L:List AN)(Y:∀(k:Nat)t,k<i->ss[k]?=AA t->F0 t bt (sd k) e)(Z:F0 s (Bi bt s.nm L) (sd i) e):∀(k:Nat)t,k<i+1->ss[k]?=AA t->F0 t (Bi bt s.nm L) (sd k) e:=λk t V J=>by
 by_cases D:k=i;.subst D;rw[U]at J;cases J;show Z
 .show(Y k t (Cy (Dl V) D) J).adn (h.adh U J (Cy (Dl V) D) bt L) λa W=>h.jh U J (Dl V) bt L W
theorem C8.aci(h:C8 ss){L:AE->List AN}{sd:Nat->List AN×List AN}(Y:now<=e.1)(V:∀(i:Nat)n a b wi,ss[i]?=AA (.join n a b wi)->(sd i).1.Perm (BJ (now-wi) (L a))/\(sd i).2.Perm (BJ (now-wi) (L b)))(W:∀(i:Nat)s,i<n->ss[i]?=AA s->F0 s bt (sd i) e):∀m,m<=n->∀(i:Nat)s,i<m->ss[i]?=AA s->∀y∈bt s.nm,now<=y.1|0,_,i,_,D,_=>absurd D (Il _)|m+1,Z,i,s,D,J=>by have B:=C8.aci h Y V W m (DY Z);show eG Y (λn a b wi q=>V i n a b wi (by rw[<-q];show J)) (λa z=>?_) (W i s (BK D Z) J);lk;obtain⟨A,E,C,U,rfl,_⟩:=h.qm i s a J z;k_in;show B A E (BK C (Dl D)) U
def FD(H:AG)(ps:List AD)(ss:List AR):Prop:=BF (λx s=>∃a,x=.ref a/\C4 H a s) ps ss
theorem FD.ae(h:FD H ps ss)(t:Bd H H'):FD H' ps ss:=Hm (λx s⟨a,e,q⟩=>⟨a,e,q.tp t⟩) h
theorem FD.fq(h:FD H ps ss):ps.length=ss.length:=(CO h).1
theorem FD.at(h:FD H ps ss){i:Nat}(e:ps[i]?=AA x):∃a s,x=.ref a/\ss[i]?=AA s/\C4 H a s:=by lk;obtain⟨l,f⟩:=CO h;have J:=(BH.mp e).1;have D:=Cd (show i<ss.length by simp_all);obtain⟨a,r1,r2⟩:=f i x _ e D;k_in;show⟨a,_,r1,D,r2⟩
def CA(p:AB->Prop)(H H':AG):Prop:=∀b o,¬p b->H b=AA o->H' b=AA o
theorem C1.gh{K:AB}(h:C1 M ex H j G K L U W wi B E)(s:CA p H H')(Y:∀b,p b->(b∈ex/\∃xs,H b=AA (.lst xs))\/∃kvs,H b=AA (.dK kvs))(O:¬p U)(P:¬p W):C1 M ex H' j G K L U W wi B E:=by
 have Z:∀{b:AB}{C D:AB}{J:List _},H b=AA _->H' b=AA (.ins C D J):=λ{b C D J}e=>s _ _ (λq=>by rcases Y b q with⟨_,xs,z⟩|⟨kvs,z⟩<;>(rw[e]at z;cases z)) e;have A:∀{b:AB}{xs:List AD},b∉ex->H b=AA _->H' b=AA (.lst xs):=λ{b xs}n e=>s _ _ (λq=>by
  rcases Y b q with⟨z,_⟩|⟨kvs,z⟩;.show n z
  .rw[e]at z;cases z) e;have I:Bd H H':=λb xs e=>s _ _ (λq=>by rcases Y b q with⟨_,xs,z⟩|⟨kvs,z⟩<;>(rw[e]at z;cases z)) e;lk;obtain⟨⟨D,e⟩,N,Q,r1,n,F⟩:=h;k_in;show⟨⟨D,Z e⟩,A F N,Q.ae (λC D J e=>Z e) (λkvs e=>s _ _ O e) (λb xs n e=>A n e) I,r1.ae (λC D J e=>Z e) (λkvs e=>s _ _ P e) (λb xs n e=>A n e) I,n,F⟩
theorem Kx(h:Fu H a u)(s:∀o,H a=AA o->H' a=AA o):Fu H' a u:=by show h.elim (λe=>.inl (s _ e)) λD=>?_;obtain⟨o,e⟩:=D;show .inr ⟨o,s _ e⟩
theorem XM(h:Fu H a u)(D:H b=AF):a≠b:=λz=>by rcases h with e|⟨o,e⟩<;>(rw[z,D]at e;cases e)
structure EO where
 j:AB
 sl:AB
 x0:AB
 x1:AB
 d0:AB
 d1:AB
def EB(ss:List AR)(i:Nat):Prop:=∃(n a b:AE)(D:Int),ss[i]?=AA (.join n a b D)
section
variable{ad:Bh}
structure Ck(ad:Bh)(ex:List AB)(H:AG)(ss:List AR)(dj:AB)(jkvs:List (AL×AD))(jd:Nat->EO)(sd:Nat->List AN×List AN):Prop where
 ao:Fu H dj (.dK jkvs)ie:∀(i:Nat)(n a b:AE)(wi:Int),ss[i]?=AA (.join n a b wi)->Br jkvs (.inl (i:Int))=AA (.ref (jd i).j)/\C1 ad ex H (jd i).j (jd i).sl (jd i).x0 (jd i).x1 (jd i).d0 (jd i).d1 wi (sd i).1 (sd i).2
 bj:∀i i':Nat,EB ss i->EB ss i'->i≠i'->((jd i').d0≠(jd i).d0/\(jd i').d0≠(jd i).d1)/\(jd i').d1≠(jd i).d0/\(jd i').d1≠(jd i).d1
 xu:∀i:Nat,EB ss i->dj≠(jd i).d0/\dj≠(jd i).d1
end
def D2(ss:List AR)(D:Nat->EO)(b:AB):Prop:=∃i,EB ss i/\(b=(D i).d0\/b=(D i).d1)
theorem Ck.ah(h:Ck Y ex H ss J D U sd)(s:Aj H H'):Ck Y ex H' ss J D U sd:=⟨Kx h.ao (s _),λi n a b W e=>⟨(h.ie i n a b W e).1,(h.ie i n a b W e).2.ah s⟩,h.bj,h.xu⟩
theorem Ck.jo(h:Ck Y ex H ss J D U sd)(Z:H l=AF):Ck Y (l::ex) H ss J D U sd:=⟨h.ao,λi n a b W e=>⟨(h.ie i n a b W e).1,(h.ie i n a b W e).2.jo Z⟩,h.bj,h.xu⟩
theorem Ck.ji(h:Ck Y (l::ex) H ss J D U sd):Ck Y ex H ss J D U sd:=⟨h.ao,λi n a b W e=>⟨(h.ie i n a b W e).1,(h.ie i n a b W e).2.ji⟩,h.bj,h.xu⟩
theorem Ck.gh(h:Ck Z ex H ss J D U sd)(s:CA p H H')(A:∀b,p b->(b∈ex/\∃xs,H b=AA (.lst xs))\/∃kvs,H b=AA (.dK kvs))(W:∀b,p b->¬D2 ss U b)(z:¬p J):Ck Z ex H' ss J D U sd:=⟨Kx h.ao λo=>s _ o z,λi n a b Y e=>⟨(h.ie i n a b Y e).1,(h.ie i n a b Y e).2.gh s A (λq=>W _ q ⟨i,⟨_,_,_,_,e⟩,.inl rfl⟩) λq=>W _ q ⟨i,⟨_,_,_,_,e⟩,.inr rfl⟩⟩,h.bj,h.xu⟩
theorem Ck.pj(h:Ck z ex H ss B J D sd)(W:ss[i]?=AA (.join n a b wi))(s:F3 (D i).d0 (D i).d1 H H')(g:C1 z ex H' (D i).j (D i).sl (D i).x0 (D i).x1 (D i).d0 (D i).d1 wi M0 M1):Ck z ex H' ss B J D λk=>if k=i then(M0,M1)else sd k:=by
 have Y:EB ss i:=⟨_,_,_,_,W⟩;show⟨Kx h.ao λo=>s _ o (h.xu i Y).1 (h.xu i Y).2,λk G E F C U=>⟨(h.ie k _ _ _ _ U).1,?_⟩,h.bj,h.xu⟩;by_cases Z:k=i
 . subst Z;rw[W]at U;cases U;rw[AEE rfl];show g
 . rw[AED Z];have A:=h.bj i k Y ⟨_,_,_,_,U⟩ (DZ Z);show(h.ie i _ _ _ _ W).2.yx (h.ie k _ _ _ _ U).2 s A.1 A.2
def HU(H:AG)(xs:List AD)(ps:List (Int×AN)):Prop:=BF (λx p=>∃a q,x=.ref a/\H a=AA (.tup [.int p.1,.ref q])/\H q=AA (.tup ((D3 p.2).map Ar))) xs ps
theorem HU.ae(h:HU H xs ps)(t:Bd H H'):HU H' xs ps:=Hm (λx p J=>by obtain⟨a,q,e,e1,D⟩:=J;show⟨a,q,e,t _ _ e1,t _ _ D⟩) h
theorem HU.fq(h:HU H xs ps):xs.length=ps.length:=(CO h).1
theorem HU.at(h:HU H xs ps){i:Nat}(e:xs[i]?=AA x):∃a q s it,x=.ref a/\ps[i]?=AA (s,it)/\H a=AA (.tup [.int s,.ref q])/\H q=AA (.tup ((D3 it).map Ar)):=by lk;obtain⟨l,f⟩:=CO h;have U:=(BH.mp e).1;have D:=Cd (show i<ps.length by simp_all);obtain⟨a,q,r1,r2,J⟩:=f i x _ e D;k_in;show⟨a,q,_,_,r1,D,r2,J⟩
theorem Ck.ax(h:Ck z ex H ss W D Y sd)(e:∀i,EB ss i->J i=sd i):Ck z ex H ss W D Y J:=⟨h.ao,λi n a b Z U=>⟨(h.ie i n a b Z U).1,by rw[e i ⟨_,_,_,_,U⟩];show(h.ie i n a b Z U).2⟩,h.bj,h.xu⟩
noncomputable def ER(ss:List AR)(sd:Nat->List AN×List AN)(n:Nat)(bt:AE->List AN)(i:Nat):List AN×List AN:=match ss[i]? with|AA (.join _ a b _)=>if i<n then((sd i).1++bt a,(sd i).2++bt b)else sd i|_=>sd i
theorem JZ(e:ss[i]?=AA (.join m a b wi)):ER ss sd n bt i=if i<n then((sd i).1++bt a,(sd i).2++bt b)else sd i:=by unfold ER;rw[e]
theorem jY(ss:List AR)(sd:Nat->List AN×List AN)(bt:AE->List AN):ER ss sd 0 bt=sd:=by
 funext i;unfold ER;split;.show AED (Il _)
 .rfl
theorem jX(V:C8 ss)(J:ss[n]?=AA s)(Y:s.no≠4)(L:List AN):∀i,EB ss i->ER ss sd (n+1) (Bi bt s.nm L) i=ER ss sd n bt i:=by
  intro i W;lk;obtain⟨m,a,b,z,D⟩:=W;k_in;rw[JZ D,JZ D];by_cases h:i<n;.rw[AEE (Ni h),AEE h,V.jh J D (Bg h) bt L (.head _),V.jh J D (Bg h) bt L (.tail _ (.head _))]
  . by_cases U:i=n
    . subst U;rw[J]at D;cases D;show absurd rfl Y
    .rw[AED (Kg U (λZ=>EJ (Dl Z) (E6 h))),AED h]
theorem jW(U:C8 ss)(D:ss[n]?=AA (.join m a b wi))(L:List AN):∀i,EB ss i->ER ss sd (n+1) (Bi bt m L) i=if i=n then((ER ss sd n bt n).1++bt a,(ER ss sd n bt n).2++bt b)else ER ss sd n bt i:=by
  intro i C;lk;obtain⟨G,Z,z,F,J⟩:=C;k_in;have V:=U.jh D D (Ag _) bt L (.head _);have W:=U.jh D D (Ag _) bt L (.tail _ (.head _));have V:Bi bt m L a=bt a:=V;have W:Bi bt m L b=bt b:=W;by_cases Y:i=n;. subst Y;rw[D]at J;rw[JZ D,JZ D,AEE rfl,AEE (Jo _),AED (GI _),V,W]
  . rw[AED Y,JZ J,JZ J];by_cases h:i<n
    . have A:Bi bt m L Z=bt Z:=U.jh D J (by lia) bt L (.head _);have B:Bi bt m L z=bt z:=U.jh D J (by lia) bt L (.tail _ (.head _));rw[AEE (by lia),AEE h,A,B]
    .rw[AED (Kg h (λE=>Cy (Dl E) Y)),AED h]
noncomputable def Ex(ss:List AR)(bt:AE->List AN):Nat->List (Int×AN)|0=>[]|n+1=>Ex ss bt n++(match ss[n]? with|AA s=>if s.cu=AI then(bt s.nm).map λi=>((n:Int),i)else[]|AF=>[])
theorem Xo(J:C8 ss)(D:ss[i]?=AA s)(bt:AE->List AN)(L:List AN):∀n,n<=i->Ex ss (Bi bt s.nm L) n=Ex ss bt n|0,_=>rfl|n+1,h=>by unfold Ex;rw[Xo J D bt L n (DY h)];congr 1;cases U:ss[n]? with|none=>rfl|some t=>change(if t.cu=AI then _ else _)=_;rw[J.adh D U (by assumption) bt L]
theorem jL{st:AR}(W:st.no≠0)(Y:st.no≠4)(U:L=J8 st (st.bz.map bt))(J:∀a∈st.bz,Bi bt st.nm L a=bt a):F0 st (Bi bt st.nm L) S e:=by cases st with|take=>show absurd rfl W|join=>show absurd rfl Y|only n f A Z=>have D:Bi bt n L f=bt f:=J f (.head _);change Bi bt n L n=J8 _ [Bi bt n L f];rw[HV,D,U];rfl|turn n f x y=>have D:Bi bt n L f=bt f:=J f (.head _);change Bi bt n L n=J8 _ [Bi bt n L f];rw[HV,D,U];rfl|both n f g=>have D:Bi bt n L f=bt f:=J f (.head _);have V:Bi bt n L g=bt g:=J g (.tail _ (.head _));change Bi bt n L n=Bi bt n L f++Bi bt n L g;rw[HV,D,V,U];rfl|gap n f x y=>have D:Bi bt n L f=bt f:=J f (.head _);change Bi bt n L n=Bi bt n L f;rw[HV,D,U];rfl|each n f x y z=>have D:Bi bt n L f=bt f:=J f (.head _);change Bi bt n L n=Bi bt n L f;rw[HV,D,U];rfl
theorem nM{X Y:List AN}(p:(X.map D3).Perm (Y.map D3++kss)):∃M:List AN,kss=M.map D3/\X.Perm (Y++M):=by
  show⟨kss.map OD,?_,?_⟩
  . rw[DX];have:∀D∈kss,(D3∘OD) D=D:=λD J=>by obtain⟨i,_,rfl⟩:=A7.mp (p.mem_iff.mpr (Eb _ J));rfl
    rw[Nc this,AA4]
  . have:=p.map OD;have e:OD∘D3=id:=funext nK;rw[Ce,DX,DX,e,Z6,Z6]at this;show this
theorem SX[DecidableEq D](kvs:List (D×AD))(k:D)(v:AD):(Bk kvs k v).length<=kvs.length+1:=by
 unfold Bk;split;.simp
 .rw[Bs];show Ag _
theorem Xn:∀{n:Nat},(∀(i:Nat)s,i<n->ss[i]?=AA s->(bt s.nm).length<=600)->(Ex ss bt n).length<=600*n |0,_=>Ag _|n+1,h=>by have D:=Xn (n:=n) λi s V J=>h i s (by lia) J;unfold Ex;rw[Bs];cases U:ss[n]? with |none=>show JM (xE D)|some t=>
 have:=h n t (by simp) U;change _+(if t.cu=AI then _ else[]).length<=_;split;.rw[As];lia
 .show JM (xE D)
def mL(K:Bh):Ax:=λN H Q O=>Va (λ(Z:List AB)(G A q:AB)(E:List AD)(D:List AR)(J:List (AL×AD))(B:Nat->EO)(W:Nat->List AN×List AN)(L C:AE->List AN)(Y:List Bf)(e:Bf)(U:Int)=>N=[.ref G,.ref A,.ref q]) (λO G O O E O O O O O O O O O=>H G=AA (.lst E)) (λO O O O E D O O O O O O O O=>FD H E D) (λO O O O O D O O O O O O O O=>C8 D) (λO O O O O D O O O O O O O O=>D.length<=20) (λZ O A O O D J B W O O O O O=>Ck K Z H D A J B W) (λZ O O O O O O O O O O O O O=>(∀c∈Z,∃o,H c=AA o)) (λO O O q O O O O O O O O e O=>HR H q e) (λO O O O O D O O O L C Y e O=>(∀(i:Nat)s,D[i]?=AA s->s.cu=AM->L s.nm=ED s L Y/\C s.nm=ED s C (Y++[e])/\(C s.nm).length<=600)) (λO O O O O D O O W L O O O U=>(∀(i:Nat)n a b I,D[i]?=AA (.join n a b I)->(W i).1.Perm (BJ (U-I) (L a))/\(W i).2.Perm (BJ (U-I) (L b)))) (λO O O O O O O O O O O O e U=>U<=e.1) (λZ O A O O D J B W O O O e O=>∀z m M F,CA (D2 D B) H z->Ck K (m::Z) z D A J B (ER D W D.length F)->H m=AF->z m=AA (.lst M)->HU z M (Ex D F D.length)->(∀(i:Nat)s,D[i]?=AA s->F0 s F (W i) e)->Q (.ref m) z)
theorem iX{K:An}{ad:Bh}(T:BA K mg ad):T.ym.Ok A3 P w mg base 5 (mL ad):=by
  show T.ym.ok λnd O O O O O hr H vs Q E h=>?_;lk;obtain⟨ex,lp,dj,q,ps,ss,jkvs,jd,sd,L,L',evs,e,now,rfl,elp,pr,pok,lss,jr,hex,ev,hL,hS,he,k⟩:=h;k_in;show⟨_,(Ae (Bq (i:=3) nd rfl (xR rfl) LQ) (Ae (Bq (i:=4) nd rfl (BX rfl) (DB E3)) (Ae (DQ Dc rfl (Qo (K:=K) (by rfl) T.jz (AQ 0)) (NP rfl (Ig (G6 (i:=5) nd rfl (xR rfl)) (Ig (G6 (i:=6) nd rfl (BX rfl)) NQ))) (Ae (Oe (i:=7) (osc:=CT Sf) [("brought",3)] nd rfl (BX rfl) rfl (DH (K:=K) (A5 (gX T) hr (Y9 (AQ 6) E3))) rfl rfl (by decide+kernel) (by decide+kernel) (by decide+kernel) ⟨rfl,rfl,trivial⟩ rfl (by decide+kernel) (λO O O O=>Gi) (λO O O O=>(GS hr.u1 (AQ 1) (AQ 0) (λO O=>rfl)))) (Ae (Ii (B0 (Bj Cs (Bc (Dj (K:=K)) (AQ 6) AO (λO O=>rfl)) C7 (Ba _)) (Aa (Bq (i:=8) nd rfl (BX rfl) (A5 (i6 T) hr (Y9 (AQ 6) (Y9 (AQ 2) E3))))) (Aa (B0 (Bj Cs (Bc (Dj (K:=K)) (AQ 6) AO (λO O=>rfl)) C7 (Ba _)) (Aa (Bq (i:=8) nd rfl (BX rfl) (A5 (iF T) hr (Y9 (GS hr.u1 (AQ 1) (AQ 5) (λO O=>rfl)) (Y9 (AQ 7) E3))))) (Aa (Bq (i:=8) nd rfl (BX rfl) (A5 (iQ T) hr (Y9 (AQ 6) (Y9 (AQ 7) E3))))))))) (Ae (LR hr.u1 (AQ 3) (A5 (iK T) hr (Y9 (AQ 6) E3)) (AQ 8) rfl) (Aa (B0 (Ij (A5 (Wu T) hr (Y9 (AQ 6) E3))) (Aa (EU (Ic (K:=K) Le O5 RE NK (AQ 4) (Y9 (Od (osc:=CT Sf) [("place",5)] rfl (DH (K:=K) (AQ 8)) rfl rfl (by decide+kernel) (by decide+kernel) (by decide+kernel) ⟨rfl,rfl,trivial⟩ rfl (by decide+kernel) (λO O O O=>Gi) (λO O O O=>(Cn (Y9 (AQ 1) (Y9 (AQ 0) E3))))) E3)))) CQ)))))) (Aa (Ay (AQ 4)))))),?_⟩;have sz:Az=16777216:=D8;have lps:=pr.fq;have isd:∀b,D2 ss jd b->∃kvs,H b=AA (.dK kvs):=λb hb=>by
    obtain⟨i,⟨n,a,b',wi,ei⟩,hb⟩:=hb;obtain⟨⟨k0,e0⟩,k1,e1⟩:=(jr.ie i n a b' wi ei).2.ye;rcases hb with rfl|rfl;.show⟨_,e0⟩
    .show⟨_,e1⟩
  showλbr hbr=>⟨BZ _,λu hu0=>?_⟩;have hu:H u=AF:=F9 hu0;have nbu:br≠u:=A4 AZ hu0;have s0:Aj H (AK (AK H br (.dK [])) u (.lst [])):=((Bz H).ik hbr).ik hu0;have ebr0:(AK (AK H br (.dK [])) u (.lst [])) br=AA (.dK []):=by rw[AU nbu];show AZ
  have eu0:(AK (AK H br (.dK [])) u (.lst [])) u=AA (.lst []):=AZ;generalize AK (AK H br (.dK [])) u (.lst [])=H0 at s0 ebr0 eu0⊢;have keep:∀{H':AG}{b:AB}{o:BL},CA (D2 ss jd) H H'->H b=AA o->(∀kvs,o≠.dK kvs)->H' b=AA o:=λ{H' b o}s eo hn=>s b o (λz=>by obtain⟨kvs,ek⟩:=isd b z;rw[eo]at ek;show hn _ (Bt ek)) eo;show⟨_,rfl,lp,rfl,⟨_,Ab (s0 _ _ elp)⟩,Tb (K:=K) (xs:=ps) (λn σ H'=>Vl (λ(o5 o6 o7 o8:Option AD)(kvs:List (AL×AD))(acc:List AD)(bt:AE->List AN)=>σ=[AA (.ref lp),AA (.ref dj),AA (.ref q),AA (.ref br),AA (.ref u),o5,o6,o7,o8]) (λO O O O O O O=>CA (D2 ss jd) H H') (λO O O O O O bt=>Ck ad (u::ex) H' ss dj jkvs jd (ER ss sd n bt)) (λO O O O kvs O O=>kvs.length<=n) (λO O O O kvs O O=>H' br=AA (.dK kvs)) (λO O O O O acc O=>H' u=AA (.lst acc)) (λO O O O O acc bt=>HU H' acc (Ex ss bt n)) (λO O O O O O bt=>(∀(i:Nat)s,i<n->ss[i]?=AA s->F0 s bt (sd i) e)) (λO O O O kvs O bt=>(∀(i:Nat)s,i<n->ss[i]?=AA s->∃r,Br kvs (.inr s.nm)=AA (.ref r)/\Fi H' r (bt s.nm)/\r≠u/\(bt s.nm).length<=600)) (λO O O O O O bt=>(∀(i:Nat)s,i<n->ss[i]?=AA s->s.cu=AM->(L' s.nm).Perm (L s.nm++bt s.nm)))) ⟨AF,AF,AF,AF,[],[],λO=>[],rfl,λb o O eo=>s0 _ _ eo,?_,Ag _,ebr0,eu0,.nil,λi s h=>absurd h (Il _),λi s h=>absurd h (Il _),λi s h=>absurd h (Il _)⟩ (λn σ H' O hh=>by obtain⟨_,_,_,_,_,_,_,_,s',_⟩:=hh;show Ab (keep s' elp (by intro kvs z;cases z))) ?_ ?_⟩;. rw[jY];show(jr.jo hu).ah s0
  . intro n x σ H1 p hx hI hp;lk;obtain⟨o5,o6,o7,o8,kvs,acc,bt,rfl,s1,jr1,lk1,eb1,eu1,it1,br1,cm1,pm1⟩:=hI;obtain⟨a,st,rfl,es,ea⟩:=pr.at hx;k_in;have hn:n<ss.length:=(BH.mp es).1;have s2:=Bb (o:=.tup [.int (n:Int),.ref a]) hp;have ea1:C4 H1 a st:=keep s1 ea (by intro kvs z;cases z);show⟨p,_,rfl,Aq AZ,rfl,_,_,rfl,_,_,rfl,rfl,?_⟩;show⟨_,rfl,a,st,rfl,ea1.tp s2.tp,λlf Hf sf hlf elf=>⟨lf,rfl,⟨_,Ab elf⟩,?_⟩⟩;have s3:=s2.aa sf;have cmf:∀(i:Nat)s,i<n->ss[i]?=AA s->∃r,Br kvs (.inr s.nm)=AA (.ref r)/\Fi Hf r (bt s.nm)/\r≠u/\(bt s.nm).length<=600:=λi s hi ei=>by obtain⟨r,v1,v2,v3,v4⟩:=cm1 i s hi ei;show⟨r,v1,v2.ae (λxs z=>s3 _ _ z) s3.tp,v3,v4⟩
    have lf5:st.bz.length<=2:=by cases st<;>show Ed rfl
    show IU (K:=K) (xs:=st.bz.map AD.str) (λm τ acc H'=>(∃o,τ=[o,AA (.ref br)])/\H'=Hf/\Nz Hf acc ((st.bz.take m).map bt)/\∀r,AD.ref r∈acc->r≠u) (by rw[As];lia) ⟨⟨AF,rfl⟩,rfl,.nil,λr hr=>by cases hr⟩ (λm τ acc H'⟨_,ee,_⟩=>by rw[ee];show Ab elf) ?_ ?_
    . intro m y τ acc H' R1 hy _ hI k1;lk;obtain⟨⟨o,rfl⟩,rfl,hc,hru⟩:=hI;rw[Bl]at hy;obtain⟨f,ef,rfl⟩:=Dp.mp hy;obtain⟨i',s',li,ei',rfl,_⟩:=pok.qm n st f es (CZ ef);obtain⟨r,v1,v2,v3,v4⟩:=cmf i' s' li ei';k_in;show⟨_,rfl,_,rfl,br,.ref r,rfl,?_,k1 _ _ _ ⟨⟨_,rfl⟩,rfl,?_,λr' hr'=>?_⟩⟩;. rw[<-v1];show L6 (k:=.inr s'.nm) (s3 _ _ eb1)
      . rw[EI,ef,Ce];show D9 hc (.cons ⟨r,rfl,v2⟩ .nil)
      . rcases CS.mp hr' with h|h;.show hru r' h
        .cases BV.mp h;show v3
    . intro τ acc2 H' la hI ls hls;lk;obtain⟨_,rfl,hc,ru4⟩:=hI;k_in;rw[As,Dk (Ag _)]at hc;have s4:=s3.ik (o:=.lst acc2) hls;have sl4:=Bb (o:=.lst acc2) hls;have els:(AK H' ls (.lst acc2)) ls=AA (.lst acc2):=AZ;have hc4:Nz (AK H' ls (.lst acc2)) acc2 (st.bz.map bt):=Hm (λx L⟨r,e1,e2⟩=>⟨r,e1,e2.ae (λxs z=>sl4 _ _ z) sl4.tp⟩) hc;have cm4:∀(i:Nat)s,i<n->ss[i]?=AA s->∃r,Br kvs (.inr s.nm)=AA (.ref r)/\Fi (AK H' ls (.lst acc2)) r (bt s.nm)/\r≠u/\(bt s.nm).length<=600:=λi s hi ei=>by obtain⟨r,v1,v2,v3,v4⟩:=cmf i s hi ei;show⟨r,v1,v2.ae (λxs z=>sl4 _ _ z) sl4.tp,v3,v4⟩
      generalize AK H' ls (.lst acc2)=H4 at s4 els hc4 cm4⊢;have sp4:CA (D2 ss jd) H H4:=λb o nb eo=>s4 _ _ (s1 b o nb eo);have jr4:=jr1.ah s4;have ea4:C4 H4 a st:=ea1.tp s4.tp;have eb4:=s4 _ _ eb1;have ev4:HR H4 q e:=s4 _ _ (keep s1 ev (by intro kvs z;cases z));have eu4:=s4 _ _ eu1;have it4:=it1.ae s4.tp;have fz:∀f∈st.bz,(L' f).Perm (L f++bt f)/\(L f).length+(bt f).length<=600:=λf hf=>by obtain⟨i',s',li,ei',rfl,ht⟩:=pok.qm n st f es hf;have pp:=pm1 i' s' li ei' ht;have:=pp.length_eq;rw[Bs]at this;have:=(hL i' s' ei' ht).2.2;show⟨pp,by simp_all⟩
      show IV (λσ' H'=>Rk (λ(r:AB)(Lr:List AN)=>σ'=[AA (.ref lp),AA (.ref dj),AA (.ref q),AA (.ref br),AA (.ref u),AA (.int (n:Int)),AA (.ref a),AA (.ref ls),AA (.ref r)]) (λO O=>CA (D2 ss jd) H H') (λO Lr=>Ck ad (u::ex) H' ss dj jkvs jd (ER ss sd (n+1) (Bi bt st.nm Lr))) (λO O=>H' br=AA (.dK kvs)) (λO O=>H' u=AA (.lst acc)) (λO O=>HU H' acc (Ex ss bt n)) (λr Lr=>Fi H' r Lr) (λr O=>r≠u) (λO Lr=>F0 st (Bi bt st.nm Lr) (sd n) e) (λO O=>C4 H' a st) (λr O=>∀(i:Nat)s,i<n->ss[i]?=AA s->∃r,Br kvs (.inr s.nm)=AA (.ref r)/\Fi H' r (bt s.nm)/\r≠u/\(bt s.nm).length<=600)) ?_ ?_
      . lk;obtain⟨e0,e1,e2⟩:=ea4.ku (K:=K);k_in;have plain:∀{r:AB}{Lr:List AN}{H5:AG},Aj H4 H5->st.no≠4->Fi H5 r Lr->r≠u->F0 st (Bi bt st.nm Lr) (sd n) e->(λ(σ':List (Option AD))(H':AG)=>Rk (λ(r:AB)(Lr:List AN)=>σ'=[AA (.ref lp),AA (.ref dj),AA (.ref q),AA (.ref br),AA (.ref u),AA (.int (n:Int)),AA (.ref a),AA (.ref ls),AA (.ref r)]) (λO O=>CA (D2 ss jd) H H') (λO Lr=>Ck ad (u::ex) H' ss dj jkvs jd (ER ss sd (n+1) (Bi bt st.nm Lr))) (λO O=>H' br=AA (.dK kvs)) (λO O=>H' u=AA (.lst acc)) (λO O=>HU H' acc (Ex ss bt n)) (λr Lr=>Fi H' r Lr) (λr O=>r≠u) (λO Lr=>F0 st (Bi bt st.nm Lr) (sd n) e) (λO O=>C4 H' a st) (λr O=>∀(i:Nat)s,i<n->ss[i]?=AA s->∃r,Br kvs (.inr s.nm)=AA (.ref r)/\Fi H' r (bt s.nm)/\r≠u/\(bt s.nm).length<=600)) _ H5:=λ{r Lr H5}s5 n4 cr ru bs=>⟨r,Lr,rfl,λb o nb eo=>s5 _ _ (sp4 b o nb eo),(jr4.ah s5).ax (jX pok es n4 Lr),s5 _ _ eb4,s5 _ _ eu4,it4.ae s5.tp,cr,ru,bs,ea4.tp s5.tp,λi s hi ei=>by obtain⟨r,v1,v2,v3,v4⟩:=cm4 i s hi ei;show⟨r,v1,v2.ae (λxs z=>s5 _ _ z) s5.tp,v3,v4⟩⟩;show⟨_,rfl,a,_,_,_,rfl,rfl,e0,e1,rfl,_,rfl,JX (i:=0) rfl (λq0=>?_) λq0=>?_⟩
        . lk;obtain⟨nn,kd,rfl⟩:∃nn kd,st=.take nn kd:=by cases st<;>first|show⟨_,_,rfl⟩|cases q0
          k_in;show⟨_,rfl,_,rfl,a,q,nn,kd,e,rfl,ea4,ev4,λr H5 s5 hr5 cr=>plain s5 (by intro z;cases z) cr (A4 eu4 hr5).symm ?_⟩;show HV
        . show⟨_,rfl,a,_,_,_,rfl,rfl,e0,e1,rfl,_,rfl,JX (i:=4) rfl (λq4=>?_) λq4=>?_⟩
          . lk;obtain⟨nn,f,g,wi,rfl⟩:∃nn f g wi,st=.join nn f g wi:=by cases st<;>first|show⟨_,_,_,_,rfl⟩|cases q4
            obtain⟨jv,jj⟩:=jr4.ie n nn f g wi es;have e9:ER ss sd n bt n=sd n:=by rw[JZ es,AED (GI _)]
            rw[e9]at jj;obtain⟨r0,r1,xs0,xs1,rfl,er0,er1,w0,w1⟩:=Vy hc4;have z0:=fz f (.head _);have z1:=fz g (.tail _ (.head _));obtain⟨pf,pg⟩:=hS n nn f g wi es;k_in;have lf0:(sd n).1.length<=(L f).length:=pf.length_eq▸Lz _ _;have lg0:(sd n).2.length<=(L g).length:=pg.length_eq▸Lz _ _;have hex4:∀c∈u::ex,∃o,H4 c=AA o:=λc hc=>by
              rcases B6.mp hc with rfl|hc;.show⟨_,eu4⟩
              . obtain⟨o,eo⟩:=hex c hc;by_cases hd:D2 ss jd c
                . obtain⟨i,⟨n',a',b',wi',ei⟩,hd⟩:=hd;obtain⟨⟨k0,g0⟩,k1,g1⟩:=(jr4.ie i n' a' b' wi' ei).2.ye;rcases hd with rfl|rfl;.show⟨_,g0⟩
                  .show⟨_,g1⟩
                .show⟨_,sp4 c o hd eo⟩
            show⟨_,rfl,_,rfl,dj,.ref (jd n).j,rfl,by rw[<-jv];show .inl ⟨jkvs,.inl (n:Int),jr4.ao,rfl,rfl⟩,_,rfl,u::ex,(jd n).j,(jd n).sl,(jd n).x0,(jd n).x1,(jd n).d0,(jd n).d1,ls,r0,r1,wi,(sd n).1,(sd n).2,bt f,bt g,rfl,jj,hex4,els,⟨_,er0,w0⟩,⟨_,er1,w1⟩,by lia,by lia,λH5 m xs5 kss sy5 j5 hm em hw5 pm5=>?_⟩;have sp5:CA (D2 ss jd) H4 H5:=λb o nb eo=>sy5 b o (λz=>nb ⟨n,⟨_,_,_,_,es⟩,.inl z⟩) (λz=>nb ⟨n,⟨_,_,_,_,es⟩,.inr z⟩) eo;have ky:∀{b:AB}{o:BL},H4 b=AA o->(∀kvs,o≠.dK kvs)->H5 b=AA o:=λeo hn=>jj.y sy5 eo hn;have tp5:=jj.aeg sy5;rw[Rx,Rx]at pm5;lk;obtain⟨M,rfl,pmM⟩:=nM pm5;k_in;have nbr:¬D2 ss jd br:=λz=>by obtain⟨kv,ek⟩:=isd br z;rw[hbr]at ek;cases ek
            have fe:∀a'∈(AR.join nn f g wi).bz,Bi bt nn M a'=bt a':=λa' ha'=>pok.jh es es (Ag _) bt M ha';show⟨m,M,rfl,λb o nb eo=>sp5 b o nb (sp4 b o nb eo),?_,sp5 _ _ nbr eb4,ky eu4 (by intro kv z;cases z),it4.ae tp5,⟨_,em,hw5⟩,(A4 eu4 hm).symm,?_,ea4.tp tp5,λi s hi ei=>?_⟩
            . show(jr4.pj es sy5 j5).ax λi hi=>?_;have q:=jW pok (sd:=sd) (bt:=bt) es M i hi;rw[e9]at q;show q
            . change(Ct wi ((sd n).1++Bi bt nn M f) ((sd n).2++Bi bt nn M g)).Perm (Ct wi (sd n).1 (sd n).2++Bi bt nn M nn);rw[fe f (.head _),fe g (.tail _ (.head _)),HV];show pmM
            . lk;obtain⟨r,v1,v2,v3,v4⟩:=cm4 i s hi ei;k_in;show⟨r,v1,v2.ae (λxs z=>ky z (by intro kv z;cases z)) tp5,v3,v4⟩
          . have bf:∀f∈st.bz,(bt f).length<=1000:=λf hf=>by have:=(fz f hf).2;show Af (Q7 this) (by decide)
            show⟨_,rfl,_,rfl,a,ls,st,acc2,st.bz.map bt,rfl,ea4,pok.ok st (CZ es),q0,q4,els,hc4,by rw[As],λL hL=>by obtain⟨f,hf,rfl⟩:=A7.mp hL;show bf f hf,λr H5 s5 cr hr5=>plain s5 q4 cr ?_ (jL q0 q4 rfl λf hf=>pok.jh es es (Ag _) bt _ hf)⟩;rcases hr5 with hr5|hr5;.show(A4 eu4 hr5).symm
            .show ru4 r hr5
      . intro σ H5 hI;lk;obtain⟨r,Lr,rfl,sp5,jr5,eb5,eu5,it5,cr5,ru5,bs5,ea5,cm5⟩:=hI;k_in;show⟨_,rfl,_,rfl,_,rfl,a,st,rfl,ea5,br,_,rfl,.inl ⟨_,.inr st.nm,eb5,rfl,?_,rfl⟩,?_⟩;.lia
        have nbr:¬D2 ss jd br:=λz=>by obtain⟨kv,ek⟩:=isd br z;rw[hbr]at ek;cases ek
        have ndj:dj≠br:=XM jr.ao hbr;have s6:CA (.=br) H5 (AK H5 br (.dK (Bk kvs (.inr st.nm) (.ref r)))):=λb o nb eo=>by rw[AU nb];show eo
        have ne6:∀{b:AB}{o:BL},H5 b=AA o->(∀kv,o≠.dK kv)->b≠br:=λeo hn z=>by rw[z,eb5]at eo;show hn _ (Bt eo).symm
        have tp6:Bd H5 (AK H5 br (.dK (Bk kvs (.inr st.nm) (.ref r)))):=λb xs eo=>s6 _ _ (ne6 eo (by intro kv z;cases z)) eo;have sp6:CA (D2 ss jd) H (AK H5 br (.dK (Bk kvs (.inr st.nm) (.ref r)))):=λb o nb eo=>s6 _ _ (λz=>by rw[z,hbr]at eo;cases eo) (sp5 b o nb eo);have jr6:=jr5.gh s6 (λb hb=>.inr ⟨kvs,by rw[hb];show eb5⟩) (λb hb=>by rw[hb];show nbr) ndj;have eu6:(AK H5 br (.dK (Bk kvs (.inr st.nm) (.ref r)))) u=AA (.lst acc):=s6 _ _ (ne6 eu5 (by intro kv z;cases z)) eu5;have it6:=it5.ae tp6;have ck6:∀{b:AB}{M:List AN},Fi H5 b M->Fi (AK H5 br (.dK (Bk kvs (.inr st.nm) (.ref r)))) b M:=λc=>c.ae (λxs z=>s6 _ _ (ne6 z (by intro kv z;cases z)) z) tp6;have cr6:=ck6 cr5;have ea6:=ea5.tp tp6;have eb6:(AK H5 br (.dK (Bk kvs (.inr st.nm) (.ref r)))) br=AA (.dK (Bk kvs (.inr st.nm) (.ref r))):=AZ;have bt6:=pok.adk es Lr br1 bs5;have fz6:∀f∈st.bz,Bi bt st.nm Lr f=bt f:=λf hf=>pok.jh es es (Ag _) bt Lr hf;have pmn:st.cu=AM->(L' st.nm).Perm (L st.nm++Bi bt st.nm Lr st.nm):=λht=>Vx ht (hL n st es ht).1 (hL n st es ht).2.1 (λf hf=>by rw[fz6 f hf];show(fz f hf).1) (λn' a' b' wi' q=>hS n n' a' b' wi' (by rw[<-q];show es)) (λf hf=>by rw[fz6 f hf];obtain⟨i',s',li,ei',rfl,_⟩:=pok.qm n st f es hf;show pok.aci he hS br1 n (Ag _) i' s' li ei') bs5;have lr6:Lr.length<=600:=by cases ht:st.cu with |false=> have:=(pmn ht).length_eq;rw[Bs,HV]at this;have:=(hL n st es ht).2.2;lia|true=>
            obtain⟨f,hf,eq⟩:∃f∈st.bz,Bi bt st.nm Lr st.nm=Bi bt st.nm Lr f:=by cases st with |gap n' f x y=>show⟨f,.head _,bs5⟩|each n' f x y z=>show⟨f,.head _,bs5⟩|_=>cases ht
            rw[HV,fz6 f hf]at eq;have:=(fz f hf).2;rw[eq];show Q7 this
        have cm6:∀(i:Nat)s,i<n+1->ss[i]?=AA s->∃r',Br (Bk kvs (.inr st.nm) (.ref r)) (.inr s.nm)=AA (.ref r')/\Fi (AK H5 br (.dK (Bk kvs (.inr st.nm) (.ref r)))) r' (Bi bt st.nm Lr s.nm)/\r'≠u/\(Bi bt st.nm Lr s.nm).length<=600:=λi s hi ei=>by
          by_cases hin:i=n
          . subst hin;rw[es]at ei;cases ei;show⟨r,by rw[Ka,AEE rfl],by rw[HV];show cr6,ru5,by rw[HV];show lr6⟩
          . obtain⟨r',v1,v2,v3,v4⟩:=cm5 i s (Cy (Dl hi) hin) ei;have eo:=pok.adh es ei (Cy (Dl hi) hin) bt Lr;show⟨r',?_,by rw[eo];show ck6 v2,v3,by rw[eo];show v4⟩;rw[Ka,AED (λz=>hin (pok.bj i n s st ei es (Gr z)))];show v1
        have pm6:∀(i:Nat)s,i<n+1->ss[i]?=AA s->s.cu=AM->(L' s.nm).Perm (L s.nm++Bi bt st.nm Lr s.nm):=λi s hi ei ht=>by
          by_cases hin:i=n
          . subst hin;rw[es]at ei;cases ei;show pmn ht
          . rw[pok.adh es ei (Cy (Dl hi) hin) bt Lr];show pm1 i s (Cy (Dl hi) hin) ei ht
        have lk6:=SX kvs (.inr st.nm) (.ref r);have tl6:=Xo pok es bt Lr n (Ag _);generalize AK H5 br (.dK (Bk kvs (.inr st.nm) (.ref r)))=H6 at sp6 jr6 eu6 it6 cr6 ea6 eb6 cm6⊢;show⟨_,rfl,a,st,rfl,ea6,_,rfl,KR (λht=>?_) λht=>?_⟩
        . lk;obtain⟨xs6,er6,w6⟩:=cr6;k_in;have lx6:=w6.fq;rw[As]at lx6;show⟨_,rfl,.inl ⟨rfl,_,Ab eu6⟩,_,rfl,r,rfl,⟨_,Ab er6⟩,?_⟩;show IU (K:=K) (xs:=xs6) (λm τ acc' H'=>(∃o,τ=[o,AA (.int (n:Int))])/\Aj H6 H'/\HU H' acc' ((Lr.take m).map λi=>((n:Int),i))) (by lia) ⟨⟨AF,rfl⟩,Bz _,.nil⟩ (λm τ acc' H'⟨_,s,_⟩=>Ab (s _ _ er6)) ?_ ?_
          . intro m y τ acc' H' R1 hy _ hI k1;lk;obtain⟨⟨o,rfl⟩,s,hp⟩:=hI;obtain⟨b,ks,rfl,ek,eb⟩:=w6.at hy;rw[Bl]at ek;obtain⟨i,ei,rfl⟩:=Dp.mp ek;k_in;show⟨_,rfl,_,rfl,Ed rfl,λp2 hp2=>k1 _ _ _ ⟨⟨_,rfl⟩,s.ik hp2,?_⟩⟩;have sp2:=Bb (o:=.tup [.int (n:Int),.ref b]) hp2;rw[EI,ei,Ce];show D9 (hp.ae sp2.tp) (.cons ⟨p2,b,rfl,AZ,sp2 _ _ (s _ _ eb)⟩ .nil)
          . intro τ acc' H7 la hI D hD;lk;obtain⟨_,s7,hp7⟩:=hI;k_in;rw[Dk (BW lx6.symm)]at hp7;have s8:=s7.ik (o:=.lst acc') hD;have sD:=Bb (o:=.lst acc') hD;have eD:(AK H7 D (.lst acc')) D=AA (.lst acc'):=AZ;have hp8:=hp7.ae sD.tp;generalize AK H7 D (.lst acc')=H8 at s8 eD hp8⊢;have eu8:=s8 _ _ eu6;have la6:acc.length<=600*n:=by rw[it6.fq];show Xn λi s hi ei=>by obtain⟨_,_,_,_,v4⟩:=cm1 i s hi ei;show v4
            show⟨u,D,acc,acc',rfl,rfl,eu8,eD,by lia,?_⟩;have s9:CA (.=u) H8 (AK H8 u (.lst (acc++acc'))):=λb o nb eo=>by rw[AU nb];show eo
            have tp9:Bd H8 (AK H8 u (.lst (acc++acc'))):=λb xs eo=>s9 _ _ (λz=>by rw[z,eu8]at eo;cases eo) eo;have nud:¬D2 ss jd u:=λz=>by obtain⟨kv,ek⟩:=isd u z;rw[hu]at ek;cases ek
            have ndu:dj≠u:=XM jr.ao hu;show⟨_,_,_,_,_,acc++acc',Bi bt st.nm Lr,rfl,λb o nb eo=>s9 _ _ (λz=>by rw[z,hu]at eo;cases eo) (s8 _ _ (sp6 b o nb eo)),?_,Af lk6 (Gn.mpr lk1),s9 _ _ nbu (s8 _ _ eb6),AZ,?_,bt6,λi s hi ei=>?_,pm6⟩;.show(jr6.ah s8).gh s9 (λb hb=>.inl ⟨by rw[hb];show .head _,acc,by rw[hb];show eu8⟩) (λb hb=>by rw[hb];show nud) ndu
            . change HU _ _ (Ex ss (Bi bt st.nm Lr) n++_);rw[tl6,es];change HU _ _ (Ex ss bt n++(if st.cu=AI then _ else[]));rw[AEE ht,HV];show HU.ae (D9 (it6.ae s8.tp) hp8) tp9
            . lk;obtain⟨r',v1,v2,v3,v4⟩:=cm6 i s hi ei;k_in;show⟨r',v1,v2.ae (λxs z=>s9 _ _ v3 (s8 _ _ z)) (λb xs z=>tp9 _ _ (s8 _ _ z)),v3,v4⟩
        . have ht:st.cu=AM:=ht;show⟨_,_,_,_,_,acc,Bi bt st.nm Lr,rfl,sp6,jr6,Af lk6 (Gn.mpr lk1),eb6,eu6,?_,bt6,cm6,pm6⟩;change HU H6 acc (Ex ss (Bi bt st.nm Lr) n++_);rw[tl6,es];change HU H6 acc (Ex ss bt n++(if st.cu=AI then _ else[]));rw[ht,AED DN,Ea];show it6
  . intro σ H1 hI;lk;obtain⟨o5,o6,o7,o8,kvs,acc,bt,rfl,s1,jr1,lk1,eb1,eu1,it1,br1,cm1,pm1⟩:=hI;k_in;rw[lps]at jr1 it1 br1;show⟨_,rfl,k H1 u acc bt s1 jr1 hu eu1 it1 λi s ei=>br1 i s (BH.mp ei).1 ei⟩
def mK(K:An):Ax:=λU H Q O=>Hh (λ(a:AB)(D:List Int)=>U=[.ref a]) (λa D=>Bp K H a (D.map AD.int)) (λO D=>D.length<=63) (λO O=>∀(c:Int)J,Aj H J->(c=1\/c=40000)->Q (.int c) J)
theorem SS{K:An}(T:BA K A C):T.ql.Ok A3 P w A base 2 (mK K):=by
 show T.ql.ok λF O O O O O Z H G Q E h=>?_;lk;obtain⟨a,B,rfl,U,W,k⟩:=h;k_in;show⟨_,(Aa (Ay (JF K (DB (Y9 AO (Y9 AO (Y9 AO (Y9 AO E3))))) (AW Jl (AW MJ (A5 (P0 T) Z (Y9 (AH 0) (Y9 AO E3))) AO) AO)))),?_⟩;show⟨CY rfl,λp Y=>?_⟩;have s1:=Bb (o:=.lst [.int 1,.int 1,.int 1,.int 40000]) Y;show⟨a,B,_,rfl,s1.xp U,by decide,W,λc=>?_⟩;lk;obtain⟨v,z,J⟩:=Hi [AD.int 1,.int 1,.int 1,.int _] 4 rfl (by decide) _;obtain⟨m,rfl,D⟩:∃m:Int,v=.int m/\(m=1\/m=40000):=by
  simp only[B6,Q5,AER]at J;rcases J with rfl|rfl|rfl|rfl;.show⟨_,rfl,.inl rfl⟩
  .show⟨_,rfl,.inl rfl⟩
  .show⟨_,rfl,.inl rfl⟩
  .show⟨_,rfl,.inr rfl⟩
 k_in;show⟨⟨by decide,by decide⟩,(by decide:(0:Int)<4),_,_,Ab AZ,z,k m _ s1 D⟩
noncomputable def FE(s:AR)(z:AE->Nat)(m:Nat):Nat:=match s with|.take ..=>m|.only _ a _ _|.turn _ a _ _|.gap _ a _ _|.each _ a _ _ _=>z a|.both _ a b=>z a+z b|.join _ a b _=>z a*z b
def kI:Ax:=λJ H Q O=>Ro (λ(p d:AB)(s:AR)(D:List (AL×AD))(z:AE->Nat)(m:Nat)=>J=[.ref p,.ref d,.int (m:Int)]) (λp O s O O O=>C4 H p s) (λO d O D O O=>H d=AA (.dK D)) (λO O s D z O=>(∀a∈s.bz,Br D (.inr a)=AA (.int (z a:Int))/\z a<=600)) (λO O s O z m=>Q (.int (FE s z m:Int)) H)
theorem gO{K:An}(T:BA K L M):T.qg.Ok A3 P w L base 1 kI:=by
  show T.qg.ok λO S S S S S J H R Q E h=>?_;lk;obtain⟨p,d,D,I,z,m,rfl,e,G,B,k⟩:=h;k_in;show⟨_,(Ae (B0 (Bj Cs (Bc (Dj) (AQ 0) AO (λS S=>rfl)) C7 (Ba _)) (Aa (Ay (AQ 2))) CQ) (Ae (B0 (Bj Cs (Bc (Dj (K:=K)) (AQ 0) AO (λS S=>rfl)) C7 (Ba _)) (Aa (Ay (AW E2 (GS J.u1 (AQ 1) (Bc (Dj) (AQ 0) AO (λS S=>rfl)) (λS S=>rfl)) (GS J.u1 (AQ 1) (Bc (Dj (K:=K)) (AQ 0) AO (λS S=>rfl)) (λS S=>rfl))))) CQ) (Ae (B0 (Bj Cs (Bc (Dj) (AQ 0) AO (λS S=>rfl)) C7 (Ba _)) (Aa (Ay (AW Fv (GS J.u1 (AQ 1) (Bc (Dj (K:=K)) (AQ 0) AO (λS S=>rfl)) (λS S=>rfl)) (GS J.u1 (AQ 1) (Bc (Dj) (AQ 0) AO (λS S=>rfl)) (λS S=>rfl))))) CQ) (Aa (Ay (GS J.u1 (AQ 1) (Bc (Dj (K:=K)) (AQ 0) AO (λS S=>rfl)) (λS S=>rfl))))))),?_⟩;lk;obtain⟨e0,e1,N⟩:=e.ku (K:=K);k_in;have g:∀a∈D.bz,L5 H d (.str a) (AA _):=λa U=>by rw[<-(B a U).1];show L6 (k:=.inr a) G
  show⟨_,rfl,p,_,_,_,rfl,rfl,e0,e1,rfl,_,rfl,JX (i:=0) rfl (λW=>?_) λW=>?_⟩;.cases D<;>first|cases W;done|show⟨_,rfl,k⟩
  . show⟨_,rfl,p,_,_,_,rfl,rfl,e0,e1,rfl,_,rfl,JX (i:=3) rfl (λY=>?_) λY=>?_⟩
    . lk;obtain⟨n,a,b,rfl⟩:∃n a b,D=.both n a b:=by cases D<;>first|show⟨_,_,_,rfl⟩|cases Y
      k_in;show⟨_,rfl,_,rfl,p,_,_,_,rfl,rfl,e0,Ao rfl,d,_,rfl,g a (.head _),_,rfl,_,rfl,p,_,_,_,rfl,rfl,e0,Ao rfl,d,_,rfl,g b (.tail _ (.head _)),_,_,rfl,rfl,k⟩
    . show⟨_,rfl,p,_,_,_,rfl,rfl,e0,e1,rfl,_,rfl,JX (i:=4) rfl (λZ=>?_) λZ=>?_⟩
      . lk;obtain⟨n,a,b,A,rfl⟩:∃n a b A,D=.join n a b A:=by cases D<;>first|show⟨_,_,_,_,rfl⟩|cases Z
        k_in;have V:=(B a (.head _)).2;show⟨_,rfl,_,rfl,p,_,_,_,rfl,rfl,e0,Ao (j:=2) rfl,d,_,rfl,g a (.head _),_,rfl,_,rfl,p,_,_,_,rfl,rfl,e0,Ao (j:=3) rfl,d,_,rfl,g b (.tail _ (.head _)),_,_,rfl,rfl,.inl ⟨by lia,dP.mp (FQ V (by decide))⟩,?_⟩;have:(FE (.join n a b A) z m:Int)=(z a:Int)*(z b:Int):=Int.natCast_mul ..;show k
      . lk;obtain⟨a,U,C,F⟩:∃a,a∈D.bz/\Cw (D.abt.map Ar) 2=AA (.str a)/\FE D z m=z a:=by cases D<;>first|show absurd rfl W|show absurd rfl Y|show absurd rfl Z|show⟨_,.head _,Ao (j:=2) rfl,rfl⟩
        k_in;rw[F]at k;show⟨_,rfl,_,rfl,p,_,_,_,rfl,rfl,e0,C,d,_,rfl,g a U,k⟩
noncomputable def AR.aaw:AR->List AE|AR.take n k=>[n,k]|AR.only n a _ _=>[n,a]|AR.turn n a _ _=>[n,a]|AR.both n a b=>[n,a,b]|AR.join n a b _=>[n,a,b]|AR.gap n a s _=>[n,a,s]|AR.each n a s _ _=>[n,a,s]
structure Rh(zs:List AE)(n:AE)(s:AR):Prop where
 nm:s.nm=n
 qm:∀a∈s.bz,a∈zs
 ok:OC s
 aaw:∀z∈s.aaw,z=n\/z∈zs\/z∈F2
theorem QA{J:List AE}{n a:AE}(h:a∈J):∀z∈[n,a],z=n\/z∈J\/z∈F2:=λz D=>by
 simp at D;rcases D with rfl|rfl;.show .inl rfl
 .show .inr (.inl h)
theorem QB{D:List AE}{n a b:AE}(h:a∈D)(U:b∈D\/b∈F2):∀z∈[n,a,b],z=n\/z∈D\/z∈F2:=λz J=>by
 simp at J;rcases J with rfl|rfl|rfl;.show .inl rfl
 .show .inr (.inl h)
 .show .inr U
def mO:Ax:=λY H Q O=>Pk (λ(n:AE)(W c:Int)(U:AB)(D:List AE)=>Y=[.str n,.int W,.ref U,.int c]) (λO O O U D=>H U=AA (.lst (D.map AD.str))) (λO O O O D=>0<D.length) (λO O c O O=>(c=1\/c=40000)) (λn O O O D=>∀p J s,Aj H J->C4 J p s->s.cu=AM->Rh D n s->Q (.ref p) J)
theorem iZ{K:An}(T:BA K b d):T.oi.Ok A3 P w b base 1 mO:=by
  show T.oi.ok λL o o o o o e H f Q E h=>?_;lk;obtain⟨n,N,c,Z,Y,rfl,O,g,R,k⟩:=h;k_in;show⟨_,(Ae (Bq (i:=4) L rfl (BX rfl) (Bc (Dh (K:=K)) (AQ 2) (AW CG (AW DK (AQ 1) AO) (CL (Jg (K:=K)) (by rfl) T.iq GY (Y9 (AQ 2) E3))) (λo o=>rfl))) (Ae (Bq (i:=5) L rfl (BX rfl) (Bc (Dh (K:=K)) (AQ 2) (AW CG (AW DK (AQ 1) AO) (CL (Jg (K:=K)) (by rfl) T.iq GY (Y9 (AQ 2) E3))) (λo o=>rfl))) (Ae (B0 (Bj Cs (AW CG (AQ 1) AO) AO (Ba _)) (Ae (Bq (i:=6) L rfl (BX rfl) (AW Hl (AW CG (AW DK (AQ 1) AO) AO) AO)) (Ae (B0 (Bj Cs (AW CG (AW DK (AQ 1) AO) AO) AO (Ba _)) (Aa (Ay (Cn (Y9 C7 (Y9 (AQ 0) (Y9 (AQ 4) (Y9 (AW Fv (AQ 6) (AW Qj AO AO)) (Y9 (AW Qj AO AO) E3)))))))) CQ) (Ae (B0 (Bj Cs (AW CG (AW DK (AQ 1) AO) AO) AO (Ba _)) (Aa (Ay (Cn (Y9 C7 (Y9 (AQ 0) (Y9 (AQ 4) (Y9 (AW Hl (AW CG (AW DK (AQ 1) AO) AO) (AW Qj AO AO)) (Y9 (AW E2 (AQ 6) AO) E3)))))))) CQ) (Aa (Ay (Cn (Y9 C7 (Y9 (AQ 0) (Y9 (AQ 4) (Y9 (AQ 6) (Y9 (AW E2 (AQ 6) (AW CG (AW DK (AQ 1) AO) AO)) E3))))))))))) CQ) (Ae (B0 (Bj Cs (AW CG (AQ 1) AO) AO (Ba _)) (Aa (Ay (Cn (Y9 C7 (Y9 (AQ 0) (Y9 (AQ 4) (Y9 (AW Hl (AW CG (AW DK (AQ 1) AO) AO) AO) (Y9 (AW Hl (AW CG (AW DK (AQ 1) AO) AO) AO) E3)))))))) CQ) (Ae (B0 (Bj Cs (AW CG (AQ 1) AO) AO (Ba _)) (Aa (Ay (Cn (Y9 C7 (Y9 (AQ 0) (Y9 (AQ 4) (Y9 (AQ 5) E3))))))) CQ) (Aa (Ay (Cn (Y9 C7 (Y9 (AQ 0) (Y9 (AQ 4) (Y9 (AQ 5) (Y9 (AW Fv (AW CG (AW DK (AQ 1) AO) AO) (AQ 3)) E3))))))))))))),?_⟩;have C:(0:Int)<((Y.map AD.str).length:Int):=by rw[As];simp_all
  have A:Bp K H Z (Y.map AD.str):=Ab O;lk;obtain⟨v,X,S⟩:=Hi (Y.map AD.str) _ rfl C (N/7);obtain⟨D,U,rfl⟩:=A7.mp S;obtain⟨v,G,F⟩:=Hi (Y.map AD.str) _ rfl C (N/49);obtain⟨W,I,rfl⟩:=A7.mp F;k_in;have z:∀a∈[D],a∈Y:=λa B=>by cases BV.mp B;show U
  have M:∀a∈[D,W],a∈Y:=λa B=>by
    simp at B;rcases B with rfl|rfl;.show U
    .show I
  show⟨_,rfl,_,rfl,_,_,rfl,rfl,⟨by decide,by decide⟩,_,rfl,Z,_,rfl,.inl A,_,_,rfl,rfl,C,Z,_,_,_,rfl,rfl,A,X,?_⟩;show⟨_,rfl,_,rfl,_,_,rfl,rfl,⟨by decide,by decide⟩,_,rfl,Z,_,rfl,.inl A,_,_,rfl,rfl,C,Z,_,_,_,rfl,rfl,A,G,?_⟩;show⟨_,rfl,_,_,rfl,rfl,(by decide:(0:Int)<7),rfl,_,rfl,D6 (λo=>?_) λo=>?_⟩
  . show⟨_,rfl,_,_,rfl,rfl,⟨by decide,by decide⟩,_,_,rfl,rfl,(by decide:(0:Int)<9),_,_,rfl,rfl,?_⟩;show⟨_,rfl,_,_,rfl,rfl,⟨by decide,by decide⟩,_,_,rfl,rfl,(by decide:(0:Int)<4),rfl,_,rfl,D6 (λo=>?_) λo=>?_⟩
    . show⟨_,rfl,_,rfl,_,rfl,_,_,rfl,rfl,⟨by decide,by decide,by decide⟩,_,_,rfl,rfl,.inr ⟨by decide,by decide⟩,_,_,rfl,rfl,⟨by decide,by decide,by decide⟩,Ed rfl,λp J=>?_⟩;show k p _ (.only n D _ _) (Bb J) AZ rfl ⟨rfl,z,trivial,QA U⟩
    . show⟨_,rfl,_,_,rfl,rfl,⟨by decide,by decide⟩,_,_,rfl,rfl,(by decide:(0:Int)<4),rfl,_,rfl,D6 (λo=>?_) λo=>?_⟩
      . show⟨_,rfl,_,rfl,_,rfl,_,_,rfl,rfl,⟨by decide,by decide⟩,_,_,rfl,rfl,(by decide:(0:Int)<7),_,_,rfl,rfl,⟨by decide,by decide,by decide⟩,_,_,rfl,rfl,_,rfl,_,_,rfl,rfl,Ed rfl,λp J=>?_⟩;show k p _ (.only n D _ _) (Bb J) AZ rfl ⟨rfl,z,trivial,QA U⟩
      . show⟨_,rfl,_,rfl,_,rfl,_,rfl,_,rfl,_,_,rfl,rfl,⟨by decide,by decide⟩,_,_,rfl,rfl,(by decide:(0:Int)<9),_,_,rfl,rfl,Ed rfl,λp J=>?_⟩;show k p _ (.only n D _ _) (Bb J) AZ rfl ⟨rfl,z,trivial,QA U⟩
  . show⟨_,rfl,_,_,rfl,rfl,(by decide:(0:Int)<7),rfl,_,rfl,D6 (λo=>?_) λo=>?_⟩
    . show⟨_,rfl,_,rfl,_,rfl,_,_,rfl,rfl,⟨by decide,by decide⟩,_,_,rfl,rfl,(by decide:(0:Int)<19),_,_,rfl,rfl,_,rfl,_,_,rfl,rfl,⟨by decide,by decide⟩,_,_,rfl,rfl,(by decide:(0:Int)<11),_,_,rfl,rfl,Ed rfl,λp J=>?_⟩;show k p _ (.turn n D _ _) (Bb J) AZ rfl ⟨rfl,z,by(constructor<;>lia),QA U⟩
    . show⟨_,rfl,_,_,rfl,rfl,(by decide:(0:Int)<7),rfl,_,rfl,D6 (λo=>?_) λo=>?_⟩
      . show⟨_,rfl,_,rfl,_,rfl,Ed rfl,λp J=>?_⟩;show k p _ (.both n D W) (Bb J) AZ rfl ⟨rfl,M,trivial,QB U (.inl I)⟩
      . show⟨_,rfl,_,rfl,_,rfl,_,rfl,_,_,rfl,rfl,⟨by decide,by decide⟩,_,_,rfl,rfl,(by decide:(0:Int)<8),_,rfl,_,_,rfl,rfl,.inr (by rcases R with rfl|rfl<;>show⟨by decide,by decide⟩),Ed rfl,λp J=>?_⟩;show k p _ (.join n D W _) (Bb J) AZ rfl ⟨rfl,M,trivial,QB U (.inl I)⟩
def mT:Ax:=λY H Q O=>Pk (λ(n:AE)(W c:Int)(U:AB)(D:List AE)=>Y=[.str n,.int W,.ref U,.int c]) (λO O O U D=>H U=AA (.lst (D.map AD.str))) (λO O O O D=>0<D.length) (λO O c O O=>(c=1\/c=40000)) (λn O O O D=>∀p J s,Aj H J->C4 J p s->s.cu=AI->Rh D n s->Q (.ref p) J)
theorem i7{K:An}(T:BA K e l):T.oj.Ok A3 P w e base 1 mT:=by
 show T.oj.ok λI O0 O0 O0 O0 O0 q H s Q E h=>?_;lk;obtain⟨n,D,c,F,Z,rfl,S,t,m,k⟩:=h;k_in;show⟨_,(Ae (Bq (i:=4) I rfl (BX rfl) (Bc (Dh (K:=K)) (AQ 2) (AW CG (AW DK (AQ 1) AO) (CL (Jg (K:=K)) (by rfl) T.iq GY (Y9 (AQ 2) E3))) (λO0 O0=>rfl))) (Ae (Bq (i:=5) I rfl (BX rfl) (Bc (Dh (K:=K)) (DB (Y9 C7 (Y9 C7 (Y9 C7 (Y9 C7 E3))))) (AW CG (AW DK (AQ 1) AO) AO) (λO0 O0=>rfl))) (Ae (B0 (Bj Cs (AW CG (AQ 1) AO) AO (Ba _)) (Aa (Ay (Cn (Y9 C7 (Y9 (AQ 0) (Y9 (AQ 4) (Y9 (AQ 5) (Y9 (AW Fv (AW CG (AW DK (AQ 1) AO) AO) (AQ 3)) E3)))))))) CQ) (Ae (Bq (i:=6) I rfl (BX rfl) (AW Fv (AW E2 AO (AW CG (AW DK (AQ 1) AO) AO)) (AQ 3))) (Aa (Ay (Cn (Y9 C7 (Y9 (AQ 0) (Y9 (AQ 4) (Y9 (AQ 5) (Y9 (AW E2 (AQ 6) (AW CG (AW DK (AQ 1) AO) (AW Fv AO (AQ 6)))) (Y9 (AQ 6) E3))))))))))))),?_⟩;have O:(0:Int)<((Z.map AD.str).length:Int):=by rw[As];simp_all
 have N:Bp K H F (Z.map AD.str):=Ab S;lk;obtain⟨v,d,b⟩:=Hi (Z.map AD.str) _ rfl O (D/7);obtain⟨J,G,rfl⟩:=A7.mp b;k_in;have M:∀a∈[J],a∈Z:=λa X=>by cases BV.mp X;show G
 have U:1<=c/\c<=40000:=by(constructor<;>lia)
 show⟨_,rfl,_,rfl,_,_,rfl,rfl,⟨by decide,by decide⟩,_,rfl,F,_,rfl,.inl N,_,_,rfl,rfl,O,F,_,_,_,rfl,rfl,N,d,?_⟩;lk;obtain⟨v,C,z⟩:=Hi ([("count":AE),"sum","least","greatest"].map AD.str) 4 rfl (by decide) (D/49);obtain⟨L,Y,rfl⟩:=A7.mp z;k_in;have Y:L∈F2:=Y;show⟨Ed rfl,λg B=>?_⟩;have s1:=Bb (o:=.lst [AD.str "count",.str "sum",.str "least",.str "greatest"]) B;show⟨_,rfl,_,_,rfl,rfl,⟨by decide,by decide⟩,_,_,rfl,rfl,(by decide:(0:Int)<4),g,_,_,_,rfl,rfl,Ab AZ,C,?_⟩;show⟨_,rfl,_,_,rfl,rfl,(by decide:(0:Int)<7),rfl,_,rfl,D6 (λO0=>?_) λO0=>?_⟩
 . show⟨_,rfl,_,rfl,_,rfl,_,rfl,_,_,rfl,rfl,⟨by decide,by decide⟩,_,_,rfl,rfl,(by decide:(0:Int)<6),_,rfl,_,_,rfl,rfl,.inr ⟨IE (by decide) U.1,Ga U.2 (by decide)⟩,Ed rfl,λp W=>?_⟩;show k p _ (.gap n J L _) (s1.ik W) AZ rfl ⟨rfl,M,⟨dR (Fz _ (by decide)) (Kp U.1),Y⟩,QB G (.inr Y)⟩
 . have R:0<=D/343%5/\D/343%5<5:=⟨Fz _ (by decide),HP _ (by decide)⟩;show⟨_,rfl,_,_,rfl,rfl,⟨by decide,by decide⟩,_,_,rfl,rfl,(by decide:(0:Int)<5),_,_,rfl,rfl,_,rfl,_,_,rfl,rfl,.inr ⟨IE (by decide) U.1,Ga U.2 (by decide)⟩,?_⟩;have W:0<(1+D/343%5)*c:=VI (VH R.1) U.1;show⟨_,rfl,_,rfl,_,rfl,_,rfl,_,rfl,_,_,rfl,rfl,⟨by decide,by decide⟩,_,rfl,_,_,rfl,rfl,.inl ⟨by decide,by decide⟩,_,_,rfl,rfl,(by show VI (by decide) W),_,_,rfl,rfl,_,rfl,Ed rfl,λf A=>?_⟩;have j:=Fz (D/1715) (show 3*((1+D/343%5)*c)≠0 by show JR (VI (by decide) W));have r:=HP (D/1715) (show 0<3*((1+D/343%5)*c)by show VI (by decide) W);show k f _ (.each n J L _ _) (s1.ik A) AZ rfl ⟨rfl,M,⟨⟨W,by lia,Pe j,by lia⟩,Y⟩,QB G (.inr Y)⟩
noncomputable def Fp(sn:List AE)(z:AE->Nat):List (AL×AD):=sn.map λa=>(.inr a,.int (z a:Int))
theorem nS(h:a∈sn):Br (Fp sn z) (.inr a)=AA (.int (z a:Int)):=by
 unfold Br Fp;rw[List.find?_map];have J:(sn.find? ((λU:AL×AD=>Ac (U.1=.inr a))∘λa=>((.inr a),AD.int (z a)))).isSome=AI:=by rw[List.find?_isSome];show⟨a,h,by simp⟩
 obtain⟨b,D⟩:=Uq.mp J;have e:=AAw D;have e:=by simpa using e
 rw[D,e];rfl
noncomputable def IP(z:AE->Nat)(n:AE)(m:Nat):AE->Nat:=λa=>if a=n then m else z a
theorem jS{m:Nat}(h:n∉sn):Bk (Fp sn z) (.inr n) (.int (m:Int))=Fp (sn++[n]) (IP z n m):=by
  unfold Bk;rw[AED]
  . unfold Fp;rw[Ce];congr 1
    . show Nc λa D=>?_;have:IP z n m a=z a:=AED λe=>h (by rw[<-e];show D);rw[this]
    . change[_]=[((.inr n:AL),AD.int _)];rw[show IP z n m n=m from AEE rfl]
  . intro q;obtain⟨U,J,e⟩:=UX.mp q;obtain⟨a,D,rfl⟩:=A7.mp J;have e:=by simpa using e
    show h (by rw[<-e];show D)
theorem nH(sn:List AE)(z:AE->Nat):(Fp sn z).map (λp=>Ar p.1)=sn.map AD.str:=by unfold Fp;rw[DX];rfl
theorem Vw(h:∀a∈s.bz,D a=z a):FE s D m=FE s z m:=by cases s with|take=>rfl|only n a=>show h a (.head _)|turn n a=>show h a (.head _)|gap n a=>show h a (.head _)|each n a=>show h a (.head _)|both n a b=>change D a+D b=z a+z b;rw[h a (.head _),h b (.tail _ (.head _))]|join n a b=>change D a*D b=z a*z b;rw[h a (.head _),h b (.tail _ (.head _))]
structure Kt(mo:Nat)(zs:List AE)(ss:List AR)(z:AE->Nat)(sn:List AE):Prop where
 aea:∀(i:Nat)s,ss[i]?=AA s->zs[i]?=AA s.nm
 qm:∀(i:Nat)s a,ss[i]?=AA s->a∈s.bz->∃(i':Nat)(s':AR),i'<i/\ss[i']?=AA s'/\s'.nm=a/\s'.cu=AM
 ok:∀s∈ss,OC s
 aaw:∀s∈ss,∀t∈s.aaw,Cp t
 aed:∀a∈sn,∃(i:Nat)(s:AR),ss[i]?=AA s/\s.nm=a/\s.cu=AM
 aez:∀(i:Nat)s,ss[i]?=AA s->s.cu=AM->z s.nm=FE s z mo/\z s.nm<=600
 ne:0<sn.length
structure J3(sn:List AE)(n:AE)(s:AR):Prop where
 nm:s.nm=n
 qm:∀a∈s.bz,a∈sn
 ok:OC s
 aaw:∀t∈s.aaw,Cp t
theorem d4:∀t∈F2,Cp t:=by
 have:∀t∈F2,(∀c∈t.cps.toList,97<=c/\c<123)/\t.length<=12:=by decide+kernel
 show this
theorem Rh.g(h:Rh J n s)(D:∀a∈J,a∈sn)(V:Cp n)(U:∀a∈sn,Cp a):J3 sn n s:=⟨h.nm,λa m=>D a (h.qm a m),h.ok,λt m=>by
 rcases h.aaw t m with rfl|q|q;.show V
 .show U _ (D _ q)
 .show d4 _ q⟩
theorem Sr(J:Cp n)(D:Cp k):J3 sn n (.take n k):=by
 show⟨rfl,λa h=>(by cases h),trivial,λt h=>?_⟩;have h:t∈[n,k]:=h;simp at h;rcases h with rfl|rfl;.show J
 .show D
theorem Sm(h:(l++[x])[i]?=AA y):l[i]?=AA y\/(i=l.length/\y=x):=by
 rcases aH i _ with q|q|q;.rw[Na q]at h;show .inl h
 . subst q;rw[Oo (Ag _),aM]at h;show .inr ⟨rfl,(Bt h).symm⟩
 .rw[wV (by rw[Bs];assumption)]at h;cases h
theorem Sn{α:Type}{l:List α}{x y:α}{i:Nat}(h:l[i]?=AA y):(l++[x])[i]?=AA y:=by rw[Na (BH.mp h).1];show h
theorem Kt.aci(h:Kt C D ss z sn)(Z:D.Nodup)(B:D[ss.length]?=AA n):∀(i:Nat)s,ss[i]?=AA s->s.nm≠n:=λi s J e=>by have q:=h.aea i s J;rw[e]at q;obtain⟨W,U⟩:=BH.mp q;obtain⟨Y,V⟩:=BH.mp B;have A:=(BH.mp J).1;show(Gm.mp Z) i _ W Y A (U.trans V.symm)
theorem Kt.acj(h:Kt W D ss z sn)(U:D.Nodup)(V:D[ss.length]?=AA n):n∉sn:=λm=>by lk;obtain⟨i,s,J,e,_⟩:=h.aed n m;k_in;show h.aci U V i s J e
theorem Kt.aca(h:Kt A G ss z sn)(H:G.Nodup)(C:G[ss.length]?=AA n)(g:J3 sn n s)(E:s.cu=AI/\Y=sn/\F=z\/s.cu=AM/\Y=sn++[n]/\F=IP z n (FE s z A)/\FE s z A<=600):Kt A G (ss++[s]) F Y:=by
  have I:∀a,a≠n->F a=z a:=λa D=>by
    rcases E with⟨_,_,rfl⟩|⟨_,_,rfl,_⟩;.rfl
    .show AED D
  have K:∀a∈sn,a≠n:=λa m e=>h.acj H C (by rw[<-e];show m);show⟨λi t Z=>?_,λi t a Z D=>?_,λt V=>?_,λt V=>?_,λa D=>?_,λi t Z V=>?_,?_⟩
  . rcases Sm Z with q|⟨rfl,rfl⟩;.show h.aea i t q
    .rw[g.nm];show C
  . rcases Sm Z with q|⟨rfl,rfl⟩
    . lk;obtain⟨W,J,l,U,r⟩:=h.qm i t a q D;k_in;show⟨W,J,l,Sn U,r⟩
    . lk;obtain⟨W,J,U,r⟩:=h.aed a (g.qm a D);k_in;show⟨W,J,(BH.mp U).1,Sn U,r⟩
  . rcases CS.mp V with q|q;.show h.ok t q
    .cases BV.mp q;show g.ok
  . rcases CS.mp V with q|q;.show h.aaw t q
    .cases BV.mp q;show g.aaw
  . have B:a∈sn->∃(i:Nat)(J:AR),(ss++[s])[i]?=AA J/\J.nm=a/\J.cu=AM:=λm=>by obtain⟨W,J,U,r⟩:=h.aed a m;show⟨W,J,Sn U,r⟩
    rcases E with⟨_,rfl,_⟩|⟨M,rfl,_⟩;.show B D
    . rcases CS.mp D with q|q;.show B q
      . cases BV.mp q;show⟨_,s,by rw[Oo (Ag _),aM];rfl,g.nm,M⟩
  . rcases Sm Z with q|⟨rfl,rfl⟩
    . rw[I _ (h.aci H C i t q),Vw λa D=>?_];.show h.aez i t q V
      . lk;obtain⟨W,J,_,U,rfl,_⟩:=h.qm i t a q D;k_in;show I _ (h.aci H C W J U)
    . rw[Vw λa D=>I a (K a (g.qm a D)),g.nm];rcases E with⟨q,_⟩|⟨_,_,rfl,L⟩;.rw[q]at V;cases V
      . rw[show IP z n _ n=FE t z A from AEE rfl];show⟨rfl,L⟩
  . rcases E with⟨_,rfl,_⟩|⟨_,rfl,_⟩;.show h.ne
    .rw[Bs];show BK h.ne (Ov _ _)
theorem Kt.kh(h:Kt F A ss z sn)(E:A.Nodup):C8 ss:=⟨λi V s G e B q=>by
 have U:=h.aea i s e;have C:=h.aea V G B;rw[q]at U;lk;obtain⟨W,D⟩:=BH.mp U;obtain⟨Y,J⟩:=BH.mp C;k_in;have Z:=Gm.mp E;rcases aH i V with r|r|r;.show absurd (D.trans J.symm) (Z _ _ W Y r)
 .show r
 .show absurd (J.trans D.symm) (Z _ _ Y W r),h.qm,h.ok⟩
theorem eJ(wi:Int)(A B:List AN):(Ct wi A B).length<=A.length*B.length:=by have h:=V0 wi A B;rw[Rx,As]at h;show h
theorem Wc(B:C8 ss)(J:∀(i:Nat)s,ss[i]?=AA s->s.cu=AM->z s.nm=FE s z W/\z s.nm<=600)(A:evs.length<=W)(Z:∀(i:Nat)s,i<N->ss[i]?=AA s->s.cu=AM->L s.nm=ED s L evs):∀(m i:Nat)s,m<=N->i<m->ss[i]?=AA s->s.cu=AM->(L s.nm).length<=z s.nm
 |0,i,s,_,D,_,_=>absurd D (Il _)|m+1,i,s,Y,D,V,U=>by
  have f:∀a∈s.bz,(L a).length<=z a:=λa E=>by obtain⟨F,G,l,C,rfl,H⟩:=B.qm i s a V E;show Wc B J A Z m F G (DY Y) (BK l (Dl D)) C H
  rw[Z i s (BK D Y) V U,(J i s V U).1];cases s with |take n k=> change((evs.filter _).map _).length<=W;rw[As];show Af (Fc _ _) A|only n a M D=>show Af (Fc _ _) (f a (.head _))|turn n a x y=>change((L a).map _).length<=_;rw[As];show f a (.head _)|both n a b=>change(L b++L a).length<=z a+z b;have I:=f a (.head _);have K:=f b (.tail _ (.head _));rw[Bs];lia|join n a b O=>show Af (eJ ..) (aK (f a (.head _)) (f b (.tail _ (.head _))))|gap=>cases U|each=>cases U
theorem eP(sn:List AE)(h:0<sn.length):∃x,x∈sn/\GR (sn.map AD.str) (AA (-1)) AF=[x].map AD.str:=by
 have J:(sn.map AD.str).length=sn.length:=As _;have e1:B9 (sn.map AD.str).length 0 (AA (-1))=sn.length-1:=by change(if(-1)<0 then((-1:Int)+((sn.map AD.str).length)).toNat else DU (-1).toNat (sn.map AD.str).length)=_;lia
 have D:B9 (sn.map AD.str).length _ AF=sn.length:=J;show⟨sn[sn.length-1]'(Uo h (by decide)),wZ _,?_⟩;unfold GR;rw[e1,D,<-List.map_drop,Z1 _,show sn.length-(sn.length-1)=0+1 by show aN h];rfl
theorem FD.zt(h:FD H ps ss)(e:C4 H p s):FD H (ps++[.ref p]) (ss++[s]):=D9 h (.cons ⟨p,rfl,e⟩ .nil)
def mC(K:An):Ax:=λZ H Q O=>FK (λ(a:AB)(W:List Int)(D:Nat)=>Z=[.ref a,.int (D:Int)]) (λa W O=>Bp K H a (W.map AD.int)) (λO W O=>W.length<=63) (λO O D=>D<=16) (λO O D=>∀l U Y J z,Aj H U->H l=AF->U l=AA (.lst Y)->FD U Y J->C8 J->J.length<=8->(∀s∈J,∀t∈s.aaw,Cp t)->(∀(i:Nat)s,J[i]?=AA s->s.cu=AM->z s.nm=FE s z D/\z s.nm<=600)->Q (.ref l) U)
theorem iR{K:An}{ad:Bh}(T:BA K mg ad):T.su.Ok A3 P w mg base 3 (mC K):=by
  have G_u_law_cell_at:=P0 (P:=P) (w:=w) (base:=base) T;have G_u_law_names:=Wx (P:=P) (w:=w) (base:=base) T;have G_u_law_stream:=iZ (P:=P) (w:=w) (base:=base) T;have G_u_law_teller:=i7 (P:=P) (w:=w) (base:=base) T;have G_u_law_bound:=gO (P:=P) (w:=w) (base:=base) T;show T.su.ok λnd O O O O O hr H vs Q E h=>?_;lk;obtain⟨a,ns,mo,rfl,hS,hl,hmo,k⟩:=h;k_in;show⟨_,(Ae (Bq (i:=2) nd rfl (BX rfl) (A5 G_u_law_names hr (Y9 (AQ 0) (Y9 AO (Y9 AO E3))))) (Ae (Bq (i:=3) nd rfl (BX rfl) (A5 G_u_law_names hr (Y9 (AQ 0) (Y9 AO (Y9 AO E3))))) (Ae (Bq (i:=4) nd rfl (BX rfl) (A5 (SS T) hr (Y9 (AQ 0) E3))) (Ae (Bq (i:=5) nd rfl (BX rfl) (DB (Y9 (Cn (Y9 C7 (Y9 (Bc (Dh (K:=K)) (AQ 2) AO (λO O=>rfl)) (Y9 (Bc (Dh (K:=K)) (AQ 3) AO (λO O=>rfl)) E3)))) E3))) (Ae (Bq (i:=6) nd rfl (BX rfl) (tH (tQ (Bc (Dh (K:=K)) (AQ 2) AO (λO O=>rfl)) (AQ 1) tR) (by rfl) (by rfl) (by intro z;cases z) (by decide))) (Ae (Bq (i:=7) nd rfl (BX rfl) AO) (Ae (Bq (i:=8) nd rfl (BX rfl) (AW E2 AO (AW CG (A5 G_u_law_cell_at hr (Y9 (AQ 0) (Y9 AO E3))) AO))) (Ae (Bq (i:=9) nd rfl (BX rfl) (AW CG (AW DK (A5 G_u_law_cell_at hr (Y9 (AQ 0) (Y9 AO E3))) AO) AO)) (Ae (DQ Dc rfl (tO (by rfl) T.js (Y9 AO (Y9 (AW E2 (AQ 8) AO) E3))) (G6 (i:=10) nd rfl (BX rfl)) (Ae (Bq (i:=11) nd rfl (BX rfl) (A5 (SR T) hr (Y9 (AQ 0) (Y9 (AW E2 AO (AQ 10)) E3)))) (Ae (Bq (i:=12) nd rfl (BX rfl) (Ie (TQ (K:=K) rfl) (by rfl) T.jt Kh (Y9 (AQ 6) E3))) (Ae (Bq (i:=13) nd rfl (BX rfl) (A5 G_u_law_stream hr (Y9 (Bc (Dh (K:=K)) (AQ 2) (AQ 10) (λO O=>rfl)) (Y9 (AQ 11) (Y9 (AQ 12) (Y9 (AQ 4) E3)))))) (Ae (Ii (B0 (Bj Cs (AQ 10) (AQ 8) (Ba _)) (Aa (Bq (i:=13) nd rfl (BX rfl) (A5 G_u_law_teller hr (Y9 (Bc (Dh (K:=K)) (AQ 2) (AQ 10) (λO O=>rfl)) (Y9 (AQ 11) (Y9 (AW Gg (G5 (KY (K:=K)) (AQ 12) (GU (UC Zs AO)) Ih) (AW sV (AQ 12) (AW Hl AO (AQ 9)))) (Y9 (AQ 4) E3))))))) (Aa (B0 (LD (UD (Bj Cs (AQ 10) (AW Hl (AQ 8) AO) (Ba _)) (UE (Bj Cs (AQ 9) AO (Ba _))))) (Aa (Bq (i:=13) nd rfl (BX rfl) (A5 G_u_law_stream hr (Y9 (Bc (Dh (K:=K)) (AQ 2) (AQ 10) (λO O=>rfl)) (Y9 (AW E2 (AW Fv (AW DK (AQ 11) AO) AO) AO) (Y9 (AQ 12) (Y9 (AQ 4) E3))))))) (Aa (B0 (Bj Cs (AW CG (AQ 11) AO) AO (Ba _)) (Aa (Bq (i:=13) nd rfl (BX rfl) (Cn (Y9 C7 (Y9 (Bc (Dh (K:=K)) (AQ 2) (AQ 10) (λO O=>rfl)) (Y9 (Bc (Dh (K:=K)) (AQ 3) (AW CG (AW DK (AQ 11) AO) AO) (λO O=>rfl)) E3)))))) (Aa (B0 (LD (NU (Bj Cs (AW CG (AQ 11) AO) AO (Ba _)) (NU (Bj Cs (AW CG (AQ 11) AO) AO (Ba _)) (Of (Bj Cs (AQ 7) AO (Ba _)))))) (Aa (Bq (i:=13) nd rfl (BX rfl) (A5 G_u_law_teller hr (Y9 (Bc (Dh (K:=K)) (AQ 2) (AQ 10) (λO O=>rfl)) (Y9 (AQ 11) (Y9 (AQ 12) (Y9 (AQ 4) E3))))))) CQ)))))))) (Ae (Ii (B0 (Bj (Y8 (K:=K)) (Bc (Dj (K:=K)) (AQ 13) AO (λO O=>rfl)) (Cn (Y9 C7 (Y9 C7 E3))) (by with_unfolding_all rfl)) (Ae (Ii (B0 (Bj Qh (A5 G_u_law_bound hr (Y9 (AQ 13) (Y9 (AQ 6) (Y9 (AQ 1) E3)))) AO (Ba _)) (Aa (Bq (i:=13) nd rfl (BX rfl) (Cn (Y9 C7 (Y9 (Bc (Dh (K:=K)) (AQ 2) (AQ 10) (λO O=>rfl)) (Y9 (Bc (Dh (K:=K)) (AQ 3) AO (λO O=>rfl)) E3)))))) CQ)) (Ae (LR hr.u1 (AQ 6) (Bc (Dh (K:=K)) (AQ 2) (AQ 10) (λO O=>rfl)) (A5 G_u_law_bound hr (Y9 (AQ 13) (Y9 (AQ 6) (Y9 (AQ 1) E3)))) rfl) (Aa (Bq (i:=7) nd rfl (BX rfl) (AW E2 (AQ 7) (Ie YC (by rfl) T.aak aS (Y9 (Jm (T8 (K:=K)) (Bc (Dj (K:=K)) (AQ 13) AO (λO O=>rfl)) (Cn (Y9 C7 (Y9 C7 E3))) (by with_unfolding_all rfl)) E3))))))) CQ)) (Aa (EU (Ic (K:=K) Le Uz yI Tv (AQ 5) (Y9 (AQ 13) E3)))))))))) (Aa (Ay (AQ 5)))))))))))),?_⟩;have sz:Az=16777216:=D8;show⟨_,rfl,a,ns,1,8,rfl,hS,hl,by decide,by decide,by decide,λln Ha zs sa hln eln lz dz az=>?_⟩;show⟨_,rfl,a,ns,2,2,rfl,sa.xp hS,hl,by decide,by decide,by decide,λlk Hk ks sk hlk elk lks O ak=>?_⟩;have lz:zs.length=8:=Md.mp lz;have lks:ks.length=2:=Md.mp lks;have sak:=sa.aa sk;show⟨_,rfl,a,ns,rfl,sak.xp hS,hl,λc Hb sb hc=>?_⟩;have s0b:=sak.aa sb;have elnb:=sb _ _ (sk _ _ eln);have elkb:=sb _ _ elk;have hSb:=s0b.xp hS;clear sa sk hln hlk eln elk sak sb;have natz:∀{i:Nat}{n:AE},zs[i]?=AA n->Cw (zs.map AD.str) (i:Int)=AA (.str n):=λ{i n}e=>Ao (xs:=zs.map AD.str) (v:=.str n) (by rw[Bl,e];rfl);lk;obtain⟨n0,en0⟩:∃n,zs[0]?=AA n:=⟨_,Cd (by simp_all)⟩;obtain⟨k0,ek0⟩:∃n,ks[0]?=AA n:=⟨_,Cd (by simp_all)⟩;k_in;have atk0:Cw (ks.map AD.str) 0=AA (.str k0):=Ao (xs:=ks.map AD.str) (j:=0) (v:=.str k0) (by rw[Bl,ek0];rfl);have an0:Cp n0:=az _ (CZ en0);have ak0:Cp k0:=ak _ (CZ ek0);show⟨_,rfl,ln,_,_,_,rfl,rfl,Ab elnb,natz en0,_,rfl,lk,_,_,_,rfl,rfl,Ab elkb,atk0,Ed rfl,λp0 hp0=>?_⟩;have g1:=Bb (o:=.tup [AD.str "take",.str n0,.str k0]) hp0;have ep0:C4 (AK Hb p0 (.tup [AD.str "take",.str n0,.str k0])) p0 (.take n0 k0):=AZ;generalize AK Hb p0 (.tup [AD.str "take",.str n0,.str k0])=Hc at g1 ep0⊢;show⟨Ed rfl,λu hu=>?_⟩;have g2:=Bb (o:=.lst [AD.ref p0]) hu;have eu:(AK Hc u (.lst [AD.ref p0])) u=AA (.lst [AD.ref p0]):=AZ;generalize AK Hc u (.lst [AD.ref p0])=Hd at g2 eu⊢;showλd hd=>?_;have g3:=Bb (o:=.dK []) hd;have ed:(AK Hd d (.dK [])) d=AA (.dK []):=AZ;generalize hHe:AK Hd d (.dK [])=He at g3 ed⊢;show⟨_,rfl,ln,_,_,_,rfl,rfl,Ab (g3 _ _ (g2 _ _ (g1 _ _ elnb))),natz en0,_,rfl,ed,[(.inr n0,.int (mo:Int))],rfl,Ed rfl,?_⟩;have g4:Aj Hb (AK He d (.dK (Jk [] [(.inr n0,.int (mo:Int))]))):=by rw[<-hHe];show((g1.aa g2).aa (Bb hd)).wk ((g1.aa g2).ar hd)
  have ed4:(AK He d (.dK (Jk [] [(.inr n0,.int (mo:Int))]))) d=AA (.dK (Fp [n0] λO=>mo)):=AZ;have nud:u≠d:=A4 eu hd;have npd:p0≠d:=A4 (g2 _ _ ep0) hd;have eu4:(AK He d (.dK (Jk [] [(.inr n0,.int (mo:Int))]))) u=AA (.lst [AD.ref p0]):=by rw[AU nud];show g3 _ _ eu
  have ep4:C4 (AK He d (.dK (Jk [] [(.inr n0,.int (mo:Int))]))) p0 (.take n0 k0):=by change(AK He d _) p0=_;rw[AU npd];show g3 _ _ (g2 _ _ ep0)
  have fu:Hb u=AF:=g1.ar hu;have fd:Hb d=AF:=(g1.aa g2).ar hd;generalize AK He d (.dK (Jk [] [(.inr n0,.int (mo:Int))]))=H0 at g4 ed4 eu4 ep4⊢;clear g1 g2 g3 ed eu ep0 hHe;show⟨_,rfl,a,ns,_,rfl,g4.xp hSb,by decide,hl,λc1=>⟨_,_,rfl,rfl,(by decide:(0:Int)<6),_,_,rfl,rfl,?_⟩⟩;show⟨_,rfl,a,ns,_,rfl,g4.xp hSb,by decide,hl,λc2=>⟨_,_,rfl,rfl,⟨by decide,by decide⟩,_,_,rfl,rfl,(by decide:(0:Int)<2),?_⟩⟩;have b6:0<=c1%6/\c1%6<6:=⟨Fz _ (by decide),HP _ (by decide)⟩;have b2:0<=c2/6%2/\c2/6%2<2:=⟨Fz _ (by decide),HP _ (by decide)⟩;generalize c1%6=m1 at b6⊢;have pl0:Kt mo zs [.take n0 k0] (λO=>mo) [n0]:=by
    show⟨λi s e=>?_,λi s x e hx=>?_,λs hs=>?_,λs hs=>?_,λx hx=>?_,λi s e O=>?_,Nat.one_pos⟩;.match i,e with|0,e=>cases e;show en0
    .match i,e with|0,e=>cases e;cases hx
    .cases BV.mp hs;trivial
    .cases BV.mp hs;show(Sr (sn:=[]) an0 ak0).aaw
    .cases BV.mp hx;show⟨0,_,rfl,rfl,rfl⟩
    .match i,e with|0,e=>cases e;show⟨rfl,Af hmo (by decide)⟩
  show⟨_,rfl,_,_,rfl,rfl,1,_,rfl,⟨by decide,by decide,by lia,by lia⟩,?_⟩;show OU (λj σ H'=>Vs (λ(o10 o11 o12 o13:Option AD)(wd:Int)(ps:List AD)(ss:List AR)(z:AE->Nat)(sn:List AE)=>σ=[AA (.ref a),AA (.int (mo:Int)),AA (.ref ln),AA (.ref lk),AA (.int c),AA (.ref u),AA (.ref d),AA (.int wd),AA (.int (2+m1)),AA (.int (c2/6%2)),o10,o11,o12,o13]) (λO O O O O O O O O=>Aj Hb H') (λO O O O O ps O O O=>H' u=AA (.lst ps)) (λO O O O O ps ss O O=>FD H' ps ss) (λO O O O O O ss O O=>ss.length=j+1) (λO O O O O O O z sn=>H' d=AA (.dK (Fp sn z))) (λO O O O O O O O sn=>sn.length<=j+1) (λO O O O O O ss z sn=>Kt mo zs ss z sn)) ⟨AF,AF,AF,AF,1,_,_,_,_,rfl,g4,eu4,.cons ⟨p0,rfl,ep4⟩ .nil,rfl,ed4,Ag _,pl0⟩ ?_ ?_
  . clear g4 ed4 eu4 ep4 pl0;intro j σ H1 hj hI;lk;obtain⟨o10,o11,o12,o13,wd,ps,ss,z,sn,rfl,s1,eu1,pr1,ls1,ed1,lsn,pl1⟩:=hI;have hj8:j<7:=by lia
    obtain⟨n,en⟩:∃n,zs[j+1]?=AA n:=⟨_,Cd (by lia)⟩;k_in;have an:Cp n:=az _ (CZ en);have atn:Cw (zs.map AD.str) (1+(j:Int))=AA (.str n):=by have:=natz en;rwa[show(((j+1:Nat)):Int)=1+(j:Int)by lia]at this
    have asn:∀x∈sn,Cp x:=λx hx=>by obtain⟨i,s,ei,rfl,_⟩:=pl1.aed x hx;show az _ (CZ (pl1.aea i s ei))
    have enl:zs[ss.length]?=AA n:=by rw[ls1];show en
    show⟨_,rfl,_,rfl,_,_,rfl,rfl,a,ns,_,rfl,s1.xp hSb,hl,by(constructor<;>lia),λnn nn0=>?_⟩;show⟨_,rfl,d,_,rfl,ed1,λls hls=>?_⟩;rw[nH];have g1:=Bb (o:=.lst (sn.map AD.str)) hls;have els:(AK H1 ls (.lst (sn.map AD.str))) ls=AA (.lst (sn.map AD.str)):=AZ;generalize AK H1 ls (.lst (sn.map AD.str))=H2 at g1 els⊢;show⟨_,rfl,_,rfl,ln,_,_,_,rfl,rfl,Ab (g1 _ _ (s1 _ _ elnb)),atn,_,rfl,_,rfl,_,rfl,n,nn,c,ls,sn,rfl,els,pl1.ne,hc,λp1 H3 st1 g2 ep1 ht1 so1=>?_⟩;have s3:=s1.aa (g1.aa g2);have els3:=g2 _ _ els;have hln3:Bp K H3 ln _:=Ab (s3 _ _ elnb);have rest:∀{x:AD}{p:AB}{st:AR}{H':AG},Aj H3 H'->C4 H' p st->J3 sn n st->x=.ref p->(λ(σ':List (Option AD))(H':AG)=>Hh (λ(p:AB)(st:AR)=>σ'=[AA (AD.ref a),AA (.int (mo:Int)),AA (.ref ln),AA (.ref lk),AA (.int c),AA (.ref u),AA (.ref d),AA (.int wd),AA (.int (2+m1)),AA (.int (c2/6%2)),AA (.int (1+(j:Int))),AA (.int nn),AA (.ref ls),AA (.ref p)]) (λO O=>Aj H3 H') (λp st=>C4 H' p st) (λO st=>J3 sn n st)) [AA (AD.ref a),AA (.int (mo:Int)),AA (.ref ln),AA (.ref lk),AA (.int c),AA (.ref u),AA (.ref d),AA (.int wd),AA (.int (2+m1)),AA (.int (c2/6%2)),AA (.int (1+(j:Int))),AA (.int nn),AA (.ref ls),AA x] H':=λs e g q=>⟨_,_,by rw[q],s,e,g⟩;show IV (λσ' H'=>Hh (λ(p:AB)(st:AR)=>σ'=[AA (AD.ref a),AA (.int (mo:Int)),AA (.ref ln),AA (.ref lk),AA (.int c),AA (.ref u),AA (.ref d),AA (.int wd),AA (.int (2+m1)),AA (.int (c2/6%2)),AA (.int (1+(j:Int))),AA (.int nn),AA (.ref ls),AA (.ref p)]) (λO O=>Aj H3 H') (λp st=>C4 H' p st) (λO st=>J3 sn n st)) ?_ ?_
    . show⟨_,rfl,_,rfl,rfl,_,rfl,D6 (λO=>?_) λO=>?_⟩
      . lk;obtain⟨x,hx,ex⟩:=eP sn pl1.ne;k_in;show⟨_,rfl,_,rfl,ln,_,_,_,rfl,rfl,hln3,atn,_,rfl,_,rfl,_,rfl,(-1:Int),rfl,ls,_,rfl,Ab els3,λl1 hl1=>?_⟩;rw[ex];have h1:=Bb (o:=.lst ([x].map AD.str)) hl1;have el1:(AK H3 l1 (.lst ([x].map AD.str))) l1=AA (.lst ([x].map AD.str)):=AZ;generalize AK H3 l1 (.lst ([x].map AD.str))=H4 at h1 el1⊢;have jb:(1-c2/6%2).toNat<=1:=Ra.mpr (AAn _ b2.1);show⟨_,rfl,_,rfl,_,_,rfl,rfl,ls,_,_,rfl,rfl,h1 _ _ els3,by lia,Int.sub_lt_of_sub_lt (IE (by decide) b2.1),?_,λl2 hl2=>?_⟩
        . rw[As];have:=aK (show sn.length<=8 by lia) jb;(constructor<;>lia)
        have el2:(AK H4 l2 (.lst (Ec (1-c2/6%2).toNat (sn.map AD.str)).flatten)) l2=AA (.lst ((Ec (1-c2/6%2).toNat sn).flatten.map AD.str)):=by rw[AZ,List.map_flatten,List.map_replicate]
        have h2:=Bb (o:=.lst (Ec (1-c2/6%2).toNat (sn.map AD.str)).flatten) hl2;generalize AK H4 l2 (.lst (Ec (1-c2/6%2).toNat (sn.map AD.str)).flatten)=H5 at h2 el2⊢;have lr:=Yq sn (1-c2/6%2).toNat;have lr1:=aK jb (show sn.length<=8 by lia);show⟨l1,l2,_,_,rfl,rfl,h2 _ _ el1,el2,?_,λl3 hl3=>?_⟩
        . rw[As,As,lr];change 1+_<=_;(constructor<;>lia)
        have el3:(AK H5 l3 (.lst ([x].map AD.str++(Ec (1-c2/6%2).toNat sn).flatten.map AD.str))) l3=AA (.lst (([x]++(Ec (1-c2/6%2).toNat sn).flatten).map AD.str)):=by rw[AZ,Ce]
        have h3:=Bb (o:=.lst ([x].map AD.str++(Ec (1-c2/6%2).toNat sn).flatten.map AD.str)) hl3;generalize AK H5 l3 (.lst ([x].map AD.str++(Ec (1-c2/6%2).toNat sn).flatten.map AD.str))=H6 at h3 el3⊢;show⟨_,rfl,n,nn,c,l3,_,rfl,el3,aP _,hc,λp H' st s ep ht so=>rest ((h1.aa (h2.aa h3)).aa s) ep (so.g (λy hy=>?_) an asn) rfl⟩;rcases CS.mp hy with q|q;.cases BV.mp q;show hx
        . lk;obtain⟨l,hl,hy⟩:=List.mem_flatten.mp q;k_in;rw[(List.mem_replicate.mp hl).2]at hy;show hy
      . have tk:∀{H':AG}{kd:AE},Aj H3 H'->kd∈ks->∀p,H' p=AF->(λ(σ':List (Option AD))(H':AG)=>Hh _ (λO O=>Aj H3 H') (λp st=>C4 H' p st) (λO st=>J3 sn n st)) [AA (AD.ref a),AA (.int (mo:Int)),AA (.ref ln),AA (.ref lk),AA (.int c),AA (.ref u),AA (.ref d),AA (.int wd),AA (.int (2+m1)),AA (.int (c2/6%2)),AA (.int (1+(j:Int))),AA (.int nn),AA (.ref ls),AA (.ref p)] (AK H' p (.tup [.str "take",.str n,.str kd])):=λ{H' kd}s hk p hp=>rest (s.ik hp) (st:=.take n kd) AZ (Sr an (ak _ hk)) rfl;lk;obtain⟨v,hvk,hmk⟩:=Hi (ks.map AD.str) 2 (by rw[As,lks];rfl) (by decide) (nn/7);obtain⟨kd,mk,rfl⟩:=A7.mp hmk;k_in;show⟨_,rfl,_,rfl,_,_,rfl,rfl,rfl,_,rfl,D6 (λO=>⟨_,rfl,rfl,_,rfl,D6 (λO=>?_) λO=>?_⟩) λO=>EG ?_⟩;.show⟨_,rfl,_,rfl,ln,_,_,_,rfl,rfl,hln3,atn,_,rfl,_,_,rfl,rfl,⟨by decide,by decide⟩,_,_,rfl,rfl,.inr ⟨by decide,by decide⟩,_,_,rfl,rfl,_,rfl,_,rfl,n,_,c,ls,sn,rfl,els3,pl1.ne,hc,λp H' st s ep ht so=>rest s ep (so.g (λO h=>h) an asn) rfl⟩
        . show⟨_,rfl,_,_,rfl,rfl,(by decide:(0:Int)<7),rfl,_,rfl,D6 (λO=>?_) λO=>?_⟩;.show⟨_,rfl,_,rfl,ln,_,_,_,rfl,rfl,hln3,atn,_,rfl,_,rfl,_,_,rfl,rfl,⟨by decide,by decide⟩,_,_,rfl,rfl,(by decide:(0:Int)<2),lk,_,_,_,rfl,rfl,Ab (s3 _ _ elkb),hvk,Ed rfl,λp hp=>tk (Bz _) mk p hp⟩
          .show⟨_,rfl,_,_,rfl,rfl,(by decide:(0:Int)<7),rfl,_,rfl,D6 (λO=>GC ?_) λO=>⟨_,rfl,_,_,rfl,rfl,(by decide:(0:Int)<7),rfl,_,rfl,D6 (λO=>GC ?_) λO=>⟨_,rfl,rfl,_,rfl,D6 (λO=>?_) λO=>rest (Bz _) ep1 (so1.g (λO h=>h) an asn) rfl⟩⟩⟩<;>show⟨_,rfl,_,rfl,ln,_,_,_,rfl,rfl,hln3,atn,_,rfl,_,rfl,_,rfl,n,nn,c,ls,sn,rfl,els3,pl1.ne,hc,λp H' st s ep ht so=>rest s ep (so.g (λO h=>h) an asn) rfl⟩
        . show⟨_,rfl,_,_,rfl,rfl,(by decide:(0:Int)<7),rfl,_,rfl,D6 (λO=>?_) λO=>?_⟩;.show⟨_,rfl,_,rfl,ln,_,_,_,rfl,rfl,hln3,atn,_,rfl,_,rfl,_,_,rfl,rfl,⟨by decide,by decide⟩,_,_,rfl,rfl,(by decide:(0:Int)<2),lk,_,_,_,rfl,rfl,Ab (s3 _ _ elkb),hvk,Ed rfl,λp hp=>tk (Bz _) mk p hp⟩
          .show⟨_,rfl,_,_,rfl,rfl,(by decide:(0:Int)<7),rfl,_,rfl,D6 (λO=>GC ?_) λO=>⟨_,rfl,_,_,rfl,rfl,(by decide:(0:Int)<7),rfl,_,rfl,D6 (λO=>GC ?_) λO=>⟨_,rfl,rfl,_,rfl,D6 (λO=>?_) λO=>rest (Bz _) ep1 (so1.g (λO h=>h) an asn) rfl⟩⟩⟩<;>show⟨_,rfl,_,rfl,ln,_,_,_,rfl,rfl,hln3,atn,_,rfl,_,rfl,_,rfl,n,nn,c,ls,sn,rfl,els3,pl1.ne,hc,λp H' st s ep ht so=>rest s ep (so.g (λO h=>h) an asn) rfl⟩
    . intro σ' H4 hI;lk;obtain⟨p,st,rfl,s4,ep,sg⟩:=hI;k_in;have sb4:=s3.aa s4;have g14:=(g1.aa g2).aa s4;have eu4:=g14 _ _ eu1;have ed4:=g14 _ _ ed1;have pr4:=pr1.ae g14.tp;clear rest g1 g2 g14 els els3 hln3 s3 s4 eu1 ed1 pr1 ep1 so1;have nin:=pl1.acj dz enl;show IV (λσ' H'=>X7 (λ(p:AB)(st:AR)(wd:Int)(z':AE->Nat)(sn':List AE)=>σ'=[AA (AD.ref a),AA (.int (mo:Int)),AA (.ref ln),AA (.ref lk),AA (.int c),AA (.ref u),AA (.ref d),AA (.int wd),AA (.int (2+m1)),AA (.int (c2/6%2)),AA (.int (1+(j:Int))),AA (.int nn),AA (.ref ls),AA (.ref p)]) (λO O O O O=>Aj Hb H') (λO O O O O=>H' u=AA (.lst ps)) (λO O O O O=>FD H' ps ss) (λO O O z' sn'=>H' d=AA (.dK (Fp sn' z'))) (λO O O O sn'=>sn'.length<=j+2) (λp st O O O=>C4 H' p st) (λO st O z' sn'=>Kt mo zs (ss++[st]) z' sn')) ?_ ?_
      . lk;obtain⟨e0,e1,_⟩:=ep.ku (K:=K);k_in;show⟨_,rfl,p,_,_,_,rfl,rfl,e0,e1,Ed rfl,λq hq=>?_⟩;have g5:=Bb (o:=.tup Mh) hq;show⟨_,Mh,rfl,.inr (Aq AZ),rfl,rfl,_,rfl,KR (λht=>?_) λht=>?_⟩
        . have tf:st.cu=AM:=by have ht:(!FN (.str st.ku) Mh)=AI:=ht;rw[Sv]at ht;simpa using ht
          have sb5:=sb4.aa g5;have eu5:=g5 _ _ eu4;have ed5:=g5 _ _ ed4;have pr5:=pr4.ae g5.tp;have ep5:=ep.tp g5.tp;have g5:Aj H4 (AK H4 q (.tup [AD.str "each",.str "gap"])):=g5;have sb5:Aj Hb (AK H4 q (.tup [AD.str "each",.str "gap"])):=sb5;have eu5:(AK H4 q (.tup [AD.str "each",.str "gap"])) u=_:=eu5;have ed5:(AK H4 q (.tup [AD.str "each",.str "gap"])) d=_:=ed5;have pr5:FD (AK H4 q (.tup [AD.str "each",.str "gap"])) ps ss:=pr5;have ep5:C4 (AK H4 q (.tup [AD.str "each",.str "gap"])) p st:=ep5;generalize AK H4 q (.tup [AD.str "each",.str "gap"])=H5 at g5 sb5 eu5 ed5 pr5 ep5⊢;have hz:∀{st:AR},J3 sn n st->∀a∈st.bz,Br (Fp sn z) (.inr a)=AA (.int (z a:Int))/\z a<=600:=λ{st}g x hx=>by show⟨nS (g.qm x hx),?_⟩;obtain⟨i,s',ei,rfl,t'⟩:=pl1.aed x (g.qm x hx);show(pl1.aez i s' ei t').2
          show IV (λσ' H'=>QQ (λ(p:AB)(st:AR)=>σ'=[AA (AD.ref a),AA (.int (mo:Int)),AA (.ref ln),AA (.ref lk),AA (.int c),AA (.ref u),AA (.ref d),AA (.int wd),AA (.int (2+m1)),AA (.int (c2/6%2)),AA (.int (1+(j:Int))),AA (.int nn),AA (.ref ls),AA (.ref p)]) (λO O=>Aj H5 H') (λp st=>C4 H' p st) (λO st=>J3 sn n st) (λO st=>st.cu=AM) (λO st=>FE st z mo<=600)) ?_ ?_;. show⟨_,rfl,_,rfl,_,rfl,p,d,st,_,z,mo,rfl,ep5,ed5,hz sg,_,_,rfl,rfl,_,rfl,IW (λh=>?_) λh=>⟨p,st,rfl,Bz _,ep5,sg,tf,dS.mp (Lk h)⟩⟩;show⟨_,rfl,_,rfl,ln,_,_,_,rfl,rfl,Ab (sb5 _ _ elnb),atn,_,rfl,lk,_,_,_,rfl,rfl,Ab (sb5 _ _ elkb),atk0,Ed rfl,λp2 hp2=>⟨p2,.take n k0,rfl,Bb hp2,AZ,Sr an ak0,rfl,by change mo<=600;show Af hmo (by decide)⟩⟩
          . intro σ' H6 hI;lk;obtain⟨p,st,rfl,s6,ep6,sg6,tf6,hb6⟩:=hI;k_in;have ed6:=s6 _ _ ed5;show⟨_,rfl,_,rfl,_,rfl,p,d,st,_,z,mo,rfl,ep6,ed6,hz sg6,_,rfl,_,rfl,_,rfl,ln,_,_,_,rfl,rfl,Ab (s6 _ _ (sb5 _ _ elnb)),atn,d,_,rfl,L7 (k:=.inr n) ed6 ?_,?_⟩
            . unfold Fp;rw[As];lia
            rw[jS nin];have ndo:∀{b:AB}{o:BL},H6 b=AA o->(∀kv,o≠.dK kv)->b≠d:=λeo hn z=>by rw[z,ed6]at eo;show hn _ (Bt eo).symm
            have k7:∀{b:AB}{o:BL},H6 b=AA o->(∀kv,o≠.dK kv)->(AK H6 d (.dK (Fp (sn++[n]) (IP z n (FE st z mo))))) b=AA o:=λeo hn=>by rw[AU (ndo eo hn)];show eo
            have tp7:Bd H6 (AK H6 d (.dK (Fp (sn++[n]) (IP z n (FE st z mo))))):=λb xs eo=>k7 eo (by intro kv z;cases z);have sb7:Aj Hb (AK H6 d (.dK (Fp (sn++[n]) (IP z n (FE st z mo))))):=(sb5.aa s6).wk fd;have eu7:=k7 (s6 _ _ eu5) (by intro kv z;cases z);have ed7:(AK H6 d (.dK (Fp (sn++[n]) (IP z n (FE st z mo))))) d=AA (.dK (Fp (sn++[n]) (IP z n (FE st z mo)))):=AZ;have pr7:=(pr5.ae s6.tp).ae tp7;have ep7:=ep6.tp tp7;generalize AK H6 d (.dK (Fp (sn++[n]) (IP z n (FE st z mo))))=H7 at sb7 eu7 ed7 pr7 ep7⊢;lk;obtain⟨f0,f1,_⟩:=ep7.ku (K:=K);k_in;show⟨_,rfl,_,rfl,p,_,_,_,rfl,rfl,f0,f1,Ed rfl,λq7 hq7=>?_⟩;have g8:=Bb (o:=.tup Ph) hq7;show⟨_,Ph,rfl,.inr (Aq AZ),rfl,rfl,.inr ⟨_,rfl,_,_,rfl,rfl,?_⟩⟩;show⟨p,st,_,IP z n (FE st z mo),sn++[n],rfl,sb7.aa g8,g8 _ _ eu7,pr7.ae g8.tp,g8 _ _ ed7,?_,ep7.tp g8.tp,pl1.aca dz enl sg6 (.inr ⟨tf6,rfl,rfl,hb6⟩)⟩;rw[Bs];change sn.length+1<=_;show Gn.mpr lsn
        . have tt:st.cu=AI:=by have ht:(!FN (.str st.ku) Mh)=AM:=ht;rw[Sv]at ht;simpa using ht
          show⟨p,st,wd,z,sn,rfl,sb4.aa g5,g5 _ _ eu4,pr4.ae g5.tp,g5 _ _ ed4,JM lsn,ep.tp g5.tp,pl1.aca dz enl sg (.inl ⟨tt,rfl,rfl⟩)⟩
      . intro σ' H5 hI;lk;obtain⟨p,st,wd,z',sn',rfl,s5,eu5,pr5,ed5,l5,ep5,pl5⟩:=hI;k_in;show⟨_,rfl,.inl ⟨rfl,_,Ab eu5⟩,_,rfl,u,ps,_,rfl,rfl,eu5,?_,?_⟩;.rw[pr5.fq];lia
        have tp6:Bd H5 (AK H5 u (.lst (ps++[.ref p]))):=(Ge H5).ik eu5 λxs=>by intro z;cases z
        have ndu:d≠u:=λz=>by rw[z,eu5]at ed5;cases ed5
        show⟨_,_,_,_,_,_,_,_,_,rfl,s5.wk fu,AZ,(pr5.zt ep5).ae tp6,by rw[Bs,ls1];rfl,by rw[AU ndu];show ed5,by assumption,pl5⟩
  . intro σ H1 hI;lk;obtain⟨o10,o11,o12,o13,wd,ps,ss,z,sn,rfl,s1,eu1,pr1,ls1,ed1,lsn,pl1⟩:=hI;k_in;show⟨_,rfl,k u H1 ps ss z (s0b.aa s1) (s0b.ar fu) eu1 pr1 (pl1.kh dz) (by lia) pl1.aaw pl1.aez⟩
def kU(K:An):Ax:=λU H Q O=>FK (λ(a:AB)(D:List Int)(k:Int)=>U=[.ref a,.int k]) (λa D O=>Bp K H a (D.map AD.int)) (λO D O=>D.length<=63) (λO O k=>0<=k) (λO O O=>∀p J e,Aj H J->H p=AF->HR J p e->Cp e.2.1->Cp e.2.2.1->0<=e.1/\e.1<=1000000000->Q (.ref p) J)
theorem gV{K:An}{ad:Bh}(T:BA K mg ad):T.qh.Ok A3 P w mg base 3 (kU K):=by
 have D:=P0 (P:=P) (w:=w) (base:=base) T;have J:=Wx (P:=P) (w:=w) (base:=base) T;show T.qh.ok λZ O0 O0 O0 O0 O0 A H vs Q E h=>?_;lk;obtain⟨a,C,i,rfl,e,z,O,k⟩:=h;k_in;show⟨_,(Ae (Bq (i:=2) Z rfl (BX rfl) (A5 (SR T) A (Y9 (AQ 0) (Y9 (AW E2 (AQ 1) AO) E3)))) (Ae (Bq (i:=3) Z rfl (BX rfl) (A5 (SS T) A (Y9 (AQ 0) E3))) (Ae (Bq (i:=4) Z rfl (BX rfl) (AW E2 (AW Fv (AW CG (A5 D A (Y9 (AQ 0) (Y9 (AQ 1) E3))) AO) (AQ 3)) (AW Fv (AW CG (AQ 2) AO) (Ie YC (by rfl) T.aak aS (Y9 (Jm Qh (AQ 3) AO (Ba _)) E3))))) (Ae (Ii (B0 (Bj Cs (AW CG (AW DK (A5 D A (Y9 (AQ 0) (Y9 (AQ 1) E3))) AO) AO) AO (Ba _)) (Aa (Bq (i:=4) Z rfl (BX rfl) (AW CG (AW CG (AW Fv (AQ 2) AO) AO) AO))) CQ)) (Ae (Ii (B0 (Bj Cs (AW CG (AW DK (A5 D A (Y9 (AQ 0) (Y9 (AQ 1) E3))) AO) AO) AO (Ba _)) (Aa (Bq (i:=4) Z rfl (BX rfl) (AW Hl AO (AW CG (AW DK (A5 D A (Y9 (AQ 0) (Y9 (AQ 1) E3))) AO) AO)))) CQ)) (Ae (Bq (i:=5) Z rfl (BX rfl) (Bc (Dh (K:=K)) (A5 J A (Y9 (AQ 0) (Y9 AO (Y9 AO E3)))) (AW CG (AW DK (AQ 2) AO) AO) (λO0 O0=>rfl))) (Ae (Bq (i:=6) Z rfl (BX rfl) (A5 J A (Y9 (AQ 0) (Y9 AO (Y9 (Bc (Dh (K:=K)) (DB (Y9 AO (Y9 AO (Y9 AO E3)))) (AW CG (AW DK (A5 D A (Y9 (AQ 0) (Y9 AO E3))) AO) AO) (λO0 O0=>rfl)) E3))))) (Ae (Bq (i:=7) Z rfl (BX rfl) (Bc (Dh (K:=K)) (AQ 6) (AW CG (AW DK (AQ 2) AO) (CL (Jg (K:=K)) (by rfl) T.iq GY (Y9 (AQ 6) E3))) (λO0 O0=>rfl))) (Ae (Bq (i:=8) Z rfl (BX rfl) (AW Hl (AW CG (AW DK (AQ 2) AO) AO) AO)) (Ae (Ii (B0 (Bj Cs (AW CG (AW DK (AQ 2) AO) AO) AO (Ba _)) (Aa (Bq (i:=8) Z rfl (BX rfl) (AW Hl (AW CG (AW Fv (AQ 2) AO) AO) AO))) CQ)) (Aa (Ay (Cn (Y9 (AQ 4) (Y9 (AQ 5) (Y9 (AQ 7) (Y9 (AQ 8) E3))))))))))))))))),?_⟩;show⟨_,rfl,_,rfl,_,_,rfl,rfl,a,C,_,rfl,e,z,AAa O,λB nn0=>?_⟩;show⟨_,rfl,a,C,rfl,e,z,λc Hb r hc=>?_⟩;have W:=r.xp e;have b:1<=c/\c<=40000:=by(constructor<;>lia)
 show⟨_,rfl,_,rfl,a,C,_,rfl,W,O,z,λF=>⟨_,_,rfl,rfl,(by decide:(0:Int)<40),_,rfl,_,_,rfl,rfl,.inr ⟨IE (by decide) b.1,Ga b.2 (by decide)⟩,_,rfl,_,_,rfl,rfl,(by decide:(0:Int)<3),_,rfl,_,_,rfl,rfl,.inr ⟨_,rfl,?_⟩⟩⟩;have m3:0<=B%3/\B%3<3:=⟨Fz _ (by decide),HP _ (by decide)⟩;show⟨_,_,rfl,rfl,.inl ⟨IE (by decide) m3.1,Pf m3.2 (by decide)⟩,_,_,rfl,rfl,?_⟩;have Y:0<=F%40*c+(B%3*if Ac (1<c)=AI then 1 else 0)/\F%40*c+(B%3*if Ac (1<c)=AI then 1 else 0)<=1000000000:=by
  have m4:0<=F%40/\F%40<=39:=by(constructor<;>lia)
  have u1:0<=F%40*c:=dR m4.1 (Kp b.1);split<;>(constructor<;>lia)
 show IV (λU S=>Jf (λ(t:Int)=>(0<=t/\t<=1000000000)) (λt=>U=[AA (.ref a),AA (.int i),AA (.int B),AA (.int c),AA (.int t),AF,AF,AF,AF]) (λO0=>S=Hb)) ?_ ?_;. show⟨_,rfl,_,rfl,a,C,_,rfl,W,O,z,λc2=>⟨_,_,rfl,rfl,⟨by decide,by decide⟩,_,_,rfl,rfl,(by decide:(0:Int)<9),rfl,_,rfl,D6 (λO0=>?_) λO0=>⟨_,Y,rfl,rfl⟩⟩⟩;show⟨_,rfl,_,_,rfl,rfl,.inr ⟨by decide,by decide⟩,_,_,rfl,rfl,(by decide:(0:Int)<1000000007),_,_,rfl,rfl,(by decide:(0:Int)<1000000001),_,⟨Fz _ (by decide),AAe (HP _ (by decide))⟩,rfl,rfl⟩
 intro U S L;lk;obtain⟨t,Y,rfl,rfl⟩:=L;k_in;show IV (λU u=>Jf (λ(t:Int)=>(0<=t/\t<=1000000000)) (λt=>U=[AA (.ref a),AA (.int i),AA (.int B),AA (.int c),AA (.int t),AF,AF,AF,AF]) (λO0=>u=S)) ?_ ?_
 . show⟨_,rfl,_,rfl,a,C,_,rfl,W,O,z,λc2=>⟨_,_,rfl,rfl,⟨by decide,by decide⟩,_,_,rfl,rfl,(by decide:(0:Int)<9),rfl,_,rfl,D6 (λO0=>?_) λO0=>⟨_,Y,rfl,rfl⟩⟩⟩;show⟨_,rfl,_,rfl,a,C,_,rfl,W,O,z,λc3=>⟨_,_,rfl,rfl,⟨by decide,by decide⟩,_,_,rfl,rfl,(by decide:(0:Int)<3),_,_,rfl,rfl,_,⟨by lia,AAn _ (Fz _ (by decide))⟩,rfl,rfl⟩⟩
 intro U u L;lk;obtain⟨t,Y,rfl,rfl⟩:=L;k_in;show⟨_,rfl,a,C,2,2,rfl,W,z,by decide,by decide,by decide,λlk Hk ks s O0 d n O0 ak=>?_⟩;lk;obtain⟨v,hv,hm⟩:=Hi (ks.map AD.str) 2 (by rw[As];show n) (by decide) (B/16);obtain⟨kd,mk,rfl⟩:=A7.mp hm;k_in;show⟨_,rfl,_,_,rfl,rfl,⟨by decide,by decide⟩,_,_,rfl,rfl,(by decide:(0:Int)<2),lk,_,_,_,rfl,rfl,Ab d,hv,?_⟩;have M:=s.xp W;show⟨_,rfl,Ed rfl,λR g=>?_⟩;have I:=Bb (o:=.lst [AD.int 3,.int 3,.int 9]) g;have e1:(AK Hk R (.lst [AD.int 3,.int 3,.int 9])) R=AA (.lst [AD.int 3,.int 3,.int 9]):=AZ;generalize AK Hk R (.lst [AD.int 3,.int 3,.int 9])=H3 at I e1⊢;show⟨_,rfl,a,C,_,rfl,I.xp M,by decide,z,λc4=>?_⟩;lk;obtain⟨v,j,N⟩:=Hi [AD.int 3,.int 3,.int 9] 3 rfl (by decide) (c4/12);obtain⟨m,rfl,hm4⟩:∃m:Int,v=.int m/\(m=3\/m=9):=by
  simp only[B6,Q5,AER]at N;rcases N with rfl|rfl|rfl;.show⟨_,rfl,.inl rfl⟩
  .show⟨_,rfl,.inl rfl⟩
  .show⟨_,rfl,.inr rfl⟩
 k_in;show⟨_,_,rfl,rfl,⟨by decide,by decide⟩,_,_,rfl,rfl,(by decide:(0:Int)<3),R,_,_,_,rfl,rfl,Ab e1,j,a,C,3,m,rfl,I.xp M,z,by decide,by lia,by lia,λq H4 ys sy O0 G lys O0 ay=>?_⟩;have l0:(0:Int)<((ys.map AD.str).length:Int):=by rw[As];lia
 lk;obtain⟨v,l,f⟩:=Hi (ys.map AD.str) _ rfl l0 (B/32);obtain⟨y,my,rfl⟩:=A7.mp f;k_in;show⟨_,rfl,_,rfl,_,_,rfl,rfl,⟨by decide,by decide⟩,_,rfl,q,_,rfl,.inl (Ab G),_,_,rfl,rfl,l0,q,_,_,_,rfl,rfl,Ab G,l,?_⟩;show⟨_,rfl,_,_,rfl,rfl,⟨by decide,by decide⟩,_,_,rfl,rfl,(by decide:(0:Int)<13),_,_,rfl,rfl,?_⟩;show IV (λU x=>FZ (λ(X:Int)=>U=[AA (.ref a),AA (.int i),AA (.int B),AA (.int c),AA (.int t),AA (.str kd),AA (.ref q),AA (.str y),AA (.int X)]) (λO0=>x=H4)) ?_ ?_
 . show⟨_,rfl,_,_,rfl,rfl,⟨by decide,by decide⟩,_,_,rfl,rfl,(by decide:(0:Int)<8),rfl,_,rfl,D6 (λO0=>?_) λO0=>⟨_,rfl,rfl⟩⟩;show⟨_,rfl,_,_,rfl,rfl,.inr ⟨by decide,by decide⟩,_,_,rfl,rfl,(by decide:(0:Int)<2000000001),_,_,rfl,rfl,_,rfl,rfl⟩
 intro U x L;lk;obtain⟨X,rfl,rfl⟩:=L;k_in;show⟨_,rfl,_,rfl,_,rfl,_,rfl,Ed rfl,λp hp=>k p _ (t,kd,y,X) ((r.aa (s.aa (I.aa sy))).ik hp) ((r.aa (s.aa (I.aa sy))).ar hp) AZ (ak _ mk) (ay _ my) Y⟩
abbrev De:=Int×Int×Int×Int
abbrev AY:=Int×Int×De
abbrev Iw:=Int×Int
noncomputable def GO(a b:De):De:=(a.1+b.1,a.2.1+b.2.1,DU a.2.2.1 b.2.2.1,Jn a.2.2.2 b.2.2.2)
noncomputable def Jc(a:Int):De:=(1,a,a,a)
theorem f9(a b:Int):(if b<a then b else a)=DU a b:=by(split<;>lia)
theorem N5(a b:De):GO a b=GO b a:=by unfold GO;grind
theorem Vt(a b c:De):GO (GO a b) c=GO a (GO b c):=by unfold GO;grind
noncomputable def Bu(s e:Int)(t:De):List AY->List AY|[]=>[(s,e,t)]|b::r=>if b.1<s then b::Bu s e t r else if b.1=s then(s,b.2.1,GO b.2.2 t)::r else(s,e,t)::b::r
def D1(l:List AY):Prop:=l.Pairwise λa b=>a.1<b.1
theorem WQ:∀{l:List AY}{x:AY},x∈Bu s e t l->x.1=s\/x∈l
  |[],x,h=>.inl (by rw[BV.mp h])|b::r,x,h=>by
    unfold Bu at h;split at h
    . rcases B6.mp h with h|h;.simp_all
      .show(WQ h).imp id (λD=>GH D)
    grind
theorem SG:∀{l:List AY},D1 l->D1 (Bu s e t l)
 |[],_=>aB _ _|b::r,h=>by
  obtain⟨U,J⟩:=G7.mp h;unfold Bu;split;. show G7.mpr ⟨λx D=>?_,SG J⟩;rcases WQ D with z|z;all_goals(simp[*])
  split;.show G7.mpr (by grind)
  . show G7.mpr ⟨λx D=>?_,h⟩;grind
theorem WO:∀{l:List AY},(Bu s e t l).length<=l.length+1
 |[]=>Ag _|b::r=>by
  unfold Bu;split;.show aO WO
  (split<;>simp_all)
theorem WT{s e s' W:Int}{t t':De}(h:s=s'->e=W):∀{l:List AY},Bu s' W t' (Bu s e t l)=Bu s e t (Bu s' W t' l)
  |[]=>by
    by_cases z:s=s';.have:=h z;subst z this;simp[Bu,N5]
    . by_cases y:s<s';.simp[Bu,y,by show RY y,by show JR y]
      .simp[Bu,y,by show AAg.mpr ⟨Lk y,DZ z⟩,show s≠s' by assumption]|b::r=>by
    have Y:=@WT s e s' W t t' h r;by_cases J:b.1<s<;>by_cases U:b.1<s';.simp[Bu,J,U,Y]
    . by_cases D:b.1=s';.simp[Bu,J,D,show s'<s by simp_all]
      .simp[Bu,J,U,D,by show Ga (Lk U) J]
    . by_cases D:b.1=s;.simp[Bu,U,D,show s<s' by simp_all]
      .simp[Bu,J,U,D,by show Ga (Lk J) U]
    . by_cases D:b.1=s<;>by_cases V:b.1=s'
      . have z:=Ny D.symm V;have:=h z;subst z this;simp[Bu,D,Vt,N5 t t']
      .simp[Bu,D,show¬s<s' by simp_all,show s'<s by lia,show s≠s' by simp_all]
      .simp[Bu,V,show¬s'<s by simp_all,show s<s' by lia,show s'≠s by simp_all]
      . by_cases z:s=s'
        . have:=h z;subst z this;simp[Bu,J,D,N5]
        . by_cases y:s<s';.simp[Bu,J,U,D,V,y,by show RY y,by show JR y,by(first|lia|omega)]
          .simp[Bu,J,U,D,V,y,by show AAg.mpr ⟨Lk y,DZ z⟩,show s≠s' by assumption]
noncomputable def D4(w:Int)(p:AY):Bool:=Ac (w<p.2.1)
theorem WN:∀{l:List AY},(∀x∈l,s<x.1)->Bu s e t l=(s,e,t)::l|[],_=>rfl|b::r,h=>by have:=h b DI;simp[Bu,by show RY this,by show JR this]
theorem WS{w s e:Int}{t:De}(V:w<e):∀{l:List AY},D1 l->(∀b∈l,b.1=s->w<b.2.1)->(Bu s e t l).filter (D4 w)=Bu s e t (l.filter (D4 w))/\(Bu s e t l).filter (λp=>!D4 w p)=l.filter λp=>!D4 w p
  |[],_,_=>by simp[Bu,D4,V]|b::r,u,h=>by
    obtain⟨z,u2⟩:=G7.mp u;have Y:=@WS w s e t V r u2 (λz u2 u3=>h _ (GH u2) u3);by_cases D:b.1<s;.cases c:D4 w b<;>simp[Bu,D,c,Y.1,Y.2]
    . by_cases J:b.1=s
      . have W:=h b DI J;have Z:D4 w b=AI:=AEF W;have U:D4 w (s,b.2.1,GO b.2.2 t)=AI:=AEF W;simp[Bu,D,J,Z,U]
      . have U:D4 w (s,e,t)=AI:=AEF V;cases c:D4 w b
        . simp only[Bu,D,J,AEJ,GV,U,c,AEL,AAU,AAT,Lj,and_true];show(WN (by grind)).symm
        .simp[Bu,D,J,U,c]
noncomputable def DE(b p:AY):AY:=(DU b.1 p.1,Jn b.2.1 p.2.1,GO b.2.2 p.2.2)
theorem Pq(a b:AY):DE a b=DE b a:=by unfold DE;rw[N5];grind
theorem Pp(a b c:AY):DE (DE a b) c=DE a (DE b c):=by unfold DE;rw[Vt];simp
noncomputable def CB(p:AY):List AY->List AY|[]=>[p]|b::r=>if b.2.1<=p.1 then b::CB p r else if p.2.1<=b.1 then p::b::r else CB (DE b p) r
def HQ(l:List AY):Prop:=(∀b∈l,b.1<b.2.1)/\l.Pairwise λa b=>a.2.1<=b.1
theorem Py:∀{l:List AY}{p:AY},x<=p.1->(∀b∈l,x<=b.1)->∀b∈CB p l,x<=b.1
  |[],p,h,_,b,D=>by rw[BV.mp D];show h|c::r,p,h,J,b,D=>by
    have U:=λb D=>J b (En _ D);unfold CB at D;split at D
    . rcases B6.mp D with z|z;.show J _ (B6.mpr (BX z))
      .show Py h U b z
    split at D;.grind
    .show Py (by unfold DE;grind) U b D
theorem Px:∀{l:List AY}{p:AY},p.1<p.2.1->HQ l->HQ (CB p l)
 |[],p,h,_=>⟨λb D=>by rw[BV.mp D];show h,aB _ _⟩|c::r,p,h,⟨U,V⟩=>by
  obtain⟨W,u2⟩:=G7.mp V;have J:HQ r:=⟨(λW u2=>U _ (GH u2)),u2⟩;unfold CB;split
  . obtain⟨i1,i2⟩:=Px h J;show⟨λb D=>?_,G7.mpr ⟨λb D=>Py (by assumption) (by assumption) b D,i2⟩⟩;grind
  split
  . show⟨λb D=>?_,G7.mpr (by grind)⟩;all_goals grind
  .show Px (by unfold DE;grind) J
theorem SN:∀{l:List AY}{p:AY},(CB p l).length<=l.length+1
 |[],_=>Ag _|b::r,p=>by
  unfold CB;split;.show aO SN
  split;.simp
  .show Af SN (by simp)
theorem Lv:∀{l:List AY}{p q:AY},q.1<p.2.1->p.1<q.2.1->(∀b∈l,b.1<b.2.1)->CB q (CB p l)=CB (DE p q) l
  |[],p,q,V,D,_=>by simp[CB,by show JS V,by show JS D]|b::r,p,q,V,D,z=>by
    have Y:=z b DI;have Z:=λb Y=>z b (En _ Y);by_cases J:b.2.1<=p.1
    . by_cases U:b.2.1<=q.1
      . have:b.2.1<=(DE p q).1:=by show AAd.mpr ⟨J,U⟩
        simp[CB,J,U,this,Lv V D Z]
      . have e1:¬b.2.1<=(DE p q).1:=by unfold DE;grind
        have W:¬(DE p q).2.1<=b.1:=by unfold DE;grind
        simp only[CB,J,U,AEL,AEJ,by show JS (Pf (IE Y J) D),e1,W];rw[Lv (by show Ga (dQ _ _) V) (by show IE D (VF _ _)) Z,Pq b (DE p q),Pp,Pq q b]
    . by_cases U:p.2.1<=b.1;.simp[CB,J,U,by show JS V,by show JS D]
      . have e1:¬b.2.1<=(DE p q).1:=by unfold DE;omega
        have W:¬(DE p q).2.1<=b.1:=by unfold DE;grind
        simp only[CB,J,U,AEJ,e1,W];rw[Lv (by show IE V (VF _ _)) (by show Ga (dQ _ _) D) Z,Pp]
theorem gC:∀{l:List AY},p.1<p.2.1->(∀b∈l,b.1<b.2.1)->(∀b∈l,p.2.1<=b.1)->CB p l=p::l|[],_,_,_=>rfl|b::r,h,D,J=>by have:=D b DI;have:=J b DI;simp[CB,show¬b.2.1<=p.1 by lia,by(first|lia|omega)]
theorem Pw:∀{l:List AY}{p q:AY},p.1<p.2.1->q.1<q.2.1->p.2.1<=q.1->HQ l->CB q (CB p l)=CB p (CB q l)
  |[],p,q,Z,U,h,_=>by simp[CB,h,show¬q.2.1<=p.1 by lia]|b::r,p,q,Z,U,h,Y=>by
    obtain⟨A,u2⟩:=G7.mp Y.2;have z:=Y.1 b DI;have W:HQ r:=⟨λb z=>Y.1 b (GH z),u2⟩;by_cases J:b.2.1<=p.1;.simp[CB,J,by show Fh (Fh J (Kp Z)) h,Pw Z U h W]
    . by_cases D:p.2.1<=b.1
      . have e:=gC Z (Px U Y).1 (Py h (by grind));rw[e];simp[CB,J,D,h]
      . by_cases V:b.2.1<=q.1
        . simp only[CB,J,D,V,AEL,AEJ];show Pw (by unfold DE;grind) U (by show Int.max_le.mpr ⟨V,h⟩) W
        . simp only[CB,J,D,V,AEJ,by show Kg D (λA=>Fh (Fh h (Kp U)) A)];rw[Lv (by show IE (RZ V) (AAc _ _)) (by unfold DE;omega) W.1,Lv (by unfold DE;grind) (by show lt_of_eq_of_lt (AAh (Fh (Kp (RZ D)) h)) (RZ D)) W.1,Pp,Pp,Pq p q]
theorem gD(J:p.1<p.2.1)(U:q.1<q.2.1)(D:HQ l):CB q (CB p l)=CB p (CB q l):=by
 by_cases V:p.2.1<=q.1;.show Pw J U V D
 by_cases W:q.2.1<=p.1;.show(Pw U J W D).symm
 rw[Lv (by simp_all) (by simp_all) D.1,Lv (by simp_all) (by simp_all) D.1,Pq]
theorem Wg:∀{l:List AY}{p:AY},w<=p.1->p.1<p.2.1->HQ l->(CB p l).filter (D4 w)=CB p (l.filter (D4 w))/\(CB p l).filter (λp=>!D4 w p)=l.filter λp=>!D4 w p
  |[],p,h,J,_=>by simp[CB,D4,by show Ga h J]|b::r,p,h,J,Z=>by
    obtain⟨F,u2⟩:=G7.mp Z.2;have Y:HQ r:=⟨λb W=>Z.1 b (GH W),u2⟩;cases c:D4 w b;. have hw:=AEM c;have U:=Wg h J Y;simp[CB,by show Fh (Lk hw) h,c,U.1,U.2]
    . have hw:=AEI c;have A:∀{l:List _},(∀x∈l,w<x.2.1)->l.filter (D4 w)=l/\l.filter (λp=>!D4 w p)=[]:=λ{l}h=>⟨Ud.mpr λx D=>AEF (h x D),MP.mpr λx D=>by simp[D4,h x D]⟩;have B:∀x∈b::r,w<x.2.1:=λx D=>by
        rcases B6.mp D with z|z;.rw[z];show hw
        .have:=F x z;have:=Y.1 x z;lia
      have G:=by
        have V:∀{l:List _}{p:AY},w<p.2.1->(∀x∈l,w<x.2.1)->∀x∈CB p l,w<x.2.1:=λ{l}=>by induction l with |nil=>intro p h _ x D;rw[BV.mp D];show h|cons c l U=>
            intro p h C x D;have E:=λb W=>C b (En _ W);unfold CB at D;split at D;.grind
            split at D;.grind
            .show U (by unfold DE;show IE h (VF _ _)) E x D
        show V (Ga h J) B
      grind
noncomputable def D5(p x:AY):Bool:=Ac (x.1<p.2.1)&&Ac (p.1<x.2.1)
theorem SM:∀{l:List AY}{p:AY},p.1<p.2.1->HQ l->Bu (((l.filter (D5 p)).map (·.1)).foldl DU p.1) (((l.filter (D5 p)).map (·.2.1)).foldl Jn p.2.1) ((l.filter (D5 p)).foldl (λt x=>GO t x.2.2) p.2.2) (l.filter λx=>!D5 p x)=CB p l
  |[],p,_,_=>rfl|b::r,p,G,V=>by
    obtain⟨W,u2⟩:=G7.mp V.2;have z:=V.1 b DI;have U:HQ r:=⟨λb z=>V.1 b (by grind),u2⟩;by_cases J:b.2.1<=p.1
    . have o:D5 p b=AM:=by unfold D5;simp_all
      have I:∀{m:List Int}{a:Int},b.2.1<=a->(∀x∈m,b.2.1<=x)->b.2.1<=m.foldl DU a:=λ{m}=>by induction m with|nil=>simp|cons x m D=>showλF Z=>D (by have:=Z x DI;show AAd.mpr ⟨F,this⟩) (λW u2=>Z _ (GH u2))
      have H:b.2.1<=((r.filter (D5 p)).map (·.1)).foldl DU p.1:=(by grind);simp only[GV,o,AAT,AEL,Lj,AEJ,CB,J];rw[<-SM G U];show AEE (IE z H)
    . by_cases Y:p.2.1<=b.1
      . have B:∀x∈b::r,D5 p x=AM:=λx A=>by unfold D5;grind
        rw[MP.mpr (λW u2=>AAS.mp (B _ u2)),Ud.mpr (by simpa using B)];simp only[CB,J,Y,AEL,AEJ];show WN (by grind)
      . have o:D5 p b=AI:=by unfold D5;simp_all
        have same:∀x∈r,D5 p x=D5 (DE b p) x:=λx A=>by have:=U.1 x A;unfold D5 DE;grind
        have D:=SM (p:=DE b p) (by unfold DE;grind) U;have C:=Kb same;have E:=Kb (λW u2=>Bool.not_inj_iff.mpr (same _ u2));rw[<-C,<-E,show(DE b p).1=DU p.1 b.1 from Int.min_comm _ _,show(DE b p).2.1=Jn p.2.1 b.2.1 from Int.max_comm _ _,show(DE b p).2.2=GO p.2.2 b.2.2 from N5 _ _]at D;simp only[GV,o,AAU,AEL,Lj,AEJ,CB,J,Y,Fd,wU];show D
theorem Rw:∀{l:List AY},HQ l->D1 l|[],_=>.nil|b::r,h=>by obtain⟨J,u2⟩:=G7.mp h.2;show G7.mpr ⟨λx D=>by have:=J x D;have:=h.1 b DI;lia,Rw ⟨λb U=>h.1 b (by grind),u2⟩⟩
noncomputable def Ky(t z d:Int):List Int:=(FP (FO (((t-z)/d+1)*d) (t+1) d)).map λk:Nat=>((t-z)/d+1)*d+(k:Int)*d
structure Ri(t z d:Int):Prop where
 d1:1<=d
 d2:d<=200000
 z1:d<=z
 z2:z<=4*d
 t1:0<=t
 t2:t<=1000000000
theorem Po{t z d:Int}(h:1<=d):t-z<((t-z)/d+1)*d/\((t-z)/d+1)*d<=t-z+d:=by have D:=Int.mul_ediv_add_emod (t-z) d;have J:=Fz (t-z) (by show JR h);have U:=HP (t-z) (by assumption);(constructor<;>lia)
theorem Sq(h:Ri t z d):(Ky t z d).length<=5/\FO (((t-z)/d+1)*d) (t+1) d<=5:=by
 lk;obtain⟨D,J,U,V,W,Y⟩:=h;k_in;have f:=(Po (t:=t) (z:=z) D).1;have:FO (((t-z)/d+1)*d) (t+1) d<=5:=by
  unfold FO;split
  . have:(t+1-((t-z)/d+1)*d-1)/d<=4:=Int.ediv_le_of_le_mul (by assumption) (by lia);show Ra.mpr (Int.add_le_iff_le_sub.mpr this)
  .simp
 show⟨by unfold Ky;simp_all,this⟩
noncomputable def XJ(t a z d:Int)(l:List AY):List AY:=(Ky t z d).foldl (λl s=>Bu s (s+z) (Jc a) l) l
theorem SD:∀{ss:List Int}{l:List AY},D1 l->D1 (ss.foldl (λl s=>Bu s (s+z) x l) l)/\(ss.foldl (λl s=>Bu s (s+z) x l) l).length<=l.length+ss.length|[],l,h=>(by simp_all)|s::ss,l,h=>by obtain⟨i1,i2⟩:=SD (ss:=ss) (z:=z) (x:=x) (SG (s:=s) (e:=s+z) (t:=x) h);have:=WO (s:=s) (e:=s+z) (t:=x) (l:=l);grind
theorem Xm{f:D->α->D}{l:List α}(h:l[i]?=AA x):(l.take (i+1)).foldl f b=f ((l.take i).foldl f b) x:=by rw[EI,h,List.foldl_append];rfl
noncomputable def Iz(w:Int)(l:List AY):List AY:=l.filter (D4 w)
noncomputable def JA(w:Int)(l:List AY):List AY:=l.filter λp=>!D4 w p
def AR.iu:AR->Prop|.gap _ _ _ m=>0<=m|.each _ _ _ z d=>1<=d/\d<=200000/\d<=z/\z<=4*d|_=>False
noncomputable def AR.nv(s:AR)(t a:Int)(l:List AY):List AY:=match s with|.each _ _ _ z d=>XJ t a z d l|.gap _ _ _ m=>CB (t,t+m+1,Jc a) l|_=>l
def AR.gd(s:AR)(l:List AY):Prop:=match s with|.each _ _ _ z _=>D1 l/\∀b∈l,b.2.1=b.1+z|.gap ..=>HQ l|_=>D1 l
theorem nE(h:1<=d)(D:s∈Ky t z d):t<s+z:=by lk;obtain⟨k,_,rfl⟩:=A7.mp D;k_in;have:=Po (t:=t) (z:=z) h;have:0<=(k)*d:=dR (by lia) (Kp h);lia
noncomputable def Gu(z:Int)(x:De)(l:List AY)(s:Int):List AY:=Bu s (s+z) x l
def N0(z:Int)(l:List AY):Prop:=D1 l/\∀b∈l,b.2.1=b.1+z
theorem WM(h:N0 z l):N0 z (Gu z x l s):=by
 show⟨SG h.1,?_⟩;have:∀{l:List _},(∀b∈l,b.2.1=b.1+z)->∀b∈Bu s (s+z) x l,b.2.1=b.1+z:=λ{l}=>by induction l with |nil=>intro _ b D;rw[BV.mp D]|cons c l J=> intro h b D;unfold Bu at D;grind
 show this h.2
theorem WD:∀{ss:List Int}{l:List AY},N0 z l->N0 z (ss.foldl (Gu z x) l)|[],_,h=>h|s::ss,l,h=>WD (ss:=ss) (WM h)
theorem WE:∀{ss:List Int}{l:List AY},Gu z y (ss.foldl (Gu z x) l) s=ss.foldl (Gu z x) (Gu z y l s)|[],_=>rfl|r::ss,l=>by change Gu z y (ss.foldl _ _) s=_;rw[WE];change _=ss.foldl _ _;congr 1;show WT (by simp)
theorem WH{ss:List Int}:∀{D:List Int}{l:List AY},D.foldl (Gu z y) (ss.foldl (Gu z x) l)=ss.foldl (Gu z x) (D.foldl (Gu z y) l)|[],_=>rfl|r::D,l=>by change D.foldl _ _=_;rw[WE,WH];rfl
theorem WG:∀{ss:List Int}{l:List AY},(∀s∈ss,w<s+z)->N0 z l->Iz w (ss.foldl (Gu z x) l)=ss.foldl (Gu z x) (Iz w l)/\JA w (ss.foldl (Gu z x) l)=JA w l
 |[],_,_,_=>⟨rfl,rfl⟩|s::ss,l,h,J=>by
  have D:=h s DI;lk;obtain⟨W,U⟩:=WS D J.1 λb V e=>by rw[J.2 b V,e];show D
  obtain⟨i1,i2⟩:=WG (λs D=>h s (GH D)) (WM J);k_in;show⟨i1.trans ?_,i2.trans U⟩;change ss.foldl _ _=ss.foldl _ _;congr 1
theorem AR.zh{s:AR}(D:s.iu)(h:s.gd l):s.gd (s.nv t a l):=by cases s with|each _ _ _ z d=>show WD h|gap _ _ _ m=>show Px (by show VG (Pe D) (by decide)) h|_=>cases D
theorem AR.yb{s:AR}(D:s.iu)(h:s.gd l):s.nv t' J (s.nv t a l)=s.nv t a (s.nv t' J l):=by cases s with|each _ _ _ z d=>show WH|gap _ _ _ m=>show gD (by show VG (Pe D) (by decide)) (by show VG (Pe D) (by decide)) h|_=>cases D
theorem d6{s:AR}(D:s.iu)(h:s.gd l)(J:w<=t):Iz w (s.nv t a l)=s.nv t a (Iz w l)/\JA w (s.nv t a l)=JA w l:=by cases s with|each _ _ _ z d=>show WG (λr U=>by have:=nE D.1 U;show Ga J this) h|gap _ _ _ m=>show Wg J (by have:0<=m:=D;lia) h|_=>cases D
theorem d5{s:AR}{m:List AY}(h:s.gd l)(D:m.Sublist l):s.gd m:=by cases s with|each _ _ _ z d=>show⟨h.1.sublist D,λb J=>h.2 b (D.mem J)⟩|gap _ _ _ m=>show⟨λb J=>h.1 b (D.mem J),h.2.sublist D⟩|_=>show h.sublist D
theorem VS{s:AR}(h:s.gd l):D1 l:=by cases s with|each _ _ _ z d=>show h.1|gap _ _ _ m=>show Rw h|_=>show h
theorem AR.aer{s:AR}:s.gd []:=by cases s with|each _ _ _ z d=>show⟨.nil,(by simp)⟩|gap _ _ _ m=>show⟨(by simp),.nil⟩|_=>show .nil
theorem AR.fq{s:AR}(D:s.iu)(J:0<=t/\t<=1000000000)(V:s.gd l):(s.nv t a l).length<=l.length+5:=by cases s with|each _ _ _ z d=>have U:=(SD (z:=z) (x:=Jc a) (ss:=Ky t z d) V.1).2;have W:=(Sq ⟨D.1,D.2.1,D.2.2.1,D.2.2.2,J.1,J.2⟩).1;show Af U (by simp_all)|gap _ _ _ m=>show Af SN (by simp)|_=>cases D
noncomputable def IJ(s:AR)(l:List Iw):List AY:=l.foldl (λl x=>s.nv x.1 x.2 l) []
theorem fA{s:AR}{ps:List Iw}(D:s.iu):∀{l:List AY},s.gd l->s.gd (ps.foldl (λl x=>s.nv x.1 x.2 l) l):=by induction ps with|nil=>simp|cons p ps J=>showλh=>J (s.zh D h)
theorem fB{s:AR}{ps:List Iw}(D:s.iu)(h:ps.Perm qs):∀{l:List AY},s.gd l->ps.foldl (λl x=>s.nv x.1 x.2 l) l=qs.foldl (λl x=>s.nv x.1 x.2 l) l:=by induction h with|nil=>simp|cons x _ J=>showλh=>J (s.zh D h)|swap x y l=>showλh=>by change l.foldl _ _=l.foldl _ (s.nv _ _ _);rw[s.yb D h]|trans _ _ U V=>simp_all
theorem d9(D:s.iu)(h:ps.Perm qs):IJ s ps=IJ s qs:=fB D h s.aer
theorem Vu{s:AR}(D:s.iu):s.gd (IJ s ps):=fA D s.aer
theorem eA:IJ s (ps++[x])=s.nv x.1 x.2 (IJ s ps):=by unfold IJ;simp
theorem Vv(J:s.iu)(U:∀x∈ps,0<=x.1/\x.1<=1000000000):(IJ s ps).length<=5*ps.length:=by
 have:∀{ps:List Iw}{l:List _},(∀x∈ps,0<=x.1/\x.1<=1000000000)->s.gd l->(ps.foldl (λl x=>s.nv x.1 x.2 l) l).length<=l.length+5*ps.length:=λ{ps}=>by induction ps with |nil=>simp|cons x ps V=> intro l h D;have W:=V (λZ u2=>h _ (GH u2)) (s.zh (t:=x.1) (a:=x.2) J D);have Y:=s.fq (a:=x.2) J (h x DI) D;grind
 have:=this U s.aer;unfold IJ;simp_all
def GN(H:AG)(q:AB)(t:De):Prop:=H q=AA (.tup [.int t.1,.int t.2.1,.int t.2.2.1,.int t.2.2.2])
def VQ(H:AG)(x:AD)(p:AY):Prop:=∃a q,x=.ref a/\H a=AA (.tup [.int p.1,.int p.2.1,.ref q])/\GN H q p.2.2
def Dq(H:AG)(xs:List AD)(ps:List AY):Prop:=BF (VQ H) xs ps
theorem Dq.ae(h:Dq H xs ps)(t:Bd H H'):Dq H' xs ps:=Hm (λO O J=>by obtain⟨a,q,e,e1,D⟩:=J;show⟨a,q,e,t _ _ e1,t _ _ D⟩) h
theorem Dq.fq(h:Dq H xs ps):xs.length=ps.length:=(CO h).1
theorem Dq.at(h:Dq H xs ps){i:Nat}(e:ps[i]?=AA p):∃a q,xs[i]?=AA (.ref a)/\H a=AA (.tup [.int p.1,.int p.2.1,.ref q])/\GN H q p.2.2:=by lk;obtain⟨l,U⟩:=CO h;have D:=Cd (by rw[l];show(BH.mp e).1);obtain⟨a,q,e1,J⟩:=U _ _ _ D e;k_in;rw[e1]at D;show⟨a,q,D,J⟩
theorem Dq.ix(h:Dq H xs ps){i:Nat}(e:xs[i]?=AA x):∃p a q,ps[i]?=AA p/\x=.ref a/\H a=AA (.tup [.int p.1,.int p.2.1,.ref q])/\GN H q p.2.2:=by lk;obtain⟨l,U⟩:=CO h;have D:=Cd (by rw[<-l];show(BH.mp e).1);obtain⟨a,q,e1,J⟩:=U _ _ _ e D;k_in;show⟨_,a,q,D,e1,J⟩
theorem fV(a b:Int):(if b>a then b else a)=Jn a b:=by lia
theorem fQ(h:c<a):BO [.inl a,.inl b] [.inl c,.inl d]=AM:=by change(if(Co a)=Co c then _ else Ac _)=_;rw[AED λe=>by simp_all];show AEH (RY h)
theorem jK{F:α->U->Prop}{f:J->U}(h:BF (λa b=>F a (f b)) D bs):BF F D (bs.map f):=by induction h with|nil=>show .nil|cons r _ V=>show .cons r V
noncomputable def Lx(p:AY):List AL:=[.inl p.1,.inl p.2.1]
theorem Dq.hd(h:Dq H xs ps):BF (Rc 1 H) xs (ps.map Lx):=jK (Hm (λO O D=>by obtain⟨a,q,e,e1,_⟩:=D;show⟨a,_,e,e1,.inr (CY rfl)⟩) h)
theorem D1.sd(h:D1 ps):C5 (ps.map Lx):=G8.mpr (h.imp λq=>fQ q)
theorem WU:∀{ps:List AY}{n:Nat}{p:AY},(∀(i:Nat)p,i<n->ps[i]?=AA p->p.1<S)->ps[n]?=AA p->p.1=S->Bu S E t ps=ps.take n++[(S,p.2.1,GO p.2.2 t)]++ps.drop (n+1)|[],n,p,_,e,_=>by cases e|b::r,0,p,_,e,q=>by cases e;unfold Bu;rw[AED (AAj.mpr (Int.le_of_eq q.symm)),AEE q];rfl|b::r,n+1,p,h,e,q=>by unfold Bu;rw[AEE (h 0 b (aP _) rfl),WU (λi p J D=>h _ p (ABP J) D) e q];rfl
theorem WR:∀{ps:List AY}{n:Nat},(∀(i:Nat)p,i<n->ps[i]?=AA p->p.1<S)->n<=ps.length->(∀p,ps[n]?=AA p->S<p.1)->Bu S E t ps=ps.take n++[(S,E,t)]++ps.drop n
 |[],n,_,h,_=>by cases n with |zero=>rfl|succ n=>show absurd h (xK _)
 |b::r,0,_,_,q=>by have:=q b rfl;unfold Bu;rw[AED (RY this),AED (JR this)];rfl|b::r,n+1,h,U,q=>by unfold Bu;rw[AEE (h 0 b (aP _) rfl),WR (λi p J D=>h _ p (ABP J) D) (aF U) q];rfl
def mR:Ax:=λJ H Q O=>∃a:Int,J=[.int a]/\∀r D,Aj H D->H r=AF->GN D r (Jc a)->Q (.ref r) D
def j9:Ax:=λJ H Q O=>Pj (λ(p q:AB)(x y:De)=>J=[.ref p,.ref q]) (λp O x O=>GN H p x) (λO q O y=>GN H q y) (λO O x y=>∀r D,Aj H D->H r=AF->GN D r (GO x y)->Q (.ref r) D)
def lP:Ax:=λD H Q O=>∃a b c m:Int,D=[.int a,.int b,.int c,.int m]/\Q (.bl (Ac (a-c<=m)&&Ac (c-(b-m-1)<=m))) H
def mM:Ax:=λJ H Q O=>∃t z d:Int,J=[.int t,.int z,.int d]/\Ri t z d/\∀l D,Aj H D->H l=AF->D l=AA (.lst ((Ky t z d).map AD.int))->Q (.ref l) D
theorem W3{K:An}(T:BA K J U):T.vz.Ok A3 P w J base 1 mR:=by show T.vz.ok λW O O O O O V H Y Q E h=>?_;lk;obtain⟨a,rfl,k⟩:=h;k_in;show⟨_,(Aa (Ay (Cn (Y9 AO (Y9 (AH 0) (Y9 (AH 0) (Y9 (AH 0) E3))))))),?_⟩;show⟨CY rfl,λr D=>k r _ (Bb D) D AZ⟩
theorem Wl{K:An}(T:BA K U V):T.zz.Ok A3 P w U base 1 j9:=by show T.zz.ok λY O O O O O W H Z Q E h=>?_;lk;obtain⟨p,q,x,y,rfl,e1,J,k⟩:=h;k_in;show⟨_,(Aa (Ay (Cn (Y9 (AW GF (BG K (AH 0) AO) (BG K (AH 1) AO)) (Y9 (AW GF (BG K (AH 0) AO) (BG K (AH 1) AO)) (Y9 (CL (YF rfl) (by rfl) T.abp xV (Y9 (BG K (AH 0) AO) (Y9 (BG K (AH 1) AO) E3))) (Y9 (CL (YE rfl) (by rfl) T.aal aT (Y9 (BG K (AH 0) AO) (Y9 (BG K (AH 1) AO) E3))) E3))))))),?_⟩;have i1:CN K H p _:=Aq e1;have i2:CN K H q _:=Aq J;show⟨_,_,i1,Ao rfl,_,_,i2,Ao rfl,_,_,i1,Ao rfl,_,_,i2,Ao rfl,_,_,i1,Ao rfl,_,_,i2,Ao rfl,_,_,i1,Ao rfl,_,_,i2,Ao rfl,?_⟩;show⟨CY rfl,λr D=>k r _ (Bb D) D (by rw[f9,fV];show AZ)⟩
theorem iI{K:An}(T:BA K D U):T.aab.Ok A3 P w D base 1 lP:=by
 show T.aab.ok λJ O O O O O V H W Q E h=>?_;lk;obtain⟨a,b,c,m,rfl,k⟩:=h;k_in;show⟨_,(Ae (Bw 4 J (AW LP (AW LP (AH 1) (AH 3)) AO)) (Aa (Ay (KU (Jm MK (AW LP (AH 0) (AH 2)) (AH 3) (Ba _)) (ML (Jm MK (AW LP (AH 2) (AH 4)) (AH 3) (Ba _))))))),?_⟩;show⟨_,rfl,KR (λe=>?_) λe=>?_⟩
 . rw[e]at k;show k
 . rw[e]at k;show k
theorem iY{K:An}(T:BA K A C):T.yn.Ok A3 P w A base 1 mM:=by
 show T.yn.ok λB O O O O O M H N Q E h=>?_;lk;obtain⟨t,z,d,rfl,V,k⟩:=h;k_in;show⟨_,(Ae (Bw 3 B (AW Qi (AW GF (AW MJ (AW LP (AH 0) (AH 1)) (AH 2)) AO) (AH 2))) (Aa (Ay (tJ rfl (by rfl) T.jt (by rfl) T.js (Y9 (AH 3) (Y9 (AW GF (AH 0) AO) (Y9 (AH 2) E3))))))),?_⟩;lk;obtain⟨U,J,I,L,W,Y⟩:=id V;obtain⟨F,G⟩:=Po (t:=t) (z:=z) U;k_in;have Z:=(Sq V).2;show⟨⟨by assumption,Ga J (by decide)⟩,.inr ⟨IE (by decide) U,Ga J (by decide)⟩,?_⟩;show⟨_,_,_,rfl,⟨by assumption,Fh J (by decide),?_,?_,Int.le_add_of_neg_add_le_right (Fh (by decide) W),Int.add_lt_iff.mpr (Ga Y (by decide)),?_⟩,λl D=>k l _ (Bb D) D AZ⟩;.lia
 .omega
 .show Af Z (by decide)
def mG:Ax:=λY H Q O=>Rq (λ(l q:AB)(W:List AD)(D:List AY)(S E:Int)(t:De)=>Y=[.ref l,.int S,.int E,.ref q]) (λl O W O O O O=>H l=AA (.lst W)) (λO O W D O O O=>Dq H W D) (λO O O D O O O=>D1 D) (λO O O D O O O=>D.length<=10000) (λO q O O O O t=>GN H q t) (λO O O D S E t=>∀r U J,Aj H U->H r=AF->U r=AA (.lst J)->Dq U J (Bu S E t D)->Q (.ref r) U)
theorem W0{K:An}{ad:Bh}(T:BA K mg ad):T.sj.Ok A3 P w mg base 2 mG:=by
  show T.sj.ok λnd O0 O0 O0 O0 O0 hr H vs Q E h=>?_;lk;obtain⟨l,q,J,C,S,E0,t,rfl,el,hw,up,hl,tq,k⟩:=h;k_in;show⟨_,(Ae (Bw 4 nd (A5 (Pz T) hr (Y9 (AH 0) (Y9 (Cn (Y9 (AH 1) E3)) E3)))) (Ae (Ii (B0 (LD (UD (Bj UA (AH 4) (CL (LI (K:=K)) (by rfl) T.iq GY (Y9 (AH 0) E3)) (Ba _)) (UE (Bj Cs (BG K (JF K (AH 0) (AH 4)) AO) (AH 1) (Ba _))))) (Ae (Bw 5 nd (JF K (AH 0) (AH 4))) (Aa (Ay (AW Gg (AW Gg (G5 (KY (K:=K)) (AH 0) Ih (GU (AH 4))) (DB (Y9 (Cn (Y9 (AH 1) (Y9 (BG K (AH 5) AO) (Y9 (A5 (Wl T) hr (Y9 (BG K (AH 5) AO) (Y9 (AH 3) E3))) E3)))) E3))) (G5 (KY (K:=K)) (AH 0) (GU (AW GF (AH 4) AO)) Ih))))) CQ)) (Aa (Ay (AW Gg (AW Gg (G5 (KY (K:=K)) (AH 0) Ih (GU (AH 4))) (DB (Y9 (Cn (Y9 (AH 1) (Y9 (AH 2) (Y9 (AH 3) E3)))) E3))) (G5 (KY (K:=K)) (AH 0) (GU (AH 4)) Ih)))))),?_⟩;have sz:Az=16777216:=D8;have lx:=hw.fq;show⟨CY rfl,λmk hmk=>?_⟩;show BQ (o:=.tup [.int S]) hmk λH1 s1 emk=>?_;have D:=s1 _ _ el;have z:=hw.ae s1.tp;have s:GN H1 q t:=s1 _ _ tq;show⟨l,mk,J,C.map Lx,[.inl S],rfl,D,z.hd,emk,λks hk i k m e1 e2=>?_,up.sd,λn hn b1 b2=>?_⟩
  . lk;obtain⟨p,_,rfl⟩:=A7.mp hk;k_in;match i,e1,e2 with|0,e1,e2=>cases e1;cases e2;rfl
  rw[As]at hn;have d1:∀(i:Nat)p,i<n->C[i]?=AA p->p.1<S:=λi p hi W=>by have:=b1 i (Lx p) hi (by rw[Bl,W];rfl);rw[show Lx p=[.inl p.1,.inl p.2.1]from rfl,Pu]at this;show AEI this
  have d2:∀p,C[n]?=AA p->¬p.1<S:=λp W=>by have:=b2 n (Lx p) (Ag _) (by rw[Bl,W];rfl);rw[show Lx p=[.inl p.1,.inl p.2.1]from rfl,Pu]at this;show AEM this
  clear b1 b2;show IV (λx H'=>H'=H1/\(∀p,C[n]?=AA p->S<p.1)/\x=[AA (.ref l),AA (.int S),AA (.int E0),AA (.ref q),AA (.int (n:Int)),AF]) ?_ ?_
  . show⟨_,.inl (Ab D),_,rfl,IW (λe=>?_) λe=>⟨rfl,λp W=>absurd (BH.mp W).1 (Kg e (λu1=>AAl.mpr (BK u1 (BW lx.symm)))),rfl⟩⟩;have hnl:n<C.length:=by simp_all
    have W:C[n]?=AA C[n]:=Cd hnl;generalize C[n]=p at W;lk;obtain⟨a,qp,ea,F,eqp⟩:=z.at W;k_in;have b:Cw J (n:Int)=AA (.ref a):=Ao ea;show⟨_,_,Ab D,b,_,_,Aq F,Ao (j:=0) rfl,rfl,_,rfl,D6 (λy=>?_) λy=>⟨rfl,λp' c=>?_,rfl⟩⟩
    . show⟨_,_,Ab D,b,?_⟩;show⟨_,rfl,l,J,rfl,Ab D,λc1 N=>?_⟩;rw[R3 J n (by simp_all)];show BQ N λH2 s2 G=>?_;show⟨_,_,Aq (s2 _ _ F),Ao (j:=1) rfl,_,_,Aq (s2 _ _ F),Ao (j:=2) rfl,qp,q,_,t,rfl,s2 _ _ eqp,s2 _ _ s,λu H3 s3 hu tu=>?_⟩;show⟨CY rfl,λv hv=>?_⟩;show BQ hv λH4 s4 ev=>⟨CY rfl,λc2 O=>?_⟩;show BQ O λH5 f I=>?_;have Z:=s3.aa (s4.aa f);show⟨c1,c2,_,_,rfl,rfl,Z _ _ G,I,by rw[Em];simp;lia,λc3 R=>?_⟩;show BQ R λH6 g L=>?_;have U:=s2.aa (Z.aa g);show⟨_,rfl,l,J,rfl,Ab (U _ _ D),λc4 X=>?_⟩;have cf:GR J (AA ((n:Int)+1)) AF=J.drop (n+1):=Pn J (n+1) (dS.mp e);rw[cf];show BQ X λH7 B M=>?_;show⟨c3,c4,_,_,rfl,rfl,B _ _ L,M,by rw[Bs,Em,MR];simp;lia,λc5 Y=>?_⟩;have r:=Bb (o:=.lst (J.take n++[.ref v]++J.drop (n+1))) Y;have V:=U.aa (B.aa r);have A:=f.aa (g.aa (B.aa r));show k c5 _ _ (s1.aa V) ((s1.aa (U.aa B)).ar Y) AZ ?_;rw[WU d1 W y];have d:=z.ae V.tp;show D9 (D9 (Oc n d) (.cons ⟨v,u,rfl,A _ _ ev,(s4.aa A) _ _ tu⟩ .nil)) (NM (n+1) d)
    . rw[W]at c;cases c;have:=d2 _ W;have y:¬p.1=S:=y;lia
  intro x H1' hI;lk;obtain⟨rfl,hno,rfl⟩:=hI;k_in;show⟨_,rfl,l,J,rfl,Ab D,λc1 N=>?_⟩;rw[R3 J n (by simp_all)];show BQ N λH2 s2 G=>⟨CY rfl,λv hv=>?_⟩;show BQ hv λH4 s4 ev=>⟨CY rfl,λc2 O=>?_⟩;show BQ O λH5 f I=>?_;have Z:=s4.aa f;show⟨c1,c2,_,_,rfl,rfl,Z _ _ G,I,by rw[Em];simp;lia,λc3 R=>?_⟩;show BQ R λH6 g L=>?_;have U:=s2.aa (Z.aa g);show⟨_,rfl,l,J,rfl,Ab (U _ _ D),λc4 X=>?_⟩;rw[Pn J n (by simp_all)];show BQ X λH7 B M=>?_;show⟨c3,c4,_,_,rfl,rfl,B _ _ L,M,by rw[Bs,Em,MR];simp;grind,λc5 Y=>?_⟩;have r:=Bb (o:=.lst (J.take n++[.ref v]++J.drop n)) Y;have V:=U.aa (B.aa r);have A:=f.aa (g.aa (B.aa r));show k c5 _ _ (s1.aa V) ((s1.aa (U.aa B)).ar Y) AZ ?_;rw[WR d1 hn hno];have d:=z.ae V.tp;show D9 (D9 (Oc n d) (.cons ⟨v,q,rfl,A _ _ ev,V _ _ s⟩ .nil)) (NM n d)
def kR:Ax:=λY H Q O=>Rq (λ(l:AB)(W:List AD)(D:List AY)(t a z d:Int)=>Y=[.ref l,.int t,.int a,.int z,.int d]) (λO O O t O z d=>Ri t z d) (λl W O O O O O=>H l=AA (.lst W)) (λO W D O O O O=>Dq H W D) (λO O D O O O O=>D1 D) (λO O D O O O O=>D.length<=5000) (λO O D t a z d=>∀r U J,Aj H U->H r=AF->U r=AA (.lst J)->Dq U J (XJ t a z d D)->Q (.ref r) U)
theorem gU{K:An}{ad:Bh}(T:BA K v ad):T.vy.Ok A3 P w v base 3 kR:=by
 show T.vy.ok λS O0 O0 O0 O0 O0 L H vs Q E h=>?_;lk;obtain⟨l,g,ps,t,a,z,d,rfl,c,m,hw,up,hl,k⟩:=h;k_in;show⟨_,(Ae (Bw 5 S (Ie (MD (K:=K)) (by rfl) T.jt Kh (Y9 (AH 0) E3))) (Ae (DQ Dc rfl (DH (K:=K) (A5 (iY T) L (Y9 (AH 1) (Y9 (AH 3) (Y9 (AH 4) E3))))) (D7 6 S) (Aa (Bw 5 S (A5 (W0 T) L (Y9 (AH 5) (Y9 (AH 6) (Y9 (AW GF (AH 6) (AH 3)) (Y9 (A5 (W3 T) L (Y9 (AH 2) E3)) E3)))))))) (Aa (Ay (AH 5))))),?_⟩;have sl:=(Sq c).1;show⟨l,g,rfl,.inl (Ab m),λJ Z=>?_⟩;show BQ Z λH1 s1 G=>?_;show⟨t,z,d,rfl,c,λst i s2 q W=>?_⟩;show⟨st,rfl,⟨_,Ab W⟩,Gf (K:=K) (λn C B=>FK (λ(X:Option AD)(J:AB)(U:List AD)=>C=[AA (.ref l),AA (.int t),AA (.int a),AA (.int z),AA (.int d),AA (.ref J),X]) (λO0 O0 O0=>Aj i B) (λO0 J O0=>H J=AF) (λO0 J U=>B J=AA (.lst U)) (λO0 O0 U=>Dq B U (((Ky t z d).take n).foldl (λl s=>Bu s (s+z) (Jc a) l) ps))) ⟨AF,J,g,rfl,Bz _,Z,s2 _ _ G,hw.ae (s1.aa s2).tp⟩ (λn C B O0 p=>by obtain⟨_,_,_,_,s',_⟩:=p;show Ab (s' _ _ W)) ?_ ?_⟩
 . intro n y C j e I;lk;obtain⟨X,A,U,rfl,s3,Y,F,D⟩:=I;rw[Bl]at e;obtain⟨f,N,rfl⟩:=Dp.mp e;obtain⟨b,R⟩:=SD (z:=z) (x:=Jc a) up;k_in;rw[Em]at R;show⟨a,rfl,λu H4 s4 hu tu=>?_⟩;show⟨A,u,U,_,f,f+z,Jc a,rfl,s4 _ _ F,D.ae s4.tp,b,by lia,tu,λr H5 xr s5 M o O=>?_⟩;show⟨_,r,xr,rfl,s3.aa (s4.aa s5),((s1.aa s2).aa (s3.aa s4)).ar M,o,by rw[Xm N];show O⟩
 . intro C j I;lk;obtain⟨X,A,U,rfl,s3,Y,F,D⟩:=I;k_in;rw[As,Dk (Ag _)]at D;show k _ _ _ ((s1.aa s2).aa s3) Y F D
def lZ:Ax:=λz H Q O=>ON (λ(l:AB)(W:List AD)(U:List AY)(D:Int)=>z=[.ref l,.int D]) (λl W O O=>H l=AA (.lst W)) (λO W U O=>Dq H W U) (λO O U O=>U.length<=10000) (λO O U D=>∀r b c J Y Z,Aj H J->H b=AF->H c=AF->J r=AA (.tup [.ref b,.ref c])->J b=AA (.lst Y)->J c=AA (.lst Z)->Dq J Y (JA D U)->Dq J Z (Iz D U)->Q (.ref r) J)
theorem iP{K:An}{ad:Bh}(T:BA K mg ad):T.yi.Ok A3 P w mg base 1 lZ:=by
  show T.yi.ok λnd O O O O O hr H vs Q E h=>?_;lk;obtain⟨l,xs,ps,now,rfl,el,hw,hl,k⟩:=h;k_in;show⟨_,(Ae (Oe (i:=2) (osc:=CT Sb) [("now",1)] nd rfl (BX rfl) rfl (DH (K:=K) (AH 0)) rfl rfl (by decide+kernel) (by decide+kernel) (by decide+kernel) ⟨rfl,rfl,trivial⟩ rfl (by decide+kernel) (λO O O O=>MM (Bj MK (BG K (AH 0) AO) (AH 1) (Ba _))) (λO O O O=>(AH 0))) (Ae (Oe (i:=3) (osc:=CT Sb) [("now",1)] nd rfl (BX rfl) rfl (DH (K:=K) (AH 0)) rfl rfl (by decide+kernel) (by decide+kernel) (by decide+kernel) ⟨rfl,rfl,trivial⟩ rfl (by decide+kernel) (λO O O O=>MM (Bj T7 (BG K (AH 0) AO) (AH 1) (Ba _))) (λO O O O=>(AH 0))) (Aa (Ay (Cn (Y9 (AH 2) (Y9 (AH 3) E3))))))),?_⟩;have sz:Az=16777216:=D8;have lx:=hw.fq;show⟨l,rfl,⟨_,Ab el⟩,?_⟩;show NC (K:=K) (xs:=xs) (λn τ acc H'=>(∃o,τ=[o,AA (.int now)])/\H'=H/\Dq H acc ((ps.take n).filter λp=>!D4 now p)) (by lia) ⟨⟨AF,rfl⟩,rfl,.nil⟩ (λn τ acc H'⟨_,e,_⟩=>by rw[e];show Ab el) ?_ ?_
  . intro n y τ acc H' R1 R0 hy _ hI k1 k0;lk;obtain⟨⟨o,rfl⟩,rfl,hp⟩:=hI;obtain⟨p,b,q,ep,rfl,eb,eq⟩:=hw.ix hy;k_in;have fs:=N7 (p:=λp=>!D4 now p) ep;show⟨_,_,Aq eb,Ao (j:=1) rfl,_,rfl,IW (λe=>?_) λe=>?_⟩;. rw[AEE (by change(!Ac (now<p.2.1))=AI;rw[AEH (AAj.mpr e)];rfl)]at fs;show k1 _ _ _ ⟨⟨_,rfl⟩,rfl,by rw[fs];show D9 hp (.cons ⟨b,q,rfl,eb,eq⟩ .nil)⟩
    . rw[AED (by change¬(!Ac (now<p.2.1))=AI;rw[AEF (by simp_all)];decide),Ea]at fs;show k0 _ _ ⟨⟨_,rfl⟩,rfl,by rw[fs];show hp⟩
  intro τ xm H' lxm hI lm hlm;lk;obtain⟨_,rfl,hpm⟩:=hI;k_in;rw[Dk (BW lx.symm)]at hpm;show BQ hlm λH1 s1 elm=>?_;have el1:=s1 _ _ el;have hw1:=hw.ae s1.tp;show⟨l,rfl,⟨_,Ab el1⟩,?_⟩;show NC (K:=K) (xs:=xs) (λn τ acc H'=>(∃o,τ=[o,AA (.int now)])/\H'=H1/\Dq H1 acc ((ps.take n).filter (D4 now))) (by lia) ⟨⟨AF,rfl⟩,rfl,.nil⟩ (λn τ acc H'⟨_,e,_⟩=>by rw[e];show Ab el1) ?_ ?_
  . intro n y τ acc H2 R1 R0 hy _ hI k1 k0;lk;obtain⟨⟨o,rfl⟩,rfl,hp⟩:=hI;obtain⟨p,b,q,ep,rfl,eb,eq⟩:=hw1.ix hy;k_in;have fs:(ps.take (n+1)).filter (D4 now)=(ps.take n).filter (D4 now)++(if Ac (now<p.2.1)=AI then[p]else[]):=N7 (p:=D4 now) ep;show⟨_,_,Aq eb,Ao (j:=1) rfl,_,rfl,IW (λe=>?_) λe=>?_⟩;. rw[AEE (show Ac (now<p.2.1)=AI from AEF e)]at fs;show k1 _ _ _ ⟨⟨_,rfl⟩,rfl,by rw[fs];show D9 hp (.cons ⟨b,q,rfl,eb,eq⟩ .nil)⟩
    . rw[AED (by rw[AEK];show e),Ea]at fs;show k0 _ _ ⟨⟨_,rfl⟩,rfl,by rw[fs];show hp⟩
  intro τ xr H2 lxr hI lr hlr;lk;obtain⟨_,rfl,hpr⟩:=hI;k_in;rw[Dk (BW lx.symm)]at hpr;show BQ hlr λH3 s2 elr=>⟨CY rfl,λr hr'=>?_⟩;have s3:=Bb (o:=.tup [.ref lm,.ref lr]) hr';show k r lm lr _ xm xr (s1.aa (s2.aa s3)) hlm (s1.ar hlr) AZ ((s2.aa s3) _ _ elm) (s3 _ _ elr) (hpm.ae (s1.aa (s2.aa s3)).tp) (hpr.ae (s2.aa s3).tp)
def lC:Ax:=λY H Q O=>Vj (λ(l:AB)(W:List AD)(D:List AY)(t a m:Int)=>Y=[.ref l,.int t,.int a,.int m]) (λO O O O O m=>0<=m) (λl W O O O O=>H l=AA (.lst W)) (λO W D O O O=>Dq H W D) (λO O D O O O=>HQ D) (λO O D O O O=>D.length<=5000) (λO O D t a m=>∀r U J,Aj H U->H r=AF->U r=AA (.lst J)->Dq U J (CB (t,t+m+1,Jc a) D)->Q (.ref r) U)
theorem SA:∀{ns:List Int}{t:Int},ns.foldl DU t∈t::ns/\∀a∈t::ns,ns.foldl DU t<=a
  |[],t=>⟨.head _,λa h=>by rw[BV.mp h];show dN _⟩|n::ns,t=>by
    obtain⟨V,J⟩:=SA (ns:=ns) (t:=DU t n);have U:=J _ (.head _);change ns.foldl _ _∈_/\∀a∈_,ns.foldl _ _<=a;constructor
    . rcases B6.mp V with h|h
      . rw[h];rcases AAf t n with q|q;.rw[AAh q];show .head _
        .rw[Int.min_eq_right q];show .tail _ (.head _)
      .show .tail _ (.tail _ h)
    . intro a D;rcases B6.mp D with rfl|D;.show Fh U (Int.min_le_left _ _)
      rcases B6.mp D with rfl|D;.show Fh U (dQ _ _)
      show J a (.tail _ D)
theorem R9:∀{ns:List Int}{t:Int},ns.foldl Jn t∈t::ns/\∀a∈t::ns,a<=ns.foldl Jn t
  |[],t=>⟨.head _,λa h=>by rw[BV.mp h];show dN _⟩|n::ns,t=>by
    obtain⟨V,J⟩:=R9 (ns:=ns) (t:=Jn t n);have U:=J _ (.head _);change ns.foldl _ _∈_/\∀a∈_,a<=ns.foldl _ _;constructor
    . rcases B6.mp V with h|h
      . rw[h];rcases AAf t n with q|q;.rw[Int.max_eq_right q];show .tail _ (.head _)
        .rw[Int.max_eq_left q];show .head _
      .show .tail _ (.tail _ h)
    . intro a D;rcases B6.mp D with rfl|D;.show Fh (AAc _ _) U
      rcases B6.mp D with rfl|D;.show Fh (VF _ _) U
      show J a (.tail _ D)
theorem gB{ns:List Int}(D:S∈t::ns)(J:∀a∈t::ns,S<=a):S=ns.foldl DU t:=AAb (J _ SA.1) (SA.2 _ D)
theorem fW{ns:List Int}(D:S∈t::ns)(J:∀a∈t::ns,a<=S):S=ns.foldl Jn t:=AAb (R9.2 _ D) (J _ R9.1)
theorem hV{K:An}{ad:Bh}(T:BA K mg ad):T.xg.Ok A3 P w mg base 3 lC:=by
  have Y:=iI (P:=P) (w:=w) (base:=base) T;show T.xg.ok λs O0 O0 O0 O0 O0 hr H vs Q E h=>?_;lk;obtain⟨l,xs,F,t,a,m,rfl,m0,el,hw,ch,hl,k⟩:=h;k_in;show⟨_,(Dw (Oe (i:=4) (osc:=CT OA) [("time",1),("most",3)] s rfl (BX rfl) rfl (DH (K:=K) (AH 0)) rfl rfl (by decide+kernel) (by decide+kernel) (by decide+kernel) ⟨rfl,rfl,rfl,rfl,trivial⟩ rfl (by decide+kernel) (λO0 O0 O0 O0=>MM (Ij (A5 Y hr (Y9 (BG K (AH 0) AO) (Y9 (BG K (AH 0) AO) (Y9 (AH 1) (Y9 (AH 2) E3))))))) (λO0 O0 O0 O0=>(AH 0))) (Dw (Oe (i:=5) (osc:=CT OA) [("time",1),("most",3)] s rfl (BX rfl) rfl (DH (K:=K) (AH 0)) rfl rfl (by decide+kernel) (by decide+kernel) (by decide+kernel) ⟨rfl,rfl,rfl,rfl,trivial⟩ rfl (by decide+kernel) (λO0 O0 O0 O0=>MM (KW (Ij (A5 Y hr (Y9 (BG K (AH 0) AO) (Y9 (BG K (AH 0) AO) (Y9 (AH 1) (Y9 (AH 2) E3)))))))) (λO0 O0 O0 O0=>(AH 0))) (Dw (Bw 6 s (CL (oU (K:=K) rfl) (by rfl) T.abp xV (Y9 (AW Gg (DB (Y9 (AH 1) E3)) (Ib (CT OA) [] trivial (DH (K:=K) (AH 4)) (λO0 O0 O0 O0=>Gi) (λO0 O0 O0 O0=>(BG K (AH 0) AO)))) E3))) (Dw (Bw 7 s (CL (oR (K:=K) rfl) (by rfl) T.aal aT (Y9 (AW Gg (DB (Y9 (AW GF (AW GF (AH 1) (AH 3)) AO) E3)) (Ib (CT OA) [] trivial (DH (K:=K) (AH 4)) (λO0 O0 O0 O0=>Gi) (λO0 O0 O0 O0=>(BG K (AH 0) AO)))) E3))) (Dw (Bw 8 s (A5 (W3 T) hr (Y9 (AH 2) E3))) (Dw (DQ Dc rfl (DH (K:=K) (AH 4)) (D7 9 s) (Aa (Bw 8 s (A5 (Wl T) hr (Y9 (AH 8) (Y9 (BG K (AH 9) AO) E3)))))) (Aa (Ay (A5 (W0 T) hr (Y9 (AH 5) (Y9 (AH 6) (Y9 (AH 7) (Y9 (AH 8) E3))))))))))))),?_⟩;have sz:Az=16777216:=D8;have lx:=hw.fq;generalize X:((t,t+m+1,Jc a):AY)=z at k;have hmt:∀p:AY,(Ac (p.1-t<=m)&&Ac (t-(p.2.1-m-1)<=m))=D5 z p:=λp=>by rw[<-X];change _=(Ac (p.1<t+m+1)&&Ac (t<p.2.1));rw[show Ac (p.1-t<=m)=Ac (p.1<t+m+1)from decide_eq_decide.mpr (by lia),show Ac (t-(p.2.1-m-1)<=m)=Ac (t<p.2.1)from decide_eq_decide.mpr (by lia)]
  showλO0 O0 O0 O0 z1=>⟨l,rfl,⟨_,Ab el⟩,?_⟩;show NC (K:=K) (xs:=xs) (λn W D Z=>(∃o,W=[o,AA (.int t),AA (.int m)])/\Z=H/\Dq H D ((F.take n).filter (D5 z))) (by lia) ⟨⟨AF,rfl⟩,rfl,.nil⟩ (λn W D Z⟨_,e,_⟩=>by rw[e];show Ab el) ?_ ?_
  . intro n y W D Z R1 R0 M _ U g k0;lk;obtain⟨⟨o,rfl⟩,rfl,hp⟩:=U;obtain⟨p,b,q,G,rfl,A,c⟩:=hw.ix M;k_in;show⟨_,_,Aq A,Ao (j:=0) rfl,_,_,Aq A,Ao (j:=1) rfl,_,_,_,_,rfl,?_⟩;rw[hmt];have L:=N7 (p:=D5 z) G;show⟨_,rfl,KR (λhb=>?_) λhb=>?_⟩;. rw[hb,AEE rfl]at L;show g _ _ _ ⟨⟨_,rfl⟩,rfl,by rw[L];show D9 hp (.cons ⟨b,q,rfl,A,c⟩ .nil)⟩
    . rw[hb,AED DN,Ea]at L;show k0 _ _ ⟨⟨_,rfl⟩,rfl,by rw[L];show hp⟩
  intro W xm Z lxm U lm hlm;lk;obtain⟨_,rfl,B⟩:=U;k_in;rw[Dk (BW lx.symm)]at B;show BQ hlm λH1 s1 elm=>?_;have hpm1:=B.ae s1.tp;have el1:=s1 _ _ el;have hw1:=hw.ae s1.tp;show z1 _ _ λO0 O0 O0 O0 z2=>⟨l,rfl,⟨_,Ab el1⟩,?_⟩;show NC (K:=K) (xs:=xs) (λn W D Z=>(∃o,W=[o,AA (.int t),AA (.int m)])/\Z=H1/\Dq H1 D ((F.take n).filter λp=>!D5 z p)) (by lia) ⟨⟨AF,rfl⟩,rfl,.nil⟩ (λn W D Z⟨_,e,_⟩=>by rw[e];show Ab el1) ?_ ?_
  . intro n y W D H2 R1 R0 M _ U g k0;lk;obtain⟨⟨o,rfl⟩,rfl,hp⟩:=U;obtain⟨p,b,q,G,rfl,A,c⟩:=hw1.ix M;k_in;show⟨_,_,Aq A,Ao (j:=0) rfl,_,_,Aq A,Ao (j:=1) rfl,_,_,_,_,rfl,?_⟩;rw[hmt];have L:=N7 (p:=λp=>!D5 z p) G;cases hb:D5 z p with |true=> rw[hb,AED (by decide),Ea]at L;show⟨_,rfl,k0 _ _ ⟨⟨_,rfl⟩,rfl,by rw[L];show hp⟩⟩|false=> rw[hb,AEE (by decide)]at L;show⟨_,rfl,g _ _ _ ⟨⟨_,rfl⟩,rfl,by rw[L];show D9 hp (.cons ⟨b,q,rfl,A,c⟩ .nil)⟩⟩
  intro W xr H2 lxr U lr hlr;lk;obtain⟨_,rfl,hpr⟩:=U;k_in;rw[Dk (BW lx.symm)]at hpr;show BQ hlr λH3 s2 elr=>?_;have hpr2:=hpr.ae s2.tp;have C:=hpm1.ae s2.tp;have J:=s2 _ _ elm;have s02:=s1.aa s2;have lmm:(F.filter (D5 z)).length<=F.length:=Fc _ _;have lxm2:xm.length<=5000:=by rw[B.fq];show Af lmm hl
  show z2 _ _ λO0 O0 O0 O0 z3=>⟨CY rfl,λq1 hq1=>?_⟩;show BQ hq1 λH4 s3 eq1=>?_;show⟨lm,rfl,⟨_,Ab (s3 _ _ J)⟩,?_⟩;show IU (K:=K) (xs:=xm) (λn W D Z=>(∃o,W=[o])/\Z=H4/\D=((F.filter (D5 z)).take n).map λp=>AD.int p.1) (by lia) ⟨⟨AF,rfl⟩,rfl,rfl⟩ (λn W D Z⟨_,e,_⟩=>by rw[e];show Ab (s3 _ _ J)) ?_ ?_;. intro n y W D H5 R1 M _ U g;lk;obtain⟨⟨o,rfl⟩,rfl,rfl⟩:=U;obtain⟨p,b,q,G,rfl,A,c⟩:=(C.ae s3.tp).ix M;k_in;show⟨_,_,Aq A,Ao (j:=0) rfl,g _ _ _ ⟨⟨_,rfl⟩,rfl,by rw[EI,G,Ce];rfl⟩⟩
  intro W D H5 _ U q2 hq2;lk;obtain⟨_,rfl,rfl⟩:=U;k_in;rw[Dk (by rw[B.fq];show Ag _)];show BQ hq2 λH6 s4 eq2=>?_;show⟨q1,q2,_,_,rfl,rfl,s4 _ _ eq1,eq2,by simp;lia,λq3 hq3=>?_⟩;show BQ hq3 λH7 s5 d=>?_;have d:H7 q3=AA (.lst ((t::(F.filter (D5 z)).map (·.1)).map AD.int)):=by rw[d,Fd,DX];rfl
  show⟨q3,_,rfl,Ab d,by simp,λS hS1 hS2=>?_⟩;have s37:=s3.aa (s4.aa s5);show z3 _ _ λO0 O0 O0 O0 z4=>⟨CY rfl,λq4 hq4=>?_⟩;show BQ hq4 λH8 s6 eq4=>?_;have N:=s37.aa s6;show⟨lm,rfl,⟨_,Ab (N _ _ J)⟩,?_⟩;show IU (K:=K) (xs:=xm) (λn W D Z=>(∃o,W=[o])/\Z=H8/\D=((F.filter (D5 z)).take n).map λp=>AD.int p.2.1) (by lia) ⟨⟨AF,rfl⟩,rfl,rfl⟩ (λn W D Z⟨_,e,_⟩=>by rw[e];show Ab (N _ _ J)) ?_ ?_;. intro n y W D H9 R1 M _ U g;lk;obtain⟨⟨o,rfl⟩,rfl,rfl⟩:=U;obtain⟨p,b,q,G,rfl,A,c⟩:=(C.ae N.tp).ix M;k_in;show⟨_,_,Aq A,Ao (j:=1) rfl,g _ _ _ ⟨⟨_,rfl⟩,rfl,by rw[EI,G,Ce];rfl⟩⟩
  intro W D H9 _ U q5 hq5;lk;obtain⟨_,rfl,rfl⟩:=U;k_in;rw[Dk (by rw[B.fq];show Ag _)];show BQ hq5 λHA s7 eq5=>?_;show⟨q4,q5,_,_,rfl,rfl,s7 _ _ eq4,eq5,by simp;lia,λq6 hq6=>?_⟩;show BQ hq6 λHB s8 f=>?_;have f:HB q6=AA (.lst (((t+m+1)::(F.filter (D5 z)).map (·.2.1)).map AD.int)):=by rw[f,Fd,DX];rfl
  show⟨q6,_,rfl,Ab f,by simp,λE1 hE1 hE2=>?_⟩;have s3B:=N.aa (s7.aa s8);show z4 _ _ λO0 O0 O0 O0 z5=>⟨a,rfl,λu HC s9 hu tu=>z5 _ _ ?_⟩;have O:=s3B.aa s9;showλO0 O0 O0 O0 z6=>⟨lm,rfl,⟨_,Ab (O _ _ J)⟩,Gf (K:=K) (xs:=xm) (λn σ Z=>Ei (λ(o9:Option AD)(v:AB)=>σ=[AA (.ref l),AA (.int t),AA (.int a),AA (.int m),AA (.ref lm),AA (.ref lr),AA (.int S),AA (.int E1),AA (.ref v),o9]) (λO0 O0=>Aj HC Z) (λO0 v=>GN Z v (((F.filter (D5 z)).take n).foldl (λt x=>GO t x.2.2) (Jc a)))) ⟨AF,u,rfl,Bz _,tu⟩ (λn σ Z O0 hh=>by obtain⟨_,_,_,s',_⟩:=hh;show Ab ((O.aa s') _ _ J)) ?_ ?_⟩
  . intro n y σ HD M U;lk;obtain⟨o9,v,rfl,sD,I⟩:=U;obtain⟨p,b,q,G,rfl,A,c⟩:=(C.ae (O.aa sD).tp).ix M;k_in;show⟨_,_,Aq A,Ao (j:=2) rfl,v,q,_,_,rfl,I,c,λr HE sE hr' tr=>⟨_,r,rfl,sD.aa sE,?_⟩⟩;rw[Xm G];show tr
  . intro σ HD U;lk;obtain⟨o9,v,rfl,sD,I⟩:=U;k_in;rw[B.fq,Dk (Ag _)]at I;have R:=O.aa sD;have eS:=gB hS1 hS2;have eE:=fW hE1 hE2;show z6 _ _ ⟨lr,v,xr,_,S,E1,_,rfl,R _ _ elr,hpr2.ae R.tp,(Rw ch).sublist NZ,by have:=Fc (λp=>!D5 z p) F;lia,I,λr HE xe sE hre ere hpe=>?_⟩;show k r HE xe (s02.aa (R.aa sE)) ((s02.aa R).ar hre) ere ?_;have me:=SM (l:=F) (p:=z) (by rw[<-X];change t<t+m+1;show VG (Pe m0) (by decide)) ch;rw[<-me];rw[eS,eE]at hpe;subst X;show hpe
def mE:Ax:=λY H Q O=>Rr (λ(p l i:AB)(W:List AD)(D:List AY)(s:AR)(t a:Int)(y:AE)=>Y=[.ref p,.ref l,.ref i]) (λp O O O O s O O O=>C4 H p s) (λO O O O O s O O O=>s.iu) (λO O O O D s O O O=>s.gd D) (λO l O W O O O O O=>H l=AA (.lst W)) (λO O O W D O O O O=>Dq H W D) (λO O O O D O O O O=>D.length<=5000) (λO O i O O O t a y=>H i=AA (.tup [.int t,.str y,.int a])) (λO O O O O O t O O=>0<=t) (λO O O O O O t O O=>t<=1000000000) (λO O O O D s t a O=>∀r U J,Aj H U->H r=AF->U r=AA (.lst J)->Dq U J (s.nv t a D)->Q (.ref r) U)
theorem iT{K:An}(T:BA K M S):T.yk.Ok A3 P w M base 4 mE:=by show T.yk.ok λX o o o o o A H b Q E h=>?_;lk;obtain⟨p,l,i,C,B,O,t,a,y,rfl,W,U,Y,V,hw,Z,J,R,t1,k⟩:=h;k_in;show⟨_,(Ae (B0 (Bj Cs (BG K (AH 0) AO) C7 (Ba _)) (Aa (Ay (A5 (gU T) A (Y9 (AH 1) (Y9 (BG K (AH 2) AO) (Y9 (BG K (AH 2) AO) (Y9 (BG K (AH 0) AO) (Y9 (BG K (AH 0) AO) E3)))))))) CQ) (Aa (Ay (A5 (hV T) A (Y9 (AH 1) (Y9 (BG K (AH 2) AO) (Y9 (BG K (AH 2) AO) (Y9 (BG K (AH 0) AO) E3)))))))),?_⟩;cases O with|each n f N z d=>have D:=W;lk;obtain⟨F,G,I,L⟩:=U;k_in;show⟨_,_,Aq D,Ao (j:=0) rfl,rfl,_,rfl,Tf (λo=>?_) λq=>absurd rfl q⟩;show⟨_,_,Aq J,Ao (j:=0) rfl,_,_,Aq J,Ao rfl,_,_,Aq D,Ao rfl,_,_,Aq D,Ao rfl,l,C,B,t,a,z,d,rfl,⟨F,G,I,L,R,t1⟩,V,hw,Y.1,Z,k⟩|gap n f N m=>have D:=W;show⟨_,_,Aq D,Ao rfl,rfl,_,rfl,Tf (λq=>absurd q (by decide+kernel)) λo=>?_⟩;show⟨_,_,Aq J,Ao (j:=0) rfl,_,_,Aq J,Ao (j:=2) rfl,_,_,Aq D,Ao (j:=4) rfl,l,C,B,t,a,m,rfl,U,V,hw,Y,Z,k⟩|_=>cases U
noncomputable def L4(D:AE)(t:De):Int:=if D="count"then t.1 else if D="sum"then t.2.1 else if D="least"then t.2.2.1 else t.2.2.2
def m9:Ax:=λJ H Q O=>KP (λ(D:AE)(q:AB)(t:De)=>J=[.str D,.ref q]) (λD O O=>D∈F2) (λO q t=>GN H q t) (λD O t=>Q (.int (L4 D t)) H)
theorem jE{K:An}(T:BA K M O):T.aad.Ok A3 P w M base 1 m9:=by
 show T.aad.ok λY o o o o o R H Z Q E h=>?_;lk;obtain⟨J,q,t,rfl,W,z,k⟩:=h;k_in;show⟨_,(Aa (Ay (BG K (AH 1) (Ic F.plainAttrs_tuple AB4 F.type_tuple_index (sI) (Ho (v:=.ref _) (by rfl) T.aao rfl) (Y9 (AH 0) E3))))),?_⟩;have N:=T.aat H;have Z:L4 "count" t=t.1/\L4 "sum" t=t.2.1/\L4 "least" t=t.2.2.1/\L4 "greatest" t=t.2.2.2:=⟨rfl,rfl,rfl,rfl⟩;lk;obtain⟨S,X,v2,v3⟩:=Z;have Y:F2.Nodup:=by decide+kernel
 obtain⟨j,G,D⟩:=Gk.mp W;k_in;have D:F2[j]?=AA J:=by rw[<-D];show Cd G
 have U:∀m,m<j->F2[m]?≠AA J:=λm I e=>by obtain⟨C,A⟩:=BH.mp D;obtain⟨F,B⟩:=BH.mp e;show(Gm.mp Y) m j F C I (B.trans A.symm)
 have L:Cw [AD.int t.1,.int t.2.1,.int t.2.2.1,.int t.2.2.2] (j)=AA (.int (L4 J t)):=by match j,D with |0,e=>cases e;rfl|1,e=>cases e;rfl|2,e=>cases e;rfl|3,e=>cases e;rfl
 show⟨.inr (.inl ⟨rfl,T.aar⟩),_,F2,J,j,rfl,rfl,N,D,U,_,_,Aq z,L,k⟩
noncomputable def AR.so:AR->AE|AR.gap _ _ s _|AR.each _ _ s _ _=>s|_=>""
theorem C4.acb{K:An}(h:C4 H p s)(D:s.iu):CN K H p (s.abt.map Ar)/\Cw (s.abt.map Ar) 1=AA (.str s.nm)/\Cw (s.abt.map Ar) 3=AA (.str s.so):=by show⟨Aq h,?_⟩;cases s with|gap n f J m=>show⟨Ao rfl,Ao rfl⟩|each n f J z d=>show⟨Ao rfl,Ao rfl⟩|_=>cases D
noncomputable def Mp(s:AR)(z:AE)(p:AY):List AL:=[.inr s.nm,.inr z,.inl p.1,.inl p.2.1,.inl (L4 s.so p.2.2)]
noncomputable def jH(z:AE)(p:AY):List AL:=[.inl p.2.1,.inr z,.inl p.1]
def mI:Ax:=λU H Q O=>OP (λ(p a:AB)(s:AR)(z:AE)(D:AY)=>U=[.ref p,.str z,.ref a]) (λp O s O O=>C4 H p s) (λO O s O O=>s.iu) (λO O s O O=>s.so∈F2) (λO a O O D=>VQ H (.ref a) D) (λO O s z D=>∀r J,Aj H J->H r=AF->J r=AA (.tup ((Mp s z D).map Ar))->Q (.ref r) J)
theorem iV{K:An}(T:BA K Z F):T.yl.Ok A3 P w Z base 2 mI:=by show T.yl.ok λG O O O O O D H M Q E h=>?_;lk;obtain⟨p,a,L,z,I,rfl,Y,A,U,⟨_,q,e,J,W⟩,k⟩:=h;cases e;k_in;show⟨_,(Aa (Ay (Cn (Y9 (BG K (AH 0) AO) (Y9 (AH 1) (Y9 (BG K (AH 2) AO) (Y9 (BG K (AH 2) AO) (Y9 (A5 (jE T) D (Y9 (BG K (AH 0) AO) (Y9 (BG K (AH 2) AO) E3))) E3)))))))),?_⟩;lk;obtain⟨V,B,C⟩:=Y.acb A;k_in;show⟨_,_,V,B,_,_,Aq J,Ao rfl,_,_,Aq J,Ao rfl,_,_,V,C,_,_,Aq J,Ao rfl,_,q,_,rfl,U,W,CY rfl,λr D=>k r _ (Bb D) D AZ⟩
def lW:Ax:=λJ H Q O=>Vg (λ(a:AB)(s:AR)(z:AE)(D:AY)=>J=[.ref a]) (λa s z D=>H a=AA (.tup ((Mp s z D).map Ar))) (λO O z D=>∀r,H r=AF->Q (.ref r) (AK H r (.tup ((jH z D).map Ar))))
theorem iN{K:An}(T:BA K J U):T.vx.Ok A3 P w J base 1 lW:=by show T.vx.ok λW O O O O O V H A Q E h=>?_;lk;obtain⟨a,Z,z,Y,rfl,D,k⟩:=h;k_in;show⟨_,(Aa (Ay (Cn (Y9 (BG K (AH 0) AO) (Y9 (BG K (AH 0) AO) (Y9 (BG K (AH 0) AO) E3)))))),?_⟩;show⟨_,_,Aq D,Ao rfl,_,_,Aq D,Ao rfl,_,_,Aq D,Ao rfl,CY rfl,k⟩
structure Iy(ex:List AB)(H:AG)(d:AB)(g:AE->List AY)(kvs:List (AL×AD)):Prop where
 ao:H d=AA (.dK kvs)nd:(kvs.map (·.1)).Nodup
 aav:∀q∈kvs,∃(key:AE)(r:AB)(xs:List AD),q=(.inr key,.ref r)/\r∉ex/\H r=AA (.lst xs)/\Dq H xs (g key)/\xs≠[]zy:∀key,g key≠[]->(.inr key:AL)∈kvs.map (·.1)
theorem Iy.ae(h:Iy ex H d g kvs)(W:H' d=AA (.dK kvs))(Y:∀b xs,b∉ex->H b=AA (.lst xs)->H' b=AA (.lst xs))(t:Bd H H'):Iy ex H' d g kvs:=⟨W,h.nd,λq U=>by lk;obtain⟨D,r,xs,e,n,J,w⟩:=h.aav q U;k_in;show⟨D,r,xs,e,n,Y _ _ n J,w.1.ae t,w.2⟩,h.zy⟩
theorem Iy.ah(h:Iy ex H d g kvs)(s:Aj H H'):Iy ex H' d g kvs:=h.ae (s _ _ h.ao) (λO O O e=>s _ _ e) s.tp
theorem Iy.at(h:Iy ex H d g kvs)(key:AE):(Br kvs (.inr key)=AF/\g key=[])\/∃r xs,Br kvs (.inr key)=AA (.ref r)/\r∉ex/\H r=AA (.lst xs)/\Dq H xs (g key):=by cases J:Br kvs _ with
 |none=> show .inl ⟨rfl,?_⟩;cases Y:g _ with |nil=>rfl|cons a b=> obtain⟨v,D⟩:=NY (h.zy _ (by rw[Y];simp));rw[J]at D;cases D
 |some v=>lk;obtain⟨U,r,xs,e,n,W,w⟩:=h.aav _ (JG J);cases e;k_in;show .inr ⟨r,xs,rfl,n,W,w.1⟩
noncomputable def IM(g:AE->List AY)(key:AE)(ps:List AY):AE->List AY:=λk=>if k=key then ps else g k
theorem Mn:IM g key ps key=ps:=AEE rfl
theorem KC(h:k≠key):IM g key ps k=g k:=AED h
theorem Iy.nv(h:Iy ex H d g kvs)(K:r∉ex)(F:H r=AA (.lst xs))(hw:Dq H xs ps)(L:xs≠[]):Iy ex (AK H d (.dK (Bk kvs (.inr key) (.ref r)))) d (IM g key ps) (Bk kvs (.inr key) (.ref r)):=by
  have A:∀{b:AB}{E:List AD},H b=AA (.lst E)->(AK H d (.dK (Bk kvs (.inr key) (.ref r)))) b=AA _:=λ{b E}e=>by rw[AU λz=>by rw[z,h.ao]at e;cases e];show e
  have B:Bd H (AK H d (.dK (Bk kvs (.inr key) (.ref r)))):=(Ge H).ik h.ao λxs=>by intro z;cases z
  show⟨AZ,OY h.nd,λq I=>?_,λk J=>?_⟩
  . rcases OX I with rfl|⟨G,W⟩;.show⟨key,r,xs,rfl,K,A F,by rw[Mn];show hw.ae B,L⟩
    . lk;obtain⟨D,M,Z,e,n,U,C⟩:=h.aav q G;k_in;subst e;have J:D≠key:=λz=>W (by rw[z]);show⟨_,M,Z,rfl,n,A U,by rw[KC J];show C.1.ae B,C.2⟩
  . by_cases e:k=key
    . subst e;lk;obtain⟨v,Y⟩:∃v,Br (Bk kvs _ _) _=AA v:=⟨_,by rw[Ka,AEE rfl]⟩;k_in;show A7.mpr ⟨_,JG Y,rfl⟩
    . rw[KC e]at J;obtain⟨v,Y⟩:=NY (h.zy k J);have:Br (Bk kvs (.inr key) (.ref r)) (.inr k)=AA v:=by rw[Ka,AED (λz=>e (Gr z))];show Y
      show A7.mpr ⟨_,JG this,rfl⟩
theorem fG:∀{l:List AY},Bu s e x l≠[]
 |[]=>λh=>(by cases h)|b::r=>by
  change(if b.1<s then _ else if b.1=s then _ else _)≠[];split;.showλh=>(by cases h)
  .split<;>showλh=>(by cases h)
theorem Wf:∀{l:List AY}{p:AY},CB p l≠[]
  |[],p=>λh=>(by cases h)|b::r,p=>by
    change(if b.2.1<=p.1 then _ else if p.2.1<=b.1 then _ else CB _ r)≠[];split;.showλh=>(by cases h)
    . split;.showλh=>(by cases h)
      .show Wf
theorem WC:∀{ss:List Int}{l:List AY},(ss≠[]\/l≠[])->ss.foldl (λl s=>Bu s (s+z) x l) l≠[]|[],l,h=>h.elim (λh=>absurd rfl h) id|s::ss,l,_=>WC (ss:=ss) (.inr fG)
theorem d7{s:AR}(J:s.iu)(W:0<=t)(Y:t<=1000000000):s.nv t a l≠[]:=by cases s with
 |gap n f U m=>show Wf|each n f U z d=>
  show WC (.inl λe=>?_);have e:=AEG Nb e;unfold Ky at e;rw[As,Oq]at e;lk;obtain⟨D,V,Z,A⟩:=J;k_in;have f:=(Po (t:=t) (z:=z) D).2;unfold FO at e;split at e
  . have:0<=(t+1-((t-z)/d+1)*d-1)/d:=AAY (by omega) (Kp D);have e:((t+1-((t-z)/d+1)*d-1)/d+1).toNat=0:=e;omega
  .omega|_=>show J.elim
section
variable{ad:Bh}{s:AR}
structure Dy(ad:Bh)(ex:List AB)(H:AG)(x p d:AB)(s:AR)(g:AE->List AY)(kvs:List (AL×AD)):Prop where
 av:∃dx,H x=AA (.ins ad.bx dx [("step",.ref p),("rows",.ref d)])pj:C4 H p s
 aw:Iy ex H d g kvs
end
theorem Dy.ah{st:AR}(h:Dy D ex H x p d st g kvs)(s:Aj H H'):Dy D ex H' x p d st g kvs:=by lk;obtain⟨⟨J,e⟩,st,r⟩:=h;k_in;show⟨⟨J,s _ _ e⟩,s _ _ st,r.ah s⟩
theorem Dy.zr{st:AR}(h:Dy W ex H x p d st g kvs)(s:BR d H H')(r:Iy ex H' d J D):Dy W ex H' x p d st J D:=by
 lk;obtain⟨⟨Y,e⟩,st,U⟩:=h;k_in;have Z:x≠d:=λz=>by rw[z,U.ao]at e;cases e
 have A:p≠d:=λz=>by have st:H p=_:=st;rw[z,U.ao]at st;cases st
 show⟨⟨Y,s _ _ Z e⟩,s _ _ A st,r⟩
def k9(J:Bh):Ax:=λU H Q O=>LG (λ(x D p:AB)=>U=[.ref x,.ref p]) (λx D O=>H x=AA (.ins J.bx D [])) (λx D p=>∀d,H d=AF->Q .non (AK (AK (AK H x (.ins J.bx D [("step",.ref p)])) d (.dK [])) x (.ins J.bx D [("step",.ref p),("rows",.ref d)])))
theorem hZ{K:An}(T:BA K V U):T.kj.Ok A3 P w V base 1 (k9 U):=by
 show T.kj.ok λY O O O O O W H Z Q E h=>?_;lk;obtain⟨x,J,p,rfl,e,k⟩:=h;k_in;show⟨_,(Ae (Du (AH 0) (AH 1) rfl) (Aa (Du (AH 0) LQ rfl))),?_⟩;show⟨x,_,J,[],rfl,e,T.cy,T.ma,by decide,?_⟩;showλd D=>⟨x,_,J,[("step",.ref p)],rfl,?_,T.cy,T.fm,(by change 1<1000;decide),?_⟩;.rw[AU (A4 AZ D)];show AZ
 . show k d ?_;rw[AU (A4 AZ D).symm]at D;show D
def lB(Z:Bh):Ax:=λz H Q O=>Rr (λ(W:List AB)(x p d q:AB)(J:AR)(g:AE->List AY)(D:List (AL×AD))(i:AN)=>z=[.ref x,.ref q]) (λW x p d O J g D O=>Dy Z W H x p d J g D) (λW O O O O O O O O=>(∀c∈W,∃o,H c=AA o)) (λO O O O O J O O O=>J.iu) (λO O O O O J g O i=>J.gd (g i.2.1)) (λO O O O O O O O i=>0<=i.1) (λO O O O O O O O i=>i.1<=1000000000) (λO O O O q O O O i=>H q=AA (.tup [.int i.1,.str i.2.1,.int i.2.2])) (λO O O O O O g O i=>(g i.2.1).length<=5000) (λO O O O O O O D O=>D.length<=10000) (λW x p d O J g D i=>∀Y U,BR d H Y->Dy Z W Y x p d J (IM g i.2.1 (J.nv i.1 i.2.2 (g i.2.1))) U->U.length<=D.length+1->Q .non Y)
theorem h9{K:An}(T:BA K mg l):T.uo.Ok A3 P w mg base 5 (lB l):=by
 show T.uo.ok λnd O0 O0 O0 O0 O0 Y H vs Q E h=>?_;lk;obtain⟨u,x,p,d,q,st,g,W,⟨t,D,a⟩,rfl,L,N,i,v,j,t1,f,lg,lk,k⟩:=h;k_in;show⟨_,(Ae (Bw 2 nd (BG K (AH 1) AO)) (Aa (LR Y.u1 (BC (AH 0) rfl) (AH 2) (A5 (iT T) Y (Y9 (BC (AH 0) rfl) (Y9 (Ql Y.u1 (BC (AH 0) rfl) (AH 2) (DB E3) ⟨rfl,rfl,rfl,rfl⟩) (Y9 (AH 1) E3)))) rfl))),?_⟩;obtain⟨dx,c⟩:=L.av;show⟨_,_,Aq f,Ao rfl,?_⟩;have R:Mv H d:=.inl ⟨W,.inl L.aw.ao⟩;show⟨_,⟨c,T.cy,T.ma,rfl⟩,_,⟨c,T.cy,T.fm,rfl⟩,d,rfl,R,BZ _,λs M=>?_⟩;show BQ M λX s1 B=>?_;have J:=L.ah s1;lk;obtain⟨S,Z,I,F,hw⟩:∃(r:AB)(Z:List AD),(Br W _).getD _=.ref r/\X r=AA (.lst Z)/\Dq X Z (g D):=by
  rcases J.aw.at D with⟨e1,n⟩|⟨r,Z,e1,_,F,hw⟩;.show⟨s,[],by rw[e1];rfl,B,by rw[n];show .nil⟩
  .show⟨r,Z,by rw[e1];rfl,F,hw⟩
 k_in;show⟨_,L6 (k:=Bx D) J.aw.ao,?_⟩;rw[I];show⟨p,S,q,Z,_,st,t,a,D,rfl,J.pj,i,v,F,hw,lg,s1 _ _ f,j,t1,λr H2 xs' s2 Y G A=>?_⟩;have U:=J.ah s2;obtain⟨m,C⟩:=U.av;show⟨_,⟨C,T.cy,T.fm,rfl⟩,d,_,rfl,L7 (k:=Bx D) U.aw.ao (FQ lk (by decide)),?_⟩;have O:r∉u:=λy=>by obtain⟨o,e⟩:=N r y;rw[s1 _ _ e]at Y;cases Y
 show k _ _ ((((s1.aa s2).x d)).ik) (U.zr (λb o nb e=>by rw[AU nb];show e) (U.aw.nv O G A λz=>d7 i j t1 (Z2 (by rw[<-A.fq,z];rfl)))) (by have:=Tr W (.inr D) (.ref r);assumption)
theorem Iy.aam(h:Iy ex H d g kvs)(key:AE):Iy ex (AK H d (.dK (DG kvs (.inr key)))) d (IM g key []) (DG kvs (.inr key)):=by
 have G:∀{b:AB}{E:List AD},H b=AA (.lst E)->(AK H d (.dK (DG kvs (.inr key)))) b=AA _:=λ{b E}e=>by rw[AU λz=>by rw[z,h.ao]at e;cases e];show e
 have K:Bd H (AK H d (.dK (DG kvs (.inr key)))):=(Ge H).ik h.ao λL=>by intro z;cases z
 have U:∀{q:AL×AD},q∈DG _ _↔q∈kvs/\q.1≠.inr key:=λ{q}=>by unfold DG;rw[EH,AEK]
 show⟨AZ,h.nd.sublist (ADI _ NZ),λq Z=>?_,λk D=>?_⟩
 . lk;obtain⟨F,Y⟩:=U.mp Z;obtain⟨J,I,A,e,n,W,C⟩:=h.aav q F;k_in;subst e;have D:J≠key:=λz=>Y (by rw[z]);show⟨_,I,A,rfl,n,G W,by rw[KC D];show C.1.ae K,C.2⟩
 . have e:k≠key:=λz=>D (by rw[z];show Mn);rw[KC e]at D;lk;obtain⟨q,Z,B⟩:=A7.mp (h.zy k D);k_in;show A7.mpr ⟨q,U.mpr ⟨Z,by rw[B];showλz=>e (Gr z)⟩,B⟩
theorem jR:IM (IM g key a) key b=IM g key b:=by
 funext k;by_cases e:k=key;.rw[e,Mn,Mn]
 .rw[KC e,KC e,KC e]
noncomputable def FH:Option Int->List AY->List AY|AF,J=>J|AA D,J=>JA D J
noncomputable def ES:Option Int->List AY->List AY|AF,_=>[]|AA D,J=>Iz D J
noncomputable def J7:Option Int->AD|AF=>.non|AA n=>.int n
theorem fJ{kvs:List (AL×AD)}:∀k,k≠k0->k∈kvs.map (·.1)->k∈(DG kvs k0).map (·.1):=λk D h=>by lk;obtain⟨q,J,rfl⟩:=A7.mp h;k_in;show A7.mpr ⟨q,EH.mpr ⟨J,AEF D⟩,rfl⟩
theorem fK{kvs:List (AL×AD)}:∀k,k∈kvs.map (·.1)->k∈(Bk kvs k0 v).map (·.1):=λk h=>by
 lk;obtain⟨u,D⟩:=NY h;have:∃y,Br (Bk kvs k0 v) k=AA y:=by
  rw[Ka];split;.show⟨_,rfl⟩
  .show⟨_,D⟩
 obtain⟨y,J⟩:=this;k_in;show A7.mpr ⟨_,JG J,rfl⟩
def mP(A:Bh):Ax:=λC H Q O=>Rt (λ(Y:List AB)(x p d:AB)(z:AR)(D:AE)(g:AE->List AY)(J:List (AL×AD))(W:Option Int)=>C=[.ref x,.str D,J7 W]) (λY x p d z O g J O=>Dy A Y H x p d z g J) (λY O O O O O O O O=>(∀c∈Y,∃o,H c=AA o)) (λO O O O O D O J O=>(.inr D:AL)∈J.map (·.1)) (λO O O O O D g O O=>(g D).length<=10000) (λO O O O O O O J O=>J.length<=1000) (λY x p d z D g J W=>∀Z r B U,BR d H Z->Dy A Y Z x p d z (IM g D (ES W (g D))) U->Z r=AA (.lst B)->Dq Z B (FH W (g D))->U.length<=J.length->(∀k,k≠.inr D->k∈J.map (·.1)->k∈U.map (·.1))->Q (.ref r) Z)
theorem i5{K:An}{ad:Bh}(T:BA K mg ad):T.ri.Ok A3 P w mg base 2 (mP ad):=by
  show T.ri.ok λnd O O O O O hr H vs Q E h=>?_;lk;obtain⟨ex,x,p,d,st,key,g,kvs,now,rfl,gr,hex,hg,lg,lk,k⟩:=h;k_in;show⟨_,(Ae (Bw 3 nd (ZF (BC (AH 0) rfl) (AH 1) ⟨rfl,rfl,rfl,rfl⟩)) (Ae (B0 (Bj sR (AH 2) NO (Ba _)) (Aa (Ay (AH 3))) CQ) (Ae (Bw 4 nd (A5 (iP T) hr (Y9 (AH 3) (Y9 (AH 2) E3)))) (Ae (Ii (B0 (Bj T7 (CL (LI (K:=K)) (by rfl) T.iq GY (Y9 (BG K (AH 4) AO) E3)) AO (Ba _)) (Aa (LR hr.u1 (BC (AH 0) rfl) (AH 1) (BG K (AH 4) AO) rfl)) CQ)) (Aa (Ay (BG K (AH 4) AO))))))),?_⟩;have sz:Az=16777216:=D8;obtain⟨dx,eo⟩:=gr.av;have isd:Mv H d:=.inl ⟨kvs,.inl gr.aw.ao⟩;rcases gr.aw.at key with⟨e1,_⟩|⟨r,xs,e1,hrx,er,hw⟩
  . obtain⟨v,hv⟩:=NY hg;rw[e1]at hv;cases hv
  show⟨_,⟨eo,T.cy,T.fm,rfl⟩,d,rfl,isd,kvs,.inr key,.ref r,gr.aw.ao,rfl,e1,?_⟩;have rd:=gr.aw.aam key;have sx1:BR d H (AK H d (.dK (DG kvs (.inr key)))):=λb o nb e=>by rw[AU nb];show e
  have gr1:=gr.zr sx1 rd;have nrd:r≠d:=λz=>by rw[z,gr.aw.ao]at er;cases er
  have er1:=sx1 _ _ nrd er;have hw1:=hw.ae (sx1.tp gr.aw.ao (by intro xs z;cases z));have ll:(DG kvs (.inr key)).length<=kvs.length:=Fc _ _;generalize AK H d (.dK (DG kvs (.inr key)))=H1 at sx1 gr1 er1 hw1⊢;have lt1:Br (DG kvs (.inr key)) (.inr key)=AF->(DG kvs (.inr key)).length<kvs.length:=λO=>by
    have hm:=JG e1;have hne:DG kvs (.inr key)≠kvs:=λz=>by rw[<-z]at hm;unfold DG at hm;have:=(EH.mp hm).2;simp at this
    rcases xH _ kvs.length with h|h;.show h
    .show absurd (ADH (NZ) h) hne
  have lt0:Br (DG kvs (.inr key)) (.inr key)=AF:=by cases q:Br (DG kvs (.inr key)) (.inr key)with |none=>rfl|some v=> have:=(EH.mp (JG q)).2;rw[AEK]at this;show absurd rfl this
  have kd1:=fJ (kvs:=kvs) (k0:=.inr key);generalize DG kvs (.inr key)=kvs1 at gr1 ll lt1 lt0 kd1;cases now with|none=>show⟨rfl,_,rfl,qV rfl (k H1 r xs kvs1 sx1 gr1 er1 hw1 ll kd1)⟩|some now=>
    show⟨rfl,_,rfl,qW (by intro z;cases z) ⟨r,xs,g key,now,rfl,er1,hw1,by assumption,λq r1 r2 H2 x1 x2 s2 hr1 hr2 eq e1 e2 p1 p2=>?_⟩⟩;have gr2:=gr1.ah s2;obtain⟨dx2,eo2⟩:=gr2.av;have q0:CN K H2 q _:=Aq eq;have l2:=p2.fq;show IV (λσ' H'=>∃kvs',σ'=[AA (.ref x),AA (.str key),AA (.int now),AA (.ref r),AA (.ref q)]/\BR d H2 H'/\Dy ad ex H' x p d st (IM g key (ES (AA now) (g key))) kvs'/\kvs'.length<=kvs.length/\(∀k,k≠.inr key->k∈kvs.map (·.1)->k∈kvs'.map (·.1))) ?_ ?_
    . show⟨_,_,q0,Ao (j:=1) rfl,x2,.inl (Ab e2),_,rfl,IW (λh=>?_) λh=>?_⟩
      . show⟨_,_,q0,Ao (j:=1) rfl,_,⟨eo2,T.cy,T.fm,rfl⟩,d,_,rfl,L7 (k:=Bx key) gr2.aw.ao (by lia),?_⟩;have hrx2:r2∉ex:=λhm=>by
          obtain⟨o,e⟩:=hex r2 hm;have nd:r2≠d:=λz=>by rw[z,gr1.aw.ao]at hr2;cases hr2
          rw[sx1 _ _ nd e]at hr2;cases hr2
        have rp:=gr2.aw.nv (key:=key) hrx2 e2 p2 λz=>by rw[z]at h;show absurd h (by decide)
        rw[jR]at rp;have sxp:BR d H2 (AK H2 d (.dK (Bk kvs1 (.inr key) (.ref r2)))):=λb o nb e=>by rw[AU nb];show e
        show⟨_,rfl,sxp,gr2.zr sxp rp,?_,λk' h1 h2=>fK _ (kd1 k' h1 h2)⟩;have nk:=by show lt0
        have:=Tr kvs1 (.inr key) (.ref r2);lia
      . have e0:ES (AA now) (g key)=[]:=Z2 (by show Ny l2.symm (AAi.mp (Lk h)));show⟨kvs1,rfl,λb o O e=>e,by rw[e0];show gr2,ll,kd1⟩
    . intro σ' H3 hI;lk;obtain⟨kvs',rfl,sx3,gr3,l3,kd3⟩:=hI;k_in;have nqd:q≠d:=λz=>by rw[z,gr2.aw.ao]at eq;cases eq
      have n1d:r1≠d:=λz=>by rw[z,gr2.aw.ao]at e1;cases e1
      show⟨_,_,Aq (sx3 _ _ nqd eq),Ao (j:=0) rfl,k H3 r1 x1 kvs' (sx1.aa ((s2.x d).aa sx3)) gr3 (sx3 _ _ n1d e1) (p1.ae (sx3.tp gr2.aw.ao (by intro xs z;cases z))) l3 kd3⟩
noncomputable def Ef(g:AE->List AY)(D:List AE):List (AE×AY):=D.flatMap λz=>(g z).map λp=>(z,p)
noncomputable def Mo(st:AR)(D:AE×AY):List AL:=Mp st D.1 D.2
noncomputable def W8:List AL->List AL|[_,k,s,e,_]=>[e,k,s]|_=>[]
theorem Dy.jo{st:AR}(h:Dy W ex H x p d st g kvs)(Y:H l=AF):Dy W (l::ex) H x p d st g kvs:=⟨h.av,h.pj,h.aw.ao,h.aw.nd,λq Z=>by
 lk;obtain⟨U,r,z,e,n,D,w⟩:=h.aw.aav q Z;k_in;show⟨U,r,z,e,λJ=>?_,D,w⟩;rcases B6.mp J with rfl|J;.rw[Y]at D;cases D
 .show n J,h.aw.zy⟩
theorem Dy.ji{st:AR}(h:Dy J (l::ex) H x p d st g kvs):Dy J ex H x p d st g kvs:=⟨h.av,h.pj,h.aw.ao,h.aw.nd,λq Y=>by lk;obtain⟨D,r,Z,e,n,U,w⟩:=h.aw.aav q Y;k_in;show⟨D,r,Z,e,λW=>n (En _ W),U,w⟩,h.aw.zy⟩
theorem Dy.xj{st:AR}(h:Dy Z ex H x p d st g kvs)(e:H c=AA (.lst ys))(C:c∈ex):Dy Z ex (AK H c o) x p d st g kvs:=by
 lk;obtain⟨⟨A,B⟩,st,r⟩:=h;k_in;have Y:=st;have U:∀{b:AB}{W:BL},H b=AA W->(∀J,W≠.lst J)->(AK H c o) b=AA W:=λ{b W}D n=>by rw[AU λz=>by rw[z,e]at D;show n _ (Bt D).symm];show D
 show⟨⟨A,U B (by intro J z;cases z)⟩,U Y (by intro J z;cases z),r.ae (U r.ao (by intro J z;cases z)) (λb J E D=>?_) λb J D=>U D (by intro J z;cases z)⟩;rw[AU λz=>E (by rw[z];show C)];show D
theorem jU(h:CD H ys R){qs:List (AD×List AL)}(p:qs.Perm (ys.zip (R.map f))):∃J,J.Perm R/\CD H (qs.map (·.1)) J/\J.map f=qs.map (·.2):=by
 have A:=h.fq;have B:BF (λ(D)(q)=>(∃a,q.1=.ref a/\H a=AA (.tup (D.map Ar)))/\f D=q.2) R (ys.zip (R.map f)):=by show Gh (by rw[AA3,As];show Eq.comm.mp (Nat.min_eq_right (BW A.symm))) λi D q e1 U=>?_;obtain⟨W,Y⟩:=LW.mp U;rw[Bl,e1]at Y;show⟨(CO h).2 i _ _ W e1,Bt Y⟩
 lk;obtain⟨J,C,E⟩:=Ob p B;obtain⟨z,Z⟩:=CO E;k_in;show⟨J,C,Gh (by rw[As,z]) λi v D e1 U=>?_,?_⟩;. rw[Bl]at e1;lk;obtain⟨q,W,rfl⟩:=Dp.mp e1;k_in;show(Z i _ q U W).1
 . show wQ λi=>?_;rw[Bl,Bl];cases e1:J[i]? with |none=>rw[wV (by rw[<-z];show Q2.mp e1)];rfl|some D=>have F:=(BH.mp e1).1;have U:=Cd (show i<qs.length by simp_all);rw[U];show AEG _ (Z i _ _ e1 U).2
theorem nU{D:List AE}(e:D[i]?=AA z):Ef g (D.take (i+1))=Ef g (D.take i)++(g z).map λp=>(z,p):=by unfold Ef;rw[EI,e];simp
def kM(C:Bh):Ax:=λF H Q O=>Vr (λ(z:List AB)(x p d:AB)(U:AR)(g:AE->List AY)(D:List (AL×AD))(J:Option Int)=>F=[.ref x,J7 J]) (λz x p d U g D O=>Dy C z H x p d U g D) (λz O O O O O O O=>(∀c∈z,∃o,H c=AA o)) (λO O O O U O O O=>U.iu) (λO O O O U O O O=>U.so∈F2) (λO O O O O O D O=>D.length<=1000) (λO O O O O g O O=>(∀k,(g k).length<=10000)) (λz x p d U g D J=>∀A r E Z W B,BR d H A->Dy C (r::z) A x p d U (λY=>ES J (g Y)) W->H r=AF->A r=AA (.lst E)->CD A E Z->Z.Perm ((Ef (λY=>FH J (g Y)) B).map (Mo U))->(Z.map W8).Pairwise (λa b=>BO b a=AM)->B.Nodup->(∀k,g k≠[]->k∈B)->W.length<=D.length->B.length=D.length->Q (.ref r) A)
theorem gQ{K:An}{ad:Bh}(T:BA K mg ad):T.qe.Ok A3 P w mg base 4 (kM ad):=by
  show T.qe.ok λnd O0 O0 O0 O0 O0 I H vs Q E h=>?_;lk;obtain⟨ex,x,p,d,X,g,C,U,rfl,gr,hex,ok,hso,lk,lg,k⟩:=h;k_in;show⟨_,(Dw (Bw 2 nd (DB E3)) (Dw (DQ Dc rfl (DH (K:=K) (Ie (TQ (K:=K) rfl) (by rfl) T.jt Kh (Y9 (BC (AH 0) rfl) E3))) (D7 3 nd) (Aa (tT (EU (Ic (K:=K) Le O5 RE NK (AH 2) (Y9 (Ib (CT XQ) [("key",3),("self",0)] ⟨rfl,rfl,rfl,rfl,trivial⟩ (DH (K:=K) (Ee (AH 0) T.cy (i5 T) I (Y9 (AH 3) (Y9 (AH 1) E3)))) (λO0 O0 O0 O0=>Gi) (λO0 O0 O0 O0=>(A5 (iV T) I (Y9 (tI (K:=K) (AH 2) rfl) (Y9 (AH 1) (Y9 (AH 0) E3)))))) E3)))))) (Aa (Ay (jM (iN T) I T.ju Oz (AH 2)))))),?_⟩;have sz:Az=16777216:=D8;showλO0 O0 O0 O0 z1=>⟨BZ _,λl hl=>z1 _ _ ?_⟩;show BQ (o:=.lst []) hl λH1 s1 el=>?_;have gr1:=(gr.jo hl).ah s1;obtain⟨dx1,eo1⟩:=gr1.av;showλO0 O0 O0 O0 z2=>⟨_,⟨eo1,T.cy,T.fm,rfl⟩,d,C,rfl,gr1.aw.ao,λls hls=>?_⟩;lk;obtain⟨Z,eks⟩:∃Z:List AE,(C.map λp=>Ar p.1)=Z.map AD.str:=by show⟨C.map λq=>match q.1 with|.inr i=>i|.inl _=>"",?_⟩;rw[DX];show Nc λq hq=>?_;obtain⟨z,r,xs,rfl,_⟩:=gr.aw.aav q hq;rfl
  k_in;have ekk:C.map (·.1)=Z.map (Bx:AE->AL):=by
    have h1:∀q∈C,∃z,q.1=.inr z:=λq hq=>by obtain⟨z,r,xs,rfl,_⟩:=gr.aw.aav q hq;show⟨z,rfl⟩
    have h2:(C.map λp=>Ar p.1).map (λv=>match v with|.str z=>(Bx z:AL)|_=>.inl 0)=C.map (·.1):=by rw[DX];show Nc λq hq=>?_;obtain⟨z,e⟩:=h1 q hq;change(match Ar q.1 with|.str z=>(Bx z:AL)|_=>.inl 0)=q.1;rw[e];rfl
    rw[<-h2,eks,DX];rfl
  have kn:Z.Nodup:=by have h:=gr.aw.nd;rw[ekk,AAq,G8]at h;show h.imp λh e=>h (by rw[e])
  have km:∀z,g z≠[]->z∈Z:=λz ne=>by have h:=gr.aw.zy z ne;rw[ekk]at h;obtain⟨y,hy,e⟩:=A7.mp h;rw[<-Gr e];show hy
  have lke:Z.length=C.length:=by have:=AEG Nb eks;rw[As,As]at this;show this.symm
  rw[eks];show BQ (o:=.lst (Z.map AD.str)) hls λH2 s2 f=>?_;have nll:ls≠l:=λz=>by rw[z,el]at hls;cases hls
  have gr2:=gr1.ah s2;have nld:ls≠d:=λz=>by rw[z,gr2.aw.ao]at f;cases f
  have exs:∀{F:AG},BR d H F->(∀{kv g':_},Dy ad (l::ex) F x p d X g' kv->(∃Y,F l=AA (.lst Y))->∀c∈l::ex,∃o,F c=AA o):=λ{F}sx{kv g'}gr' el' c hc=>by
    rcases B6.mp hc with rfl|hc
    . obtain⟨Y,e⟩:=el';show⟨_,e⟩
    . obtain⟨o,eo⟩:=hex c hc;by_cases q:c=d;.rw[q];show⟨_,gr'.aw.ao⟩
      .show⟨_,sx c o q eo⟩
  show⟨ls,rfl,⟨_,Ab f⟩,Gf (K:=K) (xs:=Z.map AD.str) (λi σ F=>Vf (λ(o3:Option AD)(Y:List AD)(W:List (AL×AD))=>σ=[AA (.ref x),AA (J7 U),AA (.ref l),o3]) (λO0 O0 O0=>BR d H F) (λO0 O0 O0=>F ls=AA (.lst (Z.map AD.str))) (λO0 O0 W=>Dy ad (l::ex) F x p d X (λJ=>if J∈Z.take i then ES U (g J)else g J) W) (λO0 Y O0=>F l=AA (.lst Y)) (λO0 Y O0=>CD F Y ((Ef (λJ=>FH U (g J)) (Z.take i)).map (Mo X))) (λO0 O0 W=>W.length<=C.length) (λO0 Y O0=>Y.length<=10000*i) (λO0 O0 W=>∀z,z∉Z.take i->z∈Z->(.inr z:AL)∈W.map (·.1))) ⟨AF,[],C,rfl,(s1.aa s2).x d,f,?_,s2 _ _ el,Ik _,Ag _,BZ _,λz O0 hz=>by rw[ekk];show A7.mpr ⟨z,hz,rfl⟩⟩ (λi σ F O0 hh=>by obtain⟨_,_,_,_,_,e,_⟩:=hh;show Ab e) ?_ ?_⟩
  . have e:(λJ=>if J∈Z.take 0 then ES U (g J)else g J)=g:=by funext J;show AED (by simp)
    rw[e];show gr2
  . intro i y σ H3 hy hI;lk;obtain⟨o3,Y,W,rfl,R,els3,B,G,L,u,la3,kin⟩:=hI;rw[Bl]at hy;obtain⟨z,hz,rfl⟩:=Dp.mp hy;have hi:i<Z.length:=(BH.mp hz).1;have zn:z∉Z.take i:=λhm=>by obtain⟨j,hj,e⟩:=Gk.mp hm;rw[Em]at hj;rw[Q3]at e;obtain⟨h2,g2⟩:=BH.mp hz;show(Gm.mp kn) j i (BK hj (aJ _ _)) h2 (AEN hj (aI (Bg hi))) (e.trans g2.symm)
    have gz:(if z∈Z.take i then ES U (g z)else g z)=g z:=AED zn;obtain⟨dx3,eo3⟩:=B.av;k_in;have lgz:=lg z;showλO0 O0 O0 O0 z3=>⟨.inl ⟨rfl,_,Ab G⟩,x,dx3,_,rfl,eo3,by rfl,l::ex,x,p,d,X,z,_,W,U,rfl,B,exs R B ⟨_,G⟩,kin z zn (CZ hz),Af (BW (AEG Nb gz)) lgz,Af u lk,λH4 r xs kvs4 sx4 m er4 hw4 l4 kk4=>⟨r,rfl,⟨_,Ab er4⟩,?_⟩⟩;simp only[gz]at m hw4;have eg:IM (λJ=>if J∈Z.take i then ES U (g J)else g J) z (ES U (g z))=λJ=>if J∈Z.take (i+1)then ES U (g J)else g J:=by
      funext J;have tm:J∈Z.take (i+1)↔J∈Z.take i\/J=z:=by rw[EI,hz];simp
      by_cases e:J=z;.rw[e,Mn,AEE (by rw[<-e,tm];show .inr e)]
      . rw[KC e];by_cases q:J∈Z.take i;.rw[AEE q,AEE (tm.mpr (.inl q))]
        .rw[AED q,AED (λh=>(tm.mp h).elim q e)]
    rw[eg]at m;have nl3:l≠d:=λq=>by rw[q,B.aw.ao]at G;cases G
    have el4:=sx4 _ _ nl3 G;have els4:=sx4 _ _ nld els3;have hw34:=L.ae (sx4.tp B.aw.ao (by intro xs z;cases z));have lo:(FH U (g z)).length<=10000:=by cases U with|none=>show lgz|some n=>show Af (Fc _ _) lgz
    have lx4:=hw4.fq;show IU (K:=K) (xs:=xs) (λj τ A F=>(∃o,τ=[o,AA (.str z),AA (.ref x)])/\Aj H4 F/\CD F A (((FH U (g z)).take j).map λp=>Mo X (z,p))) (by lia) ⟨⟨AF,rfl⟩,Bz _,Ik _⟩ (λj τ A F⟨_,s',_⟩=>Ab (s' _ _ er4)) ?_ ?_
    . intro j y τ A H5 R1 hy _ hI k1;lk;obtain⟨⟨o,rfl⟩,S,t⟩:=hI;obtain⟨pc,a,q,ep,rfl,ea,eq⟩:=hw4.ix hy;have gr5:=m.ah S;obtain⟨dx5,eo5⟩:=gr5.av;k_in;show⟨_,⟨eo5,T.cy,T.ma,rfl⟩,p,a,X,z,pc,rfl,gr5.pj,ok,hso,⟨a,q,rfl,S _ _ ea,S _ _ eq⟩,λr' H7 s7 hr' er'=>k1 _ _ _ ⟨⟨_,rfl⟩,S.aa s7,?_⟩⟩;rw[EI,ep,Ce];show(t.ae s7.tp).zt er'
    . intro τ A H5 la5 hI D hD;lk;obtain⟨_,S,t⟩:=hI;k_in;rw[Dk (BW lx4.symm)]at t;show BQ (o:=.lst A) hD λH6 s6 eD=>?_;have N:=S.aa s6;have el6:=N _ _ el4;show⟨l,D,_,_,rfl,rfl,el6,eD,by lia,?_⟩;have tp6:Bd H6 (AK H6 l (.lst (Y++A))):=(Ge H6).ik el6 λxs=>by intro z;cases z
      show z3 _ _ ⟨_,Y++A,kvs4,rfl,λb o nb e=>?_,by rw[AU nll];show N _ _ els4,(m.ah N).xj el6 (.head _),AZ,?_,Af l4 u,by rw[Bs];lia,λz' hz' hk'=>?_⟩
      . rw[AU (λq=>by rw[q,hl]at e;cases e)];show N _ _ (sx4 b o nb (R b o nb e))
      . rw[nU hz,Ce,DX];show CD.ae (D9 (hw34.ae N.tp) (t.ae s6.tp)) tp6
      . rw[EI,hz]at hz';show kk4 _ (λq=>hz' (Eb _ (by rw[Gr q];show .head _))) (kin z' (λq=>hz' (Ht _ q)) hk')
  . intro σ H3 hI;lk;obtain⟨o3,Y,W,rfl,R,els3,B,G,L,u,la3,kin⟩:=hI;k_in;rw[As,Dk (Ag _)]at B L;have eg:(λJ=>if J∈Z then ES U (g J)else g J)=λJ=>ES U (g J):=by
      funext J;by_cases q:J∈Z;.show AEE q
      . rw[AED q];have:g J=[]:=by cases e:g J with |nil=>rfl|cons a b=>show absurd (km J (by rw[e];simp)) q
        rw[this];cases U<;>rfl
    rw[eg]at B;have O:∀M∈(Ef (λJ=>FH U (g J)) Z).map (Mo X),∃kp,M=Mo X kp:=λM I=>by obtain⟨kp,_,rfl⟩:=A7.mp I;show⟨kp,rfl⟩
    show z2 _ _ ⟨l,Y,((Ef (λJ=>FH U (g J)) Z).map (Mo X)).map W8,rfl,Ab G,⟨by simp[L.fq],⟨[AI,AM,AI],by simp,λkk hk=>?_⟩,λi y kk H4 hy hk s4=>?_⟩,λr qs H4 s4 I pq sq=>?_⟩
    . lk;obtain⟨M,I,rfl⟩:=A7.mp hk;obtain⟨kp,rfl⟩:=O M I;k_in;rfl
    . lk;obtain⟨a,M,rfl,er,ea⟩:=L.at hy;rw[Bl,er]at hk;have hk:=Bt hk;obtain⟨kp,rfl⟩:=O M (CZ er);k_in;subst hk;show⟨a,X,kp.1,kp.2,rfl,s4 _ _ ea,λr I=>⟨Bb I,r,rfl,Aq AZ⟩⟩
    . lk;obtain⟨R',p1,w1,e1⟩:=jU L pq;k_in;have s:H3 r=AF:=s4.ar I;have nrd:r≠d:=λq=>by rw[q,B.aw.ao]at s;cases s
      have hrH:H r=AF:=by cases q:H r with|none=>rfl|some o=>rw[R r o nrd q]at s;cases s
      have S:=Bb (o:=.lst (qs.map (·.1))) I;show k _ r _ R' W Z (λb o nb e=>S _ _ (s4 _ _ (R b o nb e))) (((B.ji.ah s4).jo I).ah S) hrH AZ ((w1.ae s4.tp).ae S.tp) p1 (by rw[e1];show sq) kn km u lke
unseal ET in theorem jQ{X:BP}{st:Cg}:ET X st (λ_ _ _=>False):=λ_ _ _ _ _ _ h=>h.elim
noncomputable def L3(ss:List AR)(i:Nat):Bool:=match ss[i]? with|AA s=>s.cu|AF=>AM
noncomputable def Ap(ss:List AR):List Nat:=(FP ss.length).filter (L3 ss)
def mU:Ax:=λY H Q O=>FK (λ(W:AB)(J:List AD)(D:List AR)=>Y=[.ref W]) (λW J O=>H W=AA (.lst J)) (λO J D=>FD H J D) (λO O D=>D.length<=100) (λO O D=>∀U r,Aj H U->H r=AF->U r=AA (.lst ((Ap D).map λi:Nat=>AD.int (i:Int)))->Q (.ref r) U)
theorem i8{K:An}(T:BA K O X):T.xi.Ok A3 P w O base 2 mU:=by
  show T.xi.ok λc o o o o o M H j Q E h=>?_;lk;obtain⟨N,S,W,rfl,Z,A,b,k⟩:=h;k_in;show⟨_,(Aa (Ay (tG (osc:=CT XW) [] rfl (Qo (by rfl) T.jz (AH 0)) rfl rfl (by decide+kernel) (by decide+kernel) (by decide+kernel) trivial rfl rfl (by decide+kernel) (λo o o o=>MM (Ij (A5 (Wu T) M (Y9 (AH 1) E3)))) (λo o o o=>(AH 0))))),?_⟩;have g:=D8;have Y:=A.fq;show⟨N,rfl,⟨_,Ab Z⟩,pB (λi o=>L3 W i) _ (by lia) (λJ s1=>Ab (s1 _ _ Z)) (λi x p d f J R o o e q=>⟨p,_,rfl,Aq e,rfl,_,_,rfl,_,_,rfl,rfl,q⟩) (λi x J R B s1 q=>?_) (λi x J R B o s1 q=>q _ (Bz _)) λJ s1 D z=>?_⟩
  . lk;obtain⟨a,C,rfl,I,F⟩:=A.at B;k_in;have G:L3 W i=C.cu:=by unfold L3;rw[I]
    rw[G]at q;show⟨a,C,rfl,s1 _ _ F,_,rfl,q J (Bz _)⟩
  . show k _ D (s1.ik z) (s1.ar z) ?_;rw[AZ];congr 2;unfold Ap;rw[<-Y];have:∀(n:Nat)(U:List AD),U.length=n->((Nf _ U).filter λq=>L3 W q.1).map _=((FP n).filter (L3 W)).map λi:Nat=>AD.int (i:Int):=λn U e=>by
      have L:(FP n)=(Nf _ U).map ABS:=(List.map_fst_zip (by rw[Oq];show BW e.symm)).symm;conv=>rhs;rw[L]
      rw[Qz,DX];rfl
    show this _ S rfl
def nA:Ax:=λD H Q O=>∃i:Int,D=[.int i]/\Q (.bl AI) H
theorem iC{K:An}(T:BA K D J):T.kz.Ok A3 P w D base 1 nA:=by show T.kz.ok λV O O O O O U H W Q E h=>?_;lk;obtain⟨i,rfl,k⟩:=h;k_in;show⟨_,(Aa (Ay (KU (CL (OQ) (by rfl) T.bh Jr (Y9 (AH 0) (Y9 (NN (v:=.ty _) (by rfl) T.aak aS rfl) E3))) (ML (ZG (CL (OQ) (by rfl) T.bh Jr (Y9 (AH 0) (Y9 (NN (v:=.ty _) (by rfl) T.zw xU rfl) E3)))))))),?_⟩;show⟨_,_,_,_,rfl,.int i,rfl,_,rfl,GC ⟨_,_,_,_,rfl,.int i,rfl,_,rfl,k⟩⟩
def kF:Ax:=λD H Q O=>∃i a b:Int,D=[.int i,.int a,.int b]/\a<=i/\i<=b/\Q (.bl AI) H
theorem iB{K:An}(T:BA K V W):T.kx.Ok A3 P w V base 2 kF:=by show T.kx.ok λY O O O O O U H Z Q E h=>?_;lk;obtain⟨i,a,b,rfl,D,J,k⟩:=h;k_in;show⟨_,(Aa (Ay (KU (A5 (iC T) U (Y9 (AH 0) E3)) (ML (ZD MK MK (AH 1) (AH 0) (AH 2)))))),?_⟩;show⟨i,rfl,_,rfl,GC ?_⟩;show⟨_,rfl,IW (λe=>?_) λe=>absurd D e⟩;change Q (.bl _) H;rw[AEF J];show k
noncomputable abbrev EM(s n k:Int):List (AE×AD):=[("slack",.int s),("now",.int n),("count",.int k)]
def kK(J:Bh):Ax:=λU H Q O=>FK (λ(x D:AB)(s:Int)=>U=[.ref x,.int s]) (λx D O=>H x=AA (.ins J.aj D [])) (λO O s=>0<=s) (λO O s=>s<=1000000000) (λx D s=>Q .non (AK H x (.ins J.aj D (EM s 0 0))))
theorem Wn{K:An}(T:BA K Y V):T.gm.Ok A3 P w Y base 3 (kK V):=by show T.gm.ok λB O O O O O W H C Q E h=>?_;lk;obtain⟨x,U,z,rfl,e,Z,A,k⟩:=h;obtain⟨J,D⟩:=T.ti;k_in;show⟨_,(Ae (B0 (KW (Ij (A5 (iB T) W (Y9 (AH 1) (Y9 AO (Y9 (Ho (v:=.int _) (by rfl) D ⟨_,rfl⟩) E3)))))) (Aa jQ) CQ) (Ae (Du (AH 0) (AH 1) rfl) (Ae (Du (AH 0) AO rfl) (Aa (Du (AH 0) AO rfl))))),?_⟩;show⟨z,0,_,rfl,Z,A,_,rfl,EG ?_⟩;show⟨x,_,U,_,rfl,e,T.bu,T.qr,by decide,?_⟩;show⟨x,_,U,_,rfl,AZ,T.bu,T.df,by change 1<1000;decide,?_⟩;show⟨x,_,U,_,rfl,AZ,T.bu,T.gx,by change 2<1000;decide,?_⟩;rw[Qv,Qv];show k
noncomputable def Ew(n s t:Int):Int:=if t<n then n else IL n (t-s)
def kB(J:Bh):Ax:=λU H Q O=>Vi (λ(x D:AB)(t s n k:Int)=>U=[.ref x,.int t]) (λx D O s n k=>H x=AA (.ins J.aj D (EM s n k))) (λx D t s n k=>Q (.bl (Ac (n<=t))) (AK H x (.ins J.aj D (EM s (Ew n s t) (k+1)))))
theorem Wm{K:An}(T:BA K U J):T.pz.Ok A3 P w U base 1 (kB J):=by
 show T.pz.ok λW O O O O O V H Y Q E h=>?_;lk;obtain⟨x,D,t,z,n,c,rfl,e,k⟩:=h;k_in;show⟨_,(Ae (Du (AH 0) (AW GF (BC (AH 0) rfl) AO) rfl) (Ae (B0 (Bj UA (AH 1) (BC (AH 0) rfl) (Ba _)) (Aa (Ay Fb)) CQ) (Ae (Du (AH 0) (CL (YE rfl) (by rfl) T.aal aT (Y9 (BC (AH 0) rfl) (Y9 (AW LP (AH 1) (BC (AH 0) rfl)) E3))) rfl) (Aa (Ay Fb))))),?_⟩;show⟨_,⟨e,T.bu,T.gx,rfl⟩,x,_,D,_,rfl,e,T.bu,T.gx,by change 3<1000;decide,?_⟩;show⟨_,⟨AZ,T.bu,T.df,rfl⟩,_,rfl,KR (λq=>?_) λq=>?_⟩
 . have q:=AEI q;unfold Ew at k;rw[AEE q,AEH (by simp_all)]at k;show k
 . have q:=AEM q;unfold Ew at k;rw[AED q,AEF (by simp_all)]at k;show⟨_,⟨AZ,T.bu,T.df,rfl⟩,_,⟨AZ,T.bu,T.qr,rfl⟩,?_⟩;show⟨x,_,D,_,rfl,AZ,T.bu,T.df,by change 3<1000;decide,?_⟩;rw[Qv];show k
theorem KH{l:List α}(h:(l.take n)[i]?=AA x):i<n/\l[i]?=AA x:=by have D:=(BH.mp h).1;rw[Em]at D;have J:=BK D (Kf _ _);rw[Z3 J]at h;show⟨J,h⟩
theorem P6{l:List α}(D:i<n)(h:l[i]?=AA x):(l.take n)[i]?=AA x:=by rw[Z3 D];show h
theorem Lu(h:EB (ss.take n) i):i<n/\EB ss i:=by lk;obtain⟨m,a,b,D,e⟩:=h;obtain⟨l,e⟩:=KH e;k_in;show⟨l,m,a,b,D,e⟩
theorem WV(D:i<n)(h:EB ss i):EB (ss.take n) i:=by lk;obtain⟨m,a,b,J,e⟩:=h;k_in;show⟨m,a,b,J,P6 D e⟩
theorem Ck.ye(h:Ck A ex H ss Y D U sd)(J:D2 ss U b):∃kvs,H b=AA (.dK kvs):=by
 lk;obtain⟨i,⟨n,a,W,z,Z⟩,J⟩:=J;obtain⟨⟨B,e0⟩,C,e1⟩:=(h.ie i n a W z Z).2.ye;k_in;rcases J with rfl|rfl;.show⟨_,e0⟩
 .show⟨_,e1⟩
theorem Ck.aco{ss:List AR}(h:Ck Q ex H (ss.take n) A D C λO0=>([],[]))(O:H A=AA (.dK D))(u:ss[n]?=AA (.join m a b wi))(s:Aj H Z)(M:H E=AF)(N:H F=AF)(y:C1 Q ex Z j g l p E F wi [] []):Ck Q ex (AK Z A (.dK (Bk D (.inl (n:Int)) (.ref j)))) (ss.take (n+1)) A (Bk D (.inl (n:Int)) (.ref j)) (λi=>if i=n then⟨j,g,l,p,E,F⟩else C i) λO0=>([],[]):=by
  have k:CA _ Z (AK Z A (.dK (Bk D (.inl (n)) (.ref j)))):=λb o nb e=>by rw[AU nb];show e
  have S:∀b,b=A->(b∈ex/\∃xs,Z b=AA (.lst xs))\/∃P,Z b=AA (.dK P):=λb w=>.inr ⟨D,by rw[w];show s _ _ O⟩;have X:=(A4 O M).symm;have c:=(A4 O N).symm;have J:∀{i:Nat},EB _ i->i≠n->EB (ss.take n) i:=λ{i}U x=>WV (by have:=(Lu U).1;show Cy (Dl this) x) (Lu U).2;have R:∀{i:Nat},EB _ i->(E≠(C i).d0/\E≠(C i).d1)/\F≠(C i).d0/\F≠(C i).d1:=λ{i}U=>by obtain⟨k0,e0⟩:=h.ye ⟨i,U,.inl rfl⟩;obtain⟨k1,e1⟩:=h.ye ⟨i,U,.inr rfl⟩;show⟨⟨(A4 e0 M).symm,(A4 e1 M).symm⟩,(A4 e0 N).symm,(A4 e1 N).symm⟩
  show⟨.inl AZ,λi n' r t wi' L=>?_,λi T U I K=>?_,λi U=>?_⟩
  . by_cases Y:i=n
    . subst Y;have e:=(KH L).2;rw[u]at e;cases e;rw[AEE rfl];show⟨by rw[Ka,AEE rfl],y.gh k S X c⟩
    . rw[AED Y];have G:=P6 (by have:=(KH L).1;show Cy (Dl this) Y) (KH L).2;obtain⟨v,q⟩:=h.ie i n' r t _ G;have d:=h.xu i ⟨_,_,_,_,G⟩;show⟨by rw[Ka,AED (λz=>Y (by lia))];show v,(q.ah s).gh k S d.1.symm d.2.symm⟩
  . by_cases W:i=n
    . subst W;have B:=DZ K;rw[AEE rfl,AED B];have f:=R (J I B);show⟨⟨f.1.1.symm,f.2.1.symm⟩,f.1.2.symm,f.2.2.symm⟩
    . by_cases B:T=n
      . subst B;rw[AED W,AEE rfl];show R (J U W)
      . rw[AED W,AED B];show h.bj i T (J U W) (J I B) K
  . by_cases W:i=n
    . subst W;rw[AEE rfl];show⟨X.symm,c.symm⟩
    . rw[AED W];show h.xu i (J U W)
theorem Ck.acz{ss:List AR}(h:Ck E ex H (ss.take n) Z J B sd)(G:ss[n]?=AA s)(I:s.no≠4):Ck E ex H (ss.take (n+1)) Z J B sd:=by
 have D:∀{i:Nat},EB _ i->EB (ss.take n) i:=λ{i}U=>by
  obtain⟨m,a,b,W,e⟩:=U;obtain⟨l,F⟩:=KH e;clear e;have e:=F;show⟨m,a,b,W,P6 ?_ e⟩;by_cases q:i=n
  . subst q;rw[G]at e;cases e;show absurd rfl I
  .show Cy (Dl l) q
 show⟨h.ao,λi C a b W A=>?_,λi K U Y=>h.bj i K (D U) (D Y),λi U=>h.xu i (D U)⟩;lk;obtain⟨O,M,N,L,z⟩:=D ⟨C,a,b,W,A⟩;have q:=(KH A).2;rw[(KH z).2]at q;cases q;k_in;show h.ie i C a b W z
structure Jy(ss:List AR)(n:Nat)(jd:Nat->EO)(jkvs:List (AL×AD)):Prop where aay:∀p∈jkvs,∃i:Nat,i<n/\EB ss i/\p=(.inl (i:Int),.ref (jd i).j)nd:(jkvs.map (·.1)).Nodup
theorem Jy.acz(h:Jy ss n J D):Jy ss (n+1) J D:=⟨λp U=>by lk;obtain⟨i,l,q,e⟩:=h.aay p U;k_in;show⟨i,Ni l,q,e⟩,h.nd⟩
theorem Jy.aco(h:Jy ss n U D)(W:EB ss n)(J:EO):Jy ss (n+1) (λi=>if i=n then J else U i) (Bk D (.inl (n:Int)) (.ref J.j)):=by
 show⟨λp Z=>?_,OY h.nd⟩;rcases OX Z with rfl|⟨Y,_⟩;.show⟨n,by simp,W,by rw[AEE rfl]⟩
 . lk;obtain⟨i,l,q,e⟩:=h.aay p Y;k_in;show⟨i,by lia,q,by rw[AED (DV l)];show e⟩
def lK(A:Bh):Ax:=λB H Q O=>FK (λ(z:AB)(Y:List AD)(J:List AR)=>B=[.ref z]) (λz Y O=>H z=AA (.lst Y)) (λO Y J=>FD H Y J) (λO O J=>J.length<=20) (λO O J=>∀U W D Z,Aj H U->H W=AF->U W=AA (.dK D)->Jy J J.length Z D->Ck A [] U J W D Z (λO=>([],[]))->(∀b,D2 J Z b->H b=AF)->Q (.ref W) U)
theorem Wv{K:An}{ad:Bh}(T:BA K mg ad):T.vv.Ok A3 P w mg base 5 (lK ad):=by
  show T.vv.ok λnd O0 O0 O0 O0 O0 hr H vs Q E h=>?_;lk;obtain⟨lp,ps,t,rfl,O,pr,lss,k⟩:=h;k_in;show⟨_,(Ae (Bw 1 nd LQ) (Ae (DQ Dc rfl (Qo (K:=K) (by rfl) T.jz (AH 0)) (NP rfl (Ig (D7 2 nd) (Ig (D7 3 nd) NQ))) (Aa (B0 (Bj Cs (BG K (AH 3) AO) C7 (Ba _)) (Aa (LR hr.u1 (AH 1) (AH 2) (J9 (iE T) hr T.aby Hn (Y9 (BG K (AH 3) AO) E3)) rfl)) CQ))) (Aa (Ay (AH 1))))),?_⟩;have sz:=D8;have lps:=pr.fq;intro M G;show BQ (o:=.dK []) G λH0 g0 N=>?_;show⟨lp,rfl,⟨_,Ab (g0 _ _ O)⟩,Tb (K:=K) (xs:=ps) (λn u r=>QR (λ(o3 o4:Option AD)(D)(Z:Nat->EO)=>u=[AA (.ref lp),AA (.ref M),o3,o4]) (λO0 O0 O0 O0=>Aj H r) (λO0 O0 D O0=>r M=AA (.dK D)) (λO0 O0 D O0=>D.length<=n) (λO0 O0 D Z=>Jy t n Z D) (λO0 O0 D Z=>Ck ad [] r (t.take n) M D Z (λO0=>([],[]))) (λO0 O0 O0 Z=>∀b,D2 (t.take n) Z b->H b=AF)) ⟨AF,AF,[],λO0=>⟨0,0,0,0,0,0⟩,rfl,g0,N,Ag _,⟨λp hp=>(by cases hp),.nil⟩,⟨.inl N,λi n a b L e=>(by cases(KH e).1),λi i' B=>(by cases(Lu B).1),λi B=>(by cases(Lu B).1)⟩,λb⟨i,B,_⟩=>(by cases(Lu B).1)⟩ (λn u r O0 hh=>by obtain⟨_,_,_,_,_,s',_⟩:=hh;show Ab (s' _ _ O)) ?_ ?_⟩
  . intro n x u H1 p hx hI hp;lk;obtain⟨o3,o4,D,Z,rfl,s1,C,I,U,W,J⟩:=hI;obtain⟨b,st,rfl,R,eb⟩:=pr.at hx;k_in;show BQ hp λH2 g2 ep=>?_;show⟨p,_,rfl,Aq ep,rfl,_,_,rfl,_,_,rfl,rfl,?_⟩;have s2:=s1.aa g2;have eb2:C4 H2 b st:=s2 _ _ eb;have d:=W.ah g2;have F:=g2 _ _ C;lk;obtain⟨e0,e1,_⟩:=eb2.ku (K:=K);k_in;have hn:n<t.length:=(BH.mp R).1;show⟨_,_,e0,e1,rfl,_,rfl,JX (i:=4) rfl (λs=>?_) λs=>⟨_,_,D,Z,rfl,s2,F,JM I,U.acz,d.acz R s,λv Y=>?_⟩⟩
    . lk;obtain⟨m,f,g,L,rfl⟩:∃m f g L,st=.join m f g L:=by cases st<;>first|show⟨_,_,_,_,rfl⟩|cases s
      k_in;show⟨_,_,e0,Ao (j:=4) rfl,λj y hj S hnj=>⟨[],j,y,L,rfl,AZ,(λc hc=>by cases hc),λHs sl x0 x1 d0 d1 sx z A jr=>⟨rfl,?_⟩⟩⟩;have s3:Aj H2 Hs:=λb o e=>sx _ _ (A4 e hj) (by rw[AU (A4 e hj),AU (A4 e S)];show e);have z:=F9 (F9 z);have A:=F9 (F9 A);show⟨M,_,rfl,L7 (k:=.inl (n:Int)) (s3 _ _ F) (by lia),?_⟩;have lk:=SX D (.inl (n:Int)) (.ref j);show⟨_,_,_,_,rfl,(s2.aa s3).wk G,AZ,Af lk (Gn.mpr I),U.aco ⟨_,_,_,_,R⟩ _,d.aco F R s3 z A jr,λv X=>?_⟩;obtain⟨i,B,Y⟩:=X;by_cases q:i=n
      . subst q;dsimp only at Y;rw[AEE rfl]at Y;rcases Y with rfl|rfl;.show s2.ar z
        .show s2.ar A
      . dsimp only at Y;rw[AED q]at Y;show J v ⟨i,WV (by have:=(Lu B).1;lia) (Lu B).2,Y⟩
    . lk;obtain⟨i,⟨m,a,c,L,e⟩,Y⟩:=Y;obtain⟨l,e2⟩:=KH e;k_in;show J v ⟨i,⟨m,a,c,L,P6 ?_ e2⟩,Y⟩;by_cases q:i=n;. subst q;rw[R]at e2;cases e2;show absurd rfl s
      .lia
  . intro u H1 hI;lk;obtain⟨o3,o4,D,Z,rfl,s1,C,I,U,W,J⟩:=hI;k_in;rw[lps]at U W J;rw[ABB]at W J;show k H1 M D Z s1 G C U W J
structure HS where
 x:AB
 p:AB
 d:AB
section
variable{ad:Bh}{s:AR}
structure DO(ad:Bh)(ex:List AB)(H:AG)(ss:List AR)(ts:List Nat)(dg:AB)(gkvs:List (AL×AD))(gd:Nat->HS)(gg:Nat->AE->List AY)(gk:Nat->List (AL×AD)):Prop where
 ao:Fu H dg (.dK gkvs)qo:∀i∈ts,∃s,ss[i]?=AA s/\Br gkvs (.inl (i:Int))=AA (.ref (gd i).x)/\Dy ad ex H (gd i).x (gd i).p (gd i).d s (gg i) (gk i)bj:∀i∈ts,∀i'∈ts,i≠i'->(gd i).d≠(gd i').d
 oq:∀i∈ts,dg≠(gd i).d
end
theorem Dy.gh{st:AR}(h:Dy U ex H x p d st g kvs)(s:CA q H H')(D:∀b,q b->(b∈ex/\∃xs,H b=AA (.lst xs))\/∃kvs,H b=AA (.dK kvs))(Z:¬q d):Dy U ex H' x p d st g kvs:=by have J:Bd H H':=λb xs e=>s _ _ (λz=>by rcases D b z with⟨_,xs,y⟩|⟨kvs,y⟩<;>(rw[e]at y;cases y)) e;lk;obtain⟨⟨W,e⟩,Y,r⟩:=h;k_in;show⟨⟨W,s _ _ (λz=>by rcases D x z with⟨_,xs,y⟩|⟨kvs,y⟩<;>(rw[e]at y;cases y)) e⟩,Y.tp J,r.ae (s _ _ Z r.ao) (λb xs n e=>s _ _ (λz=>by
 rcases D b z with⟨y,_⟩|⟨kvs,y⟩;.show n y
 .rw[e]at y;cases y) e) J⟩
theorem DO.ah(h:DO J ex H ss z U D V W gk)(s:Aj H H'):DO J ex H' ss z U D V W gk:=⟨Kx h.ao (s _),λi Y=>by lk;obtain⟨Z,e,v,g⟩:=h.qo i Y;k_in;show⟨Z,e,v,g.ah s⟩,h.bj,h.oq⟩
theorem DO.jo(h:DO J ex H ss A U D V W gk)(Z:H l=AF):DO J (l::ex) H ss A U D V W gk:=⟨h.ao,λi Y=>by lk;obtain⟨z,e,v,g⟩:=h.qo i Y;k_in;show⟨z,e,v,g.jo Z⟩,h.bj,h.oq⟩
theorem DO.ji(h:DO J (l::ex) H ss z U D V W gk):DO J ex H ss z U D V W gk:=⟨h.ao,λi Y=>by lk;obtain⟨Z,e,v,g⟩:=h.qo i Y;k_in;show⟨Z,e,v,g.ji⟩,h.bj,h.oq⟩
theorem DO.gh(h:DO Y ex H ss W J D U Z gk)(s:CA q H H')(B:∀b,q b->(b∈ex/\∃xs,H b=AA (.lst xs))\/∃kvs,H b=AA (.dK kvs))(z:∀i∈W,¬q (U i).d)(A:¬q J):DO Y ex H' ss W J D U Z gk:=⟨Kx h.ao λo=>s _ o A,λi V=>by lk;obtain⟨C,e,v,g⟩:=h.qo i V;k_in;show⟨C,e,v,g.gh s B (z i V)⟩,h.bj,h.oq⟩
theorem DO.pj{st:AR}(h:DO Y ex H ss B C J D F gk)(hi:i∈B)(Z:ss[i]?=AA st)(s:BR (D i).d H H')(r:Dy Y ex H' (D i).x (D i).p (D i).d st z A):DO Y ex H' ss B C J D (λk=>if k=i then z else F k) (λk=>if k=i then A else gk k):=by
 have I:∃K,H (D i).d=AA (.dK K):=by obtain⟨_,_,_,g⟩:=h.qo i hi;show⟨_,g.aw.ao⟩
 show⟨Kx h.ao λo=>s _ o (h.oq i hi),λk W=>?_,h.bj,h.oq⟩;by_cases q:k=i
 . subst q;lk;obtain⟨U,e,v,_⟩:=h.qo k W;rw[Z]at e;k_in;show⟨st,Z,v,by rw[AEE rfl,AEE rfl];show r⟩
 . lk;obtain⟨U,e,v,g⟩:=h.qo k W;k_in;show⟨U,e,v,by rw[AED q,AED q];show g.gh (λb o L E=>s b o L E) (λb G=>.inr (by rw[G];show I)) (h.bj k W i hi q)⟩
theorem DO.qy{K:Nat->AE->List AY}(h:DO C ex H ss O V D I K gk)(e:Fu H' V (.dK D))(A:∀b,b≠V->H' b=H b):DO C ex H' ss O V D I K gk:=by
 have W:∀{b:AB}{U:BL},H b=AA U->(∀o u,U≠.frz o u)->(∀u,U≠.dK u)->H' b=AA U:=λ{b U}J M L=>by
  rw[A b λz=>by
   rw[z]at J;rcases h.ao with Y|⟨Q,Y⟩<;>rw[Y]at J;.show L _ (Bt J).symm
   .show M _ _ (Bt J).symm];show J
 have B:Bd H H':=λb P J=>W J (by intro o u z;cases z) (by intro u z;cases z);show⟨e,λi Z=>?_,h.bj,h.oq⟩;lk;obtain⟨N,e,v,⟨E,F⟩,G,r⟩:=h.qo i Z;k_in;show⟨N,e,v,⟨E,W F (by intro o u z;cases z) (by intro u z;cases z)⟩,G.tp B,r.ae (by rw[A _ (h.oq i Z).symm];show r.ao) (λb P S e=>W e (by intro o u z;cases z) (by intro u z;cases z)) B⟩
structure Me(ts:List Nat)(gd:Nat->HS)(gkvs:List (AL×AD)):Prop where aay:∀p∈gkvs,∃i∈ts,p=(.inl (i:Int),.ref (gd i).x)nd:(gkvs.map (·.1)).Nodup
theorem HW:i∈Ap ss↔∃s,ss[i]?=AA s/\s.cu=AI:=by
 unfold Ap L3;rw[EH,Z8];constructor
 . rintro⟨h,q⟩;rw[Cd h]at q;show⟨_,Cd h,q⟩
 . intro D;lk;obtain⟨s,e,q⟩:=D;k_in;show⟨(BH.mp e).1,by rw[e];show q⟩
theorem nI(ss:List AR):(Ap ss).Nodup:=AA8.sublist NZ
theorem SK(U:H x=AF)(J:H D=AF)(s:BR x (AK (AK H D (.own x)) x (.ins C D [])) H'):Aj H H':=λb o e=>s b o (A4 e U) (by rw[AU (A4 e U),AU (A4 e J)];show e)
theorem Mj(U:D≠x)(h:AK (AK H D (.own x)) x (.ins C D []) b=AF):H b=AF/\b≠x:=by
 have J:b≠x:=λz=>by rw[z,AZ]at h;cases h
 have V:b≠D:=λz=>by rw[z,AU U,AZ]at h;cases h
 rw[AU J,AU V]at h;show⟨h,J⟩
theorem DO.aco{st:AR}(h:DO M [] H ss A B D G (λw w=>[]) (λw=>[]))(P:H B=AA (.dK D))(X:ss[i]?=AA st)(K:i∉A)(s:Aj H Z)(N:H J.d=AF)(a:Dy M [] Z J.x J.p J.d st (λw=>[]) []):DO M [] (AK Z B (.dK (Bk D (.inl (i:Int)) (.ref J.x)))) ss (A++[i]) B (Bk D (.inl (i:Int)) (.ref J.x)) (λk=>if k=i then J else G k) (λw w=>[]) (λw=>[]):=by
  have T:CA _ Z (AK Z B (.dK (Bk D (.inl (i)) (.ref J.x)))):=λb o j e=>by rw[AU j];show e
  have Q:∀b,b=B->(b∈([])/\∃l,Z b=AA (.lst l))\/∃I,Z b=AA (.dK I):=λb c=>.inr ⟨D,by rw[c];show s _ _ P⟩;have R:=(A4 P N).symm;have W:∀{k:Nat},k∈A->k≠i:=λU z=>K (by rw[<-z];show U);have O:∀{k:Nat},k∈A->J.d≠(G k).d:=λ{k}U=>by obtain⟨_,_,_,g⟩:=h.qo k U;show(A4 g.aw.ao N).symm
  have Y:∀{k:Nat},k∈A++[i]->k∈A\/k=i:=λU=>(CS.mp U).imp id BV.mp;show⟨.inl AZ,λk U=>?_,λk U f E S=>?_,λk U=>?_⟩
  . rcases Y U with U|rfl;. lk;obtain⟨L,e,v,g⟩:=h.qo k U;k_in;rw[AED (W U)];show⟨L,e,by rw[Ka,AED (λz=>W U (by lia))];show v,(g.ah s).gh T Q (h.oq k U).symm⟩
    . rw[AEE rfl];show⟨st,X,by rw[Ka,AEE rfl],a.gh T Q R⟩
  . rcases Y U with F|rfl
    . rcases Y E with C|rfl
      . rw[AED (W F),AED (W C)];show h.bj k F f C S
      . rw[AED (W F),AEE rfl];show(O F).symm
    . rcases Y E with C|rfl
      . rw[AEE rfl,AED (W C)];show O C
      .show absurd rfl S
  . rcases Y U with U|rfl;. rw[AED (W U)];show h.oq k U
    . rw[AEE rfl];show R.symm
theorem Me.aco(h:Me W Y D)(U:i∉W)(J:HS):Me (W++[i]) (λk=>if k=i then J else Y k) (Bk D (.inl (i:Int)) (.ref J.x)):=by
 show⟨λp B=>?_,OY h.nd⟩;rcases OX B with rfl|⟨A,_⟩;.show⟨i,Eb _ (.head _),by rw[AEE rfl]⟩
 . lk;obtain⟨k,Z,e⟩:=h.aay p A;k_in;show⟨k,Ht _ Z,by rw[AED (λz=>U (by rw[<-z];show Z))];show e⟩
def lD(A:Bh):Ax:=λB H Q O=>FK (λ(z:AB)(Y:List AD)(J:List AR)=>B=[.ref z]) (λz Y O=>H z=AA (.lst Y)) (λO Y J=>FD H Y J) (λO O J=>J.length<=20) (λO O J=>∀U W D Z,Aj H U->H W=AF->U W=AA (.dK D)->D.length<=J.length->Me (Ap J) Z D->DO A [] U J (Ap J) W D Z (λO O=>[]) (λO=>[])->(∀i∈Ap J,H (Z i).d=AF)->Q (.ref W) U)
theorem Ws{K:An}(T:BA K mg A):T.uz.Ok A3 P w mg base 3 (lD A):=by
  show T.uz.ok λnd O0 O0 O0 O0 O0 hr H vs Q E h=>?_;lk;obtain⟨lp,ps,Z,rfl,X,pr,lss,k⟩:=h;k_in;show⟨_,(Ae (Bw 1 nd LQ) (Ae (DQ Dc rfl (DH (K:=K) (A5 (i8 T) hr (Y9 (AH 0) E3))) (D7 2 nd) (Aa (LR hr.u1 (AH 1) (AH 2) (J9 (hZ T) hr T.abi Hn (Y9 (JF K (AH 0) (AH 2)) E3)) rfl))) (Aa (Ay (AH 1))))),?_⟩;have sz:=D8;have lps:=pr.fq;intro R N;show BQ (o:=.dK []) N λH0 v S=>?_;show⟨lp,ps,Z,rfl,v _ _ X,pr.ae v.tp,Af lss (by decide),λH1 lt s1 hlt c=>?_⟩;have lts:(Ap Z).length<=Z.length:=Af (Fc _ _) (by rw[Oq];show Ag _);show⟨lt,rfl,⟨_,Ab c⟩,Gf (K:=K) (xs:=(Ap Z).map _) (λn m l=>Rl (λ(o2:Option AD)(D)(I:Nat->HS)=>m=[AA (.ref lp),AA (.ref R),o2]) (λO0 O0 O0=>Aj H l) _ (λO0 D O0=>l R=AA (.dK D)) (λO0 D O0=>D.length<=n) (λO0 D I=>Me ((Ap Z).take n) I D) (λO0 D I=>DO A [] l Z ((Ap Z).take n) R D I (λO0 O0=>[]) (λO0=>[])) (λO0 O0 I=>∀i∈(Ap Z).take n,H (I i).d=AF)) ⟨AF,[],λO0=>⟨0,0,0⟩,rfl,v.aa s1,c,s1 _ _ S,Ag _,⟨λp hp=>(by cases hp),.nil⟩,⟨.inl (s1 _ _ S),λi Y=>(by cases Y),λi Y=>(by cases Y),λi Y=>(by cases Y)⟩,λi Y=>(by cases Y)⟩ (λn m l O0 hh=>by obtain⟨_,_,_,_,_,e,_⟩:=hh;show Ab e) ?_ ?_⟩
  . intro n y m O hy hI;lk;obtain⟨o2,D,I,rfl,s2,W,B,L,F,G,C⟩:=hI;rw[Bl]at hy;obtain⟨i,Y,rfl⟩:=Dp.mp hy;obtain⟨st,s,ht⟩:=HW.mp (CZ Y);obtain⟨a,ea,eq⟩:∃a,ps[i]?=AA (.ref a)/\C4 H a st:=by have t:=Cd (by rw[lps];show(BH.mp s).1);obtain⟨a,s',e1,e2,e3⟩:=pr.at t;rw[s]at e2;cases e2;rw[e1]at t;show⟨a,t,e3⟩
    k_in;have hnt:=(BH.mp Y).1;have g:i∉(Ap Z).take n:=λhm=>by obtain⟨j,hj,e⟩:=Gk.mp hm;rw[Em]at hj;rw[Q3]at e;obtain⟨h2,g2⟩:=BH.mp Y;show(Gm.mp (nI Z)) j n _ h2 (AEN hj (aI (Bg hnt))) (e.trans g2.symm)
    show⟨_,_,Ab (s2 _ _ X),Ao ea,λx U hx hdx hxn=>⟨x,U,a,rfl,AZ,λd hd=>⟨rfl,?_⟩⟩⟩;obtain⟨M,ndx⟩:=Mj hxn hd;have s3:Aj O (AK (AK (AK (AK (AK O U (.own x)) x (.ins A.bx U [])) x (.ins A.bx U [("step",.ref a)])) d (.dK [])) x (.ins A.bx U [("step",.ref a),("rows",.ref d)])):=λb o e=>by have n1:=A4 e hx;rw[AU n1,AU (A4 e M),AU n1,AU n1,AU (A4 e hdx)];show e
    have u:(AK (AK (AK (AK (AK O U (.own x)) x (.ins A.bx U [])) x (.ins A.bx U [("step",.ref a)])) d (.dK [])) x (.ins A.bx U [("step",.ref a),("rows",.ref d)])) x=AA _:=AZ;have r:(AK (AK (AK (AK (AK O U (.own x)) x (.ins A.bx U [])) x (.ins A.bx U [("step",.ref a)])) d (.dK [])) x (.ins A.bx U [("step",.ref a),("rows",.ref d)])) d=AA (.dK []):=by rw[AU ndx];show AZ
    show⟨R,_,rfl,L7 (k:=.inl (i:Int)) (s3 _ _ B) (by lia),?_⟩;have lk:=SX D (.inl (i:Int)) (.ref x);have tk:(Ap Z).take (n+1)=(Ap Z).take n++[i]:=by rw[EI,Y];rfl
    have nlt:lt≠R:=λz=>by rw[z,B]at W;cases W
    show⟨_,_,λk=>if k=i then⟨x,a,d⟩else I k,rfl,(s2.aa s3).wk N,by rw[AU nlt];show s3 _ _ W,AZ,Af lk (Gn.mpr L),by rw[tk];show F.aco g ⟨x,a,d⟩,?_,λk' f=>?_⟩;. rw[tk];show G.aco (J:=⟨x,a,d⟩) B s g s3 M ⟨⟨U,u⟩,(s2.aa s3) _ _ eq,r,.nil,λq hq=>(by cases hq),λkey ne=>absurd rfl ne⟩
    . rw[tk]at f;dsimp only;by_cases q:k'=i;. rw[AEE q];show s2.ar M
      . rw[AED q];show C k' ((CS.mp f).elim id λh=>absurd (BV.mp h) q)
  . intro m O hI;lk;obtain⟨o2,D,I,rfl,s2,W,B,L,F,G,C⟩:=hI;k_in;rw[As]at L F G C;rw[Dk (Ag _)]at F G C;show k O R D I s2 N B (Af L lts) F G C
noncomputable def FV(z:AE)(l:List AN):List Iw:=(l.filter λi=>Ac (i.2.1=z)).map λi=>(i.1,i.2.2)
theorem XE(z:AE)(l m:List AN):FV z (l++m)=FV z l++FV z m:=by unfold FV;rw[GG,Ce]
theorem jP(p:l.Perm m):(FV z l).Perm (FV z m):=(p.filter _).map _
theorem XG(z:AE)(l:List AN):(FV z l).length<=l.length:=by unfold FV;rw[As];show Fc _ _
theorem XH(h:x∈FV z l):∃i∈l,i.1=x.1:=by lk;obtain⟨i,D,rfl⟩:=A7.mp h;k_in;show⟨i,(EH.mp D).1,rfl⟩
noncomputable def AR.fd:AR->AE|AR.gap _ a _ _|AR.each _ a _ _ _=>a|_=>""
noncomputable def F8(s:AR)(now:Int)(l:List AN)(z:AE):List AY:=Iz now (IJ s (FV z l))
theorem j8(D:s.iu)(J:now<=x.1):IM (F8 s now l) x.2.1 (s.nv x.1 x.2.2 (F8 s now l x.2.1))=F8 s now (l++[x]):=by
  funext z;by_cases q:z=x.2.1
  . have e:FV z [x]=[(x.1,x.2.2)]:=by change(Qy _ _).map _=_;rw[Uc (by show AEF q.symm)];rfl
    unfold F8;rw[XE,e,eA,(d6 D (Vu D) J).1,q,Mn]
  . have e:FV z [x]=[]:=by change(Qy _ _).map _=_;rw[Ub (by rw[AEK];show DZ q)];rfl
    unfold F8;rw[KC q,XE,e,Ea]
theorem Sj{s:AR}(D:s.iu):s.gd (F8 s now l z):=d5 (Vu D) NZ
theorem j7(D:s.iu)(p:l.Perm m):F8 s now l=F8 s now m:=by funext z;unfold F8;rw[d9 D (jP p)]
theorem Sk(J:s.iu)(U:∀x∈l,0<=x.1/\x.1<=1000000000):(F8 s now l z).length<=5*l.length:=by
 have W:(F8 s now l z).length<=(IJ s _).length:=Fc _ _;have Y:=Vv (ps:=FV z l) J λx V=>by obtain⟨i,D,e⟩:=XH V;rw[<-e];show U i D
 have:=XG z l;lia
noncomputable def Ja(ss:List AR)(now:Int)(F:Nat->List AN)(i:Nat):AE->List AY:=match ss[i]? with|AA s=>F8 s now (F i)|AF=>λO=>[]
theorem KD(e:ss[i]?=AA s):Ja ss now F i=F8 s now (F i):=by unfold Ja;rw[e]
noncomputable def Eu(ss:List AR)(i:Nat):AE:=match ss[i]? with|AA s=>s.fd|AF=>""
theorem Gs(e:ss[i]?=AA s):Eu ss i=s.fd:=by unfold Eu;rw[e]
noncomputable abbrev DJ(ss:List AR)(now:Int)(L:AE->List AN):Nat->AE->List AY:=Ja ss now λi=>L (Eu ss i)
theorem Jb(e:ss[i]?=AA s):DJ ss now L i=F8 s now (L s.fd):=by change Ja ss _ _ i=_;rw[KD e,Gs e]
theorem DO.ud(h:DO z ex H ss J U D W Y gk)(e:∀i∈J,gg' i=Y i):DO z ex H ss J U D W gg' gk:=⟨h.ao,λi Z=>by lk;obtain⟨A,e1,v,g⟩:=h.qo i Z;k_in;show⟨A,e1,v,by rw[e i Z];show g⟩,h.bj,h.oq⟩
noncomputable def F7(D:List (Int×AN))(i:Nat):List AN:=(D.filter λp=>Ac (p.1=(i:Int))).map (·.2)
theorem WW(a b:List (Int×AN))(i:Nat):F7 (a++b) i=F7 a i++F7 b i:=by unfold F7;rw[GG,Ce]
theorem SH{D:List (Int×AN)}{p:Int×AN}(e:D[n]?=AA p)(i:Nat):F7 (D.take (n+1)) i=F7 (D.take n) i++(if p.1=(i:Int)then[p.2]else[]):=by
 rw[EI,e,WW];congr 1;change(Qy _ [p]).map _=_;by_cases q:p.1=(i)
 . rw[AEE q,Uc (by show AEF q)];rfl
 . rw[AED q,Ub (by rw[AEK];show q)];rfl
theorem fI(D:List (Int×AN))(n i:Nat):(F7 (D.take n) i).Sublist (F7 D i):=((ABC n D).filter _).map _
theorem WX(l:List AN)(j i:Nat):F7 (l.map λx=>((j:Int),x)) i=if j=i then l else[]:=by
 unfold F7;by_cases q:j=i
 . rw[AEE q,Ud.mpr λp D=>by lk;obtain⟨x,_,rfl⟩:=A7.mp D;k_in;show AEF (by rw[q]),DX];show AA4 l
 . rw[AED q,MP.mpr λp D=>by lk;obtain⟨x,_,rfl⟩:=A7.mp D;k_in;rw[AEK];show Kg q (λJ=>Md.mp J)];rfl
theorem Xp(e:ss[i]?=AA s)(U:s.cu=AI):∀N,F7 (Ex ss bt N) i=if i<N then bt s.nm else[] |0=>rfl|N+1=>by change F7 (Ex ss bt N++_) i=_;rw[WW,Xp e U N];cases q:ss[N]? with |none=> have:=(BH.mp e).1;have:=Q2.mp q;rw[AEE (by lia),AEE (by lia)];show Ea _|some J=>
      change _++F7 (if J.cu=AI then(bt _).map _ else[]) i=_;by_cases h:N=i
      . subst h;rw[e]at q;cases q;rw[AED (GI _),AEE U,WX,AEE rfl,AEE (Jo _)];rfl
      . have V:F7 (if J.cu=AI then(bt J.nm).map λi=>((N),i)else[]) i=[]:=by
          split;.rw[WX,AED h]
          .rfl
        rw[V,Ea];by_cases D:i<N;.rw[AEE D,AEE (Ni D)]
        .rw[AED D,AED (Kg D (λW=>Cy (Dl W) (DZ h)))]
theorem Xq:∀{N:Nat}{p:Int×AN},p∈Ex ss bt N->∃(i:Nat)(s:AR),ss[i]?=AA s/\s.cu=AI/\p.1=(i:Int)/\p.2∈bt s.nm
 |0,p,h=>by cases h|N+1,p,h=>by
  rcases CS.mp h with h|h;.show Xq h
  .cases q:ss[N]? with |none=>rw[q]at h;cases h|some s=>
   rw[q]at h;have h:p∈if s.cu=AI then(bt _).map _ else[]:=h;split at h
   . rename_i D;lk;obtain⟨x,J,rfl⟩:=A7.mp h;k_in;show⟨N,s,q,D,rfl,J⟩
   .cases h
theorem C8.iu(h:C8 ss){i:Nat}(e:ss[i]?=AA s)(D:s.cu=AI):s.iu/\s.so∈F2/\s.bz=[s.fd]:=by have:=h.ok s (CZ e);cases s with|gap n a J m=>show⟨this.1,this.2,rfl⟩|each n a J z d=>show⟨this.1,this.2,rfl⟩|_=>cases D
def Fm(ss:List AR)(J:Nat->EO)(D:Nat->HS)(b:AB):Prop:=D2 ss J b\/∃i∈Ap ss,b=(D i).d
def mF(I:Bh):Ax:=λR H Q S=>Vd (λ(N C B q:AB)(M:List AD)(D:List AR)(W:List (AL×AD))(Z:Nat->EO)(A:Nat->List AN×List AN)(L Y:AE->List AN)(E:List Bf)(e:Bf)(J:Int)(U:List (AL×AD))(z:Nat->HS)(K:Nat->List (AL×AD))=>R=[.ref N,.ref C,.ref B,.ref q]) (λN S S S M S S S S S S S S S S S S=>H N=AA (.lst M)) (λS S S S M D S S S S S S S S S S S=>FD H M D) (λS S S S S D S S S S S S S S S S S=>C8 D) (λS S S S S D S S S S S S S S S S S=>D.length<=20) (λS C S S S D W Z A S S S S S S S S=>Ck I [] H D C W Z A) (λS S S q S S S S S S S S e S S S S=>HR H q e) (λS S S S S D S S S L Y E e S S S S=>(∀(i:Nat)s,D[i]?=AA s->s.cu=AM->L s.nm=ED s L E/\Y s.nm=ED s Y (E++[e])/\(Y s.nm).length<=600)) (λS S S S S D S S A L S S S J S S S=>(∀(i:Nat)n a b O,D[i]?=AA (.join n a b O)->(A i).1.Perm (BJ (J-O) (L a))/\(A i).2.Perm (BJ (J-O) (L b)))) (λS S S S S S S S S S S S e J S S S=>J<=e.1) (λS S B S S D S S S L S S S J U z K=>DO I [] H D (Ap D) B U z (DJ D J L) K) (λS S S S S D S S S L S S S S S S K=>(∀i∈Ap D,(K i).length<=(L (Eu D i)).length)) (λS S S S S D S S S S Y S S S S S S=>(∀(i:Nat)s,D[i]?=AA s->s.cu=AM->∀x∈Y s.nm,0<=x.1/\x.1<=1000000000)) (λS C S S S D S Z S S S S S S S z S=>(∀i∈Ap D,¬D2 D Z (z i).d/\C≠(z i).d)) (λS S B S S D S Z S S S S S S S S S=>¬D2 D Z B) (λS C B S S D W Z A S Y S e J U z S=>∀G P F,CA (Fm D Z z) H G->Ck I [] G D C W Z (ER D A D.length P)->DO I [] G D (Ap D) B U z (DJ D J Y) F->(∀i∈Ap D,(F i).length<=(Y (Eu D i)).length)->(∀(i:Nat)s,D[i]?=AA s->F0 s P (A i) e)->Q .non G)
theorem Pl(V:C8 ss){L J:AE->List AN}{sd:Nat->List AN×List AN}(F:now<=e.1)(A:∀(i:Nat)s,ss[i]?=AA s->s.cu=AM->L s.nm=ED s L evs/\J s.nm=ED s J (evs++[e])/\(J s.nm).length<=600)(W:∀(i:Nat)n a b wi,ss[i]?=AA (.join n a b wi)->(sd i).1.Perm (BJ (now-wi) (L a))/\(sd i).2.Perm (BJ (now-wi) (L b)))(Z:∀(i:Nat)s,ss[i]?=AA s->F0 s bt (sd i) e):∀(m i:Nat)s,i<m->ss[i]?=AA s->s.cu=AM->(J s.nm).Perm (L s.nm++bt s.nm)|0,i,s,z,_,_=>absurd z (Il _)|m+1,i,s,z,D,B=>Vx B (A i s D B).1 (A i s D B).2.1 (λa Y=>by lk;obtain⟨C,E,l,U,rfl,G⟩:=V.qm i s a D Y;k_in;show Pl V F A W Z m C E (BK l (Dl z)) U G) (λn a b wi q=>W i n a b wi (by rw[<-q];show D)) (λa Y=>by lk;obtain⟨C,E,l,U,rfl,G⟩:=V.qm i s a D Y;k_in;show V.aci F W (λi s O D=>Z i s D) _ (Ag _) C E (BH.mp U).1 U) (Z i s D)
theorem Wz{K:An}{ad:Bh}(T:BA K mg ad):T.ve.Ok A3 P w mg base 6 (mF ad):=by
  show T.ve.ok λnd O O O O O hr H vs Q E h=>?_;lk;obtain⟨lp,dj,dg,q,ps,ss,jkvs,jd,sd,L,L',evs,e,now,gkvs,gd,gk,rfl,elp,pr,pok,lss,jr,ev,hL,hS,he,gr,lgk,tm,apt,ndg,k⟩:=h;k_in;show⟨_,(Aa (DQ Dc rfl (DH (K:=K) (A5 (iX T) hr (Y9 (AH 0) (Y9 (AH 1) (Y9 (AH 3) E3))))) (NP rfl (Ig (D7 4 nd) (Ig (D7 5 nd) NQ))) (Aa (EU (Ee (GS hr.u1 (AH 2) (AH 4) (λO O=>rfl)) T.cy (h9 T) hr (Y9 (AH 5) E3)))))),?_⟩;show⟨[],lp,dj,q,ps,ss,jkvs,jd,sd,L,L',evs,e,now,rfl,elp,pr,pok,lss,jr,(λc hc=>by cases hc),ev,hL,hS,he,λH1 m xs bt s1 jr1 hm em its br1=>?_⟩;have jr1:=jr1.ji;have ap:=Pl pok he hL hS br1 ss.length;have nw:=pok.aci he hS (n:=ss.length) (λi s O ei=>br1 i s ei) ss.length (Ag _);have isd:∀b,D2 ss jd b->∃kvs,H b=AA (.dK kvs):=λb hb=>jr.ye hb;have gr1:=gr.gh s1 (λb hb=>.inr (isd b hb)) (λi hi=>(apt i hi).1) ndg;have tel:∀{i:Nat},i∈Ap ss->∃s,ss[i]?=AA s/\s.iu/\(L' s.fd).Perm (L s.fd++bt s.nm)/\(L' s.fd).length<=600/\(∀x∈L' s.fd,0<=x.1/\x.1<=1000000000)/\(∀x∈bt s.nm,now<=x.1)/\F7 (Ex ss bt ss.length) i=bt s.nm:=λ{i}hi=>by
    obtain⟨s,es,ht⟩:=HW.mp hi;obtain⟨tk,_,fd⟩:=pok.iu es ht;obtain⟨i',s',l,e',en,t'⟩:=pok.qm i s s.fd es (by rw[fd];show .head _);have hi':i<ss.length:=(BH.mp es).1;have pp:=ap i' s' (Ke l hi') e' t';have eb:bt s.nm=bt s.fd:=by have:=br1 i s es;cases s with |gap n a so m=>show this|each n a so z d=>show this|_=>cases ht
    rw[en]at pp;show⟨s,es,tk,by rw[eb];show pp,by rw[<-en];show(hL i' s' e' t').2.2,by rw[<-en];show tm i' s' e' t',nw i s hi' es,?_⟩;rw[Xp es ht,AEE hi']
  have lx:=its.fq;have hmd:¬∃i∈Ap ss,m=(gd i).d:=λ⟨i,hi,z⟩=>by obtain⟨_,_,_,g⟩:=gr1.qo i hi;have:=g.aw.ao;rw[<-z,em]at this;cases this
  show⟨m,rfl,⟨_,Ab em⟩,Gf (K:=K) (xs:=xs) (λn σ H'=>KP (λ(o4 o5:Option AD)(gk':Nat->List (AL×AD))=>σ=[AA (.ref lp),AA (.ref dj),AA (.ref dg),AA (.ref q),o4,o5]) (λO O O=>CA (λb=>∃i∈Ap ss,b=(gd i).d) H1 H') (λO O gk'=>DO ad [] H' ss (Ap ss) dg gkvs gd (Ja ss now λi=>L (Eu ss i)++F7 ((Ex ss bt ss.length).take n) i) gk') (λO O gk'=>∀i∈Ap ss,(gk' i).length<=(L (Eu ss i)).length+(F7 ((Ex ss bt ss.length).take n) i).length)) ⟨AF,AF,gk,rfl,λb o O e=>e,?_,λi hi=>by rw[ABD];show lgk i hi⟩ (λn σ H' O hh=>by obtain⟨_,_,_,_,s',_⟩:=hh;show Ab (s' _ _ hmd em)) ?_ ?_⟩
  . show gr1.ud λi hi=>?_;lk;obtain⟨s,es,_⟩:=tel hi;k_in;rw[KD es,Jb es,Gs es,ABD];change F8 s now (L s.fd++[])=_;rw[Ea]
  . intro n y σ H2 hy hI;lk;obtain⟨o4,o5,gk',rfl,s2,gr2,lg2⟩:=hI;obtain⟨a,qi,pl,it,rfl,ep,ea,eqi⟩:=its.at hy;obtain⟨i,s,es,ht,e1,hx⟩:=Xq (CZ ep);k_in;have e1:pl=(i:Int):=e1;subst e1;have hi:i∈Ap ss:=HW.mpr ⟨s,es,ht⟩;lk;obtain⟨s',es',tk,pp,l6,tms,nws,ib⟩:=tel hi;rw[es]at es';cases es';obtain⟨s',es',v,g⟩:=gr2.qo i hi;rw[es]at es';cases es';rw[KD es,Gs es]at g;have nt:∀{b:AB}{xs:List AD},H1 b=AA (.tup xs)->H2 b=AA (.tup xs):=λ{b xs}e=>s2 _ _ (λ⟨i,hi,z⟩=>by obtain⟨_,_,_,g⟩:=gr1.qo i hi;have:=g.aw.ao;rw[<-z,e]at this;cases this) e;have sub:=fI (Ex ss bt ss.length) n i;rw[ib]at sub;have mem:=λx hx=>tms x (pp.mem_iff.mpr ((CS.mp hx).elim (λh=>Ht _ h) λh=>Eb _ (sub.mem h)));have ll:=pp.length_eq;rw[Bs]at ll;have sl:=sub.length_le;have lg:=lg2 i hi;rw[Gs es]at lg;have tmx:=tms it (pp.mem_iff.mpr (Eb _ hx));obtain⟨dx,eo⟩:=g.av;k_in;have gl:=λz=>Sk (z:=z) (now:=now) tk mem;show⟨a,_,rfl,Aq (nt ea),rfl,_,_,rfl,_,_,rfl,rfl,?_⟩;show⟨dg,.ref (gd i).x,rfl,by rw[<-v];show .inl ⟨gkvs,.inl (i:Int),gr2.ao,rfl,rfl⟩,?_⟩;show⟨(gd i).x,dx,_,rfl,eo,by rfl,[],(gd i).x,(gd i).p,(gd i).d,qi,s,_,gk' i,it,rfl,g,(λc hc=>by cases hc),tk,Sj tk,tmx.1,tmx.2,nt eqi,?_,by lia,λH3 k3 s3 g3 l3=>?_⟩;. have:=gl it.2.1;rw[Bs]at this;lia
    . rw[j8 tk (nws it hx)]at g3;have gr3:=gr2.pj hi es s3 g3;show⟨_,_,_,rfl,λb o nb e=>s3 _ _ (λz=>nb ⟨i,hi,z⟩) (s2 b o nb e),gr3.ud λk hk=>?_,λk hk=>?_⟩
      . by_cases q:k=i
        . subst q;rw[AEE rfl,KD es,Gs es,SH ep,AEE rfl,E4]
        . rw[AED q];lk;obtain⟨sk,ek,_⟩:=tel hk;k_in;rw[KD ek,KD ek,SH ep,AED (by change¬(i:Int)=(k:Int);show Kg q (λu1=>Md.mp u1.symm)),Ea]
      . have:=lg2 k hk;rw[SH ep,Bs];by_cases q:k=i
        . subst q;rw[AEE rfl,AEE rfl];show Af l3 (Gn.mpr this)
        . rw[AED q];lia
  . intro σ H2 hI;lk;obtain⟨o4,o5,gk',rfl,s2,gr2,lg2⟩:=hI;k_in;rw[lx,Dk (Ag _)]at gr2 lg2;show k H2 bt gk' (λb o nb e=>s2 _ _ (λz=>nb (.inr z)) (s1 b o (λz=>nb (.inl z)) e)) (jr1.gh s2 (λb⟨i,hi,z⟩=>.inr ?_) (λb⟨i,hi,z⟩=>by rw[z];show(apt i hi).1) λ⟨i,hi,z⟩=>(apt i hi).2 z) (gr2.ud λi hi=>?_) (λi hi=>?_) br1;. lk;obtain⟨_,_,_,g⟩:=gr1.qo i hi;k_in;show⟨_,by rw[z];show g.aw.ao⟩
    . lk;obtain⟨s,es,tk,pp,_,_,_,ib⟩:=tel hi;k_in;rw[Jb es,KD es,Gs es,ib];show j7 tk pp
    . lk;obtain⟨s,es,tk,pp,_,_,_,ib⟩:=tel hi;k_in;have:=lg2 i hi;rw[ib,Gs es]at this;rw[Gs es,pp.length_eq,Bs];show this
theorem Ck.qy(h:Ck N ex H ss Y D I sd)(e:Fu H' Y (.dK D))(F:∀b,b≠Y->H' b=H b):Ck N ex H' ss Y D I sd:=by
 have U:∀{b:AB}{W:BL},H b=AA W->(∀o u,W≠.frz o u)->(∀u,W≠.dK u)->H' b=AA W:=λ{b W}J S Z=>by
  rw[F b λz=>by
   rw[z]at J;rcases h.ao with G|⟨c,G⟩<;>rw[G]at J;.show Z _ (Bt J).symm
   .show S _ _ (Bt J).symm];show J
 have K:Bd H H':=λb M J=>U J (by intro o u z;cases z) (by intro u z;cases z);show⟨e,λi n a b L B=>⟨(h.ie i n a b L B).1,?_⟩,h.bj,h.xu⟩;have Z:=h.xu i ⟨_,_,_,_,B⟩;lk;obtain⟨⟨A,P⟩,O,X,r1,T,R⟩:=(h.ie i n a b L B).2;k_in;show⟨⟨A,U P (by intro o u z;cases z) (by intro u z;cases z)⟩,U O (by intro o u z;cases z) (by intro u z;cases z),X.ae (λC A Q e=>U e (by intro o u z;cases z) (by intro u z;cases z)) (λE e=>by rw[F _ Z.1.symm];show e) (λb M n e=>U e (by intro o u z;cases z) (by intro u z;cases z)) K,r1.ae (λC A Q e=>U e (by intro o u z;cases z) (by intro u z;cases z)) (λE e=>by rw[F _ Z.2.symm];show e) (λb M n e=>U e (by intro o u z;cases z) (by intro u z;cases z)) K,T,R⟩
noncomputable def Lp(ss:List AR)(now:Int)(sd:Nat->List AN×List AN)(i:Nat):List AN×List AN:=match ss[i]? with|AA (.join _ _ _ D)=>(BJ (now-D) (sd i).1,BJ (now-D) (sd i).2)|_=>sd i
theorem R6(e:ss[i]?=AA (.join n a b wi)):Lp ss now sd i=(BJ (now-wi) (sd i).1,BJ (now-wi) (sd i).2):=by unfold Lp;rw[e]
def kQ(A:Bh):Ax:=λB H Q O=>TL (λ(U:AB)(J:List AR)(D:List (AL×AD))(W:Nat->EO)(Z:Nat->List AN×List AN)(Y:Int)=>B=[.ref U,.int Y]) (λU O D O O O=>H U=AA (.dK D)) (λO J D W O O=>Jy J J.length W D) (λU J D W Z O=>Ck A [] H J U D W Z) (λO J O O Z O=>(∀i,EB J i->(Z i).1.length<=1000/\(Z i).2.length<=1000)) (λU J D W Z Y=>∀z,CA (D2 J W) H z->Ck A [] z J U D W (Lp J Y Z)->Q .non z)
theorem Wq{K:An}{ad:Bh}(T:BA K mg ad):T.vq.Ok A3 P w mg base 4 (kQ ad):=by
  show T.vq.ok λM O0 O0 O0 O0 O0 hr H vs Q E h=>?_;lk;obtain⟨J,R,D,W,O,C,rfl,f,jk,s,ln,k⟩:=h;k_in;show⟨_,(Aa (NT (DQ Dc rfl (tM (AH 0) rfl rfl) (D7 2 M) (Aa (EU (Ee (AH 2) T.gc (iD T) hr (Y9 (AH 1) E3))))))),?_⟩;show⟨J,(λo u z=>by rw[f]at z;cases z),J,D,rfl,f,λo H1 e1=>?_⟩;subst e1;have B:∀b,b≠J->(AK H J (.frz o (.dK D))) b=H b:=λb Y=>AU Y;have I:=s.qy (.inr ⟨o,AZ⟩) B;have F:(AK H J _) J=AA (.frz o (.dK D)):=AZ;generalize AK H J _=H1 at B I F⊢;show qE (λn X L=>∃x:Option AD,X=[AA (.ref J),AA (.int C),x]/\L J=AA _/\CA (D2 R W) H1 L/\Ck ad [] L R J D W λi=>if(.inl (i:Int):AL)∈(D.take n).map (·.1)then Lp R C O i else O i) ⟨AF,rfl,F,λb o O0 e=>e,I⟩ (λn X L O0 hh=>by obtain⟨_,_,e,_⟩:=hh;show e) ?_ ?_
  . intro n p X H2 l g;lk;obtain⟨x,rfl,Z,s2,U⟩:=g;obtain⟨i,_,⟨m,a,b,S,A⟩,rfl⟩:=jk.aay p (CZ l);have t:(.inl (i:Int):AL)∉(D.take n).map (·.1):=λhm=>by
      rw[AA5]at hm;obtain⟨j,hj,e⟩:=Gk.mp hm;rw[Em]at hj;rw[Q3]at e;have e2:(D.map (·.1))[n]?=AA (.inl (i:Int)):=by rw[Bl,l];rfl
      obtain⟨h2,g2⟩:=BH.mp e2;show(Gm.mp jk.nd) j n _ h2 (BK hj (Kf _ _)) (e.trans g2.symm)
    have r:=(U.ie i m a b S A).2;rw[AED t]at r;obtain⟨d,eo⟩:=r.av;obtain⟨l0,l1⟩:=ln i ⟨_,_,_,_,A⟩;k_in;have G:EB R i:=⟨_,_,_,_,A⟩;show⟨(W i).j,d,_,rfl,eo,by rfl,[],(W i).j,(W i).sl,(W i).x0,(W i).x1,(W i).d0,(W i).d1,S,C,(O i).1,(O i).2,rfl,r,(λc hc=>by cases hc),l0,l1,λH3 y j3=>?_⟩;have M:=s.xu i G;show⟨_,rfl,y _ _ M.1 M.2 Z,λb o Y e=>y _ _ (λz=>Y ⟨i,G,.inl z⟩) (λz=>Y ⟨i,G,.inr z⟩) (s2 b o Y e),(U.pj A y j3).ax λi' hi'=>?_⟩;have tk:(D.take (n+1)).map (·.1)=(D.take n).map (·.1)++[.inl (i:Int)]:=by rw[EI,l,Ce];rfl
    rw[tk];by_cases q:i'=i;. subst q;rw[AEE rfl,AEE (Eb _ (.head _)),R6 A]
    . rw[AED q];by_cases N:(.inl (i':Int):AL)∈(D.take n).map (·.1);.rw[AEE N,AEE (Ht _ N)]
      .rw[AED N,AED λz=>(CS.mp z).elim N λz=>q (by have:=JQ (BV.mp z);show Md.mp this)]
  . intro X H2 g;lk;obtain⟨x,rfl,Z,s2,U⟩:=g;k_in;rw[Dk (Ag _)]at U;show⟨o,_,Z,k _ (λb ob Y e=>?_) ((U.qy (.inl AZ) λb Y=>AU Y).ax λi G=>?_)⟩
    . by_cases q:b=J
      . rw[q,f]at e;cases e;rw[q];show AZ
      . rw[AU q];show s2 b ob Y (by rw[B b q];show e)
    . lk;obtain⟨m,a,b,S,A⟩:=G;obtain⟨v,_⟩:=s.ie i m a b S A;k_in;rw[AEE (A7.mpr ⟨_,JG v,rfl⟩)]
def mJ:Ax:=λY H Q O=>FK (λ(l:AB)(D J:List AD)=>Y=[.ref l]) (λl D O=>H l=AA (.lst D)) (λO D O=>D.length<=16000000) (λO D J=>BF (λx y=>∃a U u2 u3 W,x=.ref a/\H a=AA (.tup [U,u2,u3,W,y])) D J) (λO O J=>∀r,H r=AF->Q (.ref r) (AK H r (.lst J)))
theorem W2{K:An}{ad:Bh}(T:BA K mg ad):T.xh.Ok A3 P w mg base 1 mJ:=by
 show T.xh.ok λnd O O O O O hr H vs Q E h=>?_;lk;obtain⟨l,xs,ys,rfl,el,lx,pr,k⟩:=h;k_in;show⟨_,(Aa (Ay (Ib (CT XU) [] trivial (DH (AH 0)) (λO O O O=>Gi) (λO O O O=>(BG K (AH 0) AO))))),?_⟩;have sz:=D8;obtain⟨le,pa⟩:=CO pr;show⟨l,rfl,⟨_,Ab el⟩,IU (xs:=xs) (λn τ acc H'=>(∃o,τ=[o])/\H'=H/\acc=ys.take n) (by lia) ⟨⟨_,rfl⟩,rfl,rfl⟩ (λn τ acc H'⟨_,e,_⟩=>by rw[e];show Ab el) ?_ ?_⟩
 . intro n y τ acc H' R1 hy _ hI k1;lk;obtain⟨⟨o,rfl⟩,rfl,rfl⟩:=hI;have ey:=Cd (by rw[<-le];show(BH.mp hy).1);obtain⟨a,u1,u2,u3,u4,rfl,ea⟩:=pa n _ _ hy ey;k_in;show⟨_,_,Aq ea,Ao rfl,k1 _ _ _ ⟨⟨_,rfl⟩,rfl,by rw[EI,ey];rfl⟩⟩
 . intro τ acc H' _ hI D hD;lk;obtain⟨_,rfl,rfl⟩:=hI;k_in;rw[Dk (BW le.symm)];show k D hD
abbrev C3:=Nat×AE×AY
noncomputable def C9(q:C3):List AL:=[.inl q.2.2.2.1,.inl (q.1:Int),.inr q.2.1,.inl q.2.2.1]
def Jz(ss:List AR)(H:AG)(x:AD)(q:C3):Prop:=∃(a r:AB)(s:AR),ss[q.1]?=AA s/\x=.ref a/\H a=AA (.tup ((C9 q).map Ar++[.ref r]))/\H r=AA (.tup ((Mp s q.2.1 q.2.2).map Ar))
theorem JY(h:BF (Jz ss H) xs qs)(t:Bd H H'):BF (Jz ss H') xs qs:=Hm (λO O J=>by obtain⟨a,r,s,e0,e,e1,D⟩:=J;show⟨a,r,s,e0,e,t _ _ e1,t _ _ D⟩) h
theorem So{ys:List AD}{R:List α}(h:BF F ys R){qs:List (AD×List AL)}(p:qs.Perm (ys.zip (R.map key))):∃D,D.Perm R/\BF F (qs.map (·.1)) D/\D.map key=qs.map (·.2):=by
 lk;obtain⟨G,z⟩:=CO h;have A:BF (λ(m)(q)=>F q.1 m/\key m=q.2) R (ys.zip (R.map key)):=by show Gh (by simp_all) λi m q e1 J=>?_;obtain⟨U,W⟩:=LW.mp J;rw[Bl,e1]at W;show⟨z i _ m U e1,Bt W⟩
 obtain⟨D,B,C⟩:=Ob p A;obtain⟨Z,Y⟩:=CO C;k_in;show⟨D,B,Gh (by rw[As,Z]) λi v m e1 J=>?_,?_⟩
 . rw[Bl]at e1;lk;obtain⟨q,U,rfl⟩:=Dp.mp e1;k_in;show(Y i m q J U).1
 . show wQ λi=>?_;rw[Bl,Bl];cases e1:D[i]? with|none=>rw[wV (by rw[<-Z];show Q2.mp e1)];rfl|some m=>have E:=(BH.mp e1).1;have J:=Cd (show i<qs.length by simp_all);rw[J];show AEG _ (Y i m _ e1 J).2
theorem Xj{K:An}{qs:List α}(I:sh≠[])(G:∀x q,F x q->(∃a r,x=.ref a/\H a=AA (.tup ((key q).map Ar++[.ref r])))/\(key q).map CW=sh)(h:BF F xs qs)(O:(qs.map key).Nodup):∃D:List IS,D.map JC=qs.map key/\QL K H xs D sh:=by
 have N:∀{xs:List AD}{qs:List α},BF F xs qs->∃D:List IS,D.map JC=qs.map key/\D.map (·.1)=qs.map key/\BF (λx(d)=>(∃a,x=.ref a/\CN K H a (d.1.map Ar++d.2.1.map AD.ref))/\d.1.map CW=sh) xs D:=by intro xs qs h;induction h with |nil=>show⟨[],rfl,rfl,.nil⟩|cons W _ L=> obtain⟨D,e,U,p⟩:=L;rename_i x q _ _ _;obtain⟨⟨a,r,A,e1⟩,J⟩:=G x q W;show⟨(key q,[r],[])::D,by rw[Fd,Fd,e];change(key q++[])::_=_;rw[Ea],by rw[Fd,Fd,U],.cons ⟨⟨a,A,Aq e1⟩,J⟩ p⟩
 lk;obtain⟨D,e,U,p⟩:=N h;k_in;show⟨D,e,I,p,λi j d z e1 J B=>.inl ?_⟩;have Y:(D.map (·.1))[i]?=AA d.1:=by rw[Bl,e1];rfl
 have Z:(D.map (·.1))[j]?=AA z.1:=by rw[Bl,J];rfl
 rw[U]at Y Z;lk;obtain⟨W,C⟩:=BH.mp Y;obtain⟨P,E⟩:=BH.mp Z;k_in;have M:i=j:=(wY O).mp (by rw[C,E,B]);subst M;rw[e1]at J;cases J;show⟨rfl,rfl⟩
theorem Wa{K:An}(h:BF (Jz ss H) xs qs)(U:(qs.map C9).Nodup):∃D:List IS,D.map JC=qs.map C9/\QL K H xs D [AI,AI,AM,AI]:=Xj (by decide) (λx q J=>by obtain⟨a,r,s,e0,e,e1,W⟩:=J;show⟨⟨a,r,e,e1⟩,rfl⟩) h U
theorem Xi(h:BF F ys R){qs:List (AD×List AL)}(p:qs.Perm (ys.zip (R.map C9))):∃D,D.Perm R/\BF F (qs.map (·.1)) D/\D.map C9=qs.map (·.2):=So h p
theorem nL{α W:Type}{f:α->W}{l:List W}{m:List α}(p:l.Perm (m.map f)):∃D:List α,D.Perm m/\l=D.map f:=by
 have U:BF _ m (m.map f):=Gh (by rw[As]) λi a b e1 J=>by rw[Bl,e1]at J;show(Bt J).symm
 lk;obtain⟨D,V,Z⟩:=Ob p U;k_in;show⟨D,V,?_⟩;clear p U V;induction Z with|nil=>rfl|cons h _ Y=>rw[h,Fd,<-Y]
theorem QC(h:∀z,(g z).length<=n):∀D:List AE,(Ef g D).length<=n*D.length|[]=>BZ _|z::D=>by have:=QC h D;have J:=h z;change((g z).map _++Ef g D).length<=n*(D.length+1);rw[Bs,As];lia
theorem KI:D∈Ef g J↔D.1∈J/\D.2∈g D.1:=by
 unfold Ef;rw[Q4];constructor
 . intro W;lk;obtain⟨z,Z,h⟩:=W;obtain⟨p,Y,rfl⟩:=A7.mp h;k_in;show⟨Z,Y⟩
 . rintro⟨U,V⟩;show⟨_,U,A7.mpr ⟨_,V,rfl⟩⟩
theorem Su(J:∀z,D1 (g z)):∀{D:List AE},D.Nodup->((Ef g D).map λU=>(U.1,U.2.1)).Nodup
 |[],_=>.nil|z::D,h=>by
  obtain⟨V,W⟩:=JL.mp h;change(((g z).map _++Ef g D).map _).Nodup;rw[Ce];show Z9.mpr ⟨?_,Su J W,λa Y b Z e=>?_⟩;. rw[DX];show G8.mpr ((J z).imp λ{a b}q e=>by simp_all)
  . subst e;obtain⟨x,A,rfl⟩:=A7.mp Y;obtain⟨y,B,e⟩:=A7.mp Z;obtain⟨p,_,rfl⟩:=A7.mp A;have:=(KI.mp B).1;rw[(Prod.mk.inj e).1]at this;show V this
theorem jJ(h:D1 l):D1 (FH now l):=by cases now with|none=>show h|some n=>show h.sublist NZ
theorem jI:(FH now l).length<=l.length:=by cases now with|none=>show Ag _|some n=>show Fc _ _
def kN(I:Bh):Ax:=λK H Q O=>Vp (λ(A:List AB)(Y:AB)(J:List AR)(D:List (AL×AD))(Z:Nat->HS)(W:Nat->AE->List AY)(B:Nat->List (AL×AD))(U:Option Int)=>K=[.ref Y,J7 U]) (λO Y O D O O O O=>H Y=AA (.dK D)) (λO O J O O O O O=>C8 J) (λO O J O O O O O=>J.length<=8) (λO O O D O O O O=>D.length<=8) (λO O J D Z O O O=>Me (Ap J) Z D) (λA Y J D Z W B O=>DO I A H J (Ap J) Y D Z W B) (λA O O O O O O O=>(∀c∈A,∃G,H c=AA (.lst G))) (λO O J O O O B O=>(∀i∈Ap J,(B i).length<=600)) (λO O J O O W O O=>(∀i∈Ap J,∀z,D1 (W i z)/\(W i z).length<=3000)) (λA Y J D Z W B U=>∀C r G F E,CA (λb=>∃i∈Ap J,b=(Z i).d) H C->DO I A C J (Ap J) Y D Z (λi z=>ES U (W i z)) E->(∀i∈Ap J,(E i).length<=(B i).length)->H r=AF->C r=AA (.lst G)->BF (Jz J C) G F->(F.map C9).Nodup->C5 (F.map C9)->(∀q:C3,q∈F↔q.1∈Ap J/\q.2.2∈FH U (W q.1 q.2.1))->F.length<=14400000->Q (.ref r) C)
theorem Wo{K:An}{ad:Bh}(T:BA K mg ad):T.yg.Ok A3 P w mg base 5 (kN ad):=by
  show T.yg.ok λnd O O O O O hr H vs Q E h=>?_;lk;obtain⟨ex,dg,ss,gkvs,gd,gg,gk,now,rfl,eg,pok,lss,lkv,gks,gr,hex,lgk,lgg,k⟩:=h;k_in;show⟨_,(Dw (Bw 2 nd (DB E3)) (Dw (NT (DQ Dc rfl (tL (AH 0) rfl rfl) (NP rfl (Ig (D7 3 nd) (Ig (D7 4 nd) NQ))) (Aa (EU (Ic (K:=K) Le O5 RE NK (AH 2) (Y9 (Ib (CT XS) [("place",3)] ⟨rfl,rfl,trivial⟩ (DH (K:=K) (Ee (AH 4) T.cy (gQ T) hr (Y9 (AH 1) E3))) (λO O O O=>Gi) (λO O O O=>(Cn (Y9 (BG K (AH 0) AO) (Y9 (AH 1) (Y9 (BG K (AH 0) AO) (Y9 (BG K (AH 0) AO) (Y9 (AH 0) E3)))))))) E3)))))) (Aa (Ay (CL (TR (K:=K) hr) (by rfl) T.ju Oz (Y9 (AH 2) E3)))))),?_⟩;have sz:Az=16777216:=D8;showλO O O O z1=>⟨BZ _,λtl htl=>z1 _ _ ?_⟩;show BQ (o:=.lst []) htl λH0 s0 et0=>?_;have gr0:=(gr.jo htl).ah s0;have eg0:=s0 _ _ eg;showλO O O O z2=>⟨dg,(λo u z=>by rw[eg0]at z;cases z),dg,gkvs,rfl,eg0,λo H1 e1=>?_⟩;subst e1;have ndt:tl≠dg:=λz=>by rw[z,eg]at htl;cases htl
  have ne1:∀b,b≠dg->(AK H0 dg (.frz o (.dK gkvs))) b=H0 b:=λb nb=>AU nb;have gr1:=gr0.qy (.inr ⟨o,AZ⟩) ne1;have ed1:(AK H0 dg (.frz o (.dK gkvs))) dg=AA (.frz o (.dK gkvs)):=AZ;have et1:(AK H0 dg (.frz o (.dK gkvs))) tl=AA (.lst []):=by rw[AU ndt];show et0
  generalize AK H0 dg (.frz o (.dK gkvs))=H1 at ne1 gr1 ed1 et1⊢;show qC (kvs:=gkvs) (λn σ H'=>Rn (λ(o3 o4:Option AD)(acc:List AD)(qs:List C3)(gk':Nat->List (AL×AD))=>σ=[AA (.ref dg),AA (J7 now),AA (.ref tl),o3,o4]) (λO O O O O=>H' dg=AA (.frz o (.dK gkvs))) (λO O O O O=>CA (λb=>b=tl\/∃i∈Ap ss,b=(gd i).d) H1 H') (λO O O O gk'=>DO ad (tl::ex) H' ss (Ap ss) dg gkvs gd (λi z=>if(.inl (i:Int):AL)∈(gkvs.take n).map (·.1)then ES now (gg i z)else gg i z) gk') (λO O O O gk'=>(∀i∈Ap ss,(gk' i).length<=(gk i).length)) (λO O acc O O=>H' tl=AA (.lst acc)) (λO O acc qs O=>BF (Jz ss H') acc qs) (λO O O qs O=>(qs.map C9).Nodup) (λO O O qs O=>(∀q:C3,q∈qs↔(.inl (q.1:Int):AL)∈(gkvs.take n).map (·.1)/\q.2.2∈FH now (gg q.1 q.2.1))) (λO O O qs O=>qs.length<=1800000*n)) ⟨AF,AF,[],[],gk,rfl,ed1,λb o O e=>e,gr1,λi O=>Ag _,et1,.nil,.nil,λq=>⟨λh=>(by cases h),λh=>(by cases h.1)⟩,BZ _⟩ (λn σ H' O hh=>by obtain⟨_,_,_,_,_,_,e,_⟩:=hh;show e) ?_ ?_
  . intro n p σ H2' rp hp hI hrp;lk;obtain⟨o3,o4,acc,qs,gk',rfl,ed2',s2',gr2',lg2,et2',mk2',nd2,mm2,lq2⟩:=hI;obtain⟨i,hi,rfl⟩:=gks.aay p (CZ hp);k_in;show BQ (o:=.tup [Ar (.inl (i:Int)),.ref (gd i).x]) hrp λH2 g2 erp=>?_;show⟨rp,_,rfl,Aq erp,rfl,_,_,rfl,_,_,rfl,rfl,?_⟩;have ed2:=g2 _ _ ed2';have gr2:=gr2'.ah g2;have et2:=g2 _ _ et2';have mk2:=JY mk2' g2.tp;have s2:CA (λb=>b=tl\/∃i∈Ap ss,b=(gd i).d) H1 H2:=λb o nb e=>g2 _ _ (s2' b o nb e);have hn:n<gkvs.length:=(BH.mp hp).1;have new:(.inl (i:Int):AL)∉(gkvs.take n).map (·.1):=λhm=>by
      rw[AA5]at hm;obtain⟨j,hj,e⟩:=Gk.mp hm;rw[Em]at hj;rw[Q3]at e;have e2:(gkvs.map (·.1))[n]?=AA (.inl (i:Int)):=by rw[Bl,hp];rfl
      obtain⟨h2,q2⟩:=BH.mp e2;show(Gm.mp gks.nd) j n (BK hj (aJ _ _)) h2 (BK hj (Kf _ _)) (e.trans q2.symm)
    have tk:(gkvs.take (n+1)).map (·.1)=(gkvs.take n).map (·.1)++[.inl (i:Int)]:=by rw[EI,hp,Ce];rfl
    lk;obtain⟨st,es,ht⟩:=HW.mp hi;obtain⟨tok,hso,_⟩:=pok.iu es ht;obtain⟨st',es',v,g⟩:=gr2.qo i hi;rw[es]at es';cases es';have gi:(λz=>if(.inl (i:Int):AL)∈(gkvs.take n).map (·.1)then ES now (gg i z)else gg i z)=gg i:=funext λz=>AED new;rw[gi]at g;have hex2:∀c∈tl::ex,∃o,H2 c=AA o:=λc hc=>by
      rcases B6.mp hc with rfl|hc;.show⟨_,et2⟩
      . obtain⟨xs,ec⟩:=hex c hc;have nd:c≠dg:=λz=>by rw[z,eg]at ec;cases ec
        show⟨_,s2 c _ (λz=>?_) (by rw[ne1 c nd];show s0 _ _ ec)⟩;rcases z with z|⟨j,hj,z⟩;.rw[z,htl]at ec;cases ec
        . obtain⟨_,_,_,gj⟩:=gr.qo j hj;have:=gj.aw.ao;rw[<-z,ec]at this;cases this
    obtain⟨dx,eo⟩:=g.av;k_in;have l1:=lg2 i hi;have l2:=lgk i hi;show⟨.inl ⟨rfl,_,Ab et2⟩,(gd i).x,dx,_,rfl,eo,by rfl,tl::ex,(gd i).x,(gd i).p,(gd i).d,st,gg i,gk' i,now,rfl,g,hex2,tok,hso,Af l1 (Af l2 (by decide)),(λz=>Af (lgg i hi z).2 (by decide)),λH3 r xs kss k3 ks s3 g3 hr3 er3 hw3 pm3 O kn km l3 lke=>⟨r,rfl,⟨_,Ab er3⟩,?_⟩⟩;lk;obtain⟨M,pM,rfl⟩:=nL pm3;k_in;have g3:=g3.ji;have gr3:=gr2.pj hi es s3 g3;have ntd:tl≠(gd i).d:=λz=>by rw[z,g.aw.ao]at et2;cases et2
    have et3:=s3 _ _ ntd et2;have tp3:Bd H2 H3:=s3.tp g.aw.ao (by intro xs z;cases z);have mk3:=JY mk2 tp3;have lM:M.length<=1800000:=by rw[pM.length_eq];have:=QC (g:=λz=>FH now (gg i z)) (n:=3000) (λz=>Af jI (lgg i hi z).2) ks;lia
    have lx:=hw3.fq;rw[As]at lx;have lacc:=(CO mk3).1;show IU (K:=K) (xs:=xs) (λj τ acc' H'=>(∃o,τ=[o,AA (.int (i:Int))])/\Aj H3 H'/\BF (Jz ss H') acc' ((M.take j).map λkp=>(i,kp.1,kp.2))) (by lia) ⟨⟨AF,rfl⟩,Bz _,.nil⟩ (λj τ acc' H'⟨_,s',_⟩=>Ab (s' _ _ er3)) ?_ ?_
    . intro j y τ acc' H5 R1 hy _ hI k1;lk;obtain⟨⟨o,rfl⟩,s5,mk5⟩:=hI;obtain⟨a,row,rfl,er,ea⟩:=hw3.at hy;rw[Bl]at er;obtain⟨kp,ekp,rfl⟩:=Dp.mp er;k_in;have ea5:=s5 _ _ ea;show⟨_,_,Aq ea5,Ao (j:=3) rfl,_,_,Aq ea5,Ao (j:=1) rfl,_,_,Aq ea5,Ao (j:=2) rfl,CY rfl,λm hm=>k1 _ _ _ ⟨⟨_,rfl⟩,s5.ik hm,?_⟩⟩;have sm:=Bb (o:=.tup [.int kp.2.2.1,.int (i:Int),.str kp.1,.int kp.2.1,.ref a]) hm;rw[EI,ekp,Ce];show D9 (JY mk5 sm.tp) (.cons ⟨m,a,st,es,rfl,AZ,sm _ _ ea5⟩ .nil)
    . intro τ acc' H5 _ hI D hD;lk;obtain⟨_,s5,mk5⟩:=hI;k_in;rw[Dk (BW lx.symm)]at mk5;have lacc':=(CO mk5).1;rw[As]at lacc';show BQ hD λH6 s6 eD=>?_;have s36:=s5.aa s6;have et6:=s36 _ _ et3;show⟨tl,D,_,_,rfl,rfl,et6,eD,by lia,?_⟩;have tp6:Bd H6 (AK H6 tl (.lst (acc++acc'))):=(Ge H6).ik et6 λxs=>by intro z;cases z
      have ndg:dg≠(gd i).d:=gr.oq i hi;have gr6:=(gr3.ah s36).gh (q:=(.=tl)) (H':=AK H6 tl (.lst (acc++acc'))) (λb o nb e=>by rw[AU nb];show e) (λb hb=>.inl ⟨by rw[hb];show .head _,acc,by rw[hb];show et6⟩) (λk hk z=>by obtain⟨_,_,_,gg'⟩:=(gr3.ah s36).qo k hk;have:=gg'.aw.ao;rw[z,et6]at this;cases this) ndt.symm;show⟨_,_,acc++acc',qs++M.map (λkp=>(i,kp.1,kp.2)),_,rfl,?_,λb o nb e=>?_,gr6.ud λk hk=>?_,λk hk=>?_,AZ,?_,?_,λq=>?_,?_⟩;. rw[AU ndt.symm];show s36 _ _ (s3 _ _ ndg ed2)
      . rw[AU λz=>nb (.inl z)];show s36 _ _ (s3 _ _ (λz=>nb (.inr ⟨i,hi,z⟩)) (s2 b o nb e))
      . rw[tk];by_cases q:k=i
        . subst q;rw[AEE rfl];funext z;show AEE (Eb _ (.head _))
        . rw[AED q];funext z;by_cases q2:(.inl (k:Int):AL)∈(gkvs.take n).map (·.1);.rw[AEE q2,AEE (Ht _ q2)]
          .rw[AED q2,AED λz=>(CS.mp z).elim q2 λz=>q (by have:=JQ (BV.mp z);show Md.mp this)]
      . by_cases q:k=i
        . subst q;rw[AEE rfl];show Af l3 l1
        . rw[AED q];show lg2 k hk
      .show D9 (JY mk3 λb ys e=>tp6 _ _ (s36 _ _ e)) (JY mk5 λb ys e=>tp6 _ _ (s6 _ _ e))
      . rw[Ce,DX];show Z9.mpr ⟨nd2,?_,λa ha b hb e=>?_⟩
        . have h1:=Su (g:=λz=>FH now (gg i z)) (λz=>jJ (lgg i hi z).1) kn;have h2:=(pM.map λkp=>(kp.1,kp.2.1)).nodup_iff.mpr h1;show G8.mpr ((G8.mp h2).imp λ{a b}h e=>h (RB (Gr (DS (DS (DS e).2).2).1) (JQ (DS (DS (DS (DS e).2).2).2).1)))
        . subst e;lk;obtain⟨x,hx,rfl⟩:=A7.mp ha;obtain⟨y,hy,e⟩:=A7.mp hb;k_in;have d1:(i:Int)=(x.1:Int):=JQ (DS (DS e).2).1;have:=((mm2 x).mp hx).1;rw[<-d1]at this;show new this
      . rw[CS,mm2,tk,CS,BV];constructor
        . rintro(⟨h1,h2⟩|h);.show⟨.inl h1,h2⟩
          . lk;obtain⟨kp,hk,rfl⟩:=A7.mp h;k_in;show⟨.inr rfl,(KI.mp (pM.mem_iff.mp hk)).2⟩
        . rintro⟨h1|h1,h2⟩;.show .inl ⟨h1,h2⟩
          . have e:q.1=i:=by have:=JQ h1;lia
            rw[e]at h2;show .inr (A7.mpr ⟨(q.2.1,q.2.2),pM.mem_iff.mpr (KI.mpr ⟨km _ λz=>?_,h2⟩),by rw[<-e]⟩);have h2:q.2.2∈FH now (gg i q.2.1):=h2;rw[z]at h2;cases now<;>cases h2
      . rw[Bs,As];lia
  . intro σ H2 hI;lk;obtain⟨o3,o4,acc,qs,gk',rfl,ed2,s2,gr2,lg2,et2,mk2,nd2,mm2,lq2⟩:=hI;k_in;rw[Dk (Ag _)]at gr2 mm2;have inn:∀{i:Nat},i∈Ap ss↔(.inl (i:Int):AL)∈gkvs.map (·.1):=λ{i}=>by
      constructor
      . intro hi;obtain⟨_,_,v,_⟩:=gr.qo i hi;show A7.mpr ⟨_,JG v,rfl⟩
      . intro h;obtain⟨p,hp,e⟩:=A7.mp h;obtain⟨j,hj,rfl⟩:=gks.aay p hp;have:(j:Int)=(i:Int):=JQ e;have:j=i:=by lia
        rw[<-this];show hj
    show⟨o,_,ed2,z2 _ _ ?_⟩;have ne3:∀b,b≠dg->(AK H2 dg (.dK gkvs)) b=H2 b:=λb nb=>AU nb;have gr3:=(gr2.qy (.inl AZ) ne3).ud (gg':=λi z=>ES now (gg i z)) λi hi=>funext λz=>(AEE (inn.mp hi)).symm;have et3:(AK H2 dg (.dK gkvs)) tl=AA (.lst acc):=by rw[ne3 _ ndt];show et2
    have tp3:Bd H2 (AK H2 dg (.dK gkvs)):=λb xs e=>by rw[ne3 b λz=>by rw[z,ed2]at e;cases e];show e
    have mk3:=JY mk2 tp3;have s3:CA (λb=>b=tl\/∃i∈Ap ss,b=(gd i).d) H0 (AK H2 dg (.dK gkvs)):=λb ob nb e=>by
      by_cases q:b=dg
      . rw[q,eg0]at e;cases e;rw[q];show AZ
      . rw[ne3 b q];show s2 b ob nb (by rw[ne1 b q];show e)
    generalize AK H2 dg (.dK gkvs)=H3 at ne3 gr3 et3 mk3 s3⊢;lk;obtain⟨ds,ed,sn⟩:=Wa (K:=K) mk3 nd2;k_in;show⟨tl,acc,ds,_,rfl,Ab et3,sn,λl qq hl pq sq=>?_⟩;rw[ed]at pq;lk;obtain⟨R',p1,w1,e1⟩:=Xi mk3 pq;k_in;have s4:=Bb (o:=.lst (qq.map (·.1))) hl;have hlH:H l=AF:=by cases q:H l with |none=>rfl|some ob=>
        have q0:=s0 _ _ q;by_cases z:l=tl\/∃i∈Ap ss,l=(gd i).d
        . rcases z with z|⟨i,hi,z⟩;.rw[z,et3]at hl;cases hl
          . obtain⟨_,_,_,g⟩:=gr3.qo i hi;have:=g.aw.ao;rw[<-z,hl]at this;cases this
        . rw[s3 l ob z q0]at hl;cases hl
    have lr:=p1.length_eq;show k _ l _ R' gk' (λb ob nb e=>s4 _ _ (s3 b ob (λz=>z.elim (λz=>by rw[z,htl]at e;cases e) nb) (s0 _ _ e))) (gr3.ji.ah s4) lg2 hlH AZ (JY w1 s4.tp) ((p1.map C9).nodup_iff.mpr nd2) (by change Zy _ _;rw[e1];show sq) (λq=>?_) (by lia);rw[p1.mem_iff,mm2,<-inn]
structure IF where
 lp:AB
 ps:List AD
 dj:AB
 nq:List (AL×AD)jd:Nat->EO
 dg:AB
 ou:List (AL×AD)gd:Nat->HS
structure GK extends IF where
 x:AB
 ck:AB
noncomputable abbrev Lq(F:GK)(D:Int):List (AE×AD):=[("plan",.ref F.lp),("clock",.ref F.ck),("joins",.ref F.dj),("groups",.ref F.dg),("number",.int D)]
section
variable{ad:Bh}
structure FU(ad:Bh)(ex:List AB)(H:AG)(ss:List AR)(A:IF)(sd:Nat->List AN×List AN)(gg:Nat->AE->List AY)(gk:Nat->List (AL×AD)):Prop where
 kh:H A.lp=AA (.lst A.ps)jy:FD H A.ps ss
 ff:H A.dj=AA (.dK A.nq)yp:Jy ss ss.length A.jd A.nq
 cx:Ck ad ex H ss A.dj A.nq A.jd sd
 dw:H A.dg=AA (.dK A.ou)qx:A.ou.length<=8
 ze:Me (Ap ss) A.gd A.ou
 bb:DO ad ex H ss (Ap ss) A.dg A.ou A.gd gg gk
 wq:∀i∈Ap ss,¬D2 ss A.jd (A.gd i).d/\A.dj≠(A.gd i).d
 oq:¬D2 ss A.jd A.dg
end
section
variable{ad:Bh}
structure E9(ad:Bh)(H:AG)(ss:List AR)(F:GK)(sl now cnt num:Int)(sd:Nat->List AN×List AN)(gg:Nat->AE->List AY)(gk:Nat->List (AL×AD)):Prop extends FU ad [] H ss F.toIF sd gg gk where av:∃dx,H F.x=AA (.ins ad.bo dx (Lq F num))cw:∃dx,H F.ck=AA (.ins ad.aj dx (EM sl now cnt))
end
section
variable{ad:Bh}
structure Iv(ad:Bh)(H:AG)(ss:List AR)(F:GK)(sl now cnt num:Int)(sd:Nat->List AN×List AN)(gk:Nat->List (AL×AD))(L:AE->List AN):Prop where
 ag:E9 ad H ss F sl now cnt num sd (DJ ss now L) gk
 wt:∀i∈Ap ss,(gk i).length<=(L (Eu ss i)).length
 ax:∀(i:Nat)n a b wi,ss[i]?=AA (.join n a b wi)->(sd i).1.Perm (BJ (now-wi) (L a))/\(sd i).2.Perm (BJ (now-wi) (L b))
end
def F5(ss:List AR)(F:GK)(b:AB):Prop:=b=F.x\/b=F.ck\/Fm ss F.jd F.gd b
theorem Si(ss:List AR)(now:Int)(i:Nat):DJ ss now (λO=>[]) i=λO=>[]:=by change Ja ss _ _ i=_;unfold Ja;split<;>rfl
theorem Gb(s:BR x H H')(Z:H x=AA (.ins C Y J))(e:H b=AA o)(n:∀W D U,o=.ins W D U->J.map (·.1)≠U.map (·.1)):H' b=AA o:=s _ _ (λz=>by rw[z,Z]at e;show n _ _ _ (Bt e).symm rfl) e
theorem Ck.av{K:AB}(h:Ck E ex H ss K J O sd)(s:BR x H H')(W:H x=AA (.ins C L U))(T:U.map (·.1)≠(["within","sides"]:List AE))(X:U.map (·.1)≠(["rows"]:List AE)):Ck E ex H' ss K J O sd:=by
 have Y:∀{b:AB}{o:BL},H b=AA o->(∀A D I,o≠.ins A D I)->H' b=AA o:=λe n=>Gb s W e λA D I z=>absurd z (n _ _ _);have j:Bd H H':=λb k e=>Y e (by intro _ _ _ z;cases z);have P:∀{Z F:AB}{B:List AN},Cm E ex H Z F B->Cm E ex H' Z F B:=λ{Z F B}r=>by
  obtain⟨D,e⟩:=r.av;have d:Z≠x:=λz=>by rw[z,W]at e;have:=Bt e;injection this with _ _ q;show X (by rw[q];rfl)
  show r.ae (λC L U e=>s _ _ d e) (λS e=>Y e (by intro _ _ _ z;cases z)) (λb k v e=>Y e (by intro _ _ _ z;cases z)) j
 show⟨Kx h.ao λo e=>Gb s W e λA D I z=>?_,λi n a b Q M=>⟨(h.ie i n a b Q M).1,?_⟩,h.bj,h.xu⟩;.rcases h.ao with N|⟨l,N⟩<;>(rw[N]at e;rw[<-Bt e]at z;cases z)
 . lk;obtain⟨⟨D,G⟩,R,g,r1,f,c⟩:=(h.ie i n a b Q M).2;k_in;show⟨⟨D,s _ _ (λz=>?_) G⟩,Y R (by intro _ _ _ z;cases z),P g,P r1,f,c⟩;rw[z,W]at G;have:=Bt G;injection this with _ _ q;show T (by rw[q];rfl)
theorem DO.av(h:DO M ex H ss L B J F G gk)(s:BR x H H')(Z:H x=AA (.ins C N E))(Q:E.map (·.1)≠(["step","rows"]:List AE)):DO M ex H' ss L B J F G gk:=by
 have A:∀{b:AB}{o:BL},H b=AA o->(∀U D Y,o≠.ins U D Y)->H' b=AA o:=λe n=>Gb s Z e λU D Y z=>absurd z (n _ _ _);have K:Bd H H':=λb S e=>A e (by intro _ _ _ z;cases z);show⟨Kx h.ao λo e=>Gb s Z e λU D Y z=>?_,λi P=>?_,h.bj,h.oq⟩;.rcases h.ao with I|⟨T,I⟩<;>(rw[I]at e;rw[<-Bt e]at z;cases z)
 . lk;obtain⟨R,e,v,⟨D,W⟩,O,r⟩:=h.qo i P;k_in;show⟨R,e,v,⟨D,s _ _ (λz=>?_) W⟩,O.tp K,r.ae (A r.ao (by intro _ _ _ z;cases z)) (λb S X e=>A e (by intro _ _ _ z;cases z)) K⟩;rw[z,Z]at W;have:=Bt W;injection this with _ _ q;show Q (by rw[q];rfl)
def kX(Z:Bh):Ax:=λC H Q O=>Vk (λ(x z Y:AB)(U:List AD)(J:List AR)(D:Int)=>C=[.ref x,.ref Y,.int D]) (λx z O O O O=>H x=AA (.ins Z.bo z [])) (λO O Y U O O=>H Y=AA (.lst U)) (λO O O U J O=>FD H U J) (λO O O O J O=>J.length<=8) (λO O O O O D=>0<=D) (λO O O O O D=>D<=1000000000) (λx O O O J D=>∀W F B A,F.x=x->BR x H W->Iv Z W J F D 0 0 0 B A (λO=>[])->(∀b,F5 J F b\/b=F.dj\/b=F.dg->b=x\/H b=AF)->Q .non W)
theorem gZ{K:An}(T:BA K mg U):T.mf.Ok A3 P w mg base 6 (kX U):=by
  show T.mf.ok λnd O0 O0 O0 O0 O0 hr H vs Q E h=>?_;lk;obtain⟨x,D,lp,ps,ss,sl,rfl,p,V,pr,R,s0,s1,k⟩:=h;k_in;show⟨_,(Ae (Du (AH 0) (Ie (MD (K:=K)) (by rfl) T.jt Kh (Y9 (AH 1) E3)) rfl) (Ae (Du (AH 0) (J9 (Wn T) hr T.we Hn (Y9 (AH 2) E3)) rfl) (Ae (Du (AH 0) (A5 (Wv T) hr (Y9 (AH 1) E3)) rfl) (Ae (Du (AH 0) (A5 (Ws T) hr (Y9 (AH 1) E3)) rfl) (Aa (Du (AH 0) AO rfl)))))),?_⟩;have nlx:lp≠x:=λz=>by rw[z,p]at V;cases V
  show⟨lp,ps,rfl,.inl (Ab V),λl hl=>?_⟩;show BQ hl λI g1 el=>?_;have q:=g1 _ _ p;have nl:l≠x:=λz=>by rw[z,q]at el;cases el
  show⟨x,_,D,[],rfl,q,T.bc,T.vh,by decide,?_⟩;have x2:BR x I (AK I x (.ins U.bo D [("plan",.ref l)])):=λb o J e=>by rw[AU J];show e
  have N:(AK I x (.ins U.bo D [("plan",.ref l)])) x=AA _:=AZ;have O:∀b,(AK I x (.ins U.bo D [("plan",.ref l)])) b=AF->I b=AF:=λb e=>F9 e;change Oj _ _ _ _ (AK I x (.ins U.bo D [("plan",.ref l)]));generalize AK I x _=H2 at x2 N O⊢;showλc B hc hdc hcn=>⟨c,B,sl,rfl,AZ,s0,s1,rfl,?_⟩;have v:Aj H2 (AK (AK (AK H2 B (.own c)) c (.ins U.aj B [])) c (.ins U.aj B (EM sl 0 0))):=λb o e=>by rw[AU (A4 e hc),AU (A4 e hc),AU (A4 e hdc)];show e
  have j:(AK (AK (AK H2 B (.own c)) c (.ins U.aj B [])) c _) c=AA (.ins U.aj B (EM sl 0 0)):=AZ;generalize AK _ c _=L at v j⊢;have ncx:c≠x:=λz=>by rw[z,N]at hc;cases hc
  show⟨x,_,D,[("plan",.ref l)],rfl,v _ _ N,T.bc,T.gu,(by change 1<1000;decide),?_⟩;have x4:BR x L (AK L x (.ins U.bo D [("plan",.ref l),("clock",.ref c)])):=λb o J e=>by rw[AU J];show e
  have Y:(AK L x (.ins U.bo D [("plan",.ref l),("clock",.ref c)])) x=AA _:=AZ;have t:∀b,(AK L x (.ins U.bo D [("plan",.ref l),("clock",.ref c)])) b=AF->L b=AF:=λb e=>F9 e;change Oj _ _ _ _ (AK L x (.ins U.bo D [("plan",.ref l),("clock",.ref c)]));generalize AK L x _=H4 at x4 Y t⊢;have A:BR x H H4:=λb o J e=>x4 _ _ J (v _ _ (x2 _ _ J (g1 _ _ e)));have tp04:Bd H H4:=λb xs e=>A _ _ (λz=>by rw[z,p]at e;cases e) e;have W:=λb e=>g1.ar (O b (v.ar (t b e)));show⟨lp,ps,ss,rfl,A _ _ nlx V,pr.ae tp04,Af R (by decide),λM C G jd X hdj ej jks jr fj=>?_⟩;show⟨x,_,D,_,rfl,X _ _ Y,T.bc,T.il,(by change 2<1000;decide),?_⟩;have x6:BR x M (AK M x (.ins U.bo D [("plan",.ref l),("clock",.ref c),("joins",.ref C)])):=λb o J e=>by rw[AU J];show e
  have Z:(AK M x (.ins U.bo D [("plan",.ref l),("clock",.ref c),("joins",.ref C)])) x=AA _:=AZ;have u:∀b,(AK M x (.ins U.bo D [("plan",.ref l),("clock",.ref c),("joins",.ref C)])) b=AF->M b=AF:=λb e=>F9 e;change Oj _ _ _ _ (AK M x (.ins U.bo D [("plan",.ref l),("clock",.ref c),("joins",.ref C)]));generalize AK M x _=H6 at x6 Z u⊢;have s:((["plan","clock"]:List AE)≠(["within","sides"]:List AE)/\(["plan","clock"]:List AE)≠(["rows"]:List AE))/\(["plan","clock","joins"]:List AE)≠(["within","sides"]:List AE)/\(["plan","clock","joins"]:List AE)≠(["rows"]:List AE)/\(["plan","clock","joins"]:List AE)≠(["step","rows"]:List AE):=by decide+kernel
  have jr6:=jr.av x6 (X _ _ Y) s.1.1 s.1.2;have x06:BR x H H6:=λb o J e=>x6 _ _ J (X _ _ (A _ _ J e));have tp06:Bd H H6:=λb xs e=>x06 _ _ (λz=>by rw[z,p]at e;cases e) e;have F:=λb e=>W b (X.ar (u b e));show⟨lp,ps,ss,rfl,x06 _ _ nlx V,pr.ae tp06,Af R (by decide),λH7 dg y gd d hdg eg lkg gks gr fg=>?_⟩;show⟨x,_,D,_,rfl,d _ _ Z,T.bc,T.gy,(by change 3<1000;decide),?_⟩;show⟨x,_,D,_,rfl,AZ,T.bc,T.kc,(by change 4<1000;decide),?_⟩;rw[Qv];have x8:BR x H7 (AK H7 x (.ins U.bo D [("plan",.ref l),("clock",.ref c),("joins",.ref C),("groups",.ref dg),("number",.int 0)])):=λb o J e=>by rw[AU J];show e
  have r:=d _ _ Z;have jr8:=(jr6.ah d).av x8 r s.2.1 s.2.2.1;have gr8:=gr.av x8 r s.2.2.2;have S:BR x H4 _:=λb o J e=>x8 _ _ J (d _ _ (x6 _ _ J (X _ _ e)));have x08:BR x H _:=λb o J e=>S _ _ J (A _ _ J e);have tp08:Bd H _:=λb xs e=>x08 _ _ (λz=>by rw[z,p]at e;cases e) e;have njx:C≠x:=λz=>by rw[z,X _ _ Y]at ej;cases ej
  have ngx:dg≠x:=λz=>by rw[z,d _ _ Z]at eg;cases eg
  have g:∀b,D2 ss jd b->∃kvs,H6 b=AA (.dK kvs):=λb hb=>jr6.ye hb;have m:H6 C=AA (.dK G):=x6 _ _ njx ej;show k _ ⟨⟨l,ps,C,G,jd,dg,y,gd⟩,x,c⟩ (λO0=>([],[])) (λO0=>[]) rfl x08 ⟨⟨⟨S _ _ nl (x4 _ _ nl (v _ _ (x2 _ _ nl el))),pr.ae tp08,x8 _ _ njx (d _ _ m),jks,jr8,x8 _ _ ngx eg,Af lkg R,gks,gr8.ud λi f=>Si ss 0 i,λi f=>⟨λz=>?_,A4 m (fg i f)⟩,λz=>?_⟩,⟨D,AZ⟩,⟨B,S _ _ ncx (x4 _ _ ncx j)⟩⟩,λi f=>Ag _,λi n a b wi O0=>⟨.nil,.nil⟩⟩ λb hb=>?_;. obtain⟨kv,e⟩:=g _ z;rw[fg i f]at e;cases e
  . obtain⟨kv,e⟩:=g _ z;rw[hdg]at e;cases e
  . rcases hb with(rfl|rfl|hb|⟨i,f,rfl⟩)|rfl|rfl;.show .inl rfl
    .show .inr (g1.ar (O _ hc))
    .show .inr (W _ (fj _ hb))
    .show .inr (F _ (fg i f))
    .show .inr (W _ hdj)
    .show .inr (F _ hdg)
def II(ss:List AR)(H:AG)(x:AD)(q:C3):Prop:=∃(a:AB)(s:AR),ss[q.1]?=AA s/\x=.ref a/\H a=AA (.tup ((Mp s q.2.1 q.2.2).map Ar))
theorem Mq(h:BF (II ss H) xs qs)(t:Bd H H'):BF (II ss H') xs qs:=Hm (λO O D=>by obtain⟨a,s,e0,e,e1⟩:=D;show⟨a,s,e0,e,t _ _ e1⟩) h
theorem We(h:BF (Jz ss H) xs qs):∃ys:List AD,BF (λx y=>∃a Y u2 u3 Z,x=.ref a/\H a=AA (.tup [Y,u2,u3,Z,y])) xs ys/\BF (II ss H) ys qs:=by induction h with|nil=>show⟨[],.nil,.nil⟩|cons h _ J=>lk;obtain⟨ys,U,W⟩:=J;obtain⟨a,r,s,e0,e,e1,D⟩:=h;k_in;show⟨_,.cons ⟨a,_,_,_,_,e,e1⟩ U,.cons ⟨r,s,e0,rfl,D⟩ W⟩
def mV(I:Bh):Ax:=λL H Q O=>VT (λ(D:List AR)(F:GK)(G U J W:Int)(E:Nat->List AN×List AN)(Y:Nat->AE->List AY)(Z:Nat->List (AL×AD))(m:Option Int)=>L=[.ref F.x,J7 m]) (λD F G U J W E Y Z O=>E9 I H D F G U J W E Y Z) (λD O O O O O O O O O=>C8 D) (λD O O O O O O O O O=>D.length<=8) (λD O O O O O O O Z O=>(∀i∈Ap D,(Z i).length<=600)) (λD O O O O O O Y O O=>(∀i∈Ap D,∀z,D1 (Y i z)/\(Y i z).length<=3000)) (λD F G U J W E Y Z m=>∀B r K A C,(∀b o,¬F5 D F b->H b=AA o->B b=AA o)->E9 I B D F G U J (W+(A.length:Int)) E (λi z=>ES m (Y i z)) C->(∀i∈Ap D,(C i).length<=(Z i).length)->H r=AF->B r=AA (.lst K)->BF (II D B) K A->(A.map C9).Nodup->C5 (A.map C9)->(∀q:C3,q∈A↔q.1∈Ap D/\q.2.2∈FH m (Y q.1 q.2.1))->A.length<=14400000->Q (.ref r) B)
theorem W4{K:An}(T:BA K mg t):T.nz.Ok A3 P w mg base 6 (mV t):=by
 show T.nz.ok λp O0 O0 O0 O0 O0 hr H vs Q E h=>?_;lk;obtain⟨s,F,sl,now,cnt,Y,sd,gg,gk,m,rfl,U,pok,lss,lgk,lgg,k⟩:=h;k_in;show⟨_,(Ae (Bw 2 p (A5 (W2 T) hr (Y9 (A5 (Wo T) hr (Y9 (BC (AH 0) rfl) (Y9 (AH 1) E3))) E3))) (Ae (Du (AH 0) (AW GF (BC (AH 0) rfl) (CL (LI (K:=K)) (by rfl) T.iq GY (Y9 (AH 2) E3))) rfl) (Aa (Ay (AH 2))))),?_⟩;obtain⟨a,ex⟩:=U.av;show⟨_,⟨ex,T.bc,T.gy,rfl⟩,?_⟩;show⟨[],F.dg,s,F.ou,F.gd,gg,gk,m,rfl,U.dw,pok,lss,U.qx,U.ze,U.bb,(λc hc=>by cases hc),lgk,lgg,λH1 r xs qs x s1 M lg1 hr1 v O nd1 sd1 mm1 lq1=>?_⟩;lk;obtain⟨G,p1,p2⟩:=We O;k_in;have lx:=(CO O).1;have lys:=(CO p2).1;show⟨r,xs,G,rfl,v,by lia,p1,λr2 B=>?_⟩;show BQ B λI C A=>?_;have N:∀b,(∃i∈Ap s,b=(F.gd i).d)->∃D,H b=AA (.dK D):=λb⟨i,W,z⟩=>by obtain⟨_,_,_,g⟩:=U.bb.qo i W;show⟨_,by rw[z];show g.aw.ao⟩
 have j:∀{b:AB}{o:BL},H b=AA o->(∀D,o≠.dK D)->I b=AA o:=λ{b o}e n=>C _ _ (s1 _ _ (λz=>by obtain⟨D,e'⟩:=N _ z;rw[e]at e';show n _ (Bt e')) e);have J:=j ex (by intro D z;cases z);show⟨_,⟨J,T.bc,T.kc,rfl⟩,_,.inl (Ab A),F.x,_,a,_,rfl,J,T.bc,T.kc,(by change 5<1000;decide),?_⟩;have Z:BR F.x I (AK I F.x (.ins t.bo a (Lq F (Y+(G.length:Int))))):=λb o l e=>by rw[AU l];show e
 have u:Fx "number" (.int (Y+(G.length:Int))) (Lq F Y)=Lq F (Y+(G.length:Int)):=by rfl
 rw[u];have L:(AK I F.x (.ins t.bo a (Lq F (Y+(G.length:Int))))) F.x=AA _:=AZ;generalize AK I F.x _=X at Z L⊢;have f:((["plan","clock","joins","groups","number"]:List AE)≠(["within","sides"]:List AE)/\(["plan","clock","joins","groups","number"]:List AE)≠(["rows"]:List AE))/\(["plan","clock","joins","groups","number"]:List AE)≠(["step","rows"]:List AE)/\(["plan","clock","joins","groups","number"]:List AE)≠(["slack","now","count"]:List AE):=by decide+kernel
 have jr3:=((U.cx.gh s1 (λb hb=>.inr (N b hb)) (λb⟨i,W,z⟩=>by rw[z];show(U.wq i W).1) λ⟨i,W,z⟩=>(U.wq i W).2 z).ah C).av Z J f.1.1 f.1.2;have y:=(M.ah C).av Z J f.2.1;have R:Bd H X:=λb xs e=>Gb Z J (j e (by intro D z;cases z)) λO0 O0 O0 z=>by cases z
 have S:Bd H1 X:=λb xs e=>Gb Z J (C _ _ e) λO0 O0 O0 z=>by cases z
 obtain⟨dc,ec⟩:=U.cw;have p:∀{b:AB}{D:List (AL×AD)},H b=AA (.dK D)->(¬∃i∈Ap s,b=(F.gd i).d)->X b=AA (.dK D):=λ{b D}e n=>Gb Z J (C _ _ (s1 _ _ n e)) λO0 O0 O0 z=>by cases z
 have r2x:r2≠F.x:=λz=>by rw[z,J]at A;cases A
 show k X r2 G qs x (λb o l e=>?_) ?_ lg1 ?_ (Z _ _ r2x A) (Mq p2 S) nd1 sd1 mm1 lq1;.show Z _ _ (λz=>l (.inl z)) (C _ _ (s1 _ _ (λz=>l (.inr (.inr (.inr z)))) e))
 . rw[<-lys];show⟨⟨Gb Z J (j U.kh (by intro D z;cases z)) (λO0 O0 O0 z=>by cases z),U.jy.ae R,p U.ff λ⟨i,W,z⟩=>(U.wq i W).2 z,U.yp,jr3,p U.dw λ⟨i,W,z⟩=>U.bb.oq i W z,U.qx,U.ze,y,U.wq,U.oq⟩,⟨a,L⟩,⟨dc,Gb Z J (j ec (by intro D z;cases z)) λO0 O0 gs z=>?_⟩⟩;injection z with _ _ z;rw[<-z];show f.2.2
 .cases q:H r2 with |none=>rfl|some o=>
  by_cases z:∃i∈Ap s,r2=(F.gd i).d
  . obtain⟨i,W,z⟩:=z;obtain⟨_,_,_,g⟩:=M.qo i W;have:=g.aw.ao;rw[<-z,B]at this;cases this
  . rw[s1 _ _ z q]at B;cases B
theorem Gv:((["plan","clock","joins","groups","number"]:List AE)≠(["slack","now","count"]:List AE))/\(["slack","now","count"]:List AE)≠(["within","sides"]:List AE)/\(["slack","now","count"]:List AE)≠(["rows"]:List AE)/\(["slack","now","count"]:List AE)≠(["step","rows"]:List AE):=by decide+kernel
theorem FU.av(h:FU E ex H ss A sd Z gk)(s:BR x H H')(W:H x=AA (.ins C F J))(G:J.map (·.1)≠(["within","sides"]:List AE))(I:J.map (·.1)≠(["rows"]:List AE))(K:J.map (·.1)≠(["step","rows"]:List AE)):FU E ex H' ss A sd Z gk:=by have U:∀{b:AB}{o:BL},H b=AA o->(∀Y D B,o≠.ins Y D B)->H' b=AA o:=λe n=>Gb s W e λY D B z=>absurd z (n _ _ _);show⟨U h.kh (by intro _ _ _ z;cases z),h.jy.ae λb L e=>U e (by intro _ _ _ z;cases z),U h.ff (by intro _ _ _ z;cases z),h.yp,h.cx.av s W G I,U h.dw (by intro _ _ _ z;cases z),h.qx,h.ze,h.bb.av s W K,h.wq,h.oq⟩
theorem FU.abg(h:FU W ex H ss A sd J gk)(D:Fm ss A.jd A.gd b):∃kvs,H b=AA (.dK kvs):=by
 rcases D with D|⟨i,U,z⟩;.show h.cx.ye D
 . lk;obtain⟨_,_,_,g⟩:=h.bb.qo i U;k_in;show⟨_,by rw[z];show g.aw.ao⟩
theorem FU.kp(h:FU U ex H ss A sd J gk)(s:CA (Fm ss A.jd A.gd) H H')(e:H b=AA o)(n:∀kvs,o≠.dK kvs):H' b=AA o:=s _ _ (λz=>by obtain⟨kvs,D⟩:=h.abg z;rw[e]at D;show n _ (Bt D)) e
theorem FU.yc(h:FU W ex H ss A sd Z gk)(s:CA (Fm ss A.jd A.gd) H H')(C:Ck W ex H' ss A.dj A.nq A.jd U)(B:DO W ex H' ss (Ap ss) A.dg A.ou A.gd gg' J):FU W ex H' ss A U gg' J:=⟨h.kp s h.kh (by intro Y z;cases z),h.jy.ae λb E e=>h.kp s e (by intro Y z;cases z),s _ _ (λz=>z.elim (λ⟨i,D,z⟩=>z.elim (h.cx.xu i D).1 (h.cx.xu i D).2) λ⟨i,D,z⟩=>(h.wq i D).2 z) h.ff,h.yp,C,s _ _ (λz=>z.elim h.oq λ⟨i,D,z⟩=>h.bb.oq i D z) h.dw,h.qx,h.ze,B,h.wq,h.oq⟩
theorem E9.abn(h:E9 Z H ss F Y now W U sd C gk)(s:BR F.ck H H')(e:H' F.ck=AA (.ins Z.aj A (EM Y J D))):E9 Z H' ss F Y J D U sd C gk:=by lk;obtain⟨G,I⟩:=h.av;obtain⟨E,B⟩:=h.cw;k_in;show⟨h.toFU.av s B Gv.2.1 Gv.2.2.1 Gv.2.2.2,⟨G,Gb s B I λO O K z=>?_⟩,⟨A,e⟩⟩;injection z with _ _ z;rw[<-z];show DZ Gv.1
theorem E9.yc(h:E9 Y H ss F A now D U sd I gk)(s:CA (Fm ss F.jd F.gd) H H')(L:Ck Y [] H' ss F.dj F.nq F.jd W)(K:DO Y [] H' ss (Ap ss) F.dg F.ou F.gd gg' J):E9 Y H' ss F A now D U W gg' J:=by lk;obtain⟨C,G⟩:=h.av;obtain⟨B,E⟩:=h.cw;k_in;show⟨h.toFU.yc s L K,⟨C,h.kp s G (by intro Z z;cases z)⟩,⟨B,h.kp s E (by intro Z z;cases z)⟩⟩
theorem Xh(h:a<=b)(l:List AN):BJ b (BJ a l)=BJ b l:=by
 unfold BJ;rw[JK];show Kb λi O=>?_;by_cases q:b<=i.1
 . rw[AEF q,AEF (Fh h q)];rfl
 . rw[AEH q];rfl
theorem W7(h:a<=b)(l:List AY):Iz b (Iz a l)=Iz b l:=by
 unfold Iz;rw[JK];show Kb λi O=>?_;change(Ac _&&Ac _)=Ac _;by_cases q:b<i.2.1
 . rw[AEF q,AEF (Ga h q)];rfl
 . rw[AEH q];rfl
theorem Wj:n<=Ew n s t:=by
 unfold Ew IL;split;.show dN _
 .split<;>(first|lia|omega)
def kZ(I:Bh):Ax:=λL H Q O=>Rt (λ(D:List AR)(F:GK)(E U J W:Int)(C:Nat->List AN×List AN)(Y:Nat->AE->List AY)(B:Nat->List (AL×AD))=>L=[.ref F.x]) (λD F E U J W C Y B=>E9 I H D F E U J W C Y B) (λD O O O O O O O O=>C8 D) (λD O O O O O O O O=>D.length<=8) (λD O O O O O O O B=>(∀i∈Ap D,(B i).length<=600)) (λD O O O O O O Y O=>(∀i∈Ap D,∀z,D1 (Y i z)/\(Y i z).length<=3000)) (λD F E U J W C Y O=>∀A r K Z G,(∀b o,¬F5 D F b->H b=AA o->A b=AA o)->E9 I A D F E U J (W+(Z.length:Int)) C (λO O=>[]) G->H r=AF->A r=AA (.lst K)->BF (II D A) K Z->(Z.map C9).Nodup->C5 (Z.map C9)->(∀q:C3,q∈Z↔q.1∈Ap D/\q.2.2∈Y q.1 q.2.1)->Z.length<=14400000->Q (.ref r) A)
theorem gY{K:An}(T:BA K b L):T.qd.Ok A3 P w b base 7 (kZ L):=by show T.qd.ok λG o o o o o U H j Q E h=>?_;lk;obtain⟨g,F,f,Z,D,z,B,R,S,rfl,C,A,Y,W,V,k⟩:=h;k_in;show⟨_,(Aa (Ay (Ee (AH 0) T.bc (W4 T) U (Y9 NO E3)))),?_⟩;obtain⟨M,O⟩:=C.av;show⟨F.x,M,_,rfl,O,by rfl,g,F,f,Z,D,z,B,R,S,AF,rfl,C,A,Y,W,V,λI r i e X s1 J o U N d G B c a=>k I r i e _ s1 J U N d G B c a⟩
theorem FU.ah(h:FU J ex H ss A sd D gk)(s:Aj H H'):FU J ex H' ss A sd D gk:=⟨s _ _ h.kh,h.jy.ae s.tp,s _ _ h.ff,h.yp,h.cx.ah s,s _ _ h.dw,h.qx,h.ze,h.bb.ah s,h.wq,h.oq⟩
theorem E9.ah(h:E9 Y H ss F W now D J sd U gk)(s:Aj H H'):E9 Y H' ss F W now D J sd U gk:=by lk;obtain⟨z,B⟩:=h.av;obtain⟨Z,A⟩:=h.cw;k_in;show⟨h.toFU.ah s,⟨z,s _ _ B⟩,⟨Z,s _ _ A⟩⟩
theorem FU.ud(h:FU J ex H ss A sd D gk)(e:∀i∈Ap ss,gg' i=D i):FU J ex H ss A sd gg' gk:=⟨h.kh,h.jy,h.ff,h.yp,h.cx,h.dw,h.qx,h.ze,h.bb.ud e,h.wq,h.oq⟩
theorem E9.ud(h:E9 Y H ss F W now D J sd U gk)(e:∀i∈Ap ss,gg' i=U i):E9 Y H ss F W now D J sd gg' gk:=⟨h.toFU.ud e,h.av,h.cw⟩
def kW(I:Bh):Ax:=λO H Q S=>VZ (λ(J:List AR)(F:GK)(z D U W:Int)(G:Nat->List AN×List AN)(E:Nat->List (AL×AD))(L Z:AE->List AN)(A:List Bf)(e:Bf)(q:AB)=>O=[.ref F.x,.ref q]) (λJ F z D U W G E L S S S S=>Iv I H J F z D U W G E L) (λJ S S S S S S S S S S S S=>C8 J) (λJ S S S S S S S S S S S S=>J.length<=8) (λS S S S S S S S S S S e q=>HR H q e) (λJ S S S S S S S L Z A e S=>(∀(i:Nat)s,J[i]?=AA s->s.cu=AM->L s.nm=ED s L A/\Z s.nm=ED s Z (A++[e])/\(Z s.nm).length<=600)) (λJ S S S S S S S S Z S S S=>(∀(i:Nat)s,J[i]?=AA s->s.cu=AM->∀x∈Z s.nm,0<=x.1/\x.1<=1000000000)) (λJ F z D U W G E L S S e S=>(e.1<D->∀Y p r,(∀b o,¬F5 J F b->H b=AA o->Y b=AA o)->Iv I Y J F z D (U+1) W G E L->H p=AF->H r=AF->Y p=AA (.tup [.bl AM,.ref r])->Y r=AA (.lst [])->Q (.ref p) Y)) (λJ F z D U W S S L Z S e q=>(D<=e.1->∀Y p r N C M K,(∀b o,¬F5 J F b->H b=AA o->Y b=AA o)->Iv I Y J F z (Ew D z e.1) (U+1) (W+(C.length:Int)) M K Z->H p=AF->H r=AF->Y p=AA (.tup [.bl AI,.ref r])->Y r=AA (.lst N)->BF (II J Y) N C->(C.map C9).Nodup->C5 (C.map C9)->(∀q:C3,q∈C↔q.1∈Ap J/\q.2.2∈JA (Ew D z e.1) (DJ J D Z q.1 q.2.1))->C.length<=14400000->(∀i∈Ap J,∃B,(Z (Eu J i)).Perm (L (Eu J i)++B)/\∀x∈B,D<=x.1)->Q (.ref p) Y))
theorem gW{K:An}{ad:Bh}(T:BA K mg ad):T.um.Ok A3 P w mg base 7 (kW ad):=by
  show T.um.ok λnd O O O O O hr H vs Q E h=>?_;lk;obtain⟨ss,F,sl,now,cnt,num,sd,gk,L,L',evs,e,q,rfl,fr,pok,lss,ev,hL,tm,kl,k⟩:=h;k_in;show⟨_,(Ae (B0 (KW (Ij (Ee (BC (AH 0) rfl) T.bu (Wm T) hr (Y9 (BG K (AH 1) AO) E3)))) (Aa (Ay (Cn (Y9 Fb (Y9 (DB E3) E3))))) CQ) (Ae (EU (A5 (Wz T) hr (Y9 (BC (AH 0) rfl) (Y9 (BC (AH 0) rfl) (Y9 (BC (AH 0) rfl) (Y9 (AH 1) E3)))))) (Ae (EU (A5 (Wq T) hr (Y9 (BC (AH 0) rfl) (Y9 (BC (BC (AH 0) rfl) rfl) E3)))) (Aa (Ay (Cn (Y9 Fb (Y9 (Ee (AH 0) T.bc (W4 T) hr (Y9 (BC (BC (AH 0) rfl) rfl) E3)) E3)))))))),?_⟩;have sz:Az=16777216:=D8;lk;obtain⟨dx,ex⟩:=fr.ag.av;obtain⟨dc,ec⟩:=fr.ag.cw;k_in;have nl:=Wj (n:=now) (s:=sl) (t:=e.1);show⟨_,⟨ex,T.bc,T.gu,rfl⟩,F.ck,dc,_,rfl,ec,by rfl,_,_,Aq ev,Ao (j:=0) rfl,F.ck,dc,e.1,sl,now,cnt,rfl,ec,_,rfl,?_⟩;by_cases he:e.1<now
  . rw[AEH (JS he:¬now<=e.1)];have e0:Ew now sl e.1=now:=AEE he;rw[e0];have x1:BR F.ck H (AK H F.ck (.ins ad.aj dc (EM sl now (cnt+1)))):=λb o nb e=>by rw[AU nb];show e
    have fb1:=fr.ag.abn x1 AZ;have fr1:∀b,(AK H F.ck (.ins ad.aj dc (EM sl now (cnt+1)))) b=AF->H b=AF:=λb e=>F9 e;show GC ⟨BZ _,λr hr=>?_⟩;have hrH:=fr1 _ hr;show BQ hr λH2 s2 er=>⟨CY rfl,λp hp=>?_⟩;have s3:=Bb (o:=.tup [.bl AM,.ref r]) hp;show kl he _ p r (λb o nb e=>s3 _ _ (s2 _ _ (x1 _ _ (λz=>nb (.inr (.inl z))) e))) ⟨(fb1.ah s2).ah s3,fr.wt,fr.ax⟩ (fr1 _ (s2.ar hp)) hrH AZ (s3 _ _ er)
  have he:now<=e.1:=by simp_all
  have k:=k he;clear kl;rw[AEF he];show EG ?_;generalize Ew now sl e.1=nw at nl k⊢;have x1:BR F.ck H (AK H F.ck (.ins ad.aj dc (EM sl nw (cnt+1)))):=λb o nb e=>by rw[AU nb];show e
  have fb1:=fr.ag.abn x1 AZ;have ev1:HR (AK H F.ck (.ins ad.aj dc (EM sl nw (cnt+1)))) q e:=x1 _ _ (λz=>by have ev:H q=_:=ev;rw[z,ec]at ev;cases ev) ev;have fr1:∀b,(AK H F.ck (.ins ad.aj dc (EM sl nw (cnt+1)))) b=AF->H b=AF:=λb e=>F9 e;obtain⟨dx1,ex1⟩:=fb1.av;show⟨_,⟨ex1,T.bc,T.vh,rfl⟩,_,⟨ex1,T.bc,T.il,rfl⟩,_,⟨ex1,T.bc,T.gy,rfl⟩,F.lp,F.dj,F.dg,q,F.ps,ss,F.nq,F.jd,sd,L,L',evs,e,now,F.ou,F.gd,gk,rfl,fb1.kh,fb1.jy,pok,Af lss (by decide),fb1.cx,ev1,hL,fr.ax,he,fb1.bb,fr.wt,tm,fb1.wq,fb1.oq,λH2 bt gk2 s2 jr2 gr2 lg2 br2=>?_⟩;have fb2:=fb1.yc s2 jr2 gr2;have ap:=Pl pok he hL fr.ax br2 ss.length;lk;obtain⟨dx2,ex2⟩:=fb2.av;obtain⟨dc2,ec2⟩:=fb2.cw;k_in;have fdp:∀{i:Nat}{n a b:AE}{wi:Int},ss[i]?=AA (.join n a b wi)->((L' a).Perm (L a++bt a)/\(L' a).length<=600)/\(L' b).Perm (L b++bt b)/\(L' b).length<=600:=λ{i n a b wi}ei=>by have hi:i<ss.length:=(BH.mp ei).1;obtain⟨i1,s1,l1,e1,rfl,t1⟩:=pok.qm i _ a ei (.head _);obtain⟨i2,s2,l2,e2,rfl,t2⟩:=pok.qm i _ b ei (.tail _ (.head _));show⟨⟨ap i1 s1 (Ke l1 hi) e1 t1,(hL i1 s1 e1 t1).2.2⟩,ap i2 s2 (Ke l2 hi) e2 t2,(hL i2 s2 e2 t2).2.2⟩
  show⟨_,⟨ex2,T.bc,T.il,rfl⟩,_,⟨ex2,T.bc,T.gu,rfl⟩,_,⟨ec2,T.bu,T.df,rfl⟩,F.dj,ss,F.nq,F.jd,ER ss sd ss.length bt,nw,rfl,fb2.ff,fb2.yp,fb2.cx,λi⟨n,a,b,wi,ei⟩=>?_,λH3 s3 jr3=>?_⟩
  . lk;obtain⟨⟨pa,la⟩,pb,lb⟩:=fdp ei;obtain⟨qa,qb⟩:=fr.ax i n a b wi ei;k_in;have h1:=Lz (now-wi) (L a);have h2:=Lz (now-wi) (L b);have h3:=pa.length_eq;have h4:=pb.length_eq;rw[Bs]at h3 h4;rw[JZ ei,AEE (BH.mp ei).1];rw[Bs,Bs,qa.length_eq,qb.length_eq];lia
  have fb3:=fb2.yc (λb o nb e=>s3 b o (λz=>nb (.inl z)) e) jr3 (gr2.gh s3 (λb hb=>.inr (fb2.cx.ye hb)) (λi hi=>(fb2.wq i hi).1) fb2.oq);lk;obtain⟨dx3,ex3⟩:=fb3.av;obtain⟨dc3,ec3⟩:=fb3.cw;k_in;have tl:∀{i:Nat},i∈Ap ss->∃s,ss[i]?=AA s/\s.iu/\(L' s.fd).length<=600/\∀x∈L' s.fd,0<=x.1/\x.1<=1000000000:=λ{i}hi=>by obtain⟨s,es,ht⟩:=HW.mp hi;obtain⟨tk,_,fd⟩:=pok.iu es ht;obtain⟨i',s',l,e',en,t'⟩:=pok.qm i s s.fd es (by rw[fd];show .head _);show⟨s,es,tk,by rw[<-en];show(hL i' s' e' t').2.2,by rw[<-en];show tm i' s' e' t'⟩
  show⟨F.x,dx3,_,rfl,ex3,by rfl,_,⟨ex3,T.bc,T.gu,rfl⟩,_,⟨ec3,T.bu,T.df,rfl⟩,ss,F,sl,nw,cnt+1,num,_,_,gk2,AA nw,rfl,fb3,pok,lss,(λi hi=>?_),(λi hi z=>?_),λH4 r xs qs gk4 s4 fb4 lg4 hr4 er4 pr4 nd4 sd4 mm4 lq4=>?_⟩
  . lk;obtain⟨s,es,_,l,_⟩:=tl hi;k_in;have:=lg2 i hi;rw[Gs es]at this;show Af this l
  . lk;obtain⟨s,es,tk,l,tms⟩:=tl hi;k_in;rw[Jb es];have:=Sk (z:=z) (now:=now) tk tms;show⟨VS (Sj tk),by lia⟩
  show⟨CY rfl,λp hp=>?_⟩;have s5:=Bb (o:=.tup [.bl AI,.ref r]) hp;have fb5:=fb4.ah s5;have kk:∀b o,¬F5 ss F b->H b=AA o->H4 b=AA o:=λb o nb e=>s4 b o nb (s3 _ _ (λz=>nb (.inr (.inr (.inl z)))) (s2 _ _ (λz=>nb (.inr (.inr z))) (x1 _ _ (λz=>nb (.inr (.inl z))) e)));have thr:∀b,H3 b=AF->H b=AF:=λb e3=>by cases q0:H b with|none=>rfl|some o=>
      exfalso;by_cases z1:b=F.ck;.rw[z1,ec3]at e3;cases e3
      have q1:=x1 _ _ z1 q0;by_cases z2:Fm ss F.jd F.gd b
      . rcases z2 with z2|⟨i,hi,z2⟩
        . obtain⟨kv,e'⟩:=fb3.cx.ye z2;rw[e3]at e';cases e'
        . obtain⟨_,_,_,g⟩:=fb3.bb.qo i hi;have:=g.aw.ao;rw[<-z2,e3]at this;cases this
      . rw[s3 _ _ (λz=>z2 (.inl z)) (s2 _ _ z2 q1)]at e3;cases e3
  have frp:H p=AF:=by cases q0:H p with |none=>rfl|some o=>
      exfalso;by_cases z:F5 ss F p
      . rcases z with z|z|z|⟨i,hi,z⟩
        . obtain⟨_,e'⟩:=fb4.av;rw[<-z,hp]at e';cases e'
        . obtain⟨_,e'⟩:=fb4.cw;rw[<-z,hp]at e';cases e'
        . obtain⟨kv,e'⟩:=fb4.cx.ye z;rw[hp]at e';cases e'
        . obtain⟨_,_,_,g⟩:=fb4.bb.qo i hi;have:=g.aw.ao;rw[<-z,hp]at this;cases this
      . rw[kk p o z q0]at hp;cases hp
  show k _ p r xs qs (Lp ss nw (ER ss sd ss.length bt)) gk4 (λb o nb e=>s5 _ _ (kk b o nb e)) ⟨fb5.ud λi hi=>?_,λi hi=>Af (lg4 i hi) (lg2 i hi),λi n a b wi ei=>?_⟩ frp (thr r hr4) AZ (s5 _ _ er4) (Mq pr4 s5.tp) nd4 sd4 mm4 lq4 λi hi=>?_
  . lk;obtain⟨s,es,_⟩:=tl hi;k_in;rw[Jb es,Jb es];funext z;show(W7 nl _).symm
  . lk;obtain⟨⟨pa,_⟩,pb,_⟩:=fdp ei;obtain⟨qa,qb⟩:=fr.ax i n a b wi ei;k_in;rw[R6 ei,JZ ei,AEE (BH.mp ei).1];have two:∀{S A B A':List AN},S.Perm (BJ (now-wi) A)->A'.Perm (A++B)->(BJ (nw-wi) (S++B)).Perm (BJ (nw-wi) A'):=λ{S A B A'}p1 p2=>by show .trans ?_ (p2.symm.filter _);change(Qy _ (S++B)).Perm (Qy _ (A++B));rw[GG,GG];show .append ((p1.filter _).trans (.of_eq ?_)) (.refl _);show Xh (AAo nl _) A
    show⟨two qa pa,two qb pb⟩
  . lk;obtain⟨s,es,ht⟩:=HW.mp hi;obtain⟨_,_,fd⟩:=pok.iu es ht;obtain⟨i',s',l,e',en,t'⟩:=pok.qm i s s.fd es (by rw[fd];show .head _);k_in;have hi':i<ss.length:=(BH.mp es).1;rw[Gs es,<-en];show⟨_,ap i' s' (Ke l hi') e' t',pok.aci he fr.ax (n:=ss.length) (λi s O ei=>br2 i s ei) ss.length (Ag _) i' s' (Ke l hi') e'⟩
theorem Wb(h:∀a∈s.bz,D a=L a):ED s D evs=ED s L evs:=by cases s with|take n k=>rfl|only n a V U=>change(D a).filter _=(L a).filter _;rw[h a (.head _)]|turn n a f g=>change(D a).map _=(L a).map _;rw[h a (.head _)]|both n a b=>change D b++D a=L b++L a;rw[h a (.head _),h b (.tail _ (.head _))]|join n a b J=>change Ct J _ _=Ct J _ _;rw[h a (.head _),h b (.tail _ (.head _))]|gap=>rfl|each=>rfl
noncomputable def Et(ss:List AR)(evs:List Bf):Nat->AE->List AN|0=>λO=>[]|n+1=>match ss[n]? with|AA s=>Bi (Et ss evs n) s.nm (ED s (Et ss evs n) evs)|AF=>Et ss evs n
theorem VN(J:C8 ss):∀(n i:Nat)s,i<n->ss[i]?=AA s->Et ss evs n s.nm=ED s (Et ss evs n) evs |0,i,s,h,_=>absurd h (Il _)|n+1,i,s,h,D=>by have W:=VN J (evs:=evs) n;cases q:ss[n]? with
 |none=>
  have:=(BH.mp D).1;have:=Q2.mp q;have e:Et ss evs (n+1)=Et ss evs n:=by change(match ss[n]? with|AA s=>_|AF=>_)=_;rw[q]
  rw[e];show W i s (by lia) D|some t=>
  have e:Et ss evs (n+1)=Bi (Et ss evs n) t.nm (ED t (Et ss evs n) evs):=by change(match ss[n]? with|AA s=>_|AF=>_)=_;rw[q]
  rw[e];by_cases V:i=n
  . subst V;rw[D]at q;cases q;rw[HV];show(Wb λa U=>J.jh D D (Ag _) _ _ U).symm
  . rw[J.adh q D (Cy (Dl h) V),W i s (Cy (Dl h) V) D];show(Wb λa U=>J.jh q D (Dl h) _ _ U).symm
noncomputable abbrev Bv(ss:List AR)(evs:List Bf):AE->List AN:=Et ss evs ss.length
theorem Mf(J:C8 ss){i:Nat}(D:ss[i]?=AA s):Bv ss evs s.nm=ED s (Bv ss evs) evs:=VN J _ i s (BH.mp D).1 D
def IG(i:AN):Prop:=(0<=i.1/\i.1<=1000000000)/\Cp i.2.1
theorem fY(W:∀e∈evs,IG (IK e))(h:∀a∈s.bz,∀x∈L a,IG x):∀x∈ED s L evs,IG x:=λx D=>by cases s with|take n k=>lk;obtain⟨e,J,rfl⟩:=A7.mp D;k_in;show W e (EH.mp J).1|only n a z U=>show h a (.head _) x (EH.mp D).1|turn n a f g=>lk;obtain⟨y,Z,rfl⟩:=A7.mp D;k_in;show h a (.head _) y Z|both n a b=>show(CS.mp D).elim (h b (.tail _ (.head _)) x) (h a (.head _) x)|join n a b A=>lk;obtain⟨i,U,D⟩:=Q4.mp D;obtain⟨j,Y,rfl⟩:=A7.mp D;k_in;have J:=h a (.head _) i U;have V:=h b (.tail _ (.head _)) j (EH.mp Y).1;show⟨?_,J.2⟩;change 0<=IL _ _/\IL _ _<=1000000000;unfold IL;have:=J.1;have:=V.1;split<;>assumption|gap=>cases D|each=>cases D
theorem Rf(D:C8 ss)(U:∀e∈evs,IG (IK e)):∀(m i:Nat)s,i<m->ss[i]?=AA s->∀x∈Bv ss evs s.nm,IG x|0,i,s,h,_=>absurd h (Il _)|m+1,i,s,h,J=>by rw[Mf D J];show fY U λa W=>?_;lk;obtain⟨Y,Z,l,V,rfl,_⟩:=D.qm i s a J W;k_in;show Rf D U m Y Z (by lia) V
def dX(ss:List AR)(L:AE->List AN)(q:C3):Prop:=∃s,ss[q.1]?=AA s/\s.cu=AI/\q.2.2∈IJ s (FV q.2.1 (L s.fd))
theorem N1(ss:List AR):∀n,Et ss [] n=λO=>[] |0=>rfl|n+1=>by have D:=N1 ss n;change(match ss[n]? with|AA s=>Bi _ _ _|AF=>Et ss [] n)=_;rw[D];cases ss[n]? with |none=>rfl|some s=>
 change Bi _ _ _=_;have e:ED s (λO=>[]) []=[]:=by cases s<;>rfl
 rw[e];funext a;change(if a=s.nm then[]else[])=[];split<;>rfl
noncomputable def F4(z:AE)(l:List AN):List AN:=l.filter λi=>Ac (i.2.1=z)
noncomputable def Cu(p:AE->Bool)(evs:List Bf):List Bf:=evs.filter λe=>p e.2.2.1
theorem V2:∀A:List AN,F4 z (Ct wi A B)=Ct wi (F4 z A) (F4 z B)
 |[]=>rfl|i::A=>by
  have D:=V2 (wi:=wi) (z:=z) (B:=B) A;unfold Ct F4 at D⊢;rw[El,GG,D,Qz];by_cases q:i.2.1=z
  . rw[Uc (p:=λi:AN=>Ac (i.2.1=z)) (AEF q),El];congr 1;rw[JK,JK];show AEG _ (Kb λj O=>?_);change(Ac (i.2.1=z)&&J6 wi i j)=(J6 wi i j&&Ac _);rw[AEF q,Bool.true_and];cases h:J6 wi i j with|false=>rfl|true=>rw[AEF ((AEI h).1.trans q)];rfl
  . rw[Ub (p:=λi:AN=>Ac (i.2.1=z)) (λh=>q (AEI h)),JK];have e0:B.filter (λa=>((λi:AN=>Ac (i.2.1=z))∘Wh i) a&&J6 wi i a)=[]:=MP.mpr λj O h=>q (AEI (dD.mp h).1);rw[e0];rfl
theorem fX:F4 z (ED s L evs)=ED s (λa=>F4 z (L a)) (Cu (λk=>Ac (k=z)) evs):=by
 have D:∀{J:Type}(p q:J->Bool)(l:List J),(l.filter p).filter q=(l.filter q).filter p:=λp q l=>by rw[JK,JK];show Kb λO O=>AAQ _ _
 cases s with |take n k=>change((evs.filter _).map _).filter _=((evs.filter _).filter _).map _;rw[Qz,D];rfl|only n a V U=>show D _ _ _|turn n a f g=>change((L a).map _).filter _=((L a).filter _).map _;rw[Qz];rfl|both n a b=>show GG _ _|join n a b W=>show V2 _|gap=>rfl|each=>rfl
theorem Pg(ss:List AR)(z:AE)(evs:List Bf):∀(n:Nat)(a:AE),F4 z (Et ss evs n a)=Et ss (Cu (λk=>Ac (k=z)) evs) n a |0,_=>rfl|n+1,a=>by have D:=Pg ss z evs n;change F4 z ((match ss[n]? with|AA s=>Bi _ _ _|AF=>Et ss _ n) a)=(match ss[n]? with|AA s=>Bi _ _ _|AF=>Et ss _ n) a;cases ss[n]? with |none=>show D a|some s=>
 change F4 z (if a=s.nm then _ else _)=if a=s.nm then _ else _;have e:=funext D;split;.rw[fX,e]
 .show D a
theorem V9(h:p z=AI)(a:AE):F4 z (Bv ss (Cu p evs) a)=F4 z (Bv ss evs a):=by
 rw[Pg,Pg];congr 1;unfold Cu;rw[JK];show Kb λe O=>?_;change(Ac _&&p _)=Ac _;by_cases q:e.2.2.1=z;.rw[AEF q,q,h];rfl
 .rw[AEH q];rfl
theorem R7(h:p z=AM)(a:AE):F4 z (Bv ss (Cu p evs) a)=[]:=by
 rw[Pg];have e:Cu (λk=>Ac (k=z)) (Cu p evs)=[]:=by unfold Cu;rw[JK,MP];intro e _ q;obtain⟨J,D⟩:=dD.mp q;rw[AEI J,h]at D;cases D
 rw[e,N1]
theorem XF(z:AE)(l:List AN):FV z l=(F4 z l).map λi=>(i.1,i.2.2):=rfl
theorem Xf(h:F4 z (F i)=F4 z (G i)):Ja ss now F i z=Ja ss now G i z:=by cases e:ss[i]? with|none=>unfold Ja;rw[e]|some s=>rw[KD e,KD e];unfold F8;rw[XF,XF,h]
theorem OB(h:p z=AI)(now:Int)(i:Nat):DJ ss now (Bv ss (Cu p evs)) i z=DJ ss now (Bv ss evs) i z:=Xf (V9 h _)
theorem Ms(h:p z=AM)(now:Int)(i:Nat):DJ ss now (Bv ss (Cu p evs)) i z=[]:=by have e:=Xf (ss:=ss) (now:=now) (F:=λi=>Bv ss (Cu p evs) (Eu ss i)) (G:=λO=>[]) (i:=i) (R7 h _);rw[show DJ ss _ _ i z=_ from e];show congrFun (Si ss _ i) z
theorem dY(h:x∈Bv ss (Cu p evs) a):p x.2.1=AI:=by cases q:p _ with|true=>rfl|false=>have D:x∈F4 _ _:=EH.mpr ⟨h,AEF rfl⟩;rw[R7 q]at D;cases D
theorem dZ{D:AE->Nat}(W:∀z,D z<n)(a:AE):((FP n).flatMap λi=>Bv ss (Cu (λz=>Ac (D z=i)) evs) a).Perm (Bv ss evs a):=by
  show List.perm_iff_count.mpr λx=>?_;have V:∀l:List AN,l.count x=(F4 _ l).count x:=λl=>(List.count_filter (a:=x) (AEF rfl)).symm;have U:∀i,(Bv ss (Cu (λz=>Ac (D z=i)) _) a).count x=if D _=i then(Bv ss evs a).count x else 0:=λi=>by
    rw[V];by_cases q:D x.2.1=i;.rw[AEE q,V9 (AEF q),<-V]
    . rw[AED q,R7 (AEH q)];rfl
  have J:∀m,((FP m).flatMap _).count x=if D _<m then(Bv ss evs a).count x else 0:=λm=>by induction m with|zero=>rfl|succ m Y=>
      rw[aC,Q1,List.count_append,Y,wR,U];by_cases q:D x.2.1<m
      . rw[AEE q,AED (DV q),AEE (Ni q)];rfl
      . rw[AED q];by_cases r:D x.2.1=m;.rw[AEE r,AEE (LY.mpr (BW r)),ABQ]
        .rw[AED r,AED (Kg r (λZ=>EJ (Dl Z) (E6 q)))]
  rw[J,AEE (W _)]
theorem SQ[DecidableEq α]:∀{l m:List α},l.Nodup->(∀x∈l,x∈m)->l.length<=m.length|[],_,_,_=>BZ _|x::l,m,h,D=>by obtain⟨V,W⟩:=JL.mp h;have J:=D x (.head _);have:=SQ (m:=m.erase x) W λy U=>(List.mem_erase_of_ne (λe=>V (by rw[<-e];show U))).mpr (D y (.tail _ U));rw[List.length_erase_of_mem J]at this;have:=w4 J;change l.length+1<=m.length;lia
theorem R8{f:α->List J}:∀{l:List α},(∀x∈l,(f x).length<=n)->(l.flatMap f).length<=n*l.length|[],_=>BZ _|x::l,h=>by have U:=h x (.head _);have V:=R8 λy D=>h y (.tail _ D);rw[El,Bs,MQ];lia
theorem XI(h:z∉l.map (·.2.1)):FV z l=[]:=by unfold FV;rw[MP.mpr λi D q=>h (A7.mpr ⟨i,D,AEI q⟩)];rfl
theorem fT(M:C8 ss)(I:ss.length<=8)(C:∀i∈Ap ss,(L (Eu ss i)).length<=600/\∀x∈L (Eu ss i),0<=x.1/\x.1<=1000000000){qs:List C3}(K:(qs.map C9).Nodup)(h:∀q∈qs,dX ss L q):qs.length<=14400000:=by
  have J:∀Z∈qs.map C9,Z∈(Ap ss).flatMap λi=>((L (Eu ss i)).map _).flatMap λz=>(match ss[i]? with|AA s=>IJ s (FV z (L s.fd))|AF=>[]).map λp=>C9 (i,z,p):=λZ E=>by
    obtain⟨q,F,rfl⟩:=A7.mp E;obtain⟨s,D,V,U⟩:=h q F;show Q4.mpr ⟨q.1,HW.mpr ⟨s,D,V⟩,Q4.mpr ⟨q.2.1,?_,?_⟩⟩
    . rw[Gs D];show Nx λz=>?_;rw[XI z]at U;cases U
    . rw[D];show A7.mpr ⟨_,U,rfl⟩
  have A:=SQ K J;rw[As]at A;show Af A (Af (R8 (n:=1800000) λi Y=>?_) ?_)
  . lk;obtain⟨s,D,V⟩:=HW.mp Y;obtain⟨B,W⟩:=C i Y;k_in;show Af (R8 (n:=3000) λz N=>?_) ?_
    . rw[As];rw[Gs D]at B W;have:=Vv (ps:=FV z _) (M.iu D V).1 λx G=>by obtain⟨y,H,e⟩:=XH G;rw[<-e];show W y H
      have:=XG z (L s.fd);lia
    . rw[As];lia
  . have:(Ap ss).length<=ss.length:=Af (Fc _ _) (by rw[Oq];show Ag _);lia
theorem fC{z:AE}{g:EF}{C:CV}{D:GA}{J:Ai}{H:AG}(Z:Nat->Ai->AG->Prop)(G:Z 0 J H)(M:∀(i:Nat)c J H,z.cps.toList[i]?=AA c->Z i J H->g (.str ⟨#[c]⟩) J H λY A=>C {D with nx:=Z (i+1),ct:=Z (i+1),bk:=D.nx} Y A)(K:∀J H,Z z.cps.size J H->D.nx J H):∃W:Nat->Nat->Ai->AG->Prop,(∃m,W 0 m J H)/\∀i m J H,W i m J H->((M4 z).vm i H/\D.nx J H)\/((M4 z).go i H/\∃N:Ai->AG->Prop,(∀V H',N V H'->∃B,B<m/\W (i+1) B V H')/\∀x H',(M4 z).aba i H x H'->g x J H' λY A=>C {D with nx:=N,ct:=N,bk:=D.nx} Y A):=by
 show⟨λi m J H=>m=z.cps.size-i/\i<=z.cps.size/\Z i J H,⟨_,rfl,BZ _,G⟩,?_⟩;intro i m J H I;lk;obtain⟨rfl,L,p⟩:=I;k_in;by_cases U:i<z.cps.size
 . show .inr ⟨U,_,λV H' O=>⟨_,HG _ _ U,rfl,U,O⟩,λx H' y=>?_⟩;lk;obtain⟨e,c,E,F⟩:=y;k_in;subst e F;show M i c J _ (by rw[Mc];show E) p
 . have e:=EJ L (E6 U);subst e;show .inl ⟨Ag _,K J H p⟩
theorem gE{K:An}:L9 X "str.find" (λx xs H Q=>∃z y,x=.str z/\xs=[.str y]/\Q (.int (match bC z y 0 z.length 1 with|i::_=>(i:Int)|[]=>-1)) H):=by intro D s Y H x xs v W Q I U J h;lk;obtain⟨z,y,rfl,rfl,q⟩:=h;obtain⟨t,rfl⟩:=U;obtain⟨u,rfl,V,rfl⟩:=Gj J;k_in;show MZ AB1 (U5 _ _ _) F.entry_str_find (F.args_str_find_2 _ _) (gives_str_find z y t V).meets ⟨.int _,H,I.iu _,⟨_,rfl⟩,q⟩
theorem gF{K:An}:L9 X "str.index" (λx xs H Q=>∃z y i l,x=.str z/\xs=[.str y]/\bC z y 0 z.length 1=i::l/\Q (.int (i:Nat)) H):=by intro D s Z H x xs v Y Q I V U h;lk;obtain⟨z,y,i,l,rfl,rfl,J,q⟩:=h;obtain⟨t,rfl⟩:=V;obtain⟨u,rfl,W,rfl⟩:=Gj U;k_in;show MZ AB2 (U5 _ _ _) F.entry_str_index (F.args_str_index_2 _ _) (gives_str_index z y t W i l J).meets ⟨.int _,H,I.iu _,⟨_,rfl⟩,q⟩
theorem Wk(h:97<=c/\c<123):bC IH ⟨#[c]⟩ 0 IH.length 1=[c-97]:=by
 have D:∀r:Fin 26,bC IH ⟨#[97+r.val]⟩ 0 IH.length 1=[r.val]:=by decide+kernel
 have:=D ⟨_,Ox h.1 h.2⟩;rw[show 97+(⟨_,_⟩:Fin 26).val=c from by show G9 h.1]at this;show this
noncomputable def Ln(c:Nat):Int:=((c-97:Nat):Int)
noncomputable def KG(l:List Nat):Int:=(l.map Ln).sum
noncomputable def J5(m:Int)(z:AE):Int:=KG z.cps.toList%m
def lF:Ax:=λJ H Q O=>Hh (λ(z:AE)(m:Int)=>J=[.str z,.int m]) (λz O=>Cp z) (λO m=>0<m) (λz m=>∀D,Aj H D->Q (.int (J5 m z)) D)
theorem hJ{K:An}{ad:Bh}(T:BA K mg ad):T.si.Ok A3 P w mg base 1 lF:=by
  show T.si.ok λnd O O O O O hr H vs Q E h=>?_;lk;obtain⟨z,m,rfl,az,hm,k⟩:=h;obtain⟨t_LETTERS,h_LETTERS⟩:=T.aan;k_in;show⟨_,(Aa (Ay (AW Jl (CL (oW (K:=K) rfl) (by rfl) T.aeh ADJ (Y9 (Ib (CT XT) [] trivial (ZJ (AH 0)) (λO O O O=>Gi) (λO O O O=>(Ic (K:=K) ABv AB2 F.type_str_index (gF (K:=K)) (Ho (v:=.str IH) (by rfl) h_LETTERS ⟨t_LETTERS,rfl⟩) (Y9 (AH 0) E3)))) E3)) (AH 1)))),?_⟩;have sz:=D8;show⟨z,rfl,pD _ (λx=>match x with|.str y=>.int (KG y.cps.toList)|_=>.non) (by have:=az.2;lia) (λx R O q=>q) (λx R hx O q=>?_) λD hD=>?_⟩
  . lk;obtain⟨c,hc,rfl⟩:=A7.mp hx;k_in;show⟨rfl,_,_,_,_,rfl,rfl,Wk (az.1 c hc),?_⟩;have e:KG [c]=Ln c:=by rfl
    have q:R (.int (KG [c])) H:=q;show q
  . have e:(((LV z).filter λO=>AI).map λx=>match x with|.str y=>AD.int (KG y.cps.toList)|_=>.non)=(z.cps.toList.map Ln).map AD.int:=by rw[Ud.mpr λO O=>rfl];unfold LV;rw[DX,DX];show Nc λc O=>?_;change AD.int (Ln c+0)=AD.int (Ln c);rw[AAX]
    rw[e];show⟨D,_,rfl,Ab AZ,hm,k _ (Bb hD)⟩
def k6:Ax:=λD H Q O=>Hh (λ(z:AE)(m:Int)=>D=[.str z,.int m]) (λz O=>Cp z) (λO m=>0<m) (λz m=>Q (.int (J5 m z)) H)
theorem Wr{K:An}{ad:Bh}(T:BA K mg ad):T.qj.Ok A3 P w mg base 1 k6:=by
  show T.qj.ok λnd O O O O O hr H vs Q E h=>?_;lk;obtain⟨z,m,rfl,az,hm,k⟩:=h;k_in;show⟨_,(Ae (Bw 2 nd AO) (Ae (DQ Dc rfl (ZJ (AH 0)) (D7 3 nd) (Aa (Bw 2 nd (AW GF (AH 2) (Ic ABv AB1 F.type_str_find (gE (K:=K)) C7 (Y9 (AH 3) E3)))))) (Aa (Ay (AW Jl (AH 2) (AH 1)))))),?_⟩;show⟨z,rfl,fC (λi σ H'=>H'=H/\∃(o:Option AD),σ=[AA _,AA _,AA (.int (KG (z.cps.toList.take i))),o]) ⟨rfl,_,rfl⟩ ?_ ?_⟩
  . intro i c σ H1 hc hI;lk;obtain⟨rfl,o,rfl⟩:=hI;k_in;show⟨rfl,_,_,rfl,rfl,rfl,AA (.str ⟨#[c]⟩),?_⟩;rw[Wk (az.1 c (CZ hc))];have e:KG (z.cps.toList.take (i+1))=KG (z.cps.toList.take i)+Ln c:=by unfold KG;rw[EI,hc,Ce,List.sum_append];change _+(Ln c+0)=_;rw[AAX]
    rw[e];rfl
  . intro σ H1 hI;lk;obtain⟨rfl,o,rfl⟩:=hI;k_in;rw[Dk (by show Ag _)];show⟨hm,k⟩
structure GL extends IF where x:AB
noncomputable abbrev SE(A:GL):List (AE×AD):=[("plan",.ref A.lp),("joins",.ref A.dj),("groups",.ref A.dg)]
section
variable{ad:Bh}
structure F1(ad:Bh)(ex:List AB)(H:AG)(ss:List AR)(A:GL)(sd:Nat->List AN×List AN)(gg:Nat->AE->List AY)(gk:Nat->List (AL×AD)):Prop extends FU ad ex H ss A.toIF sd gg gk where av:∃dx,H A.x=AA (.ins ad.dq dx (SE A))
end
theorem F1.ah(h:F1 J ex H ss A sd D gk)(s:Aj H H'):F1 J ex H' ss A sd D gk:=by obtain⟨U,ex⟩:=h.av;show⟨h.toFU.ah s,U,s _ _ ex⟩
theorem F1.yc(h:F1 U ex H ss A sd Y gk)(s:CA (Fm ss A.jd A.gd) H H')(B:Ck U ex H' ss A.dj A.nq A.jd J)(Z:DO U ex H' ss (Ap ss) A.dg A.ou A.gd gg' D):F1 U ex H' ss A J gg' D:=by obtain⟨W,ex⟩:=h.av;show⟨h.toFU.yc s B Z,W,h.kp s ex (by intro C z;cases z)⟩
theorem FU.ack(h:FU Z ex H ss A sd W gk)(s:CA p H H')(J:∀b,p b->∃kvs,H b=AA (.dK kvs))(n:∀b,p b->¬Fm ss A.jd A.gd b/\b≠A.dj/\b≠A.dg):FU Z ex H' ss A sd W gk:=by have Y:∀{b:AB}{o:BL},H b=AA o->(∀kvs,o≠.dK kvs)->H' b=AA o:=λ{b o}e n=>s _ _ (λz=>by obtain⟨kvs,U⟩:=J b z;rw[e]at U;show n _ (Bt U)) e;show⟨Y h.kh (by intro kvs z;cases z),h.jy.ae λb C e=>Y e (by intro kvs z;cases z),s _ _ (λz=>(n _ z).2.1 rfl) h.ff,h.yp,h.cx.gh s (λb D=>.inr (J b D)) (λb D z=>(n b D).1 (.inl z)) (λz=>(n _ z).2.1 rfl),s _ _ (λz=>(n _ z).2.2 rfl) h.dw,h.qx,h.ze,h.bb.gh s (λb D=>.inr (J b D)) (λi B z=>(n _ z).1 (.inr ⟨i,B,rfl⟩)) (λz=>(n _ z).2.2 rfl),h.wq,h.oq⟩
theorem F1.ack(h:F1 W ex H ss A sd J gk)(s:CA p H H')(U:∀b,p b->∃kvs,H b=AA (.dK kvs))(n:∀b,p b->¬Fm ss A.jd A.gd b/\b≠A.dj/\b≠A.dg):F1 W ex H' ss A sd J gk:=by obtain⟨Y,ex⟩:=h.av;show⟨h.toFU.ack s U n,Y,s _ _ (λz=>?_) ex⟩;obtain⟨kvs,D⟩:=U _ z;rw[ex]at D;cases D
theorem N9:((["plan"]:List AE)≠(["within","sides"]:List AE)/\(["plan"]:List AE)≠(["rows"]:List AE))/\(["plan","joins"]:List AE)≠(["within","sides"]:List AE)/\(["plan","joins"]:List AE)≠(["rows"]:List AE)/\(["plan","joins"]:List AE)≠(["step","rows"]:List AE):=by decide+kernel
def lE(Y:Bh):Ax:=λz H Q O=>OP (λ(x Z J:AB)(U:List AD)(D:List AR)=>z=[.ref x,.ref J]) (λx Z O O O=>H x=AA (.ins Y.dq Z [])) (λO O J U O=>H J=AA (.lst U)) (λO O O U D=>FD H U D) (λO O O O D=>D.length<=8) (λx O J O D=>∀W F,F.x=x->BR x H W->F1 Y [] W D F (λO=>([],[])) (λO O=>[]) (λO=>[])->(∀b,Fm D F.jd F.gd b\/b=F.dj\/b=F.dg->H b=AF)->H F.lp=AF->Q .non W)
theorem Wt{K:An}(T:BA K mg Y):T.mh.Ok A3 P w mg base 6 (lE Y):=by
  show T.mh.ok λnd O0 O0 O0 O0 O0 hr H vs Q E h=>?_;lk;obtain⟨x,J,lp,ps,ss,rfl,S,U,pr,I,k⟩:=h;k_in;show⟨_,(Ae (Du (AH 0) (Ie (MD (K:=K)) (by rfl) T.jt Kh (Y9 (AH 1) E3)) rfl) (Ae (Du (AH 0) (A5 (Wv T) hr (Y9 (AH 1) E3)) rfl) (Aa (Du (AH 0) (A5 (Ws T) hr (Y9 (AH 1) E3)) rfl)))),?_⟩;have q:lp≠x:=λz=>by rw[z,S]at U;cases U
  show⟨lp,ps,rfl,.inl (Ab U),λl hl=>?_⟩;show BQ hl λG g1 el=>?_;have X:=g1 _ _ S;have nl:l≠x:=λz=>by rw[z,X]at el;cases el
  show⟨x,_,J,[],rfl,X,T.di,T.vi,by decide,?_⟩;have x4:BR x G (AK G x (.ins Y.dq J [("plan",.ref l)])):=λb o D e=>by rw[AU D];show e
  have Z:(AK G x _) x=AA (.ins Y.dq J [("plan",.ref l)]):=AZ;have c:∀b,(AK G x (.ins Y.dq J [("plan",.ref l)])) b=AF->G b=AF:=λb e=>F9 e;change Oj _ _ _ _ (AK G x (.ins Y.dq J [("plan",.ref l)]));generalize AK G x _=H4 at x4 Z c⊢;have B:BR x H H4:=λb o D e=>x4 _ _ D (g1 _ _ e);have r:Bd H H4:=λb xs e=>B _ _ (λz=>by rw[z,S]at e;cases e) e;have W:=λb e=>g1.ar (c b e);show⟨lp,ps,ss,rfl,B _ _ q U,pr.ae r,Af I (by decide),λL C m jd M hdj ej jks jr fj=>?_⟩;show⟨x,_,J,_,rfl,M _ _ Z,T.di,T.gv,(by change 1<1000;decide),?_⟩;have x6:BR x L (AK L x (.ins Y.dq J [("plan",.ref l),("joins",.ref C)])):=λb o D e=>by rw[AU D];show e
  have A:(AK L x (.ins Y.dq J [("plan",.ref l),("joins",.ref C)])) x=AA _:=AZ;have d:∀b,(AK L x (.ins Y.dq J [("plan",.ref l),("joins",.ref C)])) b=AF->L b=AF:=λb e=>F9 e;have epf:Fx "joins" (.ref C) ([("plan",.ref l)])=([("plan",.ref l),("joins",.ref C)]:List (AE×AD)):=rfl;rw[epf];generalize AK L x _=H6 at x6 A d⊢;have n:=jr.av x6 (M _ _ Z) N9.1.1 N9.1.2;have u:BR x H H6:=λb o D e=>x6 _ _ D (M _ _ (B _ _ D e));have s:Bd H H6:=λb xs e=>u _ _ (λz=>by rw[z,S]at e;cases e) e;have F:=λb e=>W b (M.ar (d b e));show⟨lp,ps,ss,rfl,u _ _ q U,pr.ae s,Af I (by decide),λH7 dg f gd N j eg lkg gks gr fg=>?_⟩;show⟨x,_,J,_,rfl,N _ _ A,T.di,T.ft,(by change 2<1000;decide),?_⟩;have x8:BR x H7 (AK H7 x (.ins Y.dq J [("plan",.ref l),("joins",.ref C),("groups",.ref dg)])):=λb o D e=>by rw[AU D];show e
  have a:=N _ _ A;have jr8:=(n.ah N).av x8 a N9.2.1 N9.2.2.1;have gr8:=gr.av x8 a N9.2.2.2;have y:BR x H4 _:=λb o D e=>x8 _ _ D (N _ _ (x6 _ _ D (M _ _ e)));have v:BR x H _:=λb o D e=>y _ _ D (B _ _ D e);have t:Bd H _:=λb xs e=>v _ _ (λz=>by rw[z,S]at e;cases e) e;have p:C≠x:=λz=>by rw[z,M _ _ Z]at ej;cases ej
  have ngx:dg≠x:=λz=>by rw[z,N _ _ A]at eg;cases eg
  have O:∀b,D2 ss jd b->∃kvs,H6 b=AA (.dK kvs):=λb g=>n.ye g;have R:=x6 _ _ p ej;show k _ ⟨⟨l,ps,C,m,jd,dg,f,gd⟩,x⟩ rfl v ⟨⟨y _ _ nl (x4 _ _ nl el),pr.ae t,x8 _ _ p (N _ _ R),jks,jr8,x8 _ _ ngx eg,Af lkg I,gks,gr8,λi hi=>⟨λz=>?_,A4 R (fg i hi)⟩,λz=>?_⟩,J,AZ⟩ (λb g=>?_) hl;. obtain⟨kv,e⟩:=O _ z;rw[fg i hi]at e;cases e
  . obtain⟨kv,e⟩:=O _ z;rw[j]at e;cases e
  . rcases g with(g|⟨i,hi,rfl⟩)|rfl|rfl;.show W _ (fj _ g)
    .show F _ (fg i hi)
    .show W _ hdj
    .show F _ j
def kJ(C:Bh):Ax:=λG H Q O=>Rj (λ(D:List AR)(F:GL)(W:Nat->List AN×List AN)(z:Nat->List (AL×AD))(L U:AE->List AN)(Y:List Bf)(e:Bf)(J:Int)(q:AB)=>G=[.ref F.x,.ref q]) (λD F W z L O O O J O=>F1 C [] H D F W (DJ D J L) z) (λD O O O O O O O O O=>C8 D) (λD O O O O O O O O O=>D.length<=8) (λO O O O O O O e O q=>HR H q e) (λD O O O L U Y e O O=>(∀(i:Nat)s,D[i]?=AA s->s.cu=AM->L s.nm=ED s L Y/\U s.nm=ED s U (Y++[e])/\(U s.nm).length<=600)) (λD O W O L O O O J O=>(∀(i:Nat)n a b B,D[i]?=AA (.join n a b B)->(W i).1.Perm (BJ (J-B) (L a))/\(W i).2.Perm (BJ (J-B) (L b)))) (λO O O O O O O e J O=>J<=e.1) (λD O O z L O O O O O=>(∀i∈Ap D,(z i).length<=(L (Eu D i)).length)) (λD O O O O U O O O O=>(∀(i:Nat)s,D[i]?=AA s->s.cu=AM->∀x∈U s.nm,0<=x.1/\x.1<=1000000000)) (λD F W O O U O e J O=>∀A E Z,CA (Fm D F.jd F.gd) H A->F1 C [] A D F (ER D W D.length E) (DJ D J U) Z->(∀i∈Ap D,(Z i).length<=(U (Eu D i)).length)->(∀(i:Nat)s,D[i]?=AA s->F0 s E (W i) e)->Q .non A)
theorem gP{K:An}(T:BA K d I):T.rj.Ok A3 P w d base 7 (kJ I):=by show T.rj.ok λl o o o o o b H m Q E h=>?_;lk;obtain⟨g,F,f,O,L,G,U,e,A,q,rfl,D,B,c,N,S,X,a,z,i,k⟩:=h;k_in;show⟨_,(Aa (EU (A5 (Wz T) b (Y9 (BC (AH 0) rfl) (Y9 (BC (AH 0) rfl) (Y9 (BC (AH 0) rfl) (Y9 (AH 1) E3))))))),?_⟩;obtain⟨j,V⟩:=D.av;show⟨_,⟨V,T.di,T.vi,rfl⟩,_,⟨V,T.di,T.gv,rfl⟩,_,⟨V,T.di,T.ft,rfl⟩,_,_,_,q,_,g,_,_,f,L,G,U,e,A,_,_,O,rfl,D.kh,D.jy,B,by lia,D.cx,N,S,X,a,D.bb,z,i,D.wq,D.oq,λC M R s2 Y W Z J=>k C M _ s2 (D.yc s2 Y W) Z J⟩
def k8(z:Bh):Ax:=λA H Q O=>TK (λ(D:List AR)(F:GL)(U:Nat->List AN×List AN)(W:Nat->AE->List AY)(Y:Nat->List (AL×AD))(J:Int)=>A=[.ref F.x,.int J]) (λD F U W Y O=>F1 z [] H D F U W Y) (λD O U O O O=>(∀i,EB D i->(U i).1.length<=1000/\(U i).2.length<=1000)) (λD F U W Y J=>∀Z,CA (Fm D F.jd F.gd) H Z->F1 z [] Z D F (Lp D J U) W Y->Q .non Z)
theorem hU{K:An}(T:BA K L A):T.qf.Ok A3 P w L base 7 (k8 A):=by show T.qf.ok λX v v v v v I H a Q E h=>?_;lk;obtain⟨Z,F,N,R,S,W,rfl,D,V,k⟩:=h;k_in;show⟨_,(Aa (EU (A5 (Wq T) I (Y9 (BC (AH 0) rfl) (Y9 (AH 1) E3))))),?_⟩;obtain⟨O,B⟩:=D.av;show⟨_,⟨B,T.di,T.gv,rfl⟩,_,Z,_,_,N,W,rfl,D.ff,D.yp,D.cx,V,λY s3 U=>?_⟩;have J:CA (Fm Z _ F.gd) H Y:=λb o M e=>s3 b o (λz=>M (.inl z)) e;show k Y J (D.yc J U (D.bb.gh s3 (λb C=>.inr (D.cx.ye C)) (λi G=>(D.wq i G).1) D.oq))
def lY(E:Bh):Ax:=λG H Q O=>Vn (λ(U:List AB)(D:List AR)(F:GL)(A:Nat->List AN×List AN)(J:Nat->AE->List AY)(W:Nat->List (AL×AD))(m:Option Int)=>G=[.ref F.x,J7 m]) (λU D F A J W O=>F1 E U H D F A J W) (λO D O O O O O=>C8 D) (λO D O O O O O=>D.length<=8) (λU O O O O O O=>(∀c∈U,∃B,H c=AA (.lst B))) (λO D O O O W O=>(∀i∈Ap D,(W i).length<=600)) (λO D O O J O O=>(∀i∈Ap D,∀z,D1 (J i z)/\(J i z).length<=3000)) (λU D F A J W m=>∀Y r B C Z,CA (Fm D F.jd F.gd) H Y->F1 E U Y D F A (λi z=>ES m (J i z)) Z->(∀i∈Ap D,(Z i).length<=(W i).length)->H r=AF->Y r=AA (.lst B)->BF (Jz D Y) B C->(C.map C9).Nodup->(∀q:C3,q∈C↔q.1∈Ap D/\q.2.2∈FH m (J q.1 q.2.1))->Q (.ref r) Y)
theorem iO{K:An}(T:BA K s X):T.uq.Ok A3 P w s base 7 (lY X):=by show T.uq.ok λnd O0 O0 O0 O0 O0 n H vs Q E h=>?_;lk;obtain⟨c,R,F,sd,f,g,m,rfl,D,O,I,W,G,C,k⟩:=h;k_in;show⟨_,(Aa (Ay (A5 (Wo T) n (Y9 (BC (AH 0) rfl) (Y9 (AH 1) E3))))),?_⟩;obtain⟨y,a⟩:=D.av;show⟨_,⟨a,T.di,T.ft,rfl⟩,c,_,R,_,_,f,g,m,rfl,D.dw,O,I,D.qx,D.ze,D.bb,W,G,C,λS r x u j s1 V B Z U L N v M q=>?_⟩;have J:CA (Fm R F.jd _) H S:=λb o t e=>s1 b o (λz=>t (.inr z)) e;have A:∀b,(∃i∈Ap R,b=(F.gd i).d)->∃p,H b=AA _:=λb z=>D.abg (.inr z);show k S r x u _ J (D.yc J (D.cx.gh s1 (λb l=>.inr (A b l)) (λb⟨i,Y,z⟩=>by rw[z];show(D.wq i Y).1) λ⟨i,Y,z⟩=>(D.wq i Y).2 z) V) B Z U L N M
structure EA where
 x:AB
 ck:AB
 lh:AB
 dm:AB
 hs:List GL
noncomputable abbrev WL(X:EA):List (AE×AD):=[("clock",.ref X.ck),("hands",.ref X.lh),("homes",.ref X.dm)]
abbrev Gw(ss:List AR)(h:GL):AB->Prop:=Fm ss h.jd h.gd
noncomputable def FW(f:Nat->α)(i:Nat)(v:α):Nat->α:=λj=>if j=i then v else f j
theorem Ss(f:Nat->α)(i:Nat):FW f i (f i)=f:=funext λj=>by
 unfold FW;split;.rename_i h;rw[h]
 .rfl
abbrev Dz:=Nat->List AN×List AN
abbrev FC:=Nat->AE->List AY
abbrev EN:=Nat->List (AL×AD)
section
variable{ad:Bh}
structure Cc(ad:Bh)(ex:List AB)(H:AG)(ss:List AR)(X:EA)(sl now cnt:Int)(sd:Nat->Dz)(gg:Nat->FC)(gk:Nat->EN):Prop where
 av:∃dx,H X.x=AA (.ins ad.de dx (WL X))cw:∃dx,H X.ck=AA (.ins ad.aj dx (EM sl now cnt))cb:H X.lh=AA (.lst (X.hs.map λh=>AD.ref h.x))iz:H X.dm=AA (.dK [])cp:∀(i:Nat)h,X.hs[i]?=AA h->F1 ad ex H ss h (sd i) (gg i) (gk i)bj:∀(i j:Nat)h h',i≠j->X.hs[i]?=AA h->X.hs[j]?=AA h'->∀b,Gw ss h b->¬Gw ss h' b/\b≠h'.dj/\b≠h'.dg
 aaz:∀(i:Nat)h,X.hs[i]?=AA h->¬Gw ss h X.dm
end
theorem Cc.ah(h:Cc J ex H ss X z now D sd Z gk)(s:Aj H H'):Cc J ex H' ss X z now D sd Z gk:=by lk;obtain⟨V,ex⟩:=h.av;obtain⟨U,W⟩:=h.cw;k_in;show⟨⟨V,s _ _ ex⟩,⟨U,s _ _ W⟩,s _ _ h.cb,s _ _ h.iz,λi F Y=>(h.cp i F Y).ah s,h.bj,h.aaz⟩
theorem Cc.nv{K:Nat->FC}(h:Cc B ex H ss X L now A sd K gk)(W:X.hs[i]?=AA F)(s:CA (Gw ss F) H H')(J:F1 B ex H' ss F V gg' D):Cc B ex H' ss X L now A (FW sd i V) (FW K i gg') (FW gk i D):=by
 have Z:=h.cp i F W;lk;obtain⟨E,ex⟩:=h.av;obtain⟨C,I⟩:=h.cw;k_in;show⟨⟨E,Z.kp s ex (by intro U z;cases z)⟩,⟨C,Z.kp s I (by intro U z;cases z)⟩,Z.kp s h.cb (by intro U z;cases z),s _ _ (h.aaz i F W) h.iz,λj G Y=>?_,h.bj,h.aaz⟩;unfold FW;by_cases q:j=i
 . subst q;rw[W]at Y;cases Y;rw[AEE rfl,AEE rfl,AEE rfl];show J
 . rw[AED q,AED q,AED q];show(h.cp j G Y).ack s (λb J=>Z.abg J) λb J=>h.bj i j F G (DZ q) W Y b J
theorem Cc.ack(h:Cc Y ex H ss X F now D sd C gk)(s:CA p H H')(W:∀b,p b->∃kvs,H b=AA (.dK kvs))(n:∀b,p b->b≠X.dm/\∀(i:Nat)G,X.hs[i]?=AA G->¬Gw ss G b/\b≠G.dj/\b≠G.dg):Cc Y ex H' ss X F now D sd C gk:=by have J:∀{b:AB}{o:BL},H b=AA o->(∀kvs,o≠.dK kvs)->H' b=AA o:=λ{b o}e n=>s _ _ (λz=>by obtain⟨kvs,U⟩:=W b z;rw[e]at U;show n _ (Bt U)) e;lk;obtain⟨A,ex⟩:=h.av;obtain⟨Z,B⟩:=h.cw;k_in;show⟨⟨A,J ex (by intro kvs z;cases z)⟩,⟨Z,J B (by intro kvs z;cases z)⟩,J h.cb (by intro kvs z;cases z),s _ _ (λz=>(n _ z).1 rfl) h.iz,λi G V=>(h.cp i G V).ack s W λb E=>(n b E).2 i G V,h.bj,h.aaz⟩
theorem Cc.ob(h:Cc F ex H ss X a now U sd N gk)(s:BR x H H')(B:H x=AA (.ins C W J))(O:J.map (·.1)≠(["within","sides"]:List AE))(P:J.map (·.1)≠(["rows"]:List AE))(Q:J.map (·.1)≠(["step","rows"]:List AE))(T:X.x≠x)(S:∀(i:Nat)G,X.hs[i]?=AA G->G.x≠x):X.ck≠x->Cc F ex H' ss X a now U sd N gk:=λR=>by have E:∀{b:AB}{o:BL},H b=AA o->(∀Z D A,o≠.ins Z D A)->H' b=AA o:=λe n=>Gb s B e λZ D A z=>absurd z (n _ _ _);lk;obtain⟨W,ex⟩:=h.av;obtain⟨I,L⟩:=h.cw;k_in;show⟨⟨W,s _ _ T ex⟩,⟨I,s _ _ R L⟩,E h.cb (by intro _ _ _ z;cases z),E h.iz (by intro _ _ _ z;cases z),λi G Y=>?_,h.bj,h.aaz⟩;obtain⟨K,M⟩:=(h.cp i G Y).av;show⟨(h.cp i G Y).toFU.av s B O P Q,K,s _ _ (S i G Y) M⟩
theorem Wi:((["clock","hands","homes"]:List AE)≠(["slack","now","count"]:List AE))/\(["plan","joins","groups"]:List AE)≠(["slack","now","count"]:List AE):=by decide+kernel
theorem Cc.abn(h:Cc Z ex H ss X E now F sd N gk)(s:BR X.ck H H')(e:H' X.ck=AA (.ins Z.aj A (EM E J D))):Cc Z ex H' ss X E J D sd N gk:=by
 lk;obtain⟨I,V⟩:=h.cw;have C:∀{b:AB}{o:BL},H b=AA o->(∀Y U W,o≠.ins Y U W)->H' b=AA o:=λe n=>Gb s V e λY U W z=>absurd z (n _ _ _);obtain⟨L,ex⟩:=h.av;k_in;show⟨⟨L,Gb s V ex λO O W z=>?_⟩,⟨A,e⟩,C h.cb (by intro _ _ _ z;cases z),C h.iz (by intro _ _ _ z;cases z),λi G B=>?_,h.bj,h.aaz⟩
 . injection z with _ _ z;rw[<-z];show DZ Wi.1
 . obtain⟨K,M⟩:=(h.cp i G B).av;show⟨(h.cp i G B).toFU.av s V Gv.2.1 Gv.2.2.1 Gv.2.2.2,K,Gb s V M λO O W z=>?_⟩;injection z with _ _ z;rw[<-z];show DZ Wi.2
def F6(ss:List AR)(X:EA)(b:AB):Prop:=b=X.ck\/∃(i:Nat)(h:GL),X.hs[i]?=AA h/\Gw ss h b
def Kv(ss:List AR)(X:EA)(b:AB):Prop:=b=X.x\/b=X.ck\/b=X.lh\/b=X.dm\/∃(i:Nat)(h:GL),X.hs[i]?=AA h/\(b=h.x\/b=h.dj\/b=h.dg\/Gw ss h b)
theorem Cc.gw(h:Cc z ex H ss X Z now U sd Y gk)(D:Kv ss X b):∃o,H b=AA o:=by
  rcases D with rfl|rfl|rfl|rfl|⟨i,G,W,D⟩
  . obtain⟨V,ex⟩:=h.av;show⟨_,ex⟩
  . obtain⟨V,ex⟩:=h.cw;show⟨_,ex⟩
  .show⟨_,h.cb⟩
  .show⟨_,h.iz⟩
  . have J:=h.cp i G W;rcases D with rfl|rfl|rfl|D
    . obtain⟨V,ex⟩:=J.av;show⟨_,ex⟩
    .show⟨_,J.ff⟩
    .show⟨_,J.dw⟩
    . obtain⟨A,e⟩:=J.abg D;show⟨_,e⟩
def m6(Z:Bh):Ax:=λA H Q O=>Vo (λ(x z U:AB)(W:List AD)(J:List AR)(D:Int)(m:Nat)=>A=[.ref x,.ref U,.int D,.int (m:Int)]) (λx z O O O O O=>H x=AA (.ins Z.de z [])) (λO O U W O O O=>H U=AA (.lst W)) (λO O O W J O O=>FD H W J) (λO O O O J O O=>J.length<=8) (λO O O O O D O=>0<=D) (λO O O O O D O=>D<=1000000000) (λO O O O O O m=>m<=8) (λx O U O J D m=>∀Y X,X.x=x->X.hs.length=m->BR x H Y->Cc Z [] Y J X D 0 0 (λO O=>([],[])) (λO O O=>[]) (λO O=>[])->(∀b,Kv J X b->b=x\/H b=AF)->(∀(i:Nat)G,X.hs[i]?=AA G->H G.lp=AF)->Q .non Y)
theorem jC{K:An}(T:BA K mg Z):T.gq.Ok A3 P w mg base 8 (m6 Z):=by
  show T.gq.ok λnd O0 O0 O0 O0 O0 hr H vs Q E h=>?_;lk;obtain⟨x,O,lp,ps,u,sl,m,rfl,ex,n,pr,lss,s0,s1,lm,k⟩:=h;k_in;show⟨_,(Ae (Du (AH 0) (J9 (Wn T) hr T.we Hn (Y9 (AH 2) E3)) rfl) (Ae (Du (AH 0) (Ib (CT SY) [("plan",1)] ⟨rfl,rfl,trivial⟩ (NR (by rfl) T.js (Y9 (AH 3) E3)) (λO0 O0 O0 O0=>Gi) (λO0 O0 O0 O0=>(J9 (Wt T) hr T.aae Hn (Y9 (AH 1) E3)))) rfl) (Aa (Du (AH 0) LQ rfl)))),?_⟩;have sz:Az=16777216:=D8;have nlx:lp≠x:=λz=>by rw[z,ex]at n;cases n
  showλc C X hdc hcn=>⟨c,C,sl,rfl,AZ,s0,s1,rfl,?_⟩;have g3:Aj H (AK (AK (AK H C (.own c)) c (.ins Z.aj C [])) c (.ins Z.aj C (EM sl 0 0))):=λb o e=>by rw[AU (A4 e X),AU (A4 e X),AU (A4 e hdc)];show e
  have ec3:(AK (AK (AK H C (.own c)) c (.ins Z.aj C [])) c (.ins Z.aj C (EM sl 0 0))) c=AA (.ins Z.aj C (EM sl 0 0)):=AZ;generalize AK _ c (.ins Z.aj C (EM sl 0 0))=H3 at g3 ec3⊢;have ncx:c≠x:=λz=>by rw[z,ex]at X;cases X
  show⟨x,_,O,[],rfl,g3 _ _ ex,T.au,T.fw,by decide,?_⟩;have x4:BR x H3 (AK H3 x (.ins Z.de O [("clock",.ref c)])):=λb o a e=>by rw[AU a];show e
  have Y:(AK H3 x _) x=AA (.ins Z.de O [("clock",.ref c)]):=AZ;have fr4:∀b,(AK H3 x (.ins Z.de O [("clock",.ref c)])) b=AF->H3 b=AF:=λb e=>F9 e;have epf:Fx "clock" (.ref c) ([]:List (AE×AD))=([("clock",.ref c)]:List (AE×AD)):=rfl;rw[epf];generalize AK H3 x _=N at x4 Y fr4⊢;have v:BR x H N:=λb o a e=>x4 _ _ a (g3 _ _ e);have tp04:Bd H N:=λb xs e=>v _ _ (λz=>by rw[z,ex]at e;cases e) e;have R:∀b,N b=AF->H b=AF:=λb e=>g3.ar (fr4 b e);have ec4:=x4 _ _ ncx ec3;show⟨(m:Int),rfl,by simp,dP.mp (FQ lm (by decide)),pE (λi τ f H'=>(∃o,τ=[o,AA (.ref lp)])/\Aj N H'/\∃(A:List GL),f=A.map (λh=>AD.ref h.x)/\A.length=i/\(∀h∈A,F1 Z [] H' u h (λO0=>([],[])) (λO0 O0=>[]) (λO0=>[]))/\(∀h∈A,∀b,Gw u h b\/b=h.dj\/b=h.dg\/b=h.x->N b=AF)/\(∀h∈A,N h.lp=AF)/\A.Pairwise λh S=>∀b c,Gw u h b\/b=h.dj\/b=h.dg->Gw u S c\/c=S.dj\/c=S.dg->b≠c) (by lia) ⟨⟨AF,rfl⟩,Bz _,[],rfl,rfl,λh D=>(by cases D),λh D=>(by cases D),λh D=>(by cases D),.nil⟩ ?_ ?_⟩
  . intro i τ f H5 R1 hi _ hI k1;lk;obtain⟨⟨o,rfl⟩,B,A,rfl,lh,J,hn,r,pw⟩:=hI;k_in;showλy dy hy p hyn=>⟨y,dy,lp,ps,u,rfl,AZ,?_,?_,lss,λH6 F ef sx fb fre flp=>⟨rfl,k1 _ _ _ ⟨⟨_,rfl⟩,?_⟩⟩⟩
    . have g:=B _ _ (v _ _ nlx n);rw[AU (A4 g hy),AU (A4 g p)];show g
    . show(pr.ae tp04).ae λb xs e=>?_;have g:=B _ _ e;rw[AU (A4 g hy),AU (A4 g p)];show g
    subst ef;have s6:Aj H5 H6:=SK hy p sx;have I:=λb J=>(Mj hyn (fre b J)).1;show⟨B.aa s6,A++[F],by rw[Ce];rfl,by rw[Bs,lh];rfl,λh D=>?_,λh D b U=>?_,λh D=>?_,?_⟩
    . rcases CS.mp D with D|D;.show(J h D).ah s6
      .rw[BV.mp D];show fb
    . rcases CS.mp D with D|D;.show hn h D b U
      . rw[BV.mp D]at U;rcases U with U|U|U|U;.show B.ar (I b (.inl U))
        .show B.ar (I b (.inr (.inl U)))
        .show B.ar (I b (.inr (.inr U)))
        .rw[U];show B.ar hy
    . rcases CS.mp D with D|D;.show r h D
      .rw[BV.mp D];show B.ar (Mj hyn flp).1
    . show MS.mpr ⟨pw,aB _ _,λh D S hh' b c qb qc=>?_⟩;rw[BV.mp hh']at qc;have e0:=I c qc;have:∃o,H5 b=AA o:=by
        rcases qb with qb|rfl|rfl;. obtain⟨kv,e⟩:=(J h D).abg qb;show⟨_,e⟩
        .show⟨_,(J h D).ff⟩
        .show⟨_,(J h D).dw⟩
      obtain⟨o,e⟩:=this;show A4 e e0
  . intro τ f H5 _ hI l hl;lk;obtain⟨_,B,A,rfl,lh,J,hn,r,pw⟩:=hI;k_in;have L:=B.ar hl;show BQ hl λH6 s6 el=>?_;have M:=B.aa s6;show⟨x,_,O,[("clock",.ref c)],rfl,M _ _ Y,T.au,T.cg,(by change 1<1000;decide),?_⟩;showλd hd=>?_;have W:H6 d=AF:=F9 hd;have exd:x≠d:=λz=>by rw[<-z,M _ _ Y]at W;cases W
    show⟨x,_,O,_,rfl,by rw[AU exd];show AZ,T.au,T.kg,(by change 2<1000;decide),?_⟩;have xx:∀(H:AG)(o o' o2:BL),AK (AK (AK H x o) d o') x o2=AK (AK H d o') x o2:=λH o o' o2=>by
      funext b;by_cases q:b=x;.rw[q,AZ,AZ]
      . rw[AU q,AU q];by_cases q2:b=d;.rw[q2,AZ,AZ]
        .rw[AU q2,AU q2,AU q]
    rw[xx];show BQ (o:=.dK []) W λH7 s7 ed=>?_;have t:=M.aa s7;have ex7:=t _ _ Y;have x8:BR x H7 (AK H7 x (.ins Z.de O [("clock",.ref c),("hands",.ref l),("homes",.ref d)])):=λb o a e=>by rw[AU a];show e
    have hdx:d≠x:=DZ exd;have nlx':l≠x:=λz=>by rw[z]at L;rw[Y]at L;cases L
    have hd4:N d=AF:=M.ar W;have u4:∀b,Kv u ⟨x,c,l,d,A⟩ b->b=x\/b=c\/N b=AF:=λb J=>by
      rcases J with rfl|rfl|rfl|rfl|⟨i,h,G,J⟩;.show .inl rfl
      .show .inr (.inl rfl)
      .show .inr (.inr L)
      .show .inr (.inr hd4)
      . show .inr (.inr (hn h (CZ G) b ?_));rcases J with J|J|J|J;.show .inr (.inr (.inr J))
        .show .inr (.inl J)
        .show .inr (.inr (.inl J))
        .show .inl J
    have n1:((["clock","hands"]:List AE)≠(["within","sides"]:List AE))/\(["clock","hands"]:List AE)≠(["rows"]:List AE)/\(["clock","hands"]:List AE)≠(["step","rows"]:List AE)/\(["clock"]:List AE)≠(["within","sides"]:List AE)/\(["clock"]:List AE)≠(["rows"]:List AE)/\(["clock"]:List AE)≠(["step","rows"]:List AE):=by decide+kernel
    show k _ ⟨x,c,l,d,A⟩ rfl lh (λb o a e=>x8 _ _ a (t _ _ (v _ _ a e))) ⟨⟨O,AZ⟩,⟨C,x8 _ _ ncx (t _ _ ec4)⟩,x8 _ _ nlx' (s7 _ _ el),x8 _ _ hdx ed,λi h G=>?_,λi j h S nij G ej b J=>?_,λi h G hq=>?_⟩ (λb J=>?_) λi h G=>R _ (r h (CZ G))
    . have hm:=CZ G;have h7:=((J h hm).ah s6).ah s7;obtain⟨dh,eh⟩:=h7.av;show⟨h7.toFU.av x8 ex7 n1.2.2.2.1 n1.2.2.2.2.1 n1.2.2.2.2.2,dh,x8 _ _ (λz=>?_) eh⟩;have:=hn h hm h.x (.inr (.inr (.inr rfl)));rw[z,Y]at this;cases this
    . have s:∀c,Gw u S c\/c=S.dj\/c=S.dg->b≠c:=λc X=>by
        obtain⟨li,gi⟩:=BH.mp G;obtain⟨lj,gj⟩:=BH.mp ej;rcases Nat.lt_or_gt_of_ne nij with q|q
        . have:=(Gm.mp pw) i j li lj q;rw[gi,gj]at this;show this b c (.inl J) X
        . have:=(Gm.mp pw) j i lj li q;rw[gi,gj]at this;showλe=>this c b X (.inl J) e.symm
      show⟨λz=>s b (.inl z) rfl,s _ (.inr (.inl rfl)),s _ (.inr (.inr rfl))⟩
    . have hm:=CZ G;obtain⟨kv,e⟩:=((J h hm).ah s6).abg hq;rw[W]at e;cases e
    . rcases u4 b J with q|q|q;.show .inl q
      .rw[q];show .inr X
      .show .inr (R b q)
theorem FU.zf(h:FU G ex H ss A sd E gk)(F:c∈ex)(e:H c=AA (.lst ys))(L:A.lp≠c):FU G ex (AK H c o) ss A sd E gk:=by
 have s:CA _ H (AK H c o):=λb Y K U=>by rw[AU K];show U
 have C:∀{b:AB}{Y:BL},H b=AA Y->(∀B,Y≠.lst B)->(AK H c o) b=AA Y:=λ{b Y}J n=>s _ _ (λz=>by rw[z,e]at J;show n _ (Bt J).symm) J;have Z:∀{b:AB}{W:List _},H b=AA (.dK W)->b≠c:=λ{b W}J z=>by rw[z,e]at J;cases J
 show⟨s _ _ L h.kh,h.jy.ae λb N U=>C U (by intro B z;cases z),C h.ff (by intro B z;cases z),h.yp,h.cx.gh s (λb D=>.inl ⟨by rw[D];show F,ys,by rw[D];show e⟩) (λb D z=>by obtain⟨M,U⟩:=h.cx.ye z;show Z U D) (Z h.ff),C h.dw (by intro B z;cases z),h.qx,h.ze,h.bb.gh s (λb D=>.inl ⟨by rw[D];show F,ys,by rw[D];show e⟩) (λi I z=>by lk;obtain⟨_,_,_,g⟩:=h.bb.qo i I;k_in;show Z g.aw.ao z) (Z h.dw),h.wq,h.oq⟩
theorem Cc.zf{K:Nat->FC}(h:Cc A ex H ss X O now W sd K gk)(L:c∈ex)(e:H c=AA (.lst ys))(M:X.lh≠c)(N:∀(i:Nat)G,X.hs[i]?=AA G->G.lp≠c):Cc A ex (AK H c o) ss X O now W sd K gk:=by
 have J:∀{b:AB}{U:BL},H b=AA U->(∀D,U≠.lst D)->(AK H c o) b=AA U:=λ{b U}Y n=>by rw[AU λz=>by rw[z,e]at Y;show n _ (Bt Y).symm];show Y
 lk;obtain⟨E,ex⟩:=h.av;obtain⟨B,F⟩:=h.cw;k_in;show⟨⟨E,J ex (by intro D z;cases z)⟩,⟨B,J F (by intro D z;cases z)⟩,by rw[AU M];show h.cb,J h.iz (by intro D z;cases z),λi G Z=>?_,h.bj,h.aaz⟩;obtain⟨C,I⟩:=(h.cp i G Z).av;show⟨(h.cp i G Z).toFU.zf L e (N i G Z),C,J I (by intro D z;cases z)⟩
theorem Cc.jo(h:Cc V ex H ss X Y now J sd W gk)(U:H c=AF):Cc V (c::ex) H ss X Y now J sd W gk:=⟨h.av,h.cw,h.cb,h.iz,λi G D=>⟨⟨(h.cp i G D).kh,(h.cp i G D).jy,(h.cp i G D).ff,(h.cp i G D).yp,(h.cp i G D).cx.jo U,(h.cp i G D).dw,(h.cp i G D).qx,(h.cp i G D).ze,(h.cp i G D).bb.jo U,(h.cp i G D).wq,(h.cp i G D).oq⟩,(h.cp i G D).av⟩,h.bj,h.aaz⟩
theorem Cc.ji(h:Cc U (c::ex) H ss X W now J sd V gk):Cc U ex H ss X W now J sd V gk:=⟨h.av,h.cw,h.cb,h.iz,λi G D=>⟨⟨(h.cp i G D).kh,(h.cp i G D).jy,(h.cp i G D).ff,(h.cp i G D).yp,(h.cp i G D).cx.ji,(h.cp i G D).dw,(h.cp i G D).qx,(h.cp i G D).ze,(h.cp i G D).bb.ji,(h.cp i G D).wq,(h.cp i G D).oq⟩,(h.cp i G D).av⟩,h.bj,h.aaz⟩
theorem Cc.ud(h:Cc U ex H ss X Y now D sd V gk)(e:∀i,i<X.hs.length->∀t∈Ap ss,gg' i t=V i t):Cc U ex H ss X Y now D sd gg' gk:=⟨h.av,h.cw,h.cb,h.iz,λi G J=>⟨(h.cp i G J).toFU.ud λt W=>e i (BH.mp J).1 t W,(h.cp i G J).av⟩,h.bj,h.aaz⟩
theorem Cc.ae(h:Cc A ex H ss X F now J sd B gk)(e:H b=AA o)(Y:∀C U W,o≠.ins C U W)(Z:∀kvs,o≠.dK kvs):¬F6 ss X b:=λz=>by
 rcases z with z|⟨i,G,V,z⟩;. obtain⟨_,D⟩:=h.cw;rw[<-z,e]at D;show Y _ _ _ (Bt D)
 . obtain⟨E,D⟩:=(h.cp i G V).abg z;rw[e]at D;show Z _ (Bt D)
def m5(U:Bh):Ax:=λW H Q O=>Rl (λ(X:EA)(J:AB)(z:AE)=>W=[.ref X.x,.str z]) (λX J O=>H X.x=AA (.ins U.de J (WL X))) (λX O O=>H X.lh=AA (.lst (X.hs.map λh=>AD.ref h.x))) (λX O O=>H X.dm=AA (.dK [])) (λO O z=>Cp z) (λX O O=>0<X.hs.length) (λX O O=>X.hs.length<=8) (λX O z=>∀D,Aj H D->Q (.int (J5 X.hs.length z)) D)
theorem SU{K:An}(T:BA K A W):T.rq.Ok A3 P w A base 2 (m5 W):=by show T.rq.ok λG O O O O O U H I Q E h=>?_;lk;obtain⟨X,B,z,rfl,J,Z,D,Y,C,F,k⟩:=h;k_in;show⟨_,(Aa (Ay (Ql U.u1 (BC (AH 0) rfl) (AH 1) (A5 (hJ T) U (Y9 (AH 1) (Y9 (CL (LI) (by rfl) T.iq GY (Y9 (BC (AH 0) rfl) E3)) E3))) ⟨rfl,rfl,rfl,rfl⟩))),?_⟩;show⟨_,⟨J,T.au,T.kg,rfl⟩,_,rfl,.inl ⟨[],.inl D⟩,_,⟨J,T.au,T.cg,rfl⟩,_,.inl (Ab Z),?_⟩;rw[As];show⟨z,_,rfl,Y,by simp_all,λV s=>⟨_,.inl ⟨[],.inr z,.inl (s _ _ D),rfl,rfl⟩,k V s⟩⟩
def Xl(F:Bh):Ax:=λI H Q O=>VU (λ(D:List AR)(X:EA)(E V U:Int)(C:Nat->Dz)(J:Nat->FC)(Z:Nat->EN)(m:Option Int)(Y:AE->Nat)=>I=[.ref X.x,J7 m]) (λD X E V U C J Z O O=>Cc F [] H D X E V U C J Z) (λD O O O O O O O O O=>C8 D) (λD O O O O O O O O O=>D.length<=8) (λO X O O O O O O O O=>X.hs.length<=8) (λO X O O O O O O O Y=>(∀z,Y z<X.hs.length)) (λD X O O O O J Z O Y=>(∀i,i<X.hs.length->∀t∈Ap D,(Z i t).length<=600/\∀z,D1 (J i t z)/\(J i t z).length<=3000/\(J i t z≠[]->Y z=i))) (λD O O O O O J O O Y=>(∀W:List C3,(W.map C9).Nodup->(∀q∈W,q.1∈Ap D/\q.2.2∈J (Y q.2.1) q.1 q.2.1)->W.length<=14400000)) (λD X E V U C J Z m Y=>∀A r G W B,CA (F6 D X) H A->Cc F [] A D X E V U C (λi t z=>ES m (J i t z)) B->(∀i,i<X.hs.length->∀t∈Ap D,(B i t).length<=(Z i t).length)->H r=AF->A r=AA (.lst G)->BF (II D A) G W->(W.map C9).Nodup->C5 (W.map C9)->(∀q:C3,q∈W↔q.1∈Ap D/\q.2.2∈FH m (J (Y q.2.1) q.1 q.2.1))->W.length<=14400000->Q (.ref r) A)
theorem W5{K:An}{ad:Bh}(T:BA K mg ad):T.mi.Ok A3 P w mg base 8 (Xl ad):=by
  show T.mi.ok λnd O0 O0 O0 O0 O0 hr H vs Q E h=>?_;lk;obtain⟨g,X,sl,now,cnt,sd,W,gk,m,hm,rfl,hb,pok,lss,lhs,hml,lg,bnd,k⟩:=h;k_in;show⟨_,(Dw (Bw 2 nd (DB E3)) (Dw (DQ Dc rfl (DH (K:=K) (BC (AH 0) rfl)) (D7 3 nd) (Aa (EU (Ic (K:=K) Le O5 RE NK (AH 2) (Y9 (Ee (AH 3) T.di (iO T) hr (Y9 (AH 1) E3)) E3))))) (Aa (Ay (A5 (W2 T) hr (Y9 (CL (TR (K:=K) hr) (by rfl) T.ju Oz (Y9 (AH 2) E3)) E3)))))),?_⟩;have sz:Az=16777216:=D8;showλO0 O0 O0 O0 z1=>⟨BZ _,λN A=>z1 _ _ ?_⟩;show BQ (o:=.lst []) A λH0 s0 et0=>?_;have v:=(hb.jo A).ah s0;have nlt:X.lh≠N:=A4 hb.cb A;have npt:=λi G f=>A4 (hb.cp i G f).kh A;obtain⟨dx0,eo0⟩:=v.av;have ovm:∀{l:List AY}{p:AY},p∈FH m l->p∈l:=λ{l p}h=>by cases m with |none=>show h|some n=>show(EH.mp h).1
  showλO0 O0 O0 O0 z2=>⟨_,⟨eo0,T.au,T.cg,rfl⟩,X.lh,rfl,⟨_,Ab v.cb⟩,Gf (K:=K) (xs:=X.hs.map λh=>AD.ref h.x) (λn σ H'=>QS (λ(o3:Option AD)(D:List AD)(M:List C3)(O:Nat->EN)=>σ=[AA (.ref X.x),AA (J7 m),AA (.ref N),o3]) (λO0 O0 O0 O0=>CA (λb=>b=N\/F6 g X b) H0 H') (λO0 O0 O0 O=>Cc ad [N] H' g X sl now cnt sd (λi t z=>if i<n then ES m (W i t z)else W i t z) O) (λO0 O0 O0 O=>(∀i,i<X.hs.length->∀t∈Ap g,(O i t).length<=(gk i t).length)) (λO0 D O0 O0=>H' N=AA (.lst D)) (λO0 D M O0=>BF (Jz g H') D M) (λO0 O0 M O0=>(M.map C9).Nodup) (λO0 O0 M O0=>∀q:C3,q∈M↔hm q.2.1<n/\q.1∈Ap g/\q.2.2∈FH m (W (hm q.2.1) q.1 q.2.1))) ⟨AF,[],[],gk,rfl,λb o O0 e=>e,v.ud λi O0 t O0=>funext λz=>AED (Il _),λi O0 t O0=>Ag _,et0,.nil,.nil,λq=>⟨λh=>(by cases h),λh=>absurd h.1 (Il _)⟩⟩ (λn σ H' O0 hh=>by obtain⟨_,_,_,_,_,_,h',_⟩:=hh;show Ab h'.cb) ?_ ?_⟩
  . intro n y σ H2 hy hI;lk;obtain⟨o3,D,M,s,rfl,s2,Z,B,U,C,L,I⟩:=hI;rw[Bl]at hy;obtain⟨F,f,rfl⟩:=Dp.mp hy;have hn:n<X.hs.length:=(BH.mp f).1;have hh:=Z.cp n F f;have gn:(λt z=>if n<n then ES m (W n t z)else W n t z)=W n:=funext λt=>funext λz=>AED (GI _);rw[gn]at hh;obtain⟨dxh,eh⟩:=hh.av;k_in;show⟨.inl ⟨rfl,_,Ab U⟩,F.x,dxh,_,rfl,eh,by rfl,[N],g,F,sd n,W n,s n,m,rfl,hh,pok,lss,(λc hc=>by rw[BV.mp hc];show⟨_,U⟩),(λt S=>Af (B n hn t S) (lg n hn t S).1),(λt S z=>⟨((lg n hn t S).2 z).1,((lg n hn t S).2 z).2.1⟩),λH3 r xs d gk3 s3 h3 lg3 hr3 er3 mk3 nd3 J=>?_⟩;have Y:=Z.nv f s3 h3;rw[Ss]at Y;have j:=hh.kp s3 U (by intro kvs z;cases z);have tp3:Bd H2 H3:=λb zs e=>hh.kp s3 e (by intro kvs z;cases z);have hmn:∀q∈d,hm q.2.1=n:=λq hq=>by obtain⟨u,R⟩:=(J q).mp hq;show((lg n hn q.1 u).2 q.2.1).2.2 λz=>by have:=ovm R;rw[z]at this;cases this
    have mmA:∀q:C3,q∈M++d↔hm q.2.1<n+1/\q.1∈Ap g/\q.2.2∈FH m (W (hm q.2.1) q.1 q.2.1):=λq=>by
      rw[CS,I];constructor
      . rintro(⟨u,R⟩|h);.show⟨Ni u,R⟩
        . have e:=hmn q h;rw[e];show⟨Jo _,(J q).mp h⟩
      . rintro⟨u,R,h3⟩;by_cases e:hm q.2.1=n;. rw[e]at h3;show .inr ((J q).mpr ⟨R,h3⟩)
        .show .inl ⟨Cy (Dl u) e,R,h3⟩
    have ndA:((M++d).map C9).Nodup:=by rw[Ce];show Z9.mpr ⟨L,nd3,λa ha b hb e=>?_⟩;subst e;obtain⟨x,hx,rfl⟩:=A7.mp ha;obtain⟨y,hy,e⟩:=A7.mp hb;have u:=((I x).mp hx).1;have R:=hmn y hy;have e2:y.2.1=x.2.1:=Gr (DS (DS (DS e).2).2).1;rw[e2]at R;show xJ (BW R.symm) u
    have lA:=bnd _ ndA λq hq=>⟨((mmA q).mp hq).2.1,ovm ((mmA q).mp hq).2.2⟩;rw[Bs]at lA;have l2:=(CO C).1;have l3:=(CO mk3).1;show⟨N,r,D,xs,rfl,rfl,j,er3,by lia,?_⟩;have tp4:Bd H3 (AK H3 N (.lst (D++xs))):=(Ge H3).ik j λxs=>by intro z;cases z
    show⟨_,D++xs,M++d,_,rfl,λb o nb e=>?_,(Y.zf (.head _) j nlt npt).ud λi O0 t O0=>?_,λi hi t S=>?_,AZ,D9 (JY C λb zs e=>tp4 _ _ (tp3 _ _ e)) (JY mk3 tp4),ndA,mmA⟩;. rw[AU λz=>nb (.inl z)];show s3 _ _ (λz=>nb (.inr (.inr ⟨n,F,f,z⟩))) (s2 b o nb e)
    . unfold FW;by_cases q:i=n;. subst q;rw[AEE rfl];funext z;show AEE (Jo _)
      . rw[AED q];funext z;change(if i<n+1 then ES m (W i t z)else W i t z)=if i<n then ES m (W i t z)else W i t z;by_cases q2:i<n;.rw[AEE q2,AEE (Ni q2)]
        .rw[AED q2,AED (Kg q2 (λu1=>Cy (Dl u1) q))]
    . unfold FW;by_cases q:i=n;. subst q;rw[AEE rfl];show Af (lg3 t S) (B i hi t S)
      . rw[AED q];show B i hi t S
  . intro σ H2 hI;lk;obtain⟨o3,D,M,s,rfl,s2,Z,B,U,C,L,I⟩:=hI;rw[As]at Z I;have Y:=Z.ji.ud (gg':=λi t z=>ES m (W i t z)) λi hi t O0=>funext λz=>(AEE hi).symm;have J:=λq=>(I q).trans ⟨λh=>h.2,λh=>⟨hml _,h⟩⟩;have lq:=bnd _ L λq hq=>⟨((J q).mp hq).1,ovm ((J q).mp hq).2⟩;obtain⟨ds,ed,sn⟩:=Wa (K:=K) C L;k_in;show z2 _ _ ⟨N,D,ds,_,rfl,Ab U,sn,λl qq hl pq sq=>?_⟩;rw[ed]at pq;lk;obtain⟨R',p1,w1,e1⟩:=Xi C pq;k_in;have hl2:=hl;show BQ hl λH3 s3 el=>?_;lk;obtain⟨ys,q1,q2⟩:=We (JY w1 s3.tp);k_in;have lr:=p1.length_eq;have ly:=(CO q2).1;have lx:=(CO w1).1;show⟨l,_,ys,rfl,el,by lia,q1,λr hr=>?_⟩;have s4:=Bb (o:=.lst ys) hr;have frH:∀b,H2 b=AF->H b=AF:=λb e=>by cases q:H b with|none=>rfl|some o=>
        have q0:=s0 _ _ q;by_cases z:b=N\/F6 g X b
        . rcases z with z|z|⟨i,G,f,z⟩;.rw[z,U]at e;cases e
          . obtain⟨_,e'⟩:=Y.cw;rw[<-z,e]at e';cases e'
          . obtain⟨kv,e'⟩:=(Y.cp i G f).abg z;rw[e]at e';cases e'
        .rw[s2 b o z q0]at e;cases e
    show k _ r ys R' s (λb o nb e=>s4 _ _ (s3 _ _ (s2 b o (λz=>z.elim (λz=>by rw[z,A]at e;cases e) nb) (s0 _ _ e)))) ((Y.ah s3).ah s4) B (frH _ (s3.ar hr)) AZ (Mq q2 s4.tp) ((p1.map C9).nodup_iff.mpr L) (by change Zy _ _;rw[e1];show sq) (λq=>by rw[p1.mem_iff];show J q) (Af (BW lr) lq)
noncomputable def FG(X:EA)(z:AE):Nat:=(J5 X.hs.length z).toNat
theorem WK(h:0<m)(z:AE):0<=J5 m z/\J5 m z<m:=⟨Fz _ (JR h),HP _ h⟩
theorem Mi(h:0<X.hs.length)(z:AE):FG X z<X.hs.length:=by have:=WK (m:=X.hs.length) (by simp_all) z;unfold FG;simp_all
theorem WJ(h:0<X.hs.length)(z:AE):J5 X.hs.length z=((FG X z:Nat):Int):=by have:=WK (m:=X.hs.length) (by simp_all) z;show AAZ.mpr this.1
noncomputable abbrev Ku(X:EA)(evs:List Bf)(i:Nat):List Bf:=Cu (λz=>Ac (FG X z=i)) evs
noncomputable abbrev Cq(ss:List AR)(X:EA)(evs:List Bf)(i:Nat):AE->List AN:=Bv ss (Ku X evs i)
section
variable{ad:Bh}
structure JU(ad:Bh)(H:AG)(ss:List AR)(X:EA)(sl now cnt:Int)(sd:Nat->Dz)(gk:Nat->EN)(evs:List Bf):Prop where
 ag:Cc ad [] H ss X sl now cnt sd (λi=>DJ ss now (Cq ss X evs i)) gk
 wt:∀i,i<X.hs.length->∀t∈Ap ss,(gk i t).length<=(Cq ss X evs i (Eu ss t)).length
 ax:∀i,i<X.hs.length->∀(t:Nat)n a b wi,ss[t]?=AA (.join n a b wi)->(sd i t).1.Perm (BJ (now-wi) (Cq ss X evs i a))/\(sd i t).2.Perm (BJ (now-wi) (Cq ss X evs i b))
end
def Mg(ss:List AR)(evs:List Bf):Prop:=∀(p:AE->Bool)(i:Nat)s,ss[i]?=AA s->s.cu=AM->(Bv ss (Cu p evs) s.nm).length<=600/\∀x∈Bv ss (Cu p evs) s.nm,0<=x.1/\x.1<=1000000000
theorem Mg.acb(h:Mg ss evs)(D:C8 ss)(p:AE->Bool)(Y:t∈Ap ss):(Bv ss (Cu p evs) (Eu ss t)).length<=600/\∀x∈Bv ss (Cu p evs) (Eu ss t),0<=x.1/\x.1<=1000000000:=by lk;obtain⟨s,J,B⟩:=HW.mp Y;obtain⟨_,_,W⟩:=D.iu J B;obtain⟨Z,z,_,U,V,A⟩:=D.qm t s _ J (by rw[W];show .head _);k_in;rw[Gs J,<-V];show h p Z z U A
theorem JW(evs:List Bf):Cu (λO=>AI) evs=evs:=Ud.mpr λO O=>rfl
theorem Mg.ud(h:Mg ss evs)(D:C8 ss)(p:AE->Bool)(now:Int)(W:t∈Ap ss)(z:AE):D1 (DJ ss now (Bv ss (Cu p evs)) t z)/\(DJ ss now (Bv ss (Cu p evs)) t z).length<=3000:=by lk;obtain⟨s,U,Z⟩:=HW.mp W;obtain⟨Y,V⟩:=h.acb D p W;k_in;rw[Gs U]at Y V;rw[Jb U];have J:=(D.iu U Z).1;have:=Sk (z:=z) (now:=now) J V;show⟨VS (Sj J),by lia⟩
theorem Mg.afh(h:Mg ss evs)(D:C8 ss)(U:ss.length<=8)(now:Int)(qs:List C3)(A:(qs.map C9).Nodup)(Z:∀q∈qs,q.1∈Ap ss/\q.2.2∈DJ ss now (Cq ss X evs (FG X q.2.1)) q.1 q.2.1):qs.length<=14400000:=by
 show fT D U (L:=Bv ss evs) (λt z=>?_) A λq Y=>?_
 . have:=h.acb D (λO=>AI) z;rw[JW]at this;show this
 . lk;obtain⟨W,J⟩:=Z q Y;rw[OB (AEF rfl)]at J;obtain⟨s,V,B⟩:=HW.mp W;k_in;rw[Jb V]at J;show⟨s,V,B,(EH.mp J).1⟩
theorem P9(W:now<=D)(U:S.Perm (BJ (now-wi) A))(V:J.Perm (A++B)):(BJ (D-wi) (S++B)).Perm (BJ (D-wi) J):=by show .trans ?_ (V.symm.filter _);change(Qy _ _).Perm _;rw[GG,GG];show .append ((U.filter _).trans (.of_eq ?_)) (.refl _);show Xh (by simp_all) A
theorem eY(h:p e.2.2.1=AI):Cu p (evs++[e])=Cu p evs++[e]:=by unfold Cu;rw[GG];congr 1;show Uc h
theorem eZ(h:p e.2.2.1=AM):Cu p (evs++[e])=Cu p evs:=by unfold Cu;rw[GG,Ub (by rw[h];show DN)];show Ea _
def mZ(B:Bh):Ax:=λG H Q O=>Rj (λ(U:List AR)(X:EA)(Y D V:Int)(A:Nat->Dz)(z:Nat->EN)(J:List Bf)(e:Bf)(q:AB)=>G=[.ref X.x,.ref q]) (λU X Y D V A z J O O=>JU B H U X Y D V A z J) (λU O O O O O O O O O=>C8 U) (λU O O O O O O O O O=>U.length<=8) (λO X O O O O O O O O=>0<X.hs.length) (λO X O O O O O O O O=>X.hs.length<=8) (λO O O O O O O O e q=>HR H q e) (λO O O O O O O O e O=>Cp e.2.2.1) (λU O O O O O O J e O=>Mg U (J++[e])) (λU X Y D V A z J e O=>(e.1<D->∀W p r,CA (F6 U X) H W->JU B W U X Y D (V+1) A z J->H p=AF->H r=AF->W p=AA (.tup [.bl AM,.ref r])->W r=AA (.lst [])->Q (.ref p) W)) (λU X Y D V O O J e q=>(D<=e.1->∀W p r F Z E C,CA (F6 U X) H W->JU B W U X Y (Ew D Y e.1) (V+1) E C (J++[e])->H p=AF->H r=AF->W p=AA (.tup [.bl AI,.ref r])->W r=AA (.lst F)->BF (II U W) F Z->(Z.map C9).Nodup->C5 (Z.map C9)->(∀q:C3,q∈Z↔q.1∈Ap U/\q.2.2∈JA (Ew D Y e.1) (DJ U D (Bv U (J++[e])) q.1 q.2.1))->Z.length<=14400000->Q (.ref p) W))
theorem jA{K:An}{ad:Bh}(T:BA K mg ad):T.rl.Ok A3 P w mg base 9 (mZ ad):=by
  show T.rl.ok λnd O0 O0 O0 O0 O0 hr H vs Q E h=>?_;lk;obtain⟨J,X,f,U,Z,m,gk,D,e,q,rfl,u,Y,lss,m0,m8,ev,az,C,kl,k⟩:=h;k_in;show⟨_,(Ae (B0 (KW (Ij (Ee (BC (AH 0) rfl) T.bu (Wm T) hr (Y9 (BG K (AH 1) AO) E3)))) (Aa (Ay (Cn (Y9 Fb (Y9 (DB E3) E3))))) CQ) (Dw (EU (Ee (JF K (BC (AH 0) rfl) (Ee (AH 0) T.au (SU T) hr (Y9 (BG K (AH 1) AO) E3))) T.di (gP T) hr (Y9 (AH 1) E3))) (Dw (DQ Dc rfl (DH (K:=K) (BC (AH 0) rfl)) (D7 2 nd) (Aa (EU (Ee (AH 2) T.di (hU T) hr (Y9 (BC (BC (AH 0) rfl) rfl) E3))))) (Aa (Ay (Cn (Y9 Fb (Y9 (Ee (AH 0) T.au (W5 T) hr (Y9 (BC (BC (AH 0) rfl) rfl) E3)) E3)))))))),?_⟩;have sz:Az=16777216:=D8;lk;obtain⟨dx,ex⟩:=u.ag.av;obtain⟨dc,ec⟩:=u.ag.cw;k_in;have nl:=Wj (n:=U) (s:=f) (t:=e.1);show⟨_,⟨ex,T.au,T.fw,rfl⟩,X.ck,dc,_,rfl,ec,by rfl,_,_,Aq ev,Ao (j:=0) rfl,X.ck,dc,e.1,f,U,Z,rfl,ec,_,rfl,?_⟩;by_cases he:e.1<U
  . rw[AEH (JS he:¬U<=e.1)];have e0:Ew U f e.1=U:=AEE he;rw[e0];have x1:BR X.ck H (AK H X.ck (.ins ad.aj dc (EM f U (Z+1)))):=λb o L e=>by rw[AU L];show e
    have O:=u.ag.abn x1 AZ;have fr1:∀b,(AK H X.ck (.ins ad.aj dc (EM f U (Z+1)))) b=AF->H b=AF:=λb e=>F9 e;show GC ⟨BZ _,λr hr=>?_⟩;have hrH:=fr1 _ hr;show BQ hr λH2 s2 er=>⟨CY rfl,λp hp=>?_⟩;have s3:=Bb (o:=.tup [.bl AM,.ref r]) hp;show kl he _ p r (λb o L e=>s3 _ _ (s2 _ _ (x1 _ _ (λz=>L (.inl z)) e))) ⟨(O.ah s2).ah s3,u.wt,u.ax⟩ (fr1 _ (s2.ar hp)) hrH AZ (s3 _ _ er)
  have he:U<=e.1:=by simp_all
  have k:=k he;clear kl;rw[AEF he];show EG ?_;generalize Ew U f e.1=c at nl k⊢;have x1:BR X.ck H (AK H X.ck (.ins ad.aj dc (EM f c (Z+1)))):=λb o L e=>by rw[AU L];show e
  have O:=u.ag.abn x1 AZ;have ev1:HR (AK H X.ck (.ins ad.aj dc (EM f c (Z+1)))) q e:=x1 _ _ (λz=>by have ev:H q=_:=ev;rw[z,ec]at ev;cases ev) ev;have fr1:∀b,(AK H X.ck (.ins ad.aj dc (EM f c (Z+1)))) b=AF->H b=AF:=λb e=>F9 e;obtain⟨dx1,ex1⟩:=O.av;have ih:=Mi m0 e.2.2.1;have ei:=Cd ih;generalize X.hs[FG X e.2.2.1]=F at ei;have eH:=WJ m0 e.2.2.1;have fe1:Ku X (D++[e]) (FG X e.2.2.1)=Ku X D (FG X e.2.2.1)++[e]:=eY (AEF rfl);have x:∀{i:Nat},i≠FG X e.2.2.1->Ku X (D++[e]) i=Ku X D i:=λ{i}h=>eZ (AEH (DZ h));generalize FG X e.2.2.1=W at ih ei eH fe1 x;have hS:=u.ax W ih;have hLm:∀(t:Nat)s,J[t]?=AA s->s.cu=AM->Cq J X D W s.nm=ED s (Cq J X D W) (Ku X D W)/\Cq J X (D++[e]) W s.nm=ED s (Cq J X (D++[e]) W) (Ku X D W++[e])/\(Cq J X (D++[e]) W s.nm).length<=600:=λt s es tt=>⟨Mf Y es,by rw[<-fe1];show Mf Y es,(C _ t s es tt).1⟩;showλO0 O0 O0 O0 z1=>⟨_,⟨ex1,T.au,T.cg,rfl⟩,X.x,dx1,_,rfl,ex1,by rfl,_,_,Aq ev1,Ao (j:=2) rfl,X,dx1,e.2.2.1,rfl,ex1,O.cb,O.iz,az,m0,m8,λHa sa=>?_⟩;have hba:=O.ah sa;have hh:=hba.cp W F ei;obtain⟨dxh,eh⟩:=hh.av;show⟨_,_,Ab hba.cb,by rw[eH];show Ao (by rw[Bl,ei];rfl),F.x,dxh,_,rfl,eh,by rfl,J,F,m W,gk W,Cq J X D W,Cq J X (D++[e]) W,Ku X D W,e,U,q,rfl,hh,Y,lss,sa _ _ ev1,hLm,hS,he,u.wt W ih,(λt s es tt=>(C _ t s es tt).2),λH2 bt gk2 s2 h2 lg2 br2=>z1 _ _ ?_⟩;have R:=hba.nv ei s2 h2;have ap:=Pl Y he hLm hS br2 J.length;have fdp:∀{t:Nat}{n a b:AE}{M:Int},J[t]?=AA (.join n a b M)->(Cq J X (D++[e]) W a).Perm (Cq J X D W a++bt a)/\(Cq J X (D++[e]) W b).Perm (Cq J X D W b++bt b):=λ{t n a b M}N=>by have I:t<J.length:=(BH.mp N).1;obtain⟨i1,s1,l1,e1,rfl,t1⟩:=Y.qm t _ a N (.head _);obtain⟨i2,s2,l2,e2,rfl,t2⟩:=Y.qm t _ b N (.tail _ (.head _));show⟨ap i1 s1 (Ke l1 I) e1 t1,ap i2 s2 (Ke l2 I) e2 t2⟩
  have key:∀i,i<X.hs.length->∀(t:Nat)n a b M,J[t]?=AA (.join n a b M)->((BJ (c-M) (FW m W (ER J (m W) J.length bt) i t).1).Perm (BJ (c-M) (Cq J X (D++[e]) i a))/\(BJ (c-M) (FW m W (ER J (m W) J.length bt) i t).2).Perm (BJ (c-M) (Cq J X (D++[e]) i b)))/\(FW m W (ER J (m W) J.length bt) i t).1.length<=1000/\(FW m W (ER J (m W) J.length bt) i t).2.length<=1000:=λi d t n a b M N=>by
    obtain⟨pa,pb⟩:=u.ax i d t n a b M N;obtain⟨i1,s1,l1,e1,en1,t1⟩:=Y.qm t _ a N (.head _);obtain⟨i2,s2,l2,e2,en2,t2⟩:=Y.qm t _ b N (.tail _ (.head _));have la:=(C (λz=>Ac (FG X z=i)) i1 s1 e1 t1).1;have lb:=(C (λz=>Ac (FG X z=i)) i2 s2 e2 t2).1;rw[en1]at la;rw[en2]at lb;have h1:=Lz (U-M) (Cq J X D i a);have h2:=Lz (U-M) (Cq J X D i b);unfold FW;by_cases S:i=W
    . subst S;rw[AEE rfl,JZ N,AEE (BH.mp N).1];obtain⟨qa,qb⟩:=fdp N;show⟨⟨P9 nl pa qa,P9 nl pb qb⟩,?_⟩;have h3:=qa.length_eq;have h4:=qb.length_eq;have h5:=pa.length_eq;have h6:=pb.length_eq;rw[Bs]at h3 h4⊢;rw[Bs];(constructor<;>lia)
    . rw[AED S];have e0:=x S;have ua:=P9 (B:=[]) nl pa (.of_eq (Ea _).symm);have ub:=P9 (B:=[]) nl pb (.of_eq (Ea _).symm);rw[Ea]at ua ub;have h5:=pa.length_eq;have h6:=pb.length_eq;rw[show Cq J X (D++[e]) i=Cq J X D i from AEG (Bv J) e0];show⟨⟨ua,ub⟩,by lia,by lia⟩
  generalize FW m W (ER J (m W) J.length bt)=sdA at key R;have lgA:∀i,i<X.hs.length->∀t∈Ap J,(FW gk W gk2 i t).length<=(Cq J X (D++[e]) i (Eu J t)).length:=λi d t I=>by
    unfold FW;by_cases S:i=W;. subst S;rw[AEE rfl];show lg2 t I
    . rw[AED S,show Cq J X (D++[e]) i=Cq J X D i from AEG (Bv J) (x S)];show u.wt i d t I
  generalize FW gk W gk2=gkA at lgA R;have R:=R.ud (gg':=λi=>DJ J U (Cq J X (D++[e]) i)) λi d t I=>by
    unfold FW;by_cases S:i=W;. subst S;rw[AEE rfl]
    .rw[AED S,show Cq J X (D++[e]) i=Cq J X D i from AEG (Bv J) (x S)]
  have u2:CA (F6 J X) H H2:=λb o L e=>s2 _ _ (λz=>L (.inr ⟨W,F,ei,z⟩)) (sa _ _ (x1 _ _ (λz=>L (.inl z)) e));obtain⟨dx2,ex2⟩:=R.av;clear hh hba O h2 lg2 br2 ap fdp hLm hS;showλO0 O0 O0 O0 z2=>⟨_,⟨ex2,T.au,T.cg,rfl⟩,X.lh,rfl,⟨_,Ab R.cb⟩,Gf (K:=K) (xs:=X.hs.map λh=>AD.ref h.x) (λn σ H'=>Hh (λ(o2:Option AD)(sd':Nat->Dz)=>σ=[AA (.ref X.x),AA (.ref q),o2]) (λO0 O0=>CA (F6 J X) H H') (λO0 sd'=>Cc ad [] H' J X f c (Z+1) sd' (λi=>DJ J U (Cq J X (D++[e]) i)) gkA) (λO0 sd'=>∀i,sd' i=if i<n then Lp J c (sdA i)else sdA i)) ⟨AF,sdA,rfl,u2,R,λi=>(AED (Il _)).symm⟩ (λn σ H' O0 hh=>by obtain⟨_,_,_,_,h',_⟩:=hh;show Ab h'.cb) ?_ ?_⟩
  . intro n y σ H3 hy hI;lk;obtain⟨o2,sd3,rfl,u3,A,g⟩:=hI;rw[Bl]at hy;obtain⟨G,eg,rfl⟩:=Dp.mp hy;have hn:n<X.hs.length:=(BH.mp eg).1;have h3:=A.cp n G eg;have sn:=g n;rw[AED (GI _)]at sn;rw[sn]at h3;obtain⟨dg3,eg3⟩:=h3.av;obtain⟨dx3,v⟩:=A.av;obtain⟨dc3,ec3⟩:=A.cw;k_in;show⟨G.x,dg3,_,rfl,eg3,by rfl,_,⟨v,T.au,T.fw,rfl⟩,_,⟨ec3,T.bu,T.df,rfl⟩,J,G,sdA n,_,gkA n,c,rfl,h3,(λt hh=>by obtain⟨nn,a,b,M,N⟩:=hh;show(key n hn t nn a b M N).2),λH4 s4 h4=>?_⟩;have l:=A.nv eg s4 h4;rw[Ss gkA,Ss (λi=>DJ J U (Cq J X (D++[e]) i))]at l;show⟨_,_,rfl,λb o L e=>s4 _ _ (λz=>L (.inr ⟨n,G,eg,z⟩)) (u3 b o L e),l,λi=>?_⟩;unfold FW;by_cases S:i=n;. subst S;rw[AEE rfl,AEE (Jo _)]
    . rw[AED S,g i];by_cases q2:i<n;.rw[AEE q2,AEE (Ni q2)]
      .rw[AED q2,AED (Kg q2 (λu1=>Cy (Dl u1) S))]
  . intro σ H3 hI;lk;obtain⟨o2,sd3,rfl,u3,A,g⟩:=hI;rw[As]at g;obtain⟨dx3,v⟩:=A.av;obtain⟨dc3,ec3⟩:=A.cw;k_in;show z2 _ _ ⟨X.x,dx3,_,rfl,v,by rfl,_,⟨v,T.au,T.fw,rfl⟩,_,⟨ec3,T.bu,T.df,rfl⟩,J,X,f,c,Z+1,sd3,_,gkA,AA c,FG X,rfl,A,Y,lss,m8,Mi m0,(λi d t I=>⟨Af (lgA i d t I) (C.acb Y _ I).1,λz=>⟨(C.ud Y _ U I z).1,(C.ud Y _ U I z).2,λhz=>?_⟩⟩),(λqs nd hq=>C.afh Y lss U qs nd hq),λH4 r xs qs gk4 u4 l lg4 hr4 er4 pr4 nd4 sd4 mm4 lq4=>⟨CY rfl,λp hp=>?_⟩⟩
    . show Nx λhne=>hz ?_;show Ms (AEH hne) U t
    have s5:=Bb (o:=.tup [.bl AI,.ref r]) hp;have kk:∀b o,¬F6 J X b->H b=AA o->H4 b=AA o:=λb o L e=>u4 b o L (u3 b o L e);have thr:∀(Hx:AG),(∀b o,¬F6 J X b->H b=AA o->Hx b=AA o)->(∀b,F6 J X b->∃o,Hx b=AA o)->∀b,Hx b=AF->H b=AF:=λHx h1 h2 b e=>by cases q0:H b with |none=>rfl|some o=>
        by_cases z:F6 J X b
        . obtain⟨o',e'⟩:=h2 b z;rw[e]at e';cases e'
        .rw[h1 b o z q0]at e;cases e
    have ths:∀{Hx:AG}{gg:Nat->FC}{gk:Nat->EN},Cc ad [] Hx J X f c (Z+1) sd3 gg gk->∀b,F6 J X b->∃o,Hx b=AA o:=λ{Hx gg gk}h b hb=>h.gw (hb.elim (λz=>.inr (.inl z)) λ⟨i,G,eg,z⟩=>.inr (.inr (.inr (.inr ⟨i,G,eg,.inr (.inr (.inr z))⟩))));show k _ p r xs qs sd3 gk4 (λb o L e=>s5 _ _ (kk b o L e)) ⟨(l.ah s5).ud λi d t I=>?_,λi d t I=>Af (lg4 i d t I) (lgA i d t I),λi d t n a b M N=>?_⟩ (thr H4 kk (ths l) p hp) (thr H3 u3 (ths A) r hr4) AZ (s5 _ _ er4) (Mq pr4 s5.tp) nd4 sd4 (λq=>?_) lq4;. lk;obtain⟨s,es,_⟩:=HW.mp I;k_in;rw[Jb es,Jb es];funext z;show(W7 nl _).symm
    . rw[g i,AEE d,R6 N];show(key i d t n a b M N).1
    . rw[mm4 q];change _/\q.2.2∈JA c (DJ J U (Cq J X (D++[e]) (FG X q.2.1)) q.1 q.2.1)↔_;rw[OB (AEF rfl)]
theorem jB{K:An}(T:BA K G W):T.og.Ok A3 P w G base 9 (λvs H Q E=>FZ (λ(x:AD)=>vs=[x]) (λx=>Xl W [x,.non] H Q E)):=by show T.og.ok λd o o o o o F H vs Q E h=>?_;lk;obtain⟨x,rfl,h⟩:=h;k_in;show⟨_,(Aa (Ay (Ee (AH 0) T.au (W5 T) F (Y9 NO E3)))),?_⟩;lk;obtain⟨c,X,b,J,D,a,A,B,m,C,e1,U,I,L,M,N,O,R,S⟩:=h;obtain⟨Y,z⟩:=U.av;k_in;have Z:=(DS e1).1;subst Z;show⟨X.x,Y,_,rfl,z,by rfl,c,X,b,J,D,a,A,B,m,C,e1,U,I,L,M,N,O,R,S⟩
def J4(H:AG)(xs:List AD)(D:List (List AD)):Prop:=BF (λx u=>∃a,x=.ref a/\H a=AA (.tup u)) xs D
theorem J4.ae(h:J4 H xs D)(t:Bd H H'):J4 H' xs D:=Hm (λ_ _⟨a,e,e1⟩=>⟨a,e,t _ _ e1⟩) h
def nC:Ax:=λZ H Q O=>FK (λ(d:AB)(D:List (AL×AD))(F:AL->List (List AD))=>Z=[.ref d]) (λd D O=>H d=AA (.dK D)) (λO D O=>D.length<=600) (λO D F=>(∀q∈D,∃(z:AE)(r:AB)(W:List AD),q=(.inr z,.ref r)/\H r=AA (.lst W)/\J4 H W (F q.1)/\(F q.1).length<=3000/\∀u∈F q.1,u≠[]/\u.length<=3)) (λO D F=>∀J r Y(U:List AL),Aj H J->H r=AF->J r=AA (.lst Y)->J4 J Y (U.flatMap λk=>(F k).map λu=>Ar k::u)->U.Perm (D.map (·.1))->U.Pairwise (λa b=>EY b a=AM)->Q (.ref r) J)
theorem W6{K:An}{ad:Bh}(T:BA K mg ad):T.vf.Ok A3 P w mg base 1 nC:=by
  show T.vf.ok λnd O O O O O hr H vs Q E h=>?_;lk;obtain⟨d,kvs,F,rfl,ed,lk,hq,k⟩:=h;k_in;show⟨_,(Ae (Bw 1 nd (DB E3)) (Ae (DQ Dc rfl (DH (K:=K) (CL (oV rfl) (by rfl) T.ju Oz (Y9 (AH 0) E3))) (D7 2 nd) (Aa (EU (Ic (K:=K) Le O5 RE NK (AH 1) (Y9 (Ib (CT XX) [("key",2)] ⟨rfl,rfl,trivial⟩ (DH (K:=K) (GS hr.u1 (AH 0) (AH 2) (λO O=>rfl))) (λO O O O=>Gi) (λO O O O=>(AW (T6 (K:=K)) (Cn (Y9 (AH 1) E3)) (AH 0)))) E3))))) (Aa (Ay (AH 1))))),?_⟩;have sz:Az=16777216:=D8;show⟨BZ _,λl hl=>?_⟩;show BQ (o:=.lst []) hl λH1 s1 el=>?_;show⟨d,kvs,rfl,s1 _ _ ed,.inr λq hq'=>?_,λls ks hls pk ps=>?_⟩
  . lk;obtain⟨z,r,xs,e,_⟩:=hq q hq';k_in;show⟨z,by rw[e]⟩
  have hls':=hls;show BQ (o:=.lst (ks.map Ar)) hls λH2 s2 els=>?_;have nll:ls≠l:=λz=>by rw[z,el]at hls';cases hls'
  have lks:ks.length<=600:=by rw[pk.length_eq,As];assumption
  show⟨ls,rfl,⟨_,Ab els⟩,Gf (xs:=ks.map Ar) (λi σ H'=>QQ (λ(o2:Option AD)(acc:List AD)=>σ=[AA (.ref d),AA (.ref l),o2]) (λO O=>Aj H H') (λO acc=>H' l=AA (.lst acc)) _ (λO acc=>J4 H' acc ((ks.take i).flatMap λk=>(F k).map λu=>Ar k::u)) (λO acc=>acc.length<=3000*i)) ⟨AF,[],rfl,s1.aa s2,s2 _ _ el,els,.nil,BZ _⟩ (λi σ H' O hh=>by obtain⟨_,_,_,_,_,e,_⟩:=hh;show Ab e) ?_ ?_⟩
  . intro i x σ H3 hx hI;lk;obtain⟨o2,acc,rfl,s3,el3,els3,hw3,la⟩:=hI;rw[Bl]at hx;obtain⟨ky,hky,rfl⟩:=Dp.mp hx;have hi:i<ks.length:=(BH.mp hky).1;obtain⟨v,hv⟩:=NY (pk.mem_iff.mp (CZ hky));obtain⟨z,r,xs,e1,er,hw,lf,hu⟩:=hq _ (JG hv);cases e1;k_in;have hxl:=(CO hw).1;have ed3:=s3 _ _ ed;show⟨.inl ⟨rfl,_,Ab el3⟩,d,_,rfl,by have:=L6 (k:=Bx z) ed3;rw[hv]at this;show this,r,rfl,⟨_,Ab (s3 _ _ er)⟩,?_⟩;show IU (K:=K) (xs:=xs) (λj τ acc' H'=>(∃o,τ=[o,AA (.str z)])/\Aj H3 H'/\J4 H' acc' (((F (.inr z)).take j).map λu=>AD.str z::u)) (by lia) ⟨⟨AF,rfl⟩,Bz _,.nil⟩ (λj τ acc' H'⟨_,s',_⟩=>Ab (s' _ _ (s3 _ _ er))) ?_ ?_
    . intro j y τ acc' H4 R1 hy _ hI k1;lk;obtain⟨⟨o,rfl⟩,s4,hw4⟩:=hI;k_in;have hj:j<(F (.inr z)).length:=by have:=(BH.mp hy).1;rw[<-hxl];show this
      have ek:=Cd hj;generalize(F (.inr z))[j]=u at ek;lk;obtain⟨a,rfl,ea⟩:=(CO hw).2 j _ _ hy ek;have ea4:=s4 _ _ (s3 _ _ ea);obtain⟨b1,b2⟩:=hu u (CZ ek);k_in;show⟨CY rfl,λp hp=>?_⟩;show BQ (o:=.tup [.str z]) hp λH5 s5 ep=>?_;show⟨p,a,_,_,rfl,rfl,Aq ep,Aq (s5 _ _ ea4),by simp,by simp;lia,λe=>absurd e b1,λO q hq'=>k1 _ _ _ ⟨⟨_,rfl⟩,(s4.aa s5).ik hq',?_⟩⟩;rw[EI,ek,Ce];show D9 (hw4.ae (s5.ik hq').tp) (.cons ⟨q,rfl,AZ⟩ .nil)
    . intro τ acc' H4 la4 hI D hD;lk;obtain⟨_,s4,hw4⟩:=hI;k_in;show BQ (o:=.lst acc') hD λH5 s5 eD=>?_;have s35:=s4.aa s5;have el5:=s35 _ _ el3;show⟨l,D,_,_,rfl,rfl,el5,eD,by lia,?_⟩;have tp5:Bd H5 (AK H5 l (.lst (acc++acc'))):=(Ge H5).ik el5 λxs=>by intro z;cases z
      show⟨_,acc++acc',rfl,(s3.aa s35).wk hl,AZ,by rw[AU nll];show s35 _ _ els3,?_,by rw[Bs];lia⟩;rw[EI,hky,Q1];show J4.ae (D9 (hw3.ae s35.tp) ?_) tp5;rw[Dk (BW hxl.symm)]at hw4;change J4 H5 acc' ([Bx z].flatMap _);rw[El,AAx,Ea];show hw4.ae s5.tp
  . intro σ H3 hI;lk;obtain⟨o2,acc,rfl,s3,el3,els3,hw3,la⟩:=hI;k_in;rw[As,Dk (Ag _)]at hw3;show k H3 l acc ks s3 hl el3 hw3 pk ps
theorem Ru[Inhabited Y]{p:AL×AD->Y->Prop}:∀{kvs:List (AL×AD)},(kvs.map (·.1)).Nodup->(∀q∈kvs,∃y,p q y)->∃F:AL->Y,∀q∈kvs,p q (F q.1)
 |[],_,_=>⟨λO=>default,λq h=>(by cases h)⟩|q::kvs,n,h=>by
  lk;obtain⟨Z,z⟩:=JL.mp n;obtain⟨F,U⟩:=Ru z λD J=>h D (.tail _ J);obtain⟨y,W⟩:=h q (.head _);k_in;show⟨λk=>if k=q.1 then y else F k,λD J=>?_⟩;rcases B6.mp J with rfl|J
  . change p D (if D.1=D.1 then y else F _);rw[AEE rfl];show W
  . change p D (if D.1=q.1 then y else F _);rw[AED λ(e)=>Z (A7.mpr ⟨D,J,e⟩)];show U D J
theorem P8:∀{kss:List (List AL)}{xs:List AD},J4 H xs (kss.map λD=>D.map Ar)↔CD H xs kss
 |[],xs=>⟨λh=>(by cases h;show .nil),λh=>(by cases h;show .nil)⟩|D::kss,xs=>by
  constructor
  . intro h;cases h with|cons a b=>show .cons a (P8.mp b)
  . intro h;cases h with|cons a b=>show .cons a (P8.mpr b)
theorem Sh{F:AL->List (List AL)}:∀{J:List AL},J.Pairwise (λa b=>EY b a=AM)->J.Nodup->(∀k∈J,C5 (F k))->C5 (J.flatMap λk=>(F k).map λr=>k::r)
 |[],_,_,_=>.nil|k::J,Y,Z,W=>by
  lk;obtain⟨E,G⟩:=G7.mp Y;obtain⟨B,C⟩:=JL.mp Z;k_in;show MS.mpr ⟨?_,Sh G C λk A=>W k (En _ A),λa z b U=>?_⟩
  . show G8.mpr ((W k DI).imp λ{a b}h=>?_);change(if k=k then BO b a else EY k k)=AM;rw[AEE rfl];show h
  . lk;obtain⟨x,_,rfl⟩:=A7.mp z;obtain⟨V,D,U⟩:=Q4.mp U;obtain⟨y,_,rfl⟩:=A7.mp U;k_in;change(if V=k then BO y x else EY V k)=AM;rw[AED (λe=>B (by rw[<-e];show D))];show E V D
def lN(W:Bh):Ax:=λY H Q O=>Pj (λ(U:List AB)(x d:AB)(L:List AN)=>Y=[.ref x]) (λU x d L=>Cm W U H x d L) (λO O O L=>L.length<=600) (λO O O L=>∀J r V D,Aj H J->H r=AF->J r=AA (.lst V)->CD J V D->C5 D->D.Perm (L.map Kw)->Q (.ref r) J)
theorem Ww{K:An}(T:BA K o a):T.ux.Ok A3 P w o base 2 (lN a):=by
  show T.ux.ok λnd O0 O0 O0 O0 O0 I H vs Q E h=>?_;lk;obtain⟨ex,x,d,L,rfl,R,f,k⟩:=h;k_in;show⟨_,(Aa (Ay (A5 (W6 T) I (Y9 (BC (AH 0) rfl) E3)))),?_⟩;lk;obtain⟨dx,c⟩:=R.av;obtain⟨B,b,U,J,m,j⟩:=R.aw;obtain⟨F,N⟩:=Ru (p:=λq A=>FK _ _ _ _ _) U λq Y=>by obtain⟨z,r,G,A,e,_,W,hw,_,V,D⟩:=m q Y;show⟨A,z,r,G,e,W,hw,V,D⟩
  k_in;show⟨_,⟨c,T.fi,T.dk,rfl⟩,d,B,λk=>(F k).map λC=>C.map Ar,rfl,b,Af J f,λq Y=>?_,λX r y C s I W S M t=>?_⟩
  . lk;obtain⟨z,r,G,e,W,hw,_,D⟩:=N q Y;k_in;show⟨z,r,G,e,W,P8.mpr hw,?_,λu n=>?_⟩
    . have:=D.length_eq;have:=Fc (λi:AN=>Ac (i.2.1=z)) L;rw[As]at*;lia
    . lk;obtain⟨v,Z,rfl⟩:=A7.mp n;obtain⟨i,_,rfl⟩:=A7.mp (D.mem_iff.mp Z);k_in;show⟨λz=>(nomatch z),CY rfl⟩
  . have e:(C.flatMap λk=>((F k).map λr=>r.map Ar).map λu=>Ar k::u)=(C.flatMap λk=>(F k).map λr=>k::r).map λr=>r.map Ar:=by rw[Z5];congr 1;funext k;rw[DX,DX];rfl
    rw[e]at S;have O:∀k∈B.map (·.1),∃z:AE,k=.inr z/\C5 (F k)/\(F k).Perm ((L.filter λi=>Ac (i.2.1=z)).map _):=λk J=>by obtain⟨q,Y,rfl⟩:=A7.mp J;obtain⟨z,r,G,e,_,_,V,D⟩:=N q Y;rw[e]at V D⊢;show⟨z,rfl,V,D⟩
    show k X r y _ s I W (P8.mp S) (Sh t (M.nodup_iff.mpr U) λk J=>?_) ?_
    . lk;obtain⟨_,_,V,_⟩:=O k (M.mem_iff.mp J);k_in;show V
    . show(tK M).trans ((ZI (g:=λk=>(L.filter λi=>Ac ((Bx i.2.1)=k)).map Kw) λk J=>?_).trans ?_)
      . lk;obtain⟨z,rfl,_,D⟩:=O k J;k_in;show(D.map _).trans (Qx ?_);rw[DX];have e:(L.filter λi=>Ac ((Bx i.2.1:AL)=Bx z))=L.filter λi=>Ac (i.2.1=z):=Kb λi O0=>by
          by_cases h:i.2.1=z;.simp
          .rw[AEH h,AEH (λq=>h (Gr q))]
        rw[e];show Nc λi l=>?_;have:=AEI (EH.mp l).2;rw[<-this];rfl
      . rw[<-Z5];show(Ta _ L _ U j).map _
def N3(H:AG)(x:AD)(m:AE×AY):Prop:=∃(a q:AB),x=.ref a/\H a=AA (.tup [.str m.1,.int m.2.1,.int m.2.2.1,.ref q])/\GN H q m.2.2.2
theorem SW(h:BF (N3 H) xs D)(t:Bd H H'):BF (N3 H') xs D:=Hm (λO O U=>by obtain⟨a,q,e,e1,J⟩:=U;show⟨a,q,e,t _ _ e1,t _ _ J⟩) h
theorem XB:∀{ps:List AY}{xs:List AD},Dq H xs ps->∃D:List (List AD),J4 H xs D/\BF (λu(p:AY)=>∃q,u=[.int p.1,.int p.2.1,.ref q]/\GN H q p.2.2) D ps|[],xs,h=>by cases h;show⟨[],.nil,.nil⟩|p::ps,xs,h=>by cases h with|cons a b=>lk;obtain⟨D,W,Y⟩:=XB b;obtain⟨J,q,e,e1,U⟩:=a;k_in;show⟨_,.cons ⟨J,e,e1⟩ W,.cons ⟨q,rfl,U⟩ Y⟩
def mB(A:Bh):Ax:=λB H Q O=>Rp (λ(W:List AB)(x p d:AB)(Y:AR)(g:AE->List AY)(D:List (AL×AD))=>B=[.ref x]) (λW x p d Y g D=>Dy A W H x p d Y g D) (λO O O O O O D=>D.length<=600) (λO O O O O g O=>(∀z,(g z).length<=3000)) (λO O O O O g O=>∀U r Z(J:List AE),Aj H U->H r=AF->U r=AA (.lst Z)->BF (N3 U) Z (Ef g J)->J.Pairwise (λa b=>EY (.inr b) (.inr a)=AM)->J.Nodup->(∀z,g z≠[]->z∈J)->J.length<=600->Q (.ref r) U)
theorem Wy{K:An}{ad:Bh}(T:BA K mg ad):T.oa.Ok A3 P w mg base 2 (mB ad):=by
  show T.oa.ok λnd O0 O0 O0 O0 O0 S H vs Q E h=>?_;lk;obtain⟨ex,x,p,d,st,g,c,rfl,Z,lk,lg,k⟩:=h;k_in;show⟨_,(Aa (Ay (A5 (W6 T) S (Y9 (BC (AH 0) rfl) E3)))),?_⟩;lk;obtain⟨dx,eo⟩:=Z.av;obtain⟨F,N⟩:=Ru (p:=λq A=>KP _ _ _ _) Z.aw.nd λq U=>by obtain⟨z,r,l,e,_,C,w⟩:=Z.aw.aav q U;obtain⟨A,M,J⟩:=XB w.1;show⟨A,z,r,l,e,C,M,J⟩
  k_in;show⟨_,⟨eo,T.cy,T.fm,rfl⟩,d,c,F,rfl,Z.aw.ao,lk,λq U=>?_,λH' r ys I s S C j W Y=>?_⟩
  . lk;obtain⟨z,r,l,e,C,M,J⟩:=N q U;k_in;show⟨z,r,l,e,C,M,by rw[(CO J).1];show lg z,λu hu=>?_⟩;lk;obtain⟨i,O,ei⟩:=Gk.mp hu;have l2:=(CO J).1;obtain⟨q',B,_⟩:=(CO J).2 i u (g z)[i] (by rw[Cd O,ei]) (Cd _);k_in;rw[B];show⟨λz=>(nomatch z),CY rfl⟩
  . lk;obtain⟨D,rfl⟩:∃D:List AE,I=D.map Bx:=by
      have:∀k∈I,∃z:AE,k=.inr z:=λk R=>by obtain⟨q,U,rfl⟩:=A7.mp (W.mem_iff.mp R);obtain⟨z,_,_,e,_⟩:=N q U;show⟨z,by rw[e]⟩
      clear j W Y;induction I with |nil=>show⟨[],rfl⟩|cons k I G=> obtain⟨D,e⟩:=G λk R=>this k (.tail _ R);obtain⟨z,B⟩:=this k (.head _);show⟨z::D,by rw[Fd,e,B]⟩
    k_in;have lz:=W.length_eq;have kn:=W.nodup_iff.mpr Z.aw.nd;show k H' r ys D s S C ?_ (G8.mp Y) ((G8.mp kn).imp λh e=>h (by rw[e])) (λz ne=>?_) (by simp_all)
    . have o:∀z∈D,BF _ (F (.inr z)) (g z):=λz X=>by obtain⟨q,U,e⟩:=A7.mp (W.mem_iff.mp (A7.mpr ⟨z,X,rfl⟩));obtain⟨z',_,_,B,_,_,J⟩:=N q U;rw[e]at J;rw[B]at e;have e:z'=z:=Gr e;rw[e]at J;show J
      have f:∀{A:List (List AD)}{Y:List AY}{z:AE},BF (λu(p:AY)=>∃q,u=[.int p.1,.int p.2.1,.ref q]/\GN H q p.2.2) A Y->BF (λu(m:AE×AY)=>∃q,u=[.str m.1,.int m.2.1,.int m.2.2.1,.ref q]/\GN H q m.2.2.2) (A.map λu=>AD.str z::u) (Y.map λp=>(z,p)):=λ{A Y z}h=>by induction h with|nil=>show .nil|cons a b G=>obtain⟨q,e,t⟩:=a;show .cons ⟨q,by rw[e],t⟩ G
      have L:BF (λu(m:AE×AY)=>∃q,u=[.str m.1,.int m.2.1,.int m.2.2.1,.ref q]/\GN H q m.2.2.2) ((D.map Bx).flatMap λk=>(F k).map λu=>Ar k::u) (Ef g D):=by clear j W Y lz kn;induction D with|nil=>show .nil|cons z D G=>show D9 (f (o z (.head _))) (G λz X=>o z (.tail _ X))
      lk;obtain⟨l1,g1⟩:=CO j;obtain⟨l2,g2⟩:=CO L;k_in;show Gh (Ny l1 l2) λi v m e1 e2=>?_;have O:=(BH.mp e1).1;have n:=Cd (by show BK O (BW l1));lk;obtain⟨a,ea,ha⟩:=g1 i v _ e1 n;obtain⟨q,eq,tq⟩:=g2 i _ m n e2;k_in;rw[eq]at ha;show⟨a,q,ea,ha,s _ _ tq⟩
    . lk;obtain⟨y,hy,e⟩:=A7.mp (W.mem_iff.mpr (Z.aw.zy z ne));k_in;rw[<-Gr e];show hy
theorem Jy.fq(h:Jy ss ss.length W D):D.length<=ss.length:=by
 have:=SQ h.nd λk J=>by obtain⟨p,U,rfl⟩:=A7.mp J;obtain⟨i,l,_,rfl⟩:=h.aay p U;show A7.mpr ⟨i,Z8.mpr l,rfl⟩
 rw[As,As,Oq]at this;show this
theorem Pt(e:H d=AA u)(U:∀b,b≠d->J b=H b)(s:Aj J H'):Aj H (AK H' d u):=λb o D=>by
 by_cases q:b=d
 . rw[q]at D⊢;rw[e]at D;cases D;show AZ
 . rw[AU q];show s _ _ (by rw[U b q];show D)
structure Jx(ss:List AR)(sd:Dz)(gg:FC)(gk:EN)(p:AE->Prop):Prop where
 sl:∀t,EB ss t->(sd t).1.length<=600/\(sd t).2.length<=600
 sp:∀t,EB ss t->(∀x∈(sd t).1,p x.2.1)/\∀x∈(sd t).2,p x.2.1
 gl:∀t∈Ap ss,(gk t).length<=600/\∀z,D1 (gg t z)/\(gg t z).length<=3000
 gp:∀t∈Ap ss,∀z,gg t z≠[]->p z
def lO(A:Bh):Ax:=λB H Q O=>Ro (λ(D:List AR)(F:GL)(W:Dz)(J:FC)(U:EN)(p:AE->Prop)=>B=[.ref F.x]) (λD F W J U O=>F1 A [] H D F W J U) (λD O O O O O=>D.length<=8) (λD O W J U p=>Jx D W J U p) (λO O O O O p=>∀Y r(Z:List AE),Aj H Y->Y r=AA (.lst (Z.map AD.str))->(∀z∈Z,p z)->Z.length<=16000000->Q (.ref r) Y)
theorem iG{K:An}{ad:Bh}(T:BA K mg ad):T.mw.Ok A3 P w mg base 3 (lO ad):=by
  show T.mw.ok λnd O0 O0 O0 O0 O0 hr H vs Q E h=>?_;lk;obtain⟨ss,F,sd,gg,gk,p,rfl,hb,lss,hq,k⟩:=h;k_in;show⟨_,(Dw (Bw 1 nd (DB E3)) (Dw (NT (DQ Dc rfl (Qn (BC (AH 0) rfl)) (D7 2 nd) (Aa (DQ Dc rfl (DH (K:=K) (BC (GS hr.u1 (BC (AH 0) rfl) (AH 2) (λO0 O0=>rfl)) rfl)) (D7 3 nd) (Aa (Bw 1 nd (AW Gg (AH 1) (Ib (CT Sg) [] trivial (DH (K:=K) (KA (AH 3) T.fi (Ww T) hr)) (λO0 O0 O0 O0=>Gi) (λO0 O0 O0 O0=>(BG K (AH 0) AO)))))))))) (Dw (NT (DQ Dc rfl (Qn (BC (AH 0) rfl)) (D7 2 nd) (Aa (Bw 1 nd (AW Gg (AH 1) (Ib (CT Sg) [] trivial (DH (K:=K) (KA (GS hr.u1 (BC (AH 0) rfl) (AH 2) (λO0 O0=>rfl)) T.cy (Wy T) hr)) (λO0 O0 O0 O0=>Gi) (λO0 O0 O0 O0=>(BG K (AH 0) AO)))))))) (Aa (Ay (AH 1)))))),?_⟩;have sz:Az=16777216:=D8;have ljk:=hb.yp.fq;have lgk:=hb.qx;showλO0 O0 O0 O0 z1=>⟨BZ _,λM hrf=>z1 _ _ ?_⟩;show BQ (o:=.lst []) hrf λH0 s0 er0=>?_;have B:=hb.ah s0;obtain⟨dx0,s⟩:=B.av;showλO0 O0 O0 O0 z2=>⟨F.dj,(λo u z=>by rw[B.ff]at z;cases z),_,⟨s,T.di,T.gv,rfl⟩,F.dj,F.nq,rfl,.inl B.ff,λo H1 S c=>?_⟩;have jr1:=B.cx.qy (.inr ⟨o,S⟩) c;have nrd:M≠F.dj:=λz=>by rw[z,B.ff]at er0;cases er0
  have ex1:H1 F.x=AA (.ins ad.dq dx0 (SE F)):=by rw[c _ λz=>by rw[z,B.ff]at s;cases s];show s
  show QV (λn N W=>ON (λ(o2 o3:Option AD)(M:AB)(U:List AE)=>N=[AA (.ref F.x),AA (.ref M),o2,o3]) (λO0 O0 O0 O0=>Aj H1 W) (λO0 O0 M U=>W M=AA (.lst (U.map AD.str))) (λO0 O0 O0 U=>(∀z∈U,p z)) (λO0 O0 O0 U=>U.length<=1200*n)) ⟨AF,AF,M,[],rfl,Bz _,by rw[c _ nrd];show er0,λz h=>(by cases h),BZ _⟩ (λn N W O0 hh=>by obtain⟨_,_,_,_,_,s',_⟩:=hh;show s' _ _ S) ?_ ?_
  . intro n q N H2 hn Z;lk;obtain⟨o2,o3,R,U,rfl,s2,O,hz2,lz2⟩:=Z;have hn':n<F.nq.length:=(BH.mp hn).1;obtain⟨t,_,hj,rfl⟩:=hb.yp.aay q (CZ hn);obtain⟨nn,a,b,wi,et⟩:=hj;have jr2:=jr1.ah s2;obtain⟨vj,jj⟩:=jr2.ie t nn a b wi et;obtain⟨dj2,ej2⟩:=jj.av;k_in;have lsd:=hq.sl t ⟨nn,a,b,wi,et⟩;have lsp:=hq.sp t ⟨nn,a,b,wi,et⟩;show⟨_,⟨s2 _ _ ex1,T.di,T.gv,rfl⟩,F.dj,.ref (F.jd t).j,rfl,by rw[<-vj];show .inl ⟨F.nq,.inl (t:Int),jr2.ao,rfl,rfl⟩,_,⟨ej2,T.gc,T.fo,rfl⟩,(F.jd t).sl,rfl,⟨_,Ab jj.ax⟩,Gf (K:=K) (xs:=[.ref (F.jd t).x0,.ref (F.jd t).x1]) (λm N W=>FK (λ(o3:Option AD)(M:AB)(U:List AE)=>N=[AA (.ref F.x),AA (.ref M),AA (.int (t:Int)),o3]) (λO0 O0 O0=>Aj H2 W) (λO0 M U=>W M=AA (.lst (U.map AD.str))) (λO0 O0 U=>(∀z∈U,p z)) (λO0 O0 U=>U.length<=1200*n+600*m)) ⟨o3,R,U,rfl,Bz _,O,hz2,lz2⟩ (λm N W O0 hh=>by obtain⟨_,_,_,_,s',_⟩:=hh;show Ab (s' _ _ jj.ax)) ?_ ?_⟩
    . intro m y N H3 hy Z;lk;obtain⟨o3',rf3,zs3,rfl,s3,A,hz3,lz3⟩:=Z;have jj3:=jj.ah s3;obtain⟨x,d,L,rfl,sr,lL,pL⟩:∃(x d:AB)(L:List AN),y=.ref x/\Cm ad [] H3 x d L/\L.length<=600/\∀i∈L,p i.2.1:=by
        have hm:m<2:=(BH.mp hy).1;rcases xH m 1 with q|q;. have:m=0:=ABM.mp q;subst this;cases hy;show⟨_,_,_,rfl,jj3.s0,lsd.1,lsp.1⟩
        . have:m=1:=aE q hm;subst this;cases hy;show⟨_,_,_,rfl,jj3.s1,lsd.2,lsp.2⟩
      have hm:m<2:=(BH.mp hy).1;obtain⟨dxs,exs⟩:=sr.av;k_in;show⟨x,dxs,_,rfl,exs,by rfl,[],x,d,L,rfl,sr,lL,λH4 r xs kss s4 hr4 er4 hw4 sd4 pm4=>⟨r,rfl,⟨_,Ab er4⟩,?_⟩⟩;have lx4:=hw4.fq;have lp4:=pm4.length_eq;rw[As]at lp4;show IU (K:=K) (xs:=xs) (λj τ Y W=>(∃o,τ=[o])/\W=H4/\∃J:List AE,Y=J.map AD.str/\∀z∈J,p z) (by lia) ⟨⟨AF,rfl⟩,rfl,[],rfl,λz h=>(by cases h)⟩ (λj τ Y W⟨_,e,_⟩=>by rw[e];show Ab er4) ?_ ?_
      . intro j v τ Y W R1 hv _ Z k1;lk;obtain⟨⟨o',rfl⟩,rfl,J,rfl,I⟩:=Z;obtain⟨a',row,rfl,erow,ea'⟩:=hw4.at hv;obtain⟨i,hi,rfl⟩:=A7.mp (pm4.mem_iff.mp (CZ erow));k_in;show⟨_,_,Aq ea',Ao (j:=0) rfl,k1 _ _ _ ⟨⟨_,rfl⟩,rfl,J++[i.2.1],by rw[Ce];rfl,λz G=>?_⟩⟩;rcases CS.mp G with G|G;.show I z G
        .rw[BV.mp G];show pL i hi
      . intro τ Y W la Z D hD;lk;obtain⟨_,rfl,J,rfl,I⟩:=Z;k_in;rw[As]at la;have f:=Bb (o:=.lst (J.map AD.str)) hD;show⟨rf3,D,_,_,rfl,rfl,f _ _ (s4 _ _ A),AZ,by rw[As,As];lia,λr6 hr6=>?_⟩;show⟨_,r6,zs3++J,rfl,(s3.aa (s4.aa f)).ik hr6,by rw[AZ,Ce],λz G=>(CS.mp G).elim (hz3 z) (I z),by rw[Bs];lia⟩
    . intro N H3 Z;lk;obtain⟨o3',rf3,zs3,rfl,s3,A,hz3,lz3⟩:=Z;k_in;show⟨_,_,rf3,zs3,rfl,s2.aa s3,A,hz3,by change zs3.length<=1200*(n+1);assumption⟩
  . intro N H2 Z;lk;obtain⟨o2,o3,R,U,rfl,s2,O,hz2,lz2⟩:=Z;k_in;show⟨o,_,s2 _ _ S,z2 _ _ ?_⟩;have s3:=s0.aa (Pt B.ff c s2);have nrd2:R≠F.dj:=λz=>by rw[z,s2 _ _ S]at O;cases O
    have A:(AK H2 F.dj (.dK F.nq)) R=AA (.lst (U.map AD.str)):=by rw[AU nrd2];show O
    generalize AK H2 F.dj (.dK F.nq)=H3 at s3 A⊢;clear c jr1 ex1 s2 O S;have C:=hb.ah s3;obtain⟨dx3,ex3⟩:=C.av;showλO0 O0 O0 O0 z3=>⟨F.dg,(λo u z=>by rw[C.dw]at z;cases z),_,⟨ex3,T.di,T.ft,rfl⟩,F.dg,F.ou,rfl,.inl C.dw,λo H4 l ne4=>?_⟩;have gr4:=C.bb.qy (.inr ⟨o,l⟩) ne4;have nrd:R≠F.dg:=λz=>by rw[z,C.dw]at A;cases A
    have ex4:H4 F.x=AA (.ins ad.dq dx3 (SE F)):=by rw[ne4 _ λz=>by rw[z,C.dw]at ex3;cases ex3];show ex3
    show QV (λn N W=>FK (λ(o2:Option AD)(M:AB)(U:List AE)=>N=[AA (.ref F.x),AA (.ref M),o2,o3]) (λO0 O0 O0=>Aj H4 W) (λO0 M U=>W M=AA (.lst (U.map AD.str))) (λO0 O0 U=>(∀z∈U,p z)) (λO0 O0 U=>U.length<=9600+1800000*n)) ⟨o2,R,U,rfl,Bz _,by rw[ne4 _ nrd];show A,hz2,by lia⟩ (λn N W O0 hh=>by obtain⟨_,_,_,_,s',_⟩:=hh;show s' _ _ l) ?_ ?_
    . intro n q N H5 hn Z;lk;obtain⟨o2',rf5,zs5,rfl,f,X,hz5,lz5⟩:=Z;have hn':n<F.ou.length:=(BH.mp hn).1;obtain⟨t,ht,rfl⟩:=hb.ze.aay q (CZ hn);have gr5:=gr4.ah f;obtain⟨st,es,vt,g⟩:=gr5.qo t ht;obtain⟨dxg,exg⟩:=g.av;obtain⟨lg1,lg2⟩:=hq.gl t ht;k_in;show⟨_,⟨f _ _ ex4,T.di,T.ft,rfl⟩,F.dg,.ref (F.gd t).x,rfl,by rw[<-vt];show .inl ⟨F.ou,.inl (t:Int),gr5.ao,rfl,rfl⟩,(F.gd t).x,dxg,_,rfl,exg,by rfl,[],(F.gd t).x,(F.gd t).p,(F.gd t).d,st,gg t,gk t,rfl,g,lg1,(λz=>(lg2 z).2),λH6 r ys ks s6 hr6 er6 pk6 O0 O0 O0 lk6=>⟨r,rfl,⟨_,Ab er6⟩,?_⟩⟩;have lx6:=(CO pk6).1;have lw6:=QC (g:=gg t) (n:=3000) (λz=>(lg2 z).2) ks;show IU (K:=K) (xs:=ys) (λj τ Y W=>(∃o,τ=[o])/\W=H6/\∃J:List AE,Y=J.map AD.str/\∀z∈J,p z) (by lia) ⟨⟨AF,rfl⟩,rfl,[],rfl,λz h=>(by cases h)⟩ (λj τ Y W⟨_,e,_⟩=>by rw[e];show Ab er6) ?_ ?_
      . intro j v τ Y W R1 hv _ Z k1;lk;obtain⟨⟨o',rfl⟩,rfl,J,rfl,I⟩:=Z;k_in;have hj:j<(Ef (gg t) ks).length:=by have:=(BH.mp hv).1;simp_all
        have em:=Cd hj;have mm:=wZ hj;generalize(Ef (gg t) ks)[j]=m at em mm;lk;obtain⟨a',q',rfl,ea',_⟩:=(CO pk6).2 j _ _ hv em;k_in;show⟨_,_,Aq ea',Ao (j:=0) rfl,k1 _ _ _ ⟨⟨_,rfl⟩,rfl,J++[m.1],by rw[Ce];rfl,λz G=>?_⟩⟩;rcases CS.mp G with G|G;.show I z G
        . rw[BV.mp G];show hq.gp t ht m.1 (Nd (KI.mp mm).2)
      . intro τ Y W la Z D hD;lk;obtain⟨_,rfl,J,rfl,I⟩:=Z;k_in;rw[As]at la;have s7:=Bb (o:=.lst (J.map AD.str)) hD;show⟨rf5,D,_,_,rfl,rfl,s7 _ _ (s6 _ _ X),AZ,by rw[As,As];lia,λr8 hr8=>?_⟩;show⟨_,r8,zs5++J,rfl,(f.aa (s6.aa s7)).ik hr8,by rw[AZ,Ce],λz G=>(CS.mp G).elim (hz5 z) (I z),by rw[Bs];lia⟩
    . intro N H5 Z;lk;obtain⟨o2',rf5,zs5,rfl,f,X,hz5,lz5⟩:=Z;k_in;show⟨o,_,f _ _ l,z3 _ _ ?_⟩;have nrd5:rf5≠F.dg:=λz=>by rw[z,f _ _ l]at X;cases X
      show k _ rf5 zs5 (s3.aa (Pt C.dw ne4 f)) (by rw[AU nrd5];show X) hz5 (by lia)
def lG(B:Bh):Ax:=λC H Q O=>Vq (λ(D:List AR)(X:EA)(A U J:Int)(Y:Nat->Dz)(V:Nat->FC)(W:Nat->EN)=>C=[.ref X.x,.int (X.hs.length:Nat)]) (λD X A U J Y V W=>Cc B [] H D X A U J Y V W) (λD O O O O O O O=>D.length<=8) (λO X O O O O O O=>0<X.hs.length) (λO X O O O O O O=>X.hs.length<=8) (λD X O O O Y V W=>(∀i,i<X.hs.length->Jx D (Y i) (V i) (W i) λz=>Cp z/\FG X z=i)) (λO O O O O O O O=>∀Z,Aj H Z->Q (.bl AI) Z)
theorem iA{K:An}(T:BA K mg o):T.jl.Ok A3 P w mg base 4 (lG o):=by
  show T.jl.ok λi O0 O0 O0 O0 O0 M H vs Q E h=>?_;lk;obtain⟨ss,X,sl,now,p,sd,s,t,rfl,c,O,f,g,u,k⟩:=h;k_in;show⟨_,(Dw (DQ Dc rfl (NR (by rfl) T.js (Y9 (AH 1) E3)) (D7 2 i) (Aa (DQ Dc rfl (DH (K:=K) (A5 (iG T) M (Y9 (JF K (BC (AH 0) rfl) (AH 2)) E3))) (D7 3 i) (Aa (B0 (LD (NU (Bj UB (A5 (Wr T) M (Y9 (AH 3) (Y9 (AH 1) E3))) (AH 2) (Ba _)) (Of (Bj UB (Ee (AH 0) T.au (SU T) M (Y9 (AH 3) E3)) (AH 2) (Ba _))))) (Aa (Ay Fb)) CQ))))) (Aa (Ay (Jm Cs (CL (LI (K:=K)) (by rfl) T.iq GY (Y9 (BC (AH 0) rfl) E3)) (AH 1) (Ba _))))),?_⟩;showλO0 O0 O0 O0 z1=>⟨_,rfl,by simp,dP.mp (FQ g (by decide)),OU (λn J F=>LF (λ(R Z:Option AD)=>J=[AA (.ref X.x),AA (.int (X.hs.length:Nat)),R,Z]) (λO0 O0=>Aj H F)) ⟨AF,AF,rfl,Bz _⟩ ?_ ?_⟩
  . intro n J a d W;lk;obtain⟨R,Z,rfl,s1⟩:=W;k_in;have D:=c.ah s1;have L:=Cd d;generalize X.hs[n]=G at L;obtain⟨I,U⟩:=D.av;rw[VJ];show⟨_,⟨U,T.au,T.cg,rfl⟩,_,_,Ab D.cb,Ao (by rw[Bl,L];rfl),ss,G,sd n,s n,t n,_,rfl,D.cp n G L,O,u n d,λj r zs s2 B N x=>⟨r,rfl,⟨_,Ab B⟩,Gf (K:=K) (xs:=zs.map AD.str) (λm J F=>FZ (λ(Z:Option AD)=>J=[AA (.ref X.x),AA (.int (X.hs.length:Nat)),AA (.int (n:Int)),Z]) (λO0=>Aj j F)) ⟨Z,rfl,Bz _⟩ (λm J F _⟨_,_,s'⟩=>Ab (s' _ _ B)) ?_ ?_⟩⟩
    . intro m y J l e W;lk;obtain⟨S,rfl,s3⟩:=W;rw[Bl]at e;obtain⟨z,v,rfl⟩:=Dp.mp e;obtain⟨b,q⟩:=N z (CZ v);have Y:=(D.ah s2).ah s3;obtain⟨A,C⟩:=Y.av;k_in;have e0:=WJ f z;rw[q]at e0;show⟨z,_,rfl,b,by simp_all,?_⟩;rw[e0];show⟨rfl,_,rfl,?_⟩;rw[show(!Ac _)=AM from by rw[AEF rfl];rfl];show EG ⟨X.x,A,_,rfl,C,by rfl,X,A,z,rfl,C,Y.cb,Y.iz,b,f,g,λH4 s4=>?_⟩;rw[e0];show⟨rfl,_,rfl,?_⟩;rw[show(!Ac _)=AM from by rw[AEF rfl];rfl];show EG ⟨_,rfl,s3.aa s4⟩
    . intro J l W;lk;obtain⟨S,rfl,s3⟩:=W;k_in;show⟨_,_,rfl,s1.aa (s2.aa s3)⟩
  . intro J a W;lk;obtain⟨R,Z,rfl,s1⟩:=W;have D:=c.ah s1;obtain⟨I,U⟩:=D.av;k_in;show z1 _ _ ⟨_,⟨U,T.au,T.cg,rfl⟩,_,.inl (Ab D.cb),?_⟩;rw[As];show⟨rfl,?_⟩;rw[AEF rfl];show k a s1
theorem WZ{f:α->V}:∀{l m:List α},l.map f=m.map f->(∀a∈l,∀b∈m,f a=f b->a=b)->l=m|[],[],_,_=>rfl|[],b::m,e,_=>by cases e|a::l,[],e,_=>by cases e|a::l,b::m,e,h=>by obtain⟨e1,D⟩:=DS e;rw[h a (.head _) b (.head _) e1,WZ D λx J y U=>h x (.tail _ J) y (.tail _ U)]
theorem Xr(h:D1 l)(U:a∈l)(V:b∈l)(e:a.1=b.1):a=b:=by
 lk;obtain⟨i,D,rfl⟩:=Gk.mp U;obtain⟨j,J,rfl⟩:=Gk.mp V;k_in;rcases aH i j with q|q|q
 . have:=Gm.mp h i j D J q;simp_all
 .subst q;rfl
 . have:=Gm.mp h j i J D q;simp_all
theorem XY{l m:List α}(V:(l.map key).Nodup)(W:(m.map key).Nodup)(s1:C5 (l.map key))(s2:C5 (m.map key))(U:∀q,q∈l↔q∈m)(D:∀a∈l,∀b∈m,key a=key b->a=b):l=m:=by have J:∀{l:List α},(l.map key).Nodup->l.Nodup:=λh=>(G8.mp h).imp λh e=>h (by rw[e]);show WZ (UK (((List.perm_ext_iff_of_nodup (J V) (J W)).mpr U).map _) s1 s2) D
noncomputable def P2(ss:List AR)(qs:List C3):List (List AL):=qs.map λq=>match ss[q.1]? with|AA s=>Mp s q.2.1 q.2.2|AF=>[]
theorem Mr(h:BF (II ss H) xs qs):CD H xs (P2 ss qs):=by induction h with|nil=>show Ik _|cons h _ J=>lk;obtain⟨a,s,D,e,e1⟩:=h;k_in;show .cons ⟨a,e,?_⟩ J;dsimp only;rw[D];show e1
noncomputable def N8(m:AE×AY):List AL:=[.inr m.1,.inl m.2.1,.inl m.2.2.1]
noncomputable def Mm(m:AE×AY):JP:=.tuple [.str m.1,.int m.2.1,.int m.2.2.1,.tuple [.int m.2.2.2.1,.int m.2.2.2.2.1,.int m.2.2.2.2.2.1,.int m.2.2.2.2.2.2]]
theorem XD{K:An}(h:BF (N3 H) xs M):IT K H xs (M.map Mm):=by induction h with|nil=>show .nil|cons a _ J=>lk;obtain⟨a,q,rfl,e1,D⟩:=a;k_in;show .cons (.tup (Aq e1) (.cons (.str _) (.cons (.int _) (.cons (.int _) (.cons (.tup (Aq D) (.cons (.int _) (.cons (.int _) (.cons (.int _) (.cons (.int _) .nil))))) .nil))))) J
theorem jO{M:List (AE×AY)}(h:∀m∈M,RF m.1=AI):Kk (.list (M.map Mm))=AI:=by
 have J:∀{M:List _},(∀m∈M,RF m.1=AI)->IA (M.map Mm)=AI/\GW (M.map Mm)<=2:=by intro M;induction M with |nil=>showλO=>⟨rfl,by decide⟩|cons m M Y=>
  intro h;obtain⟨D,U⟩:=Y λm W=>h m (.tail _ W);have V:=h m (.head _);constructor;.simp[Mm,IA,Ki,D,V]
  . simp[Mm,GW,Kj];simp_all
 obtain⟨D,U⟩:=J h;simp[Kk,Ki,Kj,D];show Af U (by decide)
theorem Xs(U:∀z,D1 (g z))(W:D.Pairwise λa b=>EY (.inr b) (.inr a)=AM)(J:D.Nodup):C5 ((Ef g D).map N8)/\((Ef g D).map N8).Nodup:=by
  constructor
  . have:=Sh (F:=λk=>match k with|.inr z=>(g z).map _|.inl _=>[]) (G8.mpr W) (G8.mpr (J.imp λh e=>h (Gr e))) λk V=>by obtain⟨z,_,rfl⟩:=A7.mp V;show(U z).sd
    show Eq.mp (AEG C5 ?_) this;unfold Ef;rw[List.flatMap_map,Z5];congr 1;funext z;rw[DX,DX];rfl
  . show G8.mpr ((G8.mp (Su U J)).imp λh e=>h ?_);show RB (Gr (DS e).1) (JQ (DS (DS e).2).1)
noncomputable def IQ(m:Nat)(p:List AN×List AN):List AN:=if m=0 then p.1 else p.2
theorem C1.aec(h:C1 U ex H j z D J W Y wi L.1 L.2)(Z:m<2):∃x d,([.ref D,.ref J]:List AD)[m]?=AA (.ref x)/\Cm U ex H x d (IQ m L):=by
 rcases xH m 1 with q|q
 . have:=ABM.mp q;subst this;show⟨_,_,rfl,h.s0⟩
 . have:=aE q Z;subst this;show⟨_,_,rfl,h.s1⟩
def N4(ss:List AR)(X:EA)(F:GK):Prop:=∀b,F5 ss F b\/b=F.dj\/b=F.dg->¬Kv ss X b
theorem N4.ao(h:N4 ss X F)(D:F5 ss F b\/b=F.dj\/b=F.dg):b≠X.dm/\∀(i:Nat)G,X.hs[i]?=AA G->¬Gw ss G b/\b≠G.dj/\b≠G.dg:=⟨λz=>h b D (.inr (.inr (.inr (.inl z)))),λi G J=>⟨λz=>h b D (.inr (.inr (.inr (.inr ⟨i,G,J,.inr (.inr (.inr z))⟩)))),λz=>h b D (.inr (.inr (.inr (.inr ⟨i,G,J,.inr (.inl z)⟩)))),λz=>h b D (.inr (.inr (.inr (.inr ⟨i,G,J,.inr (.inr (.inl z))⟩))))⟩⟩
theorem Cc.qy(h:Cc Y [] H ss X W now D sd U gk)(e:H d=AA (.dK kvs))(z:∀b,b≠d->H' b=H b)(n:d≠X.dm/\∀(i:Nat)G,X.hs[i]?=AA G->¬Gw ss G d/\d≠G.dj/\d≠G.dg):Cc Y [] H' ss X W now D sd U gk:=h.ack (λb o Z e=>by rw[z b Z];show e) (λb J=>⟨kvs,by rw[J];show e⟩) λb J=>by rw[J];show n
structure VL(ss:List AR)(n:Nat)(sd:Nat->Dz)(gg:Nat->FC)(sdF:Dz)(ggF:FC):Prop where
 afq:∀t,EB ss t->∀m,m<2->((FP n).flatMap λi=>IQ m (sd i t)).Perm (IQ m (sdF t))afn:∀t∈Ap ss,∀z p,p∈ggF t z↔∃i,i<n/\p∈gg i t z
 aai:∀t∈Ap ss,∀z i j,i<n->j<n->gg i t z≠[]->gg j t z≠[]->i=j
def kE(L:Bh):Ax:=λN H Q O=>Vc (λ(D:List AR)(X:EA)(F:GK)(M C B G Y W E:Int)(A:Nat->Dz)(Z:Nat->FC)(I:Nat->EN)(U:Dz)(J:FC)(V:EN)=>N=[.ref X.x,.ref F.x]) (λD X O M C B O O O O A Z I O O O=>Cc L [] H D X M C B A Z I) (λD O F O O O G Y W E O O O U J V=>E9 L H D F G Y W E U J V) (λD X F O O O O O O O O O O O O O=>N4 D X F) (λD O O O O O O O O O O O O O O O=>D.length<=8) (λO X O O O O O O O O O O O O O O=>X.hs.length<=8) (λD X O O O O O O O O A Z I O O O=>(∀i,i<X.hs.length->Jx D (A i) (Z i) (I i) λz=>Cp z)) (λD O O O O O O O O O O O O U J V=>Jx D U J V (λz=>Cp z)) (λD X O O O O O O O O A Z O U J O=>VL D X.hs.length A Z U J) (λO O O O O O O O O O O O O O O O=>∀K,Aj H K->Q (.bl AI) K)
theorem gM{K:An}{ad:Bh}(T:BA K mg ad):T.jm.Ok A3 P w mg base 3 (kE ad):=by
  have J:=Ww (P:=P) (w:=w) (base:=base) T;have D:=Wy (P:=P) (w:=w) (base:=base) T;show T.jm.ok λnd O0 O0 O0 O0 O0 f H vs Q E h=>?_;lk;obtain⟨ss,X,F,sl,now,cnt,slF,nowF,cntF,num,sd,gg,gk,sdF,ggF,gkF,rfl,hb,fb,sep,lss,lhs,hq,hqF,al,k⟩:=h;k_in;show⟨_,(Dw (NT (DQ Dc rfl (Qn (BC (AH 1) rfl)) (D7 2 nd) (Aa (DQ Dc rfl (NR (by rfl) T.js (Y9 AO E3)) (D7 3 nd) (Dw (Bw 4 nd (DB E3)) (Dw (DQ Dc rfl (DH (K:=K) (BC (AH 0) rfl)) (D7 5 nd) (Aa (Bw 4 nd (AW Gg (AH 4) (KA (JF K (BC (GS f.u1 (BC (AH 5) rfl) (AH 2) (λO0 O0=>rfl)) rfl) (AH 3)) T.fi J f))))) (Aa (B0 (Bj (OZ (K:=K) f.zb) (CL (YG (K:=K)) (by rfl) T.ju Oz (Y9 (AH 4) E3)) (KA (JF K (BC (GS f.u1 (BC (AH 1) rfl) (AH 2) (λO0 O0=>rfl)) rfl) (AH 3)) T.fi J f) (Ba _)) (Aa (Ay Fb)) CQ)))))))) (Dw (NT (DQ Dc rfl (Qn (BC (AH 1) rfl)) (D7 2 nd) (Dw (Bw 4 nd (DB E3)) (Dw (DQ Dc rfl (DH (K:=K) (BC (AH 0) rfl)) (D7 5 nd) (Aa (Bw 4 nd (AW Gg (AH 4) (KA (GS f.u1 (BC (AH 5) rfl) (AH 2) (λO0 O0=>rfl)) T.cy D f))))) (Aa (B0 (Bj (OZ (K:=K) f.zb) (CL (TR (K:=K) f) (by rfl) T.ju Oz (Y9 (AH 4) E3)) (KA (GS f.u1 (BC (AH 1) rfl) (AH 2) (λO0 O0=>rfl)) T.cy D f) (Ba _)) (Aa (Ay Fb)) CQ)))))) (Aa (Ay Fb)))),?_⟩;have sz:Az=16777216:=D8;obtain⟨dxF,A⟩:=fb.av;showλO0 O0 O0 O0 z1=>⟨F.dj,(λo u z=>by rw[fb.ff]at z;cases z),_,⟨A,T.bc,T.il,rfl⟩,F.dj,F.nq,rfl,.inl fb.ff,λo H1 ed1 ne1=>?_⟩;have jrF:=fb.cx.qy (.inr ⟨o,ed1⟩) ne1;have hb1:=hb.qy fb.ff ne1 (sep.ao (.inr (.inl rfl)));have exF1:H1 F.x=AA (.ins ad.bo dxF (Lq F num)):=by rw[ne1 _ λz=>by rw[z,fb.ff]at A;cases A];show A
  obtain⟨dxX,exX⟩:=hb1.av;show QV (λn U Y=>Rm (λ(o2 o3 o4 O:Option AD)=>U=[AA (.ref X.x),AA (.ref F.x),o2,o3,o4,O]) (λO0 O0 O0 O0=>Aj H1 Y)) ⟨AF,AF,AF,AF,rfl,Bz _⟩ (λn U Y O0 hh=>by obtain⟨_,_,_,_,_,s'⟩:=hh;show s' _ _ ed1) ?_ ?_
  . intro n q U H2 hn W;lk;obtain⟨o2,o3,o4,O,rfl,s2⟩:=W;obtain⟨t,_,hj,rfl⟩:=fb.yp.aay q (CZ hn);obtain⟨nn,ja,jb,wi,et⟩:=hj;k_in;show⟨_,rfl,by decide,by decide,OU (λm U Y=>Ve (λ(o3 o4 O:Option AD)=>U=[AA (.ref X.x),AA (.ref F.x),AA (.int (t:Int)),o3,o4,O]) (λO0 O0 O0=>Aj H2 Y)) ⟨o3,o4,O,rfl,Bz _⟩ ?_ ?_⟩
    . intro m U H3 hm W;lk;obtain⟨o3',o4',o5',rfl,s3⟩:=W;k_in;have hm:m<2:=by have:(2:Int).toNat=2:=rfl;assumption
      rw[VJ];showλO0 O0 O0 O0 z3=>⟨BZ _,λrf hrf=>z3 _ _ ?_⟩;show BQ (o:=.lst []) hrf λH4 s4 er4=>?_;have s14:=s2.aa (s3.aa s4);have C:=hb1.ah s14;showλO0 O0 O0 O0 z4=>⟨_,⟨s14 _ _ exX,T.au,T.cg,rfl⟩,X.lh,rfl,⟨_,Ab C.cb⟩,Gf (K:=K) (xs:=X.hs.map λh=>AD.ref h.x) (λi U Y=>OO (λ(O:Option AD)(rf:AB)(xs:List AD)(N:List (List AL))=>U=[AA (.ref X.x),AA (.ref F.x),AA (.int (t:Int)),AA (.int (m:Int)),AA (.ref rf),O]) (λO0 O0 O0 O0=>Aj H4 Y) (λO0 rf xs O0=>Y rf=AA (.lst xs)) (λO0 O0 xs N=>CD Y xs N) (λO0 O0 O0 N=>N.Perm (((FP i).flatMap λi=>IQ m (sd i t)).map Kw)) (λO0 O0 O0 N=>N.length<=600*i)) ⟨o5',rf,[],[],rfl,Bz _,er4,Ik _,.nil,BZ _⟩ (λi U Y O0 hh=>by obtain⟨_,_,_,_,_,s',_⟩:=hh;show Ab (s' _ _ C.cb)) ?_ ?_⟩
      . intro i y U H5 hy W;lk;obtain⟨o5'',rf5,xs5,Z,rfl,s5,er5,I,pm5,l5⟩:=W;rw[Bl]at hy;obtain⟨G,eg,rfl⟩:=Dp.mp hy;have hi:i<X.hs.length:=(BH.mp eg).1;have hG:=(C.ah s5).cp i G eg;obtain⟨dxG,exG⟩:=hG.av;obtain⟨vj,jj⟩:=hG.cx.ie t nn ja jb wi et;obtain⟨dxj,exj⟩:=jj.av;obtain⟨x,d,ex,sr⟩:=jj.aec hm;obtain⟨dxs,exs⟩:=sr.av;k_in;have lS:(IQ m (sd i t)).length<=600:=by
          have:=(hq i hi).sl t ⟨nn,ja,jb,wi,et⟩;unfold IQ;split;.show this.1
          .show this.2
        show⟨_,⟨exG,T.di,T.gv,rfl⟩,G.dj,.ref (G.jd t).j,rfl,by rw[<-vj];show .inl ⟨G.nq,.inl (t:Int),hG.cx.ao,rfl,rfl⟩,_,⟨exj,T.gc,T.fo,rfl⟩,_,_,Ab jj.ax,Ao ex,x,dxs,_,rfl,exs,by rfl,[],x,d,_,rfl,sr,lS,λH6 r ys kss6 s6 hr6 er6 hw6 sd6 pm6=>?_⟩;have lx5:=I.fq;have lx6:=hw6.fq;have lp6:=pm6.length_eq;rw[As]at lp6;show⟨rf5,r,xs5,ys,rfl,rfl,s6 _ _ er5,er6,by lia,λr7 hr7=>?_⟩;have S:=Bb (o:=.lst (xs5++ys)) hr7;show⟨_,r7,xs5++ys,Z++kss6,rfl,s5.aa (s6.aa S),AZ,CD.ae (D9 (I.ae s6.tp) hw6) S.tp,?_,by rw[Bs];lia⟩;rw[aC,Q1,Ce];show pm5.append (pm6.trans (.of_eq ?_));rw[El,AAx,Ea]
      . intro U H5 W;lk;obtain⟨o5'',rf5,xs5,Z,rfl,s5,er5,I,pm5,l5⟩:=W;k_in;rw[As]at pm5 l5;have s15:=s14.aa s5;have lx5:=I.fq;have pmA:Z.Perm ((IQ m (sdF t)).map Kw):=pm5.trans ((al.afq t ⟨nn,ja,jb,wi,et⟩ m hm).map Kw);show z4 _ _ ⟨rf5,xs5,Z,rfl,Ab er5,I.yz (sh:=[AM,AI,AI]) (by decide) (λks hk=>?_),λl qq hl pq sq=>?_⟩
        . lk;obtain⟨i,_,rfl⟩:=A7.mp (pmA.mem_iff.mp hk);k_in;rfl
        lk;obtain⟨R',p1,w1,e1⟩:=So (α:=List AL) (key:=id) (R:=Z) (qs:=qq) I (by rw[Z6];show pq);k_in;rw[Z6]at e1;show BQ hl λH6 s6 el=>?_;have s16:=s15.aa s6;lk;obtain⟨vj,jj⟩:=(jrF.ah s16).ie t nn ja jb wi et;obtain⟨dxj,exj⟩:=jj.av;obtain⟨x,d,ex,sr⟩:=jj.aec hm;obtain⟨dxs,exs⟩:=sr.av;k_in;have lS:(IQ m (sdF t)).length<=600:=by
          have:=hqF.sl t ⟨nn,ja,jb,wi,et⟩;unfold IQ;split;.show this.1
          .show this.2
        show⟨_,⟨s16 _ _ exF1,T.bc,T.il,rfl⟩,F.dj,.ref (F.jd t).j,rfl,by rw[<-vj];show .inl ⟨F.nq,.inl (t:Int),(jrF.ah s16).ao,rfl,rfl⟩,_,⟨exj,T.gc,T.fo,rfl⟩,_,_,Ab jj.ax,Ao ex,x,dxs,_,rfl,exs,by rfl,[],x,d,_,rfl,sr,lS,λH7 r ys kss7 S hr7 c hw7 sd7 pm7=>?_⟩;have eq:R'=kss7:=UK (p1.trans (pmA.trans pm7.symm)) (by change Zy _ _;rw[e1];show sq) sd7;subst eq;show NL (CD.dv (CD.ae w1 λb zs e=>S _ _ (s6 _ _ e)) (S _ _ el)) (hw7.dv c) (Oi λks hk=>fL (L:=IQ m (sdF t)) (λi hi=>?_) ks (pm7.mem_iff.mp hk)) ⟨_,rfl,EG ⟨_,_,_,rfl,s3.aa (s4.aa (s5.aa (s6.aa S)))⟩⟩;have:=hqF.sp t ⟨nn,ja,jb,wi,et⟩;unfold IQ at hi;split at hi;.show this.1 i hi
        .show this.2 i hi
    . intro U H3 W;lk;obtain⟨o3',o4',o5',rfl,s3⟩:=W;k_in;show⟨_,_,_,_,rfl,s2.aa s3⟩
  . intro U H2 W;lk;obtain⟨o2,o3,o4,O,rfl,s2⟩:=W;k_in;show⟨o,_,s2 _ _ ed1,z1 _ _ ?_⟩;have s3:=Pt fb.ff ne1 s2;generalize AK H2 F.dj (.dK F.nq)=H3 at s3⊢;clear ne1 jrF hb1 exF1 exX s2 ed1;have B:=fb.ah s3;have hb3:=hb.ah s3;showλO0 O0 O0 O0 z5=>⟨F.dg,(λo u z=>by rw[B.dw]at z;cases z),_,⟨s3 _ _ A,T.bc,T.gy,rfl⟩,F.dg,F.ou,rfl,.inl B.dw,λo H4 ed4 ne4=>?_⟩;have grF:=B.bb.qy (.inr ⟨o,ed4⟩) ne4;have C:=hb3.qy B.dw ne4 (sep.ao (.inr (.inr rfl)));have exF4:H4 F.x=AA (.ins ad.bo dxF (Lq F num)):=by rw[ne4 _ λz=>by have e:=B.dw;rw[<-z,s3 _ _ A]at e;cases e];show s3 _ _ A
    obtain⟨dxX4,exX4⟩:=C.av;show QV (λn U Y=>Rm (λ(o2 o3 o4 O:Option AD)=>U=[AA (.ref X.x),AA (.ref F.x),o2,o3,o4,O]) (λO0 O0 O0 O0=>Aj H4 Y)) ⟨o2,o3,o4,O,rfl,Bz _⟩ (λn U Y O0 hh=>by obtain⟨_,_,_,_,_,s'⟩:=hh;show s' _ _ ed4) ?_ ?_
    . intro n q U H5 hn W;lk;obtain⟨o2',o3',o4',o5',rfl,s5⟩:=W;obtain⟨t,ht,rfl⟩:=fb.ze.aay q (CZ hn);obtain⟨lgF1,s⟩:=hqF.gl t ht;k_in;showλO0 O0 O0 O0 z6=>⟨BZ _,λrf hrf=>z6 _ _ ?_⟩;show BQ (o:=.lst []) hrf λH6 s6 er6=>?_;have s46:=s5.aa s6;have hb6:=C.ah s46;showλO0 O0 O0 O0 z7=>⟨_,⟨s46 _ _ exX4,T.au,T.cg,rfl⟩,X.lh,rfl,⟨_,Ab hb6.cb⟩,Gf (K:=K) (xs:=X.hs.map λh=>AD.ref h.x) (λi U Y=>QR (λ(O:Option AD)(rf:AB)(xs:List AD)(M:List (AE×AY))=>U=[AA (.ref X.x),AA (.ref F.x),AA (.int (t:Int)),o3',AA (.ref rf),O]) (λO0 O0 O0 O0=>Aj H6 Y) (λO0 rf xs O0=>Y rf=AA (.lst xs)) (λO0 O0 xs M=>BF (N3 Y) xs M) (λO0 O0 O0 M=>(M.map N8).Nodup) (λO0 O0 O0 M=>(∀m,m∈M↔∃j,j<i/\m.2∈gg j t m.1)) (λO0 O0 O0 M=>M.length<=1800000*i)) ⟨o5',rf,[],[],rfl,Bz _,er6,.nil,.nil,λm=>⟨λh=>(by cases h),λ⟨j,h,_⟩=>absurd h (Il _)⟩,BZ _⟩ (λi U Y O0 hh=>by obtain⟨_,_,_,_,_,s',_⟩:=hh;show Ab (s' _ _ hb6.cb)) ?_ ?_⟩
      . intro i y U H7 hy W;lk;obtain⟨o5'',rf7,xs7,M7,rfl,S,c,pk7,nd7,mm7,l7⟩:=W;rw[Bl]at hy;obtain⟨G,eg,rfl⟩:=Dp.mp hy;have hi:i<X.hs.length:=(BH.mp eg).1;have hG:=(hb6.ah S).cp i G eg;obtain⟨dxG,exG⟩:=hG.av;obtain⟨st,es,vt,g⟩:=hG.bb.qo t ht;obtain⟨dxg,exg⟩:=g.av;obtain⟨lg1,lg2⟩:=(hq i hi).gl t ht;k_in;show⟨_,⟨exG,T.di,T.ft,rfl⟩,G.dg,.ref (G.gd t).x,rfl,by rw[<-vt];show .inl ⟨G.ou,.inl (t:Int),hG.bb.ao,rfl,rfl⟩,(G.gd t).x,dxg,_,rfl,exg,by rfl,[],(G.gd t).x,(G.gd t).p,(G.gd t).d,st,gg i t,gk i t,rfl,g,lg1,(λz=>(lg2 z).2),λH8 r ys ks s8 hr8 er8 pk8 ps8 kn8 km8 lk8=>?_⟩;have lx7:=(CO pk7).1;have lx8:=(CO pk8).1;have lw8:=QC (g:=gg i t) (n:=3000) (λz=>(lg2 z).2) ks;show⟨rf7,r,xs7,ys,rfl,rfl,s8 _ _ c,er8,by lia,λr9 hr9=>?_⟩;have s9:=Bb (o:=.lst (xs7++ys)) hr9;show⟨_,r9,xs7++ys,M7++Ef (gg i t) ks,rfl,S.aa (s8.aa s9),AZ,SW (D9 (SW pk7 s8.tp) pk8) s9.tp,?_,λm=>?_,by rw[Bs];lia⟩
        . rw[Ce];show Z9.mpr ⟨nd7,(Xs (λz=>(lg2 z).1) ps8 kn8).2,λa ha b hb e=>?_⟩;subst e;lk;obtain⟨u,hu,rfl⟩:=A7.mp ha;obtain⟨v,hv,e⟩:=A7.mp hb;obtain⟨j,hj,hju⟩:=(mm7 u).mp hu;k_in;have e1:v.1=u.1:=Gr (DS e).1;have hv2:=(KI.mp hv).2;rw[e1]at hv2;have:=al.aai t ht u.1 j i (Ke hj hi) hi (Nd hju) (Nd hv2);simp_all
        . rw[CS,mm7,KI];constructor
          . rintro(⟨j,hj,h⟩|⟨_,h⟩);.show⟨j,Ni hj,h⟩
            .show⟨i,Jo _,h⟩
          . intro W;lk;obtain⟨j,hj,h⟩:=W;k_in;by_cases q:j=i;. subst q;show .inr ⟨km8 _ (Nd h),h⟩
            .show .inl ⟨j,Cy (Dl hj) q,h⟩
      . intro U H7 W;lk;obtain⟨o5'',rf7,xs7,M7,rfl,S,c,pk7,nd7,mm7,l7⟩:=W;rw[As]at mm7 l7;have mmF:∀m:AE×AY,m∈M7↔m.2∈ggF t m.1:=λm=>(mm7 m).trans (al.afn t ht m.1 m.2).symm;have s47:=s46.aa S;obtain⟨ds,ed,sn⟩:=Xj (K:=K) (key:=N8) (sh:=[AM,AI,AI]) (H:=H7) (by decide) (λx m hh=>by obtain⟨a,q,e,e1,_⟩:=hh;show⟨⟨a,q,e,e1⟩,rfl⟩) pk7 nd7;k_in;show z7 _ _ ⟨rf7,xs7,ds,_,rfl,Ab c,sn,λl qq hl pq sq=>?_⟩;rw[ed]at pq;lk;obtain⟨R',p1,w1,e1⟩:=So pk7 pq;k_in;show BQ hl λH8 s8 el=>?_;have s48:=s47.aa s8;have gr8:=grF.ah s48;lk;obtain⟨st,es,vt,g⟩:=gr8.qo t ht;obtain⟨dxg,exg⟩:=g.av;k_in;show⟨_,⟨s48 _ _ exF4,T.bc,T.gy,rfl⟩,F.dg,.ref (F.gd t).x,rfl,by rw[<-vt];show .inl ⟨F.ou,.inl (t:Int),gr8.ao,rfl,rfl⟩,(F.gd t).x,dxg,_,rfl,exg,by rfl,[],(F.gd t).x,(F.gd t).p,(F.gd t).d,st,ggF t,gkF t,rfl,g,lgF1,(λz=>(s z).2),λH9 r ys ks s9 hr9 er9 pk9 ps9 kn9 km9 lk9=>?_⟩;obtain⟨sdk,ndk⟩:=Xs (λz=>(s z).1) ps9 kn9;have eq:R'=Ef (ggF t) ks:=XY ((p1.map N8).nodup_iff.mpr nd7) ndk (by change Zy _ _;rw[e1];show sq) sdk (λm=>by rw[p1.mem_iff,mmF,KI];show⟨λh=>⟨km9 _ (Nd h),h⟩,λh=>h.2⟩) λa ha b hb e=>by have h1:=(mmF a).mp (p1.mem_iff.mp ha);have h2:=(KI.mp hb).2;have d1:a.1=b.1:=Gr (DS e).1;have d2:a.2.1=b.2.1:=JQ (DS (DS e).2).1;rw[<-d1]at h2;show RB d1 (Xr (s a.1).1 h1 h2 d2)
        subst eq;show NL (.lst (Ab (s9 _ _ el)) (XD (SW w1 λb zs e=>s9 _ _ (s8 _ _ e)))) (.lst (Ab er9) (XD pk9)) (jO λm hm=>(hqF.gp t ht m.1 (Nd (KI.mp hm).2)).ok) ⟨_,rfl,EG ⟨_,_,_,_,rfl,s5.aa (s6.aa (S.aa (s8.aa s9)))⟩⟩
    . intro U H5 W;lk;obtain⟨o2',o3',o4',o5',rfl,s5⟩:=W;k_in;show⟨o,_,s5 _ _ ed4,z5 _ _ (k _ (s3.aa (Pt B.dw ne4 s5)))⟩
def VP(v:AD):Prop:=v=.non\/(∃b,v=.bl b)\/∃z,v=.str z
noncomputable def nT:AD->Bool|.int _=>AI|_=>AM
def nB:Ax:=λD H Q O=>∃v,D=[v]/\(VP v\/∃i:Int,v=.int i)/\Q (.bl (nT v)) H
theorem jF{K:An}(T:BA K J U):T.kz.Ok A3 P w J base 1 nB:=by
 show T.kz.ok λW O O O O O V H Y Q E h=>?_;lk;obtain⟨v,rfl,D,k⟩:=h;k_in;show⟨_,(Aa (Ay (KU (CL (OQ) (by rfl) T.bh Jr (Y9 (AH 0) (Y9 (NN (v:=.ty "int") (by rfl) T.aak aS rfl) E3))) (ML (ZG (CL (OQ) (by rfl) T.bh Jr (Y9 (AH 0) (Y9 (NN (v:=.ty _) (by rfl) T.zw xU rfl) E3)))))))),?_⟩;rcases D with(rfl|⟨b,rfl⟩|⟨z,rfl⟩)|⟨i,rfl⟩;.show⟨_,_,_,_,rfl,.non,rfl,_,rfl,EG k⟩
 .show⟨_,"int",_,_,rfl,.bl b,rfl,_,rfl,GC ⟨_,_,_,_,rfl,.bl b,rfl,_,rfl,k⟩⟩
 .show⟨_,"int",_,_,rfl,.str z,rfl,_,rfl,EG k⟩
 .show⟨_,_,_,_,rfl,.int i,rfl,_,rfl,GC ⟨_,_,_,_,rfl,.int i,rfl,_,rfl,k⟩⟩
def N2(a b:Int)(v:AD):Prop:=VP v\/∃i:Int,v=.int i/\(i<a\/b<i)
def kG:Ax:=λD H Q O=>LG (λ(v:AD)(a b:Int)=>D=[v,.int a,.int b]) (λv a b=>N2 a b v) (λO O O=>Q (.bl AM) H)
theorem gN{K:An}(T:BA K U V):T.kx.Ok A3 P w U base 2 kG:=by
  show T.kx.ok λY O O O O O J H Z Q E h=>?_;lk;obtain⟨v,a,b,rfl,D,k⟩:=h;k_in;show⟨_,(Aa (Ay (KU (A5 (jF T) J (Y9 (AH 0) E3)) (ML (ZD MK MK (AH 1) (AH 0) (AH 2)))))),?_⟩;rcases D with D|⟨i,rfl,W⟩
  . show⟨v,rfl,.inl D,_,rfl,?_⟩;rcases D with rfl|⟨b,rfl⟩|⟨z,rfl⟩<;>show EG k
  . show⟨_,rfl,.inr ⟨i,rfl⟩,_,rfl,GC ⟨_,rfl,IW (λe=>?_) λe=>?_⟩⟩
    . change Q (.bl _) H;rw[AEH (by lia)];show k
    .show k
def kL(D:Bh):Ax:=λU H O E=>KP (λ(x J:AB)(v:AD)=>U=[.ref x,v]) (λx J O=>H x=AA (.ins D.aj J [])) (λO O v=>N2 0 1000000000 v) (λO O O=>E (.ref D.ba) AF H)
theorem gS{K:An}(T:BA K Z U):T.gm.Ok (GP P w) P w Z base 3 (kL U):=by show T.gm.ael (λO O O O h=>by obtain⟨x,V,v,rfl,_⟩:=h;rfl) λz O O O O O W H A Q E h=>?_;lk;obtain⟨x,V,v,rfl,e,Y,k⟩:=h;obtain⟨J,D⟩:=T.ti;k_in;show⟨_,(Ae (B0 (KW (Ij (A5 (gN T) W (Y9 (AH 1) (Y9 AO (Y9 (Ho (v:=.int _) (by rfl) D ⟨_,rfl⟩) E3)))))) (Aa (tU T.zv (Ho (by rfl) T.vg rfl) C7)) CQ) (Ae (Du (AH 0) (AH 1) rfl) (Ae (Du (AH 0) AO rfl) (Aa (Du (AH 0) AO rfl))))),?_⟩;show⟨v,0,_,rfl,Y,_,rfl,GC k⟩
def m7(J:Bh):Ax:=λY H O E=>TH (λ(x U W:AB)(v m:AD)=>Y=[.ref x,.ref W,v,m]) (λx U O O O=>H x=AA (.ins J.de U [])) (λO O O v O=>N2 0 1000000000 v) (λO O O O O=>∀D,Aj H D->E (.ref J.ba) AF D)
theorem jD{K:An}(T:BA K C U):T.gq.Ok (GP P w) P w C base 8 (m7 U):=by show T.gq.ael (λO O O O h=>by obtain⟨x,W,B,v,m,rfl,_⟩:=h;rfl) λG O O O O O J H I Q E h=>?_;lk;obtain⟨x,W,B,v,m,rfl,F,A,k⟩:=h;k_in;show⟨_,(Ae (Du (AH 0) (J9 (gS T) J T.we (sY (λO O O z=>z)) (Y9 (AH 2) E3)) rfl) (Ae (Du (AH 0) (Ib (CT SY) [("plan",1)] ⟨rfl,rfl,trivial⟩ (NR (by rfl) T.js (Y9 (AH 3) E3)) (λO O O O=>Gi) (λO O O O=>(J9 (Wt T) J T.aae Hn (Y9 (AH 1) E3)))) rfl) (Aa (Du (AH 0) LQ rfl)))),?_⟩;showλc V Y D Z=>⟨c,V,v,rfl,AZ,A,k _ (((Bz H).wk D).wk Y)⟩
def mH:Ax:=λU H Q O=>LG (λ(J:AB)(v m:AD)=>U=[.ref J,v,m]) (λO v O=>N2 0 1000000000 v) (λO O O=>∀D,Aj H D->Q (.bl AI) D)
theorem iU{K:An}(T:BA K S D):T.mz.Ok A3 P w S base 10 mH:=by
 show T.mz.ok λF O0 O0 O0 O0 O0 M H c Q E h=>?_;lk;obtain⟨R,v,m,rfl,N,k⟩:=h;k_in;show⟨_,(Ae (tV (i:=3) rfl rfl rfl rfl (jN (jD T) M T.yt (Y9 (AH 0) (Y9 (AH 1) (Y9 (AH 2) E3)))) (by rfl) T.xq F rfl rfl (.inl rfl) (λO0=>(Ae (Bw 4 F (DB (Y9 (CL (MC (K:=K)) (by rfl) T.bh Jr (Y9 (AH 3) (Y9 (Ho (v:=.ref D.qv) (by rfl) T.yr rfl) E3))) (Y9 (CL (MC (K:=K)) (by rfl) T.bh Jr (Y9 (AH 3) (Y9 (Ho (v:=.ref D.ue) (by rfl) T.zj rfl) E3))) (Y9 (CL (MC (K:=K)) (by rfl) T.bh Jr (Y9 (AH 3) (Y9 (Ho (v:=.ref D.uf) (by rfl) T.zl rfl) E3))) (Y9 (CL (MC (K:=K)) (by rfl) T.bh Jr (Y9 (AH 3) (Y9 (Ho (v:=.ref D.ug) (by rfl) T.zm rfl) E3))) E3)))))) (Ae (EU (Qk K (AH 4) (Y9 (CL (MC (K:=K)) (by rfl) T.bh Jr (Y9 (AH 3) (Y9 (Ho (v:=.ref D.vo) (by rfl) T.aas rfl) E3))) E3))) (Aa (Ay (KU (CL (MC (K:=K)) (by rfl) T.bh Jr (Y9 (AH 3) (Y9 (Ho (v:=.ref D.ba) (by rfl) T.vg rfl) E3))) (KU (CL (MC (K:=K)) (by rfl) T.bh Jr (Y9 (AH 3) (Y9 (NN (v:=.ty "ValueError") (by rfl) T.yd (by decide+kernel:bootBuiltins "ValueError"=some (.type "ValueError")) rfl) E3))) (ML (Jm (Y8 (K:=K)) Fb (AH 4) (by with_unfolding_all rfl))))))))))) (Aa (Ay Fb))),?_⟩;showλy Y O Z L=>?_;have s1:Aj H (AK (AK H Y (.own y)) y (.ins D.de Y [])):=((Bz H).wk Z).wk O;show⟨y,Y,R,v,m,rfl,AZ,N,λX s2=>⟨T.om,λe I=>?_⟩⟩;show BQ I λa s3 J=>?_;show⟨e,_,_,_,_,_,rfl,rfl,J,T.gf,T.ow,e,_,_,_,_,_,rfl,rfl,J,T.gf,T.qz,e,_,_,_,_,_,rfl,rfl,J,T.gf,T.rg,e,_,_,_,_,_,rfl,rfl,J,T.gf,T.rh,CY rfl,λl z=>?_⟩;show BQ z λG s4 C=>?_;have U:=s4 _ _ J;have A:e≠l:=A4 J z;show⟨.inl ⟨rfl,_,Ab C⟩,e,_,_,_,_,_,rfl,rfl,U,T.gf,T.tj,l,_,_,rfl,rfl,C,(by rw[D8];show CY rfl),?_⟩;have V:(AK G l (.lst ([.bl AM,.bl AM,.bl AM,.bl AM]++[.bl AM]))) e=AA (QD e (.ref D.ba) AF):=by rw[AU A];show U
 show⟨e,_,_,_,_,_,rfl,rfl,V,T.gf,T.ox,_,rfl,GC ⟨e,_,_,_,_,_,rfl,rfl,V,T.gf,T.nj,_,rfl,GC ⟨l,_,rfl,.inl (Ab AZ),rfl,rfl,k _ ?_⟩⟩⟩;have W:=s1.aa (s2.aa s3);showλb o B=>by rw[AU (A4 (W _ _ B) z)];show s4 _ _ (W _ _ B)
section
variable{s:AR}
unseal CC in theorem jG{X:BP}(hu0:X.A.units<Gq):CC X (E7 .Eq) (λx y H Q=>∃a b,x=.ref a/\y=.ref b/\H a=AA (.dK [])/\H b=AA (.dK [])/\Q (.bl AI) H):=by
 intro pins s σ H x y v u Q I rx ry h;lk;obtain⟨a,b,rfl,rfl,ea,eb,q⟩:=h;cases rx;cases ry;obtain⟨_,la,va,ra,da⟩:=ME I.cq ea;obtain⟨_,lb,vb,rb,db⟩:=ME I.cq eb;k_in;have l1:=ra.aq;have l2:=rb.aq;show W.keq_eq la lb da db hu0 (r:=AI) (λ_=>?_) ⟨_,H,I,?_,q⟩
 . cases ra;show .nil
 . change RG _=_;rw[<-l1,<-l2];simp
end
def Ks(H H':AG):Prop:=∀b o,H b=AA o->(∀C J U,o≠.ins C J U)->(∀D,o≠.dK D)->H' b=AA o
theorem Ks.zf(h:Ks H H')(e:H b=AA (.lst xs)):H' b=AA (.lst xs):=h b _ e (by intro _ _ _ z;cases z) (by intro _ z;cases z)
theorem Ks.tp(h:Ks H H'):Bd H H':=λb O e=>h b _ e (by intro _ _ _ z;cases z) (by intro _ z;cases z)
theorem E9.lt(h:E9 E H ss F C V J A B W Y)(s:∀b o,¬F5 ss F b->H b=AA o->H' b=AA o):Ks H H':=λb o e U Z=>s b o (λz=>by
 rcases z with z|z|z
 . obtain⟨_,D⟩:=h.av;rw[<-z,e]at D;show U _ _ _ (Bt D)
 . obtain⟨_,D⟩:=h.cw;rw[<-z,e]at D;show U _ _ _ (Bt D)
 . obtain⟨G,D⟩:=h.abg z;rw[e]at D;show Z _ (Bt D)) e
theorem Cc.lt(h:Cc V [] H ss X Y now D sd W gk)(s:CA (F6 ss X) H H'):Ks H H':=λb o e J U=>s b o (h.ae e J U) e
theorem SO:((["plan","clock","joins","groups","number"]:List AE)≠(["within","sides"]:List AE))/\(["plan","clock","joins","groups","number"]:List AE)≠(["rows"]:List AE)/\(["plan","clock","joins","groups","number"]:List AE)≠(["step","rows"]:List AE):=by decide+kernel
theorem Cc.ads{ad:Bh}{H H':AG}{ss:List AR}{X:EA}{F:GK}{sl now cnt slF nowF cntF num:Int}{sd:Nat->Dz}{gg:Nat->FC}{gk:Nat->EN}{sdF:Dz}{ggF:FC}{gkF:EN}(h:Cc ad [] H ss X sl now cnt sd gg gk)(f:E9 ad H ss F slF nowF cntF num sdF ggF gkF)(sep:N4 ss X F)(s:∀b o,¬F5 ss F b->H b=AA o->H' b=AA o):Cc ad [] H' ss X sl now cnt sd gg gk:=by
  lk;obtain⟨dx,ex⟩:=f.av;obtain⟨dc,ec⟩:=f.cw;k_in;have nxc:F.ck≠F.x:=λz=>by rw[z,ex]at ec;have:=Bt ec;injection this with _ _ q;show Gv.1 (AEG (List.map ABS) q)
  have nu:∀{b c:AB},F5 ss F b->Kv ss X c->c≠b:=λhb hc z=>sep _ (.inl hb) (by rw[<-z];show hc);have h1:=h.ob (λb o nb e=>by change(if b=F.x then H' b else H b)=_;rw[AED nb];show e) ex SO.1 SO.2.1 SO.2.2 (nu (.inl rfl) (.inl rfl)) (λi G ei=>nu (.inl rfl) (.inr (.inr (.inr (.inr ⟨i,G,ei,.inl rfl⟩))))) (nu (.inl rfl) (.inr (.inl rfl)));have e1:(λb=>if b=F.x then H' b else H b) F.ck=AA (.ins ad.aj dc (EM slF nowF cntF)):=by change(if F.ck=F.x then H' _ else H _)=_;rw[AED nxc];show ec
  have h2:=h1.ob (H':=λb=>if b=F.ck then H' b else if b=F.x then H' b else H b) (λb o nb e=>by change(if b=F.ck then H' b else _)=_;rw[AED nb];show e) e1 Gv.2.1 Gv.2.2.1 Gv.2.2.2 (nu (.inr (.inl rfl)) (.inl rfl)) (λi G ei=>nu (.inr (.inl rfl)) (.inr (.inr (.inr (.inr ⟨i,G,ei,.inl rfl⟩))))) (nu (.inr (.inl rfl)) (.inr (.inl rfl)));show h2.ack (p:=Fm ss _ _) (λb o nb e=>?_) (λb hb=>?_) λb hb=>sep.ao (.inl (.inr (.inr hb)))
  . have e:(if b=F.ck then H' b else if b=F.x then H' b else H b)=AA o:=e;by_cases q1:b=F.ck;.rw[AEE q1]at e;show e
    . rw[AED q1]at e;by_cases q2:b=F.x;.rw[AEE q2]at e;show e
      . rw[AED q2]at e;show s b o (λz=>z.elim q2 λz=>z.elim q1 nb) e
  . obtain⟨kv,e⟩:=f.abg hb;show⟨kv,?_⟩;change(if b=F.ck then H' b else if b=F.x then H' b else H b)=_;rw[AED (λz=>by rw[z,ec]at e;cases e),AED (λz=>by rw[z,ex]at e;cases e)];show e
def W9(ss:List AR)(X:EA)(b:AB):Prop:=∃(i:Nat)(h:GL),X.hs[i]?=AA h/\Gw ss h b
theorem E9.abf{K:Bh}(f:E9 K H ss F I W V C E Z A)(h:Cc K [] H ss X l now N sd j gk)(D:N4 ss X F)(s:CA (F6 ss X) H H'):E9 K H' ss F I W V C E Z A:=by
 lk;obtain⟨P,R⟩:=f.av;obtain⟨O,Q⟩:=f.cw;obtain⟨g,L⟩:=h.cw;k_in;have k:∀{b c:AB},F5 ss F b->Kv ss X c->b≠c:=λU S z=>D _ (.inl U) (by rw[z];show S);have s1:BR _ H _:=λb o B e=>by change(if b=X.ck then H' b else H b)=_;rw[AED B];show e
 have M:=f.toFU.av s1 L Gv.2.1 Gv.2.2.1 Gv.2.2.2;have T:∀b,W9 ss X b->∃d,(λb=>if b=X.ck then H' b else H b) b=AA _:=λb⟨i,G,Y,U⟩=>by obtain⟨a,e⟩:=(h.cp i G Y).abg U;show⟨a,?_⟩;change(if b=X.ck then H' b else H b)=_;rw[AED (λz=>by rw[z,L]at e;cases e)];show e
 have s2:=λb o B e=>by
  have e:(if b=X.ck then H' b else H b)=AA o:=e;by_cases q:b=X.ck;.rw[AEE q]at e;show e
  . rw[AED q]at e;show s b o (λz=>z.elim q B) e
 have J:∀{b:AB},W9 ss X b->Kv ss X b:=λ⟨i,G,Y,U⟩=>.inr (.inr (.inr (.inr ⟨i,G,Y,.inr (.inr (.inr U))⟩)));show⟨M.ack s2 T λb U=>⟨λz=>D b (.inl (.inr (.inr z))) (J U),λz=>D b (.inr (.inl z)) (J U),λz=>D b (.inr (.inr z)) (J U)⟩,⟨P,s _ _ (λz=>D _ (.inl (.inl rfl)) ?_) R⟩,⟨O,s _ _ (λz=>D _ (.inl (.inr (.inl rfl))) ?_) Q⟩⟩;.show z.elim (λz=>.inr (.inl z)) J
 .show z.elim (λz=>.inr (.inl z)) J
def Kr(c:AB)(H:AG)(Y:List AD):Prop:=∀v∈Y,∃(q r U:AB)(W J:List AD)(D:List (List AL)),v=.ref q/\H q=AA (.tup [.ref r,.ref U])/\H r=AA (.lst (W++J))/\H U=AA (.lst (W++J))/\CD H W D/\(∀Z∈D,JE Z=AI)/\(J=[]\/J=[.non])/\r≠c/\U≠c
theorem Kr.ae(h:Kr c H J)(t:Ks H H'):Kr c H' J:=λv Y=>by lk;obtain⟨q,r,Z,A,z,D,e,e1,U,W,w,o,n⟩:=h v Y;k_in;show⟨q,r,Z,A,z,D,e,t.tp _ _ e1,t.zf U,t.zf W,w.ae t.tp,o,n⟩
theorem Kr.aen(h:Kr c H Z)(t:Ks H H')(G:H c=AA (.lst Q))(I:H D=AF):Kr c (AK (AK H' c o) D C) Z:=λv K=>by
 lk;obtain⟨q,r,N,P,O,J,e,e1,W,Y,w,M,n,A,B⟩:=h v K;k_in;have U:∀{b:AB}{L:BL},H b=AA L->b≠D:=λe=>A4 e I;have E:∀{b:AB}{F:List AD},H b=AA (.tup F)->(AK (AK H' c o) D C) b=AA _:=λ{b F}e=>by rw[AU (U e),AU (λz=>by rw[z,G]at e;cases e)];show t.tp _ _ e
 show⟨q,r,N,P,O,J,e,E e1,?_,?_,Hm (λ_ _⟨a,e,e1⟩=>⟨a,e,E e1⟩) w,M,n,A,B⟩
 . rw[AU (U W),AU A];show t.zf W
 . rw[AU (U Y),AU B];show t.zf Y
theorem V7{K:An}:∀{xs:List AD}{D:List JP},IT K H xs D->IT K H (xs++[.non]) (D++[.none])|_,_,.nil=>.cons .non .nil|_,_,.cons a b=>.cons a (V7 b)
theorem fE{K:An}(w:CD H ys kss)(W:∀z∈kss,JE z=AI)(n:J=[]\/J=[.non]):∃D,IT K H (ys++J) D/\Kk (.list D)=AI:=by
  rcases n with rfl|rfl;.show⟨_,by rw[Ea];show w.aep,Oi W⟩
  . show⟨_,V7 w.aep,?_⟩;have h:=Oi W;simp[Kk,Ki,Kj]at h⊢;have Y:∀{D E:List _},IA (D++E)=(IA D&&IA E):=λ{D E}=>by induction D with|nil=>simp[IA]|cons d D U=>simp[IA,U,Bool.and_assoc]
    have Z:∀{D:List _},GW (D++[.none])<=Jn (GW D) 1:=λ{D}=>by induction D with|nil=>simp[GW,Kj]|cons d D U=>simp only[UY,GW];omega
    show⟨by rw[Y,h.1];rfl,?_⟩;have:=Z (D:=kss.map IZ);show Af this (ABO h.2 (by decide))
theorem Rg(D:C8 ss)(U:∀(i:Nat)s,ss[i]?=AA s->s.cu=AM->z s.nm=FE s z V/\z s.nm<=600)(E:evs.length<=V)(F:∀e∈evs,IG (IK e)):Mg ss evs:=λp i s J W=>by have A:=(BH.mp J).1;have C:(Cu p _).length<=V:=Af (Fc _ _) E;have Y:=Wc D U C (λi s O J O=>Mf D J) _ i s (Ag _) A J W;show⟨Af Y (U i s J W).2,λx B=>(Rf D (λe Z=>F e (EH.mp Z).1) _ i s (Jo _) J x B).1⟩
theorem VM(D:C8 ss)(W:∀e∈evs,IG (IK e))(p:AE->Bool){i:Nat}(J:ss[i]?=AA s)(V:x∈Bv ss (Cu p evs) s.nm):Cp x.2.1:=(Rf D (λe U=>W e (EH.mp U).1) _ i s (Jo _) J x V).2
theorem Sl(D:C8 ss)(C:∀e∈evs,IG (IK e))(p:AE->Bool)(B:t∈Ap ss)(h:DJ ss now (Bv ss (Cu p evs)) t z≠[]):Cp z:=by
 lk;obtain⟨s,J,E⟩:=HW.mp B;obtain⟨_,_,Y⟩:=D.iu J E;obtain⟨F,G,_,V,W,_⟩:=D.qm t s _ J (by rw[Y];show .head _);k_in;rw[Jb J]at h;show Nx λA=>h ?_;unfold F8;rw[XI λZ=>A ?_];.rfl
 . lk;obtain⟨x,U,e⟩:=A7.mp Z;k_in;rw[<-W]at U;rw[<-e];show VM D C p V U
theorem WI(D:C8 ss)(W:Mg ss evs)(G:∀e∈evs,IG (IK e))(A:∀t∈Ap ss,(gk t).length<=(Bv ss (Cu p evs) (Eu ss t)).length)(J:∀(t:Nat)n a b wi,ss[t]?=AA (.join n a b wi)->(sd t).1.Perm (BJ (now-wi) (Bv ss (Cu p evs) a))/\(sd t).2.Perm (BJ (now-wi) (Bv ss (Cu p evs) b))):Jx ss sd (DJ ss now (Bv ss (Cu p evs))) gk λz=>Cp z/\p z=AI:=by
 have V:∀{t:Nat}{n a b:AE}{wi:Int},ss[t]?=AA _->∀f∈(AR.join n a b wi).bz,∀{S:List AN},S.Perm (BJ _ (Bv ss _ f))->S.length<=600/\∀x∈S,Cp x.2.1/\p x.2.1=AI:=λ{t n a b wi}U f N{S}H=>by
  obtain⟨O,I,_,E,rfl,P⟩:=D.qm t _ f U N;show⟨?_,λx Z=>?_⟩
  . have K:=H.length_eq;have L:=Lz (now-wi) (Bv ss (Cu p evs) I.nm);have M:=(W p O I E P).1;show Af (Af (BW K) L) M
  . have Z:=(EH.mp (H.mem_iff.mp Z)).1;show⟨VM D G p E Z,dY Z⟩
 show⟨λt⟨n,a,b,wi,U⟩=>?_,λt⟨n,a,b,wi,U⟩=>?_,λt Y=>⟨Af (A t Y) (W.acb D p Y).1,λz=>W.ud D p _ Y z⟩,λt Y z F=>⟨Sl D G p Y F,?_⟩⟩;. obtain⟨B,C⟩:=J t n a b wi U;show⟨(V U a (.head _) B).1,(V U b (.tail _ (.head _)) C).1⟩
 . obtain⟨B,C⟩:=J t n a b wi U;show⟨(V U a (.head _) B).2,(V U b (.tail _ (.head _)) C).2⟩
 .cases q:p z with|true=>rfl|false=>show absurd (Ms q _ t) F
theorem Jx.ji(h:Jx ss sd U gk p)(w:∀z,p z->q z):Jx ss sd U gk q:=⟨h.sl,λt D=>⟨λx J=>w _ ((h.sp t D).1 x J),λx J=>w _ ((h.sp t D).2 x J)⟩,h.gl,λt D z V=>w _ (h.gp t D z V)⟩
theorem Xg(D:Int)(f:Nat->List AN):∀l:List Nat,BJ D (l.flatMap f)=l.flatMap λi=>BJ D (f i)|[]=>rfl|i::l=>by rw[El,El,<-Xg D f l];show GG _ _
theorem d8(A:0<X.hs.length)(J:∀i,i<X.hs.length->∀(t:Nat)n a b wi,ss[t]?=AA (.join n a b wi)->(sd i t).1.Perm (BJ (now-wi) (Cq ss X evs i a))/\(sd i t).2.Perm (BJ (now-wi) (Cq ss X evs i b)))(D:∀(t:Nat)n a b wi,ss[t]?=AA (.join n a b wi)->(U t).1.Perm (BJ (now-wi) (Bv ss evs a))/\(U t).2.Perm (BJ (now-wi) (Bv ss evs b))):VL ss X.hs.length sd (λi=>DJ ss now (Cq ss X evs i)) U (DJ ss now (Bv ss evs)):=by
  have Z:∀{a:AE}{wi:Int}{S:Nat->List AN}{Y:List AN},(∀i,i<X.hs.length->(S i).Perm _)->Y.Perm (BJ _ _)->((FP _).flatMap S).Perm Y:=λ{a wi S Y}h F=>by
    show .trans ?_ F.symm;show .trans ?_ ((dZ (ss:=ss) (Mi A) (evs:=evs) a).filter _);change wM _ (BJ _ _);rw[Xg];have:∀{n:Nat},n<=X.hs.length->((FP n).flatMap S).Perm ((FP n).flatMap λi=>BJ (now-wi) (Cq ss X evs i a)):=λ{n}G=>by induction n with|zero=>show .nil|succ n I=>rw[aC,Q1,Q1,wR,wR];show(I (DY G)).append (h n (by assumption))
    show this (Ag _)
  show⟨λt⟨n,a,b,wi,W⟩m L=>?_,λt H z p=>⟨λh=>⟨_,Mi A z,?_⟩,λ⟨i,V,h⟩=>?_⟩,λt H z i j V K C E=>?_⟩
  . unfold IQ;by_cases q:m=0;. simp only[AEE q];show Z (λi V=>(J i V t n a b wi W).1) (D t n a b wi W).1
    . simp only[AED q];show Z (λi V=>(J i V t n a b wi W).2) (D t n a b wi W).2
  . rw[OB (AEF rfl)];show h
  . by_cases q:FG X z=i
    . rw[OB (AEF q)]at h;show h
    . rw[Ms (AEH q)]at h;cases h
  . have e1:=Nx λq=>C (Ms (AEH q) _ t);have B:=Nx λq=>E (Ms (AEH q) _ t);rw[<-e1,B]
theorem XZ(H:C8 ss){g:Nat->AE->List AY}(E:∀t∈Ap ss,∀z,D1 (g t z)){qs D:List C3}(F:(qs.map C9).Nodup)(G:(D.map C9).Nodup)(s1:C5 (qs.map C9))(s2:C5 (D.map C9))(W:∀q:C3,q∈qs↔q.1∈Ap ss/\q.2.2∈g q.1 q.2.1)(Y:∀q:C3,q∈D↔q.1∈Ap ss/\q.2.2∈g q.1 q.2.1):qs=D:=XY F G s1 s2 (λq=>(W q).trans (Y q).symm) λa B b C e=>by lk;obtain⟨t1,A⟩:=(W a).mp B;obtain⟨_,V⟩:=(Y b).mp C;k_in;have J:=JQ (DS (DS e).2).1;have J:=Md.mp J;have U:=Gr (DS (DS (DS e).2).2).1;have Z:=JQ (DS (DS (DS (DS e).2).2).2).1;rw[<-J,<-U]at V;show RB J (RB U (Xr (E _ t1 _) A V Z))
theorem XO(D:∀s∈ss,∀t∈s.aaw,Cp t)(h:∀q∈qs,Cp q.2.1):∀J∈P2 ss qs,JE J=AI:=λJ W=>by lk;obtain⟨q,Y,rfl⟩:=A7.mp W;k_in;cases V:ss[q.1]? with|none=>rfl|some s=>have U:Cp s.nm:=D s (CZ V) _ (by cases s<;>show .head _);change(NI _&&(NI _&&AI))=AI;rw[show NI (Bx _)=AI from U.ok,show NI (Bx _)=AI from(h q Y).ok];rfl
def JV(H:AG)(ys:List AD):Prop:=∀v∈ys,v=.non\/∃a u,v=.ref a/\H a=AA (.tup u)/\∀i:Int,u.head?≠AA (.int i)
theorem JV.afi(h:JV H ys)(J:AD.ref a∈ys)(e:H a=AA (.tup (.int i::u))):False:=by
 rcases h _ J with z|⟨U,W,e1,D,n⟩;.cases z
 . cases e1;rw[e]at D;cases D;show n i rfl
theorem Cm.aem(h:Cm Z [] H x d L)(e:H c=AA (.lst ys))(G:JV H ys):Cm Z [c] H x d L:=by lk;obtain⟨o,U,e1,n,l,q,A⟩:=h;k_in;show⟨o,U,e1,n,l,λp F=>?_,A⟩;lk;obtain⟨z,r,K,D,B,_,J,hw,W,I,Y⟩:=q p F;k_in;show⟨z,r,K,D,B,λE=>?_,J,hw,W,I,Y⟩;rw[BV.mp E,e]at J;cases J;cases D with|nil=>show W rfl|cons M D=>cases hw with|cons a _=>obtain⟨b,rfl,C⟩:=a;obtain⟨i,_,rfl⟩:=A7.mp (Y.mem_iff.mp (.head _));show G.afi (.head _) C
theorem Dy.aem{st:AR}(h:Dy W [] H x p d st g kvs)(e:H c=AA (.lst ys))(A:JV H ys):Dy W [c] H x p d st g kvs:=⟨h.av,h.pj,h.aw.ao,h.aw.nd,λq z=>by lk;obtain⟨J,r,B,e1,_,D,w,U⟩:=h.aw.aav q z;k_in;show⟨J,r,B,e1,λZ=>?_,D,w,U⟩;rw[BV.mp Z,e]at D;cases D;generalize g _=C at w;cases w with|nil=>show U rfl|cons a _=>lk;obtain⟨b,E,rfl,Y,_⟩:=a;k_in;show A.afi (.head _) Y,h.aw.zy⟩
theorem FU.aah(h:FU J [] H ss A sd U gk)(e:H c=AA (.lst ys))(W:JV H ys)(M:A.lp≠c):FU J [] (AK H c o) ss A sd U gk:=by
 have L:Ck J [c] H ss A.dj A.nq A.jd sd:=by
  show⟨h.cx.ao,λt n a b O E=>?_,h.cx.bj,h.cx.xu⟩;obtain⟨v,j⟩:=h.cx.ie t n a b O E;show⟨v,j.av,j.ax,j.s0.aem e W,j.s1.aem e W,j.ne,λI=>?_⟩;have Y:=j.ax;rw[BV.mp I,e]at Y;cases Y;obtain⟨Q,B⟩:=j.s0.av;rcases W _ (.head _)with z|⟨P,u,e1,Z,_⟩;.cases z
  . cases e1;rw[B]at Z;cases Z
 have F:DO J [c] H ss (Ap ss) A.dg A.ou A.gd U gk:=by show⟨h.bb.ao,λt K=>?_,h.bb.bj,h.bb.oq⟩;obtain⟨N,C,v,g⟩:=h.bb.qo t K;show⟨N,C,v,g.aem e W⟩
 have G:FU J _ H ss A sd U gk:=⟨h.kh,h.jy,h.ff,h.yp,L,h.dw,h.qx,h.ze,F,h.wq,h.oq⟩;have D:=G.zf (o:=o) (.head _) e M;show⟨D.kh,D.jy,D.ff,D.yp,D.cx.ji,D.dw,D.qx,D.ze,D.bb.ji,D.wq,D.oq⟩
theorem Cc.aah(h:Cc C [] H ss X B now D sd A gk)(e:H c=AA (.lst ys))(P:JV H ys)(N:X.lh≠c)(O:∀(i:Nat)G,X.hs[i]?=AA G->G.lp≠c):Cc C [] (AK H c o) ss X B now D sd A gk:=by
 have U:∀{b:AB}{W:BL},H b=AA W->(∀J,W≠.lst J)->(AK H c o) b=AA W:=λ{b W}Y n=>by rw[AU λz=>by rw[z,e]at Y;show n _ (Bt Y).symm];show Y
 lk;obtain⟨I,M⟩:=h.av;obtain⟨E,K⟩:=h.cw;k_in;show⟨⟨I,U M (by intro J z;cases z)⟩,⟨E,U K (by intro J z;cases z)⟩,by rw[AU N];show h.cb,U h.iz (by intro J z;cases z),λi G Z=>?_,h.bj,h.aaz⟩;obtain⟨F,L⟩:=(h.cp i G Z).av;show⟨(h.cp i G Z).toFU.aah e P (O i G Z),F,U L (by intro J z;cases z)⟩
theorem E9.aah(h:E9 C H ss F B now D J sd Z gk)(e:H c=AA (.lst ys))(M:JV H ys)(L:F.lp≠c):E9 C (AK H c o) ss F B now D J sd Z gk:=by
 have A:∀{b:AB}{U:BL},H b=AA U->(∀Y,U≠.lst Y)->(AK H c o) b=AA U:=λ{b U}W n=>by rw[AU λz=>by rw[z,e]at W;show n _ (Bt W).symm];show W
 lk;obtain⟨G,K⟩:=h.av;obtain⟨E,I⟩:=h.cw;k_in;show⟨h.toFU.aah e M L,⟨G,A K (by intro Y z;cases z)⟩,⟨E,A I (by intro Y z;cases z)⟩⟩
theorem Kr.aah(h:Kr c H D):JV H D:=λv J=>by lk;obtain⟨q,r,U,_,_,_,e,e1,_⟩:=h v J;k_in;show .inr ⟨q,_,e,e1,λi z=>by cases z⟩
theorem jV(h:BF (II ss H) xs qs):JV H xs:=λv U=>by lk;obtain⟨i,J,e⟩:=Gk.mp U;obtain⟨l,g⟩:=CO h;obtain⟨a,s,_,e1,D⟩:=g i v qs[i] (by rw[Cd J,e]) (Cd _);k_in;show .inr ⟨a,_,e1,D,λi z=>by cases z⟩
theorem VR(h:Cm D [] H x d []):Cm D ex H x d []:=by lk;obtain⟨o,U,e,n,l,q,c⟩:=h;k_in;have e0:=List.length_eq_zero_iff.mp (Nat.le_zero.mp l);subst e0;show⟨o,[],e,n,l,λq J=>(by cases J),c⟩
theorem Cc.acp(h:Cc A [] H ss X Z now J (λS S=>([],[])) Y (λS S=>[]))(e:H c=AA (.lst ps))(M:FD H ps ss):Cc A [c] H ss X Z now J (λS S=>([],[])) Y (λS S=>[]):=⟨h.av,h.cw,h.cb,h.iz,λi G B=>by
 have D:=h.cp i G B;show⟨⟨D.kh,D.jy,D.ff,D.yp,⟨D.cx.ao,λt n a b N F=>?_,D.cx.bj,D.cx.xu⟩,D.dw,D.qx,D.ze,⟨D.bb.ao,λt L=>?_,D.bb.bj,D.bb.oq⟩,D.wq,D.oq⟩,D.av⟩
 . obtain⟨v,j⟩:=D.cx.ie t n a b N F;show⟨v,j.av,j.ax,VR j.s0,VR j.s1,j.ne,λI=>?_⟩;have W:=j.ax;rw[BV.mp I,e]at W;cases W;obtain⟨O,z,e1,_,U⟩:=M.at (i:=0) rfl;cases e1;obtain⟨P,C⟩:=j.s0.av;have U:H _=_:=U;rw[C]at U;cases U
 . lk;obtain⟨z,E,v,g⟩:=D.bb.qo t L;k_in;show⟨z,E,v,g.av,g.pj,g.aw.ao,g.aw.nd,λq K=>(by cases K),g.aw.zy⟩,h.bj,h.aaz⟩
theorem XA{kss:List (List AL)}(h:∀D∈kss,JE D=AI):Kk (.tuple [.bool b,.list (kss.map IZ)])=AI:=by
 have J:=Oi h;have W:∀kss:List _,GW (kss.map IZ)<=2:=λkss=>by
  have V:∀D:List _,GW (D.map KS)<=1:=λD=>by induction D with|nil=>simp[GW]|cons k D U=>cases k<;>simp<;>assumption
  induction kss with|nil=>simp[GW]|cons D kss U=>have:=V D;show ABO (Gn.mpr this) U
 have:=W kss;simp[Kk,Ki,IA,Kj,GW]at J⊢;show⟨J.1,by lia⟩
def VO(G:Bh)(M:AG)(ss:List AR)(X:EA)(F:GK)(L:Int)(I:AB)(E:Option AD->Option AD->Option AD->Ai)(i:Nat):Ai->AG->Prop:=λO Y=>VX (λ(N B C:Option AD)(W:List AD)(D:List Bf)(U J z:Int)(K:Nat->Dz)(H:Nat->EN)(A:Dz)(Z:EN)=>O=E N B C) (λS S S S S S S S S S S S=>Aj M Y) (λS S S S D U J S K H S S=>JU G Y ss X L U J K H D) (λS S S S D U J z S S A Z=>Iv G Y ss F L U J z A Z (Bv ss D)) (λS S S W S S S S S S S S=>Y I=AA (.lst W)) (λS S S W S S S S S S S S=>Kr I Y W) (λS S S W S S S S S S S S=>W.length<=i) (λS S S S D S S S S S S S=>D.length<=i) (λS S S S D S S S S S S S=>∀e∈D,IG (IK e))
theorem iH{K:An}{ad:Bh}(T:BA K mg ad):HZ P w K mg base A3 R5 ad.abb ad.acf ["_law_script"] (P5 K):=by
  have G_u_law_cell_at:=P0 (P:=P) (w:=w) (base:=base) T;have G_House_finish:=jB (P:=P) (w:=w) (base:=base) T;show T.acd.ok Xd (λO O O O h=>by obtain⟨a,ns,rfl,_⟩:=h;rfl) λcdv A outer s H vs Q E hr h=>?_;lk;obtain⟨a,ns,rfl,hS,hl,k⟩:=h;k_in;have nd:=Xd.nd;show⟨_,(Ae (Bw 1 nd (JF K (DB (Y9 AO (Y9 AO E3))) (AW Jl (AW MJ (A5 G_u_law_cell_at hr (Y9 (AH 0) (Y9 AO E3))) AO) AO))) (Ae (Bw 2 nd (A5 (iR T) hr (Y9 (AH 0) (Y9 (AH 1) E3)))) (Ae (Bw 3 nd (AW Qi (AW Jl (A5 G_u_law_cell_at hr (Y9 (AH 0) (Y9 AO E3))) AO) (A5 (SS T) hr (Y9 (AH 0) E3)))) (Ae (Ii (B0 (Bj Cs (AW Jl (AW MJ (A5 G_u_law_cell_at hr (Y9 (AH 0) (Y9 AO E3))) AO) AO) AO (Ba _)) (Aa (Bw 3 nd (AW Jl (AW MJ (A5 G_u_law_cell_at hr (Y9 (AH 0) (Y9 AO E3))) AO) AO))) CQ)) (Ae (Bw 4 nd (AW GF AO (AW Jl (A5 G_u_law_cell_at hr (Y9 (AH 0) (Y9 AO E3))) AO))) (Ae (Bw 5 nd (Ie (MD (K:=K)) (by rfl) T.jt Kh (Y9 (AH 2) E3))) (Dw (Bw 6 nd (J9 (jC T) hr T.yt Hn (Y9 (AH 5) (Y9 (AH 3) (Y9 (AH 4) E3))))) (Ae (EU (tF (K:=K) Le AB0 F.type_list_clear sH (AH 5))) (Dw (Bw 7 nd (J9 (gZ T) hr T.abx Hn (Y9 (AH 2) (Y9 (AH 3) E3)))) (Dw (Bw 8 nd (DB E3)) (Dw (DQ Dc rfl (tP (by rfl) T.js (Y9 AO (Y9 (CL (YF rfl) (by rfl) T.abp xV (Y9 (AW LP (CL (LI (K:=K)) (by rfl) T.iq GY (Y9 (AH 0) E3)) AO) (Y9 (AW GF AO (AW Qi AO (AH 1))) E3))) (Y9 AO E3)))) (D7 9 nd) (Ae (Bw 10 nd (A5 (gV T) hr (Y9 (AH 0) (Y9 (AH 9) E3)))) (Ae (Ii (Bw 11 nd (Ee (AH 6) T.au (jA T) hr (Y9 (AH 10) E3)))) (Ae (Ii (B0 (LD (NU (Bj (OZ (K:=K) hr.zb) (AH 11) (Ee (AH 7) T.bc (gW T) hr (Y9 (AH 10) E3)) (Ba _)) (Of (KW (Ij (CL (OQ (K:=K)) (by rfl) T.bh Jr (Y9 (BG K (AH 11) AO) (Y9 (NN (v:=.ty "bool") (by rfl) T.zw xU rfl) E3)))))))) (Aa (Ay Fb)) CQ)) (Ae (EU (Qk K (AH 8) (Y9 (Cn (Y9 (BG K (AH 11) AO) (Y9 (AW Gg (Ie (MD (K:=K)) (by rfl) T.jt Kh (Y9 (BG K (AH 11) AO) E3)) (DB (Y9 NO E3))) E3))) E3))) (Ae (EU (Qk K (BG K (AH 11) AO) (Y9 NO E3))) (Ae (B0 (Bj UB (Ee (AH 6) T.au (SU T) hr (Y9 (BG K (AH 10) AO) E3)) (A5 (Wr T) hr (Y9 (BG K (AH 10) AO) (Y9 (AH 4) E3))) (Ba _)) (Aa (Ay Fb)) CQ) (Aa (B0 (LD (UD (Bj Cs (AW Jl (AW MJ (AH 9) AO) AO) AO (Ba _)) (UE (LD (NU (KW (Ij (A5 (iA T) hr (Y9 (AH 6) (Y9 (AH 4) E3))))) (Of (KW (Ij (A5 (gM T) hr (Y9 (AH 6) (Y9 (AH 7) E3))))))))))) (Aa (Ay Fb)) CQ))))))))) (Ae (Bw 12 nd (KA (AH 6) T.au G_House_finish hr)) (Ae (EU (Qk K (AH 8) (Y9 (Cn (Y9 (AH 12) (Y9 (Ie (MD (K:=K)) (by rfl) T.jt Kh (Y9 (AH 12) E3)) E3))) E3))) (Ae (B0 (LD (NU (Bj (OZ (K:=K) hr.zb) (AH 12) (KA (AH 7) T.bc (gY T) hr) (Ba _)) (Of (Bj (sT (K:=K) hr.zu) (KA (AH 6) T.au G_House_finish hr) (DB E3) (Ba _))))) (Aa (Ay Fb)) CQ) (Ae (B0 (Bj T7 (CL (LI (K:=K)) (by rfl) T.iq GY (Y9 (Ib (CT Sa) [] trivial (DH (K:=K) (AH 8)) (λO O O O=>MM (Bj (OZ (K:=K) hr.zb) (BG K (AH 0) AO) (BG K (AH 0) AO) (Ba _))) (λO O O O=>(AH 0))) E3)) AO (Ba _)) (Aa (Ay Fb)) CQ) (Ae (B0 (KW (Ij (A5 (iU T) hr (Y9 (AH 2) (Y9 (JF K (DB (Y9 (UC Zt AO) (Y9 AO (Y9 Fb (Y9 NO (Y9 C7 (Y9 (UC Zt (AW Qj AO AO)) E3))))))) (AW Jl (A5 G_u_law_cell_at hr (Y9 (AH 0) (Y9 AO E3))) AO)) (Y9 (AH 4) E3)))))) (Aa (Ay Fb)) CQ) (Aa (Ay (KU (Jm Cs (BC (BC (AH 6) rfl) rfl) (BC (BC (AH 7) rfl) rfl) (Ba _)) (KU (Jm Cs (BC (BC (AH 6) rfl) rfl) (BC (BC (AH 7) rfl) rfl) (Ba _)) (ML (Jm (jG hr.zu) (BC (AH 6) rfl) LQ (Ba _))))))))))))))))))))))),?_⟩;have sz:Az=16777216:=D8;show⟨CY rfl,λp0 hp0=>?_⟩;show BQ hp0 λH1 g1 ep0=>?_;show⟨a,ns,_,rfl,g1.xp hS,by decide,hl,λc0=>?_⟩;lk;obtain⟨v,hv,hm⟩:=Hi [AD.int 8,.int 16] 2 rfl (by decide) (c0/432);obtain⟨mo,rfl,hmo⟩:∃mo:Nat,v=.int (mo:Int)/\(mo=8\/mo=16):=by
    simp only[B6,Q5,AER]at hm;rcases hm with rfl|rfl;.show⟨8,rfl,.inl rfl⟩
    .show⟨16,rfl,.inr rfl⟩
  k_in;show⟨⟨by decide,by decide⟩,(by decide:(0:Int)<2),_,_,Ab ep0,hv,?_⟩;show⟨a,ns,mo,rfl,g1.xp hS,hl,by lia,λlp H2 ps ss z g2 hlp elp pr pok lss txt siz=>?_⟩;show⟨a,ns,_,rfl,(g1.aa g2).xp hS,by decide,hl,λc1=>?_⟩;show⟨(by decide:(0:Int)<20),a,ns,rfl,(g1.aa g2).xp hS,hl,λsc H3 g3 hsc=>?_⟩;have b20:0<=c1%20/\c1%20<20:=⟨Fz _ (by decide),HP _ (by decide)⟩;have hsl:0<=c1%20*sc/\c1%20*sc<=1000000000:=by rcases hsc with rfl|rfl<;>lia
  show⟨by rcases hsc with rfl|rfl<;>show .inr ⟨by simp,by simp⟩,?_⟩;have hS3:=(g1.aa (g2.aa g3)).xp hS;show IV (λσ' H'=>Jf (λ(sl:Int)=>(0<=sl/\sl<=1000000000)) (λsl=>σ'=[AA (.ref a),AA (.int (mo:Int)),AA (.ref lp),AA (.int sl),AF,AF,AF,AF,AF,AF,AF,AF,AF]) (λO=>Aj H3 H')) ?_ ?_
  . show⟨a,ns,_,rfl,hS3,by decide,hl,λc2=>⟨⟨by decide,by decide⟩,(by decide:(0:Int)<8),rfl,_,rfl,D6 (λO=>?_) λO=>⟨_,hsl,rfl,Bz _⟩⟩⟩;show⟨a,ns,_,rfl,hS3,by decide,hl,λc3=>⟨⟨by decide,by decide⟩,(by decide:(0:Int)<1000000001),_,⟨Fz _ (by decide),AAe (HP _ (by decide))⟩,rfl,Bz _⟩⟩
  intro σ4 H4 hI;lk;obtain⟨sl,⟨s0,s1⟩,rfl,g4⟩:=hI;k_in;have hS4:=g4.xp hS3;have g24:=g3.aa g4;have elp4:=g24 _ _ elp;have pr4:=pr.ae g24.tp;clear g1 g2 g3 g4 hS3 ep0 b20 hsl hsc g24 elp pr hS;show⟨a,ns,_,rfl,hS4,by decide,hl,λc4=>⟨(by decide:(0:Int)<8),?_⟩⟩;lk;obtain⟨m,em,m0,m8⟩:∃m:Nat,1+c4%8=(m:Int)/\0<m/\m<=8:=⟨(1+c4%8).toNat,by lia,by lia,by lia⟩;k_in;show⟨lp,ps,rfl,.inl (Ab elp4),λhd hhd=>?_⟩;have hhd4:=hhd;show BQ hhd λH5 g5 ehd=>?_;showλO O O O z1=>λx dx hx hdx hxn=>⟨x,dx,hd,ps,ss,sl,m,AEG (λz=>[AD.ref x,.ref hd,.int sl,.int z]) em,AZ,by rw[AU (A4 ehd hx),AU (A4 ehd hdx)];show ehd,(pr4.ae g5.tp).ae λb xs e=>by rw[AU (A4 e hx),AU (A4 e hdx)];show e,lss,s0,s1,m8,λH6 X eX lX sx hb fre flp=>⟨rfl,z1 _ _ ?_⟩⟩;subst eX lX;have g6:Aj H5 H6:=SK hx hdx sx;have fU5:∀b,Kv ss X b->H5 b=AF:=λb hb=>(fre b hb).elim (λz=>by rw[z];show hx) λz=>(Mj hxn z).1;have ehd6:=g6 _ _ ehd;show⟨.inl ⟨rfl,_,Ab ehd6⟩,hd,_,rfl,rfl,ehd6,?_⟩;have hb7:=((hb.acp ehd6 ((pr4.ae g5.tp).ae g6.tp)).zf (o:=.lst []) (.head _) ehd6 (λz=>by have:=fU5 X.lh (.inr (.inr (.inl rfl)));rw[z,ehd]at this;cases this) λi G ei z=>by have:=(Mj hxn (flp i G ei)).1;rw[z,ehd]at this;cases this).ji;have g47:Aj H4 (AK H6 hd (.lst [])):=λb o e=>by rw[AU (A4 e hhd4)];show g6 _ _ (g5 _ _ e)
  generalize AK H6 hd (.lst [])=H7 at hb7 g47⊢;clear hb ehd6;showλO O O O z2=>λy dy hy hdy hyn=>⟨y,dy,lp,ps,ss,sl,rfl,AZ,by have e:=g47 _ _ elp4;rw[AU (A4 e hy),AU (A4 e hdy)];show e,(pr4.ae g47.tp).ae λb xs e=>by rw[AU (A4 e hy),AU (A4 e hdy)];show e,lss,s0,s1,λH8 F sdF0 gkF0 eF sy fr8 freF=>⟨rfl,z2 _ _ ?_⟩⟩;subst eF;have g8:Aj H7 H8:=SK hy hdy sy;have fF7:∀b,F5 ss F b\/b=F.dj\/b=F.dg->H7 b=AF:=λb hb=>(freF b hb).elim (λz=>by rw[z];show hy) λz=>(Mj hyn z).1;have sep:N4 ss X F:=λb hb hu=>by obtain⟨o,e⟩:=hb7.gw hu;rw[fF7 b hb]at e;cases e
  have fU:∀b,F6 ss X b->H4 b=AF:=λb hb=>g5.ar (fU5 b (hb.elim (λz=>.inr (.inl z)) λ⟨i,G,ei,z⟩=>.inr (.inr (.inr (.inr ⟨i,G,ei,.inr (.inr (.inr z))⟩)))));have fF:∀b,F5 ss F b->H4 b=AF:=λb hb=>g47.ar (fF7 b (.inl hb));showλO O O O z3=>⟨BZ _,λlh hlh=>z3 _ _ ?_⟩;show BQ (o:=.lst []) hlh λH9 g9 elh=>?_;have g49:=g47.aa (g8.aa g9);have nX:X.lh≠lh:=A4 (hb7.ah g8).cb hlh;have nG:∀(i:Nat)G,X.hs[i]?=AA G->G.lp≠lh:=λi G ei=>A4 ((hb7.ah g8).cp i G ei).kh hlh;have nF:F.lp≠lh:=A4 fr8.ag.kh hlh;have hlh4:H4 lh=AF:=(g47.aa g8).ar hlh;have hR9:JU ad H9 ss X sl 0 0 (λO O=>([],[])) (λO O=>[]) []:=⟨((hb7.ah g8).ah g9).ud λi O t O=>?e0,λi O t O=>BZ _,λi O t n a b wi O=>?e1⟩;case e0=> change DJ ss 0 (Et ss [] ss.length) t=_;rw[N1];show Si ss 0 t
  case e1=> change[].Perm (BJ _ (Et ss [] ss.length a))/\[].Perm (BJ _ (Et ss [] ss.length b));rw[N1];show⟨.nil,.nil⟩
  have fR9:Iv ad H9 ss F sl 0 0 0 sdF0 gkF0 (Bv ss []):=by change Iv ad H9 ss F sl 0 0 0 sdF0 gkF0 (Et ss [] ss.length);rw[N1];show⟨fr8.ag.ah g9,fr8.wt,fr8.ax⟩
  clear hb7 fr8 g8 g9 g47 fF7 freF fre flp g6 fU5 g5 ehd;have hS9:=g49.xp hS4;have lns:(ns.map AD.int).length=ns.length:=As ..;showλO O O O z4=>⟨_,.inl hS9,.inl ⟨by decide,by decide⟩,_,_,_,rfl,⟨by decide,by decide,by decide,by decide,?_,?_⟩,?_⟩;.rw[lns];split<;>lia
  .rw[lns];split<;>lia
  have hn:FO 15 (if 15+2*(mo:Int)<((ns.map AD.int).length:Int)-1 then 15+2*(mo:Int)else((ns.map AD.int).length:Int)-1) 2<=mo:=by unfold FO;(repeat' split)<;>(first|lia|omega)
  generalize FO 15 (if 15+2*(mo:Int)<((ns.map AD.int).length:Int)-1 then 15+2*(mo:Int)else((ns.map AD.int).length:Int)-1) 2=nt at hn⊢;show qG (VO ad H4 ss X F sl lh (λo9 o10 o11=>[AA (.ref a),AA (.int (mo:Int)),AA (.ref lp),AA (.int sl),AA (.int (1+c4%8)),AA (.ref hd),AA (.ref X.x),AA (.ref F.x),AA (.ref lh),o9,o10,o11,AF])) ⟨AF,AF,AF,[],[],0,0,0,_,_,sdF0,gkF0,rfl,g49,hR9,fR9,elh,λv hv=>(by cases hv),BZ _,BZ _,λe he=>(by cases he)⟩ ?_ ?_
  . intro i σ H0 hi hI;lk;obtain⟨o9,o10,o11,hs,evs,now,cnt,num,sd,gk,sdF,gkF,rfl,g0,hR,fR,elh0,held,lhs,lev,oke⟩:=hI;k_in;have hS0:=g0.xp hS4;show⟨a,ns,_,rfl,hS0,hl,by lia,λq Hb e gb hq eq ak az te=>?_⟩;have oke':∀e'∈evs++[e],IG (IK e'):=λe' he=>(CS.mp he).elim (oke e') λhe=>by rw[BV.mp he];show⟨te,az⟩
    have lim:=Rg pok siz (evs:=evs++[e]) (by rw[Bs];change evs.length+1<=mo;show Q8.mp (BK (FQ lev hi) hn)) oke';have hRb:JU ad Hb ss X sl now cnt sd gk evs:=⟨hR.ag.ah gb,hR.wt,hR.ax⟩;have fRb:Iv ad Hb ss F sl now cnt num sdF gkF (Bv ss evs):=⟨fR.ag.ah gb,fR.wt,fR.ax⟩;obtain⟨dxX,exX⟩:=hRb.ag.av;have lateE:∀{α:Type}{u v:α},e.1<now->(if now<=e.1 then u else v)=v:=λh=>AED (JS h);show IV (λσ' H'=>Vh (λ(p r:AB)(xs:List AD)(qs:List C3)(sd':Nat->Dz)(gk':Nat->EN)=>σ'=[AA (.ref a),AA (.int (mo:Int)),AA (.ref lp),AA (.int sl),AA (.int (1+c4%8)),AA (.ref hd),AA (.ref X.x),AA (.ref F.x),AA (.ref lh),AA (.int (15+(i:Int)*2)),AA (.ref q),AA (.ref p),AF]) (λO O O O O O=>CA (F6 ss X) Hb H') (λp O O O O O=>Hb p=AF) (λO r O O O O=>Hb r=AF) (λp r O O O O=>H' p=AA (.tup [.bl (Ac (now<=e.1)),.ref r])) (λO r xs O O O=>H' r=AA (.lst xs)) (λO O xs qs O O=>BF (II ss H') xs qs) (λO O O qs O O=>(qs.map C9).Nodup) (λO O O qs O O=>C5 (qs.map C9)) (λO O O qs O O=>(∀m:C3,m∈qs↔now<=e.1/\m.1∈Ap ss/\m.2.2∈JA (Ew now sl e.1) (DJ ss now (Bv ss (evs++[e])) m.1 m.2.1))) (λO O O qs O O=>qs.length<=14400000) (λO O O O sd' gk'=>JU ad H' ss X sl (Ew now sl e.1) (cnt+1) sd' gk' (if now<=e.1 then evs++[e]else evs))) ?_ ?_
    . show⟨X.x,dxX,_,rfl,exX,by rfl,ss,X,sl,now,cnt,sd,gk,evs,e,q,rfl,hRb,pok,lss,m0,m8,eq,az,lim,(λhe H' p r u h2 hp hr ep er=>?_),λhe H' p r xs qs sd' gk' u h2 hp hr ep er pr' nd' sd2 mm lq=>?_⟩
      . show⟨p,r,[],[],sd,gk,rfl,u,hp,hr,by rw[AEH (JS he:¬now<=e.1)];show ep,er,.nil,.nil,.nil,λm=>⟨λh=>(by cases h),λh=>absurd h.1 (JS he)⟩,BZ _,?_⟩;rw[lateE he,show Ew now sl e.1=now from AEE he];show h2
      . show⟨p,r,xs,qs,sd',gk',rfl,u,hp,hr,by rw[AEF he];show ep,er,pr',nd',sd2,λm=>(mm m).trans ⟨λh=>⟨he,h⟩,λh=>h.2⟩,lq,?_⟩;rw[AEE he];show h2
    intro σ1 H1 hI;lk;obtain⟨p,r,xs,qs,sd1,gk1,rfl,u1,hp,hr1,ep,er,rw1,nd1,sdd1,mm1,lq1,hR1⟩:=hI;have fb1:=fRb.ag.abf hRb.ag sep u1;have lt1:=hRb.ag.lt u1;have eq1:HR H1 q e:=lt1.tp _ _ eq;obtain⟨dxF,exF⟩:=fb1.av;k_in;have limT:=λ(t:Nat)s(es:ss[t]?=AA s)(tt:s.cu=AM)=>by have:=lim (λO=>AI) t s es tt;rw[JW]at this;show this
    have okq:∀m∈qs,Cp m.2.1:=λm hm=>by obtain⟨_,h1,h2⟩:=(mm1 m).mp hm;show Sl pok oke' (λO=>AI) (now:=now) h1 (z:=m.2.1) ?_;rw[JW];show Nd (EH.mp h2).1
    have rok:=XO txt okq;have upT:∀t∈Ap ss,∀z,D1 (JA (Ew now sl e.1) (DJ ss now (Bv ss (evs++[e])) t z)):=λt ht z=>by have:=(lim.ud pok (λO=>AI) now ht z).1;rw[JW]at this;show this.sublist NZ
    show IV (λσ' H'=>LG (λ(num':Int)(sdF':Dz)(gkF':EN)=>σ'=[AA (.ref a),AA (.int (mo:Int)),AA (.ref lp),AA (.int sl),AA (.int (1+c4%8)),AA (.ref hd),AA (.ref X.x),AA (.ref F.x),AA (.ref lh),AA (.int (15+(i:Int)*2)),AA (.ref q),AA (.ref p),AF]) (λO O O=>(∀b o,¬F5 ss F b->H1 b=AA o->H' b=AA o)) (λnum' sdF' gkF'=>Iv ad H' ss F sl (Ew now sl e.1) (cnt+1) num' sdF' gkF' (Bv ss (if now<=e.1 then evs++[e]else evs)))) ?_ ?_
    . have cmp:∀{H2:AG}{p2 r2:AB}{xs2:List AD},(∀b o,¬F5 ss F b->H1 b=AA o->H2 b=AA o)->H2 p2=AA (.tup [.bl (Ac (now<=e.1)),.ref r2])->H2 r2=AA (.lst xs2)->BF (II ss H2) xs2 qs->Gd K H2 (.ref p) (.tuple [.bool (Ac (now<=e.1)),.list ((P2 ss qs).map IZ)])/\Gd K H2 (.ref p2) (.tuple [.bool (Ac (now<=e.1)),.list ((P2 ss qs).map IZ)]):=λ{H2 p2 r2 xs2}u2 ep2 er2 rw2=>by have lt2:=fb1.lt u2;show⟨.tup (Aq (lt2.tp _ _ ep)) (.cons (.bl _) (.cons (((Mr rw1).ae lt2.tp).dv (lt2.zf er)) .nil)),.tup (Aq ep2) (.cons (.bl _) (.cons ((Mr rw2).dv er2) .nil))⟩
      show⟨F.x,dxF,_,rfl,exF,by rfl,ss,F,sl,now,cnt,num,sdF,gkF,Bv ss evs,Bv ss (evs++[e]),evs,e,q,rfl,⟨fb1,fRb.wt,fRb.ax⟩,pok,lss,eq1,(λt s es tt=>⟨Mf pok es,Mf pok es,(limT t s es tt).1⟩),(λt s es tt=>(limT t s es tt).2),(λhe H2 p2 r2 u2 f2 hp2 hr2 ep2 er2=>?_),λhe H2 p2 r2 xs2 qs2 sd2 gk2 u2 f2 hp2 hr2 ep2 er2 rw2 nd2 sdd2 mm2 lq2 hB2=>?_⟩
      . have q0:qs=[]:=AAv.mpr λm hm=>by have:=((mm1 m).mp hm).1;show JS he this
        obtain⟨d1,d2⟩:=cmp u2 (by rw[AEH (JS he:¬now<=e.1)];show ep2) er2 (by rw[q0];show .nil);show NL d1 d2 (XA rok) ⟨_,rfl,EG ⟨_,_,Aq ((fb1.lt u2).tp _ _ ep),Ao (j:=0) rfl,_,"bool",_,_,rfl,.bl _,rfl,_,rfl,EG ⟨num,sdF,gkF,rfl,u2,?_⟩⟩⟩;rw[lateE he,show Ew now sl e.1=now from AEE he];show f2
      . have q0:qs2=qs:=XZ pok upT nd2 nd1 sdd2 sdd1 mm2 λm=>(mm1 m).trans ⟨λh=>h.2,λh=>⟨he,h⟩⟩;rw[q0]at rw2 f2;obtain⟨d1,d2⟩:=cmp u2 (by rw[AEF he];show ep2) er2 rw2;show NL d1 d2 (XA rok) ⟨_,rfl,EG ⟨_,_,Aq ((fb1.lt u2).tp _ _ ep),Ao (j:=0) rfl,_,"bool",_,_,rfl,.bl _,rfl,_,rfl,EG ⟨num+(qs.length:Int),sd2,gk2,rfl,u2,?_⟩⟩⟩;rw[AEE he];show f2
    intro σ2 H2 hI;lk;obtain⟨num2,sdF2,gkF2,rfl,u2,fR2⟩:=hI;k_in;have hb2:=hR1.ag.ads fb1 sep u2;have hR2:JU ad H2 ss X sl (Ew now sl e.1) (cnt+1) sd1 gk1 (if now<=e.1 then evs++[e]else evs):=⟨hb2,hR1.wt,hR1.ax⟩;have lt2:=fb1.lt u2;have lt02:Ks Hb H2:=λb o e n1 n2=>lt2 b o (lt1 b o e n1 n2) n1 n2;have g2:Aj H4 H2:=λb o e=>u2 b o (λz=>by rw[fF b z]at e;cases e) (u1 b o (λz=>by rw[fU b z]at e;cases e) (gb _ _ (g0 _ _ e)));have eq2:HR H2 q e:=lt2.tp _ _ eq1;have ep2:=lt2.tp _ _ ep;have er2:=lt2.zf er;have rws2:=(Mr rw1).ae lt2.tp;have elh2:=lt02.zf (gb _ _ elh0);have heldb:=held.ae (λb o e O O=>gb _ _ e);have heldo:=(heldb.ae lt02).aah;have evs2:(if now<=e.1 then evs++[e]else evs).length<=i+1/\(∀e'∈(if now<=e.1 then evs++[e]else evs),IG (IK e')):=by
      split;.show⟨by rw[Bs];change evs.length+1<=i+1;show Gn.mpr lev,oke'⟩
      .show⟨JM lev,oke⟩
    have lx:xs.length<=14400000:=by have:=(CO rw1).1;show Af (BW this) lq1
    generalize(if now<=e.1 then evs++[e]else evs)=evs' at hR2 fR2 evs2;generalize Ew now sl e.1=now' at hR2 fR2;have nlr:lh≠r:=A4 (gb _ _ elh0) hr1;show⟨.inl ⟨rfl,_,Ab elh2⟩,_,_,Aq ep2,Ao (j:=1) rfl,_,_,Aq ep2,Ao (j:=1) rfl,r,xs,rfl,.inl (Ab er2),λl1 hl1=>?_⟩;show BQ hl1 λH3 s3 el1=>⟨CY rfl,λl2 hl2=>?_⟩;show BQ hl2 λH5 s5 el2=>⟨l1,l2,xs,[.non],rfl,rfl,s5 _ _ el1,el2,by change xs.length+1<=Az;lia,λl3 hl3=>?_⟩;have nl3:lh≠l3:=A4 (s5 _ _ (s3 _ _ elh2)) hl3;have nr3:r≠l3:=A4 (s5 _ _ (s3 _ _ er2)) hl3;show BQ hl3 λH6 s6 el3=>⟨CY rfl,λt ht=>?_⟩;have ht':=ht;show BQ ht λH7 s7 et=>?_;have s27:=s3.aa (s5.aa (s6.aa s7));have elh7:=s27 _ _ elh2;have el37:=s7 _ _ el3;show⟨lh,_,_,rfl,rfl,elh7,by lia,?_⟩;have nplh:p≠lh:=λz=>by rw[z,elh2]at ep2;cases ep2
    have er7:(AK H7 lh (.lst (hs++[.ref t]))) r=AA (.lst xs):=by rw[AU (DZ nlr)];show s27 _ _ er2
    show⟨_,.ref r,Aq (by rw[AU nplh];show s27 _ _ ep2),Ao (j:=1) rfl,.inl ⟨rfl,_,Ab er7⟩,r,_,_,rfl,rfl,er7,FQ lx (by decide),?_⟩;have tpL:Bd H7 (AK H7 lh (.lst (hs++[.ref t]))):=(Ge H7).ik elh7 λxs=>by intro z;cases z
    have tpR:Bd (AK H7 lh (.lst (hs++[.ref t]))) (AK (AK H7 lh (.lst (hs++[.ref t]))) r (.lst (xs++[.non]))):=(Ge _).ik er7 λxs=>by intro z;cases z
    have od7:JV H7 hs:=(heldb.ae (λb o e n1 n2=>s27 _ _ (lt02 b o e n1 n2))).aah;have odr:=jV (Mq rw1 λb zs e=>tpL _ _ (s27 _ _ (lt2.tp _ _ e)));have hR8:JU ad (AK (AK H7 lh (.lst (hs++[.ref t]))) r (.lst (xs++[.non]))) ss X sl now' (cnt+1) sd1 gk1 evs':=⟨((hR2.ag.ah s27).aah elh7 od7 nX nG).aah er7 odr (A4 hRb.ag.cb hr1) λi G ei=>A4 (hRb.ag.cp i G ei).kh hr1,hR2.wt,hR2.ax⟩;have fR8:Iv ad (AK (AK H7 lh (.lst (hs++[.ref t]))) r (.lst (xs++[.non]))) ss F sl now' (cnt+1) num2 sdF2 gkF2 (Bv ss evs'):=⟨((fR2.ag.ah s27).aah elh7 od7 nF).aah er7 odr (A4 fRb.ag.kh hr1),fR2.wt,fR2.ax⟩;have elh8:(AK (AK H7 lh (.lst (hs++[.ref t]))) r (.lst (xs++[.non]))) lh=AA (.lst (hs++[.ref t])):=by rw[AU nlr];show AZ
    have ntr:t≠r:=λz=>by rw[z,s6 _ _ (s5 _ _ (s3 _ _ er2))]at ht';cases ht'
    have ntl:t≠lh:=λz=>by rw[z,s6 _ _ (s5 _ _ (s3 _ _ elh2))]at ht';cases ht'
    have held8:Kr lh (AK (AK H7 lh (.lst (hs++[.ref t]))) r (.lst (xs++[.non]))) (hs++[.ref t]):=λv hv=>by
      rcases CS.mp hv with hv|hv;.show heldb.aen (λb o e n1 n2=>s27 _ _ (lt02 b o e n1 n2)) (gb _ _ elh0) hr1 v hv
      . rw[BV.mp hv];show⟨t,r,l3,xs,[.non],_,rfl,by rw[AU ntr,AU ntl];show et,AZ,by rw[AU (DZ nr3),AU (DZ nl3)];show el37,rws2.ae λb zs e=>tpR _ _ (tpL _ _ (s27 _ _ e)),rok,.inr rfl,DZ nlr,DZ nl3⟩
    have g8:Aj H4 (AK (AK H7 lh (.lst (hs++[.ref t]))) r (.lst (xs++[.non]))):=λb o e=>by rw[AU (A4 (gb _ _ (g0 _ _ e)) hr1),AU (A4 e hlh4)];show s27 _ _ (g2 _ _ e)
    have eq8:HR (AK (AK H7 lh (.lst (hs++[.ref t]))) r (.lst (xs++[.non]))) q e:=tpR _ _ (tpL _ _ (s27 _ _ eq2));generalize AK (AK H7 lh (.lst (hs++[.ref t]))) r (.lst (xs++[.non]))=H8 at hR8 fR8 elh8 held8 g8 eq8⊢;obtain⟨dx8,ex8⟩:=hR8.ag.av;have q8:CN K H8 q _:=Aq eq8;show⟨X.x,dx8,_,rfl,ex8,by rfl,_,.str e.2.2.1,q8,Ao (j:=2) rfl,X,dx8,e.2.2.1,rfl,ex8,hR8.ag.cb,hR8.ag.iz,az,m0,m8,λH9 s9=>?_⟩;show⟨_,.str e.2.2.1,Aq (s9 _ _ eq8),Ao (j:=2) rfl,e.2.2.1,_,rfl,az,Int.add_pos_of_pos_of_nonneg (by decide) (Fz _ (by decide)),?_⟩;show⟨rfl,_,rfl,?_⟩;rw[show(!Ac (AD.int (J5 X.hs.length e.2.2.1)=AD.int (J5 (1+c4%8) e.2.2.1)))=AM from by rw[em,AEF rfl];rfl];show EG ?_;have hR9:JU ad H9 ss X sl now' (cnt+1) sd1 gk1 evs':=⟨hR8.ag.ah s9,hR8.wt,hR8.ax⟩;have fR9:Iv ad H9 ss F sl now' (cnt+1) num2 sdF2 gkF2 (Bv ss evs'):=⟨fR8.ag.ah s9,fR8.wt,fR8.ax⟩;have lim':=Rg pok siz (evs:=evs') (Af evs2.1 (Q8.mp (BK hi hn))) evs2.2;have done:∀{Hx:AG},Aj H9 Hx->VO ad H4 ss X F sl lh (λo9 o10 o11=>[AA (.ref a),AA (.int (mo:Int)),AA (.ref lp),AA (.int sl),AA (.int (1+c4%8)),AA (.ref hd),AA (.ref X.x),AA (.ref F.x),AA (.ref lh),o9,o10,o11,AF]) (i+1) [AA (.ref a),AA (.int (mo:Int)),AA (.ref lp),AA (.int sl),AA (.int (1+c4%8)),AA (.ref hd),AA (.ref X.x),AA (.ref F.x),AA (.ref lh),AA (.int (15+(i:Int)*2)),AA (.ref q),AA (.ref p),AF] Hx:=λ{Hx}sx=>⟨_,_,_,hs++[.ref t],evs',now',cnt+1,num2,sd1,gk1,sdF2,gkF2,rfl,g8.aa (s9.aa sx),⟨hR9.ag.ah sx,hR9.wt,hR9.ax⟩,⟨fR9.ag.ah sx,fR9.wt,fR9.ax⟩,sx _ _ (s9 _ _ elh8),held8.ae (λb o e O O=>sx _ _ (s9 _ _ e)),by rw[Bs];change hs.length+1<=i+1;show Gn.mpr lhs,evs2.1,evs2.2⟩;show⟨⟨by decide,by decide⟩,(by decide:(0:Int)<3),rfl,_,rfl,D6 (λO=>?_) λO=>EG (done (Bz _))⟩;have hq9:∀i,i<X.hs.length->Jx ss (sd1 i) (DJ ss now' (Cq ss X evs' i)) (gk1 i) λz=>Cp z/\FG X z=i:=λi hi=>(WI pok lim' evs2.2 (hR9.wt i hi) (hR9.ax i hi)).ji λz h=>⟨h.1,AEI h.2⟩;show⟨ss,X,sl,now',cnt+1,sd1,_,gk1,AEG (λz=>[AD.ref X.x,.int z]) em,hR9.ag,lss,m0,m8,hq9,λHx sx=>⟨_,rfl,EG ?_⟩⟩;have qF:Jx ss sdF2 (DJ ss now' (Bv ss evs')) gkF2 λz=>Cp z:=by have h:=WI pok lim' evs2.2 (p:=λO=>AI) (now:=now') (sd:=sdF2) (gk:=gkF2) (by rw[JW];show fR9.wt) (by rw[JW];show fR9.ax);rw[JW]at h;show h.ji λz h=>h.1
    show⟨ss,X,F,sl,now',cnt+1,sl,now',cnt+1,num2,sd1,_,gk1,sdF2,_,gkF2,rfl,hR9.ag.ah sx,fR9.ag.ah sx,sep,lss,m8,(λi hi=>(hq9 i hi).ji λz h=>h.1),qF,d8 m0 hR9.ax fR9.ax,λHy sy=>⟨_,rfl,EG (done (sx.aa sy))⟩⟩
  . intro σ1 H1 hI;lk;obtain⟨o9,o10,o11,hs,evs,now,cnt,num,sd,gk,sdF,gkF,rfl,g1,hR,fR,elh1,held,lhs,lev,oke⟩:=hI;have lim:=Rg pok siz (evs:=evs) (Af lev hn) oke;obtain⟨dxX,exX⟩:=hR.ag.av;k_in;show z4 _ _ ⟨X.x,dxX,_,rfl,exX,by rfl,.ref X.x,rfl,ss,X,sl,now,cnt,sd,_,gk,AF,FG X,rfl,hR.ag,pok,lss,m8,Mi m0,(λi hi t ht=>⟨Af (hR.wt i hi t ht) (lim.acb pok _ ht).1,λz=>⟨(lim.ud pok _ now ht z).1,(lim.ud pok _ now ht z).2,λhz=>Nx λhne=>hz (Ms (AEH hne) now t)⟩⟩),(λqs nd hq=>lim.afh pok lss now qs nd hq),λH2 r xs qs gk2 u2 hb2 lg2 hr2 er2 rw2 nd2 sd2 mm2 lq2=>?_⟩;have fb2:=fR.ag.abf hR.ag sep u2;have lt2:=hR.ag.lt u2;have elh2:=lt2.zf elh1;have g2:Aj H4 H2:=λb o e=>u2 b o (λz=>by rw[fU b z]at e;cases e) (g1 _ _ e);have held2:=held.ae lt2;have nlr:lh≠r:=A4 elh1 hr2;have lx:=(CO rw2).1;have limT:=λ(t:Nat)(ht:t∈Ap ss)=>by have:=lim.acb pok (λO=>AI) ht;rw[JW]at this;show this
    have semT:=λ(t:Nat)(ht:t∈Ap ss)(z:AE)=>by have:=lim.ud pok (λO=>AI) now ht z;rw[JW]at this;show this
    have mm2':∀m:C3,m∈qs↔m.1∈Ap ss/\m.2.2∈DJ ss now (Bv ss evs) m.1 m.2.1:=λm=>by rw[mm2 m];change _/\m.2.2∈DJ ss now (Cq ss X evs (FG X m.2.1)) m.1 m.2.1↔_;rw[OB (AEF rfl)]
    have okq:∀m∈qs,Cp m.2.1:=λm hm=>by obtain⟨h1,h2⟩:=(mm2' m).mp hm;show Sl pok oke (λO=>AI) (now:=now) h1 (z:=m.2.1) ?_;rw[JW];show Nd h2
    have rok:=XO txt okq;show⟨.inl ⟨rfl,_,Ab elh2⟩,r,xs,rfl,.inl (Ab er2),λl1 hl1=>?_⟩;have nl1:lh≠l1:=A4 elh2 hl1;show BQ hl1 λH3 s3 el1=>⟨CY rfl,λt ht=>?_⟩;show BQ ht λH5 s5 et=>?_;have s25:=s3.aa s5;have elh5:=s25 _ _ elh2;show⟨lh,_,_,rfl,rfl,elh5,by lia,?_⟩;have ntl:t≠lh:=λz=>by rw[z,elh5]at et;cases et
    have tpL:Bd H5 (AK H5 lh (.lst (hs++[.ref t]))):=(Ge H5).ik elh5 λxs=>by intro z;cases z
    have od5:JV H5 hs:=(held2.ae (λb o e O O=>s25 _ _ e)).aah;have hb6:=(hb2.ah s25).aah (o:=.lst (hs++[.ref t])) elh5 od5 nX nG;have fb6:=(fb2.ah s25).aah (o:=.lst (hs++[.ref t])) elh5 od5 nF;have rw6:=Mq rw2 λb zs e=>tpL _ _ (s25 _ _ e);have er6:(AK H5 lh (.lst (hs++[.ref t]))) r=AA (.lst xs):=by rw[AU (DZ nlr)];show s25 _ _ er2
    have held6:Kr lh (AK H5 lh (.lst (hs++[.ref t]))) (hs++[.ref t]):=λv hv=>by
      rcases CS.mp hv with hv|hv
      . obtain⟨q,r0,r0',ys,tl,kss,e,e1,e2,e3,w,ok,n,n1,n2⟩:=held2 v hv;show⟨q,r0,r0',ys,tl,kss,e,tpL _ _ (s25 _ _ e1),by rw[AU n1];show s25 _ _ e2,by rw[AU n2];show s25 _ _ e3,w.ae λb zs e=>tpL _ _ (s25 _ _ e),ok,n,n1,n2⟩
      . rw[BV.mp hv];show⟨t,r,l1,xs,[],_,rfl,by rw[AU ntl];show et,by rw[Ea];show er6,by rw[Ea,AU (DZ nl1)];show s5 _ _ el1,(Mr rw6),rok,.inl rfl,DZ nlr,DZ nl1⟩
    have g6:Aj H4 (AK H5 lh (.lst (hs++[.ref t]))):=λb o e=>by rw[AU (A4 e hlh4)];show s25 _ _ (g2 _ _ e)
    have elh6:(AK H5 lh (.lst (hs++[.ref t]))) lh=AA (.lst (hs++[.ref t])):=AZ;generalize AK H5 lh (.lst (hs++[.ref t]))=H6 at hb6 fb6 rw6 er6 held6 g6 elh6⊢;obtain⟨dxF,exF⟩:=fb6.av;show⟨F.x,dxF,_,rfl,exF,by rfl,ss,F,sl,now,cnt,num,sdF,_,gkF,rfl,fb6,pok,lss,(λt ht=>Af (fR.wt t ht) (limT t ht).1),(λt ht z=>semT t ht z),λH7 r7 xs7 qs7 gk7 u7 f7 hr7 er7 rw7 nd7 sd7 mm7 lq7=>?_⟩;have q7:qs7=qs:=XZ pok (λt ht z=>(semT t ht z).1) nd7 nd2 sd7 sd2 mm7 mm2';rw[q7]at rw7;have lt7:=fb6.lt u7;show NL (((Mr rw6).ae lt7.tp).dv (lt7.zf er6)) ((Mr rw7).dv er7) (Oi rok) ⟨_,rfl,EG ?_⟩;have hb7:=(hb6.ads fb6 sep u7).ud (gg':=λO O O=>[]) λi O t O=>rfl;obtain⟨dx7,ex7⟩:=hb7.av;show⟨X.x,dx7,_,rfl,ex7,by rfl,.ref X.x,rfl,ss,X,sl,now,cnt,sd,_,gk2,AF,FG X,rfl,hb7,pok,lss,m8,Mi m0,(λi hi t ht=>⟨Af (lg2 i hi t ht) (Af (hR.wt i hi t ht) (lim.acb pok _ ht).1),λz=>⟨.nil,BZ _,λhz=>absurd rfl hz⟩⟩),(λqs nd hq=>?_),λH8 r8 xs8 qs8 gk8 u8 hb8 lg8 hr8 er8 rw8 nd8 sd8 mm8 lq8=>⟨BZ _,λl9 hl9=>?_⟩⟩;.cases qs with|nil=>show BZ _|cons q qs=>show absurd (hq q (.head _)).2 (λh=>by cases h)
    have q8:qs8=[]:=AAv.mpr λm hm=>by cases((mm8 m).mp hm).2
    subst q8;cases rw8;show BQ hl9 λH9 s9 el9=>⟨r8,l9,[],rfl,rfl,Ab (s9 _ _ er8),Ab el9,_,rfl,EG ?_⟩;have lt9:Ks H6 H9:=λb o e n1 n2=>s9 _ _ ((hb7.lt u8) b o (lt7 b o e n1 n2) n1 n2);have elh9:=lt9.zf elh6;have held9:=held6.ae lt9;have g9:Aj H4 H9:=λb o e=>s9 _ _ (u8 b o (λz=>by rw[fU b z]at e;cases e) (u7 b o (λz=>by rw[fF b z]at e;cases e) (g6 _ _ e)));have hb9:=hb8.ah s9;have fb9:=(f7.abf hb7 sep u8).ah s9;show⟨lh,rfl,⟨_,Ab elh9⟩,pC (K:=K) (xs:=hs++[.ref t]) (λO=>AM) (λx=>x) (Ab elh9) (by rw[Bs];change hs.length+1<=Az;lia) (λx R hx rr=>?_) (λx R hx h=>by cases h) λD hD=>?_⟩
    . lk;obtain⟨q,r0,r0',ys,tl,kss,rfl,e1,e2,e3,w,ok,n,_⟩:=held9 x hx;obtain⟨DD,dd,sh⟩:=fE (K:=K) w ok n;k_in;show⟨_,_,Aq e1,Ao (j:=0) rfl,_,_,Aq e1,Ao (j:=1) rfl,NL (.lst (Ab e2) dd) (.lst (Ab e3) dd) sh ⟨_,rfl,rr⟩⟩
    rw[show((hs++[AD.ref t]).filter λO=>AM).map (λx=>x)=[]from by rw[MP.mpr λO O h=>by cases h];rfl];show BQ hD λHa sa eDa=>⟨_,.inl (Ab eDa),_,rfl,EG ?_⟩;have g4a:=g9.aa sa;have hba:=hb9.ah sa;have fba:=fb9.ah sa;show⟨10,20,rfl,rfl,⟨by decide,by decide,by decide⟩,CY rfl,λlq hlq=>?_⟩;show BQ hlq λHq sq elq=>⟨a,ns,_,rfl,(g4a.aa sq).xp hS4,by decide,hl,λc5=>?_⟩;lk;obtain⟨v,hv,mv⟩:=Hi [AD.int (-1),AD.int 1000000001,AD.bl AI,AD.non,AD.str "3",AD.int (-(10^(20:Int).toNat))] 6 rfl (by decide) c5;k_in;have hno:N2 0 1000000000 v:=by
      simp only[B6,Q5,AER]at mv;rcases mv with rfl|rfl|rfl|rfl|rfl|rfl;.show .inr ⟨_,rfl,.inl (by decide)⟩
      .show .inr ⟨_,rfl,.inr (by decide)⟩
      .show .inl (.inr (.inl ⟨_,rfl⟩))
      .show .inl (.inl rfl)
      .show .inl (.inr (.inr ⟨_,rfl⟩))
      .show .inr ⟨_,rfl,.inl (by decide)⟩
    show⟨(by decide:(0:Int)<6),_,v,Ab elq,hv,lp,v,_,rfl,hno,λHr sr=>⟨_,rfl,EG ?_⟩⟩;have hbr:=(hba.ah sq).ah sr;have fbr:=(fba.ah sq).ah sr;lk;obtain⟨dxX',exX'⟩:=hbr.av;obtain⟨dcX,ecX⟩:=hbr.cw;obtain⟨dxF',exF'⟩:=fbr.av;obtain⟨dcF,ecF⟩:=fbr.cw;k_in;show⟨_,⟨exX',T.au,T.fw,rfl⟩,_,⟨ecX,T.bu,T.df,rfl⟩,_,⟨exF',T.bc,T.gu,rfl⟩,_,⟨ecF,T.bu,T.df,rfl⟩,rfl,_,rfl,?_⟩;rw[AEF rfl];show GC ⟨_,⟨exX',T.au,T.fw,rfl⟩,_,⟨ecX,T.bu,T.gx,rfl⟩,_,⟨exF',T.bc,T.gu,rfl⟩,_,⟨ecF,T.bu,T.gx,rfl⟩,rfl,_,rfl,?_⟩;rw[AEF rfl];show GC ⟨_,⟨exX',T.au,T.kg,rfl⟩,λd hd=>?_⟩;show⟨X.dm,d,rfl,rfl,by rw[AU (A4 hbr.iz hd)];show hbr.iz,AZ,k _⟩
theorem eC{l:RL}{K:An}(J:D "law"=AA (.ref E))(T:BA K D ⟨G,H,I,L,M,N,O,P,Q,R,U,V,W,Y,Z,z,A,B,C⟩):∃F:Hw,(∀(s:AV)(v:AJ),RD s F ⟨[v],[]⟩ [("_law_script",v)])/\∀base:A8,K.In base->base.Ns Km D->HZ l.prog w K D base A3 R5 E F ["_law_script"] (P5 K):=by have e:=J.symm.trans T.ady;cases e;obtain⟨_,_,_,_,_,_,_,_,_,e,_,_⟩:=T.acd.ex;show⟨_,λs v=>by rw[e];show .of_eq rfl,λbase S S=>iH T⟩
end
noncomputable def PySem.W.Fast:=()where
 tw9978348812451204579:=()
 tw14534579726608372455:=()
 tw4580568179809904669:=()
 tw2025738290313083961:=()
 tw13336680688247788296:=()
 tw5174302171818703262:=()
 tw12284163373981546239:=()
 tw17451430239967677625:=()
 tw3137051191177533904:=()
 tw3593021186907029980:=()
 tw13131327481944100119:=()
 tw3046976472930665344:=()
 tw12500762655653128826:=()
 tw1404929687246367907:=()
 tw15378023406999720041:=()
 tw12973172666751296644:=()
 tw3457094431493244137:=()
 tw6279230073250118228:=()
 tw8343575485622584486:=()
 tw3278605471378192247:=()
 tw7566806860094894140:=()
 tw14466560640862922240:=()
 tw5292348888652550384:=()
 tw4964476148340202930:=()
 tw4434366988519891838:=()
 tw2726720567138000636:=()
 tw15731677900379820850:=()
 tw14777535300723791256:=()
 tw13085436522231327703:=()
 tw12970516009495711718:=()
 tw12362002774282461777:=()
 tw11130201080566242887:=()
 tw2037751505652928405:=()
 tw905767199533311165:=()
 tw15068199041838876068:=()
 tw8616575116681625923:=()
 tw7732689476151908193:=()
 tw16875810687806058705:=()
 tw17363804176464916771:=()
 tw10365861327528154673:=()
 tw9638885512244865285:=()
 tw15457610827485268275:=()
 tw15442471633648230167:=()
 tw12616036036147690310:=()
 tw5765362902485279585:=()
 tw15719590652574491008:=()
 tw6650659375006639739:=()
 tw10377362385194168392:=()
 tw6086540457057331312:=()
 tw7324102542171441904:=()
 tw11279448731425653562:=()
 tw3771913920363924002:=()
 tw6214596102015701652:=()
 tw3673185496182620283:=()
 tw2601756105449125378:=()
 tw13895379623698411433:=()
 tw11621090128245318723:=()
 tw2752380928984024823:=()
 tw14019776190861643905:=()
 tw7103979558372042810:=()
 tw10957461632462601293:=()
 tw1533576523318773865:=()
 tw13211504106346249300:=()
 tw12631373252747618371:=()
 tw11672854647113412610:=()
 tw11339355818687783100:=()
 tw6800196787018475774:=()
 tw13603215685915850855:=()
 tw5921162552580226887:=()
 tw594622140804716764:=()
 tw15683606580118480896:=()
 tw10611431885673509724:=()
 tw6626972490252662140:=()
 tw9942196986242447426:=()
 tw5724354227389425887:=()
 tw8291283453836484262:=()
 tw2928812064069260061:=()
 tw10741977485744877325:=()
 tw7091712442537734242:=()
 tw2369366447810941733:=()
 tw10664595971189869280:=()
 tw14810878431980549665:=()
 tw17139585493270296135:=()
 tw16666687578803721443:=()
 tw1997870951441265551:=()
 tw13798542704778862932:=()
 tw1846530341143059050:=()
 tw4727149660190717022:=()
 tw2286566510522990803:=()
 tw4022457908733607029:=()
 tw2511503299892807148:=()
 tw14366492900124967461:=()
 tw17394183186371749864:=()
 tw4109355498097971562:=()
 tw5361611912617093455:=()
 tw2592789611531631517:=()
 tw2730146959328330704:=()
 tw10140638828057448356:=()
 tw1412740419477779084:=()
 tw7982377422438970663:=()
 tw5731673114388119273:=()
 tw12080241815568509569:=()
 tw2242190219702881495:=()
 tw3722711029451284575:=()
 tw763987413895308349:=()
 tw2773377040743955770:=()
 tw8346845377351983970:=()
 tw14141955029355417424:=()
 tw14049173844045618795:=()
 tw6038532134775838670:=()
 tw17544382777383660832:=()
 tw3187787028411921716:=()
 tw12701335503080181489:=()
 tw9655121376514989220:=()
 tw9755452615280222435:=()
 tw8859621673099346595:=()
 tw171594398900821336:=()
 tw6478568129951573822:=()
 tw6755060892471371834:=()
 tw2289179605587536839:=()
 tw12538655234640828622:=()
 tw12906923227566339148:=()
 tw7244750750159674767:=()
 tw1166725953627068054:=()
 tw17434302955585913079:=()
 tw6600754544552784659:=()
 tw2087370804102372377:=()
 tw16901895958627839042:=()
 tw17343437240556709320:=()
 tw4798292372351802869:=()
 tw1937802216686886204:=()
 tw6873197079763856661:=()
 tw15951639093211291899:=()
 tw8280240436749887854:=()
 tw16618141514425430198:=()
 tw14550517067093946240:=()
 tw9422536806169747493:=()
 tw14994262197084012264:=()
 tw3462726137228628425:=()
 tw5030002604052806869:=()
 tw16217823672371614748:=()
 tw4502060402518435901:=()
 tw4606134654730632621:=()
 tw31485701752970298:=()
 tw936112008716375094:=()
 tw15154987868865005618:=()
 tw15114261772642251025:=()
 tw15058522173069699060:=()
 tw16665059804649255643:=()
 tw7411443191319402415:=()
 tw13079461360863493668:=()
 tw1100131590264472469:=()
 tw9118238060973112663:=()
 tw9842394086170880366:=()
 tw2501181671386570561:=()
 tw11006537439072476148:=()
 tw14259993006321024966:=()
 tw17835912971526163226:=()
 tw5008258842453496897:=()
 tw16975964133168106075:=()
 tw15497293273520129209:=()
 tw3141796649924271872:=()
 tw15719531587703305784:=()
 tw6089513773778668549:=()
 tw3090012432225848225:=()
 tw7227416112637296954:=()
 tw15746262159608587048:=()
 tw9566448781933389811:=()
 tw1710603175716197497:=()
 tw182131957943421889:=()
 tw12986408214249246772:=()
 tw12650643884684449227:=()
 tw15908306894567895700:=()
 tw18072349000077929801:=()
 tw11532505751455250743:=()
 tw17021418749964818815:=()
 tw13393526628800490350:=()
 tw547929900407784218:=()
 tw16245818548041198679:=()
 tw1642838838244981649:=()
 tw2304743284474131677:=()
 tw15817951747251870070:=()
 tw17502155353892447283:=()
 tw15140434492780435543:=()
 tw8261678303731590624:=()
 tw15099223242940138541:=()
 tw11448514847526361313:=()
 tw16217994107443166723:=()
 tw3157785539709327530:=()
 tw2907460145645831768:=()
 tw2441338273547850074:=()
 tw12638546105695096333:=()
 tw2127075750311267402:=()
 tw6009555000855472377:=()
 tw1751903326778661788:=()
 tw15419207312832865828:=()
 tw5663410900362795316:=()
 tw15137359339486535188:=()
 tw10614840890129810742:=()
 tw5806100749040866977:=()
 tw14917285405191302122:=()
 tw7983642698539190691:=()
 tw3604607057722441485:=()
 tw7512329714322924660:=()
 tw16116863183779979605:=()
 tw17198101356791813245:=()
 tw9277491034615205197:=()
 tw16898855514310148371:=()
 tw4416280076064384081:=()
 tw12511354762715817455:=()
 tw3289525963181520818:=()
 tw15457057733076464553:=()
 tw15437328513499381125:=()
 tw4817178280733713665:=()
 tw2326995428890760761:=()
 tw14059403435557810574:=()
 tw8432934339859069317:=()
 tw3682330304576432097:=()
 tw5250184292180950544:=()
 tw17230614956997752489:=()
 tw14139130567372348548:=()
 tw17363981875873472506:=()
 tw10671118975430477659:=()
 tw4266247922172641323:=()
 tw7382656387335691119:=()
 tw12574683832636632392:=()
 tw1543865087627398000:=()
 tw13960767653205902010:=()
 tw14220301597977425639:=()
 tw13155492609003682441:=()
 tw10114264314649883669:=()
 tw14241425636221444540:=()
 tw2923046248612858714:=()
 tw4151139785201100399:=()
 tw4448864034222421816:=()
 tw9732873737883343814:=()
 tw2568286969468328950:=()
 tw14715378680560348007:=()
 tw11790547879193718554:=()
 tw17092606011942639285:=()
 tw12754314628677964164:=()
 tw10082769088689747803:=()
 tw2821512480649034400:=()
 tw12188750224035048812:=()
 tw6165359262897337708:=()
 tw18267105000726044667:=()
 tw4896822656170133859:=()
 tw6619601931452051045:=()
 tw3528111109158240691:=()
 tw14814402396345210164:=()
 tw2404442952606074874:=()
 tw17540130122833678116:=()
 tw12583497487029607842:=()
 tw710165370932920224:=()
 tw1837859679762467218:=()
 tw5634107576492809303:=()
 tw38774565973604649:=()
 tw4719518618165307397:=()
 tw7945921645637798356:=()
 tw10626953314928340877:=()
 tw15943654762547870311:=()
 tw14970762563597590174:=()
 tw17566085006355243890:=()
 tw7894830990363693560:=()
 tw8571316656435463461:=()
 tw5678728619796282931:=()
 tw18348874541708586838:=()
 tw9786848519431347751:=()
 tw12358288623791330948:=()
 tw854893969795472811:=()
 tw17645628788781656117:=()
 tw14664251516964643568:=()
 tw12977371710318538891:=()
 tw9112691277316767377:=()
 tw3775189716668756460:=()
 tw396998832599917402:=()
 tw1853759697038008826:=()
 tw12029158586741604051:=()
 tw6594627590278997501:=()
 tw12226563188670838806:=()
 tw18250257753854051925:=()
 tw14389735371531470384:=()
 tw145595223781516829:=()
 tw5827489518026459185:=()
 tw10858488206249221776:=()
 tw16855702451334892053:=()
 tw6704607012741333058:=()
 tw14120286354892039790:=()
 tw6894576478839812354:=()
 tw15300319849510068437:=()
 tw4114636243444539268:=()
 tw16498134655286325177:=()
 tw3894735105616529646:=()
 tw4170656486410619195:=()
 tw16508241922584556469:=()
 tw8083631708979815892:=()
 tw16362954161692704019:=()
 tw13773762802386874793:=()
 tw2695385987766159762:=()
 tw7080810426165728502:=()
 tw842067111537633969:=()
 tw3716888462251917684:=()
 tw10228876832346944982:=()
 tw11470280937123163968:=()
 tw11839389934861979766:=()
 tw7327965759594342252:=()
 tw15769063527045425972:=()
 tw12055628732480687997:=()
 tw5993875178172881157:=()
 tw16421868866864778933:=()
 tw13650981661993646199:=()
 tw8063392482529993509:=()
 tw8060946315383132902:=()
 tw2622851474295105782:=()
 tw1966657866070961335:=()
 tw889154248177311795:=()
 tw272858813574585490:=()
 tw1424392630615726461:=()
 tw1765586195213761169:=()
 tw16283940393470856672:=()
 tw18175006406502527347:=()
 tw2119901200582090688:=()
 tw1336255021217921721:=()
 tw5864906049181975:=()
 tw1590410401323231012:=()
 tw15404060922219612307:=()
 tw13389632850171380875:=()
 tw8877421915151275316:=()
 tw11973071286456698771:=()
 tw13654679384607680273:=()
 tw9882312221511752365:=()
 tw2140396967635985410:=()
 tw16449866603193869557:=()
 tw15980284208887948436:=()
 tw12675013885223714031:=()
 tw4623933510868311310:=()
 tw12313031025419689102:=()
 tw16954372711622021244:=()
 tw2685141816432330440:=()
 tw5244995207689843003:=()
 tw2081623428520818291:=()
 tw5811967072394933461:=()
 tw733280873193414527:=()
 tw14119116780294478948:=()
 tw16813401084512464785:=()
 tw6644989967829030466:=()
 tw7087127075224702779:=()
 tw14981259469856316162:=()
 tw17430497672093938003:=()
 tw10516292118015426030:=()
 tw13480167609315725476:=()
 tw11585963987547577708:=()
 tw13687870053946330444:=()
 tw13162227296295232556:=()
 tw3193785144813282421:=()
 tw8808878723419537621:=()
 tw16383032204134149864:=()
 tw12665726915119916283:=()
 tw456376883827870276:=()
 tw17831199322788569847:=()
 tw2506295658702729253:=()
 tw2649169402255387445:=()
 tw359706618218012618:=()
 tw11027406079844648603:=()
 tw3600476355236834234:=()
 tw6909525746062940538:=()
 tw5203292715911839279:=()
 tw18046226008449259670:=()
 tw11506636406505613967:=()
 tw13965551264281984648:=()
 tw14673048532056615031:=()
 tw7229249490068286985:=()
 tw14980867491691704635:=()
 tw12224201214165334310:=()
 tw6335954320665112094:=()
 tw16907437493910806698:=()
 tw13449862892862938357:=()
 tw12688841945301927176:=()
 tw11364790624774820813:=()
 tw15169693053455932661:=()
 tw1131602797250003649:=()
 tw12439765863395003106:=()
 tw18354263684936518216:=()
 tw8741103793692082467:=()
 tw3137008019373126973:=()
 tw4821807612927917534:=()
 tw15154579228740899890:=()
 tw4089328104116612296:=()
 tw12544583847547065185:=()
 tw2070784545406348432:=()
 tw1281711518581617771:=()
 tw405030868488039747:=()
 tw10064087658028219679:=()
 tw9457228222214449658:=()
 tw3128278830078655988:=()
 tw2125797308827105330:=()
 tw15557430327968174606:=()
 tw17110083847242513323:=()
 tw15729534820452682642:=()
 tw12095493847681809425:=()
 tw6704919409084003760:=()
 tw16113756501675156680:=()
 tw12399353588094169742:=()
 tw13128766654331843226:=()
 tw17618809689223509503:=()
 tw9332498321815190730:=()
 tw14459194126558155011:=()
 tw17890952837423375022:=()
 tw16065358235655039663:=()
 tw10465787692771042408:=()
 tw3238131996747904235:=()
 tw16181378651031271447:=()
 tw7760370379649087204:=()
 tw8236560544144865313:=()
 tw452656631533798770:=()
 tw6851082098201788759:=()
 tw2903997337951819973:=()
 tw11378360975907862120:=()
 tw15930047289692546464:=()
 tw15644795955882803317:=()
 tw11754829727994339487:=()
 tw15549119537294831288:=()
 tw12349443512102358372:=()
 tw16196982065929312288:=()
 tw1782900712167151678:=()
 tw299697962299399317:=()
 tw12459626629935484577:=()
 tw3871091929225884036:=()
 tw4542995712305194668:=()
 tw13626917658778688484:=()
 tw16991916741992066367:=()
 tw4045001827952462601:=()
 tw5933357294235616752:=()
 tw15463216700646964601:=()
 tw9745604052511601835:=()
 tw15046254797448304022:=()
 tw12514250228175246437:=()
 tw12929721381421608675:=()
 tw7894333226918987421:=()
 tw9591920051436037642:=()
 tw4330996090904310668:=()
 tw1798545509376676683:=()
 tw12248371916883898112:=()
 tw17509703730056775172:=()
 tw2523602215159201050:=()
 tw4732216610979431160:=()
 tw17047008387335208573:=()
 tw6185872683562280116:=()
 tw16885638190251230629:=()
 tw15826409137681684804:=()
 tw6751160245387568861:=()
 tw9603206657445198912:=()
 tw6495941980258045225:=()
 tw12447792370762443871:=()
 tw16050285439999810359:=()
 tw13297162285136553073:=()
 tw2141152607492527394:=()
 tw1799375298193981895:=()
 tw13774138086147084815:=()
 tw16788823772862103116:=()
 tw11815234190421128882:=()
 tw9610878448186448813:=()
 tw17138142466910189625:=()
 tw2599842266861786756:=()
 tw7816018623515626382:=()
 tw13167233788998955718:=()
 tw16234767344764763970:=()
 tw12844487687072117916:=()
 tw13210467382359191294:=()
 tw13949084153710842805:=()
 tw10694410279661073070:=()
 tw11009319477642583019:=()
 tw13000722399874981527:=()
 tw6364976914491914703:=()
 tw8619481766802503821:=()
 tw12294408635399052058:=()
 tw9865834498332176269:=()
 tw12982045095039920912:=()
 tw848120531985386433:=()
 tw9097394043669427834:=()
 tw413618263897636435:=()
 tw6152730192486541596:=()
 tw17207633695963902177:=()
 tw15603087304490515669:=()
 tw15358577332014917213:=()
 tw1621154818969250754:=()
 tw6989704941694891285:=()
 tw9697557199799623483:=()
 tw13374779991108024859:=()
 tw5396962486597964192:=()
 tw7805488433093613478:=()
 tw14075048023124114940:=()
 tw5432167741347089246:=()
 tw6763750938583947999:=()
 tw5000293440943536283:=()
 tw1962473870405749883:=()
open PySem PySem.W PyProof.Rows
set_option maxRecDepth 100000 in
set_option maxHeartbeats 0 in
theorem PySem.Challenge.cw_brooktally_k34_whole_many_hands_holds : PySem.Challenge.rw_brooktally_k34_whole_many_hands.Holds := by
  w_on; o_law; k_head; (case hw => w_witness2)
  k_fill
  refine wK (l := ABl) (n := 63) (k := R5) (x := "_law_script") (CX := A3) (sp := P5) rfl (by decide) rfl ⟨rfl, by decide, by decide⟩ (fun w h Y => W.kIn_of Y) ?F fN (fun O O O O z => z)
  case F =>
    intro w mg fa h KX G hmg
    refine' eC hmg ?T
    case' T => constructor
    all_goals try dsimp only
    all_goals first
      | (refine' y3 KX G ?_; k_is)
      | (refine' W.mg_none_of KX G ?_; k_is)
      | (refine' f6 KX G ?_; any_goals k_is)
      | (refine' ⟨?_, ?_, ?_, ?_⟩ <;> k_is)
      | (first
          | refine' R4 ⟨y3 KX G ?_, ?_⟩ ?_ ?_ ?_ Qs ?_
          | refine' R4 ⟨?_, ?_, ?_⟩ ?_ ?_ ?_ Qs ?_
          | refine' R4 ⟨?_, ?_, ?_, ?_⟩ ?_ ?_ ?_ Qs ?_); (any_goals k_is); intro _ _ _ _ _ _ us hl; first | (obtain ⟨_, rfl⟩ := nN hl; rfl) | (obtain ⟨_, _, rfl⟩ := nO hl; rfl) | (obtain ⟨_, _, _, rfl⟩ := nP hl; rfl) | (obtain ⟨_, _, _, _, rfl⟩ := nQ hl; rfl) | (obtain ⟨_, _, _, _, _, rfl⟩ := nR hl; rfl)
      | k_is
      | (refine' Tc ?_ ?_ ?_; any_goals k_is)
      | k_exc
      | kit_is
      | kts_exm
      | (refine' eW ?_ ?_ ?_ ?_ ?_ ?_; any_goals k_is)
      | (refine' gL ?_; any_goals k_is)
      | (refine' nD ?_ ?_ ?_; (any_goals k_is); (first | decide | exact (by decide : 2 ≤ sizeLine) | exact (by decide : 4 ≤ sizeLine)); repeat (first | exact .nil | refine .cons ?_ ?_ | exact ⟨_, rfl⟩ | rfl))
      | (unfold EE; k_is)
      | skip
