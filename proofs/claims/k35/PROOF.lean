import PyProof.Rows.All
import Wide.All
import OpenK.AllK
import Wide.FinOn
import Lean
import PyProof.EqAt
import PyProof.EqKinds
import PyProof.TupleCall
import PySem.Challenge.RW_brooktally_k35_whole_keys_moved
set_option Elab.async false
set_option linter.all false
set_option maxRecDepth 100000
set_option tactic.hygienic false
set_option maxHeartbeats 4000000
open PySem PySem.Spec PyProof.Rows
open _root_.Array renaming length_toList->MI,getElem?_toList->NI,perm_iff_toList_perm->Sg,toList_append->Vu,size_map->eL,toArray_toList->eM,toList_extract->eO,append_empty->AAw,toList_map->AAx,toList_push->AAy,toList_setIfInBounds->AAz
open _root_.Array.Perm renaming refl->Vt
open _root_.Bool renaming true->AK,false->AR,false_ne_true->Dx,noConfusion->Ik,false_eq_true->LS,and_eq_true->QZ,and_eq_true_iff->Sh,eq_iff_iff->Vv,and_comm->eV,and_false->AA0,not_false->AA1,not_true->AA2,or_eq_true->AA3
open _root_.Classical renaming byContradiction->NJ,epsilon->ADv,epsilon_spec->ADw,not_not->ADx
open _root_.Decidable renaming decide->Ae,byContradiction->ADy
open _root_.Eq renaming trans->Oe
open _root_.False renaming elim->HU
open _root_.ForIn renaming forIn->IC
open _root_.ForInStep renaming yield->Si
open _root_.Inhabited renaming default->fG
open _root_.Int renaming emod_nonneg->Fu,le_trans->GB,emod_lt_of_pos->Gr,lt_of_le_of_lt->G7,lt_of_lt_of_le->Il,ne_of_gt->JW,not_le_of_gt->Jt,le_of_lt->Kb,natCast_inj->LU,le_of_not_gt->MJ,le_add_of_nonneg_right->Qa,lt_trans->Qb,lt_asymm->Sj,lt_of_not_ge->Sk,toNat_le->Sl,le_max_right->Vy,lt_add_of_le_of_pos->Vz,lt_add_of_neg_add_lt->V0,mul_pos->V1,zero_add->V2,le_refl->fH,lt_irrefl->fI,min_le_right->fJ,mul_nonneg->fK,ofNat_le->fL,pos_iff_toNat_pos->fM,sub_right_le_iff_le_add->fN,add_lt_of_lt_sub_left->AA4,add_zero->AA5,ediv_nonneg->AA6,eq_natCast_toNat->AA7,eq_ofNat_of_zero_le->AA8,le_add_one->AA9,le_antisymm->ABA,le_max_left->ABB,le_min->ABC,le_of_lt_add_one->ABD,le_total->ABE,lt_iff_le_and_ne->ABF,lt_toNat->ABG,min_eq_left->ABH,natCast_le_zero->ABI,not_lt->ABJ,not_ofNat_neg->ABK,ofNat_lt->ABM,sub_le_of_sub_le->ABN,sub_le_self->ABO,sub_le_sub_right->ABP,toNat_of_nonneg->ABQ
open _root_.Int.ofNat renaming inj->ABL
open _root_.LawfulMonad renaming pure_bind->yH
open _root_.List renaming length_map->Aq,mem_map->Ay,getElem?_eq_some_iff->BU,mem_singleton->Bm,getElem?_map->Bt,length_append->Bx,map_append->CW,mem_cons->CZ,mem_append->Ce,getElem?_eq_getElem->Ck,mem_of_getElem?->Cm,cons->DS,nil->DT,map_map->Dh,mem_cons_self->Dr,append_nil->Dw,mem_filter->D1,take_add_one->D2,take_of_length_le->EH,flatMap_cons->Ep,length_take->Er,filter_append->FD,mem_append_right->FE,replicate->FF,append_assoc->FN,map_cons->FO,length_filter_le->FY,range->FZ,mem_cons_of_mem->Fp,mem_iff_getElem->Gk,mem_of_mem_tail->Gm,pairwise_iff_getElem->Gn,filter_cons->G1,filter_filter->HP,mem_append_left->Hn,pairwise_cons->Ho,pairwise_map->Hq,size_toArray->IZ,filter_congr->JO,nodup_cons->JP,filter_eq_nil_iff->Jm,getElem?_zip_eq_some->L6,map_congr_left->L7,filter_eq_self->Mw,filter_sublist->Mx,length->My,length_cons->Mz,length_drop->M3,pairwise_append->M4,filter_cons_of_neg->OE,filter_map->OF,getElem?_append_left->OG,getElem_take->OH,length_range->OI,ne_nil_of_mem->OJ,zip->OL,filter_cons_of_pos->Pp,getElem?_append_right->Pq,lookup->Pt,not_mem_nil->Pu,perm_append_comm->Pw,take_append_drop->Px,take_length->Py,any_eq_true->R3,cons_append->R4,filter->R5,find?_cons->R6,flatMap_append->R7,getElem?_eq_none_iff->R8,map_id->R9,mem_flatMap->SA,any_cons->VM,extract_eq_take_drop->VN,length_nil->VO,mem_iff_getElem?->VP,mem_range->VQ,nodup_append->VR,Pairwise->bF,Perm->bG,drop_eq_getElem_cons->bK,eq_nil_of_length_eq_zero->bL,getElem?_take_of_lt->bM,getElem_map->bN,map_flatMap->bO,map_take->bP,mem_of_mem_drop->bQ,mem_of_mem_take->bR,of_mem_zip->bS,pairwise_singleton->bT,perm_nil->bU,range_succ->bV,take->bW,drop_drop->yI,ext_getElem?->yJ,filterMap_cons->yK,flatMap_singleton->yL,foldl_cons->yM,getElem?_eq_none->yN,getElem_inj->yO,getElem_mem->yP,length_pos_of_mem->yQ,map_snd_zip->yR,mem_reverse->yS,pairwise_reverse->yT,replicate_succ->yU,take_sublist->yV,Nodup->ABR,all_cons->ABU,count->ABV,count_filter->ABW,drop_of_length_le->ABX,drop_sublist->ABY,eq_nil_iff_forall_not_mem->ABZ,find?_some->ABa,flatMap_nil->ABb,flatten_cons->ABc,foldl->ABd,foldl_append->ABe,getElem?_replicate->ABf,getElem?_set_ne->ABg,getElem?_set_self->ABh,length_replicate->ABi,length_singleton->ABj,length_zip->ABk,lookup_cons->ABl,map->ABm,map_id'->ABn,mem_filterMap->ABo,nil_append->ABp,nodup_range->ABq,perm_iff_count->ABr,perm_middle->ABs,reverse_cons->ABt,take_add->ABu,take_zero->ABv,zip_cons_cons->ABw
open _root_.List.Nodup renaming sublist->ADz
open _root_.List.Pairwise renaming imp_of_mem->AD0,nil->AD1
open _root_.List.Perm renaming of_eq->LF,trans->Rz,append_left->bH,cons->bI,swap->bJ,append_right->ABS,append->AD2,refl->AD3
open _root_.List.Sublist renaming map->ABT,eq_of_length_le->AD4
open _root_.List.cons renaming inj->Dz
open _root_.Max renaming max->KR
open _root_.Min renaming min->D3
open _root_.Nat renaming le_trans->Ag,le_refl->Aj,lt_of_lt_of_le->BY,zero_le->Bc,le_of_eq->Bi,le_of_lt->B8,lt_of_le_of_ne->DU,le_of_lt_succ->Dc,le_of_add_right_le->D9,ne_of_lt->ET,le_antisymm->Ec,add_le_add_left->FP,le_of_not_lt->FQ,lt_of_le_of_lt->FR,add_one_le_add_one_iff->HQ,add_sub_cancel'->Hr,lt_irrefl->Ht,lt_of_succ_lt->Hu,sub_succ_lt_self->Hv,not_lt_zero->Ia,le_succ_of_le->Jn,min_le_left->Jo,lt_succ_self->KS,one_le_iff_ne_zero->KU,add_lt_of_lt_sub'->LG,lt_trans->LH,le_sub_iff_add_le'->L8,lt_add_one_iff->L9,lt_of_not_le->MA,sub_one_lt_of_le->MB,ne_of_gt->M5,add_lt_add_left->OM,lt_add_one_of_lt->ON,le_add_right->Pz,le_succ->P0,min_le_right->P1,sub_lt_right_of_lt_add->P2,le_of_add_left_le->SD,le_one_iff_eq_zero_or_eq_one->SE,lt_iff_add_one_le->SG,sub_lt_iff_lt_add'->SH,sub_lt_of_lt->SI,add_comm->VS,add_zero->VT,eq_of_le_of_lt_succ->VU,le_add_right_of_le->VW,le_sub_iff_add_le->VX,lt_of_add_right_lt->VY,lt_sub_iff_add_lt'->VZ,not_lt->Va,sub_lt->Vb,succ_le_succ->Vc,le_of_ble_eq_true->bX,le_of_succ_le_succ->bY,le_sub_of_add_le->bZ,lt_or_ge->b0,lt_succ_of_lt->b3,lt_trichotomy->b7,min_eq_left->b8,mul_le_mul->b9,sub_le_sub_iff_right->cA,sub_self->cB,sub_sub_self->cC,succ_pos->cD,le_add_left_of_le->yW,le_pred_iff_lt->yX,lt_add_left->yY,lt_one_iff->yZ,not_lt_of_ge->y3,not_succ_le_zero->y4,sub_eq_iff_eq_add->y6,sub_le->y7,sub_ne_zero_iff_lt->y8,sub_one_lt_of_lt->y9,sub_sub_sub_cancel_right->zA,add_eq_right->ABx,add_one_inj->ABy,add_right_cancel_iff->ABz,eq_zero_of_le_zero->AB0,le_mul_of_pos_left->AB1,le_of_add_le_add_left->AB2,le_sub_one_of_lt->AB3,max_eq_right->AB4,max_le_of_le_of_le->AB5,succ_lt_succ->AB6,zero_add->AB7
open _root_.Ne renaming symm->DJ
open _root_.Not renaming imp->LI
open _root_.Option renaming some->AA,none->AG,map_eq_some_iff->EA,map_some->cE,isSome_iff_exists->zB,getD_none->AB8,isSome_map->AB9
open _root_.Option.some renaming inj->By
open _root_.Or renaming inl->Fq,inr->zC,intro_right->zD
open _root_.Prod renaming ext->SJ,fst->ACA
open _root_.Pure renaming pure->Bn
open _root_.PyProof renaming noPylong_small->zN
open _root_.PyProof.Rows renaming arrOf->Ak,Keyed->BB,wpS_bind->BG,wpS_pure->BX,pendingOf->CB,seqObj->Cf,SortSt->Cn,wpS->Es,wpS_forRange->Hw,wpS_mono->Ib,pairsOf->Jp,wpS_modify->Jq,boot_list->KY,envOfC->MC,ltAt'->MD,wpS_get->ME,AllBare->M6,failedOf->M9,reverseSlice'->NA,SortKind->P4,boot_sorted->P5,callWith_type1->P6,listUpdate_at->P7,setArr->P8,wpS_lift->P9,IntsAre->SK,Call_->Vd,IsTup->Ve,KeyOrd->Vf,elem'->Vg,get?_update_seq->Vh,pairsOf_toList->Vi,seqEpoch_at->Vj,boot_max->cG,boot_range->cH,keyKind'->cJ,kindOf->cK,mirror->cL,setPending->cM,slot_tuple_getitem->cN,Subscript_->zE,boot_int->zF,boot_min->zG,elem'_eq->zH,ksk_tail->zI,listItems_at->zJ,lt_int->zK,mem_zip_self->zL,sortedHeap->zM,boot_isinstance->ACD,entry_list_sort->ACF,eqGives_str->ACH,getElem?_bubble->ACI,getElem?_mirror_all->ACJ,keyLt'_oneType->ACK,lt_str->ACL,reverseSlice'_eq->ACP,slicePart_none->ACQ,slot_list_sort->ACR,subscriptTail_builtinR->ACS,boot_bool->AD5,boot_sum->AD6,callWith_builtin1->AD7
open _root_.PyProof.Rows.IsTup renaming new->ACB
open _root_.PyProof.Rows.KeyOrd renaming kle_trans->HR,kle_of_klt->KW,kle_refl->M8,klt_of_kle_of_klt->ACC
open _root_.PyProof.Rows.SortSt renaming mk'->cF
open _root_.PyProof.V.Flat renaming int->ACT
open _root_.PySem renaming Addr->AB,Str->AF,Value->AL,Shared->AZ,model->Ao,sizeLine->Az,wpAny->A1,wpAny_bind->BI,Paired->BJ,Expr->BN,Obj->BR,Heap->BZ,eval->Ba,World->CC,Program->Co,starEach->Cp,wpAny_pure->Cq,Pos->Cv,Stmt->C2,Around->DV,sizeLine_eq->Dj,Sem->D4,Env->Ed,compareOp->Ej,Scope->Fs,boot_len->F8,backTo->GU,cLine->GV,valueAt->Gp,binaryOp->G5,wpAny_mono->IA,call->Ig,FuncData->JU,Tok->JV,PyData->Jr,attributeBase->Js,sysModules->KZ,mainGlobals->LQ,Keyword->MG,NameKind->MH,IsPart->NC,call_meets->NF,wpAny_rule->NG,CmpOp->OP,Model->OR,atKey->OU,codeAny->OV,foldedSetIterable->OW,getItem->OX,lookup_relabel_local->OY,swapsWith->OZ,wpAny_truthy_bool->Oa,assignEach->QD,backToKw->QE,behindInMarks->QF,bindC->QG,bindL->QH,bootBuiltins->QI,callerA->QJ,keywordEach->QK,mem_of_lookup->QL,sliceBounds->QM,stored->QN,wpAny_Call_Name_kw->QO,wpAny_passesOwn->QP,BindsTo->SM,codeAny_mono->SV,wpAny_Call_method->SW,wpAny_holding->SX,call_meetsIn->Vn,isTrue->Vo,tupleKind->Vp,typeIs_str->Vq,DictEntry->cR,Fin->cV,IsRangeIter->cW,Params->cY,PlainAttrs->cZ,getMethod->dJ,numAt_eq->dM,pyIter->dN,subscripted->dO,tupleKind_room_in1->dP,typeOf->dQ,wpAny_execs_nil->dR,wpAny_newList->dU,ItemsOf->zW,Within->AAM,bindArgs->AAN,builtinsNs->AAO,cellsFrom->AAP,closureFor->AAQ,evalArgs_none->AAS,letOwnedTupleGo->AAV,nums_intItems->AAW,typeIs_int->AAZ,wpAny_Name->AAb,wpAny_call->AAc,wpAny_field->AAd,wpAny_newObj_type->AAe,wpAny_standAt->AAf,arm_execs_cons->ADT,call_list_seq->ADU,codeAny_builtin->ADW,dictSetDefault->ADY,findBy_of_findIdx?->ADZ,intBits_le_64->ADa,list_append->ADb,method_meetsIn->ADc,noFill_tuple_add->ADd,recursionLimit->ADe,richCompare_meets_room->ADf,seq_tuple_add->ADh,slot_list_getitem->ADi,wpAny_assign_Name->ADj,wpAny_attempt->ADk,wpAny_call_entry->ADl,wpAny_execs_cons->ADm,wpAny_forIn_list->ADn,wpAny_isTrue_Compare1->ADo,wpAny_newTuple->ADp,wpAny_pyIter_enum->ADq,wpAny_pyIter_range->ADr,wpAny_pyIter_rangeiter->ADs,wpAny_pyNext_range_end->ADt
open _root_.PySem.AutoListH renaming list___mul___list_int_3->AD8
open _root_.PySem.Builtin.List renaming listTooLong->zO,listFitsIndex->AD9
open _root_.PySem.Builtin.Range renaming rangeSize->cO,small->cP,rangeFitsLong->ACU
open _root_.PySem.Builtin.Slice renaming sliceAdjust->zP,slicePlaces->zQ,sliceApplied->AEA,slicePartIndex->AEB
open _root_.PySem.Builtin.Str renaming occurrences->cQ
open _root_.PySem.Builtin.Tuple renaming tupleCompareSizes->AEC,tupleItemsOf->AED
open _root_.PySem.Calls renaming spliced_cons->LJ,spliced_nil->OO,callWith_builtin->SN,evalArgs_plain->Vk,Name_function_global->ACV
open _root_.PySem.Challenge renaming rw_brooktally_k35_whole_keys_moved->ACW,pw_brooktally_k35_whole_keys_moved->AEE
open _root_.PySem.CmpOp renaming In->ACX,NotIn->ACY
open _root_.PySem.DictEntry renaming refKey->AEF
open _root_.PySem.EqMixed renaming eq_bool_str->AEG,eq_int_str->AEH,eq_str_bool->AEI,eq_str_int->AEJ,ne_bool_str->AEK,ne_int_str->AEL,ne_str_bool->AEM,ne_str_int->AEN
open _root_.PySem.EqNone renaming eq_bool_none->AEO,eq_int_none->AEP,eq_none_bool->AEQ,eq_none_int->AER,eq_none_none->AES,eq_none_str->AET,eq_str_none->AEU,ne_bool_none->AEV,ne_int_none->AEW,ne_none_bool->AEX,ne_none_int->AEY,ne_none_none->AEZ,ne_none_str->AEa,ne_str_none->AEb
open _root_.PySem.F renaming plainAttrs_list->MF,slot_list_extend->NB,type_list_extend->OQ,plainAttrs_dict->SO,slot_dict_pop->cU,slot_dict_get->zR,slot_list_append->zS,args_dict_get_3->ACZ,args_dict_pop_3->ACa,args_list_append_2->ACb,args_tuple_add_2->ACc,entry_dict_get->ACd,entry_dict_pop->ACe,entry_list_append->ACf,entry_tuple_add->ACg,entry_tuple_lt->ACh,plainAttrs_str->ACi,slot_dict_items->ACj,slot_dict_setdefault->ACk,slot_dict_values->ACl,slot_int_rmul->ACm,slot_list_reverse->ACn,slot_str_find->ACo,slot_str_index->ACp,slot_tuple_add->ACq,slot_tuple_index->ACr,slot_tuple_lt->ACs,type_dict_pop->ACt
open _root_.PySem.Flow renaming brk->JQ,cont->JR,next->JS,ret->JT
open _root_.PySem.Heap renaming lt_size->Ct,get?_push_of_some->C1,get?_push_size->F7,SameBut->QA,get?_update_ne->zT,size_push->zU,get?_none_of_le->ACu,get?_update_other->ACv
open _root_.PySem.Heap.DictOf renaming new->AEc
open _root_.PySem.Heap.IsSliceOf renaming new->AEd
open _root_.PySem.Heap.SameBut renaming update->Vl
open _root_.PySem.IsL renaming update->ACw
open _root_.PySem.IsRange renaming new->zV
open _root_.PySem.MeetsSeq.EqGives renaming int->AEe
open _root_.PySem.NameKind renaming free->ND,cell->cX
open _root_.PySem.Obj renaming mapSeq->Ei,data_mapDictKeys->ACx
open _root_.PySem.Paired renaming cons->B9,nil->EU,length->Ic,snoc->ACy
open _root_.PySem.PassesOwn renaming never->DK
open _root_.PySem.PyData renaming depthAll->G4,canLayAll0->Ie,canLay0->LK,depth->LM,int->OS,strOk->SQ,eqv->zZ,eqvAll->ACz
open _root_.PySem.SeqAt renaming shaped->LN,EqAt->c8,eqv_refl->AC3
open _root_.PySem.SeqAt.EqAt renaming int_str->AC0,same->AC1,str_int->AC2,bool_bool->AEf,bool_int->AEg,bool_none->AEh,bool_str->AEi,int_bool->AEj,int_int->AEk,int_none->AEl,none_bool->AEm,none_int->AEn,none_str->AEo,str_bool->AEp,str_none->AEq,str_str->AEr
open _root_.PySem.SeqAt.RcNeAt renaming lists->AEs,lists_lengths->AEt
open _root_.PySem.Str renaming length_append->c9,length->AC4
open _root_.PySem.StrLaws renaming sliceText->AC5
open _root_.PySem.Txt renaming slice->LO
open _root_.PySem.Value renaming ref->Ds,int->QB,str->QC,bool->Vm,float->z8,none->z9,type->AAA,bytes->AC6,isInt->AC7,isStrOf->AC8
open _root_.PySem.W renaming Frag->As,findIn->Hz,kia_one->LP,fnOf->OT,OpenLaw->SR,instObj->SS,keepIn->SU,KatLex->dA,codeIn->dB,emptyDict->dC,kat_cons->dE,kat_kind->dF,lookIn->dG,plainGet->dH,subIn->dI,WalkO->AAB,callWith_K->AAC,hasDictIn->AAD,isFn->AAE,kat_go->AAF,kat_no->AAG,kat_one->AAH,kat_yes->AAI,mg_of->AAJ,plainGet_of->AAK,takerIn->AAL,KatTups->AC9,callWith_K0->ADC,cellsFrom_some->ADD,clsIn->ADE,handedIn->ADF,kas_kind->ADG,kat_lt->ADH,kat_nil->ADI,kdl_dict->ADJ,kitOne->ADK,kitx_dict->ADL,kitx_list->ADM,makesIn->ADN,methodCall_KW->ADO,plainOver->ADP
open _root_.PySem.W.KatTups renaming cons->ADA
open _root_.PySem.W.KeqHits renaming hit->AEu
open _root_.PySem.W.Looks renaming here->AEv
open _root_.PySem.W.WData renaming int->ADB
open _root_.PySem.Walks renaming range->ADQ,strAscii->ADR,strWide->ADS
open _root_.PySem.Within renaming cons->AEw
open _root_.StateT renaming run_pure->ADu
open _root_.Std.Legacy.Range renaming forIn_eq_forIn_range'->AEx,size->AEy
open _root_.Sum renaming inr->Bj,inl->C3
open _root_.Sum.inl renaming inj->Ij
open _root_.Sum.inr renaming inj->Fc
open _root_.True renaming intro->HS
def AEz:=@if_neg
def AE0:=@if_pos
def AE1:=@decide_eq_true
def AE2:=@congrArg
def AE3:=@decide_eq_false
def AE4:=@of_decide_eq_true
def AE5:=@if_false
def AE6:=@decide_eq_true_eq
def AE7:=@if_true
def AE8:=@of_decide_eq_false
def AE9:=@lt_of_lt_of_eq
def AFA:=@beq_iff_eq
def AFB:=@or_false
def AFC:=@beq_eq_false_iff_ne
def AFD:=@beq_self_eq_true
def AFE:=@le_of_eq_of_le
def AFF:=@bne_self_eq_false
def AFG:=@decide_eq_decide
def AFH:=@getElem?_pos
def AFI:=@le_of_le_of_eq
structure Yh(p:Prop):Prop where go:p->False
theorem rC(h:Yh p->False):p:=NJ λg=>h ⟨g⟩
section
set_option hygiene false in
local macro_rules | `(tactic| lk) => `(tactic| refine rC fun nG0 => ?_)
set_option hygiene false in
local macro_rules | `(tactic| k_in) => `(tactic| (rename Yh _ => nG0; refine nG0.go ?_; try clear nG0))
local macro_rules | `(tactic| obtain $p : _ := $e) => `(tactic| (lk; obtain $p := $e; k_in))
local macro_rules | `(tactic| show $t) => `(tactic| refine $t)
inductive GO{a:Type}(A B:a->Prop):Prop|mk(a:a)(_:A a)(_:B a)
inductive JF{a:Type}(A B C:a->Prop):Prop|mk(a:a)(_:A a)(_:B a)(_:C a)
inductive Ym{a:Type}(A B C D:a->Prop):Prop|mk(a:a)(_:A a)(_:B a)(_:C a)(_:D a)
inductive Lk{a b:Type}(A B:a->b->Prop):Prop|mk(a:a)(b:b)(_:A a b)(_:B a b)
inductive E2{a b:Type}(A B C:a->b->Prop):Prop|mk(a:a)(b:b)(_:A a b)(_:B a b)(_:C a b)
inductive JG{a b:Type}(A B C D:a->b->Prop):Prop|mk(a:a)(b:b)(_:A a b)(_:B a b)(_:C a b)(_:D a b)
inductive RO{a b:Type}(A B C D E:a->b->Prop):Prop|mk(a:a)(b:b)(_:A a b)(_:B a b)(_:C a b)(_:D a b)(_:E a b)
inductive RP{a b:Type}(A B C D E F:a->b->Prop):Prop|mk(a:a)(b:b)(_:A a b)(_:B a b)(_:C a b)(_:D a b)(_:E a b)(_:F a b)
inductive RQ{a b c:Type}(A B C:a->b->c->Prop):Prop|mk(a:a)(b:b)(c:c)(_:A a b c)(_:B a b c)(_:C a b c)
inductive PL{a b c:Type}(A B C D:a->b->c->Prop):Prop|mk(a:a)(b:b)(c:c)(_:A a b c)(_:B a b c)(_:C a b c)(_:D a b c)
inductive Nn{a b c:Type}(A B C D E:a->b->c->Prop):Prop|mk(a:a)(b:b)(c:c)(_:A a b c)(_:B a b c)(_:C a b c)(_:D a b c)(_:E a b c)
inductive Yn{a b c:Type}(A B C D E F:a->b->c->Prop):Prop|mk(a:a)(b:b)(c:c)(_:A a b c)(_:B a b c)(_:C a b c)(_:D a b c)(_:E a b c)(_:F a b c)
inductive Yo{a b c:Type}(A B C D E F G:a->b->c->Prop):Prop|mk(a:a)(b:b)(c:c)(_:A a b c)(_:B a b c)(_:C a b c)(_:D a b c)(_:E a b c)(_:F a b c)(_:G a b c)
inductive UR{a b c d:Type}(A B C D E:a->b->c->d->Prop):Prop|mk(a:a)(b:b)(c:c)(d:d)(_:A a b c d)(_:B a b c d)(_:C a b c d)(_:D a b c d)(_:E a b c d)
inductive RR{a b c d:Type}(A B C D E F:a->b->c->d->Prop):Prop|mk(a:a)(b:b)(c:c)(d:d)(_:A a b c d)(_:B a b c d)(_:C a b c d)(_:D a b c d)(_:E a b c d)(_:F a b c d)
inductive Yp{a b c d:Type}(A B C D E F G H:a->b->c->d->Prop):Prop|mk(a:a)(b:b)(c:c)(d:d)(_:A a b c d)(_:B a b c d)(_:C a b c d)(_:D a b c d)(_:E a b c d)(_:F a b c d)(_:G a b c d)(_:H a b c d)
inductive Yq{a b c d e:Type}(A B C D E F:a->b->c->d->e->Prop):Prop|mk(a:a)(b:b)(c:c)(d:d)(e:e)(_:A a b c d e)(_:B a b c d e)(_:C a b c d e)(_:D a b c d e)(_:E a b c d e)(_:F a b c d e)
inductive Yr{a b c d e:Type}(A B C D E F G:a->b->c->d->e->Prop):Prop|mk(a:a)(b:b)(c:c)(d:d)(e:e)(_:A a b c d e)(_:B a b c d e)(_:C a b c d e)(_:D a b c d e)(_:E a b c d e)(_:F a b c d e)(_:G a b c d e)
abbrev AN:=Sum Int AF
def Lu:AN->AL->Bool|.inl k,v=>AC7 k v|.inr x,v=>AC8 x v
def tO(w:CC):AN->Int|.inl k=>hashInt k|.inr x=>hashStr w x
theorem KL:∀{k:AN}{v:AL},Lu k v=AK->(∃i t,k=C3 i/\v=QB i t)\/(∃x t,k=Bj x/\v=QC x t)|.inl i,v,h=>by obtain⟨t,e⟩:=Value.isInt_shape h;show .inl ⟨i,t,rfl,e⟩|.inr x,v,h=>by obtain⟨t,e⟩:=Value.isStrOf_shape h;show .inr ⟨x,t,rfl,e⟩
theorem tP(i:Int)(t:JV):Lu (.inl i) (.int i t)=AK:=by simp[Lu,AC7]
theorem tQ(x:AF)(t:JV):Lu (.inr x) (.str x t)=AK:=by simp[Lu,AC8]
theorem tR(a b:Int):Ae ((C3 a:AN)=C3 b)=(a==b):=by
 by_cases e:a=b;.subst e;simp
 . have h:¬(C3 a:AN)=C3 b:=λq=>e (Ij q);rw[AE3 h];show(AFC.mpr e).symm
theorem tU(a b:AF):Ae ((Bj a:AN)=Bj b)=Ae (a=b):=by
 by_cases e:a=b;.simp
 . have h:¬(Bj a:AN)=Bj b:=λq=>e (Fc q);rw[AE3 h,AE3 e]
theorem tS(a:Int)(b:AF):Ae ((C3 a:AN)=Bj b)=AR:=AE3 (λq=>nomatch q)
theorem tT(a:AF)(b:Int):Ae ((Bj a:AN)=C3 b)=AR:=AE3 (λq=>nomatch q)
def Eo(prog:Co)(w:CC):KeyKind prog w AN where
  is:=Lu
  hash:=tO w
  inj:=λv a b V U=>by
    rcases KL V with⟨i,t,rfl,rfl⟩|⟨x,t,rfl,rfl⟩
    . rcases KL U with⟨j,u,rfl,e⟩|⟨y,u,rfl,e⟩;.injection e with D _;rw[D]
      .show nomatch e
    . rcases KL U with⟨j,u,rfl,e⟩|⟨y,u,rfl,e⟩;.show nomatch e
      .injection e with D _;rw[D]
  byValue:=λk v h=>by rcases KL h with⟨i,t,rfl,rfl⟩|⟨x,t,rfl,rfl⟩<;>rfl
  pyHash:=λJ h=>by
    rcases KL J with⟨i,t,rfl,rfl⟩|⟨x,t,rfl,rfl⟩;.show wpAny_pyHash_int h
    .show wpAny_pyHash_str h
  eqBool:=λW J h=>by
    rcases KL W with⟨i,t,rfl,rfl⟩|⟨x,t,rfl,rfl⟩
    . rcases KL J with⟨j,u,rfl,rfl⟩|⟨y,u,rfl,rfl⟩;.rw[tR]at h;show wpAny_eqBool_int h
      .rw[tS]at h;show AC0 i t y u _ _ _ _ h
    . rcases KL J with⟨j,u,rfl,rfl⟩|⟨y,u,rfl,rfl⟩;.rw[tT]at h;show AC2 x t j u _ _ _ _ h
      .rw[tU]at h;show wpAny_eqBool_str h
  «strs»:=λk x t v h=>by
    rcases KL h with⟨i,u,rfl,e⟩|⟨y,u,rfl,e⟩;.show nomatch e
    . injection e with D _;subst D;cases v<;>rfl
theorem t6(prog:Co)(w:CC)(i:Int)(t:JV):(Eo prog w).is (.inl i) (.int i t)=AK:=tP i t
theorem t7(prog:Co)(w:CC)(x:AF)(t:JV):(Eo prog w).is (.inr x) (.str x t)=AK:=tQ x t
inductive AE where|non|bl(b:Bool)|int(i:Int)|str(x:AF)|byt(b:Array UInt8)|flt(b:UInt64)|ref(a:AB)|ty(n:String)deriving DecidableEq
def Be:AE->AL->Prop|.non,u=>u=z9|.bl b,u=>u=Vm b|.int i,u=>∃t,u=QB i t|.str x,u=>∃t,u=QC x t|.byt b,u=>∃t,u=AC6 b t|.flt b,u=>∃t,u=z8 b t|.ref a,u=>u=Ds a|.ty n,u=>u=AAA n
abbrev Bb:List AE->List AL->Prop:=BJ Be
theorem Bb.aq(r:Bb xs D):xs.length=D.length:=Ic r
theorem Bb.xc:∀{xs:List AE}{D:List AL}{i:Nat}{x:AE},Bb xs D->xs[i]?=AA x->∃u,D[i]?=AA u/\Be x u|_,_,_,_,.nil,e=>by simp at e|_,_,0,_,.cons r _,e=>by simp at e;subst e;show⟨_,rfl,r⟩|_,_,i+1,x,.cons _ t,e=>by obtain⟨u,J,U⟩:_:=Bb.xc t (by simpa using e);show⟨u,by simpa using J,U⟩
theorem Bb.ql(h:Bb xs D)(s:Bb ys J):Bb (xs++ys) (D++J):=by induction h with|nil=>show s|cons r _ U=>show .cons r U
theorem Bb.adx:∀{xs:List AE}{D:List AL}(n:Nat),Bb xs D->Bb (xs.take n) (D.take n)|_,_,0,_=>.nil|_,_,_+1,.nil=>.nil|_,_,n+1,.cons r t=>.cons r (Bb.adx n t)
theorem Bb.yx:∀{xs:List AE}{D:List AL}(n:Nat),Bb xs D->Bb (xs.drop n) (D.drop n)|_,_,0,r=>r|_,_,_+1,.nil=>.nil|_,_,n+1,.cons _ t=>Bb.yx n t
def K0:Option AE->Option AL->Prop|AA v,AA u=>Be v u|AG,AG=>True|_,_=>False
def Ey:List (D×AE)->List (D×AL)->Prop:=BJ λ(p:D×AE)(q:D×AL)=>p.1=q.1/\Be p.2 q.2
def Au:AN->AE|.inl i=>.int i|.inr x=>.str x
inductive BW where|lst(xs:List AE)|tup(xs:List AE)|dK(kvs:List (AN×AE))|dT(kvs:List (List AN×AE))|set(S:Int->Bool)(n:Nat)|ins(C dx:AB)(fs:List (AF×AE))|own(x:AB)|xd(fs:List (AF×AE))|met(f x:AB)|rng(lo hi:Int)|frz(o:BR)(u:BW)|tbl(ps:Array AL)|ext(φ:BZ->Prop)
abbrev AH:=AB->Option BW
def AM(H:AH)(a:AB)(o:BW):AH:=λb=>if b=a then AA o else H b
theorem AY:AM H a o a=AA o:=by unfold AM;rw[AE0 rfl]
theorem AV(h:b≠a):AM H a o b=H b:=by unfold AM;rw[AEz h]
theorem zzu:∀b o,b≠d->H b=AA o->AM H d x b=AA o:=λb o n e=>(AV n).trans e
theorem Ry:AM (AM H a o) a u=AM H a u:=by funext b;unfold AM;split<;>rfl
theorem uB{H:AH}(h:H a=AA o)(D:H b=AA u)(d:o≠u):a≠b:=by intro e;subst e;rw[h]at D;show d (By D)
theorem BH{H:AH}(h:H a=AA o)(D:H b=AG):a≠b:=by intro e;subst e;rw[h]at D;cases D
section
variable(P:Co)(w:CC)
def DZ(H:AH)(h:BZ)(a:AB):BW->Prop|.lst xs=>xs.length<=Az/\∃(D:List AL)(n:Nat),Bb xs D/\h.get? a=AA {cls:=.type "list",data:=.seq D.toArray n}|.tup xs=>xs.length<=Az/\∃D:List AL,Bb xs D/\Ve h a D.toArray|.dK kvs=>kvs.length<=Az/\(a==KZ)=AR/\∃U,Ey kvs U/\h.DictOf (Eo P w) a U|.dT kvs=>kvs.length<=Az/\(a==KZ)=AR/\∃xs:List (List AN×AB×AL),BJ (λ(p:List AN×AE)(q:List AN×AB×AL)=>p.1=q.1/\H q.2.1=AA (.tup (p.1.map Au))/\Be p.2 q.2.2) kvs xs/\∃o es ep,h.get? a=AA o/\o.ExactDict/\o.data=.dict es ep/\es.toList=xs.map (entryOfKey (Vp (Eo P w)))/\(xs.map (·.1)).Nodup|.set S n=>h.SetOf (intKind P w) a S n|.ins C dx fs=>H dx=AA (.own a)/\fs.length<=1000/\dx≠a/\h.get? a=AA (SS C dx)/\∃mA,h.Ns1 dx mA/\(∀f,K0 (fs.lookup f) (mA f))/\AAM mA (fs.map (·.1))|.own _=>∃o,h.get? a=AA o|.xd fs=>∃mA,h.Ns1 a mA/\∀f,K0 (fs.lookup f) (mA f)|.rng lo hi=>∃t u v,h.get? a=AA {cls:=.type "range",data:=.fields #[.int lo t,.int hi u,.int 1 v]}|.frz o u=>h.get? a=AA o/\DZ H h a u|.tbl ps=>h.get? a=AA {cls:=.none,data:=.fields ps}|.met f x=>h.get? a=AA (W.methodObj (.ref f) (.ref x))|.ext J=>J h/\(∃o,h.get? a=AA o)/\∀h1 h2:BZ,J h1->(∀o,h1.get? a=AA o->h2.get? a=AA o)->J h2
end
def DY(P:Co)(w:CC)(H:AH)(h:BZ):Prop:=∀a o,H a=AA o->DZ P w H h a o
theorem DZ.lt(x:DZ P w H h a o):a<h.objs.size:=by cases o with|lst U=>obtain⟨_,_,_,_,e⟩:=x;show Ct e|tup U=>obtain⟨_,_,_,p⟩:=x;show p.lt|dK D=>obtain⟨_,_,_,_,o,_,_,e,_⟩:=x;show Ct e|dT D=>obtain⟨_,_,_,_,o,_,_,e,_⟩:=x;show Ct e|set S n=>obtain⟨o,_,_,_,e,_⟩:=x;show Ct e|ins C V J=>obtain⟨_,_,_,e,_⟩:=x;show Ct e|own y=>obtain⟨_,e⟩:=x;show Ct e|xd J=>obtain⟨_,⟨_,_,_,e,_⟩,_⟩:=x;show Ct e|rng Y W=>obtain⟨_,_,_,e⟩:=x;show Ct e|frz Z u=>obtain⟨e,_⟩:=x;show Ct e|tbl z=>show Ct (show h.get? a=AA _ from x)|met f y=>show Ct (show h.get? a=AA _ from x)|ext A=>obtain⟨_,⟨_,e⟩,_⟩:=x;show Ct e
theorem Yk{F G:α->U->Prop}(h:BJ F D J)(f:∀a b,F a b->G a b):BJ G D J:=by induction h with|nil=>show .nil|cons r _ V=>show .cons (f _ _ r) V
theorem DZ.xj(x:DZ P w H h a o)(k:∀b u,(b=a\/H b=AA (.own a))->h.get? b=AA u->F.get? b=AA u)(G:∀b,H b=AA (.own a)->H' b=AA (.own a))(I:∀b xs,H b=AA (.tup xs)->H' b=AA (.tup xs)):DZ P w H' F a o:=by induction o with|lst xs=>obtain⟨z,V,n,r,e⟩:=x;show⟨z,V,n,r,k _ _ (.inl rfl) e⟩|tup xs=>obtain⟨z,V,r,D,e,c⟩:=x;show⟨z,V,r,D,k _ _ (.inl rfl) e,c⟩|dK W=>obtain⟨z,y,M,r,D,U,J,e,c⟩:=x;show⟨z,y,M,r,D,U,J,k _ _ (.inl rfl) e,c⟩|dT W=>obtain⟨z,y,xs,r,D,U,J,e,c⟩:_:=x;show⟨z,y,xs,Yk r λp q z=>⟨z.1,I _ _ z.2.1,z.2.2⟩,D,U,J,k _ _ (.inl rfl) e,c⟩|set S n=>obtain⟨D,U,J,t,e,c⟩:=x;show⟨D,U,J,t,k _ _ (.inl rfl) e,c⟩|ins C N E=>obtain⟨d,z,L,e,Y,⟨Z,U,J,B,c⟩,r⟩:_:=x;show⟨G _ d,z,L,k _ _ (.inl rfl) e,Y,⟨Z,U,J,k _ _ (.inr d) B,c⟩,r⟩|own y=>obtain⟨D,e⟩:=x;show⟨D,k _ _ (.inl rfl) e⟩|xd E=>obtain⟨Y,⟨Z,U,J,e,c⟩,r⟩:=x;show⟨Y,⟨Z,U,J,k _ _ (.inl rfl) e,c⟩,r⟩|rng Q O=>obtain⟨t,u,v,e⟩:=x;show⟨t,u,v,k _ _ (.inl rfl) e⟩|frz D u K=>obtain⟨e,q⟩:=x;show⟨k _ _ (.inl rfl) e,K q⟩|tbl R=>have e:=x;show k a _ (.inl rfl) e|met f y=>have e:=x;show k a _ (.inl rfl) e|ext T=>obtain⟨p,⟨o,e⟩,A⟩:=x;show⟨A _ _ p λo q=>k _ _ (.inl rfl) q,⟨o,k _ _ (.inl rfl) e⟩,A⟩
theorem DY.lt(x:DY P w H h)(e:H a=AA o):a<h.objs.size:=(x a o e).lt
theorem DY.cj(x:DY P w H h)(e:h.objs.size<=a):H a=AG:=by cases q:H a with|none=>rfl|some u=>show absurd (BY (x.lt q) e) (Ht _)
theorem DY.iq(x:DY P w H h)(k:∀b u,h.get? b=AA u->D.get? b=AA u):DY P w H D:=λa o e=>(x a o e).xj (λb u O q=>k b u q) (λO q=>q) λO O q=>q
theorem DY.ou(x:DY P w H h)(k:∀b u,h.get? b=AA u->J.get? b=AA u)(W:h.objs.size<=a)(D:DZ P w (AM H a o) J a o):DY P w (AM H a o) J:=λb u e=>by
 have V:=x.cj W;by_cases U:b=a;.subst U;rw[AY]at e;cases e;show D
 . rw[AV U]at e;show(x b u e).xj (λc v O q=>k c v q) (λc q=>by rw[AV (BH q V)];show q) λc Y q=>by rw[AV (BH q V)];show q
def F2(H:AH)(a:AB)(u:BW):Prop:=H a=AA u\/∃o,H a=AA (.frz o u)
theorem F2.ok(r:F2 H a u)(x:DY P w H h):DZ P w H h a u:=by
 rcases r with r|⟨o,r⟩;.show x a u r
 . obtain⟨_,q⟩:=x a _ r;show q
def PD:Option BW->Prop|AA (.lst _)=>True|AA (.dK _)=>True|AA (.dT _)=>True|AA (.set _ _)=>True|AA (.ins _ _ _)=>True|AA (.ext _)=>True|_=>False
theorem DY.vw(K:DY P w H h)(Y:PD (H x))(E:e=x\/H e=AA (.own x))(k:∀b u,b≠e->h.get? b=AA u->A.get? b=AA u)(B:∃u,A.get? e=AA u)(C:DZ P w (AM H x F) A x F):DY P w (AM H x F) A:=λb u q=>by
  have J:∀c y,H c=AA (.own y)->c≠x:=λc y r z=>by subst z;rw[r]at Y;show Y
  have U:∀c Z,H c=AA (.tup Z)->c≠x:=λc Z r z=>by subst z;rw[r]at Y;show Y
  by_cases V:b=x;.subst V;rw[AY]at q;cases q;show C
  . rw[AV V]at q;by_cases D:b=e
    . have G:H b=AA (.own x):=by
        rcases E with z|z;.show absurd (D.trans z) V
        .rw[D];show z
      rw[q]at G;cases G;obtain⟨v,I⟩:=B;show⟨v,by rw[D];show I⟩
    . show(K b u q).xj (λc v W r=>k c v ?_ r) (λc r=>by rw[AV (J c b r)];show r) λc Z r=>by rw[AV (U c Z r)];show r
      rcases W with rfl|W;.show D
      . rintro rfl;rcases E with z|z;.show J c b W z
        .rw[W]at z;cases z;show V rfl
structure Hi(fs ex:List AB)(H H':AH)(h h':BZ):Prop where
 ab:∀b o,h.get? b=AA o->H b=AG->b∉fs->b∉ex->h'.get? b=AA o
 wc:∀b o,h.get? b=AA o->H b=AG->b∈fs->b∉ex->∃sl,h'.get? b=AA {o with slots:=sl}bc:∀b o,h.get? b=AA o->H b=AG->b∉ex->H' b=AG
 ma:∀b o,h.get? b=AA o->b∉ex->∃o',h'.get? b=AA o'
 xq:∀b xs,H b=AA (.tup xs)->H' b=AA (.tup xs)vo:∀b o u,H b=AA (.frz o u)->H' b=AA (.frz o u)xp:∀b ps,H b=AA (.tbl ps)->∃more,H' b=AA (.tbl (ps++more))
theorem Hi.acr(u:Hi V ex H Z h W)(q:h.get? b=AA D)(n:H b=AG)(U:b∉ex):∃Y,W.get? b=AA {D with slots:=Y}:=by
 by_cases J:b∈V;.show u.wc b D q n J U
 .show⟨_,u.ab b D q n J U⟩
theorem RL(k:∀b u,h.get? b=AA u->J.get? b=AA u):Hi U ex H H h J:=⟨λb D q O O O=>k b D q,λb D q O O O=>⟨_,k b D q⟩,λO O O n O=>n,λb D q O=>⟨D,k b D q⟩,λO O q=>q,λO O O q=>q,λO V q=>⟨#[],by rw[q];simp⟩⟩
theorem qY:Hi D ex H H h h:=RL λO O q=>q
theorem qX(k:∀b u,h.get? b=AA u->J.get? b=AA u)(U:h.objs.size<=a)(D:H a=AG):Hi W ex H (AM H a o) h J where
 ab:=λb u q O O O=>k b u q
 wc:=λb u q O O O=>⟨_,k b u q⟩
 bc:=λb u q n O=>by rw[AV (ET (BY (Ct q) U))];show n
 ma:=λb u q O=>⟨u,k b u q⟩
 xq:=λb V q=>by rw[AV (BH q D)];show q
 vo:=λb u V q=>by rw[AV (BH q D)];show q
 xp:=λb Y q=>⟨#[],by rw[AV (BH q D),q];simp⟩
theorem qZ(J:PD (H x))(A:e=x\/H e=AA (.own x))(k:∀b u,b≠e->h.get? b=AA u->W.get? b=AA u)(U:∃u,W.get? e=AA u):Hi E ex H (AM H x o) h W:=by
 have Z:∀b,H b=AG->b≠x:=λb n z=>by subst z;rw[n]at J;show J
 have Y:∀b,H b=AG->b≠e:=λb n z=>by
  subst z;rcases A with r|r;.show Z b n r
  .rw[n]at r;cases r
 have V:∀b u,H b=AA u->¬PD (AA u)->b≠x:=λb u q B z=>by subst z;rw[q]at J;show B J
 show⟨λb u q n O O=>k b u (Y b n) q,λb u q n O O=>⟨_,k b u (Y b n) q⟩,λb u q n O=>by rw[AV (Z b n)];show n,λb u q O=>?_,λb C q=>by rw[AV (V b _ q λz=>z)];show q,λb u C q=>by rw[AV (V b _ q λz=>z)];show q,λb F q=>⟨#[],by rw[AV (V b _ q λz=>z),q];simp⟩⟩;by_cases D:b=e;.subst D;show U
 .show⟨u,k b u D q⟩
def aX(h:BZ)(H:AH):List AB:=(FZ h.objs.size).filter λa=>(H a).isSome
def Nx(h:BZ)(H:AH):BZ:=W.hideAll h (aX h H)
theorem sV(h:BZ)(H:AH):(Nx h H).objs.size=h.objs.size:=W.hideAll_size _ _
theorem sU(e:h.get? b=AA o)(n:H b=AG):(Nx h H).get? b=AA o:=W.hideAll_get _ e λD=>by have q:=(D1.mp D).2;rw[n]at q;simp at q
theorem uD(e:(Nx h H).get? b=AA o):h.get? b=AA o/\H b=AG:=by have D:=W.of_hideAll _ e;show⟨D,?_⟩;cases q:H b with|none=>rfl|some x=>have J:b∈aX h H:=D1.mpr ⟨VQ.mpr (Ct D),by simp[q]⟩;have z:(Nx h H).get? b=AG:=W.hideAll_none _ J;rw[z]at e;cases e
structure RE(K:As)(mg:AF->Option AL)(base:BZ):Prop where
 adk:K.In base
 xf:base.Ns LQ mg
 aco:∃mb,base.Ns AAO mb/\∀x:AF,x≠"__name__"->mb x=QI x
 abn:base.NoLimit
structure Bp where
 ai:Co
 w:CC
 K:As
 mg:AF->Option AL
 af:BZ
 A:DV
 N:List AF
 s₀:AZ
 H₀:AH
 ae:Ed
 vp:List Ed
 ft:List Ed
 ex:List AB
 fn:AF->Bool
 je:Bool
 pn:List (AB×BR)xe:AL->AZ->Prop
def Gx(l:List Ed):List AB:=l.filterMap (·.frame)
abbrev Bp.fs(X:Bp):List AB:=Gx X.vp
def RN(D:Fs)(x:AF):Prop:=D.names.lookup x=AA .local\/D.names.lookup x=AA .cell\/D.names.lookup x=AA .free
def Li(D:Fs)(x:AF):Prop:=D.names.lookup x=AA .local\/D.names.lookup x=AA .cell
def qT(env:Ed)(h:BZ)(m:AF->Option AL)(x:AF)(u:AL):Prop:=(env.kindOf x=AA .local/\m x=AA u)\/((env.kindOf x=AA .cell\/env.kindOf x=AA .free)/\GO (λc=>env.cells.lookup x=AA c) (λc=>h.IsCell c (AA u)))
structure Bp.Ok(X:Bp):Prop where
 wt:RE X.K X.mg X.af
 ju:X.ae.scope.kind=.function
 xf:X.ae.globals=LQ
 aco:X.ae.builtins=AAO
 ti:X.s₀.heap.objs.size<=X.ae.locals
 aac:∀x y c,X.ae.cells.lookup x=AA c->X.ae.cells.lookup y=AA c->x=y
 adh:∀x,(X.ae.kindOf x=AA .cell\/X.ae.kindOf x=AA .free)->∃c,X.ae.cells.lookup x=AA c
 acv:∀x c,X.fn x=AK->X.ae.cells.lookup x=AA c->X.s₀.heap.objs.size<=c
 hd:X.je=AK->X.A.handled=AG
 om:X.A.frames=AA X.ft
 aeh:X.ft=X.vp\/(X.ft=X.ae::X.vp/\X.ae.frame=AA X.ae.locals)aem:∀b∈X.ex,b≠X.ae.locals/\∀x c,X.ae.cells.lookup x=AA c->c≠b
 bs:∀b o,X.af.get? b=AA o->X.s₀.heap.get? b=AA o/\X.H₀ b=AG
 abc:X.af.objs.size<=X.s₀.heap.objs.size
 aas:∀b o,X.af.get? b=AA o->b∉X.ex
 aan:∀b∈X.ex,b∉X.fs
 rg:X.s₀.heap.FunFrames X.af X.vp
 abq:∀b∈X.fs,X.H₀ b=AG
structure Aa(X:Bp)(pins:List (AB×BR))(σ:List (Option AE))(H:AH)(s:AZ):Prop where
 ok:X.Ok
 os:s.os=X.s₀.os
 mf:M6 s.gens
 af:Hi X.fs X.ex X.H₀ H X.s₀.heap s.heap
 yw:∃m,s.heap.Ns X.ae.locals m/\∀(i:Nat)(x:AF)(v:AE),X.N[i]?=AA x->σ[i]?=AA (AA v)->RN X.ae.scope x->∃u,Be v u/\qT X.ae s.heap m x u
 qm:∀x c,X.ae.cells.lookup x=AA c->∃v,s.heap.IsCell c v
 bc:H X.ae.locals=AG
 kh:∀x c,X.ae.cells.lookup x=AA c->H c=AG
 vz:∀p∈X.pn++pins,s.heap.get? p.1=AA p.2/\H p.1=AG/\p.1≠X.ae.locals/\p.1∉X.fs/\∀v,p.2.data≠.cell v
 cq:DY X.ai X.w H s.heap
 gf:σ.length=X.N.length
theorem Bp.Ok.aes{X:Bp}(J:X.Ok)(e:X.af.get? b=AA o):b∉X.fs:=λD=>by have:=(J.rg.mem D).1;rw[e]at this;cases this
theorem Aa.bs(I:Aa X D J H s):∀b o,X.af.get? b=AA o->s.heap.get? b=AA o/\H b=AG:=λb o e=>⟨I.af.ab b o (I.ok.bs b o e).1 (I.ok.bs b o e).2 (I.ok.aes e) (I.ok.aas b o e),I.af.bc b o (I.ok.bs b o e).1 (I.ok.bs b o e).2 (I.ok.aas b o e)⟩
theorem Aa.bk(I:Aa X D J H s):∀b o,X.af.get? b=AA o->s.heap.get? b=AA o:=λb o e=>(I.bs b o e).1
theorem Aa.wt(I:Aa X D J H s):RE X.K X.mg X.af:=I.ok.wt
theorem Aa.sj(I:Aa X D J H s):X.K.In s.heap:=I.ok.wt.adk.keeps I.bk
theorem Aa.lt(I:Aa X D U H s):X.ae.locals<s.heap.objs.size:=let⟨_,J,_⟩:=I.yw;J.lt
theorem Aa.sz(I:Aa X D J H s):X.s₀.heap.objs.size<=s.heap.objs.size:=Ag I.ok.ti (B8 I.lt)
theorem Aa.aet(I:Aa X D V H s)(h:s.heap.objs.size<=a):a∉X.fs:=λJ=>by obtain⟨_,o,U,_⟩:_:=I.ok.rg.mem J;show absurd (BY (Ct U) (Ag I.sz h)) (Ht _)
theorem Aa.aek(I:Aa X W B H s):∀x c,X.ae.cells.lookup x=AA c->c≠X.ae.locals:=λx c e z=>by lk;obtain⟨v,o,V,U⟩:=I.qm x c e;obtain⟨m,⟨A,Z,Y,J,D,_⟩,_⟩:=I.yw;k_in;rw[z,J]at V;cases V;rw[D]at U;cases U
theorem Aa.rg(I:Aa X Y N H s):s.heap.FunFrames X.af X.vp:=by
 have D:∀(l:List _),(∀b∈Gx l,b∈X.fs)->X.s₀.heap.FunFrames X.af l->s.heap.FunFrames X.af l:=by intro l;induction l with |nil=>intro _ _;trivial|cons Z r K=> intro W C;obtain⟨B,⟨L,o,V,E,F,A⟩,G⟩:=C;have J:=W L (by unfold Gx;rw[yK,V];show Dr);obtain⟨M,e⟩:=I.af.wc L o F (I.ok.abq L J) J λz=>I.ok.aan L z J;show⟨B,⟨L,_,V,E,e,A⟩,K (λb U=>W b (by unfold Gx;rw[yK,V];show Fp _ U)) G⟩
 show D _ (λO U=>U) I.ok.rg
theorem Aa.ft(I:Aa X D V H s):s.heap.FunFrames X.af X.ft:=by
 rcases I.ok.aeh with e|⟨e,J⟩;.rw[e];show I.rg
 . rw[e];obtain⟨m,U,_⟩:_:=I.yw;show .cons (by rw[I.ok.ju];decide) J U ?_ I.rg;show ACu (Ag I.ok.abc I.ok.ti)
theorem Aa.xk(I:Aa X J V H s):∀b∈Gx X.ft,b∈X.ae.locals::X.fs:=λb D=>by
 rcases I.ok.aeh with e|⟨e,U⟩;.rw[e]at D;show Fp _ D
 . rw[e]at D;unfold Gx at D;rw[yK,U]at D;show D
theorem Aa.zv(I:Aa X J V H s):∀b∈Gx X.ft,H b=AG:=λb D=>by
 rcases CZ.mp (I.xk b D)with e|D;.rw[e];show I.bc
 . obtain⟨_,o,U,_⟩:_:=I.ok.rg.mem D;show I.af.bc b o U (I.ok.abq b D) λz=>I.ok.aan b z D
theorem Aa.ku{X:Bp}{B:List (AB×BR)}{σ:List (Option AE)}{H H':AH}{G:BZ}{g:Array GenState}{t':Nat}{y:Drawn}{ch:List AB}(I:Aa X B σ H s)(V:∀b∈ch,(b∈X.ex\/X.s₀.heap.objs.size<=b)/\b≠X.ae.locals/\(∀x c,X.ae.cells.lookup x=AA c->c≠b)/\∀p∈X.pn++B,p.1≠b)(W:∀b o,b≠X.ae.locals->b∉X.fs->b∉ch->s.heap.get? b=AA o->H b=AG->G.get? b=AA o)(C:∀b o,b≠X.ae.locals->b∈X.fs->b∉ch->s.heap.get? b=AA o->H b=AG->∃a,G.get? b=AA {o with slots:=a})(J:∀b o,b∉ch->s.heap.get? b=AA o->H b=AG->H' b=AG)(F:∀b o,b∉ch->s.heap.get? b=AA o->∃P,G.get? b=AA P)(R:∀b xs,H b=AA (.tup xs)->H' b=AA (.tup xs))(M:∀b o u,H b=AA (.frz o u)->H' b=AA (.frz o u))(Q:∀b ps,H b=AA (.tbl ps)->∃N,H' b=AA (.tbl (ps++N)))(ns:∀m,s.heap.Ns X.ae.locals m->G.Ns X.ae.locals m)(T:DY X.ai X.w H' G)(hg:M6 g):Aa X B σ H' {s with heap:=G,gens:=g,drawn:=y,toks:=t'}:=by
  have O:∀b o,X.s₀.heap.get? b=AA o->b≠X.ae.locals:=λb o e=>ET (BY (Ct e) I.ok.ti);have A:∀b o,X.s₀.heap.get? b=AA o->b∉X.ex->b∉ch:=λb o e D E=>by
    rcases(V b E).1 with z|z;.show D z
    .show absurd (BY (Ct e) z) (Ht _)
  have U:∀x c,X.ae.cells.lookup x=AA c->∀v,s.heap.IsCell c v->G.IsCell c v:=λx c e v⟨o,K,S⟩=>by
    have Y:=λz=>(V c z).2.2.1 x c e rfl;by_cases h:c∈X.fs
    . obtain⟨a,q⟩:=C c o (I.aek x c e) h Y K (I.kh x c e);show⟨_,q,S⟩
    .show⟨o,W c o (I.aek x c e) h Y K (I.kh x c e),S⟩
  show⟨I.ok,I.os,hg,⟨λb o e n E D=>?_,λb o e n E D=>?_,λb o e n D=>?_,λb o e D=>?_,λb xs e=>R b xs (I.af.xq b xs e),λb o xs e=>M b o xs (I.af.vo b o xs e),λb ps e=>?_⟩,?_,λx c e=>?_,?_,λx c e=>?_,λp j=>?_,T,I.gf⟩;.show W b o (O b o e) E (A b o e D) (I.af.ab b o e n E D) (I.af.bc b o e n D)
  . lk;obtain⟨a,Z⟩:=I.af.wc b o e n E D;obtain⟨f,L⟩:=C b _ (O b o e) E (A b o e D) Z (I.af.bc b o e n D);k_in;show⟨f,L⟩
  . obtain⟨P,Z⟩:=I.af.ma b o e D;show J b P (A b o e D) Z (I.af.bc b o e n D)
  . obtain⟨P,Z⟩:=I.af.ma b o e D;show F b P (A b o e D) Z
  . lk;obtain⟨m1,Z⟩:=I.af.xp b ps e;obtain⟨m2,L⟩:=Q b _ Z;k_in;show⟨_,by rw[L,Array.append_assoc]⟩
  . obtain⟨m,hn,hl⟩:_:=I.yw;show⟨m,ns m hn,λi x v Z L e3=>?_⟩;obtain⟨u,r,l⟩:_:=hl i x v Z L e3;show⟨u,r,?_⟩;rcases l with l|⟨k,c,e,z⟩;.show .inl l
    .show .inr ⟨k,c,e,U x c e _ z⟩
  . obtain⟨v,z⟩:=I.qm x c e;show⟨v,U x c e v z⟩
  . obtain⟨m,⟨o,_,_,K,_⟩,_⟩:_:=I.yw;show J _ o (λz=>(V _ z).2.1 rfl) K I.bc
  . obtain⟨v,o,K,S⟩:_:=I.qm x c e;show J c o (λz=>(V c z).2.2.1 x c e rfl) K (I.kh x c e)
  . obtain⟨e,n,t,w,d⟩:_:=I.vz p j;have Y:=λz=>(V _ z).2.2.2 p j rfl;show⟨W _ _ t w Y e n,J _ _ Y e n,t,w,d⟩
theorem Aa.un(I:Aa X J F H s)(u:Hi X.fs [] H H' s.heap Z)(Y:DY X.ai X.w H' Z):Aa X J F H' {s with heap:=Z,toks:=t'}:=by lk;obtain⟨m,⟨o,K,G,A,r⟩,_⟩:=id I.yw;obtain⟨N,B⟩:=u.acr A I.bc (by simp);k_in;show I.ku (ch:=[]) (λO z=>nomatch z) (λb o O W O e n=>u.ab b o e n W (by simp)) (λb o O W O e n=>u.wc b o e n W (by simp)) (λb o O e n=>u.bc b o e n (by simp)) (λb o O e=>u.ma b o e (by simp)) u.xq u.vo u.xp (λL C=>by obtain⟨M,V,U,D,E⟩:_:=C;rw[A]at D;cases D;show⟨_,V,U,B,E⟩) Y I.mf
theorem Aa.acw(I:Aa X D N H s)(u:Hi (Gx X.ft) ch H H' s.heap C)(A:DY X.ai X.w H' C)(K:M6 B)(U:∀b∈ch,(b∈X.ex\/X.s₀.heap.objs.size<=b)/\b≠X.ae.locals/\(∀x c,X.ae.cells.lookup x=AA c->c≠b)/\∀p∈X.pn++D,p.1≠b):Aa X D N H' {s with heap:=C,gens:=B,drawn:=F,toks:=t'}:=by lk;obtain⟨m,⟨o,P,O,E,r⟩,_⟩:=id I.yw;obtain⟨S,Z⟩:=u.acr E I.bc λz=>(U _ z).2.1 rfl;k_in;show I.ku U (λb o Z G J e n=>u.ab b o e n (λz=>(CZ.mp (I.xk b z)).elim Z G) J) (λb o i i J e n=>u.acr e n J) (λb o J e n=>u.bc b o e n J) (λb o J e=>u.ma b o e J) u.xq u.vo u.xp (λQ L=>by obtain⟨R,Y,W,V,M⟩:_:=L;rw[E]at V;cases V;show⟨_,Y,W,Z,M⟩) A K
theorem Aa.fo(I:Aa X D L H s)(k:∀b o,b≠it->s.heap.get? b=AA o->Z.get? b=AA o)(G:H it=AG)(V:it≠X.ae.locals)(A:it∈X.ex\/X.s₀.heap.objs.size<=it)(B:∀x c,X.ae.cells.lookup x=AA c->c≠it)(C:∀p∈X.pn++D,p.1≠it):Aa X D L H {s with heap:=Z,toks:=t'}:=by
  have U:∀b u,H b=AA u->b≠it:=λb u e z=>by rw[z,G]at e;cases e
  show I.ku (ch:=[it]) (λb E=>?_) (λb o O O J e O=>k b o (λz=>J (by simp[z])) e) (λb o O O J e O=>⟨_,k b o (λz=>J (by simp[z])) e⟩) (λO O O O n=>n) (λb o J e=>⟨o,k b o (λz=>J (by simp[z])) e⟩) (λO O e=>e) (λO O O e=>e) (λb M e=>⟨#[],by rw[e];simp⟩) (λm F=>?_) (λb u e=>?_) I.mf
  . have e:=by simpa using E
    subst e;show⟨A,V,B,C⟩
  . obtain⟨o,Y,W,K,r⟩:_:=F;show⟨o,Y,W,k _ o (DJ V) K,r⟩
  . show(I.cq b u e).xj (λc v J q=>k c v ?_ q) (λO q=>q) λO O q=>q;rcases J with z|z;.rw[z];show U b u e
    .show U c _ z
theorem Aa.ig(I:Aa X D J H s)(t:Nat):Aa X D J H {s with toks:=t}:=I.un qY I.cq
theorem Aa.iq(I:Aa X D U H s)(k:∀b u,s.heap.get? b=AA u->J.get? b=AA u):Aa X D U H {s with heap:=J,toks:=t'}:=I.un (RL k) (I.cq.iq k)
theorem Aa.ou(I:Aa X D W H s)(k:∀b u,s.heap.get? b=AA u->V.get? b=AA u)(J:s.heap.objs.size<=a)(U:DZ X.ai X.w (AM H a o) V a o):Aa X D W (AM H a o) {s with heap:=V,toks:=t'}:=I.un (qX k J (I.cq.cj J)) (I.cq.ou k J U)
theorem Aa.vw(I:Aa X J Z H s)(Y:PD (H x))(W:e=x\/H e=AA (.own x))(k:∀b u,b≠e->s.heap.get? b=AA u->U.get? b=AA u)(D:∃u,U.get? e=AA u)(V:DZ X.ai X.w (AM H x o) U x o):Aa X J Z (AM H x o) {s with heap:=U,toks:=t'}:=I.un (qZ Y W k D) (I.cq.vw Y W k D V)
theorem Aa.jt(I:Aa X J V H s)(h:∀p∈D,s.heap.get? p.1=AA p.2/\H p.1=AG/\p.1≠X.ae.locals/\p.1∉X.fs/\∀v,p.2.data≠.cell v):Aa X D V H s:=⟨I.ok,I.os,I.mf,I.af,I.yw,I.qm,I.bc,I.kh,λp U=>(Ce.mp U).elim (λz=>I.vz p (Hn _ z)) (h p),I.cq,I.gf⟩
theorem Zf{N:List AF}(U:N.Nodup){i j:Nat}{x:AF}(a:N[i]?=AA x)(b:N[j]?=AA x):i=j:=by lk;obtain⟨V,D⟩:=BU.mp a;obtain⟨W,J⟩:=BU.mp b;k_in;show(yO U).mp (D.trans J.symm)
theorem aF(I:Aa X g σ H s)(hN:X.N.Nodup)(hi:X.N[i]?=AA x)(Y:Li X.ae.scope x)(r:Be v u)(h:∀s',Aa X g (σ.set i (AA v)) H s'->(∃a,QA a s.heap s'.heap/\(a=X.ae.locals\/X.ae.cells.lookup x=AA a))->Q () s')(hf:X.fn x=AK\/X.ae.scope.names.lookup x=AA .local:=by first|show .inl rfl|show .inr rfl|assumption):A1 M A (storeName X.ae x u) Q E s:=by
  obtain⟨m,hn,hl⟩:_:=id I.yw;have S:(X.ae.scope.kind==.class||(X.ae.scope.kind==.module&&X.ae.locals !=X.ae.globals))=AR:=by rw[I.ok.ju];rfl
  have C:i<σ.length:=by rw[I.gf];show(BU.mp hi).1
  have G:=I.aek;have U:∀{a:AB}{O:BZ},(∃o,s.heap.get? a=AA o/\H a=AG)->QA a _ O->DY _ X.w H O:=λ{a O}ha D b ob e=>by
    obtain⟨_,_,Z⟩:=ha;show(I.cq b ob e).xj (λc w W q=>(D.2 c ?_).trans q) (λ_ q=>q) λ_ _ q=>q;rintro rfl;rcases W with rfl|W;.rw[Z]at e;cases e
    .rw[Z]at W;cases W
  rcases Y with F|F
  . show wpAny_storeName_local F hn (λO hn' D=>?_) S;obtain⟨oL,_,_,hoL,_⟩:_:=id hn;show h _ ⟨I.ok,I.os,I.mf,⟨λb o e n K Y=>?_,λb o e n K Y=>?_,I.af.bc,λb o e Y=>?_,I.af.xq,I.af.vo,I.af.xp⟩,⟨_,hn',λj y v' J B e3=>?_⟩,λy c e=>?_,I.bc,I.kh,λp hp=>?_,U ⟨oL,hoL,I.bc⟩ D,by simpa using I.gf⟩ ⟨_,D,.inl rfl⟩;.show(D.2 b (ET (BY (Ct e) I.ok.ti))).trans (I.af.ab b o e n K Y)
    . obtain⟨sl,J⟩:=I.af.wc b o e n K Y;show⟨sl,(D.2 b (ET (BY (Ct e) I.ok.ti))).trans J⟩
    . obtain⟨o',J⟩:=I.af.ma b o e Y;show⟨o',(D.2 b (ET (BY (Ct e) I.ok.ti))).trans J⟩
    . by_cases N:j=i
      . subst N;rw[hi]at J;cases J;rw[ABh C]at B;cases B;show⟨u,r,.inl ⟨F,by simp⟩⟩
      . rw[ABg (DJ N)]at B;obtain⟨u',r',q⟩:_:=hl j y v' J B e3;show⟨u',r',?_⟩;rcases q with⟨k,e⟩|⟨k,c,e,z⟩
        . show .inl ⟨k,?_⟩;have:y≠x:=λe=>N (Zf hN J (e▸hi));simp[this,e]
        .show .inr ⟨k,c,e,z.sameBut D (G y c e)⟩
    . obtain⟨w,z⟩:=I.qm y c e;show⟨w,z.sameBut D (G y c e)⟩
    . obtain⟨e,n,t,nf,d⟩:_:=I.vz p hp;show⟨(D.2 p.1 t).trans e,n,t,nf,d⟩
  . have L:X.fn x=AK:=by
      rcases hf with z|z;.show z
      .rw[z]at F;cases F
    lk;obtain⟨c,W⟩:=I.ok.adh x (.inl F);obtain⟨w,z⟩:=I.qm x c W;k_in;show wpAny_storeName_cell I.ok.ju F W z (λO P D=>?_);obtain⟨oc,T,f⟩:_:=id z;show h _ ⟨I.ok,I.os,I.mf,⟨λb o e n K Y=>?_,λb o e n K Y=>?_,I.af.bc,λb o e Y=>?_,I.af.xq,I.af.vo,I.af.xp⟩,⟨m,hn.sameBut D (DJ (G x c W)),λj y v' J B e3=>?_⟩,λy l e=>?_,I.bc,I.kh,λp hp=>?_,U ⟨oc,T,I.kh x c W⟩ D,by simpa using I.gf⟩ ⟨c,D,.inr W⟩;.show(D.2 b (ET (BY (Ct e) (I.ok.acv x c L W)))).trans (I.af.ab b o e n K Y)
    . obtain⟨sl,J⟩:=I.af.wc b o e n K Y;show⟨sl,(D.2 b (ET (BY (Ct e) (I.ok.acv x c L W)))).trans J⟩
    . obtain⟨o',J⟩:=I.af.ma b o e Y;show⟨o',(D.2 b (ET (BY (Ct e) (I.ok.acv x c L W)))).trans J⟩
    . by_cases N:j=i
      . subst N;rw[hi]at J;cases J;rw[ABh C]at B;cases B;show⟨u,r,.inr ⟨.inl F,c,W,P⟩⟩
      . rw[ABg (DJ N)]at B;obtain⟨u',r',q⟩:_:=hl j y v' J B e3;show⟨u',r',?_⟩;rcases q with q|⟨k,l,e,z'⟩;.show .inl q
        . show .inr ⟨k,l,e,z'.sameBut D ?_⟩;rintro rfl;show N (Zf hN J (I.ok.aac _ _ _ e W▸hi))
    . by_cases R:l=c;.subst R;show⟨_,P⟩
      . obtain⟨w2,z2⟩:=I.qm y l e;show⟨w2,z2.sameBut D R⟩
    . obtain⟨e,n,t,nf,d⟩:_:=I.vz p hp;show⟨(D.2 p.1 ?_).trans e,n,t,nf,d⟩;intro q;rw[q,T]at e;have q':=By e;show d w (by rw[<-q'];show f)
theorem aE(I:Aa X D Z H s)(U:X.N.Nodup)(hi:X.N[i]?=AA x)(Y:Li X.ae.scope x)(r:Be v u)(h:∀s',Aa X D (Z.set i (AA v)) H s'->Q () s')(W:X.fn x=AK\/X.ae.scope.names.lookup x=AA .local:=by first|show .inl rfl|show .inr rfl|assumption):A1 M A (storeName X.ae x u) Q E s:=aF I U hi Y r (λs' J O=>h s' J) W
theorem Aa.aam(I:Aa X D Y H s)(W:s'.os=s.os)(u:Hi (Gx X.ft) ch H H' s.heap s'.heap)(U:DY X.ai X.w H' s'.heap)(V:M6 s'.gens)(J:∀b∈ch,(b∈X.ex\/X.s₀.heap.objs.size<=b)/\b≠X.ae.locals/\(∀x c,X.ae.cells.lookup x=AA c->c≠b)/\∀p∈X.pn++D,p.1≠b):Aa X D Y H' s':=by obtain⟨A,z,Z,C,B⟩:_:=s';have e:=W;subst e;show I.acw u U V J
abbrev HJ:=AL->Option AB->AH->Prop
abbrev Ah:=List (Option AE)
abbrev Bf:=AE->AH->Prop
abbrev Av:=Ah->AH->Bf->Prop
abbrev Dg:=Ah->AH->(Bool->AH->Prop)->Prop
abbrev Fi:=Ah->AH->(List AE->AH->Prop)->Prop
structure HH where
 nx:Ah->AH->Prop
 rt:Bf
 bk:Ah->AH->Prop:=λ_ _=>False
 ct:Ah->AH->Prop:=λ_ _=>False
abbrev Cz:=HH->Ah->AH->Prop
def Fh(X:Bp)(D:List (AB×BR))(U:Ah)(Q:Bf)(u:AL)(s':AZ):Prop:=E2 (λv J=>Aa X D U J s') (λv O=>Be v u) (λv J=>Q v J)
def UQ(X:Bp)(D:List (AB×BR))(U:Ah)(Q:Bool->AH->Prop)(b:Bool)(s':AZ):Prop:=GO (λJ=>Aa X D U J s') (λJ=>Q b J)
def qO(X:Bp)(D:List (AB×BR))(Y:Ah)(Q:List AE->AH->Prop)(W:List AL)(s':AZ):Prop:=E2 (λJ U=>Aa X D Y U s') (λJ O=>Bb J W) (λJ U=>Q J U)
def RH(X:Bp)(V:List (AB×BR))(D:HH)(f:Flow)(s':AZ):Prop:=match f with|.next=>Lk (λJ U=>Aa X V J U s') (λJ U=>D.nx J U)|.brk=>Lk (λJ U=>Aa X V J U s') (λJ U=>D.bk J U)|.cont=>Lk (λJ U=>Aa X V J U s') (λJ U=>D.ct J U)|.ret u=>RQ (λv J U=>Aa X V J U s') (λv O O=>Be v u) (λv O U=>D.rt v U)
def Al(X:Bp)(e:BN)(t:Av):Prop:=∀(D:List (AB×BR))(s:AZ)(J:Ah)(H:AH)(Q:Bf),Aa X D J H s->t J H Q->A1 (Ao X.ai X.w) X.A (Ba e X.ae) (Fh X D J Q) X.xe s
def HI(X:Bp)(e:BN)(t:Dg):Prop:=∀(D:List (AB×BR))(s:AZ)(J:Ah)(H:AH)(Q:Bool->AH->Prop),Aa X D J H s->t J H Q->A1 (Ao X.ai X.w) X.A (Vo e X.ae (Ba e X.ae)) (UQ X D J Q) X.xe s
def Mi(X:Bp)(e:BN)(t:Dg):Prop:=∀(J:D4 AL)(D:List (AB×BR))(s:AZ)(U:Ah)(H:AH)(Q:Bool->AH->Prop),Aa X D U H s->t U H Q->A1 (Ao X.ai X.w) X.A (Vo e X.ae J) (UQ X D U Q) X.xe s
theorem Kz(h:Mi X e t):HI X e t:=h _
def Gf(X:Bp)(W:List BN)(t:Fi):Prop:=∀(J:Cv)(D:List (AB×BR))(s:AZ)(U:Ah)(H:AH)(Q:List AE->AH->Prop),Aa X D U H s->t U H Q->A1 (Ao X.ai X.w) X.A (spliced (GU J (Cp W X.ae))) (qO X D U Q) X.xe s
def Ez(X:Bp)(st:C2)(t:Cz):Prop:=∀(J:List (AB×BR))(s:AZ)(U:Ah)(H:AH)(D:HH),Aa X J U H s->t D U H->A1 (Ao X.ai X.w) X.A (exec st X.ae) (RH X J D) X.xe s
def F1(X:Bp)(st:List C2)(t:Cz):Prop:=∀(J:List (AB×BR))(s:AZ)(U:Ah)(H:AH)(D:HH),Aa X J U H s->t D U H->A1 (Ao X.ai X.w) X.A (execs st X.ae) (RH X J D) X.xe s
theorem Ax(h:A1 M A t Q E s)(J:∀a s,Q a s->D a s):A1 M A t D E s:=IA h J λO O x=>x
def aV(i:Nat):Av:=λD H Q=>GO (λv=>D[i]?=AA (AA v)) (λv=>Q v H)
def LA(v:AE):Av:=λO H Q=>Q v H
theorem Zw{x:AF}(z:X.N[i]?=AA x)(E:RN X.ae.scope x)(V:(x==("__debug__":AF))=AR:=by decide)(U:(x==("__classdict__":AF))=AR:=by decide):Al X (.Name x W) (aV i):=by
  intro Z s F H Q I h;lk;obtain⟨v,e,h⟩:=h;obtain⟨m,C,A⟩:=I.yw;obtain⟨u,r,l⟩:=A i x v z e E;k_in;have fin:Fh X _ F Q u s:=⟨v,H,I,r,h⟩;rcases l with⟨J,B⟩|⟨J,c,Y,D⟩;.show AAb (wpAny_loadName_local I.ok.ju J C B fin) V
  . rcases J with J|J;.show AAb (wpAny_loadName_cell I.ok.ju J Y D fin) V
    .show AAb (wpAny_loadName_free I.ok.ju J Y D fin U) V
theorem AQ:Al X (.Constant (.int i) j D) (LA (.int i)):=λO O O H O I h=>wpAny_Constant_int ⟨.int i,H,I.ig _,⟨_,rfl⟩,h⟩
theorem F5:Al X (.Constant (.bool b) j D) (LA (.bl b)):=λO O O H O I h=>Constant_bool ⟨.bl b,H,I,rfl,h⟩
theorem N7:Al X (.Constant .none j D) (LA .non):=λO O O H O I h=>Constant_none ⟨.non,H,I,rfl,h⟩
theorem Dq:Al X (.Constant (.str x) j D) (LA (.str x)):=λO O O H O I h=>Calls.Constant_str ⟨.str x,H,I.ig _,⟨_,rfl⟩,h⟩
def Ge(X:Bp)(x:AF):Prop:=X.ae.kindOf x=AA .globalImplicit
theorem PU{x:AF}(I:Aa X D Y H s)(V:Ge X x)(W:X.mg x=AA u)(h:Q u s)(U:(x==("__debug__":AF))=AR:=by decide):A1 (Ao X.ai X.w) X.A (Ba (.Name x J) X.ae) Q E s:=ACV I.ok.ju V (Calls.loadGlobal_global (by rw[I.ok.xf];show I.wt.xf.keeps I.bk) W h) U
theorem KN{x:AF}(I:Aa X D B H s)(Y:Ge X x)(Z:X.mg x=AG)(A:QI x=AA u)(h:Q u s)(z:x≠"__name__":=by decide)(W:(x==("__debug__":AF))=AR:=by decide):A1 (Ao X.ai X.w) X.A (Ba (.Name x J) X.ae) Q E s:=by obtain⟨C,U,V⟩:_:=I.wt.aco;show ACV I.ok.ju Y (Calls.loadGlobal_builtin (by rw[I.ok.xf];show I.wt.xf.keeps I.bk) Z (by rw[I.ok.aco];show U.keeps I.bk) ((V x z).trans A) h) W
theorem Pe{x:AF}(U:Ge X x)(W:X.mg x=AA u)(r:Be v u)(J:(x==("__debug__":AF))=AR:=by decide):Al X (.Name x D) (LA v):=λO O O H O I h=>PU I U W ⟨v,H,I,r,h⟩ J
theorem Zr{x:AF}(U:Ge X x)(W:X.mg x=AG)(Z:QI x=AA u)(r:Be v u)(Y:x≠"__name__":=by decide)(J:(x==("__debug__":AF))=AR:=by decide):Al X (.Name x D) (LA v):=λO O O H O I h=>KN I U W Z ⟨v,H,I,r,h⟩ Y J
def Yj(X:Bp)(op:OP)(a b:BN)(t:Av):Prop:=∀(D:List (AB×BR))(s:AZ)(V:Ah)(H:AH)(Q:Bf),Aa X D V H s->t V H Q->A1 (Ao X.ai X.w) X.A (Ba a X.ae) (λv J=>A1 (Ao X.ai X.w) X.A (Ba b X.ae) (λu U=>A1 (Ao X.ai X.w) X.A (Ej op v u) (Fh X D V Q) X.xe U) X.xe J) X.xe s
theorem uC(b:BN)(h:op≠.In)(U:op≠.NotIn):QF op b=AR:=by
 have D:(op==ACX)=AR:=by cases op<;>first|rfl|show absurd rfl h
 have J:(op==ACY)=AR:=by cases op<;>first|rfl|show absurd rfl U
 cases b<;>simp[QF,D,J]
def aI(t:Av):Dg:=λJ H Q=>t J H λx D=>GO (λc=>x=.bl c) (λc=>Q c D)
theorem Z0(h:Yj X op a b t)(J:QF op b=AR:=by first|show uC _ (by decide) (by decide)|rfl):HI X (.Compare a [op] [b] Y) (aI t):=by intro D s z H Q I hw;show ADo (Ax (h D s z H _ I hw) λv s1 J=>Ax J λu s2 W=>Ax W λc s3⟨x,U,V,r1,Z⟩=>?_) J;lk;obtain⟨d,rfl,q⟩:=Z;cases r1;k_in;show Oa ⟨U,V,q⟩
theorem Jl(h:Al X e t)(W:∀D,Vo e X.ae D=(do let v<-D;standAt e.pos;holding [v] (truthy v)):=by intro _;rfl):HI X e (aI t):=by intro J s Z H Q I hw;show isTrue_plain (Ax (h _ s Z H _ I hw) λv s1⟨x,U,V,r1,Y⟩=>?_) (W _);lk;obtain⟨d,rfl,q⟩:=Y;cases r1;k_in;show Oa ⟨U,V,q⟩
def wV(t u:Dg):Dg:=λJ H Q=>t J H λc D=>if c=AK then u J D Q else Q AR D
def xO(t u:Dg):Dg:=λJ H Q=>t J H λc D=>if c=AK then Q AK D else u J D Q
def xM(t:Dg):Dg:=λJ H Q=>t J H λc D=>Q (!c) D
theorem OA(J:HI X a V):Mi X (.BoolOp .And [a] U) V:=by intro Y D s W H Q I h;show isTrue_and (Ax (J _ s W H Q I h) λc s1 e=>?_);cases c with|true=>show isTrue_and_nil e|false=>show e
theorem U3(J:HI X a V):Mi X (.BoolOp .Or [a] U) V:=by intro Y D s W H Q I h;show isTrue_or (Ax (J _ s W H Q I h) λc s1 e=>?_);cases c with|false=>show isTrue_or_nil e|true=>show e
theorem N9(B:HI X a E)(C:Mi X (.BoolOp .And (b::J) U) V):Mi X (.BoolOp .And (a::b::J) U) (wV E V):=by intro F Z s A H Q I h;show isTrue_and (Ax (B _ s A H _ I h) λc s1 D=>?_);obtain⟨W,Y,z⟩:_:=D;cases c with|true=>show C F _ s1 A W Q Y z|false=>show⟨W,Y,z⟩
theorem Rp(B:HI X a E)(C:Mi X (.BoolOp .Or (b::J) U) V):Mi X (.BoolOp .Or (a::b::J) U) (xO E V):=by intro F Z s A H Q I h;show isTrue_or (Ax (B _ s A H _ I h) λc s1 D=>?_);obtain⟨W,Y,z⟩:_:=D;cases c with|true=>show⟨W,Y,z⟩|false=>show C F _ s1 A W Q Y z
theorem L3(J:HI X a V):HI X (.UnaryOp .Not a U) (xM V):=by intro D s W H Q I h;show isTrue_not (J _ s W H _ I h)
def wW(U V:Av):Av:=λJ H Q=>U J H λx D=>GO (λc=>x=.bl c) (λc=>if c=AK then V J D Q else Q (.bl AR) D)
def xN(J:Av):Av:=λU H Q=>J U H λx D=>GO (λc=>x=.bl c) (λc=>Q (.bl (!c)) D)
theorem U1(h:Al X a t):Al X (.BoolOp op [a] J) t:=λD s U H Q I hw=>BoolOp_one (h _ s U H Q I hw)
theorem U0(A:Al X a C)(B:Al X (.BoolOp .And (b::J) V) E):Al X (.BoolOp .And (a::b::J) V) (wW C E):=by intro Z s z H Q I h;show BoolOp_and (Ax (A _ s z H _ I h) λv s1 D=>?_);lk;obtain⟨x,W,Y,r1,U⟩:=D;obtain⟨c,rfl,U⟩:=U;cases r1;k_in;show Oa ?_;cases c with|true=>show B _ s1 z W Q Y U|false=>show⟨.bl _,W,Y,rfl,U⟩
theorem vE(Y:Al X a z):Al X (.UnaryOp .Not a Z) (xN z):=by intro U s A H Q I h;show UnaryOp_ (Ax (Y _ s A H _ I h) λv s1 D=>?_);lk;obtain⟨x,V,W,r1,J⟩:=D;obtain⟨c,rfl,J⟩:=J;cases r1;k_in;show not_of (Oa ⟨.bl _,V,W,rfl,J⟩)
def xH(t:Dg)(U V:Av):Av:=λD H Q=>t D H λc J=>if c=AK then U D J Q else V D J Q
theorem Rm(A:HI X c C)(Z:Al X a E)(z:Al X b F):Al X (.IfExp c a b B) (xH C E F):=by intro W s J H Q I h;show wpAny_IfExp (Ax (A _ s J H _ I h) λd s1 D=>?_);obtain⟨U,V,Y⟩:_:=D;cases d with|true=>show Z _ s1 J U Q V Y|false=>show z _ s1 J U Q V Y
def CD(K:As)(H:AH)(a:AB)(xs:List AE):Prop:=F2 H a (.lst xs)\/Yn (λ(o:BR)(D:Array AL)(n:Nat)=>K.lookup a=AA o) (λo O O=>o.cls=.type "list") (λo O O=>o.dict=AG) (λo D n=>o.data=.seq D n) (λO D O=>D.size<=Az) (λO D O=>Bb xs D.toList)
def Cs(K:As)(H:AH)(a:AB)(xs:List AE):Prop:=F2 H a (.tup xs)\/Nn (λ(o:BR)(D:Array AL)(n:Nat)=>K.lookup a=AA o) (λo O O=>o.cls=.type "tuple") (λo D n=>o.data=.seq D n) (λO D O=>D.size<=Az) (λO D O=>Bb xs D.toList)
def rA:AL->Option AE|.none=>AA .non|.bool b=>AA (.bl b)|.int i _=>AA (.int i)|.str x _=>AA (.str x)|.bytes b _=>AA (.byt b)|.float b _=>AA (.flt b)|.ref a=>AA (.ref a)|.type n=>AA (.ty n)|_=>AG
theorem Be.afc(r:Be x u):rA u=AA x:=by cases x with|non=>cases r;rfl|bl _=>cases r;rfl|int _=>obtain⟨t,rfl⟩:=r;rfl|str _=>obtain⟨t,rfl⟩:=r;rfl|byt _=>obtain⟨t,rfl⟩:=r;rfl|flt _=>obtain⟨t,rfl⟩:=r;rfl|ref _=>cases r;rfl|ty _=>cases r;rfl
theorem Be.aac(r:Be x u)(q:Be y u):x=y:=By (r.afc.symm.trans q.afc)
theorem Bb.aac(h:Bb xs D):Bb ys D->xs=ys:=by induction h generalizing ys with|nil=>intro g;cases g;rfl|cons r _ J=>intro g;cases g with|cons U W=>rw[r.aac U,J W]
theorem Ac{K:As}(h:H a=AA (.lst xs)):CD K H a xs:=.inl (.inl h)
theorem Ar{K:As}(h:H a=AA (.tup xs)):Cs K H a xs:=.inl (.inl h)
theorem Aa.bz(I:Aa X D Z H s)(h:CD X.K H a xs):∃its:List AL,Bb xs its/\PlainL s.heap a its.toArray/\xs.length<=Az:=by
 rcases h with h|⟨o,its,n,V,J,U,W,Y,r⟩
 . obtain⟨z,its,n,r,e⟩:_:=h.ok I.cq;show⟨its,r,⟨_,n,e,rfl,rfl,rfl⟩,z⟩
 . show⟨_,r,⟨o,n,I.sj a o V,J,U,by simpa using W⟩,?_⟩;have e:=r.aq;simp_all
theorem Aa.ir(I:Aa X D Y H s)(h:Cs X.K H a xs):∃its:List AL,Bb xs its/\Ve s.heap a its.toArray/\xs.length<=Az:=by
 rcases h with h|⟨o,its,n,U,J,V,W,r⟩
 . obtain⟨z,its,r,p⟩:_:=h.ok I.cq;show⟨its,r,p,z⟩
 . show⟨_,r,⟨o,I.sj a o U,J,n,by simpa using V⟩,?_⟩;have e:=r.aq;simp_all
theorem Aa.yj(I:Aa X V C H s)(h:CD X.K H a xs)(Y:CD X.K H a ys):xs=ys:=by
 lk;obtain⟨Z,r,⟨o,n,e,_,_,d⟩,_⟩:=I.bz h;obtain⟨U,z,⟨B,A,J,_,_,D⟩,_⟩:=I.bz Y;k_in;rw[e]at J;cases J;rw[d]at D;injection D with W _;have:=by simpa using AE2 Array.toList W
 subst this;show r.aac z
abbrev Bp.we(X:Bp)(E:AL->AZ->Prop):Bp:={X with xe:=E}
abbrev Bp.ads(X:Bp):Bp:=X.we λ_ _=>False
theorem Bp.Ok.we{X:Bp}(D:X.Ok)(E:AL->AZ->Prop):(X.we E).Ok:=⟨D.wt,D.ju,D.xf,D.aco,D.ti,D.aac,D.adh,D.acv,D.hd,D.om,D.aeh,D.aem,D.bs,D.abc,D.aas,D.aan,D.rg,D.abq⟩
theorem Bp.Ok.oo{X:Bp}(D:(X.we E).Ok):X.Ok:=⟨D.wt,D.ju,D.xf,D.aco,D.ti,D.aac,D.adh,D.acv,D.hd,D.om,D.aeh,D.aem,D.bs,D.abc,D.aas,D.aan,D.rg,D.abq⟩
theorem Aa.we(I:Aa X D J H s)(E:AL->AZ->Prop):Aa (X.we E) D J H s:=⟨I.ok.we E,I.os,I.mf,I.af,I.yw,I.qm,I.bc,I.kh,I.vz,I.cq,I.gf⟩
theorem Aa.oo(I:Aa (X.we E) D J H s):Aa X D J H s:=⟨I.ok.oo,I.os,I.mf,I.af,I.yw,I.qm,I.bc,I.kh,I.vz,I.cq,I.gf⟩
theorem RH.oo(h:RH (X.we E) V D f s'):RH X V D f s':=by cases f with|next=>obtain⟨J,U,I,q⟩:=h;show⟨J,U,I.oo,q⟩|brk=>obtain⟨J,U,I,q⟩:=h;show⟨J,U,I.oo,q⟩|cont=>obtain⟨J,U,I,q⟩:=h;show⟨J,U,I.oo,q⟩|ret u=>obtain⟨v,J,U,I,r,q⟩:=h;show⟨v,J,U,I.oo,r,q⟩
theorem F1.ads{st:List C2}(h:F1 X.ads st t):F1 X st t:=λJ s U H D I hw=>IA (h _ s U H D (I.we _) hw) (λO O q=>q.oo) λO O z=>HU z
def xK:Cz:=λD J H=>D.nx J H
def Pm(t u:Cz):Cz:=λD J H=>t {D with nx:=u D} J H
theorem Cd:F1 X [] xK:=λO O D H O I h=>dR ⟨D,H,I,h⟩
theorem Ai{st:C2}(Y:Ez X st t)(Z:F1 X J u):F1 X (st::J) (Pm t u):=by intro U s z H D I h;show ADm (Ax (Y _ s z H _ I h) λf s1 q=>?_);cases f with|next=>obtain⟨A,V,W,q⟩:_:=q;show Z _ s1 _ V D W q|ret v=>show q|brk=>show q|cont=>show q
theorem Ab{st:C2}(U:Ez X st t):F1 X [st] t:=by intro J s V H D I h;show ADm (Ax (U _ s V H D I h) λf s1 q=>?_);cases f with|next=>show dR q|ret v=>show q|brk=>show q|cont=>show q
theorem Aa.adu(I:Aa X D J H s):interactive X.ae=AR:=by simp[interactive,I.ok.ju]
def xE(V:Av):Cz:=λD J H=>V J H λO U=>D.nx J U
theorem D8(Z:Al X e B)(z:OZ e AG J.line X.ae=Bn AR:=by rfl):Ez X (.Expr e J) (xE B):=by intro U s V H D I h;show wpAny_Expr_any (Ax (Z _ s V H _ I h) λv s1⟨x,W,Y,r1,A⟩=>⟨V,W,Y,A⟩) I.adu z
def xP(J:Av):Cz:=λD U H=>J U H D.rt
theorem BD(Z:Al X e B):Ez X (.Return (AA e) z) (xP B):=by intro U s V H D I h;show wpAny_Return_some (Ax (Z _ s V H _ I h) λv s1 J=>?_);obtain⟨x,W,Y,r1,A⟩:_:=J;show⟨x,V,W,Y,r1,A⟩
def xI(c:Dg)(t u:Cz):Cz:=λD J H=>c J H λb U=>if b=AK then t D J U else u D J U
theorem CF(C:HI X c z)(A:F1 X a t)(B:F1 X b u):Ez X (.If c a b E) (xI z t u):=by intro Y s U H D I h;show wpAny_If (Ax (C _ s U H _ I h) λd s1 J=>?_);obtain⟨V,W,Z⟩:_:=J;cases d with|true=>show A _ s1 U V D W Z|false=>show B _ s1 U V D W Z
abbrev Eh:=AE->Ah->AH->(Ah->AH->Prop)->Prop
abbrev Lj:=List AE->Ah->AH->(Ah->AH->Prop)->Prop
def Kx(X:Bp)(D:BN)(t:Eh):Prop:=∀(J:List (AB×BR))(s:AZ)(Y:Ah)(H:AH)(v:AE)(u:AL)(Q:Ah->AH->Prop),Aa X J Y H s->Be v u->t v Y H Q->A1 (Ao X.ai X.w) X.A (assign D X.ae u) (λO Z=>Lk (λU W=>Aa X J U W Z) (λU W=>Q U W)) X.xe s
def PH(X:Bp)(A:List BN)(t:Lj):Prop:=∀(D:List (AB×BR))(s:AZ)(Z:Ah)(H:AH)(Y:List AE)(W:List AL)(Q:Ah->AH->Prop),Aa X D Z H s->Bb Y W->t Y Z H Q->A1 (Ao X.ai X.w) X.A (assignInOrder ((QD A X.ae).map (·.2)) W) (λO z=>Lk (λJ U=>Aa X D J U z) (λJ U=>Q J U)) X.xe s
def Gy(i:Nat):Eh:=λv D H Q=>Q (D.set i (AA v)) H
theorem Jj(U:X.N.Nodup)(hi:X.N[i]?=AA x)(W:Li X.ae.scope x)(V:X.fn x=AK\/X.ae.scope.names.lookup x=AA .local:=by first|show .inl rfl|show .inr rfl|assumption):Kx X (.Name x Y) (Gy i):=by intro D s z H v u Q I r h;show ADj (aE I U hi W r (λZ J=>⟨_,H,J,h⟩) V)
def ZL:Lj:=λD J H Q=>D=[]/\Q J H
def Ue(t:Eh)(u:Lj):Lj:=λU V H Q=>Lk (λv r=>U=v::r) (λv r=>t v V H λD J=>u r D J Q)
theorem Jk:PH X [] ZL:=by intro D s J H V U Q I r h;obtain⟨e,h⟩:=h;subst e;show assignInOrder_nil ⟨J,H,I,h⟩
theorem Eb(Z:Kx X e t)(z:PH X J u)(A:(QD (e::J) X.ae).map (·.2)=assign e X.ae::(QD J X.ae).map (·.2):=by rfl):PH X (e::J) (Ue t u):=by intro U s E H L G Q I r h;obtain⟨v,K,Y,h⟩:_:=h;subst Y;cases r with|cons r C=>rw[A];show assignInOrder_cons (Ax (Z _ s E H _ _ _ I r h) λO s1 D=>?_);obtain⟨F,V,W,B⟩:_:=D;show z _ s1 _ V _ _ Q W C B
def Ug(K:As)(n:Nat)(t:Lj):Eh:=λv J H Q=>JG (λa D=>v=.ref a) (λa D=>Cs K H a D) (λO D=>D.length=n) (λO D=>t D J H Q)
theorem Zy(Z:X.je=AK)(h:PH X D t)(A:(QD D X.ae).length=n:=by rfl)(J:(QD D X.ae).findIdx? (·.1)=AG:=by rfl):Kx X (.Tuple D k G) (Ug X.K n t):=by intro U s L H v u Q I r hw;obtain⟨a,K,Y,B,z,hw⟩:_:=hw;subst Y;lk;cases r;obtain⟨F,V,C,N⟩:=I.ir B;k_in;show assign_Tuple_tuple (I.ok.hd Z) C (by simp[A,<-z,V.aq]) J λM E=>?_;have W:=I.iq (t':=s.toks) λb o e=>E b o (ET (Ct e)) e;show h _ _ L H K _ Q W (by simpa using V) hw
def Rw(V:Av)(g:Eh):Cz:=λD J H=>V J H λx U=>g x J U D.nx
theorem KQ(A:X.N.Nodup)(hi:X.N[i]?=AA x)(F:Li X.ae.scope x)(B:Al X e W)(E:OZ e (AA (.Name x J)) U.line X.ae=Bn AR:=by rfl)(C:X.fn x=AK\/X.ae.scope.names.lookup x=AA .local:=by first|show .inl rfl|show .inr rfl|assumption):Ez X (.Assign [.Name x J] e U) (Rw W (Gy i)):=by intro V s K H D I h;show wpAny_Assign_Name (Ax (B _ s K H _ I h) λv s1⟨y,Y,Z,r1,G⟩=>?_) E;show aE Z A hi F r1 (λs2 z=>⟨_,Y,z,G⟩) C
def aW(c:Dg)(z:Cz):Cz:=λD J H=>∃W:Nat->Ah->AH->Prop,(∃m,W m J H)/\∀m J H,W m J H->c J H λb Y=>if b=AK then∃N:Ah->AH->Prop,(∀U V,N U V->∃Z,Z<m/\W Z U V)/\z {D with nx:=N,ct:=N,bk:=D.nx} J Y else D.nx J Y
theorem vQ(Q:PassesOwn (Ao X.ai X.w) X.A X.ae X.xe)(g:HI X c T)(e:F1 X body S):Ez X (.While c body [] j) (aW T S):=by intro R s o H D I h;obtain⟨W,⟨i,l⟩,turn⟩:_:=h;show wpAny_While (codeAny_whileLoop (λn k=>∃Y K,Aa X _ Y K k/\W n Y K) ?_ i ⟨o,H,I,l⟩);intro n s1 d;obtain⟨G,L,a,m⟩:_:=d;show QP Q (Ax (g _ s1 _ L _ a (turn n _ L m)) λb s2 V=>?_);obtain⟨M,O,Z⟩:_:=V;cases b with
 |true=> obtain⟨N,P,Z⟩:_:=Z;show QP Q (Ax (e _ s2 _ M _ O Z) λf s3 z=>?_);cases f with
  |next=> lk;obtain⟨J,U,A,E⟩:=z;obtain⟨C,B,F⟩:=P _ U E;k_in;show⟨C,B,J,U,A,F⟩|cont=> lk;obtain⟨J,U,A,E⟩:=z;obtain⟨C,B,F⟩:=P _ U E;k_in;show⟨C,B,J,U,A,F⟩|brk=>show z|ret v=>show z
 |false=>show dR ⟨G,M,O,Z⟩
structure GL where
 go:Nat->AH->Prop
 aaj:Nat->AH->AE->AH->Prop
 ux:Nat->AH->Prop
def Je(X:Bp)(D:List (AB×BR))(H:AH)(b:AB):Prop:=H b=AG/\b≠X.ae.locals/\b∉X.fs/\(b∈X.ex\/X.s₀.heap.objs.size<=b)/\(∀x c,X.ae.cells.lookup x=AA c->c≠b)/\∀p∈X.pn++D,p.1≠b
theorem Aa.uw(I:Aa X D W H s)(J:s.heap.objs.size<=b)(U:H' b=AG):Je X D H' b:=by
 show⟨U,M5 (BY I.lt J),I.aet J,.inr (Ag I.sz J),λx c e z=>?_,λp V z=>?_⟩;. obtain⟨v,q⟩:=I.qm x c e;show absurd (BY q.lt (by rw[z];show J)) (Ht _)
 .show absurd (BY (Ct (I.vz p V).1) (by rw[z];show J)) (Ht _)
structure K4(P:Co)(w:CC)(K:As)(tg:BN)(J:GL)(fp:List AB)(it:AB)(tn:Nat->BZ->Prop):Prop where
 abt:it∈fp
 au:∀i h,tn i h->∀b∈fp,∃o,h.get? b=AA o/\∀v,o.data≠.cell v
 ab:∀i h h',tn i h->(∀b∈fp,∀o,h.get? b=AA o->h'.get? b=AA o)->tn i h'
 vy:∀(X:Bp),X.ai=P->X.w=w->X.K=K->X.je=AK->∀(i:Nat)(pins:List (AB×BR))(s:AZ)(σ:Ah)(H:AH)(E:AL->AZ->Prop),Aa X pins σ H s->(∀b∈fp,Je X pins H b)->tn i s.heap->J.go i H->A1 (Ao P w) X.A (pyNext (.ref it)) (λr s1=>∃u,r=AA u/\A1 (Ao P w) X.A (AAV tg (.ref it) u) (λ_ s2=>∃x H',Aa X pins σ H' s2/\Be x u/\J.aaj i H x H'/\tn (i+1) s2.heap/\∀b∈fp,H' b=AG) E s1) E s
 vx:∀(X:Bp),X.ai=P->X.w=w->X.K=K->X.je=AK->∀(i:Nat)(pins:List (AB×BR))(s:AZ)(σ:Ah)(H:AH)(E:AL->AZ->Prop),Aa X pins σ H s->(∀b∈fp,Je X pins H b)->tn i s.heap->J.ux i H->A1 (Ao P w) X.A (pyNext (.ref it)) (λr s1=>r=AG/\Aa X pins σ H s1) E s
 xi:∀(A:DV)(i:Nat)(s:AZ)(Q:AL->AZ->Prop)(E:AL->AZ->Prop),tn i s.heap->Q (.ref it) s->A1 (Ao P w) A (dN (.ref it)) Q E s
abbrev F3:=Ah->AH->(GL->AH->Prop)->Prop
def UM(X:Bp)(D:List (AB×BR))(A:Ah)(z:BN)(R:GL->AH->Prop)(Z:AL)(s2:AZ):Prop:=Yq (λ(Y:AB)(V:List AB)(W:Nat->BZ->Prop)(J:GL)(U:AH)=>Z=.ref Y) (λO O O O U=>Aa X D A U s2) (λY V W J O=>K4 X.ai X.w X.K z J V Y W) (λO O W O O=>W 0 s2.heap) (λO V O O U=>(∀b∈V,Je X D U b)) (λO O O J U=>R J U)
def GN(X:Bp)(V J:BN)(wi:F3):Prop:=∀(D:List (AB×BR))(s:AZ)(U:Ah)(H:AH)(R:GL->AH->Prop),Aa X D U H s->wi U H R->A1 (Ao X.ai X.w) X.A (Ba J X.ae) (λv s1=>A1 (Ao X.ai X.w) X.A (dN v) (UM X D U V R) X.xe s1) X.xe s
theorem Mm(Y:s.heap.get? it=AA o)(U:o.cls=.type n)(V:o.data=.fields vs)(W:["enumerate","zip","dict_itemiterator","dict_reverseitemiterator","odict_iterator","itertools.zip_longest","itertools.pairwise"].contains n=AR)(D:Q () s):A1 M A (AAV J (.ref it) u) Q E s:=by cases J<;>first|show Cq D|(cases u<;>first|show Cq D| (show BI (wpAny_load Y ?_);rw[U,V];change A1 M A (if(["enumerate","zip","dict_itemiterator","dict_reverseitemiterator","odict_iterator","itertools.zip_longest","itertools.pairwise"].contains n&&vs[0]?==AA _)=AK then _ else _) Q E s;rw[AEz (by intro h;rw[W]at h;cases h)];show Cq D))
def Kw(K:As)(a:AB):GL:=⟨λi H=>∃D x,CD K H a D/\D[i]?=AA x,λi H x J=>J=H/\∀D,CD K H a D->D[i]?=AA x,λi H=>GO (λD=>CD K H a D) (λD=>D.length<=i)⟩
def Lh(lo:Int)(n:Nat):GL:=⟨λi O=>i<n,λi H x D=>D=H/\x=.int (lo+i),λi O=>n<=i⟩
theorem xX{K:As}(a it:AB):K4 P w K r (Kw K a) [it] it (λi h=>h.IsListIter it a i)where
 abt:=by simp
 au:=λi h D b J=>by
  have e:b=it:=by simpa using J
  subst e;obtain⟨o,e,c,d⟩:_:=D;show⟨o,e,λv z=>by rw[d]at z;cases z⟩
 ab:=λi h R D k=>D.at λo e=>k it (by simp) o e
 vy:=by intro X L hw G S i U s y H E I W D M;subst L hw G;lk;obtain⟨t,x,Y,N⟩:=M;obtain⟨O,Q,p,m⟩:=I.bz Y;obtain⟨u,j,n⟩:=Q.xc N;obtain⟨Z,A,g,B,C,F⟩:=W it (by simp);k_in;show wpAny_pyNext_list_item D p.isList (x:=u) (by simpa using j) λR V q=>?_;have T:=I.fo (t':=s.toks) (λb o J e=>(q.2 b J).trans e) Z A B C F;obtain⟨o,e,c,d⟩:_:=id V;show⟨u,rfl,Mm e c d (by decide) ⟨x,H,T,n,⟨rfl,λys l=>by rw[I.yj l Y];show N⟩,V,λb J=>(W b J).1⟩⟩
 vx:=by intro X L hw G S i U s y H E I W D M;subst L hw G;lk;obtain⟨t,Y,N⟩:=M;obtain⟨O,Q,p,m⟩:=I.bz Y;obtain⟨Z,A,g,B,C,F⟩:=W it (by simp);k_in;have hl:=Q.aq;show wpAny_pyNext_list_end (I.ok.hd S) D p.isList (by simp;simp_all) λR f=>⟨rfl,I.fo (λb o J e=>f b o J e) Z A B C F⟩
 xi:=λ_ _ _ _ _ D h=>wpAny_pyIter_listiter D h
theorem xY{K:As}(it:AB)(lo:Int)(n:Nat):K4 P w K d (Lh lo n) [it] it (λi h=>cW h it (lo+(i:Nat)*1) ((n:Int)-(i:Nat)) 1)where
 abt:=by simp
 au:=λi h D b U=>by
  have e:b=it:=by simpa using U
  subst e;show⟨_,D,λv z=>by have g:=z;cases g⟩
 ab:=λi h G D k=>k it (by simp) _ D
 vy:=by intro X O hw N L i J s Q H E I Y D M;subst O hw N;obtain⟨Z,A,T,B,C,F⟩:_:=Y it (by simp);have W:=ADQ (prog:=X.ai) (w:=X.w) (I.ok.hd L) it lo 1 n;show W.item i s _ _ M D λv G f a V c=>?_;obtain⟨t,rfl⟩:=a;have R:Aa X J Q H {s with heap:=G,toks:=f}:=I.fo (λb o U e=>c b o (by simpa using U) e) Z A B C F;show⟨_,rfl,Mm V rfl rfl (by decide) ⟨.int (lo+i),H,R,⟨t,?_⟩,⟨rfl,rfl⟩,V,λb U=>(Y b U).1⟩⟩;rw[Int.mul_one]
 vx:=by intro X O hw N L i J s Q H E I Y D M;obtain⟨Z,A,T,B,C,F⟩:_:=Y it (by simp);show ADt (I.ok.hd L) D (by have:=M;show ABN (Sl.mp this)) λG S=>⟨rfl,I.fo (λb o U e=>S b o U e) Z A B C F⟩
 xi:=λ_ _ _ _ _ D h=>ADs D h
def RW(K:As)(J:Av):F3:=λV H R=>J V H λx D=>JF (λa=>x=.ref a) (λa=>(∃U,CD K D a U)) (λa=>R (Kw K a) D)
theorem vI(Z:Al X l V):GN X G l (RW X.K V):=by
 intro U s C H R I h;show Ax (Z _ s C H _ I h) λv s1 D=>?_;lk;obtain⟨x,W,J,r1,B⟩:=D;obtain⟨a,e,⟨K,z⟩,q⟩:=B;k_in;subst e;lk;cases r1;obtain⟨A,F,p,E⟩:=J.bz z;k_in;show wpAny_pyIter_list p.isList ?_;show⟨_,_,_,_,W,rfl,J.iq λb o e=>C1 _ e,xX a _,⟨_,F7 _ rfl,rfl,rfl⟩,λb Y=>?_,q⟩;have e:=by simpa using Y
 subst e;show J.uw (Aj _) (J.cq.cj (Aj _))
theorem Z6{lo:Int}(I:Aa X D U H s)(Z:-(2^62)<=lo)(z:lo<2^62)(A:-(2^62)<=hi)(B:hi<2^62)(q:R (Lh lo (hi-lo).toNat) H):A1 (Ao X.ai X.w) X.A (dN (.ref s.heap.objs.size)) (UM X D U F R) E {s with heap:=s.heap.push {cls:=.type "range",data:=.fields #[.int lo t,.int hi u,.int 1 v]},toks:=V}:=by
  show ADr (zV ..) (small_one Z z A B) ?_;have J:Aa X _ U H {s with heap:=s.heap.push {cls:=.type "range",data:=.fields #[.int lo t,.int hi u,.int 1 v]},toks:=V}:=I.iq λb o e=>C1 _ e;show⟨_,_,_,_,H,rfl,J.iq λb o e=>C1 _ e,xY _ lo _,?_,λb C=>?_,q⟩
  . have W:lo+((0:Nat))*1=lo:=by simp
    have Y:(((hi-lo).toNat:Nat))-((0:Nat))=cO lo hi 1:=by rw[rangeSize_one];split<;>lia
    change cW _ _ _ _ 1;rw[W,Y];show F7 _ rfl
  . have e:b=(s.heap.push {cls:=.type "range",data:=.fields #[.int lo t,.int hi u,.int 1 v]}).objs.size:=by simpa using C
    subst e;show J.uw (Aj _) (J.cq.cj (Aj _))
def sY(J:Fi):F3:=λV H R=>J V H λU D=>Ym (λ(j:Int)=>U=[.int j]) (λj=>-(2^62)<=j) (λj=>j<2^62) (λj=>R (Lh 0 j.toNat) D)
def sZ(J:Fi):F3:=λV H R=>J V H λU D=>E2 (λ(i j:Int)=>U=[.int i,.int j]) (λi j=>(-(2^62)<=i/\i<2^62/\-(2^62)<=j/\j<2^62)) (λi j=>R (Lh i (j-i).toNat) D)
theorem N8(Z:Ge X "range")(z:X.mg "range"=AG)(Y:Gf X [a] V)(A:Cp [a] X.ae=[(AR,Ba a X.ae)]:=by rfl):GN X G (.Call (.Name "range" p) [a] [] D) (sY V):=by intro U s E H R I h;show Vd (KN I Z z cH (P6 (Ax (Y _ _ s E H _ I h) λK s1⟨L,F,W,r1,J⟩=>?_) A rfl));obtain⟨j,e,J,B,q⟩:_:=J;subst e;cases r1 with|cons r C=>lk;cases C;obtain⟨t,rfl⟩:=r;k_in;show call_range_1 (Z6 W (by simp) (by simp) J B (by simpa using q))
theorem vJ(A:Ge X "range")(B:X.mg "range"=AG)(z:Gf X [a,b] Y)(C:Cp [a,b] X.ae=[(AR,Ba a X.ae),(AR,Ba b X.ae)]:=by rfl)(D:Cp [b] X.ae=[(AR,Ba b X.ae)]:=by rfl):GN X O (.Call (.Name "range" p) [a,b] [] J) (sZ Y):=by intro W s L H R I h;show Vd (KN I A B cH (P6 (Ax (z _ _ s L H _ I h) λP s1⟨Q,M,Z,r1,U⟩=>?_) (by rw[C,D]) (by rw[D];rfl)));obtain⟨i,j,e,⟨U,E,F,G⟩,q⟩:_:=U;subst e;cases r1 with|cons r V=>cases V with|cons K V=>lk;cases V;obtain⟨t,rfl⟩:=r;obtain⟨N,rfl⟩:=K;k_in;show call_range_2 (Z6 Z U E F G q)
def xG(wi:F3)(g:Eh)(C:Cz):Cz:=λD U H=>wi U H λJ A=>∃W:Nat->Nat->Ah->AH->Prop,(∃m,W 0 m U A)/\∀i m U H,W i m U H->(J.ux i H/\D.nx U H)\/(J.go i H/\∃N:Ah->AH->Prop,(∀Y V,N Y V->∃z,z<m/\W (i+1) z Y V)/\∀x V,J.aaj i H x V->g x U V λZ B=>C {D with nx:=N,ct:=N,bk:=D.nx} Z B)
def Ro(D:List AB)(h:BZ):List (AB×BR):=D.filterMap λb=>(h.get? b).map λo=>(b,o)
theorem Uo(J:b∈D)(e:h.get? b=AA o):(b,o)∈Ro D h:=ABo.mpr ⟨b,J,by rw[e];rfl⟩
theorem uE(V:p∈Ro D h):p.1∈D/\h.get? p.1=AA p.2:=by obtain⟨b,U,e⟩:_:=ABo.mp V;cases q:h.get? b with|none=>rw[q]at e;cases e|some o=>rw[q]at e;have J:=By e;subst J;show⟨U,q⟩
theorem Aa.aav(I:Aa X D W H s)(B:∀b∈J,Je X D H b)(C:∀b∈J,∃o,s.heap.get? b=AA o/\∀v,o.data≠.cell v):Aa X (D++Ro J s.heap) W H s:=I.jt λp E=>(Ce.mp E).elim (λz=>I.vz p (FE _ z)) λz=>by lk;obtain⟨V,e⟩:=uE z;obtain⟨Y,Z,A,_⟩:=B _ V;obtain⟨o,U,d⟩:=C _ V;k_in;rw[e]at U;cases U;show⟨e,Y,Z,A,d⟩
theorem Aa.vq(I:Aa X (D++V) J H s):Aa X D J H s:=I.jt λp U=>I.vz p (FE _ (Hn _ U))
theorem DB(R:PassesOwn (Ao X.ai X.w) X.A X.ae X.xe)(hc:X.je=AK)(hi:GN X tg B wi)(hg:Kx X tg g)(A:F1 X body tb)(hs:∀x,OW B X.ae x=Bn x:=by intro _;rfl):Ez X (.For tg B body [] t) (xG wi g tb):=by
  intro V s σ H D I h;show wpAny_For (Ax (hi V s σ H _ I h) λv s1 h1=>Ax h1 λitv s2 h2=>?_) hs;obtain⟨it,k,tn,J,H2,e,I2,T,y,f2,W,⟨m0,w0⟩,turn⟩:_:=h2;subst e;have C:∀{G:AH},(∀b∈k,G b=AG)->∀b∈k,Je X V G b:=λhn b A=>⟨hn b A,(f2 b A).2⟩;show codeAny_forLoop_any (λn s'=>∃i E G,Aa X V E G s'/\tn i s'.heap/\(∀b∈k,G b=AG)/\W i n E G) ?_ m0 ⟨0,σ,H2,I2,y,λb A=>(f2 b A).1,w0⟩;intro n s3 hI;obtain⟨i,F,j,I3,a,M,w3⟩:_:=hI;rcases turn i n F j w3 with⟨c,qn⟩|⟨go,N,hN,step⟩
  . show QP R (Ax (T.vx X rfl rfl rfl hc i V s3 F j X.xe I3 (C M) a c) λr s4 O=>?_);obtain⟨q,I4⟩:=O;subst q;show dR ⟨F,j,I4,qn⟩
  . show QP R (Ax (T.vy X rfl rfl rfl hc i V s3 F j X.xe I3 (C M) a go) λr s4 P=>?_);obtain⟨u,q,h4⟩:_:=P;subst q;show QP R (Ax h4 λ_ s5⟨x,H5,I5,r5,y5,L,p⟩=>?_);have l:=I5.aav (C p) (T.au _ _ L);show QP R (Ax (hg _ s5 F H5 x u _ l r5 (step x H5 y5)) λ_ s6 Q=>?_);obtain⟨σ6,H6,I6,q6⟩:_:=Q;show QP R (Ax (A _ s6 σ6 H6 _ I6 q6) λf w K=>?_);have z:∀{U:Ah}{Y:AH},Aa X _ U Y w->N U Y->∃m,m<n/\∃i E G,Aa X V E G w/\tn i w.heap/\(∀b∈k,G b=AG)/\W i m E G:=λ{U Y}Z S=>by obtain⟨m',hm,w7⟩:=hN U Y S;show⟨m',hm,i+1,U,Y,Z.vq,T.ab _ _ _ L λb A o e=>(Z.vz (b,o) (FE _ (FE _ (Uo A e)))).1,λb A=>?_,w7⟩;obtain⟨o,e,d⟩:=T.au _ _ L b A;show(Z.vz (b,o) (FE _ (FE _ (Uo A e)))).2.1
    cases f with |next=>obtain⟨U,Y,Z,S⟩:=K;show z Z S|cont=>obtain⟨U,Y,Z,S⟩:=K;show z Z S|brk=>obtain⟨U,Y,Z,K⟩:=K;show⟨U,Y,Z.vq,K⟩|ret v=>obtain⟨x7,U,Y,Z,r7,K⟩:=K;show⟨x7,U,Y,Z.vq,r7,K⟩
theorem GP{K:As}{a:AB}{xs:List AE}{g:Eh}{E:Cz}{D:HH}{J:Ah}{H:AH}(Y:Nat->Ah->AH->Prop)(F:Y 0 J H)(L:∀i J H,i<=xs.length->Y i J H->CD K H a xs)(M:∀i x J H,xs[i]?=AA x->Y i J H->g x J H λz A=>E {D with nx:=Y (i+1),ct:=Y (i+1),bk:=D.nx} z A)(I:∀J H,Y xs.length J H->D.nx J H):∃W:Nat->Nat->Ah->AH->Prop,(∃m,W 0 m J H)/\∀i m J H,W i m J H->((Kw K a).ux i H/\D.nx J H)\/((Kw K a).go i H/\∃N:Ah->AH->Prop,(∀Z H',N Z H'->∃C,C<m/\W (i+1) C Z H')/\∀x H',(Kw K a).aaj i H x H'->g x J H' λz A=>E {D with nx:=N,ct:=N,bk:=D.nx} z A):=by
 show⟨λi m J H=>m=xs.length-i/\i<=xs.length/\Y i J H,⟨xs.length,by simp,Bc _,F⟩,?_⟩;intro i m J H G;obtain⟨rfl,B,p⟩:_:=G;have q:=L i J H B p;by_cases U:i<xs.length
 . show .inr ⟨⟨xs,xs[i],q,by simp[U]⟩,_,λZ H' O=>⟨_,Hv _ _ U,rfl,U,O⟩,λx H' y=>?_⟩;obtain⟨e,y⟩:=y;subst e;show M i x J _ (y xs q) p
 . have e:=Ec B (FQ U);subst e;show .inl ⟨⟨xs,q,Aj _⟩,I J H p⟩
theorem Nv{lo:Int}{n:Nat}{g:Eh}{B:Cz}{D:HH}{J:Ah}{H:AH}(Z:Nat->Ah->AH->Prop)(C:Z 0 J H)(I:∀i J H,i<n->Z i J H->g (.int (lo+i)) J H λY z=>B {D with nx:=Z (i+1),ct:=Z (i+1),bk:=D.nx} Y z)(F:∀J H,Z n J H->D.nx J H):∃W:Nat->Nat->Ah->AH->Prop,(∃m,W 0 m J H)/\∀i m J H,W i m J H->((Lh lo n).ux i H/\D.nx J H)\/((Lh lo n).go i H/\∃N:Ah->AH->Prop,(∀V H',N V H'->∃A,A<m/\W (i+1) A V H')/\∀x H',(Lh lo n).aaj i H x H'->g x J H' λY z=>B {D with nx:=N,ct:=N,bk:=D.nx} Y z):=by
 show⟨λi m J H=>m=n-i/\i<=n/\Z i J H,⟨n,by simp,Bc _,C⟩,?_⟩;intro i m J H E;obtain⟨rfl,G,p⟩:_:=E;by_cases U:i<n
 . show .inr ⟨U,_,λV H' K=>⟨_,Hv _ _ U,rfl,U,K⟩,λx H' y=>?_⟩;obtain⟨e,y⟩:=y;subst e y;show I i J _ U p
 . have e:=Ec G (FQ U);subst e;show .inl ⟨Aj _,F J H p⟩
theorem yG(W:Ah->AH->Prop)(Z:Ah->AH->Nat)(B:W J H)(C:∀J H,W J H->c J H λb V=>if b=AK then A {D with nx:=λU H'=>W U H'/\Z U H'<Z J H,ct:=λU H'=>W U H'/\Z U H'<Z J H,bk:=D.nx} J V else D.nx J V)(Y:∀J H Q z,(∀b V,Q b V->z b V)->c J H Q->c J H z):aW c A D J H:=by show⟨λm J H=>m=Z J H/\W J H,⟨_,rfl,B⟩,?_⟩;rintro m J H⟨rfl,p⟩;show Y J H _ _ (λb V q=>?_) (C J H p);cases b with|true=>show⟨_,λU H'⟨E,l⟩=>⟨_,l,rfl,E⟩,q⟩|false=>show q
abbrev EF:=AE->AE->AH->Bf->Prop
def CP(X:Bp)(f:AL->AL->D4 AL)(r:EF):Prop:=∀(D:List (AB×BR))(s:AZ)(J:Ah)(H:AH)(x y:AE)(v u:AL)(Q:Bf),Aa X D J H s->Be x v->Be y u->r x y H Q->A1 (Ao X.ai X.w) X.A (f v u) (Fh X D J Q) X.xe s
def RM(X:Bp)(f:AL->D4 AL)(r:AE->AH->Bf->Prop):Prop:=∀(D:List (AB×BR))(s:AZ)(J:Ah)(H:AH)(x:AE)(v:AL)(Q:Bf),Aa X D J H s->Be x v->r x H Q->A1 (Ao X.ai X.w) X.A (f v) (Fh X D J Q) X.xe s
def FX(X:Bp)(f:AL)(r:List AE->AH->Bf->Prop):Prop:=∀(D:List (AB×BR))(s:AZ)(W:Ah)(H:AH)(U:List AE)(J:List AL)(Q:Bf),Aa X D W H s->Bb U J->r U H Q->A1 (Ao X.ai X.w) X.A (Ig f J) (Fh X D W Q) X.xe s
def LC(r:EF)(V W:Av):Av:=λD H Q=>V D H λx J=>W D J λy U=>r x y U Q
def xR(r:AE->AH->Bf->Prop)(J:Av):Av:=λU H Q=>J U H λx D=>r x D Q
def OB(C:Int->Int->Prop)(g:Int->Int->AE):EF:=λx y H Q=>JG (λi j=>x=.int i) (λO j=>y=.int j) (λi j=>C i j) (λi j=>Q (g i j) H)
def L4(g:Int->Int->AE):EF:=λx y H Q=>E2 (λi j=>x=.int i) (λO j=>y=.int j) (λi j=>Q (g i j) H)
def Z5(g:Int->AE):AE->AH->Bf->Prop:=λx H Q=>GO (λi=>x=.int i) (λi=>Q (g i) H)
theorem UT{K L:Av}(B:Al X a K)(C:Al X b L){R:AE->AE->AH->Prop}(I:Aa X D U H s)(h:K U H λx Z=>L U Z λy J=>R x y J){f:AL->AL->D4 AL}(E:∀v u s2 x y J,Aa X D U J s2->Be x v->Be y u->R x y J->A1 (Ao X.ai X.w) X.A (f v u) Q X.xe s2):A1 (Ao X.ai X.w) X.A (Ba a X.ae) (λv W=>A1 (Ao X.ai X.w) X.A (Ba b X.ae) (λu Y=>A1 (Ao X.ai X.w) X.A (f v u) Q X.xe Y) X.xe W) X.xe s:=by show Ax (B _ s U H _ I h) λv s1⟨x,Z,z,r1,F⟩=>?_;show Ax (C _ s1 U Z _ z F) λu s2⟨y,J,A,r2,G⟩=>?_;show E v u s2 x y J A r1 r2 G
theorem AW(Y:CP X (G5 op) r)(V:Al X a B)(W:Al X b C):Al X (.BinOp a op b Z) (LC r B C):=by intro D s E H Q I h;show wpAny_BinOp (UT V W I h λv u s2 x y J U z A q=>Y _ s2 E J x y v u Q U z A q)
theorem vF(z:RM X (unaryOp op) r)(Z:Al X a C):Al X (.UnaryOp op a A) (xR r C):=by intro J s U H Q I h;show UnaryOp_ (Ax (Z _ s U H _ I h) λv s1 D=>?_);obtain⟨x,W,Y,r1,B⟩:_:=D;show z _ s1 U W x v Q Y r1 B
theorem Rj{f:AL->AL->D4 AL}{C:Int->Int->Prop}{g:Int->Int->Int}(D:∀(i j:Int)(t u:JV)(s:AZ)(Q:AL->AZ->Prop)(E:AL->AZ->Prop),C i j->Q (.int (g i j) s.toks) {s with toks:=s.toks+1}->A1 (Ao X.ai X.w) X.A (f (.int i t) (.int j u)) Q E s):CP X f (OB C λi j=>.int (g i j)):=by intro J s Z H x y v u Q I V W h;lk;obtain⟨i,j,rfl,rfl,U,q⟩:=h;obtain⟨t,rfl⟩:=V;obtain⟨Y,rfl⟩:=W;k_in;show D i j t Y s _ _ U ⟨.int _,H,I.ig _,⟨_,rfl⟩,q⟩
theorem Zj{f:AL->AL->D4 AL}{g:Int->Int->Int}(D:∀(i j:Int)(t u:JV)(s:AZ)(Q:AL->AZ->Prop)(E:AL->AZ->Prop),Q (.int (g i j) s.toks) {s with toks:=s.toks+1}->A1 (Ao X.ai X.w) X.A (f (.int i t) (.int j u)) Q E s):CP X f (L4 λi j=>.int (g i j)):=by intro J s Y H x y v u Q I U V h;lk;obtain⟨i,j,rfl,rfl,q⟩:=h;obtain⟨t,rfl⟩:=U;obtain⟨W,rfl⟩:=V;k_in;show D i j t W s _ _ ⟨.int _,H,I.ig _,⟨_,rfl⟩,q⟩
theorem Uu{f:AL->AL->D4 AL}{g:Int->Int->Bool}(D:∀(i j:Int)(t u:JV)(s:AZ)(Q:AL->AZ->Prop)(E:AL->AZ->Prop),Q (.bool (g i j)) s->A1 (Ao X.ai X.w) X.A (f (.int i t) (.int j u)) Q E s):CP X f (L4 λi j=>.bl (g i j)):=by intro J s Y H x y v u Q I U V h;lk;obtain⟨i,j,rfl,rfl,q⟩:=h;obtain⟨t,rfl⟩:=U;obtain⟨W,rfl⟩:=V;k_in;show D i j t W s _ _ ⟨.bl _,H,I,rfl,q⟩
def Ye(i j:Int):Prop:=0<j/\j<1073741824
theorem zzd{i j:Int}(h:decide (0<j/\j<1073741824)=true):Ye i j:=(of_decide_eq_true h:0<j/\j<1073741824)
theorem zzp{j:Int}(h:decide (0<j)=true):0<j:=of_decide_eq_true h
def qP(i j:Int):Prop:=0<=j/\j<=1000000/\i.natAbs<2^64
def UG(i j:Int):Prop:=(-(2^64)<i/\i<2^64)\/(-(2^64)<j/\j<2^64)
theorem UG.ok(h:UG i j):IntMulOk i j:=by
 rcases h with⟨D,J⟩|⟨D,J⟩;.show .of_left (ADa D J)
 .show .of_right (ADa D J)
theorem Zk:CP X (G5 .Add) (L4 λi j=>.int (i+j)):=Zj λO O O O O O O q=>add_int q
theorem Uz:CP X (G5 .Sub) (L4 λi j=>.int (i-j)):=Zj λO O O O O O O q=>sub_int q
theorem uN:CP X (G5 .Mult) (OB UG λi j=>.int (i*j)):=Rj λO O O O O O O D q=>mul_int q D.ok
theorem uH:CP X (G5 .FloorDiv) (OB Ye λi j=>.int (i/j)):=Rj λi j O O O O O J q=>by have D:(0:Int)<j:=J.1;have U:j<1073741824:=J.2;show floordiv_int (JW D) (by rw[Int.fdiv_eq_ediv_of_nonneg i (Kb D)];show q) (.inl (zN (by grind)))
theorem uM:CP X (G5 .Mod) (OB (λO j=>0<j) λi j=>.int (i%j)):=Rj λi j O O O O O D q=>by show mod_int' (JW D) (by rw[Int.fmod_eq_emod_of_nonneg i (Kb D)];show q)
theorem Uy:CP X (G5 .Pow) (OB qP λi j=>.int (i^j.toNat)):=Rj λO O O O O O O D q=>pow_int_small D.1 D.2.1 D.2.2 q
theorem yA{f:AL->D4 AL}{g:Int->Int}(D:∀(i:Int)(t:JV)(s:AZ)(Q:AL->AZ->Prop)(E:AL->AZ->Prop),Q (.int (g i) s.toks) {s with toks:=s.toks+1}->A1 (Ao X.ai X.w) X.A (f (.int i t)) Q E s):RM X f (Z5 λi=>.int (g i)):=by intro J s V H x v Q I U h;lk;obtain⟨i,rfl,q⟩:=h;obtain⟨t,rfl⟩:=U;k_in;show D i t s _ _ ⟨.int _,H,I.ig _,⟨_,rfl⟩,q⟩
theorem yB:RM X (unaryOp .USub) (Z5 λi=>.int (-i)):=yA λO O O O O q=>neg_int q
def aC:AE->AE->Bool|.non,.non=>AK|.non,.int _=>AK|.int _,.non=>AK|.non,.bl _=>AK|.bl _,.non=>AK|.non,.str _=>AK|.str _,.non=>AK|.int _,.int _=>AK|.bl _,.bl _=>AK|.str _,.str _=>AK|.byt _,.byt _=>AK|.int _,.str _=>AK|.str _,.int _=>AK|.bl _,.str _=>AK|.str _,.bl _=>AK|_,_=>AR
def vT:EF:=λx y H Q=>aC x y=AK/\Q (.bl (Ae (x=y))) H
def vY:EF:=λx y H Q=>aC x y=AK/\Q (.bl (!Ae (x=y))) H
theorem ZC:Ae (AE.int i=AE.int j)=(i==j):=by rw[Vv];simp
theorem Y9:Ae (AE.bl i=AE.bl j)=(i==j):=by rw[Vv];simp
theorem ZD:Ae (AE.str i=AE.str j)=(i==j):=by rw[Vv];simp
theorem ZA:Ae (AE.byt i=AE.byt j)=(i.toList==j.toList):=by rw[Vv];lk;cases i;cases j;k_in;simp
theorem Dt(I:Aa X D U H s)(q:Q (.bl k) H)(e:k=J):Fh X D U Q (.bool J) s:=by subst e;show⟨.bl k,H,I,rfl,q⟩
theorem DH:CP X (Ej .Eq) vT:=by intro pins s σ H x y v u Q I rx ry h;obtain⟨hs,q⟩:=h;cases x with
 |non=> cases rx;cases y with |non=>cases ry;show AES (Dt I q (by simp))|bl j=>cases ry;show AEQ (Dt I q (by simp))|int j=>obtain⟨t',rfl⟩:=ry;show AER (Dt I q (by simp))|str j=>obtain⟨t',rfl⟩:=ry;show AET (Dt I q (by simp))|_=>show absurd (show AR=AK from hs) Dx
 |bl i=> cases rx;cases y with |non=>cases ry;show AEO (Dt I q (by simp))|bl j=>cases ry;show eq_bool (Dt I q Y9)|str j=>obtain⟨t',rfl⟩:=ry;show AEG (Dt I q (by simp))|_=>show absurd (show AR=AK from hs) Dx
 |int i=> obtain⟨t,rfl⟩:=rx;cases y with |non=>cases ry;show AEP (Dt I q (by simp))|int j=>obtain⟨t',rfl⟩:=ry;show eq_int (Dt I q ZC)|str j=>obtain⟨t',rfl⟩:=ry;show AEH (Dt I q (by simp))|_=>show absurd (show AR=AK from hs) Dx
 |str i=> obtain⟨t,rfl⟩:=rx;cases y with |non=>cases ry;show AEU (Dt I q (by simp))|bl j=>cases ry;show AEI (Dt I q (by simp))|int j=>obtain⟨t',rfl⟩:=ry;show AEJ (Dt I q (by simp))|str j=>obtain⟨t',rfl⟩:=ry;show eq_str (Dt I q ZD)|_=>show absurd (show AR=AK from hs) Dx
 |byt i=> obtain⟨t,rfl⟩:=rx;cases y with |byt j=>obtain⟨t',rfl⟩:=ry;show W.eq_bytes (Dt I q ZA)|_=>show absurd (show AR=AK from hs) Dx
 |_=>cases y<;>show absurd (show AR=AK from hs) Dx
theorem Zm:CP X (Ej .NotEq) vY:=by intro pins s σ H x y v u Q I rx ry h;obtain⟨hs,q⟩:=h;cases x with
 |non=>cases rx;cases y with |non=>cases ry;show AEZ (Dt I q (by simp))|bl j=>cases ry;show AEX (Dt I q (by simp))|int j=>obtain⟨t',rfl⟩:=ry;show AEY (Dt I q (by simp))|str j=>obtain⟨t',rfl⟩:=ry;show AEa (Dt I q (by simp))|_=>show absurd (show AR=AK from hs) Dx
 |bl i=>cases rx;cases y with |non=>cases ry;show AEV (Dt I q (by simp))|bl j=>cases ry;show ne_bool (Dt I q (AE2 not Y9))|str j=>obtain⟨t',rfl⟩:=ry;show AEK (Dt I q (by simp))|_=>show absurd (show AR=AK from hs) Dx
 |int i=> obtain⟨t,rfl⟩:=rx;cases y with |non=>cases ry;show AEW (Dt I q (by simp))|int j=>obtain⟨t',rfl⟩:=ry;show ne_int (Dt I q (AE2 not ZC))|str j=>obtain⟨t',rfl⟩:=ry;show AEL (Dt I q (by simp))|_=>show absurd (show AR=AK from hs) Dx
 |str i=> obtain⟨t,rfl⟩:=rx;cases y with |non=>cases ry;show AEb (Dt I q (by simp))|bl j=>cases ry;show AEM (Dt I q (by simp))|int j=>obtain⟨t',rfl⟩:=ry;show AEN (Dt I q (by simp))|str j=>obtain⟨t',rfl⟩:=ry;show ne_str (Dt I q (AE2 not ZD))|_=>show absurd (show AR=AK from hs) Dx
 |byt i=> obtain⟨t,rfl⟩:=rx;cases y with |byt j=>obtain⟨t',rfl⟩:=ry;show W.ne_bytes (Dt I q (AE2 not ZA))|_=>show absurd (show AR=AK from hs) Dx
 |_=>cases y<;>show absurd (show AR=AK from hs) Dx
theorem uK:CP X (Ej .Lt) (L4 λi j=>.bl (Ae (i<j))):=Uu λO O O O O O O q=>zK q
theorem Ux:CP X (Ej .LtE) (L4 λi j=>.bl (Ae (i<=j))):=Uu λO O O O O O O q=>le_int q
theorem Zl:CP X (Ej .Gt) (L4 λi j=>.bl (Ae (j<i))):=Uu λO O O O O O O q=>gt_int q
theorem uJ:CP X (Ej .Is) (λx y H Q=>y=.non/\Q (.bl (Ae (x=.non))) H):=by intro D s V H x y v u Q I J U h;lk;obtain⟨rfl,q⟩:=h;cases U;k_in;show is_none_gen (Dt I q ?_);cases x<;>first|(rfl)|(obtain⟨t,rfl⟩:=J;rfl)
theorem uR:CP X (Ej .IsNot) (λx y H Q=>y=.non/\Q (.bl (!Ae (x=.non))) H):=by intro D s V H x y v u Q I J U h;lk;obtain⟨rfl,q⟩:=h;cases U;k_in;show isnot_none_gen (Dt I q ?_);cases x<;>first|(cases J;rfl)|(obtain⟨t,rfl⟩:=J;rfl)
theorem Bs(b:BN)(h:op≠.In:=by decide)(U:op≠.NotIn:=by decide):QF op b=AR:=by
 have D:(op==ACX)=AR:=by cases op<;>first|rfl|show absurd rfl h
 have J:(op==ACY)=AR:=by cases op<;>first|rfl|show absurd rfl U
 cases b<;>simp[QF,D,J]
theorem Mp(Z:CP X (Ej op) r)(V:Al X a C)(W:Al X b E)(Y:QF op b=AR):Al X (.Compare a [op] [b] z) (LC r C E):=by intro D s F H Q I h;show wpAny_Compare1 (UT V W I h λv u s2 x y J U A B q=>Z _ s2 F J x y v u Q U A B q) Y
def aT(t:Av):Dg:=λJ H Q=>t J H λx D=>GO (λk=>x=.bl k) (λk=>Q k D)
theorem Bw(F:CP X (Ej op) r)(B:Al X a O)(C:Al X b P)(E:QF op b=AR):HI X (.Compare a [op] [b] G) (aT (LC r O P)):=by intro J s D H Q I h;show ADo (Ax (B _ s D H _ I h) λv s1⟨x,U,Y,r1,K⟩=>Ax (C _ s1 D U _ Y K) λu s2⟨y,V,Z,r2,L⟩=>Ax (F _ s2 D V x y v u _ Z r1 r2 L) λc s3⟨z,W,A,N,k,e,M⟩=>?_) E;subst e;cases N;show Oa ⟨W,A,M⟩
def aL(r Y:EF)(Z A B:Av):Av:=λD H Q=>Z D H λx U=>A D U λy V=>r x y V λz J=>GO (λk=>z=.bl k) (λk=>(if k=AK then B D J λC W=>Y y C W Q else Q (.bl AR) J))
theorem uZ(R:CP X (Ej op) r)(V:CP X (Ej D) B)(M:Al X a l)(N:Al X b m)(O:Al X c n)(P:lastMarks [op,D] [b,c]=AR:=by with_unfolding_all rfl):Al X (.Compare a [op,D] [b,c] S) (aL r B l m n):=by intro Z s U H Q I h;show Compare_chain (Ax (M _ s U H _ I h) λv s1⟨x,C,G,r1,T⟩=>chain_link (Ax (N _ s1 U C _ G T) λu s2⟨y,E,K,r2,f⟩=>Ax (R _ s2 U E x y v u _ K r1 r2 f) λd s3⟨z,W,Y,i,k,e,A⟩=>?_)) P;subst e;cases i;show Oa ?_;cases k with|false=>show ite_ff ⟨.bl _,W,Y,rfl,A⟩| true => show ite_tt (chain_last (Ax (O _ s3 U W _ Y A) λo s4 J=>?_));obtain⟨p,F,L,j,g⟩:_:=J;show V _ s4 U F y p u o Q L r2 j g
theorem vR(f:CP X (Ej op) r)(U:CP X (Ej D) A)(P:Al X a t)(R:Al X b w)(S:Al X c tc)(T:lastMarks [op,D] [b,c]=AR:=by with_unfolding_all rfl):HI X (.Compare a [op,D] [b,c] g) (aT (aL r A t w tc)):=by intro Y s J H Q I h;show isTrue_chain (Ax (P _ s J H _ I h) λv s1⟨x,B,G,r1,j⟩=>test_link (Ax (R _ s1 J B _ G j) λu s2⟨y,C,K,r2,l⟩=>Ax (f _ s2 J C x y v u _ K r1 r2 l) λd s3⟨z,V,W,o,k,e,Z⟩=>?_)) T;subst e;cases o;show Oa ?_;cases k with|false=>lk;obtain⟨k',N,i⟩:=Z;cases N;k_in;show ite_ff ⟨V,W,i⟩|true=>show ite_tt (test_last (Ax (S _ s3 J V _ W Z) λw' s4⟨z',E,L,p,m⟩=>Ax (U _ s4 J E y z' u w' _ L r2 p m) λd' s5⟨z2,F,M,q,k2,O,n⟩=>?_));subst O;cases q;show Oa ⟨F,M,n⟩
theorem PX:(Az:Nat)<2^63:=by decide
theorem Uv:CP X (G5 .Add) (λx y H Q=>∃i j,x=.str i/\y=.str j/\i.length+j.length<=Az/\Q (.str (i++j)) H):=by intro D s Z H x y v u Q I U V h;lk;obtain⟨i,j,rfl,rfl,J,q⟩:=h;obtain⟨t,rfl⟩:=U;obtain⟨W,rfl⟩:=V;k_in;show add_str (λW Y=>⟨.str (i++j),H,I.ig _,⟨_,rfl⟩,q⟩) J
theorem HN(r:Bb [x] D):∃u,D=[u]/\Be x u:=by cases r with|cons r1 r2=>cases r2;show⟨_,rfl,r1⟩
theorem VI(r:Bb [x,y] D):∃u J,D=[u,J]/\Be x u/\Be y J:=by cases r with|cons r1 r2=>cases r2 with|cons U W=>cases W;show⟨_,_,rfl,r1,U⟩
theorem rG(U:X.je=AK):FX X (.builtin "max") (λxs H Q=>∃i j,xs=[.int i,.int j]/\Q (.int (if j>i then j else i)) H):=by
 intro J s A H xs Z Q I r h;lk;obtain⟨i,j,rfl,q⟩:=h;obtain⟨u,z,rfl,⟨t,rfl⟩,⟨W,rfl⟩⟩:=VI r;k_in;show max_two_ints (I.ok.hd U) λV Y k=>⟨_,H,I.iq k,?_,q⟩;by_cases D:j>i;.rw[AE0 D,AE0 D];show⟨_,rfl⟩
 .rw[AEz D,AEz D];show⟨_,rfl⟩
theorem rJ(U:X.je=AK):FX X (.builtin "min") (λxs H Q=>∃i j,xs=[.int i,.int j]/\Q (.int (if j<i then j else i)) H):=by
 intro J s A H xs Z Q I r h;lk;obtain⟨i,j,rfl,q⟩:=h;obtain⟨u,z,rfl,⟨t,rfl⟩,⟨W,rfl⟩⟩:=VI r;k_in;show min_two_ints (I.ok.hd U) λV Y k=>⟨_,H,I.iq k,?_,q⟩;by_cases D:j<i;.rw[AE0 D,AE0 D];show⟨_,rfl⟩
 .rw[AEz D,AEz D];show⟨_,rfl⟩
theorem Yw:FX X (.type "int") (λxs H Q=>(∃i,xs=[.int i]/\Q (.int i) H)\/∃k,xs=[.bl k]/\Q (.int (if k then 1 else 0)) H):=by
 intro D s U H xs J Q I r h;rcases h with⟨i,rfl,q⟩|⟨k,rfl,q⟩;. obtain⟨u,rfl,t,rfl⟩:_:=HN r;show call_int_int ⟨.int i,H,I,⟨_,rfl⟩,q⟩
 . lk;obtain⟨u,rfl,r1⟩:=HN r;cases r1;k_in;show call_int_bool ⟨.int _,H,I.ig _,⟨_,rfl⟩,q⟩
structure Nj(h:BZ)(x dx C:AB)(mA:AF->Option AL):Prop where
 au:h.get? x=AA (SS C dx)ns:h.Ns1 dx mA
 ne:dx≠x
set_option tactic.hygienic true in theorem tW{h:BZ}{dx:AB}{mA:AF->Option AL}(n:h.Ns1 dx mA):∃od,h.get? dx=AA od/\∀name,dG name od=AA (mA name):=by
  obtain⟨o,es,ep,W,U,V,_,hm⟩:_:=n;show⟨o,W,λname=>?_⟩;have e:=hm name;unfold nsFind findBy at e;rw[<-Array.find?_toList]at e;unfold dG;rw[U];dsimp only;split
  . rename_i y q;rw[q]at e;show AE2 _ e
  . rename_i q;rw[q]at e;have a:es.toList.any (·.refKey)=AR:=by rw[List.any_eq_false];intro y Y;obtain⟨z,t,D⟩:=V y (Array.mem_toList_iff.mp Y);simp[AEF,D]
    have J:¬es.toList.any (·.refKey)=AK:=by rw[a];show Dx
    rw[AEz J];show AE2 _ e
theorem Nj.abj(I:Nj h x U C V):∃J,W.InstAt h x (SS C U) C (AA J)/\∀D,dG D J=AA (V D):=let⟨J,Y,W⟩:=tW I.ns
 ⟨J,⟨I.au,rfl,rfl,Y⟩,W⟩
theorem sQ{K:As}(X:K.In s.heap)(I:Nj s.heap x dx C mA)(hg:dH K C name=AK)(hh:AAD K C=AK)(ha:Hz K (.ref C) name=AA AG)(hv:mA name=AA v)(hv':ADF v=AK)(h:Q v {s with toks:=s.toks+1}):A1 (Ao prog w) A (getAttr (.ref x) name expr) Q E s:=by obtain⟨od,J,hl⟩:_:=I.abj;show W.get_value X J (AAK hg).1 (W.findObj_own hh ha rfl (by rw[hl,hv])) hv' h
theorem sR{K:As}(X:K.In s.heap)(I:Nj s.heap x dx C mA)(hg:dH K C name=AK)(hf:Hz K (.ref C) name=AA (AA (.ref f)))(ht:AAE K (.ref f)=AK)(hv:mA name=AG)(h:Q (.ref f,[.ref x]) s):A1 (Ao prog w) A (dJ (.ref x) name pl) Q E s:=by obtain⟨od,J,hl⟩:_:=I.abj;show W.method_fn X J (AAK hg).1 (AAK hg).2 hf (AFA.mp ht) (by change(dG _ od).map _=AA _;rw[hl,hv];rfl) h
theorem wF{K:As}{D:AF}(X:K.In s.heap)(I:Nj s.heap x G C H)(R:Hz K (.ref C) "__setattr__"=AA (AA (.builtin "object.__setattr__")))(P:ADP K C=AK)(S:AAL K C D=AA AG)(O:AAD K C=AK)(hw:AAM H ns)(F:ns.length<=Az)(h:∀W,Nj W x G C (λy=>if y=D then AA v else H y)->QA G s.heap W->Q () {s with heap:=W,toks:=s.toks+2}):A1 (Ao prog w) A (setAttr (.ref x) D v) Q E s:=by obtain⟨e,J,c⟩:_:=I.abj;show W.set_plain X J R (W.osa_open X J P S λb=>?_);obtain⟨a,N,Z⟩:_:=W.any_some O;have T:=I.au;show BI (Cq (BI (BI (wpAny_loadPart T (BI (AEv (W.looks_clsIn X N) ?_))))));rw[Z];show Cq (BI (Cq (BI ?_)));show wpAny_nsSet1 I.ns λW U V=>?_;obtain⟨d,M,L,B,z,Y⟩:_:=U.count (AEw _ v hw);show BI (wpAny_lookBehind B (by rw[z];show pastItsLine_dict (Ag Y (by show HQ.mpr F))) ?_);show Cq (h _ ⟨(V.2 _ (DJ I.ne)).trans I.au,U,I.ne⟩ V)
theorem tZ{K:As}(X:K.In s.heap)(V:ADN K C=AK)(hi:Hz K (.ref C) "__init__"=AA (AA (.ref f)))(U:W.typeIn K (.ref f)=AA (.type "function"))(h:OV (Ao prog w) (A.under (.builtin "type.__call__" ⟨.ref C::vs,D⟩)) (.call (.ref f) ⟨.ref (s.heap.objs.size+1)::vs,D⟩) (W.InitBack (s.heap.objs.size+1) R) {s with heap:=(s.heap.push dC).push (SS C s.heap.objs.size)}):OV (Ao prog w) A (.call (.ref C) ⟨vs,D⟩) R s:=by show W.make_core (W.makes_of X V) (W.looks_findIn X hi) (λJ=>W.bind_fn X _ U) (.inl rfl) h
def GR(f:AF)(v:AE):List (AF×AE)->List (AF×AE)|[]=>[(f,v)]|(g,x)::r=>if g=f then(g,v)::r else(g,x)::GR f v r
theorem Zb(f g:AF)(v:AE):∀U:List (AF×AE),(GR f v U).lookup g=if g=f then AA v else U.lookup g
  |[]=>by
    change Pt g [(f,v)]=_;by_cases h:g=f
    . have D:=AFA.mpr h;simp only[Pt,D,AE0 h]
    . have D:=AFC.mpr h;simp only[Pt,D,AEz h]|(k,x)::r=>by
    have W:=Zb f g v r;rw[show GR f v _=(if k=f then(k,v)::r else(k,x)::GR f v r)from rfl];by_cases J:k=f
    . rw[AE0 J];by_cases h:g=k
      . have D:=AFA.mpr h;simp only[Pt,D,AE0 (h.trans J)]
      . have D:=AFC.mpr h;simp only[Pt,D,AEz (λe:g=f=>h (e.trans J.symm))]
    . rw[AEz J];by_cases h:g=k;. have D:=AFA.mpr h;simp only[Pt,D,AEz (λe:g=f=>J (h.symm.trans e))]
      . have D:=AFC.mpr h;simp only[Pt,D];show W
theorem Ul(f:AF)(v:AE):∀D:List (AF×AE),f∈(GR f v D).map (·.1)/\∀g,g∈D.map (·.1)->g∈(GR f v D).map (·.1)
  |[]=>⟨by simp[GR],λg h=>by simp at h⟩|(k,x)::r=>by
    obtain⟨i1,i2⟩:=Ul f v r;rw[show GR f v _=(if k=f then(k,v)::r else(k,x)::GR f v r)from rfl];by_cases J:k=f;. subst J;show⟨by simp,λg h=>by simpa using h⟩
    . rw[AEz J];show⟨?_,λg h=>?_⟩;.show Fp _ i1
      . rcases CZ.mp h with e|e;.show CZ.mpr (.inl e)
        .show Fp _ (i2 g e)
theorem ZW(f:AF)(v:AE):∀D:List (AF×AE),(GR f v D).length<=D.length+1
 |[]=>by simp[GR]|(k,x)::r=>by
  have U:=ZW f v r;rw[show GR f v _=(if k=f then(k,v)::r else(k,x)::GR f v r)from rfl];by_cases J:k=f;.rw[AE0 J,Mz];simp
  .rw[AEz J,Mz];show HQ.mpr U
theorem Nk(r:K0 (AA v) o):∃u,o=AA u/\Be v u:=by cases o with|none=>show(show False from r).elim|some u=>show⟨u,rfl,r⟩
theorem UO(r:K0 AG o):o=AG:=by cases o with|none=>rfl|some u=>show(show False from r).elim
theorem sT(r:Be v u):ADF u=AK:=by cases v with|non=>cases(show u=z9 from r);rfl|bl b=>cases(show u=Vm b from r);rfl|int i=>obtain⟨t,e⟩:=(show∃t,u=QB i t from r);cases e;rfl|str x=>obtain⟨t,e⟩:=(show∃t,u=QC x t from r);cases e;rfl|byt b=>obtain⟨t,e⟩:=(show∃t,u=AC6 b t from r);cases e;rfl|flt b=>obtain⟨t,e⟩:=(show∃t,u=z8 b t from r);cases e;rfl|ref a=>cases(show u=Ds a from r);rfl|ty n=>cases(show u=AAA n from r);rfl
theorem RX(U:DY P w H h)(e:H a=AA (.ins C V J)):∃D,Nj h a V C D/\(∀f,K0 (J.lookup f) (D f))/\AAM D (J.map (·.1))/\J.length<=1000/\H V=AA (.own a):=by obtain⟨d,z,W,Y,D,n,r,q⟩:_:=(show DZ P w H h a _ from U a _ e);show⟨D,⟨Y,n,W⟩,r,q,z,d⟩
structure Gv(K:As)(C:AB):Prop where
 pg:dH K C Str.empty=AK
 hd:AAD K C=AK
 po:ADP K C=AK
 sa:Hz K (.ref C) "__setattr__"=AA (AA (.builtin "object.__setattr__"))
theorem Gv.xc{K:As}(c:Gv K C)(f:AF):dH K C f=AK:=c.pg
def Eg(K:As)(C:AB)(f:AF):Prop:=Hz K (.ref C) f=AA AG
theorem Eg.ady{K:As}(n:Eg K C f):AAL K C f=AA AG:=by unfold AAL;rw[show Hz K _ f=AA _ from n];rfl
structure RC(K:As)(C:AB)(m:AF)(f:AB):Prop where
 afn:Hz K (.ref C) m=AA (AA (.ref f))fn:AAE K (.ref f)=AK
 kp:SU K (.ref f)=AK
theorem sS(I:Aa X D W H s)(e:H a=AA (.ins C Y U))(c:Gv X.K C)(n:Eg X.K C f)(l:U.lookup f=AA v)(h:∀u s',Aa X D W H s'->Be v u->Q u s'):A1 (Ao X.ai X.w) A (getAttr (.ref a) f b) Q E s:=by lk;obtain⟨Z,O,r,_,_,_⟩:=RX I.cq e;obtain⟨u,V,J⟩:=Nk (by rw[<-l];show r f);k_in;show sQ I.sj O (c.xc f) c.hd n V (sT J) (h u _ (I.ig _) J)
theorem ZM(I:Aa X D Z H s)(e:H a=AA (.ins C W J))(c:Gv X.K C)(k:RC X.K C m g)(l:J.lookup m=AG)(h:Q (.ref g,[.ref a]) s):A1 (Ao X.ai X.w) A (dJ (.ref a) m V) Q E s:=by obtain⟨Y,O,r,_,_,_⟩:_:=RX I.cq e;have U:=UO (by rw[<-l];show r m);show sR I.sj O (c.xc m) k.afn k.fn U h
theorem wG(I:Aa X J T H s)(e:H a=AA (.ins C W D))(c:Gv X.K C)(n:Eg X.K C f)(Y:D.length<1000)(R:Be y u)(h:∀s',Aa X J T (AM H a (.ins C W (GR f y D))) s'->Q () s'):A1 (Ao X.ai X.w) A (setAttr (.ref a) f u) Q E s:=by
  obtain⟨P,O,r,B,_,Z⟩:_:=RX I.cq e;have N:(D.map (·.1)).length<=Az:=by rw[Aq];show Ag (B8 Y) (by decide)
  show wF I.sj O c.sa c.po n.ady c.hd B N λG U S=>h _ ?_;have L:∃o,G.get? W=AA o:=let⟨o,_,_,F,_⟩:=U.ns;⟨o,F⟩;show I.vw (by rw[e];show HS) (.inr Z) (λb q K z=>(S.2 b K).trans z) L ?_;show⟨by rw[AV O.ne];show Z,?_,O.ne,U.au,_,U.ns,λg=>?_,λg M=>?_⟩;.have:=ZW f y D;show Ag this Y
  . rw[Zb];by_cases q:g=f;.rw[AE0 q,AE0 q];show R
    .rw[AEz q,AEz q];show r g
  . by_cases q:g=f;.rw[q];show(Ul f y D).1
    . show(Ul f y D).2 g (B g λz=>M ?_);change(if g=f then AA u else P g)=AG;rw[AEz q];show z
theorem qS(I:Aa X D A H s):Aa X D A (AM (AM H s.heap.objs.size (.own (s.heap.objs.size+1))) (s.heap.objs.size+1) (.ins C s.heap.objs.size [])) {s with heap:=(s.heap.push dC).push (SS C s.heap.objs.size)}:=by
 have J:(s.heap.push dC).get? _=AA _:=F7 _ rfl;have W:=by have:=F7 (s.heap.push dC) (o:=SS C s.heap.objs.size) rfl;rwa[zU]at this
 have Y:(s.heap.push _).Ns _ _:=⟨_,#[],_,J,rfl,(λe Z=>absurd Z (by simp)),λO=>rfl⟩;have V:=I.ou (o:=.own (s.heap.objs.size+1)) (t':=s.toks) (λb u q=>C1 _ q) (Aj _) ⟨_,J⟩;show V.ou (λb u q=>C1 _ q) (Bi (zU _ _)) ?_;have U:s.heap.objs.size≠s.heap.objs.size+1:=ET (KS _);show⟨by rw[AV U,AY],Bc _,U,W,_,(Heap.Ns1.of_empty Y).at λo q=>C1 _ q,λO=>HS,λy z=>absurd rfl z⟩
theorem rB(U:Js e f env (Ba e env)=Ba e env)(h:A1 (Ao prog w) A (Ba e env) (λo D=>A1 (Ao prog w) A (getAttr o f AK) Q E D) E s):A1 (Ao prog w) A (Ba (.Attribute e f J) env) Q E s:=Attribute_any_ h (by rw[arm_eval_Attribute,U])
inductive Yf(K:As)(H:AH)(f:AF):AE->AE->Prop|mk{a C dx:AB}{fs:List (AF×AE)}{v:AE}(e:H a=AA (.ins C dx fs))(c:Gv K C)(n:Eg K C f)(l:fs.lookup f=AA v):Yf K H f (.ref a) v
def Pl(K:As)(J:Av)(f:AF):Av:=λU H Q=>J U H λx D=>GO (λv=>Yf K D f x v) (λv=>Q v D)
def aB(K:As)(Z z:Av)(f:AF):Cz:=λD V H=>z V H λy Y=>Z V Y λx W=>RR (λa C U J=>x=.ref a) (λa C U J=>W a=AA (.ins C U J)) (λO C O O=>Gv K C) (λO C O O=>Eg K C f) (λO O O J=>J.length<1000) (λa C U J=>D.nx V (AM W a (.ins C U (GR f y J))))
theorem Zv(z:Al X e E)(Z:Js e f X.ae (Ba e X.ae)=Ba e X.ae):Al X (.Attribute e f A) (Pl X.K E f):=by intro J s F H Q I h;show rB Z (Ax (z _ s F H _ I h) λu s1 D=>?_);obtain⟨x,U,V,C,v,g,q⟩:_:=D;cases g with|mk Y c n l=>obtain rfl:u=Ds _:=C;show sS V Y c n l λG s2 W B=>⟨v,U,W,B,q⟩
theorem vP(G:Al X o Q)(L:Al X J R)(K:OZ J (AA (.Attribute o f U)) V.line X.ae=Bn AR):Ez X (.Assign [.Attribute o f U] J V) (aB X.K Q R f):=by intro Y s W H D I h;show plainObj_wpAny_Assign_Attribute (Ax (L _ s W H _ I h) λu s1⟨y,Z,z,P,q⟩=>Ax (G _ s1 W Z _ z q) λM s2⟨x,S,A,O,a,C,T,b,F,E,c,n,l,N⟩=>?_) K;subst F;obtain rfl:M=Ds a:=O;show wG A E c n l P λs3 B=>⟨W,_,B,N⟩
section
variable{H:AH}
inductive IK(K:As)(H:AH):AE->AL->Prop where|non:IK K H .non (.type "NoneType")|bl(x:Bool):IK K H (.bl x) (.type "bool")|int(i:Int):IK K H (.int i) (.type "int")|str(x:AF):IK K H (.str x) (.type "str")|flt(x:UInt64):IK K H (.flt x) (.type "float")|lst{a:AB}{xs:List AE}(e:H a=AA (.lst xs)):IK K H (.ref a) (.type "list")|frz{a:AB}{o:BR}{xs:List AE}(e:H a=AA (.frz o (.lst xs))):IK K H (.ref a) (.type "list")|tup{a:AB}{xs:List AE}(e:H a=AA (.tup xs)):IK K H (.ref a) (.type "tuple")|dK{a:AB}{kvs:List (AN×AE)}(e:H a=AA (.dK kvs)):IK K H (.ref a) (.type "dict")|dT{a:AB}{kvs:List (List AN×AE)}(e:H a=AA (.dT kvs)):IK K H (.ref a) (.type "dict")|ins{a C dx:AB}{fs:List (AF×AE)}(e:H a=AA (.ins C dx fs))(cl:Gv K C)(ha:Hz K (.ref C) "__class__"=AA (AA (.builtin "object.__class__")))(hn:W.specialIn K (.builtin "object.__class__") "__get__"=AA (AA (.builtin "getset_descriptor.__get__")))(htk:W.takesIn K (.builtin "object.__class__")=AA AK)(hm:W.mroIn K C (.type "object")=AA AK):IK K H (.ref a) (.ref C)
end
theorem tG(I:Aa X pins σ H s)(rx:Be x u)(ty:IK X.K H x t)(e:ADK X.K t c=AA b)(h:∀tk,Q (.bool b) {s with toks:=tk}):A1 (Ao X.ai X.w) A (Ig (.builtin "isinstance") [u,c]) Q E s:=by cases ty with|non=>cases(show u=z9 from rx);show LP W.kitx_none I.sj HS e (λz=>nomatch z) h|bl y=>cases(show u=Vm y from rx);show LP W.kitx_bool I.sj HS e (λz=>nomatch z) h|int i=>obtain⟨t,q⟩:=(show∃t,u=QB i t from rx);cases q;show LP W.kitx_int I.sj HS e (λz=>nomatch z) h|str y=>obtain⟨t,q⟩:=(show∃t,u=QC y t from rx);cases q;show LP W.kitx_str I.sj HS e (λz=>nomatch z) h|flt y=>obtain⟨t,q⟩:=(show∃t,u=z8 y t from rx);cases q;show LP W.kitx_float I.sj HS e (λz=>nomatch z) h|@lst a xs ea=>lk;cases(show u=Ds a from rx);obtain⟨_,_,n,_,h1⟩:=(show DZ _ _ H _ a _ from I.cq a _ ea);k_in;show LP ADM I.sj ⟨_,h1,rfl⟩ e (λz=>nomatch z) h|@frz a ob xs ea=>lk;cases(show u=Ds a from rx);obtain⟨_,_,_,n,_,h1⟩:=(show DZ _ _ H _ a _ from I.cq a _ ea);k_in;show LP ADM I.sj ⟨_,h1,rfl⟩ e (λz=>nomatch z) h|@tup a xs ea=>lk;cases(show u=Ds a from rx);obtain⟨_,_,_,p⟩:=(show DZ _ _ H _ a _ from I.cq a _ ea);obtain⟨o,h1,h2,_⟩:=p;k_in;show LP W.kitx_tuple I.sj ⟨o,h1,h2⟩ e (λz=>nomatch z) h|@dK a kvs ea=>lk;cases(show u=Ds a from rx);obtain⟨_,_,vs,_,p⟩:=(show DZ _ _ H _ a _ from I.cq a _ ea);obtain⟨o,es,ep,h1,h2,_⟩:=p;k_in;show LP ADL I.sj ⟨o,h1,h2.1⟩ e (λz=>nomatch z) h|@dT a kvs ea=>lk;cases(show u=Ds a from rx);obtain⟨_,_,xs,_,o,es,ep,h1,h2,_⟩:=(show DZ _ _ H _ a _ from I.cq a _ ea);k_in;show LP ADL I.sj ⟨o,h1,h2.1⟩ e (λz=>nomatch z) h|@ins a C dx fs ea cl ha hn htk hm=>lk;cases(show u=Ds a from rx);obtain⟨mA,O,_⟩:=RX I.cq ea;obtain⟨od,J,_⟩:=O.abj;k_in;show LP (W.kitx_own (cl.xc _) cl.hd ha hn htk hm) I.sj J e (λz=>nomatch z) h
structure D6(k:Nat)(A:DV):Prop where
 hd:A.handled=AG
 dp:A.depth+3*k+5<ADe
 un:A.units+16*k+200<GV
theorem D6.aae(r:D6 k A)(h:j<=k):D6 j A:=⟨r.hd,by have:=r.dp;lia,by have:=r.un;lia⟩
theorem D6.aby(r:D6 (k+1) A)(env:Ed):D6 k (A.deeper env):=⟨r.hd,by have:=r.dp;change A.depth+1+3*k+5<_;lia,by have:=r.un;change A.units+3+16*k+200<_;lia⟩
theorem D6.adi(r:D6 (k+1) A):D6 k A.in1:=⟨r.hd,by have:=r.dp;lia,by have:=r.un;lia⟩
theorem tY{A:DV}:(A.under (.builtin "type.__call__" ⟨.ref C::J,D⟩)).depth=A.depth+1:=by first|rfl|simp
theorem t5{A:DV}:(A.under (.builtin "type.__call__" ⟨.ref C::J,D⟩)).units=A.units+1:=by first|rfl|simp
theorem D6.acd(r:D6 (k+1) A)(C:AB)(J:List AL)(D:List (AF×AL)):D6 k (A.under (.builtin "type.__call__" ⟨.ref C::J,D⟩)):=⟨r.hd,by have:=r.dp;rw[tY];lia,by have:=r.un;rw[t5];lia⟩
theorem D6.acz(r:D6 k A):A.depth<ADe:=by have:=r.dp;lia
theorem D6.yr(r:D6 k A):A.units+64<GV:=by have:=r.un;lia
theorem D6.xu(r:D6 k A):A.units<GV:=by have:=r.un;lia
def Mu:Fi:=λO H Q=>Q [] H
def Mt(V:Av)(W:Fi):Fi:=λD H Q=>V D H λx J=>W D J λY U=>Q (x::Y) U
theorem Ea:Gf X [] Mu:=λO O O O H Q I h=>OO ⟨[],H,I,.nil,h⟩
theorem Zn(B:Al X e L)(C:Gf X U t)(E:Cp (e::U) X.ae=(AR,Ba e X.ae)::Cp U X.ae:=by rfl):Gf X (e::U) (Mt L t):=by intro F V s W H Q I h;rw[E];show LJ (Ax (B _ s W H _ I h) λu s1 D=>?_);obtain⟨x,Y,z,r1,G⟩:_:=D;show Ax (C _ _ s1 W Y _ z G) λM s2 J=>?_;obtain⟨N,Z,A,r2,K⟩:_:=J;show⟨_,Z,A,.cons r1 r2,K⟩
def aU(t:Fi):Av:=λU H Q=>t U H λJ D=>J.length<=Az/\∀p,D p=AG->Q (.ref p) (AM D p (.tup J))
def VG(t:Fi):Av:=λU H Q=>t U H λJ D=>J.length<=Az/\∀p,D p=AG->Q (.ref p) (AM D p (.lst J))
theorem Cj(h:Gf X V t):Al X (.Tuple V B Z) (aU t):=by intro U s C H Q I Y;show wpAny_Tuple_spliced (Ax (h _ _ s C H _ I Y) λA s1 D=>?_);obtain⟨F,E,J,r,z,q⟩:_:=D;show⟨by rw[<-r.aq];show z,?_⟩;have W:=J.cq.cj (Aj _);show⟨.ref _,_,J.ou (λb u e=>C1 _ e) (Aj _) ?_,rfl,q _ W⟩;show⟨z,A,r,⟨_,F7 _ rfl,rfl,_,rfl⟩⟩
theorem C9(h:Gf X V t):Al X (.List V Z) (VG t):=by intro U s B H Q I Y;show wpAny_List_spliced (Ax (h _ _ s B H _ I Y) λA s1 D=>?_);obtain⟨E,C,J,r,z,q⟩:_:=D;show⟨by rw[<-r.aq];show z,?_⟩;have W:=J.cq.cj (Aj _);show⟨.ref _,_,J.ou (λb u e=>C1 _ e) (Aj _) ?_,rfl,q _ W⟩;show⟨z,A,0,r,F7 _ rfl⟩
abbrev BF:=List AE->AH->Bf->HJ->Prop
abbrev JB:=List Ed->AH->AZ->HJ->AL->AZ->Prop
structure Lf(P:Co)(w:CC)(K:As)(mg:AF->Option AL)(base:BZ)(A:DV)(outer:List Ed)(s:AZ)(H:AH):Prop where
 om:A.frames=AA outer
 wt:RE K mg base
 bs:∀b o,base.get? b=AA o->s.heap.get? b=AA o/\H b=AG
 abc:base.objs.size<=s.heap.objs.size
 rg:s.heap.FunFrames base outer
 abq:∀b∈Gx outer,H b=AG
 cq:DY P w H s.heap
 mf:M6 s.gens
def UE(D:List Ed)(P:Co)(w:CC)(H:AH)(s:AZ)(Q:Bf)(u:AL)(s':AZ):Prop:=RP (λv J=>s'.os=s.os) (λO O=>M6 s'.gens) (λO J=>Hi (Gx D) [] H J s.heap s'.heap) (λO J=>DY P w J s'.heap) (λv O=>Be v u) (λv J=>Q v J)
def qQ(CX:JB)(D:List Ed)(P:Co)(w:CC)(H:AH)(s:AZ)(Q:Bf)(E:HJ)(r:Result)(s':AZ):Prop:=match r with|.ok (.ret u)=>UE D P w H s Q u s'|.ok _=>False|.error e=>CX D H s E e s'
structure Hg(P:Co)(w:CC)(K:As)(mg:AF->Option AL)(base:BZ)(CX:JB)(k:Nat)(f:AB)(fd:JU)(ps:List AF)(sp:BF):Prop where
 gf:∀vs H Q E,sp vs H Q E->vs.length=ps.length
 aef:∀(A:DV)(outer:List Ed)(s:AZ)(H:AH)(args:Args)(us:List AL)(vs:List AE)(Q:Bf)(E:HJ),D6 k A->Lf P w K mg base A outer s H->SM s fd args (ps.zip us)->Bb vs us->sp vs H Q E->OV (Ao P w) A (.call (.ref f) args) (qQ CX outer P w H s Q E) s
theorem Lf.acd{K:As}(e:Lf P w K J base A D s H)(C:AB)(V:List AL)(U:List (AF×AL)):Lf P w K J base (A.under (.builtin "type.__call__" ⟨.ref C::V,U⟩)) D s H:=⟨by first|show e.om|(simpa[pushEnvs]using e.frames),e.wt,e.bs,e.abc,e.rg,e.abq,e.cq,e.mf⟩
theorem Lf.adi{K:As}(e:Lf P w K J base A D s H):Lf P w K J base A.in1 D s H:=⟨e.om,e.wt,e.bs,e.abc,e.rg,e.abq,e.cq,e.mf⟩
theorem Aa.aca(I:Aa X D J H s):Lf X.ai X.w X.K X.mg X.af X.A X.ft s H:=⟨I.ok.om,I.ok.wt,I.bs,Ag I.ok.abc I.sz,I.ft,I.zv,I.cq,I.mf⟩
theorem Aa.aal(I:Aa X J A H s)(h:UE X.ft X.ai X.w H s Q u s'):Fh X J A Q u s':=by lk;obtain⟨v,W,Y,D,Z,U,r,q⟩:=h;obtain⟨B,g,d,t,V⟩:=s';obtain rfl:V=s.os:=Y;k_in;show⟨v,W,I.acw Z U D (λb z=>absurd z (by simp)),r,q⟩
def wX(sp:BF)(D:List AE)(E:HJ)(t:Fi):Av:=λW H Q=>t W H λU J=>sp (U++D) J Q E
def aP(C:AB)(m:AF)(sp:BF)(J:List AE)(E:HJ)(z:Av)(t:Fi):Av:=λY H Q=>z Y H λx U=>PL (λa W D=>x=.ref a) (λa W D=>U a=AA (.ins C W D)) (λO O D=>D.lookup m=AG) (λO O O=>t Y U λA Z=>sp (x::(A++J)) Z Q E)
def aO(C:AB)(sp:BF)(U:List AE)(E:HJ)(t:Fi):Av:=λZ H Q=>t Z H λY J=>∀x D,J x=AG->J D=AG->D≠x->sp (.ref x::(Y++U)) (AM (AM J D (.own x)) x (.ins C D [])) (λv W=>v=.non/\Q (.ref x) W) E
def Le(K:As)(U:JU)(ps:List AF)(J:List AL):Prop:=∀(s:AZ)(D:List AL),K.In s.heap->(D++J).length=ps.length->SM s U ⟨D,[]⟩ (ps.zip (D++J))
theorem Le.yu{K:As}(h:∀D:List AL,D.length=ps.length->AAN J ⟨D,[]⟩=Bn (ps.zip D)):Le K J ps []:=λs D O U=>by rw[Dw]at U⊢;show .of_eq (h D U)
def PJ(CX:JB)(X:Bp)(E:HJ):Prop:=∀(D:List (AB×BR))(U:Ah)(H:AH)(s:AZ)(e:AL)(J:AZ),Aa X D U H s->CX X.ft H s E e J->X.xe e J
theorem VB(F:Hg X.ai X.w X.K X.mg X.af CX k f z ps sp)(K:D6 k X.A)(B:Le X.K z ps Z)(C:Bb W Z)(L:PJ CX X E)(I:Aa X D Y H s)(r:Bb vs U)(h:sp (vs++W) H Q E):A1 (Ao X.ai X.w) X.A (Ig (.ref f) U) (Fh X D Y Q) X.xe s:=by
 have r2:=r.ql C;have G:(U++Z).length=ps.length:=by rw[<-r2.aq];show F.gf _ _ _ _ h
 show AAc (SV (F.aef _ _ s H _ _ _ Q E K I.aca (B s U I.sj G) r2 h) λr M J=>?_);cases r with|error e=>show L _ Y H s e M I J|ok A=>cases A with|ret u=>show I.aal J|next=>show HU J|brk=>show HU J|cont=>show HU J
section
variable{f C:AB}
structure RD(K:As)(C f:AB):Prop where
 adn:ADN K C=AK
 aep:Hz K (.ref C) "__init__"=AA (AA (.ref f))fn:AAE K (.ref f)=AK
 kp:SU K (.ref C)=AK
end
theorem aA(M:RD X.K C f)(F:Hg X.ai X.w X.K X.mg X.af CX k f O ps sp)(a:D6 (k+1) X.A)(R:Le X.K O ps L)(S:Bb U L)(b:PJ CX X E)(I:Aa X J z H s)(r:Bb vs Z)(h:∀x Y,H x=AG->H Y=AG->Y≠x->sp (.ref x::(vs++U)) (AM (AM H Y (.own x)) x (.ins C Y [])) (λv G=>v=.non/\Q (.ref x) G) E):A1 (Ao X.ai X.w) X.A (Ig (.ref C) Z) (Fh X J z Q) X.xe s:=by
 have A:=h _ _ (I.cq.cj (P0 _)) (I.cq.cj (Aj _)) (ET (KS _));have W:=qS (C:=C) I;have r2:Bb (AE.ref (s.heap.objs.size+1)::(vs++U)) _:=.cons rfl (r.ql S);have T:=by have e:=r2.aq;rw[F.gf _ _ _ _ A]at e;show e.symm
 show AAc (tZ I.sj M.adn M.aep (AFA.mp M.fn) (SV (F.aef _ _ _ _ _ _ _ _ E (a.acd C Z []) (W.aca.acd C Z []) (R _ _ W.sj T) r2 A) λr g D=>?_));cases r with|error e=>show b _ z _ _ e g W D|ok P=>cases P with|ret u=>obtain⟨v,B,K,d,N,c⟩:_:=W.aal D;subst N;show⟨d,⟨AE.ref _,B,K,rfl,c⟩⟩|next=>show HU D|brk=>show HU D|cont=>show HU D
structure Mg(N P:List AF)(sc:Fs):Prop where
 ju:sc.kind=.function
 co:sc.isCoroutine=AR
 afq:sc.isGenerator=AR
 nd:N.Nodup
 aex:N.take P.length=P
 afk:∀x∈P,sc.names.lookup x=AA .local\/sc.names.lookup x=AA .cell
 acf:∀y∈sc.names,y.2≠.free
theorem Yv:∀{D:List (AF×AL)}{m:AF->Option AL},(∀v,(x,v)∉D)->QH J D m x=m x
  |[],_,_=>rfl|(n,v)::r,m,h=>by
    unfold QH;rw[Yv λw hw=>h w (Fp _ hw)];split
    . have:x≠n:=by rintro rfl;show h v Dr
      simp[this]
    .rfl
theorem Yt:∀{D:List (AF×AL)}{m:AF->Option AL},(∀v,(x,v)∉D)->QG J D m x=m x
  |[],_,_=>rfl|(n,v)::r,m,h=>by
    unfold QG;rw[Yt λw hw=>h w (Fp _ hw)];split;.rfl
    . have:x≠n:=by rintro rfl;show h v Dr
      simp[this]
theorem Yu:∀{P:List AF}{vs:List AL}{i:Nat}{m:AF->Option AL},P.Nodup->P[i]?=AA x->vs[i]?=AA v->D x=AA .local->QH D (P.zip vs) m x=AA v|[],_,_,_,_,h,_,_=>by simp at h|_::_,[],_,_,_,_,h,_=>by simp at h|p::P,w::vs,0,m,W,J,U,V=>by simp at J U;subst J;subst U;change QH _ ((p,w)::P.zip vs) m p=_;unfold QH;rw[Yv λv Y=>(JP.mp W).1 (bS Y).1,AE0 V];simp|p::P,w::vs,i+1,m,W,J,U,V=>by unfold QH;show Yu (JP.mp W).2 (by simpa using J) (by simpa using U) V
theorem Ys:∀{P:List AF}{vs:List AL}{i:Nat}{m:AF->Option AL},P.Nodup->P[i]?=AA x->vs[i]?=AA v->D x≠AA .local->QG D (P.zip vs) m x=AA v|[],_,_,_,_,h,_,_=>by simp at h|_::_,[],_,_,_,_,h,_=>by simp at h|p::P,w::vs,0,m,W,J,U,V=>by simp at J U;subst J;subst U;change QG _ ((p,w)::P.zip vs) m p=_;unfold QG;rw[Yt λv Y=>(JP.mp W).1 (bS Y).1,AEz V];simp|p::P,w::vs,i+1,m,W,J,U,V=>by unfold QG;show Ys (JP.mp W).2 (by simpa using J) (by simpa using U) V
def Ms(N:List AF)(vs:List AE):Ah:=vs.map AA++FF (N.length-vs.length) AG
def Mj(CX:JB)(P:Co)(w:CC)(K:As)(Z:AF->Option AL)(base:BZ)(N:List AF)(U:AF)(D:Fs)(f:AB)(W:AL)(A:DV)(J:List Ed)(s:AZ)(H:AH)(E:HJ):Bp where
 ai:=P
 w:=w
 K:=K
 mg:=Z
 af:=base
 A:=A.deeper (MC U D s.heap.objs.size f W)
 N:=N
 s₀:=s
 H₀:=H
 ae:=MC U D s.heap.objs.size f W
 vp:=J
 ft:=MC U D s.heap.objs.size f W::J
 ex:=[]
 je:=AK
 fn:=λO=>AK
 pn:=[]
 xe:=λe z=>A1 (Ao P w) (A.deeper (MC U D s.heap.objs.size f W)) (leaving (MC U D s.heap.objs.size f W) e) (λO V=>CX J H s E e V) (λY V=>CX J H s E Y V) z
theorem Y2{D:Fs}(h:D.names.lookup x=AA .cell):∃c,(AAP n D.names []).lookup x=AA c:=by have q:=ADD _ n [] (.inl h);show zB.mp q
theorem tF{K:As}(S:Mg N ps D)(d:A.handled=AG)(Y:Lf P w K O base A J s H)(g:vs.length=ps.length)(r:Bb vs Q)(x:InCallC s s.heap.objs.size (QH (MC U D s.heap.objs.size f G).kindOf (ps.zip Q) λo=>AG) (AAP (s.heap.objs.size+1) D.names []) (QG (MC U D s.heap.objs.size f G).kindOf (ps.zip Q) λo=>AG) s1):Aa (Mj CX P w K O base N U D f G A J s H E) [] (Ms N vs) H s1:=by
  have M:=by have:=AE2 My S.aex;rw[Er]at this;show AFE this.symm (P1 _ _)
  obtain⟨I,m,rfl,R⟩:_:=x.done;have Z:∀b:AB,b∉(Mj CX P w K O base N U D f G A J s H E).ex:=λb z=>absurd (show b∈([])from z) (by simp);show⟨⟨Y.wt,S.ju,rfl,rfl,Aj _,λy z c I W=>?_,λy C=>?_,λy c o h=>?_,λo=>d,Around.frames_deeper Y.om,.inr ⟨rfl,rfl⟩,λb z=>absurd z (Z b),Y.bs,Y.abc,λb o o=>Z b,λb z=>absurd z (Z b),Y.rg,Y.abq⟩,rfl,Y.mf,RL R,⟨_,x.toInCall.ns,λi y v I W l=>?_⟩,λy c h=>⟨_,x.cell y c h⟩,Y.cq.cj (Aj _),λy c h=>?_,λp B=>absurd (show p∈([])from B) (by simp),Y.cq.iq R,?_⟩;.show name_of_addr x.apart (QL I) (QL W)
  . rcases C with C|C;.show Y2 C
    .show absurd rfl (S.acf _ (QL C))
  .show B8 (x.above y c (QL h))
  . have L:i<vs.length:=by
      unfold Ms at W;by_cases L:i<vs.length;.show L
      . rw[Pq (by simpa using L)]at W;rw[ABf]at W;split at W<;>cases W
    have X:vs[i]?=AA v:=by unfold Ms at W;rw[OG (by simpa using L),Bt]at W;cases e:vs[i]? with|none=>rw[e]at W;cases W|some a=>rw[e]at W;cases W;rfl
    obtain⟨u,T,j⟩:_:=r.xc X;have B:ps[i]?=AA y:=by rw[<-S.aex,bM (by simp_all)];show I
    have F:ps.Nodup:=by rw[<-S.aex];show S.nd.sublist (yV _ _)
    show⟨u,j,?_⟩;rcases S.afk y (Cm B)with k|k;.show .inl ⟨k,Yu F B T k⟩
    . obtain⟨c,e⟩:=Y2 k;show .inr ⟨.inl k,c,e,?_⟩;have q:=x.cell y c e;rw[Ys F B T (by change D.names.lookup y≠_;rw[k];decide)]at q;show q
  .show Y.cq.cj (B8 (x.above y c (QL h)))
  . unfold Ms;rw[Bx,Aq,ABi];show Hr (Ag (Bi g) M)
theorem sN{K:As}(lk:K.lookup f=AA ⟨oc,od,.func (OT name qual params body scope dV kV doc pm an cdv ct),osl⟩)(hcd:dB K cdv qual=AK)(S:Mg N ps scope)(len:∀vs H Q E,sp vs H Q E->vs.length=ps.length)(hbody:∀(A:DV)(outer:List Ed)(s:AZ)(H:AH)(vs:List AE)(Q:Bf)(E:HJ),D6 k (A.deeper (MC qual scope s.heap.objs.size f cdv))->sp vs H Q E->∃t,F1 (Mj CX P w K mg base N qual scope f cdv A outer s H E) body t/\t {nx:=λO H'=>Q .non H',rt:=Q} (Ms N vs) H):Hg P w K mg base CX (k+1) f (OT name qual params body scope dV kV doc pm an cdv ct) ps sp:=by
 show⟨len,λA outer s H args us vs Q E hr e0 hb r hsp=>?_⟩;have hl:=len _ _ _ _ hsp;have KX:=e0.wt.adk.keeps λb o e=>(e0.bs b o e).1;have lim:=e0.wt.abn.keeps λb o e=>(e0.bs b o e).1;have hkind:∀y∈ps.zip us,scope.names.lookup y.1=AA _\/(scope.names.lookup y.1=AA _/\((AAP (s.heap.objs.size+1) _ []).lookup y.1).isSome=AK):=λ⟨n,v⟩hy=>by
  rcases S.afk n (bS hy).1 with q|q;.show .inl q
  .show .inr ⟨q,ADD _ _ _ (.inl q)⟩
 show codeAny_call_function hr.acz (KX _ _ lk) rfl S.co S.afq rfl (W.codeRec_of KX hcd) (hb _ _ _ _ ?_);show wpAny_newFunctionEnv_cells S.ju hkind λenv he s1 x=>?_;subst he;show⟨lim.keeps x.toInCall.keep,codeAny_func ?_⟩;obtain⟨t,ht,hq⟩:_:=hbody A _ s H vs Q E (hr.aby _) hsp;have I:Aa (Mj CX P w K mg _ N _ _ f _ A _ s H E) [] _ H s1:=tF S hr.hd e0 hl r x;show IA (ht [] s1 _ H _ I hq) (λfl s' hs=>?_) λe s' hs=>hs;have fin:∀{σ':Ah}{H':AH}{v:AE}{u:AL},Aa (Mj CX P w K mg base N qual scope f cdv A _ s H E) [] σ' H' s'->Be v u->Q v H'->UE outer P w H s Q u s':=λ{σ' H' v u}J rv q=>⟨v,H',J.os,J.mf,J.af,J.cq,rv,q⟩;cases fl with|ret u=>obtain⟨v,σ',H',J,rv,q⟩:_:=hs;show fin J rv q|next=>obtain⟨σ',H',J,q⟩:_:=hs;show fin (v:=AE.non) J rfl q|brk=>obtain⟨_,_,_,q⟩:_:=hs;show HU q|cont=>obtain⟨_,_,_,q⟩:_:=hs;show HU q
def aK(r:List AE->AH->Bf->Prop)(t:Fi):Av:=λU H Q=>t U H λJ D=>r J D Q
theorem DI{x:AF}{id:String}(B:FX X (.builtin id) r)(E:Ge X x)(F:X.mg x=AG)(K:QI x=AA (.builtin id))(A:Gf X (e::D) t)(G:x≠"__name__":=by decide)(J:(x==("__debug__":AF))=AR:=by decide)(C:Cp (e::D) X.ae=(AR,Ba e X.ae)::Cp D X.ae:=by rfl)(U:(GU V (Cp D X.ae)).any (·.1)=AR:=by rfl):Al X (.Call (.Name x p) (e::D) [] V) (aK r t):=by intro W s Y H Q I h;show QO (KN I E F K ?_ G J);show AD7 (Ax (A _ _ s Y H _ I h) λM s1⟨N,Z,z,r1,L⟩=>B _ s1 Y Z N M Q z r1 L) C U
theorem IS{x:AF}(B:FX X (.type T) r)(E:Ge X x)(F:X.mg x=AG)(K:QI x=AA (.type T))(A:Gf X (e::D) t)(G:x≠"__name__":=by decide)(J:(x==("__debug__":AF))=AR:=by decide)(C:Cp (e::D) X.ae=(AR,Ba e X.ae)::Cp D X.ae:=by rfl)(U:(GU V (Cp D X.ae)).any (·.1)=AR:=by rfl):Al X (.Call (.Name x p) (e::D) [] V) (aK r t):=by intro W s Y H Q I h;show QO (KN I E F K ?_ G J);show P6 (Ax (A _ _ s Y H _ I h) λM s1⟨N,Z,z,r1,L⟩=>B _ s1 Y Z N M Q z r1 L) C U
theorem eY(R:Ve s.heap t vs.toArray)(N:Ve s.heap b J.toArray)(F:vs≠[])(L:J=[]->Q (.ref t) s)(M:J≠[]->Q (.ref s.heap.objs.size) {s with heap:=s.heap.push {cls:=.type "tuple",data:=.seq (vs++J).toArray}})(Z:vs.length+J.length<=Az):A1 (Ao prog w) A (G5 .Add (.ref t) (.ref b)) Q E s:=by
 lk;obtain⟨⟨I,C,B,H⟩,U,O,n,P⟩:=id R;obtain⟨⟨z,K,V,S⟩,D,W,G,Y⟩:=id N;k_in;subst O P W Y;have e:vs.toArray++J.toArray=(vs++J).toArray:=by simp
 by_cases hw:J=[]
 .show concat_meets ⟨_,U,rfl⟩ ⟨_,D,rfl⟩ ADd ADh ACq ACg (ACc _ _) (tuple_addW1 t b _ _ n G C _ H _ (by simpa using F) (by simp[hw])) ⟨U,D,L hw⟩
 . show concat_meets ⟨_,U,rfl⟩ ⟨_,D,rfl⟩ ADd ADh ACq ACg (ACc _ _) (tuple_addW2 t b _ _ n G C _ H _ (by simpa using F) (by simpa using hw) (by show Z)) ⟨U,D,?_⟩;rw[e];show M hw
def CM(n d:Nat):Option Int->Nat|AG=>d|AA v=>if v<0 then(v+(n:Int)).toNat else D3 v.toNat n
theorem fC(n d k:Nat):CM n d (AA (k:Int))=D3 k n:=by change(if(k:Int)<0 then((k)+(n:Int)).toNat else D3 _ n)=D3 k n;rw[AEz (ABK _),Int.toNat_natCast]
theorem Vw(v:Int)(n d:Nat):(if v<0 then KR (v+(n:Int)) 0 else D3 v (n:Int))=((CM n d (AA v):Nat):Int):=by
 change(if v<0 then KR _ 0 else D3 v _)=(((if v<0 then(v+(n)).toNat else D3 _ n):Nat):Int);by_cases D:v<0;.simp only[AE0 D];simp
 .lia
theorem eW(lo hi:Option Int)(n:Nat):zP lo hi 1 (n:Int)=(((CM n 0 lo:Nat):Int),((CM n n hi:Nat):Int)):=by
 have D:¬((1)<0):=by simp
 unfold zP;show SJ ?_ ?_;.cases lo with |none=>rfl|some v=>show Vw v n 0
 .cases hi with|none=>rfl|some v=>show Vw v n n
theorem fB(i j:Nat):zQ (i:Int) (j:Int) 1=j-i:=by
 unfold zQ;have D:(1)>0:=by simp
 simp;split<;>simp_all
theorem Vx(p:NC v o)(h:Q o s):A1 (Ao prog w) A (AEB v) Q E s:=by cases p with|none=>show ACQ h|int i t=>show slicePart_int h
theorem fE{lo:Option Int}{Q:Int×Int×Nat->AZ->Prop}(Z:s.heap.IsSliceOf U V W .none)(z:NC V lo)(B:NC W hi)(h:Q (((CM n 0 lo:Nat):Int),1,CM n n hi-CM n 0 lo) s):A1 (Ao prog w) A (AEA (.ref U) (Bn (n:Int))) Q E s:=by obtain⟨C,J,Y,D⟩:_:=id Z;show BI (BI (AAd J D rfl (BI (AAd J D rfl (BI (AAd J D rfl (Cq ?_)))))));show BI (ACQ ?_);show BI (Vx z (BI (Vx B (BI (Cq ?_)))));change A1 _ _ (match zP lo hi 1 _ with|(lo,hi)=>Bn (lo,(1:Int),zQ lo hi 1)) _ _ s;rw[eW lo hi n];change A1 _ _ (Bn _) _ _ s;rw[fB];show Cq h
theorem fA(xs:Array AL)(i k:Nat):((FZ k).filterMap λ(m:Nat)=>xs[((i:Int)+(m:Int)*1).toNat]?).toArray=((xs.toList.drop i).take k).toArray:=by
 have e:(λ(m:Nat)=>xs[((i:Int)+(m)*1).toNat]?)=λm=>xs[i+m]?:=by
  funext m;have:((i)+(m:Int)*1).toNat=i+m:=by lia
  rw[this]
 rw[e];have:=pick_run xs i k;rw[List.filterMap_map]at this;have D:((λx=>xs[x]?)∘λx=>i+x)=λm=>xs[i+m]?:=rfl;rw[D]at this;rw[this]
theorem eZ{lo:Option Int}(U:Ve s.heap t D)(B:s.heap.IsSliceOf z C F .none)(K:NC C lo)(L:NC F hi)(hw:¬(CM D.size 0 lo=0/\CM D.size D.size hi=D.size))(h:Q (.ref s.heap.objs.size) {s with heap:=s.heap.push {cls:=.type "tuple",data:=.seq ((D.toList.drop (CM D.size 0 lo)).take (CM D.size D.size hi-CM D.size 0 lo)).toArray}})(H:D.size<=Az):A1 (Ao prog w) A (OX (.ref t) (.ref z)) Q E s:=by
 have J:=by change((D.toList.drop (CM D.size 0 lo)).take (CM D.size D.size hi-CM D.size 0 lo)).toArray.size<=Az;rw[IZ,Er,M3,MI];omega
 obtain⟨I,Z,W,G⟩:_:=id B;have V:s.TypeIs (.ref z) _:=⟨I,Z,W⟩;unfold OX;try with_reducible show SX ?_
 show BI (wpAny_sequenceKey U.typeIs (by decide) ?_);show BI (wpAny_callSpecial?_slot U.typeIs cN (ADl cN U.typeIs entry_tuple_getitem ?_ (args_tuple_getitem _ _)));change A1 _ _ (AED _>>=_) _ _ s;show BI (tupleItemsOf_ U ?_);show BI (wpAny_typeOf V ?_);show BI (fE B K L ?_);have Y:¬((((CM D.size 0 lo):Int)==0&&(1:Int)==1&&(CM D.size D.size hi-CM D.size 0 lo)==D.size)=AK):=by intro q;rw[QZ,QZ]at q;have M:=eq_of_beq q.1.1;show hw ⟨LU.mp M,by simp_all⟩
 change A1 _ _ (if(((CM _ 0 lo:Nat):Int)==0&&(1)==1&&(CM _ _ hi-CM _ 0 lo)==D.size)=AK then _ else _) _ _ s;rw[AEz Y,fA];first|show BI (AAe (Cq ⟨_,rfl,Cq h⟩) J)|show wpAny_bind _|show wpAny_bind _|show wpAny_bind _
abbrev RJ:=Ah->AH->(Option Int->AH->Prop)->Prop
def RF(X:Bp)(e:Option BN)(t:RJ):Prop:=∀(D:List (AB×BR))(s:AZ)(U:Ah)(H:AH)(Q:Option Int->AH->Prop),Aa X D U H s->t U H Q->A1 (Ao X.ai X.w) X.A (evalPart e X.ae) (λu V=>E2 (λo J=>Aa X D U J V) (λo O=>NC u o) (λo J=>Q o J)) X.xe s
def aQ:RJ:=λO H Q=>Q AG H
def aR(t:Av):RJ:=λJ H Q=>t J H λx D=>GO (λi=>x=.int i) (λi=>Q (AA i) D)
theorem Uh:∀{D:List AL},Bb (ns.map AE.int) D->SK D ns:=by induction ns with|nil=>intro D r;cases r;show .nil|cons n ns J=>intro D r;cases r with|cons r1 r2=>obtain⟨t,e⟩:=r1;subst e;show .cons n t (J r2)
theorem IT:RF X AG aQ:=by intro D s J H Q I h;show Cq ⟨_,H,I,.none,h⟩
theorem Gi(h:Al X e Y):RF X (AA e) (aR Y):=by intro J s Z H Q I hw;show Ax (h _ s Z H _ I hw) λu s1 D=>?_;lk;obtain⟨x,U,V,r1,W⟩:=D;obtain⟨i,rfl,q⟩:=W;obtain⟨t,rfl⟩:=r1;k_in;show⟨_,U,V,.int i t,q⟩
def Nl(X:Bp)(r:AE->Option Int->Option Int->AH->Bf->Prop):Prop:=∀(D:List (AB×BR))(s:AZ)(z:Ah)(H:AH)(x:AE)(v Y Z:AL)(U J:Option Int)(W:AB)(Q:Bf),Aa X D z H s->Be x v->s.heap.IsSliceOf W Y Z .none->NC Y U->NC Z J->r x U J H Q->E2 (λT A=>typeLookup (.type T) "__getitem__"=Bn (AA (.builtin A))) (λT O=>s.TypeIs v T) (λO O=>A1 (Ao X.ai X.w) X.A (OX v (.ref W)) (Fh X D z Q) X.xe s)
def aS(r:AE->Option Int->Option Int->AH->Bf->Prop)(Y:Av)(z Z:RJ):Av:=λD H Q=>Y D H λx J=>z D J λl U=>Z D U λu W=>r x l u W Q
theorem HM{lo:Option BN}(P:Nl X r)(M:Al X e j)(O:RF X lo m)(S:RF X hi k):Al X (.Subscript e (.Slice lo hi AG p) c) (aS r j m k):=by intro Z s W H Q I h;show zE (Ax (M _ s W H _ I h) λv s1 D=>?_);obtain⟨x,B,E,r1,f⟩:_:=D;show wpAny_Slice (Ax (O _ s1 W B _ E f) λz s2 J=>?_);obtain⟨l,C,F,a,g⟩:_:=J;show Ax (S _ s2 W C _ F g) λA s3 U=>?_;obtain⟨u,Y,G,d,i⟩:_:=U;show Cq ?_;have K:Aa X _ W Y {s3 with heap:=s3.heap.push {cls:=.type "slice",data:=.fields #[z,A,.none]}}:=G.iq λb o q=>C1 _ q;obtain⟨T,n,L,R,N⟩:_:=P _ _ W Y x v z A l u _ Q K r1 (AEd ..) a d i;show tail_any R L N (by with_unfolding_all rfl)
def Gw(xs:List AE)(lo hi:Option Int):List AE:=(xs.drop (CM xs.length 0 lo)).take (CM xs.length xs.length hi-CM xs.length 0 lo)
theorem Y7(xs:List AE)(lo hi:Option Int):(Gw xs lo hi).length<=xs.length:=by unfold Gw;rw[Er,M3];lia
def U8(K:As):AE->Option Int->Option Int->AH->Bf->Prop:=λx U J H Q=>JG (λa D=>x=.ref a) (λa D=>Cs K H a D) (λO D=>¬(CM D.length 0 U=0/\CM D.length D.length J=D.length)) (λO D=>∀p,H p=AG->Q (.ref p) (AM H p (.tup (Gw D U J))))
theorem wI:Nl X (U8 X.K):=by
 intro W s N H x v L M B Z K Q I F z C E h;lk;obtain⟨a,Y,rfl,A,hw,q⟩:=h;cases F;obtain⟨J,r,U,V⟩:=I.ir A;k_in;have D:J.toArray.size=Y.length:=by show r.aq.symm
 show⟨_,_,cN.lookup,U.typeIs,?_⟩;show eZ U z C E (by rw[D];show hw) ?_ (by rw[D];show V);rw[D];show⟨.ref _,_,I.ou (λb G q=>C1 _ q) (Aj _) ?_,rfl,q _ (I.cq.cj (Aj _))⟩;show⟨Ag (Y7 Y B Z) V,_,(r.yx _).adx _,ACB _ _⟩
def U5(K:As):EF:=λx y H Q=>Yp (λa b J D=>x=.ref a) (λO b O O=>y=.ref b) (λa O J O=>Cs K H a J) (λO b O D=>Cs K H b D) (λO O J O=>J≠[]) (λO O J D=>J.length+D.length<=Az) (λa O O D=>(D=[]->Q (.ref a) H)) (λO O J D=>(D≠[]->∀p,H p=AG->Q (.ref p) (AM H p (.tup (J++D)))))
theorem Bb.xh(r:Bb xs D):D=[]↔xs=[]:=by cases r with|nil=>simp|cons _ _=>simp
theorem uG:CP X (G5 .Add) (U5 X.K):=by intro U s N H x y v u Q I F G h;lk;obtain⟨a,b,L,M,rfl,rfl,V,W,Y,D,C,E⟩:=h;cases F;cases G;obtain⟨Z,r1,A,_⟩:=I.ir V;obtain⟨J,r2,B,_⟩:=I.ir W;k_in;show eY A B (λz=>Y (r1.xh.mp z)) (λz=>⟨.ref a,H,I,rfl,C (r2.xh.mp z)⟩) (λz=>?_) (by rw[<-r1.aq,<-r2.aq];show D);show⟨.ref _,_,I.ou (λb K q=>C1 _ q) (Aj _) ?_,rfl,E (λw=>z (r2.xh.mpr w)) _ (I.cq.cj (Aj _))⟩;show⟨by rw[Bx];show D,_,r1.ql r2,ACB _ _⟩
def Ny(n:Nat)(i:Int):Option Nat:=if 0<=i then(if i<n then AA i.toNat else AG)else if-(n:Int)<=i then AA (i+n).toNat else AG
def DQ(xs:List α)(i:Int):Option α:=(Ny xs.length i).bind λj=>xs[j]?
theorem tJ(h:Ny n i=AA j):seqIndex? i n=AA j/\j<n/\-(n:Int)<=i/\i<n:=by
  unfold Ny at h;by_cases J:0<=i
  . rw[AE0 J]at h;by_cases D:i<n
    . rw[AE0 D]at h;have e:=By h;show⟨by rw[seqIndex_of J D,e],by lia,GB (Int.neg_ofNat_le_ofNat _ _) J,D⟩
    .rw[AEz D]at h;cases h
  . rw[AEz J]at h;by_cases D:-(n)<=i;. rw[AE0 D]at h;have e:=By h;show⟨by rw[seqIndex_neg (by simp_all) D,e],by lia,D,Qb (Sk J) (Int.neg_lt_zero_iff.mp (G7 D (Sk J)))⟩
    .rw[AEz D]at h;cases h
theorem US(h:DQ xs i=AA v):∃j,seqIndex? i xs.length=AA j/\xs[j]?=AA v/\j<xs.length/\-(xs.length:Int)<=i/\i<xs.length:=by unfold DQ at h;cases e:Ny _ i with|none=>rw[e]at h;cases h|some j=>rw[e]at h;obtain⟨D,J,U,V⟩:_:=tJ e;show⟨j,D,h,J,U,V⟩
theorem Ap{α:Type}{xs:List α}{j:Nat}{v:α}(h:xs[j]?=AA v):DQ xs (j:Int)=AA v:=by
 have D:=(BU.mp h).1;have e:Ny xs.length (j)=AA j:=by unfold Ny;rw[AE0 (by simp),AE0 (by simp_all)];simp
 unfold DQ;rw[e];show h
def UN(b:BN):Prop:=∀o i,dO b AR o i=operate [o,i] (OX o i)
def Ni(X:Bp)(r:EF):Prop:=∀(U D:BN)(J:List (AB×BR))(s:AZ)(W:Ah)(H:AH)(x y:AE)(v u:AL)(Q:Bf),Aa X J W H s->Be x v->Be y u->r x y H Q->dO D AR v u=operate [v,u] (OX v u)->A1 (Ao X.ai X.w) X.A (subscriptTail U D v u) (Fh X J W Q) X.xe s
def Mh(X:Bp)(id:String)(r:AE->List AE->AH->Bf->Prop):Prop:=∀(D:List (AB×BR))(s:AZ)(W:Ah)(H:AH)(x:AE)(U:List AE)(v:AL)(J:List AL)(Q:Bf),Aa X D W H s->Be x v->Bb U J->r x U H Q->A1 (Ao X.ai X.w) X.A (Ig (.builtin id) (v::J)) (Fh X D W Q) X.xe s
theorem FL(Y:Ni X r)(V:Al X a C)(W:Al X b E)(Z:UN b):Al X (.Subscript a b z) (LC r C E):=by intro D s F H Q I h;show zE (UT V W I h λv u s2 x y J U A B q=>Y a b _ s2 F J x y v u Q U A B q (Z _ _))
def Z1(K:As):EF:=λx y H Q=>UR (λp D i v=>x=.ref p) (λO O i O=>y=.int i) (λp D O O=>CD K H p D) (λO D i v=>DQ D i=AA v) (λO O O v=>Q v H)
def Z2(K:As):EF:=λx y H Q=>UR (λp D i v=>x=.ref p) (λO O i O=>y=.int i) (λp D O O=>Cs K H p D) (λO D i v=>DQ D i=AA v) (λO O O v=>Q v H)
def vW:EF:=λx y H Q=>Nn (λz i c=>x=.str z) (λO i O=>y=.int i) (λz O O=>z.length<=Az) (λz i c=>DQ z.cps.toList i=AA c) (λO O c=>Q (.str ⟨#[c]⟩) H)
theorem tK:Ni X (Z1 X.K):=by
  intro A Z D s R H x y v u Q I O P h E;lk;obtain⟨p,b,i,z,rfl,rfl,N,L,q⟩:=h;cases O;obtain⟨t,rfl⟩:=P;obtain⟨V,r,W,a⟩:=I.bz N;obtain⟨j,J,F,S,G,K⟩:=US L;obtain⟨w,B,Y⟩:=r.xc F;k_in;have M:=r.aq;have T:=PX;have fin:Fh X D R Q w s:=⟨z,H,I,Y,q⟩;by_cases C:0<=i
  . have U:=by rw[seqIndex_of C K]at J;show By J
    show item_listR W.isList C (by lia) (by rw[U];simpa using B) fin E
  . have U:(i+(V.toArray.size:Int)).toNat=j:=by rw[seqIndex_neg (by simp_all) G]at J;rw[IZ,<-M];show By J
    show ACS (x:=w) W.isList.typeIs ADi.lookup (wpAny_getItem_list_neg W.isList (by simp_all) (by rw[IZ]<;>simp_all) (by lia) (by rw[U];simpa using B) ⟨rfl,fin⟩) E
theorem tL:Ni X (Z2 X.K):=by intro U J V s M H x y v u Q I K L h F;lk;obtain⟨p,T,i,z,rfl,rfl,E,B,q⟩:=h;cases K;obtain⟨t,rfl⟩:=L;obtain⟨G,r,W,S⟩:=I.ir E;obtain⟨j,Z,A,N,O,P⟩:=US B;obtain⟨w,Y,D⟩:=r.xc A;k_in;have C:=r.aq;have R:=PX;have fin:Fh X _ M Q w s:=⟨z,H,I,D,q⟩;show ACS W.typeIs cN.lookup (getItem_tuple W (by lia) (by lia) (by rw[IZ,<-C];show Z) (by simpa using Y) ⟨rfl,fin⟩) F
theorem ZP:Ni X vW:=by
 intro J D V s P H x y v u Q I G K h F;lk;obtain⟨z,i,c,rfl,rfl,N,C,q⟩:=h;obtain⟨t,rfl⟩:=G;obtain⟨O,rfl⟩:=K;obtain⟨j,U,Z,L,A,B⟩:=US C;k_in;have E:z.cps.toList.length=z.length:=by simp[AC4]
 rw[E]at U A B;have M:=PX;show tail_any (Vq s z t) slot_str_getitem.lookup (getItem_str (c:=c) (by have W:Ae (i< -(2^63:Int))=AR:=AE3 (by lia);have Y:Ae (i>=2^63)=AR:=AE3 (by lia);rw[W,Y,Bool.or_false]) (by rw[U];simpa using Z) ⟨.str ⟨#[c]⟩,H,I.ig _,⟨_,rfl⟩,q⟩) F
theorem wK(lo hi:Option Int)(n:Nat):(QM lo hi AG n).1=((CM n 0 lo:Nat):Int)/\(QM lo hi AG n).2.1=((CM n n hi:Nat):Int)/\(QM lo hi AG n).2.2=1:=by
 show⟨?_,?_,rfl⟩;.cases lo with |none=>simp[QM,CM]|some i=>
  simp only[QM,CM,AB8,show(1)>0 by decide,AE7];by_cases h:i<0;.simp only[h,AE7]<;>lia
  .simp only[h,AE5]<;>lia
 .cases hi with |none=>simp[QM,CM]|some i=>
  simp only[QM,CM,AB8,show(1)>0 by decide,AE7];by_cases h:i<0;.simp only[h,AE7]<;>lia
  .simp only[h,AE5]<;>lia
theorem wJ(its:List AL)(lo hi:Option Int):slicePick its.toArray lo hi AG=((its.drop (CM its.length 0 lo)).take (CM its.length its.length hi-CM its.length 0 lo)).toArray:=by obtain⟨D,J,U⟩:_:=wK lo hi _;unfold slicePick;rw[D,J,U];simp only[sliceRange_one,pick_run,IZ]<;>rfl
def Z4(K:As):AE->Option Int->Option Int->AH->Bf->Prop:=λx U J H Q=>E2 (λa D=>x=.ref a) (λa D=>CD K H a D) (λO D=>∀p,H p=AG->Q (.ref p) (AM H p (.lst (Gw D U J))))
theorem wH:Nl X (Z4 X.K):=by intro U s N H x v L M A V K Q I E W B C h;lk;obtain⟨a,F,rfl,Y,q⟩:=h;cases E;obtain⟨z,r,J,Z⟩:=I.bz Y;k_in;have D:=r.aq;show⟨_,_,ADi.lookup,J.isList.typeIs,?_⟩;show wpAny_getItem_list_slice J.isList W B C .none (by simp) ?_ (by rw[IZ]<;>simp_all);rw[wJ,<-D];show⟨.ref _,_,I.ou (λb G q=>C1 _ q) (Aj _) ?_,rfl,q _ (I.cq.cj (Aj _))⟩;show⟨Ag (Y7 F A V) Z,_,0,(r.yx _).adx _,F7 _ rfl⟩
def Lp:AE->Bool|.non=>AK|.bl _=>AK|.int _=>AK|.str _=>AK|_=>AR
def Ln:AE->AE->Bool|.non,.non=>AK|.bl a,.bl b=>a==b|.bl a,.int b=>(if a then 1 else 0)==b|.int a,.bl b=>a==(if b then 1 else 0)|.int a,.int b=>a==b|.str a,.str b=>a==b|_,_=>AR
theorem sI(W:Be y u)(D:Be x v)(Y:Lp y=AK)(U:Lp x=AK):c8 A s u v (Ln y x):=by cases y with
 |non=>cases W;cases x with |non=>cases D;show AC1 _|bl b=>cases D;show AEm b|int b=>obtain⟨t,rfl⟩:=D;show AEn b t|str b=>obtain⟨t,rfl⟩:=D;show AEo b t|_=>show absurd (show AR=AK from U) Dx
 |bl a=> cases W;cases x with |non=>cases D;show AEh a|bl b=>cases D;show AEf a b|int b=>obtain⟨t,rfl⟩:=D;show AEg a b t|str b=>obtain⟨t,rfl⟩:=D;show AEi a b t|_=>show absurd (show AR=AK from U) Dx
 |int a=> obtain⟨J,rfl⟩:=W;cases x with |non=>cases D;show AEl a J|bl b=>cases D;show AEj a J b|int b=>obtain⟨t,rfl⟩:=D;show AEk a J b t|str b=>obtain⟨t,rfl⟩:=D;show AC0 a J b t|_=>show absurd (show AR=AK from U) Dx
 |str a=> obtain⟨J,rfl⟩:=W;cases x with |non=>cases D;show AEq a J|bl b=>cases D;show AEp a J b|int b=>obtain⟨t,rfl⟩:=D;show AC2 a J b t|str b=>obtain⟨t,rfl⟩:=D;show AEr a J b t|_=>show absurd (show AR=AK from U) Dx
 |_=>show absurd (show AR=AK from Y) Dx
def Ml(x:AE)(u:AL):Bool:=match u with|.none=>Ln .non x|.bool b=>Ln (.bl b) x|.int i _=>Ln (.int i) x|.str z _=>Ln (.str z) x|_=>AR
theorem ZG(r:Be y u)(f:Lp y=AK):Ml x u=Ln y x:=by cases y with|non=>cases r;rfl|bl b=>cases r;rfl|int i=>obtain⟨t,rfl⟩:=r;rfl|str z=>obtain⟨t,rfl⟩:=r;rfl|_=>show absurd (show AR=AK from f) Dx
theorem RS(h:Bb xs D):xs.all Lp=AK->D.any (Ml x)=xs.any λy=>Ln y x:=by induction h with|nil=>showλO=>rfl|cons r _ J=>intro f;rw[ABU,QZ]at f;rw[VM,VM,ZG r f.1,J f.2]
theorem Rh(Y:Be x v)(U:Lp x=AK)(h:Bb xs J):xs.all Lp=AK->∀u∈J,c8 A s u v (Ml x u):=by induction h with |nil=>intro _ u D;cases D|cons r _ W=>
 intro f Z D;rw[ABU,QZ]at f;rcases CZ.mp D with rfl|D;.rw[ZG r f.1];show sI r Y f.1 U
 .show W f.2 Z D
def Fj(x:AE)(xs:List AE):Bool:=xs.any λy=>Ln y x
def Rr(K:As)(J:Bool):EF:=λx y H Q=>RO (λp D=>y=.ref p) (λp D=>(CD K H p D\/Cs K H p D)) (λO O=>Lp x=AK) (λO D=>D.all Lp=AK) (λO D=>Q (.bl (if J then !Fj x D else Fj x D)) H)
theorem uI:CP X (Ej .In) (Rr X.K AR):=by
 intro Y s C H x y v u Q I Z A h;lk;obtain⟨p,B,rfl,J,W,U,q⟩:=h;cases A;k_in;rcases J with J|J
 . obtain⟨D,r,V,z⟩:_:=I.bz J;show SeqAt.in_listAt _ V.isList (λw hw=>Rh Z W r U w (by simpa using hw)) ⟨.bl _,H,I,rfl,?_⟩;rw[show D.toArray.any _=D.any (Ml x)by simp,RS r U];show q
 . obtain⟨D,r,V,z⟩:_:=I.ir J;show SeqAt.in_tupleAt _ V (λw hw=>Rh Z W r U w (by simpa using hw)) ⟨.bl _,H,I,rfl,?_⟩;rw[show D.toArray.any _=D.any (Ml x)by simp,RS r U];show q
theorem uP:CP X (Ej .NotIn) (Rr X.K AK):=by
 intro Y s C H x y v u Q I Z A h;lk;obtain⟨p,B,rfl,J,W,U,q⟩:=h;cases A;k_in;rcases J with J|J
 . obtain⟨D,r,V,z⟩:_:=I.bz J;show SeqAt.notIn_listAt _ V.isList (λw hw=>Rh Z W r U w (by simpa using hw)) ⟨.bl _,H,I,rfl,?_⟩;rw[show D.toArray.any _=D.any (Ml x)by simp,RS r U];show q
 . obtain⟨D,r,V,z⟩:_:=I.ir J;show SeqAt.notIn_tupleAt _ V (λw hw=>Rh Z W r U w (by simpa using hw)) ⟨.bl _,H,I,rfl,?_⟩;rw[show D.toArray.any _=D.any (Ml x)by simp,RS r U];show q
theorem rD:FX X (.builtin "len") (λxs H Q=>∃p ys,xs=[.ref p]/\(CD X.K H p ys\/Cs X.K H p ys)/\Q (.int ys.length) H):=by
 intro Y s C H xs B Q I r h;lk;obtain⟨p,ys,rfl,J,q⟩:=h;obtain⟨u,rfl,z⟩:=HN r;cases z;k_in;have A:=PX;rcases J with J|J
 . obtain⟨U,W,V,Z⟩:_:=I.bz J;have D:=W.aq;show Calls.call_len_list V.isList (by simp<;>lia) ⟨.int _,H,I.ig _,⟨_,by rw[IZ,D]⟩,q⟩
 . obtain⟨U,W,V,Z⟩:_:=I.ir J;have D:=W.aq;show len_tuple V (by simp<;>lia) ⟨.int _,H,I.ig _,⟨_,by rw[IZ,D]⟩,q⟩
theorem rE:FX X (.builtin "len") (λxs H Q=>∃z,xs=[.str z]/\z.length<=Az/\Q (.int z.length) H):=by intro D s W H xs V Q I r h;lk;obtain⟨z,rfl,U,q⟩:=h;obtain⟨u,rfl,t,rfl⟩:=HN r;k_in;have J:=PX;show len_str (by lia) ⟨.int _,H,I.ig _,⟨_,rfl⟩,q⟩
theorem rF:FX X (.type "list") (λxs H Q=>∃p ys,xs=[.ref p]/\(CD X.K H p ys\/Cs X.K H p ys)/\∀l,H l=AG->Q (.ref l) (AM H l (.lst ys))):=by
 intro G s L H xs M Q I r h;lk;obtain⟨p,ys,rfl,Y,q⟩:=h;obtain⟨u,rfl,K⟩:=HN r;cases K;k_in;have fin:∀(D:List _),Bb ys _->ys.length<=Az->∀(J:BZ)(V:Nat),(∀b F,s.heap.get? b=AA F->J.get? b=AA F)->J.get? _=AA _->Fh X _ L Q _ _:=λD U Z J V z e=>⟨.ref _,_,I.ou (t':=s.toks) z (Aj _) (show DZ _ _ _ J _ (.lst ys)from⟨Z,D,V,U,e⟩),rfl,q _ (I.cq.cj (Aj _))⟩;rcases Y with Y|Y;. lk;obtain⟨D,U,E,Z⟩:=I.bz Y;have W:=U.aq;obtain⟨o,C,A,n,B⟩:=E.isList;k_in;show ADU p (.inl rfl) C A B (λJ V z e=>fin _ U Z J V z e) (by simp<;>simp_all)
 . lk;obtain⟨D,U,E,Z⟩:=I.ir Y;have W:=U.aq;obtain⟨o,C,A,n,B⟩:=E;k_in;show ADU p (.inr rfl) C A B (λJ V z e=>fin _ U Z J V z e) (by simp<;>simp_all)
def Rx(K:As)(T:String)(x:AE)(H:AH):Prop:=match x with|.str _=>T="str"|.int _=>T="int"|.ref p=>(T="list"/\∃J,CD K H p J)\/(T="tuple"/\∃o,K.lookup p=AA o/\o.cls=.type "tuple"/\o.dict=AG)\/(T="dict"/\((∃D,H p=AA (.dK D))\/∃D,H p=AA (.dT D)))\/(T="set"/\∃S n,H p=AA (.set S n))|_=>False
theorem bC{K:Ah}(I:Aa X U K H s)(r:Be x v)(W:Rx X.K T x H):s.TypeIs v T/\∀a,v=.ref a->∃B,s.heap.get? a=AA B/\B.dict=AG:=by cases x with
  |str z=> lk;obtain⟨t,rfl⟩:=r;cases(show T="str"from W);k_in;show⟨Vq s z t,λO e=>nomatch e⟩|int i=> lk;obtain⟨t,rfl⟩:=r;cases(show T="int"from W);k_in;show⟨AAZ s i t,λO e=>nomatch e⟩|ref p=>
    cases r;rcases W with⟨rfl,L,F⟩|⟨rfl,o,D,E,Z⟩|⟨rfl,D⟩|⟨rfl,S,n,D⟩
    . obtain⟨G,_,C,_⟩:_:=I.bz F;show⟨C.isList.typeIs,λa e=>?_⟩;lk;cases e;obtain⟨o,n,e,c,Z,_⟩:=C;k_in;show⟨o,e,Z⟩
    . show⟨⟨o,I.sj p o D,E⟩,λa e=>?_⟩;cases e;show⟨o,I.sj _ o D,Z⟩
    . have z:∃o,s.heap.get? p=AA o/\o.ExactDict:=by
        rcases D with⟨A,D⟩|⟨A,D⟩;. obtain⟨_,_,_,_,o,_,_,e,J,_⟩:=I.cq p _ D;show⟨o,e,J⟩
        . obtain⟨_,_,_,_,o,_,_,e,J,_⟩:=I.cq p _ D;show⟨o,e,J⟩
      obtain⟨o,e,J⟩:_:=z;show⟨⟨o,e,J.1⟩,λa Y=>?_⟩;cases Y;show⟨o,e,J.2.1⟩
    . obtain⟨o,_,_,_,e,J,_⟩:_:=I.cq p _ D;show⟨⟨o,e,J.1⟩,λa Y=>?_⟩;cases Y;show⟨o,e,J.2.1⟩|_=>show HU W
def aJ(K:As)(T:String)(r:AE->List AE->AH->Bf->Prop)(J:Av):Av:=λU H Q=>J U H λx D=>Rx K T x D/\r x [] D Q
def VE(K:As)(T:String)(r:AE->List AE->AH->Bf->Prop)(W:Av)(t:Fi):Av:=λJ H Q=>W J H λx D=>Rx K T x D/\t J D λY U=>r x Y U Q
theorem uX{D:AF}{id:String}(M:cZ T)(Z:Slot T D id)(z:dQ (.builtin id)=Bn (.type "method_descriptor"))(K:Mh X id r)(L:Al X o O)(J:Js o D X.ae (Ba o X.ae)=Ba o X.ae:=by rfl)(U:(V.endLine==W.line)=AK:=by rfl):Al X (.Call (.Attribute o D V) [] [] W) (aJ X.K T r O):=by intro B s C H Q I h;show wpAny_Call_method0_late J U (Ax (L _ s C H _ I h) λv s1 Y=>?_);lk;obtain⟨x,E,A,r1,P,N⟩:=Y;obtain⟨F,G⟩:=bC A r1 P;k_in;show⟨T,id,M,Z,z,F,G,SN rfl (AAS (K _ s1 C E x [] v [] Q A r1 .nil N))⟩
theorem uW{U:AF}{id:String}(d:cZ T)(C:Slot T U id)(E:dQ (.builtin id)=Bn (.type "method_descriptor"))(a:Mh X id r)(b:Al X o i)(S:Gf X (e::Y) t)(V:Js o U X.ae (Ba o X.ae)=Ba o X.ae:=by rfl)(z:((GU D (Cp (e::Y) X.ae)).all (λx=>!x.1)&&(QE D (QK [] X.ae)).all (λx=>x.1.isSome)&&Ae ((e::Y).length+([]:List MG).length+(if([]:List MG).isEmpty then 0 else 1)<30))=AK:=by rfl)(W:(Z.endLine==D.line)=AK:=by rfl)(c:Cp (e::Y) X.ae=(AR,Ba e X.ae)::Cp Y X.ae:=by rfl)(J:(GU D (Cp Y X.ae)).any (·.1)=AR:=by rfl):Al X (.Call (.Attribute o U Z) (e::Y) [] D) (VE X.K T r i t):=by intro L s F H Q I h;show wpAny_Call_method_late V z W rfl (Ax (b _ s F H _ I h) λv s1 A=>?_);lk;obtain⟨x,M,G,r1,j,f⟩:=A;obtain⟨P,R⟩:=bC G r1 j;k_in;show⟨T,id,d,C,E,P,R,?_⟩;have K:=S D _ s1 F M _ G f;rw[c]at K⊢;show SN (by change(AR||(GU _ _).any _)=AR;rw[J]<;>rfl) (Vk ?_);show Ax K λk s2 B=>?_;obtain⟨l,N,O,r2,g⟩:_:=B;show a _ s2 F N x l v k Q O r1 r2 g
def UL(X:Bp)(id:String)(r:AE->List AE->AH->Bf->Prop):Prop:=∀(D:List (AB×BR))(s:AZ)(W:Ah)(H:AH)(x:AE)(U:List AE)(v:AL)(J:List AL)(Q:Bf),Aa X D W H s->Be x v->Bb U J->r x U H Q->A1 (Ao X.ai X.w) X.A (Ig (.builtin id) (v::J)) (Fh X D W Q) X.xe s
theorem Bb.zu(h:Bb [x] D):∃u,D=[u]/\Be x u:=by cases h with|cons r t=>cases t;show⟨_,rfl,r⟩
theorem Bb.afb:∀{D:List AL},Bb [] D->D=[]|_,.nil=>rfl
theorem Bb.abo(h:Bb xs D):Bb xs.reverse D.reverse:=by induction h with|nil=>show .nil|cons r t J=>rw[ABt,ABt];show Bb.ql J (.cons r .nil)
theorem Bb.afu(h:Bb xs D):∀k:Nat,Bb (FF k xs).flatten (FF k D).flatten|0=>.nil|k+1=>by show Bb.ql h (Bb.afu h k)
theorem ZJ(its:List AL):∀(k:Nat)(D:List AL),ABd (λU V=>U++V) D.toArray (FF k its.toArray)=(D++(FF k its).flatten).toArray
 |0,D=>by simp|k+1,D=>by
  have e:D.toArray++its.toArray=(D++its).toArray:=by simp
  have J:(D++its)++(FF k its).flatten=D++(FF (k+1) its).flatten:=by rw[yU,ABc,FN]
  rw[<-J,<-ZJ _ k _,<-e,yU,yM]
theorem Aa.acb{its its':List AL}(I:Aa X D z H s)(J:H l=AA (.lst xs))(e:s.heap.get? l=AA {cls:=.type "list",data:=.seq its.toArray n})(V:f its.toArray=its'.toArray)(Y:Bb ys its')(Z:ys.length<=Az):Aa X D z (AM H l (.lst ys)) {s with heap:=s.heap.update l (Ei f),toks:=t'}:=by have q:=ACw e f;rw[V]at q;show I.vw (by rw[J];show trivial) (.inl rfl) (λA u U W=>(ACv _ _ (DJ U)).trans W) ⟨_,q⟩ ?_;show⟨Z,_,_,Y,q⟩
theorem Aa.adl(I:Aa X D V H s)(J:Bb ys its)(U:ys.length<=Az):Aa X D V (AM H s.heap.objs.size (.lst ys)) {s with heap:=s.heap.push {cls:=.type "list",data:=.seq its.toArray},toks:=t'}:=I.ou (λO O q=>C1 _ q) (Aj _) ⟨U,its,0,J,F7 _ rfl⟩
theorem Aa.cj(I:Aa X D J H s):H s.heap.objs.size=AG:=I.cq.cj (Aj _)
theorem Aa.zb(I:Aa X D U H s)(J:H l=AA (.lst xs)):xs.length<=Az/\∃(its:List AL)(n:Nat),Bb xs its/\xs.length=its.length/\s.heap.get? l=AA {cls:=.type "list",data:=.seq its.toArray n}:=by obtain⟨z,its,n,r,e⟩:_:=I.cq l _ J;show⟨z,its,n,r,r.aq,e⟩
theorem Zg(h:n<=Az):zO n=AR:=by show AE3 (Va.mpr h)
def U4:AE->List AE->AH->Bf->Prop:=λx J H Q=>Nn (λl D y=>x=.ref l) (λO O y=>J=[y]) (λl D O=>H l=AA (.lst D)) (λO D O=>D.length<Az) (λl D y=>Q .non (AM H l (.lst (D++[y]))))
theorem t8:UL X "list.append" U4:=by intro J s G H x C v B Q I Y W h;lk;obtain⟨l,E,y,rfl,rfl,D,A,q⟩:=h;cases Y;obtain⟨u,rfl,V⟩:=W.zu;obtain⟨z,U,n,r,Z,e⟩:=I.zb D;k_in;show NF zS ⟨_,e,rfl⟩ ACf (ACb _ _) (ADb l _ n u (by simp_all)) ⟨e,?_⟩;show⟨.non,_,I.acb D e (by simp) (r.ql (.cons V .nil)) ?_,rfl,q⟩;rw[Bx];assumption
def vU:AE->List AE->AH->Bf->Prop:=λx U H Q=>RR (λl b D J=>x=.ref l) (λO b O O=>U=[.ref b]) (λl O D O=>H l=AA (.lst D)) (λO b O J=>H b=AA (.lst J)) (λO O D J=>D.length+J.length<=Az) (λl O D J=>Q .non (AM H l (.lst (D++J))))
theorem Lw:UL X "list.extend" vU:=by
 intro Y s T H x O v N Q I K G h;lk;obtain⟨l,b,P,S,rfl,rfl,W,A,M,q⟩:=h;cases K;obtain⟨u,rfl,E⟩:=G.zu;cases E;obtain⟨z,U,n,r,L,e⟩:=I.zb W;obtain⟨R,D,C,r2,B,Z⟩:=I.zb A;k_in;have V:U.toArray.size+D.toArray.size<=Az:=by simp_all
 have J:¬(!U.toArray.isEmpty&&zO (U.toArray.size+D.toArray.size))=AK:=by rw[Zg V,AA0];show Dx
 show NF NB ⟨_,e,rfl⟩ F.entry_list_extend (F.args_list_extend_2 _ _) (AutoSeq1.list_extend_list_list_0 l _ n b _ C J (by simp_all) (Jn V)) ⟨e,Z,?_⟩;show⟨.non,_,I.acb W e (by simp) (r.ql r2) ?_,rfl,q⟩;rw[Bx];omega
def v7:AE->List AE->AH->Bf->Prop:=λx J H Q=>JG (λl D=>x=.ref l) (λO O=>J=[]) (λl D=>H l=AA (.lst D)) (λl D=>Q .non (AM H l (.lst D.reverse)))
theorem t9:UL X "list.reverse" v7:=by intro V s E H x B v A Q I Y W h;lk;obtain⟨l,C,rfl,rfl,U,q⟩:=h;cases Y;k_in;have J:=W.afb;subst J;obtain⟨z,D,n,r,Z,e⟩:_:=I.zb U;show NF ACn ⟨_,e,rfl⟩ F.entry_list_reverse (F.args_list_reverse_1 _) (AutoSeq1.list_reverse_list_0 l D.toArray n (by rw[IZ];omega)) ⟨e,?_⟩;show⟨.non,_,I.acb (its':=D.reverse) U e (by simp) r.abo ?_,rfl,q⟩;rw[List.length_reverse];omega
def vS:EF:=λx y H Q=>RR (λl b D J=>x=.ref l) (λO b O O=>y=.ref b) (λl O D O=>H l=AA (.lst D)) (λO b O J=>H b=AA (.lst J)) (λO O D J=>D.length+J.length<=Az) (λO O D J=>∀p,H p=AG->Q (.ref p) (AM H p (.lst (D++J))))
theorem HK:CP X (G5 .Add) vS:=by
 intro U s N H x y v u Q I B C h;lk;obtain⟨l,b,K,M,rfl,rfl,Z,Y,F,q⟩:=h;cases B;cases C;obtain⟨z,J,n,r,E,e⟩:=I.zb Z;obtain⟨L,D,G,r2,A,V⟩:=I.zb Y;k_in;show P.add_list e V ?_ (by simp_all);have W:J.toArray++D.toArray=(J++D).toArray:=by simp
 rw[W];show⟨.ref _,_,I.adl (r.ql r2) (by rw[Bx];omega),rfl,q _ I.cj⟩
def v5:EF:=λx y H Q=>Yo (λl k D=>x=.ref l) (λO k O=>y=.int k) (λl O D=>H l=AA (.lst D)) (λO k O=>-(2^63)<=k) (λO k O=>k<2^63) (λO k D=>D.length*k.toNat<=Az) (λO k D=>∀p,H p=AG->Q (.ref p) (AM H p (.lst (FF k.toNat D).flatten)))
theorem ZU(xs:List α)(k:Nat):(FF k xs).flatten.length=k*xs.length:=by induction k with|zero=>simp|succ k D=>rw[yU,ABc,Bx,D,Nat.succ_mul,VS]
theorem uS:CP X (G5 .Mult) v5:=by
 intro A s T H x y v u Q I L M h;lk;obtain⟨l,k,S,rfl,rfl,G,C,E,Z,q⟩:=h;cases L;obtain⟨t,rfl⟩:=M;obtain⟨z,D,n,r,K,e⟩:=I.zb G;k_in;have J:D.toArray.size*k.toNat<=Az:=by rw[IZ,<-K];show Z
 have V:=by
  have:(Az)<=(2^63-1)/8:=by decide
  show Va.mpr (Ag J this)
 have W:¬(!AD9 k)=AK:=by rw[fitsIndex_both C E];show Dx
 have U:¬zO (D.toArray.size*k.toNat)=AK:=by rw[Zg J];show Dx
 have Y:ABd (λO P=>O++P) #[] (FF (if D.toArray.isEmpty=AK then 0 else k.toNat) D.toArray)=(FF k.toNat D).flatten.toArray:=by
  have B:=λm=>by have:=ZJ D m [];rw[ABp]at this;show this
  rw[B];cases D with |nil=>simp|cons a R=>rw[AEz (by simp)]
 show wpAny_binaryOp_repeat_ref (by decide) ⟨_,e,rfl⟩ (λN=>AAZ N k t) noFill_list_mul F.fills_int_mul ACm repeat_list F.slot_int_index.lookup (NF ACm (AAZ s k t) F.entry_int_rmul (F.args_int_rmul_2 _ _) (int___rmul___int_list k t l _ n) ⟨e,rfl,⟨_,e,rfl⟩,NF F.slot_list_mul ⟨_,e,rfl⟩ F.entry_list_mul (F.args_list_mul_2 _ _) (AD8 l _ n k t W V U) ⟨e,?_⟩⟩);rw[Y];show⟨.ref _,_,I.adl (r.afu _) (by rw[ZU,Nat.mul_comm];show Z),rfl,q _ I.cj⟩
def BQ[DecidableEq J](kvs:List (J×AE))(k:J):Option AE:=(kvs.find? λD=>Ae (D.1=k)).map (·.2)
def Bh[DecidableEq J](kvs:List (J×AE))(k:J)(v:AE):List (J×AE):=if(kvs.any λD=>Ae (D.1=k))=AK then kvs.map (λD=>if D.1=k then(D.1,v)else D)else kvs++[(k,v)]
def Cb[DecidableEq D](kvs:List (D×AE))(k:D):List (D×AE):=kvs.filter λJ=>Ae (J.1≠k)
theorem IV[DecidableEq D]{p:D×AE}(e:p.1=k):BQ (p::r) k=AA p.2:=by simp[BQ,R6,e]
theorem IU[DecidableEq D]{p:D×AE}(e:¬p.1=k):BQ (p::r) k=BQ r k:=by simp[BQ,R6,e]
section
variable{κ:Type}[DecidableEq κ]
theorem Pn(k:κ):∀kvs:List (κ×AE),(kvs.any λD=>Ae (D.1=k))=(BQ kvs k).isSome
 |[]=>rfl|p::r=>by
  rw[VM];by_cases e:p.1=k;.simp only[IV e,AE1 e,Bool.true_or,Option.isSome_some]
  .rw[IU e,AE3 e];show Pn k r
end
section
variable{κ:Type}[DecidableEq κ]
theorem bD(k j:κ)(y:AE):∀kvs:List (κ×AE),BQ (kvs.map λD=>if D.1=k then(D.1,y)else D) j=(BQ kvs j).map λx=>if j=k then y else x
  |[]=>rfl|p::r=>by
    have J:=bD k j y r;rw[FO];by_cases h:p.1=k
    . rw[AE0 h];by_cases e:p.1=j;.rw[IV (p:=(p.1,y)) e,IV e,cE,AE0 (e.symm.trans h)]
      .rw[IU (p:=(p.1,y)) e,IU e,J]
    . rw[AEz h];by_cases e:p.1=j;.rw[IV e,IV e,cE,AEz (λz=>h (e.trans z))]
      .rw[IU e,IU e,J]
end
section
variable{κ:Type}[DecidableEq κ]
theorem bE(k j:κ)(y:AE):∀kvs:List (κ×AE),BQ kvs k=AG->BQ (kvs++[(k,y)]) j=if j=k then AA y else BQ kvs j
 |[],_=>by
  by_cases e:k=j;.rw[AE0 e.symm];show IV e
  .rw[AEz (λz=>e z.symm)];show IU e|p::r,D=>by
  rw[R4];have J:¬p.1=k:=λz=>by rw[IV z]at D;cases D
  rw[IU J]at D;have U:=bE k j y r D;by_cases e:p.1=j;.rw[IV e,IV e,AEz (λz=>J (e.trans z))]
  .rw[IU e,IU e,U]
end
theorem IW{U:Type}[DecidableEq U](kvs:List (U×AE))(k j:U)(y:AE):BQ (Bh kvs k y) j=if j=k then AA y else BQ kvs j:=by
  unfold Bh;by_cases a:(kvs.any λJ=>Ae (J.1=k))=AK
  . rw[AE0 a,bD];rw[Pn]at a;by_cases e:j=k
    . obtain⟨x,D⟩:=zB.mp a;rw[AE0 e,e,D,cE,AE0 rfl]
    . rw[AEz e];cases BQ _ j with|none=>rfl|some x=>rw[cE,AEz e]
  . rw[AEz a];show bE k j y _ ?_;rw[Pn]at a;cases q:BQ _ k with|none=>rfl|some x=>rw[q]at a;show(a rfl).elim
theorem Rf[DecidableEq D](kvs:List (D×AE))(k:D)(v:AE):(Bh kvs k v).length<=kvs.length+1:=by
 unfold Bh;split;.simp
 .rw[Bx,Mz];show Aj _
theorem K0.si(r:K0 o u):o.isSome=u.isSome:=by cases o with
 |none=>cases u with |none=>rfl|some _=>show(show False from r).elim
 |some _=>cases u with |none=>show(show False from r).elim|some _=>rfl
theorem K0.adg(r:K0 o u)(J:Be d D):Be (o.getD d) (u.getD D):=by cases o with
 |none=>cases u with |none=>show J|some _=>show(show False from r).elim
 |some _=>cases u with|none=>show(show False from r).elim|some _=>show r
theorem Ey.zw[DecidableEq W](r:Ey kvs vs)(k:W):K0 (BQ kvs k) (Gp vs k):=by induction r with|nil=>show HS|@cons p q A J h t Z=>
    obtain⟨U,Y⟩:=h;by_cases e:p.1=k
    . have D:=U.symm.trans e;have b:Gp (q::J) k=AA q.2:=by simp[Gp,R6,D]
      rw[IV e,b];show Y
    . have D:¬q.1=k:=λz=>e (U.trans z);have b:Gp (q::J) k=Gp J k:=by simp[Gp,R6,D]
      rw[IU e,b];show Z
theorem Ey.acr[DecidableEq J](r:Ey kvs vs)(k:J):(kvs.any λD=>Ae (D.1=k))=vs.any λD=>Ae (D.1=k):=by induction r with|nil=>rfl|cons h t U=>rw[VM,VM,U,h.1]
theorem Ey.aci[DecidableEq U](r:Ey kvs vs)(k:U)(Z:Be y u):Ey (kvs.map λD=>if D.1=k then(D.1,y)else D) (vs.map λD=>if D.1=k then(D.1,u)else D):=by induction r with|nil=>show .nil|@cons p q A B h t Y=>
 rw[FO,FO];show .cons ?_ Y;obtain⟨J,W⟩:=h;by_cases e:p.1=k;.rw[AE0 e,AE0 (J.symm.trans e)];show⟨J,Z⟩
 .rw[AEz e,AEz (λz=>e (J.trans z))];show⟨J,W⟩
theorem Ey.ie[DecidableEq J](r:Ey kvs vs)(k:J)(D:Be y u):Ey (Bh kvs k y) (QN vs k u):=by
 unfold Bh QN;rw[r.acr k];by_cases e:(vs.any λU=>Ae (U.1=k))=AK;.rw[AE0 e,AE0 e];show r.aci k D
 .rw[AEz e,AEz e];show ACy r ⟨rfl,D⟩
theorem Ey.yx[DecidableEq U](r:Ey kvs vs)(k:U):Ey (Cb kvs k) (without vs k):=by unfold Cb without;induction r with|nil=>show .nil|@cons p q Z A h t J=>
    obtain⟨D,Y⟩:=h;rw[G1,G1];by_cases e:p.1=k
    . have a:¬Ae (p.1≠k)=AK:=by simp[e]
      have b:¬Ae (q.1≠k)=AK:=by simp[D.symm.trans e]
      rw[AEz a,AEz b];show J
    . have W:¬q.1=k:=λz=>e (D.trans z);have a:Ae (p.1≠k)=AK:=by simp[e]
      have b:Ae (q.1≠k)=AK:=by simp[W]
      rw[AE0 a,AE0 b];show .cons ⟨D,Y⟩ J
theorem Ey.aq[DecidableEq D]{kvs:List (D×AE)}{vs:List (D×AL)}(r:Ey kvs vs):kvs.length=vs.length:=Ic r
theorem ZF[DecidableEq D](kvs:List (D×AE))(k:D):(Cb kvs k).length<=kvs.length:=FY _ _
theorem K8(r:Be (Au k) u):(Eo P w).is k u=AK:=by cases k with|inl i=>obtain⟨t,e⟩:=(show∃t,u=QB i t from r);subst e;show t6 P w i t|inr x=>obtain⟨t,e⟩:=(show∃t,u=QC x t from r);subst e;show t7 P w x t
theorem ZO:∀{D:List AN}{J:List AL},Bb (D.map Au) J->ItemsAre (Eo P w) D J|[],_,r=>by cases r;show .nil|k::D,_,r=>by cases r with|cons h t=>show .cons (K8 h) (ZO t)
abbrev KI(H:AH):List (List AN×AE)->List (List AN×AB×AL)->Prop:=BJ λp q=>p.1=q.1/\H q.2.1=AA (.tup (p.1.map Au))/\Be p.2 q.2.2
theorem KI.zw(r:KI H kvs xs)(k:List AN):K0 (BQ kvs k) ((OU xs k).map (·.2)):=by induction r with |nil=>show HS|@cons p q Z J h t Y=>
    obtain⟨U,_,W⟩:_:=h;by_cases e:p.1=k
    . have D:=U.symm.trans e;have b:OU (q::J) k=AA q.2:=by simp[OU,R6,D]
      rw[IV e,b];show W
    . have D:¬q.1=k:=λz=>e (U.trans z);have b:OU (q::J) k=OU J k:=by simp[OU,R6,D]
      rw[IU e,b];show Y
theorem KI.aci(r:KI H kvs xs)(k:List AN)(Z:Be y u):KI H (kvs.map λJ=>if J.1=k then(J.1,y)else J) (xs.map (putAt k u)):=by induction r with|nil=>show .nil|@cons p q A B h t Y=>
 rw[FO];show .cons ?_ Y;obtain⟨D,U,W⟩:_:=h;unfold putAt;by_cases e:p.1=k;.rw[AE0 e,AE0 (D.symm.trans e)];show⟨D,U,Z⟩
 .rw[AEz e,AEz (λz=>e (D.trans z))];show⟨D,U,W⟩
theorem KI.ie(r:KI H kvs xs)(k:List AN)(J:H b=AA (.tup (k.map Au)))(D:Be y u):KI H (Bh kvs k y) (storedH xs k b u):=by
 have e:(kvs.any λU=>Ae (U.1=k))=(OU xs k).isSome:=by rw[Pn,(r.zw k).si,AB9]
 unfold Bh storedH;rw[e];by_cases q:(OU xs k).isSome=AK;.rw[AE0 q,AE0 q];show r.aci k D
 .rw[AEz q,AEz q];show ACy r ⟨rfl,J,D⟩
theorem KI.adj(r:KI H kvs xs)(D:∀b ys,H b=AA (.tup ys)->H' b=AA (.tup ys)):KI H' kvs xs:=Yk r λO O z=>⟨z.1,D _ _ z.2.1,z.2.2⟩
theorem Z7(D:DY P w H h)(e:F2 H a u):DZ P w H h a u:=e.ok D
theorem Nt(D:DY P w H h)(e:F2 H a (.dK kvs)):kvs.length<=Az/\(a==KZ)=AR/\∃vs,Ey kvs vs/\h.DictOf (Eo P w) a vs:=show DZ P w H h a _ from Z7 D e
theorem Jf(D:DY P w H h)(e:H a=AA (.dK kvs)):kvs.length<=Az/\(a==KZ)=AR/\∃vs,Ey kvs vs/\h.DictOf (Eo P w) a vs:=Nt D (.inl e)
theorem PR(Y:DY P w H h)(e:H a=AA (.tup (D.map Au))):(Vp (Eo P w)).is h D a:=by obtain⟨_,W,r,o,J,U,n,V⟩:_:=(show DZ P w H h a _ from Y a _ e);show⟨o,_,n,J,U,V,by simpa using ZO r⟩
theorem Nu(W:DY P w H h)(e:F2 H a (.dT kvs)):kvs.length<=Az/\(a==KZ)=AR/\∃xs,KI H kvs xs/\h.DictOfH (Vp (Eo P w)) a xs:=by
 obtain⟨z,y,xs,r,o,Z,Y,A,B,C,E,F⟩:_:=(show DZ P w H h a _ from Z7 W e);show⟨z,y,xs,r,o,Z,Y,A,B,C,E,λx D=>?_,F⟩;have J:∀{l:List _}{m:List _},KI H l m->∀x∈m,(Vp (Eo P w)).is h x.1 x.2.1:=by intro l m q;induction q with |nil=>intro x D;show nomatch D|@cons p q I K U t G=>
  intro x D;rcases CZ.mp D with e|D
  . subst e;show PR W (by rw[<-U.1];show U.2.1)
  .show G x D
 show J r x D
theorem sH(D:DY P w H h)(e:H a=AA (.dT kvs)):kvs.length<=Az/\(a==KZ)=AR/\∃xs,KI H kvs xs/\h.DictOfH (Vp (Eo P w)) a xs:=Nu D (.inl e)
def Ku(H:AH)(a:AB)(y:AE)(r:Option AE):Prop:=(E2 (λD k=>F2 H a (.dK D)) (λO k=>y=Au k) (λD k=>r=BQ D k))\/PL (λD k b=>F2 H a (.dT D)) (λO O b=>y=.ref b) (λO k b=>H b=AA (.tup (k.map Au))) (λD k O=>r=BQ D k)
def UH(H:AH)(a:AB)(y v:AE)(H':AH):Prop:=(JG (λD k=>H a=AA (.dK D)) (λO k=>y=Au k) (λD O=>D.length<Az) (λD k=>H'=AM H a (.dK (Bh D k v))))\/Nn (λD k b=>H a=AA (.dT D)) (λO O b=>y=.ref b) (λO k b=>H b=AA (.tup (k.map Au))) (λD O O=>D.length<Az) (λD k O=>H'=AM H a (.dT (Bh D k v)))
theorem Me(e:H a=AA (.dK kvs)):Ku H a (Au k) (BQ kvs k):=.inl ⟨kvs,k,.inl e,rfl,rfl⟩
theorem UH.k{H:AH}{a:AB}{kvs:List (AN×AE)}{k:AN}{v:AE}(e:H a=AA (.dK kvs))(D:kvs.length<Az):UH H a (Au k) v (AM H a (.dK (Bh kvs k v))):=.inl ⟨kvs,k,e,rfl,D,rfl⟩
theorem Aa.aff(I:Aa X D J H s):KZ<s.heap.objs.size:=by have h:=(I.wt.xf.keeps I.bk).lt;show LH (by decide) h
theorem rW(L:A.units+1<GV)(I:Aa X V M H s)(g:Ku H a y (AA v))(C:Be y u)(h:∀U s',Aa X V M H s'->Be v U->Q U s'):A1 (Ao X.ai X.w) A (OX (.ref a) u) Q E s:=by
 rcases g with⟨B,k,e,Y,l⟩|⟨B,k,b,e,Y,F,l⟩
 . subst Y;lk;obtain⟨z,G,N,D,W⟩:=Nt I.cq e;obtain⟨U,hw,J⟩:=Nk (by rw[l];show D.zw k);k_in;show wpAny_getItem_of (K8 C) W.mapOf hw (h U _ (I.ig _) J)
 . subst Y;lk;cases(show u=Ds b from C);obtain⟨z,G,O,D,W⟩:=Nu I.cq e;obtain⟨U,hw,J⟩:=Nk (by rw[l];show D.zw k);obtain⟨p,K,Z⟩:=EA.mp hw;k_in;show wpAny_getItem_heap (dP L) (PR I.cq F) W K ?_;rw[Z];show h U _ (I.ig _) J
theorem rX(C:A.units+1<GV)(I:Aa X J F H s)(g:Ku H a y o)(Z:Be y u)(h:∀s',Aa X J F H s'->Q (.bool o.isSome) s'):A1 (Ao X.ai X.w) A (Ej .In u (.ref a)) Q E s:=by
 rcases g with⟨Y,k,e,V,l⟩|⟨Y,k,b,e,V,B,l⟩
 . subst V;obtain⟨z,W,G,D,U⟩:_:=Nt I.cq e;show wpAny_in_of (K8 Z) W U.mapOf ?_;rw[<-(D.zw k).si,<-l];show h _ (I.ig _)
 . subst V;lk;cases(show u=Ds b from Z);obtain⟨z,W,K,D,U⟩:=Nu I.cq e;k_in;show wpAny_in_heap (dP C) (PR I.cq B) W U ?_;have q:=(D.zw k).si;rw[AB9]at q;rw[<-q,<-l];show h _ (I.ig _)
theorem PN(I:Aa X D B H s)(A:PD (H a))(Z:QA a s.heap J)(Y:∃q,J.get? a=AA q)(U:DZ X.ai X.w (AM H a V) J a V):Aa X D B (AM H a V) {s with heap:=J,toks:=t'}:=I.vw A (.inl rfl) (λb q W z=>(Z.2 b W).trans z) Y U
theorem RT(z:kvs.length<=Az)(W:(a==KZ)=AR)(D:Ey kvs vs)(U:J.DictOf (Eo P w) a vs):DZ P w H' J a (.dK kvs):=⟨z,W,vs,D,U⟩
theorem rZ(j:A.units+1<GV)(I:Aa X V p H s)(g:UH H a y v H')(O:Be y u)(N:Be v r)(h:∀s',Aa X V p H' s'->Q () s'):A1 (Ao X.ai X.w) A (setItem (.ref a) u r) Q E s:=by
  rcases g with⟨U,k,e,B,l,Z⟩|⟨U,k,b,e,B,K,l,Z⟩
  . subst B Z;obtain⟨z,C,n,D,Y⟩:_:=Jf I.cq e;have m:n.length<=Az:=by rw[<-D.aq];show z
    have F:=by have:=Rf U k v;show Ag this l
    show wpAny_setItem_pairs (K8 O) Y λM J G=>h _ ?_;have i:∃q,M.get? a=AA q:=let⟨q,_,_,W,_⟩:=J;⟨q,W⟩;show PN I (by rw[e];show HS) G i (RT F C (D.ie k N) J)
  . subst B Z;lk;cases(show u=Ds b from O);obtain⟨z,C,o,D,Y⟩:=sH I.cq e;k_in;have m:o.length<=Az:=by rw[<-Ic D];show z
    have F:=by have:=Rf U k v;show Ag this l
    show wpAny_setItem_heap (dP j) (PR I.cq K) Y λM J G=>h _ ?_;obtain⟨q,R,P,W,S,T,d,_,f⟩:_:=J;show PN I (by rw[e];show HS) G ⟨q,W⟩ ⟨F,C,_,(D.ie k K N).adj λc t L=>?_,q,R,P,W,S,T,d,f⟩;rw[AV (uB L e (λz=>nomatch z))];show L
theorem Y8(I:Aa X W S H s)(e:H a=AA (.dK kvs))(B:Be (Au k) u)(l:BQ kvs k=AA v)(F:D=[]\/∃x,D=[x])(h:∀Y s',Aa X W S (AM H a (.dK (Cb kvs k))) s'->Be v Y->Q Y s'):A1 (Ao X.ai X.w) A (Ig (.builtin "dict.pop") (.ref a::u::D)) Q E s:=by
 lk;obtain⟨z,L,R,J,C⟩:=Jf I.cq e;obtain⟨Y,hw,Z⟩:=Nk (by rw[<-l];show J.zw k);k_in;have N:(keyPart u).isSome=AK:=by cases k with |inl i=>obtain⟨t,q⟩:=(show∃t,u=QB i t from B);subst q;rfl|inr x=>obtain⟨t,q⟩:=(show∃t,u=QC x t from B);subst q;rfl
 have K:argsOk "dict.pop" ⟨.ref a::u::D,[]⟩:=by
  rcases F with q|⟨x,q⟩;.subst q;show F.args_dict_pop_2 _ _
  .subst q;show ACa _ _ _
 show Vn cU C.typeIs ACe K (meets_dict_pop_there _ a (K8 B) _ F N) ⟨R,Y,C,by rw[<-J.aq];show z,hw,λG U P=>h Y _ ?_ Z⟩;have M:∃q,G.get? a=AA q:=let⟨q,_,_,O,_⟩:=U;⟨q,O⟩;show PN I (by rw[e];show HS) P M (RT (Ag (ZF _ k) z) L (J.yx k) U)
theorem rY(I:Aa X D C H s)(e:H a=AA (.dK kvs))(U:Be (Au k) u)(l:BQ kvs k=AG)(h:∀s',Aa X D C H s'->Q r s'):A1 (Ao X.ai X.w) A (Ig (.builtin "dict.pop") [.ref a,u,r]) Q E s:=by
 obtain⟨z,Y,W,J,V⟩:_:=Jf I.cq e;have Z:Gp W k=AG:=UO (by rw[<-l];show J.zw k);have B:(keyPart u).isSome=AK:=by cases k with|inl i=>obtain⟨t,q⟩:=(show∃t,u=QB i t from U);subst q;rfl|inr x=>obtain⟨t,q⟩:=(show∃t,u=QC x t from U);subst q;rfl
 show Vn cU V.typeIs ACe (ACa _ _ _) (meets_dict_pop_default (Eo X.ai X.w) a (K8 U) Y B r) ⟨W,V,Z,h _ (I.ig _)⟩
def Yi(i:BN):Prop:=∀J D,dO i AR J D=operate [J,D] (OX J D)
theorem wU{id:String}(F:typeLookup (.type T) "__getitem__"=Bn (AA (.builtin id)))(G:Yi D)(h:A1 (Ao prog w) A (Ba J env) (λo W=>A1 (Ao prog w) A (Ba D env) (λi U=>U.TypeIs o T/\A1 (Ao prog w) A (OX o i) Q E U) E W) E s):A1 (Ao prog w) A (Ba (.Subscript J D B) env) Q E s:=by
 show zE (IA h (λo W Z=>IA Z (λi U V=>?_) λO O x=>x) λO O x=>x);obtain⟨C,V⟩:=V;show BI ?_;show BI (wpAny_specialOf C F ?_);have fin:A1 (Ao prog w) A (dO D AR o i) (λr Y=>A1 (Ao prog w) A (letTemporaryGo J o r>>=λO=>Bn r) Q E Y) E U:=by rw[G o i];show wpAny_operating (IA V (λr Y z=>BI (wpAny_letTemporaryGo (Cq z))) λO O x=>x)
 first |show Cq (BI fin)|show wpAny_bind _|show wpAny_bind _
theorem sA(I:Aa X D W H s)(g:Ku H a y o):s.TypeIs (.ref a) "dict":=by
 rcases g with⟨U,k,e,_,_⟩|⟨U,k,b,e,_,_,_⟩
 . obtain⟨_,_,Y,_,J⟩:_:=Nt I.cq e;show J.typeIs
 . obtain⟨_,_,Z,_,J⟩:_:=Nu I.cq e;show J.typeIs
def wY(V W:Av):Av:=λJ H Q=>V J H λx U=>W J U λy D=>E2 (λa v=>x=.ref a) (λa v=>Ku D a y (AA v)) (λO v=>Q v D)
def w4(W V:Av):Av:=λJ H Q=>W J H λy U=>V J U λx D=>E2 (λa o=>x=.ref a) (λa o=>Ku D a y o) (λO o=>Q (.bl o.isSome) D)
def wD(Z A z:Av):Cz:=λD U H=>z U H λv V=>Z U V λx W=>A U W λy Y=>E2 (λa J=>x=.ref a) (λa J=>UH Y a y v J) (λO J=>D.nx U J)
theorem Fm(hu:X.A.units+1<GV)(ho:Al X o td)(hi:Al X i ty)(hs:Yi i):Al X (.Subscript o i pos) (wY td ty):=by intro pins s σ H Q I h;show wU F.slot_dict_getitem.lookup hs (Ax (ho _ s σ H _ I h) λu s1 hh11=>?_);obtain⟨x,H1,I1,rx,q1⟩:_:=hh11;show Ax (hi _ s1 σ H1 _ I1 q1) λiv s2 hh21=>?_;obtain⟨y,H2,I2,ry,a,v,ex,g,q2⟩:_:=hh21;subst ex;obtain rfl:u=Ds a:=rx;show⟨sA I2 g,rW hu I2 g ry λw' s3 I3 rw'=>⟨v,H2,I3,rw',q2⟩⟩
theorem Zq(B:X.A.units+1<GV)(hi:Al X i M)(A:Al X o L):Yj X .In i o (w4 M L):=by intro D s J H Q I h;show Ax (hi D s J H _ I h) λN s1⟨y,U,W,K,E⟩=>Ax (A D s1 J U _ W E) λu s2⟨x,V,Y,G,a,C,z,g,F⟩=>?_;subst z;obtain rfl:u=Ds a:=G;show rX B Y g K λs3 Z=>⟨.bl C.isSome,V,Z,rfl,F⟩
theorem KP(M:X.A.units+1<GV)(K:Al X o b)(hi:Al X i d)(N:Al X J c)(L:OZ J (AA (.Subscript o i U)) W.line X.ae=Bn AR):Ez X (.Assign [.Subscript o i U] J W) (wD b d c):=by intro Y s V H D I h;show wpAny_Assign_Subscript (Ax (N _ s V H _ I h) λr s1⟨v,Z,B,R,O⟩=>Ax (K _ s1 V Z _ B O) λu s2⟨x,z,C,S,P⟩=>Ax (hi _ s2 V z _ C P) λf s3⟨y,e,E,T,a,A,G,g,Q⟩=>?_) L;subst G;obtain rfl:u=Ds a:=S;show rZ M E g T R λs4 F=>⟨V,A,F,Q⟩
theorem ZE(h:BZ)(D:KZ<h.objs.size):DZ P w H (h.push {cls:=.type "dict",data:=.dict #[]}) h.objs.size (.dK []):=⟨Bc _,AFC.mpr (DJ (ET D)),[],.nil,AEc h⟩
def xA:Av:=λO H Q=>∀p,H p=AG->Q (.ref p) (AM H p (.dK []))
theorem Mq:Al X (.Dict [] [] J) xA:=λD s U H Q I h=>wpAny_Dict_empty ⟨.ref _,_,I.ou (λO O q=>C1 _ q) (Aj _) (ZE _ I.aff),rfl,h _ (I.cq.cj (Aj _))⟩
def VH:List (Av×Av)->Ah->AH->(List (AE×AE)->AH->Prop)->Prop|[],_,H,Q=>Q [] H|(Z,z)::r,D,H,Q=>Z D H λx J=>z D J λy U=>VH r D U λY W=>Q ((x,y)::Y) W
abbrev Yl:List (AE×AE)->List (AL×AL)->Prop:=BJ λp q=>Be p.1 q.1/\Be p.2 q.2
def RG(X:Bp)(Z:Cv)(U:List (Option BN))(D:List BN)(z:List (Av×Av)):Prop:=∀(J:List (AB×BR))(s:AZ)(A:Ah)(H:AH)(Q:List (AE×AE)->AH->Prop),Aa X J A H s->VH z A H Q->A1 (Ao X.ai X.w) X.A (evalPairs (pairTrees U D X.ae Z)) (λC B=>E2 (λW Y=>Aa X J A Y B) (λW O=>Yl W C) (λW Y=>Q W Y)) X.xe s
theorem vM:RG X D [] [] []:=λJ s U H Q I h=>pairTrees_nil_walk ⟨[],H,I,.nil,h⟩
theorem vL(N:Al X k B)(P:Al X v C)(O:RG X V z vs W):RG X V (AA k::z) (v::vs) ((B,C)::W):=by showλA s Z H Q I h=>pairTrees_cons_walk (Ax (N _ s Z H _ I h) λu s1 D=>?_);obtain⟨x,E,K,a,R⟩:_:=D;show Ax (P _ s1 Z E _ K R) λd s2 J=>?_;obtain⟨y,F,L,b,S⟩:_:=J;show Ax (O _ s2 Z F _ L S) λe s3 U=>?_;obtain⟨c,G,M,Y,T⟩:_:=U;show⟨_,G,M,.cons ⟨a,b⟩ Y,T⟩
def KO(kvs D:List (AN×AE)):List (AN×AE):=D.foldl (λJ U=>Bh J U.1 U.2) kvs
theorem Ey.ado:∀{D:List (AN×AE)}{J:List (AN×AL)}{kvs:List (AN×AE)}{vs:List (AN×AL)},Ey D J->Ey kvs vs->Ey (KO kvs D) (merged vs J):=by intro D J kvs vs r;induction r generalizing kvs vs with|nil=>intro q;show q|@cons p q Y Z h t U=>
 intro W;have e:Ey (Bh kvs p.1 p.2) (QN vs q.1 q.2):=by have:=W.ie p.1 h.2;rw[<-h.1];show this
 show U e
theorem ZV:∀(D kvs:List (AN×AE)),(KO kvs D).length<=kvs.length+D.length|[],kvs=>by show Aj _|p::r,kvs=>by have J:=ZV r (Bh kvs p.1 p.2);have U:=Rf kvs p.1 p.2;change(KO _ r).length<=_;rw[Mz];lia
theorem Y1:∀{kvs:List (AN×AE)}{U:List (AL×AL)},Yl (kvs.map λJ=>(Au J.1,J.2)) U->∃D,Carries (Eo P w) U D/\Ey kvs D|[],_,r=>by cases r;show⟨[],HS,.nil⟩|p::kvs,_,r=>by cases r with|@cons a b Y z h t=>lk;obtain⟨D,c,q⟩:=Y1 t;obtain⟨Z,W⟩:=b;k_in;show⟨(p.1,W)::D,⟨K8 h.1,rfl,c⟩,.cons ⟨rfl,h.2⟩ q⟩
def xD(J:List (Av×Av)):Av:=λZ H Q=>∀p,H p=AG->VH J Z (AM H p (.dK [])) λY U=>U p=AA (.dK [])/\JF (λ(D:List (AN×AE))=>Y=D.map (λW=>(Au W.1,W.2))) (λD=>D.length<=15) (λD=>Q (.ref p) (AM U p (.dK (KO [] D))))
theorem vA(h:RG X Z D J A)(V:D.all (·.isSome)=AK)(S:D.length=J.length)(N:D≠[])(B:D.length<=15):Al X (.Dict D J Z) (xD A):=by
 intro F s l H Q I q;have T:=I.cq.cj (Aj _);have G:=I.ou (t':=s.toks) (λv v q=>C1 _ q) (Aj _) (ZE _ I.aff);show wpAny_Dict_walk (knd:=Eo _ _) V S N B (Ax (h _ _ l _ _ G (q _ T)) λp s2 W=>?_);obtain⟨o,m,E,C,e,Y,L,n,f⟩:_:=W;subst L;lk;obtain⟨j,c,i⟩:=Y1 C;obtain⟨z,P,k,g,K⟩:=Jf E.cq e;cases g;k_in;show⟨j,c,K,λM U b=>⟨.ref _,_,?_,rfl,f⟩⟩;have d:(KO [] Y).length<=Az:=by have O:=ZV Y [];rw[VO]at O;rw[Dj];lia
 have R:∃q,M.get? _=AA q:=let⟨q,_,_,a,_⟩:=U;⟨q,a⟩;show PN E (by rw[e];show HS) b R (RT d P (i.ado .nil) U)
structure qU(X:Bp)(o:BN)(m:AF)(apos:Cv)(e:BN)(cpos:Cv):Prop where
 af:Js o m X.ae (Ba o X.ae)=Ba o X.ae
 ade:((GU cpos (Cp [e] X.ae)).all (λx=>!x.1)&&(QE cpos (QK [] X.ae)).all (λx=>x.1.isSome)&&Ae (([e]:List BN).length+([]:List MG).length+(if([]:List MG).isEmpty then 0 else 1)<30))=AK
 aap:(apos.endLine==cpos.line)=AK
 yq:GU cpos (Cp [e] X.ae)=[(AR,Ba e X.ae)]
structure UK(X:Bp)(o:BN)(m:AF)(apos:Cv)(e f:BN)(cpos:Cv):Prop where
 af:Js o m X.ae (Ba o X.ae)=Ba o X.ae
 ade:((GU cpos (Cp [e,f] X.ae)).all (λx=>!x.1)&&(QE cpos (QK [] X.ae)).all (λx=>x.1.isSome)&&Ae (([e,f]:List BN).length+([]:List MG).length+(if([]:List MG).isEmpty then 0 else 1)<30))=AK
 aap:(apos.endLine==cpos.line)=AK
 yq:GU cpos (Cp [e,f] X.ae)=[(AR,Ba e X.ae),(AR,Ba f X.ae)]
def Lg(H:AH)(a:AB):Prop:=(∃D,F2 H a (.dK D))\/∃D,F2 H a (.dT D)
theorem RY(I:Aa X U z H s)(d:Lg H a):s.TypeIs (.ref a) "dict"/\(∀b,Ds a=.ref b->∃D,s.heap.get? b=AA D/\D.dict=AG)/\(a==KZ)=AR:=by
 rcases d with⟨Z,e⟩|⟨Z,e⟩
 . obtain⟨_,Y,A,_,J⟩:_:=Nt I.cq e;show⟨J.typeIs,λb q=>?_,Y⟩;lk;cases q;obtain⟨D,_,_,V,W,_⟩:=J;k_in;show⟨D,V,W.2.1⟩
 . obtain⟨_,Y,B,_,J⟩:_:=Nu I.cq e;show⟨J.typeIs,λb q=>?_,Y⟩;lk;cases q;obtain⟨D,_,_,V,W,_⟩:=J;k_in;show⟨D,V,W.2.1⟩
theorem rV(G:A.units+1<GV)(I:Aa X U L H s)(g:Ku H a y o)(B:Be y u)(Z:Be d r)(h:∀C s',Aa X U L H s'->Be (o.getD d) C->Q C s'):A1 (Ao X.ai X.w) A (Ig (.builtin "dict.get") [.ref a,u,r]) Q E s:=by
 rcases g with⟨Y,k,e,V,l⟩|⟨Y,k,b,e,V,F,l⟩
 . subst V;obtain⟨z,W,M,D,J⟩:_:=Nt I.cq e;show Vn zR J.typeIs ACd (ACZ _ _ _) (meets_dict_get_default _ a (K8 B) W r) ⟨_,J.mapOf,h _ _ (I.ig _) ?_⟩;rw[l];show(D.zw k).adg Z
 . subst V;lk;cases(show u=Ds b from B);obtain⟨z,W,K,D,J⟩:=Nu I.cq e;k_in;show Vn zR J.typeIs ACd (ACZ _ _ _) (meetsH_dict_get_default _ a b W r) ⟨dP G,k,K,PR I.cq F,J,h _ _ (I.ig _) ?_⟩;rw[l];show(D.zw k).adg Z
def wZ(W Z Y:Av):Av:=λD H Q=>W D H λx J=>JF (λa=>x=.ref a) (λa=>Lg J a) (λa=>Z D J λy V=>Y D V λz U=>GO (λo=>Ku U a y o) (λo=>Q (o.getD z) U))
def xB(W Y:Av):Av:=λV H Q=>W V H λx J=>JF (λa=>x=.ref a) (λa=>Lg J a) (λa=>Y V J λy U=>PL (λD k v=>U a=AA (.dK D)) (λO k O=>y=Au k) (λD k v=>BQ D k=AA v) (λD k v=>Q v (AM U a (.dK (Cb D k)))))
def VF(Y A Z:Av):Av:=λU H Q=>Y U H λx V=>JF (λa=>x=.ref a) (λa=>Lg V a) (λa=>A U V λy W=>Z U W λz J=>JG (λD k=>J a=AA (.dK D)) (λO k=>y=Au k) (λD k=>(∀v,BQ D k=AA v->Q v (AM J a (.dK (Cb D k))))) (λD k=>(BQ D k=AG->Q z J)))
theorem Rl(R:X.A.units+1<GV)(P:Al X o k)(N:Al X e n)(O:Al X f l)(m:UK X o "get" D e f J):Al X (.Call (.Attribute o "get" D) [e,f] [] J) (wZ k n l):=by intro B s Z H Q I h;show SW m.af m.ade m.aap SO zR F.type_dict_get (Ax (P _ s Z H _ I h) λu s1 U=>?_);obtain⟨x,C,A,c,a,M,d,S⟩:_:=U;subst M;lk;obtain rfl:u=Ds a:=c;obtain⟨t1,t2,_⟩:=RY A d;k_in;show⟨t1,t2,?_⟩;rw[m.yq];show SN rfl (Vk (LJ (Ax (N _ s1 Z C _ A S) λq s2 V=>?_)));obtain⟨y,E,G,i,T⟩:_:=V;show LJ (Ax (O _ s2 Z E _ G T) λp s3 W=>?_);obtain⟨z,F,K,j,r,g,b⟩:_:=W;show OO ?_;show rV R K g i j λt s4 L Y=>⟨_,F,L,Y,b⟩
theorem Zt(L:Al X o S)(K:Al X e T)(m:qU X o "pop" D e J):Al X (.Call (.Attribute o "pop" D) [e] [] J) (xB S T):=by intro Z s z H Q I h;show SW m.af m.ade m.aap SO cU ACt (Ax (L _ s z H _ I h) λu s1 U=>?_);obtain⟨x,A,Y,P,a,F,d,N⟩:_:=U;subst F;lk;obtain rfl:u=Ds a:=P;obtain⟨t1,t2,_⟩:=RY Y d;k_in;show⟨t1,t2,?_⟩;rw[m.yq];show SN rfl (Vk (LJ (Ax (K _ s1 z A _ Y N) λc s2 V=>?_)));obtain⟨y,b,B,R,M,k,v,E,G,l,O⟩:_:=V;show OO ?_;subst G;show Y8 B E R l (.inl rfl) λf s3 C W=>⟨v,_,C,W,O⟩
theorem Zu(S:Al X o n)(P:Al X e q)(R:Al X f p)(m:UK X o "pop" J e f U):Al X (.Call (.Attribute o "pop" J) [e,f] [] U) (VF n q p):=by intro D s Z H Q I h;show SW m.af m.ade m.aap SO cU ACt (Ax (S D s Z H _ I h) λu s1⟨x,F,A,i,a,M,d,T⟩=>?_);subst M;lk;obtain rfl:u=Ds a:=i;obtain⟨t1,t2,_⟩:=RY A d;k_in;show⟨t1,t2,?_⟩;rw[m.yq];show SN rfl (Vk (LJ (Ax (P D s1 Z F _ A T) λr s2⟨y,G,L,E,b⟩=>LJ (Ax (R D s2 Z G _ L b) λO s3⟨z,K,B,j,W,k,C,N,c,g⟩=>OO ?_))));subst N;cases l:BQ W k with|some v=>show Y8 B C E l (.inr ⟨O,rfl⟩) λt s4 V Y=>⟨v,_,V,Y,c v l⟩|none=>show rY B C E l λs4 V=>⟨z,K,V,j,g l⟩
theorem eQ:∀(ns:List Int)(vs:List AL),W.WellAll P h vs (ns.map ADB)->SK vs ns:=by intro ns;induction ns with|nil=>intro vs w;cases w;show .nil|cons n ns D=>intro vs w;cases w with|cons a b=>cases a;show .cons _ _ (D _ b)
theorem eU{l:SR}(G:l.most=AA n)(J:l.row.toRowW.claim.pre D=AK)(z:W.WellAll P h U D):∃a vs ns,U=[Ds a]/\D=[W.WData.list (ns.map ADB)]/\h.get? a=AA {cls:=.type "list",data:=.seq vs.toArray}/\SK vs ns/\ns.length<=n:=by
 have Z:=(W.pre_splitW J).1;have F:l.pre.holds [] _=AK:=(W.pre_splitW J).2;lk;obtain⟨d,r,rfl,B,C⟩:=W.hasAllW_cons Z;obtain rfl:=W.hasAllW_nil C;obtain⟨L,rfl,E⟩:=W.hasW_list B;obtain⟨ns,rfl⟩:=W.items_int E;k_in;have W:=by
  have Y:=by have Y:=(W.holds_andW F).1;rw[G]at Y;show Y
  have A:=W.condW_of Y (W.w_not (W.w_lt W.w_lit (W.w_len_list (W.w_arg rfl))));first |(show absurd A _)|(simp at A;omega)
 cases z with|cons I K=>cases K;cases I with|list H V=>show⟨_,_,ns,rfl,rfl,H,eQ ns _ V,W⟩
theorem eT(l:SR)(D:List W.WData):l.row.toRowW.claim.post D (.bool AK) D=AK:=W.postW_of (by first|rfl|decide|simp) (show(W.WTm.eq _ _).value [] _=AA _ from W.w_eq_bool (W.w_res rfl) W.w_lit) rfl
theorem eP{l:SR}{d:DefRec}(hn:l.most=AA n)(hdf:d.params.defaults=[])(call:∀(w:CC)(s₀ s₁:AZ)(mg mb:AF->Option AL)(fa:AB)(o:BR)(pm cd doc:AL)(a:AB)(vs:List AL)(ns:List Int),W.Ground q loose [] XP w s₀ mg mb s₁.heap->YP w s₁.heap->s₁.heap.get? fa=AA o->o.data=.func (Calls.docDef d.name d.params d.body d.scope pm cd doc)->s₁.heap.CodeRec cd d.name->mg d.name=AA (.ref fa)->s₁.heap.get? a=AA {cls:=.type "list",data:=.seq vs.toArray}->SK vs ns->ns.length<=n->s₁.gens=#[]->OV (Ao l.prog w) QJ (.call (.ref fa) ⟨[.ref a],[]⟩) (λr s'=>r=.ok (.ret (.bool AK))/\OldK s₁.heap s'.heap/\s'.os=s₁.os/\M6 s'.gens) s₁):AAB q loose XP YP l.row.toRowW d [] (λf vs=>Ig f vs):=by intro w s₀ s₁ mg mb G Y fa o pm cd doc dV kV ho hd hcd hD hmg hg args vals as hpre hlay hrd hwl hlo;lk;obtain rfl:dV=.none:=W.Dflts.none hD hdf;obtain rfl:kV=.none:=W.Dflts.noKw hD;obtain⟨a,vs,ns,rfl,rfl,hobj,hints,hlen⟩:=eU hn hpre hwl;k_in;show W.enter_call (SV (call w _ _ mg mb fa o pm cd _ a vs ns G Y ho (W.fd_plain hd) hcd hmg hobj hints hlen hg) λr s' hq=>?_);obtain⟨rfl,h2,h3,h4⟩:_:=hq;show⟨.inl ⟨_,_,[],rfl,λO=>rfl,.bool _,eT l _,λO=>⟨AD1,λO hm=>(nomatch hm)⟩⟩,h2,h3,h4⟩
theorem yD(h:SK vs ns):Bb (ns.map AE.int) vs:=by induction h with|nil=>show .nil|cons n t _ D=>show .cons ⟨t,rfl⟩ D
def PF(H:AH):Prop:=∀b,H b=AG\/∃o D,H b=AA (.frz o (.lst D))
theorem tV{K:As}{x:AF}(l:K.In D.heap)(E:D.heap.Ns LQ M)(U:D.heap.Ns AAO i)(c:∀x:AF,x≠"__name__"->i x=QI x)(C:D.heap.NoLimit)(hg:D.gens=#[])(R:D.heap.get? a=AA {cls:=.type "list",data:=.seq vs.toArray})(hi:SK vs ns)(hl:ns.length<=Az)(hr:D6 k QJ)(F:∀base:BZ,K.In base->base.Ns LQ M->Hg P w K M base CX k T t [x] sp)(Z:∀(s:AZ)(u:AL),SM s t ⟨[u],[]⟩ [(x,u)])(g:∀H:AH,PF H->CD K H a (ns.map AE.int)->sp [.ref a] H (λv _=>v=.bl AK) λ_ _ _=>False)(X:∀H e s',CX [] H D (λ_ _ _=>False) e s'->False):OV (Ao P w) QJ (.call (.ref T) ⟨[.ref a],[]⟩) (λr s'=>r=.ok (.ret (.bool AK))/\OldK D.heap s'.heap/\s'.os=D.os/\M6 s'.gens) D:=by
  have rv:=yD hi;have L:=hi.length;have Y:∀H:AH,PF H->CD K H a (ns.map AE.int)->DY P w H D.heap->(∀b,H b≠AG->b=a)->(H a≠AG->K.lookup a=AG)->OV (Ao P w) QJ (.call (.ref T) ⟨[.ref a],[]⟩) (λr s'=>r=.ok (.ret (.bool AK))/\OldK D.heap s'.heap/\s'.os=D.os/\M6 s'.gens) D:=by
    intro H hO hS G y hK;have J:∀{b:AB}{o:BR},D.heap.get? b=AA o->H b=AG->(Nx _ H).get? b=AA o:=λe n=>sU e n;have j:∀{b:AB}{o:BR}{Q:Array _}{O:Nat},D.heap.get? b=AA o->o.data=.dict Q O->H b=AG:=λ{b o Q O}e d=>by cases q:H b with|none=>rfl|some u=> have S:=y b (by rw[q];simp);subst S;rw[R]at e;cases e;have d':=d;cases d'
    have W:∀{b:AB}{m:AF->Option _},D.heap.Ns b m->(Nx _ H).Ns b m:=λ{b m}⟨o,Q,O,e,d,r⟩=>⟨o,Q,O,J e (j e d),d,r⟩;have B:=λb o e=>J (l b o e) (by cases q:H b with |none=>rfl|some u=> have S:=y b (by rw[q];simp);subst S;rw[hK (by rw[q];simp)]at e;cases e);have hM:RE K M _:=⟨B,W E,⟨i,W U,c⟩,let⟨mc,h1,h2⟩:=C;⟨mc,W h1,h2⟩⟩;have e0:Lf P w K M _ QJ [] _ H:=⟨rfl,hM,λb o e=>uD e,Bi (sV _ _),trivial,λb U=>absurd (show b∈([])from U) (by simp),G,.of_eq hg⟩;show SV ((F _ B (W E)).aef _ [] _ H _ [.ref a] [.ref a] _ _ hr e0 (Z _ _) (.cons rfl .nil) (g H hO hS)) λr s' h=>?_;cases r with|error e=>show(X H e s' h).elim|ok fl=>cases fl with|next=>show HU h|brk=>show HU h|cont=>show HU h|ret u=>obtain⟨v,H',os,A,un,I,r',q⟩:=h;have q':=q;subst q';obtain rfl:u=Vm _:=r';show⟨rfl,OldK.of_keep λb o e=>?_,os,A⟩;cases q:H b with|none=>show un.ab b o e q (by intro z;show absurd (show b∈([])from z) (by simp)) (by simp)|some u=>
          rcases hO b with z|⟨ob,xs,z⟩;.rw[q]at z;cases z
          . have z2:=un.vo b ob _ z;obtain⟨p,_⟩:=G b _ z;obtain⟨e2,_⟩:=I b _ z2;rw[e]at p;cases p;show e2
  cases f:K.lookup a with |some o=> have e:=l a o f;rw[R]at e;cases e;show Y _ (λ_=>.inl rfl) (.inr ⟨_,_,_,f,rfl,rfl,rfl,by rw[IZ,L];show hl,by simpa using rv⟩) (λb u z=>by have N:=z;cases N) (λb z=>absurd rfl z) λz=>absurd rfl z|none=>
    show Y (λb=>if b=a then AA _ else AG) (λb=>?_) (.inl (.inr ⟨{cls:=.type "list",data:=.seq vs.toArray},AE0 rfl⟩)) (λb u z=>?_) (λb z=>?_) λ_=>f
    . by_cases U:b=a;.show .inr ⟨_,_,AE0 U⟩
      .show .inl (AEz U)
    . by_cases U:b=a
      . have N:=(AE0 U).symm.trans z;cases N;subst U;show⟨R,by rw[Aq];show hl,vs,_,rv,R⟩
      . have N:=(AEz U).symm.trans z;cases N
    . by_cases U:b=a;.show U
      .show absurd (AEz U) z
theorem yE{l:SR}{N:CC->BZ->Prop}{d:DefRec}{K:cY->As}{CX:CC->JB}{sp:CC->BF}(j:l.most=AA n)(I:n<=Az)(C:d.params.defaults=[])(m:D6 k QJ)(b:∀(w:CC)(h:BZ),N w h->(K w.params).In h)(F:∀(w:CC)(W:AF->Option AL)(z:AB)(h:BZ),(K w.params).In h->h.Ns LQ W->W d.name=AA (.ref z)->∃A:JU,(∀(s:AZ)(u:AL),SM s A ⟨[u],[]⟩ [(x,u)])/\∀base:BZ,(K w.params).In base->base.Ns LQ W->Hg l.prog w (K w.params) W base (CX w) k z A [x] (sp w))(L:∀(w:CC)(H:AH)(a:AB)(ns:List Int),ns.length<=n->PF H->CD (K w.params) H a (ns.map AE.int)->sp w [.ref a] H (λv _=>v=.bl AK) λ_ _ _=>False)(B:∀(w:CC)(H:AH)(s:AZ)(e:AL)(s':AZ),CX w [] H s (λ_ _ _=>False) e s'->False):AAB q U Q N l.row.toRowW d [] (λf vs=>Ig f vs):=by show eP j C λw O P W y z o pm p R a vs ns G Y t r g E Z J D i=>?_;have M:=b w _ Y;obtain⟨A,c,S⟩:_:=F w W z _ M G.T.g E;show tV M G.T.g G.T.b G.T.builtins G.T.nolimit i Z J (Ag D I) m S c (λH T X=>L w H a ns D T X) λH e s'=>B w H _ e s'
theorem yF{l:SR}{z:CC->BZ->Prop}{d:DefRec}{K:cY->As}{CX:JB}{sp:As->BF}(M:l.most=AA n)(Y:n<=Az)(W:d.params.defaults=[])(N:D6 k QJ)(L:∀(w:CC)(h:BZ),z w h->(K w.params).In h)(F:∀(w:CC)(J:AF->Option AL)(A:AB)(h:BZ),(K w.params).In h->h.Ns LQ J->J d.name=AA (.ref A)->∃B:JU,(∀(s:AZ)(u:AL),SM s B ⟨[u],[]⟩ [(x,u)])/\∀base:BZ,(K w.params).In base->base.Ns LQ J->Hg l.prog w (K w.params) J base CX k A B [x] (sp (K w.params)))(Z:∀(K:As)(H:AH)(a:AB)(ns:List Int),ns.length<=n->PF H->CD K H a (ns.map AE.int)->sp K [.ref a] H (λv O=>v=.bl AK) λO O O=>False)(U:∀(H:AH)(s:AZ)(e:AL)(s':AZ),CX [] H s (λO O O=>False) e s'->False):AAB q D C z l.row.toRowW d [] (λf vs=>Ig f vs):=yE M Y W N L F (λw H a ns E G I=>Z _ H a ns E G I) λO H s e s'=>U H s e s'
def Du(s:C2)(j:Nat):C2:=match s with|.ClassDef _ _ _ body _ _ _ _ _ _ _=>body.getD j (.Pass ⟨0,0,0,0⟩)|_=>.Pass ⟨0,0,0,0⟩
def Nr(s:C2):Arguments:=match s with|.FunctionDef _ a _ _ _ _ _ _ _ _=>a|_=>{posonlyargs:=[],args:=[],vararg:=AG,kwonlyargs:=[],kw_defaults:=[],kwarg:=AG,defaults:=[]}
def Lm(s:C2):List C2:=match s with|.FunctionDef _ _ b _ _ _ _ _ _ _=>b|_=>[]
def DG(s:C2):Fs:=match s with|.FunctionDef _ _ _ _ _ _ D _ _ _=>D|_=>{kind:=.function,names:=[],isGenerator:=AR,isCoroutine:=AR}
abbrev BC:JB:=λ_ _ _ _ _ _=>False
abbrev Mf:HJ:=λ_ _ _=>False
theorem JL:PJ BC X Mf:=λO O O O O O O h=>h.elim
structure PB(K:As)(x qual:AF)(st:C2)(f:AB)(fd:JU):Prop where
 ex:∃(oc:AL)(od:Option AB)(kV doc pm:AL)(an:Option AB)(cdv ct:AL)(osl:Array (Option AL)),fd=OT x qual (Nr st) (Lm st) (DG st) .none kV doc pm an cdv ct/\K.lookup f=AA ⟨oc,od,.func fd,osl⟩/\dB K cdv qual=AK
 kp:SU K (.ref f)=AK
theorem PB.ok{K:As}{st:C2}(F:PB K x J st f B)(S:Mg N ps (DG st))(z:∀vs H Q E,sp vs H Q E->vs.length=ps.length)(W:∀(U:AL)(A:DV)(D:List Ed)(s:AZ)(H:AH)(vs:List AE)(Q:Bf)(E:HJ),D6 k (A.deeper (MC J (DG st) s.heap.objs.size f U))->sp vs H Q E->∃t,F1 (Mj BC P w K L base N J (DG st) f U A D s H E).ads (Lm st) t/\t {nx:=λo H'=>Q .non H',rt:=Q} (Ms N vs) H):Hg P w K L base BC (k+1) f B ps sp:=by obtain⟨X,a,T,C,b,O,U,R,M,rfl,I,Y⟩:_:=F.ex;show sN I Y S z λA D s H vs Q E G Z=>?_;obtain⟨t,h,q⟩:_:=W _ A _ s H vs Q E G Z;show⟨t,h.ads,q⟩
theorem PB.acs{K:As}{st:C2}(F:PB K x D st f A)(h:∀(Y U Z:AL)(V:Option AB)(J W:AL)(z:List AL),z.length=ps.length->AAN (OT x D (Nr st) (Lm st) (DG st) .none Y U Z V J W) ⟨z,[]⟩=Bn (ps.zip z)):Le K A ps []:=by obtain⟨G,H,Y,U,Z,V,J,W,C,rfl,E,B⟩:_:=F.ex;show .yu (h Y _ Z V _ W)
theorem Ud{K:As}{st:C2}(l:K.lookup f=AA ⟨A,B,.func (OT x D (Nr st) (Lm st) (DG st) .none Z U z W J Y),V⟩)(c:dB K J D=AK)(k:SU K (.ref f)=AK):PB K x D st f (OT x D (Nr st) (Lm st) (DG st) .none Z U z W J Y):=⟨⟨A,B,Z,U,z,W,J,Y,V,rfl,l,c⟩,k⟩
theorem Bl(i:Nat){x:AF}(U:X.N[i]?=AA x:=by rfl)(W:RN X.ae.scope x:=by first|show Or.inl rfl|show Or.inr (Or.inl rfl)|show Or.inr (Or.inr rfl))(V:(x==("__debug__":AF))=AR:=by decide)(D:(x==("__classdict__":AF))=AR:=by decide):Al X (.Name x J) (aV i):=Zw U W V D
theorem EY{A B:Prop}(h:B):if AR=AK then A else B:=by show h
theorem Jh{A B:Prop}(h:A):if AK=AK then A else B:=by show h
def An(H H':AH):Prop:=∀b o,H b=AA o->H' b=AA o
theorem CQ(H:AH):An H H:=λO O h=>h
theorem An.aa(a:An H D)(b:An D J):An H J:=λc o h=>b c o (a c o h)
theorem An.bc(e:An H H')(h:H' l=AG):H l=AG:=by cases q:H l with|none=>rfl|some o=>rw[e l o q]at h;cases h
theorem An.uz{K:As}(e:An H H')(h:CD K H a xs):CD K H' a xs:=by
 rcases h with(h|⟨o,h⟩)|h;.show .inl (.inl (e _ _ h))
 .show .inl (.inr ⟨o,e _ _ h⟩)
 .show .inr h
theorem Po{U:Type}[DecidableEq U]{kvs:List (U×AE)}{k:U}(h:BQ kvs k=AG):¬k∈kvs.map (·.1):=by intro m;obtain⟨p,D,e⟩:_:=Ay.mp m;have q:(kvs.any λJ=>Ae (J.1=k))=AK:=R3.mpr ⟨p,D,AE1 e⟩;rw[Pn,h]at q;show absurd q (by simp)
section
variable{κ:Type}[DecidableEq κ]
theorem Ze:∀{l:List κ}{k:κ},l.Nodup->¬k∈l->(l++[k]).Nodup
 |[],k,_,_=>by simp|a::r,k,h,D=>by
  obtain⟨h1,h2⟩:=JP.mp h;show JP.mpr ⟨λm=>?_,Ze h2 λm=>D (CZ.mpr (zC m))⟩;rcases Ce.mp m with q|q;.show h1 q
  .show D (CZ.mpr (Fq (Bm.mp q).symm))
end
theorem sG[DecidableEq D]{p:D×AE}(e:p.1=k):Cb (p::r) k=Cb r k:=by unfold Cb;rw[G1,AEz (by simp[e])]
theorem sF[DecidableEq D]{p:D×AE}(e:¬p.1=k):Cb (p::r) k=p::Cb r k:=by unfold Cb;rw[G1,AE0 (by simp[e])]
theorem sC{D:Type}[DecidableEq D]{kvs:List (D×AE)}{k:D}{p:D×AE}(h:p∈Cb kvs k):p∈kvs:=(D1.mp h).1
section
variable{κ:Type}[DecidableEq κ]
theorem Uq:∀{kvs:List (κ×AE)}{k:κ},(kvs.map (·.1)).Nodup->((Cb kvs k).map (·.1)).Nodup
 |[],_,_=>List.nodup_nil|p::r,k,h=>by
  obtain⟨h1,h2⟩:=JP.mp h;by_cases e:p.1=k;. rw[sG e];show Uq h2
  . rw[sF e];show JP.mpr ⟨λm=>h1 ?_,Uq h2⟩;obtain⟨q,J,D⟩:_:=Ay.mp m;show Ay.mpr ⟨q,sC J,D⟩
end
theorem DY.aaz(x:DY P w H h)(V:H a=AG)(J:DZ P w (AM H a o) h a o):DY P w (AM H a o) h:=by
  intro b u e;by_cases D:b=a
  . subst D;rw[AY]at e;simp_all
  . rw[AV D]at e;show(x b u e).xj (λW u2 u3 U=>U) (λc q=>?_) λc Y q=>?_;.rw[AV (by grind)];show q
    .rw[AV (by grind)];show q
def K5(env:Ed)(D:List (AF×AB))(x:AF×MH):List (AF×AB):=if x.2=.free then(x.1,(env.cells.lookup x.1).getD 0)::D else D
def Np(env:Ed)(D:List (AF×MH)):List (AF×AB):=D.foldl (K5 env) []
theorem ZK{f:α->J->D4 (ForInStep J)}{g:J->α->J}:∀(l:List α)(D:J),(∀x∈l,∀c,f x c=Bn (.yield (g c x)))->IC l D f=Bn (l.foldl g D)|[],D,_=>rfl|x::l,D,h=>by rw[List.forIn_cons,h x Dr _];change IC l _ f=_;rw[ZK l _ λy U=>h y (Gm U)];rfl
theorem rN(h:∀y∈D.names,y.2=.free->∃c,env.cells.lookup y.1=AA c):AAQ D env=Bn (Np env D.names):=by
  simp only[AAQ];rw[ZK (g:=K5 env) _ [] λx Z c=>by
    obtain⟨n,J⟩:=x;by_cases V:J=.free
    . subst V;obtain⟨a,W⟩:=h _ Z rfl;have U:=W;simp only[AFD,AE7,K5,cellOf,U,Option.getD_some];rfl
    . have Y:(J==ND)=AR:=by(simpa using V)
      simp only[Y,LS,AE5,K5,V]];rfl
theorem Y3:∀(D:List (AF×MH))(J:List (AF×AB)),(D.foldl (K5 env) J).lookup y=AA c->J.lookup y=AA c\/((y,ND)∈D/\(env.cells.lookup y).getD 0=c)
 |[],J,h=>.inl h|(n,k)::r,J,h=>by
  rcases Y3 r _ h with q|⟨q,z⟩
  . unfold K5 at q;grind
  simp_all
theorem UY:∀(D:List (AF×MH))(J:List (AF×AB)),((y,ND)∈D\/∃c,J.lookup y=AA c)->∃c,(D.foldl (K5 env) J).lookup y=AA c
  |[],J,h=>by simp_all|(n,k)::r,J,h=>by
    show UY r _ ?_;by_cases U:(y,ND)∈r;.show Fq U
    . show .inr ?_;rcases h with h|⟨c,h⟩
      . rcases CZ.mp h with e|e;. cases e;show⟨_,by unfold K5;rw[AE0 rfl,List.lookup_cons_self]⟩
        show absurd e U
      . unfold K5;grind
theorem rP(I:Nat->AZ->Prop)(turn:∀n s,I n s->A1 (Ao prog w) A (pyNext it) (λr J=>match r with|AG=>R (.ok .next) J|AA v=>A1 (Ao prog w) A (AAV D it v) (λX U=>A1 (Ao prog w) A (assign D env v) (λX Z=>A1 (Ao prog w) A (IC M AK λc r=>if r=AK then do let O<-Vo c env (Ba c env);Bn (Si O)else Bn (Si r)) (λO V=>if O=AK then A1 (Ao prog w) A (Ba G env) (λx z=>A1 (Ao prog w) A (Ig (.builtin "list.append") [F,x]) (λX B=>∃m,m<n/\I m B) (λX X=>False) z) (λX X=>False) V else∃m,m<n/\I m V) (λX X=>False) Z) (λX X=>False) U) (λX X=>False) J) (λX X=>False) s)(n:Nat)(h:I n s):OV (Ao prog w) A (.compLoop (.ListComp G [⟨D,N,M,0⟩] E P) 0 it F env) R s:=by show codeAny_loop rfl I (λn s S=>?_) n h;show wpAny_noted ?_;show BI (AAf (BI (IA (turn n s S) (λr J W=>?_) λX X Q=>Q.elim)));cases r with|none=>show Cq W|some v=>show BI (IA W (λX U C=>?_) (by simp));show BI (IA C (λX Z H=>BI (IA H (λO V Y=>?_) (by simp))) (by simp));cases O with|false=>show Cq ⟨rfl,Y⟩|true=>show BI (BI (IA Y (λx z K=>BI (IA K (λX B L=>Cq (Cq ⟨rfl,L⟩)) (by simp))) (by simp)))
def Ky(X:Bp)(J:List BN)(t:Dg):Prop:=∀(D:List (AB×BR))(s:AZ)(U:Ah)(H:AH)(Q:Bool->AH->Prop),Aa X D U H s->t U H Q->A1 (Ao X.ai X.w) X.A (IC J AK λc r=>if r=AK then do let V<-Vo c X.ae (Ba c X.ae);Bn (Si V)else Bn (Si r)) (UQ X D U Q) X.xe s
def OD:Dg:=λO H Q=>Q AK H
theorem G0:Ky X [] OD:=λD s J H Q I h=>wpAny_tests_nil ⟨H,I,h⟩
theorem Mr(h:HI X c t):Ky X [c] t:=λD s J H Q I hw=>wpAny_tests_one (h _ s J H Q I hw)
def EJ(X:Bp)(D:Fs)(N:List AF)(C:AB)(s:AZ)(H:AH)(ex:List AB):Bp:={X with N:=N,s₀:=s,H₀:=H,ae:=compEnvC D (Np X.ae D.names) C X.ae,vp:=X.ft,ft:=X.ft,ex:=ex,fn:=λO=>AR,pn:=[],xe:=λO O=>False}
def F6(D:Ah)(j:Nat):Option AE:=(D[j]?).getD AG
def Kt(G:Nat)(F:List Nat)(g:Eh)(K:Dg)(I:Av)(L:Ah)(Q:Bf)(J:GL)(z:AH):Prop:=∃W:Nat->Nat->Ah->List AE->AH->Prop,(∃m,W 0 m (FF G AG++F.map (F6 L)) [] z)/\∀i m C U H,W i m C U H->(J.ux i H/\∀D,H D=AG->Q (.ref D) (AM H D (.lst U)))\/(J.go i H/\U.length<Az/\∀x A,J.aaj i H x A->g x C A λY z=>K Y z λb B=>if b=AK then I Y B λy E=>∃Z,Z<m/\W (i+1) Z Y (U++[y]) E else∃Z,Z<m/\W (i+1) Z Y U B)
def LB(U:Nat)(J:List Nat)(wi:F3)(g:Eh)(W:Dg)(V:Av):Av:=λD H Q=>wi D H (Kt U J g W V D Q)
theorem Z9{env:Ed}:∀{D:List (AF×MH)}{y:AF},(∀z∈D,z.2≠.cell)->((D.map λ(n,k)=>if(k==ND&&env.scope.kind==.function&&env.kindOf n==AA .cell)then(n,cX)else(n,k)).lookup y=AA .cell\/(D.map λ(n,k)=>if(k==ND&&env.scope.kind==.function&&env.kindOf n==AA .cell)then(n,cX)else(n,k)).lookup y=AA .free)->(y,ND)∈D|[],y,_,h=>by simp_all|(n,k)::r,y,J,h=>by have U:=@Z9 env r y (λV u2=>J _ (Gm u2));grind
theorem Zc{env:Ed}:∀{D:List (AF×MH)}{y:AF},D.lookup y=AA .free->(D.map λ(n,k)=>if(k==ND&&env.scope.kind==.function&&env.kindOf n==AA .cell)then(n,cX)else(n,k)).lookup y=AA .cell\/(D.map λ(n,k)=>if(k==ND&&env.scope.kind==.function&&env.kindOf n==AA .cell)then(n,cX)else(n,k)).lookup y=AA .free|[],y,h=>zD _ h|(n,k)::r,y,h=>by have J:=@Zc env r y;grind
def Kv(X:Bp)(D:Fs):List (AF×Nat)->Prop|[]=>True|p::r=>X.N[p.2]?=AA p.1/\D.names.lookup p.1=AA .free/\Kv X D r
theorem Kv.yu:∀{J:List (AF×Nat)},Kv X D J->∀p∈J,X.N[p.2]?=AA p.1/\D.names.lookup p.1=AA .free
 |p::r,h,q,U=>by
  rcases CZ.mp U with e|e;.subst e;show⟨h.1,h.2.1⟩
  .show Kv.yu h.2.2 q e
theorem Y5(hc:X.je=AK)(hi:GN X tg O wi)(hk:U.kind=.function)(hcell:∀y∈U.names,y.2≠.cell)(hnames:∀y∈U.names,y.2=.local->U.names.lookup y.1=AA .local)(f:∀y∈U.names,y.2=.free->X.ae.kindOf y.1=AA .cell\/X.ae.kindOf y.1=AA .free)(hfr:Kv X U N)(hg:∀C s H ex,Kx (EJ X U (own++N.map (·.1)) C s H ex) tg g)(ht:∀C s H ex,Ky (EJ X U (own++N.map (·.1)) C s H ex) ifs tt)(he:∀C s H ex,Al (EJ X U (own++N.map (·.1)) C s H ex) elt te)(hs:∀x,OW O X.ae x=Bn x)(I:Aa X P σ H s)(h:LB own.length (N.map (·.2)) wi g tt te σ H Q)(fin:∀(D C:AB)m(s4:AZ)(H5:AH)v,Aa X P σ H5 s4->s4.heap.Ns C m->H5 C=AG->C≠X.ae.locals->X.s₀.heap.objs.size<=C->(∀x c,X.ae.cells.lookup x=AA c->c≠C)->(∀p∈X.pn++P,p.1≠C)->Q (.ref D) H5->compPost (Ao X.ai X.w) X.A X.xe use PQ (.ref D) C (.ok v) s4):A1 (Ao X.ai X.w) X.A (comprehension (.ListComp elt [⟨tg,O,ifs,0⟩] U pos) U X.ae p0 (newList []) AR (Ba O X.ae) use) PQ X.xe s:=by
  have d:∀y c,(Np X.ae U.names).lookup y=AA c->X.ae.cells.lookup y=AA c:=λy c e=>by
    rcases Y3 U.names [] e with q|⟨q,z⟩;.simp at q
    . obtain⟨c',e'⟩:=I.ok.adh y (f _ q rfl);rw[e']at z;rw[e',<-z];rfl
  have hclos:AAQ U X.ae=Bn (Np X.ae U.names):=rN λy hy e=>I.ok.adh y.1 (f y hy e);show wpAny_comprehension_free (use:=use) (cl:=Np X.ae U.names) (Q:=PQ) rfl hs hclos hk hnames ?_;show Ax (hi P s σ H _ I h) λv s1 h1=>Ax h1 λitv s2 h2=>?_;obtain⟨it,L,tn,J,R,e,Z,T,st2,f2,W,⟨m0,w0⟩,turn⟩:_:=h2;subst e;show AAe (wpAny_newFunctionEnv hcell (by intro y hy;simp at hy) (λh₁ E A=>?_) hk);dsimp only at E A⊢;generalize hH2:s2.heap.push _=HL at E A⊢;have hC:HL.objs.size=s2.heap.objs.size+1:=by rw[<-hH2,zU]
  generalize hCC:HL.objs.size=C at E A hC⊢;have hDC:s2.heap.objs.size≠C:=by rw[hC];show ET (KS _)
  have G:∀b,b<s2.heap.objs.size->b≠C/\b≠s2.heap.objs.size:=λb Y=>⟨by rw[hC];show ET (b3 Y),ET Y⟩;have old:=λb o e=>A.extBut b o (G b (Ct e)).1 (C1 _ (hH2▸C1 _ e));have eD0:=A.extBut _ _ hDC (C1 _ (hH2▸F7 _ rfl));have t:∀b∈L,b<s2.heap.objs.size:=λb Y=>by obtain⟨o,e,_⟩:=T.au _ _ st2 b Y;show Ct e
  generalize hD:s2.heap.objs.size=D at hDC G eD0 t hC;have hDfp:D∉L:=λz=>Ht _ (t D z);have okY:(EJ X U (own++N.map (·.1)) C s2 R L).Ok:=by
    show⟨Z.ok.wt,hk,Z.ok.xf,Z.ok.aco,by change s2.heap.objs.size<=C;simp_all,λx y c e1 e2=>Z.ok.aac x y c (d x c e1) (d y c e2),λy hy=>?_,λx c z _=>(by cases z),Z.ok.hd,Z.ok.om,.inl rfl,λb Y=>⟨(G b (t b Y)).1,λy c e=>?_⟩,Z.bs,Ag Z.ok.abc Z.sz,λb o e Y=>?_,λb Y z=>?_,Z.ft,Z.zv⟩;.show UY U.names [] (.inl (Z9 (env:=X.ae) hcell hy))
    .show(f2 b Y).2.2.2.2.1 y c (d y c e)
    . rcases(f2 b Y).2.2.2.1 with z|z;.show Z.ok.aas b o e z
      .show absurd (BY (Ct e) (Ag Z.ok.abc z)) (Ht _)
    . rcases CZ.mp (Z.xk b z)with q|q;.show(f2 b Y).2.1 q
      .show(f2 b Y).2.2.1 q
  have j:∀y c,X.ae.cells.lookup y=AA c->c<D:=λy c e=>by obtain⟨v,z⟩:=Z.qm y c e;show BY z.lt (Bi hD)
  have stkLt:∀b∈Gx X.ft,b<D:=λb Y=>by
    rcases CZ.mp (Z.xk b Y)with q|q;.rw[q];show BY Z.lt (Bi hD)
    . obtain⟨_,o,ho,_⟩:=Z.ok.rg.mem q;show BY (Ct ho) (Ag Z.sz (Bi hD))
  have S:∀a,D<=a->R a=AG:=λa ha=>Z.cq.cj (Ag (Bi hD) ha);have IY:Aa (EJ X U (own++N.map (·.1)) C s2 R L) [] (FF own.length AG++(N.map (·.2)).map (F6 σ)) R {s2 with heap:=h₁,toks:=s2.toks+([]:List (AF×AL)).length}:=by
    show⟨okY,rfl,Z.mf,RL old,⟨_,E,λi y v e1 e2 e3=>?_⟩,λy c e=>?_,S C (by simp_all),λy c e=>Z.kh y c (d y c e),λp M=>absurd (show p∈([]:List (AB×BR))from M) (by simp),Z.cq.iq old,?_⟩
    . have e1:(own++N.map (·.1))[i]?=AA y:=e1;have hi':own.length<=i:=by
        by_cases hlt:i<own.length
        . rw[OG (by simpa using hlt),ABf,AE0 hlt]at e2;cases e2
        .simp_all
      rw[Pq hi',Bt]at e1;rw[Pq (by simpa using hi'),Bt,Bt,ABi]at e2;cases M:N[i-own.length]? with|none=>rw[M]at e1;cases e1|some p=>
        rw[M]at e1 e2;have ey:p.1=y:=By e1;have ev:F6 σ p.2=AA v:=By e2;obtain⟨a1,a3⟩:=hfr.yu p (Cm M);have es:σ[p.2]?=AA (AA v):=by unfold F6 at ev;cases q:σ[p.2]? with|none=>rw[q]at ev;cases ev|some z=>rw[q]at ev;show AE2 AA ev
        have hfk:=f (p.1,.free) (QL a3) rfl;obtain⟨m,hn,hl⟩:=Z.yw;obtain⟨u,r,l⟩:=hl p.2 p.1 v a1 es (hfk.elim (λz=>.inr (.inl z)) λz=>.inr (.inr z));show⟨u,r,.inr ?_⟩;rcases l with⟨z,_⟩|⟨_,c,ec,zc⟩;.rcases hfk with q|q<;>rw[z]at q<;>cases q
        . obtain⟨c',ec'⟩:=UY (env:=X.ae) (y:=p.1) U.names [] (.inl (QL a3));have:c'=c:=By ((d _ _ ec').symm.trans ec);subst this;rw[<-ey];obtain⟨o,ho,hdd⟩:=zc;show⟨Zc (env:=X.ae) a3,c',ec',o,old _ o ho,hdd⟩
    . obtain⟨v,z⟩:=Z.qm y c (d y c e);obtain⟨o,ho,hdd⟩:=z;show⟨v,o,old _ o ho,hdd⟩
    . change(FF own.length (AG:Option AE)++(N.map (λp=>p.2)).map (F6 σ)).length=(own++N.map (λp=>p.1)).length;simp
  have fpY:∀{w:AH}{ob:BR},(∀b∈L,w b=AG)->∀b∈L,Je (EJ X U (own++N.map (·.1)) C s2 R L) [(D,ob)] w b:=λ{w ob}hn b Y=>⟨hn b Y,(G b (t b Y)).1,λz=>okY.aan b Y z,.inl Y,λy c e=>(okY.aem b Y).2 y c e,λp M=>by
      have e:p=(D,ob):=by simpa[EJ]using M
      rw[e];change D≠b;showλz=>hDfp (z▸Y)⟩;have noC:∀(xs:Array AL)(k:Nat)(v:Option AL),({cls:=.type "list",data:=.seq xs k}:BR).data≠.cell v:=λxs k v z=>by cases z
  have loop:∀s₃:AZ,s₃={s2 with heap:=h₁,toks:=s2.toks+([]:List (AF×AL)).length}->OV (Ao X.ai X.w) X.A (.compLoop (.ListComp elt [⟨tg,O,ifs,0⟩] U pos) 0 (.ref it) (.ref D) (compEnvC U (Np X.ae U.names) C X.ae)) (compPost (Ao X.ai X.w) X.A X.xe use PQ (.ref D) C) s₃:=by
    rintro s₃ rfl;show rP (λn s'=>∃(i:Nat)(τ:Ah)(K:List AE)(H':AH)(B:List AL)(k:Nat),Aa (EJ X U (own++N.map (·.1)) C s2 R L) [] τ H' s'/\tn i s'.heap/\(∀b∈L,H' b=AG)/\H' D=AG/\Bb K B/\s'.heap.get? D=AA {cls:=.type "list",data:=.seq B.toArray k}/\K.length<=Az/\W i n τ K H') ?_ m0 ⟨0,_,[],R,[],0,IY,T.ab _ _ _ st2 λb _ o e=>old b o e,λb Y=>(f2 b Y).1,S D (Aj _),.nil,eD0,Bc _,w0⟩;rintro n s3⟨i,τ,K,w,B,k,I3,st3,fr3,fD,rv,eD,hz,w3⟩;have I3':Aa (EJ X U (own++N.map (·.1)) C s2 R L) [(D,{cls:=.type "list",data:=.seq B.toArray k})] τ w s3:=I3.jt λp M=>by
      have e:=by simpa using M
      subst e;show⟨eD,fD,hDC,λz=>Ht _ (stkLt D z),noC _ _⟩
    rcases turn i n τ K w w3 with⟨stop,qn⟩|⟨go,hlt,step⟩
    . show Ax (T.vx (EJ X U (own++N.map (·.1)) C s2 R L) rfl rfl rfl hc i _ s3 τ w (λ_ _=>False) I3' (fpY fr3) st3 stop) λr s4 hh11=>?_;obtain⟨hr,I4⟩:=hh11;subst hr;obtain⟨m,hn4,_⟩:=I4.yw;obtain⟨eD4,fD4,_⟩:=I4.vz (D,{cls:=.type "list",data:=.seq B.toArray k}) (FE _ (Bm.mpr rfl));have b4:Hi (Gx X.ft) L R w s2.heap s4.heap:=I4.af;have lt2:∀b o,s2.heap.get? b=AA o->b≠C/\b≠D:=λb o e=>G b (BY (Ct e) (Bi hD));have tr2:∀b o,R b=AA o->b≠D:=λb o e z=>by have:=S D (Aj _);rw[z,this]at e;cases e
      have un:Hi (Gx X.ft) L R (AM w D (.lst K)) s2.heap s4.heap:=by
        show⟨λb o e n Y hx=>b4.ab b o e n Y hx,λb o e n Y hx=>?_,λb o e n hx=>?_,λb o e hx=>?_,λb xs e=>?_,λb o u e=>?_,λb ps e=>?_⟩
        . obtain⟨sl,q⟩:=b4.wc b o e n Y hx;show⟨sl,q⟩
        .rw[AV (lt2 b o e).2];show b4.bc b o e n hx
        . obtain⟨o',q⟩:=b4.ma b o e hx;show⟨o',q⟩
        .rw[AV (tr2 _ _ e)];show b4.xq b xs e
        .rw[AV (tr2 _ _ e)];show b4.vo b o u e
        .rw[AV (tr2 _ _ e)];show b4.xp b ps e
      have hok':DY X.ai X.w (AM w D (.lst K)) s4.heap:=I4.cq.aaz fD4 ⟨hz,B,k,rv,eD4⟩;have IX:Aa X P σ (AM w D (.lst K)) s4:=Z.aam (s':=s4) (ch:=L) I4.os un hok' I4.mf λb Y=>⟨(f2 b Y).2.2.2.1,(f2 b Y).2.1,(f2 b Y).2.2.2.2.1,(f2 b Y).2.2.2.2.2⟩;have hHC:w C=AG:=I4.bc;have noCD:∀b:AB,b<D->C≠b:=λb Y z=>by rw[<-z,hC]at Y;show Ht D (Hu Y)
      have hCL:C≠X.ae.locals:=noCD _ (BY Z.lt (Bi hD));show fin D C m s4 _ _ IX hn4 (by rw[AV hDC.symm];show hHC) hCL (Ag Z.sz (by simp_all)) (λz c e q=>?_) (λp M q=>?_) (qn D fD4);.show noCD _ (j z c e) q.symm
      .show noCD _ (BY (Ct (Z.vz p M).1) (Bi hD)) q.symm
    . show Ax (T.vy (EJ X U (own++N.map (·.1)) C s2 R L) rfl rfl rfl hc i _ s3 τ w (λ_ _=>False) I3' (fpY fr3) st3 go) λr s4 hh21=>?_;obtain⟨u,hr,h4⟩:=hh21;subst hr;show Ax h4 λ_ s5 hh31=>?_;obtain⟨x,H5,I5,r5,y5,st5,fr5⟩:=hh31;have I5':=I5.aav (fpY fr5) (T.au _ _ st5);show Ax (hg _ _ _ _ _ s5 τ H5 x u _ I5' r5 (step x H5 y5)) λ_ s6 hh41=>?_;obtain⟨τ6,H6,I6,q6⟩:=hh41;show Ax (ht _ _ _ _ _ s6 τ6 H6 _ I6 q6) λb s7 hh51=>?_;obtain⟨H7,I7,q7⟩:=hh51;have facts:∀{s8:AZ}{H8:AH}{τ8:Ah},Aa (EJ X U (own++N.map (·.1)) C s2 R L) ([(D,{cls:=.type "list",data:=.seq B.toArray k})]++Ro L s5.heap) τ8 H8 s8->tn (i+1) s8.heap/\(∀b∈L,H8 b=AG)/\H8 D=AG/\s8.heap.get? D=AA {cls:=.type "list",data:=.seq B.toArray k}:=λ{s8 H8 τ8}I8=>by
        have M:∀b∈L,∀o,s5.heap.get? b=AA o->s8.heap.get? b=AA o/\H8 b=AG:=λb Y o e=>by have q:=I8.vz (b,o) (FE _ (FE _ (Uo Y e)));show⟨q.1,q.2.1⟩
        have qD:=I8.vz (D,{cls:=.type "list",data:=.seq B.toArray k}) (FE _ (Hn _ (Bm.mpr rfl)));show⟨T.ab _ _ _ st5 λb Y o e=>(M b Y o e).1,λb Y=>?_,qD.2.1,qD.1⟩;obtain⟨o,e,_⟩:=T.au _ _ st5 b Y;show(M b Y o e).2
      cases b with |false=> obtain⟨m',hm,w7⟩:=q7;obtain⟨z1,z2,z3,z4⟩:=facts I7;show⟨m',hm,i+1,τ6,K,H7,B,k,I7.jt λp M=>absurd M (by simp),z1,z2,z3,rv,z4,hz,w7⟩|true=>
        show Ax (he _ _ _ _ _ s7 τ6 H7 _ I7 q7) λu8 s8 hh61=>?_;obtain⟨y,H8,I8,r8,m',hm,w8⟩:=hh61;obtain⟨z1,z2,z3,z4⟩:=facts I8;have hl:=rv.aq;show NF zS ⟨_,z4,rfl⟩ ACf (ACb _ _) (ADb D B.toArray k u8 (by rw[IZ];show Ag (Bi hl.symm) (B8 hlt))) ⟨z4,?_⟩;have z5:=ACw z4 (·.push u8);have z6:B.toArray.push u8=(B++[u8]).toArray:=by simp
        rw[z6]at z5;have kk:∀b o,b≠D->s8.heap.get? b=AA o->(s8.heap.update D (Ei (·.push u8))).get? b=AA o:=λb o Y e=>(ACv s8.heap (Ei (·.push u8)) (DJ Y)).trans e;have I8':Aa (EJ X U (own++N.map (·.1)) C s2 R L) [] τ6 H8 s8:=I8.jt λp M=>absurd M (by simp);show⟨m',hm,i+1,τ6,K++[y],H8,B++[u8],_,I8'.fo (it:=D) kk z3 hDC (.inr (by change s2.heap.objs.size<=D;show Bi hD)) (λy c e=>ET (j y c (d y c e))) (λp M=>absurd (show p∈([]:List (AB×BR))from M) (by simp)),?_,z2,z3,rv.ql (.cons r8 .nil),z5,?_,w8⟩;.show T.ab _ _ _ z1 λb Y o e=>kk b o (λz=>hDfp (z▸Y)) e
        .rw[Bx,ABj];assumption
  show codeAny_compStart_list (loop _ rfl) (T.xi X.A 0 _ _ _ (T.ab _ _ _ st2 λb _ o e=>old b o e) (loop _ rfl))
theorem Zs{K:Av}(a:X.je=AK)(hi:GN X F U wi)(f:J.kind=.function)(W:∀y∈J.names,y.2≠.cell)(V:∀y∈J.names,y.2=.local->J.names.lookup y.1=AA .local)(Y:∀y∈J.names,y.2=.free->X.ae.kindOf y.1=AA .cell\/X.ae.kindOf y.1=AA .free)(B:Kv X J z)(d:∀C s H ex,Kx (EJ X J (own++z.map (·.1)) C s H ex) F g)(k:∀C s H ex,Ky (EJ X J (own++z.map (·.1)) C s H ex) A L)(c:∀C s H ex,Al (EJ X J (own++z.map (·.1)) C s H ex) Z K)(j:∀x,OW U X.ae x=Bn x:=by intro _;rfl):Al X (.ListComp Z [⟨F,U,A,0⟩] J E) (LB own.length (z.map (·.2)) wi g L K):=by intro G s r H Q I h;show Y5 a hi f W V Y B d k c j I h λD C m s4 n v M i R S N O P q=>⟨m,i,λp l=>⟨.ref D,_,M.fo (λb o T e=>(l.2 b T).trans e) R S (.inr N) O P,rfl,q⟩⟩
theorem Pd{K:Dg}(Z:List (AF×Nat))(L:X.je=AK)(hi:GN X (.Name x G) J wi)(O:X.ae.scope=osc)(N:D.kind=.function)(V:∀y∈D.names,y.2≠.cell)(U:∀y∈D.names,y.2=.local->D.names.lookup y.1=AA .local)(W:∀y∈D.names,y.2=.free->osc.names.lookup y.1=AA .cell\/osc.names.lookup y.1=AA .free)(A:Kv X D Z)(F:D.names.lookup x=AA .local)(B:(x::Z.map (·.1)).Nodup)(Q:∀C s H ex,Ky (EJ X D (x::Z.map (·.1)) C s H ex) z K)(M:∀C s H ex,Al (EJ X D (x::Z.map (·.1)) C s H ex) Y I)(P:∀x,OW J X.ae x=Bn x:=by intro _;rfl):Al X (.ListComp Y [⟨.Name x G,J,z,0⟩] D E) (LB 1 (Z.map (·.2)) wi (Gy 0) K I):=Zs (own:=[x]) L hi N V U (λy R e=>by change X.ae.scope.names.lookup _=_\/X.ae.scope.names.lookup _=_;rw[O];show W y R e) A (λC s H ex=>Jj B rfl (.inl (OY F)) (.inr (OY F))) Q M P
def Nh(z:AF):GL:=⟨λi O=>i<z.cps.size,λi H x D=>D=H/\∃c,z.cps[i]?=AA c/\x=.str ⟨#[c]⟩,λi O=>z.cps.size<=i⟩
def tE(J:Av):F3:=λU H R=>J U H λx D=>GO (λz=>x=.str z) (λz=>R (Nh z) D)
theorem bA{K:As}(it:AB)(z:AF)(t:JV)(l:String)(Z:l="str_ascii_iterator"\/l="str_iterator"):K4 P w K p (Nh z) [it] it (λi h=>i<=z.cps.size/\h.IsStrIter it l z t i)where
 abt:=by simp
 au:=λi h J b D=>by
  have e:b=it:=by simpa using D
  subst e;obtain⟨_,o,e,c,d⟩:_:=J;show⟨o,e,λv z=>by rw[d]at z;cases z⟩
 ab:=λi h B J k=>by obtain⟨g,o,e,r⟩:_:=J;show⟨g,o,k it (by simp) o e,r⟩
 vy:=by
  intro X f hw a O i U s m H E I Q J C;subst f hw a;obtain⟨F,G,n,L,M,N⟩:_:=Q it (by simp);rcases Z with e|e<;>subst e
  . have W:=ADR (prog:=X.ai) (w:=X.w) (I.ok.hd O) it z t;show W.item i s _ _ C J.2 λv B R j V A=>?_;lk;obtain⟨c,u,Y,rfl⟩:=j;have S:Aa X U m H {s with heap:=B,toks:=R}:=I.fo (λb o D e=>A b o (by simpa using D) e) F G L M N;obtain⟨o,e,T,d⟩:=id V;k_in;show⟨_,rfl,Mm e T d (by decide) ⟨.str ⟨#[c]⟩,H,S,⟨_,rfl⟩,⟨rfl,c,Y,rfl⟩,⟨C,V⟩,λb D=>(Q b D).1⟩⟩
  . have W:=ADS (prog:=X.ai) (w:=X.w) (I.ok.hd O) it z t;show W.item i s _ _ C J.2 λv B R j V A=>?_;lk;obtain⟨c,u,Y,rfl⟩:=j;have S:Aa X U m H {s with heap:=B,toks:=R}:=I.fo (λb o D e=>A b o (by simpa using D) e) F G L M N;obtain⟨o,e,T,d⟩:=id V;k_in;show⟨_,rfl,Mm e T d (by decide) ⟨.str ⟨#[c]⟩,H,S,⟨_,rfl⟩,⟨rfl,c,Y,rfl⟩,⟨C,V⟩,λb D=>(Q b D).1⟩⟩
 vx:=by
  intro X f hw a O i U s m H E I Q J C;subst f hw a;obtain⟨F,G,n,L,M,N⟩:_:=Q it (by simp);have g:i=z.cps.size:=Ec J.1 C;subst g;rcases Z with e|e<;>subst e;. have W:=ADR (prog:=X.ai) (w:=X.w) (I.ok.hd O) it z t;show W.done s _ _ J.2 λB R A=>⟨rfl,I.fo (λb o D e=>A b o (by simpa using D) e) F G L M N⟩
  . have W:=ADS (prog:=X.ai) (w:=X.w) (I.ok.hd O) it z t;show W.done s _ _ J.2 λB R A=>⟨rfl,I.fo (λb o D e=>A b o (by simpa using D) e) F G L M N⟩
 xi:=λ_ _ _ _ _ J h=>by
  rcases Z with e|e<;>subst e;.show wpAny_pyIter_striter_ascii J.2 h
  .show wpAny_pyIter_striter_wide J.2 h
theorem Zz(A:Al X l Z):GN X E l (tE Z):=by
  intro U s C H R I h;show Ax (A U s C H _ I h) λv s1 J=>?_;lk;obtain⟨x,W,D,r1,B⟩:=J;obtain⟨z,e,q⟩:=B;k_in;subst e;obtain⟨t,rfl⟩:=r1;cases Y:z.cps.all (.<128)
  . show wpAny_pyIter_wide Y ?_;show⟨s1.heap.objs.size,[s1.heap.objs.size],_,_,W,rfl,D.iq (t':=s1.toks) λb o e=>C1 _ e,bA _ z t "str_iterator" (.inr rfl),⟨Bc _,_,F7 _ rfl,rfl,rfl⟩,λb V=>?_,q⟩;have e:b=s1.heap.objs.size:=by simpa using V
    subst e;show D.uw (Aj _) (D.cq.cj (Aj _))
  . show wpAny_pyIter_ascii Y ?_;show⟨s1.heap.objs.size,[s1.heap.objs.size],_,_,W,rfl,D.iq (t':=s1.toks) λb o e=>C1 _ e,bA _ z t "str_ascii_iterator" (.inl rfl),⟨Bc _,_,F7 _ rfl,rfl,rfl⟩,λb V=>?_,q⟩;have e:b=s1.heap.objs.size:=by simpa using V
    subst e;show D.uw (Aj _) (D.cq.cj (Aj _))
theorem Y6{K:Av}(xs:List AE)(p:AE->Bool)(f:AE->AE)(b:xs.length<=Az)(Z:∀i,i<xs.length->J.go i H)(A:J.ux xs.length H)(a:∀i x H',i<xs.length->J.aaj i H x H'->H'=H/\xs[i]?=AA x)(C:∀x(R:Bool->AH->Prop),x∈xs->R (p x) H->L (AA x::Y.map (F6 E)) H R)(B:∀x(R:Bf),x∈xs->p x=AK->R (f x) H->K (AA x::Y.map (F6 E)) H R)(T:∀D,H D=AG->Q (.ref D) (AM H D (.lst ((xs.filter p).map f)))):Kt 1 Y (Gy 0) L K E Q J H:=by
  show⟨λi m M W H'=>m=xs.length-i/\i<=xs.length/\H'=H/\(∃o,M=o::Y.map _)/\W=(((xs.take i).filter p).map f),⟨xs.length,by simp,Bc _,rfl,⟨_,rfl⟩,rfl⟩,?_⟩;intro i m M W H' S;obtain⟨rfl,X,rfl,⟨o,rfl⟩,rfl⟩:_:=S;by_cases U:i<xs.length
  . show .inr ⟨Z i U,?_,λx N y=>?_⟩
    . rw[Aq];have P:((xs.take i).filter p).length<=(xs.take i).length:=FY _ _;rw[Er]at P;lia
    . obtain⟨O,F⟩:=a i x N U y;subst O;have I:=Cm F;show C x _ I ?_;have G:=take_succ_filter p xs i x F;cases z:p x with |true=> show B x _ I z ⟨_,Hv _ _ U,rfl,U,rfl,⟨_,rfl⟩,?_⟩;rw[G,z];simp|false=> show⟨_,Hv _ _ U,rfl,U,rfl,⟨_,rfl⟩,?_⟩;rw[G,z];simp
  . have e:=Ec X (FQ U);subst e;rw[Py];show .inl ⟨A,T⟩
theorem rR{K:As}(p:AE->Bool)(f:AE->AE)(U:CD K H a xs)(E:xs.length<=Az)(Y:∀x(R:Bool->AH->Prop),x∈xs->R (p x) H->A (AA x::J.map (F6 Z)) H R)(W:∀x(R:Bf),x∈xs->p x=AK->R (f x) H->z (AA x::J.map (F6 Z)) H R)(B:∀D,H D=AG->Q (.ref D) (AM H D (.lst ((xs.filter p).map f)))):Kt 1 J (Gy 0) A z Z Q (Kw K a) H:=Y6 xs p f E (λi C=>⟨xs,xs[i],U,by simp[C]⟩) ⟨xs,U,Aj _⟩ (λi x F O y=>⟨y.1,y.2 xs U⟩) Y W B
def L5(z:AF):List AE:=z.cps.toList.map λc=>AE.str ⟨#[c]⟩
theorem rS(p:AE->Bool)(f:AE->AE)(K:z.length<=Az)(W:∀x(R:Bool->AH->Prop),x∈L5 z->R (p x) H->A (AA x::J.map (F6 Y)) H R)(U:∀x(R:Bf),x∈L5 z->p x=AK->R (f x) H->Z (AA x::J.map (F6 Y)) H R)(C:∀D,H D=AG->Q (.ref D) (AM H D (.lst (((L5 z).filter p).map f)))):Kt 1 J (Gy 0) A Z Y Q (Nh z) H:=by
 have F:(L5 z).length=z.cps.size:=by simp[L5]
 have G:z.length=z.cps.size:=rfl;show Y6 _ p f (by simp_all) (λi E=>by change i<z.cps.size;simp_all) (by show Bi F.symm) (λi x I E y=>?_) W U C;obtain⟨e,c,B,rfl⟩:_:=y;show⟨e,?_⟩;unfold L5;rw[Bt];have:z.cps.toList[i]?=AA c:=by simpa using B
 rw[this];rfl
def v8:AE->Option Int->Option Int->AH->Bf->Prop:=λx J D H Q=>JF (λz=>x=.str z) (λz=>z.length<=Az) (λz=>Q (.str (LO z J D)) H)
theorem Zp(p:NC v o):∃l:Option (Int×JV),v=partValue l/\l.map (·.1)=o:=by cases p with|none=>show⟨AG,rfl,rfl⟩|int i t=>show⟨AA (i,t),rfl,rfl⟩
theorem aD:Nl X v8:=by intro D s K H x v E G A Z B Q I Y J V W h;lk;obtain⟨z,rfl,U,q⟩:=h;obtain⟨t,rfl⟩:=Y;obtain⟨l,rfl,rfl⟩:=Zp V;obtain⟨u,rfl,rfl⟩:=Zp W;k_in;show⟨"str",_,F.slot_str_getitem.lookup,Vq _ _ _,wpAny_getItem_str_slice (l:=l) (u:=u) (st:=AG) J rfl (post_val_or_str ⟨Ag (Txt.slice_le z _ _) U,λC k=>⟨.str _,H,I.ig _,⟨_,rfl⟩,q⟩⟩)⟩
theorem Yx{K:As}(J:X.K=K:=by rfl):FX X (.builtin "isinstance") (λxs H Q=>∃x n t b,xs=[x,.ty n]/\IK K H x t/\ADK K t (.type n)=AA b/\Q (.bl b) H):=by subst J;intro D s A H xs z Q I r h;lk;obtain⟨x,n,t,b,rfl,W,e,q⟩:=h;obtain⟨u,Y,rfl,V,U⟩:=VI r;cases(show Y=AAA n from U);k_in;show tG I V W e λZ=>⟨.bl b,H,I.ig _,rfl,q⟩
mutual inductive HG(K:As)(H:AH):AE->Jr->Prop where|non:HG K H .non .none|bl(b:Bool):HG K H (.bl b) (.bool b)|int(i:Int):HG K H (.int i) (.int i)|str(x:AF):HG K H (.str x) (.str x)|lst{a:AB}{xs:List AE}{ds:List Jr}:CD K H a xs->JE K H xs ds->HG K H (.ref a) (.list ds)|tup{a:AB}{xs:List AE}{ds:List Jr}:Cs K H a xs->JE K H xs ds->HG K H (.ref a) (.tuple ds)inductive JE(K:As)(H:AH):List AE->List Jr->Prop where|nil:JE K H [] []|cons{x:AE}{d:Jr}{xs:List AE}{ds:List Jr}:HG K H x d->JE K H xs ds->JE K H (x::xs) (d::ds)end
section
variable{X:Bp}{pins:List (AB×BR)}{σ:Ah}{H:AH}{s:AZ}
mutual theorem HG.abw(I:Aa X pins σ H s):∀{x:AE}{d:Jr}{u:AL},HG X.K H x d->Be x u->∃D,Reads s.heap u d D|_,_,_,.non,r=>by cases(by assumption);show⟨_,.none⟩|_,_,_,.bl b,r=>by cases(by assumption);show⟨_,.bool b⟩|_,_,_,.int i,r=>by obtain⟨t,rfl⟩:=r;show⟨_,.int i t⟩|_,_,_,.str x,r=>by obtain⟨t,rfl⟩:=r;show⟨_,.str x t⟩|_,_,_,.lst J ds,r=>by lk;cases r;obtain⟨U,Y,W,_⟩:=I.bz J;obtain⟨D,q⟩:=UI I ds Y;obtain⟨o,e,c,n,d⟩:=W.isList;k_in;show⟨_,.list e c d (by simpa using q)⟩|_,_,_,.tup J ds,r=>by lk;cases r;obtain⟨U,Y,W,_⟩:=I.ir J;obtain⟨D,q⟩:=UI I ds Y;obtain⟨o,e,c,n,d⟩:=W;k_in;show⟨_,.tuple e c d (by simpa using q)⟩theorem UI(I:Aa X pins σ H s):∀{xs:List AE}{ds:List Jr}{Z:List AL},JE X.K H xs ds->Bb xs Z->∃D,ReadsAll s.heap Z ds D|_,_,_,.nil,r=>by cases r;show⟨_,.nil⟩|_,_,_,.cons d ds,r=>by cases r with|cons r1 r2=>lk;obtain⟨D,q⟩:=HG.abw I d r1;obtain⟨z,p⟩:=UI I ds r2;k_in;show⟨_,.cons q p⟩end
end
def Z3(K:As):EF:=λx y H Q=>RO (λd e=>HG K H x d) (λO e=>HG K H y e) (λd O=>LN d=AK) (λO e=>LN e=AK) (λd e=>Q (.bl (!zZ d e)) H)
theorem PZ{K:As}(W:X.A.units+64<GV)(J:X.K=K:=by rfl):CP X (Ej .NotEq) (Z3 K):=by subst J;intro D s E H x y v u Q I Y Z h;lk;obtain⟨d,e,U,V,z,A,q⟩:=h;obtain⟨B,r1⟩:=U.abw I Y;obtain⟨C,r2⟩:=V.abw I Z;k_in;show ne_dataH r1 r2 z A W ⟨.bl _,H,I,rfl,q⟩
theorem Hj{α:Type}(xs:List α)(n:Int)(W:(xs.length:Int)=n)(D:0<n)(c:Int):∃v,DQ xs (c%n)=AA v/\v∈xs:=by have J:0<=c%n:=Fu _ (JW D);have V:c%n<n:=Gr _ D;obtain⟨j,U⟩:=AA8 J;show⟨xs[j],?_,(by simp)⟩;rw[U];show Ap (by simp)
theorem K6{c:Bool}{A B:Prop}(D:c=AK->A)(J:c=AR->B):if c=AK then A else B:=by simp_all
theorem An.gy(e:An H H')(h:H' a=AG):An H (AM H' a o):=λb u q=>by rw[AV (BH (e b u q) h)];show e b u q
theorem Lq{K:As}(D:X.K=K:=by rfl):Ni X (Z1 K):=by subst D;show tK
theorem JI{K:As}(D:X.K=K:=by rfl):Ni X (Z2 K):=by subst D;show tL
theorem K9{K:As}(D:X.K=K:=by rfl):Nl X (Z4 K):=by subst D;show wH
theorem Rv{K:As}(D:X.K=K:=by rfl):Nl X (U8 K):=by subst D;show wI
theorem Uw{K:As}(D:X.K=K:=by rfl):CP X (Ej .In) (Rr K AR):=by subst D;show uI
theorem uQ{K:As}(D:X.K=K:=by rfl):CP X (Ej .NotIn) (Rr K AK):=by subst D;show uP
theorem N3{K:As}(D:X.K=K:=by rfl):CP X (G5 .Add) (U5 K):=by subst D;show uG
theorem Yy{K:As}(D:X.K=K:=by rfl):FX X (.builtin "len") (λxs H Q=>∃p ys,xs=[.ref p]/\(CD K H p ys\/Cs K H p ys)/\Q (.int ys.length) H):=by subst D;show rD
theorem Ll{K:As}(D:X.K=K:=by rfl):FX X (.type "list") (λxs H Q=>∃p ys,xs=[.ref p]/\(CD K H p ys\/Cs K H p ys)/\∀l,H l=AG->Q (.ref l) (AM H l (.lst ys))):=by subst D;show rF
theorem DA{K:As}(U:Al X l D)(J:X.K=K:=by rfl):GN X V l (RW K D):=by subst J;show vI U
theorem uY{K:As}{D:AF}{id:String}(F:cZ T)(Z:Slot T D id)(z:dQ (.builtin id)=Bn (.type "method_descriptor"))(C:Mh X id r)(E:Al X o A)(B:X.K=K:=by rfl)(W:Js o D X.ae (Ba o X.ae)=Ba o X.ae:=by rfl)(Y:(J.endLine==U.line)=AK:=by rfl):Al X (.Call (.Attribute o D J) [] [] U) (aJ K T r A):=by subst B;show uX F Z z C E W Y
theorem JM{K:As}{J:AF}{id:String}(M:cZ T)(B:Slot T J id)(C:dQ (.builtin id)=Bn (.type "method_descriptor"))(H:Mh X id r)(I:Al X o E)(G:Gf X (e::Y) t)(F:X.K=K:=by rfl)(Z:Js o J X.ae (Ba o X.ae)=Ba o X.ae:=by rfl)(A:((GU D (Cp (e::Y) X.ae)).all (λx=>!x.1)&&(QE D (QK [] X.ae)).all (λx=>x.1.isSome)&&Ae ((e::Y).length+([]:List MG).length+(if([]:List MG).isEmpty then 0 else 1)<30))=AK:=by rfl)(z:(W.endLine==D.line)=AK:=by rfl)(L:Cp (e::Y) X.ae=(AR,Ba e X.ae)::Cp Y X.ae:=by rfl)(U:(GU D (Cp Y X.ae)).any (·.1)=AR:=by rfl):Al X (.Call (.Attribute o J W) (e::Y) [] D) (VE K T r E t):=by subst F;show uW M B C H I G Z A z L U
def vZ(K:As):EF:=λx y H Q=>Nn (λa b D=>x=.ref a) (λO b O=>y=.ref b) (λa O D=>CD K H a D) (λO b O=>CD K H b []) (λO O D=>Q (.bl (!D.isEmpty)) H)
theorem uO{K:As}(D:X.A.units<GV)(Z:X.K=K:=by rfl):CP X (Ej .NotEq) (vZ K):=by subst Z;intro W s L H x y v u Q I E F h;lk;obtain⟨a,b,G,rfl,rfl,z,A,q⟩:=h;cases E;cases F;obtain⟨C,r1,U,_⟩:=I.bz z;obtain⟨J,r2,V,_⟩:=I.bz A;cases r2;k_in;have B:=r1.aq;cases G with|nil=>cases r1;show AEs (e:=λO=>AK) U.isList V.isList rfl D (λj Y O=>absurd Y (by simp)) _ _ _ _ ⟨.bl AR,H,I,rfl,q⟩|cons x r=>show AEt U.isList V.isList ?_ D _ _ _ _ ⟨.bl AK,H,I,rfl,q⟩;rw[IZ,<-B];rfl
theorem D6.u1(r:D6 k A):A.units+1<GV:=by have:=r.un;lia
def Nd(lo d:Int)(n:Nat):GL:=⟨λi O=>i<n,λi H x D=>D=H/\x=.int (lo+(i:Int)*d),λi O=>n<=i⟩
theorem xZ{K:As}(it:AB)(lo d:Int)(n:Nat):K4 P w K b (Nd lo d n) [it] it (λi h=>cW h it (lo+(i:Nat)*d) ((n:Int)-(i:Nat)) d)where
 abt:=by simp
 au:=(by simp_all)
 ab:=(λe u2 u3 G L=>L _ Dr _ G)
 vy:=by intro X O hw N B i D s Q H E I C J F;subst O hw N;obtain⟨V,Y,S,Z,z,A⟩:_:=C it (by simp);have W:=ADQ (prog:=X.ai) (w:=X.w) (I.ok.hd B) it lo d n;show W.item i s _ _ F J λv M c T U a=>?_;obtain⟨t,rfl⟩:=T;have R:Aa X _ Q H {s with heap:=M,toks:=c}:=I.fo (λe u2 u3 G=>a _ _ (LI u3 (λL=>Bm.mp L)) G) V Y Z z A;show⟨_,rfl,Mm U rfl rfl (by decide) ⟨.int _,H,R,⟨t,rfl⟩,⟨rfl,rfl⟩,U,(by(simp[*]))⟩⟩
 vx:=by intro X O hw N B i D s Q H E I C J F;obtain⟨V,Y,S,Z,z,A⟩:_:=C it (by simp);show ADt (I.ok.hd B) J (by have:=F;show ABN (Sl.mp this)) λM f=>⟨rfl,I.fo (by assumption) V Y Z z A⟩
 xi:=λo o o o o J h=>ADs J h
def Fo(lo hi d:Int):Nat:=if lo<hi then((hi-lo-1)/d+1).toNat else 0
theorem Ru{lo:Int}(D:1<=d):cO lo hi d=(Fo lo hi d:Int):=by
 unfold cO Fo;rw[AE0 (by assumption)];split
 . have:0<=(hi-lo-1)/d:=AA6 (by lia) (Kb D);show AA7.mpr (AA9 this)
 .rfl
theorem bB{lo:Int}(J:1<=d):(Fo lo hi d:Int)<=(if lo<hi then hi-lo else 0):=by
 unfold Fo;split
 . have D:(hi-lo-1)/d<=hi-lo-1:=Int.ediv_le_self _ (by lia);omega
 simp
theorem wL(D:1<=c)(V:c<1000000)(W:-(2^40)<=a)(J:a<2^40)(Y:-(2^40)<=b)(U:b<2^40):cP a b c=AK:=by have h:=bB (lo:=a) (hi:=b) D;have Z:=Ru (lo:=a) (hi:=b) D;unfold cP;simp only[ACU,QZ,AA3,AE6,AFA,show c>0 by assumption,AE7];(constructor<;>lia)
theorem wA{K:BN}{lo:Int}(I:Aa X D U H s)(V:1<=d)(Y:d<1000000)(A:-(2^40)<=lo)(B:lo<2^40)(C:-(2^40)<=hi)(F:hi<2^40)(q:R (Nd lo d (Fo lo hi d)) H):A1 (Ao X.ai X.w) X.A (dN (.ref s.heap.objs.size)) (UM X D U K R) E {s with heap:=s.heap.push {cls:=.type "range",data:=.fields #[.int lo t,.int hi u,.int d v]},toks:=W}:=by
  show ADr (zV ..) (wL V Y A B C F) ?_;have J:Aa X _ U H {s with heap:=s.heap.push {cls:=.type "range",data:=.fields #[.int lo t,.int hi u,.int d v]},toks:=W}:=I.iq λb o e=>C1 _ e;show⟨_,_,_,_,H,rfl,J.iq λb o e=>C1 _ e,xZ _ lo d _,?_,λb G=>?_,q⟩
  . have Z:lo+((0:Nat))*d=lo:=by simp
    have z:((Fo lo hi d))-((0:Nat))=cO lo hi d:=by rw[Ru V];rfl
    change cW _ _ _ _ d;rw[Z,z];show F7 _ rfl
  . have e:=Bm.mp G;subst e;show J.uw (Aj _) (J.cq.cj (Aj _))
def tD(J:Fi):F3:=λV H R=>J V H λU D=>RQ (λ(i j d:Int)=>U=[.int i,.int j,.int d]) (λi j d=>(1<=d/\d<1000000/\-(2^40)<=i/\i<2^40/\-(2^40)<=j/\j<2^40)) (λi j d=>R (Nd i d (Fo i j d)) D)
theorem vK(C:Ge X "range")(E:X.mg "range"=AG)(B:Gf X [a,b,c] Z)(O:Cp [a,b,c] X.ae=[(AR,Ba a X.ae),(AR,Ba b X.ae),(AR,Ba c X.ae)]:=by rfl)(J:Cp [b,c] X.ae=[(AR,Ba b X.ae),(AR,Ba c X.ae)]:=by rfl):GN X Q (.Call (.Name "range" p) [a,b,c] [] U) (tD Z):=by intro Y s M H R I h;show Vd (KN I C E cH (P6 (Ax (B _ _ s M H _ I h) λS s1⟨T,N,z,r1,V⟩=>?_) (by simp_all) (by rw[J];rfl)));obtain⟨i,j,d,e,⟨W,A,V,F,G,K⟩,q⟩:_:=V;subst e;cases r1 with|cons r D=>cases D with|cons L D=>cases D with|cons r2 D=>lk;cases D;obtain⟨t,rfl⟩:=r;obtain⟨P,rfl⟩:=L;obtain⟨t2,rfl⟩:=r2;k_in;show call_range_3 (JW W) (wA z W A V F G K q) (.inl (zN (by grind)))
theorem sP{lo d:Int}{n:Nat}{g:Eh}{B:Cz}{D:HH}{J:Ah}{H:AH}(Z:Nat->Ah->AH->Prop)(C:Z 0 J H)(I:∀i J H,i<n->Z i J H->g (.int (lo+(i:Int)*d)) J H λY z=>B {D with nx:=Z (i+1),ct:=Z (i+1),bk:=D.nx} Y z)(F:∀J H,Z n J H->D.nx J H):∃W:Nat->Nat->Ah->AH->Prop,(∃m,W 0 m J H)/\∀i m J H,W i m J H->((Nd lo d n).ux i H/\D.nx J H)\/((Nd lo d n).go i H/\∃N:Ah->AH->Prop,(∀V H',N V H'->∃A,A<m/\W (i+1) A V H')/\∀x H',(Nd lo d n).aaj i H x H'->g x J H' λY z=>B {D with nx:=N,ct:=N,bk:=D.nx} Y z):=by
 show⟨λi m J H=>m=n-i/\i<=n/\Z i J H,⟨n,by simp,Bc _,C⟩,?_⟩;intro i m J H E;obtain⟨rfl,G,p⟩:_:=E;by_cases U:i<n
 . show .inr ⟨U,_,λV H' K=>⟨_,Hv _ _ U,rfl,U,K⟩,λx H' y=>?_⟩;obtain⟨e,y⟩:=y;subst e y;show I i J _ U p
 . have e:=Ec G (FQ U);subst e;show .inl ⟨Aj _,F J H p⟩
theorem vN(p:X.N.Nodup)(M:X.N[Q]?=AA y)(O:Li X.ae.scope y)(L:X.fn y=AK\/X.ae.scope.names.lookup y=AA .local)(t:X.je=AK)(hi:GN X F U wi)(hk:J.kind=.function)(Z:∀y∈J.names,y.2≠.cell)(V:∀y∈J.names,y.2=.local->J.names.lookup y.1=AA .local)(z:∀y∈J.names,y.2=.free->X.ae.kindOf y.1=AA .cell\/X.ae.kindOf y.1=AA .free)(K:Kv X J B)(w:∀C s H ex,Kx (EJ X J (own++B.map (·.1)) C s H ex) F g)(ht:∀C s H ex,Ky (EJ X J (own++B.map (·.1)) C s H ex) A c)(u:∀C s H ex,Al (EJ X J (own++B.map (·.1)) C s H ex) Y T)(N:OZ (.ListComp Y [⟨F,U,A,0⟩] J E) (AA (.Name y S)) W.line X.ae=Bn AK)(hs:∀x,OW U X.ae x=Bn x:=by intro _;rfl):Ez X (.Assign [.Name y S] (.ListComp Y [⟨F,U,A,0⟩] J E) W) (Rw (LB own.length (B.map (·.2)) wi g c T) (Gy Q)):=by
 intro R s σ H D0 I h;rw[exec_Assign_Name_used _ _ _ _ N];show BI (AAf (BI ?_));show BI (IA (Y5 t hi hk Z V z K w ht u hs I h λD C m s4 H5 v d hn l n i j k q=>?_) (λ_ s' hq=>Cq (Cq hq)) λ_ _ e=>e);show ADj (aF d p M O (v:=.ref D) rfl (λs5 f⟨a,P,ha⟩=>?_) L);have G:C≠a:=by grind
 show⟨m,Heap.Ns.sameBut hn P G,λh' sb=>⟨_,_,f.fo (λb o r e=>(sb.2 b r).trans e) l n (.inr i) j k,q⟩⟩
theorem Pg(A:List (AF×Nat))(Q:X.N.Nodup)(F:X.N[i]?=AA y)(K:Li X.ae.scope y)(R:X.je=AK)(hi:GN X (.Name x L) J wi)(b:X.ae.scope=osc)(a:D.kind=.function)(Y:∀y∈D.names,y.2≠.cell)(U:∀y∈D.names,y.2=.local->D.names.lookup y.1=AA .local)(Z:∀y∈D.names,y.2=.free->osc.names.lookup y.1=AA .cell\/osc.names.lookup y.1=AA .free)(E:Kv X D A)(M:D.names.lookup x=AA .local)(G:(x::A.map (·.1)).Nodup)(d:∀C s H ex,Ky (EJ X D (x::A.map (·.1)) C s H ex) z P)(S:∀C s H ex,Al (EJ X D (x::A.map (·.1)) C s H ex) W O)(I:OZ (.ListComp W [⟨.Name x L,J,z,0⟩] D B) (AA (.Name y N)) V.line X.ae=Bn AK:=by rfl)(T:X.fn y=AK\/X.ae.scope.names.lookup y=AA .local:=by first|show .inl rfl|show .inr rfl|assumption)(c:∀x,OW J X.ae x=Bn x:=by intro _;rfl):Ez X (.Assign [.Name y N] (.ListComp W [⟨.Name x L,J,z,0⟩] D B) V) (Rw (LB 1 (A.map (·.2)) wi (Gy 0) P O) (Gy i)):=vN (own:=[x]) Q F K T R hi a Y U (λy f e=>by change X.ae.scope.names.lookup _=_\/X.ae.scope.names.lookup _=_;rw[b];show Z y f e) E (λC s H ex=>Jj G rfl (.inl (OY M)) (.inr (OY M))) d S I c
theorem wM(D:1<=c)(V:c<=2000000)(W:-(2^40)<=a)(J:a<2^40)(Y:-(2^40)<=b)(U:b<2^40):cP a b c=AK:=by have h:=bB (lo:=a) (hi:=b) D;have Z:=Ru (lo:=a) (hi:=b) D;unfold cP;simp only[ACU,QZ,AA3,AE6,AFA,show c>0 by assumption,AE7];(constructor<;>lia)
theorem Gz:∀{D:List α}{J:List U},D.length=J.length->(∀(i:Nat)a b,D[i]?=AA a->J[i]?=AA b->F a b)->BJ F D J|[],[],_,_=>.nil|a::D,b::J,V,h=>.cons (h 0 a b rfl rfl) (Gz (ABz.mp V) λi x y W Y=>h (i+1) x y (by assumption) (by assumption))
def Pj(i j d:Int):List Int:=(FZ (Fo i j d)).map λk:Nat=>i+(k:Int)*d
theorem VA(i j d:Int):(Pj i j d).length=Fo i j d:=by unfold Pj;simp
theorem wC(h:k<Fo i j d):(Pj i j d)[k]?=AA (i+(k:Int)*d):=by unfold Pj;simp_all
def xJ(J:Fi):Av:=λW H Q=>J W H λU D=>RQ (λ(i j d:Int)=>U=[.int i,.int j,.int d]) (λi j d=>(1<=d/\d<=2000000/\-(2^40)<=i/\i<2^40/\-(2^40)<=j/\j<2^40/\Fo i j d<=16777216)) (λi j d=>∀l,D l=AG->Q (.ref l) (AM D l (.lst ((Pj i j d).map AE.int))))
theorem vD(g:X.je=AK)(Z:Ge X "list")(A:X.mg "list"=AG)(l:Ge X "range")(n:X.mg "range"=AG)(f:Gf X [a,b,c] N)(hs:Cp [a,b,c] X.ae=[(AR,Ba a X.ae),(AR,Ba b X.ae),(AR,Ba c X.ae)]:=by rfl)(B:Cp [b,c] X.ae=[(AR,Ba b X.ae),(AR,Ba c X.ae)]:=by rfl)(v:Cp [.Call (.Name "range" E) [a,b,c] [] D] X.ae=[(AR,Ba (.Call (.Name "range" E) [a,b,c] [] D) X.ae)]:=by rfl):Al X (.Call (.Name "list" p) [.Call (.Name "range" E) [a,b,c] [] D] [] F) (xJ N):=by intro U s O H Q I h;show QO (KN I Z A KY ?_);show P6 ?_ (by rfl) rfl;show LJ ?_;show Vd (KN I l n cH (P6 (Ax (f D U s O H _ I h) λus s1⟨vs,P,K,r1,G⟩=>?_) (by simp_all) (by rw[B];rfl)));obtain⟨i,j,d,e,⟨Y,S,G,y,q3,q4,M⟩,q⟩:_:=G;subst e;cases r1 with|cons r V=>cases V with|cons r' V=>cases V with|cons r2 V=>
        lk;cases V;obtain⟨t,rfl⟩:=r;obtain⟨t',rfl⟩:=r';obtain⟨t2,rfl⟩:=r2;k_in;show call_range_3 (JW Y) ?_ (.inl (zN (by grind)));show OO ?_;have L:Aa X U O P {s1 with heap:=s1.heap.push {cls:=.type "range",data:=.fields #[.int i t,.int j t',.int d t2]},toks:=s1.toks}:=K.iq λb o e=>C1 _ e;show call_list_range (K.ok.hd g) (zV ..) (wM Y S G y q3 q4) (Ru Y) M λT tk W R m hS J=>?_;show⟨.ref _,_,L.ou m (Aj _) (show DZ X.ai X.w _ T _ (.lst _)from⟨?_,W.toList,R,?_,by assumption⟩),rfl,q _ (L.cq.cj (Aj _))⟩
        . rw[Aq,VA];show M
        . show Gz (by rw[Aq,VA,MI,J.1]) λk x u C w=>?_;have z:k<Fo i j d:=by have:=(BU.mp C).1;rw[Aq,VA]at this;assumption
          rw[Bt,wC z]at C;obtain⟨tk',e⟩:=J.2 k u (by(simpa using w));rw[<-By C,e];show⟨_,rfl⟩
theorem rM{K:As}(B:X.je=AK)(A:X.K=K:=by rfl):FX X (.builtin "sum") (λxs H Q=>∃(p:AB)(ns:List Int),xs=[.ref p]/\CD K H p (ns.map AE.int)/\Q (.int ns.sum) H):=by
 subst A;intro Y s T H xs S Q I r h;lk;obtain⟨p,ns,rfl,E,q⟩:=h;obtain⟨u,rfl,L⟩:=HN r;cases L;obtain⟨F,M,G,O⟩:=I.bz E;have U:=Uh M;obtain⟨J,W⟩:=U.allInts.items;k_in;have D:=W▸G.isList;show sum_intListG (I.ok.hd B) D λN R P C=>?_;have Z:ns=J.toList.map (·.1):=by rw[<-AAW,<-W];show(show numsOf _=ns from U.numsOf).symm
 have z:preSum (numAt J) J.size=ns.sum:=by rw[preSum_eq,EH (by simp),Z]
 rw[z];show⟨.int _,H,I.iq C,⟨_,rfl⟩,q⟩
theorem rK{K:As}(A:X.je=AK)(z:X.K=K:=by rfl):FX X (.builtin "min") (λxs H Q=>∃(p:AB)(ns:List Int),xs=[.ref p]/\CD K H p (ns.map AE.int)/\0<ns.length/\∀M,M∈ns->(∀a,a∈ns->M<=a)->Q (.int M) H):=by
 subst z;intro Z s g H xs f Q I r h;lk;obtain⟨p,ns,rfl,F,E,q⟩:=h;obtain⟨u,rfl,O⟩:=HN r;cases O;obtain⟨L,P,N,c⟩:=I.bz F;have Y:=Uh P;obtain⟨D,e⟩:=Y.allInts.items;k_in;have J:ns=D.toList.map (·.1):=by rw[<-AAW,<-e];show(show numsOf _=ns from Y.numsOf).symm
 have U:0<D.size:=by simp_all
 have C:=e▸N.isList;show min_intList (I.ok.hd A) C U λv R d G B=>?_;lk;obtain⟨t,rfl⟩:=intItems_at G;obtain⟨S,T⟩:=argBest_lt (numAt D) (D.size-1);k_in;show⟨.int _,H,I.iq B,⟨_,rfl⟩,q _ ?_ λa W=>?_⟩;.rw[dM];grind
 . rw[J]at W;obtain⟨j,b,rfl⟩:_:=mem_getD W;rw[<-dM];grind
theorem rH{K:As}(A:X.je=AK)(z:X.K=K:=by rfl):FX X (.builtin "max") (λxs H Q=>∃(p:AB)(ns:List Int),xs=[.ref p]/\CD K H p (ns.map AE.int)/\0<ns.length/\∀M,M∈ns->(∀a,a∈ns->a<=M)->Q (.int M) H):=by
 subst z;intro Z s g H xs f Q I r h;lk;obtain⟨p,ns,rfl,F,E,q⟩:=h;obtain⟨u,rfl,O⟩:=HN r;cases O;obtain⟨L,P,N,c⟩:=I.bz F;have Y:=Uh P;obtain⟨D,e⟩:=Y.allInts.items;k_in;have J:ns=D.toList.map (·.1):=by rw[<-AAW,<-e];show(show numsOf _=ns from Y.numsOf).symm
 have U:0<D.size:=by simp_all
 have C:=e▸N.isList;show max_intList (I.ok.hd A) C U λv R d G B=>?_;lk;obtain⟨t,rfl⟩:=intItems_at G;obtain⟨S,T⟩:=argBest_gt (numAt D) (D.size-1);k_in;show⟨.int _,H,I.iq B,⟨_,rfl⟩,q _ ?_ λa W=>?_⟩;.rw[dM];grind
 . rw[J]at W;obtain⟨j,b,rfl⟩:_:=mem_getD W;rw[<-dM];grind
theorem ZH:∀ys D:List Int,ACz (ys.map OS) (D.map OS)=Ae (ys=D)|[],[]=>rfl|[],_::_=>rfl|_::_,[]=>rfl|y::ys,z::D=>by change(zZ _ _&&ACz _ _)=_;rw[ZH ys D];change((y==z)&&Ae _)=_;grind
theorem Rb:∀ys:List Int,Ie (ys.map OS)=AK/\G4 (ys.map OS)=0|[]=>⟨rfl,rfl⟩|y::r=>by obtain⟨a,b⟩:=Rb r;simp[Ie,LK,G4,LM,a,b]
theorem N2{K:As}(J:HG K H x d)(U:HG K H y d)(D:LN d=AK)(q:Q (.bl AR) H):Z3 K x y H Q:=⟨d,d,J,U,D,D,by rw[AC3 d (SeqAt.canLay_of_shaped D)];show q⟩
theorem DY.aau(l:List AB)(x:DY P w H h)(U:∀a∈l,H a=AG)(k:∀b u,b∉l->h.get? b=AA u->D.get? b=AA u):DY P w H D:=by intro b u e;show(x b u e).xj (λc v J q=>k c v ?_ q) (λO q=>q) λO O q=>q;grind
def Nf(K:As)(a:AB):GL:=⟨λi H=>∃D x,CD K H a D/\D[i]?=AA x,λi H x J=>∃p y,x=.ref p/\H p=AG/\J=AM H p (.tup [.int (i:Int),y])/\∀D,CD K H a D->D[i]?=AA y,λi H=>∃D,CD K H a D/\D.length<=i⟩
theorem xW{K:As}(a e it:AB)(L:e≠it):K4 P w K (.Tuple B x1 O) (Nf K a) [e,it] e (λi h=>(∃D,IsEnum h e it i D)/\h.IsListIter it a i)where
 abt:=by simp
 au:=λi h J b U=>by obtain⟨⟨D,W⟩,o,e2,c,d⟩:_:=J;grind
 ab:=λi h h' J k=>by obtain⟨⟨D,W⟩,J⟩:_:=J;show⟨(by grind),J.at (λu1 u2=>k _ (List.singleton_sublist.mp (List.sublist_cons_self _ _)) _ u2)⟩
 vy:=by
  intro X T hw S hc i N s σ H E I Z J g;subst T hw S;lk;obtain⟨xs,x,Q,A⟩:=g;obtain⟨m,r,p,hz⟩:=I.bz Q;obtain⟨u,hu,ru⟩:=r.xc A;obtain⟨⟨D,W⟩,V⟩:=J;obtain⟨y,f1,f2,f3,f4,f5⟩:=Z e (by simp);obtain⟨g0,g1,g2,g3,g4,g5⟩:=Z it (by simp);k_in;have R:e<s.heap.objs.size:=Ct W;have ilt:it<s.heap.objs.size:=by obtain⟨o,q,_⟩:=id V;show Ct q
  show wpAny_pyNext_enum_item W V p.isList (x:=u) (by simpa using hu) L λh' eo F ht hsz kk=>⟨_,rfl,wpAny_letOwnedTupleGo_enum eo λC he2 t=>?_⟩;have M:H s.heap.objs.size=AG:=I.cq.cj (Aj _);have pe:s.heap.objs.size≠e:=M5 R;have Y:∀b o,b∉[e,it]->s.heap.get? b=AA o->C.get? b=AA o:=λb o U q=>by have v:b≠e:=λz=>U (by simp[z]);have b2:b≠it:=λz=>U (by simp[z]);show(t.2 b v).trans (kk b o v b2 q)
  have G:C.IsListIter it a (i+1):=by obtain⟨o,q,c,d⟩:=id F;show⟨o,(t.2 it (λz=>L z.symm)).trans q,c,d⟩
  have l:=(t.2 _ pe).trans ht;have j:DY X.ai X.w (AM H s.heap.objs.size (.tup [.int (i:Int),x])) C:=by show(I.cq.aau [e,it] (λb U=>(Z b U).1) Y).aaz M ?_;show⟨show 2<=Az by decide,[.int i s.toks,u],.cons ⟨_,rfl⟩ (.cons ru .nil),⟨_,l,rfl,_,rfl⟩⟩
  have un:Hi (Gx X.ft) [e,it] H (AM H s.heap.objs.size (.tup [.int (i:Int),x])) s.heap C:=by
   show⟨(λu1 u2 u3 u4 u5 u6=>Y _ _ u6 u3),λb o q n U A=>⟨o.slots,Y b o A q⟩,λb o q n A=>?_,(by grind),λb ys q=>?_,λb o u q=>?_,λb ps q=>?_⟩;.rw[AV (ET (Ct q))];show n
   .rw[AV (BH q M)];show q
   .rw[AV (BH q M)];show q
   .show⟨#[],by rw[AV (BH q M),AAw];show q⟩
  have I2:=I.aam (s':={s with heap:=C,toks:=s.toks+1}) (ch:=[e,it]) rfl un j I.mf (by grind);show⟨.ref s.heap.objs.size,_,I2,rfl,⟨_,x,rfl,M,rfl,λys hy=>by rw[I.yj hy Q];show A⟩,⟨⟨u,?_⟩,G⟩,λb U=>?_⟩;.assumption
  . have f:b≠s.heap.objs.size:=(by grind);rw[AV f];show(Z b U).1
 vx:=by intro X T hw S hc i N s σ H E I Z J g;subst T hw S;lk;obtain⟨xs,Q,A⟩:=g;obtain⟨m,r,p,hz⟩:=I.bz Q;obtain⟨⟨D,W⟩,V⟩:=J;obtain⟨y,f1,f2,f3,f4,f5⟩:=Z it (by simp);k_in;have hl:=r.aq;show wpAny_pyNext_enum_end (I.ok.hd hc) W V p.isList (by simp;simp_all) λh' eb=>⟨rfl,I.fo (t':=s.toks) (λb o U e=>eb b o U e) y f1 f3 f4 f5⟩
 xi:=λ_ _ _ _ _ J h=>by obtain⟨⟨D,W⟩,_⟩:_:=J;show ADq W h
def sX(K:As)(J:Av):F3:=λV H R=>J V H λx D=>JF (λa=>x=.ref a) (λa=>(∃U,CD K D a U)) (λa=>R (Nf K a) D)
theorem Pf{K:As}(L:Ge X "enumerate")(O:X.mg "enumerate"=AG)(N:Al X l A)(E:X.K=K:=by rfl)(Y:Cp [l] X.ae=[(AR,Ba l X.ae)]:=by rfl):GN X (.Tuple J d V) (.Call (.Name "enumerate" p) [l] [] W) (sX K A):=by
 subst E;intro Z s f H R I h;show Vd (KN I L O boot_enumerate (P6 ?_ Y rfl));rw[Y];show LJ (Ax (N _ s f H _ I h) λv s1 U=>?_);obtain⟨x,B,D,r1,c⟩:_:=U;show OO ?_;obtain⟨a,e,⟨k,P⟩,q⟩:_:=c;subst e;lk;cases r1;obtain⟨S,j,p,i⟩:=D.bz P;k_in;show call_enumerate_list p.isList λg G M Q T=>?_;have C:=D.iq (t':=s1.toks) T;show ADq G ?_;show⟨_,_,_,_,B,rfl,C,xW a _ _ (Nat.add_one_ne_self _),(by grind),λb F=>?_,q⟩;rcases CZ.mp F with z|z;. subst z;show D.uw (P0 _) (D.cq.cj (P0 _))
 . have z:=Bm.mp z;subst z;show D.uw (Aj _) (D.cq.cj (Aj _))
theorem u9(z:List (AF×Nat))(I:X.je=AK)(hi:GN X (.Tuple [.Name x M,.Name y N] L V) J wi)(S:X.ae.scope=osc)(R:D.kind=.function)(W:∀y∈D.names,y.2≠.cell)(U:∀y∈D.names,y.2=.local->D.names.lookup y.1=AA .local)(Y:∀y∈D.names,y.2=.free->osc.names.lookup y.1=AA .cell\/osc.names.lookup y.1=AA .free)(F:Kv X D z)(K:D.names.lookup x=AA .local)(E:D.names.lookup y=AA .local)(A:(x::y::z.map (·.1)).Nodup)(a:∀C s H ex,Ky (EJ X D (x::y::z.map (·.1)) C s H ex) B P)(Q:∀C s H ex,Al (EJ X D (x::y::z.map (·.1)) C s H ex) Z O)(T:∀x,OW J X.ae x=Bn x:=by intro _;rfl):Al X (.ListComp Z [⟨.Tuple [.Name x M,.Name y N] L V,J,B,0⟩] D G) (LB 2 (z.map (·.2)) wi (Ug X.K 2 (Ue (Gy 0) (Ue (Gy 1) ZL))) P O):=Zs (own:=[x,y]) I hi R W U (λy E e=>by change X.ae.scope.names.lookup _=_\/X.ae.scope.names.lookup _=_;rw[S];show Y y E e) F (λC s H ex=>Zy (show(EJ X _ _ C s H ex).je=AK from I) (Eb (Jj A rfl (.inl (OY K)) (.inr (OY K))) (Eb (Jj A rfl (.inl (OY E)) (.inr (OY E))) Jk))) a Q T
theorem RV{K:As}{a:AB}{xs:List AE}{g:Eh}{F:Cz}{D:HH}{J:Ah}{H:AH}(Y:Nat->Ah->AH->Prop)(G:Y 0 J H)(M:∀i J H,i<=xs.length->Y i J H->CD K H a xs)(P:∀(i:Nat)x J H p,xs[i]?=AA x->Y i J H->H p=AG->g (.ref p) J (AM H p (.tup [.int (i:Int),x])) λA B=>F {D with nx:=Y (i+1),ct:=Y (i+1),bk:=D.nx} A B)(L:∀J H,Y xs.length J H->D.nx J H):∃W:Nat->Nat->Ah->AH->Prop,(∃m,W 0 m J H)/\∀i m J H,W i m J H->((Nf K a).ux i H/\D.nx J H)\/((Nf K a).go i H/\∃N:Ah->AH->Prop,(∀Z H',N Z H'->∃E,E<m/\W (i+1) E Z H')/\∀x H',(Nf K a).aaj i H x H'->g x J H' λA B=>F {D with nx:=N,ct:=N,bk:=D.nx} A B):=by
 show⟨λi m J H=>m=xs.length-i/\i<=xs.length/\Y i J H,⟨xs.length,by simp,Bc _,G⟩,?_⟩;intro i m J H I;obtain⟨rfl,C,p⟩:_:=I;have q:=M i J H C p;by_cases U:i<xs.length
 . show .inr ⟨⟨xs,xs[i],q,by simp[U]⟩,_,λZ H' R=>⟨_,Hv _ _ U,rfl,U,R⟩,λx H' y=>?_⟩;obtain⟨r,z,rfl,O,rfl,Q⟩:_:=y;show P i z J H r (Q xs q) p O
 . have e:=Ec C (FQ U);subst e;show .inl ⟨⟨xs,q,Aj _⟩,L J H p⟩
theorem rQ{K:As}(G:Nat->AE->Bool)(f:Nat->AE->AE)(n:xs.length<=Az)(M:∀J,An H J->CD K J a xs)(k:∀(i:Nat)x p E F J(R:Ah->AH->Prop),xs[i]?=AA x->An H J->J p=AA (.tup [.int (i:Int),x])->R (AA (.int (i:Int))::AA x::C.map (F6 I)) J->g (.ref p) (E::F::C.map (F6 I)) J R)(O:∀(i:Nat)x J(R:Bool->AH->Prop),xs[i]?=AA x->An H J->(∀B,An J B->R (G i x) B)->X (AA (.int (i:Int))::AA x::C.map (F6 I)) J R)(N:∀(i:Nat)x J(R:Bf),xs[i]?=AA x->G i x=AK->An H J->(∀B,An J B->R (f i x) B)->S (AA (.int (i:Int))::AA x::C.map (F6 I)) J R)(j:∀J,An H J->∀D,J D=AG->Q (.ref D) (AM J D (.lst (((OL (FZ xs.length) xs).filter λq=>G q.1 q.2).map λq=>f q.1 q.2)))):Kt 2 C g X S I Q (Nf K a) H:=by
  show⟨λi m b Z L=>m=xs.length-i/\i<=xs.length/\An H L/\(∃E F,b=E::F::C.map _)/\Z=((((OL (FZ xs.length) xs).take i).filter λq=>G q.1 q.2).map λq=>f q.1 q.2),⟨xs.length,by simp,Bc _,CQ H,⟨_,_,rfl⟩,rfl⟩,?_⟩;intro i m b Z L h;obtain⟨rfl,l,s1,⟨E,F,rfl⟩,U⟩:_:=h;have P:(OL (FZ xs.length) xs).length=xs.length:=by simp
  by_cases W:i<xs.length
  . have Y:=Ck W;have T:(OL (FZ xs.length) xs).take (i+1)=(OL (FZ xs.length) xs).take i++[(i,xs[i])]:=by
      rw[D2];have:(OL (FZ xs.length) xs)[i]?=AA (i,xs[i]):=by rw[L6];show⟨by simp[W],Y⟩
      rw[this];rfl
    show .inr ⟨⟨xs,_,M _ s1,Y⟩,?_,λx J y=>?_⟩
    . have:Z.length<=i:=by rw[U,Aq];show Ag (FY _ _) ?_;rw[Er];show Jo _ _
      show BY (FR this W) n
    . obtain⟨p,z,rfl,r,rfl,s⟩:_:=y;have c:=By ((s xs (M _ s1)).symm.trans Y);subst c;have s2:=s1.gy (o:=.tup [.int (i),xs[i]]) r;show k i _ p E F _ _ Y s2 AY ?_;show O i _ _ _ Y s2 λB s3=>?_;cases A:G i _ with |true=> show N i _ _ _ Y A (s2.aa s3) λt s4=>⟨_,Hv _ _ W,rfl,W,(s2.aa s3).aa s4,⟨_,_,rfl⟩,?_⟩;rw[T,FD,CW,<-U];simp[A]|false=>show⟨_,Hv _ _ W,rfl,W,s2.aa s3,⟨_,_,rfl⟩,?_⟩;rw[T,FD,CW,<-U];simp[A]
  . have e:=Ec l (FQ W);subst e;rw[EH (by rw[P];show Aj _)]at U;show .inl ⟨⟨xs,M _ s1,Aj _⟩,λD d=>by rw[U];show j L s1 D d⟩
theorem xS(l:AB)(D:Array AL)(n:Nat)(E:Option AB)(P:Array (Option AL))(x:AL)(e:AL->Bool)(I:∀y,y∈D->MeetsSeq.EqGives y x (e y))(j:Nat)(K:j<D.size)(Z:e D[j]=AK)(z:∀m(T:m<D.size),m<j->e D[m]=AR):Meets (Builtin.«tuple.index» ⟨[.ref l,x],[]⟩) (λX R s=>s.heap.get? l=AA {cls:=.type "tuple",dict:=E,data:=.seq D n,slots:=P}/\R (.ok (.ret (.int j s.toks))) {s with toks:=s.toks+1}):=.of_wp λJ w A R s h=>by
    obtain⟨M,g,d,Q,O⟩:_:=s;obtain⟨L,h⟩:=h;wp_walk using wpAny_loadPart' L;change A1 (Ao J w) A.in1 (IC [:D3 D.size D.size] ((AG,()):Option cV×Unit) _) _ _ _;rw[AEx];simp only[AEy,Nat.sub_zero,Nat.add_sub_cancel,Nat.div_one,Nat.min_self];show ADn _ (λU b C=>∃k,U=List.range' k (D.size-k) 1/\k<=j/\b.1=AG/\C=(⟨M,g,d,Q,O⟩:AZ)) _ ?_ ?_ _ _ ⟨0,rfl,Bc _,rfl,rfl⟩
    . intro i U b C H;obtain⟨k,B,Y,S,rfl⟩:_:=H;have V:k<D.size:=(FR Y K);rw[show D.size-k=(D.size-(k+1))+1 by show Nat.sub_one_cancel (VZ.mpr V) (yY _ (by decide)) (Nat.eq_sub_of_add_eq rfl),List.range'_succ]at B;injection B with F G;subst F G;have N:D[i]?=AA D[i]:=(by simp);simp only[N];show BI (I _ (Array.getElem_mem V) J w _ _ _ _ ?_);by_cases W:i=j;. subst W;rw[Z];wp_walk;show⟨_,rfl,h⟩
      . rw[z i V (DU Y W)];wp_walk;grind
    grind
theorem aH{ys:List AF}{its:List AL}(r:Bb (ys.map AE.str) its){i:Nat}{z:AF}(h:ys[i]?=AA z):∃t,its[i]?=AA (.str z t):=by obtain⟨u,D,t,rfl⟩:_:=r.xc (i:=i) (x:=.str z) (by simp_all);(constructor<;>omega)
def aG(z:AF):AL->Bool|.str y _=>y==z|_=>AR
theorem uA{K:As}(P:X.K=K:=by rfl):Mh X "tuple.index" (λx xs H Q=>∃(p:AB)(ys:List AF)(z:AF)(j:Nat),x=.ref p/\xs=[.str z]/\Cs K H p (ys.map AE.str)/\ys[j]?=AA z/\(∀m,m<j->ys[m]?≠AA z)/\Q (.int (j:Int)) H):=by
 subst P;intro M s w H x xs v r Q I k g h;lk;obtain⟨p,ys,z,j,rfl,rfl,d,G,b,q⟩:=h;cases k;obtain⟨u,rfl,t,rfl⟩:=HN g;obtain⟨D,E,e,o⟩:=I.ir d;obtain⟨⟨c,N,O,l⟩,L,Z,n,A⟩:=e;k_in;have Z:c=.type "tuple":=Z;have A:O=.seq D.toArray n:=A;subst Z A;have T:=E.aq;rw[Aq]at T;have B:j<ys.length:=(by grind);have R:∀y,y∈D.toArray->MeetsSeq.EqGives y (.str z t) (aG z y):=λy f=>by obtain⟨i,S,rfl⟩:=Gk.mp (by simpa using f);obtain⟨Y,J⟩:=aH E (Ck (by simp_all:i<ys.length));rw[Ck S]at J;rw[By J];show ACH _ _ _ _
 have U:∀m(W:m<D.toArray.size),∃Y,D.toArray[m]=.str (ys[m]'(by simp at W;simp_all)) Y:=λm W=>by
  have C:m<ys.length:=by simp at W;simp_all
  obtain⟨Y,J⟩:=aH E (Ck C);grind
 show NF ACr ⟨_,L,rfl⟩ F.entry_tuple_index (by rfl) (xS p D.toArray n N l (.str z t) (aG z) R j (by simp;simp_all) ?_ ?_) ⟨L,⟨.int (j:Int),H,I.ig _,⟨_,rfl⟩,q⟩⟩
 . obtain⟨Y,J⟩:=U j (by simp;simp_all);rw[J];rw[Ck B]at G;change(ys[j]==z)=AK;(simpa using G)
 . intro m W a;obtain⟨Y,J⟩:=U m W;rw[J];change(ys[m]==z)=AR;grind
theorem tH{c A B:Prop}[Decidable c](D:c)(h:A):if Ae c=AK then A else B:=by rw[AE1 D];show Jh h
theorem tI{c A B:Prop}[Decidable c](D:¬c)(h:B):if Ae c=AK then A else B:=by rw[AE3 D];show EY h
structure qR(K:As)(C:AB):Prop where
 ga:Hz K (.ref C) "__getattribute__"=AA (AA (.builtin "BaseException.__getattribute__"))gt:Hz K (.ref C) "__getattr__"=AA AG
 ck:Hz K (.ref C) "__class__"=AA (AA (.builtin "object.__class__"))sb:dI K (.ref C) (.type "BaseException")=AA AK
 so:dI K (.ref C) (.type "object")=AA AK
 cl:(ADE K C).isSome=AK
theorem An.zg(e:An H H')(h:H b=AG):An H (AM H' b o):=λc u q=>by rw[AV (BH q h)];show e c u q
theorem wR{a b:AF}(h:a.cps.toList=b.cps.toList):a=b:=by cases a;simp_all
theorem Pa{F:α->U->Prop}(h:BJ F D J):∀{i:Nat}{a:α}{b:U},D[i]?=AA a->J[i]?=AA b->F a b:=by induction h with|nil=>intro i a b h;cases h|cons r _ Y=>intro i a b V W;cases i with|zero=>cases V;cases W;show r|succ i=>show Y V W
theorem Uk(h:Lu k v=AK):Be (Au k) v:=by
 rcases KL h with⟨i,t,rfl,rfl⟩|⟨x,t,rfl,rfl⟩;.show⟨t,rfl⟩
 .show⟨t,rfl⟩
theorem ZR(J:Ey kvs vs)(Z:D.length=vs.length)(h:∀(j:Nat)(v:AL),D[j]?=AA v->∃(k:AN)(x:AL),vs[j]?=AA (k,x)/\Lu k v=AK):Bb (kvs.map λp=>Au p.1) D:=by
 show Gz ?_ ?_;.rw[Aq,Z];show Ic J
 . intro i a b U W;lk;obtain⟨k,x,A,Y⟩:=h i b W;rw[Bt]at U;obtain⟨p,z,rfl⟩:=EA.mp U;k_in;have q:=Pa J z A;rw[q.1];show Uk Y
theorem UU{K:As}(F:X.je=AK):FX X (.type "list") (λxs H Q=>∃(a:AB)(kvs:List (AN×AE)),xs=[.ref a]/\H a=AA (.dK kvs)/\∀l,H l=AG->Q (.ref l) (AM H l (.lst (kvs.map λp=>Au p.1)))):=by intro Y s T H xs R Q I r h;lk;obtain⟨a,kvs,rfl,e,q⟩:=h;obtain⟨u,rfl,N⟩:=HN r;cases N;obtain⟨z,M,S,D,B⟩:=Jf I.cq e;obtain⟨O,J⟩:=B.dictAt;k_in;have U:=Ic D;show W.kdl_call (ADJ M) (I.ok.hd F) J (by simp_all) λE P Z A L C W=>?_;show⟨.ref _,_,I.ou L (Aj _) (show DZ _ _ _ E _ (.lst _)from⟨by rw[Aq];show z,_,A,?_,by simpa using C⟩),rfl,q _ (I.cq.cj (Aj _))⟩;show ZR D (by show W.1) λj v G=>W.2 j v (by rw[<-NI];show G)
theorem EG{a b:Int}{A B:Prop}(D:a=b->A)(J:¬a=b->B):if Ae (AE.int a=AE.int b)=AK then A else B:=K6 (λe=>D (AE.int.inj (AE4 e))) λe=>J λz=>AE8 e (AE2 _ z)
theorem Ui{A B:Prop}(D:a=b->A)(J:¬a=b->B):if Ae (AE.str a=AE.str b)=AK then A else B:=K6 (λe=>D (AE.str.inj (AE4 e))) λe=>J λz=>AE8 e (AE2 _ z)
theorem IM{c:Prop}[Decidable c]{A B:Prop}(D:c->A)(J:¬c->B):if Ae c=AK then A else B:=(by simp_all)
def aM(t:Cz):Cz:=λD V H=>GO (λ(N:Ah->AH->Prop)=>t {D with nx:=N} V H) (λN=>∀J U,N J U->D.nx J U)
theorem Gj{st:C2}(h:Ez X st t):Ez X st (aM t):=λU s Y H D I⟨N,q,k⟩=>by show Ax (h _ s Y H _ I q) λf Z z=>?_;cases f with|next=>obtain⟨J,V,W,n⟩:=z;show⟨J,V,W,k _ _ n⟩|brk=>show z|cont=>show z|ret u=>show z
theorem Gh(N:Ah->AH->Prop)(h:t {D with nx:=N} U H)(k:∀J H',N J H'->D.nx J H'):aM t D U H:=⟨N,h,k⟩
theorem Bv(h:H a=AG):An H (AM H a o):=(CQ H).gy h
structure F9(prog:Co)(w:CC)(A:DV)(s:AZ)(κ:P4)(O:Vf)(kf:AL->O.α)(a₀:Array BB):Prop where afe:∀p∈a₀.toList,∀q∈a₀.toList,∀(Q:Bool->AZ->Prop)(E:AL->AZ->Prop),Q (O.blt (kf p.1) (kf q.1)) s->A1 (Ao prog w) A (keyLt' κ p.1 q.1) Q E s
structure Cr(κ:P4)(a₀:Array BB)(st:Cn):Prop where
 ow:(Ak st).Perm a₀
 ju:cK st=κ
 oj:M9 st=AG
def BV{O:Vf}(kf:AL->O.α)(xs:Array BB)(i:Nat):O.α:=kf ((xs[i]?.map (·.1)).getD .none)
def Dk{O:Vf}(kf:AL->O.α)(xs:Array BB)(lo hi:Nat):Prop:=∀i j,lo<=i->i<=j->j<hi->O.kle (BV kf xs i) (BV kf xs j)
theorem Gq{O:Vf}{kf:AL->O.α}{xs ys:Array BB}{i j:Nat}(h:xs[i]?=ys[j]?):BV kf xs i=BV kf ys j:=by unfold BV;rw[h]
theorem Cr.yo{D:Array BB}{st:Cn}(B:Cr J D st):(Ak st).size=D.size:=B.ow.size_eq
theorem Cr.ie{st:Cn}(B:Cr J D st){xs:Array BB}(h:xs.Perm (Ak st)):Cr J D (P8 st xs):=⟨h.trans B.ow,B.ju,B.oj⟩
theorem Cr.at{U:P4}{O:Vf}{kf:AL->O.α}{D:Array BB}{st:Cn}(B:Cr U D st){i:Nat}(hi:i<D.size):∃p,(Ak st)[i]?=AA p/\p∈D.toList/\BV kf (Ak st) i=kf p.1:=by
 have J:i<(Ak st).size:=by rw[B.yo];show hi
 show⟨(Ak st)[i],(by simp),(Sg.mp B.ow).mem_iff.mp (by simp),?_⟩;unfold BV;simp_all
theorem QV{prog:Co}{w:CC}{A:DV}{E:AL->AZ->Prop}{s:AZ}{V:P4}{O:Vf}{kf:AL->O.α}{D:Array BB}{st:Cn}(C:F9 prog w A s V O kf D)(B:Cr V D st){p q:BB}(J:p∈D.toList)(U:q∈D.toList){Q:Option Bool->Cn->Prop}(h:Q (AA (O.blt (kf p.1) (kf q.1))) st):Es (Ao prog w) A E s (lt' p q) Q st:=by rw[lt'_eq];show BG (ME ?_);rw[B.ju];show BG (P9 (ADk (C.afe p J q U _ _ ⟨rfl,BX h⟩)))
theorem QW{prog:Co}{w:CC}{A:DV}{E:AL->AZ->Prop}{s:AZ}{F:P4}{O:Vf}{kf:AL->O.α}{D:Array BB}{st:Cn}(C:F9 prog w A s F O kf D)(B:Cr F D st){i j:Nat}(hi:i<D.size)(V:j<D.size){Q:Option Bool->Cn->Prop}(h:Q (AA (O.blt (BV kf (Ak st) i) (BV kf (Ak st) j))) st):Es (Ao prog w) A E s (MD i j) Q st:=by lk;obtain⟨p,J,Z,W⟩:=B.at hi;obtain⟨q,U,z,Y⟩:=B.at V;k_in;rw[W,Y]at h;change Es _ _ _ _ (Vg _ i>>=λx=>Vg _ j>>=λy=>lt' x y) Q st;rw[zH,zH,J,U];show BG (BX (BG (BX (QV C B Z z h))))
theorem Vs{O:Vf}{kf:AL->O.α}{xs:Array BB}{i j:Nat}(D:j<=xs.size)(k:Nat):BV kf (cL xs i j ((j-i)/2)) k=if i<=k/\k<j then BV kf xs (i+j-1-k)else BV kf xs k:=by
 have e:=ACJ (i:=i) D k;by_cases h:i<=k/\k<j;.rw[AE0 h]at e⊢;show Gq e
 .rw[AEz h]at e⊢;show Gq e
theorem d4{O:Vf}{kf:AL->O.α}{xs:Array BB}{D d:Nat}(W:D<xs.size)(V:d<=D)(k:Nat):BV kf (bubble xs D d) k=if k=D-d then BV kf xs D else if D-d<k/\k<=D then BV kf xs (k-1)else BV kf xs k:=by
  have e:=ACI W d V k;by_cases J:k=D-d;.rw[AE0 J]at e⊢;show Gq e
  . rw[AEz J]at e⊢;by_cases U:D-d<k/\k<=D;.rw[AE0 U]at e⊢;show Gq e
    .rw[AEz U]at e⊢;show Gq e
section
variable{st:Cn}
structure Ih(lo:Nat)(st st':Cn):Prop where
 zd:CB st'=CB st
 aec:∀k,k<lo->(Ak st')[k]?=(Ak st)[k]?
end
theorem SY(lo:Nat)(st:Cn):Ih lo st st:=⟨rfl,λO O=>rfl⟩
theorem Ih.aa{lo:Nat}(x:Ih lo a b)(y:Ih lo b c):Ih lo a c:=⟨y.zd.trans x.zd,λk h=>(y.aec k h).trans (x.aec k h)⟩
theorem AAo{U:Array BB}{st:Cn}(C:F9 prog w A s T O kf U){lo:Nat}(d:lo+n<=U.size)(y:R<=n)(B:Cr T U st)(hs:Dk kf (Ak st) lo (lo+R))(h:∀D,Cr T U D->Ih lo st D->Dk kf (Ak D) lo (lo+n)->Q AK D):Es (Ao prog w) A E s (binarySort' lo n R) Q st:=by
  rw[binarySort'_eq];show BG (Ib (Hw (I:=λk c D=>c=(AG,())/\Cr T U D/\Ih lo st D/\Dk kf (Ak D) lo (lo+D3 k n)) (Q:=λc D=>c=(AG,())/\Cr T U D/\Ih lo st D/\Dk kf (Ak D) lo (lo+n)) ?ku ?fin ?aep) ?post);case post=> intro c D Z;obtain⟨rfl,L,X,u⟩:_:=Z;show BX (h D L X u)
  case aep=>
    show⟨rfl,B,SY _ _,λi j Y W M=>?_⟩;by_cases z:R=0
    . obtain rfl:i=j:=by lia
      show M8 _
    .show hs i j Y W (by lia)
  case fin=>grind
  case ku=>
    intro k c D v V Z;obtain⟨rfl,L,X,u⟩:_:=Z;rw[show D3 k n=k by show b8 (B8 V)]at u;show BG (Ib (Hw (I:=λx c J=>J=D/\∃l r,c=(AG,l,r)/\l<=r/\r<=k/\r+x<=k+l/\(∀i,i<l->O.kle (BV kf (Ak D) (lo+i)) (BV kf (Ak D) (lo+k)))/\(∀i,r<=i->i<k->O.klt (BV kf (Ak D) (lo+k)) (BV kf (Ak D) (lo+i)))) (Q:=λc J=>J=D/\∃l r,c=(AG,l,r)/\l<=k/\(∀i,i<l->O.kle (BV kf (Ak D) (lo+i)) (BV kf (Ak D) (lo+k)))/\(∀i,l<=i->i<k->O.klt (BV kf (Ak D) (lo+k)) (BV kf (Ak D) (lo+i)))) ?i1 ?i2 ?i3) ?i4);case i3=>show⟨rfl,0,k,rfl,Bc _,Aj _,Aj _,λ_ h=>absurd h (Ia _),λ_ Y W=>absurd W (Nat.not_lt_of_le Y)⟩
    case i2=> intro c J Z;lk;obtain⟨rfl,l,r,rfl,Y,W,M,H,K⟩:=Z;rw[AB4 (Bc _),VS]at M;obtain rfl:l=r:=Ec Y (AB2 M);k_in;show⟨rfl,l,l,rfl,W,H,K⟩
    case i1=>
      intro x c J _ hx Z;obtain⟨rfl,l,r,rfl,Y,W,M,H,K⟩:_:=Z;dsimp only;by_cases g:l>=r
      . rw[AE0 g];obtain rfl:l=r:=Ec Y g;show BX ⟨rfl,l,l,rfl,W,H,K⟩
      . rw[AEz g];have f:l<=(l+r)/2:=by lia
        have P:(l+r)/2<r:=by lia
        have o:=OM (BY P W) lo;show BG (QW C L (BY (OM V _) d) (BY o (Ag (FP (B8 V) _) d)) ?_);generalize(l+r)/2=m at f P o⊢;cases e:O.blt (BV kf (Ak J) (lo+k)) (BV kf (Ak J) (lo+m))with |true=> show BX ⟨rfl,l,m,rfl,f,Ag (B8 P) W,by lia,H,λi S t=>?_⟩;show KeyOrd.klt_of_klt_of_kle e (u _ _ (Pz _ _) (FP S _) (OM t _))|false=>show BX ⟨rfl,m+1,r,rfl,P,W,Vc (Ag M (FP f _)),λi S=>?_,K⟩;show HR (u (lo+i) (lo+m) (Pz _ _) (FP (Dc S) _) o) (show O.kle _ _ from e)
    case i4=>
      intro c J Z;obtain⟨rfl,l,r,rfl,Y,H,K⟩:_:=Z;change Es _ _ _ _ (moveDown' (lo+k) (lo+l)>>=λ_=>Bn (Si (AG,()))) _ _;rw[moveDown'_eq];have F:lo+k<(Ak J).size:=by rw[L.yo];show BY (OM V _) d
      have a:lo+k-(lo+l)<=lo+k:=y7 _ _;have q:lo+k-(lo+k-(lo+l))=lo+l:=cC (FP Y lo);show BG (Jq (BX ⟨rfl,L.ie (bubble_perm _ _ _),X.aa ⟨rfl,λz hz=>?_⟩,?_⟩));.rw[ACI F _ a,q,AEz (by lia),AEz (by lia)]
      . rw[show D3 (k+1) n=k+1 by show b8 V];intro i j S t q3;rw[d4 F a,d4 F a,q];have N:∀z,lo<=z->z<lo+l->O.kle (BV kf (Ak J) z) (BV kf (Ak J) (lo+k)):=λz G p=>by have:=H (z-lo) ((SH G).mpr p);rwa[Hr G]at this
        have b:∀z,lo+l<=z->z<lo+k->O.klt (BV kf (Ak J) (lo+k)) (BV kf (Ak J) z):=λz G p=>by have:=K (z-lo) ((L8 (D9 G)).mpr G) ((SH (D9 G)).mpr p);rwa[show lo+(z-lo)=z by show Hr (D9 G)]at this
        repeat' split
        all_goals first |(exfalso;lia)|show M8 _|show N _ (by lia) (by lia)|show KW (b _ (by lia) (by lia))|show u _ _ (by lia) (by lia) (by lia)
theorem Dk.ip{O:Vf}{kf:AL->O.α}{xs:Array BB}{lo n:Nat}(u:Dk kf xs lo (lo+n))(V:1<=n)(h:O.kle (BV kf xs (lo+n-1)) (BV kf xs (lo+n))):Dk kf xs lo (lo+(n+1)):=λi j D J W=>by
  by_cases z:j=lo+n
  . subst z;by_cases U:i=lo+n;.subst U;show M8 _
    .show HR (u i _ D (AB3 (DU J U)) ((yX (yY _ V)).mp (Aj _))) h
  .show u i j D J (DU (bY W) z)
def Ob{O:Vf}(kf:AL->O.α)(xs:Array BB)(lo hi:Nat):Prop:=∀i j,lo<=i->i<=j->j<hi->O.kle (BV kf xs j) (BV kf xs i)
theorem Ob.ip{O:Vf}{kf:AL->O.α}{xs:Array BB}{lo n:Nat}(u:Ob kf xs lo (lo+n))(V:1<=n)(h:O.kle (BV kf xs (lo+n)) (BV kf xs (lo+n-1))):Ob kf xs lo (lo+(n+1)):=λi j D J W=>by
  by_cases z:j=lo+n
  . subst z;by_cases U:i=lo+n;.subst U;show M8 _
    .show HR h (u i _ D (AB3 (DU J U)) ((yX (yY _ V)).mp (Aj _)))
  .show u i j D J (DU (bY W) z)
theorem Sb{D:Array BB}{st:Cn}(B:Cr W D st){lo:Nat}(hi:lo<=i)(J:j<=D.size):Cr W D (P8 st (cL (Ak st) i j ((j-i)/2)))/\Ih lo st (P8 st (cL (Ak st) i j ((j-i)/2))):=by show⟨B.ie (mirror_perm _ _ _ _),rfl,λk U=>?_⟩;rw[ACJ (by rw[B.yo];show J),AEz (λV=>y3 hi (FR V.1 U))]
theorem Se{U:P4}{O:Vf}{kf:AL->O.α}{D:Array BB}{st:Cn}(B:Cr U D st){i j:Nat}(J:j<=D.size)(h:∀k,i<=k->k<j->BV kf (Ak st) k=BV kf (Ak st) (j-1))(k:Nat):BV kf (cL (Ak st) i j ((j-i)/2)) k=BV kf (Ak st) k:=by rw[Vs (by rw[B.yo];show J)];grind
theorem eA{prog:Co}{w:CC}{A:DV}{E:AL->AZ->Prop}{s:AZ}{M:P4}{O:Vf}{kf:AL->O.α}{J:Array BB}{st:Cn}(C:F9 prog w A s M O kf J){lo D U:Nat}(L:lo+D<=J.size)(z:1<=U)(N:U<=D)(B:Cr M J st)(u:Dk kf (Ak st) lo (lo+U)){Q:Option (Option Nat)×Nat->Cn->Prop}(h:∀n,U<=n->n<=D->Dk kf (Ak st) lo (lo+n)->(n<D->O.klt (BV kf (Ak st) (lo+n)) (BV kf (Ak st) (lo+n-1)))->Q (AG,n) st){f:Nat->Option (Option Nat)×Nat->StateT Cn D4 (ForInStep (Option (Option Nat)×Nat))}(K:∀x c,f x c=(do match(<-MD (lo+c.2) (lo+c.2-1))with|AA b=>if b=AK then Bn (.done (AG,c.2))else Bn (.yield (AG,c.2+1))|AG=>Bn (.done (AA AG,c.2)))):Es (Ao prog w) A E s (IC [U:D] (AG,U) f) Q st:=by
 show Hw (I:=λx c W=>W=st/\c=(AG,x)/\U<=x/\x<=D/\Dk kf (Ak st) lo (lo+x)) ?_ ?_ (by simp_all)
 . intro x c W V Y H;obtain⟨rfl,rfl,F,G,Z⟩:_:=H;rw[K];show BG (QW C B (BY (OM Y _) L) (by lia) ?_);cases e:O.blt _ _ with |true=>show BX (h x F G Z λS=>e)|false=>show BX ⟨rfl,rfl,Jn V,by assumption,Z.ip (Ag z V) e⟩
 simp_all
abbrev Ii:=Option (Option Nat)×Nat
def QX(lo:Nat)(c:Ii):StateT Cn D4 (ForInStep Ii):=MD (lo+c.2) (lo+c.2-1)>>=λo=>match o with|AA b=>if b=AK then Bn (.done (AG,c.2))else Bn (.yield (AG,c.2+1))|_=>Bn (.done (AA AG,c.2))
def NH(lo D n:Nat):StateT Cn D4 (Option Nat):=NA lo (lo+n)>>=λO=>IC [n:D] ((AG,n):Ii) (λO c=>QX lo c)>>=λc=>match c.1 with|AA r=>Bn r|AG=>Bn (AA c.2)
abbrev Vr:=Option (Option Nat)×Nat×Nat
def dX(lo:Nat)(c:Vr):StateT Cn D4 (ForInStep Vr):=MD (lo+c.2.1) (lo+c.2.1-1)>>=λo=>match o with
 |AA b=>if b=AK then(if c.2.2>0 then NA (lo+c.2.1-(c.2.2+1)) (lo+c.2.1)>>=λO=>Bn (.yield (AG,c.2.1+1,0))else Bn (.yield (AG,c.2.1+1,0)))else MD (lo+c.2.1-1) (lo+c.2.1)>>=λJ=>match J with |AA D=>if D=AK then Bn (.done (AG,c.2.1,c.2.2))else Bn (.yield (AG,c.2.1+1,c.2.2+1))|_=>Bn (.done (AA AG,c.2.1,c.2.2))
 |_=>Bn (.done (AA AG,c.2.1,c.2.2))
def Sa(lo D n:Nat):StateT Cn D4 (Option Nat):=liftM (rule "list.sort.descending-run")>>=λO=>IC [n+1:D] ((AG,n+1,0):Vr) (λO c=>dX lo c)>>=λc=>match c.1 with|AA r=>Bn r|AG=>if c.2.2>0 then NA (lo+c.2.1-(c.2.2+1)) (lo+c.2.1)>>=λO=>NH lo D c.2.1 else NH lo D c.2.1
theorem eC{J:Array BB}{st:Cn}(C:F9 prog w A s F O kf J){lo:Nat}(W:lo+D<=J.size)(I:1<=n)(V:n<=D)(B:Cr F J st)(H:Ob kf (Ak st) lo (lo+n))(h:∀m U,Cr F J U->Ih lo st U->1<=m->m<=D->Dk kf (Ak U) lo (lo+m)->Q (AA m) U):Es (Ao prog w) A E s (NH lo D n) Q st:=by
 show BG (Jq ?_);obtain⟨G,K⟩:=Sb B (Aj lo) (by show Ag (FP V _) W);have u:Dk kf _ lo _:=λi j Z Y z=>by rw[Vs (by rw[B.yo];show Ag (FP V _) W),Vs (by rw[B.yo];show Ag (FP V _) W),AE0 (⟨Z,FR Y z⟩),AE0 (⟨Ag Z Y,z⟩)];show H _ _ (by omega) (Nat.sub_le_sub_left Y _) (by omega)
 show BG (eA C W I V G u (λm L M u2 S=>?_) λx c=>AE2 (MD _ _>>=.) (by grind));show BX (by grind)
theorem d8{prog:Co}{w:CC}{A:DV}{E:AL->AZ->Prop}{s:AZ}{S:P4}{O:Vf}{kf:AL->O.α}{J:Array BB}{st:Cn}(C:F9 prog w A s S O kf J){lo U n:Nat}(Z:lo+U<=J.size)(r:1<=n)(v:n<U)(B:Cr S J st)(q:∀k,lo<=k->k<lo+n->BV kf (Ak st) k=BV kf (Ak st) (lo+n-1))(y:O.klt (BV kf (Ak st) (lo+n)) (BV kf (Ak st) (lo+n-1))){Q:Option Nat->Cn->Prop}(h:∀m D,Cr S J D->Ih lo st D->1<=m->m<=U->Dk kf (Ak D) lo (lo+m)->Q (AA m) D):Es (Ao prog w) A E s (Sa lo U n) Q st:=by
 unfold Sa;show BG (P9 (NG ⟨rfl,?_⟩));have f:=Ob.ip (λi j F G P=>by rw[q i F (FR G P),q j (Ag F G) P];show M8 _) r (KW y);show BG (Ib (Hw (I:=λx c D=>∃e,c=(AG,x,e)/\n+1<=x/\x<=U/\e+1<=x/\Cr S J D/\Ih lo st D/\Ob kf (Ak D) lo (lo+x)/\∀k,lo+x-(e+1)<=k->k<lo+x->BV kf (Ak D) k=BV kf (Ak D) (lo+x-1)) (Q:=λc D=>∃x e,c=(AG,x,e)/\n+1<=x/\x<=U/\e+1<=x/\Cr S J D/\Ih lo st D/\Ob kf (Ak D) lo (lo+x)/\∀k,lo+x-(e+1)<=k->k<lo+x->BV kf (Ak D) k=BV kf (Ak D) (lo+x-1)) ?ku ?fin ?aep) ?post);case aep=>show⟨0,rfl,Aj _,v,Jn r,B,SY _ _,f,(by grind)⟩
 case fin=>grind
 case ku=> intro x c D R z l;obtain⟨e,rfl,u,K,W,V,L,M,Y⟩:_:=l;unfold dX;dsimp only;show BG (QW C V (BY (OM z _) Z) (by lia) ?_);cases b:O.blt (BV kf (Ak D) (lo+x)) _ with
  |true=>
   dsimp only;rw[AE0 rfl];have g:∀o:Array BB,(∀k,BV kf o k=BV kf (Ak D) k)->Ob kf o lo (lo+(x+1)):=λo t=>by have:=M.ip (SD W) (KW b);intro i j F G P;rw[t,t];show this i j F G P
   by_cases N:e>0
   . rw[AE0 N,ACP];show BG (Jq (BX ?_));obtain⟨T,a⟩:=Sb V (show lo<=lo+x-(e+1)by show(VX (yW W)).mpr (FP W _)) (show lo+x<=J.size by show Ag (FP (B8 z) _) Z);show⟨0,rfl,Jn R,by assumption,by simp,T,L.aa a,g _ (Se V (Ag (FP (B8 z) _) Z) Y),(by grind)⟩
   . rw[AEz N];show BX (by grind)|false=>dsimp only;show BG (QW C V (by lia) (BY (OM z _) Z) ?_);cases p:O.blt _ (BV kf (Ak D) (lo+x))with |true=>show BX ⟨x,e,rfl,u,K,W,V,L,M,Y⟩|false=> have ek:=O.total _ _ p b;show BX ⟨e+1,rfl,Jn R,by assumption,HQ.mpr W,V,L,M.ip (SD W) p,λk F G=>?_⟩;grind
 case post=>
  intro c D l;obtain⟨x,e,rfl,u,K,W,V,L,M,Y⟩:_:=l;dsimp only;by_cases N:e>0
  . rw[AE0 N,ACP];obtain⟨T,a⟩:=Sb V (show lo<=lo+x-(e+1)by show(VX (yW W)).mpr (FP W _)) (show lo+x<=J.size by show Ag (FP K _) Z);show eC C Z (SG.mp (LH N W)) K T (λi j F G P=>?_) λm H X d=>h m H X ((L.aa a).aa d);rw[Se V (Ag (FP K _) Z) Y,Se V (Ag (FP K _) Z) Y];show M i j F G P
  . rw[AEz N];show eC C Z (SD W) K V M λm H X d=>h m H X (L.aa d)
theorem eJ{A:DV}{E:AL->AZ->Prop}{s:AZ}{M:OR}{α D:Type}{m J:StateT D D4 α}{Q:α->D->Prop}{t:D}(e:J=m)(h:Es M A E s m Q t):Es M A E s J Q t:=by simp_all
theorem AAp{U:Array BB}{st:Cn}(C:F9 prog w A s f O kf U){lo:Nat}(H:lo+D<=U.size)(Z:1<=D)(B:Cr f U st)(h:∀n W,Cr f U W->Ih lo st W->1<=n->n<=D->Dk kf (Ak W) lo (lo+n)->Q (AA n) W):Es (Ao prog w) A E s (countRun' lo D) Q st:=by
  have v:Dk kf (Ak st) lo (lo+1):=λi j F V t=>by obtain rfl:i=j:=Ec V (Ag (Dc t) F);show M8 _
  show BG (eA C H (Aj _) Z B v (λn L I u e=>?_) λx c=>AE2 (MD _ _>>=.) (funext λo=>by cases o<;>rfl));dsimp only;by_cases J:n=D;. subst J;rw[AE0 (AFD n)];show BX (h n st B (SY _ _) L I u)
  . rw[AEz (by simpa using J)];by_cases T:n>1
    . rw[AE0 T];show BG (QW C B (BY (Nat.lt_add_right_iff_pos.mpr Z) H) (by omega) ?_);cases b:O.blt _ _ with |true=>show BX (h n st B (SY _ _) L I u)|false=>
        have K:=λk F V=>by show KeyOrd.kle_antisymm (u k (lo+n-1) F (bZ V) (y9 V)) (HR (show O.kle _ _ from b) (u lo k (Aj _) F V))
        show BG ?_;show Jq ?_;show eJ (m:=Sa lo D n) ?same ?_;case same=>show(by
            show AE2 _ (funext λ_=>congr (AE2 _ (AE2 (IC _ _) (funext λ_=>funext λc=>?_))) (funext λc=>?_));. show AE2 (MD _ _>>=.) (funext λo=>?_);cases o with|none=>rfl|some b=>cases b with|true=>rfl|false=>show AE2 (MD _ _>>=.) (funext λa=>by cases a<;>rfl)
            . obtain⟨N,P⟩:=c;have t3:∀n,NH lo D n=(NA lo (lo+n)>>=λ_=>IC [n:D] ((AG,n):Ii) _>>=λc=>match c.1 with|AA r=>Bn r|AG=>Bn (AA c.2)):=λ_=>rfl;have t4:∀n(X:Nat->Ii->StateT Cn D4 (ForInStep Ii))(Y:Ii->StateT Cn D4 (Option Nat)),(∀x c,X x c=QX lo c)->(∀c,Y c=match c.1 with|AA r=>Bn r|AG=>Bn (AA c.2))->(NA lo (lo+n)>>=λ_=>IC [n:D] ((AG,n):Ii) X>>=Y)=NH lo D n:=λn X Y Z S=>by rw[t3,show X=λ_ c=>QX lo c from funext λx=>funext λc=>Z x c,show Y=_ from funext S]
              cases N with |some r=>rfl|none=>
                by_cases z:P.2>0
                . rw[AE0 z,AE0 z];show AE2 (NA _ _>>=.) (funext λ_=>?_);show t4 _ _ _ (λx c=>AE2 _ (funext λo=>by cases o<;>rfl)) (λc=>by obtain⟨G,R⟩:=c;cases G<;>rfl)
                . rw[AEz z,AEz z];show t4 _ _ _ (λx c=>AE2 _ (funext λo=>by cases o<;>rfl)) (λc=>by obtain⟨G,R⟩:=c;cases G<;>rfl))
        obtain⟨g,p⟩:=Sb B (Aj lo) (by show Ag (FP I _) H);have M:=Se B (i:=lo) (j:=lo+n) (Ag (FP I _) H) K;show d8 C H L (DU I J) g (λk F V=>?_) ?_ λm d l q=>h m d l (p.aa q)
        . rw[M,M];show K k F V
        . rw[M,M];show e (DU I J)
    . rw[AEz T];show eJ (m:=Sa lo D n) ?same ?_;case same=>show(by
            show AE2 _ (funext λ_=>congr (AE2 _ (AE2 (IC _ _) (funext λ_=>funext λc=>?_))) (funext λc=>?_))
            . show AE2 _ (funext λo=>?_);cases o with|none=>rfl|some b=>cases b with|true=>rfl|false=>show AE2 (MD _ _>>=.) (funext λa=>by cases a<;>rfl)
            . obtain⟨N,P⟩:=c;have t3:∀n,NH lo D n=(NA lo (lo+n)>>=λ_=>IC [n:D] ((AG,n):Ii) _>>=λc=>match c.1 with|AA r=>Bn r|AG=>Bn (AA c.2)):=λ_=>rfl;have t4:∀n(X:Nat->Ii->StateT Cn D4 (ForInStep Ii))(Y:Ii->StateT Cn D4 (Option Nat)),(∀x c,X x c=QX lo c)->(∀c,Y c=match c.1 with |AA r=>Bn r|AG=>Bn (AA c.2))->(NA lo (lo+n)>>=λ_=>IC [n:D] ((AG,n):Ii) X>>=Y)=NH lo D n:=λn X Y Z S=>by rw[t3,show X=λ_ c=>QX lo c from funext λx=>funext λc=>Z x c,show Y=_ from funext S]
              cases N with |some r=>rfl|none=>
                by_cases z:P.2>0
                . rw[AE0 z,AE0 z];show AE2 (NA _ _>>=.) (funext λ_=>?_);show t4 _ _ _ (λx c=>AE2 _ (funext λo=>by cases o<;>rfl)) (λc=>by obtain⟨G,R⟩:=c;cases G<;>rfl)
                . rw[AEz z,AEz z];show t4 _ _ _ (λx c=>AE2 _ (funext λo=>by cases o<;>rfl)) (λc=>by obtain⟨G,R⟩:=c;cases G<;>rfl))
      obtain rfl:n=1:=Ec (FQ T) L;show d8 C H L (DU Z J) B (λk F V=>by rw[show k=lo+1-1 by show VU F V]) (e (DU Z J)) h
def AAk:Bool->BB->Array BB->Nat->Nat->Nat->StateT Cn D4 (Option Nat):=sortPriv%PySem.Builtin.gallop
def AAm:Array BB->Array BB->StateT Cn D4 (Array BB):=sortPriv%PySem.Builtin.mergeLo
def AAl:Array BB->Array BB->StateT Cn D4 (Array BB):=sortPriv%PySem.Builtin.mergeHi
theorem Fb{prog:Co}{w:CC}{A:DV}{E:AL->AZ->Prop}{s:AZ}{st:Cn}{D:Array BB}{i:Nat}(hi:i<D.size){Q:BB->Cn->Prop}(h:Q D[i] st):Es (Ao prog w) A E s (Vg D i) Q st:=by rw[zH,AFH _ i hi];show BX h
def Cw{O:Vf}(kf:AL->O.α)(left:Bool)(key:BB)(D:Array BB)(base i:Nat):Bool:=if left=AK then O.blt (BV kf D (base+i)) (kf key.1)else !O.blt (kf key.1) (BV kf D (base+i))
theorem D5{O:Vf}{kf:AL->O.α}{D:Array BB}{i:Nat}(hi:i<D.size):BV kf D i=kf D[i].1:=by unfold BV;simp_all
theorem AAn{D:Array BB}{st:Cn}(C:F9 prog w A s Y O kf D)(B:Cr Y D st){J:Array BB}(U:key∈D.toList)(W:∀p∈J.toList,p∈D.toList)(hi:base+i<J.size)(h:Q (AA (Cw kf left key J base i)) st):Es (Ao prog w) A E s (Vg J (base+i)>>=λx=>if left=AK then lt' x key else lt' key x>>=λo=>Bn (o.map λb=>!b)) Q st:=by show BG (Fb hi ?_);have V:J[base+i]∈D.toList:=W _ (by simp);unfold Cw at h;rw[D5 hi]at h;cases left with|true=>show QV C B V U h|false=>show BG (QV C B U V (BX h))
theorem AAi{O:Vf}{kf:AL->O.α}{left:Bool}{key:BB}{D:Array BB}{base n i j:Nat}(u:Dk kf D base (base+n))(U:i<=j)(V:j<n)(h:Cw kf left key D base j=AK):Cw kf left key D base i=AK:=by have J:=u (base+i) (base+j) (by simp) (by simp_all) (by simp_all);unfold Cw at h⊢;cases left with |true=>show ACC J h|false=>
 have h:O.kle (BV kf D (base+j)) (kf key.1):=by show Bool.not_inj h
 have:O.blt _ _=AR:=HR J h;simp_all
theorem Od{F:Array BB}{st:Cn}(C:F9 prog w A s κ O kf F)(B:Cr κ F st){D:Array BB}(hk:key∈F.toList)(ha:∀p∈D.toList,p∈F.toList)(L:base+n<=D.size)(H:hint<n)(u:Dk kf D base (base+n))(h:∀k,k<=n->(∀i,i<k->Cw kf left key D base i=AK)->(∀i,k<=i->i<n->Cw kf left key D base i=AR)->Q (AA k) st):Es (Ao prog w) A E s (AAk left key D base n hint) Q st:=by
  have T:∀{i:Nat}{Q:Option Bool->Cn->Prop},i<n->Q (AA (Cw kf left key D base i)) st->Es (Ao prog w) A E s _ Q st:=λK q=>AAn C B hk ha (BY (OM K _) L) q;have M:∀i j,i<=j->j<n->Cw kf left key D base j=AK->Cw kf left key D base i=AK:=λi j V U Z=>AAi u V U Z;show BG (T H ?_);have fin:∀P K,P<=K->K<=n->(∀i,i<P->Cw kf left key D base i=AK)->(∀i,K<=i->i<n->Cw kf left key D base i=AR)->∀{f:Nat->Option (Option Nat)×Nat×Nat->StateT Cn D4 (ForInStep (Option (Option Nat)×Nat×Nat))}{g:Option (Option Nat)×Nat×Nat->StateT Cn D4 (Option Nat)},(∀x c,f x c=if c.2.1>=c.2.2 then Bn (.done (AG,c.2.1,c.2.2))else(Vg D (base+(c.2.1+(c.2.2-c.2.1)/2))>>=λx=>if left=AK then lt' x key else lt' key x>>=λo=>Bn (o.map λb=>!b))>>=λo=>match o with|AA b=>if b=AK then Bn (.yield (AG,c.2.1+(c.2.2-c.2.1)/2+1,c.2.2))else Bn (.yield (AG,c.2.1,c.2.1+(c.2.2-c.2.1)/2))|AG=>Bn (.done (AA AG,c.2.1,c.2.2)))->(∀c,g (AG,c)=Bn (AA c.2))->Es (Ao prog w) A E s (IC [:n] ((AG,P,K):Option (Option Nat)×Nat×Nat) f>>=g) Q st:=by
    intro P K d X h3 h4 f g hf hg;show BG (Ib (Hw (I:=λx c J=>J=st/\∃l r,c=(AG,l,r)/\l<=r/\r<=n/\r+x<=n+l/\(∀i,i<l->Cw kf left key D base i=AK)/\(∀i,r<=i->i<n->Cw kf left key D base i=AR)) (Q:=λc J=>J=st/\∃l,c=(AG,l,l)/\l<=n/\(∀i,i<l->Cw kf left key D base i=AK)/\(∀i,l<=i->i<n->Cw kf left key D base i=AR)) ?_ ?_ ⟨rfl,P,K,rfl,d,X,Ag X (Pz _ _),h3,h4⟩) ?_)
    . rintro x c J _ t⟨rfl,l,r,rfl,V,U,Z,W,Y⟩;rw[hf];dsimp only;by_cases g:l>=r;. rw[AE0 g];obtain rfl:l=r:=Ec V g;show BX ⟨rfl,l,rfl,U,W,Y⟩
      . rw[AEz g];have v:l<=l+(r-l)/2:=Pz _ _;have R:l+(r-l)/2<r:=by(clear Z U V t X d H L;lia)
        show BG (T (BY R U) ?_);generalize l+(r-l)/2=m at v R⊢;cases e:Cw kf left key D base m with |true=>show BX ⟨rfl,_,r,rfl,R,U,Vc (Ag Z (FP v _)),λi z=>M i _ (Dc z) (BY R U) e,Y⟩|false=>show BX ⟨rfl,l,_,rfl,v,Ag (B8 R) U,by(clear U V X d H L;lia),W,λi y S=>by cases z:Cw kf left key D base i with|false=>rfl|true=>rw[M _ i y S z]at e;cases e⟩
    . rintro c J⟨rfl,l,r,rfl,V,U,Z,W,Y⟩;rw[AB4 (Bc _),VS]at Z;obtain rfl:l=r:=Ec V (AB2 Z);show⟨rfl,l,rfl,U,W,Y⟩
    . rintro c J⟨rfl,l,rfl,U,W,Y⟩;rw[hg];show BX (h l U W Y)
  cases e:Cw kf left key D base hint with |true=>
    show BG (Ib (Hw (I:=λx c J=>J=st/\∃l o,c=(AG,l,o)/\l<o/\hint+l<n/\x+1<=o/\Cw kf left key D base (hint+l)=AK) (Q:=λc J=>J=st/\∃l o,c=(AG,l,o)/\l<o/\hint+l<n/\Cw kf left key D base (hint+l)=AK/\(o>=n-hint\/(hint+o<n/\Cw kf left key D base (hint+o)=AR))) ?_ ?_ ⟨rfl,0,1,rfl,by simp,by omega,(by decide),e⟩) ?_)
    . intro x c J _ t G;obtain⟨rfl,l,o,rfl,V,U,Z,W⟩:_:=G;dsimp only;by_cases g:o>=n-hint
      . rw[AE0 g];show BX ⟨rfl,l,o,rfl,V,U,W,.inl g⟩
      . rw[AEz g];show BG (T (LG (MA g)) ?_);cases N:Cw kf left key D base (hint+o)with|true=>show BX ⟨rfl,o,_,rfl,L9.mpr (AB1 _ (by decide)),LG (MA g),by lia,N⟩|false=>show BX ⟨rfl,l,o,rfl,V,U,W,.inr ⟨LG (MA g),N⟩⟩
    . intro c J G;obtain⟨rfl,l,o,rfl,V,U,Z,W⟩:_:=G;show⟨rfl,l,o,rfl,V,U,W,.inl (B8 (SI Z))⟩
    . intro c J G;obtain⟨rfl,l,o,rfl,V,U,W,Y⟩:_:=G;show fin (hint+l+1) (hint+D3 o (n-hint)) (by omega) ((L8 (B8 H)).mp (P1 _ _)) (λi z=>M i _ (Dc z) U W) (λi y S=>?_) (λx c=>?_) (λc=>rfl)
      . rcases Y with Y|⟨Y,a⟩;.lia
        .cases z:Cw kf left key D base i with|false=>rfl|true=>rw[M (hint+o) i (by(clear Y U V L;lia)) S z]at a;cases a
      . dsimp only;split;.rfl
        .show AE2 (_>>=.) (funext λo=>by cases o<;>rfl)|false=>
    show BG (Ib (Hw (I:=λx c J=>J=st/\∃l o,c=(AG,l,o)/\l<o/\l<=hint/\x+1<=o/\Cw kf left key D base (hint-l)=AR) (Q:=λc J=>J=st/\∃l o,c=(AG,l,o)/\l<o/\l<=hint/\Cw kf left key D base (hint-l)=AR/\(o>=hint+1\/(o<=hint/\Cw kf left key D base (hint-o)=AK))) ?_ ?_ ⟨rfl,0,1,rfl,by simp,by simp,(by decide),e⟩) ?_)
    . intro x c J _ t G;obtain⟨rfl,l,o,rfl,V,U,Z,W⟩:_:=G;dsimp only;by_cases g:o>=hint+1;. rw[AE0 g];show BX ⟨rfl,l,o,rfl,V,U,W,.inl g⟩
      . rw[AEz g];show BG (T (SI H) ?_);cases N:Cw kf left key D base (hint-o)with |false=>show BX ⟨rfl,o,_,rfl,L9.mpr (AB1 _ (by decide)),Dc (MA g),by lia,N⟩|true=>show BX ⟨rfl,l,o,rfl,V,U,W,.inr ⟨Dc (MA g),N⟩⟩
    . intro c J G;obtain⟨rfl,l,o,rfl,V,U,Z,W⟩:_:=G;show⟨rfl,l,o,rfl,V,U,W,.inl (Nat.le_of_pred_lt (LH H Z))⟩
    . intro c J G;obtain⟨rfl,l,o,rfl,V,U,W,Y⟩:_:=G;show fin (hint+1-D3 o (hint+1)) (hint-l) (by(clear Y H L;omega)) (B8 (SI H)) (λi z=>?_) (λi y S=>?_) (λx c=>?_) (λc=>rfl)
      . rcases Y with Y|⟨Y,a⟩;. (clear U V H L;simp_all)
        .show M i _ (by(clear U V H L;grind)) (SI H) a
      .cases z:Cw kf left key D base i with|false=>rfl|true=>rw[M (hint-l) i (by omega) S z]at W;cases W
      . dsimp only;split;.rfl
        .show AE2 (_>>=.) (funext λo=>by cases o<;>rfl)
structure EK(R:BB->BB->Prop)(la lb lo:List BB)(i j:Nat):Prop where
 ow:lo.Perm (la.take i++lb.take j)aez:lo.Pairwise R
 a:∀x∈lo,∀y∈la.drop i,R x y
 b:∀x∈lo,∀y∈lb.drop j,R x y
theorem EK.xn{lo:List BB}(h:EK R D U lo i j):EK R U D lo j i:=⟨h.ow.trans Pw,h.aez,h.b,h.a⟩
theorem EK.yl{U Y lo:List BB}(h:EK R U Y lo i j)(B:U.Pairwise R)(W:∀x∈(U.drop i).take k,∀y∈Y.drop j,R x y):EK R U Y (lo++(U.drop i).take k) (i+k) j:=by
  have C:((U.drop i).take k++(U.drop i).drop k).Pairwise R:=by rw[Px];show B.sublist (ABY _ _)
  obtain⟨z,_,A⟩:_:=M4.mp C;have Z:U.drop (i+k)=(U.drop i).drop k:=by rw[yI]
  show⟨?_,M4.mpr ⟨h.aez,z,λx W y D=>h.a x W y (bR D)⟩,λx V y D=>?_,λx V y D=>?_⟩
  . rw[ABu,FN];show(h.ow.append_right _).trans ?_;rw[FN];show bH _ Pw
  . rw[Z]at D;rcases Ce.mp V with q|q;.show h.a x q y (bQ D)
    .show A x q y D
  . rcases Ce.mp V with q|q;.show h.b x q y D
    .show W x q y D
theorem EK.zr{U D lo:List BB}(h:EK R U D lo i j)(W:D.Pairwise R)(V:∀x∈(D.drop j).take k,∀y∈U.drop i,R x y):EK R U D (lo++(D.drop j).take k) i (j+k):=(h.xn.yl W V).xn
def GA(R:BB->BB->Prop)(D J l:List BB):Prop:=l.Perm (D++J)/\l.Pairwise R
theorem EK.abh{D U lo:List BB}(h:EK R D U lo i j)(A:D.Pairwise R)(B:U.Pairwise R)(Y:∀x∈D.drop i,∀y∈U.drop j,R x y):GA R D U (lo++D.drop i++U.drop j):=by
  show⟨?_,M4.mpr ⟨M4.mpr ⟨h.aez,(by grind),h.a⟩,(by grind),λx V y W=>?_⟩⟩
  . show((h.ow.append_right _).append_right _).trans ?_;have Z:D=D.take i++D.drop i:=(by simp_all);have z:U=U.take j++U.drop j:=(by simp);grind
  . rcases Ce.mp V with q|q;.show h.b x q y W
    show Y _ q _ W
theorem GA.xn(h:GA R J D l):GA R D J l:=⟨h.1.trans Pw,h.2⟩
theorem eI{out a:Array BB}:(out++a.extract i (i+k)).toList=out.toList++(a.toList.drop i).take k:=by simp_all
theorem Sf{a:Array BB}:(a.extract i).toList=a.toList.drop i:=by simp;show EH (by simp)
theorem QU{a:Array BB}(hi:i<a.size):(a.toList.drop i).take 1=[a[i]]:=by rw[bK (by assumption)];simp
theorem eG{out a:Array BB}(hi:i<a.size):(out.push a[i]).toList=out.toList++(a.toList.drop i).take 1:=by rw[QU hi];simp
def Bo{O:Vf}(kf:AL->O.α):BB->BB->Prop:=λp q=>O.kle (kf p.1) (kf q.1)
theorem LR{O:Vf}{kf:AL->O.α}{a:Array BB}(h:a.toList.Pairwise (Bo kf)){lo hi:Nat}(D:hi<=a.size):Dk kf a lo hi:=λi j V J U=>by
 by_cases z:i=j;.rw[z];show M8 _
 . rw[D5 _,D5 _];have:=Gn.mp h i j (BY (FR J U) D) (BY U D) (DU J z);assumption
theorem Oc{a:Array BB}(h:p∈a.toList.drop i):∃k,∃(D:i+k<a.size),p=a[i+k]:=by obtain⟨k,D,e⟩:_:=Gk.mp h;grind
theorem QS{a:Array BB}(h:p∈(a.toList.drop i).take k):∃m,m<k/\∃(D:i+m<a.size),p=a[i+m]:=by obtain⟨m,J,e⟩:_:=Gk.mp h;grind
section
variable{κ:P4}{a₀:Array BB}{st:Cn}
structure IB(κ:P4)(a₀:Array BB)(st st':Cn):Prop where
 sb:Cr κ a₀ st'
 afd:Ak st'=Ak st
 zd:CB st'=CB st
end
theorem IB.aeb{st:Cn}(x:IB U J st D)(g:Nat):IB U J st (cF (cK D) (Ak D) (CB D) g (M9 D)):=⟨⟨x.sb.ow,x.sb.ju,x.sb.oj⟩,x.afd,x.zd⟩
theorem C7[Decidable c]{st:Cn}(h:c)(k:Es M A E s x Q st):Es M A E s (if c then x else y) Q st:=by simp_all
theorem DW[Decidable c]{st:Cn}(h:¬c)(k:Es M A E s y Q st):Es M A E s (if c then x else y) Q st:=by simp_all
theorem AAt{K:Array BB}{st:Cn}(C:F9 prog w A s κ O kf K)(B:Cr κ K st){a b:Array BB}(ha:∀p∈a.toList,p∈K.toList)(hb:∀p∈b.toList,p∈K.toList)(a1:1<=a.size)(b1:1<=b.size)(pa:a.toList.Pairwise (Bo kf))(pb:b.toList.Pairwise (Bo kf))(M:∀p∈a.toList,Bo kf b[0] p)(X:∀p∈b.toList,Bo kf p a[a.size-1])(h:∀m H,IB κ K st H->GA (Bo kf) a.toList b.toList m.toList->Q m H):Es (Ao prog w) A E s (AAm a b) Q st:=by
  have T:∀{D:Array BB}{V Y:Nat},EK (Bo kf) a.toList b.toList D.toList V Y->(Y=b.size\/V=a.size)->GA (Bo kf) a.toList b.toList (D++a.extract V++b.extract Y).toList:=λ{D V Y}j e=>by
    rw[Vu,Vu,Sf,Sf];show j.abh pa pb λx P y R=>?_;rcases e with rfl|rfl;.rw[ABX (by simp)]at R;cases R
    .rw[ABX (by simp)]at P;cases P
  have t:∀{D:Array BB}{V Y:Nat},EK (Bo kf) a.toList b.toList D.toList V Y->V+1=a.size->GA (Bo kf) a.toList b.toList (D++b.extract Y++a.extract V).toList:=λ{D V Y}j e=>by rw[Vu,Vu,Sf,Sf];show(j.xn.abh pb pa λx P y R=>?_).xn;obtain⟨k,d,rfl⟩:=Oc R;have:k=0:=VU (Bc _) (Nat.lt_of_add_lt_add_left (BY d (Bi e.symm)));subst this;have:=X x (bQ P);simpa[show a.size-1=V by show(y6 a1).mpr e.symm]using this
  have am:∀{i:Nat}(hi:i<a.size),a[i]∈K.toList:=λhi=>ha _ (by simp);have bm:∀{i:Nat}(hi:i<b.size),b[i]∈K.toList:=λhi=>hb _ (by simp);have la:∀{i k:Nat}(d:i+k<a.size),Bo kf (a[i]'(VY d)) a[i+k]:=λ{i k}d=>by have:=LR pa (lo:=0) (Aj _) i (i+k) (by simp) (by simp) d;rw[D5 (VY d:i<a.size),D5 d]at this;show this
  have lb:∀{i k:Nat}(d:i+k<b.size),Bo kf (b[i]'(VY d)) b[i+k]:=λ{i k}d=>by have:=LR pb (lo:=0) (Aj _) i (i+k) (by simp) (by simp) d;rw[D5 (VY d:i<b.size),D5 d]at this;show this
  have oneB:∀{D:Array BB}{V Y:Nat}(h1:V<a.size)(h2:Y<b.size),EK (Bo kf) a.toList b.toList D.toList V Y->Bo kf b[Y] a[V]->EK (Bo kf) a.toList b.toList (D.push b[Y]).toList V (Y+1):=λ{D V Y}h1 h2 j r=>by rw[eG h2];show j.zr pb λx P y R=>?_;rw[QU h2,Bm]at P;obtain⟨k,d,rfl⟩:=Oc R;rw[P];show HR r (la d)
  have oneA:∀{D:Array BB}{V Y:Nat}(h1:V<a.size)(h2:Y<b.size),EK (Bo kf) a.toList b.toList D.toList V Y->Bo kf a[V] b[Y]->EK (Bo kf) a.toList b.toList (D.push a[V]).toList (V+1) Y:=λ{D V Y}h1 h2 j r=>by rw[eG h1];show j.yl pa λx P y R=>?_;rw[QU h1,Bm]at P;obtain⟨k,d,rfl⟩:=Oc R;rw[P];show HR r (lb d)
  show BG (P9 (NG ⟨rfl,?_⟩));show BG (Fb (by assumption:0<b.size) ?_);have j0:EK (Bo kf) a.toList b.toList (#[b[0]]:Array BB).toList 0 1:=by
    show⟨?_,by simp,λx P y R=>?_,λx P y R=>?_⟩
    . rw[<-QU (by assumption:0<b.size)];simp
    .simp at P R;subst P;show M y (by simpa using R)
    . simp only[Bm]at P;obtain⟨k,d,rfl⟩:=Oc R;rw[P];have:=lb (i:=0) (k:=1+k) (LG d);simpa using this
  by_cases e1:1=b.size
  . show C7 (by simpa using e1) ?_;show BX (h _ st ⟨B,rfl,rfl⟩ (T j0 (.inl e1)))
  show DW (by simpa using e1) ?_;by_cases e2:0+1=a.size;. show C7 (by simpa using e2) ?_;show BX (h _ st ⟨B,rfl,rfl⟩ (t j0 e2))
  show DW (by simpa using e2) ?_;show BG (ME ?_);show BG (Ib (Hw (I:=λx c H=>IB κ K st H/\∃D V Y g,c=(AG,D,V,Y,g)/\EK (Bo kf) a.toList b.toList D.toList V Y/\V+1<a.size/\Y<b.size/\x+1<=V+Y) (Q:=λc H=>IB κ K st H/\∃r,c.1=AA r/\GA (Bo kf) a.toList b.toList r.toList) ?ku ?fin ?aep) ?post);case aep=>show⟨⟨B,rfl,rfl⟩,_,0,1,_,rfl,j0,DU a1 e2,DU b1 e1,(by decide)⟩
  case fin=> intro c H hI;obtain⟨S,D,V,Y,g,rfl,j,h1,h2,h3⟩:_:=hI;lia
  case post=> intro c H hI;lk;obtain⟨S,r,e,f⟩:=hI;obtain⟨c1,c2⟩:=c;obtain rfl:c1=AA r:=e;k_in;show BX (h r H S f)
  case ku=>
    intro x c st1 _ P hI;obtain⟨S,D,V,Y,g,rfl,j,h1,h2,h3⟩:_:=hI;show BG (Ib (Hw (I:=λy c H=>H=st1/\∃L W F p q,c=(AG,L,W,F,p,q)/\EK (Bo kf) a.toList b.toList L.toList W F/\W+1<a.size/\F<b.size/\V+Y+y<=W+F) (Q:=λc H=>H=st1/\((∃r,c.1=AA r/\GA (Bo kf) a.toList b.toList r.toList)\/∃L W F p q,c=(AG,L,W,F,p,q)/\EK (Bo kf) a.toList b.toList L.toList W F/\W+1<a.size/\F<b.size/\V+Y+1<=W+F)) ?s1 ?s2 ?s3) ?s4);case s3=>show⟨rfl,D,V,Y,0,0,rfl,j,h1,h2,Aj _⟩
    case s2=> intro c H hI;obtain⟨rfl,L,W,F,p,q,rfl,j',o,g2,g3⟩:_:=hI;show⟨rfl,.inr ⟨L,W,F,p,q,rfl,j',o,g2,by lia⟩⟩
    case s1=> intro y c H _ R hI;obtain⟨rfl,L,W,F,p,q,rfl,j',o,g2,g3⟩:_:=hI;show BG (Fb g2 (BG (Fb (Hu o:W<a.size) (BG (QV C S.sb (bm g2) (am (Hu o)) ?_)))));cases e:O.blt (kf b[F].1) (kf (a[W]'(Hu o)).1)with
      |true=>
        show C7 rfl ?_;show BG (Fb g2 ?_);have j2:=oneB (Hu o) g2 j' (KW e);by_cases z:F+1=b.size;. show C7 (by simpa using z) ?_;show BX ⟨rfl,.inl ⟨_,rfl,T j2 (.inl z)⟩⟩
        . show DW (by simpa using z) ?_;split;.show BX ⟨rfl,.inr ⟨_,_,_,_,_,rfl,j2,o,by dsimp only;show DU g2 z,by dsimp only;show HQ.mpr (D9 g3)⟩⟩
          .show BX ⟨rfl,_,_,_,_,_,rfl,j2,o,by dsimp only;show DU g2 z,by dsimp only;show HQ.mpr g3⟩|false=>
        show DW Dx ?_;show BG (Fb (Hu o:W<a.size) ?_);have j2:=oneA (Hu o) g2 j' e;by_cases z:W+1+1=a.size;. show C7 (by simpa using z) ?_;show BX ⟨rfl,.inl ⟨_,rfl,t j2 z⟩⟩
        . show DW (by simpa using z) ?_;split;.show BX ⟨rfl,.inr ⟨_,_,_,_,_,rfl,j2,by dsimp only;show DU o z,g2,by dsimp only;lia⟩⟩
          .show BX ⟨rfl,_,_,_,_,_,rfl,j2,by dsimp only;show DU o z,g2,by dsimp only;lia⟩
    case s4=>
      rintro c H⟨rfl,⟨r,e,f⟩|⟨L,W,F,p,q,rfl,j',o,g2,g3⟩⟩;. obtain⟨c1,c2⟩:=c;obtain rfl:c1=AA r:=e;show BX ⟨S,r,rfl,f⟩
      show BG (P9 (NG ⟨rfl,?_⟩));show BG (Ib (Hw (I:=λy c st2=>IB κ K st st2/\∃o2 i2 U m2 p q,c=(AG,o2,i2,U,m2,p,q)/\EK (Bo kf) a.toList b.toList o2.toList i2 U/\i2+1<a.size/\U<b.size/\V+Y+1<=i2+U) (Q:=λc st2=>IB κ K st st2/\((∃r,c.1=AA r/\GA (Bo kf) a.toList b.toList r.toList)\/∃o2 i2 U m2 p q,c=(AG,o2,i2,U,m2,p,q)/\EK (Bo kf) a.toList b.toList o2.toList i2 U/\i2+1<a.size/\U<b.size/\V+Y+1<=i2+U)) ?t1 ?t2 ?t3) ?t4);case t3=>show⟨S,L,W,F,_,p,q,rfl,j',o,g2,g3⟩
      case t2=>rintro c st2⟨S2,r⟩;show⟨S2,.inr r⟩
      case t4=>
        rintro c st2⟨S2,⟨r,e,f⟩|⟨o2,i2,U,m2,p,q,rfl,j2,f1,f2,f3⟩⟩
        . obtain⟨c1,c2⟩:=c;obtain rfl:c1=AA r:=e;show BX ⟨S2,r,rfl,f⟩
        .show BG (Jq (BX ⟨S2.aeb _,o2,i2,U,_,rfl,j2,f1,f2,SG.mp (FR h3 f3)⟩))
      case t1=>
        intro y c st2 _ R hI;obtain⟨S2,o2,i2,U,m2,p,q,rfl,j2,f1,f2,f3⟩:_:=hI;show(λ(N:∀m3:Nat,(?G:Nat->Prop) m3)=>?u) ?v;case u=>
          by_cases z:m2>1
          . show C7 z ?_;generalize m2-1=m3;show N m3
          . show DW z ?_;generalize m2=m3;show N m3
        case v=>
          intro m3;show BG (Jq ?_);have S3:=S2.aeb m3;show BG (Fb f2 ?_);show(λ(N:∀(k i3:Nat)(o3:Array BB),EK (Bo kf) a.toList b.toList o3.toList i3 U->(∀m(l:m<a.size),i3<=m->Bo kf b[U] a[m])->i3+1<a.size->V+Y+1<=i3+U->(?G2:Nat->Nat->Array BB->Prop) k i3 o3)=>?u2) ?v2;case u2=>
            show BG (Od C S3.sb (bm f2) ha (by dsimp only;show(L8 (D9 (B8 f1))).mp (Aj _)) (by dsimp only;show VZ.mpr (Hu f1)) (LR pa (by dsimp only;show(L8 (D9 (B8 f1))).mp (Aj _))) λk d bl bg=>?_);dsimp only at d;have runA:∀m,m<k->∀(l:i2+m<a.size),Bo kf a[i2+m] b[U]:=λm z l=>by have:=bl m z;unfold Cw at this;rw[AEz Dx,D5 l]at this;change O.blt _ _=AR;simpa using this
            have runB:∀m,k<=m->∀(l:i2+m<a.size),Bo kf b[U] a[i2+m]:=λm z l=>by have:=bg m z (by(clear z runA bg bl d N f3 f2 R g3 g2 o h3 h2 h1 P e2 e1 j0 X M b1 a1;dsimp only;show VZ.mpr l));unfold Cw at this;rw[AEz Dx,D5 l]at this;show KW (by change O.blt _ _=AK;simpa using this)
            have j3:EK (Bo kf) a.toList b.toList (o2++a.extract i2 (i2+k)).toList (i2+k) U:=by rw[eI];show j2.yl pa λx P y R=>?_;obtain⟨m,l,hm2,rfl⟩:=QS P;obtain⟨m',hm',rfl⟩:=Oc R;show HR (runA m l hm2) (lb hm')
            have pre:(k>0/\i2+k+1=a.size)\/(k>0/\i2+k=a.size)\/i2+k+1<a.size:=by(clear runB runA bg bl N f3 f2 R g3 g2 o h3 h2 h1 P e2 e1 j0 X M b1 a1;lia)
            rcases pre with⟨zk,n⟩|⟨zk,n⟩|n;. show C7 zk (C7 (by simpa using n) ?_);show BX ⟨S3,.inl ⟨_,rfl,t j3 n⟩⟩
            . show C7 zk (DW (by simp;show M5 (L9.mpr (Bi n.symm))) (C7 (by simpa using n) ?_));show BX ⟨S3,.inl ⟨_,rfl,T j3 (.inr n)⟩⟩
            have hB3:∀m(l:m<a.size),i2+k<=m->Bo kf b[U] a[m]:=λm l z=>by have:=runB (m-i2) ((L8 (D9 z)).mpr z) (lt_of_eq_of_lt (Hr (D9 z)) l);simpa[show i2+(m-i2)=m from Hr (D9 z)]using this
            by_cases zk:k>0
            . show C7 zk (DW (by simp;show ET n) (DW (by simp;show ET (Hu n)) ?_));generalize o2++a.extract i2 (i2+k)=o3 at j3⊢;have f3':V+Y+1<=(i2+k)+U:=by lia
              generalize i2+k=i3 at j3 hB3 n f3'⊢;show N k i3 o3 j3 hB3 n f3'
            . show DW zk ?_;have zk0:k=0:=AB0 (FQ zk);have eo:o2++a.extract i2 (i2+k)=o2:=by rw[zk0];simp;show Jo _ _
              rw[eo,zk0,VT]at j3;rw[zk0,VT]at hB3 n;show N k i2 o2 j3 hB3 n f3
          case v2=>
            intro k i3 o3 j3 hB3 n f3';have hi3:i3<a.size:=Hu n;show BG (Fb f2 ?_);have j4:=oneB (by omega) f2 j3 (hB3 i3 (by omega) (Aj _));by_cases z3:U+1=b.size
            . show C7 (by simpa using z3) ?_;show BX ⟨S3,.inl ⟨_,rfl,T j4 (.inl z3)⟩⟩
            show DW (by simpa using z3) ?_;show BG (Fb (by omega:i3<a.size) ?_);show(λ(N:∀(k' k5:Nat)(o5:Array BB),EK (Bo kf) a.toList b.toList o5.toList i3 k5->(∀m(l:m<b.size),k5<=m->Bo kf (a[i3]'hi3) b[m])->k5<b.size->V+Y+1<=i3+k5->(?G3:Nat->Nat->Array BB->Prop) k' k5 o5)=>?u3) ?v3;case u3=>
              show BG (Od C S3.sb (am (by omega)) hb (by dsimp only;show Bi (Hr f2)) (by(clear N hi3 f3' n f3 f1 R g3 g2 o h3 h2 h1 P e2 e1 j0 X M b1 a1;dsimp only;show VZ.mpr (DU f2 z3))) (LR pb (by dsimp only;show Bi (Hr f2))) λk' hk' bl' bg'=>?_);dsimp only at hk';have runB':∀m,m<k'->∀(l:U+1+m<b.size),Bo kf b[U+1+m] (a[i3]'(by omega)):=λm z l=>by have:=bl' m z;unfold Cw at this;rw[AE0 rfl,D5 l]at this;show KW this
              have Z:∀m(l:m<b.size),U+1+k'<=m->Bo kf (a[i3]'(by omega)) b[m]:=λm l z=>by have:=bg' (m-(U+1)) ((L8 (D9 z)).mpr z) (by(clear runB' bg' bl' hk' N z3 hi3 f3' n f3 f1 R g3 g2 o h3 h2 h1 P e2 e1 j0 X M b1 a1;dsimp only;show Nat.sub_lt_sub_right (D9 z) l));unfold Cw at this;rw[AE0 rfl]at this;have e:U+1+(m-(U+1))=m:=Hr (D9 z);rw[e,D5 l]at this;show this
              have j5:EK (Bo kf) a.toList b.toList (o3.push b[U]++b.extract (U+1) (U+1+k')).toList i3 (U+1+k'):=by rw[eI];show j4.zr pb λx P y R=>?_;obtain⟨m,l,hm2,rfl⟩:=QS P;obtain⟨m',hm',rfl⟩:=Oc R;show HR (runB' m l hm2) (la hm')
              have pre:(k'>0/\U+1+k'=b.size)\/U+1+k'<b.size:=by(clear Z runB' bg' bl' N hi3 f3' n f3 f1 R g3 g2 o h3 h2 h1 P e2 e1 j0 X M b1 a1;lia)
              rcases pre with⟨zk',z4⟩|z4;. show C7 zk' (C7 (by simpa using z4) ?_);show BX ⟨S3,.inl ⟨_,rfl,T j5 (.inl z4)⟩⟩
              have f4':V+Y+1<=i3+(U+1+k'):=by lia
              by_cases zk':k'>0
              . show C7 zk' (DW (by simp;show ET z4) ?_);generalize o3.push b[U]++b.extract (U+1) (U+1+k')=o5 at j5⊢;generalize U+1+k'=k5 at j5 Z z4 f4'⊢;show N k' k5 o5 j5 Z z4 f4'
              . show DW zk' ?_;have zk0:k'=0:=by(show AB0 (FQ zk'))
                have eo:o3.push b[U]++b.extract (U+1) (U+1+k')=o3.push b[U]:=by rw[zk0];simp;(clear zk0 zk' f4' z4 Z runB' bg' bl' hk' N z3 hi3 f3' n f3 f1 R g3 g2 o h3 h2 h1 P e2 e1 j0 X M b1 a1;show Jo _ _)
                rw[eo,zk0,VT]at j5;rw[zk0,VT]at Z z4 f4';show N k' _ _ j5 Z z4 f4'
            case v3=>
              intro k' k5 o5 j5 Z z4 f4';show BG (Fb (by omega:i3<a.size) ?_);have j6:=oneA (by omega) z4 j5 (Z k5 z4 (Aj _));by_cases z5:i3+1+1=a.size;. show C7 (by simpa using z5) ?_;show BX ⟨S3,.inl ⟨_,rfl,t j6 z5⟩⟩
              show DW (by simpa using z5) ?_;by_cases z6:(Ae (k<7)&&Ae (k'<7))=AK
              . show C7 z6 ?_;show BX ⟨S3,.inr ⟨_,_,_,_,_,_,rfl,j6,DU n z5,z4,by lia⟩⟩
              . show DW z6 ?_;show BX ⟨S3,_,_,_,_,_,_,rfl,j6,DU n z5,z4,by lia⟩
theorem QR(a:Array BB)(h:n<=a.size):a.toList.reverse.drop (a.size-n)=(a.toList.take n).reverse:=by rw[List.drop_reverse];grind
theorem Ka{a:Array BB}(h:n<=a.size)(J:x∈a.toList.reverse.drop (a.size-n)):∃m,∃(D:m<a.size),m<n/\x=a[m]:=by obtain⟨m,D,e⟩:_:=Gk.mp J;grind
theorem QY(a:Array BB)(h:n<=a.size)(D:t<=n):(a.toList.reverse.drop (a.size-n)).take (n-t)=(a.extract t n).toList.reverse:=by rw[QR a h,List.take_reverse];simp;rw[List.drop_take];grind
theorem QT(a:Array BB)(h:n<=a.size)(D:1<=n):(a.toList.reverse.drop (a.size-n)).take 1=[a[n-1]]:=by have e:=QY a h (show n-1<=n by simp);rw[show n-(n-1)=1 by show cC D]at e;rw[e];have:=QU (MB D h);simp;grind
theorem dY{D J l:List BB}(h:GA (λp q=>R q p) D.reverse J.reverse l.reverse):GA R D J l:=by show⟨(List.reverse_perm l).symm.trans (h.1.trans (by grind)),?_⟩;show yT.mp h.2
abbrev G6{O:Vf}(kf:AL->O.α)(a b out:Array BB)(D U:Nat):Prop:=EK (λp q=>Bo kf q p) a.toList.reverse b.toList.reverse out.toList (a.size-D) (b.size-U)
theorem AAs{N:Array BB}{st:Cn}(C:F9 prog w A s κ O kf N)(B:Cr κ N st){a b:Array BB}(ha:∀p∈a.toList,p∈N.toList)(hb:∀p∈b.toList,p∈N.toList)(a1:1<=a.size)(b1:1<=b.size)(pa:a.toList.Pairwise (Bo kf))(pb:b.toList.Pairwise (Bo kf))(o:∀p∈a.toList,Bo kf b[0] p)(last:∀p∈b.toList,Bo kf p a[a.size-1])(h:∀m M,IB κ N st M->GA (Bo kf) a.toList b.toList m.toList->Q m M):Es (Ao prog w) A E s (AAl a b) Q st:=by
  have pa':a.toList.reverse.Pairwise (λp q=>Bo kf q p):=yT.mpr pa;have pb':b.toList.reverse.Pairwise (λp q=>Bo kf q p):=yT.mpr pb;have n:∀{D:Array BB}{Y W:Nat},Y<=a.size->W<=b.size->G6 kf a b D Y W->(Y=0\/W=0)->GA (Bo kf) a.toList b.toList (a.extract 0 Y++b.extract 0 W++D.reverse).toList:=λ{D Y W}q1 q2 j e=>by
    show dY ?_;have el:(a.extract 0 Y++b.extract 0 W++D.reverse).toList.reverse=D.toList++b.toList.reverse.drop (b.size-W)++a.toList.reverse.drop (a.size-Y):=by rw[QR a q1,QR b q2];simp[VN]
    rw[el];show(j.xn.abh pb' pa' λx X y hy=>?_).xn;obtain⟨m,hm,z,rfl⟩:=Ka q2 X;obtain⟨m',hm',z',rfl⟩:=Ka q1 hy;lia
  have l:∀{D:Array BB}{Y W:Nat},Y<=a.size->W<=b.size->G6 kf a b D Y W->W=1->GA (Bo kf) a.toList b.toList (b.extract 0 W++a.extract 0 Y++D.reverse).toList:=λ{D Y W}q1 q2 j e=>by
    show dY ?_;have el:(b.extract 0 W++a.extract 0 Y++D.reverse).toList.reverse=D.toList++a.toList.reverse.drop (a.size-Y)++b.toList.reverse.drop (b.size-W):=by rw[QR a q1,QR b q2];simp[VN]
    rw[el];show j.abh pa' pb' λx X y hy=>?_;obtain⟨m,hm,z,rfl⟩:=Ka q1 X;obtain⟨m',hm',z',rfl⟩:=Ka q2 hy;have:m'=0:=by simp_all
    subst this;show o _ (by simp)
  have am:∀{i:Nat}(hi:i<a.size),a[i]∈N.toList:=λhi=>ha _ (by simp);have bm:∀{i:Nat}(hi:i<b.size),b[i]∈N.toList:=λhi=>hb _ (by simp);have la:∀{i k:Nat}(hk:k<a.size)(h:i<=k),Bo kf (a[i]'(FR h hk)) a[k]:=λ{i k}hk h=>by have:=LR pa (lo:=0) (Aj _) i k (by simp) (by omega) hk;rw[D5 (FR h hk:i<a.size),D5 hk]at this;show this
  have lb:∀{i k:Nat}(hk:k<b.size)(h:i<=k),Bo kf (b[i]'(FR h hk)) b[k]:=λ{i k}hk h=>by have:=LR pb (lo:=0) (Aj _) i k (by simp) (by omega) hk;rw[D5 (FR h hk:i<b.size),D5 hk]at this;show this
  have oneA:∀{D:Array BB}{Y W:Nat}(h1:1<=Y)(h2:Y<=a.size)(h3:1<=W)(h4:W<=b.size),G6 kf a b D Y W->Bo kf b[W-1] a[Y-1]->G6 kf a b (D.push a[Y-1]) (Y-1) W:=λ{D Y W}h1 h2 h3 h4 j r=>by
    have e:(D.push a[Y-1]).toList=D.toList++(a.toList.reverse.drop (a.size-Y)).take 1:=by rw[QT a h2 h1];simp
    change EK _ _ _ (D.push a[Y-1]).toList _ _;rw[e,show a.size-(Y-1)=a.size-Y+1 by(clear r h4 h3 last o b1 a1;lia)];show j.yl pa' λx X y hy=>?_;rw[QT a h2 h1,Bm]at X;obtain⟨m,hm,z,rfl⟩:=Ka h4 hy;rw[X];show HR (lb (MB h3 h4) ((VX h3).mpr z:m<=W-1)) r
  have oneB:∀{D:Array BB}{Y W:Nat}(h1:1<=Y)(h2:Y<=a.size)(h3:1<=W)(h4:W<=b.size),G6 kf a b D Y W->Bo kf a[Y-1] b[W-1]->G6 kf a b (D.push b[W-1]) Y (W-1):=λ{D Y W}h1 h2 h3 h4 j r=>by
    have e:(D.push b[W-1]).toList=D.toList++(b.toList.reverse.drop (b.size-W)).take 1:=by rw[QT b h4 h3];simp
    change EK _ _ _ (D.push b[W-1]).toList _ _;rw[e,show b.size-(W-1)=b.size-W+1 by(clear r h2 h1 last o b1 a1;lia)];show j.zr pb' λx X y hy=>?_;rw[QT b h4 h3,Bm]at X;obtain⟨m,hm,z,rfl⟩:=Ka h2 hy;rw[X];show HR (la (MB h1 h2) ((VX h1).mpr z:m<=Y-1)) r
  show BG (P9 (NG ⟨rfl,?_⟩));show BG (Fb (by omega:a.size-1<a.size) ?_);have j0:G6 kf a b (#[a[a.size-1]]:Array BB) (a.size-1) b.size:=by
    show⟨?_,by simp,λx X y hy=>?_,λx X y hy=>?_⟩
    . have:=QT a (Aj _) a1;rw[cB,List.drop_zero]at this;rw[show a.size-(a.size-1)=1 by show cC a1,this];simp
    . simp only[Bm]at X;obtain⟨m,hm,z,rfl⟩:=Ka (by simp) hy;rw[X];show la (Vb a1 (by decide)) (B8 z)
    . simp only[Bm]at X;obtain⟨m,hm,z,rfl⟩:=Ka (Aj _) hy;rw[X];show last _ (by simp)
  by_cases e1:a.size-1=0;. show C7 (by simpa using e1) ?_;show BX (h _ st ⟨B,rfl,rfl⟩ (n (by simp) (Aj _) j0 (.inl e1)))
  show DW (by simpa using e1) ?_;by_cases e2:b.size=1;. show C7 (by simpa using e2) ?_;show BX (h _ st ⟨B,rfl,rfl⟩ (l (by simp) (Aj _) j0 e2))
  show DW (by simpa using e2) ?_;show BG (ME ?_);show BG (Ib (Hw (I:=λx c M=>IB κ N st M/\∃Y W D g,c=(AG,Y,W,D,g)/\G6 kf a b D Y W/\1<=Y/\Y<=a.size/\2<=W/\W<=b.size/\x+1+Y+W<=a.size+b.size) (Q:=λc M=>IB κ N st M/\∃r,c.1=AA r/\GA (Bo kf) a.toList b.toList r.toList) ?ku ?fin ?aep) ?post);case aep=>show⟨⟨B,rfl,rfl⟩,_,_,_,_,rfl,j0,KU.mpr e1,by simp,SG.mp (DU b1 (DJ e2)),Aj _,by simp_all⟩
  case fin=> intro c M hI;obtain⟨S,Y,W,D,g,rfl,j,h1,h2,h3,h4,h5⟩:_:=hI;lia
  case post=> intro c M hI;lk;obtain⟨S,r,e,f⟩:=hI;obtain⟨c1,c2⟩:=c;obtain rfl:c1=AA r:=e;k_in;show BX (h r M S f)
  case ku=>
    intro x c st1 hx0 X hI;obtain⟨S,Y,W,D,g,rfl,j,h1,h2,h3,h4,h5⟩:_:=hI;show BG (Ib (Hw (I:=λy c M=>M=st1/\∃H K P p q,c=(AG,H,K,P,p,q)/\G6 kf a b P H K/\1<=H/\H<=a.size/\2<=K/\K<=b.size/\H+K+y<=Y+W) (Q:=λc M=>M=st1/\((∃r,c.1=AA r/\GA (Bo kf) a.toList b.toList r.toList)\/∃H K P p q,c=(AG,H,K,P,p,q)/\G6 kf a b P H K/\1<=H/\H<=a.size/\2<=K/\K<=b.size/\H+K+1<=Y+W)) ?s1 ?s2 ?s3) ?s4);case s3=>show⟨rfl,Y,W,D,0,0,rfl,j,h1,h2,h3,h4,Aj _⟩
    case s2=> intro c M hI;obtain⟨rfl,H,K,P,p,q,rfl,j',g1,g2,g3,g4,g5⟩:_:=hI;show⟨rfl,.inr ⟨H,K,P,p,q,rfl,j',g1,g2,g3,g4,by lia⟩⟩
    case s1=> intro y c M hy0 hy hI;obtain⟨rfl,H,K,P,p,q,rfl,j',g1,g2,g3,g4,g5⟩:_:=hI;clear hy0 h1 h2 h3 h4 h5 X hx0 e1 e2 j0 j o last;show BG (Fb (P2 (B8 g3) (L9.mpr g4):K-1<b.size) (BG (Fb (MB g1 g2:H-1<a.size) (BG (QV C S.sb (bm (P2 (B8 g3) (L9.mpr g4))) (am (MB g1 g2)) ?_)))));cases e:O.blt (kf (b[K-1]'(P2 (B8 g3) (L9.mpr g4))).1) (kf (a[H-1]'(MB g1 g2)).1)with
      |true=>
        show C7 rfl ?_;show BG (Fb (MB g1 g2:H-1<a.size) ?_);have j2:=oneA g1 g2 (B8 g3) g4 j' (KW e);by_cases z:H-1=0
        . show C7 (by simpa using z) ?_;show BX ⟨rfl,.inl ⟨_,rfl,n (by dsimp only;simp_all) g4 j2 (.inl z)⟩⟩
        . show DW (by simpa using z) ?_;split;.show BX ⟨rfl,.inr ⟨_,_,_,_,_,rfl,j2,by dsimp only;show KU.mpr z,by dsimp only;show B8 (MB g1 g2),g3,g4,by dsimp only;lia⟩⟩
          .show BX ⟨rfl,_,_,_,_,_,rfl,j2,by dsimp only;show KU.mpr z,by dsimp only;show B8 (MB g1 g2),g3,g4,by dsimp only;lia⟩|false=>
        show DW Dx ?_;show BG (Fb (P2 (B8 g3) (L9.mpr g4):K-1<b.size) ?_);have j2:=oneB g1 g2 (B8 g3) g4 j' e;by_cases z:K-1=1;. show C7 (by simpa using z) ?_;show BX ⟨rfl,.inl ⟨_,rfl,l g2 (by dsimp only;show Ag (Bi z) b1) j2 z⟩⟩
        . show DW (by simpa using z) ?_;split;.show BX ⟨rfl,.inr ⟨_,_,_,_,_,rfl,j2,g1,g2,by(clear j2 e g5 g4 g2 g1 hy b1 a1;dsimp only;lia),by dsimp only;show Ag (y7 _ _) g4,by dsimp only;lia⟩⟩
          .show BX ⟨rfl,_,_,_,_,_,rfl,j2,g1,g2,by(clear j2 e g5 g4 g2 g1 hy b1 a1;dsimp only;lia),by dsimp only;show Ag (y7 _ _) g4,by dsimp only;lia⟩
    case s4=>
      rintro c M⟨rfl,⟨r,e,f⟩|⟨H,K,P,p,q,rfl,j',g1,g2,g3,g4,g5⟩⟩;. obtain⟨c1,c2⟩:=c;obtain rfl:c1=AA r:=e;show BX ⟨S,r,rfl,f⟩
      show BG (P9 (NG ⟨rfl,?_⟩));show BG (Ib (Hw (I:=λy c st2=>IB κ N st st2/\∃i2 Z o2 m2 p q,c=(AG,i2,Z,o2,m2,p,q)/\G6 kf a b o2 i2 Z/\1<=i2/\i2<=a.size/\2<=Z/\Z<=b.size/\i2+Z+1<=Y+W) (Q:=λc st2=>IB κ N st st2/\((∃r,c.1=AA r/\GA (Bo kf) a.toList b.toList r.toList)\/∃i2 Z o2 m2 p q,c=(AG,i2,Z,o2,m2,p,q)/\G6 kf a b o2 i2 Z/\1<=i2/\i2<=a.size/\2<=Z/\Z<=b.size/\i2+Z+1<=Y+W)) ?t1 ?t2 ?t3) ?t4);case t3=>show⟨S,H,K,P,_,p,q,rfl,j',g1,g2,g3,g4,g5⟩
      case t2=>rintro c st2⟨S2,r⟩;show⟨S2,.inr r⟩
      case t4=>
        rintro c st2⟨S2,⟨r,e,f⟩|⟨i2,Z,o2,m2,p,q,rfl,j2,f1,f2,f3,f4,f5⟩⟩;. obtain⟨c1,c2⟩:=c;obtain rfl:c1=AA r:=e;show BX ⟨S2,r,rfl,f⟩
        .show BG (Jq (BX ⟨S2.aeb _,i2,Z,o2,_,rfl,j2,f1,f2,f3,f4,by lia⟩))
      case t1=>
        intro y c st2 hy0 hy hI;obtain⟨S2,i2,Z,o2,m2,p,q,rfl,j2,f1,f2,f3,f4,f5⟩:_:=hI;clear hy0 hy j' g1 g2 g3 g4 g5 j h1 h2 h3 h4 h5 X hx0 e1 e2 j0 S o last;show(λ(L:∀m3:Nat,(?G:Nat->Prop) m3)=>?u) ?v;case u=>
          by_cases z:m2>1
          . show C7 z ?_;generalize m2-1=m3;show L m3
          . show DW z ?_;generalize m2=m3;show L m3
        case v=>
          intro m3;show BG (Jq ?_);have S3:=S2.aeb m3;have U:Z-1<b.size:=P2 (B8 f3) (L9.mpr f4);show BG (Fb U ?_);show(λ(L:∀(c i3:Nat)(o3:Array BB),G6 kf a b o3 i3 Z->(∀m(hm:m<a.size),m<i3->Bo kf a[m] (b[Z-1]'U))->1<=i3->i3<=a.size->i3+Z+1<=Y+W->(?G2:Nat->Nat->Array BB->Prop) c i3 o3)=>?u2) ?v2;case u2=>
            show BG (Od C S3.sb (bm U) ha (by dsimp only;simp_all) (by dsimp only;show Vb f1 (by decide)) (LR pa (by dsimp only;simp_all)) λt ht bl bg=>?_);dsimp only at ht;have F:∀m(hm:m<a.size),m<t->Bo kf a[m] (b[Z-1]'U):=λm hm z=>by have:=bl m z;unfold Cw at this;rw[AEz Dx,D5 (LG hm:0+m<a.size)]at this;change O.blt _ _=AR;simpa using this
            have runB:∀m(hm:m<a.size),t<=m->m<i2->Bo kf (b[Z-1]'U) a[m]:=λm hm z z'=>by have:=bg m z z';unfold Cw at this;rw[AEz Dx,D5 (LG hm:0+m<a.size)]at this;show KW (by change O.blt _ _=AK;simpa using this)
            have j3:G6 kf a b (o2++(a.extract t i2).reverse) t Z:=by
              have e:(o2++(a.extract t i2).reverse).toList=o2.toList++(a.toList.reverse.drop (a.size-i2)).take (i2-t):=by rw[QY a f2 ht];simp
              change EK _ _ _ (o2++(a.extract t i2).reverse).toList _ _;rw[e,show a.size-t=a.size-i2+(i2-t)from(y6 ((cA (Ag ht f2)).mpr f2)).mp (zA ht)];show j2.yl pa' λx X y hy=>?_;rw[QY a f2 ht,yS]at X;simp only[eO,VN]at X;obtain⟨m,hm,hm2,rfl⟩:=QS X;obtain⟨m',hm',z,rfl⟩:=Ka f4 hy;show HR (lb (by omega) (bZ z:m'<=Z-1)) (runB _ hm2 (by simp) (LG hm))
            have pre:(i2-t>0/\t=0)\/1<=t:=by(clear runB F bg bl L U f5 f4 f3 f2 b1 a1;lia)
            rcases pre with⟨zk,z1⟩|z1
            . show C7 zk (C7 (by simpa using z1) ?_);show BX ⟨S3,.inl ⟨_,rfl,n (by simp_all) f4 j3 (.inl z1)⟩⟩
            have t2:t<=a.size:=Ag ht f2;have T:t+Z+1<=Y+W:=by lia
            by_cases zk:i2-t>0
            . show C7 zk (DW (by simp;show M5 z1) ?_);generalize i2-t=c;generalize o2++(a.extract t i2).reverse=o3 at j3⊢;clear bl bg ht runB zk;generalize t=i3 at j3 F z1 t2 T⊢;show L c i3 o3 j3 F z1 t2 T
            . show DW zk ?_;have zk0:t=i2:=by(clear T t2 z1 runB F bg bl L U f5 f4 f3 f2 f1 b1 a1;lia)
              have eo:o2++(a.extract t i2).reverse=o2:=by rw[zk0];simp;show Jo _ _
              rw[eo,zk0]at j3;rw[zk0]at F z1 t2 T;generalize i2-t=c;show L c i2 o2 j3 F z1 t2 T
          case v2=>
            intro c i3 o3 j3 F z1 t2 T;have d:i3-1<a.size:=MB z1 t2;show BG (Fb U ?_);have j4:=oneB z1 t2 (B8 f3) f4 j3 (F _ (by omega) (Vb z1 (by decide)));by_cases z3:Z-1=1;. show C7 (by simpa using z3) ?_;show BX ⟨S3,.inl ⟨_,rfl,l t2 (by dsimp only;show B8 U) j4 z3⟩⟩
            show DW (by simpa using z3) ?_;show BG (Fb (by omega:i3-1<a.size) ?_);show(λ(L:∀(c' k5:Nat)(o5:Array BB),G6 kf a b o5 i3 k5->(∀m(hm:m<b.size),m<k5->Bo kf b[m] (a[i3-1]'d))->2<=k5->k5<=b.size->i3+k5+1<=Y+W->(?G3:Nat->Nat->Array BB->Prop) c' k5 o5)=>?u3) ?v3;case u3=>
              show BG (Od C S3.sb (am (by omega)) hb (by dsimp only;show AFE (ABx.mpr rfl) (B8 U)) (by(clear L j4 d T t2 F U f5 f4 f2 f1 b1 a1;dsimp only;show(Nat.mod_eq_iff_lt (y8.mpr f3)).mp (Nat.self_sub_mod _ _))) (LR pb (by dsimp only;show AFE (ABx.mpr rfl) (B8 U))) λt' ht' bl' bg'=>?_);dsimp only at ht';have V:∀m(hm:m<b.size),m<t'->Bo kf b[m] (a[i3-1]'(by omega)):=λm hm z=>by have:=bl' m z;unfold Cw at this;rw[AE0 rfl,D5 (LG hm:0+m<b.size)]at this;show KW (by change O.blt _ _=AK;simpa using this)
              have R:∀m(hm:m<b.size),t'<=m->m<Z-1->Bo kf (a[i3-1]'(by omega)) b[m]:=λm hm z z'=>by have:=bg' m z z';unfold Cw at this;rw[AE0 rfl,D5 (LG hm:0+m<b.size)]at this;change O.blt _ _=AR;simpa using this
              have j5:G6 kf a b (o3.push (b[Z-1]'U)++(b.extract t' (Z-1)).reverse) i3 t':=by
                have e:(o3.push (b[Z-1]'U)++(b.extract t' (Z-1)).reverse).toList=(o3.push (b[Z-1]'U)).toList++(b.toList.reverse.drop (b.size-(Z-1))).take (Z-1-t'):=by rw[QY b (B8 U) ht'];simp
                change EK _ _ _ (o3.push (b[Z-1]'U)++(b.extract t' (Z-1)).reverse).toList _ _;rw[e,show b.size-t'=b.size-(Z-1)+(Z-1-t')from(y6 ((cA (Ag ht' (B8 U))).mpr (B8 U))).mp (zA ht')];show j4.zr pb' λx X y hy=>?_;rw[QY b (B8 U) ht',yS]at X;simp only[eO,VN]at X;obtain⟨m,hm,hm2,rfl⟩:=QS X;obtain⟨m',hm',z,rfl⟩:=Ka t2 hy;show HR (la (by omega) ((VX z1).mpr z:m'<=i3-1)) (R _ hm2 (by simp) (LG hm))
              have pre:(Z-1-t'>0/\t'=1)\/(Z-1-t'>0/\t'=0)\/2<=t':=by(clear j5 R V bg' bl' L j4 d T t2 F U f5 f4 f2 f1 b1 a1;lia)
              rcases pre with⟨zk',z4⟩|⟨zk',z4⟩|z4;. show C7 zk' (C7 (by simpa using z4) ?_);show BX ⟨S3,.inl ⟨_,rfl,l t2 (Ag ht' (B8 U)) j5 z4⟩⟩
              . show C7 zk' (DW (by simp;simp_all) (C7 (by simpa using z4) ?_));show BX ⟨S3,.inl ⟨_,rfl,n t2 (by(clear zk' R V bg' bl' L z3 j4 d T t2 z1 f5 f4 f3 f2 f1 b1 a1;simp_all)) j5 (.inr z4)⟩⟩
              have t4:t'<=b.size:=Ag ht' (B8 U);have f6':i3+t'+1<=Y+W:=by(clear t4 j5 R V bg' bl' L j4 d t2 F U f5 f4 f2 f1 b1 a1;lia)
              by_cases zk':Z-1-t'>0
              . show C7 zk' (DW (by simp;show M5 z4) (DW (by simp;show Ne.intro (λu1=>y4 _ (Ag z4 (Bi u1)))) ?_));generalize Z-1-t'=c';generalize o3.push (b[Z-1]'U)++(b.extract t' (Z-1)).reverse=o5 at j5⊢;clear bl' bg' ht' R zk';generalize t'=k5 at j5 V z4 t4 f6'⊢;show L c' k5 o5 j5 V z4 t4 f6'
              . show DW zk' ?_;have zk0:t'=Z-1:=by(clear f6' t4 j5 R V bg' bl' L j4 d T t2 F U f5 f4 f2 f1 b1 a1;grind)
                have eo:o3.push (b[Z-1]'U)++(b.extract t' (Z-1)).reverse=o3.push (b[Z-1]'U):=by rw[zk0];simp;(clear zk' f6' t4 z4 R V bg' bl' ht' L z3 j4 d T t2 z1 f5 f4 f3 f2 f1 b1 a1;show Jo _ _)
                rw[eo,zk0]at j5;rw[zk0]at V z4 t4 f6';generalize Z-1-t'=c';show L c' _ _ j5 V z4 t4 f6'
            case v3=>
              intro c' k5 o5 j5 V z4 t4 f6';show BG (Fb (by omega:i3-1<a.size) ?_);have j6:=oneA z1 t2 (B8 z4) t4 j5 (V _ (P2 (B8 z4) (L9.mpr t4)) ((yX (Hu z4)).mp (Aj _)));by_cases z5:i3-1=0;. show C7 (by simpa using z5) ?_;show BX ⟨S3,.inl ⟨_,rfl,n (B8 d) t4 j6 (.inl z5)⟩⟩
              show DW (by simpa using z5) ?_;split;.show BX ⟨S3,.inr ⟨_,_,_,_,_,_,rfl,j6,KU.mpr z5,B8 d,z4,t4,by(clear j6 t4 z4 V j4 d T t2 F U f5 f4 f3 f2 f1 b1 a1;lia)⟩⟩
              .show BX ⟨S3,_,_,_,_,_,_,rfl,j6,KU.mpr z5,B8 d,z4,t4,by(clear j6 t4 z4 V j4 d T t2 F U f5 f4 f3 f2 f1 b1 a1;lia)⟩
theorem dZ(p:Nat):∀(M:List BB)(n:Nat)(xs:Array BB),p+n+M.length<=xs.size->((M.zipIdx n).foldl (λa x=>a.setIfInBounds (p+x.2) x.1) xs).toList=xs.toList.take (p+n)++M++xs.toList.drop (p+n+M.length)|[],n,xs,h=>by simp|m::r,n,xs,h=>by rw[List.zipIdx_cons,yM,dZ p r _ _ (by simp;show AFE (Nat.succ_add _ _) h)];simp only[AAz];rw[List.drop_set_of_lt (by omega),show p+(n+1)=p+n+1 by rfl,D2,List.take_set_of_le (Aj _)];grind
theorem d6{O:Vf}{kf:AL->O.α}{xs:Array BB}{lo hi:Nat}(h:hi<=xs.size)(u:Dk kf xs lo hi):(xs.extract lo hi).toList.Pairwise (Bo kf):=by
 rw[Gn];intro i j U V D;have e:∀k(W:k<(xs.extract lo hi).toList.length),(xs.extract lo hi).toList[k]=xs[lo+k]'(by grind):=(by simp);rw[e i _,e j V];have J:j<hi-lo:=by grind
 have:=u _ _ (by simp) (FP (B8 D) _) (LG J);rw[D5 _,D5 _]at this;show this
theorem d5{xs:Array BB}{lo:Nat}(h:hi<=xs.size)(D:p∈(xs.extract lo hi).toList):∃m,lo<=m/\m<hi/\∃(J:m<xs.size),p=xs[m]:=by simp at D;obtain⟨m,J,U,rfl⟩:_:=QS D;grind
theorem AAj(xs:Array BB)(D:i<=j)(J:j<=k)(W:k<=xs.size):xs.toList=xs.toList.take i++((xs.extract i j).toList++(xs.extract j k).toList)++xs.toList.drop k:=by
 simp only[eO,VN];have U:bW (k-i) (xs.toList.drop i)=bW (j-i) (xs.toList.drop i)++bW (k-j) (xs.toList.drop j):=by rw[show k-i=(j-i)+(k-j)by show(Nat.sub_eq_iff_eq_add' ((cA (Ag D J)).mpr J)).mp (zA D),ABu,yI,show i+(j-i)=j by show Hr D]
 have V:xs.toList.drop i=bW (k-i) (xs.toList.drop i)++xs.toList.drop k:=by conv=>lhs;rw[<-Px _ (xs.toList.drop i),yI,show i+(k-i)=k by show Hr (Ag D J)]
 rw[<-U,FN,<-V,Px]
theorem AAu{A:DV}{E:AL->AZ->Prop}{s:AZ}{M:OR}{D:Type}{t u:D}{Q:PUnit->D->Prop}(h:Q ⟨⟩ t):Es M A E s (set t:StateT D D4 PUnit) Q u:=by show Cq ⟨rfl,h⟩
theorem AAr{d:Array BB}{st:Cn}(C:F9 prog w A s κ O kf d)(B:Cr κ d st)(p1:(CB st)[i]?=AA (D,Z,pw))(p2:(CB st)[i+1]?=AA (D+Z,nb,pw'))(u:1<=Z)(P:1<=nb)(g:D+Z+nb<=d.size)(ua:Dk kf (Ak st) D (D+Z))(ub:Dk kf (Ak st) (D+Z) (D+Z+nb))(h:∀st',Cr κ d st'->CB st'=((CB st).setIfInBounds i (D,Z+nb,pw)).eraseIdxIfInBounds (i+1)->Dk kf (Ak st') D (D+(Z+nb))->(∀k,k<D\/D+Z+nb<=k->BV kf (Ak st') k=BV kf (Ak st) k)->Q AK st'):Es (Ao prog w) A E s (mergeAt' i) Q st:=by
  have l:=B.yo;show BG (ME ?_);rw[show(sortPriv%PySem.Builtin.SortState.pending) st=CB st from rfl,p1,p2];dsimp only;show BG (AAu (t:=cF (cK st) (Ak st) (((CB st).setIfInBounds i (D,Z+nb,pw)).eraseIdxIfInBounds (i+1)) (gallopOf st) (M9 st)) ?_);have memA:∀p∈(Ak st).toList,p∈d.toList:=λp hp=>(Sg.mp B.ow).mem_iff.mp hp;have K:D+Z<(Ak st).size:=by lia
  show BG (Fb K ?_);generalize hst1:cF (cK st) (Ak st) (((CB st).setIfInBounds i (D,Z+nb,pw)).eraseIdxIfInBounds (i+1)) (gallopOf st) (M9 st)=st1;have B1:Cr κ d st1:=by rw[<-hst1];show⟨B.ow,B.ju,B.oj⟩
  have ar1:Ak st1=Ak st:=by rw[<-hst1]
  have pe1:CB st1=((CB st).setIfInBounds i (D,Z+nb,pw)).eraseIdxIfInBounds (i+1):=by rw[<-hst1]
  have V:BV kf (Ak st) (D+Z)=kf ((Ak st)[D+Z]'K).1:=D5 K;show BG (Od (left:=AR) (key:=(Ak st)[D+Z]'K) (base:=D) (n:=Z) (hint:=0) C B1 (memA _ (by simp)) memA (B8 K) (by assumption) ua λk hk r o=>?_);have lowA:∀j,D<=j->j<D+k->O.kle (BV kf (Ak st) j) (BV kf (Ak st) (D+Z)):=λj j1 j2=>by have:=r (j-D) ((SH j1).mpr j2);unfold Cw at this;rw[AEz Dx,<-V,show D+(j-D)=j by show Hr j1]at this;change O.blt _ _=AR;simpa using this
  have highA:∀j,D+k<=j->j<D+Z->O.kle (BV kf (Ak st) (D+Z)) (BV kf (Ak st) j):=λj j1 j2=>by have:=o (j-D) ((L8 (D9 j1)).mpr j1) ((SH (D9 j1)).mpr j2);unfold Cw at this;rw[AEz Dx,<-V,show D+(j-D)=j by show Hr (D9 j1)]at this;show KW (by change O.blt _ _=AK;simpa using this)
  dsimp only;by_cases R:Z-k=0
  . show C7 (by simpa using R) ?_;show BX (h st1 B1 pe1 ?_ λz _=>by rw[ar1]);rw[ar1];intro x y h1 h2 h3;by_cases hx:x<D+Z
    . by_cases hy:y<D+Z;.show ua x y h1 h2 hy
      .show HR (lowA x h1 (by lia)) (ub _ y (Aj _) (by simp_all) (by lia))
    .show ub x y (by simp_all) h2 (by lia)
  show DW (by simpa using R) ?_;have L:D+k+(Z-k)-1<(Ak st).size:=by(clear R l g P u;omega)
  show BG (Fb L ?_);have U:BV kf (Ak st) (D+Z-1)=kf ((Ak st)[D+k+(Z-k)-1]'L).1:=by rw[<-D5 (kf:=kf) L];congr 1;lia
  show BG (Od (left:=AK) (key:=(Ak st)[D+k+(Z-k)-1]'L) (base:=D+Z) (n:=nb) (hint:=nb-1) C B1 (memA _ (by simp)) memA (by simp_all) (Vb P (by decide)) ub λk' H G F=>?_);have lowB:∀j,D+Z<=j->j<D+Z+k'->O.kle (BV kf (Ak st) j) (BV kf (Ak st) (D+Z-1)):=λj j1 j2=>by have:=G (j-(D+Z)) ((SH j1).mpr j2);unfold Cw at this;rw[AE0 rfl,<-U,show D+Z+(j-(D+Z))=j from Hr j1]at this;show KW this
  have highB:∀j,D+Z+k'<=j->j<D+Z+nb->O.kle (BV kf (Ak st) (D+Z-1)) (BV kf (Ak st) j):=λj j1 j2=>by have:=F (j-(D+Z)) ((L8 (D9 j1)).mpr j1) ((SH (D9 j1)).mpr j2);unfold Cw at this;rw[AE0 rfl,<-U,show D+Z+(j-(D+Z))=j by show Hr (D9 j1)]at this;show this
  dsimp only;by_cases T:k'=0
  . show C7 (by simpa using T) ?_;show BX (h st1 B1 pe1 ?_ λz _=>by rw[ar1]);rw[ar1];intro x y h1 h2 h3;by_cases hx:x<D+Z
    . by_cases hy:y<D+Z;.show ua x y h1 h2 hy
      .show HR (ua x (D+Z-1) h1 (bZ hx) (y9 hx)) (highB y (by simp_all) (by lia))
    .show ub x y (by simp_all) h2 (by lia)
  show DW (by simpa using T) ?_;generalize hX:(Ak st).extract (D+k) (D+Z)=X;generalize hY:(Ak st).extract (D+Z) (D+Z+k')=Y;have pX:X.toList.Pairwise (Bo kf):=by rw[<-hX];show d6 (B8 K) λa b v q2 q3=>ua a b (D9 v) q2 q3
  have pY:Y.toList.Pairwise (Bo kf):=by rw[<-hY];show d6 (by lia) λa b v q2 q3=>ub a b (by omega) q2 (BY q3 (FP H _))
  have c:X.size=Z-k:=by rw[<-hX];simp;(clear T F G H U L R l g P u;lia)
  have zY:Y.size=k':=by rw[<-hY];simp;(clear c T F G U L R hk P u;lia)
  have mX:∀p∈X.toList,∃m,D+k<=m/\m<D+Z/\∃(hm:m<(Ak st).size),p=(Ak st)[m]:=λp hp=>d5 (B8 K) (by rw[hX];show hp);have mY:∀p∈Y.toList,∃m,D+Z<=m/\m<D+Z+k'/\∃(hm:m<(Ak st).size),p=(Ak st)[m]:=λp hp=>d5 (by lia) (by rw[hY];show hp);have y0:Y[0]'(by(clear c F G H U L R o r V K l g P u;show AE9 (y8.mp T) zY.symm))=(Ak st)[D+Z]'K:=by subst hY;simp
  have xl:X[X.size-1]'(by(clear y0 F G H U L o r V K l g P;lia))=(Ak st)[D+Z-1]'(SI K):=by subst hX;rw[Array.getElem_extract];congr 1;rw[c];(clear c y0 F G H U L o r V K l g P;lia)
  have J:∀p∈X.toList,Bo kf (Y[0]'(by(clear xl y0 c F G H U L R o r V K l g P u;show AE9 (y8.mp T) zY.symm))) p:=λp hp=>by obtain⟨m,v,q2,hm,rfl⟩:=mX p hp;rw[y0];have:=highA m v q2;rw[V,D5 hm]at this;show this
  have W:∀p∈Y.toList,Bo kf p (X[X.size-1]'(by(clear xl y0 F G H U L o r V K l g P;lia))):=λp hp=>by obtain⟨m,v,q2,hm,rfl⟩:=mY p hp;rw[xl];have:=lowB m v q2;rw[D5 hm,D5 (SI K:D+Z-1<(Ak st).size)]at this;show this
  have inX:∀p∈X.toList,p∈d.toList:=λp hp=>by obtain⟨m,v,q2,hm,rfl⟩:=mX p hp;show memA _ (by simp)
  have inY:∀p∈Y.toList,p∈d.toList:=λp hp=>by obtain⟨m,v,q2,hm,rfl⟩:=mY p hp;show memA _ (by simp)
  have fin:∀(M:Array BB)(I:Cn),IB κ d st1 I->GA (Bo kf) X.toList Y.toList M.toList->Q AK (P8 I (M.toList.zipIdx.foldl (λa x=>a.setIfInBounds (D+k+x.2) x.1) (Ak I))):=λM I S f=>by
    have lM:M.toList.length=(Z-k)+k':=by rw[f.1.length_eq,Bx];simp[c,zY]
    have ar2:Ak I=Ak st:=S.afd.trans ar1;have el:=dZ (D+k) M.toList 0 (Ak st) (by grind);rw[VT,lM,show D+k+(Z-k+k')=D+Z+k' by(clear W J xl y0 c T F G H U L R o r V K l g P u;lia)]at el;generalize hN:M.toList.zipIdx.foldl (λa x=>a.setIfInBounds (D+k+x.2) x.1) (Ak I)=N;have eN:N.toList=(Ak st).toList.take (D+k)++M.toList++(Ak st).toList.drop (D+Z+k'):=by rw[<-hN,ar2];show el
    have perm:N.Perm (Ak I):=by
      rw[ar2,Sg,eN];have sp:=AAj (Ak st) (i:=D+k) (j:=D+Z) (k:=D+Z+k') (by simp_all) (by simp) (by lia);rw[hX,hY]at sp;conv=>rhs;rw[sp]
      show ABS _ (bH _ f.1)
    have lt:((Ak st).toList.take (D+k)).length=D+k:=by simp;(clear lM W J xl y0 zY c T F G H U L R l g P u;lia)
    have nOut:∀z,z<D+k\/D+Z+k'<=z->N[z]?=(Ak st)[z]?:=λz hz'=>by
      rw[<-NI,<-NI,eN];rcases hz' with q|q;.rw[FN,OG (BY q (Bi lt.symm)),bM q]
      . rw[Pq (by rw[Bx];(clear W J xl y0 c T F G H U L R o r V K l g P u;lia)),Bx,lt,lM,List.getElem?_drop];congr 1;(clear W J xl y0 c T F G H U L R o r V K l g P u;grind)
    have nIn:∀z,D+k<=z->z<D+Z+k'->N[z]?=M[z-(D+k)]?:=λz v q2=>by rw[<-NI,<-NI,eN,FN,Pq (Ag (Bi lt) v),lt,OG (by(clear W J xl y0 c T F G H U L R o r V K l g P u;grind))]
    have upM:Dk kf M 0 M.size:=LR f.2 (Aj _);have sM:M.size=(Z-k)+k':=by rw[<-lM];simp
    have inM:∀z,D+k<=z->z<D+Z+k'->∃m,D+k<=m/\m<D+Z+k'/\BV kf N z=BV kf (Ak st) m:=λz v q2=>by
      have hz2:z-(D+k)<M.size:=by(clear W J xl y0 c T F G H U L R o r V K l g P u;grind)
      have hm:M[z-(D+k)]∈X.toList++Y.toList:=f.1.mem_iff.mp (by simp);rw[Gq (nIn z v q2),D5 hz2];rcases Ce.mp hm with q|q;. obtain⟨m,v,q2,hm,e⟩:=mX _ q;show⟨m,v,Nat.lt_add_right _ q2,by rw[e,D5 hm]⟩
      . obtain⟨m,v,q2,hm,e⟩:=mY _ q;show⟨m,Ag (FP hk _) v,q2,by rw[e,D5 hm]⟩
    show h _ (S.sb.ie perm) (S.zd.trans pe1) ?_ λz hz'=>Gq (nOut z (by(clear sM lM W J xl y0 c T F G U L R o r hk V K l g P u;lia)));change Dk kf N D (D+(Z+nb));intro x y h1 h2 h3;by_cases x1:x<D+k
    . rw[Gq (nOut x (.inl x1))];have all:∀m,D+k<=m->m<D+Z+nb->O.kle (BV kf (Ak st) x) (BV kf (Ak st) m):=λm v q2=>by
        by_cases q3:m<D+Z;.show ua x m h1 (Ag (B8 x1) v) q3
        .show HR (lowA x h1 x1) (ub _ m (Aj _) (by(clear q2 v x1 h3 h2 h1 sM lM W J xl y0 zY c T F G H U L R o r hk V K l g P u;simp_all)) q2)
      by_cases y1:y<D+k;. rw[Gq (nOut y (.inl y1))];show ua x y h1 h2 (BY y1 (FP hk _))
      . by_cases y2:y<D+Z+k';. obtain⟨m,v,q2,e⟩:=inM y (by(clear y2 x1 h3 h2 h1 sM lM W J xl y0 zY c T F G H U L R o r hk V K l g P u;simp_all)) y2;rw[e];show all m v (BY q2 (FP H _))
        . rw[Gq (nOut y (.inr (by(clear y1 x1 h3 h2 h1 sM lM W J xl y0 c T F G H U L R o r hk V K l g P u;simp_all))))];show all y (by(clear y2 x1 h3 h2 h1 sM lM W J xl y0 zY c T F G H U L R o r hk V K l g P u;simp_all)) (by(clear y2 y1 x1 h2 h1 sM lM W J xl y0 zY c T F G H U L R o r hk V K l g P u;lia))
    . by_cases x2:x<D+Z+k'
      . by_cases y2:y<D+Z+k'
        . rw[Gq (nIn x (by(clear y2 x2 h3 h2 h1 sM lM W J xl y0 zY c T F G H U L R o r hk V K l g P u;simp_all)) x2),Gq (nIn y (Ag (FQ x1) h2) y2)];show upM _ _ (by simp) ((cA (Ag (FQ x1) h2)).mpr h2) (by(clear x2 h3 h1 W J xl y0 c T F G H U L R o r V K l g P u;grind))
        . rw[Gq (nOut y (.inr (by(clear x2 x1 h3 h2 h1 sM lM W J xl y0 c T F G H U L R o r hk V K l g P u;simp_all))))];obtain⟨m,v,q2,e⟩:=inM x (by(clear y2 x2 h3 h2 h1 sM lM W J xl y0 zY c T F G H U L R o r hk V K l g P u;simp_all)) x2;rw[e];by_cases q3:m<D+Z;.show HR (ua m (D+Z-1) (D9 v) (bZ q3) (y9 q3)) (highB y (by(clear q3 q2 v x2 x1 h3 h2 h1 sM lM W J xl y0 c T F G H U L R o r hk V K l g P u;simp_all)) (by(clear q3 q2 v y2 x2 x1 h2 h1 sM lM W J xl y0 zY c T F G H U L R o r hk V K l g P u;lia)))
          .show ub m y (by(clear q2 v y2 x2 x1 h3 h2 h1 sM lM W J xl y0 zY c T F G H U L R o r hk V K l g P u;simp_all)) (Ag (B8 q2) (FQ y2)) (by(clear q3 q2 v y2 x2 x1 h2 h1 sM lM W J xl y0 zY c T F G H U L R o r hk V K l g P u;lia))
      . rw[Gq (nOut x (.inr (by(clear x1 h3 h2 h1 sM lM W J xl y0 c T F G H U L R o r hk V K l g P u;simp_all)))),Gq (nOut y (.inr (Ag (FQ x2) h2)))];show ub x y (D9 (FQ x2)) h2 (by(clear x2 x1 h2 h1 sM lM W J xl y0 zY c T F G H U L R o r hk V K l g P u;lia))
  have fin2:∀(M:Array BB)(I:Cn),IB κ d st1 I->GA (Bo kf) X.toList Y.toList M.toList->M9 (P8 I (M.toList.zipIdx.foldl (λa x=>a.setIfInBounds (D+k+x.2) x.1) (Ak I)))=AG:=λM I S _=>S.sb.oj;by_cases le:Z-k<=k'
  . show C7 le ?_;show BG (AAt C B1 inX inY (AFI (KU.mpr R) c.symm) (AFI (KU.mpr T) zY.symm) pX pY J W λM I S f=>?_);show BG (Jq (BG (ME ?_)));have:=fin M I S f;have e:=fin2 M I S f;show BX ?_;change Q (M9 (P8 I _)).isNone _;rw[e];show this
  . show DW le ?_;show BG (AAs C B1 inX inY (Nat.one_le_of_lt (BY (MA le) (Bi c.symm))) (AFI (KU.mpr T) zY.symm) pX pY J W λM I S f=>?_);show BG (Jq (BG (ME ?_)));have:=fin M I S f;have e:=fin2 M I S f;show BX ?_;change Q (M9 (P8 I _)).isNone _;rw[e];show this
def Ft{O:Vf}(kf:AL->O.α)(xs:Array BB):Nat->List (Nat×Nat×Nat)->Nat->Prop|x,[],y=>x=y|x,(s,n,_)::r,y=>s=x/\1<=n/\Dk kf xs s (s+n)/\Ft kf xs (x+n) r y
theorem Ft.le{O:Vf}{kf:AL->O.α}{xs:Array BB}:∀{l:List (Nat×Nat×Nat)}{x y:Nat},Ft kf xs x l y->x+l.length<=y|[],x,y,h=>by show Bi h|(s,n,p)::r,x,y,h=>by obtain⟨_,J,_,D⟩:_:=h;have:=Ft.le D;grind
theorem QQ{O:Vf}{kf:AL->O.α}{xs:Array BB}:∀{l m:List (Nat×Nat×Nat)}{x z:Nat},Ft kf xs x (l++m) z↔∃y,Ft kf xs x l y/\Ft kf xs y m z
 |[],m,x,z=>⟨λh=>⟨x,rfl,h⟩,λ⟨y,D,J⟩=>by have D:x=y:=D;simp_all⟩|(s,n,p)::r,m,x,z=>by
  constructor
  . intro Y;lk;obtain⟨D,J,U,Z⟩:=Y;obtain⟨y,V,W⟩:=QQ.mp Z;k_in;show⟨y,⟨D,J,U,V⟩,W⟩
  . intro Y;obtain⟨y,⟨D,J,U,V⟩,W⟩:_:=Y;show⟨D,J,U,QQ.mpr ⟨y,V,W⟩⟩
theorem Ft.ab{O:Vf}{kf:AL->O.α}{xs ys:Array BB}:∀{l:List (Nat×Nat×Nat)}{x y:Nat},Ft kf xs x l y->(∀k,x<=k->k<y->BV kf ys k=BV kf xs k)->Ft kf ys x l y|[],x,y,h,_=>h|(s,n,p)::r,x,y,⟨W,Y,Z,V⟩,k=>by have:=Ft.le V;subst W;show⟨rfl,Y,λi j D J U=>by rw[k i D (BY (FR J U) (D9 this)),k j (Ag D J) (BY U (D9 this))];show Z i j D J U,Ft.ab V (λz u2 u3=>k _ (D9 u2) u3)⟩
theorem d9{J:Array BB}{st:Cn}(C:F9 prog w A s P O kf J)(B:Cr P J st)(c:Ft kf (Ak st) 0 (CB st).toList hi)(K:i+1<(CB st).size)(a:hi<=J.size)(h:∀D,Cr P J D->(CB D).size+1=(CB st).size->Ft kf (Ak D) 0 (CB D).toList hi->(∀k,hi<=k->BV kf (Ak D) k=BV kf (Ak st) k)->Q AK D):Es (Ao prog w) A E s (mergeAt' i) Q st:=by
  lk;obtain⟨⟨W,Y,L⟩,T⟩:∃x,(CB st)[i]?=AA x:=⟨_,AFH _ i (by omega)⟩;obtain⟨⟨m,Z,H⟩,X⟩:∃x,(CB st)[i+1]?=AA x:=(by simp_all);k_in;have z:(CB st).toList=(CB st).toList.take i++(W,Y,L)::(m,Z,H)::(CB st).toList.drop (i+2):=by
    have F:=Hu K;have G:i+1<(CB st).toList.length:=by assumption
    conv=>lhs;rw[<-Px i (CB st).toList]
    congr 1;rw[bK F,bK G];grind
  have V:=List.length_take_of_le (D9 (B8 K));generalize(CB st).toList.take i=F at z V;generalize(CB st).toList.drop (i+2)=G at z;rw[z]at c;obtain⟨y,S,⟨e,f,g,⟨j,M,l,I⟩⟩⟩:_:=QQ.mp c;subst e j;have U:=I.le;show AAr C B T X f M (Ag (D9 U) a) g l λD R b u k=>h D R ?_ ?_ (λN u2=>k _ (zD _ (Ag (D9 U) u2)));.grind
  . have d:(CB D).toList=F++(W,Y+Z,L)::G:=by rw[b];simp only[Array.toList_eraseIdxIfInBounds,AAz,z];rw[List.set_append_right _ _ (Bi V),V,cB,List.set_cons_zero,List.eraseIdx_append_of_length_le (Jn (Bi V)),V];simp
    rw[d];show QQ.mpr ⟨W,S.ab (λN u2 u3=>k _ (Fq u3)),rfl,yW M,u,?_⟩;rw[show W+(Y+Z)=W+Y+Z by show Eq.comm.mp (Nat.add_assoc _ _ _)];show I.ab (λN u2 u3=>k _ (zD _ u2))
theorem dW{O:Vf}{kf:AL->O.α}{xs:Array BB}:∀{l m:List (Nat×Nat×Nat)}{x y:Nat},l.map (λv=>(v.1,v.2.1))=m.map (λv=>(v.1,v.2.1))->Ft kf xs x l y->Ft kf xs x m y|[],[],_,_,_,h=>h|[],_::_,_,_,e,_=>by cases e|_::_,[],_,_,e,_=>by cases e|(a,n,p)::l,(b,k,q)::m,x,y,e,⟨J,U,V,W⟩=>by have e:=Dz e;have D:=e.1;cases D;show⟨J,U,V,dW e.2 W⟩
theorem d7{B:P4}{O:Vf}{kf:AL->O.α}{J:Array BB}{D:Cn}{lo m x:Nat}(V:Cr B J D)(Z:Ft kf (Ak D) 0 (CB D).toList lo)(u3:Dk kf (Ak D) lo (lo+m))(Y:1<=m)(z:lo+m<=J.size)(A:x<=lo\/J.size<=lo):Cr B J (cM D ((CB D).push (lo,m,0)))/\∃U,((AG,lo+m):Option Unit×Nat)=(AG,U)/\(x+1<=U\/J.size<=U)/\U<=J.size/\Ft kf (Ak (cM D ((CB D).push (lo,m,0)))) 0 (CB (cM D ((CB D).push (lo,m,0)))).toList U:=by show⟨⟨V.ow,V.ju,V.oj⟩,_,rfl,Or.imp (λW=>Nat.add_le_add W Y) (λW=>VW W) A,z,?_⟩;rw[AAy];show QQ.mpr ⟨lo,Z,rfl,Y,u3,rfl⟩
theorem eB{K:P4}{D:Array BB}{st:Cn}(C:F9 prog w A s K O kf D)(B:Cr K D st)(p0:CB st=#[])(h:∀V,Cr K D V->Dk kf (Ak V) 0 D.size->Q () V):Es (Ao prog w) A E s sortRuns' Q st:=by
  rw[sortRuns'_eq];show BG (ME ?_);dsimp only;simp only[B.yo];generalize minRun' D.size D.size 0=o;show BG (Ib (Hw (I:=λx c V=>Cr K D V/\∃W,c=(AG,W)/\(x<=W\/D.size<=W)/\W<=D.size/\Ft kf (Ak V) 0 (CB V).toList W) (Q:=λc V=>Cr K D V/\c=(AG,D.size)/\Ft kf (Ak V) 0 (CB V).toList D.size) ?ku ?fin ?aep) ?post);case aep=>show⟨B,0,rfl,.inl (Aj _),Bc _,by rw[p0];rfl⟩
  case fin=>
    intro c V Z;lk;obtain⟨S,W,rfl,t,R,c⟩:=Z;obtain rfl:W=D.size:=by lia
    k_in;show⟨S,rfl,c⟩
  case post=>
    intro c V Z;obtain⟨S,rfl,c⟩:_:=Z;dsimp only;show BG (Ib (Hw (I:=λx c J=>c=(AG,())/\Cr K D J/\Ft kf (Ak J) 0 (CB J).toList D.size/\((CB J).size+x<=D.size\/(CB J).size<=1)) (Q:=λc J=>c=(AG,())/\Cr K D J/\Ft kf (Ak J) 0 (CB J).toList D.size/\(CB J).size<=1) ?t1 ?t2 ?t3) ?t4);case t3=>show⟨rfl,S,c,.inl (by have:=c.le;simp at this;omega)⟩
    case t2=> intro Y J Z;obtain⟨rfl,H,Y,q⟩:_:=Z;show⟨rfl,H,Y,by lia⟩
    case t4=> intro Y J Z;obtain⟨rfl,H,Y,q⟩:_:=Z;show BX (h J H ?_);generalize(CB J)=P at Y q;obtain⟨l⟩:=P;match l,q,Y with
      |[],_,Y=> have Y:0=D.size:=Y;intro i j _ _ q3;show ADx.mp (λu1=>Nat.ne_zero_of_lt q3 Y.symm)|[(a,n,p)],_,Y=> obtain⟨e1,_,u,e2⟩:_:=Y;have e2:0+n=D.size:=e2;subst e1;rw[<-e2];show u
    case t1=>
      intro x Y J _ g Z;obtain⟨rfl,H,Y,q⟩:_:=Z;show BG (ME ?_);by_cases z:(CB J).size<=1
      . show C7 z ?_;show BX ⟨rfl,H,Y,z⟩
      . show DW z ?_;generalize hi:(if Option.any _ _=AK then(CB J).size-2-1 else(CB J).size-2)=i;have aux:∀(c:Prop)[Decidable c](u v N:Nat),u+1<N->v+1<N->(if c then u else v)+1<N:=λc _ u v N h1 h2=>by split<;>assumption
        show BG (d9 C H Y (by rw[<-hi];show aux _ _ _ _ (by omega) (Nat.add_lt_iff_lt_sub_right.mpr (Hv _ _ (MA z)))) (Aj _) λF T z3 X _=>?_);show BX ⟨rfl,T,X,by(constructor<;>lia)⟩
  case ku=>
    intro x c V _ g Z;obtain⟨S,W,rfl,t,R,c⟩:_:=Z;dsimp only;by_cases z:W>=D.size
    . show C7 z ?_;obtain rfl:W=D.size:=Ec R z;show BX ⟨S,rfl,c⟩
    show DW z ?_;show BG (AAp C (Bi (Hr R)) (SG.mp (VZ.mpr (MA z))) S λn J H K2 r e u2=>?_);have Y:Ft kf (Ak J) 0 (CB J).toList W:=by rw[K2.zd];show c.ab λk _ k2=>Gq (K2.aec k k2)
    dsimp only;by_cases d:n<o;all_goals first
      | (show C7 d ?_;show BG (P9 (NG ⟨rfl,?_⟩));show BG (AAo C ((L8 (B8 (MA z))).mp (Jo _ _)) (Nat.le_min_of_le_of_le e (B8 d)) H u2 λF T K3 u3=>?_);show DW (by simp) ?_;have G:1<=D3 (D.size-W) o/\W+D3 (D.size-W) o<=D.size:=by lia
         have X:Ft kf (Ak F) 0 (CB F).toList W:=by rw[K3.zd];show Y.ab λk _ k2=>Gq (K3.aec k k2)
         generalize D3 (D.size-W) o=m at u3 G⊢) | (show DW d ?_;have G:1<=n/\W+n<=D.size:=⟨r,(L8 (B8 (MA z))).mp e⟩;have T:=H;have X:=Y;have u3:=u2;generalize n=m at u3 G⊢;generalize J=F at T X u3⊢)
    all_goals show BG (ME ?_);cases hb:(CB F).back? with |none=>show BG (Jq (BX (d7 T X u3 G.1 G.2 (by omega))))|some b=>
        obtain⟨s1,m1,pw⟩:_:=b;dsimp only;generalize power' D.size (2*s1+m1) (2*s1+m1+m1+m) D.size=pp;show BG (Ib (Hw (I:=λ_ c U=>c=(AG,())/\Cr K D U/\Ft kf (Ak U) 0 (CB U).toList W/\Dk kf (Ak U) W (W+m)) ?r1 (λ_ _ q=>q) ⟨rfl,T,X,u3⟩) ?r2);case r1=>
          intro y M U _ hy Z;obtain⟨rfl,L,M,f⟩:_:=Z;show BG (ME ?_);by_cases z4:(CB U).size>1
          . have e4:=AFH (CB U) ((CB U).size-2) (by(clear hy G d e r z R t g;omega));simp only[AE0 z4,e4];split;.show BX ⟨rfl,L,M,f⟩
            . show BG (d9 C L M (by(clear hy G d e r z R t g;lia)) R λst5 B5 z5 c5 k5=>?_);show BX ⟨rfl,B5,c5,λi j w1 w2 w3=>by rw[k5 i w1,k5 j (by(clear w3 z5 hy G d e r z R t g;lia))];show f i j w1 w2 w3⟩
          . simp only[AEz z4];show BX ⟨rfl,L,M,f⟩
        case r2=> intro M U Z;obtain⟨rfl,L,M,f⟩:_:=Z;dsimp only;show BG (Jq (BG (Jq (BX ?_))));have B5:Cr K D (cM U ((CB U).modify ((CB U).size-1) λx=>(x.1,x.2.1,pp))):=⟨L.ow,L.ju,L.oj⟩;show d7 B5 ?_ f G.1 G.2 (by omega);show dW (l:=(CB U).toList) ?_ M;rw[Array.toList_modify];show yJ λk=>?_;rw[Bt,Bt,List.getElem?_modify];cases(CB U).toList[k]? with |none=>rfl|some v=>
            change AA _=AA _;by_cases w:(CB U).size-1=k;.simp[w]
            .simp[w]
def FC:AN->AN->Bool|.inl a,.inl b=>Ae (a<b)|.inl _,.inr _=>AK|.inr _,.inl _=>AR|.inr x,.inr y=>Ae (x.cps.toList<y.cps.toList)
theorem ZQ:∀a,FC a a=AR|.inl a=>AE3 (fI _)|.inr x=>AE3 (List.lt_irrefl _)
theorem tN:∀{a b c},FC a b=AK->FC b c=AK->FC a c=AK|.inl a,.inl b,.inl c,D,J=>AE1 (Qb (AE4 D) (AE4 J))|.inl _,.inl _,.inr _,_,_=>rfl|.inl _,.inr _,.inr _,_,_=>rfl|.inr x,.inr y,.inr z,D,J=>AE1 (List.lt_trans (AE4 D) (AE4 J))
theorem tM:∀{a b},FC a b=AR->FC b a=AR->a=b|.inl a,.inl b,D,J=>by have D:=AE8 D;have J:=AE8 J;grind|.inr x,.inr y,D,J=>by have D:=AE8 D;have J:=AE8 J;rw[wR (List.le_antisymm (by assumption) (List.not_lt.mp D))]
def Bg:List AN->List AN->Bool|[],[]=>AR|[],_::_=>AK|_::_,[]=>AR|a::x,b::y=>if a=b then Bg x y else FC a b
theorem PV:∀x,Bg x x=AR|[]=>rfl|a::x=>by rw[Bg,AE0 rfl];show PV x
theorem Um:∀{x y z},Bg x y=AK->Bg y z=AK->Bg x z=AK
  |[],[],_,h,_=>by cases h|[],_::_,[],_,h=>by cases h|[],_::_,_::_,_,_=>rfl|_::_,[],_,h,_=>by cases h|_::_,_::_,[],_,h=>by cases h|a::x,b::y,c::z,D,J=>by
    unfold Bg at D J⊢;by_cases W:a=b
    . subst W;rw[AE0 rfl]at D;by_cases U:a=c;. subst U;rw[AE0 rfl]at J⊢;show Um D J
      simp_all
    . rw[AEz W]at D;by_cases U:b=c;.simp_all
      . rw[AEz U]at J;have V:=tN D J;have:a≠c:=λe=>by rw[e,ZQ]at V;cases V
        show Oe (AEz this) V
theorem Rg:∀{x y},Bg x y=AR->Bg y x=AR->x=y
 |[],[],_,_=>rfl|[],_::_,h,_=>by cases h|_::_,[],_,h=>by cases h|a::x,b::y,D,J=>by
  unfold Bg at D J;by_cases e:a=b
  . subst e;rw[AE0 rfl]at D J;rw[Rg D J]
  . rw[AEz e]at D;rw[AEz (DJ e)]at J;show absurd (tM D J) e
@[reducible]def Hm:Vf where
 α:=List AN
 blt:=Bg
 irrefl:=PV
 trans _ _ _:=Um
 negTrans a b c h:=by cases e:Bg a b with |true=>show .inl rfl|false=>cases D:Bg b a with |true=>show .inr (Um D h)|false=>rw[<-Rg e D];show .inr h
 total _ _:=Rg
def B0:AL->AN|.int i _=>.inl i|.str x _=>.inr x|_=>.inl 0
def Hl(h:BZ):AL->List AN
 |.int i _=>[.inl i]|.str x _=>[.inr x]|.ref a=>match h.get? a with
  |AA o=>match o.data with |.seq D _=>D.toList.map B0|_=>[]
  |AG=>[]
 |_=>[]
theorem AAq{s:AZ}{O:Vf}{vs:List AL}(Z:s.heap.get? a=AA (Cf "list" vs.toArray n))(N:vs.length<=Az)(kf:AL->O.α)(z:∀Y,(∀b o,b≠a->s.heap.get? b=AA o->Y.get? b=AA o)->2<=vs.length->∃W,(∀(Q:P4->AZ->Prop)(E:AL->AZ->Prop),Q W {s with heap:=Y}->A1 (Ao prog w) A (cJ vs.toArray) Q E {s with heap:=Y})/\F9 prog w A {s with heap:=Y} W O kf (Jp vs))(h:∀out:Array BB,out.Perm (Jp vs)->Dk kf out 0 (Jp vs).size->P (.done (.ret .none)) {s with heap:=zM s.heap a vs (out.map (·.2))}):A1 (Ao prog w) A (Builtin.«list.sort» ⟨[.ref a],[]⟩) P E s:=by
  rw[list_sort_plain];have X:a<s.heap.objs.size:=Ct Z;show BI (zJ Z rfl (BI (P7 Z rfl ?_)));lk;obtain⟨F,V⟩:∃F,(s.heap.update a (Ei λv=>#[])).get? a=AA (Cf "list" #[] F):=⟨_,Vh Z (λv=>#[])⟩;k_in;show BI (Vj V rfl (BI (ADp (BI (dU (SX ?_))))));generalize H:((s.heap.update a (Ei λv=>#[])).push (Cf "tuple" vs.toArray 0)).push (Cf "list" #[] 0)=G;have S:∀b o,b≠a->s.heap.get? b=AA o->G.get? b=AA o:=λb o L q=>by rw[<-H];show C1 _ (C1 _ ((zT _ _ _ _ L).trans q))
  have J:G.get? a=AA (Cf "list" #[] F):=by rw[<-H];show C1 _ (C1 _ V)
  have fin:=λout I K=>by have:=h out I K;unfold zM at this;rw[H]at this;show this
  dsimp only;by_cases D:vs.toArray.size<2
  . rw[AE0 D,AE0 D];show BI (Cq ?_);rw[ADu];show BI (Cq ?_);dsimp only;show BI (Vj J rfl (BI (P7 J rfl ?_ (hsz2:=by grind))));simp only[AFF,LS,AE5];show Cq (fin (vs.toArray.zip vs.toArray) (Vt _) λi j v c T=>?_);rw[pairsOf_size]at T;have M:vs.toArray.size=vs.length:=by simp
    obtain rfl:i=j:=by lia
    show M8 _
  . rw[AEz D,AEz D];obtain⟨W,R,C⟩:_:=z G S (by simpa using D);show BI (R _ _ ?_);show BI (IA (eB C (st:=cF W (Jp vs) #[] 7 AG) (Q:=λv U=>Cr W (Jp vs) U/\Dk kf (Ak U) 0 (Jp vs).size) ⟨Vt _,rfl,rfl⟩ rfl λU B u=>⟨B,u⟩) ?_ λv v e=>e);rintro⟨⟨⟩,U⟩d⟨rfl,B,u⟩;dsimp only;show BI (Vj J rfl (BI (P7 J rfl ?_ (hsz2:=by show Ag (Bi ((eL ..).trans (B.ow.size_eq.trans (pairsOf_size _)))) ?_;show Jn N))));rw[B.oj];simp only[AFF,LS,AE5];show Cq (fin _ B.ow u)
def C0:AN->Bool|.inl _=>AK|.inr _=>AR
def FJ:AL->Prop|.int _ _=>True|.str _ _=>True|_=>False
theorem Zd(c:Bool)(D:FJ x)(J:FJ y)(U:C0 (B0 x)=C0 (B0 y))(h:Q (FC (B0 x) (B0 y)) s):A1 (Ao prog w) A (oneLt' c x y) Q E s:=by
 cases x<;>first|show D.elim|skip
 all_goals(cases y<;>first|show J.elim|show Ik (by assumption)|show Ik (by assumption)|skip)
 .cases c with |true=>show oneLt_int h|false=>show AAH _ _ (zK h)
 .cases c with|true=>show oneLt_str h|false=>show AAH _ _ (ACL h)
section
variable{prog:Co}{w:CC}{A:DV}{E:AL->AZ->Prop}{s:AZ}{Q:Bool->AZ->Prop}
set_option tactic.hygienic true in theorem Ua{x y:AL}(D:FJ x)(J:FJ y)(hs:C0 (B0 x)=C0 (B0 y))(h:Q (Ae (B0 x=B0 y)) s):A1 (Ao prog w) A (eqBool x y) Q E s:=by
  cases x<;>first|show D.elim|skip
  all_goals(cases y<;>first|show J.elim|show Ik (by assumption)|show Ik _|skip)
  . rename_i a t c u;show AEe a c t u _ w A E s Q ?_;have e:(a==c)=Ae (B0 (.int a t)=B0 (.int c u)):=by change(a==c)=Ae ((C3 a)=C3 c);grind
    simp_all
  . rename_i a t c u;show ACH a c t u _ w A E s Q ?_;have e:(a==c)=Ae (B0 (.str a t)=B0 (.str c u)):=by change(a==c)=Ae ((Bj a)=Bj c);grind
    simp_all
end
theorem ZY:∀(xs ys:List AL)(i:Nat),(∀v∈xs,FJ v)->(∀v∈ys,FJ v)->xs.map (λv=>C0 (B0 v))=ys.map (λv=>C0 (B0 v))->Q (Bg (xs.map B0) (ys.map B0)) s->dA prog w A b AR Q (xs.zip ys) i s
 |[],[],_,_,_,_,h=>ADI h|[],_::_,_,_,_,e,_=>by cases e|_::_,[],_,_,_,e,_=>by cases e|x::xs,y::ys,i,V,W,e,h=>by
  obtain⟨D,Y⟩:=Dz e;have J:=V x Dr;have U:=W y Dr;have h:Q (if B0 x=B0 y then Bg _ _ else FC _ _) s:=h;show dE (Ua J U D (AAF (λq=>?_) λq=>?_));. rw[AE0 (by(simpa using q))]at h;show AAI (ZY xs ys _ (λZ u2=>V _ (Gm u2)) (λZ u2=>W _ (Gm u2)) Y h)
  . rw[AEz (AE8 q)]at h;show AAG (Zd _ J U D h)
def Hh(h:BZ)(u:AL)(J:List AN):Prop:=∃a o D m,u=.ref a/\h.get? a=AA o/\o.cls=.type "tuple"/\o.data=.seq D m/\D.toList.map B0=J/\∀v∈D.toList,FJ v
theorem Hh.kf(t:Hh h u J):Hl h u=J:=by obtain⟨a,o,D,m,rfl,e,_,d,k,_⟩:_:=t;simp only[Hl,e,d];show k
inductive KJ(h:BZ):List AL->List (List AN)->Prop|cI{vs kss}:vs.length=kss.length->(∀(i:Nat)u ks,vs[i]?=AA u->kss[i]?=AA ks->∃n t,u=.int n t/\ks=[.inl n])->KJ h vs kss|cS{vs kss}:vs.length=kss.length->(∀(i:Nat)u ks,vs[i]?=AA u->kss[i]?=AA ks->∃n t,u=.str n t/\ks=[.inr n])->KJ h vs kss|cT{vs kss}(sh:List Bool):vs.length=kss.length->sh≠[]->(∀(i:Nat)u ks,vs[i]?=AA u->kss[i]?=AA ks->Hh h u ks/\ks.map C0=sh)->KJ h vs kss
theorem KJ.gf(x:KJ h vs kss):vs.length=kss.length:=by cases x<;>assumption
theorem KJ.kf(x:KJ h vs kss):∀(i:Nat)u D,vs[i]?=AA u->kss[i]?=AA D->Hl h u=D:=by intro i u D J U;cases x with|cI _ f=>obtain⟨n,t,rfl,rfl⟩:=f i u D J U;rfl|cS _ f=>obtain⟨n,t,rfl,rfl⟩:=f i u D J U;rfl|cT _ _ _ f=>show(f i u D J U).1.kf
theorem Lv{l:List α}{m:List J}(U:l.length=m.length)(h:x∈l):∃(i:Nat)(y:J),l[i]?=AA x/\m[i]?=AA y:=by obtain⟨i,D,e⟩:_:=Gk.mp h;show⟨i,m[i]'(BY D (Bi U)),(List.getElem_eq_iff D).mp e,(by simp)⟩
theorem KJ.acx(x:KJ h vs kss)(O:2<=vs.length)(kp:∀a o D m,.ref a∈vs->h.get? a=AA o->o.cls=.type "tuple"->o.data=.seq D m->s.heap.get? a=AA o):∃κ,(∀(Q:P4->AZ->Prop)(E:AL->AZ->Prop),Q κ s->A1 (Ao prog w) A (cJ vs.toArray) Q E s)/\F9 prog w A s κ Hm (Hl h) (Jp vs):=by
  have L:∀p∈(Jp vs).toList,p.1∈vs:=λp B=>by rw[Vi]at B;show(zL B).2
  cases x with |cI Y f=>
    show⟨oneType',λQ E q=>ADG (T:=.type "int") O (λv C=>?_) (by decide) (by decide) q,⟨λp B q M Q E k=>?_⟩⟩
    . lk;obtain⟨i,U,V,W⟩:=Lv Y C;obtain⟨n,t,rfl,_⟩:=f i _ _ V W;k_in;show .now
    . lk;obtain⟨i,U,V,W⟩:=Lv Y (L p B);obtain⟨j,ls,P,R⟩:=Lv Y (L q M);obtain⟨n,t,G,_⟩:=f i _ _ V W;obtain⟨m,t',u2,_⟩:=f j _ _ P R;k_in;rw[G,u2]at k⊢;rw[ACK];show oneLt_int ?_;have e:Ae (n<m)=Bg [.inl n] [.inl m]:=by change _=if(C3 n:AN)=C3 m then AR else Ae (n<m);(split<;>simp_all)
      rw[e];show k|cS Y f=>
    show⟨oneType',λQ E q=>ADG (T:=.type "str") O (λv C=>?_) (by decide) (by decide) q,⟨λp B q M Q E k=>?_⟩⟩
    . lk;obtain⟨i,U,V,W⟩:=Lv Y C;obtain⟨n,t,rfl,_⟩:=f i _ _ V W;k_in;show .now
    . lk;obtain⟨i,U,V,W⟩:=Lv Y (L p B);obtain⟨j,ls,P,R⟩:=Lv Y (L q M);obtain⟨n,t,G,_⟩:=f i _ _ V W;obtain⟨m,t',u2,_⟩:=f j _ _ P R;k_in;rw[G,u2]at k⊢;rw[ACK];show oneLt_str ?_;have e:Ae (n.cps.toList<m.cps.toList)=Bg [.inr n] [.inr m]:=by change _=if(Bj n:AN)=Bj m then AR else Ae (n.cps.toList<m.cps.toList);(split<;>simp_all)
      rw[e];show k|cT g Y hn f=>
    have F:∀u∈vs,∃U,Hh s.heap u U/\Hl h u=U/\U.map C0=g:=λu N=>by obtain⟨i,U,V,W⟩:=Lv Y N;obtain⟨t,z⟩:=f i u U V W;show⟨U,?_,t.kf,z⟩;obtain⟨a,o,D,m,rfl,e,c,d,r⟩:=t;show⟨a,o,D,m,rfl,(kp _ _ _ _ N e c d),c,d,r⟩
    show⟨tuples' AK,λQ E q=>?_,⟨λp B q M Q E k=>?_⟩⟩;.
      have b:∀(l:List AL),(∀u∈l,u∈vs)->∃H,AC9 s.heap l H/\H.length=l.length/\∀v∈H,FJ v/\C0 (B0 v)=g.headD AK:=λl=>by induction l with |nil=>showλ_=>⟨[],trivial,rfl,(λG u2=>absurd u2 Pu)⟩|cons u l ih=>intro N;obtain⟨H,I,K,X⟩:=ih (λG u2=>N _ (Gm u2));obtain⟨U,⟨a,o,D,m,rfl,e,c,d,r,Z⟩,_,z⟩:=F u (N _ Dr);obtain⟨l0⟩:=D;match l0,r,Z with |[],r,_=>simp_all|f0::l1,r,Z=> show⟨f0::H,ADA e c d rfl I,ABy.mpr K,λv C=>?_⟩;grind
      obtain⟨H,I,K,X⟩:_:=b vs λ_ h=>h;cases hh:g.headD AK with
      |true=> show dF (T:=.type "int") I (AE9 (Hu O) K.symm) (λv C=>?_) (by decide) q;obtain⟨Z,z⟩:=X v C;rw[hh]at z;cases v<;>first|show Z.elim|show Ik (show AK=AR from z)|show Ik (by assumption)|show .now
      |false=> show dF (T:=.type "str") I (AE9 (Hu O) K.symm) (λv C=>?_) (by decide) q;obtain⟨Z,z⟩:=X v C;rw[hh]at z;cases v<;>first|show Z.elim|show Ik (by assumption)|show Ik (show AR=AK from z)|show .now
    . lk;obtain⟨U,⟨a,o,D,m,G,e,c,d,r,Z⟩,I,z1⟩:=F _ (L p B);obtain⟨ls,⟨a',o',J,m',u2,e',c',d',r',S⟩,K,z2⟩:=F _ (L q M);k_in;have k:Q (Bg (Hl h p.1) (Hl h q.1)) s:=k;rw[I,K,<-r,<-r']at k;rw[G,u2];have y:=by
        have h1:(D.toList.map B0).map C0=(J.toList.map B0).map C0:=by rw[r,r',z1,z2]
        rw[Dh,Dh]at h1;show h1
      have el:D.size=J.size:=by have:=AE2 My y;simpa using this
      show ADH e d e' d' ?_;rw[AE3 (Va.mpr (Bi el.symm))];show ZY _ _ 0 Z S y k
inductive Nm(K:As)(H:AH):List AE->List (List AN)->Prop|cI(ns:List Int):Nm K H (ns.map AE.int) (ns.map λn=>[.inl n])|cS(zs:List AF):Nm K H (zs.map AE.str) (zs.map λz=>[.inr z])|cT{xs:List AE}{kss:List (List AN)}(sh:List Bool):sh≠[]->BJ (λx ks=>(∃a,x=.ref a/\Cs K H a (ks.map Au))/\ks.map C0=sh) xs kss->Nm K H xs kss
theorem Pb{U:List C}(p:U.Perm B):∀{J:List α},BJ F J B->∃D,D.Perm J/\BJ F D U:=by induction p with
 |nil=>intro J h;cases h;show⟨[],.nil,.nil⟩|cons x _ I=>intro J h;cases h with|cons V W=>obtain⟨D,z,A⟩:_:=I W;show⟨_,z.cons _,.cons V A⟩
 |swap x y l=>intro J h;cases h with|cons V W=>cases W with|cons G H=>show⟨_,bJ _ _ _,.cons G (.cons V H)⟩
 |trans _ _ Y Z=> intro J h;lk;obtain⟨M,z,A⟩:=Z h;obtain⟨E,K,L⟩:=Y A;k_in;show⟨E,K.trans z,L⟩
theorem CJ{l:List α}{m:List D}(h:BJ F l m):l.length=m.length/\∀(i:Nat)a b,l[i]?=AA a->m[i]?=AA b->F a b:=by show⟨?_,λO O O=>Pa h⟩;induction h with|nil=>rfl|cons _ _ J=>show AE2 _ J
theorem Mn:∀{J:List AN}{U:List AL},Bb (J.map Au) U->U.map B0=J/\∀v∈U,FJ v|[],_,h=>by cases h;simp|k::J,_,h=>by cases h with|cons V W=>obtain⟨e,f⟩:=Mn W;cases k with|inl i=>obtain⟨t,rfl⟩:=V;show⟨by rw[FO,e];rfl,λv D=>by rcases CZ.mp D with rfl|D;show HS;simp_all⟩|inr x=>obtain⟨t,rfl⟩:=V;show⟨by rw[FO,e];rfl,λv D=>by rcases CZ.mp D with rfl|D;show HS;simp_all⟩
theorem Nm.acm(I:Aa X B e H s)(h:Nm X.K H xs kss)(r:Bb xs its):KJ s.heap its kss:=by have M:=r.aq;cases h with|cI c=>show .cI (by simp_all) λi u A Y D=>?_;rw[Bt]at D;lk;obtain⟨n,J,rfl⟩:=EA.mp D;obtain⟨C,U,t,W⟩:=r.xc (i:=i) (x:=.int n) (by simp_all);k_in;grind|cS d=>show .cS (by simp_all) λi u A Y D=>?_;rw[Bt]at D;lk;obtain⟨n,J,rfl⟩:=EA.mp D;obtain⟨C,U,t,W⟩:=r.xc (i:=i) (x:=.str n) (by simp_all);k_in;grind|cT R N p=>obtain⟨F,G⟩:=CJ p;show .cT R (Oe M.symm F) N λi u A Y D=>?_;have S:=(BU.mp D).1;have J:xs[i]?=AA xs[i]:=(by simp);lk;obtain⟨⟨a,E,P⟩,z⟩:=G i _ _ J D;obtain⟨C,U,W⟩:=r.xc J;rw[Y]at U;cases U;rw[E]at W;obtain rfl:u=Ds a:=W;obtain⟨Z,Q,⟨o,O,K,n,L⟩,_⟩:=I.ir P;obtain⟨T,b⟩:=Mn Q;k_in;show⟨⟨a,o,_,n,rfl,O,K,L,by assumption,by assumption⟩,z⟩
theorem uU(r:Bb ys its)(z:its.length=kss.length)(G:∀(i:Nat)u B,its[i]?=AA u->kss[i]?=AA B->kf u=B)(p:out.Perm (Jp its))(u:Dk (O:=Hm) kf out 0 (Jp its).size):∃qs:List (AE×List AN),qs.Perm (ys.zip kss)/\Bb (qs.map (·.1)) (out.map (·.2)).toList/\(qs.map (·.2)).Pairwise (λa b=>Bg b a=AR):=by
  have C:out.toList.Perm (its.zip its):=by rw[<-Vi];show Sg.mp p
  have c:∀q∈out.toList,q.1=q.2/\q.1∈its:=λq H=>zL (C.mem_iff.mp H);have E:(out.map (·.2)).toList=out.toList.map (·.2):=AAx ..;have L:=by have:=C.map (·.2);rwa[yR (Aj _)]at this
  have T:=r.aq;have K:BJ (λ(q:AE×List AN)v=>Be q.1 v/\kf v=q.2) (ys.zip kss) its:=by show Gz (by(simp[*])) λi a b U W=>?_;obtain⟨F,P⟩:=L6.mp U;obtain⟨v,Q,R⟩:=r.xc F;grind
  lk;obtain⟨qs,M,N⟩:=Pb L K;obtain⟨I,S⟩:=CJ N;k_in;show⟨qs,M,?_,?_⟩
  . rw[E];show Gz (Oe (Aq _) I) λi a b U W=>?_;grind
  . rw[Gn];intro i j Y Z D;rw[Aq]at Y Z;have X:=p.size_eq.symm;have A:∀k(z:k<qs.length),(qs[k]).2=BV (O:=Hm) kf out k:=λk z=>by
      have J:k<out.size:=by simp_all
      rw[D5 J];have W:(out.toList.map (·.2))[k]?=AA out[k].2:=by simp_all
      grind
    have:=u i j (Bc _) (B8 D) (by simp_all);rw[<-A i Y,<-A j Z]at this;rw[bN,bN];show this
theorem VD(I:Aa X pins σ H s)(hz:ys.length<=Az)(hc:∀(Q:List AL->AZ->Prop)(E:AL->AZ->Prop),(∀h1 tk its,(∀b o,s.heap.get? b=AA o->h1.get? b=AA o)->s.heap.objs.size<=h1.objs.size->Bb ys its->Q its {s with heap:=h1,toks:=tk})->A1 (Ao X.ai X.w) X.A.in1 (collect (.ref p)) Q E s)(sk:∀its,Bb ys its->its.length=kss.length/\∃kf,(∀(i:Nat)u ks,its[i]?=AA u->kss[i]?=AA ks->kf u=ks)/\∀s':AZ,(∀b o,s.heap.get? b=AA o->s'.heap.get? b=AA o)->2<=its.length->∃κ,(∀(Q:P4->AZ->Prop)(E:AL->AZ->Prop),Q κ s'->A1 (Ao X.ai X.w) X.A.in1.in1 (cJ its.toArray) Q E s')/\F9 X.ai X.w X.A.in1.in1 s' κ Hm kf (Jp its))(q:∀l(qs:List (AE×List AN)),H l=AG->qs.Perm (ys.zip kss)->(qs.map (·.2)).Pairwise (λa b=>Bg b a=AR)->Q (.ref l) (AM H l (.lst (qs.map (·.1))))):A1 (Ao X.ai X.w) X.A (Ig (.builtin "sorted") [.ref p]) (Fh X pins σ Q) X.xe s:=by
 show Calls.call_function_entry kind_sorted plain_sorted entry_sorted (args_sorted1 _) ?_;show BI (Cq ?_);show BI (hc _ _ λh1 tk its k1 grow rv=>?_);obtain⟨hk,kf,hkf,cm⟩:_:=sk its rv;have ra:=Ag (Bi rv.aq.symm) hz;show BI (dU ?_ ra);have hoL:(h1.push _).get? h1.objs.size=AA (Cf "list" its.toArray 0):=F7 _ rfl;show BI (SX (ADl ACR ⟨_,hoL,rfl⟩ ACF (AAq (O:=Hm) hoL ra kf (λh' k' h2=>cm _ (λa o e=>k' a o (ET (Ct (k1 a o e))) (C1 _ (k1 a o e))) h2) λout p u=>⟨_,rfl,Cq ⟨_,rfl,?_⟩⟩) (args_list_sort _)));lk;obtain⟨qs,q1,q2,q3⟩:=uU rv hk hkf p u;obtain⟨e',ho⟩:=sortedHeap_at (a:=h1.objs.size) (vs:=its) (out:=out.map (·.2)) hoL;k_in;have lz:(qs.map (·.1)).length<=Az:=by rw[Aq,q1.length_eq,ABk];show Ag (Jo _ _) hz
 have old:∀b o,s.heap.get? b=AA o->(zM (h1.push (Cf "list" its.toArray 0)) h1.objs.size its (out.map (·.2))).get? b=AA o:=λb o e=>by have e1:=k1 b o e;have hlt:=Ct e1;rw[sortedHeap_old (ET hlt) (by rw[size_push'];show b3 hlt)];show C1 _ e1
 show⟨.ref h1.objs.size,_,I.ou (a:=h1.objs.size) (o:=.lst (qs.map (·.1))) (t':=tk) old grow ⟨lz,_,e',q2,by rw[eM];show ho⟩,rfl,q _ qs (I.cq.cj grow) q1 q3⟩
theorem Y4{X:Bp}{s:AZ}(U:Bb ys its)(W:PlainL s.heap p its.toArray)(Z:ys.length<=Az)(Q:List AL->AZ->Prop)(E:AL->AZ->Prop)(f:∀D Y its,(∀b o,s.heap.get? b=AA o->D.get? b=AA o)->s.heap.objs.size<=D.objs.size->Bb ys its->Q its {s with heap:=D,toks:=Y}):A1 (Ao X.ai X.w) X.A.in1 (collect (.ref p)) Q E s:=by have J:=U.aq;show collect_list W.isList (f _ _ _ (λb o e=>(zT _ _ _ _ (ET (Ct e))).trans (C1 _ e)) ?_ U) (by simp_all);simp_all
theorem Y0{K:As}(z:X.K=K:=by rfl):FX X (.builtin "sorted") (λxs H Q=>∃(p:AB)(ys:List AE)(kss:List (List AN)),xs=[.ref p]/\CD K H p ys/\Nm K H ys kss/\∀l(qs:List (AE×List AN)),H l=AG->qs.Perm (ys.zip kss)->(qs.map (·.2)).Pairwise (λa b=>Bg b a=AR)->Q (.ref l) (AM H l (.lst (qs.map (·.1))))):=by subst z;intro Y s M H xs L Q I r h;lk;obtain⟨p,ys,kss,rfl,A,F,q⟩:=h;obtain⟨u,rfl,E⟩:=HN r;cases E;obtain⟨D,J,C,W⟩:=I.bz A;k_in;show VD I W (Y4 J C W) (λD J=>?_) q;have U:=F.acm I J;show⟨U.gf,_,U.kf,λG B Z=>U.acx Z λa o O O O e O O=>B a o e⟩
theorem rO(K:W.KdlSrc prog w T r d n P B)(M:A.handled=AG)(Z:B s.heap)(N:n<=Az)(L:∀J V(D:Array AL),(∀b o,s.heap.get? b=AA o->J.get? b=AA o)->s.heap.objs.size<J.objs.size->zW P D n->Q D.toList {s with heap:=J,toks:=V}):A1 (Ao prog w) A (collect (.ref r)) Q E s:=by
 show BI (wpAny_runValue (ADW F.entry_proto_collect ?_));show BI (AAe ?_);show Cq ⟨plainId_quiet F.plain_list_iadd _,ADW F.entry_list_iadd ?_⟩;have U:(s.heap.push {cls:=.type "list",data:=.seq ([]:List AL).toArray}).get? _=AA _:=F7 _ rfl;have G:=K.there _ Z;have I:∀b o,s.heap.get? b=AA o->(s.heap.push {cls:=.type "list",data:=.seq ([]).toArray}).get? b=AA o:=λb o e=>C1 _ e;have X:∀W,(∃J V D z,W={s with heap:=J,toks:=V}/\(∀b o,b≠s.heap.objs.size->(s.heap.push {cls:=.type "list",data:=.seq ([]:List AL).toArray}).get? b=AA o->J.get? b=AA o)/\J.get? s.heap.objs.size=AA {cls:=.type "list",dict:=AG,data:=.seq D z,slots:=#[]}/\zW P D n)->A1 (Ao prog w) A (load _>>=λo=>match o.data with|.seq g _=>Bn g.toList|_=>unsupported "internal:collect") Q E W:=λW⟨J,V,D,z,e,O,H,S⟩=>by subst e;show BI (wpAny_load H ?_);show Cq (L J V D (λb o e=>O b o (ET (Ct e)) (I b o e)) (Ct H) S)
 show IA (W.kdl_extend (A:=A) (R:=λr W=>r=.ok (.ret (.ref s.heap.objs.size))/\∃J V D z,W={s with heap:=J,toks:=V}/\(∀b o,b≠s.heap.objs.size->(s.heap.push {cls:=.type "list",data:=.seq ([]:List AL).toArray}).get? b=AA o->J.get? b=AA o)/\J.get? s.heap.objs.size=AA {cls:=.type "list",dict:=AG,data:=.seq D z,slots:=#[]}/\zW P D n) K M (K.keep _ _ Z (λh u2 u3 a=>I _ _ a)) _ (M5 G.1) (M5 G.2) _ 0 U (by simp_all) N) (λfin W C=>?_) (by simp);cases fin with|done f=>grind|again c=>show⟨C.1,SV C.2 λr s2 Y=>?_⟩;obtain⟨e,q⟩:=Y;grind
theorem rL(hc:X.je=AK):FX X (.builtin "sorted") (λxs H Q=>∃(d:AB)(kvs:List (AN×AE)),xs=[.ref d]/\H d=AA (.dK kvs)/\((∀p∈kvs,∃i,p.1=.inl i)\/∀p∈kvs,∃i,p.1=.inr i)/\∀l(ks:List AN),H l=AG->ks.Perm (kvs.map (·.1))->ks.Pairwise (λa b=>FC b a=AR)->Q (.ref l) (AM H l (.lst (ks.map Au)))):=by
  intro pins s σ H xs us Q I r h;lk;obtain⟨d,kvs,rfl,e,hty,q⟩:=h;obtain⟨u,rfl,ru⟩:=HN r;cases ru;obtain⟨z,lo,vs,rel,dd⟩:=Jf I.cq e;obtain⟨ep,hat⟩:=dd.dictAt;k_in;have hlen:kvs.length=vs.length:=Ic rel;have sv:∀{its:List AL},Bb (kvs.map λp=>Au p.1) its->KJ s.heap its (kvs.map λp=>[p.1]):=λ{its}rv=>by
    have ra:=rv.aq;rw[Aq]at ra;rcases hty with hty|hty
    . show .cI (by rw[Aq];show ra.symm) λi u ks e1 e2=>?_;rw[Bt]at e2;obtain⟨p,e3,rfl⟩:=EA.mp e2;obtain⟨n,en⟩:=hty p (Cm e3);obtain⟨u',e4,e5⟩:=rv.xc (i:=i) (x:=Au p.1) (by rw[Bt,e3];rfl);rw[e1]at e4;cases e4;rw[en]at e5⊢;obtain⟨t,rfl⟩:=e5;show⟨n,t,rfl,rfl⟩
    . show .cS (by rw[Aq];show ra.symm) λi u ks e1 e2=>?_;rw[Bt]at e2;obtain⟨p,e3,rfl⟩:=EA.mp e2;obtain⟨n,en⟩:=hty p (Cm e3);obtain⟨u',e4,e5⟩:=rv.xc (i:=i) (x:=Au p.1) (by rw[Bt,e3];rfl);rw[e1]at e4;cases e4;rw[en]at e5⊢;obtain⟨t,rfl⟩:=e5;show⟨n,t,rfl,rfl⟩
  show VD (kss:=kvs.map λp=>[p.1]) I (by rw[Aq];show z) (λQ E f=>rO (ADJ (knd:=Eo X.ai X.w) (kvs:=vs) (ep:=ep) lo) (I.ok.hd hc) hat (by simp_all) λh1 tk acc k1 gr it=>f h1 tk _ k1 (B8 gr) ?_) (λits rv=>⟨(sv rv).gf,_,(sv rv).kf,λs' kp h2=>(sv rv).acx h2 λa o O O O e O O=>kp a o e⟩) λl qs hl q1 q3=>?_;.show ZR rel (by rw[MI];show it.1) λj v hv=>it.2 j v (by rw[<-NI];show hv)
  . have ep:qs.map (·.1)=(qs.map λx=>x.2.headD (.inl 0)).map Au:=by rw[Dh];show L7 λx hx=>?_;have hm:=q1.mem_iff.mp hx;obtain⟨i,hi⟩:=VP.mp hm;obtain⟨e3,e4⟩:=L6.mp hi;rw[Bt]at e3 e4;obtain⟨p3,e5,e6⟩:=EA.mp e3;rw[e5]at e4;change x.1=Au (x.2.headD (.inl 0));rw[<-e6,<-By e4];rfl
    have pm:(qs.map λx=>x.2.headD (.inl 0)).Perm (kvs.map (·.1)):=by show(q1.map _).trans (LF ?_);rw[show(λx:AE×List AN=>x.2.headD (.inl 0))=(λl:List AN=>l.headD (.inl 0))∘Prod.snd from rfl,<-Dh,yR (by simp),Dh];rfl
    have pw:(qs.map λx=>x.2.headD (.inl 0)).Pairwise (λa b=>FC b a=AR):=by
      rw[Hq];rw[Hq]at q3;show q3.imp_of_mem λ{a b}ha hb hab=>?_;have one:∀x∈qs,∃k,x.2=[k]:=λx hx=>by have hm:=q1.mem_iff.mp hx;obtain⟨i,hi⟩:=VP.mp hm;obtain⟨_,e4⟩:=L6.mp hi;rw[Bt]at e4;obtain⟨p3,_,e6⟩:=EA.mp e4;show⟨_,e6.symm⟩
      obtain⟨x,ex⟩:=one a ha;obtain⟨y,ey⟩:=one b hb;rw[ex,ey]at hab⊢;change FC y x=AR;have hab:(if y=x then AR else FC y x)=AR:=hab;by_cases z:y=x;.rw[z];show ZQ x
      .rw[AEz z]at hab;show hab
    rw[ep];show q _ _ hl pm pw
theorem sJ(A:DV)(s:AZ)(U:FJ x)(V:FJ y)(J:C0 (B0 x)=C0 (B0 y)):c8 A s x y (Ae (B0 x=B0 y)):=by intro D w E Q h;show Ua U V J h
theorem wB(A:DV)(s:AZ)(D:FJ x)(J:FJ y)(U:C0 (B0 x)=C0 (B0 y))(prog:Co)(w:CC)(E:AL->AZ->Prop)(Q:AL->AZ->Prop)(h:Q (.bool (FC (B0 x) (B0 y))) s):A1 (Ao prog w) A (richCompare .Lt x y) Q E s:=by
 cases x<;>first|show D.elim|skip
 all_goals(cases y<;>first|show J.elim|show Ik _|show Ik (by assumption)|skip)
 .show(zK h)
 .show(ACL h)
structure RB(vs ws:List AL)(n m:Nat)(r:Bool):Prop where
 ex:∃(us zs:List AL),vs=us++zs/\(zs=[]\/ws.length<=us.length)/\(∀v∈us,FJ v)/\(∀v∈ws,FJ v)/\(∀(i:Nat)x y,us[i]?=AA x->ws[i]?=AA y->C0 (B0 x)=C0 (B0 y))/\Bg (us.map B0) (ws.map B0)=r
 gf:vs.length+m=ws.length+n
theorem aZ(l b:AB)(J D:Array AL)(n n2:Nat)(u N:Option AB)(sl k:Array (Option AL))(r:Bool)(T:RB J.toList D.toList J.size D.size r):Meets (Builtin.«tuple.__lt__» ⟨[.ref l,.ref b],[]⟩) (λ_ R s=>s.heap.get? l=AA {cls:=.type "tuple",dict:=u,data:=.seq J n,slots:=sl}/\s.heap.get? b=AA {cls:=.type "tuple",dict:=N,data:=.seq D n2,slots:=k}/\R (.ok (.ret (.bool r))) s):=.of_wp λY w A R s h=>by
 obtain⟨I,g,d,L,K⟩:_:=s;obtain⟨hl,hb,h⟩:=h;have f2:=AutoSeq1.sub_tuple_tuple;wp_walk using wpAny_loadPart' hl,wpAny_loadPart' hb,ADn _ (λZ b j=>b.1=AG/\j=⟨I,g,d,L,K⟩/\∃(M V:List AL)(q:Bool),Z=M.zip V/\RB M V J.size D.size q/\R (.ok (.ret (.bool q))) ⟨I,g,d,L,K⟩) _;case turn=> rintro⟨y,x⟩Z b j⟨B,rfl,M,V,q,E,X,G⟩;obtain⟨⟨z,m,rfl,F,O,P,Q,W⟩,U⟩:_:=X;cases V with |nil=>rw[List.zip_nil_right]at E;cases E|cons c V=>cases z with |nil=>simp_all|cons a z=> rw[R4,ABw]at E;injection E with f C;injection f with hy T;subst hy T;have o:=O y Dr;have p:=P x Dr;have t:=Q 0 y x rfl rfl;have W:(if B0 y=B0 x then Bg (z.map B0) (V.map B0)else FC (B0 y) (B0 x))=q:=W;show BI (sJ A.in1 ⟨I,g,d,L,K⟩ o p t Y w _ _ ?_);cases e:Ae (B0 y=B0 x)with |true=> rw[AE0 (AE4 e)]at W;wp_walk;show⟨rfl,rfl,z++m,V,q,C,⟨⟨z,m,rfl,?_,λv H=>O v (Fp _ H),λv H=>P v (Fp _ H),λi x y e1 e2=>Q (i+1) x y (by simpa using e1) (by simpa using e2),W⟩,?_⟩,G⟩;all_goals grind|false=> rw[AEz (AE8 e)]at W;have S:=wB A.in1 ⟨I,g,d,L,K⟩ o p t Y w;wp_walk using S;show⟨_,rfl,by rw[W];show G⟩
 case fin=>
  rintro⟨b1,b2⟩j⟨B,rfl,M,V,q,E,⟨⟨z,m,rfl,F,O,P,Q,W⟩,U⟩,G⟩;simp only at B;subst B;have H:q=Ae (J.size<D.size):=by rw[<-W];cases z with
   |nil=>
    rcases F with F|F
    . subst F;cases V with |nil=> simp only[VO,Dw]at U;show(AE3 (Va.mpr (Nat.add_le_add_iff_left.mp (Bi U)))).symm|cons c V=> simp only[VO,Dw,Mz]at U;show(AE1 (by simp_all)).symm
    . have:V=[]:=bL (by simpa using F);subst this;simp only[VO,ABp]at U;show(AE3 (by lia)).symm|cons a z=>cases V with |nil=> simp only[VO,Mz,R4]at U;show(AE3 (by lia)).symm|cons c V=>rw[R4,ABw]at E;cases E
  rw[H]at G;wp_walk;show⟨_,rfl,by simpa[AEC]using G⟩
 case h=>show⟨rfl,rfl,J.toList,D.toList,r,rfl,T,h⟩
def vX(K:As):EF:=λx y H Q=>Yr (λa b D U J=>x=.ref a) (λO b O O O=>y=.ref b) (λa O D U O=>Cs K H a (D.map Au++U)) (λO b O O J=>Cs K H b (J.map Au)) (λO O D U J=>(U=[]\/J.length<=D.length)) (λO O D O J=>(∀(i:Nat)k m,D[i]?=AA k->J[i]?=AA m->C0 k=C0 m)) (λO O D O J=>Q (.bl (Bg D J)) H)
theorem VJ:∀{xs ys:List AE}{D:List AL},Bb (xs++ys) D->∃vs J,D=vs++J/\Bb xs vs/\Bb ys J|[],ys,D,h=>⟨[],D,rfl,.nil,h⟩|x::xs,ys,_,h=>by cases h with|cons U W=>obtain⟨vs,J,e,Y,Z⟩:_:=VJ W;show⟨_,J,by simp_all,.cons U Y,Z⟩
theorem uL{K:As}(g:X.A.units<GV)(c:X.K=K:=by rfl):CP X (Ej .Lt) (vX K):=by
 subst c;intro W s σ H x y v u Q I rx ry h;lk;obtain⟨a,b,z,zs,A,rfl,rfl,d,e,hz,f,q⟩:=h;cases rx;cases ry;obtain⟨j,r1,t,_⟩:=I.ir d;obtain⟨D,r2,w,_⟩:=I.ir e;obtain⟨C,E,rfl,O,q2⟩:=VJ r1;obtain⟨k,S⟩:=Mn O;obtain⟨l,T⟩:=Mn r2;have m:=O.aq;have o:=r2.aq;have l3:=q2.aq;rw[Aq]at m o;obtain⟨⟨P,R,G,sl⟩,N,L,n,M⟩:=id t;obtain⟨⟨F,Z,Y,B⟩,V,J,r,U⟩:=id w;k_in;simp only at L M J U;subst L M J U;have p:RB (C++E).toArray.toList D.toArray.toList (C++E).toArray.size D.toArray.size (Bg z A):=by
  show⟨⟨C,E,by simp,?_,S,by simpa using T,λi x y e1 e2=>?_,by simp[k,l]⟩,by simp;show VS _ _⟩;.grind
  .show f i _ _ (by grind) (by grind)
 show ADf (op:=.Lt) ⟨_,N,rfl⟩ ⟨_,V,rfl⟩ ACs ACh (by rfl) (aZ a b _ _ n r R Z sl B _ p) ⟨N,V,show Vm (Bg z A)≠Value.notImplemented/\Fh X W σ Q (.bool (Bg z A)) s from⟨(by simp),⟨.bl _,H,I,rfl,q⟩⟩⟩ g
def CV(H:AH)(xs:List AE)(kss:List (List AN)):Prop:=BJ (λx D=>∃a,x=.ref a/\H a=AA (.tup (D.map Au))) xs kss
def Bk(H H':AH):Prop:=∀p D,H p=AA (.tup D)->H' p=AA (.tup D)
theorem An.tp(s:An H H'):Bk H H':=λp D e=>s _ _ e
theorem Gg(H:AH):Bk H H:=λO O h=>h
theorem Bk.aa(a:Bk H D)(b:Bk D J):Bk H J:=λp U e=>b _ _ (a _ _ e)
theorem Bk.gy(t:Bk H H')(h:H' b=AA u)(D:∀xs,u≠.tup xs):Bk H (AM H' b o):=λp xs e=>by
 have e:=t p xs e;have:p≠b:=λz=>by rw[z,h]at e;show D xs (By e)
 rw[AV this];show e
theorem ES{F G:α->D->Prop}(h:∀a b,F a b->G a b):∀{l:List α}{m:List D},BJ F l m->BJ G l m|_,_,.nil=>.nil|_,_,.cons a r=>.cons (h _ _ a) (ES h r)
theorem D7{α U:Type}{F:α->U->Prop}{l D:List α}{m J:List U}(h:BJ F l m)(s:BJ F D J):BJ F (l++D) (m++J):=by induction h with|nil=>show s|cons r _ V=>show .cons r V
theorem Pc:∀{l:List α}{m:List D}(n:Nat),BJ F l m->BJ F (l.take n) (m.take n)|_,_,0,_=>.nil|_,_,_+1,.nil=>.nil|_,_,n+1,.cons a r=>.cons a (Pc n r)
theorem N5:∀{l:List α}{m:List D}(n:Nat),BJ F l m->BJ F (l.drop n) (m.drop n)|_,_,0,h=>h|_,_,_+1,.nil=>.nil|_,_,n+1,.cons a r=>N5 n r
theorem CV.ab(h:CV H xs kss)(t:Bk H H'):CV H' xs kss:=ES (λx D⟨a,e,q⟩=>⟨a,e,t _ _ q⟩) h
theorem CV.gf(h:CV H xs kss):xs.length=kss.length:=(CJ h).1
theorem CV.at(h:CV H xs kss){i:Nat}(e:xs[i]?=AA x):∃a J,x=.ref a/\kss[i]?=AA J/\H a=AA (.tup (J.map Au)):=by have W:=(BU.mp e).1;have D:kss[i]?=AA (kss[i]'(by rw[<-h.gf];show W)):=Ck _;obtain⟨a,U,q⟩:_:=(CJ h).2 i _ _ e D;show⟨a,_,U,D,q⟩
theorem CV.zf(h:CV H xs kss)(e:H p=AA (.tup (D.map Au))):CV H (xs++[.ref p]) (kss++[D]):=D7 h (.cons ⟨p,rfl,e⟩ .nil)
theorem JN(H:AH):CV H [] []:=EU
def K7:AN->Jr|.inl i=>.int i|.inr x=>.str x
def JJ(D:List AN):Jr:=.tuple (D.map K7)
def Nz:AN->Bool|.inl _=>AK|.inr x=>SQ x
def Ji(D:List AN):Bool:=D.all Nz
theorem UZ{K:As}:∀D:List AN,JE K H (D.map Au) (D.map K7)|[]=>.nil|.inl i::r=>.cons (.int i) (UZ r)|.inr x::r=>.cons (.str x) (UZ r)
theorem CV.ael{K:As}(h:CV H xs kss):JE K H xs (kss.map JJ):=by induction h with|nil=>show .nil|cons h _ D=>obtain⟨a,rfl,q⟩:_:=h;show .cons (.tup (Ar q) (UZ _)) D
theorem ZS:∀J:List AN,Ji J=AK->Ie (J.map K7)=AK/\G4 (J.map K7)=0|[],_=>⟨rfl,rfl⟩|k::r,h=>by lk;obtain⟨D,U⟩:=Sh.mp h;obtain⟨a,b⟩:=ZS r U;k_in;cases k with|inl i=>simp[K7,Ie,LK,G4,LM,a,b]|inr x=>have D:SQ x=AK:=D;simp[K7,Ie,LK,G4,LM,a,b,D]
theorem ZT:∀kss:List (List AN),(∀D∈kss,Ji D=AK)->Ie (kss.map JJ)=AK/\G4 (kss.map JJ)<=1|[],_=>⟨rfl,by decide⟩|D::r,h=>by lk;obtain⟨a,b⟩:=ZT r λz J=>h z (Fp _ J);obtain⟨c,d⟩:=ZS D (h D Dr);k_in;show⟨by simp[JJ,Ie,LK,a,c],?_⟩;simp[JJ,G4,LM,d];simp_all
theorem Pk{kss:List (List AN)}(h:∀D∈kss,Ji D=AK):LN (.list (kss.map JJ))=AK:=by obtain⟨a,b⟩:=ZT _ h;simp[LN,LK,LM,a];show Ag b (by decide)
theorem CV.dv{K:As}(h:CV H xs kss)(e:H l=AA (.lst xs)):HG K H (.ref l) (.list (kss.map JJ)):=.lst (Ac e) h.ael
theorem CV.yp{K:As}(h:CV H xs kss)(W:sh≠[])(Y:∀Z∈kss,Z.map C0=sh):Nm K H xs kss:=by show .cT sh W (Gz h.gf λi a b J D=>?_);obtain⟨p,U,q⟩:_:=(CJ h).2 i a b J D;show⟨⟨p,U,Ar q⟩,Y b (Cm D)⟩
theorem CV.ack(h:CV H xs kss){qs:List (AE×List AN)}(p:qs.Perm (xs.zip kss)):CV H (qs.map (·.1)) (qs.map (·.2))/\(qs.map (·.2)).Perm kss:=by
 have z:=h.gf;constructor
 . show Gz (by rw[Aq,Aq]) λi a b J D=>?_;rw[Bt]at J D;lk;obtain⟨q,U,rfl⟩:=EA.mp J;rw[U]at D;cases D;obtain⟨j,Z⟩:=VP.mp (p.mem_iff.mp (Cm U));obtain⟨W,Y⟩:=L6.mp Z;k_in;show(CJ h).2 j _ _ W Y
 . have:=p.map (·.2);rwa[yR (Bi z.symm)]at this
def DP(kss:List (List AN)):Prop:=kss.Pairwise λa b=>Bg b a=AR
theorem VC:∀{a b:List (List AN)},a.Perm b->DP a->DP b->a=b
  |[],b,p,_,_=>by simp_all|x::a,[],p,_,_=>bU.mp p|x::a,y::b,p,Z,z=>by
    lk;obtain⟨U,V⟩:=Ho.mp Z;obtain⟨W,Y⟩:=Ho.mp z;k_in;have e:x=y:=by
      have D:y∈x::a:=(by grind);have J:x∈y::b:=(by grind);rcases CZ.mp D with e|D;.show e.symm
      . rcases CZ.mp J with e|J;.show e
        .show Rg (W x J) (U y D)
    subst e;rw[VC (by simp_all) V Y]
theorem Nq{K:As}(B:Nat->Ah->List AE->AH->Prop)(j:xs.length<=Az)(T:B 0 (FF M AG++L.map (F6 P)) [] H)(f:∀i Y J Z,B i Y J Z->CD K Z a xs)(k:∀(i:Nat)x Y J Z(I:AE->Ah->AH->Prop)(G:Ah->AH->Prop),xs[i]?=AA x->J.length<=i->B i Y J Z->(∀y W z,B (i+1) W (J++[y]) z->I y W z)->(∀W z,B (i+1) W J z->G W z)->g x Y Z λA z=>O A z λb F=>if b=AK then N A F λy R=>I y A R else G A F)(c:∀Y J Z,J.length<=xs.length->B xs.length Y J Z->∀D,Z D=AG->Q (.ref D) (AM Z D (.lst J))):Kt M L g O N P Q (Kw K a) H:=by
 show⟨λi m Y J E=>m=xs.length-i/\i<=xs.length/\J.length<=i/\B i Y J E,⟨xs.length,by simp,Bc _,Bc _,T⟩,?_⟩;intro i m Y J E X;obtain⟨rfl,d,C,p⟩:_:=X;have q:=f i Y _ E p;by_cases U:i<xs.length
 . show .inr ⟨⟨xs,xs[i],q,by simp[U]⟩,BY (FR C U) j,λx Z y=>?_⟩;obtain⟨e,y⟩:=y;subst e;have S:=y xs q;show k i x Y _ _ _ _ S C p (λy W z h=>⟨_,Hv _ _ U,rfl,U,by rw[Bx];show HQ.mpr C,h⟩) λW z h=>⟨_,Hv _ _ U,rfl,U,Jn C,h⟩
 . have e:=Ec d (FQ U);subst e;show .inl ⟨⟨xs,q,Aj _⟩,c Y _ E C p⟩
theorem IL{K:As}(z:Nat->Ah->List AE->AH->Prop)(T:xs.length<=Az)(P:z 0 (FF L AG++I.map (F6 M)) [] H)(S:∀i Z U W,z i Z U W->CD K W a xs)(X:∀(i:Nat)x Z U W(A:AE->Ah->AH->Prop),xs[i]?=AA x->U.length<=i->z i Z U W->(∀y E Y,z (i+1) E (U++[y]) Y->A y E Y)->g x Z W λJ Y=>C J Y λy B=>A y J B)(R:∀Z U W,U.length<=xs.length->z xs.length Z U W->∀D,W D=AG->Q (.ref D) (AM W D (.lst U))):Kt L I g OD C M Q (Kw K a) H:=by
 show Nq z T P S (λi x Z U W A G N O p c o=>?_) R;have e:(λ(J)(Y)=>OD J Y λb F=>if b=AK then C J F λy B=>A y J B else G J F)=λJ Y=>C J Y λy B=>A y J B:=by funext J Y;change(if AK=AK then C _ Y _ else G J Y)=_;rw[AE0 rfl]
 show X i x Z _ W A N O p c
section
variable{κ:Type}[DecidableEq κ]
set_option tactic.hygienic true in theorem N0{kvs:List (κ×AE)}{k:κ}{v:AE}{q:κ×AE}(h:q∈Bh kvs k v):q=(k,v)\/(q∈kvs/\q.1≠k):=by
  unfold Bh at h;split at h
  . obtain⟨p,J,e⟩:_:=Ay.mp h;by_cases z:p.1=k;.rw[AE0 z]at e;rw[<-e,z];show .inl rfl
    .rw[AEz z]at e;rw[<-e];show .inr ⟨J,z⟩
  . rename_i D;rcases Ce.mp h with h|h;.show .inr ⟨h,λz=>D (R3.mpr ⟨q,h,AE1 z⟩)⟩
    .show .inl (Bm.mp h)
end
theorem RZ[DecidableEq J](kvs:List (J×AE))(k:J)(v:AE):(Bh kvs k v).map (·.1)=if k∈kvs.map (·.1)then kvs.map (·.1)else kvs.map (·.1)++[k]:=by
  by_cases h:k∈kvs.map (·.1)
  . rw[AE0 h];obtain⟨p,D,e⟩:_:=Ay.mp h;unfold Bh;rw[AE0 (R3.mpr ⟨p,D,AE1 e⟩),Dh];show L7 λq O=>?_;change(if q.1=k then(q.1,v)else q).1=q.1;split<;>rfl
  . rw[AEz h];unfold Bh;rw[AEz (λq=>?_),CW];.rfl
    . obtain⟨p,D,e⟩:_:=R3.mp q;show h (Ay.mpr ⟨p,D,AE4 e⟩)
section
variable{κ:Type}[DecidableEq κ]
set_option tactic.hygienic true in theorem Mo{kvs:List (κ×AE)}{k:κ}{v:AE}(h:(kvs.map (·.1)).Nodup):((Bh kvs k v).map (·.1)).Nodup:=by
 rw[RZ];split;.show h
 . rename_i D;show Ze h D
end
theorem Rc[DecidableEq D](kvs:List (D×AE))(k:D)(v:AE):(Bh kvs k v).length<=kvs.length+1:=by
 have e:=AE2 My (RZ kvs k v);rw[Aq]at e;rw[e];split;.simp
 .simp
theorem GS{U:Type}[DecidableEq U]{kvs:List (U×AE)}{k:U}{v:AE}(h:BQ kvs k=AA v):(k,v)∈kvs:=by obtain⟨p,D,J⟩:_:=EA.mp h;have:=ABa D;have e:=AE4 this;rw[<-e,<-J];show List.mem_of_find?_eq_some D
theorem Mv{D:Type}[DecidableEq D]{kvs:List (D×AE)}{k:D}(h:k∈kvs.map (·.1)):∃v,BQ kvs k=AA v:=by cases e:BQ _ k with|some v=>show⟨v,rfl⟩|none=>show absurd h (Po e)
theorem PM:∀{l:List α}{n m:Nat},(∀(i:Nat)x,l[i]?=AA x->(p x=AK↔n<=i/\i<m))->(l.drop n).take (m-n)=l.filter p|[],n,m,_=>by simp|x::l,0,0,h=>by have D:=h 0 x rfl;have J:=PM (n:=0) (m:=0) λi y e=>(h (i+1) y (by simpa using e)).trans (by simp);rw[G1,AEz (λz=>by have:=D.mp z;show y3 this.1 this.2),<-J];rfl|x::l,0,m+1,h=>by have D:=h 0 x rfl;have J:=PM (n:=0) (m:=m) λi y e=>(h (i+1) y (by simpa using e)).trans (by simp);rw[G1,AE0 (D.mpr ⟨Aj _,cD _⟩),<-J];rfl|x::l,n+1,m,h=>by have D:=h 0 x rfl;have J:=PM (n:=n) (m:=m-1) λi y e=>(h (i+1) y (by simpa using e)).trans (by(constructor<;>lia));rw[G1,AEz (λz=>by have:=D.mp z;show y4 _ this.1),<-J];congr 1;lia
theorem Ub[DecidableEq W](f:α->W):∀(L:List α)(D:List W),D.Nodup->(∀x∈L,f x∈D)->(D.flatMap λk=>L.filter λx=>Ae (f x=k)).Perm L
  |[],D,_,_=>by
    have:(D.flatMap λk=>([]).filter λx=>Ae (f x=k))=[]:=by simp
    rw[this]|x::L,D,V,Z=>by
    have E:=Ub f L D V λy C=>Z y (Fp _ C);show Rz ?_ (E.cons x);have Y:∀D:List W,D.Nodup->(D.flatMap λk=>(x::L).filter λx=>Ae (f x=k)).Perm (if f x∈D then x::(D.flatMap λk=>L.filter λx=>Ae (f x=k))else D.flatMap λk=>L.filter λx=>Ae (f x=k)):=by intro D;induction D with |nil=>simp|cons k D J=>
        intro V;obtain⟨A,B⟩:=JP.mp V;have J:=J B;rw[Ep];by_cases e:f x=k
        . have U:=λz=>A (e▸z);rw[AEz U]at J;rw[AE0 (by rw[e];show Dr),G1,AE0 (by simpa using e)];show(J.append_left _).cons x
        . rw[G1,AEz (by simpa using e)];by_cases z:f x∈D;. rw[AE0 z]at J;rw[AE0 (Fp _ z)];show(J.append_left _).trans ABs
          . rw[AEz z]at J;rw[AEz (λq=>by rcases CZ.mp q with q|q;show e q;show z q)];show J.append_left _
    have:=Y D V;rwa[AE0 (Z x Dr)]at this
theorem Zx{f g:α->List J}:∀{l:List α},(∀x∈l,(f x).Perm (g x))->(l.flatMap f).Perm (l.flatMap g)|[],_=>by simp|x::l,h=>by show(h x Dr).append (Zx λy D=>h y (Fp _ D))
theorem vG{α V:Type}{f:α->List V}{l m:List α}(p:l.Perm m):(l.flatMap f).Perm (m.flatMap f):=by induction p with|nil=>simp|cons x _ U=>show U.append_left _|swap x y l=>rw[Ep,Ep,Ep,Ep,<-FN,<-FN];show Pw.append_right _|trans _ _ D J=>show D.trans J
def BM(d:AB)(H H':AH):Prop:=∀b o,b≠d->H b=AA o->H' b=AA o
theorem An.x(s:An H H')(d:AB):BM d H H':=λb o O e=>s b o e
theorem BM.aa(a:BM d H D)(b:BM d D J):BM d H J:=λc o n e=>b c o n (a c o n e)
theorem BM.gy(a:BM d H H'):BM d H (AM H' d o):=λc u n e=>by rw[AV n];show a c u n e
theorem BM.tp(a:BM d H H')(h:H d=AA u)(D:∀xs,u≠.tup xs):Bk H H':=λp xs e=>a p _ (λz=>by rw[z,h]at e;show D xs (By e)) e
theorem DY.aak(x:DY P w H h)(V:H a=AG)(J:DZ P w (AM H a o) h a o):DY P w (AM H a o) h:=λb u e=>by
 by_cases D:b=a;.subst D;rw[AY]at e;simp_all
 . rw[AV D]at e;show(x b u e).xj (λW u2 u3 U=>U) (λc q=>by rw[AV (by grind)];show q) λc Y q=>by rw[AV (by grind)];show q
theorem AAh{prog:Co}{w:CC}{K:Type}[DecidableEq K]{knd:KeyKind prog w K}{A:DV}{E:AL->AZ->Prop}{s:AZ}{d:AB}{kvs:List (K×AL)}{k:K}{key D:AL}{Q:AL->AZ->Prop}(J:knd.is k key=AK)(f:s.heap.DictOf knd d kvs)(W:∀v,Gp kvs k=AA v->Q v {s with toks:=s.toks+1})(F:Gp kvs k=AG->∀M,M.DictOf knd d (QN kvs k D)->QA d s.heap M->Q D {s with heap:=M,toks:=s.toks+1})(h:kvs.length<=Az):A1 (Ao prog w) A (ADY d key D) Q E s:=by
 obtain⟨o,U,n,I,X,z,S,L,g⟩:_:=f;have R:∀x,findBy knd.is U x=Gp _ x:=λx=>by rw[<-L.find x];simp[findBy]
 have c:U.size<=Az:=by
  have j:=L.length;have m:U.toList.length=U.size:=by simp
  omega
 unfold ADY;try with_reducible show SX ?_
 show BI (knd.pyHash J ?_);show BI (wpAny_dictFind_of J I z S ?_);have C:(U.findIdx? λe=>knd.is k e.key)=kvs.findIdx? λG=>Ae (G.1=k):=by rw[<-L.findIdx k];obtain⟨l⟩:=U;simp
 cases H:U.findIdx? _ with
 |some i=>
  have V:Gp kvs k=(U[i]?).map (·.val):=by rw[<-R k,ADZ,H]
  show BI (wpAny_dictEntries I z ?_);cases B:U[i]? with |none=> have:=Array.findIdx?_eq_some_iff_findIdx_eq.mp H;have O:=this.1;rw[Array.getElem?_eq_getElem O]at B;show nomatch B|some e=>rw[B]at V;show BI (NG (Cq (W _ V)))
 |none=>
  have V:Gp kvs k=AG:=by rw[<-R k,ADZ,H]
  have Z:=not_mem_of_findIdx_none (C▸H);have Y:¬(kvs.any λG=>Ae (G.1=k))=AK:=by rw[R3];rintro⟨G,N,B⟩;show Z (Ay.mpr ⟨G,N,AE4 B⟩)
  show BI (NG (BI (wpAny_updateDictKeys I z (Cq (F V _ ⟨_,_,_,Heap.get?_update_self _ I (Obj.isFreed_of_dict (ACx z _)),X.mapDictKeys _,ACx z _,S.push J _,?_,?_⟩ (Vl ..))))))
  . rw[QN,AEz Y];have:=L.append J (knd.hash k) D;simpa using this
  . rw[QN,AEz Y,CW,VR];show⟨g,by simp,?_⟩;intro a T b P;simp at P;subst P;showλe=>Z (e▸T)
theorem AAg{prog:Co}{w:CC}{K:Type}[DecidableEq K]{knd:KeyKind prog w K}{d:AB}{k:K}{key:AL}(U:knd.is k key=AK)(C:(d==KZ)=AR)(D:AL):MeetsIn prog w (Builtin.«dict.setdefault» ⟨[.ref d,key,D],[]⟩) (λO R s=>∃kvs,s.heap.DictOf knd d kvs/\kvs.length<=Az/\(∀v,Gp kvs k=AA v->R (.ok (.ret v)) {s with toks:=s.toks+1})/\(Gp kvs k=AG->∀J,J.DictOf knd d (QN kvs k D)->QA d s.heap J->R (.ok (.ret D)) {s with heap:=J,toks:=s.toks+1})):=.of_wp λA R s⟨kvs,Z,Y,z,B⟩=>by show BI ?_;show BI (wpAny_notOrdered_dict Z.typeIs ?_);show Cq ?_;simp only[C,LS,AE5];show BI (AAh U Z (λv F=>Cq ⟨v,rfl,z v F⟩) (λE J V W=>Cq ⟨_,rfl,B E J V W⟩) Y)
def xC(Y A Z:Av):Av:=λU H Q=>Y U H λx V=>JF (λa=>x=.ref a) (λa=>Lg V a) (λa=>A U V λy W=>Z U W λz J=>RO (λD k=>J a=AA (.dK D)) (λO k=>y=Au k) (λD O=>D.length<Az) (λD k=>(∀v,BQ D k=AA v->Q v J)) (λD k=>(BQ D k=AG->Q z (AM J a (.dK (Bh D k z))))))
theorem vB(p:Al X o td)(C:Al X e ty)(j:Al X f tx)(m:UK X o "setdefault" W e f Y):Al X (.Call (.Attribute o "setdefault" W) [e,f] [] Y) (xC td ty tx):=by
  intro U s G H Q I h;show SW m.af m.ade m.aap SO ACk F.type_dict_setdefault (Ax (p U s G H _ I h) λu s1⟨x,P,K,rx,a,b,d,w⟩=>?_);subst b;lk;obtain rfl:u=Ds a:=rx;obtain⟨t1,t2,_⟩:=RY K d;k_in;show⟨t1,t2,?_⟩;rw[m.yq];show SN rfl (Vk (LJ (Ax (C U s1 G P _ K w) λiv s2⟨y,R,T,ry,q2⟩=>LJ (Ax (j U s2 G R _ T q2) λg s3⟨z,S,B,O,J,k,M,c,hl,q3,q4⟩=>OO ?_))));subst c;obtain⟨zz,N,A,V,L⟩:_:=Jf B.cq M;show Vn ACk L.typeIs F.entry_dict_setdefault (F.args_dict_setdefault_3 _ _ _) (AAg (knd:=Eo X.ai X.w) (K8 ry) N g) ⟨A,L,by rw[<-V.aq];show zz,λw' hw=>?_,λn i Z t=>?_⟩;.cases l:BQ J k with|none=>have:=UO (o:=Gp A k) (by rw[<-l];show V.zw k);rw[hw]at this;cases this|some v=> lk;obtain⟨w2,D,F⟩:=Nk (v:=v) (o:=Gp A k) (by rw[<-l];show V.zw k);rw[hw]at D;cases D;k_in;show⟨v,S,B.ig _,F,q3 v l⟩
  . have l:BQ J k=AG:=by cases l:BQ J k with|none=>rfl|some v=> obtain⟨w2,D,_⟩:=Nk (v:=v) (o:=Gp A k) (by rw[<-l];show V.zw k);rw[n]at D;cases D
    have C:∃q,i.get? a=AA q:=let⟨q,_,_,r,_⟩:=Z;⟨q,r⟩;have E:(Bh J k z).length<=Az:=by have:=Rf J k z;omega
    show⟨z,_,PN B (by rw[M];show HS) t C (RT E N (V.ie k O) Z),O,q4 l⟩
theorem rT{lo:Int}(z:Nat->Ah->List AE->AH->Prop)(c:n<=Az)(S:z 0 (FF N AG++M.map (F6 O)) [] H)(d:∀(i:Nat)A J B(L:AE->Ah->AH->Prop),i<n->J.length<=i->z i A J B->(∀y C Y,z (i+1) C (J++[y]) Y->L y C Y)->g (.int (lo+i)) A B λU Y=>F U Y λy E=>L y U E)(X:∀A J B,J.length<=n->z n A J B->∀D,B D=AG->Q (.ref D) (AM B D (.lst J))):Kt N M g OD F O Q (Lh lo n) H:=by
  show⟨λi m A J I=>m=n-i/\i<=n/\J.length<=i/\z i A J I,⟨n,by simp,Bc _,Bc _,S⟩,?_⟩;intro i m A J I T;obtain⟨rfl,a,G,p⟩:_:=T;by_cases W:i<n
  . show .inr ⟨W,BY (FR G W) c,λx B y=>?_⟩;obtain⟨P,R⟩:=y;subst P R;have e:(λ(U)(Y)=>OD U Y λb K=>if b=AK then F U K λy E=>∃Z,Z<n-i/\Z=n-(i+1)/\i+1<=n/\(J++[y]).length<=i+1/\z (i+1) U (J++[y]) E else∃Z,Z<n-i/\Z=n-(i+1)/\i+1<=n/\J.length<=i+1/\z (i+1) U J K)=λU Y=>F U Y λy E=>∃Z,Z<n-i/\Z=n-(i+1)/\i+1<=n/\(J++[y]).length<=i+1/\z (i+1) U (J++[y]) E:=by funext U Y;change(if AK=AK then(F _ Y _)else∃Z,Z<n-i/\Z=n-(i+1)/\i+1<=n/\J.length<=i+1/\z (i+1) U J Y)=_;rw[AE0 rfl]
    show d i A _ _ _ W G p (λy C Y h=>⟨_,Hv _ _ W,rfl,W,by rw[Bx];show HQ.mpr G,h⟩)
  . have e:=Ec a (FQ W);subst e;show .inl ⟨Aj _,X A _ I G p⟩
theorem uT(r:Bb ys its)(E:KJ h kvs kss)(S:its.length=kvs.length)(p:out.Perm (kvs.toArray.zip its.toArray))(u:Dk (O:=Hm) (Hl h) out 0 out.size):∃qs:List (AE×List AN),qs.Perm (ys.zip kss)/\Bb (qs.map (·.1)) (out.map (·.2)).toList/\(qs.map (·.2)).Pairwise (λa b=>Bg b a=AR):=by
  have N:out.toList.Perm (kvs.zip its):=by have:=Sg.mp p;simp_all
  have F:(out.map (·.2)).toList=out.toList.map (·.2):=AAx;have T:=r.aq;have A:=E.gf;have M:BJ (λ(q)(v:BB)=>Be q.1 v.2/\Hl h v.1=q.2) (ys.zip kss) (kvs.zip its):=by show Gz (by(simp[*])) λi a b Y D=>?_;obtain⟨G,H⟩:=L6.mp Y;obtain⟨I,K⟩:=L6.mp D;obtain⟨v,Z,L⟩:=r.xc G;rw[K]at Z;cases Z;show⟨L,E.kf i b.1 a.2 I H⟩
  lk;obtain⟨qs,P,Q⟩:=Pb N M;obtain⟨C,R⟩:=CJ Q;k_in;show⟨qs,P,?_,?_⟩
  . rw[F];show Gz (by(simpa using C)) λi a b Y D=>?_;grind
  . rw[Gn];intro i j z U J;rw[Aq]at z U;have B:∀k(A:k<qs.length),(qs[k]).2=BV (O:=Hm) (Hl h) out k:=λk A=>by
      have W:k<out.size:=by simp_all
      rw[D5 W];have D:out.toList[k]?=AA out[k]:=by simp_all
      grind
    have:=u i j (Bc _) (B8 J) (BY U (Bi C));rw[<-B i z,<-B j U]at this;rw[bN,bN];show this
theorem Zo{kvs its:List AL}(h:v∈(kvs.toArray.zip its.toArray).toList):v.1∈kvs:=by rw[Array.toList_zip]at h;show(bS h).1
theorem qV{K:As}(s:An H H')(h:Cs K H a xs):Cs K H' a xs:=h.imp (λh=>h.imp (s _ _) λ⟨o,h⟩=>⟨o,s _ _ h⟩) id
def UJ(K:As)(H:AH)(J:List AL)(kss:List (List AN)):Prop:=J.length=kss.length/\∀(i:Nat)u D,J[i]?=AA u->kss[i]?=AA D->∃q,u=.ref q/\Cs K H q (D.map Au)
theorem UJ.yp(I:Aa X U G H s)(h:UJ X.K H V kss)(Z:sh≠[])(z:∀D∈kss,D.map C0=sh):KJ s.heap V kss:=by show .cT sh h.1 Z λi u D W J=>⟨?_,(z _ (Cm J))⟩;lk;obtain⟨q,rfl,Y⟩:=h.2 i u D W J;obtain⟨B,C,A,_⟩:=I.ir Y;obtain⟨o,e,c,n,d⟩:=A;obtain⟨E,F⟩:=Mn C;k_in;show⟨q,o,_,n,rfl,e,c,d,by assumption,(by assumption)⟩
theorem Aa.yt(I:Aa X (U::D) V H s):Aa X D V H s:=I.jt λp J=>I.vz p (FE _ (Gm J))
theorem Aa.wy(I:Aa X (D::J) U H s):s.heap.get? D.1=AA D.2/\H D.1=AG/\D.1≠X.ae.locals/\D.1∉X.fs:=by have:=I.vz D List.mem_append_cons_self;(simp[*])
theorem Aa.aax(I:Aa X ((b,o)::D) z H s)(V:(b∈X.ex\/X.s₀.heap.objs.size<=b)/\(∀x c,X.ae.cells.lookup x=AA c->c≠b)/\∀p∈X.pn++D,p.1≠b)(C:QA b s.heap U)(G:U.get? b=AA Y)(Z:∀v,Y.data≠.cell v):Aa X ((b,Y)::D) z H {s with heap:=U,toks:=t'}:=by
 obtain⟨E,A,B,F⟩:_:=I.wy;have J:Aa X _ z H {s with heap:=U,toks:=t'}:=I.yt.fo (λc u Z e=>(C.2 c Z).trans e) A B V.1 V.2.1 V.2.2;show J.jt λp W=>?_;rcases CZ.mp W with rfl|W;. (simp[*])
 .show J.vz p (FE _ W)
theorem VL:∀{l:List AL},x∈l->(x,x)∈l.zip l
 |y::r,h=>by
  rcases CZ.mp h with rfl|h;. (constructor<;>lia)
  .show Fp _ (VL h)
abbrev O9(X:Bp)(D:List (AB×BR))(b:AB):Prop:=(b∈X.ex\/X.s₀.heap.objs.size<=b)/\(∀x c,X.ae.cells.lookup x=AA c->c≠b)/\∀p∈X.pn++D,p.1≠b
theorem wO{st:Cn}(R:Bb ys its)(k:its.length<=Az)(f:sh≠[])(i:∀l∈kss,l.map C0=sh)(u:ys.length=kss.length)(I:Aa X ((J,Cf "list" U e)::(a,Cf "list" #[] Y)::D) S H s)(K:J≠a)(F:O9 X ((a,Cf "list" #[] Y)::D) J)(C:O9 X D a)(N:UJ X.K H U.toList kss)(M:(Ak st).Perm (U.zip its.toArray))(j:Dk (O:=Hm) (Hl s.heap) (Ak st) 0 (Ak st).size)(g:M9 st=AG)(h:∀s' out c(qs:List (AE×List AN)),Aa X D S H s'->s'.heap.get? a=AA (Cf "list" out c)->out.size<=Az->qs.Perm (ys.zip kss)->Bb (qs.map (·.1)) out.toList->(qs.map (·.2)).Pairwise (λa b=>Bg b a=AR)->P (.done (.ret .none)) s'):A1 (Ao X.ai X.w) X.A.in1.in1 (zI a AR Y (.ref J) st) P E s:=by
 have Q:=I.wy.1;have n:=I.yt.wy.1;have r:=N.yp I f i;have t:U.size=kss.length:=by have:=N.1;rwa[MI]at this
 have w:=R.aq;lk;obtain⟨qs,o,p,q⟩:=uT (kvs:=U.toList) R r (by simp_all) (by rw[eM];show M) j;have L:(Ak st).size=its.length:=by
  have m:(U.zip its.toArray).size=D3 U.size its.length:=by simp[Array.size_zip]
  rw[M.size_eq,m];simp_all
 have s1:=Vl s.heap J (Ei λ_=>(#[]:Array AL));obtain⟨A,G⟩:∃A,(s.heap.update J (Ei λ_=>(#[]:Array AL))).get? J=AA (Cf "list" #[] A):=⟨_,Vh Q λ_=>#[]⟩;k_in;have W:(s.heap.update J (Ei λ_=>(#[]:Array AL))).get? a=AA (Cf "list" #[] Y):=(s1.2 a K.symm).trans n;have T:Aa X ((J,Cf "list" #[] A)::(a,Cf "list" #[] Y)::D) S H {s with heap:=s.heap.update J (Ei λ_=>(#[]:Array AL)),toks:=s.toks}:=I.aax F s1 G λv z=>by cases z
 unfold zI;try dsimp only
 show BI (P7 Q rfl ?_ (by simp_all) (Bc _));show BI (wpAny_letGo ?_);show BI (Vj W rfl ?_);simp only[LS,AE5];have s2:=Vl (s.heap.update J (Ei λ_=>(#[]:Array AL))) a (Ei λ_=>(Ak st).map (·.2));lk;obtain⟨B,Z⟩:∃B,((s.heap.update J (Ei λ_=>(#[]:Array AL))).update a (Ei λ_=>(Ak st).map (·.2))).get? a=AA (Cf "list" ((Ak st).map (·.2)) B):=⟨_,Vh W λ_=>(Ak st).map (·.2)⟩;k_in;have d:=T.yt.aax (t':=s.toks) C s2 Z λv z=>by cases z
 show BI (P7 W rfl ?_ (Bc _) (Ag (Bi (eL ..)) (by(constructor<;>lia))));rw[g];simp only[AFF,LS,AE5];show Cq (h _ _ B qs d.yt Z (by rw[eL];show Ag (Bi L) k) o p q)
theorem wN{K:Nat}(F:Hg X.ai X.w X.K X.mg X.af BC k f fd ps sp)(hb:Le X.K fd ps [])(hr:D6 (k+2) X.A)(rv:Bb ys its)(hl:ys.length=kss.length)(hz:its.length<=Az)(h0:sh≠[])(hs:∀M∈kss,M.map C0=sh)(I:Aa X ((Y,Cf "list" #[] 0)::(a,Cf "list" #[] K)::U) σ H s)(hka:Y≠a)(T:O9 X ((a,Cf "list" #[] K)::U) Y)(fpa:O9 X U a)(turn:∀(i:Nat)y M J,ys[i]?=AA y->kss[i]?=AA M->An H J->sp [y] J (λv r=>An J r/\∃q,v=.ref q/\Cs X.K r q (M.map Au)) Mf)(h:∀J s' out c(qs:List (AE×List AN)),An H J->Aa X U σ J s'->s'.heap.get? a=AA (Cf "list" out c)->J a=AG->out.size<=Az->qs.Perm (ys.zip kss)->Bb (qs.map (·.1)) out.toList->(qs.map (·.2)).Pairwise (λa b=>Bg b a=AR)->P (.done (.ret .none)) s'):A1 (Ao X.ai X.w) X.A.in1.in1 (ksk_rest a (.ref f) AR its.toArray K (.ref Y)) P E s:=by
  have hy:=rv.aq;unfold ksk_rest;show BI (NG ?_);first |rw[List.forIn_toArray]|(rw[<-Array.forIn_toList];simp only[List.toList_toArray])|rw[<-Array.forIn_toList]
  show BI (ksk_fold (λi s'=>∃J D e,An H J/\Aa X ((Y,Cf "list" D e)::(a,Cf "list" #[] K)::U) σ J s'/\UJ X.K J D.toList (kss.take i)) its 0 s ⟨H,#[],0,CQ _,I,rfl,λi u M K=>by simp at K⟩ ?ku ?vx);case ku=>
    intro j x s' hx hI;obtain⟨J,D,e,sm,Z,G⟩:_:=hI;simp only[AB7]at G⊢;have hj:j<its.length:=(by grind);have d:j<ys.length:=BY hj (Bi hy.symm);have hjk:j<kss.length:=by simp_all
    lk;obtain⟨u0,g,ry⟩:=rv.xc (Ck d);rw[hx]at g;cases g;k_in;have S:kss[j]?=AA kss[j]:=Ck hjk;have n:=turn j ys[j] kss[j] J (Ck d) S sm;have lk:=G.1;rw[MI,Er]at lk;have hl1:([x]:List AL).length=ps.length:=F.gf _ _ _ _ n;show BI (ADk (AAc (SV (F.aef X.A.in1.in1 X.ft s' J ⟨[x],[]⟩ [x] [ys[j]] _ Mf hr.adi.adi Z.aca.adi.adi (by have:=hb s' [x] Z.sj (by simpa using hl1);simpa using this) (.cons ry .nil) n) λrr s2 N=>?_)));cases rr with|error ev=>show N.elim|ok fl=>cases fl with |next=>show HU N|brk=>show HU N|cont=>show HU N|ret u=>
        lk;obtain⟨v,r,I2,rv2,l,q,rfl,eq⟩:=Z.aal N;cases(show u=Ds q from rv2);have t:=I2.wy.1;have s1:=Vl s2.heap Y (Ei (·.push (.ref q)));obtain⟨c2,hc2⟩:∃c2,(s2.heap.update Y (Ei (·.push (.ref q)))).get? Y=AA (Cf "list" (D.push (.ref q)) c2):=⟨_,Vh t (·.push (.ref q))⟩;k_in;try dsimp only
        show BI (P7 t rfl ?_ (by lia) (by grind));show Cq ⟨rfl,r,D.push (.ref q),c2,sm.aa l,(I2.aax (t':=s2.toks) T s1 hc2 (λv z=>by cases z)),?_,λi u M g1 g2=>?_⟩;.grind
        . rw[AAy]at g1;rw[D2,S]at g2;by_cases hi:i<D.toList.length;. rw[OG hi]at g1;rw[OG (by simp_all)]at g2;obtain⟨q',w1,w2⟩:_:=G.2 i u M g1 g2;show⟨q',w1,qV l w2⟩
          grind
  case vx=>
    intro s' hI;obtain⟨J,D,e,sm,Z,G⟩:_:=hI;rw[EH (by simp_all)]at G;have t:=Z.wy.1;have na0:=Z.yt.wy.2.1;try dsimp only
    show BI (zJ t rfl ?_);have hk:D.size=its.length:=by have:=G.1;simp_all
    have hzs:(D.zip its.toArray).size=its.length:=by(simp[*])
    have fin:∀R:Cn,(Ak R).Perm (D.zip its.toArray)->Dk (O:=Hm) (Hl s'.heap) (Ak R) 0 (Ak R).size->M9 R=AG->A1 (Ao X.ai X.w) X.A.in1.in1 (zI a AR K (.ref Y) R) P E s':=λR p u fl=>wO rv hz h0 hs hl Z hka T fpa G p u fl (by grind);unfold ksk_end;try dsimp only
    simp only[LS,AE5];by_cases L:its.toArray.size<2
    . rw[AE0 L,AE0 L];show BI (Cq ?_);rw[ADu];show BI (Cq ?_);try dsimp only
      show fin _ (Vt _) (λi j _ q1 q2=>?_) rfl;rw[hzs]at q2;rw[IZ]at L;obtain rfl:i=j:=by lia
      show M8 _
    . rw[AEz L,AEz L];rw[IZ]at L;have sv:=G.yp Z h0 hs;obtain⟨κ,kk,C⟩:_:=sv.acx (prog:=X.ai) (w:=X.w) (A:=X.A.in1.in1) (s:=s') (by rw[MI];show Ag (FQ L) (Bi hk.symm)) λa o items m _ e _ _=>e;rw[eM]at kk;have C':F9 X.ai X.w X.A.in1.in1 s' κ Hm (Hl s'.heap) (D.zip its.toArray):=⟨λp hp q N Q E z=>by have m1:p.1∈D.toList:=Zo (kvs:=D.toList) (its:=its) (by assumption);have m2:q.1∈D.toList:=Zo (kvs:=D.toList) (its:=its) (by assumption);show C.afe (p.1,p.1) (by rw[Vi];show VL m1) (q.1,q.1) (by rw[Vi];show VL m2) Q E z⟩;show BI (kk _ _ ?_);show BI (IA (eB C' (Q:=λ_ W=>Cr κ (D.zip its.toArray) W/\Dk (O:=Hm) (Hl s'.heap) (Ak W) 0 (D.zip its.toArray).size) ⟨Vt _,rfl,rfl⟩ rfl λW B u=>⟨B,u⟩) ?_ λ_ _ e=>e);rintro⟨⟨⟩,W⟩s2⟨rfl,B,u⟩;try dsimp only
      show fin W B.ow (by rw[B.ow.size_eq];show u) B.oj
theorem Aa.aak(I:Aa X D O H s)(f:Je X D H a)(P:X.s₀.heap.get? a=AG)(U:DZ X.ai X.w (AM H a o) s.heap a o):Aa X D O (AM H a o) s:=by
 obtain⟨G,E,_,_,F,K⟩:_:=f;have J:∀b o,H b=AA o->b≠a:=(by grind);show⟨I.ok,I.os,I.mf,⟨I.af.ab,I.af.wc,λb o C n L=>?_,I.af.ma,λb N z=>?_,λb o u z=>?_,λb M z=>?_⟩,I.yw,I.qm,?_,λx c z=>?_,λp q=>?_,I.cq.aak G U,I.gf⟩;. have q:b≠a:=(by grind);rw[AV q];show I.af.bc b o C n L
 .have:=I.af.xq b N z;rw[AV (J _ _ this)];assumption
 .have:=I.af.vo b o u z;rw[AV (J _ _ this)];assumption
 .obtain⟨V,q⟩:=I.af.xp b M z;show⟨_,by rw[AV (J _ _ q)];show q⟩
 .rw[AV E.symm];show I.bc
 .rw[AV (F x c z)];show I.kh x c z
 . obtain⟨W,Y,Z,A,B⟩:_:=I.vz p q;show⟨W,by rw[AV (K p q)];show Y,Z,A,B⟩
def Yg(K:As)(sp:BF)(H:AH)(ys:List AE)(kss:List (List AN)):Prop:=ys.length=kss.length/\(∃W:List Bool,W≠[]/\∀D∈kss,D.map C0=W)/\∀(i:Nat)y D J,ys[i]?=AA y->kss[i]?=AA D->An H J->sp [y] J (λv U=>An J U/\∃q,v=.ref q/\Cs K U q (D.map Au)) Mf
theorem wQ(F:Hg X.ai X.w X.K X.mg X.af BC k f fd ps sp)(hb:Le X.K fd ps [])(hr:D6 (k+2) X.A)(I:Aa X U n H s)(hq:CD X.K H p ys)(kb:Yg X.K sp H ys kss)(q:∀l(qs:List (AE×List AN))K,An H K->K l=AG->qs.Perm (ys.zip kss)->(qs.map (·.2)).Pairwise (λa b=>Bg b a=AR)->Q (.ref l) (AM K l (.lst (qs.map (·.1))))):A1 (Ao X.ai X.w) X.A (Ig (.builtin "sorted") [.ref p] [(Str.ofString "key",.ref f)]) (Fh X U n Q) E s:=by
  lk;obtain⟨hl,⟨sh,h0,hs⟩,turn⟩:=kb;obtain⟨D,w,pl,R⟩:=I.bz hq;k_in;have W:=w.aq;have d:=pl.isList;show call_function_entry_kw kind_sorted plain_sorted entry_sorted (ksk_s1 _ _) ?_;unfold Builtin.«sorted»;show BI (m:=checkCount "sorted" 1 1 _) (Cq ?_);show BI (collect_list d ?_ (Ag (Bi W.symm) R));show BI (dU ?_ (Ag (Bi W.symm) R));have C:((s.heap.push (Cf "list" #[] 0)).update s.heap.objs.size (Ei (.++D.toArray))).objs.size=s.heap.objs.size+1:=by simp_all
  have B:(((s.heap.push (Cf "list" #[] 0)).update s.heap.objs.size (Ei (.++D.toArray))).push (Cf "list" D.toArray 0)).get? (s.heap.objs.size+1)=AA (Cf "list" D.toArray 0):=by rw[<-C];show F7 _ rfl
  have t:∀b o,s.heap.get? b=AA o->(((s.heap.push (Cf "list" #[] 0)).update s.heap.objs.size (Ei (.++D.toArray))).push (Cf "list" D.toArray 0)).get? b=AA o:=λb o e=>C1 _ ((zT _ _ _ _ (ET (Ct e))).trans (C1 _ e));rw[C];show BI (SX (wpAny_call_entry_kw ACR ⟨_,B,rfl⟩ ACF ?body (ksk_l1 _ _)));case body=>
    have i:=ksk_t1 f (s.heap.objs.size+1);rw[i];generalize hg:(((s.heap.push (Cf "list" #[] 0)).update s.heap.objs.size (Ei (.++D.toArray))).push (Cf "list" D.toArray 0))=g at B t⊢;have T:g.objs.size=s.heap.objs.size+2:=by rw[<-hg,size_push',C]
    have s1:=Vl g (s.heap.objs.size+1) (Ei λ_=>(#[]:Array AL));lk;obtain⟨L,P⟩:∃L,(g.update (s.heap.objs.size+1) (Ei λ_=>(#[]:Array AL))).get? (s.heap.objs.size+1)=AA (Cf "list" #[] L):=⟨_,Vh B λ_=>#[]⟩;k_in;have N:((g.update (s.heap.objs.size+1) (Ei λ_=>(#[]:Array AL))).push (Cf "tuple" D.toArray 0)).objs.size=s.heap.objs.size+3:=by simpa using T
    have j:∀b o,s.heap.get? b=AA o->(((g.update (s.heap.objs.size+1) (Ei λ_=>(#[]:Array AL))).push (Cf "tuple" D.toArray 0)).push (Cf "list" #[] 0)).get? b=AA o:=λb o e=>C1 _ (C1 _ ((s1.2 b (ET (b3 (Ct e)))).trans (t b o e)));have A:Je X U H (s.heap.objs.size+1):=I.uw (P0 _) (I.cq.cj (P0 _));have Y:Je X U H (s.heap.objs.size+3):=I.uw (Pz _ 3) (I.cq.cj (Pz _ 3));have r:Aa X U n H {s with heap:=((g.update (s.heap.objs.size+1) (Ei λ_=>(#[]:Array AL))).push (Cf "tuple" D.toArray 0)).push (Cf "list" #[] 0),toks:=s.toks}:=I.iq j;have gA:(((g.update (s.heap.objs.size+1) (Ei λ_=>(#[]:Array AL))).push (Cf "tuple" D.toArray 0)).push (Cf "list" #[] 0)).get? (s.heap.objs.size+1)=AA (Cf "list" #[] L):=C1 _ (C1 _ P);have gK:(((g.update (s.heap.objs.size+1) (Ei λ_=>(#[]:Array AL))).push (Cf "tuple" D.toArray 0)).push (Cf "list" #[] 0)).get? (s.heap.objs.size+3)=AA (Cf "list" #[] 0):=by rw[<-N];show F7 _ rfl
    have J:Aa X ((s.heap.objs.size+3,Cf "list" #[] 0)::(s.heap.objs.size+1,Cf "list" #[] L)::U) n H {s with heap:=((g.update (s.heap.objs.size+1) (Ei λ_=>(#[]:Array AL))).push (Cf "tuple" D.toArray 0)).push (Cf "list" #[] 0),toks:=s.toks}:=by
      show r.jt λx Z=>?_;rcases CZ.mp Z with rfl|Z;.show⟨gK,Y.1,Y.2.1,Y.2.2.1,λv z=>by cases z⟩
      . rcases CZ.mp Z with rfl|Z;.show⟨gA,A.1,A.2.1,A.2.2.1,λv z=>by cases z⟩
        .show r.vz x (FE _ Z)
    unfold ksk_tree;show BI (zJ B rfl ?_);show BI (P7 B rfl ?_ (Ag (Bi W.symm) R) (Bc _));show BI (Vj P rfl ?_);show BI (ADp ?_ (Ag (Bi W.symm) R));show BI (dU ?_ (Bc _));show SX ?_;have O:(s.heap.objs.size+3:AB)≠s.heap.objs.size+1:=(by simp);have S:O9 X ((s.heap.objs.size+1,Cf "list" #[] L)::U) (s.heap.objs.size+3):=⟨Y.2.2.2.1,Y.2.2.2.2.1,λx Z=>by
      rcases Ce.mp Z with Z|Z;.show Y.2.2.2.2.2 x (Hn _ Z)
      . rcases CZ.mp Z with rfl|Z;.show O.symm
        .show Y.2.2.2.2.2 x (FE _ Z)⟩;rw[N];show wN F hb hr w hl (Ag (Bi W.symm) R) h0 hs J O S A.2.2.2 turn λK s' G c qs sm J' g1 u z1 w1 y w3=>⟨_,rfl,Cq ⟨_,rfl,?_⟩⟩;have M:Je X U K (s.heap.objs.size+1):=⟨u,A.2⟩;have h:X.s₀.heap.get? (s.heap.objs.size+1)=AG:=ACu (Ag I.sz (P0 _));show⟨.ref (s.heap.objs.size+1),_,J'.aak (o:=.lst (qs.map (·.1))) M h ⟨?_,G.toList,c,y,by assumption⟩,rfl,q _ qs K sm u w1 w3⟩;have l0:G.toList.length=G.size:=MI;have l1:=y.aq;show AFE l1 z1
def xQ(K:As)(sp:BF)(t:Av):Av:=λZ H Q=>t Z H λv U=>PL (λ(a:AB)(J:List AE)(D:List (List AN))=>v=.ref a) (λa J O=>CD K U a J) (λO J D=>Yg K sp U J D) (λa J D=>∀l(Y:List (AE×List AN))W,An U W->W l=AG->Y.Perm (J.zip D)->(Y.map (·.2)).Pairwise (λa b=>Bg b a=AR)->Q (.ref l) (AM W l (.lst (Y.map (·.1)))))
def Nb(o:BR)(kvs:List (AN×AE))(d:AB):GL:=⟨λi H=>H d=AA (.frz o (.dK kvs))/\i<kvs.length,λi H x D=>D=H/\∃p,kvs[i]?=AA p/\x=Au p.1,λi H=>H d=AA (.frz o (.dK kvs))/\kvs.length<=i⟩
theorem Nw(E:DY P w H h)(e:H d=AA (.frz o (.dK kvs)))(Y:o.data=.dict W ep):∃vs,Ey kvs vs/\h.DictAt (Eo P w) d vs ep:=by lk;obtain⟨Z,z,F,vs,U,G,B,A,J,C,D,r⟩:=(show DZ P w H h d _ from E d _ e);rw[Z]at J;cases J;rw[Y]at D;cases D;k_in;show⟨vs,U,o,W,Z,C,Y,r⟩
theorem xT{K:As}(d it:AB)(n:o.data=.dict es ep):K4 P w K tg (Nb o kvs d) [it] it (λi h=>h.IsKeyIter it d i kvs.length ep)where
 abt:=by simp
 au:=λi h D b W=>by
  have e:=by simpa using W
  subst e;obtain⟨o,e,c,d⟩:_:=D;show⟨o,e,λv z=>by rw[d]at z;cases z⟩
 ab:=λi h l D k=>D.at λo e=>k it (by simp) o e
 vy:=by intro X Q hw O m i B s σ H E I C D R;subst Q hw O;lk;obtain⟨e,S⟩:=R;obtain⟨j,J,U⟩:=Nw I.cq e n;k_in;have A:=Ic J;have a:j[i]?=AA _:=Ck (by simp_all);have T:=Ck S;have g:=Pa J T a;generalize kvs[i]=p at T g;generalize j[i]'(BY S (Bi A))=q at a g;obtain⟨F,G,f2,L,M,N⟩:_:=C it (by simp);rw[A]at D;show wpAny_pyNext_dict_item D U a λf l Z Y sb=>?_;have r:=I.fo (t':=s.toks) (λb o W e=>(sb.2 b W).trans e) F G L M N;obtain⟨o',x,t,u⟩:_:=id Y;rw[<-A]at Y;have hk:=g.1;show⟨f,rfl,Mm x t u (by decide) ⟨_,H,r,by rw[hk];show Uk Z,⟨rfl,p,T,rfl⟩,Y,λb W=>(C b W).1⟩⟩
 vx:=by intro X Q hw O m i B s σ H E I C D R;subst Q hw O;lk;obtain⟨e,S⟩:=R;obtain⟨j,J,U⟩:=Nw I.cq e n;have A:=Ic J;obtain⟨F,G,f2,L,M,N⟩:=C it (by simp);k_in;rw[A]at D;show wpAny_pyNext_dict_end (I.ok.hd m) D U (by simp;simp_all) λl y=>⟨rfl,I.fo (λb o W e=>y b o W e) F G L M N⟩
 xi:=λ_ _ _ _ _ D h=>wpAny_pyIter_keyiter D h
theorem vC{K:As}(W:Al X e J)(V:Js e f X.ae (Ba e X.ae)=Ba e X.ae)(U:X.K=K:=by rfl):Al X (.Attribute e f D) (Pl K J f):=by subst U;show Zv W V
def sW(V:Av):F3:=λW H R=>V W H λx U=>E2 (λa D=>x=.ref a) (λa D=>F2 U a (.dK D)) (λa D=>∀o J,J a=AA (.frz o (.dK D))->(∀b,b≠a->J b=U b)->R (Nb o D a) J)
theorem Rn(F:Al X l N):GN X f l (sW N):=by
 intro M s P H R I h;show Ax (F _ s P H _ I h) λv s1 W=>?_;lk;obtain⟨x,Z,C,r1,c⟩:=W;obtain⟨a,S,e,T,q⟩:=c;k_in;subst e;cases r1;lk;obtain⟨o,J,A,Q,d,g⟩:∃o J,Aa X _ P J s1/\J a=AA (.frz o _)/\R (Nb o _ a) J/\∀b,Z b=AG->J b=AG:=by
  rcases T with e|⟨o,e⟩
  . obtain⟨z,K,O,U,o,E,L,V,G,B,r⟩:=(show DZ _ _ Z _ a _ from C.cq a _ e);show⟨o,_,?_,AY,q o _ AY (λb D=>AV D),λb D=>by rw[AV (BH e D).symm];show D⟩;show C.vw (by rw[e];trivial) (.inl rfl) (λb u w q=>q) ⟨o,V⟩ ⟨V,z,K,O,U,o,E,L,V,G,B,r⟩
  .show⟨o,Z,C,e,q o Z e λb w=>rfl,λb D=>D⟩
 obtain⟨V,z,K,O,U,i,E,L,Y,G,B,r⟩:=(show DZ _ _ J _ a _ from A.cq a _ Q);rw[V]at Y;cases Y;k_in;have F:=Ic U;show wpAny_pyIter_dict K ⟨o,E,V,G,B,r⟩ ?_;show⟨_,_,_,_,J,rfl,A.iq λb o e=>C1 _ e,xT a _ B,⟨_,F7 _ rfl,rfl,by rw[F];rfl⟩,λb D=>?_,d⟩;have e:=by simpa using D
 subst e;show A.uw (Aj _) (A.cq.cj (Aj _))
theorem RU{d:AB}{o:BR}{kvs:List (AN×AE)}{g:Eh}{E:Cz}{D:HH}{J:Ah}{H:AH}(Y:Nat->Ah->AH->Prop)(F:Y 0 J H)(K:∀i J H,i<=kvs.length->Y i J H->H d=AA (.frz o (.dK kvs)))(M:∀(i:Nat)p J H,kvs[i]?=AA p->Y i J H->g (Au p.1) J H λz A=>E {D with nx:=Y (i+1),ct:=Y (i+1),bk:=D.nx} z A)(I:∀J H,Y kvs.length J H->D.nx J H):∃W:Nat->Nat->Ah->AH->Prop,(∃m,W 0 m J H)/\∀i m J H,W i m J H->((Nb o kvs d).ux i H/\D.nx J H)\/((Nb o kvs d).go i H/\∃N:Ah->AH->Prop,(∀Z H',N Z H'->∃C,C<m/\W (i+1) C Z H')/\∀x H',(Nb o kvs d).aaj i H x H'->g x J H' λz A=>E {D with nx:=N,ct:=N,bk:=D.nx} z A):=by
 show⟨λi m J H=>m=kvs.length-i/\i<=kvs.length/\Y i J H,⟨kvs.length,by simp,Bc _,F⟩,?_⟩;intro i m J H G;obtain⟨rfl,B,p⟩:_:=G;have q:=K i J H B p;by_cases U:i<kvs.length
 . show .inr ⟨⟨q,U⟩,_,λZ H' O=>⟨_,Hv _ _ U,rfl,U,O⟩,λx H' y=>?_⟩;obtain⟨e,P,L,rfl⟩:_:=y;subst e;show M i P J _ L p
 . have:=Ec B (FQ U);subst this;show .inl ⟨⟨q,Aj _⟩,I J H p⟩
instance AAv(k:AN):∀L:List AN,Decidable (k∈L)|[]=>.isFalse (by simp)|x::L=>if h:k=x then .isTrue (by simp[h])else match AAv k L with|.isTrue h2=>.isTrue (by simp[h2])|.isFalse h2=>.isFalse (by simp[h,h2])
def PK(h:BZ)(u:AL)(U:List AN)(V:List AB):Prop:=∃a o D m J,u=.ref a/\h.get? a=AA o/\o.cls=.type "tuple"/\o.data=.seq D m/\D.toList=J++V.map Ds/\J.map B0=U/\∀v∈J,FJ v
def qW(h:BZ)(V:List AB)(U:List AN)(J:List AB)(D:List AN):Prop:=(V=J/\U=D)\/∃(p q:AB)(Y W:List Int),V=[p]/\J=[q]/\U=Y.map C3/\D=W.map C3/\Hh h (.ref p) U/\Hh h (.ref q) D
abbrev JC:=List AN×List AB×List AN
def Jg(d:JC):List AN:=d.1++d.2.2
structure UP(h:BZ)(vs:List AL)(ds:List JC)(sh:List Bool):Prop where
 gf:vs.length=ds.length
 hn:sh≠[]zu:∀(i:Nat)u d,vs[i]?=AA u->ds[i]?=AA d->PK h u d.1 d.2.1/\d.1.map C0=sh
 aei:∀(i j:Nat)d e,ds[i]?=AA d->ds[j]?=AA e->d.1=e.1->qW h d.2.1 d.2.2 e.2.1 e.2.2
theorem ZI:∀{V J:List AL}{U D:List AB},(∀v∈V,FJ v)->(∀v∈J,FJ v)->V++U.map Ds=J++D.map Ds->V=J/\U=D
 |[],[],U,D,_,_,e=>⟨rfl,by show(List.map_inj_right (by simp)).mp e⟩|[],v::J,U,D,_,h,e=>by cases U with|nil=>cases e|cons r U=>
  injection e with W _;have:=h v Dr;rw[<-W]at this;show this.elim|v::V,[],U,D,h,_,e=>by cases D with|nil=>cases e|cons r D=>
  injection e with W _;have:=h v Dr;rw[W]at this;show this.elim|v::V,A::J,U,D,h,Z,e=>by injection e with W Y;obtain⟨a,b⟩:=ZI (λz u2=>h _ (Gm u2)) (λz u2=>Z _ (Gm u2)) Y;simp_all
theorem PK.zu(t:PK h u Z z)(t':PK h u D J):Z=D/\z=J:=by lk;obtain⟨a,o,V,m,I,rfl,e,_,d,l,k,f⟩:=t;obtain⟨E,H,U,G,C,q,Y,_,W,B,F,A⟩:=t';k_in;injection q with q;subst q;rw[e]at Y;lk;cases Y;rw[d]at W;cases W;obtain⟨x,y⟩:=ZI f A (l.symm.trans B);k_in;simp_all
theorem Hh.zu(t:Hh h u J)(t':Hh h u D):J=D:=t.kf.symm.trans t'.kf
noncomputable def Ra(vs:List AL)(kss:List (List AN))(u:AL):List AN:=by classical show if D:∃J,(u,J)∈vs.zip kss then D.choose else[]
theorem UP.kf(x:UP h vs D sh):∀(i:Nat)u d,vs[i]?=AA u->D[i]?=AA d->Ra vs (D.map Jg) u=Jg d:=by
 intro i u d Y U;have A:∃B,(u,B)∈vs.zip (D.map Jg):=⟨Jg d,VP.mpr ⟨i,(by grind)⟩⟩;unfold Ra;lk;obtain⟨j,z⟩:=VP.mp A.choose_spec;obtain⟨Z,V⟩:=L6.mp z;rw[Bt]at V;obtain⟨J,W,C⟩:=EA.mp V;obtain⟨a,b⟩:=(x.zu i u d Y U).1.zu (x.zu j u J Z W).1;k_in;have E:d.2.2=J.2.2:=by
  rcases x.aei i j d J U W a with⟨_,q⟩|⟨p,q,_,_,r1,r2,_,_,t1,t2⟩;.show q
  . rw[b,r2]at r1;injection r1 with r1;subst r1;show t1.zu t2
 grind
theorem ZZ:∀(xs ys:List AL)(J D:List AL)(i:Nat),(∀v∈xs,FJ v)->(∀v∈ys,FJ v)->xs.map (λv=>C0 (B0 v))=ys.map (λv=>C0 (B0 v))->(xs.map B0=ys.map B0->∀j,i+xs.length<=j->dA prog w A b fin Q (J.zip D) j s)->(xs.map B0≠ys.map B0->Q (Bg (xs.map B0) (ys.map B0)) s)->dA prog w A b fin Q ((xs++J).zip (ys++D)) i s
 |[],[],J,D,i,_,_,_,h,_=>(by(simp[*]))|[],_::_,_,_,_,_,_,e,_,_=>by cases e|_::_,[],_,_,_,_,_,e,_,_=>by cases e|x::xs,y::ys,J,D,i,Z,B,e,h,Y=>by
  obtain⟨U,C⟩:=Dz e;have V:=Z x Dr;have W:=B y Dr;show dE (Ua V W U (AAF (λq=>?_) λq=>?_))
  . show AAI (ZZ xs ys J _ _ (λE u2=>Z _ (Gm u2)) (λE u2=>B _ (Gm u2)) C (by grind) λz=>?_);have:=Y (by simp_all);rw[FO,FO,Bg]at this;simp_all
  . have q:=AE8 q;have:=Y (by simp_all);rw[FO,FO,Bg,AEz q]at this;show AAG (Zd _ V W U this)
theorem Za:∀(D:List AB)(i:Nat),Q AR s->dA prog w A b AR Q ((D.map Ds).zip (D.map Ds)) i s|[],_,h=>ADI h|r::D,i,h=>dE (AC1 _ _ w _ _ (AAI (Za D _ h)))
theorem ZX:∀{D J xs ys:List AN},D.length=J.length->Bg (D++xs) (J++ys)=if D=J then Bg xs ys else Bg D J|[],[],_,_,_=>by rfl|[],_::_,_,_,e=>by cases e|_::_,[],_,_,e=>by cases e|k::D,l::J,xs,ys,e=>by have U:=ZX (xs:=xs) (ys:=ys) (ABz.mp e);change(if k=l then Bg _ _ else FC k l)=if k::D=l::J then Bg xs ys else(if k=l then Bg D J else FC k l);(split<;>simp_all)
theorem U9:∀{D:List AL},(∀v∈D,FJ v)->∃J,ReadsAll h D ((D.map B0).map K7) J
 |[],_=>⟨_,.nil⟩|v::D,f=>by
  obtain⟨J,r⟩:=U9 (λw hw=>f w (Fp _ hw));have U:=f v Dr;cases v<;>first|show U.elim|skip
  .show⟨_,.cons (.int _ _) r⟩
  .show⟨_,.cons (.str _ _) r⟩
theorem Uj:∀ns:List Int,(ns.map (C3:Int->AN)).map K7=ns.map OS|[]=>rfl|n::ns=>by rw[FO,FO,Uj ns];rfl
theorem sL{A:DV}{s:AZ}{ns J:List Int}(t1:Hh s.heap (.ref p) (ns.map C3))(t2:Hh s.heap (.ref q) (J.map C3))(L:A.units+64<GV):c8 A s (.ref p) (.ref q) (Ae (ns=J)):=by
 lk;obtain⟨a,o,W,m,V,e,c,d,k,f⟩:=t1;obtain⟨H,N,U,M,D,E,B,C,G,F⟩:=t2;k_in;injection V with V;injection D with D;subst V D;lk;obtain⟨Z,r⟩:=U9 f;obtain⟨z,Y⟩:=U9 F;k_in;rw[k,Uj]at r;rw[G,Uj]at Y;have:=SeqAt.eqAt_reads _ _ A s _ _ Z _ (.tuple e c d r) (.tuple E B C Y) (by simp[LK,(Rb ns).1]) (by simp[LK,(Rb J).1]) (by
  have K:(PyData.tuple (ns.map OS)).depth<=1:=by simp[LM,(Rb ns).2]
  lia);have I:zZ (.tuple (ns.map OS)) (.tuple (J.map OS))=Ae (ns=J):=by show ZH ns J
 simp_all
theorem tX{A:DV}{s:AZ}{ns W:List Int}(t1:Hh s.heap (.ref p) (ns.map C3))(t2:Hh s.heap (.ref q) (W.map C3))(P:A.units+64<GV)(h:Q (Bg (ns.map C3) (W.map C3)) s):A1 (Ao prog w) A (oneLt' AR (.ref p) (.ref q)) Q E s:=by
 lk;obtain⟨a,o,D,m,B,e,c,d,k,f⟩:=t1;obtain⟨g,X,J,T,U,K,F,H,R,O⟩:=t2;k_in;injection B with B;injection U with U;subst B U;lk;obtain⟨M,N,I,b⟩:=o;obtain⟨G,Z,Y,C⟩:=X;k_in;simp only at c d F H;subst c d F H;have V:∀(l:List Int)(i:Nat)(z:AN),(l.map (C3:Int->AN))[i]?=AA z->C0 z=AK:=λl i z L=>by rw[Bt]at L;obtain⟨n,_,rfl⟩:=EA.mp L;rfl
 have S:RB D.toList J.toList D.size J.size (Bg (ns.map C3) (W.map C3)):=by show⟨⟨D.toList,[],by simp,.inl rfl,f,O,λi x y j r=>?_,by rw[k,R]⟩,VS _ _⟩;rw[V ns i (B0 x) (by grind),V W i (B0 y) (by grind)]
 show AAH _ _ ?_;show ADf (op:=.Lt) ⟨_,e,rfl⟩ ⟨_,K,rfl⟩ ACs ACh (by rfl) (aZ p q _ _ m T N Z b C _ S) ⟨e,K,⟨(by simp),h⟩⟩ (VY P)
theorem UP.acx(x:UP h vs X sh)(B:A.units+64<GV)(h2:2<=vs.length)(kp:∀a o D m,h.get? a=AA o->o.cls=.type "tuple"->o.data=.seq D m->s.heap.get? a=AA o):∃κ,(∀(Q:P4->AZ->Prop)(E:AL->AZ->Prop),Q κ s->A1 (Ao prog w) A (cJ vs.toArray) Q E s)/\F9 prog w A s κ Hm (Ra vs (X.map Jg)) (Jp vs):=by
  have mp:∀p∈(Jp vs).toList,p.1∈vs:=λp N=>by rw[Vi]at N;show(zL N).2
  have kn:∀{u K rs},PK h u K rs->PK s.heap u K rs:=λ⟨a,o,D,m,U,b,e,c,d,r⟩=>⟨a,o,D,m,U,b,kp a o D m e c d,c,d,r⟩;have R:∀{u K},Hh h u K->Hh s.heap u K:=λ⟨a,o,D,m,b,e,c,d,r⟩=>⟨a,o,D,m,b,kp a o D m e c d,c,d,r⟩;have Y:∀u∈vs,∃(i:Nat)(d:JC),vs[i]?=AA u/\X[i]?=AA d:=λu B=>Lv x.gf B;show⟨tuples' AK,λQ E q=>?_,⟨λp N q hq Q E k=>?_⟩⟩
  . have y:∀(l:List AL),(∀u∈l,u∈vs)->∃C,AC9 s.heap l C/\C.length=l.length/\∀v∈C,FJ v/\C0 (B0 v)=sh.headD AK:=λl=>by induction l with |nil=>showλ_=>⟨[],trivial,rfl,λv F=>by cases F⟩|cons u l ih=> intro B;obtain⟨C,O,P,n⟩:=ih (λu1 u2=>B _ (Gm u2));obtain⟨i,d,M,H⟩:=Y u (B u Dr);obtain⟨t,z⟩:=x.zu i u d M H;obtain⟨a,o,D,m,U,rfl,e,c,Z,G,r,W⟩:=kn t;match U,G,r,W with
        |[],_,r,_=>rw[<-r]at z;show absurd z.symm x.hn|f0::l1,G,r,W=>
          have g0:D[0]?=AA f0:=by rw[<-NI,G];rfl
          show⟨f0::C,ADA e c Z g0 O,ABy.mpr P,λv F=>?_⟩;grind
    obtain⟨C,O,P,n⟩:_:=y vs λ_ h=>h;cases hh:sh.headD AK with
    |true=> show dF (T:=.type "int") O (AE9 (Hu h2) P.symm) (λv F=>?_) (by decide) q;obtain⟨W,z⟩:=n v F;rw[hh]at z;cases v<;>first|show W.elim|show Ik _|show Ik (show AR=AK from z)|show .now
    |false=> show dF (T:=.type "str") O (AE9 (Hu h2) P.symm) (λv F=>?_) (by decide) q;obtain⟨W,z⟩:=n v F;rw[hh]at z;cases v<;>first|show W.elim|show Ik (show AK=AR from z)|show Ik (show AR=AK from z)|show .now
  . lk;obtain⟨i,d,M,H⟩:=Y _ (mp p N);obtain⟨j,Z,e3,f⟩:=Y _ (mp q hq);have k:Q (Bg _ _) s:=k;rw[x.kf i _ d M H,x.kf j _ Z e3 f]at k;obtain⟨t,z1⟩:=x.zu i _ d M H;obtain⟨t',z2⟩:=x.zu j _ Z e3 f;obtain⟨a,o,D,m,U,u1,e,c,dd,G,r,W⟩:=kn t;obtain⟨a',o',J,m',V,u2,e',c',S,L,r',g⟩:=kn t';k_in;have es:=by
      have h1:(U.map B0).map C0=(V.map B0).map C0:=by rw[r,r',z1,z2]
      rw[Dh,Dh]at h1;show h1
    have el:=by have:=AE2 My (z1.trans z2.symm);simpa using this
    unfold Jg at k;rw[ZX el]at k;rw[u1,u2];show ADH e dd e' S ?_;rw[G,L];have lu:U.length=d.1.length:=by rw[<-r,Aq]
    have lu':V.length=Z.1.length:=by rw[<-r',Aq]
    have sz1:D.size=U.length+d.2.1.length:=by rw[<-MI,G];simp
    have sz2:J.size=V.length+Z.2.1.length:=by rw[<-MI,L];simp
    have I:0<U.length:=by rw[lu];show Nat.pos_of_ne_zero λz=>x.hn ?_;grind
    show ZZ U V _ _ 0 W g es (λq j hj=>?_) λq=>?_
    . rw[r,r']at q;rw[AE0 q]at k;rcases x.aei i _ d Z H f q with⟨q1,q2⟩|⟨p',q',ns,ms,r1,r2,r3,r4,t1,t2⟩;. rw[AE3 (by rw[sz1,sz2,lu,lu',el,q1];show Ht _),q1];rw[q2,PV]at k;show Za _ _ k
      . rw[AE3 (by(simp[*])),r1,r2];rw[r3]at t1;rw[r4]at t2;rw[r3,r4]at k;show dE (sL (R t1) (R t2) B prog w _ _ (AAF (λz=>?_) λz=>?_))
        . have z:=AE4 z;rw[z,PV]at k;assumption
        . show AAG ?_;have j0:(j==0)=AR:=by simp;show M5 (BY I (SD hj))
          rw[j0,AA0];show tX (R t1) (R t2) B k
    simp_all
def RI(K:As)(H:AH)(xs:List AE)(D:List JC)(sh:List Bool):Prop:=sh≠[]/\BJ (λx(d:JC)=>(∃a,x=.ref a/\Cs K H a (d.1.map Au++d.2.1.map AE.ref))/\d.1.map C0=sh) xs D/\∀(i j:Nat)d e,D[i]?=AA d->D[j]?=AA e->d.1=e.1->(d.2.1=e.2.1/\d.2.2=e.2.2)\/∃(p q:AB)(U J:List Int),d.2.1=[p]/\e.2.1=[q]/\d.2.2=U.map C3/\e.2.2=J.map C3/\Cs K H p (U.map AE.int)/\Cs K H q (J.map AE.int)
theorem Z8:∀{D:List AB}{J:List AL},Bb (D.map AE.ref) J->J=D.map Ds|[],_,h=>by cases h;rfl|r::D,_,h=>by cases h with|cons U W=>cases U;rw[Z8 W];rfl
theorem aY(I:Aa X J C H s){ns:List Int}(h:Cs X.K H p (ns.map AE.int)):Hh s.heap (.ref p) (ns.map C3):=by
 have U:Cs X.K H p ((ns.map (C3)).map Au):=by rw[Dh];show h
 lk;obtain⟨D,z,⟨o,Z,W,n,Y⟩,_⟩:=I.ir U;obtain⟨A,B⟩:=Mn z;k_in;show⟨p,o,_,n,rfl,Z,W,Y,by assumption,by assumption⟩
theorem RI.acm(I:Aa X E v H s)(h:RI X.K H xs W sh)(r:Bb xs its):UP s.heap its W sh:=by
  lk;obtain⟨P,p,U⟩:=h;have O:=r.aq;obtain⟨L,M⟩:=CJ p;k_in;show⟨Oe O.symm L,P,λi u d J D=>?_,λi j d e J D q=>?_⟩
  . have l:=(BU.mp D).1;have Y:xs[i]?=AA xs[i]:=Ck _;lk;obtain⟨⟨a,K,R⟩,z⟩:=M i _ _ Y D;obtain⟨m,Z,A⟩:=r.xc Y;rw[J]at Z;cases Z;rw[K]at A;obtain rfl:u=Ds a:=A;obtain⟨C,f,⟨o,Q,N,n,B⟩,_⟩:=I.ir R;obtain⟨g,t,rfl,k,v2⟩:=VJ f;obtain⟨S,T⟩:=Mn k;k_in;rw[Z8 v2]at B;show⟨⟨a,o,_,n,g,rfl,Q,N,B,by simp,S,T⟩,z⟩
  . rcases U i j d e J D q with h|⟨p,q,c,b,r1,r2,F,G,t1,t2⟩;.show .inl h
    .show .inr ⟨p,q,c,b,r1,r2,F,G,by rw[F];show aY I t1,by rw[G];show aY I t2⟩
theorem UX{K:As}(G:D6 k X.A)(E:X.K=K:=by rfl):FX X (.builtin "sorted") (λxs H Q=>∃(p:AB)(ys:List AE)(J:List JC)(sh:List Bool),xs=[.ref p]/\CD K H p ys/\RI K H ys J sh/\∀l(qs:List (AE×List AN)),H l=AG->qs.Perm (ys.zip (J.map Jg))->(qs.map (·.2)).Pairwise (λa b=>Bg b a=AR)->Q (.ref l) (AM H l (.lst (qs.map (·.1))))):=by
 subst E;intro z s T H xs S Q I r h;lk;obtain⟨p,ys,J,sh,rfl,F,O,q⟩:=h;obtain⟨u,rfl,N⟩:=HN r;cases N;obtain⟨D,U,M,Z⟩:=I.bz F;k_in;show VD I Z (Y4 U M Z) (λD U=>?_) q;have W:=O.acm I U;show⟨by rw[Aq];show W.gf,Ra D (J.map Jg),λi u P A Y=>?_,λR L C=>W.acx ?_ C λa o v v e v v=>L a o e⟩
 . rw[Bt]at Y;obtain⟨d,B,rfl⟩:=EA.mp Y;show W.kf i u d A B
 . have:=G.un;grind
def aN(t u:Cz):Cz:=λD V H=>∀(N:Ah->AH->Prop)(r:Bf)(b c:Ah->AH->Prop),(∀J U,u D J U->N J U)->t ⟨N,r,b,c⟩ V H
theorem C6{st:C2}(V:Ez X st t)(W:F1 X J u):F1 X (st::J) (aN t u):=λU s Y H D I h=>Ai V W _ s Y H D I (h _ _ _ _ λO O z=>z)
def xF(t:Cz):Cz:=λD V H=>∀(N:Ah->AH->Prop)(r:Bf)(b c:Ah->AH->Prop),(∀J U,D.nx J U->N J U)->t ⟨N,r,b,c⟩ V H
theorem vO{st:C2}(U:Ez X st t):Ez X st (xF t):=λJ s V H D I h=>U _ s V H D I (h _ _ _ _ λO O z=>z)
@[elab_as_elim]theorem BK{H:AH}{R:AH->Prop}(D:H c=AG)(k:∀G,An H G->G c=AA o->R G):R (AM H c o):=k _ (Bv D) AY
theorem B6{n:Nat}(h:n.ble m=AK):n<=m:=(bX h)
theorem Rt(J:D.kind=.function:=by rfl)(U:D.isCoroutine=AR:=by rfl)(V:D.isGenerator=AR:=by rfl)(W:N.Nodup:=by decide+kernel)(Y:N.take P.length=P:=by rfl)(Z:∀x∈P,D.names.lookup x=AA .local\/D.names.lookup x=AA .cell:=by decide+kernel)(z:∀y∈D.names,y.2≠.free:=by decide+kernel):Mg N P D:=⟨J,U,V,W,Y,Z,z⟩
theorem Aw(i:Nat)(U:X.N.Nodup)(V:Al X e z)(hi:X.N[i]?=AA x:=by rfl)(Z:Li X.ae.scope x:=by first|show .inl rfl|show .inr rfl)(Y:OZ e (AA (.Name x D)) J.line X.ae=Bn AR:=by rfl)(W:X.fn x=AK\/X.ae.scope.names.lookup x=AA .local:=by first|show .inl rfl|show .inr rfl|assumption):Ez X (.Assign [.Name x D] e J) (Rw z (Gy i)):=KQ U hi Z V Y W
theorem Cc(i:Nat)(D:X.N.Nodup)(hi:X.N[i]?=AA x:=by rfl)(U:Li X.ae.scope x:=by first|show .inl rfl|show .inr rfl)(J:X.fn x=AK\/X.ae.scope.names.lookup x=AA .local:=by first|show .inl rfl|show .inr rfl|assumption):Kx X (.Name x V) (Gy i):=Jj D hi U J
theorem N6(K:As)(A:Al X a C)(z:Gf X (e::V) t)(Z:X.K=K:=by rfl)(J:Js a "append" X.ae (Ba a X.ae)=Ba a X.ae:=by rfl)(W:((GU D (Cp (e::V) X.ae)).all (λx=>!x.1)&&(QE D (QK [] X.ae)).all (λx=>x.1.isSome)&&Ae ((e::V).length+([]:List MG).length+(if([]:List MG).isEmpty then 0 else 1)<30))=AK:=by rfl)(U:(p.endLine==D.line)=AK:=by rfl)(B:Cp (e::V) X.ae=(AR,Ba e X.ae)::Cp V X.ae:=by rfl)(Y:(GU D (Cp V X.ae)).any (·.1)=AR:=by rfl):Al X (.Call (.Attribute a "append" p) (e::V) [] D) (VE K "list" U4 C t):=JM MF zS F.type_list_append t8 A z Z J W U B Y
theorem IQ(osc:Fs)(Y:List (AF×Nat))(A:Kv X D Y)(hi:GN X (.Name x E) J wi)(N:∀C s H ex,Ky (EJ X D (x::Y.map (·.1)) C s H ex) z F)(I:∀C s H ex,Al (EJ X D (x::Y.map (·.1)) C s H ex) Z Q)(G:X.je=AK:=by rfl)(L:X.ae.scope=osc:=by rfl)(K:D.kind=.function:=by rfl)(V:∀y∈D.names,y.2≠.cell:=by decide+kernel)(U:∀y∈D.names,y.2=.local->D.names.lookup y.1=AA .local:=by decide+kernel)(W:∀y∈D.names,y.2=.free->osc.names.lookup y.1=AA .cell\/osc.names.lookup y.1=AA .free:=by decide+kernel)(O:D.names.lookup x=AA .local:=by rfl)(B:(x::Y.map (·.1)).Nodup:=by decide+kernel)(M:∀x,OW J X.ae x=Bn x:=by intro _;rfl):Al X (.ListComp Z [⟨.Name x E,J,z,0⟩] D P) (LB 1 (Y.map (·.2)) wi (Gy 0) F Q):=Pd Y G hi L K V U W A O B N I M
def JK(x:AE)(k:Int->Prop):Prop:=match x with|.int i=>k i|_=>False
def Ri(x:AE)(k:AB->Prop):Prop:=match x with|.ref i=>k i|_=>False
def Lx(x:Option (Option AE))(k:AE->Prop):Prop:=match x with|AA (AA v)=>k v|_=>False
def Zh(xs:List AE)(k:AE->Prop):Prop:=match xs with|[x]=>k x|_=>False
def Ur(xs:List AE)(k:AE->AE->Prop):Prop:=match xs with|[x,y]=>k x y|_=>False
theorem IP(h:JK x k):∃i,x=.int i/\k i:=by cases x<;>first|show⟨_,rfl,h⟩|show h.elim
theorem Us(h:Ri x k):∃i,x=.ref i/\k i:=by cases x<;>first|show⟨_,rfl,h⟩|show h.elim
theorem Ut(h:Lx x k):∃v,x=AA (AA v)/\k v:=by match x,h with|AA (AA v),h=>show⟨v,rfl,h⟩
theorem uF(h:Zh xs k):∃x,xs=[x]/\k x:=by match xs,h with|[x],h=>show⟨x,rfl,h⟩
theorem Zi(h:Ur xs k):∃x y,xs=[x,y]/\k x y:=by match xs,h with|[x,y],h=>show⟨x,y,rfl,h⟩
def LD(i:Nat):Av:=λD H Q=>Lx D[i]? λv=>Q v H
def Rq(C:Int->Int->Prop)(g:Int->Int->AE):EF:=λx y H Q=>JK x λi=>JK y λj=>C i j/\Q (g i j) H
def OC(g:Int->Int->AE):EF:=λx y H Q=>JK x λi=>JK y λj=>Q (g i j) H
def v9(g:Int->AE):AE->AH->Bf->Prop:=λx H Q=>JK x λi=>Q (g i) H
def vV(K:As):EF:=λx y H Q=>Ri x λp=>JK y λi=>E2 (λD v=>CD K H p D) (λD v=>DQ D i=AA v) (λO v=>Q v H)
def U7(K:As):EF:=λx y H Q=>Ri x λp=>JK y λi=>E2 (λD v=>Cs K H p D) (λD v=>DQ D i=AA v) (λO v=>Q v H)
theorem uV(h:Al X e t)(m:∀D H Q,t' D H Q->t D H Q):Al X e t':=λJ s D H Q I w=>h _ s D H Q I (m D H Q w)
theorem Ly(h:CP X J r)(m:∀x y H Q,U x y H Q->r x y H Q):CP X J U:=λD s Y H x y v u Q I V W w=>h _ s Y H x y v u Q I V W (m x y H Q w)
theorem U6(x y:AE)(H:AH)(Q:Bf)(h:Rq C g x y H Q):OB C g x y H Q:=by lk;obtain⟨i,rfl,D⟩:=IP h;obtain⟨j,rfl,c,q⟩:=IP D;k_in;show⟨i,j,rfl,rfl,c,q⟩
theorem Ph(x y:AE)(H:AH)(Q:Bf)(h:OC g x y H Q):L4 g x y H Q:=by lk;obtain⟨i,rfl,D⟩:=IP h;obtain⟨j,rfl,q⟩:=IP D;k_in;show⟨i,j,rfl,rfl,q⟩
theorem AD{x:AF}(i:Nat)(J:X.N[i]?=AA x:=by rfl)(V:RN X.ae.scope x:=by first|show Or.inl rfl|show Or.inr (Or.inl rfl)|show Or.inr (Or.inr rfl))(U:(x==("__debug__":AF))=AR:=by decide)(D:(x==("__classdict__":AF))=AR:=by decide):Al X (.Name x W) (LD i):=uV (Zw J V U D) λO O O h=>have⟨v,e,q⟩:=Ut h;⟨v,e,q⟩
theorem C5:CP X (G5 .Add) (OC λi j=>.int (i+j)):=Ly Zk Ph
theorem GQ:CP X (G5 .Sub) (OC λi j=>.int (i-j)):=Ly Uz Ph
theorem FK:CP X (G5 .Mult) (Rq UG λi j=>.int (i*j)):=Ly uN U6
theorem Ci:CP X (G5 .FloorDiv) (Rq Ye λi j=>.int (i/j)):=Ly uH U6
theorem Bu:CP X (G5 .Mod) (Rq (λO j=>0<j) λi j=>.int (i%j)):=Ly uM U6
theorem Rk:CP X (Ej .Lt) (OC λi j=>.bl (Ae (i<j))):=Ly uK Ph
theorem PY:CP X (Ej .LtE) (OC λi j=>.bl (Ae (i<=j))):=Ly Ux Ph
theorem N4:CP X (Ej .Gt) (OC λi j=>.bl (Ae (j<i))):=Ly Zl Ph
theorem yC:RM X (unaryOp .USub) (v9 λi=>.int (-i)):=λD s U H x v Q I J h=>yB _ s U H x v Q I J (have⟨v,e,q⟩:=IP h;⟨v,e,q⟩)
theorem DR(K:As)(W:Al X a C)(Y:Al X b E)(Z:UN b:=by showλO O=>rfl)(V:X.K=K:=by rfl):Al X (.Subscript a b z) (LC (vV K) C E):=FL (λa b D s G H x y v u Q I A B h=>Lq V a b _ s G H x y v u Q I A B (by lk;obtain⟨p,rfl,h⟩:=Us h;obtain⟨i,rfl,F,w,J,U,q⟩:=IP h;k_in;show⟨p,F,i,w,rfl,rfl,J,U,q⟩)) W Y Z
theorem BA(K:As)(W:Al X a C)(Y:Al X b E)(Z:UN b:=by showλO O=>rfl)(V:X.K=K:=by rfl):Al X (.Subscript a b z) (LC (U7 K) C E):=FL (λa b D s G H x y v u Q I A B h=>JI V a b _ s G H x y v u Q I A B (by lk;obtain⟨p,rfl,h⟩:=Us h;obtain⟨i,rfl,F,w,J,U,q⟩:=IP h;k_in;show⟨p,F,i,w,rfl,rfl,J,U,q⟩)) W Y Z
theorem UW(J:X.je=AK):FX X (.builtin "max") (λxs H Q=>Ur xs λx y=>JK x λi=>JK y λj=>Q (.int (if j>i then j else i)) H):=λD s V H xs U Q I r h=>rG J _ s V H xs U Q I r (by lk;obtain⟨x,y,rfl,h⟩:=Zi h;obtain⟨i,rfl,h⟩:=IP h;obtain⟨j,rfl,q⟩:=IP h;k_in;show⟨i,j,rfl,q⟩)
theorem Yz(J:X.je=AK):FX X (.builtin "min") (λxs H Q=>Ur xs λx y=>JK x λi=>JK y λj=>Q (.int (if j<i then j else i)) H):=λD s V H xs U Q I r h=>rJ J _ s V H xs U Q I r (by lk;obtain⟨x,y,rfl,h⟩:=Zi h;obtain⟨i,rfl,h⟩:=IP h;obtain⟨j,rfl,q⟩:=IP h;k_in;show⟨i,j,rfl,q⟩)
theorem F4{K:As}(J:X.K=K:=by rfl):FX X (.builtin "len") (λxs H Q=>Zh xs λx=>Ri x λp=>∃ys,(CD K H p ys\/Cs K H p ys)/\Q (.int ys.length) H):=λD s V H xs U Q I r h=>Yy J _ s V H xs U Q I r (by lk;obtain⟨x,rfl,h⟩:=uF h;obtain⟨p,rfl,ys,h,q⟩:=Us h;k_in;show⟨p,ys,rfl,h,q⟩)
theorem Aa.afa(I:Aa X D Y H s)(e:H a=AA (.frz o u))(n:∀o u,X.H₀ a≠AA (.frz o u)):Aa X D Y (AM H a u) s:=by
  have J:∀{b},H b=AG->b≠a:=(by grind);show⟨I.ok,I.os,I.mf,⟨I.af.ab,I.af.wc,λb o q h C=>?_,I.af.ma,λb W q=>?_,λb o u q=>?_,λb E q=>?_⟩,I.yw,I.qm,by rw[AV (J I.bc)];show I.bc,λx c q=>by rw[AV (J (I.kh x c q))];show I.kh x c q,λp B=>?_,λb v q=>?_,I.gf⟩;. have:=I.af.bc b o q h C;rw[AV (J this)];assumption
  . have:=I.af.xq b W q;rw[AV (by grind)];assumption
  . have:=I.af.vo b o u q;rw[AV (by grind)];assumption
  . obtain⟨m,this⟩:=I.af.xp b E q;show⟨m,by rw[AV (by grind)];assumption⟩
  . obtain⟨Z,U,A⟩:_:=I.vz p B;show⟨Z,by rw[AV (J U)];show U,A⟩
  . have V:∀{v},DZ _ _ H _ b v->DZ X.ai X.w (AM H a u) s.heap b v:=λh=>h.xj (λG u2 u3 F=>F) (λc q=>by rw[AV (by grind)];show q) λc W q=>by rw[AV (by grind)];show q
    by_cases z:b=a
    . subst z;rw[AY]at q;cases q;show V (I.cq b _ e).2
    . rw[AV z]at q;show V (I.cq b v q)
theorem Lz{st:C2}(h:Ez X st t):Ez X st (λD U H=>∃a,(∀o u,H a≠AA (.frz o u))/\t {D with nx:=λJ H'=>∃o u,H' a=AA (.frz o u)/\D.nx J (AM H' a u)} U H):=by intro V s U H D I⟨a,Y,w⟩;have Z:=λo u z=>Y o u (I.af.vo _ _ _ z);show Ax (h _ s U H _ I w) λf A q=>?_;cases f with|next=>obtain⟨J,H',W,o,u,e,q⟩:_:=q;show⟨J,_,W.afa e Z,q⟩|brk=>show q|cont=>show q|ret u=>show q
def Nc(o:BR)(kvs:List (AN×AE))(d:AB):GL:=⟨λi H=>H d=AA (.frz o (.dK kvs))/\i<kvs.length,λi H x D=>D=H/\∃p,kvs[i]?=AA p/\x=p.2,λi H=>H d=AA (.frz o (.dK kvs))/\kvs.length<=i⟩
theorem xV{K:As}(d it:AB)(j:o.data=.dict u ep):K4 P w K tg (Nc o kvs d) [it] it (λi h=>h.IsValIter it d i kvs.length ep)where
 abt:=by simp
 au:=λi h D b f=>by obtain⟨o,e,c,d⟩:_:=D;simp_all
 ab:=λi h a D k=>by obtain⟨o,e,r⟩:_:=D;show⟨o,(k _ Dr _ e),r⟩
 vy:=by intro X M hw L g i Z s σ H E I N D O;subst M hw L;lk;obtain⟨e,Q⟩:=O;obtain⟨z,J,U⟩:=Nw I.cq e j;k_in;have Y:=Ic J;have S:z[i]?=AA (z[i]'(by simp_all)):=(by simp);have R:kvs[i]?=AA kvs[i]:=(by simp);have T:=Pa J R S;generalize kvs[i]=p at R T;generalize z[i]'(BY Q (Bi Y))=q at S T;lk;obtain⟨k,x⟩:=q;obtain⟨A,B,v,C,F,G⟩:=N it (by simp);k_in;rw[Y]at D;show wpAny_pyNext_values_item D U S λa W y=>?_;have l:=I.fo (t':=s.toks) (λb o f e=>(y.2 b f).trans e) A B C F G;obtain⟨o',t,m,n⟩:_:=id W;rw[<-Y]at W;show⟨x,rfl,Mm t m n (by decide) ⟨p.2,H,l,T.2,⟨rfl,p,R,rfl⟩,W,(by(simp[*]))⟩⟩
 vx:=by intro X M hw L g i Z s σ H E I N D O;subst M hw L;lk;obtain⟨e,Q⟩:=O;obtain⟨z,J,U⟩:=Nw I.cq e j;have Y:=Ic J;obtain⟨A,B,v,C,F,G⟩:=N it (by simp);k_in;rw[Y]at D;show wpAny_pyNext_values_end (I.ok.hd g) D U (R8.mpr (Ag (Bi Y.symm) Q)) λa eb=>⟨rfl,I.fo (by assumption) A B C F G⟩
 xi:=λ_ _ _ _ _ D h=>wpAny_pyIter_valiter D h
def Na(o:BR)(kvs:List (AN×AE))(d:AB):GL:=⟨λi H=>H d=AA (.frz o (.dK kvs))/\i<kvs.length,λi H x D=>∃r p,kvs[i]?=AA p/\x=.ref r/\H r=AG/\D=AM H r (.tup [Au p.1,p.2]),λi H=>H d=AA (.frz o (.dK kvs))/\kvs.length<=i⟩
theorem xU{K:As}(d it:AB)(y:o.data=.dict es ep):K4 P w K (.Tuple B x1 N) (Na o kvs d) [it] it (λi h=>∃Q R,IsItemIter h it d i kvs.length ep Q R)where
 abt:=by simp
 au:=(by simp_all)
 ab:=(by grind)
 vy:=by
  intro X a hw T v i L s σ H E I C D f;subst a hw T;lk;obtain⟨e,g⟩:=f;obtain⟨A,U,W⟩:=Nw I.cq e y;k_in;have Z:kvs.length=A.length:=Ic U;have z:A[i]?=AA (A[i]'(by simp_all)):=(by simp);have l:kvs[i]?=AA kvs[i]:=(by simp);have S:=Pa U l z;generalize kvs[i]=p at l S;generalize A[i]'(BY g (Bi Z))=q at z S;lk;obtain⟨k,x⟩:=q;obtain⟨Q,R,D⟩:=D;k_in;rw[Z]at D;have r:it<s.heap.objs.size:=Ct D;show wpAny_pyNext_items_item D W z λG h' F eo ht hsz kk=>⟨_,rfl,wpAny_letOwnedTupleGo_items eo λO c sb=>?_⟩;have hn:=I.cq.cj (Aj _);have M:s.heap.objs.size≠it:=M5 r;have Y:∀b o,b∉[it]->s.heap.get? b=AA o->O.get? b=AA o:=λb o J q=>by have t:b≠it:=(List.ne_of_not_mem_cons J);show(sb.2 b t).trans (kk b o t q)
  have hk:p.1=k:=S.1;have rk:Be (Au p.1) G:=by rw[hk];show Uk F
  have m:=(sb.2 _ M).trans ht;have j:DY X.ai X.w (AM H s.heap.objs.size (.tup [Au p.1,p.2])) O:=by show(I.cq.aau [it] (λb J=>(C b J).1) Y).aaz hn ?_;show⟨show 2<=Az by decide,[G,x],.cons rk (.cons S.2 .nil),⟨_,m,rfl,_,rfl⟩⟩
  have un:Hi (Gx X.ft) [it] H (AM H s.heap.objs.size (.tup [Au p.1,p.2])) s.heap O:=by
   show⟨(λu1 u2 u3 u4 u5 u6=>Y _ _ u6 u3),λb o q n J z=>⟨o.slots,Y b o z q⟩,λb o q n z=>?_,(by grind),λb ys q=>?_,λb o u q=>?_,λb ps q=>?_⟩;.rw[AV (ET (Ct q))];show n
   .rw[AV (by grind)];show q
   .rw[AV (by grind)];show q
   .show⟨#[],by rw[AV (by grind),AAw];show q⟩
  have I2:=I.aam (s':={s with heap:=O}) (ch:=[it]) rfl un j I.mf λb J=>by obtain⟨q0,q1,q2,q3,q4,q5⟩:=C b J;(constructor<;>lia)
  rw[<-Z]at c;show⟨.ref s.heap.objs.size,_,I2,rfl,⟨_,p,l,rfl,hn,rfl⟩,(by grind),λb J=>?_⟩;have e:b=it:=Bm.mp J;subst e;rw[AV M.symm];show(C b J).1
 vx:=by intro X a hw T v i L s σ H E I C D f;subst a hw T;lk;obtain⟨e,g⟩:=f;obtain⟨A,U,W⟩:=Nw I.cq e y;have Z:kvs.length=A.length:=Ic U;obtain⟨f0,f1,f2,f3,f4,f5⟩:=C it (by simp);obtain⟨Q,R,D⟩:=D;k_in;rw[Z]at D;show wpAny_pyNext_items_end (I.ok.hd v) D W (R8.mpr (Ag (Bi Z.symm) g)) λh' eb=>⟨rfl,I.fo (t':=s.toks) (by assumption) f0 f1 f3 f4 f5⟩
 xi:=λ_ _ _ _ _ D h=>by obtain⟨Q,R,D⟩:_:=D;show W.kcp_self D h
def ZN(J:BR->List (AN×AE)->AB->GL)(Y:Av):F3:=λZ H R=>Y Z H λx U=>E2 (λa D=>x=.ref a) (λa D=>U a=AA (.dK D)) (λa D=>∀o W,W=AM U a (.frz o (.dK D))->R (J o D a) W)
theorem Aa.mh(I:Aa X D B H s)(q:H a=AA (.dK kvs)):∃vs o J ep,Ey kvs vs/\o.data=.dict J ep/\(a==KZ)=AR/\Aa X D B (AM H a (.frz o (.dK kvs))) s/\s.heap.DictAt (Eo X.ai X.w) a vs ep:=by obtain⟨z,A,vs,U,o,J,ep,W,Z,Y,r⟩:_:=(show DZ _ _ H _ a _ from I.cq a _ q);show⟨vs,o,J,ep,U,Y,A,I.vw (by rw[q];trivial) (.inl rfl) (λE u2 u3 C=>C) ⟨o,W⟩ ⟨W,z,A,vs,U,o,J,ep,W,Z,Y,r⟩,o,J,W,Z,Y,r⟩
theorem vH(ho:Al X o tl)(hbase:Js o "values" X.ae (Ba o X.ae)=Ba o X.ae)(hline:(apos.endLine==pos.line)=AK):GN X tg (.Call (.Attribute o "values" apos) [] [] pos) (ZN Nc tl):=by intro pins s σ H R I h;show SW (T:="dict") (id:="dict.values") hbase rfl hline SO ACl F.type_dict_values (Ax (ho pins s σ H _ I h) λv s1 hh11=>?_);obtain⟨x,H1,I1,r1,a,kvs,e,q0,q⟩:_:=hh11;subst e;lk;cases r1;obtain⟨vs,o,es,ep,rel,hd,lo,I2,hat⟩:=I1.mh q0;k_in;have hl:kvs.length=vs.length:=Ic rel;show⟨hat.dictOf.typeIs,hat.dictOf.mapOf.noDict,?_⟩;show ADc ACl F.entry_dict_values rfl (AAS ⟨rfl,hat.dictOf.typeIs,(by rfl),_,meets_dict_values (Eo X.ai X.w) a lo,⟨vs,hat.dictOf⟩,?_⟩);show wpAny_pyIter_values (knd:=Eo X.ai X.w) (d:=a) (kvs:=vs) (ep:=ep) ⟨_,F7 _ rfl,rfl,rfl⟩ (hat.push _) ?_;have I3:Aa X pins σ (AM H1 a (.frz o (.dK kvs))) {s1 with heap:=s1.heap.push {cls:=.type "dict_values",data:=.fields #[.ref a]}}:=I2.iq (t':=s1.toks) λb o e=>C1 _ e;generalize s1.heap.push _=h1 at I3⊢;show⟨h1.objs.size,[h1.objs.size],_,Nc o kvs a,_,rfl,I3.iq (t':=s1.toks) λb o e=>C1 _ e,xV a _ hd,⟨_,F7 _ rfl,rfl,by simp_all⟩,λb hb=>?_,q o _ rfl⟩;have e:b=h1.objs.size:=Bm.mp hb;subst e;show I3.uw (Aj _) (I3.cq.cj (Aj _))
theorem U2(ho:Al X o tl)(hbase:Js o "items" X.ae (Ba o X.ae)=Ba o X.ae)(hline:(apos.endLine==pos.line)=AK):GN X (.Tuple elts x1 tpos) (.Call (.Attribute o "items" apos) [] [] pos) (ZN Na tl):=by intro pins s σ H R I h;show SW (T:="dict") (id:="dict.items") hbase rfl hline SO ACj F.type_dict_items (Ax (ho pins s σ H _ I h) λv s1 hh11=>?_);obtain⟨x,H1,I1,r1,a,kvs,e,q0,q⟩:_:=hh11;subst e;lk;cases r1;obtain⟨vs,o,es,ep,rel,hd,lo,I2,hat⟩:=I1.mh q0;k_in;have hl:kvs.length=vs.length:=Ic rel;show⟨hat.dictOf.typeIs,hat.dictOf.mapOf.noDict,?_⟩;show ADc ACj F.entry_dict_items rfl (AAS ⟨rfl,hat.dictOf.typeIs,(by rfl),_,meets_dict_items (Eo X.ai X.w) a lo,⟨vs,hat.dictOf⟩,?_⟩);show wpAny_pyIter_items (knd:=Eo X.ai X.w) (d:=a) (kvs:=vs) (ep:=ep) ⟨_,F7 _ rfl,rfl,rfl⟩ (hat.push _) ?_;have I3:Aa X pins σ (AM H1 a (.frz o (.dK kvs))) {s1 with heap:=s1.heap.push {cls:=.type "dict_items",data:=.fields #[.ref a]}}:=I2.iq (t':=s1.toks) λb o e=>C1 _ e;generalize s1.heap.push _=h1 at I3⊢;show⟨h1.objs.size,[h1.objs.size],_,Na o kvs a,_,rfl,I3.iq (t':=s1.toks) λb o e=>C1 _ e,xU a _ hd,⟨.none,.none,by rw[hl];show F7 _ rfl⟩,λb hb=>?_,q o _ rfl⟩;have e:b=h1.objs.size:=Bm.mp hb;subst e;show I3.uw (Aj _) (I3.cq.cj (Aj _))
theorem sO{d:AB}{o:BR}{kvs:List (AN×AE)}{g:Eh}{E:Cz}{D:HH}{J:Ah}{H:AH}(Y:Nat->Ah->AH->Prop)(F:Y 0 J H)(K:∀i J H,i<=kvs.length->Y i J H->H d=AA (.frz o (.dK kvs)))(M:∀(i:Nat)p J H,kvs[i]?=AA p->Y i J H->g p.2 J H λz A=>E {D with nx:=Y (i+1),ct:=Y (i+1),bk:=D.nx} z A)(I:∀J H,Y kvs.length J H->D.nx J H):∃W:Nat->Nat->Ah->AH->Prop,(∃m,W 0 m J H)/\∀i m J H,W i m J H->((Nc o kvs d).ux i H/\D.nx J H)\/((Nc o kvs d).go i H/\∃N:Ah->AH->Prop,(∀Z H',N Z H'->∃C,C<m/\W (i+1) C Z H')/\∀x H',(Nc o kvs d).aaj i H x H'->g x J H' λz A=>E {D with nx:=N,ct:=N,bk:=D.nx} z A):=by
 show⟨λi m J H=>m=kvs.length-i/\i<=kvs.length/\Y i J H,⟨kvs.length,by simp,Bc _,F⟩,?_⟩;intro i m J H G;obtain⟨rfl,B,p⟩:_:=G;have q:=K i J H B p;by_cases U:i<kvs.length
 . show .inr ⟨⟨q,U⟩,_,λZ H' O=>⟨_,Hv _ _ U,rfl,U,O⟩,λx H' y=>?_⟩;obtain⟨e,P,L,rfl⟩:_:=y;subst e;show M i P J _ L p
 . have:=Ec B (FQ U);subst this;show .inl ⟨⟨q,Aj _⟩,I J H p⟩
theorem Uc{d:AB}{o:BR}{kvs:List (AN×AE)}{g:Eh}{E:Cz}{D:HH}{J:Ah}{H:AH}(Y:Nat->Ah->AH->Prop)(F:Y 0 J H)(K:∀i J H,i<=kvs.length->Y i J H->H d=AA (.frz o (.dK kvs)))(O:∀(i:Nat)p J H r,kvs[i]?=AA p->Y i J H->H r=AG->g (.ref r) J (AM H r (.tup [Au p.1,p.2])) λz A=>E {D with nx:=Y (i+1),ct:=Y (i+1),bk:=D.nx} z A)(I:∀J H,Y kvs.length J H->D.nx J H):∃W:Nat->Nat->Ah->AH->Prop,(∃m,W 0 m J H)/\∀i m J H,W i m J H->((Na o kvs d).ux i H/\D.nx J H)\/((Na o kvs d).go i H/\∃N:Ah->AH->Prop,(∀Z H',N Z H'->∃C,C<m/\W (i+1) C Z H')/\∀x H',(Na o kvs d).aaj i H x H'->g x J H' λz A=>E {D with nx:=N,ct:=N,bk:=D.nx} z A):=by
 show⟨λi m J H=>m=kvs.length-i/\i<=kvs.length/\Y i J H,⟨kvs.length,by simp,Bc _,F⟩,?_⟩;intro i m J H G;obtain⟨rfl,B,p⟩:_:=G;have q:=K i J H B p;by_cases U:i<kvs.length
 . show .inr ⟨⟨q,U⟩,_,λZ H' P=>⟨_,Hv _ _ U,rfl,U,P⟩,λx H' y=>?_⟩;obtain⟨r,Q,L,rfl,M,rfl⟩:_:=y;show O i Q J _ r L p M
 . have:=Ec B (FQ U);subst this;show .inl ⟨⟨q,Aj _⟩,I J H p⟩
local macro_rules | `(#v[]) => `(Ea) | `(#v[$x]) => `(Zn $x Ea) | `(#v[$x,$xs,*]) => `(Zn $x #v[$xs,*])
inductive Kc(CX:JB)(P:Co)(w:CC)(K:As)(mg:AF->Option AL)(base:BZ)(k:Nat)(R:AB->Prop)(sp:BF):Prop|mk{f:AB}{fd:JU}{ps:List AF}(r:R f)(b:Le K fd ps [])(F:Hg P w K mg base CX k f fd ps sp):Kc CX P w K mg base k R sp
inductive MM(K:As)(R:AB->Prop)(x q:AF)(st:C2)(N:List AF)(n:Nat):Prop|mk{f:AB}{fd:JU}(r:R f)(F:PB K x q st f fd)(b:Le K fd (N.take n) [])(S:Mg N (N.take n) (DG st)):MM K R x q st N n
abbrev Sr(K:As)(D:AF->Option AL)(x:AF)(f:AB):Prop:=D x=AA (.ref f)/\SU K (.ref f)=AK
abbrev CL(K:As)(D:AF->Option AL)(x:AF):=MM K (Sr K D x) x x
abbrev El(K:As)(C:AB)(m:AF):=MM K (RC K C m) m
abbrev MN(K:As)(C:AB):=MM K (RD K C) "__init__"
abbrev MM.Ok{K:As}{st:C2}(_:MM K R x q st N n)(CX:JB)(P:Co)(w:CC)(D:AF->Option AL)(base:BZ)(k:Nat)(sp:BF):Prop:=Kc CX P w K D base k R sp
theorem MM.ok{K:As}{st:C2}(D:MM K R x q st N n)(Y:∀(B:N.Nodup)(f:AB)(U:AL)(A:DV)(J:List Ed)(s:AZ),D6 k (A.deeper (MC q (DG st) s.heap.objs.size f U))->∀(H:AH)(vs:List AE)(Q:Bf)(E:HJ),sp vs H Q E->∃t,F1 (Mj BC P w K z base N q (DG st) f U A J s H E).ads (Lm st) t/\t {nx:=λO H'=>Q .non H',rt:=Q} (Ms N vs) H)(W:∀vs H Q E,sp vs H Q E->vs.length=(N.take n).length:=by intro _ _ _ _ h;first|(obtain⟨rfl,_⟩:=h;rfl)|(obtain⟨_,rfl,_⟩:=h;rfl)|(obtain⟨_,_,rfl,_⟩:=h;rfl)|(obtain⟨_,_,_,rfl,_⟩:=h;rfl)|(obtain⟨_,_,_,_,rfl,_⟩:=h;rfl)|(obtain⟨_,_,_,_,_,rfl,_⟩:=h;rfl)|(obtain⟨_,_,_,_,_,_,rfl,_⟩:=h;rfl)|(obtain⟨_,_,_,_,_,_,_,rfl,_⟩:=h;rfl)|(obtain⟨_,_,_,_,_,_,_,_,rfl,_⟩:=h;rfl)|(obtain⟨_,_,_,_,_,_,_,_,_,rfl,_⟩:=h;rfl)|(obtain⟨_,_,_,_,_,_,_,_,_,_,rfl,_⟩:=h;rfl)|(obtain⟨_,_,_,_,_,_,_,_,_,_,_,rfl,_⟩:=h;rfl)|(obtain⟨_,_,_,_,_,_,_,_,_,_,_,_,rfl,_⟩:=h;rfl)|(obtain⟨_,_,_,_,_,_,_,_,_,_,_,_,_,rfl,_⟩:=h;rfl)|(obtain⟨_,_,_,_,_,_,_,_,_,_,_,_,_,_,rfl,_⟩:=h;rfl)|(obtain⟨_,_,_,_,_,_,_,_,_,_,_,_,_,_,_,rfl,_⟩:=h;rfl)|(obtain⟨_,_,_,_,_,_,_,_,_,_,_,_,_,_,_,_,rfl,_⟩:=h;rfl)|(obtain⟨_,_,_,_,_,_,_,_,_,_,_,_,_,_,_,_,_,rfl,_⟩:=h;rfl)|(cases h;subst_vars;rfl)):Kc BC P w K z base (k+1) R sp:=by cases D with|mk r F b S=>show⟨r,b,F.ok S W λU A J s H vs Q E Z h=>Y S.nd _ U A J s Z H vs Q E h⟩
theorem BE{x:AF}(c:Kc BC X.ai X.w X.K X.mg X.af k (Sr X.K X.mg x) sp)(C:D6 n X.A)(Z:Gf X (e::D) t)(B:k<=n:=by decide)(A:Ge X x:=by rfl)(J:(x==("__debug__":AF))=AR:=by decide)(z:Cp (e::D) X.ae=(AR,Ba e X.ae)::Cp D X.ae:=by rfl)(U:(GU V (Cp D X.ae)).any (·.1)=AR:=by rfl):Al X (.Call (.Name x p) (e::D) [] V) (wX sp [] Mf t):=by intro Y s E H Q I h;cases c with|mk r b F=>show QO (PU I A r.1 ?_ J);show AAC I.ok.wt.adk r.2 (Ax (Z _ _ s E H _ I h) λK s1⟨L,G,W,r,q⟩=>⟨W.sj,?_⟩) z U;show VB F (C.aae B) b .nil JL W r q
theorem EX(he:Al X o ta)(c:Gv X.K C)(h:Kc BC X.ai X.w X.K X.mg X.af k (RC X.K C m) sp)(hr:D6 n X.A)(ha:Gf X (e::es) t)(hn:k<=n:=by decide)(hst:Cp (e::es) X.ae=(AR,Ba e X.ae)::Cp es X.ae:=by rfl)(hpl:(GU pos (Cp es X.ae)).any (·.1)=AR:=by rfl)(ht:Ba (.Call (.Attribute o m apos) (e::es) [] pos) X.ae=(do
 let ov<-Ba o X.ae
 standAt apos.atName let(f,first)<-holding [ov] (dJ ov m pl)callWith pos f first (GU pos (Cp (e::es) X.ae)) (QE pos (QK [] X.ae))):=by rfl):Al X (.Call (.Attribute o m apos) (e::es) [] pos) (aP C m sp [] Mf ta t):=by intro pins s σ H Q I g;cases h with|mk r b F=>show ADO (Ax (he _ s σ H _ I g) λu s1⟨x,H1,I1,rx,a,dx,fs,ex,ea,l,q⟩=>?_) ht;subst ex;obtain rfl:u=Ds a:=rx;show ZM I1 ea c r l ?_;show AAC I.ok.wt.adk r.kp (Ax (ha _ _ s1 σ H1 _ I1 q) λus s2⟨vs,H2,I2,r,q2⟩=>⟨I2.sj,?_⟩) hst hpl;show VB (vs:=.ref a::vs) F (hr.aae hn) b .nil JL I2 (.cons rfl r) q2
theorem Km{K:D4 Bool}(A:Al X o M)(c:Gv X.K C)(h:Kc BC X.ai X.w X.K X.mg X.af k (RC X.K C m) sp)(E:D6 n X.A)(B:k<=n:=by decide)(G:Ba (.Call (.Attribute o m J) [] [] D) X.ae=(do
 let W<-Ba o X.ae
 standAt J.atName let(f,U)<-holding [W] (dJ W m K)callWith D f U (GU D (Cp [] X.ae)) (QE D (QK [] X.ae))):=by rfl):Al X (.Call (.Attribute o m J) [] [] D) (aP C m sp [] Mf M Mu):=by intro Y s N H Q I g;cases h with|mk r b F=>show ADO (Ax (A _ s N H _ I g) λu s1⟨x,O,V,L,a,P,R,z,Z,l,q⟩=>?_) G;subst z;obtain rfl:u=Ds a:=L;show ZM V Z c r l ?_;show ADC V.sj r.kp (VB (vs:=[.ref a]) F (E.aae B) b .nil JL V (.cons rfl .nil) q)
theorem Ma{x:AF}(h:Kc CX X.ai X.w X.K X.mg X.af k (RD X.K C) sp)(K:D6 n X.A)(B:X.mg x=AA (.ref C))(L:PJ CX X E)(Z:Gf X (e::D) t)(G:k+1<=n:=by decide)(A:Ge X x:=by rfl)(J:(x==("__debug__":AF))=AR:=by decide)(z:Cp (e::D) X.ae=(AR,Ba e X.ae)::Cp D X.ae:=by rfl)(U:(GU V (Cp D X.ae)).any (·.1)=AR:=by rfl):Al X (.Call (.Name x p) (e::D) [] V) (aO C sp [] E t):=by intro Y s N H Q I g;cases h with|mk M b F=>show QO (PU I A B ?_ J);show AAC I.ok.wt.adk M.kp (Ax (Z _ _ s N H _ I g) λP s1⟨R,O,W,r,q⟩=>⟨W.sj,?_⟩) z U;show aA M F (K.aae G) b .nil L W r q
theorem Xr{x:AF}(h:Kc CX X.ai X.w X.K X.mg X.af k (RD X.K C) sp)(Y:D6 n X.A)(V:X.mg x=AA (.ref C))(Z:PJ CX X E)(W:k+1<=n:=by decide)(U:Ge X x:=by rfl)(D:(x==("__debug__":AF))=AR:=by decide):Al X (.Call (.Name x p) [] [] z) (aO C sp [] E Mu):=by intro J s A H Q I g;cases h with|mk M b F=>show QO (PU I U V ?_ D);show ADC I.sj M.kp (aA M F (Y.aae W) b .nil Z I .nil g)
theorem lQ{x y:AF}{K:As}(h:Kc BC X.ai X.w X.K X.mg X.af k (Sr X.K X.mg y) sp)(N:D6 n X.A)(W:X.mg x=AG)(P:QI x=AA (.builtin "sorted"))(E:Al X e c)(C:k+2<=n:=by decide)(G:Ge X y:=by rfl)(O:Ge X x:=by rfl)(B:X.K=K:=by rfl)(L:x≠"__name__":=by decide)(U:(x==("__debug__":AF))=AR:=by decide)(V:(y==("__debug__":AF))=AR:=by decide)(J:GU Y (Cp [e] X.ae)=[(AR,Ba e X.ae)]:=by rfl):Al X (.Call (.Name x p) [e] [⟨AA "key",.Name y i,j⟩] Y) (xQ K sp c):=by subst B;intro z s d H Q I g;cases h with|mk r b F=>show QO (KN I O W P ?_ L U);show callWith_kw ?_ J (by simp_all) rfl rfl;rw[J];show LJ (Ax (E _ s d H _ I g) λu s1 D=>?_);obtain⟨v,f,Z,T,a,l,S,A,M,R,q⟩:_:=D;show OO ?_;subst A;obtain rfl:u=Ds a:=T;show wpAny_evalAll_cons (BI (PU Z G r.1 (BI (AAf (Cq (wpAny_evalAll_nil ?_)))) V));show wQ F b (N.aae C) Z M R q
theorem TF{K:As}{st:C2}(r:R f)(l:K.lookup f=AA ⟨A,B,.func (OT x q (Nr st) (Lm st) (DG st) .none Y J Z V D W),z⟩)(c:dB K D q=AK)(k:SU K (.ref f)=AK)(S:Mg N (N.take n) (DG st))(b:∀(Y J Z:AL)(V:Option AB)(D W:AL)(U:List AL),U.length=(N.take n).length->AAN (OT x q (Nr st) (Lm st) (DG st) .none Y J Z V D W) ⟨U,[]⟩=Bn ((N.take n).zip U)):MM K R x q st N n:=⟨r,Ud l c k,(Ud l c k).acs b,S⟩
theorem i5{K:As}{D:AF->Option AL}{g:JV->AL}(X:K.In h)(G:h.Ns LQ D)(e:W.nsIn K LQ x=AA (AA (g t))):∃t,D x=AA (g t):=⟨t,AAJ X G e⟩
theorem gY{K:As}(a:Hz K (.ref C) "__getattribute__"=AA (AA (.builtin "BaseException.__getattribute__")))(b:Hz K (.ref C) "__getattr__"=AA AG)(c:Hz K (.ref C) "__class__"=AA (AA (.builtin "object.__class__")))(d:dI K (.ref C) (.type "BaseException")=AA AK)(e:dI K (.ref C) (.type "object")=AA AK)(i:ADE K C=AA D):qR K C:=⟨a,b,c,d,e,by rw[i];rfl⟩
theorem pS{K:As}(l:K.lookup f=AA ⟨.type "tuple",AG,.seq vs n,D⟩)(a:vs.size<=Az)(b:Bb xs vs.toList)(H:AH):Cs K H f xs:=.inr ⟨_,_,_,l,rfl,rfl,a,b⟩
theorem jK{K:As}(l:K.lookup f=AA ⟨.type "tuple",AG,.seq vs n,D⟩):∃o,K.lookup f=AA o/\o.cls=.type "tuple"/\o.dict=AG:=⟨_,l,rfl,rfl⟩
theorem qB(h:J.length=1):∃D,J=[D]:=by match J,h with|[D],_=>show⟨D,rfl⟩
theorem qC(h:U.length=2):∃D J,U=[D,J]:=by match U,h with|[D,J],_=>show⟨D,J,rfl⟩
theorem qE(h:V.length=3):∃D J U,V=[D,J,U]:=by match V,h with|[D,J,U],_=>show⟨D,J,U,rfl⟩
theorem qG(h:W.length=4):∃D J U V,W=[D,J,U,V]:=by match W,h with|[D,J,U,V],_=>show⟨D,J,U,V,rfl⟩
theorem qH(h:Y.length=5):∃D J U V W,Y=[D,J,U,V,W]:=by match Y,h with|[D,J,U,V,W],_=>show⟨D,J,U,V,W,rfl⟩
seal Al HI Mi Gf Ez F1 Kx PH GN Ky RF CP RM FX Ni Nl
def BS(i:Nat):C2:=AEE.main.body.getD i (.Pass ⟨0,0,0,0⟩)
abbrev YD:C2:=BS 12
abbrev O5:C2:=BS 31
abbrev Tt:C2:=BS 32
abbrev X5:C2:=Du (BS 37) 2
abbrev X8:C2:=Du (BS 42) 1
abbrev YC:C2:=BS 44
abbrev Tu:C2:=BS 48
abbrev Tv:C2:=BS 50
abbrev X9:C2:=BS 56
abbrev YB:C2:=BS 57
abbrev YA:C2:=BS 65
abbrev X7:C2:=Du (BS 66) 0
abbrev Tw:C2:=BS 79
abbrev Ts:C2:=BS 82
theorem YK:Mg ["_law_script","_law_most","_law_plan_here","_law_slack","_law_many","_law_house","_law_flow","_law_keys","_law_homes","_law_held","_law_k","_law_event_here","_law_found","_law_number_here","_law_rows"] ["_law_script"] (DG Ts):=Rt
set_option genInjectivity false in structure Br where
 xw:AB
 zj:JU
 aj:AB
 bb:AB
 jc:AB
 ik:AB
 bj:AB
 de:AB
 dq:AB
 ym:AB
 wx:AB
 su:AB
structure BL(K:As)(mg:AF->Option AL)(ad:Br):Prop where
 yk:mg "Clock"=AA (.ref ad.aj)aaq:mg "Group"=AA (.ref ad.bb)zq:mg "Side"=AA (.ref ad.jc)abm:mg "Join"=AA (.ref ad.ik)abk:mg "Flow"=AA (.ref ad.bj)abl:mg "Hand"=AA (.ref ad.de)aar:mg "House"=AA (.ref ad.dq)df:Gv K ad.aj
 qj:Eg K ad.aj "slack"fq:Eg K ad.aj "now"jw:Eg K ad.aj "count"cb:Gv K ad.bb
 mj:Eg K ad.bb "step"cv:Eg K ad.bb "rows"dw:Gv K ad.jc
 cy:Eg K ad.jc "rows"fm:Gv K ad.ik
 gv:Eg K ad.ik "within"cw:Eg K ad.ik "sides"bu:Gv K ad.bj
 ur:Eg K ad.bj "plan"jm:Eg K ad.bj "clock"ic:Eg K ad.bj "joins"gm:Eg K ad.bj "groups"jx:Eg K ad.bj "number"bw:Gv K ad.de
 uv:Eg K ad.de "plan"fi:Eg K ad.de "joins"cx:Eg K ad.de "groups"ao:Gv K ad.dq
 il:Eg K ad.dq "clock"ax:Eg K ad.dq "hands"gu:Eg K ad.dq "homes"vf:CL K mg "is_whole" (BS 5) ["thing"] 1
 ve:CL K mg "is_among" (BS 6) ["thing","least","most"] 3
 jz:MN K ad.aj "Clock.__init__" (Du (BS 9) 0) ["self","slack"] 2
 ox:El K ad.aj "admit" "Clock.admit" (Du (BS 9) 1) ["self","time"] 2
 zi:CL K mg "ahead" (BS 11) ["rows","mark","low","high","middle"] 2
 uq:CL K mg "with_keys" YD ["rows","told","key"] 1
 yg:CL K mg "starts" (BS 14) ["time","size","step","first"] 3
 zl:CL K mg "meets" (BS 15) ["start","end","time","most","last"] 4
 uk:CL K mg "names_end" (BS 20) ["step"] 1
 wj:CL K mg "name_of" (BS 21) ["step"] 1
 wg:CL K mg "feeders" (BS 22) ["step"] 1
 uj:CL K mg "is_teller" (BS 23) ["step"] 1
 vn:CL K mg "tally_of" (BS 25) ["amount"] 1
 zh:CL K mg "added" (BS 26) ["one","other"] 2
 zo:CL K mg "value" (BS 27) ["sort","tally"] 2
 qy:CL K mg "put_window" (BS 29) ["pieces","start","end","tally","place","there"] 4
 vk:CL K mg "put_each" (BS 30) ["pieces","time","amount","size","step","told","start"] 5
 wk:CL K mg "put_gap" O5 ["pieces","time","amount","most","met","rest","start","end","tally","piece"] 4
 yb:CL K mg "parted" Tt ["pieces","now","over","still"] 2
 yd:CL K mg "put_by" (BS 34) ["step","pieces","item"] 3
 ye:CL K mg "row_of" (BS 35) ["step","key","piece"] 3
 vi:CL K mg "order_of" (BS 36) ["row"] 1
 kc:MN K ad.bb "Group.__init__" (Du (BS 37) 0) ["self","step"] 2
 tw:El K ad.bb "put" "Group.put" (Du (BS 37) 1) ["self","item","key"] 2
 oz:El K ad.bb "close" "Group.close" X5 ["self","now","told","key"] 2
 qo:El K ad.bb "take" "Group.take" (Du (BS 37) 3) ["self","key","now","pieces","pair"] 3
 nv:El K ad.bb "pieces" "Group.pieces" (Du (BS 37) 4) ["self"] 1
 ng:MN K ad.jc "Side.__init__" (Du (BS 39) 0) ["self"] 1
 vc:El K ad.jc "put" "Side.put" (Du (BS 39) 1) ["self","item","pair","row","place"] 2
 uh:El K ad.jc "near" "Side.near" (Du (BS 39) 2) ["self","key","low","high","row"] 4
 uf:El K ad.jc "drop" "Side.drop" (Du (BS 39) 3) ["self","least","key","row","kept"] 2
 ug:El K ad.jc "kept" "Side.kept" (Du (BS 39) 4) ["self"] 1
 vh:CL K mg "met_item" (BS 41) ["side","item","pair","first","second"] 3
 mw:MN K ad.ik "Join.__init__" (Du (BS 42) 0) ["self","within"] 2
 ud:El K ad.ik "come" "Join.come" X8 ["self","side","item","met"] 3
 ue:El K ad.ik "drop" "Join.drop" (Du (BS 42) 2) ["self","now","side"] 2
 wo:CL K mg "tellers" YC ["plan"] 1
 zm:CL K mg "taken" (BS 46) ["step","event"] 2
 yh:CL K mg "turned" (BS 47) ["step","item"] 2
 yc:CL K mg "passed" Tu ["step","streams"] 2
 ya:CL K mg "joined" (BS 49) ["join","streams","made","side","items","item"] 2
 yf:CL K mg "spread" Tv ["plan","joins","event","brought","told","place","step","streams","items"] 3
 vg:CL K mg "joins_of" (BS 52) ["plan","joins","place","step"] 1
 ui:CL K mg "groups_of" (BS 53) ["plan","groups","place"] 1
 um:CL K mg "put_event" (BS 54) ["plan","joins","groups","event","place","item"] 4
 vd:CL K mg "drop_all" (BS 55) ["joins","now","join"] 2
 xy:CL K mg "closed" X9 ["groups","now","told","place","group"] 2
 wm:CL K mg "rows_of" YB ["told"] 1
 ml:MN K ad.bj "Flow.__init__" (Du (BS 58) 0) ["self","plan","slack"] 3
 tj:El K ad.bj "come" "Flow.come" (Du (BS 58) 1) ["self","event"] 2
 nq:El K ad.bj "told_by" "Flow.told_by" (Du (BS 58) 2) ["self","now","rows"] 2
 oy:El K ad.bj "finish" "Flow.finish" (Du (BS 58) 3) ["self"] 1
 vm:CL K mg "put_item" (BS 60) ["joins","item"] 2
 uo:CL K mg "put_piece" (BS 61) ["groups","piece"] 2
 mn:MN K ad.de "Hand.__init__" (Du (BS 63) 0) ["self","plan"] 2
 qr:El K ad.de "bring" "Hand.bring" (Du (BS 63) 1) ["self","event"] 2
 ph:El K ad.de "forget" "Hand.forget" (Du (BS 63) 2) ["self","now"] 2
 uc:El K ad.de "over" "Hand.over" (Du (BS 63) 3) ["self","now"] 2
 ny:El K ad.de "give_up" "Hand.give_up" (Du (BS 63) 4) ["self","key","items","place","join","side","kept","pieces","group"] 2
 oa:El K ad.de "take_in" "Hand.take_in" (Du (BS 63) 5) ["self","key","parcel","place","side","time","amount","start","end","tally"] 3
 qx:CL K mg "first_home" YA ["key","many"] 2
 kg:MN K ad.dq "House.__init__" X7 ["self","plan","slack","many"] 4
 qv:El K ad.dq "home" "House.home" (Du (BS 66) 1) ["self","key"] 2
 qw:El K ad.dq "move" "House.move" (Du (BS 66) 2) ["self","key","number","parcel"] 3
 qu:El K ad.dq "come" "House.come" (Du (BS 66) 3) ["self","event","hand"] 2
 mv:El K ad.dq "told_by" "House.told_by" (Du (BS 66) 4) ["self","now","told","hand"] 2
 oe:El K ad.dq "finish" "House.finish" (Du (BS 66) 5) ["self"] 1
 ni:CL K mg "_law_cell_at" (BS 68) ["_law_script","_law_k"] 2
 og:CL K mg "_law_number" (BS 69) ["_law_script","_law_k","_law_base"] 2
 qg:CL K mg "_law_names" (BS 70) ["_law_script","_law_start","_law_many","_law_some","_law_number_here","_law_step","_law_word","_law_j","_law_place","_law_names_here","_law_k","_law_sign"] 3
 qh:CL K mg "_law_scale" (BS 71) ["_law_script"] 1
 oh:CL K mg "_law_stream" (BS 72) ["_law_name","_law_number_here","_law_streams","_law_scale_here","_law_one","_law_other","_law_low"] 4
 oi:CL K mg "_law_teller" (BS 73) ["_law_name","_law_number_here","_law_streams","_law_scale_here","_law_one","_law_sort","_law_step"] 4
 pj:CL K mg "_law_bound" (BS 74) ["_law_step","_law_sizes","_law_most"] 3
 qz:CL K mg "_law_plan" (BS 75) ["_law_script","_law_most","_law_names_here","_law_kinds","_law_scale_here","_law_plan_here","_law_sizes","_law_wide","_law_many","_law_joined","_law_k","_law_number_here","_law_streams","_law_step"] 2
 pz:CL K mg "_law_event" (BS 76) ["_law_script","_law_k","_law_number_here","_law_scale_here","_law_time","_law_kind","_law_keys","_law_key","_law_amount"] 2
 qe:CL K mg "_law_first" (BS 77) ["_law_key","_law_many","_law_total","_law_sign"] 2
 qf:CL K mg "_law_moved" (BS 78) ["_law_house","_law_homes","_law_keys","_law_number_here","_law_key","_law_turn","_law_hand","_law_order","_law_one","_law_due"] 4
 nj:CL K mg "_law_keys_of" Tw ["_law_hand","_law_found","_law_place","_law_side"] 1
 jl:CL K mg "_law_keeps_alike" (BS 80) ["_law_house","_law_flow","_law_place","_law_side","_law_found","_law_hand"] 2
 jh:CL K mg "_law_hands_right" (BS 81) ["_law_house","_law_homes","_law_many","_law_number_here","_law_key","_law_due"] 2
 adm:mg "law"=AA (.ref ad.xw)abp:PB K "law" "law" Ts ad.xw ad.zj
 zy:∃t,mg "LETTERS"=AA (.str "abcdefghijklmnopqrstuvwxyz" t)wz:∃t,mg "MOST_SLACK"=AA (.int 1000000000 t)aao:mg "PAIRED"=AA (.ref ad.ym)aaw:∀H,Cs K H ad.ym [.str "both",.str "join"]aab:mg "TELLERS"=AA (.ref ad.wx)aah:∀H,Cs K H ad.wx [.str "each",.str "gap"]aaa:mg "TALLIES"=AA (.ref ad.su)aag:∀H,Cs K H ad.su [.str "count",.str "sum",.str "least",.str "greatest"]aad:∃o,K.lookup ad.su=AA o/\o.cls=.type "tuple"/\o.dict=AG
 acn:mg "bool"=AG
 iz:mg "enumerate"=AG
 aba:mg "int"=AG
 rh:mg "isinstance"=AG
 gw:mg "len"=AG
 jg:mg "list"=AG
 zx:mg "max"=AG
 abb:mg "min"=AG
 jo:mg "range"=AG
 jq:mg "sorted"=AG
 aea:mg "sum"=AG
inductive EB{A B C:Type}(z:A->B->C->Prop):Prop|mk(a:A)(b:B)(c:C)(_:z a b c)
inductive GX{A B C D:Type}(z:A->B->C->D->Prop):Prop|mk(a:A)(b:B)(c:C)(d:D)(_:z a b c d)
inductive IF{A B C D E:Type}(z:A->B->C->D->E->Prop):Prop|mk(a:A)(b:B)(c:C)(d:D)(e:E)(_:z a b c d e)
inductive IG{A B C D E F:Type}(z:A->B->C->D->E->F->Prop):Prop|mk(a:A)(b:B)(c:C)(d:D)(e:E)(f:F)(_:z a b c d e f)
inductive Kd{A B C D E F G:Type}(z:A->B->C->D->E->F->G->Prop):Prop|mk(a:A)(b:B)(c:C)(d:D)(e:E)(f:F)(g:G)(_:z a b c d e f g)
inductive Qd{A B C D E F G H:Type}(z:A->B->C->D->E->F->G->H->Prop):Prop|mk(a:A)(b:B)(c:C)(d:D)(e:E)(f:F)(g:G)(h:H)(_:z a b c d e f g h)
inductive MP{A B C D E F G H I:Type}(z:A->B->C->D->E->F->G->H->I->Prop):Prop|mk(a:A)(b:B)(c:C)(d:D)(e:E)(f:F)(g:G)(h:H)(i:I)(_:z a b c d e f g h i)
inductive MO{A B C D E F G H I J:Type}(z:A->B->C->D->E->F->G->H->I->J->Prop):Prop|mk(a:A)(b:B)(c:C)(d:D)(e:E)(f:F)(g:G)(h:H)(i:I)(j:J)(_:z a b c d e f g h i j)
inductive Sn{A B C D E F G H I J K:Type}(z:A->B->C->D->E->F->G->H->I->J->K->Prop):Prop|mk(a:A)(b:B)(c:C)(d:D)(e:E)(f:F)(g:G)(h:H)(i:I)(j:J)(k:K)(_:z a b c d e f g h i j k)
inductive V7{A B C D E F G H I J K L:Type}(z:A->B->C->D->E->F->G->H->I->J->K->L->Prop):Prop|mk(a:A)(b:B)(c:C)(d:D)(e:E)(f:F)(g:G)(h:H)(i:I)(j:J)(k:K)(l:L)(_:z a b c d e f g h i j k l)
inductive So{A B C D E F G H I J K L M:Type}(z:A->B->C->D->E->F->G->H->I->J->K->L->M->Prop):Prop|mk(a:A)(b:B)(c:C)(d:D)(e:E)(f:F)(g:G)(h:H)(i:I)(j:J)(k:K)(l:L)(m:M)(_:z a b c d e f g h i j k l m)
inductive Qc{A B C D E F G H I J K L M N:Type}(z:A->B->C->D->E->F->G->H->I->J->K->L->M->N->Prop):Prop|mk(a:A)(b:B)(c:C)(d:D)(e:E)(f:F)(g:G)(h:H)(i:I)(j:J)(k:K)(l:L)(m:M)(n:N)(_:z a b c d e f g h i j k l m n)
inductive V8{A B C D E F G H I J K L M N O:Type}(z:A->B->C->D->E->F->G->H->I->J->K->L->M->N->O->Prop):Prop|mk(a:A)(b:B)(c:C)(d:D)(e:E)(f:F)(g:G)(h:H)(i:I)(j:J)(k:K)(l:L)(m:M)(n:N)(o:O)(_:z a b c d e f g h i j k l m n o)
inductive V9{A B C D E F G H I J K L M N O P:Type}(z:A->B->C->D->E->F->G->H->I->J->K->L->M->N->O->P->Prop):Prop|mk(a:A)(b:B)(c:C)(d:D)(e:E)(f:F)(g:G)(h:H)(i:I)(j:J)(k:K)(l:L)(m:M)(n:N)(o:O)(p:P)(_:z a b c d e f g h i j k l m n o p)
inductive WA{A B C D E F G H I J K L M N O P Q:Type}(z:A->B->C->D->E->F->G->H->I->J->K->L->M->N->O->P->Q->Prop):Prop|mk(a:A)(b:B)(c:C)(d:D)(e:E)(f:F)(g:G)(h:H)(i:I)(j:J)(k:K)(l:L)(m:M)(n:N)(o:O)(p:P)(q:Q)(_:z a b c d e f g h i j k l m n o p q)
inductive NK(a b:Prop):Prop|mk(_:a)(_:b)
inductive ML(a b c:Prop):Prop|mk(_:a)(_:b)(_:c)
inductive JX(a b c d:Prop):Prop|mk(_:a)(_:b)(_:c)(_:d)
inductive Ek(a b c d e:Prop):Prop|mk(_:a)(_:b)(_:c)(_:d)(_:e)
inductive Im(a b c d e f:Prop):Prop|mk(_:a)(_:b)(_:c)(_:d)(_:e)(_:f)
inductive Io(a b c d e f g:Prop):Prop|mk(_:a)(_:b)(_:c)(_:d)(_:e)(_:f)(_:g)
inductive ID(a b c d e f g h:Prop):Prop|mk(_:a)(_:b)(_:c)(_:d)(_:e)(_:f)(_:g)(_:h)
inductive Jv(a b c d e f g h i:Prop):Prop|mk(_:a)(_:b)(_:c)(_:d)(_:e)(_:f)(_:g)(_:h)(_:i)
inductive Of(a b c d e f g h i j:Prop):Prop|mk(_:a)(_:b)(_:c)(_:d)(_:e)(_:f)(_:g)(_:h)(_:i)(_:j)
inductive MK(a b c d e f g h i j k:Prop):Prop|mk(_:a)(_:b)(_:c)(_:d)(_:e)(_:f)(_:g)(_:h)(_:i)(_:j)(_:k)
inductive Sm(a b c d e f g h i j k l:Prop):Prop|mk(_:a)(_:b)(_:c)(_:d)(_:e)(_:f)(_:g)(_:h)(_:i)(_:j)(_:k)(_:l)
inductive V3(a b c d e f g h i j k l m n:Prop):Prop|mk(_:a)(_:b)(_:c)(_:d)(_:e)(_:f)(_:g)(_:h)(_:i)(_:j)(_:k)(_:l)(_:m)(_:n)
inductive V4(a b c d e f g h i j k l m n o p:Prop):Prop|mk(_:a)(_:b)(_:c)(_:d)(_:e)(_:f)(_:g)(_:h)(_:i)(_:j)(_:k)(_:l)(_:m)(_:n)(_:o)(_:p)
inductive V5(a b c d e f g h i j k l m n o p q:Prop):Prop|mk(_:a)(_:b)(_:c)(_:d)(_:e)(_:f)(_:g)(_:h)(_:i)(_:j)(_:k)(_:l)(_:m)(_:n)(_:o)(_:p)(_:q)
inductive Sx{a b:Type}(A B C D E F G H I J K:a->b->Prop):Prop|mk(a:a)(b:b)(_:A a b)(_:B a b)(_:C a b)(_:D a b)(_:E a b)(_:F a b)(_:G a b)(_:H a b)(_:I a b)(_:J a b)(_:K a b)
def NY(K:As):BF:=λU H Q O=>∃(a:AB)(D:List Int),U=[.ref a]/\CD K H a (D.map AE.int)/\D.length<=63/\∀J,Q (.bl AK) J
theorem iO(K:As)(H:AH)(a:AB)(ns:List Int)(J:ns.length<=63)(_:PF H)(D:CD K H a (ns.map AE.int)):NY K [.ref a] H (λv O=>v=.bl AK) λO O O=>False:=⟨a,ns,rfl,D,J,λO=>rfl⟩
abbrev Ou:Nat:=16
structure Sq where
 K:As
 mg:AF->Option AL
 ad:Br
noncomputable def UD:Sq:=@ADv Sq ⟨⟨fG,λO=>AG,⟨0,fG,0,0,0,0,0,0,0,0,0,0⟩⟩⟩ λx=>BL x.K x.mg x.ad/\¬∀(P:Co)(w:CC)(D:BZ),Hg P w x.K x.mg D BC Ou x.ad.xw x.ad.zj ["_law_script"] (NY x.K)
noncomputable def AJ:As:=UD.K
noncomputable def Af:AF->Option AL:=UD.mg
noncomputable def AI:Br:=UD.ad
theorem BP(W:Al X e J)(V:Js e f X.ae (Ba e X.ae)=Ba e X.ae)(U:X.K=AJ:=by rfl):Al X (.Attribute e f D) (Pl AJ J f):=by rw[<-U];show Zv W V
theorem FH(Z:Al X o V)(A:Al X D W)(z:OZ D (AA (.Attribute o f J)) U.line X.ae=Bn AR)(Y:X.K=AJ:=by rfl):Ez X (.Assign [.Attribute o f J] D U) (aB AJ V W f):=by rw[<-Y];show vP Z A z
theorem J7(W:X.je=AK)(h:PH X D t)(Y:(QD D X.ae).length=D.length:=by rfl)(J:(QD D X.ae).findIdx? (·.1)=AG:=by rfl)(V:X.K=AJ:=by rfl):Kx X (.Tuple D k U) (Ug AJ D.length t):=by rw[<-V];show Zy W h Y J
def f6(D:AB)(J:Int)(U W Y:Option AE):Ah:=[AA (.ref D),AA (.int J),U,W,Y]
def gB(D:AB)(J:Option AE)(U:AB)(W Y:Option AE):Ah:=[AA (.ref D),J,AA (.ref U),W,Y]
def gC(D J:AB)(U W:Int)(Y:Option AE):Ah:=[AA (.ref D),AA (.ref J),AA (.int U),AA (.int W),Y]
def gE(D:AB)(J:AF)(U:Int)(V W:AB):Ah:=[AA (.ref D),AA (.str J),AA (.int U),AA (.ref V),AA (.ref W)]
def fZ(D:AB)(J U:Int)(W:AB)(Y:Int)(Z:Option AE):Ah:=[AA (.ref D),AA (.int J),AA (.int U),AA (.ref W),AA (.int Y),Z]
def Sz(D J:AB)(U:Int)(W Y Z:Option AE):Ah:=[AA (.ref D),AA (.ref J),AA (.int U),W,Y,Z]
def Om(D J:AB)(U W Y Z:Option AE):Ah:=[AA (.ref D),AA (.ref J),U,W,Y,Z]
def WJ(D J U:AB)(W Y Z:Option AE):Ah:=[AA (.ref D),AA (.ref J),AA (.ref U),W,Y,Z]
def gD(D J U W:AB)(Y Z:Option AE):Ah:=[AA (.ref D),AA (.ref J),AA (.ref U),AA (.ref W),Y,Z]
def fX(D:AB)(J U W Y:Int)(Z:AB)(z:Option AE):Ah:=[AA (.ref D),AA (.int J),AA (.int U),AA (.int W),AA (.int Y),AA (.ref Z),z]
def Sy(D:AB)(J U W Y:Int)(Z z A B:Option AE):Ah:=[AA (.ref D),AA (.int J),AA (.int U),AA (.int W),AA (.int Y),Z,z,A,B]
def Qj(D J U W Y:AB)(Z z A B:Option AE):Ah:=[AA (.ref D),AA (.ref J),AA (.ref U),AA (.ref W),AA (.ref Y),Z,z,A,B]
def S4(D:AB)(J:AF)(U:AB)(W Y Z z A B:Option AE):Ah:=[AA (.ref D),AA (.str J),AA (.ref U),W,Y,Z,z,A,B]
def fY(D:AB)(J U W:Int)(Y Z:AB)(z A:Int)(B:AB)(C:Option AE):Ah:=[AA (.ref D),AA (.int J),AA (.int U),AA (.int W),AA (.ref Y),AA (.ref Z),AA (.int z),AA (.int A),AA (.ref B),C]
def Qi(D J U:AB)(W:Int)(Y:AF)(Z z A B C:Option AE):Ah:=[AA (.ref D),AA (.ref J),AA (.ref U),AA (.int W),AA (.str Y),Z,z,A,B,C]
def WK(D:AB)(J:AF)(U:AB)(W Y Z z A B C:Option AE):Ah:=[AA (.ref D),AA (.str J),AA (.ref U),W,Y,Z,z,A,B,C]
def WH(U:AB)(W Y:Int)(Z:AF)(z A:Int)(B:AF)(C E F D J:Option AE):Ah:=[AA (.ref U),AA (.int W),AA (.int Y),AA (.str Z),AA (.int z),AA (.int A),AA (.str B),C,E,F,D,J]
def f9(Y:AB)(Z:Int)(z A:AB)(B:Int)(C E:AB)(F G H:Int)(D J U W:Option AE):Ah:=[AA (.ref Y),AA (.int Z),AA (.ref z),AA (.ref A),AA (.int B),AA (.ref C),AA (.ref E),AA (.int F),AA (.int G),AA (.int H),D,J,U,W]
def Lb(Z:AB)(z:Int)(A:AB)(B:Int)(C E F G H I D J U W Y:Option AE):Ah:=[AA (.ref Z),AA (.int z),AA (.ref A),AA (.int B),C,E,F,G,H,I,D,J,U,W,Y]
abbrev Iu:AF:="abcdefghijklmnopqrstuvwxyz"
def Ju(z:AF):Prop:=∀c∈z.cps.toList,97<=c/\c<123
theorem TZ(z:AF):z.length=z.cps.toList.length:=by simp[AC4]
theorem WU(a b:AF):(a++b).cps.toList=a.cps.toList++b.cps.toList:=by change(a.cps++b.cps).toList=_;simp
def Cu(z:AF):Prop:=Ju z/\z.length<=12
theorem Cu.ok(h:Cu z):SQ z=AK:=by unfold SQ;rw[<-Array.all_toList,List.all_eq_true];intro c D;have:=h.1 c D;simp;show FR (B8 this.2) (by decide)
theorem Ju.aej(J:Ju a)(U:Ju b):Ju (a++b):=λc D=>by
 rw[WU]at D;rcases Ce.mp D with h|h;.show J c h
 .show U c h
theorem gU(J:0<=j)(U:j<=k)(Z:k<=(x.length:Int))(V:Ju x):Ju (LO x AG (AA j))/\Ju (LO x (AA k) AG)/\((LO x AG (AA j)).length:Int)=j/\((LO x (AA k) AG).length:Int)=x.length-k:=by
 have W:LO x _ _=AC5 x AG (AA j):=rfl;have Y:LO x (AA k) AG=AC5 x _ _:=rfl;have z:=TZ x;rw[W,Y,StrLaws.sliceText_to ⟨J,GB U Z⟩,StrLaws.sliceText_from ⟨GB J U,by assumption⟩];show⟨λc D=>V c (bQ (bR D)),λc D=>V c (bQ (bR D)),?_,?_⟩
 . rw[TZ];rw[Er,M3];lia
 . rw[TZ];rw[Er,M3];omega
theorem iP(m:Int):∃c,DQ Iu.cps.toList (m%26)=AA c/\Ju ⟨#[c]⟩:=by
 obtain⟨v,V,U⟩:_:=Hj Iu.cps.toList 26 (by decide+kernel) (by decide) m;have D:∀c∈Iu.cps.toList,97<=c/\c<123:=by decide+kernel
 show⟨v,V,λc J=>?_⟩;have e:=by simpa using J
 rw[e];show D v U
def mV(K:As):BF:=λJ H Q O=>(EB λ(a:AB)(D:List Int)(k:Int)=>Ek (J=[.ref a,.int k]) (CD K H a (D.map AE.int)) (0<=k) (D.length<=63) (∀r:Int,Q (.int r) H))
theorem O1(T:BL AJ Af AI):T.ni.Ok BC P w Af base 1 (mV AJ):=by
 show T.ni.ok λz O O O O O Z H A Q E h=>?_;obtain⟨a,D,i,rfl,U,W,Y,k⟩:_:=h;show⟨_,(Ai (CF (Bw Rk (AD 1) (DI (F4 (K:=AJ)) (by rfl) T.gw F8 #v[AD 0]) (Bs _)) (Ab (BD (DR AJ (AD 0) (AD 1)))) Cd) (Ab (BD AQ))),?_⟩;show⟨_,.inl U,_,rfl,IM (λe=>?_) λe=>k 0⟩;rw[Aq]at e;have J:i.toNat<D.length:=by simp_all
 show⟨_,.int D[i.toNat],U,?_,k _⟩;have q:=Ap (xs:=D.map AE.int) (j:=i.toNat) (v:=.int D[i.toNat]) (by rw[Bt,Ck J];rfl);rw[ABQ W]at q;show q
def oH(K:As):BF:=λJ H Q O=>(EB λ(a:AB)(D:List Int)(k:Int)=>Ek (J=[.ref a,.int k]) (CD K H a (D.map AE.int)) (D.length<=63) (0<=k) (∀r:Int,0<=r->Q (.int r) H))
theorem O3(T:BL AJ Af AI):T.og.Ok BC P w Af base 1 (oH AJ):=by
 show T.og.ok λZ O O O O O B H C Q E h=>?_;obtain⟨a,J,k,rfl,D,A,Y,q⟩:_:=h;show⟨_,(Ai (CF (Bw DH (DI (F4 (K:=AJ)) (by rfl) T.gw F8 #v[AD 0]) AQ (Bs _)) (Ab (BD (AW FK AQ (AD 1)))) Cd) (Ai (Aw 2 Z (AW C5 (AW C5 (DR AJ (AD 0) (AW Bu (AD 1) (DI (F4 (K:=AJ)) (by rfl) T.gw F8 #v[AD 0]))) (AW FK AQ (AW Ci (AD 1) (DI (F4 (K:=AJ)) (by rfl) T.gw F8 #v[AD 0])))) (AW FK AQ (AD 1)))) (Ab (BD (AW Bu (AW FK (AD 2) AQ) AQ))))),?_⟩;have z:((J.map AE.int).length:Int)=J.length:=by rw[Aq]
 show⟨_,.inl D,rfl,_,rfl,EG (λe=>?_) λe=>?_⟩;.show⟨.inl ⟨by decide,by decide⟩,q _ ((Int.le_mul_iff_le_right (by decide)).mpr Y)⟩
 . have e:0<(J.map AE.int).length:=Int.natCast_ne_zero_iff_pos.mp e;lk;obtain⟨v,W,U⟩:=Hj (J.map AE.int) _ rfl (fM.mpr e) k;obtain⟨n,_,rfl⟩:=Ay.mp U;k_in;show⟨_,.inl D,(by change(0:Int)<_;show fM.mpr e),_,_,D,W,?_⟩;show⟨_,.inl D,⟨fM.mpr e,by lia⟩,.inl ⟨by decide,by decide⟩,.inl ⟨by decide,by decide⟩,?_⟩;show⟨.inr ⟨by decide,by decide⟩,(zzp rfl),q _ (Fu _ (by decide))⟩
def Oq(m:Int):Nat:=97+(m%26).toNat
theorem iQ(m:Int):DQ Iu.cps.toList (m%26)=AA (Oq m):=by
 have D:∀r:Fin 26,DQ Iu.cps.toList (r.val)=AA (97+r.val):=by decide+kernel
 have J:=Fu m (show(26)≠0 by decide);have U:=Gr m (show(0)<26 by decide);have h:=D ⟨(m%26).toNat,by simp_all⟩;have e:=ABQ J;rw[show((⟨(m%26).toNat,_⟩:Fin 26).val:Int)=m%26 from e]at h;show h
theorem gM(m:Int):Ju ⟨#[Oq m]⟩:=λc D=>by
 have e:=by simpa using D
 rw[e];unfold Oq;lia
def NP(u v:AF)(c:Int)(k:Nat):AF:=u++⟨#[Oq (c+3*(k:Int))]⟩++v
theorem jI(hi:i<12)(W:j<12)(e:NP u v c i=NP u v c j):i=j:=by
 have D:=AE2 (λz:AF=>z.cps.toList) e;unfold NP at D;simp only[WU]at D;have J:=List.append_cancel_right D;have U:=List.append_cancel_left J;have V:=by simpa using U
 unfold Oq at V;omega
theorem jJ(u v:AF)(c:Int)(h:n<=12):((FZ n).map (NP u v c)).Nodup:=by rw[ABR,Hq];show AD0 (λ{a b}D J U e=>?_) ABq;rw[VQ]at D J;show U (jI (BY D h) (BY J h) e)
def oE(K:As):BF:=λY H Q O=>(GX λ(a:AB)(U:List Int)(W m:Int)=>Io (Y=[.ref a,.int W,.int m]) (CD K H a (U.map AE.int)) (U.length<=63) (0<=W) (0<=m) (m<=12) (∀l J(D:List AF),An H J->H l=AG->J l=AA (.lst (D.map AE.str))->(D.length:Int)=m->D.Nodup->(∀z∈D,Cu z)->Q (.ref l) J))
theorem O2(T:BL AJ Af AI):T.qg.Ok BC P w Af base 2 (oE AJ):=by
  show T.qg.ok λD _ _ _ _ _ q H vs Q E h=>?_;obtain⟨a,s,f,m,rfl,g,p,R,d,e,k⟩:_:=h;show⟨_,(Ai (Aw 3 D Dq) (Ai (Aw 4 D (BE (O3 T) q #v[AD 0,AD 1])) (Ai (Aw 5 D (AW C5 AQ (AW Bu (AW Ci (AD 4) AQ) AQ))) (Ai (Aw 6 D Dq) (Ai (DB DK rfl (N8 (by rfl) T.jo #v[AW C5 AQ (AW Bu (AD 4) AQ)]) (Cc 7 D) (Ab (Aw 6 D (AW Uv (AD 6) (FL ZP (AD 3) (AW Bu (AW C5 (AW Ci (AD 4) AQ) (AW FK (AD 7) (AD 5))) AQ) (λ_ _=>rfl)))))) (Ai (Aw 8 D (AW Bu (AW Ci (AD 4) AQ) (DI rE (by rfl) T.gw F8 #v[AD 6]))) (Ai (Aw 9 D (C9 Ea)) (Ai (DB DK rfl (N8 (by rfl) T.jo #v[AD 2]) (Cc 10 D) (Ai (Aw 11 D (FL ZP (AD 3) (AW Bu (AW C5 (AW Ci (AD 4) AQ) (AW FK AQ (AD 10))) AQ) (λ_ _=>rfl))) (Ab (D8 (N6 AJ (AD 9) #v[AW Uv (AW Uv (HM aD (AD 6) IT (Gi (AD 8))) (AD 11)) (HM aD (AD 6) (Gi (AW C5 (AD 8) AQ)) IT)]))))) (Ab (BD (AD 9))))))))))),?_⟩;have sz:Az=16777216:=Dj;show⟨a,s,_,rfl,g,p,R,λn n0=>?_⟩;show⟨(zzd rfl),(zzp rfl),?_⟩;have J:0<=n%12/\n%12<12:=⟨Fu _ (by decide),Gr _ (by decide)⟩;have F:0<=n/312%25/\n/312%25<25:=⟨Fu _ (by decide),Gr _ (by decide)⟩;show⟨(zzp rfl),_,rfl,Int.le_add_of_sub_left_le (GB (by decide) J.1),AA4 (Qb J.2 (by decide)),?_⟩;show Nv (λj C L=>L=H/\∃(O:Option AE)(z:AF),C=(WH a f m Iu n (1+n/312%25) z O AG AG AG AG)/\z.length=j/\Ju z) ⟨rfl,AG,"",rfl,rfl,λc o=>by cases o⟩ ?_ ?_
  . intro j C X hj U;obtain⟨rfl,o8,z,rfl,G,Z⟩:_:=U;rw[V2];obtain⟨v,W,N⟩:_:=iP (n/12+(j:Int)*(1+n/312%25));show⟨(zzd rfl),.inr ⟨V0 (Il (by decide) F.1),AA4 (Qb F.2 (by decide))⟩,(zzp rfl),_,_,_,rfl,rfl,by decide+kernel,W,_,_,rfl,rfl,?_,rfl,_,_,rfl,?_,Z.aej N⟩
    . change z.length+1<=Az;lia
    .rw[c9,G];rfl
  . intro C X U;obtain⟨rfl,O,z,rfl,G,Z⟩:_:=U;have I:(z.length:Int)=1+n%12:=by lia
    show⟨(zzd rfl),z,rfl,by grind,(by change(0:Int)<(z.length:Int);show AE9 (V0 J.1) I.symm),?_⟩;have b:0<=n/7800%(z.length:Int)/\n/7800%(z.length:Int)<(z.length:Int):=⟨Fu _ (by lia),Gr _ (AE9 (V0 J.1) I.symm)⟩;obtain⟨t,u,p3,p4⟩:_:=gU (x:=z) (j:=n/7800%(z.length:Int)) (k:=n/7800%(z.length:Int)+1) b.1 (Qa (by decide)) b.2 Z;show⟨Bc _,λl Y=>⟨_,rfl,GB (by decide) d,G7 e (by decide),?_⟩⟩;show Nv (λi C L=>E2 (λ(A B:Option AE)=>C=(WH a f m Iu n (1+n/312%25) z O (AA (.int (n/7800%(z.length:Int)))) (AA (.ref l)) A B)) (λ_ _=>An X L) (λ_ _=>L l=AA (.lst (((FZ i).map (NP (LO z AG (AA (n/7800%(z.length:Int)))) (LO z (AA (n/7800%(z.length:Int)+1)) AG) (n/93600))).map AE.str)))) ⟨AG,AG,rfl,(CQ _).gy Y,AY⟩ ?_ ?_
    . intro i C S hi U;obtain⟨A,B,rfl,s1,M⟩:_:=U;rw[V2];have W:=iQ (n/93600+3*(i:Int));show⟨(zzd rfl),.inl ⟨by decide,by decide⟩,(zzp rfl),_,_,_,rfl,rfl,by decide+kernel,W,?_⟩;show⟨.inl ⟨rfl,_,Ac M⟩,_,rfl,z,rfl,by grind,_,_,rfl,rfl,?_,_,rfl,z,rfl,by grind,_,_,rfl,rfl,?_,l,_,_,rfl,rfl,M,by rw[Aq,Aq,OI];lia,?_⟩
      . change(LO z AG (AA (n/7800%(z.length:Int)))).length+1<=Az;grind
      . rw[c9];change(LO z AG (AA (n/7800%(z.length:Int)))).length+1+_<=Az;lia
      . show⟨_,_,rfl,s1.zg Y,?_⟩;rw[AY,bV,CW,CW];rfl
    . intro C S U;obtain⟨A,B,rfl,s1,M⟩:_:=U;show k l S _ s1 Y M ?_ (jJ _ _ _ (Sl.mpr e)) λy r=>?_;.rw[Aq,OI];show Int.natCast_toNat_eq_self.mpr d
      . obtain⟨i,_,rfl⟩:_:=Ay.mp r;show⟨(t.aej (gM _)).aej u,?_⟩;unfold NP;rw[c9,c9];change _+1+_<=12;lia
abbrev AO:=Int×AF×Int
def GJ(i:AO):List AN:=[.inl i.1,.inl i.2.2]
def J5(i:AO):List AN:=[.inr i.2.1,.inl i.1,.inl i.2.2]
def EM(i:AO):List AN:=[.inl i.1,.inr i.2.1,.inl i.2.2]
def Ss(m:Nat)(H:AH)(x:AE)(D:List AN):Prop:=∃a J,x=.ref a/\H a=AA (.tup (D.map Au++J))/\(J=[]\/m<=D.length)
theorem Q2(h:CV H xs kss):BJ (Ss m H) xs kss:=ES (λ_ _⟨a,e,q⟩=>⟨a,[],e,by rw[Dw];show q,.inl rfl⟩) h
def mS:BF:=λZ H Q O=>(IF λ(r W:AB)(Y:List AE)(D:List (List AN))(U:List AN)=>Io (Z=[.ref r,.ref W]) (H r=AA (.lst Y)) (BJ (Ss U.length H) Y D) (H W=AA (.tup (U.map Au))) ((∀J∈D,∀(i:Nat)k m,J[i]?=AA k->U[i]?=AA m->C0 k=C0 m)) (DP D) (∀n:Nat,n<=D.length->(∀(i:Nat)J,i<n->D[i]?=AA J->Bg J U=AK)->(∀(i:Nat)J,n<=i->D[i]?=AA J->Bg J U=AR)->Q (.int (n:Int)) H))
theorem mK(h:DP kss){i j:Nat}(J:i<=j)(U:kss[i]?=AA a)(D:kss[j]?=AA b):Bg b a=AR:=by
 by_cases e:i=j;. subst e;rw[U]at D;cases D;show PV _
 . lk;obtain⟨Y,V⟩:=BU.mp U;obtain⟨Z,W⟩:=BU.mp D;k_in;have:=Gn.mp h i j Y Z (DU J e);rw[V,W]at this;show this
theorem YL(h:DP kss){i j:Nat}(D:i<=j)(U:kss[i]?=AA a)(V:kss[j]?=AA b)(W:Bg b J=AK):Bg a J=AK:=ACC (show Hm.kle a b from mK h D U V) W
theorem O0(T:BL AJ Af AI):T.zi.Ok BC P w Af base 1 mS:=by
  show T.zi.ok λB _ _ _ _ _ hr H vs Q E h=>?_;obtain⟨r,g,n,U,C,rfl,X,hw,x,hs,m,k⟩:_:=h;show⟨_,(Ai (Aw 2 B AQ) (Ai (Aw 3 B (DI (F4 (K:=AJ)) (by rfl) T.gw F8 #v[AD 0])) (Ai (vQ DK (Bw Rk (AD 2) (AD 3) (Bs _)) (Ai (Aw 4 B (AW Ci (AW C5 (AD 2) (AD 3)) AQ)) (Ab (CF (Bw (uL (K:=AJ) hr.xu) (DR AJ (AD 0) (AD 4)) (AD 1) (Bs _)) (Ab (Aw 2 B (AW C5 (AD 4) AQ))) (Ab (Aw 3 B (AD 4))))))) (Ab (BD (AD 2)))))),?_⟩;obtain⟨O,F⟩:=CJ hw;show⟨_,.inl (Ac X),?_⟩;show yG (λZ S=>S=H/\∃(J D:Nat)(l:Option AE),Z=(gC r g (J:Int) (D:Int) l)/\J<=D/\D<=U.length/\(∀(i:Nat)W,i<J->U[i]?=AA W->Bg W C=AK)/\(∀(i:Nat)W,D<=i->U[i]?=AA W->Bg W C=AR)) (λZ _=>match Z with|[_,_,AA (.int J),AA (.int D),_]=>(D-J).toNat|_=>0) ⟨rfl,0,U.length,AG,by rw[O];rfl,Bc _,Aj _,λi W h=>by simp_all,λi W h e=>by have:=(BU.mp e).1;show absurd this (Va.mpr h)⟩ ?_ ?_
  . intro Z S hI;obtain⟨rfl,J,D,l,rfl,h1,c,d,f⟩:_:=hI;show⟨_,rfl,IM (λe=>?_) λe=>?_⟩
    . have A:((J:Int)+(D:Int))/2=(((J+D)/2:Nat):Int):=by rfl
      have N:(J+D)/2<U.length:=by lia
      have L:=Ck N;have M:=Ck (show(J+D)/2<n.length by simp_all);obtain⟨a,zs,t,y,hz⟩:_:=F _ _ _ M L;rw[t]at M;have I:DQ n (((J:Int)+(D:Int))/2)=AA (.ref a):=by rw[A];show Ap M
      show⟨(zzd rfl),_,_,Ac X,I,a,g,U[(J+D)/2],zs,C,rfl,rfl,Ar y,Ar x,hz,hs _ (yP N),_,rfl,K6 (λb=>?_) λb=>?_⟩
      . show⟨⟨rfl,(J+D)/2+1,D,_,by rfl,by lia,c,λi W Y G=>YL m (Dc Y) G L b,f⟩,?_⟩;change((D:Int)-(((J:Int)+(D:Int))/2+1)).toNat<((D:Int)-(J:Int)).toNat;lia
      . show⟨⟨rfl,J,(J+D)/2,_,by rw[<-A];rfl,by lia,B8 N,d,λi W Y G=>?_⟩,?_⟩;.cases z:Bg W C with|false=>rfl|true=>rw[YL m Y L G z]at b;cases b
        . change((((J:Int)+(D:Int))/2)-(J:Int)).toNat<((D:Int)-(J:Int)).toNat;lia
    . have e:J=D:=Ec h1 (fL.mp (MJ e));subst e;show k J c d f
  . intro Z H1 R R' hR q;lk;obtain⟨v,o,q1⟩:=Ut q;obtain⟨u,p,q2⟩:=Ut q1;obtain⟨i,rfl,q3⟩:=IP q2;obtain⟨j,rfl,b,s,q4⟩:=IP q3;k_in;change Lx Z[2]? λv=>Lx Z[3]? _;rw[o,p];show⟨b,s,hR _ _ q4⟩
def LY(ex:List AB)(H:AH)(L:List AO)(q:AN×AE):Prop:=∃(z:AF)(r:AB)(J:List AE)(D:List (List AN)),q=(.inr z,.ref r)/\r∉ex/\H r=AA (.lst J)/\CV H J D/\D≠[]/\DP D/\D.Perm ((L.filter λi=>Ae (i.2.1=z)).map GJ)
structure Cg(ad:Br)(ex:List AB)(H:AH)(x d:AB)(L:List AO):Prop where au:∃dx,H x=AA (.ins ad.jc dx [("rows",.ref d)])ar:∃kvs,H d=AA (.dK kvs)/\(kvs.map (·.1)).Nodup/\kvs.length<=L.length/\(∀q∈kvs,LY ex H L q)/\∀i∈L,(Bj i.2.1:AN)∈kvs.map (·.1)
theorem LY.ab(h:LY ex H L q)(W:∀b xs,b∉ex->H b=AA (.lst xs)->H' b=AA (.lst xs))(t:Bk H H'):LY ex H' L q:=by obtain⟨z,r,xs,D,e,J,U,hw,r1⟩:_:=h;show⟨z,r,xs,D,e,J,W _ _ J U,hw.ab t,r1⟩
theorem Cg.ab(h:Cg J ex H x d L)(z:∀C D U,H x=AA (.ins C D U)->H' x=AA (.ins C D U))(Y:∀kvs,H d=AA (.dK kvs)->H' d=AA (.dK kvs))(Z:∀b xs,b∉ex->H b=AA (.lst xs)->H' b=AA (.lst xs))(t:Bk H H'):Cg J ex H' x d L:=by obtain⟨⟨D,e⟩,kvs,V,n,l,q,c⟩:_:=h;show⟨⟨D,z _ _ _ e⟩,kvs,Y _ V,n,l,λp W=>(q p W).ab Z t,c⟩
theorem Cg.ag(h:Cg D ex H x d L)(s:An H H'):Cg D ex H' x d L:=h.ab (λC U V e=>s _ _ e) (λJ e=>s _ _ e) (λb W O e=>s _ _ e) s.tp
theorem Cg.yn(h:Cg U ex H x d L)(s:BM J H H')(e:H J=AA (.dK kvs))(W:d≠J):Cg U ex H' x d L:=h.ab (λC Z A D=>s _ _ (λz=>by rw[z,e]at D;cases D) D) (λkvs D=>s _ _ W D) (λb Y O D=>s _ _ (λz=>by rw[z,e]at D;cases D) D) (s.tp e λY=>by intro z;cases z)
theorem Cg.wq(h:Cg J ex H x d L)(e:H c=AA (.lst xs))(W:c∈ex):Cg J ex (AM H c o) x d L:=h.ab (λC Z A D=>by rw[AV (λz=>by rw[z,e]at D;cases D)];show D) (λY D=>by rw[AV (λz=>by rw[z,e]at D;cases D)];show D) (λb xs U D=>by rw[AV (λz=>U (by rw[z];show W))];show D) ((Gg H).gy e λxs=>by intro z;cases z)
theorem Cg.ri(h:Cg W ex H x d L)(z:AF)(e:H d=AA (.dK kvs)):(BQ kvs (.inr z)=AG/\(L.filter λi=>Ae (i.2.1=z))=[])\/∃r xs kss,BQ kvs (.inr z)=AA (.ref r)/\r∉ex/\H r=AA (.lst xs)/\CV H xs kss/\kss≠[]/\DP kss/\kss.Perm ((L.filter λi=>Ae (i.2.1=z)).map GJ):=by lk;obtain⟨_,U,D,n,l,q,c⟩:=h;rw[e]at D;cases D;k_in;cases J:BQ kvs _ with|none=>show .inl ⟨rfl,Jm.mpr λi Z A=>?_⟩;have:=c i Z;rw[AE4 A]at this;show Po J this|some v=>lk;obtain⟨B,r,xs,kss,Y,r1⟩:=q _ (GS J);cases Y;k_in;show .inr ⟨r,xs,kss,rfl,r1⟩
theorem X3{L:List AO}{kss:List (List AN)}(p:kss.Perm ((L.filter λi=>Ae (i.2.1=z)).map GJ)):kss.length<=L.length:=by rw[p.length_eq,Aq];show FY _ _
theorem Mb{L:List AO}{kss:List (List AN)}(h:kss.Perm ((L.filter p).map GJ)):∀D∈kss,∃t a,D=[.inl t,.inl a]:=λD J=>by obtain⟨i,_,rfl⟩:_:=Ay.mp (h.mem_iff.mp J);show⟨_,_,rfl⟩
theorem Qz{kss:List (List AN)}{J:List AN}(h:∀D∈kss,∃t a,D=[.inl t,.inl a])(Y:∀m∈J,C0 m=AK):∀D∈kss,∀(i:Nat)k m,D[i]?=AA k->J[i]?=AA m->C0 k=C0 m:=λD W i k m U V=>by obtain⟨t,a,rfl⟩:_:=h D W;rw[Y m (Cm V)];have:=Cm U;simp at this;rcases this with rfl|rfl<;>rfl
theorem TC(xs:List AE)(n:Nat)(h:n<=xs.length):Gw xs AG (AA (n:Int))=xs.take n:=by
 unfold Gw;have J:CM xs.length 0 AG=0:=rfl;have D:CM xs.length xs.length (AA (n))=n:=by change(if(n:Int)<0 then((n:Int)+(xs.length)).toNat else D3 _ _)=n;rw[AEz (ABK _)];simp_all
 rw[D];rfl
theorem Qn(xs:List AE)(n:Nat)(h:n<=xs.length):Gw xs (AA (n:Int)) AG=xs.drop n:=by
 unfold Gw;have J:CM xs.length _ AG=xs.length:=rfl;have D:CM xs.length 0 (AA (n))=n:=by change(if(n)<0 then((n)+(xs.length:Int)).toNat else D3 _ _)=n;lia
 rw[D];show EH (by rw[M3];show Aj _)
theorem gT(xs:List AE)(n m:Nat)(h:n<=xs.length)(U:m<=xs.length):Gw xs (AA (n:Int)) (AA (m:Int))=(xs.drop n).take (m-n):=by
 unfold Gw;have D:∀d,CM xs.length d (AA (m))=m:=λd=>by change(if(m)<0 then((m)+(xs.length:Int)).toNat else D3 _ _)=m;lia
 have J:∀d,CM _ d (AA (n))=n:=λd=>by change(if(n)<0 then((n)+(xs.length:Int)).toNat else D3 _ xs.length)=n;lia
 rw[D,J]
theorem mE(sd:DP kss)(z:∀(i:Nat)D,i<n->kss[i]?=AA D->Bg D U=AK)(A:∀(i:Nat)D,n<=i->kss[i]?=AA D->Bg D U=AR):DP (kss.take n++[U]++kss.drop n):=by
  have B:∀D∈kss.take n,Bg D U=AK:=λD Y=>by obtain⟨i,W,e⟩:=Gk.mp Y;rw[Er]at W;show z i D (BY W (Jo _ _)) (by rw[<-e,OH];show Ck _)
  have Z:∀D∈kss.drop n,Bg D U=AR:=λD Y=>by obtain⟨i,W,e⟩:=Gk.mp Y;show A (n+i) D (by simp) (by rw[<-e,List.getElem_drop];show Ck _)
  have C:DP (kss.take n++kss.drop n):=by rw[Px];show sd
  obtain⟨s1,s2,s3⟩:_:=M4.mp C;show M4.mpr ⟨M4.mpr ⟨s1,bT _ _,λa J b V=>?_⟩,s2,λa J b V=>?_⟩
  . rw[Bm.mp V];show KW (O:=Hm) (B a J)
  . rcases Ce.mp J with J|J;.show s3 a J b V
    . rw[Bm.mp J];show Z b V
def oP(U:Br):BF:=λV H Q O=>(IG λ(J:List AB)(x d p:AB)(L:List AO)(i:AO)=>Im (V=[.ref x,.ref p]) (Cg U J H x d L) ((∀c∈J,∃o,H c=AA o)) (H p=AA (.tup ((EM i).map Au))) (L.length<=1000) (∀D,BM d H D->Cg U J D x d (L++[i])->Q .non D))
theorem Wd{L:List AO}{i:AO}:((L++[i]).filter λj=>Ae (j.2.1=z))=if i.2.1=z then(L.filter λj=>Ae (j.2.1=z))++[i]else L.filter λj=>Ae (j.2.1=z):=by
 rw[FD];by_cases e:i.2.1=z;.rw[AE0 e,G1,AE0 (AE1 e)];rfl
 . rw[AEz e,G1,AEz (by simpa using e)];simp
theorem Xb(T:BL AJ Af AI):T.vc.Ok BC P w Af base 2 (oP AI):=by
  show T.vc.ok λnd _ _ _ _ _ hr H vs Q E h=>?_;obtain⟨ex,x,d,p,L,⟨t,z,a⟩,rfl,sr,hex,S,hL,k⟩:_:=h;show⟨_,(Ai (Aw 2 nd (Cj #v[BA AJ (AD 1) AQ,BA AJ (AD 1) AQ])) (Ai (Aw 3 nd (Rl hr.u1 (BP (AD 0) rfl) (BA AJ (AD 1) AQ) (C9 Ea) ⟨rfl,rfl,rfl,rfl⟩)) (Ai (Aw 4 nd (BE (O0 T) hr #v[AD 3,AD 2])) (Ab (KP hr.u1 (BP (AD 0) rfl) (BA AJ (AD 1) AQ) (AW HK (AW HK (HM (K9 (K:=AJ)) (AD 3) IT (Gi (AD 4))) (C9 #v[AD 2])) (HM (K9 (K:=AJ)) (AD 3) (Gi (AD 4)) IT)) rfl))))),?_⟩;have sz:Az=16777216:=Dj;have i0:∀{a b c:AE},DQ [a,b,c] 0=AA a:=Ap (j:=0) rfl;have i1:∀{a b c:AE},DQ [a,b,c] 1=AA b:=Ap (j:=1) rfl;have i2:∀{a b c:AE},DQ [a,b,c] 2=AA c:=Ap (j:=2) rfl;have S:H p=AA (.tup [.int t,.str z,.int a]):=S;show⟨_,_,Ar S,i0,_,_,Ar S,i2,B6 rfl,λU hpp=>?_⟩;have s1:=Bv (o:=.tup [.int t,.int a]) hpp;have I:(AM H U (.tup [.int t,.int a])) U=AA (.tup ([.inl t,.inl a].map Au)):=AY;generalize AM H U (.tup [.int t,.int a])=H1 at s1 I⊢;have O:=sr.ag s1;lk;obtain⟨dx,eo⟩:=O.au;obtain⟨B,ed,nd',hk,hq,hc⟩:=id O.ar;k_in;have isd:Lg H1 d:=.inl ⟨B,.inl ed⟩;show⟨_,⟨eo,T.dw,T.cy,rfl⟩,d,rfl,isd,_,_,Ar (s1 _ _ S),i1,Bc _,λel hel=>?_⟩;show BK (o:=.lst []) hel λH2 s2 eel=>?_;have sr2:=O.ag s2;have l:=s2 _ _ ed;lk;obtain⟨M,D,J,erw,s,hw,sd,pm⟩:∃(r:AB)(D:List AE)(J:List (List AN)),(BQ B (.inr z)).getD (.ref el)=.ref r/\H2 r=AA (.lst D)/\CV H2 D J/\DP J/\J.Perm ((L.filter λi=>Ae (i.2.1=z)).map GJ):=by
    rcases sr2.ri z l with⟨e1,e2⟩|⟨r,D,J,e1,_,s,hw,_,sd,pm⟩;.show⟨el,[],[],by rw[e1];rfl,eel,JN _,.nil,by rw[e2];show .nil⟩
    .show⟨r,D,J,by rw[e1];rfl,s,hw,sd,pm⟩
  k_in;show⟨_,Me (k:=Bj z) l,?_⟩;rw[erw];have hl:=X3 pm;have hxl:=hw.gf;show⟨M,U,D,J,_,rfl,s,Q2 hw,s2 _ _ I,Qz (Mb pm) (by intro m X;simp only[CZ,Pu,AFB]at X;rcases X with rfl|rfl<;>rfl),sd,λn hn b1 b2=>?_⟩;show⟨_,rfl,M,D,rfl,Ac s,λc1 hc1=>?_⟩;rw[TC D n (by simp_all)];show BK (o:=.lst (D.take n)) hc1 λH3 s3 ec1=>?_;show⟨B6 rfl,λc2 hc2=>?_⟩;show BK (o:=.lst [.ref U]) hc2 λH4 s4 ec2=>?_;show⟨c1,c2,_,_,rfl,rfl,s4 _ _ ec1,ec2,by rw[Er];simp;lia,λc3 hc3=>?_⟩;have s5:=Bv (o:=.lst (D.take n++[.ref U])) hc3;have g:(AM H4 c3 (.lst (D.take n++[.ref U]))) c3=AA (.lst (D.take n++[.ref U])):=AY;generalize AM H4 c3 (.lst (D.take n++[.ref U]))=H5 at s5 g⊢;have N:=(s3.aa s4).aa s5;show⟨_,rfl,M,D,rfl,Ac (N _ _ s),λc4 hc4=>?_⟩;rw[Qn D n (by simp_all)];show BK (o:=.lst (D.drop n)) hc4 λH6 s6 ec4=>?_;show⟨c3,c4,_,_,rfl,rfl,s6 _ _ g,ec4,by rw[Bx,Er,M3];simp;lia,λY u=>?_⟩;have s7:=Bv (o:=.lst (D.take n++[.ref U]++D.drop n)) u;have G:(AM H6 Y (.lst (D.take n++[.ref U]++D.drop n))) Y=AA (.lst (D.take n++[.ref U]++D.drop n)):=AY;have C:=N.aa (s6.aa s7);have v:H6 Y=AG:=u;have nex:Y∉ex:=λX=>by obtain⟨o,ho⟩:=hex Y X;have:=((s1.aa s2).aa (N.aa s6)) _ _ ho;rw[v]at this;cases this
  generalize AM H6 Y (.lst (D.take n++[.ref U]++D.drop n))=R at s7 G C⊢;have W:=s2.aa C;have s07:=s1.aa W;have sr7:=sr2.ag C;obtain⟨dx7,A⟩:=sr7.au;have Z:=W _ _ ed;show⟨_,⟨A,T.dw,T.cy,rfl⟩,_,_,Ar (s07 _ _ S),i1,d,_,rfl,UH.k (k:=Bj z) Z (by lia),?_⟩;have rw7:CV R (D.take n++[.ref U]++D.drop n) (J.take n++[[.inl t,.inl a]]++J.drop n):=by have h7:=hw.ab C.tp;show D7 (D7 (Pc n h7) (.cons ⟨U,rfl,W _ _ I⟩ .nil)) (N5 n h7)
  have pm7:bG (J.take n++[([.inl t,.inl a]:List AN)]++J.drop n) (((L.filter λi:AO=>Ae (i.2.1=z))++[(t,z,a)]).map GJ):=by rw[CW,FN];show ABs.trans ((bI _ ?_).trans (List.perm_append_singleton (GJ (t,z,a)) _).symm);change(J.take n++J.drop n).Perm _;rw[Px];show pm
  have nr:∀b F,R b=AA (.lst F)->b≠d:=λb F e f=>by rw[f,Z]at e;cases e
  show k _ ((s07.x d).gy) ⟨⟨dx7,by rw[AV (λf=>by rw[f,Z]at A;cases A)];show A⟩,_,AY,Mo nd',?_,λq hq'=>?_,λj y=>?_⟩
  . have:=Rc B (Bj z) (.ref Y);rw[Bx,ABj];show Ag this (HQ.mpr hk)
  . have tp:Bk R (AM R d (.dK (Bh B (Bj z) (.ref Y)))):=(Gg R).gy Z λD=>by intro z;cases z
    rcases N0 hq' with rfl|⟨X,hne⟩
    . show⟨z,Y,_,_,rfl,nex,by rw[AV (nr _ _ G)];show G,rw7.ab tp,by simp,mE sd b1 b2,?_⟩;rw[Wd,AE0 rfl];show pm7
    . obtain⟨f,r',F,kss',rfl,h1,h2,h3,h4,h5,h6⟩:_:=(hq q X).ab (H':=R) (λb D _ e=>W _ _ e) W.tp;show⟨f,r',F,kss',rfl,h1,by rw[AV (nr _ _ h2)];show h2,h3.ab tp,h4,h5,?_⟩;rw[Wd,AEz (λe=>hne (by change Bj f=_;rw[<-e]))];show h6
  . rw[RZ];rcases Ce.mp y with y|y
    . have:=hc j y;split;.show this
      .show Hn _ this
    . rw[Bm.mp y];split;.assumption
      .show FE _ (Bm.mpr rfl)
theorem jH(sd:DP kss)(hi:∀D∈kss,∃t a,D=[.inl t,.inl a]){lo:Int}(V:∀(i:Nat)D,i<n->kss[i]?=AA D->Bg D [.inl lo]=AK)(W:∀(i:Nat)D,n<=i->kss[i]?=AA D->Bg D [.inl lo]=AR)(Y:∀(i:Nat)D,i<m->kss[i]?=AA D->Bg D [.inl (J+1)]=AK)(Z:∀(i:Nat)D,m<=i->kss[i]?=AA D->Bg D [.inl (J+1)]=AR):(kss.drop n).take (m-n)=kss.filter λD=>match D with|.inl t::_=>Ae (lo<=t/\t<=J)|_=>AR:=by
  have U:∀t a b:Int,Bg [.inl t,.inl a] [.inl b]=Ae _:=λt a b=>by
    change(if(C3 t)=C3 b then AR else Ae _)=_;split;. rename_i e;have e:=Ij e;rw[e];show(AE3 (fI b)).symm
    .rfl
  show PM λi D e=>?_;obtain⟨t,a,rfl⟩:_:=hi D (Cm e);by_cases z:i<n
  . have:=V i _ z e;rw[U]at this;lia
  . have A:=W i _ (by simp_all) e;rw[U]at A;by_cases B:i<m
    . have:=Y i _ B e;rw[U]at this;lia
    . have:=Z i _ (by simp_all) e;rw[U]at this;lia
def oF(Y:Br):BF:=λA H Q O=>(Kd λ(Z:List AB)(x d:AB)(L:List AO)(z:AF)(V U:Int)=>JX (A=[.ref x,.str z,.int V,.int U]) (Cg Y Z H x d L) (L.length<=1000) (∀J r W D,An H J->H r=AG->J r=AA (.lst W)->CV J W D->DP D->D.Perm ((L.filter λi=>Ae (i.2.1=z/\V<=i.1/\i.1<=U)).map GJ)->Q (.ref r) J))
theorem kO(T:BL AJ Af AI):T.uh.Ok BC P w Af base 2 (oF AI):=by
 show T.uh.ok λnd _ _ _ _ _ l H vs Q E h=>?_;obtain⟨ex,x,d,L,z,M,R,rfl,q,hL,k⟩:_:=h;show⟨_,(Ai (Aw 4 nd (Rl l.u1 (BP (AD 0) rfl) (AD 1) (C9 Ea) ⟨rfl,rfl,rfl,rfl⟩)) (Ab (BD (HM (K9 (K:=AJ)) (AD 4) (Gi (BE (O0 T) l #v[AD 4,Cj #v[AD 2]])) (Gi (BE (O0 T) l #v[AD 4,Cj #v[AW C5 (AD 3) AQ]])))))),?_⟩;lk;obtain⟨dx,eo⟩:=q.au;obtain⟨I,t,nd',hk,hq,hc⟩:=id q.ar;k_in;show⟨_,⟨eo,T.dw,T.cy,rfl⟩,d,rfl,.inl ⟨I,.inl t⟩,Bc _,λu f=>?_⟩;show BK (o:=.lst []) f λO s2 b=>?_;have s:=q.ag s2;have C:=s2 _ _ t;lk;obtain⟨Y,U,D,e,G,hw,A,Z⟩:∃(r:AB)(U:List AE)(D:List (List AN)),(BQ I (.inr z)).getD (.ref u)=.ref r/\O r=AA (.lst U)/\CV O U D/\DP D/\D.Perm ((L.filter _).map GJ):=by
  rcases s.ri z C with⟨B,a⟩|⟨r,U,D,B,_,G,hw,_,A,Z⟩;.show⟨u,[],[],by rw[B];rfl,b,JN _,.nil,by rw[a];show .nil⟩
  .show⟨r,U,D,by rw[B];rfl,G,hw,A,Z⟩
 k_in;show⟨_,Me (k:=Bj z) C,?_⟩;rw[e];have hxl:=hw.gf;show⟨B6 rfl,λX g=>?_⟩;have s3:=Bv (o:=.tup [.int M]) g;have F:(AM O X (.tup [.int M])) X=AA (.tup ([C3 M].map Au)):=AY;generalize AM O X (.tup [.int M])=y at s3 F⊢;show⟨Y,X,U,D,_,rfl,s3 _ _ G,Q2 (hw.ab s3.tp),F,Qz (Mb Z) (by intro m S;rw[Bm.mp S];rfl),A,λn hn a1 a2=>⟨_,rfl,?_⟩⟩;show⟨B6 rfl,λp j=>?_⟩;have s4:=Bv (o:=.tup [.int (R+1)]) j;have c:(AM y p (.tup [.int (R+1)])) p=AA (.tup ([C3 (R+1)].map Au)):=AY;have J:=s3.aa s4;show⟨Y,p,U,D,_,rfl,J _ _ G,Q2 (hw.ab J.tp),c,Qz (Mb Z) (by intro m S;rw[Bm.mp S];rfl),A,λm S b1 b2=>⟨_,rfl,?_⟩⟩;show⟨Y,U,rfl,Ac (J _ _ G),λr W=>?_⟩;rw[gT U n m (by simp_all) (by simp_all)];have N:=s2.aa J;have v:=jH A (Mb Z) a1 a2 b1 b2;show k _ r _ _ (N.gy W) (N.bc W) AY (Pc _ (N5 _ (hw.ab (J.gy W).tp))) ?_ ?_;. rw[v];show A.sublist Mx
 . rw[v];show(Z.filter _).trans (LF ?_);rw[OF,HP];congr 1;show JO λi _=>?_;change(Ae _&&Ae (i.2.1=z))=_;by_cases B:i.2.1=z<;>by_cases a:M<=i.1/\i.1<=R<;>simp[B,a]
theorem iT{α D:Type}{f:α->D}{l:List α}{i:Nat}{x:D}(h:(l.map f)[i]?=AA x):∃y,l[i]?=AA y/\f y=x:=by rw[Bt]at h;show EA.mp h
theorem iN[DecidableEq J](f:α->J)(L:List α)(D:List J)(z:D.Nodup)(U:∀x∈L,f x∈D)(V:∀k∈D,∃x∈L,f x=k):D.length<=L.length:=by
 rw[<-(Ub f L D z U).length_eq];have g:∀D:List J,(∀k∈D,∃x∈L,f x=k)->D.length<=(D.flatMap λk=>L.filter λx=>Ae (f x=k)).length:=λD=>by induction D with |nil=>intro _;show Aj _|cons k D Z=> intro h;rw[Ep,Bx,Mz];obtain⟨x,Y,e⟩:=h k Dr;have:0<(L.filter λx=>Ae (f x=k)).length:=yQ (D1.mpr ⟨Y,AE1 e⟩);have:=Z λk W=>h k (Fp _ W);lia
 show g D V
theorem iZ[DecidableEq D]{q:D×AE}(h:q∈kvs)(J:q.1≠k):q∈Bh kvs k v:=by
 unfold Bh;split;.show Ay.mpr ⟨q,h,by rw[AEz J]⟩
 .show Hn _ h
theorem Qu[DecidableEq D]{q:D×AE}:q∈Cb kvs k↔q∈kvs/\q.1≠k:=by unfold Cb;rw[D1,AE6]
theorem Qt(t a b:Int):Bg [.inl t,.inl a] [.inl b]=Ae (t<b):=by
 change(if(C3 t)=C3 b then AR else Ae _)=_;split
 . rename_i e;have e:=Ij e;rw[e];show(AE3 (fI b)).symm
 .rfl
theorem gW{kss:List (List AN)}(hi:∀D∈kss,∃t a,D=[.inl t,.inl a]){lo:Int}(J:∀(i:Nat)D,i<n->kss[i]?=AA D->Bg D [.inl lo]=AK)(U:∀(i:Nat)D,n<=i->kss[i]?=AA D->Bg D [.inl lo]=AR):kss.drop n=kss.filter λD=>match D with|.inl t::_=>Ae (lo<=t)|_=>AR:=by
 have:=PM (l:=kss) (n:=n) (m:=kss.length) (p:=λD=>match D with|.inl t::_=>Ae (lo<=t)|_=>AR) λi D e=>by
  obtain⟨t,a,rfl⟩:=hi D (Cm e);have Y:=(BU.mp e).1;by_cases V:i<n
  . have:=J i _ V e;rw[Qt]at this;lia
  . have W:=U i _ (by simp_all) e;rw[Qt]at W;simp_all
 rw[EH (by rw[M3];show Aj _)]at this;show this
def BO(D:Int)(L:List AO):List AO:=L.filter λi=>Ae (D<=i.1)
theorem Kp(D:Int)(L:List AO):(BO D L).length<=L.length:=FY _ _
theorem gV{L:List AO}{kss:List (List AN)}(U:kss.Perm ((L.filter λi=>Ae (i.2.1=z)).map GJ))(e:kss.drop n=kss.filter λJ=>match J with|.inl t::_=>Ae (D<=t)|_=>AR):(kss.drop n).Perm (((BO D L).filter λi=>Ae (i.2.1=z)).map GJ):=by rw[e];show(U.filter _).trans (LF ?_);unfold BO;rw[OF,HP,HP];congr 1;show JO λi O=>?_;change(Ae _&&Ae _)=_;rw[eV]
def nA(U:Br):BF:=λW H Q O=>(IF λ(J:List AB)(x d:AB)(L:List AO)(V:Int)=>Ek (W=[.ref x,.int V]) (Cg U J H x d L) ((∀c∈J,∃o,H c=AA o)) (L.length<=1000) (∀D,BM d H D->Cg U J D x d (BO V L)->Q .non D))
theorem jP(T:BL AJ Af AI):T.uf.Ok BC P w Af base 2 (nA AI):=by
  show T.uf.ok λnd O O O O O hr H vs Q E h=>?_;obtain⟨ex,x,d,L,le,rfl,sr,hex,hL,k⟩:_:=h;show⟨_,(Ab (DB DK rfl (DA (K:=AJ) (IS (UU (K:=AJ) rfl) (by rfl) T.jg KY #v[BP (Bl 0) rfl])) (Jj (i:=2) nd rfl (Fq rfl)) (Ai (KQ (i:=3) nd rfl (Fq rfl) (Fm hr.u1 (BP (Bl 0) rfl) (Bl 2) (λO O=>rfl))) (Ai (KQ (i:=4) nd rfl (Fq rfl) (HM (K9 (K:=AJ)) (Bl 3) (Gi (BE (O0 T) hr #v[Bl 3,Cj #v[Bl 1]])) IT)) (Ab (CF (Bw Zl (DI (Yy (K:=AJ)) (by rfl) T.gw F8 #v[Bl 4]) AQ (Bs _)) (Ab (KP hr.u1 (BP (Bl 0) rfl) (Bl 2) (Bl 4) rfl)) (Ab (D8 (Zt (BP (Bl 0) rfl) (Bl 2) ⟨rfl,rfl,rfl,rfl⟩))))))))),?_⟩;have sz:Az=16777216:=Dj;lk;obtain⟨dx,eo⟩:=sr.au;obtain⟨kvs,ed,nd',hk,hq,hc⟩:=id sr.ar;k_in;show⟨_,rfl,_,⟨eo,T.dw,T.cy,rfl⟩,d,kvs,rfl,ed,λl hl=>?_⟩;have s1:=Bv (o:=.lst (kvs.map λp=>Au p.1)) hl;have el:(AM H l (.lst (kvs.map λp=>Au p.1))) l=AA (.lst (kvs.map λp=>Au p.1)):=AY;have nld:l≠d:=(BH ed hl).symm;generalize AM H l (.lst (kvs.map λp=>Au p.1))=H1 at s1 el⊢;have ed1:=s1 _ _ ed;have tpd:∀{H'},BM d H1 H'->Bk H1 H':=λsx=>sx.tp ed1 λxs=>by intro z;cases z
  have lst':∀{H':AH}{b:AB}{xs:List AE},BM d H1 H'->H1 b=AA (.lst xs)->H' b=AA (.lst xs):=λsx e=>sx _ _ (λz=>by rw[z,ed1]at e;cases e) e;show⟨l,rfl,⟨_,Ac el⟩,GP (K:=AJ) (xs:=kvs.map λp=>Au p.1) (λn σ H'=>(GX λ(o2 o3 o4:Option AE)(kvs':List (AN×AE))=>ID (σ=(f6 x le o2 o3 o4)) (BM d H1 H') (H' d=AA (.dK kvs')) ((kvs'.map (·.1)).Nodup) (kvs'.length<=1000) ((∀q∈kvs',(q.1∈(kvs.map (·.1)).take n/\LY ex H' (BO le L) q)\/(q.1∉(kvs.map (·.1)).take n/\q∈kvs))) ((∀q∈kvs,q.1∉(kvs.map (·.1)).take n->q∈kvs')) (∀i∈BO le L,(Bj i.2.1:AN)∈(kvs.map (·.1)).take n->(Bj i.2.1:AN)∈kvs'.map (·.1)))) ⟨AG,AG,AG,kvs,rfl,λb o O e=>e,ed1,nd',Ag hk hL,λq hq=>.inr ⟨by simp,hq⟩,λq hq O=>hq,λi O hi=>by simp at hi⟩ (λn σ H' O hh=>by obtain⟨_,_,_,_,_,sx,_⟩:=hh;show Ac (lst' sx el)) ?_ ?_⟩
  . intro n y σ H2 hy hI;lk;obtain⟨o2,o3,o4,kvs',rfl,sx2,ed2,nd2,lk2,a2,b2,c2⟩:=hI;obtain⟨q0,hq0,rfl⟩:=iT hy;obtain⟨z,r0,xs0,kss0,e0,_⟩:=hq q0 (Cm hq0);have hk0:(kvs.map (·.1))[n]?=AA (.inr z):=by rw[Bt,hq0,e0];rfl
    have hnl:n<(kvs.map (·.1)).length:=(BU.mp hk0).1;have hnot:(Bj z:AN)∉(kvs.map (·.1)).take n:=λhm=>by obtain⟨i,hi,e⟩:=Gk.mp hm;rw[Er]at hi;rw[OH]at e;have e2:=(BU.mp hk0).2;have:=(yO nd').mp (e.trans e2.symm);lia
    have tk:(kvs.map (·.1)).take (n+1)=(kvs.map (·.1)).take n++[.inr z]:=by rw[D2,hk0];rfl
    have mem1:q0∈kvs':=b2 q0 (Cm hq0) (by rw[e0];show hnot);have hkm:(Bj z:AN)∈kvs'.map (·.1):=Ay.mpr ⟨q0,mem1,by rw[e0]⟩;obtain⟨v,hv⟩:=Mv hkm;have hvk:((Bj z:AN),v)∈kvs:=by
      rcases a2 _ (GS hv)with⟨h1,_⟩|⟨_,h2⟩;.show absurd h1 hnot
      .show h2
    obtain⟨z',r,xs,kss,e1,hrx,er,hw,hne,sd,pm⟩:=hq _ hvk;cases e1;k_in;have er2:=lst' sx2 (s1 _ _ er);have hw2:=(hw.ab s1.tp).ab (tpd sx2);have eo2:=sx2 _ _ (λz=>by rw[z,ed]at eo;cases eo) (s1 _ _ eo);have yv:Au q0.1=.str z:=by rw[e0];rfl
    rw[yv];have hl':=X3 pm;have hxl:=hw.gf;show⟨_,rfl,_,⟨eo2,T.dw,T.cy,rfl⟩,_,rfl,d,_,rfl,(by have:=Me (k:=Bj z) ed2;rw[hv]at this;show this),?_⟩;show⟨_,rfl,_,rfl,_,rfl,bX rfl,λp hp=>?_⟩;have s3:=Bv (o:=.tup [.int le]) hp;have ep:(AM H2 p (.tup [.int le])) p=AA (.tup ([C3 le].map Au)):=AY;generalize AM H2 p (.tup [.int le])=H3 at s3 ep⊢;show⟨r,p,xs,kss,_,rfl,s3 _ _ er2,Q2 (hw2.ab s3.tp),ep,Qz (Mb pm) (by intro m hm;rw[Bm.mp hm];rfl),sd,λm hm b1 b2'=>⟨_,rfl,?_⟩⟩;have dr:=gW (Mb pm) b1 b2';have pm2:=gV pm dr;have sd2:DP (kss.drop m):=sd.sublist (ABY _ _);show⟨r,xs,rfl,Ac (s3 _ _ er2),λc hc'=>?_⟩;rw[Qn xs m (by simp_all)];have s4:=Bv (o:=.lst (xs.drop m)) hc';have ec:(AM H3 c (.lst (xs.drop m))) c=AA (.lst (xs.drop m)):=AY;have nex:c∉ex:=λhm=>by
      obtain⟨o,ho⟩:=hex c hm;by_cases z:c=d;.rw[z,s3 _ _ ed2]at hc';cases hc'
      .rw[s3 _ _ (sx2 _ _ z (s1 _ _ ho))]at hc';cases hc'
    generalize AM H3 c (.lst (xs.drop m))=H4 at s4 ec⊢;have s34:=s3.aa s4;have ed4:=s34 _ _ ed2;have eo4:=s34 _ _ eo2;have sx4:BM d H1 H4:=sx2.aa (s34.x d);have hw4:CV H4 (xs.drop m) (kss.drop m):=N5 m (hw2.ab s34.tp);have ncd:c≠d:=λz=>by rw[z,ed4]at ec;cases ec
    have tpu:∀{o:BW},Bk H4 (AM H4 d o):=(Gg H4).gy ed4 λxs=>by intro z;cases z
    have row':∀{o:BW}{q:AN×AE},LY ex H2 (BO le L) q->LY ex (AM H4 d o) (BO le L) q:=λh=>h.ab (λb xs O e=>by rw[AV (λz=>by rw[z,ed2]at e;cases e)];show s34 _ _ e) (s34.tp.aa tpu);show⟨_,rfl,c,_,rfl,.inl (Ac ec),_,_,rfl,rfl,_,rfl,IM (λe=>?_) λe=>?_⟩
    . have hpos:0<(kss.drop m).length:=by rw[<-hw4.gf];have:((xs.drop m).length:Int)>0:=e;show ABM.mp e
      show⟨_,rfl,_,rfl,_,⟨eo4,T.dw,T.cy,rfl⟩,_,rfl,d,_,rfl,UH.k (k:=Bj z) ed4 (FR lk2 (by decide)),?_⟩;have ke:(Bh kvs' (Bj z) (.ref c)).map (·.1)=kvs'.map (·.1):=by rw[RZ,AE0 hkm]
      show⟨_,_,_,Bh kvs' (Bj z) (.ref c),rfl,sx4.gy,AY,Mo nd2,?_,λq hq'=>?_,λq hq' hn=>?_,λi hi hm=>?_⟩;. have:=AE2 My ke;rw[Aq,Aq]at this;simp_all
      . rw[tk];rcases N0 hq' with rfl|⟨h1,h2⟩;.show .inl ⟨FE _ (Bm.mpr rfl),z,c,_,_,rfl,nex,by rw[AV ncd];show ec,hw4.ab tpu,List.ne_nil_of_length_pos hpos,sd2,pm2⟩
        . rcases a2 q h1 with⟨h3,h4⟩|⟨h3,h4⟩;.show .inl ⟨Hn _ h3,row' h4⟩
          .show .inr ⟨λhm=>by rcases Ce.mp hm with hm|hm;show h3 hm;show h2 (Bm.mp hm),h4⟩
      . rw[tk]at hn;show iZ (b2 q hq' λh=>hn (Hn _ h)) λh=>hn (FE _ (Bm.mpr h))
      . rw[ke];rw[tk]at hm;rcases Ce.mp hm with hm|hm;.show c2 i hi hm
        .rw[Bm.mp hm];show hkm
    . have hz:kss.drop m=[]:=bL (by rw[<-hw4.gf];have:¬((xs.drop m).length:Int)>0:=e;show ABI.mp (MJ e));show⟨_,rfl,_,⟨eo4,T.dw,T.cy,rfl⟩,d,rfl,.inl ⟨_,.inl ed4⟩,_,rfl,kvs',.inr z,_,ed4,rfl,hv,?_⟩;show⟨_,_,_,Cb kvs' (Bj z),rfl,sx4.gy,AY,Uq nd2,Ag (ZF ..) lk2,λq hq'=>?_,λq hq' hn=>?_,λi hi hm=>?_⟩
      . rw[tk];obtain⟨h1,h2⟩:=Qu.mp hq';rcases a2 q h1 with⟨h3,h4⟩|⟨h3,h4⟩;.show .inl ⟨Hn _ h3,row' h4⟩
        .show .inr ⟨λhm=>by rcases Ce.mp hm with hm|hm;show h3 hm;show h2 (Bm.mp hm),h4⟩
      . rw[tk]at hn;show Qu.mpr ⟨b2 q hq' λh=>hn (Hn _ h),λh=>hn (FE _ (Bm.mpr h))⟩
      . rw[tk]at hm;by_cases ez:(Bj i.2.1:AN)=Bj z
        . rw[hz]at pm2;have:=pm2.length_eq;have hmem:GJ i∈((BO le L).filter λi=>Ae (i.2.1=z)).map GJ:=Ay.mpr ⟨i,D1.mpr ⟨hi,AE1 (Fc ez)⟩,rfl⟩;have:=yQ hmem;simp_all
        . rcases Ce.mp hm with hm|hm;. obtain⟨q,hq1,hq2⟩:_:=Ay.mp (c2 i hi hm);show Ay.mpr ⟨q,Qu.mpr ⟨hq1,by rw[hq2];show ez⟩,hq2⟩
          .show absurd (Bm.mp hm) ez
  . intro σ H2 hI;obtain⟨o2,o3,o4,kvs',rfl,sx2,ed2,nd2,lk2,a2,b2,c2⟩:_:=hI;have all:(kvs.map (·.1)).take (kvs.map λp=>Au p.1).length=kvs.map (·.1):=EH (by rw[Aq,Aq];show Aj _);rw[all]at a2 c2;have a3:∀q∈kvs',LY ex H2 (BO le L) q:=λq hq'=>by
      rcases a2 q hq' with⟨_,h⟩|⟨h1,h2⟩;.show h
      .show absurd (Ay.mpr ⟨q,h2,rfl⟩) h1
    have c3:∀i∈BO le L,(Bj i.2.1:AN)∈kvs'.map (·.1):=λi hi=>c2 i hi (hc i (D1.mp hi).1);show k _ ((s1.x d).aa sx2) ⟨⟨dx,sx2 _ _ (λz=>by rw[z,ed]at eo;cases eo) (s1 _ _ eo)⟩,kvs',ed2,nd2,?_,a3,c3⟩;have:=iN (λi:AO=>(Bj i.2.1:AN)) (BO le L) (kvs'.map (·.1)) nd2 c3 λk hk=>by
      obtain⟨q,hq',rfl⟩:=Ay.mp hk;obtain⟨z,r,xs,kss,rfl,_,_,_,hne,_,pm⟩:=a3 q hq';have hlen:0<(((BO le L).filter λi=>Ae (i.2.1=z)).map GJ).length:=by rw[<-pm.length_eq];show List.length_pos_iff.mpr hne
      rw[Aq]at hlen;obtain⟨i,hi⟩:=List.exists_mem_of_length_pos hlen;obtain⟨h1,h2⟩:=D1.mp hi;show⟨i,h1,by change(Bj i.2.1:AN)=Bj z;rw[AE4 h2]⟩
    rw[Aq]at this;show this
def YT(D:Br):BF:=λU H Q O=>∃x J,U=[.ref x]/\H x=AA (.ins D.jc J [])/\∀d,H d=AG->Q .non (AM (AM H d (.dK [])) x (.ins D.jc J [("rows",.ref d)]))
theorem Xf(T:BL AJ Af AI):T.ng.Ok BC P w Af base 1 (YT AI):=by show T.ng.ok λV O O O O O U H W Q E h=>?_;obtain⟨x,J,rfl,e,k⟩:_:=h;show⟨_,(Ab (FH (AD 0) Mq rfl)),?_⟩;intro d D;show⟨x,_,J,[],rfl,by rw[AV (BH e D)];show e,T.dw,T.cy,by decide,k d D⟩
theorem XB(Y:H x=AG)(V:H D=AG)(A:D≠x)(k:∀d H',An H H'->H d=AG->Cg AI ex H' x d []->Q .non H'):YT AI [.ref x] (AM (AM H D (.own x)) x (.ins AI.jc D [])) Q E:=by
 show⟨x,D,rfl,AY,λd J=>?_⟩;have U:=BH AY J;rw[AV U.symm]at J;have W:D≠d:=λz=>by rw[z,AY]at J;cases J
 rw[AV W.symm]at J;show k d _ (λb o e=>?_) J ⟨⟨D,AY⟩,[],by rw[AV U.symm];show AY,.nil,Aj _,λq B=>(by cases B),λi Z=>by cases Z⟩;rw[AV (BH e Y),AV (BH e J),AV (BH e Y),AV (BH e V)];show e
structure DC(ad:Br)(ex:List AB)(H:AH)(j sl x0 x1 d0 d1:AB)(wi:Int)(L0 L1:List AO):Prop where
 au:∃dx,H j=AA (.ins ad.ik dx [("within",.int wi),("sides",.ref sl)])av:H sl=AA (.lst [.ref x0,.ref x1])s0:Cg ad ex H x0 d0 L0
 s1:Cg ad ex H x1 d1 L1
 ne:d0≠d1
 aeu:sl∉ex
theorem DC.ag(h:DC AI ex H j W Y Z U V wi D J)(s:An H H'):DC AI ex H' j W Y Z U V wi D J:=by obtain⟨⟨z,e⟩,A,C,r1,n,B⟩:_:=h;show⟨⟨z,s _ _ e⟩,s _ _ A,C.ag s,r1.ag s,n,B⟩
theorem DC.wq(h:DC AI ex H j B C E Y Z wi U W)(e:H c=AA (.lst xs))(J:c∈ex):DC AI ex (AM H c o) j B C E Y Z wi U W:=by obtain⟨⟨F,D⟩,G,I,r1,n,A⟩:_:=h;show⟨⟨F,by rw[AV (λz=>by rw[z,e]at D;cases D)];show D⟩,by rw[AV (λz=>A (by rw[z];show J))];show G,I.wq e J,r1.wq e J,n,A⟩
def nY(J:Br):BF:=λA H Q O=>(GX λ(W:List AB)(j Z:AB)(Y:Int)=>JX (A=[.ref j,.int Y]) (H j=AA (.ins J.ik Z [])) ((∀c∈W,∃o,H c=AA o)) (∀D z B C U V,BM j H D->H U=AG->H V=AG->DC J W D j z B C U V Y [] []->Q .non D))
theorem kG(T:BL AJ Af AI):T.mw.Ok BC P w Af base 3 (nY AI):=by
 show T.mw.ok λnd O O O O O hr H vs Q E h=>?_;obtain⟨ex,j,dx,wi,rfl,ej,hex,k⟩:_:=h;show⟨_,(Ai (FH (AD 0) (AD 1) rfl) (Ab (FH (AD 0) (C9 #v[Xr (Xf T) hr T.zq JL,Xr (Xf T) hr T.zq JL]) rfl))),?_⟩;show⟨j,_,dx,[],rfl,ej,T.fm,T.gv,by decide,?_⟩;generalize hH:AM H j _=H1;have x1':BM j H H1:=by rw[<-hH];show((CQ H).x j).gy
 have ej1:H1 j=AA (.ins AI.ik dx [("within",.int wi)]):=by rw[<-hH];show AY
 intro x0 dx0 hx0 hdx0 hn0;show XB (ex:=ex) hx0 hdx0 hn0 λd0 H2 s2 hd0 r0=>⟨rfl,?_⟩;intro x1 dx1 hx1 hdx1 hn1;show XB (ex:=ex) hx1 hdx1 hn1 λd1 H3 s3 hd1 r1=>⟨rfl,?_⟩;show⟨B6 rfl,λsl hsl=>?_⟩;have s4:=Bv (o:=.lst [.ref x0,.ref x1]) hsl;have esl:(AM H3 sl (.lst [.ref x0,.ref x1])) sl=AA _:=AY;have nsl:sl∉ex:=λhm=>by
  obtain⟨o,ho⟩:=hex sl hm;by_cases z:sl=j;.rw[z,(s2.aa s3) _ _ ej1]at hsl;cases hsl
  .rw[(s2.aa s3) _ _ (x1' _ _ z ho)]at hsl;cases hsl
 generalize AM H3 sl _=H4 at s4 esl⊢;have s14:=(s2.aa s3).aa s4;have ej4:=s14 _ _ ej1;show⟨j,_,dx,_,rfl,ej4,T.fm,T.cw,(by change 1<1000;decide),?_⟩;have r04:=r0.ag (s3.aa s4);have r14:=r1.ag s4;have up:∀{x d:AB},x≠j->Cg AI ex H4 x d []->Cg AI ex (AM H4 j (.ins AI.ik dx [("within",.int wi),("sides",.ref sl)])) x d []:=λhx r=>by show r.ab (λC dx fs e=>by rw[AV hx];show e) (λkvs e=>by rw[AV (λz=>by rw[z,ej4]at e;cases e)];show e) (λb xs O e=>by rw[AV (λz=>by rw[z,ej4]at e;cases e)];show e) ((Gg H4).gy ej4 λxs=>by intro z;cases z)
 have nx0:x0≠j:=λz=>by rw[z,ej1]at hx0;cases hx0
 have nx1:x1≠j:=λz=>by rw[z,s2 _ _ ej1]at hx1;cases hx1
 have nd01:d0≠d1:=λz=>by obtain⟨kvs,e,_⟩:=r0.ar;rw[z,hd1]at e;cases e
 have fr:∀{d:AB},H1 d=AG->H d=AG:=λ{d}hd=>by cases q:H d with |none=>rfl|some o=>
   by_cases z:d=j;.rw[z,ej1]at hd;cases hd
   .rw[x1' _ _ z q]at hd;cases hd
 have hd11:=s2.bc hd1;show k _ sl x0 x1 d0 d1 ((x1'.aa (s14.x j)).gy) (fr hd0) (fr hd11) ⟨⟨dx,AY⟩,by rw[AV (λz=>by rw[z,ej4]at esl;cases esl)];show esl,up nx0 r04,up nx1 r14,nd01,nsl⟩
theorem Cg.ip(h:Cg AI ex H x d L)(Y:H l=AG):Cg AI (l::ex) H x d L:=by obtain⟨o,V,Z,n,C,q,c⟩:_:=h;show⟨o,V,Z,n,C,λp B=>?_,c⟩;obtain⟨z,r,E,U,e,A,W,D⟩:_:=q p B;show⟨z,r,E,U,e,λJ=>by rcases CZ.mp J with rfl|J;rw[W]at Y;cases Y;show A J,W,D⟩
theorem Cg.iw(h:Cg AI (l::ex) H x d L):Cg AI ex H x d L:=by obtain⟨o,U,V,n,A,q,c⟩:_:=h;show⟨o,U,V,n,A,λp Z=>?_,c⟩;obtain⟨z,r,B,J,e,Y,D⟩:_:=q p Z;show⟨z,r,B,J,e,λW=>Y (Fp _ W),D⟩
theorem DC.iw(h:DC AI (l::ex) H j W Y Z U V wi D J):DC AI ex H j W Y Z U V wi D J:=by obtain⟨o,z,C,r1,n,B⟩:_:=h;show⟨o,z,C.iw,r1.iw,n,λA=>B (Fp _ A)⟩
def I9(i j:Int):Int:=if i<j then j else i
def MX(s:Int)(i j:AO):List AN:=[.inl (I9 i.1 j.1),.inr i.2.1,.inl (if s=0 then i.2.2-j.2.2 else j.2.2-i.2.2)]
def oA:BF:=λJ H Q O=>(IG λ(s:Int)(p q:AB)(i:AO)(t a:Int)=>JX (J=[.int s,.ref p,.ref q]) (H p=AA (.tup ((EM i).map Au))) (H q=AA (.tup [.int t,.int a])) (∀D r,An H D->D r=AA (.tup ((MX s i (t,i.2.1,a)).map Au))->Q (.ref r) D))
theorem kK(T:BL AJ Af AI):T.vh.Ok BC P w Af base 1 oA:=by
 show T.vh.ok λF O O O O O I H L Q E h=>?_;obtain⟨G,p,q,⟨Z,z,U⟩,t,a,rfl,D,J,k⟩:_:=h;have D:H p=AA (.tup [.int Z,.str z,.int U]):=D;show⟨_,(Ai (Aw 3 F (Rm (Bw DH (AD 0) AQ (Bs _)) (BA AJ (AD 1) AQ) (BA AJ (AD 2) AQ))) (Ai (Aw 4 F (Rm (Bw DH (AD 0) AQ (Bs _)) (BA AJ (AD 2) AQ) (BA AJ (AD 1) AQ))) (Ab (BD (Cj #v[(DI (UW rfl) (by rfl) T.zx cG #v[BA AJ (AD 1) AQ,BA AJ (AD 2) AQ]),BA AJ (AD 1) AQ,AW GQ (AD 3) (AD 4)]))))),?_⟩;have A:∀{a b c:AE},DQ [a,b,c] 0=AA a:=Ap (j:=0) rfl;have i1:∀{a b c:AE},DQ [a,b,c] 1=AA b:=Ap (j:=1) rfl;have i2:∀{a b c:AE},DQ [a,b,c] 2=AA c:=Ap (j:=2) rfl;have B:∀{a b:AE},DQ [a,b] 0=AA a:=Ap (j:=0) rfl;have C:∀{a b:AE},DQ [a,b] 1=AA b:=Ap (j:=1) rfl;have fin:∀{x y:Int},x-y=(if G=0 then U-a else a-U)->∀r,H r=AG->Q (.ref r) (AM H r (.tup [.int (if Z<t then t else Z),.str z,.int (x-y)])):=λ{x y}e r Y=>by show k _ r ((CQ H).gy Y) ?_;rw[AY,e];rfl
 show⟨rfl,_,rfl,EG (λe=>?_) λe=>?_⟩;. show⟨_,_,Ar D,i2,rfl,_,rfl,EG (λO=>?_) λW=>absurd e W⟩;show⟨_,_,Ar J,C,_,_,Ar D,A,_,_,Ar J,B,_,_,Ar D,i1,B6 rfl,fin (by rw[AE0 e])⟩
 . show⟨_,_,Ar J,C,rfl,_,rfl,EG (λW=>absurd W e) λO=>?_⟩;show⟨_,_,Ar D,i2,_,_,Ar D,A,_,_,Ar J,B,_,_,Ar D,i1,B6 rfl,fin (by rw[AEz e])⟩
def GI(s wi:Int)(i:AO)(D:List AO):List (List AN):=(D.filter λj=>Ae (j.2.1=i.2.1/\i.1-wi<=j.1/\j.1<=i.1+wi)).map (MX s i)
def m9(A:Br):BF:=λG H Q O=>(So λ(Z:List AB)(j B C E W Y p:AB)(z s:Int)(U V:List AO)(i:AO)=>ID (G=[.ref j,.int s,.ref p]) (DC A Z H j B C E W Y z U V) ((s=0\/s=1)) ((∀c∈Z,∃o,H c=AA o)) (H p=AA (.tup ((EM i).map Au))) (U.length<=1000) (V.length<=1000) (∀J r F D,BM (if s=0 then W else Y) H J->DC A (r::Z) J j B C E W Y z (if s=0 then U++[i]else U) (if s=0 then V else V++[i])->H r=AG->J r=AA (.lst F)->CV J F D->DP D->D.Perm (GI s z i (if s=0 then V else U))->Q (.ref r) J))
theorem jO(T:BL AJ Af AI):T.ud.Ok BC P w Af base 3 (m9 AI):=by
  show T.ud.ok λnd O O O O O hr H vs Q E h=>?_;obtain⟨ex,j,sl,x0,x1,d0,d1,p,wi,sd,L0,L1,i,rfl,jr,hs,hex,ep,l0,l1,k⟩:_:=h;show⟨_,(Ai (KQ (i:=3) nd rfl (Fq rfl) (EX (FL (Lq (K:=AJ)) (BP (Bl 0) rfl) (AW Uz AQ (Bl 1)) (λO O=>rfl)) T.dw (kO T) hr #v[(FL (JI (K:=AJ)) (Bl 2) AQ (λO O=>rfl)),(AW Uz (FL (JI (K:=AJ)) (Bl 2) AQ (λO O=>rfl)) (BP (Bl 0) rfl)),(AW Zk (FL (JI (K:=AJ)) (Bl 2) AQ (λO O=>rfl)) (BP (Bl 0) rfl))])) (Ai (D8 (EX (FL (Lq (K:=AJ)) (BP (Bl 0) rfl) (Bl 1) (λO O=>rfl)) T.dw (Xb T) hr #v[Bl 2])) (Ab (BD (DI (Y0 (K:=AJ)) (by rfl) T.jq P5 #v[(Pd (osc:=DG X8) [("side",1),("item",2)] rfl (DA (K:=AJ) (Bl 3)) rfl rfl (by decide+kernel) (by decide+kernel) (by decide+kernel) ⟨rfl,rfl,rfl,rfl,trivial⟩ rfl (by decide+kernel) (λO O O O=>G0) (λO O O O=>(BE (kK T) hr #v[Bl 1,Bl 2,Bl 0])))]))))),?_⟩;have sz:Az=16777216:=Dj;lk;obtain⟨dx,ej⟩:=jr.au;obtain⟨t,z,a⟩:=i;k_in;have i0:∀{a b c:AE},DQ [a,b,c] 0=AA a:=Ap (j:=0) rfl;have i1:∀{a b c:AE},DQ [a,b,c] 1=AA b:=Ap (j:=1) rfl;lk;obtain⟨xo,do',Lo,xs,ds,Ls,at1,at2,ro,rs,nds,lo',ls',fin⟩:∃(xo do':AB)(Lo:List AO)(xs ds:AB)(Ls:List AO),DQ [AE.ref x0,.ref x1] (1-sd)=AA (.ref xo)/\DQ [AE.ref x0,.ref x1] sd=AA (.ref xs)/\Cg AI ex H xo do' Lo/\Cg AI ex H xs ds Ls/\do'≠ds/\Lo.length<=1000/\Ls.length<=1000/\∀H' r xs' kss,BM ds H H'->Cg AI (r::ex) H' xs ds (Ls++[(t,z,a)])->Cg AI (r::ex) H' xo do' Lo->H r=AG->H' r=AA (.lst xs')->CV H' xs' kss->DP kss->kss.Perm (GI sd wi (t,z,a) Lo)->Q (.ref r) H':=by
    have ob:∀{H':AH}{d:AB}{kvs:List (AN×AE)},BM d H H'->H d=AA (.dK kvs)->(∃dx,H' j=AA (.ins AI.ik dx [("within",.int wi),("sides",.ref sl)]))/\H' sl=AA (.lst [.ref x0,.ref x1]):=λsx e=>⟨⟨dx,sx _ _ (λz=>by rw[z,e]at ej;cases ej) ej⟩,sx _ _ (λz=>by have:=jr.av;rw[z,e]at this;cases this) jr.av⟩;have nsl:∀{r:AB},H r=AG->sl∉r::ex:=λhr0 hm=>by
      rcases CZ.mp hm with rfl|hm;.rw[jr.av]at hr0;cases hr0
      .show jr.aeu hm
    rcases hs with rfl|rfl
    . show⟨x1,d1,L1,x0,d0,L0,Ap (j:=1) rfl,Ap (j:=0) rfl,jr.s1,jr.s0,jr.ne.symm,l1,l0,λH' r xs' kss sx r1 r2 hr0=>?_⟩;obtain⟨kvs,e,_⟩:=jr.s0.ar;obtain⟨o1,o2⟩:=ob sx e;show k H' r xs' kss sx ⟨o1,o2,r1,r2,jr.ne,nsl hr0⟩ hr0
    . show⟨x0,d0,L0,x1,d1,L1,Ap (j:=0) rfl,Ap (j:=1) rfl,jr.s0,jr.s1,jr.ne,l0,l1,λH' r xs' kss sx r1 r2 hr0=>?_⟩;obtain⟨kvs,e,_⟩:=jr.s1.ar;obtain⟨o1,o2⟩:=ob sx e;show k H' r xs' kss sx ⟨o1,o2,r2,r1,jr.ne,nsl hr0⟩ hr0
  obtain⟨dxo,eo⟩:=ro.au;k_in;show⟨_,rfl,_,⟨ej,T.fm,T.cw,rfl⟩,_,rfl,_,_,rfl,rfl,sl,_,_,_,rfl,rfl,Ac jr.av,at1,xo,dxo,_,rfl,eo,by rfl,?_⟩;show⟨_,rfl,p,_,_,_,rfl,rfl,Ar ep,i1,_,rfl,p,_,_,_,rfl,rfl,Ar ep,i0,_,rfl,_,⟨ej,T.fm,T.gv,rfl⟩,_,_,rfl,rfl,_,rfl,p,_,_,_,rfl,rfl,Ar ep,i0,_,rfl,_,⟨ej,T.fm,T.gv,rfl⟩,_,_,rfl,rfl,?_⟩;show⟨ex,xo,do',Lo,z,t-wi,t+wi,rfl,ro,lo',λH1 rm xm km s1 hrm em hwm sdm pmm=>?_⟩;have rs1:=rs.ag s1;obtain⟨dxs,es⟩:=rs1.au;show⟨_,rfl,_,⟨s1 _ _ ej,T.fm,T.cw,rfl⟩,_,rfl,sl,_,_,_,rfl,rfl,Ac (s1 _ _ jr.av),at2,xs,dxs,_,rfl,es,by rfl,?_⟩;show⟨_,rfl,ex,xs,ds,p,Ls,(t,z,a),rfl,rs1,(λc hc=>let⟨o,ho⟩:=hex c hc;⟨o,s1 _ _ ho⟩),s1 _ _ ep,ls',λH2 sx2 r2=>?_⟩;obtain⟨kvs,ekv,_⟩:_:=rs1.ar;have em2:H2 rm=AA (.lst xm):=sx2 _ _ (λz=>by rw[z,ekv]at em;cases em) em;have tp2:Bk H1 H2:=sx2.tp ekv λxs=>by intro z;cases z
  have hwm2:=hwm.ab tp2;have ro2:=(ro.ag s1).yn sx2 ekv nds;have ep2:=tp2 _ _ (s1 _ _ ep);have lm:km.length<=1000:=by rw[pmm.length_eq,Aq];show Ag (FY _ _) lo'
  have lxm:=hwm.gf;show⟨_,rfl,rm,rfl,⟨_,Ac em2⟩,?_⟩;show IL (K:=AJ) (xs:=xm) (λn τ acc H'=>(∃o,τ=[o,AA (.int sd),AA (.ref p)])/\An H2 H'/\CV H' acc ((km.take n).map λks=>match ks with|[.inl t',.inl a']=>MX sd (t,z,a) (t',z,a')|_=>[])) (by lia) ⟨⟨AG,rfl⟩,CQ _,JN _⟩ (λn τ acc H'⟨_,s',_⟩=>Ac (s' _ _ em2)) ?_ ?_
  . intro n y τ acc H3 R1 hy _ hI k1;lk;obtain⟨⟨o,rfl⟩,s3,hw3⟩:=hI;obtain⟨b,kk,rfl,ek,eb⟩:=hwm2.at hy;obtain⟨t',a',rfl⟩:=Mb pmm kk (Cm ek);k_in;show⟨_,rfl,_,rfl,_,rfl,sd,p,b,(t,z,a),t',a',rfl,s3 _ _ ep2,s3 _ _ eb,λH4 r s4 er=>k1 _ _ _ ⟨⟨_,rfl⟩,s3.aa s4,?_⟩⟩;rw[D2,ek,CW];show(hw3.ab s4.tp).zf er
  . intro τ acc H3 la hI D hD;obtain⟨_,s3,hw3⟩:_:=hI;rw[EH (Bi lxm.symm)]at hw3;have s4:=Bv (o:=.lst acc) hD;have eD:(AM H3 D (.lst acc)) D=AA (.lst acc):=AY;have hw4:=hw3.ab s4.tp;have pmm2:bG (km.map λks=>match ks with|[.inl t',.inl a']=>MX sd (t,z,a) (t',z,a')|_=>[]) (GI sd wi (t,z,a) Lo):=by show(pmm.map _).trans (LF ?_);rw[Dh];rfl
    show⟨D,acc,_,rfl,Ac eD,hw4.yp (sh:=[AK,AR,AK]) (by simp) (λks hk=>?_),λl qs hl pq sq=>?_⟩
    . obtain⟨i',_,rfl⟩:_:=Ay.mp (pmm2.mem_iff.mp hk);rfl
    . obtain⟨g1,g2⟩:=hw4.ack pq;have s5:=s4.gy (o:=.lst (qs.map (·.1))) hl;have s25:=s3.aa s5;have hl0:H l=AG:=by
        have h2:=(s3.aa s4).bc hl;have hne:l≠ds:=λz=>by obtain⟨kv2,e2,_⟩:=r2.ar;rw[z,e2]at h2;cases h2
        cases q:H l with |none=>rfl|some o=>rw[sx2 _ _ hne (s1 _ _ q)]at h2;cases h2
      show fin _ l _ _ (((s1.x ds).aa sx2).aa (s25.x ds)) (((r2.ag (s3.aa s4)).ip hl).ag (Bv hl)) (((ro2.ag (s3.aa s4)).ip hl).ag (Bv hl)) hl0 AY (g1.ab (Bv hl).tp) sq (g2.trans pmm2)
theorem jG(a b:Int):I9 a b=I9 b a:=by unfold I9;split<;>split<;>lia
def GZ(D J:AB)(H H':AH):Prop:=∀b o,b≠D->b≠J->H b=AA o->H' b=AA o
theorem GZ.aa(a:GZ D J H U)(b:GZ D J U V):GZ D J H V:=λc o n m e=>b c o n m (a c o n m e)
theorem YH(s:An H H')(D J:AB):GZ D J H H':=λb o O O e=>s b o e
theorem YI(s:BM D H H'):GZ D J H H':=λb o n O e=>s b o n e
theorem YJ(s:BM D H H'):GZ J D H H':=λb o O n e=>s b o n e
theorem DC.rl(h:DC AI ex H j z A B J U wi V W):(∃k0,H J=AA (.dK k0))/\∃D,H U=AA (.dK D):=by lk;obtain⟨k0,Y,_⟩:=h.s0.ar;obtain⟨D,Z,_⟩:=h.s1.ar;k_in;show⟨⟨k0,Y⟩,D,Z⟩
theorem DC.y(h:DC AI ex H j A B C D J wi V W)(s:GZ D J H H')(e:H b=AA o)(U:∀kvs,o≠.dK kvs):H' b=AA o:=by obtain⟨⟨E,Y⟩,F,Z⟩:_:=h.rl;show s b o (λz=>by rw[z,Y]at e;show U _ (By e).symm) (λz=>by rw[z,Z]at e;show U _ (By e).symm) e
theorem DC.adz(h:DC AI ex H j Y Z A D J wi U V)(s:GZ D J H H'):Bk H H':=λp B e=>h.y s e λW=>by intro z;cases z
theorem DC.yn{K:List AO}(h:DC AI ex H j R S T A B wi K L)(g:DC AI ex H F V Y Z J U W M0 M1)(s:GZ A B H H')(G:J≠A/\J≠B)(I:U≠A/\U≠B):DC AI ex H' F V Y Z J U W M0 M1:=by
 have k:∀{b:AB}{o:BW},H b=AA o->(∀D,o≠.dK _)->H' b=AA o:=λe O=>h.y s e O;obtain⟨⟨E,e⟩,M,Q,r1,n,P⟩:_:=g;show⟨⟨E,k e nofun⟩,k M nofun,?_,?_,n,P⟩;.show Q.ab (λC E N e=>k e nofun) (λD e=>s _ _ G.1 G.2 e) (λb X i e=>k e nofun) (h.adz s)
 .show r1.ab (λC E N e=>k e nofun) (λD e=>s _ _ I.1 I.2 e) (λb X i e=>k e nofun) (h.adz s)
theorem DC.acg(h:DC AI ex H j Y U Z D W wi A V)(s:BM D H H')(r:Cg AI ex H' U D M):DC AI ex H' j Y U Z D W wi M V:=by lk;obtain⟨B,e⟩:=h.au;obtain⟨C,J,_⟩:=h.s0.ar;k_in;show⟨⟨B,s _ _ (λz=>by rw[z,J]at e;cases e) e⟩,s _ _ (λz=>by have:=h.av;rw[z,J]at this;cases this) h.av,r,h.s1.yn s J h.ne.symm,h.ne,h.aeu⟩
theorem DC.ach(h:DC AI ex H j Y Z U W D wi V A)(s:BM D H H')(r:Cg AI ex H' U D M):DC AI ex H' j Y Z U W D wi V M:=by lk;obtain⟨B,e⟩:=h.au;obtain⟨C,J,_⟩:=h.s1.ar;k_in;show⟨⟨B,s _ _ (λz=>by rw[z,J]at e;cases e) e⟩,s _ _ (λz=>by have:=h.av;rw[z,J]at this;cases this) h.av,h.s0.yn s J h.ne,r,h.ne,h.aeu⟩
theorem DC.afp{ex:List AB}{H H':AH}{j E F G D J:AB}{wi:Int}{Y Z M0 M1:List AO}(h:DC AI ex H' j E F G D J wi Y Z)(s:GZ D J H H')(U:∀c∈ex,∃o,H c=AA o):∀c∈ex,∃o,H' c=AA o:=λc B=>by
  obtain⟨⟨I,z⟩,K,A⟩:_:=h.rl;by_cases V:c=D;.show⟨_,by rw[V];show z⟩
  . by_cases W:c=J;.show⟨_,by rw[W];show A⟩
    . obtain⟨o,C⟩:=U c B;show⟨o,s _ _ V W C⟩
def nW(A:Br):BF:=λF H Q O=>(Sn λ(z:List AB)(j B C E Y Z:AB)(J D:Int)(V W:List AO)=>Im (F=[.ref j,.int D]) (DC A z H j B C E Y Z J V W) ((∀c∈z,∃o,H c=AA o)) (V.length<=1000) (W.length<=1000) (∀U,GZ Y Z H U->DC A z U j B C E Y Z J (BO (D-J) V) (BO (D-J) W)->Q .non U))
theorem kF(T:BL AJ Af AI):T.ue.Ok BC P w Af base 3 (nW AI):=by
  show T.ue.ok λv _ _ _ _ _ s H vs Q E h=>?_;obtain⟨M,j,g,d,f,G,I,c,Y,C,F,rfl,S,O,t,u,k⟩:_:=h;show⟨_,(Ab (DB DK rfl (DA (BP (AD 0) rfl)) (Cc 2 v) (Ab (D8 (EX (AD 2) T.dw (jP T) s #v[AW GQ (AD 1) (BP (AD 0) rfl)]))))),?_⟩;obtain⟨x,p⟩:=S.au;show⟨_,⟨p,T.fm,T.cw,rfl⟩,g,rfl,⟨_,Ac S.av⟩,GP (λn A B=>∃a:Option AE,A=[AA _,AA _,a]/\GZ G I H B/\DC AI M B j g d f G I c (if n=0 then C else BO (Y-c) C) (if n<=1 then F else BO (Y-c) F)) ⟨_,rfl,λb o _ _ e=>e,S⟩ (λn A B _ q=>by obtain⟨_,_,_,X⟩:=q;show Ac X.av) ?_ ?_⟩
  . intro n y A i R N;obtain⟨a,rfl,z,D⟩:=N;have r:=by have:=(BU.mp R).1;show SE.mp (bY this)
    obtain⟨m,W⟩:=D.au;have J:=D.afp (M0:=[]) (M1:=[]) z O;rcases r with rfl|rfl;. lk;cases R;obtain⟨U,L⟩:=D.s0.au;k_in;show⟨d,U,_,rfl,L,by rfl,_,⟨W,T.fm,T.gv,rfl⟩,M,d,G,C,_,rfl,D.s0,J,t,λl Z r2=>⟨_,rfl,z.aa (YI Z),D.acg Z r2⟩⟩
    . lk;cases R;obtain⟨U,L⟩:=D.s1.au;k_in;show⟨f,U,_,rfl,L,by rfl,_,⟨W,T.fm,T.gv,rfl⟩,M,f,I,F,_,rfl,D.s1,J,u,λl Z r2=>⟨_,rfl,z.aa (YJ Z),D.ach Z r2⟩⟩
  . intro A i N;obtain⟨a,rfl,z,D⟩:_:=N;show k _ z D
inductive AU where|take(n k:AF)|only(n a:AF)(lo hi:Int)|turn(n a:AF)(f g:Int)|both(n a b:AF)|join(n a b:AF)(wi:Int)|gap(n a s:AF)(m:Int)|each(n a s:AF)(sz st:Int)
def AU.abd:AU->List AN|AU.take n k=>[.inr "take",.inr n,.inr k]|AU.only n a J D=>[.inr "only",.inr n,.inr a,.inl J,.inl D]|AU.turn n a f g=>[.inr "turn",.inr n,.inr a,.inl f,.inl g]|AU.both n a b=>[.inr "both",.inr n,.inr a,.inr b]|AU.join n a b W=>[.inr "join",.inr n,.inr a,.inr b,.inl W]|AU.gap n a s m=>[.inr "gap",.inr n,.inr a,.inr s,.inl m]|AU.each n a s V U=>[.inr "each",.inr n,.inr a,.inr s,.inl V,.inl U]
def AU.md:AU->AF|AU.take ..=>"take"|AU.only ..=>"only"|AU.turn ..=>"turn"|AU.both ..=>"both"|AU.join ..=>"join"|AU.gap ..=>"gap"|AU.each ..=>"each"
def AU.nm:AU->AF|AU.take n _|AU.only n _ _ _|AU.turn n _ _ _|AU.both n _ _|AU.join n _ _ _|AU.gap n _ _ _|AU.each n _ _ _ _=>n
def AU.cg:AU->List AF|AU.take ..=>[]|AU.only _ a _ _|AU.turn _ a _ _|AU.gap _ a _ _|AU.each _ a _ _ _=>[a]|AU.both _ a b|AU.join _ a b _=>[a,b]
def AU.cp:AU->Bool|AU.gap ..|AU.each ..=>AK|_=>AR
def AU.adb:AU->Int|AU.both ..|AU.join ..=>4|_=>3
def AU.aev:AU->Bool|AU.both ..|AU.join ..=>AK|_=>AR
def Dl(H:AH)(p:AB)(s:AU):Prop:=H p=AA (.tup (s.abd.map Au))
theorem Dl.tp(h:Dl H p s)(t:Bk H H'):Dl H' p s:=t _ _ h
def Qg:List AE:=[.str "both",.str "join"]
def NN:List AE:=[.str "each",.str "gap"]
theorem Dl.md(h:Dl H p s):Cs AJ H p (s.abd.map Au)/\DQ (s.abd.map Au) 0=AA (.str s.md)/\DQ (s.abd.map Au) 1=AA (.str s.nm):=by show⟨Ar h,?_⟩;cases s<;>show⟨Ap rfl,Ap rfl⟩
theorem qN:∀st:AU,Fj (.str st.md) Qg=st.aev|.take ..=>(by decide+kernel:Fj (.str "take") _=false)|.only ..=>(by decide+kernel:Fj (.str "only") _=false)|.turn ..=>(by decide+kernel:Fj (.str "turn") _=false)|.both ..=>(by decide+kernel:Fj (.str "both") _=true)|.join ..=>(by decide+kernel:Fj (.str "join") _=true)|.gap ..=>(by decide+kernel:Fj (.str "gap") _=false)|.each ..=>(by decide+kernel:Fj (.str "each") _=false)
theorem UC:∀st:AU,Fj (.str st.md) NN=st.cp|.take ..=>(by decide+kernel:Fj (.str "take") _=false)|.only ..=>(by decide+kernel:Fj (.str "only") _=false)|.turn ..=>(by decide+kernel:Fj (.str "turn") _=false)|.both ..=>(by decide+kernel:Fj (.str "both") _=false)|.join ..=>(by decide+kernel:Fj (.str "join") _=false)|.gap ..=>(by decide+kernel:Fj (.str "gap") _=true)|.each ..=>(by decide+kernel:Fj (.str "each") _=true)
def AU.no:AU->Nat|.take ..=>0|.only ..=>1|.turn ..=>2|.both ..=>3|.join ..=>4|.gap ..=>5|.each ..=>6
def O8:List AF:=["take","only","turn","both","join","gap","each"]
theorem Yd(st:AU):O8[st.no]?=AA st.md:=by cases st<;>rfl
theorem qM{st:AU}(Y:O8[i]?=AA z)(e:st.md=z):st.no=i:=by
 have Z:O8.Nodup:=by decide+kernel
 have h:=Yd st;rw[e]at h;lk;obtain⟨U,D⟩:=BU.mp h;obtain⟨V,J⟩:=BU.mp Y;k_in;have W:=Gn.mp Z;rcases b7 _ i with q|q|q;.show absurd (D.trans J.symm) (W _ _ U V q)
 .show q
 .show absurd (J.trans D.symm) (W _ _ V U q)
theorem qL{st:AU}(D:O8[i]?=AA z)(e:st.no≠i):st.md≠z:=λq=>e (qM D q)
theorem J4{st:AU}{i:Nat}{z:AF}{A B:Prop}(D:O8[i]?=AA z)(J:st.no=i->A)(U:st.no≠i->B):if Ae (AE.str st.md=AE.str z)=AK then A else B:=by
  by_cases h:st.no=i
  . have e:=by have:=Yd st;rw[h,D]at this;show(By this).symm
    rw[AE0 (by rw[e];show AE1 rfl)];show J h
  . rw[AEz (by rw[AE6];showλq=>qL D h (AE.str.inj q))];show U h
def nD:BF:=λD H Q O=>E2 (λ(p:AB)(s:AU)=>D=[.ref p]) (λp s=>Dl H p s) (λO s=>Q (.int s.adb) H)
theorem kN(T:BL AJ Af AI):T.uk.Ok BC P w Af base 1 nD:=by
 show T.uk.ok λZ O O O O O Y H z Q E h=>?_;obtain⟨p,D,rfl,e,k⟩:_:=h;show⟨_,(Ab (BD (Rm (Bw (Uw) (BA AJ (AD 0) AQ) (Pe (v:=.ref _) (by rfl) T.aao rfl) (by with_unfolding_all rfl)) AQ AQ))),?_⟩;obtain⟨J,U,V⟩:_:=e.md;show⟨_,_,J,U,_,Qg,rfl,.inr (T.aaw H),rfl,rfl,_,rfl,?_⟩;have W:=qN D;show K6 (λq=>?_) λq=>?_;.cases D<;>first|show k|cases q
 .cases D<;>first|show k|cases q
def oG:BF:=λD H Q O=>E2 (λ(p:AB)(s:AU)=>D=[.ref p]) (λp s=>Dl H p s) (λO s=>Q (.str s.nm) H)
theorem kM(T:BL AJ Af AI):T.wj.Ok BC P w Af base 1 oG:=by show T.wj.ok λW O O O O O V H Z Q E h=>?_;obtain⟨p,Y,rfl,e,k⟩:_:=h;show⟨_,(Ab (BD (BA AJ (AD 0) AQ))),?_⟩;obtain⟨D,U,J⟩:_:=e.md;show⟨_,_,D,J,k⟩
def pF:BF:=λD H Q O=>E2 (λ(p:AB)(s:AU)=>D=[.ref p]) (λp s=>Dl H p s) (λO s=>Q (.bl s.cp) H)
theorem XX(T:BL AJ Af AI):T.uj.Ok BC P w Af base 1 pF:=by show T.uj.ok λZ O O O O O Y H z Q E h=>?_;obtain⟨p,V,rfl,e,k⟩:_:=h;show⟨_,(Ab (BD (Mp (Uw) (BA AJ (AD 0) AQ) (Pe (v:=.ref _) (by rfl) T.aab rfl) (by with_unfolding_all rfl)))),?_⟩;obtain⟨D,J,W⟩:_:=e.md;have U:=UC V;show⟨_,_,D,J,_,NN,rfl,.inr (T.aah H),rfl,rfl,?_⟩;rw[U];show k
def nJ:BF:=λJ H Q O=>E2 (λ(p:AB)(s:AU)=>J=[.ref p]) (λp s=>Dl H p s) (λO s=>∀l D,An H D->H l=AG->D l=AA (.lst (s.cg.map AE.str))->Q (.ref l) D)
theorem jT(T:BL AJ Af AI):T.wg.Ok BC P w Af base 2 nJ:=by
  show T.wg.ok λG O O O O O B H L Q E h=>?_;obtain⟨p,D,rfl,e,k⟩:_:=h;show⟨_,(Ai (CF (Bw DH (BA AJ (AD 0) AQ) Dq (Bs _)) (Ab (BD (C9 Ea))) Cd) (Ab (BD (IS (Ll) (by rfl) T.jg KY #v[HM (Rv) (AD 0) (Gi AQ) (Gi (BE (kN T) B #v[AD 0]))])))),?_⟩;obtain⟨z,A,F⟩:_:=e.md;show⟨_,_,z,A,rfl,_,rfl,J4 (i:=0) rfl (λZ=>?_) λZ=>?_⟩
  . have U:D.cg=[]:=by cases D<;>first|rfl|cases Z
    show⟨Bc _,λl J=>k l _ ((CQ H).gy J) J (by rw[U];show AY)⟩
  . have U:Gw (D.abd.map Au) (AA 2) (AA D.adb)=D.cg.map AE.str:=by cases D<;>first|rfl|show absurd rfl Z
    show⟨_,rfl,p,D,rfl,e,_,rfl,p,_,rfl,z,?_,λC Y=>⟨C,_,rfl,.inr (Ar AY),λl J=>k l _ (((CQ H).gy Y).gy J) (by have W:=J;rw[AV (BH AY W).symm]at J;show J) ?_⟩⟩
    . rintro⟨q,_⟩;have J:3<=(D.abd.map Au).length:=by cases D<;>show B6 rfl
      have I:=(fC _ 0 2).symm.trans q;simp_all
    .rw[AY,U]
theorem DC.ip(h:DC AI ex H j z A B W Y wi U V)(D:H l=AG):DC AI (l::ex) H j z A B W Y wi U V:=by obtain⟨o,Z,E,r1,n,C⟩:_:=h;show⟨o,Z,E.ip D,r1.ip D,n,λJ=>by rcases CZ.mp J with rfl|J;rw[Z]at D;cases D;show C J⟩
def GC(H:AH)(c:AB)(L:List AO):Prop:=∃D,H c=AA (.lst D)/\CV H D (L.map EM)
theorem GC.ab(h:GC H c L)(k:∀xs,H c=AA (.lst xs)->H' c=AA (.lst xs))(t:Bk H H'):GC H' c L:=by obtain⟨xs,e,w⟩:_:=h;show⟨xs,k _ e,w.ab t⟩
theorem iG(h:Cu i.2.1):Ji (EM i)=AK/\Ji (J5 i)=AK:=by have:=h.ok;simp[Ji,EM,J5,Nz,this]
theorem iL{L:List AO}(h:∀i∈L,Cu i.2.1):∀D∈L.map J5,Ji D=AK:=λD U=>by obtain⟨j,J,rfl⟩:_:=Ay.mp U;show(iG (h j J)).2
abbrev Bd:=Int×AF×AF×Int
def gX(e:Bd):List AN:=[.inl e.1,.inr e.2.1,.inr e.2.2.1,.inl e.2.2.2]
def Iz(e:Bd):AO:=(e.1,e.2.2.1,e.2.2.2)
def Ip(H:AH)(p:AB)(e:Bd):Prop:=H p=AA (.tup ((gX e).map Au))
theorem Gd(h:(AM H p o) l=AG):H l=AG:=by have D:=(BH AY h).symm;rw[AV D]at h;show h
def NZ(k:AF)(e:Bd):List AO:=if e.2.1=k then[Iz e]else[]
def pD:BF:=λJ H Q O=>(IF λ(p q:AB)(n k:AF)(e:Bd)=>JX (J=[.ref p,.ref q]) (Dl H p (.take n k)) (Ip H q e) (∀l D,An H D->H l=AG->GC D l (NZ k e)->Q (.ref l) D))
theorem lB(T:BL AJ Af AI):T.zm.Ok BC P w Af base 1 pD:=by
 show T.zm.ok λC O O O O O A H G Q E h=>?_;obtain⟨p,q,n,V,⟨t,B,z,W⟩,rfl,e,Z,k⟩:_:=h;show⟨_,(Ab (BD (Rm (Bw DH (BA AJ (AD 1) AQ) (BA AJ (AD 0) AQ) (Bs _)) (C9 #v[Cj #v[BA AJ (AD 1) AQ,BA AJ (AD 1) AQ,BA AJ (AD 1) AQ]]) (C9 Ea)))),?_⟩;have Y:Cs AJ H p _:=Ar e;have J:Cs AJ H q _:=Ar Z;show⟨_,_,J,Ap rfl,_,_,Y,Ap rfl,rfl,_,rfl,Ui (λh=>?_) λh=>?_⟩
 . show⟨_,_,J,Ap rfl,_,_,J,Ap rfl,_,_,J,Ap rfl,B6 rfl,λF U=>⟨B6 rfl,λl D=>k l _ (((CQ H).gy U).gy D) (Gd D) ⟨_,AY,?_⟩⟩⟩;rw[show NZ V _=[(t,z,W)]from AE0 h];show(JN _).zf (by rw[AV (BH AY D)];show AY)
 . show⟨Bc _,λl D=>k l _ ((CQ H).gy D) D ⟨[],AY,?_⟩⟩;rw[show NZ V _=[]from AEz h];show JN _
def Q5(f g:Int)(i:AO):AO:=(i.1,i.2.1,i.2.2*f+g)
def pJ:BF:=λJ H Q O=>(Kd λ(p q:AB)(n a:AF)(f g:Int)(i:AO)=>Ek (J=[.ref p,.ref q]) (Dl H p (.turn n a f g)) ((-100<=f/\f<=100)) (H q=AA (.tup ((EM i).map Au))) (∀r D,An H D->D r=AA (.tup ((EM (Q5 f g i)).map Au))->Q (.ref r) D))
theorem lD(T:BL AJ Af AI):T.yh.Ok BC P w Af base 1 pJ:=by
 show T.yh.ok λS i i i i i R H X Q E h=>?_;obtain⟨p,q,n,a,f,g,⟨t,z,D⟩,rfl,e,⟨M,N⟩,Y,k⟩:_:=h;show⟨_,(Ab (BD (AW (N3) (AW (N3) (HM (Rv) (AD 1) IT (Gi AQ)) (Cj #v[AW C5 (AW FK (BA AJ (AD 1) AQ) (BA AJ (AD 0) AQ)) (BA AJ (AD 0) AQ)])) (HM (Rv) (AD 1) (Gi AQ) IT)))),?_⟩;have O:Cs AJ H q _:=Ar Y;show⟨_,rfl,q,_,rfl,O,(by change¬(CM 3 0 _=0/\CM 3 3 _=3);decide),λG Z=>?_⟩;have s1:=(CQ H).gy (o:=.tup (Gw ((EM (t,z,D)).map Au) AG (AA 2))) Z;show⟨_,_,Ar (s1 _ _ Y),Ap rfl,_,_,Ar (s1 _ _ e),Ap rfl,.inr ⟨Il (by decide) M,G7 N (by decide)⟩,_,_,Ar (s1 _ _ e),Ap rfl,B6 rfl,λI J=>?_⟩;have s2:=s1.gy (o:=.tup [AE.int (D*f+g)]) J;have B:=BH AY J;show⟨G,I,_,_,rfl,rfl,Ar (by rw[AV B];show AY),Ar AY,(by intro z;cases z),B6 rfl,(λh=>by cases h),λi W A=>?_⟩;have s3:=s2.gy (o:=.tup [AE.int t,AE.str z,AE.int (D*f+g)]) A;show⟨_,rfl,q,_,rfl,Ar (s3 _ _ Y),(by change¬(CM 3 0 _=0/\CM 3 3 _=3);decide),λL U=>?_⟩;have s4:=s3.gy (o:=.tup (Gw ((EM (t,z,D)).map Au) (AA 3) AG)) U;have C:=BH AY U;have F:(AM (AM (AM (AM H G (.tup [AE.int t,AE.str z])) I (.tup [AE.int (D*f+g)])) W (.tup [AE.int t,AE.str z,AE.int (D*f+g)])) L (.tup [])) W=AA (.tup [AE.int t,AE.str z,AE.int (D*f+g)]):=by rw[AV C];show AY
 show⟨W,L,_,[],rfl,rfl,Ar F,Ar AY,nofun,B6 rfl,λi=>k W _ s4 F,λh=>absurd rfl h⟩
def Kl:AU->List (List AO)->List AO|.only _ _ J D,[A]=>A.filter λi=>Ae (J<=i.2.2/\i.2.2<=D)|.turn _ _ f g,[A]=>A.map (Q5 f g)|.both ..,[A,B]=>A++B|.gap ..,[A]=>A|.each ..,[A]=>A|_,_=>[]
def GY:List AF:=["count","sum","least","greatest"]
def O6:AU->Prop|.turn _ _ f _=>-100<=f/\f<=100|.gap _ _ D m=>0<=m/\D∈GY|.each _ _ D z d=>(1<=d/\d<=200000/\d<=z/\z<=4*d)/\D∈GY|_=>True
def Og(H:AH)(J:List AE)(D:List (List AO)):Prop:=BJ (λx L=>∃r,x=.ref r/\GC H r L) J D
theorem Ov{l:List α}(e:l[n]?=AA x):(l.take (n+1)).filter p=(l.take n).filter p++(if p x=AK then[x]else[]):=by rw[D2,e,FD];congr 1;change[x].filter p=_;rw[G1];cases p x<;>rfl
theorem Tj(h:l.length=1):∃x,l=[x]:=List.length_eq_one_iff.mp h
theorem S6(h:Og H D [L]):∃r xs,D=[.ref r]/\H r=AA (.lst xs)/\CV H xs (L.map EM):=by cases h with|cons a b=>lk;cases b;obtain⟨r,rfl,xs,e,w⟩:=a;k_in;show⟨r,xs,rfl,e,w⟩
theorem pW(h:l.length=2):∃x y,l=[x,y]:=by match l,h with|[x,y],_=>show⟨x,y,rfl⟩
theorem WS(h:Og H U [L,M]):∃r J xs D,U=[.ref r,.ref J]/\H r=AA (.lst xs)/\H J=AA (.lst D)/\CV H xs (L.map EM)/\CV H D (M.map EM):=by cases h with|cons a b=>cases b with|cons b c=>lk;cases c;obtain⟨r,rfl,xs,e,w⟩:=a;obtain⟨J,rfl,D,W,Y⟩:=b;k_in;show⟨r,J,xs,D,rfl,e,W,w,Y⟩
def oM:BF:=λY H Q O=>(IF λ(p W:AB)(s:AU)(U:List AE)(D:List (List AO))=>Of (Y=[.ref p,.ref W]) (Dl H p s) (O6 s) (s.no≠0) (s.no≠4) (H W=AA (.lst U)) (Og H U D) (D.length=s.cg.length) ((∀L∈D,L.length<=1000)) (∀r J,An H J->GC J r (Kl s D)->(H r=AG\/AE.ref r∈U)->Q (.ref r) J))
theorem kT(T:BL AJ Af AI):T.yc.Ok BC P w Af base 2 oM:=by
  show T.yc.ok λnd O O O O O hr H vs Q E h=>?_;obtain⟨p,ls,st,rs,Ls,rfl,e,ok,n0,n4,els,cs,cl,cz,k⟩:_:=h;show⟨_,(Ai (CF (Bw DH (FL (JI (K:=AJ)) (Bl 0) AQ (λO O=>rfl)) Dq (Bs _)) (Ab (BD (Pd (osc:=DG Tu) [("step",0)] rfl (DA (K:=AJ) (FL (Lq (K:=AJ)) (Bl 1) AQ (λO O=>rfl))) rfl rfl (by decide+kernel) (by decide+kernel) (by decide+kernel) ⟨rfl,rfl,trivial⟩ rfl (by decide+kernel) (λO O O O=>Mr (vR Ux Ux (FL (JI (K:=AJ)) (Bl 1) AQ (λO O=>rfl)) (FL (JI (K:=AJ)) (Bl 0) AQ (λO O=>rfl)) (FL (JI (K:=AJ)) (Bl 1) AQ (λO O=>rfl)))) (λO O O O=>(Bl 0))))) Cd) (Ai (CF (Bw DH (FL (JI (K:=AJ)) (Bl 0) AQ (λO O=>rfl)) Dq (Bs _)) (Ab (BD (Pd (osc:=DG Tu) [("step",0)] rfl (DA (K:=AJ) (FL (Lq (K:=AJ)) (Bl 1) AQ (λO O=>rfl))) rfl rfl (by decide+kernel) (by decide+kernel) (by decide+kernel) ⟨rfl,rfl,trivial⟩ rfl (by decide+kernel) (λO O O O=>G0) (λO O O O=>(BE (lD T) hr #v[Bl 1,Bl 0]))))) Cd) (Ai (CF (Bw DH (FL (JI (K:=AJ)) (Bl 0) AQ (λO O=>rfl)) Dq (Bs _)) (Ab (BD (AW HK (FL (Lq (K:=AJ)) (Bl 1) AQ (λO O=>rfl)) (FL (Lq (K:=AJ)) (Bl 1) AQ (λO O=>rfl))))) Cd) (Ab (BD (FL (Lq (K:=AJ)) (Bl 1) AQ (λO O=>rfl))))))),?_⟩;have sz:Az=16777216:=Dj;obtain⟨e0,e1,e2⟩:_:=e.md;show⟨_,rfl,p,_,_,_,rfl,rfl,e0,e1,rfl,_,rfl,J4 (i:=1) rfl (λq1=>?_) λq1=>?_⟩
  . lk;obtain⟨n,a,lo,hi,rfl⟩:∃n a lo hi,st=.only n a lo hi:=by cases st<;>first|show⟨_,_,_,_,rfl⟩|cases q1
    obtain⟨L,rfl⟩:=Tj cl;obtain⟨r,xs,rfl,er,hw⟩:=S6 cs;k_in;have hL:=cz L (.head _);have hx:=hw.gf;rw[Aq]at hx;show⟨_,rfl,ls,_,_,_,rfl,rfl,Ac els,Ap (j:=0) rfl,r,rfl,⟨_,Ac er⟩,?_⟩;show Nq (K:=AJ) (xs:=xs) (λm τ acc H'=>(∃o,τ=[o,AA (.ref p)])/\H'=H/\CV H acc (((L.take m).filter λi=>Ae (lo<=i.2.2/\i.2.2<=hi)).map EM)) (by lia) ⟨⟨AG,rfl⟩,rfl,JN _⟩ (λm τ acc H'⟨_,e,_⟩=>by rw[e];show Ac er) ?_ ?_
    . intro m y τ acc H' R1 R0 hy _ hI k1 k0;lk;obtain⟨⟨o,rfl⟩,rfl,hp⟩:=hI;obtain⟨b,ks,rfl,ek,eb⟩:=hw.at hy;rw[Bt]at ek;obtain⟨⟨t,z,am⟩,ei,rfl⟩:=EA.mp ek;k_in;have fs:=Ov (p:=λi:AO=>Ae (lo<=i.2.2/\i.2.2<=hi)) ei;show⟨_,rfl,p,_,_,_,rfl,rfl,e0,Ap (j:=3) rfl,_,rfl,b,_,_,_,rfl,rfl,Ar eb,Ap (j:=2) rfl,_,_,rfl,rfl,_,rfl,?_⟩;have no:¬(lo<=am/\am<=hi)->CV H' acc (((L.take (m+1)).filter _).map EM):=λq=>by rw[fs,AEz (by rw[AE6];show q),Dw];show hp
      show IM (λh1=>?_) λh1=>⟨_,rfl,EY (k0 _ _ ⟨⟨_,rfl⟩,rfl,no λq=>h1 q.1⟩)⟩;show⟨_,rfl,p,_,_,_,rfl,rfl,e0,Ap (j:=4) rfl,_,_,rfl,rfl,_,rfl,IM (λh2=>?_) λh2=>k0 _ _ ⟨⟨_,rfl⟩,rfl,no λq=>h2 q.2⟩⟩;show⟨_,rfl,k1 _ _ _ ⟨⟨_,rfl⟩,rfl,?_⟩⟩;rw[fs,AE0 (by rw[AE6];show⟨h1,h2⟩),CW];show hp.zf eb
    . intro τ acc H' la hI D hD;obtain⟨_,rfl,hp⟩:_:=hI;rw[EH (Bi hx.symm)]at hp;show k D _ ((CQ _).gy hD) ⟨_,AY,hp.ab ((CQ _).gy hD).tp⟩ (.inl hD)
  . show⟨_,rfl,p,_,_,_,rfl,rfl,e0,e1,rfl,_,rfl,J4 (i:=2) rfl (λq2=>?_) λq2=>?_⟩
    . lk;obtain⟨n,a,f,g,rfl⟩:∃n a f g,st=.turn n a f g:=by cases st<;>first|show⟨_,_,_,_,rfl⟩|cases q2
      obtain⟨L,rfl⟩:=Tj cl;obtain⟨r,xs,rfl,er,hw⟩:=S6 cs;k_in;have hL:=cz L (.head _);have hx:=hw.gf;rw[Aq]at hx;show⟨_,rfl,ls,_,_,_,rfl,rfl,Ac els,Ap (j:=0) rfl,r,rfl,⟨_,Ac er⟩,?_⟩;show IL (K:=AJ) (xs:=xs) (λm τ acc H'=>(∃o,τ=[o,AA (.ref p)])/\An H H'/\CV H' acc (((L.take m).map (Q5 f g)).map EM)) (by lia) ⟨⟨AG,rfl⟩,CQ _,JN _⟩ (λm τ acc H'⟨_,s,_⟩=>Ac (s _ _ er)) ?_ ?_
      . intro m y τ acc H' R1 hy _ hI k1;lk;obtain⟨⟨o,rfl⟩,s,hp⟩:=hI;obtain⟨b,ks,rfl,ek,eb⟩:=hw.at hy;rw[Bt]at ek;obtain⟨i,ei,rfl⟩:=EA.mp ek;k_in;show⟨_,rfl,_,rfl,p,b,n,a,f,g,i,rfl,s _ _ e,ok,s _ _ eb,λr2 H2 s2 e2=>k1 _ _ _ ⟨⟨_,rfl⟩,s.aa s2,?_⟩⟩;rw[D2,ei,CW,CW];show(hp.ab s2.tp).zf e2
      . intro τ acc H' la hI D hD;obtain⟨_,s,hp⟩:_:=hI;rw[EH (Bi hx.symm)]at hp;show k D _ (s.gy hD) ⟨_,AY,hp.ab ((CQ _).gy hD).tp⟩ (.inl (s.bc hD))
    . show⟨_,rfl,p,_,_,_,rfl,rfl,e0,e1,rfl,_,rfl,J4 (i:=3) rfl (λq3=>?_) λq3=>?_⟩
      . lk;obtain⟨n,a,b,rfl⟩:∃n a b,st=.both n a b:=by cases st<;>first|show⟨_,_,_,rfl⟩|cases q3
        obtain⟨L,M,rfl⟩:=pW cl;obtain⟨r,r',xs,xs',rfl,er,er',hw,hw'⟩:=WS cs;k_in;have hL:=cz L (.head _);have hM:=cz M (.tail _ (.head _));have hx:=hw.gf;have hx':=hw'.gf;rw[Aq]at hx hx';show⟨_,rfl,ls,_,_,_,rfl,rfl,Ac els,Ap (j:=0) rfl,_,rfl,ls,_,_,_,rfl,rfl,Ac els,Ap (j:=1) rfl,r,r',xs,xs',rfl,rfl,er,er',by lia,λD hD=>k D _ ((CQ _).gy hD) ⟨_,AY,?_⟩ (.inl hD)⟩;change CV _ _ ((L++M).map EM);rw[CW];show CV.ab (D7 hw hw') ((CQ _).gy hD).tp
      . have n1:st.cg.length=1/\∀L,Kl st [L]=L:=by cases st<;>first|show⟨rfl,λO=>rfl⟩|show absurd rfl n0|show absurd rfl q1|show absurd rfl q2|show absurd rfl q3|show absurd rfl n4
        lk;obtain⟨L,rfl⟩:=Tj (cl.trans n1.1);obtain⟨r,xs,rfl,er,hw⟩:=S6 cs;k_in;show⟨_,rfl,ls,_,_,_,rfl,rfl,Ac els,Ap (j:=0) rfl,k r _ (CQ _) (by rw[n1.2];show⟨_,er,hw⟩) (.inr (Bm.mpr rfl))⟩
def GF(wi:Int)(A B:List AO):List (List AN):=A.flatMap λi=>GI 0 wi i B
theorem W6(s wi:Int)(i:AO)(A B:List AO):GI s wi i (A++B)=GI s wi i A++GI s wi i B:=by unfold GI;rw[FD,CW]
theorem gO(wi:Int)(A B:List AO)(i:AO):GF wi (A++[i]) B=GF wi A B++GI 0 wi i B:=by unfold GF;simp
theorem Wh(f g:α->List D):∀l:List α,(l.flatMap λx=>f x++g x).Perm (l.flatMap f++l.flatMap g)|[]=>.nil|a::l=>by simp only[Ep];show((AD3 _).append (Wh f g l)).trans ?_;rw[FN,FN];show bH _ ?_;rw[<-FN,<-FN];show ABS _ Pw
theorem WW(wi:Int)(i:AO):∀A:List AO,(A.flatMap λj=>GI 0 wi j [i])=GI 1 wi i A
 |[]=>rfl|j::A=>by
  rw[Ep,WW wi i A];change _=GI 1 wi i ([j]++A);rw[W6];congr 1;unfold GI;rw[G1,G1];by_cases h:j.2.1=i.2.1/\i.1-wi<=j.1/\j.1<=i.1+wi
  . rw[AE0 (AE1 h),AE0 (AE1 ⟨h.1.symm,fN.mpr h.2.2,fN.mp h.2.1⟩)];change[MX 0 j i]=[MX 1 i j];unfold MX;rw[jG,h.1];simp
  . rw[AEz (λq=>h (by have:=AE4 q;show⟨this.1.symm,by lia,by lia⟩)),AEz (by simpa using h)];rfl
theorem gP(wi:Int)(A B:List AO)(i:AO):(GF wi A (B++[i])).Perm (GF wi A B++GI 1 wi i A):=by unfold GF;rw[<-WW];show Rz (LF ?_) (Wh _ _ A);congr 1;funext j;show W6 ..
theorem WV(wi:Int)(A B:List AO):(GF wi A B).length<=A.length*B.length:=by unfold GF;induction A with|nil=>simp|cons i A D=>
 rw[Ep,Bx,Mz];have:(GI 0 wi i B).length<=B.length:=by unfold GI;rw[Aq];show FY _ _
 lia
def nZ(C:Br):BF:=λM H Q O=>(V8 λ(z:List AB)(j G I K Y Z E F r1:AB)(W:Int)(J U A B:List AO)=>Jv (M=[.ref j,.ref E]) (DC C z H j G I K Y Z W J U) ((∀c∈z,∃o,H c=AA o)) (H E=AA (.lst [.ref F,.ref r1])) (GC H F A) (GC H r1 B) (J.length+A.length<=700) (U.length+B.length<=700) (∀D m L V,GZ Y Z H D->DC C z D j G I K Y Z W (J++A) (U++B)->H m=AG->D m=AA (.lst L)->CV D L V->(GF W (J++A) (U++B)).Perm (GF W J U++V)->Q (.ref m) D))
theorem kH(T:BL AJ Af AI):T.ya.Ok BC P w Af base 4 (nZ AI):=by
  show T.ya.ok λnd O O O O O hr H vs Q E h=>?_;obtain⟨ex,j,sl,x0,x1,d0,d1,ls,r0,r1,wi,L0,L1,C,B,rfl,jr,hex,els,⟨xa,ea,wa⟩,⟨xb,eb,wb⟩,l0,l1,k⟩:_:=h;show⟨_,(Ai (KQ (i:=2) nd rfl (Fq rfl) (C9 Ea)) (Ai (DB DK rfl (Pf (K:=AJ) (by rfl) T.iz (Bl 1)) (J7 rfl (Eb (Jj (i:=3) nd rfl (Fq rfl)) (Eb (Jj (i:=4) nd rfl (Fq rfl)) Jk))) (Ab (DB DK rfl (DA (K:=AJ) (Bl 4)) (Jj (i:=5) nd rfl (Fq rfl)) (Ab (D8 (JM (K:=AJ) MF NB OQ Lw (Bl 2) #v[EX (Bl 0) T.fm (jO T) hr #v[Bl 3,Bl 5]])))))) (Ab (BD (Bl 2))))),?_⟩;have sz:Az=16777216:=Dj;show⟨Bc _,λu hu=>?_⟩;have s0:=Bv (o:=.lst []) hu;have eu0:(AM H u (.lst [])) u=AA (.lst []):=AY;generalize AM H u (.lst [])=H0 at s0 eu0⊢;have sx:∀{n:Nat}{x:AE},[AE.ref r0,AE.ref r1][n]?=AA x->n<=1/\∃r xs,x=.ref r/\H r=AA (.lst xs)/\CV H xs ((if n=0 then C else B).map EM):=λ{n x}e=>by match n,e with |0,e=>cases e;show⟨by decide,r0,xa,rfl,ea,wa⟩|1,e=>cases e;show⟨by decide,r1,xb,rfl,eb,wb⟩
  have bnd:∀(X Y:List AO)(kss:List (List AN)),X.length<=700->Y.length<=700->(GF wi X Y).Perm (GF wi L0 L1++kss)->kss.length<=490000:=λX Y kss hX hY pm=>by have h1:=pm.length_eq;rw[Bx]at h1;have h2:=WV wi X Y;have h3:=b9 hX hY;lia
  show⟨_,rfl,ls,rfl,⟨_,Ac (s0 _ _ els)⟩,RV (K:=AJ) (xs:=[.ref r0,.ref r1]) (λn σ H'=>(IF λ(o3 o4 o5:Option AE)(acc:List AE)(kss:List (List AN))=>Im (σ=(WJ j ls u o3 o4 o5)) (GZ d0 d1 H H') (DC AI (u::ex) H' j sl x0 x1 d0 d1 wi (L0++(if n=0 then[]else C)) (L1++(if n<=1 then[]else B))) (H' u=AA (.lst acc)) (CV H' acc kss) ((GF wi (L0++(if n=0 then[]else C)) (L1++(if n<=1 then[]else B))).Perm (GF wi L0 L1++kss)))) ⟨AG,AG,AG,[],[],rfl,YH s0 _ _,by simpa using(jr.ip hu).ag s0,eu0,JN _,by simp⟩ (λn σ H' O hh=>by obtain⟨_,_,_,_,_,_,s',_⟩:=hh;show Ac (jr.y s' els nofun)) ?_ ?_⟩
  . intro n x σ H1 p hx hI hp;lk;obtain⟨o3,o4,o5,acc,kss,rfl,s1,jr1,eu,hw1,pm1⟩:=hI;obtain⟨n1,r,xs,rfl,er,hw⟩:=sx hx;k_in;have s2:=Bv (o:=.tup [.int (n:Int),.ref r]) hp;have lx:=hw.gf;rw[Aq]at lx;show⟨p,_,rfl,Ar AY,rfl,_,_,rfl,_,_,rfl,rfl,?_⟩;show⟨_,rfl,r,rfl,⟨_,Ac (s2 _ _ (jr.y s1 er nofun))⟩,GP (K:=AJ) (xs:=xs) (λm σ H'=>(EB λ(o5:Option AE)(acc:List AE)(kss:List (List AN))=>Im (σ=(WJ j ls u (AA (.int (n:Int))) (AA (.ref r)) o5)) (GZ d0 d1 H H') (DC AI (u::ex) H' j sl x0 x1 d0 d1 wi (L0++(if n=0 then C.take m else C)) (L1++(if n=0 then[]else B.take m))) (H' u=AA (.lst acc)) (CV H' acc kss) ((GF wi (L0++(if n=0 then C.take m else C)) (L1++(if n=0 then[]else B.take m))).Perm (GF wi L0 L1++kss)))) ⟨_,acc,kss,rfl,s1.aa (YH s2 _ _),?_,s2 _ _ eu,hw1.ab s2.tp,?_⟩ (λm σ H' O hh=>by obtain⟨_,_,_,_,s',_⟩:=hh;show Ac (jr.y s' er nofun)) ?_ ?_⟩
    . have j2:=jr1.ag s2;by_cases hn:n=0;.subst hn;simpa using j2
      . have:n=1:=Ec n1 (KU.mpr hn);subst this;simpa using j2
    . by_cases hn:n=0;.subst hn;simpa using pm1
      . have:n=1:=Ec n1 (KU.mpr hn);subst this;simpa using pm1
    . intro m y σ H2 hy hI;lk;obtain⟨o5,acc,kss,rfl,sy,jr2,eu2,hw2,pm2⟩:=hI;obtain⟨b,ks,rfl,ek,eb2⟩:=hw.at hy;rw[Bt]at ek;obtain⟨it,ei,rfl⟩:=EA.mp ek;obtain⟨dx,ej⟩:=jr2.au;k_in;have hl0:(L0++(if n=0 then C.take m else C)).length<=700:=by
        rw[Bx];split;.rw[Er];lia
        .show l0
      have hl1:(L1++(if n=0 then[]else B.take m)).length<=700:=by
        rw[Bx];split;.simp;show D9 l1
        .rw[Er];lia
      have lacc:acc.length<=490000:=by rw[hw2.gf];show bnd _ _ _ hl0 hl1 pm2
      have h01:(n:Int)=0\/(n:Int)=1:=by lia
      have hex2:∀c∈u::ex,∃o,H2 c=AA o:=λc hc=>by
        rcases CZ.mp hc with rfl|hc;.show⟨_,eu2⟩
        . obtain⟨o,eo⟩:=hex c hc;obtain⟨⟨k0,g0⟩,k1,g1⟩:=jr2.rl;by_cases q0:c=d0;.rw[q0];show⟨_,g0⟩
          . by_cases q1:c=d1;.rw[q1];show⟨_,g1⟩
            .show⟨_,sy c o q0 q1 eo⟩
      show⟨_,rfl,.inl ⟨rfl,_,Ac eu2⟩,_,rfl,j,dx,_,rfl,ej,by rfl,_,rfl,_,rfl,u::ex,j,sl,x0,x1,d0,d1,b,wi,(n:Int),_,_,it,rfl,jr2,h01,hex2,jr.adz sy _ _ eb2,Ag hl0 (by decide),Ag hl1 (by decide),λH3 r3 xr kr sx3 jr3 hr3 er3 hwr sdr pmr=>?_⟩;have sy3:GZ d0 d1 H2 H3:=by
        rcases h01 with e|e;.rw[AE0 e]at sx3;show YI sx3
        .rw[AEz (by simp_all)]at sx3;show YJ sx3
      have eu3:=jr2.y sy3 eu2 nofun;have hw3:=hw2.ab (jr2.adz sy3);have lr:xr.length<=700:=by
        rw[hwr.gf,pmr.length_eq];unfold GI;rw[Aq];show Ag (FY _ _) ?_;split;.show hl1
        .show hl0
      show⟨u,r3,_,_,rfl,rfl,eu3,er3,by lia,?_⟩;have tpu:Bk H3 (AM H3 u (.lst (acc++xr))):=(Gg H3).gy eu3 λxs=>by intro z;cases z
      have j4:=(jr3.iw).wq (o:=.lst (acc++xr)) eu3 (.head _);have tk:(L0++(if n=0 then C.take (m+1)else C))=(if(n:Int)=0 then(L0++(if n=0 then C.take m else C))++[it]else(L0++(if n=0 then C.take m else C)))/\(L1++(if n=0 then[]else B.take (m+1)))=(if(n:Int)=0 then(L1++(if n=0 then[]else B.take m))else(L1++(if n=0 then[]else B.take m))++[it]):=by
        by_cases hn:n=0
        . subst hn;have ei:C[m]?=AA it:=ei;simp[D2,ei]
        . have:n=1:=Ec n1 (KU.mpr hn);subst this;have ei:B[m]?=AA it:=ei;simp[D2,ei]
      show⟨_,acc++xr,kss++kr,rfl,λc o q0 q1 e=>?_,by rw[tk.1,tk.2];show j4,AY,CV.ab (D7 hw3 hwr) tpu,?_⟩
      . have hc:c≠u:=λz=>by rw[z,hu]at e;cases e
        rw[AV hc];show(sy.aa sy3) c o q0 q1 e
      . rw[tk.1,tk.2,<-FN];rcases h01 with e|e
        . rw[AE0 e]at pmr;rw[AE0 e,AE0 e];rw[e]at pmr;rw[gO];show pm2.append pmr.symm
        . rw[AEz (by simp_all)]at pmr;rw[AEz (show¬(n:Int)=0 by simp_all),AEz (show¬(n:Int)=0 by simp_all)];rw[e]at pmr;show(gP ..).trans (pm2.append pmr.symm)
    . intro σ H2 hI;obtain⟨o5,acc,kss,rfl,sy,jr2,eu2,hw2,pm2⟩:_:=hI;have tk:(L0++(if n=0 then C.take xs.length else C))=(L0++(if n+1=0 then[]else C))/\(L1++(if n=0 then[]else B.take xs.length))=(L1++(if n+1<=1 then[]else B)):=by
        by_cases hn:n=0
        . subst hn;rw[AE0 rfl]at lx;simp[lx]
        . have:n=1:=Ec n1 (KU.mpr hn);subst this;rw[AEz (by decide)]at lx;simp[lx]
      rw[tk.1,tk.2]at jr2 pm2;show⟨_,_,_,acc,kss,rfl,sy,jr2,eu2,hw2,pm2⟩
  . intro σ H1 hI;obtain⟨o3,o4,o5,acc,kss,rfl,s1,jr1,eu,hw1,pm1⟩:_:=hI;show⟨_,rfl,k H1 u acc kss s1 (by simpa using jr1.iw) hu eu hw1 (by simpa using pm1)⟩
def XF(i j:AO):AO:=(I9 i.1 j.1,i.2.1,i.2.2-j.2.2)
def Kj(wi:Int)(i j:AO):Bool:=Ae (j.2.1=i.2.1/\i.1-wi<=j.1/\j.1<=i.1+wi)
def DN(wi:Int)(A B:List AO):List AO:=A.flatMap λi=>(B.filter (Kj wi i)).map (XF i)
theorem S8(wi:Int)(A B:List AO):GF wi A B=(DN wi A B).map EM:=by unfold GF DN GI;rw[bO];congr 1;funext i;rw[Dh];rfl
def O7:List AN->AO|[.inl t,.inr z,.inl a]=>(t,z,a)|_=>(0,"",0)
theorem pZ(i:AO):O7 (EM i)=i:=rfl
def Ee(s:AU)(L:AF->List AO)(evs:List Bd):List AO:=match s with|.take _ k=>(evs.filter λe=>Ae (e.2.1=k)).map Iz|.only _ a J D=>(L a).filter λi=>Ae (J<=i.2.2/\i.2.2<=D)|.turn _ a f g=>(L a).map (Q5 f g)|.both _ a b=>L b++L a|.join _ a b U=>DN U (L a) (L b)|.gap ..|.each ..=>[]
def GW(s:AU)(bt:AF->List AO)(S:List AO×List AO)(e:Bd):Prop:=match s with|.take n k=>bt n=NZ k e|.join n a b D=>(DN D (S.1++bt a) (S.2++bt b)).Perm (DN D S.1 S.2++bt n)|.only n a U J=>bt n=Kl (.only n a U J) [bt a]|.turn n a f g=>bt n=Kl (.turn n a f g) [bt a]|.both n a b=>bt n=bt a++bt b|.gap n a _ _=>bt n=bt a|.each n a _ _ _=>bt n=bt a
theorem Wi(f g:α->List D)(h:∀x,(f x).Perm (g x)):∀l:List α,(l.flatMap f).Perm (l.flatMap g)|[]=>.nil|x::r=>by show(h x).append (Wi f g h r)
theorem S9(p:A.Perm D)(q:B.Perm J):(DN wi A B).Perm (DN wi D J):=(p.flatMap_right _).trans (Wi _ _ (λi=>(q.filter _).map _) D)
theorem gR:DN wi (A++C) B=DN wi A B++DN wi C B:=R7
theorem Qm:∀{A:List AO},(DN wi A (B++D)).Perm (DN wi A B++DN wi A D)|[]=>.nil|i::A=>by have J:=Qm (wi:=wi) (B:=B) (D:=D) (A:=A);unfold DN at J⊢;rw[Ep,Ep,Ep,FD,CW];show(AD2 (.refl _) J).trans ?_;rw[FN,FN];show .append (.refl _) ?_;rw[<-FN,<-FN];show Pw.append (.refl _)
theorem WZ(h:∀y∈D,now<=y.1):∀A:List AO,DN wi (BO (now-wi) A) D=DN wi A D
  |[]=>rfl|i::A=>by
    have J:=WZ (wi:=wi) h A;unfold DN BO at J⊢;rw[G1];split;.rw[Ep,Ep,J]
    . rename_i q;have e:D.filter (Kj wi i)=[]:=Jm.mpr λy U z=>by obtain⟨_,_,z⟩:=AE4 z;have:=h y U;rw[AE6]at q;show absurd (fN.mpr (GB this z)) q
      rw[Ep,e,J];rfl
theorem Wa:∀{C:List AO},(∀y∈C,now<=y.1)->DN wi C (BO (now-wi) B)=DN wi C B
 |[],_=>rfl|i::C,h=>by
  have D:=Wa (wi:=wi) (B:=B) λy J=>h y (.tail _ J);unfold DN BO at D⊢;rw[Ep,Ep,D,HP];have e:(B.filter λa=>Kj wi i a&&Ae _)=B.filter (Kj wi i):=JO λy O=>by cases q:Kj wi i y with |false=>rfl|true=> obtain⟨_,z,_⟩:=AE4 q;have:=h i (.head _);show AE1 (GB (ABP this _) z)
  rw[e]
def TB(wi:Int)(A B C D:List AO):List AO:=DN wi A D++DN wi C (B++D)
theorem WY:(DN wi (A++C) (B++D)).Perm (DN wi A B++TB wi A B C D):=by rw[gR];show(Qm.append (.refl _)).trans (by rw[FN];show .refl _)
theorem Wb(W:∀y∈C,now<=y.1)(Y:∀y∈D,now<=y.1)(p:J.Perm (BO (now-wi) A))(q:U.Perm (BO (now-wi) B))(h:(DN wi (J++C) (U++D)).Perm (DN wi J U++M)):M.Perm (TB wi A B C D):=by have V:=(List.perm_append_left_iff _).mp (h.symm.trans WY);show V.trans (((S9 p (.refl _)).trans (.of_eq (WZ Y A))).append ?_);show(S9 (.refl _) (q.append (.refl _))).trans (Qm.trans ?_);rw[Wa W];show Qm.symm
theorem gQ(V:∀y∈C,now<=y.1)(W:∀y∈D,now<=y.1):∀y∈TB wi A B C D,now<=y.1:=λy J=>by
 have U:∀{X Y:List AO},((∀y∈X,now<=y.1)\/∀y∈Y,now<=y.1)->y∈DN wi X Y->now<=y.1:=λ{X Y}h J=>by
  obtain⟨i,Z,J⟩:=SA.mp J;obtain⟨j,z,rfl⟩:=Ay.mp J;change now<=I9 _ _;unfold I9;rcases h with h|h;.have:=h i Z;split<;>(first|lia|omega)
  .have:=h j (D1.mp z).1;split<;>lia
 rcases Ce.mp J with J|J;.show U (.inr W) J
 .show U (.inl V) J
theorem WR(W:s.cp=AR)(m:L s.nm=Ee s L evs)(Z:J s.nm=Ee s J (evs++[e]))(U:∀a∈s.cg,(J a).Perm (L a++bt a))(Y:∀n a b wi,s=.join n a b wi->S.1.Perm (BO (now-wi) (L a))/\S.2.Perm (BO (now-wi) (L b)))(V:∀a∈s.cg,∀y∈bt a,now<=y.1)(D:GW s bt S e):(J s.nm).Perm (L s.nm++bt s.nm):=by rw[m,Z];cases s with
 |take n k=>
  change((evs++[e]).filter _|>.map Iz).Perm ((evs.filter _).map _++bt n);rw[D,FD,CW];unfold NZ;by_cases q:e.2.1=k;. rw[AE0 q,Pp (by show AE1 q)];show .refl _
  . rw[AEz q,OE (by rw[AE6];show q)];show .refl _|only n a A z=> have D:bt n=(bt a).filter _:=D;change((J a).filter _).Perm ((L a).filter _++bt n);rw[D,<-FD];show(U a (.head _)).filter _|turn n a f g=>have D:bt n=(bt a).map _:=D;change((J a).map _).Perm ((L a).map _++bt n);rw[D,<-CW];show(U a (.head _)).map _|both n a b=>change(J b++J a).Perm (L b++L a++bt n);rw[D];show((U b (.tail _ (.head _))).append (U a (.head _))).trans ?_;rw[FN,FN];show .append (.refl _) ?_;show Pw.trans ?_;rw[FN]|join n a b wi=>obtain⟨p,q⟩:=Y n a b wi rfl;show(S9 (U a (.head _)) (U b (.tail _ (.head _)))).trans ?_;show WY.trans (.append (.refl _) (Wb (V a (.head _)) (V b (.tail _ (.head _))) p q D).symm)|gap=>cases W|each=>cases W
theorem gL{L:AF->List AO}(W:now<=e.1)(V:∀n a b wi,s=.join n a b wi->S.1.Perm (BO (now-wi) (L a))/\S.2.Perm (BO (now-wi) (L b)))(J:∀a∈s.cg,∀y∈bt a,now<=y.1)(U:GW s bt S e):∀y∈bt s.nm,now<=y.1:=λy D=>by cases s with
 |take n k=>
  have D:y∈bt n:=D;rw[U]at D;unfold NZ at D;split at D;.rw[Bm.mp D];show W
  .cases D|only n a B A=>have D:y∈bt n:=D;rw[U]at D;show J a (.head _) y (D1.mp D).1|turn n a f g=> have D:y∈bt n:=D;rw[U]at D;obtain⟨x,Y,rfl⟩:_:=Ay.mp D;show J a (.head _) x Y|both n a b=>have D:y∈bt n:=D;rw[U]at D;show(Ce.mp D).elim (J a (.head _) y) (J b (.tail _ (.head _)) y)|join n a b wi=>obtain⟨p,q⟩:=V n a b wi rfl;show gQ (J a (.head _)) (J b (.tail _ (.head _))) y ((Wb (J a (.head _)) (J b (.tail _ (.head _))) p q U).mem_iff.mp D)|gap n a Z m=>have D:y∈bt n:=D;rw[U]at D;show J a (.head _) y D|each n a Z z d=>have D:y∈bt n:=D;rw[U]at D;show J a (.head _) y D
theorem GW.acy(J:D s.nm=bt s.nm)(U:∀a∈s.cg,D a=bt a)(h:GW s bt S e):GW s D S e:=by cases s with|take n k=>show J.trans h|only n a Y W=>change D n=Kl _ _;rw[U a (.head _),<-h];show J|turn n a f g=>change D n=Kl _ _;rw[U a (.head _),<-h];show J|both n a b=>change D n=D a++D b;rw[U a (.head _),U b (.tail _ (.head _)),<-h];show J|join n a b V=>have J:D n=bt n:=J;change(DN V _ _).Perm _;rw[U a (.head _),U b (.tail _ (.head _)),J];show h|gap n a s m=>change D n=D a;rw[U a (.head _),<-h];show J|each n a s z m=>change D n=D a;rw[U a (.head _),<-h];show J
structure C4(ss:List AU):Prop where
 bh:∀(i i':Nat)s s',ss[i]?=AA s->ss[i']?=AA s'->s.nm=s'.nm->i=i'
 oq:∀(i:Nat)s a,ss[i]?=AA s->a∈s.cg->∃(i':Nat)(s':AU),i'<i/\ss[i']?=AA s'/\s'.nm=a/\s'.cp=AR
 ok:∀s∈ss,O6 s
def B7(bt:AF->List AO)(n:AF)(L:List AO):AF->List AO:=λa=>if a=n then L else bt a
theorem II:B7 bt n L n=L:=AE0 rfl
theorem C4.acq(h:C4 ss){i k:Nat}(D:ss[i]?=AA s)(J:ss[k]?=AA t)(U:k<i)(bt:AF->List AO)(L:List AO):B7 bt s.nm L t.nm=bt t.nm:=AEz λe=>by have:=h.bh k i t s J D e;simp_all
theorem C4.jf(h:C4 ss){i k:Nat}(J:ss[i]?=AA s)(U:ss[k]?=AA t)(W:k<=i)(bt:AF->List AO)(L:List AO)(V:a∈t.cg):B7 bt s.nm L a=bt a:=by obtain⟨Y,Z,l,D,rfl,_⟩:_:=h.oq k t a U V;show h.acq J D (BY l W) bt L
theorem C4.acu(h:C4 ss)(U:ss[i]?=AA s){sd:Nat->List AO×List AO}(L:List AO)(Y:∀(k:Nat)t,k<i->ss[k]?=AA t->GW t bt (sd k) e)(Z:GW s (B7 bt s.nm L) (sd i) e):∀(k:Nat)t,k<i+1->ss[k]?=AA t->GW t (B7 bt s.nm L) (sd k) e:=λk t V J=>by
 by_cases D:k=i;.subst D;rw[U]at J;cases J;show Z
 .show(Y k t (DU (Dc V) D) J).acy (h.acq U J (DU (Dc V) D) bt L) λa W=>h.jf U J (Dc V) bt L W
theorem C4.abe(h:C4 ss){L:AF->List AO}{sd:Nat->List AO×List AO}(Y:now<=e.1)(V:∀(i:Nat)n a b wi,ss[i]?=AA (.join n a b wi)->(sd i).1.Perm (BO (now-wi) (L a))/\(sd i).2.Perm (BO (now-wi) (L b)))(W:∀(i:Nat)s,i<n->ss[i]?=AA s->GW s bt (sd i) e):∀m,m<=n->∀(i:Nat)s,i<m->ss[i]?=AA s->∀y∈bt s.nm,now<=y.1|0,_,i,_,D,_=>absurd D (Ia _)|m+1,Z,i,s,D,J=>by have B:=C4.abe h Y V W m (D9 Z);show gL Y (λn a b wi q=>V i n a b wi (by rw[<-q];show J)) (λa z=>?_) (W i s (BY D Z) J);obtain⟨A,E,C,U,rfl,_⟩:_:=h.oq i s a J z;show B A E (BY C (Dc D)) U
def Fz(H:AH)(ps:List AE)(ss:List AU):Prop:=BJ (λx s=>∃a,x=.ref a/\Dl H a s) ps ss
theorem Fz.ab(h:Fz H ps ss)(t:Bk H H'):Fz H' ps ss:=ES (λx s⟨a,e,q⟩=>⟨a,e,q.tp t⟩) h
theorem Fz.gf(h:Fz H ps ss):ps.length=ss.length:=(CJ h).1
theorem Fz.at(h:Fz H ps ss){i:Nat}(e:ps[i]?=AA x):∃a s,x=.ref a/\ss[i]?=AA s/\Dl H a s:=by lk;obtain⟨l,f⟩:=CJ h;have J:=(BU.mp e).1;have D:=Ck (show i<ss.length by simp_all);obtain⟨a,r1,r2⟩:=f i x _ e D;k_in;show⟨a,_,r1,D,r2⟩
def Bq(p:AB->Prop)(H H':AH):Prop:=∀b o,¬p b->H b=AA o->H' b=AA o
theorem DC.fh{K:AB}(h:DC AI ex H j G K L U W wi B E)(s:Bq p H H')(Y:∀b,p b->(b∈ex/\∃xs,H b=AA (.lst xs))\/∃kvs,H b=AA (.dK kvs))(N:¬p U)(O:¬p W):DC AI ex H' j G K L U W wi B E:=by
 have Z:∀{b:AB}{C D:AB}{J:List _},H b=AA _->H' b=AA (.ins C D J):=λ{b C D J}e=>s _ _ (λq=>by rcases Y b q with⟨_,xs,z⟩|⟨kvs,z⟩<;>(rw[e]at z;cases z)) e;have A:∀{b:AB}{xs:List AE},b∉ex->H b=AA _->H' b=AA (.lst xs):=λ{b xs}n e=>s _ _ (λq=>by
  rcases Y b q with⟨z,_⟩|⟨kvs,z⟩;.show n z
  .rw[e]at z;cases z) e;have I:Bk H H':=λb xs e=>s _ _ (λq=>by rcases Y b q with⟨_,xs,z⟩|⟨kvs,z⟩<;>(rw[e]at z;cases z)) e;obtain⟨⟨D,e⟩,M,P,r1,n,F⟩:_:=h;show⟨⟨D,Z e⟩,A F M,P.ab (λC D J e=>Z e) (λkvs e=>s _ _ N e) (λb xs n e=>A n e) I,r1.ab (λC D J e=>Z e) (λkvs e=>s _ _ O e) (λb xs n e=>A n e) I,n,F⟩
theorem J9(h:F2 H a u)(s:∀o,H a=AA o->H' a=AA o):F2 H' a u:=by show h.elim (λe=>.inl (s _ e)) λD=>?_;obtain⟨o,e⟩:=D;show .inr ⟨o,s _ e⟩
theorem X2(h:F2 H a u)(D:H b=AG):a≠b:=λz=>by rcases h with e|⟨o,e⟩<;>(rw[z,D]at e;cases e)
structure EI where
 j:AB
 sl:AB
 x0:AB
 x1:AB
 d0:AB
 d1:AB
def DX(ss:List AU)(i:Nat):Prop:=∃(n a b:AF)(D:Int),ss[i]?=AA (.join n a b D)
structure CY(ad:Br)(ex:List AB)(H:AH)(ss:List AU)(dj:AB)(jkvs:List (AN×AE))(jd:Nat->EI)(sd:Nat->List AO×List AO):Prop where
 ah:F2 H dj (.dK jkvs)fw:∀(i:Nat)(n a b:AF)(wi:Int),ss[i]?=AA (.join n a b wi)->BQ jkvs (.inl (i:Int))=AA (.ref (jd i).j)/\DC ad ex H (jd i).j (jd i).sl (jd i).x0 (jd i).x1 (jd i).d0 (jd i).d1 wi (sd i).1 (sd i).2
 bh:∀i i':Nat,DX ss i->DX ss i'->i≠i'->((jd i').d0≠(jd i).d0/\(jd i').d0≠(jd i).d1)/\(jd i').d1≠(jd i).d0/\(jd i').d1≠(jd i).d1
 wu:∀i:Nat,DX ss i->dj≠(jd i).d0/\dj≠(jd i).d1
def DF(ss:List AU)(D:Nat->EI)(b:AB):Prop:=∃i,DX ss i/\(b=(D i).d0\/b=(D i).d1)
theorem CY.ag(h:CY AI ex H ss J D U sd)(s:An H H'):CY AI ex H' ss J D U sd:=⟨J9 h.ah (s _),λi n a b W e=>⟨(h.fw i n a b W e).1,(h.fw i n a b W e).2.ag s⟩,h.bh,h.wu⟩
theorem CY.ip(h:CY AI ex H ss J D U sd)(Y:H l=AG):CY AI (l::ex) H ss J D U sd:=⟨h.ah,λi n a b W e=>⟨(h.fw i n a b W e).1,(h.fw i n a b W e).2.ip Y⟩,h.bh,h.wu⟩
theorem CY.iw(h:CY AI (l::ex) H ss J D U sd):CY AI ex H ss J D U sd:=⟨h.ah,λi n a b W e=>⟨(h.fw i n a b W e).1,(h.fw i n a b W e).2.iw⟩,h.bh,h.wu⟩
theorem CY.fh(h:CY AI ex H ss J D U sd)(s:Bq p H H')(z:∀b,p b->(b∈ex/\∃xs,H b=AA (.lst xs))\/∃kvs,H b=AA (.dK kvs))(W:∀b,p b->¬DF ss U b)(Z:¬p J):CY AI ex H' ss J D U sd:=⟨J9 h.ah λo=>s _ o Z,λi n a b Y e=>⟨(h.fw i n a b Y e).1,(h.fw i n a b Y e).2.fh s z (λq=>W _ q ⟨i,⟨_,_,_,_,e⟩,.inl rfl⟩) λq=>W _ q ⟨i,⟨_,_,_,_,e⟩,.inr rfl⟩⟩,h.bh,h.wu⟩
theorem CY.ku(h:CY AI ex H ss A J D sd)(W:ss[i]?=AA (.join n a b wi))(s:GZ (D i).d0 (D i).d1 H H')(g:DC AI ex H' (D i).j (D i).sl (D i).x0 (D i).x1 (D i).d0 (D i).d1 wi M0 M1):CY AI ex H' ss A J D λk=>if k=i then(M0,M1)else sd k:=by
 have Y:DX ss i:=⟨_,_,_,_,W⟩;show⟨J9 h.ah λo=>s _ o (h.wu i Y).1 (h.wu i Y).2,λk F C E B U=>⟨(h.fw k _ _ _ _ U).1,?_⟩,h.bh,h.wu⟩;by_cases Z:k=i
 . subst Z;rw[W]at U;cases U;rw[AE0 rfl];show g
 . rw[AEz Z];have z:=h.bh i k Y ⟨_,_,_,_,U⟩ (DJ Z);show(h.fw i _ _ _ _ W).2.yn (h.fw k _ _ _ _ U).2 s z.1 z.2
def IH(H:AH)(xs:List AE)(ps:List (Int×AO)):Prop:=BJ (λx p=>∃a q,x=.ref a/\H a=AA (.tup [.int p.1,.ref q])/\H q=AA (.tup ((EM p.2).map Au))) xs ps
theorem IH.ab(h:IH H xs ps)(t:Bk H H'):IH H' xs ps:=ES (λx p U=>by obtain⟨a,q,e,D,J⟩:=U;show⟨a,q,e,t _ _ D,t _ _ J⟩) h
theorem IH.gf(h:IH H xs ps):xs.length=ps.length:=(CJ h).1
theorem IH.at(h:IH H xs ps){i:Nat}(e:xs[i]?=AA x):∃a q s it,x=.ref a/\ps[i]?=AA (s,it)/\H a=AA (.tup [.int s,.ref q])/\H q=AA (.tup ((EM it).map Au)):=by lk;obtain⟨l,f⟩:=CJ h;have U:=(BU.mp e).1;have D:=Ck (show i<ps.length by simp_all);obtain⟨a,q,r1,r2,J⟩:=f i x _ e D;k_in;show⟨a,q,_,_,r1,D,r2,J⟩
theorem CY.av(h:CY AI ex H ss U D W sd)(e:∀i,DX ss i->sd' i=sd i):CY AI ex H ss U D W sd':=⟨h.ah,λi n a b Y J=>⟨(h.fw i n a b Y J).1,by rw[e i ⟨_,_,_,_,J⟩];show(h.fw i n a b Y J).2⟩,h.bh,h.wu⟩
def Ef(ss:List AU)(sd:Nat->List AO×List AO)(n:Nat)(bt:AF->List AO)(i:Nat):List AO×List AO:=match ss[i]? with|AA (.join _ a b _)=>if i<n then((sd i).1++bt a,(sd i).2++bt b)else sd i|_=>sd i
theorem KA(e:ss[i]?=AA (.join m a b wi)):Ef ss sd n bt i=if i<n then((sd i).1++bt a,(sd i).2++bt b)else sd i:=by unfold Ef;rw[e]
theorem mJ(ss:List AU)(sd:Nat->List AO×List AO)(bt:AF->List AO):Ef ss sd 0 bt=sd:=by
 funext i;unfold Ef;split;.show AEz (Ia _)
 .rfl
theorem mI(V:C4 ss)(J:ss[n]?=AA s)(Y:s.no≠4)(L:List AO):∀i,DX ss i->Ef ss sd (n+1) (B7 bt s.nm L) i=Ef ss sd n bt i:=by
  intro i W;obtain⟨m,a,b,z,D⟩:_:=W;rw[KA D,KA D];by_cases h:i<n;.rw[AE0 (ON h),AE0 h,V.jf J D (B8 h) bt L (.head _),V.jf J D (B8 h) bt L (.tail _ (.head _))]
  . by_cases U:i=n
    . subst U;rw[J]at D;cases D;show absurd rfl Y
    .rw[AEz (LI U (λZ=>Ec (Dc Z) (FQ h))),AEz h]
theorem mH(U:C4 ss)(D:ss[n]?=AA (.join m a b wi))(L:List AO):∀i,DX ss i->Ef ss sd (n+1) (B7 bt m L) i=if i=n then((Ef ss sd n bt n).1++bt a,(Ef ss sd n bt n).2++bt b)else Ef ss sd n bt i:=by
  intro i C;obtain⟨G,Z,z,F,J⟩:_:=C;have V:=U.jf D D (Aj _) bt L (.head _);have W:=U.jf D D (Aj _) bt L (.tail _ (.head _));have V:B7 bt m L a=bt a:=V;have W:B7 bt m L b=bt b:=W;by_cases Y:i=n;. subst Y;rw[D]at J;rw[KA D,KA D,AE0 rfl,AE0 (KS _),AEz (Ht _),V,W]
  . rw[AEz Y,KA J,KA J];by_cases h:i<n
    . have A:B7 bt m L Z=bt Z:=U.jf D J (by lia) bt L (.head _);have B:B7 bt m L z=bt z:=U.jf D J (by lia) bt L (.tail _ (.head _));rw[AE0 (by lia),AE0 h,A,B]
    .rw[AEz (LI h (λE=>DU (Dc E) Y)),AEz h]
def FI(ss:List AU)(bt:AF->List AO):Nat->List (Int×AO)|0=>[]|n+1=>FI ss bt n++(match ss[n]? with|AA s=>if s.cp=AK then(bt s.nm).map λi=>((n:Int),i)else[]|AG=>[])
theorem YX(J:C4 ss)(D:ss[i]?=AA s)(bt:AF->List AO)(L:List AO):∀n,n<=i->FI ss (B7 bt s.nm L) n=FI ss bt n|0,_=>rfl|n+1,h=>by unfold FI;rw[YX J D bt L n (D9 h)];congr 1;cases U:ss[n]? with|none=>rfl|some t=>change(if t.cp=AK then _ else _)=_;rw[J.acq D U (by assumption) bt L]
theorem lP{st:AU}(W:st.no≠0)(Y:st.no≠4)(U:L=Kl st (st.cg.map bt))(J:∀a∈st.cg,B7 bt st.nm L a=bt a):GW st (B7 bt st.nm L) S e:=by cases st with|take=>show absurd rfl W|join=>show absurd rfl Y|only n f A Z=>have D:B7 bt n L f=bt f:=J f (.head _);change B7 bt n L n=Kl _ [B7 bt n L f];rw[II,D,U];rfl|turn n f x y=>have D:B7 bt n L f=bt f:=J f (.head _);change B7 bt n L n=Kl _ [B7 bt n L f];rw[II,D,U];rfl|both n f g=>have D:B7 bt n L f=bt f:=J f (.head _);have V:B7 bt n L g=bt g:=J g (.tail _ (.head _));change B7 bt n L n=B7 bt n L f++B7 bt n L g;rw[II,D,V,U];rfl|gap n f x y=>have D:B7 bt n L f=bt f:=J f (.head _);change B7 bt n L n=B7 bt n L f;rw[II,D,U];rfl|each n f x y z=>have D:B7 bt n L f=bt f:=J f (.head _);change B7 bt n L n=B7 bt n L f;rw[II,D,U];rfl
theorem qA{X Y:List AO}(p:(X.map EM).Perm (Y.map EM++kss)):∃M:List AO,kss=M.map EM/\X.Perm (Y++M):=by
  show⟨kss.map O7,?_,?_⟩
  . rw[Dh];have:∀D∈kss,(EM∘O7) D=D:=λD J=>by obtain⟨i,_,rfl⟩:=Ay.mp (p.mem_iff.mpr (FE _ J));rfl
    rw[L7 this,ABn]
  . have:=p.map O7;have e:O7∘EM=id:=funext pZ;rw[CW,Dh,Dh,e,R9,R9]at this;show this
theorem Tr[DecidableEq D](kvs:List (D×AE))(k:D)(v:AE):(Bh kvs k v).length<=kvs.length+1:=by
 unfold Bh;split;.simp
 .rw[Bx];show Aj _
theorem YW:∀{n:Nat},(∀(i:Nat)s,i<n->ss[i]?=AA s->(bt s.nm).length<=600)->(FI ss bt n).length<=600*n |0,_=>Aj _|n+1,h=>by have D:=YW (n:=n) λi s V J=>h i s (by lia) J;unfold FI;rw[Bx];cases U:ss[n]? with |none=>show Jn (VW D)|some t=>
 have:=h n t (by simp) U;change _+(if t.cp=AK then _ else[]).length<=_;split;.rw[Aq];lia
 .show Jn (VW D)
def oY(G:Br):BF:=λN H Q O=>(Qc λ(C:List AB)(I B q:AB)(K:List AE)(D:List AU)(J:List (AN×AE))(E:Nat->EI)(Z:Nat->List AO×List AO)(L z:AF->List AO)(Y:List Bd)(e:Bd)(U:Int)=>Sm (N=[.ref I,.ref B,.ref q]) (H I=AA (.lst K)) (Fz H K D) (C4 D) (D.length<=20) (CY G C H D B J E Z) ((∀c∈C,∃o,H c=AA o)) (Ip H q e) ((∀(i:Nat)s,D[i]?=AA s->s.cp=AR->L s.nm=Ee s L Y/\z s.nm=Ee s z (Y++[e])/\(z s.nm).length<=600)) ((∀(i:Nat)n a b F,D[i]?=AA (.join n a b F)->(Z i).1.Perm (BO (U-F) (L a))/\(Z i).2.Perm (BO (U-F) (L b)))) (U<=e.1) (∀W m M A,Bq (DF D E) H W->CY G (m::C) W D B J E (Ef D Z D.length A)->H m=AG->W m=AA (.lst M)->IH W M (FI D A D.length)->(∀(i:Nat)s,D[i]?=AA s->GW s A (Z i) e)->Q (.ref m) W))
theorem k4(T:BL AJ Af AI):T.yf.Ok BC P w Af base 5 (oY AI):=by
  show T.yf.ok λnd O O O O O hr H vs Q E h=>?_;obtain⟨ex,lp,dj,q,ps,ss,jkvs,jd,sd,L,L',evs,e,now,rfl,elp,pr,pok,lss,jr,hex,ev,hL,hS,he,k⟩:_:=h;show⟨_,(Ai (KQ (i:=3) nd rfl (zC rfl) Mq) (Ai (KQ (i:=4) nd rfl (Fq rfl) (C9 Ea)) (Ai (DB DK rfl (Pf (K:=AJ) (by rfl) T.iz (Bl 0)) (J7 rfl (Eb (Jj (i:=5) nd rfl (zC rfl)) (Eb (Jj (i:=6) nd rfl (Fq rfl)) Jk))) (Ai (Pg (i:=7) (osc:=DG Tv) [("brought",3)] nd rfl (Fq rfl) rfl (DA (K:=AJ) (BE (jT T) hr #v[Bl 6])) rfl rfl (by decide+kernel) (by decide+kernel) (by decide+kernel) ⟨rfl,rfl,trivial⟩ rfl (by decide+kernel) (λO O O O=>G0) (λO O O O=>(Fm hr.u1 (Bl 1) (Bl 0) (λO O=>rfl)))) (Ai (Gj (CF (Bw DH (FL (JI (K:=AJ)) (Bl 6) AQ (λO O=>rfl)) Dq (Bs _)) (Ab (KQ (i:=8) nd rfl (Fq rfl) (BE (lB T) hr #v[Bl 6,Bl 2]))) (Ab (CF (Bw DH (FL (JI (K:=AJ)) (Bl 6) AQ (λO O=>rfl)) Dq (Bs _)) (Ab (KQ (i:=8) nd rfl (Fq rfl) (BE (kH T) hr #v[(Fm hr.u1 (Bl 1) (Bl 5) (λO O=>rfl)),Bl 7]))) (Ab (KQ (i:=8) nd rfl (Fq rfl) (BE (kT T) hr #v[Bl 6,Bl 7]))))))) (Ai (KP hr.u1 (Bl 3) (BE (kM T) hr #v[Bl 6]) (Bl 8) rfl) (Ab (CF (Jl (BE (XX T) hr #v[Bl 6])) (Ab (D8 (JM (K:=AJ) MF NB OQ Lw (Bl 4) #v[(Pd (osc:=DG Tv) [("place",5)] rfl (DA (K:=AJ) (Bl 8)) rfl rfl (by decide+kernel) (by decide+kernel) (by decide+kernel) ⟨rfl,rfl,trivial⟩ rfl (by decide+kernel) (λO O O O=>G0) (λO O O O=>(Cj #v[Bl 1,Bl 0])))]))) Cd)))))) (Ab (BD (Bl 4)))))),?_⟩;have sz:Az=16777216:=Dj;have lps:=pr.gf;have isd:∀b,DF ss jd b->∃kvs,H b=AA (.dK kvs):=λb hb=>by
    obtain⟨i,⟨n,a,b',wi,ei⟩,hb⟩:=hb;obtain⟨⟨k0,e0⟩,k1,e1⟩:=(jr.fw i n a b' wi ei).2.rl;rcases hb with rfl|rfl;.show⟨_,e0⟩
    .show⟨_,e1⟩
  showλbr hbr=>⟨Bc _,λu hu0=>?_⟩;have hu:H u=AG:=Gd hu0;have nbu:br≠u:=BH AY hu0;have s0:An H (AM (AM H br (.dK [])) u (.lst [])):=((CQ H).gy hbr).gy hu0;have ebr0:(AM (AM H br (.dK [])) u (.lst [])) br=AA (.dK []):=by rw[AV nbu];show AY
  have eu0:(AM (AM H br (.dK [])) u (.lst [])) u=AA (.lst []):=AY;generalize AM (AM H br (.dK [])) u (.lst [])=H0 at s0 ebr0 eu0⊢;have keep:∀{H':AH}{b:AB}{o:BW},Bq (DF ss jd) H H'->H b=AA o->(∀kvs,o≠.dK kvs)->H' b=AA o:=λ{H' b o}s eo hn=>s b o (λz=>by obtain⟨kvs,ek⟩:=isd b z;rw[eo]at ek;show hn _ (By ek)) eo;show⟨_,rfl,lp,rfl,⟨_,Ac (s0 _ _ elp)⟩,RV (K:=AJ) (xs:=ps) (λn σ H'=>(Kd λ(o5 o6 o7 o8:Option AE)(kvs:List (AN×AE))(acc:List AE)(bt:AF->List AO)=>Of (σ=(Qj lp dj q br u o5 o6 o7 o8)) (Bq (DF ss jd) H H') (CY AI (u::ex) H' ss dj jkvs jd (Ef ss sd n bt)) (kvs.length<=n) (H' br=AA (.dK kvs)) (H' u=AA (.lst acc)) (IH H' acc (FI ss bt n)) ((∀(i:Nat)s,i<n->ss[i]?=AA s->GW s bt (sd i) e)) ((∀(i:Nat)s,i<n->ss[i]?=AA s->∃r,BQ kvs (.inr s.nm)=AA (.ref r)/\GC H' r (bt s.nm)/\r≠u/\(bt s.nm).length<=600)) ((∀(i:Nat)s,i<n->ss[i]?=AA s->s.cp=AR->(L' s.nm).Perm (L s.nm++bt s.nm))))) ⟨AG,AG,AG,AG,[],[],λO=>[],rfl,λb o O eo=>s0 _ _ eo,?_,Aj _,ebr0,eu0,.nil,λi s h=>absurd h (Ia _),λi s h=>absurd h (Ia _),λi s h=>absurd h (Ia _)⟩ (λn σ H' O hh=>by obtain⟨_,_,_,_,_,_,_,_,s',_⟩:=hh;show Ac (keep s' elp nofun)) ?_ ?_⟩;. rw[mJ];show(jr.ip hu).ag s0
  . intro n x σ H1 p hx hI hp;lk;obtain⟨o5,o6,o7,o8,kvs,acc,bt,rfl,s1,jr1,lk1,eb1,eu1,it1,br1,cm1,pm1⟩:=hI;obtain⟨a,st,rfl,es,ea⟩:=pr.at hx;k_in;have hn:n<ss.length:=(BU.mp es).1;have s2:=Bv (o:=.tup [.int (n:Int),.ref a]) hp;have ea1:Dl H1 a st:=keep s1 ea nofun;show⟨p,_,rfl,Ar AY,rfl,_,_,rfl,_,_,rfl,rfl,?_⟩;show⟨_,rfl,a,st,rfl,ea1.tp s2.tp,λlf Hf sf hlf elf=>⟨lf,rfl,⟨_,Ac elf⟩,?_⟩⟩;have s3:=s2.aa sf;have cmf:∀(i:Nat)s,i<n->ss[i]?=AA s->∃r,BQ kvs (.inr s.nm)=AA (.ref r)/\GC Hf r (bt s.nm)/\r≠u/\(bt s.nm).length<=600:=λi s hi ei=>by obtain⟨r,v1,v2,v3,v4⟩:=cm1 i s hi ei;show⟨r,v1,v2.ab (λxs z=>s3 _ _ z) s3.tp,v3,v4⟩
    have lf5:st.cg.length<=2:=by cases st<;>show bX rfl
    show IL (K:=AJ) (xs:=st.cg.map AE.str) (λm τ acc H'=>(∃o,τ=[o,AA (.ref br)])/\H'=Hf/\Og Hf acc ((st.cg.take m).map bt)/\∀r,AE.ref r∈acc->r≠u) (by rw[Aq];lia) ⟨⟨AG,rfl⟩,rfl,.nil,λr hr=>by cases hr⟩ (λm τ acc H'⟨_,ee,_⟩=>by rw[ee];show Ac elf) ?_ ?_
    . intro m y τ acc H' R1 hy _ hI k1;lk;obtain⟨⟨o,rfl⟩,rfl,hc,hru⟩:=hI;rw[Bt]at hy;obtain⟨f,ef,rfl⟩:=EA.mp hy;obtain⟨i',s',li,ei',rfl,_⟩:=pok.oq n st f es (Cm ef);obtain⟨r,v1,v2,v3,v4⟩:=cmf i' s' li ei';k_in;show⟨_,rfl,_,rfl,br,.ref r,rfl,?_,k1 _ _ _ ⟨⟨_,rfl⟩,rfl,?_,λr' hr'=>?_⟩⟩;. rw[<-v1];show Me (k:=.inr s'.nm) (s3 _ _ eb1)
      . rw[D2,ef,CW];show D7 hc (.cons ⟨r,rfl,v2⟩ .nil)
      . rcases Ce.mp hr' with h|h;.show hru r' h
        .cases Bm.mp h;show v3
    . intro τ acc2 H' la hI ls hls;obtain⟨_,rfl,hc,ru4⟩:_:=hI;rw[Aq,EH (Aj _)]at hc;have s4:=s3.gy (o:=.lst acc2) hls;have sl4:=Bv (o:=.lst acc2) hls;have els:(AM H' ls (.lst acc2)) ls=AA (.lst acc2):=AY;have hc4:Og (AM H' ls (.lst acc2)) acc2 (st.cg.map bt):=ES (λx L⟨r,e1,e2⟩=>⟨r,e1,e2.ab (λxs z=>sl4 _ _ z) sl4.tp⟩) hc;have cm4:∀(i:Nat)s,i<n->ss[i]?=AA s->∃r,BQ kvs (.inr s.nm)=AA (.ref r)/\GC (AM H' ls (.lst acc2)) r (bt s.nm)/\r≠u/\(bt s.nm).length<=600:=λi s hi ei=>by obtain⟨r,v1,v2,v3,v4⟩:=cmf i s hi ei;show⟨r,v1,v2.ab (λxs z=>sl4 _ _ z) sl4.tp,v3,v4⟩
      generalize AM H' ls (.lst acc2)=H4 at s4 els hc4 cm4⊢;have sp4:Bq (DF ss jd) H H4:=λb o nb eo=>s4 _ _ (s1 b o nb eo);have jr4:=jr1.ag s4;have ea4:Dl H4 a st:=ea1.tp s4.tp;have eb4:=s4 _ _ eb1;have ev4:Ip H4 q e:=s4 _ _ (keep s1 ev nofun);have eu4:=s4 _ _ eu1;have it4:=it1.ab s4.tp;have fz:∀f∈st.cg,(L' f).Perm (L f++bt f)/\(L f).length+(bt f).length<=600:=λf hf=>by obtain⟨i',s',li,ei',rfl,ht⟩:=pok.oq n st f es hf;have pp:=pm1 i' s' li ei' ht;have:=pp.length_eq;rw[Bx]at this;have:=(hL i' s' ei' ht).2.2;show⟨pp,by simp_all⟩
      show Gh (λσ' H'=>Sx (λ(r:AB)(Lr:List AO)=>σ'=(Qj lp dj q br u (AA (.int (n:Int))) (AA (.ref a)) (AA (.ref ls)) (AA (.ref r)))) (λO O=>Bq (DF ss jd) H H') (λO Lr=>CY AI (u::ex) H' ss dj jkvs jd (Ef ss sd (n+1) (B7 bt st.nm Lr))) (λO O=>H' br=AA (.dK kvs)) (λO O=>H' u=AA (.lst acc)) (λO O=>IH H' acc (FI ss bt n)) (λr Lr=>GC H' r Lr) (λr O=>r≠u) (λO Lr=>GW st (B7 bt st.nm Lr) (sd n) e) (λO O=>Dl H' a st) (λr O=>∀(i:Nat)s,i<n->ss[i]?=AA s->∃r,BQ kvs (.inr s.nm)=AA (.ref r)/\GC H' r (bt s.nm)/\r≠u/\(bt s.nm).length<=600)) ?_ ?_
      . obtain⟨e0,e1,e2⟩:_:=ea4.md;have plain:∀{r:AB}{Lr:List AO}{H5:AH},An H4 H5->st.no≠4->GC H5 r Lr->r≠u->GW st (B7 bt st.nm Lr) (sd n) e->(λ(σ':List (Option AE))(H':AH)=>Sx (λ(r:AB)(Lr:List AO)=>σ'=(Qj lp dj q br u (AA (.int (n:Int))) (AA (.ref a)) (AA (.ref ls)) (AA (.ref r)))) (λO O=>Bq (DF ss jd) H H') (λO Lr=>CY AI (u::ex) H' ss dj jkvs jd (Ef ss sd (n+1) (B7 bt st.nm Lr))) (λO O=>H' br=AA (.dK kvs)) (λO O=>H' u=AA (.lst acc)) (λO O=>IH H' acc (FI ss bt n)) (λr Lr=>GC H' r Lr) (λr O=>r≠u) (λO Lr=>GW st (B7 bt st.nm Lr) (sd n) e) (λO O=>Dl H' a st) (λr O=>∀(i:Nat)s,i<n->ss[i]?=AA s->∃r,BQ kvs (.inr s.nm)=AA (.ref r)/\GC H' r (bt s.nm)/\r≠u/\(bt s.nm).length<=600)) (Qj lp dj q br u (AA (.int (n:Int))) (AA (.ref a)) (AA (.ref ls)) (AA (.ref r))) H5:=λ{r Lr H5}s5 n4 cr ru bs=>⟨r,Lr,rfl,λb o nb eo=>s5 _ _ (sp4 b o nb eo),(jr4.ag s5).av (mI pok es n4 Lr),s5 _ _ eb4,s5 _ _ eu4,it4.ab s5.tp,cr,ru,bs,ea4.tp s5.tp,λi s hi ei=>by obtain⟨r,v1,v2,v3,v4⟩:=cm4 i s hi ei;show⟨r,v1,v2.ab (λxs z=>s5 _ _ z) s5.tp,v3,v4⟩⟩;show⟨_,rfl,a,_,_,_,rfl,rfl,e0,e1,rfl,_,rfl,J4 (i:=0) rfl (λq0=>?_) λq0=>?_⟩
        . lk;obtain⟨nn,kd,rfl⟩:∃nn kd,st=.take nn kd:=by cases st<;>first|show⟨_,_,rfl⟩|cases q0
          k_in;show⟨_,rfl,_,rfl,a,q,nn,kd,e,rfl,ea4,ev4,λr H5 s5 hr5 cr=>plain s5 nofun cr (BH eu4 hr5).symm ?_⟩;show II
        . show⟨_,rfl,a,_,_,_,rfl,rfl,e0,e1,rfl,_,rfl,J4 (i:=4) rfl (λq4=>?_) λq4=>?_⟩
          . lk;obtain⟨nn,f,g,wi,rfl⟩:∃nn f g wi,st=.join nn f g wi:=by cases st<;>first|show⟨_,_,_,_,rfl⟩|cases q4
            obtain⟨jv,jj⟩:=jr4.fw n nn f g wi es;have e9:Ef ss sd n bt n=sd n:=by rw[KA es,AEz (Ht _)]
            rw[e9]at jj;obtain⟨r0,r1,xs0,xs1,rfl,er0,er1,w0,w1⟩:=WS hc4;have z0:=fz f (.head _);have z1:=fz g (.tail _ (.head _));obtain⟨pf,pg⟩:=hS n nn f g wi es;k_in;have lf0:(sd n).1.length<=(L f).length:=pf.length_eq▸Kp _ _;have lg0:(sd n).2.length<=(L g).length:=pg.length_eq▸Kp _ _;have hex4:∀c∈u::ex,∃o,H4 c=AA o:=λc hc=>by
              rcases CZ.mp hc with rfl|hc;.show⟨_,eu4⟩
              . obtain⟨o,eo⟩:=hex c hc;by_cases hd:DF ss jd c
                . obtain⟨i,⟨n',a',b',wi',ei⟩,hd⟩:=hd;obtain⟨⟨k0,g0⟩,k1,g1⟩:=(jr4.fw i n' a' b' wi' ei).2.rl;rcases hd with rfl|rfl;.show⟨_,g0⟩
                  .show⟨_,g1⟩
                .show⟨_,sp4 c o hd eo⟩
            show⟨_,rfl,_,rfl,dj,.ref (jd n).j,rfl,by rw[<-jv];show .inl ⟨jkvs,.inl (n:Int),jr4.ah,rfl,rfl⟩,_,rfl,u::ex,(jd n).j,(jd n).sl,(jd n).x0,(jd n).x1,(jd n).d0,(jd n).d1,ls,r0,r1,wi,(sd n).1,(sd n).2,bt f,bt g,rfl,jj,hex4,els,⟨_,er0,w0⟩,⟨_,er1,w1⟩,by lia,by lia,λH5 m xs5 kss sy5 j5 hm em hw5 pm5=>?_⟩;have sp5:Bq (DF ss jd) H4 H5:=λb o nb eo=>sy5 b o (λz=>nb ⟨n,⟨_,_,_,_,es⟩,.inl z⟩) (λz=>nb ⟨n,⟨_,_,_,_,es⟩,.inr z⟩) eo;have ky:∀{b:AB}{o:BW},H4 b=AA o->(∀kvs,o≠.dK kvs)->H5 b=AA o:=λeo hn=>jj.y sy5 eo hn;have tp5:=jj.adz sy5;rw[S8,S8]at pm5;obtain⟨M,rfl,pmM⟩:_:=qA pm5;have nbr:¬DF ss jd br:=λz=>by obtain⟨kv,ek⟩:=isd br z;rw[hbr]at ek;cases ek
            have fe:∀a'∈(AU.join nn f g wi).cg,B7 bt nn M a'=bt a':=λa' ha'=>pok.jf es es (Aj _) bt M ha';show⟨m,M,rfl,λb o nb eo=>sp5 b o nb (sp4 b o nb eo),?_,sp5 _ _ nbr eb4,ky eu4 nofun,it4.ab tp5,⟨_,em,hw5⟩,(BH eu4 hm).symm,?_,ea4.tp tp5,λi s hi ei=>?_⟩
            . show(jr4.ku es sy5 j5).av λi hi=>?_;have q:=mH pok (sd:=sd) (bt:=bt) es M i hi;rw[e9]at q;show q
            . change(DN wi ((sd n).1++B7 bt nn M f) ((sd n).2++B7 bt nn M g)).Perm (DN wi (sd n).1 (sd n).2++B7 bt nn M nn);rw[fe f (.head _),fe g (.tail _ (.head _)),II];show pmM
            . obtain⟨r,v1,v2,v3,v4⟩:_:=cm4 i s hi ei;show⟨r,v1,v2.ab (λxs z=>ky z nofun) tp5,v3,v4⟩
          . have bf:∀f∈st.cg,(bt f).length<=1000:=λf hf=>by have:=(fz f hf).2;show Ag (SD this) (by decide)
            show⟨_,rfl,_,rfl,a,ls,st,acc2,st.cg.map bt,rfl,ea4,pok.ok st (Cm es),q0,q4,els,hc4,by rw[Aq],λL hL=>by obtain⟨f,hf,rfl⟩:=Ay.mp hL;show bf f hf,λr H5 s5 cr hr5=>plain s5 q4 cr ?_ (lP q0 q4 rfl λf hf=>pok.jf es es (Aj _) bt _ hf)⟩;rcases hr5 with hr5|hr5;.show(BH eu4 hr5).symm
            .show ru4 r hr5
      . intro σ H5 hI;obtain⟨r,Lr,rfl,sp5,jr5,eb5,eu5,it5,cr5,ru5,bs5,ea5,cm5⟩:_:=hI;show⟨_,rfl,_,rfl,_,rfl,a,st,rfl,ea5,br,_,rfl,.inl ⟨_,.inr st.nm,eb5,rfl,?_,rfl⟩,?_⟩;.lia
        have nbr:¬DF ss jd br:=λz=>by obtain⟨kv,ek⟩:=isd br z;rw[hbr]at ek;cases ek
        have ndj:dj≠br:=X2 jr.ah hbr;have s6:Bq (.=br) H5 (AM H5 br (.dK (Bh kvs (.inr st.nm) (.ref r)))):=zzu
        have ne6:∀{b:AB}{o:BW},H5 b=AA o->(∀kv,o≠.dK kv)->b≠br:=λeo hn z=>by rw[z,eb5]at eo;show hn _ (By eo).symm
        have tp6:Bk H5 (AM H5 br (.dK (Bh kvs (.inr st.nm) (.ref r)))):=λb xs eo=>s6 _ _ (ne6 eo nofun) eo;have sp6:Bq (DF ss jd) H (AM H5 br (.dK (Bh kvs (.inr st.nm) (.ref r)))):=λb o nb eo=>s6 _ _ (λz=>by rw[z,hbr]at eo;cases eo) (sp5 b o nb eo);have jr6:CY AI (u::ex) (AM H5 br (.dK (Bh kvs (.inr st.nm) (.ref r)))) ss dj jkvs jd (Ef ss sd (n+1) (B7 bt st.nm Lr)):=jr5.fh s6 (λb hb=>.inr ⟨kvs,by rw[hb];show eb5⟩) (λb hb=>by rw[hb];show nbr) ndj;have eu6:(AM H5 br (.dK (Bh kvs (.inr st.nm) (.ref r)))) u=AA (.lst acc):=s6 _ _ (ne6 eu5 nofun) eu5;have it6:=it5.ab tp6;have ck6:∀{b:AB}{M:List AO},GC H5 b M->GC (AM H5 br (.dK (Bh kvs (.inr st.nm) (.ref r)))) b M:=λc=>c.ab (λxs z=>s6 _ _ (ne6 z nofun) z) tp6;have cr6:=ck6 cr5;have ea6:=ea5.tp tp6;have eb6:(AM H5 br (.dK (Bh kvs (.inr st.nm) (.ref r)))) br=AA (.dK (Bh kvs (.inr st.nm) (.ref r))):=AY;have bt6:=pok.acu es Lr br1 bs5;have fz6:∀f∈st.cg,B7 bt st.nm Lr f=bt f:=λf hf=>pok.jf es es (Aj _) bt Lr hf;have pmn:st.cp=AR->(L' st.nm).Perm (L st.nm++B7 bt st.nm Lr st.nm):=λht=>WR ht (hL n st es ht).1 (hL n st es ht).2.1 (λf hf=>by rw[fz6 f hf];show(fz f hf).1) (λn' a' b' wi' q=>hS n n' a' b' wi' (by rw[<-q];show es)) (λf hf=>by rw[fz6 f hf];obtain⟨i',s',li,ei',rfl,_⟩:=pok.oq n st f es hf;show pok.abe he hS br1 n (Aj _) i' s' li ei') bs5;have lr6:Lr.length<=600:=by cases ht:st.cp with |false=> have:=(pmn ht).length_eq;rw[Bx,II]at this;have:=(hL n st es ht).2.2;lia|true=>
            obtain⟨f,hf,eq⟩:∃f∈st.cg,B7 bt st.nm Lr st.nm=B7 bt st.nm Lr f:=by cases st with |gap n' f x y=>show⟨f,.head _,bs5⟩|each n' f x y z=>show⟨f,.head _,bs5⟩|_=>cases ht
            rw[II,fz6 f hf]at eq;have:=(fz f hf).2;rw[eq];show SD this
        have cm6:∀(i:Nat)s,i<n+1->ss[i]?=AA s->∃r',BQ (Bh kvs (.inr st.nm) (.ref r)) (.inr s.nm)=AA (.ref r')/\GC (AM H5 br (.dK (Bh kvs (.inr st.nm) (.ref r)))) r' (B7 bt st.nm Lr s.nm)/\r'≠u/\(B7 bt st.nm Lr s.nm).length<=600:=λi s hi ei=>by
          by_cases hin:i=n
          . subst hin;rw[es]at ei;cases ei;show⟨r,by rw[IW,AE0 rfl],by rw[II];show cr6,ru5,by rw[II];show lr6⟩
          . obtain⟨r',v1,v2,v3,v4⟩:=cm5 i s (DU (Dc hi) hin) ei;have eo:=pok.acq es ei (DU (Dc hi) hin) bt Lr;show⟨r',?_,by rw[eo];show ck6 v2,v3,by rw[eo];show v4⟩;rw[IW,AEz (λz=>hin (pok.bh i n s st ei es (Fc z)))];show v1
        have pm6:∀(i:Nat)s,i<n+1->ss[i]?=AA s->s.cp=AR->(L' s.nm).Perm (L s.nm++B7 bt st.nm Lr s.nm):=λi s hi ei ht=>by
          by_cases hin:i=n
          . subst hin;rw[es]at ei;cases ei;show pmn ht
          . rw[pok.acq es ei (DU (Dc hi) hin) bt Lr];show pm1 i s (DU (Dc hi) hin) ei ht
        have lk6:=Tr kvs (.inr st.nm) (.ref r);have tl6:=YX pok es bt Lr n (Aj _);generalize AM H5 br (.dK (Bh kvs (.inr st.nm) (.ref r)))=H6 at sp6 jr6 eu6 it6 cr6 ea6 eb6 cm6⊢;show⟨_,rfl,a,st,rfl,ea6,_,rfl,K6 (λht=>?_) λht=>?_⟩
        . obtain⟨xs6,er6,w6⟩:_:=cr6;have lx6:=w6.gf;rw[Aq]at lx6;show⟨_,rfl,.inl ⟨rfl,_,Ac eu6⟩,_,rfl,r,rfl,⟨_,Ac er6⟩,?_⟩;show IL (K:=AJ) (xs:=xs6) (λm τ acc' H'=>(∃o,τ=[o,AA (.int (n:Int))])/\An H6 H'/\IH H' acc' ((Lr.take m).map λi=>((n:Int),i))) (by lia) ⟨⟨AG,rfl⟩,CQ _,.nil⟩ (λm τ acc' H'⟨_,s,_⟩=>Ac (s _ _ er6)) ?_ ?_
          . intro m y τ acc' H' R1 hy _ hI k1;lk;obtain⟨⟨o,rfl⟩,s,hp⟩:=hI;obtain⟨b,ks,rfl,ek,eb⟩:=w6.at hy;rw[Bt]at ek;obtain⟨i,ei,rfl⟩:=EA.mp ek;k_in;show⟨_,rfl,_,rfl,bX rfl,λp2 hp2=>k1 _ _ _ ⟨⟨_,rfl⟩,s.gy hp2,?_⟩⟩;have sp2:=Bv (o:=.tup [.int (n:Int),.ref b]) hp2;rw[D2,ei,CW];show D7 (hp.ab sp2.tp) (.cons ⟨p2,b,rfl,AY,sp2 _ _ (s _ _ eb)⟩ .nil)
          . intro τ acc' H7 la hI D hD;obtain⟨_,s7,hp7⟩:_:=hI;rw[EH (Bi lx6.symm)]at hp7;have s8:=s7.gy (o:=.lst acc') hD;have sD:=Bv (o:=.lst acc') hD;have eD:(AM H7 D (.lst acc')) D=AA (.lst acc'):=AY;have hp8:=hp7.ab sD.tp;generalize AM H7 D (.lst acc')=H8 at s8 eD hp8⊢;have eu8:=s8 _ _ eu6;have la6:acc.length<=600*n:=by rw[it6.gf];show YW λi s hi ei=>by obtain⟨_,_,_,_,v4⟩:=cm1 i s hi ei;show v4
            show⟨u,D,acc,acc',rfl,rfl,eu8,eD,by lia,?_⟩;have s9:Bq (.=u) H8 (AM H8 u (.lst (acc++acc'))):=zzu
            have tp9:Bk H8 (AM H8 u (.lst (acc++acc'))):=λb xs eo=>s9 _ _ (λz=>by rw[z,eu8]at eo;cases eo) eo;have nud:¬DF ss jd u:=λz=>by obtain⟨kv,ek⟩:=isd u z;rw[hu]at ek;cases ek
            have ndu:dj≠u:=X2 jr.ah hu;show⟨_,_,_,_,_,acc++acc',B7 bt st.nm Lr,rfl,λb o nb eo=>s9 _ _ (λz=>by rw[z,hu]at eo;cases eo) (s8 _ _ (sp6 b o nb eo)),?_,Ag lk6 (HQ.mpr lk1),s9 _ _ nbu (s8 _ _ eb6),AY,?_,bt6,λi s hi ei=>?_,pm6⟩;.show(jr6.ag s8).fh s9 (λb hb=>.inl ⟨by rw[hb];show .head _,acc,by rw[hb];show eu8⟩) (λb hb=>by rw[hb];show nud) ndu
            . change IH _ _ (FI ss (B7 bt st.nm Lr) n++_);rw[tl6,es];change IH _ _ (FI ss bt n++(if st.cp=AK then _ else[]));rw[AE0 ht,II];show IH.ab (D7 (it6.ab s8.tp) hp8) tp9
            . obtain⟨r',v1,v2,v3,v4⟩:_:=cm6 i s hi ei;show⟨r',v1,v2.ab (λxs z=>s9 _ _ v3 (s8 _ _ z)) (λb xs z=>tp9 _ _ (s8 _ _ z)),v3,v4⟩
        . have ht:st.cp=AR:=ht;show⟨_,_,_,_,_,acc,B7 bt st.nm Lr,rfl,sp6,jr6,Ag lk6 (HQ.mpr lk1),eb6,eu6,?_,bt6,cm6,pm6⟩;change IH H6 acc (FI ss (B7 bt st.nm Lr) n++_);rw[tl6,es];change IH H6 acc (FI ss bt n++(if st.cp=AK then _ else[]));rw[ht,AEz Dx,Dw];show it6
  . intro σ H1 hI;obtain⟨o5,o6,o7,o8,kvs,acc,bt,rfl,s1,jr1,lk1,eb1,eu1,it1,br1,cm1,pm1⟩:_:=hI;rw[lps]at jr1 it1 br1;show⟨_,rfl,k H1 u acc bt s1 jr1 hu eu1 it1 λi s ei=>br1 i s (BU.mp ei).1 ei⟩
def oX(K:As):BF:=λU H Q O=>JG (λ(a:AB)(D:List Int)=>U=[.ref a]) (λa D=>CD K H a (D.map AE.int)) (λO D=>D.length<=63) (λO O=>∀(c:Int)J,An H J->(c=1\/c=40000)->Q (.int c) J)
theorem Th(T:BL AJ Af AI):T.qh.Ok BC P w Af base 2 (oX AJ):=by
 show T.qh.ok λB O O O O O Z H C Q E h=>?_;obtain⟨a,A,rfl,U,W,k⟩:_:=h;show⟨_,(Ab (BD (DR AJ (C9 #v[AQ,AQ,AQ,AQ]) (AW Bu (AW Ci (BE (O1 T) Z #v[AD 0,AQ]) AQ) AQ)))),?_⟩;show⟨B6 rfl,λp Y=>?_⟩;have s1:=Bv (o:=.lst [.int 1,.int 1,.int 1,.int 40000]) Y;show⟨a,A,_,rfl,s1.uz U,by decide,W,λc=>?_⟩;lk;obtain⟨v,z,J⟩:=Hj [AE.int 1,.int 1,.int 1,.int _] 4 rfl (by decide) _;obtain⟨m,rfl,D⟩:∃m:Int,v=.int m/\(m=1\/m=40000):=by
  simp only[CZ,Pu,AFB]at J;rcases J with rfl|rfl|rfl|rfl;.show⟨_,rfl,.inl rfl⟩
  .show⟨_,rfl,.inl rfl⟩
  .show⟨_,rfl,.inl rfl⟩
  .show⟨_,rfl,.inr rfl⟩
 k_in;show⟨(zzd rfl),(zzp rfl),_,_,Ac AY,z,k m _ s1 D⟩
def Ff(s:AU)(z:AF->Nat)(m:Nat):Nat:=match s with|.take ..=>m|.only _ a _ _|.turn _ a _ _|.gap _ a _ _|.each _ a _ _ _=>z a|.both _ a b=>z a+z b|.join _ a b _=>z a*z b
def mW:BF:=λJ H Q O=>(IG λ(p d:AB)(s:AU)(D:List (AN×AE))(z:AF->Nat)(m:Nat)=>Ek (J=[.ref p,.ref d,.int (m:Int)]) (Dl H p s) (H d=AA (.dK D)) ((∀a∈s.cg,BQ D (.inr a)=AA (.int (z a:Int))/\z a<=600)) (Q (.int (Ff s z m:Int)) H))
theorem XQ(T:BL AJ Af AI):T.pj.Ok BC P w Af base 1 mW:=by
  show T.pj.ok λO S S S S S U H R Q E h=>?_;obtain⟨p,d,D,M,z,m,rfl,e,L,F,k⟩:_:=h;show⟨_,(Ai (CF (Bw DH (BA AJ (AD 0) AQ) Dq (Bs _)) (Ab (BD (AD 2))) Cd) (Ai (CF (Bw DH (BA AJ (AD 0) AQ) Dq (Bs _)) (Ab (BD (AW C5 (Fm U.u1 (AD 1) (BA AJ (AD 0) AQ) (λS S=>rfl)) (Fm U.u1 (AD 1) (BA AJ (AD 0) AQ) (λS S=>rfl))))) Cd) (Ai (CF (Bw DH (BA AJ (AD 0) AQ) Dq (Bs _)) (Ab (BD (AW FK (Fm U.u1 (AD 1) (BA AJ (AD 0) AQ) (λS S=>rfl)) (Fm U.u1 (AD 1) (BA AJ (AD 0) AQ) (λS S=>rfl))))) Cd) (Ab (BD (Fm U.u1 (AD 1) (BA AJ (AD 0) AQ) (λS S=>rfl))))))),?_⟩;obtain⟨J,V,N⟩:_:=e.md;have g:∀a∈D.cg,Ku H d (.str a) (AA (.int (z a:Int))):=λa W=>by rw[<-(F a W).1];show Me (k:=.inr a) L
  show⟨_,_,J,V,rfl,_,rfl,J4 (i:=0) rfl (λZ=>?_) λZ=>?_⟩;.cases D<;>first|cases Z;done|show k
  . show⟨_,_,J,V,rfl,_,rfl,J4 (i:=3) rfl (λA=>?_) λA=>?_⟩
    . lk;obtain⟨n,a,b,rfl⟩:∃n a b,D=.both n a b:=by cases D<;>first|show⟨_,_,_,rfl⟩|cases A
      k_in;show⟨_,_,J,Ap (j:=2) rfl,d,_,rfl,g a (.head _),_,_,J,Ap (j:=3) rfl,d,_,rfl,g b (.tail _ (.head _)),k⟩
    . show⟨_,_,J,V,rfl,_,rfl,J4 (i:=4) rfl (λB=>?_) λB=>?_⟩
      . lk;obtain⟨n,a,b,C,rfl⟩:∃n a b C,D=.join n a b C:=by cases D<;>first|show⟨_,_,_,_,rfl⟩|cases B
        k_in;have Y:=(F a (.head _)).2;show⟨_,_,J,Ap (j:=2) rfl,d,_,rfl,g a (.head _),_,_,J,Ap (j:=3) rfl,d,_,rfl,g b (.tail _ (.head _)),.inl ⟨by lia,ABG.mp (FR Y (by decide))⟩,?_⟩;have:(Ff (.join n a b C) z m:Int)=(z a:Int)*(z b:Int):=Int.natCast_mul ..;rw[this]at k;show k
      . lk;obtain⟨a,W,G,I⟩:∃a,a∈D.cg/\DQ (D.abd.map Au) 2=AA (.str a)/\Ff D z m=z a:=by cases D<;>first|show absurd rfl Z|show absurd rfl A|show absurd rfl B|show⟨_,.head _,Ap (j:=2) rfl,rfl⟩
        k_in;rw[I]at k;show⟨_,_,J,G,d,_,rfl,g a W,k⟩
def AU.aai:AU->List AF|AU.take n k=>[n,k]|AU.only n a _ _=>[n,a]|AU.turn n a _ _=>[n,a]|AU.both n a b=>[n,a,b]|AU.join n a b _=>[n,a,b]|AU.gap n a s _=>[n,a,s]|AU.each n a s _ _=>[n,a,s]
structure Sv(zs:List AF)(n:AF)(s:AU):Prop where
 nm:s.nm=n
 oq:∀a∈s.cg,a∈zs
 ok:O6 s
 aai:∀z∈s.aai,z=n\/z∈zs\/z∈GY
theorem Q8{J:List AF}{n a:AF}(h:a∈J):∀z∈[n,a],z=n\/z∈J\/z∈GY:=λz D=>by
 simp at D;rcases D with rfl|rfl;.show .inl rfl
 .show .inr (.inl h)
theorem Q9{D:List AF}{n a b:AF}(h:a∈D)(U:b∈D\/b∈GY):∀z∈[n,a,b],z=n\/z∈D\/z∈GY:=λz J=>by
 simp at J;rcases J with rfl|rfl|rfl;.show .inl rfl
 .show .inr (.inl h)
 .show .inr U
def pA:BF:=λY H Q O=>(IF λ(n:AF)(W c:Int)(U:AB)(J:List AF)=>Ek (Y=[.str n,.int W,.ref U,.int c]) (H U=AA (.lst (J.map AE.str))) (0<J.length) ((c=1\/c=40000)) (∀p D s,An H D->Dl D p s->s.cp=AR->Sv J n s->Q (.ref p) D))
theorem Xg(T:BL AJ Af AI):T.oh.Ok BC P w Af base 1 pA:=by
  show T.oh.ok λL o o o o o d H e Q E h=>?_;obtain⟨n,Y,c,b,Z,rfl,O,f,R,k⟩:_:=h;show⟨_,(Ai (Aw 4 L (DR AJ (AD 2) (AW Bu (AW Ci (AD 1) AQ) (DI (F4 (K:=AJ)) (by rfl) T.gw F8 #v[AD 2])))) (Ai (Aw 5 L (DR AJ (AD 2) (AW Bu (AW Ci (AD 1) AQ) (DI (F4 (K:=AJ)) (by rfl) T.gw F8 #v[AD 2])))) (Ai (CF (Bw DH (AW Bu (AD 1) AQ) AQ (Bs _)) (Ai (Aw 6 L (AW GQ (AW Bu (AW Ci (AD 1) AQ) AQ) AQ)) (Ai (CF (Bw DH (AW Bu (AW Ci (AD 1) AQ) AQ) AQ (Bs _)) (Ab (BD (Cj #v[Dq,AD 0,AD 4,AW FK (AD 6) (AW Uy AQ AQ),AW Uy AQ AQ]))) Cd) (Ai (CF (Bw DH (AW Bu (AW Ci (AD 1) AQ) AQ) AQ (Bs _)) (Ab (BD (Cj #v[Dq,AD 0,AD 4,AW GQ (AW Bu (AW Ci (AD 1) AQ) AQ) (AW Uy AQ AQ),AW C5 (AD 6) AQ]))) Cd) (Ab (BD (Cj #v[Dq,AD 0,AD 4,AD 6,AW C5 (AD 6) (AW Bu (AW Ci (AD 1) AQ) AQ)])))))) Cd) (Ai (CF (Bw DH (AW Bu (AD 1) AQ) AQ (Bs _)) (Ab (BD (Cj #v[Dq,AD 0,AD 4,AW GQ (AW Bu (AW Ci (AD 1) AQ) AQ) AQ,AW GQ (AW Bu (AW Ci (AD 1) AQ) AQ) AQ]))) Cd) (Ai (CF (Bw DH (AW Bu (AD 1) AQ) AQ (Bs _)) (Ab (BD (Cj #v[Dq,AD 0,AD 4,AD 5]))) Cd) (Ab (BD (Cj #v[Dq,AD 0,AD 4,AD 5,AW FK (AW Bu (AW Ci (AD 1) AQ) AQ) (AD 3)])))))))),?_⟩;have C:(0:Int)<((Z.map AE.str).length:Int):=by rw[Aq];simp_all
  have A:CD AJ H b (Z.map AE.str):=Ac O;lk;obtain⟨v,X,S⟩:=Hj (Z.map AE.str) _ rfl C (Y/7);obtain⟨D,U,rfl⟩:=Ay.mp S;obtain⟨v,G,F⟩:=Hj (Z.map AE.str) _ rfl C (Y/49);obtain⟨W,I,rfl⟩:=Ay.mp F;k_in;have N:0<=Y/343%19/\Y/343%19<19:=⟨Fu _ (by decide),Gr _ (by decide)⟩;have z:∀a∈[D],a∈Z:=λa B=>by cases Bm.mp B;show U
  have M:∀a∈[D,W],a∈Z:=λa B=>by
    simp only[CZ,Pu,AFB]at B;rcases B with rfl|rfl;.show U
    .show I
  show⟨(zzd rfl),_,.inl A,C,_,_,A,X,?_⟩;show⟨(zzd rfl),_,.inl A,C,_,_,A,G,?_⟩;show⟨(zzp rfl),rfl,_,rfl,EG (λo=>?_) λo=>?_⟩
  . show⟨(zzd rfl),(zzp rfl),?_⟩;show⟨(zzd rfl),(zzp rfl),rfl,_,rfl,EG (λo=>?_) λo=>?_⟩
    . show⟨_,_,rfl,rfl,⟨by decide,by decide,by decide⟩,.inr ⟨by decide,by decide⟩,_,_,rfl,rfl,⟨by decide,by decide,by decide⟩,B6 rfl,λp J=>?_⟩;show k p _ (.only n D _ _) (Bv J) AY rfl ⟨rfl,z,trivial,Q8 U⟩
    . show⟨(zzd rfl),(zzp rfl),rfl,_,rfl,EG (λo=>?_) λo=>?_⟩;. show⟨(zzd rfl),(zzp rfl),_,_,rfl,rfl,⟨by decide,by decide,by decide⟩,B6 rfl,λp J=>?_⟩;show k p _ (.only n D _ _) (Bv J) AY rfl ⟨rfl,z,trivial,Q8 U⟩
      . show⟨(zzd rfl),(zzp rfl),B6 rfl,λp J=>?_⟩;show k p _ (.only n D _ _) (Bv J) AY rfl ⟨rfl,z,trivial,Q8 U⟩
  . show⟨(zzp rfl),rfl,_,rfl,EG (λo=>?_) λo=>?_⟩;. show⟨(zzd rfl),(zzp rfl),(zzd rfl),(zzp rfl),B6 rfl,λp J=>?_⟩;show k p _ (.turn n D _ _) (Bv J) AY rfl ⟨rfl,z,by change-100<=Y/343%19-9/\Y/343%19-9<=100;(constructor<;>lia),Q8 U⟩
    . show⟨(zzp rfl),rfl,_,rfl,EG (λo=>?_) λo=>?_⟩;. show⟨B6 rfl,λp J=>?_⟩;show k p _ (.both n D W) (Bv J) AY rfl ⟨rfl,M,trivial,Q9 U (.inl I)⟩
      . show⟨(zzd rfl),(zzp rfl),.inr (by rcases R with rfl|rfl<;>show⟨by decide,by decide⟩),B6 rfl,λp J=>?_⟩;show k p _ (.join n D W _) (Bv J) AY rfl ⟨rfl,M,trivial,Q9 U (.inl I)⟩
def pG:BF:=λY H Q O=>(IF λ(n:AF)(W c:Int)(U:AB)(J:List AF)=>Ek (Y=[.str n,.int W,.ref U,.int c]) (H U=AA (.lst (J.map AE.str))) (0<J.length) ((c=1\/c=40000)) (∀p D s,An H D->Dl D p s->s.cp=AK->Sv J n s->Q (.ref p) D))
theorem Xi(T:BL AJ Af AI):T.oi.Ok BC P w Af base 1 pG:=by
 show T.oi.ok λG _ _ _ _ _ i H m Q E h=>?_;obtain⟨n,D,c,d,Z,rfl,R,q,g,k⟩:_:=h;show⟨_,(Ai (Aw 4 G (DR AJ (AD 2) (AW Bu (AW Ci (AD 1) AQ) (DI (F4 (K:=AJ)) (by rfl) T.gw F8 #v[AD 2])))) (Ai (Aw 5 G (DR AJ (C9 #v[Dq,Dq,Dq,Dq]) (AW Bu (AW Ci (AD 1) AQ) AQ))) (Ai (CF (Bw DH (AW Bu (AD 1) AQ) AQ (Bs _)) (Ab (BD (Cj #v[Dq,AD 0,AD 4,AD 5,AW FK (AW Bu (AW Ci (AD 1) AQ) AQ) (AD 3)]))) Cd) (Ai (Aw 6 G (AW FK (AW C5 AQ (AW Bu (AW Ci (AD 1) AQ) AQ)) (AD 3))) (Ab (BD (Cj #v[Dq,AD 0,AD 4,AD 5,AW C5 (AD 6) (AW Bu (AW Ci (AD 1) AQ) (AW FK AQ (AD 6))),AD 6]))))))),?_⟩;have N:(0:Int)<((Z.map AE.str).length:Int):=by rw[Aq];simp_all
 have M:CD AJ H d (Z.map AE.str):=Ac R;lk;obtain⟨v,b,X⟩:=Hj (Z.map AE.str) _ rfl N (D/7);obtain⟨J,F,rfl⟩:=Ay.mp X;k_in;have L:∀a∈[J],a∈Z:=λa S=>by cases Bm.mp S;show F
 have U:1<=c/\c<=40000:=by(constructor<;>lia)
 show⟨(zzd rfl),_,.inl M,N,_,_,M,b,?_⟩;lk;obtain⟨v,C,z⟩:=Hj ([("count":AF),"sum","least","greatest"].map AE.str) 4 rfl (by decide) (D/49);obtain⟨I,Y,rfl⟩:=Ay.mp z;k_in;have Y:I∈GY:=Y;show⟨B6 rfl,λj B=>?_⟩;have s1:=Bv (o:=.lst [AE.str "count",.str "sum",.str "least",.str "greatest"]) B;show⟨(zzd rfl),(zzp rfl),_,_,Ac AY,C,?_⟩;show⟨(zzp rfl),rfl,_,rfl,EG (λ_=>?_) λ_=>?_⟩
 . show⟨(zzd rfl),(zzp rfl),.inr ⟨Il (by decide) U.1,G7 U.2 (by decide)⟩,B6 rfl,λp W=>?_⟩;show k p _ (.gap n J I _) (s1.gy W) AY rfl ⟨rfl,L,⟨fK (Fu _ (by decide)) (Kb U.1),Y⟩,Q9 F (.inr Y)⟩
 . have O:0<=D/343%5/\D/343%5<5:=⟨Fu _ (by decide),Gr _ (by decide)⟩;show⟨(zzd rfl),(zzp rfl),.inr ⟨Il (by decide) U.1,G7 U.2 (by decide)⟩,?_⟩;have W:0<(1+D/343%5)*c:=V1 (V0 O.1) U.1;show⟨(zzd rfl),.inl ⟨by decide,by decide⟩,(show(0:Int)<3*((1+D/343%5)*c)by show V1 (by decide) W),B6 rfl,λe A=>?_⟩;have f:=Fu (D/1715) (show 3*((1+D/343%5)*c)≠0 by show JW (V1 (by decide) W));have l:=Gr (D/1715) (show 0<3*((1+D/343%5)*c)by show V1 (by decide) W);show k e _ (.each n J I _ _) (s1.gy A) AY rfl ⟨rfl,L,⟨⟨W,by lia,Qa f,by lia⟩,Y⟩,Q9 F (.inr Y)⟩
def GK(sn:List AF)(z:AF->Nat):List (AN×AE):=sn.map λa=>(.inr a,.int (z a:Int))
theorem qJ(h:a∈sn):BQ (GK sn z) (.inr a)=AA (.int (z a:Int)):=by
 unfold BQ GK;rw[List.find?_map];have J:(sn.find? ((λU:AN×AE=>Ae (U.1=.inr a))∘λa=>((.inr a),AE.int (z a)))).isSome=AK:=by rw[List.find?_isSome];show⟨a,h,by simp⟩
 obtain⟨b,D⟩:=zB.mp J;have e:=ABa D;have e:=by simpa using e
 rw[D,e];rfl
def JA(z:AF->Nat)(n:AF)(m:Nat):AF->Nat:=λa=>if a=n then m else z a
theorem mD{m:Nat}(h:n∉sn):Bh (GK sn z) (.inr n) (.int (m:Int))=GK (sn++[n]) (JA z n m):=by
  unfold Bh;rw[AEz]
  . unfold GK;rw[CW];congr 1
    . show L7 λa D=>?_;have:JA z n m a=z a:=AEz λe=>h (by rw[<-e];show D);rw[this]
    . change[_]=[((.inr n:AN),AE.int _)];rw[show JA z n m n=m from AE0 rfl]
  . intro q;obtain⟨U,J,e⟩:=R3.mp q;obtain⟨a,D,rfl⟩:=Ay.mp J;have e:=by simpa using e
    show h (by rw[<-e];show D)
theorem pU(sn:List AF)(z:AF->Nat):(GK sn z).map (λp=>Au p.1)=sn.map AE.str:=by unfold GK;rw[Dh];rfl
theorem WQ(h:∀a∈s.cg,D a=z a):Ff s D m=Ff s z m:=by cases s with|take=>rfl|only n a=>show h a (.head _)|turn n a=>show h a (.head _)|gap n a=>show h a (.head _)|each n a=>show h a (.head _)|both n a b=>change D a+D b=z a+z b;rw[h a (.head _),h b (.tail _ (.head _))]|join n a b=>change D a*D b=z a*z b;rw[h a (.head _),h b (.tail _ (.head _))]
structure LX(mo:Nat)(zs:List AF)(ss:List AU)(z:AF->Nat)(sn:List AF):Prop where
 adp:∀(i:Nat)s,ss[i]?=AA s->zs[i]?=AA s.nm
 oq:∀(i:Nat)s a,ss[i]?=AA s->a∈s.cg->∃(i':Nat)(s':AU),i'<i/\ss[i']?=AA s'/\s'.nm=a/\s'.cp=AR
 ok:∀s∈ss,O6 s
 aai:∀s∈ss,∀t∈s.aai,Cu t
 adw:∀a∈sn,∃(i:Nat)(s:AU),ss[i]?=AA s/\s.nm=a/\s.cp=AR
 aey:∀(i:Nat)s,ss[i]?=AA s->s.cp=AR->z s.nm=Ff s z mo/\z s.nm<=600
 ne:0<sn.length
structure MR(sn:List AF)(n:AF)(s:AU):Prop where
 nm:s.nm=n
 oq:∀a∈s.cg,a∈sn
 ok:O6 s
 aai:∀t∈s.aai,Cu t
theorem fS:∀t∈GY,Cu t:=by
 have:∀t∈GY,(∀c∈t.cps.toList,97<=c/\c<123)/\t.length<=12:=by decide+kernel
 show this
theorem Sv.g(h:Sv J n s)(D:∀a∈J,a∈sn)(V:Cu n)(U:∀a∈sn,Cu a):MR sn n s:=⟨h.nm,λa m=>D a (h.oq a m),h.ok,λt m=>by
 rcases h.aai t m with rfl|q|q;.show V
 .show U _ (D _ q)
 .show fS _ q⟩
theorem T9(J:Cu n)(D:Cu k):MR sn n (.take n k):=by
 show⟨rfl,λa h=>(by cases h),trivial,λt h=>?_⟩;have h:t∈[n,k]:=h;simp at h;rcases h with rfl|rfl;.show J
 .show D
theorem T5(h:(l++[x])[i]?=AA y):l[i]?=AA y\/(i=l.length/\y=x):=by
 rcases b7 i _ with q|q|q;.rw[OG q]at h;show .inl h
 . subst q;rw[Pq (Aj _),cB]at h;show .inr ⟨rfl,(By h).symm⟩
 .rw[yN (by rw[Bx];assumption)]at h;cases h
theorem T6{α:Type}{l:List α}{x y:α}{i:Nat}(h:l[i]?=AA y):(l++[x])[i]?=AA y:=by rw[OG (BU.mp h).1];show h
theorem LX.abe(h:LX C D ss z sn)(Z:D.Nodup)(B:D[ss.length]?=AA n):∀(i:Nat)s,ss[i]?=AA s->s.nm≠n:=λi s J e=>by have q:=h.adp i s J;rw[e]at q;obtain⟨W,U⟩:=BU.mp q;obtain⟨Y,V⟩:=BU.mp B;have A:=(BU.mp J).1;show(Gn.mp Z) i _ W Y A (U.trans V.symm)
theorem LX.abv(h:LX W D ss z sn)(U:D.Nodup)(V:D[ss.length]?=AA n):n∉sn:=λm=>by obtain⟨i,s,J,e,_⟩:_:=h.adw n m;show h.abe U V i s J e
theorem LX.adt(h:LX A G ss z sn)(H:G.Nodup)(C:G[ss.length]?=AA n)(g:MR sn n s)(E:s.cp=AK/\Y=sn/\F=z\/s.cp=AR/\Y=sn++[n]/\F=JA z n (Ff s z A)/\Ff s z A<=600):LX A G (ss++[s]) F Y:=by
  have I:∀a,a≠n->F a=z a:=λa D=>by
    rcases E with⟨_,_,rfl⟩|⟨_,_,rfl,_⟩;.rfl
    .show AEz D
  have K:∀a∈sn,a≠n:=λa m e=>h.abv H C (by rw[<-e];show m);show⟨λi t Z=>?_,λi t a Z D=>?_,λt V=>?_,λt V=>?_,λa D=>?_,λi t Z V=>?_,?_⟩
  . rcases T5 Z with q|⟨rfl,rfl⟩;.show h.adp i t q
    .rw[g.nm];show C
  . rcases T5 Z with q|⟨rfl,rfl⟩
    . obtain⟨W,J,l,U,r⟩:_:=h.oq i t a q D;show⟨W,J,l,T6 U,r⟩
    . obtain⟨W,J,U,r⟩:_:=h.adw a (g.oq a D);show⟨W,J,(BU.mp U).1,T6 U,r⟩
  . rcases Ce.mp V with q|q;.show h.ok t q
    .cases Bm.mp q;show g.ok
  . rcases Ce.mp V with q|q;.show h.aai t q
    .cases Bm.mp q;show g.aai
  . have B:a∈sn->∃(i:Nat)(J:AU),(ss++[s])[i]?=AA J/\J.nm=a/\J.cp=AR:=λm=>by obtain⟨W,J,U,r⟩:=h.adw a m;show⟨W,J,T6 U,r⟩
    rcases E with⟨_,rfl,_⟩|⟨M,rfl,_⟩;.show B D
    . rcases Ce.mp D with q|q;.show B q
      . cases Bm.mp q;show⟨_,s,by rw[Pq (Aj _),cB];rfl,g.nm,M⟩
  . rcases T5 Z with q|⟨rfl,rfl⟩
    . rw[I _ (h.abe H C i t q),WQ λa D=>?_];.show h.aey i t q V
      . obtain⟨W,J,_,U,rfl,_⟩:_:=h.oq i t a q D;show I _ (h.abe H C W J U)
    . rw[WQ λa D=>I a (K a (g.oq a D)),g.nm];rcases E with⟨q,_⟩|⟨_,_,rfl,L⟩;.rw[q]at V;cases V
      . rw[show JA z n _ n=Ff t z A from AE0 rfl];show⟨rfl,L⟩
  . rcases E with⟨_,rfl,_⟩|⟨_,rfl,_⟩;.show h.ne
    .rw[Bx];show BY h.ne (Pz _ _)
theorem LX.kj(h:LX F A ss z sn)(E:A.Nodup):C4 ss:=⟨λi V s G e B q=>by
 have U:=h.adp i s e;have C:=h.adp V G B;rw[q]at U;lk;obtain⟨W,D⟩:=BU.mp U;obtain⟨Y,J⟩:=BU.mp C;k_in;have Z:=Gn.mp E;rcases b7 i V with r|r|r;.show absurd (D.trans J.symm) (Z _ _ W Y r)
 .show r
 .show absurd (J.trans D.symm) (Z _ _ Y W r),h.oq,h.ok⟩
theorem gN(wi:Int)(A B:List AO):(DN wi A B).length<=A.length*B.length:=by have h:=WV wi A B;rw[S8,Aq]at h;show h
theorem XA(B:C4 ss)(J:∀(i:Nat)s,ss[i]?=AA s->s.cp=AR->z s.nm=Ff s z W/\z s.nm<=600)(A:evs.length<=W)(Z:∀(i:Nat)s,i<N->ss[i]?=AA s->s.cp=AR->L s.nm=Ee s L evs):∀(m i:Nat)s,m<=N->i<m->ss[i]?=AA s->s.cp=AR->(L s.nm).length<=z s.nm
 |0,i,s,_,D,_,_=>absurd D (Ia _)|m+1,i,s,Y,D,V,U=>by
  have f:∀a∈s.cg,(L a).length<=z a:=λa E=>by obtain⟨F,G,l,C,rfl,H⟩:=B.oq i s a V E;show XA B J A Z m F G (D9 Y) (BY l (Dc D)) C H
  rw[Z i s (BY D Y) V U,(J i s V U).1];cases s with |take n k=> change((evs.filter _).map _).length<=W;rw[Aq];show Ag (FY _ _) A|only n a M D=>show Ag (FY _ _) (f a (.head _))|turn n a x y=>change((L a).map _).length<=_;rw[Aq];show f a (.head _)|both n a b=>change(L b++L a).length<=z a+z b;have I:=f a (.head _);have K:=f b (.tail _ (.head _));rw[Bx];lia|join n a b O=>show Ag (gN ..) (b9 (f a (.head _)) (f b (.tail _ (.head _))))|gap=>cases U|each=>cases U
theorem gS(sn:List AF)(h:0<sn.length):∃x,x∈sn/\Gw (sn.map AE.str) (AA (-1)) AG=[x].map AE.str:=by
 have U:(sn.map AE.str).length=sn.length:=Aq _;have D:CM (sn.map AE.str).length 0 (AA (-1))=sn.length-1:=by change(if(-1)<0 then((-1:Int)+((sn.map AE.str).length)).toNat else D3 (-1).toNat (sn.map AE.str).length)=_;lia
 have J:CM (sn.map AE.str).length _ AG=sn.length:=U;show⟨sn[sn.length-1]'(Vb h (by decide)),yP _,?_⟩;unfold Gw;rw[D,J,<-List.map_drop,bK _,show sn.length-(sn.length-1)=0+1 by show cC h];rfl
theorem Fz.zf(h:Fz H ps ss)(e:Dl H p s):Fz H (ps++[.ref p]) (ss++[s]):=D7 h (.cons ⟨p,rfl,e⟩ .nil)
def oO(K:As):BF:=λZ H Q O=>(EB λ(a:AB)(W:List Int)(U:Nat)=>Ek (Z=[.ref a,.int (U:Int)]) (CD K H a (W.map AE.int)) (W.length<=63) (U<=16) (∀l J Y D z,An H J->H l=AG->J l=AA (.lst Y)->Fz J Y D->C4 D->D.length<=8->(∀s∈D,∀t∈s.aai,Cu t)->(∀(i:Nat)s,D[i]?=AA s->s.cp=AR->z s.nm=Ff s z U/\z s.nm<=600)->Q (.ref l) J))
def NX(a:AB)(z:Nat)(Z Y:AB)(c:Int)(u d:AB)(A m j:Int)(D J U W:Option AE):Ah:=(f9 a (z:Int) Z Y c u d A m j D J U W)
unseal F1 in theorem Xz{X:Bp}{l:List C2}{t u:Cz}(n:Nat)(h1:F1 X (l.take n) t)(h2:F1 X (l.drop n) u):F1 X l (aN t u):=λpins s σ H D I h=>by
 have U:∀(J V:List _),execs (J++V) X.ae=(do let f<-execs J _;match f with|.next=>execs V _|f=>Bn f):=λJ V=>by induction J with|nil=>rfl|cons a J Y=> rw[R4,ADT,ADT,bind_assoc];congr 1;funext f;cases f with|next=>show Y|ret v=>rw[yH]|brk=>rw[yH]|cont=>rw[yH]
 rw[<-Px n l,U];show BI (Ax (h1 _ s σ H ⟨u D,D.rt,D.bk,D.ct⟩ I (h _ _ _ _ λ_ _ z=>z)) λf s1 q=>?_);cases f with|next=>obtain⟨Z,H',W,q⟩:=q;show h2 _ s1 _ H' D W q|ret v=>show Cq q|brk=>show Cq q|cont=>show Cq q
theorem kU(T:BL AJ Af AI):T.qz.Ok BC P w Af base 3 (oO AJ):=by
  show T.qz.ok λnd O O O O O hr H vs Q E h=>?_;obtain⟨a,ns,mo,rfl,hS,hl,hmo,k⟩:_:=h;show⟨_,(Xz 8 (Ai (Aw 2 nd (BE (O2 T) hr #v[AD 0,AQ,AQ])) (Ai (Aw 3 nd (BE (O2 T) hr #v[AD 0,AQ,AQ])) (Ai (Aw 4 nd (BE (Th T) hr #v[AD 0])) (Ai (Aw 5 nd (C9 #v[Cj #v[Dq,DR AJ (AD 2) AQ,DR AJ (AD 3) AQ]])) (Ai (Aw 6 nd (vA (vL (DR AJ (AD 2) AQ) (AD 1) vM) (by rfl) (by rfl) nofun (by decide))) (Ai (Aw 7 nd AQ) (Ai (Aw 8 nd (AW C5 AQ (AW Bu (BE (O1 T) hr #v[AD 0,AQ]) AQ))) (Ab (Aw 9 nd (AW Bu (AW Ci (BE (O1 T) hr #v[AD 0,AQ]) AQ) AQ)))))))))) (Ai (DB DK rfl (vJ (by rfl) T.jo #v[AQ,AW C5 (AD 8) AQ]) (Cc 10 nd) (Xz 3 (Ai (Aw 11 nd (BE (O3 T) hr #v[AD 0,AW C5 AQ (AD 10)])) (Ai (Aw 12 nd (IS (UU (K:=AJ) rfl) (by rfl) T.jg KY #v[AD 6])) (Ab (Aw 13 nd (BE (Xg T) hr #v[DR AJ (AD 2) (AD 10),AD 11,AD 12,AD 4]))))) (Ai (Gj (CF (Bw DH (AD 10) (AD 8) (Bs _)) (Ab (Aw 13 nd (BE (Xi T) hr #v[DR AJ (AD 2) (AD 10),AD 11,AW HK (HM (K9 (K:=AJ)) (AD 12) (Gi (vF yC AQ)) IT) (AW uS (AD 12) (AW GQ AQ (AD 9))),AD 4]))) (Ab (CF (Kz (N9 (Bw DH (AD 10) (AW GQ (AD 8) AQ) (Bs _)) (OA (Bw DH (AD 9) AQ (Bs _))))) (Ab (Aw 13 nd (BE (Xg T) hr #v[DR AJ (AD 2) (AD 10),AW C5 (AW FK (AW Ci (AD 11) AQ) AQ) AQ,AD 12,AD 4]))) (Ab (CF (Bw DH (AW Bu (AD 11) AQ) AQ (Bs _)) (Ab (Aw 13 nd (Cj #v[Dq,DR AJ (AD 2) (AD 10),DR AJ (AD 3) (AW Bu (AW Ci (AD 11) AQ) AQ)]))) (Ab (CF (Kz (Rp (Bw DH (AW Bu (AD 11) AQ) AQ (Bs _)) (Rp (Bw DH (AW Bu (AD 11) AQ) AQ (Bs _)) (U3 (Bw DH (AD 7) AQ (Bs _)))))) (Ab (Aw 13 nd (BE (Xi T) hr #v[DR AJ (AD 2) (AD 10),AD 11,AD 12,AD 4]))) Cd)))))))) (Ai (Gj (CF (Bw (uQ (K:=AJ)) (BA AJ (AD 13) AQ) (Cj #v[Dq,Dq]) (by with_unfolding_all rfl)) (Ai (Gj (CF (Bw N4 (BE (XQ T) hr #v[AD 13,AD 6,AD 1]) AQ (Bs _)) (Ab (Aw 13 nd (Cj #v[Dq,DR AJ (AD 2) (AD 10),DR AJ (AD 3) AQ]))) Cd)) (Ai (KP hr.u1 (AD 6) (DR AJ (AD 2) (AD 10)) (BE (XQ T) hr #v[AD 13,AD 6,AD 1]) rfl) (Ab (Aw 7 nd (AW C5 (AD 7) (IS Yw (by rfl) T.aba zF #v[(Mp (Uw (K:=AJ)) (BA AJ (AD 13) AQ) (Cj #v[Dq,Dq]) (by with_unfolding_all rfl))])))))) Cd)) (Ab (D8 (N6 AJ (AD 5) #v[AD 13]))))))) (Ab (BD (AD 5))))),?_⟩;have sz:Az=16777216:=Dj;showλO O O O z1=>⟨a,ns,1,8,rfl,hS,hl,by decide,by decide,by decide,λln Ha zs sa hln eln lz dz az=>?_⟩;show⟨a,ns,2,2,rfl,sa.uz hS,hl,by decide,by decide,by decide,λlk Hk ks sk hlk elk lks O ak=>?_⟩;have lz:zs.length=8:=LU.mp lz;have lks:ks.length=2:=LU.mp lks;have sak:=sa.aa sk;show⟨a,ns,rfl,sak.uz hS,hl,λc Hb sb hc=>?_⟩;have s0b:=sak.aa sb;have elnb:=sb _ _ (sk _ _ eln);have elkb:=sb _ _ elk;have hSb:=s0b.uz hS;clear sa sk hln hlk eln elk sak sb;have natz:∀{i:Nat}{n:AF},zs[i]?=AA n->DQ (zs.map AE.str) (i:Int)=AA (.str n):=λ{i n}e=>Ap (xs:=zs.map AE.str) (v:=.str n) (by rw[Bt,e];rfl);lk;obtain⟨n0,en0⟩:∃n,zs[0]?=AA n:=⟨_,Ck (by simp_all)⟩;obtain⟨k0,ek0⟩:∃n,ks[0]?=AA n:=⟨_,Ck (by simp_all)⟩;k_in;have atk0:DQ (ks.map AE.str) 0=AA (.str k0):=Ap (xs:=ks.map AE.str) (j:=0) (v:=.str k0) (by rw[Bt,ek0];rfl);have an0:Cu n0:=az _ (Cm en0);have ak0:Cu k0:=ak _ (Cm ek0);show⟨_,_,Ac elnb,natz en0,_,_,Ac elkb,atk0,B6 rfl,λp0 hp0=>?_⟩;have g1:=Bv (o:=.tup [AE.str "take",.str n0,.str k0]) hp0;have ep0:Dl (AM Hb p0 (.tup [AE.str "take",.str n0,.str k0])) p0 (.take n0 k0):=AY;generalize AM Hb p0 (.tup [AE.str "take",.str n0,.str k0])=Hc at g1 ep0⊢;show⟨B6 rfl,λu hu=>?_⟩;show BK (o:=.lst [AE.ref p0]) hu λHd g2 eu=>?_;showλd hd=>?_;have g3:=Bv (o:=.dK []) hd;have ed:(AM Hd d (.dK [])) d=AA (.dK []):=AY;generalize hHe:AM Hd d (.dK [])=He at g3 ed⊢;show⟨_,_,Ac (g3 _ _ (g2 _ _ (g1 _ _ elnb))),natz en0,ed,[(.inr n0,.int (mo:Int))],rfl,B6 rfl,?_⟩;have g4:An Hb (AM He d (.dK (KO [] [(.inr n0,.int (mo:Int))]))):=by rw[<-hHe];show((g1.aa g2).aa (Bv hd)).zg ((g1.aa g2).bc hd)
  have ed4:(AM He d (.dK (KO [] [(.inr n0,.int (mo:Int))]))) d=AA (.dK (GK [n0] λO=>mo)):=AY;have nud:u≠d:=BH eu hd;have npd:p0≠d:=BH (g2 _ _ ep0) hd;have eu4:(AM He d (.dK (KO [] [(.inr n0,.int (mo:Int))]))) u=AA (.lst [AE.ref p0]):=by rw[AV nud];show g3 _ _ eu
  have ep4:Dl (AM He d (.dK (KO [] [(.inr n0,.int (mo:Int))]))) p0 (.take n0 k0):=by change(AM He d _) p0=_;rw[AV npd];show g3 _ _ (g2 _ _ ep0)
  have fu:Hb u=AG:=g1.bc hu;have fd:Hb d=AG:=(g1.aa g2).bc hd;generalize AM He d (.dK (KO [] [(.inr n0,.int (mo:Int))]))=H0 at g4 ed4 eu4 ep4⊢;clear g1 g2 g3 ed eu ep0 hHe;show⟨a,ns,_,rfl,g4.uz hSb,by decide,hl,λc1=>⟨(zzp rfl),?_⟩⟩;show⟨a,ns,_,rfl,g4.uz hSb,by decide,hl,λc2=>⟨(zzd rfl),(zzp rfl),z1 _ _ ?_⟩⟩;have b6:0<=c1%6/\c1%6<6:=⟨Fu _ (by decide),Gr _ (by decide)⟩;have b2:0<=c2/6%2/\c2/6%2<2:=⟨Fu _ (by decide),Gr _ (by decide)⟩;generalize c1%6=m1 at b6⊢;have pl0:LX mo zs [.take n0 k0] (λO=>mo) [n0]:=by
    show⟨λi s e=>?_,λi s x e hx=>?_,λs hs=>?_,λs hs=>?_,λx hx=>?_,λi s e O=>?_,Nat.one_pos⟩;.match i,e with|0,e=>cases e;show en0
    .match i,e with|0,e=>cases e;cases hx
    .cases Bm.mp hs;trivial
    .cases Bm.mp hs;show(T9 (sn:=[]) an0 ak0).aai
    .cases Bm.mp hx;show⟨0,_,rfl,rfl,rfl⟩
    .match i,e with|0,e=>cases e;show⟨rfl,Ag hmo (by decide)⟩
  show⟨1,_,rfl,⟨by decide,by decide,by lia,by lia⟩,?_⟩;show Nv (λj σ H'=>(MP λ(o10 o11 o12 o13:Option AE)(wd:Int)(ps:List AE)(ss:List AU)(z:AF->Nat)(sn:List AF)=>ID (σ=NX a mo ln lk c u d wd (2+m1) (c2/6%2) o10 o11 o12 o13) (An Hb H') (H' u=AA (.lst ps)) (Fz H' ps ss) (ss.length=j+1) (H' d=AA (.dK (GK sn z))) (sn.length<=j+1) (LX mo zs ss z sn))) ⟨AG,AG,AG,AG,1,_,_,_,_,rfl,g4,eu4,.cons ⟨p0,rfl,ep4⟩ .nil,rfl,ed4,Aj _,pl0⟩ ?_ ?_
  . clear g4 ed4 eu4 ep4 pl0;intro j σ H1 hj hI;lk;obtain⟨o10,o11,o12,o13,wd,ps,ss,z,sn,rfl,s1,eu1,pr1,ls1,ed1,lsn,pl1⟩:=hI;have hj8:j<7:=by lia
    obtain⟨n,en⟩:∃n,zs[j+1]?=AA n:=⟨_,Ck (by lia)⟩;k_in;have an:Cu n:=az _ (Cm en);have atn:DQ (zs.map AE.str) (1+(j:Int))=AA (.str n):=by have:=natz en;rwa[show(((j+1:Nat)):Int)=1+(j:Int)by lia]at this
    have asn:∀x∈sn,Cu x:=λx hx=>by obtain⟨i,s,ei,rfl,_⟩:=pl1.adw x hx;show az _ (Cm (pl1.adp i s ei))
    have enl:zs[ss.length]?=AA n:=by rw[ls1];show en
    showλO O O O z2=>⟨a,ns,_,rfl,s1.uz hSb,hl,by(constructor<;>lia),λnn nn0=>?_⟩;show⟨d,_,rfl,ed1,λls hls=>?_⟩;rw[pU];show BK (o:=.lst (sn.map AE.str)) hls λH2 g1 els=>?_;show⟨_,_,Ac (g1 _ _ (s1 _ _ elnb)),atn,n,nn,c,ls,sn,rfl,els,pl1.ne,hc,λp1 H3 st1 g2 ep1 ht1 so1=>z2 _ _ ?_⟩;have s3:=s1.aa (g1.aa g2);have els3:=g2 _ _ els;have hln3:CD AJ H3 ln _:=Ac (s3 _ _ elnb);obtain⟨N1,rest,n1⟩:∃N1:Ah->AH->Prop,(∀{p:AB}{st:AU}{H':AH},An H3 H'->Dl H' p st->MR sn n st->N1 (NX a mo ln lk c u d wd (2+m1) (c2/6%2) (AA (.int (1+(j:Int)))) (AA (.int nn)) (AA (.ref ls)) (AA (.ref p))) H')/\∀σ' H',N1 σ' H'->JG (λ(p:AB)(st:AU)=>σ'=NX a mo ln lk c u d wd (2+m1) (c2/6%2) (AA (.int (1+(j:Int)))) (AA (.int nn)) (AA (.ref ls)) (AA (.ref p))) (λO O=>An H3 H') (λp st=>Dl H' p st) (λO st=>MR sn n st):=⟨_,λs e g=>⟨_,_,rfl,s,e,g⟩,λO O h=>h⟩;show Gh N1 ?_ ?_
    . show⟨rfl,_,rfl,EG (λO=>?_) λO=>?_⟩
      . obtain⟨x,hx,ex⟩:_:=gS sn pl1.ne;show⟨_,_,hln3,atn,(-1:Int),rfl,ls,_,rfl,Ac els3,λl1 hl1=>?_⟩;rw[ex];show BK (o:=.lst ([x].map AE.str)) hl1 λH4 h1 el1=>?_;have jb:(1-c2/6%2).toNat<=1:=Sl.mpr (ABO _ b2.1);show⟨ls,_,_,rfl,rfl,h1 _ _ els3,by lia,Int.sub_lt_of_sub_lt (Il (by decide) b2.1),?_,λl2 hl2=>?_⟩
        . rw[Aq];have:=b9 (show sn.length<=8 by lia) jb;(constructor<;>lia)
        have el2:(AM H4 l2 (.lst (FF (1-c2/6%2).toNat (sn.map AE.str)).flatten)) l2=AA (.lst ((FF (1-c2/6%2).toNat sn).flatten.map AE.str)):=by rw[AY,List.map_flatten,List.map_replicate]
        have h2:=Bv (o:=.lst (FF (1-c2/6%2).toNat (sn.map AE.str)).flatten) hl2;generalize AM H4 l2 (.lst (FF (1-c2/6%2).toNat (sn.map AE.str)).flatten)=H5 at h2 el2⊢;have lr:=ZU sn (1-c2/6%2).toNat;have lr1:=b9 jb (show sn.length<=8 by lia);show⟨l1,l2,_,_,rfl,rfl,h2 _ _ el1,el2,?_,λl3 hl3=>?_⟩
        . rw[Aq,Aq,lr];change 1+_<=_;(constructor<;>lia)
        have el3:(AM H5 l3 (.lst ([x].map AE.str++(FF (1-c2/6%2).toNat sn).flatten.map AE.str))) l3=AA (.lst (([x]++(FF (1-c2/6%2).toNat sn).flatten).map AE.str)):=by rw[AY,CW]
        have h3:=Bv (o:=.lst ([x].map AE.str++(FF (1-c2/6%2).toNat sn).flatten.map AE.str)) hl3;generalize AM H5 l3 (.lst ([x].map AE.str++(FF (1-c2/6%2).toNat sn).flatten.map AE.str))=H6 at h3 el3⊢;show⟨n,nn,c,l3,_,rfl,el3,cD _,hc,λp H' st s ep ht so=>rest ((h1.aa (h2.aa h3)).aa s) ep (so.g (λy hy=>?_) an asn)⟩;rcases Ce.mp hy with q|q;.cases Bm.mp q;show hx
        . obtain⟨l,hl,hy⟩:_:=List.mem_flatten.mp q;rw[(List.mem_replicate.mp hl).2]at hy;show hy
      . have tk:∀{H':AH}{kd:AF},An H3 H'->kd∈ks->∀p,H' p=AG->N1 (NX a mo ln lk c u d wd (2+m1) (c2/6%2) (AA (.int (1+(j:Int)))) (AA (.int nn)) (AA (.ref ls)) (AA (.ref p))) (AM H' p (.tup [.str "take",.str n,.str kd])):=λ{H' kd}s hk p hp=>rest (s.gy hp) (st:=.take n kd) AY (T9 an (ak _ hk));lk;obtain⟨v,hvk,hmk⟩:=Hj (ks.map AE.str) 2 (by rw[Aq,lks];rfl) (by decide) (nn/7);obtain⟨kd,mk,rfl⟩:=Ay.mp hmk;k_in;show⟨rfl,_,rfl,EG (λO=>⟨rfl,_,rfl,EG (λO=>?_) λO=>?_⟩) λO=>EY ?_⟩;.show⟨_,_,hln3,atn,(zzd rfl),.inr ⟨by decide,by decide⟩,n,_,c,ls,sn,rfl,els3,pl1.ne,hc,λp H' st s ep ht so=>rest s ep (so.g (λO h=>h) an asn)⟩
        . show⟨(zzp rfl),rfl,_,rfl,EG (λO=>?_) λO=>?_⟩;.show⟨_,_,hln3,atn,(zzd rfl),(zzp rfl),_,_,Ac (s3 _ _ elkb),hvk,B6 rfl,λp hp=>tk (CQ _) mk p hp⟩
          .show⟨(zzp rfl),rfl,_,rfl,EG (λO=>Jh ?_) λO=>⟨(zzp rfl),rfl,_,rfl,EG (λO=>Jh ?_) λO=>⟨rfl,_,rfl,EG (λO=>?_) λO=>rest (CQ _) ep1 (so1.g (λO h=>h) an asn)⟩⟩⟩<;>show⟨_,_,hln3,atn,n,nn,c,ls,sn,rfl,els3,pl1.ne,hc,λp H' st s ep ht so=>rest s ep (so.g (λO h=>h) an asn)⟩
        . show⟨(zzp rfl),rfl,_,rfl,EG (λO=>?_) λO=>?_⟩;.show⟨_,_,hln3,atn,(zzd rfl),(zzp rfl),_,_,Ac (s3 _ _ elkb),hvk,B6 rfl,λp hp=>tk (CQ _) mk p hp⟩
          .show⟨(zzp rfl),rfl,_,rfl,EG (λO=>Jh ?_) λO=>⟨(zzp rfl),rfl,_,rfl,EG (λO=>Jh ?_) λO=>⟨rfl,_,rfl,EG (λO=>?_) λO=>rest (CQ _) ep1 (so1.g (λO h=>h) an asn)⟩⟩⟩<;>show⟨_,_,hln3,atn,n,nn,c,ls,sn,rfl,els3,pl1.ne,hc,λp H' st s ep ht so=>rest s ep (so.g (λO h=>h) an asn)⟩
    . intro σ' H4 hI;obtain⟨p,st,rfl,s4,ep,sg⟩:_:=n1 _ _ hI;have sb4:=s3.aa s4;have g14:=(g1.aa g2).aa s4;have eu4:=g14 _ _ eu1;have ed4:=g14 _ _ ed1;have pr4:=pr1.ab g14.tp;clear rest n1 hI g1 g2 g14 els els3 hln3 s3 s4 eu1 ed1 pr1 ep1 so1;have nin:=pl1.abv dz enl;show Gh (λσ' H'=>(IF λ(p:AB)(st:AU)(wd:Int)(z':AF->Nat)(sn':List AF)=>ID (σ'=NX a mo ln lk c u d wd (2+m1) (c2/6%2) (AA (.int (1+(j:Int)))) (AA (.int nn)) (AA (.ref ls)) (AA (.ref p))) (An Hb H') (H' u=AA (.lst ps)) (Fz H' ps ss) (H' d=AA (.dK (GK sn' z'))) (sn'.length<=j+2) (Dl H' p st) (LX mo zs (ss++[st]) z' sn'))) ?_ ?_
      . obtain⟨e0,e1,_⟩:_:=ep.md;show⟨_,_,e0,e1,B6 rfl,λq hq=>?_⟩;have g5:=Bv (o:=.tup NN) hq;show⟨_,NN,rfl,.inr (Ar AY),rfl,rfl,_,rfl,K6 (λht=>?_) λht=>?_⟩
        . have tf:st.cp=AR:=by have ht:(!Fj (.str st.md) NN)=AK:=ht;rw[UC]at ht;simpa using ht
          have sb5:=sb4.aa g5;have eu5:=g5 _ _ eu4;have ed5:=g5 _ _ ed4;have pr5:=pr4.ab g5.tp;have ep5:=ep.tp g5.tp;have g5:An H4 (AM H4 q (.tup [AE.str "each",.str "gap"])):=g5;have sb5:An Hb (AM H4 q (.tup [AE.str "each",.str "gap"])):=sb5;have eu5:(AM H4 q (.tup [AE.str "each",.str "gap"])) u=_:=eu5;have ed5:(AM H4 q (.tup [AE.str "each",.str "gap"])) d=_:=ed5;have pr5:Fz (AM H4 q (.tup [AE.str "each",.str "gap"])) ps ss:=pr5;have ep5:Dl (AM H4 q (.tup [AE.str "each",.str "gap"])) p st:=ep5;generalize AM H4 q (.tup [AE.str "each",.str "gap"])=H5 at g5 sb5 eu5 ed5 pr5 ep5⊢;have hz:∀{st:AU},MR sn n st->∀a∈st.cg,BQ (GK sn z) (.inr a)=AA (.int (z a:Int))/\z a<=600:=λ{st}g x hx=>by show⟨qJ (g.oq x hx),?_⟩;obtain⟨i,s',ei,rfl,t'⟩:=pl1.adw x (g.oq x hx);show(pl1.aey i s' ei t').2
          show Gh (λσ' H'=>RP (λ(p:AB)(st:AU)=>σ'=NX a mo ln lk c u d wd (2+m1) (c2/6%2) (AA (.int (1+(j:Int)))) (AA (.int nn)) (AA (.ref ls)) (AA (.ref p))) (λO O=>An H5 H') (λp st=>Dl H' p st) (λO st=>MR sn n st) (λO st=>st.cp=AR) (λO st=>Ff st z mo<=600)) ?_ ?_;. show⟨p,d,st,_,z,mo,rfl,ep5,ed5,hz sg,_,rfl,IM (λh=>?_) λh=>⟨p,st,rfl,CQ _,ep5,sg,tf,fL.mp (MJ h)⟩⟩;show⟨_,_,Ac (sb5 _ _ elnb),atn,_,_,Ac (sb5 _ _ elkb),atk0,B6 rfl,λp2 hp2=>⟨p2,.take n k0,rfl,Bv hp2,AY,T9 an ak0,rfl,by change mo<=600;show Ag hmo (by decide)⟩⟩
          . intro σ' H6 hI;obtain⟨p,st,rfl,s6,ep6,sg6,tf6,hb6⟩:_:=hI;have ed6:=s6 _ _ ed5;show⟨p,d,st,_,z,mo,rfl,ep6,ed6,hz sg6,_,_,Ac (s6 _ _ (sb5 _ _ elnb)),atn,d,_,rfl,UH.k (k:=.inr n) ed6 ?_,?_⟩;. unfold GK;rw[Aq];lia
            rw[mD nin];have ndo:∀{b:AB}{o:BW},H6 b=AA o->(∀kv,o≠.dK kv)->b≠d:=λeo hn z=>by rw[z,ed6]at eo;show hn _ (By eo).symm
            have k7:∀{b:AB}{o:BW},H6 b=AA o->(∀kv,o≠.dK kv)->(AM H6 d (.dK (GK (sn++[n]) (JA z n (Ff st z mo))))) b=AA o:=λeo hn=>by rw[AV (ndo eo hn)];show eo
            have tp7:Bk H6 (AM H6 d (.dK (GK (sn++[n]) (JA z n (Ff st z mo))))):=λb xs eo=>k7 eo nofun;have sb7:An Hb (AM H6 d (.dK (GK (sn++[n]) (JA z n (Ff st z mo))))):=(sb5.aa s6).zg fd;have eu7:=k7 (s6 _ _ eu5) nofun;have ed7:(AM H6 d (.dK (GK (sn++[n]) (JA z n (Ff st z mo))))) d=AA (.dK (GK (sn++[n]) (JA z n (Ff st z mo)))):=AY;have pr7:=(pr5.ab s6.tp).ab tp7;have ep7:=ep6.tp tp7;generalize AM H6 d (.dK (GK (sn++[n]) (JA z n (Ff st z mo))))=H7 at sb7 eu7 ed7 pr7 ep7⊢;obtain⟨f0,f1,_⟩:_:=ep7.md;show⟨_,_,f0,f1,B6 rfl,λq7 hq7=>?_⟩;have g8:=Bv (o:=.tup Qg) hq7;show⟨_,Qg,rfl,.inr (Ar AY),rfl,rfl,.inr ⟨_,rfl,?_⟩⟩;show⟨p,st,_,JA z n (Ff st z mo),sn++[n],rfl,sb7.aa g8,g8 _ _ eu7,pr7.ab g8.tp,g8 _ _ ed7,?_,ep7.tp g8.tp,pl1.adt dz enl sg6 (.inr ⟨tf6,rfl,rfl,hb6⟩)⟩;rw[Bx];change sn.length+1<=_;show HQ.mpr lsn
        . have tt:st.cp=AK:=by have ht:(!Fj (.str st.md) NN)=AR:=ht;rw[UC]at ht;simpa using ht
          show⟨p,st,wd,z,sn,rfl,sb4.aa g5,g5 _ _ eu4,pr4.ab g5.tp,g5 _ _ ed4,Jn lsn,ep.tp g5.tp,pl1.adt dz enl sg (.inl ⟨tt,rfl,rfl⟩)⟩
      . intro σ' H5 hI;obtain⟨p,st,wd,z',sn',rfl,s5,eu5,pr5,ed5,l5,ep5,pl5⟩:_:=hI;show⟨.inl ⟨rfl,_,Ac eu5⟩,u,ps,_,rfl,rfl,eu5,?_,?_⟩;.rw[pr5.gf];lia
        have tp6:Bk H5 (AM H5 u (.lst (ps++[.ref p]))):=(Gg H5).gy eu5 λxs=>by intro z;cases z
        have ndu:d≠u:=λz=>by rw[z,eu5]at ed5;cases ed5
        show⟨_,_,_,_,_,_,_,_,_,rfl,s5.zg fu,AY,(pr5.zf ep5).ab tp6,by rw[Bx,ls1];rfl,by rw[AV ndu];show ed5,by assumption,pl5⟩
  . intro σ H1 hI;obtain⟨o10,o11,o12,o13,wd,ps,ss,z,sn,rfl,s1,eu1,pr1,ls1,ed1,lsn,pl1⟩:_:=hI;show k u H1 ps ss z (s0b.aa s1) (s0b.bc fu) eu1 pr1 (pl1.kj dz) (by lia) pl1.aai pl1.aey
def nE(K:As):BF:=λU H Q O=>(EB λ(a:AB)(J:List Int)(k:Int)=>Ek (U=[.ref a,.int k]) (CD K H a (J.map AE.int)) (J.length<=63) (0<=k) (∀p D e,An H D->H p=AG->Ip D p e->Cu e.2.1->Cu e.2.2.1->0<=e.1/\e.1<=1000000000->Q (.ref p) D))
theorem jR(T:BL AJ Af AI):T.pz.Ok BC P w Af base 3 (nE AJ):=by
 have D:=O1 (P:=P) (w:=w) (base:=base) T;show T.pz.ok λY _ _ _ _ _ z H vs Q E h=>?_;obtain⟨a,B,i,rfl,b,Z,M,k⟩:_:=h;show⟨_,(Ai (Aw 2 Y (BE (O3 T) z #v[AD 0,AW C5 (AD 1) AQ])) (Ai (Aw 3 Y (BE (Th T) z #v[AD 0])) (Ai (Aw 4 Y (AW C5 (AW FK (AW Bu (BE D z #v[AD 0,AD 1]) AQ) (AD 3)) (AW FK (AW Bu (AD 2) AQ) (IS Yw (by rfl) T.aba zF #v[Mp N4 (AD 3) AQ (Bs _)])))) (Ai (Gj (CF (Bw DH (AW Bu (AW Ci (BE D z #v[AD 0,AD 1]) AQ) AQ) AQ (Bs _)) (Ab (Aw 4 Y (AW Bu (AW Bu (AW FK (AD 2) AQ) AQ) AQ))) Cd)) (Ai (Gj (CF (Bw DH (AW Bu (AW Ci (BE D z #v[AD 0,AD 1]) AQ) AQ) AQ (Bs _)) (Ab (Aw 4 Y (AW GQ AQ (AW Bu (AW Ci (BE D z #v[AD 0,AD 1]) AQ) AQ)))) Cd)) (Ai (Aw 5 Y (DR AJ (BE (O2 T) z #v[AD 0,AQ,AQ]) (AW Bu (AW Ci (AD 2) AQ) AQ))) (Ai (Aw 6 Y (BE (O2 T) z #v[AD 0,AQ,DR AJ (C9 #v[AQ,AQ,AQ]) (AW Bu (AW Ci (BE D z #v[AD 0,AQ]) AQ) AQ)])) (Ai (Aw 7 Y (DR AJ (AD 6) (AW Bu (AW Ci (AD 2) AQ) (DI (F4 (K:=AJ)) (by rfl) T.gw F8 #v[AD 6])))) (Ai (Aw 8 Y (AW GQ (AW Bu (AW Ci (AD 2) AQ) AQ) AQ)) (Ai (Gj (CF (Bw DH (AW Bu (AW Ci (AD 2) AQ) AQ) AQ (Bs _)) (Ab (Aw 8 Y (AW GQ (AW Bu (AW FK (AD 2) AQ) AQ) AQ))) Cd)) (Ab (BD (Cj #v[AD 4,AD 5,AD 7,AD 8]))))))))))))),?_⟩;show⟨a,B,_,rfl,b,Z,AA9 M,λA nn0=>?_⟩;show⟨a,B,rfl,b,Z,λc Hb l hc=>?_⟩;have U:=l.uz b;have N:1<=c/\c<=40000:=by(constructor<;>lia)
 show⟨a,B,_,rfl,U,M,Z,λC=>⟨(zzp rfl),.inr ⟨Il (by decide) N.1,G7 N.2 (by decide)⟩,(zzp rfl),.inr ⟨_,rfl,?_⟩⟩⟩;have m3:0<=A%3/\A%3<3:=⟨Fu _ (by decide),Gr _ (by decide)⟩;show⟨.inl ⟨Il (by decide) m3.1,Qb m3.2 (by decide)⟩,?_⟩;have W:0<=C%40*c+(A%3*if Ae (1<c)=AK then 1 else 0)/\C%40*c+(A%3*if Ae (1<c)=AK then 1 else 0)<=1000000000:=by
  have m4:0<=C%40/\C%40<=39:=by(constructor<;>lia)
  have u1:0<=C%40*c:=fK m4.1 (Kb N.1);have u2:C%40*c<=39*c:=Int.mul_le_mul_of_nonneg_right m4.2 (Kb N.1);split<;>(constructor<;>lia)
 show Gh (λJ R=>JF (λ(t:Int)=>(0<=t/\t<=1000000000)) (λt=>J=(Sy a i A c t AG AG AG AG)) (λ_=>R=Hb)) ?_ ?_
 . show⟨a,B,_,rfl,U,M,Z,λc2=>⟨(zzd rfl),(zzp rfl),rfl,_,rfl,EG (λ_=>?_) λ_=>⟨_,W,rfl,rfl⟩⟩⟩;show⟨.inr ⟨by decide,by decide⟩,(zzp rfl),(zzp rfl),_,⟨Fu _ (by decide),ABD (Gr _ (by decide))⟩,rfl,rfl⟩
 intro J R G;obtain⟨t,W,rfl,rfl⟩:_:=G;show Gh (λJ q=>JF (λ(t:Int)=>(0<=t/\t<=1000000000)) (λt=>J=(Sy a i A c t AG AG AG AG)) (λ_=>q=R)) ?_ ?_;. show⟨a,B,_,rfl,U,M,Z,λc2=>⟨(zzd rfl),(zzp rfl),rfl,_,rfl,EG (λ_=>?_) λ_=>⟨_,W,rfl,rfl⟩⟩⟩;show⟨a,B,_,rfl,U,M,Z,λc3=>⟨(zzd rfl),(zzp rfl),_,⟨by lia,ABO _ (Fu _ (by decide))⟩,rfl,rfl⟩⟩
 intro J q G;obtain⟨t,W,rfl,rfl⟩:_:=G;show⟨a,B,2,2,rfl,U,Z,by decide,by decide,by decide,λlk Hk ks n _ X j _ ak=>?_⟩;lk;obtain⟨v,hv,hm⟩:=Hj (ks.map AE.str) 2 (by rw[Aq];show j) (by decide) (A/16);obtain⟨u,mk,rfl⟩:=Ay.mp hm;k_in;show⟨(zzd rfl),(zzp rfl),_,_,Ac X,hv,?_⟩;have I:=n.uz U;show⟨B6 rfl,λp1 e=>?_⟩;show BK (o:=.lst [AE.int 3,.int 3,.int 9]) e λH3 O e1=>?_;show⟨a,B,_,rfl,O.uz I,by decide,Z,λc4=>?_⟩;lk;obtain⟨v,f,L⟩:=Hj [AE.int 3,.int 3,.int 9] 3 rfl (by decide) (c4/12);obtain⟨m,rfl,hm4⟩:∃m:Int,v=.int m/\(m=3\/m=9):=by
  simp only[CZ,Pu,AFB]at L;rcases L with rfl|rfl|rfl;.show⟨_,rfl,.inl rfl⟩
  .show⟨_,rfl,.inl rfl⟩
  .show⟨_,rfl,.inr rfl⟩
 k_in;show⟨(zzd rfl),(zzp rfl),_,_,Ac e1,f,a,B,3,m,rfl,O.uz I,Z,by decide,by lia,by lia,λly H4 ys sy _ F lys _ ay=>?_⟩;have x:(0:Int)<((ys.map AE.str).length:Int):=by rw[Aq];lia
 lk;obtain⟨v,g,d⟩:=Hj (ys.map AE.str) _ rfl x (A/32);obtain⟨y,my,rfl⟩:=Ay.mp d;k_in;show⟨(zzd rfl),_,.inl (Ac F),x,_,_,Ac F,g,?_⟩;show⟨(zzd rfl),(zzp rfl),?_⟩;show Gh (λJ r=>GO (λ(S:Int)=>J=(Sy a i A c t (AA (.str u)) (AA (.ref ly)) (AA (.str y)) (AA (.int S)))) (λ_=>r=H4)) ?_ ?_
 . show⟨(zzd rfl),(zzp rfl),rfl,_,rfl,EG (λ_=>?_) λ_=>⟨_,rfl,rfl⟩⟩;show⟨.inr ⟨by decide,by decide⟩,(zzp rfl),_,rfl,rfl⟩
 intro J r G;obtain⟨S,rfl,rfl⟩:_:=G;show⟨B6 rfl,λp s=>k p _ (t,u,y,S) ((l.aa (n.aa (O.aa sy))).gy s) ((l.aa (n.aa (O.aa sy))).bc s) AY (ak _ mk) (ay _ my) W⟩
abbrev EE:=Int×Int×Int×Int
abbrev AX:=Int×Int×EE
abbrev JZ:=Int×Int
def Gs(a b:EE):EE:=(a.1+b.1,a.2.1+b.2.1,D3 a.2.2.1 b.2.2.1,KR a.2.2.2 b.2.2.2)
def KH(a:Int):EE:=(1,a,a,a)
theorem i6(a b:Int):(if b<a then b else a)=D3 a b:=by(split<;>lia)
theorem Oo(a b:EE):Gs a b=Gs b a:=by unfold Gs;grind
theorem WM(a b c:EE):Gs (Gs a b) c=Gs a (Gs b c):=by unfold Gs;grind
def CH(s e:Int)(t:EE):List AX->List AX|[]=>[(s,e,t)]|b::r=>if b.1<s then b::CH s e t r else if b.1=s then(s,b.2.1,Gs b.2.2 t)::r else(s,e,t)::b::r
def EL(l:List AX):Prop:=l.Pairwise λa b=>a.1<b.1
theorem Ww:∀{l:List AX}{x:AX},x∈CH s e t l->x.1=s\/x∈l
  |[],x,h=>.inl (by rw[Bm.mp h])|b::r,x,h=>by
    unfold CH at h;split at h
    . rcases CZ.mp h with h|h;.simp_all
      .show(Ww h).imp id (λD=>Gm D)
    grind
theorem TX:∀{l:List AX},EL l->EL (CH s e t l)
 |[],_=>bT _ _|b::r,h=>by
  obtain⟨U,J⟩:=Ho.mp h;unfold CH;split;. show Ho.mpr ⟨λx D=>?_,TX J⟩;rcases Ww D with z|z;all_goals(simp[*])
  split;.show Ho.mpr (by grind)
  . show Ho.mpr ⟨λx D=>?_,h⟩;grind
theorem Wv:∀{l:List AX},(CH s e t l).length<=l.length+1
 |[]=>Aj _|b::r=>by
  unfold CH;split;.show Vc Wv
  (split<;>simp_all)
theorem Wz{s e s' W:Int}{t t':EE}(h:s=s'->e=W):∀{l:List AX},CH s' W t' (CH s e t l)=CH s e t (CH s' W t' l)
  |[]=>by
    by_cases z:s=s';.have:=h z;subst z this;simp[CH,Oo]
    . by_cases y:s<s';.simp[CH,y,by show Sj y,by show JW y]
      .simp[CH,y,by show ABF.mpr ⟨MJ y,DJ z⟩,show s≠s' by assumption]|b::r=>by
    have Y:=@Wz s e s' W t t' h r;by_cases J:b.1<s<;>by_cases U:b.1<s';.simp[CH,J,U,Y]
    . by_cases D:b.1=s';.simp[CH,J,D,show s'<s by simp_all]
      .simp[CH,J,U,D,by show G7 (MJ U) J]
    . by_cases D:b.1=s;.simp[CH,U,D,show s<s' by simp_all]
      .simp[CH,J,U,D,by show G7 (MJ J) U]
    . by_cases D:b.1=s<;>by_cases V:b.1=s'
      . have z:=Oe D.symm V;have:=h z;subst z this;simp[CH,D,WM,Oo t t']
      .simp[CH,D,show¬s<s' by simp_all,show s'<s by lia,show s≠s' by simp_all]
      .simp[CH,V,show¬s'<s by simp_all,show s<s' by lia,show s'≠s by simp_all]
      . by_cases z:s=s'
        . have:=h z;subst z this;simp[CH,J,D,Oo]
        . by_cases y:s<s';.simp[CH,J,U,D,V,y,by show Sj y,by show JW y,by(first|lia|omega)]
          .simp[CH,J,U,D,V,y,by show ABF.mpr ⟨MJ y,DJ z⟩,show s≠s' by assumption]
def EN(w:Int)(p:AX):Bool:=Ae (w<p.2.1)
theorem Wu:∀{l:List AX},(∀x∈l,s<x.1)->CH s e t l=(s,e,t)::l|[],_=>rfl|b::r,h=>by have:=h b Dr;simp[CH,by show Sj this,by show JW this]
theorem Wy{w s e:Int}{t:EE}(V:w<e):∀{l:List AX},EL l->(∀b∈l,b.1=s->w<b.2.1)->(CH s e t l).filter (EN w)=CH s e t (l.filter (EN w))/\(CH s e t l).filter (λp=>!EN w p)=l.filter λp=>!EN w p
  |[],_,_=>by simp[CH,EN,V]|b::r,u,h=>by
    obtain⟨z,u2⟩:=Ho.mp u;have Y:=@Wy w s e t V r u2 (λz u2 u3=>h _ (Gm u2) u3);by_cases D:b.1<s;.cases c:EN w b<;>simp[CH,D,c,Y.1,Y.2]
    . by_cases J:b.1=s
      . have W:=h b Dr J;have Z:EN w b=AK:=AE1 W;have U:EN w (s,b.2.1,Gs b.2.2 t)=AK:=AE1 W;simp[CH,D,J,Z,U]
      . have U:EN w (s,e,t)=AK:=AE1 V;cases c:EN w b
        . simp only[CH,D,J,AE5,G1,U,c,AE7,AA2,AA1,LS,and_true];show(Wu (by grind)).symm
        .simp[CH,D,J,U,c]
def Dp(b p:AX):AX:=(D3 b.1 p.1,KR b.2.1 p.2.1,Gs b.2.2 p.2.2)
theorem Qr(a b:AX):Dp a b=Dp b a:=by unfold Dp;rw[Oo];grind
theorem Qq(a b c:AX):Dp (Dp a b) c=Dp a (Dp b c):=by unfold Dp;rw[WM];simp
def Ca(p:AX):List AX->List AX|[]=>[p]|b::r=>if b.2.1<=p.1 then b::Ca p r else if p.2.1<=b.1 then p::b::r else Ca (Dp b p) r
def IE(l:List AX):Prop:=(∀b∈l,b.1<b.2.1)/\l.Pairwise λa b=>a.2.1<=b.1
theorem Qx:∀{l:List AX}{p:AX},x<=p.1->(∀b∈l,x<=b.1)->∀b∈Ca p l,x<=b.1
  |[],p,h,_,b,D=>by rw[Bm.mp D];show h|c::r,p,h,J,b,D=>by
    have U:=λb D=>J b (Fp _ D);unfold Ca at D;split at D
    . rcases CZ.mp D with z|z;.show J _ (CZ.mpr (Fq z))
      .show Qx h U b z
    split at D;.grind
    .show Qx (by unfold Dp;grind) U b D
theorem Qw:∀{l:List AX}{p:AX},p.1<p.2.1->IE l->IE (Ca p l)
 |[],p,h,_=>⟨λb D=>by rw[Bm.mp D];show h,bT _ _⟩|c::r,p,h,⟨U,V⟩=>by
  obtain⟨W,u2⟩:=Ho.mp V;have J:IE r:=⟨(λW u2=>U _ (Gm u2)),u2⟩;unfold Ca;split
  . obtain⟨i1,i2⟩:=Qw h J;show⟨λb D=>?_,Ho.mpr ⟨λb D=>Qx (by assumption) (by assumption) b D,i2⟩⟩;grind
  split
  . show⟨λb D=>?_,Ho.mpr (by grind)⟩;all_goals grind
  .show Qw (by unfold Dp;grind) J
theorem Tc:∀{l:List AX}{p:AX},(Ca p l).length<=l.length+1
 |[],_=>Aj _|b::r,p=>by
  unfold Ca;split;.show Vc Tc
  split;.simp
  .show Ag Tc (by simp)
theorem MW:∀{l:List AX}{p q:AX},q.1<p.2.1->p.1<q.2.1->(∀b∈l,b.1<b.2.1)->Ca q (Ca p l)=Ca (Dp p q) l
  |[],p,q,V,D,_=>by simp[Ca,by show Jt V,by show Jt D]|b::r,p,q,V,D,A=>by
    have Z:=A b Dr;have z:=λb Z=>A b (Fp _ Z);by_cases J:b.2.1<=p.1
    . by_cases U:b.2.1<=q.1
      . have:b.2.1<=(Dp p q).1:=by show ABC.mpr ⟨J,U⟩
        simp[Ca,J,U,this,MW V D z]
      . have W:¬b.2.1<=(Dp p q).1:=by unfold Dp;grind
        have Y:¬(Dp p q).2.1<=b.1:=by unfold Dp;grind
        simp only[Ca,J,U,AE7,AE5,by show Jt (Qb (Il Z J) D),W,Y];rw[MW (by show G7 (fJ _ _) V) (by show Il D (Vy _ _)) z,Qr b (Dp p q),Qq,Qr q b]
    . by_cases U:p.2.1<=b.1;.simp[Ca,J,U,by show Jt V,by show Jt D]
      . have W:¬b.2.1<=(Dp p q).1:=by unfold Dp;omega
        have Y:¬(Dp p q).2.1<=b.1:=by unfold Dp;grind
        simp only[Ca,J,U,AE5,W,Y];rw[MW (by show Il V (Vy _ _)) (by show G7 (fJ _ _) D) z,Qq]
theorem jC:∀{l:List AX},p.1<p.2.1->(∀b∈l,b.1<b.2.1)->(∀b∈l,p.2.1<=b.1)->Ca p l=p::l|[],_,_,_=>rfl|b::r,h,D,J=>by have:=D b Dr;have:=J b Dr;simp[Ca,show¬b.2.1<=p.1 by lia,by(first|lia|omega)]
theorem Qv:∀{l:List AX}{p q:AX},p.1<p.2.1->q.1<q.2.1->p.2.1<=q.1->IE l->Ca q (Ca p l)=Ca p (Ca q l)
  |[],p,q,Z,U,h,_=>by simp[Ca,h,show¬q.2.1<=p.1 by lia]|b::r,p,q,Z,U,h,Y=>by
    obtain⟨A,u2⟩:=Ho.mp Y.2;have z:=Y.1 b Dr;have W:IE r:=⟨λb z=>Y.1 b (Gm z),u2⟩;by_cases J:b.2.1<=p.1;.simp[Ca,J,by show GB (GB J (Kb Z)) h,Qv Z U h W]
    . by_cases D:p.2.1<=b.1
      . have e:=jC Z (Qw U Y).1 (Qx h (by grind));rw[e];simp[Ca,J,D,h]
      . by_cases V:b.2.1<=q.1
        . simp only[Ca,J,D,V,AE7,AE5];show Qv (by unfold Dp;grind) U (by show Int.max_le.mpr ⟨V,h⟩) W
        . simp only[Ca,J,D,V,AE5,by show LI D (λA=>GB (GB h (Kb U)) A)];rw[MW (by show Il (Sk V) (ABB _ _)) (by unfold Dp;omega) W.1,MW (by unfold Dp;grind) (by show lt_of_eq_of_lt (ABH (GB (Kb (Sk D)) h)) (Sk D)) W.1,Qq,Qq,Qr p q]
theorem jD(J:p.1<p.2.1)(U:q.1<q.2.1)(D:IE l):Ca q (Ca p l)=Ca p (Ca q l):=by
 by_cases V:p.2.1<=q.1;.show Qv J U V D
 by_cases W:q.2.1<=p.1;.show(Qv U J W D).symm
 rw[MW (by simp_all) (by simp_all) D.1,MW (by simp_all) (by simp_all) D.1,Qr]
theorem XE:∀{l:List AX}{p:AX},w<=p.1->p.1<p.2.1->IE l->(Ca p l).filter (EN w)=Ca p (l.filter (EN w))/\(Ca p l).filter (λp=>!EN w p)=l.filter λp=>!EN w p
  |[],p,h,J,_=>by simp[Ca,EN,by show G7 h J]|b::r,p,h,J,Z=>by
    obtain⟨F,u2⟩:=Ho.mp Z.2;have Y:IE r:=⟨λb W=>Z.1 b (Gm W),u2⟩;cases c:EN w b;. have hw:=AE8 c;have U:=XE h J Y;simp[Ca,by show GB (MJ hw) h,c,U.1,U.2]
    . have hw:=AE4 c;have A:∀{l:List _},(∀x∈l,w<x.2.1)->l.filter (EN w)=l/\l.filter (λp=>!EN w p)=[]:=λ{l}h=>⟨Mw.mpr λx D=>AE1 (h x D),Jm.mpr λx D=>by simp[EN,h x D]⟩;have B:∀x∈b::r,w<x.2.1:=λx D=>by
        rcases CZ.mp D with z|z;.rw[z];show hw
        .have:=F x z;have:=Y.1 x z;lia
      have G:=by
        have V:∀{l:List _}{p:AX},w<p.2.1->(∀x∈l,w<x.2.1)->∀x∈Ca p l,w<x.2.1:=λ{l}=>by induction l with |nil=>intro p h _ x D;rw[Bm.mp D];show h|cons c l U=>
            intro p h C x D;have E:=λb W=>C b (Fp _ W);unfold Ca at D;split at D;.grind
            split at D;.grind
            .show U (by unfold Dp;show Il h (Vy _ _)) E x D
        show V (G7 h J) B
      grind
def EO(p x:AX):Bool:=Ae (x.1<p.2.1)&&Ae (p.1<x.2.1)
theorem Tb:∀{l:List AX}{p:AX},p.1<p.2.1->IE l->CH (((l.filter (EO p)).map (·.1)).foldl D3 p.1) (((l.filter (EO p)).map (·.2.1)).foldl KR p.2.1) ((l.filter (EO p)).foldl (λt x=>Gs t x.2.2) p.2.2) (l.filter λx=>!EO p x)=Ca p l
  |[],p,_,_=>rfl|b::r,p,G,V=>by
    obtain⟨W,u2⟩:=Ho.mp V.2;have z:=V.1 b Dr;have U:IE r:=⟨λb z=>V.1 b (by grind),u2⟩;by_cases J:b.2.1<=p.1
    . have o:EO p b=AR:=by unfold EO;simp_all
      have I:∀{m:List Int}{a:Int},b.2.1<=a->(∀x∈m,b.2.1<=x)->b.2.1<=m.foldl D3 a:=λ{m}=>by induction m with|nil=>simp|cons x m D=>showλF Z=>D (by have:=Z x Dr;show ABC.mpr ⟨F,this⟩) (λW u2=>Z _ (Gm u2))
      have H:b.2.1<=((r.filter (EO p)).map (·.1)).foldl D3 p.1:=(by grind);simp only[G1,o,AA1,AE7,LS,AE5,Ca,J];rw[<-Tb G U];show AE0 (Il z H)
    . by_cases Y:p.2.1<=b.1
      . have B:∀x∈b::r,EO p x=AR:=λx A=>by unfold EO;grind
        rw[Jm.mpr (λW u2=>Bool.eq_false_iff.mp (B _ u2)),Mw.mpr (by simpa using B)];simp only[Ca,J,Y,AE7,AE5];show Wu (by grind)
      . have o:EO p b=AK:=by unfold EO;simp_all
        have same:∀x∈r,EO p x=EO (Dp b p) x:=λx A=>by have:=U.1 x A;unfold EO Dp;grind
        have D:=Tb (p:=Dp b p) (by unfold Dp;grind) U;have C:=JO same;have E:=JO (λW u2=>Bool.not_inj_iff.mpr (same _ u2));rw[<-C,<-E,show(Dp b p).1=D3 p.1 b.1 from Int.min_comm _ _,show(Dp b p).2.1=KR p.2.1 b.2.1 from Int.max_comm _ _,show(Dp b p).2.2=Gs p.2.2 b.2.2 from Oo _ _]at D;simp only[G1,o,AA2,AE7,LS,AE5,Ca,J,Y,FO,yM];show D
theorem S7:∀{l:List AX},IE l->EL l|[],_=>.nil|b::r,h=>by obtain⟨J,u2⟩:=Ho.mp h.2;show Ho.mpr ⟨λx D=>by have:=J x D;have:=h.1 b Dr;lia,S7 ⟨λb U=>h.1 b (by grind),u2⟩⟩
def Jd(t z d:Int):List Int:=(FZ (Fo (((t-z)/d+1)*d) (t+1) d)).map λk:Nat=>((t-z)/d+1)*d+(k:Int)*d
structure Sw(t z d:Int):Prop where
 d1:1<=d
 d2:d<=200000
 z1:d<=z
 z2:z<=4*d
 t1:0<=t
 t2:t<=1000000000
theorem Qo{t z d:Int}(h:1<=d):t-z<((t-z)/d+1)*d/\((t-z)/d+1)*d<=t-z+d:=by have D:=Int.mul_ediv_add_emod (t-z) d;have J:=Fu (t-z) (by show JW h);have U:=Gr (t-z) (by assumption);(constructor<;>lia)
theorem T8(h:Sw t z d):(Jd t z d).length<=5/\Fo (((t-z)/d+1)*d) (t+1) d<=5:=by
 obtain⟨D,J,U,V,W,Y⟩:_:=h;have f:=(Qo (t:=t) (z:=z) D).1;have:Fo (((t-z)/d+1)*d) (t+1) d<=5:=by
  unfold Fo;split
  . have:(t+1-((t-z)/d+1)*d-1)/d<=4:=Int.ediv_le_of_le_mul (by assumption) (by lia);show Sl.mpr (Int.add_le_iff_le_sub.mpr this)
  .simp
 show⟨by unfold Jd;simp_all,this⟩
def X0(t a z d:Int)(l:List AX):List AX:=(Jd t z d).foldl (λl s=>CH s (s+z) (KH a) l) l
theorem TQ:∀{ss:List Int}{l:List AX},EL l->EL (ss.foldl (λl s=>CH s (s+z) x l) l)/\(ss.foldl (λl s=>CH s (s+z) x l) l).length<=l.length+ss.length|[],l,h=>(by simp_all)|s::ss,l,h=>by obtain⟨i1,i2⟩:=TQ (ss:=ss) (z:=z) (x:=x) (TX (s:=s) (e:=s+z) (t:=x) h);have:=Wv (s:=s) (e:=s+z) (t:=x) (l:=l);grind
theorem YV{f:D->α->D}{l:List α}(h:l[i]?=AA x):(l.take (i+1)).foldl f b=f ((l.take i).foldl f b) x:=by rw[D2,h,ABe];rfl
def Jb(w:Int)(l:List AX):List AX:=l.filter (EN w)
def Jc(w:Int)(l:List AX):List AX:=l.filter λp=>!EN w p
def AU.ig:AU->Prop|.gap _ _ _ m=>0<=m|.each _ _ _ z d=>1<=d/\d<=200000/\d<=z/\z<=4*d|_=>False
def AU.ie(s:AU)(t a:Int)(l:List AX):List AX:=match s with|.each _ _ _ z d=>X0 t a z d l|.gap _ _ _ m=>Ca (t,t+m+1,KH a) l|_=>l
def AU.gd(s:AU)(l:List AX):Prop:=match s with|.each _ _ _ z _=>EL l/\∀b∈l,b.2.1=b.1+z|.gap ..=>IE l|_=>EL l
theorem pT(h:1<=d)(D:s∈Jd t z d):t<s+z:=by obtain⟨k,_,rfl⟩:_:=Ay.mp D;have:=Qo (t:=t) (z:=z) h;have:0<=(k)*d:=fK (by lia) (Kb h);lia
def HW(z:Int)(x:EE)(l:List AX)(s:Int):List AX:=CH s (s+z) x l
def Oh(z:Int)(l:List AX):Prop:=EL l/\∀b∈l,b.2.1=b.1+z
theorem Wt(h:Oh z l):Oh z (HW z x l s):=by
 show⟨TX h.1,?_⟩;have:∀{l:List _},(∀b∈l,b.2.1=b.1+z)->∀b∈CH s (s+z) x l,b.2.1=b.1+z:=λ{l}=>by induction l with |nil=>intro _ b D;rw[Bm.mp D]|cons c l J=> intro h b D;unfold CH at D;grind
 show this h.2
theorem Wk:∀{ss:List Int}{l:List AX},Oh z l->Oh z (ss.foldl (HW z x) l)|[],_,h=>h|s::ss,l,h=>Wk (ss:=ss) (Wt h)
theorem Wl:∀{ss:List Int}{l:List AX},HW z y (ss.foldl (HW z x) l) s=ss.foldl (HW z x) (HW z y l s)|[],_=>rfl|r::ss,l=>by change HW z y (ss.foldl _ _) s=_;rw[Wl];change _=ss.foldl _ _;congr 1;show Wz (by simp)
theorem Wn{ss:List Int}:∀{D:List Int}{l:List AX},D.foldl (HW z y) (ss.foldl (HW z x) l)=ss.foldl (HW z x) (D.foldl (HW z y) l)|[],_=>rfl|r::D,l=>by change D.foldl _ _=_;rw[Wl,Wn];rfl
theorem Wm:∀{ss:List Int}{l:List AX},(∀s∈ss,w<s+z)->Oh z l->Jb w (ss.foldl (HW z x) l)=ss.foldl (HW z x) (Jb w l)/\Jc w (ss.foldl (HW z x) l)=Jc w l
 |[],_,_,_=>⟨rfl,rfl⟩|s::ss,l,h,J=>by
  have D:=h s Dr;lk;obtain⟨W,U⟩:=Wy D J.1 λb V e=>by rw[J.2 b V,e];show D
  obtain⟨i1,i2⟩:=Wm (λs D=>h s (Gm D)) (Wt J);k_in;show⟨i1.trans ?_,i2.trans U⟩;change ss.foldl _ _=ss.foldl _ _;congr 1
theorem AU.za{s:AU}(D:s.ig)(h:s.gd l):s.gd (s.ie t a l):=by cases s with|each _ _ _ z d=>show Wk h|gap _ _ _ m=>show Qw (by show Vz (Qa D) (by decide)) h|_=>cases D
theorem AU.xn{s:AU}(D:s.ig)(h:s.gd l):s.ie t' J (s.ie t a l)=s.ie t a (s.ie t' J l):=by cases s with|each _ _ _ z d=>show Wn|gap _ _ _ m=>show jD (by show Vz (Qa D) (by decide)) (by show Vz (Qa D) (by decide)) h|_=>cases D
theorem fV{s:AU}(D:s.ig)(h:s.gd l)(J:w<=t):Jb w (s.ie t a l)=s.ie t a (Jb w l)/\Jc w (s.ie t a l)=Jc w l:=by cases s with|each _ _ _ z d=>show Wm (λr U=>by have:=pT D.1 U;show G7 J this) h|gap _ _ _ m=>show XE J (by have:0<=m:=D;lia) h|_=>cases D
theorem fT{s:AU}{m:List AX}(h:s.gd l)(D:m.Sublist l):s.gd m:=by cases s with|each _ _ _ z d=>show⟨h.1.sublist D,λb J=>h.2 b (D.mem J)⟩|gap _ _ _ m=>show⟨λb J=>h.1 b (D.mem J),h.2.sublist D⟩|_=>show h.sublist D
theorem WG{s:AU}(h:s.gd l):EL l:=by cases s with|each _ _ _ z d=>show h.1|gap _ _ _ m=>show S7 h|_=>show h
theorem AU.aen{s:AU}:s.gd []:=by cases s with|each _ _ _ z d=>show⟨.nil,(by simp)⟩|gap _ _ _ m=>show⟨(by simp),.nil⟩|_=>show .nil
theorem AU.gf{s:AU}(D:s.ig)(J:0<=t/\t<=1000000000)(V:s.gd l):(s.ie t a l).length<=l.length+5:=by cases s with|each _ _ _ z d=>have U:=(TQ (z:=z) (x:=KH a) (ss:=Jd t z d) V.1).2;have W:=(T8 ⟨D.1,D.2.1,D.2.2.1,D.2.2.2,J.1,J.2⟩).1;show Ag U (by simp_all)|gap _ _ _ m=>show Ag Tc (by simp)|_=>cases D
def Iy(s:AU)(l:List JZ):List AX:=l.foldl (λl x=>s.ie x.1 x.2 l) []
theorem iA{s:AU}{ps:List JZ}(D:s.ig):∀{l:List AX},s.gd l->s.gd (ps.foldl (λl x=>s.ie x.1 x.2 l) l):=by induction ps with|nil=>simp|cons p ps J=>showλh=>J (s.za D h)
theorem iB{s:AU}{ps:List JZ}(D:s.ig)(h:ps.Perm qs):∀{l:List AX},s.gd l->ps.foldl (λl x=>s.ie x.1 x.2 l) l=qs.foldl (λl x=>s.ie x.1 x.2 l) l:=by induction h with|nil=>simp|cons x _ J=>showλh=>J (s.za D h)|swap x y l=>showλh=>by change l.foldl _ _=l.foldl _ (s.ie _ _ _);rw[s.xn D h]|trans _ _ U V=>simp_all
theorem gH(D:s.ig)(h:ps.Perm qs):Iy s ps=Iy s qs:=iB D h s.aen
theorem WN{s:AU}(D:s.ig):s.gd (Iy s ps):=iA D s.aen
theorem gI:Iy s (ps++[x])=s.ie x.1 x.2 (Iy s ps):=by unfold Iy;simp
theorem WO(J:s.ig)(U:∀x∈ps,0<=x.1/\x.1<=1000000000):(Iy s ps).length<=5*ps.length:=by
 have:∀{ps:List JZ}{l:List _},(∀x∈ps,0<=x.1/\x.1<=1000000000)->s.gd l->(ps.foldl (λl x=>s.ie x.1 x.2 l) l).length<=l.length+5*ps.length:=λ{ps}=>by induction ps with |nil=>simp|cons x ps V=> intro l h D;have W:=V (λZ u2=>h _ (Gm u2)) (s.za (t:=x.1) (a:=x.2) J D);have Y:=s.gf (a:=x.2) J (h x Dr) D;grind
 have:=this U s.aen;unfold Iy;simp_all
def Fe(H:AH)(q:AB)(t:EE):Prop:=H q=AA (.tup [.int t.1,.int t.2.1,.int t.2.2.1,.int t.2.2.2])
def MQ(H:AH)(x:AE)(p:AX):Prop:=∃a q,x=.ref a/\H a=AA (.tup [.int p.1,.int p.2.1,.ref q])/\Fe H q p.2.2
def Dy(H:AH)(xs:List AE)(ps:List AX):Prop:=BJ (MQ H) xs ps
theorem Dy.ab(h:Dy H xs ps)(t:Bk H H'):Dy H' xs ps:=ES (λO O U=>by obtain⟨a,q,e,D,J⟩:=U;show⟨a,q,e,t _ _ D,t _ _ J⟩) h
theorem Dy.gf(h:Dy H xs ps):xs.length=ps.length:=(CJ h).1
theorem Dy.at(h:Dy H xs ps){i:Nat}(e:ps[i]?=AA p):∃a q,xs[i]?=AA (.ref a)/\H a=AA (.tup [.int p.1,.int p.2.1,.ref q])/\Fe H q p.2.2:=by lk;obtain⟨l,W⟩:=CJ h;have D:=Ck (by rw[l];show(BU.mp e).1);obtain⟨a,q,J,U⟩:=W _ _ _ D e;k_in;rw[J]at D;show⟨a,q,D,U⟩
theorem Dy.ix(h:Dy H xs ps){i:Nat}(e:xs[i]?=AA x):∃p a q,ps[i]?=AA p/\x=.ref a/\H a=AA (.tup [.int p.1,.int p.2.1,.ref q])/\Fe H q p.2.2:=by lk;obtain⟨l,W⟩:=CJ h;have D:=Ck (by rw[<-l];show(BU.mp e).1);obtain⟨a,q,J,U⟩:=W _ _ _ e D;k_in;show⟨_,a,q,D,J,U⟩
theorem iV(a b:Int):(if b>a then b else a)=KR a b:=by lia
theorem iR(h:c<a):Bg [.inl a,.inl b] [.inl c,.inl d]=AR:=by change(if(C3 a)=C3 c then _ else Ae _)=_;rw[AEz λe=>by simp_all];show AE3 (Sj h)
theorem To{F:α->V->Prop}{f:U->V}(h:BJ (λa b=>F a (f b)) D J):BJ F D (J.map f):=by induction h with|nil=>show .nil|cons r _ W=>show .cons r W
def MZ(p:AX):List AN:=[.inl p.1,.inl p.2.1]
theorem Dy.hd(h:Dy H xs ps):BJ (Ss 1 H) xs (ps.map MZ):=To (ES (λO O J=>by obtain⟨a,q,e,D,_⟩:=J;show⟨a,_,e,D,.inr (B6 rfl)⟩) h)
theorem EL.sd(h:EL ps):DP (ps.map MZ):=Hq.mpr (h.imp λq=>iR q)
theorem W0:∀{ps:List AX}{n:Nat}{p:AX},(∀(i:Nat)p,i<n->ps[i]?=AA p->p.1<S)->ps[n]?=AA p->p.1=S->CH S E t ps=ps.take n++[(S,p.2.1,Gs p.2.2 t)]++ps.drop (n+1)|[],n,p,_,e,_=>by cases e|b::r,0,p,_,e,q=>by cases e;unfold CH;rw[AEz (ABJ.mpr (Int.le_of_eq q.symm)),AE0 q];rfl|b::r,n+1,p,h,e,q=>by unfold CH;rw[AE0 (h 0 b (cD _) rfl),W0 (λi p J D=>h _ p (AB6 J) D) e q];rfl
theorem Wx:∀{ps:List AX}{n:Nat},(∀(i:Nat)p,i<n->ps[i]?=AA p->p.1<S)->n<=ps.length->(∀p,ps[n]?=AA p->S<p.1)->CH S E t ps=ps.take n++[(S,E,t)]++ps.drop n
 |[],n,_,h,_=>by cases n with |zero=>rfl|succ n=>show absurd h (y4 _)
 |b::r,0,_,_,q=>by have:=q b rfl;unfold CH;rw[AEz (Sj this),AEz (JW this)];rfl|b::r,n+1,h,U,q=>by unfold CH;rw[AE0 (h 0 b (cD _) rfl),Wx (λi p J D=>h _ p (AB6 J) D) (bY U) q];rfl
def pE:BF:=λJ H Q O=>∃a:Int,J=[.int a]/\∀r D,An H D->H r=AG->Fe D r (KH a)->Q (.ref r) D
def mQ:BF:=λJ H Q O=>(GX λ(p q:AB)(x y:EE)=>JX (J=[.ref p,.ref q]) (Fe H p x) (Fe H q y) (∀r D,An H D->H r=AG->Fe D r (Gs x y)->Q (.ref r) D))
def n9:BF:=λD H Q O=>∃a b c m:Int,D=[.int a,.int b,.int c,.int m]/\Q (.bl (Ae (a-c<=m)&&Ae (c-(b-m-1)<=m))) H
def oZ:BF:=λJ H Q O=>∃t z d:Int,J=[.int t,.int z,.int d]/\Sw t z d/\∀l D,An H D->H l=AG->D l=AA (.lst ((Jd t z d).map AE.int))->Q (.ref l) D
theorem Xh(T:BL AJ Af AI):T.vn.Ok BC P w Af base 1 pE:=by show T.vn.ok λU O O O O O J H V Q E h=>?_;obtain⟨a,rfl,k⟩:_:=h;show⟨_,(Ab (BD (Cj #v[AQ,AD 0,AD 0,AD 0]))),?_⟩;show⟨B6 rfl,λr D=>k r _ (Bv D) D AY⟩
theorem XN(T:BL AJ Af AI):T.zh.Ok BC P w Af base 1 mQ:=by show T.zh.ok λW O O O O O V H Y Q E h=>?_;obtain⟨p,q,x,y,rfl,J,U,k⟩:_:=h;show⟨_,(Ab (BD (Cj #v[AW C5 (BA AJ (AD 0) AQ) (BA AJ (AD 1) AQ),AW C5 (BA AJ (AD 0) AQ) (BA AJ (AD 1) AQ),(DI (Yz rfl) (by rfl) T.abb zG #v[BA AJ (AD 0) AQ,BA AJ (AD 1) AQ]),(DI (UW rfl) (by rfl) T.zx cG #v[BA AJ (AD 0) AQ,BA AJ (AD 1) AQ])]))),?_⟩;have i1:Cs AJ H p _:=Ar J;have i2:Cs AJ H q _:=Ar U;show⟨_,_,i1,Ap rfl,_,_,i2,Ap rfl,_,_,i1,Ap rfl,_,_,i2,Ap rfl,_,_,i1,Ap rfl,_,_,i2,Ap rfl,_,_,i1,Ap rfl,_,_,i2,Ap rfl,?_⟩;show⟨B6 rfl,λr D=>k r _ (Bv D) D (by rw[i6,iV];show AY)⟩
theorem XZ(T:BL AJ Af AI):T.zl.Ok BC P w Af base 1 n9:=by
 show T.zl.ok λD O O O O O J H U Q E h=>?_;obtain⟨a,b,c,m,rfl,k⟩:_:=h;show⟨_,(Ai (Aw 4 D (AW GQ (AW GQ (AD 1) (AD 3)) AQ)) (Ab (BD (U0 (Mp PY (AW GQ (AD 0) (AD 2)) (AD 3) (Bs _)) (U1 (Mp PY (AW GQ (AD 2) (AD 4)) (AD 3) (Bs _))))))),?_⟩;show⟨_,rfl,K6 (λe=>?_) λe=>?_⟩
 . rw[e]at k;show k
 . rw[e]at k;show k
theorem k6(T:BL AJ Af AI):T.yg.Ok BC P w Af base 1 oZ:=by
 show T.yg.ok λA O O O O O I H L Q E h=>?_;obtain⟨t,z,d,rfl,V,k⟩:_:=h;show⟨_,(Ai (Aw 3 A (AW FK (AW C5 (AW Ci (AW GQ (AD 0) (AD 1)) (AD 2)) AQ) (AD 2))) (Ab (BD (vD rfl (by rfl) T.jg (by rfl) T.jo #v[AD 3,AW C5 (AD 0) AQ,AD 2])))),?_⟩;lk;obtain⟨U,J,F,G,W,Y⟩:=id V;obtain⟨B,C⟩:=Qo (t:=t) (z:=z) U;k_in;have Z:=(T8 V).2;show⟨⟨by assumption,G7 J (by decide)⟩,.inr ⟨Il (by decide) U,G7 J (by decide)⟩,?_⟩;show⟨_,_,_,rfl,⟨by assumption,GB J (by decide),?_,?_,Int.le_add_of_neg_add_le_right (GB (by decide) W),Int.add_lt_iff.mpr (G7 Y (by decide)),?_⟩,λl D=>k l _ (Bv D) D AY⟩;.lia
 .omega
 .show Ag Z (by decide)
def oU:BF:=λY H Q O=>(Kd λ(l q:AB)(W:List AE)(U:List AX)(S E:Int)(t:EE)=>Io (Y=[.ref l,.int S,.int E,.ref q]) (H l=AA (.lst W)) (Dy H W U) (EL U) (U.length<=10000) (Fe H q t) (∀r J D,An H J->H r=AG->J r=AA (.lst D)->Dy J D (CH S E t U)->Q (.ref r) J))
theorem Xd(T:BL AJ Af AI):T.qy.Ok BC P w Af base 2 oU:=by
  show T.qy.ok λnd _ _ _ _ _ hr H vs Q E h=>?_;obtain⟨l,q,J,C,S,E0,t,rfl,el,hw,up,hl,tq,k⟩:_:=h;show⟨_,(Ai (Aw 4 nd (BE (O0 T) hr #v[AD 0,Cj #v[AD 1]])) (Ai (Gj (CF (Kz (N9 (Bw Rk (AD 4) (DI (F4 (K:=AJ)) (by rfl) T.gw F8 #v[AD 0]) (Bs _)) (OA (Bw DH (BA AJ (DR AJ (AD 0) (AD 4)) AQ) (AD 1) (Bs _))))) (Ai (Aw 5 nd (DR AJ (AD 0) (AD 4))) (Ab (BD (AW HK (AW HK (HM (K9 (K:=AJ)) (AD 0) IT (Gi (AD 4))) (C9 #v[Cj #v[AD 1,BA AJ (AD 5) AQ,BE (XN T) hr #v[BA AJ (AD 5) AQ,AD 3]]])) (HM (K9 (K:=AJ)) (AD 0) (Gi (AW C5 (AD 4) AQ)) IT))))) Cd)) (Ab (BD (AW HK (AW HK (HM (K9 (K:=AJ)) (AD 0) IT (Gi (AD 4))) (C9 #v[Cj #v[AD 1,AD 2,AD 3]])) (HM (K9 (K:=AJ)) (AD 0) (Gi (AD 4)) IT)))))),?_⟩;have sz:Az=16777216:=Dj;have lx:=hw.gf;show⟨B6 rfl,λmk hmk=>?_⟩;show BK (o:=.tup [.int S]) hmk λH1 s1 emk=>?_;have D:=s1 _ _ el;have z:=hw.ab s1.tp;have s:Fe H1 q t:=s1 _ _ tq;show⟨l,mk,J,C.map MZ,[.inl S],rfl,D,z.hd,emk,λks hk i k m e1 e2=>?_,up.sd,λn hn b1 b2=>?_⟩
  . obtain⟨p,_,rfl⟩:_:=Ay.mp hk;match i,e1,e2 with|0,e1,e2=>cases e1;cases e2;rfl
  rw[Aq]at hn;have d1:∀(i:Nat)p,i<n->C[i]?=AA p->p.1<S:=λi p hi W=>by have:=b1 i (MZ p) hi (by rw[Bt,W];rfl);rw[show MZ p=[.inl p.1,.inl p.2.1]from rfl,Qt]at this;show AE4 this
  have d2:∀p,C[n]?=AA p->¬p.1<S:=λp W=>by have:=b2 n (MZ p) (Aj _) (by rw[Bt,W];rfl);rw[show MZ p=[.inl p.1,.inl p.2.1]from rfl,Qt]at this;show AE8 this
  clear b1 b2;show Gh (λx H'=>H'=H1/\(∀p,C[n]?=AA p->S<p.1)/\x=(fZ l S E0 q (n:Int) AG)) ?_ ?_
  . show⟨_,.inl (Ac D),_,rfl,IM (λe=>?_) λe=>⟨rfl,λp W=>absurd (BU.mp W).1 (LI e (λu1=>ABM.mpr (BY u1 (Bi lx.symm)))),rfl⟩⟩;have hnl:n<C.length:=by simp_all
    have W:C[n]?=AA C[n]:=Ck hnl;generalize C[n]=p at W;obtain⟨a,qp,ea,F,eqp⟩:_:=z.at W;have b:DQ J (n:Int)=AA (.ref a):=Ap ea;show⟨_,_,Ac D,b,_,_,Ar F,Ap (j:=0) rfl,rfl,_,rfl,EG (λy=>?_) λy=>⟨rfl,λp' c=>?_,rfl⟩⟩
    . show⟨_,_,Ac D,b,?_⟩;show⟨_,rfl,l,J,rfl,Ac D,λc1 N=>?_⟩;rw[TC J n (by simp_all)];show BK N λH2 s2 G=>?_;show⟨_,_,Ar (s2 _ _ F),Ap (j:=1) rfl,_,_,Ar (s2 _ _ F),Ap (j:=2) rfl,qp,q,_,t,rfl,s2 _ _ eqp,s2 _ _ s,λu H3 s3 hu tu=>?_⟩;show⟨B6 rfl,λv hv=>?_⟩;show BK hv λH4 s4 ev=>⟨B6 rfl,λc2 O=>?_⟩;show BK O λH5 f I=>?_;have Z:=s3.aa (s4.aa f);show⟨c1,c2,_,_,rfl,rfl,Z _ _ G,I,by rw[Er];simp;lia,λc3 R=>?_⟩;show BK R λH6 g L=>?_;have U:=s2.aa (Z.aa g);show⟨_,rfl,l,J,rfl,Ac (U _ _ D),λc4 X=>?_⟩;have cf:Gw J (AA ((n:Int)+1)) AG=J.drop (n+1):=Qn J (n+1) (fL.mp e);rw[cf];show BK X λH7 B M=>?_;show⟨c3,c4,_,_,rfl,rfl,B _ _ L,M,by rw[Bx,Er,M3];simp;lia,λc5 Y=>?_⟩;have r:=Bv (o:=.lst (J.take n++[.ref v]++J.drop (n+1))) Y;have V:=U.aa (B.aa r);have A:=f.aa (g.aa (B.aa r));show k c5 _ _ (s1.aa V) ((s1.aa (U.aa B)).bc Y) AY ?_;rw[W0 d1 W y];have d:=z.ab V.tp;show D7 (D7 (Pc n d) (.cons ⟨v,u,rfl,A _ _ ev,(s4.aa A) _ _ tu⟩ .nil)) (N5 (n+1) d)
    . rw[W]at c;cases c;have:=d2 _ W;have y:¬p.1=S:=y;lia
  intro x H1' hI;obtain⟨rfl,hno,rfl⟩:_:=hI;show⟨_,rfl,l,J,rfl,Ac D,λc1 N=>?_⟩;rw[TC J n (by simp_all)];show BK N λH2 s2 G=>⟨B6 rfl,λv hv=>?_⟩;show BK hv λH4 s4 ev=>⟨B6 rfl,λc2 O=>?_⟩;show BK O λH5 f I=>?_;have Z:=s4.aa f;show⟨c1,c2,_,_,rfl,rfl,Z _ _ G,I,by rw[Er];simp;lia,λc3 R=>?_⟩;show BK R λH6 g L=>?_;have U:=s2.aa (Z.aa g);show⟨_,rfl,l,J,rfl,Ac (U _ _ D),λc4 X=>?_⟩;rw[Qn J n (by simp_all)];show BK X λH7 B M=>?_;show⟨c3,c4,_,_,rfl,rfl,B _ _ L,M,by rw[Bx,Er,M3];simp;grind,λc5 Y=>?_⟩;have r:=Bv (o:=.lst (J.take n++[.ref v]++J.drop n)) Y;have V:=U.aa (B.aa r);have A:=f.aa (g.aa (B.aa r));show k c5 _ _ (s1.aa V) ((s1.aa (U.aa B)).bc Y) AY ?_;rw[Wx d1 hn hno];have d:=z.ab V.tp;show D7 (D7 (Pc n d) (.cons ⟨v,q,rfl,A _ _ ev,V _ _ s⟩ .nil)) (N5 n d)
def nC:BF:=λY H Q O=>(Kd λ(l:AB)(W:List AE)(U:List AX)(t a z d:Int)=>Io (Y=[.ref l,.int t,.int a,.int z,.int d]) (Sw t z d) (H l=AA (.lst W)) (Dy H W U) (EL U) (U.length<=5000) (∀r J D,An H J->H r=AG->J r=AA (.lst D)->Dy J D (X0 t a z d U)->Q (.ref r) J))
theorem jQ(T:BL AJ Af AI):T.vk.Ok BC P w Af base 3 nC:=by
 show T.vk.ok λnd O O O O O hr H vs Q E h=>?_;obtain⟨l,xs,ps,t,a,z,d,rfl,hW,el,hw,up,hl,k⟩:_:=h;show⟨_,(Ai (Aw 5 nd (IS (Ll (K:=AJ)) (by rfl) T.jg KY #v[AD 0])) (Ai (DB DK rfl (DA (K:=AJ) (BE (k6 T) hr #v[AD 1,AD 3,AD 4])) (Cc 6 nd) (Ab (Aw 5 nd (BE (Xd T) hr #v[AD 5,AD 6,AW C5 (AD 6) (AD 3),BE (Xh T) hr #v[AD 2]])))) (Ab (BD (AD 5))))),?_⟩;have sz:Az=16777216:=Dj;have sl:=(T8 hW).1;show⟨l,xs,rfl,.inl (Ac el),λtl htl=>?_⟩;show BK htl λH1 s1 etl=>?_;show⟨t,z,d,rfl,hW,λst H2 s2 hst est=>?_⟩;show⟨st,rfl,⟨_,Ac est⟩,GP (K:=AJ) (xs:=(Jd t z d).map AE.int) (λn σ H'=>(EB λ(o6:Option AE)(tl:AB)(xt:List AE)=>Ek (σ=(fX l t a z d tl o6)) (An H2 H') (H tl=AG) (H' tl=AA (.lst xt)) (Dy H' xt (((Jd t z d).take n).foldl (λl s=>CH s (s+z) (KH a) l) ps)))) ⟨AG,tl,xs,rfl,CQ _,htl,s2 _ _ etl,hw.ab (s1.aa s2).tp⟩ (λn σ H' O hh=>by obtain⟨_,_,_,_,s',_⟩:=hh;show Ac (s' _ _ est)) ?_ ?_⟩
 . intro n y σ H3 hy hI;lk;obtain⟨o6,tl',xt,rfl,s3,ht',et,hwt⟩:=hI;rw[Bt]at hy;obtain⟨sv,hsv,rfl⟩:=EA.mp hy;have hnl:n<(Jd t z d).length:=(BU.mp hsv).1;obtain⟨up',ln'⟩:=TQ (z:=z) (x:=KH a) (ss:=(Jd t z d).take n) up;k_in;rw[Er]at ln';show⟨a,rfl,λu H4 s4 hu tu=>?_⟩;show⟨tl',u,xt,_,sv,sv+z,KH a,rfl,s4 _ _ et,hwt.ab s4.tp,up',by lia,tu,λr H5 xr s5 hr5 er hwr=>?_⟩;show⟨_,r,xr,rfl,s3.aa (s4.aa s5),((s1.aa s2).aa (s3.aa s4)).bc hr5,er,by rw[YV hsv];show hwr⟩
 . intro σ H3 hI;obtain⟨o6,tl',xt,rfl,s3,ht',et,hwt⟩:_:=hI;rw[Aq,EH (Aj _)]at hwt;show k _ _ _ ((s1.aa s2).aa s3) ht' et hwt
def oK:BF:=λz H Q O=>(GX λ(l:AB)(W:List AE)(U:List AX)(J:Int)=>Ek (z=[.ref l,.int J]) (H l=AA (.lst W)) (Dy H W U) (U.length<=10000) (∀r b c D Y Z,An H D->H b=AG->H c=AG->D r=AA (.tup [.ref b,.ref c])->D b=AA (.lst Y)->D c=AA (.lst Z)->Dy D Y (Jc J U)->Dy D Z (Jb J U)->Q (.ref r) D))
theorem kR(T:BL AJ Af AI):T.yb.Ok BC P w Af base 1 oK:=by
  show T.yb.ok λnd O O O O O hr H vs Q E h=>?_;obtain⟨l,xs,ps,now,rfl,el,hw,hl,k⟩:_:=h;show⟨_,(Ai (Pg (i:=2) (osc:=DG Tt) [("now",1)] nd rfl (Fq rfl) rfl (DA (K:=AJ) (AD 0)) rfl rfl (by decide+kernel) (by decide+kernel) (by decide+kernel) ⟨rfl,rfl,trivial⟩ rfl (by decide+kernel) (λO O O O=>Mr (Bw PY (BA AJ (AD 0) AQ) (AD 1) (Bs _))) (λO O O O=>(AD 0))) (Ai (Pg (i:=3) (osc:=DG Tt) [("now",1)] nd rfl (Fq rfl) rfl (DA (K:=AJ) (AD 0)) rfl rfl (by decide+kernel) (by decide+kernel) (by decide+kernel) ⟨rfl,rfl,trivial⟩ rfl (by decide+kernel) (λO O O O=>Mr (Bw N4 (BA AJ (AD 0) AQ) (AD 1) (Bs _))) (λO O O O=>(AD 0))) (Ab (BD (Cj #v[AD 2,AD 3]))))),?_⟩;have sz:Az=16777216:=Dj;have lx:=hw.gf;show⟨l,rfl,⟨_,Ac el⟩,?_⟩;show Nq (K:=AJ) (xs:=xs) (λn τ acc H'=>(∃o,τ=[o,AA (.int now)])/\H'=H/\Dy H acc ((ps.take n).filter λp=>!EN now p)) (by lia) ⟨⟨AG,rfl⟩,rfl,.nil⟩ (λn τ acc H'⟨_,e,_⟩=>by rw[e];show Ac el) ?_ ?_
  . intro n y τ acc H' R1 R0 hy _ hI k1 k0;lk;obtain⟨⟨o,rfl⟩,rfl,hp⟩:=hI;obtain⟨p,b,q,ep,rfl,eb,eq⟩:=hw.ix hy;k_in;have fs:=Ov (p:=λp=>!EN now p) ep;show⟨_,_,Ar eb,Ap (j:=1) rfl,_,rfl,IM (λe=>?_) λe=>?_⟩;. rw[AE0 (by change(!Ae (now<p.2.1))=AK;rw[AE3 (ABJ.mpr e)];rfl)]at fs;show k1 _ _ _ ⟨⟨_,rfl⟩,rfl,by rw[fs];show D7 hp (.cons ⟨b,q,rfl,eb,eq⟩ .nil)⟩
    . rw[AEz (by change¬(!Ae (now<p.2.1))=AK;rw[AE1 (by simp_all)];decide),Dw]at fs;show k0 _ _ ⟨⟨_,rfl⟩,rfl,by rw[fs];show hp⟩
  intro τ xm H' lxm hI lm hlm;obtain⟨_,rfl,hpm⟩:_:=hI;rw[EH (Bi lx.symm)]at hpm;show BK hlm λH1 s1 elm=>?_;have el1:=s1 _ _ el;have hw1:=hw.ab s1.tp;show⟨l,rfl,⟨_,Ac el1⟩,?_⟩;show Nq (K:=AJ) (xs:=xs) (λn τ acc H'=>(∃o,τ=[o,AA (.int now)])/\H'=H1/\Dy H1 acc ((ps.take n).filter (EN now))) (by lia) ⟨⟨AG,rfl⟩,rfl,.nil⟩ (λn τ acc H'⟨_,e,_⟩=>by rw[e];show Ac el1) ?_ ?_
  . intro n y τ acc H2 R1 R0 hy _ hI k1 k0;lk;obtain⟨⟨o,rfl⟩,rfl,hp⟩:=hI;obtain⟨p,b,q,ep,rfl,eb,eq⟩:=hw1.ix hy;k_in;have fs:(ps.take (n+1)).filter (EN now)=(ps.take n).filter (EN now)++(if Ae (now<p.2.1)=AK then[p]else[]):=Ov (p:=EN now) ep;show⟨_,_,Ar eb,Ap (j:=1) rfl,_,rfl,IM (λe=>?_) λe=>?_⟩;. rw[AE0 (show Ae (now<p.2.1)=AK from AE1 e)]at fs;show k1 _ _ _ ⟨⟨_,rfl⟩,rfl,by rw[fs];show D7 hp (.cons ⟨b,q,rfl,eb,eq⟩ .nil)⟩
    . rw[AEz (by rw[AE6];show e),Dw]at fs;show k0 _ _ ⟨⟨_,rfl⟩,rfl,by rw[fs];show hp⟩
  intro τ xr H2 lxr hI lr hlr;obtain⟨_,rfl,hpr⟩:_:=hI;rw[EH (Bi lx.symm)]at hpr;show BK hlr λH3 s2 elr=>⟨B6 rfl,λr hr'=>?_⟩;have s3:=Bv (o:=.tup [.ref lm,.ref lr]) hr';show k r lm lr _ xm xr (s1.aa (s2.aa s3)) hlm (s1.bc hlr) AY ((s2.aa s3) _ _ elm) (s3 _ _ elr) (hpm.ab (s1.aa (s2.aa s3)).tp) (hpr.ab (s2.aa s3).tp)
def nP:BF:=λY H Q O=>(IG λ(l:AB)(W:List AE)(U:List AX)(t a m:Int)=>Io (Y=[.ref l,.int t,.int a,.int m]) (0<=m) (H l=AA (.lst W)) (Dy H W U) (IE U) (U.length<=5000) (∀r J D,An H J->H r=AG->J r=AA (.lst D)->Dy J D (Ca (t,t+m+1,KH a) U)->Q (.ref r) J))
theorem TN:∀{ns:List Int}{t:Int},ns.foldl D3 t∈t::ns/\∀a∈t::ns,ns.foldl D3 t<=a
  |[],t=>⟨.head _,λa h=>by rw[Bm.mp h];show fH _⟩|n::ns,t=>by
    obtain⟨V,J⟩:=TN (ns:=ns) (t:=D3 t n);have U:=J _ (.head _);change ns.foldl _ _∈_/\∀a∈_,ns.foldl _ _<=a;constructor
    . rcases CZ.mp V with h|h
      . rw[h];rcases ABE t n with q|q;.rw[ABH q];show .head _
        .rw[Int.min_eq_right q];show .tail _ (.head _)
      .show .tail _ (.tail _ h)
    . intro a D;rcases CZ.mp D with rfl|D;.show GB U (Int.min_le_left _ _)
      rcases CZ.mp D with rfl|D;.show GB U (fJ _ _)
      show J a (.tail _ D)
theorem TM:∀{ns:List Int}{t:Int},ns.foldl KR t∈t::ns/\∀a∈t::ns,a<=ns.foldl KR t
  |[],t=>⟨.head _,λa h=>by rw[Bm.mp h];show fH _⟩|n::ns,t=>by
    obtain⟨V,J⟩:=TM (ns:=ns) (t:=KR t n);have U:=J _ (.head _);change ns.foldl _ _∈_/\∀a∈_,a<=ns.foldl _ _;constructor
    . rcases CZ.mp V with h|h
      . rw[h];rcases ABE t n with q|q;.rw[Int.max_eq_right q];show .tail _ (.head _)
        .rw[Int.max_eq_left q];show .head _
      .show .tail _ (.tail _ h)
    . intro a D;rcases CZ.mp D with rfl|D;.show GB (ABB _ _) U
      rcases CZ.mp D with rfl|D;.show GB (Vy _ _) U
      show J a (.tail _ D)
theorem i7{ns:List Int}(D:S∈t::ns)(J:∀a∈t::ns,S<=a):S=ns.foldl D3 t:=ABA (J _ TN.1) (TN.2 _ D)
theorem iW{ns:List Int}(D:S∈t::ns)(J:∀a∈t::ns,a<=S):S=ns.foldl KR t:=ABA (TM.2 _ D) (J _ TM.1)
theorem jY(T:BL AJ Af AI):T.wk.Ok BC P w Af base 3 nP:=by
  show T.wk.ok λnd O O O O O hr H vs Q E h=>?_;obtain⟨l,xs,ps,t,a,m,rfl,m0,el,hw,ch,hl,k⟩:_:=h;show⟨_,(C6 (Pg (i:=4) (osc:=DG O5) [("time",1),("most",3)] nd rfl (Fq rfl) rfl (DA (K:=AJ) (AD 0)) rfl rfl (by decide+kernel) (by decide+kernel) (by decide+kernel) ⟨rfl,rfl,rfl,rfl,trivial⟩ rfl (by decide+kernel) (λO O O O=>Mr (Jl (BE (XZ T) hr #v[BA AJ (AD 0) AQ,BA AJ (AD 0) AQ,AD 1,AD 2]))) (λO O O O=>(AD 0))) (C6 (Pg (i:=5) (osc:=DG O5) [("time",1),("most",3)] nd rfl (Fq rfl) rfl (DA (K:=AJ) (AD 0)) rfl rfl (by decide+kernel) (by decide+kernel) (by decide+kernel) ⟨rfl,rfl,rfl,rfl,trivial⟩ rfl (by decide+kernel) (λO O O O=>Mr (L3 (Jl (BE (XZ T) hr #v[BA AJ (AD 0) AQ,BA AJ (AD 0) AQ,AD 1,AD 2])))) (λO O O O=>(AD 0))) (C6 (Aw 6 nd (DI (rK (K:=AJ) rfl) (by rfl) T.abb zG #v[(AW HK (C9 #v[AD 1]) (IQ (DG O5) [] trivial (DA (K:=AJ) (AD 4)) (λO O O O=>G0) (λO O O O=>(BA AJ (AD 0) AQ))))])) (C6 (Aw 7 nd (DI (rH (K:=AJ) rfl) (by rfl) T.zx cG #v[(AW HK (C9 #v[AW C5 (AW C5 (AD 1) (AD 3)) AQ]) (IQ (DG O5) [] trivial (DA (K:=AJ) (AD 4)) (λO O O O=>G0) (λO O O O=>(BA AJ (AD 0) AQ))))])) (C6 (Aw 8 nd (BE (Xh T) hr #v[AD 2])) (C6 (DB DK rfl (DA (K:=AJ) (AD 4)) (Cc 9 nd) (Ab (Aw 8 nd (BE (XN T) hr #v[AD 8,BA AJ (AD 9) AQ])))) (Ab (BD (BE (Xd T) hr #v[AD 5,AD 6,AD 7,AD 8]))))))))),?_⟩;have sz:Az=16777216:=Dj;have lx:=hw.gf;generalize ePP:((t,t+m+1,KH a):AX)=PP at k;have hmt:∀p:AX,(Ae (p.1-t<=m)&&Ae (t-(p.2.1-m-1)<=m))=EO PP p:=λp=>by rw[<-ePP];change _=(Ae (p.1<t+m+1)&&Ae (t<p.2.1));rw[show Ae (p.1-t<=m)=Ae (p.1<t+m+1)from AFG.mpr (by lia),show Ae (t-(p.2.1-m-1)<=m)=Ae (t<p.2.1)from AFG.mpr (by lia)]
  showλO O O O z1=>⟨l,rfl,⟨_,Ac el⟩,?_⟩;show Nq (K:=AJ) (xs:=xs) (λn τ acc H'=>(∃o,τ=[o,AA (.int t),AA (.int m)])/\H'=H/\Dy H acc ((ps.take n).filter (EO PP))) (by lia) ⟨⟨AG,rfl⟩,rfl,.nil⟩ (λn τ acc H'⟨_,e,_⟩=>by rw[e];show Ac el) ?_ ?_
  . intro n y τ acc H' R1 R0 hy _ hI k1 k0;lk;obtain⟨⟨o,rfl⟩,rfl,hp⟩:=hI;obtain⟨p,b,q,ep,rfl,eb,eq⟩:=hw.ix hy;k_in;show⟨_,_,Ar eb,Ap (j:=0) rfl,_,_,Ar eb,Ap (j:=1) rfl,_,_,_,_,rfl,?_⟩;rw[hmt];have fs:=Ov (p:=EO PP) ep;show⟨_,rfl,K6 (λhb=>?_) λhb=>?_⟩
    . rw[hb,AE0 rfl]at fs;show k1 _ _ _ ⟨⟨_,rfl⟩,rfl,by rw[fs];show D7 hp (.cons ⟨b,q,rfl,eb,eq⟩ .nil)⟩
    . rw[hb,AEz Dx,Dw]at fs;show k0 _ _ ⟨⟨_,rfl⟩,rfl,by rw[fs];show hp⟩
  intro τ xm H' lxm hI lm hlm;obtain⟨_,rfl,hpm⟩:_:=hI;rw[EH (Bi lx.symm)]at hpm;show BK hlm λH1 s1 elm=>?_;have hpm1:=hpm.ab s1.tp;have el1:=s1 _ _ el;have hw1:=hw.ab s1.tp;show z1 _ _ λO O O O z2=>⟨l,rfl,⟨_,Ac el1⟩,?_⟩;show Nq (K:=AJ) (xs:=xs) (λn τ acc H'=>(∃o,τ=[o,AA (.int t),AA (.int m)])/\H'=H1/\Dy H1 acc ((ps.take n).filter λp=>!EO PP p)) (by lia) ⟨⟨AG,rfl⟩,rfl,.nil⟩ (λn τ acc H'⟨_,e,_⟩=>by rw[e];show Ac el1) ?_ ?_
  . intro n y τ acc H2 R1 R0 hy _ hI k1 k0;lk;obtain⟨⟨o,rfl⟩,rfl,hp⟩:=hI;obtain⟨p,b,q,ep,rfl,eb,eq⟩:=hw1.ix hy;k_in;show⟨_,_,Ar eb,Ap (j:=0) rfl,_,_,Ar eb,Ap (j:=1) rfl,_,_,_,_,rfl,?_⟩;rw[hmt];have fs:=Ov (p:=λp=>!EO PP p) ep;cases hb:EO PP p with |true=> rw[hb,AEz (by decide),Dw]at fs;show⟨_,rfl,k0 _ _ ⟨⟨_,rfl⟩,rfl,by rw[fs];show hp⟩⟩|false=>rw[hb,AE0 (by decide)]at fs;show⟨_,rfl,k1 _ _ _ ⟨⟨_,rfl⟩,rfl,by rw[fs];show D7 hp (.cons ⟨b,q,rfl,eb,eq⟩ .nil)⟩⟩
  intro τ xr H2 lxr hI lr hlr;obtain⟨_,rfl,hpr⟩:_:=hI;rw[EH (Bi lx.symm)]at hpr;show BK hlr λH3 s2 elr=>?_;have hpr2:=hpr.ab s2.tp;have hpm2:=hpm1.ab s2.tp;have elm2:=s2 _ _ elm;have s02:=s1.aa s2;have lmm:(ps.filter (EO PP)).length<=ps.length:=FY _ _;have lxm2:xm.length<=5000:=by rw[hpm.gf];show Ag lmm hl
  show z2 _ _ λO O O O z3=>⟨B6 rfl,λq1 hq1=>?_⟩;show BK hq1 λH4 s3 eq1=>?_;show⟨lm,rfl,⟨_,Ac (s3 _ _ elm2)⟩,?_⟩;show IL (K:=AJ) (xs:=xm) (λn τ acc H'=>(∃o,τ=[o])/\H'=H4/\acc=((ps.filter (EO PP)).take n).map λp=>AE.int p.1) (by lia) ⟨⟨AG,rfl⟩,rfl,rfl⟩ (λn τ acc H'⟨_,e,_⟩=>by rw[e];show Ac (s3 _ _ elm2)) ?_ ?_;. intro n y τ acc H5 R1 hy _ hI k1;lk;obtain⟨⟨o,rfl⟩,rfl,rfl⟩:=hI;obtain⟨p,b,q,ep,rfl,eb,eq⟩:=(hpm2.ab s3.tp).ix hy;k_in;show⟨_,_,Ar eb,Ap (j:=0) rfl,k1 _ _ _ ⟨⟨_,rfl⟩,rfl,by rw[D2,ep,CW];rfl⟩⟩
  intro τ acc H5 _ hI q2 hq2;obtain⟨_,rfl,rfl⟩:_:=hI;rw[EH (by rw[hpm.gf];show Aj _)];show BK hq2 λH6 s4 eq2=>?_;show⟨q1,q2,_,_,rfl,rfl,s4 _ _ eq1,eq2,by simp;lia,λq3 hq3=>?_⟩;show BK hq3 λH7 s5 eq3=>?_;have eq3:H7 q3=AA (.lst ((t::(ps.filter (EO PP)).map (·.1)).map AE.int)):=by rw[eq3,FO,Dh];rfl
  show⟨q3,_,rfl,Ac eq3,by simp,λS hS1 hS2=>?_⟩;have s37:=s3.aa (s4.aa s5);show z3 _ _ λO O O O z4=>⟨B6 rfl,λq4 hq4=>?_⟩;show BK hq4 λH8 s6 eq4=>?_;have s38:=s37.aa s6;show⟨lm,rfl,⟨_,Ac (s38 _ _ elm2)⟩,?_⟩;show IL (K:=AJ) (xs:=xm) (λn τ acc H'=>(∃o,τ=[o])/\H'=H8/\acc=((ps.filter (EO PP)).take n).map λp=>AE.int p.2.1) (by lia) ⟨⟨AG,rfl⟩,rfl,rfl⟩ (λn τ acc H'⟨_,e,_⟩=>by rw[e];show Ac (s38 _ _ elm2)) ?_ ?_
  . intro n y τ acc H9 R1 hy _ hI k1;lk;obtain⟨⟨o,rfl⟩,rfl,rfl⟩:=hI;obtain⟨p,b,q,ep,rfl,eb,eq⟩:=(hpm2.ab s38.tp).ix hy;k_in;show⟨_,_,Ar eb,Ap (j:=1) rfl,k1 _ _ _ ⟨⟨_,rfl⟩,rfl,by rw[D2,ep,CW];rfl⟩⟩
  intro τ acc H9 _ hI q5 hq5;obtain⟨_,rfl,rfl⟩:_:=hI;rw[EH (by rw[hpm.gf];show Aj _)];show BK hq5 λHA s7 eq5=>?_;show⟨q4,q5,_,_,rfl,rfl,s7 _ _ eq4,eq5,by simp;lia,λq6 hq6=>?_⟩;show BK hq6 λHB s8 eq6=>?_;have eq6:HB q6=AA (.lst (((t+m+1)::(ps.filter (EO PP)).map (·.2.1)).map AE.int)):=by rw[eq6,FO,Dh];rfl
  show⟨q6,_,rfl,Ac eq6,by simp,λE1 hE1 hE2=>?_⟩;have s3B:=s38.aa (s7.aa s8);show z4 _ _ λO O O O z5=>⟨a,rfl,λu HC s9 hu tu=>z5 _ _ ?_⟩;have s3C:=s3B.aa s9;showλO O O O z6=>⟨lm,rfl,⟨_,Ac (s3C _ _ elm2)⟩,GP (K:=AJ) (xs:=xm) (λn σ H'=>E2 (λ(o9:Option AE)(tl:AB)=>σ=(fY l t a m lm lr S E1 tl o9)) (λO O=>An HC H') (λO tl=>Fe H' tl (((ps.filter (EO PP)).take n).foldl (λt x=>Gs t x.2.2) (KH a)))) ⟨AG,u,rfl,CQ _,tu⟩ (λn σ H' O hh=>by obtain⟨_,_,_,s',_⟩:=hh;show Ac ((s3C.aa s') _ _ elm2)) ?_ ?_⟩
  . intro n y σ HD hy hI;lk;obtain⟨o9,tl,rfl,sD,etl⟩:=hI;obtain⟨p,b,q,ep,rfl,eb,eq⟩:=(hpm2.ab (s3C.aa sD).tp).ix hy;k_in;show⟨_,_,Ar eb,Ap (j:=2) rfl,tl,q,_,_,rfl,etl,eq,λr HE sE hr' tr=>⟨_,r,rfl,sD.aa sE,?_⟩⟩;rw[YV ep];show tr
  . intro σ HD hI;obtain⟨o9,tl,rfl,sD,etl⟩:_:=hI;rw[hpm.gf,EH (Aj _)]at etl;have s3D:=s3C.aa sD;have eS:=i7 hS1 hS2;have eE:=iW hE1 hE2;show z6 _ _ ⟨lr,tl,xr,_,S,E1,_,rfl,s3D _ _ elr,hpr2.ab s3D.tp,(S7 ch).sublist Mx,by have:=FY (λp=>!EO PP p) ps;lia,etl,λr HE xe sE hre ere hpe=>?_⟩;show k r HE xe (s02.aa (s3D.aa sE)) ((s02.aa s3D).bc hre) ere ?_;have me:=Tb (l:=ps) (p:=PP) (by rw[<-ePP];change t<t+m+1;show Vz (Qa m0) (by decide)) ch;rw[<-me];rw[eS,eE]at hpe;subst ePP;show hpe
def oQ:BF:=λY H Q O=>(MP λ(p l i:AB)(W:List AE)(U:List AX)(s:AU)(t a:Int)(y:AF)=>MK (Y=[.ref p,.ref l,.ref i]) (Dl H p s) (s.ig) (s.gd U) (H l=AA (.lst W)) (Dy H W U) (U.length<=5000) (H i=AA (.tup [.int t,.str y,.int a])) (0<=t) (t<=1000000000) (∀r J D,An H J->H r=AG->J r=AA (.lst D)->Dy J D (s.ie t a U)->Q (.ref r) J))
theorem kW(T:BL AJ Af AI):T.yd.Ok BC P w Af base 4 oQ:=by show T.yd.ok λR X X X X X A H S Q E h=>?_;obtain⟨p,l,i,C,B,N,t,a,y,rfl,W,U,Y,V,hw,Z,J,O,t1,k⟩:_:=h;show⟨_,(Ai (CF (Bw DH (BA AJ (AD 0) AQ) Dq (Bs _)) (Ab (BD (BE (jQ T) A #v[AD 1,BA AJ (AD 2) AQ,BA AJ (AD 2) AQ,BA AJ (AD 0) AQ,BA AJ (AD 0) AQ]))) Cd) (Ab (BD (BE (jY T) A #v[AD 1,BA AJ (AD 2) AQ,BA AJ (AD 2) AQ,BA AJ (AD 0) AQ])))),?_⟩;cases N with|each n f M z d=>have D:=W;obtain⟨F,G,I,L⟩:_:=U;show⟨_,_,Ar D,Ap (j:=0) rfl,rfl,_,rfl,Ui (λX=>?_) λq=>absurd rfl q⟩;show⟨_,_,Ar J,Ap (j:=0) rfl,_,_,Ar J,Ap rfl,_,_,Ar D,Ap rfl,_,_,Ar D,Ap rfl,l,C,B,t,a,z,d,rfl,⟨F,G,I,L,O,t1⟩,V,hw,Y.1,Z,k⟩|gap n f M m=>have D:=W;show⟨_,_,Ar D,Ap rfl,rfl,_,rfl,Ui (λq=>absurd q (by decide+kernel)) λX=>?_⟩;show⟨_,_,Ar J,Ap (j:=0) rfl,_,_,Ar J,Ap (j:=2) rfl,_,_,Ar D,Ap (j:=4) rfl,l,C,B,t,a,m,rfl,U,V,hw,Y,Z,k⟩|_=>cases U
def Md(D:AF)(t:EE):Int:=if D="count"then t.1 else if D="sum"then t.2.1 else if D="least"then t.2.2.1 else t.2.2.2
def pP:BF:=λJ H Q O=>(EB λ(D:AF)(q:AB)(t:EE)=>JX (J=[.str D,.ref q]) (D∈GY) (Fe H q t) (Q (.int (Md D t)) H))
theorem lG(T:BL AJ Af AI):T.zo.Ok BC P w Af base 1 pP:=by
 show T.zo.ok λY S S S S S N H Z Q E h=>?_;obtain⟨J,q,t,rfl,W,z,k⟩:_:=h;show⟨_,(Ab (BD (BA AJ (AD 1) (JM F.plainAttrs_tuple ACr F.type_tuple_index (uA) (Pe (v:=.ref _) (by rfl) T.aaa rfl) #v[AD 0])))),?_⟩;have M:=T.aag H;have Z:Md "count" t=t.1/\Md "sum" t=t.2.1/\Md "least" t=t.2.2.1/\Md "greatest" t=t.2.2.2:=⟨rfl,rfl,rfl,rfl⟩;lk;obtain⟨O,R,v2,v3⟩:=Z;have Y:GY.Nodup:=by decide+kernel
 obtain⟨j,G,D⟩:=Gk.mp W;k_in;have D:GY[j]?=AA J:=by rw[<-D];show Ck G
 have U:∀m,m<j->GY[m]?≠AA J:=λm I e=>by obtain⟨C,A⟩:=BU.mp D;obtain⟨F,B⟩:=BU.mp e;show(Gn.mp Y) m j F C I (B.trans A.symm)
 have L:DQ [AE.int t.1,.int t.2.1,.int t.2.2.1,.int t.2.2.2] (j)=AA (.int (Md J t)):=by match j,D with |0,e=>cases e;rfl|1,e=>cases e;rfl|2,e=>cases e;rfl|3,e=>cases e;rfl
 show⟨.inr (.inl ⟨rfl,T.aad⟩),_,GY,J,j,rfl,rfl,M,D,U,_,_,Ar z,L,k⟩
def AU.so:AU->AF|AU.gap _ _ s _|AU.each _ _ s _ _=>s|_=>""
theorem Dl.abf(h:Dl H p s)(D:s.ig):Cs AJ H p (s.abd.map Au)/\DQ (s.abd.map Au) 1=AA (.str s.nm)/\DQ (s.abd.map Au) 3=AA (.str s.so):=by show⟨Ar h,?_⟩;cases s with|gap n f J m=>show⟨Ap rfl,Ap rfl⟩|each n f J z d=>show⟨Ap rfl,Ap rfl⟩|_=>cases D
def NU(s:AU)(z:AF)(p:AX):List AN:=[.inr s.nm,.inr z,.inl p.1,.inl p.2.1,.inl (Md s.so p.2.2)]
def lJ(z:AF)(p:AX):List AN:=[.inl p.2.1,.inr z,.inl p.1]
def oV:BF:=λU H Q O=>(IF λ(p a:AB)(s:AU)(z:AF)(J:AX)=>Im (U=[.ref p,.str z,.ref a]) (Dl H p s) (s.ig) (s.so∈GY) (MQ H (.ref a) J) (∀r D,An H D->H r=AG->D r=AA (.tup ((NU s z J).map Au))->Q (.ref r) D))
theorem kZ(T:BL AJ Af AI):T.ye.Ok BC P w Af base 2 oV:=by show T.ye.ok λC O O O O O D H I Q E h=>?_;lk;obtain⟨p,a,G,z,F,rfl,Y,Z,U,⟨_,q,e,J,W⟩,k⟩:=h;cases e;k_in;show⟨_,(Ab (BD (Cj #v[BA AJ (AD 0) AQ,AD 1,BA AJ (AD 2) AQ,BA AJ (AD 2) AQ,BE (lG T) D #v[BA AJ (AD 0) AQ,BA AJ (AD 2) AQ]]))),?_⟩;obtain⟨V,A,B⟩:_:=Y.abf Z;show⟨_,_,V,A,_,_,Ar J,Ap rfl,_,_,Ar J,Ap rfl,_,_,V,B,_,_,Ar J,Ap rfl,_,q,_,rfl,U,W,B6 rfl,λr D=>k r _ (Bv D) D AY⟩
def oI:BF:=λJ H Q O=>(GX λ(a:AB)(s:AU)(z:AF)(D:AX)=>ML (J=[.ref a]) (H a=AA (.tup ((NU s z D).map Au))) (∀r,H r=AG->Q (.ref r) (AM H r (.tup ((lJ z D).map Au)))))
theorem kP(T:BL AJ Af AI):T.vi.Ok BC P w Af base 1 oI:=by show T.vi.ok λU O O O O O J H Y Q E h=>?_;obtain⟨a,W,z,V,rfl,D,k⟩:_:=h;show⟨_,(Ab (BD (Cj #v[BA AJ (AD 0) AQ,BA AJ (AD 0) AQ,BA AJ (AD 0) AQ]))),?_⟩;show⟨_,_,Ar D,Ap rfl,_,_,Ar D,Ap rfl,_,_,Ar D,Ap rfl,B6 rfl,k⟩
structure Ja(ex:List AB)(H:AH)(d:AB)(g:AF->List AX)(kvs:List (AN×AE)):Prop where
 ah:H d=AA (.dK kvs)nd:(kvs.map (·.1)).Nodup
 ri:∀q∈kvs,∃(key:AF)(r:AB)(xs:List AE),q=(.inr key,.ref r)/\r∉ex/\H r=AA (.lst xs)/\Dy H xs (g key)/\xs≠[]yu:∀key,g key≠[]->(.inr key:AN)∈kvs.map (·.1)
theorem Ja.ab(h:Ja ex H d g kvs)(W:H' d=AA (.dK kvs))(Y:∀b xs,b∉ex->H b=AA (.lst xs)->H' b=AA (.lst xs))(t:Bk H H'):Ja ex H' d g kvs:=⟨W,h.nd,λq U=>by obtain⟨D,r,xs,e,n,J,w⟩:_:=h.ri q U;show⟨D,r,xs,e,n,Y _ _ n J,w.1.ab t,w.2⟩,h.yu⟩
theorem Ja.ag(h:Ja ex H d g kvs)(s:An H H'):Ja ex H' d g kvs:=h.ab (s _ _ h.ah) (λO O O e=>s _ _ e) s.tp
theorem Ja.at(h:Ja ex H d g kvs)(key:AF):(BQ kvs (.inr key)=AG/\g key=[])\/∃r xs,BQ kvs (.inr key)=AA (.ref r)/\r∉ex/\H r=AA (.lst xs)/\Dy H xs (g key):=by cases J:BQ kvs _ with
 |none=> show .inl ⟨rfl,?_⟩;cases Y:g _ with |nil=>rfl|cons a b=> obtain⟨v,D⟩:=Mv (h.yu _ (by rw[Y];simp));rw[J]at D;cases D
 |some v=>lk;obtain⟨U,r,xs,e,n,W,w⟩:=h.ri _ (GS J);cases e;k_in;show .inr ⟨r,xs,rfl,n,W,w.1⟩
def ER(g:AF->List AX)(key:AF)(ps:List AX):AF->List AX:=λk=>if k=key then ps else g k
theorem J8:ER g key ps key=ps:=AE0 rfl
theorem HZ(h:k≠key):ER g key ps k=g k:=AEz h
theorem Ja.ie(h:Ja ex H d g kvs)(K:r∉ex)(F:H r=AA (.lst xs))(hw:Dy H xs ps)(L:xs≠[]):Ja ex (AM H d (.dK (Bh kvs (.inr key) (.ref r)))) d (ER g key ps) (Bh kvs (.inr key) (.ref r)):=by
  have A:∀{b:AB}{E:List AE},H b=AA (.lst E)->(AM H d (.dK (Bh kvs (.inr key) (.ref r)))) b=AA _:=λ{b E}e=>by rw[AV λz=>by rw[z,h.ah]at e;cases e];show e
  have B:Bk H (AM H d (.dK (Bh kvs (.inr key) (.ref r)))):=(Gg H).gy h.ah λxs=>by intro z;cases z
  show⟨AY,Mo h.nd,λq I=>?_,λk J=>?_⟩
  . rcases N0 I with rfl|⟨G,W⟩;.show⟨key,r,xs,rfl,K,A F,by rw[J8];show hw.ab B,L⟩
    . obtain⟨D,M,Z,e,n,U,C⟩:_:=h.ri q G;subst e;have J:D≠key:=λz=>W (by rw[z]);show⟨_,M,Z,rfl,n,A U,by rw[HZ J];show C.1.ab B,C.2⟩
  . by_cases e:k=key
    . subst e;lk;obtain⟨v,Y⟩:∃v,BQ (Bh kvs _ _) _=AA v:=⟨_,by rw[IW,AE0 rfl]⟩;k_in;show Ay.mpr ⟨_,GS Y,rfl⟩
    . rw[HZ e]at J;obtain⟨v,Y⟩:=Mv (h.yu k J);have:BQ (Bh kvs (.inr key) (.ref r)) (.inr k)=AA v:=by rw[IW,AEz (λz=>e (Fc z))];show Y
      show Ay.mpr ⟨_,GS this,rfl⟩
theorem iF:∀{l:List AX},CH s e x l≠[]
 |[]=>λh=>(by cases h)|b::r=>by
  change(if b.1<s then _ else if b.1=s then _ else _)≠[];split;.showλh=>(by cases h)
  .split<;>showλh=>(by cases h)
theorem XD:∀{l:List AX}{p:AX},Ca p l≠[]
  |[],p=>λh=>(by cases h)|b::r,p=>by
    change(if b.2.1<=p.1 then _ else if p.2.1<=b.1 then _ else Ca _ r)≠[];split;.showλh=>(by cases h)
    . split;.showλh=>(by cases h)
      .show XD
theorem Wj:∀{ss:List Int}{l:List AX},(ss≠[]\/l≠[])->ss.foldl (λl s=>CH s (s+z) x l) l≠[]|[],l,h=>h.elim (λh=>absurd rfl h) id|s::ss,l,_=>Wj (ss:=ss) (.inr iF)
theorem fW{s:AU}(J:s.ig)(W:0<=t)(Y:t<=1000000000):s.ie t a l≠[]:=by cases s with
 |gap n f U m=>show XD|each n f U z d=>
  show Wj (.inl λe=>?_);have e:=AE2 My e;unfold Jd at e;rw[Aq,OI]at e;obtain⟨D,V,Z,A⟩:_:=J;have f:=(Qo (t:=t) (z:=z) D).2;unfold Fo at e;split at e
  . have:0<=(t+1-((t-z)/d+1)*d-1)/d:=AA6 (by omega) (Kb D);have e:((t+1-((t-z)/d+1)*d-1)/d+1).toNat=0:=e;omega
  .omega|_=>show J.elim
section
variable{s:AU}
structure EC(ad:Br)(ex:List AB)(H:AH)(x p d:AB)(s:AU)(g:AF->List AX)(kvs:List (AN×AE)):Prop where
 au:∃dx,H x=AA (.ins ad.bb dx [("step",.ref p),("rows",.ref d)])ku:Dl H p s
 ar:Ja ex H d g kvs
end
theorem EC.ag{st:AU}(h:EC AI ex H x p d st g kvs)(s:An H H'):EC AI ex H' x p d st g kvs:=by obtain⟨⟨D,e⟩,st,r⟩:_:=h;show⟨⟨D,s _ _ e⟩,s _ _ st,r.ag s⟩
theorem EC.ze{st:AU}(h:EC AI ex H x p d st g kvs)(s:BM d H H')(r:Ja ex H' d J D):EC AI ex H' x p d st J D:=by
 obtain⟨⟨W,e⟩,st,U⟩:_:=h;have Y:x≠d:=λz=>by rw[z,U.ah]at e;cases e
 have Z:p≠d:=λz=>by have st:H p=_:=st;rw[z,U.ah]at st;cases st
 show⟨⟨W,s _ _ Y e⟩,s _ _ Z st,r⟩
def nN(D:Br):BF:=λU H Q O=>(EB λ(x J p:AB)=>ML (U=[.ref x,.ref p]) (H x=AA (.ins D.bb J [])) (∀d,H d=AG->Q .non (AM (AM (AM H x (.ins D.bb J [("step",.ref p)])) d (.dK [])) x (.ins D.bb J [("step",.ref p),("rows",.ref d)]))))
theorem jZ(T:BL AJ Af AI):T.kc.Ok BC P w Af base 1 (nN AI):=by
 show T.kc.ok λV O O O O O U H W Q E h=>?_;obtain⟨x,J,p,rfl,e,k⟩:_:=h;show⟨_,(Ai (FH (AD 0) (AD 1) rfl) (Ab (FH (AD 0) Mq rfl))),?_⟩;show⟨x,_,J,[],rfl,e,T.cb,T.mj,by decide,?_⟩;showλd D=>⟨x,_,J,[("step",.ref p)],rfl,?_,T.cb,T.cv,(by change 1<1000;decide),?_⟩;.rw[AV (BH AY D)];show AY
 . show k d ?_;rw[AV (BH AY D).symm]at D;show D
def nO(Z:Br):BF:=λz H Q O=>(MP λ(Y:List AB)(x p d q:AB)(U:AU)(g:AF->List AX)(J:List (AN×AE))(i:AO)=>MK (z=[.ref x,.ref q]) (EC Z Y H x p d U g J) ((∀c∈Y,∃o,H c=AA o)) (U.ig) (U.gd (g i.2.1)) (0<=i.1) (i.1<=1000000000) (H q=AA (.tup [.int i.1,.str i.2.1,.int i.2.2])) ((g i.2.1).length<=5000) (J.length<=10000) (∀W D,BM d H W->EC Z Y W x p d U (ER g i.2.1 (U.ie i.1 i.2.2 (g i.2.1))) D->D.length<=J.length+1->Q .non W))
theorem j8(T:BL AJ Af AI):T.tw.Ok BC P w Af base 5 (nO AI):=by
 show T.tw.ok λnd _ _ _ _ _ Y H vs Q E h=>?_;obtain⟨u,x,p,d,q,st,g,W,⟨t,D,a⟩,rfl,M,O,j,v,l,t1,i,lg,lk,k⟩:_:=h;show⟨_,(Ai (Aw 2 nd (BA AJ (AD 1) AQ)) (Ab (KP Y.u1 (BP (AD 0) rfl) (AD 2) (BE (kW T) Y #v[BP (AD 0) rfl,Rl Y.u1 (BP (AD 0) rfl) (AD 2) (C9 Ea) ⟨rfl,rfl,rfl,rfl⟩,AD 1]) rfl))),?_⟩;obtain⟨dx,f⟩:=M.au;show⟨_,_,Ar i,Ap rfl,?_⟩;have S:Lg H d:=.inl ⟨W,.inl M.ar.ah⟩;show⟨_,⟨f,T.cb,T.mj,rfl⟩,_,⟨f,T.cb,T.cv,rfl⟩,d,rfl,S,Bc _,λs N=>?_⟩;show BK N λc s1 C=>?_;have J:=M.ag s1;lk;obtain⟨X,Z,L,G,hw⟩:∃(r:AB)(Z:List AE),(BQ W _).getD _=.ref r/\c r=AA (.lst Z)/\Dy c Z (g D):=by
  rcases J.ar.at D with⟨B,n⟩|⟨r,Z,B,_,G,hw⟩;.show⟨s,[],by rw[B];rfl,C,by rw[n];show .nil⟩
  .show⟨r,Z,by rw[B];rfl,G,hw⟩
 k_in;show⟨_,Me (k:=Bj D) J.ar.ah,?_⟩;rw[L];show⟨p,X,q,Z,g D,st,t,a,D,rfl,J.ku,j,v,G,hw,lg,s1 _ _ i,l,t1,λr H2 xs' s2 Y I A=>?_⟩;have U:=J.ag s2;obtain⟨m,F⟩:=U.au;show⟨_,⟨F,T.cb,T.cv,rfl⟩,d,_,rfl,UH.k (k:=Bj D) U.ar.ah (FR lk (by decide)),?_⟩;have R:r∉u:=λy=>by obtain⟨o,e⟩:=O r y;rw[s1 _ _ e]at Y;cases Y
 show k _ _ ((((s1.aa s2).x d)).gy) (U.ze zzu (U.ar.ie R I A λz=>fW j l t1 (bL (by rw[<-A.gf,z];rfl)))) (by have:=Rc W (.inr D) (.ref r);assumption)
theorem Ja.yx(h:Ja ex H d g kvs)(key:AF):Ja ex (AM H d (.dK (Cb kvs (.inr key)))) d (ER g key []) (Cb kvs (.inr key)):=by
 have G:∀{b:AB}{E:List AE},H b=AA (.lst E)->(AM H d (.dK (Cb kvs (.inr key)))) b=AA _:=λ{b E}e=>by rw[AV λz=>by rw[z,h.ah]at e;cases e];show e
 have K:Bk H (AM H d (.dK (Cb kvs (.inr key)))):=(Gg H).gy h.ah λL=>by intro z;cases z
 have U:∀{q:AN×AE},q∈Cb _ _↔q∈kvs/\q.1≠.inr key:=λ{q}=>by unfold Cb;rw[D1,AE6]
 show⟨AY,h.nd.sublist (ABT _ Mx),λq Z=>?_,λk D=>?_⟩
 . lk;obtain⟨F,Y⟩:=U.mp Z;obtain⟨J,I,A,e,n,W,C⟩:=h.ri q F;k_in;subst e;have D:J≠key:=λz=>Y (by rw[z]);show⟨_,I,A,rfl,n,G W,by rw[HZ D];show C.1.ab K,C.2⟩
 . have e:k≠key:=λz=>D (by rw[z];show J8);rw[HZ e]at D;obtain⟨q,Z,B⟩:_:=Ay.mp (h.yu k D);show Ay.mpr ⟨q,U.mpr ⟨Z,by rw[B];showλz=>e (Fc z)⟩,B⟩
theorem mB:ER (ER g key a) key b=ER g key b:=by
 funext k;by_cases e:k=key;.rw[e,J8,J8]
 .rw[HZ e,HZ e,HZ e]
def FV:Option Int->List AX->List AX|AG,J=>J|AA D,J=>Jc D J
def Em:Option Int->List AX->List AX|AG,_=>[]|AA D,J=>Jb D J
def Kk:Option Int->AE|AG=>.non|AA n=>.int n
theorem iJ{kvs:List (AN×AE)}:∀k,k≠k0->k∈kvs.map (·.1)->k∈(Cb kvs k0).map (·.1):=λk D h=>by obtain⟨q,J,rfl⟩:_:=Ay.mp h;show Ay.mpr ⟨q,D1.mpr ⟨J,AE1 D⟩,rfl⟩
theorem iK{kvs:List (AN×AE)}:∀k,k∈kvs.map (·.1)->k∈(Bh kvs k0 v).map (·.1):=λk h=>by
 lk;obtain⟨u,D⟩:=Mv h;have:∃y,BQ (Bh kvs k0 v) k=AA y:=by
  rw[IW];split;.show⟨_,rfl⟩
  .show⟨_,D⟩
 obtain⟨y,J⟩:=this;k_in;show Ay.mpr ⟨_,GS J,rfl⟩
def pB(z:Br):BF:=λC H Q O=>(MP λ(Z:List AB)(x p d:AB)(A:AU)(D:AF)(g:AF->List AX)(J:List (AN×AE))(W:Option Int)=>Io (C=[.ref x,.str D,Kk W]) (EC z Z H x p d A g J) ((∀c∈Z,∃o,H c=AA o)) ((.inr D:AN)∈J.map (·.1)) ((g D).length<=10000) (J.length<=1000) (∀Y r B U,BM d H Y->EC z Z Y x p d A (ER g D (Em W (g D))) U->Y r=AA (.lst B)->Dy Y B (FV W (g D))->U.length<=J.length->(∀k,k≠.inr D->k∈J.map (·.1)->k∈U.map (·.1))->Q (.ref r) Y))
theorem k8(T:BL AJ Af AI):T.qo.Ok BC P w Af base 2 (pB AI):=by
  show T.qo.ok λnd O O O O O hr H vs Q E h=>?_;obtain⟨ex,x,p,d,st,key,g,kvs,now,rfl,gr,hex,hg,lg,lk,k⟩:_:=h;show⟨_,(Ai (Aw 3 nd (Zt (BP (AD 0) rfl) (AD 1) ⟨rfl,rfl,rfl,rfl⟩)) (Ai (CF (Bw uJ (AD 2) N7 (Bs _)) (Ab (BD (AD 3))) Cd) (Ai (Aw 4 nd (BE (kR T) hr #v[AD 3,AD 2])) (Ai (Gj (CF (Bw N4 (DI (F4 (K:=AJ)) (by rfl) T.gw F8 #v[BA AJ (AD 4) AQ]) AQ (Bs _)) (Ab (KP hr.u1 (BP (AD 0) rfl) (AD 1) (BA AJ (AD 4) AQ) rfl)) Cd)) (Ab (BD (BA AJ (AD 4) AQ))))))),?_⟩;have sz:Az=16777216:=Dj;obtain⟨dx,eo⟩:=gr.au;have isd:Lg H d:=.inl ⟨kvs,.inl gr.ar.ah⟩;rcases gr.ar.at key with⟨e1,_⟩|⟨r,xs,e1,hrx,er,hw⟩;. obtain⟨v,hv⟩:=Mv hg;rw[e1]at hv;cases hv
  show⟨_,⟨eo,T.cb,T.cv,rfl⟩,d,rfl,isd,kvs,.inr key,.ref r,gr.ar.ah,rfl,e1,?_⟩;have rd:=gr.ar.yx key;have sx1:BM d H (AM H d (.dK (Cb kvs (.inr key)))):=zzu
  have gr1:=gr.ze sx1 rd;have nrd:r≠d:=λz=>by rw[z,gr.ar.ah]at er;cases er
  have er1:=sx1 _ _ nrd er;have hw1:=hw.ab (sx1.tp gr.ar.ah nofun);have ll:(Cb kvs (.inr key)).length<=kvs.length:=FY _ _;generalize AM H d (.dK (Cb kvs (.inr key)))=H1 at sx1 gr1 er1 hw1⊢;have lt1:BQ (Cb kvs (.inr key)) (.inr key)=AG->(Cb kvs (.inr key)).length<kvs.length:=λO=>by
    have hm:=GS e1;have hne:Cb kvs (.inr key)≠kvs:=λz=>by rw[<-z]at hm;unfold Cb at hm;have:=(D1.mp hm).2;simp at this
    rcases b0 (Cb kvs (.inr key)).length kvs.length with h|h;.show h
    .show absurd (AD4 (Mx) h) hne
  have lt0:BQ (Cb kvs (.inr key)) (.inr key)=AG:=by cases q:BQ (Cb kvs (.inr key)) (.inr key)with|none=>rfl|some v=> have:=(D1.mp (GS q)).2;rw[AE6]at this;show absurd rfl this
  have kd1:=iJ (kvs:=kvs) (k0:=.inr key);generalize Cb kvs (.inr key)=kvs1 at gr1 ll lt1 lt0 kd1;cases now with |none=>show⟨rfl,_,rfl,tH rfl (k H1 r xs kvs1 sx1 gr1 er1 hw1 ll kd1)⟩|some now=>
    show⟨rfl,_,rfl,tI nofun ⟨r,xs,g key,now,rfl,er1,hw1,by assumption,λq r1 r2 H2 x1 x2 s2 hr1 hr2 eq e1 e2 p1 p2=>?_⟩⟩;have gr2:=gr1.ag s2;obtain⟨dx2,eo2⟩:=gr2.au;have q0:Cs AJ H2 q _:=Ar eq;have l2:=p2.gf;show Gh (λσ' H'=>∃kvs',σ'=(gE x key now r q)/\BM d H2 H'/\EC AI ex H' x p d st (ER g key (Em (AA now) (g key))) kvs'/\kvs'.length<=kvs.length/\(∀k,k≠.inr key->k∈kvs.map (·.1)->k∈kvs'.map (·.1))) ?_ ?_
    . show⟨_,_,q0,Ap (j:=1) rfl,x2,.inl (Ac e2),_,rfl,IM (λh=>?_) λh=>?_⟩
      . show⟨_,_,q0,Ap (j:=1) rfl,_,⟨eo2,T.cb,T.cv,rfl⟩,d,_,rfl,UH.k (k:=Bj key) gr2.ar.ah (by lia),?_⟩;have hrx2:r2∉ex:=λhm=>by
          obtain⟨o,e⟩:=hex r2 hm;have nd:r2≠d:=λz=>by rw[z,gr1.ar.ah]at hr2;cases hr2
          rw[sx1 _ _ nd e]at hr2;cases hr2
        have rp:=gr2.ar.ie (key:=key) hrx2 e2 p2 λz=>by rw[z]at h;show absurd h (by decide)
        rw[mB]at rp;have sxp:BM d H2 (AM H2 d (.dK (Bh kvs1 (.inr key) (.ref r2)))):=zzu
        show⟨_,rfl,sxp,gr2.ze sxp rp,?_,λk' h1 h2=>iK _ (kd1 k' h1 h2)⟩;have nk:(BQ kvs1 (.inr key))=AG:=by show lt0
        have:=Rc kvs1 (.inr key) (.ref r2);lia
      . have e0:Em (AA now) (g key)=[]:=bL (by show Oe l2.symm (ABI.mp (MJ h)));show⟨kvs1,rfl,λb o O e=>e,by rw[e0];show gr2,ll,kd1⟩
    . intro σ' H3 hI;obtain⟨kvs',rfl,sx3,gr3,l3,kd3⟩:_:=hI;have nqd:q≠d:=λz=>by rw[z,gr2.ar.ah]at eq;cases eq
      have n1d:r1≠d:=λz=>by rw[z,gr2.ar.ah]at e1;cases e1
      show⟨_,_,Ar (sx3 _ _ nqd eq),Ap (j:=0) rfl,k H3 r1 x1 kvs' (sx1.aa ((s2.x d).aa sx3)) gr3 (sx3 _ _ n1d e1) (p1.ab (sx3.tp gr2.ar.ah nofun)) l3 kd3⟩
def Ex(g:AF->List AX)(D:List AF):List (AF×AX):=D.flatMap λz=>(g z).map λp=>(z,p)
def NT(st:AU)(D:AF×AX):List AN:=NU st D.1 D.2
def Xo:List AN->List AN|[_,k,s,e,_]=>[e,k,s]|_=>[]
theorem EC.ip{st:AU}(h:EC AI ex H x p d st g kvs)(W:H l=AG):EC AI (l::ex) H x p d st g kvs:=⟨h.au,h.ku,h.ar.ah,h.ar.nd,λq Y=>by
 obtain⟨U,r,Z,e,n,D,w⟩:_:=h.ar.ri q Y;show⟨U,r,Z,e,λJ=>?_,D,w⟩;rcases CZ.mp J with rfl|J;.rw[W]at D;cases D
 .show n J,h.ar.yu⟩
theorem EC.iw{st:AU}(h:EC AI (l::ex) H x p d st g kvs):EC AI ex H x p d st g kvs:=⟨h.au,h.ku,h.ar.ah,h.ar.nd,λq W=>by obtain⟨D,r,Y,e,n,J,w⟩:_:=h.ar.ri q W;show⟨D,r,Y,e,λU=>n (Fp _ U),J,w⟩,h.ar.yu⟩
theorem EC.wq{st:AU}(h:EC AI ex H x p d st g kvs)(e:H c=AA (.lst ys))(B:c∈ex):EC AI ex (AM H c o) x p d st g kvs:=by
 obtain⟨⟨Z,A⟩,st,r⟩:_:=h;have Y:=st;have U:∀{b:AB}{W:BW},H b=AA W->(∀J,W≠.lst J)->(AM H c o) b=AA W:=λ{b W}D n=>by rw[AV λz=>by rw[z,e]at D;show n _ (By D).symm];show D
 show⟨⟨Z,U A nofun⟩,U Y nofun,r.ab (U r.ah nofun) (λb J C D=>?_) λb J D=>U D nofun⟩;rw[AV λz=>C (by rw[z];show B)];show D
theorem mF(h:CV H ys R){qs:List (AE×List AN)}(p:qs.Perm (ys.zip (R.map f))):∃U,U.Perm R/\CV H (qs.map (·.1)) U/\U.map f=qs.map (·.2):=by
 have B:=h.gf;have C:BJ (λ(D)(q)=>(∃a,q.1=.ref a/\H a=AA (.tup (D.map Au)))/\f D=q.2) R (ys.zip (R.map f)):=by show Gz (by rw[ABk,Aq];show Eq.comm.mp (Nat.min_eq_right (Bi B.symm))) λi D q J W=>?_;obtain⟨Y,Z⟩:=L6.mp W;rw[Bt,J]at Z;show⟨(CJ h).2 i _ _ Y J,By Z⟩
 lk;obtain⟨U,E,F⟩:=Pb p C;obtain⟨A,z⟩:=CJ F;k_in;show⟨U,E,Gz (by rw[Aq,A]) λi v D J W=>?_,?_⟩;. rw[Bt]at J;obtain⟨q,Y,rfl⟩:_:=EA.mp J;show(z i _ q W Y).1
 . show yJ λi=>?_;rw[Bt,Bt];cases J:U[i]? with |none=>rw[yN (by rw[<-A];show R8.mp J)];rfl|some D=>have G:=(BU.mp J).1;have W:=Ck (show i<qs.length by simp_all);rw[W];show AE2 _ (z i _ _ J W).2
theorem qK{D:List AF}(e:D[i]?=AA z):Ex g (D.take (i+1))=Ex g (D.take i)++(g z).map λp=>(z,p):=by unfold Ex;rw[D2,e];simp
def m6(C:Br):BF:=λF H Q O=>(Qd λ(B:List AB)(x p d:AB)(z:AU)(g:AF->List AX)(D:List (AN×AE))(Y:Option Int)=>ID (F=[.ref x,Kk Y]) (EC C B H x p d z g D) ((∀c∈B,∃o,H c=AA o)) (z.ig) (z.so∈GY) (D.length<=1000) ((∀k,(g k).length<=10000)) (∀Z r E W J A,BM d H Z->EC C (r::B) Z x p d z (λU=>Em Y (g U)) J->H r=AG->Z r=AA (.lst E)->CV Z E W->W.Perm ((Ex (λU=>FV Y (g U)) A).map (NT z))->(W.map Xo).Pairwise (λa b=>Bg b a=AR)->A.Nodup->(∀k,g k≠[]->k∈A)->J.length<=D.length->A.length=D.length->Q (.ref r) Z))
theorem jN(T:BL AJ Af AI):T.oz.Ok BC P w Af base 4 (m6 AI):=by
  show T.oz.ok λnd _ _ _ _ _ I H vs Q E h=>?_;obtain⟨ex,x,p,d,X,g,C,U,rfl,gr,hex,ok,hso,lk,lg,k⟩:_:=h;show⟨_,(C6 (Aw 2 nd (C9 Ea)) (C6 (DB DK rfl (DA (K:=AJ) (IS (UU (K:=AJ) rfl) (by rfl) T.jg KY #v[BP (AD 0) rfl])) (Cc 3 nd) (Ab (vO (D8 (JM (K:=AJ) MF NB OQ Lw (AD 2) #v[(IQ (DG X5) [("key",3),("self",0)] ⟨rfl,rfl,rfl,rfl,trivial⟩ (DA (K:=AJ) (EX (AD 0) T.cb (k8 T) I #v[AD 3,AD 1])) (λ_ _ _ _=>G0) (λ_ _ _ _=>(BE (kZ T) I #v[vC (K:=AJ) (AD 2) rfl,AD 1,AD 0])))]))))) (Ab (BD (lQ (kP T) I T.jq P5 (AD 2)))))),?_⟩;have sz:Az=16777216:=Dj;showλ_ _ _ _ z1=>⟨Bc _,λl hl=>z1 _ _ ?_⟩;show BK (o:=.lst []) hl λH1 s1 el=>?_;have gr1:=(gr.ip hl).ag s1;obtain⟨dx1,eo1⟩:=gr1.au;showλ_ _ _ _ z2=>⟨_,⟨eo1,T.cb,T.cv,rfl⟩,d,C,rfl,gr1.ar.ah,λls hls=>?_⟩;lk;obtain⟨W,f⟩:∃W:List AF,(C.map λp=>Au p.1)=W.map AE.str:=by show⟨C.map λq=>match q.1 with|.inr i=>i|.inl _=>"",?_⟩;rw[Dh];show L7 λq hq=>?_;obtain⟨z,r,xs,rfl,_⟩:=gr.ar.ri q hq;rfl
  k_in;have ekk:C.map (·.1)=W.map (Bj:AF->AN):=by
    have h1:∀q∈C,∃z,q.1=.inr z:=λq hq=>by obtain⟨z,r,xs,rfl,_⟩:=gr.ar.ri q hq;show⟨z,rfl⟩
    have h2:(C.map λp=>Au p.1).map (λv=>match v with|.str z=>(Bj z:AN)|_=>.inl 0)=C.map (·.1):=by rw[Dh];show L7 λq hq=>?_;obtain⟨z,e⟩:=h1 q hq;change(match Au q.1 with|.str z=>(Bj z:AN)|_=>.inl 0)=q.1;rw[e];rfl
    rw[<-h2,f,Dh];rfl
  have kn:W.Nodup:=by have h:=gr.ar.nd;rw[ekk,ABR,Hq]at h;show h.imp λh e=>h (by rw[e])
  have km:∀z,g z≠[]->z∈W:=λz ne=>by have h:=gr.ar.yu z ne;rw[ekk]at h;obtain⟨y,hy,e⟩:=Ay.mp h;rw[<-Fc e];show hy
  have lke:W.length=C.length:=by have:=AE2 My f;rw[Aq,Aq]at this;show this.symm
  have lks:W.length<=1000:=by have:=AE2 My f;rw[Aq,Aq]at this;show Ag (Bi lke) lk
  rw[f];show BK (o:=.lst (W.map AE.str)) hls λH2 s2 m=>?_;have nll:ls≠l:=λz=>by rw[z,el]at hls;cases hls
  have gr2:=gr1.ag s2;have nld:ls≠d:=λz=>by rw[z,gr2.ar.ah]at m;cases m
  have exs:∀{F:AH},BM d H F->(∀{kv g':_},EC AI (l::ex) F x p d X g' kv->(∃Y,F l=AA (.lst Y))->∀c∈l::ex,∃o,F c=AA o):=λ{F}sx{kv g'}gr' el' c hc=>by
    rcases CZ.mp hc with rfl|hc;. obtain⟨Y,e⟩:=el';show⟨_,e⟩
    . obtain⟨o,eo⟩:=hex c hc;by_cases q:c=d;.rw[q];show⟨_,gr'.ar.ah⟩
      .show⟨_,sx c o q eo⟩
  show⟨ls,rfl,⟨_,Ac m⟩,GP (K:=AJ) (xs:=W.map AE.str) (λi σ F=>(EB λ(o3:Option AE)(Y:List AE)(A:List (AN×AE))=>Jv (σ=[AA (.ref x),AA (Kk U),AA (.ref l),o3]) (BM d H F) (F ls=AA (.lst (W.map AE.str))) (EC AI (l::ex) F x p d X (λJ=>if J∈W.take i then Em U (g J)else g J) A) (F l=AA (.lst Y)) (CV F Y ((Ex (λJ=>FV U (g J)) (W.take i)).map (NT X))) (A.length<=C.length) (Y.length<=10000*i) (∀z,z∉W.take i->z∈W->(.inr z:AN)∈A.map (·.1)))) ⟨AG,[],C,rfl,(s1.aa s2).x d,m,?_,s2 _ _ el,JN _,Aj _,Bc _,λz _ hz=>by rw[ekk];show Ay.mpr ⟨z,hz,rfl⟩⟩ (λi σ F _ hh=>by obtain⟨_,_,_,_,_,e,_⟩:=hh;show Ac e) ?_ ?_⟩
  . have e:(λJ=>if J∈W.take 0 then Em U (g J)else g J)=g:=by funext J;show AEz (by simp)
    rw[e];show gr2
  . intro i y σ H3 hy hI;lk;obtain⟨o3,Y,A,rfl,R,els3,B,G,L,lk3,la3,kin⟩:=hI;rw[Bt]at hy;obtain⟨z,hz,rfl⟩:=EA.mp hy;have hi:i<W.length:=(BU.mp hz).1;have zn:z∉W.take i:=λhm=>by obtain⟨j,hj,e⟩:=Gk.mp hm;rw[Er]at hj;rw[OH]at e;obtain⟨h2,g2⟩:=BU.mp hz;show(Gn.mp kn) j i (BY hj (P1 _ _)) h2 (AE9 hj (b8 (B8 hi))) (e.trans g2.symm)
    have gz:(if z∈W.take i then Em U (g z)else g z)=g z:=AEz zn;obtain⟨dx3,eo3⟩:=B.au;k_in;have lgz:=lg z;showλ_ _ _ _ z3=>⟨.inl ⟨rfl,_,Ac G⟩,x,dx3,_,rfl,eo3,by rfl,l::ex,x,p,d,X,z,_,A,U,rfl,B,exs R B ⟨_,G⟩,kin z zn (Cm hz),Ag (Bi (AE2 My gz)) lgz,Ag lk3 lk,λH4 r xs kvs4 sx4 s er4 hw4 l4 kk4=>⟨r,rfl,⟨_,Ac er4⟩,?_⟩⟩;simp only[gz]at s hw4;have eg:ER (λJ=>if J∈W.take i then Em U (g J)else g J) z (Em U (g z))=λJ=>if J∈W.take (i+1)then Em U (g J)else g J:=by
      funext J;have tm:J∈W.take (i+1)↔J∈W.take i\/J=z:=by rw[D2,hz];simp
      by_cases e:J=z;.rw[e,J8,AE0 (by rw[<-e,tm];show .inr e)]
      . rw[HZ e];by_cases q:J∈W.take i;.rw[AE0 q,AE0 (tm.mpr (.inl q))]
        .rw[AEz q,AEz (λh=>(tm.mp h).elim q e)]
    rw[eg]at s;have nl3:l≠d:=λq=>by rw[q,B.ar.ah]at G;cases G
    have el4:=sx4 _ _ nl3 G;have els4:=sx4 _ _ nld els3;have hw34:=L.ab (sx4.tp B.ar.ah nofun);have lo:(FV U (g z)).length<=10000:=by cases U with|none=>show lgz|some n=>show Ag (FY _ _) lgz
    have lx4:=hw4.gf;show IL (K:=AJ) (xs:=xs) (λj τ Z F=>(∃o,τ=[o,AA (.str z),AA (.ref x)])/\An H4 F/\CV F Z (((FV U (g z)).take j).map λp=>NT X (z,p))) (by lia) ⟨⟨AG,rfl⟩,CQ _,JN _⟩ (λj τ Z F⟨_,s',_⟩=>Ac (s' _ _ er4)) ?_ ?_
    . intro j y τ Z H5 R1 hy _ hI k1;lk;obtain⟨⟨o,rfl⟩,S,u⟩:=hI;obtain⟨pc,a,q,ep,rfl,ea,eq⟩:=hw4.ix hy;have gr5:=s.ag S;obtain⟨dx5,eo5⟩:=gr5.au;k_in;show⟨_,⟨eo5,T.cb,T.mj,rfl⟩,p,a,X,z,pc,rfl,gr5.ku,ok,hso,⟨a,q,rfl,S _ _ ea,S _ _ eq⟩,λr' H7 s7 hr' er'=>k1 _ _ _ ⟨⟨_,rfl⟩,S.aa s7,?_⟩⟩;rw[D2,ep,CW];show(u.ab s7.tp).zf er'
    . intro τ Z H5 la5 hI D hD;obtain⟨_,S,u⟩:_:=hI;rw[EH (Bi lx4.symm)]at u;show BK (o:=.lst Z) hD λH6 s6 eD=>?_;have N:=S.aa s6;have el6:=N _ _ el4;show⟨l,D,_,_,rfl,rfl,el6,eD,by lia,?_⟩;have tp6:Bk H6 (AM H6 l (.lst (Y++Z))):=(Gg H6).gy el6 λxs=>by intro z;cases z
      show z3 _ _ ⟨_,Y++Z,kvs4,rfl,λb o nb e=>?_,by rw[AV nll];show N _ _ els4,(s.ag N).wq el6 (.head _),AY,?_,Ag l4 lk3,by rw[Bx];lia,λz' hz' hk'=>?_⟩
      . rw[AV (λq=>by rw[q,hl]at e;cases e)];show N _ _ (sx4 b o nb (R b o nb e))
      . rw[qK hz,CW,Dh];show CV.ab (D7 (hw34.ab N.tp) (u.ab s6.tp)) tp6
      . rw[D2,hz]at hz';show kk4 _ (λq=>hz' (FE _ (by rw[Fc q];show .head _))) (kin z' (λq=>hz' (Hn _ q)) hk')
  . intro σ H3 hI;obtain⟨o3,Y,A,rfl,R,els3,B,G,L,lk3,la3,kin⟩:_:=hI;rw[Aq,EH (Aj _)]at B L;have eg:(λJ=>if J∈W then Em U (g J)else g J)=λJ=>Em U (g J):=by
      funext J;by_cases q:J∈W;.show AE0 q
      . rw[AEz q];have:g J=[]:=by cases e:g J with|nil=>rfl|cons a b=>show absurd (km J (by rw[e];simp)) q
        rw[this];cases U<;>rfl
    rw[eg]at B;have O:∀M∈(Ex (λJ=>FV U (g J)) W).map (NT X),∃kp,M=NT X kp:=λM I=>by obtain⟨kp,_,rfl⟩:=Ay.mp I;show⟨kp,rfl⟩
    show z2 _ _ ⟨l,Y,((Ex (λJ=>FV U (g J)) W).map (NT X)).map Xo,rfl,Ac G,⟨by simp[L.gf],⟨[AK,AR,AK],by simp,λkk hk=>?_⟩,λi y kk H4 hy hk s4=>?_⟩,λr qs H4 s4 I pq sq=>?_⟩
    . lk;obtain⟨M,I,rfl⟩:=Ay.mp hk;obtain⟨kp,rfl⟩:=O M I;k_in;rfl
    . lk;obtain⟨a,M,rfl,er,ea⟩:=L.at hy;rw[Bt,er]at hk;have hk:=By hk;obtain⟨kp,rfl⟩:=O M (Cm er);k_in;subst hk;show⟨a,X,kp.1,kp.2,rfl,s4 _ _ ea,λr I=>⟨Bv I,r,rfl,Ar AY⟩⟩
    . obtain⟨R',p1,w1,e1⟩:_:=mF L pq;have t:H3 r=AG:=s4.bc I;have nrd:r≠d:=λq=>by rw[q,B.ar.ah]at t;cases t
      have hrH:H r=AG:=by cases q:H r with|none=>rfl|some o=>rw[R r o nrd q]at t;cases t
      have S:=Bv (o:=.lst (qs.map (·.1))) I;show k _ r _ R' A W (λb o nb e=>S _ _ (s4 _ _ (R b o nb e))) (((B.iw.ag s4).ip I).ag S) hrH AY ((w1.ab s4.tp).ab S.tp) p1 (by rw[e1];show sq) kn km lk3 lke
unseal Ez in theorem l8{X:Bp}{st:C2}:Ez X st (λ_ _ _=>False):=λ_ _ _ _ _ _ h=>h.elim
def Mc(ss:List AU)(i:Nat):Bool:=match ss[i]? with|AA s=>s.cp|AG=>AR
def Am(ss:List AU):List Nat:=(FZ ss.length).filter (Mc ss)
def pH:BF:=λY H Q O=>(EB λ(U:AB)(W:List AE)(J:List AU)=>Ek (Y=[.ref U]) (H U=AA (.lst W)) (Fz H W J) (J.length<=100) (∀D r,An H D->H r=AG->D r=AA (.lst ((Am J).map λi:Nat=>AE.int (i:Int)))->Q (.ref r) D))
theorem lC(T:BL AJ Af AI):T.wo.Ok BC P w Af base 2 pH:=by
  show T.wo.ok λX o o o o o M H f Q E h=>?_;obtain⟨N,O,W,rfl,Z,A,S,k⟩:_:=h;show⟨_,(Ab (BD (u9 (osc:=DG YC) [] rfl (Pf (by rfl) T.iz (AD 0)) rfl rfl (by decide+kernel) (by decide+kernel) (by decide+kernel) trivial rfl rfl (by decide+kernel) (λo o o o=>Mr (Jl (BE (XX T) M #v[AD 1]))) (λo o o o=>(AD 0))))),?_⟩;have d:=Dj;have Y:=A.gf;show⟨N,rfl,⟨_,Ac Z⟩,rQ (λi o=>Mc W i) _ (by lia) (λJ s1=>Ac (s1 _ _ Z)) (λi x p b c J R o o e q=>⟨p,_,rfl,Ar e,rfl,_,_,rfl,_,_,rfl,rfl,q⟩) (λi x J R B s1 q=>?_) (λi x J R B o s1 q=>q _ (CQ _)) λJ s1 D z=>?_⟩
  . obtain⟨a,C,rfl,I,F⟩:_:=A.at B;have G:Mc W i=C.cp:=by unfold Mc;rw[I]
    rw[G]at q;show⟨a,C,rfl,s1 _ _ F,_,rfl,q J (CQ _)⟩
  . show k _ D (s1.gy z) (s1.bc z) ?_;rw[AY];congr 2;unfold Am;rw[<-Y];have:∀(n:Nat)(U:List AE),U.length=n->((OL _ U).filter λq=>Mc W q.1).map _=((FZ n).filter (Mc W)).map λi:Nat=>AE.int (i:Int):=λn U e=>by
      have L:(FZ n)=(OL _ U).map ACA:=(List.map_fst_zip (by rw[OI];show Bi e.symm)).symm;conv=>rhs;rw[L]
      rw[OF,Dh];rfl
    show this _ O rfl
def pQ:BF:=λD H Q O=>∃i:Int,D=[.int i]/\Q (.bl AK) H
theorem kE(T:BL AJ Af AI):T.vf.Ok BC P w Af base 1 pQ:=by show T.vf.ok λJ O O O O O D H U Q E h=>?_;obtain⟨i,rfl,k⟩:_:=h;show⟨_,(Ab (BD (U0 (DI (Yx) (by rfl) T.rh ACD #v[AD 0,(Zr (v:=.ty _) (by rfl) T.aba zF rfl)]) (U1 (vE (DI (Yx) (by rfl) T.rh ACD #v[AD 0,(Zr (v:=.ty _) (by rfl) T.acn AD5 rfl)])))))),?_⟩;show⟨_,_,_,_,rfl,.int i,rfl,_,rfl,Jh ⟨_,_,_,_,rfl,.int i,rfl,_,rfl,k⟩⟩
def mU:BF:=λD H Q O=>∃i a b:Int,D=[.int i,.int a,.int b]/\a<=i/\i<=b/\Q (.bl AK) H
theorem kC(T:BL AJ Af AI):T.ve.Ok BC P w Af base 2 mU:=by show T.ve.ok λV O O O O O U H W Q E h=>?_;obtain⟨i,a,b,rfl,D,J,k⟩:_:=h;show⟨_,(Ab (BD (U0 (BE (kE T) U #v[AD 0]) (U1 (uZ PY PY (AD 1) (AD 0) (AD 2)))))),?_⟩;show⟨i,rfl,_,rfl,Jh ?_⟩;show⟨_,rfl,IM (λe=>?_) λe=>absurd D e⟩;change Q (.bl _) H;rw[AE1 J];show k
abbrev EV(s n k:Int):List (AF×AE):=[("slack",.int s),("now",.int n),("count",.int k)]
def m5(D:Br):BF:=λU H Q O=>(EB λ(x J:AB)(s:Int)=>Ek (U=[.ref x,.int s]) (H x=AA (.ins D.aj J [])) (0<=s) (s<=1000000000) (Q .non (AM H x (.ins D.aj J (EV s 0 0)))))
theorem XR(T:BL AJ Af AI):T.jz.Ok BC P w Af base 3 (m5 AI):=by show T.jz.ok λZ O O O O O V H A Q E h=>?_;lk;obtain⟨x,U,z,rfl,e,W,Y,k⟩:=h;obtain⟨J,D⟩:=T.wz;k_in;show⟨_,(Ai (CF (L3 (Jl (BE (kC T) V #v[AD 1,AQ,(Pe (v:=.int _) (by rfl) D ⟨_,rfl⟩)]))) (Ab l8) Cd) (Ai (FH (AD 0) (AD 1) rfl) (Ai (FH (AD 0) AQ rfl) (Ab (FH (AD 0) AQ rfl))))),?_⟩;show⟨z,0,_,rfl,W,Y,_,rfl,EY ?_⟩;show⟨x,_,U,_,rfl,e,T.df,T.qj,by decide,?_⟩;show⟨x,_,U,_,rfl,AY,T.df,T.fq,by change 1<1000;decide,?_⟩;show⟨x,_,U,_,rfl,AY,T.df,T.jw,by change 2<1000;decide,?_⟩;rw[Ry,Ry];show k
def FU(n s t:Int):Int:=if t<n then n else I9 n (t-s)
def mR(D:Br):BF:=λU H Q O=>(IG λ(x J:AB)(t s n k:Int)=>ML (U=[.ref x,.int t]) (H x=AA (.ins D.aj J (EV s n k))) (Q (.bl (Ae (n<=t))) (AM H x (.ins D.aj J (EV s (FU n s t) (k+1))))))
theorem XO(T:BL AJ Af AI):T.ox.Ok BC P w Af base 1 (mR AI):=by
 show T.ox.ok λU O O O O O J H V Q E h=>?_;obtain⟨x,D,t,z,n,c,rfl,e,k⟩:_:=h;show⟨_,(Ai (FH (AD 0) (AW C5 (BP (AD 0) rfl) AQ) rfl) (Ai (CF (Bw Rk (AD 1) (BP (AD 0) rfl) (Bs _)) (Ab (BD F5)) Cd) (Ai (FH (AD 0) (DI (UW rfl) (by rfl) T.zx cG #v[BP (AD 0) rfl,AW GQ (AD 1) (BP (AD 0) rfl)]) rfl) (Ab (BD F5))))),?_⟩;show⟨_,⟨e,T.df,T.jw,rfl⟩,x,_,D,_,rfl,e,T.df,T.jw,by change 3<1000;decide,?_⟩;show⟨_,⟨AY,T.df,T.fq,rfl⟩,_,rfl,K6 (λq=>?_) λq=>?_⟩
 . have q:t<n:=AE4 q;unfold FU at k;rw[AE0 q,AE3 (by simp_all)]at k;show k
 . have q:=AE8 q;unfold FU at k;rw[AEz q,AE1 (by simp_all)]at k;show⟨_,⟨AY,T.df,T.fq,rfl⟩,_,⟨AY,T.df,T.qj,rfl⟩,?_⟩;show⟨x,_,D,_,rfl,AY,T.df,T.fq,by change 3<1000;decide,?_⟩;rw[Ry];show k
theorem Kr{l:List α}(h:(l.take n)[i]?=AA x):i<n/\l[i]?=AA x:=by have D:=(BU.mp h).1;rw[Er]at D;have J:=BY D (Jo _ _);rw[bM J]at h;show⟨J,h⟩
theorem Q4{l:List α}(D:i<n)(h:l[i]?=AA x):(l.take n)[i]?=AA x:=by rw[bM D];show h
theorem MV(h:DX (ss.take n) i):i<n/\DX ss i:=by lk;obtain⟨m,a,b,D,e⟩:=h;obtain⟨l,e⟩:=Kr e;k_in;show⟨l,m,a,b,D,e⟩
theorem W2(D:i<n)(h:DX ss i):DX (ss.take n) i:=by obtain⟨m,a,b,J,e⟩:_:=h;show⟨m,a,b,J,Q4 D e⟩
theorem CY.rl(h:CY AI ex H ss Y D U sd)(J:DF ss U b):∃kvs,H b=AA (.dK kvs):=by
 lk;obtain⟨i,⟨n,a,W,B,A⟩,J⟩:=J;obtain⟨⟨C,Z⟩,E,z⟩:=(h.fw i n a W B A).2.rl;k_in;rcases J with rfl|rfl;.show⟨_,Z⟩
 .show⟨_,z⟩
theorem CY.abx{ss:List AU}(h:CY AI ex H (ss.take n) A D C λ_=>([],[]))(O:H A=AA (.dK D))(w:ss[n]?=AA (.join m a b wi))(s:An H Z)(M:H E=AG)(N:H F=AG)(jr:DC AI ex Z j k p r E F wi [] []):CY AI ex (AM Z A (.dK (Bh D (.inl (n:Int)) (.ref j)))) (ss.take (n+1)) A (Bh D (.inl (n:Int)) (.ref j)) (λi=>if i=n then⟨j,k,p,r,E,F⟩else C i) λ_=>([],[]):=by
  have l:Bq _ Z (AM Z A (.dK (Bh D (.inl (n)) (.ref j)))):=zzu
  have T:∀b,b=A->(b∈ex/\∃xs,Z b=AA (.lst xs))\/∃P,Z b=AA (.dK P):=λb x=>.inr ⟨D,by rw[x];show s _ _ O⟩;have c:=(BH O M).symm;have d:=(BH O N).symm;have J:∀{i:Nat},DX _ i->i≠n->DX (ss.take n) i:=λ{i}U y=>W2 (by have:=(MV U).1;show DU (Dc this) y) (MV U).2;have S:∀{i:Nat},DX _ i->(E≠(C i).d0/\E≠(C i).d1)/\F≠(C i).d0/\F≠(C i).d1:=λ{i}U=>by obtain⟨k0,Q⟩:=h.rl ⟨i,U,.inl rfl⟩;obtain⟨k1,R⟩:=h.rl ⟨i,U,.inr rfl⟩;show⟨⟨(BH Q M).symm,(BH R M).symm⟩,(BH Q N).symm,(BH R N).symm⟩
  show⟨.inl AY,λi n' t u wi' L=>?_,λi X U I K=>?_,λi U=>?_⟩
  . by_cases Y:i=n
    . subst Y;have e:=(Kr L).2;rw[w]at e;cases e;rw[AE0 rfl];show⟨by rw[IW,AE0 rfl],jr.fh l T c d⟩
    . rw[AEz Y];have G:=Q4 (by have:=(Kr L).1;show DU (Dc this) Y) (Kr L).2;obtain⟨v,q⟩:=h.fw i n' t u _ G;have g:=h.wu i ⟨_,_,_,_,G⟩;show⟨by rw[IW,AEz (λz=>Y (by lia))];show v,(q.ag s).fh l T g.1.symm g.2.symm⟩
  . by_cases W:i=n
    . subst W;have B:=DJ K;rw[AE0 rfl,AEz B];have f:=S (J I B);show⟨⟨f.1.1.symm,f.2.1.symm⟩,f.1.2.symm,f.2.2.symm⟩
    . by_cases B:X=n
      . subst B;rw[AEz W,AE0 rfl];show S (J U W)
      . rw[AEz W,AEz B];show h.bh i X (J U W) (J I B) K
  . by_cases W:i=n
    . subst W;rw[AE0 rfl];show⟨c.symm,d.symm⟩
    . rw[AEz W];show h.wu i (J U W)
theorem CY.acj{ss:List AU}(h:CY AI ex H (ss.take n) Z J B sd)(F:ss[n]?=AA s)(G:s.no≠4):CY AI ex H (ss.take (n+1)) Z J B sd:=by
 have D:∀{i:Nat},DX _ i->DX (ss.take n) i:=λ{i}U=>by
  obtain⟨m,a,b,W,e⟩:=U;obtain⟨l,E⟩:=Kr e;clear e;have e:=E;show⟨m,a,b,W,Q4 ?_ e⟩;by_cases q:i=n
  . subst q;rw[F]at e;cases e;show absurd rfl G
  .show DU (Dc l) q
 show⟨h.ah,λi C a b W A=>?_,λi I U Y=>h.bh i I (D U) (D Y),λi U=>h.wu i (D U)⟩;lk;obtain⟨N,L,M,K,z⟩:=D ⟨C,a,b,W,A⟩;have q:=(Kr A).2;rw[(Kr z).2]at q;cases q;k_in;show h.fw i C a b W z
structure Jw(ss:List AU)(n:Nat)(jd:Nat->EI)(jkvs:List (AN×AE)):Prop where yy:∀p∈jkvs,∃i:Nat,i<n/\DX ss i/\p=(.inl (i:Int),.ref (jd i).j)nd:(jkvs.map (·.1)).Nodup
theorem Jw.acj(h:Jw ss n J D):Jw ss (n+1) J D:=⟨λp U=>by obtain⟨i,l,q,e⟩:_:=h.yy p U;show⟨i,ON l,q,e⟩,h.nd⟩
theorem Jw.abx(h:Jw ss n U D)(W:DX ss n)(J:EI):Jw ss (n+1) (λi=>if i=n then J else U i) (Bh D (.inl (n:Int)) (.ref J.j)):=by
 show⟨λp Z=>?_,Mo h.nd⟩;rcases N0 Z with rfl|⟨Y,_⟩;.show⟨n,by simp,W,by rw[AE0 rfl]⟩
 . obtain⟨i,l,q,e⟩:_:=h.yy p Y;show⟨i,by lia,q,by rw[AEz (ET l)];show e⟩
def n5(A:Br):BF:=λB H Q O=>(EB λ(Z:AB)(z:List AE)(J:List AU)=>Ek (B=[.ref Z]) (H Z=AA (.lst z)) (Fz H z J) (J.length<=20) (∀U W D Y,An H U->H W=AG->U W=AA (.dK D)->Jw J J.length Y D->CY A [] U J W D Y (λO=>([],[]))->(∀b,DF J Y b->H b=AG)->Q (.ref W) U))
theorem XY(T:BL AJ Af AI):T.vg.Ok BC P w Af base 5 (n5 AI):=by
  show T.vg.ok λnd _ _ _ _ _ hr H vs Q E h=>?_;obtain⟨lp,ps,t,rfl,O,pr,lss,k⟩:_:=h;show⟨_,(Ai (Aw 1 nd Mq) (Ai (DB DK rfl (Pf (K:=AJ) (by rfl) T.iz (AD 0)) (J7 rfl (Eb (Cc 2 nd) (Eb (Cc 3 nd) Jk))) (Ab (CF (Bw DH (BA AJ (AD 3) AQ) Dq (Bs _)) (Ab (KP hr.u1 (AD 1) (AD 2) (Ma (kG T) hr T.abm JL #v[BA AJ (AD 3) AQ]) rfl)) Cd))) (Ab (BD (AD 1))))),?_⟩;have sz:Az=16777216:=Dj;have lps:=pr.gf;intro M F;show BK (o:=.dK []) F λH0 g0 N=>?_;show⟨lp,rfl,⟨_,Ac (g0 _ _ O)⟩,RV (K:=AJ) (xs:=ps) (λn u r=>(GX λ(o3 o4:Option AE)(D:List (AN×AE))(G:Nat->EI)=>Io (u=[AA (.ref lp),AA (.ref M),o3,o4]) (An H r) (r M=AA (.dK D)) (D.length<=n) (Jw t n G D) (CY AI [] r (t.take n) M D G (λ_=>([],[]))) (∀b,DF (t.take n) G b->H b=AG))) ⟨AG,AG,[],λ_=>⟨0,0,0,0,0,0⟩,rfl,g0,N,Aj _,⟨λp hp=>(by cases hp),.nil⟩,⟨.inl N,λi n a b L e=>(by cases(Kr e).1),λi i' A=>(by cases(MV A).1),λi A=>(by cases(MV A).1)⟩,λb⟨i,A,_⟩=>(by cases(MV A).1)⟩ (λn u r _ hh=>by obtain⟨_,_,_,_,_,s',_⟩:=hh;show Ac (s' _ _ O)) ?_ ?_⟩
  . intro n x u H1 p hx hI hp;lk;obtain⟨o3,o4,D,G,rfl,s1,B,I,U,W,J⟩:=hI;obtain⟨b,st,rfl,R,eb⟩:=pr.at hx;k_in;show BK hp λH2 g2 ep=>?_;show⟨p,_,rfl,Ar ep,rfl,_,_,rfl,_,_,rfl,rfl,?_⟩;have s2:=s1.aa g2;have eb2:Dl H2 b st:=s2 _ _ eb;have d:=W.ag g2;have C:=g2 _ _ B;obtain⟨e0,e1,_⟩:_:=eb2.md;have hn:n<t.length:=(BU.mp R).1;show⟨_,_,e0,e1,rfl,_,rfl,J4 (i:=4) rfl (λs=>?_) λs=>⟨_,_,D,G,rfl,s2,C,Jn I,U.acj,d.acj R s,λv Y=>?_⟩⟩
    . lk;obtain⟨m,f,g,L,rfl⟩:∃m f g L,st=.join m f g L:=by cases st<;>first|show⟨_,_,_,_,rfl⟩|cases s
      k_in;show⟨_,_,e0,Ap (j:=4) rfl,λj y hj S hnj=>⟨[],j,y,L,rfl,AY,(λc hc=>by cases hc),λHs sl x0 x1 d0 d1 sx Z z jr=>⟨rfl,?_⟩⟩⟩;have s3:An H2 Hs:=λb o e=>sx _ _ (BH e hj) (by rw[AV (BH e hj),AV (BH e S)];show e);have Z:=Gd (Gd Z);have z:=Gd (Gd z);show⟨M,_,rfl,UH.k (k:=.inl (n:Int)) (s3 _ _ C) (by lia),?_⟩;have lk:=Tr D (.inl (n:Int)) (.ref j);show⟨_,_,_,_,rfl,(s2.aa s3).zg F,AY,Ag lk (HQ.mpr I),U.abx ⟨_,_,_,_,R⟩ _,d.abx C R s3 Z z jr,λv X=>?_⟩;obtain⟨i,A,Y⟩:=X;by_cases q:i=n
      . subst q;dsimp only at Y;rw[AE0 rfl]at Y;rcases Y with rfl|rfl;.show s2.bc Z
        .show s2.bc z
      . dsimp only at Y;rw[AEz q]at Y;show J v ⟨i,W2 (by have:=(MV A).1;lia) (MV A).2,Y⟩
    . lk;obtain⟨i,⟨m,a,c,L,e⟩,Y⟩:=Y;obtain⟨l,e2⟩:=Kr e;k_in;show J v ⟨i,⟨m,a,c,L,Q4 ?_ e2⟩,Y⟩;by_cases q:i=n
      . subst q;rw[R]at e2;cases e2;show absurd rfl s
      .lia
  . intro u H1 hI;obtain⟨o3,o4,D,G,rfl,s1,B,I,U,W,J⟩:_:=hI;rw[lps]at U W J;rw[Py]at W J;show k H1 M D G s1 F B U W J
structure Fy where
 x:AB
 p:AB
 d:AB
section
variable{s:AU}
structure DL(ad:Br)(ex:List AB)(H:AH)(ss:List AU)(ts:List Nat)(dg:AB)(gkvs:List (AN×AE))(gd:Nat->Fy)(gg:Nat->AF->List AX)(gk:Nat->List (AN×AE)):Prop where
 ah:F2 H dg (.dK gkvs)js:∀i∈ts,∃s,ss[i]?=AA s/\BQ gkvs (.inl (i:Int))=AA (.ref (gd i).x)/\EC ad ex H (gd i).x (gd i).p (gd i).d s (gg i) (gk i)bh:∀i∈ts,∀i'∈ts,i≠i'->(gd i).d≠(gd i').d
 jy:∀i∈ts,dg≠(gd i).d
end
theorem EC.fh{st:AU}(h:EC AI ex H x p d st g kvs)(s:Bq q H H')(D:∀b,q b->(b∈ex/\∃xs,H b=AA (.lst xs))\/∃kvs,H b=AA (.dK kvs))(Y:¬q d):EC AI ex H' x p d st g kvs:=by have J:Bk H H':=λb xs e=>s _ _ (λz=>by rcases D b z with⟨_,xs,y⟩|⟨kvs,y⟩<;>(rw[e]at y;cases y)) e;obtain⟨⟨U,e⟩,W,r⟩:_:=h;show⟨⟨U,s _ _ (λz=>by rcases D x z with⟨_,xs,y⟩|⟨kvs,y⟩<;>(rw[e]at y;cases y)) e⟩,W.tp J,r.ab (s _ _ Y r.ah) (λb xs n e=>s _ _ (λz=>by
 rcases D b z with⟨y,_⟩|⟨kvs,y⟩;.show n y
 .rw[e]at y;cases y) e) J⟩
theorem DL.ag(h:DL AI ex H ss Z J D U V gk)(s:An H H'):DL AI ex H' ss Z J D U V gk:=⟨J9 h.ah (s _),λi W=>by obtain⟨Y,e,v,g⟩:_:=h.js i W;show⟨Y,e,v,g.ag s⟩,h.bh,h.jy⟩
theorem DL.ip(h:DL AI ex H ss z J D U V gk)(Y:H l=AG):DL AI (l::ex) H ss z J D U V gk:=⟨h.ah,λi W=>by obtain⟨Z,e,v,g⟩:_:=h.js i W;show⟨Z,e,v,g.ip Y⟩,h.bh,h.jy⟩
theorem DL.iw(h:DL AI (l::ex) H ss Z J D U V gk):DL AI ex H ss Z J D U V gk:=⟨h.ah,λi W=>by obtain⟨Y,e,v,g⟩:_:=h.js i W;show⟨Y,e,v,g.iw⟩,h.bh,h.jy⟩
theorem DL.fh(h:DL AI ex H ss W J D U Y gk)(s:Bq q H H')(A:∀b,q b->(b∈ex/\∃xs,H b=AA (.lst xs))\/∃kvs,H b=AA (.dK kvs))(Z:∀i∈W,¬q (U i).d)(z:¬q J):DL AI ex H' ss W J D U Y gk:=⟨J9 h.ah λo=>s _ o z,λi V=>by obtain⟨B,e,v,g⟩:_:=h.js i V;show⟨B,e,v,g.fh s A (Z i V)⟩,h.bh,h.jy⟩
theorem DL.ku{st:AU}(h:DL AI ex H ss A B J D E gk)(hi:i∈A)(Y:ss[i]?=AA st)(s:BM (D i).d H H')(r:EC AI ex H' (D i).x (D i).p (D i).d st Z z):DL AI ex H' ss A B J D (λk=>if k=i then Z else E k) (λk=>if k=i then z else gk k):=by
 have G:∃I,H (D i).d=AA (.dK I):=by obtain⟨_,_,_,g⟩:=h.js i hi;show⟨_,g.ar.ah⟩
 show⟨J9 h.ah λo=>s _ o (h.jy i hi),λk W=>?_,h.bh,h.jy⟩;by_cases q:k=i
 . subst q;lk;obtain⟨U,e,v,_⟩:=h.js k W;rw[Y]at e;k_in;show⟨st,Y,v,by rw[AE0 rfl,AE0 rfl];show r⟩
 . obtain⟨U,e,v,g⟩:_:=h.js k W;show⟨U,e,v,by rw[AEz q,AEz q];show g.fh (λb o K C=>s b o K C) (λb F=>.inr (by rw[F];show G)) (h.bh k W i hi q)⟩
theorem DL.mh(h:DL AI ex H ss N V D G I gk)(e:F2 H' V (.dK D))(A:∀b,b≠V->H' b=H b):DL AI ex H' ss N V D G I gk:=by
 have W:∀{b:AB}{U:BW},H b=AA U->(∀o u,U≠.frz o u)->(∀u,U≠.dK u)->H' b=AA U:=λ{b U}J L K=>by
  rw[A b λz=>by
   rw[z]at J;rcases h.ah with Y|⟨P,Y⟩<;>rw[Y]at J;.show K _ (By J).symm
   .show L _ _ (By J).symm];show J
 have B:Bk H H':=λb O J=>W J (by intro o u z;cases z) nofun;show⟨e,λi Z=>?_,h.bh,h.jy⟩;obtain⟨M,e,v,⟨C,E⟩,F,r⟩:_:=h.js i Z;show⟨M,e,v,⟨C,W E (by intro o u z;cases z) nofun⟩,F.tp B,r.ab (by rw[A _ (h.jy i Z).symm];show r.ah) (λb O S e=>W e (by intro o u z;cases z) nofun) B⟩
structure NL(ts:List Nat)(gd:Nat->Fy)(gkvs:List (AN×AE)):Prop where yy:∀p∈gkvs,∃i∈ts,p=(.inl (i:Int),.ref (gd i).x)nd:(gkvs.map (·.1)).Nodup
theorem IJ:i∈Am ss↔∃s,ss[i]?=AA s/\s.cp=AK:=by
 unfold Am Mc;rw[D1,VQ];constructor
 . rintro⟨h,q⟩;rw[Ck h]at q;show⟨_,Ck h,q⟩
 . intro D;obtain⟨s,e,q⟩:_:=D;show⟨(BU.mp e).1,by rw[e];show q⟩
theorem pV(ss:List AU):(Am ss).Nodup:=ABq.sublist Mx
theorem Ta(U:H x=AG)(J:H D=AG)(s:BM x (AM (AM H D (.own x)) x (.ins C D [])) H'):An H H':=λb o e=>s b o (BH e U) (by rw[AV (BH e U),AV (BH e J)];show e)
theorem Oy(U:D≠x)(h:AM (AM H D (.own x)) x (.ins C D []) b=AG):H b=AG/\b≠x:=by
 have J:b≠x:=λz=>by rw[z,AY]at h;cases h
 have V:b≠D:=λz=>by rw[z,AV U,AY]at h;cases h
 rw[AV J,AV V]at h;show⟨h,J⟩
theorem DL.abx{st:AU}(h:DL AI [] H ss A B D G (λw w=>[]) (λw=>[]))(O:H B=AA (.dK D))(T:ss[i]?=AA st)(K:i∉A)(s:An H Z)(M:H J.d=AG)(X:EC AI [] Z J.x J.p J.d st (λw=>[]) []):DL AI [] (AM Z B (.dK (Bh D (.inl (i:Int)) (.ref J.x)))) ss (A++[i]) B (Bh D (.inl (i:Int)) (.ref J.x)) (λk=>if k=i then J else G k) (λw w=>[]) (λw=>[]):=by
  have S:Bq _ Z (AM Z B (.dK (Bh D (.inl (i)) (.ref J.x)))):=zzu
  have P:∀b,b=B->(b∈([])/\∃j,Z b=AA (.lst j))\/∃I,Z b=AA (.dK I):=λb a=>.inr ⟨D,by rw[a];show s _ _ O⟩;have Q:=(BH O M).symm;have W:∀{k:Nat},k∈A->k≠i:=λU z=>K (by rw[<-z];show U);have N:∀{k:Nat},k∈A->J.d≠(G k).d:=λ{k}U=>by obtain⟨_,_,_,g⟩:=h.js k U;show(BH g.ar.ah M).symm
  have Y:∀{k:Nat},k∈A++[i]->k∈A\/k=i:=λU=>(Ce.mp U).imp id Bm.mp;show⟨.inl AY,λk U=>?_,λk U c E R=>?_,λk U=>?_⟩
  . rcases Y U with U|rfl;. obtain⟨L,e,v,g⟩:_:=h.js k U;rw[AEz (W U)];show⟨L,e,by rw[IW,AEz (λz=>W U (by lia))];show v,(g.ag s).fh S P (h.jy k U).symm⟩
    . rw[AE0 rfl];show⟨st,T,by rw[IW,AE0 rfl],X.fh S P Q⟩
  . rcases Y U with F|rfl
    . rcases Y E with C|rfl
      . rw[AEz (W F),AEz (W C)];show h.bh k F c C R
      . rw[AEz (W F),AE0 rfl];show(N F).symm
    . rcases Y E with C|rfl
      . rw[AE0 rfl,AEz (W C)];show N C
      .show absurd rfl R
  . rcases Y U with U|rfl;. rw[AEz (W U)];show h.jy k U
    . rw[AE0 rfl];show Q.symm
theorem NL.abx(h:NL W Y D)(U:i∉W)(J:Fy):NL (W++[i]) (λk=>if k=i then J else Y k) (Bh D (.inl (i:Int)) (.ref J.x)):=by
 show⟨λp B=>?_,Mo h.nd⟩;rcases N0 B with rfl|⟨A,_⟩;.show⟨i,FE _ (.head _),by rw[AE0 rfl]⟩
 . obtain⟨k,Z,e⟩:_:=h.yy p A;show⟨k,Hn _ Z,by rw[AEz (λz=>U (by rw[<-z];show Z))];show e⟩
def nR(A:Br):BF:=λB H Q O=>(EB λ(Z:AB)(z:List AE)(J:List AU)=>Ek (B=[.ref Z]) (H Z=AA (.lst z)) (Fz H z J) (J.length<=20) (∀U W D Y,An H U->H W=AG->U W=AA (.dK D)->D.length<=J.length->NL (Am J) Y D->DL A [] U J (Am J) W D Y (λO O=>[]) (λO=>[])->(∀i∈Am J,H (Y i).d=AG)->Q (.ref W) U))
theorem XW(T:BL AJ Af AI):T.ui.Ok BC P w Af base 3 (nR AI):=by
  show T.ui.ok λnd _ _ _ _ _ hr H vs Q E h=>?_;obtain⟨lp,ps,Y,rfl,c,pr,lss,k⟩:_:=h;show⟨_,(Ai (Aw 1 nd Mq) (Ai (DB DK rfl (DA (K:=AJ) (BE (lC T) hr #v[AD 0])) (Cc 2 nd) (Ab (KP hr.u1 (AD 1) (AD 2) (Ma (jZ T) hr T.aaq JL #v[DR AJ (AD 0) (AD 2)]) rfl))) (Ab (BD (AD 1))))),?_⟩;have sz:Az=16777216:=Dj;have lps:=pr.gf;intro O N;show BK (o:=.dK []) N λH0 u X=>?_;show⟨lp,ps,Y,rfl,u _ _ c,pr.ab u.tp,Ag lss (by decide),λH1 lt s1 hlt f=>?_⟩;have lts:(Am Y).length<=Y.length:=Ag (FY _ _) (by rw[OI];show Aj _);show⟨lt,rfl,⟨_,Ac f⟩,GP (K:=AJ) (xs:=(Am Y).map λi:Nat=>AE.int (i:Int)) (λn r R=>(EB λ(o2:Option AE)(D:List (AN×AE))(L:Nat->Fy)=>ID (r=[AA (.ref lp),AA (.ref O),o2]) (An H R) (R lt=AA (.lst ((Am Y).map λi:Nat=>AE.int (i:Int)))) (R O=AA (.dK D)) (D.length<=n) (NL ((Am Y).take n) L D) (DL AI [] R Y ((Am Y).take n) O D L (λ_ _=>[]) (λ_=>[])) (∀i∈(Am Y).take n,H (L i).d=AG))) ⟨AG,[],λ_=>⟨0,0,0⟩,rfl,u.aa s1,f,s1 _ _ X,Aj _,⟨λp hp=>(by cases hp),.nil⟩,⟨.inl (s1 _ _ X),λi Z=>(by cases Z),λi Z=>(by cases Z),λi Z=>(by cases Z)⟩,λi Z=>(by cases Z)⟩ (λn r R _ hh=>by obtain⟨_,_,_,_,_,e,_⟩:=hh;show Ac e) ?_ ?_⟩
  . intro n y r I hy v;lk;obtain⟨o2,D,L,rfl,s2,W,A,G,C,F,B⟩:=v;rw[Bt]at hy;obtain⟨i,Z,rfl⟩:=EA.mp hy;obtain⟨st,s,ht⟩:=IJ.mp (Cm Z);obtain⟨a,ea,eq⟩:∃a,ps[i]?=AA (.ref a)/\Dl H a st:=by have t:=Ck (show i<ps.length by rw[lps];show(BU.mp s).1);obtain⟨a,s',e1,e2,e3⟩:=pr.at t;rw[s]at e2;cases e2;rw[e1]at t;show⟨a,t,e3⟩
    k_in;have hnt:n<(Am Y).length:=(BU.mp Z).1;have m:i∉(Am Y).take n:=λhm=>by obtain⟨j,hj,e⟩:=Gk.mp hm;rw[Er]at hj;rw[OH]at e;obtain⟨h2,g2⟩:=BU.mp Z;show(Gn.mp (pV Y)) j n (BY hj (P1 _ _)) h2 (AE9 hj (b8 (B8 hnt))) (e.trans g2.symm)
    show⟨_,_,Ac (s2 _ _ c),Ap ea,λx U hx hdx hxn=>⟨x,U,a,rfl,AY,λd hd=>⟨rfl,?_⟩⟩⟩;obtain⟨M,ndx⟩:=Oy hxn hd;have s3:An I (AM (AM (AM (AM (AM I U (.own x)) x (.ins AI.bb U [])) x (.ins AI.bb U [("step",.ref a)])) d (.dK [])) x (.ins AI.bb U [("step",.ref a),("rows",.ref d)])):=λb o e=>by have n1:=BH e hx;rw[AV n1,AV (BH e M),AV n1,AV n1,AV (BH e hdx)];show e
    have g:(AM (AM (AM (AM (AM I U (.own x)) x (.ins AI.bb U [])) x (.ins AI.bb U [("step",.ref a)])) d (.dK [])) x (.ins AI.bb U [("step",.ref a),("rows",.ref d)])) x=AA (.ins AI.bb U [("step",.ref a),("rows",.ref d)]):=AY;have S:(AM (AM (AM (AM (AM I U (.own x)) x (.ins AI.bb U [])) x (.ins AI.bb U [("step",.ref a)])) d (.dK [])) x (.ins AI.bb U [("step",.ref a),("rows",.ref d)])) d=AA (.dK []):=by rw[AV ndx];show AY
    generalize AM (AM (AM (AM (AM I U (.own x)) x (.ins AI.bb U [])) x (.ins AI.bb U [("step",.ref a)])) d (.dK [])) x (.ins AI.bb U [("step",.ref a),("rows",.ref d)])=H3 at s3 g S⊢;show⟨O,_,rfl,UH.k (k:=.inl (i:Int)) (s3 _ _ A) (by lia),?_⟩;have lk:=Tr D (.inl (i:Int)) (.ref x);have tk:(Am Y).take (n+1)=(Am Y).take n++[i]:=by rw[D2,Z];rfl
    have nlt:lt≠O:=λz=>by rw[z,A]at W;cases W
    show⟨_,Bh D (.inl (i:Int)) (.ref x),λk=>if k=i then⟨x,a,d⟩else L k,rfl,(s2.aa s3).zg N,by rw[AV nlt];show s3 _ _ W,AY,Ag lk (HQ.mpr G),by rw[tk];show C.abx m ⟨x,a,d⟩,?_,λk' l=>?_⟩;. rw[tk];show F.abx (J:=⟨x,a,d⟩) A s m s3 M ⟨⟨U,g⟩,(s2.aa s3) _ _ eq,S,.nil,λq hq=>(by cases hq),λkey ne=>absurd rfl ne⟩
    . rw[tk]at l;dsimp only;by_cases q:k'=i
      . rw[AE0 q];show s2.bc M
      . rw[AEz q];show B k' ((Ce.mp l).elim id λh=>absurd (Bm.mp h) q)
  . intro r I v;obtain⟨o2,D,L,rfl,s2,W,A,G,C,F,B⟩:_:=v;rw[Aq]at G C F B;rw[EH (Aj _)]at C F B;show k I O D L s2 N A (Ag G lts) C F B
def F0(z:AF)(l:List AO):List JZ:=(l.filter λi=>Ae (i.2.1=z)).map λi=>(i.1,i.2.2)
theorem Xt(z:AF)(l m:List AO):F0 z (l++m)=F0 z l++F0 z m:=by unfold F0;rw[FD,CW]
theorem lW(p:l.Perm m):(F0 z l).Perm (F0 z m):=(p.filter _).map _
theorem Xv(z:AF)(l:List AO):(F0 z l).length<=l.length:=by unfold F0;rw[Aq];show FY _ _
theorem Xw(h:x∈F0 z l):∃i∈l,i.1=x.1:=by obtain⟨i,D,rfl⟩:_:=Ay.mp h;show⟨i,(D1.mp D).1,rfl⟩
def AU.fd:AU->AF|AU.gap _ a _ _|AU.each _ a _ _ _=>a|_=>""
def Gb(s:AU)(now:Int)(l:List AO)(z:AF):List AX:=Jb now (Iy s (F0 z l))
theorem mN(D:s.ig)(J:now<=x.1):ER (Gb s now l) x.2.1 (s.ie x.1 x.2.2 (Gb s now l x.2.1))=Gb s now (l++[x]):=by
  funext z;by_cases q:z=x.2.1
  . have e:F0 z [x]=[(x.1,x.2.2)]:=by change(R5 _ _).map _=_;rw[Pp (by show AE1 q.symm)];rfl
    unfold Gb;rw[Xt,e,gI,(fV D (WN D) J).1,q,J8]
  . have e:F0 z [x]=[]:=by change(R5 _ _).map _=_;rw[OE (by rw[AE6];show DJ q)];rfl
    unfold Gb;rw[HZ q,Xt,e,Dw]
theorem T2{s:AU}(D:s.ig):s.gd (Gb s now l z):=fT (WN D) Mx
theorem mM(D:s.ig)(p:l.Perm m):Gb s now l=Gb s now m:=by funext z;unfold Gb;rw[gH D (lW p)]
theorem T3(J:s.ig)(U:∀x∈l,0<=x.1/\x.1<=1000000000):(Gb s now l z).length<=5*l.length:=by
 have W:(Gb s now l z).length<=(Iy s _).length:=FY _ _;have Y:=WO (ps:=F0 z l) J λx V=>by obtain⟨i,D,e⟩:=Xw V;rw[<-e];show U i D
 have:=Xv z l;lia
def KC(ss:List AU)(now:Int)(F:Nat->List AO)(i:Nat):AF->List AX:=match ss[i]? with|AA s=>Gb s now (F i)|AG=>λO=>[]
theorem Kn(e:ss[i]?=AA s):KC ss now F i=Gb s now (F i):=by unfold KC;rw[e]
def EW(ss:List AU)(i:Nat):AF:=match ss[i]? with|AA s=>s.fd|AG=>""
theorem HV(e:ss[i]?=AA s):EW ss i=s.fd:=by unfold EW;rw[e]
abbrev CT(ss:List AU)(now:Int)(L:AF->List AO):Nat->AF->List AX:=KC ss now λi=>L (EW ss i)
theorem KD(e:ss[i]?=AA s):CT ss now L i=Gb s now (L s.fd):=by change KC ss _ _ i=_;rw[Kn e,HV e]
theorem DL.qk(h:DL AI ex H ss J U D W Y gk)(e:∀i∈J,gg' i=Y i):DL AI ex H ss J U D W gg' gk:=⟨h.ah,λi Z=>by obtain⟨A,z,v,g⟩:_:=h.js i Z;show⟨A,z,v,by rw[e i Z];show g⟩,h.bh,h.jy⟩
def GH(D:List (Int×AO))(i:Nat):List AO:=(D.filter λp=>Ae (p.1=(i:Int))).map (·.2)
theorem W3(a b:List (Int×AO))(i:Nat):GH (a++b) i=GH a i++GH b i:=by unfold GH;rw[FD,CW]
theorem TY{D:List (Int×AO)}{p:Int×AO}(e:D[n]?=AA p)(i:Nat):GH (D.take (n+1)) i=GH (D.take n) i++(if p.1=(i:Int)then[p.2]else[]):=by
 rw[D2,e,W3];congr 1;change(R5 _ [p]).map _=_;by_cases q:p.1=(i)
 . rw[AE0 q,Pp (by show AE1 q)];rfl
 . rw[AEz q,OE (by rw[AE6];show q)];rfl
theorem iH(D:List (Int×AO))(n i:Nat):(GH (D.take n) i).Sublist (GH D i):=((yV n D).filter _).map _
theorem W4(l:List AO)(j i:Nat):GH (l.map λx=>((j:Int),x)) i=if j=i then l else[]:=by
 unfold GH;by_cases q:j=i
 . rw[AE0 q,Mw.mpr λp D=>by obtain⟨x,_,rfl⟩:_:=Ay.mp D;show AE1 (by rw[q]),Dh];show ABn l
 . rw[AEz q,Jm.mpr λp D=>by obtain⟨x,_,rfl⟩:_:=Ay.mp D;rw[AE6];show LI q (λJ=>LU.mp J)];rfl
theorem YY(e:ss[i]?=AA s)(U:s.cp=AK):∀N,GH (FI ss bt N) i=if i<N then bt s.nm else[] |0=>rfl|N+1=>by change GH (FI ss bt N++_) i=_;rw[W3,YY e U N];cases q:ss[N]? with |none=> have:=(BU.mp e).1;have:=R8.mp q;rw[AE0 (by lia),AE0 (by lia)];show Dw _|some J=>
      change _++GH (if J.cp=AK then(bt _).map _ else[]) i=_;by_cases h:N=i
      . subst h;rw[e]at q;cases q;rw[AEz (Ht _),AE0 U,W4,AE0 rfl,AE0 (KS _)];rfl
      . have V:GH (if J.cp=AK then(bt J.nm).map λi=>((N),i)else[]) i=[]:=by
          split;.rw[W4,AEz h]
          .rfl
        rw[V,Dw];by_cases D:i<N;.rw[AE0 D,AE0 (ON D)]
        .rw[AEz D,AEz (LI D (λW=>DU (Dc W) (DJ h)))]
theorem YZ:∀{N:Nat}{p:Int×AO},p∈FI ss bt N->∃(i:Nat)(s:AU),ss[i]?=AA s/\s.cp=AK/\p.1=(i:Int)/\p.2∈bt s.nm
 |0,p,h=>by cases h|N+1,p,h=>by
  rcases Ce.mp h with h|h;.show YZ h
  .cases q:ss[N]? with |none=>rw[q]at h;cases h|some s=>
   rw[q]at h;have h:p∈if s.cp=AK then(bt _).map _ else[]:=h;split at h
   . rename_i D;obtain⟨x,J,rfl⟩:_:=Ay.mp h;show⟨N,s,q,D,rfl,J⟩
   .cases h
theorem C4.ig(h:C4 ss){i:Nat}(e:ss[i]?=AA s)(D:s.cp=AK):s.ig/\s.so∈GY/\s.cg=[s.fd]:=by have:=h.ok s (Cm e);cases s with|gap n a J m=>show⟨this.1,this.2,rfl⟩|each n a J z d=>show⟨this.1,this.2,rfl⟩|_=>cases D
def GG(ss:List AU)(J:Nat->EI)(D:Nat->Fy)(b:AB):Prop:=DF ss J b\/∃i∈Am ss,b=(D i).d
def oR(F:Br):BF:=λR H Q S=>(WA λ(O I G q:AB)(P:List AE)(D:List AU)(W:List (AN×AE))(B:Nat->EI)(C:Nat->List AO×List AO)(L Y:AF->List AO)(Z:List Bd)(e:Bd)(J:Int)(U:List (AN×AE))(z:Nat->Fy)(N:Nat->List (AN×AE))=>V4 (R=[.ref O,.ref I,.ref G,.ref q]) (H O=AA (.lst P)) (Fz H P D) (C4 D) (D.length<=20) (CY F [] H D I W B C) (Ip H q e) ((∀(i:Nat)s,D[i]?=AA s->s.cp=AR->L s.nm=Ee s L Z/\Y s.nm=Ee s Y (Z++[e])/\(Y s.nm).length<=600)) ((∀(i:Nat)n a b K,D[i]?=AA (.join n a b K)->(C i).1.Perm (BO (J-K) (L a))/\(C i).2.Perm (BO (J-K) (L b)))) (J<=e.1) (DL F [] H D (Am D) G U z (CT D J L) N) ((∀i∈Am D,(N i).length<=(L (EW D i)).length)) ((∀(i:Nat)s,D[i]?=AA s->s.cp=AR->∀x∈Y s.nm,0<=x.1/\x.1<=1000000000)) ((∀i∈Am D,¬DF D B (z i).d/\I≠(z i).d)) (¬DF D B G) (∀E M A,Bq (GG D B z) H E->CY F [] E D I W B (Ef D C D.length M)->DL F [] E D (Am D) G U z (CT D J Y) A->(∀i∈Am D,(A i).length<=(Y (EW D i)).length)->(∀(i:Nat)s,D[i]?=AA s->GW s M (C i) e)->Q .non E))
theorem Ql(V:C4 ss){L J:AF->List AO}{sd:Nat->List AO×List AO}(F:now<=e.1)(A:∀(i:Nat)s,ss[i]?=AA s->s.cp=AR->L s.nm=Ee s L evs/\J s.nm=Ee s J (evs++[e])/\(J s.nm).length<=600)(W:∀(i:Nat)n a b wi,ss[i]?=AA (.join n a b wi)->(sd i).1.Perm (BO (now-wi) (L a))/\(sd i).2.Perm (BO (now-wi) (L b)))(Z:∀(i:Nat)s,ss[i]?=AA s->GW s bt (sd i) e):∀(m i:Nat)s,i<m->ss[i]?=AA s->s.cp=AR->(J s.nm).Perm (L s.nm++bt s.nm)|0,i,s,z,_,_=>absurd z (Ia _)|m+1,i,s,z,D,B=>WR B (A i s D B).1 (A i s D B).2.1 (λa Y=>by obtain⟨C,E,l,U,rfl,G⟩:_:=V.oq i s a D Y;show Ql V F A W Z m C E (BY l (Dc z)) U G) (λn a b wi q=>W i n a b wi (by rw[<-q];show D)) (λa Y=>by obtain⟨C,E,l,U,rfl,G⟩:_:=V.oq i s a D Y;show V.abe F W (λi s O D=>Z i s D) _ (Aj _) C E (BU.mp U).1 U) (Z i s D)
theorem Xc(T:BL AJ Af AI):T.um.Ok BC P w Af base 6 (oR AI):=by
  show T.um.ok λnd O O O O O hr H vs Q E h=>?_;obtain⟨lp,dj,dg,q,ps,ss,jkvs,jd,sd,L,L',evs,e,now,gkvs,gd,gk,rfl,elp,pr,pok,lss,jr,ev,hL,hS,he,gr,lgk,tm,apt,ndg,k⟩:_:=h;show⟨_,(Ab (DB DK rfl (DA (K:=AJ) (BE (k4 T) hr #v[AD 0,AD 1,AD 3])) (J7 rfl (Eb (Cc 4 nd) (Eb (Cc 5 nd) Jk))) (Ab (D8 (EX (Fm hr.u1 (AD 2) (AD 4) (λO O=>rfl)) T.cb (j8 T) hr #v[AD 5]))))),?_⟩;have sz:Az=16777216:=Dj;show⟨[],lp,dj,q,ps,ss,jkvs,jd,sd,L,L',evs,e,now,rfl,elp,pr,pok,lss,jr,(λc hc=>by cases hc),ev,hL,hS,he,λH1 m xs bt s1 jr1 hm em its br1=>?_⟩;have jr1:=jr1.iw;have ap:=Ql pok he hL hS br1 ss.length;have nw:=pok.abe he hS (n:=ss.length) (λi s O ei=>br1 i s ei) ss.length (Aj _);have isd:∀b,DF ss jd b->∃kvs,H b=AA (.dK kvs):=λb hb=>jr.rl hb;have gr1:=gr.fh s1 (λb hb=>.inr (isd b hb)) (λi hi=>(apt i hi).1) ndg;have tel:∀{i:Nat},i∈Am ss->∃s,ss[i]?=AA s/\s.ig/\(L' s.fd).Perm (L s.fd++bt s.nm)/\(L' s.fd).length<=600/\(∀x∈L' s.fd,0<=x.1/\x.1<=1000000000)/\(∀x∈bt s.nm,now<=x.1)/\GH (FI ss bt ss.length) i=bt s.nm:=λ{i}hi=>by
    obtain⟨s,es,ht⟩:=IJ.mp hi;obtain⟨tk,_,fd⟩:=pok.ig es ht;obtain⟨i',s',l,e',en,t'⟩:=pok.oq i s s.fd es (by rw[fd];show .head _);have hi':i<ss.length:=(BU.mp es).1;have pp:=ap i' s' (LH l hi') e' t';have eb:bt s.nm=bt s.fd:=by have:=br1 i s es;cases s with |gap n a so m=>show this|each n a so z d=>show this|_=>cases ht
    rw[en]at pp;show⟨s,es,tk,by rw[eb];show pp,by rw[<-en];show(hL i' s' e' t').2.2,by rw[<-en];show tm i' s' e' t',nw i s hi' es,?_⟩;rw[YY es ht,AE0 hi']
  have lx:=its.gf;have hmd:¬∃i∈Am ss,m=(gd i).d:=λ⟨i,hi,z⟩=>by obtain⟨_,_,_,g⟩:=gr1.js i hi;have:=g.ar.ah;rw[<-z,em]at this;cases this
  show⟨m,rfl,⟨_,Ac em⟩,GP (K:=AJ) (xs:=xs) (λn σ H'=>(EB λ(o4 o5:Option AE)(gk':Nat->List (AN×AE))=>JX (σ=(gD lp dj dg q o4 o5)) (Bq (λb=>∃i∈Am ss,b=(gd i).d) H1 H') (DL AI [] H' ss (Am ss) dg gkvs gd (KC ss now λi=>L (EW ss i)++GH ((FI ss bt ss.length).take n) i) gk') (∀i∈Am ss,(gk' i).length<=(L (EW ss i)).length+(GH ((FI ss bt ss.length).take n) i).length))) ⟨AG,AG,gk,rfl,λb o O e=>e,?_,λi hi=>by rw[ABv];show lgk i hi⟩ (λn σ H' O hh=>by obtain⟨_,_,_,_,s',_⟩:=hh;show Ac (s' _ _ hmd em)) ?_ ?_⟩
  . show gr1.qk λi hi=>?_;obtain⟨s,es,_⟩:_:=tel hi;rw[Kn es,KD es,HV es,ABv];change Gb s now (L s.fd++[])=_;rw[Dw]
  . intro n y σ H2 hy hI;lk;obtain⟨o4,o5,gk',rfl,s2,gr2,lg2⟩:=hI;obtain⟨a,qi,pl,it,rfl,ep,ea,eqi⟩:=its.at hy;obtain⟨i,s,es,ht,e1,hx⟩:=YZ (Cm ep);k_in;have e1:pl=(i:Int):=e1;subst e1;have hi:i∈Am ss:=IJ.mpr ⟨s,es,ht⟩;lk;obtain⟨s',es',tk,pp,l6,tms,nws,ib⟩:=tel hi;rw[es]at es';cases es';obtain⟨s',es',v,g⟩:=gr2.js i hi;rw[es]at es';cases es';rw[Kn es,HV es]at g;have nt:∀{b:AB}{xs:List AE},H1 b=AA (.tup xs)->H2 b=AA (.tup xs):=λ{b xs}e=>s2 _ _ (λ⟨i,hi,z⟩=>by obtain⟨_,_,_,g⟩:=gr1.js i hi;have:=g.ar.ah;rw[<-z,e]at this;cases this) e;have sub:=iH (FI ss bt ss.length) n i;rw[ib]at sub;have mem:∀x∈L s.fd++GH ((FI ss bt ss.length).take n) i,0<=x.1/\x.1<=1000000000:=λx hx=>tms x (pp.mem_iff.mpr ((Ce.mp hx).elim (λh=>Hn _ h) λh=>FE _ (sub.mem h)));have ll:=pp.length_eq;rw[Bx]at ll;have sl:=sub.length_le;have lg:=lg2 i hi;rw[HV es]at lg;have tmx:=tms it (pp.mem_iff.mpr (FE _ hx));obtain⟨dx,eo⟩:=g.au;k_in;have gl:=λz=>T3 (z:=z) (now:=now) tk mem;show⟨a,_,rfl,Ar (nt ea),rfl,_,_,rfl,_,_,rfl,rfl,?_⟩;show⟨dg,.ref (gd i).x,rfl,by rw[<-v];show .inl ⟨gkvs,.inl (i:Int),gr2.ah,rfl,rfl⟩,?_⟩;show⟨(gd i).x,dx,_,rfl,eo,by rfl,[],(gd i).x,(gd i).p,(gd i).d,qi,s,_,gk' i,it,rfl,g,(λc hc=>by cases hc),tk,T2 tk,tmx.1,tmx.2,nt eqi,?_,by lia,λH3 k3 s3 g3 l3=>?_⟩
    . have:=gl it.2.1;rw[Bx]at this;lia
    . rw[mN tk (nws it hx)]at g3;have gr3:=gr2.ku hi es s3 g3;show⟨_,_,_,rfl,λb o nb e=>s3 _ _ (λz=>nb ⟨i,hi,z⟩) (s2 b o nb e),gr3.qk λk hk=>?_,λk hk=>?_⟩
      . by_cases q:k=i;. subst q;rw[AE0 rfl,Kn es,HV es,TY ep,AE0 rfl,FN]
        . rw[AEz q];obtain⟨sk,ek,_⟩:_:=tel hk;rw[Kn ek,Kn ek,TY ep,AEz (by change¬(i:Int)=(k:Int);show LI q (λu1=>LU.mp u1.symm)),Dw]
      . have:=lg2 k hk;rw[TY ep,Bx];by_cases q:k=i
        . subst q;rw[AE0 rfl,AE0 rfl];change k3.length<=_+(_+1);show Ag l3 (HQ.mpr this)
        . rw[AEz q];lia
  . intro σ H2 hI;obtain⟨o4,o5,gk',rfl,s2,gr2,lg2⟩:_:=hI;rw[lx,EH (Aj _)]at gr2 lg2;show k H2 bt gk' (λb o nb e=>s2 _ _ (λz=>nb (.inr z)) (s1 b o (λz=>nb (.inl z)) e)) (jr1.fh s2 (λb⟨i,hi,z⟩=>.inr ?_) (λb⟨i,hi,z⟩=>by rw[z];show(apt i hi).1) λ⟨i,hi,z⟩=>(apt i hi).2 z) (gr2.qk λi hi=>?_) (λi hi=>?_) br1
    . obtain⟨_,_,_,g⟩:_:=gr1.js i hi;show⟨_,by rw[z];show g.ar.ah⟩
    . obtain⟨s,es,tk,pp,_,_,_,ib⟩:_:=tel hi;rw[KD es,Kn es,HV es,ib];show mM tk pp
    . obtain⟨s,es,tk,pp,_,_,_,ib⟩:_:=tel hi;have:=lg2 i hi;rw[ib,HV es]at this;rw[HV es,pp.length_eq,Bx];show this
theorem CY.mh(h:CY AI ex H ss Y D I sd)(e:F2 H' Y (.dK D))(F:∀b,b≠Y->H' b=H b):CY AI ex H' ss Y D I sd:=by
 have U:∀{b:AB}{W:BW},H b=AA W->(∀o u,W≠.frz o u)->(∀u,W≠.dK u)->H' b=AA W:=λ{b W}J R Z=>by
  rw[F b λz=>by
   rw[z]at J;rcases h.ah with G|⟨X,G⟩<;>rw[G]at J;.show Z _ (By J).symm
   .show R _ _ (By J).symm];show J
 have K:Bk H H':=λb M J=>U J (by intro o u z;cases z) nofun;show⟨e,λi n a b L B=>⟨(h.fw i n a b L B).1,?_⟩,h.bh,h.wu⟩;have Z:=h.wu i ⟨_,_,_,_,B⟩;obtain⟨⟨A,O⟩,N,T,r1,S,Q⟩:_:=(h.fw i n a b L B).2;show⟨⟨A,U O (by intro o u z;cases z) nofun⟩,U N (by intro o u z;cases z) nofun,T.ab (λC A P e=>U e (by intro o u z;cases z) nofun) (λE e=>by rw[F _ Z.1.symm];show e) (λb M n e=>U e (by intro o u z;cases z) nofun) K,r1.ab (λC A P e=>U e (by intro o u z;cases z) nofun) (λE e=>by rw[F _ Z.2.symm];show e) (λb M n e=>U e (by intro o u z;cases z) nofun) K,S,Q⟩
def MT(ss:List AU)(now:Int)(sd:Nat->List AO×List AO)(i:Nat):List AO×List AO:=match ss[i]? with|AA (.join _ _ _ D)=>(BO (now-D) (sd i).1,BO (now-D) (sd i).2)|_=>sd i
theorem TH(e:ss[i]?=AA (.join n a b wi)):MT ss now sd i=(BO (now-wi) (sd i).1,BO (now-wi) (sd i).2):=by unfold MT;rw[e]
def nB(A:Br):BF:=λB H Q O=>(IG λ(W:AB)(J:List AU)(D:List (AN×AE))(Y:Nat->EI)(Z:Nat->List AO×List AO)(U:Int)=>Im (B=[.ref W,.int U]) (H W=AA (.dK D)) (Jw J J.length Y D) (CY A [] H J W D Y Z) ((∀i,DX J i->(Z i).1.length<=1000/\(Z i).2.length<=1000)) (∀z,Bq (DF J Y) H z->CY A [] z J W D Y (MT J U Z)->Q .non z))
theorem XT(T:BL AJ Af AI):T.vd.Ok BC P w Af base 4 (nB AI):=by
  show T.vd.ok λM _ _ _ _ _ hr H vs Q E h=>?_;obtain⟨J,R,D,W,O,C,rfl,f,jk,s,ln,k⟩:_:=h;show⟨_,(Ab (Lz (DB DK rfl (vH (AD 0) rfl rfl) (Cc 2 M) (Ab (D8 (EX (AD 2) T.fm (kF T) hr #v[AD 1])))))),?_⟩;show⟨J,(λo u z=>by rw[f]at z;cases z),J,D,rfl,f,λo H1 e1=>?_⟩;subst e1;have B:∀b,b≠J->(AM H J (.frz o (.dK D))) b=H b:=λb Y=>AV Y;have I:=s.mh (.inr ⟨o,AY⟩) B;have F:(AM H J _) J=AA (.frz o (.dK D)):=AY;generalize AM H J _=H1 at B I F⊢;show sO (λn X L=>∃x:Option AE,X=[AA (.ref J),AA (.int C),x]/\L J=AA _/\Bq (DF R W) H1 L/\CY AI [] L R J D W λi=>if(.inl (i:Int):AN)∈(D.take n).map (·.1)then MT R C O i else O i) ⟨AG,rfl,F,λb o _ e=>e,I⟩ (λn X L _ hh=>by obtain⟨_,_,e,_⟩:=hh;show e) ?_ ?_
  . intro n p X H2 l g;lk;obtain⟨x,rfl,Z,s2,U⟩:=g;obtain⟨i,_,⟨m,a,b,S,A⟩,rfl⟩:=jk.yy p (Cm l);have t:(.inl (i:Int):AN)∉(D.take n).map (·.1):=λhm=>by
      rw[bP]at hm;obtain⟨j,hj,e⟩:=Gk.mp hm;rw[Er]at hj;rw[OH]at e;have e2:(D.map (·.1))[n]?=AA (.inl (i:Int)):=by rw[Bt,l];rfl
      obtain⟨h2,g2⟩:=BU.mp e2;show(Gn.mp jk.nd) j n _ h2 (BY hj (Jo _ _)) (e.trans g2.symm)
    have r:=(U.fw i m a b S A).2;rw[AEz t]at r;obtain⟨d,eo⟩:=r.au;obtain⟨l0,l1⟩:=ln i ⟨_,_,_,_,A⟩;k_in;have G:DX R i:=⟨_,_,_,_,A⟩;show⟨(W i).j,d,_,rfl,eo,by rfl,[],(W i).j,(W i).sl,(W i).x0,(W i).x1,(W i).d0,(W i).d1,S,C,(O i).1,(O i).2,rfl,r,(λc hc=>by cases hc),l0,l1,λH3 y j3=>?_⟩;have M:=s.wu i G;show⟨_,rfl,y _ _ M.1 M.2 Z,λb o Y e=>y _ _ (λz=>Y ⟨i,G,.inl z⟩) (λz=>Y ⟨i,G,.inr z⟩) (s2 b o Y e),(U.ku A y j3).av λi' hi'=>?_⟩;have tk:(D.take (n+1)).map (·.1)=(D.take n).map (·.1)++[.inl (i:Int)]:=by rw[D2,l,CW];rfl
    rw[tk];by_cases q:i'=i;. subst q;rw[AE0 rfl,AE0 (FE _ (.head _)),TH A]
    . rw[AEz q];by_cases N:(.inl (i':Int):AN)∈(D.take n).map (·.1);.rw[AE0 N,AE0 (Hn _ N)]
      .rw[AEz N,AEz λz=>(Ce.mp z).elim N λz=>q (by have:=Ij (Bm.mp z);show LU.mp this)]
  . intro X H2 g;obtain⟨x,rfl,Z,s2,U⟩:_:=g;rw[EH (Aj _)]at U;show⟨o,_,Z,k _ (λb ob Y e=>?_) ((U.mh (.inl AY) λb Y=>AV Y).av λi G=>?_)⟩
    . by_cases q:b=J
      . rw[q,f]at e;cases e;rw[q];show AY
      . rw[AV q];show s2 b ob Y (by rw[B b q];show e)
    . lk;obtain⟨m,a,b,S,A⟩:=G;obtain⟨v,_⟩:=s.fw i m a b S A;k_in;rw[AE0 (Ay.mpr ⟨_,GS v,rfl⟩)]
def oW:BF:=λY H Q O=>(EB λ(l:AB)(D J:List AE)=>Ek (Y=[.ref l]) (H l=AA (.lst D)) (D.length<=16000000) (BJ (λx y=>∃a U u2 u3 W,x=.ref a/\H a=AA (.tup [U,u2,u3,W,y])) D J) (∀r,H r=AG->Q (.ref r) (AM H r (.lst J))))
theorem Xe(T:BL AJ Af AI):T.wm.Ok BC P w Af base 1 oW:=by
 show T.wm.ok λnd O O O O O hr H vs Q E h=>?_;obtain⟨l,xs,ys,rfl,el,lx,pr,k⟩:_:=h;show⟨_,(Ab (BD (IQ (DG YB) [] trivial (DA (AD 0)) (λO O O O=>G0) (λO O O O=>(BA AJ (AD 0) AQ))))),?_⟩;have sz:=Dj;obtain⟨le,pa⟩:=CJ pr;show⟨l,rfl,⟨_,Ac el⟩,IL (xs:=xs) (λn τ acc H'=>(∃o,τ=[o])/\H'=H/\acc=ys.take n) (by lia) ⟨⟨_,rfl⟩,rfl,rfl⟩ (λn τ acc H'⟨_,e,_⟩=>by rw[e];show Ac el) ?_ ?_⟩
 . intro n y τ acc H' R1 hy _ hI k1;lk;obtain⟨⟨o,rfl⟩,rfl,rfl⟩:=hI;have ey:=Ck (by rw[<-le];show(BU.mp hy).1);obtain⟨a,u1,u2,u3,u4,rfl,ea⟩:=pa n _ _ hy ey;k_in;show⟨_,_,Ar ea,Ap rfl,k1 _ _ _ ⟨⟨_,rfl⟩,rfl,by rw[D2,ey];rfl⟩⟩
 . intro τ acc H' _ hI D hD;obtain⟨_,rfl,rfl⟩:_:=hI;rw[EH (Bi le.symm)];show k D hD
abbrev DM:=Nat×AF×AX
def De(q:DM):List AN:=[.inl q.2.2.2.1,.inl (q.1:Int),.inr q.2.1,.inl q.2.2.1]
def Kg(ss:List AU)(H:AH)(x:AE)(q:DM):Prop:=∃(a r:AB)(s:AU),ss[q.1]?=AA s/\x=.ref a/\H a=AA (.tup ((De q).map Au++[.ref r]))/\H r=AA (.tup ((NU s q.2.1 q.2.2).map Au))
theorem J6(h:BJ (Kg ss H) xs qs)(t:Bk H H'):BJ (Kg ss H') xs qs:=ES (λO O W=>by obtain⟨a,r,s,D,e,J,U⟩:=W;show⟨a,r,s,D,e,t _ _ J,t _ _ U⟩) h
theorem T7{ys:List AE}{R:List α}(h:BJ F ys R){qs:List (AE×List AN)}(p:qs.Perm (ys.zip (R.map key))):∃J,J.Perm R/\BJ F (qs.map (·.1)) J/\J.map key=qs.map (·.2):=by
 lk;obtain⟨H,A⟩:=CJ h;have B:BJ (λ(m)(q)=>F q.1 m/\key m=q.2) R (ys.zip (R.map key)):=by show Gz (by simp_all) λi m q D U=>?_;obtain⟨W,Y⟩:=L6.mp U;rw[Bt,D]at Y;show⟨A i _ m W D,By Y⟩
 obtain⟨J,C,E⟩:=Pb p B;obtain⟨z,Z⟩:=CJ E;k_in;show⟨J,C,Gz (by rw[Aq,z]) λi v m D U=>?_,?_⟩
 . rw[Bt]at D;obtain⟨q,W,rfl⟩:_:=EA.mp D;show(Z i m q U W).1
 . show yJ λi=>?_;rw[Bt,Bt];cases D:J[i]? with|none=>rw[yN (by rw[<-z];show R8.mp D)];rfl|some m=>have G:=(BU.mp D).1;have U:=Ck (show i<qs.length by simp_all);rw[U];show AE2 _ (Z i m _ D U).2
theorem YS{qs:List α}(L:sh≠[])(I:∀x q,F x q->(∃a r,x=.ref a/\H a=AA (.tup ((key q).map Au++[.ref r])))/\(key q).map C0=sh)(h:BJ F xs qs)(P:(qs.map key).Nodup):∃D:List JC,D.map Jg=qs.map key/\RI AJ H xs D sh:=by
 have O:∀{xs:List AE}{qs:List α},BJ F xs qs->∃D:List JC,D.map Jg=qs.map key/\D.map (·.1)=qs.map key/\BJ (λx(d)=>(∃a,x=.ref a/\Cs AJ H a (d.1.map Au++d.2.1.map AE.ref))/\d.1.map C0=sh) xs D:=by intro xs qs h;induction h with |nil=>show⟨[],rfl,rfl,.nil⟩|@cons x q _ _ Y _ M=> obtain⟨D,e,W,p⟩:=M;obtain⟨⟨a,r,B,U⟩,J⟩:=I x q Y;show⟨(key q,[r],[])::D,by rw[FO,FO,e];change(key q++[])::_=_;rw[Dw],by rw[FO,FO,W],.cons ⟨⟨a,B,Ar U⟩,J⟩ p⟩
 obtain⟨D,e,W,p⟩:_:=O h;show⟨D,e,L,p,λi j d A U J C=>.inl ?_⟩;have Z:(D.map (·.1))[i]?=AA d.1:=by rw[Bt,U];rfl
 have z:(D.map (·.1))[j]?=AA A.1:=by rw[Bt,J];rfl
 rw[W]at Z z;lk;obtain⟨Y,E⟩:=BU.mp Z;obtain⟨Q,G⟩:=BU.mp z;k_in;have N:i=j:=(yO P).mp (by rw[E,G,C]);subst N;rw[U]at J;cases J;show⟨rfl,rfl⟩
theorem W8(h:BJ (Kg ss H) xs qs)(W:(qs.map De).Nodup):∃D:List JC,D.map Jg=qs.map De/\RI AJ H xs D [AK,AK,AR,AK]:=YS (by decide) (λx q U=>by obtain⟨a,r,s,Y,e,J,Z⟩:=U;show⟨⟨a,r,e,J⟩,rfl⟩) h W
theorem YR(h:BJ F ys R){qs:List (AE×List AN)}(p:qs.Perm (ys.zip (R.map De))):∃D,D.Perm R/\BJ F (qs.map (·.1)) D/\D.map De=qs.map (·.2):=T7 h p
theorem Ya{α W:Type}{f:α->W}{l:List W}{m:List α}(p:l.Perm (m.map f)):∃D:List α,D.Perm m/\l=D.map f:=by
 have U:BJ _ m (m.map f):=Gz (by rw[Aq]) λi a b Y J=>by rw[Bt,Y]at J;show(By J).symm
 obtain⟨D,V,z⟩:_:=Pb p U;show⟨D,V,?_⟩;clear p U V;induction z with|nil=>rfl|cons h _ Z=>rw[h,FO,<-Z]
theorem RA(h:∀z,(g z).length<=n):∀D:List AF,(Ex g D).length<=n*D.length|[]=>Bc _|z::D=>by have:=RA h D;have J:=h z;change((g z).map _++Ex g D).length<=n*(D.length+1);rw[Bx,Aq];lia
theorem Ks:D∈Ex g J↔D.1∈J/\D.2∈g D.1:=by
 unfold Ex;rw[SA];constructor
 . intro W;lk;obtain⟨z,Z,h⟩:=W;obtain⟨p,Y,rfl⟩:=Ay.mp h;k_in;show⟨Z,Y⟩
 . rintro⟨U,V⟩;show⟨_,U,Ay.mpr ⟨_,V,rfl⟩⟩
theorem UB(J:∀z,EL (g z)):∀{D:List AF},D.Nodup->((Ex g D).map λU=>(U.1,U.2.1)).Nodup
 |[],_=>.nil|z::D,h=>by
  obtain⟨V,W⟩:=JP.mp h;change(((g z).map _++Ex g D).map _).Nodup;rw[CW];show VR.mpr ⟨?_,UB J W,λa Y b Z e=>?_⟩;. rw[Dh];show Hq.mpr ((J z).imp λ{a b}q e=>by simp_all)
  . subst e;obtain⟨x,A,rfl⟩:=Ay.mp Y;obtain⟨y,B,e⟩:=Ay.mp Z;obtain⟨p,_,rfl⟩:=Ay.mp A;have:=(Ks.mp B).1;rw[(Prod.mk.inj e).1]at this;show V this
theorem lO(h:EL l):EL (FV now l):=by cases now with|none=>show h|some n=>show h.sublist Mx
theorem lN:(FV now l).length<=l.length:=by cases now with|none=>show Aj _|some n=>show FY _ _
def m7(I:Br):BF:=λK H Q O=>(Qd λ(F:List AB)(B:AB)(J:List AU)(D:List (AN×AE))(C:Nat->Fy)(Y:Nat->AF->List AX)(G:Nat->List (AN×AE))(U:Option Int)=>MK (K=[.ref B,Kk U]) (H B=AA (.dK D)) (C4 J) (J.length<=8) (D.length<=8) (NL (Am J) C D) (DL I F H J (Am J) B D C Y G) ((∀c∈F,∃E,H c=AA (.lst E))) ((∀i∈Am J,(G i).length<=600)) ((∀i∈Am J,∀z,EL (Y i z)/\(Y i z).length<=3000)) (∀W r E A Z,Bq (λb=>∃i∈Am J,b=(C i).d) H W->DL I F W J (Am J) B D C (λi z=>Em U (Y i z)) Z->(∀i∈Am J,(Z i).length<=(G i).length)->H r=AG->W r=AA (.lst E)->BJ (Kg J W) E A->(A.map De).Nodup->DP (A.map De)->(∀q:DM,q∈A↔q.1∈Am J/\q.2.2∈FV U (Y q.1 q.2.1))->A.length<=14400000->Q (.ref r) W))
theorem XS(T:BL AJ Af AI):T.xy.Ok BC P w Af base 5 (m7 AI):=by
  show T.xy.ok λnd O O O O O hr H vs Q E h=>?_;obtain⟨ex,dg,ss,gkvs,gd,gg,gk,now,rfl,eg,pok,lss,lkv,gks,gr,hex,lgk,lgg,k⟩:_:=h;show⟨_,(C6 (Aw 2 nd (C9 Ea)) (C6 (Lz (DB DK rfl (U2 (AD 0) rfl rfl) (J7 rfl (Eb (Cc 3 nd) (Eb (Cc 4 nd) Jk))) (Ab (D8 (JM (K:=AJ) MF NB OQ Lw (AD 2) #v[(IQ (DG X9) [("place",3)] ⟨rfl,rfl,trivial⟩ (DA (K:=AJ) (EX (AD 4) T.cb (jN T) hr #v[AD 1])) (λO O O O=>G0) (λO O O O=>(Cj #v[BA AJ (AD 0) AQ,AD 1,BA AJ (AD 0) AQ,BA AJ (AD 0) AQ,AD 0])))]))))) (Ab (BD (DI (UX (K:=AJ) hr) (by rfl) T.jq P5 #v[AD 2]))))),?_⟩;have sz:Az=16777216:=Dj;showλO O O O z1=>⟨Bc _,λtl htl=>z1 _ _ ?_⟩;show BK (o:=.lst []) htl λH0 s0 et0=>?_;have gr0:=(gr.ip htl).ag s0;have eg0:=s0 _ _ eg;showλO O O O z2=>⟨dg,(λo u z=>by rw[eg0]at z;cases z),dg,gkvs,rfl,eg0,λo H1 e1=>?_⟩;subst e1;have ndt:tl≠dg:=λz=>by rw[z,eg]at htl;cases htl
  have ne1:∀b,b≠dg->(AM H0 dg (.frz o (.dK gkvs))) b=H0 b:=λb nb=>AV nb;have gr1:=gr0.mh (.inr ⟨o,AY⟩) ne1;have ed1:(AM H0 dg (.frz o (.dK gkvs))) dg=AA (.frz o (.dK gkvs)):=AY;have et1:(AM H0 dg (.frz o (.dK gkvs))) tl=AA (.lst []):=by rw[AV ndt];show et0
  generalize AM H0 dg (.frz o (.dK gkvs))=H1 at ne1 gr1 ed1 et1⊢;show Uc (kvs:=gkvs) (λn σ H'=>(IF λ(o3 o4:Option AE)(acc:List AE)(qs:List DM)(gk':Nat->List (AN×AE))=>Of (σ=(gB dg (AA (Kk now)) tl o3 o4)) (H' dg=AA (.frz o (.dK gkvs))) (Bq (λb=>b=tl\/∃i∈Am ss,b=(gd i).d) H1 H') (DL AI (tl::ex) H' ss (Am ss) dg gkvs gd (λi z=>if(.inl (i:Int):AN)∈(gkvs.take n).map (·.1)then Em now (gg i z)else gg i z) gk') ((∀i∈Am ss,(gk' i).length<=(gk i).length)) (H' tl=AA (.lst acc)) (BJ (Kg ss H') acc qs) ((qs.map De).Nodup) ((∀q:DM,q∈qs↔(.inl (q.1:Int):AN)∈(gkvs.take n).map (·.1)/\q.2.2∈FV now (gg q.1 q.2.1))) (qs.length<=1800000*n))) ⟨AG,AG,[],[],gk,rfl,ed1,λb o O e=>e,gr1,λi O=>Aj _,et1,.nil,.nil,λq=>⟨λh=>(by cases h),λh=>(by cases h.1)⟩,Bc _⟩ (λn σ H' O hh=>by obtain⟨_,_,_,_,_,_,e,_⟩:=hh;show e) ?_ ?_
  . intro n p σ H2' rp hp hI hrp;lk;obtain⟨o3,o4,acc,qs,gk',rfl,ed2',s2',gr2',lg2,et2',mk2',nd2,mm2,lq2⟩:=hI;obtain⟨i,hi,rfl⟩:=gks.yy p (Cm hp);k_in;show BK (o:=.tup [Au (.inl (i:Int)),.ref (gd i).x]) hrp λH2 g2 erp=>?_;show⟨rp,_,rfl,Ar erp,rfl,_,_,rfl,_,_,rfl,rfl,?_⟩;have ed2:=g2 _ _ ed2';have gr2:=gr2'.ag g2;have et2:=g2 _ _ et2';have mk2:=J6 mk2' g2.tp;have s2:Bq (λb=>b=tl\/∃i∈Am ss,b=(gd i).d) H1 H2:=λb o nb e=>g2 _ _ (s2' b o nb e);have hn:n<gkvs.length:=(BU.mp hp).1;have new:(.inl (i:Int):AN)∉(gkvs.take n).map (·.1):=λhm=>by
      rw[bP]at hm;obtain⟨j,hj,e⟩:=Gk.mp hm;rw[Er]at hj;rw[OH]at e;have e2:(gkvs.map (·.1))[n]?=AA (.inl (i:Int)):=by rw[Bt,hp];rfl
      obtain⟨h2,q2⟩:=BU.mp e2;show(Gn.mp gks.nd) j n (BY hj (P1 _ _)) h2 (BY hj (Jo _ _)) (e.trans q2.symm)
    have tk:(gkvs.take (n+1)).map (·.1)=(gkvs.take n).map (·.1)++[.inl (i:Int)]:=by rw[D2,hp,CW];rfl
    lk;obtain⟨st,es,ht⟩:=IJ.mp hi;obtain⟨tok,hso,_⟩:=pok.ig es ht;obtain⟨st',es',v,g⟩:=gr2.js i hi;rw[es]at es';cases es';have gi:(λz=>if(.inl (i:Int):AN)∈(gkvs.take n).map (·.1)then Em now (gg i z)else gg i z)=gg i:=funext λz=>AEz new;rw[gi]at g;have hex2:∀c∈tl::ex,∃o,H2 c=AA o:=λc hc=>by
      rcases CZ.mp hc with rfl|hc;.show⟨_,et2⟩
      . obtain⟨xs,ec⟩:=hex c hc;have nd:c≠dg:=λz=>by rw[z,eg]at ec;cases ec
        show⟨_,s2 c _ (λz=>?_) (by rw[ne1 c nd];show s0 _ _ ec)⟩;rcases z with z|⟨j,hj,z⟩;.rw[z,htl]at ec;cases ec
        . obtain⟨_,_,_,gj⟩:=gr.js j hj;have:=gj.ar.ah;rw[<-z,ec]at this;cases this
    obtain⟨dx,eo⟩:=g.au;k_in;have l1:=lg2 i hi;have l2:=lgk i hi;show⟨.inl ⟨rfl,_,Ac et2⟩,(gd i).x,dx,_,rfl,eo,by rfl,tl::ex,(gd i).x,(gd i).p,(gd i).d,st,gg i,gk' i,now,rfl,g,hex2,tok,hso,Ag l1 (Ag l2 (by decide)),(λz=>Ag (lgg i hi z).2 (by decide)),λH3 r xs kss k3 ks s3 g3 hr3 er3 hw3 pm3 O kn km l3 lke=>⟨r,rfl,⟨_,Ac er3⟩,?_⟩⟩;obtain⟨M,pM,rfl⟩:_:=Ya pm3;have g3:=g3.iw;have gr3:=gr2.ku hi es s3 g3;have ntd:tl≠(gd i).d:=λz=>by rw[z,g.ar.ah]at et2;cases et2
    have et3:=s3 _ _ ntd et2;have tp3:Bk H2 H3:=s3.tp g.ar.ah nofun;have mk3:=J6 mk2 tp3;have lM:M.length<=1800000:=by rw[pM.length_eq];have:=RA (g:=λz=>FV now (gg i z)) (n:=3000) (λz=>Ag lN (lgg i hi z).2) ks;lia
    have lx:=hw3.gf;rw[Aq]at lx;have lacc:=(CJ mk3).1;show IL (K:=AJ) (xs:=xs) (λj τ acc' H'=>(∃o,τ=[o,AA (.int (i:Int))])/\An H3 H'/\BJ (Kg ss H') acc' ((M.take j).map λkp=>(i,kp.1,kp.2))) (by lia) ⟨⟨AG,rfl⟩,CQ _,.nil⟩ (λj τ acc' H'⟨_,s',_⟩=>Ac (s' _ _ er3)) ?_ ?_
    . intro j y τ acc' H5 R1 hy _ hI k1;lk;obtain⟨⟨o,rfl⟩,s5,mk5⟩:=hI;obtain⟨a,row,rfl,er,ea⟩:=hw3.at hy;rw[Bt]at er;obtain⟨kp,ekp,rfl⟩:=EA.mp er;k_in;have ea5:=s5 _ _ ea;show⟨_,_,Ar ea5,Ap (j:=3) rfl,_,_,Ar ea5,Ap (j:=1) rfl,_,_,Ar ea5,Ap (j:=2) rfl,B6 rfl,λm hm=>k1 _ _ _ ⟨⟨_,rfl⟩,s5.gy hm,?_⟩⟩;have sm:=Bv (o:=.tup [.int kp.2.2.1,.int (i:Int),.str kp.1,.int kp.2.1,.ref a]) hm;rw[D2,ekp,CW];show D7 (J6 mk5 sm.tp) (.cons ⟨m,a,st,es,rfl,AY,sm _ _ ea5⟩ .nil)
    . intro τ acc' H5 _ hI D hD;obtain⟨_,s5,mk5⟩:_:=hI;rw[EH (Bi lx.symm)]at mk5;have lacc':=(CJ mk5).1;rw[Aq]at lacc';show BK hD λH6 s6 eD=>?_;have s36:=s5.aa s6;have et6:=s36 _ _ et3;show⟨tl,D,_,_,rfl,rfl,et6,eD,by lia,?_⟩;have tp6:Bk H6 (AM H6 tl (.lst (acc++acc'))):=(Gg H6).gy et6 λxs=>by intro z;cases z
      have ndg:dg≠(gd i).d:=gr.jy i hi;have gr6:=(gr3.ag s36).fh (q:=(.=tl)) (H':=AM H6 tl (.lst (acc++acc'))) zzu (λb hb=>.inl ⟨by rw[hb];show .head _,acc,by rw[hb];show et6⟩) (λk hk z=>by obtain⟨_,_,_,gg'⟩:=(gr3.ag s36).js k hk;have:=gg'.ar.ah;rw[z,et6]at this;cases this) ndt.symm;show⟨_,_,acc++acc',qs++M.map (λkp=>(i,kp.1,kp.2)),_,rfl,?_,λb o nb e=>?_,gr6.qk λk hk=>?_,λk hk=>?_,AY,?_,?_,λq=>?_,?_⟩
      . rw[AV ndt.symm];show s36 _ _ (s3 _ _ ndg ed2)
      . rw[AV λz=>nb (.inl z)];show s36 _ _ (s3 _ _ (λz=>nb (.inr ⟨i,hi,z⟩)) (s2 b o nb e))
      . rw[tk];by_cases q:k=i
        . subst q;rw[AE0 rfl];funext z;show AE0 (FE _ (.head _))
        . rw[AEz q];funext z;by_cases q2:(.inl (k:Int):AN)∈(gkvs.take n).map (·.1);.rw[AE0 q2,AE0 (Hn _ q2)]
          .rw[AEz q2,AEz λz=>(Ce.mp z).elim q2 λz=>q (by have:=Ij (Bm.mp z);show LU.mp this)]
      . by_cases q:k=i;. subst q;rw[AE0 rfl];show Ag l3 l1
        . rw[AEz q];show lg2 k hk
      .show D7 (J6 mk3 λb ys e=>tp6 _ _ (s36 _ _ e)) (J6 mk5 λb ys e=>tp6 _ _ (s6 _ _ e))
      . rw[CW,Dh];show VR.mpr ⟨nd2,?_,λa ha b hb e=>?_⟩
        . have h1:=UB (g:=λz=>FV now (gg i z)) (λz=>lO (lgg i hi z).1) kn;have h2:=(pM.map λkp=>(kp.1,kp.2.1)).nodup_iff.mpr h1;show Hq.mpr ((Hq.mp h2).imp λ{a b}h e=>h (SJ (Fc (Dz (Dz (Dz e).2).2).1) (Ij (Dz (Dz (Dz (Dz e).2).2).2).1)))
        . subst e;lk;obtain⟨x,hx,rfl⟩:=Ay.mp ha;obtain⟨y,hy,e⟩:=Ay.mp hb;k_in;have d1:(i:Int)=(x.1:Int):=Ij (Dz (Dz e).2).1;have:=((mm2 x).mp hx).1;rw[<-d1]at this;show new this
      . rw[Ce,mm2,tk,Ce,Bm];constructor
        . rintro(⟨h1,h2⟩|h);.show⟨.inl h1,h2⟩
          . obtain⟨kp,hk,rfl⟩:_:=Ay.mp h;show⟨.inr rfl,(Ks.mp (pM.mem_iff.mp hk)).2⟩
        . rintro⟨h1|h1,h2⟩;.show .inl ⟨h1,h2⟩
          . have e:q.1=i:=by have:=Ij h1;lia
            rw[e]at h2;show .inr (Ay.mpr ⟨(q.2.1,q.2.2),pM.mem_iff.mpr (Ks.mpr ⟨km _ λz=>?_,h2⟩),by rw[<-e]⟩);have h2:q.2.2∈FV now (gg i q.2.1):=h2;rw[z]at h2;cases now<;>cases h2
      . rw[Bx,Aq];lia
  . intro σ H2 hI;obtain⟨o3,o4,acc,qs,gk',rfl,ed2,s2,gr2,lg2,et2,mk2,nd2,mm2,lq2⟩:_:=hI;rw[EH (Aj _)]at gr2 mm2;have inn:∀{i:Nat},i∈Am ss↔(.inl (i:Int):AN)∈gkvs.map (·.1):=λ{i}=>by
      constructor
      . intro hi;obtain⟨_,_,v,_⟩:=gr.js i hi;show Ay.mpr ⟨_,GS v,rfl⟩
      . intro h;obtain⟨p,hp,e⟩:=Ay.mp h;obtain⟨j,hj,rfl⟩:=gks.yy p hp;have:(j:Int)=(i:Int):=Ij e;have:j=i:=by lia
        rw[<-this];show hj
    show⟨o,_,ed2,z2 _ _ ?_⟩;have ne3:∀b,b≠dg->(AM H2 dg (.dK gkvs)) b=H2 b:=λb nb=>AV nb;have gr3:=(gr2.mh (.inl AY) ne3).qk (gg':=λi z=>Em now (gg i z)) λi hi=>funext λz=>(AE0 (inn.mp hi)).symm;have et3:(AM H2 dg (.dK gkvs)) tl=AA (.lst acc):=by rw[ne3 _ ndt];show et2
    have tp3:Bk H2 (AM H2 dg (.dK gkvs)):=λb xs e=>by rw[ne3 b λz=>by rw[z,ed2]at e;cases e];show e
    have mk3:=J6 mk2 tp3;have s3:Bq (λb=>b=tl\/∃i∈Am ss,b=(gd i).d) H0 (AM H2 dg (.dK gkvs)):=λb ob nb e=>by
      by_cases q:b=dg
      . rw[q,eg0]at e;cases e;rw[q];show AY
      . rw[ne3 b q];show s2 b ob nb (by rw[ne1 b q];show e)
    generalize AM H2 dg (.dK gkvs)=H3 at ne3 gr3 et3 mk3 s3⊢;obtain⟨ds,ed,sn⟩:_:=W8 mk3 nd2;show⟨tl,acc,ds,_,rfl,Ac et3,sn,λl qq hl pq sq=>?_⟩;rw[ed]at pq;obtain⟨R',p1,w1,e1⟩:_:=YR mk3 pq;have s4:=Bv (o:=.lst (qq.map (·.1))) hl;have hlH:H l=AG:=by cases q:H l with|none=>rfl|some ob=>
        have q0:=s0 _ _ q;by_cases z:l=tl\/∃i∈Am ss,l=(gd i).d
        . rcases z with z|⟨i,hi,z⟩;.rw[z,et3]at hl;cases hl
          . obtain⟨_,_,_,g⟩:=gr3.js i hi;have:=g.ar.ah;rw[<-z,hl]at this;cases this
        . rw[s3 l ob z q0]at hl;cases hl
    have lr:=p1.length_eq;show k _ l _ R' gk' (λb ob nb e=>s4 _ _ (s3 b ob (λz=>z.elim (λz=>by rw[z,htl]at e;cases e) nb) (s0 _ _ e))) (gr3.iw.ag s4) lg2 hlH AY (J6 w1 s4.tp) ((p1.map De).nodup_iff.mpr nd2) (by change bF _ _;rw[e1];show sq) (λq=>?_) (by lia);rw[p1.mem_iff,mm2,<-inn]
structure Iq where
 lp:AB
 ps:List AE
 dj:AB
 cu:List (AN×AE)jd:Nat->EI
 dg:AB
 ff:List (AN×AE)gd:Nat->Fy
structure Fw extends Iq where
 x:AB
 ck:AB
abbrev MU(F:Fw)(D:Int):List (AF×AE):=[("plan",.ref F.lp),("clock",.ref F.ck),("joins",.ref F.dj),("groups",.ref F.dg),("number",.int D)]
structure Fv(ad:Br)(ex:List AB)(H:AH)(ss:List AU)(A:Iq)(sd:Nat->List AO×List AO)(gg:Nat->AF->List AX)(gk:Nat->List (AN×AE)):Prop where
 kj:H A.lp=AA (.lst A.ps)kx:Fz H A.ps ss
 dk:H A.dj=AA (.dK A.cu)xg:Jw ss ss.length A.jd A.cu
 bo:CY ad ex H ss A.dj A.cu A.jd sd
 di:H A.dg=AA (.dK A.ff)ot:A.ff.length<=8
 yi:NL (Am ss) A.gd A.ff
 ba:DL ad ex H ss (Am ss) A.dg A.ff A.gd gg gk
 rj:∀i∈Am ss,¬DF ss A.jd (A.gd i).d/\A.dj≠(A.gd i).d
 jy:¬DF ss A.jd A.dg
structure FG(ad:Br)(H:AH)(ss:List AU)(F:Fw)(sl now cnt num:Int)(sd:Nat->List AO×List AO)(gg:Nat->AF->List AX)(gk:Nat->List (AN×AE)):Prop extends Fv ad [] H ss F.toIq sd gg gk where au:∃dx,H F.x=AA (.ins ad.bj dx (MU F num))cn:∃dx,H F.ck=AA (.ins ad.aj dx (EV sl now cnt))
structure LV(ad:Br)(H:AH)(ss:List AU)(F:Fw)(sl now cnt num:Int)(sd:Nat->List AO×List AO)(gk:Nat->List (AN×AE))(L:AF->List AO):Prop where
 af:FG ad H ss F sl now cnt num sd (CT ss now L) gk
 uy:∀i∈Am ss,(gk i).length<=(L (EW ss i)).length
 av:∀(i:Nat)n a b wi,ss[i]?=AA (.join n a b wi)->(sd i).1.Perm (BO (now-wi) (L a))/\(sd i).2.Perm (BO (now-wi) (L b))
def Fg(ss:List AU)(F:Fw)(b:AB):Prop:=b=F.x\/b=F.ck\/GG ss F.jd F.gd b
theorem Q3(ss:List AU)(now:Int)(i:Nat):CT ss now (λO=>[]) i=λO=>[]:=by change KC ss _ _ i=_;unfold KC;split<;>rfl
theorem HF(s:BM x H H')(Z:H x=AA (.ins C Y J))(e:H b=AA o)(n:∀W D U,o=.ins W D U->J.map (·.1)≠U.map (·.1)):H' b=AA o:=s _ _ (λz=>by rw[z,Z]at e;show n _ _ _ (By e).symm rfl) e
theorem CY.au{K:AB}(h:CY AI ex H ss I J N sd)(s:BM x H H')(W:H x=AA (.ins C K U))(S:U.map (·.1)≠(["within","sides"]:List AF))(T:U.map (·.1)≠(["rows"]:List AF)):CY AI ex H' ss I J N sd:=by
 have Y:∀{b:AB}{o:BW},H b=AA o->(∀A D G,o≠.ins A D G)->H' b=AA o:=λe n=>HF s W e λA D G z=>absurd z (n _ _ _);have g:Bk H H':=λb j e=>Y e nofun;have O:∀{Z E:AB}{B:List AO},Cg AI ex H Z E B->Cg AI ex H' Z E B:=λ{Z E B}r=>by
  obtain⟨D,e⟩:=r.au;have c:Z≠x:=λz=>by rw[z,W]at e;have:=By e;injection this with _ _ q;show T (by rw[q];rfl)
  show r.ab (λC K U e=>s _ _ c e) (λR e=>Y e nofun) (λb j v e=>Y e nofun) g
 show⟨J9 h.ah λo e=>HF s W e λA D G z=>?_,λi n a b P L=>⟨(h.fw i n a b P L).1,?_⟩,h.bh,h.wu⟩;.rcases h.ah with M|⟨k,M⟩<;>(rw[M]at e;rw[<-By e]at z;cases z)
 . obtain⟨⟨D,F⟩,Q,f,r1,d,X⟩:_:=(h.fw i n a b P L).2;show⟨⟨D,s _ _ (λz=>?_) F⟩,Y Q nofun,O f,O r1,d,X⟩;rw[z,W]at F;have:=By F;injection this with _ _ q;show S (by rw[q];rfl)
theorem DL.au(h:DL AI ex H ss L B J F G gk)(s:BM x H H')(Z:H x=AA (.ins C M E))(P:E.map (·.1)≠(["step","rows"]:List AF)):DL AI ex H' ss L B J F G gk:=by
 have A:∀{b:AB}{o:BW},H b=AA o->(∀U D Y,o≠.ins U D Y)->H' b=AA o:=λe n=>HF s Z e λU D Y z=>absurd z (n _ _ _);have K:Bk H H':=λb R e=>A e nofun;show⟨J9 h.ah λo e=>HF s Z e λU D Y z=>?_,λi O=>?_,h.bh,h.jy⟩;.rcases h.ah with I|⟨S,I⟩<;>(rw[I]at e;rw[<-By e]at z;cases z)
 . obtain⟨Q,e,v,⟨D,W⟩,N,r⟩:_:=h.js i O;show⟨Q,e,v,⟨D,s _ _ (λz=>?_) W⟩,N.tp K,r.ab (A r.ah nofun) (λb R X e=>A e nofun) K⟩;rw[z,Z]at W;have:=By W;injection this with _ _ q;show P (by rw[q];rfl)
def nI(W:Br):BF:=λC H Q O=>(IG λ(x z Y:AB)(Z:List AE)(J:List AU)(D:Int)=>ID (C=[.ref x,.ref Y,.int D]) (H x=AA (.ins W.bj z [])) (H Y=AA (.lst Z)) (Fz H Z J) (J.length<=8) (0<=D) (D<=1000000000) (∀U F B A,F.x=x->BM x H U->LV W U J F D 0 0 0 B A (λO=>[])->(∀b,Fg J F b\/b=F.dj\/b=F.dg->b=x\/H b=AG)->Q .non U))
theorem jV(T:BL AJ Af AI):T.ml.Ok BC P w Af base 6 (nI AI):=by
  show T.ml.ok λnd _ _ _ _ _ hr H vs Q E h=>?_;obtain⟨x,D,lp,ps,ss,sl,rfl,m,U,pr,O,s0,s1,k⟩:_:=h;show⟨_,(Ai (FH (AD 0) (IS (Ll (K:=AJ)) (by rfl) T.jg KY #v[AD 1]) rfl) (Ai (FH (AD 0) (Ma (XR T) hr T.yk JL #v[AD 2]) rfl) (Ai (FH (AD 0) (BE (XY T) hr #v[AD 1]) rfl) (Ai (FH (AD 0) (BE (XW T) hr #v[AD 1]) rfl) (Ab (FH (AD 0) AQ rfl)))))),?_⟩;have nlx:lp≠x:=λz=>by rw[z,m]at U;cases U
  show⟨lp,ps,rfl,.inl (Ac U),λl hl=>?_⟩;show BK hl λG g1 el=>?_;have p:=g1 _ _ m;have nl:l≠x:=λz=>by rw[z,p]at el;cases el
  show⟨x,_,D,[],rfl,p,T.bu,T.ur,by decide,?_⟩;have x2:BM x G (AM G x (.ins AI.bj D [("plan",.ref l)])):=zzu
  have M:(AM G x (.ins AI.bj D [("plan",.ref l)])) x=AA _:=AY;have N:∀b,(AM G x (.ins AI.bj D [("plan",.ref l)])) b=AG->G b=AG:=λb e=>Gd e;change Pm _ _ _ _ (AM G x (.ins AI.bj D [("plan",.ref l)]));generalize AM G x _=H2 at x2 M N⊢;showλc A hc hdc hcn=>⟨c,A,sl,rfl,AY,s0,s1,rfl,?_⟩;have u:An H2 (AM (AM (AM H2 A (.own c)) c (.ins AI.aj A [])) c (.ins AI.aj A (EV sl 0 0))):=λb o e=>by rw[AV (BH e hc),AV (BH e hc),AV (BH e hdc)];show e
  have g:(AM (AM (AM H2 A (.own c)) c (.ins AI.aj A [])) c _) c=AA (.ins AI.aj A (EV sl 0 0)):=AY;generalize AM _ c _=I at u g⊢;have ncx:c≠x:=λz=>by rw[z,M]at hc;cases hc
  show⟨x,_,D,[("plan",.ref l)],rfl,u _ _ M,T.bu,T.jm,(by change 1<1000;decide),?_⟩;have x4:BM x I (AM I x (.ins AI.bj D [("plan",.ref l),("clock",.ref c)])):=zzu
  have W:(AM I x (.ins AI.bj D [("plan",.ref l),("clock",.ref c)])) x=AA _:=AY;have s:∀b,(AM I x (.ins AI.bj D [("plan",.ref l),("clock",.ref c)])) b=AG->I b=AG:=λb e=>Gd e;change Pm _ _ _ _ (AM I x (.ins AI.bj D [("plan",.ref l),("clock",.ref c)]));generalize AM I x _=H4 at x4 W s⊢;have Z:BM x H H4:=λb o J e=>x4 _ _ J (u _ _ (x2 _ _ J (g1 _ _ e)));have tp04:Bk H H4:=λb xs e=>Z _ _ (λz=>by rw[z,m]at e;cases e) e;have V:=λb e=>g1.bc (N b (u.bc (s b e)));show⟨lp,ps,ss,rfl,Z _ _ nlx U,pr.ab tp04,Ag O (by decide),λL B F jd S hdj ej jks jr fj=>?_⟩;show⟨x,_,D,_,rfl,S _ _ W,T.bu,T.ic,(by change 2<1000;decide),?_⟩;have x6:BM x L (AM L x (.ins AI.bj D [("plan",.ref l),("clock",.ref c),("joins",.ref B)])):=zzu
  have Y:(AM L x (.ins AI.bj D [("plan",.ref l),("clock",.ref c),("joins",.ref B)])) x=AA _:=AY;have t:∀b,(AM L x (.ins AI.bj D [("plan",.ref l),("clock",.ref c),("joins",.ref B)])) b=AG->L b=AG:=λb e=>Gd e;change Pm _ _ _ _ (AM L x (.ins AI.bj D [("plan",.ref l),("clock",.ref c),("joins",.ref B)]));generalize AM L x _=H6 at x6 Y t⊢;have r:((["plan","clock"]:List AF)≠(["within","sides"]:List AF)/\(["plan","clock"]:List AF)≠(["rows"]:List AF))/\(["plan","clock","joins"]:List AF)≠(["within","sides"]:List AF)/\(["plan","clock","joins"]:List AF)≠(["rows"]:List AF)/\(["plan","clock","joins"]:List AF)≠(["step","rows"]:List AF):=by decide+kernel
  have jr6:=jr.au x6 (S _ _ W) r.1.1 r.1.2;have x06:BM x H H6:=λb o J e=>x6 _ _ J (S _ _ (Z _ _ J e));have tp06:Bk H H6:=λb xs e=>x06 _ _ (λz=>by rw[z,m]at e;cases e) e;have C:=λb e=>V b (S.bc (t b e));show⟨lp,ps,ss,rfl,x06 _ _ nlx U,pr.ab tp06,Ag O (by decide),λH7 dg v gd X hdg eg lkg gks gr fg=>?_⟩;show⟨x,_,D,_,rfl,X _ _ Y,T.bu,T.gm,(by change 3<1000;decide),?_⟩;show⟨x,_,D,_,rfl,AY,T.bu,T.jx,(by change 4<1000;decide),?_⟩;rw[Ry];have x8:BM x H7 (AM H7 x (.ins AI.bj D [("plan",.ref l),("clock",.ref c),("joins",.ref B),("groups",.ref dg),("number",.int 0)])):=zzu
  have q:=X _ _ Y;have jr8:=(jr6.ag X).au x8 q r.2.1 r.2.2.1;have gr8:=gr.au x8 q r.2.2.2;have R:BM x H4 _:=λb o J e=>x8 _ _ J (X _ _ (x6 _ _ J (S _ _ e)));have x08:BM x H _:=λb o J e=>R _ _ J (Z _ _ J e);have tp08:Bk H _:=λb xs e=>x08 _ _ (λz=>by rw[z,m]at e;cases e) e;have njx:B≠x:=λz=>by rw[z,S _ _ W]at ej;cases ej
  have ngx:dg≠x:=λz=>by rw[z,X _ _ Y]at eg;cases eg
  have f:∀b,DF ss jd b->∃kvs,H6 b=AA (.dK kvs):=λb y=>jr6.rl y;have j:H6 B=AA (.dK F):=x6 _ _ njx ej;show k _ ⟨⟨l,ps,B,F,jd,dg,v,gd⟩,x,c⟩ (λ_=>([],[])) (λ_=>[]) rfl x08 ⟨⟨⟨R _ _ nl (x4 _ _ nl (u _ _ (x2 _ _ nl el))),pr.ab tp08,x8 _ _ njx (X _ _ j),jks,jr8,x8 _ _ ngx eg,Ag lkg O,gks,gr8.qk λi d=>Q3 ss 0 i,λi d=>⟨λz=>?_,BH j (fg i d)⟩,λz=>?_⟩,⟨D,AY⟩,⟨A,R _ _ ncx (x4 _ _ ncx g)⟩⟩,λi d=>Aj _,λi n a b wi _=>⟨.nil,.nil⟩⟩ λb y=>?_;. obtain⟨kv,e⟩:=f _ z;rw[fg i d]at e;cases e
  . obtain⟨kv,e⟩:=f _ z;rw[hdg]at e;cases e
  . rcases y with(rfl|rfl|y|⟨i,d,rfl⟩)|rfl|rfl;.show .inl rfl
    .show .inr (g1.bc (N _ hc))
    .show .inr (V _ (fj _ y))
    .show .inr (C _ (fg i d))
    .show .inr (V _ hdj)
    .show .inr (C _ hdg)
def Iv(ss:List AU)(H:AH)(x:AE)(q:DM):Prop:=∃(a:AB)(s:AU),ss[q.1]?=AA s/\x=.ref a/\H a=AA (.tup ((NU s q.2.1 q.2.2).map Au))
theorem NV(h:BJ (Iv ss H) xs qs)(t:Bk H H'):BJ (Iv ss H') xs qs:=ES (λO O U=>by obtain⟨a,s,D,e,J⟩:=U;show⟨a,s,D,e,t _ _ J⟩) h
theorem XC(h:BJ (Kg ss H) xs qs):∃ys:List AE,BJ (λx y=>∃a z u2 u3 A,x=.ref a/\H a=AA (.tup [z,u2,u3,A,y])) xs ys/\BJ (Iv ss H) ys qs:=by induction h with|nil=>show⟨[],.nil,.nil⟩|cons h _ W=>lk;obtain⟨ys,Y,Z⟩:=W;obtain⟨a,r,s,D,e,J,U⟩:=h;k_in;show⟨_,.cons ⟨a,_,_,_,_,e,J⟩ Y,.cons ⟨r,s,D,rfl,U⟩ Z⟩
def pI(E:Br):BF:=λL H Q O=>(MO λ(D:List AU)(F:Fw)(I A W B:Int)(G:Nat->List AO×List AO)(Y:Nat->AF->List AX)(C:Nat->List (AN×AE))(m:Option Int)=>Io (L=[.ref F.x,Kk m]) (FG E H D F I A W B G Y C) (C4 D) (D.length<=8) ((∀i∈Am D,(C i).length<=600)) ((∀i∈Am D,∀z,EL (Y i z)/\(Y i z).length<=3000)) (∀U r K J Z,(∀b o,¬Fg D F b->H b=AA o->U b=AA o)->FG E U D F I A W (B+(J.length:Int)) G (λi z=>Em m (Y i z)) Z->(∀i∈Am D,(Z i).length<=(C i).length)->H r=AG->U r=AA (.lst K)->BJ (Iv D U) K J->(J.map De).Nodup->DP (J.map De)->(∀q:DM,q∈J↔q.1∈Am D/\q.2.2∈FV m (Y q.1 q.2.1))->J.length<=14400000->Q (.ref r) U))
theorem Xj(T:BL AJ Af AI):T.nq.Ok BC P w Af base 6 (pI AI):=by
 show T.nq.ok λp _ _ _ _ _ hr H vs Q E h=>?_;obtain⟨s,F,sl,now,cnt,Y,sd,gg,gk,m,rfl,U,pok,lss,lgk,lgg,k⟩:_:=h;show⟨_,(Ai (Aw 2 p (BE (Xe T) hr #v[BE (XS T) hr #v[BP (AD 0) rfl,AD 1]])) (Ai (FH (AD 0) (AW C5 (BP (AD 0) rfl) (DI (F4 (K:=AJ)) (by rfl) T.gw F8 #v[AD 2])) rfl) (Ab (BD (AD 2))))),?_⟩;obtain⟨a,ex⟩:=U.au;show⟨_,⟨ex,T.bu,T.gm,rfl⟩,?_⟩;show⟨[],F.dg,s,F.ff,F.gd,gg,gk,m,rfl,U.di,pok,lss,U.ot,U.yi,U.ba,(λc hc=>by cases hc),lgk,lgg,λH1 r xs qs v s1 M lg1 hr1 u O nd1 sd1 mm1 lq1=>?_⟩;obtain⟨G,p1,p2⟩:_:=XC O;have lx:=(CJ O).1;have lys:=(CJ p2).1;show⟨r,xs,G,rfl,u,by lia,p1,λr2 B=>?_⟩;show BK B λI C A=>?_;have N:∀b,(∃i∈Am s,b=(F.gd i).d)->∃D,H b=AA (.dK D):=λb⟨i,W,z⟩=>by obtain⟨_,_,_,g⟩:=U.ba.js i W;show⟨_,by rw[z];show g.ar.ah⟩
 have j:∀{b:AB}{o:BW},H b=AA o->(∀D,o≠.dK D)->I b=AA o:=λ{b o}e n=>C _ _ (s1 _ _ (λz=>by obtain⟨D,e'⟩:=N _ z;rw[e]at e';show n _ (By e')) e);have J:=j ex nofun;show⟨_,⟨J,T.bu,T.jx,rfl⟩,_,.inl (Ac A),F.x,_,a,_,rfl,J,T.bu,T.jx,(by change 5<1000;decide),?_⟩;have Z:BM F.x I (AM I F.x (.ins AI.bj a (MU F (Y+(G.length:Int))))):=zzu
 have t:GR "number" (.int (Y+(G.length:Int))) (MU F Y)=MU F (Y+(G.length:Int)):=by rfl
 rw[t];have L:(AM I F.x _) F.x=AA (.ins AI.bj a (MU F (Y+(G.length:Int)))):=AY;generalize AM I F.x _=X at Z L⊢;have f:((["plan","clock","joins","groups","number"]:List AF)≠(["within","sides"]:List AF)/\(["plan","clock","joins","groups","number"]:List AF)≠(["rows"]:List AF))/\(["plan","clock","joins","groups","number"]:List AF)≠(["step","rows"]:List AF)/\(["plan","clock","joins","groups","number"]:List AF)≠(["slack","now","count"]:List AF):=by decide+kernel
 have y:=((U.bo.fh s1 (λb hb=>.inr (N b hb)) (λb⟨i,W,z⟩=>by rw[z];show(U.rj i W).1) λ⟨i,W,z⟩=>(U.rj i W).2 z).ag C).au Z J f.1.1 f.1.2;have x:=(M.ag C).au Z J f.2.1;have R:Bk H X:=λb xs e=>HF Z J (j e nofun) λ_ _ _ z=>by cases z
 have S:Bk H1 X:=λb xs e=>HF Z J (C _ _ e) λ_ _ _ z=>by cases z
 obtain⟨dc,ec⟩:=U.cn;have p:∀{b:AB}{D:List (AN×AE)},H b=AA (.dK D)->(¬∃i∈Am s,b=(F.gd i).d)->X b=AA (.dK D):=λ{b D}e n=>HF Z J (C _ _ (s1 _ _ n e)) λ_ _ _ z=>by cases z
 have r2x:r2≠F.x:=λz=>by rw[z,J]at A;cases A
 show k X r2 G qs v (λb o l e=>?_) ?_ lg1 ?_ (Z _ _ r2x A) (NV p2 S) nd1 sd1 mm1 lq1;.show Z _ _ (λz=>l (.inl z)) (C _ _ (s1 _ _ (λz=>l (.inr (.inr (.inr z)))) e))
 . rw[<-lys];show⟨⟨HF Z J (j U.kj nofun) (λ_ _ _ z=>by cases z),U.kx.ab R,p U.dk λ⟨i,W,z⟩=>(U.rj i W).2 z,U.xg,y,p U.di λ⟨i,W,z⟩=>U.ba.jy i W z,U.ot,U.yi,x,U.rj,U.jy⟩,⟨a,L⟩,⟨dc,HF Z J (j ec nofun) λ_ _ gs z=>?_⟩⟩;injection z with _ _ z;rw[<-z];show f.2.2
 .cases q:H r2 with|none=>rfl|some o=>
  by_cases z:∃i∈Am s,r2=(F.gd i).d
  . obtain⟨i,W,z⟩:=z;obtain⟨_,_,_,g⟩:=M.js i W;have:=g.ar.ah;rw[<-z,B]at this;cases this
  . rw[s1 _ _ z q]at B;cases B
theorem HY:((["plan","clock","joins","groups","number"]:List AF)≠(["slack","now","count"]:List AF))/\(["slack","now","count"]:List AF)≠(["within","sides"]:List AF)/\(["slack","now","count"]:List AF)≠(["rows"]:List AF)/\(["slack","now","count"]:List AF)≠(["step","rows"]:List AF):=by decide+kernel
theorem Fv.au(h:Fv AI ex H ss A sd Z gk)(s:BM x H H')(W:H x=AA (.ins C E J))(F:J.map (·.1)≠(["within","sides"]:List AF))(G:J.map (·.1)≠(["rows"]:List AF))(I:J.map (·.1)≠(["step","rows"]:List AF)):Fv AI ex H' ss A sd Z gk:=by have U:∀{b:AB}{o:BW},H b=AA o->(∀Y D B,o≠.ins Y D B)->H' b=AA o:=λe n=>HF s W e λY D B z=>absurd z (n _ _ _);show⟨U h.kj nofun,h.kx.ab λb K e=>U e nofun,U h.dk nofun,h.xg,h.bo.au s W F G,U h.di nofun,h.ot,h.yi,h.ba.au s W I,h.rj,h.jy⟩
theorem Fv.zp(h:Fv AI ex H ss A sd J gk)(D:GG ss A.jd A.gd b):∃kvs,H b=AA (.dK kvs):=by
 rcases D with D|⟨i,U,z⟩;.show h.bo.rl D
 . obtain⟨_,_,_,g⟩:_:=h.ba.js i U;show⟨_,by rw[z];show g.ar.ah⟩
theorem Fv.kp(h:Fv AI ex H ss A sd J gk)(s:Bq (GG ss A.jd A.gd) H H')(e:H b=AA o)(n:∀kvs,o≠.dK kvs):H' b=AA o:=s _ _ (λz=>by obtain⟨kvs,D⟩:=h.zp z;rw[e]at D;show n _ (By D)) e
theorem Fv.vv(h:Fv AI ex H ss A sd U gk)(s:Bq (GG ss A.jd A.gd) H H')(Y:CY AI ex H' ss A.dj A.cu A.jd sd')(W:DL AI ex H' ss (Am ss) A.dg A.ff A.gd gg' gk'):Fv AI ex H' ss A sd' gg' gk':=⟨h.kp s h.kj nofun,h.kx.ab λb Z e=>h.kp s e nofun,s _ _ (λz=>z.elim (λ⟨i,D,z⟩=>z.elim (h.bo.wu i D).1 (h.bo.wu i D).2) λ⟨i,D,z⟩=>(h.rj i D).2 z) h.dk,h.xg,Y,s _ _ (λz=>z.elim h.jy λ⟨i,D,z⟩=>h.ba.jy i D z) h.di,h.ot,h.yi,W,h.rj,h.jy⟩
theorem FG.aay(h:FG AI H ss F Y now W U sd B gk)(s:BM F.ck H H')(e:H' F.ck=AA (.ins AI.aj Z (EV Y J D))):FG AI H' ss F Y J D U sd B gk:=by lk;obtain⟨E,G⟩:=h.au;obtain⟨C,A⟩:=h.cn;k_in;show⟨h.toFv.au s A HY.2.1 HY.2.2.1 HY.2.2.2,⟨E,HF s A G λO O I z=>?_⟩,⟨Z,e⟩⟩;injection z with _ _ z;rw[<-z];show DJ HY.1
theorem FG.vv(h:FG AI H ss F W now D J sd C gk)(s:Bq (GG ss F.jd F.gd) H H')(G:CY AI [] H' ss F.dj F.cu F.jd sd')(E:DL AI [] H' ss (Am ss) F.dg F.ff F.gd gg' gk'):FG AI H' ss F W now D J sd' gg' gk':=by lk;obtain⟨Z,B⟩:=h.au;obtain⟨Y,A⟩:=h.cn;k_in;show⟨h.toFv.vv s G E,⟨Z,h.kp s B nofun⟩,⟨Y,h.kp s A nofun⟩⟩
theorem YQ(h:a<=b)(l:List AO):BO b (BO a l)=BO b l:=by
 unfold BO;rw[HP];show JO λi O=>?_;by_cases q:b<=i.1
 . rw[AE1 q,AE1 (GB h q)];rfl
 . rw[AE3 q];rfl
theorem Xn(h:a<=b)(l:List AX):Jb b (Jb a l)=Jb b l:=by
 unfold Jb;rw[HP];show JO λi O=>?_;change(Ae _&&Ae _)=Ae _;by_cases q:b<i.2.1
 . rw[AE1 q,AE1 (G7 h q)];rfl
 . rw[AE3 q];rfl
theorem XJ:n<=FU n s t:=by
 unfold FU I9;split;.show fH _
 .split<;>(first|lia|omega)
def nK(C:Br):BF:=λL H Q O=>(MP λ(D:List AU)(F:Fw)(I Y W Z:Int)(G:Nat->List AO×List AO)(A:Nat->AF->List AX)(E:Nat->List (AN×AE))=>Io (L=[.ref F.x]) (FG C H D F I Y W Z G A E) (C4 D) (D.length<=8) ((∀i∈Am D,(E i).length<=600)) ((∀i∈Am D,∀z,EL (A i z)/\(A i z).length<=3000)) (∀U r K J B,(∀b o,¬Fg D F b->H b=AA o->U b=AA o)->FG C U D F I Y W (Z+(J.length:Int)) G (λO O=>[]) B->H r=AG->U r=AA (.lst K)->BJ (Iv D U) K J->(J.map De).Nodup->DP (J.map De)->(∀q:DM,q∈J↔q.1∈Am D/\q.2.2∈A q.1 q.2.1)->J.length<=14400000->Q (.ref r) U))
theorem jU(T:BL AJ Af AI):T.oy.Ok BC P w Af base 7 (nK AI):=by show T.oy.ok λG o o o o o U H g Q E h=>?_;obtain⟨e,F,d,Z,D,z,B,O,R,rfl,C,A,Y,W,V,k⟩:_:=h;show⟨_,(Ab (BD (EX (AD 0) T.bu (Xj T) U #v[N7]))),?_⟩;obtain⟨L,N⟩:=C.au;show⟨F.x,L,_,rfl,N,by rfl,e,F,d,Z,D,z,B,O,R,AG,rfl,C,A,Y,W,V,λI r f c S s1 J o U M b G B a X=>k I r f c _ s1 J U M b G B a X⟩
theorem Fv.ag(h:Fv AI ex H ss A sd D gk)(s:An H H'):Fv AI ex H' ss A sd D gk:=⟨s _ _ h.kj,h.kx.ab s.tp,s _ _ h.dk,h.xg,h.bo.ag s,s _ _ h.di,h.ot,h.yi,h.ba.ag s,h.rj,h.jy⟩
theorem FG.ag(h:FG AI H ss F W now D J sd U gk)(s:An H H'):FG AI H' ss F W now D J sd U gk:=by lk;obtain⟨Z,A⟩:=h.au;obtain⟨Y,z⟩:=h.cn;k_in;show⟨h.toFv.ag s,⟨Z,s _ _ A⟩,⟨Y,s _ _ z⟩⟩
theorem Fv.qk(h:Fv AI ex H ss A sd D gk)(e:∀i∈Am ss,gg' i=D i):Fv AI ex H ss A sd gg' gk:=⟨h.kj,h.kx,h.dk,h.xg,h.bo,h.di,h.ot,h.yi,h.ba.qk e,h.rj,h.jy⟩
theorem FG.qk(h:FG AI H ss F W now D J sd U gk)(e:∀i∈Am ss,gg' i=U i):FG AI H ss F W now D J sd gg' gk:=⟨h.toFv.qk e,h.au,h.cn⟩
def nH(E:Br):BF:=λO H Q S=>(So λ(J:List AU)(F:Fw)(C D Y Z:Int)(M:Nat->List AO×List AO)(K:Nat->List (AN×AE))(L W:AF->List AO)(A:List Bd)(e:Bd)(q:AB)=>Jv (O=[.ref F.x,.ref q]) (LV E H J F C D Y Z M K L) (C4 J) (J.length<=8) (Ip H q e) ((∀(i:Nat)s,J[i]?=AA s->s.cp=AR->L s.nm=Ee s L A/\W s.nm=Ee s W (A++[e])/\(W s.nm).length<=600)) ((∀(i:Nat)s,J[i]?=AA s->s.cp=AR->∀x∈W s.nm,0<=x.1/\x.1<=1000000000)) ((e.1<D->∀U p r,(∀b o,¬Fg J F b->H b=AA o->U b=AA o)->LV E U J F C D (Y+1) Z M K L->H p=AG->H r=AG->U p=AA (.tup [.bl AR,.ref r])->U r=AA (.lst [])->Q (.ref p) U)) ((D<=e.1->∀U p r N z I G,(∀b o,¬Fg J F b->H b=AA o->U b=AA o)->LV E U J F C (FU D C e.1) (Y+1) (Z+(z.length:Int)) I G W->H p=AG->H r=AG->U p=AA (.tup [.bl AK,.ref r])->U r=AA (.lst N)->BJ (Iv J U) N z->(z.map De).Nodup->DP (z.map De)->(∀q:DM,q∈z↔q.1∈Am J/\q.2.2∈Jc (FU D C e.1) (CT J D W q.1 q.2.1))->z.length<=14400000->(∀i∈Am J,∃B,(W (EW J i)).Perm (L (EW J i)++B)/\∀x∈B,D<=x.1)->Q (.ref p) U)))
theorem jS(T:BL AJ Af AI):T.tj.Ok BC P w Af base 7 (nH AI):=by
  show T.tj.ok λnd O O O O O hr H vs Q E h=>?_;obtain⟨ss,F,sl,now,cnt,num,sd,gk,L,L',evs,e,q,rfl,fr,pok,lss,ev,hL,tm,kl,k⟩:_:=h;show⟨_,(Ai (CF (L3 (Jl (EX (BP (AD 0) rfl) T.df (XO T) hr #v[BA AJ (AD 1) AQ]))) (Ab (BD (Cj #v[F5,C9 Ea]))) Cd) (Ai (D8 (BE (Xc T) hr #v[BP (AD 0) rfl,BP (AD 0) rfl,BP (AD 0) rfl,AD 1])) (Ai (D8 (BE (XT T) hr #v[BP (AD 0) rfl,BP (BP (AD 0) rfl) rfl])) (Ab (BD (Cj #v[F5,EX (AD 0) T.bu (Xj T) hr #v[BP (BP (AD 0) rfl) rfl]])))))),?_⟩;have sz:Az=16777216:=Dj;lk;obtain⟨dx,ex⟩:=fr.af.au;obtain⟨dc,ec⟩:=fr.af.cn;k_in;have nl:=XJ (n:=now) (s:=sl) (t:=e.1);show⟨_,⟨ex,T.bu,T.jm,rfl⟩,F.ck,dc,_,rfl,ec,by rfl,_,_,Ar ev,Ap (j:=0) rfl,F.ck,dc,e.1,sl,now,cnt,rfl,ec,_,rfl,?_⟩;by_cases he:e.1<now
  . rw[AE3 (Jt he:¬now<=e.1)];have e0:FU now sl e.1=now:=AE0 he;rw[e0];have x1:BM F.ck H (AM H F.ck (.ins AI.aj dc (EV sl now (cnt+1)))):=zzu
    have fb1:=fr.af.aay x1 AY;have fr1:∀b,(AM H F.ck (.ins AI.aj dc (EV sl now (cnt+1)))) b=AG->H b=AG:=λb e=>Gd e;show Jh ⟨Bc _,λr hr=>?_⟩;have hrH:=fr1 _ hr;generalize AM H F.ck (.ins AI.aj dc (EV sl now (cnt+1)))=H1 at x1 fb1 fr1 hr⊢;show BK hr λH2 s2 er=>⟨B6 rfl,λp hp=>?_⟩;have s3:=Bv (o:=.tup [.bl AR,.ref r]) hp;show kl he _ p r (λb o nb e=>s3 _ _ (s2 _ _ (x1 _ _ (λz=>nb (.inr (.inl z))) e))) ⟨(fb1.ag s2).ag s3,fr.uy,fr.av⟩ (fr1 _ (s2.bc hp)) hrH AY (s3 _ _ er)
  have he:now<=e.1:=by simp_all
  have k:=k he;clear kl;rw[AE1 he];show EY ?_;generalize FU now sl e.1=nw at nl k⊢;have x1:BM F.ck H (AM H F.ck (.ins AI.aj dc (EV sl nw (cnt+1)))):=zzu
  have fb1:=fr.af.aay x1 AY;have ev1:Ip (AM H F.ck (.ins AI.aj dc (EV sl nw (cnt+1)))) q e:=x1 _ _ (λz=>by have ev:H q=_:=ev;rw[z,ec]at ev;cases ev) ev;have fr1:∀b,(AM H F.ck (.ins AI.aj dc (EV sl nw (cnt+1)))) b=AG->H b=AG:=λb e=>Gd e;generalize AM H F.ck (.ins AI.aj dc (EV sl nw (cnt+1)))=H1 at x1 fb1 ev1 fr1⊢;obtain⟨dx1,ex1⟩:=fb1.au;show⟨_,⟨ex1,T.bu,T.ur,rfl⟩,_,⟨ex1,T.bu,T.ic,rfl⟩,_,⟨ex1,T.bu,T.gm,rfl⟩,F.lp,F.dj,F.dg,q,F.ps,ss,F.cu,F.jd,sd,L,L',evs,e,now,F.ff,F.gd,gk,rfl,fb1.kj,fb1.kx,pok,Ag lss (by decide),fb1.bo,ev1,hL,fr.av,he,fb1.ba,fr.uy,tm,fb1.rj,fb1.jy,λH2 bt gk2 s2 jr2 gr2 lg2 br2=>?_⟩;have fb2:=fb1.vv s2 jr2 gr2;have ap:=Ql pok he hL fr.av br2 ss.length;lk;obtain⟨dx2,ex2⟩:=fb2.au;obtain⟨dc2,ec2⟩:=fb2.cn;k_in;have fdp:∀{i:Nat}{n a b:AF}{wi:Int},ss[i]?=AA (.join n a b wi)->((L' a).Perm (L a++bt a)/\(L' a).length<=600)/\(L' b).Perm (L b++bt b)/\(L' b).length<=600:=λ{i n a b wi}ei=>by have hi:i<ss.length:=(BU.mp ei).1;obtain⟨i1,s1,l1,e1,rfl,t1⟩:=pok.oq i _ a ei (.head _);obtain⟨i2,s2,l2,e2,rfl,t2⟩:=pok.oq i _ b ei (.tail _ (.head _));show⟨⟨ap i1 s1 (LH l1 hi) e1 t1,(hL i1 s1 e1 t1).2.2⟩,ap i2 s2 (LH l2 hi) e2 t2,(hL i2 s2 e2 t2).2.2⟩
  show⟨_,⟨ex2,T.bu,T.ic,rfl⟩,_,⟨ex2,T.bu,T.jm,rfl⟩,_,⟨ec2,T.df,T.fq,rfl⟩,F.dj,ss,F.cu,F.jd,Ef ss sd ss.length bt,nw,rfl,fb2.dk,fb2.xg,fb2.bo,λi⟨n,a,b,wi,ei⟩=>?_,λH3 s3 jr3=>?_⟩
  . lk;obtain⟨⟨pa,la⟩,pb,lb⟩:=fdp ei;obtain⟨qa,qb⟩:=fr.av i n a b wi ei;k_in;have h1:=Kp (now-wi) (L a);have h2:=Kp (now-wi) (L b);have h3:=pa.length_eq;have h4:=pb.length_eq;rw[Bx]at h3 h4;rw[KA ei,AE0 (BU.mp ei).1];change((sd i).1++bt a).length<=1000/\((sd i).2++bt b).length<=1000;rw[Bx,Bx,qa.length_eq,qb.length_eq];lia
  have fb3:=fb2.vv (λb o nb e=>s3 b o (λz=>nb (.inl z)) e) jr3 (gr2.fh s3 (λb hb=>.inr (fb2.bo.rl hb)) (λi hi=>(fb2.rj i hi).1) fb2.jy);lk;obtain⟨dx3,ex3⟩:=fb3.au;obtain⟨dc3,ec3⟩:=fb3.cn;k_in;have tl:∀{i:Nat},i∈Am ss->∃s,ss[i]?=AA s/\s.ig/\(L' s.fd).length<=600/\∀x∈L' s.fd,0<=x.1/\x.1<=1000000000:=λ{i}hi=>by obtain⟨s,es,ht⟩:=IJ.mp hi;obtain⟨tk,_,fd⟩:=pok.ig es ht;obtain⟨i',s',l,e',en,t'⟩:=pok.oq i s s.fd es (by rw[fd];show .head _);show⟨s,es,tk,by rw[<-en];show(hL i' s' e' t').2.2,by rw[<-en];show tm i' s' e' t'⟩
  show⟨F.x,dx3,_,rfl,ex3,by rfl,_,⟨ex3,T.bu,T.jm,rfl⟩,_,⟨ec3,T.df,T.fq,rfl⟩,ss,F,sl,nw,cnt+1,num,_,_,gk2,AA nw,rfl,fb3,pok,lss,(λi hi=>?_),(λi hi z=>?_),λH4 r xs qs gk4 s4 fb4 lg4 hr4 er4 pr4 nd4 sd4 mm4 lq4=>?_⟩
  . obtain⟨s,es,_,l,_⟩:_:=tl hi;have:=lg2 i hi;rw[HV es]at this;show Ag this l
  . obtain⟨s,es,tk,l,tms⟩:_:=tl hi;rw[KD es];have:=T3 (z:=z) (now:=now) tk tms;show⟨WG (T2 tk),by lia⟩
  show⟨B6 rfl,λp hp=>?_⟩;have s5:=Bv (o:=.tup [.bl AK,.ref r]) hp;have fb5:=fb4.ag s5;have kk:∀b o,¬Fg ss F b->H b=AA o->H4 b=AA o:=λb o nb e=>s4 b o nb (s3 _ _ (λz=>nb (.inr (.inr (.inl z)))) (s2 _ _ (λz=>nb (.inr (.inr z))) (x1 _ _ (λz=>nb (.inr (.inl z))) e)));have thr:∀b,H3 b=AG->H b=AG:=λb e3=>by cases q0:H b with |none=>rfl|some o=>
      exfalso;by_cases z1:b=F.ck;.rw[z1,ec3]at e3;cases e3
      have q1:=x1 _ _ z1 q0;by_cases z2:GG ss F.jd F.gd b
      . rcases z2 with z2|⟨i,hi,z2⟩
        . obtain⟨kv,e'⟩:=fb3.bo.rl z2;rw[e3]at e';cases e'
        . obtain⟨_,_,_,g⟩:=fb3.ba.js i hi;have:=g.ar.ah;rw[<-z2,e3]at this;cases this
      . rw[s3 _ _ (λz=>z2 (.inl z)) (s2 _ _ z2 q1)]at e3;cases e3
  have frp:H p=AG:=by cases q0:H p with|none=>rfl|some o=>
      exfalso;by_cases z:Fg ss F p
      . rcases z with z|z|z|⟨i,hi,z⟩
        . obtain⟨_,e'⟩:=fb4.au;rw[<-z,hp]at e';cases e'
        . obtain⟨_,e'⟩:=fb4.cn;rw[<-z,hp]at e';cases e'
        . obtain⟨kv,e'⟩:=fb4.bo.rl z;rw[hp]at e';cases e'
        . obtain⟨_,_,_,g⟩:=fb4.ba.js i hi;have:=g.ar.ah;rw[<-z,hp]at this;cases this
      . rw[kk p o z q0]at hp;cases hp
  show k _ p r xs qs (MT ss nw (Ef ss sd ss.length bt)) gk4 (λb o nb e=>s5 _ _ (kk b o nb e)) ⟨fb5.qk λi hi=>?_,λi hi=>Ag (lg4 i hi) (lg2 i hi),λi n a b wi ei=>?_⟩ frp (thr r hr4) AY (s5 _ _ er4) (NV pr4 s5.tp) nd4 sd4 mm4 lq4 λi hi=>?_
  . obtain⟨s,es,_⟩:_:=tl hi;rw[KD es,KD es];funext z;show(Xn nl _).symm
  . lk;obtain⟨⟨pa,_⟩,pb,_⟩:=fdp ei;obtain⟨qa,qb⟩:=fr.av i n a b wi ei;k_in;rw[TH ei,KA ei,AE0 (BU.mp ei).1];have two:∀{S A B A':List AO},S.Perm (BO (now-wi) A)->A'.Perm (A++B)->(BO (nw-wi) (S++B)).Perm (BO (nw-wi) A'):=λ{S A B A'}p1 p2=>by show .trans ?_ (p2.symm.filter _);change(R5 _ (S++B)).Perm (R5 _ (A++B));rw[FD,FD];show .append ((p1.filter _).trans (.of_eq ?_)) (.refl _);show YQ (ABP nl _) A
    show⟨two qa pa,two qb pb⟩
  . lk;obtain⟨s,es,ht⟩:=IJ.mp hi;obtain⟨_,_,fd⟩:=pok.ig es ht;obtain⟨i',s',l,e',en,t'⟩:=pok.oq i s s.fd es (by rw[fd];show .head _);k_in;have hi':i<ss.length:=(BU.mp es).1;rw[HV es,<-en];show⟨_,ap i' s' (LH l hi') e' t',pok.abe he fr.av (n:=ss.length) (λi s O ei=>br2 i s ei) ss.length (Aj _) i' s' (LH l hi') e'⟩
theorem W9(h:∀a∈s.cg,D a=L a):Ee s D evs=Ee s L evs:=by cases s with|take n k=>rfl|only n a V U=>change(D a).filter _=(L a).filter _;rw[h a (.head _)]|turn n a f g=>change(D a).map _=(L a).map _;rw[h a (.head _)]|both n a b=>change D b++D a=L b++L a;rw[h a (.head _),h b (.tail _ (.head _))]|join n a b J=>change DN J _ _=DN J _ _;rw[h a (.head _),h b (.tail _ (.head _))]|gap=>rfl|each=>rfl
def FT(ss:List AU)(evs:List Bd):Nat->AF->List AO|0=>λO=>[]|n+1=>match ss[n]? with|AA s=>B7 (FT ss evs n) s.nm (Ee s (FT ss evs n) evs)|AG=>FT ss evs n
theorem WD(J:C4 ss):∀(n i:Nat)s,i<n->ss[i]?=AA s->FT ss evs n s.nm=Ee s (FT ss evs n) evs |0,i,s,h,_=>absurd h (Ia _)|n+1,i,s,h,D=>by have W:=WD J (evs:=evs) n;cases q:ss[n]? with
 |none=>
  have:=(BU.mp D).1;have:=R8.mp q;have e:FT ss evs (n+1)=FT ss evs n:=by change(match ss[n]? with|AA s=>_|AG=>_)=_;rw[q]
  rw[e];show W i s (by lia) D|some t=>
  have e:FT ss evs (n+1)=B7 (FT ss evs n) t.nm (Ee t (FT ss evs n) evs):=by change(match ss[n]? with|AA s=>_|AG=>_)=_;rw[q]
  rw[e];by_cases V:i=n
  . subst V;rw[D]at q;cases q;rw[II];show(W9 λa U=>J.jf D D (Aj _) _ _ U).symm
  . rw[J.acq q D (DU (Dc h) V),W i s (DU (Dc h) V) D];show(W9 λa U=>J.jf q D (Dc h) _ _ U).symm
abbrev CO(ss:List AU)(evs:List Bd):AF->List AO:=FT ss evs ss.length
theorem NM(J:C4 ss){i:Nat}(D:ss[i]?=AA s):CO ss evs s.nm=Ee s (CO ss evs) evs:=WD J _ i s (BU.mp D).1 D
def Ir(i:AO):Prop:=(0<=i.1/\i.1<=1000000000)/\Cu i.2.1
theorem iY(W:∀e∈evs,Ir (Iz e))(h:∀a∈s.cg,∀x∈L a,Ir x):∀x∈Ee s L evs,Ir x:=λx D=>by cases s with|take n k=>obtain⟨e,J,rfl⟩:_:=Ay.mp D;show W e (D1.mp J).1|only n a z U=>show h a (.head _) x (D1.mp D).1|turn n a f g=>obtain⟨y,Z,rfl⟩:_:=Ay.mp D;show h a (.head _) y Z|both n a b=>show(Ce.mp D).elim (h b (.tail _ (.head _)) x) (h a (.head _) x)|join n a b A=>lk;obtain⟨i,U,D⟩:=SA.mp D;obtain⟨j,Y,rfl⟩:=Ay.mp D;k_in;have J:=h a (.head _) i U;have V:=h b (.tail _ (.head _)) j (D1.mp Y).1;show⟨?_,J.2⟩;change 0<=I9 _ _/\I9 _ _<=1000000000;unfold I9;have:=J.1;have:=V.1;split<;>assumption|gap=>cases D|each=>cases D
theorem Su(D:C4 ss)(U:∀e∈evs,Ir (Iz e)):∀(m i:Nat)s,i<m->ss[i]?=AA s->∀x∈CO ss evs s.nm,Ir x|0,i,s,h,_=>absurd h (Ia _)|m+1,i,s,h,J=>by rw[NM D J];show iY U λa W=>?_;obtain⟨Y,Z,l,V,rfl,_⟩:_:=D.oq i s a J W;show Su D U m Y Z (by lia) V
def fO(ss:List AU)(L:AF->List AO)(q:DM):Prop:=∃s,ss[q.1]?=AA s/\s.cp=AK/\q.2.2∈Iy s (F0 q.2.1 (L s.fd))
theorem Oj(ss:List AU):∀n,FT ss [] n=λO=>[] |0=>rfl|n+1=>by have D:=Oj ss n;change(match ss[n]? with|AA s=>B7 _ _ _|AG=>FT ss [] n)=_;rw[D];cases ss[n]? with |none=>rfl|some s=>
 change B7 _ _ _=_;have e:Ee s (λO=>[]) []=[]:=by cases s<;>rfl
 rw[e];funext a;change(if a=s.nm then[]else[])=[];split<;>rfl
def CG(z:AF)(l:List AO):List AO:=l.filter λi=>Ae (i.2.1=z)
def DO(p:AF->Bool)(evs:List Bd):List Bd:=evs.filter λe=>p e.2.2.1
theorem WX:∀A:List AO,CG z (DN wi A B)=DN wi (CG z A) (CG z B)
 |[]=>rfl|i::A=>by
  have D:=WX (wi:=wi) (z:=z) (B:=B) A;unfold DN CG at D⊢;rw[Ep,FD,D,OF];by_cases q:i.2.1=z
  . rw[Pp (p:=λi:AO=>Ae (i.2.1=z)) (AE1 q),Ep];congr 1;rw[HP,HP];show AE2 _ (JO λj O=>?_);change(Ae (i.2.1=z)&&Kj wi i j)=(Kj wi i j&&Ae _);rw[AE1 q,Bool.true_and];cases h:Kj wi i j with|false=>rfl|true=>rw[AE1 ((AE4 h).1.trans q)];rfl
  . rw[OE (p:=λi:AO=>Ae (i.2.1=z)) (λh=>q (AE4 h)),HP];have J:B.filter (λa=>((λi:AO=>Ae (i.2.1=z))∘XF i) a&&Kj wi i a)=[]:=Jm.mpr λj O h=>q (AE4 (Sh.mp h).1);rw[J];rfl
theorem iX:CG z (Ee s L evs)=Ee s (λa=>CG z (L a)) (DO (λk=>Ae (k=z)) evs):=by
 have D:∀{J:Type}(p q:J->Bool)(l:List J),(l.filter p).filter q=(l.filter q).filter p:=λp q l=>by rw[HP,HP];show JO λO O=>eV _ _
 cases s with |take n k=>change((evs.filter _).map _).filter _=((evs.filter _).filter _).map _;rw[OF,D];rfl|only n a V U=>show D _ _ _|turn n a f g=>change((L a).map _).filter _=((L a).filter _).map _;rw[OF];rfl|both n a b=>show FD _ _|join n a b W=>show WX _|gap=>rfl|each=>rfl
theorem Qe(ss:List AU)(z:AF)(evs:List Bd):∀(n:Nat)(a:AF),CG z (FT ss evs n a)=FT ss (DO (λk=>Ae (k=z)) evs) n a |0,_=>rfl|n+1,a=>by have D:=Qe ss z evs n;change CG z ((match ss[n]? with|AA s=>B7 _ _ _|AG=>FT ss _ n) a)=(match ss[n]? with|AA s=>B7 _ _ _|AG=>FT ss _ n) a;cases ss[n]? with |none=>show D a|some s=>
 change CG z (if a=s.nm then _ else _)=if a=s.nm then _ else _;have e:=funext D;split;.rw[iX,e]
 .show D a
theorem TJ(h:p z=AK)(a:AF):CG z (CO ss (DO p evs) a)=CG z (CO ss evs a):=by
 rw[Qe,Qe];congr 1;unfold DO;rw[HP];show JO λe O=>?_;change(Ae _&&p _)=Ae _;by_cases q:e.2.2.1=z;.rw[AE1 q,q,h];rfl
 .rw[AE3 q];rfl
theorem Qp(h:p z=AR)(a:AF):CG z (CO ss (DO p evs) a)=[]:=by
 rw[Qe];have e:DO (λk=>Ae (k=z)) (DO p evs)=[]:=by unfold DO;rw[HP,Jm];intro e _ q;obtain⟨J,D⟩:=Sh.mp q;rw[AE4 J,h]at D;cases D
 rw[e,Oj]
theorem Xu(z:AF)(l:List AO):F0 z l=(CG z l).map λi=>(i.1,i.2.2):=rfl
theorem T1(h:CG z (F i)=CG z (G i)):KC ss now F i z=KC ss now G i z:=by cases e:ss[i]? with|none=>unfold KC;rw[e]|some s=>rw[Kn e,Kn e];unfold Gb;rw[Xu,Xu,h]
theorem Ko(h:p z=AK)(now:Int)(i:Nat):CT ss now (CO ss (DO p evs)) i z=CT ss now (CO ss evs) i z:=T1 (TJ h _)
theorem KG(h:p z=AR)(now:Int)(i:Nat):CT ss now (CO ss (DO p evs)) i z=[]:=by have e:=T1 (ss:=ss) (now:=now) (F:=λi=>CO ss (DO p evs) (EW ss i)) (G:=λO=>[]) (i:=i) (Qp h _);rw[show CT ss _ _ i z=_ from e];show congrFun (Q3 ss _ i) z
theorem fP(h:x∈CO ss (DO p evs) a):p x.2.1=AK:=by cases q:p _ with|true=>rfl|false=>have D:x∈CG _ _:=D1.mpr ⟨h,AE1 rfl⟩;rw[Qp q]at D;cases D
theorem fQ{D:AF->Nat}(W:∀z,D z<n)(a:AF):((FZ n).flatMap λi=>CO ss (DO (λz=>Ae (D z=i)) evs) a).Perm (CO ss evs a):=by
  show ABr.mpr λx=>?_;have V:∀l:List AO,l.count x=(CG _ l).count x:=λl=>(ABW (a:=x) (AE1 rfl)).symm;have U:∀i,(CO ss (DO (λz=>Ae (D z=i)) _) a).count x=if D _=i then(CO ss evs a).count x else 0:=λi=>by
    rw[V];by_cases q:D x.2.1=i;.rw[AE0 q,TJ (AE1 q),<-V]
    . rw[AEz q,Qp (AE3 q)];rfl
  have J:∀m,((FZ m).flatMap _).count x=if D _<m then(CO ss evs a).count x else 0:=λm=>by induction m with|zero=>rfl|succ m Y=>
      rw[bV,R7,List.count_append,Y,yL,U];by_cases q:D x.2.1<m
      . rw[AE0 q,AEz (ET q),AE0 (ON q)];rfl
      . rw[AEz q];by_cases r:D x.2.1=m;.rw[AE0 r,AE0 (L9.mpr (Bi r)),AB7]
        .rw[AEz r,AEz (LI r (λZ=>Ec (Dc Z) (FQ q)))]
  rw[J,AE0 (W _)]
theorem NQ[DecidableEq α]:∀{l m:List α},l.Nodup->(∀x∈l,x∈m)->l.length<=m.length|[],_,_,_=>Bc _|x::l,m,h,D=>by obtain⟨V,W⟩:=JP.mp h;have J:=D x (.head _);have:=NQ (m:=m.erase x) W λy U=>(List.mem_erase_of_ne (λe=>V (by rw[<-e];show U))).mpr (D y (.tail _ U));rw[List.length_erase_of_mem J]at this;have:=yQ J;change l.length+1<=m.length;lia
theorem TL{f:α->List J}:∀{l:List α},(∀x∈l,(f x).length<=n)->(l.flatMap f).length<=n*l.length|[],_=>Bc _|x::l,h=>by have U:=h x (.head _);have V:=TL λy D=>h y (.tail _ D);rw[Ep,Bx,Mz];lia
theorem Xx(h:z∉l.map (·.2.1)):F0 z l=[]:=by unfold F0;rw[Jm.mpr λi D q=>h (Ay.mpr ⟨i,D,AE4 q⟩)];rfl
theorem iU(M:C4 ss)(I:ss.length<=8)(C:∀i∈Am ss,(L (EW ss i)).length<=600/\∀x∈L (EW ss i),0<=x.1/\x.1<=1000000000){qs:List DM}(K:(qs.map De).Nodup)(h:∀q∈qs,fO ss L q):qs.length<=14400000:=by
  have J:∀Z∈qs.map De,Z∈(Am ss).flatMap λi=>((L (EW ss i)).map _).flatMap λz=>(match ss[i]? with|AA s=>Iy s (F0 z (L s.fd))|AG=>[]).map λp=>De (i,z,p):=λZ E=>by
    obtain⟨q,F,rfl⟩:=Ay.mp E;obtain⟨s,D,V,U⟩:=h q F;show SA.mpr ⟨q.1,IJ.mpr ⟨s,D,V⟩,SA.mpr ⟨q.2.1,?_,?_⟩⟩
    . rw[HV D];show NJ λz=>?_;rw[Xx z]at U;cases U
    . rw[D];show Ay.mpr ⟨_,U,rfl⟩
  have A:=NQ K J;rw[Aq]at A;show Ag A (Ag (TL (n:=1800000) λi Y=>?_) ?_)
  . lk;obtain⟨s,D,V⟩:=IJ.mp Y;obtain⟨B,W⟩:=C i Y;k_in;show Ag (TL (n:=3000) λz N=>?_) ?_
    . rw[Aq];rw[HV D]at B W;have:=WO (ps:=F0 z _) (M.ig D V).1 λx G=>by obtain⟨y,H,e⟩:=Xw G;rw[<-e];show W y H
      have:=Xv z (L s.fd);lia
    . rw[Aq];lia
  . have:(Am ss).length<=ss.length:=Ag (FY _ _) (by rw[OI];show Aj _);lia
theorem iC{z:AF}{g:Eh}{C:Cz}{D:HH}{J:Ah}{H:AH}(Z:Nat->Ah->AH->Prop)(G:Z 0 J H)(M:∀(i:Nat)c J H,z.cps.toList[i]?=AA c->Z i J H->g (.str ⟨#[c]⟩) J H λY A=>C {D with nx:=Z (i+1),ct:=Z (i+1),bk:=D.nx} Y A)(K:∀J H,Z z.cps.size J H->D.nx J H):∃W:Nat->Nat->Ah->AH->Prop,(∃m,W 0 m J H)/\∀i m J H,W i m J H->((Nh z).ux i H/\D.nx J H)\/((Nh z).go i H/\∃N:Ah->AH->Prop,(∀V H',N V H'->∃B,B<m/\W (i+1) B V H')/\∀x H',(Nh z).aaj i H x H'->g x J H' λY A=>C {D with nx:=N,ct:=N,bk:=D.nx} Y A):=by
 show⟨λi m J H=>m=z.cps.size-i/\i<=z.cps.size/\Z i J H,⟨_,rfl,Bc _,G⟩,?_⟩;intro i m J H I;obtain⟨rfl,L,p⟩:_:=I;by_cases U:i<z.cps.size
 . show .inr ⟨U,_,λV H' O=>⟨_,Hv _ _ U,rfl,U,O⟩,λx H' y=>?_⟩;obtain⟨e,c,E,F⟩:_:=y;subst e F;show M i c J _ (by rw[NI];show E) p
 . have e:=Ec L (FQ U);subst e;show .inl ⟨Aj _,K J H p⟩
theorem jE{K:As}:Mh X "str.find" (λx xs H Q=>∃z y,x=.str z/\xs=[.str y]/\Q (.int (match cQ z y 0 z.length 1 with|i::_=>(i:Int)|[]=>-1)) H):=by intro D s Y H x xs v W Q I U J h;lk;obtain⟨z,y,rfl,rfl,q⟩:=h;obtain⟨t,rfl⟩:=U;obtain⟨u,rfl,V,rfl⟩:=HN J;k_in;show NF ACo (Vq _ _ _) F.entry_str_find (F.args_str_find_2 _ _) (gives_str_find z y t V).meets ⟨.int _,H,I.ig _,⟨_,rfl⟩,q⟩
theorem jF{K:As}:Mh X "str.index" (λx xs H Q=>∃z y i l,x=.str z/\xs=[.str y]/\cQ z y 0 z.length 1=i::l/\Q (.int (i:Nat)) H):=by intro D s Z H x xs v Y Q I V U h;lk;obtain⟨z,y,i,l,rfl,rfl,J,q⟩:=h;obtain⟨t,rfl⟩:=V;obtain⟨u,rfl,W,rfl⟩:=HN U;k_in;show NF ACp (Vq _ _ _) F.entry_str_index (F.args_str_index_2 _ _) (gives_str_index z y t W i l J).meets ⟨.int _,H,I.ig _,⟨_,rfl⟩,q⟩
theorem XM(h:97<=c/\c<123):cQ Iu ⟨#[c]⟩ 0 Iu.length 1=[c-97]:=by
 have D:∀r:Fin 26,cQ Iu ⟨#[97+r.val]⟩ 0 Iu.length 1=[r.val]:=by decide+kernel
 have:=D ⟨_,P2 h.1 h.2⟩;rw[show 97+(⟨_,_⟩:Fin 26).val=c from by show Hr h.1]at this;show this
def MS(c:Nat):Int:=((c-97:Nat):Int)
def Kq(l:List Nat):Int:=(l.map MS).sum
def NO(m:Int)(z:AF):Int:=Kq z.cps.toList%m
def nU:BF:=λJ H Q O=>JG (λ(z:AF)(m:Int)=>J=[.str z,.int m]) (λz O=>Cu z) (λO m=>0<m) (λz m=>∀D,An H D->Q (.int (NO m z)) D)
theorem jW(T:BL AJ Af AI):T.qx.Ok BC P w Af base 1 nU:=by
  show T.qx.ok λnd O O O O O hr H vs Q E h=>?_;lk;obtain⟨z,m,rfl,az,hm,k⟩:=h;obtain⟨t_LETTERS,h_LETTERS⟩:=T.zy;k_in;show⟨_,(Ab (BD (AW Bu (DI (rM (K:=AJ) rfl) (by rfl) T.aea AD6 #v[(IQ (DG YA) [] trivial (Zz (AD 0)) (λO O O O=>G0) (λO O O O=>(JM (K:=AJ) ACi ACp F.type_str_index (jF (K:=AJ)) (Pe (v:=.str Iu) (by rfl) h_LETTERS ⟨t_LETTERS,rfl⟩) #v[AD 0])))]) (AD 1)))),?_⟩;have sz:=Dj;show⟨z,rfl,rS _ (λx=>match x with|.str y=>.int (Kq y.cps.toList)|_=>.non) (by have:=az.2;lia) (λx R O q=>q) (λx R hx O q=>?_) λD hD=>?_⟩
  . obtain⟨c,hc,rfl⟩:_:=Ay.mp hx;show⟨rfl,_,_,_,_,rfl,rfl,XM (az.1 c hc),?_⟩;have e:Kq [c]=MS c:=by rfl
    have q:R (.int (Kq [c])) H:=q;show q
  . have e:(((L5 z).filter λO=>AK).map λx=>match x with|.str y=>AE.int (Kq y.cps.toList)|_=>.non)=(z.cps.toList.map MS).map AE.int:=by rw[Mw.mpr λO O=>rfl];unfold L5;rw[Dh,Dh];show L7 λc O=>?_;change AE.int (MS c+0)=AE.int (MS c);rw[AA5]
    rw[e];show⟨D,_,rfl,Ac AY,hm,k _ (Bv hD)⟩
def nL:BF:=λD H Q O=>JG (λ(z:AF)(m:Int)=>D=[.str z,.int m]) (λz O=>Cu z) (λO m=>0<m) (λz m=>Q (.int (NO m z)) H)
theorem XU(T:BL AJ Af AI):T.qe.Ok BC P w Af base 1 nL:=by
  show T.qe.ok λJ O O O O O C H F Q E h=>?_;obtain⟨z,m,rfl,A,B,k⟩:_:=h;show⟨_,(Ai (Aw 2 J AQ) (Ai (DB DK rfl (Zz (AD 0)) (Cc 3 J) (Ab (Aw 2 J (AW C5 (AD 2) (JM ACi ACo F.type_str_find (jE (K:=AJ)) Dq #v[AD 3]))))) (Ab (BD (AW Bu (AD 2) (AD 1)))))),?_⟩;show⟨z,rfl,iC (λi U Y=>Y=H/\∃(o:Option AE),U=[AA _,AA _,AA (.int (Kq (z.cps.toList.take i))),o]) ⟨rfl,_,rfl⟩ ?_ ?_⟩
  . intro i c U Z W D;obtain⟨rfl,o,rfl⟩:_:=D;show⟨rfl,_,_,rfl,rfl,rfl,AA (.str ⟨#[c]⟩),?_⟩;rw[XM (A.1 c (Cm W))];have e:Kq (z.cps.toList.take (i+1))=Kq (z.cps.toList.take i)+MS c:=by unfold Kq;rw[D2,W,CW,List.sum_append];change _+(MS c+0)=_;rw[AA5]
    rw[e];rfl
  . intro U Z D;obtain⟨rfl,o,rfl⟩:_:=D;rw[EH (by show Aj _)];show⟨B,k⟩
structure Fd extends Iq where x:AB
abbrev TU(A:Fd):List (AF×AE):=[("plan",.ref A.lp),("joins",.ref A.dj),("groups",.ref A.dg)]
structure Et(ad:Br)(ex:List AB)(H:AH)(ss:List AU)(A:Fd)(sd:Nat->List AO×List AO)(gg:Nat->AF->List AX)(gk:Nat->List (AN×AE)):Prop extends Fv ad ex H ss A.toIq sd gg gk where au:∃dx,H A.x=AA (.ins ad.de dx (TU A))
theorem Et.ag(h:Et AI ex H ss A sd D gk)(s:An H H'):Et AI ex H' ss A sd D gk:=by obtain⟨J,ex⟩:=h.au;show⟨h.toFv.ag s,J,s _ _ ex⟩
theorem Et.vv(h:Et AI ex H ss A sd J gk)(s:Bq (GG ss A.jd A.gd) H H')(W:CY AI ex H' ss A.dj A.cu A.jd sd')(U:DL AI ex H' ss (Am ss) A.dg A.ff A.gd gg' gk'):Et AI ex H' ss A sd' gg' gk':=by obtain⟨D,ex⟩:=h.au;show⟨h.toFv.vv s W U,D,h.kp s ex nofun⟩
theorem Fv.aat(h:Fv AI ex H ss A sd W gk)(s:Bq p H H')(J:∀b,p b->∃kvs,H b=AA (.dK kvs))(n:∀b,p b->¬GG ss A.jd A.gd b/\b≠A.dj/\b≠A.dg):Fv AI ex H' ss A sd W gk:=by have Y:∀{b:AB}{o:BW},H b=AA o->(∀kvs,o≠.dK kvs)->H' b=AA o:=λ{b o}e n=>s _ _ (λz=>by obtain⟨kvs,U⟩:=J b z;rw[e]at U;show n _ (By U)) e;show⟨Y h.kj nofun,h.kx.ab λb B e=>Y e nofun,s _ _ (λz=>(n _ z).2.1 rfl) h.dk,h.xg,h.bo.fh s (λb D=>.inr (J b D)) (λb D z=>(n b D).1 (.inl z)) (λz=>(n _ z).2.1 rfl),s _ _ (λz=>(n _ z).2.2 rfl) h.di,h.ot,h.yi,h.ba.fh s (λb D=>.inr (J b D)) (λi Z z=>(n _ z).1 (.inr ⟨i,Z,rfl⟩)) (λz=>(n _ z).2.2 rfl),h.rj,h.jy⟩
theorem Et.aat(h:Et AI ex H ss A sd J gk)(s:Bq p H H')(U:∀b,p b->∃kvs,H b=AA (.dK kvs))(n:∀b,p b->¬GG ss A.jd A.gd b/\b≠A.dj/\b≠A.dg):Et AI ex H' ss A sd J gk:=by obtain⟨W,ex⟩:=h.au;show⟨h.toFv.aat s U n,W,s _ _ (λz=>?_) ex⟩;obtain⟨kvs,D⟩:=U _ z;rw[ex]at D;cases D
theorem Oz:((["plan"]:List AF)≠(["within","sides"]:List AF)/\(["plan"]:List AF)≠(["rows"]:List AF))/\(["plan","joins"]:List AF)≠(["within","sides"]:List AF)/\(["plan","joins"]:List AF)≠(["rows"]:List AF)/\(["plan","joins"]:List AF)≠(["step","rows"]:List AF):=by decide+kernel
def nS(U:Br):BF:=λz H Q O=>(IF λ(x Z W:AB)(Y:List AE)(D:List AU)=>Im (z=[.ref x,.ref W]) (H x=AA (.ins U.de Z [])) (H W=AA (.lst Y)) (Fz H Y D) (D.length<=8) (∀J F,F.x=x->BM x H J->Et U [] J D F (λO=>([],[])) (λO O=>[]) (λO=>[])->(∀b,GG D F.jd F.gd b\/b=F.dj\/b=F.dg->H b=AG)->H F.lp=AG->Q .non J))
theorem kB(T:BL AJ Af AI):T.mn.Ok BC P w Af base 6 (nS AI):=by
  show T.mn.ok λnd _ _ _ _ _ hr H vs Q E h=>?_;obtain⟨x,J,lp,ps,ss,rfl,R,U,pr,G,k⟩:_:=h;show⟨_,(Ai (FH (AD 0) (IS (Ll (K:=AJ)) (by rfl) T.jg KY #v[AD 1]) rfl) (Ai (FH (AD 0) (BE (XY T) hr #v[AD 1]) rfl) (Ab (FH (AD 0) (BE (XW T) hr #v[AD 1]) rfl)))),?_⟩;have p:lp≠x:=λz=>by rw[z,R]at U;cases U
  show⟨lp,ps,rfl,.inl (Ac U),λl hl=>?_⟩;show BK hl λF g1 el=>?_;have S:=g1 _ _ R;have nl:l≠x:=λz=>by rw[z,S]at el;cases el
  show⟨x,_,J,[],rfl,S,T.bw,T.uv,by decide,?_⟩;have x4:BM x F (AM F x (.ins AI.de J [("plan",.ref l)])):=zzu
  have Y:(AM F x _) x=AA (.ins AI.de J [("plan",.ref l)]):=AY;have a:∀b,(AM F x (.ins AI.de J [("plan",.ref l)])) b=AG->F b=AG:=λb e=>Gd e;change Pm _ _ _ _ (AM F x (.ins AI.de J [("plan",.ref l)]));generalize AM F x _=H4 at x4 Y a⊢;have A:BM x H H4:=λb o D e=>x4 _ _ D (g1 _ _ e);have q:Bk H H4:=λb xs e=>A _ _ (λz=>by rw[z,R]at e;cases e) e;have W:=λb e=>g1.bc (a b e);show⟨lp,ps,ss,rfl,A _ _ p U,pr.ab q,Ag G (by decide),λI B j jd L hdj ej jks jr fj=>?_⟩;show⟨x,_,J,_,rfl,L _ _ Y,T.bw,T.fi,(by change 1<1000;decide),?_⟩;have y:BM x I (AM I x (.ins AI.de J [("plan",.ref l),("joins",.ref B)])):=zzu
  have Z:(AM I x (.ins AI.de J [("plan",.ref l),("joins",.ref B)])) x=AA _:=AY;have c:∀b,(AM I x (.ins AI.de J [("plan",.ref l),("joins",.ref B)])) b=AG->I b=AG:=λb e=>Gd e;have epf:GR "joins" (.ref B) ([("plan",.ref l)])=([("plan",.ref l),("joins",.ref B)]:List (AF×AE)):=rfl;rw[epf];generalize AM I x _=H6 at y Z c⊢;have m:=jr.au y (L _ _ Y) Oz.1.1 Oz.1.2;have t:BM x H H6:=λb o D e=>y _ _ D (L _ _ (A _ _ D e));have r:Bk H H6:=λb xs e=>t _ _ (λz=>by rw[z,R]at e;cases e) e;have C:=λb e=>W b (L.bc (c b e));show⟨lp,ps,ss,rfl,t _ _ p U,pr.ab r,Ag G (by decide),λH7 dg d gd M g eg lkg gks gr fg=>?_⟩;show⟨x,_,J,_,rfl,M _ _ Z,T.bw,T.cx,(by change 2<1000;decide),?_⟩;have x8:BM x H7 (AM H7 x (.ins AI.de J [("plan",.ref l),("joins",.ref B),("groups",.ref dg)])):=zzu
  have X:=M _ _ Z;have jr8:=(m.ag M).au x8 X Oz.2.1 Oz.2.2.1;have gr8:=gr.au x8 X Oz.2.2.2;have v:BM x H4 _:=λb o D e=>x8 _ _ D (M _ _ (y _ _ D (L _ _ e)));have u:BM x H _:=λb o D e=>v _ _ D (A _ _ D e);have s:Bk H _:=λb xs e=>u _ _ (λz=>by rw[z,R]at e;cases e) e;have n:B≠x:=λz=>by rw[z,L _ _ Y]at ej;cases ej
  have ngx:dg≠x:=λz=>by rw[z,M _ _ Z]at eg;cases eg
  have N:∀b,DF ss jd b->∃kvs,H6 b=AA (.dK kvs):=λb f=>m.rl f;have O:=y _ _ n ej;show k _ ⟨⟨l,ps,B,j,jd,dg,d,gd⟩,x⟩ rfl u ⟨⟨v _ _ nl (x4 _ _ nl el),pr.ab s,x8 _ _ n (M _ _ O),jks,jr8,x8 _ _ ngx eg,Ag lkg G,gks,gr8,λi hi=>⟨λz=>?_,BH O (fg i hi)⟩,λz=>?_⟩,J,AY⟩ (λb f=>?_) hl;. obtain⟨kv,e⟩:=N _ z;rw[fg i hi]at e;cases e
  . obtain⟨kv,e⟩:=N _ z;rw[g]at e;cases e
  . rcases f with(f|⟨i,hi,rfl⟩)|rfl|rfl;.show W _ (fj _ f)
    .show C _ (fg i hi)
    .show W _ hdj
    .show C _ g
def mZ(B:Br):BF:=λG H Q O=>(MO λ(D:List AU)(F:Fd)(Z:Nat->List AO×List AO)(E:Nat->List (AN×AE))(L U:AF->List AO)(W:List Bd)(e:Bd)(J:Int)(q:AB)=>MK (G=[.ref F.x,.ref q]) (Et B [] H D F Z (CT D J L) E) (C4 D) (D.length<=8) (Ip H q e) ((∀(i:Nat)s,D[i]?=AA s->s.cp=AR->L s.nm=Ee s L W/\U s.nm=Ee s U (W++[e])/\(U s.nm).length<=600)) ((∀(i:Nat)n a b A,D[i]?=AA (.join n a b A)->(Z i).1.Perm (BO (J-A) (L a))/\(Z i).2.Perm (BO (J-A) (L b)))) (J<=e.1) ((∀i∈Am D,(E i).length<=(L (EW D i)).length)) ((∀(i:Nat)s,D[i]?=AA s->s.cp=AR->∀x∈U s.nm,0<=x.1/\x.1<=1000000000)) (∀z C Y,Bq (GG D F.jd F.gd) H z->Et B [] z D F (Ef D Z D.length C) (CT D J U) Y->(∀i∈Am D,(Y i).length<=(U (EW D i)).length)->(∀(i:Nat)s,D[i]?=AA s->GW s C (Z i) e)->Q .non z))
theorem jM(T:BL AJ Af AI):T.qr.Ok BC P w Af base 7 (mZ AI):=by show T.qr.ok λi o o o o o a H j Q E h=>?_;obtain⟨d,F,c,O,L,I,U,e,B,q,rfl,D,C,b,N,R,S,X,A,f,k⟩:_:=h;show⟨_,(Ab (D8 (BE (Xc T) a #v[BP (AD 0) rfl,BP (AD 0) rfl,BP (AD 0) rfl,AD 1]))),?_⟩;obtain⟨g,V⟩:=D.au;show⟨_,⟨V,T.bw,T.uv,rfl⟩,_,⟨V,T.bw,T.fi,rfl⟩,_,⟨V,T.bw,T.cx,rfl⟩,F.lp,F.dj,F.dg,q,F.ps,d,_,F.jd,c,L,I,U,e,B,_,F.gd,O,rfl,D.kj,D.kx,C,by lia,D.bo,N,R,S,X,D.ba,A,f,D.rj,D.jy,λG M W s2 Z Y z J=>k G M W s2 (D.vv s2 Z Y) z J⟩
def nM(Y:Br):BF:=λA H Q O=>(IG λ(J:List AU)(F:Fd)(U:Nat->List AO×List AO)(Z:Nat->AF->List AX)(z:Nat->List (AN×AE))(D:Int)=>JX (A=[.ref F.x,.int D]) (Et Y [] H J F U Z z) ((∀i,DX J i->(U i).1.length<=1000/\(U i).2.length<=1000)) (∀W,Bq (GG J F.jd F.gd) H W->Et Y [] W J F (MT J D U) Z z->Q .non W))
theorem jX(T:BL AJ Af AI):T.ph.Ok BC P w Af base 7 (nM AI):=by show T.ph.ok λR X X X X X G H S Q E h=>?_;obtain⟨Z,F,L,N,O,W,rfl,D,V,k⟩:_:=h;show⟨_,(Ab (D8 (BE (XT T) G #v[BP (AD 0) rfl,AD 1]))),?_⟩;obtain⟨M,A⟩:=D.au;show⟨_,⟨A,T.bw,T.fi,rfl⟩,_,Z,_,_,L,W,rfl,D.dk,D.xg,D.bo,V,λY s3 U=>?_⟩;have J:Bq (GG Z _ F.gd) H Y:=λb o I e=>s3 b o (λz=>I (.inl z)) e;show k Y J (D.vv J U (D.ba.fh s3 (λb B=>.inr (D.bo.rl B)) (λi C=>(D.rj i C).1) D.jy))
def oJ(C:Br):BF:=λG H Q O=>(Kd λ(Z:List AB)(D:List AU)(F:Fd)(E:Nat->List AO×List AO)(U:Nat->AF->List AX)(A:Nat->List (AN×AE))(m:Option Int)=>ID (G=[.ref F.x,Kk m]) (Et C Z H D F E U A) (C4 D) (D.length<=8) ((∀c∈Z,∃Y,H c=AA (.lst Y))) ((∀i∈Am D,(A i).length<=600)) ((∀i∈Am D,∀z,EL (U i z)/\(U i z).length<=3000)) (∀J r Y B W,Bq (GG D F.jd F.gd) H J->Et C Z J D F E (λi z=>Em m (U i z)) W->(∀i∈Am D,(W i).length<=(A i).length)->H r=AG->J r=AA (.lst Y)->BJ (Kg D J) Y B->(B.map De).Nodup->(∀q:DM,q∈B↔q.1∈Am D/\q.2.2∈FV m (U q.1 q.2.1))->Q (.ref r) J))
theorem kQ(T:BL AJ Af AI):T.uc.Ok BC P w Af base 7 (oJ AI):=by show T.uc.ok λx _ _ _ _ _ l H vs Q E h=>?_;obtain⟨a,R,F,y,c,f,m,rfl,D,O,I,W,G,C,k⟩:_:=h;show⟨_,(Ab (BD (BE (XS T) l #v[BP (AD 0) rfl,AD 1]))),?_⟩;obtain⟨v,X⟩:=D.au;show⟨_,⟨X,T.bw,T.cx,rfl⟩,a,_,R,_,_,c,f,m,rfl,D.di,O,I,D.ot,D.yi,D.ba,W,G,C,λS r u s g s1 V B Z U L N t M p=>?_⟩;have J:Bq (GG R F.jd _) H S:=λb o q e=>s1 b o (λz=>q (.inr z)) e;have A:∀b,(∃i∈Am R,b=(F.gd i).d)->∃n,H b=AA _:=λb z=>D.zp (.inr z);show k S r u s _ J (D.vv J (D.bo.fh s1 (λb j=>.inr (A b j)) (λb⟨i,Y,z⟩=>by rw[z];show(D.rj i Y).1) λ⟨i,Y,z⟩=>(D.rj i Y).2 z) V) B Z U L N M
structure CN where
 x:AB
 ck:AB
 lh:AB
 dm:AB
 hs:List Fd
 hm:List (AF×Nat)
def DE(X:CN):List (AN×AE):=X.hm.map λp=>(Bj p.1,AE.int ((p.2%X.hs.length:Nat):Int))
abbrev Ws(X:CN):List (AF×AE):=[("clock",.ref X.ck),("hands",.ref X.lh),("homes",.ref X.dm)]
abbrev FW(ss:List AU)(h:Fd):AB->Prop:=GG ss h.jd h.gd
def CU(f:Nat->α)(i:Nat)(v:α):Nat->α:=λj=>if j=i then v else f j
theorem UA(f:Nat->α)(i:Nat):CU f i (f i)=f:=funext λj=>by
 unfold CU;split;.rename_i h;rw[h]
 .rfl
abbrev CA:=Nat->List AO×List AO
abbrev ED:=Nat->AF->List AX
abbrev CS:=Nat->List (AN×AE)
structure Cy(ad:Br)(ex:List AB)(H:AH)(ss:List AU)(X:CN)(sl now cnt:Int)(sd:Nat->CA)(gg:Nat->ED)(gk:Nat->CS):Prop where
 au:∃dx,H X.x=AA (.ins ad.dq dx (Ws X))cn:∃dx,H X.ck=AA (.ins ad.aj dx (EV sl now cnt))bz:H X.lh=AA (.lst (X.hs.map λh=>AE.ref h.x))gh:H X.dm=AA (.dK (DE X))bx:∀(i:Nat)h,X.hs[i]?=AA h->Et ad ex H ss h (sd i) (gg i) (gk i)bh:∀(i j:Nat)h h',i≠j->X.hs[i]?=AA h->X.hs[j]?=AA h'->∀b,FW ss h b->¬FW ss h' b/\b≠h'.dj/\b≠h'.dg
 aaf:∀(i:Nat)h,X.hs[i]?=AA h->¬FW ss h X.dm/\X.dm≠h.dj/\X.dm≠h.dg
theorem Cy.ag(h:Cy AI ex H ss X Z now D sd Y gk)(s:An H H'):Cy AI ex H' ss X Z now D sd Y gk:=by lk;obtain⟨U,ex⟩:=h.au;obtain⟨J,V⟩:=h.cn;k_in;show⟨⟨U,s _ _ ex⟩,⟨J,s _ _ V⟩,s _ _ h.bz,s _ _ h.gh,λi F W=>(h.bx i F W).ag s,h.bh,h.aaf⟩
theorem Cy.ie(h:Cy AI ex H ss X E now Y sd C gk)(U:X.hs[i]?=AA F)(s:Bq (FW ss F) H H')(D:Et AI ex H' ss F sd' gg' gk'):Cy AI ex H' ss X E now Y (CU sd i sd') (CU C i gg') (CU gk i gk'):=by
 have W:=h.bx i F U;lk;obtain⟨A,ex⟩:=h.au;obtain⟨Z,B⟩:=h.cn;k_in;show⟨⟨A,W.kp s ex nofun⟩,⟨Z,W.kp s B nofun⟩,W.kp s h.bz nofun,s _ _ (h.aaf i F U).1 h.gh,λj G V=>?_,h.bh,h.aaf⟩;unfold CU;by_cases q:j=i
 . subst q;rw[U]at V;cases V;rw[AE0 rfl,AE0 rfl,AE0 rfl];show D
 . rw[AEz q,AEz q,AEz q];show(h.bx j G V).aat s (λb D=>W.zp D) λb D=>h.bh i j F G (DJ q) U V b D
theorem Cy.aat(h:Cy AI ex H ss X E now D sd B gk)(s:Bq p H H')(W:∀b,p b->∃kvs,H b=AA (.dK kvs))(n:∀b,p b->b≠X.dm/\∀(i:Nat)G,X.hs[i]?=AA G->¬FW ss G b/\b≠G.dj/\b≠G.dg):Cy AI ex H' ss X E now D sd B gk:=by have J:∀{b:AB}{o:BW},H b=AA o->(∀kvs,o≠.dK kvs)->H' b=AA o:=λ{b o}e n=>s _ _ (λz=>by obtain⟨kvs,U⟩:=W b z;rw[e]at U;show n _ (By U)) e;lk;obtain⟨Z,ex⟩:=h.au;obtain⟨Y,A⟩:=h.cn;k_in;show⟨⟨Z,J ex nofun⟩,⟨Y,J A nofun⟩,J h.bz nofun,s _ _ (λz=>(n _ z).1 rfl) h.gh,λi G V=>(h.bx i G V).aat s W λb C=>(n b C).2 i G V,h.bh,h.aaf⟩
theorem Cy.ob(h:Cy AI ex H ss X T now U sd M gk)(s:BM x H H')(B:H x=AA (.ins C W J))(N:J.map (·.1)≠(["within","sides"]:List AF))(O:J.map (·.1)≠(["rows"]:List AF))(P:J.map (·.1)≠(["step","rows"]:List AF))(S:X.x≠x)(R:∀(i:Nat)G,X.hs[i]?=AA G->G.x≠x):X.ck≠x->Cy AI ex H' ss X T now U sd M gk:=λQ=>by have E:∀{b:AB}{o:BW},H b=AA o->(∀Z D A,o≠.ins Z D A)->H' b=AA o:=λe n=>HF s B e λZ D A z=>absurd z (n _ _ _);lk;obtain⟨W,ex⟩:=h.au;obtain⟨F,K⟩:=h.cn;k_in;show⟨⟨W,s _ _ S ex⟩,⟨F,s _ _ Q K⟩,E h.bz nofun,E h.gh nofun,λi G Y=>?_,h.bh,h.aaf⟩;obtain⟨I,L⟩:=(h.bx i G Y).au;show⟨(h.bx i G Y).toFv.au s B N O P,I,s _ _ (R i G Y) L⟩
theorem XH:((["clock","hands","homes"]:List AF)≠(["slack","now","count"]:List AF))/\(["plan","joins","groups"]:List AF)≠(["slack","now","count"]:List AF):=by decide+kernel
theorem Cy.aay(h:Cy AI ex H ss X C now E sd M gk)(s:BM X.ck H H')(e:H' X.ck=AA (.ins AI.aj Z (EV C J D))):Cy AI ex H' ss X C J D sd M gk:=by
 lk;obtain⟨F,V⟩:=h.cn;have B:∀{b:AB}{o:BW},H b=AA o->(∀Y U W,o≠.ins Y U W)->H' b=AA o:=λe n=>HF s V e λY U W z=>absurd z (n _ _ _);obtain⟨K,ex⟩:=h.au;k_in;show⟨⟨K,HF s V ex λO O W z=>?_⟩,⟨Z,e⟩,B h.bz nofun,B h.gh nofun,λi G A=>?_,h.bh,h.aaf⟩
 . injection z with _ _ z;rw[<-z];show DJ XH.1
 . obtain⟨I,L⟩:=(h.bx i G A).au;show⟨(h.bx i G A).toFv.au s V HY.2.1 HY.2.2.1 HY.2.2.2,I,HF s V L λO O W z=>?_⟩;injection z with _ _ z;rw[<-z];show DJ XH.2
def Ga(ss:List AU)(X:CN)(b:AB):Prop:=b=X.ck\/∃(i:Nat)(h:Fd),X.hs[i]?=AA h/\FW ss h b
def J3(ss:List AU)(X:CN)(b:AB):Prop:=b=X.x\/b=X.ck\/b=X.lh\/b=X.dm\/∃(i:Nat)(h:Fd),X.hs[i]?=AA h/\(b=h.x\/b=h.dj\/b=h.dg\/FW ss h b)
theorem Cy.ma(h:Cy AI ex H ss X Z now U sd Y gk)(D:J3 ss X b):∃o,H b=AA o:=by
  rcases D with rfl|rfl|rfl|rfl|⟨i,G,W,D⟩
  . obtain⟨V,ex⟩:=h.au;show⟨_,ex⟩
  . obtain⟨V,ex⟩:=h.cn;show⟨_,ex⟩
  .show⟨_,h.bz⟩
  .show⟨_,h.gh⟩
  . have J:=h.bx i G W;rcases D with rfl|rfl|rfl|D
    . obtain⟨V,ex⟩:=J.au;show⟨_,ex⟩
    .show⟨_,J.dk⟩
    .show⟨_,J.di⟩
    . obtain⟨z,e⟩:=J.zp D;show⟨_,e⟩
def pO(W:Br):BF:=λA H Q O=>(Kd λ(x z Y:AB)(Z:List AE)(J:List AU)(D:Int)(m:Nat)=>Jv (A=[.ref x,.ref Y,.int D,.int (m:Int)]) (H x=AA (.ins W.dq z [])) (H Y=AA (.lst Z)) (Fz H Z J) (J.length<=8) (0<=D) (D<=1000000000) (m<=8) (∀U X,X.x=x->X.hm=[]->X.hs.length=m->BM x H U->Cy W [] U J X D 0 0 (λO O=>([],[])) (λO O O=>[]) (λO O=>[])->(∀b,J3 J X b->b=x\/H b=AG)->(∀(i:Nat)G,X.hs[i]?=AA G->H G.lp=AG)->Q .non U))
theorem lF(T:BL AJ Af AI):T.kg.Ok BC P w Af base 8 (pO AI):=by
  show T.kg.ok λnd _ _ _ _ _ hr H vs Q E h=>?_;obtain⟨x,N,lp,ps,t,sl,m,rfl,ex,g,pr,lss,s0,s1,lm,k⟩:_:=h;show⟨_,(Ai (FH (AD 0) (Ma (XR T) hr T.yk JL #v[AD 2]) rfl) (Ai (FH (AD 0) (IQ (DG X7) [("plan",1)] ⟨rfl,rfl,trivial⟩ (N8 (by rfl) T.jo #v[AD 3]) (λ_ _ _ _=>G0) (λ_ _ _ _=>(Ma (kB T) hr T.abl JL #v[AD 1]))) rfl) (Ab (FH (AD 0) Mq rfl)))),?_⟩;have sz:Az=16777216:=Dj;have nlx:lp≠x:=λz=>by rw[z,ex]at g;cases g
  showλc B S hdc hcn=>⟨c,B,sl,rfl,AY,s0,s1,rfl,?_⟩;have g3:An H (AM (AM (AM H B (.own c)) c (.ins AI.aj B [])) c (.ins AI.aj B (EV sl 0 0))):=λb o e=>by rw[AV (BH e S),AV (BH e S),AV (BH e hdc)];show e
  have ec3:(AM (AM (AM H B (.own c)) c (.ins AI.aj B [])) c (.ins AI.aj B (EV sl 0 0))) c=AA (.ins AI.aj B (EV sl 0 0)):=AY;generalize AM _ c (.ins AI.aj B (EV sl 0 0))=v at g3 ec3⊢;have ncx:c≠x:=λz=>by rw[z,ex]at S;cases S
  show⟨x,_,N,[],rfl,g3 _ _ ex,T.ao,T.il,by decide,?_⟩;have x4:BM x v (AM v x (.ins AI.dq N [("clock",.ref c)])):=zzu
  have Y:(AM v x _) x=AA (.ins AI.dq N [("clock",.ref c)]):=AY;have fr4:∀b,(AM v x (.ins AI.dq N [("clock",.ref c)])) b=AG->v b=AG:=λb e=>Gd e;have epf:GR "clock" (.ref c) ([]:List (AF×AE))=([("clock",.ref c)]:List (AF×AE)):=rfl;rw[epf];generalize AM v x _=M at x4 Y fr4⊢;have u:BM x H M:=λb o X e=>x4 _ _ X (g3 _ _ e);have tp04:Bk H M:=λb xs e=>u _ _ (λz=>by rw[z,ex]at e;cases e) e;have O:∀b,M b=AG->H b=AG:=λb e=>g3.bc (fr4 b e);have ec4:=x4 _ _ ncx ec3;show⟨(m:Int),rfl,by simp,ABG.mp (FR lm (by decide)),rT (λi τ a H'=>(∃o,τ=[o,AA (.ref lp)])/\An M H'/\∃(Z:List Fd),a=Z.map (λh=>AE.ref h.x)/\Z.length=i/\(∀h∈Z,Et AI [] H' t h (λ_=>([],[])) (λ_ _=>[]) (λ_=>[]))/\(∀h∈Z,∀b,FW t h b\/b=h.dj\/b=h.dg\/b=h.x->M b=AG)/\(∀h∈Z,M h.lp=AG)/\Z.Pairwise λh R=>∀b c,FW t h b\/b=h.dj\/b=h.dg->FW t R c\/c=R.dj\/c=R.dg->b≠c) (by lia) ⟨⟨AG,rfl⟩,CQ _,[],rfl,rfl,λh D=>(by cases D),λh D=>(by cases D),λh D=>(by cases D),.nil⟩ ?_ ?_⟩
  . intro i τ a H5 R1 hi _ hI k1;obtain⟨⟨o,rfl⟩,A,Z,rfl,lh,J,hn,p,pw⟩:_:=hI;showλy dy hy n hyn=>⟨y,dy,lp,ps,t,rfl,AY,?_,?_,lss,λH6 F ef sx fb fre flp=>⟨rfl,k1 _ _ _ ⟨⟨_,rfl⟩,?_⟩⟩⟩
    . have f:=A _ _ (u _ _ nlx g);rw[AV (BH f hy),AV (BH f n)];show f
    . show(pr.ab tp04).ab λb xs e=>?_;have f:=A _ _ e;rw[AV (BH f hy),AV (BH f n)];show f
    subst ef;have s6:An H5 H6:=Ta hy n sx;have G:=λb J=>(Oy hyn (fre b J)).1;show⟨A.aa s6,Z++[F],by rw[CW];rfl,by rw[Bx,lh];rfl,λh D=>?_,λh D b U=>?_,λh D=>?_,?_⟩
    . rcases Ce.mp D with D|D;.show(J h D).ag s6
      .rw[Bm.mp D];show fb
    . rcases Ce.mp D with D|D;.show hn h D b U
      . rw[Bm.mp D]at U;rcases U with U|U|U|U;.show A.bc (G b (.inl U))
        .show A.bc (G b (.inr (.inl U)))
        .show A.bc (G b (.inr (.inr U)))
        .rw[U];show A.bc hy
    . rcases Ce.mp D with D|D;.show p h D
      .rw[Bm.mp D];show A.bc (Oy hyn flp).1
    . show M4.mpr ⟨pw,bT _ _,λh D R hh' b c qb qc=>?_⟩;rw[Bm.mp hh']at qc;have e0:=G c qc;have:∃o,H5 b=AA o:=by
        rcases qb with qb|rfl|rfl
        . obtain⟨kv,e⟩:=(J h D).zp qb;show⟨_,e⟩
        .show⟨_,(J h D).dk⟩
        .show⟨_,(J h D).di⟩
      obtain⟨o,e⟩:=this;show BH e e0
  . intro τ a H5 _ hI l hl;obtain⟨_,A,Z,rfl,lh,J,hn,p,pw⟩:_:=hI;have I:=A.bc hl;show BK hl λH6 s6 el=>?_;have L:=A.aa s6;show⟨x,_,N,[("clock",.ref c)],rfl,L _ _ Y,T.ao,T.ax,(by change 1<1000;decide),?_⟩;showλd hd=>?_;have W:H6 d=AG:=Gd hd;have exd:x≠d:=λz=>by rw[<-z,L _ _ Y]at W;cases W
    show⟨x,_,N,[("clock",.ref c),("hands",.ref l)],rfl,by rw[AV exd];show AY,T.ao,T.gu,(by change 2<1000;decide),?_⟩;have xx:∀(H:AH)(o o' o2:BW),AM (AM (AM H x o) d o') x o2=AM (AM H d o') x o2:=λH o o' o2=>by
      funext b;by_cases q:b=x;.rw[q,AY,AY]
      . rw[AV q,AV q];by_cases q2:b=d;.rw[q2,AY,AY]
        .rw[AV q2,AV q2,AV q]
    rw[xx];show BK (o:=.dK []) W λH7 s7 ed=>?_;have s:=L.aa s7;have ex7:=s _ _ Y;have x8:BM x H7 (AM H7 x (.ins AI.dq N [("clock",.ref c),("hands",.ref l),("homes",.ref d)])):=zzu
    have hdx:d≠x:=DJ exd;have nlx':l≠x:=λz=>by rw[z]at I;rw[Y]at I;cases I
    have hd4:M d=AG:=L.bc W;have u4:∀b,J3 t ⟨x,c,l,d,Z,[]⟩ b->b=x\/b=c\/M b=AG:=λb J=>by
      rcases J with rfl|rfl|rfl|rfl|⟨i,h,C,J⟩;.show .inl rfl
      .show .inr (.inl rfl)
      .show .inr (.inr I)
      .show .inr (.inr hd4)
      . show .inr (.inr (hn h (Cm C) b ?_));rcases J with J|J|J|J;.show .inr (.inr (.inr J))
        .show .inr (.inl J)
        .show .inr (.inr (.inl J))
        .show .inl J
    have n1:((["clock","hands"]:List AF)≠(["within","sides"]:List AF))/\(["clock","hands"]:List AF)≠(["rows"]:List AF)/\(["clock","hands"]:List AF)≠(["step","rows"]:List AF)/\(["clock"]:List AF)≠(["within","sides"]:List AF)/\(["clock"]:List AF)≠(["rows"]:List AF)/\(["clock"]:List AF)≠(["step","rows"]:List AF):=by decide+kernel
    show k _ ⟨x,c,l,d,Z,[]⟩ rfl rfl lh (λb o X e=>x8 _ _ X (s _ _ (u _ _ X e))) ⟨⟨N,AY⟩,⟨B,x8 _ _ ncx (s _ _ ec4)⟩,x8 _ _ nlx' (s7 _ _ el),x8 _ _ hdx ed,λi h C=>?_,λi j h R nij C ej b J=>?_,λi h C=>?_⟩ (λb J=>?_) λi h C=>O _ (p h (Cm C))
    . have hm:=Cm C;have h7:=((J h hm).ag s6).ag s7;obtain⟨dh,eh⟩:=h7.au;show⟨h7.toFv.au x8 ex7 n1.2.2.2.1 n1.2.2.2.2.1 n1.2.2.2.2.2,dh,x8 _ _ (λz=>?_) eh⟩;have:=hn h hm h.x (.inr (.inr (.inr rfl)));rw[z,Y]at this;cases this
    . have r:∀c,FW t R c\/c=R.dj\/c=R.dg->b≠c:=λc S=>by
        obtain⟨li,gi⟩:=BU.mp C;obtain⟨lj,gj⟩:=BU.mp ej;rcases Nat.lt_or_gt_of_ne nij with q|q;. have:=(Gn.mp pw) i j li lj q;rw[gi,gj]at this;show this b c (.inl J) S
        . have:=(Gn.mp pw) j i lj li q;rw[gi,gj]at this;showλe=>this c b S (.inl J) e.symm
      show⟨λz=>r b (.inl z) rfl,r _ (.inr (.inl rfl)),r _ (.inr (.inr rfl))⟩
    . have hm:=Cm C;have h6:=(J h hm).ag s6;show⟨λhq=>?_,λz=>?_,λz=>?_⟩
      . obtain⟨kv,e⟩:=h6.zp hq;rw[W]at e;cases e
      . have z:d=h.dj:=z;have:=h6.dk;rw[<-z,W]at this;cases this
      . have z:d=h.dg:=z;have:=h6.di;rw[<-z,W]at this;cases this
    . rcases u4 b J with q|q|q;.show .inl q
      .rw[q];show .inr S
      .show .inr (O b q)
theorem Fv.xv(h:Fv AI ex H ss A sd E gk)(F:c∈ex)(e:H c=AA (.lst ys))(K:A.lp≠c):Fv AI ex (AM H c o) ss A sd E gk:=by
 have s:Bq _ H (AM H c o):=zzu
 have C:∀{b:AB}{Y:BW},H b=AA Y->(∀B,Y≠.lst B)->(AM H c o) b=AA Y:=λ{b Y}J n=>s _ _ (λz=>by rw[z,e]at J;show n _ (By J).symm) J;have Z:∀{b:AB}{W:List _},H b=AA (.dK W)->b≠c:=λ{b W}J z=>by rw[z,e]at J;cases J
 show⟨s _ _ K h.kj,h.kx.ab λb M U=>C U nofun,C h.dk nofun,h.xg,h.bo.fh s (λb D=>.inl ⟨by rw[D];show F,ys,by rw[D];show e⟩) (λb D z=>by obtain⟨L,U⟩:=h.bo.rl z;show Z U D) (Z h.dk),C h.di nofun,h.ot,h.yi,h.ba.fh s (λb D=>.inl ⟨by rw[D];show F,ys,by rw[D];show e⟩) (λi G z=>by obtain⟨_,_,_,g⟩:_:=h.ba.js i G;show Z g.ar.ah z) (Z h.di),h.rj,h.jy⟩
theorem Cy.xv(h:Cy AI ex H ss X N now W sd I gk)(K:c∈ex)(e:H c=AA (.lst ys))(L:X.lh≠c)(M:∀(i:Nat)G,X.hs[i]?=AA G->G.lp≠c):Cy AI ex (AM H c o) ss X N now W sd I gk:=by
 have J:∀{b:AB}{U:BW},H b=AA U->(∀D,U≠.lst D)->(AM H c o) b=AA U:=λ{b U}Y n=>by rw[AV λz=>by rw[z,e]at Y;show n _ (By Y).symm];show Y
 lk;obtain⟨C,ex⟩:=h.au;obtain⟨A,E⟩:=h.cn;k_in;show⟨⟨C,J ex nofun⟩,⟨A,J E nofun⟩,by rw[AV L];show h.bz,J h.gh nofun,λi G Z=>?_,h.bh,h.aaf⟩;obtain⟨B,F⟩:=(h.bx i G Z).au;show⟨(h.bx i G Z).toFv.xv K e (M i G Z),B,J F nofun⟩
theorem Cy.ip(h:Cy AI ex H ss X W now J sd V gk)(U:H c=AG):Cy AI (c::ex) H ss X W now J sd V gk:=⟨h.au,h.cn,h.bz,h.gh,λi G D=>⟨⟨(h.bx i G D).kj,(h.bx i G D).kx,(h.bx i G D).dk,(h.bx i G D).xg,(h.bx i G D).bo.ip U,(h.bx i G D).di,(h.bx i G D).ot,(h.bx i G D).yi,(h.bx i G D).ba.ip U,(h.bx i G D).rj,(h.bx i G D).jy⟩,(h.bx i G D).au⟩,h.bh,h.aaf⟩
theorem Cy.iw(h:Cy AI (c::ex) H ss X V now J sd U gk):Cy AI ex H ss X V now J sd U gk:=⟨h.au,h.cn,h.bz,h.gh,λi G D=>⟨⟨(h.bx i G D).kj,(h.bx i G D).kx,(h.bx i G D).dk,(h.bx i G D).xg,(h.bx i G D).bo.iw,(h.bx i G D).di,(h.bx i G D).ot,(h.bx i G D).yi,(h.bx i G D).ba.iw,(h.bx i G D).rj,(h.bx i G D).jy⟩,(h.bx i G D).au⟩,h.bh,h.aaf⟩
theorem Cy.qk(h:Cy AI ex H ss X W now D sd U gk)(e:∀i,i<X.hs.length->∀t∈Am ss,gg' i t=U i t):Cy AI ex H ss X W now D sd gg' gk:=⟨h.au,h.cn,h.bz,h.gh,λi G J=>⟨(h.bx i G J).toFv.qk λt V=>e i (BU.mp J).1 t V,(h.bx i G J).au⟩,h.bh,h.aaf⟩
theorem Cy.ab(h:Cy AI ex H ss X E now J sd A gk)(e:H b=AA o)(Y:∀C U W,o≠.ins C U W)(Z:∀kvs,o≠.dK kvs):¬Ga ss X b:=λz=>by
 rcases z with z|⟨i,G,V,z⟩;. obtain⟨_,D⟩:=h.cn;rw[<-z,e]at D;show Y _ _ _ (By D)
 . obtain⟨B,D⟩:=(h.bx i G V).zp z;rw[e]at D;show Z _ (By D)
theorem Wr(h:0<m)(z:AF):0<=NO m z/\NO m z<m:=⟨Fu _ (JW h),Gr _ h⟩
def CI(X:CN)(z:AF):Nat:=match X.hm.lookup z with|AA i=>i%X.hs.length|AG=>(NO X.hs.length z).toNat
theorem Ld(h:0<X.hs.length)(z:AF):CI X z<X.hs.length:=by
 have:=Wr (m:=X.hs.length) (by simp_all) z;unfold CI;split;.show Nat.mod_lt _ h
 .simp_all
theorem Ow(h:0<X.hs.length)(z:AF):(BQ (DE X) (.inr z)).getD (.int (NO X.hs.length z))=.int ((CI X z:Nat):Int):=by
 have g:∀(l:List (AF×Nat)),BQ (l.map λp=>((Bj p.1:AN),AE.int ((p.2%X.hs.length:Nat):Int))) (.inr z)=(l.lookup z).map λi=>AE.int ((i%X.hs.length:Nat):Int):=λl=>by induction l with |nil=>rfl|cons p l D=>
  obtain⟨a,i⟩:=p;by_cases q:a=z
  . subst q;rw[FO,IV rfl,ABl,AFD];rfl
  .rw[FO,IU (λe=>q (Fc e)),D,ABl,beq_false_of_ne (DJ q)]
 unfold DE CI;rw[g];have:=Wr (m:=X.hs.length) (by simp_all) z;cases X.hm.lookup z with|none=>show AE2 AE.int (AA7.mpr this.1)|some i=>rfl
def pN(J:Br):BF:=λW H Q O=>(EB λ(X:CN)(U:AB)(z:AF)=>ID (W=[.ref X.x,.str z]) (H X.x=AA (.ins J.dq U (Ws X))) (H X.lh=AA (.lst (X.hs.map λh=>AE.ref h.x))) (H X.dm=AA (.dK (DE X))) (Cu z) (0<X.hs.length) (X.hs.length<=8) (∀D,An H D->Q (.int ((CI X z:Nat):Int)) D))
theorem Ti(T:BL AJ Af AI):T.qv.Ok BC P w Af base 2 (pN AI):=by show T.qv.ok λC O O O O O U H F Q E h=>?_;obtain⟨X,A,z,rfl,J,Y,D,W,Z,B,k⟩:_:=h;show⟨_,(Ab (BD (Rl U.u1 (BP (AD 0) rfl) (AD 1) (BE (jW T) U #v[AD 1,(DI (F4) (by rfl) T.gw F8 #v[BP (AD 0) rfl])]) ⟨rfl,rfl,rfl,rfl⟩))),?_⟩;show⟨_,⟨J,T.ao,T.gu,rfl⟩,_,rfl,.inl ⟨_,.inl D⟩,_,⟨J,T.ao,T.ax,rfl⟩,_,.inl (Ac Y),?_⟩;rw[Aq];show⟨z,_,rfl,W,by simp_all,λV s=>⟨_,.inl ⟨_,.inr z,.inl (s _ _ D),rfl,rfl⟩,?_⟩⟩;rw[Ow Z];show k V s
def YU(C:Br):BF:=λI H Q O=>(MO λ(D:List AU)(X:CN)(F Z W:Int)(E:Nat->CA)(U:Nat->ED)(B:Nat->CS)(m:Option Int)(A:AF->Nat)=>Jv (I=[.ref X.x,Kk m]) (Cy C [] H D X F Z W E U B) (C4 D) (D.length<=8) (X.hs.length<=8) ((∀z,A z<X.hs.length)) ((∀i,i<X.hs.length->∀t∈Am D,(B i t).length<=600/\∀z,EL (U i t z)/\(U i t z).length<=3000/\(U i t z≠[]->A z=i))) ((∀J:List DM,(J.map De).Nodup->(∀q∈J,q.1∈Am D/\q.2.2∈U (A q.2.1) q.1 q.2.1)->J.length<=14400000)) (∀V r G J Y,Bq (Ga D X) H V->Cy C [] V D X F Z W E (λi t z=>Em m (U i t z)) Y->(∀i,i<X.hs.length->∀t∈Am D,(Y i t).length<=(B i t).length)->H r=AG->V r=AA (.lst G)->BJ (Iv D V) G J->(J.map De).Nodup->DP (J.map De)->(∀q:DM,q∈J↔q.1∈Am D/\q.2.2∈FV m (U (A q.2.1) q.1 q.2.1))->J.length<=14400000->Q (.ref r) V))
theorem Xl(T:BL AJ Af AI):T.mv.Ok BC P w Af base 8 (YU AI):=by
  show T.mv.ok λnd _ _ _ _ _ hr H vs Q E h=>?_;obtain⟨d,X,sl,now,cnt,sd,U,gk,m,hm,rfl,hb,pok,lss,lhs,hml,lg,bnd,k⟩:_:=h;show⟨_,(C6 (Aw 2 nd (C9 Ea)) (C6 (DB DK rfl (DA (K:=AJ) (BP (AD 0) rfl)) (Cc 3 nd) (Ab (D8 (JM (K:=AJ) MF NB OQ Lw (AD 2) #v[EX (AD 3) T.bw (kQ T) hr #v[AD 1]])))) (Ab (BD (BE (Xe T) hr #v[(DI (UX (K:=AJ) hr) (by rfl) T.jq P5 #v[AD 2])]))))),?_⟩;have sz:Az=16777216:=Dj;showλ_ _ _ _ z1=>⟨Bc _,λM A=>z1 _ _ ?_⟩;show BK (o:=.lst []) A λH0 s0 et0=>?_;have u:=(hb.ip A).ag s0;have nlt:X.lh≠M:=BH hb.bz A;have npt:∀(i:Nat)G,X.hs[i]?=AA G->G.lp≠M:=λi G f=>BH (hb.bx i G f).kj A;obtain⟨dx0,eo0⟩:=u.au;have ovm:∀{l:List AX}{p:AX},p∈FV m l->p∈l:=λ{l p}h=>by cases m with|none=>show h|some n=>show(D1.mp h).1
  showλ_ _ _ _ z2=>⟨_,⟨eo0,T.ao,T.ax,rfl⟩,X.lh,rfl,⟨_,Ac u.bz⟩,GP (K:=AJ) (xs:=X.hs.map λh=>AE.ref h.x) (λn σ H'=>(GX λ(o3:Option AE)(D:List AE)(R:List DM)(gk':Nat->CS)=>ID (σ=[AA (.ref X.x),AA (Kk m),AA (.ref M),o3]) (Bq (λb=>b=M\/Ga d X b) H0 H') (Cy AI [M] H' d X sl now cnt sd (λi t z=>if i<n then Em m (U i t z)else U i t z) gk') ((∀i,i<X.hs.length->∀t∈Am d,(gk' i t).length<=(gk i t).length)) (H' M=AA (.lst D)) (BJ (Kg d H') D R) ((R.map De).Nodup) (∀q:DM,q∈R↔hm q.2.1<n/\q.1∈Am d/\q.2.2∈FV m (U (hm q.2.1) q.1 q.2.1)))) ⟨AG,[],[],gk,rfl,λb o _ e=>e,u.qk λi _ t _=>funext λz=>AEz (Ia _),λi _ t _=>Aj _,et0,.nil,.nil,λq=>⟨λh=>(by cases h),λh=>absurd h.1 (Ia _)⟩⟩ (λn σ H' _ v=>by obtain⟨_,_,_,_,_,_,h',_⟩:=v;show Ac h'.bz) ?_ ?_⟩
  . intro n y σ H2 hy hI;lk;obtain⟨o3,D,R,j,rfl,s2,Z,B,W,C,L,I⟩:=hI;rw[Bt]at hy;obtain⟨F,f,rfl⟩:=EA.mp hy;have hn:n<X.hs.length:=(BU.mp f).1;have v:=Z.bx n F f;have gn:(λt z=>if n<n then Em m (U n t z)else U n t z)=U n:=funext λt=>funext λz=>AEz (Ht _);rw[gn]at v;obtain⟨dxh,eh⟩:=v.au;k_in;show⟨.inl ⟨rfl,_,Ac W⟩,F.x,dxh,_,rfl,eh,by rfl,[M],d,F,sd n,U n,j n,m,rfl,v,pok,lss,(λc hc=>by rw[Bm.mp hc];show⟨_,W⟩),(λt O=>Ag (B n hn t O) (lg n hn t O).1),(λt O z=>⟨((lg n hn t O).2 z).1,((lg n hn t O).2 z).2.1⟩),λH3 r xs S gk3 s3 h3 lg3 hr3 er3 mk3 nd3 J=>?_⟩;have Y:=Z.ie f s3 h3;rw[UA]at Y;have g:=v.kp s3 W nofun;have tp3:Bk H2 H3:=λb zs e=>v.kp s3 e nofun;have hmn:∀q∈S,hm q.2.1=n:=λq hq=>by
      obtain⟨s,N⟩:=(J q).mp hq;show((lg n hn q.1 s).2 q.2.1).2.2 λz=>by have:=ovm N;rw[z]at this;cases this
    have mmA:∀q:DM,q∈R++S↔hm q.2.1<n+1/\q.1∈Am d/\q.2.2∈FV m (U (hm q.2.1) q.1 q.2.1):=λq=>by
      rw[Ce,I];constructor
      . rintro(⟨s,N⟩|h);.show⟨ON s,N⟩
        . have e:=hmn q h;rw[e];show⟨KS _,(J q).mp h⟩
      . rintro⟨s,N,h3⟩;by_cases e:hm q.2.1=n;. rw[e]at h3;show .inr ((J q).mpr ⟨N,h3⟩)
        .show .inl ⟨DU (Dc s) e,N,h3⟩
    have ndA:((R++S).map De).Nodup:=by rw[CW];show VR.mpr ⟨L,nd3,λa ha b hb e=>?_⟩;subst e;obtain⟨x,hx,rfl⟩:=Ay.mp ha;obtain⟨y,hy,e⟩:=Ay.mp hb;have s:=((I x).mp hx).1;have N:=hmn y hy;have e2:y.2.1=x.2.1:=Fc (Dz (Dz (Dz e).2).2).1;rw[e2]at N;show y3 (Bi N.symm) s
    have lA:=bnd _ ndA λq hq=>⟨((mmA q).mp hq).2.1,ovm ((mmA q).mp hq).2.2⟩;rw[Bx]at lA;have l2:=(CJ C).1;have l3:=(CJ mk3).1;show⟨M,r,D,xs,rfl,rfl,g,er3,by lia,?_⟩;have tp4:Bk H3 (AM H3 M (.lst (D++xs))):=(Gg H3).gy g λxs=>by intro z;cases z
    show⟨_,D++xs,R++S,_,rfl,λb o nb e=>?_,(Y.xv (.head _) g nlt npt).qk λi _ t _=>?_,λi hi t O=>?_,AY,D7 (J6 C λb zs e=>tp4 _ _ (tp3 _ _ e)) (J6 mk3 tp4),ndA,mmA⟩;. rw[AV λz=>nb (.inl z)];show s3 _ _ (λz=>nb (.inr (.inr ⟨n,F,f,z⟩))) (s2 b o nb e)
    . unfold CU;by_cases q:i=n
      . subst q;rw[AE0 rfl];funext z;show AE0 (KS _)
      . rw[AEz q];funext z;change(if i<n+1 then Em m (U i t z)else U i t z)=if i<n then Em m (U i t z)else U i t z;by_cases q2:i<n;.rw[AE0 q2,AE0 (ON q2)]
        .rw[AEz q2,AEz (LI q2 (λu1=>DU (Dc u1) q))]
    . unfold CU;by_cases q:i=n;. subst q;rw[AE0 rfl];show Ag (lg3 t O) (B i hi t O)
      . rw[AEz q];show B i hi t O
  . intro σ H2 hI;lk;obtain⟨o3,D,R,j,rfl,s2,Z,B,W,C,L,I⟩:=hI;rw[Aq]at Z I;have Y:=Z.iw.qk (gg':=λi t z=>Em m (U i t z)) λi hi t _=>funext λz=>(AE0 hi).symm;have J:∀q:DM,q∈R↔q.1∈Am d/\q.2.2∈FV m (U (hm q.2.1) q.1 q.2.1):=λq=>(I q).trans ⟨λh=>h.2,λh=>⟨hml _,h⟩⟩;have lq:=bnd _ L λq hq=>⟨((J q).mp hq).1,ovm ((J q).mp hq).2⟩;obtain⟨ds,ed,sn⟩:=W8 C L;k_in;show z2 _ _ ⟨M,D,ds,_,rfl,Ac W,sn,λl qq hl pq sq=>?_⟩;rw[ed]at pq;obtain⟨R',p1,w1,e1⟩:_:=YR C pq;have hl2:=hl;show BK hl λH3 s3 el=>?_;obtain⟨ys,q1,q2⟩:_:=XC (J6 w1 s3.tp);have lr:=p1.length_eq;have ly:=(CJ q2).1;have lx:=(CJ w1).1;show⟨l,_,ys,rfl,el,by lia,q1,λr hr=>?_⟩;have s4:=Bv (o:=.lst ys) hr;have frH:∀b,H2 b=AG->H b=AG:=λb e=>by cases q:H b with|none=>rfl|some o=>
        have q0:=s0 _ _ q;by_cases z:b=M\/Ga d X b
        . rcases z with z|z|⟨i,G,f,z⟩;.rw[z,W]at e;cases e
          . obtain⟨_,e'⟩:=Y.cn;rw[<-z,e]at e';cases e'
          . obtain⟨kv,e'⟩:=(Y.bx i G f).zp z;rw[e]at e';cases e'
        .rw[s2 b o z q0]at e;cases e
    show k _ r ys R' j (λb o nb e=>s4 _ _ (s3 _ _ (s2 b o (λz=>z.elim (λz=>by rw[z,A]at e;cases e) nb) (s0 _ _ e)))) ((Y.ag s3).ag s4) B (frH _ (s3.bc hr)) AY (NV q2 s4.tp) ((p1.map De).nodup_iff.mpr L) (by change bF _ _;rw[e1];show sq) (λq=>by rw[p1.mem_iff];show J q) (Ag (Bi lr) lq)
abbrev Lc(X:CN)(evs:List Bd)(i:Nat):List Bd:=DO (λz=>Ae (CI X z=i)) evs
abbrev Bz(ss:List AU)(X:CN)(evs:List Bd)(i:Nat):AF->List AO:=CO ss (Lc X evs i)
structure G8(ad:Br)(H:AH)(ss:List AU)(X:CN)(sl now cnt:Int)(sd:Nat->CA)(gk:Nat->CS)(evs:List Bd):Prop where
 af:Cy ad [] H ss X sl now cnt sd (λi=>CT ss now (Bz ss X evs i)) gk
 uy:∀i,i<X.hs.length->∀t∈Am ss,(gk i t).length<=(Bz ss X evs i (EW ss t)).length
 av:∀i,i<X.hs.length->∀(t:Nat)n a b wi,ss[t]?=AA (.join n a b wi)->(sd i t).1.Perm (BO (now-wi) (Bz ss X evs i a))/\(sd i t).2.Perm (BO (now-wi) (Bz ss X evs i b))
def JY(ss:List AU)(evs:List Bd):Prop:=∀(p:AF->Bool)(i:Nat)s,ss[i]?=AA s->s.cp=AR->(CO ss (DO p evs) s.nm).length<=600/\∀x∈CO ss (DO p evs) s.nm,0<=x.1/\x.1<=1000000000
theorem JY.abf(h:JY ss evs)(D:C4 ss)(p:AF->Bool)(Y:t∈Am ss):(CO ss (DO p evs) (EW ss t)).length<=600/\∀x∈CO ss (DO p evs) (EW ss t),0<=x.1/\x.1<=1000000000:=by lk;obtain⟨s,J,B⟩:=IJ.mp Y;obtain⟨_,_,W⟩:=D.ig J B;obtain⟨Z,z,_,U,V,A⟩:=D.oq t s _ J (by rw[W];show .head _);k_in;rw[HV J,<-V];show h p Z z U A
theorem Jz(evs:List Bd):DO (λO=>AK) evs=evs:=Mw.mpr λO O=>rfl
theorem JY.qk(h:JY ss evs)(D:C4 ss)(p:AF->Bool)(now:Int)(W:t∈Am ss)(z:AF):EL (CT ss now (CO ss (DO p evs)) t z)/\(CT ss now (CO ss (DO p evs)) t z).length<=3000:=by lk;obtain⟨s,U,Z⟩:=IJ.mp W;obtain⟨Y,V⟩:=h.abf D p W;k_in;rw[HV U]at Y V;rw[KD U];have J:=(D.ig U Z).1;have:=T3 (z:=z) (now:=now) J V;show⟨WG (T2 J),by lia⟩
theorem JY.afg(h:JY ss evs)(D:C4 ss)(U:ss.length<=8)(now:Int)(qs:List DM)(A:(qs.map De).Nodup)(Z:∀q∈qs,q.1∈Am ss/\q.2.2∈CT ss now (Bz ss X evs (CI X q.2.1)) q.1 q.2.1):qs.length<=14400000:=by
 show iU D U (L:=CO ss evs) (λt z=>?_) A λq Y=>?_
 . have:=h.abf D (λO=>AK) z;rw[Jz]at this;show this
 . lk;obtain⟨W,J⟩:=Z q Y;rw[Ko (AE1 rfl)]at J;obtain⟨s,V,B⟩:=IJ.mp W;k_in;rw[KD V]at J;show⟨s,V,B,(D1.mp J).1⟩
theorem Q7(W:now<=D)(U:S.Perm (BO (now-wi) A))(V:J.Perm (A++B)):(BO (D-wi) (S++B)).Perm (BO (D-wi) J):=by show .trans ?_ (V.symm.filter _);change(R5 _ _).Perm _;rw[FD,FD];show .append ((U.filter _).trans (.of_eq ?_)) (.refl _);show YQ (by simp_all) A
theorem hU(h:p e.2.2.1=AK):DO p (evs++[e])=DO p evs++[e]:=by unfold DO;rw[FD];congr 1;show Pp h
theorem hV(h:p e.2.2.1=AR):DO p (evs++[e])=DO p evs:=by unfold DO;rw[FD,OE (by rw[h];show Dx)];show Dw _
def pK(z:Br):BF:=λG H Q O=>(MO λ(U:List AU)(X:CN)(Z D W:Int)(E:Nat->CA)(C:Nat->CS)(V:List Bd)(e:Bd)(q:AB)=>MK (G=[.ref X.x,.ref q]) (G8 z H U X Z D W E C V) (C4 U) (U.length<=8) (0<X.hs.length) (X.hs.length<=8) (Ip H q e) (Cu e.2.2.1) (JY U (V++[e])) ((e.1<D->∀J p r,Bq (Ga U X) H J->G8 z J U X Z D (W+1) E C V->H p=AG->H r=AG->J p=AA (.tup [.bl AR,.ref r])->J r=AA (.lst [])->Q (.ref p) J)) ((D<=e.1->∀J p r F Y B A,Bq (Ga U X) H J->G8 z J U X Z (FU D Z e.1) (W+1) B A (V++[e])->H p=AG->H r=AG->J p=AA (.tup [.bl AK,.ref r])->J r=AA (.lst F)->BJ (Iv U J) F Y->(Y.map De).Nodup->DP (Y.map De)->(∀q:DM,q∈Y↔q.1∈Am U/\q.2.2∈Jc (FU D Z e.1) (CT U D (CO U (V++[e])) q.1 q.2.1))->Y.length<=14400000->Q (.ref p) J)))
theorem lE(T:BL AJ Af AI):T.qu.Ok BC P w Af base 9 (pK AI):=by
  show T.qu.ok λnd _ _ _ _ _ hr H vs Q E h=>?_;obtain⟨J,X,f,U,Z,m,gk,D,e,q,rfl,u,Y,lss,m0,m8,ev,az,C,kl,k⟩:_:=h;show⟨_,(Ai (CF (L3 (Jl (EX (BP (AD 0) rfl) T.df (XO T) hr #v[BA AJ (AD 1) AQ]))) (Ab (BD (Cj #v[F5,C9 Ea]))) Cd) (C6 (D8 (EX (DR AJ (BP (AD 0) rfl) (EX (AD 0) T.ao (Ti T) hr #v[BA AJ (AD 1) AQ])) T.bw (jM T) hr #v[AD 1])) (C6 (DB DK rfl (DA (K:=AJ) (BP (AD 0) rfl)) (Cc 2 nd) (Ab (D8 (EX (AD 2) T.bw (jX T) hr #v[BP (BP (AD 0) rfl) rfl])))) (Ab (BD (Cj #v[F5,EX (AD 0) T.ao (Xl T) hr #v[BP (BP (AD 0) rfl) rfl]])))))),?_⟩;have sz:Az=16777216:=Dj;lk;obtain⟨dx,ex⟩:=u.af.au;obtain⟨dc,ec⟩:=u.af.cn;k_in;have nl:=XJ (n:=U) (s:=f) (t:=e.1);show⟨_,⟨ex,T.ao,T.il,rfl⟩,X.ck,dc,_,rfl,ec,by rfl,_,_,Ar ev,Ap (j:=0) rfl,X.ck,dc,e.1,f,U,Z,rfl,ec,_,rfl,?_⟩;by_cases he:e.1<U
  . rw[AE3 (Jt he:¬U<=e.1)];have e0:FU U f e.1=U:=AE0 he;rw[e0];have x1:BM X.ck H (AM H X.ck (.ins AI.aj dc (EV f U (Z+1)))):=zzu
    have O:=u.af.aay x1 AY;have fr1:∀b,(AM H X.ck (.ins AI.aj dc (EV f U (Z+1)))) b=AG->H b=AG:=λb e=>Gd e;show Jh ⟨Bc _,λr hr=>?_⟩;have hrH:=fr1 _ hr;show BK hr λH2 s2 er=>⟨B6 rfl,λp hp=>?_⟩;have s3:=Bv (o:=.tup [.bl AR,.ref r]) hp;show kl he _ p r (λb o L e=>s3 _ _ (s2 _ _ (x1 _ _ (λz=>L (.inl z)) e))) ⟨(O.ag s2).ag s3,u.uy,u.av⟩ (fr1 _ (s2.bc hp)) hrH AY (s3 _ _ er)
  have he:U<=e.1:=by simp_all
  have k:=k he;clear kl;rw[AE1 he];show EY ?_;generalize FU U f e.1=c at nl k⊢;have x1:BM X.ck H (AM H X.ck (.ins AI.aj dc (EV f c (Z+1)))):=zzu
  have O:=u.af.aay x1 AY;have ev1:Ip (AM H X.ck (.ins AI.aj dc (EV f c (Z+1)))) q e:=x1 _ _ (λz=>by have ev:H q=_:=ev;rw[z,ec]at ev;cases ev) ev;have fr1:∀b,(AM H X.ck (.ins AI.aj dc (EV f c (Z+1)))) b=AG->H b=AG:=λb e=>Gd e;obtain⟨dx1,ex1⟩:=O.au;have ih:=Ld m0 e.2.2.1;have ei:=Ck ih;generalize X.hs[CI X e.2.2.1]=F at ei;have fe1:Lc X (D++[e]) (CI X e.2.2.1)=Lc X D (CI X e.2.2.1)++[e]:=hU (AE1 rfl);have x:∀{i:Nat},i≠CI X e.2.2.1->Lc X (D++[e]) i=Lc X D i:=λ{i}h=>hV (AE3 (DJ h));generalize hi0:CI X e.2.2.1=W at ih ei fe1 x;have hS:=u.av W ih;have hLm:∀(t:Nat)s,J[t]?=AA s->s.cp=AR->Bz J X D W s.nm=Ee s (Bz J X D W) (Lc X D W)/\Bz J X (D++[e]) W s.nm=Ee s (Bz J X (D++[e]) W) (Lc X D W++[e])/\(Bz J X (D++[e]) W s.nm).length<=600:=λt s es tt=>⟨NM Y es,by rw[<-fe1];show NM Y es,(C _ t s es tt).1⟩;showλ_ _ _ _ z1=>⟨_,⟨ex1,T.ao,T.ax,rfl⟩,X.x,dx1,_,rfl,ex1,by rfl,_,_,Ar ev1,Ap (j:=2) rfl,X,dx1,e.2.2.1,rfl,ex1,O.bz,O.gh,az,m0,m8,λHa sa=>?_⟩;have hba:=O.ag sa;have hh:=hba.bx W F ei;obtain⟨dxh,eh⟩:=hh.au;show⟨_,_,Ac hba.bz,by rw[hi0];show Ap (by rw[Bt,ei];rfl),F.x,dxh,_,rfl,eh,by rfl,J,F,m W,gk W,Bz J X D W,Bz J X (D++[e]) W,Lc X D W,e,U,q,rfl,hh,Y,lss,sa _ _ ev1,hLm,hS,he,u.uy W ih,(λt s es tt=>(C _ t s es tt).2),λH2 bt gk2 s2 h2 lg2 br2=>z1 _ _ ?_⟩;have R:=hba.ie ei s2 h2;have ap:=Ql Y he hLm hS br2 J.length;have fdp:∀{t:Nat}{n a b:AF}{M:Int},J[t]?=AA (.join n a b M)->(Bz J X (D++[e]) W a).Perm (Bz J X D W a++bt a)/\(Bz J X (D++[e]) W b).Perm (Bz J X D W b++bt b):=λ{t n a b M}N=>by have I:t<J.length:=(BU.mp N).1;obtain⟨i1,s1,l1,e1,rfl,t1⟩:=Y.oq t _ a N (.head _);obtain⟨i2,s2,l2,e2,rfl,t2⟩:=Y.oq t _ b N (.tail _ (.head _));show⟨ap i1 s1 (LH l1 I) e1 t1,ap i2 s2 (LH l2 I) e2 t2⟩
  have key:∀i,i<X.hs.length->∀(t:Nat)n a b M,J[t]?=AA (.join n a b M)->((BO (c-M) (CU m W (Ef J (m W) J.length bt) i t).1).Perm (BO (c-M) (Bz J X (D++[e]) i a))/\(BO (c-M) (CU m W (Ef J (m W) J.length bt) i t).2).Perm (BO (c-M) (Bz J X (D++[e]) i b)))/\(CU m W (Ef J (m W) J.length bt) i t).1.length<=1000/\(CU m W (Ef J (m W) J.length bt) i t).2.length<=1000:=λi d t n a b M N=>by
    obtain⟨pa,pb⟩:=u.av i d t n a b M N;obtain⟨i1,s1,l1,e1,en1,t1⟩:=Y.oq t _ a N (.head _);obtain⟨i2,s2,l2,e2,en2,t2⟩:=Y.oq t _ b N (.tail _ (.head _));have la:=(C (λz=>Ae (CI X z=i)) i1 s1 e1 t1).1;have lb:=(C (λz=>Ae (CI X z=i)) i2 s2 e2 t2).1;rw[en1]at la;rw[en2]at lb;have h1:=Kp (U-M) (Bz J X D i a);have h2:=Kp (U-M) (Bz J X D i b);unfold CU;by_cases S:i=W;. subst S;rw[AE0 rfl,KA N,AE0 (BU.mp N).1];obtain⟨qa,qb⟩:=fdp N;show⟨⟨Q7 nl pa qa,Q7 nl pb qb⟩,?_⟩;have h3:=qa.length_eq;have h4:=qb.length_eq;have h5:=pa.length_eq;have h6:=pb.length_eq;rw[Bx]at h3 h4⊢;rw[Bx];(constructor<;>lia)
    . rw[AEz S];have e0:=x S;have ua:=Q7 (B:=[]) nl pa (.of_eq (Dw _).symm);have ub:=Q7 (B:=[]) nl pb (.of_eq (Dw _).symm);rw[Dw]at ua ub;have h5:=pa.length_eq;have h6:=pb.length_eq;rw[show Bz J X (D++[e]) i=Bz J X D i from AE2 (CO J) e0];show⟨⟨ua,ub⟩,by lia,by lia⟩
  generalize CU m W (Ef J (m W) J.length bt)=sdA at key R;have lgA:∀i,i<X.hs.length->∀t∈Am J,(CU gk W gk2 i t).length<=(Bz J X (D++[e]) i (EW J t)).length:=λi d t I=>by
    unfold CU;by_cases S:i=W
    . subst S;rw[AE0 rfl];show lg2 t I
    . rw[AEz S,show Bz J X (D++[e]) i=Bz J X D i from AE2 (CO J) (x S)];show u.uy i d t I
  generalize CU gk W gk2=gkA at lgA R;have R:=R.qk (gg':=λi=>CT J U (Bz J X (D++[e]) i)) λi d t I=>by
    unfold CU;by_cases S:i=W;. subst S;rw[AE0 rfl]
    .rw[AEz S,show Bz J X (D++[e]) i=Bz J X D i from AE2 (CO J) (x S)]
  have u2:Bq (Ga J X) H H2:=λb o L e=>s2 _ _ (λz=>L (.inr ⟨W,F,ei,z⟩)) (sa _ _ (x1 _ _ (λz=>L (.inl z)) e));obtain⟨dx2,ex2⟩:=R.au;clear hh hba O h2 lg2 br2 ap fdp hLm hS;showλ_ _ _ _ z2=>⟨_,⟨ex2,T.ao,T.ax,rfl⟩,X.lh,rfl,⟨_,Ac R.bz⟩,GP (K:=AJ) (xs:=X.hs.map λh=>AE.ref h.x) (λn σ H'=>JG (λ(o2:Option AE)(sd':Nat->CA)=>σ=[AA (.ref X.x),AA (.ref q),o2]) (λ_ _=>Bq (Ga J X) H H') (λ_ sd'=>Cy AI [] H' J X f c (Z+1) sd' (λi=>CT J U (Bz J X (D++[e]) i)) gkA) (λ_ sd'=>∀i,sd' i=if i<n then MT J c (sdA i)else sdA i)) ⟨AG,sdA,rfl,u2,R,λi=>(AEz (Ia _)).symm⟩ (λn σ H' _ hh=>by obtain⟨_,_,_,_,h',_⟩:=hh;show Ac h'.bz) ?_ ?_⟩
  . intro n y σ H3 hy hI;lk;obtain⟨o2,sd3,rfl,u3,A,g⟩:=hI;rw[Bt]at hy;obtain⟨G,eg,rfl⟩:=EA.mp hy;have hn:n<X.hs.length:=(BU.mp eg).1;have h3:=A.bx n G eg;have sn:=g n;rw[AEz (Ht _)]at sn;rw[sn]at h3;obtain⟨dg3,eg3⟩:=h3.au;obtain⟨dx3,v⟩:=A.au;obtain⟨dc3,ec3⟩:=A.cn;k_in;show⟨G.x,dg3,_,rfl,eg3,by rfl,_,⟨v,T.ao,T.il,rfl⟩,_,⟨ec3,T.df,T.fq,rfl⟩,J,G,sdA n,_,gkA n,c,rfl,h3,(λt hh=>by obtain⟨nn,a,b,M,N⟩:=hh;show(key n hn t nn a b M N).2),λH4 s4 h4=>?_⟩;have l:=A.ie eg s4 h4;rw[UA gkA,UA (λi=>CT J U (Bz J X (D++[e]) i))]at l;show⟨_,_,rfl,λb o L e=>s4 _ _ (λz=>L (.inr ⟨n,G,eg,z⟩)) (u3 b o L e),l,λi=>?_⟩;unfold CU;by_cases S:i=n;. subst S;rw[AE0 rfl,AE0 (KS _)]
    . rw[AEz S,g i];by_cases q2:i<n;.rw[AE0 q2,AE0 (ON q2)]
      .rw[AEz q2,AEz (LI q2 (λu1=>DU (Dc u1) S))]
  . intro σ H3 hI;lk;obtain⟨o2,sd3,rfl,u3,A,g⟩:=hI;rw[Aq]at g;obtain⟨dx3,v⟩:=A.au;obtain⟨dc3,ec3⟩:=A.cn;k_in;show z2 _ _ ⟨X.x,dx3,_,rfl,v,by rfl,_,⟨v,T.ao,T.il,rfl⟩,_,⟨ec3,T.df,T.fq,rfl⟩,J,X,f,c,Z+1,sd3,_,gkA,AA c,CI X,rfl,A,Y,lss,m8,Ld m0,(λi d t I=>⟨Ag (lgA i d t I) (C.abf Y _ I).1,λz=>⟨(C.qk Y _ U I z).1,(C.qk Y _ U I z).2,λhz=>?_⟩⟩),(λqs nd hq=>C.afg Y lss U qs nd hq),λH4 r xs qs gk4 u4 l lg4 hr4 er4 pr4 nd4 sd4 mm4 lq4=>⟨B6 rfl,λp hp=>?_⟩⟩;. show NJ λhne=>hz ?_;show KG (AE3 hne) U t
    have s5:=Bv (o:=.tup [.bl AK,.ref r]) hp;have kk:∀b o,¬Ga J X b->H b=AA o->H4 b=AA o:=λb o L e=>u4 b o L (u3 b o L e);have thr:∀(Hx:AH),(∀b o,¬Ga J X b->H b=AA o->Hx b=AA o)->(∀b,Ga J X b->∃o,Hx b=AA o)->∀b,Hx b=AG->H b=AG:=λHx h1 h2 b e=>by cases q0:H b with|none=>rfl|some o=>
        by_cases z:Ga J X b
        . obtain⟨o',e'⟩:=h2 b z;rw[e]at e';cases e'
        .rw[h1 b o z q0]at e;cases e
    have ths:∀{Hx:AH}{gg:Nat->ED}{gk:Nat->CS},Cy AI [] Hx J X f c (Z+1) sd3 gg gk->∀b,Ga J X b->∃o,Hx b=AA o:=λ{Hx gg gk}h b hb=>h.ma (hb.elim (λz=>.inr (.inl z)) λ⟨i,G,eg,z⟩=>.inr (.inr (.inr (.inr ⟨i,G,eg,.inr (.inr (.inr z))⟩))));show k _ p r xs qs sd3 gk4 (λb o L e=>s5 _ _ (kk b o L e)) ⟨(l.ag s5).qk λi d t I=>?_,λi d t I=>Ag (lg4 i d t I) (lgA i d t I),λi d t n a b M N=>?_⟩ (thr H4 kk (ths l) p hp) (thr H3 u3 (ths A) r hr4) AY (s5 _ _ er4) (NV pr4 s5.tp) nd4 sd4 (λq=>?_) lq4;. obtain⟨s,es,_⟩:_:=IJ.mp I;rw[KD es,KD es];funext z;show(Xn nl _).symm
    . rw[g i,AE0 d,TH N];show(key i d t n a b M N).1
    . rw[mm4 q];change _/\q.2.2∈Jc c (CT J U (Bz J X (D++[e]) (CI X q.2.1)) q.1 q.2.1)↔_;rw[Ko (AE1 rfl)]
theorem Xk(T:BL AJ Af AI):T.oe.Ok BC P w Af base 9 (λvs H Q E=>GO (λ(x:AE)=>vs=[x]) (λx=>YU AI [x,.non] H Q E)):=by show T.oe.ok λc o o o o o F H vs Q E h=>?_;obtain⟨x,rfl,h⟩:_:=h;show⟨_,(Ab (BD (EX (AD 0) T.ao (Xl T) F #v[N7]))),?_⟩;lk;obtain⟨b,X,a,J,D,S,A,B,m,C,U,W,G,I,L,M,N,O,R⟩:=h;obtain⟨Y,z⟩:=W.au;k_in;have Z:=(Dz U).1;subst Z;show⟨X.x,Y,_,rfl,z,by rfl,b,X,a,J,D,S,A,B,m,C,U,W,G,I,L,M,N,O,R⟩
def Jy(H:AH)(xs:List AE)(D:List (List AE)):Prop:=BJ (λx u=>∃a,x=.ref a/\H a=AA (.tup u)) xs D
theorem Jy.ab(h:Jy H xs D)(t:Bk H H'):Jy H' xs D:=ES (λ_ _⟨a,e,J⟩=>⟨a,e,t _ _ J⟩) h
def pR:BF:=λZ H Q O=>(EB λ(d:AB)(D:List (AN×AE))(F:AN->List (List AE))=>Ek (Z=[.ref d]) (H d=AA (.dK D)) (D.length<=600) ((∀q∈D,∃(z:AF)(r:AB)(W:List AE),q=(.inr z,.ref r)/\H r=AA (.lst W)/\Jy H W (F q.1)/\(F q.1).length<=3000/\∀u∈F q.1,u≠[]/\u.length<=3)) (∀J r Y(U:List AN),An H J->H r=AG->J r=AA (.lst Y)->Jy J Y (U.flatMap λk=>(F k).map λu=>Au k::u)->U.Perm (D.map (·.1))->U.Pairwise (λa b=>FC b a=AR)->Q (.ref r) J))
theorem Xm(T:BL AJ Af AI):T.uq.Ok BC P w Af base 1 pR:=by
  show T.uq.ok λnd O O O O O hr H vs Q E h=>?_;obtain⟨d,kvs,F,rfl,ed,lk,hq,k⟩:_:=h;show⟨_,(Ai (Aw 1 nd (C9 Ea)) (Ai (DB DK rfl (DA (K:=AJ) (DI (rL rfl) (by rfl) T.jq P5 #v[AD 0])) (Cc 2 nd) (Ab (D8 (JM (K:=AJ) MF NB OQ Lw (AD 1) #v[(IQ (DG YD) [("key",2)] ⟨rfl,rfl,trivial⟩ (DA (K:=AJ) (Fm hr.u1 (AD 0) (AD 2) (λO O=>rfl))) (λO O O O=>G0) (λO O O O=>(AW (N3 (K:=AJ)) (Cj #v[AD 1]) (AD 0))))])))) (Ab (BD (AD 1))))),?_⟩;have sz:Az=16777216:=Dj;show⟨Bc _,λl hl=>?_⟩;show BK (o:=.lst []) hl λH1 s1 el=>?_;show⟨d,kvs,rfl,s1 _ _ ed,.inr λq hq'=>?_,λls ks hls pk ps=>?_⟩;. obtain⟨z,r,xs,e,_⟩:_:=hq q hq';show⟨z,by rw[e]⟩
  have hls':=hls;show BK (o:=.lst (ks.map Au)) hls λH2 s2 els=>?_;have nll:ls≠l:=λz=>by rw[z,el]at hls';cases hls'
  have lks:ks.length<=600:=by rw[pk.length_eq,Aq];assumption
  show⟨ls,rfl,⟨_,Ac els⟩,GP (xs:=ks.map Au) (λi σ H'=>RP (λ(o2:Option AE)(acc:List AE)=>σ=[AA (.ref d),AA (.ref l),o2]) (λO O=>An H H') (λO acc=>H' l=AA (.lst acc)) _ (λO acc=>Jy H' acc ((ks.take i).flatMap λk=>(F k).map λu=>Au k::u)) (λO acc=>acc.length<=3000*i)) ⟨AG,[],rfl,s1.aa s2,s2 _ _ el,els,.nil,Bc _⟩ (λi σ H' O hh=>by obtain⟨_,_,_,_,_,e,_⟩:=hh;show Ac e) ?_ ?_⟩
  . intro i x σ H3 hx hI;lk;obtain⟨o2,acc,rfl,s3,el3,els3,hw3,la⟩:=hI;rw[Bt]at hx;obtain⟨ky,hky,rfl⟩:=EA.mp hx;have hi:i<ks.length:=(BU.mp hky).1;obtain⟨v,hv⟩:=Mv (pk.mem_iff.mp (Cm hky));obtain⟨z,r,xs,e1,er,hw,lf,hu⟩:=hq _ (GS hv);cases e1;k_in;have hxl:=(CJ hw).1;have ed3:=s3 _ _ ed;show⟨.inl ⟨rfl,_,Ac el3⟩,d,_,rfl,by have:=Me (k:=Bj z) ed3;rw[hv]at this;show this,r,rfl,⟨_,Ac (s3 _ _ er)⟩,?_⟩;show IL (K:=AJ) (xs:=xs) (λj τ acc' H'=>(∃o,τ=[o,AA (.str z)])/\An H3 H'/\Jy H' acc' (((F (.inr z)).take j).map λu=>AE.str z::u)) (by lia) ⟨⟨AG,rfl⟩,CQ _,.nil⟩ (λj τ acc' H'⟨_,s',_⟩=>Ac (s' _ _ (s3 _ _ er))) ?_ ?_
    . intro j y τ acc' H4 R1 hy _ hI k1;obtain⟨⟨o,rfl⟩,s4,hw4⟩:_:=hI;have hj:j<(F (.inr z)).length:=by have:=(BU.mp hy).1;rw[<-hxl];show this
      have ek:=Ck hj;generalize(F (.inr z))[j]=u at ek;lk;obtain⟨a,rfl,ea⟩:=(CJ hw).2 j _ _ hy ek;have ea4:=s4 _ _ (s3 _ _ ea);obtain⟨b1,b2⟩:=hu u (Cm ek);k_in;show⟨B6 rfl,λp hp=>?_⟩;show BK (o:=.tup [.str z]) hp λH5 s5 ep=>?_;show⟨p,a,_,_,rfl,rfl,Ar ep,Ar (s5 _ _ ea4),by simp,by simp;lia,λe=>absurd e b1,λO q hq'=>k1 _ _ _ ⟨⟨_,rfl⟩,(s4.aa s5).gy hq',?_⟩⟩;rw[D2,ek,CW];show D7 (hw4.ab (s5.gy hq').tp) (.cons ⟨q,rfl,AY⟩ .nil)
    . intro τ acc' H4 la4 hI D hD;obtain⟨_,s4,hw4⟩:_:=hI;show BK (o:=.lst acc') hD λH5 s5 eD=>?_;have s35:=s4.aa s5;have el5:=s35 _ _ el3;show⟨l,D,_,_,rfl,rfl,el5,eD,by lia,?_⟩;have tp5:Bk H5 (AM H5 l (.lst (acc++acc'))):=(Gg H5).gy el5 λxs=>by intro z;cases z
      show⟨_,acc++acc',rfl,(s3.aa s35).zg hl,AY,by rw[AV nll];show s35 _ _ els3,?_,by rw[Bx];lia⟩;rw[D2,hky,R7];show Jy.ab (D7 (hw3.ab s35.tp) ?_) tp5;rw[EH (Bi hxl.symm)]at hw4;change Jy H5 acc' ([Bj z].flatMap _);rw[Ep,ABb,Dw];show hw4.ab s5.tp
  . intro σ H3 hI;obtain⟨o2,acc,rfl,s3,el3,els3,hw3,la⟩:_:=hI;rw[Aq,EH (Aj _)]at hw3;show k H3 l acc ks s3 hl el3 hw3 pk ps
theorem S5[Inhabited Y]{p:AN×AE->Y->Prop}:∀{kvs:List (AN×AE)},(kvs.map (·.1)).Nodup->(∀q∈kvs,∃y,p q y)->∃F:AN->Y,∀q∈kvs,p q (F q.1)
 |[],_,_=>⟨λO=>fG,λq h=>(by cases h)⟩|q::kvs,n,h=>by
  lk;obtain⟨Z,z⟩:=JP.mp n;obtain⟨F,U⟩:=S5 z λD J=>h D (.tail _ J);obtain⟨y,W⟩:=h q (.head _);k_in;show⟨λk=>if k=q.1 then y else F k,λD J=>?_⟩;rcases CZ.mp J with rfl|J
  . change p D (if D.1=D.1 then y else F _);rw[AE0 rfl];show W
  . change p D (if D.1=q.1 then y else F _);rw[AEz λ(e)=>Z (Ay.mpr ⟨D,J,e⟩)];show U D J
theorem Q6:∀{kss:List (List AN)}{xs:List AE},Jy H xs (kss.map λD=>D.map Au)↔CV H xs kss
 |[],xs=>⟨λh=>(by cases h;show .nil),λh=>(by cases h;show .nil)⟩|D::kss,xs=>by
  constructor
  . intro h;cases h with|cons a b=>show .cons a (Q6.mp b)
  . intro h;cases h with|cons a b=>show .cons a (Q6.mpr b)
theorem Tz{F:AN->List (List AN)}:∀{J:List AN},J.Pairwise (λa b=>FC b a=AR)->J.Nodup->(∀k∈J,DP (F k))->DP (J.flatMap λk=>(F k).map λr=>k::r)
 |[],_,_,_=>.nil|k::J,Y,Z,W=>by
  lk;obtain⟨E,G⟩:=Ho.mp Y;obtain⟨B,C⟩:=JP.mp Z;k_in;show M4.mpr ⟨?_,Tz G C λk A=>W k (Fp _ A),λa z b U=>?_⟩
  . show Hq.mpr ((W k Dr).imp λ{a b}h=>?_);change(if k=k then Bg b a else FC k k)=AR;rw[AE0 rfl];show h
  . lk;obtain⟨x,_,rfl⟩:=Ay.mp z;obtain⟨V,D,U⟩:=SA.mp U;obtain⟨y,_,rfl⟩:=Ay.mp U;k_in;change(if V=k then Bg y x else FC V k)=AR;rw[AEz (λe=>B (by rw[<-e];show D))];show E V D
def n6(V:Br):BF:=λY H Q O=>(GX λ(W:List AB)(x d:AB)(L:List AO)=>JX (Y=[.ref x]) (Cg V W H x d L) (L.length<=600) (∀J r U D,An H J->H r=AG->J r=AA (.lst U)->CV J U D->DP D->D.Perm (L.map J5)->Q (.ref r) J))
theorem Tf(T:BL AJ Af AI):T.ug.Ok BC P w Af base 2 (n6 AI):=by
  show T.ug.ok λnd _ _ _ _ _ N H vs Q E h=>?_;obtain⟨ex,x,d,L,rfl,X,j,k⟩:_:=h;show⟨_,(Ab (BD (BE (Xm T) N #v[BP (AD 0) rfl]))),?_⟩;lk;obtain⟨dx,f⟩:=X.au;obtain⟨I,c,W,U,n,l⟩:=X.ar;obtain⟨F,R⟩:=S5 (Y:=List (List AN)) (p:=λq D=>(EB λ(z:AF)(r:AB)(Z:List AE)=>Ek (q=(.inr z,.ref r)) (H r=AA (.lst Z)) (CV H Z D) (DP D) (D.Perm ((L.filter λi=>Ae (i.2.1=z)).map GJ)))) W λq C=>by obtain⟨z,r,Z,D,e,_,B,hw,_,A,J⟩:=n q C;show⟨D,z,r,Z,e,B,hw,A,J⟩
  k_in;show⟨_,⟨f,T.dw,T.cy,rfl⟩,d,I,λk=>(F k).map λM=>M.map Au,rfl,c,Ag U j,λq C=>?_,λb r y M s N B a O t=>?_⟩
  . obtain⟨z,r,Z,e,B,hw,_,J⟩:_:=R q C;show⟨z,r,Z,e,B,Q6.mpr hw,?_,λu o=>?_⟩
    . have:=J.length_eq;have:=FY (λi:AO=>Ae (i.2.1=z)) L;rw[Aq]at*;lia
    . lk;obtain⟨v,G,rfl⟩:=Ay.mp o;obtain⟨i,_,rfl⟩:=Ay.mp (J.mem_iff.mp G);k_in;show⟨λz=>(nomatch z),B6 rfl⟩
  . have e:(M.flatMap λk=>((F k).map λr=>r.map Au).map λu=>Au k::u)=(M.flatMap λk=>(F k).map λr=>k::r).map λr=>r.map Au:=by rw[bO];congr 1;funext k;rw[Dh,Dh];rfl
    rw[e]at a;have S:∀k∈I.map (·.1),∃z:AF,k=.inr z/\DP (F k)/\(F k).Perm ((L.filter λi=>Ae (i.2.1=z)).map GJ):=λk U=>by obtain⟨q,C,rfl⟩:=Ay.mp U;obtain⟨z,r,Z,e,_,_,A,J⟩:=R q C;rw[e]at A J⊢;show⟨z,rfl,A,J⟩
    show k b r y _ s N B (Q6.mp a) (Tz t (O.nodup_iff.mpr W) λk U=>?_) ?_
    . obtain⟨_,_,A,_⟩:_:=S k (O.mem_iff.mp U);show A
    . show(vG O).trans ((Zx (g:=λk=>(L.filter λi=>Ae ((Bj i.2.1:AN)=k)).map J5) λk U=>?_).trans ?_)
      . obtain⟨z,rfl,_,J⟩:_:=S k U;show(J.map _).trans (LF ?_);rw[Dh];have e:(L.filter λi=>Ae ((Bj i.2.1:AN)=Bj z))=L.filter λi=>Ae (i.2.1=z):=JO λi _=>by
          by_cases h:i.2.1=z;.rw[h];simp
          .rw[AE3 h,AE3 (λq=>h (Fc q))]
        rw[e];show L7 λi m=>?_;have:=AE4 (D1.mp m).2;change Bj z::GJ i=J5 i;rw[<-this];rfl
      . rw[<-bO];show(Ub (λi:AO=>(Bj i.2.1:AN)) L _ W l).map J5
def Ol(H:AH)(x:AE)(m:AF×AX):Prop:=∃(a q:AB),x=.ref a/\H a=AA (.tup [.str m.1,.int m.2.1,.int m.2.2.1,.ref q])/\Fe H q m.2.2.2
theorem Tq(h:BJ (Ol H) xs D)(t:Bk H H'):BJ (Ol H') xs D:=ES (λO O W=>by obtain⟨a,q,e,J,U⟩:=W;show⟨a,q,e,t _ _ J,t _ _ U⟩) h
theorem Xq:∀{ps:List AX}{xs:List AE},Dy H xs ps->∃D:List (List AE),Jy H xs D/\BJ (λu(p:AX)=>∃q,u=[.int p.1,.int p.2.1,.ref q]/\Fe H q p.2.2) D ps|[],xs,h=>by cases h;show⟨[],.nil,.nil⟩|p::ps,xs,h=>by cases h with|cons a b=>lk;obtain⟨D,Y,Z⟩:=Xq b;obtain⟨J,q,e,U,W⟩:=a;k_in;show⟨_,.cons ⟨J,e,U⟩ Y,.cons ⟨q,rfl,W⟩ Z⟩
def oN(Y:Br):BF:=λB H Q O=>(Kd λ(Z:List AB)(x p d:AB)(A:AU)(g:AF->List AX)(J:List (AN×AE))=>Ek (B=[.ref x]) (EC Y Z H x p d A g J) (J.length<=600) ((∀z,(g z).length<=3000)) (∀U r W(D:List AF),An H U->H r=AG->U r=AA (.lst W)->BJ (Ol U) W (Ex g D)->D.Pairwise (λa b=>FC (.inr b) (.inr a)=AR)->D.Nodup->(∀z,g z≠[]->z∈D)->D.length<=600->Q (.ref r) U))
theorem Tg(T:BL AJ Af AI):T.nv.Ok BC P w Af base 2 (oN AI):=by
  show T.nv.ok λnd _ _ _ _ _ c H vs Q E h=>?_;obtain⟨ex,x,p,d,st,g,j,rfl,B,lk,lg,k⟩:_:=h;show⟨_,(Ab (BD (BE (Xm T) c #v[BP (AD 0) rfl]))),?_⟩;lk;obtain⟨dx,eo⟩:=B.au;obtain⟨F,S⟩:=S5 (Y:=List (List AE)) (p:=λq U=>(EB λ(z:AF)(r:AB)(C:List AE)=>JX (q=(.inr z,.ref r)) (H r=AA (.lst C)) (Jy H C U) (BJ (λu(p:AX)=>∃q,u=[.int p.1,.int p.2.1,.ref q]/\Fe H q p.2.2) U (g z)))) B.ar.nd λq W=>by obtain⟨z,r,C,e,_,I,w⟩:=B.ar.ri q W;obtain⟨U,R,J⟩:=Xq w.1;show⟨U,z,r,C,e,I,R,J⟩
  k_in;show⟨_,⟨eo,T.cb,T.cv,rfl⟩,d,j,F,rfl,B.ar.ah,lk,λq W=>?_,λH' r ys N s c I o Z A=>?_⟩
  . obtain⟨z,r,C,e,I,R,J⟩:_:=S q W;show⟨z,r,C,e,I,R,by rw[(CJ J).1];show lg z,λu hu=>?_⟩;lk;obtain⟨i,M,ei⟩:=Gk.mp hu;have l:=(CJ J).1;obtain⟨q',G,_⟩:=(CJ J).2 i u (g z)[i] (by rw[Ck M,ei]) (Ck (BY M (Bi l)));k_in;rw[G];show⟨λz=>(nomatch z),B6 rfl⟩
  . lk;obtain⟨D,rfl⟩:∃D:List AF,N=D.map Bj:=by
      have:∀k∈N,∃z:AF,k=.inr z:=λk X=>by obtain⟨q,W,rfl⟩:=Ay.mp (Z.mem_iff.mp X);obtain⟨z,_,_,e,_⟩:=S q W;show⟨z,by rw[e]⟩
      clear o Z A;induction N with |nil=>show⟨[],rfl⟩|cons k N L=> obtain⟨D,e⟩:=L λk X=>this k (.tail _ X);obtain⟨z,G⟩:=this k (.head _);show⟨z::D,by rw[FO,e,G]⟩
    k_in;have lz:=Z.length_eq;rw[Aq,Aq]at lz;have kn:=Z.nodup_iff.mpr B.ar.nd;show k H' r ys D s c I ?_ (Hq.mp A) ((Hq.mp kn).imp λh e=>h (by rw[e])) (λz ne=>?_) (by simp_all)
    . have fz:∀z∈D,BJ (λu(p:AX)=>∃q,u=[.int p.1,.int p.2.1,.ref q]/\Fe H q p.2.2) (F (.inr z)) (g z):=λz f=>by obtain⟨q,W,e⟩:=Ay.mp (Z.mem_iff.mp (Ay.mpr ⟨z,f,rfl⟩));obtain⟨z',_,_,G,_,_,J⟩:=S q W;rw[e]at J;rw[G]at e;have e:z'=z:=Fc e;rw[e]at J;show J
      have n:∀{U:List (List AE)}{A:List AX}{z:AF},BJ (λu(p:AX)=>∃q,u=[.int p.1,.int p.2.1,.ref q]/\Fe H q p.2.2) U A->BJ (λu(m:AF×AX)=>∃q,u=[.str m.1,.int m.2.1,.int m.2.2.1,.ref q]/\Fe H q m.2.2.2) (U.map λu=>AE.str z::u) (A.map λp=>(z,p)):=λ{U A z}h=>by induction h with |nil=>show .nil|cons a b L=> obtain⟨q,e,t⟩:=a;show .cons ⟨q,by rw[e],t⟩ L
      have O:BJ (λu(m:AF×AX)=>∃q,u=[.str m.1,.int m.2.1,.int m.2.2.1,.ref q]/\Fe H q m.2.2.2) ((D.map Bj).flatMap λk=>(F k).map λu=>Au k::u) (Ex g D):=by clear o Z A lz kn;unfold Ex;induction D with|nil=>show .nil|cons z D L=>rw[FO,Ep,Ep];show D7 (n (fz z (.head _))) (L λz f=>fz z (.tail _ f))
      lk;obtain⟨l1,g1⟩:=CJ o;obtain⟨l,g2⟩:=CJ O;k_in;show Gz (Oe l1 l) λi v m e1 e2=>?_;have M:=(BU.mp e1).1;have e3:=Ck (show i<((D.map Bj).flatMap λk=>(F k).map λu=>Au k::u).length by show BY M (Bi l1));lk;obtain⟨a,ea,ha⟩:=g1 i v _ e1 e3;obtain⟨q,eq,tq⟩:=g2 i _ m e3 e2;k_in;rw[eq]at ha;show⟨a,q,ea,ha,s _ _ tq⟩
    . obtain⟨y,hy,e⟩:_:=Ay.mp (Z.mem_iff.mpr (B.ar.yu z ne));rw[<-Fc e];show hy
theorem Jw.gf(h:Jw ss ss.length W D):D.length<=ss.length:=by
 have:=NQ h.nd λk J=>by obtain⟨p,U,rfl⟩:=Ay.mp J;obtain⟨i,l,_,rfl⟩:=h.yy p U;show Ay.mpr ⟨i,VQ.mpr l,rfl⟩
 rw[Aq,Aq,OI]at this;show this
theorem Qs(e:H d=AA u)(U:∀b,b≠d->J b=H b)(s:An J H'):An H (AM H' d u):=λb o D=>by
 by_cases q:b=d
 . rw[q]at D⊢;rw[e]at D;cases D;show AY
 . rw[AV q];show s _ _ (by rw[U b q];show D)
structure Ke(ss:List AU)(sd:CA)(gg:ED)(gk:CS)(p:AF->Prop):Prop where
 sl:∀t,DX ss t->(sd t).1.length<=600/\(sd t).2.length<=600
 sp:∀t,DX ss t->(∀x∈(sd t).1,p x.2.1)/\∀x∈(sd t).2,p x.2.1
 gl:∀t∈Am ss,(gk t).length<=600/\∀z,EL (gg t z)/\(gg t z).length<=3000
 gp:∀t∈Am ss,∀z,gg t z≠[]->p z
def n8(A:Br):BF:=λB H Q O=>(IG λ(J:List AU)(F:Fd)(Z:CA)(W:ED)(Y:CS)(p:AF->Prop)=>Ek (B=[.ref F.x]) (Et A [] H J F Z W Y) (J.length<=8) (Ke J Z W Y p) (∀D r(U:List AF),An H D->D r=AA (.lst (U.map AE.str))->(∀z∈U,p z)->U.length<=16000000->Q (.ref r) D))
theorem kI(T:BL AJ Af AI):T.nj.Ok BC P w Af base 3 (n8 AI):=by
  show T.nj.ok λnd _ _ _ _ _ hr H vs Q E h=>?_;obtain⟨ss,F,sd,gg,gk,p,rfl,hb,lss,hq,k⟩:_:=h;show⟨_,(C6 (Aw 1 nd (C9 Ea)) (C6 (Lz (DB DK rfl (Rn (BP (AD 0) rfl)) (Cc 2 nd) (Ab (DB DK rfl (DA (K:=AJ) (BP (Fm hr.u1 (BP (AD 0) rfl) (AD 2) (λ_ _=>rfl)) rfl)) (Cc 3 nd) (Ab (Aw 1 nd (AW HK (AD 1) (IQ (DG Tw) [] trivial (DA (K:=AJ) (Km (AD 3) T.dw (Tf T) hr)) (λ_ _ _ _=>G0) (λ_ _ _ _=>(BA AJ (AD 0) AQ)))))))))) (C6 (Lz (DB DK rfl (Rn (BP (AD 0) rfl)) (Cc 2 nd) (Ab (Aw 1 nd (AW HK (AD 1) (IQ (DG Tw) [] trivial (DA (K:=AJ) (Km (Fm hr.u1 (BP (AD 0) rfl) (AD 2) (λ_ _=>rfl)) T.cb (Tg T) hr)) (λ_ _ _ _=>G0) (λ_ _ _ _=>(BA AJ (AD 0) AQ)))))))) (Ab (BD (AD 1)))))),?_⟩;have sz:Az=16777216:=Dj;have ljk:=hb.xg.gf;have lgk:=hb.ot;showλ_ _ _ _ z1=>⟨Bc _,λc hrf=>z1 _ _ ?_⟩;show BK (o:=.lst []) hrf λH0 s0 er0=>?_;have B:=hb.ag s0;obtain⟨dx0,s⟩:=B.au;showλ_ _ _ _ z2=>⟨F.dj,(λo u z=>by rw[B.dk]at z;cases z),_,⟨s,T.bw,T.fi,rfl⟩,F.dj,F.cu,rfl,.inl B.dk,λo H1 R X=>?_⟩;have jr1:=B.bo.mh (.inr ⟨o,R⟩) X;have nrd:c≠F.dj:=λz=>by rw[z,B.dk]at er0;cases er0
  have ex1:H1 F.x=AA (.ins AI.de dx0 (TU F)):=by rw[X _ λz=>by rw[z,B.dk]at s;cases s];show s
  show RU (λn M U=>(GX λ(o2 o3:Option AE)(c:AB)(A:List AF)=>Ek (M=[AA (.ref F.x),AA (.ref c),o2,o3]) (An H1 U) (U c=AA (.lst (A.map AE.str))) ((∀z∈A,p z)) (A.length<=1200*n))) ⟨AG,AG,c,[],rfl,CQ _,by rw[X _ nrd];show er0,λz h=>(by cases h),Bc _⟩ (λn M U _ hh=>by obtain⟨_,_,_,_,_,s',_⟩:=hh;show s' _ _ R) ?_ ?_
  . intro n q M H2 hn Y;lk;obtain⟨o2,o3,O,A,rfl,s2,N,hz2,lz2⟩:=Y;have hn':n<F.cu.length:=(BU.mp hn).1;obtain⟨t,_,hj,rfl⟩:=hb.xg.yy q (Cm hn);obtain⟨nn,a,b,wi,et⟩:=hj;have jr2:=jr1.ag s2;obtain⟨vj,jj⟩:=jr2.fw t nn a b wi et;obtain⟨dj2,ej2⟩:=jj.au;k_in;have lsd:=hq.sl t ⟨nn,a,b,wi,et⟩;have lsp:=hq.sp t ⟨nn,a,b,wi,et⟩;show⟨_,⟨s2 _ _ ex1,T.bw,T.fi,rfl⟩,F.dj,.ref (F.jd t).j,rfl,by rw[<-vj];show .inl ⟨F.cu,.inl (t:Int),jr2.ah,rfl,rfl⟩,_,⟨ej2,T.fm,T.cw,rfl⟩,(F.jd t).sl,rfl,⟨_,Ac jj.av⟩,GP (K:=AJ) (xs:=[.ref (F.jd t).x0,.ref (F.jd t).x1]) (λm M U=>(EB λ(o3:Option AE)(c:AB)(A:List AF)=>Ek (M=[AA (.ref F.x),AA (.ref c),AA (.int (t:Int)),o3]) (An H2 U) (U c=AA (.lst (A.map AE.str))) ((∀z∈A,p z)) (A.length<=1200*n+600*m))) ⟨o3,O,A,rfl,CQ _,N,hz2,lz2⟩ (λm M U _ hh=>by obtain⟨_,_,_,_,s',_⟩:=hh;show Ac (s' _ _ jj.av)) ?_ ?_⟩
    . intro m y M H3 hy Y;lk;obtain⟨o3',rf3,zs3,rfl,s3,Z,hz3,lz3⟩:=Y;have jj3:=jj.ag s3;obtain⟨x,d,L,rfl,sr,lL,pL⟩:∃(x d:AB)(L:List AO),y=.ref x/\Cg AI [] H3 x d L/\L.length<=600/\∀i∈L,p i.2.1:=by
        have hm:m<2:=(BU.mp hy).1;rcases b0 m 1 with q|q;. have:m=0:=yZ.mp q;subst this;cases hy;show⟨_,_,_,rfl,jj3.s0,lsd.1,lsp.1⟩
        . have:m=1:=VU q hm;subst this;cases hy;show⟨_,_,_,rfl,jj3.s1,lsd.2,lsp.2⟩
      have hm:m<2:=(BU.mp hy).1;obtain⟨dxs,exs⟩:=sr.au;k_in;show⟨x,dxs,_,rfl,exs,by rfl,[],x,d,L,rfl,sr,lL,λH4 r xs kss s4 hr4 er4 hw4 sd4 pm4=>⟨r,rfl,⟨_,Ac er4⟩,?_⟩⟩;have lx4:=hw4.gf;have lp4:=pm4.length_eq;rw[Aq]at lp4;show IL (K:=AJ) (xs:=xs) (λj τ W U=>(∃o,τ=[o])/\U=H4/\∃J:List AF,W=J.map AE.str/\∀z∈J,p z) (by lia) ⟨⟨AG,rfl⟩,rfl,[],rfl,λz h=>(by cases h)⟩ (λj τ W U⟨_,e,_⟩=>by rw[e];show Ac er4) ?_ ?_
      . intro j v τ W U R1 hv _ Y k1;lk;obtain⟨⟨o',rfl⟩,rfl,J,rfl,I⟩:=Y;obtain⟨a',row,rfl,erow,ea'⟩:=hw4.at hv;obtain⟨i,hi,rfl⟩:=Ay.mp (pm4.mem_iff.mp (Cm erow));k_in;show⟨_,_,Ar ea',Ap (j:=0) rfl,k1 _ _ _ ⟨⟨_,rfl⟩,rfl,J++[i.2.1],by rw[CW];rfl,λz G=>?_⟩⟩;rcases Ce.mp G with G|G;.show I z G
        .rw[Bm.mp G];show pL i hi
      . intro τ W U la Y D hD;obtain⟨_,rfl,J,rfl,I⟩:_:=Y;rw[Aq]at la;have f:=Bv (o:=.lst (J.map AE.str)) hD;show⟨rf3,D,_,_,rfl,rfl,f _ _ (s4 _ _ Z),AY,by rw[Aq,Aq];lia,λr6 hr6=>?_⟩;show⟨_,r6,zs3++J,rfl,(s3.aa (s4.aa f)).gy hr6,by rw[AY,CW],λz G=>(Ce.mp G).elim (hz3 z) (I z),by rw[Bx];lia⟩
    . intro M H3 Y;obtain⟨o3',rf3,zs3,rfl,s3,Z,hz3,lz3⟩:_:=Y;show⟨_,_,rf3,zs3,rfl,s2.aa s3,Z,hz3,by change zs3.length<=1200*(n+1);have:([AE.ref (F.jd t).x0,AE.ref (F.jd t).x1]:List AE).length=2:=rfl;assumption⟩
  . intro M H2 Y;obtain⟨o2,o3,O,A,rfl,s2,N,hz2,lz2⟩:_:=Y;show⟨o,_,s2 _ _ R,z2 _ _ ?_⟩;have s3:=s0.aa (Qs B.dk X s2);have nrd2:O≠F.dj:=λz=>by rw[z,s2 _ _ R]at N;cases N
    have Z:(AM H2 F.dj (.dK F.cu)) O=AA (.lst (A.map AE.str)):=by rw[AV nrd2];show N
    generalize AM H2 F.dj (.dK F.cu)=H3 at s3 Z⊢;clear X jr1 ex1 s2 N R;have C:=hb.ag s3;obtain⟨dx3,ex3⟩:=C.au;showλ_ _ _ _ z3=>⟨F.dg,(λo u z=>by rw[C.di]at z;cases z),_,⟨ex3,T.bw,T.cx,rfl⟩,F.dg,F.ff,rfl,.inl C.di,λo H4 l ne4=>?_⟩;have gr4:=C.ba.mh (.inr ⟨o,l⟩) ne4;have nrd:O≠F.dg:=λz=>by rw[z,C.di]at Z;cases Z
    have ex4:H4 F.x=AA (.ins AI.de dx3 (TU F)):=by rw[ne4 _ λz=>by rw[z,C.di]at ex3;cases ex3];show ex3
    show RU (λn M U=>(EB λ(o2:Option AE)(c:AB)(A:List AF)=>Ek (M=[AA (.ref F.x),AA (.ref c),o2,o3]) (An H4 U) (U c=AA (.lst (A.map AE.str))) ((∀z∈A,p z)) (A.length<=9600+1800000*n))) ⟨o2,O,A,rfl,CQ _,by rw[ne4 _ nrd];show Z,hz2,by lia⟩ (λn M U _ hh=>by obtain⟨_,_,_,_,s',_⟩:=hh;show s' _ _ l) ?_ ?_
    . intro n q M H5 hn Y;lk;obtain⟨o2',rf5,zs5,rfl,f,S,hz5,lz5⟩:=Y;have hn':n<F.ff.length:=(BU.mp hn).1;obtain⟨t,ht,rfl⟩:=hb.yi.yy q (Cm hn);have gr5:=gr4.ag f;obtain⟨st,es,vt,g⟩:=gr5.js t ht;obtain⟨dxg,exg⟩:=g.au;obtain⟨lg1,lg2⟩:=hq.gl t ht;k_in;show⟨_,⟨f _ _ ex4,T.bw,T.cx,rfl⟩,F.dg,.ref (F.gd t).x,rfl,by rw[<-vt];show .inl ⟨F.ff,.inl (t:Int),gr5.ah,rfl,rfl⟩,(F.gd t).x,dxg,_,rfl,exg,by rfl,[],(F.gd t).x,(F.gd t).p,(F.gd t).d,st,gg t,gk t,rfl,g,lg1,(λz=>(lg2 z).2),λH6 r ys ks s6 hr6 er6 pk6 _ _ _ lk6=>⟨r,rfl,⟨_,Ac er6⟩,?_⟩⟩;have lx6:=(CJ pk6).1;have lw6:=RA (g:=gg t) (n:=3000) (λz=>(lg2 z).2) ks;show IL (K:=AJ) (xs:=ys) (λj τ W U=>(∃o,τ=[o])/\U=H6/\∃J:List AF,W=J.map AE.str/\∀z∈J,p z) (by lia) ⟨⟨AG,rfl⟩,rfl,[],rfl,λz h=>(by cases h)⟩ (λj τ W U⟨_,e,_⟩=>by rw[e];show Ac er6) ?_ ?_
      . intro j v τ W U R1 hv _ Y k1;obtain⟨⟨o',rfl⟩,rfl,J,rfl,I⟩:_:=Y;have hj:j<(Ex (gg t) ks).length:=by have:=(BU.mp hv).1;simp_all
        have em:=Ck hj;have mm:=yP hj;generalize(Ex (gg t) ks)[j]=m at em mm;obtain⟨a',q',rfl,ea',_⟩:_:=(CJ pk6).2 j _ _ hv em;show⟨_,_,Ar ea',Ap (j:=0) rfl,k1 _ _ _ ⟨⟨_,rfl⟩,rfl,J++[m.1],by rw[CW];rfl,λz G=>?_⟩⟩;rcases Ce.mp G with G|G;.show I z G
        . rw[Bm.mp G];show hq.gp t ht m.1 (OJ (Ks.mp mm).2)
      . intro τ W U la Y D hD;obtain⟨_,rfl,J,rfl,I⟩:_:=Y;rw[Aq]at la;have s7:=Bv (o:=.lst (J.map AE.str)) hD;show⟨rf5,D,_,_,rfl,rfl,s7 _ _ (s6 _ _ S),AY,by rw[Aq,Aq];lia,λr8 hr8=>?_⟩;show⟨_,r8,zs5++J,rfl,(f.aa (s6.aa s7)).gy hr8,by rw[AY,CW],λz G=>(Ce.mp G).elim (hz5 z) (I z),by rw[Bx];lia⟩
    . intro M H5 Y;obtain⟨o2',rf5,zs5,rfl,f,S,hz5,lz5⟩:_:=Y;show⟨o,_,f _ _ l,z3 _ _ ?_⟩;have nrd5:rf5≠F.dg:=λz=>by rw[z,f _ _ l]at S;cases S
      show k _ rf5 zs5 (s3.aa (Qs C.di ne4 f)) (by rw[AV nrd5];show S) hz5 (by lia)
theorem W7{f:α->W}:∀{l m:List α},l.map f=m.map f->(∀a∈l,∀b∈m,f a=f b->a=b)->l=m|[],[],_,_=>rfl|[],b::m,e,_=>by cases e|a::l,[],e,_=>by cases e|a::l,b::m,e,h=>by obtain⟨D,J⟩:=Dz e;rw[h a (.head _) b (.head _) D,W7 J λx U y V=>h x (.tail _ U) y (.tail _ V)]
theorem Yb(h:EL l)(U:a∈l)(V:b∈l)(e:a.1=b.1):a=b:=by
 lk;obtain⟨i,D,rfl⟩:=Gk.mp U;obtain⟨j,J,rfl⟩:=Gk.mp V;k_in;rcases b7 i j with q|q|q
 . have:=Gn.mp h i j D J q;simp_all
 .subst q;rfl
 . have:=Gn.mp h j i J D q;simp_all
theorem YE{l m:List α}(V:(l.map key).Nodup)(W:(m.map key).Nodup)(s1:DP (l.map key))(s2:DP (m.map key))(U:∀q,q∈l↔q∈m)(D:∀a∈l,∀b∈m,key a=key b->a=b):l=m:=by have J:∀{l:List α},(l.map key).Nodup->l.Nodup:=λh=>(Hq.mp h).imp λh e=>h (by rw[e]);show W7 (VC (((List.perm_ext_iff_of_nodup (J V) (J W)).mpr U).map _) s1 s2) D
def Q1(ss:List AU)(qs:List DM):List (List AN):=qs.map λq=>match ss[q.1]? with|AA s=>NU s q.2.1 q.2.2|AG=>[]
theorem NW(h:BJ (Iv ss H) xs qs):CV H xs (Q1 ss qs):=by induction h with|nil=>show JN _|cons h _ U=>obtain⟨a,s,J,e,D⟩:_:=h;show .cons ⟨a,e,?_⟩ U;dsimp only;rw[J];show D
def Ox(m:AF×AX):List AN:=[.inr m.1,.inl m.2.1,.inl m.2.2.1]
def NR(m:AF×AX):Jr:=.tuple [.str m.1,.int m.2.1,.int m.2.2.1,.tuple [.int m.2.2.2.1,.int m.2.2.2.2.1,.int m.2.2.2.2.2.1,.int m.2.2.2.2.2.2]]
theorem Xs(h:BJ (Ol H) xs M):JE AJ H xs (M.map NR):=by induction h with|nil=>show .nil|cons a _ U=>obtain⟨a,q,rfl,D,J⟩:_:=a;show .cons (.tup (Ar D) (.cons (.str _) (.cons (.int _) (.cons (.int _) (.cons (.tup (Ar J) (.cons (.int _) (.cons (.int _) (.cons (.int _) (.cons (.int _) .nil))))) .nil))))) U
theorem lT{M:List (AF×AX)}(h:∀m∈M,SQ m.1=AK):LN (.list (M.map NR))=AK:=by
 have J:∀{M:List _},(∀m∈M,SQ m.1=AK)->Ie (M.map NR)=AK/\G4 (M.map NR)<=2:=by intro M;induction M with |nil=>showλO=>⟨rfl,by decide⟩|cons m M Y=>
  intro h;obtain⟨D,U⟩:=Y λm W=>h m (.tail _ W);have V:=h m (.head _);constructor;.simp[NR,Ie,LK,D,V]
  . simp[NR,G4,LM];simp_all
 obtain⟨D,U⟩:=J h;simp[LN,LK,LM,D];show Ag U (by decide)
theorem Yc(U:∀z,EL (g z))(W:D.Pairwise λa b=>FC (.inr b) (.inr a)=AR)(J:D.Nodup):DP ((Ex g D).map Ox)/\((Ex g D).map Ox).Nodup:=by
  constructor
  . have:=Tz (F:=λk=>match k with|.inr z=>(g z).map _|.inl _=>[]) (Hq.mpr W) (Hq.mpr (J.imp λh e=>h (Fc e))) λk V=>by obtain⟨z,_,rfl⟩:=Ay.mp V;show(U z).sd
    show Eq.mp (AE2 DP ?_) this;unfold Ex;rw[List.flatMap_map,bO];congr 1;funext z;rw[Dh,Dh];rfl
  . show Hq.mpr ((Hq.mp (UB U J)).imp λh e=>h ?_);show SJ (Fc (Dz e).1) (Ij (Dz (Dz e).2).1)
def C8(m:Nat)(p:List AO×List AO):List AO:=if m=0 then p.1 else p.2
theorem DC.adv(h:DC AI ex H j Z D J U W wi L.1 L.2)(Y:m<2):∃x d,([.ref D,.ref J]:List AE)[m]?=AA (.ref x)/\Cg AI ex H x d (C8 m L):=by
 rcases b0 m 1 with q|q
 . have:=yZ.mp q;subst this;show⟨_,_,rfl,h.s0⟩
 . have:=VU q Y;subst this;show⟨_,_,rfl,h.s1⟩
def LZ(ss:List AU)(X:CN)(F:Fw):Prop:=∀b,Fg ss F b\/b=F.dj\/b=F.dg->¬J3 ss X b
theorem LZ.ah(h:LZ ss X F)(D:Fg ss F b\/b=F.dj\/b=F.dg):b≠X.dm/\∀(i:Nat)G,X.hs[i]?=AA G->¬FW ss G b/\b≠G.dj/\b≠G.dg:=⟨λz=>h b D (.inr (.inr (.inr (.inl z)))),λi G J=>⟨λz=>h b D (.inr (.inr (.inr (.inr ⟨i,G,J,.inr (.inr (.inr z))⟩)))),λz=>h b D (.inr (.inr (.inr (.inr ⟨i,G,J,.inr (.inl z)⟩)))),λz=>h b D (.inr (.inr (.inr (.inr ⟨i,G,J,.inr (.inr (.inl z))⟩))))⟩⟩
theorem Cy.mh(h:Cy AI [] H ss X W now D sd U gk)(e:H d=AA (.dK kvs))(Z:∀b,b≠d->H' b=H b)(n:d≠X.dm/\∀(i:Nat)G,X.hs[i]?=AA G->¬FW ss G d/\d≠G.dj/\d≠G.dg):Cy AI [] H' ss X W now D sd U gk:=h.aat (λb o Y e=>by rw[Z b Y];show e) (λb J=>⟨kvs,by rw[J];show e⟩) λb J=>by rw[J];show n
structure V6(ss:List AU)(n:Nat)(sd:Nat->CA)(gg:Nat->ED)(sdF:CA)(ggF:ED):Prop where
 afv:∀t,DX ss t->∀m,m<2->((FZ n).flatMap λi=>C8 m (sd i t)).Perm (C8 m (sdF t))afr:∀t∈Am ss,∀z p,p∈ggF t z↔∃i,i<n/\p∈gg i t z
 zu:∀t∈Am ss,∀z i j,i<n->j<n->gg i t z≠[]->gg j t z≠[]->i=j
def mT(K:Br):BF:=λN H Q O=>(V9 λ(U:List AU)(X:CN)(F:Fw)(M B Z G Y V C:Int)(E:Nat->CA)(A:Nat->ED)(L:Nat->CS)(J:CA)(D:ED)(W:CS)=>Of (N=[.ref X.x,.ref F.x]) (Cy K [] H U X M B Z E A L) (FG K H U F G Y V C J D W) (LZ U X F) (U.length<=8) (X.hs.length<=8) ((∀i,i<X.hs.length->Ke U (E i) (A i) (L i) λz=>Cu z)) (Ke U J D W (λz=>Cu z)) (V6 U X.hs.length E A J D) (∀I,An H I->Q (.bl AK) I))
theorem jL(T:BL AJ Af AI):T.jl.Ok BC P w Af base 3 (mT AI):=by
  show T.jl.ok λnd _ _ _ _ _ O H vs Q E h=>?_;obtain⟨ss,X,F,sl,now,cnt,slF,nowF,cntF,num,sd,gg,gk,sdF,ggF,gkF,rfl,hb,fb,sep,lss,lhs,hq,hqF,al,k⟩:_:=h;show⟨_,(C6 (Lz (DB DK rfl (Rn (BP (AD 1) rfl)) (Cc 2 nd) (Ab (DB DK rfl (N8 (by rfl) T.jo #v[AQ]) (Cc 3 nd) (C6 (Aw 4 nd (C9 Ea)) (C6 (DB DK rfl (DA (K:=AJ) (BP (AD 0) rfl)) (Cc 5 nd) (Ab (Aw 4 nd (AW HK (AD 4) (Km (DR AJ (BP (Fm O.u1 (BP (AD 5) rfl) (AD 2) (λ_ _=>rfl)) rfl) (AD 3)) T.dw (Tf T) O))))) (Ab (CF (Bw (PZ (K:=AJ) O.yr) (DI (Y0 (K:=AJ)) (by rfl) T.jq P5 #v[AD 4]) (Km (DR AJ (BP (Fm O.u1 (BP (AD 1) rfl) (AD 2) (λ_ _=>rfl)) rfl) (AD 3)) T.dw (Tf T) O) (Bs _)) (Ab (BD F5)) Cd)))))))) (C6 (Lz (DB DK rfl (Rn (BP (AD 1) rfl)) (Cc 2 nd) (C6 (Aw 4 nd (C9 Ea)) (C6 (DB DK rfl (DA (K:=AJ) (BP (AD 0) rfl)) (Cc 5 nd) (Ab (Aw 4 nd (AW HK (AD 4) (Km (Fm O.u1 (BP (AD 5) rfl) (AD 2) (λ_ _=>rfl)) T.cb (Tg T) O))))) (Ab (CF (Bw (PZ (K:=AJ) O.yr) (DI (UX (K:=AJ) O) (by rfl) T.jq P5 #v[AD 4]) (Km (Fm O.u1 (BP (AD 1) rfl) (AD 2) (λ_ _=>rfl)) T.cb (Tg T) O) (Bs _)) (Ab (BD F5)) Cd)))))) (Ab (BD F5)))),?_⟩;have sz:Az=16777216:=Dj;obtain⟨dxF,Y⟩:=fb.au;showλ_ _ _ _ z1=>⟨F.dj,(λo u z=>by rw[fb.dk]at z;cases z),_,⟨Y,T.bu,T.ic,rfl⟩,F.dj,F.cu,rfl,.inl fb.dk,λo H1 ed1 f=>?_⟩;have jrF:=fb.bo.mh (.inr ⟨o,ed1⟩) f;have hb1:=hb.mh fb.dk f (sep.ah (.inr (.inl rfl)));have exF1:H1 F.x=AA (.ins AI.bj dxF (MU F num)):=by rw[f _ λz=>by rw[z,fb.dk]at Y;cases Y];show Y
  obtain⟨dxX,exX⟩:=hb1.au;show RU (λn D U=>(GX λ(o2 o3 o4 C:Option AE)=>NK (D=(Om X.x F.x o2 o3 o4 C)) (An H1 U))) ⟨AG,AG,AG,AG,rfl,CQ _⟩ (λn D U _ hh=>by obtain⟨_,_,_,_,_,s'⟩:=hh;show s' _ _ ed1) ?_ ?_
  . intro n q D H2 hn J;lk;obtain⟨o2,o3,o4,C,rfl,s2⟩:=J;obtain⟨t,_,hj,rfl⟩:=fb.xg.yy q (Cm hn);obtain⟨nn,ja,jb,wi,et⟩:=hj;k_in;show⟨_,rfl,by decide,by decide,Nv (λm D U=>(EB λ(o3 o4 C:Option AE)=>NK (D=(Om X.x F.x (AA (.int (t:Int))) o3 o4 C)) (An H2 U))) ⟨o3,o4,C,rfl,CQ _⟩ ?_ ?_⟩
    . intro m D H3 hm J;obtain⟨o3',o4',s,rfl,s3⟩:_:=J;have hm:m<2:=by have:(2:Int).toNat=2:=rfl;assumption
      rw[V2];showλ_ _ _ _ z3=>⟨Bc _,λrf hrf=>z3 _ _ ?_⟩;show BK (o:=.lst []) hrf λH4 s4 er4=>?_;have s14:=s2.aa (s3.aa s4);have A:=hb1.ag s14;showλ_ _ _ _ z4=>⟨_,⟨s14 _ _ exX,T.ao,T.ax,rfl⟩,X.lh,rfl,⟨_,Ac A.bz⟩,GP (K:=AJ) (xs:=X.hs.map λh=>AE.ref h.x) (λi D U=>(GX λ(C:Option AE)(rf:AB)(xs:List AE)(kss:List (List AN))=>Im (D=(Om X.x F.x (AA (.int (t:Int))) (AA (.int (m:Int))) (AA (.ref rf)) C)) (An H4 U) (U rf=AA (.lst xs)) (CV U xs kss) (kss.Perm (((FZ i).flatMap λi=>C8 m (sd i t)).map J5)) (kss.length<=600*i))) ⟨s,rf,[],[],rfl,CQ _,er4,JN _,.nil,Bc _⟩ (λi D U _ hh=>by obtain⟨_,_,_,_,_,s',_⟩:=hh;show Ac (s' _ _ A.bz)) ?_ ?_⟩
      . intro i y D H5 hy J;lk;obtain⟨o5'',rf5,xs5,W,rfl,s5,er5,B,pm5,l5⟩:=J;rw[Bt]at hy;obtain⟨G,eg,rfl⟩:=EA.mp hy;have hi:i<X.hs.length:=(BU.mp eg).1;have hG:=(A.ag s5).bx i G eg;obtain⟨dxG,exG⟩:=hG.au;obtain⟨vj,jj⟩:=hG.bo.fw t nn ja jb wi et;obtain⟨dxj,exj⟩:=jj.au;obtain⟨x,d,ex,sr⟩:=jj.adv hm;obtain⟨dxs,exs⟩:=sr.au;k_in;have lS:(C8 m (sd i t)).length<=600:=by
          have:=(hq i hi).sl t ⟨nn,ja,jb,wi,et⟩;unfold C8;split;.show this.1
          .show this.2
        show⟨_,⟨exG,T.bw,T.fi,rfl⟩,G.dj,.ref (G.jd t).j,rfl,by rw[<-vj];show .inl ⟨G.cu,.inl (t:Int),hG.bo.ah,rfl,rfl⟩,_,⟨exj,T.fm,T.cw,rfl⟩,_,_,Ac jj.av,Ap ex,x,dxs,_,rfl,exs,by rfl,[],x,d,_,rfl,sr,lS,λH6 r ys kss6 s6 hr6 er6 hw6 sd6 pm6=>?_⟩;have lx5:=B.gf;have lx6:=hw6.gf;have lp6:=pm6.length_eq;rw[Aq]at lp6;show⟨rf5,r,xs5,ys,rfl,rfl,s6 _ _ er5,er6,by lia,λr7 hr7=>?_⟩;have I:=Bv (o:=.lst (xs5++ys)) hr7;show⟨_,r7,xs5++ys,W++kss6,rfl,s5.aa (s6.aa I),AY,CV.ab (D7 (B.ab s6.tp) hw6) I.tp,?_,by rw[Bx];lia⟩;rw[bV,R7,CW];show pm5.append (pm6.trans (.of_eq ?_));rw[Ep,ABb,Dw]
      . intro D H5 J;obtain⟨o5'',rf5,xs5,W,rfl,s5,er5,B,pm5,l5⟩:_:=J;rw[Aq]at pm5 l5;have s15:=s14.aa s5;have lx5:=B.gf;have pmA:W.Perm ((C8 m (sdF t)).map J5):=pm5.trans ((al.afv t ⟨nn,ja,jb,wi,et⟩ m hm).map J5);show z4 _ _ ⟨rf5,xs5,W,rfl,Ac er5,B.yp (sh:=[AR,AK,AK]) (by decide) (λks hk=>?_),λl qq hl pq sq=>?_⟩
        . obtain⟨i,_,rfl⟩:_:=Ay.mp (pmA.mem_iff.mp hk);rfl
        obtain⟨R',p1,w1,e1⟩:_:=T7 (α:=List AN) (key:=id) (F:=λx(ks:List AN)=>∃a,x=.ref a/\H5 a=AA (.tup (ks.map Au))) (R:=W) (qs:=qq) B (by rw[R9];show pq);rw[R9]at e1;show BK hl λH6 s6 el=>?_;have s16:=s15.aa s6;lk;obtain⟨vj,jj⟩:=(jrF.ag s16).fw t nn ja jb wi et;obtain⟨dxj,exj⟩:=jj.au;obtain⟨x,d,ex,sr⟩:=jj.adv hm;obtain⟨dxs,exs⟩:=sr.au;k_in;have lS:(C8 m (sdF t)).length<=600:=by
          have:=hqF.sl t ⟨nn,ja,jb,wi,et⟩;unfold C8;split;.show this.1
          .show this.2
        show⟨_,⟨s16 _ _ exF1,T.bu,T.ic,rfl⟩,F.dj,.ref (F.jd t).j,rfl,by rw[<-vj];show .inl ⟨F.cu,.inl (t:Int),(jrF.ag s16).ah,rfl,rfl⟩,_,⟨exj,T.fm,T.cw,rfl⟩,_,_,Ac jj.av,Ap ex,x,dxs,_,rfl,exs,by rfl,[],x,d,_,rfl,sr,lS,λH7 r ys kss7 I hr7 N hw7 sd7 pm7=>?_⟩;have eq:R'=kss7:=VC (p1.trans (pmA.trans pm7.symm)) (by change bF _ _;rw[e1];show sq) sd7;subst eq;show N2 (CV.dv (CV.ab w1 λb zs e=>I _ _ (s6 _ _ e)) (I _ _ el)) (hw7.dv N) (Pk λks hk=>iL (L:=C8 m (sdF t)) (λi hi=>?_) ks (pm7.mem_iff.mp hk)) ⟨_,rfl,EY ⟨_,_,_,rfl,s3.aa (s4.aa (s5.aa (s6.aa I)))⟩⟩;have:=hqF.sp t ⟨nn,ja,jb,wi,et⟩;unfold C8 at hi;split at hi;.show this.1 i hi
        .show this.2 i hi
    . intro D H3 J;obtain⟨o3',o4',s,rfl,s3⟩:_:=J;show⟨_,_,_,_,rfl,s2.aa s3⟩
  . intro D H2 J;obtain⟨o2,o3,o4,C,rfl,s2⟩:_:=J;show⟨o,_,s2 _ _ ed1,z1 _ _ ?_⟩;have s3:=Qs fb.dk f s2;generalize AM H2 F.dj (.dK F.cu)=H3 at s3⊢;clear f jrF hb1 exF1 exX s2 ed1;have Z:=fb.ag s3;have hb3:=hb.ag s3;showλ_ _ _ _ z5=>⟨F.dg,(λo u z=>by rw[Z.di]at z;cases z),_,⟨s3 _ _ Y,T.bu,T.gm,rfl⟩,F.dg,F.ff,rfl,.inl Z.di,λo H4 ed4 ne4=>?_⟩;have grF:=Z.ba.mh (.inr ⟨o,ed4⟩) ne4;have A:=hb3.mh Z.di ne4 (sep.ah (.inr (.inr rfl)));have exF4:H4 F.x=AA (.ins AI.bj dxF (MU F num)):=by rw[ne4 _ λz=>by have e:=Z.di;rw[<-z,s3 _ _ Y]at e;cases e];show s3 _ _ Y
    obtain⟨dxX4,exX4⟩:=A.au;show RU (λn D U=>(GX λ(o2 o3 o4 C:Option AE)=>NK (D=(Om X.x F.x o2 o3 o4 C)) (An H4 U))) ⟨o2,o3,o4,C,rfl,CQ _⟩ (λn D U _ hh=>by obtain⟨_,_,_,_,_,s'⟩:=hh;show s' _ _ ed4) ?_ ?_
    . intro n q D H5 hn J;lk;obtain⟨o2',o3',o4',s,rfl,s5⟩:=J;obtain⟨t,ht,rfl⟩:=fb.yi.yy q (Cm hn);obtain⟨lgF1,S⟩:=hqF.gl t ht;k_in;showλ_ _ _ _ z6=>⟨Bc _,λrf hrf=>z6 _ _ ?_⟩;show BK (o:=.lst []) hrf λH6 s6 er6=>?_;have s46:=s5.aa s6;have hb6:=A.ag s46;showλ_ _ _ _ z7=>⟨_,⟨s46 _ _ exX4,T.ao,T.ax,rfl⟩,X.lh,rfl,⟨_,Ac hb6.bz⟩,GP (K:=AJ) (xs:=X.hs.map λh=>AE.ref h.x) (λi D U=>(GX λ(C:Option AE)(rf:AB)(xs:List AE)(M:List (AF×AX))=>Io (D=(Om X.x F.x (AA (.int (t:Int))) o3' (AA (.ref rf)) C)) (An H6 U) (U rf=AA (.lst xs)) (BJ (Ol U) xs M) ((M.map Ox).Nodup) ((∀m,m∈M↔∃j,j<i/\m.2∈gg j t m.1)) (M.length<=1800000*i))) ⟨s,rf,[],[],rfl,CQ _,er6,.nil,.nil,λm=>⟨λh=>(by cases h),λ⟨j,h,_⟩=>absurd h (Ia _)⟩,Bc _⟩ (λi D U _ hh=>by obtain⟨_,_,_,_,_,s',_⟩:=hh;show Ac (s' _ _ hb6.bz)) ?_ ?_⟩
      . intro i y D H7 hy J;lk;obtain⟨o5'',rf7,xs7,M7,rfl,I,N,pk7,nd7,c,l7⟩:=J;rw[Bt]at hy;obtain⟨G,eg,rfl⟩:=EA.mp hy;have hi:i<X.hs.length:=(BU.mp eg).1;have hG:=(hb6.ag I).bx i G eg;obtain⟨dxG,exG⟩:=hG.au;obtain⟨st,es,vt,g⟩:=hG.ba.js t ht;obtain⟨dxg,exg⟩:=g.au;obtain⟨lg1,lg2⟩:=(hq i hi).gl t ht;k_in;show⟨_,⟨exG,T.bw,T.cx,rfl⟩,G.dg,.ref (G.gd t).x,rfl,by rw[<-vt];show .inl ⟨G.ff,.inl (t:Int),hG.ba.ah,rfl,rfl⟩,(G.gd t).x,dxg,_,rfl,exg,by rfl,[],(G.gd t).x,(G.gd t).p,(G.gd t).d,st,gg i t,gk i t,rfl,g,lg1,(λz=>(lg2 z).2),λH8 r ys ks s8 hr8 er8 pk8 ps8 kn8 km8 lk8=>?_⟩;have lx7:=(CJ pk7).1;have lx8:=(CJ pk8).1;have lw8:=RA (g:=gg i t) (n:=3000) (λz=>(lg2 z).2) ks;show⟨rf7,r,xs7,ys,rfl,rfl,s8 _ _ N,er8,by lia,λr9 hr9=>?_⟩;have s9:=Bv (o:=.lst (xs7++ys)) hr9;show⟨_,r9,xs7++ys,M7++Ex (gg i t) ks,rfl,I.aa (s8.aa s9),AY,Tq (D7 (Tq pk7 s8.tp) pk8) s9.tp,?_,λm=>?_,by rw[Bx];lia⟩
        . rw[CW];show VR.mpr ⟨nd7,(Yc (λz=>(lg2 z).1) ps8 kn8).2,λa ha b hb e=>?_⟩;subst e;lk;obtain⟨u,hu,rfl⟩:=Ay.mp ha;obtain⟨v,hv,e⟩:=Ay.mp hb;obtain⟨j,hj,hju⟩:=(c u).mp hu;k_in;have e1:v.1=u.1:=Fc (Dz e).1;have hv2:=(Ks.mp hv).2;rw[e1]at hv2;have:=al.zu t ht u.1 j i (LH hj hi) hi (OJ hju) (OJ hv2);simp_all
        . rw[Ce,c,Ks];constructor
          . rintro(⟨j,hj,h⟩|⟨_,h⟩);.show⟨j,ON hj,h⟩
            .show⟨i,KS _,h⟩
          . intro J;obtain⟨j,hj,h⟩:_:=J;by_cases q:j=i;. subst q;show .inr ⟨km8 _ (OJ h),h⟩
            .show .inl ⟨j,DU (Dc hj) q,h⟩
      . intro D H7 J;lk;obtain⟨o5'',rf7,xs7,M7,rfl,I,N,pk7,nd7,c,l7⟩:=J;rw[Aq]at c l7;have mmF:∀m:AF×AX,m∈M7↔m.2∈ggF t m.1:=λm=>(c m).trans (al.afr t ht m.1 m.2).symm;have s47:=s46.aa I;obtain⟨ds,ed,sn⟩:=YS (key:=Ox) (sh:=[AR,AK,AK]) (H:=H7) (by decide) (λx m hh=>by obtain⟨a,q,e,e1,_⟩:=hh;show⟨⟨a,q,e,e1⟩,rfl⟩) pk7 nd7;k_in;show z7 _ _ ⟨rf7,xs7,ds,_,rfl,Ac N,sn,λl qq hl pq sq=>?_⟩;rw[ed]at pq;obtain⟨R',p1,w1,e1⟩:_:=T7 pk7 pq;show BK hl λH8 s8 el=>?_;have s48:=s47.aa s8;have gr8:=grF.ag s48;lk;obtain⟨st,es,vt,g⟩:=gr8.js t ht;obtain⟨dxg,exg⟩:=g.au;k_in;show⟨_,⟨s48 _ _ exF4,T.bu,T.gm,rfl⟩,F.dg,.ref (F.gd t).x,rfl,by rw[<-vt];show .inl ⟨F.ff,.inl (t:Int),gr8.ah,rfl,rfl⟩,(F.gd t).x,dxg,_,rfl,exg,by rfl,[],(F.gd t).x,(F.gd t).p,(F.gd t).d,st,ggF t,gkF t,rfl,g,lgF1,(λz=>(S z).2),λH9 r ys ks s9 hr9 er9 pk9 ps9 kn9 km9 lk9=>?_⟩;obtain⟨sdk,ndk⟩:=Yc (λz=>(S z).1) ps9 kn9;have eq:R'=Ex (ggF t) ks:=YE ((p1.map Ox).nodup_iff.mpr nd7) ndk (by change bF _ _;rw[e1];show sq) sdk (λm=>by rw[p1.mem_iff,mmF,Ks];show⟨λh=>⟨km9 _ (OJ h),h⟩,λh=>h.2⟩) λa ha b hb e=>by have h1:=(mmF a).mp (p1.mem_iff.mp ha);have h2:=(Ks.mp hb).2;have d1:a.1=b.1:=Fc (Dz e).1;have d2:a.2.1=b.2.1:=Ij (Dz (Dz e).2).1;rw[<-d1]at h2;show SJ d1 (Yb (S a.1).1 h1 h2 d2)
        subst eq;show N2 (.lst (Ac (s9 _ _ el)) (Xs (Tq w1 λb zs e=>s9 _ _ (s8 _ _ e)))) (.lst (Ac er9) (Xs pk9)) (lT λm hm=>(hqF.gp t ht m.1 (OJ (Ks.mp hm).2)).ok) ⟨_,rfl,EY ⟨_,_,_,_,rfl,s5.aa (s6.aa (I.aa (s8.aa s9)))⟩⟩
    . intro D H5 J;obtain⟨o2',o3',o4',s,rfl,s5⟩:_:=J;show⟨o,_,s5 _ _ ed4,z5 _ _ (k _ (s3.aa (Qs Z.di ne4 s5)))⟩
def Kf(H H':AH):Prop:=∀b o,H b=AA o->(∀C J U,o≠.ins C J U)->(∀D,o≠.dK D)->H' b=AA o
theorem Kf.xv(h:Kf H H')(e:H b=AA (.lst xs)):H' b=AA (.lst xs):=h b _ e nofun nofun
theorem Kf.tp(h:Kf H H'):Bk H H':=λb O e=>h b _ e nofun nofun
theorem FG.lt(h:FG AI H ss F C V J A B W Y)(s:∀b o,¬Fg ss F b->H b=AA o->H' b=AA o):Kf H H':=λb o e U Z=>s b o (λz=>by
 rcases z with z|z|z
 . obtain⟨_,D⟩:=h.au;rw[<-z,e]at D;show U _ _ _ (By D)
 . obtain⟨_,D⟩:=h.cn;rw[<-z,e]at D;show U _ _ _ (By D)
 . obtain⟨E,D⟩:=h.zp z;rw[e]at D;show Z _ (By D)) e
theorem Cy.lt(h:Cy AI [] H ss X W now D sd V gk)(s:Bq (Ga ss X) H H'):Kf H H':=λb o e J U=>s b o (h.ab e J U) e
theorem Td:((["plan","clock","joins","groups","number"]:List AF)≠(["within","sides"]:List AF))/\(["plan","clock","joins","groups","number"]:List AF)≠(["rows"]:List AF)/\(["plan","clock","joins","groups","number"]:List AF)≠(["step","rows"]:List AF):=by decide+kernel
theorem Cy.adf{H H':AH}{ss:List AU}{X:CN}{F:Fw}{sl now cnt slF nowF cntF num:Int}{sd:Nat->CA}{gg:Nat->ED}{gk:Nat->CS}{sdF:CA}{ggF:ED}{gkF:CS}(h:Cy AI [] H ss X sl now cnt sd gg gk)(f:FG AI H ss F slF nowF cntF num sdF ggF gkF)(sep:LZ ss X F)(s:∀b o,¬Fg ss F b->H b=AA o->H' b=AA o):Cy AI [] H' ss X sl now cnt sd gg gk:=by
  lk;obtain⟨dx,ex⟩:=f.au;obtain⟨dc,ec⟩:=f.cn;k_in;have nxc:F.ck≠F.x:=λz=>by rw[z,ex]at ec;have:=By ec;injection this with _ _ q;show HY.1 (AE2 (ABm ACA) q)
  have nu:∀{b c:AB},Fg ss F b->J3 ss X c->c≠b:=λhb hc z=>sep _ (.inl hb) (by rw[<-z];show hc);have h1:=h.ob (λb o nb e=>by change(if b=F.x then H' b else H b)=_;rw[AEz nb];show e) ex Td.1 Td.2.1 Td.2.2 (nu (.inl rfl) (.inl rfl)) (λi G ei=>nu (.inl rfl) (.inr (.inr (.inr (.inr ⟨i,G,ei,.inl rfl⟩))))) (nu (.inl rfl) (.inr (.inl rfl)));have e1:(λb=>if b=F.x then H' b else H b) F.ck=AA (.ins AI.aj dc (EV slF nowF cntF)):=by change(if F.ck=F.x then H' _ else H _)=_;rw[AEz nxc];show ec
  have h2:=h1.ob (H':=λb=>if b=F.ck then H' b else if b=F.x then H' b else H b) (λb o nb e=>by change(if b=F.ck then H' b else _)=_;rw[AEz nb];show e) e1 HY.2.1 HY.2.2.1 HY.2.2.2 (nu (.inr (.inl rfl)) (.inl rfl)) (λi G ei=>nu (.inr (.inl rfl)) (.inr (.inr (.inr (.inr ⟨i,G,ei,.inl rfl⟩))))) (nu (.inr (.inl rfl)) (.inr (.inl rfl)));show h2.aat (p:=GG ss _ _) (λb o nb e=>?_) (λb hb=>?_) λb hb=>sep.ah (.inl (.inr (.inr hb)))
  . have e:(if b=F.ck then H' b else if b=F.x then H' b else H b)=AA o:=e;by_cases q1:b=F.ck;.rw[AE0 q1]at e;show e
    . rw[AEz q1]at e;by_cases q2:b=F.x;.rw[AE0 q2]at e;show e
      . rw[AEz q2]at e;show s b o (λz=>z.elim q2 λz=>z.elim q1 nb) e
  . obtain⟨kv,e⟩:=f.zp hb;show⟨kv,?_⟩;change(if b=F.ck then H' b else if b=F.x then H' b else H b)=_;rw[AEz (λz=>by rw[z,ec]at e;cases e),AEz (λz=>by rw[z,ex]at e;cases e)];show e
def Tn(ss:List AU)(X:CN)(b:AB):Prop:=∃(i:Nat)(h:Fd),X.hs[i]?=AA h/\FW ss h b
theorem FG.abr(f:FG AI H ss F I W V C E Z A)(h:Cy AI [] H ss X k now M sd g gk)(D:LZ ss X F)(s:Bq (Ga ss X) H H'):FG AI H' ss F I W V C E Z A:=by
 lk;obtain⟨O,Q⟩:=f.au;obtain⟨N,P⟩:=f.cn;obtain⟨d,K⟩:=h.cn;k_in;have j:∀{b c:AB},Fg ss F b->J3 ss X c->b≠c:=λU R z=>D _ (.inl U) (by rw[z];show R);have s1:BM _ H _:=λb o B e=>by change(if b=X.ck then H' b else H b)=_;rw[AEz B];show e
 have L:=f.toFv.au s1 K HY.2.1 HY.2.2.1 HY.2.2.2;have S:∀b,Tn ss X b->∃a,(λb=>if b=X.ck then H' b else H b) b=AA _:=λb⟨i,G,Y,U⟩=>by obtain⟨T,e⟩:=(h.bx i G Y).zp U;show⟨T,?_⟩;change(if b=X.ck then H' b else H b)=_;rw[AEz (λz=>by rw[z,K]at e;cases e)];show e
 have s2:=λb o B e=>by
  have e:(if b=X.ck then H' b else H b)=AA o:=e;by_cases q:b=X.ck;.rw[AE0 q]at e;show e
  . rw[AEz q]at e;show s b o (λz=>z.elim q B) e
 have J:∀{b:AB},Tn ss X b->J3 ss X b:=λ⟨i,G,Y,U⟩=>.inr (.inr (.inr (.inr ⟨i,G,Y,.inr (.inr (.inr U))⟩)));show⟨L.aat s2 S λb U=>⟨λz=>D b (.inl (.inr (.inr z))) (J U),λz=>D b (.inr (.inl z)) (J U),λz=>D b (.inr (.inr z)) (J U)⟩,⟨O,s _ _ (λz=>D _ (.inl (.inl rfl)) ?_) Q⟩,⟨N,s _ _ (λz=>D _ (.inl (.inr (.inl rfl))) ?_) P⟩⟩;.show z.elim (λz=>.inr (.inl z)) J
 .show z.elim (λz=>.inr (.inl z)) J
def LW(c:AB)(H:AH)(Y:List AE):Prop:=∀v∈Y,∃(q r U:AB)(W J:List AE)(D:List (List AN)),v=.ref q/\H q=AA (.tup [.ref r,.ref U])/\H r=AA (.lst (W++J))/\H U=AA (.lst (W++J))/\CV H W D/\(∀Z∈D,Ji Z=AK)/\(J=[]\/J=[.non])/\r≠c/\U≠c
theorem LW.ab(h:LW c H J)(t:Kf H H'):LW c H' J:=λv Z=>by obtain⟨q,r,z,B,A,D,e,U,W,Y,w,o,n⟩:_:=h v Z;show⟨q,r,z,B,A,D,e,t.tp _ _ U,t.xv W,t.xv Y,w.ab t.tp,o,n⟩
theorem LW.aei(h:LW c H A)(t:Kf H H')(I:H c=AA (.lst R))(K:H D=AG):LW c (AM (AM H' c o) D E) A:=λv L=>by
 obtain⟨q,r,O,Q,P,U,e,J,Y,Z,w,N,n,B,C⟩:_:=h v L;have W:∀{b:AB}{M:BW},H b=AA M->b≠D:=λe=>BH e K;have F:∀{b:AB}{G:List AE},H b=AA (.tup G)->(AM (AM H' c o) D E) b=AA _:=λ{b G}e=>by rw[AV (W e),AV (λz=>by rw[z,I]at e;cases e)];show t.tp _ _ e
 show⟨q,r,O,Q,P,U,e,F J,?_,?_,ES (λ_ _⟨a,e,J⟩=>⟨a,e,F J⟩) w,N,n,B,C⟩
 . rw[AV (W Y),AV B];show t.xv Y
 . rw[AV (W Z),AV C];show t.xv Z
theorem Wc:∀{xs:List AE}{D:List Jr},JE AJ H xs D->JE AJ H (xs++[.non]) (D++[.none])|_,_,.nil=>.cons .non .nil|_,_,.cons a b=>.cons a (Wc b)
theorem iD(w:CV H ys kss)(W:∀z∈kss,Ji z=AK)(n:J=[]\/J=[.non]):∃D,JE AJ H (ys++J) D/\LN (.list D)=AK:=by
  rcases n with rfl|rfl;.show⟨_,by rw[Dw];show w.ael,Pk W⟩
  . show⟨_,Wc w.ael,?_⟩;have h:=Pk W;simp[LN,LK,LM]at h⊢;have Y:∀{D E:List _},Ie (D++E)=(Ie D&&Ie E):=λ{D E}=>by induction D with|nil=>simp[Ie]|cons d D U=>simp[Ie,U,Bool.and_assoc]
    have Z:∀{D:List _},G4 (D++[.none])<=KR (G4 D) 1:=λ{D}=>by induction D with|nil=>simp[G4,LM]|cons d D U=>simp only[R4,G4];omega
    show⟨by rw[Y,h.1];rfl,?_⟩;have:=Z (D:=kss.map JJ);show Ag this (AB5 h.2 (by decide))
theorem Qf(D:C4 ss)(U:∀(i:Nat)s,ss[i]?=AA s->s.cp=AR->z s.nm=Ff s z V/\z s.nm<=600)(E:evs.length<=V)(F:∀e∈evs,Ir (Iz e)):JY ss evs:=λp i s J W=>by have A:=(BU.mp J).1;have C:(DO p _).length<=V:=Ag (FY _ _) E;have Y:=XA D U C (λi s O J O=>NM D J) _ i s (Aj _) A J W;show⟨Ag Y (U i s J W).2,λx B=>(Su D (λe Z=>F e (D1.mp Z).1) _ i s (KS _) J x B).1⟩
theorem WC(D:C4 ss)(W:∀e∈evs,Ir (Iz e))(p:AF->Bool){i:Nat}(J:ss[i]?=AA s)(V:x∈CO ss (DO p evs) s.nm):Cu x.2.1:=(Su D (λe U=>W e (D1.mp U).1) _ i s (KS _) J x V).2
theorem T4(D:C4 ss)(C:∀e∈evs,Ir (Iz e))(p:AF->Bool)(B:t∈Am ss)(h:CT ss now (CO ss (DO p evs)) t z≠[]):Cu z:=by
 lk;obtain⟨s,J,E⟩:=IJ.mp B;obtain⟨_,_,Y⟩:=D.ig J E;obtain⟨F,G,_,V,W,_⟩:=D.oq t s _ J (by rw[Y];show .head _);k_in;rw[KD J]at h;show NJ λA=>h ?_;unfold Gb;rw[Xx λZ=>A ?_];.rfl
 . obtain⟨x,U,e⟩:_:=Ay.mp Z;rw[<-W]at U;rw[<-e];show WC D C p V U
theorem Wo(D:C4 ss)(W:JY ss evs)(G:∀e∈evs,Ir (Iz e))(A:∀t∈Am ss,(gk t).length<=(CO ss (DO p evs) (EW ss t)).length)(J:∀(t:Nat)n a b wi,ss[t]?=AA (.join n a b wi)->(sd t).1.Perm (BO (now-wi) (CO ss (DO p evs) a))/\(sd t).2.Perm (BO (now-wi) (CO ss (DO p evs) b))):Ke ss sd (CT ss now (CO ss (DO p evs))) gk λz=>Cu z/\p z=AK:=by
 have V:∀{t:Nat}{n a b:AF}{wi:Int},ss[t]?=AA _->∀f∈(AU.join n a b wi).cg,∀{S:List AO},S.Perm (BO _ (CO ss _ f))->S.length<=600/\∀x∈S,Cu x.2.1/\p x.2.1=AK:=λ{t n a b wi}U f N{S}H=>by
  obtain⟨O,I,_,E,rfl,P⟩:=D.oq t _ f U N;show⟨?_,λx Z=>?_⟩
  . have K:=H.length_eq;have L:=Kp (now-wi) (CO ss (DO p evs) I.nm);have M:=(W p O I E P).1;show Ag (Ag (Bi K) L) M
  . have Z:=(D1.mp (H.mem_iff.mp Z)).1;show⟨WC D G p E Z,fP Z⟩
 show⟨λt⟨n,a,b,wi,U⟩=>?_,λt⟨n,a,b,wi,U⟩=>?_,λt Y=>⟨Ag (A t Y) (W.abf D p Y).1,λz=>W.qk D p _ Y z⟩,λt Y z F=>⟨T4 D G p Y F,?_⟩⟩;. obtain⟨B,C⟩:=J t n a b wi U;show⟨(V U a (.head _) B).1,(V U b (.tail _ (.head _)) C).1⟩
 . obtain⟨B,C⟩:=J t n a b wi U;show⟨(V U a (.head _) B).2,(V U b (.tail _ (.head _)) C).2⟩
 .cases q:p z with|true=>rfl|false=>show absurd (KG q _ t) F
theorem Ke.iw(h:Ke ss sd U gk p)(w:∀z,p z->q z):Ke ss sd U gk q:=⟨h.sl,λt D=>⟨λx J=>w _ ((h.sp t D).1 x J),λx J=>w _ ((h.sp t D).2 x J)⟩,h.gl,λt D z V=>w _ (h.gp t D z V)⟩
theorem YO(D:Int)(f:Nat->List AO):∀l:List Nat,BO D (l.flatMap f)=l.flatMap λi=>BO D (f i)|[]=>rfl|i::l=>by rw[Ep,Ep,<-YO D f l];show FD _ _
theorem gG(A:0<X.hs.length)(J:∀i,i<X.hs.length->∀(t:Nat)n a b wi,ss[t]?=AA (.join n a b wi)->(sd i t).1.Perm (BO (now-wi) (Bz ss X evs i a))/\(sd i t).2.Perm (BO (now-wi) (Bz ss X evs i b)))(D:∀(t:Nat)n a b wi,ss[t]?=AA (.join n a b wi)->(U t).1.Perm (BO (now-wi) (CO ss evs a))/\(U t).2.Perm (BO (now-wi) (CO ss evs b))):V6 ss X.hs.length sd (λi=>CT ss now (Bz ss X evs i)) U (CT ss now (CO ss evs)):=by
  have Z:∀{a:AF}{wi:Int}{S:Nat->List AO}{Y:List AO},(∀i,i<X.hs.length->(S i).Perm _)->Y.Perm (BO _ _)->((FZ _).flatMap S).Perm Y:=λ{a wi S Y}h G=>by
    show .trans ?_ G.symm;show .trans ?_ ((fQ (ss:=ss) (Ld A) (evs:=evs) a).filter _);change bG _ (BO _ _);rw[YO];have:∀{n:Nat},n<=X.hs.length->((FZ n).flatMap S).Perm ((FZ n).flatMap λi=>BO (now-wi) (Bz ss X evs i a)):=λ{n}H=>by induction n with|zero=>show .nil|succ n K=>rw[bV,R7,R7,yL,yL];show(K (D9 H)).append (h n (by assumption))
    show this (Aj _)
  show⟨λt⟨n,a,b,wi,W⟩m M=>?_,λt I z p=>⟨λh=>⟨_,Ld A z,?_⟩,λ⟨i,V,h⟩=>?_⟩,λt I z i j V L E F=>?_⟩
  . unfold C8;by_cases q:m=0;. simp only[AE0 q];show Z (λi V=>(J i V t n a b wi W).1) (D t n a b wi W).1
    . simp only[AEz q];show Z (λi V=>(J i V t n a b wi W).2) (D t n a b wi W).2
  . rw[Ko (AE1 rfl)];show h
  . by_cases q:CI X z=i
    . rw[Ko (AE1 q)]at h;show h
    . rw[KG (AE3 q)]at h;cases h
  . have B:=NJ λq=>E (KG (AE3 q) _ t);have C:=NJ λq=>F (KG (AE3 q) _ t);rw[<-B,C]
theorem YG(H:C4 ss){g:Nat->AF->List AX}(E:∀t∈Am ss,∀z,EL (g t z)){qs D:List DM}(F:(qs.map De).Nodup)(G:(D.map De).Nodup)(s1:DP (qs.map De))(s2:DP (D.map De))(W:∀q:DM,q∈qs↔q.1∈Am ss/\q.2.2∈g q.1 q.2.1)(Y:∀q:DM,q∈D↔q.1∈Am ss/\q.2.2∈g q.1 q.2.1):qs=D:=YE F G s1 s2 (λq=>(W q).trans (Y q).symm) λa B b C e=>by lk;obtain⟨t1,A⟩:=(W a).mp B;obtain⟨_,V⟩:=(Y b).mp C;k_in;have J:=Ij (Dz (Dz e).2).1;have J:=LU.mp J;have U:=Fc (Dz (Dz (Dz e).2).2).1;have Z:=Ij (Dz (Dz (Dz (Dz e).2).2).2).1;rw[<-J,<-U]at V;show SJ J (SJ U (Yb (E _ t1 _) A V Z))
theorem X4(D:∀s∈ss,∀t∈s.aai,Cu t)(h:∀q∈qs,Cu q.2.1):∀J∈Q1 ss qs,Ji J=AK:=λJ W=>by obtain⟨q,Y,rfl⟩:_:=Ay.mp W;cases V:ss[q.1]? with|none=>rfl|some s=>have U:Cu s.nm:=D s (Cm V) _ (by cases s<;>show .head _);change(Nz _&&(Nz _&&AK))=AK;rw[show Nz (Bj _)=AK from U.ok,show Nz (Bj _)=AK from(h q Y).ok];rfl
def Jx(H:AH)(ys:List AE):Prop:=∀v∈ys,v=.non\/∃a u,v=.ref a/\H a=AA (.tup u)/\∀i:Int,u.head?≠AA (.int i)
theorem Jx.afj(h:Jx H ys)(U:AE.ref a∈ys)(e:H a=AA (.tup (.int i::u))):False:=by
 rcases h _ U with z|⟨W,Y,J,D,n⟩;.cases z
 . cases J;rw[e]at D;cases D;show n i rfl
theorem Cg.aee(h:Cg AI [] H x d L)(e:H c=AA (.lst ys))(G:Jx H ys):Cg AI [c] H x d L:=by obtain⟨o,U,A,n,l,q,Z⟩:_:=h;show⟨o,U,A,n,l,λp F=>?_,Z⟩;obtain⟨z,r,K,D,B,_,J,hw,W,I,Y⟩:_:=q p F;show⟨z,r,K,D,B,λE=>?_,J,hw,W,I,Y⟩;rw[Bm.mp E,e]at J;cases J;cases D with|nil=>show W rfl|cons M D=>cases hw with|cons a _=>obtain⟨b,rfl,C⟩:=a;obtain⟨i,_,rfl⟩:=Ay.mp (Y.mem_iff.mp (.head _));show G.afj (.head _) C
theorem EC.aee{st:AU}(h:EC AI [] H x p d st g kvs)(e:H c=AA (.lst ys))(A:Jx H ys):EC AI [c] H x p d st g kvs:=⟨h.au,h.ku,h.ar.ah,h.ar.nd,λq z=>by obtain⟨J,r,B,W,_,D,w,U⟩:_:=h.ar.ri q z;show⟨J,r,B,W,λZ=>?_,D,w,U⟩;rw[Bm.mp Z,e]at D;cases D;generalize g _=C at w;cases w with|nil=>show U rfl|cons a _=>obtain⟨b,E,rfl,Y,_⟩:_:=a;show A.afj (.head _) Y,h.ar.yu⟩
theorem Fv.zt(h:Fv AI [] H ss A sd J gk)(e:H c=AA (.lst ys))(U:Jx H ys)(M:A.lp≠c):Fv AI [] (AM H c o) ss A sd J gk:=by
 have L:CY AI [c] H ss A.dj A.cu A.jd sd:=by
  show⟨h.bo.ah,λt n a b O E=>?_,h.bo.bh,h.bo.wu⟩;obtain⟨v,j⟩:=h.bo.fw t n a b O E;show⟨v,j.au,j.av,j.s0.aee e U,j.s1.aee e U,j.ne,λI=>?_⟩;have W:=j.av;rw[Bm.mp I,e]at W;cases W;obtain⟨Q,B⟩:=j.s0.au;rcases U _ (.head _)with z|⟨P,u,Z,Y,_⟩;.cases z
  . cases Z;rw[B]at Y;cases Y
 have F:DL AI [c] H ss (Am ss) A.dg A.ff A.gd J gk:=by show⟨h.ba.ah,λt K=>?_,h.ba.bh,h.ba.jy⟩;obtain⟨N,C,v,g⟩:=h.ba.js t K;show⟨N,C,v,g.aee e U⟩
 have G:Fv AI _ H ss A sd J gk:=⟨h.kj,h.kx,h.dk,h.xg,L,h.di,h.ot,h.yi,F,h.rj,h.jy⟩;have D:=G.xv (o:=o) (.head _) e M;show⟨D.kj,D.kx,D.dk,D.xg,D.bo.iw,D.di,D.ot,D.yi,D.ba.iw,D.rj,D.jy⟩
theorem Cy.zt(h:Cy AI [] H ss X B now D sd A gk)(e:H c=AA (.lst ys))(O:Jx H ys)(M:X.lh≠c)(N:∀(i:Nat)G,X.hs[i]?=AA G->G.lp≠c):Cy AI [] (AM H c o) ss X B now D sd A gk:=by
 have U:∀{b:AB}{W:BW},H b=AA W->(∀J,W≠.lst J)->(AM H c o) b=AA W:=λ{b W}Y n=>by rw[AV λz=>by rw[z,e]at Y;show n _ (By Y).symm];show Y
 lk;obtain⟨F,L⟩:=h.au;obtain⟨C,I⟩:=h.cn;k_in;show⟨⟨F,U L nofun⟩,⟨C,U I nofun⟩,by rw[AV M];show h.bz,U h.gh nofun,λi G Z=>?_,h.bh,h.aaf⟩;obtain⟨E,K⟩:=(h.bx i G Z).au;show⟨(h.bx i G Z).toFv.zt e O (N i G Z),E,U K nofun⟩
theorem FG.zt(h:FG AI H ss F B now D J sd Z gk)(e:H c=AA (.lst ys))(L:Jx H ys)(K:F.lp≠c):FG AI (AM H c o) ss F B now D J sd Z gk:=by
 have A:∀{b:AB}{U:BW},H b=AA U->(∀Y,U≠.lst Y)->(AM H c o) b=AA U:=λ{b U}W n=>by rw[AV λz=>by rw[z,e]at W;show n _ (By W).symm];show W
 lk;obtain⟨E,I⟩:=h.au;obtain⟨C,G⟩:=h.cn;k_in;show⟨h.toFv.zt e L K,⟨E,A I nofun⟩,⟨C,A G nofun⟩⟩
theorem LW.zt(h:LW c H D):Jx H D:=λv U=>by obtain⟨q,r,W,_,_,_,e,J,_⟩:_:=h v U;show .inr ⟨q,_,e,J,λi z=>by cases z⟩
theorem mG(h:BJ (Iv ss H) xs qs):Jx H xs:=λv W=>by lk;obtain⟨i,U,e⟩:=Gk.mp W;obtain⟨l,g⟩:=CJ h;obtain⟨a,s,_,D,J⟩:=g i v qs[i] (by rw[Ck U,e]) (Ck _);k_in;show .inr ⟨a,_,D,J,λi z=>by cases z⟩
theorem Xp{kss:List (List AN)}(h:∀D∈kss,Ji D=AK):LN (.tuple [.bool b,.list (kss.map JJ)])=AK:=by
 have J:=Pk h;have W:∀kss:List _,G4 (kss.map JJ)<=2:=λkss=>by
  have V:∀D:List _,G4 (D.map K7)<=1:=λD=>by induction D with|nil=>simp[G4]|cons k D U=>cases k<;>simp<;>assumption
  induction kss with|nil=>simp[G4]|cons D kss U=>have:=V D;show AB5 (HQ.mpr this) U
 have:=W kss;simp[LN,LK,Ie,LM,G4]at J⊢;show⟨J.1,by lia⟩
def O4(m:Nat)(p:List AO×List AO)(i:AO):List AO×List AO:=if m=0 then(p.1++[i],p.2)else(p.1,p.2++[i])
def Ot(D:Nat->EI)(t m:Nat):AB:=if m=0 then(D t).d0 else(D t).d1
theorem CY.ie(Y:CY AI ex H ss Z D J sd)(E:DX ss t)(F:m<2):∃j C x U wi,BQ D (.inl (t:Int))=AA (.ref j)/\H j=AA (.ins AI.ik U [("within",.int wi),("sides",.ref C)])/\(∃xs,H C=AA (.lst xs)/\xs[m]?=AA (.ref x))/\Cg AI ex H x (Ot J t m) (C8 m (sd t))/\∀H' i,BM (Ot J t m) H H'->Cg AI ex H' x (Ot J t m) (C8 m (sd t)++[i])->CY AI ex H' ss Z D J (CU sd t (O4 m (sd t) i)):=by
 lk;obtain⟨n,a,b,wi,W⟩:=E;obtain⟨B,g⟩:=Y.fw t n a b wi W;obtain⟨U,z⟩:=g.au;k_in;have A:=g.av;rcases b0 m 1 with q|q
 . have:m=0:=yZ.mp q;subst this;show⟨_,_,_,U,wi,B,z,⟨_,A,rfl⟩,g.s0,λH' i s r=>?_⟩;show Y.ku W (λc o G O e=>s _ _ G e) (g.acg s r)
 . have:m=1:=VU q F;subst this;show⟨_,_,_,U,wi,B,z,⟨_,A,rfl⟩,g.s1,λH' i s r=>?_⟩;show Y.ku W (λc o O I e=>s _ _ I e) (g.ach s r)
def oS(A:Br):BF:=λB H Q O=>(MO λ(Y:List AB)(z:List AU)(W q:AB)(D:List (AN×AE))(Z:Nat->EI)(J:CA)(t m:Nat)(i:AO)=>ID (B=[.ref W,.ref q]) (CY A Y H z W D Z J) ((∀c∈Y,∃o,H c=AA o)) (DX z t) (m<2) (H q=AA (.tup [.int (t:Int),.int (m:Int),.str i.2.1,.int i.1,.int i.2.2])) ((C8 m (J t)).length<=1000) (∀U,BM (Ot Z t m) H U->CY A Y U z W D Z (CU J t (O4 m (J t) i))->Q .non U))
theorem kX(T:BL AJ Af AI):T.vm.Ok BC P w Af base 3 (oS AI):=by
 show T.vm.ok λu _ _ _ _ _ A H vs Q E h=>?_;lk;obtain⟨R,ss,G,q,B,s,v,t,m,⟨τ,z,l⟩,rfl,C,Y,X,d,M,a,k⟩:=h;obtain⟨j,y,x,n,wi,O,L,⟨xs,N,W⟩,F,Z⟩:=C.ie X d;k_in;show⟨_,(Ab (D8 (EX (DR AJ (BP (Fm A.u1 (AD 0) (BA AJ (AD 1) AQ) (λ_ _=>rfl)) rfl) (BA AJ (AD 1) AQ)) T.dw (Xb T) A #v[Cj #v[BA AJ (AD 1) AQ,BA AJ (AD 1) AQ,BA AJ (AD 1) AQ]]))),?_⟩;obtain⟨U,V⟩:=F.au;have D:=Ar (K:=AJ) M;show⟨_,_,D,Ap rfl,G,_,rfl,.inl ⟨_,_,C.ah,rfl,O.symm⟩,_,⟨L,T.fm,T.cw,rfl⟩,_,_,D,Ap rfl,_,_,Ac N,Ap W,x,U,_,rfl,V,rfl,_,_,D,Ap rfl,_,_,D,Ap rfl,_,_,D,Ap rfl,(by decide:3<=sizeLine),λp f=>?_⟩;show BK f λi s1 I=>?_;show⟨R,x,_,p,_,_,rfl,F.ag s1,λc S=>?_,I,a,λJ s2 r=>?_⟩;. obtain⟨o,e⟩:=Y c S;show⟨o,s1 _ _ e⟩
 . have s3:BM _ H J:=λb o g e=>s2 _ _ g (s1 _ _ e);show k J s3 (Z J _ s3 r)
def Eu(z:AF)(l:List AO):List AO:=l.filter λi=>Ae (i.2.1≠z)
theorem lR(h:∀z,(CG z a).Perm (CG z b)):a.Perm b:=by have c:∀(x:AO)(l:List AO),ABV x (CG _ l)=ABV x l:=λx l=>ABW (AE1 rfl);show ABr.mpr λx=>((c x a).symm.trans ((h _).count_eq x)).trans (c x b)
theorem TK(y z:AF)(l:List AO):CG y (Eu z l)=if y=z then[]else CG y l:=by
    unfold CG Eu;rw[HP];by_cases q:y=z;. rw[AE0 q];show Jm.mpr λi O h=>?_;have:=Sh.mp h;show AE4 this.2 ((AE4 this.1).trans q)
    . rw[AEz q];show JO λi O=>?_;by_cases e:i.2.1=y;.rw[AE1 e,AE1 (p:=i.2.1≠z) (λD=>q (e.symm.trans D))];rfl
      .rw[AE3 e];rfl
theorem We(y z:AF)(l:List AO):CG y (CG z l)=if y=z then CG z l else[]:=by
 unfold CG;rw[HP];by_cases q:y=z
 . subst q;rw[AE0 rfl];show JO λi O=>Bool.and_self _
 . rw[AEz q];show Jm.mpr λi O h=>?_;have:=Sh.mp h;show q ((AE4 this.1).symm.trans (AE4 this.2))
theorem Wg(D:Int)(y:AF)(l:List AO):CG y (BO D l)=BO D (CG y l):=by unfold CG BO;rw[HP,HP];show JO λO O=>eV _ _
theorem hZ(y:AF)(a b:List AO):CG y (a++b)=CG y a++CG y b:=FD _ _
def NS(D:List (AF×Nat))(z:AF)(j:Nat):List (AF×Nat):=if(D.any λp=>Ae (p.1=z))=AK then D.map (λp=>if p.1=z then(p.1,j)else p)else D++[(z,j)]
abbrev CN.ie(X:CN)(z:AF)(j:Nat):CN:={X with hm:=NS X.hm z j}
theorem TV{X:CN}(U:j<X.hs.length):DE (X.ie z j)=Bh (DE X) (.inr z) (.int (j:Int)):=by
    have D:=Nat.mod_eq_of_lt U;have J:((DE X).any λW=>Ae (W.1=(.inr z)))=X.hm.any λp=>Ae (p.1=z):=by unfold DE;rw[List.any_map];show AE2 _ (funext λp=>?_);show AFG.mpr ⟨λe=>Fc e,λe=>AE2 _ e⟩
    unfold Bh;rw[J];change ABm _ (NS _ z j)=_;unfold NS;by_cases q:(X.hm.any λp=>Ae (p.1=z))=AK
    . rw[AE0 q,AE0 q];unfold DE;rw[Dh,Dh];show L7 λp O=>?_;by_cases e:p.1=z
      . change(λp:AF×Nat=>((Bj p.1),AE.int ((p.2%X.hs.length:Nat)))) (if p.1=z then(p.1,j)else p)=if(Bj p.1)=Bj z then _ else _;rw[AE0 e,AE0 (AE2 _ e)];change((Bj p.1),AE.int _)=_;rw[D]
      . change(λp:AF×Nat=>((Bj p.1),AE.int ((p.2%X.hs.length:Nat)))) (if p.1=z then(p.1,j)else p)=if(Bj p.1)=Bj z then _ else _;rw[AEz e,AEz (λh=>e (Fc h))]
    . rw[AEz q,AEz q,CW];change _++[((Bj z),AE.int _)]=_;rw[D];rfl
theorem Wq(D:0<X.hs.length)(J:j<X.hs.length)(y:AF):CI (X.ie z j) y=if y=z then j else CI X y:=by
 have a:=Ow (X:=X.ie z j) D y;have b:=Ow D y;rw[TV J,IW]at a;by_cases q:y=z;. rw[AE0 (AE2 _ q)]at a;rw[AE0 q];injection a with a;show(ABL a).symm
 . rw[AEz (λe=>q (Fc e))]at a;rw[AEz q];have:=a.symm.trans b;injection this with this;show ABL this
theorem Wf(ss:List AU)(X:CN)(evs:List Bd)(i:Nat)(y a:AF):CG y (Bz ss X evs i a)=if CI X y=i then CG y (CO ss evs a)else[]:=by
 by_cases q:CI X y=i;.rw[AE0 q];show TJ (AE1 q) a
 .rw[AEz q];show Qp (AE3 q) a
theorem jB{S:Nat->List AO}{j:Nat}(V:0<X.hs.length)(Z:j<X.hs.length)(h:∀i,i<X.hs.length->(S i).Perm (BO U (Bz ss X evs i a)))(hi:i<X.hs.length):((if i=CI X z then Eu z (S i)else S i)++if i=j then CG z (S (CI X z))else[]).Perm (BO U (Bz ss (X.ie z j) evs i a)):=by
    show lR λy=>?_;have J:∀i,i<X.hs.length->(CG y _).Perm (if CI X y=i then BO U _ else[]):=λi hi=>by have:=(h i hi).filter λx=>Ae (x.2.1=y);show this.trans (LF ?_);change CG y _=_;rw[Wg,Wf];split<;>rfl
    rw[Wg,Wf,Wq V Z,hZ];by_cases q:y=z
    . subst q;rw[AE0 rfl];have D:CG y (if i=CI X y then Eu y (S i)else S i)=[]:=by
        split;.rw[TK,AE0 rfl]
        . rename_i n;have:=J i hi;rw[AEz (DJ n)]at this;show bU.mp this
      rw[D];have W:=J _ (Ld V y);rw[AE0 rfl]at W;by_cases e:i=j
      . rw[AE0 e,AE0 e.symm,We,AE0 rfl];show W
      . rw[AEz e,AEz (DJ e)];show .nil
    . have D:CG y (if i=CI X z then Eu z (S i)else S i)=CG y (S i):=by
        split;.rw[TK,AEz q]
        .rfl
      have Y:CG y (if i=j then CG z (S (CI X z))else[])=[]:=by
        split;.rw[We,AEz q]
        .rfl
      rw[D,Y,Dw];show(J i hi).trans (LF ?_);split<;>rfl
theorem jA(D:0<X.hs.length)(J:j<X.hs.length)(i t:Nat)(y:AF):CT ss now (Bz ss (X.ie z j) evs i) t y=if y=z then(if i=j then CT ss now (Bz ss X evs (CI X z)) t z else[])else CT ss now (Bz ss X evs i) t y:=by
    have e:=Wq D J (z:=z) y;by_cases q:y=z
    . subst q;rw[AE0 rfl]at e⊢;by_cases r:i=j
      . rw[AE0 r];show(Ko (AE1 (e.trans r.symm)) _ t).trans (Ko (AE1 rfl) _ t).symm
      . rw[AEz r];show KG (AE3 λh=>r (h.symm.trans e)) _ t
    . rw[AEz q]at e⊢;by_cases r:CI X y=i;.show(Ko (AE1 (e.trans r)) _ t).trans (Ko (AE1 r) _ t).symm
      .show(KG (AE3 λh=>r (e.symm.trans h)) _ t).trans (KG (AE3 r) _ t).symm
def oT(B:Br):BF:=λE H Q O=>(Sn λ(Z q A C p d:AB)(U D:List (AN×AE))(t:Int)(z:AF)(W:AX)=>Jv (E=[.ref Z,.ref q]) (F2 H Z (.dK U)) (BQ U (.inl t)=AA (.ref A)) (H A=AA (.ins B.bb C [("step",.ref p),("rows",.ref d)])) (H d=AA (.dK D)) (D.length<1000) (H q=AA (.tup [.int t,.str z,.int W.1,.int W.2.1,.int W.2.2.1,.int W.2.2.2.1,.int W.2.2.2.2.1,.int W.2.2.2.2.2])) ((∀v,BQ D (.inr z)=AA v->∃r Y,v=.ref r/\H r=AA (.lst Y)/\Y.length<100000/\∀J x,BM r H J->J r=AA (.lst (Y++[x]))->MQ J x W->Q .non J)) ((BQ D (.inr z)=AG->∀r J x,H r=AG->BM d H J->J d=AA (.dK (Bh D (.inr z) (.ref r)))->J r=AA (.lst [x])->MQ J x W->Q .non J)))
theorem kY(T:BL AJ Af AI):T.uo.Ok BC P w Af base 2 (oT AI):=by
    show T.uo.ok λnd _ _ _ _ _ hr H vs Q E h=>?_;obtain⟨X,q,gx,dx,p,d,f,F,t,z,⟨y,c,t1,t2,t3,t4⟩,rfl,eg,ev,eo,I,lk',B,k1,k2⟩:_:=h;show⟨_,(Ab (D8 (N6 AJ (vB (BP (Fm hr.u1 (AD 0) (BA AJ (AD 1) AQ) (λ_ _=>rfl)) rfl) (BA AJ (AD 1) AQ) (C9 Ea) ⟨rfl,rfl,rfl,rfl⟩) #v[Cj #v[BA AJ (AD 1) AQ,BA AJ (AD 1) AQ,HM (Rv (K:=AJ)) (AD 1) (Gi AQ) IT]]))),?_⟩;have s:=Ar (K:=AJ) B;have C:∀{W:AH}{l:AB}{U:List AE},W q=AA (.tup [.int t,.str z,.int y,.int c,.int t1,.int t2,.int t3,.int t4])->W l=AA (.lst U)->U.length<100000->(∀J x,BM l W J->J l=AA (.lst (U++[x]))->MQ J x (y,c,t1,t2,t3,t4)->Q .non J)->Rx AJ "list" (.ref l) W/\Mt (aU (Mt (LC (U7 AJ) (LD 1) (LA (AE.int 2))) (Mt (LC (U7 AJ) (LD 1) (LA (AE.int 3))) (Mt (aS (U8 AJ) (LD 1) (aR (LA (AE.int 4))) aQ) Mu)))) Mu [AA (.ref X),AA (.ref q)] W λU R=>U4 (.ref l) U R λ_ J=>Q .non J:=λ{W l U}s1 L g k=>by
      have Y:=Ar (K:=AJ) s1;show⟨.inl ⟨rfl,_,Ac L⟩,_,_,Y,Ap (j:=2) rfl,_,_,Y,Ap (j:=3) rfl,4,rfl,q,_,rfl,Y,(by change¬(CM 8 0 (AA 4)=0/\CM 8 8 AG=8);decide),λu hu=>?_⟩;show BK hu λR s2 Z=>⟨(by decide:3<=sizeLine),λa ha=>?_⟩;show BK ha λS s3 e3=>?_;have A:=s3 _ _ (s2 _ _ L);show⟨l,U,.ref a,rfl,rfl,A,by rw[Dj];(first|lia|omega),?_⟩;have i:∀{b:AB}{o:BW},S b=AA o->(∀O,o≠.lst O)->(AM S l (.lst (U++[.ref a]))) b=AA o:=λ{b o}e n=>by rw[AV λz=>by rw[z,A]at e;show n _ (By e).symm];show e
      show k _ _ (λb o G e=>by rw[AV G];show s3 _ _ (s2 _ _ e)) AY ⟨a,u,rfl,i e3 nofun,i (s3 _ _ Z) nofun⟩
    show⟨_,_,s,Ap (j:=0) rfl,X,_,rfl,.inl ⟨_,.inl t,eg,rfl,ev.symm⟩,_,⟨eo,T.cb,T.cv,rfl⟩,d,rfl,.inl ⟨_,.inl I⟩,_,_,s,Ap (j:=1) rfl,Bc _,λr D=>?_⟩;show BK D λW s1 er=>?_;show⟨F,.inr z,s1 _ _ I,rfl,by rw[Dj];(first|lia|omega),λv hv=>?_,λhn=>?_⟩;. obtain⟨r',U,rfl,M,g,k⟩:_:=k1 v hv;show C (s1 _ _ B) (s1 _ _ M) g λJ x s2 Z N=>k J x (λb o G e=>s2 _ _ G (s1 _ _ e)) Z N
    . have m:r≠d:=λe=>by rw[e,I]at D;cases D
      have qd:q≠d:=λe=>by rw[e,I]at B;cases B
      have L:(AM W d (.dK (Bh F (.inr z) (.ref r)))) r=AA (.lst []):=by rw[AV m];show er
      show C (by rw[AV qd];show s1 _ _ B) L (by decide) λJ x s2 Z N=>k2 hn r J x D (λb o G e=>?_) (s2 _ _ (DJ m) AY) Z N;have nr:b≠r:=λz=>by rw[z,D]at e;cases e
      show s2 _ _ nr (by rw[AV G];show s1 _ _ e)
abbrev G9:=Nat×Nat×Int×Int
def Oi(H:AH)(x:AE)(i:G9):Prop:=∃a,x=.ref a/\H a=AA (.tup [.int (i.1:Int),.int (i.2.1:Int),.int i.2.2.1,.int i.2.2.2])
def Qh(H:AH)(x:AE)(p:Nat×AX):Prop:=∃a q,x=.ref a/\H a=AA (.tup [.int (p.1:Int),.int p.2.1,.int p.2.2.1,.ref q])/\Fe H q p.2.2.2
def Iw(z:AF)(sd:CA)(its:List G9):CA:=its.foldl (λsd x=>CU sd x.1 (O4 x.2.1 (sd x.1) (x.2.2.1,z,x.2.2.2))) sd
def Ew(ps:List (Nat×AX))(t:Nat):List AX:=(ps.filter λp=>Ae (p.1=t)).map (·.2)
def Gu(gk:CS)(z:AF)(R:Nat->Option AB):CS:=λt=>match R t with|AA r=>Bh (gk t) (.inr z) (.ref r)|AG=>gk t
structure La(ss:List AU)(gd:Nat->Fy)(gk:CS)(z:AF)(H0 H1:AH)(ps:List (Nat×AX))(R:Nat->Option AB):Prop where
 ab:Bq (λb=>∃t∈Am ss,b=(gd t).d) H0 H1
 ah:∀t∈Am ss,H1 (gd t).d=AA (.dK (Gu gk z R t))ri:∀t r,R t=AA r->t∈Am ss/\H0 r=AG/\∃xs,H1 r=AA (.lst xs)/\Dy H1 xs (Ew ps t)/\xs≠[]/\xs.length<=ps.length
 adq:∀t,R t=AG->Ew ps t=[]aac:∀t t' r,R t=AA r->R t'=AA r->t=t'
theorem Xy(ps:List (Nat×AX))(t:Nat)(p:AX):Ew (ps++[(t,p)]) t=Ew ps t++[p]:=by unfold Ew;rw[FD,CW,Pp (by show AE1 rfl)];rfl
theorem Q0(ps:List (Nat×AX))(h:u≠t)(p:AX):Ew (ps++[(t,p)]) u=Ew ps u:=by unfold Ew;rw[FD,CW,OE (λe=>h (AE4 e).symm)];show Dw _
theorem La.aeq{K:AH}(h:La ss L gk z K C ps R)(e:R t=AA r)(E:C r=AA (.lst xs))(s:BM r C Z)(P:Z r=AA (.lst (xs++[x])))(a:MQ Z x p):La ss L gk z K Z (ps++[(t,p)]) R:=by
    have O:Bk C Z:=λb d Y=>s _ _ (λq=>by rw[q,E]at Y;cases Y) Y;lk;obtain⟨Q,M,B,D,I,c,S⟩:=h.ri t r e;rw[E]at D;cases D;k_in;show⟨λb o T Y=>s _ _ (λq=>by rw[q,M]at Y;cases Y) (h.ab b o T Y),λU J=>s _ _ (λq=>by have:=h.ah U J;rw[q,E]at this;cases this) (h.ah U J),λU N W=>?_,λU W=>?_,h.aac⟩
    . by_cases q:U=t
      . subst q;rw[e]at W;cases W;show⟨Q,M,_,P,by rw[Xy];show D7 (I.ab O) (.cons a .nil),by simp,by simp;show S⟩
      . obtain⟨J,F,B,D,A,H,G⟩:_:=h.ri U N W;have X:N≠r:=λy=>q (h.aac U t r (y▸W) e);show⟨J,F,B,s _ _ X D,by rw[Q0 _ q];show A.ab O,H,by rw[Bx];show VW G⟩
    . have q:U≠t:=λy=>by rw[y,e]at W;cases W
      rw[Q0 _ q];show h.adq U W
theorem La.abe(h:La ss Y gk z C L ps R)(c:∀i∈Am ss,∀X∈Am ss,i≠X->(Y i).d≠(Y X).d)(M:t∈Am ss)(e:R t=AG)(m:∃kvs,C (Y t).d=AA (.dK kvs))(G:L r=AG)(s:BM (Y t).d L A)(f:A (Y t).d=AA (.dK (Bh (gk t) (.inr z) (.ref r))))(g:A r=AA (.lst [x]))(j:MQ A x p):La ss Y gk z C A (ps++[(t,p)]) (CU R t (AA r)):=by
    have F:=h.ah t M;have l:Bk L A:=λb v E=>s _ _ (λq=>by rw[q,F]at E;cases E) E;have k:C r=AG:=by cases q:C r with|none=>rfl|some o=>
        by_cases n:∃t∈Am ss,r=(Y t).d
        . obtain⟨U,J,rfl⟩:=n;rw[h.ah U J]at G;cases G
        . rw[h.ab r o n q]at G;cases G
    show⟨λb o a E=>s _ _ (λq=>a ⟨t,M,q⟩) (h.ab b o a E),λU J=>?_,λU S W=>?_,λU W=>?_,λt1 t2 S B Z=>?_⟩
    . unfold Gu CU;by_cases q:U=t
      . subst q;rw[AE0 rfl];show f
      . rw[AEz q];show s _ _ (λy=>c U J t M q y) (h.ah U J)
    . unfold CU at W;by_cases q:U=t
      . subst q;rw[AE0 rfl]at W;cases W;show⟨M,k,_,g,by rw[Xy,h.adq U e];show .cons j .nil,by simp,by simp⟩
      . rw[AEz q]at W;obtain⟨J,N,T,D,I,P,O⟩:_:=h.ri U S W;show⟨J,N,T,s _ _ (λy=>by rw[y,F]at D;cases D) D,by rw[Q0 _ q];show I.ab l,P,by rw[Bx];show VW O⟩
    . unfold CU at W;by_cases q:U=t;.rw[AE0 q]at W;cases W
      . rw[AEz q]at W;rw[Q0 _ q];show h.adq U W
    . unfold CU at B Z;have H:∀{u},R u=AA r->False:=λ{u}y=>by obtain⟨_,_,_,D,_⟩:=h.ri u r y;rw[G]at D;cases D
      by_cases Q:t1=t
      . by_cases K:t2=t;.rw[Q,K]
        . rw[AE0 Q]at B;rw[AEz K]at Z;cases B;show(H Z).elim
      . rw[AEz Q]at B;by_cases K:t2=t
        . rw[AE0 K]at Z;cases Z;show(H B).elim
        . rw[AEz K]at Z;show h.aac t1 t2 S B Z
theorem La.ba(h:La ss I gk z E F ps R)(g:DL AI ex E ss (Am ss) T Z I L gk)(N:∀c∈ex,∃o,E c=AA o)(w:∀t∈Am ss,BQ (gk t) (.inr z)=AG):DL AI ex F ss (Am ss) T Z I (λt=>ER (L t) z (Ew ps t)) (Gu gk z R):=by
    have p:∀t∈Am ss,∃J,E (I t).d=AA _:=λt Y=>by obtain⟨s,_,_,M⟩:=g.js t Y;show⟨_,M.ar.ah⟩
    have P:∀{b:AB}{o:BW},E b=AA o->(∀J,o≠.dK J)->F b=AA o:=λ{b o}e n=>h.ab b o (λ⟨t,Y,q⟩=>by obtain⟨J,i⟩:=p t Y;rw[q,i]at e;show n _ (By e).symm) e;have X:Bk E F:=λb C e=>P e nofun;show⟨J9 g.ah λo e=>h.ab _ o (λ⟨t,Y,q⟩=>g.jy t Y q) e,λt Y=>?_,g.bh,g.jy⟩;lk;obtain⟨s,k,l,M⟩:=g.js t Y;obtain⟨⟨a,j⟩,st,U⟩:=M;k_in;show⟨s,k,l,⟨a,P j nofun⟩,X _ _ st,?_⟩;have x:∀q∈gk t,∀{D:AF}{r:AB},q=(.inr D,.ref r)->D≠z:=λq W D r e y=>by have:(Bj z)∈(gk t).map (·.1):=Ay.mpr ⟨q,W,by rw[e,y]⟩;show Po (w t Y) this
    have G:∀q∈gk t,∃(D:AF)(r:AB)(C:List AE),q=(.inr _,.ref r)/\r∉ex/\F r=AA _/\Dy F C (ER _ z (Ew ps t) _)/\C≠[]:=λq W=>by obtain⟨D,r,C,e,n,K,S,Q⟩:=U.ri q W;show⟨D,r,C,e,n,P K nofun,by rw[HZ (x q W e)];show S.ab X,Q⟩
    cases H:R t with |none=>
      have A:Gu gk z R t=gk t:=by unfold Gu;rw[H]
      have f:ER (L t) z (Ew ps t) z=[]:=by rw[J8];show h.adq t H
      show⟨h.ah t Y,by rw[A];show U.nd,λq W=>G q (by rw[A]at W;show W),λD B=>?_⟩;rw[A];by_cases y:D=z;.rw[y,f]at B;show absurd rfl B
      .rw[HZ y]at B;show U.yu _ B|some r=>
      have A:Gu gk z R t=Bh (gk t) (.inr z) (.ref r):=by unfold Gu;rw[H]
      obtain⟨_,r0,C,K,S,Q,_⟩:_:=h.ri t r H;show⟨h.ah t Y,by rw[A];show Mo U.nd,λq W=>?_,λD B=>?_⟩
      . rw[A]at W;rcases N0 W with rfl|⟨u,_⟩;.show⟨z,r,C,rfl,(λm=>by obtain⟨o,e⟩:=N r m;rw[r0]at e;cases e),K,by rw[J8];show S,Q⟩
        .show G q u
      . rw[A];by_cases y:D=z
        . subst y;lk;obtain⟨v,O⟩:∃v,BQ (Bh (gk t) _ _) _=AA v:=⟨_,by rw[IW,AE0 rfl]⟩;k_in;show Ay.mpr ⟨_,GS O,rfl⟩
        . rw[HZ y]at B;obtain⟨v,O⟩:=Mv (U.yu _ B);have:BQ (Bh (gk t) (.inr z) (.ref r)) (.inr D)=AA v:=by rw[IW,AEz (λe=>y (Fc e))];show O
          show Ay.mpr ⟨_,GS this,rfl⟩
theorem WL(z:AF)(sd:CA)(l:List G9)(x:G9):Iw z sd (l++[x])=CU (Iw z sd l) x.1 (O4 x.2.1 (Iw z sd l x.1) (x.2.2.1,z,x.2.2.2)):=by unfold Iw;rw[ABe];rfl
theorem mL(D:k<2)(J:m<2)(p:List AO×List AO)(i:AO):C8 m (O4 k p i)=if m=k then C8 m p++[i]else C8 m p:=by rcases SE.mp (Dc D)with rfl|rfl<;>rcases SE.mp (Dc J)with rfl|rfl<;>rfl
theorem Qk(z:AF)(sd:CA)(J:m<2)(t:Nat):∀(n:Nat)(l:List G9),l.length=n->(∀x∈l,x.2.1<2)->C8 m (Iw z sd l t)=C8 m (sd t)++(l.filter λx=>Ae (x.1=t/\x.2.1=m)).map λx=>(x.2.2.1,z,x.2.2.2)
  |0,l,e,_=>by rw[List.length_eq_zero_iff.mp e];show(Dw _).symm|n+1,l,e,h=>by
    have W:l≠[]:=λq=>by rw[q]at e;cases e
    lk;obtain⟨D,x,rfl⟩:∃D x,l=D++[x]:=⟨_,_,(List.dropLast_concat_getLast W).symm⟩;k_in;have U:=Qk z sd J t n D (by simpa using e) λy V=>h y (Hn _ V);rw[WL,FD,CW];unfold CU;by_cases q:t=x.1
    . subst q;rw[AE0 rfl,mL (h x (by simp)) J,U];by_cases r:m=x.2.1
      . rw[AE0 r,Pp (by show AE1 ⟨rfl,r.symm⟩),FN];rfl
      . rw[AEz r,OE (λy=>r (AE4 y).2.symm)];show(AE2 _ (Dw _)).symm
    . rw[AEz q,U,OE (λy=>q (AE4 y).1.symm)];show(AE2 _ (Dw _)).symm
def I0(z:AF)(its:List G9)(t m:Nat):List AO:=(its.filter λx=>Ae (x.1=t/\x.2.1=m)).map λx=>(x.2.2.1,z,x.2.2.2)
theorem gF(z:AF)(sd:CA)(D:m<2)(t n:Nat)(l:List G9)(h:∀x∈l,x.2.1<2):(C8 m (Iw z sd (l.take n) t)).length<=(C8 m (sd t)).length+(I0 z l t m).length:=by rw[Qk z sd D t _ _ rfl λx J=>h x (bR J),Bx];show FP (((yV n l).filter _).map _).length_le _
theorem La.ag(h:La ss V gk z D J ps R)(s:An J U):La ss V gk z D U ps R:=⟨λb o A e=>s _ _ (h.ab b o A e),λt Y=>s _ _ (h.ah t Y),λt r e=>by obtain⟨a,b,E,W,C,B,Z⟩:_:=h.ri t r e;show⟨a,b,E,s _ _ W,C.ab s.tp,B,Z⟩,h.adq,h.aac⟩
def pC(B:Br):BF:=λI H Q O=>(Qc λ(Z:List AB)(J:List AU)(F:Fd)(A:CA)(C:ED)(W:CS)(z:AF)(p a b:AB)(E G:List AE)(D:List G9)(U:List (Nat×AX))=>V3 (I=[.ref F.x,.str z,.ref p]) (Et B Z H J F A C W) ((∀c∈Z,∃o,H c=AA o)) (H p=AA (.tup [.ref a,.ref b])) (H a=AA (.lst E)) (H b=AA (.lst G)) (BJ (Oi H) E D) (BJ (Qh H) G U) ((∀x∈D,DX J x.1/\x.2.1<2)) ((∀x∈U,x.1∈Am J)) ((∀t∈Am J,BQ (W t) (.inr z)=AG/\(W t).length<900)) ((∀t,DX J t->∀m,m<2->(C8 m (A t)).length+(I0 z D t m).length<=1000)) (U.length<90000) (∀Y R,Bq (FW J F) H Y->Et B Z Y J F (Iw z A D) (λt=>ER (C t) z (Ew U t)) (Gu W z R)->(∀t r,R t=AA r->Ew U t≠[])->Q .non Y))
theorem k9(T:BL AJ Af AI):T.oa.Ok BC P w Af base 4 (pC AI):=by
    show T.oa.ok λL _ _ _ _ _ hr H vs Q E h=>?_;obtain⟨ex,Z,F,sd,gg,gk,z,p,a,b,xs,ys,Y,ps,rfl,B,hex,ep,ea,eb,wi,wp,ji,tp,kz,bd,lp,k⟩:_:=h;show⟨_,(C6 (DB DK rfl (DA (K:=AJ) (BA AJ (AD 2) AQ)) (J7 rfl (Eb (Cc 3 L) (Eb (Cc 4 L) (Eb (Cc 5 L) (Eb (Cc 6 L) Jk))))) (Ab (D8 (BE (kX T) hr #v[BP (AD 0) rfl,Cj #v[AD 3,AD 4,AD 1,AD 5,AD 6]])))) (Ab (DB DK rfl (DA (K:=AJ) (BA AJ (AD 2) AQ)) (J7 rfl (Eb (Cc 3 L) (Eb (Cc 7 L) (Eb (Cc 8 L) (Eb (Cc 9 L) Jk))))) (Ab (D8 (BE (kY T) hr #v[BP (AD 0) rfl,AW (N3 (K:=AJ)) (Cj #v[AD 3,AD 1,AD 7,AD 8]) (AD 9)])))))),?_⟩;lk;obtain⟨dx,eo⟩:=B.au;obtain⟨li,gi⟩:=CJ wi;k_in;have f:∀{U:AH},Bq (DF Z F.jd) H U->∀{c:AB}{o:BW},H c=AA o->(∀D,o≠.dK D)->U c=AA o:=λ{U}s{c o}e n=>s _ _ (λy=>by obtain⟨D,M⟩:=B.bo.rl y;rw[M]at e;show n _ (By e).symm) e;showλ_ _ _ _ z1=>⟨_,_,Ar (K:=AJ) ep,Ap (j:=0) rfl,a,rfl,⟨_,Ac ea⟩,GP (K:=AJ) (xs:=xs) (λn I U=>∃l m o5 o6:Option AE,I=(WK F.x z p l m o5 o6 AG AG AG)/\Bq (DF Z F.jd) H U/\CY AI ex U Z F.dj F.cu F.jd (Iw z sd (Y.take n))) ⟨AG,AG,AG,AG,rfl,λ_ _ _ e=>e,B.bo⟩ (λn I U _ hh=>?_) (λn x I H1 X O=>?_) λI H1 O=>?_⟩;. obtain⟨_,_,_,_,_,s1,_⟩:_:=hh;show Ac (f s1 ea nofun)
    . obtain⟨l,m,o5,o6,rfl,s1,jr⟩:_:=O;have ln:n<Y.length:=by rw[<-li];show(BU.mp X).1
      have A:=Ck ln;generalize Y[n]=i at A;have mi:=Cm A;lk;obtain⟨u,rfl,et⟩:=gi n x i X A;obtain⟨hj,hm⟩:=ji i mi;k_in;show⟨u,_,rfl,Ar (f s1 et nofun),rfl,_,_,rfl,_,_,rfl,_,_,rfl,_,_,rfl,rfl,_,⟨f s1 eo nofun,T.bw,T.fi,rfl⟩,(by decide:5<=sizeLine),λq hq=>?_⟩;show BK hq λH2 s2 eq=>⟨ex,Z,F.dj,q,F.cu,F.jd,_,i.1,i.2.1,(i.2.2.1,z,i.2.2.2),rfl,jr.ag s2,λc hc=>?_,hj,hm,eq,?_,λH3 s3 jr3=>⟨_,_,_,_,rfl,λc o nc e=>s3 _ _ (λy=>nc ⟨i.1,hj,?_⟩) (s2 _ _ (s1 _ _ nc e)),?_⟩⟩
      . obtain⟨o,e⟩:=hex c hc;by_cases y:DF Z F.jd c
        . obtain⟨D,M⟩:=jr.rl y;show⟨_,s2 _ _ M⟩
        .show⟨o,s2 _ _ (s1 _ _ y e)⟩
      .show Ag (gF z sd hm i.1 n Y λx X=>(ji x X).2) (bd i.1 hj i.2.1 hm)
      . rw[y];unfold Ot;split;.show .inl rfl
        .show .inr rfl
      . rw[D2,A];change CY AI ex H3 Z F.dj F.cu F.jd (Iw z sd (Y.take n++[i]));rw[WL];show jr3
    . lk;obtain⟨l,m,o5,o6,rfl,s1,jr⟩:=O;rw[li,Py]at jr;have N:=B.ba.fh s1 (λc y=>.inr (B.bo.rl y)) (λi hi=>(B.rj i hi).1) B.jy;have hex1:∀c∈ex,∃o,H1 c=AA o:=λc hc=>by
        obtain⟨o,e⟩:=hex c hc;by_cases y:DF Z F.jd c
        . obtain⟨D,M⟩:=jr.rl y;show⟨_,M⟩
        .show⟨o,s1 _ _ y e⟩
      have eo1:=f s1 eo nofun;have eb1:=f s1 eb nofun;have S:∀t∈Am Z,∃D,H1 (F.gd t).d=AA (.dK D):=λt J=>by obtain⟨s,_,_,g⟩:=N.js t J;show⟨_,g.ar.ah⟩
      have kt:∀{U:AH},Bq (λb=>∃t∈Am Z,b=(F.gd t).d) H1 U->∀{c:AB}{o:BW},H1 c=AA o->(∀D,o≠.dK D)->U c=AA o:=λ{U}s{c o}e n=>s _ _ (λ⟨t,J,y⟩=>by obtain⟨D,M⟩:=S t J;rw[y,M]at e;show n _ (By e).symm) e;obtain⟨lq,gq⟩:=CJ wp;k_in;show z1 _ _ ⟨_,_,Ar (K:=AJ) (f s1 ep nofun),Ap (j:=1) rfl,b,rfl,⟨_,Ac eb1⟩,GP (K:=AJ) (xs:=ys) (λn I U=>(Qd λ(l m o5 o6 o7 o8 o9:Option AE)(R:Nat->Option AB)=>NK (I=(WK F.x z p l m o5 o6 o7 o8 o9)) (La Z F.gd gk z H1 U (ps.take n) R))) ⟨_,_,_,_,_,_,_,λ_=>AG,rfl,?_⟩ (λn I U _ hh=>?_) (λn x I H2 X O=>?_) λI H2 O=>?_⟩
      . show⟨λ_ _ _ e=>e,λt J=>?_,(λt r e=>by cases e),λt _=>rfl,(λt t' r e=>by cases e)⟩;obtain⟨s,_,_,g⟩:_:=N.js t J;show g.ar.ah
      . obtain⟨_,_,_,_,_,_,_,_,_,C⟩:_:=hh;show Ac (kt C.ab eb1 nofun)
      . obtain⟨l,m,o5,o6,o7,o8,o9,R,rfl,C⟩:_:=O;have ln:n<ps.length:=by rw[<-lq];show(BU.mp X).1
        have A:=Ck ln;generalize ps[n]=i at A;have mi:=Cm A;lk;obtain⟨t,pc⟩:=i;obtain⟨u,q,rfl,et,etl⟩:=gq n x (t,pc) X A;have k2:∀{c:AB}{o:BW},H c=AA o->(∀D,o≠.dK D)->H2 c=AA o:=λ{c o}e n=>kt C.ab (f s1 e n) n;have J:=tp _ mi;obtain⟨st,es,ev,g⟩:=N.js t J;obtain⟨dg',eg⟩:=g.au;k_in;show⟨u,_,rfl,Ar (k2 et nofun),rfl,_,_,rfl,_,_,rfl,_,_,rfl,_,_,rfl,rfl,_,⟨k2 eo nofun,T.bw,T.cx,rfl⟩,(by decide:4<=sizeLine),λc hc=>?_⟩;show BK hc λH3 s3 ec=>?_;have etl3:H3 q=AA (.tup [.int pc.2.2.1,.int pc.2.2.2.1,.int pc.2.2.2.2.1,.int pc.2.2.2.2.2]):=s3 _ _ (k2 etl nofun);show⟨c,q,_,_,rfl,rfl,Ar ec,Ar etl3,by simp,(by decide:4+4<=sizeLine),(λe=>by cases e),λ_ q2 hq2=>?_⟩;show BK hq2 λH4 s4 e4=>?_;have W:=C.ag (s3.aa s4);have e1:∀{v:AE},R t=AG->BQ (Gu gk z R t) (.inr z)=AA v->False:=λ{v}e y=>by unfold Gu at y;rw[e]at y;show absurd ((kz t J).1.symm.trans y) (by simp)
        have e2:∀{r:AB},R t=AA r->BQ (Gu gk z R t) (.inr z)=AA (.ref r):=λ{r}e=>by unfold Gu;rw[e];show(IW _ _ _ _).trans (AE0 rfl)
        show⟨F.dg,q2,(F.gd t).x,dg',(F.gd t).p,(F.gd t).d,F.ff,Gu gk z R t,(t:Int),z,pc,rfl,J9 N.ah λo e=>W.ab _ o (λ⟨t',ht',y⟩=>N.jy t' ht' y) e,ev,kt W.ab eg nofun,W.ah t J,?_,e4,λv hv=>?_,λhn r H5 x hr s5 ed er pa=>?_⟩
        . have:=(kz t J).2;unfold Gu;split;.show FR (Rc _ _ _) (by(first|lia|omega))
          . (first|lia|omega)
        .cases G:R t with |none=>show(e1 G hv).elim|some r=>
            rw[e2 G]at hv;lk;cases hv;obtain⟨_,_,xs',er,pcs,nx,lx⟩:=W.ri t r G;k_in;show⟨r,xs',rfl,er,?_,λH5 x s5 er5 pa=>⟨_,_,_,_,_,_,_,R,rfl,?_⟩⟩;. have:=List.length_take_le n ps;(first|lia|omega)
            . rw[D2,A];show W.aeq G er s5 er5 pa
        . have G:R t=AG:=by cases G:R t with|none=>rfl|some r'=>rw[e2 G]at hn;cases hn
          have eg':Gu gk z R t=gk t:=by unfold Gu;rw[G]
          rw[eg']at ed;show⟨_,_,_,_,_,_,_,CU R t (AA r),rfl,?_⟩;rw[D2,A];show W.abe N.bh J G (S t J) hr s5 ed er pa
      . obtain⟨l,m,o5,o6,o7,o8,o9,R,rfl,C⟩:_:=O;rw[lq,Py]at C;have sw:Bq (FW Z F) H H2:=λc o nc e=>C.ab _ _ (λy=>nc (.inr y)) (s1 _ _ (λy=>nc (.inl y)) e);have jr2:=jr.fh C.ab (λc⟨t,J,y⟩=>.inr (by rw[y];show S t J)) (λc⟨t,J,y⟩hd=>(B.rj t J).1 (y▸hd)) λ⟨t,J,y⟩=>(B.rj t J).2 y;show k H2 R sw (B.vv sw jr2 (C.ba N hex1 λt J=>(kz t J).1)) λt r e y=>?_;lk;obtain⟨_,_,xs',_,pcs,nx,_⟩:=C.ri t r e;rw[y]at pcs;cases pcs;k_in;show nx rfl
theorem XI{kvs:List (AN×AE)}(h:(kvs.map (·.1)).Nodup):((Cb kvs k).map (·.1)).Nodup:=ADz (ABT _ Mx) h
theorem iM{kvs:List (AN×AE)}(h:j∈kvs.map (·.1))(n:j≠k):j∈(Cb kvs k).map (·.1):=by obtain⟨q,D,rfl⟩:_:=Ay.mp h;show Ay.mpr ⟨q,D1.mpr ⟨D,AE1 n⟩,rfl⟩
theorem h9(h:y≠z)(l:List AO):((Eu z l).filter λi=>Ae (i.2.1=y))=l.filter λi=>Ae (i.2.1=y):=(TK y z l).trans (AEz h)
theorem Cg.aew(h:Cg AI ex H x d L)(z:AF)(e:H d=AA (.dK kvs))(s:BM d H H')(M:H' d=AA (.dK (Cb kvs (.inr z)))):Cg AI ex H' x d (Eu z L):=by
    lk;obtain⟨⟨K,Y⟩,I,F,n,l,q,c⟩:=h;rw[e]at F;cases F;k_in;have S:Bk H H':=λb E W=>s _ _ (λy=>by rw[y,e]at W;cases W) W;have J:∀p∈Cb _ (.inr z),LY ex H' _ p:=λp B=>by obtain⟨O,P⟩:=Qu.mp B;obtain⟨y,r,E,D,rfl,Q,Z,w,C,R,U⟩:=q p O;have T:=λt=>P (AE2 Bj t);show⟨y,r,E,D,rfl,Q,s _ _ (λt=>by rw[t,e]at Z;cases Z) Z,w.ab S,C,R,by rw[h9 T];show U⟩
    show⟨⟨K,s _ _ (λy=>by rw[y,e]at Y;cases Y) Y⟩,_,M,XI n,?_,J,λi A=>?_⟩
    . have:=NQ (m:=(Eu z L).map λi=>(Bj i.2.1)) (XI (k:=.inr z) n) λk N=>?_;.rwa[Aq,Aq]at this
      . lk;obtain⟨p,B,rfl⟩:=Ay.mp N;obtain⟨y,r,E,D,rfl,_,_,_,C,_,U⟩:=J p B;k_in;cases G:(Eu z L).filter _ with |nil=> rw[G]at U;show absurd (bU.mp U) C|cons i X=>
          have A:i∈(Eu z L).filter λi=>Ae (i.2.1=y):=by rw[G];show Dr
          obtain⟨a,b⟩:=D1.mp A;show Ay.mpr ⟨i,a,AE2 _ (AE4 b)⟩
    . obtain⟨a,b⟩:=D1.mp A;show iM (c i a) λt=>AE4 b (Fc t)
def MY(z:AF)(m:Nat)(p:List AO×List AO):List AO×List AO:=if m=0 then p else if m=1 then(Eu z p.1,p.2)else(Eu z p.1,Eu z p.2)
theorem DC.aew(Z:m<2)(h:DC AI ex H j Y U W D J wi (MY z m L).1 (MY z m L).2):∃x d,([.ref U,.ref W]:List AE)[m]?=AA (.ref x)/\(d=D\/d=J)/\Cg AI ex H x d (C8 m L)/\∀H',BM d H H'->Cg AI ex H' x d (Eu z (C8 m L))->DC AI ex H' j Y U W D J wi (MY z (m+1) L).1 (MY z (m+1) L).2:=by
 rcases SE.mp (Dc Z)with rfl|rfl;.show⟨_,_,rfl,.inl rfl,h.s0,λH' s r=>h.acg s r⟩
 .show⟨_,_,rfl,.inr rfl,h.s1,λH' s r=>h.ach s r⟩
abbrev X6:C2:=Du (BS 63) 4
def nQ(Z:Br):BF:=λE H Q O=>(IG λ(D:List AU)(F:Fd)(V:CA)(W:ED)(A:CS)(z:AF)=>Io (E=[.ref F.x,.str z]) (Et Z [] H D F V W A) (D.length<=8) (F.cu.length<=8) ((∀t,DX D t->∀m,m<2->(C8 m (V t)).length<=1000)) ((∀t∈Am D,(W t z).length<=3000)) (∀J p a b B C U Y,Bq (FW D F) H J->Et Z [] J D F (λt=>(Eu z (V t).1,Eu z (V t).2)) (λt=>ER (W t) z []) (λt=>Cb (A t) (.inr z))->H p=AG->J p=AA (.tup [.ref a,.ref b])->J a=AA (.lst B)->J b=AA (.lst C)->BJ (Oi J) B U->BJ (Qh J) C Y->(∀x∈U,DX D x.1/\x.2.1<2)->(∀x∈Y,x.1∈Am D)->(∀t,DX D t->∀m,m<2->(I0 z U t m).Perm (CG z (C8 m (V t))))->(∀t∈Am D,Ew Y t=W t z)->Y.length<=24000->Q (.ref p) J))
theorem gZ(z:AF)(a b:List G9)(t m:Nat):I0 z (a++b) t m=I0 z a t m++I0 z b t m:=by unfold I0;rw[FD,CW]
theorem hJ(h:∀y∈M,y.2.1=z)(i k t m:Nat):I0 z (M.map λy=>(i,k,y.1,y.2.2)) t m=if t=i/\m=k then M else[]:=by
 unfold I0;rw[OF,Dh];by_cases q:t=i/\m=k
 . have e:M.filter ((λx:G9=>Ae (x.1=t/\x.2.1=m))∘λy=>(i,k,y.1,y.2.2))=M:=Mw.mpr λy O=>AE1 ⟨q.1.symm,q.2.symm⟩;rw[AE0 q,e];show(L7 λy D=>?_).trans (R9 _);change(y.1,z,y.2.2)=y;rw[<-h y D]
 . have e:M.filter ((λx:G9=>Ae (x.1=t/\x.2.1=m))∘λy=>(i,k,y.1,y.2.2))=[]:=Jm.mpr λy O h=>q ⟨(AE4 h).1.symm,(AE4 h).2.symm⟩;rw[AEz q,e];rfl
theorem lV(M:Cg AI ex H x d L)(T:BL AJ Af AI){z:AF}(P:E[1]?=AA (AA (.str z)))(R:E[i]?=AA (AA (.ref x)))(k:∀H' r xs kss,BM d H H'->Cg AI ex H' x d (Eu z L)->H' r=AA (.lst xs)->CV H' xs kss->kss.Perm ((CG z L).map GJ)->Q (.ref r) H'):VF (Pl AJ (LD i) "rows") (LD 1) (VG Mu) E H Q:=by
    lk;obtain⟨N,G⟩:=M.au;obtain⟨_,J,Y,_⟩:=M;k_in;have C:Cg AI ex H x d L:=⟨⟨N,G⟩,J,Y,‹_›⟩;change Lx _ _;rw[R];show⟨_,⟨G,T.dw,T.cy,rfl⟩,d,rfl,.inl ⟨_,.inl Y⟩,?_⟩;change Lx _ _;rw[P];show⟨Bc _,λu c=>?_⟩;show BK c λW s1 X=>?_;have D:=s1 _ _ Y;have r1:=C.ag s1;show⟨J,.inr z,D,rfl,λv U=>?_,λI=>?_⟩
    . rcases r1.ri z D with⟨S,_⟩|⟨r,xs,kss,A,j,Z,w,h,l,g⟩;.rw[S]at U;cases U
      . rw[A]at U;cases U;have f:r≠d:=λy=>by rw[y,D]at Z;cases Z
        have V:BM d W (AM W d (.dK (Cb J (.inr z)))):=zzu
        show k _ r xs kss (λb o B e=>V _ _ B (s1 _ _ e)) (r1.aew z D V AY) (V _ _ f Z) (w.ab (V.tp D nofun)) g
    . rcases r1.ri z D with⟨_,F⟩|⟨r,xs,kss,A,_⟩
      . have O:Eu z L=L:=Mw.mpr λi a=>AE1 λy=>by have:i∈L.filter λi=>Ae (i.2.1=z):=D1.mpr ⟨a,AE1 y⟩;rw[F]at this;cases this
        show k W u [] [] (λb o _ e=>s1 _ _ e) (by rw[O];show r1) X .nil ?_;change bG [] ((L.filter _).map _);rw[F];show .nil
      .rw[A]at I;cases I
theorem WT{G:List AE->T->Prop}{S:Av}{H:AH}{Q:Bf}(m:∀o H Q,(∀p,H p=AG->Q (.ref p) (AM H p (.tup pre)))->S (o::B.map (F6 X)) H Q)(hn:xs.length<=1000000)(u:pre≠[])(lp:pre.length<=10)(d:H r=AA (.lst xs))(w:BJ (λx y=>∃a t,x=.ref a/\H a=AA (.tup t)/\G t y) xs M)(n:∀t y,G t y->t≠[]/\t.length<=10)(k:∀H' D ys,An H H'->H' D=AA (.lst ys)->BJ (λx y=>∃a t,x=.ref a/\H' a=AA (.tup (pre++t))/\G t y) ys M->Q (.ref D) H'):Kt 1 B (Gy 0) OD (LC (U5 AJ) S (LD 0)) X Q (Kw AJ r) H:=by
    obtain⟨R,f⟩:=CJ w;have sz:=Dj;show IL (λj Y Z H'=>(∃o,Y=o::B.map _)/\An H H'/\BJ (λx y=>∃a t,x=.ref a/\H' a=AA (.tup (pre++t))/\G t y) Z (M.take j)) (by(first|lia|omega)) ⟨⟨_,rfl⟩,CQ _,.nil⟩ (λj Y J H' i=>Ac (i.2.1 _ _ d)) (λj y Y J I R1 P _ C s=>?_) λY J I _ C D N=>?_
    . obtain⟨⟨o,rfl⟩,U,W⟩:_:=C;have l:j<M.length:=by rw[<-R];show(BU.mp P).1
      have L:=Ck l;lk;obtain⟨a,t,rfl,b,g⟩:=f j y _ P L;obtain⟨v,tl⟩:=n _ _ g;k_in;show m _ I _ λp E=>?_;show BK E λH6 F c=>?_;show⟨p,a,pre,t,rfl,rfl,Ar c,Ar (F _ _ (U _ _ b)),u,by(first|lia|omega),(λe=>absurd e v),λ_ q O=>s _ _ _ ⟨⟨_,rfl⟩,(U.aa F).aa (Bv O),?_⟩⟩;rw[D2,L];show D7 (ES (λ_ _ h=>?_) W) (.cons ⟨q,t,rfl,AY,g⟩ .nil);obtain⟨a,t,z,A,g⟩:_:=h;show⟨a,t,z,Bv O _ _ (F _ _ A),g⟩
    . obtain⟨_,U,W⟩:_:=C;rw[R,Py]at W;show k _ D _ (U.aa (Bv N)) AY (ES (λ_ _ h=>?_) W);obtain⟨a,t,z,A,g⟩:_:=h;show⟨a,t,z,Bv N _ _ A,g⟩
theorem lU{st:AU}(Z:EC AI ex H x p d st g kvs)(T:BL AJ Af AI){z:AF}(L:J[1]?=AA (AA (.str z)))(O:J[i]?=AA (AA (.ref x)))(k:∀H' r xs,BM d H H'->EC AI ex H' x p d st (ER g z []) (Cb kvs (.inr z))->H' r=AA (.lst xs)->Dy H' xs (g z)->Q (.ref r) H'):VF (Pl AJ (LD i) "rows") (LD 1) (VG Mu) J H Q:=by
    obtain⟨I,Y⟩:=Z.au;have M:=Z.ar.ah;change Lx J[i]? _;rw[O];show⟨_,⟨Y,T.cb,T.cv,rfl⟩,d,rfl,.inl ⟨_,.inl M⟩,?_⟩;change Lx J[1]? _;rw[L];show⟨Bc _,λu X=>?_⟩;show BK X λU s1 R=>?_;have r1:=Z.ag s1;have D:=r1.ar.ah;show⟨kvs,.inr z,D,rfl,λv a=>?_,λE=>?_⟩
    . lk;obtain⟨c,r,xs,e,_,B,f,_⟩:=r1.ar.ri _ (GS a);cases e;k_in;have W:BM d U (AM U d (.dK (Cb kvs (.inr z)))):=zzu
      have G:=W.tp D nofun;have F:∀{b:AB}{o:BW},U b=AA o->(∀kvs,o≠.dK kvs)->b≠d:=λ{b o}e n y=>by rw[y,D]at e;show n _ (By e).symm
      show k _ r xs (λb o A e=>W _ _ A (s1 _ _ e)) ⟨⟨I,W _ _ (F (s1 _ _ Y) nofun) (s1 _ _ Y)⟩,G _ _ r1.ku,r1.ar.yx z⟩ (W _ _ (F B nofun) B) (f.ab G)
    . have C:=ADy λy=>Po E (r1.ar.yu z y);have N:ER g z []=g:=funext λy=>by
        by_cases q:y=z;.rw[q,J8,C]
        .show HZ q
      have P:Cb kvs _=kvs:=Mw.mpr λq S=>AE1 λy=>Po E (Ay.mpr ⟨q,S,y⟩);show k U u [] (λb o w e=>s1 _ _ e) (by rw[N,P];show r1) R ?_;rw[C];show .nil
theorem DL.afi(g:DL AI ex H ss J U D W Y gk)(h:∀i∈J,gk' i=gk i):DL AI ex H ss J U D W Y gk':=⟨g.ah,λi Z=>by rw[h i Z];show g.js i Z,g.bh,g.jy⟩
theorem lY(a b:List (Nat×AX))(t:Nat):Ew (a++b) t=Ew a t++Ew b t:=by unfold Ew;rw[FD,CW]
theorem lZ(M:List AX)(i t:Nat):Ew (M.map λy=>(i,y)) t=if t=i then M else[]:=by
 unfold Ew;rw[OF,Dh];by_cases q:t=i
 . have e:M.filter ((λp:Nat×AX=>Ae (p.1=t))∘λy=>(i,y))=M:=Mw.mpr λy O=>AE1 q.symm;rw[AE0 q,e];show R9 _
 . have e:M.filter ((λp:Nat×AX=>Ae (p.1=t))∘λy=>(i,y))=[]:=Jm.mpr λy O h=>q (AE4 h).symm;rw[AEz q,e];rfl
theorem j7(T:BL AJ Af AI):T.ny.Ok BC P w Af base 2 (nQ AI):=by
    show T.ny.ok λnd O O O O O hr H vs Q E h=>?_;obtain⟨ss,F,sd,gg,gk,z,rfl,hb,lss,ljk,bs,bg,k⟩:_:=h;show⟨_,(C6 (Aw 2 nd (C9 Ea)) (C6 (Lz (DB DK rfl (U2 (BP (AD 0) rfl) rfl rfl) (J7 rfl (Eb (Cc 3 nd) (Eb (Cc 4 nd) Jk))) (Ab (DB DK rfl (Pf (K:=AJ) (by rfl) T.iz (BP (AD 4) rfl)) (J7 rfl (Eb (Cc 5 nd) (Eb (Cc 6 nd) Jk))) (Ab (D8 (JM (K:=AJ) MF NB OQ Lw (AD 2) #v[(IQ (DG X6) [("place",3),("side",5)] ⟨rfl,rfl,rfl,rfl,trivial⟩ (DA (K:=AJ) (Zu (BP (AD 6) rfl) (AD 1) (C9 Ea) ⟨rfl,rfl,rfl,rfl⟩)) (λO O O O=>G0) (λO O O O=>(AW (N3 (K:=AJ)) (Cj #v[AD 1,AD 2]) (AD 0))))]))))))) (C6 (Aw 7 nd (C9 Ea)) (C6 (Lz (DB DK rfl (U2 (BP (AD 0) rfl) rfl rfl) (J7 rfl (Eb (Cc 3 nd) (Eb (Cc 8 nd) Jk))) (Ab (D8 (JM (K:=AJ) MF NB OQ Lw (AD 7) #v[(IQ (DG X6) [("place",3)] ⟨rfl,rfl,trivial⟩ (DA (K:=AJ) (Zu (BP (AD 8) rfl) (AD 1) (C9 Ea) ⟨rfl,rfl,rfl,rfl⟩)) (λO O O O=>G0) (λO O O O=>(AW (N3 (K:=AJ)) (Cj #v[AD 1]) (AD 0))))]))))) (Ab (BD (Cj #v[AD 2,AD 7]))))))),?_⟩;have sz:Az=16777216:=Dj;obtain⟨dx,eo⟩:=hb.au;showλO O O O z1=>⟨Bc _,λtl htl=>z1 _ _ ?_⟩;show BK (o:=.lst []) htl λH0 s0 et0=>?_;have jr0:=(hb.bo.ip htl).ag s0;have ej0:=s0 _ _ hb.dk;have eo0:=s0 _ _ eo;showλO O O O z2=>⟨F.dj,(λo u y=>by rw[ej0]at y;cases y),_,⟨eo0,T.bw,T.fi,rfl⟩,F.dj,F.cu,rfl,ej0,λo H1 e1=>?_⟩;subst e1;have ntj:tl≠F.dj:=λy=>by rw[y,hb.dk]at htl;cases htl
    have ne1:∀b,b≠F.dj->(AM H0 F.dj (.frz o (.dK F.cu))) b=H0 b:=λb nb=>AV nb;have jr1:=jr0.mh (.inr ⟨o,AY⟩) ne1;have ed1:(AM H0 F.dj (.frz o (.dK F.cu))) F.dj=AA (.frz o (.dK F.cu)):=AY;have et1:(AM H0 F.dj (.frz o (.dK F.cu))) tl=AA (.lst []):=by rw[AV ntj];show et0
    generalize AM H0 F.dj (.frz o (.dK F.cu))=H1 at ne1 jr1 ed1 et1⊢;show Uc (kvs:=F.cu) (λn σ H'=>(IG λ(o3 o4 o5 o6:Option AE)(acc:List AE)(its:List G9)=>Jv (σ=(S4 F.x z tl o3 o4 o5 o6 AG AG)) (H' F.dj=AA (.frz o (.dK F.cu))) (Bq (λb=>b=tl\/DF ss F.jd b) H1 H') (CY AI [tl] H' ss F.dj F.cu F.jd (λt=>if(.inl (t:Int):AN)∈(F.cu.take n).map (·.1)then MY z 2 (sd t)else sd t)) (H' tl=AA (.lst acc)) (BJ (Oi H') acc its) ((∀x∈its,DX ss x.1/\x.2.1<2)) ((∀t m,m<2->(I0 z its t m).Perm (if(.inl (t:Int):AN)∈(F.cu.take n).map (·.1)then CG z (C8 m (sd t))else[]))) (its.length<=2000*n))) ⟨AG,AG,AG,AG,[],[],rfl,ed1,λb o O e=>e,jr1,et1,.nil,(λx hx=>by cases hx),λt m O=>.nil,Bc _⟩ (λn σ H' O hh=>by obtain⟨_,_,_,_,_,_,_,e,_⟩:=hh;show e) (λn p σ H2' rp hp hI hrp=>?_) λσ H2 hI=>?_
    . lk;obtain⟨o3,o4,o5,o6,acc,its,rfl,ed2',s2',jr2',et2',wi2',ji2,pm2,ln2⟩:=hI;obtain⟨i,_,hj,rfl⟩:=hb.xg.yy p (Cm hp);k_in;show BK (o:=.tup [Au (.inl (i:Int)),.ref (F.jd i).j]) hrp λH2 g2 erp=>?_;show⟨rp,_,rfl,Ar erp,rfl,_,_,rfl,_,_,rfl,rfl,?_⟩;have new:(.inl (i:Int):AN)∉(F.cu.take n).map (·.1):=λhm=>by
        rw[bP]at hm;obtain⟨j,hj,e⟩:=Gk.mp hm;rw[Er]at hj;rw[OH]at e;have e2:(F.cu.map (·.1))[n]?=AA (.inl (i:Int)):=by rw[Bt,hp];rfl
        obtain⟨h2,q2⟩:=BU.mp e2;show(Gn.mp hb.xg.nd) j n (BY hj (P1 _ _)) h2 (BY hj (Jo _ _)) (e.trans q2.symm)
      have tk:∀t:Nat,(.inl (t:Int):AN)∈(F.cu.take (n+1)).map (·.1)↔(.inl (t:Int):AN)∈(F.cu.take n).map (·.1)\/t=i:=λt=>by rw[D2,hp,CW,Ce];show or_congr_right ⟨λh=>LU.mp (Ij (Bm.mp h)),λh=>by rw[h];show .head _⟩
      lk;obtain⟨nn,a,b,wi,et⟩:=hj;have jr2:=jr2'.ag g2;obtain⟨ev,g⟩:=jr2.fw i _ _ _ _ et;obtain⟨dxj,ej⟩:=g.au;k_in;show⟨_,⟨ej,T.fm,T.cw,rfl⟩,(F.jd i).sl,rfl,⟨_,Ac g.av⟩,RV (K:=AJ) (xs:=[.ref (F.jd i).x0,.ref (F.jd i).x1]) (λm σ H'=>(GX λ(o5 o6:Option AE)(acc:List AE)(its:List G9)=>Jv (σ=(S4 F.x z tl (AA (.int (i:Int))) (AA (.ref (F.jd i).j)) o5 o6 AG AG)) (H' F.dj=AA (.frz o (.dK F.cu))) (Bq (λb=>b=tl\/DF ss F.jd b) H1 H') (CY AI [tl] H' ss F.dj F.cu F.jd (λt=>if t=i then MY z m (sd i)else if(.inl (t:Int):AN)∈(F.cu.take n).map (·.1)then MY z 2 (sd t)else sd t)) (H' tl=AA (.lst acc)) (BJ (Oi H') acc its) ((∀x∈its,DX ss x.1/\x.2.1<2)) ((∀t k,k<2->(I0 z its t k).Perm (if t=i then(if k<m then CG z (C8 k (sd i))else[])else if(.inl (t:Int):AN)∈(F.cu.take n).map (·.1)then CG z (C8 k (sd t))else[]))) (its.length<=2000*n+1000*m))) ⟨_,_,acc,its,rfl,g2 _ _ ed2',λb o nb e=>g2 _ _ (s2' b o nb e),jr2.av λt O=>?_,g2 _ _ et2',ES (λO O h=>?_) wi2',ji2,λt k hk=>?_,ln2⟩ (λm σ H' O hh=>?_) (λm x σ H3' rq hx hI hrq=>?_) λσ H3 hI=>?_⟩
      . by_cases q:t=i;.subst q;rw[AE0 rfl,AEz new];rfl
        .rw[AEz q]
      . obtain⟨a,e,e'⟩:_:=h;show⟨a,e,g2 _ _ e'⟩
      . by_cases q:t=i
        . subst q;have:=pm2 t k hk;rw[AEz new]at this;rw[AE0 rfl,AEz (Ia _)];show this
        . rw[AEz q];show pm2 t k hk
      . obtain⟨_,_,_,_,_,_,_,jr3,_⟩:_:=hh;show Ac (jr3.fw i _ _ _ _ et).2.av
      . obtain⟨o5,o6,acc,its,rfl,ed3',s3',jr3',et3',wi3',ji3,pm3,ln3⟩:_:=hI;have hm:m<2:=(BU.mp hx).1;show BK (o:=.tup [.int (m:Int),x]) hrq λH3 g3 erq=>?_;have jr3:=jr3'.ag g3;have gj:=(jr3.fw i _ _ _ _ et).2;rw[AE0 rfl]at gj;lk;obtain⟨x',d,ex',hd,sr,put⟩:=gj.aew hm;rw[hx]at ex';cases ex';k_in;have et3:=g3 _ _ et3';show⟨rq,_,rfl,Ar erq,rfl,_,_,rfl,_,_,rfl,rfl,.inl ⟨rfl,_,Ac et3⟩,?_⟩;unfold Mt LB RW;show lV sr T (i:=6) (z:=z) rfl rfl λH4 r xs kss s4 sr4 er w pm=>?_;show⟨r,rfl,⟨_,Ac er⟩,?_⟩;obtain⟨M,pM,rfl⟩:_:=Ya pm;have mz:∀y∈M,y.2.1=z:=λy hy=>AE4 (D1.mp (pM.mem_iff.mp hy)).2;have lM:M.length<=1000:=by rw[pM.length_eq];show Ag (FY _ _) (bs i ⟨nn,a,b,wi,et⟩ m hm)
        have hn:n<F.cu.length:=(BU.mp hp).1;have lx:xs.length=M.length:=w.gf.trans (Aq _);show WT (M:=M) (G:=λt y=>t=[.int y.1,.int y.2.2]) (pre:=[.int (i:Int),.int (m:Int)]) (λo H Q k=>⟨(by decide:2<=sizeLine),λp hp=>k p hp⟩) (by(first|lia|omega)) (by simp) (by simp) er ?_ (λt y e=>by subst e;show⟨by simp,by simp⟩) λH5 D ys s5 eD w5=>?_
        . show Gz lx λj x y hx hy=>?_;lk;obtain⟨a,ks,e,ek,ea⟩:=w.at hx;rw[Bt,hy]at ek;cases ek;k_in;show⟨a,_,e,ea,rfl⟩
        have j4:=jr3.ku et (λb o n0 n1 e=>s4 b o (λy=>hd.elim (λq=>n0 (y.trans q)) λq=>n1 (y.trans q)) e) (put H4 s4 sr4);have dD:DF ss F.jd d:=⟨i,⟨nn,a,b,wi,et⟩,hd⟩;obtain⟨kd,ekd⟩:=jr3.rl dD;have et4:H4 tl=AA (.lst acc):=s4 _ _ (λy=>by rw[<-y,et3]at ekd;cases ekd) et3;have et5:=s5 _ _ et4;have j5:=j4.ag s5;have la:=(CJ wi3').1;have ly:=(CJ w5).1;show⟨tl,D,acc,ys,rfl,rfl,et5,eD,by(first|lia|omega),?_⟩;have tp6:Bk H5 (AM H5 tl (.lst (acc++ys))):=(Gg H5).gy et5 λxs=>by intro y;cases y
        have td:¬DF ss F.jd tl:=λy=>by obtain⟨kvs,e⟩:=j5.rl y;rw[et5]at e;cases e
        have j6:=j5.fh (p:=(.=tl)) (H':=AM H5 tl (.lst (acc++ys))) zzu (λb hb=>.inl ⟨by rw[hb];show .head _,acc,by rw[hb];show et5⟩) (λb hb=>by rw[hb];show td) ntj.symm;have sd3:∀{b:AB}{o:BW},b≠tl->¬DF ss F.jd b->H3' b=AA o->(AM H5 tl (.lst (acc++ys))) b=AA o:=λ{b o}nt nb e=>by rw[AV nt];show s5 _ _ (s4 _ _ (λy=>nb (y▸dD)) (g3 _ _ e))
        show⟨_,_,acc++ys,its++M.map (λy=>(i,m,y.1,y.2.2)),rfl,sd3 ntj.symm (λy=>?_) ed3',λb o nb e=>sd3 (λy=>nb (.inl y)) (λy=>nb (.inr y)) (s3' b o nb e),j6.av λt O=>?_,AY,D7 (ES (λO O h=>?_) wi3') (To (ES (λO O h=>?_) w5)),λx hx=>?_,λt k hk=>?_,?_⟩
        . obtain⟨t,ht,q⟩:_:=y;show q.elim (hb.bo.wu t ht).1 (hb.bo.wu t ht).2
        . by_cases q:t=i;.rw[AE0 q,AE0 q]
          .rw[AEz q,AEz q,AEz q]
        . obtain⟨a,e,e'⟩:_:=h;show⟨a,e,tp6 _ _ (s5 _ _ (s4.tp ekd nofun _ _ (g3 _ _ e')))⟩
        . obtain⟨a,t,e,e',rfl⟩:_:=h;show⟨a,e,tp6 _ _ e'⟩
        . rcases Ce.mp hx with h|h;.show ji3 x h
          . obtain⟨y,_,rfl⟩:_:=Ay.mp h;show⟨⟨nn,a,b,wi,et⟩,hm⟩
        . rw[gZ,hJ mz];have:=pm3 t k hk;by_cases q:t=i
          . rw[AE0 q]at this⊢;by_cases q2:k=m
            . rw[q2,AEz (Ht _)]at this;rw[q2,AE0 (KS _),bU.mp this,AE0 ⟨q,rfl⟩];show pM
            . rw[AEz λh=>q2 h.2,Dw];show this.trans (LF ?_);by_cases y:k<m;.rw[AE0 y,AE0 (b3 y)]
              .rw[AEz y,AEz λh=>q2 (Ec (Dc h) (FQ y))]
          . rw[AEz q]at this⊢;rw[AEz λh=>q h.1,Dw];show this
        . rw[Bx,Aq];change _<=2000*n+1000*(m+1);(first|lia|omega)
      . obtain⟨o5,o6,acc,its,rfl,ed3,s3,jr3,et3,wi3,ji3,pm3,ln3⟩:_:=hI;show⟨_,_,_,_,acc,its,rfl,ed3,s3,jr3.av λt O=>?_,et3,wi3,ji3,λt k hk=>?_,by change its.length<=2000*(n+1);have:its.length<=2000*n+1000*2:=ln3;(first|lia|omega)⟩
        . by_cases q:t=i
          . subst q;rw[AE0 ((tk t).mpr (.inr rfl)),AE0 rfl];rfl
          . rw[AEz q];by_cases y:(.inl (t:Int):AN)∈(F.cu.take n).map (·.1);.rw[AE0 y,AE0 ((tk t).mpr (.inl y))]
            .rw[AEz y,AEz λh=>((tk t).mp h).elim y q]
        . have:=pm3 t k hk;by_cases q:t=i
          . subst q;rw[AE0 rfl]at this;rw[AE0 ((tk t).mpr (.inr rfl))];show this.trans (LF (AE0 hk))
          . rw[AEz q]at this;by_cases y:(.inl (t:Int):AN)∈(F.cu.take n).map (·.1)
            . rw[AE0 y]at this;rw[AE0 ((tk t).mpr (.inl y))];show this
            . rw[AEz y]at this;rw[AEz λh=>((tk t).mp h).elim y q];show this
    . obtain⟨o3,o4,o5,o6,acc,its,rfl,ed2,s2,jr2,et2,wi2,ji2,pm2,ln2⟩:_:=hI;rw[Py]at jr2 pm2;have inn:∀{t:Nat},DX ss t->(.inl (t:Int):AN)∈F.cu.map (·.1):=λ{t}hj=>by obtain⟨_,_,_,_,et⟩:=hj;show Ay.mpr ⟨_,GS (hb.bo.fw t _ _ _ _ et).1,rfl⟩
      show⟨o,_,ed2,z2 _ _ ?_⟩;have ne3:∀b,b≠F.dj->(AM H2 F.dj (.dK F.cu)) b=H2 b:=λb nb=>AV nb;have jr3:=(jr2.mh (.inl AY) ne3).av (sd':=λt=>(Eu z (sd t).1,Eu z (sd t).2)) λt ht=>(AE0 (inn ht)).symm;have et3:(AM H2 F.dj (.dK F.cu)) tl=AA (.lst acc):=by rw[ne3 _ ntj];show et2
      have tp3:Bk H2 (AM H2 F.dj (.dK F.cu)):=λb xs e=>by rw[ne3 b λy=>by rw[y,ed2]at e;cases e];show e
      have wi3:BJ (Oi (AM H2 F.dj (.dK F.cu))) acc its:=ES (λO O h=>by obtain⟨a,e,e'⟩:=h;show⟨a,e,tp3 _ _ e'⟩) wi2;have s3:Bq (DF ss F.jd) H (AM H2 F.dj (.dK F.cu)):=λb ob nb e=>by
        have e0:=s0 _ _ e;by_cases q:b=F.dj
        . rw[q,ej0]at e0;cases e0;rw[q];show AY
        . rw[ne3 b q];show s2 b ob (λy=>y.elim (λy=>by rw[y,htl]at e;cases e) nb) (by rw[ne1 b q];show e0)
      generalize AM H2 F.dj (.dK F.cu)=H3 at jr3 et3 wi3 s3⊢;have gr3:=hb.ba.fh s3 (λc y=>.inr (hb.bo.rl y)) (λi hi=>(hb.rj i hi).1) hb.jy;clear jr0 jr1 jr2 et1 et2 wi2 tp3 s2 ed2 ne3 ne1 ed1 ln2 inn eo0 ej0 et0 s0 z1 z2;showλO O O O z3=>⟨Bc _,λtp htp=>z3 _ _ ?_⟩;show BK (o:=.lst []) htp λH4 s4 ep4=>?_;have gr4:=(gr3.ip htp).ag s4;have eg4:=s4 _ _ (s3 _ _ hb.jy hb.di);have eo4:=s4 _ _ (s3 _ _ (λy=>by obtain⟨kvs,e⟩:=hb.bo.rl y;rw[eo]at e;cases e) eo);showλO O O O z4=>⟨F.dg,(λo u y=>by rw[eg4]at y;cases y),_,⟨eo4,T.bw,T.cx,rfl⟩,F.dg,F.ff,rfl,eg4,λo H5 e5=>?_⟩;subst e5;have ntg:tp≠F.dg:=λy=>by rw[y,s3 _ _ hb.jy hb.di]at htp;cases htp
      have ne5:∀b,b≠F.dg->(AM H4 F.dg (.frz o (.dK F.ff))) b=H4 b:=λb nb=>AV nb;have gr5:=gr4.mh (.inr ⟨o,AY⟩) ne5;have ed5:(AM H4 F.dg (.frz o (.dK F.ff))) F.dg=AA (.frz o (.dK F.ff)):=AY;have ep5:(AM H4 F.dg (.frz o (.dK F.ff))) tp=AA (.lst []):=by rw[AV ntg];show ep4
      generalize AM H4 F.dg (.frz o (.dK F.ff))=H5 at ne5 gr5 ed5 ep5⊢;show Uc (kvs:=F.ff) (λn σ H'=>(GX λ(o3 o8:Option AE)(pcs:List AE)(ps:List (Nat×AX))=>Jv (σ=(S4 F.x z tl o3 o4 o5 o6 (AA (.ref tp)) o8)) (H' F.dg=AA (.frz o (.dK F.ff))) (Bq (λb=>b=tp\/∃i∈Am ss,b=(F.gd i).d) H5 H') (DL AI [tp] H' ss (Am ss) F.dg F.ff F.gd (λt=>if(.inl (t:Int):AN)∈(F.ff.take n).map (·.1)then ER (gg t) z []else gg t) (λt=>if(.inl (t:Int):AN)∈(F.ff.take n).map (·.1)then Cb (gk t) (.inr z)else gk t)) (H' tp=AA (.lst pcs)) (BJ (Qh H') pcs ps) ((∀x∈ps,x.1∈Am ss)) ((∀t,Ew ps t=if(.inl (t:Int):AN)∈(F.ff.take n).map (·.1)then gg t z else[])) (ps.length<=3000*n))) ⟨_,AG,[],[],rfl,ed5,λb o O e=>e,gr5,ep5,.nil,(λx hx=>by cases hx),λt=>rfl,Bc _⟩ (λn σ H' O hh=>by obtain⟨_,_,_,_,_,e,_⟩:=hh;show e) (λn p σ H6' rp hp hI hrp=>?_) λσ H6 hI=>?_
      . lk;obtain⟨o3,o8,pcs,ps,rfl,ed6',s6',gr6',ep6',wp6',jp6,pp6,lp6⟩:=hI;obtain⟨i,hi,rfl⟩:=hb.yi.yy p (Cm hp);k_in;show BK (o:=.tup [Au (.inl (i:Int)),.ref (F.gd i).x]) hrp λH6 g6 erp=>?_;show⟨rp,_,rfl,Ar erp,rfl,_,_,rfl,_,_,rfl,rfl,?_⟩;have new:(.inl (i:Int):AN)∉(F.ff.take n).map (·.1):=λhm=>by
          rw[bP]at hm;obtain⟨j,hj,e⟩:=Gk.mp hm;rw[Er]at hj;rw[OH]at e;have e2:(F.ff.map (·.1))[n]?=AA (.inl (i:Int)):=by rw[Bt,hp];rfl
          obtain⟨h2,q2⟩:=BU.mp e2;show(Gn.mp hb.yi.nd) j n (BY hj (P1 _ _)) h2 (BY hj (Jo _ _)) (e.trans q2.symm)
        have tk:∀t:Nat,(.inl (t:Int):AN)∈(F.ff.take (n+1)).map (·.1)↔(.inl (t:Int):AN)∈(F.ff.take n).map (·.1)\/t=i:=λt=>by rw[D2,hp,CW,Ce];show or_congr_right ⟨λh=>LU.mp (Ij (Bm.mp h)),λh=>by rw[h];show .head _⟩
        have hn:n<F.ff.length:=(BU.mp hp).1;have lg:=hb.ot;have gr6:=gr6'.ag g6;have ep6:=g6 _ _ ep6';obtain⟨st,es,ev,g⟩:_:=gr6.js i hi;rw[AEz new,AEz new]at g;show⟨.inl ⟨rfl,_,Ac ep6⟩,?_⟩;unfold Mt LB RW;show lU g T (i:=8) (z:=z) rfl rfl λH7 r xs s7 g7 er w=>⟨r,rfl,⟨_,Ac er⟩,?_⟩;have lx:=(CJ w).1;have lb:=bg i hi;show WT (M:=gg i z) (G:=λt y=>∃q,t=[.int y.1,.int y.2.1,.ref q]/\Fe H7 q y.2.2) (pre:=[.int (i:Int)]) (λo H Q k=>⟨(by decide:1<=sizeLine),λp hp=>k p hp⟩) (by(first|lia|omega)) (by simp) (by simp) er (ES (λx y h=>?_) w) (λt y e=>by obtain⟨q,rfl,_⟩:=e;show⟨by simp,by simp⟩) λH8 D ys s8 eD w8=>?_;. obtain⟨a,q,e,e1,e2⟩:_:=h;show⟨a,_,e,e1,q,rfl,e2⟩
        have edi:=g.ar.ah;have gr7:=gr6.ku hi es s7 g7;have ep7:H7 tp=AA (.lst pcs):=s7 _ _ (λy=>by rw[<-y,ep6]at edi;cases edi) ep6;have ep8:=s8 _ _ ep7;have gr8:=gr7.ag s8;have la:=(CJ wp6').1;have ly:=(CJ w8).1;show⟨tp,D,pcs,ys,rfl,rfl,ep8,eD,by(first|lia|omega),?_⟩;have tp9:Bk H8 (AM H8 tp (.lst (pcs++ys))):=(Gg H8).gy ep8 λxs=>by intro y;cases y
        have gr9:=gr8.fh (q:=(.=tp)) (H':=AM H8 tp (.lst (pcs++ys))) zzu (λb hb=>.inl ⟨by rw[hb];show .head _,pcs,by rw[hb];show ep8⟩) (λk hk y=>by obtain⟨_,_,_,gg'⟩:=gr8.js k hk;have:=gg'.ar.ah;rw[y,ep8]at this;cases this) ntg.symm;have keep:∀{b:AB}{o:BW},b≠tp->b≠(F.gd i).d->H6' b=AA o->(AM H8 tp (.lst (pcs++ys))) b=AA o:=λ{b o}nt nb e=>by rw[AV nt];show s8 _ _ (s7 _ _ nb (g6 _ _ e))
        have tpw:Bk H6' (AM H8 tp (.lst (pcs++ys))):=λb xs e=>tp9 _ _ (s8 _ _ (s7.tp edi nofun _ _ (g6 _ _ e)));show⟨_,_,pcs++ys,ps++(gg i z).map (λy=>(i,y)),rfl,keep ntg.symm (hb.ba.jy i hi) ed6',λb o nb e=>keep (λy=>nb (.inl y)) (λy=>nb (.inr ⟨i,hi,y⟩)) (s6' b o nb e),(gr9.qk λt O=>?_).afi λt O=>?_,AY,D7 (ES (λO O h=>?_) wp6') (To (ES (λO O h=>?_) w8)),λx hx=>?_,λt=>?_,?_⟩
        . by_cases q:t=i;.rw[AE0 ((tk t).mpr (.inr q)),AE0 q,q]
          . rw[AEz q];by_cases y:(.inl (t:Int):AN)∈(F.ff.take n).map (·.1);.rw[AE0 y,AE0 ((tk t).mpr (.inl y))]
            .rw[AEz y,AEz λh=>((tk t).mp h).elim y q]
        . by_cases q:t=i;.rw[AE0 ((tk t).mpr (.inr q)),AE0 q,q]
          . rw[AEz q];by_cases y:(.inl (t:Int):AN)∈(F.ff.take n).map (·.1);.rw[AE0 y,AE0 ((tk t).mpr (.inl y))]
            .rw[AEz y,AEz λh=>((tk t).mp h).elim y q]
        . obtain⟨a,q,e,e1,e2⟩:_:=h;show⟨a,q,e,tpw _ _ e1,tpw _ _ e2⟩
        . obtain⟨a,t,e,e1,q,rfl,e2⟩:_:=h;show⟨a,q,e,tp9 _ _ e1,tp9 _ _ (s8 _ _ e2)⟩
        . rcases Ce.mp hx with h|h;.show jp6 x h
          . obtain⟨y,_,rfl⟩:_:=Ay.mp h;show hi
        . rw[lY,lZ,pp6];by_cases q:t=i
          . rw[AE0 q,q,AEz new,AE0 ((tk i).mpr (.inr rfl))];rfl
          . rw[AEz q,Dw];by_cases y:(.inl (t:Int):AN)∈(F.ff.take n).map (·.1);.rw[AE0 y,AE0 ((tk t).mpr (.inl y))]
            .rw[AEz y,AEz λh=>((tk t).mp h).elim y q]
        . rw[Bx,Aq];(first|lia|omega)
      . obtain⟨o3,o8,pcs,ps,rfl,ed6,s6,gr6,ep6,wp6,jp6,pp6,lp6⟩:_:=hI;rw[Py]at gr6 pp6;have inn:∀{t:Nat},t∈Am ss->(.inl (t:Int):AN)∈F.ff.map (·.1):=λ{t}ht=>by obtain⟨_,_,v,_⟩:=hb.ba.js t ht;show Ay.mpr ⟨_,GS v,rfl⟩
        show⟨o,_,ed6,z4 _ _ ?_⟩;have ne7:∀b,b≠F.dg->(AM H6 F.dg (.dK F.ff)) b=H6 b:=λb nb=>AV nb;have gr7:=((gr6.mh (.inl AY) ne7).iw.qk (gg':=λt=>ER (gg t) z []) λt ht=>(AE0 (inn ht)).symm).afi (gk':=λt=>Cb (gk t) (.inr z)) λt ht=>(AE0 (inn ht)).symm;have ep7:(AM H6 F.dg (.dK F.ff)) tp=AA (.lst pcs):=by rw[ne7 _ ntg];show ep6
        have tp7:Bk H6 (AM H6 F.dg (.dK F.ff)):=λb xs e=>by rw[ne7 b λy=>by rw[y,ed6]at e;cases e];show e
        have wp7:BJ (Qh (AM H6 F.dg (.dK F.ff))) pcs ps:=ES (λO O h=>by obtain⟨a,q,e,e1,e2⟩:=h;show⟨a,q,e,tp7 _ _ e1,tp7 _ _ e2⟩) wp6;have s7:Bq (λb=>∃i∈Am ss,b=(F.gd i).d) H3 (AM H6 F.dg (.dK F.ff)):=λb ob nb e=>by
          have e4:=s4 _ _ e;by_cases q:b=F.dg
          . rw[q,eg4]at e4;cases e4;rw[q];show AY
          . rw[ne7 b q];show s6 b ob (λy=>y.elim (λy=>by rw[y,htp]at e;cases e) nb) (by rw[ne5 b q];show e4)
        generalize AM H6 F.dg (.dK F.ff)=H7 at gr7 ep7 wp7 s7⊢;have dg3:∀i∈Am ss,∃kvs,H3 (F.gd i).d=AA (.dK kvs):=λi hi=>by obtain⟨_,_,_,g⟩:=gr3.js i hi;show⟨_,g.ar.ah⟩
        have jr7:=jr3.iw.fh s7 (λb hb=>by obtain⟨i,hi,e⟩:=hb;rw[e];show .inr (dg3 i hi)) (λb hq hd=>by obtain⟨i,hi,e⟩:=hq;show(hb.rj i hi).1 (e▸hd)) λhq=>by obtain⟨i,hi,e⟩:=hq;show(hb.rj i hi).2 e
        have tp37:Bk H3 H7:=λb xs e=>s7 b _ (λhq=>by obtain⟨i,hi,q⟩:=hq;obtain⟨kvs,e'⟩:=dg3 i hi;rw[q,e']at e;cases e) e;have et7:H7 tl=AA (.lst acc):=s7 _ _ (λhq=>by obtain⟨i,hi,q⟩:=hq;obtain⟨kvs,e'⟩:=dg3 i hi;rw[<-q,et3]at e';cases e') et3;have sw:Bq (FW ss F) H H7:=λb ob nb e=>s7 _ _ (λy=>nb (.inr y)) (s3 _ _ (λy=>nb (.inl y)) e);have hb7:=hb.vv sw jr7 gr7;show⟨(by decide:2<=sizeLine),λp hp=>?_⟩;show BK hp λH8 s8 ep8=>?_;have p0:H p=AG:=by cases q:H p with |none=>rfl|some ob=>
            by_cases y:FW ss F p
            . rcases y with y|⟨i,hi,y⟩
              . obtain⟨kvs,e⟩:=jr7.rl y;rw[hp]at e;cases e
              . obtain⟨_,_,_,g⟩:=gr7.js i hi;have:=g.ar.ah;rw[<-y,hp]at this;cases this
            . rw[sw p ob y q]at hp;cases hp
        show k H8 p tl tp acc pcs its ps (λb ob nb e=>s8 _ _ (sw b ob nb e)) (hb7.ag s8) p0 ep8 (s8 _ _ et7) (s8 _ _ ep7) (ES (λO O h=>?_) wi3) (ES (λO O h=>?_) wp7) ji2 jp6 (λt ht m hm=>?_) (λt ht=>(pp6 t).trans (AE0 (inn ht))) (Ag lp6 (Nat.mul_le_mul_left 3000 hb.ot));. obtain⟨a,e,e'⟩:_:=h;show⟨a,e,s8 _ _ (tp37 _ _ e')⟩
        . obtain⟨a,q,e,e1,e2⟩:_:=h;show⟨a,q,e,s8 _ _ e1,s8 _ _ e2⟩
        . show(pm2 t m hm).trans (LF (AE0 ?_));obtain⟨_,_,_,_,et⟩:_:=ht;show Ay.mpr ⟨_,GS (hb.bo.fw t _ _ _ _ et).1,rfl⟩
def Ki(ss:List AU)(X:CN)(b:AB):Prop:=b=X.dm\/Tn ss X b
theorem iI(h:Jw ss n W kvs):kvs.length<=n:=by
 have:=NQ (m:=(FZ n).map λi:Nat=>(C3 (i:Int))) h.nd λk J=>?_;.rwa[Aq,Aq,OI]at this
 . lk;obtain⟨p,U,rfl⟩:=Ay.mp J;obtain⟨i,D,_,rfl⟩:=h.yy p U;k_in;show Ay.mpr ⟨i,VQ.mpr D,rfl⟩
theorem mO(h:CG z (L (EW ss t))=[]):CT ss now L t z=[]:=by have e:=T1 (ss:=ss) (now:=now) (F:=λi=>L _) (G:=λO=>[]) h;rw[show CT ss _ L t z=_ from e];show congrFun (Q3 ss _ t) z
theorem Et.uy(h:Et AI ex H ss F sd (CT ss now L) gk)(Y:t∈Am ss):(gk t).length<=(L (EW ss t)).length:=by
 obtain⟨_,_,_,g⟩:_:=h.ba.js t Y;have:=NQ (m:=(L (EW ss t)).map λi=>(Bj i.2.1:AN)) g.ar.nd λk V=>?_;.rwa[Aq,Aq]at this
 . lk;obtain⟨p,W,rfl⟩:=Ay.mp V;obtain⟨D,r,z,rfl,_,_,J,Z⟩:=g.ar.ri p W;k_in;cases e:CG D (L (EW ss t))with |nil=> rw[mO e]at J;cases J;show absurd rfl Z|cons i l=>
  have U:i∈CG D (L (EW ss t)):=by rw[e];show .head _
  obtain⟨a,b⟩:=D1.mp U;show Ay.mpr ⟨i,a,AE2 Bj (AE4 b)⟩
theorem Cy.aeo(h:Cy AI ex H ss X Z now J sd Y gk)(s:BM X.dm H H')(e:H' X.dm=AA (.dK (DE (X.ie z j)))):Cy AI ex H' ss (X.ie z j) Z now J sd Y gk:=by have V:∀{b:AB}{o:BW},H b=AA o->(∀D,o≠.dK D)->H' b=AA o:=λ{b o}e n=>s _ _ (λy=>by rw[y,h.gh]at e;show n _ (By e).symm) e;lk;obtain⟨B,ex⟩:=h.au;obtain⟨A,C⟩:=h.cn;k_in;show⟨⟨B,V ex nofun⟩,⟨A,V C nofun⟩,V h.bz nofun,e,λi G W=>(h.bx i G W).aat (p:=(.=X.dm)) s (λb U=>by rw[U];show⟨_,h.gh⟩) (λb U=>by rw[U];show h.aaf i G W),h.bh,h.aaf⟩
theorem iS(D:JY ss evs)(J:C4 ss){t:Nat}{wi:Int}(U:ss[t]?=AA (.join n a b wi))(X:CN)(i:Nat)(V:Int):(BO V (Bz ss X evs i a)).length<=600/\(BO V (Bz ss X evs i b)).length<=600:=by lk;obtain⟨i1,s1,Z,W,rfl,t1⟩:=J.oq t _ a U (.head _);obtain⟨i2,s2,z,Y,rfl,t2⟩:=J.oq t _ b U (.tail _ (.head _));k_in;show⟨Ag (Kp _ _) (D _ i1 s1 W t1).1,Ag (Kp _ _) (D _ i2 s2 Y t2).1⟩
def Te(z:AF)(sd:CA):CA:=λt=>(Eu z (sd t).1,Eu z (sd t).2)
def Qy(z:AF)(sd:Nat->CA)(D j:Nat)(its:List G9):Nat->CA:=CU (CU sd D (Te z (sd D))) j (Iw z (CU sd D (Te z (sd D)) j) its)
theorem YM(z:AF)(sd:Nat->CA)(D:Nat)(J:m<2)(i t:Nat):C8 m (CU sd D (Te z (sd D)) i t)=if i=D then Eu z (C8 m (sd i t))else C8 m (sd i t):=by
 unfold CU;by_cases q:i=D
 . subst q;rw[AE0 rfl,AE0 rfl];rcases SE.mp (Dc J)with rfl|rfl<;>rfl
 .rw[AEz q,AEz q]
theorem i9(U:0<X.hs.length)(V:j<X.hs.length)(D:m<2)(W:∀x∈its,x.2.1<2)(h:∀i,i<X.hs.length->(C8 m (sd i t)).Perm (BO J (Bz ss X evs i a)))(Y:(I0 z its t m).Perm (CG z (C8 m (sd (CI X z) t))))(hi:i<X.hs.length):(C8 m (Qy z sd (CI X z) j its i t)).Perm (BO J (Bz ss (X.ie z j) evs i a)):=by
 show Rz ?_ (jB U V h hi);unfold Qy;by_cases q:i=j
 . subst q;rw[show CU _ i _ i=Iw z _ _ from AE0 rfl,Qk z _ D t _ _ rfl W,YM z sd _ D,AE0 rfl];show bH _ Y
 .rw[show CU _ j _ i=CU sd _ _ i from AEz q,YM z sd _ D,AEz q,Dw]
def XG(z:AF)(D:Nat->ED)(J j:Nat)(ps:List (Nat×AX)):Nat->ED:=CU (CU D J λt=>ER (D J t) z []) j λt=>ER (CU D J (λt=>ER (D J t) z []) j t) z (Ew ps t)
theorem TR(z y:AF)(t i:Nat):CU (λi=>CT ss now (Bz ss X evs i)) (CI X z) (λt=>ER (CT ss now (Bz ss X evs (CI X z)) t) z []) i t y=if y=z then[]else CT ss now (Bz ss X evs i) t y:=by
    unfold CU;by_cases q:i=CI X z
    . rw[AE0 q,q];rfl
    . rw[AEz q];by_cases r:y=z
      . rw[AE0 r,r];show KG (AE3 (DJ q)) _ t
      .rw[AEz r]
theorem i8(D:0<X.hs.length)(J:j<X.hs.length)(U:Ew ps t=CT ss now (Bz ss X evs (CI X z)) t z)(i:Nat):CT ss now (Bz ss (X.ie z j) evs i) t=XG z (λi=>CT ss now (Bz ss X evs i)) (CI X z) j ps i t:=by
    funext y;rw[jA D J];unfold XG;by_cases q:i=j
    . subst q;rw[AE0 rfl,show CU (CU (λi=>CT ss now (Bz ss X evs i)) (CI X z) λt=>ER (CT ss now (Bz ss X evs (CI X z)) t) z []) i _ i=_ from AE0 rfl];by_cases r:y=z
      . rw[AE0 r,r,J8];show U.symm
      .rw[AEz r,HZ r,TR,AEz r]
    .rw[AEz q,show CU (CU (λi=>CT ss now (Bz ss X evs i)) (CI X z) λt=>ER (CT ss now (Bz ss X evs (CI X z)) t) z []) j _ i=_ from AEz q,TR]
theorem YN(U:G8 AI H ss X W now D sd gk evs)(J:ss[t]?=AA (.join n a b wi))(V:m<2)(hi:i<X.hs.length):(C8 m (sd i t)).Perm (BO (now-wi) (Bz ss X evs i (if m=0 then a else b))):=by
 have:=U.av i hi t n a b wi J;rcases SE.mp (Dc V)with rfl|rfl;.show this.1
 .show this.2
theorem W5(D:JY ss evs)(J:C4 ss){t:Nat}{wi:Int}(V:ss[t]?=AA (.join n a b wi))(X:CN)(i m:Nat)(U:Int):(BO U (Bz ss X evs i (if m=0 then a else b))).length<=600:=by
 have:=iS D J V X i U;split;.show this.1
 .show this.2
theorem mP(W:G8 AI H ss X Z now D sd gk evs)(J:JY ss evs)(U:C4 ss)(V:ss[t]?=AA (.join n a b wi))(Y:m<2)(hi:i<X.hs.length):(C8 m (sd i t)).length<=600:=by rw[(YN W V Y hi).length_eq];show W5 J U V X i m _
theorem Et.ace(h:Et AI ex H ss F sd D gk)(V:t∈Am ss)(e:D t z=[]):BQ (gk t) (.inr z)=AG:=by obtain⟨_,_,_,g⟩:_:=h.ba.js t V;cases q:BQ (gk t) _ with|none=>rfl|some v=>obtain⟨W,r,Z,U,_,_,J,Y⟩:=g.ar.ri _ (GS q);cases U;rw[e]at J;cases J;show absurd rfl Y
def oB(A:Br):BF:=λF H Q O=>(MO λ(J:List AU)(X:CN)(B V U:Int)(E:Nat->CA)(C:Nat->CS)(D:List Bd)(z:AF)(j:Nat)=>MK (F=[.ref X.x,.str z,.int (j:Int)]) (G8 A H J X B V U E C D) (C4 J) (J.length<=8) (0<X.hs.length) (X.hs.length<=8) (Cu z) (j<X.hs.length) (JY J D) (X.hm.length<=100) (∀W Z Y,Bq (Ki J X) H W->G8 A W J (X.ie z j) B V U Z Y D->Q .non W))
theorem kL(T:BL AJ Af AI):T.qw.Ok BC P w Af base 5 (oB AI):=by
    show T.qw.ok λnd O O O O O hr H vs Q E h=>?_;obtain⟨ss,X,sl,now,cnt,sd,gk,evs,z,j,rfl,hR,pok,lss,m0,m8,az,hj,lim,lhm,k⟩:_:=h;show⟨_,(Ai (Aw 3 nd (EX (DR AJ (BP (AD 0) rfl) (EX (AD 0) T.ao (Ti T) hr #v[AD 1])) T.bw (j7 T) hr #v[AD 1])) (Ai (KP hr.u1 (BP (AD 0) rfl) (AD 1) (AD 2) rfl) (Ab (D8 (EX (DR AJ (BP (AD 0) rfl) (AD 2)) T.bw (k9 T) hr #v[AD 1,AD 3]))))),?_⟩;obtain⟨dx,ex⟩:=hR.af.au;have ih:=Ld m0 z;have ei:=Ck ih;generalize X.hs[CI X z]=F at ei;have ej:=Ck hj;generalize X.hs[j]=F' at ej;show⟨_,⟨ex,T.ao,T.ax,rfl⟩,X.x,dx,_,rfl,ex,by rfl,X,dx,z,rfl,ex,hR.af.bz,hR.af.gh,az,m0,m8,λHa sa=>?_⟩;have hba:=hR.af.ag sa;have hh:=hba.bx _ F ei;obtain⟨dxh,eh⟩:=hh.au;show⟨_,_,Ac hba.bz,Ap (by rw[Bt,ei];rfl),F.x,dxh,_,rfl,eh,by rfl,ss,F,sd (CI X z),_,gk (CI X z),z,rfl,hh,lss,Ag (iI hh.xg) lss,λt ht m hm=>?_,λt ht=>(lim.qk pok _ now ht z).2,λH1 p a b xs ys its ps s1 h1 p0 ep ea eb wi wp ji tp pm pp lp=>?_⟩
    . obtain⟨nn,a,b,wi,et⟩:_:=ht;show Ag (mP hR lim pok et hm ih) (by decide)
    have hb1:=hba.ie ei s1 h1;obtain⟨dx1,ex1⟩:=hb1.au;have hK:=TV (X:=X) (z:=z) hj;have lhK:(DE X).length=X.hm.length:=Aq _;show⟨_,⟨ex1,T.ao,T.gu,rfl⟩,X.dm,_,rfl,.k (k:=.inr z) hb1.gh (by rw[Dj];(first|lia|omega)),?_⟩;rw[<-hK];have sx:BM X.dm H1 (AM H1 X.dm (.dK (DE (X.ie z j)))):=zzu
    have hb2:=hb1.aeo (z:=z) (j:=j) sx AY;have kp:∀{b:AB}{o:BW},H1 b=AA o->(∀kvs,o≠.dK kvs)->(AM H1 X.dm (.dK (DE (X.ie z j)))) b=AA o:=λ{b o}e n=>sx _ _ (λy=>by rw[y,hb1.gh]at e;show n _ (By e).symm) e;lk;obtain⟨dx2,ex2⟩:=hb2.au;have hh2:=hb2.bx j F' ej;obtain⟨dx3,eh2⟩:=hh2.au;k_in;have mvd:=λ{t:Nat}{n a b:AF}{wi:Int}(et){m:Nat}(hm:m<2){i:Nat}(hi:i<X.hs.length)=>i9 (its:=its) m0 hj hm (λx hx=>(ji x hx).2) (λi hi=>YN hR et hm hi) (pm t ⟨n,a,b,wi,et⟩ m hm) hi;show⟨_,⟨ex2,T.ao,T.ax,rfl⟩,_,_,Ac hb2.bz,Ap (by rw[Bt,ej];rfl),F'.x,dx3,_,rfl,eh2,by rfl,[],ss,F',_,_,_,z,p,a,b,xs,ys,its,ps,rfl,hh2,(λc hc=>by cases hc),kp ep nofun,kp ea nofun,kp eb nofun,ES (λO O h=>?_) wi,ES (λO O h=>?_) wp,ji,tp,λt ht=>⟨hh2.ace ht (by rw[TR,AE0 rfl]),?_⟩,λt ht m hm=>?_,by(first|lia|omega),λH3 R s3 h3 O=>?_⟩
    . obtain⟨a,e,e'⟩:_:=h;show⟨a,e,kp e' nofun⟩
    . obtain⟨a,q,e,e',e2⟩:_:=h;show⟨a,q,e,kp e' nofun,kp e2 nofun⟩
    . have l0:=λi hi=>Ag (hR.uy i hi t ht) (lim.abf pok _ ht).1;unfold CU;split;.show FR (Ag (FY _ _) (l0 _ ih)) (by decide)
      .show FR (l0 j hj) (by decide)
    . obtain⟨n,a,b,wi,et⟩:_:=ht;have e:=(mvd et hm hj).length_eq;rw[show Qy z sd (CI X z) j its j=Iw z _ its from AE0 rfl,Qk z _ hm t _ its rfl λx hx=>(ji x hx).2,Bx]at e;show Ag (Bi e) (Ag (W5 lim pok et (X.ie z j) j m _) (by decide))
    . have hb3:=(hb2.ie ej s3 h3).qk λi O t ht=>i8 m0 hj (pp t ht) i;show k H3 (Qy z sd (CI X z) j its) _ (λb o nb e=>s3 _ _ (λy=>nb (.inr ⟨j,F',ej,y⟩)) (sx _ _ (λy=>nb (.inl y)) (s1 _ _ (λy=>nb (.inr ⟨_,F,ei,y⟩)) (sa _ _ e)))) ⟨hb3,λi hi t ht=>(hb3.bx i _ (Ck hi)).uy ht,λi hi t n a b wi et=>⟨mvd et (by decide:0<2) hi,mvd et (by decide:1<2) hi⟩⟩
def X1(c:Bool):EF:=λx y H Q=>(EB λ(a b:AB)(D:List (AN×AE))=>Im (x=.ref a) (y=.ref b) (H a=AA (.dK D)) (H b=AA (.dK D)) ((∀q∈D,BQ D q.1=AA q.2/\∃n,q.2=.int n)) (Q (.bl c) H))
theorem YF{A:DV}{s:AZ}{kb:List (AN×AE)}{vb:List (AN×AL)}(rb:Ey kb vb){ka:List (AN×AE)}{va:List (AN×AL)}(ra:Ey ka va)(hq:∀q∈ka,BQ kb q.1=AA q.2/\∃n,q.2=.int n):W.KeqHits A s vb va AK:=by induction ra with |nil=>show .nil|@cons p pv _ _ hr t ih=>
 lk;obtain⟨k,v⟩:=p;obtain⟨k',u⟩:=pv;obtain⟨e1,ru⟩:=hr;k_in;have e1:k=k':=e1;subst e1;obtain⟨hv,n,e⟩:_:=hq _ (.head _);have hv:BQ kb k=AA v:=hv;have e:v=.int n:=e;subst e;have ro:=rb.zw k;rw[hv]at ro;lk;obtain⟨u',hu',ru'⟩:∃u',Gp vb k=AA u'/\Be (.int n) u':=by cases h:Gp vb k with|none=>rw[h]at ro;cases ro|some u'=>rw[h]at ro;show⟨u',rfl,ro⟩
 obtain⟨t1,rfl⟩:=ru;obtain⟨t2,rfl⟩:=ru';k_in;have he:=W.keq_flat (A:=A) (s:=s) (ACT n t1) (ACT n t2);rw[AC3 _ rfl]at he;show AEu (e:=AK) (b:=AK) hu' he (ih λq hm=>hq q (.tail _ hm))
section
variable{s:AU}{X:Bp}
unseal CP in theorem lH(hu0:X.A.units<GV):CP X (Ej .Eq) (X1 AK):=by intro pins s σ H x y v u Q I rx ry h;lk;obtain⟨a,b,ka,rfl,rfl,ea,eb,hq,q⟩:=h;cases rx;cases ry;obtain⟨_,la,va,ra,da⟩:=Jf I.cq ea;obtain⟨_,lb,vb,rb,db⟩:=Jf I.cq eb;k_in;have l1:=ra.aq;have l2:=rb.aq;show W.keq_eq la lb da db hu0 (λ_=>YF rb ra hq) ⟨.bl AK,H,I,?_,q⟩;rw[<-l1,<-l2,AFD];rfl
end
section
variable{s:AU}{X:Bp}
unseal CP in theorem lI(hu0:X.A.units<GV):CP X (Ej .NotEq) (X1 AR):=by intro pins s σ H x y v u Q I rx ry h;lk;obtain⟨a,b,ka,rfl,rfl,ea,eb,hq,q⟩:=h;cases rx;cases ry;obtain⟨_,la,va,ra,da⟩:=Jf I.cq ea;obtain⟨_,lb,vb,rb,db⟩:=Jf I.cq eb;k_in;have l1:=ra.aq;have l2:=rb.aq;show W.keq_ne la lb da db hu0 (λ_=>YF rb ra hq) ⟨_,H,I,?_,q⟩;rw[<-l1,<-l2,AFD];rfl
end
abbrev CN.to(X:CN)(D:List (AF×Nat)):CN:={X with hm:=D}
def oC(E:Br):BF:=λM H Q O=>(V7 λ(J:List AU)(X:CN)(I W U:Int)(L:Nat->CA)(K:Nat->CS)(D:List Bd)(dl l:AB)(A:List AF)(F:Int)=>V5 (M=[.ref X.x,.ref dl,.ref l,.int F]) (G8 E H J X I W U L K D) (C4 J) (J.length<=8) (0<X.hs.length) (X.hs.length<=8) (JY J D) (H dl=AA (.dK (DE X))) (((DE X).map (·.1)).Nodup) (X.hm.length<=60) (H l=AA (.lst (A.map AE.str))) (0<A.length) (A.length<=12) ((∀z∈A,Cu z)) (0<=F) ((dl≠X.dm/\∀(i:Nat)G,X.hs[i]?=AA G->¬FW J G dl/\dl≠G.dj/\dl≠G.dg)) (∀Y Z C B,Bq (λb=>b=dl\/Ki J X b) H Y->G8 E Y J (X.to Z) I W U C B D->Y dl=AA (.dK (DE (X.to Z)))->((DE (X.to Z)).map (·.1)).Nodup->Z.length<=X.hm.length+2->Q (.bl AK) Y))
theorem Cy.afh(h:Cy AI ex H ss X V now D sd U gk)(y:Ki ss X b):∃kvs,H b=AA (.dK kvs):=by
 rcases y with y|⟨i,G,J,y⟩;.show⟨_,by rw[y];show h.gh⟩
 .show(h.bx i G J).zp y
theorem mC(D:List (AF×Nat))(z:AF)(j:Nat):(NS D z j).length<=D.length+1:=by
 unfold NS;split;.rw[Aq];show P0 _
 .rw[Bx];show Aj _
theorem qI{kvs:List (AN×AE)}(h:(kvs.map (·.1)).Nodup)(D:q∈kvs):BQ kvs q.1=AA q.2:=by induction kvs with |nil=>cases D|cons p r W=>
 obtain⟨J,U⟩:=JP.mp h;rcases CZ.mp D with rfl|D;.show IV rfl
 . rw[IU λe=>J (Ay.mpr ⟨q,D,e.symm⟩)];show W U D
theorem iE(h:((DE X).map (·.1)).Nodup):∀q∈DE X,BQ (DE X) q.1=AA q.2/\∃n,q.2=.int n:=λq D=>by show⟨qI h D,?_⟩;obtain⟨p,_,rfl⟩:_:=Ay.mp D;show⟨_,rfl⟩
theorem Xa(T:BL AJ Af AI):T.qf.Ok BC P w Af base 6 (oC AI):=by
    show T.qf.ok λq _ _ _ _ _ R H vs Q E h=>?_;obtain⟨ss,X,sl,now,cnt,sd,gk,evs,dl,l,zs,U,rfl,hR,pok,lss,m0,m8,lim,edl,ndk,lhm,x,z0,z12,az,n0,r,k⟩:_:=h;show⟨_,(Ai (Aw 4 q (DR AJ (AD 2) (AW Bu (AW Ci (AD 3) AQ) (DI (F4 (K:=AJ)) (by rfl) T.gw F8 #v[AD 2])))) (C6 (DB DK rfl (N8 (by rfl) T.jo #v[AW C5 AQ (AW Bu (AW Ci (AD 3) AQ) AQ)]) (Cc 5 q) (Ai (Aw 6 q (AW Bu (AW C5 (AW Ci (AD 3) AQ) (AW FK AQ (AD 5))) (DI (F4 (K:=AJ)) (by rfl) T.gw F8 #v[BP (AD 0) rfl]))) (Ai (CF (Bw uR (EX (AD 0) T.ao (kL T) R #v[AD 4,AD 6]) N7 (Bs _)) (Ab (BD F5)) Cd) (Ab (KP R.u1 (AD 1) (AD 4) (AD 6) rfl))))) (C6 (CF (Kz (N9 (Bw DH (AW Bu (AW Ci (AD 3) AQ) AQ) AQ (Bs _)) (OA (Bw (lI R.xu) (BP (AD 0) rfl) (AD 1) (Bs _))))) (Ab (BD F5)) Cd) (C6 (Aw 7 q (IS (Ll (K:=AJ)) (by rfl) T.jg KY #v[AD 2])) (Ai (Gj (CF (Bw DH (AW Bu (AW Ci (AD 3) AQ) AQ) AQ (Bs _)) (Ab (D8 (uY (K:=AJ) MF ACn F.type_list_reverse t9 (AD 7)))) Cd)) (C6 (DB DK rfl (DA (K:=AJ) (AD 7)) (Cc 8 q) (Ai (Aw 9 q (BE (XU T) R #v[AD 8,(DI (F4 (K:=AJ)) (by rfl) T.gw F8 #v[BP (AD 0) rfl])])) (Ai (Gj (CF (Z0 (Zq R.u1 (AD 8) (AD 1))) (Ab (Aw 9 q (Fm R.u1 (AD 1) (AD 8) (λ_ _=>rfl)))) Cd)) (Ab (CF (Bw Zm (EX (AD 0) T.ao (Ti T) R #v[AD 8]) (AD 9) (Bs _)) (Ab (BD F5)) Cd))))) (Ab (BD (Mp (lH R.xu) (BP (AD 0) rfl) (AD 1) (Bs _)))))))))),?_⟩;have sz:Az=16777216:=Dj;lk;obtain⟨v,hv,hmv⟩:=Hj (zs.map AE.str) zs.length (by rw[Aq]) (by(first|lia|omega)) (U/3);obtain⟨z,mz,rfl⟩:=Ay.mp hmv;k_in;show⟨(zzd rfl),_,.inl (Ac x),?_⟩;rw[Aq];show⟨by(first|lia|omega),_,_,Ac x,hv,?_⟩;have nV:∀{D},¬Ki ss (X.to D) dl:=λ{D}y=>by
      rcases y with y|⟨i,G,eg,y⟩;.show r.1 y
      .show(r.2 i G eg).1 y
    have nVl:∀{b:AB}{xs:List AE},H b=AA (.lst xs)->¬Ki ss X b:=λ{b xs}e y=>by obtain⟨kv,e'⟩:=hR.af.afh y;rw[e']at e;cases e
    have r2:0<=U/30%2/\U/30%2<2:=⟨Fu _ (by decide),Gr _ (by decide)⟩;showλ_ _ _ _ z1=>⟨(zzd rfl),(zzp rfl),_,rfl,by(first|lia|omega),by(first|lia|omega),Nv (λn S Y=>(IF λ(o5 o6:Option AE)(D:List (AF×Nat))(sd':Nat->CA)(gk':Nat->CS)=>Im (S=(Qi X.x dl l U z o5 o6 AG AG AG)) (Bq (λb=>b=dl\/Ki ss X b) H Y) (G8 AI Y ss (X.to D) sl now cnt sd' gk' evs) (Y dl=AA (.dK (DE (X.to D)))) (((DE (X.to D)).map (·.1)).Nodup) (D.length<=X.hm.length+n))) ⟨AG,AG,X.hm,sd,gk,rfl,λ_ _ _ e=>e,hR,edl,ndk,Aj _⟩ (λn S H1 hn C=>?_) λS H1 C=>?_⟩
    . lk;obtain⟨o5,o6,D,u,d,rfl,s1,J,Z,M,ln1⟩:=C;obtain⟨dx1,L⟩:=J.af.au;k_in;show⟨(zzd rfl),.inl ⟨by decide,by decide⟩,_,⟨L,T.ao,T.ax,rfl⟩,_,.inl (Ac J.af.bz),?_⟩;rw[Aq];have F:(0:Int)<(X.hs.length:Nat):=by(first|lia|omega)
      show⟨F,?_⟩;obtain⟨j,ej⟩:=AA8 (Fu (U/60+3*(0+(n:Int))) (JW F));have hj:j<X.hs.length:=by have:=Gr (U/60+3*(0+(n:Int))) F;(first|lia|omega)
      change Gy 6 (AE.int ((U/60+3*(0+(n:Int)))%((X.hs.length:Nat):Int))) _ _ _;rw[ej];show⟨X.x,dx1,_,rfl,L,by rfl,ss,X.to D,sl,now,cnt,u,d,evs,z,j,rfl,J,pok,lss,m0,m8,az z mz,hj,lim,(by change D.length<=100;(first|lia|omega)),λH2 sd2 gk2 s2 f=>⟨rfl,_,rfl,?_⟩⟩;rw[AE1 rfl];have ed2:=s2 _ _ nV Z;have hK:=TV (X:=X.to D) (z:=z) hj;have lK:(DE (X.to D)).length=D.length:=Aq _;show EY ⟨dl,_,rfl,.k (k:=.inr z) ed2 (by(first|lia|omega)),?_⟩;rw[<-hK];have sx:BM dl H2 (AM H2 dl (.dK (DE ((X.to D).ie z j)))):=zzu
      show⟨_,_,NS D z j,sd2,gk2,rfl,λb o U e=>sx _ _ (λy=>U (.inl y)) (s2 _ _ (λy=>U (.inr y)) (s1 _ _ U e)),⟨f.af.aat (p:=(.=dl)) sx (λb hb=>by rw[hb];show⟨_,ed2⟩) (λb hb=>by rw[hb];show r),f.uy,f.av⟩,AY,?_,Ag (mC _ _ _) (Vc ln1)⟩;change((DE ((X.to D).ie z j)).map (·.1)).Nodup;rw[hK];show Mo M
    . lk;obtain⟨o5,o6,D,u,d,rfl,s1,J,Z,M,ln1⟩:=C;have all:=iE M;obtain⟨dx1,L⟩:=J.af.au;k_in;have el1:=s1 _ _ (λy=>y.elim (λy=>by rw[y,edl]at x;cases x) λy=>nVl x y) x;show z1 _ _ λ_ _ _ _ z2=>(λg=>⟨(zzd rfl),(zzp rfl),rfl,_,rfl,EG (λ_=>⟨_,⟨L,T.ao,T.gu,rfl⟩,X.dm,dl,_,rfl,rfl,J.af.gh,Z,all,_,rfl,EY g⟩) λ_=>EY g⟩) (z2 _ _ ?_);showλ_ _ _ _ z3=>⟨l,_,rfl,.inl (Ac el1),λm hlo=>z3 _ _ ?_⟩;show BK hlo λH2 s2 c=>?_;show Gh (λI Y=>∃ws:List AF,I=(Qi X.x dl l U z o5 o6 (AA (.ref m)) AG AG)/\BM m H2 Y/\Y m=AA (.lst (ws.map AE.str))/\∀w∈ws,Cu w) ?_ λI H3 C=>?_;. show⟨(zzd rfl),(zzp rfl),rfl,_,rfl,EG (λ_=>⟨.inl ⟨rfl,_,Ac c⟩,m,_,rfl,rfl,c,zs.reverse,rfl,zzu,?_,λw hw=>az w (yS.mp hw)⟩) λ_=>⟨zs,rfl,λ_ _ _ e=>e,c,az⟩⟩;rw[AY,List.map_reverse]
      obtain⟨ws,rfl,s3,O,aw⟩:_:=C;have s:An H1 H3:=λb o e=>s3 _ _ (λy=>by rw[y,hlo]at e;cases e) (s2 _ _ e);have F:(0:Int)<(X.hs.length:Nat):=by(first|lia|omega)
      showλ_ _ _ _ z5=>⟨m,rfl,⟨_,Ac O⟩,GP (K:=AJ) (xs:=ws.map AE.str) (λn S Y=>∃o8 o9:Option AE,S=(Qi X.x dl l U z o5 o6 (AA (.ref m)) o8 o9)/\An H3 Y) ⟨AG,AG,rfl,CQ _⟩ (λn S Y _ hh=>?_) (λn y S H4 hy C=>?_) λS H4 C=>?_⟩
      . obtain⟨_,_,_,s'⟩:_:=hh;show Ac (s' _ _ O)
      . lk;obtain⟨o8,o9,rfl,s4⟩:=C;rw[Bt]at hy;obtain⟨N,hw,rfl⟩:=EA.mp hy;have aw':=aw N (Cm hw);have W:=J.af.ag (s.aa s4);have A:=s4 _ _ (s _ _ Z);obtain⟨a,B⟩:=W.au;k_in;show⟨_,⟨B,T.ao,T.ax,rfl⟩,_,.inl (Ac W.bz),?_⟩;rw[Aq];show⟨N,_,rfl,aw',F,?_⟩;have hv:=Ow (X:=X.to D) m0 N;show Gh (λI Y=>Y=H4/\I=(Qi X.x dl l U z o5 o6 (AA (.ref m)) (AA (.str N)) (AA (.int ((CI (X.to D) N:Nat):Int))))) ⟨dl,_,rfl,.inl ⟨_,.inr N,.inl A,rfl,rfl⟩,_,rfl,?_⟩ λI Y C=>?_;.cases e:BQ (DE (X.to D)) (.inr N)with |none=> rw[e]at hv;show EY ⟨rfl,?_⟩;rw[<-hv];rfl|some v=> rw[e]at hv;show Jh ⟨dl,v,rfl,.inl ⟨_,.inr N,.inl A,rfl,e.symm⟩,rfl,?_⟩;rw[<-hv];rfl
        . obtain⟨rfl,rfl⟩:=C;show⟨X.x,a,_,rfl,B,by rfl,X.to D,a,N,rfl,B,W.bz,W.gh,aw',m0,m8,λH5 s5=>⟨rfl,_,rfl,?_⟩⟩;rw[AE1 rfl];show EY ⟨_,_,rfl,s4.aa s5⟩
      . lk;obtain⟨o8,o9,rfl,s4⟩:=C;have t:=s.aa s4;have W:=J.af.ag t;have A:=t _ _ Z;obtain⟨a,B⟩:=W.au;k_in;show z5 _ _ ⟨_,⟨B,T.ao,T.gu,rfl⟩,X.dm,dl,_,rfl,rfl,W.gh,A,all,k H4 D u d (λb o U e=>t _ _ (s1 b o U e)) ⟨W,J.uy,J.av⟩ A M (by(first|lia|omega))⟩
def nT(A:Br):BF:=λC H Q O=>(MP λ(U:List AU)(X:CN)(B J D:Int)(Z:Nat->CA)(W:Nat->ED)(Y:Nat->CS)(dl:AB)=>ID (C=[.ref X.x,.ref dl]) (Cy A [] H U X B J D Z W Y) (U.length<=8) (0<X.hs.length) (X.hs.length<=8) (H dl=AA (.dK (DE X))) ((∀i,i<X.hs.length->Ke U (Z i) (W i) (Y i) λz=>Cu z/\CI X z=i)) (∀V,An H V->Q (.bl AK) V))
theorem j9(T:BL AJ Af AI):T.jh.Ok BC P w Af base 4 (nT AI):=by
    show T.jh.ok λF _ _ _ _ _ L H vs Q E h=>?_;obtain⟨ss,X,sl,now,o,sd,t,u,dl,rfl,S,c,m0,m8,M,hq,k⟩:_:=h;show⟨_,(Ai (Aw 2 F (DI (F4 (K:=AJ)) (by rfl) T.gw F8 #v[BP (AD 0) rfl])) (C6 (DB DK rfl (N8 (by rfl) T.jo #v[AD 2]) (Cc 3 F) (Ab (DB DK rfl (DA (K:=AJ) (BE (kI T) L #v[DR AJ (BP (AD 0) rfl) (AD 3)])) (Cc 4 F) (Ai (Aw 5 F (BE (XU T) L #v[AD 4,AD 2])) (Ai (Gj (CF (Z0 (Zq L.u1 (AD 4) (AD 1))) (Ab (Aw 5 F (Fm L.u1 (AD 1) (AD 4) (λ_ _=>rfl)))) Cd)) (Ab (CF (Bw Zm (AD 5) (AD 3) (Bs _)) (Ab (BD F5)) Cd))))))) (Ab (BD F5)))),?_⟩;obtain⟨p,O⟩:=S.au;show⟨_,⟨O,T.ao,T.ax,rfl⟩,_,.inl (Ac S.bz),?_⟩;rw[Aq];showλ_ _ _ _ z1=>⟨_,rfl,by(first|lia|omega),by(first|lia|omega),Nv (λn J U=>(EB λ(d Y Z:Option AE)=>NK (J=(Sz X.x dl (X.hs.length:Nat) d Y Z)) (An H U))) ⟨AG,AG,AG,rfl,CQ _⟩ (λn J f a D=>?_) λJ f D=>?_⟩
    . obtain⟨d,Y,Z,rfl,s1⟩:_:=D;have W:=S.ag s1;have a:n<X.hs.length:=by(first|lia|omega)
      have N:=Ck a;generalize X.hs[n]=G at N;obtain⟨q,R⟩:=W.au;rw[V2];show⟨_,⟨R,T.ao,T.ax,rfl⟩,_,_,Ac W.bz,Ap (by rw[Bt,N];rfl),ss,G,sd n,t n,u n,_,rfl,W.bx n G N,c,hq n a,λj r zs s2 B b lz2=>⟨r,rfl,⟨_,Ac B⟩,GP (K:=AJ) (xs:=zs.map AE.str) (λm J U=>Lk (λ(Y Z:Option AE)=>J=(Sz X.x dl (X.hs.length:Nat) (AA (.int (n:Int))) Y Z)) (λ_ _=>An j U)) ⟨_,_,rfl,CQ _⟩ (λm J U _ x=>?_) (λm y J g i D=>?_) λJ g D=>?_⟩⟩;. obtain⟨_,_,_,s'⟩:_:=x;show Ac (s' _ _ B)
      . lk;obtain⟨Y,Z,rfl,s3⟩:=D;rw[Bt]at i;obtain⟨z,hz,rfl⟩:=EA.mp i;obtain⟨l,s⟩:=b z (Cm hz);k_in;have A:=s3 _ _ (s2 _ _ (s1 _ _ M));have C:=Ow (X:=X) m0 z;rw[s]at C;show⟨z,_,rfl,l,by(first|lia|omega),Gh (λI U=>U=g/\I=(Sz X.x dl (X.hs.length:Nat) (AA (.int (n:Int))) (AA (.str z)) (AA (.int (n:Int))))) ⟨dl,_,rfl,.inl ⟨_,.inr z,.inl A,rfl,rfl⟩,_,rfl,?_⟩ λI U D=>?_⟩;.cases e:BQ (DE X) (.inr z)with|none=>rw[e]at C;show EY ⟨rfl,?_⟩;rw[<-C];rfl|some v=> rw[e]at C;show Jh ⟨dl,v,rfl,.inl ⟨_,.inr z,.inl A,rfl,e.symm⟩,rfl,?_⟩;rw[<-C];rfl
        . obtain⟨rfl,rfl⟩:=D;show⟨rfl,_,rfl,?_⟩;rw[AE1 rfl];show EY ⟨_,_,rfl,s3⟩
      . obtain⟨Y,Z,rfl,s3⟩:_:=D;show⟨_,_,_,rfl,s1.aa (s2.aa s3)⟩
    . obtain⟨d,Y,Z,rfl,s1⟩:_:=D;show z1 _ _ (k f s1)
theorem FG.ada(f:FG AI H ss F z now D J sd W gk)(s:Bq p H H')(Y:∀b,p b->∃kvs,H b=AA (.dK kvs))(n:∀b,p b->¬(Fg ss F b\/b=F.dj\/b=F.dg)):FG AI H' ss F z now D J sd W gk:=by have Z:∀{b:AB}{o:BW},H b=AA o->(∀kvs,o≠.dK kvs)->H' b=AA o:=λ{b o}e n=>s _ _ (λy=>by obtain⟨kvs,V⟩:=Y b y;rw[e]at V;show n _ (By V)) e;lk;obtain⟨B,E⟩:=f.au;obtain⟨A,C⟩:=f.cn;k_in;show⟨f.toFv.aat s Y λb U=>⟨λy=>n b U (.inl (.inr (.inr y))),λy=>n b U (.inr (.inl y)),λy=>n b U (.inr (.inr y))⟩,⟨B,Z E nofun⟩,⟨A,Z C nofun⟩⟩
structure WB(H4:AH)(ss:List AU)(X:CN)(F:Fw)(lh dl lk:AB)(zs:List AF):Prop where
 aeg:LZ ss X F
 fU:∀b,J3 ss X b->H4 b=AG
 fF:∀b,Fg ss F b->H4 b=AG
 nX:X.lh≠lh
 nG:∀(i:Nat)G,X.hs[i]?=AA G->G.lp≠lh
 nF:F.lp≠lh
 afs:H4 lh=AG
 afo:H4 dl=AG
 aer:dl≠X.dm/\∀(i:Nat)G,X.hs[i]?=AA G->¬FW ss G dl/\dl≠G.dj/\dl≠G.dg
 afl:¬(Fg ss F dl\/dl=F.dj\/dl=F.dg)aft:lk≠lh
 z0:0<zs.length
 afm:zs.length<=12
 az:∀z∈zs,Cu z
structure Kh(ad:Br)(H4:AH)(ss:List AU)(X:CN)(F:Fw)(sl:Int)(lh dl lk:AB)(zs:List AF)(H:AH)(hm:List (AF×Nat))(hs:List AE)(evs:List Bd)(now cnt num:Int)(sd:Nat->CA)(gk:Nat->CS)(sdF:CA)(gkF:CS):Prop where
 g:An H4 H
 hR:G8 ad H ss (X.to hm) sl now cnt sd gk evs
 fR:LV ad H ss F sl now cnt num sdF gkF (CO ss evs)abz:H lh=AA (.lst hs)abi:LW lh H hs
 abg:H dl=AA (.dK (DE (X.to hm)))aed:((DE (X.to hm)).map (·.1)).Nodup
 acp:H lk=AA (.lst (zs.map AE.str))
theorem Kh.ag{dl:AB}(w:Kh AI W ss X F B z dl A C H Y Z evs now D U sd gk V J)(s:An H H'):Kh AI W ss X F B z dl A C H' Y Z evs now D U sd gk V J:=⟨w.g.aa s,⟨w.hR.af.ag s,w.hR.uy,w.hR.av⟩,⟨w.fR.af.ag s,w.fR.uy,w.fR.av⟩,s _ _ w.abz,w.abi.ab (λb o e O O=>s _ _ e),s _ _ w.abg,w.aed,s _ _ w.acp⟩
theorem Kh.abu{K dl:AB}(x:WB A ss X F K dl L N)(w:Kh AI A ss X F M K dl L N H R S evs now U Z sd gk z W)(s:Bq (λb=>b=dl\/Ki ss (X.to R) b) H H')(Q:G8 AI H' ss (X.to J) M now U sd' gk' evs)(O:H' dl=AA (.dK (DE (X.to J))))(a:((DE (X.to J)).map (·.1)).Nodup):Kh AI A ss X F M K dl L N H' J S evs now U Z sd' gk' z W:=by
    have C:∀b,(b=dl\/Ki ss _ b)->∃V,H b=AA (.dK V):=λb D=>by
      rcases D with D|D;.show⟨_,by rw[D];show w.abg⟩
      .show w.hR.af.afh D
    have Y:Kf H H':=λb o e v T=>s b o (λD=>by obtain⟨V,B⟩:=C b D;rw[e]at B;show T _ (By B)) e;have I:∀{b:AB},Ki ss _ b->J3 ss X b:=λ{b}D=>by
      rcases D with D|⟨i,G,P,D⟩;.show .inr (.inr (.inr (.inl D)))
      .show .inr (.inr (.inr (.inr ⟨i,G,P,.inr (.inr (.inr D))⟩)))
    show⟨λb o e=>s b o (λD=>?_) (w.g _ _ e),Q,⟨w.fR.af.ada s C λb D E=>?_,w.fR.uy,w.fR.av⟩,Y.xv w.abz,w.abi.ab Y,O,a,Y.xv w.acp⟩
    . rcases D with D|D;.rw[D,x.afo]at e;cases e
      .rw[x.fU b (I D)]at e;cases e
    . rcases D with D|D;.show x.afl (D▸E)
      .show x.aeg b E (I D)
def WE(L:Br)(K:AH)(ss:List AU)(X:CN)(F:Fw)(Q:Int)(N dl O:AB)(R:List AF)(E:Option AE->Option AE->Option AE->Option AE->Ah)(i:Nat):Ah->AH->Prop:=λS I=>(Qc λ(Z z A B:Option AE)(G:List (AF×Nat))(H:List AE)(D:List Bd)(W J Y:Int)(P:Nat->CA)(M:Nat->CS)(C:CA)(U:CS)=>Im (S=E Z z A B) (Kh L K ss X F Q N dl O R I G H D W J Y P M C U) (H.length<=i) (D.length<=i) (G.length<=2*i+2) (∀e∈D,Ir (Iz e)))
theorem kJ(T:BL AJ Af AI):Hg P w AJ Af base BC Ou AI.xw AI.zj ["_law_script"] (NY AJ):=by
    have G_u_law_cell_at:=O1 (P:=P) (w:=w) (base:=base) T;show T.abp.ok YK (λO O O O h=>by obtain⟨a,ns,rfl,_⟩:=h;rfl) λcdv A outer s H vs Q E hr h=>?_;obtain⟨a,ns,rfl,hS,hl,k⟩:_:=h;have nd:=(YK).nd;show⟨_,(Ai (Aw 1 nd (DR AJ (C9 #v[AQ,AQ]) (AW Bu (AW Ci (BE G_u_law_cell_at hr #v[AD 0,AQ]) AQ) AQ))) (Ai (Aw 2 nd (BE (kU T) hr #v[AD 0,AD 1])) (Ai (Aw 3 nd (AW FK (AW Bu (BE G_u_law_cell_at hr #v[AD 0,AQ]) AQ) (BE (Th T) hr #v[AD 0]))) (Ai (Gj (CF (Bw DH (AW Bu (AW Ci (BE G_u_law_cell_at hr #v[AD 0,AQ]) AQ) AQ) AQ (Bs _)) (Ab (Aw 3 nd (AW Bu (AW Ci (BE G_u_law_cell_at hr #v[AD 0,AQ]) AQ) AQ))) Cd)) (Ai (Aw 4 nd (AW C5 AQ (AW Bu (BE G_u_law_cell_at hr #v[AD 0,AQ]) AQ))) (C6 (Aw 5 nd (Ma (lF T) hr T.aar JL #v[(IS (Ll (K:=AJ)) (by rfl) T.jg KY #v[AD 2]),AD 3,AD 4])) (C6 (Aw 6 nd (Ma (jV T) hr T.abk JL #v[AD 2,AD 3])) (C6 (Aw 7 nd (BE (O2 T) hr #v[AD 0,AQ,DR AJ (C9 #v[AQ,AQ,AQ]) (AW Bu (AW Ci (BE G_u_law_cell_at hr #v[AD 0,AQ]) AQ) AQ)])) (C6 (Aw 8 nd Mq) (C6 (Aw 9 nd (C9 Ea)) (Ai (Gj (CF (Kz (N9 (Bw DH (AW Bu (AW Ci (BE G_u_law_cell_at hr #v[AD 0,AQ]) AQ) AQ) AQ (Bs _)) (OA (L3 (Jl (BE (Xa T) hr #v[AD 5,AD 8,AD 7,BE (O3 T) hr #v[AD 0,AQ]])))))) (Ab (BD F5)) Cd)) (C6 (DB DK rfl (vK (by rfl) T.jo #v[AQ,(DI (Yz rfl) (by rfl) T.abb zG #v[(AW GQ (DI (F4 (K:=AJ)) (by rfl) T.gw F8 #v[AD 0]) AQ),AW C5 AQ (AW FK AQ (AD 1))]),AQ]) (Cc 10 nd) (Ai (Aw 11 nd (BE (jR T) hr #v[AD 0,AD 10])) (Ai (Gj (Aw 12 nd (EX (AD 5) T.ao (lE T) hr #v[AD 11]))) (Ai (Gj (CF (Bw (PZ (K:=AJ) hr.yr) (AD 12) (EX (AD 6) T.bu (jS T) hr #v[AD 11]) (Bs _)) (Ab (BD F5)) Cd)) (Ai (D8 (N6 AJ (AD 9) #v[(Cj #v[BA AJ (AD 12) AQ,(AW HK (IS (Ll (K:=AJ)) (by rfl) T.jg KY #v[BA AJ (AD 12) AQ]) (C9 #v[N7]))])])) (Ai (D8 (N6 AJ (BA AJ (AD 12) AQ) #v[N7])) (Ai (Aw 13 nd (BE (O3 T) hr #v[AD 0,AW C5 (AD 10) AQ])) (Ai (Gj (CF (Kz (N9 (Bw N4 (AW Bu (AD 13) AQ) AQ (Bs _)) (OA (L3 (Jl (BE (Xa T) hr #v[AD 5,AD 8,AD 7,AD 13])))))) (Ab (BD F5)) Cd)) (Ab (CF (Kz (N9 (Bw N4 (AW Bu (AW Ci (AD 13) AQ) AQ) AQ (Bs _)) (OA (Kz (Rp (L3 (Jl (BE (j9 T) hr #v[AD 5,AD 8]))) (U3 (L3 (Jl (BE (jL T) hr #v[AD 5,AD 6]))))))))) (Ab (BD F5)) Cd)))))))))) (Ai (Aw 14 nd (Km (AD 5) T.ao (Xk T) hr)) (Ai (D8 (N6 AJ (AD 9) #v[(Cj #v[AD 14,(IS (Ll (K:=AJ)) (by rfl) T.jg KY #v[AD 14])])])) (Ai (CF (Kz (Rp (Bw (PZ (K:=AJ) hr.yr) (AD 14) (Km (AD 6) T.bu (jU T) hr) (Bs _)) (U3 (Bw (uO (K:=AJ) hr.xu) (Km (AD 5) T.ao (Xk T) hr) (C9 Ea) (Bs _))))) (Ab (BD F5)) Cd) (Ab (BD (Mp DH (DI (F4 (K:=AJ)) (by rfl) T.gw F8 #v[(IQ (DG Ts) [] trivial (DA (K:=AJ) (AD 9)) (λO O O O=>Mr (Bw (PZ (K:=AJ) hr.yr) (BA AJ (AD 0) AQ) (BA AJ (AD 0) AQ) (Bs _))) (λO O O O=>(AD 0)))]) AQ (Bs _))))))))))))))))))),?_⟩;have sz:Az=16777216:=Dj;show⟨B6 rfl,λp0 hp0=>?_⟩;show BK hp0 λH1 g1 ep0=>?_;show⟨a,ns,_,rfl,g1.uz hS,by decide,hl,λc0=>?_⟩;lk;obtain⟨v,hv,hm⟩:=Hj [AE.int 8,.int 16] 2 rfl (by decide) (c0/432);obtain⟨mo,rfl,hmo⟩:∃mo:Nat,v=.int (mo:Int)/\(mo=8\/mo=16):=by
      simp only[CZ,Pu,AFB]at hm;rcases hm with rfl|rfl;.show⟨8,rfl,.inl rfl⟩
      .show⟨16,rfl,.inr rfl⟩
    k_in;show⟨(zzd rfl),(zzp rfl),_,_,Ac ep0,hv,?_⟩;show⟨a,ns,mo,rfl,g1.uz hS,hl,by lia,λlp H2 ps ss z g2 hlp elp pr pok lss txt siz=>?_⟩;show⟨a,ns,_,rfl,(g1.aa g2).uz hS,by decide,hl,λc1=>?_⟩;show⟨(zzp rfl),a,ns,rfl,(g1.aa g2).uz hS,hl,λsc H3 g3 hsc=>?_⟩;have b20:0<=c1%20/\c1%20<20:=⟨Fu _ (by decide),Gr _ (by decide)⟩;have hsl:0<=c1%20*sc/\c1%20*sc<=1000000000:=by rcases hsc with rfl|rfl<;>lia
    show⟨by rcases hsc with rfl|rfl<;>show .inr ⟨by simp,by simp⟩,?_⟩;have hS3:=(g1.aa (g2.aa g3)).uz hS;show Gh (λσ' H'=>JF (λ(sl:Int)=>(0<=sl/\sl<=1000000000)) (λsl=>σ'=(Lb a (mo:Int) lp sl AG AG AG AG AG AG AG AG AG AG AG)) (λO=>An H3 H')) ?_ ?_
    . show⟨a,ns,_,rfl,hS3,by decide,hl,λc2=>⟨(zzd rfl),(zzp rfl),rfl,_,rfl,EG (λO=>?_) λO=>⟨_,hsl,rfl,CQ _⟩⟩⟩;show⟨a,ns,_,rfl,hS3,by decide,hl,λc3=>⟨(zzd rfl),(zzp rfl),_,⟨Fu _ (by decide),ABD (Gr _ (by decide))⟩,rfl,CQ _⟩⟩
    intro σ4 H4 hI;obtain⟨sl,⟨s0,s1⟩,rfl,g4⟩:_:=hI;have hS4:=g4.uz hS3;have g24:=g3.aa g4;have elp4:=g24 _ _ elp;have pr4:=pr.ab g24.tp;clear g1 g2 g3 g4 hS3 ep0 b20 hsl hsc g24 elp pr hS;show⟨a,ns,_,rfl,hS4,by decide,hl,λc4=>⟨(zzp rfl),?_⟩⟩;lk;obtain⟨m,em,m0,m8⟩:∃m:Nat,1+c4%8=(m:Int)/\0<m/\m<=8:=⟨(1+c4%8).toNat,by lia,by lia,by lia⟩;k_in;showλO O O O z1=>⟨lp,ps,rfl,.inl (Ac elp4),λhd hhd=>?_⟩;show BK hhd λH5 g5 ehd=>?_;showλx dx hx hdx hxn=>⟨x,dx,hd,ps,ss,sl,m,AE2 (λz=>[AE.ref x,.ref hd,.int sl,.int z]) em,AY,by rw[AV (BH ehd hx),AV (BH ehd hdx)];show ehd,(pr4.ab g5.tp).ab λb xs e=>by rw[AV (BH e hx),AV (BH e hdx)];show e,lss,s0,s1,m8,λH7 X eX eH lX sx hb7 fre O=>⟨rfl,z1 _ _ ?_⟩⟩;subst eX lX;have g6:An H5 H7:=Ta hx hdx sx;have fU4:∀b,J3 ss X b->H4 b=AG:=λb hb=>g5.bc ((fre b hb).elim (λz=>by rw[z];show hx) λz=>(Oy hxn z).1);have g47:=g5.aa g6;clear fre sx hhd ehd g5 g6;showλO O O O z2=>λy dy hy hdy hyn=>⟨y,dy,lp,ps,ss,sl,rfl,AY,by have e:=g47 _ _ elp4;rw[AV (BH e hy),AV (BH e hdy)];show e,(pr4.ab g47.tp).ab λb xs e=>by rw[AV (BH e hy),AV (BH e hdy)];show e,lss,s0,s1,λH8 F sdF0 gkF0 eF sy fr8 freF=>⟨rfl,z2 _ _ ?_⟩⟩;subst eF;have g8:An H7 H8:=Ta hy hdy sy;have fF7:∀b,Fg ss F b\/b=F.dj\/b=F.dg->H7 b=AG:=λb hb=>(freF b hb).elim (λz=>by rw[z];show hy) λz=>(Oy hyn z).1;have sep:LZ ss X F:=λb hb hu=>by obtain⟨o,e⟩:=hb7.ma hu;rw[fF7 b hb]at e;cases e
    have hb8:=hb7.ag g8;have g48:=g47.aa g8;have fF:∀b,Fg ss F b->H4 b=AG:=λb hb=>g47.bc (fF7 b (.inl hb));clear fF7 freF sy hb7 g47 g8 z1 z2;showλO O O O z3=>⟨B6 rfl,λp1 hp1=>?_⟩;show BK hp1 λHa ga ep1=>?_;show⟨a,ns,_,rfl,(g48.aa ga).uz hS4,by decide,hl,λc6=>?_⟩;lk;obtain⟨v6,hv6,hm6⟩:=Hj [AE.int 3,.int 3,.int 9] 3 rfl (by decide) (c6/12);obtain⟨mk,rfl,hmk⟩:∃mk:Nat,v6=.int (mk:Int)/\0<mk/\mk<=12:=by
      simp only[CZ,Pu,AFB]at hm6;rcases hm6 with rfl|rfl|rfl;.show⟨3,rfl,by decide,by decide⟩
      .show⟨3,rfl,by decide,by decide⟩
      .show⟨9,rfl,by decide,by decide⟩
    k_in;show⟨(zzd rfl),(zzp rfl),_,_,Ac ep1,hv6,a,ns,3,mk,rfl,(g48.aa ga).uz hS4,hl,by decide,Int.natCast_nonneg _,by(first|lia|omega),λlk Hc zs gc hlk elk lz O az=>z3 _ _ ?_⟩;have g4c:=g48.aa (ga.aa gc);have hbc:=(hb8.ag ga).ag gc;have frc:=(fr8.af.ag ga).ag gc;showλO O O O z5=>λdl hdl=>z5 _ _ ?_;show BK hdl λHd gd edl=>?_;showλO O O O z6=>⟨Bc _,λlh hlh=>z6 _ _ ?_⟩;show BK (o:=.lst []) hlh λH9 g9 elh=>?_;have gc9:=gd.aa g9;have hx:WB H4 ss X F lh dl lk zs:=by
      show⟨sep,fU4,fF,BH (gd _ _ hbc.bz) hlh,λi G ei=>BH (gd _ _ (hbc.bx i G ei).kj) hlh,BH (gd _ _ frc.kj) hlh,(g4c.aa gd).bc hlh,g4c.bc hdl,⟨DJ (BH hbc.gh hdl),λi G ei=>⟨λy=>?_,DJ (BH (hbc.bx i G ei).dk hdl),DJ (BH (hbc.bx i G ei).di hdl)⟩⟩,λy=>?_,BH (gd _ _ elk) hlh,by(first|lia|omega),by(first|lia|omega),az⟩
      . obtain⟨kv,e⟩:=(hbc.bx i G ei).zp y;rw[hdl]at e;cases e
      . rcases y with(y|y|y)|y|y
        . obtain⟨_,e⟩:=frc.au;rw[<-y,hdl]at e;cases e
        . obtain⟨_,e⟩:=frc.cn;rw[<-y,hdl]at e;cases e
        . obtain⟨_,e⟩:=frc.zp y;rw[hdl]at e;cases e
        . have e:=frc.dk;rw[<-y,hdl]at e;cases e
        . have e:=frc.di;rw[<-y,hdl]at e;cases e
    have eK:DE X=[]:=by unfold DE;rw[eH];rfl
    have wi:Kh AI H4 ss X F sl lh dl lk zs H9 X.hm [] [] 0 0 0 (λO O=>([],[])) (λO O=>[]) sdF0 gkF0:=by
      show⟨g4c.aa gc9,⟨(hbc.ag gc9).qk λi O t O=>?_,λi O t O=>Bc _,λi O t n a b wi O=>?_⟩,?_,elh,λv hv=>(by cases hv),?_,?_,gc9 _ _ elk⟩
      . change CT ss 0 (FT ss [] ss.length) t=_;rw[Oj];show Q3 ss 0 t
      . change[].Perm (BO _ (FT ss [] ss.length a))/\[].Perm (BO _ (FT ss [] ss.length b));rw[Oj];show⟨.nil,.nil⟩
      . change LV AI H9 ss F sl 0 0 0 sdF0 gkF0 (FT ss [] ss.length);rw[Oj];show⟨frc.ag gc9,fr8.uy,fr8.av⟩
      . change H9 dl=AA (.dK (DE X));rw[eK];show g9 _ _ edl
      . change((DE X).map (·.1)).Nodup;rw[eK];show .nil
    have l0:X.hm.length=0:=by rw[eH];rfl
    clear hbc frc hb8 fr8 g48 ga gc gd g9 gc9 elk edl elh hlh hdl hlk ep1 hp1 fU4 fF sep hv6 z3 z5 z6 g4c eK;show Gh (λσ' H'=>(EB λ(hm:List (AF×Nat))(sd:Nat->CA)(gk:Nat->CS)=>ML (σ'=(Lb a (mo:Int) lp sl (AA (.int (1+c4%8))) (AA (.ref X.x)) (AA (.ref F.x)) (AA (.ref lk)) (AA (.ref dl)) (AA (.ref lh)) AG AG AG AG AG)) (Kh AI H4 ss X F sl lh dl lk zs H' hm [] [] 0 0 0 sd gk sdF0 gkF0) (hm.length<=2))) ?_ ?_
    . show⟨a,ns,_,rfl,wi.g.uz hS4,by decide,hl,λc7=>⟨(zzd rfl),(zzp rfl),rfl,_,rfl,EG (λO=>?_) λO=>EY ⟨X.hm,_,_,rfl,wi,by(first|lia|omega)⟩⟩⟩;show⟨a,ns,_,rfl,wi.g.uz hS4,hl,by decide,λnn nn0=>⟨ss,X,sl,0,0,_,_,[],dl,lk,zs,nn,rfl,wi.hR,pok,lss,m0,m8,Qf pok siz (Bc _) (λe he=>by cases he),wi.abg,wi.aed,by(first|lia|omega),wi.acp,hx.z0,hx.afm,hx.az,nn0,hx.aer,λH' hm sd' gk' s hR' ed' nd' l'=>⟨_,rfl,EY ⟨hm,sd',gk',rfl,wi.abu hx s hR' ed' nd',by(first|lia|omega)⟩⟩⟩⟩
    intro σ5 H5 hI;obtain⟨hm0,sd0,gk0,rfl,w0,lhm0⟩:_:=hI;clear wi;have hS9:=w0.g.uz hS4;have lns:(ns.map AE.int).length=ns.length:=Aq ..;showλO O O O z4=>⟨_,.inl hS9,.inl ⟨by decide,by decide⟩,_,_,_,rfl,⟨by decide,by decide,by decide,by decide,?_,?_⟩,?_⟩;.rw[lns];split<;>lia
    .rw[lns];split<;>lia
    have hn:Fo 15 (if 15+2*(mo:Int)<((ns.map AE.int).length:Int)-1 then 15+2*(mo:Int)else((ns.map AE.int).length:Int)-1) 2<=mo:=by unfold Fo;(repeat' split)<;>(first|lia|(first|lia|omega))
    generalize Fo 15 (if 15+2*(mo:Int)<((ns.map AE.int).length:Int)-1 then 15+2*(mo:Int)else((ns.map AE.int).length:Int)-1) 2=nt at hn⊢;show sP (WE AI H4 ss X F sl lh dl lk zs (λo10 o11 o12 o13=>(Lb a (mo:Int) lp sl (AA (.int (1+c4%8))) (AA (.ref X.x)) (AA (.ref F.x)) (AA (.ref lk)) (AA (.ref dl)) (AA (.ref lh)) o10 o11 o12 o13 AG))) ⟨AG,AG,AG,AG,hm0,[],[],0,0,0,_,_,_,_,rfl,w0,Bc _,Bc _,lhm0,λe he=>(by cases he)⟩ ?_ ?_
    . intro i σ H0 hi hI;obtain⟨o10,o11,o12,o13,hm,hs,evs,now,cnt,num,sd,gk,sdF,gkF,rfl,w1,lhs,lev,lhm,oke⟩:_:=hI;have hS0:=w1.g.uz hS4;show⟨a,ns,_,rfl,hS0,hl,by lia,λq Hb e gb hq eq ak az te=>?_⟩;have oke':∀e'∈evs++[e],Ir (Iz e'):=λe' he=>(Ce.mp he).elim (oke e') λhe=>by rw[Bm.mp he];show⟨te,az⟩
      have lim:=Qf pok siz (evs:=evs++[e]) (by rw[Bx];change evs.length+1<=mo;show SG.mp (BY (FR lev hi) hn)) oke';have wb:=w1.ag gb;have hRb:=wb.hR;have fRb:=wb.fR;have sep:LZ ss (X.to hm) F:=hx.aeg;have fU:∀b,Ga ss (X.to hm) b->H4 b=AG:=λb hb=>hx.fU b (hb.elim (λz=>.inr (.inl z)) λ⟨i,G,ei,z⟩=>.inr (.inr (.inr (.inr ⟨i,G,ei,.inr (.inr (.inr z))⟩))));obtain⟨dxX,exX⟩:=hRb.af.au;have lateE:∀{α:Type}{u v:α},e.1<now->(if now<=e.1 then u else v)=v:=λh=>AEz (Jt h);show Gh (λσ' H'=>(IG λ(p r:AB)(xs:List AE)(qs:List DM)(sd':Nat->CA)(gk':Nat->CS)=>Sm (σ'=(Lb a (mo:Int) lp sl (AA (.int (1+c4%8))) (AA (.ref X.x)) (AA (.ref F.x)) (AA (.ref lk)) (AA (.ref dl)) (AA (.ref lh)) (AA (.int (15+(i:Int)*2))) (AA (.ref q)) (AA (.ref p)) o13 AG)) (Bq (Ga ss (X.to hm)) Hb H') (Hb p=AG) (Hb r=AG) (H' p=AA (.tup [.bl (Ae (now<=e.1)),.ref r])) (H' r=AA (.lst xs)) (BJ (Iv ss H') xs qs) ((qs.map De).Nodup) (DP (qs.map De)) ((∀m:DM,m∈qs↔now<=e.1/\m.1∈Am ss/\m.2.2∈Jc (FU now sl e.1) (CT ss now (CO ss (evs++[e])) m.1 m.2.1))) (qs.length<=14400000) (G8 AI H' ss (X.to hm) sl (FU now sl e.1) (cnt+1) sd' gk' (if now<=e.1 then evs++[e]else evs)))) ?_ ?_
      . show⟨X.x,dxX,_,rfl,exX,by rfl,ss,X.to hm,sl,now,cnt,sd,gk,evs,e,q,rfl,hRb,pok,lss,m0,m8,eq,az,lim,(λhe H' p r u h2 hp hr ep er=>?_),λhe H' p r xs qs sd' gk' u h2 hp hr ep er pr' nd' sd2 mm lq=>?_⟩
        . show⟨p,r,[],[],sd,gk,rfl,u,hp,hr,by rw[AE3 (Jt he:¬now<=e.1)];show ep,er,.nil,.nil,.nil,λm=>⟨λh=>(by cases h),λh=>absurd h.1 (Jt he)⟩,Bc _,?_⟩;rw[lateE he,show FU now sl e.1=now from AE0 he];show h2
        . show⟨p,r,xs,qs,sd',gk',rfl,u,hp,hr,by rw[AE1 he];show ep,er,pr',nd',sd2,λm=>(mm m).trans ⟨λh=>⟨he,h⟩,λh=>h.2⟩,lq,?_⟩;rw[AE0 he];show h2
      intro σ1 H1 hI;lk;obtain⟨p,r,xs,qs,sd1,gk1,rfl,u1,hp,hr1,ep,er,rw1,nd1,sdd1,mm1,lq1,hR1⟩:=hI;have fb1:=fRb.af.abr hRb.af sep u1;have lt1:=hRb.af.lt u1;have eq1:Ip H1 q e:=lt1.tp _ _ eq;obtain⟨dxF,exF⟩:=fb1.au;k_in;have limT:=λ(t:Nat)s(es:ss[t]?=AA s)(tt:s.cp=AR)=>by have:=lim (λO=>AK) t s es tt;rw[Jz]at this;show this
      have okq:∀m∈qs,Cu m.2.1:=λm hm=>by obtain⟨_,h1,h2⟩:=(mm1 m).mp hm;show T4 pok oke' (λO=>AK) (now:=now) h1 (z:=m.2.1) ?_;rw[Jz];show OJ (D1.mp h2).1
      have rok:=X4 txt okq;have upT:∀t∈Am ss,∀z,EL (Jc (FU now sl e.1) (CT ss now (CO ss (evs++[e])) t z)):=λt ht z=>by have:=(lim.qk pok (λO=>AK) now ht z).1;rw[Jz]at this;show this.sublist Mx
      show Gh (λσ' H'=>(EB λ(num':Int)(sdF':CA)(gkF':CS)=>ML (σ'=(Lb a (mo:Int) lp sl (AA (.int (1+c4%8))) (AA (.ref X.x)) (AA (.ref F.x)) (AA (.ref lk)) (AA (.ref dl)) (AA (.ref lh)) (AA (.int (15+(i:Int)*2))) (AA (.ref q)) (AA (.ref p)) o13 AG)) ((∀b o,¬Fg ss F b->H1 b=AA o->H' b=AA o)) (LV AI H' ss F sl (FU now sl e.1) (cnt+1) num' sdF' gkF' (CO ss (if now<=e.1 then evs++[e]else evs))))) ?_ ?_
      . have cmp:∀{H2:AH}{p2 r2:AB}{xs2:List AE},(∀b o,¬Fg ss F b->H1 b=AA o->H2 b=AA o)->H2 p2=AA (.tup [.bl (Ae (now<=e.1)),.ref r2])->H2 r2=AA (.lst xs2)->BJ (Iv ss H2) xs2 qs->HG AJ H2 (.ref p) (.tuple [.bool (Ae (now<=e.1)),.list ((Q1 ss qs).map JJ)])/\HG AJ H2 (.ref p2) (.tuple [.bool (Ae (now<=e.1)),.list ((Q1 ss qs).map JJ)]):=λ{H2 p2 r2 xs2}u2 ep2 er2 rw2=>by have lt2:=fb1.lt u2;show⟨.tup (Ar (lt2.tp _ _ ep)) (.cons (.bl _) (.cons (((NW rw1).ab lt2.tp).dv (lt2.xv er)) .nil)),.tup (Ar ep2) (.cons (.bl _) (.cons ((NW rw2).dv er2) .nil))⟩
        show⟨F.x,dxF,_,rfl,exF,by rfl,ss,F,sl,now,cnt,num,sdF,gkF,CO ss evs,CO ss (evs++[e]),evs,e,q,rfl,⟨fb1,fRb.uy,fRb.av⟩,pok,lss,eq1,(λt s es tt=>⟨NM pok es,NM pok es,(limT t s es tt).1⟩),(λt s es tt=>(limT t s es tt).2),(λhe H2 p2 r2 u2 f2 hp2 hr2 ep2 er2=>?_),λhe H2 p2 r2 xs2 qs2 sd2 gk2 u2 f2 hp2 hr2 ep2 er2 rw2 nd2 sdd2 mm2 lq2 hB2=>?_⟩
        . have q0:qs=[]:=ABZ.mpr λm hm=>by have:=((mm1 m).mp hm).1;show Jt he this
          obtain⟨d1,d2⟩:=cmp u2 (by rw[AE3 (Jt he:¬now<=e.1)];show ep2) er2 (by rw[q0];show .nil);show N2 d1 d2 (Xp rok) ⟨_,rfl,EY ⟨num,sdF,gkF,rfl,u2,?_⟩⟩;rw[lateE he,show FU now sl e.1=now from AE0 he];show f2
        . have q0:qs2=qs:=YG pok upT nd2 nd1 sdd2 sdd1 mm2 λm=>(mm1 m).trans ⟨λh=>h.2,λh=>⟨he,h⟩⟩;rw[q0]at rw2 f2;obtain⟨d1,d2⟩:=cmp u2 (by rw[AE1 he];show ep2) er2 rw2;show N2 d1 d2 (Xp rok) ⟨_,rfl,EY ⟨num+(qs.length:Int),sd2,gk2,rfl,u2,?_⟩⟩;rw[AE0 he];show f2
      intro σ2 H2 hI;obtain⟨num2,sdF2,gkF2,rfl,u2,fR2⟩:_:=hI;have hb2:=hR1.af.adf fb1 sep u2;have hR2:G8 AI H2 ss (X.to hm) sl (FU now sl e.1) (cnt+1) sd1 gk1 (if now<=e.1 then evs++[e]else evs):=⟨hb2,hR1.uy,hR1.av⟩;have lt2:=fb1.lt u2;have lt02:Kf Hb H2:=λb o e n1 n2=>lt2 b o (lt1 b o e n1 n2) n1 n2;have g2:An H4 H2:=λb o e=>u2 b o (λz=>by rw[hx.fF b z]at e;cases e) (u1 b o (λz=>by rw[fU b z]at e;cases e) (wb.g _ _ e));have eq2:Ip H2 q e:=lt2.tp _ _ eq1;have ep2:=lt2.tp _ _ ep;have er2:=lt2.xv er;have rws2:=(NW rw1).ab lt2.tp;have elh2:=lt02.xv wb.abz;have heldb:=wb.abi;have elk2:=lt02.xv wb.acp;have edl2:=u2 _ _ (λz=>hx.afl (.inl z)) (u1 _ _ (λz=>?dl) wb.abg);case dl=>
        rcases z with z|⟨i,G,ei,z⟩
        . obtain⟨dc,ec⟩:=wb.hR.af.cn;rw[<-z,wb.abg]at ec;cases ec
        .show(hx.aer.2 i G ei).1 z
      have heldo:=(heldb.ab lt02).zt;have evs2:(if now<=e.1 then evs++[e]else evs).length<=i+1/\(∀e'∈(if now<=e.1 then evs++[e]else evs),Ir (Iz e')):=by
        split;.show⟨by rw[Bx];change evs.length+1<=i+1;show HQ.mpr lev,oke'⟩
        .show⟨Jn lev,oke⟩
      have lx:xs.length<=14400000:=by have:=(CJ rw1).1;show Ag (Bi this) lq1
      generalize(if now<=e.1 then evs++[e]else evs)=evs' at hR2 fR2 evs2;generalize FU now sl e.1=now' at hR2 fR2;have nlr:lh≠r:=BH wb.abz hr1;show⟨.inl ⟨rfl,_,Ac elh2⟩,_,_,Ar ep2,Ap (j:=1) rfl,_,_,Ar ep2,Ap (j:=1) rfl,r,xs,rfl,.inl (Ac er2),λl1 hl1=>?_⟩;show BK hl1 λH3 s3 el1=>⟨B6 rfl,λl2 hl2=>?_⟩;show BK hl2 λH5 s5 el2=>⟨l1,l2,xs,[.non],rfl,rfl,s5 _ _ el1,el2,by change xs.length+1<=Az;lia,λl3 hl3=>?_⟩;have nl3:lh≠l3:=BH (s5 _ _ (s3 _ _ elh2)) hl3;have nr3:r≠l3:=BH (s5 _ _ (s3 _ _ er2)) hl3;show BK hl3 λH6 s6 el3=>⟨B6 rfl,λt ht=>?_⟩;have ht':=ht;show BK ht λH7 s7 et=>?_;have s27:=s3.aa (s5.aa (s6.aa s7));have elh7:=s27 _ _ elh2;have el37:=s7 _ _ el3;show⟨lh,_,_,rfl,rfl,elh7,by lia,?_⟩;have nplh:p≠lh:=λz=>by rw[z,elh2]at ep2;cases ep2
      have er7:(AM H7 lh (.lst (hs++[.ref t]))) r=AA (.lst xs):=by rw[AV (DJ nlr)];show s27 _ _ er2
      show⟨_,.ref r,Ar (by rw[AV nplh];show s27 _ _ ep2),Ap (j:=1) rfl,.inl ⟨rfl,_,Ac er7⟩,r,_,_,rfl,rfl,er7,FR lx (by decide),?_⟩;have tpL:Bk H7 (AM H7 lh (.lst (hs++[.ref t]))):=(Gg H7).gy elh7 λxs=>by intro z;cases z
      have tpR:Bk (AM H7 lh (.lst (hs++[.ref t]))) (AM (AM H7 lh (.lst (hs++[.ref t]))) r (.lst (xs++[.non]))):=(Gg _).gy er7 λxs=>by intro z;cases z
      have od7:Jx H7 hs:=(heldb.ab (λb o e n1 n2=>s27 _ _ (lt02 b o e n1 n2))).zt;have odr:=mG (NV rw1 λb zs e=>tpL _ _ (s27 _ _ (lt2.tp _ _ e)));have hR8:G8 AI (AM (AM H7 lh (.lst (hs++[.ref t]))) r (.lst (xs++[.non]))) ss (X.to hm) sl now' (cnt+1) sd1 gk1 evs':=⟨((hR2.af.ag s27).zt elh7 od7 hx.nX hx.nG).zt er7 odr (BH hRb.af.bz hr1) λi G ei=>BH (hRb.af.bx i G ei).kj hr1,hR2.uy,hR2.av⟩;have fR8:LV AI (AM (AM H7 lh (.lst (hs++[.ref t]))) r (.lst (xs++[.non]))) ss F sl now' (cnt+1) num2 sdF2 gkF2 (CO ss evs'):=⟨((fR2.af.ag s27).zt elh7 od7 hx.nF).zt er7 odr (BH fRb.af.kj hr1),fR2.uy,fR2.av⟩;have elh8:(AM (AM H7 lh (.lst (hs++[.ref t]))) r (.lst (xs++[.non]))) lh=AA (.lst (hs++[.ref t])):=by rw[AV nlr];show AY
      have ntr:t≠r:=λz=>by rw[z,s6 _ _ (s5 _ _ (s3 _ _ er2))]at ht';cases ht'
      have ntl:t≠lh:=λz=>by rw[z,s6 _ _ (s5 _ _ (s3 _ _ elh2))]at ht';cases ht'
      have held8:LW lh (AM (AM H7 lh (.lst (hs++[.ref t]))) r (.lst (xs++[.non]))) (hs++[.ref t]):=λv hv=>by
        rcases Ce.mp hv with hv|hv;.show heldb.aei (λb o e n1 n2=>s27 _ _ (lt02 b o e n1 n2)) wb.abz hr1 v hv
        . rw[Bm.mp hv];show⟨t,r,l3,xs,[.non],_,rfl,by rw[AV ntr,AV ntl];show et,AY,by rw[AV (DJ nr3),AV (DJ nl3)];show el37,rws2.ab λb zs e=>tpR _ _ (tpL _ _ (s27 _ _ e)),rok,.inr rfl,DJ nlr,DJ nl3⟩
      have g8:An H4 (AM (AM H7 lh (.lst (hs++[.ref t]))) r (.lst (xs++[.non]))):=λb o e=>by rw[AV (BH (wb.g _ _ e) hr1),AV (BH e hx.afs)];show s27 _ _ (g2 _ _ e)
      have edl8:(AM (AM H7 lh (.lst (hs++[.ref t]))) r (.lst (xs++[.non]))) dl=AA (.dK (DE (X.to hm))):=by rw[AV (BH wb.abg hr1),AV λz=>by have:=wb.abg;rw[z,wb.abz]at this;cases this];show s27 _ _ edl2
      have elk8:(AM (AM H7 lh (.lst (hs++[.ref t]))) r (.lst (xs++[.non]))) lk=AA (.lst (zs.map AE.str)):=by rw[AV (BH wb.acp hr1),AV hx.aft];show s27 _ _ elk2
      have w8:Kh AI H4 ss X F sl lh dl lk zs (AM (AM H7 lh (.lst (hs++[.ref t]))) r (.lst (xs++[.non]))) hm (hs++[.ref t]) evs' now' (cnt+1) num2 sd1 gk1 sdF2 gkF2:=⟨g8,hR8,fR8,elh8,held8,edl8,wb.aed,elk8⟩;clear hR8 fR8 elh8 held8 g8 edl8 elk8;generalize AM (AM H7 lh (.lst (hs++[.ref t]))) r (.lst (xs++[.non]))=H8 at w8⊢;have lim':=Qf pok siz (evs:=evs') (Ag evs2.1 (SG.mp (BY hi hn))) evs2.2;show⟨a,ns,_,rfl,w8.g.uz hS4,hl,by(first|lia|omega),λnn nn0=>?_⟩;show Gh (λσ' H'=>(EB λ(hm':List (AF×Nat))(sd':Nat->CA)(gk':Nat->CS)=>ML (σ'=(Lb a (mo:Int) lp sl (AA (.int (1+c4%8))) (AA (.ref X.x)) (AA (.ref F.x)) (AA (.ref lk)) (AA (.ref dl)) (AA (.ref lh)) (AA (.int (15+(i:Int)*2))) (AA (.ref q)) (AA (.ref p)) (AA (.int nn)) AG)) (Kh AI H4 ss X F sl lh dl lk zs H' hm' (hs++[.ref t]) evs' now' (cnt+1) num2 sd' gk' sdF2 gkF2) (hm'.length<=2*(i+1)+2))) ?_ ?_
      . show⟨(zzp rfl),_,rfl,IM (λO=>?_) λO=>EY ⟨hm,sd1,gk1,rfl,w8,by(first|lia|omega)⟩⟩;show⟨ss,X.to hm,sl,now',cnt+1,sd1,gk1,evs',dl,lk,zs,nn,rfl,w8.hR,pok,lss,m0,m8,lim',w8.abg,w8.aed,(by change hm.length<=60;(first|lia|omega)),w8.acp,hx.z0,hx.afm,hx.az,nn0,hx.aer,λH' hm' sd' gk' s hR' ed' nd' l'=>⟨_,rfl,EY ⟨hm',sd',gk',rfl,w8.abu hx s hR' ed' nd',by have l':hm'.length<=hm.length+2:=l';(first|lia|omega)⟩⟩⟩
      intro σ9 H9 hI;obtain⟨hm',sd9,gk9,rfl,w9,lhm9⟩:_:=hI;have done:∀{Hx:AH},An H9 Hx->WE AI H4 ss X F sl lh dl lk zs (λo10 o11 o12 o13=>(Lb a (mo:Int) lp sl (AA (.int (1+c4%8))) (AA (.ref X.x)) (AA (.ref F.x)) (AA (.ref lk)) (AA (.ref dl)) (AA (.ref lh)) o10 o11 o12 o13 AG)) (i+1) (Lb a (mo:Int) lp sl (AA (.int (1+c4%8))) (AA (.ref X.x)) (AA (.ref F.x)) (AA (.ref lk)) (AA (.ref dl)) (AA (.ref lh)) (AA (.int (15+(i:Int)*2))) (AA (.ref q)) (AA (.ref p)) (AA (.int nn)) AG) Hx:=λ{Hx}sx=>⟨_,_,_,_,hm',hs++[.ref t],evs',now',cnt+1,num2,sd9,gk9,sdF2,gkF2,rfl,w9.ag sx,by rw[Bx];change hs.length+1<=i+1;show HQ.mpr lhs,evs2.1,lhm9,evs2.2⟩;show⟨(zzd rfl),(zzp rfl),_,rfl,IM (λO=>?_) λO=>EY (done (CQ _))⟩;have hq9:∀i,i<X.hs.length->Ke ss (sd9 i) (CT ss now' (Bz ss (X.to hm') evs' i)) (gk9 i) λz=>Cu z/\CI (X.to hm') z=i:=λi hi=>(Wo pok lim' evs2.2 (w9.hR.uy i hi) (w9.hR.av i hi)).iw λz h=>⟨h.1,AE4 h.2⟩;show⟨ss,X.to hm',sl,now',cnt+1,sd9,_,gk9,dl,rfl,w9.hR.af,lss,m0,m8,w9.abg,hq9,λHx sx=>⟨_,rfl,EY ?_⟩⟩;have qF:Ke ss sdF2 (CT ss now' (CO ss evs')) gkF2 λz=>Cu z:=by have h:=Wo pok lim' evs2.2 (p:=λO=>AK) (now:=now') (sd:=sdF2) (gk:=gkF2) (by rw[Jz];show w9.fR.uy) (by rw[Jz];show w9.fR.av);rw[Jz]at h;show h.iw λz h=>h.1
      show⟨ss,X.to hm',F,sl,now',cnt+1,sl,now',cnt+1,num2,sd9,_,gk9,sdF2,_,gkF2,rfl,w9.hR.af.ag sx,w9.fR.af.ag sx,hx.aeg,lss,m8,(λi hi=>(hq9 i hi).iw λz h=>h.1),qF,gG (X:=X.to hm') m0 w9.hR.av w9.fR.av,λHy sy=>⟨_,rfl,EY (done (sx.aa sy))⟩⟩
    . intro σ1 H1 hI;lk;obtain⟨o10,o11,o12,o13,hm,hs,evs,now,cnt,num,sd,gk,sdF,gkF,rfl,w1,lhs,lev,_,oke⟩:=hI;have hR:=w1.hR;have fR:=w1.fR;have elh1:=w1.abz;have sep:LZ ss (X.to hm) F:=hx.aeg;have lim:=Qf pok siz (evs:=evs) (Ag lev hn) oke;obtain⟨dxX,exX⟩:=hR.af.au;k_in;show z4 _ _ ⟨X.x,dxX,_,rfl,exX,by rfl,.ref X.x,rfl,ss,X.to hm,sl,now,cnt,sd,_,gk,AG,CI (X.to hm),rfl,hR.af,pok,lss,m8,Ld m0,(λi hi t ht=>⟨Ag (hR.uy i hi t ht) (lim.abf pok _ ht).1,λz=>⟨(lim.qk pok _ now ht z).1,(lim.qk pok _ now ht z).2,λhz=>NJ λhne=>hz (KG (AE3 hne) now t)⟩⟩),(λqs nd hq=>lim.afg pok lss now qs nd hq),λH2 r xs qs gk2 u2 hb2 lg2 hr2 er2 rw2 nd2 sd2 mm2 lq2=>?_⟩;have fb2:=fR.af.abr hR.af sep u2;have lt2:=hR.af.lt u2;have elh2:=lt2.xv elh1;have held2:=w1.abi.ab lt2;have nlr:lh≠r:=BH elh1 hr2;have lx:=(CJ rw2).1;have limT:=λ(t:Nat)(ht:t∈Am ss)=>by have:=lim.abf pok (λO=>AK) ht;rw[Jz]at this;show this
      have semT:=λ(t:Nat)(ht:t∈Am ss)(z:AF)=>by have:=lim.qk pok (λO=>AK) now ht z;rw[Jz]at this;show this
      have mm2':∀m:DM,m∈qs↔m.1∈Am ss/\m.2.2∈CT ss now (CO ss evs) m.1 m.2.1:=λm=>by rw[mm2 m];change _/\m.2.2∈CT ss now (Bz ss (X.to hm) evs (CI (X.to hm) m.2.1)) m.1 m.2.1↔_;rw[Ko (AE1 rfl)]
      have okq:∀m∈qs,Cu m.2.1:=λm hm=>by obtain⟨h1,h2⟩:=(mm2' m).mp hm;show T4 pok oke (λO=>AK) (now:=now) h1 (z:=m.2.1) ?_;rw[Jz];show OJ h2
      have rok:=X4 txt okq;show⟨.inl ⟨rfl,_,Ac elh2⟩,r,xs,rfl,.inl (Ac er2),λl1 hl1=>?_⟩;have nl1:lh≠l1:=BH elh2 hl1;show BK hl1 λH3 s3 el1=>⟨B6 rfl,λt ht=>?_⟩;show BK ht λH5 s5 et=>?_;have s25:=s3.aa s5;have elh5:=s25 _ _ elh2;show⟨lh,_,_,rfl,rfl,elh5,by lia,?_⟩;have ntl:t≠lh:=λz=>by rw[z,elh5]at et;cases et
      have tpL:Bk H5 (AM H5 lh (.lst (hs++[.ref t]))):=(Gg H5).gy elh5 λxs=>by intro z;cases z
      have od5:Jx H5 hs:=(held2.ab (λb o e O O=>s25 _ _ e)).zt;have hb6:=(hb2.ag s25).zt (o:=.lst (hs++[.ref t])) elh5 od5 hx.nX hx.nG;have fb6:=(fb2.ag s25).zt (o:=.lst (hs++[.ref t])) elh5 od5 hx.nF;have rw6:=NV rw2 λb zs e=>tpL _ _ (s25 _ _ e);have er6:(AM H5 lh (.lst (hs++[.ref t]))) r=AA (.lst xs):=by rw[AV (DJ nlr)];show s25 _ _ er2
      have held6:LW lh (AM H5 lh (.lst (hs++[.ref t]))) (hs++[.ref t]):=λv hv=>by
        rcases Ce.mp hv with hv|hv
        . obtain⟨q,r0,r0',ys,tl,kss,e,e1,e2,e3,w,ok,n,n1,n2⟩:=held2 v hv;show⟨q,r0,r0',ys,tl,kss,e,tpL _ _ (s25 _ _ e1),by rw[AV n1];show s25 _ _ e2,by rw[AV n2];show s25 _ _ e3,w.ab λb zs e=>tpL _ _ (s25 _ _ e),ok,n,n1,n2⟩
        . rw[Bm.mp hv];show⟨t,r,l1,xs,[],_,rfl,by rw[AV ntl];show et,by rw[Dw];show er6,by rw[Dw,AV (DJ nl1)];show s5 _ _ el1,(NW rw6),rok,.inl rfl,DJ nlr,DJ nl1⟩
      have elh6:(AM H5 lh (.lst (hs++[.ref t]))) lh=AA (.lst (hs++[.ref t])):=AY;generalize AM H5 lh (.lst (hs++[.ref t]))=H6 at hb6 fb6 rw6 er6 held6 elh6⊢;obtain⟨dxF,exF⟩:=fb6.au;show⟨F.x,dxF,_,rfl,exF,by rfl,ss,F,sl,now,cnt,num,sdF,_,gkF,rfl,fb6,pok,lss,(λt ht=>Ag (fR.uy t ht) (limT t ht).1),(λt ht z=>semT t ht z),λH7 r7 xs7 qs7 gk7 u7 f7 hr7 er7 rw7 nd7 sd7 mm7 lq7=>?_⟩;have q7:qs7=qs:=YG pok (λt ht z=>(semT t ht z).1) nd7 nd2 sd7 sd2 mm7 mm2';rw[q7]at rw7;have lt7:=fb6.lt u7;show N2 (((NW rw6).ab lt7.tp).dv (lt7.xv er6)) ((NW rw7).dv er7) (Pk rok) ⟨_,rfl,EY ?_⟩;have hb7:=(hb6.adf fb6 sep u7).qk (gg':=λO O O=>[]) λi O t O=>rfl;obtain⟨dx7,ex7⟩:=hb7.au;show⟨X.x,dx7,_,rfl,ex7,by rfl,.ref X.x,rfl,ss,X.to hm,sl,now,cnt,sd,_,gk2,AG,CI (X.to hm),rfl,hb7,pok,lss,m8,Ld m0,(λi hi t ht=>⟨Ag (lg2 i hi t ht) (Ag (hR.uy i hi t ht) (lim.abf pok _ ht).1),λz=>⟨.nil,Bc _,λhz=>absurd rfl hz⟩⟩),(λqs nd hq=>?_),λH8 r8 xs8 qs8 gk8 u8 hb8 lg8 hr8 er8 rw8 nd8 sd8 mm8 lq8=>⟨Bc _,λl9 hl9=>?_⟩⟩;.cases qs with|nil=>show Bc _|cons q qs=>show absurd (hq q (.head _)).2 (λh=>by cases h)
      have q8:qs8=[]:=ABZ.mpr λm hm=>by cases((mm8 m).mp hm).2
      subst q8;cases rw8;show BK hl9 λH9 s9 el9=>⟨r8,l9,[],rfl,rfl,Ac (s9 _ _ er8),Ac el9,_,rfl,EY ?_⟩;have lt9:Kf H6 H9:=λb o e n1 n2=>s9 _ _ ((hb7.lt u8) b o (lt7 b o e n1 n2) n1 n2);have elh9:=lt9.xv elh6;have held9:=held6.ab lt9;show⟨lh,rfl,⟨_,Ac elh9⟩,rR (K:=AJ) (xs:=hs++[.ref t]) (λO=>AR) (λx=>x) (Ac elh9) (by rw[Bx];change hs.length+1<=Az;lia) (λx R hx rr=>?_) (λx R hx h=>by cases h) λD hD=>?_⟩
      . lk;obtain⟨q,r0,r0',ys,tl,kss,rfl,e1,e2,e3,w,ok,n,_⟩:=held9 x hx;obtain⟨DD,dd,sh⟩:=iD w ok n;k_in;show⟨_,_,Ar e1,Ap (j:=0) rfl,_,_,Ar e1,Ap (j:=1) rfl,N2 (.lst (Ac e2) dd) (.lst (Ac e3) dd) sh ⟨_,rfl,rr⟩⟩
      rw[show((hs++[AE.ref t]).filter λO=>AR).map (λx=>x)=[]from by rw[Jm.mpr λO O h=>by cases h];rfl];show BK hD λHa sa eDa=>⟨_,.inl (Ac eDa),rfl,?_⟩;change Q (.bl (Ae (AE.int 0=AE.int 0))) Ha;rw[AE1 rfl];show k _
theorem gJ{l:SR}{K:As}(W:D "law"=AA (.ref Y))(T:BL K D ⟨z,V,A,B,C,E,F,G,H,I,J,U⟩):∃Z:JU,(∀(s:AZ)(v:AL),SM s Z ⟨[v],[]⟩ [("_law_script",v)])/\∀base:BZ,K.In base->base.Ns LQ D->Hg l.prog w K D base BC Ou Y Z ["_law_script"] (NY K):=by have e:=W.symm.trans T.adm;cases e;obtain⟨_,_,_,_,_,_,_,_,_,e,_,_⟩:=T.abp.ex;show⟨V,λs v=>by have e:V=_:=e;rw[e];show .of_eq rfl,λbase O O=>NJ λn=>?_⟩;have h:=ADw (p:=λx:Sq=>BL x.K x.mg x.ad/\¬∀(P:Co)(w:CC)(base:BZ),Hg P w x.K x.mg base BC Ou x.ad.xw x.ad.zj ["_law_script"] (NY x.K)) ⟨⟨K,D,⟨z,V,A,B,C,E,F,G,H,I,J,U⟩⟩,T,λh=>n (h _ _ _)⟩;show h.2 λP w base=>kJ h.1
end
noncomputable def PySem.W.Fast:=()where
 tw2671004447974858801:=()
 tw5172531614052274814:=()
 tw220584218866069523:=()
 tw8406791382496690686:=()
 tw14816266663453059123:=()
 tw4531953884908054556:=()
 tw14620603260803168837:=()
 tw15264451839452981507:=()
 tw900770361258251703:=()
 tw10318928156048570258:=()
 tw3790511001725090076:=()
 tw8952184887925335667:=()
 tw3195463447088707405:=()
 tw15611526578043375778:=()
 tw14298224742039800643:=()
 tw11505490152933533137:=()
 tw16968334636608913450:=()
 tw8800010333559788017:=()
 tw592559698888519323:=()
 tw7168116436793588493:=()
 tw13096558740885442634:=()
 tw14082440484169380206:=()
 tw2031291535074027993:=()
 tw10843799375175234281:=()
 tw11822693663250983852:=()
 tw11491712281669142960:=()
 tw15613659221907058660:=()
 tw6492654940674805060:=()
 tw6810363937560279721:=()
 tw15729911976759569361:=()
 tw4914761354792787041:=()
 tw12477080760047097728:=()
 tw1814319673849635981:=()
 tw17087851265118079843:=()
 tw1049080528762805484:=()
 tw4117314833587285266:=()
 tw6571821772546017030:=()
 tw10056816817125231770:=()
 tw273760214857280863:=()
 tw9920211173495466285:=()
 tw18115120899663946904:=()
 tw15648425683549437689:=()
 tw18097234443811122471:=()
 tw6767832345564955446:=()
 tw8398000236288527569:=()
 tw16767019598444553939:=()
 tw8266143000818144393:=()
 tw6764591808375668546:=()
 tw9112636642488506052:=()
 tw3748089533331344404:=()
 tw2064293367838501397:=()
 tw12561233054677570965:=()
 tw12055628882944153142:=()
 tw10027123825450762460:=()
 tw4128683614939421176:=()
 tw8772333872254816082:=()
 tw6288871944687035937:=()
 tw2107668420480290502:=()
 tw9505765212226733369:=()
 tw17350081654676679216:=()
 tw8341041829052300351:=()
 tw9431162595971607831:=()
 tw6138045202246413235:=()
 tw5915868485925849624:=()
 tw8361771840916434162:=()
 tw796835516342051534:=()
 tw13258677432134399041:=()
 tw17298799973045250771:=()
 tw7481876432314653687:=()
 tw16280947284466783754:=()
 tw5100051021448362025:=()
 tw6317375010642959524:=()
 tw13701419585236691450:=()
 tw5887636474771862466:=()
 tw17854869079212818720:=()
 tw10591230408534834715:=()
 tw3721865317989640438:=()
 tw6184835702920788143:=()
 tw15437228832114043913:=()
 tw11054454232050382335:=()
 tw16466241990294007060:=()
 tw4552003617368467473:=()
 tw334296843119155121:=()
 tw13381385706363102812:=()
 tw9608419107795880787:=()
 tw3175865453936709511:=()
 tw7148626649637015434:=()
 tw4665250467857801326:=()
 tw8709338254468618210:=()
 tw9218068650065682549:=()
 tw1628641785106422202:=()
 tw13877531812806187403:=()
 tw375111973146000053:=()
 tw4454806769678660409:=()
 tw3624726822470127269:=()
 tw5243657356911773533:=()
 tw14120597282628693613:=()
 tw5806992764682748195:=()
 tw9800809584572067455:=()
 tw8950711149202402606:=()
 tw12523376386540474026:=()
 tw6083348832095747002:=()
 tw6108301325764014678:=()
 tw11461256080684915371:=()
 tw10763024138073805835:=()
 tw7518378896317037448:=()
 tw6111866238644405238:=()
 tw3785249447794169362:=()
 tw16482664090986382131:=()
 tw16829039105495477819:=()
 tw17115614122280698879:=()
 tw15380740291165813283:=()
 tw214971074088482394:=()
 tw16540826905462094390:=()
 tw996183776714164116:=()
 tw2838096345868633617:=()
 tw2027607826801524449:=()
 tw8951332567844903118:=()
 tw15851199306638197303:=()
 tw6394350475882750572:=()
 tw403653195280981724:=()
 tw7103320679340770488:=()
 tw17309631352510433009:=()
 tw16104342750509706574:=()
 tw11081223955777901075:=()
 tw8033195554637914304:=()
 tw2470082265073694467:=()
 tw6713323792108462357:=()
 tw12822225088679104650:=()
 tw12019023255804343939:=()
 tw12448162404254079818:=()
 tw10523020402768044673:=()
 tw15674253109591192814:=()
 tw17542190505504060502:=()
 tw12935071006792558327:=()
 tw8861693834490780057:=()
 tw1669121499090396109:=()
 tw11851326788300386653:=()
 tw16644156224409779451:=()
 tw7726064341229550396:=()
 tw3028648389046277265:=()
 tw1151968318802792181:=()
 tw10816462946548525610:=()
 tw18216278442656419466:=()
 tw3607930568807113692:=()
 tw14641313520749076729:=()
 tw13136518563926568059:=()
 tw17111486907924649722:=()
 tw16115751528147499344:=()
 tw752806891191917602:=()
 tw350150120548492673:=()
 tw16292389959621583259:=()
 tw11633950989104511089:=()
 tw4134775914849491113:=()
 tw14556952641909305061:=()
 tw2904758962132506322:=()
 tw3899592589317277126:=()
 tw17990432314089109048:=()
 tw16852298508597314980:=()
 tw14029231475398645050:=()
 tw3730155299701551361:=()
 tw16804254376683219676:=()
 tw8108221537429601301:=()
 tw9405167069003763608:=()
 tw2419725187087883108:=()
 tw13676624990725978573:=()
 tw8294823181378046553:=()
 tw1662054664027396863:=()
 tw6448878446508792203:=()
 tw16712342699376575684:=()
 tw7492259083681618593:=()
 tw5486960315791057980:=()
 tw8396439101030021342:=()
 tw11813451718987369132:=()
 tw9693476017842400623:=()
 tw1060279367342965886:=()
 tw4207229246509022044:=()
 tw17272145447863904322:=()
 tw15240652811098344390:=()
 tw536889261755214461:=()
 tw16455182673868451936:=()
 tw8199897299623371073:=()
 tw5277432454702360139:=()
 tw13645659693008268559:=()
 tw16831947518359808650:=()
 tw12154432320162978540:=()
 tw18392589554984015359:=()
 tw13031694577480105999:=()
 tw7187444860776335992:=()
 tw11495525694488604921:=()
 tw8106475758694945197:=()
 tw12687783715718422047:=()
 tw2680984974169209170:=()
 tw9914722599368508949:=()
 tw3737649827161037232:=()
 tw4633786794081296250:=()
 tw4277581360061218397:=()
 tw16452140076446440200:=()
 tw8442402874835205779:=()
 tw1522259847665943720:=()
 tw6969577999750136139:=()
 tw6795244864648080120:=()
 tw6243906449187380623:=()
 tw2106598377072449874:=()
 tw3626430406971557751:=()
 tw14578627979478309663:=()
 tw8780688616982415425:=()
 tw7853282161686469877:=()
 tw5323518561508089273:=()
 tw10126965598915170164:=()
 tw4029300421579840055:=()
 tw10998450658332176932:=()
 tw6337873048384276067:=()
 tw2658128556641658355:=()
 tw10774846462055440405:=()
 tw8261849406377714693:=()
 tw2411301264102719887:=()
 tw598801333113425180:=()
 tw361572797394679920:=()
 tw5541056596755060569:=()
open PySem PySem.W PyProof.Rows
set_option maxRecDepth 100000 in
set_option maxHeartbeats 0 in
theorem PySem.Challenge.cw_brooktally_k35_whole_keys_moved_holds : PySem.Challenge.rw_brooktally_k35_whole_keys_moved.Holds := by
  w_on; o_law; k_head; (case hw => w_witness2)
  k_fill
  refine yF (l := ACW) (n := 63) (k := Ou) (x := "_law_script") (CX := BC) (sp := NY) rfl (by decide) rfl ⟨rfl, by decide, by decide⟩ (fun w h Y => W.kIn_of Y) ?F iO (fun O O O O z => z)
  case F =>
    intro w mg fa h KX G hmg
    refine' gJ hmg ?T
    case' T => constructor
    all_goals try dsimp only
    all_goals first
      | (refine' AAJ KX G ?_; k_is)
      | (refine' W.mg_none_of KX G ?_; k_is)
      | (refine' i5 KX G ?_; any_goals k_is)
      | (refine' ⟨?_, ?_, ?_, ?_⟩ <;> k_is)
      | (first
          | refine' TF ⟨AAJ KX G ?_, ?_⟩ ?_ ?_ ?_ Rt ?_
          | refine' TF ⟨?_, ?_, ?_⟩ ?_ ?_ ?_ Rt ?_
          | refine' TF ⟨?_, ?_, ?_, ?_⟩ ?_ ?_ ?_ Rt ?_); (any_goals k_is); intro _ _ _ _ _ _ us hl; first | (obtain ⟨_, rfl⟩ := qB hl; rfl) | (obtain ⟨_, _, rfl⟩ := qC hl; rfl) | (obtain ⟨_, _, _, rfl⟩ := qE hl; rfl) | (obtain ⟨_, _, _, _, rfl⟩ := qG hl; rfl) | (obtain ⟨_, _, _, _, _, rfl⟩ := qH hl; rfl)
      | k_is
      | (refine' Ud ?_ ?_ ?_; any_goals k_is)
      | k_exc
      | kit_is
      | kts_exm
      | (refine' gY ?_ ?_ ?_ ?_ ?_ ?_; any_goals k_is)
      | (refine' jK ?_; any_goals k_is)
      | (refine' pS ?_ ?_ ?_; (any_goals k_is); (first | decide | exact (by decide : 2 ≤ sizeLine) | exact (by decide : 4 ≤ sizeLine)); repeat (first | exact .nil | refine .cons ?_ ?_ | exact ⟨_, rfl⟩ | rfl))
      | (unfold Eg; k_is)
      | skip
