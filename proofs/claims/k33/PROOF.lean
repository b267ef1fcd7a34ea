import PyProof.Rows.All
import Wide.All
import OpenK.AllK
import Wide.FinOn
import Lean
import PyProof.EqAt
import PyProof.EqKinds
import PyProof.TupleCall
import PySem.Challenge.RW_brooktally_k33_a_key_given_up
set_option Elab.async false
set_option linter.all false
set_option maxRecDepth 100000
set_option tactic.hygienic false
set_option maxHeartbeats 4000000
open PySem PySem.Spec PyProof.Rows
open _root_.Array renaming length_toList->Mb,getElem?_toList->Ot,perm_iff_toList_perm->S7,toList_append->Wc,size_map->fJ,toArray_toList->fK,toList_extract->fL,append_empty->AA5,toList_map->AA6,toList_push->AA7,toList_setIfInBounds->AA8
open _root_.Array.Perm renaming refl->Wb
open _root_.Bool renaming true->AJ,false->AR,false_ne_true->Dw,noConfusion->Iu,false_eq_true->Lk,and_eq_true->Qn,and_self->S8,and_eq_true_iff->Wd,eq_iff_iff->We,and_comm->fR,and_false->AA9,not_false->ABA,not_true->ABB,or_eq_true->ABC
open _root_.Classical renaming epsilon->Wf,epsilon_spec->Wg,byContradiction->ABD,not_not->ADu
open _root_.Decidable renaming decide->Aa,byContradiction->ABE
open _root_.Eq renaming trans->Ou
open _root_.False renaming elim->HV
open _root_.ForIn renaming forIn->IK
open _root_.ForInStep renaming yield->S9
open _root_.Inhabited renaming default->fZ
open _root_.Int renaming emod_nonneg->HW,le_trans->HY,natCast_inj->Iv,emod_lt_of_pos->JS,lt_of_le_of_lt->JT,lt_of_lt_of_le->JU,le_of_lt->K6,ne_of_gt->K7,le_of_not_gt->NY,le_add_of_nonneg_right->Qo,lt_trans->Qp,lt_asymm->TB,lt_of_not_ge->TC,not_le_of_gt->TF,toNat_le->TH,lt_add_of_le_of_pos->Wj,lt_add_of_neg_add_lt->Wk,mul_pos->Wl,zero_add->Wm,add_lt_of_lt_sub_left->f6,le_max_right->f7,lt_irrefl->f9,min_le_right->gB,ofNat_le->gC,pos_iff_toNat_pos->gD,ediv_nonneg->ABF,le_add_one->ABG,le_antisymm->ABH,le_max_left->ABI,le_min->ABJ,le_of_lt_add_one->ABK,le_refl->ABL,le_total->ABM,lt_iff_le_and_ne->ABN,min_eq_left->ABO,mul_le_mul_of_nonneg_right->ABP,mul_nonneg->ABQ,natCast_le_zero->ABR,not_lt->ABS,not_ofNat_neg->ABT,ofNat_lt->ABU,sub_le_of_sub_le->ABV,sub_le_self->ABW,sub_right_le_iff_le_add->ABX,toNat_of_nonneg->ABY
open _root_.LawfulMonad renaming pure_bind->bZ
open _root_.List renaming length_map->As,mem_map->BE,getElem?_eq_some_iff->BU,getElem?_map->Bs,mem_singleton->By,length_append->B8,getElem?_eq_getElem->CG,map_append->CQ,mem_cons->Ca,mem_of_getElem?->Cg,cons->Ct,map_map->Cu,nil->Cv,append_nil->C2,mem_append->DS,mem_filter->DT,take_add_one->Dt,length_filter_le->D3,mem_cons_self->D4,append_assoc->Ea,pairwise_map->Eb,range->Ec,take_of_length_le->Ed,flatMap_cons->Ek,length_take->El,map_cons->FL,mem_iff_getElem->FN,replicate->FO,mem_append_right->Fj,mem_cons_of_mem->GH,take_length->GI,filter_append->GZ,filter_cons->Gp,pairwise_iff_getElem->Gq,filter_congr->IA,filter_eq_nil_iff->IB,filter_filter->IC,mem_of_mem_tail->ID,nodup_cons->IE,mem_append_left->Ic,size_toArray->Ie,length->JN,length_range->JO,pairwise_cons->JP,filter_sublist->Jz,length_cons->Kw,getElem?_zip_eq_some->MR,map_congr_left->MS,filter_eq_self->NI,filter_map->NJ,getElem_take->NK,length_drop->NL,any_eq_true->OO,getElem?_append_left->OP,pairwise_append->OQ,range_succ->OR,zip->OS,filter_cons_of_neg->P9,getElem?_append_right->QA,lookup->QB,perm_nil->QC,take_append_drop->QD,cons_append->Sa,filter_cons_of_pos->Sb,find?_cons->Se,nil_append->Sf,not_mem_nil->Sg,perm_append_comm->Sh,any_cons->Vw,extract_eq_take_drop->Vx,filter->Vy,flatMap_append->Vz,getElem?_eq_none_iff->V0,length_nil->V1,map_eq_nil_iff->V2,map_id->V3,mem_flatMap->V4,mem_iff_getElem?->V5,mem_range->V6,take_zero->V7,drop_eq_getElem_cons->cA,eq_nil_of_length_eq_zero->cC,flatMap_eq_nil_iff->cD,foldl_cons->cE,getElem?_take_of_lt->cF,getElem_map->cG,length_pos_of_mem->cH,map_flatMap->cJ,map_nil->cK,map_take->cL,mem_of_mem_drop->cM,mem_of_mem_take->cN,nodup_append->cO,of_mem_zip->cP,take->cQ,Perm->yH,drop_drop->yJ,ext_getElem?->yK,filterMap_cons->yL,foldl_append->yM,getElem?_eq_none->yN,getElem_inj->yO,getElem_mem->yP,length_singleton->yQ,map_snd_zip->yR,ne_nil_of_mem->yS,nodup_range->yT,pairwise_reverse->yU,pairwise_singleton->yV,perm_append_left_iff->yW,replicate_succ->yX,take_sublist->yY,Nodup->ABZ,Pairwise->ABa,all_cons->ABd,drop_of_length_le->ABe,drop_sublist->ABf,filter_nil->ABg,find?_some->ABh,flatMap_singleton->ABi,flatten_cons->ABj,foldl->ABk,getElem?_replicate->ABl,getElem?_set_ne->ABm,getElem?_set_self->ABn,length_replicate->ABo,length_zip->ABp,map_id'->ABq,mem_filterMap->ABr,mem_reverse->ABs,pairwise_lt_range->ABt,perm_ext_iff_of_nodup->ABu,perm_middle->ABv,take_add->ABw,zip_cons_cons->ABx
open _root_.List.Nodup renaming sublist->ADv
open _root_.List.Pairwise renaming imp_of_mem->ADw,nil->ADx
open _root_.List.Perm renaming of_eq->SY,trans->Vv,cons->b3,swap->b8,append_left->yI,append_right->ABb,append->ADy,map->ADz,refl->AD0
open _root_.List.Sublist renaming map->ABc,eq_of_length_le->AD1
open _root_.List.cons renaming inj->C9
open _root_.Max renaming max->Lc
open _root_.Min renaming min->D5
open _root_.Nat renaming le_trans->Ah,le_refl->Ak,zero_le->BY,lt_of_lt_of_le->Bh,le_of_eq->Bw,le_of_lt->B6,le_of_lt_succ->DM,lt_of_le_of_ne->EL,le_of_add_right_le->ET,ne_of_lt->Ee,add_le_add_left->FX,le_antisymm->Fm,le_of_not_lt->Ga,le_one_iff_eq_zero_or_eq_one->Gr,lt_of_le_of_lt->Gs,lt_of_succ_lt->IF,add_sub_cancel'->Ig,lt_succ_self->JQ,sub_succ_lt_self->JR,add_one_le_add_one_iff->J3,lt_irrefl->J4,min_le_left->J5,le_succ_of_le->Kx,one_le_iff_ne_zero->Ky,add_lt_of_lt_sub'->Ld,le_sub_iff_add_le'->MT,lt_of_not_le->MU,sub_one_lt_of_le->MV,lt_add_one_iff->NM,ne_of_gt->NN,add_le_add_right->OT,add_lt_add_left->OU,le_add_right->OV,not_lt_zero->OW,le_of_add_left_le->QE,min_le_right->QF,succ_le_succ->QG,le_of_ble_eq_true->Si,le_succ->Sj,sub_lt_iff_lt_add'->Sk,sub_lt_of_lt->Sl,sub_lt_right_of_lt_add->Sm,add_comm->V8,add_zero->V9,le_add_right_of_le->WA,le_sub_iff_add_le->WB,lt_of_add_right_lt->WC,lt_sub_iff_add_lt'->WD,not_lt->WE,sub_lt->WG,eq_of_le_of_lt_succ->cR,le_of_succ_le_succ->cU,le_sub_of_add_le->cV,lt_iff_add_one_le->cW,lt_trans->cX,lt_trichotomy->cY,min_eq_left->cZ,mul_le_mul->c6,sub_le_sub_iff_right->c7,sub_self->c8,sub_sub_self->c9,succ_pos->dA,add_le_add->yZ,le_add_left_of_le->y3,le_pred_iff_lt->y4,lt_add_left->y6,lt_add_one_of_lt->y7,lt_or_ge->y8,lt_succ_of_lt->y9,not_succ_le_zero->zA,sub_eq_iff_eq_add->zB,sub_le->zC,sub_ne_zero_iff_lt->zD,sub_one_lt_of_lt->zE,sub_sub_sub_cancel_right->zF,add_eq_right->ABy,add_one_inj->ABz,add_right_cancel_iff->AB0,eq_zero_of_le_zero->AB1,le_mul_of_pos_left->AB2,le_of_add_le_add_left->AB3,le_sub_one_of_lt->AB4,lt_one_iff->AB5,max_eq_right->AB6,not_lt_of_ge->AB7,not_lt_of_le->AB8,succ_lt_succ->AB9
open _root_.Ne renaming symm->Gb
open _root_.Not renaming imp->OX
open _root_.Option renaming some->AA,none->AG,map_eq_some_iff->Du,map_some->dB,isSome_iff_exists->zG,isSome_map->zH,getD_none->ACA
open _root_.Option.some renaming inj->B9
open _root_.Or renaming inl->Fo,inr->zI,intro_right->zJ
open _root_.Prod renaming ext->NO,fst->ACB,snd->ACC
open _root_.Prod.mk renaming inj->WH
open _root_.Pure renaming pure->Bo
open _root_.PyProof renaming noPylong_small->zT
open _root_.PyProof.Rows renaming arrOf->Ai,Keyed->BF,wpS_bind->BK,wpS_pure->BZ,pendingOf->CD,seqObj->Cd,SortSt->Ci,wpS->FE,wpS_forRange->IG,wpS_mono->Ih,boot_sorted->J6,pairsOf->J7,wpS_modify->J8,envOfC->MW,ltAt'->MX,wpS_get->MY,AllBare->NP,boot_list->NR,failedOf->NS,reverseSlice'->NT,SortKind->QH,callWith_type1->QI,listUpdate_at->QJ,setArr->QK,wpS_lift->QL,IntsAre->Sn,Call_->WI,IsTup->WJ,KeyOrd->WK,boot_max->WM,elem'->WN,get?_update_seq->WO,pairsOf_toList->WQ,seqEpoch_at->WR,boot_range->dE,keyKind'->dF,kindOf->dG,mirror->dH,setPending->dI,slot_tuple_getitem->dJ,Subscript_->zK,boot_min->zL,elem'_eq->zM,eqGives_str->zN,ksk_tail->zO,listItems_at->zP,lt_int->zQ,mem_zip_self->zR,sortedHeap->zS,boot_int->ACF,boot_isinstance->ACG,entry_list_sort->ACI,getElem?_bubble->ACK,getElem?_mirror_all->ACL,keyLt'_oneType->ACN,lt_str->ACO,reverseSlice'_eq->ACR,slicePart_none->ACS,slot_list_sort->ACT,subscriptTail_builtinR->ACU,boot_tuple->AD2,callWith_builtin1->AD3
open _root_.PyProof.Rows.IsTup renaming new->ACD
open _root_.PyProof.Rows.KeyOrd renaming kle_trans->HQ,kle_of_klt->Kz,kle_refl->NQ,klt_of_kle_of_klt->ACE
open _root_.PyProof.Rows.SortSt renaming mk'->dC
open _root_.PySem renaming Addr->AE,Str->AF,Value->AL,Shared->AZ,model->Ar,sizeLine->Ay,Paired->Az,wpAny->BB,wpAny_bind->BL,Obj->BP,Expr->BS,Heap->Bb,eval->Be,World->CA,Program->Ce,starEach->Co,wpAny_pure->Cp,Pos->C3,Stmt->DA,PyData->DG,sizeLine_eq->DW,Around->Dj,Sem->D6,Env->Ef,compareOp->FF,Scope->F6,cLine->GL,backTo->Gd,binaryOp->G6,boot_len->HR,valueAt->HS,wpAny_mono->II,FuncData->Im,call->Ip,Tok->J9,attributeBase->KA,sysModules->K4,mainGlobals->Li,Keyword->MZ,NameKind->Ma,IsPart->NU,wpAny_rule->NW,Model->Oa,atKey->Oe,call_meets->Of,codeAny->Og,foldedSetIterable->Oh,getItem->Oi,lookup_relabel_local->Oj,swapsWith->Ol,CmpOp->QM,assignEach->QR,backToKw->QS,behindInMarks->QT,bindC->QU,bindL->QV,bootBuiltins->QW,callerA->QX,keywordEach->QY,mem_of_lookup->QZ,sliceBounds->Qa,stored->Qb,wpAny_Call_Name_kw->Qc,wpAny_passesOwn->Qd,BindsTo->So,codeAny_mono->Sw,wpAny_Call_method->Sx,wpAny_holding->Sy,wpAny_truthy_bool->Sz,call_meetsIn->WV,isTrue->WW,tupleKind->WX,tupleKind_room_in1->WY,DictEntry->dO,Fin->dQ,IsRangeIter->dR,Params->dW,PlainAttrs->dX,getMethod->eI,numAt_eq->eJ,pyIter->eK,subscripted->eL,typeOf->eM,wpAny_execs_nil->eO,wpAny_newList->eP,Within->AAV,bindArgs->AAW,builtinsNs->AAX,cellsFrom->AAY,closureFor->AAZ,evalArgs_none->AAb,letOwnedTupleGo->AAe,typeIs_int->AAh,typeIs_str->AAi,wpAny_Name->AAk,wpAny_call->AAl,wpAny_field->AAm,wpAny_newObj_type->AAn,wpAny_standAt->AAo,arm_execs_cons->ADR,call_list_seq->ADS,codeAny_builtin->ADU,dictSetDefault->ADW,findBy_of_findIdx?->ADX,intBits_le_64->ADY,list_append->ADZ,method_meetsIn->ADa,noFill_tuple_add->ADb,nums_intItems->ADc,recursionLimit->ADd,richCompare_meets_room->ADe,seq_tuple_add->ADg,slot_list_getitem->ADh,wpAny_assign_Name->ADi,wpAny_attempt->ADj,wpAny_call_entry->ADk,wpAny_execs_cons->ADl,wpAny_forIn_list->ADm,wpAny_isTrue_Compare1->ADn,wpAny_newTuple->ADo,wpAny_pyIter_enum->ADp,wpAny_pyIter_range->ADq,wpAny_pyIter_rangeiter->ADr,wpAny_pyNext_range_end->ADs
open _root_.PySem.AutoListH renaming list___mul___list_int_3->AD4
open _root_.PySem.Builtin.List renaming listTooLong->zU,listFitsIndex->AD5
open _root_.PySem.Builtin.Range renaming rangeSize->dM,small->dN,rangeFitsLong->ACV
open _root_.PySem.Builtin.Slice renaming sliceAdjust->zV,slicePlaces->zW,sliceApplied->AD6,slicePartIndex->AD7
open _root_.PySem.Builtin.Tuple renaming tupleCompareSizes->AD8,tupleItemsOf->AD9
open _root_.PySem.Calls renaming spliced_cons->Le,spliced_nil->OY,callWith_builtin->Sq,evalArgs_plain->WS,Name_function_global->ACW
open _root_.PySem.Challenge renaming rw_brooktally_k33_a_key_given_up->ACX,pw_brooktally_k33_a_key_given_up->AEA
open _root_.PySem.CmpOp renaming In->ACY,NotIn->ACZ
open _root_.PySem.DictEntry renaming refKey->AEB
open _root_.PySem.EqMixed renaming eq_bool_str->AEC,eq_int_str->AED,eq_str_bool->AEE,eq_str_int->AEF,ne_bool_str->AEG,ne_int_str->AEH,ne_str_bool->AEI,ne_str_int->AEJ
open _root_.PySem.EqNone renaming eq_bool_none->AEK,eq_int_none->AEL,eq_none_bool->AEM,eq_none_int->AEN,eq_none_none->AEO,eq_none_str->AEP,eq_str_none->AEQ,ne_bool_none->AER,ne_int_none->AES,ne_none_bool->AET,ne_none_int->AEU,ne_none_none->AEV,ne_none_str->AEW,ne_str_none->AEX
open _root_.PySem.F renaming plainAttrs_list->Lf,slot_list_extend->OZ,type_list_extend->QN,plainAttrs_dict->Sr,slot_dict_pop->dP,slot_dict_get->zZ,slot_list_append->AAA,slot_list_clear->AAB,args_dict_get_3->ACa,args_dict_pop_3->ACb,args_list_append_2->ACc,args_tuple_add_2->ACd,entry_dict_get->ACe,entry_dict_pop->ACf,entry_list_append->ACg,entry_tuple_add->ACh,entry_tuple_lt->ACi,slot_dict_items->ACj,slot_dict_setdefault->ACk,slot_dict_values->ACl,slot_int_rmul->ACm,slot_list_index->ACn,slot_tuple_add->ACo,slot_tuple_index->ACp,slot_tuple_lt->ACq,type_dict_pop->ACr,type_list_clear->ACs
open _root_.PySem.Flow renaming brk->Ii,cont->Ij,next->Ik,ret->Il
open _root_.PySem.Heap renaming lt_size->Cw,get?_push_of_some->DN,get?_push_size->Gu,SameBut->QO,get?_update_ne->AAC,size_push->AAD,get?_none_of_le->ACt,get?_update_other->ACu
open _root_.PySem.Heap.DictOf renaming new->AEY
open _root_.PySem.Heap.IsSliceOf renaming new->AEZ
open _root_.PySem.Heap.SameBut renaming update->WT
open _root_.PySem.IsL renaming update->ACv
open _root_.PySem.IsRange renaming new->AAE
open _root_.PySem.MeetsSeq.EqGives renaming int->AEa
open _root_.PySem.NameKind renaming free->NV,cell->dU
open _root_.PySem.Obj renaming mapSeq->Em,data_mapDictKeys->ACw
open _root_.PySem.Paired renaming cons->Bz,nil->EG,length->Io,snoc->ACx
open _root_.PySem.PassesOwn renaming never->DF
open _root_.PySem.PyData renaming depthAll->EU,canLayAll0->FY,canLay0->GJ,depth->GK,strOk->K0,eqv->Ob,int->Oc,eqvAll->dY
open _root_.PySem.SeqAt renaming shaped->F7,EqAt->dZ,canLay_of_shaped->AC1,eqv_refl->AC2
open _root_.PySem.SeqAt.EqAt renaming int_str->ACy,same->ACz,str_int->AC0,bool_bool->AEb,bool_int->AEc,bool_none->AEd,bool_str->AEe,int_bool->AEf,int_int->AEg,int_none->AEh,none_bool->AEi,none_int->AEj,none_str->AEk,str_bool->AEl,str_none->AEm,str_str->AEn
open _root_.PySem.SeqAt.RcNeAt renaming lists->AEo,lists_lengths->AEp
open _root_.PySem.Str renaming length_append->d4,length->AC3,ofString->AC4
open _root_.PySem.StrLaws renaming sliceText->AC5
open _root_.PySem.Txt renaming slice->Lg
open _root_.PySem.Value renaming ref->Dk,int->QP,str->QQ,bool->WU,float->AAH,none->AAI,type->AAJ,bytes->AC6,isInt->AC7,isStrOf->AC8
open _root_.PySem.W renaming Frag->Ax,findIn->IH,kia_one->Lh,fnOf->Od,OpenLaw->Ss,instObj->Su,keepIn->Sv,KatLex->d5,codeIn->d6,emptyDict->d7,kat_cons->d8,kat_kind->d9,lookIn->eB,plainGet->eC,subIn->eG,WalkO->AAK,callWith_K->AAL,hasDictIn->AAM,isFn->AAN,kat_go->AAO,kat_no->AAP,kat_one->AAQ,kat_yes->AAR,mg_of->AAS,plainGet_of->AAT,takerIn->AAU,KatTups->AC9,callWith_K0->ADC,cellsFrom_some->ADD,clsIn->ADE,handedIn->ADF,kas_kind->ADG,kat_lt->ADH,kat_nil->ADI,kdl_dict->ADJ,kitOne->ADK,kitx_dict->ADL,kitx_list->ADM,makesIn->ADN,methodCall_KW->ADO,plainOver->ADP
open _root_.PySem.W.KatTups renaming cons->ADA
open _root_.PySem.W.Looks renaming here->AEq
open _root_.PySem.W.WData renaming int->ADB
open _root_.PySem.Walks renaming range->ADQ
open _root_.PySem.Within renaming cons->AEr
open _root_.StateT renaming run_pure->ADt
open _root_.Std.Legacy.Range renaming forIn_eq_forIn_range'->AEs,size->AEt
open _root_.Sum renaming inr->Bt,inl->C5
open _root_.Sum.inl renaming inj->Fq
open _root_.Sum.inr renaming inj->Ft
open _root_.True renaming intro->HU
def AEu:=@if_neg
def AEv:=@if_pos
def AEw:=@congrArg
def AEx:=@decide_eq_true
def AEy:=@of_decide_eq_true
def AEz:=@decide_eq_false
def AE0:=@if_false
def AE1:=@decide_eq_true_eq
def AE2:=@if_true
def AE3:=@lt_of_lt_of_eq
def AE4:=@of_decide_eq_false
def AE5:=@beq_iff_eq
def AE6:=@beq_eq_false_iff_ne
def AE7:=@le_of_eq_of_le
def AE8:=@or_false
def AE9:=@beq_self_eq_true
def AFA:=@bne_self_eq_false
def AFB:=@getElem?_pos
def AFC:=@le_of_le_of_eq
def AFD:=@or_congr_right
structure Y3(p:Prop):Prop where go:p->False
theorem rG(h:Y3 p->False):p:=ABD λg=>h ⟨g⟩
section
set_option hygiene false in
local macro_rules | `(tactic| lk) => `(tactic| refine rG fun nG0 => ?_)
set_option hygiene false in
local macro_rules | `(tactic| k_in) => `(tactic| (rename Y3 _ => nG0; refine nG0.go ?_; try clear nG0))
local macro_rules | `(tactic| obtain $p : _ := $e) => `(tactic| (lk; obtain $p := $e; k_in))
local macro_rules | `(tactic| show $t) => `(tactic| refine $t)
inductive Gk{a:Type}(A B:a->Prop):Prop|mk(a:a)(_:A a)(_:B a)
inductive Jn{a:Type}(A B C:a->Prop):Prop|mk(a:a)(_:A a)(_:B a)(_:C a)
inductive Y7{a:Type}(A B C D:a->Prop):Prop|mk(a:a)(_:A a)(_:B a)(_:C a)(_:D a)
inductive LS{a b:Type}(A B:a->b->Prop):Prop|mk(a:a)(b:b)(_:A a b)(_:B a b)
inductive Ey{a b:Type}(A B C:a->b->Prop):Prop|mk(a:a)(b:b)(_:A a b)(_:B a b)(_:C a b)
inductive LU{a b:Type}(A B C D:a->b->Prop):Prop|mk(a:a)(b:b)(_:A a b)(_:B a b)(_:C a b)(_:D a b)
inductive Kj{a b:Type}(A B C D E:a->b->Prop):Prop|mk(a:a)(b:b)(_:A a b)(_:B a b)(_:C a b)(_:D a b)(_:E a b)
inductive Rn{a b:Type}(A B C D E F:a->b->Prop):Prop|mk(a:a)(b:b)(_:A a b)(_:B a b)(_:C a b)(_:D a b)(_:E a b)(_:F a b)
inductive Ro{a b c:Type}(A B C:a->b->c->Prop):Prop|mk(a:a)(b:b)(c:c)(_:A a b c)(_:B a b c)(_:C a b c)
inductive Pg{a b c:Type}(A B C D:a->b->c->Prop):Prop|mk(a:a)(b:b)(c:c)(_:A a b c)(_:B a b c)(_:C a b c)(_:D a b c)
inductive N7{a b c:Type}(A B C D E:a->b->c->Prop):Prop|mk(a:a)(b:b)(c:c)(_:A a b c)(_:B a b c)(_:C a b c)(_:D a b c)(_:E a b c)
inductive Y8{a b c:Type}(A B C D E F:a->b->c->Prop):Prop|mk(a:a)(b:b)(c:c)(_:A a b c)(_:B a b c)(_:C a b c)(_:D a b c)(_:E a b c)(_:F a b c)
inductive Y9{a b c:Type}(A B C D E F G:a->b->c->Prop):Prop|mk(a:a)(b:b)(c:c)(_:A a b c)(_:B a b c)(_:C a b c)(_:D a b c)(_:E a b c)(_:F a b c)(_:G a b c)
inductive U0{a b c d:Type}(A B C D E:a->b->c->d->Prop):Prop|mk(a:a)(b:b)(c:c)(d:d)(_:A a b c d)(_:B a b c d)(_:C a b c d)(_:D a b c d)(_:E a b c d)
inductive Rp{a b c d:Type}(A B C D E F:a->b->c->d->Prop):Prop|mk(a:a)(b:b)(c:c)(d:d)(_:A a b c d)(_:B a b c d)(_:C a b c d)(_:D a b c d)(_:E a b c d)(_:F a b c d)
inductive ZA{a b c d:Type}(A B C D E F G H:a->b->c->d->Prop):Prop|mk(a:a)(b:b)(c:c)(d:d)(_:A a b c d)(_:B a b c d)(_:C a b c d)(_:D a b c d)(_:E a b c d)(_:F a b c d)(_:G a b c d)(_:H a b c d)
inductive ZC{a b c d e:Type}(A B C D E F:a->b->c->d->e->Prop):Prop|mk(a:a)(b:b)(c:c)(d:d)(e:e)(_:A a b c d e)(_:B a b c d e)(_:C a b c d e)(_:D a b c d e)(_:E a b c d e)(_:F a b c d e)
inductive ZD{a b c d e:Type}(A B C D E F G:a->b->c->d->e->Prop):Prop|mk(a:a)(b:b)(c:c)(d:d)(e:e)(_:A a b c d e)(_:B a b c d e)(_:C a b c d e)(_:D a b c d e)(_:E a b c d e)(_:F a b c d e)(_:G a b c d e)
abbrev AK:=Sum Int AF
def MO:AK->AL->Bool|.inl k,v=>AC7 k v|.inr x,v=>AC8 x v
def tR(w:CA):AK->Int|.inl k=>hashInt k|.inr x=>hashStr w x
theorem Kn:∀{k:AK}{v:AL},MO k v=AJ->(∃i t,k=C5 i/\v=QP i t)\/(∃x t,k=Bt x/\v=QQ x t)|.inl i,v,h=>by obtain⟨t,e⟩:=Value.isInt_shape h;show .inl ⟨i,t,rfl,e⟩|.inr x,v,h=>by obtain⟨t,e⟩:=Value.isStrOf_shape h;show .inr ⟨x,t,rfl,e⟩
theorem tT(i:Int)(t:J9):MO (.inl i) (.int i t)=AJ:=by simp[MO,AC7]
theorem tU(x:AF)(t:J9):MO (.inr x) (.str x t)=AJ:=by simp[MO,AC8]
theorem tV(a b:Int):Aa ((C5 a:AK)=C5 b)=(a==b):=by
 by_cases e:a=b;.subst e;simp
 . have h:¬(C5 a:AK)=C5 b:=λq=>e (Fq q);rw[AEz h];show(AE6.mpr e).symm
theorem tY(a b:AF):Aa ((Bt a:AK)=Bt b)=Aa (a=b):=by
 by_cases e:a=b;.simp
 . have h:¬(Bt a:AK)=Bt b:=λq=>e (Ft q);rw[AEz h,AEz e]
theorem tW(a:Int)(b:AF):Aa ((C5 a:AK)=Bt b)=AR:=AEz (λq=>nomatch q)
theorem tX(a:AF)(b:Int):Aa ((Bt a:AK)=C5 b)=AR:=AEz (λq=>nomatch q)
def E2(prog:Ce)(w:CA):KeyKind prog w AK where
  is:=MO
  hash:=tR w
  inj:=λv a b V U=>by
    rcases Kn V with⟨i,t,rfl,rfl⟩|⟨x,t,rfl,rfl⟩
    . rcases Kn U with⟨j,u,rfl,e⟩|⟨y,u,rfl,e⟩;.injection e with D _;rw[D]
      .show nomatch e
    . rcases Kn U with⟨j,u,rfl,e⟩|⟨y,u,rfl,e⟩;.show nomatch e
      .injection e with D _;rw[D]
  byValue:=λk v h=>by rcases Kn h with⟨i,t,rfl,rfl⟩|⟨x,t,rfl,rfl⟩<;>rfl
  pyHash:=λJ h=>by
    rcases Kn J with⟨i,t,rfl,rfl⟩|⟨x,t,rfl,rfl⟩;.show wpAny_pyHash_int h
    .show wpAny_pyHash_str h
  eqBool:=λW J h=>by
    rcases Kn W with⟨i,t,rfl,rfl⟩|⟨x,t,rfl,rfl⟩
    . rcases Kn J with⟨j,u,rfl,rfl⟩|⟨y,u,rfl,rfl⟩;.rw[tV]at h;show wpAny_eqBool_int h
      .rw[tW]at h;show ACy i t y u _ _ _ _ h
    . rcases Kn J with⟨j,u,rfl,rfl⟩|⟨y,u,rfl,rfl⟩;.rw[tX]at h;show AC0 x t j u _ _ _ _ h
      .rw[tY]at h;show wpAny_eqBool_str h
  «strs»:=λk x t v h=>by
    rcases Kn h with⟨i,u,rfl,e⟩|⟨y,u,rfl,e⟩;.show nomatch e
    . injection e with D _;subst D;cases v<;>rfl
theorem uB(prog:Ce)(w:CA)(i:Int)(t:J9):(E2 prog w).is (.inl i) (.int i t)=AJ:=tT i t
theorem uC(prog:Ce)(w:CA)(x:AF)(t:J9):(E2 prog w).is (.inr x) (.str x t)=AJ:=tU x t
inductive AD where|non|bl(b:Bool)|int(i:Int)|str(x:AF)|byt(b:Array UInt8)|flt(b:UInt64)|ref(a:AE)|ty(n:String)deriving DecidableEq
def Bj:AD->AL->Prop|.non,u=>u=AAI|.bl b,u=>u=WU b|.int i,u=>∃t,u=QP i t|.str x,u=>∃t,u=QQ x t|.byt b,u=>∃t,u=AC6 b t|.flt b,u=>∃t,u=AAH b t|.ref a,u=>u=Dk a|.ty n,u=>u=AAJ n
abbrev Bk:List AD->List AL->Prop:=Az Bj
theorem Bk.ao(r:Bk xs D):xs.length=D.length:=Io r
theorem Bk.va:∀{xs:List AD}{D:List AL}{i:Nat}{x:AD},Bk xs D->xs[i]?=AA x->∃u,D[i]?=AA u/\Bj x u|_,_,_,_,.nil,e=>by simp at e|_,_,0,_,.cons r _,e=>by simp at e;subst e;show⟨_,rfl,r⟩|_,_,i+1,x,.cons _ t,e=>by obtain⟨u,J,U⟩:_:=Bk.va t (by simpa using e);show⟨u,by simpa using J,U⟩
theorem Bk.nu(h:Bk xs D)(s:Bk ys J):Bk (xs++ys) (D++J):=by induction h with|nil=>show s|cons r _ U=>show .cons r U
theorem Bk.ace:∀{xs:List AD}{D:List AL}(n:Nat),Bk xs D->Bk (xs.take n) (D.take n)|_,_,0,_=>.nil|_,_,_+1,.nil=>.nil|_,_,n+1,.cons r t=>.cons r (Bk.ace n t)
theorem Bk.uz:∀{xs:List AD}{D:List AL}(n:Nat),Bk xs D->Bk (xs.drop n) (D.drop n)|_,_,0,r=>r|_,_,_+1,.nil=>.nil|_,_,n+1,.cons _ t=>Bk.uz n t
def LR:Option AD->Option AL->Prop|AA v,AA u=>Bj v u|AG,AG=>True|_,_=>False
def Fh:List (D×AD)->List (D×AL)->Prop:=Az λ(p:D×AD)(q:D×AL)=>p.1=q.1/\Bj p.2 q.2
def Aw:AK->AD|.inl i=>.int i|.inr x=>.str x
inductive Bn where|lst(xs:List AD)|tup(xs:List AD)|dK(kvs:List (AK×AD))|dT(kvs:List (List AK×AD))|set(S:Int->Bool)(n:Nat)|ins(C dx:AE)(fs:List (AF×AD))|own(x:AE)|xd(fs:List (AF×AD))|met(f x:AE)|rng(lo hi:Int)|frz(o:BP)(u:Bn)|tbl(ps:Array AL)|ext(φ:Bb->Prop)
abbrev AI:=AE->Option Bn
def AQ(H:AI)(a:AE)(o:Bn):AI:=λb=>if b=a then AA o else H b
theorem Af:AQ H a o a=AA o:=by unfold AQ;rw[AEv rfl]
theorem AX(h:b≠a):AQ H a o b=H b:=by unfold AQ;rw[AEu h]
theorem zzu:∀b o,b≠d->H b=AA o->AQ H d x b=AA o:=λb o n e=>(AX n).trans e
theorem uG{H:AI}(h:H a=AA o)(D:H b=AA u)(d:o≠u):a≠b:=by intro e;subst e;rw[h]at D;show d (B9 D)
theorem Bg{H:AI}(h:H a=AA o)(D:H b=AG):a≠b:=by intro e;subst e;rw[h]at D;cases D
section
variable(P:Ce)(w:CA)
def De(H:AI)(h:Bb)(a:AE):Bn->Prop|.lst xs=>xs.length<=Ay/\∃(D:List AL)(n:Nat),Bk xs D/\h.get? a=AA {cls:=.type "list",data:=.seq D.toArray n}|.tup xs=>xs.length<=Ay/\∃D:List AL,Bk xs D/\WJ h a D.toArray|.dK kvs=>kvs.length<=Ay/\(a==K4)=AR/\∃U,Fh kvs U/\h.DictOf (E2 P w) a U|.dT kvs=>kvs.length<=Ay/\(a==K4)=AR/\∃xs:List (List AK×AE×AL),Az (λ(p:List AK×AD)(q:List AK×AE×AL)=>p.1=q.1/\H q.2.1=AA (.tup (p.1.map Aw))/\Bj p.2 q.2.2) kvs xs/\∃o es ep,h.get? a=AA o/\o.ExactDict/\o.data=.dict es ep/\es.toList=xs.map (entryOfKey (WX (E2 P w)))/\(xs.map (·.1)).Nodup|.set S n=>h.SetOf (intKind P w) a S n|.ins C dx fs=>H dx=AA (.own a)/\fs.length<=1000/\dx≠a/\h.get? a=AA (Su C dx)/\∃mA,h.Ns1 dx mA/\(∀f,LR (fs.lookup f) (mA f))/\AAV mA (fs.map (·.1))|.own _=>∃o,h.get? a=AA o|.xd fs=>∃mA,h.Ns1 a mA/\∀f,LR (fs.lookup f) (mA f)|.rng lo hi=>∃t u v,h.get? a=AA {cls:=.type "range",data:=.fields #[.int lo t,.int hi u,.int 1 v]}|.frz o u=>h.get? a=AA o/\De H h a u|.tbl ps=>h.get? a=AA {cls:=.none,data:=.fields ps}|.met f x=>h.get? a=AA (W.methodObj (.ref f) (.ref x))|.ext J=>J h/\(∃o,h.get? a=AA o)/\∀h1 h2:Bb,J h1->(∀o,h1.get? a=AA o->h2.get? a=AA o)->J h2
end
def Dc(P:Ce)(w:CA)(H:AI)(h:Bb):Prop:=∀a o,H a=AA o->De P w H h a o
theorem De.lt(x:De P w H h a o):a<h.objs.size:=by cases o with|lst U=>obtain⟨_,_,_,_,e⟩:=x;show Cw e|tup U=>obtain⟨_,_,_,p⟩:=x;show p.lt|dK D=>obtain⟨_,_,_,_,o,_,_,e,_⟩:=x;show Cw e|dT D=>obtain⟨_,_,_,_,o,_,_,e,_⟩:=x;show Cw e|set S n=>obtain⟨o,_,_,_,e,_⟩:=x;show Cw e|ins C V J=>obtain⟨_,_,_,e,_⟩:=x;show Cw e|own y=>obtain⟨_,e⟩:=x;show Cw e|xd J=>obtain⟨_,⟨_,_,_,e,_⟩,_⟩:=x;show Cw e|rng Y W=>obtain⟨_,_,_,e⟩:=x;show Cw e|frz Z u=>obtain⟨e,_⟩:=x;show Cw e|tbl A=>show Cw (show h.get? a=AA _ from x)|met f y=>show Cw (show h.get? a=AA _ from x)|ext B=>obtain⟨_,⟨_,e⟩,_⟩:=x;show Cw e
theorem Y5{F G:U->V->Prop}(h:Az F D J)(f:∀a b,F a b->G a b):Az G D J:=by induction h with|nil=>show .nil|cons r _ W=>show .cons (f _ _ r) W
theorem De.vg(x:De P w H h a o)(k:∀b u,(b=a\/H b=AA (.own a))->h.get? b=AA u->F.get? b=AA u)(G:∀b,H b=AA (.own a)->H' b=AA (.own a))(I:∀b xs,H b=AA (.tup xs)->H' b=AA (.tup xs)):De P w H' F a o:=by induction o with|lst xs=>obtain⟨z,V,n,r,e⟩:=x;show⟨z,V,n,r,k _ _ (.inl rfl) e⟩|tup xs=>obtain⟨z,V,r,D,e,c⟩:=x;show⟨z,V,r,D,k _ _ (.inl rfl) e,c⟩|dK W=>obtain⟨z,y,M,r,D,U,J,e,c⟩:=x;show⟨z,y,M,r,D,U,J,k _ _ (.inl rfl) e,c⟩|dT W=>obtain⟨z,y,xs,r,D,U,J,e,c⟩:_:=x;show⟨z,y,xs,Y5 r λp q z=>⟨z.1,I _ _ z.2.1,z.2.2⟩,D,U,J,k _ _ (.inl rfl) e,c⟩|set S n=>obtain⟨D,U,J,t,e,c⟩:=x;show⟨D,U,J,t,k _ _ (.inl rfl) e,c⟩|ins C N E=>obtain⟨d,z,L,e,Y,⟨Z,U,J,B,c⟩,r⟩:_:=x;show⟨G _ d,z,L,k _ _ (.inl rfl) e,Y,⟨Z,U,J,k _ _ (.inr d) B,c⟩,r⟩|own y=>obtain⟨D,e⟩:=x;show⟨D,k _ _ (.inl rfl) e⟩|xd E=>obtain⟨Y,⟨Z,U,J,e,c⟩,r⟩:=x;show⟨Y,⟨Z,U,J,k _ _ (.inl rfl) e,c⟩,r⟩|rng Q O=>obtain⟨t,u,v,e⟩:=x;show⟨t,u,v,k _ _ (.inl rfl) e⟩|frz D u K=>obtain⟨e,q⟩:=x;show⟨k _ _ (.inl rfl) e,K q⟩|tbl R=>have e:=x;show k a _ (.inl rfl) e|met f y=>have e:=x;show k a _ (.inl rfl) e|ext T=>obtain⟨p,⟨o,e⟩,A⟩:=x;show⟨A _ _ p λo q=>k _ _ (.inl rfl) q,⟨o,k _ _ (.inl rfl) e⟩,A⟩
theorem Dc.lt(x:Dc P w H h)(e:H a=AA o):a<h.objs.size:=(x a o e).lt
theorem Dc.bz(x:Dc P w H h)(e:h.objs.size<=a):H a=AG:=by cases q:H a with|none=>rfl|some u=>show absurd (Bh (x.lt q) e) (J4 _)
theorem Dc.gw(x:Dc P w H h)(k:∀b u,h.get? b=AA u->D.get? b=AA u):Dc P w H D:=λa o e=>(x a o e).vg (λb u _ q=>k b u q) (λ_ q=>q) λ_ _ q=>q
theorem Dc.ma(x:Dc P w H h)(k:∀b u,h.get? b=AA u->J.get? b=AA u)(W:h.objs.size<=a)(D:De P w (AQ H a o) J a o):Dc P w (AQ H a o) J:=λb u e=>by
 have V:=x.bz W;by_cases U:b=a;.subst U;rw[Af]at e;cases e;show D
 . rw[AX U]at e;show(x b u e).vg (λc v _ q=>k c v q) (λc q=>by rw[AX (Bg q V)];show q) λc Y q=>by rw[AX (Bg q V)];show q
def Fi(H:AI)(a:AE)(u:Bn):Prop:=H a=AA u\/∃o,H a=AA (.frz o u)
theorem Fi.ok(r:Fi H a u)(x:Dc P w H h):De P w H h a u:=by
 rcases r with r|⟨o,r⟩;.show x a u r
 . obtain⟨_,q⟩:=x a _ r;show q
def Pb:Option Bn->Prop|AA (.lst _)=>True|AA (.dK _)=>True|AA (.dT _)=>True|AA (.set _ _)=>True|AA (.ins _ _ _)=>True|AA (.ext _)=>True|_=>False
theorem Dc.ti(K:Dc P w H h)(Y:Pb (H x))(E:e=x\/H e=AA (.own x))(k:∀b u,b≠e->h.get? b=AA u->A.get? b=AA u)(B:∃u,A.get? e=AA u)(C:De P w (AQ H x F) A x F):Dc P w (AQ H x F) A:=λb u q=>by
  have J:∀c y,H c=AA (.own y)->c≠x:=λc y r z=>by subst z;rw[r]at Y;show Y
  have U:∀c Z,H c=AA (.tup Z)->c≠x:=λc Z r z=>by subst z;rw[r]at Y;show Y
  by_cases V:b=x;.subst V;rw[Af]at q;cases q;show C
  . rw[AX V]at q;by_cases D:b=e
    . have G:H b=AA (.own x):=by
        rcases E with z|z;.show absurd (D.trans z) V
        .rw[D];show z
      rw[q]at G;cases G;obtain⟨v,I⟩:=B;show⟨v,by rw[D];show I⟩
    . show(K b u q).vg (λc v W r=>k c v ?_ r) (λc r=>by rw[AX (J c b r)];show r) λc Z r=>by rw[AX (U c Z r)];show r
      rcases W with rfl|W;.show D
      . rintro rfl;rcases E with z|z;.show J c b W z
        .rw[W]at z;cases z;show V rfl
structure Hu(fs ex:List AE)(H H':AI)(h h':Bb):Prop where
 ab:∀b o,h.get? b=AA o->H b=AG->b∉fs->b∉ex->h'.get? b=AA o
 ui:∀b o,h.get? b=AA o->H b=AG->b∈fs->b∉ex->∃sl,h'.get? b=AA {o with slots:=sl}ba:∀b o,h.get? b=AA o->H b=AG->b∉ex->H' b=AG
 nq:∀b o,h.get? b=AA o->b∉ex->∃o',h'.get? b=AA o'
 vm:∀b xs,H b=AA (.tup xs)->H' b=AA (.tup xs)ql:∀b o u,H b=AA (.frz o u)->H' b=AA (.frz o u)vk:∀b ps,H b=AA (.tbl ps)->∃more,H' b=AA (.tbl (ps++more))
theorem Hu.aax(u:Hu V ex H Z h W)(q:h.get? b=AA D)(n:H b=AG)(U:b∉ex):∃Y,W.get? b=AA {D with slots:=Y}:=by
 by_cases J:b∈V;.show u.ui b D q n J U
 .show⟨_,u.ab b D q n J U⟩
theorem Rk(k:∀b u,h.get? b=AA u->J.get? b=AA u):Hu U ex H H h J:=⟨λb D q _ _ _=>k b D q,λb D q _ _ _=>⟨_,k b D q⟩,λ_ _ _ n _=>n,λb D q _=>⟨D,k b D q⟩,λ_ _ q=>q,λ_ _ _ q=>q,λ_ V q=>⟨#[],by rw[q];simp⟩⟩
theorem rC:Hu D ex H H h h:=Rk λ_ _ q=>q
theorem rB(k:∀b u,h.get? b=AA u->J.get? b=AA u)(U:h.objs.size<=a)(D:H a=AG):Hu W ex H (AQ H a o) h J where
 ab:=λb u q _ _ _=>k b u q
 ui:=λb u q _ _ _=>⟨_,k b u q⟩
 ba:=λb u q n _=>by rw[AX (Ee (Bh (Cw q) U))];show n
 nq:=λb u q _=>⟨u,k b u q⟩
 vm:=λb V q=>by rw[AX (Bg q D)];show q
 ql:=λb u V q=>by rw[AX (Bg q D)];show q
 vk:=λb Y q=>⟨#[],by rw[AX (Bg q D),q];simp⟩
theorem rD(J:Pb (H x))(A:e=x\/H e=AA (.own x))(k:∀b u,b≠e->h.get? b=AA u->W.get? b=AA u)(U:∃u,W.get? e=AA u):Hu E ex H (AQ H x o) h W:=by
 have Z:∀b,H b=AG->b≠x:=λb n z=>by subst z;rw[n]at J;show J
 have Y:∀b,H b=AG->b≠e:=λb n z=>by
  subst z;rcases A with r|r;.show Z b n r
  .rw[n]at r;cases r
 have V:∀b u,H b=AA u->¬Pb (AA u)->b≠x:=λb u q B z=>by subst z;rw[q]at J;show B J
 show⟨λb u q n _ _=>k b u (Y b n) q,λb u q n _ _=>⟨_,k b u (Y b n) q⟩,λb u q n _=>by rw[AX (Z b n)];show n,λb u q _=>?_,λb C q=>by rw[AX (V b _ q λz=>z)];show q,λb u C q=>by rw[AX (V b _ q λz=>z)];show q,λb F q=>⟨#[],by rw[AX (V b _ q λz=>z),q];simp⟩⟩;by_cases D:b=e;.subst D;show U
 .show⟨u,k b u D q⟩
def bS(h:Bb)(H:AI):List AE:=(Ec h.objs.size).filter λa=>(H a).isSome
def OC(h:Bb)(H:AI):Bb:=W.hideAll h (bS h H)
theorem sZ(h:Bb)(H:AI):(OC h H).objs.size=h.objs.size:=W.hideAll_size _ _
theorem sY(e:h.get? b=AA o)(n:H b=AG):(OC h H).get? b=AA o:=W.hideAll_get _ e λD=>by have q:=(DT.mp D).2;rw[n]at q;simp at q
theorem uI(e:(OC h H).get? b=AA o):h.get? b=AA o/\H b=AG:=by have D:=W.of_hideAll _ e;show⟨D,?_⟩;cases q:H b with|none=>rfl|some x=>have J:b∈bS h H:=DT.mpr ⟨V6.mpr (Cw D),by simp[q]⟩;have z:(OC h H).get? b=AG:=W.hideAll_none _ J;rw[z]at e;cases e
structure Rc(K:Ax)(mg:AF->Option AL)(base:Bb):Prop where
 abn:K.In base
 vb:base.Ns Li mg
 aav:∃mb,base.Ns AAX mb/\∀x:AF,x≠"__name__"->mb x=QW x
 zw:base.NoLimit
structure Br where
 ag:Ce
 w:CA
 K:Ax
 mg:AF->Option AL
 ar:Bb
 A:Dj
 N:List AF
 s₀:AZ
 H₀:AI
 ae:Ef
 rl:List Ef
 df:List Ef
 ex:List AE
 fn:AF->Bool
 gf:Bool
 pn:List (AE×BP)xe:AL->AZ->Prop
def G0(l:List Ef):List AE:=l.filterMap (·.frame)
abbrev Br.fs(X:Br):List AE:=G0 X.rl
def Rm(D:F6)(x:AF):Prop:=D.names.lookup x=AA .local\/D.names.lookup x=AA .cell\/D.names.lookup x=AA .free
def MF(D:F6)(x:AF):Prop:=D.names.lookup x=AA .local\/D.names.lookup x=AA .cell
def qY(env:Ef)(h:Bb)(m:AF->Option AL)(x:AF)(u:AL):Prop:=(env.kindOf x=AA .local/\m x=AA u)\/((env.kindOf x=AA .cell\/env.kindOf x=AA .free)/\Gk (λc=>env.cells.lookup x=AA c) (λc=>h.IsCell c (AA u)))
structure Br.Ok(X:Br):Prop where
 uv:Rc X.K X.mg X.ar
 ie:X.ae.scope.kind=.function
 vb:X.ae.globals=Li
 aav:X.ae.builtins=AAX
 ow:X.s₀.heap.objs.size<=X.ae.locals
 yl:∀x y c,X.ae.cells.lookup x=AA c->X.ae.cells.lookup y=AA c->x=y
 abk:∀x,(X.ae.kindOf x=AA .cell\/X.ae.kindOf x=AA .free)->∃c,X.ae.cells.lookup x=AA c
 aaz:∀x c,X.fn x=AJ->X.ae.cells.lookup x=AA c->X.s₀.heap.objs.size<=c
 hd:X.gf=AJ->X.A.handled=AG
 kj:X.A.frames=AA X.df
 acn:X.df=X.rl\/(X.df=X.ae::X.rl/\X.ae.frame=AA X.ae.locals)acu:∀b∈X.ex,b≠X.ae.locals/\∀x c,X.ae.cells.lookup x=AA c->c≠b
 bs:∀b o,X.ar.get? b=AA o->X.s₀.heap.get? b=AA o/\X.H₀ b=AG
 zp:X.ar.objs.size<=X.s₀.heap.objs.size
 zd:∀b o,X.ar.get? b=AA o->b∉X.ex
 yx:∀b∈X.ex,b∉X.fs
 oj:X.s₀.heap.FunFrames X.ar X.rl
 aaa:∀b∈X.fs,X.H₀ b=AG
structure Ab(X:Br)(pins:List (AE×BP))(σ:List (Option AD))(H:AI)(s:AZ):Prop where
 ok:X.Ok
 os:s.os=X.s₀.os
 ir:NP s.gens
 ar:Hu X.fs X.ex X.H₀ H X.s₀.heap s.heap
 xf:∃m,s.heap.Ns X.ae.locals m/\∀(i:Nat)(x:AF)(v:AD),X.N[i]?=AA x->σ[i]?=AA (AA v)->Rm X.ae.scope x->∃u,Bj v u/\qY X.ae s.heap m x u
 nv:∀x c,X.ae.cells.lookup x=AA c->∃v,s.heap.IsCell c v
 ba:H X.ae.locals=AG
 il:∀x c,X.ae.cells.lookup x=AA c->H c=AG
 uh:∀p∈X.pn++pins,s.heap.get? p.1=AA p.2/\H p.1=AG/\p.1≠X.ae.locals/\p.1∉X.fs/\∀v,p.2.data≠.cell v
 cj:Dc X.ag X.w H s.heap
 de:σ.length=X.N.length
theorem Br.Ok.acy{X:Br}(J:X.Ok)(e:X.ar.get? b=AA o):b∉X.fs:=λD=>by have:=(J.oj.mem D).1;rw[e]at this;cases this
theorem Ab.bs(I:Ab X D σ H s):∀b o,X.ar.get? b=AA o->s.heap.get? b=AA o/\H b=AG:=λb o e=>⟨I.ar.ab b o (I.ok.bs b o e).1 (I.ok.bs b o e).2 (I.ok.acy e) (I.ok.zd b o e),I.ar.ba b o (I.ok.bs b o e).1 (I.ok.bs b o e).2 (I.ok.zd b o e)⟩
theorem Ab.bk(I:Ab X D σ H s):∀b o,X.ar.get? b=AA o->s.heap.get? b=AA o:=λb o e=>(I.bs b o e).1
theorem Ab.uv(I:Ab X D σ H s):Rc X.K X.mg X.ar:=I.ok.uv
theorem Ab.oq(I:Ab X D σ H s):X.K.In s.heap:=I.ok.uv.abn.keeps I.bk
theorem Ab.lt(I:Ab X D σ H s):X.ae.locals<s.heap.objs.size:=let⟨_,J,_⟩:=I.xf;J.lt
theorem Ab.sz(I:Ab X D σ H s):X.s₀.heap.objs.size<=s.heap.objs.size:=Ah I.ok.ow (B6 I.lt)
theorem Ab.acz(I:Ab X D σ H s)(h:s.heap.objs.size<=a):a∉X.fs:=λJ=>by obtain⟨_,o,U,_⟩:_:=I.ok.oj.mem J;show absurd (Bh (Cw U) (Ah I.sz h)) (J4 _)
theorem Ab.acs(I:Ab X W σ H s):∀x c,X.ae.cells.lookup x=AA c->c≠X.ae.locals:=λx c e z=>by lk;obtain⟨v,o,V,U⟩:=I.nv x c e;obtain⟨m,⟨A,Z,Y,J,D,_⟩,_⟩:=I.xf;k_in;rw[z,J]at V;cases V;rw[D]at U;cases U
theorem Ab.oj(I:Ab X Y σ H s):s.heap.FunFrames X.ar X.rl:=by
 have D:∀(l:List _),(∀b∈G0 l,b∈X.fs)->X.s₀.heap.FunFrames X.ar l->s.heap.FunFrames X.ar l:=by intro l;induction l with |nil=>intro _ _;trivial|cons Z r K=> intro W C;obtain⟨B,⟨L,o,V,E,F,A⟩,G⟩:=C;have J:=W L (by unfold G0;rw[yL,V];show D4);obtain⟨M,e⟩:=I.ar.ui L o F (I.ok.aaa L J) J λz=>I.ok.yx L z J;show⟨B,⟨L,_,V,E,e,A⟩,K (λb U=>W b (by unfold G0;rw[yL,V];show GH _ U)) G⟩
 show D _ (λ_ U=>U) I.ok.oj
theorem Ab.df(I:Ab X D σ H s):s.heap.FunFrames X.ar X.df:=by
 rcases I.ok.acn with e|⟨e,J⟩;.rw[e];show I.oj
 . rw[e];obtain⟨m,U,_⟩:_:=I.xf;show .cons (by rw[I.ok.ie];decide) J U ?_ I.oj;show ACt (Ah I.ok.zp I.ok.ow)
theorem Ab.vh(I:Ab X J σ H s):∀b∈G0 X.df,b∈X.ae.locals::X.fs:=λb D=>by
 rcases I.ok.acn with e|⟨e,U⟩;.rw[e]at D;show GH _ D
 . rw[e]at D;unfold G0 at D;rw[yL,U]at D;show D
theorem Ab.yi(I:Ab X J σ H s):∀b∈G0 X.df,H b=AG:=λb D=>by
 rcases Ca.mp (I.vh b D)with e|D;.rw[e];show I.ba
 . obtain⟨_,o,U,_⟩:_:=I.ok.oj.mem D;show I.ar.ba b o U (I.ok.aaa b D) λz=>I.ok.yx b z D
theorem Ab.iq{X:Br}{B:List (AE×BP)}{σ:List (Option AD)}{H H':AI}{G:Bb}{g:Array GenState}{t':Nat}{y:Drawn}{ch:List AE}(I:Ab X B σ H s)(V:∀b∈ch,(b∈X.ex\/X.s₀.heap.objs.size<=b)/\b≠X.ae.locals/\(∀x c,X.ae.cells.lookup x=AA c->c≠b)/\∀p∈X.pn++B,p.1≠b)(W:∀b o,b≠X.ae.locals->b∉X.fs->b∉ch->s.heap.get? b=AA o->H b=AG->G.get? b=AA o)(C:∀b o,b≠X.ae.locals->b∈X.fs->b∉ch->s.heap.get? b=AA o->H b=AG->∃a,G.get? b=AA {o with slots:=a})(J:∀b o,b∉ch->s.heap.get? b=AA o->H b=AG->H' b=AG)(F:∀b o,b∉ch->s.heap.get? b=AA o->∃P,G.get? b=AA P)(R:∀b xs,H b=AA (.tup xs)->H' b=AA (.tup xs))(M:∀b o u,H b=AA (.frz o u)->H' b=AA (.frz o u))(Q:∀b ps,H b=AA (.tbl ps)->∃N,H' b=AA (.tbl (ps++N)))(ns:∀m,s.heap.Ns X.ae.locals m->G.Ns X.ae.locals m)(T:Dc X.ag X.w H' G)(hg:NP g):Ab X B σ H' {s with heap:=G,gens:=g,drawn:=y,toks:=t'}:=by
  have O:∀b o,X.s₀.heap.get? b=AA o->b≠X.ae.locals:=λb o e=>Ee (Bh (Cw e) I.ok.ow);have A:∀b o,X.s₀.heap.get? b=AA o->b∉X.ex->b∉ch:=λb o e D E=>by
    rcases(V b E).1 with z|z;.show D z
    .show absurd (Bh (Cw e) z) (J4 _)
  have U:∀x c,X.ae.cells.lookup x=AA c->∀v,s.heap.IsCell c v->G.IsCell c v:=λx c e v⟨o,K,S⟩=>by
    have Y:=λz=>(V c z).2.2.1 x c e rfl;by_cases h:c∈X.fs
    . obtain⟨a,q⟩:=C c o (I.acs x c e) h Y K (I.il x c e);show⟨_,q,S⟩
    .show⟨o,W c o (I.acs x c e) h Y K (I.il x c e),S⟩
  show⟨I.ok,I.os,hg,⟨λb o e n E D=>?_,λb o e n E D=>?_,λb o e n D=>?_,λb o e D=>?_,λb xs e=>R b xs (I.ar.vm b xs e),λb o xs e=>M b o xs (I.ar.ql b o xs e),λb ps e=>?_⟩,?_,λx c e=>?_,?_,λx c e=>?_,λp j=>?_,T,I.de⟩;.show W b o (O b o e) E (A b o e D) (I.ar.ab b o e n E D) (I.ar.ba b o e n D)
  . lk;obtain⟨a,Z⟩:=I.ar.ui b o e n E D;obtain⟨f,L⟩:=C b _ (O b o e) E (A b o e D) Z (I.ar.ba b o e n D);k_in;show⟨f,L⟩
  . obtain⟨P,Z⟩:=I.ar.nq b o e D;show J b P (A b o e D) Z (I.ar.ba b o e n D)
  . obtain⟨P,Z⟩:=I.ar.nq b o e D;show F b P (A b o e D) Z
  . lk;obtain⟨m1,Z⟩:=I.ar.vk b ps e;obtain⟨m2,L⟩:=Q b _ Z;k_in;show⟨_,by rw[L,Array.append_assoc]⟩
  . obtain⟨m,hn,hl⟩:_:=I.xf;show⟨m,ns m hn,λi x v Z L e3=>?_⟩;obtain⟨u,r,l⟩:_:=hl i x v Z L e3;show⟨u,r,?_⟩;rcases l with l|⟨k,c,e,z⟩;.show .inl l
    .show .inr ⟨k,c,e,U x c e _ z⟩
  . obtain⟨v,z⟩:=I.nv x c e;show⟨v,U x c e v z⟩
  . obtain⟨m,⟨o,_,_,K,_⟩,_⟩:_:=I.xf;show J _ o (λz=>(V _ z).2.1 rfl) K I.ba
  . obtain⟨v,o,K,S⟩:_:=I.nv x c e;show J c o (λz=>(V c z).2.2.1 x c e rfl) K (I.il x c e)
  . obtain⟨e,n,t,w,d⟩:_:=I.uh p j;have Y:=λz=>(V _ z).2.2.2 p j rfl;show⟨W _ _ t w Y e n,J _ _ Y e n,t,w,d⟩
theorem Ab.un(I:Ab X J σ H s)(u:Hu X.fs [] H H' s.heap Z)(Y:Dc X.ag X.w H' Z):Ab X J σ H' {s with heap:=Z,toks:=t'}:=by lk;obtain⟨m,⟨o,G,F,A,r⟩,_⟩:=id I.xf;obtain⟨M,B⟩:=u.aax A I.ba (by simp);k_in;show I.iq (ch:=[]) (λ_ z=>nomatch z) (λb o _ W _ e n=>u.ab b o e n W (by simp)) (λb o _ W _ e n=>u.ui b o e n W (by simp)) (λb o _ e n=>u.ba b o e n (by simp)) (λb o _ e=>u.nq b o e (by simp)) u.vm u.ql u.vk (λK C=>by obtain⟨L,V,U,D,E⟩:_:=C;rw[A]at D;cases D;show⟨_,V,U,B,E⟩) Y I.ir
theorem Ab.aba(I:Ab X D σ H s)(u:Hu (G0 X.df) ch H H' s.heap C)(A:Dc X.ag X.w H' C)(K:NP B)(U:∀b∈ch,(b∈X.ex\/X.s₀.heap.objs.size<=b)/\b≠X.ae.locals/\(∀x c,X.ae.cells.lookup x=AA c->c≠b)/\∀p∈X.pn++D,p.1≠b):Ab X D σ H' {s with heap:=C,gens:=B,drawn:=F,toks:=t'}:=by lk;obtain⟨m,⟨o,O,N,E,r⟩,_⟩:=id I.xf;obtain⟨R,Z⟩:=u.aax E I.ba λz=>(U _ z).2.1 rfl;k_in;show I.iq U (λb o Z G J e n=>u.ab b o e n (λz=>(Ca.mp (I.vh b z)).elim Z G) J) (λb o _ _ J e n=>u.aax e n J) (λb o J e n=>u.ba b o e n J) (λb o J e=>u.nq b o e J) u.vm u.ql u.vk (λP L=>by obtain⟨Q,Y,W,V,M⟩:_:=L;rw[E]at V;cases V;show⟨_,Y,W,Z,M⟩) A K
theorem Ab.dh(I:Ab X D σ H s)(k:∀b o,b≠it->s.heap.get? b=AA o->Z.get? b=AA o)(G:H it=AG)(V:it≠X.ae.locals)(A:it∈X.ex\/X.s₀.heap.objs.size<=it)(B:∀x c,X.ae.cells.lookup x=AA c->c≠it)(C:∀p∈X.pn++D,p.1≠it):Ab X D σ H {s with heap:=Z,toks:=t'}:=by
  have U:∀b u,H b=AA u->b≠it:=λb u e z=>by rw[z,G]at e;cases e
  show I.iq (ch:=[it]) (λb E=>?_) (λb o _ _ J e _=>k b o (λz=>J (by simp[z])) e) (λb o _ _ J e _=>⟨_,k b o (λz=>J (by simp[z])) e⟩) (λ_ _ _ _ n=>n) (λb o J e=>⟨o,k b o (λz=>J (by simp[z])) e⟩) (λ_ _ e=>e) (λ_ _ _ e=>e) (λb L e=>⟨#[],by rw[e];simp⟩) (λm F=>?_) (λb u e=>?_) I.ir
  . have e:=by simpa using E
    subst e;show⟨A,V,B,C⟩
  . obtain⟨o,Y,W,K,r⟩:_:=F;show⟨o,Y,W,k _ o (Gb V) K,r⟩
  . show(I.cj b u e).vg (λc v J q=>k c v ?_ q) (λ_ q=>q) λ_ _ q=>q;rcases J with z|z;.rw[z];show U b u e
    .show U c _ z
theorem Ab.gm(I:Ab X D σ H s)(t:Nat):Ab X D σ H {s with toks:=t}:=I.un rC I.cj
theorem Ab.gw(I:Ab X D σ H s)(k:∀b u,s.heap.get? b=AA u->J.get? b=AA u):Ab X D σ H {s with heap:=J,toks:=t'}:=I.un (Rk k) (I.cj.gw k)
theorem Ab.ma(I:Ab X D σ H s)(k:∀b u,s.heap.get? b=AA u->V.get? b=AA u)(J:s.heap.objs.size<=a)(U:De X.ag X.w (AQ H a o) V a o):Ab X D σ (AQ H a o) {s with heap:=V,toks:=t'}:=I.un (rB k J (I.cj.bz J)) (I.cj.ma k J U)
theorem Ab.ti(I:Ab X J σ H s)(Y:Pb (H x))(W:e=x\/H e=AA (.own x))(k:∀b u,b≠e->s.heap.get? b=AA u->U.get? b=AA u)(D:∃u,U.get? e=AA u)(V:De X.ag X.w (AQ H x o) U x o):Ab X J σ (AQ H x o) {s with heap:=U,toks:=t'}:=I.un (rD Y W k D) (I.cj.ti Y W k D V)
theorem Ab.ic(I:Ab X J σ H s)(h:∀p∈D,s.heap.get? p.1=AA p.2/\H p.1=AG/\p.1≠X.ae.locals/\p.1∉X.fs/\∀v,p.2.data≠.cell v):Ab X D σ H s:=⟨I.ok,I.os,I.ir,I.ar,I.xf,I.nv,I.ba,I.il,λp U=>(DS.mp U).elim (λz=>I.uh p (Ic _ z)) (h p),I.cj,I.de⟩
theorem Z1{N:List AF}(U:N.Nodup){i j:Nat}{x:AF}(a:N[i]?=AA x)(b:N[j]?=AA x):i=j:=by lk;obtain⟨V,D⟩:=BU.mp a;obtain⟨W,J⟩:=BU.mp b;k_in;show(yO U).mp (D.trans J.symm)
theorem bD(I:Ab X g σ H s)(hN:X.N.Nodup)(hi:X.N[i]?=AA x)(Y:MF X.ae.scope x)(r:Bj v u)(h:∀s',Ab X g (σ.set i (AA v)) H s'->(∃a,QO a s.heap s'.heap/\(a=X.ae.locals\/X.ae.cells.lookup x=AA a))->Q () s')(hf:X.fn x=AJ\/X.ae.scope.names.lookup x=AA .local:=by first|show .inl rfl|show .inr rfl|assumption):BB M A (storeName X.ae x u) Q E s:=by
  obtain⟨m,hn,hl⟩:_:=id I.xf;have S:(X.ae.scope.kind==.class||(X.ae.scope.kind==.module&&X.ae.locals !=X.ae.globals))=AR:=by rw[I.ok.ie];rfl
  have C:i<σ.length:=by rw[I.de];show(BU.mp hi).1
  have G:=I.acs;have U:∀{a:AE}{O:Bb},(∃o,s.heap.get? a=AA o/\H a=AG)->QO a _ O->Dc _ X.w H O:=λ{a O}ha D b ob e=>by
    obtain⟨_,_,Z⟩:=ha;show(I.cj b ob e).vg (λc w W q=>(D.2 c ?_).trans q) (λ_ q=>q) λ_ _ q=>q;rintro rfl;rcases W with rfl|W;.rw[Z]at e;cases e
    .rw[Z]at W;cases W
  rcases Y with F|F
  . show wpAny_storeName_local F hn (λO hn' D=>?_) S;obtain⟨oL,_,_,hoL,_⟩:_:=id hn;show h _ ⟨I.ok,I.os,I.ir,⟨λb o e n K Y=>?_,λb o e n K Y=>?_,I.ar.ba,λb o e Y=>?_,I.ar.vm,I.ar.ql,I.ar.vk⟩,⟨_,hn',λj y v' J B e3=>?_⟩,λy c e=>?_,I.ba,I.il,λp hp=>?_,U ⟨oL,hoL,I.ba⟩ D,by simpa using I.de⟩ ⟨_,D,.inl rfl⟩;.show(D.2 b (Ee (Bh (Cw e) I.ok.ow))).trans (I.ar.ab b o e n K Y)
    . obtain⟨sl,J⟩:=I.ar.ui b o e n K Y;show⟨sl,(D.2 b (Ee (Bh (Cw e) I.ok.ow))).trans J⟩
    . obtain⟨o',J⟩:=I.ar.nq b o e Y;show⟨o',(D.2 b (Ee (Bh (Cw e) I.ok.ow))).trans J⟩
    . by_cases N:j=i
      . subst N;rw[hi]at J;cases J;rw[ABn C]at B;cases B;show⟨u,r,.inl ⟨F,by simp⟩⟩
      . rw[ABm (Gb N)]at B;obtain⟨u',r',q⟩:_:=hl j y v' J B e3;show⟨u',r',?_⟩;rcases q with⟨k,e⟩|⟨k,c,e,z⟩
        . show .inl ⟨k,?_⟩;have:y≠x:=λe=>N (Z1 hN J (e▸hi));simp[this,e]
        .show .inr ⟨k,c,e,z.sameBut D (G y c e)⟩
    . obtain⟨w,z⟩:=I.nv y c e;show⟨w,z.sameBut D (G y c e)⟩
    . obtain⟨e,n,t,nf,d⟩:_:=I.uh p hp;show⟨(D.2 p.1 t).trans e,n,t,nf,d⟩
  . have L:X.fn x=AJ:=by
      rcases hf with z|z;.show z
      .rw[z]at F;cases F
    lk;obtain⟨c,W⟩:=I.ok.abk x (.inl F);obtain⟨w,z⟩:=I.nv x c W;k_in;show wpAny_storeName_cell I.ok.ie F W z (λO P D=>?_);obtain⟨oc,T,f⟩:_:=id z;show h _ ⟨I.ok,I.os,I.ir,⟨λb o e n K Y=>?_,λb o e n K Y=>?_,I.ar.ba,λb o e Y=>?_,I.ar.vm,I.ar.ql,I.ar.vk⟩,⟨m,hn.sameBut D (Gb (G x c W)),λj y v' J B e3=>?_⟩,λy l e=>?_,I.ba,I.il,λp hp=>?_,U ⟨oc,T,I.il x c W⟩ D,by simpa using I.de⟩ ⟨c,D,.inr W⟩;.show(D.2 b (Ee (Bh (Cw e) (I.ok.aaz x c L W)))).trans (I.ar.ab b o e n K Y)
    . obtain⟨sl,J⟩:=I.ar.ui b o e n K Y;show⟨sl,(D.2 b (Ee (Bh (Cw e) (I.ok.aaz x c L W)))).trans J⟩
    . obtain⟨o',J⟩:=I.ar.nq b o e Y;show⟨o',(D.2 b (Ee (Bh (Cw e) (I.ok.aaz x c L W)))).trans J⟩
    . by_cases N:j=i
      . subst N;rw[hi]at J;cases J;rw[ABn C]at B;cases B;show⟨u,r,.inr ⟨.inl F,c,W,P⟩⟩
      . rw[ABm (Gb N)]at B;obtain⟨u',r',q⟩:_:=hl j y v' J B e3;show⟨u',r',?_⟩;rcases q with q|⟨k,l,e,z'⟩;.show .inl q
        . show .inr ⟨k,l,e,z'.sameBut D ?_⟩;rintro rfl;show N (Z1 hN J (I.ok.yl _ _ _ e W▸hi))
    . by_cases R:l=c;.subst R;show⟨_,P⟩
      . obtain⟨w2,z2⟩:=I.nv y l e;show⟨w2,z2.sameBut D R⟩
    . obtain⟨e,n,t,nf,d⟩:_:=I.uh p hp;show⟨(D.2 p.1 ?_).trans e,n,t,nf,d⟩;intro q;rw[q,T]at e;have q':=B9 e;show d w (by rw[<-q'];show f)
theorem bC(I:Ab X D σ H s)(U:X.N.Nodup)(hi:X.N[i]?=AA x)(Y:MF X.ae.scope x)(r:Bj v u)(h:∀s',Ab X D (σ.set i (AA v)) H s'->Q () s')(W:X.fn x=AJ\/X.ae.scope.names.lookup x=AA .local:=by first|show .inl rfl|show .inr rfl|assumption):BB M A (storeName X.ae x u) Q E s:=bD I U hi Y r (λs' J _=>h s' J) W
theorem Ab.yw(I:Ab X D σ H s)(W:s'.os=s.os)(u:Hu (G0 X.df) ch H H' s.heap s'.heap)(U:Dc X.ag X.w H' s'.heap)(V:NP s'.gens)(J:∀b∈ch,(b∈X.ex\/X.s₀.heap.objs.size<=b)/\b≠X.ae.locals/\(∀x c,X.ae.cells.lookup x=AA c->c≠b)/\∀p∈X.pn++D,p.1≠b):Ab X D σ H' s':=by obtain⟨A,Z,Y,C,B⟩:_:=s';have e:=W;subst e;show I.aba u U V J
abbrev F0:=AL->Option AE->AI->Prop
abbrev Ae:=List (Option AD)
abbrev BN:=AD->AI->Prop
abbrev A1:=Ae->AI->BN->Prop
abbrev Dg:=Ae->AI->(Bool->AI->Prop)->Prop
abbrev Fz:=Ae->AI->(List AD->AI->Prop)->Prop
structure Hq where
 nx:Ae->AI->Prop
 rt:BN
 bk:Ae->AI->Prop:=λ_ _=>False
 ct:Ae->AI->Prop:=λ_ _=>False
abbrev C7:=Hq->Ae->AI->Prop
def Fy(X:Br)(D:List (AE×BP))(σ:Ae)(Q:BN)(u:AL)(s':AZ):Prop:=Ey (λv J=>Ab X D σ J s') (λv _=>Bj v u) (λv J=>Q v J)
def Uz(X:Br)(D:List (AE×BP))(σ:Ae)(Q:Bool->AI->Prop)(b:Bool)(s':AZ):Prop:=Gk (λJ=>Ab X D σ J s') (λJ=>Q b J)
def qT(X:Br)(D:List (AE×BP))(σ:Ae)(Q:List AD->AI->Prop)(W:List AL)(s':AZ):Prop:=Ey (λJ U=>Ab X D σ U s') (λJ _=>Bk J W) (λJ U=>Q J U)
set_option tactic.hygienic true in def Rh(X:Br)(pins:List (AE×BP))(D:Hq)(f:Flow)(s':AZ):Prop:=match f with|.next=>LS (λJ H'=>Ab X pins J H' s') (λJ H'=>D.nx J H')|.brk=>LS (λJ H'=>Ab X pins J H' s') (λJ H'=>D.bk J H')|.cont=>LS (λJ H'=>Ab X pins J H' s') (λJ H'=>D.ct J H')|.ret u=>Ro (λv J H'=>Ab X pins J H' s') (λv _ _=>Bj v u) (λv _ H'=>D.rt v H')
def Am(X:Br)(e:BS)(t:A1):Prop:=∀(D:List (AE×BP))(s:AZ)(J:Ae)(H:AI)(Q:BN),Ab X D J H s->t J H Q->BB (Ar X.ag X.w) X.A (Be e X.ae) (Fy X D J Q) X.xe s
def HI(X:Br)(e:BS)(t:Dg):Prop:=∀(D:List (AE×BP))(s:AZ)(J:Ae)(H:AI)(Q:Bool->AI->Prop),Ab X D J H s->t J H Q->BB (Ar X.ag X.w) X.A (WW e X.ae (Be e X.ae)) (Uz X D J Q) X.xe s
def Mw(X:Br)(e:BS)(t:Dg):Prop:=∀(J:D6 AL)(D:List (AE×BP))(s:AZ)(U:Ae)(H:AI)(Q:Bool->AI->Prop),Ab X D U H s->t U H Q->BB (Ar X.ag X.w) X.A (WW e X.ae J) (Uz X D U Q) X.xe s
theorem Kh(h:Mw X e t):HI X e t:=h _
def Gi(X:Br)(W:List BS)(t:Fz):Prop:=∀(J:C3)(D:List (AE×BP))(s:AZ)(U:Ae)(H:AI)(Q:List AD->AI->Prop),Ab X D U H s->t U H Q->BB (Ar X.ag X.w) X.A (spliced (Gd J (Co W X.ae))) (qT X D U Q) X.xe s
def Ew(X:Br)(st:DA)(t:C7):Prop:=∀(J:List (AE×BP))(s:AZ)(U:Ae)(H:AI)(D:Hq),Ab X J U H s->t D U H->BB (Ar X.ag X.w) X.A (exec st X.ae) (Rh X J D) X.xe s
def GC(X:Br)(st:List DA)(t:C7):Prop:=∀(J:List (AE×BP))(s:AZ)(U:Ae)(H:AI)(D:Hq),Ab X J U H s->t D U H->BB (Ar X.ag X.w) X.A (execs st X.ae) (Rh X J D) X.xe s
theorem BD{Q D:J->AZ->Prop}(h:BB M A t Q E s)(U:∀a s,Q a s->D a s):BB M A t D E s:=II h U λ_ _ x=>x
def bQ(i:Nat):A1:=λD H Q=>Gk (λv=>D[i]?=AA (AA v)) (λv=>Q v H)
def Ku(v:AD):A1:=λ_ H Q=>Q v H
theorem aJ{x:AF}(A:X.N[i]?=AA x)(F:Rm X.ae.scope x)(V:(x==("__debug__":AF))=AR:=by decide)(U:(x==("__classdict__":AF))=AR:=by decide):Am X (.Name x W) (bQ i):=by
  intro Z s G H Q I h;lk;obtain⟨v,e,h⟩:=h;obtain⟨m,E,B⟩:=I.xf;obtain⟨u,r,l⟩:=B i x v A e F;k_in;have fin:Fy X _ G Q u s:=⟨v,H,I,r,h⟩;rcases l with⟨J,C⟩|⟨J,c,Y,D⟩;.show AAk (wpAny_loadName_local I.ok.ie J E C fin) V
  . rcases J with J|J;.show AAk (wpAny_loadName_cell I.ok.ie J Y D fin) V
    .show AAk (wpAny_loadName_free I.ok.ie J Y D fin U) V
theorem AN:Am X (.Constant (.int i) j D) (Ku (.int i)):=λ_ _ _ H _ I h=>wpAny_Constant_int ⟨.int i,H,I.gm _,⟨_,rfl⟩,h⟩
theorem F4:Am X (.Constant (.bool b) j D) (Ku (.bl b)):=λ_ _ _ H _ I h=>Constant_bool ⟨.bl b,H,I,rfl,h⟩
theorem Jr:Am X (.Constant .none j D) (Ku .non):=λ_ _ _ H _ I h=>Constant_none ⟨.non,H,I,rfl,h⟩
theorem DV:Am X (.Constant (.str x) j D) (Ku (.str x)):=λ_ _ _ H _ I h=>Calls.Constant_str ⟨.str x,H,I.gm _,⟨_,rfl⟩,h⟩
def Gg(X:Br)(x:AF):Prop:=X.ae.kindOf x=AA .globalImplicit
theorem Po{x:AF}(I:Ab X D σ H s)(V:Gg X x)(W:X.mg x=AA u)(h:Q u s)(U:(x==("__debug__":AF))=AR:=by decide):BB (Ar X.ag X.w) X.A (Be (.Name x J) X.ae) Q E s:=ACW I.ok.ie V (Calls.loadGlobal_global (by rw[I.ok.vb];show I.uv.vb.keeps I.bk) W h) U
theorem Ko{x:AF}(I:Ab X D σ H s)(Y:Gg X x)(Z:X.mg x=AG)(B:QW x=AA u)(h:Q u s)(A:x≠"__name__":=by decide)(W:(x==("__debug__":AF))=AR:=by decide):BB (Ar X.ag X.w) X.A (Be (.Name x J) X.ae) Q E s:=by obtain⟨C,U,V⟩:_:=I.uv.aav;show ACW I.ok.ie Y (Calls.loadGlobal_builtin (by rw[I.ok.vb];show I.uv.vb.keeps I.bk) Z (by rw[I.ok.aav];show U.keeps I.bk) ((V x A).trans B) h) W
theorem VX{x:AF}(U:Gg X x)(W:X.mg x=AA u)(r:Bj v u)(J:(x==("__debug__":AF))=AR:=by decide):Am X (.Name x D) (Ku v):=λ_ _ _ H _ I h=>Po I U W ⟨v,H,I,r,h⟩ J
theorem aD{x:AF}(U:Gg X x)(W:X.mg x=AG)(Z:QW x=AA u)(r:Bj v u)(Y:x≠"__name__":=by decide)(J:(x==("__debug__":AF))=AR:=by decide):Am X (.Name x D) (Ku v):=λ_ _ _ H _ I h=>Ko I U W Z ⟨v,H,I,r,h⟩ Y J
def Uu(X:Br)(op:QM)(a b:BS)(t:A1):Prop:=∀(D:List (AE×BP))(s:AZ)(V:Ae)(H:AI)(Q:BN),Ab X D V H s->t V H Q->BB (Ar X.ag X.w) X.A (Be a X.ae) (λv J=>BB (Ar X.ag X.w) X.A (Be b X.ae) (λu U=>BB (Ar X.ag X.w) X.A (FF op v u) (Fy X D V Q) X.xe U) X.xe J) X.xe s
theorem uH(b:BS)(h:op≠.In)(U:op≠.NotIn):QT op b=AR:=by
 have D:(op==ACY)=AR:=by cases op<;>first|rfl|show absurd rfl h
 have J:(op==ACZ)=AR:=by cases op<;>first|rfl|show absurd rfl U
 cases b<;>simp[QT,D,J]
def bF(t:A1):Dg:=λJ H Q=>t J H λx D=>Gk (λc=>x=.bl c) (λc=>Q c D)
theorem Va(h:Uu X op a b t)(J:QT op b=AR:=by first|show uH _ (by decide) (by decide)|rfl):HI X (.Compare a [op] [b] Y) (bF t):=by intro D s A H Q I hw;show ADn (BD (h D s A H _ I hw) λv s1 J=>BD J λu s2 W=>BD W λc s3⟨x,U,V,r1,Z⟩=>?_) J;lk;obtain⟨d,rfl,q⟩:=Z;cases r1;k_in;show Sz ⟨U,V,q⟩
theorem G4(h:Am X e t)(W:∀D,WW e X.ae D=(do let v<-D;standAt e.pos;holding [v] (truthy v)):=by intro _;rfl):HI X e (bF t):=by intro J s Z H Q I hw;show isTrue_plain (BD (h _ s Z H _ I hw) λv s1⟨x,U,V,r1,Y⟩=>?_) (W _);lk;obtain⟨d,rfl,q⟩:=Y;cases r1;k_in;show Sz ⟨U,V,q⟩
def wY(t u:Dg):Dg:=λJ H Q=>t J H λc D=>if c=AJ then u J D Q else Q AR D
def Vp(t u:Dg):Dg:=λJ H Q=>t J H λc D=>if c=AJ then Q AJ D else u J D Q
def xO(t:Dg):Dg:=λJ H Q=>t J H λc D=>Q (!c) D
theorem Vc(J:HI X a V):Mw X (.BoolOp .And [a] U) V:=by intro Y D s W H Q I h;show isTrue_and (BD (J _ s W H Q I h) λc s1 e=>?_);cases c with|true=>show isTrue_and_nil e|false=>show e
theorem NC(J:HI X a V):Mw X (.BoolOp .Or [a] U) V:=by intro Y D s W H Q I h;show isTrue_or (BD (J _ s W H Q I h) λc s1 e=>?_);cases c with|false=>show isTrue_or_nil e|true=>show e
theorem Vb(C:HI X a F)(E:Mw X (.BoolOp .And (b::J) U) V):Mw X (.BoolOp .And (a::b::J) U) (wY F V):=by intro G Z s B H Q I h;show isTrue_and (BD (C _ s B H _ I h) λc s1 D=>?_);obtain⟨W,Y,A⟩:_:=D;cases c with|true=>show E G _ s1 B W Q Y A|false=>show⟨W,Y,A⟩
theorem Jw(C:HI X a F)(E:Mw X (.BoolOp .Or (b::J) U) V):Mw X (.BoolOp .Or (a::b::J) U) (Vp F V):=by intro G Z s B H Q I h;show isTrue_or (BD (C _ s B H _ I h) λc s1 D=>?_);obtain⟨W,Y,A⟩:_:=D;cases c with|true=>show⟨W,Y,A⟩|false=>show E G _ s1 B W Q Y A
theorem JK(J:HI X a V):HI X (.UnaryOp .Not a U) (xO V):=by intro D s W H Q I h;show isTrue_not (J _ s W H _ I h)
def bE(U V:A1):A1:=λJ H Q=>U J H λx D=>Gk (λc=>x=.bl c) (λc=>if c=AJ then V J D Q else Q (.bl AR) D)
theorem VY(h:Am X a t):Am X (.BoolOp op [a] J) t:=λD s U H Q I hw=>BoolOp_one (h _ s U H Q I hw)
theorem SF(B:Am X a E)(C:Am X (.BoolOp .And (b::J) V) F):Am X (.BoolOp .And (a::b::J) V) (bE E F):=by intro Z s A H Q I h;show BoolOp_and (BD (B _ s A H _ I h) λv s1 D=>?_);lk;obtain⟨x,W,Y,r1,U⟩:=D;obtain⟨c,rfl,U⟩:=U;cases r1;k_in;show Sz ?_;cases c with|true=>show C _ s1 A W Q Y U|false=>show⟨.bl _,W,Y,rfl,U⟩
def xK(t:Dg)(U V:A1):A1:=λD H Q=>t D H λc J=>if c=AJ then U D J Q else V D J Q
theorem SG(B:HI X c E)(Z:Am X a F)(A:Am X b G):Am X (.IfExp c a b C) (xK E F G):=by intro W s J H Q I h;show wpAny_IfExp (BD (B _ s J H _ I h) λd s1 D=>?_);obtain⟨U,V,Y⟩:_:=D;cases d with|true=>show Z _ s1 J U Q V Y|false=>show A _ s1 J U Q V Y
def B7(K:Ax)(H:AI)(a:AE)(xs:List AD):Prop:=Fi H a (.lst xs)\/Y8 (λ(o:BP)(D:Array AL)(n:Nat)=>K.lookup a=AA o) (λo _ _=>o.cls=.type "list") (λo _ _=>o.dict=AG) (λo D n=>o.data=.seq D n) (λ_ D _=>D.size<=Ay) (λ_ D _=>Bk xs D.toList)
def Cm(K:Ax)(H:AI)(a:AE)(xs:List AD):Prop:=Fi H a (.tup xs)\/N7 (λ(o:BP)(D:Array AL)(n:Nat)=>K.lookup a=AA o) (λo _ _=>o.cls=.type "tuple") (λo D n=>o.data=.seq D n) (λ_ D _=>D.size<=Ay) (λ_ D _=>Bk xs D.toList)
def rE:AL->Option AD|.none=>AA .non|.bool b=>AA (.bl b)|.int i _=>AA (.int i)|.str x _=>AA (.str x)|.bytes b _=>AA (.byt b)|.float b _=>AA (.flt b)|.ref a=>AA (.ref a)|.type n=>AA (.ty n)|_=>AG
theorem Bj.adi(r:Bj x u):rE u=AA x:=by cases x with|non=>cases r;rfl|bl _=>cases r;rfl|int _=>obtain⟨t,rfl⟩:=r;rfl|str _=>obtain⟨t,rfl⟩:=r;rfl|byt _=>obtain⟨t,rfl⟩:=r;rfl|flt _=>obtain⟨t,rfl⟩:=r;rfl|ref _=>cases r;rfl|ty _=>cases r;rfl
theorem Bj.yl(r:Bj x u)(q:Bj y u):x=y:=B9 (r.adi.symm.trans q.adi)
theorem Bk.yl(h:Bk xs D):Bk ys D->xs=ys:=by induction h generalizing ys with|nil=>intro g;cases g;rfl|cons r _ J=>intro g;cases g with|cons U W=>rw[r.yl U,J W]
theorem AW{K:Ax}(h:H a=AA (.lst xs)):B7 K H a xs:=.inl (.inl h)
theorem Ao{K:Ax}(h:H a=AA (.tup xs)):Cm K H a xs:=.inl (.inl h)
theorem Ab.gh(I:Ab X D σ H s)(h:B7 X.K H a xs):∃its:List AL,Bk xs its/\PlainL s.heap a its.toArray/\xs.length<=Ay:=by
 rcases h with h|⟨o,its,n,V,J,U,W,Y,r⟩
 . obtain⟨z,its,n,r,e⟩:_:=h.ok I.cj;show⟨its,r,⟨_,n,e,rfl,rfl,rfl⟩,z⟩
 . show⟨_,r,⟨o,n,I.oq a o V,J,U,by simpa using W⟩,?_⟩;have e:=r.ao;simp_all
theorem Ab.ff(I:Ab X D σ H s)(h:Cm X.K H a xs):∃its:List AL,Bk xs its/\WJ s.heap a its.toArray/\xs.length<=Ay:=by
 rcases h with h|⟨o,its,n,U,J,V,W,r⟩
 . obtain⟨z,its,r,p⟩:_:=h.ok I.cj;show⟨its,r,p,z⟩
 . show⟨_,r,⟨o,I.oq a o U,J,n,by simpa using V⟩,?_⟩;have e:=r.ao;simp_all
theorem Ab.wg(I:Ab X V σ H s)(h:B7 X.K H a xs)(Y:B7 X.K H a ys):xs=ys:=by
 lk;obtain⟨Z,r,⟨o,n,e,_,_,d⟩,_⟩:=I.gh h;obtain⟨U,A,⟨C,B,J,_,_,D⟩,_⟩:=I.gh Y;k_in;rw[e]at J;cases J;rw[d]at D;injection D with W _;have:=by simpa using AEw Array.toList W
 subst this;show r.yl A
abbrev Br.uj(X:Br)(E:AL->AZ->Prop):Br:={X with xe:=E}
abbrev Br.abw(X:Br):Br:=X.uj λ_ _=>False
theorem Br.Ok.uj{X:Br}(D:X.Ok)(E:AL->AZ->Prop):(X.uj E).Ok:=⟨D.uv,D.ie,D.vb,D.aav,D.ow,D.yl,D.abk,D.aaz,D.hd,D.kj,D.acn,D.acu,D.bs,D.zp,D.zd,D.yx,D.oj,D.aaa⟩
theorem Br.Ok.kx{X:Br}(D:(X.uj E).Ok):X.Ok:=⟨D.uv,D.ie,D.vb,D.aav,D.ow,D.yl,D.abk,D.aaz,D.hd,D.kj,D.acn,D.acu,D.bs,D.zp,D.zd,D.yx,D.oj,D.aaa⟩
theorem Ab.uj(I:Ab X D σ H s)(E:AL->AZ->Prop):Ab (X.uj E) D σ H s:=⟨I.ok.uj E,I.os,I.ir,I.ar,I.xf,I.nv,I.ba,I.il,I.uh,I.cj,I.de⟩
theorem Ab.kx(I:Ab (X.uj E) D σ H s):Ab X D σ H s:=⟨I.ok.kx,I.os,I.ir,I.ar,I.xf,I.nv,I.ba,I.il,I.uh,I.cj,I.de⟩
section
variable{X:Br}{pins:List (AE×BP)}{E:AL->AZ->Prop}
set_option tactic.hygienic true in theorem Rh.kx{D:Hq}{f:Flow}{s':AZ}(h:Rh (X.uj E) pins D f s'):Rh X pins D f s':=by cases f with|next=>obtain⟨J,H',I,q⟩:=h;show⟨J,H',I.kx,q⟩|brk=>obtain⟨J,H',I,q⟩:=h;show⟨J,H',I.kx,q⟩|cont=>obtain⟨J,H',I,q⟩:=h;show⟨J,H',I.kx,q⟩|ret u=>obtain⟨v,J,H',I,r,q⟩:=h;show⟨v,J,H',I.kx,r,q⟩
end
theorem GC.abw{st:List DA}(h:GC X.abw st t):GC X st t:=λJ s U H D I hw=>II (h _ s U H D (I.uj _) hw) (λ_ _ q=>q.kx) λ_ _ z=>HV z
def xN:C7:=λD J H=>D.nx J H
def bO(t u:C7):C7:=λD J H=>t {D with nx:=u D} J H
theorem CH:GC X [] xN:=λ_ _ D H _ I h=>eO ⟨D,H,I,h⟩
section
variable{X:Br}{st:DA}{rest:List DA}{t u:C7}
set_option tactic.hygienic true in theorem Aq(h1:Ew X st t)(h2:GC X rest u):GC X (st::rest) (bO t u):=by intro pins s σ H D I h;show ADl (BD (h1 _ s σ H _ I h) λf s1 q=>?_);cases f with|next=>obtain⟨U,H',J,q⟩:_:=q;show h2 _ s1 _ H' D J q|ret v=>show q|brk=>show q|cont=>show q
end
section
variable{X:Br}{st:DA}{t:C7}
set_option tactic.hygienic true in theorem Ac(h1:Ew X st t):GC X [st] t:=by intro pins s σ H D I h;show ADl (BD (h1 _ s σ H D I h) λf s1 q=>?_);cases f with|next=>show eO q|ret v=>show q|brk=>show q|cont=>show q
end
theorem Ab.abz(I:Ab X D σ H s):interactive X.ae=AR:=by simp[interactive,I.ok.ie]
def xI(V:A1):C7:=λD J H=>V J H λ_ U=>D.nx J U
theorem D1(Z:Am X e C)(A:Ol e AG J.line X.ae=Bo AR:=by rfl):Ew X (.Expr e J) (xI C):=by intro U s V H D I h;show wpAny_Expr_any (BD (Z _ s V H _ I h) λv s1⟨x,W,Y,r1,B⟩=>⟨V,W,Y,B⟩) I.abz A
def bN(J:A1):C7:=λD U H=>J U H D.rt
theorem BI(Z:Am X e C):Ew X (.Return (AA e) A) (bN C):=by intro U s V H D I h;show wpAny_Return_some (BD (Z _ s V H _ I h) λv s1 J=>?_);obtain⟨x,W,Y,r1,B⟩:_:=J;show⟨x,V,W,Y,r1,B⟩
def Vo(c:Dg)(t u:C7):C7:=λD J H=>c J H λb U=>if b=AJ then t D J U else u D J U
theorem Bx(E:HI X c A)(B:GC X a t)(C:GC X b u):Ew X (.If c a b F) (Vo A t u):=by intro Y s U H D I h;show wpAny_If (BD (E _ s U H _ I h) λd s1 J=>?_);obtain⟨V,W,Z⟩:_:=J;cases d with|true=>show B _ s1 U V D W Z|false=>show C _ s1 U V D W Z
abbrev Ex:=AD->Ae->AI->(Ae->AI->Prop)->Prop
abbrev MG:=List AD->Ae->AI->(Ae->AI->Prop)->Prop
def LP(X:Br)(D:BS)(t:Ex):Prop:=∀(J:List (AE×BP))(s:AZ)(Y:Ae)(H:AI)(v:AD)(u:AL)(Q:Ae->AI->Prop),Ab X J Y H s->Bj v u->t v Y H Q->BB (Ar X.ag X.w) X.A (assign D X.ae u) (λ_ Z=>LS (λU W=>Ab X J U W Z) (λU W=>Q U W)) X.xe s
def Pd(X:Br)(B:List BS)(t:MG):Prop:=∀(D:List (AE×BP))(s:AZ)(Z:Ae)(H:AI)(Y:List AD)(W:List AL)(Q:Ae->AI->Prop),Ab X D Z H s->Bk Y W->t Y Z H Q->BB (Ar X.ag X.w) X.A (assignInOrder ((QR B X.ae).map (·.2)) W) (λ_ A=>LS (λJ U=>Ab X D J U A) (λJ U=>Q J U)) X.xe s
def G1(i:Nat):Ex:=λv D H Q=>Q (D.set i (AA v)) H
theorem Js(U:X.N.Nodup)(hi:X.N[i]?=AA x)(W:MF X.ae.scope x)(V:X.fn x=AJ\/X.ae.scope.names.lookup x=AA .local:=by first|show .inl rfl|show .inr rfl|assumption):LP X (.Name x Y) (G1 i):=by intro D s A H v u Q I r h;show ADi (bC I U hi W r (λZ J=>⟨_,H,J,h⟩) V)
def Zf:MG:=λD J H Q=>D=[]/\Q J H
def VB(t:Ex)(u:MG):MG:=λU V H Q=>LS (λv r=>U=v::r) (λv r=>t v V H λD J=>u r D J Q)
theorem JJ:Pd X [] Zf:=by intro D s J H V U Q I r h;obtain⟨e,h⟩:=h;subst e;show assignInOrder_nil ⟨J,H,I,h⟩
theorem EB(Z:LP X e t)(A:Pd X J u)(B:(QR (e::J) X.ae).map (·.2)=assign e X.ae::(QR J X.ae).map (·.2):=by rfl):Pd X (e::J) (VB t u):=by intro U s F H M K Q I r h;obtain⟨v,L,Y,h⟩:_:=h;subst Y;cases r with|cons r E=>rw[B];show assignInOrder_cons (BD (Z _ s F H _ _ _ I r h) λ_ s1 D=>?_);obtain⟨G,V,W,C⟩:_:=D;show A _ s1 _ V _ _ Q W E C
def VC(K:Ax)(n:Nat)(t:MG):Ex:=λv J H Q=>LU (λa D=>v=.ref a) (λa D=>Cm K H a D) (λ_ D=>D.length=n) (λ_ D=>t D J H Q)
theorem aL{K:C3}(Z:X.gf=AJ)(h:Pd X D t)(B:(QR D X.ae).length=n:=by rfl)(J:(QR D X.ae).findIdx? (·.1)=AG:=by rfl):LP X (.Tuple D k K) (VC X.K n t):=by intro U s M H v u Q I r hw;obtain⟨a,L,Y,C,A,hw⟩:_:=hw;subst Y;lk;cases r;obtain⟨G,V,E,O⟩:=I.ff C;k_in;show assign_Tuple_tuple (I.ok.hd Z) E (by simp[B,<-A,V.ao]) J λN F=>?_;have W:=I.gw (t':=s.toks) λb o e=>F b o (Ee (Cw e)) e;show h _ _ M H L _ Q W (by simpa using V) hw
def SV(V:A1)(g:Ex):C7:=λD J H=>V J H λx U=>g x J U D.nx
theorem Ks(B:X.N.Nodup)(hi:X.N[i]?=AA x)(G:MF X.ae.scope x)(C:Am X e W)(F:Ol e (AA (.Name x J)) U.line X.ae=Bo AR:=by rfl)(E:X.fn x=AJ\/X.ae.scope.names.lookup x=AA .local:=by first|show .inl rfl|show .inr rfl|assumption):Ew X (.Assign [.Name x J] e U) (SV W (G1 i)):=by intro V s L H D I h;show wpAny_Assign_Name (BD (C _ s L H _ I h) λv s1⟨y,Y,Z,r1,K⟩=>?_) F;show bC Z B hi G r1 (λs2 A=>⟨_,Y,A,K⟩) E
def bR(c:Dg)(A:C7):C7:=λD J H=>∃W:Nat->Ae->AI->Prop,(∃m,W m J H)/\∀m J H,W m J H->c J H λb Y=>if b=AJ then∃N:Ae->AI->Prop,(∀U V,N U V->∃Z,Z<m/\W Z U V)/\A {D with nx:=N,ct:=N,bk:=D.nx} J Y else D.nx J Y
section
variable{X:Br}{pos:C3}
set_option tactic.hygienic true in theorem vQ{c:BS}{body:List DA}{tc:Dg}{tb:C7}(M:PassesOwn (Ar X.ag X.w) X.A X.ae X.xe)(R:HI X c tc)(Q:GC X body tb):Ew X (.While c body [] pos) (bR tc tb):=by intro pins s σ H D I h;obtain⟨W,⟨S,T⟩,turn⟩:_:=h;show wpAny_While (codeAny_whileLoop (λn s'=>∃Y H',Ab X _ Y H' s'/\W n Y H') ?_ S ⟨σ,H,I,T⟩);intro n s1 P;obtain⟨G,H1,O,a⟩:_:=P;show Qd M (BD (R _ s1 _ H1 _ O (turn n _ H1 a)) λb s2 V=>?_);obtain⟨H2,K,Z⟩:_:=V;cases b with
 |true=> obtain⟨N,L,Z⟩:_:=Z;show Qd M (BD (Q _ s2 _ H2 _ K Z) λf s3 A=>?_);cases f with
  |next=> lk;obtain⟨J,U,B,E⟩:=A;obtain⟨C,hm,F⟩:=L _ U E;k_in;show⟨C,hm,J,U,B,F⟩|cont=> lk;obtain⟨J,U,B,E⟩:=A;obtain⟨C,hm,F⟩:=L _ U E;k_in;show⟨C,hm,J,U,B,F⟩|brk=>show A|ret v=>show A
 |false=>show eO ⟨G,H2,K,Z⟩
end
structure Gh where
 go:Nat->AI->Prop
 zm:Nat->AI->AD->AI->Prop
 sj:Nat->AI->Prop
def Jm(X:Br)(D:List (AE×BP))(H:AI)(b:AE):Prop:=H b=AG/\b≠X.ae.locals/\b∉X.fs/\(b∈X.ex\/X.s₀.heap.objs.size<=b)/\(∀x c,X.ae.cells.lookup x=AA c->c≠b)/\∀p∈X.pn++D,p.1≠b
theorem Ab.ud(I:Ab X D σ H s)(J:s.heap.objs.size<=b)(U:H' b=AG):Jm X D H' b:=by
 show⟨U,NN (Bh I.lt J),I.acz J,.inr (Ah I.sz J),λx c e z=>?_,λp V z=>?_⟩;. obtain⟨v,q⟩:=I.nv x c e;show absurd (Bh q.lt (by rw[z];show J)) (J4 _)
 .show absurd (Bh (Cw (I.uh p V).1) (by rw[z];show J)) (J4 _)
structure MH(P:Ce)(w:CA)(K:Ax)(tg:BS)(J:Gh)(fp:List AE)(it:AE)(tn:Nat->Bb->Prop):Prop where
 aal:it∈fp
 cg:∀i h,tn i h->∀b∈fp,∃o,h.get? b=AA o/\∀v,o.data≠.cell v
 ab:∀i h h',tn i h->(∀b∈fp,∀o,h.get? b=AA o->h'.get? b=AA o)->tn i h'
 vc:∀(X:Br),X.ag=P->X.w=w->X.K=K->X.gf=AJ->∀(i:Nat)(pins:List (AE×BP))(s:AZ)(σ:Ae)(H:AI)(E:AL->AZ->Prop),Ab X pins σ H s->(∀b∈fp,Jm X pins H b)->tn i s.heap->J.go i H->BB (Ar P w) X.A (pyNext (.ref it)) (λr s1=>∃u,r=AA u/\BB (Ar P w) X.A (AAe tg (.ref it) u) (λ_ s2=>∃x H',Ab X pins σ H' s2/\Bj x u/\J.zm i H x H'/\tn (i+1) s2.heap/\∀b∈fp,H' b=AG) E s1) E s
 uy:∀(X:Br),X.ag=P->X.w=w->X.K=K->X.gf=AJ->∀(i:Nat)(pins:List (AE×BP))(s:AZ)(σ:Ae)(H:AI)(E:AL->AZ->Prop),Ab X pins σ H s->(∀b∈fp,Jm X pins H b)->tn i s.heap->J.sj i H->BB (Ar P w) X.A (pyNext (.ref it)) (λr s1=>r=AG/\Ab X pins σ H s1) E s
 wo:∀(A:Dj)(i:Nat)(s:AZ)(Q:AL->AZ->Prop)(E:AL->AZ->Prop),tn i s.heap->Q (.ref it) s->BB (Ar P w) A (eK (.ref it)) Q E s
abbrev GX:=Ae->AI->(Gh->AI->Prop)->Prop
def Uv(X:Br)(D:List (AE×BP))(σ:Ae)(A:BS)(R:Gh->AI->Prop)(Z:AL)(s2:AZ):Prop:=ZC (λ(Y:AE)(V:List AE)(W:Nat->Bb->Prop)(J:Gh)(U:AI)=>Z=.ref Y) (λ_ _ _ _ U=>Ab X D σ U s2) (λY V W J _=>MH X.ag X.w X.K A J V Y W) (λ_ _ W _ _=>W 0 s2.heap) (λ_ V _ _ U=>(∀b∈V,Jm X D U b)) (λ_ _ _ J U=>R J U)
def Gj(X:Br)(V J:BS)(wi:GX):Prop:=∀(D:List (AE×BP))(s:AZ)(U:Ae)(H:AI)(R:Gh->AI->Prop),Ab X D U H s->wi U H R->BB (Ar X.ag X.w) X.A (Be J X.ae) (λv s1=>BB (Ar X.ag X.w) X.A (eK v) (Uv X D U V R) X.xe s1) X.xe s
theorem Pm(Y:s.heap.get? it=AA o)(U:o.cls=.type n)(V:o.data=.fields vs)(W:["enumerate","zip","dict_itemiterator","dict_reverseitemiterator","odict_iterator","itertools.zip_longest","itertools.pairwise"].contains n=AR)(D:Q () s):BB M A (AAe J (.ref it) u) Q E s:=by cases J<;>first|show Cp D|(cases u<;>first|show Cp D| (show BL (wpAny_load Y ?_);rw[U,V];change BB M A (if(["enumerate","zip","dict_itemiterator","dict_reverseitemiterator","odict_iterator","itertools.zip_longest","itertools.pairwise"].contains n&&vs[0]?==AA _)=AJ then _ else _) Q E s;rw[AEu (by intro h;rw[W]at h;cases h)];show Cp D))
def Kf(K:Ax)(a:AE):Gh:=⟨λi H=>∃D x,B7 K H a D/\D[i]?=AA x,λi H x J=>J=H/\∀D,B7 K H a D->D[i]?=AA x,λi H=>Gk (λD=>B7 K H a D) (λD=>D.length<=i)⟩
def Mv(lo:Int)(n:Nat):Gh:=⟨λi _=>i<n,λi H x D=>D=H/\x=.int (lo+i),λi _=>n<=i⟩
theorem xW{K:Ax}(a it:AE):MH P w K r (Kf K a) [it] it (λi h=>h.IsListIter it a i)where
 aal:=by simp
 cg:=λi h D b J=>by
  have e:b=it:=by simpa using J
  subst e;obtain⟨o,e,c,d⟩:_:=D;show⟨o,e,λv z=>by rw[d]at z;cases z⟩
 ab:=λi h R D k=>D.at λo e=>k it (by simp) o e
 vc:=by intro X L hw G S i U s y H E I W D M;subst L hw G;lk;obtain⟨t,x,Y,N⟩:=M;obtain⟨O,Q,p,m⟩:=I.gh Y;obtain⟨u,j,n⟩:=Q.va N;obtain⟨Z,A,g,B,C,F⟩:=W it (by simp);k_in;show wpAny_pyNext_list_item D p.isList (x:=u) (by simpa using j) λR V q=>?_;have T:=I.dh (t':=s.toks) (λb o J e=>(q.2 b J).trans e) Z A B C F;obtain⟨o,e,c,d⟩:_:=id V;show⟨u,rfl,Pm e c d (by decide) ⟨x,H,T,n,⟨rfl,λys l=>by rw[I.wg l Y];show N⟩,V,λb J=>(W b J).1⟩⟩
 uy:=by intro X L hw G S i U s y H E I W D M;subst L hw G;lk;obtain⟨t,Y,N⟩:=M;obtain⟨O,Q,p,m⟩:=I.gh Y;obtain⟨Z,A,g,B,C,F⟩:=W it (by simp);k_in;have hl:=Q.ao;show wpAny_pyNext_list_end (I.ok.hd S) D p.isList (by simp;simp_all) λR f=>⟨rfl,I.dh (λb o J e=>f b o J e) Z A B C F⟩
 wo:=λ_ _ _ _ _ D h=>wpAny_pyIter_listiter D h
theorem xX{K:Ax}(it:AE)(lo:Int)(n:Nat):MH P w K d (Mv lo n) [it] it (λi h=>dR h it (lo+(i:Nat)*1) ((n:Int)-(i:Nat)) 1)where
 aal:=by simp
 cg:=λi h D b U=>by
  have e:b=it:=by simpa using U
  subst e;show⟨_,D,λv z=>by have g:=z;cases g⟩
 ab:=λi h G D k=>k it (by simp) _ D
 vc:=by intro X O hw N L i J s Q H E I Y D M;subst O hw N;obtain⟨Z,A,T,B,C,F⟩:_:=Y it (by simp);have W:=ADQ (prog:=X.ag) (w:=X.w) (I.ok.hd L) it lo 1 n;show W.item i s _ _ M D λv G f a V c=>?_;obtain⟨t,rfl⟩:=a;have R:Ab X J Q H {s with heap:=G,toks:=f}:=I.dh (λb o U e=>c b o (by simpa using U) e) Z A B C F;show⟨_,rfl,Pm V rfl rfl (by decide) ⟨.int (lo+i),H,R,⟨t,?_⟩,⟨rfl,rfl⟩,V,λb U=>(Y b U).1⟩⟩;rw[Int.mul_one]
 uy:=by intro X O hw N L i J s Q H E I Y D M;obtain⟨Z,A,T,B,C,F⟩:_:=Y it (by simp);show ADs (I.ok.hd L) D (by have:=M;show ABV (TH.mp this)) λG S=>⟨rfl,I.dh (λb o U e=>S b o U e) Z A B C F⟩
 wo:=λ_ _ _ _ _ D h=>ADr D h
def Kk(K:Ax)(tl:A1):GX:=λU H R=>tl U H λx D=>Jn (λa=>x=.ref a) (λa=>(∃J,B7 K D a J)) (λa=>R (Kf K a) D)
theorem vI(Y:Am X l tl):Gj X G l (Kk X.K tl):=by
 intro U s C H R I h;show BD (Y _ s C H _ I h) λv s1 D=>?_;lk;obtain⟨x,V,J,r1,B⟩:=D;obtain⟨a,e,⟨K,Z⟩,q⟩:=B;k_in;subst e;lk;cases r1;obtain⟨A,F,p,E⟩:=J.gh Z;k_in;show wpAny_pyIter_list p.isList ?_;show⟨_,_,_,_,V,rfl,J.gw λb o e=>DN _ e,xW a _,⟨_,Gu _ rfl,rfl,rfl⟩,λb W=>?_,q⟩;have e:=by simpa using W
 subst e;show J.ud (Ak _) (J.cj.bz (Ak _))
theorem aU{lo:Int}(I:Ab X D σ H s)(Y:-(2^62)<=lo)(Z:lo<2^62)(A:-(2^62)<=hi)(B:hi<2^62)(q:R (Mv lo (hi-lo).toNat) H):BB (Ar X.ag X.w) X.A (eK (.ref s.heap.objs.size)) (Uv X D σ F R) E {s with heap:=s.heap.push {cls:=.type "range",data:=.fields #[.int lo t,.int hi u,.int 1 v]},toks:=U}:=by
  show ADq (AAE ..) (small_one Y Z A B) ?_;have J:Ab X _ σ H {s with heap:=s.heap.push {cls:=.type "range",data:=.fields #[.int lo t,.int hi u,.int 1 v]},toks:=U}:=I.gw λb o e=>DN _ e;show⟨_,_,_,_,H,rfl,J.gw λb o e=>DN _ e,xX _ lo _,?_,λb C=>?_,q⟩
  . have V:lo+((0:Nat))*1=lo:=by simp
    have W:(((hi-lo).toNat:Nat))-((0:Nat))=dM lo hi 1:=by rw[rangeSize_one];split<;>lia
    change dR _ _ _ _ 1;rw[V,W];show Gu _ rfl
  . have e:b=(s.heap.push {cls:=.type "range",data:=.fields #[.int lo t,.int hi u,.int 1 v]}).objs.size:=by simpa using C
    subst e;show J.ud (Ak _) (J.cj.bz (Ak _))
def tF(J:Fz):GX:=λV H R=>J V H λU D=>Y7 (λ(j:Int)=>U=[.int j]) (λj=>-(2^62)<=j) (λj=>j<2^62) (λj=>R (Mv 0 j.toNat) D)
def tG(J:Fz):GX:=λV H R=>J V H λU D=>Ey (λ(i j:Int)=>U=[.int i,.int j]) (λi j=>(-(2^62)<=i/\i<2^62/\-(2^62)<=j/\j<2^62)) (λi j=>R (Mv i (j-i).toNat) D)
theorem SH{K:BS}(Z:Gg X "range")(A:X.mg "range"=AG)(Y:Gi X [a] V)(B:Co [a] X.ae=[(AR,Be a X.ae)]:=by rfl):Gj X K (.Call (.Name "range" p) [a] [] D) (tF V):=by intro U s F H R I h;show WI (Ko I Z A dE (QI (BD (Y _ _ s F H _ I h) λL s1⟨M,G,W,r1,J⟩=>?_) B rfl));obtain⟨j,e,J,C,q⟩:_:=J;subst e;cases r1 with|cons r E=>lk;cases E;obtain⟨t,rfl⟩:=r;k_in;show call_range_1 (aU W (by simp) (by simp) J C (by simpa using q))
theorem vJ(B:Gg X "range")(C:X.mg "range"=AG)(A:Gi X [a,b] Y)(E:Co [a,b] X.ae=[(AR,Be a X.ae),(AR,Be b X.ae)]:=by rfl)(D:Co [b] X.ae=[(AR,Be b X.ae)]:=by rfl):Gj X P (.Call (.Name "range" p) [a,b] [] J) (tG Y):=by intro W s M H R I h;show WI (Ko I B C dE (QI (BD (A _ _ s M H _ I h) λQ s1⟨S,N,Z,r1,U⟩=>?_) (by rw[E,D]) (by rw[D];rfl)));obtain⟨i,j,e,⟨U,F,G,K⟩,q⟩:_:=U;subst e;cases r1 with|cons r V=>cases V with|cons L V=>lk;cases V;obtain⟨t,rfl⟩:=r;obtain⟨O,rfl⟩:=L;k_in;show call_range_2 (aU Z U F G K q)
def SW(wi:GX)(g:Ex)(E:C7):C7:=λD U H=>wi U H λJ B=>∃W:Nat->Nat->Ae->AI->Prop,(∃m,W 0 m U B)/\∀i m U H,W i m U H->(J.sj i H/\D.nx U H)\/(J.go i H/\∃N:Ae->AI->Prop,(∀Y V,N Y V->∃A,A<m/\W (i+1) A Y V)/\∀x V,J.zm i H x V->g x U V λZ C=>E {D with nx:=N,ct:=N,bk:=D.nx} Z C)
def SI(D:List AE)(h:Bb):List (AE×BP):=D.filterMap λb=>(h.get? b).map λo=>(b,o)
theorem VH(J:b∈D)(e:h.get? b=AA o):(b,o)∈SI D h:=ABr.mpr ⟨b,J,by rw[e];rfl⟩
theorem uJ(V:p∈SI D h):p.1∈D/\h.get? p.1=AA p.2:=by obtain⟨b,U,e⟩:_:=ABr.mp V;cases q:h.get? b with|none=>rw[q]at e;cases e|some o=>rw[q]at e;have J:=B9 e;subst J;show⟨U,q⟩
theorem Ab.zf(I:Ab X D σ H s)(A:∀b∈J,Jm X D H b)(B:∀b∈J,∃o,s.heap.get? b=AA o/\∀v,o.data≠.cell v):Ab X (D++SI J s.heap) σ H s:=I.ic λp C=>(DS.mp C).elim (λz=>I.uh p (Fj _ z)) λz=>by lk;obtain⟨V,e⟩:=uJ z;obtain⟨W,Y,Z,_⟩:=A _ V;obtain⟨o,U,d⟩:=B _ V;k_in;rw[e]at U;cases U;show⟨e,W,Y,Z,d⟩
theorem Ab.su(I:Ab X (D++U) σ H s):Ab X D σ H s:=I.ic λp J=>I.uh p (Fj _ (Ic _ J))
section
variable{X:Br}{tg:BS}
set_option tactic.hygienic true in theorem C8{B:BS}{body:List DA}{wi:GX}{g:Ex}{tb:C7}{pos:C3}(Q:PassesOwn (Ar X.ag X.w) X.A X.ae X.xe)(hc:X.gf=AJ)(hi:Gj X tg B wi)(hg:LP X tg g)(A:GC X body tb)(hs:∀x,Oh B X.ae x=Bo x:=by intro _;rfl):Ew X (.For tg B body [] pos) (SW wi g tb):=by
  intro pins s σ H D I h;show wpAny_For (BD (hi pins s σ H _ I h) λv s1 h1=>BD h1 λitv s2 h2=>?_) hs;obtain⟨it,fp,tn,J,H2,e,I2,T,q,z,W,⟨m0,w0⟩,turn⟩:_:=h2;subst e;have C:∀{H':AI},(∀b∈fp,H' b=AG)->∀b∈fp,Jm X pins H' b:=λhn b A=>⟨hn b A,(z b A).2⟩;show codeAny_forLoop_any (λn s'=>∃i E H',Ab X pins E H' s'/\tn i s'.heap/\(∀b∈fp,H' b=AG)/\W i n E H') ?_ m0 ⟨0,σ,H2,I2,q,λb A=>(z b A).1,w0⟩;intro n s3 hI;obtain⟨i,F,c,y,S,L,w3⟩:_:=hI;rcases turn i n F c w3 with⟨a,qn⟩|⟨go,N,hN,step⟩
  . show Qd Q (BD (T.uy X rfl rfl rfl hc i pins s3 F c X.xe y (C L) S a) λr s4 M=>?_);obtain⟨l,I4⟩:=M;subst l;show eO ⟨F,c,I4,qn⟩
  . show Qd Q (BD (T.vc X rfl rfl rfl hc i pins s3 F c X.xe y (C L) S go) λr s4 O=>?_);obtain⟨u,l,h4⟩:_:=O;subst l;show Qd Q (BD h4 λ_ s5⟨x,w,I5,r5,y5,K,k⟩=>?_);have j:=I5.zf (C k) (T.cg _ _ K);show Qd Q (BD (hg _ s5 F w x u _ j r5 (step x w y5)) λ_ s6 P=>?_);obtain⟨t,H6,I6,q6⟩:_:=P;show Qd Q (BD (A _ s6 t H6 _ I6 q6) λf p G=>?_);have Z:∀{U:Ae}{V:AI},Ab X _ U V p->N U V->∃m,m<n/\∃i E H',Ab X pins E H' p/\tn i p.heap/\(∀b∈fp,H' b=AG)/\W i m E H':=λ{U V}Y R=>by obtain⟨m',hm,w7⟩:=hN U V R;show⟨m',hm,i+1,U,V,Y.su,T.ab _ _ _ K λb A o e=>(Y.uh (b,o) (Fj _ (Fj _ (VH A e)))).1,λb A=>?_,w7⟩;obtain⟨o,e,d⟩:=T.cg _ _ K b A;show(Y.uh (b,o) (Fj _ (Fj _ (VH A e)))).2.1
    cases f with |next=>obtain⟨U,V,Y,R⟩:=G;show Z Y R|cont=>obtain⟨U,V,Y,R⟩:=G;show Z Y R|brk=>obtain⟨U,V,Y,G⟩:=G;show⟨U,V,Y.su,G⟩|ret v=>obtain⟨x7,U,V,Y,r7,G⟩:=G;show⟨x7,U,V,Y.su,r7,G⟩
end
theorem FJ{K:Ax}{a:AE}{xs:List AD}{g:Ex}{E:C7}{D:Hq}{σ:Ae}{H:AI}(U:Nat->Ae->AI->Prop)(F:U 0 σ H)(L:∀i σ H,i<=xs.length->U i σ H->B7 K H a xs)(M:∀i x σ H,xs[i]?=AA x->U i σ H->g x σ H λZ A=>E {D with nx:=U (i+1),ct:=U (i+1),bk:=D.nx} Z A)(I:∀σ H,U xs.length σ H->D.nx σ H):∃W:Nat->Nat->Ae->AI->Prop,(∃m,W 0 m σ H)/\∀i m σ H,W i m σ H->((Kf K a).sj i H/\D.nx σ H)\/((Kf K a).go i H/\∃N:Ae->AI->Prop,(∀Y H',N Y H'->∃C,C<m/\W (i+1) C Y H')/\∀x H',(Kf K a).zm i H x H'->g x σ H' λZ A=>E {D with nx:=N,ct:=N,bk:=D.nx} Z A):=by
 show⟨λi m σ H=>m=xs.length-i/\i<=xs.length/\U i σ H,⟨xs.length,by simp,BY _,F⟩,?_⟩;intro i m σ H G;obtain⟨rfl,B,p⟩:_:=G;have q:=L i σ H B p;by_cases J:i<xs.length
 . show .inr ⟨⟨xs,xs[i],q,by simp[J]⟩,_,λY H' O=>⟨_,JR _ _ J,rfl,J,O⟩,λx H' y=>?_⟩;obtain⟨e,y⟩:=y;subst e;show M i x σ _ (y xs q) p
 . have e:=Fm B (Ga J);subst e;show .inl ⟨⟨xs,q,Ak _⟩,I σ H p⟩
theorem Pl{lo:Int}{n:Nat}{g:Ex}{B:C7}{D:Hq}{σ:Ae}{H:AI}(Y:Nat->Ae->AI->Prop)(C:Y 0 σ H)(I:∀i σ H,i<n->Y i σ H->g (.int (lo+i)) σ H λV Z=>B {D with nx:=Y (i+1),ct:=Y (i+1),bk:=D.nx} V Z)(F:∀σ H,Y n σ H->D.nx σ H):∃W:Nat->Nat->Ae->AI->Prop,(∃m,W 0 m σ H)/\∀i m σ H,W i m σ H->((Mv lo n).sj i H/\D.nx σ H)\/((Mv lo n).go i H/\∃N:Ae->AI->Prop,(∀U H',N U H'->∃A,A<m/\W (i+1) A U H')/\∀x H',(Mv lo n).zm i H x H'->g x σ H' λV Z=>B {D with nx:=N,ct:=N,bk:=D.nx} V Z):=by
 show⟨λi m σ H=>m=n-i/\i<=n/\Y i σ H,⟨n,by simp,BY _,C⟩,?_⟩;intro i m σ H E;obtain⟨rfl,G,p⟩:_:=E;by_cases J:i<n
 . show .inr ⟨J,_,λU H' K=>⟨_,JR _ _ J,rfl,J,K⟩,λx H' y=>?_⟩;obtain⟨e,y⟩:=y;subst e y;show I i σ _ J p
 . have e:=Fm G (Ga J);subst e;show .inl ⟨Ak _,F σ H p⟩
theorem yG(V:Ae->AI->Prop)(Y:Ae->AI->Nat)(B:V σ H)(C:∀σ H,V σ H->c σ H λb U=>if b=AJ then A {D with nx:=λJ H'=>V J H'/\Y J H'<Y σ H,ct:=λJ H'=>V J H'/\Y J H'<Y σ H,bk:=D.nx} σ U else D.nx σ U)(W:∀σ H Q Z,(∀b U,Q b U->Z b U)->c σ H Q->c σ H Z):bR c A D σ H:=by show⟨λm σ H=>m=Y σ H/\V σ H,⟨_,rfl,B⟩,?_⟩;rintro m σ H⟨rfl,p⟩;show W σ H _ _ (λb U q=>?_) (C σ H p);cases b with|true=>show⟨_,λJ H'⟨E,l⟩=>⟨_,l,rfl,E⟩,q⟩|false=>show q
abbrev EJ:=AD->AD->AI->BN->Prop
def Cf(X:Br)(f:AL->AL->D6 AL)(r:EJ):Prop:=∀(D:List (AE×BP))(s:AZ)(J:Ae)(H:AI)(x y:AD)(v u:AL)(Q:BN),Ab X D J H s->Bj x v->Bj y u->r x y H Q->BB (Ar X.ag X.w) X.A (f v u) (Fy X D J Q) X.xe s
def Rl(X:Br)(f:AL->D6 AL)(r:AD->AI->BN->Prop):Prop:=∀(D:List (AE×BP))(s:AZ)(J:Ae)(H:AI)(x:AD)(v:AL)(Q:BN),Ab X D J H s->Bj x v->r x H Q->BB (Ar X.ag X.w) X.A (f v) (Fy X D J Q) X.xe s
def Fx(X:Br)(f:AL)(r:List AD->AI->BN->Prop):Prop:=∀(D:List (AE×BP))(s:AZ)(W:Ae)(H:AI)(U:List AD)(J:List AL)(Q:BN),Ab X D W H s->Bk U J->r U H Q->BB (Ar X.ag X.w) X.A (Ip f J) (Fy X D W Q) X.xe s
def Hz(r:EJ)(V W:A1):A1:=λD H Q=>V D H λx J=>W D J λy U=>r x y U Q
def xQ(r:AD->AI->BN->Prop)(J:A1):A1:=λU H Q=>J U H λx D=>r x D Q
def OM(C:Int->Int->Prop)(g:Int->Int->AD):EJ:=λx y H Q=>LU (λi j=>x=.int i) (λ_ j=>y=.int j) (λi j=>C i j) (λi j=>Q (g i j) H)
def LZ(g:Int->Int->AD):EJ:=λx y H Q=>Ey (λi j=>x=.int i) (λ_ j=>y=.int j) (λi j=>Q (g i j) H)
def aT(g:Int->AD):AD->AI->BN->Prop:=λx H Q=>Gk (λi=>x=.int i) (λi=>Q (g i) H)
theorem U2{K L:A1}(B:Am X a K)(C:Am X b L){R:AD->AD->AI->Prop}(I:Ab X D σ H s)(h:K σ H λx Y=>L σ Y λy J=>R x y J){f:AL->AL->D6 AL}(E:∀v u s2 x y J,Ab X D σ J s2->Bj x v->Bj y u->R x y J->BB (Ar X.ag X.w) X.A (f v u) Q X.xe s2):BB (Ar X.ag X.w) X.A (Be a X.ae) (λv U=>BB (Ar X.ag X.w) X.A (Be b X.ae) (λu W=>BB (Ar X.ag X.w) X.A (f v u) Q X.xe W) X.xe U) X.xe s:=by show BD (B _ s σ H _ I h) λv s1⟨x,Y,Z,r1,F⟩=>?_;show BD (C _ s1 σ Y _ Z F) λu s2⟨y,J,A,r2,G⟩=>?_;show E v u s2 x y J A r1 r2 G
theorem AY(Y:Cf X (G6 op) r)(V:Am X a C)(W:Am X b E):Am X (.BinOp a op b Z) (Hz r C E):=by intro D s F H Q I h;show wpAny_BinOp (U2 V W I h λv u s2 x y J U A B q=>Y _ s2 F J x y v u Q U A B q)
theorem vF(A:Rl X (unaryOp op) r)(Z:Am X a E):Am X (.UnaryOp op a B) (xQ r E):=by intro J s U H Q I h;show UnaryOp_ (BD (Z _ s U H _ I h) λv s1 D=>?_);obtain⟨x,W,Y,r1,C⟩:_:=D;show A _ s1 U W x v Q Y r1 C
theorem SE{f:AL->AL->D6 AL}{C:Int->Int->Prop}{g:Int->Int->Int}(D:∀(i j:Int)(t u:J9)(s:AZ)(Q:AL->AZ->Prop)(E:AL->AZ->Prop),C i j->Q (.int (g i j) s.toks) {s with toks:=s.toks+1}->BB (Ar X.ag X.w) X.A (f (.int i t) (.int j u)) Q E s):Cf X f (OM C λi j=>.int (g i j)):=by intro J s Z H x y v u Q I V W h;lk;obtain⟨i,j,rfl,rfl,U,q⟩:=h;obtain⟨t,rfl⟩:=V;obtain⟨Y,rfl⟩:=W;k_in;show D i j t Y s _ _ U ⟨.int _,H,I.gm _,⟨_,rfl⟩,q⟩
theorem Z5{f:AL->AL->D6 AL}{g:Int->Int->Int}(D:∀(i j:Int)(t u:J9)(s:AZ)(Q:AL->AZ->Prop)(E:AL->AZ->Prop),Q (.int (g i j) s.toks) {s with toks:=s.toks+1}->BB (Ar X.ag X.w) X.A (f (.int i t) (.int j u)) Q E s):Cf X f (LZ λi j=>.int (g i j)):=by intro J s Y H x y v u Q I U V h;lk;obtain⟨i,j,rfl,rfl,q⟩:=h;obtain⟨t,rfl⟩:=U;obtain⟨W,rfl⟩:=V;k_in;show D i j t W s _ _ ⟨.int _,H,I.gm _,⟨_,rfl⟩,q⟩
theorem SD{f:AL->AL->D6 AL}{g:Int->Int->Bool}(D:∀(i j:Int)(t u:J9)(s:AZ)(Q:AL->AZ->Prop)(E:AL->AZ->Prop),Q (.bool (g i j)) s->BB (Ar X.ag X.w) X.A (f (.int i t) (.int j u)) Q E s):Cf X f (LZ λi j=>.bl (g i j)):=by intro J s Y H x y v u Q I U V h;lk;obtain⟨i,j,rfl,rfl,q⟩:=h;obtain⟨t,rfl⟩:=U;obtain⟨W,rfl⟩:=V;k_in;show D i j t W s _ _ ⟨.bl _,H,I,rfl,q⟩
def Y1(i j:Int):Prop:=0<j/\j<1073741824
theorem zzd{i j:Int}(h:decide (0<j/\j<1073741824)=true):Y1 i j:=(of_decide_eq_true h:0<j/\j<1073741824)
theorem zzp{j:Int}(h:decide (0<j)=true):0<j:=of_decide_eq_true h
def qU(i j:Int):Prop:=0<=j/\j<=1000000/\i.natAbs<2^64
def Ul(i j:Int):Prop:=(-(2^64)<i/\i<2^64)\/(-(2^64)<j/\j<2^64)
theorem Ul.ok(h:Ul i j):IntMulOk i j:=by
 rcases h with⟨D,J⟩|⟨D,J⟩;.show .of_left (ADY D J)
 .show .of_right (ADY D J)
theorem Z6:Cf X (G6 .Add) (LZ λi j=>.int (i+j)):=Z5 λ_ _ _ _ _ _ _ q=>add_int q
theorem VU:Cf X (G6 .Sub) (LZ λi j=>.int (i-j)):=Z5 λ_ _ _ _ _ _ _ q=>sub_int q
theorem uS:Cf X (G6 .Mult) (OM Ul λi j=>.int (i*j)):=SE λ_ _ _ _ _ _ _ D q=>mul_int q D.ok
theorem uM:Cf X (G6 .FloorDiv) (OM Y1 λi j=>.int (i/j)):=SE λi j _ _ _ _ _ J q=>by have D:(0:Int)<j:=J.1;have U:j<1073741824:=J.2;show floordiv_int (K7 D) (by rw[Int.fdiv_eq_ediv_of_nonneg i (K6 D)];show q) (.inl (zT (by grind)))
theorem uR:Cf X (G6 .Mod) (OM (λ_ j=>0<j) λi j=>.int (i%j)):=SE λi j _ _ _ _ _ D q=>by show mod_int' (K7 D) (by rw[Int.fmod_eq_emod_of_nonneg i (K6 D)];show q)
theorem VT:Cf X (G6 .Pow) (OM qU λi j=>.int (i^j.toNat)):=SE λ_ _ _ _ _ _ _ D q=>pow_int_small D.1 D.2.1 D.2.2 q
theorem xZ{f:AL->D6 AL}{g:Int->Int}(D:∀(i:Int)(t:J9)(s:AZ)(Q:AL->AZ->Prop)(E:AL->AZ->Prop),Q (.int (g i) s.toks) {s with toks:=s.toks+1}->BB (Ar X.ag X.w) X.A (f (.int i t)) Q E s):Rl X f (aT λi=>.int (g i)):=by intro J s V H x v Q I U h;lk;obtain⟨i,rfl,q⟩:=h;obtain⟨t,rfl⟩:=U;k_in;show D i t s _ _ ⟨.int _,H,I.gm _,⟨_,rfl⟩,q⟩
theorem yA:Rl X (unaryOp .USub) (aT λi=>.int (-i)):=xZ λ_ _ _ _ _ q=>neg_int q
def bA:AD->AD->Bool|.non,.non=>AJ|.non,.int _=>AJ|.int _,.non=>AJ|.non,.bl _=>AJ|.bl _,.non=>AJ|.non,.str _=>AJ|.str _,.non=>AJ|.int _,.int _=>AJ|.bl _,.bl _=>AJ|.str _,.str _=>AJ|.byt _,.byt _=>AJ|.int _,.str _=>AJ|.str _,.int _=>AJ|.bl _,.str _=>AJ|.str _,.bl _=>AJ|_,_=>AR
def vU:EJ:=λx y H Q=>bA x y=AJ/\Q (.bl (Aa (x=y))) H
def vY:EJ:=λx y H Q=>bA x y=AJ/\Q (.bl (!Aa (x=y))) H
theorem ZW:Aa (AD.int i=AD.int j)=(i==j):=by rw[We];simp
theorem ZU:Aa (AD.bl i=AD.bl j)=(i==j):=by rw[We];simp
theorem ZX:Aa (AD.str i=AD.str j)=(i==j):=by rw[We];simp
theorem ZV:Aa (AD.byt i=AD.byt j)=(i.toList==j.toList):=by rw[We];lk;cases i;cases j;k_in;simp
theorem Dz(I:Ab X D σ H s)(q:Q (.bl k) H)(e:k=J):Fy X D σ Q (.bool J) s:=by subst e;show⟨.bl k,H,I,rfl,q⟩
theorem DD:Cf X (FF .Eq) vU:=by intro pins s σ H x y v u Q I rx ry h;obtain⟨hs,q⟩:=h;cases x with
 |non=> cases rx;cases y with |non=>cases ry;show AEO (Dz I q (by simp))|bl j=>cases ry;show AEM (Dz I q (by simp))|int j=>obtain⟨t',rfl⟩:=ry;show AEN (Dz I q (by simp))|str j=>obtain⟨t',rfl⟩:=ry;show AEP (Dz I q (by simp))|_=>show absurd (show AR=AJ from hs) Dw
 |bl i=> cases rx;cases y with |non=>cases ry;show AEK (Dz I q (by simp))|bl j=>cases ry;show eq_bool (Dz I q ZU)|str j=>obtain⟨t',rfl⟩:=ry;show AEC (Dz I q (by simp))|_=>show absurd (show AR=AJ from hs) Dw
 |int i=> obtain⟨t,rfl⟩:=rx;cases y with |non=>cases ry;show AEL (Dz I q (by simp))|int j=>obtain⟨t',rfl⟩:=ry;show eq_int (Dz I q ZW)|str j=>obtain⟨t',rfl⟩:=ry;show AED (Dz I q (by simp))|_=>show absurd (show AR=AJ from hs) Dw
 |str i=> obtain⟨t,rfl⟩:=rx;cases y with |non=>cases ry;show AEQ (Dz I q (by simp))|bl j=>cases ry;show AEE (Dz I q (by simp))|int j=>obtain⟨t',rfl⟩:=ry;show AEF (Dz I q (by simp))|str j=>obtain⟨t',rfl⟩:=ry;show eq_str (Dz I q ZX)|_=>show absurd (show AR=AJ from hs) Dw
 |byt i=> obtain⟨t,rfl⟩:=rx;cases y with |byt j=>obtain⟨t',rfl⟩:=ry;show W.eq_bytes (Dz I q ZV)|_=>show absurd (show AR=AJ from hs) Dw
 |_=>cases y<;>show absurd (show AR=AJ from hs) Dw
theorem Z8:Cf X (FF .NotEq) vY:=by intro pins s σ H x y v u Q I rx ry h;obtain⟨hs,q⟩:=h;cases x with
 |non=>cases rx;cases y with |non=>cases ry;show AEV (Dz I q (by simp))|bl j=>cases ry;show AET (Dz I q (by simp))|int j=>obtain⟨t',rfl⟩:=ry;show AEU (Dz I q (by simp))|str j=>obtain⟨t',rfl⟩:=ry;show AEW (Dz I q (by simp))|_=>show absurd (show AR=AJ from hs) Dw
 |bl i=>cases rx;cases y with |non=>cases ry;show AER (Dz I q (by simp))|bl j=>cases ry;show ne_bool (Dz I q (AEw not ZU))|str j=>obtain⟨t',rfl⟩:=ry;show AEG (Dz I q (by simp))|_=>show absurd (show AR=AJ from hs) Dw
 |int i=> obtain⟨t,rfl⟩:=rx;cases y with |non=>cases ry;show AES (Dz I q (by simp))|int j=>obtain⟨t',rfl⟩:=ry;show ne_int (Dz I q (AEw not ZW))|str j=>obtain⟨t',rfl⟩:=ry;show AEH (Dz I q (by simp))|_=>show absurd (show AR=AJ from hs) Dw
 |str i=> obtain⟨t,rfl⟩:=rx;cases y with |non=>cases ry;show AEX (Dz I q (by simp))|bl j=>cases ry;show AEI (Dz I q (by simp))|int j=>obtain⟨t',rfl⟩:=ry;show AEJ (Dz I q (by simp))|str j=>obtain⟨t',rfl⟩:=ry;show ne_str (Dz I q (AEw not ZX))|_=>show absurd (show AR=AJ from hs) Dw
 |byt i=> obtain⟨t,rfl⟩:=rx;cases y with |byt j=>obtain⟨t',rfl⟩:=ry;show W.ne_bytes (Dz I q (AEw not ZV))|_=>show absurd (show AR=AJ from hs) Dw
 |_=>cases y<;>show absurd (show AR=AJ from hs) Dw
theorem uP:Cf X (FF .Lt) (LZ λi j=>.bl (Aa (i<j))):=SD λ_ _ _ _ _ _ _ q=>zQ q
theorem VQ:Cf X (FF .LtE) (LZ λi j=>.bl (Aa (i<=j))):=SD λ_ _ _ _ _ _ _ q=>le_int q
theorem Z7:Cf X (FF .Gt) (LZ λi j=>.bl (Aa (j<i))):=SD λ_ _ _ _ _ _ _ q=>gt_int q
theorem uN:Cf X (FF .GtE) (LZ λi j=>.bl (Aa (j<=i))):=SD λ_ _ _ _ _ _ _ q=>ge_int q
theorem VP:Cf X (FF .Is) (λx y H Q=>y=.non/\Q (.bl (Aa (x=.non))) H):=by intro D s V H x y v u Q I J U h;lk;obtain⟨rfl,q⟩:=h;cases U;k_in;show is_none_gen (Dz I q ?_);cases x<;>first|(rfl)|(obtain⟨t,rfl⟩:=J;rfl)
theorem VS:Cf X (FF .IsNot) (λx y H Q=>y=.non/\Q (.bl (!Aa (x=.non))) H):=by intro D s V H x y v u Q I J U h;lk;obtain⟨rfl,q⟩:=h;cases U;k_in;show isnot_none_gen (Dz I q ?_);cases x<;>first|(cases J;rfl)|(obtain⟨t,rfl⟩:=J;rfl)
theorem BW(b:BS)(h:op≠.In:=by decide)(U:op≠.NotIn:=by decide):QT op b=AR:=by
 have D:(op==ACY)=AR:=by cases op<;>first|rfl|show absurd rfl h
 have J:(op==ACZ)=AR:=by cases op<;>first|rfl|show absurd rfl U
 cases b<;>simp[QT,D,J]
theorem HM(Z:Cf X (FF op) r)(V:Am X a E)(W:Am X b F)(Y:QT op b=AR):Am X (.Compare a [op] [b] A) (Hz r E F):=by intro D s G H Q I h;show wpAny_Compare1 (U2 V W I h λv u s2 x y J U B C q=>Z _ s2 G J x y v u Q U B C q) Y
def P6(t:A1):Dg:=λJ H Q=>t J H λx D=>Gk (λk=>x=.bl k) (λk=>Q k D)
theorem Bl(F:Cf X (FF op) r)(B:Am X a O)(C:Am X b P)(E:QT op b=AR):HI X (.Compare a [op] [b] G) (P6 (Hz r O P)):=by intro J s D H Q I h;show ADn (BD (B _ s D H _ I h) λv s1⟨x,U,Y,r1,K⟩=>BD (C _ s1 D U _ Y K) λu s2⟨y,V,Z,r2,L⟩=>BD (F _ s2 D V x y v u _ Z r1 r2 L) λc s3⟨z,W,A,N,k,e,M⟩=>?_) E;subst e;cases N;show Sz ⟨W,A,M⟩
def xA(r Y:EJ)(Z A B:A1):A1:=λD H Q=>Z D H λx U=>A D U λy V=>r x y V λz J=>Gk (λk=>z=.bl k) (λk=>(if k=AJ then B D J λC W=>Y y C W Q else Q (.bl AR) J))
theorem vR(f:Cf X (FF op) r)(U:Cf X (FF D) A)(P:Am X a t)(R:Am X b w)(S:Am X c tc)(T:lastMarks [op,D] [b,c]=AR:=by with_unfolding_all rfl):HI X (.Compare a [op,D] [b,c] g) (P6 (xA r A t w tc)):=by intro Y s J H Q I h;show isTrue_chain (BD (P _ s J H _ I h) λv s1⟨x,B,G,r1,j⟩=>test_link (BD (R _ s1 J B _ G j) λu s2⟨y,C,K,r2,l⟩=>BD (f _ s2 J C x y v u _ K r1 r2 l) λd s3⟨z,V,W,o,k,e,Z⟩=>?_)) T;subst e;cases o;show Sz ?_;cases k with|false=>lk;obtain⟨k',N,i⟩:=Z;cases N;k_in;show ite_ff ⟨V,W,i⟩|true=>show ite_tt (test_last (BD (S _ s3 J V _ W Z) λw' s4⟨z',E,L,p,m⟩=>BD (U _ s4 J E y z' u w' _ L r2 p m) λd' s5⟨z2,F,M,q,k2,O,n⟩=>?_));subst O;cases q;show Sz ⟨F,M,n⟩
theorem Pq:(Ay:Nat)<2^63:=by decide
theorem VN:Cf X (G6 .Add) (λx y H Q=>∃i j,x=.str i/\y=.str j/\i.length+j.length<=Ay/\Q (.str (i++j)) H):=by intro D s Z H x y v u Q I U V h;lk;obtain⟨i,j,rfl,rfl,J,q⟩:=h;obtain⟨t,rfl⟩:=U;obtain⟨W,rfl⟩:=V;k_in;show add_str (λW Y=>⟨.str (i++j),H,I.gm _,⟨_,rfl⟩,q⟩) J
theorem Ib(r:Bk [x] D):∃u,D=[u]/\Bj x u:=by cases r with|cons r1 r2=>cases r2;show⟨_,rfl,r1⟩
theorem Vs(r:Bk [x,y] D):∃u J,D=[u,J]/\Bj x u/\Bj y J:=by cases r with|cons r1 r2=>cases r2 with|cons U W=>cases W;show⟨_,_,rfl,r1,U⟩
theorem rL(U:X.gf=AJ):Fx X (.builtin "max") (λxs H Q=>∃i j,xs=[.int i,.int j]/\Q (.int (if j>i then j else i)) H):=by
 intro J s B H xs Z Q I r h;lk;obtain⟨i,j,rfl,q⟩:=h;obtain⟨u,A,rfl,⟨t,rfl⟩,⟨W,rfl⟩⟩:=Vs r;k_in;show max_two_ints (I.ok.hd U) λV Y k=>⟨_,H,I.gw k,?_,q⟩;by_cases D:j>i;.rw[AEv D,AEv D];show⟨_,rfl⟩
 .rw[AEu D,AEu D];show⟨_,rfl⟩
theorem rN(U:X.gf=AJ):Fx X (.builtin "min") (λxs H Q=>∃i j,xs=[.int i,.int j]/\Q (.int (if j<i then j else i)) H):=by
 intro J s B H xs Z Q I r h;lk;obtain⟨i,j,rfl,q⟩:=h;obtain⟨u,A,rfl,⟨t,rfl⟩,⟨W,rfl⟩⟩:=Vs r;k_in;show min_two_ints (I.ok.hd U) λV Y k=>⟨_,H,I.gw k,?_,q⟩;by_cases D:j<i;.rw[AEv D,AEv D];show⟨_,rfl⟩
 .rw[AEu D,AEu D];show⟨_,rfl⟩
theorem ZI:Fx X (.type "int") (λxs H Q=>(∃i,xs=[.int i]/\Q (.int i) H)\/∃k,xs=[.bl k]/\Q (.int (if k then 1 else 0)) H):=by
 intro D s U H xs J Q I r h;rcases h with⟨i,rfl,q⟩|⟨k,rfl,q⟩;. obtain⟨u,rfl,t,rfl⟩:_:=Ib r;show call_int_int ⟨.int i,H,I,⟨_,rfl⟩,q⟩
 . lk;obtain⟨u,rfl,r1⟩:=Ib r;cases r1;k_in;show call_int_bool ⟨.int _,H,I.gm _,⟨_,rfl⟩,q⟩
structure N3(h:Bb)(x dx C:AE)(mA:AF->Option AL):Prop where
 cg:h.get? x=AA (Su C dx)ns:h.Ns1 dx mA
 ne:dx≠x
set_option tactic.hygienic true in theorem t5{h:Bb}{dx:AE}{mA:AF->Option AL}(n:h.Ns1 dx mA):∃od,h.get? dx=AA od/\∀name,eB name od=AA (mA name):=by
  obtain⟨o,es,ep,V,hd,U,_,hm⟩:_:=n;show⟨o,V,λname=>?_⟩;have e:=hm name;unfold nsFind findBy at e;rw[<-Array.find?_toList]at e;unfold eB;rw[hd];dsimp only;split
  . rename_i y q;rw[q]at e;show AEw _ e
  . rename_i q;rw[q]at e;have a:es.toList.any (·.refKey)=AR:=by rw[List.any_eq_false];intro y W;obtain⟨z,t,D⟩:=U y (Array.mem_toList_iff.mp W);simp[AEB,D]
    have J:¬es.toList.any (·.refKey)=AJ:=by rw[a];show Dw
    rw[AEu J];show AEw _ e
theorem N3.zu(I:N3 h x U C V):∃J,W.InstAt h x (Su C U) C (AA J)/\∀D,eB D J=AA (V D):=let⟨J,Y,W⟩:=t5 I.ns
 ⟨J,⟨I.cg,rfl,rfl,Y⟩,W⟩
theorem sU{K:Ax}(X:K.In s.heap)(I:N3 s.heap x dx C mA)(hg:eC K C name=AJ)(hh:AAM K C=AJ)(ha:IH K (.ref C) name=AA AG)(hv:mA name=AA v)(hv':ADF v=AJ)(h:Q v {s with toks:=s.toks+1}):BB (Ar prog w) A (getAttr (.ref x) name expr) Q E s:=by obtain⟨od,J,hl⟩:_:=I.zu;show W.get_value X J (AAT hg).1 (W.findObj_own hh ha rfl (by rw[hl,hv])) hv' h
theorem sV{K:Ax}(X:K.In s.heap)(I:N3 s.heap x dx C mA)(hg:eC K C name=AJ)(hf:IH K (.ref C) name=AA (AA (.ref f)))(ht:AAN K (.ref f)=AJ)(hv:mA name=AG)(h:Q (.ref f,[.ref x]) s):BB (Ar prog w) A (eI (.ref x) name pl) Q E s:=by obtain⟨od,J,hl⟩:_:=I.zu;show W.method_fn X J (AAT hg).1 (AAT hg).2 hf (AE5.mp ht) (by change(eB _ od).map _=AA _;rw[hl,hv];rfl) h
theorem wH{K:Ax}{D:AF}(X:K.In s.heap)(I:N3 s.heap x H C L)(S:IH K (.ref C) "__setattr__"=AA (AA (.builtin "object.__setattr__")))(R:ADP K C=AJ)(T:AAU K C D=AA AG)(P:AAM K C=AJ)(hw:AAV L ns)(G:ns.length<=Ay)(h:∀W,N3 W x H C (λy=>if y=D then AA v else L y)->QO H s.heap W->Q () {s with heap:=W,toks:=s.toks+2}):BB (Ar prog w) A (setAttr (.ref x) D v) Q E s:=by obtain⟨f,J,d⟩:_:=I.zu;show W.set_plain X J S (W.osa_open X J R T λb=>?_);obtain⟨c,O,Z⟩:_:=W.any_some P;have a:=I.cg;show BL (Cp (BL (BL (wpAny_loadPart a (BL (AEq (W.looks_clsIn X O) ?_))))));rw[Z];show Cp (BL (Cp (BL ?_)));show wpAny_nsSet1 I.ns λW U V=>?_;obtain⟨e,N,M,F,B,Y⟩:_:=U.count (AEr _ v hw);show BL (wpAny_lookBehind F (by rw[B];show pastItsLine_dict (Ah Y (by show J3.mpr G))) ?_);show Cp (h _ ⟨(V.2 _ (Gb I.ne)).trans I.cg,U,I.ne⟩ V)
theorem t9{K:Ax}(X:K.In s.heap)(V:ADN K C=AJ)(hi:IH K (.ref C) "__init__"=AA (AA (.ref f)))(U:W.typeIn K (.ref f)=AA (.type "function"))(h:Og (Ar prog w) (A.under (.builtin "type.__call__" ⟨.ref C::vs,D⟩)) (.call (.ref f) ⟨.ref (s.heap.objs.size+1)::vs,D⟩) (W.InitBack (s.heap.objs.size+1) R) {s with heap:=(s.heap.push d7).push (Su C s.heap.objs.size)}):Og (Ar prog w) A (.call (.ref C) ⟨vs,D⟩) R s:=by show W.make_core (W.makes_of X V) (W.looks_findIn X hi) (λJ=>W.bind_fn X _ U) (.inl rfl) h
def G5(f:AF)(v:AD):List (AF×AD)->List (AF×AD)|[]=>[(f,v)]|(g,x)::r=>if g=f then(g,v)::r else(g,x)::G5 f v r
theorem Zw(f g:AF)(v:AD):∀U:List (AF×AD),(G5 f v U).lookup g=if g=f then AA v else U.lookup g
  |[]=>by
    change QB g [(f,v)]=_;by_cases h:g=f
    . have D:=AE5.mpr h;simp only[QB,D,AEv h]
    . have D:=AE6.mpr h;simp only[QB,D,AEu h]|(k,x)::r=>by
    have W:=Zw f g v r;rw[show G5 f v _=(if k=f then(k,v)::r else(k,x)::G5 f v r)from rfl];by_cases J:k=f
    . rw[AEv J];by_cases h:g=k
      . have D:=AE5.mpr h;simp only[QB,D,AEv (h.trans J)]
      . have D:=AE6.mpr h;simp only[QB,D,AEu (λe:g=f=>h (e.trans J.symm))]
    . rw[AEu J];by_cases h:g=k;. have D:=AE5.mpr h;simp only[QB,D,AEu (λe:g=f=>J (h.symm.trans e))]
      . have D:=AE6.mpr h;simp only[QB,D];show W
theorem VF(f:AF)(v:AD):∀D:List (AF×AD),f∈(G5 f v D).map (·.1)/\∀g,g∈D.map (·.1)->g∈(G5 f v D).map (·.1)
  |[]=>⟨by simp[G5],λg h=>by simp at h⟩|(k,x)::r=>by
    obtain⟨i1,i2⟩:=VF f v r;rw[show G5 f v _=(if k=f then(k,v)::r else(k,x)::G5 f v r)from rfl];by_cases J:k=f;. subst J;show⟨by simp,λg h=>by simpa using h⟩
    . rw[AEu J];show⟨?_,λg h=>?_⟩;.show GH _ i1
      . rcases Ca.mp h with e|e;.show Ca.mpr (.inl e)
        .show GH _ (i2 g e)
theorem Zr(f:AF)(v:AD):∀D:List (AF×AD),(G5 f v D).length<=D.length+1
 |[]=>by simp[G5]|(k,x)::r=>by
  have U:=Zr f v r;rw[show G5 f v _=(if k=f then(k,v)::r else(k,x)::G5 f v r)from rfl];by_cases J:k=f;.rw[AEv J,Kw];simp
  .rw[AEu J,Kw];show J3.mpr U
theorem N4(r:LR (AA v) o):∃u,o=AA u/\Bj v u:=by cases o with|none=>show(show False from r).elim|some u=>show⟨u,rfl,r⟩
theorem Ux(r:LR AG o):o=AG:=by cases o with|none=>rfl|some u=>show(show False from r).elim
theorem sX(r:Bj v u):ADF u=AJ:=by cases v with|non=>cases(show u=AAI from r);rfl|bl b=>cases(show u=WU b from r);rfl|int i=>obtain⟨t,e⟩:=(show∃t,u=QP i t from r);cases e;rfl|str x=>obtain⟨t,e⟩:=(show∃t,u=QQ x t from r);cases e;rfl|byt b=>obtain⟨t,e⟩:=(show∃t,u=AC6 b t from r);cases e;rfl|flt b=>obtain⟨t,e⟩:=(show∃t,u=AAH b t from r);cases e;rfl|ref a=>cases(show u=Dk a from r);rfl|ty n=>cases(show u=AAJ n from r);rfl
theorem Rw(U:Dc P w H h)(e:H a=AA (.ins C V J)):∃D,N3 h a V C D/\(∀f,LR (J.lookup f) (D f))/\AAV D (J.map (·.1))/\J.length<=1000/\H V=AA (.own a):=by obtain⟨d,z,W,Y,D,n,r,q⟩:_:=(show De P w H h a _ from U a _ e);show⟨D,⟨Y,n,W⟩,r,q,z,d⟩
structure IT(K:Ax)(C:AE):Prop where
 pg:eC K C Str.empty=AJ
 hd:AAM K C=AJ
 po:ADP K C=AJ
 sa:IH K (.ref C) "__setattr__"=AA (AA (.builtin "object.__setattr__"))
theorem IT.va{K:Ax}(c:IT K C)(f:AF):eC K C f=AJ:=c.pg
def Hr(K:Ax)(C:AE)(f:AF):Prop:=IH K (.ref C) f=AA AG
theorem Hr.acf{K:Ax}(n:Hr K C f):AAU K C f=AA AG:=by unfold AAU;rw[show IH K _ f=AA _ from n];rfl
structure Ra(K:Ax)(C:AE)(m:AF)(f:AE):Prop where
 adw:IH K (.ref C) m=AA (AA (.ref f))fn:AAN K (.ref f)=AJ
 kp:Sv K (.ref f)=AJ
theorem sW(I:Ab X D σ H s)(e:H a=AA (.ins C W U))(c:IT X.K C)(n:Hr X.K C f)(l:U.lookup f=AA v)(h:∀u s',Ab X D σ H s'->Bj v u->Q u s'):BB (Ar X.ag X.w) A (getAttr (.ref a) f b) Q E s:=by lk;obtain⟨Y,O,r,_,_,_⟩:=Rw I.cj e;obtain⟨u,V,J⟩:=N4 (by rw[<-l];show r f);k_in;show sU I.oq O (c.va f) c.hd n V (sX J) (h u _ (I.gm _) J)
theorem Zg(I:Ab X D σ H s)(e:H a=AA (.ins C W J))(c:IT X.K C)(k:Ra X.K C m g)(l:J.lookup m=AG)(h:Q (.ref g,[.ref a]) s):BB (Ar X.ag X.w) A (eI (.ref a) m V) Q E s:=by obtain⟨Y,O,r,_,_,_⟩:_:=Rw I.cj e;have U:=Ux (by rw[<-l];show r m);show sV I.oq O (c.va m) k.adw k.fn U h
theorem wI(I:Ab X J σ H s)(e:H a=AA (.ins C W D))(c:IT X.K C)(n:Hr X.K C f)(Y:D.length<1000)(R:Bj y u)(h:∀s',Ab X J σ (AQ H a (.ins C W (G5 f y D))) s'->Q () s'):BB (Ar X.ag X.w) A (setAttr (.ref a) f u) Q E s:=by
  obtain⟨P,O,r,B,_,Z⟩:_:=Rw I.cj e;have N:(D.map (·.1)).length<=Ay:=by rw[As];show Ah (B6 Y) (by decide)
  show wH I.oq O c.sa c.po n.acf c.hd B N λG U S=>h _ ?_;have L:∃o,G.get? W=AA o:=let⟨o,_,_,F,_⟩:=U.ns;⟨o,F⟩;show I.ti (by rw[e];show HU) (.inr Z) (λb q K z=>(S.2 b K).trans z) L ?_;show⟨by rw[AX O.ne];show Z,?_,O.ne,U.cg,_,U.ns,λg=>?_,λg M=>?_⟩;.have:=Zr f y D;show Ah this Y
  . rw[Zw];by_cases q:g=f;.rw[AEv q,AEv q];show R
    .rw[AEu q,AEu q];show r g
  . by_cases q:g=f;.rw[q];show(VF f y D).1
    . show(VF f y D).2 g (B g λz=>M ?_);change(if g=f then AA u else P g)=AG;rw[AEu q];show z
theorem qX(I:Ab X D σ H s):Ab X D σ (AQ (AQ H s.heap.objs.size (.own (s.heap.objs.size+1))) (s.heap.objs.size+1) (.ins C s.heap.objs.size [])) {s with heap:=(s.heap.push d7).push (Su C s.heap.objs.size)}:=by
 have J:(s.heap.push d7).get? _=AA _:=Gu _ rfl;have W:=by have:=Gu (s.heap.push d7) (o:=Su C s.heap.objs.size) rfl;rwa[AAD]at this
 have Y:(s.heap.push _).Ns _ _:=⟨_,#[],_,J,rfl,(λe Z=>absurd Z (by simp)),λ_=>rfl⟩;have V:=I.ma (o:=.own (s.heap.objs.size+1)) (t':=s.toks) (λb u q=>DN _ q) (Ak _) ⟨_,J⟩;show V.ma (λb u q=>DN _ q) (Bw (AAD _ _)) ?_;have U:s.heap.objs.size≠s.heap.objs.size+1:=Ee (JQ _);show⟨by rw[AX U,Af],BY _,U,W,_,(Heap.Ns1.of_empty Y).at λo q=>DN _ q,λ_=>HU,λy A=>absurd rfl A⟩
theorem rF(U:KA e f env (Be e env)=Be e env)(h:BB (Ar prog w) A (Be e env) (λo D=>BB (Ar prog w) A (getAttr o f AJ) Q E D) E s):BB (Ar prog w) A (Be (.Attribute e f J) env) Q E s:=Attribute_any_ h (by rw[arm_eval_Attribute,U])
inductive Uq(K:Ax)(H:AI)(f:AF):AD->AD->Prop|mk{a C dx:AE}{fs:List (AF×AD)}{v:AD}(e:H a=AA (.ins C dx fs))(c:IT K C)(n:Hr K C f)(l:fs.lookup f=AA v):Uq K H f (.ref a) v
def Kv(K:Ax)(J:A1)(f:AF):A1:=λU H Q=>J U H λx D=>Gk (λv=>Uq K D f x v) (λv=>Q v D)
def aZ(K:Ax)(Z A:A1)(f:AF):C7:=λD V H=>A V H λy Y=>Z V Y λx W=>Rp (λa C U J=>x=.ref a) (λa C U J=>W a=AA (.ins C U J)) (λ_ C _ _=>IT K C) (λ_ C _ _=>Hr K C f) (λ_ _ _ J=>J.length<1000) (λa C U J=>D.nx V (AQ W a (.ins C U (G5 f y J))))
theorem aI(A:Am X e F)(Z:KA e f X.ae (Be e X.ae)=Be e X.ae):Am X (.Attribute e f B) (Kv X.K F f):=by intro J s G H Q I h;show rF Z (BD (A _ s G H _ I h) λu s1 D=>?_);obtain⟨x,U,V,E,v,g,q⟩:_:=D;cases g with|mk Y c n l=>obtain rfl:u=Dk _:=E;show sW V Y c n l λK s2 W C=>⟨v,U,W,C,q⟩
theorem vP(K:Am X o R)(M:Am X J S)(L:Ol J (AA (.Attribute o f U)) V.line X.ae=Bo AR):Ew X (.Assign [.Attribute o f U] J V) (aZ X.K R S f):=by intro Y s W H D I h;show plainObj_wpAny_Assign_Attribute (BD (M _ s W H _ I h) λu s1⟨y,Z,A,Q,q⟩=>BD (K _ s1 W Z _ A q) λN s2⟨x,T,B,P,a,C,b,d,G,F,c,n,l,O⟩=>?_) L;subst G;obtain rfl:N=Dk a:=P;show wI B F c n l Q λs3 E=>⟨W,_,E,O⟩
section
variable{H:AI}
inductive IV(K:Ax)(H:AI):AD->AL->Prop where|non:IV K H .non (.type "NoneType")|bl(x:Bool):IV K H (.bl x) (.type "bool")|int(i:Int):IV K H (.int i) (.type "int")|str(x:AF):IV K H (.str x) (.type "str")|flt(x:UInt64):IV K H (.flt x) (.type "float")|lst{a:AE}{xs:List AD}(e:H a=AA (.lst xs)):IV K H (.ref a) (.type "list")|frz{a:AE}{o:BP}{xs:List AD}(e:H a=AA (.frz o (.lst xs))):IV K H (.ref a) (.type "list")|tup{a:AE}{xs:List AD}(e:H a=AA (.tup xs)):IV K H (.ref a) (.type "tuple")|dK{a:AE}{kvs:List (AK×AD)}(e:H a=AA (.dK kvs)):IV K H (.ref a) (.type "dict")|dT{a:AE}{kvs:List (List AK×AD)}(e:H a=AA (.dT kvs)):IV K H (.ref a) (.type "dict")|ins{a C dx:AE}{fs:List (AF×AD)}(e:H a=AA (.ins C dx fs))(cl:IT K C)(ha:IH K (.ref C) "__class__"=AA (AA (.builtin "object.__class__")))(hn:W.specialIn K (.builtin "object.__class__") "__get__"=AA (AA (.builtin "getset_descriptor.__get__")))(htk:W.takesIn K (.builtin "object.__class__")=AA AJ)(hm:W.mroIn K C (.type "object")=AA AJ):IV K H (.ref a) (.ref C)
end
theorem tJ(I:Ab X pins σ H s)(rx:Bj x u)(ty:IV X.K H x t)(e:ADK X.K t c=AA b)(h:∀tk,Q (.bool b) {s with toks:=tk}):BB (Ar X.ag X.w) A (Ip (.builtin "isinstance") [u,c]) Q E s:=by cases ty with|non=>cases(show u=AAI from rx);show Lh W.kitx_none I.oq HU e (λz=>nomatch z) h|bl y=>cases(show u=WU y from rx);show Lh W.kitx_bool I.oq HU e (λz=>nomatch z) h|int i=>obtain⟨t,q⟩:=(show∃t,u=QP i t from rx);cases q;show Lh W.kitx_int I.oq HU e (λz=>nomatch z) h|str y=>obtain⟨t,q⟩:=(show∃t,u=QQ y t from rx);cases q;show Lh W.kitx_str I.oq HU e (λz=>nomatch z) h|flt y=>obtain⟨t,q⟩:=(show∃t,u=AAH y t from rx);cases q;show Lh W.kitx_float I.oq HU e (λz=>nomatch z) h|@lst a xs ea=>lk;cases(show u=Dk a from rx);obtain⟨_,_,n,_,h1⟩:=(show De _ _ H _ a _ from I.cj a _ ea);k_in;show Lh ADM I.oq ⟨_,h1,rfl⟩ e (λz=>nomatch z) h|@frz a ob xs ea=>lk;cases(show u=Dk a from rx);obtain⟨_,_,_,n,_,h1⟩:=(show De _ _ H _ a _ from I.cj a _ ea);k_in;show Lh ADM I.oq ⟨_,h1,rfl⟩ e (λz=>nomatch z) h|@tup a xs ea=>lk;cases(show u=Dk a from rx);obtain⟨_,_,_,p⟩:=(show De _ _ H _ a _ from I.cj a _ ea);obtain⟨o,h1,h2,_⟩:=p;k_in;show Lh W.kitx_tuple I.oq ⟨o,h1,h2⟩ e (λz=>nomatch z) h|@dK a kvs ea=>lk;cases(show u=Dk a from rx);obtain⟨_,_,vs,_,p⟩:=(show De _ _ H _ a _ from I.cj a _ ea);obtain⟨o,es,ep,h1,h2,_⟩:=p;k_in;show Lh ADL I.oq ⟨o,h1,h2.1⟩ e (λz=>nomatch z) h|@dT a kvs ea=>lk;cases(show u=Dk a from rx);obtain⟨_,_,xs,_,o,es,ep,h1,h2,_⟩:=(show De _ _ H _ a _ from I.cj a _ ea);k_in;show Lh ADL I.oq ⟨o,h1,h2.1⟩ e (λz=>nomatch z) h|@ins a C dx fs ea cl ha hn htk hm=>lk;cases(show u=Dk a from rx);obtain⟨mA,O,_⟩:=Rw I.cj ea;obtain⟨od,J,_⟩:=O.zu;k_in;show Lh (W.kitx_own (cl.va _) cl.hd ha hn htk hm) I.oq J e (λz=>nomatch z) h
structure D9(k:Nat)(A:Dj):Prop where
 hd:A.handled=AG
 dp:A.depth+3*k+5<ADd
 un:A.units+16*k+200<GL
theorem D9.wj(r:D9 k A)(h:j<=k):D9 j A:=⟨r.hd,by have:=r.dp;lia,by have:=r.un;lia⟩
theorem D9.aaf(r:D9 (k+1) A)(env:Ef):D9 k (A.deeper env):=⟨r.hd,by have:=r.dp;change A.depth+1+3*k+5<_;lia,by have:=r.un;change A.units+3+16*k+200<_;lia⟩
theorem D9.abl(r:D9 (k+1) A):D9 k A.in1:=⟨r.hd,by have:=r.dp;lia,by have:=r.un;lia⟩
theorem t8{A:Dj}:(A.under (.builtin "type.__call__" ⟨.ref C::J,D⟩)).depth=A.depth+1:=by first|rfl|simp
theorem uA{A:Dj}:(A.under (.builtin "type.__call__" ⟨.ref C::J,D⟩)).units=A.units+1:=by first|rfl|simp
theorem D9.aak(r:D9 (k+1) A)(C:AE)(J:List AL)(D:List (AF×AL)):D9 k (A.under (.builtin "type.__call__" ⟨.ref C::J,D⟩)):=⟨r.hd,by have:=r.dp;rw[t8];lia,by have:=r.un;rw[uA];lia⟩
theorem D9.abe(r:D9 k A):A.depth<ADd:=by have:=r.dp;lia
theorem D9.fw(r:D9 k A):A.units+64<GL:=by have:=r.un;lia
theorem D9.zl(r:D9 k A):A.units<GL:=by have:=r.un;lia
def HP:Fz:=λ_ H Q=>Q [] H
def JM(V:A1)(W:Fz):Fz:=λD H Q=>V D H λx J=>W D J λY U=>Q (x::Y) U
theorem Dq:Gi X [] HP:=λ_ _ _ _ H Q I h=>OY ⟨[],H,I,.nil,h⟩
theorem Z9(C:Am X e M)(E:Gi X U t)(F:Co (e::U) X.ae=(AR,Be e X.ae)::Co U X.ae:=by rfl):Gi X (e::U) (JM M t):=by intro G V s W H Q I h;rw[F];show Le (BD (C _ s W H _ I h) λu s1 D=>?_);obtain⟨x,Y,A,r1,K⟩:_:=D;show BD (E _ _ s1 W Y _ A K) λN s2 J=>?_;obtain⟨O,Z,B,r2,L⟩:_:=J;show⟨_,Z,B,.cons r1 r2,L⟩
local macro_rules | `(#v[]) => `(Dq) | `(#v[$x]) => `(Z9 $x Dq) | `(#v[$x,$xs,*]) => `(Z9 $x #v[$xs,*])
def Vr(t:Fz):A1:=λU H Q=>t U H λJ D=>J.length<=Ay/\∀p,D p=AG->Q (.ref p) (AQ D p (.tup J))
def P5(t:Fz):A1:=λU H Q=>t U H λJ D=>J.length<=Ay/\∀p,D p=AG->Q (.ref p) (AQ D p (.lst J))
theorem CP(h:Gi X V t):Am X (.Tuple V B Z) (Vr t):=by intro U s C H Q I Y;show wpAny_Tuple_spliced (BD (h _ _ s C H _ I Y) λA s1 D=>?_);obtain⟨F,E,J,r,z,q⟩:_:=D;show⟨by rw[<-r.ao];show z,?_⟩;have W:=J.cj.bz (Ak _);show⟨.ref _,_,J.ma (λb u e=>DN _ e) (Ak _) ?_,rfl,q _ W⟩;show⟨z,A,r,⟨_,Gu _ rfl,rfl,_,rfl⟩⟩
theorem CW(h:Gi X V t):Am X (.List V Z) (P5 t):=by intro U s B H Q I Y;show wpAny_List_spliced (BD (h _ _ s B H _ I Y) λA s1 D=>?_);obtain⟨E,C,J,r,z,q⟩:_:=D;show⟨by rw[<-r.ao];show z,?_⟩;have W:=J.cj.bz (Ak _);show⟨.ref _,_,J.ma (λb u e=>DN _ e) (Ak _) ?_,rfl,q _ W⟩;show⟨z,A,0,r,Gu _ rfl⟩
abbrev BO:=List AD->AI->BN->F0->Prop
abbrev Hn:=List Ef->AI->AZ->F0->AL->AZ->Prop
structure MC(P:Ce)(w:CA)(K:Ax)(mg:AF->Option AL)(base:Bb)(A:Dj)(outer:List Ef)(s:AZ)(H:AI):Prop where
 kj:A.frames=AA outer
 uv:Rc K mg base
 bs:∀b o,base.get? b=AA o->s.heap.get? b=AA o/\H b=AG
 zp:base.objs.size<=s.heap.objs.size
 oj:s.heap.FunFrames base outer
 aaa:∀b∈G0 outer,H b=AG
 cj:Dc P w H s.heap
 ir:NP s.gens
def Uk(D:List Ef)(P:Ce)(w:CA)(H:AI)(s:AZ)(Q:BN)(u:AL)(s':AZ):Prop:=Rn (λv J=>s'.os=s.os) (λ_ _=>NP s'.gens) (λ_ J=>Hu (G0 D) [] H J s.heap s'.heap) (λ_ J=>Dc P w J s'.heap) (λv _=>Bj v u) (λv J=>Q v J)
def qV(CX:Hn)(D:List Ef)(P:Ce)(w:CA)(H:AI)(s:AZ)(Q:BN)(E:F0)(r:Result)(s':AZ):Prop:=match r with|.ok (.ret u)=>Uk D P w H s Q u s'|.ok _=>False|.error e=>CX D H s E e s'
structure Gy(P:Ce)(w:CA)(K:Ax)(mg:AF->Option AL)(base:Bb)(CX:Hn)(k:Nat)(f:AE)(fd:Im)(ps:List AF)(sp:BO):Prop where
 de:∀vs H Q E,sp vs H Q E->vs.length=ps.length
 aca:∀(A:Dj)(outer:List Ef)(s:AZ)(H:AI)(args:Args)(us:List AL)(vs:List AD)(Q:BN)(E:F0),D9 k A->MC P w K mg base A outer s H->So s fd args (ps.zip us)->Bk vs us->sp vs H Q E->Og (Ar P w) A (.call (.ref f) args) (qV CX outer P w H s Q E) s
theorem Gy.adz{K:Ax}(F:Gy P w K W base CX k f V ps sp)(h:∀vs H Q E,U vs H Q E->sp vs H Q E):Gy P w K W base CX k f V ps U:=⟨λvs H Q E q=>F.de vs H Q E (h _ _ _ _ q),λA D s H J I vs Q E B Z Y G C=>F.aca A D s H J I vs Q E B Z Y G (h _ _ _ _ C)⟩
theorem MC.aak{K:Ax}(e:MC P w K J base A D s H)(C:AE)(V:List AL)(U:List (AF×AL)):MC P w K J base (A.under (.builtin "type.__call__" ⟨.ref C::V,U⟩)) D s H:=⟨by first|show e.kj|(simpa[pushEnvs]using e.frames),e.uv,e.bs,e.zp,e.oj,e.aaa,e.cj,e.ir⟩
theorem MC.abl{K:Ax}(e:MC P w K J base A D s H):MC P w K J base A.in1 D s H:=⟨e.kj,e.uv,e.bs,e.zp,e.oj,e.aaa,e.cj,e.ir⟩
theorem Ab.aag(I:Ab X D σ H s):MC X.ag X.w X.K X.mg X.ar X.A X.df s H:=⟨I.ok.kj,I.ok.uv,I.bs,Ah I.ok.zp I.sz,I.df,I.yi,I.cj,I.ir⟩
theorem Ab.yu(I:Ab X J σ H s)(h:Uk X.df X.ag X.w H s Q u s'):Fy X J σ Q u s':=by lk;obtain⟨v,W,Y,D,Z,U,r,q⟩:=h;obtain⟨A,g,d,t,V⟩:=s';obtain rfl:V=s.os:=Y;k_in;show⟨v,W,I.aba Z U D (λb z=>absurd z (by simp)),r,q⟩
def wZ(sp:BO)(D:List AD)(E:F0)(t:Fz):A1:=λW H Q=>t W H λU J=>sp (U++D) J Q E
def NG(C:AE)(m:AF)(sp:BO)(J:List AD)(E:F0)(A:A1)(t:Fz):A1:=λY H Q=>A Y H λx U=>Pg (λa W D=>x=.ref a) (λa W D=>U a=AA (.ins C W D)) (λ_ _ D=>D.lookup m=AG) (λ_ _ _=>t Y U λB Z=>sp (x::(B++J)) Z Q E)
def bK(C:AE)(sp:BO)(U:List AD)(E:F0)(t:Fz):A1:=λZ H Q=>t Z H λY J=>∀x D,J x=AG->J D=AG->D≠x->sp (.ref x::(Y++U)) (AQ (AQ J D (.own x)) x (.ins C D [])) (λv W=>v=.non/\Q (.ref x) W) E
def MB(K:Ax)(U:Im)(ps:List AF)(J:List AL):Prop:=∀(s:AZ)(D:List AL),K.In s.heap->(D++J).length=ps.length->So s U ⟨D,[]⟩ (ps.zip (D++J))
theorem MB.wz{K:Ax}(h:∀D:List AL,D.length=ps.length->AAW J ⟨D,[]⟩=Bo (ps.zip D)):MB K J ps []:=λs D _ U=>by rw[C2]at U⊢;show .of_eq (h D U)
def Pe(CX:Hn)(X:Br)(E:F0):Prop:=∀(D:List (AE×BP))(U:Ae)(H:AI)(s:AZ)(e:AL)(J:AZ),Ab X D U H s->CX X.df H s E e J->X.xe e J
section
variable{X:Br}{CX:Hn}{k:Nat}{f:AE}{fd:Im}{ps:List AF}{sp:BO}{dvs:List AD}{ds:List AL}{E:F0}{e:BS}
set_option tactic.hygienic true in theorem Vk{pins:List (AE×BP)}{σ:Ae}{H:AI}{s:AZ}{Q:BN}{J:List AL}{vs:List AD}(F:Gy X.ag X.w X.K X.mg X.ar CX k f fd ps sp)(W:D9 k X.A)(U:MB X.K fd ps ds)(hd:Bk dvs ds)(Y:Pe CX X E)(I:Ab X pins σ H s)(r:Bk vs J)(h:sp (vs++dvs) H Q E):BB (Ar X.ag X.w) X.A (Ip (.ref f) J) (Fy X pins σ Q) X.xe s:=by
 have r2:=r.nu hd;have hl:(J++ds).length=ps.length:=by rw[<-r2.ao];show F.de _ _ _ _ h
 show AAl (Sw (F.aca _ _ s H _ _ _ Q E W I.aag (U s J I.oq hl) r2 h) λr s' D=>?_);cases r with|error e=>show Y _ σ H s e s' I D|ok fl=>cases fl with|ret u=>show I.yu D|next=>show HV D|brk=>show HV D|cont=>show HV D
end
section
variable{f C:AE}
structure Rb(K:Ax)(C f:AE):Prop where
 abq:ADN K C=AJ
 acv:IH K (.ref C) "__init__"=AA (AA (.ref f))fn:AAN K (.ref f)=AJ
 kp:Sv K (.ref C)=AJ
end
section
variable{X:Br}{CX:Hn}{k:Nat}{f C:AE}{fd:Im}{ps:List AF}{sp:BO}{dvs:List AD}{ds:List AL}{E:F0}{x:AF}{e:BS}
set_option tactic.hygienic true in theorem aY{pins:List (AE×BP)}{σ:Ae}{H:AI}{s:AZ}{Q:BN}{U:List AL}{vs:List AD}(M:Rb X.K C f)(F:Gy X.ag X.w X.K X.mg X.ar CX k f fd ps sp)(B:D9 (k+1) X.A)(A:MB X.K fd ps ds)(hd:Bk dvs ds)(G:Pe CX X E)(I:Ab X pins σ H s)(r:Bk vs U)(h:∀x dx,H x=AG->H dx=AG->dx≠x->sp (.ref x::(vs++dvs)) (AQ (AQ H dx (.own x)) x (.ins C dx [])) (λv H2=>v=.non/\Q (.ref x) H2) E):BB (Ar X.ag X.w) X.A (Ip (.ref C) U) (Fy X pins σ Q) X.xe s:=by
 have W:=h _ _ (I.cj.bz (Sj _)) (I.cj.bz (Ak _)) (Ee (JQ _));have J:=qX (C:=C) I;have r2:Bk (AD.ref (s.heap.objs.size+1)::(vs++dvs)) _:=.cons rfl (r.nu hd);have hl:=by have e:=r2.ao;rw[F.de _ _ _ _ W]at e;show e.symm
 show AAl (t9 I.oq M.abq M.acv (AE5.mp M.fn) (Sw (F.aca _ _ _ _ _ _ _ _ E (B.aak C U []) (J.aag.aak C U []) (A _ _ J.oq hl) r2 W) λr s' D=>?_));cases r with|error e=>show G _ σ _ _ e s' J D|ok fl=>cases fl with|ret u=>obtain⟨v,H',Y,L,Z,K⟩:_:=J.yu D;subst Z;show⟨L,⟨AD.ref _,H',Y,rfl,K⟩⟩|next=>show HV D|brk=>show HV D|cont=>show HV D
end
structure Mu(N P:List AF)(sc:F6):Prop where
 ie:sc.kind=.function
 co:sc.isCoroutine=AR
 ady:sc.isGenerator=AR
 nd:N.Nodup
 adf:N.take P.length=P
 adu:∀x∈P,sc.names.lookup x=AA .local\/sc.names.lookup x=AA .cell
 aam:∀y∈sc.names,y.2≠.free
theorem ZH:∀{D:List (AF×AL)}{m:AF->Option AL},(∀v,(x,v)∉D)->QV J D m x=m x
  |[],_,_=>rfl|(n,v)::r,m,h=>by
    unfold QV;rw[ZH λw hw=>h w (GH _ hw)];split
    . have:x≠n:=by rintro rfl;show h v D4
      simp[this]
    .rfl
theorem ZF:∀{D:List (AF×AL)}{m:AF->Option AL},(∀v,(x,v)∉D)->QU J D m x=m x
  |[],_,_=>rfl|(n,v)::r,m,h=>by
    unfold QU;rw[ZF λw hw=>h w (GH _ hw)];split;.rfl
    . have:x≠n:=by rintro rfl;show h v D4
      simp[this]
theorem ZG:∀{P:List AF}{vs:List AL}{i:Nat}{m:AF->Option AL},P.Nodup->P[i]?=AA x->vs[i]?=AA v->D x=AA .local->QV D (P.zip vs) m x=AA v|[],_,_,_,_,h,_,_=>by simp at h|_::_,[],_,_,_,_,h,_=>by simp at h|p::P,w::vs,0,m,W,J,U,V=>by simp at J U;subst J;subst U;change QV _ ((p,w)::P.zip vs) m p=_;unfold QV;rw[ZH λv Y=>(IE.mp W).1 (cP Y).1,AEv V];simp|p::P,w::vs,i+1,m,W,J,U,V=>by unfold QV;show ZG (IE.mp W).2 (by simpa using J) (by simpa using U) V
theorem ZE:∀{P:List AF}{vs:List AL}{i:Nat}{m:AF->Option AL},P.Nodup->P[i]?=AA x->vs[i]?=AA v->D x≠AA .local->QU D (P.zip vs) m x=AA v|[],_,_,_,_,h,_,_=>by simp at h|_::_,[],_,_,_,_,h,_=>by simp at h|p::P,w::vs,0,m,W,J,U,V=>by simp at J U;subst J;subst U;change QU _ ((p,w)::P.zip vs) m p=_;unfold QU;rw[ZF λv Y=>(IE.mp W).1 (cP Y).1,AEu V];simp|p::P,w::vs,i+1,m,W,J,U,V=>by unfold QU;show ZE (IE.mp W).2 (by simpa using J) (by simpa using U) V
def NF(N:List AF)(vs:List AD):Ae:=vs.map AA++FO (N.length-vs.length) AG
def My(CX:Hn)(P:Ce)(w:CA)(K:Ax)(Z:AF->Option AL)(base:Bb)(N:List AF)(U:AF)(D:F6)(f:AE)(W:AL)(A:Dj)(J:List Ef)(s:AZ)(H:AI)(E:F0):Br where
 ag:=P
 w:=w
 K:=K
 mg:=Z
 ar:=base
 A:=A.deeper (MW U D s.heap.objs.size f W)
 N:=N
 s₀:=s
 H₀:=H
 ae:=MW U D s.heap.objs.size f W
 rl:=J
 df:=MW U D s.heap.objs.size f W::J
 ex:=[]
 gf:=AJ
 fn:=λ_=>AJ
 pn:=[]
 xe:=λe B=>BB (Ar P w) (A.deeper (MW U D s.heap.objs.size f W)) (leaving (MW U D s.heap.objs.size f W) e) (λ_ V=>CX J H s E e V) (λY V=>CX J H s E Y V) B
theorem ZN{D:F6}(h:D.names.lookup x=AA .cell):∃c,(AAY n D.names []).lookup x=AA c:=by have q:=ADD _ n [] (.inl h);show zG.mp q
theorem tI{K:Ax}(S:Mu N ps D)(d:A.handled=AG)(Y:MC P w K O base A J s H)(g:vs.length=ps.length)(r:Bk vs Q)(x:InCallC s s.heap.objs.size (QV (MW U D s.heap.objs.size f G).kindOf (ps.zip Q) λ_=>AG) (AAY (s.heap.objs.size+1) D.names []) (QU (MW U D s.heap.objs.size f G).kindOf (ps.zip Q) λ_=>AG) s1):Ab (My CX P w K O base N U D f G A J s H E) [] (NF N vs) H s1:=by
  have M:=by have:=AEw JN S.adf;rw[El]at this;show AE7 this.symm (QF _ _)
  obtain⟨I,m,rfl,R⟩:_:=x.done;have Z:∀b:AE,b∉(My CX P w K O base N U D f G A J s H E).ex:=λb z=>absurd (show b∈([])from z) (by simp);show⟨⟨Y.uv,S.ie,rfl,rfl,Ak _,λy z c I W=>?_,λy C=>?_,λy c _ h=>?_,λ_=>d,Around.frames_deeper Y.kj,.inr ⟨rfl,rfl⟩,λb z=>absurd z (Z b),Y.bs,Y.zp,λb _ _=>Z b,λb z=>absurd z (Z b),Y.oj,Y.aaa⟩,rfl,Y.ir,Rk R,⟨_,x.toInCall.ns,λi y v I W l=>?_⟩,λy c h=>⟨_,x.cell y c h⟩,Y.cj.bz (Ak _),λy c h=>?_,λp B=>absurd (show p∈([])from B) (by simp),Y.cj.gw R,?_⟩;.show name_of_addr x.apart (QZ I) (QZ W)
  . rcases C with C|C;.show ZN C
    .show absurd rfl (S.aam _ (QZ C))
  .show B6 (x.above y c (QZ h))
  . have L:i<vs.length:=by
      unfold NF at W;by_cases L:i<vs.length;.show L
      . rw[QA (by simpa using L)]at W;rw[ABl]at W;split at W<;>cases W
    have X:vs[i]?=AA v:=by unfold NF at W;rw[OP (by simpa using L),Bs]at W;cases e:vs[i]? with|none=>rw[e]at W;cases W|some a=>rw[e]at W;cases W;rfl
    obtain⟨u,T,j⟩:_:=r.va X;have B:ps[i]?=AA y:=by rw[<-S.adf,cF (by simp_all)];show I
    have F:ps.Nodup:=by rw[<-S.adf];show S.nd.sublist (yY _ _)
    show⟨u,j,?_⟩;rcases S.adu y (Cg B)with k|k;.show .inl ⟨k,ZG F B T k⟩
    . obtain⟨c,e⟩:=ZN k;show .inr ⟨.inl k,c,e,?_⟩;have q:=x.cell y c e;rw[ZE F B T (by change D.names.lookup y≠_;rw[k];decide)]at q;show q
  .show Y.cj.bz (B6 (x.above y c (QZ h)))
  . unfold NF;rw[B8,As,ABo];show Ig (Ah (Bw g) M)
set_option tactic.hygienic true in theorem sQ{CX:Hn}{P:Ce}{w:CA}{K:Ax}{mg:AF->Option AL}{base:Bb}{k:Nat}{f:AE}{name qual:AF}{params:Arguments}{body:List DA}{scope:F6}{dV kV doc pm cdv ct oc:AL}{an od:Option AE}{osl:Array (Option AL)}{N ps:List AF}{sp:BO}(lk:K.lookup f=AA ⟨oc,od,.func (Od name qual params body scope dV kV doc pm an cdv ct),osl⟩)(hcd:d6 K cdv qual=AJ)(S:Mu N ps scope)(len:∀vs H Q E,sp vs H Q E->vs.length=ps.length)(hbody:∀(A:Dj)(outer:List Ef)(s:AZ)(H:AI)(vs:List AD)(Q:BN)(E:F0),D9 k (A.deeper (MW qual scope s.heap.objs.size f cdv))->sp vs H Q E->∃t,GC (My CX P w K mg base N qual scope f cdv A outer s H E) body t/\t {nx:=λ_ H'=>Q .non H',rt:=Q} (NF N vs) H):Gy P w K mg base CX (k+1) f (Od name qual params body scope dV kV doc pm an cdv ct) ps sp:=by
 show⟨len,λA outer s H args us vs Q E hr e0 hb r hsp=>?_⟩;have hl:=len _ _ _ _ hsp;have KX:=e0.uv.abn.keeps λb o e=>(e0.bs b o e).1;have lim:=e0.uv.zw.keeps λb o e=>(e0.bs b o e).1;have hkind:∀y∈ps.zip us,scope.names.lookup y.1=AA _\/(scope.names.lookup y.1=AA _/\((AAY (s.heap.objs.size+1) _ []).lookup y.1).isSome=AJ):=λ⟨n,v⟩hy=>by
  rcases S.adu n (cP hy).1 with q|q;.show .inl q
  .show .inr ⟨q,ADD _ _ _ (.inl q)⟩
 show codeAny_call_function hr.abe (KX _ _ lk) rfl S.co S.ady rfl (W.codeRec_of KX hcd) (hb _ _ _ _ ?_);show wpAny_newFunctionEnv_cells S.ie hkind λenv he s1 x=>?_;subst he;show⟨lim.keeps x.toInCall.keep,codeAny_func ?_⟩;obtain⟨t,ht,hq⟩:_:=hbody A _ s H vs Q E (hr.aaf _) hsp;have I:Ab (My CX P w K mg _ N _ _ f _ A _ s H E) [] _ H s1:=tI S hr.hd e0 hl r x;show II (ht [] s1 _ H _ I hq) (λfl s' hs=>?_) λe s' hs=>hs;have fin:∀{σ':Ae}{H':AI}{v:AD}{u:AL},Ab (My CX P w K mg base N qual scope f cdv A _ s H E) [] σ' H' s'->Bj v u->Q v H'->Uk outer P w H s Q u s':=λ{σ' H' v u}J rv q=>⟨v,H',J.os,J.ir,J.ar,J.cj,rv,q⟩;cases fl with|ret u=>obtain⟨v,σ',H',J,rv,q⟩:_:=hs;show fin J rv q|next=>obtain⟨σ',H',J,q⟩:_:=hs;show fin (v:=AD.non) J rfl q|brk=>obtain⟨_,_,_,q⟩:_:=hs;show HV q|cont=>obtain⟨_,_,_,q⟩:_:=hs;show HV q
def bH(r:List AD->AI->BN->Prop)(t:Fz):A1:=λU H Q=>t U H λJ D=>r J D Q
theorem DE{x:AF}{id:String}(C:Fx X (.builtin id) r)(F:Gg X x)(G:X.mg x=AG)(L:QW x=AA (.builtin id))(B:Gi X (e::D) t)(K:x≠"__name__":=by decide)(J:(x==("__debug__":AF))=AR:=by decide)(E:Co (e::D) X.ae=(AR,Be e X.ae)::Co D X.ae:=by rfl)(U:(Gd V (Co D X.ae)).any (·.1)=AR:=by rfl):Am X (.Call (.Name x p) (e::D) [] V) (bH r t):=by intro W s Y H Q I h;show Qc (Ko I F G L ?_ K J);show AD3 (BD (B _ _ s Y H _ I h) λN s1⟨O,Z,A,r1,M⟩=>C _ s1 Y Z O N Q A r1 M) E U
theorem LX{x:AF}(C:Fx X (.type T) r)(F:Gg X x)(G:X.mg x=AG)(L:QW x=AA (.type T))(B:Gi X (e::D) t)(K:x≠"__name__":=by decide)(J:(x==("__debug__":AF))=AR:=by decide)(E:Co (e::D) X.ae=(AR,Be e X.ae)::Co D X.ae:=by rfl)(U:(Gd V (Co D X.ae)).any (·.1)=AR:=by rfl):Am X (.Call (.Name x p) (e::D) [] V) (bH r t):=by intro W s Y H Q I h;show Qc (Ko I F G L ?_ K J);show QI (BD (B _ _ s Y H _ I h) λN s1⟨O,Z,A,r1,M⟩=>C _ s1 Y Z O N Q A r1 M) E U
theorem fT(S:WJ s.heap t vs.toArray)(O:WJ s.heap b J.toArray)(G:vs≠[])(M:J=[]->Q (.ref t) s)(N:J≠[]->Q (.ref s.heap.objs.size) {s with heap:=s.heap.push {cls:=.type "tuple",data:=.seq (vs++J).toArray}})(Z:vs.length+J.length<=Ay):BB (Ar prog w) A (G6 .Add (.ref t) (.ref b)) Q E s:=by
 lk;obtain⟨⟨K,F,C,I⟩,U,P,n,R⟩:=id S;obtain⟨⟨B,L,V,T⟩,D,W,H,Y⟩:=id O;k_in;subst P R W Y;have e:vs.toArray++J.toArray=(vs++J).toArray:=by simp
 by_cases hw:J=[]
 .show concat_meets ⟨_,U,rfl⟩ ⟨_,D,rfl⟩ ADb ADg ACo ACh (ACd _ _) (tuple_addW1 t b _ _ n H F _ I _ (by simpa using G) (by simp[hw])) ⟨U,D,M hw⟩
 . show concat_meets ⟨_,U,rfl⟩ ⟨_,D,rfl⟩ ADb ADg ACo ACh (ACd _ _) (tuple_addW2 t b _ _ n H F _ I _ (by simpa using G) (by simpa using hw) (by show Z)) ⟨U,D,?_⟩;rw[e];show N hw
def CS(n d:Nat):Option Int->Nat|AG=>d|AA v=>if v<0 then(v+(n:Int)).toNat else D5 v.toNat n
theorem fX(n d k:Nat):CS n d (AA (k:Int))=D5 k n:=by change(if(k:Int)<0 then((k)+(n:Int)).toNat else D5 _ n)=D5 k n;rw[AEu (ABT _),Int.toNat_natCast]
theorem Wh(v:Int)(n d:Nat):(if v<0 then Lc (v+(n:Int)) 0 else D5 v (n:Int))=((CS n d (AA v):Nat):Int):=by
 change(if v<0 then Lc _ 0 else D5 v _)=(((if v<0 then(v+(n)).toNat else D5 _ n):Nat):Int);by_cases D:v<0;.simp only[AEv D];simp
 .lia
theorem fS(lo hi:Option Int)(n:Nat):zV lo hi 1 (n:Int)=(((CS n 0 lo:Nat):Int),((CS n n hi:Nat):Int)):=by
 have D:¬((1)<0):=by simp
 unfold zV;show NO ?_ ?_;.cases lo with |none=>rfl|some v=>show Wh v n 0
 .cases hi with|none=>rfl|some v=>show Wh v n n
theorem fW(i j:Nat):zW (i:Int) (j:Int) 1=j-i:=by
 unfold zW;have D:(1)>0:=by simp
 simp;split<;>simp_all
theorem Wi(p:NU v o)(h:Q o s):BB (Ar prog w) A (AD7 v) Q E s:=by cases p with|none=>show ACS h|int i t=>show slicePart_int h
theorem fY{lo:Option Int}{Q:Int×Int×Nat->AZ->Prop}(Z:s.heap.IsSliceOf U V W .none)(B:NU V lo)(C:NU W hi)(h:Q (((CS n 0 lo:Nat):Int),1,CS n n hi-CS n 0 lo) s):BB (Ar prog w) A (AD6 (.ref U) (Bo (n:Int))) Q E s:=by obtain⟨F,J,Y,D⟩:_:=id Z;show BL (BL (AAm J D rfl (BL (AAm J D rfl (BL (AAm J D rfl (Cp ?_)))))));show BL (ACS ?_);show BL (Wi B (BL (Wi C (BL (Cp ?_)))));change BB _ _ (match zV lo hi 1 _ with|(lo,hi)=>Bo (lo,(1:Int),zW lo hi 1)) _ _ s;rw[fS lo hi n];change BB _ _ (Bo _) _ _ s;rw[fW];show Cp h
theorem fV(xs:Array AL)(i k:Nat):((Ec k).filterMap λ(m:Nat)=>xs[((i:Int)+(m:Int)*1).toNat]?).toArray=((xs.toList.drop i).take k).toArray:=by
 have e:(λ(m:Nat)=>xs[((i:Int)+(m)*1).toNat]?)=λm=>xs[i+m]?:=by
  funext m;have:((i)+(m:Int)*1).toNat=i+m:=by lia
  rw[this]
 rw[e];have:=pick_run xs i k;rw[List.filterMap_map]at this;have D:((λx=>xs[x]?)∘λx=>i+x)=λm=>xs[i+m]?:=rfl;rw[D]at this;rw[this]
theorem fU{lo:Option Int}(U:WJ s.heap t D)(C:s.heap.IsSliceOf B F G .none)(L:NU F lo)(M:NU G hi)(hw:¬(CS D.size 0 lo=0/\CS D.size D.size hi=D.size))(h:Q (.ref s.heap.objs.size) {s with heap:=s.heap.push {cls:=.type "tuple",data:=.seq ((D.toList.drop (CS D.size 0 lo)).take (CS D.size D.size hi-CS D.size 0 lo)).toArray}})(I:D.size<=Ay):BB (Ar prog w) A (Oi (.ref t) (.ref B)) Q E s:=by
 have J:=by change((D.toList.drop (CS D.size 0 lo)).take (CS D.size D.size hi-CS D.size 0 lo)).toArray.size<=Ay;rw[Ie,El,NL,Mb];omega
 obtain⟨K,Z,W,H⟩:_:=id C;have V:s.TypeIs (.ref B) _:=⟨K,Z,W⟩;unfold Oi;try with_reducible show Sy ?_
 show BL (wpAny_sequenceKey U.typeIs (by decide) ?_);show BL (wpAny_callSpecial?_slot U.typeIs dJ (ADk dJ U.typeIs entry_tuple_getitem ?_ (args_tuple_getitem _ _)));change BB _ _ (AD9 _>>=_) _ _ s;show BL (tupleItemsOf_ U ?_);show BL (wpAny_typeOf V ?_);show BL (fY C L M ?_);have Y:¬((((CS D.size 0 lo):Int)==0&&(1:Int)==1&&(CS D.size D.size hi-CS D.size 0 lo)==D.size)=AJ):=by intro q;rw[Qn,Qn]at q;have N:=eq_of_beq q.1.1;show hw ⟨Iv.mp N,by simp_all⟩
 change BB _ _ (if(((CS _ 0 lo:Nat):Int)==0&&(1)==1&&(CS _ _ hi-CS _ 0 lo)==D.size)=AJ then _ else _) _ _ s;rw[AEu Y,fV];first|show BL (AAn (Cp ⟨_,rfl,Cp h⟩) J)|show wpAny_bind _|show wpAny_bind _|show wpAny_bind _
abbrev Rj:=Ae->AI->(Option Int->AI->Prop)->Prop
def Rf(X:Br)(e:Option BS)(t:Rj):Prop:=∀(D:List (AE×BP))(s:AZ)(U:Ae)(H:AI)(Q:Option Int->AI->Prop),Ab X D U H s->t U H Q->BB (Ar X.ag X.w) X.A (evalPart e X.ae) (λu V=>Ey (λo J=>Ab X D U J V) (λo _=>NU u o) (λo J=>Q o J)) X.xe s
def bL:Rj:=λ_ H Q=>Q AG H
def bM(t:A1):Rj:=λJ H Q=>t J H λx D=>Gk (λi=>x=.int i) (λi=>Q (AA i) D)
theorem Zi:∀{D:List AL},Bk (ns.map AD.int) D->Sn D ns:=by induction ns with|nil=>intro D r;cases r;show .nil|cons n ns J=>intro D r;cases r with|cons r1 r2=>obtain⟨t,e⟩:=r1;subst e;show .cons n t (J r2)
theorem Ia:Rf X AG bL:=by intro D s J H Q I h;show Cp ⟨_,H,I,.none,h⟩
theorem Gm(h:Am X e Y):Rf X (AA e) (bM Y):=by intro J s Z H Q I hw;show BD (h _ s Z H _ I hw) λu s1 D=>?_;lk;obtain⟨x,U,V,r1,W⟩:=D;obtain⟨i,rfl,q⟩:=W;obtain⟨t,rfl⟩:=r1;k_in;show⟨_,U,V,.int i t,q⟩
def N5(X:Br)(r:AD->Option Int->Option Int->AI->BN->Prop):Prop:=∀(D:List (AE×BP))(s:AZ)(A:Ae)(H:AI)(x:AD)(v Y Z:AL)(U J:Option Int)(W:AE)(Q:BN),Ab X D A H s->Bj x v->s.heap.IsSliceOf W Y Z .none->NU Y U->NU Z J->r x U J H Q->Ey (λT B=>typeLookup (.type T) "__getitem__"=Bo (AA (.builtin B))) (λT _=>s.TypeIs v T) (λ_ _=>BB (Ar X.ag X.w) X.A (Oi v (.ref W)) (Fy X D A Q) X.xe s)
def bP(r:AD->Option Int->Option Int->AI->BN->Prop)(Y:A1)(tl Z:Rj):A1:=λD H Q=>Y D H λx J=>tl D J λl U=>Z D U λu W=>r x l u W Q
theorem HN{lo:Option BS}(R:N5 X r)(N:Am X e k)(P:Rf X lo tl)(a:Rf X hi m):Am X (.Subscript e (.Slice lo hi AG p) d) (bP r k tl m):=by intro Z s W H Q I h;show zK (BD (N _ s W H _ I h) λv s1 D=>?_);obtain⟨x,C,F,r1,g⟩:_:=D;show wpAny_Slice (BD (P _ s1 W C _ F g) λA s2 J=>?_);obtain⟨l,E,G,c,i⟩:_:=J;show BD (a _ s2 W E _ G i) λB s3 U=>?_;obtain⟨u,Y,K,f,j⟩:_:=U;show Cp ?_;have L:Ab X _ W Y {s3 with heap:=s3.heap.push {cls:=.type "slice",data:=.fields #[A,B,.none]}}:=K.gw λb o q=>DN _ q;obtain⟨T,n,M,S,O⟩:_:=R _ _ W Y x v A B l u _ Q L r1 (AEZ ..) c f j;show tail_any S M O (by with_unfolding_all rfl)
def Gz(xs:List AD)(lo hi:Option Int):List AD:=(xs.drop (CS xs.length 0 lo)).take (CS xs.length xs.length hi-CS xs.length 0 lo)
theorem ZS(xs:List AD)(lo hi:Option Int):(Gz xs lo hi).length<=xs.length:=by unfold Gz;rw[El,NL];lia
def Vh(K:Ax):AD->Option Int->Option Int->AI->BN->Prop:=λx U J H Q=>LU (λa D=>x=.ref a) (λa D=>Cm K H a D) (λ_ D=>¬(CS D.length 0 U=0/\CS D.length D.length J=D.length)) (λ_ D=>∀p,H p=AG->Q (.ref p) (AQ H p (.tup (Gz D U J))))
theorem wL:N5 X (Vh X.K):=by
 intro W s O H x v M N C Z L Q I G A E F h;lk;obtain⟨a,Y,rfl,B,hw,q⟩:=h;cases G;obtain⟨J,r,U,V⟩:=I.ff B;k_in;have D:J.toArray.size=Y.length:=by show r.ao.symm
 show⟨_,_,dJ.lookup,U.typeIs,?_⟩;show fU U A E F (by rw[D];show hw) ?_ (by rw[D];show V);rw[D];show⟨.ref _,_,I.ma (λb K q=>DN _ q) (Ak _) ?_,rfl,q _ (I.cj.bz (Ak _))⟩;show⟨Ah (ZS Y C Z) V,_,(r.uz _).ace _,ACD _ _⟩
def Ve(K:Ax):EJ:=λx y H Q=>ZA (λa b J D=>x=.ref a) (λ_ b _ _=>y=.ref b) (λa _ J _=>Cm K H a J) (λ_ b _ D=>Cm K H b D) (λ_ _ J _=>J≠[]) (λ_ _ J D=>J.length+D.length<=Ay) (λa _ _ D=>(D=[]->Q (.ref a) H)) (λ_ _ J D=>(D≠[]->∀p,H p=AG->Q (.ref p) (AQ H p (.tup (J++D)))))
theorem Bk.vf(r:Bk xs D):D=[]↔xs=[]:=by cases r with|nil=>simp|cons _ _=>simp
theorem uL:Cf X (G6 .Add) (Ve X.K):=by intro U s N H x y v u Q I F G h;lk;obtain⟨a,b,L,M,rfl,rfl,V,W,Y,D,C,E⟩:=h;cases F;cases G;obtain⟨Z,r1,A,_⟩:=I.ff V;obtain⟨J,r2,B,_⟩:=I.ff W;k_in;show fT A B (λz=>Y (r1.vf.mp z)) (λz=>⟨.ref a,H,I,rfl,C (r2.vf.mp z)⟩) (λz=>?_) (by rw[<-r1.ao,<-r2.ao];show D);show⟨.ref _,_,I.ma (λb K q=>DN _ q) (Ak _) ?_,rfl,E (λw=>z (r2.vf.mpr w)) _ (I.cj.bz (Ak _))⟩;show⟨by rw[B8];show D,_,r1.nu r2,ACD _ _⟩
def OD(n:Nat)(i:Int):Option Nat:=if 0<=i then(if i<n then AA i.toNat else AG)else if-(n:Int)<=i then AA (i+n).toNat else AG
def DL(xs:List D)(i:Int):Option D:=(OD xs.length i).bind λj=>xs[j]?
theorem tM(h:OD n i=AA j):seqIndex? i n=AA j/\j<n/\-(n:Int)<=i/\i<n:=by
  unfold OD at h;by_cases J:0<=i
  . rw[AEv J]at h;by_cases D:i<n
    . rw[AEv D]at h;have e:=B9 h;show⟨by rw[seqIndex_of J D,e],by lia,HY (Int.neg_ofNat_le_ofNat _ _) J,D⟩
    .rw[AEu D]at h;cases h
  . rw[AEu J]at h;by_cases D:-(n)<=i;. rw[AEv D]at h;have e:=B9 h;show⟨by rw[seqIndex_neg (by simp_all) D,e],by lia,D,Qp (TC J) (Int.neg_lt_zero_iff.mp (JT D (TC J)))⟩
    .rw[AEu D]at h;cases h
theorem U1{xs:List D}(h:DL xs i=AA v):∃j,seqIndex? i xs.length=AA j/\xs[j]?=AA v/\j<xs.length/\-(xs.length:Int)<=i/\i<xs.length:=by unfold DL at h;cases e:OD _ i with|none=>rw[e]at h;cases h|some j=>rw[e]at h;obtain⟨J,U,V,W⟩:_:=tM e;show⟨j,J,h,U,V,W⟩
theorem Aj{D:Type}{xs:List D}{j:Nat}{v:D}(h:xs[j]?=AA v):DL xs (j:Int)=AA v:=by
 have J:=(BU.mp h).1;have e:OD xs.length (j)=AA j:=by unfold OD;rw[AEv (by simp),AEv (by simp_all)];simp
 unfold DL;rw[e];show h
def Uw(b:BS):Prop:=∀o i,eL b AR o i=operate [o,i] (Oi o i)
def N0(X:Br)(r:EJ):Prop:=∀(U D:BS)(J:List (AE×BP))(s:AZ)(W:Ae)(H:AI)(x y:AD)(v u:AL)(Q:BN),Ab X J W H s->Bj x v->Bj y u->r x y H Q->eL D AR v u=operate [v,u] (Oi v u)->BB (Ar X.ag X.w) X.A (subscriptTail U D v u) (Fy X J W Q) X.xe s
def N2(X:Br)(id:String)(r:AD->List AD->AI->BN->Prop):Prop:=∀(D:List (AE×BP))(s:AZ)(W:Ae)(H:AI)(x:AD)(U:List AD)(v:AL)(J:List AL)(Q:BN),Ab X D W H s->Bj x v->Bk U J->r x U H Q->BB (Ar X.ag X.w) X.A (Ip (.builtin id) (v::J)) (Fy X D W Q) X.xe s
theorem FW(Y:N0 X r)(V:Am X a E)(W:Am X b F)(Z:Uw b):Am X (.Subscript a b A) (Hz r E F):=by intro D s G H Q I h;show zK (U2 V W I h λv u s2 x y J U B C q=>Y a b _ s2 G J x y v u Q U B C q (Z _ _))
def aN(K:Ax):EJ:=λx y H Q=>U0 (λp D i v=>x=.ref p) (λ_ _ i _=>y=.int i) (λp D _ _=>B7 K H p D) (λ_ D i v=>DL D i=AA v) (λ_ _ _ v=>Q v H)
def aQ(K:Ax):EJ:=λx y H Q=>U0 (λp D i v=>x=.ref p) (λ_ _ i _=>y=.int i) (λp D _ _=>Cm K H p D) (λ_ D i v=>DL D i=AA v) (λ_ _ _ v=>Q v H)
def vW:EJ:=λx y H Q=>N7 (λz i c=>x=.str z) (λ_ i _=>y=.int i) (λz _ _=>z.length<=Ay) (λz i c=>DL z.cps.toList i=AA c) (λ_ _ c=>Q (.str ⟨#[c]⟩) H)
theorem tN:N0 X (aN X.K):=by
  intro A Z D s R H x y v u Q I O P h E;lk;obtain⟨p,b,i,z,rfl,rfl,N,L,q⟩:=h;cases O;obtain⟨t,rfl⟩:=P;obtain⟨V,r,W,a⟩:=I.gh N;obtain⟨j,J,F,S,G,K⟩:=U1 L;obtain⟨w,B,Y⟩:=r.va F;k_in;have M:=r.ao;have T:=Pq;have fin:Fy X D R Q w s:=⟨z,H,I,Y,q⟩;by_cases C:0<=i
  . have U:=by rw[seqIndex_of C K]at J;show B9 J
    show item_listR W.isList C (by lia) (by rw[U];simpa using B) fin E
  . have U:(i+(V.toArray.size:Int)).toNat=j:=by rw[seqIndex_neg (by simp_all) G]at J;rw[Ie,<-M];show B9 J
    show ACU (x:=w) W.isList.typeIs ADh.lookup (wpAny_getItem_list_neg W.isList (by simp_all) (by rw[Ie]<;>simp_all) (by lia) (by rw[U];simpa using B) ⟨rfl,fin⟩) E
theorem tO:N0 X (aQ X.K):=by intro U J V s M H x y v u Q I K L h F;lk;obtain⟨p,T,i,z,rfl,rfl,E,B,q⟩:=h;cases K;obtain⟨t,rfl⟩:=L;obtain⟨G,r,W,S⟩:=I.ff E;obtain⟨j,Z,A,N,O,P⟩:=U1 B;obtain⟨w,Y,D⟩:=r.va A;k_in;have C:=r.ao;have R:=Pq;have fin:Fy X _ M Q w s:=⟨z,H,I,D,q⟩;show ACU W.typeIs dJ.lookup (getItem_tuple W (by lia) (by lia) (by rw[Ie,<-C];show Z) (by simpa using Y) ⟨rfl,fin⟩) F
theorem Zk:N0 X vW:=by
 intro J D V s P H x y v u Q I G K h F;lk;obtain⟨z,i,c,rfl,rfl,N,C,q⟩:=h;obtain⟨t,rfl⟩:=G;obtain⟨O,rfl⟩:=K;obtain⟨j,U,Z,L,A,B⟩:=U1 C;k_in;have E:z.cps.toList.length=z.length:=by simp[AC3]
 rw[E]at U A B;have M:=Pq;show tail_any (AAi s z t) slot_str_getitem.lookup (getItem_str (c:=c) (by have W:Aa (i< -(2^63:Int))=AR:=AEz (by lia);have Y:Aa (i>=2^63)=AR:=AEz (by lia);rw[W,Y,Bool.or_false]) (by rw[U];simpa using Z) ⟨.str ⟨#[c]⟩,H,I.gm _,⟨_,rfl⟩,q⟩) F
theorem wN(lo hi:Option Int)(n:Nat):(Qa lo hi AG n).1=((CS n 0 lo:Nat):Int)/\(Qa lo hi AG n).2.1=((CS n n hi:Nat):Int)/\(Qa lo hi AG n).2.2=1:=by
 show⟨?_,?_,rfl⟩;.cases lo with |none=>simp[Qa,CS]|some i=>
  simp only[Qa,CS,ACA,show(1)>0 by decide,AE2];by_cases h:i<0;.simp only[h,AE2]<;>lia
  .simp only[h,AE0]<;>lia
 .cases hi with |none=>simp[Qa,CS]|some i=>
  simp only[Qa,CS,ACA,show(1)>0 by decide,AE2];by_cases h:i<0;.simp only[h,AE2]<;>lia
  .simp only[h,AE0]<;>lia
theorem wM(its:List AL)(lo hi:Option Int):slicePick its.toArray lo hi AG=((its.drop (CS its.length 0 lo)).take (CS its.length its.length hi-CS its.length 0 lo)).toArray:=by obtain⟨D,J,U⟩:_:=wN lo hi _;unfold slicePick;rw[D,J,U];simp only[sliceRange_one,pick_run,Ie]<;>rfl
def aR(K:Ax):AD->Option Int->Option Int->AI->BN->Prop:=λx U J H Q=>Ey (λa D=>x=.ref a) (λa D=>B7 K H a D) (λ_ D=>∀p,H p=AG->Q (.ref p) (AQ H p (.lst (Gz D U J))))
theorem wK:N5 X (aR X.K):=by intro U s O H x v M N B V L Q I F W C E h;lk;obtain⟨a,G,rfl,Y,q⟩:=h;cases F;obtain⟨A,r,J,Z⟩:=I.gh Y;k_in;have D:=r.ao;show⟨_,_,ADh.lookup,J.isList.typeIs,?_⟩;show wpAny_getItem_list_slice J.isList W C E .none (by simp) ?_ (by rw[Ie]<;>simp_all);rw[wM,<-D];show⟨.ref _,_,I.ma (λb K q=>DN _ q) (Ak _) ?_,rfl,q _ (I.cj.bz (Ak _))⟩;show⟨Ah (ZS G B V) Z,_,0,(r.uz _).ace _,Gu _ rfl⟩
def ML:AD->Bool|.non=>AJ|.bl _=>AJ|.int _=>AJ|.str _=>AJ|_=>AR
def MK:AD->AD->Bool|.non,.non=>AJ|.bl a,.bl b=>a==b|.bl a,.int b=>(if a then 1 else 0)==b|.int a,.bl b=>a==(if b then 1 else 0)|.int a,.int b=>a==b|.str a,.str b=>a==b|_,_=>AR
theorem sN(W:Bj y u)(D:Bj x v)(Y:ML y=AJ)(U:ML x=AJ):dZ A s u v (MK y x):=by cases y with
 |non=>cases W;cases x with |non=>cases D;show ACz _|bl b=>cases D;show AEi b|int b=>obtain⟨t,rfl⟩:=D;show AEj b t|str b=>obtain⟨t,rfl⟩:=D;show AEk b t|_=>show absurd (show AR=AJ from U) Dw
 |bl a=> cases W;cases x with |non=>cases D;show AEd a|bl b=>cases D;show AEb a b|int b=>obtain⟨t,rfl⟩:=D;show AEc a b t|str b=>obtain⟨t,rfl⟩:=D;show AEe a b t|_=>show absurd (show AR=AJ from U) Dw
 |int a=> obtain⟨J,rfl⟩:=W;cases x with |non=>cases D;show AEh a J|bl b=>cases D;show AEf a J b|int b=>obtain⟨t,rfl⟩:=D;show AEg a J b t|str b=>obtain⟨t,rfl⟩:=D;show ACy a J b t|_=>show absurd (show AR=AJ from U) Dw
 |str a=> obtain⟨J,rfl⟩:=W;cases x with |non=>cases D;show AEm a J|bl b=>cases D;show AEl a J b|int b=>obtain⟨t,rfl⟩:=D;show AC0 a J b t|str b=>obtain⟨t,rfl⟩:=D;show AEn a J b t|_=>show absurd (show AR=AJ from U) Dw
 |_=>show absurd (show AR=AJ from Y) Dw
def M5(x:AD)(u:AL):Bool:=match u with|.none=>MK .non x|.bool b=>MK (.bl b) x|.int i _=>MK (.int i) x|.str z _=>MK (.str z) x|_=>AR
theorem Za(r:Bj y u)(f:ML y=AJ):M5 x u=MK y x:=by cases y with|non=>cases r;rfl|bl b=>cases r;rfl|int i=>obtain⟨t,rfl⟩:=r;rfl|str z=>obtain⟨t,rfl⟩:=r;rfl|_=>show absurd (show AR=AJ from f) Dw
theorem Rq(h:Bk xs D):xs.all ML=AJ->D.any (M5 x)=xs.any λy=>MK y x:=by induction h with|nil=>showλ_=>rfl|cons r _ J=>intro f;rw[ABd,Qn]at f;rw[Vw,Vw,Za r f.1,J f.2]
theorem R9(Y:Bj x v)(U:ML x=AJ)(h:Bk xs J):xs.all ML=AJ->∀u∈J,dZ A s u v (M5 x u):=by induction h with |nil=>intro _ u D;cases D|cons r _ W=>
 intro f Z D;rw[ABd,Qn]at f;rcases Ca.mp D with rfl|D;.rw[Za r f.1];show sN r Y f.1 U
 .show W f.2 Z D
def FK(x:AD)(xs:List AD):Bool:=xs.any λy=>MK y x
def SM(K:Ax)(J:Bool):EJ:=λx y H Q=>Kj (λp D=>y=.ref p) (λp D=>(B7 K H p D\/Cm K H p D)) (λ_ _=>ML x=AJ) (λ_ D=>D.all ML=AJ) (λ_ D=>Q (.bl (if J then !FK x D else FK x D)) H)
theorem uO:Cf X (FF .In) (SM X.K AR):=by
 intro Y s E H x y v u Q I Z B h;lk;obtain⟨p,C,rfl,J,W,U,q⟩:=h;cases B;k_in;rcases J with J|J
 . obtain⟨D,r,V,A⟩:_:=I.gh J;show SeqAt.in_listAt _ V.isList (λw hw=>R9 Z W r U w (by simpa using hw)) ⟨.bl _,H,I,rfl,?_⟩;rw[show D.toArray.any _=D.any (M5 x)by simp,Rq r U];show q
 . obtain⟨D,r,V,A⟩:_:=I.ff J;show SeqAt.in_tupleAt _ V (λw hw=>R9 Z W r U w (by simpa using hw)) ⟨.bl _,H,I,rfl,?_⟩;rw[show D.toArray.any _=D.any (M5 x)by simp,Rq r U];show q
theorem uU:Cf X (FF .NotIn) (SM X.K AJ):=by
 intro Y s E H x y v u Q I Z B h;lk;obtain⟨p,C,rfl,J,W,U,q⟩:=h;cases B;k_in;rcases J with J|J
 . obtain⟨D,r,V,A⟩:_:=I.gh J;show SeqAt.notIn_listAt _ V.isList (λw hw=>R9 Z W r U w (by simpa using hw)) ⟨.bl _,H,I,rfl,?_⟩;rw[show D.toArray.any _=D.any (M5 x)by simp,Rq r U];show q
 . obtain⟨D,r,V,A⟩:_:=I.ff J;show SeqAt.notIn_tupleAt _ V (λw hw=>R9 Z W r U w (by simpa using hw)) ⟨.bl _,H,I,rfl,?_⟩;rw[show D.toArray.any _=D.any (M5 x)by simp,Rq r U];show q
theorem rH:Fx X (.builtin "len") (λxs H Q=>∃p ys,xs=[.ref p]/\(B7 X.K H p ys\/Cm X.K H p ys)/\Q (.int ys.length) H):=by
 intro Y s E H xs C Q I r h;lk;obtain⟨p,ys,rfl,J,q⟩:=h;obtain⟨u,rfl,A⟩:=Ib r;cases A;k_in;have B:=Pq;rcases J with J|J
 . obtain⟨U,W,V,Z⟩:_:=I.gh J;have D:=W.ao;show Calls.call_len_list V.isList (by simp<;>lia) ⟨.int _,H,I.gm _,⟨_,by rw[Ie,D]⟩,q⟩
 . obtain⟨U,W,V,Z⟩:_:=I.ff J;have D:=W.ao;show len_tuple V (by simp<;>lia) ⟨.int _,H,I.gm _,⟨_,by rw[Ie,D]⟩,q⟩
theorem rJ:Fx X (.builtin "len") (λxs H Q=>∃z,xs=[.str z]/\z.length<=Ay/\Q (.int z.length) H):=by intro D s W H xs V Q I r h;lk;obtain⟨z,rfl,U,q⟩:=h;obtain⟨u,rfl,t,rfl⟩:=Ib r;k_in;have J:=Pq;show len_str (by lia) ⟨.int _,H,I.gm _,⟨_,rfl⟩,q⟩
theorem rK:Fx X (.type "list") (λxs H Q=>∃p ys,xs=[.ref p]/\(B7 X.K H p ys\/Cm X.K H p ys)/\∀l,H l=AG->Q (.ref l) (AQ H l (.lst ys))):=by
 intro K s M H xs N Q I r h;lk;obtain⟨p,ys,rfl,Y,q⟩:=h;obtain⟨u,rfl,L⟩:=Ib r;cases L;k_in;have fin:∀(D:List _),Bk ys _->ys.length<=Ay->∀(J:Bb)(V:Nat),(∀b G,s.heap.get? b=AA G->J.get? b=AA G)->J.get? _=AA _->Fy X _ M Q _ _:=λD U Z J V A e=>⟨.ref _,_,I.ma (t':=s.toks) A (Ak _) (show De _ _ _ J _ (.lst ys)from⟨Z,D,V,U,e⟩),rfl,q _ (I.cj.bz (Ak _))⟩;rcases Y with Y|Y;. lk;obtain⟨D,U,F,Z⟩:=I.gh Y;have W:=U.ao;obtain⟨o,E,B,n,C⟩:=F.isList;k_in;show ADS p (.inl rfl) E B C (λJ V A e=>fin _ U Z J V A e) (by simp<;>simp_all)
 . lk;obtain⟨D,U,F,Z⟩:=I.ff Y;have W:=U.ao;obtain⟨o,E,B,n,C⟩:=F;k_in;show ADS p (.inr rfl) E B C (λJ V A e=>fin _ U Z J V A e) (by simp<;>simp_all)
def SX(K:Ax)(T:String)(x:AD)(H:AI):Prop:=match x with|.str _=>T="str"|.int _=>T="int"|.ref p=>(T="list"/\∃J,B7 K H p J)\/(T="tuple"/\∃o,K.lookup p=AA o/\o.cls=.type "tuple"/\o.dict=AG)\/(T="dict"/\((∃D,H p=AA (.dK D))\/∃D,H p=AA (.dT D)))\/(T="set"/\∃S n,H p=AA (.set S n))|_=>False
theorem bW(I:Ab X U σ H s)(r:Bj x v)(W:SX X.K T x H):s.TypeIs v T/\∀a,v=.ref a->∃B,s.heap.get? a=AA B/\B.dict=AG:=by cases x with
  |str z=>lk;obtain⟨t,rfl⟩:=r;cases(show T="str"from W);k_in;show⟨AAi s z t,λ_ e=>nomatch e⟩|int i=> lk;obtain⟨t,rfl⟩:=r;cases(show T="int"from W);k_in;show⟨AAh s i t,λ_ e=>nomatch e⟩|ref p=>
    cases r;rcases W with⟨rfl,K,F⟩|⟨rfl,o,D,E,Z⟩|⟨rfl,D⟩|⟨rfl,S,n,D⟩
    . obtain⟨G,_,C,_⟩:_:=I.gh F;show⟨C.isList.typeIs,λa e=>?_⟩;lk;cases e;obtain⟨o,n,e,c,Z,_⟩:=C;k_in;show⟨o,e,Z⟩
    . show⟨⟨o,I.oq p o D,E⟩,λa e=>?_⟩;cases e;show⟨o,I.oq _ o D,Z⟩
    . have z:∃o,s.heap.get? p=AA o/\o.ExactDict:=by
        rcases D with⟨A,D⟩|⟨A,D⟩
        . obtain⟨_,_,_,_,o,_,_,e,J,_⟩:=I.cj p _ D;show⟨o,e,J⟩
        . obtain⟨_,_,_,_,o,_,_,e,J,_⟩:=I.cj p _ D;show⟨o,e,J⟩
      obtain⟨o,e,J⟩:_:=z;show⟨⟨o,e,J.1⟩,λa Y=>?_⟩;cases Y;show⟨o,e,J.2.1⟩
    . obtain⟨o,_,_,_,e,J,_⟩:_:=I.cj p _ D;show⟨⟨o,e,J.1⟩,λa Y=>?_⟩;cases Y;show⟨o,e,J.2.1⟩|_=>show HV W
def bG(K:Ax)(T:String)(r:AD->List AD->AI->BN->Prop)(J:A1):A1:=λU H Q=>J U H λx D=>SX K T x D/\r x [] D Q
def Vm(K:Ax)(T:String)(r:AD->List AD->AI->BN->Prop)(W:A1)(t:Fz):A1:=λJ H Q=>W J H λx D=>SX K T x D/\t J D λY U=>r x Y U Q
theorem vA{D:AF}{id:String}(N:dX T)(Z:Slot T D id)(A:eM (.builtin id)=Bo (.type "method_descriptor"))(L:N2 X id r)(M:Am X o P)(J:KA o D X.ae (Be o X.ae)=Be o X.ae:=by rfl)(U:(V.endLine==W.line)=AJ:=by rfl):Am X (.Call (.Attribute o D V) [] [] W) (bG X.K T r P):=by intro C s E H Q I h;show wpAny_Call_method0_late J U (BD (M _ s E H _ I h) λv s1 Y=>?_);lk;obtain⟨x,F,B,r1,R,O⟩:=Y;obtain⟨G,K⟩:=bW B r1 R;k_in;show⟨T,id,N,Z,A,G,K,Sq rfl (AAb (L _ s1 E F x [] v [] Q B r1 .nil O))⟩
theorem u9{U:AF}{id:String}(f:dX T)(E:Slot T U id)(F:eM (.builtin id)=Bo (.type "method_descriptor"))(b:N2 X id r)(c:Am X o j)(a:Gi X (e::Y) t)(V:KA o U X.ae (Be o X.ae)=Be o X.ae:=by rfl)(A:((Gd D (Co (e::Y) X.ae)).all (λx=>!x.1)&&(QS D (QY [] X.ae)).all (λx=>x.1.isSome)&&Aa ((e::Y).length+([]:List MZ).length+(if([]:List MZ).isEmpty then 0 else 1)<30))=AJ:=by rfl)(W:(Z.endLine==D.line)=AJ:=by rfl)(d:Co (e::Y) X.ae=(AR,Be e X.ae)::Co Y X.ae:=by rfl)(J:(Gd D (Co Y X.ae)).any (·.1)=AR:=by rfl):Am X (.Call (.Attribute o U Z) (e::Y) [] D) (Vm X.K T r j t):=by intro M s G H Q I h;show wpAny_Call_method_late V A W rfl (BD (c _ s G H _ I h) λv s1 B=>?_);lk;obtain⟨x,N,K,r1,k,g⟩:=B;obtain⟨R,S⟩:=bW K r1 k;k_in;show⟨T,id,f,E,F,R,S,?_⟩;have L:=a D _ s1 G N _ K g;rw[d]at L⊢;show Sq (by change(AR||(Gd _ _).any _)=AR;rw[J]<;>rfl) (WS ?_);show BD L λl s2 C=>?_;obtain⟨m,O,P,r2,i⟩:_:=C;show b _ s2 G O x m v l Q P r1 r2 i
def Ut(X:Br)(id:String)(r:AD->List AD->AI->BN->Prop):Prop:=∀(D:List (AE×BP))(s:AZ)(W:Ae)(H:AI)(x:AD)(U:List AD)(v:AL)(J:List AL)(Q:BN),Ab X D W H s->Bj x v->Bk U J->r x U H Q->BB (Ar X.ag X.w) X.A (Ip (.builtin id) (v::J)) (Fy X D W Q) X.xe s
theorem Bk.xg(h:Bk [x] D):∃u,D=[u]/\Bj x u:=by cases h with|cons r t=>cases t;show⟨_,rfl,r⟩
theorem Bk.adh:∀{D:List AL},Bk [] D->D=[]|_,.nil=>rfl
theorem Bk.aec(h:Bk xs D):∀k:Nat,Bk (FO k xs).flatten (FO k D).flatten|0=>.nil|k+1=>by show Bk.nu h (Bk.aec h k)
theorem Zd(its:List AL):∀(k:Nat)(D:List AL),ABk (λU V=>U++V) D.toArray (FO k its.toArray)=(D++(FO k its).flatten).toArray
 |0,D=>by simp|k+1,D=>by
  have e:D.toArray++its.toArray=(D++its).toArray:=by simp
  have J:(D++its)++(FO k its).flatten=D++(FO (k+1) its).flatten:=by rw[yX,ABj,Ea]
  rw[<-J,<-Zd _ k _,<-e,yX,cE]
theorem Ab.aai{its D:List AL}(I:Ab X J σ H s)(U:H l=AA (.lst xs))(e:s.heap.get? l=AA {cls:=.type "list",data:=.seq its.toArray n})(W:f its.toArray=D.toArray)(Z:Bk ys D)(A:ys.length<=Ay):Ab X J σ (AQ H l (.lst ys)) {s with heap:=s.heap.update l (Em f),toks:=t'}:=by have q:=ACv e f;rw[W]at q;show I.ti (by rw[U];show trivial) (.inl rfl) (λB u V Y=>(ACu _ _ (Gb V)).trans Y) ⟨_,q⟩ ?_;show⟨A,_,_,Z,q⟩
theorem Ab.abo(I:Ab X D σ H s)(J:Bk ys its)(U:ys.length<=Ay):Ab X D σ (AQ H s.heap.objs.size (.lst ys)) {s with heap:=s.heap.push {cls:=.type "list",data:=.seq its.toArray},toks:=t'}:=I.ma (λ_ _ q=>DN _ q) (Ak _) ⟨U,its,0,J,Gu _ rfl⟩
theorem Ab.bz(I:Ab X D σ H s):H s.heap.objs.size=AG:=I.cj.bz (Ak _)
theorem Ab.xj(I:Ab X D σ H s)(J:H l=AA (.lst xs)):xs.length<=Ay/\∃(its:List AL)(n:Nat),Bk xs its/\xs.length=its.length/\s.heap.get? l=AA {cls:=.type "list",data:=.seq its.toArray n}:=by obtain⟨z,its,n,r,e⟩:_:=I.cj l _ J;show⟨z,its,n,r,r.ao,e⟩
theorem Z2(h:n<=Ay):zU n=AR:=by show AEz (WE.mpr h)
def Vd:AD->List AD->AI->BN->Prop:=λx J H Q=>N7 (λl D y=>x=.ref l) (λ_ _ y=>J=[y]) (λl D _=>H l=AA (.lst D)) (λ_ D _=>D.length<Ay) (λl D y=>Q .non (AQ H l (.lst (D++[y]))))
theorem uD:Ut X "list.append" Vd:=by intro J s G H x C v B Q I Y W h;lk;obtain⟨l,E,y,rfl,rfl,D,A,q⟩:=h;cases Y;obtain⟨u,rfl,V⟩:=W.xg;obtain⟨z,U,n,r,Z,e⟩:=I.xj D;k_in;show Of AAA ⟨_,e,rfl⟩ ACg (ACc _ _) (ADZ l _ n u (by simp_all)) ⟨e,?_⟩;show⟨.non,_,I.aai D e (by simp) (r.nu (.cons V .nil)) ?_,rfl,q⟩;rw[B8];assumption
def vV:AD->List AD->AI->BN->Prop:=λx U H Q=>Rp (λl b D J=>x=.ref l) (λ_ b _ _=>U=[.ref b]) (λl _ D _=>H l=AA (.lst D)) (λ_ b _ J=>H b=AA (.lst J)) (λ_ _ D J=>D.length+J.length<=Ay) (λl _ D J=>Q .non (AQ H l (.lst (D++J))))
theorem M8:Ut X "list.extend" vV:=by
 intro Y s T H x O v N Q I K G h;lk;obtain⟨l,b,P,S,rfl,rfl,W,A,M,q⟩:=h;cases K;obtain⟨u,rfl,E⟩:=G.xg;cases E;obtain⟨z,U,n,r,L,e⟩:=I.xj W;obtain⟨R,D,C,r2,B,Z⟩:=I.xj A;k_in;have V:U.toArray.size+D.toArray.size<=Ay:=by simp_all
 have J:¬(!U.toArray.isEmpty&&zU (U.toArray.size+D.toArray.size))=AJ:=by rw[Z2 V,AA9];show Dw
 show Of OZ ⟨_,e,rfl⟩ F.entry_list_extend (F.args_list_extend_2 _ _) (AutoSeq1.list_extend_list_list_0 l _ n b _ C J (by simp_all) (Kx V)) ⟨e,Z,?_⟩;show⟨.non,_,I.aai W e (by simp) (r.nu r2) ?_,rfl,q⟩;rw[B8];omega
def vT:AD->List AD->AI->BN->Prop:=λx J H Q=>LU (λl D=>x=.ref l) (λ_ _=>J=[]) (λl D=>H l=AA (.lst D)) (λl _=>Q .non (AQ H l (.lst [])))
theorem Zz:Ut X "list.clear" vT:=by intro U s E H x B v A Q I Y W h;lk;obtain⟨l,C,rfl,rfl,J,q⟩:=h;cases Y;k_in;have D:=W.adh;subst D;obtain⟨z,V,n,r,Z,e⟩:_:=I.xj J;show Of AAB ⟨_,e,rfl⟩ F.entry_list_clear (F.args_list_clear_1 _) (AutoSeq1.list_clear_list_0 l _ n (by rw[Ie];omega)) ⟨e,?_⟩;show⟨.non,_,I.aai J e rfl .nil (BY _),rfl,q⟩
def vS:EJ:=λx y H Q=>Rp (λl b D J=>x=.ref l) (λ_ b _ _=>y=.ref b) (λl _ D _=>H l=AA (.lst D)) (λ_ b _ J=>H b=AA (.lst J)) (λ_ _ D J=>D.length+J.length<=Ay) (λ_ _ D J=>∀p,H p=AG->Q (.ref p) (AQ H p (.lst (D++J))))
theorem JG:Cf X (G6 .Add) vS:=by
 intro U s N H x y v u Q I B C h;lk;obtain⟨l,b,K,M,rfl,rfl,Z,Y,F,q⟩:=h;cases B;cases C;obtain⟨z,J,n,r,E,e⟩:=I.xj Z;obtain⟨L,D,G,r2,A,V⟩:=I.xj Y;k_in;show P.add_list e V ?_ (by simp_all);have W:J.toArray++D.toArray=(J++D).toArray:=by simp
 rw[W];show⟨.ref _,_,I.abo (r.nu r2) (by rw[B8];omega),rfl,q _ I.bz⟩
def v8:EJ:=λx y H Q=>Y9 (λl k D=>x=.ref l) (λ_ k _=>y=.int k) (λl _ D=>H l=AA (.lst D)) (λ_ k _=>-(2^63)<=k) (λ_ k _=>k<2^63) (λ_ k D=>D.length*k.toNat<=Ay) (λ_ k D=>∀p,H p=AG->Q (.ref p) (AQ H p (.lst (FO k.toNat D).flatten)))
theorem Zp(xs:List J)(k:Nat):(FO k xs).flatten.length=k*xs.length:=by induction k with|zero=>simp|succ k D=>rw[yX,ABj,B8,D,Nat.succ_mul,V8]
theorem uW:Cf X (G6 .Mult) v8:=by
 intro A s T H x y v u Q I L M h;lk;obtain⟨l,k,S,rfl,rfl,G,C,E,Z,q⟩:=h;cases L;obtain⟨t,rfl⟩:=M;obtain⟨z,D,n,r,K,e⟩:=I.xj G;k_in;have J:D.toArray.size*k.toNat<=Ay:=by rw[Ie,<-K];show Z
 have V:=by
  have:(Ay)<=(2^63-1)/8:=by decide
  show WE.mpr (Ah J this)
 have W:¬(!AD5 k)=AJ:=by rw[fitsIndex_both C E];show Dw
 have U:¬zU (D.toArray.size*k.toNat)=AJ:=by rw[Z2 J];show Dw
 have Y:ABk (λO P=>O++P) #[] (FO (if D.toArray.isEmpty=AJ then 0 else k.toNat) D.toArray)=(FO k.toNat D).flatten.toArray:=by
  have B:=λm=>by have:=Zd D m [];rw[Sf]at this;show this
  rw[B];cases D with |nil=>simp|cons a R=>rw[AEu (by simp)]
 show wpAny_binaryOp_repeat_ref (by decide) ⟨_,e,rfl⟩ (λN=>AAh N k t) noFill_list_mul F.fills_int_mul ACm repeat_list F.slot_int_index.lookup (Of ACm (AAh s k t) F.entry_int_rmul (F.args_int_rmul_2 _ _) (int___rmul___int_list k t l _ n) ⟨e,rfl,⟨_,e,rfl⟩,Of F.slot_list_mul ⟨_,e,rfl⟩ F.entry_list_mul (F.args_list_mul_2 _ _) (AD4 l _ n k t W V U) ⟨e,?_⟩⟩);rw[Y];show⟨.ref _,_,I.abo (r.aec _) (by rw[Zp,Nat.mul_comm];show Z),rfl,q _ I.bz⟩
def BH[DecidableEq J](kvs:List (J×AD))(k:J):Option AD:=(kvs.find? λD=>Aa (D.1=k)).map (·.2)
def BJ[DecidableEq J](kvs:List (J×AD))(k:J)(v:AD):List (J×AD):=if(kvs.any λD=>Aa (D.1=k))=AJ then kvs.map (λD=>if D.1=k then(D.1,v)else D)else kvs++[(k,v)]
def CM[DecidableEq D](kvs:List (D×AD))(k:D):List (D×AD):=kvs.filter λJ=>Aa (J.1≠k)
theorem Jy[DecidableEq D]{p:D×AD}(e:p.1=k):BH (p::r) k=AA p.2:=by simp[BH,Se,e]
theorem Jx[DecidableEq D]{p:D×AD}(e:¬p.1=k):BH (p::r) k=BH r k:=by simp[BH,Se,e]
section
variable{κ:Type}[DecidableEq κ]
theorem NH(k:κ):∀kvs:List (κ×AD),(kvs.any λD=>Aa (D.1=k))=(BH kvs k).isSome
 |[]=>rfl|p::r=>by
  rw[Vw];by_cases e:p.1=k;.simp only[Jy e,AEx e,Bool.true_or,Option.isSome_some]
  .rw[Jx e,AEz e];show NH k r
end
section
variable{κ:Type}[DecidableEq κ]
theorem bX(k j:κ)(y:AD):∀kvs:List (κ×AD),BH (kvs.map λD=>if D.1=k then(D.1,y)else D) j=(BH kvs j).map λx=>if j=k then y else x
  |[]=>rfl|p::r=>by
    have J:=bX k j y r;rw[FL];by_cases h:p.1=k
    . rw[AEv h];by_cases e:p.1=j;.rw[Jy (p:=(p.1,y)) e,Jy e,dB,AEv (e.symm.trans h)]
      .rw[Jx (p:=(p.1,y)) e,Jx e,J]
    . rw[AEu h];by_cases e:p.1=j;.rw[Jy e,Jy e,dB,AEu (λz=>h (e.trans z))]
      .rw[Jx e,Jx e,J]
end
section
variable{κ:Type}[DecidableEq κ]
theorem bY(k j:κ)(y:AD):∀kvs:List (κ×AD),BH kvs k=AG->BH (kvs++[(k,y)]) j=if j=k then AA y else BH kvs j
 |[],_=>by
  by_cases e:k=j;.rw[AEv e.symm];show Jy e
  .rw[AEu (λz=>e z.symm)];show Jx e|p::r,D=>by
  rw[Sa];have J:¬p.1=k:=λz=>by rw[Jy z]at D;cases D
  rw[Jx J]at D;have U:=bY k j y r D;by_cases e:p.1=j;.rw[Jy e,Jy e,AEu (λz=>J (e.trans z))]
  .rw[Jx e,Jx e,U]
end
theorem Gn{U:Type}[DecidableEq U](kvs:List (U×AD))(k j:U)(y:AD):BH (BJ kvs k y) j=if j=k then AA y else BH kvs j:=by
  unfold BJ;by_cases a:(kvs.any λJ=>Aa (J.1=k))=AJ
  . rw[AEv a,bX];rw[NH]at a;by_cases e:j=k
    . obtain⟨x,D⟩:=zG.mp a;rw[AEv e,e,D,dB,AEv rfl]
    . rw[AEu e];cases BH _ j with|none=>rfl|some x=>rw[dB,AEu e]
  . rw[AEu a];show bY k j y _ ?_;rw[NH]at a;cases q:BH _ k with|none=>rfl|some x=>rw[q]at a;show(a rfl).elim
theorem R7[DecidableEq D](kvs:List (D×AD))(k:D)(v:AD):(BJ kvs k v).length<=kvs.length+1:=by
 unfold BJ;split;.simp
 .rw[B8,Kw];show Ak _
theorem aM{D:Type}[DecidableEq D]{kvs:List (D×AD)}{k:D}(v:AD)(h:BH kvs k=AG):BJ kvs k v=kvs++[(k,v)]:=by unfold BJ;rw[NH,h];show AEu (by decide)
theorem LR.ip(r:LR o u):o.isSome=u.isSome:=by cases o with
 |none=>cases u with |none=>rfl|some _=>show(show False from r).elim
 |some _=>cases u with |none=>show(show False from r).elim|some _=>rfl
theorem LR.abj(r:LR o u)(J:Bj d D):Bj (o.getD d) (u.getD D):=by cases o with
 |none=>cases u with |none=>show J|some _=>show(show False from r).elim
 |some _=>cases u with|none=>show(show False from r).elim|some _=>show r
theorem Fh.xu[DecidableEq W](r:Fh kvs vs)(k:W):LR (BH kvs k) (HS vs k):=by induction r with|nil=>show HU|@cons p q A J h t Z=>
    obtain⟨U,Y⟩:=h;by_cases e:p.1=k
    . have D:=U.symm.trans e;have b:HS (q::J) k=AA q.2:=by simp[HS,Se,D]
      rw[Jy e,b];show Y
    . have D:¬q.1=k:=λz=>e (U.trans z);have b:HS (q::J) k=HS J k:=by simp[HS,Se,D]
      rw[Jx e,b];show Z
theorem Fh.aax[DecidableEq J](r:Fh kvs vs)(k:J):(kvs.any λD=>Aa (D.1=k))=vs.any λD=>Aa (D.1=k):=by induction r with|nil=>rfl|cons h t U=>rw[Vw,Vw,U,h.1]
theorem Fh.aar[DecidableEq U](r:Fh kvs vs)(k:U)(Z:Bj y u):Fh (kvs.map λD=>if D.1=k then(D.1,y)else D) (vs.map λD=>if D.1=k then(D.1,u)else D):=by induction r with|nil=>show .nil|@cons p q A B h t Y=>
 rw[FL,FL];show .cons ?_ Y;obtain⟨J,W⟩:=h;by_cases e:p.1=k;.rw[AEv e,AEv (J.symm.trans e)];show⟨J,Z⟩
 .rw[AEu e,AEu (λz=>e (J.trans z))];show⟨J,W⟩
theorem Fh.js[DecidableEq J](r:Fh kvs vs)(k:J)(D:Bj y u):Fh (BJ kvs k y) (Qb vs k u):=by
 unfold BJ Qb;rw[r.aax k];by_cases e:(vs.any λU=>Aa (U.1=k))=AJ;.rw[AEv e,AEv e];show r.aar k D
 .rw[AEu e,AEu e];show ACx r ⟨rfl,D⟩
theorem Fh.uz[DecidableEq U](r:Fh kvs vs)(k:U):Fh (CM kvs k) (without vs k):=by unfold CM without;induction r with|nil=>show .nil|@cons p q Z A h t J=>
    obtain⟨D,Y⟩:=h;rw[Gp,Gp];by_cases e:p.1=k
    . have a:¬Aa (p.1≠k)=AJ:=by simp[e]
      have b:¬Aa (q.1≠k)=AJ:=by simp[D.symm.trans e]
      rw[AEu a,AEu b];show J
    . have W:¬q.1=k:=λz=>e (D.trans z);have a:Aa (p.1≠k)=AJ:=by simp[e]
      have b:Aa (q.1≠k)=AJ:=by simp[W]
      rw[AEv a,AEv b];show .cons ⟨D,Y⟩ J
theorem Fh.ao[DecidableEq D]{kvs:List (D×AD)}{vs:List (D×AL)}(r:Fh kvs vs):kvs.length=vs.length:=Io r
theorem ZZ[DecidableEq D](kvs:List (D×AD))(k:D):(CM kvs k).length<=kvs.length:=D3 _ _
theorem Km(r:Bj (Aw k) u):(E2 P w).is k u=AJ:=by cases k with|inl i=>obtain⟨t,e⟩:=(show∃t,u=QP i t from r);subst e;show uB P w i t|inr x=>obtain⟨t,e⟩:=(show∃t,u=QQ x t from r);subst e;show uC P w x t
theorem Zj:∀{ks:List AK}{D:List AL},Bk (ks.map Aw) D->ItemsAre (E2 P w) ks D|[],_,r=>by cases r;show .nil|k::ks,_,r=>by cases r with|cons h t=>show .cons (Km h) (Zj t)
abbrev Kg(H:AI):List (List AK×AD)->List (List AK×AE×AL)->Prop:=Az λp q=>p.1=q.1/\H q.2.1=AA (.tup (p.1.map Aw))/\Bj p.2 q.2.2
theorem Kg.xu(r:Kg H kvs xs)(k:List AK):LR (BH kvs k) ((Oe xs k).map (·.2)):=by induction r with |nil=>show HU|@cons p q Z J h t Y=>
    obtain⟨U,_,W⟩:_:=h;by_cases e:p.1=k
    . have D:=U.symm.trans e;have b:Oe (q::J) k=AA q.2:=by simp[Oe,Se,D]
      rw[Jy e,b];show W
    . have D:¬q.1=k:=λz=>e (U.trans z);have b:Oe (q::J) k=Oe J k:=by simp[Oe,Se,D]
      rw[Jx e,b];show Y
theorem Kg.aar(r:Kg H kvs xs)(k:List AK)(Z:Bj y u):Kg H (kvs.map λJ=>if J.1=k then(J.1,y)else J) (xs.map (putAt k u)):=by induction r with|nil=>show .nil|@cons p q A B h t Y=>
 rw[FL];show .cons ?_ Y;obtain⟨D,U,W⟩:_:=h;unfold putAt;by_cases e:p.1=k;.rw[AEv e,AEv (D.symm.trans e)];show⟨D,U,Z⟩
 .rw[AEu e,AEu (λz=>e (D.trans z))];show⟨D,U,W⟩
theorem Kg.js(r:Kg H kvs xs)(k:List AK)(J:H b=AA (.tup (k.map Aw)))(D:Bj y u):Kg H (BJ kvs k y) (storedH xs k b u):=by
 have e:(kvs.any λU=>Aa (U.1=k))=(Oe xs k).isSome:=by rw[NH,(r.xu k).ip,zH]
 unfold BJ storedH;rw[e];by_cases q:(Oe xs k).isSome=AJ;.rw[AEv q,AEv q];show r.aar k D
 .rw[AEu q,AEu q];show ACx r ⟨rfl,J,D⟩
theorem Kg.abm(r:Kg H kvs xs)(D:∀b ys,H b=AA (.tup ys)->H' b=AA (.tup ys)):Kg H' kvs xs:=Y5 r λ_ _ z=>⟨z.1,D _ _ z.2.1,z.2.2⟩
theorem aV(D:Dc P w H h)(e:Fi H a u):De P w H h a u:=e.ok D
theorem M3(D:Dc P w H h)(e:Fi H a (.dK kvs)):kvs.length<=Ay/\(a==K4)=AR/\∃vs,Fh kvs vs/\h.DictOf (E2 P w) a vs:=show De P w H h a _ from aV D e
theorem Mz(D:Dc P w H h)(e:H a=AA (.dK kvs)):kvs.length<=Ay/\(a==K4)=AR/\∃vs,Fh kvs vs/\h.DictOf (E2 P w) a vs:=M3 D (.inl e)
theorem OE(W:Dc P w H h)(e:H a=AA (.tup (ks.map Aw))):(WX (E2 P w)).is h ks a:=by obtain⟨_,V,r,o,D,J,n,U⟩:_:=(show De P w H h a _ from W a _ e);show⟨o,_,n,D,J,U,by simpa using Zj r⟩
theorem M4(W:Dc P w H h)(e:Fi H a (.dT kvs)):kvs.length<=Ay/\(a==K4)=AR/\∃xs,Kg H kvs xs/\h.DictOfH (WX (E2 P w)) a xs:=by
 obtain⟨z,y,xs,r,o,Z,Y,A,B,C,E,F⟩:_:=(show De P w H h a _ from aV W e);show⟨z,y,xs,r,o,Z,Y,A,B,C,E,λx D=>?_,F⟩;have J:∀{l:List _}{m:List _},Kg H l m->∀x∈m,(WX (E2 P w)).is h x.1 x.2.1:=by intro l m q;induction q with |nil=>intro x D;show nomatch D|@cons p q I K U t G=>
  intro x D;rcases Ca.mp D with e|D
  . subst e;show OE W (by rw[<-U.1];show U.2.1)
  .show G x D
 show J r x D
theorem sL(D:Dc P w H h)(e:H a=AA (.dT kvs)):kvs.length<=Ay/\(a==K4)=AR/\∃xs,Kg H kvs xs/\h.DictOfH (WX (E2 P w)) a xs:=M4 D (.inl e)
def Jl(H:AI)(a:AE)(y:AD)(r:Option AD):Prop:=(Ey (λD k=>Fi H a (.dK D)) (λ_ k=>y=Aw k) (λD k=>r=BH D k))\/Pg (λD k b=>Fi H a (.dT D)) (λ_ _ b=>y=.ref b) (λ_ k b=>H b=AA (.tup (k.map Aw))) (λD k _=>r=BH D k)
def Um(H:AI)(a:AE)(y v:AD)(H':AI):Prop:=(LU (λD k=>H a=AA (.dK D)) (λ_ k=>y=Aw k) (λD _=>D.length<Ay) (λD k=>H'=AQ H a (.dK (BJ D k v))))\/N7 (λD k b=>H a=AA (.dT D)) (λ_ _ b=>y=.ref b) (λ_ k b=>H b=AA (.tup (k.map Aw))) (λD _ _=>D.length<Ay) (λD k _=>H'=AQ H a (.dT (BJ D k v)))
theorem LN(e:H a=AA (.dK kvs)):Jl H a (Aw k) (BH kvs k):=.inl ⟨kvs,k,.inl e,rfl,rfl⟩
theorem Ke(e:H a=AA (.dK kvs))(D:kvs.length<Ay):Um H a (Aw k) v (AQ H a (.dK (BJ kvs k v))):=.inl ⟨kvs,k,e,rfl,D,rfl⟩
theorem Ab.adl(I:Ab X D σ H s):K4<s.heap.objs.size:=by have h:=(I.uv.vb.keeps I.bk).lt;show cX (by decide) h
theorem rY(L:A.units+1<GL)(I:Ab X V σ H s)(g:Jl H a y (AA v))(C:Bj y u)(h:∀U s',Ab X V σ H s'->Bj v U->Q U s'):BB (Ar X.ag X.w) A (Oi (.ref a) u) Q E s:=by
 rcases g with⟨B,k,e,Y,l⟩|⟨B,k,b,e,Y,F,l⟩
 . subst Y;lk;obtain⟨z,G,M,D,W⟩:=M3 I.cj e;obtain⟨U,hw,J⟩:=N4 (by rw[l];show D.xu k);k_in;show wpAny_getItem_of (Km C) W.mapOf hw (h U _ (I.gm _) J)
 . subst Y;lk;cases(show u=Dk b from C);obtain⟨z,G,N,D,W⟩:=M4 I.cj e;obtain⟨U,hw,J⟩:=N4 (by rw[l];show D.xu k);obtain⟨p,K,Z⟩:=Du.mp hw;k_in;show wpAny_getItem_heap (WY L) (OE I.cj F) W K ?_;rw[Z];show h U _ (I.gm _) J
theorem rZ(C:A.units+1<GL)(I:Ab X J σ H s)(g:Jl H a y o)(Z:Bj y u)(h:∀s',Ab X J σ H s'->Q (.bool o.isSome) s'):BB (Ar X.ag X.w) A (FF .In u (.ref a)) Q E s:=by
 rcases g with⟨Y,k,e,V,l⟩|⟨Y,k,b,e,V,B,l⟩
 . subst V;obtain⟨z,W,F,D,U⟩:_:=M3 I.cj e;show wpAny_in_of (Km Z) W U.mapOf ?_;rw[<-(D.xu k).ip,<-l];show h _ (I.gm _)
 . subst V;lk;cases(show u=Dk b from Z);obtain⟨z,W,G,D,U⟩:=M4 I.cj e;k_in;show wpAny_in_heap (WY C) (OE I.cj B) W U ?_;have q:=(D.xu k).ip;rw[zH]at q;rw[<-q,<-l];show h _ (I.gm _)
theorem r9(C:A.units+1<GL)(I:Ab X J σ H s)(g:Jl H a y o)(Z:Bj y u)(h:∀s',Ab X J σ H s'->Q (.bool (!o.isSome)) s'):BB (Ar X.ag X.w) A (FF .NotIn u (.ref a)) Q E s:=by
 rcases g with⟨Y,k,e,V,l⟩|⟨Y,k,b,e,V,B,l⟩
 . subst V;obtain⟨z,W,F,D,U⟩:_:=M3 I.cj e;show wpAny_notIn_of (Km Z) W U.mapOf ?_;rw[<-(D.xu k).ip,<-l];show h _ (I.gm _)
 . subst V;lk;cases(show u=Dk b from Z);obtain⟨z,W,G,D,U⟩:=M4 I.cj e;k_in;show wpAny_notIn_heap (WY C) (OE I.cj B) W U ?_;have q:=(D.xu k).ip;rw[zH]at q;rw[<-q,<-l];show h _ (I.gm _)
theorem Pj(I:Ab X D σ H s)(A:Pb (H a))(Z:QO a s.heap J)(Y:∃q,J.get? a=AA q)(U:De X.ag X.w (AQ H a V) J a V):Ab X D σ (AQ H a V) {s with heap:=J,toks:=t'}:=I.ti A (.inl rfl) (λb q W z=>(Z.2 b W).trans z) Y U
theorem Ru(z:kvs.length<=Ay)(W:(a==K4)=AR)(D:Fh kvs vs)(U:J.DictOf (E2 P w) a vs):De P w H' J a (.dK kvs):=⟨z,W,vs,D,U⟩
theorem sC(j:A.units+1<GL)(I:Ab X V σ H s)(g:Um H a y v H')(O:Bj y u)(N:Bj v r)(h:∀s',Ab X V σ H' s'->Q () s'):BB (Ar X.ag X.w) A (setItem (.ref a) u r) Q E s:=by
  rcases g with⟨U,k,e,B,l,Z⟩|⟨U,k,b,e,B,K,l,Z⟩
  . subst B Z;obtain⟨z,C,n,D,Y⟩:_:=Mz I.cj e;have m:n.length<=Ay:=by rw[<-D.ao];show z
    have F:=by have:=R7 U k v;show Ah this l
    show wpAny_setItem_pairs (Km O) Y λM J G=>h _ ?_;have i:∃q,M.get? a=AA q:=let⟨q,_,_,W,_⟩:=J;⟨q,W⟩;show Pj I (by rw[e];show HU) G i (Ru F C (D.js k N) J)
  . subst B Z;lk;cases(show u=Dk b from O);obtain⟨z,C,o,D,Y⟩:=sL I.cj e;k_in;have m:o.length<=Ay:=by rw[<-Io D];show z
    have F:=by have:=R7 U k v;show Ah this l
    show wpAny_setItem_heap (WY j) (OE I.cj K) Y λM J G=>h _ ?_;obtain⟨q,R,P,W,S,T,d,_,f⟩:_:=J;show Pj I (by rw[e];show HU) G ⟨q,W⟩ ⟨F,C,_,(D.js k K N).abm λc p L=>?_,q,R,P,W,S,T,d,f⟩;rw[AX (uG L e (λz=>nomatch z))];show L
theorem ZT(I:Ab X W σ H s)(e:H a=AA (.dK kvs))(B:Bj (Aw k) u)(l:BH kvs k=AA v)(F:D=[]\/∃x,D=[x])(h:∀Y s',Ab X W σ (AQ H a (.dK (CM kvs k))) s'->Bj v Y->Q Y s'):BB (Ar X.ag X.w) A (Ip (.builtin "dict.pop") (.ref a::u::D)) Q E s:=by
 lk;obtain⟨z,L,R,J,C⟩:=Mz I.cj e;obtain⟨Y,hw,Z⟩:=N4 (by rw[<-l];show J.xu k);k_in;have N:(keyPart u).isSome=AJ:=by cases k with |inl i=>obtain⟨t,q⟩:=(show∃t,u=QP i t from B);subst q;rfl|inr x=>obtain⟨t,q⟩:=(show∃t,u=QQ x t from B);subst q;rfl
 have K:argsOk "dict.pop" ⟨.ref a::u::D,[]⟩:=by
  rcases F with q|⟨x,q⟩;.subst q;show F.args_dict_pop_2 _ _
  .subst q;show ACb _ _ _
 show WV dP C.typeIs ACf K (meets_dict_pop_there _ a (Km B) _ F N) ⟨R,Y,C,by rw[<-J.ao];show z,hw,λG U P=>h Y _ ?_ Z⟩;have M:∃q,G.get? a=AA q:=let⟨q,_,_,O,_⟩:=U;⟨q,O⟩;show Pj I (by rw[e];show HU) P M (Ru (Ah (ZZ _ k) z) L (J.uz k) U)
theorem sA(I:Ab X D σ H s)(e:H a=AA (.dK kvs))(U:Bj (Aw k) u)(l:BH kvs k=AG)(h:∀s',Ab X D σ H s'->Q r s'):BB (Ar X.ag X.w) A (Ip (.builtin "dict.pop") [.ref a,u,r]) Q E s:=by
 obtain⟨z,Y,W,J,V⟩:_:=Mz I.cj e;have Z:HS W k=AG:=Ux (by rw[<-l];show J.xu k);have B:(keyPart u).isSome=AJ:=by cases k with|inl i=>obtain⟨t,q⟩:=(show∃t,u=QP i t from U);subst q;rfl|inr x=>obtain⟨t,q⟩:=(show∃t,u=QQ x t from U);subst q;rfl
 show WV dP V.typeIs ACf (ACb _ _ _) (meets_dict_pop_default (E2 X.ag X.w) a (Km U) Y B r) ⟨W,V,Z,h _ (I.gm _)⟩
def Y4(i:BS):Prop:=∀J D,eL i AR J D=operate [J,D] (Oi J D)
theorem wX{id:String}(G:typeLookup (.type T) "__getitem__"=Bo (AA (.builtin id)))(H:Y4 D)(h:BB (Ar prog w) A (Be J env) (λo W=>BB (Ar prog w) A (Be D env) (λi U=>U.TypeIs o T/\BB (Ar prog w) A (Oi o i) Q E U) E W) E s):BB (Ar prog w) A (Be (.Subscript J D C) env) Q E s:=by
 show zK (II h (λo W Z=>II Z (λi U V=>?_) λ_ _ x=>x) λ_ _ x=>x);obtain⟨F,V⟩:=V;show BL ?_;show BL (wpAny_specialOf F G ?_);have fin:BB (Ar prog w) A (eL D AR o i) (λr Y=>BB (Ar prog w) A (letTemporaryGo J o r>>=λ_=>Bo r) Q E Y) E U:=by rw[H o i];show wpAny_operating (II V (λr Y B=>BL (wpAny_letTemporaryGo (Cp B))) λ_ _ x=>x)
 first |show Cp (BL fin)|show wpAny_bind _|show wpAny_bind _
theorem sG(I:Ab X D σ H s)(g:Jl H a y o):s.TypeIs (.ref a) "dict":=by
 rcases g with⟨U,k,e,_,_⟩|⟨U,k,b,e,_,_,_⟩
 . obtain⟨_,_,W,_,J⟩:_:=M3 I.cj e;show J.typeIs
 . obtain⟨_,_,Y,_,J⟩:_:=M4 I.cj e;show J.typeIs
def P4(V W:A1):A1:=λJ H Q=>V J H λx U=>W J U λy D=>Ey (λa v=>x=.ref a) (λa v=>Jl D a y (AA v)) (λ_ v=>Q v D)
def xC(W V:A1):A1:=λJ H Q=>W J H λy U=>V J U λx D=>Ey (λa o=>x=.ref a) (λa o=>Jl D a y o) (λ_ o=>Q (.bl o.isSome) D)
def xE(W V:A1):A1:=λJ H Q=>W J H λy U=>V J U λx D=>Ey (λa o=>x=.ref a) (λa o=>Jl D a y o) (λ_ o=>Q (.bl (!o.isSome)) D)
def wG(Z B A:A1):C7:=λD U H=>A U H λv V=>Z U V λx W=>B U W λy Y=>Ey (λa J=>x=.ref a) (λa J=>Um Y a y v J) (λ_ J=>D.nx U J)
theorem EY(hu:X.A.units+1<GL)(ho:Am X o td)(hi:Am X i ty)(hs:Y4 i):Am X (.Subscript o i pos) (P4 td ty):=by intro pins s σ H Q I h;show wX F.slot_dict_getitem.lookup hs (BD (ho _ s σ H _ I h) λu s1 hh11=>?_);obtain⟨x,H1,I1,rx,q1⟩:_:=hh11;show BD (hi _ s1 σ H1 _ I1 q1) λiv s2 hh21=>?_;obtain⟨y,H2,I2,ry,a,v,ex,g,q2⟩:_:=hh21;subst ex;obtain rfl:u=Dk a:=rx;show⟨sG I2 g,rY hu I2 g ry λw' s3 I3 rw'=>⟨v,H2,I3,rw',q2⟩⟩
theorem aC(C:X.A.units+1<GL)(hi:Am X i N)(B:Am X o M):Uu X .In i o (xC N M):=by intro D s J H Q I h;show BD (hi D s J H _ I h) λO s1⟨y,U,W,L,F⟩=>BD (B D s1 J U _ W F) λu s2⟨x,V,Y,K,a,E,A,g,G⟩=>?_;subst A;obtain rfl:u=Dk a:=K;show rZ C Y g L λs3 Z=>⟨.bl E.isSome,V,Z,rfl,G⟩
theorem uZ(C:X.A.units+1<GL)(hi:Am X i N)(B:Am X o M):Uu X .NotIn i o (xE N M):=by intro D s J H Q I h;show BD (hi D s J H _ I h) λO s1⟨y,U,W,L,F⟩=>BD (B D s1 J U _ W F) λu s2⟨x,V,Y,K,a,E,A,g,G⟩=>?_;subst A;obtain rfl:u=Dk a:=K;show r9 C Y g L λs3 Z=>⟨.bl (!E.isSome),V,Z,rfl,G⟩
theorem Ju(N:X.A.units+1<GL)(L:Am X o c)(hi:Am X i e)(O:Am X J d)(M:Ol J (AA (.Subscript o i U)) W.line X.ae=Bo AR):Ew X (.Assign [.Subscript o i U] J W) (wG c e d):=by intro Y s V H D I h;show wpAny_Assign_Subscript (BD (O _ s V H _ I h) λr s1⟨v,Z,C,S,P⟩=>BD (L _ s1 V Z _ C P) λu s2⟨x,A,E,T,Q⟩=>BD (hi _ s2 V A _ E Q) λj s3⟨y,f,F,b,a,B,K,g,R⟩=>?_) M;subst K;obtain rfl:u=Dk a:=T;show sC N F g b S λs4 G=>⟨V,B,G,R⟩
theorem ZY(h:Bb)(D:K4<h.objs.size):De P w H (h.push {cls:=.type "dict",data:=.dict #[]}) h.objs.size (.dK []):=⟨BY _,AE6.mpr (Gb (Ee D)),[],.nil,AEY h⟩
def xD:A1:=λ_ H Q=>∀p,H p=AG->Q (.ref p) (AQ H p (.dK []))
theorem OI:Am X (.Dict [] [] J) xD:=λD s U H Q I h=>wpAny_Dict_empty ⟨.ref _,_,I.ma (λ_ _ q=>DN _ q) (Ak _) (ZY _ I.adl),rfl,h _ (I.cj.bz (Ak _))⟩
def Vq:List (A1×A1)->Ae->AI->(List (AD×AD)->AI->Prop)->Prop|[],_,H,Q=>Q [] H|(Z,A)::r,D,H,Q=>Z D H λx J=>A D J λy U=>Vq r D U λY W=>Q ((x,y)::Y) W
abbrev Y6:List (AD×AD)->List (AL×AL)->Prop:=Az λp q=>Bj p.1 q.1/\Bj p.2 q.2
def Rg(X:Br)(Z:C3)(U:List (Option BS))(D:List BS)(A:List (A1×A1)):Prop:=∀(J:List (AE×BP))(s:AZ)(B:Ae)(H:AI)(Q:List (AD×AD)->AI->Prop),Ab X J B H s->Vq A B H Q->BB (Ar X.ag X.w) X.A (evalPairs (pairTrees U D X.ae Z)) (λE C=>Ey (λW Y=>Ab X J B Y C) (λW _=>Y6 W E) (λW Y=>Q W Y)) X.xe s
theorem vM:Rg X D [] [] []:=λJ s U H Q I h=>pairTrees_nil_walk ⟨[],H,I,.nil,h⟩
theorem vL(N:Am X k B)(P:Am X v C)(O:Rg X V ks vs W):Rg X V (AA k::ks) (v::vs) ((B,C)::W):=by showλA s Z H Q I h=>pairTrees_cons_walk (BD (N _ s Z H _ I h) λu s1 D=>?_);obtain⟨x,E,K,a,R⟩:_:=D;show BD (P _ s1 Z E _ K R) λd s2 J=>?_;obtain⟨y,F,L,b,S⟩:_:=J;show BD (O _ s2 Z F _ L S) λe s3 U=>?_;obtain⟨c,G,M,Y,T⟩:_:=U;show⟨_,G,M,.cons ⟨a,b⟩ Y,T⟩
def Kp(kvs D:List (AK×AD)):List (AK×AD):=D.foldl (λJ U=>BJ J U.1 U.2) kvs
theorem Fh.abr:∀{D:List (AK×AD)}{J:List (AK×AL)}{kvs:List (AK×AD)}{vs:List (AK×AL)},Fh D J->Fh kvs vs->Fh (Kp kvs D) (merged vs J):=by intro D J kvs vs r;induction r generalizing kvs vs with|nil=>intro q;show q|@cons p q Y Z h t U=>
 intro W;have e:Fh (BJ kvs p.1 p.2) (Qb vs q.1 q.2):=by have:=W.js p.1 h.2;rw[<-h.1];show this
 show U e
theorem Zq:∀(D kvs:List (AK×AD)),(Kp kvs D).length<=kvs.length+D.length|[],kvs=>by show Ak _|p::r,kvs=>by have J:=Zq r (BJ kvs p.1 p.2);have U:=R7 kvs p.1 p.2;change(Kp _ r).length<=_;rw[Kw];lia
theorem ZM:∀{kvs:List (AK×AD)}{U:List (AL×AL)},Y6 (kvs.map λJ=>(Aw J.1,J.2)) U->∃D,Carries (E2 P w) U D/\Fh kvs D|[],_,r=>by cases r;show⟨[],HU,.nil⟩|p::kvs,_,r=>by cases r with|@cons a b Y A h t=>lk;obtain⟨D,c,q⟩:=ZM t;obtain⟨Z,W⟩:=b;k_in;show⟨(p.1,W)::D,⟨Km h.1,rfl,c⟩,.cons ⟨rfl,h.2⟩ q⟩
def xH(J:List (A1×A1)):A1:=λZ H Q=>∀p,H p=AG->Vq J Z (AQ H p (.dK [])) λY U=>U p=AA (.dK [])/\Jn (λ(D:List (AK×AD))=>Y=D.map (λW=>(Aw W.1,W.2))) (λD=>D.length<=15) (λD=>Q (.ref p) (AQ U p (.dK (Kp [] D))))
theorem vC(h:Rg X Z D J A)(V:D.all (·.isSome)=AJ)(S:D.length=J.length)(N:D≠[])(B:D.length<=15):Am X (.Dict D J Z) (xH A):=by
 intro F s l H Q I q;have T:=I.cj.bz (Ak _);have G:=I.ma (t':=s.toks) (λ_ _ q=>DN _ q) (Ak _) (ZY _ I.adl);show wpAny_Dict_walk (knd:=E2 _ _) V S N B (BD (h _ _ l _ _ G (q _ T)) λp s2 W=>?_);obtain⟨o,m,E,C,e,Y,L,n,f⟩:_:=W;subst L;lk;obtain⟨j,c,i⟩:=ZM C;obtain⟨z,P,k,g,K⟩:=Mz E.cj e;cases g;k_in;show⟨j,c,K,λM U b=>⟨.ref _,_,?_,rfl,f⟩⟩;have d:(Kp [] Y).length<=Ay:=by have O:=Zq Y [];rw[V1]at O;rw[DW];lia
 have R:∃q,M.get? _=AA q:=let⟨q,_,_,a,_⟩:=U;⟨q,a⟩;show Pj E (by rw[e];show HU) b R (Ru d P (i.abr .nil) U)
structure qZ(X:Br)(o:BS)(m:AF)(apos:C3)(e:BS)(cpos:C3):Prop where
 ar:KA o m X.ae (Be o X.ae)=Be o X.ae
 abh:((Gd cpos (Co [e] X.ae)).all (λx=>!x.1)&&(QS cpos (QY [] X.ae)).all (λx=>x.1.isSome)&&Aa (([e]:List BS).length+([]:List MZ).length+(if([]:List MZ).isEmpty then 0 else 1)<30))=AJ
 za:(apos.endLine==cpos.line)=AJ
 wu:Gd cpos (Co [e] X.ae)=[(AR,Be e X.ae)]
structure Us(X:Br)(o:BS)(m:AF)(apos:C3)(e f:BS)(cpos:C3):Prop where
 ar:KA o m X.ae (Be o X.ae)=Be o X.ae
 abh:((Gd cpos (Co [e,f] X.ae)).all (λx=>!x.1)&&(QS cpos (QY [] X.ae)).all (λx=>x.1.isSome)&&Aa (([e,f]:List BS).length+([]:List MZ).length+(if([]:List MZ).isEmpty then 0 else 1)<30))=AJ
 za:(apos.endLine==cpos.line)=AJ
 wu:Gd cpos (Co [e,f] X.ae)=[(AR,Be e X.ae),(AR,Be f X.ae)]
def MD(H:AI)(a:AE):Prop:=(∃D,Fi H a (.dK D))\/∃D,Fi H a (.dT D)
theorem Rx(I:Ab X U σ H s)(d:MD H a):s.TypeIs (.ref a) "dict"/\(∀b,Dk a=.ref b->∃D,s.heap.get? b=AA D/\D.dict=AG)/\(a==K4)=AR:=by
 rcases d with⟨Z,e⟩|⟨Z,e⟩
 . obtain⟨_,Y,A,_,J⟩:_:=M3 I.cj e;show⟨J.typeIs,λb q=>?_,Y⟩;lk;cases q;obtain⟨D,_,_,V,W,_⟩:=J;k_in;show⟨D,V,W.2.1⟩
 . obtain⟨_,Y,B,_,J⟩:_:=M4 I.cj e;show⟨J.typeIs,λb q=>?_,Y⟩;lk;cases q;obtain⟨D,_,_,V,W,_⟩:=J;k_in;show⟨D,V,W.2.1⟩
theorem rX(G:A.units+1<GL)(I:Ab X U σ H s)(g:Jl H a y o)(B:Bj y u)(Z:Bj d r)(h:∀C s',Ab X U σ H s'->Bj (o.getD d) C->Q C s'):BB (Ar X.ag X.w) A (Ip (.builtin "dict.get") [.ref a,u,r]) Q E s:=by
 rcases g with⟨Y,k,e,V,l⟩|⟨Y,k,b,e,V,F,l⟩
 . subst V;obtain⟨z,W,L,D,J⟩:_:=M3 I.cj e;show WV zZ J.typeIs ACe (ACa _ _ _) (meets_dict_get_default _ a (Km B) W r) ⟨_,J.mapOf,h _ _ (I.gm _) ?_⟩;rw[l];show(D.xu k).abj Z
 . subst V;lk;cases(show u=Dk b from B);obtain⟨z,W,K,D,J⟩:=M4 I.cj e;k_in;show WV zZ J.typeIs ACe (ACa _ _ _) (meetsH_dict_get_default _ a b W r) ⟨WY G,k,K,OE I.cj F,J,h _ _ (I.gm _) ?_⟩;rw[l];show(D.xu k).abj Z
def xB(W Z Y:A1):A1:=λD H Q=>W D H λx J=>Jn (λa=>x=.ref a) (λa=>MD J a) (λa=>Z D J λy V=>Y D V λz U=>Gk (λo=>Jl U a y o) (λo=>Q (o.getD z) U))
def xF(W Y:A1):A1:=λV H Q=>W V H λx J=>Jn (λa=>x=.ref a) (λa=>MD J a) (λa=>Y V J λy U=>Pg (λD k v=>U a=AA (.dK D)) (λ_ k _=>y=Aw k) (λD k v=>BH D k=AA v) (λD k v=>Q v (AQ U a (.dK (CM D k)))))
def Vn(Y A Z:A1):A1:=λU H Q=>Y U H λx V=>Jn (λa=>x=.ref a) (λa=>MD V a) (λa=>A U V λy W=>Z U W λz J=>LU (λD k=>J a=AA (.dK D)) (λ_ k=>y=Aw k) (λD k=>(∀v,BH D k=AA v->Q v (AQ J a (.dK (CM D k))))) (λD k=>(BH D k=AG->Q z J)))
theorem VW(R:X.A.units+1<GL)(P:Am X o k)(N:Am X e n)(O:Am X f l)(m:Us X o "get" D e f J):Am X (.Call (.Attribute o "get" D) [e,f] [] J) (xB k n l):=by intro B s Z H Q I h;show Sx m.ar m.abh m.za Sr zZ F.type_dict_get (BD (P _ s Z H _ I h) λu s1 U=>?_);obtain⟨x,C,A,c,a,M,d,S⟩:_:=U;subst M;lk;obtain rfl:u=Dk a:=c;obtain⟨t1,t2,_⟩:=Rx A d;k_in;show⟨t1,t2,?_⟩;rw[m.wu];show Sq rfl (WS (Le (BD (N _ s1 Z C _ A S) λq s2 V=>?_)));obtain⟨y,E,G,i,T⟩:_:=V;show Le (BD (O _ s2 Z E _ G T) λp s3 W=>?_);obtain⟨z,F,K,j,r,g,b⟩:_:=W;show OY ?_;show rX R K g i j λt s4 L Y=>⟨_,F,L,Y,b⟩
theorem aG(M:Am X o T)(L:Am X e b)(m:qZ X o "pop" D e J):Am X (.Call (.Attribute o "pop" D) [e] [] J) (xF T b):=by intro Z s A H Q I h;show Sx m.ar m.abh m.za Sr dP ACr (BD (M _ s A H _ I h) λu s1 U=>?_);obtain⟨x,B,Y,R,a,G,d,O⟩:_:=U;subst G;lk;obtain rfl:u=Dk a:=R;obtain⟨t1,t2,_⟩:=Rx Y d;k_in;show⟨t1,t2,?_⟩;rw[m.wu];show Sq rfl (WS (Le (BD (L _ s1 A B _ Y O) λf s2 V=>?_)));obtain⟨y,c,C,S,N,k,v,F,K,l,P⟩:_:=V;show OY ?_;subst K;show ZT C F S l (.inl rfl) λg s3 E W=>⟨v,_,E,W,P⟩
theorem aH(S:Am X o n)(P:Am X e q)(R:Am X f p)(m:Us X o "pop" J e f U):Am X (.Call (.Attribute o "pop" J) [e,f] [] U) (Vn n q p):=by intro D s Z H Q I h;show Sx m.ar m.abh m.za Sr dP ACr (BD (S D s Z H _ I h) λu s1⟨x,F,A,i,a,M,d,T⟩=>?_);subst M;lk;obtain rfl:u=Dk a:=i;obtain⟨t1,t2,_⟩:=Rx A d;k_in;show⟨t1,t2,?_⟩;rw[m.wu];show Sq rfl (WS (Le (BD (P D s1 Z F _ A T) λr s2⟨y,G,L,E,b⟩=>Le (BD (R D s2 Z G _ L b) λO s3⟨z,K,B,j,W,k,C,N,c,g⟩=>OY ?_))));subst N;cases l:BH W k with|some v=>show ZT B C E l (.inr ⟨O,rfl⟩) λt s4 V Y=>⟨v,_,V,Y,c v l⟩|none=>show sA B C E l λs4 V=>⟨z,K,V,j,g l⟩
theorem fN:∀(ns:List Int)(vs:List AL),W.WellAll P h vs (ns.map ADB)->Sn vs ns:=by intro ns;induction ns with|nil=>intro vs w;cases w;show .nil|cons n ns D=>intro vs w;cases w with|cons a b=>cases a;show .cons _ _ (D _ b)
theorem fQ{l:Ss}(H:l.most=AA n)(J:l.row.toRowW.claim.pre D=AJ)(A:W.WellAll P h U D):∃a vs ns,U=[Dk a]/\D=[W.WData.list (ns.map ADB)]/\h.get? a=AA {cls:=.type "list",data:=.seq vs.toArray}/\Sn vs ns/\ns.length<=n:=by
 have Z:=(W.pre_splitW J).1;have G:l.pre.holds [] _=AJ:=(W.pre_splitW J).2;lk;obtain⟨d,r,rfl,C,E⟩:=W.hasAllW_cons Z;obtain rfl:=W.hasAllW_nil E;obtain⟨M,rfl,F⟩:=W.hasW_list C;obtain⟨ns,rfl⟩:=W.items_int F;k_in;have W:=by
  have Y:=by have Y:=(W.holds_andW G).1;rw[H]at Y;show Y
  have B:=W.condW_of Y (W.w_not (W.w_lt W.w_lit (W.w_len_list (W.w_arg rfl))));first |(show absurd B _)|(simp at B;omega)
 cases A with|cons K L=>cases L;cases K with|list I V=>show⟨_,_,ns,rfl,rfl,I,fN ns _ V,W⟩
theorem fP(l:Ss)(D:List W.WData):l.row.toRowW.claim.post D (.bool AJ) D=AJ:=W.postW_of (by first|rfl|decide|simp) (show(W.WTm.eq _ _).value [] _=AA _ from W.w_eq_bool (W.w_res rfl) W.w_lit) rfl
theorem fM{l:Ss}{d:DefRec}(hn:l.most=AA n)(hdf:d.params.defaults=[])(call:∀(w:CA)(s₀ s₁:AZ)(mg mb:AF->Option AL)(fa:AE)(o:BP)(pm cd doc:AL)(a:AE)(vs:List AL)(ns:List Int),W.Ground q loose [] XP w s₀ mg mb s₁.heap->YP w s₁.heap->s₁.heap.get? fa=AA o->o.data=.func (Calls.docDef d.name d.params d.body d.scope pm cd doc)->s₁.heap.CodeRec cd d.name->mg d.name=AA (.ref fa)->s₁.heap.get? a=AA {cls:=.type "list",data:=.seq vs.toArray}->Sn vs ns->ns.length<=n->s₁.gens=#[]->Og (Ar l.prog w) QX (.call (.ref fa) ⟨[.ref a],[]⟩) (λr s'=>r=.ok (.ret (.bool AJ))/\OldK s₁.heap s'.heap/\s'.os=s₁.os/\NP s'.gens) s₁):AAK q loose XP YP l.row.toRowW d [] (λf vs=>Ip f vs):=by intro w s₀ s₁ mg mb G Y fa o pm cd doc dV kV ho hd hcd hD hmg hg args vals as hpre hlay hrd hwl hlo;lk;obtain rfl:dV=.none:=W.Dflts.none hD hdf;obtain rfl:kV=.none:=W.Dflts.noKw hD;obtain⟨a,vs,ns,rfl,rfl,hobj,hints,hlen⟩:=fQ hn hpre hwl;k_in;show W.enter_call (Sw (call w _ _ mg mb fa o pm cd _ a vs ns G Y ho (W.fd_plain hd) hcd hmg hobj hints hlen hg) λr s' hq=>?_);obtain⟨rfl,h2,h3,h4⟩:_:=hq;show⟨.inl ⟨_,_,[],rfl,λ_=>rfl,.bool _,fP l _,λ_=>⟨ADx,λ_ hm=>(nomatch hm)⟩⟩,h2,h3,h4⟩
theorem yD(h:Sn vs ns):Bk (ns.map AD.int) vs:=by induction h with|nil=>show .nil|cons n t _ D=>show .cons ⟨t,rfl⟩ D
def Pc(H:AI):Prop:=∀b,H b=AG\/∃o D,H b=AA (.frz o (.lst D))
set_option tactic.hygienic true in theorem tZ{P:Ce}{w:CA}{K:Ax}{mg c:AF->Option AL}{CX:Hn}{k:Nat}{Q a:AE}{fd:Im}{x:AF}{sp:BO}{D:AZ}{vs:List AL}{ns:List Int}(g:K.In D.heap)(E:D.heap.Ns Li mg)(U:D.heap.Ns AAX c)(S:∀x:AF,x≠"__name__"->c x=QW x)(C:D.heap.NoLimit)(hg:D.gens=#[])(N:D.heap.get? a=AA {cls:=.type "list",data:=.seq vs.toArray})(hi:Sn vs ns)(hl:ns.length<=Ay)(hr:D9 k QX)(F:∀base:Bb,K.In base->base.Ns Li mg->Gy P w K mg base CX k Q fd [x] sp)(Z:∀(s:AZ)(u:AL),So s fd ⟨[u],[]⟩ [(x,u)])(X:∀H:AI,Pc H->B7 K H a (ns.map AD.int)->sp [.ref a] H (λv _=>v=.bl AJ) λ_ _ _=>False)(R:∀H e s',CX [] H D (λ_ _ _=>False) e s'->False):Og (Ar P w) QX (.call (.ref Q) ⟨[.ref a],[]⟩) (λr s'=>r=.ok (.ret (.bool AJ))/\OldK D.heap s'.heap/\s'.os=D.os/\NP s'.gens) D:=by
  have p:=yD hi;have L:=hi.length;have Y:∀H:AI,Pc H->B7 K H a (ns.map AD.int)->Dc P w H D.heap->(∀b,H b≠AG->b=a)->(H a≠AG->K.lookup a=AG)->Og (Ar P w) QX (.call (.ref Q) ⟨[.ref a],[]⟩) (λr s'=>r=.ok (.ret (.bool AJ))/\OldK D.heap s'.heap/\s'.os=D.os/\NP s'.gens) D:=by
    intro H l hS G j hK;have J:∀{b:AE}{o:BP},D.heap.get? b=AA o->H b=AG->(OC _ H).get? b=AA o:=λe n=>sY e n;have f:∀{b:AE}{o:BP}{es:Array _}{ep:Nat},D.heap.get? b=AA o->o.data=.dict es ep->H b=AG:=λ{b o es ep}e d=>by cases q:H b with |none=>rfl|some u=> have O:=j b (by rw[q];simp);subst O;rw[N]at e;cases e;have y:=d;cases y
    have W:∀{b:AE}{m:AF->Option _},D.heap.Ns b m->(OC _ H).Ns b m:=λ{b m}⟨o,es,ep,e,d,r⟩=>⟨o,es,ep,J e (f e d),d,r⟩;have B:=λb o e=>J (g b o e) (by cases q:H b with|none=>rfl|some u=>have O:=j b (by rw[q];simp);subst O;rw[hK (by rw[q];simp)]at e;cases e);have hM:Rc K mg _:=⟨B,W E,⟨c,W U,S⟩,let⟨mc,h1,h2⟩:=C;⟨mc,W h1,h2⟩⟩;have e0:MC P w K mg _ QX [] _ H:=⟨rfl,hM,λb o e=>uI e,Bw (sZ _ _),trivial,λb U=>absurd (show b∈([])from U) (by simp),G,.of_eq hg⟩;show Sw ((F _ B (W E)).aca _ [] _ H _ [.ref a] [.ref a] _ _ hr e0 (Z _ _) (.cons rfl .nil) (X H l hS)) λr s' h=>?_;cases r with |error e=>show(R H e s' h).elim|ok fl=>cases fl with |next=>show HV h|brk=>show HV h|cont=>show HV h|ret u=> obtain⟨v,H',os,A,t,I,r',q⟩:=h;have q':=q;subst q';obtain rfl:u=WU _:=r';show⟨rfl,OldK.of_keep λb o e=>?_,os,A⟩;cases q:H b with |none=>show t.ab b o e q (by intro z;show absurd (show b∈([])from z) (by simp)) (by simp)|some u=>
          rcases l b with z|⟨ob,xs,z⟩;.rw[q]at z;cases z
          . have z2:=t.ql b ob _ z;obtain⟨i,_⟩:=G b _ z;obtain⟨e2,_⟩:=I b _ z2;rw[e]at i;cases i;show e2
  cases T:K.lookup a with |some o=>have e:=g a o T;rw[N]at e;cases e;show Y _ (λ_=>.inl rfl) (.inr ⟨_,_,_,T,rfl,rfl,rfl,by rw[Ie,L];show hl,by simpa using p⟩) (λb u z=>by have M:=z;cases M) (λb z=>absurd rfl z) λz=>absurd rfl z|none=>
    show Y (λb=>if b=a then AA _ else AG) (λb=>?_) (.inl (.inr ⟨{cls:=.type "list",data:=.seq vs.toArray},AEv rfl⟩)) (λb u z=>?_) (λb z=>?_) λ_=>T
    . by_cases U:b=a;.show .inr ⟨_,_,AEv U⟩
      .show .inl (AEu U)
    . by_cases U:b=a;. have M:=(AEv U).symm.trans z;cases M;subst U;show⟨N,by rw[As];show hl,vs,_,p,N⟩
      . have M:=(AEu U).symm.trans z;cases M
    . by_cases U:b=a;.show U
      .show absurd (AEu U) z
theorem yE{l:Ss}{O:CA->Bb->Prop}{d:DefRec}{K:dW->Ax}{CX:CA->Hn}{sp:CA->BO}(m:l.most=AA n)(L:n<=Ay)(E:d.params.defaults=[])(p:D9 k QX)(c:∀(w:CA)(h:Bb),O w h->(K w.params).In h)(F:∀(w:CA)(W:AF->Option AL)(A:AE)(h:Bb),(K w.params).In h->h.Ns Li W->W d.name=AA (.ref A)->∃B:Im,(∀(s:AZ)(u:AL),So s B ⟨[u],[]⟩ [(x,u)])/\∀base:Bb,(K w.params).In base->base.Ns Li W->Gy l.prog w (K w.params) W base (CX w) k A B [x] (sp w))(M:∀(w:CA)(H:AI)(a:AE)(ns:List Int),ns.length<=n->Pc H->B7 (K w.params) H a (ns.map AD.int)->sp w [.ref a] H (λv _=>v=.bl AJ) λ_ _ _=>False)(C:∀(w:CA)(H:AI)(s:AZ)(e:AL)(s':AZ),CX w [] H s (λ_ _ _=>False) e s'->False):AAK q U R O l.row.toRowW d [] (λf vs=>Ip f vs):=by show fM m E λw P Q W z A o pm r S a vs ns G Y y t i I Z J D j=>?_;have N:=c w _ Y;obtain⟨B,g,T⟩:_:=F w W A _ N G.T.g I;show tZ N G.T.g G.T.b G.T.builtins G.T.nolimit j Z J (Ah D L) p T g (λH X b=>M w H a ns D X b) λH e s'=>C w H _ e s'
theorem yF{l:Ss}{A:CA->Bb->Prop}{d:DefRec}{K:dW->Ax}{CX:Hn}{sp:Ax->BO}(N:l.most=AA n)(Y:n<=Ay)(W:d.params.defaults=[])(O:D9 k QX)(M:∀(w:CA)(h:Bb),A w h->(K w.params).In h)(F:∀(w:CA)(J:AF->Option AL)(B:AE)(h:Bb),(K w.params).In h->h.Ns Li J->J d.name=AA (.ref B)->∃C:Im,(∀(s:AZ)(u:AL),So s C ⟨[u],[]⟩ [(x,u)])/\∀base:Bb,(K w.params).In base->base.Ns Li J->Gy l.prog w (K w.params) J base CX k B C [x] (sp (K w.params)))(Z:∀(K:Ax)(H:AI)(a:AE)(ns:List Int),ns.length<=n->Pc H->B7 K H a (ns.map AD.int)->sp K [.ref a] H (λv _=>v=.bl AJ) λ_ _ _=>False)(U:∀(H:AI)(s:AZ)(e:AL)(s':AZ),CX [] H s (λ_ _ _=>False) e s'->False):AAK q D E A l.row.toRowW d [] (λf vs=>Ip f vs):=yE N Y W O M F (λw H a ns G I L=>Z _ H a ns G I L) λ_ H s e s'=>U H s e s'
def F3(s:DA)(j:Nat):DA:=match s with|.ClassDef _ _ _ body _ _ _ _ _ _ _=>body.getD j (.Pass ⟨0,0,0,0⟩)|_=>.Pass ⟨0,0,0,0⟩
def N9(s:DA):Arguments:=match s with|.FunctionDef _ a _ _ _ _ _ _ _ _=>a|_=>{posonlyargs:=[],args:=[],vararg:=AG,kwonlyargs:=[],kw_defaults:=[],kwarg:=AG,defaults:=[]}
def MJ(s:DA):List DA:=match s with|.FunctionDef _ _ b _ _ _ _ _ _ _=>b|_=>[]
def DC(s:DA):F6:=match s with|.FunctionDef _ _ _ _ _ _ D _ _ _=>D|_=>{kind:=.function,names:=[],isGenerator:=AR,isCoroutine:=AR}
abbrev BM:Hn:=λ_ _ _ _ _ _=>False
abbrev JB:F0:=λ_ _ _=>False
theorem Kq:Pe BM X JB:=λ_ _ _ _ _ _ _ h=>h.elim
structure Pa(K:Ax)(x qual:AF)(st:DA)(f:AE)(fd:Im):Prop where
 ex:∃(oc:AL)(od:Option AE)(kV doc pm:AL)(an:Option AE)(cdv ct:AL)(osl:Array (Option AL)),fd=Od x qual (N9 st) (MJ st) (DC st) .none kV doc pm an cdv ct/\K.lookup f=AA ⟨oc,od,.func fd,osl⟩/\d6 K cdv qual=AJ
 kp:Sv K (.ref f)=AJ
theorem Pa.ok{K:Ax}{st:DA}(F:Pa K x J st f B)(S:Mu N ps (DC st))(len:∀vs H Q E,sp vs H Q E->vs.length=ps.length)(W:∀(U:AL)(A:Dj)(D:List Ef)(s:AZ)(H:AI)(vs:List AD)(Q:BN)(E:F0),D9 k (A.deeper (MW J (DC st) s.heap.objs.size f U))->sp vs H Q E->∃t,GC (My BM P w K L base N J (DC st) f U A D s H E).abw (MJ st) t/\t {nx:=λ_ H'=>Q .non H',rt:=Q} (NF N vs) H):Gy P w K L base BM (k+1) f B ps sp:=by lk;obtain⟨X,a,T,C,b,O,U,R,M,rfl,I,Y⟩:=F.ex;k_in;refine sQ I Y S len λA D s H vs Q E G Z=>?_;lk;obtain⟨t,h,q⟩:=W _ A _ s H vs Q E G Z;k_in;exact⟨t,h.abw,q⟩
theorem Pa.aay{K:Ax}{st:DA}(F:Pa K x D st f B)(h:∀(Y U Z:AL)(V:Option AE)(J W:AL)(A:List AL),A.length=ps.length->AAW (Od x D (N9 st) (MJ st) (DC st) .none Y U Z V J W) ⟨A,[]⟩=Bo (ps.zip A)):MB K B ps []:=by lk;obtain⟨H,I,Y,U,Z,V,J,W,E,rfl,G,C⟩:=F.ex;k_in;exact .wz (h Y _ Z V _ W)
theorem VA{K:Ax}{st:DA}(l:K.lookup f=AA ⟨B,C,.func (Od x D (N9 st) (MJ st) (DC st) .none Z U A W J Y),V⟩)(c:d6 K J D=AJ)(k:Sv K (.ref f)=AJ):Pa K x D st f (Od x D (N9 st) (MJ st) (DC st) .none Z U A W J Y):=⟨⟨B,C,Z,U,A,W,J,Y,V,rfl,l,c⟩,k⟩
theorem Bm(i:Nat){x:AF}(U:X.N[i]?=AA x:=by rfl)(W:Rm X.ae.scope x:=by first|exact Or.inl rfl|exact Or.inr (Or.inl rfl)|exact Or.inr (Or.inr rfl))(V:(x==("__debug__":AF))=AR:=by decide)(D:(x==("__classdict__":AF))=AR:=by decide):Am X (.Name x J) (bQ i):=aJ U W V D
theorem Ds{A B:Prop}(h:B):if AR=AJ then A else B:=by exact h
theorem Jq{A B:Prop}(h:A):if AJ=AJ then A else B:=by exact h
def An(H H':AI):Prop:=∀b o,H b=AA o->H' b=AA o
theorem C6(H:AI):An H H:=λ_ _ h=>h
theorem An.aa(a:An H D)(b:An D J):An H J:=λc o h=>b c o (a c o h)
theorem An.ba(e:An H H')(h:H' l=AG):H l=AG:=by cases q:H l with|none=>rfl|some o=>rw[e l o q]at h;cases h
theorem An.wq{K:Ax}(e:An H H')(h:B7 K H a xs):B7 K H' a xs:=by
 rcases h with(h|⟨o,h⟩)|h;.exact .inl (.inl (e _ _ h))
 .exact .inl (.inr ⟨o,e _ _ h⟩)
 .exact .inr h
theorem P8{U:Type}[DecidableEq U]{kvs:List (U×AD)}{k:U}(h:BH kvs k=AG):¬k∈kvs.map (·.1):=by intro m;lk;obtain⟨p,D,e⟩:=BE.mp m;k_in;have q:(kvs.any λJ=>Aa (J.1=k))=AJ:=OO.mpr ⟨p,D,AEx e⟩;rw[NH,h]at q;exact absurd q (by simp)
theorem yC{U:Type}[DecidableEq U]{kvs:List (U×AD)}{k:U}{v:AD}(h:BH kvs k=AA v):k∈kvs.map (·.1):=by
 have q:(kvs.any λJ=>Aa (J.1=k))=AJ:=by rw[NH,h];all_goals rfl
 lk;obtain⟨p,D,e⟩:=OO.mp q;k_in;exact BE.mpr ⟨p,D,AEy e⟩
section
variable{κ:Type}[DecidableEq κ]
theorem Z0:∀{l:List κ}{k:κ},l.Nodup->¬k∈l->(l++[k]).Nodup
 |[],k,_,_=>by simp|a::r,k,h,D=>by
  obtain⟨h1,h2⟩:=IE.mp h;refine IE.mpr ⟨λm=>?_,Z0 h2 λm=>D (Ca.mpr (zI m))⟩;rcases DS.mp m with q|q;.exact h1 q
  .exact D (Ca.mpr (Fo (By.mp q).symm))
end
theorem sJ[DecidableEq D]{p:D×AD}(e:p.1=k):CM (p::r) k=CM r k:=by unfold CM;rw[Gp,AEu (by simp[e])]
theorem sI[DecidableEq D]{p:D×AD}(e:¬p.1=k):CM (p::r) k=p::CM r k:=by unfold CM;rw[Gp,AEv (by simp[e])]
theorem sH{D:Type}[DecidableEq D]{kvs:List (D×AD)}{k:D}{p:D×AD}(h:p∈CM kvs k):p∈kvs:=(DT.mp h).1
section
variable{κ:Type}[DecidableEq κ]
theorem VI:∀{kvs:List (κ×AD)}{k:κ},(kvs.map (·.1)).Nodup->((CM kvs k).map (·.1)).Nodup
 |[],_,_=>List.nodup_nil|p::r,k,h=>by
  obtain⟨h1,h2⟩:=IE.mp h;by_cases e:p.1=k;. rw[sJ e];exact VI h2
  . rw[sI e];refine IE.mpr ⟨λm=>h1 ?_,VI h2⟩;lk;obtain⟨q,J,D⟩:=BE.mp m;k_in;exact BE.mpr ⟨q,sH J,D⟩
end
theorem Dc.zj(x:Dc P w H h)(V:H a=AG)(J:De P w (AQ H a o) h a o):Dc P w (AQ H a o) h:=by
  intro b u e;by_cases D:b=a
  . subst D;rw[Af]at e;simp_all
  . rw[AX D]at e;refine(x b u e).vg (λW u2 u3 U=>U) (λc q=>?_) λc Y q=>?_;.rw[AX (by grind)];exact q
    .rw[AX (by grind)];exact q
def LV(env:Ef)(D:List (AF×AE))(x:AF×Ma):List (AF×AE):=if x.2=.free then(x.1,(env.cells.lookup x.1).getD 0)::D else D
def N8(env:Ef)(D:List (AF×Ma)):List (AF×AE):=D.foldl (LV env) []
theorem Ze{f:U->J->D6 (ForInStep J)}{g:J->U->J}:∀(l:List U)(D:J),(∀x∈l,∀c,f x c=Bo (.yield (g c x)))->IK l D f=Bo (l.foldl g D)|[],D,_=>rfl|x::l,D,h=>by rw[List.forIn_cons,h x D4 _];show IK l _ f=_;rw[Ze l _ λy V=>h y (ID V)];rfl
theorem rQ(h:∀y∈D.names,y.2=.free->∃c,env.cells.lookup y.1=AA c):AAZ D env=Bo (N8 env D.names):=by
  simp only[AAZ];rw[Ze (g:=LV env) _ [] λx Z c=>by
    obtain⟨n,J⟩:=x;by_cases V:J=.free
    . subst V;obtain⟨a,W⟩:=h _ Z rfl;have U:=W;simp only[AE9,AE2,LV,cellOf,U,Option.getD_some];rfl
    . have Y:(J==NV)=AR:=by(simpa using V)
      simp only[Y,Lk,AE0,LV,V]];rfl
theorem ZO:∀(D:List (AF×Ma))(J:List (AF×AE)),(D.foldl (LV env) J).lookup y=AA c->J.lookup y=AA c\/((y,NV)∈D/\(env.cells.lookup y).getD 0=c)
 |[],J,h=>.inl h|(n,k)::r,J,h=>by
  rcases ZO r _ h with q|⟨q,z⟩
  . unfold LV at q;grind
  simp_all
theorem U5:∀(D:List (AF×Ma))(J:List (AF×AE)),((y,NV)∈D\/∃c,J.lookup y=AA c)->∃c,(D.foldl (LV env) J).lookup y=AA c
  |[],J,h=>by simp_all|(n,k)::r,J,h=>by
    refine U5 r _ ?_;by_cases U:(y,NV)∈r;.exact Fo U
    . refine .inr ?_;rcases h with h|⟨c,h⟩
      . rcases Ca.mp h with e|e;. cases e;exact⟨_,by unfold LV;rw[AEv rfl,List.lookup_cons_self]⟩
        exact absurd e U
      . unfold LV;grind
theorem rS(I:Nat->AZ->Prop)(turn:∀n s,I n s->BB (Ar prog w) A (pyNext it) (λr J=>match r with|AG=>R (.ok .next) J|AA v=>BB (Ar prog w) A (AAe D it v) (λ_ U=>BB (Ar prog w) A (assign D env v) (λ_ Z=>BB (Ar prog w) A (IK N AJ λc r=>if r=AJ then do let P<-WW c env (Be c env);Bo (S9 P)else Bo (S9 r)) (λP V=>if P=AJ then BB (Ar prog w) A (Be H env) (λx B=>BB (Ar prog w) A (Ip (.builtin "list.append") [G,x]) (λ_ C=>∃m,m<n/\I m C) (λ_ _=>False) B) (λ_ _=>False) V else∃m,m<n/\I m V) (λ_ _=>False) Z) (λ_ _=>False) U) (λ_ _=>False) J) (λ_ _=>False) s)(n:Nat)(h:I n s):Og (Ar prog w) A (.compLoop (.ListComp H [⟨D,O,N,0⟩] F Q) 0 it G env) R s:=by refine codeAny_loop rfl I (λn s T=>?_) n h;refine wpAny_noted ?_;refine BL (AAo (BL (II (turn n s T) (λr J W=>?_) λ_ _ S=>S.elim)));cases r with|none=>exact Cp W|some v=>refine BL (II W (λ_ U E=>?_) (by simp));refine BL (II E (λ_ Z K=>BL (II K (λP V Y=>?_) (by simp))) (by simp));cases P with|false=>exact Cp ⟨rfl,Y⟩|true=>exact BL (BL (II Y (λx B L=>BL (II L (λ_ C M=>Cp (Cp ⟨rfl,M⟩)) (by simp))) (by simp)))
def LQ(X:Br)(J:List BS)(t:Dg):Prop:=∀(D:List (AE×BP))(s:AZ)(U:Ae)(H:AI)(Q:Bool->AI->Prop),Ab X D U H s->t U H Q->BB (Ar X.ag X.w) X.A (IK J AJ λc r=>if r=AJ then do let V<-WW c X.ae (Be c X.ae);Bo (S9 V)else Bo (S9 r)) (Uz X D U Q) X.xe s
def P7:Dg:=λ_ H Q=>Q AJ H
theorem Hy:LQ X [] P7:=λD s J H Q I h=>wpAny_tests_nil ⟨H,I,h⟩
theorem Jv(h:HI X c t):LQ X [c] t:=λD s J H Q I hw=>wpAny_tests_one (h _ s J H Q I hw)
def EK(X:Br)(D:F6)(N:List AF)(C:AE)(s:AZ)(H:AI)(ex:List AE):Br:={X with N:=N,s₀:=s,H₀:=H,ae:=compEnvC D (N8 X.ae D.names) C X.ae,rl:=X.df,df:=X.df,ex:=ex,fn:=λ_=>AR,pn:=[],xe:=λ_ _=>False}
def FA(σ:Ae)(j:Nat):Option AD:=(σ[j]?).getD AG
def Kd(I:Nat)(G:List Nat)(g:Ex)(L:Dg)(K:A1)(σ:Ae)(Q:BN)(J:Gh)(A:AI):Prop:=∃W:Nat->Nat->Ae->List AD->AI->Prop,(∃m,W 0 m (FO I AG++G.map (FA σ)) [] A)/\∀i m E U H,W i m E U H->(J.sj i H/\∀D,H D=AG->Q (.ref D) (AQ H D (.lst U)))\/(J.go i H/\U.length<Ay/\∀x B,J.zm i H x B->g x E B λY A=>L Y A λb C=>if b=AJ then K Y C λy F=>∃Z,Z<m/\W (i+1) Z Y (U++[y]) F else∃Z,Z<m/\W (i+1) Z Y U C)
def JL(U:Nat)(J:List Nat)(wi:GX)(g:Ex)(W:Dg)(V:A1):A1:=λD H Q=>wi D H (Kd U J g W V D Q)
theorem aX{env:Ef}:∀{D:List (AF×Ma)}{y:AF},(∀z∈D,z.2≠.cell)->((D.map λ(n,k)=>if(k==NV&&env.scope.kind==.function&&env.kindOf n==AA .cell)then(n,dU)else(n,k)).lookup y=AA .cell\/(D.map λ(n,k)=>if(k==NV&&env.scope.kind==.function&&env.kindOf n==AA .cell)then(n,dU)else(n,k)).lookup y=AA .free)->(y,NV)∈D|[],y,_,h=>by simp_all|(n,k)::r,y,J,h=>by have U:=@aX env r y (λV u2=>J _ (ID u2));grind
theorem Zx{env:Ef}:∀{D:List (AF×Ma)}{y:AF},D.lookup y=AA .free->(D.map λ(n,k)=>if(k==NV&&env.scope.kind==.function&&env.kindOf n==AA .cell)then(n,dU)else(n,k)).lookup y=AA .cell\/(D.map λ(n,k)=>if(k==NV&&env.scope.kind==.function&&env.kindOf n==AA .cell)then(n,dU)else(n,k)).lookup y=AA .free|[],y,h=>zJ _ h|(n,k)::r,y,h=>by have J:=@Zx env r y;grind
def LO(X:Br)(D:F6):List (AF×Nat)->Prop|[]=>True|p::r=>X.N[p.2]?=AA p.1/\D.names.lookup p.1=AA .free/\LO X D r
theorem LO.wz:∀{J:List (AF×Nat)},LO X D J->∀p∈J,X.N[p.2]?=AA p.1/\D.names.lookup p.1=AA .free
 |p::r,h,q,U=>by
  rcases Ca.mp U with e|e;.subst e;exact⟨h.1,h.2.1⟩
  .exact LO.wz h.2.2 q e
theorem ZQ(hc:X.gf=AJ)(hi:Gj X tg O wi)(hk:U.kind=.function)(hcell:∀y∈U.names,y.2≠.cell)(hnames:∀y∈U.names,y.2=.local->U.names.lookup y.1=AA .local)(f:∀y∈U.names,y.2=.free->X.ae.kindOf y.1=AA .cell\/X.ae.kindOf y.1=AA .free)(hfr:LO X U N)(hg:∀C s H ex,LP (EK X U (own++N.map (·.1)) C s H ex) tg g)(ht:∀C s H ex,LQ (EK X U (own++N.map (·.1)) C s H ex) ifs tt)(he:∀C s H ex,Am (EK X U (own++N.map (·.1)) C s H ex) elt te)(hs:∀x,Oh O X.ae x=Bo x)(I:Ab X P σ H s)(h:JL own.length (N.map (·.2)) wi g tt te σ H Q)(fin:∀(D C:AE)m(s4:AZ)(H5:AI)v,Ab X P σ H5 s4->s4.heap.Ns C m->H5 C=AG->C≠X.ae.locals->X.s₀.heap.objs.size<=C->(∀x c,X.ae.cells.lookup x=AA c->c≠C)->(∀p∈X.pn++P,p.1≠C)->Q (.ref D) H5->compPost (Ar X.ag X.w) X.A X.xe use PQ (.ref D) C (.ok v) s4):BB (Ar X.ag X.w) X.A (comprehension (.ListComp elt [⟨tg,O,ifs,0⟩] U pos) U X.ae p0 (newList []) AR (Be O X.ae) use) PQ X.xe s:=by
  have d:∀y c,(N8 X.ae U.names).lookup y=AA c->X.ae.cells.lookup y=AA c:=λy c e=>by
    rcases ZO U.names [] e with q|⟨q,z⟩;.simp at q
    . obtain⟨c',e'⟩:=I.ok.abk y (f _ q rfl);rw[e']at z;rw[e',<-z];rfl
  have hclos:AAZ U X.ae=Bo (N8 X.ae U.names):=rQ λy hy e=>I.ok.abk y.1 (f y hy e);refine wpAny_comprehension_free (use:=use) (cl:=N8 X.ae U.names) (Q:=PQ) rfl hs hclos hk hnames ?_;refine BD (hi P s σ H _ I h) λv s1 h1=>BD h1 λitv s2 h2=>?_;lk;obtain⟨it,L,tn,J,R,e,Z,T,st2,f2,W,⟨m0,w0⟩,turn⟩:=h2;k_in;subst e;refine AAn (wpAny_newFunctionEnv hcell (by intro y hy;simp at hy) (λh₁ E A=>?_) hk);dsimp only at E A⊢;generalize hH2:s2.heap.push _=HL at E A⊢;have hC:HL.objs.size=s2.heap.objs.size+1:=by rw[<-hH2,AAD]
  generalize hCC:HL.objs.size=C at E A hC⊢;have hDC:s2.heap.objs.size≠C:=by rw[hC];exact Ee (JQ _)
  have G:∀b,b<s2.heap.objs.size->b≠C/\b≠s2.heap.objs.size:=λb Y=>⟨by rw[hC];exact Ee (y9 Y),Ee Y⟩;have old:=λb o e=>A.extBut b o (G b (Cw e)).1 (DN _ (hH2▸DN _ e));have eD0:=A.extBut _ _ hDC (DN _ (hH2▸Gu _ rfl));have t:∀b∈L,b<s2.heap.objs.size:=λb Y=>by obtain⟨o,e,_⟩:=T.cg _ _ st2 b Y;exact Cw e
  generalize hD:s2.heap.objs.size=D at hDC G eD0 t hC;have hDfp:D∉L:=λz=>J4 _ (t D z);have okY:(EK X U (own++N.map (·.1)) C s2 R L).Ok:=by
    refine⟨Z.ok.uv,hk,Z.ok.vb,Z.ok.aav,by show s2.heap.objs.size<=C;simp_all,λx y c e1 e2=>Z.ok.yl x y c (d x c e1) (d y c e2),λy hy=>?_,λx c z _=>(by cases z),Z.ok.hd,Z.ok.kj,.inl rfl,λb Y=>⟨(G b (t b Y)).1,λy c e=>?_⟩,Z.bs,Ah Z.ok.zp Z.sz,λb o e Y=>?_,λb Y z=>?_,Z.df,Z.yi⟩;.exact U5 U.names [] (.inl (aX (env:=X.ae) hcell hy))
    .exact(f2 b Y).2.2.2.2.1 y c (d y c e)
    . rcases(f2 b Y).2.2.2.1 with z|z;.exact Z.ok.zd b o e z
      .exact absurd (Bh (Cw e) (Ah Z.ok.zp z)) (J4 _)
    . rcases Ca.mp (Z.vh b z)with q|q;.exact(f2 b Y).2.1 q
      .exact(f2 b Y).2.2.1 q
  have j:∀y c,X.ae.cells.lookup y=AA c->c<D:=λy c e=>by obtain⟨v,z⟩:=Z.nv y c e;exact Bh z.lt (Bw hD)
  have stkLt:∀b∈G0 X.df,b<D:=λb Y=>by
    rcases Ca.mp (Z.vh b Y)with q|q;.rw[q];exact Bh Z.lt (Bw hD)
    . obtain⟨_,o,ho,_⟩:=Z.ok.oj.mem q;exact Bh (Cw ho) (Ah Z.sz (Bw hD))
  have S:∀a,D<=a->R a=AG:=λa ha=>Z.cj.bz (Ah (Bw hD) ha);have IY:Ab (EK X U (own++N.map (·.1)) C s2 R L) [] (FO own.length AG++(N.map (·.2)).map (FA σ)) R {s2 with heap:=h₁,toks:=s2.toks+([]:List (AF×AL)).length}:=by
    refine⟨okY,rfl,Z.ir,Rk old,⟨_,E,λi y v e1 e2 e3=>?_⟩,λy c e=>?_,S C (by simp_all),λy c e=>Z.il y c (d y c e),λp M=>absurd (show p∈([]:List (AE×BP))from M) (by simp),Z.cj.gw old,?_⟩
    . have e1:(own++N.map (·.1))[i]?=AA y:=e1;have hi':own.length<=i:=by
        by_cases hlt:i<own.length
        . rw[OP (by simpa using hlt),ABl,AEv hlt]at e2;cases e2
        .simp_all
      rw[QA hi',Bs]at e1;rw[QA (by simpa using hi'),Bs,Bs,ABo]at e2;cases M:N[i-own.length]? with|none=>rw[M]at e1;cases e1|some p=>
        rw[M]at e1 e2;have ey:p.1=y:=B9 e1;have ev:FA σ p.2=AA v:=B9 e2;obtain⟨a1,a3⟩:=hfr.wz p (Cg M);have es:σ[p.2]?=AA (AA v):=by unfold FA at ev;cases q:σ[p.2]? with|none=>rw[q]at ev;cases ev|some z=>rw[q]at ev;exact AEw AA ev
        have hfk:=f (p.1,.free) (QZ a3) rfl;obtain⟨m,hn,hl⟩:=Z.xf;obtain⟨u,r,l⟩:=hl p.2 p.1 v a1 es (hfk.elim (λz=>.inr (.inl z)) λz=>.inr (.inr z));refine⟨u,r,.inr ?_⟩;rcases l with⟨z,_⟩|⟨_,c,ec,zc⟩;.rcases hfk with q|q<;>rw[z]at q<;>cases q
        . obtain⟨c',ec'⟩:=U5 (env:=X.ae) (y:=p.1) U.names [] (.inl (QZ a3));have:c'=c:=B9 ((d _ _ ec').symm.trans ec);subst this;rw[<-ey];obtain⟨o,ho,hdd⟩:=zc;exact⟨Zx (env:=X.ae) a3,c',ec',o,old _ o ho,hdd⟩
    . obtain⟨v,z⟩:=Z.nv y c (d y c e);obtain⟨o,ho,hdd⟩:=z;exact⟨v,o,old _ o ho,hdd⟩
    . show(FO own.length (AG:Option AD)++(N.map (λp=>p.2)).map (FA σ)).length=(own++N.map (λp=>p.1)).length;simp
  have fpY:∀{w:AI}{ob:BP},(∀b∈L,w b=AG)->∀b∈L,Jm (EK X U (own++N.map (·.1)) C s2 R L) [(D,ob)] w b:=λ{w ob}hn b Y=>⟨hn b Y,(G b (t b Y)).1,λz=>okY.yx b Y z,.inl Y,λy c e=>(okY.acu b Y).2 y c e,λp M=>by
      have e:p=(D,ob):=by simpa[EK]using M
      rw[e];show D≠b;exactλz=>hDfp (z▸Y)⟩;have noC:∀(xs:Array AL)(k:Nat)(v:Option AL),({cls:=.type "list",data:=.seq xs k}:BP).data≠.cell v:=λxs k v z=>by cases z
  have loop:∀s₃:AZ,s₃={s2 with heap:=h₁,toks:=s2.toks+([]:List (AF×AL)).length}->Og (Ar X.ag X.w) X.A (.compLoop (.ListComp elt [⟨tg,O,ifs,0⟩] U pos) 0 (.ref it) (.ref D) (compEnvC U (N8 X.ae U.names) C X.ae)) (compPost (Ar X.ag X.w) X.A X.xe use PQ (.ref D) C) s₃:=by
    rintro s₃ rfl;refine rS (λn s'=>∃(i:Nat)(τ:Ae)(K:List AD)(H':AI)(B:List AL)(k:Nat),Ab (EK X U (own++N.map (·.1)) C s2 R L) [] τ H' s'/\tn i s'.heap/\(∀b∈L,H' b=AG)/\H' D=AG/\Bk K B/\s'.heap.get? D=AA {cls:=.type "list",data:=.seq B.toArray k}/\K.length<=Ay/\W i n τ K H') ?_ m0 ⟨0,_,[],R,[],0,IY,T.ab _ _ _ st2 λb _ o e=>old b o e,λb Y=>(f2 b Y).1,S D (Ak _),.nil,eD0,BY _,w0⟩;rintro n s3⟨i,τ,K,w,B,k,I3,st3,fr3,fD,rv,eD,hz,w3⟩;have I3':Ab (EK X U (own++N.map (·.1)) C s2 R L) [(D,{cls:=.type "list",data:=.seq B.toArray k})] τ w s3:=I3.ic λp M=>by
      have e:=by simpa using M
      subst e;exact⟨eD,fD,hDC,λz=>J4 _ (stkLt D z),noC _ _⟩
    rcases turn i n τ K w w3 with⟨stop,qn⟩|⟨go,hlt,step⟩
    . refine BD (T.uy (EK X U (own++N.map (·.1)) C s2 R L) rfl rfl rfl hc i _ s3 τ w (λ_ _=>False) I3' (fpY fr3) st3 stop) λr s4 hh11=>?_;obtain⟨hr,I4⟩:=hh11;subst hr;obtain⟨m,hn4,_⟩:=I4.xf;obtain⟨eD4,fD4,_⟩:=I4.uh (D,{cls:=.type "list",data:=.seq B.toArray k}) (Fj _ (By.mpr rfl));have b4:Hu (G0 X.df) L R w s2.heap s4.heap:=I4.ar;have lt2:∀b o,s2.heap.get? b=AA o->b≠C/\b≠D:=λb o e=>G b (Bh (Cw e) (Bw hD));have tr2:∀b o,R b=AA o->b≠D:=λb o e z=>by have:=S D (Ak _);rw[z,this]at e;cases e
      have un:Hu (G0 X.df) L R (AQ w D (.lst K)) s2.heap s4.heap:=by
        refine⟨λb o e n Y hx=>b4.ab b o e n Y hx,λb o e n Y hx=>?_,λb o e n hx=>?_,λb o e hx=>?_,λb xs e=>?_,λb o u e=>?_,λb ps e=>?_⟩
        . obtain⟨sl,q⟩:=b4.ui b o e n Y hx;exact⟨sl,q⟩
        .rw[AX (lt2 b o e).2];exact b4.ba b o e n hx
        . obtain⟨o',q⟩:=b4.nq b o e hx;exact⟨o',q⟩
        .rw[AX (tr2 _ _ e)];exact b4.vm b xs e
        .rw[AX (tr2 _ _ e)];exact b4.ql b o u e
        .rw[AX (tr2 _ _ e)];exact b4.vk b ps e
      have hok':Dc X.ag X.w (AQ w D (.lst K)) s4.heap:=I4.cj.zj fD4 ⟨hz,B,k,rv,eD4⟩;have IX:Ab X P σ (AQ w D (.lst K)) s4:=Z.yw (s':=s4) (ch:=L) I4.os un hok' I4.ir λb Y=>⟨(f2 b Y).2.2.2.1,(f2 b Y).2.1,(f2 b Y).2.2.2.2.1,(f2 b Y).2.2.2.2.2⟩;have hHC:w C=AG:=I4.ba;have noCD:∀b:AE,b<D->C≠b:=λb Y z=>by rw[<-z,hC]at Y;exact J4 D (IF Y)
      have hCL:C≠X.ae.locals:=noCD _ (Bh Z.lt (Bw hD));refine fin D C m s4 _ _ IX hn4 (by rw[AX hDC.symm];exact hHC) hCL (Ah Z.sz (by simp_all)) (λz c e q=>?_) (λp M q=>?_) (qn D fD4);.exact noCD _ (j z c e) q.symm
      .exact noCD _ (Bh (Cw (Z.uh p M).1) (Bw hD)) q.symm
    . refine BD (T.vc (EK X U (own++N.map (·.1)) C s2 R L) rfl rfl rfl hc i _ s3 τ w (λ_ _=>False) I3' (fpY fr3) st3 go) λr s4 hh21=>?_;obtain⟨u,hr,h4⟩:=hh21;subst hr;refine BD h4 λ_ s5 hh31=>?_;obtain⟨x,H5,I5,r5,y5,st5,fr5⟩:=hh31;have I5':=I5.zf (fpY fr5) (T.cg _ _ st5);refine BD (hg _ _ _ _ _ s5 τ H5 x u _ I5' r5 (step x H5 y5)) λ_ s6 hh41=>?_;obtain⟨τ6,H6,I6,q6⟩:=hh41;refine BD (ht _ _ _ _ _ s6 τ6 H6 _ I6 q6) λb s7 hh51=>?_;obtain⟨H7,I7,q7⟩:=hh51;have facts:∀{s8:AZ}{H8:AI}{τ8:Ae},Ab (EK X U (own++N.map (·.1)) C s2 R L) ([(D,{cls:=.type "list",data:=.seq B.toArray k})]++SI L s5.heap) τ8 H8 s8->tn (i+1) s8.heap/\(∀b∈L,H8 b=AG)/\H8 D=AG/\s8.heap.get? D=AA {cls:=.type "list",data:=.seq B.toArray k}:=λ{s8 H8 τ8}I8=>by
        have M:∀b∈L,∀o,s5.heap.get? b=AA o->s8.heap.get? b=AA o/\H8 b=AG:=λb Y o e=>by have q:=I8.uh (b,o) (Fj _ (Fj _ (VH Y e)));exact⟨q.1,q.2.1⟩
        have qD:=I8.uh (D,{cls:=.type "list",data:=.seq B.toArray k}) (Fj _ (Ic _ (By.mpr rfl)));refine⟨T.ab _ _ _ st5 λb Y o e=>(M b Y o e).1,λb Y=>?_,qD.2.1,qD.1⟩;obtain⟨o,e,_⟩:=T.cg _ _ st5 b Y;exact(M b Y o e).2
      cases b with |false=> obtain⟨m',hm,w7⟩:=q7;obtain⟨z1,z2,z3,z4⟩:=facts I7;exact⟨m',hm,i+1,τ6,K,H7,B,k,I7.ic λp M=>absurd M (by simp),z1,z2,z3,rv,z4,hz,w7⟩|true=>
        refine BD (he _ _ _ _ _ s7 τ6 H7 _ I7 q7) λu8 s8 hh61=>?_;obtain⟨y,H8,I8,r8,m',hm,w8⟩:=hh61;obtain⟨z1,z2,z3,z4⟩:=facts I8;have hl:=rv.ao;refine Of AAA ⟨_,z4,rfl⟩ ACg (ACc _ _) (ADZ D B.toArray k u8 (by rw[Ie];exact Ah (Bw hl.symm) (B6 hlt))) ⟨z4,?_⟩;have z5:=ACv z4 (·.push u8);have z6:B.toArray.push u8=(B++[u8]).toArray:=by simp
        rw[z6]at z5;have kk:∀b o,b≠D->s8.heap.get? b=AA o->(s8.heap.update D (Em (·.push u8))).get? b=AA o:=λb o Y e=>(ACu s8.heap (Em (·.push u8)) (Gb Y)).trans e;have I8':Ab (EK X U (own++N.map (·.1)) C s2 R L) [] τ6 H8 s8:=I8.ic λp M=>absurd M (by simp);refine⟨m',hm,i+1,τ6,K++[y],H8,B++[u8],_,I8'.dh (it:=D) kk z3 hDC (.inr (by show s2.heap.objs.size<=D;exact Bw hD)) (λy c e=>Ee (j y c (d y c e))) (λp M=>absurd (show p∈([]:List (AE×BP))from M) (by simp)),?_,z2,z3,rv.nu (.cons r8 .nil),z5,?_,w8⟩;.exact T.ab _ _ _ z1 λb Y o e=>kk b o (λz=>hDfp (z▸Y)) e
        .rw[B8,yQ];assumption
  exact codeAny_compStart_list (loop _ rfl) (T.wo X.A 0 _ _ _ (T.ab _ _ _ st2 λb _ o e=>old b o e) (loop _ rfl))
theorem aF(c:X.gf=AJ)(hi:Gj X G U wi)(i:J.kind=.function)(W:∀y∈J.names,y.2≠.cell)(V:∀y∈J.names,y.2=.local->J.names.lookup y.1=AA .local)(Y:∀y∈J.names,y.2=.free->X.ae.kindOf y.1=AA .cell\/X.ae.kindOf y.1=AA .free)(E:LO X J A)(f:∀C s H ex,LP (EK X J (own++A.map (·.1)) C s H ex) G g)(l:∀C s H ex,LQ (EK X J (own++A.map (·.1)) C s H ex) B M)(d:∀C s H ex,Am (EK X J (own++A.map (·.1)) C s H ex) Z L)(k:∀x,Oh U X.ae x=Bo x:=by intro _;rfl):Am X (.ListComp Z [⟨G,U,B,0⟩] J F) (JL own.length (A.map (·.2)) wi g M L):=by intro K s t H Q I h;exact ZQ c hi i W V Y E f l d k I h λD C m s4 p v N j S T O P R q=>⟨m,j,λr n=>⟨.ref D,_,N.dh (λb o a e=>(n.2 b a).trans e) S T (.inr O) P R,rfl,q⟩⟩
theorem Py{K:A1}(Z:List (AF×Nat))(M:X.gf=AJ)(hi:Gj X (.Name x I) J wi)(P:X.ae.scope=osc)(O:D.kind=.function)(V:∀y∈D.names,y.2≠.cell)(U:∀y∈D.names,y.2=.local->D.names.lookup y.1=AA .local)(W:∀y∈D.names,y.2=.free->osc.names.lookup y.1=AA .cell\/osc.names.lookup y.1=AA .free)(B:LO X D Z)(G:D.names.lookup x=AA .local)(E:(x::Z.map (·.1)).Nodup)(R:∀C s H ex,LQ (EK X D (x::Z.map (·.1)) C s H ex) A L)(N:∀C s H ex,Am (EK X D (x::Z.map (·.1)) C s H ex) Y K)(Q:∀x,Oh J X.ae x=Bo x:=by intro _;rfl):Am X (.ListComp Y [⟨.Name x I,J,A,0⟩] D F) (JL 1 (Z.map (·.2)) wi (G1 0) L K):=aF (own:=[x]) M hi O V U (λy S e=>by show X.ae.scope.names.lookup _=_\/X.ae.scope.names.lookup _=_;rw[P];exact W y S e) B (λC s H ex=>Js E rfl (.inl (Oj G)) (.inr (Oj G))) R N Q
theorem rV{K:A1}(xs:List AD)(p:AD->Bool)(f:AD->AD)(b:xs.length<=Ay)(Z:∀i,i<xs.length->J.go i H)(B:J.sj xs.length H)(a:∀i x H',i<xs.length->J.zm i H x H'->H'=H/\xs[i]?=AA x)(E:∀x(R:Bool->AI->Prop),x∈xs->R (p x) H->L (AA x::Y.map (FA σ)) H R)(C:∀x(R:BN),x∈xs->p x=AJ->R (f x) H->K (AA x::Y.map (FA σ)) H R)(T:∀D,H D=AG->Q (.ref D) (AQ H D (.lst ((xs.filter p).map f)))):Kd 1 Y (G1 0) L K σ Q J H:=by
  refine⟨λi m M W H'=>m=xs.length-i/\i<=xs.length/\H'=H/\(∃o,M=o::Y.map _)/\W=(((xs.take i).filter p).map f),⟨xs.length,by simp,BY _,rfl,⟨_,rfl⟩,rfl⟩,?_⟩;intro i m M W H' S;lk;obtain⟨rfl,X,rfl,⟨o,rfl⟩,rfl⟩:=S;k_in;by_cases U:i<xs.length
  . refine .inr ⟨Z i U,?_,λx N y=>?_⟩
    . rw[As];have P:((xs.take i).filter p).length<=(xs.take i).length:=D3 _ _;rw[El]at P;lia
    . obtain⟨O,F⟩:=a i x N U y;subst O;have I:=Cg F;refine E x _ I ?_;have G:=take_succ_filter p xs i x F;cases A:p x with |true=> refine C x _ I A ⟨_,JR _ _ U,rfl,U,rfl,⟨_,rfl⟩,?_⟩;rw[G,A];simp|false=> refine⟨_,JR _ _ U,rfl,U,rfl,⟨_,rfl⟩,?_⟩;rw[G,A];simp
  . have e:=Fm X (Ga U);subst e;rw[GI];exact .inl ⟨B,T⟩
theorem rW{K:Ax}(p:AD->Bool)(f:AD->AD)(U:B7 K H a xs)(E:xs.length<=Ay)(Y:∀x(R:Bool->AI->Prop),x∈xs->R (p x) H->A (AA x::J.map (FA σ)) H R)(W:∀x(R:BN),x∈xs->p x=AJ->R (f x) H->Z (AA x::J.map (FA σ)) H R)(B:∀D,H D=AG->Q (.ref D) (AQ H D (.lst ((xs.filter p).map f)))):Kd 1 J (G1 0) A Z σ Q (Kf K a) H:=rV xs p f E (λi C=>⟨xs,xs[i],U,by simp[C]⟩) ⟨xs,U,Ak _⟩ (λi x F _ y=>⟨y.1,y.2 xs U⟩) Y W B
def wA:AD->Option Int->Option Int->AI->BN->Prop:=λx J D H Q=>Jn (λz=>x=.str z) (λz=>z.length<=Ay) (λz=>Q (.str (Lg z J D)) H)
theorem aB(p:NU v o):∃l:Option (Int×J9),v=partValue l/\l.map (·.1)=o:=by cases p with|none=>exact⟨AG,rfl,rfl⟩|int i t=>exact⟨AA (i,t),rfl,rfl⟩
theorem bB:N5 X wA:=by intro D s K H x v E G A Z B Q I Y J V W h;lk;obtain⟨z,rfl,U,q⟩:=h;obtain⟨t,rfl⟩:=Y;obtain⟨l,rfl,rfl⟩:=aB V;obtain⟨u,rfl,rfl⟩:=aB W;k_in;exact⟨"str",_,F.slot_str_getitem.lookup,AAi _ _ _,wpAny_getItem_str_slice (l:=l) (u:=u) (st:=AG) J rfl (post_val_or_str ⟨Ah (Txt.slice_le z _ _) U,λC k=>⟨.str _,H,I.gm _,⟨_,rfl⟩,q⟩⟩)⟩
theorem ZJ{K:Ax}(J:X.K=K:=by rfl):Fx X (.builtin "isinstance") (λxs H Q=>∃x n t b,xs=[x,.ty n]/\IV K H x t/\ADK K t (.type n)=AA b/\Q (.bl b) H):=by subst J;intro D s B H xs A Q I r h;lk;obtain⟨x,n,t,b,rfl,W,e,q⟩:=h;obtain⟨u,Y,rfl,V,U⟩:=Vs r;cases(show Y=AAJ n from U);k_in;exact tJ I V W e λZ=>⟨.bl b,H,I.gm _,rfl,q⟩
mutual inductive DZ(K:Ax)(H:AI):AD->DG->Prop where|non:DZ K H .non .none|bl(b:Bool):DZ K H (.bl b) (.bool b)|int(i:Int):DZ K H (.int i) (.int i)|str(x:AF):DZ K H (.str x) (.str x)|lst{a:AE}{xs:List AD}{ds:List DG}:B7 K H a xs->FI K H xs ds->DZ K H (.ref a) (.list ds)|tup{a:AE}{xs:List AD}{ds:List DG}:Cm K H a xs->FI K H xs ds->DZ K H (.ref a) (.tuple ds)inductive FI(K:Ax)(H:AI):List AD->List DG->Prop where|nil:FI K H [] []|cons{x:AD}{d:DG}{xs:List AD}{ds:List DG}:DZ K H x d->FI K H xs ds->FI K H (x::xs) (d::ds)end
section
variable{X:Br}{pins:List (AE×BP)}{σ:Ae}{H:AI}{s:AZ}
mutual theorem DZ.yg(I:Ab X pins σ H s):∀{x:AD}{d:DG}{u:AL},DZ X.K H x d->Bj x u->∃D,Reads s.heap u d D|_,_,_,.non,r=>by cases(by assumption);exact⟨_,.none⟩|_,_,_,.bl b,r=>by cases(by assumption);exact⟨_,.bool b⟩|_,_,_,.int i,r=>by obtain⟨t,rfl⟩:=r;exact⟨_,.int i t⟩|_,_,_,.str x,r=>by obtain⟨t,rfl⟩:=r;exact⟨_,.str x t⟩|_,_,_,.lst J ds,r=>by lk;cases r;obtain⟨U,Y,W,_⟩:=I.gh J;obtain⟨D,q⟩:=Uo I ds Y;obtain⟨o,e,c,n,d⟩:=W.isList;k_in;exact⟨_,.list e c d (by simpa using q)⟩|_,_,_,.tup J ds,r=>by lk;cases r;obtain⟨U,Y,W,_⟩:=I.ff J;obtain⟨D,q⟩:=Uo I ds Y;obtain⟨o,e,c,n,d⟩:=W;k_in;exact⟨_,.tuple e c d (by simpa using q)⟩theorem Uo(I:Ab X pins σ H s):∀{xs:List AD}{ds:List DG}{Z:List AL},FI X.K H xs ds->Bk xs Z->∃D,ReadsAll s.heap Z ds D|_,_,_,.nil,r=>by cases r;exact⟨_,.nil⟩|_,_,_,.cons d ds,r=>by cases r with|cons r1 r2=>lk;obtain⟨D,q⟩:=DZ.yg I d r1;obtain⟨A,p⟩:=Uo I ds r2;k_in;exact⟨_,.cons q p⟩end
end
def SJ(K:Ax):EJ:=λx y H Q=>Kj (λd e=>DZ K H x d) (λ_ e=>DZ K H y e) (λd _=>F7 d=AJ) (λ_ e=>F7 e=AJ) (λd e=>Q (.bl (Ob d e)) H)
def SN(K:Ax):EJ:=λx y H Q=>Kj (λd e=>DZ K H x d) (λ_ e=>DZ K H y e) (λd _=>F7 d=AJ) (λ_ e=>F7 e=AJ) (λd e=>Q (.bl (!Ob d e)) H)
theorem LW{K:Ax}(W:X.A.units+64<GL)(J:X.K=K:=by rfl):Cf X (FF .Eq) (SJ K):=by subst J;intro D s F H x y v u Q I Y Z h;lk;obtain⟨d,e,U,V,A,B,q⟩:=h;obtain⟨C,r1⟩:=U.yg I Y;obtain⟨E,r2⟩:=V.yg I Z;k_in;exact eq_dataH r1 r2 A B W ⟨.bl _,H,I,rfl,q⟩
theorem NB{K:Ax}(W:X.A.units+64<GL)(J:X.K=K:=by rfl):Cf X (FF .NotEq) (SN K):=by subst J;intro D s F H x y v u Q I Y Z h;lk;obtain⟨d,e,U,V,A,B,q⟩:=h;obtain⟨C,r1⟩:=U.yg I Y;obtain⟨E,r2⟩:=V.yg I Z;k_in;exact ne_dataH r1 r2 A B W ⟨.bl _,H,I,rfl,q⟩
theorem JC{V:Type}(xs:List V)(n:Int)(Y:(xs.length:Int)=n)(D:0<n)(c:Int):∃v,DL xs (c%n)=AA v/\v∈xs:=by have J:0<=c%n:=HW _ (K7 D);have W:c%n<n:=JS _ D;obtain⟨j,U⟩:=Int.eq_ofNat_of_zero_le J;refine⟨xs[j],?_,(by simp)⟩;rw[U];exact Aj (by simp)
theorem MM{c:Bool}{A B:Prop}(D:c=AJ->A)(J:c=AR->B):if c=AJ then A else B:=by simp_all
theorem An.du(e:An H H')(h:H' a=AG):An H (AQ H' a o):=λb u q=>by rw[AX (Bg (e b u q) h)];exact e b u q
theorem MN{K:Ax}(D:X.K=K:=by rfl):N0 X (aN K):=by subst D;exact tN
theorem JE{K:Ax}(D:X.K=K:=by rfl):N0 X (aQ K):=by subst D;exact tO
theorem La{K:Ax}(D:X.K=K:=by rfl):N5 X (aR K):=by subst D;exact wK
theorem SR{K:Ax}(D:X.K=K:=by rfl):N5 X (Vh K):=by subst D;exact wL
theorem VO{K:Ax}(D:X.K=K:=by rfl):Cf X (FF .In) (SM K AR):=by subst D;exact uO
theorem uV{K:Ax}(D:X.K=K:=by rfl):Cf X (FF .NotIn) (SM K AJ):=by subst D;exact uU
theorem OF{K:Ax}(D:X.K=K:=by rfl):Cf X (G6 .Add) (Ve K):=by subst D;exact uL
theorem ZK{K:Ax}(D:X.K=K:=by rfl):Fx X (.builtin "len") (λxs H Q=>∃p ys,xs=[.ref p]/\(B7 K H p ys\/Cm K H p ys)/\Q (.int ys.length) H):=by subst D;exact rH
theorem Rr{K:Ax}(D:X.K=K:=by rfl):Fx X (.type "list") (λxs H Q=>∃p ys,xs=[.ref p]/\(B7 K H p ys\/Cm K H p ys)/\∀l,H l=AG->Q (.ref l) (AQ H l (.lst ys))):=by subst D;exact rK
theorem Cn{K:Ax}(J:Am X l tl)(D:X.K=K:=by rfl):Gj X U l (Kk K tl):=by subst D;exact vI J
theorem aE{K:Ax}{D:AF}{id:String}(G:dX T)(Z:Slot T D id)(A:eM (.builtin id)=Bo (.type "method_descriptor"))(E:N2 X id r)(F:Am X o B)(C:X.K=K:=by rfl)(W:KA o D X.ae (Be o X.ae)=Be o X.ae:=by rfl)(Y:(J.endLine==U.line)=AJ:=by rfl):Am X (.Call (.Attribute o D J) [] [] U) (bG K T r B):=by subst C;exact vA G Z A E F W Y
theorem Kr{K:Ax}{J:AF}{id:String}(N:dX T)(C:Slot T J id)(E:eM (.builtin id)=Bo (.type "method_descriptor"))(I:N2 X id r)(L:Am X o F)(H:Gi X (e::Y) t)(G:X.K=K:=by rfl)(Z:KA o J X.ae (Be o X.ae)=Be o X.ae:=by rfl)(B:((Gd D (Co (e::Y) X.ae)).all (λx=>!x.1)&&(QS D (QY [] X.ae)).all (λx=>x.1.isSome)&&Aa ((e::Y).length+([]:List MZ).length+(if([]:List MZ).isEmpty then 0 else 1)<30))=AJ:=by rfl)(A:(W.endLine==D.line)=AJ:=by rfl)(M:Co (e::Y) X.ae=(AR,Be e X.ae)::Co Y X.ae:=by rfl)(U:(Gd D (Co Y X.ae)).any (·.1)=AR:=by rfl):Am X (.Call (.Attribute o J W) (e::Y) [] D) (Vm K T r F t):=by subst G;exact u9 N C E I L H Z B A M U
def vZ(K:Ax):EJ:=λx y H Q=>N7 (λa b D=>x=.ref a) (λ_ b _=>y=.ref b) (λa _ D=>B7 K H a D) (λ_ b _=>B7 K H b []) (λ_ _ D=>Q (.bl (!D.isEmpty)) H)
theorem uT{K:Ax}(D:X.A.units<GL)(Z:X.K=K:=by rfl):Cf X (FF .NotEq) (vZ K):=by subst Z;intro W s M H x y v u Q I F G h;lk;obtain⟨a,b,L,rfl,rfl,A,B,q⟩:=h;cases F;cases G;obtain⟨E,r1,U,_⟩:=I.gh A;obtain⟨J,r2,V,_⟩:=I.gh B;cases r2;k_in;have C:=r1.ao;cases L with|nil=>cases r1;exact AEo (e:=λ_=>AJ) U.isList V.isList rfl D (λj Y _=>absurd Y (by simp)) _ _ _ _ ⟨.bl AR,H,I,rfl,q⟩|cons x r=>refine AEp U.isList V.isList ?_ D _ _ _ _ ⟨.bl AJ,H,I,rfl,q⟩;rw[Ie,<-C];rfl
theorem D9.u1(r:D9 k A):A.units+1<GL:=by have:=r.un;lia
def Ny(lo d:Int)(n:Nat):Gh:=⟨λi _=>i<n,λi H x D=>D=H/\x=.int (lo+(i:Int)*d),λi _=>n<=i⟩
theorem xY{K:Ax}(it:AE)(lo d:Int)(n:Nat):MH P w K c (Ny lo d n) [it] it (λi h=>dR h it (lo+(i:Nat)*d) ((n:Int)-(i:Nat)) d)where
 aal:=by simp
 cg:=(by simp_all)
 ab:=(λf u2 u3 L M=>M _ D4 _ L)
 vc:=by intro X Q hw O C i D s R H E I F J G;subst Q hw O;lk;obtain⟨V,Y,T,Z,A,B⟩:=F it (by simp);k_in;have W:=ADQ (prog:=X.ag) (w:=X.w) (I.ok.hd C) it lo d n;refine W.item i s _ _ G J λv N e a U b=>?_;obtain⟨t,rfl⟩:=a;have S:Ab X _ R H {s with heap:=N,toks:=e}:=I.dh (λf u2 u3 L=>b _ _ (OX u3 (λM=>By.mp M)) L) V Y Z A B;exact⟨_,rfl,Pm U rfl rfl (by decide) ⟨.int _,H,S,⟨t,rfl⟩,⟨rfl,rfl⟩,U,(by(simp[*]))⟩⟩
 uy:=by intro X Q hw O C i D s R H E I F J G;lk;obtain⟨V,Y,T,Z,A,B⟩:=F it (by simp);k_in;exact ADs (I.ok.hd C) J (by have:=G;exact ABV (TH.mp this)) λN g=>⟨rfl,I.dh (by assumption) V Y Z A B⟩
 wo:=λ_ _ _ _ _ J h=>ADr J h
def F5(lo hi d:Int):Nat:=if lo<hi then((hi-lo-1)/d+1).toNat else 0
theorem SQ{lo:Int}(D:1<=d):dM lo hi d=(F5 lo hi d:Int):=by
 unfold dM F5;rw[AEv (by assumption)];split
 . have:0<=(hi-lo-1)/d:=ABF (by lia) (K6 D);exact Int.eq_natCast_toNat.mpr (ABG this)
 .rfl
theorem bV{lo:Int}(J:1<=d):(F5 lo hi d:Int)<=(if lo<hi then hi-lo else 0):=by
 unfold F5;split
 . have D:(hi-lo-1)/d<=hi-lo-1:=Int.ediv_le_self _ (by lia);omega
 simp
theorem wO(D:1<=c)(V:c<1000000)(W:-(2^40)<=a)(J:a<2^40)(Y:-(2^40)<=b)(U:b<2^40):dN a b c=AJ:=by have h:=bV (lo:=a) (hi:=b) D;have Z:=SQ (lo:=a) (hi:=b) D;unfold dN;simp only[ACV,Qn,ABC,AE1,AE5,show c>0 by assumption,AE2];(constructor<;>lia)
theorem wC{K:BS}{lo:Int}(I:Ab X D σ H s)(U:1<=d)(W:d<1000000)(A:-(2^40)<=lo)(B:lo<2^40)(C:-(2^40)<=hi)(F:hi<2^40)(q:R (Ny lo d (F5 lo hi d)) H):BB (Ar X.ag X.w) X.A (eK (.ref s.heap.objs.size)) (Uv X D σ K R) E {s with heap:=s.heap.push {cls:=.type "range",data:=.fields #[.int lo t,.int hi u,.int d v]},toks:=V}:=by
  refine ADq (AAE ..) (wO U W A B C F) ?_;have J:Ab X _ σ H {s with heap:=s.heap.push {cls:=.type "range",data:=.fields #[.int lo t,.int hi u,.int d v]},toks:=V}:=I.gw λb o e=>DN _ e;refine⟨_,_,_,_,H,rfl,J.gw λb o e=>DN _ e,xY _ lo d _,?_,λb G=>?_,q⟩
  . have Y:lo+((0:Nat))*d=lo:=by simp
    have Z:((F5 lo hi d))-((0:Nat))=dM lo hi d:=by rw[SQ U];rfl
    show dR _ _ _ _ d;rw[Y,Z];exact Gu _ rfl
  . have e:=By.mp G;subst e;exact J.ud (Ak _) (J.cj.bz (Ak _))
def tH(J:Fz):GX:=λV H R=>J V H λU D=>Ro (λ(i j d:Int)=>U=[.int i,.int j,.int d]) (λi j d=>(1<=d/\d<1000000/\-(2^40)<=i/\i<2^40/\-(2^40)<=j/\j<2^40)) (λi j d=>R (Ny i d (F5 i j d)) D)
theorem vK(E:Gg X "range")(F:X.mg "range"=AG)(C:Gi X [a,b,c] Z)(P:Co [a,b,c] X.ae=[(AR,Be a X.ae),(AR,Be b X.ae),(AR,Be c X.ae)]:=by rfl)(J:Co [b,c] X.ae=[(AR,Be b X.ae),(AR,Be c X.ae)]:=by rfl):Gj X S (.Call (.Name "range" p) [a,b,c] [] U) (tH Z):=by intro Y s N H R I h;refine WI (Ko I E F dE (QI (BD (C _ _ s N H _ I h) λT s1⟨f,O,A,r1,V⟩=>?_) (by simp_all) (by rw[J];rfl)));lk;obtain⟨i,j,d,e,⟨W,B,V,G,K,L⟩,q⟩:=V;k_in;subst e;cases r1 with|cons r D=>cases D with|cons M D=>cases D with|cons r2 D=>lk;cases D;obtain⟨t,rfl⟩:=r;obtain⟨Q,rfl⟩:=M;obtain⟨t2,rfl⟩:=r2;k_in;exact call_range_3 (K7 W) (wC A W B V G K L q) (.inl (zT (by grind)))
theorem sT{lo d:Int}{n:Nat}{g:Ex}{B:C7}{D:Hq}{σ:Ae}{H:AI}(Y:Nat->Ae->AI->Prop)(C:Y 0 σ H)(I:∀i σ H,i<n->Y i σ H->g (.int (lo+(i:Int)*d)) σ H λV Z=>B {D with nx:=Y (i+1),ct:=Y (i+1),bk:=D.nx} V Z)(F:∀σ H,Y n σ H->D.nx σ H):∃W:Nat->Nat->Ae->AI->Prop,(∃m,W 0 m σ H)/\∀i m σ H,W i m σ H->((Ny lo d n).sj i H/\D.nx σ H)\/((Ny lo d n).go i H/\∃N:Ae->AI->Prop,(∀U H',N U H'->∃A,A<m/\W (i+1) A U H')/\∀x H',(Ny lo d n).zm i H x H'->g x σ H' λV Z=>B {D with nx:=N,ct:=N,bk:=D.nx} V Z):=by
 refine⟨λi m σ H=>m=n-i/\i<=n/\Y i σ H,⟨n,by simp,BY _,C⟩,?_⟩;intro i m σ H E;lk;obtain⟨rfl,G,p⟩:=E;k_in;by_cases J:i<n
 . refine .inr ⟨J,_,λU H' K=>⟨_,JR _ _ J,rfl,J,K⟩,λx H' y=>?_⟩;obtain⟨e,y⟩:=y;subst e y;exact I i σ _ J p
 . have e:=Fm G (Ga J);subst e;exact .inl ⟨Ak _,F σ H p⟩
theorem vN(r:X.N.Nodup)(N:X.N[R]?=AA y)(P:MF X.ae.scope y)(M:X.fn y=AJ\/X.ae.scope.names.lookup y=AA .local)(u:X.gf=AJ)(hi:Gj X G U wi)(hk:J.kind=.function)(Z:∀y∈J.names,y.2≠.cell)(V:∀y∈J.names,y.2=.local->J.names.lookup y.1=AA .local)(A:∀y∈J.names,y.2=.free->X.ae.kindOf y.1=AA .cell\/X.ae.kindOf y.1=AA .free)(L:LO X J E)(z:∀C s H ex,LP (EK X J (own++E.map (·.1)) C s H ex) G g)(ht:∀C s H ex,LQ (EK X J (own++E.map (·.1)) C s H ex) B d)(w:∀C s H ex,Am (EK X J (own++E.map (·.1)) C s H ex) Y c)(O:Ol (.ListComp Y [⟨G,U,B,0⟩] J F) (AA (.Name y T)) W.line X.ae=Bo AJ)(hs:∀x,Oh U X.ae x=Bo x:=by intro _;rfl):Ew X (.Assign [.Name y T] (.ListComp Y [⟨G,U,B,0⟩] J F) W) (SV (JL own.length (E.map (·.2)) wi g d c) (G1 R)):=by
 intro S s σ H D0 I h;rw[exec_Assign_Name_used _ _ _ _ O];refine BL (AAo (BL ?_));refine BL (II (ZQ u hi hk Z V A L z ht w hs I h λD C m s4 H5 v f hn n p j k l q=>?_) (λ_ s' hq=>Cp (Cp hq)) λ_ _ e=>e);refine ADi (bD f r N P (v:=.ref D) rfl (λs5 i⟨a,Q,ha⟩=>?_) M);have K:C≠a:=by grind
 exact⟨m,Heap.Ns.sameBut hn Q K,λh' sb=>⟨_,_,i.dh (λb o t e=>(sb.2 b t).trans e) n p (.inr j) k l,q⟩⟩
theorem OL(B:List (AF×Nat))(R:X.N.Nodup)(G:X.N[i]?=AA y)(L:MF X.ae.scope y)(S:X.gf=AJ)(hi:Gj X (.Name x M) J wi)(c:X.ae.scope=osc)(b:D.kind=.function)(Y:∀y∈D.names,y.2≠.cell)(U:∀y∈D.names,y.2=.local->D.names.lookup y.1=AA .local)(Z:∀y∈D.names,y.2=.free->osc.names.lookup y.1=AA .cell\/osc.names.lookup y.1=AA .free)(F:LO X D B)(N:D.names.lookup x=AA .local)(I:(x::B.map (·.1)).Nodup)(f:∀C s H ex,LQ (EK X D (x::B.map (·.1)) C s H ex) A Q)(T:∀C s H ex,Am (EK X D (x::B.map (·.1)) C s H ex) W P)(K:Ol (.ListComp W [⟨.Name x M,J,A,0⟩] D E) (AA (.Name y O)) V.line X.ae=Bo AJ:=by rfl)(a:X.fn y=AJ\/X.ae.scope.names.lookup y=AA .local:=by first|exact .inl rfl|exact .inr rfl|assumption)(d:∀x,Oh J X.ae x=Bo x:=by intro _;rfl):Ew X (.Assign [.Name y O] (.ListComp W [⟨.Name x M,J,A,0⟩] D E) V) (SV (JL 1 (B.map (·.2)) wi (G1 0) Q P) (G1 i)):=vN (own:=[x]) R G L a S hi b Y U (λy g e=>by show X.ae.scope.names.lookup _=_\/X.ae.scope.names.lookup _=_;rw[c];exact Z y g e) F (λC s H ex=>Js I rfl (.inl (Oj N)) (.inr (Oj N))) f T K d
theorem wQ(D:1<=c)(V:c<=2000000)(W:-(2^40)<=a)(J:a<2^40)(Y:-(2^40)<=b)(U:b<2^40):dN a b c=AJ:=by have h:=bV (lo:=a) (hi:=b) D;have Z:=SQ (lo:=a) (hi:=b) D;unfold dN;simp only[ACV,Qn,ABC,AE1,AE5,show c>0 by assumption,AE2];(constructor<;>lia)
theorem GY:∀{D:List U}{J:List V},D.length=J.length->(∀(i:Nat)a b,D[i]?=AA a->J[i]?=AA b->F a b)->Az F D J|[],[],_,_=>.nil|a::D,b::J,W,h=>.cons (h 0 a b rfl rfl) (GY (AB0.mp W) λi x y Y Z=>h (i+1) x y (by assumption) (by assumption))
def P2(i j d:Int):List Int:=(Ec (F5 i j d)).map λk:Nat=>i+(k:Int)*d
theorem Vj(i j d:Int):(P2 i j d).length=F5 i j d:=by unfold P2;simp
theorem wF(h:k<F5 i j d):(P2 i j d)[k]?=AA (i+(k:Int)*d):=by unfold P2;simp_all
def xM(J:Fz):A1:=λW H Q=>J W H λU D=>Ro (λ(i j d:Int)=>U=[.int i,.int j,.int d]) (λi j d=>(1<=d/\d<=2000000/\-(2^40)<=i/\i<2^40/\-(2^40)<=j/\j<2^40/\F5 i j d<=16777216)) (λi j d=>∀l,D l=AG->Q (.ref l) (AQ D l (.lst ((P2 i j d).map AD.int))))
theorem vE(l:X.gf=AJ)(Z:Gg X "list")(B:X.mg "list"=AG)(m:Gg X "range")(v:X.mg "range"=AG)(g:Gi X [a,b,c] O)(hs:Co [a,b,c] X.ae=[(AR,Be a X.ae),(AR,Be b X.ae),(AR,Be c X.ae)]:=by rfl)(C:Co [b,c] X.ae=[(AR,Be b X.ae),(AR,Be c X.ae)]:=by rfl)(w:Co [.Call (.Name "range" F) [a,b,c] [] D] X.ae=[(AR,Be (.Call (.Name "range" F) [a,b,c] [] D) X.ae)]:=by rfl):Am X (.Call (.Name "list" p) [.Call (.Name "range" F) [a,b,c] [] D] [] G) (xM O):=by intro U s P H Q I h;refine Qc (Ko I Z B NR ?_);refine QI ?_ (by rfl) rfl;refine Le ?_;refine WI (Ko I m v dE (QI (BD (g D U s P H _ I h) λus s1⟨vs,R,L,r1,K⟩=>?_) (by simp_all) (by rw[C];rfl)));lk;obtain⟨i,j,d,e,⟨Y,T,K,z,q3,q4,N⟩,q⟩:=K;k_in;subst e;cases r1 with|cons r V=>cases V with|cons r' V=>cases V with|cons r2 V=>
        lk;cases V;obtain⟨t,rfl⟩:=r;obtain⟨t',rfl⟩:=r';obtain⟨t2,rfl⟩:=r2;k_in;refine call_range_3 (K7 Y) ?_ (.inl (zT (by grind)));refine OY ?_;have M:Ab X U P R {s1 with heap:=s1.heap.push {cls:=.type "range",data:=.fields #[.int i t,.int j t',.int d t2]},toks:=s1.toks}:=L.gw λb o e=>DN _ e;refine call_list_range (L.ok.hd l) (AAE ..) (wQ Y T K z q3 q4) (SQ Y) N λf tk W S n hS J=>?_;refine⟨.ref _,_,M.ma n (Ak _) (show De X.ag X.w _ f _ (.lst _)from⟨?_,W.toList,S,?_,by assumption⟩),rfl,q _ (M.cj.bz (Ak _))⟩
        . rw[As,Vj];exact N
        . refine GY (by rw[As,Vj,Mb,J.1]) λk x u E y=>?_;have A:k<F5 i j d:=by have:=(BU.mp E).1;rw[As,Vj]at this;assumption
          rw[Bs,wF A]at E;obtain⟨tk',e⟩:=J.2 k u (by(simpa using y));rw[<-B9 E,e];exact⟨_,rfl⟩
theorem rO{K:Ax}(B:X.gf=AJ)(A:X.K=K:=by rfl):Fx X (.builtin "min") (λxs H Q=>∃(p:AE)(ns:List Int),xs=[.ref p]/\B7 K H p (ns.map AD.int)/\0<ns.length/\∀M,M∈ns->(∀a,a∈ns->M<=a)->Q (.int M) H):=by
 subst A;intro Z s i H xs g Q I r h;lk;obtain⟨p,ns,rfl,G,F,q⟩:=h;obtain⟨u,rfl,P⟩:=Ib r;cases P;obtain⟨N,R,O,d⟩:=I.gh G;have Y:=Zi R;obtain⟨D,e⟩:=Y.allInts.items;k_in;have J:ns=D.toList.map (·.1):=by rw[<-ADc,<-e];exact(show numsOf _=ns from Y.numsOf).symm
 have U:0<D.size:=by simp_all
 have E:=e▸O.isList;refine min_intList (I.ok.hd B) E U λv S f L C=>?_;lk;obtain⟨t,rfl⟩:=intItems_at L;obtain⟨T,b⟩:=argBest_lt (numAt D) (D.size-1);k_in;refine⟨.int _,H,I.gw C,⟨_,rfl⟩,q _ ?_ λa W=>?_⟩;.rw[eJ];grind
 . rw[J]at W;lk;obtain⟨j,c,rfl⟩:=mem_getD W;k_in;rw[<-eJ];grind
theorem rM{K:Ax}(B:X.gf=AJ)(A:X.K=K:=by rfl):Fx X (.builtin "max") (λxs H Q=>∃(p:AE)(ns:List Int),xs=[.ref p]/\B7 K H p (ns.map AD.int)/\0<ns.length/\∀M,M∈ns->(∀a,a∈ns->a<=M)->Q (.int M) H):=by
 subst A;intro Z s i H xs g Q I r h;lk;obtain⟨p,ns,rfl,G,F,q⟩:=h;obtain⟨u,rfl,P⟩:=Ib r;cases P;obtain⟨N,R,O,d⟩:=I.gh G;have Y:=Zi R;obtain⟨D,e⟩:=Y.allInts.items;k_in;have J:ns=D.toList.map (·.1):=by rw[<-ADc,<-e];exact(show numsOf _=ns from Y.numsOf).symm
 have U:0<D.size:=by simp_all
 have E:=e▸O.isList;refine max_intList (I.ok.hd B) E U λv S f L C=>?_;lk;obtain⟨t,rfl⟩:=intItems_at L;obtain⟨T,b⟩:=argBest_gt (numAt D) (D.size-1);k_in;refine⟨.int _,H,I.gw C,⟨_,rfl⟩,q _ ?_ λa W=>?_⟩;.rw[eJ];grind
 . rw[J]at W;lk;obtain⟨j,c,rfl⟩:=mem_getD W;k_in;rw[<-eJ];grind
theorem Zb:∀ys zs:List Int,dY (ys.map Oc) (zs.map Oc)=Aa (ys=zs)|[],[]=>rfl|[],_::_=>rfl|_::_,[]=>rfl|y::ys,z::zs=>by show(Ob _ _&&dY _ _)=_;rw[Zb ys zs];show((y==z)&&Aa _)=_;grind
theorem R5:∀ys:List Int,FY (ys.map Oc)=AJ/\EU (ys.map Oc)=0|[]=>⟨rfl,rfl⟩|y::r=>by obtain⟨a,b⟩:=R5 r;simp[FY,GJ,EU,GK,a,b]
theorem Pk{K:Ax}(J:DZ K H x d)(U:DZ K H y d)(D:F7 d=AJ)(q:Q (.bl AJ) H):SJ K x y H Q:=⟨d,d,J,U,D,D,by rw[AC2 d (AC1 D)];exact q⟩
theorem M9{K:Ax}(J:DZ K H x d)(U:DZ K H y d)(D:F7 d=AJ)(q:Q (.bl AR) H):SN K x y H Q:=⟨d,d,J,U,D,D,by rw[AC2 d (AC1 D)];exact q⟩
theorem Dc.ze(l:List AE)(x:Dc P w H h)(U:∀a∈l,H a=AG)(k:∀b u,b∉l->h.get? b=AA u->D.get? b=AA u):Dc P w H D:=by intro b u e;refine(x b u e).vg (λc v J q=>k c v ?_ q) (λ_ q=>q) λ_ _ q=>q;grind
def Nz(K:Ax)(a:AE):Gh:=⟨λi H=>∃D x,B7 K H a D/\D[i]?=AA x,λi H x J=>∃p y,x=.ref p/\H p=AG/\J=AQ H p (.tup [.int (i:Int),y])/\∀D,B7 K H a D->D[i]?=AA y,λi H=>∃D,B7 K H a D/\D.length<=i⟩
theorem xV{K:Ax}(a e it:AE)(L:e≠it):MH P w K (.Tuple B x1 O) (Nz K a) [e,it] e (λi h=>(∃D,IsEnum h e it i D)/\h.IsListIter it a i)where
 aal:=by simp
 cg:=λi h J b U=>by lk;obtain⟨⟨D,W⟩,o,e2,c,d⟩:=J;k_in;grind
 ab:=λi h h' J k=>by lk;obtain⟨⟨D,W⟩,J⟩:=J;k_in;exact⟨(by grind),J.at (λu1 u2=>k _ (List.singleton_sublist.mp (List.sublist_cons_self _ _)) _ u2)⟩
 vc:=by
  intro X T hw S hc i N s σ H E I Z J g;subst T hw S;lk;obtain⟨xs,x,Q,A⟩:=g;obtain⟨m,r,p,hz⟩:=I.gh Q;obtain⟨u,hu,ru⟩:=r.va A;obtain⟨⟨D,W⟩,V⟩:=J;obtain⟨y,f1,f2,f3,f4,f5⟩:=Z e (by simp);obtain⟨g0,g1,g2,g3,g4,g5⟩:=Z it (by simp);k_in;have R:e<s.heap.objs.size:=Cw W;have ilt:it<s.heap.objs.size:=by obtain⟨o,q,_⟩:=id V;exact Cw q
  refine wpAny_pyNext_enum_item W V p.isList (x:=u) (by simpa using hu) L λh' eo F ht hsz kk=>⟨_,rfl,wpAny_letOwnedTupleGo_enum eo λC he2 t=>?_⟩;have M:H s.heap.objs.size=AG:=I.cj.bz (Ak _);have pe:s.heap.objs.size≠e:=NN R;have Y:∀b o,b∉[e,it]->s.heap.get? b=AA o->C.get? b=AA o:=λb o U q=>by have v:b≠e:=λz=>U (by simp[z]);have b2:b≠it:=λz=>U (by simp[z]);exact(t.2 b v).trans (kk b o v b2 q)
  have G:C.IsListIter it a (i+1):=by obtain⟨o,q,c,d⟩:=id F;exact⟨o,(t.2 it (λz=>L z.symm)).trans q,c,d⟩
  have l:=(t.2 _ pe).trans ht;have j:Dc X.ag X.w (AQ H s.heap.objs.size (.tup [.int (i:Int),x])) C:=by refine(I.cj.ze [e,it] (λb U=>(Z b U).1) Y).zj M ?_;exact⟨show 2<=Ay by decide,[.int i s.toks,u],.cons ⟨_,rfl⟩ (.cons ru .nil),⟨_,l,rfl,_,rfl⟩⟩
  have un:Hu (G0 X.df) [e,it] H (AQ H s.heap.objs.size (.tup [.int (i:Int),x])) s.heap C:=by
   refine⟨(λu1 u2 u3 u4 u5 u6=>Y _ _ u6 u3),λb o q n U A=>⟨o.slots,Y b o A q⟩,λb o q n A=>?_,(by grind),λb ys q=>?_,λb o u q=>?_,λb ps q=>?_⟩;.rw[AX (Ee (Cw q))];exact n
   .rw[AX (Bg q M)];exact q
   .rw[AX (Bg q M)];exact q
   .exact⟨#[],by rw[AX (Bg q M),AA5];exact q⟩
  have I2:=I.yw (s':={s with heap:=C,toks:=s.toks+1}) (ch:=[e,it]) rfl un j I.ir (by grind);refine⟨.ref s.heap.objs.size,_,I2,rfl,⟨_,x,rfl,M,rfl,λys hy=>by rw[I.wg hy Q];exact A⟩,⟨⟨u,?_⟩,G⟩,λb U=>?_⟩;.assumption
  . have f:b≠s.heap.objs.size:=(by grind);rw[AX f];exact(Z b U).1
 uy:=by intro X T hw S hc i N s σ H E I Z J g;subst T hw S;lk;obtain⟨xs,Q,A⟩:=g;obtain⟨m,r,p,hz⟩:=I.gh Q;obtain⟨⟨D,W⟩,V⟩:=J;obtain⟨y,f1,f2,f3,f4,f5⟩:=Z it (by simp);k_in;have hl:=r.ao;exact wpAny_pyNext_enum_end (I.ok.hd hc) W V p.isList (by simp;simp_all) λh' eb=>⟨rfl,I.dh (t':=s.toks) (λb o U e=>eb b o U e) y f1 f3 f4 f5⟩
 wo:=λ_ _ _ _ _ J h=>by lk;obtain⟨⟨D,W⟩,_⟩:=J;k_in;exact ADp W h
def tE(K:Ax)(tl:A1):GX:=λU H R=>tl U H λx D=>Jn (λa=>x=.ref a) (λa=>(∃J,B7 K D a J)) (λa=>R (Nz K a) D)
theorem P0{K:Ax}(G:Gg X "enumerate")(N:X.mg "enumerate"=AG)(M:Am X l tl)(C:X.K=K:=by rfl)(Y:Co [l] X.ae=[(AR,Be l X.ae)]:=by rfl):Gj X (.Tuple J c V) (.Call (.Name "enumerate" p) [l] [] W) (tE K tl):=by
 subst C;intro Z s d H R I h;refine WI (Ko I G N boot_enumerate (QI ?_ Y rfl));rw[Y];refine Le (BD (M _ s d H _ I h) λv s1 U=>?_);lk;obtain⟨x,A,D,r1,T⟩:=U;k_in;refine OY ?_;lk;obtain⟨a,e,⟨j,O⟩,q⟩:=T;k_in;subst e;lk;cases r1;obtain⟨Q,i,p,g⟩:=D.gh O;k_in;refine call_enumerate_list p.isList λf F L P S=>?_;have B:=D.gw (t':=s1.toks) S;refine ADp F ?_;refine⟨_,_,_,_,A,rfl,B,xV a _ _ (Nat.add_one_ne_self _),(by grind),λb E=>?_,q⟩;rcases Ca.mp E with z|z;. subst z;exact D.ud (Sj _) (D.cj.bz (Sj _))
 . have z:=By.mp z;subst z;exact D.ud (Ak _) (D.cj.bz (Ak _))
theorem vB(A:List (AF×Nat))(K:X.gf=AJ)(hi:Gj X (.Tuple [.Name x N,.Name y O] M V) J wi)(T:X.ae.scope=osc)(S:D.kind=.function)(W:∀y∈D.names,y.2≠.cell)(U:∀y∈D.names,y.2=.local->D.names.lookup y.1=AA .local)(Y:∀y∈D.names,y.2=.free->osc.names.lookup y.1=AA .cell\/osc.names.lookup y.1=AA .free)(G:LO X D A)(L:D.names.lookup x=AA .local)(F:D.names.lookup y=AA .local)(B:(x::y::A.map (·.1)).Nodup)(b:∀C s H ex,LQ (EK X D (x::y::A.map (·.1)) C s H ex) E Q)(R:∀C s H ex,Am (EK X D (x::y::A.map (·.1)) C s H ex) Z P)(a:∀x,Oh J X.ae x=Bo x:=by intro _;rfl):Am X (.ListComp Z [⟨.Tuple [.Name x N,.Name y O] M V,J,E,0⟩] D I) (JL 2 (A.map (·.2)) wi (VC X.K 2 (VB (G1 0) (VB (G1 1) Zf))) Q P):=aF (own:=[x,y]) K hi S W U (λy F e=>by show X.ae.scope.names.lookup _=_\/X.ae.scope.names.lookup _=_;rw[T];exact Y y F e) G (λC s H ex=>aL (show(EK X _ _ C s H ex).gf=AJ from K) (EB (Js B rfl (.inl (Oj L)) (.inr (Oj L))) (EB (Js B rfl (.inl (Oj F)) (.inr (Oj F))) JJ))) b R a
theorem Rv{K:Ax}{a:AE}{xs:List AD}{g:Ex}{E:C7}{D:Hq}{σ:Ae}{H:AI}(U:Nat->Ae->AI->Prop)(F:U 0 σ H)(L:∀i σ H,i<=xs.length->U i σ H->B7 K H a xs)(O:∀(i:Nat)x σ H p,xs[i]?=AA x->U i σ H->H p=AG->g (.ref p) σ (AQ H p (.tup [.int (i:Int),x])) λZ A=>E {D with nx:=U (i+1),ct:=U (i+1),bk:=D.nx} Z A)(I:∀σ H,U xs.length σ H->D.nx σ H):∃W:Nat->Nat->Ae->AI->Prop,(∃m,W 0 m σ H)/\∀i m σ H,W i m σ H->((Nz K a).sj i H/\D.nx σ H)\/((Nz K a).go i H/\∃N:Ae->AI->Prop,(∀Y H',N Y H'->∃C,C<m/\W (i+1) C Y H')/\∀x H',(Nz K a).zm i H x H'->g x σ H' λZ A=>E {D with nx:=N,ct:=N,bk:=D.nx} Z A):=by
 refine⟨λi m σ H=>m=xs.length-i/\i<=xs.length/\U i σ H,⟨xs.length,by simp,BY _,F⟩,?_⟩;intro i m σ H G;lk;obtain⟨rfl,B,p⟩:=G;k_in;have q:=L i σ H B p;by_cases J:i<xs.length
 . refine .inr ⟨⟨xs,xs[i],q,by simp[J]⟩,_,λY H' Q=>⟨_,JR _ _ J,rfl,J,Q⟩,λx H' y=>?_⟩;lk;obtain⟨r,z,rfl,M,rfl,P⟩:=y;k_in;exact O i z σ H r (P xs q) p M
 . have e:=Fm B (Ga J);subst e;exact .inl ⟨⟨xs,q,Ak _⟩,I σ H p⟩
theorem rT{K:Ax}(G:Nat->AD->Bool)(f:Nat->AD->AD)(l:xs.length<=Ay)(L:∀J,An H J->B7 K J a xs)(j:∀(i:Nat)x p E F J(R:Ae->AI->Prop),xs[i]?=AA x->An H J->J p=AA (.tup [.int (i:Int),x])->R (AA (.int (i:Int))::AA x::C.map (FA σ)) J->g (.ref p) (E::F::C.map (FA σ)) J R)(N:∀(i:Nat)x J(R:Bool->AI->Prop),xs[i]?=AA x->An H J->(∀B,An J B->R (G i x) B)->T (AA (.int (i:Int))::AA x::C.map (FA σ)) J R)(M:∀(i:Nat)x J(R:BN),xs[i]?=AA x->G i x=AJ->An H J->(∀B,An J B->R (f i x) B)->P (AA (.int (i:Int))::AA x::C.map (FA σ)) J R)(h:∀J,An H J->∀D,J D=AG->Q (.ref D) (AQ J D (.lst (((OS (Ec xs.length) xs).filter λq=>G q.1 q.2).map λq=>f q.1 q.2)))):Kd 2 C g T P σ Q (Nz K a) H:=by
  refine⟨λi m X Z I=>m=xs.length-i/\i<=xs.length/\An H I/\(∃E F,X=E::F::C.map _)/\Z=((((OS (Ec xs.length) xs).take i).filter λq=>G q.1 q.2).map λq=>f q.1 q.2),⟨xs.length,by simp,BY _,C6 H,⟨_,_,rfl⟩,rfl⟩,?_⟩;intro i m X Z I d;lk;obtain⟨rfl,k,s1,⟨E,F,rfl⟩,U⟩:=d;k_in;have O:(OS (Ec xs.length) xs).length=xs.length:=by simp
  by_cases W:i<xs.length
  . have Y:=CG W;have S:(OS (Ec xs.length) xs).take (i+1)=(OS (Ec xs.length) xs).take i++[(i,xs[i])]:=by
      rw[Dt];have:(OS (Ec xs.length) xs)[i]?=AA (i,xs[i]):=by rw[MR];exact⟨by simp[W],Y⟩
      rw[this];rfl
    refine .inr ⟨⟨xs,_,L _ s1,Y⟩,?_,λx J y=>?_⟩
    . have:Z.length<=i:=by rw[U,As];refine Ah (D3 _ _) ?_;rw[El];exact J5 _ _
      exact Bh (Gs this W) l
    . lk;obtain⟨p,z,rfl,n,rfl,r⟩:=y;k_in;have b:=B9 ((r xs (L _ s1)).symm.trans Y);subst b;have s2:=s1.du (o:=.tup [.int (i),xs[i]]) n;refine j i _ p E F _ _ Y s2 Af ?_;refine N i _ _ _ Y s2 λB s3=>?_;cases A:G i _ with |true=> refine M i _ _ _ Y A (s2.aa s3) λs s4=>⟨_,JR _ _ W,rfl,W,(s2.aa s3).aa s4,⟨_,_,rfl⟩,?_⟩;rw[S,GZ,CQ,<-U];simp[A]|false=>refine⟨_,JR _ _ W,rfl,W,s2.aa s3,⟨_,_,rfl⟩,?_⟩;rw[S,GZ,CQ,<-U];simp[A]
  . have e:=Fm k (Ga W);subst e;rw[Ed (by rw[O];exact Ak _)]at U;exact .inl ⟨⟨xs,L _ s1,Ak _⟩,λD c=>by rw[U];exact h I s1 D c⟩
theorem xR(l:AE)(D:Array AL)(n:Nat)(F:Option AE)(Q:Array (Option AL))(x:AL)(e:AL->Bool)(K:∀y,y∈D->MeetsSeq.EqGives y x (e y))(j:Nat)(L:j<D.size)(Z:e D[j]=AJ)(B:∀m(X:m<D.size),m<j->e D[m]=AR):Meets (Builtin.«tuple.index» ⟨[.ref l,x],[]⟩) (λ_ R s=>s.heap.get? l=AA {cls:=.type "tuple",dict:=F,data:=.seq D n,slots:=Q}/\R (.ok (.ret (.int j s.toks))) {s with toks:=s.toks+1}):=.of_wp λJ w A R s h=>by
    lk;obtain⟨N,g,d,S,P⟩:=s;obtain⟨M,h⟩:=h;k_in;wp_walk using wpAny_loadPart' M;change BB (Ar J w) A.in1 (IK [:D5 D.size D.size] ((AG,()):Option dQ×Unit) _) _ _ _;rw[AEs];simp only[AEt,Nat.sub_zero,Nat.add_sub_cancel,Nat.div_one,Nat.min_self];refine ADm _ (λU b E=>∃k,U=List.range' k (D.size-k) 1/\k<=j/\b.1=AG/\E=(⟨N,g,d,S,P⟩:AZ)) _ ?_ ?_ _ _ ⟨0,rfl,BY _,rfl,rfl⟩
    . intro i U b E I;lk;obtain⟨k,C,Y,T,rfl⟩:=I;k_in;have V:k<D.size:=(Gs Y L);rw[show D.size-k=(D.size-(k+1))+1 by exact Nat.sub_one_cancel (WD.mpr V) (y6 _ (by decide)) (Nat.eq_sub_of_add_eq rfl),List.range'_succ]at C;injection C with G H;subst G H;have O:D[i]?=AA D[i]:=(by simp);simp only[O];refine BL (K _ (Array.getElem_mem V) J w _ _ _ _ ?_);by_cases W:i=j;. subst W;rw[Z];wp_walk;exact⟨_,rfl,h⟩
      . rw[B i V (EL Y W)];wp_walk;grind
    grind
theorem SU{ys:List AF}{its:List AL}(r:Bk (ys.map AD.str) its){i:Nat}{z:AF}(h:ys[i]?=AA z):∃t,its[i]?=AA (.str z t):=by lk;obtain⟨u,D,t,rfl⟩:=r.va (i:=i) (x:=.str z) (by simp_all);k_in;(constructor<;>omega)
def SS(z:AF):AL->Bool|.str y _=>y==z|_=>AR
theorem uF{K:Ax}(P:X.K=K:=by rfl):N2 X "tuple.index" (λx xs H Q=>∃(p:AE)(ys:List AF)(z:AF)(j:Nat),x=.ref p/\xs=[.str z]/\Cm K H p (ys.map AD.str)/\ys[j]?=AA z/\(∀m,m<j->ys[m]?≠AA z)/\Q (.int (j:Int)) H):=by
 subst P;intro M s w H x xs v r Q I k g h;lk;obtain⟨p,ys,z,j,rfl,rfl,d,G,b,q⟩:=h;cases k;obtain⟨u,rfl,t,rfl⟩:=Ib g;obtain⟨D,E,e,o⟩:=I.ff d;obtain⟨⟨c,N,O,l⟩,L,Z,n,A⟩:=e;k_in;have Z:c=.type "tuple":=Z;have A:O=.seq D.toArray n:=A;subst Z A;have T:=E.ao;rw[As]at T;have B:j<ys.length:=(by grind);have R:∀y,y∈D.toArray->MeetsSeq.EqGives y (.str z t) (SS z y):=λy f=>by obtain⟨i,S,rfl⟩:=FN.mp (by simpa using f);obtain⟨Y,J⟩:=SU E (CG (by simp_all:i<ys.length));rw[CG S]at J;rw[B9 J];exact zN _ _ _ _
 have U:∀m(W:m<D.toArray.size),∃Y,D.toArray[m]=.str (ys[m]'(by simp at W;simp_all)) Y:=λm W=>by
  have C:m<ys.length:=by simp at W;simp_all
  obtain⟨Y,J⟩:=SU E (CG C);grind
 refine Of ACp ⟨_,L,rfl⟩ F.entry_tuple_index (by rfl) (xR p D.toArray n N l (.str z t) (SS z) R j (by simp;simp_all) ?_ ?_) ⟨L,⟨.int (j:Int),H,I.gm _,⟨_,rfl⟩,q⟩⟩
 . obtain⟨Y,J⟩:=U j (by simp;simp_all);rw[J];rw[CG B]at G;show(ys[j]==z)=AJ;(simpa using G)
 . intro m W a;obtain⟨Y,J⟩:=U m W;rw[J];show(ys[m]==z)=AR;grind
theorem tK{c A B:Prop}[Decidable c](D:c)(h:A):if Aa c=AJ then A else B:=by rw[AEx D];exact Jq h
theorem tL{c A B:Prop}[Decidable c](D:¬c)(h:B):if Aa c=AJ then A else B:=by rw[AEz D];exact Ds h
structure qW(K:Ax)(C:AE):Prop where
 ga:IH K (.ref C) "__getattribute__"=AA (AA (.builtin "BaseException.__getattribute__"))gt:IH K (.ref C) "__getattr__"=AA AG
 ck:IH K (.ref C) "__class__"=AA (AA (.builtin "object.__class__"))sb:eG K (.ref C) (.type "BaseException")=AA AJ
 so:eG K (.ref C) (.type "object")=AA AJ
 cl:(ADE K C).isSome=AJ
theorem An.xq(e:An H H')(h:H b=AG):An H (AQ H' b o):=λc u q=>by rw[AX (Bg q h)];exact e c u q
theorem wW{a b:AF}(h:a.cps.toList=b.cps.toList):a=b:=by cases a;simp_all
theorem Pu{F:U->V->Prop}(h:Az F D J):∀{i:Nat}{a:U}{b:V},D[i]?=AA a->J[i]?=AA b->F a b:=by induction h with|nil=>intro i a b h;cases h|cons r _ Z=>intro i a b W Y;cases i with|zero=>cases W;cases Y;exact r|succ i=>exact Z W Y
theorem VE(h:MO k v=AJ):Bj (Aw k) v:=by
 rcases Kn h with⟨i,t,rfl,rfl⟩|⟨x,t,rfl,rfl⟩;.exact⟨t,rfl⟩
 .exact⟨t,rfl⟩
theorem Zm(J:Fh kvs vs)(Z:D.length=vs.length)(h:∀(j:Nat)(v:AL),D[j]?=AA v->∃(k:AK)(x:AL),vs[j]?=AA (k,x)/\MO k v=AJ):Bk (kvs.map λp=>Aw p.1) D:=by
 refine GY ?_ ?_;.rw[As,Z];exact Io J
 . intro i a b U W;lk;obtain⟨k,x,B,Y⟩:=h i b W;rw[Bs]at U;obtain⟨p,A,rfl⟩:=Du.mp U;k_in;have q:=Pu J A B;rw[q.1];exact VE Y
theorem U3{K:Ax}(F:X.gf=AJ):Fx X (.type "list") (λxs H Q=>∃(a:AE)(kvs:List (AK×AD)),xs=[.ref a]/\H a=AA (.dK kvs)/\∀l,H l=AG->Q (.ref l) (AQ H l (.lst (kvs.map λp=>Aw p.1)))):=by intro Y s T H xs R Q I r h;lk;obtain⟨a,kvs,rfl,e,q⟩:=h;obtain⟨u,rfl,N⟩:=Ib r;cases N;obtain⟨z,M,S,D,B⟩:=Mz I.cj e;obtain⟨O,J⟩:=B.dictAt;k_in;have U:=Io D;refine W.kdl_call (ADJ M) (I.ok.hd F) J (by simp_all) λE P Z A L C W=>?_;refine⟨.ref _,_,I.ma L (Ak _) (show De _ _ _ E _ (.lst _)from⟨by rw[As];exact z,_,A,?_,by simpa using C⟩),rfl,q _ (I.cj.bz (Ak _))⟩;exact Zm D (by exact W.1) λj v G=>W.2 j v (by rw[<-Ot];exact G)
theorem uE{K:Ax}(b:X.K=K:=by rfl):N2 X "list.index" (λx xs H Q=>∃(p:AE)(ys:List AF)(z:AF)(j:Nat),x=.ref p/\xs=[.str z]/\B7 K H p (ys.map AD.str)/\ys[j]?=AA z/\(∀m,m<j->ys[m]?≠AA z)/\Q (.int (j:Int)) H):=by
 subst b;intro S s σ H x xs v us Q I r o h;lk;obtain⟨p,ys,z,j,rfl,rfl,g,C,N,q⟩:=h;cases r;obtain⟨u,rfl,t,rfl⟩:=Ib o;obtain⟨D,P,l,k⟩:=I.gh g;obtain⟨⟨c,T,a,w⟩,R,A,n,B⟩:=l.isList;k_in;have A:c=.type "list":=A;have B:a=.seq D.toArray n:=B;subst A B;have f:=P.ao;rw[As]at f;have E:j<ys.length:=(BU.mp C).1;have d:∀y,y∈D.toArray->MeetsSeq.EqGives y (.str z t) (SS z y):=λy O=>by obtain⟨i,e,rfl⟩:=FN.mp (by simpa using O);obtain⟨U,J⟩:=SU P (CG (by omega:i<ys.length));rw[CG e]at J;rw[B9 J];exact zN _ _ _ _
 have W:∀m(Y:m<D.toArray.size),∃U,D.toArray[m]=.str (ys[m]'(by simp at Y;omega)) U:=λm Y=>by
  have G:m<ys.length:=by simp at Y;omega
  obtain⟨U,J⟩:=SU P (CG G);refine⟨U,?_⟩;have L:m<D.length:=by omega
  rw[CG L]at J;simpa using B9 J
 have sz:Ay=16777216:=DW;refine Of ACn ⟨_,R,rfl⟩ F.entry_list_index (F.args_list_index_2 _ _) (SeqAt.list_indexAt p D.toArray n T w (.str z t) (SS z) j (by simp;omega) (by rw[As]at k;omega) ?_ ?_) ?_
 . obtain⟨U,J⟩:=W j (by simp;omega);rw[J];rw[CG E]at C;show(ys[j]==z)=AJ;rw[B9 C];exact AE9 z
 . intro m Y M;obtain⟨U,J⟩:=W m Y;rw[J];show(ys[m]==z)=AR;have Z:=N m M;rw[CG (by omega:m<ys.length)]at Z;exact AE6.mpr λq=>Z (AEw AA q)
 .exact⟨R,λy O=>(d y O).at _ _,⟨.int (j:Int),H,I.gm _,⟨_,rfl⟩,q⟩⟩
theorem EA{a b:Int}{A B:Prop}(D:a=b->A)(J:¬a=b->B):if Aa (AD.int a=AD.int b)=AJ then A else B:=MM (λe=>D (AD.int.inj (AEy e))) λe=>J λz=>AE4 e (AEw _ z)
theorem Pn{A B:Prop}(D:a=b->A)(J:¬a=b->B):if Aa (AD.str a=AD.str b)=AJ then A else B:=MM (λe=>D (AD.str.inj (AEy e))) λe=>J λz=>AE4 e (AEw _ z)
theorem Kl{c:Prop}[Decidable c]{A B:Prop}(D:c->A)(J:¬c->B):if Aa c=AJ then A else B:=(by simp_all)
def bI(t:C7):C7:=λD V H=>Gk (λ(N:Ae->AI->Prop)=>t {D with nx:=N} V H) (λN=>∀J U,N J U->D.nx J U)
set_option tactic.hygienic true in theorem Jt{X:Br}{st:DA}{t:C7}(h:Ew X st t):Ew X st (bI t):=λpins s σ H D I⟨N,q,k⟩=>by refine BD (h _ s σ H _ I q) λf s' z=>?_;cases f with|next=>obtain⟨J,H',U,n⟩:=z;exact⟨J,H',U,k _ _ n⟩|brk=>exact z|cont=>exact z|ret u=>exact z
theorem Jp(N:Ae->AI->Prop)(h:t {D with nx:=N} σ H)(k:∀J H',N J H'->D.nx J H'):bI t D σ H:=⟨N,h,k⟩
theorem CL(h:H a=AG):An H (AQ H a o):=(C6 H).du h
structure GN(prog:Ce)(w:CA)(A:Dj)(s:AZ)(κ:QH)(O:WK)(kf:AL->O.α)(a₀:Array BF):Prop where adk:∀p∈a₀.toList,∀q∈a₀.toList,∀(Q:Bool->AZ->Prop)(E:AL->AZ->Prop),Q (O.blt (kf p.1) (kf q.1)) s->BB (Ar prog w) A (keyLt' κ p.1 q.1) Q E s
structure Cq(κ:QH)(a₀:Array BF)(st:Ci):Prop where
 mf:(Ai st).Perm a₀
 ie:dG st=κ
 kh:NS st=AG
def BX{O:WK}(kf:AL->O.α)(xs:Array BF)(i:Nat):O.α:=kf ((xs[i]?.map (·.1)).getD .none)
def Dr{O:WK}(kf:AL->O.α)(xs:Array BF)(lo hi:Nat):Prop:=∀i j,lo<=i->i<=j->j<hi->O.kle (BX kf xs i) (BX kf xs j)
theorem Gv{O:WK}{kf:AL->O.α}{xs ys:Array BF}{i j:Nat}(h:xs[i]?=ys[j]?):BX kf xs i=BX kf ys j:=by unfold BX;rw[h]
theorem Cq.wt{D:Array BF}{st:Ci}(B:Cq J D st):(Ai st).size=D.size:=B.mf.size_eq
theorem Cq.js{st:Ci}(B:Cq J D st){xs:Array BF}(h:xs.Perm (Ai st)):Cq J D (QK st xs):=⟨h.trans B.mf,B.ie,B.kh⟩
theorem Cq.at{U:QH}{O:WK}{kf:AL->O.α}{D:Array BF}{st:Ci}(B:Cq U D st){i:Nat}(hi:i<D.size):∃p,(Ai st)[i]?=AA p/\p∈D.toList/\BX kf (Ai st) i=kf p.1:=by
 have J:i<(Ai st).size:=by rw[B.wt];exact hi
 refine⟨(Ai st)[i],(by simp),(S7.mp B.mf).mem_iff.mp (by simp),?_⟩;unfold BX;simp_all
theorem Qj{prog:Ce}{w:CA}{A:Dj}{E:AL->AZ->Prop}{s:AZ}{V:QH}{O:WK}{kf:AL->O.α}{D:Array BF}{st:Ci}(C:GN prog w A s V O kf D)(B:Cq V D st){p q:BF}(J:p∈D.toList)(U:q∈D.toList){Q:Option Bool->Ci->Prop}(h:Q (AA (O.blt (kf p.1) (kf q.1))) st):FE (Ar prog w) A E s (lt' p q) Q st:=by rw[lt'_eq];refine BK (MY ?_);rw[B.ie];exact BK (QL (ADj (C.adk p J q U _ _ ⟨rfl,BZ h⟩)))
theorem Qk{prog:Ce}{w:CA}{A:Dj}{E:AL->AZ->Prop}{s:AZ}{G:QH}{O:WK}{kf:AL->O.α}{D:Array BF}{st:Ci}(C:GN prog w A s G O kf D)(B:Cq G D st){i j:Nat}(hi:i<D.size)(V:j<D.size){Q:Option Bool->Ci->Prop}(h:Q (AA (O.blt (BX kf (Ai st) i) (BX kf (Ai st) j))) st):FE (Ar prog w) A E s (MX i j) Q st:=by lk;obtain⟨p,J,Z,W⟩:=B.at hi;obtain⟨q,U,F,Y⟩:=B.at V;k_in;rw[W,Y]at h;show FE _ _ _ _ (WN _ i>>=λx=>WN _ j>>=λy=>lt' x y) Q st;rw[zM,zM,J,U];exact BK (BZ (BK (BZ (Qj C B Z F h))))
theorem Wa{O:WK}{kf:AL->O.α}{xs:Array BF}{i j:Nat}(D:j<=xs.size)(k:Nat):BX kf (dH xs i j ((j-i)/2)) k=if i<=k/\k<j then BX kf xs (i+j-1-k)else BX kf xs k:=by
 have e:=ACL (i:=i) D k;by_cases h:i<=k/\k<j;.rw[AEv h]at e⊢;exact Gv e
 .rw[AEu h]at e⊢;exact Gv e
theorem eW{O:WK}{kf:AL->O.α}{xs:Array BF}{D d:Nat}(W:D<xs.size)(V:d<=D)(k:Nat):BX kf (bubble xs D d) k=if k=D-d then BX kf xs D else if D-d<k/\k<=D then BX kf xs (k-1)else BX kf xs k:=by
  have e:=ACK W d V k;by_cases J:k=D-d;.rw[AEv J]at e⊢;exact Gv e
  . rw[AEu J]at e⊢;by_cases U:D-d<k/\k<=D;.rw[AEv U]at e⊢;exact Gv e
    .rw[AEu U]at e⊢;exact Gv e
section
variable{st:Ci}
structure Iq(lo:Nat)(st st':Ci):Prop where
 xk:CD st'=CD st
 acj:∀k,k<lo->(Ai st')[k]?=(Ai st)[k]?
end
theorem S0(lo:Nat)(st:Ci):Iq lo st st:=⟨rfl,λ_ _=>rfl⟩
theorem Iq.aa{lo:Nat}(x:Iq lo a b)(y:Iq lo b c):Iq lo a c:=⟨y.xk.trans x.xk,λk h=>(y.acj k h).trans (x.acj k h)⟩
theorem AAx{U:Array BF}{st:Ci}(C:GN prog w A s T O kf U){lo:Nat}(d:lo+n<=U.size)(y:R<=n)(B:Cq T U st)(hs:Dr kf (Ai st) lo (lo+R))(h:∀D,Cq T U D->Iq lo st D->Dr kf (Ai D) lo (lo+n)->Q AJ D):FE (Ar prog w) A E s (binarySort' lo n R) Q st:=by
  rw[binarySort'_eq];refine BK (Ih (IG (I:=λk c D=>c=(AG,())/\Cq T U D/\Iq lo st D/\Dr kf (Ai D) lo (lo+D5 k n)) (Q:=λc D=>c=(AG,())/\Cq T U D/\Iq lo st D/\Dr kf (Ai D) lo (lo+n)) ?iq ?fin ?acv) ?post);case post=> intro c D Z;lk;obtain⟨rfl,L,X,u⟩:=Z;k_in;exact BZ (h D L X u)
  case acv=>
    refine⟨rfl,B,S0 _ _,λi j Y W M=>?_⟩;by_cases z:R=0
    . obtain rfl:i=j:=by lia
      exact NQ _
    .exact hs i j Y W (by lia)
  case fin=>grind
  case iq=>
    intro k c D v V Z;lk;obtain⟨rfl,L,X,u⟩:=Z;k_in;rw[show D5 k n=k by exact cZ (B6 V)]at u;refine BK (Ih (IG (I:=λx c J=>J=D/\∃l r,c=(AG,l,r)/\l<=r/\r<=k/\r+x<=k+l/\(∀i,i<l->O.kle (BX kf (Ai D) (lo+i)) (BX kf (Ai D) (lo+k)))/\(∀i,r<=i->i<k->O.klt (BX kf (Ai D) (lo+k)) (BX kf (Ai D) (lo+i)))) (Q:=λc J=>J=D/\∃l r,c=(AG,l,r)/\l<=k/\(∀i,i<l->O.kle (BX kf (Ai D) (lo+i)) (BX kf (Ai D) (lo+k)))/\(∀i,l<=i->i<k->O.klt (BX kf (Ai D) (lo+k)) (BX kf (Ai D) (lo+i)))) ?i1 ?i2 ?i3) ?i4);case i3=>exact⟨rfl,0,k,rfl,BY _,Ak _,Ak _,λ_ h=>absurd h (OW _),λ_ Y W=>absurd W (AB8 Y)⟩
    case i2=> intro c J Z;lk;obtain⟨rfl,l,r,rfl,Y,W,M,H,K⟩:=Z;rw[AB6 (BY _),V8]at M;obtain rfl:l=r:=Fm Y (AB3 M);k_in;exact⟨rfl,l,l,rfl,W,H,K⟩
    case i1=>
      intro x c J _ hx Z;lk;obtain⟨rfl,l,r,rfl,Y,W,M,H,K⟩:=Z;k_in;dsimp only;by_cases g:l>=r
      . rw[AEv g];obtain rfl:l=r:=Fm Y g;exact BZ ⟨rfl,l,l,rfl,W,H,K⟩
      . rw[AEu g];have f:l<=(l+r)/2:=by lia
        have P:(l+r)/2<r:=by lia
        have o:=OU (Bh P W) lo;refine BK (Qk C L (Bh (OU V _) d) (Bh o (Ah (FX (B6 V) _) d)) ?_);generalize(l+r)/2=m at f P o⊢;cases e:O.blt (BX kf (Ai J) (lo+k)) (BX kf (Ai J) (lo+m))with |true=> refine BZ ⟨rfl,l,m,rfl,f,Ah (B6 P) W,by lia,H,λi S t=>?_⟩;exact KeyOrd.klt_of_klt_of_kle e (u _ _ (OV _ _) (FX S _) (OU t _))|false=>refine BZ ⟨rfl,m+1,r,rfl,P,W,QG (Ah M (FX f _)),λi S=>?_,K⟩;exact HQ (u (lo+i) (lo+m) (OV _ _) (FX (DM S) _) o) (show O.kle _ _ from e)
    case i4=>
      intro c J Z;lk;obtain⟨rfl,l,r,rfl,Y,H,K⟩:=Z;k_in;show FE _ _ _ _ (moveDown' (lo+k) (lo+l)>>=λ_=>Bo (S9 (AG,()))) _ _;rw[moveDown'_eq];have F:lo+k<(Ai J).size:=by rw[L.wt];exact Bh (OU V _) d
      have a:lo+k-(lo+l)<=lo+k:=zC _ _;have q:lo+k-(lo+k-(lo+l))=lo+l:=c9 (FX Y lo);refine BK (J8 (BZ ⟨rfl,L.js (bubble_perm _ _ _),X.aa ⟨rfl,λz hz=>?_⟩,?_⟩));.rw[ACK F _ a,q,AEu (by lia),AEu (by lia)]
      . rw[show D5 (k+1) n=k+1 by exact cZ V];intro i j S t q3;rw[eW F a,eW F a,q];have N:∀z,lo<=z->z<lo+l->O.kle (BX kf (Ai J) z) (BX kf (Ai J) (lo+k)):=λz G p=>by have:=H (z-lo) ((Sk G).mpr p);rwa[Ig G]at this
        have b:∀z,lo+l<=z->z<lo+k->O.klt (BX kf (Ai J) (lo+k)) (BX kf (Ai J) z):=λz G p=>by have:=K (z-lo) ((MT (ET G)).mpr G) ((Sk (ET G)).mpr p);rwa[show lo+(z-lo)=z by exact Ig (ET G)]at this
        repeat' split
        all_goals first |(exfalso;lia)|exact NQ _|exact N _ (by lia) (by lia)|exact Kz (b _ (by lia) (by lia))|exact u _ _ (by lia) (by lia) (by lia)
theorem Dr.gv{O:WK}{kf:AL->O.α}{xs:Array BF}{lo n:Nat}(u:Dr kf xs lo (lo+n))(V:1<=n)(h:O.kle (BX kf xs (lo+n-1)) (BX kf xs (lo+n))):Dr kf xs lo (lo+(n+1)):=λi j D J W=>by
  by_cases z:j=lo+n
  . subst z;by_cases U:i=lo+n;.subst U;exact NQ _
    .exact HQ (u i _ D (AB4 (EL J U)) ((y4 (y6 _ V)).mp (Ak _))) h
  .exact u i j D J (EL (cU W) z)
def Om{O:WK}(kf:AL->O.α)(xs:Array BF)(lo hi:Nat):Prop:=∀i j,lo<=i->i<=j->j<hi->O.kle (BX kf xs j) (BX kf xs i)
theorem Om.gv{O:WK}{kf:AL->O.α}{xs:Array BF}{lo n:Nat}(u:Om kf xs lo (lo+n))(V:1<=n)(h:O.kle (BX kf xs (lo+n)) (BX kf xs (lo+n-1))):Om kf xs lo (lo+(n+1)):=λi j D J W=>by
  by_cases z:j=lo+n
  . subst z;by_cases U:i=lo+n;.subst U;exact NQ _
    .exact HQ h (u i _ D (AB4 (EL J U)) ((y4 (y6 _ V)).mp (Ak _)))
  .exact u i j D J (EL (cU W) z)
theorem S4{D:Array BF}{st:Ci}(B:Cq W D st){lo:Nat}(hi:lo<=i)(J:j<=D.size):Cq W D (QK st (dH (Ai st) i j ((j-i)/2)))/\Iq lo st (QK st (dH (Ai st) i j ((j-i)/2))):=by refine⟨B.js (mirror_perm _ _ _ _),rfl,λk U=>?_⟩;rw[ACL (by rw[B.wt];exact J),AEu (λV=>AB7 hi (Gs V.1 U))]
theorem S5{U:QH}{O:WK}{kf:AL->O.α}{D:Array BF}{st:Ci}(B:Cq U D st){i j:Nat}(J:j<=D.size)(h:∀k,i<=k->k<j->BX kf (Ai st) k=BX kf (Ai st) (j-1))(k:Nat):BX kf (dH (Ai st) i j ((j-i)/2)) k=BX kf (Ai st) k:=by rw[Wa (by rw[B.wt];exact J)];grind
theorem fC{prog:Ce}{w:CA}{A:Dj}{E:AL->AZ->Prop}{s:AZ}{N:QH}{O:WK}{kf:AL->O.α}{J:Array BF}{st:Ci}(C:GN prog w A s N O kf J){lo D U:Nat}(M:lo+D<=J.size)(F:1<=U)(P:U<=D)(B:Cq N J st)(u:Dr kf (Ai st) lo (lo+U)){Q:Option (Option Nat)×Nat->Ci->Prop}(h:∀n,U<=n->n<=D->Dr kf (Ai st) lo (lo+n)->(n<D->O.klt (BX kf (Ai st) (lo+n)) (BX kf (Ai st) (lo+n-1)))->Q (AG,n) st){f:Nat->Option (Option Nat)×Nat->StateT Ci D6 (ForInStep (Option (Option Nat)×Nat))}(L:∀x c,f x c=(do match(<-MX (lo+c.2) (lo+c.2-1))with|AA b=>if b=AJ then Bo (.done (AG,c.2))else Bo (.yield (AG,c.2+1))|AG=>Bo (.done (AA AG,c.2)))):FE (Ar prog w) A E s (IK [U:D] (AG,U) f) Q st:=by
 refine IG (I:=λx c W=>W=st/\c=(AG,x)/\U<=x/\x<=D/\Dr kf (Ai st) lo (lo+x)) ?_ ?_ (by simp_all)
 . intro x c W V Y K;lk;obtain⟨rfl,rfl,G,H,Z⟩:=K;k_in;rw[L];refine BK (Qk C B (Bh (OU Y _) M) (by lia) ?_);cases e:O.blt _ _ with |true=>exact BZ (h x G H Z λ_=>e)|false=>exact BZ ⟨rfl,rfl,Kx V,by assumption,Z.gv (Ah F V) e⟩
 simp_all
abbrev Ir:=Option (Option Nat)×Nat
def Ql(lo:Nat)(c:Ir):StateT Ci D6 (ForInStep Ir):=MX (lo+c.2) (lo+c.2-1)>>=λo=>match o with|AA b=>if b=AJ then Bo (.done (AG,c.2))else Bo (.yield (AG,c.2+1))|_=>Bo (.done (AA AG,c.2))
def NX(lo D n:Nat):StateT Ci D6 (Option Nat):=NT lo (lo+n)>>=λ_=>IK [n:D] ((AG,n):Ir) (λ_ c=>Ql lo c)>>=λc=>match c.1 with|AA r=>Bo r|AG=>Bo (AA c.2)
abbrev WZ:=Option (Option Nat)×Nat×Nat
def eT(lo:Nat)(c:WZ):StateT Ci D6 (ForInStep WZ):=MX (lo+c.2.1) (lo+c.2.1-1)>>=λo=>match o with
 |AA b=>if b=AJ then(if c.2.2>0 then NT (lo+c.2.1-(c.2.2+1)) (lo+c.2.1)>>=λ_=>Bo (.yield (AG,c.2.1+1,0))else Bo (.yield (AG,c.2.1+1,0)))else MX (lo+c.2.1-1) (lo+c.2.1)>>=λJ=>match J with |AA D=>if D=AJ then Bo (.done (AG,c.2.1,c.2.2))else Bo (.yield (AG,c.2.1+1,c.2.2+1))|_=>Bo (.done (AA AG,c.2.1,c.2.2))
 |_=>Bo (.done (AA AG,c.2.1,c.2.2))
def S1(lo D n:Nat):StateT Ci D6 (Option Nat):=liftM (rule "list.sort.descending-run")>>=λ_=>IK [n+1:D] ((AG,n+1,0):WZ) (λ_ c=>eT lo c)>>=λc=>match c.1 with|AA r=>Bo r|AG=>if c.2.2>0 then NT (lo+c.2.1-(c.2.2+1)) (lo+c.2.1)>>=λ_=>NX lo D c.2.1 else NX lo D c.2.1
theorem fF{J:Array BF}{st:Ci}(C:GN prog w A s G O kf J){lo:Nat}(W:lo+D<=J.size)(K:1<=n)(V:n<=D)(B:Cq G J st)(I:Om kf (Ai st) lo (lo+n))(h:∀m U,Cq G J U->Iq lo st U->1<=m->m<=D->Dr kf (Ai U) lo (lo+m)->Q (AA m) U):FE (Ar prog w) A E s (NX lo D n) Q st:=by
 refine BK (J8 ?_);obtain⟨H,L⟩:=S4 B (Ak lo) (by exact Ah (FX V _) W);have u:Dr kf _ lo _:=λi j Z Y F=>by rw[Wa (by rw[B.wt];exact Ah (FX V _) W),Wa (by rw[B.wt];exact Ah (FX V _) W),AEv (⟨Z,Gs Y F⟩),AEv (⟨Ah Z Y,F⟩)];exact I _ _ (by omega) (Nat.sub_le_sub_left Y _) (by omega)
 refine BK (fC C W K V H u (λm M N u2 _=>?_) λx c=>AEw (MX _ _>>=.) (by grind));exact BZ (by grind)
theorem fA{prog:Ce}{w:CA}{A:Dj}{E:AL->AZ->Prop}{s:AZ}{T:QH}{O:WK}{kf:AL->O.α}{J:Array BF}{st:Ci}(C:GN prog w A s T O kf J){lo U n:Nat}(Z:lo+U<=J.size)(t:1<=n)(y:n<U)(B:Cq T J st)(r:∀k,lo<=k->k<lo+n->BX kf (Ai st) k=BX kf (Ai st) (lo+n-1))(z:O.klt (BX kf (Ai st) (lo+n)) (BX kf (Ai st) (lo+n-1))){Q:Option Nat->Ci->Prop}(h:∀m D,Cq T J D->Iq lo st D->1<=m->m<=U->Dr kf (Ai D) lo (lo+m)->Q (AA m) D):FE (Ar prog w) A E s (S1 lo U n) Q st:=by
 unfold S1;refine BK (QL (NW ⟨rfl,?_⟩));have g:=Om.gv (λi j G H R=>by rw[r i G (Gs H R),r j (Ah G H) R];exact NQ _) t (Kz z);refine BK (Ih (IG (I:=λx c D=>∃e,c=(AG,x,e)/\n+1<=x/\x<=U/\e+1<=x/\Cq T J D/\Iq lo st D/\Om kf (Ai D) lo (lo+x)/\∀k,lo+x-(e+1)<=k->k<lo+x->BX kf (Ai D) k=BX kf (Ai D) (lo+x-1)) (Q:=λc D=>∃x e,c=(AG,x,e)/\n+1<=x/\x<=U/\e+1<=x/\Cq T J D/\Iq lo st D/\Om kf (Ai D) lo (lo+x)/\∀k,lo+x-(e+1)<=k->k<lo+x->BX kf (Ai D) k=BX kf (Ai D) (lo+x-1)) ?iq ?fin ?acv) ?post);case acv=>exact⟨0,rfl,Ak _,y,Kx t,B,S0 _ _,g,(by grind)⟩
 case fin=>grind
 case iq=> intro x c D S F o;lk;obtain⟨e,rfl,v,L,W,V,M,N,Y⟩:=o;k_in;unfold eT;dsimp only;refine BK (Qk C V (Bh (OU F _) Z) (by lia) ?_);cases b:O.blt (BX kf (Ai D) (lo+x)) _ with
  |true=>
   dsimp only;rw[AEv rfl];have l:∀p:Array BF,(∀k,BX kf p k=BX kf (Ai D) k)->Om kf p lo (lo+(x+1)):=λp u=>by have:=N.gv (QE W) (Kz b);intro i j G H R;rw[u,u];exact this i j G H R
   by_cases P:e>0
   . rw[AEv P,ACR];refine BK (J8 (BZ ?_));obtain⟨X,d⟩:=S4 V (show lo<=lo+x-(e+1)by exact(WB (y3 W)).mpr (FX W _)) (show lo+x<=J.size by exact Ah (FX (B6 F) _) Z);exact⟨0,rfl,Kx S,by assumption,by simp,X,M.aa d,l _ (S5 V (Ah (FX (B6 F) _) Z) Y),(by grind)⟩
   . rw[AEu P];exact BZ (by grind)|false=>dsimp only;refine BK (Qk C V (by lia) (Bh (OU F _) Z) ?_);cases q:O.blt _ (BX kf (Ai D) (lo+x))with |true=>exact BZ ⟨x,e,rfl,v,L,W,V,M,N,Y⟩|false=> have ek:=O.total _ _ q b;refine BZ ⟨e+1,rfl,Kx S,by assumption,J3.mpr W,V,M,N.gv (QE W) q,λk G H=>?_⟩;grind
 case post=>
  intro c D o;lk;obtain⟨x,e,rfl,v,L,W,V,M,N,Y⟩:=o;k_in;dsimp only;by_cases P:e>0
  . rw[AEv P,ACR];obtain⟨X,d⟩:=S4 V (show lo<=lo+x-(e+1)by exact(WB (y3 W)).mpr (FX W _)) (show lo+x<=J.size by exact Ah (FX L _) Z);refine fF C Z (cW.mp (cX P W)) L X (λi j G H R=>?_) λm K a f=>h m K a ((M.aa d).aa f);rw[S5 V (Ah (FX L _) Z) Y,S5 V (Ah (FX L _) Z) Y];exact N i j G H R
  . rw[AEu P];exact fF C Z (QE W) L V N λm K a f=>h m K a (M.aa f)
theorem fI{A:Dj}{E:AL->AZ->Prop}{s:AZ}{M:Oa}{J σ:Type}{m D:StateT σ D6 J}{Q:J->σ->Prop}{t:σ}(e:D=m)(h:FE M A E s m Q t):FE M A E s D Q t:=by simp_all
theorem AAy{U:Array BF}{st:Ci}(C:GN prog w A s f O kf U){lo:Nat}(H:lo+D<=U.size)(Z:1<=D)(B:Cq f U st)(h:∀n W,Cq f U W->Iq lo st W->1<=n->n<=D->Dr kf (Ai W) lo (lo+n)->Q (AA n) W):FE (Ar prog w) A E s (countRun' lo D) Q st:=by
  have v:Dr kf (Ai st) lo (lo+1):=λi j F V t=>by obtain rfl:i=j:=Fm V (Ah (DM t) F);exact NQ _
  refine BK (fC C H (Ak _) Z B v (λn L I u e=>?_) λx c=>AEw (MX _ _>>=.) (funext λo=>by cases o<;>rfl));dsimp only;by_cases J:n=D;. subst J;rw[AEv (AE9 n)];exact BZ (h n st B (S0 _ _) L I u)
  . rw[AEu (by simpa using J)];by_cases T:n>1
    . rw[AEv T];refine BK (Qk C B (Bh (Nat.lt_add_right_iff_pos.mpr Z) H) (by omega) ?_);cases b:O.blt _ _ with |true=>exact BZ (h n st B (S0 _ _) L I u)|false=>
        have K:=λk F V=>by refine KeyOrd.kle_antisymm (u k (lo+n-1) F (cV V) (zE V)) (HQ (show O.kle _ _ from b) (u lo k (Ak _) F V))
        refine BK ?_;refine J8 ?_;refine fI (m:=S1 lo D n) ?same ?_;case same=>exact(by
            refine AEw _ (funext λ_=>congr (AEw _ (AEw (IK _ _) (funext λ_=>funext λc=>?_))) (funext λc=>?_));. refine AEw (MX _ _>>=.) (funext λo=>?_);cases o with|none=>rfl|some b=>cases b with|true=>rfl|false=>exact AEw (MX _ _>>=.) (funext λa=>by cases a<;>rfl)
            . obtain⟨N,P⟩:=c;have t3:∀n,NX lo D n=(NT lo (lo+n)>>=λ_=>IK [n:D] ((AG,n):Ir) _>>=λc=>match c.1 with|AA r=>Bo r|AG=>Bo (AA c.2)):=λ_=>rfl;have t4:∀n(X:Nat->Ir->StateT Ci D6 (ForInStep Ir))(Y:Ir->StateT Ci D6 (Option Nat)),(∀x c,X x c=Ql lo c)->(∀c,Y c=match c.1 with|AA r=>Bo r|AG=>Bo (AA c.2))->(NT lo (lo+n)>>=λ_=>IK [n:D] ((AG,n):Ir) X>>=Y)=NX lo D n:=λn X Y Z S=>by rw[t3,show X=λ_ c=>Ql lo c from funext λx=>funext λc=>Z x c,show Y=_ from funext S]
              cases N with |some r=>rfl|none=>
                by_cases z:P.2>0
                . rw[AEv z,AEv z];refine AEw (NT _ _>>=.) (funext λ_=>?_);exact t4 _ _ _ (λx c=>AEw _ (funext λo=>by cases o<;>rfl)) (λc=>by obtain⟨G,R⟩:=c;cases G<;>rfl)
                . rw[AEu z,AEu z];exact t4 _ _ _ (λx c=>AEw _ (funext λo=>by cases o<;>rfl)) (λc=>by obtain⟨G,R⟩:=c;cases G<;>rfl))
        obtain⟨g,p⟩:=S4 B (Ak lo) (by exact Ah (FX I _) H);have M:=S5 B (i:=lo) (j:=lo+n) (Ah (FX I _) H) K;refine fA C H L (EL I J) g (λk F V=>?_) ?_ λm d l q=>h m d l (p.aa q)
        . rw[M,M];exact K k F V
        . rw[M,M];exact e (EL I J)
    . rw[AEu T];refine fI (m:=S1 lo D n) ?same ?_;case same=>exact(by
            refine AEw _ (funext λ_=>congr (AEw _ (AEw (IK _ _) (funext λ_=>funext λc=>?_))) (funext λc=>?_))
            . refine AEw _ (funext λo=>?_);cases o with|none=>rfl|some b=>cases b with|true=>rfl|false=>exact AEw (MX _ _>>=.) (funext λa=>by cases a<;>rfl)
            . obtain⟨N,P⟩:=c;have t3:∀n,NX lo D n=(NT lo (lo+n)>>=λ_=>IK [n:D] ((AG,n):Ir) _>>=λc=>match c.1 with|AA r=>Bo r|AG=>Bo (AA c.2)):=λ_=>rfl;have t4:∀n(X:Nat->Ir->StateT Ci D6 (ForInStep Ir))(Y:Ir->StateT Ci D6 (Option Nat)),(∀x c,X x c=Ql lo c)->(∀c,Y c=match c.1 with |AA r=>Bo r|AG=>Bo (AA c.2))->(NT lo (lo+n)>>=λ_=>IK [n:D] ((AG,n):Ir) X>>=Y)=NX lo D n:=λn X Y Z S=>by rw[t3,show X=λ_ c=>Ql lo c from funext λx=>funext λc=>Z x c,show Y=_ from funext S]
              cases N with |some r=>rfl|none=>
                by_cases z:P.2>0
                . rw[AEv z,AEv z];refine AEw (NT _ _>>=.) (funext λ_=>?_);exact t4 _ _ _ (λx c=>AEw _ (funext λo=>by cases o<;>rfl)) (λc=>by obtain⟨G,R⟩:=c;cases G<;>rfl)
                . rw[AEu z,AEu z];exact t4 _ _ _ (λx c=>AEw _ (funext λo=>by cases o<;>rfl)) (λc=>by obtain⟨G,R⟩:=c;cases G<;>rfl))
      obtain rfl:n=1:=Fm (Ga T) L;exact fA C H L (EL Z J) B (λk F V=>by rw[show k=lo+1-1 by exact cR F V]) (e (EL Z J)) h
def AAt:Bool->BF->Array BF->Nat->Nat->Nat->StateT Ci D6 (Option Nat):=sortPriv%PySem.Builtin.gallop
def AAv:Array BF->Array BF->StateT Ci D6 (Array BF):=sortPriv%PySem.Builtin.mergeLo
def AAu:Array BF->Array BF->StateT Ci D6 (Array BF):=sortPriv%PySem.Builtin.mergeHi
theorem Fp{prog:Ce}{w:CA}{A:Dj}{E:AL->AZ->Prop}{s:AZ}{st:Ci}{D:Array BF}{i:Nat}(hi:i<D.size){Q:BF->Ci->Prop}(h:Q D[i] st):FE (Ar prog w) A E s (WN D i) Q st:=by rw[zM,AFB _ i hi];exact BZ h
def C4{O:WK}(kf:AL->O.α)(left:Bool)(key:BF)(D:Array BF)(base i:Nat):Bool:=if left=AJ then O.blt (BX kf D (base+i)) (kf key.1)else !O.blt (kf key.1) (BX kf D (base+i))
theorem D7{O:WK}{kf:AL->O.α}{D:Array BF}{i:Nat}(hi:i<D.size):BX kf D i=kf D[i].1:=by unfold BX;simp_all
theorem AAw{D:Array BF}{st:Ci}(C:GN prog w A s Y O kf D)(B:Cq Y D st){J:Array BF}(U:key∈D.toList)(W:∀p∈J.toList,p∈D.toList)(hi:base+i<J.size)(h:Q (AA (C4 kf left key J base i)) st):FE (Ar prog w) A E s (WN J (base+i)>>=λx=>if left=AJ then lt' x key else lt' key x>>=λo=>Bo (o.map λb=>!b)) Q st:=by refine BK (Fp hi ?_);have V:J[base+i]∈D.toList:=W _ (by simp);unfold C4 at h;rw[D7 hi]at h;cases left with|true=>exact Qj C B V U h|false=>exact BK (Qj C B U V (BZ h))
theorem AAr{O:WK}{kf:AL->O.α}{left:Bool}{key:BF}{D:Array BF}{base n i j:Nat}(u:Dr kf D base (base+n))(U:i<=j)(V:j<n)(h:C4 kf left key D base j=AJ):C4 kf left key D base i=AJ:=by have J:=u (base+i) (base+j) (by simp) (by simp_all) (by simp_all);unfold C4 at h⊢;cases left with |true=>exact ACE J h|false=>
 have h:O.kle (BX kf D (base+j)) (kf key.1):=by exact Bool.not_inj h
 have:O.blt _ _=AR:=HQ J h;simp_all
theorem Oq{F:Array BF}{st:Ci}(C:GN prog w A s κ O kf F)(B:Cq κ F st){D:Array BF}(hk:key∈F.toList)(ha:∀p∈D.toList,p∈F.toList)(L:base+n<=D.size)(H:hint<n)(u:Dr kf D base (base+n))(h:∀k,k<=n->(∀i,i<k->C4 kf left key D base i=AJ)->(∀i,k<=i->i<n->C4 kf left key D base i=AR)->Q (AA k) st):FE (Ar prog w) A E s (AAt left key D base n hint) Q st:=by
  have T:∀{i:Nat}{Q:Option Bool->Ci->Prop},i<n->Q (AA (C4 kf left key D base i)) st->FE (Ar prog w) A E s _ Q st:=λK q=>AAw C B hk ha (Bh (OU K _) L) q;have M:∀i j,i<=j->j<n->C4 kf left key D base j=AJ->C4 kf left key D base i=AJ:=λi j V U Z=>AAr u V U Z;refine BK (T H ?_);have fin:∀P K,P<=K->K<=n->(∀i,i<P->C4 kf left key D base i=AJ)->(∀i,K<=i->i<n->C4 kf left key D base i=AR)->∀{f:Nat->Option (Option Nat)×Nat×Nat->StateT Ci D6 (ForInStep (Option (Option Nat)×Nat×Nat))}{g:Option (Option Nat)×Nat×Nat->StateT Ci D6 (Option Nat)},(∀x c,f x c=if c.2.1>=c.2.2 then Bo (.done (AG,c.2.1,c.2.2))else(WN D (base+(c.2.1+(c.2.2-c.2.1)/2))>>=λx=>if left=AJ then lt' x key else lt' key x>>=λo=>Bo (o.map λb=>!b))>>=λo=>match o with|AA b=>if b=AJ then Bo (.yield (AG,c.2.1+(c.2.2-c.2.1)/2+1,c.2.2))else Bo (.yield (AG,c.2.1,c.2.1+(c.2.2-c.2.1)/2))|AG=>Bo (.done (AA AG,c.2.1,c.2.2)))->(∀c,g (AG,c)=Bo (AA c.2))->FE (Ar prog w) A E s (IK [:n] ((AG,P,K):Option (Option Nat)×Nat×Nat) f>>=g) Q st:=by
    intro P K d X h3 h4 f g hf hg;refine BK (Ih (IG (I:=λx c J=>J=st/\∃l r,c=(AG,l,r)/\l<=r/\r<=n/\r+x<=n+l/\(∀i,i<l->C4 kf left key D base i=AJ)/\(∀i,r<=i->i<n->C4 kf left key D base i=AR)) (Q:=λc J=>J=st/\∃l,c=(AG,l,l)/\l<=n/\(∀i,i<l->C4 kf left key D base i=AJ)/\(∀i,l<=i->i<n->C4 kf left key D base i=AR)) ?_ ?_ ⟨rfl,P,K,rfl,d,X,Ah X (OV _ _),h3,h4⟩) ?_)
    . rintro x c J _ t⟨rfl,l,r,rfl,V,U,Z,W,Y⟩;rw[hf];dsimp only;by_cases g:l>=r;. rw[AEv g];obtain rfl:l=r:=Fm V g;exact BZ ⟨rfl,l,rfl,U,W,Y⟩
      . rw[AEu g];have v:l<=l+(r-l)/2:=OV _ _;have R:l+(r-l)/2<r:=by(clear Z U V t X d H L;lia)
        refine BK (T (Bh R U) ?_);generalize l+(r-l)/2=m at v R⊢;cases e:C4 kf left key D base m with |true=>exact BZ ⟨rfl,_,r,rfl,R,U,QG (Ah Z (FX v _)),λi z=>M i _ (DM z) (Bh R U) e,Y⟩|false=>exact BZ ⟨rfl,l,_,rfl,v,Ah (B6 R) U,by(clear U V X d H L;lia),W,λi y S=>by cases z:C4 kf left key D base i with|false=>rfl|true=>rw[M _ i y S z]at e;cases e⟩
    . rintro c J⟨rfl,l,r,rfl,V,U,Z,W,Y⟩;rw[AB6 (BY _),V8]at Z;obtain rfl:l=r:=Fm V (AB3 Z);exact⟨rfl,l,rfl,U,W,Y⟩
    . rintro c J⟨rfl,l,rfl,U,W,Y⟩;rw[hg];exact BZ (h l U W Y)
  cases e:C4 kf left key D base hint with |true=>
    refine BK (Ih (IG (I:=λx c J=>J=st/\∃l o,c=(AG,l,o)/\l<o/\hint+l<n/\x+1<=o/\C4 kf left key D base (hint+l)=AJ) (Q:=λc J=>J=st/\∃l o,c=(AG,l,o)/\l<o/\hint+l<n/\C4 kf left key D base (hint+l)=AJ/\(o>=n-hint\/(hint+o<n/\C4 kf left key D base (hint+o)=AR))) ?_ ?_ ⟨rfl,0,1,rfl,by simp,by omega,(by decide),e⟩) ?_)
    . intro x c J _ t G;lk;obtain⟨rfl,l,o,rfl,V,U,Z,W⟩:=G;k_in;dsimp only;by_cases g:o>=n-hint
      . rw[AEv g];exact BZ ⟨rfl,l,o,rfl,V,U,W,.inl g⟩
      . rw[AEu g];refine BK (T (Ld (MU g)) ?_);cases N:C4 kf left key D base (hint+o)with|true=>exact BZ ⟨rfl,o,_,rfl,NM.mpr (AB2 _ (by decide)),Ld (MU g),by lia,N⟩|false=>exact BZ ⟨rfl,l,o,rfl,V,U,W,.inr ⟨Ld (MU g),N⟩⟩
    . intro c J G;lk;obtain⟨rfl,l,o,rfl,V,U,Z,W⟩:=G;k_in;exact⟨rfl,l,o,rfl,V,U,W,.inl (B6 (Sl Z))⟩
    . intro c J G;lk;obtain⟨rfl,l,o,rfl,V,U,W,Y⟩:=G;k_in;refine fin (hint+l+1) (hint+D5 o (n-hint)) (by omega) ((MT (B6 H)).mp (QF _ _)) (λi z=>M i _ (DM z) U W) (λi y S=>?_) (λx c=>?_) (λc=>rfl)
      . rcases Y with Y|⟨Y,a⟩;.lia
        .cases z:C4 kf left key D base i with|false=>rfl|true=>rw[M (hint+o) i (by(clear Y U V L;lia)) S z]at a;cases a
      . dsimp only;split;.rfl
        .exact AEw (_>>=.) (funext λo=>by cases o<;>rfl)|false=>
    refine BK (Ih (IG (I:=λx c J=>J=st/\∃l o,c=(AG,l,o)/\l<o/\l<=hint/\x+1<=o/\C4 kf left key D base (hint-l)=AR) (Q:=λc J=>J=st/\∃l o,c=(AG,l,o)/\l<o/\l<=hint/\C4 kf left key D base (hint-l)=AR/\(o>=hint+1\/(o<=hint/\C4 kf left key D base (hint-o)=AJ))) ?_ ?_ ⟨rfl,0,1,rfl,by simp,by simp,(by decide),e⟩) ?_)
    . intro x c J _ t G;lk;obtain⟨rfl,l,o,rfl,V,U,Z,W⟩:=G;k_in;dsimp only;by_cases g:o>=hint+1;. rw[AEv g];exact BZ ⟨rfl,l,o,rfl,V,U,W,.inl g⟩
      . rw[AEu g];refine BK (T (Sl H) ?_);cases N:C4 kf left key D base (hint-o)with |false=>exact BZ ⟨rfl,o,_,rfl,NM.mpr (AB2 _ (by decide)),DM (MU g),by lia,N⟩|true=>exact BZ ⟨rfl,l,o,rfl,V,U,W,.inr ⟨DM (MU g),N⟩⟩
    . intro c J G;lk;obtain⟨rfl,l,o,rfl,V,U,Z,W⟩:=G;k_in;exact⟨rfl,l,o,rfl,V,U,W,.inl (Nat.le_of_pred_lt (cX H Z))⟩
    . intro c J G;lk;obtain⟨rfl,l,o,rfl,V,U,W,Y⟩:=G;k_in;refine fin (hint+1-D5 o (hint+1)) (hint-l) (by(clear Y H L;omega)) (B6 (Sl H)) (λi z=>?_) (λi y S=>?_) (λx c=>?_) (λc=>rfl)
      . rcases Y with Y|⟨Y,a⟩;. (clear U V H L;simp_all)
        .exact M i _ (by(clear U V H L;grind)) (Sl H) a
      .cases z:C4 kf left key D base i with|false=>rfl|true=>rw[M (hint-l) i (by omega) S z]at W;cases W
      . dsimp only;split;.rfl
        .exact AEw (_>>=.) (funext λo=>by cases o<;>rfl)
structure EM(R:BF->BF->Prop)(la lb lo:List BF)(i j:Nat):Prop where
 mf:lo.Perm (la.take i++lb.take j)aac:lo.Pairwise R
 a:∀x∈lo,∀y∈la.drop i,R x y
 b:∀x∈lo,∀y∈lb.drop j,R x y
theorem EM.vi{lo:List BF}(h:EM R D U lo i j):EM R U D lo j i:=⟨h.mf.trans Sh,h.aac,h.b,h.a⟩
theorem EM.wk{U Y lo:List BF}(h:EM R U Y lo i j)(C:U.Pairwise R)(W:∀x∈(U.drop i).take k,∀y∈Y.drop j,R x y):EM R U Y (lo++(U.drop i).take k) (i+k) j:=by
  have E:((U.drop i).take k++(U.drop i).drop k).Pairwise R:=by rw[QD];exact C.sublist (ABf _ _)
  lk;obtain⟨A,_,B⟩:=OQ.mp E;k_in;have Z:U.drop (i+k)=(U.drop i).drop k:=by rw[yJ]
  refine⟨?_,OQ.mpr ⟨h.aac,A,λx W y D=>h.a x W y (cN D)⟩,λx V y D=>?_,λx V y D=>?_⟩
  . rw[ABw,Ea];refine(h.mf.append_right _).trans ?_;rw[Ea];exact yI _ Sh
  . rw[Z]at D;rcases DS.mp V with q|q;.exact h.a x q y (cM D)
    .exact B x q y D
  . rcases DS.mp V with q|q;.exact h.b x q y D
    .exact W x q y D
theorem EM.yf{U D lo:List BF}(h:EM R U D lo i j)(W:D.Pairwise R)(V:∀x∈(D.drop j).take k,∀y∈U.drop i,R x y):EM R U D (lo++(D.drop j).take k) i (j+k):=(h.vi.wk W V).vi
def GO(R:BF->BF->Prop)(D J l:List BF):Prop:=l.Perm (D++J)/\l.Pairwise R
theorem EM.zt{D U lo:List BF}(h:EM R D U lo i j)(B:D.Pairwise R)(C:U.Pairwise R)(Y:∀x∈D.drop i,∀y∈U.drop j,R x y):GO R D U (lo++D.drop i++U.drop j):=by
  refine⟨?_,OQ.mpr ⟨OQ.mpr ⟨h.aac,(by grind),h.a⟩,(by grind),λx V y W=>?_⟩⟩
  . refine((h.mf.append_right _).append_right _).trans ?_;have Z:D=D.take i++D.drop i:=(by simp_all);have A:U=U.take j++U.drop j:=(by simp);grind
  . rcases DS.mp V with q|q;.exact h.b x q y W
    exact Y _ q _ W
theorem GO.vi(h:GO R J D l):GO R D J l:=⟨h.1.trans Sh,h.2⟩
theorem fH{out a:Array BF}:(out++a.extract i (i+k)).toList=out.toList++(a.toList.drop i).take k:=by simp_all
theorem S6{a:Array BF}:(a.extract i).toList=a.toList.drop i:=by simp;exact Ed (by simp)
theorem Qi{a:Array BF}(hi:i<a.size):(a.toList.drop i).take 1=[a[i]]:=by rw[cA (by assumption)];simp
theorem fG{out a:Array BF}(hi:i<a.size):(out.push a[i]).toList=out.toList++(a.toList.drop i).take 1:=by rw[Qi hi];simp
def Bp{O:WK}(kf:AL->O.α):BF->BF->Prop:=λp q=>O.kle (kf p.1) (kf q.1)
theorem Lj{O:WK}{kf:AL->O.α}{a:Array BF}(h:a.toList.Pairwise (Bp kf)){lo hi:Nat}(D:hi<=a.size):Dr kf a lo hi:=λi j V J U=>by
 by_cases z:i=j;.rw[z];exact NQ _
 . rw[D7 _,D7 _];have:=Gq.mp h i j (Bh (Gs J U) D) (Bh U D) (EL J z);assumption
theorem Oo{a:Array BF}(h:p∈a.toList.drop i):∃k,∃(D:i+k<a.size),p=a[i+k]:=by lk;obtain⟨k,D,e⟩:=FN.mp h;k_in;grind
theorem Qg{a:Array BF}(h:p∈(a.toList.drop i).take k):∃m,m<k/\∃(D:i+m<a.size),p=a[i+m]:=by lk;obtain⟨m,J,e⟩:=FN.mp h;k_in;grind
section
variable{κ:QH}{a₀:Array BF}{st:Ci}
structure IJ(κ:QH)(a₀:Array BF)(st st':Ci):Prop where
 sb:Cq κ a₀ st'
 adj:Ai st'=Ai st
 xk:CD st'=CD st
end
theorem IJ.aci{st:Ci}(x:IJ U J st D)(g:Nat):IJ U J st (dC (dG D) (Ai D) (CD D) g (NS D)):=⟨⟨x.sb.mf,x.sb.ie,x.sb.kh⟩,x.adj,x.xk⟩
theorem DH{M:Oa}{A:Dj}{E:AL->AZ->Prop}{s:AZ}{D:Type}{c:Prop}[Decidable c]{x y:StateT Ci D6 D}{Q:D->Ci->Prop}{st:Ci}(h:c)(k:FE M A E s x Q st):FE M A E s (if c then x else y) Q st:=by simp_all
theorem DX{M:Oa}{A:Dj}{E:AL->AZ->Prop}{s:AZ}{D:Type}{c:Prop}[Decidable c]{x y:StateT Ci D6 D}{Q:D->Ci->Prop}{st:Ci}(h:¬c)(k:FE M A E s y Q st):FE M A E s (if c then x else y) Q st:=by simp_all
theorem AA2{K:Array BF}{st:Ci}(C:GN prog w A s κ O kf K)(B:Cq κ K st){a b:Array BF}(ha:∀p∈a.toList,p∈K.toList)(hb:∀p∈b.toList,p∈K.toList)(a1:1<=a.size)(b1:1<=b.size)(pa:a.toList.Pairwise (Bp kf))(pb:b.toList.Pairwise (Bp kf))(M:∀p∈a.toList,Bp kf b[0] p)(X:∀p∈b.toList,Bp kf p a[a.size-1])(h:∀m H,IJ κ K st H->GO (Bp kf) a.toList b.toList m.toList->Q m H):FE (Ar prog w) A E s (AAv a b) Q st:=by
  have T:∀{D:Array BF}{V Y:Nat},EM (Bp kf) a.toList b.toList D.toList V Y->(Y=b.size\/V=a.size)->GO (Bp kf) a.toList b.toList (D++a.extract V++b.extract Y).toList:=λ{D V Y}j e=>by
    rw[Wc,Wc,S6,S6];refine j.zt pa pb λx P y R=>?_;rcases e with rfl|rfl;.rw[ABe (by simp)]at R;cases R
    .rw[ABe (by simp)]at P;cases P
  have t:∀{D:Array BF}{V Y:Nat},EM (Bp kf) a.toList b.toList D.toList V Y->V+1=a.size->GO (Bp kf) a.toList b.toList (D++b.extract Y++a.extract V).toList:=λ{D V Y}j e=>by rw[Wc,Wc,S6,S6];refine(j.vi.zt pb pa λx P y R=>?_).vi;obtain⟨k,d,rfl⟩:=Oo R;have:k=0:=cR (BY _) (Nat.lt_of_add_lt_add_left (Bh d (Bw e.symm)));subst this;have:=X x (cM P);simpa[show a.size-1=V by exact(zB a1).mpr e.symm]using this
  have am:∀{i:Nat}(hi:i<a.size),a[i]∈K.toList:=λhi=>ha _ (by simp);have bm:∀{i:Nat}(hi:i<b.size),b[i]∈K.toList:=λhi=>hb _ (by simp);have la:∀{i k:Nat}(d:i+k<a.size),Bp kf (a[i]'(WC d)) a[i+k]:=λ{i k}d=>by have:=Lj pa (lo:=0) (Ak _) i (i+k) (by simp) (by simp) d;rw[D7 (WC d:i<a.size),D7 d]at this;exact this
  have lb:∀{i k:Nat}(d:i+k<b.size),Bp kf (b[i]'(WC d)) b[i+k]:=λ{i k}d=>by have:=Lj pb (lo:=0) (Ak _) i (i+k) (by simp) (by simp) d;rw[D7 (WC d:i<b.size),D7 d]at this;exact this
  have oneB:∀{D:Array BF}{V Y:Nat}(h1:V<a.size)(h2:Y<b.size),EM (Bp kf) a.toList b.toList D.toList V Y->Bp kf b[Y] a[V]->EM (Bp kf) a.toList b.toList (D.push b[Y]).toList V (Y+1):=λ{D V Y}h1 h2 j r=>by rw[fG h2];refine j.yf pb λx P y R=>?_;rw[Qi h2,By]at P;obtain⟨k,d,rfl⟩:=Oo R;rw[P];exact HQ r (la d)
  have oneA:∀{D:Array BF}{V Y:Nat}(h1:V<a.size)(h2:Y<b.size),EM (Bp kf) a.toList b.toList D.toList V Y->Bp kf a[V] b[Y]->EM (Bp kf) a.toList b.toList (D.push a[V]).toList (V+1) Y:=λ{D V Y}h1 h2 j r=>by rw[fG h1];refine j.wk pa λx P y R=>?_;rw[Qi h1,By]at P;obtain⟨k,d,rfl⟩:=Oo R;rw[P];exact HQ r (lb d)
  refine BK (QL (NW ⟨rfl,?_⟩));refine BK (Fp (by assumption:0<b.size) ?_);have j0:EM (Bp kf) a.toList b.toList (#[b[0]]:Array BF).toList 0 1:=by
    refine⟨?_,by simp,λx P y R=>?_,λx P y R=>?_⟩
    . rw[<-Qi (by assumption:0<b.size)];simp
    .simp at P R;subst P;exact M y (by simpa using R)
    . simp only[By]at P;obtain⟨k,d,rfl⟩:=Oo R;rw[P];have:=lb (i:=0) (k:=1+k) (Ld d);simpa using this
  by_cases e1:1=b.size
  . refine DH (by simpa using e1) ?_;exact BZ (h _ st ⟨B,rfl,rfl⟩ (T j0 (.inl e1)))
  refine DX (by simpa using e1) ?_;by_cases e2:0+1=a.size;. refine DH (by simpa using e2) ?_;exact BZ (h _ st ⟨B,rfl,rfl⟩ (t j0 e2))
  refine DX (by simpa using e2) ?_;refine BK (MY ?_);refine BK (Ih (IG (I:=λx c H=>IJ κ K st H/\∃D V Y g,c=(AG,D,V,Y,g)/\EM (Bp kf) a.toList b.toList D.toList V Y/\V+1<a.size/\Y<b.size/\x+1<=V+Y) (Q:=λc H=>IJ κ K st H/\∃r,c.1=AA r/\GO (Bp kf) a.toList b.toList r.toList) ?iq ?fin ?acv) ?post);case acv=>exact⟨⟨B,rfl,rfl⟩,_,0,1,_,rfl,j0,EL a1 e2,EL b1 e1,(by decide)⟩
  case fin=> intro c H hI;lk;obtain⟨S,D,V,Y,g,rfl,j,h1,h2,h3⟩:=hI;k_in;lia
  case post=> intro c H hI;lk;obtain⟨S,r,e,f⟩:=hI;obtain⟨c1,c2⟩:=c;obtain rfl:c1=AA r:=e;k_in;exact BZ (h r H S f)
  case iq=>
    intro x c st1 _ P hI;lk;obtain⟨S,D,V,Y,g,rfl,j,h1,h2,h3⟩:=hI;k_in;refine BK (Ih (IG (I:=λy c H=>H=st1/\∃L W F p q,c=(AG,L,W,F,p,q)/\EM (Bp kf) a.toList b.toList L.toList W F/\W+1<a.size/\F<b.size/\V+Y+y<=W+F) (Q:=λc H=>H=st1/\((∃r,c.1=AA r/\GO (Bp kf) a.toList b.toList r.toList)\/∃L W F p q,c=(AG,L,W,F,p,q)/\EM (Bp kf) a.toList b.toList L.toList W F/\W+1<a.size/\F<b.size/\V+Y+1<=W+F)) ?s1 ?s2 ?s3) ?s4);case s3=>exact⟨rfl,D,V,Y,0,0,rfl,j,h1,h2,Ak _⟩
    case s2=> intro c H hI;lk;obtain⟨rfl,L,W,F,p,q,rfl,j',o,g2,g3⟩:=hI;k_in;exact⟨rfl,.inr ⟨L,W,F,p,q,rfl,j',o,g2,by lia⟩⟩
    case s1=> intro y c H _ R hI;lk;obtain⟨rfl,L,W,F,p,q,rfl,j',o,g2,g3⟩:=hI;k_in;refine BK (Fp g2 (BK (Fp (IF o:W<a.size) (BK (Qj C S.sb (bm g2) (am (IF o)) ?_)))));cases e:O.blt (kf b[F].1) (kf (a[W]'(IF o)).1)with
      |true=>
        refine DH rfl ?_;refine BK (Fp g2 ?_);have j2:=oneB (IF o) g2 j' (Kz e);by_cases z:F+1=b.size;. refine DH (by simpa using z) ?_;exact BZ ⟨rfl,.inl ⟨_,rfl,T j2 (.inl z)⟩⟩
        . refine DX (by simpa using z) ?_;split;.exact BZ ⟨rfl,.inr ⟨_,_,_,_,_,rfl,j2,o,by dsimp only;exact EL g2 z,by dsimp only;exact J3.mpr (ET g3)⟩⟩
          .exact BZ ⟨rfl,_,_,_,_,_,rfl,j2,o,by dsimp only;exact EL g2 z,by dsimp only;exact J3.mpr g3⟩|false=>
        refine DX Dw ?_;refine BK (Fp (IF o:W<a.size) ?_);have j2:=oneA (IF o) g2 j' e;by_cases z:W+1+1=a.size;. refine DH (by simpa using z) ?_;exact BZ ⟨rfl,.inl ⟨_,rfl,t j2 z⟩⟩
        . refine DX (by simpa using z) ?_;split;.exact BZ ⟨rfl,.inr ⟨_,_,_,_,_,rfl,j2,by dsimp only;exact EL o z,g2,by dsimp only;lia⟩⟩
          .exact BZ ⟨rfl,_,_,_,_,_,rfl,j2,by dsimp only;exact EL o z,g2,by dsimp only;lia⟩
    case s4=>
      rintro c H⟨rfl,⟨r,e,f⟩|⟨L,W,F,p,q,rfl,j',o,g2,g3⟩⟩;. obtain⟨c1,c2⟩:=c;obtain rfl:c1=AA r:=e;exact BZ ⟨S,r,rfl,f⟩
      refine BK (QL (NW ⟨rfl,?_⟩));refine BK (Ih (IG (I:=λy c st2=>IJ κ K st st2/\∃o2 i2 U m2 p q,c=(AG,o2,i2,U,m2,p,q)/\EM (Bp kf) a.toList b.toList o2.toList i2 U/\i2+1<a.size/\U<b.size/\V+Y+1<=i2+U) (Q:=λc st2=>IJ κ K st st2/\((∃r,c.1=AA r/\GO (Bp kf) a.toList b.toList r.toList)\/∃o2 i2 U m2 p q,c=(AG,o2,i2,U,m2,p,q)/\EM (Bp kf) a.toList b.toList o2.toList i2 U/\i2+1<a.size/\U<b.size/\V+Y+1<=i2+U)) ?t1 ?t2 ?t3) ?t4);case t3=>exact⟨S,L,W,F,_,p,q,rfl,j',o,g2,g3⟩
      case t2=>rintro c st2⟨S2,r⟩;exact⟨S2,.inr r⟩
      case t4=>
        rintro c st2⟨S2,⟨r,e,f⟩|⟨o2,i2,U,m2,p,q,rfl,j2,f1,f2,f3⟩⟩
        . obtain⟨c1,c2⟩:=c;obtain rfl:c1=AA r:=e;exact BZ ⟨S2,r,rfl,f⟩
        .refine BK (J8 (BZ ⟨S2.aci _,o2,i2,U,_,rfl,j2,f1,f2,cW.mp (Gs h3 f3)⟩))
      case t1=>
        intro y c st2 _ R hI;lk;obtain⟨S2,o2,i2,U,m2,p,q,rfl,j2,f1,f2,f3⟩:=hI;k_in;refine(λ(N:∀m3:Nat,(?G:Nat->Prop) m3)=>?u) ?v;case u=>
          by_cases z:m2>1
          . refine DH z ?_;generalize m2-1=m3;exact N m3
          . refine DX z ?_;generalize m2=m3;exact N m3
        case v=>
          intro m3;refine BK (J8 ?_);have S3:=S2.aci m3;refine BK (Fp f2 ?_);refine(λ(N:∀(k i3:Nat)(o3:Array BF),EM (Bp kf) a.toList b.toList o3.toList i3 U->(∀m(l:m<a.size),i3<=m->Bp kf b[U] a[m])->i3+1<a.size->V+Y+1<=i3+U->(?G2:Nat->Nat->Array BF->Prop) k i3 o3)=>?u2) ?v2;case u2=>
            refine BK (Oq C S3.sb (bm f2) ha (by dsimp only;exact(MT (ET (B6 f1))).mp (Ak _)) (by dsimp only;exact WD.mpr (IF f1)) (Lj pa (by dsimp only;exact(MT (ET (B6 f1))).mp (Ak _))) λk d bl bg=>?_);dsimp only at d;have runA:∀m,m<k->∀(l:i2+m<a.size),Bp kf a[i2+m] b[U]:=λm z l=>by have:=bl m z;unfold C4 at this;rw[AEu Dw,D7 l]at this;show O.blt _ _=AR;simpa using this
            have runB:∀m,k<=m->∀(l:i2+m<a.size),Bp kf b[U] a[i2+m]:=λm z l=>by have:=bg m z (by(clear z runA bg bl d N f3 f2 R g3 g2 o h3 h2 h1 P e2 e1 j0 X M b1 a1;dsimp only;exact WD.mpr l));unfold C4 at this;rw[AEu Dw,D7 l]at this;exact Kz (by show O.blt _ _=AJ;simpa using this)
            have j3:EM (Bp kf) a.toList b.toList (o2++a.extract i2 (i2+k)).toList (i2+k) U:=by rw[fH];refine j2.wk pa λx P y R=>?_;obtain⟨m,l,hm2,rfl⟩:=Qg P;obtain⟨m',hm',rfl⟩:=Oo R;exact HQ (runA m l hm2) (lb hm')
            have pre:(k>0/\i2+k+1=a.size)\/(k>0/\i2+k=a.size)\/i2+k+1<a.size:=by(clear runB runA bg bl N f3 f2 R g3 g2 o h3 h2 h1 P e2 e1 j0 X M b1 a1;lia)
            rcases pre with⟨zk,n⟩|⟨zk,n⟩|n;. refine DH zk (DH (by simpa using n) ?_);exact BZ ⟨S3,.inl ⟨_,rfl,t j3 n⟩⟩
            . refine DH zk (DX (by simp;exact NN (NM.mpr (Bw n.symm))) (DH (by simpa using n) ?_));exact BZ ⟨S3,.inl ⟨_,rfl,T j3 (.inr n)⟩⟩
            have hB3:∀m(l:m<a.size),i2+k<=m->Bp kf b[U] a[m]:=λm l z=>by have:=runB (m-i2) ((MT (ET z)).mpr z) (lt_of_eq_of_lt (Ig (ET z)) l);simpa[show i2+(m-i2)=m from Ig (ET z)]using this
            by_cases zk:k>0
            . refine DH zk (DX (by simp;exact Ee n) (DX (by simp;exact Ee (IF n)) ?_));generalize o2++a.extract i2 (i2+k)=o3 at j3⊢;have f3':V+Y+1<=(i2+k)+U:=by lia
              generalize i2+k=i3 at j3 hB3 n f3'⊢;exact N k i3 o3 j3 hB3 n f3'
            . refine DX zk ?_;have zk0:k=0:=AB1 (Ga zk);have eo:o2++a.extract i2 (i2+k)=o2:=by rw[zk0];simp;exact J5 _ _
              rw[eo,zk0,V9]at j3;rw[zk0,V9]at hB3 n;exact N k i2 o2 j3 hB3 n f3
          case v2=>
            intro k i3 o3 j3 hB3 n f3';have hi3:i3<a.size:=IF n;refine BK (Fp f2 ?_);have j4:=oneB (by omega) f2 j3 (hB3 i3 (by omega) (Ak _));by_cases z3:U+1=b.size
            . refine DH (by simpa using z3) ?_;exact BZ ⟨S3,.inl ⟨_,rfl,T j4 (.inl z3)⟩⟩
            refine DX (by simpa using z3) ?_;refine BK (Fp (by omega:i3<a.size) ?_);refine(λ(N:∀(k' k5:Nat)(o5:Array BF),EM (Bp kf) a.toList b.toList o5.toList i3 k5->(∀m(l:m<b.size),k5<=m->Bp kf (a[i3]'hi3) b[m])->k5<b.size->V+Y+1<=i3+k5->(?G3:Nat->Nat->Array BF->Prop) k' k5 o5)=>?u3) ?v3;case u3=>
              refine BK (Oq C S3.sb (am (by omega)) hb (by dsimp only;exact Bw (Ig f2)) (by(clear N hi3 f3' n f3 f1 R g3 g2 o h3 h2 h1 P e2 e1 j0 X M b1 a1;dsimp only;exact WD.mpr (EL f2 z3))) (Lj pb (by dsimp only;exact Bw (Ig f2))) λk' hk' bl' bg'=>?_);dsimp only at hk';have runB':∀m,m<k'->∀(l:U+1+m<b.size),Bp kf b[U+1+m] (a[i3]'(by omega)):=λm z l=>by have:=bl' m z;unfold C4 at this;rw[AEv rfl,D7 l]at this;exact Kz this
              have Z:∀m(l:m<b.size),U+1+k'<=m->Bp kf (a[i3]'(by omega)) b[m]:=λm l z=>by have:=bg' (m-(U+1)) ((MT (ET z)).mpr z) (by(clear runB' bg' bl' hk' N z3 hi3 f3' n f3 f1 R g3 g2 o h3 h2 h1 P e2 e1 j0 X M b1 a1;dsimp only;exact Nat.sub_lt_sub_right (ET z) l));unfold C4 at this;rw[AEv rfl]at this;have e:U+1+(m-(U+1))=m:=Ig (ET z);rw[e,D7 l]at this;exact this
              have j5:EM (Bp kf) a.toList b.toList (o3.push b[U]++b.extract (U+1) (U+1+k')).toList i3 (U+1+k'):=by rw[fH];refine j4.yf pb λx P y R=>?_;obtain⟨m,l,hm2,rfl⟩:=Qg P;obtain⟨m',hm',rfl⟩:=Oo R;exact HQ (runB' m l hm2) (la hm')
              have pre:(k'>0/\U+1+k'=b.size)\/U+1+k'<b.size:=by(clear Z runB' bg' bl' N hi3 f3' n f3 f1 R g3 g2 o h3 h2 h1 P e2 e1 j0 X M b1 a1;lia)
              rcases pre with⟨zk',z4⟩|z4;. refine DH zk' (DH (by simpa using z4) ?_);exact BZ ⟨S3,.inl ⟨_,rfl,T j5 (.inl z4)⟩⟩
              have f4':V+Y+1<=i3+(U+1+k'):=by lia
              by_cases zk':k'>0
              . refine DH zk' (DX (by simp;exact Ee z4) ?_);generalize o3.push b[U]++b.extract (U+1) (U+1+k')=o5 at j5⊢;generalize U+1+k'=k5 at j5 Z z4 f4'⊢;exact N k' k5 o5 j5 Z z4 f4'
              . refine DX zk' ?_;have zk0:k'=0:=by(exact AB1 (Ga zk'))
                have eo:o3.push b[U]++b.extract (U+1) (U+1+k')=o3.push b[U]:=by rw[zk0];simp;(clear zk0 zk' f4' z4 Z runB' bg' bl' hk' N z3 hi3 f3' n f3 f1 R g3 g2 o h3 h2 h1 P e2 e1 j0 X M b1 a1;exact J5 _ _)
                rw[eo,zk0,V9]at j5;rw[zk0,V9]at Z z4 f4';exact N k' _ _ j5 Z z4 f4'
            case v3=>
              intro k' k5 o5 j5 Z z4 f4';refine BK (Fp (by omega:i3<a.size) ?_);have j6:=oneA (by omega) z4 j5 (Z k5 z4 (Ak _));by_cases z5:i3+1+1=a.size;. refine DH (by simpa using z5) ?_;exact BZ ⟨S3,.inl ⟨_,rfl,t j6 z5⟩⟩
              refine DX (by simpa using z5) ?_;by_cases z6:(Aa (k<7)&&Aa (k'<7))=AJ
              . refine DH z6 ?_;exact BZ ⟨S3,.inr ⟨_,_,_,_,_,_,rfl,j6,EL n z5,z4,by lia⟩⟩
              . refine DX z6 ?_;exact BZ ⟨S3,_,_,_,_,_,_,rfl,j6,EL n z5,z4,by lia⟩
theorem Qf(a:Array BF)(h:n<=a.size):a.toList.reverse.drop (a.size-n)=(a.toList.take n).reverse:=by rw[List.drop_reverse];grind
theorem K5{a:Array BF}(h:n<=a.size)(J:x∈a.toList.reverse.drop (a.size-n)):∃m,∃(D:m<a.size),m<n/\x=a[m]:=by lk;obtain⟨m,D,e⟩:=FN.mp J;k_in;grind
theorem Qm(a:Array BF)(h:n<=a.size)(D:t<=n):(a.toList.reverse.drop (a.size-n)).take (n-t)=(a.extract t n).toList.reverse:=by rw[Qf a h,List.take_reverse];simp;rw[List.drop_take];grind
theorem Qh(a:Array BF)(h:n<=a.size)(D:1<=n):(a.toList.reverse.drop (a.size-n)).take 1=[a[n-1]]:=by have e:=Qm a h (show n-1<=n by simp);rw[show n-(n-1)=1 by exact c9 D]at e;rw[e];have:=Qi (MV D h);simp;grind
theorem eU{D J l:List BF}(h:GO (λp q=>R q p) D.reverse J.reverse l.reverse):GO R D J l:=by refine⟨(List.reverse_perm l).symm.trans (h.1.trans (by grind)),?_⟩;exact yU.mp h.2
abbrev G7{O:WK}(kf:AL->O.α)(a b out:Array BF)(D U:Nat):Prop:=EM (λp q=>Bp kf q p) a.toList.reverse b.toList.reverse out.toList (a.size-D) (b.size-U)
theorem AA1{N:Array BF}{st:Ci}(C:GN prog w A s κ O kf N)(B:Cq κ N st){a b:Array BF}(ha:∀p∈a.toList,p∈N.toList)(hb:∀p∈b.toList,p∈N.toList)(a1:1<=a.size)(b1:1<=b.size)(pa:a.toList.Pairwise (Bp kf))(pb:b.toList.Pairwise (Bp kf))(o:∀p∈a.toList,Bp kf b[0] p)(last:∀p∈b.toList,Bp kf p a[a.size-1])(h:∀m M,IJ κ N st M->GO (Bp kf) a.toList b.toList m.toList->Q m M):FE (Ar prog w) A E s (AAu a b) Q st:=by
  have pa':a.toList.reverse.Pairwise (λp q=>Bp kf q p):=yU.mpr pa;have pb':b.toList.reverse.Pairwise (λp q=>Bp kf q p):=yU.mpr pb;have n:∀{D:Array BF}{Y W:Nat},Y<=a.size->W<=b.size->G7 kf a b D Y W->(Y=0\/W=0)->GO (Bp kf) a.toList b.toList (a.extract 0 Y++b.extract 0 W++D.reverse).toList:=λ{D Y W}q1 q2 j e=>by
    refine eU ?_;have el:(a.extract 0 Y++b.extract 0 W++D.reverse).toList.reverse=D.toList++b.toList.reverse.drop (b.size-W)++a.toList.reverse.drop (a.size-Y):=by rw[Qf a q1,Qf b q2];simp[Vx]
    rw[el];refine(j.vi.zt pb' pa' λx X y hy=>?_).vi;obtain⟨m,hm,z,rfl⟩:=K5 q2 X;obtain⟨m',hm',z',rfl⟩:=K5 q1 hy;lia
  have l:∀{D:Array BF}{Y W:Nat},Y<=a.size->W<=b.size->G7 kf a b D Y W->W=1->GO (Bp kf) a.toList b.toList (b.extract 0 W++a.extract 0 Y++D.reverse).toList:=λ{D Y W}q1 q2 j e=>by
    refine eU ?_;have el:(b.extract 0 W++a.extract 0 Y++D.reverse).toList.reverse=D.toList++a.toList.reverse.drop (a.size-Y)++b.toList.reverse.drop (b.size-W):=by rw[Qf a q1,Qf b q2];simp[Vx]
    rw[el];refine j.zt pa' pb' λx X y hy=>?_;obtain⟨m,hm,z,rfl⟩:=K5 q1 X;obtain⟨m',hm',z',rfl⟩:=K5 q2 hy;have:m'=0:=by simp_all
    subst this;exact o _ (by simp)
  have am:∀{i:Nat}(hi:i<a.size),a[i]∈N.toList:=λhi=>ha _ (by simp);have bm:∀{i:Nat}(hi:i<b.size),b[i]∈N.toList:=λhi=>hb _ (by simp);have la:∀{i k:Nat}(hk:k<a.size)(h:i<=k),Bp kf (a[i]'(Gs h hk)) a[k]:=λ{i k}hk h=>by have:=Lj pa (lo:=0) (Ak _) i k (by simp) (by omega) hk;rw[D7 (Gs h hk:i<a.size),D7 hk]at this;exact this
  have lb:∀{i k:Nat}(hk:k<b.size)(h:i<=k),Bp kf (b[i]'(Gs h hk)) b[k]:=λ{i k}hk h=>by have:=Lj pb (lo:=0) (Ak _) i k (by simp) (by omega) hk;rw[D7 (Gs h hk:i<b.size),D7 hk]at this;exact this
  have oneA:∀{D:Array BF}{Y W:Nat}(h1:1<=Y)(h2:Y<=a.size)(h3:1<=W)(h4:W<=b.size),G7 kf a b D Y W->Bp kf b[W-1] a[Y-1]->G7 kf a b (D.push a[Y-1]) (Y-1) W:=λ{D Y W}h1 h2 h3 h4 j r=>by
    have e:(D.push a[Y-1]).toList=D.toList++(a.toList.reverse.drop (a.size-Y)).take 1:=by rw[Qh a h2 h1];simp
    show EM _ _ _ (D.push a[Y-1]).toList _ _;rw[e,show a.size-(Y-1)=a.size-Y+1 by(clear r h4 h3 last o b1 a1;lia)];refine j.wk pa' λx X y hy=>?_;rw[Qh a h2 h1,By]at X;obtain⟨m,hm,z,rfl⟩:=K5 h4 hy;rw[X];exact HQ (lb (MV h3 h4) ((WB h3).mpr z:m<=W-1)) r
  have oneB:∀{D:Array BF}{Y W:Nat}(h1:1<=Y)(h2:Y<=a.size)(h3:1<=W)(h4:W<=b.size),G7 kf a b D Y W->Bp kf a[Y-1] b[W-1]->G7 kf a b (D.push b[W-1]) Y (W-1):=λ{D Y W}h1 h2 h3 h4 j r=>by
    have e:(D.push b[W-1]).toList=D.toList++(b.toList.reverse.drop (b.size-W)).take 1:=by rw[Qh b h4 h3];simp
    show EM _ _ _ (D.push b[W-1]).toList _ _;rw[e,show b.size-(W-1)=b.size-W+1 by(clear r h2 h1 last o b1 a1;lia)];refine j.yf pb' λx X y hy=>?_;rw[Qh b h4 h3,By]at X;obtain⟨m,hm,z,rfl⟩:=K5 h2 hy;rw[X];exact HQ (la (MV h1 h2) ((WB h1).mpr z:m<=Y-1)) r
  refine BK (QL (NW ⟨rfl,?_⟩));refine BK (Fp (by omega:a.size-1<a.size) ?_);have j0:G7 kf a b (#[a[a.size-1]]:Array BF) (a.size-1) b.size:=by
    refine⟨?_,by simp,λx X y hy=>?_,λx X y hy=>?_⟩
    . have:=Qh a (Ak _) a1;rw[c8,List.drop_zero]at this;rw[show a.size-(a.size-1)=1 by exact c9 a1,this];simp
    . simp only[By]at X;obtain⟨m,hm,z,rfl⟩:=K5 (by simp) hy;rw[X];exact la (WG a1 (by decide)) (B6 z)
    . simp only[By]at X;obtain⟨m,hm,z,rfl⟩:=K5 (Ak _) hy;rw[X];exact last _ (by simp)
  by_cases e1:a.size-1=0;. refine DH (by simpa using e1) ?_;exact BZ (h _ st ⟨B,rfl,rfl⟩ (n (by simp) (Ak _) j0 (.inl e1)))
  refine DX (by simpa using e1) ?_;by_cases e2:b.size=1;. refine DH (by simpa using e2) ?_;exact BZ (h _ st ⟨B,rfl,rfl⟩ (l (by simp) (Ak _) j0 e2))
  refine DX (by simpa using e2) ?_;refine BK (MY ?_);refine BK (Ih (IG (I:=λx c M=>IJ κ N st M/\∃Y W D g,c=(AG,Y,W,D,g)/\G7 kf a b D Y W/\1<=Y/\Y<=a.size/\2<=W/\W<=b.size/\x+1+Y+W<=a.size+b.size) (Q:=λc M=>IJ κ N st M/\∃r,c.1=AA r/\GO (Bp kf) a.toList b.toList r.toList) ?iq ?fin ?acv) ?post);case acv=>exact⟨⟨B,rfl,rfl⟩,_,_,_,_,rfl,j0,Ky.mpr e1,by simp,cW.mp (EL b1 (Gb e2)),Ak _,by simp_all⟩
  case fin=> intro c M hI;lk;obtain⟨S,Y,W,D,g,rfl,j,h1,h2,h3,h4,h5⟩:=hI;k_in;lia
  case post=> intro c M hI;lk;obtain⟨S,r,e,f⟩:=hI;obtain⟨c1,c2⟩:=c;obtain rfl:c1=AA r:=e;k_in;exact BZ (h r M S f)
  case iq=>
    intro x c st1 hx0 X hI;lk;obtain⟨S,Y,W,D,g,rfl,j,h1,h2,h3,h4,h5⟩:=hI;k_in;refine BK (Ih (IG (I:=λy c M=>M=st1/\∃H K P p q,c=(AG,H,K,P,p,q)/\G7 kf a b P H K/\1<=H/\H<=a.size/\2<=K/\K<=b.size/\H+K+y<=Y+W) (Q:=λc M=>M=st1/\((∃r,c.1=AA r/\GO (Bp kf) a.toList b.toList r.toList)\/∃H K P p q,c=(AG,H,K,P,p,q)/\G7 kf a b P H K/\1<=H/\H<=a.size/\2<=K/\K<=b.size/\H+K+1<=Y+W)) ?s1 ?s2 ?s3) ?s4);case s3=>exact⟨rfl,Y,W,D,0,0,rfl,j,h1,h2,h3,h4,Ak _⟩
    case s2=> intro c M hI;lk;obtain⟨rfl,H,K,P,p,q,rfl,j',g1,g2,g3,g4,g5⟩:=hI;k_in;exact⟨rfl,.inr ⟨H,K,P,p,q,rfl,j',g1,g2,g3,g4,by lia⟩⟩
    case s1=> intro y c M hy0 hy hI;lk;obtain⟨rfl,H,K,P,p,q,rfl,j',g1,g2,g3,g4,g5⟩:=hI;k_in;clear hy0 h1 h2 h3 h4 h5 X hx0 e1 e2 j0 j o last;refine BK (Fp (Sm (B6 g3) (NM.mpr g4):K-1<b.size) (BK (Fp (MV g1 g2:H-1<a.size) (BK (Qj C S.sb (bm (Sm (B6 g3) (NM.mpr g4))) (am (MV g1 g2)) ?_)))));cases e:O.blt (kf (b[K-1]'(Sm (B6 g3) (NM.mpr g4))).1) (kf (a[H-1]'(MV g1 g2)).1)with
      |true=>
        refine DH rfl ?_;refine BK (Fp (MV g1 g2:H-1<a.size) ?_);have j2:=oneA g1 g2 (B6 g3) g4 j' (Kz e);by_cases z:H-1=0
        . refine DH (by simpa using z) ?_;exact BZ ⟨rfl,.inl ⟨_,rfl,n (by dsimp only;simp_all) g4 j2 (.inl z)⟩⟩
        . refine DX (by simpa using z) ?_;split;.exact BZ ⟨rfl,.inr ⟨_,_,_,_,_,rfl,j2,by dsimp only;exact Ky.mpr z,by dsimp only;exact B6 (MV g1 g2),g3,g4,by dsimp only;lia⟩⟩
          .exact BZ ⟨rfl,_,_,_,_,_,rfl,j2,by dsimp only;exact Ky.mpr z,by dsimp only;exact B6 (MV g1 g2),g3,g4,by dsimp only;lia⟩|false=>
        refine DX Dw ?_;refine BK (Fp (Sm (B6 g3) (NM.mpr g4):K-1<b.size) ?_);have j2:=oneB g1 g2 (B6 g3) g4 j' e;by_cases z:K-1=1;. refine DH (by simpa using z) ?_;exact BZ ⟨rfl,.inl ⟨_,rfl,l g2 (by dsimp only;exact Ah (Bw z) b1) j2 z⟩⟩
        . refine DX (by simpa using z) ?_;split;.exact BZ ⟨rfl,.inr ⟨_,_,_,_,_,rfl,j2,g1,g2,by(clear j2 e g5 g4 g2 g1 hy b1 a1;dsimp only;lia),by dsimp only;exact Ah (zC _ _) g4,by dsimp only;lia⟩⟩
          .exact BZ ⟨rfl,_,_,_,_,_,rfl,j2,g1,g2,by(clear j2 e g5 g4 g2 g1 hy b1 a1;dsimp only;lia),by dsimp only;exact Ah (zC _ _) g4,by dsimp only;lia⟩
    case s4=>
      rintro c M⟨rfl,⟨r,e,f⟩|⟨H,K,P,p,q,rfl,j',g1,g2,g3,g4,g5⟩⟩;. obtain⟨c1,c2⟩:=c;obtain rfl:c1=AA r:=e;exact BZ ⟨S,r,rfl,f⟩
      refine BK (QL (NW ⟨rfl,?_⟩));refine BK (Ih (IG (I:=λy c st2=>IJ κ N st st2/\∃i2 Z o2 m2 p q,c=(AG,i2,Z,o2,m2,p,q)/\G7 kf a b o2 i2 Z/\1<=i2/\i2<=a.size/\2<=Z/\Z<=b.size/\i2+Z+1<=Y+W) (Q:=λc st2=>IJ κ N st st2/\((∃r,c.1=AA r/\GO (Bp kf) a.toList b.toList r.toList)\/∃i2 Z o2 m2 p q,c=(AG,i2,Z,o2,m2,p,q)/\G7 kf a b o2 i2 Z/\1<=i2/\i2<=a.size/\2<=Z/\Z<=b.size/\i2+Z+1<=Y+W)) ?t1 ?t2 ?t3) ?t4);case t3=>exact⟨S,H,K,P,_,p,q,rfl,j',g1,g2,g3,g4,g5⟩
      case t2=>rintro c st2⟨S2,r⟩;exact⟨S2,.inr r⟩
      case t4=>
        rintro c st2⟨S2,⟨r,e,f⟩|⟨i2,Z,o2,m2,p,q,rfl,j2,f1,f2,f3,f4,f5⟩⟩;. obtain⟨c1,c2⟩:=c;obtain rfl:c1=AA r:=e;exact BZ ⟨S2,r,rfl,f⟩
        .refine BK (J8 (BZ ⟨S2.aci _,i2,Z,o2,_,rfl,j2,f1,f2,f3,f4,by lia⟩))
      case t1=>
        intro y c st2 hy0 hy hI;lk;obtain⟨S2,i2,Z,o2,m2,p,q,rfl,j2,f1,f2,f3,f4,f5⟩:=hI;k_in;clear hy0 hy j' g1 g2 g3 g4 g5 j h1 h2 h3 h4 h5 X hx0 e1 e2 j0 S o last;refine(λ(L:∀m3:Nat,(?G:Nat->Prop) m3)=>?u) ?v;case u=>
          by_cases z:m2>1
          . refine DH z ?_;generalize m2-1=m3;exact L m3
          . refine DX z ?_;generalize m2=m3;exact L m3
        case v=>
          intro m3;refine BK (J8 ?_);have S3:=S2.aci m3;have U:Z-1<b.size:=Sm (B6 f3) (NM.mpr f4);refine BK (Fp U ?_);refine(λ(L:∀(c i3:Nat)(o3:Array BF),G7 kf a b o3 i3 Z->(∀m(hm:m<a.size),m<i3->Bp kf a[m] (b[Z-1]'U))->1<=i3->i3<=a.size->i3+Z+1<=Y+W->(?G2:Nat->Nat->Array BF->Prop) c i3 o3)=>?u2) ?v2;case u2=>
            refine BK (Oq C S3.sb (bm U) ha (by dsimp only;simp_all) (by dsimp only;exact WG f1 (by decide)) (Lj pa (by dsimp only;simp_all)) λt ht bl bg=>?_);dsimp only at ht;have F:∀m(hm:m<a.size),m<t->Bp kf a[m] (b[Z-1]'U):=λm hm z=>by have:=bl m z;unfold C4 at this;rw[AEu Dw,D7 (Ld hm:0+m<a.size)]at this;show O.blt _ _=AR;simpa using this
            have runB:∀m(hm:m<a.size),t<=m->m<i2->Bp kf (b[Z-1]'U) a[m]:=λm hm z z'=>by have:=bg m z z';unfold C4 at this;rw[AEu Dw,D7 (Ld hm:0+m<a.size)]at this;exact Kz (by show O.blt _ _=AJ;simpa using this)
            have j3:G7 kf a b (o2++(a.extract t i2).reverse) t Z:=by
              have e:(o2++(a.extract t i2).reverse).toList=o2.toList++(a.toList.reverse.drop (a.size-i2)).take (i2-t):=by rw[Qm a f2 ht];simp
              show EM _ _ _ (o2++(a.extract t i2).reverse).toList _ _;rw[e,show a.size-t=a.size-i2+(i2-t)from(zB ((c7 (Ah ht f2)).mpr f2)).mp (zF ht)];refine j2.wk pa' λx X y hy=>?_;rw[Qm a f2 ht,ABs]at X;simp only[fL,Vx]at X;obtain⟨m,hm,hm2,rfl⟩:=Qg X;obtain⟨m',hm',z,rfl⟩:=K5 f4 hy;exact HQ (lb (by omega) (cV z:m'<=Z-1)) (runB _ hm2 (by simp) (Ld hm))
            have pre:(i2-t>0/\t=0)\/1<=t:=by(clear runB F bg bl L U f5 f4 f3 f2 b1 a1;lia)
            rcases pre with⟨zk,z1⟩|z1
            . refine DH zk (DH (by simpa using z1) ?_);exact BZ ⟨S3,.inl ⟨_,rfl,n (by simp_all) f4 j3 (.inl z1)⟩⟩
            have t2:t<=a.size:=Ah ht f2;have T:t+Z+1<=Y+W:=by lia
            by_cases zk:i2-t>0
            . refine DH zk (DX (by simp;exact NN z1) ?_);generalize i2-t=c;generalize o2++(a.extract t i2).reverse=o3 at j3⊢;clear bl bg ht runB zk;generalize t=i3 at j3 F z1 t2 T⊢;exact L c i3 o3 j3 F z1 t2 T
            . refine DX zk ?_;have zk0:t=i2:=by(clear T t2 z1 runB F bg bl L U f5 f4 f3 f2 f1 b1 a1;lia)
              have eo:o2++(a.extract t i2).reverse=o2:=by rw[zk0];simp;exact J5 _ _
              rw[eo,zk0]at j3;rw[zk0]at F z1 t2 T;generalize i2-t=c;exact L c i2 o2 j3 F z1 t2 T
          case v2=>
            intro c i3 o3 j3 F z1 t2 T;have d:i3-1<a.size:=MV z1 t2;refine BK (Fp U ?_);have j4:=oneB z1 t2 (B6 f3) f4 j3 (F _ (by omega) (WG z1 (by decide)));by_cases z3:Z-1=1;. refine DH (by simpa using z3) ?_;exact BZ ⟨S3,.inl ⟨_,rfl,l t2 (by dsimp only;exact B6 U) j4 z3⟩⟩
            refine DX (by simpa using z3) ?_;refine BK (Fp (by omega:i3-1<a.size) ?_);refine(λ(L:∀(c' k5:Nat)(o5:Array BF),G7 kf a b o5 i3 k5->(∀m(hm:m<b.size),m<k5->Bp kf b[m] (a[i3-1]'d))->2<=k5->k5<=b.size->i3+k5+1<=Y+W->(?G3:Nat->Nat->Array BF->Prop) c' k5 o5)=>?u3) ?v3;case u3=>
              refine BK (Oq C S3.sb (am (by omega)) hb (by dsimp only;exact AE7 (ABy.mpr rfl) (B6 U)) (by(clear L j4 d T t2 F U f5 f4 f2 f1 b1 a1;dsimp only;exact(Nat.mod_eq_iff_lt (zD.mpr f3)).mp (Nat.self_sub_mod _ _))) (Lj pb (by dsimp only;exact AE7 (ABy.mpr rfl) (B6 U))) λt' ht' bl' bg'=>?_);dsimp only at ht';have V:∀m(hm:m<b.size),m<t'->Bp kf b[m] (a[i3-1]'(by omega)):=λm hm z=>by have:=bl' m z;unfold C4 at this;rw[AEv rfl,D7 (Ld hm:0+m<b.size)]at this;exact Kz (by show O.blt _ _=AJ;simpa using this)
              have R:∀m(hm:m<b.size),t'<=m->m<Z-1->Bp kf (a[i3-1]'(by omega)) b[m]:=λm hm z z'=>by have:=bg' m z z';unfold C4 at this;rw[AEv rfl,D7 (Ld hm:0+m<b.size)]at this;show O.blt _ _=AR;simpa using this
              have j5:G7 kf a b (o3.push (b[Z-1]'U)++(b.extract t' (Z-1)).reverse) i3 t':=by
                have e:(o3.push (b[Z-1]'U)++(b.extract t' (Z-1)).reverse).toList=(o3.push (b[Z-1]'U)).toList++(b.toList.reverse.drop (b.size-(Z-1))).take (Z-1-t'):=by rw[Qm b (B6 U) ht'];simp
                show EM _ _ _ (o3.push (b[Z-1]'U)++(b.extract t' (Z-1)).reverse).toList _ _;rw[e,show b.size-t'=b.size-(Z-1)+(Z-1-t')from(zB ((c7 (Ah ht' (B6 U))).mpr (B6 U))).mp (zF ht')];refine j4.yf pb' λx X y hy=>?_;rw[Qm b (B6 U) ht',ABs]at X;simp only[fL,Vx]at X;obtain⟨m,hm,hm2,rfl⟩:=Qg X;obtain⟨m',hm',z,rfl⟩:=K5 t2 hy;exact HQ (la (by omega) ((WB z1).mpr z:m'<=i3-1)) (R _ hm2 (by simp) (Ld hm))
              have pre:(Z-1-t'>0/\t'=1)\/(Z-1-t'>0/\t'=0)\/2<=t':=by(clear j5 R V bg' bl' L j4 d T t2 F U f5 f4 f2 f1 b1 a1;lia)
              rcases pre with⟨zk',z4⟩|⟨zk',z4⟩|z4;. refine DH zk' (DH (by simpa using z4) ?_);exact BZ ⟨S3,.inl ⟨_,rfl,l t2 (Ah ht' (B6 U)) j5 z4⟩⟩
              . refine DH zk' (DX (by simp;simp_all) (DH (by simpa using z4) ?_));exact BZ ⟨S3,.inl ⟨_,rfl,n t2 (by(clear zk' R V bg' bl' L z3 j4 d T t2 z1 f5 f4 f3 f2 f1 b1 a1;simp_all)) j5 (.inr z4)⟩⟩
              have t4:t'<=b.size:=Ah ht' (B6 U);have f6':i3+t'+1<=Y+W:=by(clear t4 j5 R V bg' bl' L j4 d t2 F U f5 f4 f2 f1 b1 a1;lia)
              by_cases zk':Z-1-t'>0
              . refine DH zk' (DX (by simp;exact NN z4) (DX (by simp;exact Ne.intro (λu1=>zA _ (Ah z4 (Bw u1)))) ?_));generalize Z-1-t'=c';generalize o3.push (b[Z-1]'U)++(b.extract t' (Z-1)).reverse=o5 at j5⊢;clear bl' bg' ht' R zk';generalize t'=k5 at j5 V z4 t4 f6'⊢;exact L c' k5 o5 j5 V z4 t4 f6'
              . refine DX zk' ?_;have zk0:t'=Z-1:=by(clear f6' t4 j5 R V bg' bl' L j4 d T t2 F U f5 f4 f2 f1 b1 a1;grind)
                have eo:o3.push (b[Z-1]'U)++(b.extract t' (Z-1)).reverse=o3.push (b[Z-1]'U):=by rw[zk0];simp;(clear zk' f6' t4 z4 R V bg' bl' ht' L z3 j4 d T t2 z1 f5 f4 f3 f2 f1 b1 a1;exact J5 _ _)
                rw[eo,zk0]at j5;rw[zk0]at V z4 t4 f6';generalize Z-1-t'=c';exact L c' _ _ j5 V z4 t4 f6'
            case v3=>
              intro c' k5 o5 j5 V z4 t4 f6';refine BK (Fp (by omega:i3-1<a.size) ?_);have j6:=oneA z1 t2 (B6 z4) t4 j5 (V _ (Sm (B6 z4) (NM.mpr t4)) ((y4 (IF z4)).mp (Ak _)));by_cases z5:i3-1=0;. refine DH (by simpa using z5) ?_;exact BZ ⟨S3,.inl ⟨_,rfl,n (B6 d) t4 j6 (.inl z5)⟩⟩
              refine DX (by simpa using z5) ?_;split;.exact BZ ⟨S3,.inr ⟨_,_,_,_,_,_,rfl,j6,Ky.mpr z5,B6 d,z4,t4,by(clear j6 t4 z4 V j4 d T t2 F U f5 f4 f3 f2 f1 b1 a1;lia)⟩⟩
              .exact BZ ⟨S3,_,_,_,_,_,_,rfl,j6,Ky.mpr z5,B6 d,z4,t4,by(clear j6 t4 z4 V j4 d T t2 F U f5 f4 f3 f2 f1 b1 a1;lia)⟩
theorem eV(p:Nat):∀(M:List BF)(n:Nat)(xs:Array BF),p+n+M.length<=xs.size->((M.zipIdx n).foldl (λa x=>a.setIfInBounds (p+x.2) x.1) xs).toList=xs.toList.take (p+n)++M++xs.toList.drop (p+n+M.length)|[],n,xs,h=>by simp|m::r,n,xs,h=>by rw[List.zipIdx_cons,cE,eV p r _ _ (by simp;exact AE7 (Nat.succ_add _ _) h)];simp only[AA8];rw[List.drop_set_of_lt (by omega),show p+(n+1)=p+n+1 by rfl,Dt,List.take_set_of_le (Ak _)];grind
theorem eY{O:WK}{kf:AL->O.α}{xs:Array BF}{lo hi:Nat}(h:hi<=xs.size)(u:Dr kf xs lo hi):(xs.extract lo hi).toList.Pairwise (Bp kf):=by
 rw[Gq];intro i j U V D;have e:∀k(W:k<(xs.extract lo hi).toList.length),(xs.extract lo hi).toList[k]=xs[lo+k]'(by grind):=(by simp);rw[e i _,e j V];have J:j<hi-lo:=by grind
 have:=u _ _ (by simp) (FX (B6 D) _) (Ld J);rw[D7 _,D7 _]at this;exact this
theorem eX{xs:Array BF}{lo:Nat}(h:hi<=xs.size)(D:p∈(xs.extract lo hi).toList):∃m,lo<=m/\m<hi/\∃(J:m<xs.size),p=xs[m]:=by simp at D;lk;obtain⟨m,J,U,rfl⟩:=Qg D;k_in;grind
theorem AAs(xs:Array BF)(D:i<=j)(J:j<=k)(W:k<=xs.size):xs.toList=xs.toList.take i++((xs.extract i j).toList++(xs.extract j k).toList)++xs.toList.drop k:=by
 simp only[fL,Vx];have U:cQ (k-i) (xs.toList.drop i)=cQ (j-i) (xs.toList.drop i)++cQ (k-j) (xs.toList.drop j):=by rw[show k-i=(j-i)+(k-j)by exact(Nat.sub_eq_iff_eq_add' ((c7 (Ah D J)).mpr J)).mp (zF D),ABw,yJ,show i+(j-i)=j by exact Ig D]
 have V:xs.toList.drop i=cQ (k-i) (xs.toList.drop i)++xs.toList.drop k:=by conv=>lhs;rw[<-QD _ (xs.toList.drop i),yJ,show i+(k-i)=k by exact Ig (Ah D J)]
 rw[<-U,Ea,<-V,QD]
theorem AA3{A:Dj}{E:AL->AZ->Prop}{s:AZ}{M:Oa}{σ:Type}{t u:σ}{Q:PUnit->σ->Prop}(h:Q ⟨⟩ t):FE M A E s (set t:StateT σ D6 PUnit) Q u:=by exact Cp ⟨rfl,h⟩
theorem AA0{d:Array BF}{st:Ci}(C:GN prog w A s κ O kf d)(B:Cq κ d st)(p1:(CD st)[i]?=AA (D,Z,pw))(p2:(CD st)[i+1]?=AA (D+Z,nb,pw'))(u:1<=Z)(P:1<=nb)(g:D+Z+nb<=d.size)(ua:Dr kf (Ai st) D (D+Z))(ub:Dr kf (Ai st) (D+Z) (D+Z+nb))(h:∀st',Cq κ d st'->CD st'=((CD st).setIfInBounds i (D,Z+nb,pw)).eraseIdxIfInBounds (i+1)->Dr kf (Ai st') D (D+(Z+nb))->(∀k,k<D\/D+Z+nb<=k->BX kf (Ai st') k=BX kf (Ai st) k)->Q AJ st'):FE (Ar prog w) A E s (mergeAt' i) Q st:=by
  have l:=B.wt;refine BK (MY ?_);rw[show(sortPriv%PySem.Builtin.SortState.pending) st=CD st from rfl,p1,p2];dsimp only;refine BK (AA3 (t:=dC (dG st) (Ai st) (((CD st).setIfInBounds i (D,Z+nb,pw)).eraseIdxIfInBounds (i+1)) (gallopOf st) (NS st)) ?_);have memA:∀p∈(Ai st).toList,p∈d.toList:=λp hp=>(S7.mp B.mf).mem_iff.mp hp;have K:D+Z<(Ai st).size:=by lia
  refine BK (Fp K ?_);generalize hst1:dC (dG st) (Ai st) (((CD st).setIfInBounds i (D,Z+nb,pw)).eraseIdxIfInBounds (i+1)) (gallopOf st) (NS st)=st1;have B1:Cq κ d st1:=by rw[<-hst1];exact⟨B.mf,B.ie,B.kh⟩
  have ar1:Ai st1=Ai st:=by rw[<-hst1]
  have pe1:CD st1=((CD st).setIfInBounds i (D,Z+nb,pw)).eraseIdxIfInBounds (i+1):=by rw[<-hst1]
  have V:BX kf (Ai st) (D+Z)=kf ((Ai st)[D+Z]'K).1:=D7 K;refine BK (Oq (left:=AR) (key:=(Ai st)[D+Z]'K) (base:=D) (n:=Z) (hint:=0) C B1 (memA _ (by simp)) memA (B6 K) (by assumption) ua λk hk r o=>?_);have lowA:∀j,D<=j->j<D+k->O.kle (BX kf (Ai st) j) (BX kf (Ai st) (D+Z)):=λj j1 j2=>by have:=r (j-D) ((Sk j1).mpr j2);unfold C4 at this;rw[AEu Dw,<-V,show D+(j-D)=j by exact Ig j1]at this;show O.blt _ _=AR;simpa using this
  have highA:∀j,D+k<=j->j<D+Z->O.kle (BX kf (Ai st) (D+Z)) (BX kf (Ai st) j):=λj j1 j2=>by have:=o (j-D) ((MT (ET j1)).mpr j1) ((Sk (ET j1)).mpr j2);unfold C4 at this;rw[AEu Dw,<-V,show D+(j-D)=j by exact Ig (ET j1)]at this;exact Kz (by show O.blt _ _=AJ;simpa using this)
  dsimp only;by_cases R:Z-k=0
  . refine DH (by simpa using R) ?_;refine BZ (h st1 B1 pe1 ?_ λz _=>by rw[ar1]);rw[ar1];intro x y h1 h2 h3;by_cases hx:x<D+Z
    . by_cases hy:y<D+Z;.exact ua x y h1 h2 hy
      .exact HQ (lowA x h1 (by lia)) (ub _ y (Ak _) (by simp_all) (by lia))
    .exact ub x y (by simp_all) h2 (by lia)
  refine DX (by simpa using R) ?_;have L:D+k+(Z-k)-1<(Ai st).size:=by(clear R l g P u;omega)
  refine BK (Fp L ?_);have U:BX kf (Ai st) (D+Z-1)=kf ((Ai st)[D+k+(Z-k)-1]'L).1:=by rw[<-D7 (kf:=kf) L];congr 1;lia
  refine BK (Oq (left:=AJ) (key:=(Ai st)[D+k+(Z-k)-1]'L) (base:=D+Z) (n:=nb) (hint:=nb-1) C B1 (memA _ (by simp)) memA (by simp_all) (WG P (by decide)) ub λk' H G F=>?_);have lowB:∀j,D+Z<=j->j<D+Z+k'->O.kle (BX kf (Ai st) j) (BX kf (Ai st) (D+Z-1)):=λj j1 j2=>by have:=G (j-(D+Z)) ((Sk j1).mpr j2);unfold C4 at this;rw[AEv rfl,<-U,show D+Z+(j-(D+Z))=j from Ig j1]at this;exact Kz this
  have highB:∀j,D+Z+k'<=j->j<D+Z+nb->O.kle (BX kf (Ai st) (D+Z-1)) (BX kf (Ai st) j):=λj j1 j2=>by have:=F (j-(D+Z)) ((MT (ET j1)).mpr j1) ((Sk (ET j1)).mpr j2);unfold C4 at this;rw[AEv rfl,<-U,show D+Z+(j-(D+Z))=j by exact Ig (ET j1)]at this;exact this
  dsimp only;by_cases T:k'=0
  . refine DH (by simpa using T) ?_;refine BZ (h st1 B1 pe1 ?_ λz _=>by rw[ar1]);rw[ar1];intro x y h1 h2 h3;by_cases hx:x<D+Z
    . by_cases hy:y<D+Z;.exact ua x y h1 h2 hy
      .exact HQ (ua x (D+Z-1) h1 (cV hx) (zE hx)) (highB y (by simp_all) (by lia))
    .exact ub x y (by simp_all) h2 (by lia)
  refine DX (by simpa using T) ?_;generalize hX:(Ai st).extract (D+k) (D+Z)=X;generalize hY:(Ai st).extract (D+Z) (D+Z+k')=Y;have pX:X.toList.Pairwise (Bp kf):=by rw[<-hX];exact eY (B6 K) λa b v q2 q3=>ua a b (ET v) q2 q3
  have pY:Y.toList.Pairwise (Bp kf):=by rw[<-hY];exact eY (by lia) λa b v q2 q3=>ub a b (by omega) q2 (Bh q3 (FX H _))
  have c:X.size=Z-k:=by rw[<-hX];simp;(clear T F G H U L R l g P u;lia)
  have zY:Y.size=k':=by rw[<-hY];simp;(clear c T F G U L R hk P u;lia)
  have mX:∀p∈X.toList,∃m,D+k<=m/\m<D+Z/\∃(hm:m<(Ai st).size),p=(Ai st)[m]:=λp hp=>eX (B6 K) (by rw[hX];exact hp);have mY:∀p∈Y.toList,∃m,D+Z<=m/\m<D+Z+k'/\∃(hm:m<(Ai st).size),p=(Ai st)[m]:=λp hp=>eX (by lia) (by rw[hY];exact hp);have y0:Y[0]'(by(clear c F G H U L R o r V K l g P u;exact AE3 (zD.mp T) zY.symm))=(Ai st)[D+Z]'K:=by subst hY;simp
  have xl:X[X.size-1]'(by(clear y0 F G H U L o r V K l g P;lia))=(Ai st)[D+Z-1]'(Sl K):=by subst hX;rw[Array.getElem_extract];congr 1;rw[c];(clear c y0 F G H U L o r V K l g P;lia)
  have J:∀p∈X.toList,Bp kf (Y[0]'(by(clear xl y0 c F G H U L R o r V K l g P u;exact AE3 (zD.mp T) zY.symm))) p:=λp hp=>by obtain⟨m,v,q2,hm,rfl⟩:=mX p hp;rw[y0];have:=highA m v q2;rw[V,D7 hm]at this;exact this
  have W:∀p∈Y.toList,Bp kf p (X[X.size-1]'(by(clear xl y0 F G H U L o r V K l g P;lia))):=λp hp=>by obtain⟨m,v,q2,hm,rfl⟩:=mY p hp;rw[xl];have:=lowB m v q2;rw[D7 hm,D7 (Sl K:D+Z-1<(Ai st).size)]at this;exact this
  have inX:∀p∈X.toList,p∈d.toList:=λp hp=>by obtain⟨m,v,q2,hm,rfl⟩:=mX p hp;exact memA _ (by simp)
  have inY:∀p∈Y.toList,p∈d.toList:=λp hp=>by obtain⟨m,v,q2,hm,rfl⟩:=mY p hp;exact memA _ (by simp)
  have fin:∀(M:Array BF)(I:Ci),IJ κ d st1 I->GO (Bp kf) X.toList Y.toList M.toList->Q AJ (QK I (M.toList.zipIdx.foldl (λa x=>a.setIfInBounds (D+k+x.2) x.1) (Ai I))):=λM I S f=>by
    have lM:M.toList.length=(Z-k)+k':=by rw[f.1.length_eq,B8];simp[c,zY]
    have ar2:Ai I=Ai st:=S.adj.trans ar1;have el:=eV (D+k) M.toList 0 (Ai st) (by grind);rw[V9,lM,show D+k+(Z-k+k')=D+Z+k' by(clear W J xl y0 c T F G H U L R o r V K l g P u;lia)]at el;generalize hN:M.toList.zipIdx.foldl (λa x=>a.setIfInBounds (D+k+x.2) x.1) (Ai I)=N;have eN:N.toList=(Ai st).toList.take (D+k)++M.toList++(Ai st).toList.drop (D+Z+k'):=by rw[<-hN,ar2];exact el
    have perm:N.Perm (Ai I):=by
      rw[ar2,S7,eN];have sp:=AAs (Ai st) (i:=D+k) (j:=D+Z) (k:=D+Z+k') (by simp_all) (by simp) (by lia);rw[hX,hY]at sp;conv=>rhs;rw[sp]
      exact ABb _ (yI _ f.1)
    have lt:((Ai st).toList.take (D+k)).length=D+k:=by simp;(clear lM W J xl y0 zY c T F G H U L R l g P u;lia)
    have nOut:∀z,z<D+k\/D+Z+k'<=z->N[z]?=(Ai st)[z]?:=λz hz'=>by
      rw[<-Ot,<-Ot,eN];rcases hz' with q|q;.rw[Ea,OP (Bh q (Bw lt.symm)),cF q]
      . rw[QA (by rw[B8];(clear W J xl y0 c T F G H U L R o r V K l g P u;lia)),B8,lt,lM,List.getElem?_drop];congr 1;(clear W J xl y0 c T F G H U L R o r V K l g P u;grind)
    have nIn:∀z,D+k<=z->z<D+Z+k'->N[z]?=M[z-(D+k)]?:=λz v q2=>by rw[<-Ot,<-Ot,eN,Ea,QA (Ah (Bw lt) v),lt,OP (by(clear W J xl y0 c T F G H U L R o r V K l g P u;grind))]
    have upM:Dr kf M 0 M.size:=Lj f.2 (Ak _);have sM:M.size=(Z-k)+k':=by rw[<-lM];simp
    have inM:∀z,D+k<=z->z<D+Z+k'->∃m,D+k<=m/\m<D+Z+k'/\BX kf N z=BX kf (Ai st) m:=λz v q2=>by
      have hz2:z-(D+k)<M.size:=by(clear W J xl y0 c T F G H U L R o r V K l g P u;grind)
      have hm:M[z-(D+k)]∈X.toList++Y.toList:=f.1.mem_iff.mp (by simp);rw[Gv (nIn z v q2),D7 hz2];rcases DS.mp hm with q|q;. obtain⟨m,v,q2,hm,e⟩:=mX _ q;exact⟨m,v,Nat.lt_add_right _ q2,by rw[e,D7 hm]⟩
      . obtain⟨m,v,q2,hm,e⟩:=mY _ q;exact⟨m,Ah (FX hk _) v,q2,by rw[e,D7 hm]⟩
    refine h _ (S.sb.js perm) (S.xk.trans pe1) ?_ λz hz'=>Gv (nOut z (by(clear sM lM W J xl y0 c T F G U L R o r hk V K l g P u;lia)));show Dr kf N D (D+(Z+nb));intro x y h1 h2 h3;by_cases x1:x<D+k
    . rw[Gv (nOut x (.inl x1))];have all:∀m,D+k<=m->m<D+Z+nb->O.kle (BX kf (Ai st) x) (BX kf (Ai st) m):=λm v q2=>by
        by_cases q3:m<D+Z;.exact ua x m h1 (Ah (B6 x1) v) q3
        .exact HQ (lowA x h1 x1) (ub _ m (Ak _) (by(clear q2 v x1 h3 h2 h1 sM lM W J xl y0 zY c T F G H U L R o r hk V K l g P u;simp_all)) q2)
      by_cases y1:y<D+k;. rw[Gv (nOut y (.inl y1))];exact ua x y h1 h2 (Bh y1 (FX hk _))
      . by_cases y2:y<D+Z+k';. obtain⟨m,v,q2,e⟩:=inM y (by(clear y2 x1 h3 h2 h1 sM lM W J xl y0 zY c T F G H U L R o r hk V K l g P u;simp_all)) y2;rw[e];exact all m v (Bh q2 (FX H _))
        . rw[Gv (nOut y (.inr (by(clear y1 x1 h3 h2 h1 sM lM W J xl y0 c T F G H U L R o r hk V K l g P u;simp_all))))];exact all y (by(clear y2 x1 h3 h2 h1 sM lM W J xl y0 zY c T F G H U L R o r hk V K l g P u;simp_all)) (by(clear y2 y1 x1 h2 h1 sM lM W J xl y0 zY c T F G H U L R o r hk V K l g P u;lia))
    . by_cases x2:x<D+Z+k'
      . by_cases y2:y<D+Z+k'
        . rw[Gv (nIn x (by(clear y2 x2 h3 h2 h1 sM lM W J xl y0 zY c T F G H U L R o r hk V K l g P u;simp_all)) x2),Gv (nIn y (Ah (Ga x1) h2) y2)];exact upM _ _ (by simp) ((c7 (Ah (Ga x1) h2)).mpr h2) (by(clear x2 h3 h1 W J xl y0 c T F G H U L R o r V K l g P u;grind))
        . rw[Gv (nOut y (.inr (by(clear x2 x1 h3 h2 h1 sM lM W J xl y0 c T F G H U L R o r hk V K l g P u;simp_all))))];obtain⟨m,v,q2,e⟩:=inM x (by(clear y2 x2 h3 h2 h1 sM lM W J xl y0 zY c T F G H U L R o r hk V K l g P u;simp_all)) x2;rw[e];by_cases q3:m<D+Z;.exact HQ (ua m (D+Z-1) (ET v) (cV q3) (zE q3)) (highB y (by(clear q3 q2 v x2 x1 h3 h2 h1 sM lM W J xl y0 c T F G H U L R o r hk V K l g P u;simp_all)) (by(clear q3 q2 v y2 x2 x1 h2 h1 sM lM W J xl y0 zY c T F G H U L R o r hk V K l g P u;lia)))
          .exact ub m y (by(clear q2 v y2 x2 x1 h3 h2 h1 sM lM W J xl y0 zY c T F G H U L R o r hk V K l g P u;simp_all)) (Ah (B6 q2) (Ga y2)) (by(clear q3 q2 v y2 x2 x1 h2 h1 sM lM W J xl y0 zY c T F G H U L R o r hk V K l g P u;lia))
      . rw[Gv (nOut x (.inr (by(clear x1 h3 h2 h1 sM lM W J xl y0 c T F G H U L R o r hk V K l g P u;simp_all)))),Gv (nOut y (.inr (Ah (Ga x2) h2)))];exact ub x y (ET (Ga x2)) h2 (by(clear x2 x1 h2 h1 sM lM W J xl y0 zY c T F G H U L R o r hk V K l g P u;lia))
  have fin2:∀(M:Array BF)(I:Ci),IJ κ d st1 I->GO (Bp kf) X.toList Y.toList M.toList->NS (QK I (M.toList.zipIdx.foldl (λa x=>a.setIfInBounds (D+k+x.2) x.1) (Ai I)))=AG:=λM I S _=>S.sb.kh;by_cases le:Z-k<=k'
  . refine DH le ?_;refine BK (AA2 C B1 inX inY (AFC (Ky.mpr R) c.symm) (AFC (Ky.mpr T) zY.symm) pX pY J W λM I S f=>?_);refine BK (J8 (BK (MY ?_)));have:=fin M I S f;have e:=fin2 M I S f;refine BZ ?_;show Q (NS (QK I _)).isNone _;rw[e];exact this
  . refine DX le ?_;refine BK (AA1 C B1 inX inY (Nat.one_le_of_lt (Bh (MU le) (Bw c.symm))) (AFC (Ky.mpr T) zY.symm) pX pY J W λM I S f=>?_);refine BK (J8 (BK (MY ?_)));have:=fin M I S f;have e:=fin2 M I S f;refine BZ ?_;show Q (NS (QK I _)).isNone _;rw[e];exact this
def F8{O:WK}(kf:AL->O.α)(xs:Array BF):Nat->List (Nat×Nat×Nat)->Nat->Prop|x,[],y=>x=y|x,(s,n,_)::r,y=>s=x/\1<=n/\Dr kf xs s (s+n)/\F8 kf xs (x+n) r y
theorem F8.le{O:WK}{kf:AL->O.α}{xs:Array BF}:∀{l:List (Nat×Nat×Nat)}{x y:Nat},F8 kf xs x l y->x+l.length<=y|[],x,y,h=>by exact Bw h|(s,n,p)::r,x,y,h=>by lk;obtain⟨_,J,_,D⟩:=h;k_in;have:=F8.le D;grind
theorem Qe{O:WK}{kf:AL->O.α}{xs:Array BF}:∀{l m:List (Nat×Nat×Nat)}{x z:Nat},F8 kf xs x (l++m) z↔∃y,F8 kf xs x l y/\F8 kf xs y m z
 |[],m,x,z=>⟨λh=>⟨x,rfl,h⟩,λ⟨y,D,J⟩=>by have D:x=y:=D;simp_all⟩|(s,n,p)::r,m,x,z=>by
  constructor
  . intro Y;lk;obtain⟨D,J,U,Z⟩:=Y;obtain⟨y,V,W⟩:=Qe.mp Z;k_in;exact⟨y,⟨D,J,U,V⟩,W⟩
  . intro Y;lk;obtain⟨y,⟨D,J,U,V⟩,W⟩:=Y;k_in;exact⟨D,J,U,Qe.mpr ⟨y,V,W⟩⟩
theorem F8.ab{O:WK}{kf:AL->O.α}{xs ys:Array BF}:∀{l:List (Nat×Nat×Nat)}{x y:Nat},F8 kf xs x l y->(∀k,x<=k->k<y->BX kf ys k=BX kf xs k)->F8 kf ys x l y|[],x,y,h,_=>h|(s,n,p)::r,x,y,⟨W,Y,Z,V⟩,k=>by have:=F8.le V;subst W;exact⟨rfl,Y,λi j D J U=>by rw[k i D (Bh (Gs J U) (ET this)),k j (Ah D J) (Bh U (ET this))];exact Z i j D J U,F8.ab V (λA u2 u3=>k _ (ET u2) u3)⟩
theorem fB{J:Array BF}{st:Ci}(C:GN prog w A s R O kf J)(B:Cq R J st)(c:F8 kf (Ai st) 0 (CD st).toList hi)(L:i+1<(CD st).size)(b:hi<=J.size)(h:∀D,Cq R J D->(CD D).size+1=(CD st).size->F8 kf (Ai D) 0 (CD D).toList hi->(∀k,hi<=k->BX kf (Ai D) k=BX kf (Ai st) k)->Q AJ D):FE (Ar prog w) A E s (mergeAt' i) Q st:=by
  lk;obtain⟨⟨W,Y,M⟩,X⟩:∃x,(CD st)[i]?=AA x:=⟨_,AFB _ i (by omega)⟩;obtain⟨⟨n,Z,I⟩,a⟩:∃x,(CD st)[i+1]?=AA x:=(by simp_all);k_in;have F:(CD st).toList=(CD st).toList.take i++(W,Y,M)::(n,Z,I)::(CD st).toList.drop (i+2):=by
    have G:=IF L;have H:i+1<(CD st).toList.length:=by assumption
    conv=>lhs;rw[<-QD i (CD st).toList]
    congr 1;rw[cA G,cA H];grind
  have V:=List.length_take_of_le (ET (B6 L));generalize(CD st).toList.take i=G at F V;generalize(CD st).toList.drop (i+2)=H at F;rw[F]at c;lk;obtain⟨y,T,⟨f,g,j,⟨l,N,m,K⟩⟩⟩:=Qe.mp c;k_in;subst f l;have U:=K.le;refine AA0 C B X a g N (Ah (ET U) b) j m λD S d u k=>h D S ?_ ?_ (λP u2=>k _ (zJ _ (Ah (ET U) u2)));.grind
  . have e:(CD D).toList=G++(W,Y+Z,M)::H:=by rw[d];simp only[Array.toList_eraseIdxIfInBounds,AA8,F];rw[List.set_append_right _ _ (Bw V),V,c8,List.set_cons_zero,List.eraseIdx_append_of_length_le (Kx (Bw V)),V];simp
    rw[e];refine Qe.mpr ⟨W,T.ab (λP u2 u3=>k _ (Fo u3)),rfl,y3 N,u,?_⟩;rw[show W+(Y+Z)=W+Y+Z by exact Eq.comm.mp (Nat.add_assoc _ _ _)];exact K.ab (λP u2 u3=>k _ (zJ _ u2))
theorem eQ{O:WK}{kf:AL->O.α}{xs:Array BF}:∀{l m:List (Nat×Nat×Nat)}{x y:Nat},l.map (λv=>(v.1,v.2.1))=m.map (λv=>(v.1,v.2.1))->F8 kf xs x l y->F8 kf xs x m y|[],[],_,_,_,h=>h|[],_::_,_,_,e,_=>by cases e|_::_,[],_,_,e,_=>by cases e|(a,n,p)::l,(b,k,q)::m,x,y,e,⟨J,U,V,W⟩=>by have e:=C9 e;have D:=e.1;cases D;exact⟨J,U,V,eQ e.2 W⟩
theorem eZ{C:QH}{O:WK}{kf:AL->O.α}{J:Array BF}{D:Ci}{lo m x:Nat}(V:Cq C J D)(Z:F8 kf (Ai D) 0 (CD D).toList lo)(u3:Dr kf (Ai D) lo (lo+m))(Y:1<=m)(A:lo+m<=J.size)(B:x<=lo\/J.size<=lo):Cq C J (dI D ((CD D).push (lo,m,0)))/\∃U,((AG,lo+m):Option Unit×Nat)=(AG,U)/\(x+1<=U\/J.size<=U)/\U<=J.size/\F8 kf (Ai (dI D ((CD D).push (lo,m,0)))) 0 (CD (dI D ((CD D).push (lo,m,0)))).toList U:=by refine⟨⟨V.mf,V.ie,V.kh⟩,_,rfl,Or.imp (λW=>yZ W Y) (λW=>WA W) B,A,?_⟩;rw[AA7];exact Qe.mpr ⟨lo,Z,rfl,Y,u3,rfl⟩
theorem fE{K:QH}{D:Array BF}{st:Ci}(C:GN prog w A s K O kf D)(B:Cq K D st)(p0:CD st=#[])(h:∀V,Cq K D V->Dr kf (Ai V) 0 D.size->Q () V):FE (Ar prog w) A E s sortRuns' Q st:=by
  rw[sortRuns'_eq];refine BK (MY ?_);dsimp only;simp only[B.wt];generalize minRun' D.size D.size 0=o;refine BK (Ih (IG (I:=λx c V=>Cq K D V/\∃W,c=(AG,W)/\(x<=W\/D.size<=W)/\W<=D.size/\F8 kf (Ai V) 0 (CD V).toList W) (Q:=λc V=>Cq K D V/\c=(AG,D.size)/\F8 kf (Ai V) 0 (CD V).toList D.size) ?iq ?fin ?acv) ?post);case acv=>exact⟨B,0,rfl,.inl (Ak _),BY _,by rw[p0];rfl⟩
  case fin=>
    intro c V Z;lk;obtain⟨S,W,rfl,t,R,c⟩:=Z;obtain rfl:W=D.size:=by lia
    k_in;exact⟨S,rfl,c⟩
  case post=>
    intro c V Z;lk;obtain⟨S,rfl,c⟩:=Z;k_in;dsimp only;refine BK (Ih (IG (I:=λx c J=>c=(AG,())/\Cq K D J/\F8 kf (Ai J) 0 (CD J).toList D.size/\((CD J).size+x<=D.size\/(CD J).size<=1)) (Q:=λc J=>c=(AG,())/\Cq K D J/\F8 kf (Ai J) 0 (CD J).toList D.size/\(CD J).size<=1) ?t1 ?t2 ?t3) ?t4);case t3=>exact⟨rfl,S,c,.inl (by have:=c.le;simp at this;omega)⟩
    case t2=> intro Y J Z;lk;obtain⟨rfl,H,Y,q⟩:=Z;k_in;exact⟨rfl,H,Y,by lia⟩
    case t4=> intro Y J Z;lk;obtain⟨rfl,H,Y,q⟩:=Z;k_in;refine BZ (h J H ?_);generalize(CD J)=P at Y q;obtain⟨l⟩:=P;match l,q,Y with
      |[],_,Y=> have Y:0=D.size:=Y;intro i j _ _ q3;exact ADu.mp (λu1=>Nat.ne_zero_of_lt q3 Y.symm)|[(a,n,p)],_,Y=> lk;obtain⟨e1,_,u,e2⟩:=Y;k_in;have e2:0+n=D.size:=e2;subst e1;rw[<-e2];exact u
    case t1=>
      intro x Y J _ g Z;lk;obtain⟨rfl,H,Y,q⟩:=Z;k_in;refine BK (MY ?_);by_cases z:(CD J).size<=1
      . refine DH z ?_;exact BZ ⟨rfl,H,Y,z⟩
      . refine DX z ?_;generalize hi:(if Option.any _ _=AJ then(CD J).size-2-1 else(CD J).size-2)=i;have aux:∀(c:Prop)[Decidable c](u v N:Nat),u+1<N->v+1<N->(if c then u else v)+1<N:=λc _ u v N h1 h2=>by split<;>assumption
        refine BK (fB C H Y (by rw[<-hi];exact aux _ _ _ _ (by omega) (Nat.add_lt_iff_lt_sub_right.mpr (JR _ _ (MU z)))) (Ak _) λF T z3 X _=>?_);exact BZ ⟨rfl,T,X,by(constructor<;>lia)⟩
  case iq=>
    intro x c V _ g Z;lk;obtain⟨S,W,rfl,t,R,c⟩:=Z;k_in;dsimp only;by_cases z:W>=D.size
    . refine DH z ?_;obtain rfl:W=D.size:=Fm R z;exact BZ ⟨S,rfl,c⟩
    refine DX z ?_;refine BK (AAy C (Bw (Ig R)) (cW.mp (WD.mpr (MU z))) S λn J H K2 r e u2=>?_);have Y:F8 kf (Ai J) 0 (CD J).toList W:=by rw[K2.xk];exact c.ab λk _ k2=>Gv (K2.acj k k2)
    dsimp only;by_cases d:n<o;all_goals first
      | (refine DH d ?_;refine BK (QL (NW ⟨rfl,?_⟩));refine BK (AAx C ((MT (B6 (MU z))).mp (J5 _ _)) (Nat.le_min_of_le_of_le e (B6 d)) H u2 λF T K3 u3=>?_);refine DX (by simp) ?_;have G:1<=D5 (D.size-W) o/\W+D5 (D.size-W) o<=D.size:=by lia
         have X:F8 kf (Ai F) 0 (CD F).toList W:=by rw[K3.xk];exact Y.ab λk _ k2=>Gv (K3.acj k k2)
         generalize D5 (D.size-W) o=m at u3 G⊢) | (refine DX d ?_;have G:1<=n/\W+n<=D.size:=⟨r,(MT (B6 (MU z))).mp e⟩;have T:=H;have X:=Y;have u3:=u2;generalize n=m at u3 G⊢;generalize J=F at T X u3⊢)
    all_goals refine BK (MY ?_);cases hb:(CD F).back? with |none=>exact BK (J8 (BZ (eZ T X u3 G.1 G.2 (by omega))))|some b=>
        lk;obtain⟨s1,m1,pw⟩:=b;k_in;dsimp only;generalize power' D.size (2*s1+m1) (2*s1+m1+m1+m) D.size=pp;refine BK (Ih (IG (I:=λ_ c U=>c=(AG,())/\Cq K D U/\F8 kf (Ai U) 0 (CD U).toList W/\Dr kf (Ai U) W (W+m)) ?r1 (λ_ _ q=>q) ⟨rfl,T,X,u3⟩) ?r2);case r1=>
          intro y M U _ hy Z;lk;obtain⟨rfl,L,M,f⟩:=Z;k_in;refine BK (MY ?_);by_cases z4:(CD U).size>1
          . have e4:=AFB (CD U) ((CD U).size-2) (by(clear hy G d e r z R t g;omega));simp only[AEv z4,e4];split;.exact BZ ⟨rfl,L,M,f⟩
            . refine BK (fB C L M (by(clear hy G d e r z R t g;lia)) R λst5 B5 z5 c5 k5=>?_);exact BZ ⟨rfl,B5,c5,λi j w1 w2 w3=>by rw[k5 i w1,k5 j (by(clear w3 z5 hy G d e r z R t g;lia))];exact f i j w1 w2 w3⟩
          . simp only[AEu z4];exact BZ ⟨rfl,L,M,f⟩
        case r2=> intro M U Z;lk;obtain⟨rfl,L,M,f⟩:=Z;k_in;dsimp only;refine BK (J8 (BK (J8 (BZ ?_))));have B5:Cq K D (dI U ((CD U).modify ((CD U).size-1) λx=>(x.1,x.2.1,pp))):=⟨L.mf,L.ie,L.kh⟩;refine eZ B5 ?_ f G.1 G.2 (by omega);refine eQ (l:=(CD U).toList) ?_ M;rw[Array.toList_modify];refine yK λk=>?_;rw[Bs,Bs,List.getElem?_modify];cases(CD U).toList[k]? with |none=>rfl|some v=>
            show AA _=AA _;by_cases w:(CD U).size-1=k;.simp[w]
            .simp[w]
def Dl:AK->AK->Bool|.inl a,.inl b=>Aa (a<b)|.inl _,.inr _=>AJ|.inr _,.inl _=>AR|.inr x,.inr y=>Aa (x.cps.toList<y.cps.toList)
theorem Ry:∀a,Dl a a=AR|.inl a=>AEz (f9 _)|.inr x=>AEz (List.lt_irrefl _)
theorem tQ:∀{a b c},Dl a b=AJ->Dl b c=AJ->Dl a c=AJ|.inl a,.inl b,.inl c,D,J=>AEx (Qp (AEy D) (AEy J))|.inl _,.inl _,.inr _,_,_=>rfl|.inl _,.inr _,.inr _,_,_=>rfl|.inr x,.inr y,.inr z,D,J=>AEx (List.lt_trans (AEy D) (AEy J))
theorem tP:∀{a b},Dl a b=AR->Dl b a=AR->a=b|.inl a,.inl b,D,J=>by have D:=AE4 D;have J:=AE4 J;grind|.inr x,.inr y,D,J=>by have D:=AE4 D;have J:=AE4 J;rw[wW (List.le_antisymm (by assumption) (List.not_lt.mp D))]
def Bf:List AK->List AK->Bool|[],[]=>AR|[],_::_=>AJ|_::_,[]=>AR|a::x,b::y=>if a=b then Bf x y else Dl a b
theorem Pp:∀x,Bf x x=AR|[]=>rfl|a::x=>by rw[Bf,AEv rfl];exact Pp x
theorem VG:∀{x y z},Bf x y=AJ->Bf y z=AJ->Bf x z=AJ
  |[],[],_,h,_=>by cases h|[],_::_,[],_,h=>by cases h|[],_::_,_::_,_,_=>rfl|_::_,[],_,h,_=>by cases h|_::_,_::_,[],_,h=>by cases h|a::x,b::y,c::z,D,J=>by
    unfold Bf at D J⊢;by_cases W:a=b
    . subst W;rw[AEv rfl]at D;by_cases U:a=c;. subst U;rw[AEv rfl]at J⊢;exact VG D J
      simp_all
    . rw[AEu W]at D;by_cases U:b=c;.simp_all
      . rw[AEu U]at J;have V:=tQ D J;have:a≠c:=λe=>by rw[e,Ry]at V;cases V
        exact Ou (AEu this) V
theorem R8:∀{x y},Bf x y=AR->Bf y x=AR->x=y
 |[],[],_,_=>rfl|[],_::_,h,_=>by cases h|_::_,[],_,h=>by cases h|a::x,b::y,D,J=>by
  unfold Bf at D J;by_cases e:a=b
  . subst e;rw[AEv rfl]at D J;rw[R8 D J]
  . rw[AEu e]at D;rw[AEu (Gb e)]at J;exact absurd (tP D J) e
@[reducible]def Hw:WK where
 α:=List AK
 blt:=Bf
 irrefl:=Pp
 trans _ _ _:=VG
 negTrans a b c h:=by cases e:Bf a b with |true=>exact .inl rfl|false=>cases D:Bf b a with |true=>exact .inr (VG D h)|false=>rw[<-R8 e D];exact .inr h
 total _ _:=R8
def B0:AL->AK|.int i _=>.inl i|.str x _=>.inr x|_=>.inl 0
def Hv(h:Bb):AL->List AK
 |.int i _=>[.inl i]|.str x _=>[.inr x]|.ref a=>match h.get? a with
  |AA o=>match o.data with |.seq D _=>D.toList.map B0|_=>[]
  |AG=>[]
 |_=>[]
theorem AAz{s:AZ}{O:WK}{vs:List AL}(Z:s.heap.get? a=AA (Cd "list" vs.toArray n))(R:vs.length<=Ay)(kf:AL->O.α)(F:∀Y,(∀b o,b≠a->s.heap.get? b=AA o->Y.get? b=AA o)->2<=vs.length->∃W,(∀(Q:QH->AZ->Prop)(E:AL->AZ->Prop),Q W {s with heap:=Y}->BB (Ar prog w) A (dF vs.toArray) Q E {s with heap:=Y})/\GN prog w A {s with heap:=Y} W O kf (J7 vs))(h:∀out:Array BF,out.Perm (J7 vs)->Dr kf out 0 (J7 vs).size->P (.done (.ret .none)) {s with heap:=zS s.heap a vs (out.map (·.2))}):BB (Ar prog w) A (Builtin.«list.sort» ⟨[.ref a],[]⟩) P E s:=by
  rw[list_sort_plain];have c:a<s.heap.objs.size:=Cw Z;refine BL (zP Z rfl (BL (QJ Z rfl ?_)));lk;obtain⟨G,V⟩:∃G,(s.heap.update a (Em λ_=>#[])).get? a=AA (Cd "list" #[] G):=⟨_,WO Z (λ_=>#[])⟩;k_in;refine BL (WR V rfl (BL (ADo (BL (eP (Sy ?_))))));generalize I:((s.heap.update a (Em λ_=>#[])).push (Cd "tuple" vs.toArray 0)).push (Cd "list" #[] 0)=H;have T:∀b o,b≠a->s.heap.get? b=AA o->H.get? b=AA o:=λb o M q=>by rw[<-I];exact DN _ (DN _ ((AAC _ _ _ _ M).trans q))
  have J:H.get? a=AA (Cd "list" #[] G):=by rw[<-I];exact DN _ (DN _ V)
  have fin:=λout K L=>by have:=h out K L;unfold zS at this;rw[I]at this;exact this
  dsimp only;by_cases D:vs.toArray.size<2
  . rw[AEv D,AEv D];refine BL (Cp ?_);rw[ADt];refine BL (Cp ?_);dsimp only;refine BL (WR J rfl (BL (QJ J rfl ?_ (hsz2:=by grind))));simp only[AFA,Lk,AE0];refine Cp (fin (vs.toArray.zip vs.toArray) (Wb _) λi j _ d X=>?_);rw[pairsOf_size]at X;have N:vs.toArray.size=vs.length:=by simp
    obtain rfl:i=j:=by lia
    exact NQ _
  . rw[AEu D,AEu D];lk;obtain⟨W,S,C⟩:=F H T (by simpa using D);k_in;refine BL (S _ _ ?_);refine BL (II (fE C (st:=dC W (J7 vs) #[] 7 AG) (Q:=λ_ U=>Cq W (J7 vs) U/\Dr kf (Ai U) 0 (J7 vs).size) ⟨Wb _,rfl,rfl⟩ rfl λU B u=>⟨B,u⟩) ?_ λ_ _ e=>e);rintro⟨⟨⟩,U⟩f⟨rfl,B,u⟩;dsimp only;refine BL (WR J rfl (BL (QJ J rfl ?_ (hsz2:=by refine Ah (Bw ((fJ ..).trans (B.mf.size_eq.trans (pairsOf_size _)))) ?_;exact Kx R))));rw[B.kh];simp only[AFA,Lk,AE0];exact Cp (fin _ B.mf u)
def Cz:AK->Bool|.inl _=>AJ|.inr _=>AR
def FU:AL->Prop|.int _ _=>True|.str _ _=>True|_=>False
theorem Zy(c:Bool)(D:FU x)(J:FU y)(U:Cz (B0 x)=Cz (B0 y))(h:Q (Dl (B0 x) (B0 y)) s):BB (Ar prog w) A (oneLt' c x y) Q E s:=by
 cases x<;>first|exact D.elim|skip
 all_goals(cases y<;>first|exact J.elim|exact Iu (by assumption)|exact Iu (by assumption)|skip)
 .cases c with |true=>exact oneLt_int h|false=>exact AAQ _ _ (zQ h)
 .cases c with|true=>exact oneLt_str h|false=>exact AAQ _ _ (ACO h)
section
variable{prog:Ce}{w:CA}{A:Dj}{E:AL->AZ->Prop}{s:AZ}{Q:Bool->AZ->Prop}
set_option tactic.hygienic true in theorem U6{x y:AL}(D:FU x)(J:FU y)(hs:Cz (B0 x)=Cz (B0 y))(h:Q (Aa (B0 x=B0 y)) s):BB (Ar prog w) A (eqBool x y) Q E s:=by
  cases x<;>first|exact D.elim|skip
  all_goals(cases y<;>first|exact J.elim|exact Iu (by assumption)|exact Iu _|skip)
  . rename_i a t c u;refine AEa a c t u _ w A E s Q ?_;have e:(a==c)=Aa (B0 (.int a t)=B0 (.int c u)):=by show(a==c)=Aa ((C5 a)=C5 c);grind
    simp_all
  . rename_i a t c u;refine zN a c t u _ w A E s Q ?_;have e:(a==c)=Aa (B0 (.str a t)=B0 (.str c u)):=by show(a==c)=Aa ((Bt a)=Bt c);grind
    simp_all
end
theorem Zt:∀(xs ys:List AL)(i:Nat),(∀v∈xs,FU v)->(∀v∈ys,FU v)->xs.map (λv=>Cz (B0 v))=ys.map (λv=>Cz (B0 v))->Q (Bf (xs.map B0) (ys.map B0)) s->d5 prog w A b AR Q (xs.zip ys) i s
 |[],[],_,_,_,_,h=>ADI h|[],_::_,_,_,_,e,_=>by cases e|_::_,[],_,_,_,e,_=>by cases e|x::xs,y::ys,i,V,W,e,h=>by
  obtain⟨D,Y⟩:=C9 e;have J:=V x D4;have U:=W y D4;have h:Q (if B0 x=B0 y then Bf _ _ else Dl _ _) s:=h;refine d8 (U6 J U D (AAO (λq=>?_) λq=>?_));. rw[AEv (by(simpa using q))]at h;exact AAR (Zt xs ys _ (λZ u2=>V _ (ID u2)) (λZ u2=>W _ (ID u2)) Y h)
  . rw[AEu (AE4 q)]at h;exact AAP (Zy _ J U D h)
def Ht(h:Bb)(u:AL)(ks:List AK):Prop:=∃a o D m,u=.ref a/\h.get? a=AA o/\o.cls=.type "tuple"/\o.data=.seq D m/\D.toList.map B0=ks/\∀v∈D.toList,FU v
theorem Ht.kf(t:Ht h u ks):Hv h u=ks:=by lk;obtain⟨a,o,D,m,rfl,e,_,d,k,_⟩:=t;k_in;simp only[Hv,e,d];exact k
inductive Ki(h:Bb):List AL->List (List AK)->Prop|cI{vs kss}:vs.length=kss.length->(∀(i:Nat)u ks,vs[i]?=AA u->kss[i]?=AA ks->∃n t,u=.int n t/\ks=[.inl n])->Ki h vs kss|cS{vs kss}:vs.length=kss.length->(∀(i:Nat)u ks,vs[i]?=AA u->kss[i]?=AA ks->∃n t,u=.str n t/\ks=[.inr n])->Ki h vs kss|cT{vs kss}(sh:List Bool):vs.length=kss.length->sh≠[]->(∀(i:Nat)u ks,vs[i]?=AA u->kss[i]?=AA ks->Ht h u ks/\ks.map Cz=sh)->Ki h vs kss
theorem Ki.de(x:Ki h vs kss):vs.length=kss.length:=by cases x<;>assumption
theorem Ki.kf(x:Ki h vs kss):∀(i:Nat)u ks,vs[i]?=AA u->kss[i]?=AA ks->Hv h u=ks:=by intro i u ks D J;cases x with|cI _ f=>obtain⟨n,t,rfl,rfl⟩:=f i u ks D J;rfl|cS _ f=>obtain⟨n,t,rfl,rfl⟩:=f i u ks D J;rfl|cT _ _ _ f=>exact(f i u ks D J).1.kf
theorem MP{l:List J}{m:List U}(V:l.length=m.length)(h:x∈l):∃(i:Nat)(y:U),l[i]?=AA x/\m[i]?=AA y:=by lk;obtain⟨i,D,e⟩:=FN.mp h;k_in;exact⟨i,m[i]'(Bh D (Bw V)),(List.getElem_eq_iff D).mp e,(by simp)⟩
theorem Ki.abb(x:Ki h vs kss)(O:2<=vs.length)(kp:∀a o D m,.ref a∈vs->h.get? a=AA o->o.cls=.type "tuple"->o.data=.seq D m->s.heap.get? a=AA o):∃κ,(∀(Q:QH->AZ->Prop)(E:AL->AZ->Prop),Q κ s->BB (Ar prog w) A (dF vs.toArray) Q E s)/\GN prog w A s κ Hw (Hv h) (J7 vs):=by
  have L:∀p∈(J7 vs).toList,p.1∈vs:=λp B=>by rw[WQ]at B;exact(zR B).2
  cases x with |cI Y f=>
    refine⟨oneType',λQ E q=>ADG (T:=.type "int") O (λv C=>?_) (by decide) (by decide) q,⟨λp B q M Q E k=>?_⟩⟩
    . lk;obtain⟨i,U,V,W⟩:=MP Y C;obtain⟨n,t,rfl,_⟩:=f i _ _ V W;k_in;exact .now
    . lk;obtain⟨i,U,V,W⟩:=MP Y (L p B);obtain⟨j,ls,P,R⟩:=MP Y (L q M);obtain⟨n,t,G,_⟩:=f i _ _ V W;obtain⟨m,t',u2,_⟩:=f j _ _ P R;k_in;rw[G,u2]at k⊢;rw[ACN];refine oneLt_int ?_;have e:Aa (n<m)=Bf [.inl n] [.inl m]:=by show _=if(C5 n:AK)=C5 m then AR else Aa (n<m);(split<;>simp_all)
      rw[e];exact k|cS Y f=>
    refine⟨oneType',λQ E q=>ADG (T:=.type "str") O (λv C=>?_) (by decide) (by decide) q,⟨λp B q M Q E k=>?_⟩⟩
    . lk;obtain⟨i,U,V,W⟩:=MP Y C;obtain⟨n,t,rfl,_⟩:=f i _ _ V W;k_in;exact .now
    . lk;obtain⟨i,U,V,W⟩:=MP Y (L p B);obtain⟨j,ls,P,R⟩:=MP Y (L q M);obtain⟨n,t,G,_⟩:=f i _ _ V W;obtain⟨m,t',u2,_⟩:=f j _ _ P R;k_in;rw[G,u2]at k⊢;rw[ACN];refine oneLt_str ?_;have e:Aa (n.cps.toList<m.cps.toList)=Bf [.inr n] [.inr m]:=by show _=if(Bt n:AK)=Bt m then AR else Aa (n.cps.toList<m.cps.toList);(split<;>simp_all)
      rw[e];exact k|cT g Y hn f=>
    have F:∀u∈vs,∃U,Ht s.heap u U/\Hv h u=U/\U.map Cz=g:=λu N=>by obtain⟨i,U,V,W⟩:=MP Y N;obtain⟨t,z⟩:=f i u U V W;refine⟨U,?_,t.kf,z⟩;obtain⟨a,o,D,m,rfl,e,c,d,r⟩:=t;exact⟨a,o,D,m,rfl,(kp _ _ _ _ N e c d),c,d,r⟩
    refine⟨tuples' AJ,λQ E q=>?_,⟨λp B q M Q E k=>?_⟩⟩;.
      have b:∀(l:List AL),(∀u∈l,u∈vs)->∃H,AC9 s.heap l H/\H.length=l.length/\∀v∈H,FU v/\Cz (B0 v)=g.headD AJ:=λl=>by induction l with |nil=>exactλ_=>⟨[],trivial,rfl,(λG u2=>absurd u2 Sg)⟩|cons u l ih=>intro N;obtain⟨H,I,K,X⟩:=ih (λG u2=>N _ (ID u2));obtain⟨U,⟨a,o,D,m,rfl,e,c,d,r,Z⟩,_,z⟩:=F u (N _ D4);obtain⟨l0⟩:=D;match l0,r,Z with |[],r,_=>simp_all|f0::l1,r,Z=> refine⟨f0::H,ADA e c d rfl I,ABz.mpr K,λv C=>?_⟩;grind
      lk;obtain⟨H,I,K,X⟩:=b vs λ_ h=>h;k_in;cases hh:g.headD AJ with
      |true=> refine d9 (T:=.type "int") I (AE3 (IF O) K.symm) (λv C=>?_) (by decide) q;obtain⟨Z,z⟩:=X v C;rw[hh]at z;cases v<;>first|exact Z.elim|exact Iu (show AJ=AR from z)|exact Iu (by assumption)|exact .now
      |false=> refine d9 (T:=.type "str") I (AE3 (IF O) K.symm) (λv C=>?_) (by decide) q;obtain⟨Z,z⟩:=X v C;rw[hh]at z;cases v<;>first|exact Z.elim|exact Iu (by assumption)|exact Iu (show AR=AJ from z)|exact .now
    . lk;obtain⟨U,⟨a,o,D,m,G,e,c,d,r,Z⟩,I,z1⟩:=F _ (L p B);obtain⟨ls,⟨a',o',J,m',u2,e',c',d',r',S⟩,K,z2⟩:=F _ (L q M);k_in;have k:Q (Bf (Hv h p.1) (Hv h q.1)) s:=k;rw[I,K,<-r,<-r']at k;rw[G,u2];have y:=by
        have h1:(D.toList.map B0).map Cz=(J.toList.map B0).map Cz:=by rw[r,r',z1,z2]
        rw[Cu,Cu]at h1;exact h1
      have el:D.size=J.size:=by have:=AEw JN y;simpa using this
      refine ADH e d e' d' ?_;rw[AEz (WE.mpr (Bw el.symm))];exact Zt _ _ 0 Z S y k
inductive N6(K:Ax)(H:AI):List AD->List (List AK)->Prop|cI(ns:List Int):N6 K H (ns.map AD.int) (ns.map λn=>[.inl n])|cS(zs:List AF):N6 K H (zs.map AD.str) (zs.map λz=>[.inr z])|cT{xs:List AD}{kss:List (List AK)}(sh:List Bool):sh≠[]->Az (λx ks=>(∃a,x=.ref a/\Cm K H a (ks.map Aw))/\ks.map Cz=sh) xs kss->N6 K H xs kss
theorem Pw{U:List G}(p:U.Perm C):∀{J:List E},Az F J C->∃D,D.Perm J/\Az F D U:=by induction p with
 |nil=>intro J h;cases h;exact⟨[],.nil,.nil⟩|cons x _ L=>intro J h;cases h with|cons V W=>lk;obtain⟨D,A,B⟩:=L W;k_in;exact⟨_,A.cons _,.cons V B⟩
 |swap x y l=>intro J h;cases h with|cons V W=>cases W with|cons I K=>exact⟨_,b8 _ _ _,.cons I (.cons V K)⟩
 |trans _ _ Y Z=> intro J h;lk;obtain⟨O,A,B⟩:=Z h;obtain⟨H,M,N⟩:=Y B;k_in;exact⟨H,M.trans A,N⟩
theorem CN{l:List D}{m:List J}(h:Az F l m):l.length=m.length/\∀(i:Nat)a b,l[i]?=AA a->m[i]?=AA b->F a b:=by refine⟨?_,λ_ _ _=>Pu h⟩;induction h with|nil=>rfl|cons _ _ U=>exact AEw _ U
theorem M6:∀{ks:List AK}{J:List AL},Bk (ks.map Aw) J->J.map B0=ks/\∀v∈J,FU v|[],_,h=>by cases h;simp|k::ks,_,h=>by cases h with|cons U V=>obtain⟨e,f⟩:=M6 V;cases k with|inl i=>obtain⟨t,rfl⟩:=U;exact⟨by rw[FL,e];rfl,λv D=>by rcases Ca.mp D with rfl|D;exact HU;simp_all⟩|inr x=>obtain⟨t,rfl⟩:=U;exact⟨by rw[FL,e];rfl,λv D=>by rcases Ca.mp D with rfl|D;exact HU;simp_all⟩
theorem N6.aau(I:Ab X B σ H s)(h:N6 X.K H xs kss)(r:Bk xs its):Ki s.heap its kss:=by have M:=r.ao;cases h with|cI c=>refine .cI (by simp_all) λi u A Y D=>?_;rw[Bs]at D;lk;obtain⟨n,J,rfl⟩:=Du.mp D;obtain⟨C,U,t,W⟩:=r.va (i:=i) (x:=.int n) (by simp_all);k_in;grind|cS d=>refine .cS (by simp_all) λi u A Y D=>?_;rw[Bs]at D;lk;obtain⟨n,J,rfl⟩:=Du.mp D;obtain⟨C,U,t,W⟩:=r.va (i:=i) (x:=.str n) (by simp_all);k_in;grind|cT R N p=>obtain⟨F,G⟩:=CN p;refine .cT R (Ou M.symm F) N λi u A Y D=>?_;have S:=(BU.mp D).1;have J:xs[i]?=AA xs[i]:=(by simp);lk;obtain⟨⟨a,E,P⟩,z⟩:=G i _ _ J D;obtain⟨C,U,W⟩:=r.va J;rw[Y]at U;cases U;rw[E]at W;obtain rfl:u=Dk a:=W;obtain⟨Z,Q,⟨o,O,K,n,L⟩,_⟩:=I.ff P;obtain⟨T,b⟩:=M6 Q;k_in;exact⟨⟨a,o,_,n,rfl,O,K,L,by assumption,by assumption⟩,z⟩
theorem uY(r:Bk ys its)(B:its.length=kss.length)(H:∀(i:Nat)u ks,its[i]?=AA u->kss[i]?=AA ks->kf u=ks)(p:out.Perm (J7 its))(u:Dr (O:=Hw) kf out 0 (J7 its).size):∃D:List (AD×List AK),D.Perm (ys.zip kss)/\Bk (D.map (·.1)) (out.map (·.2)).toList/\(D.map (·.2)).Pairwise (λa b=>Bf b a=AR):=by
  have E:out.toList.Perm (its.zip its):=by rw[<-WQ];exact S7.mp p
  have d:∀q∈out.toList,q.1=q.2/\q.1∈its:=λq I=>zR (E.mem_iff.mp I);have F:(out.map (·.2)).toList=out.toList.map (·.2):=AA6 ..;have M:=by have:=E.map (·.2);rwa[yR (Ak _)]at this
  have X:=r.ao;have L:Az (λ(q:AD×List AK)v=>Bj q.1 v/\kf v=q.2) (ys.zip kss) its:=by refine GY (by(simp[*])) λi a b W Y=>?_;obtain⟨G,Q⟩:=MR.mp W;obtain⟨v,R,S⟩:=r.va G;grind
  lk;obtain⟨D,N,P⟩:=Pw M L;obtain⟨K,T⟩:=CN P;k_in;refine⟨D,N,?_,?_⟩
  . rw[F];refine GY (Ou (As _) K) λi a b W Y=>?_;grind
  . rw[Gq];intro i j Z A J;rw[As]at Z A;have c:=p.size_eq.symm;have C:∀k(B:k<D.length),(D[k]).2=BX (O:=Hw) kf out k:=λk B=>by
      have U:k<out.size:=by simp_all
      rw[D7 U];have Y:(out.toList.map (·.2))[k]?=AA out[k].2:=by simp_all
      grind
    have:=u i j (BY _) (B6 J) (by simp_all);rw[<-C i Z,<-C j A]at this;rw[cG,cG];exact this
theorem Vl(I:Ab X pins σ H s)(hz:ys.length<=Ay)(hc:∀(Q:List AL->AZ->Prop)(E:AL->AZ->Prop),(∀h1 tk its,(∀b o,s.heap.get? b=AA o->h1.get? b=AA o)->s.heap.objs.size<=h1.objs.size->Bk ys its->Q its {s with heap:=h1,toks:=tk})->BB (Ar X.ag X.w) X.A.in1 (collect (.ref p)) Q E s)(sk:∀its,Bk ys its->its.length=kss.length/\∃kf,(∀(i:Nat)u ks,its[i]?=AA u->kss[i]?=AA ks->kf u=ks)/\∀s':AZ,(∀b o,s.heap.get? b=AA o->s'.heap.get? b=AA o)->2<=its.length->∃κ,(∀(Q:QH->AZ->Prop)(E:AL->AZ->Prop),Q κ s'->BB (Ar X.ag X.w) X.A.in1.in1 (dF its.toArray) Q E s')/\GN X.ag X.w X.A.in1.in1 s' κ Hw kf (J7 its))(q:∀l(qs:List (AD×List AK)),H l=AG->qs.Perm (ys.zip kss)->(qs.map (·.2)).Pairwise (λa b=>Bf b a=AR)->Q (.ref l) (AQ H l (.lst (qs.map (·.1))))):BB (Ar X.ag X.w) X.A (Ip (.builtin "sorted") [.ref p]) (Fy X pins σ Q) X.xe s:=by
 refine Calls.call_function_entry kind_sorted plain_sorted entry_sorted (args_sorted1 _) ?_;refine BL (Cp ?_);refine BL (hc _ _ λh1 tk its k1 grow rv=>?_);lk;obtain⟨hk,kf,hkf,cm⟩:=sk its rv;k_in;have ra:=Ah (Bw rv.ao.symm) hz;refine BL (eP ?_ ra);have hoL:(h1.push _).get? h1.objs.size=AA (Cd "list" its.toArray 0):=Gu _ rfl;refine BL (Sy (ADk ACT ⟨_,hoL,rfl⟩ ACI (AAz (O:=Hw) hoL ra kf (λh' k' h2=>cm _ (λa o e=>k' a o (Ee (Cw (k1 a o e))) (DN _ (k1 a o e))) h2) λout p u=>⟨_,rfl,Cp ⟨_,rfl,?_⟩⟩) (args_list_sort _)));lk;obtain⟨qs,q1,q2,q3⟩:=uY rv hk hkf p u;obtain⟨e',ho⟩:=sortedHeap_at (a:=h1.objs.size) (vs:=its) (out:=out.map (·.2)) hoL;k_in;have lz:(qs.map (·.1)).length<=Ay:=by rw[As,q1.length_eq,ABp];exact Ah (J5 _ _) hz
 have old:∀b o,s.heap.get? b=AA o->(zS (h1.push (Cd "list" its.toArray 0)) h1.objs.size its (out.map (·.2))).get? b=AA o:=λb o e=>by have e1:=k1 b o e;have hlt:=Cw e1;rw[sortedHeap_old (Ee hlt) (by rw[size_push'];exact y9 hlt)];exact DN _ e1
 exact⟨.ref h1.objs.size,_,I.ma (a:=h1.objs.size) (o:=.lst (qs.map (·.1))) (t':=tk) old grow ⟨lz,_,e',q2,by rw[fK];exact ho⟩,rfl,q _ qs (I.cj.bz grow) q1 q3⟩
theorem ZP{X:Br}{s:AZ}(U:Bk ys its)(W:PlainL s.heap p its.toArray)(Z:ys.length<=Ay)(Q:List AL->AZ->Prop)(E:AL->AZ->Prop)(f:∀D Y its,(∀b o,s.heap.get? b=AA o->D.get? b=AA o)->s.heap.objs.size<=D.objs.size->Bk ys its->Q its {s with heap:=D,toks:=Y}):BB (Ar X.ag X.w) X.A.in1 (collect (.ref p)) Q E s:=by have J:=U.ao;refine collect_list W.isList (f _ _ _ (λb o e=>(AAC _ _ _ _ (Ee (Cw e))).trans (DN _ e)) ?_ U) (by simp_all);simp_all
theorem rP{K:Ax}(B:X.K=K:=by rfl):Fx X (.builtin "sorted") (λxs H Q=>∃(p:AE)(ys:List AD)(kss:List (List AK)),xs=[.ref p]/\B7 K H p ys/\N6 K H ys kss/\∀l(J:List (AD×List AK)),H l=AG->J.Perm (ys.zip kss)->(J.map (·.2)).Pairwise (λa b=>Bf b a=AR)->Q (.ref l) (AQ H l (.lst (J.map (·.1))))):=by subst B;intro Z s O H xs N Q I r h;lk;obtain⟨p,ys,kss,rfl,C,L,q⟩:=h;obtain⟨u,rfl,G⟩:=Ib r;cases G;obtain⟨D,U,F,Y⟩:=I.gh C;k_in;refine Vl I Y (ZP U F Y) (λD U=>?_) q;have W:=L.aau I U;exact⟨W.de,_,W.kf,λM E A=>W.abb A λa o _ _ _ e _ _=>E a o e⟩
theorem rR(K:W.KdlSrc prog w T r d n P C)(N:A.handled=AG)(Z:C s.heap)(O:n<=Ay)(M:∀J V(D:Array AL),(∀b o,s.heap.get? b=AA o->J.get? b=AA o)->s.heap.objs.size<J.objs.size->ItemsOf P D n->Q D.toList {s with heap:=J,toks:=V}):BB (Ar prog w) A (collect (.ref r)) Q E s:=by
 refine BL (wpAny_runValue (ADU F.entry_proto_collect ?_));refine BL (AAn ?_);refine Cp ⟨plainId_quiet F.plain_list_iadd _,ADU F.entry_list_iadd ?_⟩;have U:(s.heap.push {cls:=.type "list",data:=.seq ([]:List AL).toArray}).get? _=AA _:=Gu _ rfl;have H:=K.there _ Z;have L:∀b o,s.heap.get? b=AA o->(s.heap.push {cls:=.type "list",data:=.seq ([]).toArray}).get? b=AA o:=λb o e=>DN _ e;have a:∀W,(∃J V D B,W={s with heap:=J,toks:=V}/\(∀b o,b≠s.heap.objs.size->(s.heap.push {cls:=.type "list",data:=.seq ([]:List AL).toArray}).get? b=AA o->J.get? b=AA o)/\J.get? s.heap.objs.size=AA {cls:=.type "list",dict:=AG,data:=.seq D B,slots:=#[]}/\ItemsOf P D n)->BB (Ar prog w) A (load _>>=λo=>match o.data with|.seq h _=>Bo h.toList|_=>unsupported "internal:collect") Q E W:=λW⟨J,V,D,B,e,S,I,X⟩=>by subst e;refine BL (wpAny_load I ?_);exact Cp (M J V D (λb o e=>S b o (Ee (Cw e)) (L b o e)) (Cw I) X)
 refine II (W.kdl_extend (A:=A) (R:=λr W=>r=.ok (.ret (.ref s.heap.objs.size))/\∃J V D B,W={s with heap:=J,toks:=V}/\(∀b o,b≠s.heap.objs.size->(s.heap.push {cls:=.type "list",data:=.seq ([]:List AL).toArray}).get? b=AA o->J.get? b=AA o)/\J.get? s.heap.objs.size=AA {cls:=.type "list",dict:=AG,data:=.seq D B,slots:=#[]}/\ItemsOf P D n) K N (K.keep _ _ Z (λi u2 u3 g=>L _ _ g)) _ (NN H.1) (NN H.2) _ 0 U (by simp_all) O) (λfin W G=>?_) (by simp);cases fin with|done f=>grind|again c=>refine⟨G.1,Sw G.2 λr s2 Y=>?_⟩;obtain⟨e,q⟩:=Y;grind
theorem MI(hc:X.gf=AJ):Fx X (.builtin "sorted") (λxs H Q=>∃(d:AE)(kvs:List (AK×AD)),xs=[.ref d]/\H d=AA (.dK kvs)/\((∀p∈kvs,∃i,p.1=.inl i)\/∀p∈kvs,∃i,p.1=.inr i)/\∀l(ks:List AK),H l=AG->ks.Perm (kvs.map (·.1))->ks.Pairwise (λa b=>Dl b a=AR)->Q (.ref l) (AQ H l (.lst (ks.map Aw)))):=by
  intro pins s σ H xs us Q I r h;lk;obtain⟨d,kvs,rfl,e,hty,q⟩:=h;obtain⟨u,rfl,ru⟩:=Ib r;cases ru;obtain⟨z,lo,vs,rel,dd⟩:=Mz I.cj e;obtain⟨ep,hat⟩:=dd.dictAt;k_in;have hlen:kvs.length=vs.length:=Io rel;have sv:∀{its:List AL},Bk (kvs.map λp=>Aw p.1) its->Ki s.heap its (kvs.map λp=>[p.1]):=λ{its}rv=>by
    have ra:=rv.ao;rw[As]at ra;rcases hty with hty|hty
    . refine .cI (by rw[As];exact ra.symm) λi u ks e1 e2=>?_;rw[Bs]at e2;obtain⟨p,e3,rfl⟩:=Du.mp e2;obtain⟨n,en⟩:=hty p (Cg e3);obtain⟨u',e4,e5⟩:=rv.va (i:=i) (x:=Aw p.1) (by rw[Bs,e3];rfl);rw[e1]at e4;cases e4;rw[en]at e5⊢;obtain⟨t,rfl⟩:=e5;exact⟨n,t,rfl,rfl⟩
    . refine .cS (by rw[As];exact ra.symm) λi u ks e1 e2=>?_;rw[Bs]at e2;obtain⟨p,e3,rfl⟩:=Du.mp e2;obtain⟨n,en⟩:=hty p (Cg e3);obtain⟨u',e4,e5⟩:=rv.va (i:=i) (x:=Aw p.1) (by rw[Bs,e3];rfl);rw[e1]at e4;cases e4;rw[en]at e5⊢;obtain⟨t,rfl⟩:=e5;exact⟨n,t,rfl,rfl⟩
  refine Vl (kss:=kvs.map λp=>[p.1]) I (by rw[As];exact z) (λQ E f=>rR (ADJ (knd:=E2 X.ag X.w) (kvs:=vs) (ep:=ep) lo) (I.ok.hd hc) hat (by simp_all) λh1 tk acc k1 gr it=>f h1 tk _ k1 (B6 gr) ?_) (λits rv=>⟨(sv rv).de,_,(sv rv).kf,λs' kp h2=>(sv rv).abb h2 λa o _ _ _ e _ _=>kp a o e⟩) λl qs hl q1 q3=>?_;.exact Zm rel (by rw[Mb];exact it.1) λj v hv=>it.2 j v (by rw[<-Ot];exact hv)
  . have ep:qs.map (·.1)=(qs.map λx=>x.2.headD (.inl 0)).map Aw:=by rw[Cu];refine MS λx hx=>?_;have hm:=q1.mem_iff.mp hx;obtain⟨i,hi⟩:=V5.mp hm;obtain⟨e3,e4⟩:=MR.mp hi;rw[Bs]at e3 e4;obtain⟨p3,e5,e6⟩:=Du.mp e3;rw[e5]at e4;show x.1=Aw (x.2.headD (.inl 0));rw[<-e6,<-B9 e4];rfl
    have pm:(qs.map λx=>x.2.headD (.inl 0)).Perm (kvs.map (·.1)):=by refine(q1.map _).trans (SY ?_);rw[show(λx:AD×List AK=>x.2.headD (.inl 0))=(λl:List AK=>l.headD (.inl 0))∘ACC from rfl,<-Cu,yR (by simp),Cu];rfl
    have pw:(qs.map λx=>x.2.headD (.inl 0)).Pairwise (λa b=>Dl b a=AR):=by
      rw[Eb];rw[Eb]at q3;refine q3.imp_of_mem λ{a b}ha hb hab=>?_;have one:∀x∈qs,∃k,x.2=[k]:=λx hx=>by have hm:=q1.mem_iff.mp hx;obtain⟨i,hi⟩:=V5.mp hm;obtain⟨_,e4⟩:=MR.mp hi;rw[Bs]at e4;obtain⟨p3,_,e6⟩:=Du.mp e4;exact⟨_,e6.symm⟩
      obtain⟨x,ex⟩:=one a ha;obtain⟨y,ey⟩:=one b hb;rw[ex,ey]at hab⊢;show Dl y x=AR;have hab:(if y=x then AR else Dl y x)=AR:=hab;by_cases z:y=x;.rw[z];exact Ry x
      .rw[AEu z]at hab;exact hab
    rw[ep];exact q _ _ hl pm pw
theorem sO(A:Dj)(s:AZ)(U:FU x)(V:FU y)(J:Cz (B0 x)=Cz (B0 y)):dZ A s x y (Aa (B0 x=B0 y)):=by intro D w E Q h;exact U6 U V J h
theorem wD(A:Dj)(s:AZ)(D:FU x)(J:FU y)(U:Cz (B0 x)=Cz (B0 y))(prog:Ce)(w:CA)(E:AL->AZ->Prop)(Q:AL->AZ->Prop)(h:Q (.bool (Dl (B0 x) (B0 y))) s):BB (Ar prog w) A (richCompare .Lt x y) Q E s:=by
 cases x<;>first|exact D.elim|skip
 all_goals(cases y<;>first|exact J.elim|exact Iu _|exact Iu (by assumption)|skip)
 .exact(zQ h)
 .exact(ACO h)
structure RZ(vs ws:List AL)(n m:Nat)(r:Bool):Prop where
 ex:∃(us zs:List AL),vs=us++zs/\(zs=[]\/ws.length<=us.length)/\(∀v∈us,FU v)/\(∀v∈ws,FU v)/\(∀(i:Nat)x y,us[i]?=AA x->ws[i]?=AA y->Cz (B0 x)=Cz (B0 y))/\Bf (us.map B0) (ws.map B0)=r
 de:vs.length+m=ws.length+n
theorem bU(l b:AE)(J D:Array AL)(n n2:Nat)(z O:Option AE)(sl m:Array (Option AL))(r:Bool)(X:RZ J.toList D.toList J.size D.size r):Meets (Builtin.«tuple.__lt__» ⟨[.ref l,.ref b],[]⟩) (λ_ R s=>s.heap.get? l=AA {cls:=.type "tuple",dict:=z,data:=.seq J n,slots:=sl}/\s.heap.get? b=AA {cls:=.type "tuple",dict:=O,data:=.seq D n2,slots:=m}/\R (.ok (.ret (.bool r))) s):=.of_wp λY w A R s h=>by
 lk;obtain⟨K,g,d,M,L⟩:=s;obtain⟨hl,hb,h⟩:=h;k_in;have f2:=AutoSeq1.sub_tuple_tuple;wp_walk using wpAny_loadPart' hl,wpAny_loadPart' hb,ADm _ (λZ b k=>b.1=AG/\k=⟨K,g,d,M,L⟩/\∃(N V:List AL)(q:Bool),Z=N.zip V/\RZ N V J.size D.size q/\R (.ok (.ret (.bool q))) ⟨K,g,d,M,L⟩) _;case turn=> rintro⟨y,x⟩Z b k⟨C,rfl,N,V,q,F,f,H⟩;lk;obtain⟨⟨B,o,rfl,G,P,Q,S,W⟩,U⟩:=f;k_in;cases V with |nil=>rw[List.zip_nil_right]at F;cases F|cons c V=>cases B with |nil=>simp_all|cons a B=> rw[Sa,ABx]at F;injection F with j E;injection j with hy X;subst hy X;have p:=P y D4;have t:=Q x D4;have u:=S 0 y x rfl rfl;have W:(if B0 y=B0 x then Bf (B.map B0) (V.map B0)else Dl (B0 y) (B0 x))=q:=W;refine BL (sO A.in1 ⟨K,g,d,M,L⟩ p t u Y w _ _ ?_);cases e:Aa (B0 y=B0 x)with |true=> rw[AEv (AEy e)]at W;wp_walk;refine⟨rfl,rfl,B++o,V,q,E,⟨⟨B,o,rfl,?_,λv I=>P v (GH _ I),λv I=>Q v (GH _ I),λi x y e1 e2=>S (i+1) x y (by simpa using e1) (by simpa using e2),W⟩,?_⟩,H⟩;all_goals grind|false=> rw[AEu (AE4 e)]at W;have T:=wD A.in1 ⟨K,g,d,M,L⟩ p t u Y w;wp_walk using T;exact⟨_,rfl,by rw[W];exact H⟩
 case fin=>
  rintro⟨b1,b2⟩k⟨C,rfl,N,V,q,F,⟨⟨B,o,rfl,G,P,Q,S,W⟩,U⟩,H⟩;simp only at C;subst C;have I:q=Aa (J.size<D.size):=by rw[<-W];cases B with
   |nil=>
    rcases G with G|G
    . subst G;cases V with |nil=> simp only[V1,C2]at U;exact(AEz (WE.mpr (Nat.add_le_add_iff_left.mp (Bw U)))).symm|cons c V=> simp only[V1,C2,Kw]at U;exact(AEx (by simp_all)).symm
    . have:V=[]:=cC (by simpa using G);subst this;simp only[V1,Sf]at U;exact(AEz (by lia)).symm|cons a B=>cases V with |nil=> simp only[V1,Kw,Sa]at U;exact(AEz (by lia)).symm|cons c V=>rw[Sa,ABx]at F;cases F
  rw[I]at H;wp_walk;exact⟨_,rfl,by simpa[AD8]using H⟩
 case h=>exact⟨rfl,rfl,J.toList,D.toList,r,rfl,X,h⟩
def vX(K:Ax):EJ:=λx y H Q=>ZD (λa b D U J=>x=.ref a) (λ_ b _ _ _=>y=.ref b) (λa _ D U _=>Cm K H a (D.map Aw++U)) (λ_ b _ _ J=>Cm K H b (J.map Aw)) (λ_ _ D U J=>(U=[]\/J.length<=D.length)) (λ_ _ D _ J=>(∀(i:Nat)k m,D[i]?=AA k->J[i]?=AA m->Cz k=Cz m)) (λ_ _ D _ J=>Q (.bl (Bf D J)) H)
theorem Vt:∀{xs ys:List AD}{D:List AL},Bk (xs++ys) D->∃vs J,D=vs++J/\Bk xs vs/\Bk ys J|[],ys,D,h=>⟨[],D,rfl,.nil,h⟩|x::xs,ys,_,h=>by cases h with|cons U W=>lk;obtain⟨vs,J,e,Y,Z⟩:=Vt W;k_in;exact⟨_,J,by simp_all,.cons U Y,Z⟩
theorem uQ{K:Ax}(j:X.A.units<GL)(d:X.K=K:=by rfl):Cf X (FF .Lt) (vX K):=by
 subst d;intro W s σ H x y v u Q I rx ry h;lk;obtain⟨a,b,A,zs,B,rfl,rfl,e,f,hz,g,q⟩:=h;cases rx;cases ry;obtain⟨k,r1,w,_⟩:=I.ff e;obtain⟨D,r2,z,_⟩:=I.ff f;obtain⟨E,F,rfl,P,q2⟩:=Vt r1;obtain⟨l,T⟩:=M6 P;obtain⟨m,c⟩:=M6 r2;have o:=P.ao;have p:=r2.ao;have l3:=q2.ao;rw[As]at o p;obtain⟨⟨R,S,L,sl⟩,O,M,n,N⟩:=id w;obtain⟨⟨G,Z,Y,C⟩,V,J,t,U⟩:=id z;k_in;simp only at M N J U;subst M N J U;have r:RZ (E++F).toArray.toList D.toArray.toList (E++F).toArray.size D.toArray.size (Bf A B):=by
  refine⟨⟨E,F,by simp,?_,T,by simpa using c,λi x y e1 e2=>?_,by simp[l,m]⟩,by simp;exact V8 _ _⟩;.grind
  .refine g i _ _ (by grind) (by grind)
 exact ADe (op:=.Lt) ⟨_,O,rfl⟩ ⟨_,V,rfl⟩ ACq ACi (by rfl) (bU a b _ _ n t S Z sl C _ r) ⟨O,V,show WU (Bf A B)≠Value.notImplemented/\Fy X W σ Q (.bool (Bf A B)) s from⟨(by simp),⟨.bl _,H,I,rfl,q⟩⟩⟩ j
def Cc(H:AI)(xs:List AD)(kss:List (List AK)):Prop:=Az (λx D=>∃a,x=.ref a/\H a=AA (.tup (D.map Aw))) xs kss
def Bc(H H':AI):Prop:=∀p D,H p=AA (.tup D)->H' p=AA (.tup D)
theorem An.tp(s:An H H'):Bc H H':=λp D e=>s _ _ e
theorem IU(H:AI):Bc H H:=λ_ _ h=>h
theorem Bc.aa(a:Bc H D)(b:Bc D J):Bc H J:=λp U e=>b _ _ (a _ _ e)
theorem Bc.du(t:Bc H H')(h:H' b=AA u)(D:∀xs,u≠.tup xs):Bc H (AQ H' b o):=λp xs e=>by
 have e:=t p xs e;have:p≠b:=λz=>by rw[z,h]at e;exact D xs (B9 e)
 rw[AX this];exact e
theorem Ej{F G:D->J->Prop}(h:∀a b,F a b->G a b):∀{l:List D}{m:List J},Az F l m->Az G l m|_,_,.nil=>.nil|_,_,.cons a r=>.cons (h _ _ a) (Ej h r)
theorem Dh{U V:Type}{F:U->V->Prop}{l D:List U}{m J:List V}(h:Az F l m)(s:Az F D J):Az F (l++D) (m++J):=by induction h with|nil=>exact s|cons r _ W=>exact .cons r W
theorem Px:∀{l:List D}{m:List J}(n:Nat),Az F l m->Az F (l.take n) (m.take n)|_,_,0,_=>.nil|_,_,_+1,.nil=>.nil|_,_,n+1,.cons a r=>.cons a (Px n r)
theorem OH:∀{l:List D}{m:List J}(n:Nat),Az F l m->Az F (l.drop n) (m.drop n)|_,_,0,h=>h|_,_,_+1,.nil=>.nil|_,_,n+1,.cons a r=>OH n r
theorem Cc.ab(h:Cc H xs kss)(t:Bc H H'):Cc H' xs kss:=Ej (λx D⟨a,e,q⟩=>⟨a,e,t _ _ q⟩) h
theorem Cc.de(h:Cc H xs kss):xs.length=kss.length:=(CN h).1
theorem Cc.at(h:Cc H xs kss){i:Nat}(e:xs[i]?=AA x):∃a ks,x=.ref a/\kss[i]?=AA ks/\H a=AA (.tup (ks.map Aw)):=by have U:=(BU.mp e).1;have D:kss[i]?=AA (kss[i]'(by rw[<-h.de];exact U)):=CG _;lk;obtain⟨a,J,q⟩:=(CN h).2 i _ _ e D;k_in;exact⟨a,_,J,D,q⟩
theorem Cc.xp(h:Cc H xs kss)(e:H p=AA (.tup (ks.map Aw))):Cc H (xs++[.ref p]) (kss++[ks]):=Dh h (.cons ⟨p,rfl,e⟩ .nil)
theorem Kt(H:AI):Cc H [] []:=EG
def HK:AK->DG|.inl i=>.int i|.inr x=>.str x
def Ez(ks:List AK):DG:=.tuple (ks.map HK)
def Zl:AK->Bool|.inl _=>AJ|.inr x=>K0 x
def R4(ks:List AK):Bool:=ks.all Zl
theorem OA{K:Ax}:∀ks:List AK,FI K H (ks.map Aw) (ks.map HK)|[]=>.nil|.inl i::r=>.cons (.int i) (OA r)|.inr x::r=>.cons (.str x) (OA r)
theorem Cc.adm{K:Ax}(h:Cc H xs kss):FI K H xs (kss.map Ez):=by induction h with|nil=>exact .nil|cons h _ D=>lk;obtain⟨a,rfl,q⟩:=h;k_in;exact .cons (.tup (Ao q) (OA _)) D
theorem Zn:∀ks:List AK,R4 ks=AJ->FY (ks.map HK)=AJ/\EU (ks.map HK)=0|[],_=>⟨rfl,rfl⟩|k::r,h=>by lk;obtain⟨D,J⟩:=Wd.mp h;obtain⟨a,b⟩:=Zn r J;k_in;cases k with|inl i=>simp[HK,FY,GJ,EU,GK,a,b]|inr x=>have D:K0 x=AJ:=D;simp[HK,FY,GJ,EU,GK,a,b,D]
theorem Zo:∀kss:List (List AK),(∀ks∈kss,R4 ks=AJ)->FY (kss.map Ez)=AJ/\EU (kss.map Ez)<=1|[],_=>⟨rfl,by decide⟩|ks::r,h=>by lk;obtain⟨a,b⟩:=Zo r λz D=>h z (GH _ D);obtain⟨c,d⟩:=Zn ks (h ks D4);k_in;refine⟨by simp[Ez,FY,GJ,a,c],?_⟩;simp[Ez,EU,GK,d];simp_all
theorem wJ{kss:List (List AK)}(h:∀ks∈kss,R4 ks=AJ):F7 (.list (kss.map Ez))=AJ:=by obtain⟨a,b⟩:=Zo _ h;simp[F7,GJ,GK,a];exact Ah b (by decide)
theorem Cc.yh{K:Ax}(h:Cc H xs kss)(W:sh≠[])(Y:∀ks∈kss,ks.map Cz=sh):N6 K H xs kss:=by refine .cT sh W (GY h.de λi a b J D=>?_);lk;obtain⟨p,U,q⟩:=(CN h).2 i a b J D;k_in;exact⟨⟨p,U,Ao q⟩,Y b (Cg D)⟩
theorem Cc.aat(h:Cc H xs kss){D:List (AD×List AK)}(p:D.Perm (xs.zip kss)):Cc H (D.map (·.1)) (D.map (·.2))/\(D.map (·.2)).Perm kss:=by
 have B:=h.de;constructor
 . refine GY (by rw[As,As]) λi a b U J=>?_;rw[Bs]at U J;lk;obtain⟨q,W,rfl⟩:=Du.mp U;rw[W]at J;cases J;obtain⟨j,A⟩:=V5.mp (p.mem_iff.mp (Cg W));obtain⟨Y,Z⟩:=MR.mp A;k_in;exact(CN h).2 j _ _ Y Z
 . have:=p.map (·.2);rwa[yR (Bw B.symm)]at this
def Cs(kss:List (List AK)):Prop:=kss.Pairwise λa b=>Bf b a=AR
theorem ON:∀{a b:List (List AK)},a.Perm b->Cs a->Cs b->a=b
  |[],b,p,_,_=>by simp_all|x::a,[],p,_,_=>QC.mp p|x::a,y::b,p,Z,A=>by
    lk;obtain⟨U,V⟩:=JP.mp Z;obtain⟨W,Y⟩:=JP.mp A;k_in;have e:x=y:=by
      have D:y∈x::a:=(by grind);have J:x∈y::b:=(by grind);rcases Ca.mp D with e|D;.exact e.symm
      . rcases Ca.mp J with e|J;.exact e
        .exact R8 (W x J) (U y D)
    subst e;rw[ON (by simp_all) V Y]
theorem Mx{K:Ax}(C:Nat->Ae->List AD->AI->Prop)(j:xs.length<=Ay)(T:C 0 (FO N AG++M.map (FA σ)) [] H)(f:∀i Y J Z,C i Y J Z->B7 K Z a xs)(k:∀(i:Nat)x Y J Z(L:AD->Ae->AI->Prop)(I:Ae->AI->Prop),xs[i]?=AA x->J.length<=i->C i Y J Z->(∀y W A,C (i+1) W (J++[y]) A->L y W A)->(∀W A,C (i+1) W J A->I W A)->g x Y Z λB A=>P B A λb G=>if b=AJ then O B G λy R=>L y B R else I B G)(c:∀Y J Z,J.length<=xs.length->C xs.length Y J Z->∀D,Z D=AG->Q (.ref D) (AQ Z D (.lst J))):Kd N M g P O σ Q (Kf K a) H:=by
 refine⟨λi m Y J F=>m=xs.length-i/\i<=xs.length/\J.length<=i/\C i Y J F,⟨xs.length,by simp,BY _,BY _,T⟩,?_⟩;intro i m Y J F X;lk;obtain⟨rfl,d,E,p⟩:=X;k_in;have q:=f i Y _ F p;by_cases U:i<xs.length
 . refine .inr ⟨⟨xs,xs[i],q,by simp[U]⟩,Bh (Gs E U) j,λx Z y=>?_⟩;obtain⟨e,y⟩:=y;subst e;have S:=y xs q;exact k i x Y _ _ _ _ S E p (λy W A h=>⟨_,JR _ _ U,rfl,U,by rw[B8];exact J3.mpr E,h⟩) λW A h=>⟨_,JR _ _ U,rfl,U,Kx E,h⟩
 . have e:=Fm d (Ga U);subst e;exact .inl ⟨⟨xs,q,Ak _⟩,c Y _ F E p⟩
theorem Jo{K:Ax}(A:Nat->Ae->List AD->AI->Prop)(T:xs.length<=Ay)(P:A 0 (FO M AG++L.map (FA σ)) [] H)(S:∀i Z U W,A i Z U W->B7 K W a xs)(X:∀(i:Nat)x Z U W(B:AD->Ae->AI->Prop),xs[i]?=AA x->U.length<=i->A i Z U W->(∀y F Y,A (i+1) F (U++[y]) Y->B y F Y)->g x Z W λJ Y=>E J Y λy C=>B y J C)(R:∀Z U W,U.length<=xs.length->A xs.length Z U W->∀D,W D=AG->Q (.ref D) (AQ W D (.lst U))):Kd M L g P7 E σ Q (Kf K a) H:=by
 refine Mx A T P S (λi x Z U W B I N O p c _=>?_) R;have e:(λ(J)(Y)=>P7 J Y λb G=>if b=AJ then E J G λy C=>B y J C else I J G)=λJ Y=>E J Y λy C=>B y J C:=by funext J Y;show(if AJ=AJ then E _ Y _ else I J Y)=_;rw[AEv rfl]
 exact X i x Z _ W B N O p c
section
variable{κ:Type}[DecidableEq κ]
set_option tactic.hygienic true in theorem M7{kvs:List (κ×AD)}{k:κ}{v:AD}{q:κ×AD}(h:q∈BJ kvs k v):q=(k,v)\/(q∈kvs/\q.1≠k):=by
  unfold BJ at h;split at h
  . lk;obtain⟨p,J,e⟩:=BE.mp h;k_in;by_cases z:p.1=k;.rw[AEv z]at e;rw[<-e,z];exact .inl rfl
    .rw[AEu z]at e;rw[<-e];exact .inr ⟨J,z⟩
  . rename_i D;rcases DS.mp h with h|h;.refine .inr ⟨h,λz=>D (OO.mpr ⟨q,h,AEx z⟩)⟩
    .exact .inl (By.mp h)
end
theorem Rz[DecidableEq J](kvs:List (J×AD))(k:J)(v:AD):(BJ kvs k v).map (·.1)=if k∈kvs.map (·.1)then kvs.map (·.1)else kvs.map (·.1)++[k]:=by
  by_cases h:k∈kvs.map (·.1)
  . rw[AEv h];lk;obtain⟨p,D,e⟩:=BE.mp h;k_in;unfold BJ;rw[AEv (OO.mpr ⟨p,D,AEx e⟩),Cu];refine MS λq _=>?_;show(if q.1=k then(q.1,v)else q).1=q.1;split<;>rfl
  . rw[AEu h];unfold BJ;rw[AEu (λq=>?_),CQ];.rfl
    . lk;obtain⟨p,D,e⟩:=OO.mp q;k_in;exact h (BE.mpr ⟨p,D,AEy e⟩)
section
variable{κ:Type}[DecidableEq κ]
set_option tactic.hygienic true in theorem NA{kvs:List (κ×AD)}{k:κ}{v:AD}(h:(kvs.map (·.1)).Nodup):((BJ kvs k v).map (·.1)).Nodup:=by
 rw[Rz];split;.exact h
 . rename_i D;exact Z0 h D
end
theorem R6[DecidableEq D](kvs:List (D×AD))(k:D)(v:AD):(BJ kvs k v).length<=kvs.length+1:=by
 have e:=AEw JN (Rz kvs k v);rw[As]at e;rw[e];split;.simp
 .simp
theorem FD{U:Type}[DecidableEq U]{kvs:List (U×AD)}{k:U}{v:AD}(h:BH kvs k=AA v):(k,v)∈kvs:=by lk;obtain⟨p,D,J⟩:=Du.mp h;k_in;have:=ABh D;have e:=AEy this;rw[<-e,<-J];exact List.mem_of_find?_eq_some D
theorem Lb{D:Type}[DecidableEq D]{kvs:List (D×AD)}{k:D}(h:k∈kvs.map (·.1)):∃v,BH kvs k=AA v:=by cases e:BH _ k with|some v=>exact⟨v,rfl⟩|none=>exact absurd h (P8 e)
theorem Ph:∀{l:List U}{n m:Nat},(∀(i:Nat)x,l[i]?=AA x->(p x=AJ↔n<=i/\i<m))->(l.drop n).take (m-n)=l.filter p|[],n,m,_=>by simp|x::l,0,0,h=>by have D:=h 0 x rfl;have J:=Ph (n:=0) (m:=0) λi y e=>(h (i+1) y (by simpa using e)).trans (by simp);rw[Gp,AEu (λz=>by have:=D.mp z;exact AB7 this.1 this.2),<-J];rfl|x::l,0,m+1,h=>by have D:=h 0 x rfl;have J:=Ph (n:=0) (m:=m) λi y e=>(h (i+1) y (by simpa using e)).trans (by simp);rw[Gp,AEv (D.mpr ⟨Ak _,dA _⟩),<-J];rfl|x::l,n+1,m,h=>by have D:=h 0 x rfl;have J:=Ph (n:=n) (m:=m-1) λi y e=>(h (i+1) y (by simpa using e)).trans (by(constructor<;>lia));rw[Gp,AEu (λz=>by have:=D.mp z;exact zA _ this.1),<-J];congr 1;lia
theorem U7[DecidableEq V](f:Z->V):∀(L:List Z)(ks:List V),ks.Nodup->(∀x∈L,f x∈ks)->(ks.flatMap λk=>L.filter λx=>Aa (f x=k)).Perm L
  |[],ks,_,_=>by
    have:(ks.flatMap λk=>([]).filter λx=>Aa (f x=k))=[]:=by simp
    rw[this]|x::L,ks,U,Y=>by
    have E:=U7 f L ks U λy C=>Y y (GH _ C);refine Vv ?_ (E.cons x);have W:∀ks:List V,ks.Nodup->(ks.flatMap λk=>(x::L).filter λx=>Aa (f x=k)).Perm (if f x∈ks then x::(ks.flatMap λk=>L.filter λx=>Aa (f x=k))else ks.flatMap λk=>L.filter λx=>Aa (f x=k)):=by intro ks;induction ks with |nil=>simp|cons k ks D=>
        intro U;obtain⟨A,B⟩:=IE.mp U;have D:=D B;rw[Ek];by_cases e:f x=k
        . have J:=λz=>A (e▸z);rw[AEu J]at D;rw[AEv (by rw[e];exact D4),Gp,AEv (by simpa using e)];exact(D.append_left _).cons x
        . rw[Gp,AEu (by simpa using e)];by_cases z:f x∈ks;. rw[AEv z]at D;rw[AEv (GH _ z)];exact(D.append_left _).trans ABv
          . rw[AEu z]at D;rw[AEu (λq=>by rcases Ca.mp q with q|q;exact e q;exact z q)];exact D.append_left _
    have:=W ks U;rwa[AEv (Y x D4)]at this
theorem aK{f g:D->List U}:∀{l:List D},(∀x∈l,(f x).Perm (g x))->(l.flatMap f).Perm (l.flatMap g)|[],_=>by simp|x::l,h=>by exact(h x D4).append (aK λy J=>h y (GH _ J))
theorem vG{D W:Type}{f:D->List W}{l m:List D}(p:l.Perm m):(l.flatMap f).Perm (m.flatMap f):=by induction p with|nil=>simp|cons x _ V=>exact V.append_left _|swap x y l=>rw[Ek,Ek,Ek,Ek,<-Ea,<-Ea];exact Sh.append_right _|trans _ _ J U=>exact J.trans U
def BV(d:AE)(H H':AI):Prop:=∀b o,b≠d->H b=AA o->H' b=AA o
theorem An.x(s:An H H')(d:AE):BV d H H':=λb o _ e=>s b o e
theorem BV.aa(a:BV d H D)(b:BV d D J):BV d H J:=λc o n e=>b c o n (a c o n e)
theorem BV.du(a:BV d H H'):BV d H (AQ H' d o):=λc u n e=>by rw[AX n];exact a c u n e
theorem BV.tp(a:BV d H H')(h:H d=AA u)(D:∀xs,u≠.tup xs):Bc H H':=λp xs e=>a p _ (λz=>by rw[z,h]at e;exact D xs (B9 e)) e
theorem Dc.yt(x:Dc P w H h)(V:H a=AG)(J:De P w (AQ H a o) h a o):Dc P w (AQ H a o) h:=λb u e=>by
 by_cases D:b=a;.subst D;rw[Af]at e;simp_all
 . rw[AX D]at e;exact(x b u e).vg (λW u2 u3 U=>U) (λc q=>by rw[AX (by grind)];exact q) λc Y q=>by rw[AX (by grind)];exact q
theorem AAq{prog:Ce}{w:CA}{K:Type}[DecidableEq K]{knd:KeyKind prog w K}{A:Dj}{E:AL->AZ->Prop}{s:AZ}{d:AE}{kvs:List (K×AL)}{k:K}{key D:AL}{Q:AL->AZ->Prop}(J:knd.is k key=AJ)(g:s.heap.DictOf knd d kvs)(W:∀v,HS kvs k=AA v->Q v {s with toks:=s.toks+1})(G:HS kvs k=AG->∀N,N.DictOf knd d (Qb kvs k D)->QO d s.heap N->Q D {s with heap:=N,toks:=s.toks+1})(j:kvs.length<=Ay):BB (Ar prog w) A (ADW d key D) Q E s:=by
 lk;obtain⟨o,U,p,L,c,B,T,M,h⟩:=g;k_in;have S:∀x,findBy knd.is U x=HS _ x:=λx=>by rw[<-M.find x];simp[findBy]
 have f:U.size<=Ay:=by
  have m:=M.length;have n:U.toList.length=U.size:=by simp
  omega
 unfold ADW;try with_reducible refine Sy ?_
 refine BL (knd.pyHash J ?_);refine BL (wpAny_dictFind_of J L B T ?_);have F:(U.findIdx? λe=>knd.is k e.key)=kvs.findIdx? λH=>Aa (H.1=k):=by rw[<-M.findIdx k];obtain⟨l⟩:=U;simp
 cases I:U.findIdx? _ with
 |some i=>
  have V:HS kvs k=(U[i]?).map (·.val):=by rw[<-S k,ADX,I]
  refine BL (wpAny_dictEntries L B ?_);cases C:U[i]? with |none=> have:=Array.findIdx?_eq_some_iff_findIdx_eq.mp I;have P:=this.1;rw[Array.getElem?_eq_getElem P]at C;exact nomatch C|some e=>rw[C]at V;exact BL (NW (Cp (W _ V)))
 |none=>
  have V:HS kvs k=AG:=by rw[<-S k,ADX,I]
  have Z:=not_mem_of_findIdx_none (F▸I);have Y:¬(kvs.any λH=>Aa (H.1=k))=AJ:=by rw[OO];rintro⟨H,O,C⟩;exact Z (BE.mpr ⟨H,O,AEy C⟩)
  refine BL (NW (BL (wpAny_updateDictKeys L B (Cp (G V _ ⟨_,_,_,Heap.get?_update_self _ L (Obj.isFreed_of_dict (ACw B _)),c.mapDictKeys _,ACw B _,T.push J _,?_,?_⟩ (WT ..))))))
  . rw[Qb,AEu Y];have:=M.append J (knd.hash k) D;simpa using this
  . rw[Qb,AEu Y,CQ,cO];refine⟨h,by simp,?_⟩;intro a X b R;simp at R;subst R;exactλe=>Z (e▸X)
theorem AAp{prog:Ce}{w:CA}{K:Type}[DecidableEq K]{knd:KeyKind prog w K}{d:AE}{k:K}{key:AL}(U:knd.is k key=AJ)(E:(d==K4)=AR)(D:AL):MeetsIn prog w (Builtin.«dict.setdefault» ⟨[.ref d,key,D],[]⟩) (λ_ R s=>∃kvs,s.heap.DictOf knd d kvs/\kvs.length<=Ay/\(∀v,HS kvs k=AA v->R (.ok (.ret v)) {s with toks:=s.toks+1})/\(HS kvs k=AG->∀J,J.DictOf knd d (Qb kvs k D)->QO d s.heap J->R (.ok (.ret D)) {s with heap:=J,toks:=s.toks+1})):=.of_wp λA R s⟨kvs,Z,Y,B,C⟩=>by refine BL ?_;refine BL (wpAny_notOrdered_dict Z.typeIs ?_);refine Cp ?_;simp only[E,Lk,AE0];exact BL (AAq U Z (λv G=>Cp ⟨v,rfl,B v G⟩) (λF J V W=>Cp ⟨_,rfl,C F J V W⟩) Y)
def xG(Y A Z:A1):A1:=λU H Q=>Y U H λx V=>Jn (λa=>x=.ref a) (λa=>MD V a) (λa=>A U V λy W=>Z U W λz J=>Kj (λD k=>J a=AA (.dK D)) (λ_ k=>y=Aw k) (λD _=>D.length<Ay) (λD k=>(∀v,BH D k=AA v->Q v J)) (λD k=>(BH D k=AG->Q z (AQ J a (.dK (BJ D k z))))))
theorem vD(p:Am X o td)(C:Am X e ty)(j:Am X f tx)(m:Us X o "setdefault" W e f Y):Am X (.Call (.Attribute o "setdefault" W) [e,f] [] Y) (xG td ty tx):=by
  intro U s G H Q I h;refine Sx m.ar m.abh m.za Sr ACk F.type_dict_setdefault (BD (p U s G H _ I h) λu s1⟨x,P,K,rx,a,b,d,w⟩=>?_);subst b;lk;obtain rfl:u=Dk a:=rx;obtain⟨t1,t2,_⟩:=Rx K d;k_in;refine⟨t1,t2,?_⟩;rw[m.wu];refine Sq rfl (WS (Le (BD (C U s1 G P _ K w) λiv s2⟨y,R,T,ry,q2⟩=>Le (BD (j U s2 G R _ T q2) λg s3⟨z,S,B,O,J,k,M,c,hl,q3,q4⟩=>OY ?_))));subst c;lk;obtain⟨zz,N,A,V,L⟩:=Mz B.cj M;k_in;refine WV ACk L.typeIs F.entry_dict_setdefault (F.args_dict_setdefault_3 _ _ _) (AAp (knd:=E2 X.ag X.w) (Km ry) N g) ⟨A,L,by rw[<-V.ao];exact zz,λw' hw=>?_,λn i Z t=>?_⟩;.cases l:BH J k with|none=>have:=Ux (o:=HS A k) (by rw[<-l];exact V.xu k);rw[hw]at this;cases this|some v=> lk;obtain⟨w2,D,F⟩:=N4 (v:=v) (o:=HS A k) (by rw[<-l];exact V.xu k);rw[hw]at D;cases D;k_in;exact⟨v,S,B.gm _,F,q3 v l⟩
  . have l:BH J k=AG:=by cases l:BH J k with|none=>rfl|some v=> obtain⟨w2,D,_⟩:=N4 (v:=v) (o:=HS A k) (by rw[<-l];exact V.xu k);rw[n]at D;cases D
    have C:∃q,i.get? a=AA q:=let⟨q,_,_,r,_⟩:=Z;⟨q,r⟩;have E:(BJ J k z).length<=Ay:=by have:=R7 J k z;omega
    exact⟨z,_,Pj B (by rw[M];exact HU) t C (Ru E N (V.js k O) Z),O,q4 l⟩
theorem uX(r:Bk ys its)(G:Ki h kvs kss)(X:its.length=kvs.length)(p:out.Perm (kvs.toArray.zip its.toArray))(u:Dr (O:=Hw) (Hv h) out 0 out.size):∃D:List (AD×List AK),D.Perm (ys.zip kss)/\Bk (D.map (·.1)) (out.map (·.2)).toList/\(D.map (·.2)).Pairwise (λa b=>Bf b a=AR):=by
  have Q:out.toList.Perm (kvs.zip its):=by have:=S7.mp p;simp_all
  have H:(out.map (·.2)).toList=out.toList.map (·.2):=AA6;have c:=r.ao;have C:=G.de;have P:Az (λ(q)(v:BF)=>Bj q.1 v.2/\Hv h v.1=q.2) (ys.zip kss) (kvs.zip its):=by refine GY (by(simp[*])) λi a b Z J=>?_;obtain⟨I,K⟩:=MR.mp Z;obtain⟨L,M⟩:=MR.mp J;obtain⟨v,A,N⟩:=r.va I;rw[M]at A;cases A;exact⟨N,G.kf i b.1 a.2 L K⟩
  lk;obtain⟨D,R,S⟩:=Pw Q P;obtain⟨F,T⟩:=CN S;k_in;refine⟨D,R,?_,?_⟩
  . rw[H];refine GY (by(simpa using F)) λi a b Z J=>?_;grind
  . rw[Gq];intro i j B W U;rw[As]at B W;have E:∀k(C:k<D.length),(D[k]).2=BX (O:=Hw) (Hv h) out k:=λk C=>by
      have Y:k<out.size:=by simp_all
      rw[D7 Y];have J:out.toList[k]?=AA out[k]:=by simp_all
      grind
    have:=u i j (BY _) (B6 U) (Bh W (Bw F));rw[<-E i B,<-E j W]at this;rw[cG,cG];exact this
theorem aA{kvs its:List AL}(h:v∈(kvs.toArray.zip its.toArray).toList):v.1∈kvs:=by rw[Array.toList_zip]at h;exact(cP h).1
theorem q9{K:Ax}(s:An H H')(h:Cm K H a xs):Cm K H' a xs:=h.imp (λh=>h.imp (s _ _) λ⟨o,h⟩=>⟨o,s _ _ h⟩) id
def Ur(K:Ax)(H:AI)(J:List AL)(kss:List (List AK)):Prop:=J.length=kss.length/\∀(i:Nat)u D,J[i]?=AA u->kss[i]?=AA D->∃q,u=.ref q/\Cm K H q (D.map Aw)
theorem Ur.yh(I:Ab X J σ H s)(h:Ur X.K H U kss)(Y:sh≠[])(Z:∀ks∈kss,ks.map Cz=sh):Ki s.heap U kss:=by refine .cT sh h.1 Y λi u ks V D=>⟨?_,(Z _ (Cg D))⟩;lk;obtain⟨q,rfl,W⟩:=h.2 i u ks V D;obtain⟨B,C,A,_⟩:=I.ff W;obtain⟨o,e,c,n,d⟩:=A;obtain⟨E,F⟩:=M6 C;k_in;exact⟨q,o,_,n,rfl,e,c,d,by assumption,(by assumption)⟩
theorem Ab.wx(I:Ab X (U::D) σ H s):Ab X D σ H s:=I.ic λp J=>I.uh p (Fj _ (ID J))
theorem Ab.ux(I:Ab X (D::J) σ H s):s.heap.get? D.1=AA D.2/\H D.1=AG/\D.1≠X.ae.locals/\D.1∉X.fs:=by have:=I.uh D List.mem_append_cons_self;(simp[*])
theorem Ab.zh(I:Ab X ((b,o)::D) σ H s)(V:(b∈X.ex\/X.s₀.heap.objs.size<=b)/\(∀x c,X.ae.cells.lookup x=AA c->c≠b)/\∀p∈X.pn++D,p.1≠b)(C:QO b s.heap U)(G:U.get? b=AA Y)(Z:∀v,Y.data≠.cell v):Ab X ((b,Y)::D) σ H {s with heap:=U,toks:=t'}:=by
 lk;obtain⟨E,A,B,F⟩:=I.ux;k_in;have J:Ab X _ σ H {s with heap:=U,toks:=t'}:=I.wx.dh (λc u Z e=>(C.2 c Z).trans e) A B V.1 V.2.1 V.2.2;refine J.ic λp W=>?_;rcases Ca.mp W with rfl|W;. (simp[*])
 .exact J.uh p (Fj _ W)
theorem Vu:∀{l:List AL},x∈l->(x,x)∈l.zip l
 |y::r,h=>by
  rcases Ca.mp h with rfl|h;. (constructor<;>lia)
  .exact GH _ (Vu h)
abbrev PZ(X:Br)(D:List (AE×BP))(b:AE):Prop:=(b∈X.ex\/X.s₀.heap.objs.size<=b)/\(∀x c,X.ae.cells.lookup x=AA c->c≠b)/\∀p∈X.pn++D,p.1≠b
theorem wU{st:Ci}(S:Bk ys its)(k:its.length<=Ay)(f:sh≠[])(i:∀ks∈kss,ks.map Cz=sh)(t:ys.length=kss.length)(I:Ab X ((J,Cd "list" U e)::(a,Cd "list" #[] Y)::D) σ H s)(L:J≠a)(G:PZ X ((a,Cd "list" #[] Y)::D) J)(F:PZ X D a)(Q:Ur X.K H U.toList kss)(N:(Ai st).Perm (U.zip its.toArray))(j:Dr (O:=Hw) (Hv s.heap) (Ai st) 0 (Ai st).size)(g:NS st=AG)(h:∀s' out c(A:List (AD×List AK)),Ab X D σ H s'->s'.heap.get? a=AA (Cd "list" out c)->out.size<=Ay->A.Perm (ys.zip kss)->Bk (A.map (·.1)) out.toList->(A.map (·.2)).Pairwise (λa b=>Bf b a=AR)->P (.done (.ret .none)) s'):BB (Ar X.ag X.w) X.A.in1.in1 (zO a AR Y (.ref J) st) P E s:=by
 have R:=I.ux.1;have m:=I.wx.ux.1;have q:=Q.yh I f i;have r:U.size=kss.length:=by have:=Q.1;rwa[Mb]at this
 have u:=S.ao;lk;obtain⟨A,n,o,p⟩:=uX (kvs:=U.toList) S q (by simp_all) (by rw[fK];exact N) j;have M:(Ai st).size=its.length:=by
  have l:(U.zip its.toArray).size=D5 U.size its.length:=by simp[Array.size_zip]
  rw[N.size_eq,l];simp_all
 have s1:=WT s.heap J (Em λ_=>(#[]:Array AL));obtain⟨B,K⟩:∃B,(s.heap.update J (Em λ_=>(#[]:Array AL))).get? J=AA (Cd "list" #[] B):=⟨_,WO R λ_=>#[]⟩;k_in;have W:(s.heap.update J (Em λ_=>(#[]:Array AL))).get? a=AA (Cd "list" #[] Y):=(s1.2 a L.symm).trans m;have T:Ab X ((J,Cd "list" #[] B)::(a,Cd "list" #[] Y)::D) σ H {s with heap:=s.heap.update J (Em λ_=>(#[]:Array AL)),toks:=s.toks}:=I.zh G s1 K λv z=>by cases z
 unfold zO;try dsimp only
 refine BL (QJ R rfl ?_ (by simp_all) (BY _));refine BL (wpAny_letGo ?_);refine BL (WR W rfl ?_);simp only[Lk,AE0];have s2:=WT (s.heap.update J (Em λ_=>(#[]:Array AL))) a (Em λ_=>(Ai st).map (·.2));lk;obtain⟨C,Z⟩:∃C,((s.heap.update J (Em λ_=>(#[]:Array AL))).update a (Em λ_=>(Ai st).map (·.2))).get? a=AA (Cd "list" ((Ai st).map (·.2)) C):=⟨_,WO W λ_=>(Ai st).map (·.2)⟩;k_in;have d:=T.wx.zh (t':=s.toks) F s2 Z λv z=>by cases z
 refine BL (QJ W rfl ?_ (BY _) (Ah (Bw (fJ ..)) (by(constructor<;>lia))));rw[g];simp only[AFA,Lk,AE0];exact Cp (h _ _ C A d.wx Z (by rw[fJ];exact Ah (Bw M) k) n o p)
section
variable{X:Br}{pins:List (AE×BP)}{σ:Ae}{k:Nat}{f:AE}{fd:Im}{ps:List AF}{sp:BO}
set_option tactic.hygienic true in theorem wR{H:AI}{s:AZ}{a U:AE}{Z:Nat}{ys:List AD}{its:List AL}{kss:List (List AK)}{sh:List Bool}{P:dQ->AZ->Prop}{E:AL->AZ->Prop}(F:Gy X.ag X.w X.K X.mg X.ar BM k f fd ps sp)(hb:MB X.K fd ps [])(hr:D9 (k+2) X.A)(rv:Bk ys its)(hl:ys.length=kss.length)(hz:its.length<=Ay)(h0:sh≠[])(hs:∀ks∈kss,ks.map Cz=sh)(I:Ab X ((U,Cd "list" #[] 0)::(a,Cd "list" #[] Z)::pins) σ H s)(hka:U≠a)(L:PZ X ((a,Cd "list" #[] Z)::pins) U)(g:PZ X pins a)(turn:∀(i:Nat)y ks H1,ys[i]?=AA y->kss[i]?=AA ks->An H H1->sp [y] H1 (λv H2=>An H1 H2/\∃q,v=.ref q/\Cm X.K H2 q (ks.map Aw)) JB)(h:∀H1 s' out c(qs:List (AD×List AK)),An H H1->Ab X pins σ H1 s'->s'.heap.get? a=AA (Cd "list" out c)->H1 a=AG->out.size<=Ay->qs.Perm (ys.zip kss)->Bk (qs.map (·.1)) out.toList->(qs.map (·.2)).Pairwise (λa b=>Bf b a=AR)->P (.done (.ret .none)) s'):BB (Ar X.ag X.w) X.A.in1.in1 (ksk_rest a (.ref f) AR its.toArray Z (.ref U)) P E s:=by
  have hy:=rv.ao;unfold ksk_rest;refine BL (NW ?_);first |rw[List.forIn_toArray]|(rw[<-Array.forIn_toList];simp only[List.toList_toArray])|rw[<-Array.forIn_toList]
  refine BL (ksk_fold (λi s'=>∃H1 D e,An H H1/\Ab X ((U,Cd "list" D e)::(a,Cd "list" #[] Z)::pins) σ H1 s'/\Ur X.K H1 D.toList (kss.take i)) its 0 s ⟨H,#[],0,C6 _,I,rfl,λi u ks Z=>by simp at Z⟩ ?iq ?uy);case iq=>
    intro j x s' hx r;lk;obtain⟨H1,D,e,sm,W,Y⟩:=r;k_in;simp only[Nat.zero_add]at Y⊢;have hj:j<its.length:=(by grind);have M:j<ys.length:=Bh hj (Bw hy.symm);have hjk:j<kss.length:=by simp_all
    lk;obtain⟨u0,N,ry⟩:=rv.va (CG M);rw[hx]at N;cases N;k_in;have K:kss[j]?=AA kss[j]:=CG hjk;have S:=turn j ys[j] kss[j] H1 (CG M) K sm;have lk:=Y.1;rw[Mb,El]at lk;have hl1:([x]:List AL).length=ps.length:=F.de _ _ _ _ S;refine BL (ADj (AAl (Sw (F.aca X.A.in1.in1 X.df s' H1 ⟨[x],[]⟩ [x] [ys[j]] _ JB hr.abl.abl W.aag.abl.abl (by have:=hb s' [x] W.oq (by simpa using hl1);simpa using this) (.cons ry .nil) S) λrr s2 G=>?_)));cases rr with |error ev=>exact G.elim|ok fl=>cases fl with |next=>exact HV G|brk=>exact HV G|cont=>exact HV G|ret u=>
        lk;obtain⟨v,H2,I2,rv2,R,q,rfl,eq⟩:=W.yu G;cases(show u=Dk q from rv2);have T:=I2.ux.1;have s1:=WT s2.heap U (Em (·.push (.ref q)));obtain⟨d,t⟩:∃d,(s2.heap.update U (Em (·.push (.ref q)))).get? U=AA (Cd "list" (D.push (.ref q)) d):=⟨_,WO T (·.push (.ref q))⟩;k_in;try dsimp only
        refine BL (QJ T rfl ?_ (by lia) (by grind));refine Cp ⟨rfl,H2,D.push (.ref q),d,sm.aa R,(I2.zh (t':=s2.toks) L s1 t (λv z=>by cases z)),?_,λi u ks l n=>?_⟩;.grind
        . rw[AA7]at l;rw[Dt,K]at n;by_cases hi:i<D.toList.length
          . rw[OP hi]at l;rw[OP (by simp_all)]at n;lk;obtain⟨q',w1,w2⟩:=Y.2 i u ks l n;k_in;exact⟨q',w1,q9 R w2⟩
          grind
  case uy=>
    intro s' r;lk;obtain⟨H1,D,e,sm,W,Y⟩:=r;k_in;rw[Ed (by simp_all)]at Y;have T:=W.ux.1;have na0:=W.wx.ux.2.1;try dsimp only
    refine BL (zP T rfl ?_);have hk:D.size=its.length:=by have:=Y.1;simp_all
    have hzs:(D.zip its.toArray).size=its.length:=by(simp[*])
    have fin:∀st:Ci,(Ai st).Perm (D.zip its.toArray)->Dr (O:=Hw) (Hv s'.heap) (Ai st) 0 (Ai st).size->NS st=AG->BB (Ar X.ag X.w) X.A.in1.in1 (zO a AR Z (.ref U) st) P E s':=λst p u fl=>wU rv hz h0 hs hl W hka L g Y p u fl (by grind);unfold ksk_end;try dsimp only
    simp only[Lk,AE0];by_cases h2:its.toArray.size<2
    . rw[AEv h2,AEv h2];refine BL (Cp ?_);rw[ADt];refine BL (Cp ?_);try dsimp only
      refine fin _ (Wb _) (λi j _ q1 q2=>?_) rfl;rw[hzs]at q2;rw[Ie]at h2;obtain rfl:i=j:=by lia
      exact NQ _
    . rw[AEu h2,AEu h2];rw[Ie]at h2;have sv:=Y.yh W h0 hs;lk;obtain⟨κ,kk,C⟩:=sv.abb (prog:=X.ag) (w:=X.w) (A:=X.A.in1.in1) (s:=s') (by rw[Mb];exact Ah (Ga h2) (Bw hk.symm)) λa o items m _ e _ _=>e;k_in;rw[fK]at kk;have C':GN X.ag X.w X.A.in1.in1 s' κ Hw (Hv s'.heap) (D.zip its.toArray):=⟨λp hp q G Q E z=>by have m1:p.1∈D.toList:=aA (kvs:=D.toList) (its:=its) (by assumption);have m2:q.1∈D.toList:=aA (kvs:=D.toList) (its:=its) (by assumption);exact C.adk (p.1,p.1) (by rw[WQ];exact Vu m1) (q.1,q.1) (by rw[WQ];exact Vu m2) Q E z⟩;refine BL (kk _ _ ?_);refine BL (II (fE C' (Q:=λ_ J=>Cq κ (D.zip its.toArray) J/\Dr (O:=Hw) (Hv s'.heap) (Ai J) 0 (D.zip its.toArray).size) ⟨Wb _,rfl,rfl⟩ rfl λJ B u=>⟨B,u⟩) ?_ λ_ _ e=>e);rintro⟨⟨⟩,J⟩s2⟨rfl,B,u⟩;try dsimp only
      exact fin J B.mf (by rw[B.mf.size_eq];exact u) B.kh
end
theorem Ab.yt(I:Ab X D σ H s)(f:Jm X D H a)(O:X.s₀.heap.get? a=AG)(U:De X.ag X.w (AQ H a o) s.heap a o):Ab X D σ (AQ H a o) s:=by
 lk;obtain⟨G,E,_,_,F,K⟩:=f;k_in;have J:∀b o,H b=AA o->b≠a:=(by grind);refine⟨I.ok,I.os,I.ir,⟨I.ar.ab,I.ar.ui,λb o C n L=>?_,I.ar.nq,λb N z=>?_,λb o u z=>?_,λb M z=>?_⟩,I.xf,I.nv,?_,λx c z=>?_,λp q=>?_,I.cj.yt G U,I.de⟩;. have q:b≠a:=(by grind);rw[AX q];exact I.ar.ba b o C n L
 .have:=I.ar.vm b N z;rw[AX (J _ _ this)];assumption
 .have:=I.ar.ql b o u z;rw[AX (J _ _ this)];assumption
 .obtain⟨V,q⟩:=I.ar.vk b M z;exact⟨_,by rw[AX (J _ _ q)];exact q⟩
 .rw[AX E.symm];exact I.ba
 .rw[AX (F x c z)];exact I.il x c z
 . lk;obtain⟨W,Y,Z,A,B⟩:=I.uh p q;k_in;exact⟨W,by rw[AX (K p q)];exact Y,Z,A,B⟩
def Y2(K:Ax)(sp:BO)(H:AI)(ys:List AD)(kss:List (List AK)):Prop:=ys.length=kss.length/\(∃W:List Bool,W≠[]/\∀D∈kss,D.map Cz=W)/\∀(i:Nat)y D J,ys[i]?=AA y->kss[i]?=AA D->An H J->sp [y] J (λv U=>An J U/\∃q,v=.ref q/\Cm K U q (D.map Aw)) JB
theorem wV(F:Gy X.ag X.w X.K X.mg X.ar BM k f fd ps sp)(hb:MB X.K fd ps [])(hr:D9 (k+2) X.A)(I:Ab X U σ H s)(hq:B7 X.K H p ys)(kb:Y2 X.K sp H ys kss)(q:∀l(L:List (AD×List AK))K,An H K->K l=AG->L.Perm (ys.zip kss)->(L.map (·.2)).Pairwise (λa b=>Bf b a=AR)->Q (.ref l) (AQ K l (.lst (L.map (·.1))))):BB (Ar X.ag X.w) X.A (Ip (.builtin "sorted") [.ref p] [(AC4 "key",.ref f)]) (Fy X U σ Q) E s:=by
  lk;obtain⟨hl,⟨sh,h0,hs⟩,turn⟩:=kb;obtain⟨D,w,pl,S⟩:=I.gh hq;k_in;have W:=w.ao;have h:=pl.isList;refine call_function_entry_kw kind_sorted plain_sorted entry_sorted (ksk_s1 _ _) ?_;unfold Builtin.«sorted»;refine BL (m:=checkCount "sorted" 1 1 _) (Cp ?_);refine BL (collect_list h ?_ (Ah (Bw W.symm) S));refine BL (eP ?_ (Ah (Bw W.symm) S));have C:((s.heap.push (Cd "list" #[] 0)).update s.heap.objs.size (Em (.++D.toArray))).objs.size=s.heap.objs.size+1:=by simp_all
  have B:(((s.heap.push (Cd "list" #[] 0)).update s.heap.objs.size (Em (.++D.toArray))).push (Cd "list" D.toArray 0)).get? (s.heap.objs.size+1)=AA (Cd "list" D.toArray 0):=by rw[<-C];exact Gu _ rfl
  have t:∀b o,s.heap.get? b=AA o->(((s.heap.push (Cd "list" #[] 0)).update s.heap.objs.size (Em (.++D.toArray))).push (Cd "list" D.toArray 0)).get? b=AA o:=λb o e=>DN _ ((AAC _ _ _ _ (Ee (Cw e))).trans (DN _ e));rw[C];refine BL (Sy (wpAny_call_entry_kw ACT ⟨_,B,rfl⟩ ACI ?body (ksk_l1 _ _)));case body=>
    have j:=ksk_t1 f (s.heap.objs.size+1);rw[j];generalize hg:(((s.heap.push (Cd "list" #[] 0)).update s.heap.objs.size (Em (.++D.toArray))).push (Cd "list" D.toArray 0))=g at B t⊢;have d:g.objs.size=s.heap.objs.size+2:=by rw[<-hg,size_push',C]
    have s1:=WT g (s.heap.objs.size+1) (Em λ_=>(#[]:Array AL));lk;obtain⟨M,R⟩:∃M,(g.update (s.heap.objs.size+1) (Em λ_=>(#[]:Array AL))).get? (s.heap.objs.size+1)=AA (Cd "list" #[] M):=⟨_,WO B λ_=>#[]⟩;k_in;have O:((g.update (s.heap.objs.size+1) (Em λ_=>(#[]:Array AL))).push (Cd "tuple" D.toArray 0)).objs.size=s.heap.objs.size+3:=by simpa using d
    have n:∀b o,s.heap.get? b=AA o->(((g.update (s.heap.objs.size+1) (Em λ_=>(#[]:Array AL))).push (Cd "tuple" D.toArray 0)).push (Cd "list" #[] 0)).get? b=AA o:=λb o e=>DN _ (DN _ ((s1.2 b (Ee (y9 (Cw e)))).trans (t b o e)));have A:Jm X U H (s.heap.objs.size+1):=I.ud (Sj _) (I.cj.bz (Sj _));have Y:Jm X U H (s.heap.objs.size+3):=I.ud (OV _ 3) (I.cj.bz (OV _ 3));have r:Ab X U σ H {s with heap:=((g.update (s.heap.objs.size+1) (Em λ_=>(#[]:Array AL))).push (Cd "tuple" D.toArray 0)).push (Cd "list" #[] 0),toks:=s.toks}:=I.gw n;have gA:(((g.update (s.heap.objs.size+1) (Em λ_=>(#[]:Array AL))).push (Cd "tuple" D.toArray 0)).push (Cd "list" #[] 0)).get? (s.heap.objs.size+1)=AA (Cd "list" #[] M):=DN _ (DN _ R);have gK:(((g.update (s.heap.objs.size+1) (Em λ_=>(#[]:Array AL))).push (Cd "tuple" D.toArray 0)).push (Cd "list" #[] 0)).get? (s.heap.objs.size+3)=AA (Cd "list" #[] 0):=by rw[<-O];exact Gu _ rfl
    have J:Ab X ((s.heap.objs.size+3,Cd "list" #[] 0)::(s.heap.objs.size+1,Cd "list" #[] M)::U) σ H {s with heap:=((g.update (s.heap.objs.size+1) (Em λ_=>(#[]:Array AL))).push (Cd "tuple" D.toArray 0)).push (Cd "list" #[] 0),toks:=s.toks}:=by
      refine r.ic λx Z=>?_;rcases Ca.mp Z with rfl|Z;.exact⟨gK,Y.1,Y.2.1,Y.2.2.1,λv z=>by cases z⟩
      . rcases Ca.mp Z with rfl|Z;.exact⟨gA,A.1,A.2.1,A.2.2.1,λv z=>by cases z⟩
        .exact r.uh x (Fj _ Z)
    unfold ksk_tree;refine BL (zP B rfl ?_);refine BL (QJ B rfl ?_ (Ah (Bw W.symm) S) (BY _));refine BL (WR R rfl ?_);refine BL (ADo ?_ (Ah (Bw W.symm) S));refine BL (eP ?_ (BY _));refine Sy ?_;have P:(s.heap.objs.size+3:AE)≠s.heap.objs.size+1:=(by simp);have T:PZ X ((s.heap.objs.size+1,Cd "list" #[] M)::U) (s.heap.objs.size+3):=⟨Y.2.2.2.1,Y.2.2.2.2.1,λx Z=>by
      rcases DS.mp Z with Z|Z;.exact Y.2.2.2.2.2 x (Ic _ Z)
      . rcases Ca.mp Z with rfl|Z;.exact P.symm
        .exact Y.2.2.2.2.2 x (Fj _ Z)⟩;rw[O];refine wR F hb hr w hl (Ah (Bw W.symm) S) h0 hs J P T A.2.2.2 turn λK s' G c L sm J' g1 u z1 w1 y w3=>⟨_,rfl,Cp ⟨_,rfl,?_⟩⟩;have N:Jm X U K (s.heap.objs.size+1):=⟨u,A.2⟩;have i:X.s₀.heap.get? (s.heap.objs.size+1)=AG:=ACt (Ah I.sz (Sj _));refine⟨.ref (s.heap.objs.size+1),_,J'.yt (o:=.lst (L.map (·.1))) N i ⟨?_,G.toList,c,y,by assumption⟩,rfl,q _ L K sm u w1 w3⟩;have l0:G.toList.length=G.size:=Mb;have l1:=y.ao;exact AE7 l1 z1
def xP(K:Ax)(sp:BO)(t:A1):A1:=λZ H Q=>t Z H λv U=>Pg (λ(a:AE)(J:List AD)(D:List (List AK))=>v=.ref a) (λa J _=>B7 K U a J) (λ_ J D=>Y2 K sp U J D) (λa J D=>∀l(Y:List (AD×List AK))W,An U W->W l=AG->Y.Perm (J.zip D)->(Y.map (·.2)).Pairwise (λa b=>Bf b a=AR)->Q (.ref l) (AQ W l (.lst (Y.map (·.1)))))
def ME(o:BP)(kvs:List (AK×AD))(d:AE):Gh:=⟨λi H=>H d=AA (.frz o (.dK kvs))/\i<kvs.length,λi H x D=>D=H/\∃p,kvs[i]?=AA p/\x=Aw p.1,λi H=>H d=AA (.frz o (.dK kvs))/\kvs.length<=i⟩
theorem OB(E:Dc P w H h)(e:H d=AA (.frz o (.dK kvs)))(Y:o.data=.dict W ep):∃vs,Fh kvs vs/\h.DictAt (E2 P w) d vs ep:=by lk;obtain⟨Z,z,F,vs,U,G,B,A,J,C,D,r⟩:=(show De P w H h d _ from E d _ e);rw[Z]at J;cases J;rw[Y]at D;cases D;k_in;exact⟨vs,U,o,W,Z,C,Y,r⟩
theorem xS{K:Ax}(d it:AE)(n:o.data=.dict es ep):MH P w K tg (ME o kvs d) [it] it (λi h=>h.IsKeyIter it d i kvs.length ep)where
 aal:=by simp
 cg:=λi h D b W=>by
  have e:=by simpa using W
  subst e;lk;obtain⟨o,e,c,d⟩:=D;k_in;exact⟨o,e,λv z=>by rw[d]at z;cases z⟩
 ab:=λi h l D k=>D.at λo e=>k it (by simp) o e
 vc:=by intro X Q hw O m i B s σ H E I C D R;subst Q hw O;lk;obtain⟨e,S⟩:=R;obtain⟨j,J,U⟩:=OB I.cj e n;k_in;have A:=Io J;have a:j[i]?=AA _:=CG (by simp_all);have T:=CG S;have g:=Pu J T a;generalize kvs[i]=p at T g;generalize j[i]'(Bh S (Bw A))=q at a g;lk;obtain⟨F,G,f2,L,M,N⟩:=C it (by simp);k_in;rw[A]at D;refine wpAny_pyNext_dict_item D U a λf l Z Y sb=>?_;have r:=I.dh (t':=s.toks) (λb o W e=>(sb.2 b W).trans e) F G L M N;lk;obtain⟨o',x,t,u⟩:=id Y;k_in;rw[<-A]at Y;have hk:=g.1;exact⟨f,rfl,Pm x t u (by decide) ⟨_,H,r,by rw[hk];exact VE Z,⟨rfl,p,T,rfl⟩,Y,λb W=>(C b W).1⟩⟩
 uy:=by intro X Q hw O m i B s σ H E I C D R;subst Q hw O;lk;obtain⟨e,S⟩:=R;obtain⟨j,J,U⟩:=OB I.cj e n;have A:=Io J;obtain⟨F,G,f2,L,M,N⟩:=C it (by simp);k_in;rw[A]at D;exact wpAny_pyNext_dict_end (I.ok.hd m) D U (by simp;simp_all) λl y=>⟨rfl,I.dh (λb o W e=>y b o W e) F G L M N⟩
 wo:=λ_ _ _ _ _ D h=>wpAny_pyIter_keyiter D h
theorem Pz{K:Ax}(W:Am X e J)(V:KA e f X.ae (Be e X.ae)=Be e X.ae)(U:X.K=K:=by rfl):Am X (.Attribute e f D) (Kv K J f):=by subst U;exact aI W V
def tD(tl:A1):GX:=λV H R=>tl V H λx U=>Ey (λa D=>x=.ref a) (λa D=>Fi U a (.dK D)) (λa D=>∀o J,J a=AA (.frz o (.dK D))->(∀b,b≠a->J b=U b)->R (ME o D a) J)
theorem OJ(F:Am X l tl):Gj X d l (tD tl):=by
 intro M s O H R I h;refine BD (F _ s O H _ I h) λv s1 W=>?_;lk;obtain⟨x,Z,C,r1,T⟩:=W;obtain⟨a,Q,e,S,q⟩:=T;k_in;subst e;cases r1;lk;obtain⟨o,J,A,P,c,f⟩:∃o J,Ab X _ O J s1/\J a=AA (.frz o _)/\R (ME o _ a) J/\∀b,Z b=AG->J b=AG:=by
  rcases S with e|⟨o,e⟩
  . obtain⟨z,K,N,U,o,E,L,V,G,B,r⟩:=(show De _ _ Z _ a _ from C.cj a _ e);refine⟨o,_,?_,Af,q o _ Af (λb D=>AX D),λb D=>by rw[AX (Bg e D).symm];exact D⟩;exact C.ti (by rw[e];trivial) (.inl rfl) (λb u _ q=>q) ⟨o,V⟩ ⟨V,z,K,N,U,o,E,L,V,G,B,r⟩
  .exact⟨o,Z,C,e,q o Z e λb _=>rfl,λb D=>D⟩
 obtain⟨V,z,K,N,U,g,E,L,Y,G,B,r⟩:=(show De _ _ J _ a _ from A.cj a _ P);rw[V]at Y;cases Y;k_in;have F:=Io U;refine wpAny_pyIter_dict K ⟨o,E,V,G,B,r⟩ ?_;refine⟨_,_,_,_,J,rfl,A.gw λb o e=>DN _ e,xS a _ B,⟨_,Gu _ rfl,rfl,by rw[F];rfl⟩,λb D=>?_,c⟩;have e:=by simpa using D
 subst e;exact A.ud (Ak _) (A.cj.bz (Ak _))
theorem U8{d:AE}{o:BP}{kvs:List (AK×AD)}{g:Ex}{E:C7}{D:Hq}{σ:Ae}{H:AI}(U:Nat->Ae->AI->Prop)(F:U 0 σ H)(K:∀i σ H,i<=kvs.length->U i σ H->H d=AA (.frz o (.dK kvs)))(M:∀(i:Nat)p σ H,kvs[i]?=AA p->U i σ H->g (Aw p.1) σ H λZ A=>E {D with nx:=U (i+1),ct:=U (i+1),bk:=D.nx} Z A)(I:∀σ H,U kvs.length σ H->D.nx σ H):∃W:Nat->Nat->Ae->AI->Prop,(∃m,W 0 m σ H)/\∀i m σ H,W i m σ H->((ME o kvs d).sj i H/\D.nx σ H)\/((ME o kvs d).go i H/\∃N:Ae->AI->Prop,(∀Y H',N Y H'->∃C,C<m/\W (i+1) C Y H')/\∀x H',(ME o kvs d).zm i H x H'->g x σ H' λZ A=>E {D with nx:=N,ct:=N,bk:=D.nx} Z A):=by
 refine⟨λi m σ H=>m=kvs.length-i/\i<=kvs.length/\U i σ H,⟨kvs.length,by simp,BY _,F⟩,?_⟩;intro i m σ H G;lk;obtain⟨rfl,B,p⟩:=G;k_in;have q:=K i σ H B p;by_cases J:i<kvs.length
 . refine .inr ⟨⟨q,J⟩,_,λY H' O=>⟨_,JR _ _ J,rfl,J,O⟩,λx H' y=>?_⟩;lk;obtain⟨e,P,L,rfl⟩:=y;k_in;subst e;exact M i P σ _ L p
 . have:=Fm B (Ga J);subst this;exact .inl ⟨⟨q,Ak _⟩,I σ H p⟩
theorem ZR(B:Nat->Ae->List AD->AI->Prop)(l:kvs.length<=Ay)(T:B 0 (FO O AG++M.map (FA σ)) [] H)(c:∀i Y J Z,B i Y J Z->Z d=AA (.frz o (.dK kvs)))(f:∀(i:Nat)p Y J Z(L:AD->Ae->AI->Prop)(K:Ae->AI->Prop),kvs[i]?=AA p->J.length<=i->B i Y J Z->(∀y W A,B (i+1) W (J++[y]) A->L y W A)->(∀W A,B (i+1) W J A->K W A)->g (Aw p.1) Y Z λU A=>R U A λb G=>if b=AJ then P U G λy I=>L y U I else K U G)(a:∀Y J Z,J.length<=kvs.length->B kvs.length Y J Z->∀D,Z D=AG->Q (.ref D) (AQ Z D (.lst J))):Kd O M g R P σ Q (ME o kvs d) H:=by
  refine⟨λi m Y J F=>m=kvs.length-i/\i<=kvs.length/\J.length<=i/\B i Y J F,⟨kvs.length,by simp,BY _,BY _,T⟩,?_⟩;intro i m Y J F X;lk;obtain⟨rfl,k,N,p⟩:=X;k_in;have q:=c i Y J F p;by_cases C:i<kvs.length
  . refine .inr ⟨⟨q,C⟩,by omega,λx Z y=>?_⟩;lk;obtain⟨e,j,S,rfl⟩:=y;k_in;subst e;exact f i j Y J _ (λy U I=>∃E,E<kvs.length-i/\E=kvs.length-(i+1)/\i+1<=kvs.length/\(J++[y]).length<=i+1/\B (i+1) U (J++[y]) I) (λU G=>∃E,E<kvs.length-i/\E=kvs.length-(i+1)/\i+1<=kvs.length/\J.length<=i+1/\B (i+1) U J G) S N p (λy W A h=>⟨_,by omega,rfl,C,by rw[B8,yQ];omega,h⟩) λW A h=>⟨_,by omega,rfl,C,by omega,h⟩
  . have e:i=kvs.length:=by omega
    subst e;exact .inl ⟨⟨q,Ak _⟩,a Y J F N p⟩
instance AA4(k:AK):∀L:List AK,Decidable (k∈L)|[]=>.isFalse (by simp)|x::L=>if h:k=x then .isTrue (by simp[h])else match AA4 k L with|.isTrue h2=>.isTrue (by simp[h2])|.isFalse h2=>.isFalse (by simp[h,h2])
def Pf(h:Bb)(u:AL)(ks:List AK)(U:List AE):Prop:=∃a o D m J,u=.ref a/\h.get? a=AA o/\o.cls=.type "tuple"/\o.data=.seq D m/\D.toList=J++U.map Dk/\J.map B0=ks/\∀v∈J,FU v
def rA(h:Bb)(U:List AE)(tl:List AK)(J:List AE)(D:List AK):Prop:=(U=J/\tl=D)\/∃(p q:AE)(W V:List Int),U=[p]/\J=[q]/\tl=W.map C5/\D=V.map C5/\Ht h (.ref p) tl/\Ht h (.ref q) D
abbrev Ho:=List AK×List AE×List AK
def IW(d:Ho):List AK:=d.1++d.2.2
structure Uy(h:Bb)(vs:List AL)(ds:List Ho)(sh:List Bool):Prop where
 de:vs.length=ds.length
 hn:sh≠[]xg:∀(i:Nat)u d,vs[i]?=AA u->ds[i]?=AA d->Pf h u d.1 d.2.1/\d.1.map Cz=sh
 acp:∀(i j:Nat)d e,ds[i]?=AA d->ds[j]?=AA e->d.1=e.1->rA h d.2.1 d.2.2 e.2.1 e.2.2
theorem Zc:∀{V J:List AL}{U D:List AE},(∀v∈V,FU v)->(∀v∈J,FU v)->V++U.map Dk=J++D.map Dk->V=J/\U=D
 |[],[],U,D,_,_,e=>⟨rfl,by exact(List.map_inj_right (by simp)).mp e⟩|[],v::J,U,D,_,h,e=>by cases U with|nil=>cases e|cons r U=>
  injection e with W _;have:=h v D4;rw[<-W]at this;exact this.elim|v::V,[],U,D,h,_,e=>by cases D with|nil=>cases e|cons r D=>
  injection e with W _;have:=h v D4;rw[W]at this;exact this.elim|v::V,B::J,U,D,h,Z,e=>by injection e with W Y;obtain⟨a,b⟩:=Zc (λA u2=>h _ (ID u2)) (λA u2=>Z _ (ID u2)) Y;simp_all
theorem Pf.xg(t:Pf h u ks Z)(t':Pf h u D J):ks=D/\Z=J:=by lk;obtain⟨a,o,V,m,I,rfl,e,_,d,l,k,f⟩:=t;obtain⟨E,H,U,G,C,q,Y,_,W,B,F,A⟩:=t';k_in;injection q with q;subst q;rw[e]at Y;lk;cases Y;rw[d]at W;cases W;obtain⟨x,y⟩:=Zc f A (l.symm.trans B);k_in;simp_all
theorem Ht.xg(t:Ht h u ks)(t':Ht h u D):ks=D:=t.kf.symm.trans t'.kf
noncomputable def R3(vs:List AL)(kss:List (List AK))(u:AL):List AK:=by classical exact if D:∃J,(u,J)∈vs.zip kss then D.choose else[]
theorem Uy.kf(x:Uy h vs D sh):∀(i:Nat)u d,vs[i]?=AA u->D[i]?=AA d->R3 vs (D.map IW) u=IW d:=by
 intro i u d Y U;have B:∃C,(u,C)∈vs.zip (D.map IW):=⟨IW d,V5.mpr ⟨i,(by grind)⟩⟩;unfold R3;lk;obtain⟨j,A⟩:=V5.mp B.choose_spec;obtain⟨Z,V⟩:=MR.mp A;rw[Bs]at V;obtain⟨J,W,E⟩:=Du.mp V;obtain⟨a,b⟩:=(x.xg i u d Y U).1.xg (x.xg j u J Z W).1;k_in;have F:d.2.2=J.2.2:=by
  rcases x.acp i j d J U W a with⟨_,q⟩|⟨p,q,_,_,r1,r2,_,_,t1,t2⟩;.exact q
  . rw[b,r2]at r1;injection r1 with r1;subst r1;exact t1.xg t2
 grind
theorem Zu:∀(xs ys:List AL)(zs D:List AL)(i:Nat),(∀v∈xs,FU v)->(∀v∈ys,FU v)->xs.map (λv=>Cz (B0 v))=ys.map (λv=>Cz (B0 v))->(xs.map B0=ys.map B0->∀j,i+xs.length<=j->d5 prog w A b fin Q (zs.zip D) j s)->(xs.map B0≠ys.map B0->Q (Bf (xs.map B0) (ys.map B0)) s)->d5 prog w A b fin Q ((xs++zs).zip (ys++D)) i s
 |[],[],zs,D,i,_,_,_,h,_=>(by(simp[*]))|[],_::_,_,_,_,_,_,e,_,_=>by cases e|_::_,[],_,_,_,_,_,e,_,_=>by cases e|x::xs,y::ys,zs,D,i,Y,Z,e,h,W=>by
  obtain⟨J,B⟩:=C9 e;have U:=Y x D4;have V:=Z y D4;refine d8 (U6 U V J (AAO (λq=>?_) λq=>?_))
  . refine AAR (Zu xs ys zs _ _ (λC u2=>Y _ (ID u2)) (λC u2=>Z _ (ID u2)) B (by grind) λz=>?_);have:=W (by simp_all);rw[FL,FL,Bf]at this;simp_all
  . have q:=AE4 q;have:=W (by simp_all);rw[FL,FL,Bf,AEu q]at this;exact AAP (Zy _ U V J this)
theorem Zv:∀(D:List AE)(i:Nat),Q AR s->d5 prog w A b AR Q ((D.map Dk).zip (D.map Dk)) i s|[],_,h=>ADI h|r::D,i,h=>d8 (ACz _ _ w _ _ (AAR (Zv D _ h)))
theorem Zs:∀{ks D xs ys:List AK},ks.length=D.length->Bf (ks++xs) (D++ys)=if ks=D then Bf xs ys else Bf ks D|[],[],_,_,_=>by rfl|[],_::_,_,_,e=>by cases e|_::_,[],_,_,e=>by cases e|k::ks,l::D,xs,ys,e=>by have J:=Zs (xs:=xs) (ys:=ys) (AB0.mp e);show(if k=l then Bf _ _ else Dl k l)=if k::ks=l::D then Bf xs ys else(if k=l then Bf ks D else Dl k l);(split<;>simp_all)
theorem Vi:∀{D:List AL},(∀v∈D,FU v)->∃J,ReadsAll h D ((D.map B0).map HK) J
 |[],_=>⟨_,.nil⟩|v::D,f=>by
  obtain⟨J,r⟩:=Vi (λw hw=>f w (GH _ hw));have U:=f v D4;cases v<;>first|exact U.elim|skip
  .exact⟨_,.cons (.int _ _) r⟩
  .exact⟨_,.cons (.str _ _) r⟩
theorem VD:∀ns:List Int,(ns.map (C5:Int->AK)).map HK=ns.map Oc|[]=>rfl|n::ns=>by rw[FL,FL,VD ns];rfl
theorem sP{A:Dj}{s:AZ}{ns J:List Int}(t1:Ht s.heap (.ref p) (ns.map C5))(t2:Ht s.heap (.ref q) (J.map C5))(M:A.units+64<GL):dZ A s (.ref p) (.ref q) (Aa (ns=J)):=by
 lk;obtain⟨a,o,W,m,V,e,c,d,k,f⟩:=t1;obtain⟨I,O,U,N,D,F,C,E,H,G⟩:=t2;k_in;injection V with V;injection D with D;subst V D;lk;obtain⟨Z,r⟩:=Vi f;obtain⟨B,Y⟩:=Vi G;k_in;rw[k,VD]at r;rw[H,VD]at Y;have:=SeqAt.eqAt_reads _ _ A s _ _ Z _ (.tuple e c d r) (.tuple F C E Y) (by simp[GJ,(R5 ns).1]) (by simp[GJ,(R5 J).1]) (by
  have L:(PyData.tuple (ns.map Oc)).depth<=1:=by simp[GK,(R5 ns).2]
  lia);have K:Ob (.tuple (ns.map Oc)) (.tuple (J.map Oc))=Aa (ns=J):=by exact Zb ns J
 simp_all
theorem t6{A:Dj}{s:AZ}{ns W:List Int}(t1:Ht s.heap (.ref p) (ns.map C5))(t2:Ht s.heap (.ref q) (W.map C5))(P:A.units+64<GL)(h:Q (Bf (ns.map C5) (W.map C5)) s):BB (Ar prog w) A (oneLt' AR (.ref p) (.ref q)) Q E s:=by
 lk;obtain⟨a,o,D,m,B,e,c,d,k,f⟩:=t1;obtain⟨g,X,J,T,U,K,F,H,R,O⟩:=t2;k_in;injection B with B;injection U with U;subst B U;lk;obtain⟨M,N,I,b⟩:=o;obtain⟨G,Z,Y,C⟩:=X;k_in;simp only at c d F H;subst c d F H;have V:∀(l:List Int)(i:Nat)(z:AK),(l.map (C5:Int->AK))[i]?=AA z->Cz z=AJ:=λl i z L=>by rw[Bs]at L;obtain⟨n,_,rfl⟩:=Du.mp L;rfl
 have S:RZ D.toList J.toList D.size J.size (Bf (ns.map C5) (W.map C5)):=by refine⟨⟨D.toList,[],by simp,.inl rfl,f,O,λi x y j r=>?_,by rw[k,R]⟩,V8 _ _⟩;rw[V ns i (B0 x) (by grind),V W i (B0 y) (by grind)]
 refine AAQ _ _ ?_;exact ADe (op:=.Lt) ⟨_,e,rfl⟩ ⟨_,K,rfl⟩ ACq ACi (by rfl) (bU p q _ _ m T N Z b C _ S) ⟨e,K,⟨(by simp),h⟩⟩ (WC P)
theorem Uy.abb(x:Uy h vs X sh)(B:A.units+64<GL)(h2:2<=vs.length)(kp:∀a o D m,h.get? a=AA o->o.cls=.type "tuple"->o.data=.seq D m->s.heap.get? a=AA o):∃κ,(∀(Q:QH->AZ->Prop)(E:AL->AZ->Prop),Q κ s->BB (Ar prog w) A (dF vs.toArray) Q E s)/\GN prog w A s κ Hw (R3 vs (X.map IW)) (J7 vs):=by
  have mp:∀p∈(J7 vs).toList,p.1∈vs:=λp N=>by rw[WQ]at N;exact(zR N).2
  have kn:∀{u K rs},Pf h u K rs->Pf s.heap u K rs:=λ⟨a,o,D,m,U,b,e,c,d,r⟩=>⟨a,o,D,m,U,b,kp a o D m e c d,c,d,r⟩;have R:∀{u K},Ht h u K->Ht s.heap u K:=λ⟨a,o,D,m,b,e,c,d,r⟩=>⟨a,o,D,m,b,kp a o D m e c d,c,d,r⟩;have Y:∀u∈vs,∃(i:Nat)(d:Ho),vs[i]?=AA u/\X[i]?=AA d:=λu B=>MP x.de B;refine⟨tuples' AJ,λQ E q=>?_,⟨λp N q hq Q E k=>?_⟩⟩
  . have y:∀(l:List AL),(∀u∈l,u∈vs)->∃C,AC9 s.heap l C/\C.length=l.length/\∀v∈C,FU v/\Cz (B0 v)=sh.headD AJ:=λl=>by induction l with |nil=>exactλ_=>⟨[],trivial,rfl,λv F=>by cases F⟩|cons u l ih=> intro B;obtain⟨C,O,P,n⟩:=ih (λu1 u2=>B _ (ID u2));obtain⟨i,d,M,H⟩:=Y u (B u D4);obtain⟨t,z⟩:=x.xg i u d M H;obtain⟨a,o,D,m,U,rfl,e,c,Z,G,r,W⟩:=kn t;match U,G,r,W with
        |[],_,r,_=>rw[<-r]at z;exact absurd z.symm x.hn|f0::l1,G,r,W=>
          have g0:D[0]?=AA f0:=by rw[<-Ot,G];rfl
          refine⟨f0::C,ADA e c Z g0 O,ABz.mpr P,λv F=>?_⟩;grind
    lk;obtain⟨C,O,P,n⟩:=y vs λ_ h=>h;k_in;cases hh:sh.headD AJ with
    |true=> refine d9 (T:=.type "int") O (AE3 (IF h2) P.symm) (λv F=>?_) (by decide) q;obtain⟨W,z⟩:=n v F;rw[hh]at z;cases v<;>first|exact W.elim|exact Iu _|exact Iu (show AR=AJ from z)|exact .now
    |false=> refine d9 (T:=.type "str") O (AE3 (IF h2) P.symm) (λv F=>?_) (by decide) q;obtain⟨W,z⟩:=n v F;rw[hh]at z;cases v<;>first|exact W.elim|exact Iu (show AJ=AR from z)|exact Iu (show AR=AJ from z)|exact .now
  . lk;obtain⟨i,d,M,H⟩:=Y _ (mp p N);obtain⟨j,Z,e3,f⟩:=Y _ (mp q hq);have k:Q (Bf _ _) s:=k;rw[x.kf i _ d M H,x.kf j _ Z e3 f]at k;obtain⟨t,z1⟩:=x.xg i _ d M H;obtain⟨t',z2⟩:=x.xg j _ Z e3 f;obtain⟨a,o,D,m,U,u1,e,c,dd,G,r,W⟩:=kn t;obtain⟨a',o',J,m',V,u2,e',c',S,L,r',g⟩:=kn t';k_in;have es:=by
      have h1:(U.map B0).map Cz=(V.map B0).map Cz:=by rw[r,r',z1,z2]
      rw[Cu,Cu]at h1;exact h1
    have el:=by have:=AEw JN (z1.trans z2.symm);simpa using this
    unfold IW at k;rw[Zs el]at k;rw[u1,u2];refine ADH e dd e' S ?_;rw[G,L];have lu:U.length=d.1.length:=by rw[<-r,As]
    have lu':V.length=Z.1.length:=by rw[<-r',As]
    have sz1:D.size=U.length+d.2.1.length:=by rw[<-Mb,G];simp
    have sz2:J.size=V.length+Z.2.1.length:=by rw[<-Mb,L];simp
    have I:0<U.length:=by rw[lu];refine Nat.pos_of_ne_zero λz=>x.hn ?_;grind
    refine Zu U V _ _ 0 W g es (λq j hj=>?_) λq=>?_
    . rw[r,r']at q;rw[AEv q]at k;rcases x.acp i _ d Z H f q with⟨q1,q2⟩|⟨p',q',ns,ms,r1,r2,r3,r4,t1,t2⟩;. rw[AEz (by rw[sz1,sz2,lu,lu',el,q1];exact J4 _),q1];rw[q2,Pp]at k;exact Zv _ _ k
      . rw[AEz (by(simp[*])),r1,r2];rw[r3]at t1;rw[r4]at t2;rw[r3,r4]at k;refine d8 (sP (R t1) (R t2) B prog w _ _ (AAO (λz=>?_) λz=>?_))
        . have z:=AEy z;rw[z,Pp]at k;assumption
        . refine AAP ?_;have j0:(j==0)=AR:=by simp;exact NN (Bh I (QE hj))
          rw[j0,AA9];exact t6 (R t1) (R t2) B k
    simp_all
def Ri(K:Ax)(H:AI)(xs:List AD)(D:List Ho)(sh:List Bool):Prop:=sh≠[]/\Az (λx(d:Ho)=>(∃a,x=.ref a/\Cm K H a (d.1.map Aw++d.2.1.map AD.ref))/\d.1.map Cz=sh) xs D/\∀(i j:Nat)d e,D[i]?=AA d->D[j]?=AA e->d.1=e.1->(d.2.1=e.2.1/\d.2.2=e.2.2)\/∃(p q:AE)(U J:List Int),d.2.1=[p]/\e.2.1=[q]/\d.2.2=U.map C5/\e.2.2=J.map C5/\Cm K H p (U.map AD.int)/\Cm K H q (J.map AD.int)
theorem aW:∀{D:List AE}{J:List AL},Bk (D.map AD.ref) J->J=D.map Dk|[],_,h=>by cases h;rfl|r::D,_,h=>by cases h with|cons U W=>cases U;rw[aW W];rfl
theorem bT(I:Ab X J σ H s){ns:List Int}(h:Cm X.K H p (ns.map AD.int)):Ht s.heap (.ref p) (ns.map C5):=by
 have U:Cm X.K H p ((ns.map (C5)).map Aw):=by rw[Cu];exact h
 lk;obtain⟨D,A,⟨o,Z,W,n,Y⟩,_⟩:=I.ff U;obtain⟨B,C⟩:=M6 A;k_in;exact⟨p,o,_,n,rfl,Z,W,Y,by assumption,by assumption⟩
theorem Ri.aau(I:Ab X E σ H s)(h:Ri X.K H xs W sh)(r:Bk xs its):Uy s.heap its W sh:=by
  lk;obtain⟨P,p,U⟩:=h;have O:=r.ao;obtain⟨L,M⟩:=CN p;k_in;refine⟨Ou O.symm L,P,λi u d J D=>?_,λi j d e J D q=>?_⟩
  . have l:=(BU.mp D).1;have Y:xs[i]?=AA xs[i]:=CG _;lk;obtain⟨⟨a,K,R⟩,z⟩:=M i _ _ Y D;obtain⟨m,Z,A⟩:=r.va Y;rw[J]at Z;cases Z;rw[K]at A;obtain rfl:u=Dk a:=A;obtain⟨C,f,⟨o,Q,N,n,B⟩,_⟩:=I.ff R;obtain⟨g,t,rfl,k,v2⟩:=Vt f;obtain⟨S,T⟩:=M6 k;k_in;rw[aW v2]at B;exact⟨⟨a,o,_,n,g,rfl,Q,N,B,by simp,S,T⟩,z⟩
  . rcases U i j d e J D q with h|⟨p,q,c,b,r1,r2,F,G,t1,t2⟩;.exact .inl h
    .exact .inr ⟨p,q,c,b,r1,r2,F,G,by rw[F];exact bT I t1,by rw[G];exact bT I t2⟩
theorem U4{K:Ax}(M:D9 k X.A)(G:X.K=K:=by rfl):Fx X (.builtin "sorted") (λxs H Q=>∃(p:AE)(ys:List AD)(J:List Ho)(sh:List Bool),xs=[.ref p]/\B7 K H p ys/\Ri K H ys J sh/\∀l(U:List (AD×List AK)),H l=AG->U.Perm (ys.zip (J.map IW))->(U.map (·.2)).Pairwise (λa b=>Bf b a=AR)->Q (.ref l) (AQ H l (.lst (U.map (·.1))))):=by
 subst G;intro B s f H xs c Q I r h;lk;obtain⟨p,ys,J,sh,rfl,L,R,q⟩:=h;obtain⟨u,rfl,P⟩:=Ib r;cases P;obtain⟨D,W,O,A⟩:=I.gh L;k_in;refine Vl I A (ZP W O A) (λD W=>?_) q;have Y:=R.aau I W;refine⟨by rw[As];exact Y.de,R3 D (J.map IW),λi u S C Z=>?_,λT N F=>Y.abb ?_ F λa o _ _ e _ _=>N a o e⟩
 . rw[Bs]at Z;obtain⟨d,E,rfl⟩:=Du.mp Z;exact Y.kf i u d C E
 . have:=M.un;grind
def bJ(t u:C7):C7:=λD V H=>∀(N:Ae->AI->Prop)(r:BN)(b c:Ae->AI->Prop),(∀J U,u D J U->N J U)->t ⟨N,r,b,c⟩ V H
theorem Bv{st:DA}(V:Ew X st t)(W:GC X J u):GC X (st::J) (bJ t u):=λU s Y H D I h=>Aq V W _ s Y H D I (h _ _ _ _ λ_ _ z=>z)
def xJ(t:C7):C7:=λD V H=>∀(N:Ae->AI->Prop)(r:BN)(b c:Ae->AI->Prop),(∀J U,D.nx J U->N J U)->t ⟨N,r,b,c⟩ V H
theorem vO{st:DA}(U:Ew X st t):Ew X st (xJ t):=λJ s V H D I h=>U _ s V H D I (h _ _ _ _ λ_ _ z=>z)
@[elab_as_elim]theorem BA{H:AI}{R:AI->Prop}(D:H c=AG)(k:∀G,An H G->G c=AA o->R G):R (AQ H c o):=k _ (CL D) Af
theorem CB{n:Nat}(h:n.ble m=AJ):n<=m:=(Si h)
theorem SO(J:D.kind=.function:=by rfl)(U:D.isCoroutine=AR:=by rfl)(V:D.isGenerator=AR:=by rfl)(W:N.Nodup:=by decide+kernel)(Y:N.take P.length=P:=by rfl)(Z:∀x∈P,D.names.lookup x=AA .local\/D.names.lookup x=AA .cell:=by decide+kernel)(A:∀y∈D.names,y.2≠.free:=by decide+kernel):Mu N P D:=⟨J,U,V,W,Y,Z,A⟩
theorem BC(i:Nat)(U:X.N.Nodup)(V:Am X e A)(hi:X.N[i]?=AA x:=by rfl)(Z:MF X.ae.scope x:=by first|exact .inl rfl|exact .inr rfl)(Y:Ol e (AA (.Name x D)) J.line X.ae=Bo AR:=by rfl)(W:X.fn x=AJ\/X.ae.scope.names.lookup x=AA .local:=by first|exact .inl rfl|exact .inr rfl|assumption):Ew X (.Assign [.Name x D] e J) (SV A (G1 i)):=Ks U hi Z V Y W
theorem CO(i:Nat)(D:X.N.Nodup)(hi:X.N[i]?=AA x:=by rfl)(U:MF X.ae.scope x:=by first|exact .inl rfl|exact .inr rfl)(J:X.fn x=AJ\/X.ae.scope.names.lookup x=AA .local:=by first|exact .inl rfl|exact .inr rfl|assumption):LP X (.Name x V) (G1 i):=Js D hi U J
theorem JI(K:Ax)(B:Am X a E)(A:Gi X (e::V) t)(Z:X.K=K:=by rfl)(J:KA a "append" X.ae (Be a X.ae)=Be a X.ae:=by rfl)(W:((Gd D (Co (e::V) X.ae)).all (λx=>!x.1)&&(QS D (QY [] X.ae)).all (λx=>x.1.isSome)&&Aa ((e::V).length+([]:List MZ).length+(if([]:List MZ).isEmpty then 0 else 1)<30))=AJ:=by rfl)(U:(p.endLine==D.line)=AJ:=by rfl)(C:Co (e::V) X.ae=(AR,Be e X.ae)::Co V X.ae:=by rfl)(Y:(Gd D (Co V X.ae)).any (·.1)=AR:=by rfl):Am X (.Call (.Attribute a "append" p) (e::V) [] D) (Vm K "list" Vd E t):=Kr Lf AAA F.type_list_append uD B A Z J W U C Y
theorem Hx(osc:F6)(Y:List (AF×Nat))(B:LO X D Y)(hi:Gj X (.Name x F) J wi)(O:∀C s H ex,LQ (EK X D (x::Y.map (·.1)) C s H ex) A G)(K:∀C s H ex,Am (EK X D (x::Y.map (·.1)) C s H ex) Z R)(I:X.gf=AJ:=by rfl)(M:X.ae.scope=osc:=by rfl)(L:D.kind=.function:=by rfl)(V:∀y∈D.names,y.2≠.cell:=by decide+kernel)(U:∀y∈D.names,y.2=.local->D.names.lookup y.1=AA .local:=by decide+kernel)(W:∀y∈D.names,y.2=.free->osc.names.lookup y.1=AA .cell\/osc.names.lookup y.1=AA .free:=by decide+kernel)(P:D.names.lookup x=AA .local:=by rfl)(E:(x::Y.map (·.1)).Nodup:=by decide+kernel)(N:∀x,Oh J X.ae x=Bo x:=by intro _;rfl):Am X (.ListComp Z [⟨.Name x F,J,A,0⟩] D Q) (JL 1 (Y.map (·.2)) wi (G1 0) G R):=Py Y I hi M L V U W B P E O K N
def JF(x:AD)(k:Int->Prop):Prop:=match x with|.int i=>k i|_=>False
def SA(x:AD)(k:AE->Prop):Prop:=match x with|.ref i=>k i|_=>False
def GF(x:Option (Option AD))(k:AD->Prop):Prop:=match x with|AA (AA v)=>k v|_=>False
def Z3(xs:List AD)(k:AD->Prop):Prop:=match xs with|[x]=>k x|_=>False
def VJ(xs:List AD)(k:AD->AD->Prop):Prop:=match xs with|[x,y]=>k x y|_=>False
theorem IZ(h:JF x k):∃i,x=.int i/\k i:=by cases x<;>first|exact⟨_,rfl,h⟩|exact h.elim
theorem VL(h:SA x k):∃i,x=.ref i/\k i:=by cases x<;>first|exact⟨_,rfl,h⟩|exact h.elim
theorem VM(h:GF x k):∃v,x=AA (AA v)/\k v:=by match x,h with|AA (AA v),h=>exact⟨v,rfl,h⟩
theorem uK(h:Z3 xs k):∃x,xs=[x]/\k x:=by match xs,h with|[x],h=>exact⟨x,rfl,h⟩
theorem Z4(h:VJ xs k):∃x y,xs=[x,y]/\k x y:=by match xs,h with|[x,y],h=>exact⟨x,y,rfl,h⟩
def FC(i:Nat):A1:=λD H Q=>GF D[i]? λv=>Q v H
def SK(C:Int->Int->Prop)(g:Int->Int->AD):EJ:=λx y H Q=>JF x λi=>JF y λj=>C i j/\Q (g i j) H
def ND(g:Int->Int->AD):EJ:=λx y H Q=>JF x λi=>JF y λj=>Q (g i j) H
def wB(g:Int->AD):AD->AI->BN->Prop:=λx H Q=>JF x λi=>Q (g i) H
def aO(K:Ax):EJ:=λx y H Q=>SA x λp=>JF y λi=>Ey (λD v=>B7 K H p D) (λD v=>DL D i=AA v) (λ_ v=>Q v H)
def Vg(K:Ax):EJ:=λx y H Q=>SA x λp=>JF y λi=>Ey (λD v=>Cm K H p D) (λD v=>DL D i=AA v) (λ_ v=>Q v H)
theorem u7(h:Am X e t)(m:∀σ H Q,t' σ H Q->t σ H Q):Am X e t':=λD s σ H Q I w=>h _ s σ H Q I (m σ H Q w)
theorem MQ(h:Cf X J r)(m:∀x y H Q,U x y H Q->r x y H Q):Cf X J U:=λD s Y H x y v u Q I V W w=>h _ s Y H x y v u Q I V W (m x y H Q w)
theorem Vf(x y:AD)(H:AI)(Q:BN)(h:SK C g x y H Q):OM C g x y H Q:=by lk;obtain⟨i,rfl,D⟩:=IZ h;obtain⟨j,rfl,c,q⟩:=IZ D;k_in;exact⟨i,j,rfl,rfl,c,q⟩
theorem P1(x y:AD)(H:AI)(Q:BN)(h:ND g x y H Q):LZ g x y H Q:=by lk;obtain⟨i,rfl,D⟩:=IZ h;obtain⟨j,rfl,q⟩:=IZ D;k_in;exact⟨i,j,rfl,rfl,q⟩
theorem AB{x:AF}(i:Nat)(J:X.N[i]?=AA x:=by rfl)(V:Rm X.ae.scope x:=by first|exact Or.inl rfl|exact Or.inr (Or.inl rfl)|exact Or.inr (Or.inr rfl))(U:(x==("__debug__":AF))=AR:=by decide)(D:(x==("__classdict__":AF))=AR:=by decide):Am X (.Name x W) (FC i):=u7 (aJ J V U D) λ_ _ _ h=>have⟨v,e,q⟩:=VM h;⟨v,e,q⟩
theorem Dp:Cf X (G6 .Add) (ND λi j=>.int (i+j)):=MQ Z6 P1
theorem FV:Cf X (G6 .Sub) (ND λi j=>.int (i-j)):=MQ VU P1
theorem GG:Cf X (G6 .Mult) (SK Ul λi j=>.int (i*j)):=MQ uS Vf
theorem C1:Cf X (G6 .FloorDiv) (SK Y1 λi j=>.int (i/j)):=MQ uM Vf
theorem CC:Cf X (G6 .Mod) (SK (λ_ j=>0<j) λi j=>.int (i%j)):=MQ uR Vf
theorem VR:Cf X (FF .Lt) (ND λi j=>.bl (Aa (i<j))):=MQ uP P1
theorem Pt:Cf X (FF .LtE) (ND λi j=>.bl (Aa (i<=j))):=MQ VQ P1
theorem OG:Cf X (FF .Gt) (ND λi j=>.bl (Aa (j<i))):=MQ Z7 P1
theorem yB:Rl X (unaryOp .USub) (wB λi=>.int (-i)):=λD s U H x v Q I J h=>yA _ s U H x v Q I J (have⟨v,e,q⟩:=IZ h;⟨v,e,q⟩)
theorem CZ(K:Ax)(W:Am X a E)(Y:Am X b F)(Z:Uw b:=by exactλ_ _=>rfl)(V:X.K=K:=by rfl):Am X (.Subscript a b A) (Hz (aO K) E F):=FW (λa b D s L H x y v u Q I B C h=>MN V a b _ s L H x y v u Q I B C (by lk;obtain⟨p,rfl,h⟩:=VL h;obtain⟨i,rfl,G,w,J,U,q⟩:=IZ h;k_in;exact⟨p,G,i,w,rfl,rfl,J,U,q⟩)) W Y Z
theorem Av(K:Ax)(W:Am X a E)(Y:Am X b F)(Z:Uw b:=by exactλ_ _=>rfl)(V:X.K=K:=by rfl):Am X (.Subscript a b A) (Hz (Vg K) E F):=FW (λa b D s L H x y v u Q I B C h=>JE V a b _ s L H x y v u Q I B C (by lk;obtain⟨p,rfl,h⟩:=VL h;obtain⟨i,rfl,G,w,J,U,q⟩:=IZ h;k_in;exact⟨p,G,i,w,rfl,rfl,J,U,q⟩)) W Y Z
theorem Rt(J:X.gf=AJ):Fx X (.builtin "max") (λxs H Q=>VJ xs λx y=>JF x λi=>JF y λj=>Q (.int (if j>i then j else i)) H):=λD s V H xs U Q I r h=>rL J _ s V H xs U Q I r (by lk;obtain⟨x,y,rfl,h⟩:=Z4 h;obtain⟨i,rfl,h⟩:=IZ h;obtain⟨j,rfl,q⟩:=IZ h;k_in;exact⟨i,j,rfl,q⟩)
theorem ZL(J:X.gf=AJ):Fx X (.builtin "min") (λxs H Q=>VJ xs λx y=>JF x λi=>JF y λj=>Q (.int (if j<i then j else i)) H):=λD s V H xs U Q I r h=>rN J _ s V H xs U Q I r (by lk;obtain⟨x,y,rfl,h⟩:=Z4 h;obtain⟨i,rfl,h⟩:=IZ h;obtain⟨j,rfl,q⟩:=IZ h;k_in;exact⟨i,j,rfl,q⟩)
theorem HJ{K:Ax}(J:X.K=K:=by rfl):Fx X (.builtin "len") (λxs H Q=>Z3 xs λx=>SA x λp=>∃ys,(B7 K H p ys\/Cm K H p ys)/\Q (.int ys.length) H):=λD s V H xs U Q I r h=>ZK J _ s V H xs U Q I r (by lk;obtain⟨x,rfl,h⟩:=uK h;obtain⟨p,rfl,ys,h,q⟩:=VL h;k_in;exact⟨p,ys,rfl,h,q⟩)
theorem Ab.acg(I:Ab X D σ H s)(e:H a=AA (.frz o u))(n:∀o u,X.H₀ a≠AA (.frz o u)):Ab X D σ (AQ H a u) s:=by
  have J:∀{b},H b=AG->b≠a:=(by grind);refine⟨I.ok,I.os,I.ir,⟨I.ar.ab,I.ar.ui,λb o q h B=>?_,I.ar.nq,λb W q=>?_,λb o u q=>?_,λb C q=>?_⟩,I.xf,I.nv,by rw[AX (J I.ba)];exact I.ba,λx c q=>by rw[AX (J (I.il x c q))];exact I.il x c q,λp A=>?_,λb v q=>?_,I.de⟩;. have:=I.ar.ba b o q h B;rw[AX (J this)];assumption
  . have:=I.ar.vm b W q;rw[AX (by grind)];assumption
  . have:=I.ar.ql b o u q;rw[AX (by grind)];assumption
  . obtain⟨m,this⟩:=I.ar.vk b C q;exact⟨m,by rw[AX (by grind)];assumption⟩
  . lk;obtain⟨Y,U,Z⟩:=I.uh p A;k_in;exact⟨Y,by rw[AX (J U)];exact U,Z⟩
  . have V:∀{v},De _ _ H _ b v->De X.ag X.w (AQ H a u) s.heap b v:=λh=>h.vg (λF u2 u3 E=>E) (λc q=>by rw[AX (by grind)];exact q) λc W q=>by rw[AX (by grind)];exact q
    by_cases z:b=a
    . subst z;rw[Af]at q;cases q;exact V (I.cj b _ e).2
    . rw[AX z]at q;exact V (I.cj b v q)
set_option tactic.hygienic true in theorem LY{X:Br}{st:DA}{t:C7}(h:Ew X st t):Ew X st (λD σ H=>∃a,(∀o u,H a≠AA (.frz o u))/\t {D with nx:=λJ H'=>∃o u,H' a=AA (.frz o u)/\D.nx J (AQ H' a u)} σ H):=by intro pins s σ H D I⟨a,V,w⟩;have W:=λo u z=>V o u (I.ar.ql _ _ _ z);refine BD (h _ s σ H _ I w) λf s' q=>?_;cases f with|next=>lk;obtain⟨J,H',U,o,u,e,q⟩:=q;k_in;exact⟨J,_,U.acg e W,q⟩|brk=>exact q|cont=>exact q|ret u=>exact q
def Nx(o:BP)(kvs:List (AK×AD))(d:AE):Gh:=⟨λi H=>H d=AA (.frz o (.dK kvs))/\i<kvs.length,λi H x D=>D=H/\∃p,kvs[i]?=AA p/\x=p.2,λi H=>H d=AA (.frz o (.dK kvs))/\kvs.length<=i⟩
theorem xU{K:Ax}(d it:AE)(l:o.data=.dict v ep):MH P w K tg (Nx o kvs d) [it] it (λi h=>h.IsValIter it d i kvs.length ep)where
 aal:=by simp
 cg:=λi h D b g=>by lk;obtain⟨o,e,c,d⟩:=D;k_in;simp_all
 ab:=λi h f D k=>by lk;obtain⟨o,e,r⟩:=D;k_in;exact⟨o,(k _ D4 _ e),r⟩
 vc:=by intro X N hw M j i Z s σ H E I O D Q;subst N hw M;lk;obtain⟨e,R⟩:=Q;obtain⟨A,J,U⟩:=OB I.cj e l;k_in;have Y:=Io J;have T:A[i]?=AA (A[i]'(by simp_all)):=(by simp);have S:kvs[i]?=AA kvs[i]:=(by simp);have a:=Pu J S T;generalize kvs[i]=p at S a;generalize A[i]'(Bh R (Bw Y))=q at T a;lk;obtain⟨k,x⟩:=q;obtain⟨B,C,y,F,G,L⟩:=O it (by simp);k_in;rw[Y]at D;refine wpAny_pyNext_values_item D U T λf W z=>?_;have m:=I.dh (t':=s.toks) (λb o g e=>(z.2 b g).trans e) B C F G L;lk;obtain⟨o',u,n,t⟩:=id W;k_in;rw[<-Y]at W;exact⟨x,rfl,Pm u n t (by decide) ⟨p.2,H,m,a.2,⟨rfl,p,S,rfl⟩,W,(by(simp[*]))⟩⟩
 uy:=by intro X N hw M j i Z s σ H E I O D Q;subst N hw M;lk;obtain⟨e,R⟩:=Q;obtain⟨A,J,U⟩:=OB I.cj e l;have Y:=Io J;obtain⟨B,C,y,F,G,L⟩:=O it (by simp);k_in;rw[Y]at D;exact wpAny_pyNext_values_end (I.ok.hd j) D U (V0.mpr (Ah (Bw Y.symm) R)) λf eb=>⟨rfl,I.dh (by assumption) B C F G L⟩
 wo:=λ_ _ _ _ _ D h=>wpAny_pyIter_valiter D h
def Nw(o:BP)(kvs:List (AK×AD))(d:AE):Gh:=⟨λi H=>H d=AA (.frz o (.dK kvs))/\i<kvs.length,λi H x D=>∃r p,kvs[i]?=AA p/\x=.ref r/\H r=AG/\D=AQ H r (.tup [Aw p.1,p.2]),λi H=>H d=AA (.frz o (.dK kvs))/\kvs.length<=i⟩
theorem xT{K:Ax}(d it:AE)(z:o.data=.dict es ep):MH P w K (.Tuple C x1 O) (Nw o kvs d) [it] it (λi h=>∃R S,IsItemIter h it d i kvs.length ep R S)where
 aal:=by simp
 cg:=(by simp_all)
 ab:=(by grind)
 vc:=by
  intro X c hw a y i M s σ H E I F D g;subst c hw a;lk;obtain⟨e,j⟩:=g;obtain⟨B,U,W⟩:=OB I.cj e z;k_in;have Z:kvs.length=B.length:=Io U;have A:B[i]?=AA (B[i]'(by simp_all)):=(by simp);have m:kvs[i]?=AA kvs[i]:=(by simp);have T:=Pu U m A;generalize kvs[i]=p at m T;generalize B[i]'(Bh j (Bw Z))=q at A T;lk;obtain⟨k,x⟩:=q;obtain⟨R,S,D⟩:=D;k_in;rw[Z]at D;have t:it<s.heap.objs.size:=Cw D;refine wpAny_pyNext_items_item D W A λL h' G eo ht hsz kk=>⟨_,rfl,wpAny_letOwnedTupleGo_items eo λQ f sb=>?_⟩;have hn:=I.cj.bz (Ak _);have N:s.heap.objs.size≠it:=NN t;have Y:∀b o,b∉[it]->s.heap.get? b=AA o->Q.get? b=AA o:=λb o J q=>by have v:b≠it:=(List.ne_of_not_mem_cons J);exact(sb.2 b v).trans (kk b o v q)
  have hk:p.1=k:=T.1;have rk:Bj (Aw p.1) L:=by rw[hk];exact VE G
  have r:=(sb.2 _ N).trans ht;have l:Dc X.ag X.w (AQ H s.heap.objs.size (.tup [Aw p.1,p.2])) Q:=by refine(I.cj.ze [it] (λb J=>(F b J).1) Y).zj hn ?_;exact⟨show 2<=Ay by decide,[L,x],.cons rk (.cons T.2 .nil),⟨_,r,rfl,_,rfl⟩⟩
  have un:Hu (G0 X.df) [it] H (AQ H s.heap.objs.size (.tup [Aw p.1,p.2])) s.heap Q:=by
   refine⟨(λu1 u2 u3 u4 u5 u6=>Y _ _ u6 u3),λb o q n J A=>⟨o.slots,Y b o A q⟩,λb o q n A=>?_,(by grind),λb ys q=>?_,λb o u q=>?_,λb ps q=>?_⟩;.rw[AX (Ee (Cw q))];exact n
   .rw[AX (by grind)];exact q
   .rw[AX (by grind)];exact q
   .exact⟨#[],by rw[AX (by grind),AA5];exact q⟩
  have I2:=I.yw (s':={s with heap:=Q}) (ch:=[it]) rfl un l I.ir λb J=>by obtain⟨q0,q1,q2,q3,q4,q5⟩:=F b J;(constructor<;>lia)
  rw[<-Z]at f;refine⟨.ref s.heap.objs.size,_,I2,rfl,⟨_,p,m,rfl,hn,rfl⟩,(by grind),λb J=>?_⟩;have e:b=it:=By.mp J;subst e;rw[AX N.symm];exact(F b J).1
 uy:=by intro X c hw a y i M s σ H E I F D g;subst c hw a;lk;obtain⟨e,j⟩:=g;obtain⟨B,U,W⟩:=OB I.cj e z;have Z:kvs.length=B.length:=Io U;obtain⟨f0,f1,f2,f3,f4,f5⟩:=F it (by simp);obtain⟨R,S,D⟩:=D;k_in;rw[Z]at D;exact wpAny_pyNext_items_end (I.ok.hd y) D W (V0.mpr (Ah (Bw Z.symm) j)) λh' eb=>⟨rfl,I.dh (t':=s.toks) (by assumption) f0 f1 f3 f4 f5⟩
 wo:=λ_ _ _ _ _ D h=>by lk;obtain⟨R,S,D⟩:=D;k_in;exact W.kcp_self D h
def Zh(J:BP->List (AK×AD)->AE->Gh)(tl:A1):GX:=λY H R=>tl Y H λx U=>Ey (λa D=>x=.ref a) (λa D=>U a=AA (.dK D)) (λa D=>∀o W,W=AQ U a (.frz o (.dK D))->R (J o D a) W)
theorem Ab.jq(I:Ab X D σ H s)(q:H a=AA (.dK kvs)):∃vs o J ep,Fh kvs vs/\o.data=.dict J ep/\(a==K4)=AR/\Ab X D σ (AQ H a (.frz o (.dK kvs))) s/\s.heap.DictAt (E2 X.ag X.w) a vs ep:=by lk;obtain⟨z,A,vs,U,o,J,ep,W,Z,Y,r⟩:=(show De _ _ H _ a _ from I.cj a _ q);k_in;exact⟨vs,o,J,ep,U,Y,A,I.ti (by rw[q];trivial) (.inl rfl) (λC u2 u3 B=>B) ⟨o,W⟩ ⟨W,z,A,vs,U,o,J,ep,W,Z,Y,r⟩,o,J,W,Z,Y,r⟩
theorem vH(ho:Am X o tl)(hbase:KA o "values" X.ae (Be o X.ae)=Be o X.ae)(hline:(apos.endLine==pos.line)=AJ):Gj X tg (.Call (.Attribute o "values" apos) [] [] pos) (Zh Nx tl):=by intro pins s σ H R I h;refine Sx (T:="dict") (id:="dict.values") hbase rfl hline Sr ACl F.type_dict_values (BD (ho pins s σ H _ I h) λv s1 hh11=>?_);lk;obtain⟨x,H1,I1,r1,a,kvs,e,q0,q⟩:=hh11;k_in;subst e;lk;cases r1;obtain⟨vs,o,es,ep,rel,hd,lo,I2,hat⟩:=I1.jq q0;k_in;have hl:kvs.length=vs.length:=Io rel;refine⟨hat.dictOf.typeIs,hat.dictOf.mapOf.noDict,?_⟩;refine ADa ACl F.entry_dict_values rfl (AAb ⟨rfl,hat.dictOf.typeIs,(by rfl),_,meets_dict_values (E2 X.ag X.w) a lo,⟨vs,hat.dictOf⟩,?_⟩);refine wpAny_pyIter_values (knd:=E2 X.ag X.w) (d:=a) (kvs:=vs) (ep:=ep) ⟨_,Gu _ rfl,rfl,rfl⟩ (hat.push _) ?_;have I3:Ab X pins σ (AQ H1 a (.frz o (.dK kvs))) {s1 with heap:=s1.heap.push {cls:=.type "dict_values",data:=.fields #[.ref a]}}:=I2.gw (t':=s1.toks) λb o e=>DN _ e;generalize s1.heap.push _=h1 at I3⊢;refine⟨h1.objs.size,[h1.objs.size],_,Nx o kvs a,_,rfl,I3.gw (t':=s1.toks) λb o e=>DN _ e,xU a _ hd,⟨_,Gu _ rfl,rfl,by simp_all⟩,λb hb=>?_,q o _ rfl⟩;have e:b=h1.objs.size:=By.mp hb;subst e;exact I3.ud (Ak _) (I3.cj.bz (Ak _))
theorem VZ(ho:Am X o tl)(hbase:KA o "items" X.ae (Be o X.ae)=Be o X.ae)(hline:(apos.endLine==pos.line)=AJ):Gj X (.Tuple elts x1 tpos) (.Call (.Attribute o "items" apos) [] [] pos) (Zh Nw tl):=by intro pins s σ H R I h;refine Sx (T:="dict") (id:="dict.items") hbase rfl hline Sr ACj F.type_dict_items (BD (ho pins s σ H _ I h) λv s1 hh11=>?_);lk;obtain⟨x,H1,I1,r1,a,kvs,e,q0,q⟩:=hh11;k_in;subst e;lk;cases r1;obtain⟨vs,o,es,ep,rel,hd,lo,I2,hat⟩:=I1.jq q0;k_in;have hl:kvs.length=vs.length:=Io rel;refine⟨hat.dictOf.typeIs,hat.dictOf.mapOf.noDict,?_⟩;refine ADa ACj F.entry_dict_items rfl (AAb ⟨rfl,hat.dictOf.typeIs,(by rfl),_,meets_dict_items (E2 X.ag X.w) a lo,⟨vs,hat.dictOf⟩,?_⟩);refine wpAny_pyIter_items (knd:=E2 X.ag X.w) (d:=a) (kvs:=vs) (ep:=ep) ⟨_,Gu _ rfl,rfl,rfl⟩ (hat.push _) ?_;have I3:Ab X pins σ (AQ H1 a (.frz o (.dK kvs))) {s1 with heap:=s1.heap.push {cls:=.type "dict_items",data:=.fields #[.ref a]}}:=I2.gw (t':=s1.toks) λb o e=>DN _ e;generalize s1.heap.push _=h1 at I3⊢;refine⟨h1.objs.size,[h1.objs.size],_,Nw o kvs a,_,rfl,I3.gw (t':=s1.toks) λb o e=>DN _ e,xT a _ hd,⟨.none,.none,by rw[hl];exact Gu _ rfl⟩,λb hb=>?_,q o _ rfl⟩;have e:b=h1.objs.size:=By.mp hb;subst e;exact I3.ud (Ak _) (I3.cj.bz (Ak _))
theorem sS{d:AE}{o:BP}{kvs:List (AK×AD)}{g:Ex}{E:C7}{D:Hq}{σ:Ae}{H:AI}(U:Nat->Ae->AI->Prop)(F:U 0 σ H)(K:∀i σ H,i<=kvs.length->U i σ H->H d=AA (.frz o (.dK kvs)))(M:∀(i:Nat)p σ H,kvs[i]?=AA p->U i σ H->g p.2 σ H λZ A=>E {D with nx:=U (i+1),ct:=U (i+1),bk:=D.nx} Z A)(I:∀σ H,U kvs.length σ H->D.nx σ H):∃W:Nat->Nat->Ae->AI->Prop,(∃m,W 0 m σ H)/\∀i m σ H,W i m σ H->((Nx o kvs d).sj i H/\D.nx σ H)\/((Nx o kvs d).go i H/\∃N:Ae->AI->Prop,(∀Y H',N Y H'->∃C,C<m/\W (i+1) C Y H')/\∀x H',(Nx o kvs d).zm i H x H'->g x σ H' λZ A=>E {D with nx:=N,ct:=N,bk:=D.nx} Z A):=by
 refine⟨λi m σ H=>m=kvs.length-i/\i<=kvs.length/\U i σ H,⟨kvs.length,by simp,BY _,F⟩,?_⟩;intro i m σ H G;lk;obtain⟨rfl,B,p⟩:=G;k_in;have q:=K i σ H B p;by_cases J:i<kvs.length
 . refine .inr ⟨⟨q,J⟩,_,λY H' O=>⟨_,JR _ _ J,rfl,J,O⟩,λx H' y=>?_⟩;lk;obtain⟨e,P,L,rfl⟩:=y;k_in;subst e;exact M i P σ _ L p
 . have:=Fm B (Ga J);subst this;exact .inl ⟨⟨q,Ak _⟩,I σ H p⟩
theorem U9{d:AE}{o:BP}{kvs:List (AK×AD)}{g:Ex}{E:C7}{D:Hq}{σ:Ae}{H:AI}(U:Nat->Ae->AI->Prop)(F:U 0 σ H)(K:∀i σ H,i<=kvs.length->U i σ H->H d=AA (.frz o (.dK kvs)))(O:∀(i:Nat)p σ H r,kvs[i]?=AA p->U i σ H->H r=AG->g (.ref r) σ (AQ H r (.tup [Aw p.1,p.2])) λZ A=>E {D with nx:=U (i+1),ct:=U (i+1),bk:=D.nx} Z A)(I:∀σ H,U kvs.length σ H->D.nx σ H):∃W:Nat->Nat->Ae->AI->Prop,(∃m,W 0 m σ H)/\∀i m σ H,W i m σ H->((Nw o kvs d).sj i H/\D.nx σ H)\/((Nw o kvs d).go i H/\∃N:Ae->AI->Prop,(∀Y H',N Y H'->∃C,C<m/\W (i+1) C Y H')/\∀x H',(Nw o kvs d).zm i H x H'->g x σ H' λZ A=>E {D with nx:=N,ct:=N,bk:=D.nx} Z A):=by
 refine⟨λi m σ H=>m=kvs.length-i/\i<=kvs.length/\U i σ H,⟨kvs.length,by simp,BY _,F⟩,?_⟩;intro i m σ H G;lk;obtain⟨rfl,B,p⟩:=G;k_in;have q:=K i σ H B p;by_cases J:i<kvs.length
 . refine .inr ⟨⟨q,J⟩,_,λY H' P=>⟨_,JR _ _ J,rfl,J,P⟩,λx H' y=>?_⟩;lk;obtain⟨r,Q,L,rfl,M,rfl⟩:=y;k_in;exact O i Q σ _ r L p M
 . have:=Fm B (Ga J);subst this;exact .inl ⟨⟨q,Ak _⟩,I σ H p⟩
inductive JX(CX:Hn)(P:Ce)(w:CA)(K:Ax)(mg:AF->Option AL)(base:Bb)(k:Nat)(R:AE->Prop)(sp:BO):Prop|mk{f:AE}{fd:Im}{ps:List AF}(r:R f)(b:MB K fd ps [])(F:Gy P w K mg base CX k f fd ps sp):JX CX P w K mg base k R sp
inductive Md(K:Ax)(R:AE->Prop)(x q:AF)(st:DA)(N:List AF)(n:Nat):Prop|mk{f:AE}{fd:Im}(r:R f)(F:Pa K x q st f fd)(b:MB K fd (N.take n) [])(S:Mu N (N.take n) (DC st)):Md K R x q st N n
abbrev TR(K:Ax)(D:AF->Option AL)(x:AF)(f:AE):Prop:=D x=AA (.ref f)/\Sv K (.ref f)=AJ
abbrev CJ(K:Ax)(D:AF->Option AL)(x:AF):=Md K (TR K D x) x x
abbrev G8(K:Ax)(C:AE)(m:AF):=Md K (Ra K C m) m
abbrev Qu(K:Ax)(C:AE):=Md K (Rb K C) "__init__"
abbrev Md.Ok{K:Ax}{st:DA}(_:Md K R x q st N n)(CX:Hn)(P:Ce)(w:CA)(D:AF->Option AL)(base:Bb)(k:Nat)(sp:BO):Prop:=JX CX P w K D base k R sp
theorem Md.ok{K:Ax}{st:DA}(D:Md K R x q st N n)(W:∀(B:N.Nodup)(f:AE)(U:AL)(A:Dj)(J:List Ef)(s:AZ),D9 k (A.deeper (MW q (DC st) s.heap.objs.size f U))->∀(H:AI)(vs:List AD)(Q:BN)(E:F0),sp vs H Q E->∃t,GC (My BM P w K Z base N q (DC st) f U A J s H E).abw (MJ st) t/\t {nx:=λ_ H'=>Q .non H',rt:=Q} (NF N vs) H)(len:∀vs H Q E,sp vs H Q E->vs.length=(N.take n).length:=by intro _ _ _ _ h;first|(obtain⟨rfl,_⟩:=h;rfl)|(obtain⟨_,rfl,_⟩:=h;rfl)|(obtain⟨_,_,rfl,_⟩:=h;rfl)|(obtain⟨_,_,_,rfl,_⟩:=h;rfl)|(obtain⟨_,_,_,_,rfl,_⟩:=h;rfl)|(obtain⟨_,_,_,_,_,rfl,_⟩:=h;rfl)|(obtain⟨_,_,_,_,_,_,rfl,_⟩:=h;rfl)|(obtain⟨_,_,_,_,_,_,_,rfl,_⟩:=h;rfl)|(obtain⟨_,_,_,_,_,_,_,_,rfl,_⟩:=h;rfl)|(obtain⟨_,_,_,_,_,_,_,_,_,rfl,_⟩:=h;rfl)|(obtain⟨_,_,_,_,_,_,_,_,_,_,rfl,_⟩:=h;rfl)|(obtain⟨_,_,_,_,_,_,_,_,_,_,_,rfl,_⟩:=h;rfl)|(obtain⟨_,_,_,_,_,_,_,_,_,_,_,_,rfl,_⟩:=h;rfl)|(obtain⟨_,_,_,_,_,_,_,_,_,_,_,_,_,rfl,_⟩:=h;rfl)|(obtain⟨_,_,_,_,_,_,_,_,_,_,_,_,_,_,rfl,_⟩:=h;rfl)|(obtain⟨_,_,_,_,_,_,_,_,_,_,_,_,_,_,_,rfl,_⟩:=h;rfl)|(obtain⟨_,_,_,_,_,_,_,_,_,_,_,_,_,_,_,_,rfl,_⟩:=h;rfl)|(obtain⟨_,_,_,_,_,_,_,_,_,_,_,_,_,_,_,_,_,rfl,_⟩:=h;rfl)|(cases h;subst_vars;rfl)):JX BM P w K Z base (k+1) R sp:=by cases D with|mk r F b S=>show⟨r,b,F.ok S len λU A J s H vs Q E Y h=>W S.nd _ U A J s Y H vs Q E h⟩
theorem BG{x:AF}(c:JX BM X.ag X.w X.K X.mg X.ar k (TR X.K X.mg x) sp)(E:D9 n X.A)(Z:Gi X (e::D) t)(C:k<=n:=by decide)(B:Gg X x:=by rfl)(J:(x==("__debug__":AF))=AR:=by decide)(A:Co (e::D) X.ae=(AR,Be e X.ae)::Co D X.ae:=by rfl)(U:(Gd V (Co D X.ae)).any (·.1)=AR:=by rfl):Am X (.Call (.Name x p) (e::D) [] V) (wZ sp [] JB t):=by intro Y s G H Q I h;cases c with|mk r b F=>show Qc (Po I B r.1 ?_ J);show AAL I.ok.uv.abn r.2 (BD (Z _ _ s G H _ I h) λL s1⟨M,K,W,r,q⟩=>⟨W.oq,?_⟩) A U;show Vk F (E.wj C) b .nil Kq W r q
theorem GV(he:Am X o ta)(c:IT X.K C)(h:JX BM X.ag X.w X.K X.mg X.ar k (Ra X.K C m) sp)(hr:D9 n X.A)(ha:Gi X (e::es) t)(hn:k<=n:=by decide)(hst:Co (e::es) X.ae=(AR,Be e X.ae)::Co es X.ae:=by rfl)(hpl:(Gd pos (Co es X.ae)).any (·.1)=AR:=by rfl)(ht:Be (.Call (.Attribute o m apos) (e::es) [] pos) X.ae=(do
 let ov<-Be o X.ae
 standAt apos.atName let(f,first)<-holding [ov] (eI ov m pl)callWith pos f first (Gd pos (Co (e::es) X.ae)) (QS pos (QY [] X.ae))):=by rfl):Am X (.Call (.Attribute o m apos) (e::es) [] pos) (NG C m sp [] JB ta t):=by intro pins s σ H Q I g;cases h with|mk r b F=>show ADO (BD (he _ s σ H _ I g) λu s1⟨x,H1,I1,rx,a,dx,fs,ex,ea,l,q⟩=>?_) ht;subst ex;obtain rfl:u=Dk a:=rx;show Zg I1 ea c r l ?_;show AAL I.ok.uv.abn r.kp (BD (ha _ _ s1 σ H1 _ I1 q) λus s2⟨vs,H2,I2,r,q2⟩=>⟨I2.oq,?_⟩) hst hpl;show Vk (vs:=.ref a::vs) F (hr.wj hn) b .nil Kq I2 (.cons rfl r) q2
theorem KW(B:Am X o N)(c:IT X.K C)(h:JX BM X.ag X.w X.K X.mg X.ar k (Ra X.K C m) sp)(G:D9 n X.A)(E:k<=n:=by decide)(K:Be (.Call (.Attribute o m J) [] [] D) X.ae=(do
 let W<-Be o X.ae
 standAt J.atName let(f,U)<-holding [W] (eI W m L)callWith D f U (Gd D (Co [] X.ae)) (QS D (QY [] X.ae))):=by rfl):Am X (.Call (.Attribute o m J) [] [] D) (NG C m sp [] JB N HP):=by intro Y s O H Q I g;cases h with|mk r b F=>show ADO (BD (B _ s O H _ I g) λu s1⟨x,P,V,M,a,R,S,A,Z,l,q⟩=>?_) K;subst A;obtain rfl:u=Dk a:=M;show Zg V Z c r l ?_;show ADC V.oq r.kp (Vk (vs:=[.ref a]) F (G.wj E) b .nil Kq V (.cons rfl .nil) q)
theorem PK{x:AF}(h:JX CX X.ag X.w X.K X.mg X.ar k (Rb X.K C) sp)(L:D9 n X.A)(G:X.mg x=AA (.ref C))(N:Pe CX X E)(Z:Gi X (e::D) t)(K:k+1<=n:=by decide)(B:Gg X x:=by rfl)(J:(x==("__debug__":AF))=AR:=by decide)(A:Co (e::D) X.ae=(AR,Be e X.ae)::Co D X.ae:=by rfl)(U:(Gd V (Co D X.ae)).any (·.1)=AR:=by rfl):Am X (.Call (.Name x p) (e::D) [] V) (bK C sp [] E t):=by intro Y s O H Q I g;cases h with|mk M b F=>show Qc (Po I B G ?_ J);show AAL I.ok.uv.abn M.kp (BD (Z _ _ s O H _ I g) λR s1⟨S,P,W,r,q⟩=>⟨W.oq,?_⟩) A U;show aY M F (L.wj K) b .nil N W r q
theorem YI{x:AF}(h:JX CX X.ag X.w X.K X.mg X.ar k (Rb X.K C) sp)(Y:D9 n X.A)(V:X.mg x=AA (.ref C))(Z:Pe CX X E)(W:k+1<=n:=by decide)(U:Gg X x:=by rfl)(D:(x==("__debug__":AF))=AR:=by decide):Am X (.Call (.Name x p) [] [] A) (bK C sp [] E HP):=by intro J s B H Q I g;cases h with|mk M b F=>show Qc (Po I U V ?_ D);show ADC I.oq M.kp (aY M F (Y.wj W) b .nil Z I .nil g)
theorem l9{x y:AF}{K:Ax}(h:JX BM X.ag X.w X.K X.mg X.ar k (TR X.K X.mg y) sp)(O:D9 n X.A)(W:X.mg x=AG)(R:QW x=AA (.builtin "sorted"))(G:Am X e d)(E:k+2<=n:=by decide)(L:Gg X y:=by rfl)(P:Gg X x:=by rfl)(C:X.K=K:=by rfl)(M:x≠"__name__":=by decide)(U:(x==("__debug__":AF))=AR:=by decide)(V:(y==("__debug__":AF))=AR:=by decide)(J:Gd Y (Co [e] X.ae)=[(AR,Be e X.ae)]:=by rfl):Am X (.Call (.Name x p) [e] [⟨AA "key",.Name y j,l⟩] Y) (xP K sp d):=by subst C;intro A s f H Q I g;cases h with|mk r b F=>show Qc (Ko I P W R ?_ M U);show callWith_kw ?_ J (by simp_all) rfl rfl;rw[J];show Le (BD (G _ s f H _ I g) λu s1 D=>?_);obtain⟨v,i,Z,c,a,m,T,B,N,S,q⟩:_:=D;show OY ?_;subst B;obtain rfl:u=Dk a:=c;show wpAny_evalAll_cons (BL (Po Z L r.1 (BL (AAo (Cp (wpAny_evalAll_nil ?_)))) V));show wV F b (O.wj E) Z N S q
theorem Tn{K:Ax}{st:DA}(r:R f)(l:K.lookup f=AA ⟨B,C,.func (Od x q (N9 st) (MJ st) (DC st) .none Y J Z V D W),A⟩)(c:d6 K D q=AJ)(k:Sv K (.ref f)=AJ)(S:Mu N (N.take n) (DC st))(b:∀(Y J Z:AL)(V:Option AE)(D W:AL)(U:List AL),U.length=(N.take n).length->AAW (Od x q (N9 st) (MJ st) (DC st) .none Y J Z V D W) ⟨U,[]⟩=Bo ((N.take n).zip U)):Md K R x q st N n:=⟨r,VA l c k,(VA l c k).aay b,S⟩
theorem jE{K:Ax}{D:AF->Option AL}{g:J9->AL}(X:K.In h)(G:h.Ns Li D)(e:W.nsIn K Li x=AA (AA (g t))):∃t,D x=AA (g t):=⟨t,AAS X G e⟩
theorem iB{K:Ax}(a:IH K (.ref C) "__getattribute__"=AA (AA (.builtin "BaseException.__getattribute__")))(b:IH K (.ref C) "__getattr__"=AA AG)(c:IH K (.ref C) "__class__"=AA (AA (.builtin "object.__class__")))(d:eG K (.ref C) (.type "BaseException")=AA AJ)(e:eG K (.ref C) (.type "object")=AA AJ)(i:ADE K C=AA D):qW K C:=⟨a,b,c,d,e,by rw[i];rfl⟩
theorem pK{K:Ax}(l:K.lookup f=AA ⟨.type "tuple",AG,.seq vs n,D⟩)(a:vs.size<=Ay)(b:Bk xs vs.toList)(H:AI):Cm K H f xs:=.inr ⟨_,_,_,l,rfl,rfl,a,b⟩
theorem jS{K:Ax}(l:K.lookup f=AA ⟨.type "tuple",AG,.seq vs n,D⟩):∃o,K.lookup f=AA o/\o.cls=.type "tuple"/\o.dict=AG:=⟨_,l,rfl,rfl⟩
theorem qE{J:List U}(h:J.length=1):∃D,J=[D]:=by match J,h with|[D],_=>show⟨D,rfl⟩
theorem qF{U:List V}(h:U.length=2):∃D J,U=[D,J]:=by match U,h with|[D,J],_=>show⟨D,J,rfl⟩
theorem qG{V:List W}(h:V.length=3):∃D J U,V=[D,J,U]:=by match V,h with|[D,J,U],_=>show⟨D,J,U,rfl⟩
theorem qH{W:List Y}(h:W.length=4):∃D J U V,W=[D,J,U,V]:=by match W,h with|[D,J,U,V],_=>show⟨D,J,U,V,rfl⟩
theorem qI{Y:List Z}(h:Y.length=5):∃D J U V W,Y=[D,J,U,V,W]:=by match Y,h with|[D,J,U,V,W],_=>show⟨D,J,U,V,W,rfl⟩
seal Am HI Mw Gi Ew GC LP Pd Gj LQ Rf Cf Rl Fx N0 N5
def Bd(i:Nat):DA:=AEA.main.body.getD i (.Pass ⟨0,0,0,0⟩)
abbrev Yf:DA:=Bd 2
abbrev PL:DA:=Bd 21
abbrev UN:DA:=Bd 22
abbrev YZ:DA:=F3 (Bd 27) 2
abbrev Yb:DA:=F3 (Bd 32) 1
abbrev Yd:DA:=Bd 34
abbrev UO:DA:=Bd 38
abbrev UP:DA:=Bd 40
abbrev Yc:DA:=Bd 46
abbrev UM:DA:=Bd 72
abbrev Ya:DA:=F3 (Bd 51) 4
abbrev RO:DA:=Bd 67
abbrev Ye:DA:=Bd 63
abbrev mR:DA:=Bd 64
theorem Yj:Mu ["_law_script","_law_plan_here","_law_handed","_law_hands","_law_homes","_law_held","_law_now","_law_k","_law_event_here","_law_keys","_law_key","_law_number_here"] ["_law_script"] (DC UM):=SO
set_option genInjectivity false in structure CF where
 vn:AE
 ya:Im
 au:AE
 dm:AE
 dw:AE
 bc:AE
 ri:AE
 ou:AE
 ot:AE
structure BQ(K:Ax)(mg:AF->Option AL)(ad:CF):Prop where
 zb:mg "Group"=AA (.ref ad.au)ye:mg "Side"=AA (.ref ad.dm)zv:mg "Join"=AA (.ref ad.dw)ve:mg "Hand"=AA (.ref ad.bc)aw:IT K ad.au
 iw:Hr K ad.au "step"bj:Hr K ad.au "rows"cq:IT K ad.dm
 bx:Hr K ad.dm "rows"cv:IT K ad.dw
 dk:Hr K ad.dw "within"bo:Hr K ad.dw "sides"ah:IT K ad.bc
 ku:Hr K ad.bc "plan"av:Hr K ad.bc "joins"aq:Hr K ad.bc "groups"xy:CJ K mg "ahead" (Bd 1) ["rows","mark","low","high","middle"] 2
 qj:CJ K mg "with_keys" Yf ["rows","told","key"] 1
 vz:CJ K mg "starts" (Bd 4) ["time","size","step","first"] 3
 yb:CJ K mg "meets" (Bd 5) ["start","end","time","most","last"] 4
 qf:CJ K mg "names_end" (Bd 10) ["step"] 1
 um:CJ K mg "name_of" (Bd 11) ["step"] 1
 uk:CJ K mg "feeders" (Bd 12) ["step"] 1
 qe:CJ K mg "is_teller" (Bd 13) ["step"] 1
 rg:CJ K mg "tally_of" (Bd 15) ["amount"] 1
 xx:CJ K mg "added" (Bd 16) ["one","other"] 2
 yd:CJ K mg "value" (Bd 17) ["sort","tally"] 2
 oe:CJ K mg "put_window" (Bd 19) ["pieces","start","end","tally","place","there"] 4
 qz:CJ K mg "put_each" (Bd 20) ["pieces","time","amount","size","step","told","start"] 5
 uo:CJ K mg "put_gap" PL ["pieces","time","amount","most","met","rest","start","end","tally","piece"] 4
 vq:CJ K mg "parted" UN ["pieces","now","over","still"] 2
 vw:CJ K mg "put_by" (Bd 24) ["step","pieces","item"] 3
 vx:CJ K mg "row_of" (Bd 25) ["step","key","piece"] 3
 qx:CJ K mg "order_of" (Bd 26) ["row"] 1
 ik:Qu K ad.au "Group.__init__" (F3 (Bd 27) 0) ["self","step"] 2
 ox:G8 K ad.au "put" "Group.put" (F3 (Bd 27) 1) ["self","item","key"] 2
 mh:G8 K ad.au "close" "Group.close" YZ ["self","now","told","key"] 2
 ny:G8 K ad.au "take" "Group.take" (F3 (Bd 27) 3) ["self","key","now","pieces","pair"] 3
 jt:G8 K ad.au "pieces" "Group.pieces" (F3 (Bd 27) 4) ["self"] 1
 jh:Qu K ad.dm "Side.__init__" (F3 (Bd 29) 0) ["self"] 1
 qr:G8 K ad.dm "put" "Side.put" (F3 (Bd 29) 1) ["self","item","pair","row","place"] 2
 qb:G8 K ad.dm "near" "Side.near" (F3 (Bd 29) 2) ["self","key","low","high","row"] 4
 pj:G8 K ad.dm "drop" "Side.drop" (F3 (Bd 29) 3) ["self","least","key","row","kept"] 2
 pz:G8 K ad.dm "kept" "Side.kept" (F3 (Bd 29) 4) ["self"] 1
 qw:CJ K mg "met_item" (Bd 31) ["side","item","pair","first","second"] 3
 jg:Qu K ad.dw "Join.__init__" (F3 (Bd 32) 0) ["self","within"] 2
 oz:G8 K ad.dw "come" "Join.come" Yb ["self","side","item","met"] 3
 ph:G8 K ad.dw "drop" "Join.drop" (F3 (Bd 32) 2) ["self","now","side"] 2
 uq:CJ K mg "tellers" Yd ["plan"] 1
 yc:CJ K mg "taken" (Bd 36) ["step","event"] 2
 we:CJ K mg "turned" (Bd 37) ["step","item"] 2
 vv:CJ K mg "passed" UO ["step","streams"] 2
 vp:CJ K mg "joined" (Bd 39) ["join","streams","made","side","items","item"] 2
 vy:CJ K mg "spread" UP ["plan","joins","event","brought","told","place","step","streams","items"] 3
 qv:CJ K mg "joins_of" (Bd 42) ["plan","joins","place","step"] 1
 qc:CJ K mg "groups_of" (Bd 43) ["plan","groups","place"] 1
 qg:CJ K mg "put_event" (Bd 44) ["plan","joins","groups","event","place","item"] 4
 qu:CJ K mg "drop_all" (Bd 45) ["joins","now","join"] 2
 vo:CJ K mg "closed" Yc ["groups","now","told","place","group"] 2
 rf:CJ K mg "put_item" (Bd 48) ["joins","item"] 2
 qh:CJ K mg "put_piece" (Bd 49) ["groups","piece"] 2
 jf:Qu K ad.bc "Hand.__init__" (F3 (Bd 51) 0) ["self","plan"] 2
 oa:G8 K ad.bc "bring" "Hand.bring" (F3 (Bd 51) 1) ["self","event"] 2
 mj:G8 K ad.bc "forget" "Hand.forget" (F3 (Bd 51) 2) ["self","now"] 2
 oy:G8 K ad.bc "over" "Hand.over" (F3 (Bd 51) 3) ["self","now"] 2
 ju:G8 K ad.bc "give_up" "Hand.give_up" (F3 (Bd 51) 4) ["self","key","items","place","join","side","kept","pieces","group"] 2
 jw:G8 K ad.bc "take_in" "Hand.take_in" (F3 (Bd 51) 5) ["self","key","parcel","place","side","time","amount","start","end","tally"] 3
 jl:CJ K mg "_law_cell_at" (Bd 53) ["_law_script","_law_k"] 2
 jy:CJ K mg "_law_number" (Bd 54) ["_law_script","_law_k","_law_base"] 2
 ng:CJ K mg "_law_names" (Bd 55) ["_law_script","_law_start","_law_many","_law_some","_law_number_here","_law_step","_law_word","_law_j","_law_place","_law_names_here","_law_k","_law_sign"] 3
 ni:CJ K mg "_law_scale" (Bd 56) ["_law_script"] 1
 kc:CJ K mg "_law_stream" (Bd 57) ["_law_name","_law_number_here","_law_streams","_law_scale_here","_law_one","_law_other","_law_low"] 4
 kg:CJ K mg "_law_teller" (Bd 58) ["_law_name","_law_number_here","_law_streams","_law_scale_here","_law_one","_law_sort","_law_step"] 4
 mn:CJ K mg "_law_bound" (Bd 59) ["_law_step","_law_sizes","_law_most"] 3
 oh:CJ K mg "_law_plan" (Bd 60) ["_law_script","_law_most","_law_names_here","_law_kinds","_law_scale_here","_law_plan_here","_law_sizes","_law_wide","_law_many","_law_joined","_law_k","_law_number_here","_law_streams","_law_step"] 2
 mw:CJ K mg "_law_event" (Bd 61) ["_law_script","_law_k","_law_number_here","_law_scale_here","_law_time","_law_kind","_law_keys","_law_key","_law_amount"] 2
 og:CJ K mg "_law_kept" (Bd 62) ["_law_hand","_law_key","_law_items","_law_place","_law_side","_law_one","_law_pieces","_law_piece"] 2
 jz:CJ K mg "_law_others" (Bd 63) ["_law_hand","_law_key","_law_found","_law_place","_law_side"] 2
 jm:CJ K mg "_law_rows_of" (Bd 64) ["_law_hand","_law_key","_law_place","_law_side"] 2
 nj:CJ K mg "_law_value" (Bd 65) ["_law_sort","_law_tally"] 2
 iu:CJ K mg "_law_over" (Bd 66) ["_law_hand","_law_plan_here","_law_now","_law_held","_law_due","_law_place","_law_step","_law_key","_law_start","_law_end","_law_tally","_law_row","_law_found","_law_piece"] 4
 fq:CJ K mg "_law_forgets" (Bd 67) ["_law_hand","_law_plan_here","_law_now","_law_due","_law_place","_law_side","_law_pieces","_law_found"] 3
 mz:CJ K mg "_law_given" (Bd 68) ["_law_one","_law_other","_law_key","_law_due","_law_apart","_law_parcel"] 3
 fo:CJ K mg "_law_brought" (Bd 69) ["_law_hand","_law_plan_here","_law_event_here","_law_is_new","_law_fresh"] 3
 jx:CJ K mg "_law_let_go" (Bd 70) ["_law_hand","_law_key","_law_due","_law_apart","_law_parcel"] 2
 gu:CJ K mg "_law_passed" (Bd 71) ["_law_hands","_law_homes","_law_key","_law_number_here","_law_at"] 4
 abp:mg "law"=AA (.ref ad.vn)zy:Pa K "law" "law" UM ad.vn ad.ya
 yy:mg "PAIRED"=AA (.ref ad.ri)zg:∀H,Cm K H ad.ri [.str "both",.str "join"]yk:mg "TELLERS"=AA (.ref ad.ou)yq:∀H,Cm K H ad.ou [.str "each",.str "gap"]yj:mg "TALLIES"=AA (.ref ad.ot)yp:∀H,Cm K H ad.ot [.str "count",.str "sum",.str "least",.str "greatest"]ym:∃o,K.lookup ad.ot=AA o/\o.cls=.type "tuple"/\o.dict=AG
 fi:mg "enumerate"=AG
 aad:mg "int"=AG
 oo:mg "isinstance"=AG
 fm:mg "len"=AG
 jc:mg "list"=AG
 wy:mg "max"=AG
 zo:mg "min"=AG
 je:mg "range"=AG
 cy:mg "sorted"=AG
 zx:mg "tuple"=AG
inductive EH{A B C:Type}(p:A->B->C->Prop):Prop|mk(a:A)(b:B)(c:C)(_:p a b c)
inductive KD{A B C D:Type}(p:A->B->C->D->Prop):Prop|mk(a:A)(b:B)(c:C)(d:D)(_:p a b c d)
inductive IM{A B C D E:Type}(p:A->B->C->D->E->Prop):Prop|mk(a:A)(b:B)(c:C)(d:D)(e:E)(_:p a b c d e)
inductive KG{A B C D E F:Type}(p:A->B->C->D->E->F->Prop):Prop|mk(a:A)(b:B)(c:C)(d:D)(e:E)(f:F)(_:p a b c d e f)
inductive KH{A B C D E F G:Type}(p:A->B->C->D->E->F->G->Prop):Prop|mk(a:A)(b:B)(c:C)(d:D)(e:E)(f:F)(g:G)(_:p a b c d e f g)
inductive Qw{A B C D E F G H:Type}(p:A->B->C->D->E->F->G->H->Prop):Prop|mk(a:A)(b:B)(c:C)(d:D)(e:E)(f:F)(g:G)(h:H)(_:p a b c d e f g h)
inductive Ll{A B C D E F G H I:Type}(p:A->B->C->D->E->F->G->H->I->Prop):Prop|mk(a:A)(b:B)(c:C)(d:D)(e:E)(f:F)(g:G)(h:H)(i:I)(_:p a b c d e f g h i)
inductive TL{A B C D E F G H I J:Type}(p:A->B->C->D->E->F->G->H->I->J->Prop):Prop|mk(a:A)(b:B)(c:C)(d:D)(e:E)(f:F)(g:G)(h:H)(i:I)(j:J)(_:p a b c d e f g h i j)
inductive Ow{A B C D E F G H I J K:Type}(p:A->B->C->D->E->F->G->H->I->J->K->Prop):Prop|mk(a:A)(b:B)(c:C)(d:D)(e:E)(f:F)(g:G)(h:H)(i:I)(j:J)(k:K)(_:p a b c d e f g h i j k)
inductive Qv{A B C D E F G H I J K L M:Type}(p:A->B->C->D->E->F->G->H->I->J->K->L->M->Prop):Prop|mk(a:A)(b:B)(c:C)(d:D)(e:E)(f:F)(g:G)(h:H)(i:I)(j:J)(k:K)(l:L)(m:M)(_:p a b c d e f g h i j k l m)
inductive TM{A B C D E F G H I J K L M N:Type}(p:A->B->C->D->E->F->G->H->I->J->K->L->M->N->Prop):Prop|mk(a:A)(b:B)(c:C)(d:D)(e:E)(f:F)(g:G)(h:H)(i:I)(j:J)(k:K)(l:L)(m:M)(n:N)(_:p a b c d e f g h i j k l m n)
inductive TN{A B C D E F G H I J K L M N O:Type}(p:A->B->C->D->E->F->G->H->I->J->K->L->M->N->O->Prop):Prop|mk(a:A)(b:B)(c:C)(d:D)(e:E)(f:F)(g:G)(h:H)(i:I)(j:J)(k:K)(l:L)(m:M)(n:N)(o:O)(_:p a b c d e f g h i j k l m n o)
inductive Wt{A B C D E F G H I J K L M N O Q R S:Type}(p:A->B->C->D->E->F->G->H->I->J->K->L->M->N->O->Q->R->S->Prop):Prop|mk(a:A)(b:B)(c:C)(d:D)(e:E)(f:F)(g:G)(h:H)(i:I)(j:J)(k:K)(l:L)(m:M)(n:N)(o:O)(q:Q)(r:R)(s:S)(_:p a b c d e f g h i j k l m n o q r s)
inductive Wr(a b:Prop):Prop|mk(_:a)(_:b)
inductive TK(a b c:Prop):Prop|mk(_:a)(_:b)(_:c)
inductive IL(a b c d:Prop):Prop|mk(_:a)(_:b)(_:c)(_:d)
inductive EV(a b c d e:Prop):Prop|mk(_:a)(_:b)(_:c)(_:d)(_:e)
inductive JV(a b c d e f:Prop):Prop|mk(_:a)(_:b)(_:c)(_:d)(_:e)(_:f)
inductive HZ(a b c d e f g:Prop):Prop|mk(_:a)(_:b)(_:c)(_:d)(_:e)(_:f)(_:g)
inductive JW(a b c d e f g h:Prop):Prop|mk(_:a)(_:b)(_:c)(_:d)(_:e)(_:f)(_:g)(_:h)
inductive Mc(a b c d e f g h i:Prop):Prop|mk(_:a)(_:b)(_:c)(_:d)(_:e)(_:f)(_:g)(_:h)(_:i)
inductive TJ(a b c d e f g h i j:Prop):Prop|mk(_:a)(_:b)(_:c)(_:d)(_:e)(_:f)(_:g)(_:h)(_:i)(_:j)
inductive Qq(a b c d e f g h i j k:Prop):Prop|mk(_:a)(_:b)(_:c)(_:d)(_:e)(_:f)(_:g)(_:h)(_:i)(_:j)(_:k)
inductive Qr(a b c d e f g h i j k l:Prop):Prop|mk(_:a)(_:b)(_:c)(_:d)(_:e)(_:f)(_:g)(_:h)(_:i)(_:j)(_:k)(_:l)
inductive Wo(a b c d e f g h i j k l m n:Prop):Prop|mk(_:a)(_:b)(_:c)(_:d)(_:e)(_:f)(_:g)(_:h)(_:i)(_:j)(_:k)(_:l)(_:m)(_:n)
inductive Wq(a b c d e f g h i j k l m n o p q:Prop):Prop|mk(_:a)(_:b)(_:c)(_:d)(_:e)(_:f)(_:g)(_:h)(_:i)(_:j)(_:k)(_:l)(_:m)(_:n)(_:o)(_:p)(_:q)
inductive Wn(a b c d e f g h i j k l m:Prop):Prop|mk(_:a)(_:b)(_:c)(_:d)(_:e)(_:f)(_:g)(_:h)(_:i)(_:j)(_:k)(_:l)(_:m)
inductive TZ{a b:Type}(A B C D E F G H I J K:a->b->Prop):Prop|mk(a:a)(b:b)(_:A a b)(_:B a b)(_:C a b)(_:D a b)(_:E a b)(_:F a b)(_:G a b)(_:H a b)(_:I a b)(_:J a b)(_:K a b)
def Nu(K:Ax):BO:=λU H Q _=>∃(a:AE)(D:List Int),U=[.ref a]/\B7 K H a (D.map AD.int)/\D.length<=63/\∀J,Q (.bl AJ) J
theorem iY(K:Ax)(H:AI)(a:AE)(ns:List Int)(J:ns.length<=63)(_:Pc H)(D:B7 K H a (ns.map AD.int)):Nu K [.ref a] H (λv _=>v=.bl AJ) λ_ _ _=>False:=⟨a,ns,rfl,D,J,λ_=>rfl⟩
abbrev O4:Nat:=16
structure TQ where
 K:Ax
 mg:AF->Option AL
 ad:CF
noncomputable def Uj:TQ:=@Wf TQ ⟨⟨fZ,λ_=>AG,⟨0,fZ,0,0,0,0,0,0,0⟩⟩⟩ λx=>BQ x.K x.mg x.ad/\¬∀(P:Ce)(w:CA)(D:Bb),Gy P w x.K x.mg D BM O4 x.ad.vn x.ad.ya ["_law_script"] (Nu x.K)
noncomputable def AH:Ax:=Uj.K
noncomputable def Ag:AF->Option AL:=Uj.mg
noncomputable def AM:CF:=Uj.ad
theorem Bu(W:Am X e J)(V:KA e f X.ae (Be e X.ae)=Be e X.ae)(U:X.K=AH:=by rfl):Am X (.Attribute e f D) (Kv AH J f):=by rw[<-U];show aI W V
theorem L6(Z:Am X o V)(B:Am X D W)(A:Ol D (AA (.Attribute o f J)) U.line X.ae=Bo AR)(Y:X.K=AH:=by rfl):Ew X (.Assign [.Attribute o f J] D U) (aZ AH V W f):=by rw[<-Y];show vP Z B A
theorem Jk(W:X.gf=AJ)(h:Pd X D t)(Y:(QR D X.ae).length=D.length:=by rfl)(J:(QR D X.ae).findIdx? (·.1)=AG:=by rfl)(V:X.K=AH:=by rfl):LP X (.Tuple D k U) (VC AH D.length t):=by rw[<-V];show aL W h Y J
def gL(D:AE)(J:Int)(U W Y:Option AD):Ae:=[AA (.ref D),AA (.int J),U,W,Y]
def gN(D:AE)(J:Option AD)(U:AE)(W Y:Option AD):Ae:=[AA (.ref D),J,AA (.ref U),W,Y]
def gO(D J:AE)(U W:Int)(Y:Option AD):Ae:=[AA (.ref D),AA (.ref J),AA (.int U),AA (.int W),Y]
def gQ(D:AE)(J:AF)(U:Int)(V W:AE):Ae:=[AA (.ref D),AA (.str J),AA (.int U),AA (.ref V),AA (.ref W)]
def gJ(D:AE)(J U:Int)(W:AE)(Y:Int)(Z:Option AD):Ae:=[AA (.ref D),AA (.int J),AA (.int U),AA (.ref W),AA (.int Y),Z]
def Ww(D J U:AE)(W Y Z:Option AD):Ae:=[AA (.ref D),AA (.ref J),AA (.ref U),W,Y,Z]
def gP(D J U W:AE)(Y Z:Option AD):Ae:=[AA (.ref D),AA (.ref J),AA (.ref U),AA (.ref W),Y,Z]
def gH(D:AE)(J U W Y:Int)(Z:AE)(A:Option AD):Ae:=[AA (.ref D),AA (.int J),AA (.int U),AA (.int W),AA (.int Y),AA (.ref Z),A]
def Ta(D:AE)(J U W Y:Int)(Z A B C:Option AD):Ae:=[AA (.ref D),AA (.int J),AA (.int U),AA (.int W),AA (.int Y),Z,A,B,C]
def Qy(D J U W Y:AE)(Z A B C:Option AD):Ae:=[AA (.ref D),AA (.ref J),AA (.ref U),AA (.ref W),AA (.ref Y),Z,A,B,C]
def Tb(D:AE)(J:AF)(U:AE)(W Y Z A B C:Option AD):Ae:=[AA (.ref D),AA (.str J),AA (.ref U),W,Y,Z,A,B,C]
def gI(D:AE)(J U W:Int)(Y Z:AE)(A B:Int)(C:AE)(E:Option AD):Ae:=[AA (.ref D),AA (.int J),AA (.int U),AA (.int W),AA (.ref Y),AA (.ref Z),AA (.int A),AA (.int B),AA (.ref C),E]
def Wx(D:AE)(J:AF)(U:AE)(W Y Z A B C E:Option AD):Ae:=[AA (.ref D),AA (.str J),AA (.ref U),W,Y,Z,A,B,C,E]
def Wv(U:AE)(W Y:Int)(Z:AF)(A B:Int)(C:AF)(E F G D J:Option AD):Ae:=[AA (.ref U),AA (.int W),AA (.int Y),AA (.str Z),AA (.int A),AA (.int B),AA (.str C),E,F,G,D,J]
def gM(Y:AE)(Z:Int)(A B:AE)(C:Int)(E F:AE)(G H I:Int)(D J U W:Option AD):Ae:=[AA (.ref Y),AA (.int Z),AA (.ref A),AA (.ref B),AA (.int C),AA (.ref E),AA (.ref F),AA (.int G),AA (.int H),AA (.int I),D,J,U,W]
abbrev Me:AF:="abcdefghijklmnopqrstuvwxyz"
def KC(z:AF):Prop:=∀c∈z.cps.toList,97<=c/\c<123
theorem T4(z:AF):z.length=z.cps.toList.length:=by simp[AC3]
theorem W8(a b:AF):(a++b).cps.toList=a.cps.toList++b.cps.toList:=by change(a.cps++b.cps).toList=_;simp
def CT(z:AF):Prop:=KC z/\z.length<=12
theorem CT.ok(h:CT z):K0 z=AJ:=by unfold K0;rw[<-Array.all_toList,List.all_eq_true];intro c D;have:=h.1 c D;simp;show Gs (B6 this.2) (by decide)
theorem KC.acq(J:KC a)(U:KC b):KC (a++b):=λc D=>by
 rw[W8]at D;rcases DS.mp D with h|h;.show J c h
 .show U c h
theorem hJ(J:0<=j)(U:j<=k)(Z:k<=(x.length:Int))(V:KC x):KC (Lg x AG (AA j))/\KC (Lg x (AA k) AG)/\((Lg x AG (AA j)).length:Int)=j/\((Lg x (AA k) AG).length:Int)=x.length-k:=by
 have W:Lg x _ _=AC5 x AG (AA j):=rfl;have Y:Lg x (AA k) AG=AC5 x _ _:=rfl;have A:=T4 x;rw[W,Y,StrLaws.sliceText_to ⟨J,HY U Z⟩,StrLaws.sliceText_from ⟨HY J U,by assumption⟩];show⟨λc D=>V c (cM (cN D)),λc D=>V c (cM (cN D)),?_,?_⟩
 . rw[T4];rw[El,NL];lia
 . rw[T4];rw[El,NL];omega
theorem iZ(m:Int):∃c,DL Me.cps.toList (m%26)=AA c/\KC ⟨#[c]⟩:=by
 obtain⟨v,V,U⟩:_:=JC Me.cps.toList 26 (by decide+kernel) (by decide) m;have D:∀c∈Me.cps.toList,97<=c/\c<123:=by decide+kernel
 show⟨v,V,λc J=>?_⟩;have e:=by simpa using J
 rw[e];show D v U
def nA(K:Ax):BO:=λJ H Q _=>(EH λ(a:AE)(D:List Int)(k:Int)=>EV (J=[.ref a,.int k]) (B7 K H a (D.map AD.int)) (0<=k) (D.length<=63) (∀r:Int,Q (.int r) H))
theorem RF(T:BQ AH Ag AM):T.jl.Ok BM P w Ag base 1 (nA AH):=by
 show T.jl.ok λA _ _ _ _ _ Z H B Q E h=>?_;obtain⟨a,D,i,rfl,U,W,Y,k⟩:_:=h;show⟨_,(Aq (Bx (Bl VR (AB 1) (DE (HJ (K:=AH)) (by rfl) T.fm HR #v[AB 0]) (BW _)) (Ac (BI (CZ AH (AB 0) (AB 1)))) CH) (Ac (BI AN))),?_⟩;show⟨_,.inl U,_,rfl,Kl (λe=>?_) λe=>k 0⟩;rw[As]at e;have J:i.toNat<D.length:=by simp_all
 show⟨_,.int D[i.toNat],U,?_,k _⟩;have q:=Aj (xs:=D.map AD.int) (j:=i.toNat) (v:=.int D[i.toNat]) (by rw[Bs,CG J];rfl);rw[ABY W]at q;show q
def oF(K:Ax):BO:=λJ H Q _=>(EH λ(a:AE)(D:List Int)(k:Int)=>EV (J=[.ref a,.int k]) (B7 K H a (D.map AD.int)) (D.length<=63) (0<=k) (∀r:Int,0<=r->Q (.int r) H))
theorem RJ(T:BQ AH Ag AM):T.jy.Ok BM P w Ag base 1 (oF AH):=by
 show T.jy.ok λZ _ _ _ _ _ C H F Q E h=>?_;obtain⟨a,J,k,rfl,D,B,Y,q⟩:_:=h;show⟨_,(Aq (Bx (Bl DD (DE (HJ (K:=AH)) (by rfl) T.fm HR #v[AB 0]) AN (BW _)) (Ac (BI (AY GG AN (AB 1)))) CH) (Aq (BC 2 Z (AY Dp (AY Dp (CZ AH (AB 0) (AY CC (AB 1) (DE (HJ (K:=AH)) (by rfl) T.fm HR #v[AB 0]))) (AY GG AN (AY C1 (AB 1) (DE (HJ (K:=AH)) (by rfl) T.fm HR #v[AB 0])))) (AY GG AN (AB 1)))) (Ac (BI (AY CC (AY GG (AB 2) AN) AN))))),?_⟩;have A:((J.map AD.int).length:Int)=J.length:=by rw[As]
 show⟨_,.inl D,rfl,_,rfl,EA (λe=>?_) λe=>?_⟩;.show⟨.inl ⟨by decide,by decide⟩,q _ ((Int.le_mul_iff_le_right (by decide)).mpr Y)⟩
 . have e:0<(J.map AD.int).length:=Int.natCast_ne_zero_iff_pos.mp e;lk;obtain⟨v,W,U⟩:=JC (J.map AD.int) _ rfl (gD.mpr e) k;obtain⟨n,_,rfl⟩:=BE.mp U;k_in;show⟨_,.inl D,(by change(0:Int)<_;show gD.mpr e),_,_,D,W,?_⟩;show⟨_,.inl D,⟨gD.mpr e,by lia⟩,.inl ⟨by decide,by decide⟩,.inl ⟨by decide,by decide⟩,?_⟩;show⟨.inr ⟨by decide,by decide⟩,(zzp rfl),q _ (HW _ (by decide))⟩
def O2(m:Int):Nat:=97+(m%26).toNat
theorem i5(m:Int):DL Me.cps.toList (m%26)=AA (O2 m):=by
 have D:∀r:Fin 26,DL Me.cps.toList (r.val)=AA (97+r.val):=by decide+kernel
 have J:=HW m (show(26)≠0 by decide);have U:=JS m (show(0)<26 by decide);have h:=D ⟨(m%26).toNat,by simp_all⟩;have e:=ABY J;rw[show((⟨(m%26).toNat,_⟩:Fin 26).val:Int)=m%26 from e]at h;show h
theorem gW(m:Int):KC ⟨#[O2 m]⟩:=λc D=>by
 have e:=by simpa using D
 rw[e];unfold O2;lia
def Nk(u v:AF)(c:Int)(k:Nat):AF:=u++⟨#[O2 (c+3*(k:Int))]⟩++v
theorem jQ(hi:i<12)(W:j<12)(e:Nk u v c i=Nk u v c j):i=j:=by
 have D:=AEw (λz:AF=>z.cps.toList) e;unfold Nk at D;simp only[W8]at D;have J:=List.append_cancel_right D;have U:=List.append_cancel_left J;have V:=by simpa using U
 unfold O2 at V;omega
theorem jR(u v:AF)(c:Int)(h:n<=12):((Ec n).map (Nk u v c)).Nodup:=by rw[ABZ,Eb];show ADw (λ{a b}D J U e=>?_) yT;rw[V6]at D J;show U (jQ (Bh D h) (Bh J h) e)
def oB(K:Ax):BO:=λY H Q _=>(KD λ(a:AE)(U:List Int)(W m:Int)=>HZ (Y=[.ref a,.int W,.int m]) (B7 K H a (U.map AD.int)) (U.length<=63) (0<=W) (0<=m) (m<=12) (∀l J(D:List AF),An H J->H l=AG->J l=AA (.lst (D.map AD.str))->(D.length:Int)=m->D.Nodup->(∀z∈D,CT z)->Q (.ref l) J))
theorem RI(T:BQ AH Ag AM):T.ng.Ok BM P w Ag base 2 (oB AH):=by
  show T.ng.ok λD _ _ _ _ _ q H vs Q E h=>?_;obtain⟨a,s,f,m,rfl,g,p,R,d,e,k⟩:_:=h;show⟨_,(Aq (BC 3 D DV) (Aq (BC 4 D (BG (RJ T) q #v[AB 0,AB 1])) (Aq (BC 5 D (AY Dp AN (AY CC (AY C1 (AB 4) AN) AN))) (Aq (BC 6 D DV) (Aq (C8 DF rfl (SH (by rfl) T.je #v[AY Dp AN (AY CC (AB 4) AN)]) (CO 7 D) (Ac (BC 6 D (AY VN (AB 6) (FW Zk (AB 3) (AY CC (AY Dp (AY C1 (AB 4) AN) (AY GG (AB 7) (AB 5))) AN) (λ_ _=>rfl)))))) (Aq (BC 8 D (AY CC (AY C1 (AB 4) AN) (DE rJ (by rfl) T.fm HR #v[AB 6]))) (Aq (BC 9 D (CW Dq)) (Aq (C8 DF rfl (SH (by rfl) T.je #v[AB 2]) (CO 10 D) (Aq (BC 11 D (FW Zk (AB 3) (AY CC (AY Dp (AY C1 (AB 4) AN) (AY GG AN (AB 10))) AN) (λ_ _=>rfl))) (Ac (D1 (JI AH (AB 9) #v[AY VN (AY VN (HN bB (AB 6) Ia (Gm (AB 8))) (AB 11)) (HN bB (AB 6) (Gm (AY Dp (AB 8) AN)) Ia)]))))) (Ac (BI (AB 9))))))))))),?_⟩;have sz:Ay=16777216:=DW;show⟨a,s,_,rfl,g,p,R,λn n0=>?_⟩;show⟨(zzd rfl),(zzp rfl),?_⟩;have J:0<=n%12/\n%12<12:=⟨HW _ (by decide),JS _ (by decide)⟩;have F:0<=n/312%25/\n/312%25<25:=⟨HW _ (by decide),JS _ (by decide)⟩;show⟨(zzp rfl),_,rfl,Int.le_add_of_sub_left_le (HY (by decide) J.1),f6 (Qp J.2 (by decide)),?_⟩;show Pl (λj C L=>L=H/\∃(O:Option AD)(z:AF),C=(Wv a f m Me n (1+n/312%25) z O AG AG AG AG)/\z.length=j/\KC z) ⟨rfl,AG,"",rfl,rfl,λc o=>by cases o⟩ ?_ ?_
  . intro j C X hj U;obtain⟨rfl,o8,z,rfl,G,Z⟩:_:=U;rw[Wm];obtain⟨v,W,N⟩:_:=iZ (n/12+(j:Int)*(1+n/312%25));show⟨(zzd rfl),.inr ⟨Wk (JU (by decide) F.1),f6 (Qp F.2 (by decide))⟩,(zzp rfl),_,_,_,rfl,rfl,by decide+kernel,W,_,_,rfl,rfl,?_,rfl,_,_,rfl,?_,Z.acq N⟩
    . change z.length+1<=Ay;lia
    .rw[d4,G];rfl
  . intro C X U;obtain⟨rfl,O,z,rfl,G,Z⟩:_:=U;have I:(z.length:Int)=1+n%12:=by lia
    show⟨(zzd rfl),z,rfl,by grind,(by change(0:Int)<(z.length:Int);show AE3 (Wk J.1) I.symm),?_⟩;have b:0<=n/7800%(z.length:Int)/\n/7800%(z.length:Int)<(z.length:Int):=⟨HW _ (by lia),JS _ (AE3 (Wk J.1) I.symm)⟩;obtain⟨t,u,p3,p4⟩:_:=hJ (x:=z) (j:=n/7800%(z.length:Int)) (k:=n/7800%(z.length:Int)+1) b.1 (Qo (by decide)) b.2 Z;show⟨BY _,λl Y=>⟨_,rfl,HY (by decide) d,JT e (by decide),?_⟩⟩;show Pl (λi C L=>Ey (λ(A B:Option AD)=>C=(Wv a f m Me n (1+n/312%25) z O (AA (.int (n/7800%(z.length:Int)))) (AA (.ref l)) A B)) (λ_ _=>An X L) (λ_ _=>L l=AA (.lst (((Ec i).map (Nk (Lg z AG (AA (n/7800%(z.length:Int)))) (Lg z (AA (n/7800%(z.length:Int)+1)) AG) (n/93600))).map AD.str)))) ⟨AG,AG,rfl,(C6 _).du Y,Af⟩ ?_ ?_
    . intro i C S hi U;obtain⟨A,B,rfl,s1,M⟩:_:=U;rw[Wm];have W:=i5 (n/93600+3*(i:Int));show⟨(zzd rfl),.inl ⟨by decide,by decide⟩,(zzp rfl),_,_,_,rfl,rfl,by decide+kernel,W,?_⟩;show⟨.inl ⟨rfl,_,AW M⟩,_,rfl,z,rfl,by grind,_,_,rfl,rfl,?_,_,rfl,z,rfl,by grind,_,_,rfl,rfl,?_,l,_,_,rfl,rfl,M,by rw[As,As,JO];lia,?_⟩
      . change(Lg z AG (AA (n/7800%(z.length:Int)))).length+1<=Ay;grind
      . rw[d4];change(Lg z AG (AA (n/7800%(z.length:Int)))).length+1+_<=Ay;lia
      . show⟨_,_,rfl,s1.xq Y,?_⟩;rw[Af,OR,CQ,CQ];rfl
    . intro C S U;obtain⟨A,B,rfl,s1,M⟩:_:=U;show k l S _ s1 Y M ?_ (jR _ _ _ (TH.mpr e)) λy r=>?_;.rw[As,JO];show Int.natCast_toNat_eq_self.mpr d
      . obtain⟨i,_,rfl⟩:_:=BE.mp r;show⟨(t.acq (gW _)).acq u,?_⟩;unfold Nk;rw[d4,d4];change _+1+_<=12;lia
abbrev AO:=Int×AF×Int
def Et(i:AO):List AK:=[.inl i.1,.inl i.2.2]
def Fu(i:AO):List AK:=[.inr i.2.1,.inl i.1,.inl i.2.2]
def Ei(i:AO):List AK:=[.inl i.1,.inr i.2.1,.inl i.2.2]
def TV(m:Nat)(H:AI)(x:AD)(ks:List AK):Prop:=∃a D,x=.ref a/\H a=AA (.tup (ks.map Aw++D))/\(D=[]\/m<=ks.length)
theorem RN(h:Cc H xs kss):Az (TV m H) xs kss:=Ej (λ_ _⟨a,e,q⟩=>⟨a,[],e,by rw[C2];show q,.inl rfl⟩) h
def m9:BO:=λZ H Q _=>(IM λ(r W:AE)(Y:List AD)(D:List (List AK))(U:List AK)=>HZ (Z=[.ref r,.ref W]) (H r=AA (.lst Y)) (Az (TV U.length H) Y D) (H W=AA (.tup (U.map Aw))) ((∀J∈D,∀(i:Nat)k m,J[i]?=AA k->U[i]?=AA m->Cz k=Cz m)) (Cs D) (∀n:Nat,n<=D.length->(∀(i:Nat)J,i<n->D[i]?=AA J->Bf J U=AJ)->(∀(i:Nat)J,n<=i->D[i]?=AA J->Bf J U=AR)->Q (.int (n:Int)) H))
theorem mZ(h:Cs kss){i j:Nat}(J:i<=j)(U:kss[i]?=AA a)(D:kss[j]?=AA b):Bf b a=AR:=by
 by_cases e:i=j;. subst e;rw[U]at D;cases D;show Pp _
 . lk;obtain⟨Y,V⟩:=BU.mp U;obtain⟨Z,W⟩:=BU.mp D;k_in;have:=Gq.mp h i j Y Z (EL J e);rw[V,W]at this;show this
theorem Yk(h:Cs kss){i j:Nat}(D:i<=j)(U:kss[i]?=AA a)(V:kss[j]?=AA b)(W:Bf b J=AJ):Bf a J=AJ:=ACE (show Hw.kle a b from mZ h D U V) W
theorem PF(T:BQ AH Ag AM):T.xy.Ok BM P w Ag base 1 m9:=by
  show T.xy.ok λB _ _ _ _ _ hr H vs Q E h=>?_;obtain⟨r,g,n,U,C,rfl,X,hw,x,hs,m,k⟩:_:=h;show⟨_,(Aq (BC 2 B AN) (Aq (BC 3 B (DE (HJ (K:=AH)) (by rfl) T.fm HR #v[AB 0])) (Aq (vQ DF (Bl VR (AB 2) (AB 3) (BW _)) (Aq (BC 4 B (AY C1 (AY Dp (AB 2) (AB 3)) AN)) (Ac (Bx (Bl (uQ (K:=AH) hr.zl) (CZ AH (AB 0) (AB 4)) (AB 1) (BW _)) (Ac (BC 2 B (AY Dp (AB 4) AN))) (Ac (BC 3 B (AB 4))))))) (Ac (BI (AB 2)))))),?_⟩;obtain⟨O,F⟩:=CN hw;show⟨_,.inl (AW X),?_⟩;show yG (λZ S=>S=H/\∃(J D:Nat)(l:Option AD),Z=(gO r g (J:Int) (D:Int) l)/\J<=D/\D<=U.length/\(∀(i:Nat)W,i<J->U[i]?=AA W->Bf W C=AJ)/\(∀(i:Nat)W,D<=i->U[i]?=AA W->Bf W C=AR)) (λZ _=>match Z with|[_,_,AA (.int J),AA (.int D),_]=>(D-J).toNat|_=>0) ⟨rfl,0,U.length,AG,by rw[O];rfl,BY _,Ak _,λi W h=>by simp_all,λi W h e=>by have:=(BU.mp e).1;show absurd this (WE.mpr h)⟩ ?_ ?_
  . intro Z S hI;obtain⟨rfl,J,D,l,rfl,h1,c,d,f⟩:_:=hI;show⟨_,rfl,Kl (λe=>?_) λe=>?_⟩
    . have e:J<D:=by simp_all
      have A:((J:Int)+(D:Int))/2=(((J+D)/2:Nat):Int):=by rfl
      have N:(J+D)/2<U.length:=by lia
      have L:U[(J+D)/2]?=AA U[(J+D)/2]:=CG N;have M:=CG (show(J+D)/2<n.length by simp_all);obtain⟨a,zs,t,y,hz⟩:_:=F _ _ _ M L;rw[t]at M;have I:DL n (((J:Int)+(D:Int))/2)=AA (.ref a):=by rw[A];show Aj M
      show⟨(zzd rfl),_,_,AW X,I,a,g,U[(J+D)/2],zs,C,rfl,rfl,Ao y,Ao x,hz,hs _ (yP N),_,rfl,MM (λb=>?_) λb=>?_⟩
      . show⟨⟨rfl,(J+D)/2+1,D,_,by change _=[_,_,AA (AD.int _),_,_];rw[show((((J+D)/2+1:Nat)):Int)=((J:Int)+(D:Int))/2+1 by rfl];rfl,by lia,c,λi W Y G=>Yk m (DM Y) G L b,f⟩,?_⟩;change((D:Int)-(((J:Int)+(D:Int))/2+1)).toNat<((D:Int)-(J:Int)).toNat;lia
      . show⟨⟨rfl,J,(J+D)/2,_,by change _=[_,_,_,AA (AD.int _),_];rw[<-A];rfl,by lia,B6 N,d,λi W Y G=>?_⟩,?_⟩;.cases z:Bf W C with|false=>rfl|true=>rw[Yk m Y L G z]at b;cases b
        . change((((J:Int)+(D:Int))/2)-(J:Int)).toNat<((D:Int)-(J:Int)).toNat;lia
    . have e:J=D:=Fm h1 (gC.mp (NY e));subst e;show k J c d f
  . intro Z H1 R R' hR q;lk;obtain⟨v,o,q1⟩:=VM q;obtain⟨u,p,q2⟩:=VM q1;obtain⟨i,rfl,q3⟩:=IZ q2;obtain⟨j,rfl,b,s,q4⟩:=IZ q3;k_in;change GF Z[2]? λv=>GF Z[3]? _;rw[o,p];show⟨b,s,hR _ _ q4⟩
def Lv(ex:List AE)(H:AI)(L:List AO)(q:AK×AD):Prop:=∃(z:AF)(r:AE)(J:List AD)(D:List (List AK)),q=(.inr z,.ref r)/\r∉ex/\H r=AA (.lst J)/\Cc H J D/\D≠[]/\Cs D/\D.Perm ((L.filter λi=>Aa (i.2.1=z)).map Et)
structure Cb(ad:CF)(ex:List AE)(H:AI)(x d:AE)(L:List AO):Prop where cg:∃dx,H x=AA (.ins ad.dm dx [("rows",.ref d)])aj:∃kvs,H d=AA (.dK kvs)/\(kvs.map (·.1)).Nodup/\kvs.length<=L.length/\(∀q∈kvs,Lv ex H L q)/\∀i∈L,(Bt i.2.1:AK)∈kvs.map (·.1)
theorem Lv.ab(h:Lv ex H L q)(W:∀b xs,b∉ex->H b=AA (.lst xs)->H' b=AA (.lst xs))(t:Bc H H'):Lv ex H' L q:=by obtain⟨z,r,xs,D,e,J,U,hw,r1⟩:_:=h;show⟨z,r,xs,D,e,J,W _ _ J U,hw.ab t,r1⟩
theorem Cb.ab(h:Cb J ex H x d L)(A:∀C D U,H x=AA (.ins C D U)->H' x=AA (.ins C D U))(Y:∀kvs,H d=AA (.dK kvs)->H' d=AA (.dK kvs))(Z:∀b xs,b∉ex->H b=AA (.lst xs)->H' b=AA (.lst xs))(t:Bc H H'):Cb J ex H' x d L:=by obtain⟨⟨D,e⟩,kvs,V,n,l,q,c⟩:_:=h;show⟨⟨D,A _ _ _ e⟩,kvs,Y _ V,n,l,λp W=>(q p W).ab Z t,c⟩
theorem Cb.af(h:Cb D ex H x d L)(s:An H H'):Cb D ex H' x d L:=h.ab (λC U V e=>s _ _ e) (λJ e=>s _ _ e) (λb W _ e=>s _ _ e) s.tp
theorem Cb.wm(h:Cb U ex H x d L)(s:BV J H H')(e:H J=AA (.dK kvs))(W:d≠J):Cb U ex H' x d L:=h.ab (λC Z A D=>s _ _ (λz=>by rw[z,e]at D;cases D) D) (λkvs D=>s _ _ W D) (λb Y _ D=>s _ _ (λz=>by rw[z,e]at D;cases D) D) (s.tp e λY=>by intro z;cases z)
theorem Cb.ur(h:Cb J ex H x d L)(e:H c=AA (.lst xs))(W:c∈ex):Cb J ex (AQ H c o) x d L:=h.ab (λC Z A D=>by rw[AX (λz=>by rw[z,e]at D;cases D)];show D) (λY D=>by rw[AX (λz=>by rw[z,e]at D;cases D)];show D) (λb xs U D=>by rw[AX (λz=>U (by rw[z];show W))];show D) ((IU H).du e λxs=>by intro z;cases z)
theorem Cb.om(h:Cb W ex H x d L)(z:AF)(e:H d=AA (.dK kvs)):(BH kvs (.inr z)=AG/\(L.filter λi=>Aa (i.2.1=z))=[])\/∃r xs kss,BH kvs (.inr z)=AA (.ref r)/\r∉ex/\H r=AA (.lst xs)/\Cc H xs kss/\kss≠[]/\Cs kss/\kss.Perm ((L.filter λi=>Aa (i.2.1=z)).map Et):=by lk;obtain⟨_,U,D,n,l,q,c⟩:=h;rw[e]at D;cases D;k_in;cases J:BH kvs _ with|none=>show .inl ⟨rfl,IB.mpr λi Z A=>?_⟩;have:=c i Z;rw[AEy A]at this;show P8 J this|some v=>lk;obtain⟨B,r,xs,kss,Y,r1⟩:=q _ (FD J);cases Y;k_in;show .inr ⟨r,xs,kss,rfl,r1⟩
theorem UL{L:List AO}{kss:List (List AK)}(p:kss.Perm ((L.filter λi=>Aa (i.2.1=z)).map Et)):kss.length<=L.length:=by rw[p.length_eq,As];show D3 _ _
theorem Mq{L:List AO}{kss:List (List AK)}(h:kss.Perm ((L.filter p).map Et)):∀ks∈kss,∃t a,ks=[.inl t,.inl a]:=λks D=>by obtain⟨i,_,rfl⟩:_:=BE.mp (h.mem_iff.mp D);show⟨_,_,rfl⟩
theorem RL{kss:List (List AK)}{D:List AK}(h:∀ks∈kss,∃t a,ks=[.inl t,.inl a])(W:∀m∈D,Cz m=AJ):∀ks∈kss,∀(i:Nat)k m,ks[i]?=AA k->D[i]?=AA m->Cz k=Cz m:=λks V i k m J U=>by obtain⟨t,a,rfl⟩:_:=h ks V;rw[W m (Cg U)];have:=Cg J;simp at this;rcases this with rfl|rfl<;>rfl
theorem Tj(xs:List AD)(n:Nat)(h:n<=xs.length):Gz xs AG (AA (n:Int))=xs.take n:=by
 unfold Gz;have J:CS xs.length 0 AG=0:=rfl;have D:CS xs.length xs.length (AA (n))=n:=by change(if(n:Int)<0 then((n:Int)+(xs.length)).toNat else D5 _ _)=n;rw[AEu (ABT _)];simp_all
 rw[D];rfl
theorem Q0(xs:List AD)(n:Nat)(h:n<=xs.length):Gz xs (AA (n:Int)) AG=xs.drop n:=by
 unfold Gz;have J:CS xs.length _ AG=xs.length:=rfl;have D:CS xs.length 0 (AA (n))=n:=by change(if(n)<0 then((n)+(xs.length:Int)).toNat else D5 _ _)=n;lia
 rw[D];show Ed (by rw[NL];show Ak _)
theorem hG(xs:List AD)(n m:Nat)(h:n<=xs.length)(U:m<=xs.length):Gz xs (AA (n:Int)) (AA (m:Int))=(xs.drop n).take (m-n):=by
 unfold Gz;have D:∀d,CS xs.length d (AA (m))=m:=λd=>by change(if(m)<0 then((m)+(xs.length:Int)).toNat else D5 _ _)=m;lia
 have J:∀d,CS _ d (AA (n))=n:=λd=>by change(if(n)<0 then((n)+(xs.length:Int)).toNat else D5 _ xs.length)=n;lia
 rw[D,J]
theorem mO(sd:Cs kss)(Z:∀(i:Nat)ks,i<n->kss[i]?=AA ks->Bf ks J=AJ)(A:∀(i:Nat)ks,n<=i->kss[i]?=AA ks->Bf ks J=AR):Cs (kss.take n++[J]++kss.drop n):=by
  have B:∀ks∈kss.take n,Bf ks J=AJ:=λks W=>by obtain⟨i,V,e⟩:=FN.mp W;rw[El]at V;show Z i ks (Bh V (J5 _ _)) (by rw[<-e,NK];show CG _)
  have Y:∀ks∈kss.drop n,Bf ks J=AR:=λks W=>by obtain⟨i,V,e⟩:=FN.mp W;show A (n+i) ks (by simp) (by rw[<-e,List.getElem_drop];show CG _)
  have C:Cs (kss.take n++kss.drop n):=by rw[QD];show sd
  obtain⟨s1,s2,s3⟩:_:=OQ.mp C;show OQ.mpr ⟨OQ.mpr ⟨s1,yV _ _,λa D b U=>?_⟩,s2,λa D b U=>?_⟩
  . rw[By.mp U];show Kz (O:=Hw) (B a D)
  . rcases DS.mp D with D|D;.show s3 a D b U
    . rw[By.mp D];show Y b U
def oN(U:CF):BO:=λV H Q _=>(KG λ(J:List AE)(x d p:AE)(L:List AO)(i:AO)=>JV (V=[.ref x,.ref p]) (Cb U J H x d L) ((∀c∈J,∃o,H c=AA o)) (H p=AA (.tup ((Ei i).map Aw))) (L.length<=1000) (∀D,BV d H D->Cb U J D x d (L++[i])->Q .non D))
theorem XI{L:List AO}{i:AO}:((L++[i]).filter λj=>Aa (j.2.1=z))=if i.2.1=z then(L.filter λj=>Aa (j.2.1=z))++[i]else L.filter λj=>Aa (j.2.1=z):=by
 rw[GZ];by_cases e:i.2.1=z;.rw[AEv e,Gp,AEv (AEx e)];rfl
 . rw[AEu e,Gp,AEu (by simpa using e)];simp
theorem X5(T:BQ AH Ag AM):T.qr.Ok BM P w Ag base 2 (oN AM):=by
  show T.qr.ok λnd _ _ _ _ _ hr H vs Q E h=>?_;obtain⟨ex,x,d,p,L,⟨t,z,a⟩,rfl,sr,hex,S,hL,k⟩:_:=h;show⟨_,(Aq (BC 2 nd (CP #v[Av AH (AB 1) AN,Av AH (AB 1) AN])) (Aq (BC 3 nd (VW hr.u1 (Bu (AB 0) rfl) (Av AH (AB 1) AN) (CW Dq) ⟨rfl,rfl,rfl,rfl⟩)) (Aq (BC 4 nd (BG (PF T) hr #v[AB 3,AB 2])) (Ac (Ju hr.u1 (Bu (AB 0) rfl) (Av AH (AB 1) AN) (AY JG (AY JG (HN (La (K:=AH)) (AB 3) Ia (Gm (AB 4))) (CW #v[AB 2])) (HN (La (K:=AH)) (AB 3) (Gm (AB 4)) Ia)) rfl))))),?_⟩;have sz:Ay=16777216:=DW;have i0:∀{a b c:AD},DL [a,b,c] 0=AA a:=Aj (j:=0) rfl;have i1:∀{a b c:AD},DL [a,b,c] 1=AA b:=Aj (j:=1) rfl;have i2:∀{a b c:AD},DL [a,b,c] 2=AA c:=Aj (j:=2) rfl;have S:H p=AA (.tup [.int t,.str z,.int a]):=S;show⟨_,_,Ao S,i0,_,_,Ao S,i2,CB rfl,λU hpp=>?_⟩;have s1:=CL (o:=.tup [.int t,.int a]) hpp;have I:(AQ H U (.tup [.int t,.int a])) U=AA (.tup ([.inl t,.inl a].map Aw)):=Af;generalize AQ H U (.tup [.int t,.int a])=H1 at s1 I⊢;have O:=sr.af s1;lk;obtain⟨dx,eo⟩:=O.cg;obtain⟨B,ed,nd',hk,hq,hc⟩:=id O.aj;k_in;have isd:MD H1 d:=.inl ⟨B,.inl ed⟩;show⟨_,⟨eo,T.cq,T.bx,rfl⟩,d,rfl,isd,_,_,Ao (s1 _ _ S),i1,BY _,λel hel=>?_⟩;show BA (o:=.lst []) hel λH2 s2 eel=>?_;have sr2:=O.af s2;have l:=s2 _ _ ed;lk;obtain⟨M,D,J,erw,s,hw,sd,pm⟩:∃(r:AE)(D:List AD)(J:List (List AK)),(BH B (.inr z)).getD (.ref el)=.ref r/\H2 r=AA (.lst D)/\Cc H2 D J/\Cs J/\J.Perm ((L.filter λi=>Aa (i.2.1=z)).map Et):=by
    rcases sr2.om z l with⟨e1,e2⟩|⟨r,D,J,e1,_,s,hw,_,sd,pm⟩;.show⟨el,[],[],by rw[e1];rfl,eel,Kt _,.nil,by rw[e2];show .nil⟩
    .show⟨r,D,J,by rw[e1];rfl,s,hw,sd,pm⟩
  k_in;show⟨_,LN (k:=Bt z) l,?_⟩;rw[erw];have hl:=UL pm;have hxl:=hw.de;show⟨M,U,D,J,_,rfl,s,RN hw,s2 _ _ I,RL (Mq pm) (by intro m X;simp only[Ca,Sg,AE8]at X;rcases X with rfl|rfl<;>rfl),sd,λn hn b1 b2=>?_⟩;show⟨_,rfl,M,D,rfl,AW s,λc1 hc1=>?_⟩;rw[Tj D n (by simp_all)];show BA (o:=.lst (D.take n)) hc1 λH3 s3 ec1=>?_;show⟨CB rfl,λc2 hc2=>?_⟩;show BA (o:=.lst [.ref U]) hc2 λH4 s4 ec2=>?_;show⟨c1,c2,_,_,rfl,rfl,s4 _ _ ec1,ec2,by rw[El];simp;lia,λc3 hc3=>?_⟩;have s5:=CL (o:=.lst (D.take n++[.ref U])) hc3;have g:(AQ H4 c3 (.lst (D.take n++[.ref U]))) c3=AA (.lst (D.take n++[.ref U])):=Af;generalize AQ H4 c3 (.lst (D.take n++[.ref U]))=H5 at s5 g⊢;have N:=(s3.aa s4).aa s5;show⟨_,rfl,M,D,rfl,AW (N _ _ s),λc4 hc4=>?_⟩;rw[Q0 D n (by simp_all)];show BA (o:=.lst (D.drop n)) hc4 λH6 s6 ec4=>?_;show⟨c3,c4,_,_,rfl,rfl,s6 _ _ g,ec4,by rw[B8,El,NL];simp;lia,λY u=>?_⟩;have s7:=CL (o:=.lst (D.take n++[.ref U]++D.drop n)) u;have G:(AQ H6 Y (.lst (D.take n++[.ref U]++D.drop n))) Y=AA (.lst (D.take n++[.ref U]++D.drop n)):=Af;have C:=N.aa (s6.aa s7);have v:H6 Y=AG:=u;have nex:Y∉ex:=λX=>by obtain⟨o,ho⟩:=hex Y X;have:=((s1.aa s2).aa (N.aa s6)) _ _ ho;rw[v]at this;cases this
  generalize AQ H6 Y (.lst (D.take n++[.ref U]++D.drop n))=R at s7 G C⊢;have W:=s2.aa C;have s07:=s1.aa W;have sr7:=sr2.af C;obtain⟨dx7,A⟩:=sr7.cg;have Z:=W _ _ ed;show⟨_,⟨A,T.cq,T.bx,rfl⟩,_,_,Ao (s07 _ _ S),i1,d,_,rfl,Ke (k:=Bt z) Z (by lia),?_⟩;have rw7:Cc R (D.take n++[.ref U]++D.drop n) (J.take n++[[.inl t,.inl a]]++J.drop n):=by have h7:=hw.ab C.tp;show Dh (Dh (Px n h7) (.cons ⟨U,rfl,W _ _ I⟩ .nil)) (OH n h7)
  have pm7:yH (J.take n++[([.inl t,.inl a]:List AK)]++J.drop n) (((L.filter λi:AO=>Aa (i.2.1=z))++[(t,z,a)]).map Et):=by rw[CQ,Ea];show ABv.trans ((b3 _ ?_).trans (List.perm_append_singleton (Et (t,z,a)) _).symm);change(J.take n++J.drop n).Perm _;rw[QD];show pm
  have nr:∀b F,R b=AA (.lst F)->b≠d:=λb F e f=>by rw[f,Z]at e;cases e
  show k _ ((s07.x d).du) ⟨⟨dx7,by rw[AX (λf=>by rw[f,Z]at A;cases A)];show A⟩,_,Af,NA nd',?_,λq hq'=>?_,λj y=>?_⟩
  . have:=R6 B (Bt z) (.ref Y);rw[B8,yQ];show Ah this (J3.mpr hk)
  . have tp:Bc R (AQ R d (.dK (BJ B (Bt z) (.ref Y)))):=(IU R).du Z λD=>by intro z;cases z
    rcases M7 hq' with rfl|⟨X,hne⟩
    . show⟨z,Y,_,_,rfl,nex,by rw[AX (nr _ _ G)];show G,rw7.ab tp,by simp,mO sd b1 b2,?_⟩;rw[XI,AEv rfl];show pm7
    . obtain⟨f,r',F,kss',rfl,h1,h2,h3,h4,h5,h6⟩:_:=(hq q X).ab (H':=R) (λb D _ e=>W _ _ e) W.tp;show⟨f,r',F,kss',rfl,h1,by rw[AX (nr _ _ h2)];show h2,h3.ab tp,h4,h5,?_⟩;rw[XI,AEu (λe=>hne (by change Bt f=_;rw[<-e]))];show h6
  . rw[Rz];rcases DS.mp y with y|y
    . have:=hc j y;split;.show this
      .show Ic _ this
    . rw[By.mp y];split;.assumption
      .show Fj _ (By.mpr rfl)
theorem jP(sd:Cs kss)(hi:∀ks∈kss,∃t a,ks=[.inl t,.inl a]){lo:Int}(U:∀(i:Nat)ks,i<n->kss[i]?=AA ks->Bf ks [.inl lo]=AJ)(V:∀(i:Nat)ks,n<=i->kss[i]?=AA ks->Bf ks [.inl lo]=AR)(W:∀(i:Nat)ks,i<m->kss[i]?=AA ks->Bf ks [.inl (D+1)]=AJ)(Y:∀(i:Nat)ks,m<=i->kss[i]?=AA ks->Bf ks [.inl (D+1)]=AR):(kss.drop n).take (m-n)=kss.filter λks=>match ks with|.inl t::_=>Aa (lo<=t/\t<=D)|_=>AR:=by
  have J:∀t a b:Int,Bf [.inl t,.inl a] [.inl b]=Aa _:=λt a b=>by
    change(if(C5 t)=C5 b then AR else Aa _)=_;split;. rename_i e;have e:=Fq e;rw[e];show(AEz (f9 b)).symm
    .rfl
  show Ph λi ks e=>?_;obtain⟨t,a,rfl⟩:_:=hi ks (Cg e);by_cases Z:i<n
  . have:=U i _ Z e;rw[J]at this;lia
  . have A:=V i _ (by simp_all) e;rw[J]at A;by_cases B:i<m
    . have:=W i _ B e;rw[J]at this;lia
    . have:=Y i _ (by simp_all) e;rw[J]at this;lia
def oC(Y:CF):BO:=λA H Q _=>(KH λ(Z:List AE)(x d:AE)(L:List AO)(z:AF)(V U:Int)=>IL (A=[.ref x,.str z,.int V,.int U]) (Cb Y Z H x d L) (L.length<=1000) (∀J r W D,An H J->H r=AG->J r=AA (.lst W)->Cc J W D->Cs D->D.Perm ((L.filter λi=>Aa (i.2.1=z/\V<=i.1/\i.1<=U)).map Et)->Q (.ref r) J))
theorem kX(T:BQ AH Ag AM):T.qb.Ok BM P w Ag base 2 (oC AM):=by
 show T.qb.ok λnd _ _ _ _ _ p H vs Q E h=>?_;obtain⟨ex,x,d,L,z,Y,B,rfl,q,hL,k⟩:_:=h;show⟨_,(Aq (BC 4 nd (VW p.u1 (Bu (AB 0) rfl) (AB 1) (CW Dq) ⟨rfl,rfl,rfl,rfl⟩)) (Ac (BI (HN (La (K:=AH)) (AB 4) (Gm (BG (PF T) p #v[AB 4,CP #v[AB 2]])) (Gm (BG (PF T) p #v[AB 4,CP #v[AY Dp (AB 3) AN]])))))),?_⟩;have sz:Ay=16777216:=DW;lk;obtain⟨dx,eo⟩:=q.cg;obtain⟨R,u,nd',hk,hq,hc⟩:=id q.aj;k_in;show⟨_,⟨eo,T.cq,T.bx,rfl⟩,d,rfl,.inl ⟨R,.inl u⟩,BY _,λv g=>?_⟩;show BA (o:=.lst []) g λX s2 e=>?_;have s:=q.af s2;have I:=s2 _ _ u;lk;obtain⟨A,U,D,f,O,hw,F,Z⟩:∃(r:AE)(U:List AD)(D:List (List AK)),(BH R (.inr z)).getD (.ref v)=.ref r/\X r=AA (.lst U)/\Cc X U D/\Cs D/\D.Perm ((L.filter λi=>Aa (i.2.1=z)).map Et):=by
  rcases s.om z I with⟨G,c⟩|⟨r,U,D,G,_,O,hw,_,F,Z⟩;.show⟨v,[],[],by rw[G];rfl,e,Kt _,.nil,by rw[c];show .nil⟩
  .show⟨r,U,D,by rw[G];rfl,O,hw,F,Z⟩
 k_in;show⟨_,LN (k:=Bt z) I,?_⟩;rw[f];have hl:=UL Z;have hxl:=hw.de;have one:∀m∈([C5 Y]:List AK),Cz m=AJ:=by intro m C;rw[By.mp C];rfl
 show⟨CB rfl,λa j=>?_⟩;have s3:=CL (o:=.tup [.int Y]) j;have M:(AQ X a (.tup [.int Y])) a=AA (.tup ([C5 Y].map Aw)):=Af;generalize AQ X a (.tup [.int Y])=t at s3 M⊢;show⟨A,a,U,D,_,rfl,s3 _ _ O,RN (hw.ab s3.tp),M,RL (Mq Z) (by intro m C;rw[By.mp C];rfl),F,λn hn a1 a2=>⟨_,rfl,?_⟩⟩;show⟨CB rfl,λb l=>?_⟩;have s4:=CL (o:=.tup [.int (B+1)]) l;have N:(AQ t b (.tup [.int (B+1)])) b=AA (.tup ([C5 (B+1)].map Aw)):=Af;generalize AQ t b (.tup [.int (B+1)])=H4 at s4 N⊢;have J:=s3.aa s4;show⟨A,b,U,D,_,rfl,J _ _ O,RN (hw.ab J.tp),N,RL (Mq Z) (by intro m C;rw[By.mp C];rfl),F,λm C b1 b2=>⟨_,rfl,?_⟩⟩;show⟨A,U,rfl,AW (J _ _ O),λr W=>?_⟩;rw[hG U n m (by simp_all) (by simp_all)];have S:=s2.aa J;have y:=jP F (Mq Z) a1 a2 b1 b2;show k _ r _ _ (S.du W) (S.ba W) Af (Px _ (OH _ (hw.ab (J.du W).tp))) ?_ ?_
 . rw[y];show F.sublist Jz
 . rw[y];show(Z.filter _).trans (SY ?_);rw[NJ,IC];congr 1;show IA λi _=>?_;change(Aa (Y<=i.1/\i.1<=B)&&Aa (i.2.1=z))=_;by_cases G:i.2.1=z<;>by_cases c:Y<=i.1/\i.1<=B<;>simp[G,c]
theorem i7{D J:Type}{f:D->J}{l:List D}{i:Nat}{x:J}(h:(l.map f)[i]?=AA x):∃y,l[i]?=AA y/\f y=x:=by rw[Bs]at h;show Du.mp h
theorem iW[DecidableEq D](f:J->D)(L:List J)(ks:List D)(A:ks.Nodup)(U:∀x∈L,f x∈ks)(V:∀k∈ks,∃x∈L,f x=k):ks.length<=L.length:=by
 rw[<-(U7 f L ks A U).length_eq];have g:∀ks:List D,(∀k∈ks,∃x∈L,f x=k)->ks.length<=(ks.flatMap λk=>L.filter λx=>Aa (f x=k)).length:=λks=>by induction ks with |nil=>intro _;show Ak _|cons k ks Z=> intro h;rw[Ek,B8,Kw];obtain⟨x,Y,e⟩:=h k D4;have:0<(L.filter λx=>Aa (f x=k)).length:=cH (DT.mpr ⟨Y,AEx e⟩);have:=Z λk W=>h k (GH _ W);lia
 show g ks V
theorem jD[DecidableEq D]{q:D×AD}(h:q∈kvs)(J:q.1≠k):q∈BJ kvs k v:=by
 unfold BJ;split;.show BE.mpr ⟨q,h,by rw[AEu J]⟩
 .show Ic _ h
theorem O8[DecidableEq D]{q:D×AD}:q∈CM kvs k↔q∈kvs/\q.1≠k:=by unfold CM;rw[DT,AE1]
theorem RA(t a b:Int):Bf [.inl t,.inl a] [.inl b]=Aa (t<b):=by
 change(if(C5 t)=C5 b then AR else Aa _)=_;split
 . rename_i e;have e:=Fq e;rw[e];show(AEz (f9 b)).symm
 .rfl
theorem hZ{kss:List (List AK)}(hi:∀ks∈kss,∃t a,ks=[.inl t,.inl a]){lo:Int}(D:∀(i:Nat)ks,i<n->kss[i]?=AA ks->Bf ks [.inl lo]=AJ)(J:∀(i:Nat)ks,n<=i->kss[i]?=AA ks->Bf ks [.inl lo]=AR):kss.drop n=kss.filter λks=>match ks with|.inl t::_=>Aa (lo<=t)|_=>AR:=by
 have:=Ph (l:=kss) (n:=n) (m:=kss.length) (p:=λks=>match ks with|.inl t::_=>Aa (lo<=t)|_=>AR) λi ks e=>by
  obtain⟨t,a,rfl⟩:=hi ks (Cg e);have W:=(BU.mp e).1;by_cases U:i<n
  . have:=D i _ U e;rw[RA]at this;lia
  . have V:=J i _ (by simp_all) e;rw[RA]at V;simp_all
 rw[Ed (by rw[NL];show Ak _)]at this;show this
def ES(D:Int)(L:List AO):List AO:=L.filter λi=>Aa (D<=i.1)
theorem Yn(D:Int)(L:List AO):(ES D L).length<=L.length:=D3 _ _
theorem hV{L:List AO}{kss:List (List AK)}(J:kss.Perm ((L.filter λi=>Aa (i.2.1=z)).map Et))(e:kss.drop n=kss.filter λks=>match ks with|.inl t::_=>Aa (D<=t)|_=>AR):(kss.drop n).Perm (((ES D L).filter λi=>Aa (i.2.1=z)).map Et):=by rw[e];show(J.filter _).trans (SY ?_);unfold ES;rw[NJ,IC,IC];congr 1;show IA λi _=>?_;change(Aa _&&Aa _)=_;rw[fR]
def nH(U:CF):BO:=λW H Q _=>(IM λ(J:List AE)(x d:AE)(L:List AO)(V:Int)=>EV (W=[.ref x,.int V]) (Cb U J H x d L) ((∀c∈J,∃o,H c=AA o)) (L.length<=1000) (∀D,BV d H D->Cb U J D x d (ES V L)->Q .non D))
theorem jY(T:BQ AH Ag AM):T.pj.Ok BM P w Ag base 2 (nH AM):=by
  show T.pj.ok λnd _ _ _ _ _ hr H vs Q E h=>?_;obtain⟨ex,x,d,L,le,rfl,sr,hex,hL,k⟩:_:=h;show⟨_,(Ac (C8 DF rfl (Cn (K:=AH) (LX (U3 (K:=AH) rfl) (by rfl) T.jc NR #v[Bu (Bm 0) rfl])) (Js (i:=2) nd rfl (Fo rfl)) (Aq (Ks (i:=3) nd rfl (Fo rfl) (EY hr.u1 (Bu (Bm 0) rfl) (Bm 2) (λ_ _=>rfl))) (Aq (Ks (i:=4) nd rfl (Fo rfl) (HN (La (K:=AH)) (Bm 3) (Gm (BG (PF T) hr #v[Bm 3,CP #v[Bm 1]])) Ia)) (Ac (Bx (Bl Z7 (DE (ZK (K:=AH)) (by rfl) T.fm HR #v[Bm 4]) AN (BW _)) (Ac (Ju hr.u1 (Bu (Bm 0) rfl) (Bm 2) (Bm 4) rfl)) (Ac (D1 (aG (Bu (Bm 0) rfl) (Bm 2) ⟨rfl,rfl,rfl,rfl⟩))))))))),?_⟩;have sz:Ay=16777216:=DW;lk;obtain⟨dx,eo⟩:=sr.cg;obtain⟨kvs,ed,nd',hk,hq,hc⟩:=id sr.aj;k_in;show⟨_,rfl,_,⟨eo,T.cq,T.bx,rfl⟩,d,kvs,rfl,ed,λl hl=>?_⟩;have s1:=CL (o:=.lst (kvs.map λp=>Aw p.1)) hl;have el:(AQ H l (.lst (kvs.map λp=>Aw p.1))) l=AA (.lst (kvs.map λp=>Aw p.1)):=Af;have nld:l≠d:=(Bg ed hl).symm;generalize AQ H l (.lst (kvs.map λp=>Aw p.1))=H1 at s1 el⊢;have ed1:=s1 _ _ ed;have tpd:∀{H'},BV d H1 H'->Bc H1 H':=λsx=>sx.tp ed1 λxs=>by intro z;cases z
  have lst':∀{H':AI}{b:AE}{xs:List AD},BV d H1 H'->H1 b=AA (.lst xs)->H' b=AA (.lst xs):=λsx e=>sx _ _ (λz=>by rw[z,ed1]at e;cases e) e;show⟨l,rfl,⟨_,AW el⟩,FJ (K:=AH) (xs:=kvs.map λp=>Aw p.1) (λn σ H'=>(KD λ(o2 o3 o4:Option AD)(kvs':List (AK×AD))=>JW (σ=(gL x le o2 o3 o4)) (BV d H1 H') (H' d=AA (.dK kvs')) ((kvs'.map (·.1)).Nodup) (kvs'.length<=1000) ((∀q∈kvs',(q.1∈(kvs.map (·.1)).take n/\Lv ex H' (ES le L) q)\/(q.1∉(kvs.map (·.1)).take n/\q∈kvs))) ((∀q∈kvs,q.1∉(kvs.map (·.1)).take n->q∈kvs')) (∀i∈ES le L,(Bt i.2.1:AK)∈(kvs.map (·.1)).take n->(Bt i.2.1:AK)∈kvs'.map (·.1)))) ⟨AG,AG,AG,kvs,rfl,λb o _ e=>e,ed1,nd',Ah hk hL,λq hq=>.inr ⟨by simp,hq⟩,λq hq _=>hq,λi _ hi=>by simp at hi⟩ (λn σ H' _ hh=>by obtain⟨_,_,_,_,_,sx,_⟩:=hh;show AW (lst' sx el)) ?_ ?_⟩
  . intro n y σ H2 hy hI;lk;obtain⟨o2,o3,o4,kvs',rfl,sx2,ed2,nd2,lk2,a2,b2,c2⟩:=hI;obtain⟨q0,hq0,rfl⟩:=i7 hy;obtain⟨z,r0,xs0,kss0,e0,_⟩:=hq q0 (Cg hq0);have hk0:(kvs.map (·.1))[n]?=AA (.inr z):=by rw[Bs,hq0,e0];rfl
    have hnl:n<(kvs.map (·.1)).length:=(BU.mp hk0).1;have hnot:(Bt z:AK)∉(kvs.map (·.1)).take n:=λhm=>by obtain⟨i,hi,e⟩:=FN.mp hm;rw[El]at hi;rw[NK]at e;have e2:=(BU.mp hk0).2;have:=(yO nd').mp (e.trans e2.symm);lia
    have tk:(kvs.map (·.1)).take (n+1)=(kvs.map (·.1)).take n++[.inr z]:=by rw[Dt,hk0];rfl
    have mem1:q0∈kvs':=b2 q0 (Cg hq0) (by rw[e0];show hnot);have hkm:(Bt z:AK)∈kvs'.map (·.1):=BE.mpr ⟨q0,mem1,by rw[e0]⟩;obtain⟨v,hv⟩:=Lb hkm;have hvk:((Bt z:AK),v)∈kvs:=by
      rcases a2 _ (FD hv)with⟨h1,_⟩|⟨_,h2⟩;.show absurd h1 hnot
      .show h2
    obtain⟨z',r,xs,kss,e1,hrx,er,hw,hne,sd,pm⟩:=hq _ hvk;cases e1;k_in;have er2:=lst' sx2 (s1 _ _ er);have hw2:=(hw.ab s1.tp).ab (tpd sx2);have eo2:=sx2 _ _ (λz=>by rw[z,ed]at eo;cases eo) (s1 _ _ eo);have yv:Aw q0.1=.str z:=by rw[e0];rfl
    rw[yv];have hl':=UL pm;have hxl:=hw.de;show⟨_,rfl,_,⟨eo2,T.cq,T.bx,rfl⟩,_,rfl,d,_,rfl,(by have:=LN (k:=Bt z) ed2;rw[hv]at this;show this),?_⟩;show⟨_,rfl,_,rfl,_,rfl,Si rfl,λp hp=>?_⟩;have s3:=CL (o:=.tup [.int le]) hp;have ep:(AQ H2 p (.tup [.int le])) p=AA (.tup ([C5 le].map Aw)):=Af;generalize AQ H2 p (.tup [.int le])=H3 at s3 ep⊢;show⟨r,p,xs,kss,_,rfl,s3 _ _ er2,RN (hw2.ab s3.tp),ep,RL (Mq pm) (by intro m hm;rw[By.mp hm];rfl),sd,λm hm b1 b2'=>⟨_,rfl,?_⟩⟩;have dr:=hZ (Mq pm) b1 b2';have pm2:=hV pm dr;have sd2:Cs (kss.drop m):=sd.sublist (ABf _ _);show⟨r,xs,rfl,AW (s3 _ _ er2),λc hc'=>?_⟩;rw[Q0 xs m (by simp_all)];have s4:=CL (o:=.lst (xs.drop m)) hc';have ec:(AQ H3 c (.lst (xs.drop m))) c=AA (.lst (xs.drop m)):=Af;have nex:c∉ex:=λhm=>by
      obtain⟨o,ho⟩:=hex c hm;by_cases z:c=d;.rw[z,s3 _ _ ed2]at hc';cases hc'
      .rw[s3 _ _ (sx2 _ _ z (s1 _ _ ho))]at hc';cases hc'
    generalize AQ H3 c (.lst (xs.drop m))=H4 at s4 ec⊢;have s34:=s3.aa s4;have ed4:=s34 _ _ ed2;have eo4:=s34 _ _ eo2;have sx4:BV d H1 H4:=sx2.aa (s34.x d);have hw4:Cc H4 (xs.drop m) (kss.drop m):=OH m (hw2.ab s34.tp);have ncd:c≠d:=λz=>by rw[z,ed4]at ec;cases ec
    have tpu:∀{o:Bn},Bc H4 (AQ H4 d o):=(IU H4).du ed4 λxs=>by intro z;cases z
    have row':∀{o:Bn}{q:AK×AD},Lv ex H2 (ES le L) q->Lv ex (AQ H4 d o) (ES le L) q:=λh=>h.ab (λb xs _ e=>by rw[AX (λz=>by rw[z,ed2]at e;cases e)];show s34 _ _ e) (s34.tp.aa tpu);show⟨_,rfl,c,_,rfl,.inl (AW ec),_,_,rfl,rfl,_,rfl,Kl (λe=>?_) λe=>?_⟩
    . have hpos:0<(kss.drop m).length:=by rw[<-hw4.de];have:((xs.drop m).length:Int)>0:=e;show ABU.mp e
      show⟨_,rfl,_,rfl,_,⟨eo4,T.cq,T.bx,rfl⟩,_,rfl,d,_,rfl,Ke (k:=Bt z) ed4 (Gs lk2 (by decide)),?_⟩;have ke:(BJ kvs' (Bt z) (.ref c)).map (·.1)=kvs'.map (·.1):=by rw[Rz,AEv hkm]
      show⟨_,_,_,BJ kvs' (Bt z) (.ref c),rfl,sx4.du,Af,NA nd2,?_,λq hq'=>?_,λq hq' hn=>?_,λi hi hm=>?_⟩;. have:=AEw JN ke;rw[As,As]at this;simp_all
      . rw[tk];rcases M7 hq' with rfl|⟨h1,h2⟩;.show .inl ⟨Fj _ (By.mpr rfl),z,c,_,_,rfl,nex,by rw[AX ncd];show ec,hw4.ab tpu,List.ne_nil_of_length_pos hpos,sd2,pm2⟩
        . rcases a2 q h1 with⟨h3,h4⟩|⟨h3,h4⟩;.show .inl ⟨Ic _ h3,row' h4⟩
          .show .inr ⟨λhm=>by rcases DS.mp hm with hm|hm;show h3 hm;show h2 (By.mp hm),h4⟩
      . rw[tk]at hn;show jD (b2 q hq' λh=>hn (Ic _ h)) λh=>hn (Fj _ (By.mpr h))
      . rw[ke];rw[tk]at hm;rcases DS.mp hm with hm|hm;.show c2 i hi hm
        .rw[By.mp hm];show hkm
    . have hz:kss.drop m=[]:=cC (by rw[<-hw4.de];have:¬((xs.drop m).length:Int)>0:=e;show ABR.mp (NY e));show⟨_,rfl,_,⟨eo4,T.cq,T.bx,rfl⟩,d,rfl,.inl ⟨_,.inl ed4⟩,_,rfl,kvs',.inr z,_,ed4,rfl,hv,?_⟩;show⟨_,_,_,CM kvs' (Bt z),rfl,sx4.du,Af,VI nd2,Ah (ZZ ..) lk2,λq hq'=>?_,λq hq' hn=>?_,λi hi hm=>?_⟩
      . rw[tk];obtain⟨h1,h2⟩:=O8.mp hq';rcases a2 q h1 with⟨h3,h4⟩|⟨h3,h4⟩;.show .inl ⟨Ic _ h3,row' h4⟩
        .show .inr ⟨λhm=>by rcases DS.mp hm with hm|hm;show h3 hm;show h2 (By.mp hm),h4⟩
      . rw[tk]at hn;show O8.mpr ⟨b2 q hq' λh=>hn (Ic _ h),λh=>hn (Fj _ (By.mpr h))⟩
      . rw[tk]at hm;by_cases ez:(Bt i.2.1:AK)=Bt z
        . rw[hz]at pm2;have:=pm2.length_eq;have hmem:Et i∈((ES le L).filter λi=>Aa (i.2.1=z)).map Et:=BE.mpr ⟨i,DT.mpr ⟨hi,AEx (Ft ez)⟩,rfl⟩;have:=cH hmem;simp_all
        . rcases DS.mp hm with hm|hm;. obtain⟨q,hq1,hq2⟩:_:=BE.mp (c2 i hi hm);show BE.mpr ⟨q,O8.mpr ⟨hq1,by rw[hq2];show ez⟩,hq2⟩
          .show absurd (By.mp hm) ez
  . intro σ H2 hI;obtain⟨o2,o3,o4,kvs',rfl,sx2,ed2,nd2,lk2,a2,b2,c2⟩:_:=hI;have all:(kvs.map (·.1)).take (kvs.map λp=>Aw p.1).length=kvs.map (·.1):=Ed (by rw[As,As];show Ak _);rw[all]at a2 c2;have a3:∀q∈kvs',Lv ex H2 (ES le L) q:=λq hq'=>by
      rcases a2 q hq' with⟨_,h⟩|⟨h1,h2⟩;.show h
      .show absurd (BE.mpr ⟨q,h2,rfl⟩) h1
    have c3:∀i∈ES le L,(Bt i.2.1:AK)∈kvs'.map (·.1):=λi hi=>c2 i hi (hc i (DT.mp hi).1);show k _ ((s1.x d).aa sx2) ⟨⟨dx,sx2 _ _ (λz=>by rw[z,ed]at eo;cases eo) (s1 _ _ eo)⟩,kvs',ed2,nd2,?_,a3,c3⟩;have:=iW (λi:AO=>(Bt i.2.1:AK)) (ES le L) (kvs'.map (·.1)) nd2 c3 λk hk=>by
      obtain⟨q,hq',rfl⟩:=BE.mp hk;obtain⟨z,r,xs,kss,rfl,_,_,_,hne,_,pm⟩:=a3 q hq';have hlen:0<(((ES le L).filter λi=>Aa (i.2.1=z)).map Et).length:=by rw[<-pm.length_eq];show List.length_pos_iff.mpr hne
      rw[As]at hlen;obtain⟨i,hi⟩:=List.exists_mem_of_length_pos hlen;obtain⟨h1,h2⟩:=DT.mp hi;show⟨i,h1,by change(Bt i.2.1:AK)=Bt z;rw[AEy h2]⟩
    rw[As]at this;show this
def Yp(D:CF):BO:=λU H Q _=>∃x J,U=[.ref x]/\H x=AA (.ins D.dm J [])/\∀d,H d=AG->Q .non (AQ (AQ H d (.dK [])) x (.ins D.dm J [("rows",.ref d)]))
theorem X8(T:BQ AH Ag AM):T.jh.Ok BM P w Ag base 1 (Yp AM):=by show T.jh.ok λV _ _ _ _ _ U H W Q E h=>?_;obtain⟨x,J,rfl,e,k⟩:_:=h;show⟨_,(Ac (L6 (AB 0) OI rfl)),?_⟩;intro d D;show⟨x,_,J,[],rfl,by rw[AX (Bg e D)];show e,T.cq,T.bx,by decide,k d D⟩
theorem Xq(Y:H x=AG)(V:H D=AG)(A:D≠x)(k:∀d H',An H H'->H d=AG->Cb AM ex H' x d []->Q .non H'):Yp AM [.ref x] (AQ (AQ H D (.own x)) x (.ins AM.dm D [])) Q E:=by
 show⟨x,D,rfl,Af,λd J=>?_⟩;have U:=Bg Af J;rw[AX U.symm]at J;have W:D≠d:=λz=>by rw[z,Af]at J;cases J
 rw[AX W.symm]at J;show k d _ (λb o e=>?_) J ⟨⟨D,Af⟩,[],by rw[AX U.symm];show Af,.nil,Ak _,λq B=>(by cases B),λi Z=>by cases Z⟩;rw[AX (Bg e Y),AX (Bg e J),AX (Bg e Y),AX (Bg e V)];show e
structure DP(ad:CF)(ex:List AE)(H:AI)(j sl x0 x1 d0 d1:AE)(wi:Int)(L0 L1:List AO):Prop where
 cg:∃dx,H j=AA (.ins ad.dw dx [("within",.int wi),("sides",.ref sl)])cu:H sl=AA (.lst [.ref x0,.ref x1])s0:Cb ad ex H x0 d0 L0
 s1:Cb ad ex H x1 d1 L1
 ne:d0≠d1
 ada:sl∉ex
theorem DP.af(h:DP AM ex H j W Y Z U V wi D J)(s:An H H'):DP AM ex H' j W Y Z U V wi D J:=by obtain⟨⟨A,e⟩,B,E,r1,n,C⟩:_:=h;show⟨⟨A,s _ _ e⟩,s _ _ B,E.af s,r1.af s,n,C⟩
theorem DP.ur(h:DP AM ex H j B C E Y Z wi U W)(e:H c=AA (.lst xs))(J:c∈ex):DP AM ex (AQ H c o) j B C E Y Z wi U W:=by obtain⟨⟨F,D⟩,G,I,r1,n,A⟩:_:=h;show⟨⟨F,by rw[AX (λz=>by rw[z,e]at D;cases D)];show D⟩,by rw[AX (λz=>A (by rw[z];show J))];show G,I.ur e J,r1.ur e J,n,A⟩
def nW(J:CF):BO:=λB H Q _=>(KD λ(W:List AE)(j Z:AE)(Y:Int)=>IL (B=[.ref j,.int Y]) (H j=AA (.ins J.dw Z [])) ((∀c∈W,∃o,H c=AA o)) (∀D A C E U V,BV j H D->H U=AG->H V=AG->DP J W D j A C E U V Y [] []->Q .non D))
theorem kM(T:BQ AH Ag AM):T.jg.Ok BM P w Ag base 3 (nW AM):=by
 show T.jg.ok λnd _ _ _ _ _ hr H vs Q E h=>?_;obtain⟨ex,j,dx,wi,rfl,ej,hex,k⟩:_:=h;show⟨_,(Aq (L6 (AB 0) (AB 1) rfl) (Ac (L6 (AB 0) (CW #v[YI (X8 T) hr T.ye Kq,YI (X8 T) hr T.ye Kq]) rfl))),?_⟩;show⟨j,_,dx,[],rfl,ej,T.cv,T.dk,by decide,?_⟩;generalize hH:AQ H j _=H1;have x1':BV j H H1:=by rw[<-hH];show((C6 H).x j).du
 have ej1:H1 j=AA (.ins AM.dw dx [("within",.int wi)]):=by rw[<-hH];show Af
 intro x0 dx0 hx0 hdx0 hn0;show Xq (ex:=ex) hx0 hdx0 hn0 λd0 H2 s2 hd0 r0=>⟨rfl,?_⟩;intro x1 dx1 hx1 hdx1 hn1;show Xq (ex:=ex) hx1 hdx1 hn1 λd1 H3 s3 hd1 r1=>⟨rfl,?_⟩;show⟨CB rfl,λsl hsl=>?_⟩;have s4:=CL (o:=.lst [.ref x0,.ref x1]) hsl;have esl:(AQ H3 sl (.lst [.ref x0,.ref x1])) sl=AA _:=Af;have nsl:sl∉ex:=λhm=>by
  obtain⟨o,ho⟩:=hex sl hm;by_cases z:sl=j;.rw[z,(s2.aa s3) _ _ ej1]at hsl;cases hsl
  .rw[(s2.aa s3) _ _ (x1' _ _ z ho)]at hsl;cases hsl
 generalize AQ H3 sl _=H4 at s4 esl⊢;have s14:=(s2.aa s3).aa s4;have ej4:=s14 _ _ ej1;show⟨j,_,dx,_,rfl,ej4,T.cv,T.bo,(by change 1<1000;decide),?_⟩;have r04:=r0.af (s3.aa s4);have r14:=r1.af s4;have up:∀{x d:AE},x≠j->Cb AM ex H4 x d []->Cb AM ex (AQ H4 j (.ins AM.dw dx [("within",.int wi),("sides",.ref sl)])) x d []:=λhx r=>by show r.ab (λC dx fs e=>by rw[AX hx];show e) (λkvs e=>by rw[AX (λz=>by rw[z,ej4]at e;cases e)];show e) (λb xs _ e=>by rw[AX (λz=>by rw[z,ej4]at e;cases e)];show e) ((IU H4).du ej4 λxs=>by intro z;cases z)
 have nx0:x0≠j:=λz=>by rw[z,ej1]at hx0;cases hx0
 have nx1:x1≠j:=λz=>by rw[z,s2 _ _ ej1]at hx1;cases hx1
 have nd01:d0≠d1:=λz=>by obtain⟨kvs,e,_⟩:=r0.aj;rw[z,hd1]at e;cases e
 have fr:∀{d:AE},H1 d=AG->H d=AG:=λ{d}hd=>by cases q:H d with |none=>rfl|some o=>
   by_cases z:d=j;.rw[z,ej1]at hd;cases hd
   .rw[x1' _ _ z q]at hd;cases hd
 have hd11:=s2.ba hd1;show k _ sl x0 x1 d0 d1 ((x1'.aa (s14.x j)).du) (fr hd0) (fr hd11) ⟨⟨dx,Af⟩,by rw[AX (λz=>by rw[z,ej4]at esl;cases esl)];show esl,up nx0 r04,up nx1 r14,nd01,nsl⟩
theorem Cb.gv(h:Cb AM ex H x d L)(Y:H l=AG):Cb AM (l::ex) H x d L:=by obtain⟨o,V,Z,n,C,q,c⟩:_:=h;show⟨o,V,Z,n,C,λp B=>?_,c⟩;obtain⟨z,r,E,U,e,A,W,D⟩:_:=q p B;show⟨z,r,E,U,e,λJ=>by rcases Ca.mp J with rfl|J;rw[W]at Y;cases Y;show A J,W,D⟩
theorem Cb.iz(h:Cb AM (l::ex) H x d L):Cb AM ex H x d L:=by obtain⟨o,U,V,n,A,q,c⟩:_:=h;show⟨o,U,V,n,A,λp Z=>?_,c⟩;obtain⟨z,r,B,J,e,Y,D⟩:_:=q p Z;show⟨z,r,B,J,e,λW=>Y (GH _ W),D⟩
theorem DP.iz(h:DP AM (l::ex) H j W Y Z U V wi D J):DP AM ex H j W Y Z U V wi D J:=by obtain⟨o,A,E,r1,n,C⟩:_:=h;show⟨o,A,E.iz,r1.iz,n,λB=>C (GH _ B)⟩
def Nj(i j:Int):Int:=if i<j then j else i
def Mn(s:Int)(i j:AO):List AK:=[.inl (Nj i.1 j.1),.inr i.2.1,.inl (if s=0 then i.2.2-j.2.2 else j.2.2-i.2.2)]
def oA:BO:=λJ H Q _=>(KG λ(s:Int)(p q:AE)(i:AO)(t a:Int)=>IL (J=[.int s,.ref p,.ref q]) (H p=AA (.tup ((Ei i).map Aw))) (H q=AA (.tup [.int t,.int a])) (∀D r,An H D->D r=AA (.tup ((Mn s i (t,i.2.1,a)).map Aw))->Q (.ref r) D))
theorem kT(T:BQ AH Ag AM):T.qw.Ok BM P w Ag base 1 oA:=by
 show T.qw.ok λF _ _ _ _ _ I H L Q E h=>?_;obtain⟨G,p,q,⟨Z,z,U⟩,t,a,rfl,D,J,k⟩:_:=h;have D:H p=AA (.tup [.int Z,.str z,.int U]):=D;show⟨_,(Aq (BC 3 F (SG (Bl DD (AB 0) AN (BW _)) (Av AH (AB 1) AN) (Av AH (AB 2) AN))) (Aq (BC 4 F (SG (Bl DD (AB 0) AN (BW _)) (Av AH (AB 2) AN) (Av AH (AB 1) AN))) (Ac (BI (CP #v[(DE (Rt rfl) (by rfl) T.wy WM #v[Av AH (AB 1) AN,Av AH (AB 2) AN]),Av AH (AB 1) AN,AY FV (AB 3) (AB 4)]))))),?_⟩;have A:∀{a b c:AD},DL [a,b,c] 0=AA a:=Aj (j:=0) rfl;have i1:∀{a b c:AD},DL [a,b,c] 1=AA b:=Aj (j:=1) rfl;have i2:∀{a b c:AD},DL [a,b,c] 2=AA c:=Aj (j:=2) rfl;have B:∀{a b:AD},DL [a,b] 0=AA a:=Aj (j:=0) rfl;have C:∀{a b:AD},DL [a,b] 1=AA b:=Aj (j:=1) rfl;have fin:∀{x y:Int},x-y=(if G=0 then U-a else a-U)->∀r,H r=AG->Q (.ref r) (AQ H r (.tup [.int (if Z<t then t else Z),.str z,.int (x-y)])):=λ{x y}e r Y=>by show k _ r ((C6 H).du Y) ?_;rw[Af,e];rfl
 show⟨rfl,_,rfl,EA (λe=>?_) λe=>?_⟩;. show⟨_,_,Ao D,i2,rfl,_,rfl,EA (λ_=>?_) λW=>absurd e W⟩;show⟨_,_,Ao J,C,_,_,Ao D,A,_,_,Ao J,B,_,_,Ao D,i1,CB rfl,fin (by rw[AEv e])⟩
 . show⟨_,_,Ao J,C,rfl,_,rfl,EA (λW=>absurd W e) λ_=>?_⟩;show⟨_,_,Ao D,i2,_,_,Ao D,A,_,_,Ao J,B,_,_,Ao D,i1,CB rfl,fin (by rw[AEu e])⟩
def GU(s wi:Int)(i:AO)(D:List AO):List (List AK):=(D.filter λj=>Aa (j.2.1=i.2.1/\i.1-wi<=j.1/\j.1<=i.1+wi)).map (Mn s i)
def nG(B:CF):BO:=λI H Q _=>(Qv λ(Z:List AE)(j C E F W Y p:AE)(A s:Int)(U V:List AO)(i:AO)=>JW (I=[.ref j,.int s,.ref p]) (DP B Z H j C E F W Y A U V) ((s=0\/s=1)) ((∀c∈Z,∃o,H c=AA o)) (H p=AA (.tup ((Ei i).map Aw))) (U.length<=1000) (V.length<=1000) (∀J r G D,BV (if s=0 then W else Y) H J->DP B (r::Z) J j C E F W Y A (if s=0 then U++[i]else U) (if s=0 then V else V++[i])->H r=AG->J r=AA (.lst G)->Cc J G D->Cs D->D.Perm (GU s A i (if s=0 then V else U))->Q (.ref r) J))
theorem jX(T:BQ AH Ag AM):T.oz.Ok BM P w Ag base 3 (nG AM):=by
  show T.oz.ok λnd _ _ _ _ _ hr H vs Q E h=>?_;obtain⟨ex,j,sl,x0,x1,d0,d1,p,wi,sd,L0,L1,i,rfl,jr,hs,hex,ep,l0,l1,k⟩:_:=h;show⟨_,(Aq (Ks (i:=3) nd rfl (Fo rfl) (GV (FW (MN (K:=AH)) (Bu (Bm 0) rfl) (AY VU AN (Bm 1)) (λ_ _=>rfl)) T.cq (kX T) hr #v[(FW (JE (K:=AH)) (Bm 2) AN (λ_ _=>rfl)),(AY VU (FW (JE (K:=AH)) (Bm 2) AN (λ_ _=>rfl)) (Bu (Bm 0) rfl)),(AY Z6 (FW (JE (K:=AH)) (Bm 2) AN (λ_ _=>rfl)) (Bu (Bm 0) rfl))])) (Aq (D1 (GV (FW (MN (K:=AH)) (Bu (Bm 0) rfl) (Bm 1) (λ_ _=>rfl)) T.cq (X5 T) hr #v[Bm 2])) (Ac (BI (DE (rP (K:=AH)) (by rfl) T.cy J6 #v[(Py (osc:=DC Yb) [("side",1),("item",2)] rfl (Cn (K:=AH) (Bm 3)) rfl rfl (by decide+kernel) (by decide+kernel) (by decide+kernel) ⟨rfl,rfl,rfl,rfl,trivial⟩ rfl (by decide+kernel) (λ_ _ _ _=>Hy) (λ_ _ _ _=>(BG (kT T) hr #v[Bm 1,Bm 2,Bm 0])))]))))),?_⟩;have sz:Ay=16777216:=DW;lk;obtain⟨dx,ej⟩:=jr.cg;obtain⟨t,z,a⟩:=i;k_in;have ep:H p=AA (.tup [.int t,.str z,.int a]):=ep;have i0:∀{a b c:AD},DL [a,b,c] 0=AA a:=Aj (j:=0) rfl;have i1:∀{a b c:AD},DL [a,b,c] 1=AA b:=Aj (j:=1) rfl;lk;obtain⟨xo,do',Lo,xs,ds,Ls,at1,at2,ro,rs,nds,lo',ls',fin⟩:∃(xo do':AE)(Lo:List AO)(xs ds:AE)(Ls:List AO),DL [AD.ref x0,.ref x1] (1-sd)=AA (.ref xo)/\DL [AD.ref x0,.ref x1] sd=AA (.ref xs)/\Cb AM ex H xo do' Lo/\Cb AM ex H xs ds Ls/\do'≠ds/\Lo.length<=1000/\Ls.length<=1000/\∀H' r xs' kss,BV ds H H'->Cb AM (r::ex) H' xs ds (Ls++[(t,z,a)])->Cb AM (r::ex) H' xo do' Lo->H r=AG->H' r=AA (.lst xs')->Cc H' xs' kss->Cs kss->kss.Perm (GU sd wi (t,z,a) Lo)->Q (.ref r) H':=by
    have ob:∀{H':AI}{d:AE}{kvs:List (AK×AD)},BV d H H'->H d=AA (.dK kvs)->(∃dx,H' j=AA (.ins AM.dw dx [("within",.int wi),("sides",.ref sl)]))/\H' sl=AA (.lst [.ref x0,.ref x1]):=λsx e=>⟨⟨dx,sx _ _ (λz=>by rw[z,e]at ej;cases ej) ej⟩,sx _ _ (λz=>by have:=jr.cu;rw[z,e]at this;cases this) jr.cu⟩;have nsl:∀{r:AE},H r=AG->sl∉r::ex:=λhr0 hm=>by
      rcases Ca.mp hm with rfl|hm;.rw[jr.cu]at hr0;cases hr0
      .show jr.ada hm
    rcases hs with rfl|rfl
    . show⟨x1,d1,L1,x0,d0,L0,Aj (j:=1) rfl,Aj (j:=0) rfl,jr.s1,jr.s0,jr.ne.symm,l1,l0,λH' r xs' kss sx r1 r2 hr0=>?_⟩;obtain⟨kvs,e,_⟩:=jr.s0.aj;obtain⟨o1,o2⟩:=ob sx e;show k H' r xs' kss sx ⟨o1,o2,r1,r2,jr.ne,nsl hr0⟩ hr0
    . show⟨x0,d0,L0,x1,d1,L1,Aj (j:=0) rfl,Aj (j:=1) rfl,jr.s0,jr.s1,jr.ne,l0,l1,λH' r xs' kss sx r1 r2 hr0=>?_⟩;obtain⟨kvs,e,_⟩:=jr.s1.aj;obtain⟨o1,o2⟩:=ob sx e;show k H' r xs' kss sx ⟨o1,o2,r2,r1,jr.ne,nsl hr0⟩ hr0
  obtain⟨dxo,eo⟩:=ro.cg;k_in;show⟨_,rfl,_,⟨ej,T.cv,T.bo,rfl⟩,_,rfl,_,_,rfl,rfl,sl,_,_,_,rfl,rfl,AW jr.cu,at1,xo,dxo,_,rfl,eo,by rfl,?_⟩;show⟨_,rfl,p,_,_,_,rfl,rfl,Ao ep,i1,_,rfl,p,_,_,_,rfl,rfl,Ao ep,i0,_,rfl,_,⟨ej,T.cv,T.dk,rfl⟩,_,_,rfl,rfl,_,rfl,p,_,_,_,rfl,rfl,Ao ep,i0,_,rfl,_,⟨ej,T.cv,T.dk,rfl⟩,_,_,rfl,rfl,?_⟩;show⟨ex,xo,do',Lo,z,t-wi,t+wi,rfl,ro,lo',λH1 rm xm km s1 hrm em hwm sdm pmm=>?_⟩;have rs1:=rs.af s1;obtain⟨dxs,es⟩:=rs1.cg;show⟨_,rfl,_,⟨s1 _ _ ej,T.cv,T.bo,rfl⟩,_,rfl,sl,_,_,_,rfl,rfl,AW (s1 _ _ jr.cu),at2,xs,dxs,_,rfl,es,by rfl,?_⟩;show⟨_,rfl,ex,xs,ds,p,Ls,(t,z,a),rfl,rs1,(λc hc=>let⟨o,ho⟩:=hex c hc;⟨o,s1 _ _ ho⟩),s1 _ _ ep,ls',λH2 sx2 r2=>?_⟩;obtain⟨kvs,ekv,_⟩:_:=rs1.aj;have em2:H2 rm=AA (.lst xm):=sx2 _ _ (λz=>by rw[z,ekv]at em;cases em) em;have tp2:Bc H1 H2:=sx2.tp ekv λxs=>by intro z;cases z
  have hwm2:=hwm.ab tp2;have ro2:=(ro.af s1).wm sx2 ekv nds;have ep2:=tp2 _ _ (s1 _ _ ep);have lm:km.length<=1000:=by rw[pmm.length_eq,As];show Ah (D3 _ _) lo'
  have lxm:=hwm.de;show⟨_,rfl,rm,rfl,⟨_,AW em2⟩,?_⟩;show Jo (K:=AH) (xs:=xm) (λn τ acc H'=>(∃o,τ=[o,AA (.int sd),AA (.ref p)])/\An H2 H'/\Cc H' acc ((km.take n).map λks=>match ks with|[.inl t',.inl a']=>Mn sd (t,z,a) (t',z,a')|_=>[])) (by lia) ⟨⟨AG,rfl⟩,C6 _,Kt _⟩ (λn τ acc H'⟨_,s',_⟩=>AW (s' _ _ em2)) ?_ ?_
  . intro n y τ acc H3 R1 hy _ hI k1;lk;obtain⟨⟨o,rfl⟩,s3,hw3⟩:=hI;obtain⟨b,kk,rfl,ek,eb⟩:=hwm2.at hy;obtain⟨t',a',rfl⟩:=Mq pmm kk (Cg ek);k_in;show⟨_,rfl,_,rfl,_,rfl,sd,p,b,(t,z,a),t',a',rfl,s3 _ _ ep2,s3 _ _ eb,λH4 r s4 er=>k1 _ _ _ ⟨⟨_,rfl⟩,s3.aa s4,?_⟩⟩;rw[Dt,ek,CQ];show(hw3.ab s4.tp).xp er
  . intro τ acc H3 la hI D hD;obtain⟨_,s3,hw3⟩:_:=hI;rw[Ed (Bw lxm.symm)]at hw3;have s4:=CL (o:=.lst acc) hD;have eD:(AQ H3 D (.lst acc)) D=AA (.lst acc):=Af;generalize AQ H3 D (.lst acc)=H4 at s4 eD⊢;have hw4:=hw3.ab s4.tp;have pmm2:yH (km.map λks=>match ks with|[.inl t',.inl a']=>Mn sd (t,z,a) (t',z,a')|_=>[]) (GU sd wi (t,z,a) Lo):=by show(pmm.map _).trans (SY ?_);rw[Cu];rfl
    show⟨D,acc,_,rfl,AW eD,hw4.yh (sh:=[AJ,AR,AJ]) (by simp) (λks hk=>?_),λl qs hl pq sq=>?_⟩
    . obtain⟨i',_,rfl⟩:_:=BE.mp (pmm2.mem_iff.mp hk);rfl
    . obtain⟨g1,g2⟩:=hw4.aat pq;have s5:=s4.du (o:=.lst (qs.map (·.1))) hl;have s25:=s3.aa s5;have hl0:H l=AG:=by
        have h2:=(s3.aa s4).ba hl;have hne:l≠ds:=λz=>by obtain⟨kv2,e2,_⟩:=r2.aj;rw[z,e2]at h2;cases h2
        cases q:H l with |none=>rfl|some o=>rw[sx2 _ _ hne (s1 _ _ q)]at h2;cases h2
      show fin _ l _ _ (((s1.x ds).aa sx2).aa (s25.x ds)) (((r2.af (s3.aa s4)).gv hl).af (CL hl)) (((ro2.af (s3.aa s4)).gv hl).af (CL hl)) hl0 Af (g1.ab (CL hl).tp) sq (g2.trans pmm2)
theorem jO(a b:Int):Nj a b=Nj b a:=by unfold Nj;split<;>split<;>lia
def Gf(D J:AE)(H H':AI):Prop:=∀b o,b≠D->b≠J->H b=AA o->H' b=AA o
theorem Gf.aa(a:Gf D J H U)(b:Gf D J U V):Gf D J H V:=λc o n m e=>b c o n m (a c o n m e)
theorem Yg(s:An H H')(D J:AE):Gf D J H H':=λb o _ _ e=>s b o e
theorem Yh(s:BV D H H'):Gf D J H H':=λb o n _ e=>s b o n e
theorem Yi(s:BV D H H'):Gf J D H H':=λb o _ n e=>s b o n e
theorem DP.tj(h:DP AM ex H j A B C J U wi V W):(∃k0,H J=AA (.dK k0))/\∃D,H U=AA (.dK D):=by lk;obtain⟨k0,Y,_⟩:=h.s0.aj;obtain⟨D,Z,_⟩:=h.s1.aj;k_in;show⟨⟨k0,Y⟩,D,Z⟩
theorem DP.y(h:DP AM ex H j A B C D J wi V W)(s:Gf D J H H')(e:H b=AA o)(U:∀kvs,o≠.dK kvs):H' b=AA o:=by obtain⟨⟨E,Y⟩,F,Z⟩:_:=h.tj;show s b o (λz=>by rw[z,Y]at e;show U _ (B9 e).symm) (λz=>by rw[z,Z]at e;show U _ (B9 e).symm) e
theorem DP.ach(h:DP AM ex H j Y Z A D J wi U V)(s:Gf D J H H'):Bc H H':=λp B e=>h.y s e λW=>by intro z;cases z
theorem DP.wm{K:List AO}(h:DP AM ex H j R S T A B wi K L)(g:DP AM ex H F V Y Z J U W M0 M1)(s:Gf A B H H')(G:J≠A/\J≠B)(I:U≠A/\U≠B):DP AM ex H' F V Y Z J U W M0 M1:=by
 have k:∀{b:AE}{o:Bn},H b=AA o->(∀D,o≠.dK _)->H' b=AA o:=λe O=>h.y s e O;obtain⟨⟨E,e⟩,M,Q,r1,n,P⟩:_:=g;show⟨⟨E,k e (by intro D z;cases z)⟩,k M (by intro D z;cases z),?_,?_,n,P⟩;.show Q.ab (λC E N e=>k e (by intro D z;cases z)) (λD e=>s _ _ G.1 G.2 e) (λb X _ e=>k e (by intro D z;cases z)) (h.ach s)
 .show r1.ab (λC E N e=>k e (by intro D z;cases z)) (λD e=>s _ _ I.1 I.2 e) (λb X _ e=>k e (by intro D z;cases z)) (h.ach s)
theorem DP.aap(h:DP AM ex H j Y U Z D W wi A V)(s:BV D H H')(r:Cb AM ex H' U D M):DP AM ex H' j Y U Z D W wi M V:=by lk;obtain⟨B,e⟩:=h.cg;obtain⟨C,J,_⟩:=h.s0.aj;k_in;show⟨⟨B,s _ _ (λz=>by rw[z,J]at e;cases e) e⟩,s _ _ (λz=>by have:=h.cu;rw[z,J]at this;cases this) h.cu,r,h.s1.wm s J h.ne.symm,h.ne,h.ada⟩
theorem DP.aaq(h:DP AM ex H j Y Z U W D wi V A)(s:BV D H H')(r:Cb AM ex H' U D M):DP AM ex H' j Y Z U W D wi V M:=by lk;obtain⟨B,e⟩:=h.cg;obtain⟨C,J,_⟩:=h.s1.aj;k_in;show⟨⟨B,s _ _ (λz=>by rw[z,J]at e;cases e) e⟩,s _ _ (λz=>by have:=h.cu;rw[z,J]at this;cases this) h.cu,h.s0.wm s J h.ne,r,h.ne,h.ada⟩
theorem DP.adx{ex:List AE}{H H':AI}{j F G I D J:AE}{wi:Int}{Y Z M0 M1:List AO}(h:DP AM ex H' j F G I D J wi Y Z)(s:Gf D J H H')(U:∀c∈ex,∃o,H c=AA o):∀c∈ex,∃o,H' c=AA o:=λc C=>by
  obtain⟨⟨K,A⟩,L,B⟩:_:=h.tj;by_cases V:c=D;.show⟨_,by rw[V];show A⟩
  . by_cases W:c=J;.show⟨_,by rw[W];show B⟩
    . obtain⟨o,E⟩:=U c C;show⟨o,s _ _ V W E⟩
def nV(B:CF):BO:=λG H Q _=>(Ow λ(A:List AE)(j C E F Y Z:AE)(J D:Int)(V W:List AO)=>JV (G=[.ref j,.int D]) (DP B A H j C E F Y Z J V W) ((∀c∈A,∃o,H c=AA o)) (V.length<=1000) (W.length<=1000) (∀U,Gf Y Z H U->DP B A U j C E F Y Z J (ES (D-J) V) (ES (D-J) W)->Q .non U))
theorem kL(T:BQ AH Ag AM):T.ph.Ok BM P w Ag base 3 (nV AM):=by
  show T.ph.ok λx _ _ _ _ _ t H vs Q E h=>?_;obtain⟨R,j,i,B,C,M,N,g,W,I,L,rfl,c,X,u,v,k⟩:_:=h;show⟨_,(Ac (C8 DF rfl (Cn (K:=AH) (Bu (AB 0) rfl)) (CO 2 x) (Ac (D1 (GV (AB 2) T.cq (jY T) t #v[AY FV (AB 1) (Bu (AB 0) rfl)]))))),?_⟩;have sz:Ay=16777216:=DW;obtain⟨z,q⟩:=c.cg;show⟨_,⟨q,T.cv,T.bo,rfl⟩,i,rfl,⟨_,AW c.cu⟩,FJ (K:=AH) (xs:=[.ref B,.ref C]) (λn F G=>∃f:Option AD,F=[AA (.ref j),AA (.int W),f]/\Gf M N H G/\DP AM R G j i B C M N g (if n=0 then I else ES (W-g) I) (if n<=1 then L else ES (W-g) L)) ⟨AG,rfl,λb o _ _ e=>e,c⟩ (λn F G _ r=>by obtain⟨_,_,_,d⟩:=r;show AW d.cu) ?_ ?_⟩
  . intro n y F l a S;lk;obtain⟨f,rfl,A,D⟩:=S;have s:n=0\/n=1:=by have:=(BU.mp a).1;simp at this;show Gr.mp (cU this)
    obtain⟨p,Y⟩:=D.cg;k_in;have J:=D.adx (M0:=[]) (M1:=[]) A X;rcases s with rfl|rfl;. lk;cases a;obtain⟨U,O⟩:=D.s0.cg;k_in;show⟨B,U,_,rfl,O,by rfl,_,⟨Y,T.cv,T.dk,rfl⟩,R,B,M,I,_,rfl,D.s0,J,u,λm Z r2=>⟨_,rfl,A.aa (Yh Z),D.aap Z r2⟩⟩
    . lk;cases a;obtain⟨U,O⟩:=D.s1.cg;k_in;show⟨C,U,_,rfl,O,by rfl,_,⟨Y,T.cv,T.dk,rfl⟩,R,C,N,L,_,rfl,D.s1,J,v,λm Z r2=>⟨_,rfl,A.aa (Yi Z),D.aaq Z r2⟩⟩
  . intro F l S;obtain⟨f,rfl,A,D⟩:_:=S;show k _ A D
inductive AU where|take(n k:AF)|only(n a:AF)(lo hi:Int)|turn(n a:AF)(f g:Int)|both(n a b:AF)|join(n a b:AF)(wi:Int)|gap(n a s:AF)(m:Int)|each(n a s:AF)(sz st:Int)
def AU.vd:AU->List AK|AU.take n k=>[.inr "take",.inr n,.inr k]|AU.only n a J D=>[.inr "only",.inr n,.inr a,.inl J,.inl D]|AU.turn n a f g=>[.inr "turn",.inr n,.inr a,.inl f,.inl g]|AU.both n a b=>[.inr "both",.inr n,.inr a,.inr b]|AU.join n a b W=>[.inr "join",.inr n,.inr a,.inr b,.inl W]|AU.gap n a s m=>[.inr "gap",.inr n,.inr a,.inr s,.inl m]|AU.each n a s V U=>[.inr "each",.inr n,.inr a,.inr s,.inl V,.inl U]
def AU.gy:AU->AF|AU.take ..=>"take"|AU.only ..=>"only"|AU.turn ..=>"turn"|AU.both ..=>"both"|AU.join ..=>"join"|AU.gap ..=>"gap"|AU.each ..=>"each"
def AU.nm:AU->AF|AU.take n _|AU.only n _ _ _|AU.turn n _ _ _|AU.both n _ _|AU.join n _ _ _|AU.gap n _ _ _|AU.each n _ _ _ _=>n
def AU.bu:AU->List AF|AU.take ..=>[]|AU.only _ a _ _|AU.turn _ a _ _|AU.gap _ a _ _|AU.each _ a _ _ _=>[a]|AU.both _ a b|AU.join _ a b _=>[a,b]
def AU.da:AU->Bool|AU.gap ..|AU.each ..=>AJ|_=>AR
def AU.abg:AU->Int|AU.both ..|AU.join ..=>4|_=>3
def AU.adb:AU->Bool|AU.both ..|AU.join ..=>AJ|_=>AR
def DY(H:AI)(p:AE)(s:AU):Prop:=H p=AA (.tup (s.vd.map Aw))
theorem DY.tp(h:DY H p s)(t:Bc H H'):DY H' p s:=t _ _ h
def Na:List AD:=[.str "both",.str "join"]
def Mh:List AD:=[.str "each",.str "gap"]
theorem DY.gy(h:DY H p s):Cm AH H p (s.vd.map Aw)/\DL (s.vd.map Aw) 0=AA (.str s.gy)/\DL (s.vd.map Aw) 1=AA (.str s.nm):=by show⟨Ao h,?_⟩;cases s<;>show⟨Aj rfl,Aj rfl⟩
theorem qR:∀st:AU,FK (.str st.gy) Na=st.adb|.take ..=>(by decide+kernel:FK (.str "take") _=false)|.only ..=>(by decide+kernel:FK (.str "only") _=false)|.turn ..=>(by decide+kernel:FK (.str "turn") _=false)|.both ..=>(by decide+kernel:FK (.str "both") _=true)|.join ..=>(by decide+kernel:FK (.str "join") _=true)|.gap ..=>(by decide+kernel:FK (.str "gap") _=false)|.each ..=>(by decide+kernel:FK (.str "each") _=false)
theorem Ui:∀st:AU,FK (.str st.gy) Mh=st.da|.take ..=>(by decide+kernel:FK (.str "take") _=false)|.only ..=>(by decide+kernel:FK (.str "only") _=false)|.turn ..=>(by decide+kernel:FK (.str "turn") _=false)|.both ..=>(by decide+kernel:FK (.str "both") _=false)|.join ..=>(by decide+kernel:FK (.str "join") _=false)|.gap ..=>(by decide+kernel:FK (.str "gap") _=true)|.each ..=>(by decide+kernel:FK (.str "each") _=true)
def AU.no:AU->Nat|.take ..=>0|.only ..=>1|.turn ..=>2|.both ..=>3|.join ..=>4|.gap ..=>5|.each ..=>6
def PY:List AF:=["take","only","turn","both","join","gap","each"]
theorem Y0(st:AU):PY[st.no]?=AA st.gy:=by cases st<;>rfl
theorem qQ{st:AU}(Y:PY[i]?=AA z)(e:st.gy=z):st.no=i:=by
 have Z:PY.Nodup:=by decide+kernel
 have h:=Y0 st;rw[e]at h;lk;obtain⟨U,D⟩:=BU.mp h;obtain⟨V,J⟩:=BU.mp Y;k_in;have W:=Gq.mp Z;rcases cY _ i with q|q|q;.show absurd (D.trans J.symm) (W _ _ U V q)
 .show q
 .show absurd (J.trans D.symm) (W _ _ V U q)
theorem qP{st:AU}(D:PY[i]?=AA z)(e:st.no≠i):st.gy≠z:=λq=>e (qQ D q)
theorem KQ{st:AU}{i:Nat}{z:AF}{A B:Prop}(D:PY[i]?=AA z)(J:st.no=i->A)(U:st.no≠i->B):if Aa (AD.str st.gy=AD.str z)=AJ then A else B:=by
  by_cases h:st.no=i
  . have e:=by have:=Y0 st;rw[h,D]at this;show(B9 this).symm
    rw[AEv (by rw[e];show AEx rfl)];show J h
  . rw[AEu (by rw[AE1];showλq=>qP D h (AD.str.inj q))];show U h
def nK:BO:=λD H Q _=>Ey (λ(p:AE)(s:AU)=>D=[.ref p]) (λp s=>DY H p s) (λ_ s=>Q (.int s.abg) H)
theorem kW(T:BQ AH Ag AM):T.qf.Ok BM P w Ag base 1 nK:=by
 show T.qf.ok λZ _ _ _ _ _ Y H A Q E h=>?_;obtain⟨p,D,rfl,e,k⟩:_:=h;show⟨_,(Ac (BI (SG (Bl (VO (K:=AH)) (Av AH (AB 0) AN) (VX (v:=.ref AM.ri) (by rfl) T.yy rfl) (by with_unfolding_all rfl)) AN AN))),?_⟩;obtain⟨U,V,W⟩:_:=e.gy;show⟨_,_,U,V,_,Na,rfl,.inr (T.zg H),rfl,rfl,_,rfl,?_⟩;have J:=qR D;show MM (λq=>?_) λq=>?_
 . have q:FK (.str D.gy) Na=AJ:=q;rw[J]at q;cases D<;>first|show k|cases q
 . have q:FK (.str D.gy) Na=AR:=q;rw[J]at q;cases D<;>first|show k|cases q
def oE:BO:=λD H Q _=>Ey (λ(p:AE)(s:AU)=>D=[.ref p]) (λp s=>DY H p s) (λ_ s=>Q (.str s.nm) H)
theorem kU(T:BQ AH Ag AM):T.um.Ok BM P w Ag base 1 oE:=by show T.um.ok λW _ _ _ _ _ V H Z Q E h=>?_;obtain⟨p,Y,rfl,e,k⟩:_:=h;show⟨_,(Ac (BI (Av AH (AB 0) AN))),?_⟩;obtain⟨D,U,J⟩:_:=e.gy;show⟨_,_,D,J,k⟩
def pD:BO:=λD H Q _=>Ey (λ(p:AE)(s:AU)=>D=[.ref p]) (λp s=>DY H p s) (λ_ s=>Q (.bl s.da) H)
theorem X2(T:BQ AH Ag AM):T.qe.Ok BM P w Ag base 1 pD:=by show T.qe.ok λZ _ _ _ _ _ Y H A Q E h=>?_;obtain⟨p,D,rfl,e,k⟩:_:=h;show⟨_,(Ac (BI (HM (VO (K:=AH)) (Av AH (AB 0) AN) (VX (v:=.ref AM.ou) (by rfl) T.yk rfl) (by with_unfolding_all rfl)))),?_⟩;obtain⟨J,U,W⟩:_:=e.gy;have V:=Ui D;show⟨_,_,J,U,_,Mh,rfl,.inr (T.yq H),rfl,rfl,?_⟩;change Q (.bl (FK (.str D.gy) Mh)) H;rw[V];show k
def nM:BO:=λJ H Q _=>Ey (λ(p:AE)(s:AU)=>J=[.ref p]) (λp s=>DY H p s) (λ_ s=>∀l D,An H D->H l=AG->D l=AA (.lst (s.bu.map AD.str))->Q (.ref l) D)
theorem j9(T:BQ AH Ag AM):T.uk.Ok BM P w Ag base 2 nM:=by
  show T.uk.ok λI _ _ _ _ _ C H M Q E h=>?_;obtain⟨p,D,rfl,e,k⟩:_:=h;show⟨_,(Aq (Bx (Bl DD (Av AH (AB 0) AN) DV (BW _)) (Ac (BI (CW Dq))) CH) (Ac (BI (LX (Rr (K:=AH)) (by rfl) T.jc NR #v[HN (SR (K:=AH)) (AB 0) (Gm AN) (Gm (BG (kW T) C #v[AB 0]))])))),?_⟩;obtain⟨A,B,G⟩:_:=e.gy;show⟨_,_,A,B,rfl,_,rfl,KQ (i:=0) rfl (λZ=>?_) λZ=>?_⟩
  . have U:D.bu=[]:=by cases D<;>first|rfl|cases Z
    show⟨BY _,λl J=>k l _ ((C6 H).du J) J (by rw[U];show Af)⟩
  . have U:Gz (D.vd.map Aw) (AA 2) (AA D.abg)=D.bu.map AD.str:=by cases D<;>first|rfl|show absurd rfl Z
    show⟨_,rfl,p,D,rfl,e,_,rfl,p,_,rfl,A,?_,λF Y=>⟨F,_,rfl,.inr (Ao Af),λl J=>k l _ (((C6 H).du Y).du J) (by have W:=J;rw[AX (Bg Af W).symm]at J;show J) ?_⟩⟩
    . rintro⟨q,_⟩;have J:3<=(D.vd.map Aw).length:=by cases D<;>show CB rfl
      have L:=(fX (D.vd.map Aw).length 0 2).symm.trans q;simp_all
    .rw[Af,U]
theorem DP.gv(h:DP AM ex H j A B C W Y wi U V)(D:H l=AG):DP AM (l::ex) H j A B C W Y wi U V:=by obtain⟨o,Z,F,r1,n,E⟩:_:=h;show⟨o,Z,F.gv D,r1.gv D,n,λJ=>by rcases Ca.mp J with rfl|J;rw[Z]at D;cases D;show E J⟩
def GP(H:AI)(c:AE)(L:List AO):Prop:=∃D,H c=AA (.lst D)/\Cc H D (L.map Ei)
theorem GP.ab(h:GP H c L)(k:∀xs,H c=AA (.lst xs)->H' c=AA (.lst xs))(t:Bc H H'):GP H' c L:=by obtain⟨xs,e,w⟩:_:=h;show⟨xs,k _ e,w.ab t⟩
abbrev FP:=Int×AF×AF×Int
def iA(e:FP):List AK:=[.inl e.1,.inr e.2.1,.inr e.2.2.1,.inl e.2.2.2]
def KO(e:FP):AO:=(e.1,e.2.2.1,e.2.2.2)
def Ge(H:AI)(p:AE)(e:FP):Prop:=H p=AA (.tup ((iA e).map Aw))
theorem L9(h:(AQ H p o) l=AG):H l=AG:=by have D:=(Bg Af h).symm;rw[AX D]at h;show h
def L8(k:AF)(e:FP):List AO:=if e.2.1=k then[KO e]else[]
def pB:BO:=λJ H Q _=>(IM λ(p q:AE)(n k:AF)(e:FP)=>IL (J=[.ref p,.ref q]) (DY H p (.take n k)) (Ge H q e) (∀l D,An H D->H l=AG->GP D l (L8 k e)->Q (.ref l) D))
theorem lO(T:BQ AH Ag AM):T.yc.Ok BM P w Ag base 1 pB:=by
 show T.yc.ok λC _ _ _ _ _ A H G Q E h=>?_;obtain⟨p,q,n,V,⟨t,B,z,W⟩,rfl,e,Z,k⟩:_:=h;show⟨_,(Ac (BI (SG (Bl DD (Av AH (AB 1) AN) (Av AH (AB 0) AN) (BW _)) (CW #v[CP #v[Av AH (AB 1) AN,Av AH (AB 1) AN,Av AH (AB 1) AN]]) (CW Dq)))),?_⟩;have Y:Cm AH H p _:=Ao e;have J:Cm AH H q _:=Ao Z;show⟨_,_,J,Aj rfl,_,_,Y,Aj rfl,rfl,_,rfl,Pn (λh=>?_) λh=>?_⟩
 . show⟨_,_,J,Aj rfl,_,_,J,Aj rfl,_,_,J,Aj rfl,CB rfl,λF U=>⟨CB rfl,λl D=>k l _ (((C6 H).du U).du D) (L9 D) ⟨_,Af,?_⟩⟩⟩;rw[show L8 V _=[(t,z,W)]from AEv h];show(Kt _).xp (by rw[AX (Bg Af D)];show Af)
 . show⟨BY _,λl D=>k l _ ((C6 H).du D) D ⟨[],Af,?_⟩⟩;rw[show L8 V _=[]from AEu h];show Kt _
def PU(f g:Int)(i:AO):AO:=(i.1,i.2.1,i.2.2*f+g)
def pG:BO:=λJ H Q _=>(KH λ(p q:AE)(n a:AF)(f g:Int)(i:AO)=>EV (J=[.ref p,.ref q]) (DY H p (.turn n a f g)) ((-100<=f/\f<=100)) (H q=AA (.tup ((Ei i).map Aw))) (∀r D,An H D->D r=AA (.tup ((Ei (PU f g i)).map Aw))->Q (.ref r) D))
theorem lQ(T:BQ AH Ag AM):T.we.Ok BM P w Ag base 1 pG:=by
 show T.we.ok λS _ _ _ _ _ R H X Q E h=>?_;obtain⟨p,q,n,a,f,g,⟨t,z,D⟩,rfl,e,⟨M,N⟩,Y,k⟩:_:=h;show⟨_,(Ac (BI (AY (OF) (AY (OF) (HN (SR) (AB 1) Ia (Gm AN)) (CP #v[AY Dp (AY GG (Av AH (AB 1) AN) (Av AH (AB 0) AN)) (Av AH (AB 0) AN)])) (HN (SR) (AB 1) (Gm AN) Ia)))),?_⟩;have O:Cm AH H q _:=Ao Y;show⟨_,rfl,q,_,rfl,O,(by change¬(CS 3 0 _=0/\CS 3 3 _=3);decide),λG Z=>?_⟩;have s1:=(C6 H).du (o:=.tup (Gz ((Ei (t,z,D)).map Aw) AG (AA 2))) Z;show⟨_,_,Ao (s1 _ _ Y),Aj rfl,_,_,Ao (s1 _ _ e),Aj rfl,.inr ⟨JU (by decide) M,JT N (by decide)⟩,_,_,Ao (s1 _ _ e),Aj rfl,CB rfl,λI J=>?_⟩;have s2:=s1.du (o:=.tup [AD.int (D*f+g)]) J;have B:=Bg Af J;show⟨G,I,_,_,rfl,rfl,Ao (by rw[AX B];show Af),Ao Af,(by intro h;cases h),CB rfl,(λh=>by cases h),λ_ W A=>?_⟩;have s3:=s2.du (o:=.tup [AD.int t,AD.str z,AD.int (D*f+g)]) A;show⟨_,rfl,q,_,rfl,Ao (s3 _ _ Y),(by change¬(CS 3 0 _=0/\CS 3 3 _=3);decide),λL U=>?_⟩;have s4:=s3.du (o:=.tup (Gz ((Ei (t,z,D)).map Aw) (AA 3) AG)) U;have C:=Bg Af U;have F:(AQ (AQ (AQ (AQ H G (.tup [AD.int t,AD.str z])) I (.tup [AD.int (D*f+g)])) W (.tup [AD.int t,AD.str z,AD.int (D*f+g)])) L (.tup [])) W=AA (.tup [AD.int t,AD.str z,AD.int (D*f+g)]):=by rw[AX C];show Af
 show⟨W,L,_,[],rfl,rfl,Ao F,Ao Af,(by intro h;cases h),CB rfl,λ_=>k W _ s4 F,λh=>absurd rfl h⟩
def LJ:AU->List (List AO)->List AO|.only _ _ J D,[A]=>A.filter λi=>Aa (J<=i.2.2/\i.2.2<=D)|.turn _ _ f g,[A]=>A.map (PU f g)|.both ..,[A,B]=>A++B|.gap ..,[A]=>A|.each ..,[A]=>A|_,_=>[]
def FQ:List AF:=["count","sum","least","greatest"]
def PR:AU->Prop|.turn _ _ f _=>-100<=f/\f<=100|.gap _ _ D m=>0<=m/\D∈FQ|.each _ _ D z d=>(1<=d/\d<=200000/\d<=z/\z<=4*d)/\D∈FQ|_=>True
def Ov(H:AI)(J:List AD)(D:List (List AO)):Prop:=Az (λx L=>∃r,x=.ref r/\GP H r L) J D
theorem LF{l:List D}(e:l[n]?=AA x):(l.take (n+1)).filter p=(l.take n).filter p++(if p x=AJ then[x]else[]):=by rw[Dt,e,GZ];congr 1;change[x].filter p=_;rw[Gp];cases p x<;>rfl
theorem UE{l:List D}(h:l.length=1):∃x,l=[x]:=List.length_eq_one_iff.mp h
theorem Te(h:Ov H D [L]):∃r xs,D=[.ref r]/\H r=AA (.lst xs)/\Cc H xs (L.map Ei):=by cases h with|cons a b=>lk;cases b;obtain⟨r,rfl,xs,e,w⟩:=a;k_in;show⟨r,xs,rfl,e,w⟩
theorem pW{l:List D}(h:l.length=2):∃x y,l=[x,y]:=by match l,h with|[x,y],_=>show⟨x,y,rfl⟩
theorem W4(h:Ov H U [L,M]):∃r J xs D,U=[.ref r,.ref J]/\H r=AA (.lst xs)/\H J=AA (.lst D)/\Cc H xs (L.map Ei)/\Cc H D (M.map Ei):=by cases h with|cons a b=>cases b with|cons b c=>lk;cases c;obtain⟨r,rfl,xs,e,w⟩:=a;obtain⟨J,rfl,D,W,Y⟩:=b;k_in;show⟨r,J,xs,D,rfl,e,W,w,Y⟩
def oK:BO:=λY H Q _=>(IM λ(p W:AE)(s:AU)(U:List AD)(D:List (List AO))=>TJ (Y=[.ref p,.ref W]) (DY H p s) (PR s) (s.no≠0) (s.no≠4) (H W=AA (.lst U)) (Ov H U D) (D.length=s.bu.length) ((∀L∈D,L.length<=1000)) (∀r J,An H J->GP J r (LJ s D)->(H r=AG\/AD.ref r∈U)->Q (.ref r) J))
theorem k9(T:BQ AH Ag AM):T.vv.Ok BM P w Ag base 2 oK:=by
  show T.vv.ok λnd _ _ _ _ _ hr H vs Q E h=>?_;obtain⟨p,ls,st,rs,Ls,rfl,e,ok,n0,n4,els,cs,cl,cz,k⟩:_:=h;show⟨_,(Aq (Bx (Bl DD (FW (JE (K:=AH)) (Bm 0) AN (λ_ _=>rfl)) DV (BW _)) (Ac (BI (Py (osc:=DC UO) [("step",0)] rfl (Cn (K:=AH) (FW (MN (K:=AH)) (Bm 1) AN (λ_ _=>rfl))) rfl rfl (by decide+kernel) (by decide+kernel) (by decide+kernel) ⟨rfl,rfl,trivial⟩ rfl (by decide+kernel) (λ_ _ _ _=>Jv (vR VQ VQ (FW (JE (K:=AH)) (Bm 1) AN (λ_ _=>rfl)) (FW (JE (K:=AH)) (Bm 0) AN (λ_ _=>rfl)) (FW (JE (K:=AH)) (Bm 1) AN (λ_ _=>rfl)))) (λ_ _ _ _=>(Bm 0))))) CH) (Aq (Bx (Bl DD (FW (JE (K:=AH)) (Bm 0) AN (λ_ _=>rfl)) DV (BW _)) (Ac (BI (Py (osc:=DC UO) [("step",0)] rfl (Cn (K:=AH) (FW (MN (K:=AH)) (Bm 1) AN (λ_ _=>rfl))) rfl rfl (by decide+kernel) (by decide+kernel) (by decide+kernel) ⟨rfl,rfl,trivial⟩ rfl (by decide+kernel) (λ_ _ _ _=>Hy) (λ_ _ _ _=>(BG (lQ T) hr #v[Bm 1,Bm 0]))))) CH) (Aq (Bx (Bl DD (FW (JE (K:=AH)) (Bm 0) AN (λ_ _=>rfl)) DV (BW _)) (Ac (BI (AY JG (FW (MN (K:=AH)) (Bm 1) AN (λ_ _=>rfl)) (FW (MN (K:=AH)) (Bm 1) AN (λ_ _=>rfl))))) CH) (Ac (BI (FW (MN (K:=AH)) (Bm 1) AN (λ_ _=>rfl))))))),?_⟩;have sz:Ay=16777216:=DW;obtain⟨e0,e1,e2⟩:_:=e.gy;show⟨_,rfl,p,_,_,_,rfl,rfl,e0,e1,rfl,_,rfl,KQ (i:=1) rfl (λq1=>?_) λq1=>?_⟩
  . lk;obtain⟨n,a,lo,hi,rfl⟩:∃n a lo hi,st=.only n a lo hi:=by cases st<;>first|show⟨_,_,_,_,rfl⟩|cases q1
    obtain⟨L,rfl⟩:=UE cl;obtain⟨r,xs,rfl,er,hw⟩:=Te cs;k_in;have hL:=cz L (.head _);have hx:=hw.de;rw[As]at hx;show⟨_,rfl,ls,_,_,_,rfl,rfl,AW els,Aj (j:=0) rfl,r,rfl,⟨_,AW er⟩,?_⟩;show Mx (K:=AH) (xs:=xs) (λm τ acc H'=>(∃o,τ=[o,AA (.ref p)])/\H'=H/\Cc H acc (((L.take m).filter λi=>Aa (lo<=i.2.2/\i.2.2<=hi)).map Ei)) (by lia) ⟨⟨AG,rfl⟩,rfl,Kt _⟩ (λm τ acc H'⟨_,e,_⟩=>by rw[e];show AW er) ?_ ?_
    . intro m y τ acc H' R1 R0 hy _ hI k1 k0;lk;obtain⟨⟨o,rfl⟩,rfl,hp⟩:=hI;obtain⟨b,ks,rfl,ek,eb⟩:=hw.at hy;rw[Bs]at ek;obtain⟨⟨t,z,am⟩,ei,rfl⟩:=Du.mp ek;k_in;have fs:=LF (p:=λi:AO=>Aa (lo<=i.2.2/\i.2.2<=hi)) ei;show⟨_,rfl,p,_,_,_,rfl,rfl,e0,Aj (j:=3) rfl,_,rfl,b,_,_,_,rfl,rfl,Ao eb,Aj (j:=2) rfl,_,_,rfl,rfl,_,rfl,?_⟩;have no:¬(lo<=am/\am<=hi)->Cc H' acc (((L.take (m+1)).filter λi=>Aa (lo<=i.2.2/\i.2.2<=hi)).map Ei):=λq=>by rw[fs,AEu (by rw[AE1];show q),C2];show hp
      show Kl (λh1=>?_) λh1=>⟨_,rfl,Ds (k0 _ _ ⟨⟨_,rfl⟩,rfl,no λq=>h1 q.1⟩)⟩;show⟨_,rfl,p,_,_,_,rfl,rfl,e0,Aj (j:=4) rfl,_,_,rfl,rfl,_,rfl,Kl (λh2=>?_) λh2=>k0 _ _ ⟨⟨_,rfl⟩,rfl,no λq=>h2 q.2⟩⟩;show⟨_,rfl,k1 _ _ _ ⟨⟨_,rfl⟩,rfl,?_⟩⟩;rw[fs,AEv (by rw[AE1];show⟨h1,h2⟩),CQ];show hp.xp eb
    . intro τ acc H' la hI D hD;obtain⟨_,rfl,hp⟩:_:=hI;rw[Ed (Bw hx.symm)]at hp;show k D _ ((C6 _).du hD) ⟨_,Af,hp.ab ((C6 _).du hD).tp⟩ (.inl hD)
  . show⟨_,rfl,p,_,_,_,rfl,rfl,e0,e1,rfl,_,rfl,KQ (i:=2) rfl (λq2=>?_) λq2=>?_⟩
    . lk;obtain⟨n,a,f,g,rfl⟩:∃n a f g,st=.turn n a f g:=by cases st<;>first|show⟨_,_,_,_,rfl⟩|cases q2
      obtain⟨L,rfl⟩:=UE cl;obtain⟨r,xs,rfl,er,hw⟩:=Te cs;k_in;have hL:=cz L (.head _);have hx:=hw.de;rw[As]at hx;show⟨_,rfl,ls,_,_,_,rfl,rfl,AW els,Aj (j:=0) rfl,r,rfl,⟨_,AW er⟩,?_⟩;show Jo (K:=AH) (xs:=xs) (λm τ acc H'=>(∃o,τ=[o,AA (.ref p)])/\An H H'/\Cc H' acc (((L.take m).map (PU f g)).map Ei)) (by lia) ⟨⟨AG,rfl⟩,C6 _,Kt _⟩ (λm τ acc H'⟨_,s,_⟩=>AW (s _ _ er)) ?_ ?_
      . intro m y τ acc H' R1 hy _ hI k1;lk;obtain⟨⟨o,rfl⟩,s,hp⟩:=hI;obtain⟨b,ks,rfl,ek,eb⟩:=hw.at hy;rw[Bs]at ek;obtain⟨i,ei,rfl⟩:=Du.mp ek;k_in;show⟨_,rfl,_,rfl,p,b,n,a,f,g,i,rfl,s _ _ e,ok,s _ _ eb,λr2 H2 s2 e2=>k1 _ _ _ ⟨⟨_,rfl⟩,s.aa s2,?_⟩⟩;rw[Dt,ei,CQ,CQ];show(hp.ab s2.tp).xp e2
      . intro τ acc H' la hI D hD;obtain⟨_,s,hp⟩:_:=hI;rw[Ed (Bw hx.symm)]at hp;show k D _ (s.du hD) ⟨_,Af,hp.ab ((C6 _).du hD).tp⟩ (.inl (s.ba hD))
    . show⟨_,rfl,p,_,_,_,rfl,rfl,e0,e1,rfl,_,rfl,KQ (i:=3) rfl (λq3=>?_) λq3=>?_⟩
      . lk;obtain⟨n,a,b,rfl⟩:∃n a b,st=.both n a b:=by cases st<;>first|show⟨_,_,_,rfl⟩|cases q3
        obtain⟨L,M,rfl⟩:=pW cl;obtain⟨r,r',xs,xs',rfl,er,er',hw,hw'⟩:=W4 cs;k_in;have hL:=cz L (.head _);have hM:=cz M (.tail _ (.head _));have hx:=hw.de;have hx':=hw'.de;rw[As]at hx hx';show⟨_,rfl,ls,_,_,_,rfl,rfl,AW els,Aj (j:=0) rfl,_,rfl,ls,_,_,_,rfl,rfl,AW els,Aj (j:=1) rfl,r,r',xs,xs',rfl,rfl,er,er',by lia,λD hD=>k D _ ((C6 _).du hD) ⟨_,Af,?_⟩ (.inl hD)⟩;change Cc _ _ ((L++M).map Ei);rw[CQ];show Cc.ab (Dh hw hw') ((C6 _).du hD).tp
      . have n1:st.bu.length=1/\∀L,LJ st [L]=L:=by cases st<;>first|show⟨rfl,λ_=>rfl⟩|show absurd rfl n0|show absurd rfl q1|show absurd rfl q2|show absurd rfl q3|show absurd rfl n4
        lk;obtain⟨L,rfl⟩:=UE (cl.trans n1.1);obtain⟨r,xs,rfl,er,hw⟩:=Te cs;k_in;show⟨_,rfl,ls,_,_,_,rfl,rfl,AW els,Aj (j:=0) rfl,k r _ (C6 _) (by rw[n1.2];show⟨_,er,hw⟩) (.inr (By.mpr rfl))⟩
def GR(wi:Int)(A B:List AO):List (List AK):=A.flatMap λi=>GU 0 wi i B
theorem Xp(s wi:Int)(i:AO)(A B:List AO):GU s wi i (A++B)=GU s wi i A++GU s wi i B:=by unfold GU;rw[GZ,CQ]
theorem gX(wi:Int)(A B:List AO)(i:AO):GR wi (A++[i]) B=GR wi A B++GU 0 wi i B:=by unfold GR;simp
theorem XJ(f g:D->List J):∀l:List D,(l.flatMap λx=>f x++g x).Perm (l.flatMap f++l.flatMap g)|[]=>.nil|a::l=>by simp only[Ek];show((AD0 _).append (XJ f g l)).trans ?_;rw[Ea,Ea];show yI _ ?_;rw[<-Ea,<-Ea];show ABb _ Sh
theorem XC(wi:Int)(i:AO):∀A:List AO,(A.flatMap λj=>GU 0 wi j [i])=GU 1 wi i A
 |[]=>rfl|j::A=>by
  rw[Ek,XC wi i A];change _=GU 1 wi i ([j]++A);rw[Xp];congr 1;unfold GU;rw[Gp,Gp];by_cases h:j.2.1=i.2.1/\i.1-wi<=j.1/\j.1<=i.1+wi
  . rw[AEv (AEx h),AEv (AEx ⟨h.1.symm,ABX.mpr h.2.2,ABX.mp h.2.1⟩)];change[Mn 0 j i]=[Mn 1 i j];unfold Mn;rw[jO,h.1];simp
  . rw[AEu (λq=>h (by have:=AEy q;show⟨this.1.symm,by lia,by lia⟩)),AEu (by simpa using h)];rfl
theorem gY(wi:Int)(A B:List AO)(i:AO):(GR wi A (B++[i])).Perm (GR wi A B++GU 1 wi i A):=by unfold GR;rw[<-XC];show Vv (SY ?_) (XJ _ _ A);congr 1;funext j;show Xp ..
theorem XB(wi:Int)(A B:List AO):(GR wi A B).length<=A.length*B.length:=by unfold GR;induction A with|nil=>simp|cons i A D=>
 rw[Ek,B8,Kw];have:(GU 0 wi i B).length<=B.length:=by unfold GU;rw[As];show D3 _ _
 lia
def nX(E:CF):BO:=λN H Q _=>(TN λ(C:List AE)(j I K L Y Z F G r1:AE)(W:Int)(J U A B:List AO)=>Mc (N=[.ref j,.ref F]) (DP E C H j I K L Y Z W J U) ((∀c∈C,∃o,H c=AA o)) (H F=AA (.lst [.ref G,.ref r1])) (GP H G A) (GP H r1 B) (J.length+A.length<=700) (U.length+B.length<=700) (∀D m M V,Gf Y Z H D->DP E C D j I K L Y Z W (J++A) (U++B)->H m=AG->D m=AA (.lst M)->Cc D M V->(GR W (J++A) (U++B)).Perm (GR W J U++V)->Q (.ref m) D))
theorem kN(T:BQ AH Ag AM):T.vp.Ok BM P w Ag base 4 (nX AM):=by
  show T.vp.ok λnd _ _ _ _ _ hr H vs Q E h=>?_;obtain⟨ex,j,sl,x0,x1,d0,d1,ls,r0,r1,wi,L0,L1,C,B,rfl,jr,hex,els,⟨xa,ea,wa⟩,⟨xb,eb,wb⟩,l0,l1,k⟩:_:=h;show⟨_,(Aq (Ks (i:=2) nd rfl (Fo rfl) (CW Dq)) (Aq (C8 DF rfl (P0 (K:=AH) (by rfl) T.fi (Bm 1)) (Jk rfl (EB (Js (i:=3) nd rfl (Fo rfl)) (EB (Js (i:=4) nd rfl (Fo rfl)) JJ))) (Ac (C8 DF rfl (Cn (K:=AH) (Bm 4)) (Js (i:=5) nd rfl (Fo rfl)) (Ac (D1 (Kr (K:=AH) Lf OZ QN M8 (Bm 2) #v[GV (Bm 0) T.cv (jX T) hr #v[Bm 3,Bm 5]])))))) (Ac (BI (Bm 2))))),?_⟩;have sz:Ay=16777216:=DW;show⟨BY _,λu hu=>?_⟩;have s0:=CL (o:=.lst []) hu;have eu0:(AQ H u (.lst [])) u=AA (.lst []):=Af;generalize AQ H u (.lst [])=H0 at s0 eu0⊢;have sx:∀{n:Nat}{x:AD},[AD.ref r0,AD.ref r1][n]?=AA x->n<=1/\∃r xs,x=.ref r/\H r=AA (.lst xs)/\Cc H xs ((if n=0 then C else B).map Ei):=λ{n x}e=>by match n,e with |0,e=>cases e;show⟨by decide,r0,xa,rfl,ea,wa⟩|1,e=>cases e;show⟨by decide,r1,xb,rfl,eb,wb⟩
  have bnd:∀(X Y:List AO)(kss:List (List AK)),X.length<=700->Y.length<=700->(GR wi X Y).Perm (GR wi L0 L1++kss)->kss.length<=490000:=λX Y kss hX hY pm=>by have h1:=pm.length_eq;rw[B8]at h1;have h2:=XB wi X Y;have h3:=c6 hX hY;lia
  show⟨_,rfl,ls,rfl,⟨_,AW (s0 _ _ els)⟩,Rv (K:=AH) (xs:=[.ref r0,.ref r1]) (λn σ H'=>(IM λ(o3 o4 o5:Option AD)(acc:List AD)(kss:List (List AK))=>JV (σ=(Ww j ls u o3 o4 o5)) (Gf d0 d1 H H') (DP AM (u::ex) H' j sl x0 x1 d0 d1 wi (L0++(if n=0 then[]else C)) (L1++(if n<=1 then[]else B))) (H' u=AA (.lst acc)) (Cc H' acc kss) ((GR wi (L0++(if n=0 then[]else C)) (L1++(if n<=1 then[]else B))).Perm (GR wi L0 L1++kss)))) ⟨AG,AG,AG,[],[],rfl,Yg s0 _ _,by simpa using(jr.gv hu).af s0,eu0,Kt _,by simp⟩ (λn σ H' _ hh=>by obtain⟨_,_,_,_,_,_,s',_⟩:=hh;show AW (jr.y s' els (by intro kvs z;cases z))) ?_ ?_⟩
  . intro n x σ H1 p hx hI hp;lk;obtain⟨o3,o4,o5,acc,kss,rfl,s1,jr1,eu,hw1,pm1⟩:=hI;obtain⟨n1,r,xs,rfl,er,hw⟩:=sx hx;k_in;have s2:=CL (o:=.tup [.int (n:Int),.ref r]) hp;have lx:=hw.de;rw[As]at lx;show⟨p,_,rfl,Ao Af,rfl,_,_,rfl,_,_,rfl,rfl,?_⟩;show⟨_,rfl,r,rfl,⟨_,AW (s2 _ _ (jr.y s1 er (by intro kvs z;cases z)))⟩,FJ (K:=AH) (xs:=xs) (λm σ H'=>(EH λ(o5:Option AD)(acc:List AD)(kss:List (List AK))=>JV (σ=(Ww j ls u (AA (.int (n:Int))) (AA (.ref r)) o5)) (Gf d0 d1 H H') (DP AM (u::ex) H' j sl x0 x1 d0 d1 wi (L0++(if n=0 then C.take m else C)) (L1++(if n=0 then[]else B.take m))) (H' u=AA (.lst acc)) (Cc H' acc kss) ((GR wi (L0++(if n=0 then C.take m else C)) (L1++(if n=0 then[]else B.take m))).Perm (GR wi L0 L1++kss)))) ⟨_,acc,kss,rfl,s1.aa (Yg s2 _ _),?_,s2 _ _ eu,hw1.ab s2.tp,?_⟩ (λm σ H' _ hh=>by obtain⟨_,_,_,_,s',_⟩:=hh;show AW (jr.y s' er (by intro kvs z;cases z))) ?_ ?_⟩
    . have j2:=jr1.af s2;by_cases hn:n=0;.subst hn;simpa using j2
      . have:n=1:=Fm n1 (Ky.mpr hn);subst this;simpa using j2
    . by_cases hn:n=0;.subst hn;simpa using pm1
      . have:n=1:=Fm n1 (Ky.mpr hn);subst this;simpa using pm1
    . intro m y σ H2 hy hI;lk;obtain⟨o5,acc,kss,rfl,sy,jr2,eu2,hw2,pm2⟩:=hI;obtain⟨b,ks,rfl,ek,eb2⟩:=hw.at hy;rw[Bs]at ek;obtain⟨it,ei,rfl⟩:=Du.mp ek;obtain⟨dx,ej⟩:=jr2.cg;k_in;have hl0:(L0++(if n=0 then C.take m else C)).length<=700:=by
        rw[B8];split;.rw[El];lia
        .show l0
      have hl1:(L1++(if n=0 then[]else B.take m)).length<=700:=by
        rw[B8];split;.simp;show ET l1
        .rw[El];lia
      have lacc:acc.length<=490000:=by rw[hw2.de];show bnd _ _ _ hl0 hl1 pm2
      have h01:(n:Int)=0\/(n:Int)=1:=by lia
      have hex2:∀c∈u::ex,∃o,H2 c=AA o:=λc hc=>by
        rcases Ca.mp hc with rfl|hc;.show⟨_,eu2⟩
        . obtain⟨o,eo⟩:=hex c hc;obtain⟨⟨k0,g0⟩,k1,g1⟩:=jr2.tj;by_cases q0:c=d0;.rw[q0];show⟨_,g0⟩
          . by_cases q1:c=d1;.rw[q1];show⟨_,g1⟩
            .show⟨_,sy c o q0 q1 eo⟩
      show⟨_,rfl,.inl ⟨rfl,_,AW eu2⟩,_,rfl,j,dx,_,rfl,ej,by rfl,_,rfl,_,rfl,u::ex,j,sl,x0,x1,d0,d1,b,wi,(n:Int),_,_,it,rfl,jr2,h01,hex2,jr.ach sy _ _ eb2,Ah hl0 (by decide),Ah hl1 (by decide),λH3 r3 xr kr sx3 jr3 hr3 er3 hwr sdr pmr=>?_⟩;have sy3:Gf d0 d1 H2 H3:=by
        rcases h01 with e|e;.rw[AEv e]at sx3;show Yh sx3
        .rw[AEu (by simp_all)]at sx3;show Yi sx3
      have eu3:=jr2.y sy3 eu2 (by intro kvs z;cases z);have hw3:=hw2.ab (jr2.ach sy3);have lr:xr.length<=700:=by
        rw[hwr.de,pmr.length_eq];unfold GU;rw[As];show Ah (D3 _ _) ?_;split;.show hl1
        .show hl0
      show⟨u,r3,_,_,rfl,rfl,eu3,er3,by lia,?_⟩;have tpu:Bc H3 (AQ H3 u (.lst (acc++xr))):=(IU H3).du eu3 λxs=>by intro z;cases z
      have j4:=(jr3.iz).ur (o:=.lst (acc++xr)) eu3 (.head _);have tk:(L0++(if n=0 then C.take (m+1)else C))=(if(n:Int)=0 then(L0++(if n=0 then C.take m else C))++[it]else(L0++(if n=0 then C.take m else C)))/\(L1++(if n=0 then[]else B.take (m+1)))=(if(n:Int)=0 then(L1++(if n=0 then[]else B.take m))else(L1++(if n=0 then[]else B.take m))++[it]):=by
        by_cases hn:n=0
        . subst hn;have ei:C[m]?=AA it:=ei;simp[Dt,ei]
        . have:n=1:=Fm n1 (Ky.mpr hn);subst this;have ei:B[m]?=AA it:=ei;simp[Dt,ei]
      show⟨_,acc++xr,kss++kr,rfl,λc o q0 q1 e=>?_,by rw[tk.1,tk.2];show j4,Af,Cc.ab (Dh hw3 hwr) tpu,?_⟩
      . have hc:c≠u:=λz=>by rw[z,hu]at e;cases e
        rw[AX hc];show(sy.aa sy3) c o q0 q1 e
      . rw[tk.1,tk.2,<-Ea];rcases h01 with e|e
        . rw[AEv e]at pmr;rw[AEv e,AEv e];rw[e]at pmr;rw[gX];show pm2.append pmr.symm
        . rw[AEu (by simp_all)]at pmr;rw[AEu (show¬(n:Int)=0 by simp_all),AEu (show¬(n:Int)=0 by simp_all)];rw[e]at pmr;show(gY ..).trans (pm2.append pmr.symm)
    . intro σ H2 hI;obtain⟨o5,acc,kss,rfl,sy,jr2,eu2,hw2,pm2⟩:_:=hI;have tk:(L0++(if n=0 then C.take xs.length else C))=(L0++(if n+1=0 then[]else C))/\(L1++(if n=0 then[]else B.take xs.length))=(L1++(if n+1<=1 then[]else B)):=by
        by_cases hn:n=0
        . subst hn;rw[AEv rfl]at lx;simp[lx]
        . have:n=1:=Fm n1 (Ky.mpr hn);subst this;rw[AEu (by decide)]at lx;simp[lx]
      rw[tk.1,tk.2]at jr2 pm2;show⟨_,_,_,acc,kss,rfl,sy,jr2,eu2,hw2,pm2⟩
  . intro σ H1 hI;obtain⟨o3,o4,o5,acc,kss,rfl,s1,jr1,eu,hw1,pm1⟩:_:=hI;show⟨_,rfl,k H1 u acc kss s1 (by simpa using jr1.iz) hu eu hw1 (by simpa using pm1)⟩
def T9(i j:AO):AO:=(Nj i.1 j.1,i.2.1,i.2.2-j.2.2)
def PD(wi:Int)(i j:AO):Bool:=Aa (j.2.1=i.2.1/\i.1-wi<=j.1/\j.1<=i.1+wi)
def EE(wi:Int)(A B:List AO):List AO:=A.flatMap λi=>(B.filter (PD wi i)).map (T9 i)
theorem Th(wi:Int)(A B:List AO):GR wi A B=(EE wi A B).map Ei:=by unfold GR EE GU;rw[cJ];congr 1;funext i;rw[Cu];rfl
def PV:List AK->AO|[.inl t,.inr z,.inl a]=>(t,z,a)|_=>(0,"",0)
theorem pZ(i:AO):PV (Ei i)=i:=rfl
def Eo(s:AU)(bt:AF->List AO)(S:List AO×List AO)(e:FP):Prop:=match s with|.take n k=>bt n=L8 k e|.join n a b D=>(EE D (S.1++bt a) (S.2++bt b)).Perm (EE D S.1 S.2++bt n)|.only n a U J=>bt n=LJ (.only n a U J) [bt a]|.turn n a f g=>bt n=LJ (.turn n a f g) [bt a]|.both n a b=>bt n=bt a++bt b|.gap n a _ _=>bt n=bt a|.each n a _ _ _=>bt n=bt a
theorem XM(f g:D->List J)(h:∀x,(f x).Perm (g x)):∀l:List D,(l.flatMap f).Perm (l.flatMap g)|[]=>.nil|x::r=>by show(h x).append (XM f g h r)
theorem XA(p:A.Perm D)(q:B.Perm J):(EE wi A B).Perm (EE wi D J):=(p.flatMap_right _).trans (XM _ _ (λi=>(q.filter _).map _) D)
theorem gZ:EE wi (A++C) B=EE wi A B++EE wi C B:=Vz
theorem XF:∀{A:List AO},(EE wi A (B++D)).Perm (EE wi A B++EE wi A D)|[]=>.nil|i::A=>by have J:=XF (wi:=wi) (B:=B) (D:=D) (A:=A);unfold EE at J⊢;rw[Ek,Ek,Ek,GZ,CQ];show(ADy (.refl _) J).trans ?_;rw[Ea,Ea];show .append (.refl _) ?_;rw[<-Ea,<-Ea];show Sh.append (.refl _)
def XD(wi:Int)(A B C D:List AO):List AO:=EE wi A D++EE wi C (B++D)
theorem XE:(EE wi (A++C) (B++D)).Perm (EE wi A B++XD wi A B C D):=by rw[gZ];show(XF.append (.refl _)).trans (by rw[Ea];show .refl _)
theorem Eo.abd(J:D s.nm=bt s.nm)(U:∀a∈s.bu,D a=bt a)(h:Eo s bt S e):Eo s D S e:=by cases s with|take n k=>show J.trans h|only n a Y W=>change D n=LJ _ _;rw[U a (.head _),<-h];show J|turn n a f g=>change D n=LJ _ _;rw[U a (.head _),<-h];show J|both n a b=>change D n=D a++D b;rw[U a (.head _),U b (.tail _ (.head _)),<-h];show J|join n a b V=>have J:D n=bt n:=J;change(EE V _ _).Perm _;rw[U a (.head _),U b (.tail _ (.head _)),J];show h|gap n a s m=>change D n=D a;rw[U a (.head _),<-h];show J|each n a s z m=>change D n=D a;rw[U a (.head _),<-h];show J
structure ED(ss:List AU):Prop where
 bb:∀(i i':Nat)s s',ss[i]?=AA s->ss[i']?=AA s'->s.nm=s'.nm->i=i'
 oi:∀(i:Nat)s a,ss[i]?=AA s->a∈s.bu->∃(i':Nat)(s':AU),i'<i/\ss[i']?=AA s'/\s'.nm=a/\s'.da=AR
 ok:∀s∈ss,PR s
def CK(bt:AF->List AO)(n:AF)(L:List AO):AF->List AO:=λa=>if a=n then L else bt a
theorem Iz:CK bt n L n=L:=AEv rfl
theorem ED.acm(h:ED ss){i k:Nat}(D:ss[i]?=AA s)(J:ss[k]?=AA t)(U:k<i)(bt:AF->List AO)(L:List AO):CK bt s.nm L t.nm=bt t.nm:=AEu λe=>by have:=h.bb k i t s J D e;simp_all
theorem ED.ig(h:ED ss){i k:Nat}(J:ss[i]?=AA s)(U:ss[k]?=AA t)(W:k<=i)(bt:AF->List AO)(L:List AO)(V:a∈t.bu):CK bt s.nm L a=bt a:=by obtain⟨Y,Z,l,D,rfl,_⟩:_:=h.oi k t a U V;show h.acm J D (Bh l W) bt L
theorem ED.xw(h:ED ss)(U:ss[i]?=AA s){sd:Nat->List AO×List AO}(L:List AO)(Y:∀(k:Nat)t,k<i->ss[k]?=AA t->Eo t bt (sd k) e)(Z:Eo s (CK bt s.nm L) (sd i) e):∀(k:Nat)t,k<i+1->ss[k]?=AA t->Eo t (CK bt s.nm L) (sd k) e:=λk t V J=>by
 by_cases D:k=i;.subst D;rw[U]at J;cases J;show Z
 .show(Y k t (EL (DM V) D) J).abd (h.acm U J (EL (DM V) D) bt L) λa W=>h.ig U J (DM V) bt L W
def EW(H:AI)(ps:List AD)(ss:List AU):Prop:=Az (λx s=>∃a,x=.ref a/\DY H a s) ps ss
theorem EW.ab(h:EW H ps ss)(t:Bc H H'):EW H' ps ss:=Ej (λx s⟨a,e,q⟩=>⟨a,e,q.tp t⟩) h
theorem EW.de(h:EW H ps ss):ps.length=ss.length:=(CN h).1
theorem EW.at(h:EW H ps ss){i:Nat}(e:ps[i]?=AA x):∃a s,x=.ref a/\ss[i]?=AA s/\DY H a s:=by lk;obtain⟨l,f⟩:=CN h;have J:=(BU.mp e).1;have D:=CG (show i<ss.length by simp_all);obtain⟨a,r1,r2⟩:=f i x _ e D;k_in;show⟨a,_,r1,D,r2⟩
def Ba(p:AE->Prop)(H H':AI):Prop:=∀b o,¬p b->H b=AA o->H' b=AA o
theorem DP.cx{K:AE}(h:DP AM ex H j G K L U W wi B E)(s:Ba p H H')(Y:∀b,p b->(b∈ex/\∃xs,H b=AA (.lst xs))\/∃kvs,H b=AA (.dK kvs))(N:¬p U)(O:¬p W):DP AM ex H' j G K L U W wi B E:=by
 have Z:∀{b:AE}{C D:AE}{J:List _},H b=AA _->H' b=AA (.ins C D J):=λ{b C D J}e=>s _ _ (λq=>by rcases Y b q with⟨_,xs,z⟩|⟨kvs,z⟩<;>(rw[e]at z;cases z)) e;have A:∀{b:AE}{xs:List AD},b∉ex->H b=AA _->H' b=AA (.lst xs):=λ{b xs}n e=>s _ _ (λq=>by
  rcases Y b q with⟨z,_⟩|⟨kvs,z⟩;.show n z
  .rw[e]at z;cases z) e;have I:Bc H H':=λb xs e=>s _ _ (λq=>by rcases Y b q with⟨_,xs,z⟩|⟨kvs,z⟩<;>(rw[e]at z;cases z)) e;obtain⟨⟨D,e⟩,M,P,r1,n,F⟩:_:=h;show⟨⟨D,Z e⟩,A F M,P.ab (λC D J e=>Z e) (λkvs e=>s _ _ N e) (λb xs n e=>A n e) I,r1.ab (λC D J e=>Z e) (λkvs e=>s _ _ O e) (λb xs n e=>A n e) I,n,F⟩
theorem KY(h:Fi H a u)(s:∀o,H a=AA o->H' a=AA o):Fi H' a u:=by show h.elim (λe=>.inl (s _ e)) λD=>?_;obtain⟨o,e⟩:=D;show .inr ⟨o,s _ e⟩
theorem YW(h:Fi H a u)(D:H b=AG):a≠b:=λz=>by rcases h with e|⟨o,e⟩<;>(rw[z,D]at e;cases e)
structure D8 where
 j:AE
 sl:AE
 x0:AE
 x1:AE
 d0:AE
 d1:AE
def Bq(ss:List AU)(i:Nat):Prop:=∃(n a b:AF)(D:Int),ss[i]?=AA (.join n a b D)
structure CY(ad:CF)(ex:List AE)(H:AI)(ss:List AU)(dj:AE)(jkvs:List (AK×AD))(jd:Nat->D8)(sd:Nat->List AO×List AO):Prop where
 ai:Fi H dj (.dK jkvs)dc:∀(i:Nat)(n a b:AF)(wi:Int),ss[i]?=AA (.join n a b wi)->BH jkvs (.inl (i:Int))=AA (.ref (jd i).j)/\DP ad ex H (jd i).j (jd i).sl (jd i).x0 (jd i).x1 (jd i).d0 (jd i).d1 wi (sd i).1 (sd i).2
 bb:∀i i':Nat,Bq ss i->Bq ss i'->i≠i'->((jd i').d0≠(jd i).d0/\(jd i').d0≠(jd i).d1)/\(jd i').d1≠(jd i).d0/\(jd i').d1≠(jd i).d1
 uw:∀i:Nat,Bq ss i->dj≠(jd i).d0/\dj≠(jd i).d1
def DR(ss:List AU)(D:Nat->D8)(b:AE):Prop:=∃i,Bq ss i/\(b=(D i).d0\/b=(D i).d1)
theorem CY.af(h:CY AM ex H ss J D U sd)(s:An H H'):CY AM ex H' ss J D U sd:=⟨KY h.ai (s _),λi n a b W e=>⟨(h.dc i n a b W e).1,(h.dc i n a b W e).2.af s⟩,h.bb,h.uw⟩
theorem CY.gv(h:CY AM ex H ss J D U sd)(Y:H l=AG):CY AM (l::ex) H ss J D U sd:=⟨h.ai,λi n a b W e=>⟨(h.dc i n a b W e).1,(h.dc i n a b W e).2.gv Y⟩,h.bb,h.uw⟩
theorem CY.iz(h:CY AM (l::ex) H ss J D U sd):CY AM ex H ss J D U sd:=⟨h.ai,λi n a b W e=>⟨(h.dc i n a b W e).1,(h.dc i n a b W e).2.iz⟩,h.bb,h.uw⟩
theorem CY.cx(h:CY AM ex H ss J D U sd)(s:Ba p H H')(A:∀b,p b->(b∈ex/\∃xs,H b=AA (.lst xs))\/∃kvs,H b=AA (.dK kvs))(W:∀b,p b->¬DR ss U b)(Z:¬p J):CY AM ex H' ss J D U sd:=⟨KY h.ai λo=>s _ o Z,λi n a b Y e=>⟨(h.dc i n a b Y e).1,(h.dc i n a b Y e).2.cx s A (λq=>W _ q ⟨i,⟨_,_,_,_,e⟩,.inl rfl⟩) λq=>W _ q ⟨i,⟨_,_,_,_,e⟩,.inr rfl⟩⟩,h.bb,h.uw⟩
theorem CY.iq(h:CY AM ex H ss B J D sd)(W:ss[i]?=AA (.join n a b wi))(s:Gf (D i).d0 (D i).d1 H H')(g:DP AM ex H' (D i).j (D i).sl (D i).x0 (D i).x1 (D i).d0 (D i).d1 wi M0 M1):CY AM ex H' ss B J D λk=>if k=i then(M0,M1)else sd k:=by
 have Y:Bq ss i:=⟨_,_,_,_,W⟩;show⟨KY h.ai λo=>s _ o (h.uw i Y).1 (h.uw i Y).2,λk G E F C U=>⟨(h.dc k _ _ _ _ U).1,?_⟩,h.bb,h.uw⟩;by_cases Z:k=i
 . subst Z;rw[W]at U;cases U;rw[AEv rfl];show g
 . rw[AEu Z];have A:=h.bb i k Y ⟨_,_,_,_,U⟩ (Gb Z);show(h.dc i _ _ _ _ W).2.wm (h.dc k _ _ _ _ U).2 s A.1 A.2
def IP(H:AI)(xs:List AD)(ps:List (Int×AO)):Prop:=Az (λx p=>∃a q,x=.ref a/\H a=AA (.tup [.int p.1,.ref q])/\H q=AA (.tup ((Ei p.2).map Aw))) xs ps
theorem IP.ab(h:IP H xs ps)(t:Bc H H'):IP H' xs ps:=Ej (λx p U=>by obtain⟨a,q,e,D,J⟩:=U;show⟨a,q,e,t _ _ D,t _ _ J⟩) h
theorem IP.de(h:IP H xs ps):xs.length=ps.length:=(CN h).1
theorem IP.at(h:IP H xs ps){i:Nat}(e:xs[i]?=AA x):∃a q s it,x=.ref a/\ps[i]?=AA (s,it)/\H a=AA (.tup [.int s,.ref q])/\H q=AA (.tup ((Ei it).map Aw)):=by lk;obtain⟨l,f⟩:=CN h;have U:=(BU.mp e).1;have D:=CG (show i<ps.length by simp_all);obtain⟨a,q,r1,r2,J⟩:=f i x _ e D;k_in;show⟨a,q,_,_,r1,D,r2,J⟩
theorem CY.cu(h:CY AM ex H ss U D W sd)(e:∀i,Bq ss i->sd' i=sd i):CY AM ex H ss U D W sd':=⟨h.ai,λi n a b Y J=>⟨(h.dc i n a b Y J).1,by rw[e i ⟨_,_,_,_,J⟩];show(h.dc i n a b Y J).2⟩,h.bb,h.uw⟩
def FH(ss:List AU)(sd:Nat->List AO×List AO)(n:Nat)(bt:AF->List AO)(i:Nat):List AO×List AO:=match ss[i]? with|AA (.join _ a b _)=>if i<n then((sd i).1++bt a,(sd i).2++bt b)else sd i|_=>sd i
theorem KZ(e:ss[i]?=AA (.join m a b wi)):FH ss sd n bt i=if i<n then((sd i).1++bt a,(sd i).2++bt b)else sd i:=by unfold FH;rw[e]
theorem mW(ss:List AU)(sd:Nat->List AO×List AO)(bt:AF->List AO):FH ss sd 0 bt=sd:=by
 funext i;unfold FH;split;.show AEu (OW _)
 .rfl
theorem mV(V:ED ss)(J:ss[n]?=AA s)(Y:s.no≠4)(L:List AO):∀i,Bq ss i->FH ss sd (n+1) (CK bt s.nm L) i=FH ss sd n bt i:=by
  intro i W;obtain⟨m,a,b,A,D⟩:_:=W;rw[KZ D,KZ D];by_cases h:i<n;.rw[AEv (y7 h),AEv h,V.ig J D (B6 h) bt L (.head _),V.ig J D (B6 h) bt L (.tail _ (.head _))]
  . by_cases U:i=n
    . subst U;rw[J]at D;cases D;show absurd rfl Y
    .rw[AEu (OX U (λZ=>Fm (DM Z) (Ga h))),AEu h]
theorem mU(U:ED ss)(D:ss[n]?=AA (.join m a b wi))(L:List AO):∀i,Bq ss i->FH ss sd (n+1) (CK bt m L) i=if i=n then((FH ss sd n bt n).1++bt a,(FH ss sd n bt n).2++bt b)else FH ss sd n bt i:=by
  intro i E;obtain⟨H,Z,A,G,J⟩:_:=E;have V:=U.ig D D (Ak _) bt L (.head _);have W:=U.ig D D (Ak _) bt L (.tail _ (.head _));have V:CK bt m L a=bt a:=V;have W:CK bt m L b=bt b:=W;by_cases Y:i=n;. subst Y;rw[D]at J;rw[KZ D,KZ D,AEv rfl,AEv (JQ _),AEu (J4 _),V,W]
  . rw[AEu Y,KZ J,KZ J];by_cases h:i<n
    . have B:CK bt m L Z=bt Z:=U.ig D J (by lia) bt L (.head _);have C:CK bt m L A=bt A:=U.ig D J (by lia) bt L (.tail _ (.head _));rw[AEv (by lia),AEv h,B,C]
    .rw[AEu (OX h (λF=>EL (DM F) Y)),AEu h]
def FT(ss:List AU)(bt:AF->List AO):Nat->List (Int×AO)|0=>[]|n+1=>FT ss bt n++(match ss[n]? with|AA s=>if s.da=AJ then(bt s.nm).map λi=>((n:Int),i)else[]|AG=>[])
theorem Yw(J:ED ss)(D:ss[i]?=AA s)(bt:AF->List AO)(L:List AO):∀n,n<=i->FT ss (CK bt s.nm L) n=FT ss bt n|0,_=>rfl|n+1,h=>by unfold FT;rw[Yw J D bt L n (ET h)];congr 1;cases U:ss[n]? with|none=>rfl|some t=>change(if t.da=AJ then _ else _)=_;rw[J.acm D U (by assumption) bt L]
theorem l7{st:AU}(W:st.no≠0)(Y:st.no≠4)(U:L=LJ st (st.bu.map bt))(J:∀a∈st.bu,CK bt st.nm L a=bt a):Eo st (CK bt st.nm L) S e:=by cases st with|take=>show absurd rfl W|join=>show absurd rfl Y|only n f A Z=>have D:CK bt n L f=bt f:=J f (.head _);change CK bt n L n=LJ _ [CK bt n L f];rw[Iz,D,U];rfl|turn n f x y=>have D:CK bt n L f=bt f:=J f (.head _);change CK bt n L n=LJ _ [CK bt n L f];rw[Iz,D,U];rfl|both n f g=>have D:CK bt n L f=bt f:=J f (.head _);have V:CK bt n L g=bt g:=J g (.tail _ (.head _));change CK bt n L n=CK bt n L f++CK bt n L g;rw[Iz,D,V,U];rfl|gap n f x y=>have D:CK bt n L f=bt f:=J f (.head _);change CK bt n L n=CK bt n L f;rw[Iz,D,U];rfl|each n f x y z=>have D:CK bt n L f=bt f:=J f (.head _);change CK bt n L n=CK bt n L f;rw[Iz,D,U];rfl
theorem qA{X Y:List AO}(p:(X.map Ei).Perm (Y.map Ei++kss)):∃M:List AO,kss=M.map Ei/\X.Perm (Y++M):=by
  show⟨kss.map PV,?_,?_⟩
  . rw[Cu];have:∀D∈kss,(Ei∘PV) D=D:=λD J=>by obtain⟨i,_,rfl⟩:=BE.mp (p.mem_iff.mpr (Fj _ J));rfl
    rw[MS this,ABq]
  . have:=p.map PV;have e:PV∘Ei=id:=funext pZ;rw[CQ,Cu,Cu,e,V3,V3]at this;show this
theorem UJ[DecidableEq D](kvs:List (D×AD))(k:D)(v:AD):(BJ kvs k v).length<=kvs.length+1:=by
 unfold BJ;split;.simp
 .rw[B8];show Ak _
theorem Yv:∀{n:Nat},(∀(i:Nat)s,i<n->ss[i]?=AA s->(bt s.nm).length<=600)->(FT ss bt n).length<=600*n |0,_=>Ak _|n+1,h=>by have D:=Yv (n:=n) λi s V J=>h i s (by lia) J;unfold FT;rw[B8];cases U:ss[n]? with |none=>show Kx (WA D)|some t=>
 have:=h n t (by simp) U;change _+(if t.da=AJ then _ else[]).length<=_;split;.rw[As];lia
 .show Kx (WA D)
def Er(s:AU)(z:AF->Nat)(m:Nat):Nat:=match s with|.take ..=>m|.only _ a _ _|.turn _ a _ _|.gap _ a _ _|.each _ a _ _ _=>z a|.both _ a b=>z a+z b|.join _ a b _=>z a*z b
theorem W9(wi:Int)(A B:List AO):(EE wi A B).length<=A.length*B.length:=by have h:=XB wi A B;rw[Th,As]at h;show h
structure Iw(ss:List AU)(c z:AF->Nat)(k mo:Nat):Prop where
 le:∀(i:Nat)s,ss[i]?=AA s->s.da=AR->c s.nm<=Er s c k
 zq:∀(i:Nat)s,ss[i]?=AA s->s.da=AR->z s.nm=Er s z mo/\z s.nm<=600
def NZ(ss:List AU)(c:AF->Nat)(sd:Nat->List AO×List AO):Prop:=∀(i:Nat)n a b D,ss[i]?=AA (.join n a b D)->(sd i).1.length<=c a/\(sd i).2.length<=c b
abbrev Ly(c:AF->Nat)(bt:AF->List AO):AF->Nat:=λa=>c a+(bt a).length
theorem W5(U:s.da=AR)(J:c s.nm<=Er s c k)(Y:∀n a b wi,s=.join n a b wi->S.1.length<=c a/\S.2.length<=c b)(D:Eo s bt S e):Ly c bt s.nm<=Er s (Ly c bt) (k+1):=by cases s with
 |take n Z=>
  change bt n=_ at D;change c n<=k at J;change c n+(bt n).length<=k+1;have:(L8 Z e).length<=1:=by unfold L8;split<;>simp
  rw[D];omega|only n a B A=> change bt n=(bt a).filter _ at D;change c n+(bt n).length<=c a+(bt a).length;rw[D];exact yZ J (D3 _ _)|turn n a f g=> change bt n=(bt a).map _ at D;change c n+(bt n).length<=c a+(bt a).length;rw[D,As];exact OT J _|both n a b=>change bt n=bt a++bt b at D;change c n<=c a+c b at J;change c n+(bt n).length<=c a+(bt a).length+(c b+(bt b).length);rw[D,B8];omega|join n a b wi=>obtain⟨V,W⟩:=Y n a b wi rfl;have q:=((yW _).mp (D.symm.trans XE)).length_eq;change c n<=c a*c b at J;change c n+(bt n).length<=(c a+(bt a).length)*(c b+(bt b).length);unfold XD at q;rw[B8]at q;have C:=Ah (W9 wi S.1 (bt b)) (Nat.mul_le_mul_right _ V);have E:=Ah (W9 wi (bt a) (S.2++bt b)) (Nat.mul_le_mul_left _ (by rw[B8];exact OT W _));rw[q,Nat.add_mul,Nat.mul_add];omega|gap=>cases U|each=>cases U
theorem W2(h:∀a∈s.bu,c a<=z a)(D:k<=m):Er s c k<=Er s z m:=by cases s with|take=>exact D|only n a=>exact h a (.head _)|turn n a=>exact h a (.head _)|gap n a=>exact h a (.head _)|each n a=>exact h a (.head _)|both n a b=>exact yZ (h a (.head _)) (h b (.tail _ (.head _)))|join n a b=>exact c6 (h a (.head _)) (h b (.tail _ (.head _)))
theorem O3(H:ED ss)(V:Iw ss c z k Y)(A:NZ ss c sd)(E:k<Y)(C:∀(i:Nat)s,i<N->ss[i]?=AA s->Eo s bt (sd i) e)(m i:Nat)(s:AU)(U:m<=N)(hi:i<m)(D:ss[i]?=AA s)(J:s.da=AR):Ly c bt s.nm<=600:=by
 have W:∀(m i:Nat)s,m<=N->i<m->ss[i]?=AA s->s.da=AR->Ly c bt s.nm<=z s.nm:=by intro m;induction m with|zero=>exactλi s _ h=>absurd h (OW _)|succ m G=> intro i s U hi D J;rw[(V.zq i s D J).1];refine Ah (W5 J (V.le i s D J) (λn a b L q=>A i n a b L (by rw[<-q];exact D)) (C i s (Bh hi U) D)) (W2 (λa B=>?_) E);obtain⟨F,I,l,Z,rfl,K⟩:=H.oi i s a D B;exact G F I (Nat.le_of_succ_le U) (Bh l (DM hi)) Z K
 exact Ah (W m i s U hi D J) (V.zq i s D J).2
theorem Iw.ug(J:Iw ss c z k V)(W:NZ ss c sd)(Y:∀(i:Nat)s,ss[i]?=AA s->Eo s bt (sd i) e):Iw ss (Ly c bt) z (k+1) V:=⟨λi s D U=>W5 U (J.le i s D U) (λn a b Z q=>W i n a b Z (by rw[<-q];exact D)) (Y i s D),J.zq⟩
def oW(C:CF):BO:=λL H Q _=>(TM λ(A:List AE)(F Z q:AE)(I:List AD)(D:List AU)(J:List (AK×AD))(B:Nat->D8)(W:Nat->List AO×List AO)(c M:AF->Nat)(E G:Nat)(e:FP)=>Qr (L=[.ref F,.ref Z,.ref q]) (H F=AA (.lst I)) (EW H I D) (ED D) (D.length<=20) (CY C A H D Z J B W) ((∀c∈A,∃o,H c=AA o)) (Ge H q e) (Iw D c M E G) (NZ D c W) (E<G) (∀U m K Y,Ba (DR D B) H U->CY C (m::A) U D Z J B (FH D W D.length Y)->H m=AG->U m=AA (.lst K)->IP U K (FT D Y D.length)->(∀(i:Nat)s,D[i]?=AA s->Eo s Y (W i) e)->Q (.ref m) U))
theorem lJ(T:BQ AH Ag AM):T.vy.Ok BM P w Ag base 5 (oW AM):=by
  show T.vy.ok λnd _ _ _ _ _ hr H vs Q E h=>?_;obtain⟨ex,lp,dj,q,ps,ss,jkvs,jd,sd,c,z0,kn,mo,e,rfl,elp,pr,pok,lss,jr,hex,ev,hC,hS,hk,k⟩:_:=h;show⟨_,(Aq (Ks (i:=3) nd rfl (zI rfl) OI) (Aq (Ks (i:=4) nd rfl (Fo rfl) (CW Dq)) (Aq (C8 DF rfl (P0 (K:=AH) (by rfl) T.fi (Bm 0)) (Jk rfl (EB (Js (i:=5) nd rfl (zI rfl)) (EB (Js (i:=6) nd rfl (Fo rfl)) JJ))) (Aq (OL (i:=7) (osc:=DC UP) [("brought",3)] nd rfl (Fo rfl) rfl (Cn (K:=AH) (BG (j9 T) hr #v[Bm 6])) rfl rfl (by decide+kernel) (by decide+kernel) (by decide+kernel) ⟨rfl,rfl,trivial⟩ rfl (by decide+kernel) (λ_ _ _ _=>Hy) (λ_ _ _ _=>(EY hr.u1 (Bm 1) (Bm 0) (λ_ _=>rfl)))) (Aq (Jt (Bx (Bl DD (FW (JE (K:=AH)) (Bm 6) AN (λ_ _=>rfl)) DV (BW _)) (Ac (Ks (i:=8) nd rfl (Fo rfl) (BG (lO T) hr #v[Bm 6,Bm 2]))) (Ac (Bx (Bl DD (FW (JE (K:=AH)) (Bm 6) AN (λ_ _=>rfl)) DV (BW _)) (Ac (Ks (i:=8) nd rfl (Fo rfl) (BG (kN T) hr #v[(EY hr.u1 (Bm 1) (Bm 5) (λ_ _=>rfl)),Bm 7]))) (Ac (Ks (i:=8) nd rfl (Fo rfl) (BG (k9 T) hr #v[Bm 6,Bm 7]))))))) (Aq (Ju hr.u1 (Bm 3) (BG (kU T) hr #v[Bm 6]) (Bm 8) rfl) (Ac (Bx (G4 (BG (X2 T) hr #v[Bm 6])) (Ac (D1 (Kr (K:=AH) Lf OZ QN M8 (Bm 4) #v[(Py (osc:=DC UP) [("place",5)] rfl (Cn (K:=AH) (Bm 8)) rfl rfl (by decide+kernel) (by decide+kernel) (by decide+kernel) ⟨rfl,rfl,trivial⟩ rfl (by decide+kernel) (λ_ _ _ _=>Hy) (λ_ _ _ _=>(CP #v[Bm 1,Bm 0])))]))) CH)))))) (Ac (BI (Bm 4)))))),?_⟩;have sz:Ay=16777216:=DW;have lps:=pr.de;have isd:∀b,DR ss jd b->∃kvs,H b=AA (.dK kvs):=λb hb=>by
    obtain⟨i,⟨n,a,b',wi,ei⟩,hb⟩:=hb;obtain⟨⟨k0,e0⟩,k1,e1⟩:=(jr.dc i n a b' wi ei).2.tj;rcases hb with rfl|rfl;.show⟨_,e0⟩
    .show⟨_,e1⟩
  showλbr hbr=>⟨BY _,λu hu0=>?_⟩;have hu:H u=AG:=L9 hu0;have nbu:br≠u:=Bg Af hu0;have s0:An H (AQ (AQ H br (.dK [])) u (.lst [])):=((C6 H).du hbr).du hu0;have ebr0:(AQ (AQ H br (.dK [])) u (.lst [])) br=AA (.dK []):=by rw[AX nbu];show Af
  have eu0:(AQ (AQ H br (.dK [])) u (.lst [])) u=AA (.lst []):=Af;generalize AQ (AQ H br (.dK [])) u (.lst [])=H0 at s0 ebr0 eu0⊢;have keep:∀{H':AI}{b:AE}{o:Bn},Ba (DR ss jd) H H'->H b=AA o->(∀kvs,o≠.dK kvs)->H' b=AA o:=λ{H' b o}s eo hn=>s b o (λz=>by obtain⟨kvs,ek⟩:=isd b z;rw[eo]at ek;show hn _ (B9 ek)) eo;show⟨_,rfl,lp,rfl,⟨_,AW (s0 _ _ elp)⟩,Rv (K:=AH) (xs:=ps) (λn σ H'=>(KH λ(o5 o6 o7 o8:Option AD)(kvs:List (AK×AD))(acc:List AD)(bt:AF->List AO)=>Mc (σ=(Qy lp dj q br u o5 o6 o7 o8)) (Ba (DR ss jd) H H') (CY AM (u::ex) H' ss dj jkvs jd (FH ss sd n bt)) (kvs.length<=n) (H' br=AA (.dK kvs)) (H' u=AA (.lst acc)) (IP H' acc (FT ss bt n)) ((∀(i:Nat)s,i<n->ss[i]?=AA s->Eo s bt (sd i) e)) ((∀(i:Nat)s,i<n->ss[i]?=AA s->∃r,BH kvs (.inr s.nm)=AA (.ref r)/\GP H' r (bt s.nm)/\r≠u/\(bt s.nm).length<=600)))) ⟨AG,AG,AG,AG,[],[],λ_=>[],rfl,λb o _ eo=>s0 _ _ eo,?_,Ak _,ebr0,eu0,.nil,λi s h=>absurd h (OW _),λi s h=>absurd h (OW _)⟩ (λn σ H' _ hh=>by obtain⟨_,_,_,_,_,_,_,_,s',_⟩:=hh;show AW (keep s' elp (by intro kvs z;cases z))) ?_ ?_⟩;. rw[mW];show(jr.gv hu).af s0
  . intro n x σ H1 p hx hI hp;lk;obtain⟨o5,o6,o7,o8,kvs,acc,bt,rfl,s1,jr1,lk1,eb1,eu1,it1,br1,cm1⟩:=hI;obtain⟨a,st,rfl,es,ea⟩:=pr.at hx;k_in;have hn:n<ss.length:=(BU.mp es).1;have s2:=CL (o:=.tup [.int (n:Int),.ref a]) hp;have ea1:DY H1 a st:=keep s1 ea (by intro kvs z;cases z);show⟨p,_,rfl,Ao Af,rfl,_,_,rfl,_,_,rfl,rfl,?_⟩;show⟨_,rfl,a,st,rfl,ea1.tp s2.tp,λlf Hf sf hlf elf=>⟨lf,rfl,⟨_,AW elf⟩,?_⟩⟩;have s3:=s2.aa sf;have cmf:∀(i:Nat)s,i<n->ss[i]?=AA s->∃r,BH kvs (.inr s.nm)=AA (.ref r)/\GP Hf r (bt s.nm)/\r≠u/\(bt s.nm).length<=600:=λi s hi ei=>by obtain⟨r,v1,v2,v3,v4⟩:=cm1 i s hi ei;show⟨r,v1,v2.ab (λxs z=>s3 _ _ z) s3.tp,v3,v4⟩
    have lf5:st.bu.length<=2:=by cases st<;>show Si rfl
    show Jo (K:=AH) (xs:=st.bu.map AD.str) (λm τ acc H'=>(∃o,τ=[o,AA (.ref br)])/\H'=Hf/\Ov Hf acc ((st.bu.take m).map bt)/\∀r,AD.ref r∈acc->r≠u) (by rw[As];lia) ⟨⟨AG,rfl⟩,rfl,.nil,λr hr=>by cases hr⟩ (λm τ acc H'⟨_,ee,_⟩=>by rw[ee];show AW elf) ?_ ?_
    . intro m y τ acc H' R1 hy _ hI k1;lk;obtain⟨⟨o,rfl⟩,rfl,hc,hru⟩:=hI;rw[Bs]at hy;obtain⟨f,ef,rfl⟩:=Du.mp hy;obtain⟨i',s',li,ei',rfl,_⟩:=pok.oi n st f es (Cg ef);obtain⟨r,v1,v2,v3,v4⟩:=cmf i' s' li ei';k_in;show⟨_,rfl,_,rfl,br,.ref r,rfl,?_,k1 _ _ _ ⟨⟨_,rfl⟩,rfl,?_,λr' hr'=>?_⟩⟩
      . rw[<-v1];show LN (k:=.inr s'.nm) (s3 _ _ eb1)
      . rw[Dt,ef,CQ];show Dh hc (.cons ⟨r,rfl,v2⟩ .nil)
      . rcases DS.mp hr' with h|h;.show hru r' h
        .cases By.mp h;show v3
    . intro τ acc2 H' la hI ls hls;obtain⟨_,rfl,hc,ru4⟩:_:=hI;rw[As,Ed (Ak _)]at hc;have s4:=s3.du (o:=.lst acc2) hls;have sl4:=CL (o:=.lst acc2) hls;have els:(AQ H' ls (.lst acc2)) ls=AA (.lst acc2):=Af;have hc4:Ov (AQ H' ls (.lst acc2)) acc2 (st.bu.map bt):=Ej (λx L⟨r,e1,e2⟩=>⟨r,e1,e2.ab (λxs z=>sl4 _ _ z) sl4.tp⟩) hc;have cm4:∀(i:Nat)s,i<n->ss[i]?=AA s->∃r,BH kvs (.inr s.nm)=AA (.ref r)/\GP (AQ H' ls (.lst acc2)) r (bt s.nm)/\r≠u/\(bt s.nm).length<=600:=λi s hi ei=>by obtain⟨r,v1,v2,v3,v4⟩:=cmf i s hi ei;show⟨r,v1,v2.ab (λxs z=>sl4 _ _ z) sl4.tp,v3,v4⟩
      generalize AQ H' ls (.lst acc2)=H4 at s4 els hc4 cm4⊢;have sp4:Ba (DR ss jd) H H4:=λb o nb eo=>s4 _ _ (s1 b o nb eo);have jr4:=jr1.af s4;have ea4:DY H4 a st:=ea1.tp s4.tp;have eb4:=s4 _ _ eb1;have ev4:Ge H4 q e:=s4 _ _ (keep s1 ev (by intro kvs z;cases z));have eu4:=s4 _ _ eu1;have it4:=it1.ab s4.tp;have fz:∀f∈st.bu,c f+(bt f).length<=600:=λf hf=>by obtain⟨i',s',li,ei',rfl,ht⟩:=pok.oi n st f es hf;show O3 pok hC hS hk br1 n i' s' (Ak _) li ei' ht
      show Jp (λσ' H'=>TZ (λ(r:AE)(Lr:List AO)=>σ'=(Qy lp dj q br u (AA (.int (n:Int))) (AA (.ref a)) (AA (.ref ls)) (AA (.ref r)))) (λ_ _=>Ba (DR ss jd) H H') (λ_ Lr=>CY AM (u::ex) H' ss dj jkvs jd (FH ss sd (n+1) (CK bt st.nm Lr))) (λ_ _=>H' br=AA (.dK kvs)) (λ_ _=>H' u=AA (.lst acc)) (λ_ _=>IP H' acc (FT ss bt n)) (λr Lr=>GP H' r Lr) (λr _=>r≠u) (λ_ Lr=>Eo st (CK bt st.nm Lr) (sd n) e) (λ_ _=>DY H' a st) (λr _=>∀(i:Nat)s,i<n->ss[i]?=AA s->∃r,BH kvs (.inr s.nm)=AA (.ref r)/\GP H' r (bt s.nm)/\r≠u/\(bt s.nm).length<=600)) ?_ ?_
      . obtain⟨e0,e1,e2⟩:_:=ea4.gy;have plain:∀{r:AE}{Lr:List AO}{H5:AI},An H4 H5->st.no≠4->GP H5 r Lr->r≠u->Eo st (CK bt st.nm Lr) (sd n) e->(λ(σ':List (Option AD))(H':AI)=>TZ (λ(r:AE)(Lr:List AO)=>σ'=(Qy lp dj q br u (AA (.int (n:Int))) (AA (.ref a)) (AA (.ref ls)) (AA (.ref r)))) (λ_ _=>Ba (DR ss jd) H H') (λ_ Lr=>CY AM (u::ex) H' ss dj jkvs jd (FH ss sd (n+1) (CK bt st.nm Lr))) (λ_ _=>H' br=AA (.dK kvs)) (λ_ _=>H' u=AA (.lst acc)) (λ_ _=>IP H' acc (FT ss bt n)) (λr Lr=>GP H' r Lr) (λr _=>r≠u) (λ_ Lr=>Eo st (CK bt st.nm Lr) (sd n) e) (λ_ _=>DY H' a st) (λr _=>∀(i:Nat)s,i<n->ss[i]?=AA s->∃r,BH kvs (.inr s.nm)=AA (.ref r)/\GP H' r (bt s.nm)/\r≠u/\(bt s.nm).length<=600)) (Qy lp dj q br u (AA (.int (n:Int))) (AA (.ref a)) (AA (.ref ls)) (AA (.ref r))) H5:=λ{r Lr H5}s5 n4 cr ru bs=>⟨r,Lr,rfl,λb o nb eo=>s5 _ _ (sp4 b o nb eo),(jr4.af s5).cu (mV pok es n4 Lr),s5 _ _ eb4,s5 _ _ eu4,it4.ab s5.tp,cr,ru,bs,ea4.tp s5.tp,λi s hi ei=>by obtain⟨r,v1,v2,v3,v4⟩:=cm4 i s hi ei;show⟨r,v1,v2.ab (λxs z=>s5 _ _ z) s5.tp,v3,v4⟩⟩;show⟨_,rfl,a,_,_,_,rfl,rfl,e0,e1,rfl,_,rfl,KQ (i:=0) rfl (λq0=>?_) λq0=>?_⟩
        . lk;obtain⟨nn,kd,rfl⟩:∃nn kd,st=.take nn kd:=by cases st<;>first|show⟨_,_,rfl⟩|cases q0
          k_in;show⟨_,rfl,_,rfl,a,q,nn,kd,e,rfl,ea4,ev4,λr H5 s5 hr5 cr=>plain s5 (by intro z;cases z) cr (Bg eu4 hr5).symm ?_⟩;show Iz
        . show⟨_,rfl,a,_,_,_,rfl,rfl,e0,e1,rfl,_,rfl,KQ (i:=4) rfl (λq4=>?_) λq4=>?_⟩
          . lk;obtain⟨nn,f,g,wi,rfl⟩:∃nn f g wi,st=.join nn f g wi:=by cases st<;>first|show⟨_,_,_,_,rfl⟩|cases q4
            obtain⟨jv,jj⟩:=jr4.dc n nn f g wi es;have e9:FH ss sd n bt n=sd n:=by rw[KZ es,AEu (J4 _)]
            rw[e9]at jj;obtain⟨r0,r1,xs0,xs1,rfl,er0,er1,w0,w1⟩:=W4 hc4;have y0:=fz f (.head _);have y1:=fz g (.tail _ (.head _));obtain⟨lf0,lg0⟩:=hS n nn f g wi es;k_in;have hex4:∀c∈u::ex,∃o,H4 c=AA o:=λc hc=>by
              rcases Ca.mp hc with rfl|hc;.show⟨_,eu4⟩
              . obtain⟨o,eo⟩:=hex c hc;by_cases hd:DR ss jd c
                . obtain⟨i,⟨n',a',b',wi',ei⟩,hd⟩:=hd;obtain⟨⟨k0,g0⟩,k1,g1⟩:=(jr4.dc i n' a' b' wi' ei).2.tj;rcases hd with rfl|rfl;.show⟨_,g0⟩
                  .show⟨_,g1⟩
                .show⟨_,sp4 c o hd eo⟩
            show⟨_,rfl,_,rfl,dj,.ref (jd n).j,rfl,by rw[<-jv];show .inl ⟨jkvs,.inl (n:Int),jr4.ai,rfl,rfl⟩,_,rfl,u::ex,(jd n).j,(jd n).sl,(jd n).x0,(jd n).x1,(jd n).d0,(jd n).d1,ls,r0,r1,wi,(sd n).1,(sd n).2,bt f,bt g,rfl,jj,hex4,els,⟨_,er0,w0⟩,⟨_,er1,w1⟩,by lia,by lia,λH5 m xs5 kss sy5 j5 hm em hw5 pm5=>?_⟩;have sp5:Ba (DR ss jd) H4 H5:=λb o nb eo=>sy5 b o (λz=>nb ⟨n,⟨_,_,_,_,es⟩,.inl z⟩) (λz=>nb ⟨n,⟨_,_,_,_,es⟩,.inr z⟩) eo;have ky:∀{b:AE}{o:Bn},H4 b=AA o->(∀kvs,o≠.dK kvs)->H5 b=AA o:=λeo hn=>jj.y sy5 eo hn;have tp5:=jj.ach sy5;rw[Th,Th]at pm5;obtain⟨M,rfl,pmM⟩:_:=qA pm5;have nbr:¬DR ss jd br:=λz=>by obtain⟨kv,ek⟩:=isd br z;rw[hbr]at ek;cases ek
            have fe:∀a'∈(AU.join nn f g wi).bu,CK bt nn M a'=bt a':=λa' ha'=>pok.ig es es (Ak _) bt M ha';show⟨m,M,rfl,λb o nb eo=>sp5 b o nb (sp4 b o nb eo),?_,sp5 _ _ nbr eb4,ky eu4 (by intro kv z;cases z),it4.ab tp5,⟨_,em,hw5⟩,(Bg eu4 hm).symm,?_,ea4.tp tp5,λi s hi ei=>?_⟩
            . show(jr4.iq es sy5 j5).cu λi hi=>?_;have q:=mU pok (sd:=sd) (bt:=bt) es M i hi;rw[e9]at q;show q
            . change(EE wi ((sd n).1++CK bt nn M f) ((sd n).2++CK bt nn M g)).Perm (EE wi (sd n).1 (sd n).2++CK bt nn M nn);rw[fe f (.head _),fe g (.tail _ (.head _)),Iz];show pmM
            . obtain⟨r,v1,v2,v3,v4⟩:_:=cm4 i s hi ei;show⟨r,v1,v2.ab (λxs z=>ky z (by intro kv z;cases z)) tp5,v3,v4⟩
          . have bf:∀f∈st.bu,(bt f).length<=1000:=λf hf=>by show Ah (QE (fz f hf)) (by decide)
            show⟨_,rfl,_,rfl,a,ls,st,acc2,st.bu.map bt,rfl,ea4,pok.ok st (Cg es),q0,q4,els,hc4,by rw[As],λL hL=>by obtain⟨f,hf,rfl⟩:=BE.mp hL;show bf f hf,λr H5 s5 cr hr5=>plain s5 q4 cr ?_ (l7 q0 q4 rfl λf hf=>pok.ig es es (Ak _) bt _ hf)⟩;rcases hr5 with hr5|hr5;.show(Bg eu4 hr5).symm
            .show ru4 r hr5
      . intro σ H5 hI;obtain⟨r,Lr,rfl,sp5,jr5,eb5,eu5,it5,cr5,ru5,bs5,ea5,cm5⟩:_:=hI;show⟨_,rfl,_,rfl,_,rfl,a,st,rfl,ea5,br,_,rfl,.inl ⟨_,.inr st.nm,eb5,rfl,?_,rfl⟩,?_⟩;.lia
        have nbr:¬DR ss jd br:=λz=>by obtain⟨kv,ek⟩:=isd br z;rw[hbr]at ek;cases ek
        have ndj:dj≠br:=YW jr.ai hbr;have s6:Ba (.=br) H5 (AQ H5 br (.dK (BJ kvs (.inr st.nm) (.ref r)))):=zzu
        have ne6:∀{b:AE}{o:Bn},H5 b=AA o->(∀kv,o≠.dK kv)->b≠br:=λeo hn z=>by rw[z,eb5]at eo;show hn _ (B9 eo).symm
        have tp6:Bc H5 (AQ H5 br (.dK (BJ kvs (.inr st.nm) (.ref r)))):=λb xs eo=>s6 _ _ (ne6 eo (by intro kv z;cases z)) eo;have sp6:Ba (DR ss jd) H (AQ H5 br (.dK (BJ kvs (.inr st.nm) (.ref r)))):=λb o nb eo=>s6 _ _ (λz=>by rw[z,hbr]at eo;cases eo) (sp5 b o nb eo);have jr6:CY AM (u::ex) (AQ H5 br (.dK (BJ kvs (.inr st.nm) (.ref r)))) ss dj jkvs jd (FH ss sd (n+1) (CK bt st.nm Lr)):=jr5.cx s6 (λb hb=>.inr ⟨kvs,by rw[hb];show eb5⟩) (λb hb=>by rw[hb];show nbr) ndj;have eu6:(AQ H5 br (.dK (BJ kvs (.inr st.nm) (.ref r)))) u=AA (.lst acc):=s6 _ _ (ne6 eu5 (by intro kv z;cases z)) eu5;have it6:=it5.ab tp6;have ck6:∀{b:AE}{M:List AO},GP H5 b M->GP (AQ H5 br (.dK (BJ kvs (.inr st.nm) (.ref r)))) b M:=λc=>c.ab (λxs z=>s6 _ _ (ne6 z (by intro kv z;cases z)) z) tp6;have cr6:=ck6 cr5;have ea6:=ea5.tp tp6;have eb6:(AQ H5 br (.dK (BJ kvs (.inr st.nm) (.ref r)))) br=AA (.dK (BJ kvs (.inr st.nm) (.ref r))):=Af;have bt6:=pok.xw es Lr br1 bs5;have fz6:∀f∈st.bu,CK bt st.nm Lr f=bt f:=λf hf=>pok.ig es es (Ak _) bt Lr hf;have lr6:Lr.length<=600:=by cases ht:st.da with |false=> have:=O3 pok hC hS hk bt6 (n+1) n st (Ak _) (JQ _) es ht;change c st.nm+(CK bt st.nm Lr st.nm).length<=600 at this;rw[Iz]at this;show QE this|true=>
            obtain⟨f,hf,eq⟩:∃f∈st.bu,CK bt st.nm Lr st.nm=CK bt st.nm Lr f:=by cases st with |gap n' f x y=>show⟨f,.head _,bs5⟩|each n' f x y z=>show⟨f,.head _,bs5⟩|_=>cases ht
            rw[Iz,fz6 f hf]at eq;rw[eq];show QE (fz f hf)
        have cm6:∀(i:Nat)s,i<n+1->ss[i]?=AA s->∃r',BH (BJ kvs (.inr st.nm) (.ref r)) (.inr s.nm)=AA (.ref r')/\GP (AQ H5 br (.dK (BJ kvs (.inr st.nm) (.ref r)))) r' (CK bt st.nm Lr s.nm)/\r'≠u/\(CK bt st.nm Lr s.nm).length<=600:=λi s hi ei=>by
          by_cases hin:i=n
          . subst hin;rw[es]at ei;cases ei;show⟨r,by rw[Gn,AEv rfl],by rw[Iz];show cr6,ru5,by rw[Iz];show lr6⟩
          . obtain⟨r',v1,v2,v3,v4⟩:=cm5 i s (EL (DM hi) hin) ei;have eo:=pok.acm es ei (EL (DM hi) hin) bt Lr;show⟨r',?_,by rw[eo];show ck6 v2,v3,by rw[eo];show v4⟩;rw[Gn,AEu (λz=>hin (pok.bb i n s st ei es (Ft z)))];show v1
        have lk6:=UJ kvs (.inr st.nm) (.ref r);have tl6:=Yw pok es bt Lr n (Ak _);generalize AQ H5 br (.dK (BJ kvs (.inr st.nm) (.ref r)))=H6 at sp6 jr6 eu6 it6 cr6 ea6 eb6 cm6⊢;show⟨_,rfl,a,st,rfl,ea6,_,rfl,MM (λht=>?_) λht=>?_⟩
        . obtain⟨xs6,er6,w6⟩:_:=cr6;have lx6:=w6.de;rw[As]at lx6;show⟨_,rfl,.inl ⟨rfl,_,AW eu6⟩,_,rfl,r,rfl,⟨_,AW er6⟩,?_⟩;show Jo (K:=AH) (xs:=xs6) (λm τ acc' H'=>(∃o,τ=[o,AA (.int (n:Int))])/\An H6 H'/\IP H' acc' ((Lr.take m).map λi=>((n:Int),i))) (by lia) ⟨⟨AG,rfl⟩,C6 _,.nil⟩ (λm τ acc' H'⟨_,s,_⟩=>AW (s _ _ er6)) ?_ ?_
          . intro m y τ acc' H' R1 hy _ hI k1;lk;obtain⟨⟨o,rfl⟩,s,hp⟩:=hI;obtain⟨b,ks,rfl,ek,eb⟩:=w6.at hy;rw[Bs]at ek;obtain⟨i,ei,rfl⟩:=Du.mp ek;k_in;show⟨_,rfl,_,rfl,Si rfl,λp2 hp2=>k1 _ _ _ ⟨⟨_,rfl⟩,s.du hp2,?_⟩⟩;have sp2:=CL (o:=.tup [.int (n:Int),.ref b]) hp2;rw[Dt,ei,CQ];show Dh (hp.ab sp2.tp) (.cons ⟨p2,b,rfl,Af,sp2 _ _ (s _ _ eb)⟩ .nil)
          . intro τ acc' H7 la hI D hD;obtain⟨_,s7,hp7⟩:_:=hI;rw[Ed (Bw lx6.symm)]at hp7;have s8:=s7.du (o:=.lst acc') hD;have sD:=CL (o:=.lst acc') hD;have eD:(AQ H7 D (.lst acc')) D=AA (.lst acc'):=Af;have hp8:=hp7.ab sD.tp;generalize AQ H7 D (.lst acc')=H8 at s8 eD hp8⊢;have eu8:=s8 _ _ eu6;have la6:acc.length<=600*n:=by rw[it6.de];show Yv λi s hi ei=>by obtain⟨_,_,_,_,v4⟩:=cm1 i s hi ei;show v4
            show⟨u,D,acc,acc',rfl,rfl,eu8,eD,by lia,?_⟩;have s9:Ba (.=u) H8 (AQ H8 u (.lst (acc++acc'))):=zzu
            have tp9:Bc H8 (AQ H8 u (.lst (acc++acc'))):=λb xs eo=>s9 _ _ (λz=>by rw[z,eu8]at eo;cases eo) eo;have nud:¬DR ss jd u:=λz=>by obtain⟨kv,ek⟩:=isd u z;rw[hu]at ek;cases ek
            have ndu:dj≠u:=YW jr.ai hu;show⟨_,_,_,_,_,acc++acc',CK bt st.nm Lr,rfl,λb o nb eo=>s9 _ _ (λz=>by rw[z,hu]at eo;cases eo) (s8 _ _ (sp6 b o nb eo)),?_,Ah lk6 (J3.mpr lk1),s9 _ _ nbu (s8 _ _ eb6),Af,?_,bt6,λi s hi ei=>?_⟩;.show(jr6.af s8).cx s9 (λb hb=>.inl ⟨by rw[hb];show .head _,acc,by rw[hb];show eu8⟩) (λb hb=>by rw[hb];show nud) ndu
            . change IP _ _ (FT ss (CK bt st.nm Lr) n++_);rw[tl6,es];change IP _ _ (FT ss bt n++(if st.da=AJ then _ else[]));rw[AEv ht,Iz];show IP.ab (Dh (it6.ab s8.tp) hp8) tp9
            . obtain⟨r',v1,v2,v3,v4⟩:_:=cm6 i s hi ei;show⟨r',v1,v2.ab (λxs z=>s9 _ _ v3 (s8 _ _ z)) (λb xs z=>tp9 _ _ (s8 _ _ z)),v3,v4⟩
        . have ht:st.da=AR:=ht;show⟨_,_,_,_,_,acc,CK bt st.nm Lr,rfl,sp6,jr6,Ah lk6 (J3.mpr lk1),eb6,eu6,?_,bt6,cm6⟩;change IP H6 acc (FT ss (CK bt st.nm Lr) n++_);rw[tl6,es];change IP H6 acc (FT ss bt n++(if st.da=AJ then _ else[]));rw[ht,AEu Dw,C2];show it6
  . intro σ H1 hI;obtain⟨o5,o6,o7,o8,kvs,acc,bt,rfl,s1,jr1,lk1,eb1,eu1,it1,br1,cm1⟩:_:=hI;rw[lps]at jr1 it1 br1;show⟨_,rfl,k H1 u acc bt s1 jr1 hu eu1 it1 λi s ei=>br1 i s (BU.mp ei).1 ei⟩
def oV(K:Ax):BO:=λU H Q _=>LU (λ(a:AE)(D:List Int)=>U=[.ref a]) (λa D=>B7 K H a (D.map AD.int)) (λ_ D=>D.length<=63) (λ_ _=>∀(c:Int)J,An H J->(c=1\/c=40000)->Q (.int c) J)
theorem X7(T:BQ AH Ag AM):T.ni.Ok BM P w Ag base 2 (oV AH):=by
 show T.ni.ok λC _ _ _ _ _ Z H F Q E h=>?_;obtain⟨a,B,rfl,U,W,k⟩:_:=h;show⟨_,(Ac (BI (CZ AH (CW #v[AN,AN,AN,AN]) (AY CC (AY C1 (BG (RF T) Z #v[AB 0,AN]) AN) AN)))),?_⟩;show⟨CB rfl,λp Y=>?_⟩;have s1:=CL (o:=.lst [.int 1,.int 1,.int 1,.int 40000]) Y;show⟨a,B,_,rfl,s1.wq U,by decide,W,λc=>?_⟩;lk;obtain⟨v,A,J⟩:=JC [AD.int 1,.int 1,.int 1,.int _] 4 rfl (by decide) _;obtain⟨m,rfl,D⟩:∃m:Int,v=.int m/\(m=1\/m=40000):=by
  simp only[Ca,Sg,AE8]at J;rcases J with rfl|rfl|rfl|rfl;.show⟨_,rfl,.inl rfl⟩
  .show⟨_,rfl,.inl rfl⟩
  .show⟨_,rfl,.inl rfl⟩
  .show⟨_,rfl,.inr rfl⟩
 k_in;show⟨(zzd rfl),(zzp rfl),_,_,AW Af,A,k m _ s1 D⟩
def nB:BO:=λJ H Q _=>(KG λ(p d:AE)(s:AU)(D:List (AK×AD))(z:AF->Nat)(m:Nat)=>EV (J=[.ref p,.ref d,.int (m:Int)]) (DY H p s) (H d=AA (.dK D)) ((∀a∈s.bu,BH D (.inr a)=AA (.int (z a:Int))/\z a<=600)) (Q (.int (Er s z m:Int)) H))
theorem X0(T:BQ AH Ag AM):T.mn.Ok BM P w Ag base 1 nB:=by
  show T.mn.ok λO _ _ _ _ _ U H R Q E h=>?_;obtain⟨p,d,D,M,z,m,rfl,e,L,F,k⟩:_:=h;show⟨_,(Aq (Bx (Bl DD (Av AH (AB 0) AN) DV (BW _)) (Ac (BI (AB 2))) CH) (Aq (Bx (Bl DD (Av AH (AB 0) AN) DV (BW _)) (Ac (BI (AY Dp (EY U.u1 (AB 1) (Av AH (AB 0) AN) (λ_ _=>rfl)) (EY U.u1 (AB 1) (Av AH (AB 0) AN) (λ_ _=>rfl))))) CH) (Aq (Bx (Bl DD (Av AH (AB 0) AN) DV (BW _)) (Ac (BI (AY GG (EY U.u1 (AB 1) (Av AH (AB 0) AN) (λ_ _=>rfl)) (EY U.u1 (AB 1) (Av AH (AB 0) AN) (λ_ _=>rfl))))) CH) (Ac (BI (EY U.u1 (AB 1) (Av AH (AB 0) AN) (λ_ _=>rfl))))))),?_⟩;obtain⟨J,V,N⟩:_:=e.gy;have g:∀a∈D.bu,Jl H d (.str a) (AA (.int (z a:Int))):=λa W=>by rw[<-(F a W).1];show LN (k:=.inr a) L
  show⟨_,_,J,V,rfl,_,rfl,KQ (i:=0) rfl (λZ=>?_) λZ=>?_⟩;.cases D<;>first|cases Z;done|show k
  . show⟨_,_,J,V,rfl,_,rfl,KQ (i:=3) rfl (λA=>?_) λA=>?_⟩
    . lk;obtain⟨n,a,b,rfl⟩:∃n a b,D=.both n a b:=by cases D<;>first|show⟨_,_,_,rfl⟩|cases A
      k_in;show⟨_,_,J,Aj (j:=2) rfl,d,_,rfl,g a (.head _),_,_,J,Aj (j:=3) rfl,d,_,rfl,g b (.tail _ (.head _)),k⟩
    . show⟨_,_,J,V,rfl,_,rfl,KQ (i:=4) rfl (λB=>?_) λB=>?_⟩
      . lk;obtain⟨n,a,b,C,rfl⟩:∃n a b C,D=.join n a b C:=by cases D<;>first|show⟨_,_,_,_,rfl⟩|cases B
        k_in;have Y:=(F a (.head _)).2;show⟨_,_,J,Aj (j:=2) rfl,d,_,rfl,g a (.head _),_,_,J,Aj (j:=3) rfl,d,_,rfl,g b (.tail _ (.head _)),.inl ⟨by lia,Int.lt_toNat.mp (Gs Y (by decide))⟩,?_⟩;have:(Er (.join n a b C) z m:Int)=(z a:Int)*(z b:Int):=Int.natCast_mul ..;rw[this]at k;show k
      . lk;obtain⟨a,W,G,I⟩:∃a,a∈D.bu/\DL (D.vd.map Aw) 2=AA (.str a)/\Er D z m=z a:=by cases D<;>first|show absurd rfl Z|show absurd rfl A|show absurd rfl B|show⟨_,.head _,Aj (j:=2) rfl,rfl⟩
        k_in;rw[I]at k;show⟨_,_,J,G,d,_,rfl,g a W,k⟩
def AU.uc:AU->List AF|AU.take n k=>[n,k]|AU.only n a _ _=>[n,a]|AU.turn n a _ _=>[n,a]|AU.both n a b=>[n,a,b]|AU.join n a b _=>[n,a,b]|AU.gap n a s _=>[n,a,s]|AU.each n a s _ _=>[n,a,s]
structure TX(zs:List AF)(n:AF)(s:AU):Prop where
 nm:s.nm=n
 oi:∀a∈s.bu,a∈zs
 ok:PR s
 uc:∀z∈s.uc,z=n\/z∈zs\/z∈FQ
theorem RX{zs:List AF}{n a:AF}(h:a∈zs):∀z∈[n,a],z=n\/z∈zs\/z∈FQ:=λz D=>by
 simp at D;rcases D with rfl|rfl;.show .inl rfl
 .show .inr (.inl h)
theorem RY{zs:List AF}{n a b:AF}(h:a∈zs)(J:b∈zs\/b∈FQ):∀z∈[n,a,b],z=n\/z∈zs\/z∈FQ:=λz D=>by
 simp at D;rcases D with rfl|rfl|rfl;.show .inl rfl
 .show .inr (.inl h)
 .show .inr J
def oY:BO:=λY H Q _=>(IM λ(n:AF)(W c:Int)(U:AE)(J:List AF)=>EV (Y=[.str n,.int W,.ref U,.int c]) (H U=AA (.lst (J.map AD.str))) (0<J.length) ((c=1\/c=40000)) (∀p D s,An H D->DY D p s->s.da=AR->TX J n s->Q (.ref p) D))
theorem X9(T:BQ AH Ag AM):T.kc.Ok BM P w Ag base 1 oY:=by
  show T.kc.ok λM _ _ _ _ _ e H f Q E h=>?_;obtain⟨n,Y,c,d,Z,rfl,R,g,S,k⟩:_:=h;show⟨_,(Aq (BC 4 M (CZ AH (AB 2) (AY CC (AY C1 (AB 1) AN) (DE (HJ (K:=AH)) (by rfl) T.fm HR #v[AB 2])))) (Aq (BC 5 M (CZ AH (AB 2) (AY CC (AY C1 (AB 1) AN) (DE (HJ (K:=AH)) (by rfl) T.fm HR #v[AB 2])))) (Aq (Bx (Bl DD (AY CC (AB 1) AN) AN (BW _)) (Aq (BC 6 M (AY FV (AY CC (AY C1 (AB 1) AN) AN) AN)) (Aq (Bx (Bl DD (AY CC (AY C1 (AB 1) AN) AN) AN (BW _)) (Ac (BI (CP #v[DV,AB 0,AB 4,AY GG (AB 6) (AY VT AN AN),AY VT AN AN]))) CH) (Aq (Bx (Bl DD (AY CC (AY C1 (AB 1) AN) AN) AN (BW _)) (Ac (BI (CP #v[DV,AB 0,AB 4,AY FV (AY CC (AY C1 (AB 1) AN) AN) (AY VT AN AN),AY Dp (AB 6) AN]))) CH) (Ac (BI (CP #v[DV,AB 0,AB 4,AB 6,AY Dp (AB 6) (AY CC (AY C1 (AB 1) AN) AN)])))))) CH) (Aq (Bx (Bl DD (AY CC (AB 1) AN) AN (BW _)) (Ac (BI (CP #v[DV,AB 0,AB 4,AY FV (AY CC (AY C1 (AB 1) AN) AN) AN,AY FV (AY CC (AY C1 (AB 1) AN) AN) AN]))) CH) (Aq (Bx (Bl DD (AY CC (AB 1) AN) AN (BW _)) (Ac (BI (CP #v[DV,AB 0,AB 4,AB 5]))) CH) (Ac (BI (CP #v[DV,AB 0,AB 4,AB 5,AY GG (AY CC (AY C1 (AB 1) AN) AN) (AB 3)])))))))),?_⟩;have F:(0:Int)<((Z.map AD.str).length:Int):=by rw[As];simp_all
  have B:B7 AH H d (Z.map AD.str):=AW R;lk;obtain⟨v,b,X⟩:=JC (Z.map AD.str) _ rfl F (Y/7);obtain⟨D,U,rfl⟩:=BE.mp X;obtain⟨v,I,G⟩:=JC (Z.map AD.str) _ rfl F (Y/49);obtain⟨W,L,rfl⟩:=BE.mp G;k_in;have O:0<=Y/343%19/\Y/343%19<19:=⟨HW _ (by decide),JS _ (by decide)⟩;have A:∀a∈[D],a∈Z:=λa C=>by cases By.mp C;show U
  have N:∀a∈[D,W],a∈Z:=λa C=>by
    simp only[Ca,Sg,AE8]at C;rcases C with rfl|rfl;.show U
    .show L
  show⟨(zzd rfl),_,.inl B,F,_,_,B,b,?_⟩;show⟨(zzd rfl),_,.inl B,F,_,_,B,I,?_⟩;show⟨(zzp rfl),rfl,_,rfl,EA (λ_=>?_) λ_=>?_⟩
  . show⟨(zzd rfl),(zzp rfl),?_⟩;show⟨(zzd rfl),(zzp rfl),rfl,_,rfl,EA (λ_=>?_) λ_=>?_⟩
    . show⟨_,_,rfl,rfl,⟨by decide,by decide,by decide⟩,.inr ⟨by decide,by decide⟩,_,_,rfl,rfl,⟨by decide,by decide,by decide⟩,CB rfl,λp J=>?_⟩;show k p _ (.only n D _ _) (CL J) Af rfl ⟨rfl,A,trivial,RX U⟩
    . show⟨(zzd rfl),(zzp rfl),rfl,_,rfl,EA (λ_=>?_) λ_=>?_⟩;. show⟨(zzd rfl),(zzp rfl),_,_,rfl,rfl,⟨by decide,by decide,by decide⟩,CB rfl,λp J=>?_⟩;show k p _ (.only n D _ _) (CL J) Af rfl ⟨rfl,A,trivial,RX U⟩
      . show⟨(zzd rfl),(zzp rfl),CB rfl,λp J=>?_⟩;show k p _ (.only n D _ _) (CL J) Af rfl ⟨rfl,A,trivial,RX U⟩
  . show⟨(zzp rfl),rfl,_,rfl,EA (λ_=>?_) λ_=>?_⟩;. show⟨(zzd rfl),(zzp rfl),(zzd rfl),(zzp rfl),CB rfl,λp J=>?_⟩;show k p _ (.turn n D _ _) (CL J) Af rfl ⟨rfl,A,by change-100<=Y/343%19-9/\Y/343%19-9<=100;(constructor<;>lia),RX U⟩
    . show⟨(zzp rfl),rfl,_,rfl,EA (λ_=>?_) λ_=>?_⟩;. show⟨CB rfl,λp J=>?_⟩;show k p _ (.both n D W) (CL J) Af rfl ⟨rfl,N,trivial,RY U (.inl L)⟩
      . show⟨(zzd rfl),(zzp rfl),.inr (by rcases S with rfl|rfl<;>show⟨by decide,by decide⟩),CB rfl,λp J=>?_⟩;show k p _ (.join n D W _) (CL J) Af rfl ⟨rfl,N,trivial,RY U (.inl L)⟩
def pE:BO:=λY H Q _=>(IM λ(n:AF)(W c:Int)(U:AE)(J:List AF)=>EV (Y=[.str n,.int W,.ref U,.int c]) (H U=AA (.lst (J.map AD.str))) (0<J.length) ((c=1\/c=40000)) (∀p D s,An H D->DY D p s->s.da=AJ->TX J n s->Q (.ref p) D))
theorem YB(T:BQ AH Ag AM):T.kg.Ok BM P w Ag base 1 pE:=by
 show T.kg.ok λI _ _ _ _ _ q H s Q E h=>?_;obtain⟨n,D,c,f,Z,rfl,S,t,m,k⟩:_:=h;show⟨_,(Aq (BC 4 I (CZ AH (AB 2) (AY CC (AY C1 (AB 1) AN) (DE (HJ (K:=AH)) (by rfl) T.fm HR #v[AB 2])))) (Aq (BC 5 I (CZ AH (CW #v[DV,DV,DV,DV]) (AY CC (AY C1 (AB 1) AN) AN))) (Aq (Bx (Bl DD (AY CC (AB 1) AN) AN (BW _)) (Ac (BI (CP #v[DV,AB 0,AB 4,AB 5,AY GG (AY CC (AY C1 (AB 1) AN) AN) (AB 3)]))) CH) (Aq (BC 6 I (AY GG (AY Dp AN (AY CC (AY C1 (AB 1) AN) AN)) (AB 3))) (Ac (BI (CP #v[DV,AB 0,AB 4,AB 5,AY Dp (AB 6) (AY CC (AY C1 (AB 1) AN) (AY GG AN (AB 6))),AB 6]))))))),?_⟩;have R:(0:Int)<((Z.map AD.str).length:Int):=by rw[As];simp_all
 have O:B7 AH H f (Z.map AD.str):=AW S;lk;obtain⟨v,e,b⟩:=JC (Z.map AD.str) _ rfl R (D/7);obtain⟨U,G,rfl⟩:=BE.mp b;k_in;have N:∀a∈[U],a∈Z:=λa X=>by cases By.mp X;show G
 have J:1<=c/\c<=40000:=by(constructor<;>lia)
 show⟨(zzd rfl),_,.inl O,R,_,_,O,e,?_⟩;lk;obtain⟨v,F,A⟩:=JC ([("count":AF),"sum","least","greatest"].map AD.str) 4 rfl (by decide) (D/49);obtain⟨L,Y,rfl⟩:=BE.mp A;k_in;have Y:L∈FQ:=Y;show⟨CB rfl,λi C=>?_⟩;have s1:=CL (o:=.lst [AD.str "count",.str "sum",.str "least",.str "greatest"]) C;show⟨(zzd rfl),(zzp rfl),_,_,AW Af,F,?_⟩;generalize AQ H i (.lst [AD.str "count",.str "sum",.str "least",.str "greatest"])=l at s1⊢;show⟨(zzp rfl),rfl,_,rfl,EA (λ_=>?_) λ_=>?_⟩
 . show⟨(zzd rfl),(zzp rfl),.inr ⟨JU (by decide) J.1,JT J.2 (by decide)⟩,CB rfl,λp W=>?_⟩;show k p _ (.gap n U L _) (s1.du W) Af rfl ⟨rfl,N,⟨ABQ (HW _ (by decide)) (K6 J.1),Y⟩,RY G (.inr Y)⟩
 . have M:0<=D/343%5/\D/343%5<5:=⟨HW _ (by decide),JS _ (by decide)⟩;show⟨(zzd rfl),(zzp rfl),.inr ⟨JU (by decide) J.1,JT J.2 (by decide)⟩,?_⟩;have W:0<(1+D/343%5)*c:=Wl (Wk M.1) J.1;have d:(1+D/343%5)*c<=5*c:=ABP (ABK (f6 M.2)) (K6 J.1);show⟨(zzd rfl),.inl ⟨by decide,by decide⟩,(show(0:Int)<3*((1+D/343%5)*c)by show Wl (by decide) W),CB rfl,λg B=>?_⟩;have j:=HW (D/1715) (show 3*((1+D/343%5)*c)≠0 by show K7 (Wl (by decide) W));have r:=JS (D/1715) (show 0<3*((1+D/343%5)*c)by show Wl (by decide) W);show k g _ (.each n U L _ _) (s1.du B) Af rfl ⟨rfl,N,⟨⟨W,by lia,Qo j,by lia⟩,Y⟩,RY G (.inr Y)⟩
def GW(sn:List AF)(z:AF->Nat):List (AK×AD):=sn.map λa=>(.inr a,.int (z a:Int))
theorem qK(h:a∈sn):BH (GW sn z) (.inr a)=AA (.int (z a:Int)):=by
 unfold BH GW;rw[List.find?_map];have J:(sn.find? ((λU:AK×AD=>Aa (U.1=.inr a))∘λa=>((.inr a),AD.int (z a)))).isSome=AJ:=by rw[List.find?_isSome];show⟨a,h,by simp⟩
 obtain⟨b,D⟩:=zG.mp J;have e:=ABh D;have e:=by simpa using e
 rw[D,e];rfl
def I0(z:AF->Nat)(n:AF)(m:Nat):AF->Nat:=λa=>if a=n then m else z a
theorem mN{m:Nat}(h:n∉sn):BJ (GW sn z) (.inr n) (.int (m:Int))=GW (sn++[n]) (I0 z n m):=by
  unfold BJ;rw[AEu]
  . unfold GW;rw[CQ];congr 1
    . show MS λa D=>?_;have:I0 z n m a=z a:=AEu λe=>h (by rw[<-e];show D);rw[this]
    . change[_]=[((.inr n:AK),AD.int _)];rw[show I0 z n m n=m from AEv rfl]
  . intro q;obtain⟨U,J,e⟩:=OO.mp q;obtain⟨a,D,rfl⟩:=BE.mp J;have e:=by simpa using e
    show h (by rw[<-e];show D)
theorem pR(sn:List AF)(z:AF->Nat):(GW sn z).map (λp=>Aw p.1)=sn.map AD.str:=by unfold GW;rw[Cu];rfl
theorem W0(h:∀a∈s.bu,D a=z a):Er s D m=Er s z m:=by cases s with|take=>rfl|only n a=>show h a (.head _)|turn n a=>show h a (.head _)|gap n a=>show h a (.head _)|each n a=>show h a (.head _)|both n a b=>change D a+D b=z a+z b;rw[h a (.head _),h b (.tail _ (.head _))]|join n a b=>change D a*D b=z a*z b;rw[h a (.head _),h b (.tail _ (.head _))]
structure Lu(mo:Nat)(zs:List AF)(ss:List AU)(z:AF->Nat)(sn:List AF):Prop where
 abu:∀(i:Nat)s,ss[i]?=AA s->zs[i]?=AA s.nm
 oi:∀(i:Nat)s a,ss[i]?=AA s->a∈s.bu->∃(i':Nat)(s':AU),i'<i/\ss[i']?=AA s'/\s'.nm=a/\s'.da=AR
 ok:∀s∈ss,PR s
 uc:∀s∈ss,∀t∈s.uc,CT t
 acd:∀a∈sn,∃(i:Nat)(s:AU),ss[i]?=AA s/\s.nm=a/\s.da=AR
 zq:∀(i:Nat)s,ss[i]?=AA s->s.da=AR->z s.nm=Er s z mo/\z s.nm<=600
 ne:0<sn.length
structure Mg(sn:List AF)(n:AF)(s:AU):Prop where
 nm:s.nm=n
 oi:∀a∈s.bu,a∈sn
 ok:PR s
 uc:∀t∈s.uc,CT t
theorem gF:∀t∈FQ,CT t:=by
 have:∀t∈FQ,(∀c∈t.cps.toList,97<=c/\c<123)/\t.length<=12:=by decide+kernel
 show this
theorem TX.g(h:TX zs n s)(D:∀a∈zs,a∈sn)(U:CT n)(J:∀a∈sn,CT a):Mg sn n s:=⟨h.nm,λa m=>D a (h.oi a m),h.ok,λt m=>by
 rcases h.uc t m with rfl|q|q;.show U
 .show J _ (D _ q)
 .show gF _ q⟩
theorem Ud(J:CT n)(D:CT k):Mg sn n (.take n k):=by
 show⟨rfl,λa h=>(by cases h),trivial,λt h=>?_⟩;have h:t∈[n,k]:=h;simp at h;rcases h with rfl|rfl;.show J
 .show D
theorem UR{l:List D}(h:(l++[x])[i]?=AA y):l[i]?=AA y\/(i=l.length/\y=x):=by
 rcases cY i _ with q|q|q;.rw[OP q]at h;show .inl h
 . subst q;rw[QA (Ak _),c8]at h;show .inr ⟨rfl,(B9 h).symm⟩
 .rw[yN (by rw[B8];assumption)]at h;cases h
theorem US{D:Type}{l:List D}{x y:D}{i:Nat}(h:l[i]?=AA y):(l++[x])[i]?=AA y:=by rw[OP (BU.mp h).1];show h
theorem Lu.abt(h:Lu B zs ss z sn)(Y:zs.Nodup)(A:zs[ss.length]?=AA n):∀(i:Nat)s,ss[i]?=AA s->s.nm≠n:=λi s D e=>by have q:=h.abu i s D;rw[e]at q;obtain⟨V,J⟩:=BU.mp q;obtain⟨W,U⟩:=BU.mp A;have Z:=(BU.mp D).1;show(Gq.mp Y) i _ V W Z (J.trans U.symm)
theorem Lu.aab(h:Lu V zs ss z sn)(J:zs.Nodup)(U:zs[ss.length]?=AA n):n∉sn:=λm=>by obtain⟨i,s,D,e,_⟩:_:=h.acd n m;show h.abt J U i s D e
theorem Lu.aby(h:Lu A zs ss z sn)(G:zs.Nodup)(C:zs[ss.length]?=AA n)(g:Mg sn n s)(E:s.da=AJ/\Y=sn/\F=z\/s.da=AR/\Y=sn++[n]/\F=I0 z n (Er s z A)/\Er s z A<=600):Lu A zs (ss++[s]) F Y:=by
  have H:∀a,a≠n->F a=z a:=λa D=>by
    rcases E with⟨_,_,rfl⟩|⟨_,_,rfl,_⟩;.rfl
    .show AEu D
  have I:∀a∈sn,a≠n:=λa m e=>h.aab G C (by rw[<-e];show m);show⟨λi t Z=>?_,λi t a Z D=>?_,λt V=>?_,λt V=>?_,λa D=>?_,λi t Z V=>?_,?_⟩
  . rcases UR Z with q|⟨rfl,rfl⟩;.show h.abu i t q
    .rw[g.nm];show C
  . rcases UR Z with q|⟨rfl,rfl⟩
    . obtain⟨W,J,l,U,r⟩:_:=h.oi i t a q D;show⟨W,J,l,US U,r⟩
    . obtain⟨W,J,U,r⟩:_:=h.acd a (g.oi a D);show⟨W,J,(BU.mp U).1,US U,r⟩
  . rcases DS.mp V with q|q;.show h.ok t q
    .cases By.mp q;show g.ok
  . rcases DS.mp V with q|q;.show h.uc t q
    .cases By.mp q;show g.uc
  . have B:a∈sn->∃(i:Nat)(J:AU),(ss++[s])[i]?=AA J/\J.nm=a/\J.da=AR:=λm=>by obtain⟨W,J,U,r⟩:=h.acd a m;show⟨W,J,US U,r⟩
    rcases E with⟨_,rfl,_⟩|⟨L,rfl,_⟩;.show B D
    . rcases DS.mp D with q|q;.show B q
      . cases By.mp q;show⟨_,s,by rw[QA (Ak _),c8];rfl,g.nm,L⟩
  . rcases UR Z with q|⟨rfl,rfl⟩
    . rw[H _ (h.abt G C i t q),W0 λa D=>?_];.show h.zq i t q V
      . obtain⟨W,J,_,U,rfl,_⟩:_:=h.oi i t a q D;show H _ (h.abt G C W J U)
    . rw[W0 λa D=>H a (I a (g.oi a D)),g.nm];rcases E with⟨q,_⟩|⟨_,_,rfl,K⟩;.rw[q]at V;cases V
      . rw[show I0 z n _ n=Er t z A from AEv rfl];show⟨rfl,K⟩
  . rcases E with⟨_,rfl,_⟩|⟨_,rfl,_⟩;.show h.ne
    .rw[B8];show Bh h.ne (OV _ _)
theorem Lu.qm(h:Lu E zs ss z sn)(C:zs.Nodup):ED ss:=⟨λi V s F e A q=>by
 have U:=h.abu i s e;have B:=h.abu V F A;rw[q]at U;lk;obtain⟨W,D⟩:=BU.mp U;obtain⟨Y,J⟩:=BU.mp B;k_in;have Z:=Gq.mp C;rcases cY i V with r|r|r;.show absurd (D.trans J.symm) (Z _ _ W Y r)
 .show r
 .show absurd (J.trans D.symm) (Z _ _ Y W r),h.oi,h.ok⟩
theorem hE(sn:List AF)(h:0<sn.length):∃x,x∈sn/\Gz (sn.map AD.str) (AA (-1)) AG=[x].map AD.str:=by
 have U:(sn.map AD.str).length=sn.length:=As _;have D:CS (sn.map AD.str).length 0 (AA (-1))=sn.length-1:=by change(if(-1)<0 then((-1:Int)+((sn.map AD.str).length)).toNat else D5 (-1).toNat (sn.map AD.str).length)=_;lia
 have J:CS (sn.map AD.str).length _ AG=sn.length:=U;show⟨sn[sn.length-1]'(WG h (by decide)),yP _,?_⟩;unfold Gz;rw[D,J,<-List.map_drop,cA _,show sn.length-(sn.length-1)=0+1 by show c9 h];rfl
theorem EW.xp(h:EW H ps ss)(e:DY H p s):EW H (ps++[.ref p]) (ss++[s]):=Dh h (.cons ⟨p,rfl,e⟩ .nil)
def oM(K:Ax):BO:=λZ H Q _=>(EH λ(a:AE)(W:List Int)(U:Nat)=>EV (Z=[.ref a,.int (U:Int)]) (B7 K H a (W.map AD.int)) (W.length<=63) (U<=16) (∀l J Y D z,An H J->H l=AG->J l=AA (.lst Y)->EW J Y D->ED D->D.length<=8->(∀s∈D,∀t∈s.uc,CT t)->(∀(i:Nat)s,D[i]?=AA s->s.da=AR->z s.nm=Er s z U/\z s.nm<=600)->Q (.ref l) J))
def Nt(a:AE)(A:Nat)(Z Y:AE)(c:Int)(u d:AE)(B m j:Int)(D J U W:Option AD):Ae:=(gM a (A:Int) Z Y c u d B m j D J U W)
unseal GC in theorem YR{X:Br}{l:List DA}{t u:C7}(n:Nat)(h1:GC X (l.take n) t)(h2:GC X (l.drop n) u):GC X l (bJ t u):=λpins s σ H D I h=>by
 have U:∀(J V:List DA),execs (J++V) X.ae=(do let f<-execs J X.ae;match f with|.next=>execs V X.ae|f=>Bo f):=λJ V=>by induction J with |nil=>rw[arm_execs_nil,bZ];rfl|cons a J Y=> rw[Sa,ADR,ADR,bind_assoc];congr 1;funext f;cases f with |next=>show Y|ret v=>rw[bZ]|brk=>rw[bZ]|cont=>rw[bZ]
 rw[<-QD n l,U];show BL (BD (h1 _ s σ H ⟨u D,D.rt,D.bk,D.ct⟩ I (h _ _ _ _ λ_ _ z=>z)) λf s1 q=>?_);cases f with|next=>obtain⟨Z,H',W,q⟩:=q;show h2 _ s1 _ H' D W q|ret v=>show Cp q|brk=>show Cp q|cont=>show Cp q
theorem lC(T:BQ AH Ag AM):T.oh.Ok BM P w Ag base 3 (oM AH):=by
  show T.oh.ok λnd _ _ _ _ _ hr H vs Q E h=>?_;obtain⟨a,ns,mo,rfl,hS,hl,hmo,k⟩:_:=h;show⟨_,(YR 8 (Aq (BC 2 nd (BG (RI T) hr #v[AB 0,AN,AN])) (Aq (BC 3 nd (BG (RI T) hr #v[AB 0,AN,AN])) (Aq (BC 4 nd (BG (X7 T) hr #v[AB 0])) (Aq (BC 5 nd (CW #v[CP #v[DV,CZ AH (AB 2) AN,CZ AH (AB 3) AN]])) (Aq (BC 6 nd (vC (vL (CZ AH (AB 2) AN) (AB 1) vM) (by rfl) (by rfl) (by intro z;cases z) (by decide))) (Aq (BC 7 nd AN) (Aq (BC 8 nd (AY Dp AN (AY CC (BG (RF T) hr #v[AB 0,AN]) AN))) (Ac (BC 9 nd (AY CC (AY C1 (BG (RF T) hr #v[AB 0,AN]) AN) AN)))))))))) (Aq (C8 DF rfl (vJ (by rfl) T.je #v[AN,AY Dp (AB 8) AN]) (CO 10 nd) (YR 3 (Aq (BC 11 nd (BG (RJ T) hr #v[AB 0,AY Dp AN (AB 10)])) (Aq (BC 12 nd (LX (U3 (K:=AH) rfl) (by rfl) T.jc NR #v[AB 6])) (Ac (BC 13 nd (BG (X9 T) hr #v[CZ AH (AB 2) (AB 10),AB 11,AB 12,AB 4]))))) (Aq (Jt (Bx (Bl DD (AB 10) (AB 8) (BW _)) (Ac (BC 13 nd (BG (YB T) hr #v[CZ AH (AB 2) (AB 10),AB 11,AY JG (HN (La (K:=AH)) (AB 12) (Gm (vF yB AN)) Ia) (AY uW (AB 12) (AY FV AN (AB 9))),AB 4]))) (Ac (Bx (Kh (Vb (Bl DD (AB 10) (AY FV (AB 8) AN) (BW _)) (Vc (Bl DD (AB 9) AN (BW _))))) (Ac (BC 13 nd (BG (X9 T) hr #v[CZ AH (AB 2) (AB 10),AY Dp (AY GG (AY C1 (AB 11) AN) AN) AN,AB 12,AB 4]))) (Ac (Bx (Bl DD (AY CC (AB 11) AN) AN (BW _)) (Ac (BC 13 nd (CP #v[DV,CZ AH (AB 2) (AB 10),CZ AH (AB 3) (AY CC (AY C1 (AB 11) AN) AN)]))) (Ac (Bx (Kh (Jw (Bl DD (AY CC (AB 11) AN) AN (BW _)) (Jw (Bl DD (AY CC (AB 11) AN) AN (BW _)) (NC (Bl DD (AB 7) AN (BW _)))))) (Ac (BC 13 nd (BG (YB T) hr #v[CZ AH (AB 2) (AB 10),AB 11,AB 12,AB 4]))) CH)))))))) (Aq (Jt (Bx (Bl (uV (K:=AH)) (Av AH (AB 13) AN) (CP #v[DV,DV]) (by with_unfolding_all rfl)) (Aq (Jt (Bx (Bl OG (BG (X0 T) hr #v[AB 13,AB 6,AB 1]) AN (BW _)) (Ac (BC 13 nd (CP #v[DV,CZ AH (AB 2) (AB 10),CZ AH (AB 3) AN]))) CH)) (Aq (Ju hr.u1 (AB 6) (CZ AH (AB 2) (AB 10)) (BG (X0 T) hr #v[AB 13,AB 6,AB 1]) rfl) (Ac (BC 7 nd (AY Dp (AB 7) (LX ZI (by rfl) T.aad ACF #v[(HM (VO (K:=AH)) (Av AH (AB 13) AN) (CP #v[DV,DV]) (by with_unfolding_all rfl))])))))) CH)) (Ac (D1 (JI AH (AB 5) #v[AB 13]))))))) (Ac (BI (AB 5))))),?_⟩;have sz:Ay=16777216:=DW;showλ_ _ _ _ z1=>⟨a,ns,1,8,rfl,hS,hl,by decide,by decide,by decide,λln Ha zs sa hln eln lz dz az=>?_⟩;show⟨a,ns,2,2,rfl,sa.wq hS,hl,by decide,by decide,by decide,λlk Hk ks sk hlk elk lks _ ak=>?_⟩;have lz:zs.length=8:=Iv.mp lz;have lks:ks.length=2:=Iv.mp lks;have sak:=sa.aa sk;show⟨a,ns,rfl,sak.wq hS,hl,λc Hb sb hc=>?_⟩;have s0b:=sak.aa sb;have elnb:=sb _ _ (sk _ _ eln);have elkb:=sb _ _ elk;have hSb:=s0b.wq hS;clear sa sk hln hlk eln elk sak sb;have natz:∀{i:Nat}{n:AF},zs[i]?=AA n->DL (zs.map AD.str) (i:Int)=AA (.str n):=λ{i n}e=>Aj (xs:=zs.map AD.str) (v:=.str n) (by rw[Bs,e];rfl);lk;obtain⟨n0,en0⟩:∃n,zs[0]?=AA n:=⟨_,CG (by simp_all)⟩;obtain⟨k0,ek0⟩:∃n,ks[0]?=AA n:=⟨_,CG (by simp_all)⟩;k_in;have atk0:DL (ks.map AD.str) 0=AA (.str k0):=Aj (xs:=ks.map AD.str) (j:=0) (v:=.str k0) (by rw[Bs,ek0];rfl);have an0:CT n0:=az _ (Cg en0);have ak0:CT k0:=ak _ (Cg ek0);show⟨_,_,AW elnb,natz en0,_,_,AW elkb,atk0,CB rfl,λp0 hp0=>?_⟩;have g1:=CL (o:=.tup [AD.str "take",.str n0,.str k0]) hp0;have ep0:DY (AQ Hb p0 (.tup [AD.str "take",.str n0,.str k0])) p0 (.take n0 k0):=Af;generalize AQ Hb p0 (.tup [AD.str "take",.str n0,.str k0])=Hc at g1 ep0⊢;show⟨CB rfl,λu hu=>?_⟩;show BA (o:=.lst [AD.ref p0]) hu λHd g2 eu=>?_;showλd hd=>?_;have g3:=CL (o:=.dK []) hd;have ed:(AQ Hd d (.dK [])) d=AA (.dK []):=Af;generalize hHe:AQ Hd d (.dK [])=He at g3 ed⊢;show⟨_,_,AW (g3 _ _ (g2 _ _ (g1 _ _ elnb))),natz en0,ed,[(.inr n0,.int (mo:Int))],rfl,CB rfl,?_⟩;have g4:An Hb (AQ He d (.dK (Kp [] [(.inr n0,.int (mo:Int))]))):=by rw[<-hHe];show((g1.aa g2).aa (CL hd)).xq ((g1.aa g2).ba hd)
  have ed4:(AQ He d (.dK (Kp [] [(.inr n0,.int (mo:Int))]))) d=AA (.dK (GW [n0] λ_=>mo)):=Af;have nud:u≠d:=Bg eu hd;have npd:p0≠d:=Bg (g2 _ _ ep0) hd;have eu4:(AQ He d (.dK (Kp [] [(.inr n0,.int (mo:Int))]))) u=AA (.lst [AD.ref p0]):=by rw[AX nud];show g3 _ _ eu
  have ep4:DY (AQ He d (.dK (Kp [] [(.inr n0,.int (mo:Int))]))) p0 (.take n0 k0):=by change(AQ He d _) p0=_;rw[AX npd];show g3 _ _ (g2 _ _ ep0)
  have fu:Hb u=AG:=g1.ba hu;have fd:Hb d=AG:=(g1.aa g2).ba hd;generalize AQ He d (.dK (Kp [] [(.inr n0,.int (mo:Int))]))=H0 at g4 ed4 eu4 ep4⊢;clear g1 g2 g3 ed eu ep0 hHe;show⟨a,ns,_,rfl,g4.wq hSb,by decide,hl,λc1=>⟨(zzp rfl),?_⟩⟩;show⟨a,ns,_,rfl,g4.wq hSb,by decide,hl,λc2=>⟨(zzd rfl),(zzp rfl),z1 _ _ ?_⟩⟩;have b6:0<=c1%6/\c1%6<6:=⟨HW _ (by decide),JS _ (by decide)⟩;have b2:0<=c2/6%2/\c2/6%2<2:=⟨HW _ (by decide),JS _ (by decide)⟩;generalize c1%6=m1 at b6⊢;have pl0:Lu mo zs [.take n0 k0] (λ_=>mo) [n0]:=by
    show⟨λi s e=>?_,λi s x e hx=>?_,λs hs=>?_,λs hs=>?_,λx hx=>?_,λi s e _=>?_,Nat.one_pos⟩;.match i,e with|0,e=>cases e;show en0
    .match i,e with|0,e=>cases e;cases hx
    .cases By.mp hs;trivial
    .cases By.mp hs;show(Ud (sn:=[]) an0 ak0).uc
    .cases By.mp hx;show⟨0,_,rfl,rfl,rfl⟩
    .match i,e with|0,e=>cases e;show⟨rfl,Ah hmo (by decide)⟩
  show⟨1,_,rfl,⟨by decide,by decide,by lia,by lia⟩,?_⟩;show Pl (λj σ H'=>(Ll λ(o10 o11 o12 o13:Option AD)(wd:Int)(ps:List AD)(ss:List AU)(z:AF->Nat)(sn:List AF)=>JW (σ=Nt a mo ln lk c u d wd (2+m1) (c2/6%2) o10 o11 o12 o13) (An Hb H') (H' u=AA (.lst ps)) (EW H' ps ss) (ss.length=j+1) (H' d=AA (.dK (GW sn z))) (sn.length<=j+1) (Lu mo zs ss z sn))) ⟨AG,AG,AG,AG,1,_,_,_,_,rfl,g4,eu4,.cons ⟨p0,rfl,ep4⟩ .nil,rfl,ed4,Ak _,pl0⟩ ?_ ?_
  . clear g4 ed4 eu4 ep4 pl0;intro j σ H1 hj hI;lk;obtain⟨o10,o11,o12,o13,wd,ps,ss,z,sn,rfl,s1,eu1,pr1,ls1,ed1,lsn,pl1⟩:=hI;have hj8:j<7:=by lia
    obtain⟨n,en⟩:∃n,zs[j+1]?=AA n:=⟨_,CG (by lia)⟩;k_in;have an:CT n:=az _ (Cg en);have atn:DL (zs.map AD.str) (1+(j:Int))=AA (.str n):=by have:=natz en;rwa[show(((j+1:Nat)):Int)=1+(j:Int)by lia]at this
    have asn:∀x∈sn,CT x:=λx hx=>by obtain⟨i,s,ei,rfl,_⟩:=pl1.acd x hx;show az _ (Cg (pl1.abu i s ei))
    have enl:zs[ss.length]?=AA n:=by rw[ls1];show en
    showλ_ _ _ _ z2=>⟨a,ns,_,rfl,s1.wq hSb,hl,by(constructor<;>lia),λnn nn0=>?_⟩;show⟨d,_,rfl,ed1,λls hls=>?_⟩;rw[pR];show BA (o:=.lst (sn.map AD.str)) hls λH2 g1 els=>?_;show⟨_,_,AW (g1 _ _ (s1 _ _ elnb)),atn,n,nn,c,ls,sn,rfl,els,pl1.ne,hc,λp1 H3 st1 g2 ep1 ht1 so1=>z2 _ _ ?_⟩;have s3:=s1.aa (g1.aa g2);have els3:=g2 _ _ els;have hln3:B7 AH H3 ln _:=AW (s3 _ _ elnb);obtain⟨N1,rest,n1⟩:∃N1:Ae->AI->Prop,(∀{p:AE}{st:AU}{H':AI},An H3 H'->DY H' p st->Mg sn n st->N1 (Nt a mo ln lk c u d wd (2+m1) (c2/6%2) (AA (.int (1+(j:Int)))) (AA (.int nn)) (AA (.ref ls)) (AA (.ref p))) H')/\∀σ' H',N1 σ' H'->LU (λ(p:AE)(st:AU)=>σ'=Nt a mo ln lk c u d wd (2+m1) (c2/6%2) (AA (.int (1+(j:Int)))) (AA (.int nn)) (AA (.ref ls)) (AA (.ref p))) (λ_ _=>An H3 H') (λp st=>DY H' p st) (λ_ st=>Mg sn n st):=⟨_,λs e g=>⟨_,_,rfl,s,e,g⟩,λ_ _ h=>h⟩;show Jp N1 ?_ ?_
    . show⟨rfl,_,rfl,EA (λ_=>?_) λ_=>?_⟩
      . obtain⟨x,hx,ex⟩:_:=hE sn pl1.ne;show⟨_,_,hln3,atn,(-1:Int),rfl,ls,_,rfl,AW els3,λl1 hl1=>?_⟩;rw[ex];show BA (o:=.lst ([x].map AD.str)) hl1 λH4 h1 el1=>?_;have jb:(1-c2/6%2).toNat<=1:=TH.mpr (ABW _ b2.1);show⟨ls,_,_,rfl,rfl,h1 _ _ els3,by lia,Int.sub_lt_of_sub_lt (JU (by decide) b2.1),?_,λl2 hl2=>?_⟩
        . rw[As];have:=c6 (show sn.length<=8 by lia) jb;(constructor<;>lia)
        have el2:(AQ H4 l2 (.lst (FO (1-c2/6%2).toNat (sn.map AD.str)).flatten)) l2=AA (.lst ((FO (1-c2/6%2).toNat sn).flatten.map AD.str)):=by rw[Af,List.map_flatten,List.map_replicate]
        have h2:=CL (o:=.lst (FO (1-c2/6%2).toNat (sn.map AD.str)).flatten) hl2;generalize AQ H4 l2 (.lst (FO (1-c2/6%2).toNat (sn.map AD.str)).flatten)=H5 at h2 el2⊢;have lr:=Zp sn (1-c2/6%2).toNat;have lr1:=c6 jb (show sn.length<=8 by lia);show⟨l1,l2,_,_,rfl,rfl,h2 _ _ el1,el2,?_,λl3 hl3=>?_⟩
        . rw[As,As,lr];change 1+_<=_;(constructor<;>lia)
        have el3:(AQ H5 l3 (.lst ([x].map AD.str++(FO (1-c2/6%2).toNat sn).flatten.map AD.str))) l3=AA (.lst (([x]++(FO (1-c2/6%2).toNat sn).flatten).map AD.str)):=by rw[Af,CQ]
        have h3:=CL (o:=.lst ([x].map AD.str++(FO (1-c2/6%2).toNat sn).flatten.map AD.str)) hl3;generalize AQ H5 l3 (.lst ([x].map AD.str++(FO (1-c2/6%2).toNat sn).flatten.map AD.str))=H6 at h3 el3⊢;show⟨n,nn,c,l3,_,rfl,el3,dA _,hc,λp H' st s ep ht so=>rest ((h1.aa (h2.aa h3)).aa s) ep (so.g (λy hy=>?_) an asn)⟩;rcases DS.mp hy with q|q;.cases By.mp q;show hx
        . obtain⟨l,hl,hy⟩:_:=List.mem_flatten.mp q;rw[(List.mem_replicate.mp hl).2]at hy;show hy
      . have tk:∀{H':AI}{kd:AF},An H3 H'->kd∈ks->∀p,H' p=AG->N1 (Nt a mo ln lk c u d wd (2+m1) (c2/6%2) (AA (.int (1+(j:Int)))) (AA (.int nn)) (AA (.ref ls)) (AA (.ref p))) (AQ H' p (.tup [.str "take",.str n,.str kd])):=λ{H' kd}s hk p hp=>rest (s.du hp) (st:=.take n kd) Af (Ud an (ak _ hk));lk;obtain⟨v,hvk,hmk⟩:=JC (ks.map AD.str) 2 (by rw[As,lks];rfl) (by decide) (nn/7);obtain⟨kd,mk,rfl⟩:=BE.mp hmk;k_in;show⟨rfl,_,rfl,EA (λ_=>⟨rfl,_,rfl,EA (λ_=>?_) λ_=>?_⟩) λ_=>Ds ?_⟩;.show⟨_,_,hln3,atn,(zzd rfl),.inr ⟨by decide,by decide⟩,n,_,c,ls,sn,rfl,els3,pl1.ne,hc,λp H' st s ep ht so=>rest s ep (so.g (λ_ h=>h) an asn)⟩
        . show⟨(zzp rfl),rfl,_,rfl,EA (λ_=>?_) λ_=>?_⟩;.show⟨_,_,hln3,atn,(zzd rfl),(zzp rfl),_,_,AW (s3 _ _ elkb),hvk,CB rfl,λp hp=>tk (C6 _) mk p hp⟩
          .show⟨(zzp rfl),rfl,_,rfl,EA (λ_=>Jq ?_) λ_=>⟨(zzp rfl),rfl,_,rfl,EA (λ_=>Jq ?_) λ_=>⟨rfl,_,rfl,EA (λ_=>?_) λ_=>rest (C6 _) ep1 (so1.g (λ_ h=>h) an asn)⟩⟩⟩<;>show⟨_,_,hln3,atn,n,nn,c,ls,sn,rfl,els3,pl1.ne,hc,λp H' st s ep ht so=>rest s ep (so.g (λ_ h=>h) an asn)⟩
        . show⟨(zzp rfl),rfl,_,rfl,EA (λ_=>?_) λ_=>?_⟩;.show⟨_,_,hln3,atn,(zzd rfl),(zzp rfl),_,_,AW (s3 _ _ elkb),hvk,CB rfl,λp hp=>tk (C6 _) mk p hp⟩
          .show⟨(zzp rfl),rfl,_,rfl,EA (λ_=>Jq ?_) λ_=>⟨(zzp rfl),rfl,_,rfl,EA (λ_=>Jq ?_) λ_=>⟨rfl,_,rfl,EA (λ_=>?_) λ_=>rest (C6 _) ep1 (so1.g (λ_ h=>h) an asn)⟩⟩⟩<;>show⟨_,_,hln3,atn,n,nn,c,ls,sn,rfl,els3,pl1.ne,hc,λp H' st s ep ht so=>rest s ep (so.g (λ_ h=>h) an asn)⟩
    . intro σ' H4 hI;obtain⟨p,st,rfl,s4,ep,sg⟩:_:=n1 _ _ hI;have sb4:=s3.aa s4;have g14:=(g1.aa g2).aa s4;have eu4:=g14 _ _ eu1;have ed4:=g14 _ _ ed1;have pr4:=pr1.ab g14.tp;clear rest n1 hI g1 g2 g14 els els3 hln3 s3 s4 eu1 ed1 pr1 ep1 so1;have nin:=pl1.aab dz enl;show Jp (λσ' H'=>(IM λ(p:AE)(st:AU)(wd:Int)(z':AF->Nat)(sn':List AF)=>JW (σ'=Nt a mo ln lk c u d wd (2+m1) (c2/6%2) (AA (.int (1+(j:Int)))) (AA (.int nn)) (AA (.ref ls)) (AA (.ref p))) (An Hb H') (H' u=AA (.lst ps)) (EW H' ps ss) (H' d=AA (.dK (GW sn' z'))) (sn'.length<=j+2) (DY H' p st) (Lu mo zs (ss++[st]) z' sn'))) ?_ ?_
      . obtain⟨e0,e1,_⟩:_:=ep.gy;show⟨_,_,e0,e1,CB rfl,λq hq=>?_⟩;have g5:=CL (o:=.tup Mh) hq;show⟨_,Mh,rfl,.inr (Ao Af),rfl,rfl,_,rfl,MM (λht=>?_) λht=>?_⟩
        . have tf:st.da=AR:=by have ht:(!FK (.str st.gy) Mh)=AJ:=ht;rw[Ui]at ht;simpa using ht
          have sb5:=sb4.aa g5;have eu5:=g5 _ _ eu4;have ed5:=g5 _ _ ed4;have pr5:=pr4.ab g5.tp;have ep5:=ep.tp g5.tp;have g5:An H4 (AQ H4 q (.tup [AD.str "each",.str "gap"])):=g5;have sb5:An Hb (AQ H4 q (.tup [AD.str "each",.str "gap"])):=sb5;have eu5:(AQ H4 q (.tup [AD.str "each",.str "gap"])) u=_:=eu5;have ed5:(AQ H4 q (.tup [AD.str "each",.str "gap"])) d=_:=ed5;have pr5:EW (AQ H4 q (.tup [AD.str "each",.str "gap"])) ps ss:=pr5;have ep5:DY (AQ H4 q (.tup [AD.str "each",.str "gap"])) p st:=ep5;generalize AQ H4 q (.tup [AD.str "each",.str "gap"])=H5 at g5 sb5 eu5 ed5 pr5 ep5⊢;have hz:∀{st:AU},Mg sn n st->∀a∈st.bu,BH (GW sn z) (.inr a)=AA (.int (z a:Int))/\z a<=600:=λ{st}g x hx=>by show⟨qK (g.oi x hx),?_⟩;obtain⟨i,s',ei,rfl,t'⟩:=pl1.acd x (g.oi x hx);show(pl1.zq i s' ei t').2
          show Jp (λσ' H'=>Rn (λ(p:AE)(st:AU)=>σ'=Nt a mo ln lk c u d wd (2+m1) (c2/6%2) (AA (.int (1+(j:Int)))) (AA (.int nn)) (AA (.ref ls)) (AA (.ref p))) (λ_ _=>An H5 H') (λp st=>DY H' p st) (λ_ st=>Mg sn n st) (λ_ st=>st.da=AR) (λ_ st=>Er st z mo<=600)) ?_ ?_;. show⟨p,d,st,_,z,mo,rfl,ep5,ed5,hz sg,_,rfl,Kl (λh=>?_) λh=>⟨p,st,rfl,C6 _,ep5,sg,tf,gC.mp (NY h)⟩⟩;show⟨_,_,AW (sb5 _ _ elnb),atn,_,_,AW (sb5 _ _ elkb),atk0,CB rfl,λp2 hp2=>⟨p2,.take n k0,rfl,CL hp2,Af,Ud an ak0,rfl,by change mo<=600;show Ah hmo (by decide)⟩⟩
          . intro σ' H6 hI;obtain⟨p,st,rfl,s6,ep6,sg6,tf6,hb6⟩:_:=hI;have ed6:=s6 _ _ ed5;show⟨p,d,st,_,z,mo,rfl,ep6,ed6,hz sg6,_,_,AW (s6 _ _ (sb5 _ _ elnb)),atn,d,_,rfl,Ke (k:=.inr n) ed6 ?_,?_⟩;. unfold GW;rw[As];lia
            rw[mN nin];have ndo:∀{b:AE}{o:Bn},H6 b=AA o->(∀kv,o≠.dK kv)->b≠d:=λeo hn z=>by rw[z,ed6]at eo;show hn _ (B9 eo).symm
            have k7:∀{b:AE}{o:Bn},H6 b=AA o->(∀kv,o≠.dK kv)->(AQ H6 d (.dK (GW (sn++[n]) (I0 z n (Er st z mo))))) b=AA o:=λeo hn=>by rw[AX (ndo eo hn)];show eo
            have tp7:Bc H6 (AQ H6 d (.dK (GW (sn++[n]) (I0 z n (Er st z mo))))):=λb xs eo=>k7 eo (by intro kv z;cases z);have sb7:An Hb (AQ H6 d (.dK (GW (sn++[n]) (I0 z n (Er st z mo))))):=(sb5.aa s6).xq fd;have eu7:=k7 (s6 _ _ eu5) (by intro kv z;cases z);have ed7:(AQ H6 d (.dK (GW (sn++[n]) (I0 z n (Er st z mo))))) d=AA (.dK (GW (sn++[n]) (I0 z n (Er st z mo)))):=Af;have pr7:=(pr5.ab s6.tp).ab tp7;have ep7:=ep6.tp tp7;generalize AQ H6 d (.dK (GW (sn++[n]) (I0 z n (Er st z mo))))=H7 at sb7 eu7 ed7 pr7 ep7⊢;obtain⟨f0,f1,_⟩:_:=ep7.gy;show⟨_,_,f0,f1,CB rfl,λq7 hq7=>?_⟩;have g8:=CL (o:=.tup Na) hq7;show⟨_,Na,rfl,.inr (Ao Af),rfl,rfl,.inr ⟨_,rfl,?_⟩⟩;show⟨p,st,_,I0 z n (Er st z mo),sn++[n],rfl,sb7.aa g8,g8 _ _ eu7,pr7.ab g8.tp,g8 _ _ ed7,?_,ep7.tp g8.tp,pl1.aby dz enl sg6 (.inr ⟨tf6,rfl,rfl,hb6⟩)⟩;rw[B8];change sn.length+1<=_;show J3.mpr lsn
        . have tt:st.da=AJ:=by have ht:(!FK (.str st.gy) Mh)=AR:=ht;rw[Ui]at ht;simpa using ht
          show⟨p,st,wd,z,sn,rfl,sb4.aa g5,g5 _ _ eu4,pr4.ab g5.tp,g5 _ _ ed4,Kx lsn,ep.tp g5.tp,pl1.aby dz enl sg (.inl ⟨tt,rfl,rfl⟩)⟩
      . intro σ' H5 hI;obtain⟨p,st,wd,z',sn',rfl,s5,eu5,pr5,ed5,l5,ep5,pl5⟩:_:=hI;show⟨.inl ⟨rfl,_,AW eu5⟩,u,ps,_,rfl,rfl,eu5,?_,?_⟩;.rw[pr5.de];lia
        have tp6:Bc H5 (AQ H5 u (.lst (ps++[.ref p]))):=(IU H5).du eu5 λxs=>by intro z;cases z
        have ndu:d≠u:=λz=>by rw[z,eu5]at ed5;cases ed5
        show⟨_,_,_,_,_,_,_,_,_,rfl,s5.xq fu,Af,(pr5.xp ep5).ab tp6,by rw[B8,ls1];rfl,by rw[AX ndu];show ed5,by assumption,pl5⟩
  . intro σ H1 hI;obtain⟨o10,o11,o12,o13,wd,ps,ss,z,sn,rfl,s1,eu1,pr1,ls1,ed1,lsn,pl1⟩:_:=hI;show k u H1 ps ss z (s0b.aa s1) (s0b.ba fu) eu1 pr1 (pl1.qm dz) (by lia) pl1.uc pl1.zq
def nL(K:Ax):BO:=λU H Q _=>(EH λ(a:AE)(J:List Int)(k:Int)=>EV (U=[.ref a,.int k]) (B7 K H a (J.map AD.int)) (J.length<=63) (0<=k) (∀p D e,An H D->H p=AG->Ge D p e->CT e.2.1->CT e.2.2.1->0<=e.1/\e.1<=1000000000->Q (.ref p) D))
theorem j8(T:BQ AH Ag AM):T.mw.Ok BM P w Ag base 3 (nL AH):=by
 have D:=RF (P:=P) (w:=w) (base:=base) T;show T.mw.ok λY _ _ _ _ _ A H vs Q E h=>?_;obtain⟨a,C,i,rfl,d,Z,N,k⟩:_:=h;show⟨_,(Aq (BC 2 Y (BG (RJ T) A #v[AB 0,AY Dp (AB 1) AN])) (Aq (BC 3 Y (BG (X7 T) A #v[AB 0])) (Aq (BC 4 Y (AY Dp (AY GG (AY CC (BG D A #v[AB 0,AB 1]) AN) (AB 3)) (AY GG (AY CC (AB 2) AN) (LX ZI (by rfl) T.aad ACF #v[HM OG (AB 3) AN (BW _)])))) (Aq (Jt (Bx (Bl DD (AY CC (AY C1 (BG D A #v[AB 0,AB 1]) AN) AN) AN (BW _)) (Ac (BC 4 Y (AY CC (AY CC (AY GG (AB 2) AN) AN) AN))) CH)) (Aq (Jt (Bx (Bl DD (AY CC (AY C1 (BG D A #v[AB 0,AB 1]) AN) AN) AN (BW _)) (Ac (BC 4 Y (AY FV AN (AY CC (AY C1 (BG D A #v[AB 0,AB 1]) AN) AN)))) CH)) (Aq (BC 5 Y (CZ AH (BG (RI T) A #v[AB 0,AN,AN]) (AY CC (AY C1 (AB 2) AN) AN))) (Aq (BC 6 Y (BG (RI T) A #v[AB 0,AN,CZ AH (CW #v[AN,AN,AN]) (AY CC (AY C1 (BG D A #v[AB 0,AN]) AN) AN)])) (Aq (BC 7 Y (CZ AH (AB 6) (AY CC (AY C1 (AB 2) AN) (DE (HJ (K:=AH)) (by rfl) T.fm HR #v[AB 6])))) (Aq (BC 8 Y (AY FV (AY CC (AY C1 (AB 2) AN) AN) AN)) (Aq (Jt (Bx (Bl DD (AY CC (AY C1 (AB 2) AN) AN) AN (BW _)) (Ac (BC 8 Y (AY FV (AY CC (AY GG (AB 2) AN) AN) AN))) CH)) (Ac (BI (CP #v[AB 4,AB 5,AB 7,AB 8]))))))))))))),?_⟩;show⟨a,C,_,rfl,d,Z,ABG N,λB nn0=>?_⟩;show⟨a,C,rfl,d,Z,λc Hb n hc=>?_⟩;have U:=n.wq d;have O:1<=c/\c<=40000:=by(constructor<;>lia)
 show⟨a,C,_,rfl,U,N,Z,λF=>⟨(zzp rfl),.inr ⟨JU (by decide) O.1,JT O.2 (by decide)⟩,(zzp rfl),.inr ⟨_,rfl,?_⟩⟩⟩;have m3:0<=B%3/\B%3<3:=⟨HW _ (by decide),JS _ (by decide)⟩;show⟨.inl ⟨JU (by decide) m3.1,Qp m3.2 (by decide)⟩,?_⟩;have W:0<=F%40*c+(B%3*if Aa (1<c)=AJ then 1 else 0)/\F%40*c+(B%3*if Aa (1<c)=AJ then 1 else 0)<=1000000000:=by
  have m4:0<=F%40/\F%40<=39:=by(constructor<;>lia)
  have u1:0<=F%40*c:=ABQ m4.1 (K6 O.1);have u2:F%40*c<=39*c:=ABP m4.2 (K6 O.1);split<;>(constructor<;>lia)
 show Jp (λJ S=>Jn (λ(t:Int)=>(0<=t/\t<=1000000000)) (λt=>J=(Ta a i B c t AG AG AG AG)) (λ_=>S=Hb)) ?_ ?_
 . show⟨a,C,_,rfl,U,N,Z,λc2=>⟨(zzd rfl),(zzp rfl),rfl,_,rfl,EA (λ_=>?_) λ_=>⟨_,W,rfl,rfl⟩⟩⟩;show⟨.inr ⟨by decide,by decide⟩,(zzp rfl),(zzp rfl),_,⟨HW _ (by decide),ABK (JS _ (by decide))⟩,rfl,rfl⟩
 intro J S I;obtain⟨t,W,rfl,rfl⟩:_:=I;show Jp (λJ r=>Jn (λ(t:Int)=>(0<=t/\t<=1000000000)) (λt=>J=(Ta a i B c t AG AG AG AG)) (λ_=>r=S)) ?_ ?_;. show⟨a,C,_,rfl,U,N,Z,λc2=>⟨(zzd rfl),(zzp rfl),rfl,_,rfl,EA (λ_=>?_) λ_=>⟨_,W,rfl,rfl⟩⟩⟩;show⟨a,C,_,rfl,U,N,Z,λc3=>⟨(zzd rfl),(zzp rfl),_,⟨by lia,ABW _ (HW _ (by decide))⟩,rfl,rfl⟩⟩
 intro J r I;obtain⟨t,W,rfl,rfl⟩:_:=I;show⟨a,C,2,2,rfl,U,Z,by decide,by decide,by decide,λlk Hk ks q _ b l _ ak=>?_⟩;lk;obtain⟨v,hv,hm⟩:=JC (ks.map AD.str) 2 (by rw[As];show l) (by decide) (B/16);obtain⟨x,mk,rfl⟩:=BE.mp hm;k_in;show⟨(zzd rfl),(zzp rfl),_,_,AW b,hv,?_⟩;have L:=q.wq U;show⟨CB rfl,λp1 f=>?_⟩;show BA (o:=.lst [AD.int 3,.int 3,.int 9]) f λH3 R e1=>?_;show⟨a,C,_,rfl,R.wq L,by decide,Z,λc4=>?_⟩;lk;obtain⟨v,g,M⟩:=JC [AD.int 3,.int 3,.int 9] 3 rfl (by decide) (c4/12);obtain⟨m,rfl,hm4⟩:∃m:Int,v=.int m/\(m=3\/m=9):=by
  simp only[Ca,Sg,AE8]at M;rcases M with rfl|rfl|rfl;.show⟨_,rfl,.inl rfl⟩
  .show⟨_,rfl,.inl rfl⟩
  .show⟨_,rfl,.inr rfl⟩
 k_in;show⟨(zzd rfl),(zzp rfl),_,_,AW e1,g,a,C,3,m,rfl,R.wq L,Z,by decide,by lia,by lia,λly H4 ys sy _ G lys _ ay=>?_⟩;have z:(0:Int)<((ys.map AD.str).length:Int):=by rw[As];lia
 lk;obtain⟨v,j,e⟩:=JC (ys.map AD.str) _ rfl z (B/32);obtain⟨y,my,rfl⟩:=BE.mp e;k_in;show⟨(zzd rfl),_,.inl (AW G),z,_,_,AW G,j,?_⟩;show⟨(zzd rfl),(zzp rfl),?_⟩;show Jp (λJ s=>Gk (λ(X:Int)=>J=(Ta a i B c t (AA (.str x)) (AA (.ref ly)) (AA (.str y)) (AA (.int X)))) (λ_=>s=H4)) ?_ ?_
 . show⟨(zzd rfl),(zzp rfl),rfl,_,rfl,EA (λ_=>?_) λ_=>⟨_,rfl,rfl⟩⟩;show⟨.inr ⟨by decide,by decide⟩,(zzp rfl),_,rfl,rfl⟩
 intro J s I;obtain⟨X,rfl,rfl⟩:_:=I;show⟨CB rfl,λp u=>k p _ (t,x,y,X) ((n.aa (q.aa (R.aa sy))).du u) ((n.aa (q.aa (R.aa sy))).ba u) Af (ak _ mk) (ay _ my) W⟩
abbrev EI:=Int×Int×Int×Int
abbrev AV:=Int×Int×EI
abbrev Oz:=Int×Int
def G9(a b:EI):EI:=(a.1+b.1,a.2.1+b.2.1,D5 a.2.2.1 b.2.2.1,Lc a.2.2.2 b.2.2.2)
def Kc(a:Int):EI:=(1,a,a,a)
theorem jF(a b:Int):(if b<a then b else a)=D5 a b:=by(split<;>lia)
theorem O1(a b:EI):G9 a b=G9 b a:=by unfold G9;grind
theorem Wz(a b c:EI):G9 (G9 a b) c=G9 a (G9 b c):=by unfold G9;grind
def Cj(s e:Int)(t:EI):List AV->List AV|[]=>[(s,e,t)]|b::r=>if b.1<s then b::Cj s e t r else if b.1=s then(s,b.2.1,G9 b.2.2 t)::r else(s,e,t)::b::r
def FR(l:List AV):Prop:=l.Pairwise λa b=>a.1<b.1
theorem Xb:∀{l:List AV}{x:AV},x∈Cj s e t l->x.1=s\/x∈l
  |[],x,h=>.inl (by rw[By.mp h])|b::r,x,h=>by
    unfold Cj at h;split at h
    . rcases Ca.mp h with h|h;.simp_all
      .show(Xb h).imp id (λD=>ID D)
    grind
theorem Tv:∀{l:List AV},FR l->FR (Cj s e t l)
 |[],_=>yV _ _|b::r,h=>by
  obtain⟨U,J⟩:=JP.mp h;unfold Cj;split;. show JP.mpr ⟨λx D=>?_,Tv J⟩;rcases Xb D with z|z;all_goals(simp[*])
  split;.show JP.mpr (by grind)
  . show JP.mpr ⟨λx D=>?_,h⟩;grind
theorem Xa:∀{l:List AV},(Cj s e t l).length<=l.length+1
 |[]=>Ak _|b::r=>by
  unfold Cj;split;.show QG Xa
  (split<;>simp_all)
theorem Xd{s e s' W:Int}{t t':EI}(h:s=s'->e=W):∀{l:List AV},Cj s' W t' (Cj s e t l)=Cj s e t (Cj s' W t' l)
  |[]=>by
    by_cases z:s=s';.have:=h z;subst z this;simp[Cj,O1]
    . by_cases y:s<s';.simp[Cj,y,by show TB y,by show K7 y]
      .simp[Cj,y,by show ABN.mpr ⟨NY y,Gb z⟩,show s≠s' by assumption]|b::r=>by
    have Y:=@Xd s e s' W t t' h r;by_cases J:b.1<s<;>by_cases U:b.1<s';.simp[Cj,J,U,Y]
    . by_cases D:b.1=s';.simp[Cj,J,D,show s'<s by simp_all]
      .simp[Cj,J,U,D,by show JT (NY U) J]
    . by_cases D:b.1=s;.simp[Cj,U,D,show s<s' by simp_all]
      .simp[Cj,J,U,D,by show JT (NY J) U]
    . by_cases D:b.1=s<;>by_cases V:b.1=s'
      . have z:=Ou D.symm V;have:=h z;subst z this;simp[Cj,D,Wz,O1 t t']
      .simp[Cj,D,show¬s<s' by simp_all,show s'<s by lia,show s≠s' by simp_all]
      .simp[Cj,V,show¬s'<s by simp_all,show s<s' by lia,show s'≠s by simp_all]
      . by_cases z:s=s'
        . have:=h z;subst z this;simp[Cj,J,D,O1]
        . by_cases y:s<s';.simp[Cj,J,U,D,V,y,by show TB y,by show K7 y,by(first|lia|omega)]
          .simp[Cj,J,U,D,V,y,by show ABN.mpr ⟨NY y,Gb z⟩,show s≠s' by assumption]
def L4(w:Int)(p:AV):Bool:=Aa (w<p.2.1)
theorem iL:∀{l:List AV},(∀x∈l,s<x.1)->Cj s e t l=(s,e,t)::l|[],_=>rfl|b::r,h=>by have:=h b D4;simp[Cj,by show TB this,by show K7 this]
def Dy(b p:AV):AV:=(D5 b.1 p.1,Lc b.2.1 p.2.1,G9 b.2.2 p.2.2)
theorem Q8(a b:AV):Dy a b=Dy b a:=by unfold Dy;rw[O1];grind
theorem Q7(a b c:AV):Dy (Dy a b) c=Dy a (Dy b c):=by unfold Dy;rw[Wz];simp
def DB(p:AV):List AV->List AV|[]=>[p]|b::r=>if b.2.1<=p.1 then b::DB p r else if p.2.1<=b.1 then p::b::r else DB (Dy b p) r
def JY(l:List AV):Prop:=(∀b∈l,b.1<b.2.1)/\l.Pairwise λa b=>a.2.1<=b.1
theorem RE:∀{l:List AV}{p:AV},x<=p.1->(∀b∈l,x<=b.1)->∀b∈DB p l,x<=b.1
  |[],p,h,_,b,D=>by rw[By.mp D];show h|c::r,p,h,J,b,D=>by
    have U:=λb D=>J b (GH _ D);unfold DB at D;split at D
    . rcases Ca.mp D with z|z;.show J _ (Ca.mpr (Fo z))
      .show RE h U b z
    split at D;.grind
    .show RE (by unfold Dy;grind) U b D
theorem RD:∀{l:List AV}{p:AV},p.1<p.2.1->JY l->JY (DB p l)
 |[],p,h,_=>⟨λb D=>by rw[By.mp D];show h,yV _ _⟩|c::r,p,h,⟨U,V⟩=>by
  obtain⟨W,u2⟩:=JP.mp V;have J:JY r:=⟨(λW u2=>U _ (ID u2)),u2⟩;unfold DB;split
  . obtain⟨i1,i2⟩:=RD h J;show⟨λb D=>?_,JP.mpr ⟨λb D=>RE (by assumption) (by assumption) b D,i2⟩⟩;grind
  split
  . show⟨λb D=>?_,JP.mpr (by grind)⟩;all_goals grind
  .show RD (by unfold Dy;grind) J
theorem T8:∀{l:List AV}{p:AV},(DB p l).length<=l.length+1
 |[],_=>Ak _|b::r,p=>by
  unfold DB;split;.show QG T8
  split;.simp
  .show Ah T8 (by simp)
theorem Mm:∀{l:List AV}{p q:AV},q.1<p.2.1->p.1<q.2.1->(∀b∈l,b.1<b.2.1)->DB q (DB p l)=DB (Dy p q) l
  |[],p,q,V,D,_=>by simp[DB,by show TF V,by show TF D]|b::r,p,q,V,D,B=>by
    have Z:=B b D4;have A:=λb Z=>B b (GH _ Z);by_cases J:b.2.1<=p.1
    . by_cases U:b.2.1<=q.1
      . have:b.2.1<=(Dy p q).1:=by show ABJ.mpr ⟨J,U⟩
        simp[DB,J,U,this,Mm V D A]
      . have W:¬b.2.1<=(Dy p q).1:=by unfold Dy;grind
        have Y:¬(Dy p q).2.1<=b.1:=by unfold Dy;grind
        simp only[DB,J,U,AE2,AE0,by show TF (Qp (JU Z J) D),W,Y];rw[Mm (by show JT (gB _ _) V) (by show JU D (f7 _ _)) A,Q8 b (Dy p q),Q7,Q8 q b]
    . by_cases U:p.2.1<=b.1;.simp[DB,J,U,by show TF V,by show TF D]
      . have W:¬b.2.1<=(Dy p q).1:=by unfold Dy;omega
        have Y:¬(Dy p q).2.1<=b.1:=by unfold Dy;grind
        simp only[DB,J,U,AE0,W,Y];rw[Mm (by show JU V (f7 _ _)) (by show JT (gB _ _) D) A,Q7]
theorem jH:∀{l:List AV},p.1<p.2.1->(∀b∈l,b.1<b.2.1)->(∀b∈l,p.2.1<=b.1)->DB p l=p::l|[],_,_,_=>rfl|b::r,h,D,J=>by have:=D b D4;have:=J b D4;simp[DB,show¬b.2.1<=p.1 by lia,by(first|lia|omega)]
theorem RC:∀{l:List AV}{p q:AV},p.1<p.2.1->q.1<q.2.1->p.2.1<=q.1->JY l->DB q (DB p l)=DB p (DB q l)
  |[],p,q,Z,U,h,_=>by simp[DB,h,show¬q.2.1<=p.1 by lia]|b::r,p,q,Z,U,h,Y=>by
    obtain⟨B,u2⟩:=JP.mp Y.2;have A:=Y.1 b D4;have W:JY r:=⟨λb A=>Y.1 b (ID A),u2⟩;by_cases J:b.2.1<=p.1;.simp[DB,J,by show HY (HY J (K6 Z)) h,RC Z U h W]
    . by_cases D:p.2.1<=b.1
      . have e:=jH Z (RD U Y).1 (RE h (by grind));rw[e];simp[DB,J,D,h]
      . by_cases V:b.2.1<=q.1
        . simp only[DB,J,D,V,AE2,AE0];show RC (by unfold Dy;grind) U (by show Int.max_le.mpr ⟨V,h⟩) W
        . simp only[DB,J,D,V,AE0,by show OX D (λB=>HY (HY h (K6 U)) B)];rw[Mm (by show JU (TC V) (ABI _ _)) (by unfold Dy;omega) W.1,Mm (by unfold Dy;grind) (by show lt_of_eq_of_lt (ABO (HY (K6 (TC D)) h)) (TC D)) W.1,Q7,Q7,Q8 p q]
theorem jI(J:p.1<p.2.1)(U:q.1<q.2.1)(D:JY l):DB q (DB p l)=DB p (DB q l):=by
 by_cases V:p.2.1<=q.1;.show RC J U V D
 by_cases W:q.2.1<=p.1;.show(RC U J W D).symm
 rw[Mm (by simp_all) (by simp_all) D.1,Mm (by simp_all) (by simp_all) D.1,Q8]
def EO(p x:AV):Bool:=Aa (x.1<p.2.1)&&Aa (p.1<x.2.1)
theorem T7:∀{l:List AV}{p:AV},p.1<p.2.1->JY l->Cj (((l.filter (EO p)).map (·.1)).foldl D5 p.1) (((l.filter (EO p)).map (·.2.1)).foldl Lc p.2.1) ((l.filter (EO p)).foldl (λt x=>G9 t x.2.2) p.2.2) (l.filter λx=>!EO p x)=DB p l
  |[],p,_,_=>rfl|b::r,p,H,V=>by
    obtain⟨W,u2⟩:=JP.mp V.2;have A:=V.1 b D4;have U:JY r:=⟨λb A=>V.1 b (by grind),u2⟩;by_cases J:b.2.1<=p.1
    . have o:EO p b=AR:=by unfold EO;simp_all
      have K:∀{m:List Int}{a:Int},b.2.1<=a->(∀x∈m,b.2.1<=x)->b.2.1<=m.foldl D5 a:=λ{m}=>by induction m with|nil=>simp|cons x m D=>showλG Z=>D (by have:=Z x D4;show ABJ.mpr ⟨G,this⟩) (λW u2=>Z _ (ID u2))
      have I:b.2.1<=((r.filter (EO p)).map (·.1)).foldl D5 p.1:=(by grind);simp only[Gp,o,ABA,AE2,Lk,AE0,DB,J];rw[<-T7 H U];show AEv (JU A I)
    . by_cases Y:p.2.1<=b.1
      . have C:∀x∈b::r,EO p x=AR:=λx B=>by unfold EO;grind
        rw[IB.mpr (λW u2=>Bool.eq_false_iff.mp (C _ u2)),NI.mpr (by simpa using C)];simp only[DB,J,Y,AE2,AE0];show iL (by grind)
      . have o:EO p b=AJ:=by unfold EO;simp_all
        have same:∀x∈r,EO p x=EO (Dy b p) x:=λx B=>by have:=U.1 x B;unfold EO Dy;grind
        have D:=T7 (p:=Dy b p) (by unfold Dy;grind) U;have E:=IA same;have F:=IA (λW u2=>Bool.not_inj_iff.mpr (same _ u2));rw[<-E,<-F,show(Dy b p).1=D5 p.1 b.1 from Int.min_comm _ _,show(Dy b p).2.1=Lc p.2.1 b.2.1 from Int.max_comm _ _,show(Dy b p).2.2=G9 p.2.2 b.2.2 from O1 _ _]at D;simp only[Gp,o,ABB,AE2,Lk,AE0,DB,J,Y,FL,cE];show D
theorem Tf:∀{l:List AV},JY l->FR l|[],_=>.nil|b::r,h=>by obtain⟨J,u2⟩:=JP.mp h.2;show JP.mpr ⟨λx D=>by have:=J x D;have:=h.1 b D4;lia,Tf ⟨λb U=>h.1 b (by grind),u2⟩⟩
def Ka(t z d:Int):List Int:=(Ec (F5 (((t-z)/d+1)*d) (t+1) d)).map λk:Nat=>((t-z)/d+1)*d+(k:Int)*d
structure TY(t z d:Int):Prop where
 d1:1<=d
 d2:d<=200000
 z1:d<=z
 z2:z<=4*d
 t1:0<=t
 t2:t<=1000000000
theorem Tq{t z d:Int}(h:1<=d):t-z<((t-z)/d+1)*d/\((t-z)/d+1)*d<=t-z+d:=by have D:=Int.mul_ediv_add_emod (t-z) d;have J:=HW (t-z) (by show K7 h);have U:=JS (t-z) (by assumption);(constructor<;>lia)
theorem Uc(h:TY t z d):(Ka t z d).length<=5/\F5 (((t-z)/d+1)*d) (t+1) d<=5:=by
 obtain⟨D,J,U,V,W,Y⟩:_:=h;have f:=(Tq (t:=t) (z:=z) D).1;have:F5 (((t-z)/d+1)*d) (t+1) d<=5:=by
  unfold F5;split
  . have:(t+1-((t-z)/d+1)*d-1)/d<=4:=Int.ediv_le_of_le_mul (by assumption) (by lia);show TH.mpr (Int.add_le_iff_le_sub.mpr this)
  .simp
 show⟨by unfold Ka;simp_all,this⟩
def YS(t a z d:Int)(l:List AV):List AV:=(Ka t z d).foldl (λl s=>Cj s (s+z) (Kc a) l) l
theorem Tt:∀{ss:List Int}{l:List AV},FR l->FR (ss.foldl (λl s=>Cj s (s+z) x l) l)/\(ss.foldl (λl s=>Cj s (s+z) x l) l).length<=l.length+ss.length|[],l,h=>(by simp_all)|s::ss,l,h=>by obtain⟨i1,i2⟩:=Tt (ss:=ss) (z:=z) (x:=x) (Tv (s:=s) (e:=s+z) (t:=x) h);have:=Xa (s:=s) (e:=s+z) (t:=x) (l:=l);grind
theorem Yu{f:J->D->J}{l:List D}(h:l[i]?=AA x):(l.take (i+1)).foldl f b=f ((l.take i).foldl f b) x:=by rw[Dt,h,yM];rfl
def UG(w:Int)(l:List AV):List AV:=l.filter (L4 w)
def YG(w:Int)(l:List AV):List AV:=l.filter λp=>!L4 w p
def AU.gm:AU->Prop|.gap _ _ _ m=>0<=m|.each _ _ _ z d=>1<=d/\d<=200000/\d<=z/\z<=4*d|_=>False
def AU.js(s:AU)(t a:Int)(l:List AV):List AV:=match s with|.each _ _ _ z d=>YS t a z d l|.gap _ _ _ m=>DB (t,t+m+1,Kc a) l|_=>l
def AU.gd(s:AU)(l:List AV):Prop:=match s with|.each _ _ _ z _=>FR l/\∀b∈l,b.2.1=b.1+z|.gap ..=>JY l|_=>FR l
def Jg(z:Int)(x:EI)(l:List AV)(s:Int):List AV:=Cj s (s+z) x l
def Qx(z:Int)(l:List AV):Prop:=FR l/\∀b∈l,b.2.1=b.1+z
theorem iK(h:Qx z l):Qx z (Jg z x l s):=by
 show⟨Tv h.1,?_⟩;have:∀{l:List _},(∀b∈l,b.2.1=b.1+z)->∀b∈Cj s (s+z) x l,b.2.1=b.1+z:=λ{l}=>by induction l with |nil=>intro _ b D;rw[By.mp D]|cons c l J=> intro h b D;unfold Cj at D;grind
 show this h.2
theorem XQ:∀{ss:List Int}{l:List AV},Qx z l->Qx z (ss.foldl (Jg z x) l)|[],_,h=>h|s::ss,l,h=>XQ (ss:=ss) (iK h)
theorem XR:∀{ss:List Int}{l:List AV},Jg z y (ss.foldl (Jg z x) l) s=ss.foldl (Jg z x) (Jg z y l s)|[],_=>rfl|r::ss,l=>by change Jg z y (ss.foldl _ _) s=_;rw[XR];change _=ss.foldl _ _;congr 1;show Xd (by simp)
theorem XS{ss:List Int}:∀{D:List Int}{l:List AV},D.foldl (Jg z y) (ss.foldl (Jg z x) l)=ss.foldl (Jg z x) (D.foldl (Jg z y) l)|[],_=>rfl|r::D,l=>by change D.foldl _ _=_;rw[XR,XS];rfl
theorem AU.xi{s:AU}(D:s.gm)(h:s.gd l):s.gd (s.js t a l):=by cases s with|each _ _ _ z d=>show XQ h|gap _ _ _ m=>show RD (by show Wj (Qo D) (by decide)) h|_=>cases D
theorem AU.vi{s:AU}(D:s.gm)(h:s.gd l):s.js t' J (s.js t a l)=s.js t a (s.js t' J l):=by cases s with|each _ _ _ z d=>show XS|gap _ _ _ m=>show jI (by show Wj (Qo D) (by decide)) (by show Wj (Qo D) (by decide)) h|_=>cases D
theorem AU.aah{s:AU}{m:List AV}(h:s.gd l)(D:m.Sublist l):s.gd m:=by cases s with|each _ _ _ z d=>show⟨h.1.sublist D,λb J=>h.2 b (D.mem J)⟩|gap _ _ _ m=>show⟨λb J=>h.1 b (D.mem J),h.2.sublist D⟩|_=>show h.sublist D
theorem AU.up{s:AU}(h:s.gd l):FR l:=by cases s with|each _ _ _ z d=>show h.1|gap _ _ _ m=>show Tf h|_=>show h
theorem AU.abi{s:AU}:s.gd []:=by cases s with|each _ _ _ z d=>show⟨.nil,(by simp)⟩|gap _ _ _ m=>show⟨(by simp),.nil⟩|_=>show .nil
theorem AU.de{s:AU}(D:s.gm)(J:0<=t/\t<=1000000000)(V:s.gd l):(s.js t a l).length<=l.length+5:=by cases s with|each _ _ _ z d=>have U:=(Tt (z:=z) (x:=Kc a) (ss:=Ka t z d) V.1).2;have W:=(Uc ⟨D.1,D.2.1,D.2.2.1,D.2.2.2,J.1,J.2⟩).1;show Ah U (by simp_all)|gap _ _ _ m=>show Ah T8 (by simp)|_=>cases D
theorem iG{s:AU}{ps:List Oz}(D:s.gm):∀{l:List AV},s.gd l->s.gd (ps.foldl (λl x=>s.js x.1 x.2 l) l):=by induction ps with|nil=>simp|cons p ps J=>showλh=>J (s.xi D h)
theorem iH{s:AU}{ps:List Oz}(D:s.gm)(h:ps.Perm J):∀{l:List AV},s.gd l->ps.foldl (λl x=>s.js x.1 x.2 l) l=J.foldl (λl x=>s.js x.1 x.2 l) l:=by induction h with|nil=>simp|cons x _ U=>showλh=>U (s.xi D h)|swap x y l=>showλh=>by change l.foldl _ _=l.foldl _ (s.js _ _ _);rw[s.vi D h]|trans _ _ V W=>simp_all
def Fc(H:AI)(q:AE)(t:EI):Prop:=H q=AA (.tup [.int t.1,.int t.2.1,.int t.2.2.1,.int t.2.2.2])
def Mf(H:AI)(x:AD)(p:AV):Prop:=∃a q,x=.ref a/\H a=AA (.tup [.int p.1,.int p.2.1,.ref q])/\Fc H q p.2.2
def D2(H:AI)(xs:List AD)(ps:List AV):Prop:=Az (Mf H) xs ps
theorem D2.ab(h:D2 H xs ps)(t:Bc H H'):D2 H' xs ps:=Ej (λ_ _ U=>by obtain⟨a,q,e,D,J⟩:=U;show⟨a,q,e,t _ _ D,t _ _ J⟩) h
theorem D2.de(h:D2 H xs ps):xs.length=ps.length:=(CN h).1
theorem D2.at(h:D2 H xs ps){i:Nat}(e:ps[i]?=AA p):∃a q,xs[i]?=AA (.ref a)/\H a=AA (.tup [.int p.1,.int p.2.1,.ref q])/\Fc H q p.2.2:=by lk;obtain⟨l,W⟩:=CN h;have D:=CG (by rw[l];show(BU.mp e).1);obtain⟨a,q,J,U⟩:=W _ _ _ D e;k_in;rw[J]at D;show⟨a,q,D,U⟩
theorem D2.ix(h:D2 H xs ps){i:Nat}(e:xs[i]?=AA x):∃p a q,ps[i]?=AA p/\x=.ref a/\H a=AA (.tup [.int p.1,.int p.2.1,.ref q])/\Fc H q p.2.2:=by lk;obtain⟨l,W⟩:=CN h;have D:=CG (by rw[<-l];show(BU.mp e).1);obtain⟨a,q,J,U⟩:=W _ _ _ e D;k_in;show⟨_,a,q,D,J,U⟩
theorem jB(a b:Int):(if b>a then b else a)=Lc a b:=by lia
theorem i6(h:c<a):Bf [.inl a,.inl b] [.inl c,.inl d]=AR:=by change(if(C5 a)=C5 c then _ else Aa _)=_;rw[AEu λe=>by simp_all];show AEz (TB h)
theorem PJ{F:U->W->Prop}{f:V->W}(h:Az (λa b=>F a (f b)) D J):Az F D (J.map f):=by induction h with|nil=>show .nil|cons r _ Y=>show .cons r Y
def Mp(p:AV):List AK:=[.inl p.1,.inl p.2.1]
theorem D2.hd(h:D2 H xs ps):Az (TV 1 H) xs (ps.map Mp):=PJ (Ej (λ_ _ J=>by obtain⟨a,q,e,D,_⟩:=J;show⟨a,_,e,D,.inr (CB rfl)⟩) h)
theorem FR.sd(h:FR ps):Cs (ps.map Mp):=Eb.mpr (h.imp λq=>i6 q)
theorem Xe:∀{ps:List AV}{n:Nat}{p:AV},(∀(i:Nat)p,i<n->ps[i]?=AA p->p.1<S)->ps[n]?=AA p->p.1=S->Cj S E t ps=ps.take n++[(S,p.2.1,G9 p.2.2 t)]++ps.drop (n+1)|[],n,p,_,e,_=>by cases e|b::r,0,p,_,e,q=>by cases e;unfold Cj;rw[AEu (ABS.mpr (Int.le_of_eq q.symm)),AEv q];rfl|b::r,n+1,p,h,e,q=>by unfold Cj;rw[AEv (h 0 b (dA _) rfl),Xe (λi p J D=>h _ p (AB9 J) D) e q];rfl
theorem Xc:∀{ps:List AV}{n:Nat},(∀(i:Nat)p,i<n->ps[i]?=AA p->p.1<S)->n<=ps.length->(∀p,ps[n]?=AA p->S<p.1)->Cj S E t ps=ps.take n++[(S,E,t)]++ps.drop n
 |[],n,_,h,_=>by cases n with |zero=>rfl|succ n=>show absurd h (zA _)
 |b::r,0,_,_,q=>by have:=q b rfl;unfold Cj;rw[AEu (TB this),AEu (K7 this)];rfl|b::r,n+1,h,U,q=>by unfold Cj;rw[AEv (h 0 b (dA _) rfl),Xc (λi p J D=>h _ p (AB9 J) D) (cU U) q];rfl
def pC:BO:=λJ H Q _=>∃a:Int,J=[.int a]/\∀r D,An H D->H r=AG->Fc D r (Kc a)->Q (.ref r) D
def m8:BO:=λJ H Q _=>(KD λ(p q:AE)(x y:EI)=>IL (J=[.ref p,.ref q]) (Fc H p x) (Fc H q y) (∀r D,An H D->H r=AG->Fc D r (G9 x y)->Q (.ref r) D))
def n8:BO:=λD H Q _=>∃a b c m:Int,D=[.int a,.int b,.int c,.int m]/\Q (.bl (Aa (a-c<=m)&&Aa (c-(b-m-1)<=m))) H
def oX:BO:=λJ H Q _=>∃t z d:Int,J=[.int t,.int z,.int d]/\TY t z d/\∀l D,An H D->H l=AG->D l=AA (.lst ((Ka t z d).map AD.int))->Q (.ref l) D
theorem YA(T:BQ AH Ag AM):T.rg.Ok BM P w Ag base 1 pC:=by show T.rg.ok λU _ _ _ _ _ J H V Q E h=>?_;obtain⟨a,rfl,k⟩:_:=h;show⟨_,(Ac (BI (CP #v[AN,AB 0,AB 0,AB 0]))),?_⟩;show⟨CB rfl,λr D=>k r _ (CL D) D Af⟩
theorem Xz(T:BQ AH Ag AM):T.xx.Ok BM P w Ag base 1 m8:=by show T.xx.ok λW _ _ _ _ _ V H Y Q E h=>?_;obtain⟨p,q,x,y,rfl,J,U,k⟩:_:=h;show⟨_,(Ac (BI (CP #v[AY Dp (Av AH (AB 0) AN) (Av AH (AB 1) AN),AY Dp (Av AH (AB 0) AN) (Av AH (AB 1) AN),(DE (ZL rfl) (by rfl) T.zo zL #v[Av AH (AB 0) AN,Av AH (AB 1) AN]),(DE (Rt rfl) (by rfl) T.wy WM #v[Av AH (AB 0) AN,Av AH (AB 1) AN])]))),?_⟩;have i1:Cm AH H p _:=Ao J;have i2:Cm AH H q _:=Ao U;show⟨_,_,i1,Aj rfl,_,_,i2,Aj rfl,_,_,i1,Aj rfl,_,_,i2,Aj rfl,_,_,i1,Aj rfl,_,_,i2,Aj rfl,_,_,i1,Aj rfl,_,_,i2,Aj rfl,?_⟩;show⟨CB rfl,λr D=>k r _ (CL D) D (by rw[jF,jB];show Af)⟩
theorem X3(T:BQ AH Ag AM):T.yb.Ok BM P w Ag base 1 n8:=by
 show T.yb.ok λD _ _ _ _ _ J H U Q E h=>?_;obtain⟨a,b,c,m,rfl,k⟩:_:=h;show⟨_,(Aq (BC 4 D (AY FV (AY FV (AB 1) (AB 3)) AN)) (Ac (BI (SF (HM Pt (AY FV (AB 0) (AB 2)) (AB 3) (BW _)) (VY (HM Pt (AY FV (AB 2) (AB 4)) (AB 3) (BW _))))))),?_⟩;show⟨_,rfl,MM (λe=>?_) λe=>?_⟩
 . rw[e]at k;show k
 . rw[e]at k;show k
theorem lK(T:BQ AH Ag AM):T.vz.Ok BM P w Ag base 1 oX:=by
 show T.vz.ok λA _ _ _ _ _ I H L Q E h=>?_;obtain⟨t,z,d,rfl,V,k⟩:_:=h;show⟨_,(Aq (BC 3 A (AY GG (AY Dp (AY C1 (AY FV (AB 0) (AB 1)) (AB 2)) AN) (AB 2))) (Ac (BI (vE rfl (by rfl) T.jc (by rfl) T.je #v[AB 3,AY Dp (AB 0) AN,AB 2])))),?_⟩;lk;obtain⟨U,J,F,G,W,Y⟩:=id V;obtain⟨B,C⟩:=Tq (t:=t) (z:=z) U;k_in;have Z:=(Uc V).2;show⟨⟨by assumption,JT J (by decide)⟩,.inr ⟨JU (by decide) U,JT J (by decide)⟩,?_⟩;show⟨_,_,_,rfl,⟨by assumption,HY J (by decide),?_,?_,Int.le_add_of_neg_add_le_right (HY (by decide) W),Int.add_lt_iff.mpr (JT Y (by decide)),?_⟩,λl D=>k l _ (CL D) D Af⟩;.lia
 .omega
 .show Ah Z (by decide)
def oS:BO:=λY H Q _=>(KH λ(l q:AE)(W:List AD)(U:List AV)(S E:Int)(t:EI)=>HZ (Y=[.ref l,.int S,.int E,.ref q]) (H l=AA (.lst W)) (D2 H W U) (FR U) (U.length<=10000) (Fc H q t) (∀r J D,An H J->H r=AG->J r=AA (.lst D)->D2 J D (Cj S E t U)->Q (.ref r) J))
theorem X6(T:BQ AH Ag AM):T.oe.Ok BM P w Ag base 2 oS:=by
  show T.oe.ok λnd _ _ _ _ _ hr H vs Q E h=>?_;obtain⟨l,q,J,F,S,E0,t,rfl,el,hw,up,hl,tq,k⟩:_:=h;show⟨_,(Aq (BC 4 nd (BG (PF T) hr #v[AB 0,CP #v[AB 1]])) (Aq (Jt (Bx (Kh (Vb (Bl VR (AB 4) (DE (HJ (K:=AH)) (by rfl) T.fm HR #v[AB 0]) (BW _)) (Vc (Bl DD (Av AH (CZ AH (AB 0) (AB 4)) AN) (AB 1) (BW _))))) (Aq (BC 5 nd (CZ AH (AB 0) (AB 4))) (Ac (BI (AY JG (AY JG (HN (La (K:=AH)) (AB 0) Ia (Gm (AB 4))) (CW #v[CP #v[AB 1,Av AH (AB 5) AN,BG (Xz T) hr #v[Av AH (AB 5) AN,AB 3]]])) (HN (La (K:=AH)) (AB 0) (Gm (AY Dp (AB 4) AN)) Ia))))) CH)) (Ac (BI (AY JG (AY JG (HN (La (K:=AH)) (AB 0) Ia (Gm (AB 4))) (CW #v[CP #v[AB 1,AB 2,AB 3]])) (HN (La (K:=AH)) (AB 0) (Gm (AB 4)) Ia)))))),?_⟩;have sz:Ay=16777216:=DW;have lx:=hw.de;show⟨CB rfl,λmk hmk=>?_⟩;show BA (o:=.tup [.int S]) hmk λH1 s1 emk=>?_;have D:=s1 _ _ el;have A:=hw.ab s1.tp;have x:Fc H1 q t:=s1 _ _ tq;show⟨l,mk,J,F.map Mp,[.inl S],rfl,D,A.hd,emk,λks hk i k m e1 e2=>?_,up.sd,λn hn b1 b2=>?_⟩
  . obtain⟨p,_,rfl⟩:_:=BE.mp hk;match i,e1,e2 with|0,e1,e2=>cases e1;cases e2;rfl
  rw[As]at hn;have d1:∀(i:Nat)p,i<n->F[i]?=AA p->p.1<S:=λi p hi W=>by have:=b1 i (Mp p) hi (by rw[Bs,W];rfl);rw[show Mp p=[.inl p.1,.inl p.2.1]from rfl,RA]at this;show AEy this
  have d2:∀p,F[n]?=AA p->¬p.1<S:=λp W=>by have:=b2 n (Mp p) (Ak _) (by rw[Bs,W];rfl);rw[show Mp p=[.inl p.1,.inl p.2.1]from rfl,RA]at this;show AE4 this
  clear b1 b2;show Jp (λy H'=>H'=H1/\(∀p,F[n]?=AA p->S<p.1)/\y=(gJ l S E0 q (n:Int) AG)) ?_ ?_
  . show⟨_,.inl (AW D),_,rfl,Kl (λe=>?_) λe=>⟨rfl,λp W=>absurd (BU.mp W).1 (OX e (λu1=>ABU.mpr (Bh u1 (Bw lx.symm)))),rfl⟩⟩;have hnl:n<F.length:=by simp_all
    have W:F[n]?=AA F[n]:=CG hnl;generalize F[n]=p at W;obtain⟨a,qp,ea,G,eqp⟩:_:=A.at W;have c:DL J (n:Int)=AA (.ref a):=Aj ea;show⟨_,_,AW D,c,_,_,Ao G,Aj (j:=0) rfl,rfl,_,rfl,EA (λz=>?_) λz=>⟨rfl,λp' d=>?_,rfl⟩⟩
    . show⟨_,_,AW D,c,?_⟩;show⟨_,rfl,l,J,rfl,AW D,λc1 O=>?_⟩;rw[Tj J n (by simp_all)];show BA O λH2 s2 I=>?_;show⟨_,_,Ao (s2 _ _ G),Aj (j:=1) rfl,_,_,Ao (s2 _ _ G),Aj (j:=2) rfl,qp,q,_,t,rfl,s2 _ _ eqp,s2 _ _ x,λu H3 s3 hu tu=>?_⟩;show⟨CB rfl,λv hv=>?_⟩;show BA hv λH4 s4 ev=>⟨CB rfl,λc2 R=>?_⟩;show BA R λH5 g L=>?_;have Z:=s3.aa (s4.aa g);show⟨c1,c2,_,_,rfl,rfl,Z _ _ I,L,by rw[El];simp;lia,λc3 X=>?_⟩;show BA X λH6 r M=>?_;have U:=s2.aa (Z.aa r);show⟨_,rfl,l,J,rfl,AW (U _ _ D),λc4 b=>?_⟩;have cf:Gz J (AA ((n:Int)+1)) AG=J.drop (n+1):=Q0 J (n+1) (gC.mp e);rw[cf];show BA b λH7 C N=>?_;show⟨c3,c4,_,_,rfl,rfl,C _ _ M,N,by rw[B8,El,NL];simp;lia,λc5 Y=>?_⟩;have s:=CL (o:=.lst (J.take n++[.ref v]++J.drop (n+1))) Y;have V:=U.aa (C.aa s);have B:=g.aa (r.aa (C.aa s));show k c5 _ _ (s1.aa V) ((s1.aa (U.aa C)).ba Y) Af ?_;rw[Xe d1 W z];have f:=A.ab V.tp;show Dh (Dh (Px n f) (.cons ⟨v,u,rfl,B _ _ ev,(s4.aa B) _ _ tu⟩ .nil)) (OH (n+1) f)
    . rw[W]at d;cases d;have:=d2 _ W;have z:¬p.1=S:=z;lia
  intro y H1' hI;obtain⟨rfl,hno,rfl⟩:_:=hI;show⟨_,rfl,l,J,rfl,AW D,λc1 O=>?_⟩;rw[Tj J n (by simp_all)];show BA O λH2 s2 I=>⟨CB rfl,λv hv=>?_⟩;show BA hv λH4 s4 ev=>⟨CB rfl,λc2 R=>?_⟩;show BA R λH5 g L=>?_;have Z:=s4.aa g;show⟨c1,c2,_,_,rfl,rfl,Z _ _ I,L,by rw[El];simp;lia,λc3 X=>?_⟩;show BA X λH6 r M=>?_;have U:=s2.aa (Z.aa r);show⟨_,rfl,l,J,rfl,AW (U _ _ D),λc4 b=>?_⟩;rw[Q0 J n (by simp_all)];show BA b λH7 C N=>?_;show⟨c3,c4,_,_,rfl,rfl,C _ _ M,N,by rw[B8,El,NL];simp;grind,λc5 Y=>?_⟩;have s:=CL (o:=.lst (J.take n++[.ref v]++J.drop n)) Y;have V:=U.aa (C.aa s);have B:=g.aa (r.aa (C.aa s));show k c5 _ _ (s1.aa V) ((s1.aa (U.aa C)).ba Y) Af ?_;rw[Xc d1 hn hno];have f:=A.ab V.tp;show Dh (Dh (Px n f) (.cons ⟨v,q,rfl,B _ _ ev,V _ _ x⟩ .nil)) (OH n f)
def nJ:BO:=λY H Q _=>(KH λ(l:AE)(W:List AD)(U:List AV)(t a z d:Int)=>HZ (Y=[.ref l,.int t,.int a,.int z,.int d]) (TY t z d) (H l=AA (.lst W)) (D2 H W U) (FR U) (U.length<=5000) (∀r J D,An H J->H r=AG->J r=AA (.lst D)->D2 J D (YS t a z d U)->Q (.ref r) J))
theorem j7(T:BQ AH Ag AM):T.qz.Ok BM P w Ag base 3 nJ:=by
 show T.qz.ok λnd _ _ _ _ _ hr H vs Q E h=>?_;obtain⟨l,xs,ps,t,a,z,d,rfl,hW,el,hw,up,hl,k⟩:_:=h;show⟨_,(Aq (BC 5 nd (LX (Rr (K:=AH)) (by rfl) T.jc NR #v[AB 0])) (Aq (C8 DF rfl (Cn (K:=AH) (BG (lK T) hr #v[AB 1,AB 3,AB 4])) (CO 6 nd) (Ac (BC 5 nd (BG (X6 T) hr #v[AB 5,AB 6,AY Dp (AB 6) (AB 3),BG (YA T) hr #v[AB 2]])))) (Ac (BI (AB 5))))),?_⟩;have sz:Ay=16777216:=DW;have sl:=(Uc hW).1;show⟨l,xs,rfl,.inl (AW el),λtl htl=>?_⟩;show BA htl λH1 s1 etl=>?_;show⟨t,z,d,rfl,hW,λst H2 s2 hst est=>?_⟩;show⟨st,rfl,⟨_,AW est⟩,FJ (K:=AH) (xs:=(Ka t z d).map AD.int) (λn σ H'=>(EH λ(o6:Option AD)(tl:AE)(xt:List AD)=>EV (σ=(gH l t a z d tl o6)) (An H2 H') (H tl=AG) (H' tl=AA (.lst xt)) (D2 H' xt (((Ka t z d).take n).foldl (λl s=>Cj s (s+z) (Kc a) l) ps)))) ⟨AG,tl,xs,rfl,C6 _,htl,s2 _ _ etl,hw.ab (s1.aa s2).tp⟩ (λn σ H' _ hh=>by obtain⟨_,_,_,_,s',_⟩:=hh;show AW (s' _ _ est)) ?_ ?_⟩
 . intro n y σ H3 hy hI;lk;obtain⟨o6,tl',xt,rfl,s3,ht',et,hwt⟩:=hI;rw[Bs]at hy;obtain⟨sv,hsv,rfl⟩:=Du.mp hy;have hnl:n<(Ka t z d).length:=(BU.mp hsv).1;obtain⟨up',ln'⟩:=Tt (z:=z) (x:=Kc a) (ss:=(Ka t z d).take n) up;k_in;rw[El]at ln';show⟨a,rfl,λu H4 s4 hu tu=>?_⟩;show⟨tl',u,xt,_,sv,sv+z,Kc a,rfl,s4 _ _ et,hwt.ab s4.tp,up',by lia,tu,λr H5 xr s5 hr5 er hwr=>?_⟩;show⟨_,r,xr,rfl,s3.aa (s4.aa s5),((s1.aa s2).aa (s3.aa s4)).ba hr5,er,by rw[Yu hsv];show hwr⟩
 . intro σ H3 hI;obtain⟨o6,tl',xt,rfl,s3,ht',et,hwt⟩:_:=hI;rw[As,Ed (Ak _)]at hwt;show k _ _ _ ((s1.aa s2).aa s3) ht' et hwt
def oJ:BO:=λA H Q _=>(KD λ(l:AE)(W:List AD)(U:List AV)(J:Int)=>EV (A=[.ref l,.int J]) (H l=AA (.lst W)) (D2 H W U) (U.length<=10000) (∀r b c D Y Z,An H D->H b=AG->H c=AG->D r=AA (.tup [.ref b,.ref c])->D b=AA (.lst Y)->D c=AA (.lst Z)->D2 D Y (YG J U)->D2 D Z (UG J U)->Q (.ref r) D))
theorem k8(T:BQ AH Ag AM):T.vq.Ok BM P w Ag base 1 oJ:=by
  show T.vq.ok λnd _ _ _ _ _ hr H vs Q E h=>?_;obtain⟨l,xs,ps,now,rfl,el,hw,hl,k⟩:_:=h;show⟨_,(Aq (OL (i:=2) (osc:=DC UN) [("now",1)] nd rfl (Fo rfl) rfl (Cn (K:=AH) (AB 0)) rfl rfl (by decide+kernel) (by decide+kernel) (by decide+kernel) ⟨rfl,rfl,trivial⟩ rfl (by decide+kernel) (λ_ _ _ _=>Jv (Bl Pt (Av AH (AB 0) AN) (AB 1) (BW _))) (λ_ _ _ _=>(AB 0))) (Aq (OL (i:=3) (osc:=DC UN) [("now",1)] nd rfl (Fo rfl) rfl (Cn (K:=AH) (AB 0)) rfl rfl (by decide+kernel) (by decide+kernel) (by decide+kernel) ⟨rfl,rfl,trivial⟩ rfl (by decide+kernel) (λ_ _ _ _=>Jv (Bl OG (Av AH (AB 0) AN) (AB 1) (BW _))) (λ_ _ _ _=>(AB 0))) (Ac (BI (CP #v[AB 2,AB 3]))))),?_⟩;have sz:Ay=16777216:=DW;have lx:=hw.de;show⟨l,rfl,⟨_,AW el⟩,?_⟩;show Mx (K:=AH) (xs:=xs) (λn τ acc H'=>(∃o,τ=[o,AA (.int now)])/\H'=H/\D2 H acc ((ps.take n).filter λp=>!L4 now p)) (by lia) ⟨⟨AG,rfl⟩,rfl,.nil⟩ (λn τ acc H'⟨_,e,_⟩=>by rw[e];show AW el) ?_ ?_
  . intro n y τ acc H' R1 R0 hy _ hI k1 k0;lk;obtain⟨⟨o,rfl⟩,rfl,hp⟩:=hI;obtain⟨p,b,q,ep,rfl,eb,eq⟩:=hw.ix hy;k_in;have fs:=LF (p:=λp=>!L4 now p) ep;show⟨_,_,Ao eb,Aj (j:=1) rfl,_,rfl,Kl (λe=>?_) λe=>?_⟩;. rw[AEv (by change(!Aa (now<p.2.1))=AJ;rw[AEz (ABS.mpr e)];rfl)]at fs;show k1 _ _ _ ⟨⟨_,rfl⟩,rfl,by rw[fs];show Dh hp (.cons ⟨b,q,rfl,eb,eq⟩ .nil)⟩
    . rw[AEu (by change¬(!Aa (now<p.2.1))=AJ;rw[AEx (by simp_all)];decide),C2]at fs;show k0 _ _ ⟨⟨_,rfl⟩,rfl,by rw[fs];show hp⟩
  intro τ xm H' lxm hI lm hlm;obtain⟨_,rfl,hpm⟩:_:=hI;rw[Ed (Bw lx.symm)]at hpm;show BA hlm λH1 s1 elm=>?_;have el1:=s1 _ _ el;have hw1:=hw.ab s1.tp;show⟨l,rfl,⟨_,AW el1⟩,?_⟩;show Mx (K:=AH) (xs:=xs) (λn τ acc H'=>(∃o,τ=[o,AA (.int now)])/\H'=H1/\D2 H1 acc ((ps.take n).filter (L4 now))) (by lia) ⟨⟨AG,rfl⟩,rfl,.nil⟩ (λn τ acc H'⟨_,e,_⟩=>by rw[e];show AW el1) ?_ ?_
  . intro n y τ acc H2 R1 R0 hy _ hI k1 k0;lk;obtain⟨⟨o,rfl⟩,rfl,hp⟩:=hI;obtain⟨p,b,q,ep,rfl,eb,eq⟩:=hw1.ix hy;k_in;have fs:(ps.take (n+1)).filter (L4 now)=(ps.take n).filter (L4 now)++(if Aa (now<p.2.1)=AJ then[p]else[]):=LF (p:=L4 now) ep;show⟨_,_,Ao eb,Aj (j:=1) rfl,_,rfl,Kl (λe=>?_) λe=>?_⟩;. rw[AEv (show Aa (now<p.2.1)=AJ from AEx e)]at fs;show k1 _ _ _ ⟨⟨_,rfl⟩,rfl,by rw[fs];show Dh hp (.cons ⟨b,q,rfl,eb,eq⟩ .nil)⟩
    . rw[AEu (by rw[AE1];show e),C2]at fs;show k0 _ _ ⟨⟨_,rfl⟩,rfl,by rw[fs];show hp⟩
  intro τ xr H2 lxr hI lr hlr;obtain⟨_,rfl,hpr⟩:_:=hI;rw[Ed (Bw lx.symm)]at hpr;show BA hlr λH3 s2 elr=>⟨CB rfl,λr hr'=>?_⟩;have s3:=CL (o:=.tup [.ref lm,.ref lr]) hr';show k r lm lr _ xm xr (s1.aa (s2.aa s3)) hlm (s1.ba hlr) Af ((s2.aa s3) _ _ elm) (s3 _ _ elr) (hpm.ab (s1.aa (s2.aa s3)).tp) (hpr.ab (s2.aa s3).tp)
def nQ:BO:=λY H Q _=>(KG λ(l:AE)(W:List AD)(U:List AV)(t a m:Int)=>HZ (Y=[.ref l,.int t,.int a,.int m]) (0<=m) (H l=AA (.lst W)) (D2 H W U) (JY U) (U.length<=5000) (∀r J D,An H J->H r=AG->J r=AA (.lst D)->D2 J D (DB (t,t+m+1,Kc a) U)->Q (.ref r) J))
theorem Ts:∀{ns:List Int}{t:Int},ns.foldl D5 t∈t::ns/\∀a∈t::ns,ns.foldl D5 t<=a
  |[],t=>⟨.head _,λa h=>by rw[By.mp h];show ABL _⟩|n::ns,t=>by
    obtain⟨V,J⟩:=Ts (ns:=ns) (t:=D5 t n);have U:=J _ (.head _);change ns.foldl _ _∈_/\∀a∈_,ns.foldl _ _<=a;constructor
    . rcases Ca.mp V with h|h
      . rw[h];rcases ABM t n with q|q;.rw[ABO q];show .head _
        .rw[Int.min_eq_right q];show .tail _ (.head _)
      .show .tail _ (.tail _ h)
    . intro a D;rcases Ca.mp D with rfl|D;.show HY U (Int.min_le_left _ _)
      rcases Ca.mp D with rfl|D;.show HY U (gB _ _)
      show J a (.tail _ D)
theorem Tr:∀{ns:List Int}{t:Int},ns.foldl Lc t∈t::ns/\∀a∈t::ns,a<=ns.foldl Lc t
  |[],t=>⟨.head _,λa h=>by rw[By.mp h];show ABL _⟩|n::ns,t=>by
    obtain⟨V,J⟩:=Tr (ns:=ns) (t:=Lc t n);have U:=J _ (.head _);change ns.foldl _ _∈_/\∀a∈_,a<=ns.foldl _ _;constructor
    . rcases Ca.mp V with h|h
      . rw[h];rcases ABM t n with q|q;.rw[Int.max_eq_right q];show .tail _ (.head _)
        .rw[Int.max_eq_left q];show .head _
      .show .tail _ (.tail _ h)
    . intro a D;rcases Ca.mp D with rfl|D;.show HY (ABI _ _) U
      rcases Ca.mp D with rfl|D;.show HY (f7 _ _) U
      show J a (.tail _ D)
theorem jG{ns:List Int}(D:S∈t::ns)(J:∀a∈t::ns,S<=a):S=ns.foldl D5 t:=ABH (J _ Ts.1) (Ts.2 _ D)
theorem jC{ns:List Int}(D:S∈t::ns)(J:∀a∈t::ns,a<=S):S=ns.foldl Lc t:=ABH (Tr.2 _ D) (J _ Tr.1)
theorem kF(T:BQ AH Ag AM):T.uo.Ok BM P w Ag base 3 nQ:=by
  show T.uo.ok λnd _ _ _ _ _ hr H vs Q E h=>?_;obtain⟨l,xs,ps,t,a,m,rfl,m0,el,hw,ch,hl,k⟩:_:=h;show⟨_,(Bv (OL (i:=4) (osc:=DC PL) [("time",1),("most",3)] nd rfl (Fo rfl) rfl (Cn (K:=AH) (AB 0)) rfl rfl (by decide+kernel) (by decide+kernel) (by decide+kernel) ⟨rfl,rfl,rfl,rfl,trivial⟩ rfl (by decide+kernel) (λ_ _ _ _=>Jv (G4 (BG (X3 T) hr #v[Av AH (AB 0) AN,Av AH (AB 0) AN,AB 1,AB 2]))) (λ_ _ _ _=>(AB 0))) (Bv (OL (i:=5) (osc:=DC PL) [("time",1),("most",3)] nd rfl (Fo rfl) rfl (Cn (K:=AH) (AB 0)) rfl rfl (by decide+kernel) (by decide+kernel) (by decide+kernel) ⟨rfl,rfl,rfl,rfl,trivial⟩ rfl (by decide+kernel) (λ_ _ _ _=>Jv (JK (G4 (BG (X3 T) hr #v[Av AH (AB 0) AN,Av AH (AB 0) AN,AB 1,AB 2])))) (λ_ _ _ _=>(AB 0))) (Bv (BC 6 nd (DE (rO (K:=AH) rfl) (by rfl) T.zo zL #v[(AY JG (CW #v[AB 1]) (Hx (DC PL) [] trivial (Cn (K:=AH) (AB 4)) (λ_ _ _ _=>Hy) (λ_ _ _ _=>(Av AH (AB 0) AN))))])) (Bv (BC 7 nd (DE (rM (K:=AH) rfl) (by rfl) T.wy WM #v[(AY JG (CW #v[AY Dp (AY Dp (AB 1) (AB 3)) AN]) (Hx (DC PL) [] trivial (Cn (K:=AH) (AB 4)) (λ_ _ _ _=>Hy) (λ_ _ _ _=>(Av AH (AB 0) AN))))])) (Bv (BC 8 nd (BG (YA T) hr #v[AB 2])) (Bv (C8 DF rfl (Cn (K:=AH) (AB 4)) (CO 9 nd) (Ac (BC 8 nd (BG (Xz T) hr #v[AB 8,Av AH (AB 9) AN])))) (Ac (BI (BG (X6 T) hr #v[AB 5,AB 6,AB 7,AB 8]))))))))),?_⟩;have sz:Ay=16777216:=DW;have lx:=hw.de;generalize ePP:((t,t+m+1,Kc a):AV)=PP at k;have hmt:∀p:AV,(Aa (p.1-t<=m)&&Aa (t-(p.2.1-m-1)<=m))=EO PP p:=λp=>by rw[<-ePP];change _=(Aa (p.1<t+m+1)&&Aa (t<p.2.1));rw[show Aa (p.1-t<=m)=Aa (p.1<t+m+1)from decide_eq_decide.mpr (by lia),show Aa (t-(p.2.1-m-1)<=m)=Aa (t<p.2.1)from decide_eq_decide.mpr (by lia)]
  showλ_ _ _ _ z1=>⟨l,rfl,⟨_,AW el⟩,?_⟩;show Mx (K:=AH) (xs:=xs) (λn τ acc H'=>(∃o,τ=[o,AA (.int t),AA (.int m)])/\H'=H/\D2 H acc ((ps.take n).filter (EO PP))) (by lia) ⟨⟨AG,rfl⟩,rfl,.nil⟩ (λn τ acc H'⟨_,e,_⟩=>by rw[e];show AW el) ?_ ?_
  . intro n y τ acc H' R1 R0 hy _ hI k1 k0;lk;obtain⟨⟨o,rfl⟩,rfl,hp⟩:=hI;obtain⟨p,b,q,ep,rfl,eb,eq⟩:=hw.ix hy;k_in;show⟨_,_,Ao eb,Aj (j:=0) rfl,_,_,Ao eb,Aj (j:=1) rfl,_,_,_,_,rfl,?_⟩;rw[hmt];have fs:=LF (p:=EO PP) ep;show⟨_,rfl,MM (λhb=>?_) λhb=>?_⟩
    . rw[hb,AEv rfl]at fs;show k1 _ _ _ ⟨⟨_,rfl⟩,rfl,by rw[fs];show Dh hp (.cons ⟨b,q,rfl,eb,eq⟩ .nil)⟩
    . rw[hb,AEu Dw,C2]at fs;show k0 _ _ ⟨⟨_,rfl⟩,rfl,by rw[fs];show hp⟩
  intro τ xm H' lxm hI lm hlm;obtain⟨_,rfl,hpm⟩:_:=hI;rw[Ed (Bw lx.symm)]at hpm;show BA hlm λH1 s1 elm=>?_;have hpm1:=hpm.ab s1.tp;have el1:=s1 _ _ el;have hw1:=hw.ab s1.tp;show z1 _ _ λ_ _ _ _ z2=>⟨l,rfl,⟨_,AW el1⟩,?_⟩;show Mx (K:=AH) (xs:=xs) (λn τ acc H'=>(∃o,τ=[o,AA (.int t),AA (.int m)])/\H'=H1/\D2 H1 acc ((ps.take n).filter λp=>!EO PP p)) (by lia) ⟨⟨AG,rfl⟩,rfl,.nil⟩ (λn τ acc H'⟨_,e,_⟩=>by rw[e];show AW el1) ?_ ?_
  . intro n y τ acc H2 R1 R0 hy _ hI k1 k0;lk;obtain⟨⟨o,rfl⟩,rfl,hp⟩:=hI;obtain⟨p,b,q,ep,rfl,eb,eq⟩:=hw1.ix hy;k_in;show⟨_,_,Ao eb,Aj (j:=0) rfl,_,_,Ao eb,Aj (j:=1) rfl,_,_,_,_,rfl,?_⟩;rw[hmt];have fs:=LF (p:=λp=>!EO PP p) ep;cases hb:EO PP p with |true=> rw[hb,AEu (by decide),C2]at fs;show⟨_,rfl,k0 _ _ ⟨⟨_,rfl⟩,rfl,by rw[fs];show hp⟩⟩|false=>rw[hb,AEv (by decide)]at fs;show⟨_,rfl,k1 _ _ _ ⟨⟨_,rfl⟩,rfl,by rw[fs];show Dh hp (.cons ⟨b,q,rfl,eb,eq⟩ .nil)⟩⟩
  intro τ xr H2 lxr hI lr hlr;obtain⟨_,rfl,hpr⟩:_:=hI;rw[Ed (Bw lx.symm)]at hpr;show BA hlr λH3 s2 elr=>?_;have hpr2:=hpr.ab s2.tp;have hpm2:=hpm1.ab s2.tp;have elm2:=s2 _ _ elm;have s02:=s1.aa s2;have lmm:(ps.filter (EO PP)).length<=ps.length:=D3 _ _;have lxm2:xm.length<=5000:=by rw[hpm.de];show Ah lmm hl
  show z2 _ _ λ_ _ _ _ z3=>⟨CB rfl,λq1 hq1=>?_⟩;show BA hq1 λH4 s3 eq1=>?_;show⟨lm,rfl,⟨_,AW (s3 _ _ elm2)⟩,?_⟩;show Jo (K:=AH) (xs:=xm) (λn τ acc H'=>(∃o,τ=[o])/\H'=H4/\acc=((ps.filter (EO PP)).take n).map λp=>AD.int p.1) (by lia) ⟨⟨AG,rfl⟩,rfl,rfl⟩ (λn τ acc H'⟨_,e,_⟩=>by rw[e];show AW (s3 _ _ elm2)) ?_ ?_;. intro n y τ acc H5 R1 hy _ hI k1;lk;obtain⟨⟨o,rfl⟩,rfl,rfl⟩:=hI;obtain⟨p,b,q,ep,rfl,eb,eq⟩:=(hpm2.ab s3.tp).ix hy;k_in;show⟨_,_,Ao eb,Aj (j:=0) rfl,k1 _ _ _ ⟨⟨_,rfl⟩,rfl,by rw[Dt,ep,CQ];rfl⟩⟩
  intro τ acc H5 _ hI q2 hq2;obtain⟨_,rfl,rfl⟩:_:=hI;rw[Ed (by rw[hpm.de];show Ak _)];show BA hq2 λH6 s4 eq2=>?_;show⟨q1,q2,_,_,rfl,rfl,s4 _ _ eq1,eq2,by simp;lia,λq3 hq3=>?_⟩;show BA hq3 λH7 s5 eq3=>?_;have eq3:H7 q3=AA (.lst ((t::(ps.filter (EO PP)).map (·.1)).map AD.int)):=by rw[eq3,FL,Cu];rfl
  show⟨q3,_,rfl,AW eq3,by simp,λS hS1 hS2=>?_⟩;have s37:=s3.aa (s4.aa s5);show z3 _ _ λ_ _ _ _ z4=>⟨CB rfl,λq4 hq4=>?_⟩;show BA hq4 λH8 s6 eq4=>?_;have s38:=s37.aa s6;show⟨lm,rfl,⟨_,AW (s38 _ _ elm2)⟩,?_⟩;show Jo (K:=AH) (xs:=xm) (λn τ acc H'=>(∃o,τ=[o])/\H'=H8/\acc=((ps.filter (EO PP)).take n).map λp=>AD.int p.2.1) (by lia) ⟨⟨AG,rfl⟩,rfl,rfl⟩ (λn τ acc H'⟨_,e,_⟩=>by rw[e];show AW (s38 _ _ elm2)) ?_ ?_
  . intro n y τ acc H9 R1 hy _ hI k1;lk;obtain⟨⟨o,rfl⟩,rfl,rfl⟩:=hI;obtain⟨p,b,q,ep,rfl,eb,eq⟩:=(hpm2.ab s38.tp).ix hy;k_in;show⟨_,_,Ao eb,Aj (j:=1) rfl,k1 _ _ _ ⟨⟨_,rfl⟩,rfl,by rw[Dt,ep,CQ];rfl⟩⟩
  intro τ acc H9 _ hI q5 hq5;obtain⟨_,rfl,rfl⟩:_:=hI;rw[Ed (by rw[hpm.de];show Ak _)];show BA hq5 λHA s7 eq5=>?_;show⟨q4,q5,_,_,rfl,rfl,s7 _ _ eq4,eq5,by simp;lia,λq6 hq6=>?_⟩;show BA hq6 λHB s8 eq6=>?_;have eq6:HB q6=AA (.lst (((t+m+1)::(ps.filter (EO PP)).map (·.2.1)).map AD.int)):=by rw[eq6,FL,Cu];rfl
  show⟨q6,_,rfl,AW eq6,by simp,λE1 hE1 hE2=>?_⟩;have s3B:=s38.aa (s7.aa s8);show z4 _ _ λ_ _ _ _ z5=>⟨a,rfl,λu HC s9 hu tu=>z5 _ _ ?_⟩;have s3C:=s3B.aa s9;showλ_ _ _ _ z6=>⟨lm,rfl,⟨_,AW (s3C _ _ elm2)⟩,FJ (K:=AH) (xs:=xm) (λn σ H'=>Ey (λ(o9:Option AD)(tl:AE)=>σ=(gI l t a m lm lr S E1 tl o9)) (λ_ _=>An HC H') (λ_ tl=>Fc H' tl (((ps.filter (EO PP)).take n).foldl (λt x=>G9 t x.2.2) (Kc a)))) ⟨AG,u,rfl,C6 _,tu⟩ (λn σ H' _ hh=>by obtain⟨_,_,_,s',_⟩:=hh;show AW ((s3C.aa s') _ _ elm2)) ?_ ?_⟩
  . intro n y σ HD hy hI;lk;obtain⟨o9,tl,rfl,sD,etl⟩:=hI;obtain⟨p,b,q,ep,rfl,eb,eq⟩:=(hpm2.ab (s3C.aa sD).tp).ix hy;k_in;show⟨_,_,Ao eb,Aj (j:=2) rfl,tl,q,_,_,rfl,etl,eq,λr HE sE hr' tr=>⟨_,r,rfl,sD.aa sE,?_⟩⟩;rw[Yu ep];show tr
  . intro σ HD hI;obtain⟨o9,tl,rfl,sD,etl⟩:_:=hI;rw[hpm.de,Ed (Ak _)]at etl;have s3D:=s3C.aa sD;have eS:=jG hS1 hS2;have eE:=jC hE1 hE2;show z6 _ _ ⟨lr,tl,xr,_,S,E1,_,rfl,s3D _ _ elr,hpr2.ab s3D.tp,(Tf ch).sublist Jz,by have:=D3 (λp=>!EO PP p) ps;lia,etl,λr HE xe sE hre ere hpe=>?_⟩;show k r HE xe (s02.aa (s3D.aa sE)) ((s02.aa s3D).ba hre) ere ?_;have me:=T7 (l:=ps) (p:=PP) (by rw[<-ePP];change t<t+m+1;show Wj (Qo m0) (by decide)) ch;rw[<-me];rw[eS,eE]at hpe;subst ePP;show hpe
def oO:BO:=λY H Q _=>(Ll λ(p l i:AE)(W:List AD)(U:List AV)(s:AU)(t a:Int)(y:AF)=>Qq (Y=[.ref p,.ref l,.ref i]) (DY H p s) (s.gm) (s.gd U) (H l=AA (.lst W)) (D2 H W U) (U.length<=5000) (H i=AA (.tup [.int t,.str y,.int a])) (0<=t) (t<=1000000000) (∀r J D,An H J->H r=AG->J r=AA (.lst D)->D2 J D (s.js t a U)->Q (.ref r) J))
theorem lD(T:BQ AH Ag AM):T.vw.Ok BM P w Ag base 4 oO:=by show T.vw.ok λR _ _ _ _ _ A H S Q E h=>?_;obtain⟨p,l,i,C,B,N,t,a,y,rfl,W,U,Y,V,hw,Z,J,O,t1,k⟩:_:=h;show⟨_,(Aq (Bx (Bl DD (Av AH (AB 0) AN) DV (BW _)) (Ac (BI (BG (j7 T) A #v[AB 1,Av AH (AB 2) AN,Av AH (AB 2) AN,Av AH (AB 0) AN,Av AH (AB 0) AN]))) CH) (Ac (BI (BG (kF T) A #v[AB 1,Av AH (AB 2) AN,Av AH (AB 2) AN,Av AH (AB 0) AN])))),?_⟩;cases N with|each n f M z d=>have D:=W;obtain⟨F,G,I,L⟩:_:=U;show⟨_,_,Ao D,Aj (j:=0) rfl,rfl,_,rfl,Pn (λ_=>?_) λq=>absurd rfl q⟩;show⟨_,_,Ao J,Aj (j:=0) rfl,_,_,Ao J,Aj rfl,_,_,Ao D,Aj rfl,_,_,Ao D,Aj rfl,l,C,B,t,a,z,d,rfl,⟨F,G,I,L,O,t1⟩,V,hw,Y.1,Z,k⟩|gap n f M m=>have D:=W;show⟨_,_,Ao D,Aj rfl,rfl,_,rfl,Pn (λq=>absurd q (by decide+kernel)) λ_=>?_⟩;show⟨_,_,Ao J,Aj (j:=0) rfl,_,_,Ao J,Aj (j:=2) rfl,_,_,Ao D,Aj (j:=4) rfl,l,C,B,t,a,m,rfl,U,V,hw,Y,Z,k⟩|_=>cases U
def IS(D:AF)(t:EI):Int:=if D="count"then t.1 else if D="sum"then t.2.1 else if D="least"then t.2.2.1 else t.2.2.2
def pH:BO:=λJ H Q _=>(EH λ(D:AF)(q:AE)(t:EI)=>IL (J=[.str D,.ref q]) (D∈FQ) (Fc H q t) (Q (.int (IS D t)) H))
theorem lR(T:BQ AH Ag AM):T.yd.Ok BM P w Ag base 1 pH:=by
 show T.yd.ok λY _ _ _ _ _ O H Z Q E h=>?_;obtain⟨J,q,t,rfl,W,A,k⟩:_:=h;show⟨_,(Ac (BI (Av AH (AB 1) (Kr F.plainAttrs_tuple ACp F.type_tuple_index (uF) (VX (v:=.ref _) (by rfl) T.yj rfl) #v[AB 0])))),?_⟩;have N:=T.yp H;have Z:IS "count" t=t.1/\IS "sum" t=t.2.1/\IS "least" t=t.2.2.1/\IS "greatest" t=t.2.2.2:=⟨rfl,rfl,rfl,rfl⟩;lk;obtain⟨R,S,v2,v3⟩:=Z;have Y:FQ.Nodup:=by decide+kernel
 obtain⟨j,I,D⟩:=FN.mp W;k_in;have D:FQ[j]?=AA J:=by rw[<-D];show CG I
 have U:∀m,m<j->FQ[m]?≠AA J:=λm L e=>by obtain⟨F,B⟩:=BU.mp D;obtain⟨G,C⟩:=BU.mp e;show(Gq.mp Y) m j G F L (C.trans B.symm)
 have M:DL [AD.int t.1,.int t.2.1,.int t.2.2.1,.int t.2.2.2] (j)=AA (.int (IS J t)):=by match j,D with |0,e=>cases e;rfl|1,e=>cases e;rfl|2,e=>cases e;rfl|3,e=>cases e;rfl
 show⟨.inr (.inl ⟨rfl,T.ym⟩),_,FQ,J,j,rfl,rfl,N,D,U,_,_,Ao A,M,k⟩
def AU.so:AU->AF|AU.gap _ _ s _|AU.each _ _ s _ _=>s|_=>""
theorem DY.adv(h:DY H p s)(D:s.gm):Cm AH H p (s.vd.map Aw)/\DL (s.vd.map Aw) 1=AA (.str s.nm)/\DL (s.vd.map Aw) 3=AA (.str s.so):=by show⟨Ao h,?_⟩;cases s with|gap n f J m=>show⟨Aj rfl,Aj rfl⟩|each n f J z d=>show⟨Aj rfl,Aj rfl⟩|_=>cases D
def Mr(s:AU)(z:AF)(p:AV):List AK:=[.inr s.nm,.inr z,.inl p.1,.inl p.2.1,.inl (IS s.so p.2.2)]
def lU(z:AF)(p:AV):List AK:=[.inl p.2.1,.inr z,.inl p.1]
def oT:BO:=λU H Q _=>(IM λ(p a:AE)(s:AU)(z:AF)(J:AV)=>JV (U=[.ref p,.str z,.ref a]) (DY H p s) (s.gm) (s.so∈FQ) (Mf H (.ref a) J) (∀r D,An H D->H r=AG->D r=AA (.tup ((Mr s z J).map Aw))->Q (.ref r) D))
theorem lH(T:BQ AH Ag AM):T.vx.Ok BM P w Ag base 2 oT:=by show T.vx.ok λC _ _ _ _ _ D H I Q E h=>?_;lk;obtain⟨p,a,G,z,F,rfl,Y,Z,U,⟨_,q,e,J,W⟩,k⟩:=h;cases e;k_in;show⟨_,(Ac (BI (CP #v[Av AH (AB 0) AN,AB 1,Av AH (AB 2) AN,Av AH (AB 2) AN,BG (lR T) D #v[Av AH (AB 0) AN,Av AH (AB 2) AN]]))),?_⟩;obtain⟨V,A,B⟩:_:=Y.adv Z;show⟨_,_,V,A,_,_,Ao J,Aj (j:=0) rfl,_,_,Ao J,Aj (j:=1) rfl,_,_,V,B,_,_,Ao J,Aj (j:=2) rfl,_,q,_,rfl,U,W,CB rfl,λr D=>k r _ (CL D) D Af⟩
def oG:BO:=λJ H Q _=>(KD λ(a:AE)(s:AU)(z:AF)(D:AV)=>TK (J=[.ref a]) (H a=AA (.tup ((Mr s z D).map Aw))) (∀r,H r=AG->Q (.ref r) (AQ H r (.tup ((lU z D).map Aw)))))
theorem kY(T:BQ AH Ag AM):T.qx.Ok BM P w Ag base 1 oG:=by show T.qx.ok λU _ _ _ _ _ J H Y Q E h=>?_;obtain⟨a,W,z,V,rfl,D,k⟩:_:=h;show⟨_,(Ac (BI (CP #v[Av AH (AB 0) AN,Av AH (AB 0) AN,Av AH (AB 0) AN]))),?_⟩;show⟨_,_,Ao D,Aj rfl,_,_,Ao D,Aj rfl,_,_,Ao D,Aj rfl,CB rfl,k⟩
structure Jd(ex:List AE)(H:AI)(d:AE)(g:AF->List AV)(kvs:List (AK×AD)):Prop where
 ai:H d=AA (.dK kvs)nd:(kvs.map (·.1)).Nodup
 om:∀q∈kvs,∃(key:AF)(r:AE)(xs:List AD),q=(.inr key,.ref r)/\r∉ex/\H r=AA (.lst xs)/\D2 H xs (g key)/\xs≠[]wz:∀key,g key≠[]->(.inr key:AK)∈kvs.map (·.1)
theorem Jd.ab(h:Jd ex H d g kvs)(W:H' d=AA (.dK kvs))(Y:∀b xs,b∉ex->H b=AA (.lst xs)->H' b=AA (.lst xs))(t:Bc H H'):Jd ex H' d g kvs:=⟨W,h.nd,λq U=>by obtain⟨D,r,xs,e,n,J,w⟩:_:=h.om q U;show⟨D,r,xs,e,n,Y _ _ n J,w.1.ab t,w.2⟩,h.wz⟩
theorem Jd.af(h:Jd ex H d g kvs)(s:An H H'):Jd ex H' d g kvs:=h.ab (s _ _ h.ai) (λ_ _ _ e=>s _ _ e) s.tp
theorem Jd.at(h:Jd ex H d g kvs)(key:AF):(BH kvs (.inr key)=AG/\g key=[])\/∃r xs,BH kvs (.inr key)=AA (.ref r)/\r∉ex/\H r=AA (.lst xs)/\D2 H xs (g key):=by cases J:BH kvs _ with
 |none=> show .inl ⟨rfl,?_⟩;cases Y:g _ with |nil=>rfl|cons a b=> obtain⟨v,D⟩:=Lb (h.wz _ (by rw[Y];simp));rw[J]at D;cases D
 |some v=>lk;obtain⟨U,r,xs,e,n,W,w⟩:=h.om _ (FD J);cases e;k_in;show .inr ⟨r,xs,rfl,n,W,w.1⟩
def Cr(g:AF->List AV)(key:AF)(ps:List AV):AF->List AV:=λk=>if k=key then ps else g k
theorem EX:Cr g key ps key=ps:=AEv rfl
theorem ER(h:k≠key):Cr g key ps k=g k:=AEu h
theorem Jd.js(h:Jd ex H d g kvs)(K:r∉ex)(F:H r=AA (.lst xs))(hw:D2 H xs ps)(L:xs≠[]):Jd ex (AQ H d (.dK (BJ kvs (.inr key) (.ref r)))) d (Cr g key ps) (BJ kvs (.inr key) (.ref r)):=by
  have A:∀{b:AE}{E:List AD},H b=AA (.lst E)->(AQ H d (.dK (BJ kvs (.inr key) (.ref r)))) b=AA _:=λ{b E}e=>by rw[AX λz=>by rw[z,h.ai]at e;cases e];show e
  have B:Bc H (AQ H d (.dK (BJ kvs (.inr key) (.ref r)))):=(IU H).du h.ai λxs=>by intro z;cases z
  show⟨Af,NA h.nd,λq I=>?_,λk J=>?_⟩
  . rcases M7 I with rfl|⟨G,W⟩;.show⟨key,r,xs,rfl,K,A F,by rw[EX];show hw.ab B,L⟩
    . obtain⟨D,M,Z,e,n,U,C⟩:_:=h.om q G;subst e;have J:D≠key:=λz=>W (by rw[z]);show⟨_,M,Z,rfl,n,A U,by rw[ER J];show C.1.ab B,C.2⟩
  . by_cases e:k=key
    . subst e;lk;obtain⟨v,Y⟩:∃v,BH (BJ kvs _ _) _=AA v:=⟨_,by rw[Gn,AEv rfl]⟩;k_in;show BE.mpr ⟨_,FD Y,rfl⟩
    . rw[ER e]at J;obtain⟨v,Y⟩:=Lb (h.wz k J);have:BH (BJ kvs (.inr key) (.ref r)) (.inr k)=AA v:=by rw[Gn,AEu (λz=>e (Ft z))];show Y
      show BE.mpr ⟨_,FD this,rfl⟩
theorem iM:∀{l:List AV},Cj s e x l≠[]
 |[]=>λh=>(by cases h)|b::r=>by
  change(if b.1<s then _ else if b.1=s then _ else _)≠[];split;.showλh=>(by cases h)
  .split<;>showλh=>(by cases h)
theorem Xs:∀{l:List AV}{p:AV},DB p l≠[]
  |[],p=>λh=>(by cases h)|b::r,p=>by
    change(if b.2.1<=p.1 then _ else if p.2.1<=b.1 then _ else DB _ r)≠[];split;.showλh=>(by cases h)
    . split;.showλh=>(by cases h)
      .show Xs
theorem XN:∀{ss:List Int}{l:List AV},(ss≠[]\/l≠[])->ss.foldl (λl s=>Cj s (s+z) x l) l≠[]|[],l,h=>h.elim (λh=>absurd rfl h) id|s::ss,l,_=>XN (ss:=ss) (.inr iM)
theorem gG{s:AU}(J:s.gm)(W:0<=t)(Y:t<=1000000000):s.js t a l≠[]:=by cases s with
 |gap n f U m=>show Xs|each n f U z d=>
  show XN (.inl λe=>?_);have e:=AEw JN e;unfold Ka at e;rw[As,JO]at e;obtain⟨D,V,Z,A⟩:_:=J;have f:=(Tq (t:=t) (z:=z) D).2;unfold F5 at e;split at e
  . have:0<=(t+1-((t-z)/d+1)*d-1)/d:=ABF (by omega) (K6 D);have e:((t+1-((t-z)/d+1)*d-1)/d+1).toNat=0:=e;omega
  .omega|_=>show J.elim
section
variable{s:AU}
structure EC(ad:CF)(ex:List AE)(H:AI)(x p d:AE)(s:AU)(g:AF->List AV)(kvs:List (AK×AD)):Prop where
 cg:∃dx,H x=AA (.ins ad.au dx [("step",.ref p),("rows",.ref d)])iq:DY H p s
 aj:Jd ex H d g kvs
end
theorem EC.af{st:AU}(h:EC AM ex H x p d st g kvs)(s:An H H'):EC AM ex H' x p d st g kvs:=by obtain⟨⟨D,e⟩,st,r⟩:_:=h;show⟨⟨D,s _ _ e⟩,s _ _ st,r.af s⟩
theorem EC.xn{st:AU}(h:EC AM ex H x p d st g kvs)(s:BV d H H')(r:Jd ex H' d J D):EC AM ex H' x p d st J D:=by
 obtain⟨⟨W,e⟩,st,U⟩:_:=h;have Y:x≠d:=λz=>by rw[z,U.ai]at e;cases e
 have Z:p≠d:=λz=>by have st:H p=_:=st;rw[z,U.ai]at st;cases st
 show⟨⟨W,s _ _ Y e⟩,s _ _ Z st,r⟩
def nO(D:CF):BO:=λU H Q _=>(EH λ(x J p:AE)=>TK (U=[.ref x,.ref p]) (H x=AA (.ins D.au J [])) (∀d,H d=AG->Q .non (AQ (AQ (AQ H x (.ins D.au J [("step",.ref p)])) d (.dK [])) x (.ins D.au J [("step",.ref p),("rows",.ref d)]))))
theorem kG(T:BQ AH Ag AM):T.ik.Ok BM P w Ag base 1 (nO AM):=by
 show T.ik.ok λV _ _ _ _ _ U H W Q E h=>?_;obtain⟨x,J,p,rfl,e,k⟩:_:=h;show⟨_,(Aq (L6 (AB 0) (AB 1) rfl) (Ac (L6 (AB 0) OI rfl))),?_⟩;show⟨x,_,J,[],rfl,e,T.aw,T.iw,by decide,?_⟩;showλd D=>⟨x,_,J,[("step",.ref p)],rfl,?_,T.aw,T.bj,(by change 1<1000;decide),?_⟩;.rw[AX (Bg Af D)];show Af
 . show k d ?_;rw[AX (Bg Af D).symm]at D;show D
def nP(Z:CF):BO:=λA H Q _=>(Ll λ(Y:List AE)(x p d q:AE)(U:AU)(g:AF->List AV)(J:List (AK×AD))(i:AO)=>Qq (A=[.ref x,.ref q]) (EC Z Y H x p d U g J) ((∀c∈Y,∃o,H c=AA o)) (U.gm) (U.gd (g i.2.1)) (0<=i.1) (i.1<=1000000000) (H q=AA (.tup [.int i.1,.str i.2.1,.int i.2.2])) ((g i.2.1).length<=5000) (J.length<=10000) (∀W D,BV d H W->EC Z Y W x p d U (Cr g i.2.1 (U.js i.1 i.2.2 (g i.2.1))) D->D.length<=J.length+1->Q .non W))
theorem kJ(T:BQ AH Ag AM):T.ox.Ok BM P w Ag base 5 (nP AM):=by
 show T.ox.ok λnd _ _ _ _ _ Y H vs Q E h=>?_;obtain⟨v,x,p,d,q,st,g,W,⟨t,D,a⟩,rfl,M,O,m,y,n,t1,l,lg,lk,k⟩:_:=h;show⟨_,(Aq (BC 2 nd (Av AH (AB 1) AN)) (Ac (Ju Y.u1 (Bu (AB 0) rfl) (AB 2) (BG (lD T) Y #v[Bu (AB 0) rfl,VW Y.u1 (Bu (AB 0) rfl) (AB 2) (CW Dq) ⟨rfl,rfl,rfl,rfl⟩,AB 1]) rfl))),?_⟩;have sz:Ay=16777216:=DW;obtain⟨dx,i⟩:=M.cg;show⟨_,_,Ao l,Aj (j:=1) rfl,?_⟩;have S:MD H d:=.inl ⟨W,.inl M.aj.ai⟩;show⟨_,⟨i,T.aw,T.iw,rfl⟩,_,⟨i,T.aw,T.bj,rfl⟩,d,rfl,S,BY _,λf N=>?_⟩;show BA N λc s1 C=>?_;have J:=M.af s1;lk;obtain⟨X,Z,L,G,hw⟩:∃(r:AE)(Z:List AD),(BH W (.inr D)).getD (.ref f)=.ref r/\c r=AA (.lst Z)/\D2 c Z (g D):=by
  rcases J.aj.at D with⟨B,u⟩|⟨r,Z,B,_,G,hw⟩;.show⟨f,[],by rw[B];rfl,C,by rw[u];show .nil⟩
  .show⟨r,Z,by rw[B];rfl,G,hw⟩
 k_in;show⟨_,LN (k:=Bt D) J.aj.ai,?_⟩;rw[L];show⟨p,X,q,Z,g D,st,t,a,D,rfl,J.iq,m,y,G,hw,lg,s1 _ _ l,n,t1,λr H2 xs' s2 Y I A=>?_⟩;have U:=J.af s2;obtain⟨s,F⟩:=U.cg;show⟨_,⟨F,T.aw,T.bj,rfl⟩,d,_,rfl,Ke (k:=Bt D) U.aj.ai (Gs lk (by decide)),?_⟩;have R:r∉v:=λhm=>by obtain⟨o,e⟩:=O r hm;rw[s1 _ _ e]at Y;cases Y
 show k _ _ ((((s1.aa s2).x d)).du) (U.xn zzu (U.aj.js R I A λz=>gG m n t1 (cC (by rw[<-A.de,z];rfl)))) (by have:=R6 W (.inr D) (.ref r);assumption)
theorem Jd.uz(h:Jd ex H d g kvs)(key:AF):Jd ex (AQ H d (.dK (CM kvs (.inr key)))) d (Cr g key []) (CM kvs (.inr key)):=by
 have G:∀{b:AE}{E:List AD},H b=AA (.lst E)->(AQ H d (.dK (CM kvs (.inr key)))) b=AA _:=λ{b E}e=>by rw[AX λz=>by rw[z,h.ai]at e;cases e];show e
 have K:Bc H (AQ H d (.dK (CM kvs (.inr key)))):=(IU H).du h.ai λL=>by intro z;cases z
 have U:∀{q:AK×AD},q∈CM _ _↔q∈kvs/\q.1≠.inr key:=λ{q}=>by unfold CM;rw[DT,AE1]
 show⟨Af,h.nd.sublist (ABc _ Jz),λq Z=>?_,λk D=>?_⟩
 . lk;obtain⟨F,Y⟩:=U.mp Z;obtain⟨J,I,A,e,n,W,C⟩:=h.om q F;k_in;subst e;have D:J≠key:=λz=>Y (by rw[z]);show⟨_,I,A,rfl,n,G W,by rw[ER D];show C.1.ab K,C.2⟩
 . have e:k≠key:=λz=>D (by rw[z];show EX);rw[ER e]at D;obtain⟨q,Z,B⟩:_:=BE.mp (h.wz k D);show BE.mpr ⟨q,U.mpr ⟨Z,by rw[B];showλz=>e (Ft z)⟩,B⟩
theorem YT:Cr (Cr g key a) key b=Cr g key b:=by
 funext k;by_cases e:k=key;.rw[e,EX,EX]
 .rw[ER e,ER e,ER e]
def Fd:Option Int->List AV->List AV|AG,J=>J|AA D,J=>YG D J
def DU:Option Int->List AV->List AV|AG,_=>[]|AA D,J=>UG D J
def HH:Option Int->AD|AG=>.non|AA n=>.int n
theorem iT{kvs:List (AK×AD)}:∀k,k≠k0->k∈kvs.map (·.1)->k∈(CM kvs k0).map (·.1):=λk D h=>by obtain⟨q,J,rfl⟩:_:=BE.mp h;show BE.mpr ⟨q,DT.mpr ⟨J,AEx D⟩,rfl⟩
theorem iU{kvs:List (AK×AD)}:∀k,k∈kvs.map (·.1)->k∈(BJ kvs k0 v).map (·.1):=λk h=>by
 lk;obtain⟨u,D⟩:=Lb h;have:∃y,BH (BJ kvs k0 v) k=AA y:=by
  rw[Gn];split;.show⟨_,rfl⟩
  .show⟨_,D⟩
 obtain⟨y,J⟩:=this;k_in;show BE.mpr ⟨_,FD J,rfl⟩
def oZ(A:CF):BO:=λE H Q _=>(Ll λ(Z:List AE)(x p d:AE)(B:AU)(D:AF)(g:AF->List AV)(J:List (AK×AD))(W:Option Int)=>HZ (E=[.ref x,.str D,HH W]) (EC A Z H x p d B g J) ((∀c∈Z,∃o,H c=AA o)) ((.inr D:AK)∈J.map (·.1)) ((g D).length<=10000) (J.length<=1000) (∀Y r C U,BV d H Y->EC A Z Y x p d B (Cr g D (DU W (g D))) U->Y r=AA (.lst C)->D2 Y C (Fd W (g D))->U.length<=J.length->(∀k,k≠.inr D->k∈J.map (·.1)->k∈U.map (·.1))->Q (.ref r) Y))
theorem lL(T:BQ AH Ag AM):T.ny.Ok BM P w Ag base 2 (oZ AM):=by
  show T.ny.ok λnd _ _ _ _ _ hr H vs Q E h=>?_;obtain⟨ex,x,p,d,st,key,g,kvs,now,rfl,gr,hex,hg,lg,lk,k⟩:_:=h;show⟨_,(Aq (BC 3 nd (aG (Bu (AB 0) rfl) (AB 1) ⟨rfl,rfl,rfl,rfl⟩)) (Aq (Bx (Bl VP (AB 2) Jr (BW _)) (Ac (BI (AB 3))) CH) (Aq (BC 4 nd (BG (k8 T) hr #v[AB 3,AB 2])) (Aq (Jt (Bx (Bl OG (DE (HJ (K:=AH)) (by rfl) T.fm HR #v[Av AH (AB 4) AN]) AN (BW _)) (Ac (Ju hr.u1 (Bu (AB 0) rfl) (AB 1) (Av AH (AB 4) AN) rfl)) CH)) (Ac (BI (Av AH (AB 4) AN))))))),?_⟩;have sz:Ay=16777216:=DW;obtain⟨dx,eo⟩:=gr.cg;have isd:MD H d:=.inl ⟨kvs,.inl gr.aj.ai⟩;rcases gr.aj.at key with⟨e1,_⟩|⟨r,xs,e1,hrx,er,hw⟩
  . obtain⟨v,hv⟩:=Lb hg;rw[e1]at hv;cases hv
  show⟨_,⟨eo,T.aw,T.bj,rfl⟩,d,rfl,isd,kvs,.inr key,.ref r,gr.aj.ai,rfl,e1,?_⟩;have rd:=gr.aj.uz key;have sx1:BV d H (AQ H d (.dK (CM kvs (.inr key)))):=zzu
  have gr1:=gr.xn sx1 rd;have nrd:r≠d:=λz=>by rw[z,gr.aj.ai]at er;cases er
  have er1:=sx1 _ _ nrd er;have hw1:=hw.ab (sx1.tp gr.aj.ai (by intro xs z;cases z));have ll:(CM kvs (.inr key)).length<=kvs.length:=D3 _ _;generalize AQ H d (.dK (CM kvs (.inr key)))=H1 at sx1 gr1 er1 hw1⊢;have lt1:BH (CM kvs (.inr key)) (.inr key)=AG->(CM kvs (.inr key)).length<kvs.length:=λ_=>by
    have hm:=FD e1;have hne:CM kvs (.inr key)≠kvs:=λz=>by rw[<-z]at hm;unfold CM at hm;have:=(DT.mp hm).2;simp at this
    rcases y8 (CM kvs (.inr key)).length kvs.length with h|h;.show h
    .show absurd (AD1 (Jz) h) hne
  have lt0:BH (CM kvs (.inr key)) (.inr key)=AG:=by cases q:BH (CM kvs (.inr key)) (.inr key)with|none=>rfl|some v=>have:=(DT.mp (FD q)).2;rw[AE1]at this;show absurd rfl this
  have kd1:=iT (kvs:=kvs) (k0:=.inr key);generalize CM kvs (.inr key)=kvs1 at gr1 ll lt1 lt0 kd1;cases now with |none=>show⟨rfl,_,rfl,tK rfl (k H1 r xs kvs1 sx1 gr1 er1 hw1 ll kd1)⟩|some now=>
    show⟨rfl,_,rfl,tL (by intro z;cases z) ⟨r,xs,g key,now,rfl,er1,hw1,by assumption,λq r1 r2 H2 x1 x2 s2 hr1 hr2 eq e1 e2 p1 p2=>?_⟩⟩;have gr2:=gr1.af s2;obtain⟨dx2,eo2⟩:=gr2.cg;have q0:Cm AH H2 q _:=Ao eq;have l2:=p2.de;show Jp (λσ' H'=>∃kvs',σ'=(gQ x key now r q)/\BV d H2 H'/\EC AM ex H' x p d st (Cr g key (DU (AA now) (g key))) kvs'/\kvs'.length<=kvs.length/\(∀k,k≠.inr key->k∈kvs.map (·.1)->k∈kvs'.map (·.1))) ?_ ?_
    . show⟨_,_,q0,Aj (j:=1) rfl,x2,.inl (AW e2),_,rfl,Kl (λh=>?_) λh=>?_⟩
      . show⟨_,_,q0,Aj (j:=1) rfl,_,⟨eo2,T.aw,T.bj,rfl⟩,d,_,rfl,Ke (k:=Bt key) gr2.aj.ai (by lia),?_⟩;have hrx2:r2∉ex:=λhm=>by
          obtain⟨o,e⟩:=hex r2 hm;have nd:r2≠d:=λz=>by rw[z,gr1.aj.ai]at hr2;cases hr2
          rw[sx1 _ _ nd e]at hr2;cases hr2
        have rp:=gr2.aj.js (key:=key) hrx2 e2 p2 λz=>by rw[z]at h;show absurd h (by decide)
        rw[YT]at rp;have sxp:BV d H2 (AQ H2 d (.dK (BJ kvs1 (.inr key) (.ref r2)))):=zzu
        show⟨_,rfl,sxp,gr2.xn sxp rp,?_,λk' h1 h2=>iU _ (kd1 k' h1 h2)⟩;have nk:(BH kvs1 (.inr key))=AG:=by show lt0
        have lk1:kvs1.length<kvs.length:=lt1 nk;have:=R6 kvs1 (.inr key) (.ref r2);lia
      . have e0:DU (AA now) (g key)=[]:=cC (by change(UG now (g key)).length=0;show Ou l2.symm (ABR.mp (NY h)));show⟨kvs1,rfl,λb o _ e=>e,by rw[e0];show gr2,ll,kd1⟩
    . intro σ' H3 hI;obtain⟨kvs',rfl,sx3,gr3,l3,kd3⟩:_:=hI;have nqd:q≠d:=λz=>by rw[z,gr2.aj.ai]at eq;cases eq
      have n1d:r1≠d:=λz=>by rw[z,gr2.aj.ai]at e1;cases e1
      show⟨_,_,Ao (sx3 _ _ nqd eq),Aj (j:=0) rfl,k H3 r1 x1 kvs' (sx1.aa ((s2.x d).aa sx3)) gr3 (sx3 _ _ n1d e1) (p1.ab (sx3.tp gr2.aj.ai (by intro xs z;cases z))) l3 kd3⟩
def CV(g:AF->List AV)(ks:List AF):List (AF×AV):=ks.flatMap λz=>(g z).map λp=>(z,p)
def Nq(st:AU)(D:AF×AV):List AK:=Mr st D.1 D.2
def YD:List AK->List AK|[_,k,s,e,_]=>[e,k,s]|_=>[]
theorem EC.gv{st:AU}(h:EC AM ex H x p d st g kvs)(W:H l=AG):EC AM (l::ex) H x p d st g kvs:=⟨h.cg,h.iq,h.aj.ai,h.aj.nd,λq Y=>by
 obtain⟨U,r,Z,e,n,D,w⟩:_:=h.aj.om q Y;show⟨U,r,Z,e,λJ=>?_,D,w⟩;rcases Ca.mp J with rfl|J;.rw[W]at D;cases D
 .show n J,h.aj.wz⟩
theorem EC.iz{st:AU}(h:EC AM (l::ex) H x p d st g kvs):EC AM ex H x p d st g kvs:=⟨h.cg,h.iq,h.aj.ai,h.aj.nd,λq W=>by obtain⟨D,r,Y,e,n,J,w⟩:_:=h.aj.om q W;show⟨D,r,Y,e,λU=>n (GH _ U),J,w⟩,h.aj.wz⟩
theorem EC.ur{st:AU}(h:EC AM ex H x p d st g kvs)(e:H c=AA (.lst ys))(B:c∈ex):EC AM ex (AQ H c o) x p d st g kvs:=by
 obtain⟨⟨Z,A⟩,st,r⟩:_:=h;have Y:=st;have U:∀{b:AE}{W:Bn},H b=AA W->(∀J,W≠.lst J)->(AQ H c o) b=AA W:=λ{b W}D n=>by rw[AX λz=>by rw[z,e]at D;show n _ (B9 D).symm];show D
 show⟨⟨Z,U A (by intro J z;cases z)⟩,U Y (by intro J z;cases z),r.ab (U r.ai (by intro J z;cases z)) (λb J C D=>?_) λb J D=>U D (by intro J z;cases z)⟩;rw[AX λz=>C (by rw[z];show B)];show D
theorem mQ(h:Cc H ys R){Y:List (AD×List AK)}(p:Y.Perm (ys.zip (R.map f))):∃U,U.Perm R/\Cc H (Y.map (·.1)) U/\U.map f=Y.map (·.2):=by
 have E:=h.de;have F:Az (λ(D)(q)=>(∃a,q.1=.ref a/\H a=AA (.tup (D.map Aw)))/\f D=q.2) R (ys.zip (R.map f)):=by show GY (by rw[ABp,As];show Eq.comm.mp (Nat.min_eq_right (Bw E.symm))) λi D q J W=>?_;obtain⟨Z,A⟩:=MR.mp W;rw[Bs,J]at A;show⟨(CN h).2 i _ _ Z J,B9 A⟩
 lk;obtain⟨U,G,I⟩:=Pw p F;obtain⟨C,B⟩:=CN I;k_in;show⟨U,G,GY (by rw[As,C]) λi v D J W=>?_,?_⟩;. rw[Bs]at J;obtain⟨q,Z,rfl⟩:_:=Du.mp J;show(B i _ q W Z).1
 . show yK λi=>?_;rw[Bs,Bs];cases J:U[i]? with |none=>rw[yN (by rw[<-C];show V0.mp J)];rfl|some D=>have K:=(BU.mp J).1;have W:=CG (show i<Y.length by simp_all);rw[W];show AEw _ (B i _ _ J W).2
theorem qO{ks:List AF}(e:ks[i]?=AA z):CV g (ks.take (i+1))=CV g (ks.take i)++(g z).map λp=>(z,p):=by unfold CV;rw[Dt,e];simp
def nE(E:CF):BO:=λG H Q _=>(Qw λ(C:List AE)(x p d:AE)(A:AU)(g:AF->List AV)(D:List (AK×AD))(Y:Option Int)=>JW (G=[.ref x,HH Y]) (EC E C H x p d A g D) ((∀c∈C,∃o,H c=AA o)) (A.gm) (A.so∈FQ) (D.length<=1000) ((∀k,(g k).length<=10000)) (∀Z r F W J B,BV d H Z->EC E (r::C) Z x p d A (λU=>DU Y (g U)) J->H r=AG->Z r=AA (.lst F)->Cc Z F W->W.Perm ((CV (λU=>Fd Y (g U)) B).map (Nq A))->(W.map YD).Pairwise (λa b=>Bf b a=AR)->B.Nodup->(∀k,g k≠[]->k∈B)->J.length<=D.length->B.length=D.length->Q (.ref r) Z))
theorem jV(T:BQ AH Ag AM):T.mh.Ok BM P w Ag base 4 (nE AM):=by
  show T.mh.ok λnd _ _ _ _ _ I H vs Q E h=>?_;obtain⟨ex,x,p,d,X,g,C,U,rfl,gr,hex,ok,hso,lk,lg,k⟩:_:=h;show⟨_,(Bv (BC 2 nd (CW Dq)) (Bv (C8 DF rfl (Cn (K:=AH) (LX (U3 (K:=AH) rfl) (by rfl) T.jc NR #v[Bu (AB 0) rfl])) (CO 3 nd) (Ac (vO (D1 (Kr (K:=AH) Lf OZ QN M8 (AB 2) #v[(Hx (DC YZ) [("key",3),("self",0)] ⟨rfl,rfl,rfl,rfl,trivial⟩ (Cn (K:=AH) (GV (AB 0) T.aw (lL T) I #v[AB 3,AB 1])) (λ_ _ _ _=>Hy) (λ_ _ _ _=>(BG (lH T) I #v[Pz (K:=AH) (AB 2) rfl,AB 1,AB 0])))]))))) (Ac (BI (l9 (kY T) I T.cy J6 (AB 2)))))),?_⟩;have sz:Ay=16777216:=DW;showλ_ _ _ _ z1=>⟨BY _,λl hl=>z1 _ _ ?_⟩;show BA (o:=.lst []) hl λH1 s1 el=>?_;have gr1:=(gr.gv hl).af s1;obtain⟨dx1,eo1⟩:=gr1.cg;showλ_ _ _ _ z2=>⟨_,⟨eo1,T.aw,T.bj,rfl⟩,d,C,rfl,gr1.aj.ai,λls hls=>?_⟩;lk;obtain⟨W,f⟩:∃W:List AF,(C.map λp=>Aw p.1)=W.map AD.str:=by show⟨C.map λq=>match q.1 with|.inr i=>i|.inl _=>"",?_⟩;rw[Cu];show MS λq hq=>?_;obtain⟨z,r,xs,rfl,_⟩:=gr.aj.om q hq;rfl
  k_in;have ekk:C.map (·.1)=W.map (Bt:AF->AK):=by
    have h1:∀q∈C,∃z,q.1=.inr z:=λq hq=>by obtain⟨z,r,xs,rfl,_⟩:=gr.aj.om q hq;show⟨z,rfl⟩
    have h2:(C.map λp=>Aw p.1).map (λv=>match v with|.str z=>(Bt z:AK)|_=>.inl 0)=C.map (·.1):=by rw[Cu];show MS λq hq=>?_;obtain⟨z,e⟩:=h1 q hq;change(match Aw q.1 with|.str z=>(Bt z:AK)|_=>.inl 0)=q.1;rw[e];rfl
    rw[<-h2,f,Cu];rfl
  have kn:W.Nodup:=by have h:=gr.aj.nd;rw[ekk,ABZ,Eb]at h;show h.imp λh e=>h (by rw[e])
  have km:∀z,g z≠[]->z∈W:=λz ne=>by have h:=gr.aj.wz z ne;rw[ekk]at h;obtain⟨y,hy,e⟩:=BE.mp h;rw[<-Ft e];show hy
  have lke:W.length=C.length:=by have:=AEw JN f;rw[As,As]at this;show this.symm
  have lks:W.length<=1000:=by have:=AEw JN f;rw[As,As]at this;show Ah (Bw lke) lk
  rw[f];show BA (o:=.lst (W.map AD.str)) hls λH2 s2 m=>?_;have nll:ls≠l:=λz=>by rw[z,el]at hls;cases hls
  have gr2:=gr1.af s2;have nld:ls≠d:=λz=>by rw[z,gr2.aj.ai]at m;cases m
  have exs:∀{F:AI},BV d H F->(∀{kv g':_},EC AM (l::ex) F x p d X g' kv->(∃Y,F l=AA (.lst Y))->∀c∈l::ex,∃o,F c=AA o):=λ{F}sx{kv g'}gr' el' c hc=>by
    rcases Ca.mp hc with rfl|hc;. obtain⟨Y,e⟩:=el';show⟨_,e⟩
    . obtain⟨o,eo⟩:=hex c hc;by_cases q:c=d;.rw[q];show⟨_,gr'.aj.ai⟩
      .show⟨_,sx c o q eo⟩
  show⟨ls,rfl,⟨_,AW m⟩,FJ (K:=AH) (xs:=W.map AD.str) (λi σ F=>(EH λ(o3:Option AD)(Y:List AD)(A:List (AK×AD))=>Mc (σ=[AA (.ref x),AA (HH U),AA (.ref l),o3]) (BV d H F) (F ls=AA (.lst (W.map AD.str))) (EC AM (l::ex) F x p d X (λJ=>if J∈W.take i then DU U (g J)else g J) A) (F l=AA (.lst Y)) (Cc F Y ((CV (λJ=>Fd U (g J)) (W.take i)).map (Nq X))) (A.length<=C.length) (Y.length<=10000*i) (∀z,z∉W.take i->z∈W->(.inr z:AK)∈A.map (·.1)))) ⟨AG,[],C,rfl,(s1.aa s2).x d,m,?_,s2 _ _ el,Kt _,Ak _,BY _,λz _ hz=>by rw[ekk];show BE.mpr ⟨z,hz,rfl⟩⟩ (λi σ F _ hh=>by obtain⟨_,_,_,_,_,e,_⟩:=hh;show AW e) ?_ ?_⟩
  . have e:(λJ=>if J∈W.take 0 then DU U (g J)else g J)=g:=by funext J;show AEu (by simp)
    rw[e];show gr2
  . intro i y σ H3 hy hI;lk;obtain⟨o3,Y,A,rfl,R,els3,B,G,L,lk3,la3,kin⟩:=hI;rw[Bs]at hy;obtain⟨z,hz,rfl⟩:=Du.mp hy;have hi:i<W.length:=(BU.mp hz).1;have zn:z∉W.take i:=λhm=>by obtain⟨j,hj,e⟩:=FN.mp hm;rw[El]at hj;rw[NK]at e;obtain⟨h2,g2⟩:=BU.mp hz;show(Gq.mp kn) j i (Bh hj (QF _ _)) h2 (AE3 hj (cZ (B6 hi))) (e.trans g2.symm)
    have gz:(if z∈W.take i then DU U (g z)else g z)=g z:=AEu zn;obtain⟨dx3,eo3⟩:=B.cg;k_in;have lgz:=lg z;showλ_ _ _ _ z3=>⟨.inl ⟨rfl,_,AW G⟩,x,dx3,_,rfl,eo3,by rfl,l::ex,x,p,d,X,z,_,A,U,rfl,B,exs R B ⟨_,G⟩,kin z zn (Cg hz),Ah (Bw (AEw JN gz)) lgz,Ah lk3 lk,λH4 r xs kvs4 sx4 s er4 hw4 l4 kk4=>⟨r,rfl,⟨_,AW er4⟩,?_⟩⟩;simp only[gz]at s hw4;have eg:Cr (λJ=>if J∈W.take i then DU U (g J)else g J) z (DU U (g z))=λJ=>if J∈W.take (i+1)then DU U (g J)else g J:=by
      funext J;have tm:J∈W.take (i+1)↔J∈W.take i\/J=z:=by rw[Dt,hz];simp
      by_cases e:J=z;.rw[e,EX,AEv (by rw[<-e,tm];show .inr e)]
      . rw[ER e];by_cases q:J∈W.take i;.rw[AEv q,AEv (tm.mpr (.inl q))]
        .rw[AEu q,AEu (λh=>(tm.mp h).elim q e)]
    rw[eg]at s;have nl3:l≠d:=λq=>by rw[q,B.aj.ai]at G;cases G
    have el4:=sx4 _ _ nl3 G;have els4:=sx4 _ _ nld els3;have hw34:=L.ab (sx4.tp B.aj.ai (by intro xs z;cases z));have lo:(Fd U (g z)).length<=10000:=by cases U with|none=>show lgz|some n=>show Ah (D3 _ _) lgz
    have lx4:=hw4.de;show Jo (K:=AH) (xs:=xs) (λj τ Z F=>(∃o,τ=[o,AA (.str z),AA (.ref x)])/\An H4 F/\Cc F Z (((Fd U (g z)).take j).map λp=>Nq X (z,p))) (by lia) ⟨⟨AG,rfl⟩,C6 _,Kt _⟩ (λj τ Z F⟨_,s',_⟩=>AW (s' _ _ er4)) ?_ ?_
    . intro j y τ Z H5 R1 hy _ hI k1;lk;obtain⟨⟨o,rfl⟩,S,u⟩:=hI;obtain⟨pc,a,q,ep,rfl,ea,eq⟩:=hw4.ix hy;have gr5:=s.af S;obtain⟨dx5,eo5⟩:=gr5.cg;k_in;show⟨_,⟨eo5,T.aw,T.iw,rfl⟩,p,a,X,z,pc,rfl,gr5.iq,ok,hso,⟨a,q,rfl,S _ _ ea,S _ _ eq⟩,λr' H7 s7 hr' er'=>k1 _ _ _ ⟨⟨_,rfl⟩,S.aa s7,?_⟩⟩;rw[Dt,ep,CQ];show(u.ab s7.tp).xp er'
    . intro τ Z H5 la5 hI D hD;obtain⟨_,S,u⟩:_:=hI;rw[Ed (Bw lx4.symm)]at u;show BA (o:=.lst Z) hD λH6 s6 eD=>?_;have N:=S.aa s6;have el6:=N _ _ el4;show⟨l,D,_,_,rfl,rfl,el6,eD,by lia,?_⟩;have tp6:Bc H6 (AQ H6 l (.lst (Y++Z))):=(IU H6).du el6 λxs=>by intro z;cases z
      show z3 _ _ ⟨_,Y++Z,kvs4,rfl,λb o nb e=>?_,by rw[AX nll];show N _ _ els4,(s.af N).ur el6 (.head _),Af,?_,Ah l4 lk3,by rw[B8];lia,λz' hz' hk'=>?_⟩
      . rw[AX (λq=>by rw[q,hl]at e;cases e)];show N _ _ (sx4 b o nb (R b o nb e))
      . rw[qO hz,CQ,Cu];show Cc.ab (Dh (hw34.ab N.tp) (u.ab s6.tp)) tp6
      . rw[Dt,hz]at hz';show kk4 _ (λq=>hz' (Fj _ (by rw[Ft q];show .head _))) (kin z' (λq=>hz' (Ic _ q)) hk')
  . intro σ H3 hI;obtain⟨o3,Y,A,rfl,R,els3,B,G,L,lk3,la3,kin⟩:_:=hI;rw[As,Ed (Ak _)]at B L;have eg:(λJ=>if J∈W then DU U (g J)else g J)=λJ=>DU U (g J):=by
      funext J;by_cases q:J∈W;.show AEv q
      . rw[AEu q];have:g J=[]:=by cases e:g J with|nil=>rfl|cons a b=>show absurd (km J (by rw[e];simp)) q
        rw[this];cases U<;>rfl
    rw[eg]at B;have O:∀M∈(CV (λJ=>Fd U (g J)) W).map (Nq X),∃kp,M=Nq X kp:=λM I=>by obtain⟨kp,_,rfl⟩:=BE.mp I;show⟨kp,rfl⟩
    show z2 _ _ ⟨l,Y,((CV (λJ=>Fd U (g J)) W).map (Nq X)).map YD,rfl,AW G,⟨by simp[L.de],⟨[AJ,AR,AJ],by simp,λkk hk=>?_⟩,λi y kk H4 hy hk s4=>?_⟩,λr qs H4 s4 I pq sq=>?_⟩
    . lk;obtain⟨M,I,rfl⟩:=BE.mp hk;obtain⟨kp,rfl⟩:=O M I;k_in;rfl
    . lk;obtain⟨a,M,rfl,er,ea⟩:=L.at hy;rw[Bs,er]at hk;have hk:=B9 hk;obtain⟨kp,rfl⟩:=O M (Cg er);k_in;subst hk;show⟨a,X,kp.1,kp.2,rfl,s4 _ _ ea,λr I=>⟨CL I,r,rfl,Ao Af⟩⟩
    . obtain⟨R',p1,w1,e1⟩:_:=mQ L pq;have t:H3 r=AG:=s4.ba I;have nrd:r≠d:=λq=>by rw[q,B.aj.ai]at t;cases t
      have hrH:H r=AG:=by cases q:H r with|none=>rfl|some o=>rw[R r o nrd q]at t;cases t
      have S:=CL (o:=.lst (qs.map (·.1))) I;show k _ r _ R' A W (λb o nb e=>S _ _ (s4 _ _ (R b o nb e))) (((B.iz.af s4).gv I).af S) hrH Af ((w1.ab s4.tp).ab S.tp) p1 (by rw[e1];show sq) kn km lk3 lke
def Mt(ss:List AU)(i:Nat):Bool:=match ss[i]? with|AA s=>s.da|AG=>AR
def Al(ss:List AU):List Nat:=(Ec ss.length).filter (Mt ss)
def pF:BO:=λY H Q _=>(EH λ(U:AE)(W:List AD)(J:List AU)=>EV (Y=[.ref U]) (H U=AA (.lst W)) (EW H W J) (J.length<=100) (∀D r,An H D->H r=AG->D r=AA (.lst ((Al J).map λi:Nat=>AD.int (i:Int)))->Q (.ref r) D))
theorem lP(T:BQ AH Ag AM):T.uq.Ok BM P w Ag base 2 pF:=by
  show T.uq.ok λb _ _ _ _ _ N H g Q E h=>?_;obtain⟨O,S,W,rfl,Z,B,X,k⟩:_:=h;show⟨_,(Ac (BI (vB (osc:=DC Yd) [] rfl (P0 (by rfl) T.fi (AB 0)) rfl rfl (by decide+kernel) (by decide+kernel) (by decide+kernel) trivial rfl rfl (by decide+kernel) (λ_ _ _ _=>Jv (G4 (BG (X2 T) N #v[AB 1]))) (λ_ _ _ _=>(AB 0))))),?_⟩;have f:=DW;have Y:=B.de;show⟨O,rfl,⟨_,AW Z⟩,rT (λi _=>Mt W i) _ (by lia) (λJ s1=>AW (s1 _ _ Z)) (λi x p c d J R _ _ e q=>⟨p,_,rfl,Ao e,rfl,_,_,rfl,_,_,rfl,rfl,q⟩) (λi x J R C s1 q=>?_) (λi x J R C _ s1 q=>q _ (C6 _)) λJ s1 D A=>?_⟩
  . obtain⟨a,F,rfl,L,G⟩:_:=B.at C;have I:Mt W i=F.da:=by unfold Mt;rw[L]
    rw[I]at q;show⟨a,F,rfl,s1 _ _ G,_,rfl,q J (C6 _)⟩
  . show k _ D (s1.du A) (s1.ba A) ?_;rw[Af];congr 2;unfold Al;rw[<-Y];have:∀(n:Nat)(U:List AD),U.length=n->((OS _ U).filter λq=>Mt W q.1).map _=((Ec n).filter (Mt W)).map λi:Nat=>AD.int (i:Int):=λn U e=>by
      have M:(Ec n)=(OS _ U).map ACB:=(List.map_fst_zip (by rw[JO];show Bw e.symm)).symm;conv=>rhs;rw[M]
      rw[NJ,Cu];rfl
    show this _ S rfl
theorem LM{l:List U}(h:(l.take n)[i]?=AA x):i<n/\l[i]?=AA x:=by have D:=(BU.mp h).1;rw[El]at D;have J:=Bh D (J5 _ _);rw[cF J]at h;show⟨J,h⟩
theorem RU{l:List D}(J:i<n)(h:l[i]?=AA x):(l.take n)[i]?=AA x:=by rw[cF J];show h
theorem Mj(h:Bq (ss.take n) i):i<n/\Bq ss i:=by lk;obtain⟨m,a,b,D,e⟩:=h;obtain⟨l,e⟩:=LM e;k_in;show⟨l,m,a,b,D,e⟩
theorem Xf(D:i<n)(h:Bq ss i):Bq (ss.take n) i:=by obtain⟨m,a,b,J,e⟩:_:=h;show⟨m,a,b,J,RU D e⟩
theorem CY.tj(h:CY AM ex H ss Y D U sd)(J:DR ss U b):∃kvs,H b=AA (.dK kvs):=by
 lk;obtain⟨i,⟨n,a,W,C,B⟩,J⟩:=J;obtain⟨⟨E,Z⟩,F,A⟩:=(h.dc i n a W C B).2.tj;k_in;rcases J with rfl|rfl;.show⟨_,Z⟩
 .show⟨_,A⟩
theorem CY.aae{ss:List AU}(h:CY AM ex H (ss.take n) A D C λ_=>([],[]))(O:H A=AA (.dK D))(w:ss[n]?=AA (.join m a b wi))(s:An H Z)(M:H E=AG)(N:H F=AG)(jr:DP AM ex Z j k p r E F wi [] []):CY AM ex (AQ Z A (.dK (BJ D (.inl (n:Int)) (.ref j)))) (ss.take (n+1)) A (BJ D (.inl (n:Int)) (.ref j)) (λi=>if i=n then⟨j,k,p,r,E,F⟩else C i) λ_=>([],[]):=by
  have l:Ba _ Z (AQ Z A (.dK (BJ D (.inl (n)) (.ref j)))):=zzu
  have T:∀b,b=A->(b∈ex/\∃xs,Z b=AA (.lst xs))\/∃P,Z b=AA (.dK P):=λb x=>.inr ⟨D,by rw[x];show s _ _ O⟩;have c:=(Bg O M).symm;have d:=(Bg O N).symm;have J:∀{i:Nat},Bq _ i->i≠n->Bq (ss.take n) i:=λ{i}U y=>Xf (by have:=(Mj U).1;show EL (DM this) y) (Mj U).2;have S:∀{i:Nat},Bq _ i->(E≠(C i).d0/\E≠(C i).d1)/\F≠(C i).d0/\F≠(C i).d1:=λ{i}U=>by obtain⟨k0,Q⟩:=h.tj ⟨i,U,.inl rfl⟩;obtain⟨k1,R⟩:=h.tj ⟨i,U,.inr rfl⟩;show⟨⟨(Bg Q M).symm,(Bg R M).symm⟩,(Bg Q N).symm,(Bg R N).symm⟩
  show⟨.inl Af,λi n' t u wi' L=>?_,λi X U I K=>?_,λi U=>?_⟩
  . by_cases Y:i=n
    . subst Y;have e:=(LM L).2;rw[w]at e;cases e;rw[AEv rfl];show⟨by rw[Gn,AEv rfl],jr.cx l T c d⟩
    . rw[AEu Y];have G:=RU (by have:=(LM L).1;show EL (DM this) Y) (LM L).2;obtain⟨v,q⟩:=h.dc i n' t u _ G;have g:=h.uw i ⟨_,_,_,_,G⟩;show⟨by rw[Gn,AEu (λz=>Y (by lia))];show v,(q.af s).cx l T g.1.symm g.2.symm⟩
  . by_cases W:i=n
    . subst W;have B:=Gb K;rw[AEv rfl,AEu B];have f:=S (J I B);show⟨⟨f.1.1.symm,f.2.1.symm⟩,f.1.2.symm,f.2.2.symm⟩
    . by_cases B:X=n
      . subst B;rw[AEu W,AEv rfl];show S (J U W)
      . rw[AEu W,AEu B];show h.bb i X (J U W) (J I B) K
  . by_cases W:i=n
    . subst W;rw[AEv rfl];show⟨c.symm,d.symm⟩
    . rw[AEu W];show h.uw i (J U W)
theorem CY.aas{ss:List AU}(h:CY AM ex H (ss.take n) Z J C sd)(G:ss[n]?=AA s)(I:s.no≠4):CY AM ex H (ss.take (n+1)) Z J C sd:=by
 have D:∀{i:Nat},Bq _ i->Bq (ss.take n) i:=λ{i}U=>by
  obtain⟨m,a,b,W,e⟩:=U;obtain⟨l,F⟩:=LM e;clear e;have e:=F;show⟨m,a,b,W,RU ?_ e⟩;by_cases q:i=n
  . subst q;rw[G]at e;cases e;show absurd rfl I
  .show EL (DM l) q
 show⟨h.ai,λi E a b W B=>?_,λi K U Y=>h.bb i K (D U) (D Y),λi U=>h.uw i (D U)⟩;lk;obtain⟨O,M,N,L,A⟩:=D ⟨E,a,b,W,B⟩;have q:=(LM B).2;rw[(LM A).2]at q;cases q;k_in;show h.dc i E a b W A
def O6(ss:List AU)(i:Nat):Bool:=match ss[i]? with|AA s=>Aa (s.no=4)|AG=>AR
theorem Tw:O6 ss i=AJ↔Bq ss i:=by unfold O6 Bq;cases ss[i]? with |none=>exact⟨λh=>(by cases h),λ⟨_,_,_,_,h⟩=>(by cases h)⟩|some s=>
 constructor
 . intro h;have h:s.no=4:=AEy h;cases s<;>first|exact⟨_,_,_,_,rfl⟩|cases h
 . intro⟨_,_,_,_,h⟩;cases h;rfl
structure Jb(ss:List AU)(n:Nat)(jd:Nat->D8)(jkvs:List (AK×AD)):Prop where
 rh:∀p∈jkvs,∃i:Nat,i<n/\Bq ss i/\p=(.inl (i:Int),.ref (jd i).j)nd:(jkvs.map (·.1)).Nodup
 yr:jkvs.map (·.1)=((Ec n).filter (O6 ss)).map λi=>.inl (i:Int)
theorem Jb.aas(h:Jb ss n J D)(U:ss[n]?=AA s)(W:s.no≠4):Jb ss (n+1) J D:=⟨λp Y=>by obtain⟨i,l,q,e⟩:_:=h.rh p Y;show⟨i,y7 l,q,e⟩,h.nd,by rw[OR,GZ,P9 (by unfold O6;rw[U];simpa using W),ABg,C2];show h.yr⟩
theorem Jb.aae(h:Jb ss n W D)(U:Bq ss n)(J:D8):Jb ss (n+1) (λi=>if i=n then J else W i) (BJ D (.inl (n:Int)) (.ref J.j)):=by
  show⟨λp Z=>?_,NA h.nd,?_⟩
  . rcases M7 Z with rfl|⟨Y,_⟩;.show⟨n,by simp,U,by rw[AEv rfl]⟩
    . obtain⟨i,l,q,e⟩:_:=h.rh p Y;show⟨i,by lia,q,by rw[AEu (Ee l)];show e⟩
  . have e:BH D (.inl (n:Int))=AG:=by cases q:BH D (.inl (n:Int))with|none=>rfl|some v=> obtain⟨i,l,_,e⟩:=h.rh _ (FD q);have:=Fq (WH e).1;omega
    rw[aM _ e,CQ,h.yr,OR,GZ,Sb (Tw.mpr U),CQ];rfl
def nY(B:CF):BO:=λC H Q _=>(EH λ(Z:AE)(A:List AD)(J:List AU)=>EV (C=[.ref Z]) (H Z=AA (.lst A)) (EW H A J) (J.length<=20) (∀U W D Y,An H U->H W=AG->U W=AA (.dK D)->Jb J J.length Y D->CY B [] U J W D Y (λ_=>([],[]))->(∀b,DR J Y b->H b=AG)->Q (.ref W) U))
theorem kO(T:BQ AH Ag AM):T.qv.Ok BM P w Ag base 5 (nY AM):=by
  show T.qv.ok λnd _ _ _ _ _ hr H vs Q E h=>?_;obtain⟨lp,ps,u,rfl,S,pr,lss,k⟩:_:=h;show⟨_,(Aq (BC 1 nd OI) (Aq (C8 DF rfl (P0 (K:=AH) (by rfl) T.fi (AB 0)) (Jk rfl (EB (CO 2 nd) (EB (CO 3 nd) JJ))) (Ac (Bx (Bl DD (Av AH (AB 3) AN) DV (BW _)) (Ac (Ju hr.u1 (AB 1) (AB 2) (PK (kM T) hr T.zv Kq #v[Av AH (AB 3) AN]) rfl)) CH))) (Ac (BI (AB 1))))),?_⟩;have sz:Ay=16777216:=DW;have lps:=pr.de;intro O G;show BA (o:=.dK []) G λH0 g0 R=>?_;show⟨lp,rfl,⟨_,AW (g0 _ _ S)⟩,Rv (K:=AH) (xs:=ps) (λn v t=>(KD λ(o3 o4:Option AD)(D:List (AK×AD))(I:Nat->D8)=>HZ (v=[AA (.ref lp),AA (.ref O),o3,o4]) (An H t) (t O=AA (.dK D)) (D.length<=n) (Jb u n I D) (CY AM [] t (u.take n) O D I (λ_=>([],[]))) (∀b,DR (u.take n) I b->H b=AG))) ⟨AG,AG,[],λ_=>⟨0,0,0,0,0,0⟩,rfl,g0,R,Ak _,⟨λp hp=>(by cases hp),.nil,rfl⟩,⟨.inl R,λi n a b N e=>(by cases(LM e).1),λi i' B=>(by cases(Mj B).1),λi B=>(by cases(Mj B).1)⟩,λb⟨i,B,_⟩=>(by cases(Mj B).1)⟩ (λn v t _ hh=>by obtain⟨_,_,_,_,_,s',_⟩:=hh;show AW (s' _ _ S)) ?_ ?_⟩
  . intro n x v H1 p hx hI hp;lk;obtain⟨o3,o4,D,I,rfl,s1,C,L,U,W,J⟩:=hI;obtain⟨b,st,rfl,M,eb⟩:=pr.at hx;k_in;show BA (o:=.tup [.int (n:Int),.ref b]) hp λH2 g2 ep=>?_;show⟨p,_,rfl,Ao ep,rfl,_,_,rfl,_,_,rfl,rfl,?_⟩;have s2:=s1.aa g2;have eb2:DY H2 b st:=s2 _ _ eb;have r:=W.af g2;have F:=g2 _ _ C;obtain⟨e0,e1,_⟩:_:=eb2.gy;have hn:n<u.length:=(BU.mp M).1;show⟨_,_,e0,e1,rfl,_,rfl,KQ (i:=4) rfl (λs=>?_) λs=>⟨_,_,D,I,rfl,s2,F,Kx L,U.aas M s,r.aas M s,λy Y=>?_⟩⟩
    . lk;obtain⟨m,f,g,N,rfl⟩:∃m f g N,st=.join m f g N:=by cases st<;>first|show⟨_,_,_,_,rfl⟩|cases s
      k_in;show⟨_,_,e0,Aj (j:=4) rfl,λj z hj X hnj=>⟨[],j,z,N,rfl,Af,(λc hc=>by cases hc),λHs sl x0 x1 d0 d1 sx Z A jr=>⟨rfl,?_⟩⟩⟩;have s3:An H2 Hs:=λb o e=>sx _ _ (Bg e hj) (by rw[AX (Bg e hj),AX (Bg e X)];show e);have Z:=L9 (L9 Z);have A:=L9 (L9 A);show⟨O,_,rfl,Ke (k:=.inl (n:Int)) (s3 _ _ F) (by lia),?_⟩;have lk:=UJ D (.inl (n:Int)) (.ref j);show⟨_,_,BJ D (.inl (n:Int)) (.ref j),_,rfl,(s2.aa s3).xq G,Af,Ah lk (J3.mpr L),U.aae ⟨_,_,_,_,M⟩ ⟨j,sl,x0,x1,d0,d1⟩,r.aae F M s3 Z A jr,λy d=>?_⟩;obtain⟨i,B,Y⟩:=d;by_cases q:i=n
      . subst q;dsimp only at Y;rw[AEv rfl]at Y;rcases Y with rfl|rfl;.show s2.ba Z
        .show s2.ba A
      . dsimp only at Y;rw[AEu q]at Y;show J y ⟨i,Xf (by have:=(Mj B).1;lia) (Mj B).2,Y⟩
    . lk;obtain⟨i,⟨m,a,c,N,e⟩,Y⟩:=Y;obtain⟨l,e2⟩:=LM e;k_in;show J y ⟨i,⟨m,a,c,N,RU ?_ e2⟩,Y⟩;by_cases q:i=n;. subst q;rw[M]at e2;cases e2;show absurd rfl s
      .lia
  . intro v H1 hI;obtain⟨o3,o4,D,I,rfl,s1,C,L,U,W,J⟩:_:=hI;rw[lps]at U W J;rw[GI]at W J;show k H1 O D I s1 G C U W J
structure FZ where
 x:AE
 p:AE
 d:AE
section
variable{s:AU}
structure DO(ad:CF)(ex:List AE)(H:AI)(ss:List AU)(ts:List Nat)(dg:AE)(gkvs:List (AK×AD))(gd:Nat->FZ)(gg:Nat->AF->List AV)(gk:Nat->List (AK×AD)):Prop where
 ai:Fi H dg (.dK gkvs)jo:∀i∈ts,∃s,ss[i]?=AA s/\BH gkvs (.inl (i:Int))=AA (.ref (gd i).x)/\EC ad ex H (gd i).x (gd i).p (gd i).d s (gg i) (gk i)bb:∀i∈ts,∀i'∈ts,i≠i'->(gd i).d≠(gd i').d
 md:∀i∈ts,dg≠(gd i).d
end
theorem EC.cx{st:AU}(h:EC AM ex H x p d st g kvs)(s:Ba q H H')(D:∀b,q b->(b∈ex/\∃xs,H b=AA (.lst xs))\/∃kvs,H b=AA (.dK kvs))(Y:¬q d):EC AM ex H' x p d st g kvs:=by have J:Bc H H':=λb xs e=>s _ _ (λz=>by rcases D b z with⟨_,xs,y⟩|⟨kvs,y⟩<;>(rw[e]at y;cases y)) e;obtain⟨⟨U,e⟩,W,r⟩:_:=h;show⟨⟨U,s _ _ (λz=>by rcases D x z with⟨_,xs,y⟩|⟨kvs,y⟩<;>(rw[e]at y;cases y)) e⟩,W.tp J,r.ab (s _ _ Y r.ai) (λb xs n e=>s _ _ (λz=>by
 rcases D b z with⟨y,_⟩|⟨kvs,y⟩;.show n y
 .rw[e]at y;cases y) e) J⟩
theorem DO.af(h:DO AM ex H ss Y J D U gg gk)(s:An H H'):DO AM ex H' ss Y J D U gg gk:=⟨KY h.ai (s _),λi V=>by obtain⟨W,e,v,g⟩:_:=h.jo i V;show⟨W,e,v,g.af s⟩,h.bb,h.md⟩
theorem DO.gv(h:DO AM ex H ss Z J D U gg gk)(W:H l=AG):DO AM (l::ex) H ss Z J D U gg gk:=⟨h.ai,λi V=>by obtain⟨Y,e,v,g⟩:_:=h.jo i V;show⟨Y,e,v,g.gv W⟩,h.bb,h.md⟩
theorem DO.iz(h:DO AM (l::ex) H ss Y J D U gg gk):DO AM ex H ss Y J D U gg gk:=⟨h.ai,λi V=>by obtain⟨W,e,v,g⟩:_:=h.jo i V;show⟨W,e,v,g.iz⟩,h.bb,h.md⟩
theorem DO.cx(h:DO AM ex H ss W J D U gg gk)(s:Ba q H H')(A:∀b,q b->(b∈ex/\∃xs,H b=AA (.lst xs))\/∃kvs,H b=AA (.dK kvs))(Y:∀i∈W,¬q (U i).d)(Z:¬q J):DO AM ex H' ss W J D U gg gk:=⟨KY h.ai λo=>s _ o Z,λi V=>by obtain⟨B,e,v,g⟩:_:=h.jo i V;show⟨B,e,v,g.cx s A (Y i V)⟩,h.bb,h.md⟩
theorem DO.iq{st:AU}(h:DO AM ex H ss B C J D gg gk)(hi:i∈B)(Y:ss[i]?=AA st)(s:BV (D i).d H H')(r:EC AM ex H' (D i).x (D i).p (D i).d st Z A):DO AM ex H' ss B C J D (λk=>if k=i then Z else gg k) (λk=>if k=i then A else gk k):=by
 have G:∃I,H (D i).d=AA (.dK I):=by obtain⟨_,_,_,g⟩:=h.jo i hi;show⟨_,g.aj.ai⟩
 show⟨KY h.ai λo=>s _ o (h.md i hi),λk W=>?_,h.bb,h.md⟩;by_cases q:k=i
 . subst q;lk;obtain⟨U,e,v,_⟩:=h.jo k W;rw[Y]at e;k_in;show⟨st,Y,v,by rw[AEv rfl,AEv rfl];show r⟩
 . obtain⟨U,e,v,g⟩:_:=h.jo k W;show⟨U,e,v,by rw[AEu q,AEu q];show g.cx (λb o K E=>s b o K E) (λb F=>.inr (by rw[F];show G)) (h.bb k W i hi q)⟩
theorem DO.jq(h:DO AM ex H ss M V D G gg gk)(e:Fi H' V (.dK D))(A:∀b,b≠V->H' b=H b):DO AM ex H' ss M V D G gg gk:=by
 have W:∀{b:AE}{U:Bn},H b=AA U->(∀o u,U≠.frz o u)->(∀u,U≠.dK u)->H' b=AA U:=λ{b U}J K I=>by
  rw[A b λz=>by
   rw[z]at J;rcases h.ai with Y|⟨O,Y⟩<;>rw[Y]at J;.show I _ (B9 J).symm
   .show K _ _ (B9 J).symm];show J
 have B:Bc H H':=λb N J=>W J (by intro o u z;cases z) (by intro u z;cases z);show⟨e,λi Z=>?_,h.bb,h.md⟩;obtain⟨L,e,v,⟨C,E⟩,F,r⟩:_:=h.jo i Z;show⟨L,e,v,⟨C,W E (by intro o u z;cases z) (by intro u z;cases z)⟩,F.tp B,r.ab (by rw[A _ (h.md i Z).symm];show r.ai) (λb N _ e=>W e (by intro o u z;cases z) (by intro u z;cases z)) B⟩
structure K9(ts:List Nat)(gd:Nat->FZ)(gkvs:List (AK×AD)):Prop where
 rh:∀p∈gkvs,∃i∈ts,p=(.inl (i:Int),.ref (gd i).x)nd:(gkvs.map (·.1)).Nodup
 yr:gkvs.map (·.1)=ts.map λi=>.inl (i:Int)
theorem Kb:i∈Al ss↔∃s,ss[i]?=AA s/\s.da=AJ:=by
 unfold Al Mt;rw[DT,V6];constructor
 . rintro⟨h,q⟩;rw[CG h]at q;show⟨_,CG h,q⟩
 . intro D;obtain⟨s,e,q⟩:_:=D;show⟨(BU.mp e).1,by rw[e];show q⟩
theorem Ue(ss:List AU):(Al ss).Nodup:=yT.sublist Jz
theorem T6(U:H x=AG)(J:H D=AG)(s:BV x (AQ (AQ H D (.own x)) x (.ins C D [])) H'):An H H':=λb o e=>s b o (Bg e U) (by rw[AX (Bg e U),AX (Bg e J)];show e)
theorem Ni(U:D≠x)(h:AQ (AQ H D (.own x)) x (.ins C D []) b=AG):H b=AG/\b≠x:=by
 have J:b≠x:=λz=>by rw[z,Af]at h;cases h
 have V:b≠D:=λz=>by rw[z,AX U,Af]at h;cases h
 rw[AX J,AX V]at h;show⟨h,J⟩
theorem DO.aae{st:AU}(h:DO AM [] H ss A B D G (λ_ _=>[]) (λ_=>[]))(O:H B=AA (.dK D))(T:ss[i]?=AA st)(K:i∉A)(s:An H Z)(M:H J.d=AG)(X:EC AM [] Z J.x J.p J.d st (λ_=>[]) []):DO AM [] (AQ Z B (.dK (BJ D (.inl (i:Int)) (.ref J.x)))) ss (A++[i]) B (BJ D (.inl (i:Int)) (.ref J.x)) (λk=>if k=i then J else G k) (λ_ _=>[]) (λ_=>[]):=by
  have S:Ba _ Z (AQ Z B (.dK (BJ D (.inl (i)) (.ref J.x)))):=zzu
  have P:∀b,b=B->(b∈([])/\∃j,Z b=AA (.lst j))\/∃I,Z b=AA (.dK I):=λb a=>.inr ⟨D,by rw[a];show s _ _ O⟩;have Q:=(Bg O M).symm;have W:∀{k:Nat},k∈A->k≠i:=λU z=>K (by rw[<-z];show U);have N:∀{k:Nat},k∈A->J.d≠(G k).d:=λ{k}U=>by obtain⟨_,_,_,g⟩:=h.jo k U;show(Bg g.aj.ai M).symm
  have Y:∀{k:Nat},k∈A++[i]->k∈A\/k=i:=λU=>(DS.mp U).imp id By.mp;show⟨.inl Af,λk U=>?_,λk U c E R=>?_,λk U=>?_⟩
  . rcases Y U with U|rfl;. obtain⟨L,e,v,g⟩:_:=h.jo k U;rw[AEu (W U)];show⟨L,e,by rw[Gn,AEu (λz=>W U (by lia))];show v,(g.af s).cx S P (h.md k U).symm⟩
    . rw[AEv rfl];show⟨st,T,by rw[Gn,AEv rfl],X.cx S P Q⟩
  . rcases Y U with F|rfl
    . rcases Y E with C|rfl
      . rw[AEu (W F),AEu (W C)];show h.bb k F c C R
      . rw[AEu (W F),AEv rfl];show(N F).symm
    . rcases Y E with C|rfl
      . rw[AEv rfl,AEu (W C)];show N C
      .show absurd rfl R
  . rcases Y U with U|rfl;. rw[AEu (W U)];show h.md k U
    . rw[AEv rfl];show Q.symm
theorem K9.aae(h:K9 Y Z D)(U:i∉Y)(J:FZ):K9 (Y++[i]) (λk=>if k=i then J else Z k) (BJ D (.inl (i:Int)) (.ref J.x)):=by
  show⟨λp B=>?_,NA h.nd,?_⟩
  . rcases M7 B with rfl|⟨A,_⟩;.show⟨i,Fj _ (.head _),by rw[AEv rfl]⟩
    . obtain⟨k,W,e⟩:_:=h.rh p A;show⟨k,Ic _ W,by rw[AEu (λz=>U (by rw[<-z];show W))];show e⟩
  . have e:BH D (.inl (i:Int))=AG:=by cases q:BH D (.inl (i:Int))with |none=>rfl|some v=> obtain⟨k,W,e⟩:=h.rh _ (FD q);have:=Fq (WH e).1;exact absurd (by rw[Iv.mp this];show W) U
    rw[aM _ e,CQ,h.yr,CQ];rfl
def nT(B:CF):BO:=λC H Q _=>(EH λ(Z:AE)(A:List AD)(J:List AU)=>EV (C=[.ref Z]) (H Z=AA (.lst A)) (EW H A J) (J.length<=20) (∀U W D Y,An H U->H W=AG->U W=AA (.dK D)->D.length<=J.length->K9 (Al J) Y D->DO B [] U J (Al J) W D Y (λ_ _=>[]) (λ_=>[])->(∀i∈Al J,H (Y i).d=AG)->Q (.ref W) U))
theorem kK(T:BQ AH Ag AM):T.qc.Ok BM P w Ag base 3 (nT AM):=by
  show T.qc.ok λnd _ _ _ _ _ hr H vs Q E h=>?_;obtain⟨lp,ps,Y,rfl,c,pr,lss,k⟩:_:=h;show⟨_,(Aq (BC 1 nd OI) (Aq (C8 DF rfl (Cn (K:=AH) (BG (lP T) hr #v[AB 0])) (CO 2 nd) (Ac (Ju hr.u1 (AB 1) (AB 2) (PK (kG T) hr T.zb Kq #v[CZ AH (AB 0) (AB 2)]) rfl))) (Ac (BI (AB 1))))),?_⟩;have sz:Ay=16777216:=DW;have lps:=pr.de;intro O N;show BA (o:=.dK []) N λH0 u X=>?_;show⟨lp,ps,Y,rfl,u _ _ c,pr.ab u.tp,Ah lss (by decide),λH1 lt s1 hlt f=>?_⟩;have lts:(Al Y).length<=Y.length:=Ah (D3 _ _) (by rw[JO];show Ak _);show⟨lt,rfl,⟨_,AW f⟩,FJ (K:=AH) (xs:=(Al Y).map λi:Nat=>AD.int (i:Int)) (λn r R=>(EH λ(o2:Option AD)(D:List (AK×AD))(L:Nat->FZ)=>JW (r=[AA (.ref lp),AA (.ref O),o2]) (An H R) (R lt=AA (.lst ((Al Y).map λi:Nat=>AD.int (i:Int)))) (R O=AA (.dK D)) (D.length<=n) (K9 ((Al Y).take n) L D) (DO AM [] R Y ((Al Y).take n) O D L (λ_ _=>[]) (λ_=>[])) (∀i∈(Al Y).take n,H (L i).d=AG))) ⟨AG,[],λ_=>⟨0,0,0⟩,rfl,u.aa s1,f,s1 _ _ X,Ak _,⟨λp hp=>(by cases hp),.nil,rfl⟩,⟨.inl (s1 _ _ X),λi Z=>(by cases Z),λi Z=>(by cases Z),λi Z=>(by cases Z)⟩,λi Z=>(by cases Z)⟩ (λn r R _ hh=>by obtain⟨_,_,_,_,_,e,_⟩:=hh;show AW e) ?_ ?_⟩
  . intro n y r I hy v;lk;obtain⟨o2,D,L,rfl,s2,W,A,G,C,F,B⟩:=v;rw[Bs]at hy;obtain⟨i,Z,rfl⟩:=Du.mp hy;obtain⟨st,s,ht⟩:=Kb.mp (Cg Z);obtain⟨a,ea,eq⟩:∃a,ps[i]?=AA (.ref a)/\DY H a st:=by have t:=CG (show i<ps.length by rw[lps];show(BU.mp s).1);obtain⟨a,s',e1,e2,e3⟩:=pr.at t;rw[s]at e2;cases e2;rw[e1]at t;show⟨a,t,e3⟩
    k_in;have hnt:n<(Al Y).length:=(BU.mp Z).1;have m:i∉(Al Y).take n:=λhm=>by obtain⟨j,hj,e⟩:=FN.mp hm;rw[El]at hj;rw[NK]at e;obtain⟨h2,g2⟩:=BU.mp Z;show(Gq.mp (Ue Y)) j n (Bh hj (QF _ _)) h2 (AE3 hj (cZ (B6 hnt))) (e.trans g2.symm)
    show⟨_,_,AW (s2 _ _ c),Aj ea,λx U hx hdx hxn=>⟨x,U,a,rfl,Af,λd hd=>⟨rfl,?_⟩⟩⟩;obtain⟨M,ndx⟩:=Ni hxn hd;have s3:An I (AQ (AQ (AQ (AQ (AQ I U (.own x)) x (.ins AM.au U [])) x (.ins AM.au U [("step",.ref a)])) d (.dK [])) x (.ins AM.au U [("step",.ref a),("rows",.ref d)])):=λb o e=>by have n1:=Bg e hx;rw[AX n1,AX (Bg e M),AX n1,AX n1,AX (Bg e hdx)];show e
    have g:(AQ (AQ (AQ (AQ (AQ I U (.own x)) x (.ins AM.au U [])) x (.ins AM.au U [("step",.ref a)])) d (.dK [])) x (.ins AM.au U [("step",.ref a),("rows",.ref d)])) x=AA (.ins AM.au U [("step",.ref a),("rows",.ref d)]):=Af;have S:(AQ (AQ (AQ (AQ (AQ I U (.own x)) x (.ins AM.au U [])) x (.ins AM.au U [("step",.ref a)])) d (.dK [])) x (.ins AM.au U [("step",.ref a),("rows",.ref d)])) d=AA (.dK []):=by rw[AX ndx];show Af
    generalize AQ (AQ (AQ (AQ (AQ I U (.own x)) x (.ins AM.au U [])) x (.ins AM.au U [("step",.ref a)])) d (.dK [])) x (.ins AM.au U [("step",.ref a),("rows",.ref d)])=H3 at s3 g S⊢;show⟨O,_,rfl,Ke (k:=.inl (i:Int)) (s3 _ _ A) (by lia),?_⟩;have lk:=UJ D (.inl (i:Int)) (.ref x);have tk:(Al Y).take (n+1)=(Al Y).take n++[i]:=by rw[Dt,Z];rfl
    have nlt:lt≠O:=λz=>by rw[z,A]at W;cases W
    show⟨_,BJ D (.inl (i:Int)) (.ref x),λk=>if k=i then⟨x,a,d⟩else L k,rfl,(s2.aa s3).xq N,by rw[AX nlt];show s3 _ _ W,Af,Ah lk (J3.mpr G),by rw[tk];show C.aae m ⟨x,a,d⟩,?_,λk' l=>?_⟩;. rw[tk];show F.aae (J:=⟨x,a,d⟩) A s m s3 M ⟨⟨U,g⟩,(s2.aa s3) _ _ eq,S,.nil,λq hq=>(by cases hq),λkey ne=>absurd rfl ne⟩
    . rw[tk]at l;dsimp only;by_cases q:k'=i
      . rw[AEv q];show s2.ba M
      . rw[AEu q];show B k' ((DS.mp l).elim id λh=>absurd (By.mp h) q)
  . intro r I v;obtain⟨o2,D,L,rfl,s2,W,A,G,C,F,B⟩:_:=v;rw[As]at G C F B;rw[Ed (Ak _)]at C F B;show k I O D L s2 N A (Ah G lts) C F B
def Hm(z:AF)(l:List AO):List Oz:=(l.filter λi=>Aa (i.2.1=z)).map λi=>(i.1,i.2.2)
theorem YN(z:AF)(l m:List AO):Hm z (l++m)=Hm z l++Hm z m:=by unfold Hm;rw[GZ,CQ]
theorem mG(z:AF)(l:List AO):(Hm z l).length<=l.length:=by unfold Hm;rw[As];show D3 _ _
theorem mH(h:x∈Hm z l):∃i∈l,i.1=x.1:=by obtain⟨i,D,rfl⟩:_:=BE.mp h;show⟨i,(DT.mp D).1,rfl⟩
def AU.fd:AU->AF|AU.gap _ a _ _|AU.each _ a _ _ _=>a|_=>""
theorem DO.zi(h:DO AM ex H ss J U D W gg gk)(e:∀i∈J,gg' i=gg i):DO AM ex H ss J U D W gg' gk:=⟨h.ai,λi Y=>by obtain⟨A,Z,v,g⟩:_:=h.jo i Y;show⟨A,Z,v,by rw[e i Y];show g⟩,h.bb,h.md⟩
def GS(D:List (Int×AO))(i:Nat):List AO:=(D.filter λp=>Aa (p.1=(i:Int))).map (·.2)
theorem Xg(a b:List (Int×AO))(i:Nat):GS (a++b) i=GS a i++GS b i:=by unfold GS;rw[GZ,CQ]
theorem Tz{D:List (Int×AO)}{p:Int×AO}(e:D[n]?=AA p)(i:Nat):GS (D.take (n+1)) i=GS (D.take n) i++(if p.1=(i:Int)then[p.2]else[]):=by
 rw[Dt,e,Xg];congr 1;change(Vy _ [p]).map _=_;by_cases q:p.1=(i)
 . rw[AEv q,Sb (by show AEx q)];rfl
 . rw[AEu q,P9 (by rw[AE1];show q)];rfl
theorem iN(D:List (Int×AO))(n i:Nat):(GS (D.take n) i).Sublist (GS D i):=((yY n D).filter _).map _
theorem Xh(l:List AO)(j i:Nat):GS (l.map λx=>((j:Int),x)) i=if j=i then l else[]:=by
 unfold GS;by_cases q:j=i
 . rw[AEv q,NI.mpr λp D=>by obtain⟨x,_,rfl⟩:_:=BE.mp D;show AEx (by rw[q]),Cu];show ABq l
 . rw[AEu q,IB.mpr λp D=>by obtain⟨x,_,rfl⟩:_:=BE.mp D;rw[AE1];show OX q (λJ=>Iv.mp J)];rfl
theorem Yx(e:ss[i]?=AA s)(U:s.da=AJ):∀N,GS (FT ss bt N) i=if i<N then bt s.nm else[] |0=>rfl|N+1=>by change GS (FT ss bt N++_) i=_;rw[Xg,Yx e U N];cases q:ss[N]? with |none=> have:=(BU.mp e).1;have:=V0.mp q;rw[AEv (by lia),AEv (by lia)];show C2 _|some J=>
      change _++GS (if J.da=AJ then(bt _).map _ else[]) i=_;by_cases h:N=i
      . subst h;rw[e]at q;cases q;rw[AEu (J4 _),AEv U,Xh,AEv rfl,AEv (JQ _)];rfl
      . have V:GS (if J.da=AJ then(bt J.nm).map λi=>((N),i)else[]) i=[]:=by
          split;.rw[Xh,AEu h]
          .rfl
        rw[V,C2];by_cases D:i<N;.rw[AEv D,AEv (y7 D)]
        .rw[AEu D,AEu (OX D (λW=>EL (DM W) (Gb h)))]
theorem Yy:∀{N:Nat}{p:Int×AO},p∈FT ss bt N->∃(i:Nat)(s:AU),ss[i]?=AA s/\s.da=AJ/\p.1=(i:Int)/\p.2∈bt s.nm
 |0,p,h=>by cases h|N+1,p,h=>by
  rcases DS.mp h with h|h;.show Yy h
  .cases q:ss[N]? with |none=>rw[q]at h;cases h|some s=>
   rw[q]at h;have h:p∈if s.da=AJ then(bt _).map _ else[]:=h;split at h
   . rename_i D;obtain⟨x,J,rfl⟩:_:=BE.mp h;show⟨N,s,q,D,rfl,J⟩
   .cases h
theorem ED.gm(h:ED ss){i:Nat}(e:ss[i]?=AA s)(D:s.da=AJ):s.gm/\s.so∈FQ/\s.bu=[s.fd]:=by have:=h.ok s (Cg e);cases s with|gap n a J m=>show⟨this.1,this.2,rfl⟩|each n a J z d=>show⟨this.1,this.2,rfl⟩|_=>cases D
def Hi(ss:List AU)(J:Nat->D8)(D:Nat->FZ)(b:AE):Prop:=DR ss J b\/∃i∈Al ss,b=(D i).d
theorem CY.jq(h:CY AM ex H ss Y D I sd)(e:Fi H' Y (.dK D))(F:∀b,b≠Y->H' b=H b):CY AM ex H' ss Y D I sd:=by
 have U:∀{b:AE}{W:Bn},H b=AA W->(∀o u,W≠.frz o u)->(∀u,W≠.dK u)->H' b=AA W:=λ{b W}J R Z=>by
  rw[F b λz=>by
   rw[z]at J;rcases h.ai with G|⟨X,G⟩<;>rw[G]at J;.show Z _ (B9 J).symm
   .show R _ _ (B9 J).symm];show J
 have K:Bc H H':=λb M J=>U J (by intro o u z;cases z) (by intro u z;cases z);show⟨e,λi n a b L B=>⟨(h.dc i n a b L B).1,?_⟩,h.bb,h.uw⟩;have Z:=h.uw i ⟨_,_,_,_,B⟩;obtain⟨⟨A,O⟩,N,T,r1,S,Q⟩:_:=(h.dc i n a b L B).2;show⟨⟨A,U O (by intro o u z;cases z) (by intro u z;cases z)⟩,U N (by intro o u z;cases z) (by intro u z;cases z),T.ab (λC A P e=>U e (by intro o u z;cases z) (by intro u z;cases z)) (λE e=>by rw[F _ Z.1.symm];show e) (λb M n e=>U e (by intro o u z;cases z) (by intro u z;cases z)) K,r1.ab (λC A P e=>U e (by intro o u z;cases z) (by intro u z;cases z)) (λE e=>by rw[F _ Z.2.symm];show e) (λb M n e=>U e (by intro o u z;cases z) (by intro u z;cases z)) K,S,Q⟩
def Eg(x:AO):Prop:=0<=x.1/\x.1<=1000000000
theorem gT(I:Eg (KO e))(H:∀n a b wi,s=.join n a b wi->(∀x∈S.1,Eg x)/\∀x∈S.2,Eg x)(V:∀a∈s.bu,∀x∈bt a,x.2.1=e.2.2.1/\Eg x)(U:Eo s bt S e):∀x∈bt s.nm,x.2.1=e.2.2.1/\Eg x:=λx D=>by cases s with
 |take n k=>
  change x∈bt n at D;change bt n=L8 k e at U;rw[U]at D;unfold L8 at D;split at D;.rw[By.mp D];exact⟨rfl,I⟩
  .cases D|only n a P A=> change x∈bt n at D;change bt n=(bt a).filter _ at U;rw[U]at D;exact V a (.head _) x (DT.mp D).1|turn n a f g=> change x∈bt n at D;change bt n=(bt a).map _ at U;rw[U]at D;obtain⟨y,J,rfl⟩:=BE.mp D;exact V a (.head _) y J|both n a b=> change x∈bt n at D;change bt n=bt a++bt b at U;rw[U]at D;exact(DS.mp D).elim (V a (.head _) x) (V b (.tail _ (.head _)) x)|join n a b wi=>
  obtain⟨F,G⟩:=H n a b wi rfl;have q:=((yW _).mp (U.symm.trans XE)).mem_iff.mp D;have B:=V a (.head _);have W:=V b (.tail _ (.head _));have Z:∀{X Y:List AO},(∀x∈X,Eg x)->(∀y∈Y,Eg y)->((∀x∈X,x.2.1=e.2.2.1)\/∀y∈Y,y.2.1=e.2.2.1)->x∈EE wi X Y->x.2.1=e.2.2.1/\Eg x:=λ{X Y}t1 t2 h J=>by obtain⟨i,A,J⟩:=V4.mp J;obtain⟨j,K,rfl⟩:=BE.mp J;obtain⟨C,L⟩:=DT.mp K;have E:=(AEy L).1;have N:=t1 i A;have O:=t2 j C;refine⟨h.elim (λh=>h i A) λh=>E.symm.trans (h j C),?_⟩;unfold Eg T9 Nj at*;dsimp only;split<;>omega
  rcases DS.mp q with q|q;.exact Z F (λy J=>(W y J).2) (.inr λy J=>(W y J).1) q
  .exact Z (λy J=>(B y J).2) (λy J=>(DS.mp J).elim (G y) λJ=>(W y J).2) (.inl λy J=>(B y J).1) q|gap n a M m=>change x∈bt n at D;change bt n=bt a at U;rw[U]at D;exact V a (.head _) x D|each n a M z d=>change x∈bt n at D;change bt n=bt a at U;rw[U]at D;exact V a (.head _) x D
def O0(ss:List AU)(sd:Nat->List AO×List AO):Prop:=∀i,Bq ss i->(∀x∈(sd i).1,Eg x)/\∀x∈(sd i).2,Eg x
theorem Qz(Y:ED ss)(W:Eg (KO e))(U:O0 ss sd)(V:∀(i:Nat)s,ss[i]?=AA s->Eo s bt (sd i) e):∀(m i:Nat)s,i<m->ss[i]?=AA s->∀x∈bt s.nm,x.2.1=e.2.2.1/\Eg x|0,i,s,J,_=>absurd J (OW _)|m+1,i,s,J,D=>gT W (λn a b E q=>U i ⟨n,a,b,E,by rw[<-q];exact D⟩) (λa A=>by obtain⟨B,C,l,Z,rfl,_⟩:=Y.oi i s a D A;exact Qz Y W U V m B C (Bh l (DM J)) Z) (V i s D)
def IQ(s:AU)(g:AF->List AV)(l:List AO):AF->List AV:=λy=>(Hm y l).foldl (λl x=>s.js x.1 x.2 l) (g y)
theorem iJ:Cr (IQ s g l) x.2.1 (s.js x.1 x.2.2 (IQ s g l x.2.1))=IQ s g (l++[x]):=by
  funext y;by_cases q:y=x.2.1
  . have e:Hm y [x]=[(x.1,x.2.2)]:=by change(Vy _ _).map _=_;rw[Sb (by exact AEx q.symm)];rfl
    rw[q,EX];rw[q]at e;unfold IQ;rw[YN,e,yM];rfl
  . have e:Hm y [x]=[]:=by change(Vy _ _).map _=_;rw[P9 (by rw[AE1];exact Gb q)];rfl
    rw[ER q];unfold IQ;rw[YN,e,C2]
theorem XT{s:AU}(D:s.gm)(h:s.gd (g y)):s.gd (IQ s g l y):=iG D h
theorem XU(V:s.gm)(A:∀x∈l,Eg x)(h:s.gd (g y)):(IQ s g l y).length<=(g y).length+5*l.length:=by
 have J:∀{D:List Oz}{l:List _},(∀x∈D,0<=x.1/\x.1<=1000000000)->s.gd l->(D.foldl (λl x=>s.js x.1 x.2 l) l).length<=l.length+5*D.length:=λ{D}=>by induction D with|nil=>simp|cons x D C=> intro l h U;have W:=C (λE u2=>h _ (ID u2)) (s.xi (t:=x.1) (a:=x.2) V U);have Y:=s.de (a:=x.2) V (h x D4) U;rw[cE,Kw];omega
 have W:=J (D:=Hm y l) (λx B=>by obtain⟨i,Z,e⟩:=mH B;rw[<-e];exact A i Z) h;have Y:=mG y l;unfold IQ;omega
def LG(ss:List AU)(gg:Nat->AF->List AV)(F:Nat->List AO)(i:Nat):AF->List AV:=match ss[i]? with|AA s=>IQ s (gg i) (F i)|AG=>gg i
theorem Iy(e:ss[i]?=AA s):LG ss gg F i=IQ s (gg i) (F i):=by unfold LG;rw[e]
def TU(ss:List AU)(c:AF->Nat)(gg:Nat->AF->List AV):Prop:=∀(i:Nat)s,ss[i]?=AA s->s.da=AJ->∀y,s.gd (gg i y)/\(gg i y).length<=5*c s.fd
def Lx(ss:List AU)(bt:AF->List AO)(i:Nat):List AO:=match ss[i]? with|AA s=>bt s.nm|AG=>[]
theorem Nc(e:ss[i]?=AA s):Lx ss bt i=bt s.nm:=by unfold Lx;rw[e]
def oP(B:CF):BO:=λP H Q _=>(Wt λ(M E C q:AE)(O:List AD)(D:List AU)(U:List (AK×AD))(Y:Nat->D8)(Z:Nat->List AO×List AO)(c R:AF->Nat)(L N:Nat)(e:FP)(J:List (AK×AD))(W:Nat->FZ)(G:Nat->AF->List AV)(K:Nat->List (AK×AD))=>Wq (P=[.ref M,.ref E,.ref C,.ref q]) (H M=AA (.lst O)) (EW H O D) (ED D) (D.length<=20) (CY B [] H D E U Y Z) (Ge H q e) (Iw D c R L N) (NZ D c Z) (L<N) (Eg (KO e)/\O0 D Z) (DO B [] H D (Al D) C J W G K) (∀i∈Al D,(K i).length<=1000) (TU D c G) ((∀i∈Al D,¬DR D Y (W i).d/\E≠(W i).d)) (¬DR D Y C) (∀A F I,Ba (Hi D Y W) H A->CY B [] A D E U Y (FH D Z D.length F)->DO B [] A D (Al D) C J W (LG D G (Lx D F)) I->(∀(i:Nat)s,D[i]?=AA s->Eo s F (Z i) e)->Q .non A))
theorem lE(T:BQ AH Ag AM):T.qg.Ok BM P w Ag base 6 (oP AM):=by
  refine T.qg.ok (len:=λ_ _ _ _ h=>by obtain⟨_,_,_,_,_,_,_,_,_,_,_,_,_,_,_,_,_,_,rfl,_⟩:=h;rfl) λnd _ _ _ _ _ hr H vs Q E h=>?_;obtain⟨lp,dj,dg,q,ps,ss,jkvs,jd,sd,c,z0,kn,mo,e,gkvs,gd,gg,gk,rfl,elp,pr,pok,lss,jr,ev,hC,hS,hk,⟨he,hT⟩,gr,lgk,hg,apt,ndg,k⟩:_:=h;refine⟨_,(Ac (C8 DF rfl (Cn (K:=AH) (BG (lJ T) hr #v[AB 0,AB 1,AB 3])) (Jk rfl (EB (CO 4 nd) (EB (CO 5 nd) JJ))) (Ac (D1 (GV (EY hr.u1 (AB 2) (AB 4) (λ_ _=>rfl)) T.aw (kJ T) hr #v[AB 5]))))),?_⟩;have sz:Ay=16777216:=DW;refine⟨[],lp,dj,q,ps,ss,jkvs,jd,sd,c,z0,kn,mo,e,rfl,elp,pr,pok,lss,jr,(λc hc=>by cases hc),ev,hC,hS,hk,λH1 m xs bt s1 jr1 hm em its br1=>?_⟩;have jr1:=jr1.iz;have isd:∀b,DR ss jd b->∃kvs,H b=AA (.dK kvs):=λb hb=>jr.tj hb;have gr1:=gr.cx s1 (λb hb=>.inr (isd b hb)) (λi hi=>(apt i hi).1) ndg;have tel:∀{i:Nat},i∈Al ss->∃s,ss[i]?=AA s/\s.gm/\c s.fd+(bt s.nm).length<=600/\(∀x∈bt s.nm,Eg x)/\(∀y,s.gd (gg i y)/\(gg i y).length<=5*c s.fd)/\GS (FT ss bt ss.length) i=bt s.nm:=λ{i}hi=>by
    obtain⟨s,es,ht⟩:=Kb.mp hi;obtain⟨tk,_,fd⟩:=pok.gm es ht;obtain⟨i',s',l,e',en,t'⟩:=pok.oi i s s.fd es (by rw[fd];exact .head _);have hi':i<ss.length:=(BU.mp es).1;have eb:bt s.nm=bt s.fd:=by have:=br1 i s es;cases s with |gap n a so m=>exact this|each n a so z d=>exact this|_=>cases ht
    have h6:=O3 pok hC hS hk (N:=ss.length) (λi s _ ei=>br1 i s ei) ss.length i' s' (Ak _) (cX l hi') e' t';rw[en]at h6;refine⟨s,es,tk,by rw[eb];exact h6,λx hx=>(Qz pok he hT br1 (i+1) i s (JQ _) es x hx).2,hg i s es ht,?_⟩;rw[Yx es ht,AEv hi']
  have lx:=its.de;have hmd:¬∃i∈Al ss,m=(gd i).d:=λ⟨i,hi,z⟩=>by obtain⟨_,_,_,g⟩:=gr1.jo i hi;have:=g.aj.ai;rw[<-z,em]at this;cases this
  refine⟨m,rfl,⟨_,AW em⟩,FJ (K:=AH) (xs:=xs) (λn σ H'=>(EH λ(o4 o5:Option AD)(gk':Nat->List (AK×AD))=>IL (σ=(gP lp dj dg q o4 o5)) (Ba (λb=>∃i∈Al ss,b=(gd i).d) H1 H') (DO AM [] H' ss (Al ss) dg gkvs gd (LG ss gg λi=>GS ((FT ss bt ss.length).take n) i) gk') (∀i∈Al ss,(gk' i).length<=(gk i).length+(GS ((FT ss bt ss.length).take n) i).length))) ⟨AG,AG,gk,rfl,λb o _ e=>e,?_,λi hi=>OV _ _⟩ (λn σ H' _ hh=>by obtain⟨_,_,_,_,s',_⟩:=hh;exact AW (s' _ _ hmd em)) ?_ ?_⟩
  . refine gr1.zi λi hi=>?_;obtain⟨s,es,_⟩:_:=tel hi;rw[Iy es,V7];rfl
  . intro n y σ H2 hy hI;lk;obtain⟨o4,o5,gk',rfl,s2,gr2,lg2⟩:=hI;obtain⟨a,qi,pl,it,rfl,ep,ea,eqi⟩:=its.at hy;obtain⟨i,s,es,ht,e1,hx⟩:=Yy (Cg ep);k_in;have e1:pl=(i:Int):=e1;subst e1;have hi:i∈Al ss:=Kb.mpr ⟨s,es,ht⟩;lk;obtain⟨s',es',tk,l6,tms,gds,ib⟩:=tel hi;rw[es]at es';cases es';obtain⟨s',es',v,g⟩:=gr2.jo i hi;rw[es]at es';cases es';rw[Iy es]at g;have nt:∀{b:AE}{xs:List AD},H1 b=AA (.tup xs)->H2 b=AA (.tup xs):=λ{b xs}e=>s2 _ _ (λ⟨i,hi,z⟩=>by obtain⟨_,_,_,g⟩:=gr1.jo i hi;have:=g.aj.ai;rw[<-z,e]at this;cases this) e;have sub:=iN (FT ss bt ss.length) n i;rw[ib]at sub;have mem:∀x∈GS ((FT ss bt ss.length).take n) i,Eg x:=λx hx=>tms x (sub.mem hx);have sl:=sub.length_le;have lg:=lg2 i hi;have lgi:=lgk i hi;have tmx:=tms it hx;obtain⟨dx,eo⟩:=g.cg;k_in;refine⟨a,_,rfl,Ao (nt ea),rfl,_,_,rfl,_,_,rfl,rfl,?_⟩;refine⟨dg,.ref (gd i).x,rfl,by rw[<-v];exact .inl ⟨gkvs,.inl (i:Int),gr2.ai,rfl,rfl⟩,?_⟩;refine⟨(gd i).x,dx,_,rfl,eo,by rfl,[],(gd i).x,(gd i).p,(gd i).d,qi,s,_,gk' i,it,rfl,g,(λc hc=>by cases hc),tk,XT tk (gds _).1,tmx.1,tmx.2,nt eqi,?_,by omega,λH3 k3 s3 g3 l3=>?_⟩
    . have h1:=XU tk mem (gds it.2.1).1;have h2:=(gds it.2.1).2;omega
    . rw[iJ]at g3;have gr3:=gr2.iq hi es s3 g3;refine⟨_,_,_,rfl,λb o nb e=>s3 _ _ (λz=>nb ⟨i,hi,z⟩) (s2 b o nb e),gr3.zi λk hk=>?_,λk hk=>?_⟩
      . by_cases q:k=i;. subst q;rw[AEv rfl,Iy es,Tz ep,AEv rfl]
        . rw[AEu q];obtain⟨sk,ek,_⟩:_:=tel hk;rw[Iy ek,Iy ek,Tz ep,AEu (by change¬(i:Int)=(k:Int);exact OX q (λu1=>Iv.mp u1.symm)),C2]
      . have:=lg2 k hk;rw[Tz ep,B8];by_cases q:k=i
        . subst q;rw[AEv rfl,AEv rfl];change k3.length<=_+(_+1);exact Ah l3 (J3.mpr this)
        . rw[AEu q];omega
  . intro σ H2 hI;obtain⟨o4,o5,gk',rfl,s2,gr2,lg2⟩:_:=hI;rw[lx,Ed (Ak _)]at gr2;refine k H2 bt gk' (λb o nb e=>s2 _ _ (λz=>nb (.inr z)) (s1 b o (λz=>nb (.inl z)) e)) (jr1.cx s2 (λb⟨i,hi,z⟩=>.inr ?_) (λb⟨i,hi,z⟩=>by rw[z];exact(apt i hi).1) λ⟨i,hi,z⟩=>(apt i hi).2 z) (gr2.zi λi hi=>?_) br1
    . obtain⟨_,_,_,g⟩:_:=gr1.jo i hi;exact⟨_,by rw[z];exact g.aj.ai⟩
    . obtain⟨s,es,_,_,_,_,ib⟩:_:=tel hi;rw[Iy es,Iy es,ib,Nc es]
def Eh(ss:List AU)(D:Int)(sd:Nat->List AO×List AO)(i:Nat):List AO×List AO:=match ss[i]? with|AA (.join _ _ _ J)=>(ES (D-J) (sd i).1,ES (D-J) (sd i).2)|_=>sd i
theorem Q1(e:ss[i]?=AA (.join n a b wi)):Eh ss D sd i=(ES (D-wi) (sd i).1,ES (D-wi) (sd i).2):=by unfold Eh;rw[e]
def nI(B:CF):BO:=λC H Q _=>(KG λ(W:AE)(J:List AU)(D:List (AK×AD))(Y:Nat->D8)(Z:Nat->List AO×List AO)(U:Int)=>JV (C=[.ref W,.int U]) (H W=AA (.dK D)) (Jb J J.length Y D) (CY B [] H J W D Y Z) ((∀i,Bq J i->(Z i).1.length<=1000/\(Z i).2.length<=1000)) (∀A,Ba (DR J Y) H A->CY B [] A J W D Y (Eh J U Z)->Q .non A))
theorem jZ(T:BQ AH Ag AM):T.qu.Ok BM P w Ag base 4 (nI AM):=by
  show T.qu.ok λM _ _ _ _ _ hr H vs Q E h=>?_;obtain⟨J,R,D,W,O,C,rfl,f,jk,s,ln,k⟩:_:=h;show⟨_,(Ac (LY (C8 DF rfl (vH (AB 0) rfl rfl) (CO 2 M) (Ac (D1 (GV (AB 2) T.cv (kL T) hr #v[AB 1])))))),?_⟩;show⟨J,(λo u z=>by rw[f]at z;cases z),J,D,rfl,f,λo H1 e1=>?_⟩;subst e1;have B:∀b,b≠J->(AQ H J (.frz o (.dK D))) b=H b:=λb Y=>AX Y;have I:=s.jq (.inr ⟨o,Af⟩) B;have F:(AQ H J _) J=AA (.frz o (.dK D)):=Af;generalize AQ H J _=H1 at B I F⊢;show sS (λn X L=>∃x:Option AD,X=[AA (.ref J),AA (.int C),x]/\L J=AA _/\Ba (DR R W) H1 L/\CY AM [] L R J D W λi=>if(.inl (i:Int):AK)∈(D.take n).map (·.1)then Eh R C O i else O i) ⟨AG,rfl,F,λb o _ e=>e,I⟩ (λn X L _ hh=>by obtain⟨_,_,e,_⟩:=hh;show e) ?_ ?_
  . intro n p X H2 l g;lk;obtain⟨x,rfl,Z,s2,U⟩:=g;obtain⟨i,_,⟨m,a,b,S,A⟩,rfl⟩:=jk.rh p (Cg l);have t:(.inl (i:Int):AK)∉(D.take n).map (·.1):=λhm=>by
      rw[cL]at hm;obtain⟨j,hj,e⟩:=FN.mp hm;rw[El]at hj;rw[NK]at e;have e2:(D.map (·.1))[n]?=AA (.inl (i:Int)):=by rw[Bs,l];rfl
      obtain⟨h2,g2⟩:=BU.mp e2;show(Gq.mp jk.nd) j n _ h2 (Bh hj (J5 _ _)) (e.trans g2.symm)
    have r:=(U.dc i m a b S A).2;rw[AEu t]at r;obtain⟨d,eo⟩:=r.cg;obtain⟨l0,l1⟩:=ln i ⟨_,_,_,_,A⟩;k_in;have G:Bq R i:=⟨_,_,_,_,A⟩;show⟨(W i).j,d,_,rfl,eo,by rfl,[],(W i).j,(W i).sl,(W i).x0,(W i).x1,(W i).d0,(W i).d1,S,C,(O i).1,(O i).2,rfl,r,(λc hc=>by cases hc),l0,l1,λH3 y j3=>?_⟩;have M:=s.uw i G;show⟨_,rfl,y _ _ M.1 M.2 Z,λb o Y e=>y _ _ (λz=>Y ⟨i,G,.inl z⟩) (λz=>Y ⟨i,G,.inr z⟩) (s2 b o Y e),(U.iq A y j3).cu λi' hi'=>?_⟩;have tk:(D.take (n+1)).map (·.1)=(D.take n).map (·.1)++[.inl (i:Int)]:=by rw[Dt,l,CQ];rfl
    rw[tk];by_cases q:i'=i;. subst q;rw[AEv rfl,AEv (Fj _ (.head _)),Q1 A]
    . rw[AEu q];by_cases N:(.inl (i':Int):AK)∈(D.take n).map (·.1);.rw[AEv N,AEv (Ic _ N)]
      .rw[AEu N,AEu λz=>(DS.mp z).elim N λz=>q (by have:=Fq (By.mp z);show Iv.mp this)]
  . intro X H2 g;obtain⟨x,rfl,Z,s2,U⟩:_:=g;rw[Ed (Ak _)]at U;show⟨o,_,Z,k _ (λb ob Y e=>?_) ((U.jq (.inl Af) λb Y=>AX Y).cu λi G=>?_)⟩
    . by_cases q:b=J
      . rw[q,f]at e;cases e;rw[q];show Af
      . rw[AX q];show s2 b ob Y (by rw[B b q];show e)
    . lk;obtain⟨m,a,b,S,A⟩:=G;obtain⟨v,_⟩:=s.dc i m a b S A;k_in;rw[AEv (BE.mpr ⟨_,FD v,rfl⟩)]
abbrev Dx:=Nat×AF×AV
def EF(q:Dx):List AK:=[.inl q.2.2.2.1,.inl (q.1:Int),.inr q.2.1,.inl q.2.2.1]
def Gw(ss:List AU)(H:AI)(x:AD)(q:Dx):Prop:=∃(a r:AE)(s:AU),ss[q.1]?=AA s/\x=.ref a/\H a=AA (.tup ((EF q).map Aw++[.ref r]))/\H r=AA (.tup ((Mr s q.2.1 q.2.2).map Aw))
theorem Fv(h:Az (Gw ss H) xs D)(t:Bc H H'):Az (Gw ss H') xs D:=Ej (λ_ _ Y=>by obtain⟨a,r,s,J,e,U,W⟩:=Y;show⟨a,r,s,J,e,t _ _ U,t _ _ W⟩) h
theorem m6{ys:List AD}{R:List Z}(h:Az F ys R){W:List (AD×List AK)}(p:W.Perm (ys.zip (R.map key))):∃J,J.Perm R/\Az F (W.map (·.1)) J/\J.map key=W.map (·.2):=by
 lk;obtain⟨L,E⟩:=CN h;have G:Az (λ(m)(q)=>F q.1 m/\key m=q.2) R (ys.zip (R.map key)):=by show GY (by simp_all) λi m q D U=>?_;obtain⟨Y,A⟩:=MR.mp U;rw[Bs,D]at A;show⟨E i _ m Y D,B9 A⟩
 obtain⟨J,H,I⟩:=Pw p G;obtain⟨C,B⟩:=CN I;k_in;show⟨J,H,GY (by rw[As,C]) λi v m D U=>?_,?_⟩
 . rw[Bs]at D;obtain⟨q,Y,rfl⟩:_:=Du.mp D;show(B i m q U Y).1
 . show yK λi=>?_;rw[Bs,Bs];cases D:J[i]? with|none=>rw[yN (by rw[<-C];show V0.mp D)];rfl|some m=>have K:=(BU.mp D).1;have U:=CG (show i<W.length by simp_all);rw[U];show AEw _ (B i m _ D U).2
theorem m7{J:List Y}(O:sh≠[])(N:∀x q,F x q->(∃a r,x=.ref a/\H a=AA (.tup ((key q).map Aw++[.ref r])))/\(key q).map Cz=sh)(h:Az F xs J)(S:(J.map key).Nodup):∃D:List Ho,D.map IW=J.map key/\Ri AH H xs D sh:=by
 have R:∀{xs:List AD}{J:List Y},Az F xs J->∃D:List Ho,D.map IW=J.map key/\D.map (·.1)=J.map key/\Az (λx(d:Ho)=>(∃a,x=.ref a/\Cm AH H a (d.1.map Aw++d.2.1.map AD.ref))/\d.1.map Cz=sh) xs D:=by intro xs J h;induction h with |nil=>show⟨[],rfl,rfl,.nil⟩|@cons x q _ _ A _ P=> obtain⟨D,e,Z,p⟩:=P;obtain⟨⟨a,r,G,W⟩,U⟩:=N x q A;show⟨(key q,[r],[])::D,by rw[FL,FL,e];change(key q++[])::_=_;rw[C2],by rw[FL,FL,Z],.cons ⟨⟨a,G,Ao W⟩,U⟩ p⟩
 obtain⟨D,e,Z,p⟩:_:=R h;show⟨D,e,O,p,λi j d E W U I=>.inl ?_⟩;have B:(D.map (·.1))[i]?=AA d.1:=by rw[Bs,W];rfl
 have C:(D.map (·.1))[j]?=AA E.1:=by rw[Bs,U];rfl
 rw[Z]at B C;lk;obtain⟨A,L⟩:=BU.mp B;obtain⟨T,M⟩:=BU.mp C;k_in;have Q:i=j:=(yO S).mp (by rw[L,M,I]);subst Q;rw[W]at U;cases U;show⟨rfl,rfl⟩
theorem T5(h:Az (Gw ss H) xs D)(Y:(D.map EF).Nodup):∃J:List Ho,J.map IW=D.map EF/\Ri AH H xs J [AJ,AJ,AR,AJ]:=m7 (by decide) (λx q W=>by obtain⟨a,r,s,Z,e,U,A⟩:=W;show⟨⟨a,r,e,U⟩,rfl⟩) h Y
theorem Yo(h:Az F ys R){J:List (AD×List AK)}(p:J.Perm (ys.zip (R.map EF))):∃D,D.Perm R/\Az F (J.map (·.1)) D/\D.map EF=J.map (·.2):=m6 h p
theorem PX{J Y:Type}{f:J->Y}{l:List Y}{m:List J}(p:l.Perm (m.map f)):∃D:List J,D.Perm m/\l=D.map f:=by
 have V:Az _ m (m.map f):=GY (by rw[As]) λi a b Z U=>by rw[Bs,Z]at U;show(B9 U).symm
 obtain⟨D,W,B⟩:_:=Pw p V;show⟨D,W,?_⟩;clear p V W;induction B with|nil=>rfl|cons h _ A=>rw[h,FL,<-A]
theorem Ug(h:∀z,(g z).length<=n):∀ks:List AF,(CV g ks).length<=n*ks.length|[]=>BY _|z::ks=>by have:=Ug h ks;have D:=h z;change((g z).map _++CV g ks).length<=n*(ks.length+1);rw[B8,As];lia
theorem MA:D∈CV g ks↔D.1∈ks/\D.2∈g D.1:=by
 unfold CV;rw[V4];constructor
 . intro V;lk;obtain⟨z,Y,h⟩:=V;obtain⟨p,W,rfl⟩:=BE.mp h;k_in;show⟨Y,W⟩
 . rintro⟨J,U⟩;show⟨_,J,BE.mpr ⟨_,U,rfl⟩⟩
theorem Uh(D:∀z,FR (g z)):∀{ks:List AF},ks.Nodup->((CV g ks).map λJ=>(J.1,J.2.1)).Nodup
 |[],_=>.nil|z::ks,h=>by
  obtain⟨U,V⟩:=IE.mp h;change(((g z).map _++CV g ks).map _).Nodup;rw[CQ];show cO.mpr ⟨?_,Uh D V,λa W b Y e=>?_⟩;. rw[Cu];show Eb.mpr ((D z).imp λ{a b}q e=>by simp_all)
  . subst e;obtain⟨x,Z,rfl⟩:=BE.mp W;obtain⟨y,A,e⟩:=BE.mp Y;obtain⟨p,_,rfl⟩:=BE.mp Z;have:=(MA.mp A).1;rw[(WH e).1]at this;show U this
theorem lX(h:FR l):FR (Fd D l):=by cases D with|none=>show h|some n=>show h.sublist Jz
theorem lV:(Fd D l).length<=l.length:=by cases D with|none=>show Ak _|some n=>show D3 _ _
def nF(I:CF):BO:=λK H Q _=>(Qw λ(F:List AE)(B:AE)(J:List AU)(D:List (AK×AD))(C:Nat->FZ)(Y:Nat->AF->List AV)(G:Nat->List (AK×AD))(U:Option Int)=>Qq (K=[.ref B,HH U]) (H B=AA (.dK D)) (ED J) (J.length<=8) (D.length<=8) (K9 (Al J) C D) (DO I F H J (Al J) B D C Y G) ((∀c∈F,∃E,H c=AA (.lst E))) ((∀i∈Al J,(G i).length<=600)) ((∀i∈Al J,∀z,FR (Y i z)/\(Y i z).length<=3000)) (∀W r E A Z,Ba (λb=>∃i∈Al J,b=(C i).d) H W->DO I F W J (Al J) B D C (λi z=>DU U (Y i z)) Z->(∀i∈Al J,(Z i).length<=(G i).length)->H r=AG->W r=AA (.lst E)->Az (Gw J W) E A->(A.map EF).Nodup->Cs (A.map EF)->(∀q:Dx,q∈A↔q.1∈Al J/\q.2.2∈Fd U (Y q.1 q.2.1))->A.length<=14400000->Q (.ref r) W))
theorem jW(T:BQ AH Ag AM):T.vo.Ok BM P w Ag base 5 (nF AM):=by
  show T.vo.ok λnd _ _ _ _ _ hr H vs Q E h=>?_;obtain⟨ex,dg,ss,gkvs,gd,gg,gk,now,rfl,eg,pok,lss,lkv,gks,gr,hex,lgk,lgg,k⟩:_:=h;show⟨_,(Bv (BC 2 nd (CW Dq)) (Bv (LY (C8 DF rfl (VZ (AB 0) rfl rfl) (Jk rfl (EB (CO 3 nd) (EB (CO 4 nd) JJ))) (Ac (D1 (Kr (K:=AH) Lf OZ QN M8 (AB 2) #v[(Hx (DC Yc) [("place",3)] ⟨rfl,rfl,trivial⟩ (Cn (K:=AH) (GV (AB 4) T.aw (jV T) hr #v[AB 1])) (λ_ _ _ _=>Hy) (λ_ _ _ _=>(CP #v[Av AH (AB 0) AN,AB 1,Av AH (AB 0) AN,Av AH (AB 0) AN,AB 0])))]))))) (Ac (BI (DE (U4 (K:=AH) hr) (by rfl) T.cy J6 #v[AB 2]))))),?_⟩;have sz:Ay=16777216:=DW;showλ_ _ _ _ z1=>⟨BY _,λtl htl=>z1 _ _ ?_⟩;show BA (o:=.lst []) htl λH0 s0 et0=>?_;have gr0:=(gr.gv htl).af s0;have eg0:=s0 _ _ eg;showλ_ _ _ _ z2=>⟨dg,(λo u z=>by rw[eg0]at z;cases z),dg,gkvs,rfl,eg0,λo H1 e1=>?_⟩;subst e1;have ndt:tl≠dg:=λz=>by rw[z,eg]at htl;cases htl
  have ne1:∀b,b≠dg->(AQ H0 dg (.frz o (.dK gkvs))) b=H0 b:=λb nb=>AX nb;have gr1:=gr0.jq (.inr ⟨o,Af⟩) ne1;have ed1:(AQ H0 dg (.frz o (.dK gkvs))) dg=AA (.frz o (.dK gkvs)):=Af;have et1:(AQ H0 dg (.frz o (.dK gkvs))) tl=AA (.lst []):=by rw[AX ndt];show et0
  generalize AQ H0 dg (.frz o (.dK gkvs))=H1 at ne1 gr1 ed1 et1⊢;show U9 (kvs:=gkvs) (λn σ H'=>(IM λ(o3 o4:Option AD)(acc:List AD)(qs:List Dx)(gk':Nat->List (AK×AD))=>TJ (σ=(gN dg (AA (HH now)) tl o3 o4)) (H' dg=AA (.frz o (.dK gkvs))) (Ba (λb=>b=tl\/∃i∈Al ss,b=(gd i).d) H1 H') (DO AM (tl::ex) H' ss (Al ss) dg gkvs gd (λi z=>if(.inl (i:Int):AK)∈(gkvs.take n).map (·.1)then DU now (gg i z)else gg i z) gk') ((∀i∈Al ss,(gk' i).length<=(gk i).length)) (H' tl=AA (.lst acc)) (Az (Gw ss H') acc qs) ((qs.map EF).Nodup) ((∀q:Dx,q∈qs↔(.inl (q.1:Int):AK)∈(gkvs.take n).map (·.1)/\q.2.2∈Fd now (gg q.1 q.2.1))) (qs.length<=1800000*n))) ⟨AG,AG,[],[],gk,rfl,ed1,λb o _ e=>e,gr1,λi _=>Ak _,et1,.nil,.nil,λq=>⟨λh=>(by cases h),λh=>(by cases h.1)⟩,BY _⟩ (λn σ H' _ hh=>by obtain⟨_,_,_,_,_,_,e,_⟩:=hh;show e) ?_ ?_
  . intro n p σ H2' rp hp hI hrp;lk;obtain⟨o3,o4,acc,qs,gk',rfl,ed2',s2',gr2',lg2,et2',mk2',nd2,mm2,lq2⟩:=hI;obtain⟨i,hi,rfl⟩:=gks.rh p (Cg hp);k_in;show BA (o:=.tup [Aw (.inl (i:Int)),.ref (gd i).x]) hrp λH2 g2 erp=>?_;show⟨rp,_,rfl,Ao erp,rfl,_,_,rfl,_,_,rfl,rfl,?_⟩;have ed2:=g2 _ _ ed2';have gr2:=gr2'.af g2;have et2:=g2 _ _ et2';have mk2:=Fv mk2' g2.tp;have s2:Ba (λb=>b=tl\/∃i∈Al ss,b=(gd i).d) H1 H2:=λb o nb e=>g2 _ _ (s2' b o nb e);have hn:n<gkvs.length:=(BU.mp hp).1;have new:(.inl (i:Int):AK)∉(gkvs.take n).map (·.1):=λhm=>by
      rw[cL]at hm;obtain⟨j,hj,e⟩:=FN.mp hm;rw[El]at hj;rw[NK]at e;have e2:(gkvs.map (·.1))[n]?=AA (.inl (i:Int)):=by rw[Bs,hp];rfl
      obtain⟨h2,q2⟩:=BU.mp e2;show(Gq.mp gks.nd) j n (Bh hj (QF _ _)) h2 (Bh hj (J5 _ _)) (e.trans q2.symm)
    have tk:(gkvs.take (n+1)).map (·.1)=(gkvs.take n).map (·.1)++[.inl (i:Int)]:=by rw[Dt,hp,CQ];rfl
    lk;obtain⟨st,es,ht⟩:=Kb.mp hi;obtain⟨tok,hso,_⟩:=pok.gm es ht;obtain⟨st',es',v,g⟩:=gr2.jo i hi;rw[es]at es';cases es';have gi:(λz=>if(.inl (i:Int):AK)∈(gkvs.take n).map (·.1)then DU now (gg i z)else gg i z)=gg i:=funext λz=>AEu new;rw[gi]at g;have hex2:∀c∈tl::ex,∃o,H2 c=AA o:=λc hc=>by
      rcases Ca.mp hc with rfl|hc;.show⟨_,et2⟩
      . obtain⟨xs,ec⟩:=hex c hc;have nd:c≠dg:=λz=>by rw[z,eg]at ec;cases ec
        show⟨_,s2 c _ (λz=>?_) (by rw[ne1 c nd];show s0 _ _ ec)⟩;rcases z with z|⟨j,hj,z⟩;.rw[z,htl]at ec;cases ec
        . obtain⟨_,_,_,gj⟩:=gr.jo j hj;have:=gj.aj.ai;rw[<-z,ec]at this;cases this
    obtain⟨dx,eo⟩:=g.cg;k_in;have l1:=lg2 i hi;have l2:=lgk i hi;show⟨.inl ⟨rfl,_,AW et2⟩,(gd i).x,dx,_,rfl,eo,by rfl,tl::ex,(gd i).x,(gd i).p,(gd i).d,st,gg i,gk' i,now,rfl,g,hex2,tok,hso,Ah l1 (Ah l2 (by decide)),(λz=>Ah (lgg i hi z).2 (by decide)),λH3 r xs kss k3 ks s3 g3 hr3 er3 hw3 pm3 _ kn km l3 lke=>⟨r,rfl,⟨_,AW er3⟩,?_⟩⟩;obtain⟨M,pM,rfl⟩:_:=PX pm3;have g3:=g3.iz;have gr3:=gr2.iq hi es s3 g3;have ntd:tl≠(gd i).d:=λz=>by rw[z,g.aj.ai]at et2;cases et2
    have et3:=s3 _ _ ntd et2;have tp3:Bc H2 H3:=s3.tp g.aj.ai (by intro xs z;cases z);have mk3:=Fv mk2 tp3;have lM:M.length<=1800000:=by rw[pM.length_eq];have:=Ug (g:=λz=>Fd now (gg i z)) (n:=3000) (λz=>Ah lV (lgg i hi z).2) ks;lia
    have lx:=hw3.de;rw[As]at lx;have lacc:=(CN mk3).1;show Jo (K:=AH) (xs:=xs) (λj τ acc' H'=>(∃o,τ=[o,AA (.int (i:Int))])/\An H3 H'/\Az (Gw ss H') acc' ((M.take j).map λkp=>(i,kp.1,kp.2))) (by lia) ⟨⟨AG,rfl⟩,C6 _,.nil⟩ (λj τ acc' H'⟨_,s',_⟩=>AW (s' _ _ er3)) ?_ ?_
    . intro j y τ acc' H5 R1 hy _ hI k1;lk;obtain⟨⟨o,rfl⟩,s5,mk5⟩:=hI;obtain⟨a,row,rfl,er,ea⟩:=hw3.at hy;rw[Bs]at er;obtain⟨kp,ekp,rfl⟩:=Du.mp er;k_in;have ea5:=s5 _ _ ea;show⟨_,_,Ao ea5,Aj (j:=3) rfl,_,_,Ao ea5,Aj (j:=1) rfl,_,_,Ao ea5,Aj (j:=2) rfl,CB rfl,λm hm=>k1 _ _ _ ⟨⟨_,rfl⟩,s5.du hm,?_⟩⟩;have sm:=CL (o:=.tup [.int kp.2.2.1,.int (i:Int),.str kp.1,.int kp.2.1,.ref a]) hm;rw[Dt,ekp,CQ];show Dh (Fv mk5 sm.tp) (.cons ⟨m,a,st,es,rfl,Af,sm _ _ ea5⟩ .nil)
    . intro τ acc' H5 _ hI D hD;obtain⟨_,s5,mk5⟩:_:=hI;rw[Ed (Bw lx.symm)]at mk5;have lacc':=(CN mk5).1;rw[As]at lacc';show BA hD λH6 s6 eD=>?_;have s36:=s5.aa s6;have et6:=s36 _ _ et3;show⟨tl,D,_,_,rfl,rfl,et6,eD,by lia,?_⟩;have tp6:Bc H6 (AQ H6 tl (.lst (acc++acc'))):=(IU H6).du et6 λxs=>by intro z;cases z
      have ndg:dg≠(gd i).d:=gr.md i hi;have gr6:=(gr3.af s36).cx (q:=(.=tl)) (H':=AQ H6 tl (.lst (acc++acc'))) zzu (λb hb=>.inl ⟨by rw[hb];show .head _,acc,by rw[hb];show et6⟩) (λk hk z=>by obtain⟨_,_,_,gg'⟩:=(gr3.af s36).jo k hk;have:=gg'.aj.ai;rw[z,et6]at this;cases this) ndt.symm;show⟨_,_,acc++acc',qs++M.map (λkp=>(i,kp.1,kp.2)),_,rfl,?_,λb o nb e=>?_,gr6.zi λk hk=>?_,λk hk=>?_,Af,?_,?_,λq=>?_,?_⟩
      . rw[AX ndt.symm];show s36 _ _ (s3 _ _ ndg ed2)
      . rw[AX λz=>nb (.inl z)];show s36 _ _ (s3 _ _ (λz=>nb (.inr ⟨i,hi,z⟩)) (s2 b o nb e))
      . rw[tk];by_cases q:k=i
        . subst q;rw[AEv rfl];funext z;show AEv (Fj _ (.head _))
        . rw[AEu q];funext z;by_cases q2:(.inl (k:Int):AK)∈(gkvs.take n).map (·.1);.rw[AEv q2,AEv (Ic _ q2)]
          .rw[AEu q2,AEu λz=>(DS.mp z).elim q2 λz=>q (by have:=Fq (By.mp z);show Iv.mp this)]
      . by_cases q:k=i;. subst q;rw[AEv rfl];show Ah l3 l1
        . rw[AEu q];show lg2 k hk
      .show Dh (Fv mk3 λb ys e=>tp6 _ _ (s36 _ _ e)) (Fv mk5 λb ys e=>tp6 _ _ (s6 _ _ e))
      . rw[CQ,Cu];show cO.mpr ⟨nd2,?_,λa ha b hb e=>?_⟩
        . have h1:=Uh (g:=λz=>Fd now (gg i z)) (λz=>lX (lgg i hi z).1) kn;have h2:=(pM.map λkp=>(kp.1,kp.2.1)).nodup_iff.mpr h1;show Eb.mpr ((Eb.mp h2).imp λ{a b}h e=>h (NO (Ft (C9 (C9 (C9 e).2).2).1) (Fq (C9 (C9 (C9 (C9 e).2).2).2).1)))
        . subst e;lk;obtain⟨x,hx,rfl⟩:=BE.mp ha;obtain⟨y,hy,e⟩:=BE.mp hb;k_in;have d1:(i:Int)=(x.1:Int):=Fq (C9 (C9 e).2).1;have:=((mm2 x).mp hx).1;rw[<-d1]at this;show new this
      . rw[DS,mm2,tk,DS,By];constructor
        . rintro(⟨h1,h2⟩|h);.show⟨.inl h1,h2⟩
          . obtain⟨kp,hk,rfl⟩:_:=BE.mp h;show⟨.inr rfl,(MA.mp (pM.mem_iff.mp hk)).2⟩
        . rintro⟨h1|h1,h2⟩;.show .inl ⟨h1,h2⟩
          . have e:q.1=i:=by have:=Fq h1;lia
            rw[e]at h2;show .inr (BE.mpr ⟨(q.2.1,q.2.2),pM.mem_iff.mpr (MA.mpr ⟨km _ λz=>?_,h2⟩),by rw[<-e]⟩);have h2:q.2.2∈Fd now (gg i q.2.1):=h2;rw[z]at h2;cases now<;>cases h2
      . rw[B8,As];lia
  . intro σ H2 hI;obtain⟨o3,o4,acc,qs,gk',rfl,ed2,s2,gr2,lg2,et2,mk2,nd2,mm2,lq2⟩:_:=hI;rw[Ed (Ak _)]at gr2 mm2;have inn:∀{i:Nat},i∈Al ss↔(.inl (i:Int):AK)∈gkvs.map (·.1):=λ{i}=>by
      constructor
      . intro hi;obtain⟨_,_,v,_⟩:=gr.jo i hi;show BE.mpr ⟨_,FD v,rfl⟩
      . intro h;obtain⟨p,hp,e⟩:=BE.mp h;obtain⟨j,hj,rfl⟩:=gks.rh p hp;have:(j:Int)=(i:Int):=Fq e;have:j=i:=by lia
        rw[<-this];show hj
    show⟨o,_,ed2,z2 _ _ ?_⟩;have ne3:∀b,b≠dg->(AQ H2 dg (.dK gkvs)) b=H2 b:=λb nb=>AX nb;have gr3:=(gr2.jq (.inl Af) ne3).zi (gg':=λi z=>DU now (gg i z)) λi hi=>funext λz=>(AEv (inn.mp hi)).symm;have et3:(AQ H2 dg (.dK gkvs)) tl=AA (.lst acc):=by rw[ne3 _ ndt];show et2
    have tp3:Bc H2 (AQ H2 dg (.dK gkvs)):=λb xs e=>by rw[ne3 b λz=>by rw[z,ed2]at e;cases e];show e
    have mk3:=Fv mk2 tp3;have s3:Ba (λb=>b=tl\/∃i∈Al ss,b=(gd i).d) H0 (AQ H2 dg (.dK gkvs)):=λb ob nb e=>by
      by_cases q:b=dg
      . rw[q,eg0]at e;cases e;rw[q];show Af
      . rw[ne3 b q];show s2 b ob nb (by rw[ne1 b q];show e)
    generalize AQ H2 dg (.dK gkvs)=H3 at ne3 gr3 et3 mk3 s3⊢;obtain⟨ds,ed,sn⟩:_:=T5 mk3 nd2;show⟨tl,acc,ds,_,rfl,AW et3,sn,λl qq hl pq sq=>?_⟩;rw[ed]at pq;obtain⟨R',p1,w1,e1⟩:_:=Yo mk3 pq;have s4:=CL (o:=.lst (qq.map (·.1))) hl;have hlH:H l=AG:=by cases q:H l with|none=>rfl|some ob=>
        have q0:=s0 _ _ q;by_cases z:l=tl\/∃i∈Al ss,l=(gd i).d
        . rcases z with z|⟨i,hi,z⟩;.rw[z,et3]at hl;cases hl
          . obtain⟨_,_,_,g⟩:=gr3.jo i hi;have:=g.aj.ai;rw[<-z,hl]at this;cases this
        . rw[s3 l ob z q0]at hl;cases hl
    have lr:=p1.length_eq;show k _ l _ R' gk' (λb ob nb e=>s4 _ _ (s3 b ob (λz=>z.elim (λz=>by rw[z,htl]at e;cases e) nb) (s0 _ _ e))) (gr3.iz.af s4) lg2 hlH Af (Fv w1 s4.tp) ((p1.map EF).nodup_iff.mpr nd2) (by change ABa _ _;rw[e1];show sq) (λq=>?_) (by lia);rw[p1.mem_iff,mm2,<-inn]
structure Ln where
 lp:AE
 ps:List AD
 dj:AE
 cp:List (AK×AD)jd:Nat->D8
 dg:AE
 ax:List (AK×AD)gd:Nat->FZ
structure JZ(ad:CF)(ex:List AE)(H:AI)(ss:List AU)(A:Ln)(sd:Nat->List AO×List AO)(gg:Nat->AF->List AV)(gk:Nat->List (AK×AD)):Prop where
 qm:H A.lp=AA (.lst A.ps)si:EW H A.ps ss
 di:H A.dj=AA (.dK A.cp)tw:Jb ss ss.length A.jd A.cp
 cb:CY ad ex H ss A.dj A.cp A.jd sd
 bh:H A.dg=AA (.dK A.ax)uf:A.ax.length<=8
 ue:K9 (Al ss) A.gd A.ax
 bw:DO ad ex H ss (Al ss) A.dg A.ax A.gd gg gk
 xc:∀i∈Al ss,¬DR ss A.jd (A.gd i).d/\A.dj≠(A.gd i).d
 md:¬DR ss A.jd A.dg
theorem RP(s:BV x H H')(Z:H x=AA (.ins C Y J))(e:H b=AA o)(n:∀W D U,o=.ins W D U->J.map (·.1)≠U.map (·.1)):H' b=AA o:=s _ _ (λz=>by rw[z,Z]at e;show n _ _ _ (B9 e).symm rfl) e
theorem CY.cg{K:AE}(h:CY AM ex H ss I J N sd)(s:BV x H H')(W:H x=AA (.ins C K U))(S:U.map (·.1)≠(["within","sides"]:List AF))(T:U.map (·.1)≠(["rows"]:List AF)):CY AM ex H' ss I J N sd:=by
 have Y:∀{b:AE}{o:Bn},H b=AA o->(∀A D G,o≠.ins A D G)->H' b=AA o:=λe n=>RP s W e λA D G z=>absurd z (n _ _ _);have g:Bc H H':=λb j e=>Y e (by intro _ _ _ z;cases z);have O:∀{Z E:AE}{B:List AO},Cb AM ex H Z E B->Cb AM ex H' Z E B:=λ{Z E B}r=>by
  obtain⟨D,e⟩:=r.cg;have c:Z≠x:=λz=>by rw[z,W]at e;have:=B9 e;injection this with _ _ q;show T (by rw[q];rfl)
  show r.ab (λC K U e=>s _ _ c e) (λR e=>Y e (by intro _ _ _ z;cases z)) (λb j _ e=>Y e (by intro _ _ _ z;cases z)) g
 show⟨KY h.ai λo e=>RP s W e λA D G z=>?_,λi n a b P L=>⟨(h.dc i n a b P L).1,?_⟩,h.bb,h.uw⟩;.rcases h.ai with M|⟨k,M⟩<;>(rw[M]at e;rw[<-B9 e]at z;cases z)
 . obtain⟨⟨D,F⟩,Q,f,r1,d,X⟩:_:=(h.dc i n a b P L).2;show⟨⟨D,s _ _ (λz=>?_) F⟩,Y Q (by intro _ _ _ z;cases z),O f,O r1,d,X⟩;rw[z,W]at F;have:=B9 F;injection this with _ _ q;show S (by rw[q];rfl)
theorem DO.cg{K:List Nat}(h:DO AM ex H ss K B J F gg gk)(s:BV x H H')(Z:H x=AA (.ins C L E))(O:E.map (·.1)≠(["step","rows"]:List AF)):DO AM ex H' ss K B J F gg gk:=by
 have A:∀{b:AE}{o:Bn},H b=AA o->(∀U D Y,o≠.ins U D Y)->H' b=AA o:=λe n=>RP s Z e λU D Y z=>absurd z (n _ _ _);have I:Bc H H':=λb Q e=>A e (by intro _ _ _ z;cases z);show⟨KY h.ai λo e=>RP s Z e λU D Y z=>?_,λi N=>?_,h.bb,h.md⟩;.rcases h.ai with G|⟨R,G⟩<;>(rw[G]at e;rw[<-B9 e]at z;cases z)
 . obtain⟨P,e,v,⟨D,W⟩,M,r⟩:_:=h.jo i N;show⟨P,e,v,⟨D,s _ _ (λz=>?_) W⟩,M.tp I,r.ab (A r.ai (by intro _ _ _ z;cases z)) (λb Q _ e=>A e (by intro _ _ _ z;cases z)) I⟩;rw[z,Z]at W;have:=B9 W;injection this with _ _ q;show O (by rw[q];rfl)
theorem JZ.qo(h:JZ AM ex H ss A sd gg gk)(D:Hi ss A.jd A.gd b):∃kvs,H b=AA (.dK kvs):=by
 rcases D with D|⟨i,J,z⟩;.show h.cb.tj D
 . obtain⟨_,_,_,g⟩:_:=h.bw.jo i J;show⟨_,by rw[z];show g.aj.ai⟩
theorem JZ.kp(h:JZ AM ex H ss A sd gg gk)(s:Ba (Hi ss A.jd A.gd) H H')(e:H b=AA o)(n:∀kvs,o≠.dK kvs):H' b=AA o:=s _ _ (λz=>by obtain⟨kvs,D⟩:=h.qo z;rw[e]at D;show n _ (B9 D)) e
theorem JZ.xv(h:JZ AM ex H ss A sd gg gk)(s:Ba (Hi ss A.jd A.gd) H H')(W:CY AM ex H' ss A.dj A.cp A.jd sd')(U:DO AM ex H' ss (Al ss) A.dg A.ax A.gd gg' gk'):JZ AM ex H' ss A sd' gg' gk':=⟨h.kp s h.qm (by intro J z;cases z),h.si.ab λb Y e=>h.kp s e (by intro J z;cases z),s _ _ (λz=>z.elim (λ⟨i,D,z⟩=>z.elim (h.cb.uw i D).1 (h.cb.uw i D).2) λ⟨i,D,z⟩=>(h.xc i D).2 z) h.di,h.tw,W,s _ _ (λz=>z.elim h.md λ⟨i,D,z⟩=>h.bw.md i D z) h.bh,h.uf,h.ue,U,h.xc,h.md⟩
theorem JZ.af(h:JZ AM ex H ss A sd gg gk)(s:An H H'):JZ AM ex H' ss A sd gg gk:=⟨s _ _ h.qm,h.si.ab s.tp,s _ _ h.di,h.tw,h.cb.af s,s _ _ h.bh,h.uf,h.ue,h.bw.af s,h.xc,h.md⟩
theorem JZ.zi(h:JZ AM ex H ss A sd gg gk)(e:∀i∈Al ss,gg' i=gg i):JZ AM ex H ss A sd gg' gk:=⟨h.qm,h.si,h.di,h.tw,h.cb,h.bh,h.uf,h.ue,h.bw.zi e,h.xc,h.md⟩
def Ap(z:AF)(l:List AO):List AO:=l.filter λi=>Aa (i.2.1=z)
theorem Ti:∀A:List AO,Ap z (EE wi A B)=EE wi (Ap z A) (Ap z B)
 |[]=>rfl|i::A=>by
  have D:=Ti (wi:=wi) (z:=z) (B:=B) A;unfold EE Ap at D⊢;rw[Ek,GZ,D,NJ];by_cases q:i.2.1=z
  . rw[Sb (p:=λi:AO=>Aa (i.2.1=z)) (AEx q),Ek];congr 1;rw[IC,IC];show AEw _ (IA λj _=>?_);change(Aa (i.2.1=z)&&PD wi i j)=(PD wi i j&&Aa _);rw[AEx q,Bool.true_and];cases h:PD wi i j with|false=>rfl|true=>rw[AEx ((AEy h).1.trans q)];rfl
  . rw[P9 (p:=λi:AO=>Aa (i.2.1=z)) (λh=>q (AEy h)),IC];have J:B.filter (λa=>((λi:AO=>Aa (i.2.1=z))∘T9 i) a&&PD wi i a)=[]:=IB.mpr λj _ h=>q (AEy (Wd.mp h).1);rw[J];rfl
theorem Nl[DecidableEq V]:∀{l m:List V},l.Nodup->(∀x∈l,x∈m)->l.length<=m.length|[],_,_,_=>BY _|x::l,m,h,D=>by obtain⟨W,Y⟩:=IE.mp h;have J:=D x (.head _);have:=Nl (m:=m.erase x) Y λy U=>(List.mem_erase_of_ne (λe=>W (by rw[<-e];show U))).mpr (D y (.tail _ U));rw[List.length_erase_of_mem J]at this;have:=cH J;change l.length+1<=m.length;lia
theorem mI(h:z∉l.map (·.2.1)):Hm z l=[]:=by unfold Hm;rw[IB.mpr λi D q=>h (BE.mpr ⟨i,D,AEy q⟩)];rfl
structure DJ extends Ln where x:AE
abbrev Lz(A:DJ):List (AF×AD):=[("plan",.ref A.lp),("joins",.ref A.dj),("groups",.ref A.dg)]
structure DK(ad:CF)(ex:List AE)(H:AI)(ss:List AU)(A:DJ)(sd:Nat->List AO×List AO)(gg:Nat->AF->List AV)(gk:Nat->List (AK×AD)):Prop extends JZ ad ex H ss A.toLn sd gg gk where cg:∃dx,H A.x=AA (.ins ad.bc dx (Lz A))
theorem DK.af(h:DK AM ex H ss A sd gg gk)(s:An H H'):DK AM ex H' ss A sd gg gk:=by obtain⟨D,ex⟩:=h.cg;show⟨h.toJZ.af s,D,s _ _ ex⟩
theorem DK.xv(h:DK AM ex H ss A sd gg gk)(s:Ba (Hi ss A.jd A.gd) H H')(U:CY AM ex H' ss A.dj A.cp A.jd sd')(J:DO AM ex H' ss (Al ss) A.dg A.ax A.gd gg' gk'):DK AM ex H' ss A sd' gg' gk':=by obtain⟨D,ex⟩:=h.cg;show⟨h.toJZ.xv s U J,D,h.kp s ex (by intro W z;cases z)⟩
theorem JZ.abx(h:JZ AM ex H ss A sd gg gk)(s:Ba p H H')(J:∀b,p b->∃kvs,H b=AA (.dK kvs))(n:∀b,p b->¬Hi ss A.jd A.gd b/\b≠A.dj/\b≠A.dg):JZ AM ex H' ss A sd gg gk:=by have W:∀{b:AE}{o:Bn},H b=AA o->(∀kvs,o≠.dK kvs)->H' b=AA o:=λ{b o}e n=>s _ _ (λz=>by obtain⟨kvs,U⟩:=J b z;rw[e]at U;show n _ (B9 U)) e;show⟨W h.qm (by intro kvs z;cases z),h.si.ab λb Z e=>W e (by intro kvs z;cases z),s _ _ (λz=>(n _ z).2.1 rfl) h.di,h.tw,h.cb.cx s (λb D=>.inr (J b D)) (λb D z=>(n b D).1 (.inl z)) (λz=>(n _ z).2.1 rfl),s _ _ (λz=>(n _ z).2.2 rfl) h.bh,h.uf,h.ue,h.bw.cx s (λb D=>.inr (J b D)) (λi Y z=>(n _ z).1 (.inr ⟨i,Y,rfl⟩)) (λz=>(n _ z).2.2 rfl),h.xc,h.md⟩
theorem DK.abx(h:DK AM ex H ss A sd gg gk)(s:Ba p H H')(J:∀b,p b->∃kvs,H b=AA (.dK kvs))(n:∀b,p b->¬Hi ss A.jd A.gd b/\b≠A.dj/\b≠A.dg):DK AM ex H' ss A sd gg gk:=by obtain⟨U,ex⟩:=h.cg;show⟨h.toJZ.abx s J n,U,s _ _ (λz=>?_) ex⟩;obtain⟨kvs,D⟩:=J _ z;rw[ex]at D;cases D
theorem PB:((["plan"]:List AF)≠(["within","sides"]:List AF)/\(["plan"]:List AF)≠(["rows"]:List AF))/\(["plan","joins"]:List AF)≠(["within","sides"]:List AF)/\(["plan","joins"]:List AF)≠(["rows"]:List AF)/\(["plan","joins"]:List AF)≠(["step","rows"]:List AF):=by decide+kernel
def nU(U:CF):BO:=λA H Q _=>(IM λ(x Z W:AE)(Y:List AD)(D:List AU)=>JV (A=[.ref x,.ref W]) (H x=AA (.ins U.bc Z [])) (H W=AA (.lst Y)) (EW H Y D) (D.length<=8) (∀J F,F.x=x->BV x H J->DK U [] J D F (λ_=>([],[])) (λ_ _=>[]) (λ_=>[])->(∀b,Hi D F.jd F.gd b\/b=F.dj\/b=F.dg->H b=AG)->H F.lp=AG->Q .non J))
theorem UC(T:BQ AH Ag AM):T.jf.Ok BM P w Ag base 6 (nU AM):=by
  show T.jf.ok λnd _ _ _ _ _ hr H vs Q E h=>?_;obtain⟨x,J,lp,ps,ss,rfl,R,U,pr,G,k⟩:_:=h;show⟨_,(Aq (L6 (AB 0) (LX (Rr (K:=AH)) (by rfl) T.jc NR #v[AB 1]) rfl) (Aq (L6 (AB 0) (BG (kO T) hr #v[AB 1]) rfl) (Ac (L6 (AB 0) (BG (kK T) hr #v[AB 1]) rfl)))),?_⟩;have p:lp≠x:=λz=>by rw[z,R]at U;cases U
  show⟨lp,ps,rfl,.inl (AW U),λl hl=>?_⟩;show BA hl λF g1 el=>?_;have S:=g1 _ _ R;have nl:l≠x:=λz=>by rw[z,S]at el;cases el
  show⟨x,_,J,[],rfl,S,T.ah,T.ku,by decide,?_⟩;have x4:BV x F (AQ F x (.ins AM.bc J [("plan",.ref l)])):=zzu
  have Y:(AQ F x _) x=AA (.ins AM.bc J [("plan",.ref l)]):=Af;have a:∀b,(AQ F x (.ins AM.bc J [("plan",.ref l)])) b=AG->F b=AG:=λb e=>L9 e;change bO _ _ _ _ (AQ F x (.ins AM.bc J [("plan",.ref l)]));generalize AQ F x _=H4 at x4 Y a⊢;have A:BV x H H4:=λb o D e=>x4 _ _ D (g1 _ _ e);have q:Bc H H4:=λb xs e=>A _ _ (λz=>by rw[z,R]at e;cases e) e;have W:=λb e=>g1.ba (a b e);show⟨lp,ps,ss,rfl,A _ _ p U,pr.ab q,Ah G (by decide),λI B j jd L hdj ej jks jr fj=>?_⟩;show⟨x,_,J,_,rfl,L _ _ Y,T.ah,T.av,(by change 1<1000;decide),?_⟩;have y:BV x I (AQ I x (.ins AM.bc J [("plan",.ref l),("joins",.ref B)])):=zzu
  have Z:(AQ I x (.ins AM.bc J [("plan",.ref l),("joins",.ref B)])) x=AA _:=Af;have c:∀b,(AQ I x (.ins AM.bc J [("plan",.ref l),("joins",.ref B)])) b=AG->I b=AG:=λb e=>L9 e;have epf:G5 "joins" (.ref B) ([("plan",.ref l)])=([("plan",.ref l),("joins",.ref B)]:List (AF×AD)):=rfl;rw[epf];generalize AQ I x _=H6 at y Z c⊢;have m:=jr.cg y (L _ _ Y) PB.1.1 PB.1.2;have t:BV x H H6:=λb o D e=>y _ _ D (L _ _ (A _ _ D e));have r:Bc H H6:=λb xs e=>t _ _ (λz=>by rw[z,R]at e;cases e) e;have C:=λb e=>W b (L.ba (c b e));show⟨lp,ps,ss,rfl,t _ _ p U,pr.ab r,Ah G (by decide),λH7 dg d gd M g eg lkg gks gr fg=>?_⟩;show⟨x,_,J,_,rfl,M _ _ Z,T.ah,T.aq,(by change 2<1000;decide),?_⟩;have x8:BV x H7 (AQ H7 x (.ins AM.bc J [("plan",.ref l),("joins",.ref B),("groups",.ref dg)])):=zzu
  have X:=M _ _ Z;have jr8:=(m.af M).cg x8 X PB.2.1 PB.2.2.1;have gr8:=gr.cg x8 X PB.2.2.2;have v:BV x H4 _:=λb o D e=>x8 _ _ D (M _ _ (y _ _ D (L _ _ e)));have u:BV x H _:=λb o D e=>v _ _ D (A _ _ D e);have s:Bc H _:=λb xs e=>u _ _ (λz=>by rw[z,R]at e;cases e) e;have n:B≠x:=λz=>by rw[z,L _ _ Y]at ej;cases ej
  have ngx:dg≠x:=λz=>by rw[z,M _ _ Z]at eg;cases eg
  have N:∀b,DR ss jd b->∃kvs,H6 b=AA (.dK kvs):=λb f=>m.tj f;have O:=y _ _ n ej;show k _ ⟨⟨l,ps,B,j,jd,dg,d,gd⟩,x⟩ rfl u ⟨⟨v _ _ nl (x4 _ _ nl el),pr.ab s,x8 _ _ n (M _ _ O),jks,jr8,x8 _ _ ngx eg,Ah lkg G,gks,gr8,λi hi=>⟨λz=>?_,Bg O (fg i hi)⟩,λz=>?_⟩,J,Af⟩ (λb f=>?_) hl;. obtain⟨kv,e⟩:=N _ z;rw[fg i hi]at e;cases e
  . obtain⟨kv,e⟩:=N _ z;rw[g]at e;cases e
  . rcases f with(f|⟨i,hi,rfl⟩)|rfl|rfl;.show W _ (fj _ f)
    .show C _ (fg i hi)
    .show W _ hdj
    .show C _ g
def nC(A:CF):BO:=λG H Q _=>(Ow λ(D:List AU)(F:DJ)(J:Nat->List AO×List AO)(Y:Nat->AF->List AV)(B:Nat->List (AK×AD))(c I:AF->Nat)(C E:Nat)(e:FP)(q:AE)=>Qr (G=[.ref F.x,.ref q]) (DK A [] H D F J Y B) (ED D) (D.length<=8) (Ge H q e) (Iw D c I C E) (NZ D c J) (C<E) (Eg (KO e)/\O0 D J) (∀i∈Al D,(B i).length<=1000) (TU D c Y) (∀U W Z,Ba (Hi D F.jd F.gd) H U->DK A [] U D F (FH D J D.length W) (LG D Y (Lx D W)) Z->(∀(i:Nat)s,D[i]?=AA s->Eo s W (J i) e)->Q .non U))
theorem X1(T:BQ AH Ag AM):T.oa.Ok BM P w Ag base 7 (nC AM):=by refine T.oa.ok λl _ _ _ _ _ X H m Q E h=>?_;obtain⟨g,F,f,I,L,c,i,a,d,e,q,rfl,D,A,b,G,M,N,S,O,Z,R,k⟩:_:=h;refine⟨_,(Ac (D1 (BG (lE T) X #v[Bu (AB 0) rfl,Bu (AB 0) rfl,Bu (AB 0) rfl,AB 1]))),?_⟩;obtain⟨j,U⟩:=D.cg;refine⟨_,⟨U,T.ah,T.ku,rfl⟩,_,⟨U,T.ah,T.av,rfl⟩,_,⟨U,T.ah,T.aq,rfl⟩,F.lp,F.dj,F.dg,q,F.ps,g,F.cp,F.jd,f,c,i,a,d,e,F.ax,F.gd,I,L,rfl,D.qm,D.si,A,by omega,D.cb,G,M,N,S,O,D.bw,Z,R,D.xc,D.md,λB C V s2 Y W J=>k B C V s2 (D.xv s2 Y W) J⟩
def nN(Y:CF):BO:=λB H Q _=>(KG λ(J:List AU)(F:DJ)(U:Nat->List AO×List AO)(Z:Nat->AF->List AV)(A:Nat->List (AK×AD))(D:Int)=>IL (B=[.ref F.x,.int D]) (DK Y [] H J F U Z A) ((∀i,Bq J i->(U i).1.length<=1000/\(U i).2.length<=1000)) (∀W,Ba (Hi J F.jd F.gd) H W->DK Y [] W J F (Eh J D U) Z A->Q .non W))
theorem kB(T:BQ AH Ag AM):T.mj.Ok BM P w Ag base 7 (nN AM):=by show T.mj.ok λR _ _ _ _ _ G H S Q E h=>?_;obtain⟨Z,F,L,N,O,W,rfl,D,V,k⟩:_:=h;show⟨_,(Ac (D1 (BG (jZ T) G #v[Bu (AB 0) rfl,AB 1]))),?_⟩;obtain⟨M,A⟩:=D.cg;show⟨_,⟨A,T.ah,T.av,rfl⟩,F.dj,Z,F.cp,F.jd,L,W,rfl,D.di,D.tw,D.cb,V,λY s3 U=>?_⟩;have J:Ba (Hi Z F.jd F.gd) H Y:=λb o I e=>s3 b o (λz=>I (.inl z)) e;show k Y J (D.xv J U (D.bw.cx s3 (λb B=>.inr (D.cb.tj B)) (λi C=>(D.xc i C).1) D.md))
def oI(C:CF):BO:=λG H Q _=>(KH λ(A:List AE)(D:List AU)(F:DJ)(E:Nat->List AO×List AO)(U:Nat->AF->List AV)(B:Nat->List (AK×AD))(m:Option Int)=>JW (G=[.ref F.x,HH m]) (DK C A H D F E U B) (ED D) (D.length<=8) ((∀c∈A,∃Z,H c=AA (.lst Z))) ((∀i∈Al D,(B i).length<=600)) ((∀i∈Al D,∀z,FR (U i z)/\(U i z).length<=3000)) (∀J r Z Y W,Ba (Hi D F.jd F.gd) H J->DK C A J D F E (λi z=>DU m (U i z)) W->(∀i∈Al D,(W i).length<=(B i).length)->H r=AG->J r=AA (.lst Z)->Az (Gw D J) Z Y->(Y.map EF).Nodup->Cs (Y.map EF)->(∀q:Dx,q∈Y↔q.1∈Al D/\q.2.2∈Fd m (U q.1 q.2.1))->Y.length<=14400000->Q (.ref r) J))
theorem X4(T:BQ AH Ag AM):T.oy.Ok BM P w Ag base 7 (oI AM):=by show T.oy.ok λx _ _ _ _ _ q H vs Q E h=>?_;obtain⟨j,c,F,y,l,n,m,rfl,D,X,N,Y,L,I,k⟩:_:=h;show⟨_,(Ac (BI (BG (jW T) q #v[Bu (AB 0) rfl,AB 1]))),?_⟩;obtain⟨v,g⟩:=D.cg;show⟨_,⟨g,T.ah,T.aq,rfl⟩,j,F.dg,c,F.ax,F.gd,l,n,m,rfl,D.bh,X,N,D.uf,D.ue,D.bw,Y,L,I,λf r u t V s1 W G A U O S a R M=>?_⟩;have J:Ba (Hi c F.jd F.gd) H f:=λb o s e=>s1 b o (λz=>s (.inr z)) e;have B:∀b,(∃i∈Al c,b=(F.gd i).d)->∃C,H b=AA (.dK C):=λb z=>D.qo (.inr z);show k f r u t V J (D.xv J (D.cb.cx s1 (λb p=>.inr (B b p)) (λb⟨i,Z,z⟩=>by rw[z];show(D.xc i Z).1) λ⟨i,Z,z⟩=>(D.xc i Z).2 z) W) G A U O S a R M
abbrev CU(ss:List AU)(h:DJ):AE->Prop:=Hi ss h.jd h.gd
def BR(f:Nat->D)(i:Nat)(v:D):Nat->D:=λj=>if j=i then v else f j
theorem qB(f:Nat->D)(i:Nat):BR f i (f i)=f:=funext λj=>by
 unfold BR;split;.rename_i h;rw[h]
 .rfl
abbrev Bi:=Nat->List AO×List AO
abbrev CI:=Nat->AF->List AV
abbrev DI:=Nat->List (AK×AD)
def KJ(H:AI)(xs:List AD)(D:List (List AD)):Prop:=Az (λx u=>∃a,x=.ref a/\H a=AA (.tup u)) xs D
theorem KJ.ab(h:KJ H xs D)(t:Bc H H'):KJ H' xs D:=Ej (λ_ _⟨a,e,J⟩=>⟨a,e,t _ _ J⟩) h
def pJ:BO:=λZ H Q _=>(EH λ(d:AE)(D:List (AK×AD))(F:AK->List (List AD))=>EV (Z=[.ref d]) (H d=AA (.dK D)) (D.length<=600) ((∀q∈D,∃(z:AF)(r:AE)(W:List AD),q=(.inr z,.ref r)/\H r=AA (.lst W)/\KJ H W (F q.1)/\(F q.1).length<=3000/\∀u∈F q.1,u≠[]/\u.length<=3)) (∀J r Y(U:List AK),An H J->H r=AG->J r=AA (.lst Y)->KJ J Y (U.flatMap λk=>(F k).map λu=>Aw k::u)->U.Perm (D.map (·.1))->U.Pairwise (λa b=>Dl b a=AR)->Q (.ref r) J))
theorem YC(T:BQ AH Ag AM):T.qj.Ok BM P w Ag base 1 pJ:=by
  show T.qj.ok λnd _ _ _ _ _ hr H vs Q E h=>?_;obtain⟨d,kvs,F,rfl,ed,lk,hq,k⟩:_:=h;show⟨_,(Aq (BC 1 nd (CW Dq)) (Aq (C8 DF rfl (Cn (K:=AH) (DE (MI rfl) (by rfl) T.cy J6 #v[AB 0])) (CO 2 nd) (Ac (D1 (Kr (K:=AH) Lf OZ QN M8 (AB 1) #v[(Hx (DC Yf) [("key",2)] ⟨rfl,rfl,trivial⟩ (Cn (K:=AH) (EY hr.u1 (AB 0) (AB 2) (λ_ _=>rfl))) (λ_ _ _ _=>Hy) (λ_ _ _ _=>(AY (OF (K:=AH)) (CP #v[AB 1]) (AB 0))))])))) (Ac (BI (AB 1))))),?_⟩;have sz:Ay=16777216:=DW;show⟨BY _,λl hl=>?_⟩;show BA (o:=.lst []) hl λH1 s1 el=>?_;show⟨d,kvs,rfl,s1 _ _ ed,.inr λq hq'=>?_,λls ks hls pk ps=>?_⟩;. obtain⟨z,r,xs,e,_⟩:_:=hq q hq';show⟨z,by rw[e]⟩
  have hls':=hls;show BA (o:=.lst (ks.map Aw)) hls λH2 s2 els=>?_;have nll:ls≠l:=λz=>by rw[z,el]at hls';cases hls'
  have lks:ks.length<=600:=by rw[pk.length_eq,As];assumption
  show⟨ls,rfl,⟨_,AW els⟩,FJ (xs:=ks.map Aw) (λi σ H'=>Rn (λ(o2:Option AD)(acc:List AD)=>σ=[AA (.ref d),AA (.ref l),o2]) (λ_ _=>An H H') (λ_ acc=>H' l=AA (.lst acc)) _ (λ_ acc=>KJ H' acc ((ks.take i).flatMap λk=>(F k).map λu=>Aw k::u)) (λ_ acc=>acc.length<=3000*i)) ⟨AG,[],rfl,s1.aa s2,s2 _ _ el,els,.nil,BY _⟩ (λi σ H' _ hh=>by obtain⟨_,_,_,_,_,e,_⟩:=hh;show AW e) ?_ ?_⟩
  . intro i x σ H3 hx hI;lk;obtain⟨o2,acc,rfl,s3,el3,els3,hw3,la⟩:=hI;rw[Bs]at hx;obtain⟨ky,hky,rfl⟩:=Du.mp hx;have hi:i<ks.length:=(BU.mp hky).1;obtain⟨v,hv⟩:=Lb (pk.mem_iff.mp (Cg hky));obtain⟨z,r,xs,e1,er,hw,lf,hu⟩:=hq _ (FD hv);cases e1;k_in;have hxl:=(CN hw).1;have ed3:=s3 _ _ ed;show⟨.inl ⟨rfl,_,AW el3⟩,d,_,rfl,by have:=LN (k:=Bt z) ed3;rw[hv]at this;show this,r,rfl,⟨_,AW (s3 _ _ er)⟩,?_⟩;show Jo (K:=AH) (xs:=xs) (λj τ acc' H'=>(∃o,τ=[o,AA (.str z)])/\An H3 H'/\KJ H' acc' (((F (.inr z)).take j).map λu=>AD.str z::u)) (by lia) ⟨⟨AG,rfl⟩,C6 _,.nil⟩ (λj τ acc' H'⟨_,s',_⟩=>AW (s' _ _ (s3 _ _ er))) ?_ ?_
    . intro j y τ acc' H4 R1 hy _ hI k1;obtain⟨⟨o,rfl⟩,s4,hw4⟩:_:=hI;have hj:j<(F (.inr z)).length:=by have:=(BU.mp hy).1;rw[<-hxl];show this
      have ek:=CG hj;generalize(F (.inr z))[j]=u at ek;lk;obtain⟨a,rfl,ea⟩:=(CN hw).2 j _ _ hy ek;have ea4:=s4 _ _ (s3 _ _ ea);obtain⟨b1,b2⟩:=hu u (Cg ek);k_in;show⟨CB rfl,λp hp=>?_⟩;show BA (o:=.tup [.str z]) hp λH5 s5 ep=>?_;show⟨p,a,_,_,rfl,rfl,Ao ep,Ao (s5 _ _ ea4),by simp,by simp;lia,λe=>absurd e b1,λ_ q hq'=>k1 _ _ _ ⟨⟨_,rfl⟩,(s4.aa s5).du hq',?_⟩⟩;rw[Dt,ek,CQ];show Dh (hw4.ab (s5.du hq').tp) (.cons ⟨q,rfl,Af⟩ .nil)
    . intro τ acc' H4 la4 hI D hD;obtain⟨_,s4,hw4⟩:_:=hI;show BA (o:=.lst acc') hD λH5 s5 eD=>?_;have s35:=s4.aa s5;have el5:=s35 _ _ el3;show⟨l,D,_,_,rfl,rfl,el5,eD,by lia,?_⟩;have tp5:Bc H5 (AQ H5 l (.lst (acc++acc'))):=(IU H5).du el5 λxs=>by intro z;cases z
      show⟨_,acc++acc',rfl,(s3.aa s35).xq hl,Af,by rw[AX nll];show s35 _ _ els3,?_,by rw[B8];lia⟩;rw[Dt,hky,Vz];show KJ.ab (Dh (hw3.ab s35.tp) ?_) tp5;rw[Ed (Bw hxl.symm)]at hw4;change KJ H5 acc' ([Bt z].flatMap _);rw[Ek,List.flatMap_nil,C2];show hw4.ab s5.tp
  . intro σ H3 hI;obtain⟨o2,acc,rfl,s3,el3,els3,hw3,la⟩:_:=hI;rw[As,Ed (Ak _)]at hw3;show k H3 l acc ks s3 hl el3 hw3 pk ps
theorem Td[Inhabited Y]{p:AK×AD->Y->Prop}:∀{kvs:List (AK×AD)},(kvs.map (·.1)).Nodup->(∀q∈kvs,∃y,p q y)->∃F:AK->Y,∀q∈kvs,p q (F q.1)
 |[],_,_=>⟨λ_=>fZ,λq h=>(by cases h)⟩|q::kvs,n,h=>by
  lk;obtain⟨Z,A⟩:=IE.mp n;obtain⟨F,U⟩:=Td A λD J=>h D (.tail _ J);obtain⟨y,W⟩:=h q (.head _);k_in;show⟨λk=>if k=q.1 then y else F k,λD J=>?_⟩;rcases Ca.mp J with rfl|J
  . change p D (if D.1=D.1 then y else F _);rw[AEv rfl];show W
  . change p D (if D.1=q.1 then y else F _);rw[AEu λ(e)=>Z (BE.mpr ⟨D,J,e⟩)];show U D J
theorem RW:∀{kss:List (List AK)}{xs:List AD},KJ H xs (kss.map λks=>ks.map Aw)↔Cc H xs kss
 |[],xs=>⟨λh=>(by cases h;show .nil),λh=>(by cases h;show .nil)⟩|ks::kss,xs=>by
  constructor
  . intro h;cases h with|cons a b=>show .cons a (RW.mp b)
  . intro h;cases h with|cons a b=>show .cons a (RW.mpr b)
theorem UQ{F:AK->List (List AK)}:∀{ks:List AK},ks.Pairwise (λa b=>Dl b a=AR)->ks.Nodup->(∀k∈ks,Cs (F k))->Cs (ks.flatMap λk=>(F k).map λr=>k::r)
 |[],_,_,_=>.nil|k::ks,W,Y,V=>by
  lk;obtain⟨E,G⟩:=JP.mp W;obtain⟨B,C⟩:=IE.mp Y;k_in;show OQ.mpr ⟨?_,UQ G C λk A=>V k (GH _ A),λa Z b J=>?_⟩
  . show Eb.mpr ((V k D4).imp λ{a b}h=>?_);change(if k=k then Bf b a else Dl k k)=AR;rw[AEv rfl];show h
  . lk;obtain⟨x,_,rfl⟩:=BE.mp Z;obtain⟨U,D,J⟩:=V4.mp J;obtain⟨y,_,rfl⟩:=BE.mp J;k_in;change(if U=k then Bf y x else Dl U k)=AR;rw[AEu (λe=>B (by rw[<-e];show D))];show E U D
def UW(V:CF):BO:=λY H Q _=>(KD λ(W:List AE)(x d:AE)(L:List AO)=>IL (Y=[.ref x]) (Cb V W H x d L) (L.length<=600) (∀J r U D,An H J->H r=AG->J r=AA (.lst U)->Cc J U D->Cs D->D.Perm (L.map Fu)->Q (.ref r) J))
theorem RG(T:BQ AH Ag AM):T.pz.Ok BM P w Ag base 2 (UW AM):=by
  show T.pz.ok λnd _ _ _ _ _ N H vs Q E h=>?_;obtain⟨ex,x,d,L,rfl,X,j,k⟩:_:=h;show⟨_,(Ac (BI (BG (YC T) N #v[Bu (AB 0) rfl]))),?_⟩;lk;obtain⟨dx,f⟩:=X.cg;obtain⟨I,c,W,U,n,l⟩:=X.aj;obtain⟨F,R⟩:=Td (Y:=List (List AK)) (p:=λq D=>(EH λ(z:AF)(r:AE)(Z:List AD)=>EV (q=(.inr z,.ref r)) (H r=AA (.lst Z)) (Cc H Z D) (Cs D) (D.Perm ((L.filter λi=>Aa (i.2.1=z)).map Et)))) W λq C=>by obtain⟨z,r,Z,D,e,_,B,hw,_,A,J⟩:=n q C;show⟨D,z,r,Z,e,B,hw,A,J⟩
  k_in;show⟨_,⟨f,T.cq,T.bx,rfl⟩,d,I,λk=>(F k).map λM=>M.map Aw,rfl,c,Ah U j,λq C=>?_,λb r y M s N B a O t=>?_⟩
  . obtain⟨z,r,Z,e,B,hw,_,J⟩:_:=R q C;show⟨z,r,Z,e,B,RW.mpr hw,?_,λu o=>?_⟩
    . have:=J.length_eq;have:=D3 (λi:AO=>Aa (i.2.1=z)) L;rw[As]at*;lia
    . lk;obtain⟨v,G,rfl⟩:=BE.mp o;obtain⟨i,_,rfl⟩:=BE.mp (J.mem_iff.mp G);k_in;show⟨λz=>(nomatch z),CB rfl⟩
  . have e:(M.flatMap λk=>((F k).map λr=>r.map Aw).map λu=>Aw k::u)=(M.flatMap λk=>(F k).map λr=>k::r).map λr=>r.map Aw:=by rw[cJ];congr 1;funext k;rw[Cu,Cu];rfl
    rw[e]at a;have S:∀k∈I.map (·.1),∃z:AF,k=.inr z/\Cs (F k)/\(F k).Perm ((L.filter λi=>Aa (i.2.1=z)).map Et):=λk U=>by obtain⟨q,C,rfl⟩:=BE.mp U;obtain⟨z,r,Z,e,_,_,A,J⟩:=R q C;rw[e]at A J⊢;show⟨z,rfl,A,J⟩
    show k b r y _ s N B (RW.mp a) (UQ t (O.nodup_iff.mpr W) λk U=>?_) ?_
    . obtain⟨_,_,A,_⟩:_:=S k (O.mem_iff.mp U);show A
    . show(vG O).trans ((aK (g:=λk=>(L.filter λi=>Aa ((Bt i.2.1:AK)=k)).map Fu) λk U=>?_).trans ?_)
      . obtain⟨z,rfl,_,J⟩:_:=S k U;show(J.map _).trans (SY ?_);rw[Cu];have e:(L.filter λi=>Aa ((Bt i.2.1:AK)=Bt z))=L.filter λi=>Aa (i.2.1=z):=IA λi _=>by
          by_cases h:i.2.1=z;.rw[h];simp
          .rw[AEz h,AEz (λq=>h (Ft q))]
        rw[e];show MS λi m=>?_;have:=AEy (DT.mp m).2;change Bt z::Et i=Fu i;rw[<-this];rfl
      . rw[<-cJ];show(U7 (λi:AO=>(Bt i.2.1:AK)) L _ W l).map Fu
def Lq(H:AI)(x:AD)(m:AF×AV):Prop:=∃(a q:AE),x=.ref a/\H a=AA (.tup [.str m.1,.int m.2.1,.int m.2.2.1,.ref q])/\Fc H q m.2.2.2
theorem YJ(h:Az (Lq H) xs D)(t:Bc H H'):Az (Lq H') xs D:=Ej (λ_ _ W=>by obtain⟨a,q,e,J,U⟩:=W;show⟨a,q,e,t _ _ J,t _ _ U⟩) h
theorem YH:∀{ps:List AV}{xs:List AD},D2 H xs ps->∃D:List (List AD),KJ H xs D/\Az (λu(p:AV)=>∃q,u=[.int p.1,.int p.2.1,.ref q]/\Fc H q p.2.2) D ps|[],xs,h=>by cases h;show⟨[],.nil,.nil⟩|p::ps,xs,h=>by cases h with|cons a b=>lk;obtain⟨D,Y,Z⟩:=YH b;obtain⟨J,q,e,U,W⟩:=a;k_in;show⟨_,.cons ⟨J,e,U⟩ Y,.cons ⟨q,rfl,W⟩ Z⟩
def RS(Y:CF):BO:=λB H Q _=>(KH λ(Z:List AE)(x p d:AE)(A:AU)(g:AF->List AV)(J:List (AK×AD))=>EV (B=[.ref x]) (EC Y Z H x p d A g J) (J.length<=600) ((∀z,(g z).length<=3000)) (∀U r W(D:List AF),An H U->H r=AG->U r=AA (.lst W)->Az (Lq U) W (CV g D)->D.Pairwise (λa b=>Dl (.inr b) (.inr a)=AR)->D.Nodup->(∀z,g z≠[]->z∈D)->D.length<=600->Q (.ref r) U))
theorem Nm(T:BQ AH Ag AM):T.jt.Ok BM P w Ag base 2 (RS AM):=by
  show T.jt.ok λnd _ _ _ _ _ c H vs Q E h=>?_;obtain⟨ex,x,p,d,st,g,j,rfl,B,lk,lg,k⟩:_:=h;show⟨_,(Ac (BI (BG (YC T) c #v[Bu (AB 0) rfl]))),?_⟩;lk;obtain⟨dx,eo⟩:=B.cg;obtain⟨F,S⟩:=Td (Y:=List (List AD)) (p:=λq U=>(EH λ(z:AF)(r:AE)(C:List AD)=>IL (q=(.inr z,.ref r)) (H r=AA (.lst C)) (KJ H C U) (Az (λu(p:AV)=>∃q,u=[.int p.1,.int p.2.1,.ref q]/\Fc H q p.2.2) U (g z)))) B.aj.nd λq W=>by obtain⟨z,r,C,e,_,I,w⟩:=B.aj.om q W;obtain⟨U,R,J⟩:=YH w.1;show⟨U,z,r,C,e,I,R,J⟩
  k_in;show⟨_,⟨eo,T.aw,T.bj,rfl⟩,d,j,F,rfl,B.aj.ai,lk,λq W=>?_,λH' r ys N s c I o Z A=>?_⟩
  . obtain⟨z,r,C,e,I,R,J⟩:_:=S q W;show⟨z,r,C,e,I,R,by rw[(CN J).1];show lg z,λu hu=>?_⟩;lk;obtain⟨i,M,ei⟩:=FN.mp hu;have l:=(CN J).1;obtain⟨q',G,_⟩:=(CN J).2 i u (g z)[i] (by rw[CG M,ei]) (CG (Bh M (Bw l)));k_in;rw[G];show⟨λz=>(nomatch z),CB rfl⟩
  . lk;obtain⟨D,rfl⟩:∃D:List AF,N=D.map Bt:=by
      have:∀k∈N,∃z:AF,k=.inr z:=λk X=>by obtain⟨q,W,rfl⟩:=BE.mp (Z.mem_iff.mp X);obtain⟨z,_,_,e,_⟩:=S q W;show⟨z,by rw[e]⟩
      clear o Z A;induction N with |nil=>show⟨[],rfl⟩|cons k N L=> obtain⟨D,e⟩:=L λk X=>this k (.tail _ X);obtain⟨z,G⟩:=this k (.head _);show⟨z::D,by rw[FL,e,G]⟩
    k_in;have lz:=Z.length_eq;rw[As,As]at lz;have kn:=Z.nodup_iff.mpr B.aj.nd;show k H' r ys D s c I ?_ (Eb.mp A) ((Eb.mp kn).imp λh e=>h (by rw[e])) (λz ne=>?_) (by simp_all)
    . have fz:∀z∈D,Az (λu(p:AV)=>∃q,u=[.int p.1,.int p.2.1,.ref q]/\Fc H q p.2.2) (F (.inr z)) (g z):=λz f=>by obtain⟨q,W,e⟩:=BE.mp (Z.mem_iff.mp (BE.mpr ⟨z,f,rfl⟩));obtain⟨z',_,_,G,_,_,J⟩:=S q W;rw[e]at J;rw[G]at e;have e:z'=z:=Ft e;rw[e]at J;show J
      have n:∀{U:List (List AD)}{A:List AV}{z:AF},Az (λu(p:AV)=>∃q,u=[.int p.1,.int p.2.1,.ref q]/\Fc H q p.2.2) U A->Az (λu(m:AF×AV)=>∃q,u=[.str m.1,.int m.2.1,.int m.2.2.1,.ref q]/\Fc H q m.2.2.2) (U.map λu=>AD.str z::u) (A.map λp=>(z,p)):=λ{U A z}h=>by induction h with |nil=>show .nil|cons a b L=> obtain⟨q,e,t⟩:=a;show .cons ⟨q,by rw[e],t⟩ L
      have O:Az (λu(m:AF×AV)=>∃q,u=[.str m.1,.int m.2.1,.int m.2.2.1,.ref q]/\Fc H q m.2.2.2) ((D.map Bt).flatMap λk=>(F k).map λu=>Aw k::u) (CV g D):=by clear o Z A lz kn;unfold CV;induction D with|nil=>show .nil|cons z D L=>rw[FL,Ek,Ek];show Dh (n (fz z (.head _))) (L λz f=>fz z (.tail _ f))
      lk;obtain⟨l1,g1⟩:=CN o;obtain⟨l,g2⟩:=CN O;k_in;show GY (Ou l1 l) λi v m e1 e2=>?_;have M:=(BU.mp e1).1;have e3:=CG (show i<((D.map Bt).flatMap λk=>(F k).map λu=>Aw k::u).length by show Bh M (Bw l1));lk;obtain⟨a,ea,ha⟩:=g1 i v _ e1 e3;obtain⟨q,eq,tq⟩:=g2 i _ m e3 e2;k_in;rw[eq]at ha;show⟨a,q,ea,ha,s _ _ tq⟩
    . obtain⟨y,hy,e⟩:_:=BE.mp (Z.mem_iff.mpr (B.aj.wz z ne));rw[<-Ft e];show hy
theorem Jb.de(h:Jb ss ss.length W D):D.length<=ss.length:=by
 have:=Nl h.nd λk J=>by obtain⟨p,U,rfl⟩:=BE.mp J;obtain⟨i,l,_,rfl⟩:=h.rh p U;show BE.mpr ⟨i,V6.mpr l,rfl⟩
 rw[As,As,JO]at this;show this
theorem O7(e:H d=AA u)(U:∀b,b≠d->J b=H b)(s:An J H'):An H (AQ H' d u):=λb o D=>by
 by_cases q:b=d
 . rw[q]at D⊢;rw[e]at D;cases D;show Af
 . rw[AX q];show s _ _ (by rw[U b q];show D)
structure Hg(ss:List AU)(sd:Bi)(gg:CI)(gk:DI)(p:AF->Prop):Prop where
 sl:∀t,Bq ss t->(sd t).1.length<=600/\(sd t).2.length<=600
 sp:∀t,Bq ss t->(∀x∈(sd t).1,p x.2.1)/\∀x∈(sd t).2,p x.2.1
 gl:∀t∈Al ss,(gk t).length<=600/\∀z,FR (gg t z)/\(gg t z).length<=3000
 gp:∀t∈Al ss,∀z,gg t z≠[]->p z
theorem Ml{f:D->Y}:∀{l m:List D},l.map f=m.map f->(∀a∈l,∀b∈m,f a=f b->a=b)->l=m|[],[],_,_=>rfl|[],b::m,e,_=>by cases e|a::l,[],e,_=>by cases e|a::l,b::m,e,h=>by obtain⟨J,U⟩:=C9 e;rw[h a (.head _) b (.head _) J,Ml U λx V y W=>h x (.tail _ V) y (.tail _ W)]
theorem qC(h:FR l)(U:a∈l)(V:b∈l)(e:a.1=b.1):a=b:=by
 lk;obtain⟨i,D,rfl⟩:=FN.mp U;obtain⟨j,J,rfl⟩:=FN.mp V;k_in;rcases cY i j with q|q|q
 . have:=Gq.mp h i j D J q;simp_all
 .subst q;rfl
 . have:=Gq.mp h j i J D q;simp_all
theorem mS{l m:List J}(W:(l.map key).Nodup)(Y:(m.map key).Nodup)(s1:Cs (l.map key))(s2:Cs (m.map key))(V:∀q,q∈l↔q∈m)(D:∀a∈l,∀b∈m,key a=key b->a=b):l=m:=by have U:∀{l:List J},(l.map key).Nodup->l.Nodup:=λh=>(Eb.mp h).imp λh e=>h (by rw[e]);show Ml (ON (((ABu (U W) (U Y)).mpr V).map _) s1 s2) D
def T3(m:AF×AV):List AK:=[.inr m.1,.inl m.2.1,.inl m.2.2.1]
def L5(m:AF×AV):DG:=.tuple [.str m.1,.int m.2.1,.int m.2.2.1,.tuple [.int m.2.2.2.1,.int m.2.2.2.2.1,.int m.2.2.2.2.2.1,.int m.2.2.2.2.2.2]]
theorem mC(h:Az (Lq H) xs M):FI AH H xs (M.map L5):=by induction h with|nil=>show .nil|cons a _ U=>obtain⟨a,q,rfl,D,J⟩:_:=a;show .cons (.tup (Ao D) (.cons (.str _) (.cons (.int _) (.cons (.int _) (.cons (.tup (Ao J) (.cons (.int _) (.cons (.int _) (.cons (.int _) (.cons (.int _) .nil))))) .nil))))) U
theorem qL(J:∀z,FR (g z))(V:ks.Pairwise λa b=>Dl (.inr b) (.inr a)=AR)(D:ks.Nodup):Cs ((CV g ks).map T3)/\((CV g ks).map T3).Nodup:=by
  constructor
  . have:=UQ (F:=λk=>match k with|.inr z=>(g z).map _|.inl _=>[]) (Eb.mpr V) (Eb.mpr (D.imp λh e=>h (Ft e))) λk U=>by obtain⟨z,_,rfl⟩:=BE.mp U;show(J z).sd
    show Eq.mp (AEw Cs ?_) this;unfold CV;rw[List.flatMap_map,cJ];congr 1;funext z;rw[Cu,Cu];rfl
  . show Eb.mpr ((Eb.mp (Uh J D)).imp λh e=>h ?_);show NO (Ft (C9 e).1) (Fq (C9 (C9 e).2).1)
def Au(m:Nat)(p:List AO×List AO):List AO:=if m=0 then p.1 else p.2
theorem DP.acb(h:DP AM ex H j Z D J U W wi L.1 L.2)(Y:m<2):∃x d,([.ref D,.ref J]:List AD)[m]?=AA (.ref x)/\Cb AM ex H x d (Au m L):=by
 rcases y8 m 1 with q|q
 . have:=AB5.mp q;subst this;show⟨_,_,rfl,h.s0⟩
 . have:=cR q Y;subst this;show⟨_,_,rfl,h.s1⟩
theorem To:∀{xs:List AD}{D:List DG},FI AH H xs D->FI AH H (xs++[.non]) (D++[.none])|_,_,.nil=>.cons .non .nil|_,_,.cons a b=>.cons a (To b)
theorem mT(I:ED ss){g:Nat->AF->List AV}(F:∀t∈Al ss,∀z,FR (g t z)){U D:List Dx}(G:(U.map EF).Nodup)(H:(D.map EF).Nodup)(s1:Cs (U.map EF))(s2:Cs (D.map EF))(Y:∀q:Dx,q∈U↔q.1∈Al ss/\q.2.2∈g q.1 q.2.1)(Z:∀q:Dx,q∈D↔q.1∈Al ss/\q.2.2∈g q.1 q.2.1):U=D:=mS G H s1 s2 (λq=>(Y q).trans (Z q).symm) λa C b E e=>by lk;obtain⟨t1,B⟩:=(Y a).mp C;obtain⟨_,W⟩:=(Z b).mp E;k_in;have J:=Fq (C9 (C9 e).2).1;have J:=Iv.mp J;have V:=Ft (C9 (C9 (C9 e).2).2).1;have A:=Fq (C9 (C9 (C9 (C9 e).2).2).2).1;rw[<-J,<-V]at W;show NO J (NO V (qC (F _ t1 _) B W A))
def KI(H:AI)(ys:List AD):Prop:=∀v∈ys,v=.non\/∃a u,v=.ref a/\H a=AA (.tup u)/\(3<u.length\/∀i:Int,u.head?≠AA (.int i))
theorem KI.ads(h:KI H ys)(U:AD.ref a∈ys)(e:H a=AA (.tup (.int i::u)))(l:u.length<=2):False:=by
 rcases h _ U with z|⟨W,Y,J,D,n⟩;.cases z
 . cases J;rw[e]at D;cases D;show n.elim (λh=>AB8 (QG l) h) λh=>h i rfl
theorem Cb.yn(h:Cb AM [] H x d L)(e:H c=AA (.lst ys))(G:KI H ys):Cb AM [c] H x d L:=by obtain⟨o,U,A,n,l,q,Z⟩:_:=h;show⟨o,U,A,n,l,λp F=>?_,Z⟩;obtain⟨z,r,K,D,B,_,J,hw,W,I,Y⟩:_:=q p F;show⟨z,r,K,D,B,λE=>?_,J,hw,W,I,Y⟩;rw[By.mp E,e]at J;cases J;cases D with|nil=>show W rfl|cons M D=>cases hw with|cons a _=>obtain⟨b,rfl,C⟩:=a;obtain⟨i,_,rfl⟩:=BE.mp (Y.mem_iff.mp (.head _));show G.ads (.head _) C (Si rfl)
theorem EC.yn{st:AU}(h:EC AM [] H x p d st g kvs)(e:H c=AA (.lst ys))(B:KI H ys):EC AM [c] H x p d st g kvs:=⟨h.cg,h.iq,h.aj.ai,h.aj.nd,λq A=>by obtain⟨J,r,C,W,_,D,w,U⟩:_:=h.aj.om q A;show⟨J,r,C,W,λZ=>?_,D,w,U⟩;rw[By.mp Z,e]at D;cases D;generalize g _=E at w;cases w with|nil=>show U rfl|cons a _=>obtain⟨b,F,rfl,Y,_⟩:_:=a;show B.ads (.head _) Y (Si rfl),h.aj.wz⟩
def Np(m:Nat)(p:List AO×List AO)(i:AO):List AO×List AO:=if m=0 then(p.1++[i],p.2)else(p.1,p.2++[i])
def Nd(D:Nat->D8)(t m:Nat):AE:=if m=0 then(D t).d0 else(D t).d1
theorem CY.js(Y:CY AM ex H ss Z D J sd)(F:Bq ss t)(G:m<2):∃j E x U wi,BH D (.inl (t:Int))=AA (.ref j)/\H j=AA (.ins AM.dw U [("within",.int wi),("sides",.ref E)])/\(∃xs,H E=AA (.lst xs)/\xs[m]?=AA (.ref x))/\Cb AM ex H x (Nd J t m) (Au m (sd t))/\∀H' i,BV (Nd J t m) H H'->Cb AM ex H' x (Nd J t m) (Au m (sd t)++[i])->CY AM ex H' ss Z D J (BR sd t (Np m (sd t) i)):=by
 lk;obtain⟨n,a,b,wi,W⟩:=F;obtain⟨C,g⟩:=Y.dc t n a b wi W;obtain⟨U,A⟩:=g.cg;k_in;have B:=g.cu;rcases y8 m 1 with q|q
 . have:m=0:=AB5.mp q;subst this;show⟨_,_,_,U,wi,C,A,⟨_,B,rfl⟩,g.s0,λH' i s r=>?_⟩;show Y.iq W (λc o I _ e=>s _ _ I e) (g.aap s r)
 . have:m=1:=cR q G;subst this;show⟨_,_,_,U,wi,C,A,⟨_,B,rfl⟩,g.s1,λH' i s r=>?_⟩;show Y.iq W (λc o _ K e=>s _ _ K e) (g.aaq s r)
def oQ(B:CF):BO:=λC H Q _=>(TL λ(Y:List AE)(A:List AU)(W q:AE)(D:List (AK×AD))(Z:Nat->D8)(J:Bi)(t m:Nat)(i:AO)=>JW (C=[.ref W,.ref q]) (CY B Y H A W D Z J) ((∀c∈Y,∃o,H c=AA o)) (Bq A t) (m<2) (H q=AA (.tup [.int (t:Int),.int (m:Int),.str i.2.1,.int i.1,.int i.2.2])) ((Au m (J t)).length<=1000) (∀U,BV (Nd Z t m) H U->CY B Y U A W D Z (BR J t (Np m (J t) i))->Q .non U))
theorem lF(T:BQ AH Ag AM):T.rf.Ok BM P w Ag base 3 (oQ AM):=by
 show T.rf.ok λv _ _ _ _ _ A H vs Q E h=>?_;lk;obtain⟨S,ss,I,q,B,i,y,t,m,⟨n,z,G⟩,rfl,C,Y,a,f,N,d,k⟩:=h;obtain⟨j,sl,x,u,wi,R,M,⟨xs,O,W⟩,F,Z⟩:=C.js a f;k_in;show⟨_,(Ac (D1 (GV (CZ AH (Bu (EY A.u1 (AB 0) (Av AH (AB 1) AN) (λ_ _=>rfl)) rfl) (Av AH (AB 1) AN)) T.cq (X5 T) A #v[CP #v[Av AH (AB 1) AN,Av AH (AB 1) AN,Av AH (AB 1) AN]]))),?_⟩;obtain⟨U,V⟩:=F.cg;have D:=Ao (K:=AH) N;show⟨_,_,D,Aj (j:=0) rfl,I,_,rfl,.inl ⟨_,.inl (t:Int),C.ai,rfl,R.symm⟩,_,⟨M,T.cv,T.bo,rfl⟩,_,_,D,Aj (j:=1) rfl,_,_,AW O,Aj W,x,U,_,rfl,V,rfl,_,_,D,Aj (j:=3) rfl,_,_,D,Aj (j:=2) rfl,_,_,D,Aj (j:=4) rfl,(by decide:3<=sizeLine),λp g=>?_⟩;show BA g λs s1 L=>?_;show⟨S,x,_,p,_,(n,z,G),rfl,F.af s1,λc X=>?_,L,d,λJ s2 r=>?_⟩;. obtain⟨o,e⟩:=Y c X;show⟨o,s1 _ _ e⟩
 . have s3:BV (Nd i t m) H J:=λb o l e=>s2 _ _ l (s1 _ _ e);show k J s3 (Z J _ s3 r)
def Ck(z:AF)(l:List AO):List AO:=l.filter λi=>Aa (i.2.1≠z)
theorem Mi(y z:AF)(l:List AO):Ap y (Ck z l)=if y=z then[]else Ap y l:=by
    unfold Ap Ck;rw[IC];by_cases q:y=z;. rw[AEv q];show IB.mpr λi _ h=>?_;have:=Wd.mp h;show AEy this.2 ((AEy this.1).trans q)
    . rw[AEu q];show IA λi _=>?_;by_cases e:i.2.1=y;.rw[AEx e,AEx (p:=i.2.1≠z) (λD=>q (e.symm.trans D))];rfl
      .rw[AEz e];rfl
theorem iD(y z:AF)(l:List AO):Ap y (Ap z l)=if y=z then Ap z l else[]:=by
 unfold Ap;rw[IC];by_cases q:y=z
 . subst q;rw[AEv rfl];show IA λi _=>S8 _
 . rw[AEu q];show IB.mpr λi _ h=>?_;have:=Wd.mp h;show q ((AEy this.1).symm.trans (AEy this.2))
theorem iF(D:Int)(y:AF)(l:List AO):Ap y (ES D l)=ES D (Ap y l):=by unfold Ap ES;rw[IC,IC];show IA λ_ _=>fR _ _
theorem Jf(y:AF)(a b:List AO):Ap y (a++b)=Ap y a++Ap y b:=GZ _ _
def oR(B:CF):BO:=λE H Q _=>(Ow λ(Z q A C p d:AE)(U D:List (AK×AD))(t:Int)(z:AF)(W:AV)=>Mc (E=[.ref Z,.ref q]) (Fi H Z (.dK U)) (BH U (.inl t)=AA (.ref A)) (H A=AA (.ins B.au C [("step",.ref p),("rows",.ref d)])) (H d=AA (.dK D)) (D.length<1000) (H q=AA (.tup [.int t,.str z,.int W.1,.int W.2.1,.int W.2.2.1,.int W.2.2.2.1,.int W.2.2.2.2.1,.int W.2.2.2.2.2])) ((∀v,BH D (.inr z)=AA v->∃r Y,v=.ref r/\H r=AA (.lst Y)/\Y.length<100000/\∀J x,BV r H J->J r=AA (.lst (Y++[x]))->Mf J x W->Q .non J)) ((BH D (.inr z)=AG->∀r J x,H r=AG->BV d H J->J d=AA (.dK (BJ D (.inr z) (.ref r)))->J r=AA (.lst [x])->Mf J x W->Q .non J)))
theorem lG(T:BQ AH Ag AM):T.qh.Ok BM P w Ag base 2 (oR AM):=by
    show T.qh.ok λnd _ _ _ _ _ hr H vs Q E h=>?_;obtain⟨X,q,gx,dx,p,d,f,F,t,z,⟨y,c,t1,t2,t3,t4⟩,rfl,eg,ev,eo,I,lk',B,k1,k2⟩:_:=h;show⟨_,(Ac (D1 (JI AH (vD (Bu (EY hr.u1 (AB 0) (Av AH (AB 1) AN) (λ_ _=>rfl)) rfl) (Av AH (AB 1) AN) (CW Dq) ⟨rfl,rfl,rfl,rfl⟩) #v[CP #v[Av AH (AB 1) AN,Av AH (AB 1) AN,HN (SR (K:=AH)) (AB 1) (Gm AN) Ia]]))),?_⟩;have s:=Ao (K:=AH) B;have C:∀{W:AI}{l:AE}{U:List AD},W q=AA (.tup [.int t,.str z,.int y,.int c,.int t1,.int t2,.int t3,.int t4])->W l=AA (.lst U)->U.length<100000->(∀J x,BV l W J->J l=AA (.lst (U++[x]))->Mf J x (y,c,t1,t2,t3,t4)->Q .non J)->SX AH "list" (.ref l) W/\JM (Vr (JM (Hz (Vg AH) (FC 1) (Ku (AD.int 2))) (JM (Hz (Vg AH) (FC 1) (Ku (AD.int 3))) (JM (bP (Vh AH) (FC 1) (bM (Ku (AD.int 4))) bL) HP)))) HP [AA (.ref X),AA (.ref q)] W λU R=>Vd (.ref l) U R λ_ J=>Q .non J:=λ{W l U}s1 L g k=>by
      have Y:=Ao (K:=AH) s1;show⟨.inl ⟨rfl,_,AW L⟩,_,_,Y,Aj (j:=2) rfl,_,_,Y,Aj (j:=3) rfl,4,rfl,q,_,rfl,Y,(by change¬(CS 8 0 (AA 4)=0/\CS 8 8 AG=8);decide),λu hu=>?_⟩;show BA hu λR s2 Z=>⟨(by decide:3<=sizeLine),λa ha=>?_⟩;show BA ha λS s3 e3=>?_;have A:=s3 _ _ (s2 _ _ L);show⟨l,U,.ref a,rfl,rfl,A,by rw[DW];(first|lia|omega),?_⟩;have i:∀{b:AE}{o:Bn},S b=AA o->(∀O,o≠.lst O)->(AQ S l (.lst (U++[.ref a]))) b=AA o:=λ{b o}e n=>by rw[AX λz=>by rw[z,A]at e;show n _ (B9 e).symm];show e
      show k _ _ (λb o G e=>by rw[AX G];show s3 _ _ (s2 _ _ e)) Af ⟨a,u,rfl,i e3 (by intro O z;cases z),i (s3 _ _ Z) (by intro O z;cases z)⟩
    show⟨_,_,s,Aj (j:=0) rfl,X,_,rfl,.inl ⟨_,.inl t,eg,rfl,ev.symm⟩,_,⟨eo,T.aw,T.bj,rfl⟩,d,rfl,.inl ⟨_,.inl I⟩,_,_,s,Aj (j:=1) rfl,BY _,λr D=>?_⟩;show BA D λW s1 er=>?_;show⟨F,.inr z,s1 _ _ I,rfl,by rw[DW];(first|lia|omega),λv hv=>?_,λhn=>?_⟩;. obtain⟨r',U,rfl,M,g,k⟩:_:=k1 v hv;show C (s1 _ _ B) (s1 _ _ M) g λJ x s2 Z N=>k J x (λb o G e=>s2 _ _ G (s1 _ _ e)) Z N
    . have m:r≠d:=λe=>by rw[e,I]at D;cases D
      have qd:q≠d:=λe=>by rw[e,I]at B;cases B
      have L:(AQ W d (.dK (BJ F (.inr z) (.ref r)))) r=AA (.lst []):=by rw[AX m];show er
      show C (by rw[AX qd];show s1 _ _ B) L (by decide) λJ x s2 Z N=>k2 hn r J x D (λb o G e=>?_) (s2 _ _ (Gb m) Af) Z N;have nr:b≠r:=λz=>by rw[z,D]at e;cases e
      show s2 _ _ nr (by rw[AX G];show s1 _ _ e)
abbrev EN:=Nat×Nat×Int×Int
def Ja(H:AI)(x:AD)(i:EN):Prop:=∃a,x=.ref a/\H a=AA (.tup [.int (i.1:Int),.int (i.2.1:Int),.int i.2.2.1,.int i.2.2.2])
def LA(H:AI)(x:AD)(p:Nat×AV):Prop:=∃a q,x=.ref a/\H a=AA (.tup [.int (p.1:Int),.int p.2.1,.int p.2.2.1,.ref q])/\Fc H q p.2.2.2
def KL(z:AF)(sd:Bi)(its:List EN):Bi:=its.foldl (λsd x=>BR sd x.1 (Np x.2.1 (sd x.1) (x.2.2.1,z,x.2.2.2))) sd
def Fe(ps:List (Nat×AV))(t:Nat):List AV:=(ps.filter λp=>Aa (p.1=t)).map (·.2)
def Gx(gk:DI)(z:AF)(R:Nat->Option AE):DI:=λt=>match R t with|AA r=>BJ (gk t) (.inr z) (.ref r)|AG=>gk t
structure Lw(ss:List AU)(gd:Nat->FZ)(gk:DI)(z:AF)(H0 H1:AI)(ps:List (Nat×AV))(R:Nat->Option AE):Prop where
 ab:Ba (λb=>∃t∈Al ss,b=(gd t).d) H0 H1
 ai:∀t∈Al ss,H1 (gd t).d=AA (.dK (Gx gk z R t))om:∀t r,R t=AA r->t∈Al ss/\H0 r=AG/\∃xs,H1 r=AA (.lst xs)/\D2 H1 xs (Fe ps t)/\xs≠[]/\xs.length<=ps.length
 abv:∀t,R t=AG->Fe ps t=[]yl:∀t t' r,R t=AA r->R t'=AA r->t=t'
theorem YQ(ps:List (Nat×AV))(t:Nat)(p:AV):Fe (ps++[(t,p)]) t=Fe ps t++[p]:=by unfold Fe;rw[GZ,CQ,Sb (by show AEx rfl)];rfl
theorem RM(ps:List (Nat×AV))(h:u≠t)(p:AV):Fe (ps++[(t,p)]) u=Fe ps u:=by unfold Fe;rw[GZ,CQ,P9 (λe=>h (AEy e).symm)];show C2 _
theorem Lw.acw{K:AI}(h:Lw ss L gk z K C ps R)(e:R t=AA r)(E:C r=AA (.lst xs))(s:BV r C Z)(P:Z r=AA (.lst (xs++[x])))(a:Mf Z x p):Lw ss L gk z K Z (ps++[(t,p)]) R:=by
    have O:Bc C Z:=λb d Y=>s _ _ (λq=>by rw[q,E]at Y;cases Y) Y;lk;obtain⟨Q,M,B,D,I,c,S⟩:=h.om t r e;rw[E]at D;cases D;k_in;show⟨λb o T Y=>s _ _ (λq=>by rw[q,M]at Y;cases Y) (h.ab b o T Y),λU J=>s _ _ (λq=>by have:=h.ai U J;rw[q,E]at this;cases this) (h.ai U J),λU N W=>?_,λU W=>?_,h.yl⟩
    . by_cases q:U=t
      . subst q;rw[e]at W;cases W;show⟨Q,M,_,P,by rw[YQ];show Dh (I.ab O) (.cons a .nil),by simp,by simp;show S⟩
      . obtain⟨J,F,B,D,A,H,G⟩:_:=h.om U N W;have X:N≠r:=λy=>q (h.yl U t r (y▸W) e);show⟨J,F,B,s _ _ X D,by rw[RM _ q];show A.ab O,H,by rw[B8];show WA G⟩
    . have q:U≠t:=λy=>by rw[y,e]at W;cases W
      rw[RM _ q];show h.abv U W
theorem Lw.abt(h:Lw ss Y gk z C L ps R)(c:∀i∈Al ss,∀X∈Al ss,i≠X->(Y i).d≠(Y X).d)(M:t∈Al ss)(e:R t=AG)(m:∃kvs,C (Y t).d=AA (.dK kvs))(G:L r=AG)(s:BV (Y t).d L A)(f:A (Y t).d=AA (.dK (BJ (gk t) (.inr z) (.ref r))))(g:A r=AA (.lst [x]))(j:Mf A x p):Lw ss Y gk z C A (ps++[(t,p)]) (BR R t (AA r)):=by
    have F:=h.ai t M;have l:Bc L A:=λb v E=>s _ _ (λq=>by rw[q,F]at E;cases E) E;have k:C r=AG:=by cases q:C r with|none=>rfl|some o=>
        by_cases n:∃t∈Al ss,r=(Y t).d
        . obtain⟨U,J,rfl⟩:=n;rw[h.ai U J]at G;cases G
        . rw[h.ab r o n q]at G;cases G
    show⟨λb o a E=>s _ _ (λq=>a ⟨t,M,q⟩) (h.ab b o a E),λU J=>?_,λU S W=>?_,λU W=>?_,λt1 t2 S B Z=>?_⟩
    . unfold Gx BR;by_cases q:U=t
      . subst q;rw[AEv rfl];show f
      . rw[AEu q];show s _ _ (λy=>c U J t M q y) (h.ai U J)
    . unfold BR at W;by_cases q:U=t
      . subst q;rw[AEv rfl]at W;cases W;show⟨M,k,_,g,by rw[YQ,h.abv U e];show .cons j .nil,by simp,by simp⟩
      . rw[AEu q]at W;obtain⟨J,N,T,D,I,P,O⟩:_:=h.om U S W;show⟨J,N,T,s _ _ (λy=>by rw[y,F]at D;cases D) D,by rw[RM _ q];show I.ab l,P,by rw[B8];show WA O⟩
    . unfold BR at W;by_cases q:U=t;.rw[AEv q]at W;cases W
      . rw[AEu q]at W;rw[RM _ q];show h.abv U W
    . unfold BR at B Z;have H:∀{u},R u=AA r->False:=λ{u}y=>by obtain⟨_,_,_,D,_⟩:=h.om u r y;rw[G]at D;cases D
      by_cases Q:t1=t
      . by_cases K:t2=t;.rw[Q,K]
        . rw[AEv Q]at B;rw[AEu K]at Z;cases B;show(H Z).elim
      . rw[AEu Q]at B;by_cases K:t2=t
        . rw[AEv K]at Z;cases Z;show(H B).elim
        . rw[AEu K]at Z;show h.yl t1 t2 S B Z
theorem Lw.bw(h:Lw ss I gk z E F ps R)(g:DO AM ex E ss (Al ss) S Z I gg gk)(M:∀c∈ex,∃o,E c=AA o)(u:∀t∈Al ss,BH (gk t) (.inr z)=AG):DO AM ex F ss (Al ss) S Z I (λt=>Cr (gg t) z (Fe ps t)) (Gx gk z R):=by
    have m:∀t∈Al ss,∃J,E (I t).d=AA (.dK J):=λt Y=>by obtain⟨s,_,_,L⟩:=g.jo t Y;show⟨_,L.aj.ai⟩
    have O:∀{b:AE}{o:Bn},E b=AA o->(∀J,o≠.dK J)->F b=AA o:=λ{b o}e n=>h.ab b o (λ⟨t,Y,q⟩=>by obtain⟨J,f⟩:=m t Y;rw[q,f]at e;show n _ (B9 e).symm) e;have T:Bc E F:=λb A e=>O e (by intro J z;cases z);show⟨KY g.ai λo e=>h.ab _ o (λ⟨t,Y,q⟩=>g.md t Y q) e,λt Y=>?_,g.bb,g.md⟩;lk;obtain⟨s,j,k,L⟩:=g.jo t Y;obtain⟨⟨X,i⟩,st,U⟩:=L;k_in;show⟨s,j,k,⟨X,O i (by intro J z;cases z)⟩,T _ _ st,?_⟩;have w:∀q∈gk t,∀{D:AF}{r:AE},q=(.inr D,.ref r)->D≠z:=λq W D r e y=>by have:(Bt z:AK)∈(gk t).map (·.1):=BE.mpr ⟨q,W,by rw[e,y]⟩;show P8 (u t Y) this
    have G:∀q∈gk t,∃(D:AF)(r:AE)(A:List AD),q=(.inr D,.ref r)/\r∉ex/\F r=AA (.lst A)/\D2 F A (Cr (gg t) z (Fe ps t) D)/\A≠[]:=λq W=>by obtain⟨D,r,A,e,n,K,Q,P⟩:=U.om q W;show⟨D,r,A,e,n,O K (by intro J z;cases z),by rw[ER (w q W e)];show Q.ab T,P⟩
    cases H:R t with |none=>
      have B:Gx gk z R t=gk t:=by unfold Gx;rw[H]
      have a:Cr (gg t) z (Fe ps t) z=[]:=by rw[EX];show h.abv t H
      show⟨h.ai t Y,by rw[B];show U.nd,λq W=>G q (by rw[B]at W;show W),λD C=>?_⟩;rw[B];by_cases y:D=z;.rw[y,a]at C;show absurd rfl C
      .rw[ER y]at C;show U.wz D C|some r=>
      have B:Gx gk z R t=BJ (gk t) (.inr z) (.ref r):=by unfold Gx;rw[H]
      obtain⟨_,x,A,K,Q,P,_⟩:_:=h.om t r H;show⟨h.ai t Y,by rw[B];show NA U.nd,λq W=>?_,λD C=>?_⟩
      . rw[B]at W;rcases M7 W with rfl|⟨p,_⟩;.show⟨z,r,A,rfl,(λl=>by obtain⟨o,e⟩:=M r l;rw[x]at e;cases e),K,by rw[EX];show Q,P⟩
        .show G q p
      . rw[B];by_cases y:D=z
        . subst y;lk;obtain⟨v,N⟩:∃v,BH (BJ (gk t) (.inr D) (.ref r)) (.inr D)=AA v:=⟨_,by rw[Gn,AEv rfl]⟩;k_in;show BE.mpr ⟨_,FD N,rfl⟩
        . rw[ER y]at C;obtain⟨v,N⟩:=Lb (U.wz D C);have:BH (BJ (gk t) (.inr z) (.ref r)) (.inr D)=AA v:=by rw[Gn,AEu (λe=>y (Ft e))];show N
          show BE.mpr ⟨_,FD this,rfl⟩
theorem Wy(z:AF)(sd:Bi)(l:List EN)(x:EN):KL z sd (l++[x])=BR (KL z sd l) x.1 (Np x.2.1 (KL z sd l x.1) (x.2.2.1,z,x.2.2.2)):=by unfold KL;rw[yM];rfl
theorem m5(D:k<2)(J:m<2)(p:List AO×List AO)(i:AO):Au m (Np k p i)=if m=k then Au m p++[i]else Au m p:=by unfold Au Np;rcases Gr.mp (DM D)with rfl|rfl<;>rcases Gr.mp (DM J)with rfl|rfl<;>rfl
theorem Tc(z:AF)(sd:Bi)(J:m<2)(t:Nat):∀(n:Nat)(l:List EN),l.length=n->(∀x∈l,x.2.1<2)->Au m (KL z sd l t)=Au m (sd t)++(l.filter λx=>Aa (x.1=t/\x.2.1=m)).map λx=>(x.2.2.1,z,x.2.2.2)
  |0,l,e,_=>by rw[List.length_eq_zero_iff.mp e];show(C2 _).symm|n+1,l,e,h=>by
    have V:l≠[]:=λq=>by rw[q]at e;cases e
    lk;obtain⟨D,x,rfl⟩:∃D x,l=D++[x]:=⟨l.dropLast,l.getLast V,(List.dropLast_concat_getLast V).symm⟩;k_in;have U:=Tc z sd J t n D (by simpa using e) λy W=>h y (Ic _ W);rw[Wy,GZ,CQ];unfold BR;by_cases q:t=x.1
    . subst q;rw[AEv rfl,m5 (h x (by simp)) J,U];by_cases r:m=x.2.1
      . rw[AEv r,Sb (by show AEx ⟨rfl,r.symm⟩),Ea];rfl
      . rw[AEu r,P9 (λy=>r (AEy y).2.symm)];show(AEw _ (C2 _)).symm
    . rw[AEu q,U,P9 (λy=>q (AEy y).1.symm)];show(AEw _ (C2 _)).symm
def HG(z:AF)(its:List EN)(t m:Nat):List AO:=(its.filter λx=>Aa (x.1=t/\x.2.1=m)).map λx=>(x.2.2.1,z,x.2.2.2)
theorem gR(z:AF)(sd:Bi)(D:m<2)(t n:Nat)(l:List EN)(h:∀x∈l,x.2.1<2):(Au m (KL z sd (l.take n) t)).length<=(Au m (sd t)).length+(HG z l t m).length:=by rw[Tc z sd D t _ _ rfl λx J=>h x (cN J),B8];show FX (((yY n l).filter _).map _).length_le _
theorem Lw.af(h:Lw ss V gk z D J ps R)(s:An J U):Lw ss V gk z D U ps R:=⟨λb o A e=>s _ _ (h.ab b o A e),λt Y=>s _ _ (h.ai t Y),λt r e=>by obtain⟨a,b,E,W,C,B,Z⟩:_:=h.om t r e;show⟨a,b,E,s _ _ W,C.ab s.tp,B,Z⟩,h.abv,h.yl⟩
def pA(B:CF):BO:=λI H Q _=>(TM λ(Z:List AE)(J:List AU)(F:DJ)(A:Bi)(C:CI)(W:DI)(z:AF)(p a b:AE)(E G:List AD)(D:List EN)(U:List (Nat×AV))=>Wo (I=[.ref F.x,.str z,.ref p]) (DK B Z H J F A C W) ((∀c∈Z,∃o,H c=AA o)) (H p=AA (.tup [.ref a,.ref b])) (H a=AA (.lst E)) (H b=AA (.lst G)) (Az (Ja H) E D) (Az (LA H) G U) ((∀x∈D,Bq J x.1/\x.2.1<2)) ((∀x∈U,x.1∈Al J)) ((∀t∈Al J,BH (W t) (.inr z)=AG/\(W t).length<900)) ((∀t,Bq J t->∀m,m<2->(Au m (A t)).length+(HG z D t m).length<=1000)) (U.length<90000) (∀Y R,Ba (CU J F) H Y->DK B Z Y J F (KL z A D) (λt=>Cr (C t) z (Fe U t)) (Gx W z R)->(∀t r,R t=AA r->Fe U t≠[])->Q .non Y))
theorem lN(T:BQ AH Ag AM):T.jw.Ok BM P w Ag base 4 (pA AM):=by
    show T.jw.ok λL _ _ _ _ _ hr H vs Q E h=>?_;obtain⟨ex,Z,F,sd,gg,gk,z,p,a,b,xs,ys,Y,ps,rfl,B,hex,ep,ea,eb,wi,wp,ji,tp,kz,bd,lp,k⟩:_:=h;show⟨_,(Bv (C8 DF rfl (Cn (K:=AH) (Av AH (AB 2) AN)) (Jk rfl (EB (CO 3 L) (EB (CO 4 L) (EB (CO 5 L) (EB (CO 6 L) JJ))))) (Ac (D1 (BG (lF T) hr #v[Bu (AB 0) rfl,CP #v[AB 3,AB 4,AB 1,AB 5,AB 6]])))) (Ac (C8 DF rfl (Cn (K:=AH) (Av AH (AB 2) AN)) (Jk rfl (EB (CO 3 L) (EB (CO 7 L) (EB (CO 8 L) (EB (CO 9 L) JJ))))) (Ac (D1 (BG (lG T) hr #v[Bu (AB 0) rfl,AY (OF (K:=AH)) (CP #v[AB 3,AB 1,AB 7,AB 8]) (AB 9)])))))),?_⟩;lk;obtain⟨dx,eo⟩:=B.cg;obtain⟨li,gi⟩:=CN wi;k_in;have f:∀{U:AI},Ba (DR Z F.jd) H U->∀{c:AE}{o:Bn},H c=AA o->(∀D,o≠.dK D)->U c=AA o:=λ{U}s{c o}e n=>s _ _ (λy=>by obtain⟨D,M⟩:=B.cb.tj y;rw[M]at e;show n _ (B9 e).symm) e;showλ_ _ _ _ z1=>⟨_,_,Ao (K:=AH) ep,Aj (j:=0) rfl,a,rfl,⟨_,AW ea⟩,FJ (K:=AH) (xs:=xs) (λn I U=>∃l m o5 o6:Option AD,I=(Wx F.x z p l m o5 o6 AG AG AG)/\Ba (DR Z F.jd) H U/\CY AM ex U Z F.dj F.cp F.jd (KL z sd (Y.take n))) ⟨AG,AG,AG,AG,rfl,λ_ _ _ e=>e,B.cb⟩ (λn I U _ hh=>?_) (λn x I H1 X O=>?_) λI H1 O=>?_⟩;. obtain⟨_,_,_,_,_,s1,_⟩:_:=hh;show AW (f s1 ea (by intro D z;cases z))
    . obtain⟨l,m,o5,o6,rfl,s1,jr⟩:_:=O;have ln:n<Y.length:=by rw[<-li];show(BU.mp X).1
      have A:=CG ln;generalize Y[n]=i at A;have mi:=Cg A;lk;obtain⟨u,rfl,et⟩:=gi n x i X A;obtain⟨hj,hm⟩:=ji i mi;k_in;show⟨u,_,rfl,Ao (f s1 et (by intro D z;cases z)),rfl,_,_,rfl,_,_,rfl,_,_,rfl,_,_,rfl,rfl,_,⟨f s1 eo (by intro D z;cases z),T.ah,T.av,rfl⟩,(by decide:5<=sizeLine),λq hq=>?_⟩;show BA hq λH2 s2 eq=>⟨ex,Z,F.dj,q,F.cp,F.jd,_,i.1,i.2.1,(i.2.2.1,z,i.2.2.2),rfl,jr.af s2,λc hc=>?_,hj,hm,eq,?_,λH3 s3 jr3=>⟨_,_,_,_,rfl,λc o nc e=>s3 _ _ (λy=>nc ⟨i.1,hj,?_⟩) (s2 _ _ (s1 _ _ nc e)),?_⟩⟩
      . obtain⟨o,e⟩:=hex c hc;by_cases y:DR Z F.jd c
        . obtain⟨D,M⟩:=jr.tj y;show⟨_,s2 _ _ M⟩
        .show⟨o,s2 _ _ (s1 _ _ y e)⟩
      .show Ah (gR z sd hm i.1 n Y λx X=>(ji x X).2) (bd i.1 hj i.2.1 hm)
      . rw[y];unfold Nd;split;.show .inl rfl
        .show .inr rfl
      . rw[Dt,A];change CY AM ex H3 Z F.dj F.cp F.jd (KL z sd (Y.take n++[i]));rw[Wy];show jr3
    . lk;obtain⟨l,m,o5,o6,rfl,s1,jr⟩:=O;rw[li,GI]at jr;have N:=B.bw.cx s1 (λc y=>.inr (B.cb.tj y)) (λi hi=>(B.xc i hi).1) B.md;have hex1:∀c∈ex,∃o,H1 c=AA o:=λc hc=>by
        obtain⟨o,e⟩:=hex c hc;by_cases y:DR Z F.jd c
        . obtain⟨D,M⟩:=jr.tj y;show⟨_,M⟩
        .show⟨o,s1 _ _ y e⟩
      have eo1:=f s1 eo (by intro D z;cases z);have eb1:=f s1 eb (by intro D z;cases z);have S:∀t∈Al Z,∃D,H1 (F.gd t).d=AA (.dK D):=λt J=>by obtain⟨s,_,_,g⟩:=N.jo t J;show⟨_,g.aj.ai⟩
      have kt:∀{U:AI},Ba (λb=>∃t∈Al Z,b=(F.gd t).d) H1 U->∀{c:AE}{o:Bn},H1 c=AA o->(∀D,o≠.dK D)->U c=AA o:=λ{U}s{c o}e n=>s _ _ (λ⟨t,J,y⟩=>by obtain⟨D,M⟩:=S t J;rw[y,M]at e;show n _ (B9 e).symm) e;obtain⟨lq,gq⟩:=CN wp;k_in;show z1 _ _ ⟨_,_,Ao (K:=AH) (f s1 ep (by intro D z;cases z)),Aj (j:=1) rfl,b,rfl,⟨_,AW eb1⟩,FJ (K:=AH) (xs:=ys) (λn I U=>(Qw λ(l m o5 o6 o7 o8 o9:Option AD)(R:Nat->Option AE)=>Wr (I=(Wx F.x z p l m o5 o6 o7 o8 o9)) (Lw Z F.gd gk z H1 U (ps.take n) R))) ⟨_,_,_,_,_,_,_,λ_=>AG,rfl,?_⟩ (λn I U _ hh=>?_) (λn x I H2 X O=>?_) λI H2 O=>?_⟩
      . show⟨λ_ _ _ e=>e,λt J=>?_,(λt r e=>by cases e),λt _=>rfl,(λt t' r e=>by cases e)⟩;obtain⟨s,_,_,g⟩:_:=N.jo t J;show g.aj.ai
      . obtain⟨_,_,_,_,_,_,_,_,_,C⟩:_:=hh;show AW (kt C.ab eb1 (by intro D z;cases z))
      . obtain⟨l,m,o5,o6,o7,o8,o9,R,rfl,C⟩:_:=O;have ln:n<ps.length:=by rw[<-lq];show(BU.mp X).1
        have A:=CG ln;generalize ps[n]=i at A;have mi:=Cg A;lk;obtain⟨t,pc⟩:=i;obtain⟨u,q,rfl,et,etl⟩:=gq n x (t,pc) X A;have k2:∀{c:AE}{o:Bn},H c=AA o->(∀D,o≠.dK D)->H2 c=AA o:=λ{c o}e n=>kt C.ab (f s1 e n) n;have J:=tp _ mi;obtain⟨st,es,ev,g⟩:=N.jo t J;obtain⟨dg',eg⟩:=g.cg;k_in;show⟨u,_,rfl,Ao (k2 et (by intro D z;cases z)),rfl,_,_,rfl,_,_,rfl,_,_,rfl,_,_,rfl,rfl,_,⟨k2 eo (by intro D z;cases z),T.ah,T.aq,rfl⟩,(by decide:4<=sizeLine),λc hc=>?_⟩;show BA hc λH3 s3 ec=>?_;have etl3:H3 q=AA (.tup [.int pc.2.2.1,.int pc.2.2.2.1,.int pc.2.2.2.2.1,.int pc.2.2.2.2.2]):=s3 _ _ (k2 etl (by intro D z;cases z));show⟨c,q,_,_,rfl,rfl,Ao ec,Ao etl3,by simp,(by decide:4+4<=sizeLine),(λe=>by cases e),λ_ q2 hq2=>?_⟩;show BA hq2 λH4 s4 e4=>?_;have W:=C.af (s3.aa s4);have e1:∀{v:AD},R t=AG->BH (Gx gk z R t) (.inr z)=AA v->False:=λ{v}e y=>by unfold Gx at y;rw[e]at y;show absurd ((kz t J).1.symm.trans y) (by simp)
        have e2:∀{r:AE},R t=AA r->BH (Gx gk z R t) (.inr z)=AA (.ref r):=λ{r}e=>by unfold Gx;rw[e];show(Gn _ _ _ _).trans (AEv rfl)
        show⟨F.dg,q2,(F.gd t).x,dg',(F.gd t).p,(F.gd t).d,F.ax,Gx gk z R t,(t:Int),z,pc,rfl,KY N.ai λo e=>W.ab _ o (λ⟨t',ht',y⟩=>N.md t' ht' y) e,ev,kt W.ab eg (by intro D z;cases z),W.ai t J,?_,e4,λv hv=>?_,λhn r H5 x hr s5 ed er pa=>?_⟩
        . have:=(kz t J).2;unfold Gx;split;.show Gs (R6 _ _ _) (by(first|lia|omega))
          . (first|lia|omega)
        .cases G:R t with |none=>show(e1 G hv).elim|some r=>
            rw[e2 G]at hv;lk;cases hv;obtain⟨_,_,xs',er,pcs,nx,lx⟩:=W.om t r G;k_in;show⟨r,xs',rfl,er,?_,λH5 x s5 er5 pa=>⟨_,_,_,_,_,_,_,R,rfl,?_⟩⟩;. have:=List.length_take_le n ps;(first|lia|omega)
            . rw[Dt,A];show W.acw G er s5 er5 pa
        . have G:R t=AG:=by cases G:R t with|none=>rfl|some r'=>rw[e2 G]at hn;cases hn
          have eg':Gx gk z R t=gk t:=by unfold Gx;rw[G]
          rw[eg']at ed;show⟨_,_,_,_,_,_,_,BR R t (AA r),rfl,?_⟩;rw[Dt,A];show W.abt N.bb J G (S t J) hr s5 ed er pa
      . obtain⟨l,m,o5,o6,o7,o8,o9,R,rfl,C⟩:_:=O;rw[lq,GI]at C;have sw:Ba (CU Z F) H H2:=λc o nc e=>C.ab _ _ (λy=>nc (.inr y)) (s1 _ _ (λy=>nc (.inl y)) e);have jr2:=jr.cx C.ab (λc⟨t,J,y⟩=>.inr (by rw[y];show S t J)) (λc⟨t,J,y⟩hd=>(B.xc t J).1 (y▸hd)) λ⟨t,J,y⟩=>(B.xc t J).2 y;show k H2 R sw (B.xv sw jr2 (C.bw N hex1 λt J=>(kz t J).1)) λt r e y=>?_;lk;obtain⟨_,_,xs',_,pcs,nx,_⟩:=C.om t r e;rw[y]at pcs;cases pcs;k_in;show nx rfl
theorem Xy{kvs:List (AK×AD)}(h:(kvs.map (·.1)).Nodup):((CM kvs k).map (·.1)).Nodup:=ADv (ABc _ Jz) h
theorem iV{kvs:List (AK×AD)}(h:j∈kvs.map (·.1))(n:j≠k):j∈(CM kvs k).map (·.1):=by obtain⟨q,D,rfl⟩:_:=BE.mp h;show BE.mpr ⟨q,DT.mpr ⟨D,AEx n⟩,rfl⟩
theorem qJ{kvs:List (AK×AD)}{k:AK}:BH (CM kvs k) k=AG:=by cases e:BH (CM kvs k) k with|none=>rfl|some v=>show absurd rfl (O8.mp (FD e)).2
theorem iE(h:y≠z)(l:List AO):((Ck z l).filter λi=>Aa (i.2.1=y))=l.filter λi=>Aa (i.2.1=y):=(Mi y z l).trans (AEu h)
theorem Cb.ade(h:Cb AM ex H x d L)(z:AF)(e:H d=AA (.dK kvs))(s:BV d H H')(M:H' d=AA (.dK (CM kvs (.inr z)))):Cb AM ex H' x d (Ck z L):=by
    lk;obtain⟨⟨K,Y⟩,I,F,n,l,q,c⟩:=h;rw[e]at F;cases F;k_in;have S:Bc H H':=λb E W=>s _ _ (λy=>by rw[y,e]at W;cases W) W;have J:∀p∈CM kvs (.inr z),Lv ex H' (Ck z L) p:=λp B=>by obtain⟨O,P⟩:=O8.mp B;obtain⟨y,r,E,D,rfl,Q,Z,w,C,R,U⟩:=q p O;have T:y≠z:=λt=>P (AEw Bt t);show⟨y,r,E,D,rfl,Q,s _ _ (λt=>by rw[t,e]at Z;cases Z) Z,w.ab S,C,R,by rw[iE T];show U⟩
    show⟨⟨K,s _ _ (λy=>by rw[y,e]at Y;cases Y) Y⟩,_,M,Xy n,?_,J,λi A=>?_⟩
    . have:=Nl (m:=(Ck z L).map λi=>(Bt i.2.1:AK)) (Xy (k:=.inr z) n) λk N=>?_;.rwa[As,As]at this
      . lk;obtain⟨p,B,rfl⟩:=BE.mp N;obtain⟨y,r,E,D,rfl,_,_,_,C,_,U⟩:=J p B;k_in;cases G:(Ck z L).filter λi=>Aa (i.2.1=y)with |nil=>rw[G]at U;show absurd (QC.mp U) C|cons i X=>
          have A:i∈(Ck z L).filter λi=>Aa (i.2.1=y):=by rw[G];show D4
          obtain⟨a,b⟩:=DT.mp A;show BE.mpr ⟨i,a,AEw Bt (AEy b)⟩
    . obtain⟨a,b⟩:=DT.mp A;show iV (c i a) λt=>AEy b (Ft t)
def Mo(z:AF)(m:Nat)(p:List AO×List AO):List AO×List AO:=if m=0 then p else if m=1 then(Ck z p.1,p.2)else(Ck z p.1,Ck z p.2)
theorem DP.ade(Z:m<2)(h:DP AM ex H j Y U W D J wi (Mo z m L).1 (Mo z m L).2):∃x d,([.ref U,.ref W]:List AD)[m]?=AA (.ref x)/\(d=D\/d=J)/\Cb AM ex H x d (Au m L)/\∀H',BV d H H'->Cb AM ex H' x d (Ck z (Au m L))->DP AM ex H' j Y U W D J wi (Mo z (m+1) L).1 (Mo z (m+1) L).2:=by
 rcases Gr.mp (DM Z)with rfl|rfl;.show⟨_,_,rfl,.inl rfl,h.s0,λH' s r=>h.aap s r⟩
 .show⟨_,_,rfl,.inr rfl,h.s1,λH' s r=>h.aaq s r⟩
theorem XH(z:AF)(a b:List EN)(t m:Nat):HG z (a++b) t m=HG z a t m++HG z b t m:=by unfold HG;rw[GZ,CQ]
theorem W6{G:List AD->X->Prop}{T:A1}{H:AI}{Q:BN}(m:∀o H Q,(∀p,H p=AG->Q (.ref p) (AQ H p (.tup pre)))->T (o::E.map (FA σ)) H Q)(hn:xs.length<=1000000)(u:pre≠[])(lp:pre.length<=10)(d:H r=AA (.lst xs))(w:Az (λx y=>∃a t,x=.ref a/\H a=AA (.tup t)/\G t y) xs M)(n:∀t y,G t y->t≠[]/\t.length<=10)(k:∀H' D ys,An H H'->H' D=AA (.lst ys)->Az (λx y=>∃a t,x=.ref a/\H' a=AA (.tup (pre++t))/\G t y) ys M->Q (.ref D) H'):Kd 1 E (G1 0) P7 (Hz (Ve AH) T (FC 0)) σ Q (Kf AH r) H:=by
    obtain⟨S,f⟩:=CN w;have sz:Ay=16777216:=DW;show Jo (K:=AH) (xs:=xs) (λj Y Z H'=>(∃o,Y=o::E.map (FA σ))/\An H H'/\Az (λx y=>∃a t,x=.ref a/\H' a=AA (.tup (pre++t))/\G t y) Z (M.take j)) (by(first|lia|omega)) ⟨⟨AG,rfl⟩,C6 _,.nil⟩ (λj Y J H' i=>AW (i.2.1 _ _ d)) (λj y Y J N R1 R _ F s=>?_) λY J N _ F D O=>?_
    . obtain⟨⟨o,rfl⟩,U,W⟩:_:=F;have l:j<M.length:=by rw[<-S];show(BU.mp R).1
      have C:=CG l;generalize M[j]=y0 at C;lk;obtain⟨a,t,rfl,b,g⟩:=f j y _ R C;obtain⟨v,tl⟩:=n _ _ g;k_in;show m (AA (.ref a)) N _ λp I=>?_;show BA I λz L c=>?_;show⟨p,a,pre,t,rfl,rfl,Ao c,Ao (L _ _ (U _ _ b)),u,by(first|lia|omega),(λe=>absurd e v),λ_ q P=>s _ _ _ ⟨⟨_,rfl⟩,(U.aa L).aa (CL P),?_⟩⟩;rw[Dt,C];show Dh (Ej (λ_ _ h=>?_) W) (.cons ⟨q,t,rfl,Af,g⟩ .nil);obtain⟨a,t,A,B,g⟩:_:=h;show⟨a,t,A,CL P _ _ (L _ _ B),g⟩
    . obtain⟨_,U,W⟩:_:=F;rw[S,GI]at W;show k _ D J (U.aa (CL O)) Af (Ej (λ_ _ h=>?_) W);obtain⟨a,t,A,B,g⟩:_:=h;show⟨a,t,A,CL O _ _ B,g⟩
theorem mE{st:AU}(Y:EC AM ex H x p d st g kvs)(T:BQ AH Ag AM){z:AF}(I:σ[1]?=AA (AA (.str z)))(N:σ[i]?=AA (AA (.ref x)))(k:∀H' r xs,BV d H H'->EC AM ex H' x p d st (Cr g z []) (CM kvs (.inr z))->H' r=AA (.lst xs)->D2 H' xs (g z)->Q (.ref r) H'):Vn (Kv AH (FC i) "rows") (FC 1) (P5 HP) σ H Q:=by
    obtain⟨G,W⟩:=Y.cg;have L:=Y.aj.ai;change GF σ[i]? _;rw[N];show⟨_,⟨W,T.aw,T.bj,rfl⟩,d,rfl,.inl ⟨_,.inl L⟩,?_⟩;change GF σ[1]? _;rw[I];show⟨BY _,λu S=>?_⟩;show BA S λJ s1 P=>?_;have r1:=Y.af s1;have D:=r1.aj.ai;show⟨kvs,.inr z,D,rfl,λv X=>?_,λC=>?_⟩
    . lk;obtain⟨a,r,xs,e,_,A,c,_⟩:=r1.aj.om _ (FD X);cases e;k_in;have U:BV d J (AQ J d (.dK (CM kvs (.inr z)))):=zzu
      have F:=U.tp D (by intro xs y;cases y);have E:∀{b:AE}{o:Bn},J b=AA o->(∀kvs,o≠.dK kvs)->b≠d:=λ{b o}e n y=>by rw[y,D]at e;show n _ (B9 e).symm
      show k _ r xs (λb o Z e=>U _ _ Z (s1 _ _ e)) ⟨⟨G,U _ _ (E (s1 _ _ W) (by intro kvs y;cases y)) (s1 _ _ W)⟩,F _ _ r1.iq,r1.aj.uz z⟩ (U _ _ (E A (by intro kvs y;cases y)) A) (c.ab F)
    . have B:g z=[]:=ABE λy=>P8 C (r1.aj.wz z y);have M:Cr g z []=g:=funext λy=>by
        by_cases q:y=z;.rw[q,EX,B]
        .show ER q
      have O:CM kvs (.inr z)=kvs:=NI.mpr λq R=>AEx λy=>P8 C (BE.mpr ⟨q,R,y⟩);show k J u [] (λb o _ e=>s1 _ _ e) (by rw[M,O];show r1) P ?_;rw[B];show .nil
theorem DO.adp(g:DO AM ex H ss J U D W gg gk)(h:∀i∈J,gk' i=gk i):DO AM ex H ss J U D W gg gk':=⟨g.ai,λi Y=>by rw[h i Y];show g.jo i Y,g.bb,g.md⟩
theorem mJ(a b:List (Nat×AV))(t:Nat):Fe (a++b) t=Fe a t++Fe b t:=by unfold Fe;rw[GZ,CQ]
theorem mL(M:List AV)(i t:Nat):Fe (M.map λy=>(i,y)) t=if t=i then M else[]:=by
 unfold Fe;rw[NJ,Cu];by_cases q:t=i
 . have e:M.filter ((λp:Nat×AV=>Aa (p.1=t))∘λy=>(i,y))=M:=NI.mpr λy _=>AEx q.symm;rw[AEv q,e];show V3 _
 . have e:M.filter ((λp:Nat×AV=>Aa (p.1=t))∘λy=>(i,y))=[]:=IB.mpr λy _ h=>q (AEy h).symm;rw[AEu q,e];rfl
def GB(z:AF)(sd:Bi):Bi:=λt=>(Ck z (sd t).1,Ck z (sd t).2)
def Cy(ss:List AU):List Nat:=(Ec ss.length).filter (O6 ss)
theorem Jh:i∈Cy ss↔Bq ss i:=by show DT.trans ⟨λh=>Tw.mp h.2,λh=>⟨?_,Tw.mpr h⟩⟩;obtain⟨_,_,_,_,e⟩:_:=h;show V6.mpr (BU.mp e).1
def Ji(p:Int×Int):List AK:=[.inl p.1,.inl p.2]
def Hl(i:AO):Int×Int:=(i.1,i.2.2)
theorem Xj(h:Ji a=Ji b):a=b:=NO (Fq (C9 h).1) (Fq (C9 (C9 h).2).1)
noncomputable def Fg(L:List AO):List (Int×Int):=Wf λM=>Cs (M.map Ji)/\M.Perm (L.map Hl)
theorem Ub(h:Cs (M.map Ji))(p:M.Perm (L.map Hl)):Fg L=M:=by have q:=Wg (p:=λM=>Cs (M.map Ji)/\M.Perm (L.map Hl)) ⟨M,h,p⟩;show Ml (ON ((q.2.trans p.symm).map Ji) q.1 h) λa _ b _ e=>Xj e
theorem Yt(p:L.Perm D):Fg L=Fg D:=by unfold Fg;congr 1;funext M;show propext ⟨λh=>⟨h.1,h.2.trans (p.map _)⟩,λh=>⟨h.1,h.2.trans (p.map _).symm⟩⟩
def LK(L:List AO)(M:List AO):Prop:=Cs (M.map Fu)/\M.Perm L
theorem iX(h:Fu a=Fu b):a=b:=NO (Fq (C9 (C9 h).2).1) (NO (Ft (C9 h).1) (Fq (C9 (C9 (C9 h).2).2).1))
theorem pO(h:LK L M)(U:LK D J)(p:L.Perm D):M=J:=Ml (ON ((h.2.trans (p.trans U.2.symm)).map Fu) h.1 U.1) λa _ b _ e=>iX e
noncomputable def Ff(z:AF)(sd:Bi)(t m:Nat):List EN:=(Fg (Ap z (Au m (sd t)))).map λy=>(t,m,y.1,y.2)
noncomputable def L7(z:AF)(sd:Bi)(t:Nat):List EN:=Ff z sd t 0++Ff z sd t 1
noncomputable def Es(z:AF)(sd:Bi)(l:List Nat):List EN:=l.flatMap (L7 z sd)
def GA(z:AF)(gg:CI)(l:List Nat):List (Nat×AV):=l.flatMap λt=>(gg t z).map λp=>(t,p)
theorem Ms{D J:Type}{f:D->List J}{l:List D}{i:Nat}{x:D}(e:l[i]?=AA x):(l.take (i+1)).flatMap f=(l.take i).flatMap f++f x:=by rw[Dt,e,Vz];congr 1;show C2 _
theorem Q4{f g:D->List U}:∀{l:List D},(∀x∈l,f x=g x)->l.flatMap f=l.flatMap g|[],_=>rfl|x::l,h=>by rw[Ek,Ek,h x (.head _),Q4 λy J=>h y (.tail _ J)]
def Qs(z:AF)(ss:List AU)(sd sd':Bi):Prop:=∀t,Bq ss t->(Ap z (sd t).1).Perm (Ap z (sd' t).1)/\(Ap z (sd t).2).Perm (Ap z (sd' t).2)
theorem YX(h:Qs z ss sd sd')(D:Bq ss t)(m:Nat):Ff z sd t m=Ff z sd' t m:=by
 unfold Ff Au;split;.rw[Yt (h t D).1]
 .rw[Yt (h t D).2]
theorem Xl(h:Qs z ss sd sd'):Es z sd (Cy ss)=Es z sd' (Cy ss):=Q4 λt D=>by have D:=Jh.mp D;unfold L7;rw[YX h D,YX h D]
theorem Xn(h:∀t∈l,gg t z=gg' t z):GA z gg l=GA z gg' l:=Q4 λt D=>by rw[h t D]
theorem Ys:Fg []=[]:=Ub .nil .nil
theorem T1(h:∀t,Bq ss t->Ap z (sd t).1=[]/\Ap z (sd t).2=[]):Es z sd (Cy ss)=[]:=cD.mpr λt D=>by obtain⟨a,b⟩:=h t (Jh.mp D);unfold L7 Ff Au;rw[AEv rfl,AEu (by decide),a,b,Ys];rfl
theorem T2(h:∀t∈l,gg t z=[]):GA z gg l=[]:=cD.mpr λt D=>by rw[h t D];rfl
theorem iQ(ex:∀t,Bq ss t->∀m,m<2->(Fg (Ap z (Au m (sd t)))).Perm ((Ap z (Au m (sd t))).map Hl))(h:Es z sd (Cy ss)=[]):∀t,Bq ss t->Ap z (sd t).1=[]/\Ap z (sd t).2=[]:=λt D=>by have e:=cD.mp h t (Jh.mpr D);unfold L7 Ff at e;obtain⟨a,b⟩:=List.append_eq_nil_iff.mp e;have J:=ex t D 0 (by decide);have U:=ex t D 1 (by decide);rw[V2.mp a]at J;rw[V2.mp b]at U;show⟨V2.mp (QC.mp J.symm),V2.mp (QC.mp U.symm)⟩
theorem iS(h:GA z gg l=[]):∀t∈l,gg t z=[]:=λt D=>V2.mp (cD.mp h t D)
theorem YY(sd:Cs kss)(D:kss.Perm ((Ap z L).map Et)):kss=(Fg (Ap z L)).map Ji:=by
 have e:(Ap z L).map Et=((Ap z L).map Hl).map Ji:=by rw[Cu];rfl
 rw[e]at D;obtain⟨M,J,rfl⟩:_:=PX D;rw[Ub sd J]
theorem Cb.aac(h:Cb AM ex H x d L)(z:AF):(Fg (Ap z L)).Perm ((Ap z L).map Hl):=by
  obtain⟨Z,e,_⟩:_:=h.aj;rcases h.om z e with⟨_,Y⟩|⟨r,E,J,_,_,_,_,_,C,B⟩
  . have U:Ap z L=[]:=Y;rw[U,Ys];show .nil
  . have D:J.Perm ((Ap z L).map Et):=B;have W:=YY C D;have e:(Ap z L).map Et=((Ap z L).map Hl).map Ji:=by rw[Cu];rfl
    rw[W,e]at D;obtain⟨M,A,V⟩:_:=PX D;rw[Ml V λa _ b _ e=>Xj e];show A
theorem CY.aac(Z:CY AM ex H ss J D Y sd)(z:AF)(t:Nat)(W:Bq ss t)(m:Nat)(U:m<2):(Fg (Ap z (Au m (sd t)))).Perm ((Ap z (Au m (sd t))).map Hl):=by lk;obtain⟨_,_,_,_,e⟩:=W;obtain⟨_,_,_,A⟩:=(Z.dc t _ _ _ _ e).2.acb U;k_in;show A.aac z
theorem iC(Z:m<2)(A:Bq ss t)(p:(Fg (Ap z (Au m (sd t)))).Perm ((Ap z (Au m (sd t))).map Hl)):(HG z (Es z sd (Cy ss)) t m).Perm (Ap z (Au m (sd t))):=by
  have D:∀i k,HG z (Ff z sd i k) t m=if t=i/\m=k then(Fg (Ap z (Au m (sd t)))).map (λy=>(y.1,z,y.2))else[]:=λi k=>by
    unfold HG Ff;rw[NJ,Cu];by_cases q:t=i/\m=k
    . obtain⟨rfl,rfl⟩:=q;have e:(Fg (Ap z (Au m (sd t)))).filter ((λx:EN=>Aa (x.1=t/\x.2.1=m))∘λy=>(t,m,y.1,y.2))=Fg (Ap z (Au m (sd t))):=NI.mpr λy _=>AEx ⟨rfl,rfl⟩;rw[AEv ⟨rfl,rfl⟩,e];rfl
    . rw[AEu q,IB.mpr λy _ h=>q ⟨(AEy h).1.symm,(AEy h).2.symm⟩];rfl
  have V:∀i,HG z (L7 z sd i) t m=if t=i then(Fg (Ap z (Au m (sd t)))).map (λy=>(y.1,z,y.2))else[]:=λi=>by
    unfold L7;rw[XH,D,D];by_cases q:t=i
    . rw[AEv q];rcases Gr.mp (DM Z)with rfl|rfl;.rw[AEv ⟨q,rfl⟩,AEu (by(first|lia|omega)),C2]
      .rw[AEu (by(first|lia|omega)),AEv ⟨q,rfl⟩,Sf]
    . rw[AEu q,AEu λh=>q h.1,AEu λh=>q h.1];rfl
  have U:∀{l:List Nat},l.Nodup->HG z (Es z sd l) t m=if t∈l then(Fg (Ap z (Au m (sd t)))).map (λy=>(y.1,z,y.2))else[]:=λ{l}n=>by induction l with|nil=>rfl|cons i l W=>
      obtain⟨B,C⟩:=IE.mp n;unfold Es at W⊢;rw[Ek,XH,V,W C];by_cases q:t=i;. subst q;rw[AEv rfl,AEu B,AEv (.head _),C2]
      . rw[AEu q,Sf];by_cases J:t∈l;.rw[AEv J,AEv (.tail _ J)]
        .rw[AEu J,AEu λh=>(Ca.mp h).elim q J]
  rw[U (l:=Cy ss) (yT.sublist Jz),AEv (Jh.mpr A)];show(p.map _).trans (.of_eq ?_);rw[Cu];show(MS λi Y=>?_).trans (V3 _);change(i.1,z,i.2.2)=i;rw[<-AEy (DT.mp Y).2]
theorem Xk:∀x∈Es z sd (Cy ss),Bq ss x.1/\x.2.1<2:=λx D=>by
 obtain⟨t,J,D⟩:_:=V4.mp D;rcases DS.mp D with D|D<;>obtain⟨y,_,rfl⟩:=BE.mp D;.show⟨Jh.mp J,(by decide:0<2)⟩
 .show⟨Jh.mp J,(by decide:1<2)⟩
theorem mK(n:l.Nodup):Fe (GA z gg l) t=if t∈l then gg t z else[]:=by induction l with |nil=>rfl|cons i l J=>
    obtain⟨U,V⟩:=IE.mp n;unfold GA at J⊢;rw[Ek,mJ,mL,J V];by_cases q:t=i;. subst q;rw[AEv rfl,AEu U,AEv (.head _),C2]
    . rw[AEu q,Sf];by_cases D:t∈l;.rw[AEv D,AEv (.tail _ D)]
      .rw[AEu D,AEu λh=>(Ca.mp h).elim q D]
theorem iR:∀x∈GA z gg l,x.1∈l:=λx D=>by lk;obtain⟨t,J,D⟩:=V4.mp D;obtain⟨y,_,rfl⟩:=BE.mp D;k_in;show J
theorem Xm(h:∀t∈l,(gg t z).length<=n):(GA z gg l).length<=n*l.length:=by induction l with|nil=>show BY _|cons i l U=>have D:=U λt J=>h t (.tail _ J);have V:=h i (.head _);unfold GA at D⊢;rw[Ek,B8,As,Kw,Nat.mul_succ];(first|lia|omega)
def Fb(H H':AI):Prop:=∀b o,H b=AA o->(∀C J U,o≠.ins C J U)->(∀D,o≠.dK D)->(∀u D,o≠.frz u (.dK D))->H' b=AA o
theorem Fb.aaj(h:Fb H H')(e:H b=AA (.lst xs)):H' b=AA (.lst xs):=h b _ e (by intro _ _ _ z;cases z) (by intro _ z;cases z) (by intro _ _ z;cases z)
theorem Fb.tp(h:Fb H H'):Bc H H':=λb _ e=>h b _ e (by intro _ _ _ z;cases z) (by intro _ z;cases z) (by intro _ _ z;cases z)
theorem YV(t:Fb H H')(h:Fi H a u)(n:(∀C D J,u≠.ins C D J)/\(∀kvs,u≠.dK kvs)/\∀o kvs,u≠.frz o (.dK kvs)):Fi H' a u:=h.elim (λe=>.inl (t a _ e n.1 n.2.1 n.2.2)) λh=>by obtain⟨o,e⟩:=h;show .inr ⟨o,t a _ e (by intro _ _ _ z;cases z) (by intro _ z;cases z) λU kvs z=>by cases z;show n.2.1 _ rfl⟩
theorem pL(t:Fb H H')(h:B7 AH H a xs):B7 AH H' a xs:=h.imp (λh=>YV t h ⟨(by intro _ _ _ z;cases z),(by intro _ z;cases z),by intro _ _ z;cases z⟩) id
theorem pN(t:Fb H H')(h:Cm AH H a xs):Cm AH H' a xs:=h.imp (λh=>YV t h ⟨(by intro _ _ _ z;cases z),(by intro _ z;cases z),by intro _ _ z;cases z⟩) id
mutual theorem HF{H H':AI}(t:Fb H H'):∀{x:AD}{d:DG},DZ AH H x d->DZ AH H' x d|_,_,.non=>.non|_,_,.bl b=>.bl b|_,_,.int i=>.int i|_,_,.str x=>.str x|_,_,.lst h g=>.lst (pL t h) (KN t g)|_,_,.tup h g=>.tup (pN t h) (KN t g)theorem KN{H H':AI}(t:Fb H H'):∀{xs:List AD}{ds:List DG},FI AH H xs ds->FI AH H' xs ds|_,_,.nil=>.nil|_,_,.cons a b=>.cons (HF t a) (KN t b)end
theorem Eu(s:An H H'):Fb H H':=λb o e _ _ _=>s b o e
theorem Fb.aa(a:Fb H D)(b:Fb D J):Fb H J:=λc o e n m q=>b c o (a c o e n m q) n m q
theorem Q2:∀{xs ys:List AD}{D E:List DG},FI AH H xs D->FI AH H ys E->FI AH H (xs++ys) (D++E)|_,_,_,_,.nil,h=>h|_,_,_,_,.cons a b,h=>.cons a (Q2 b h)
theorem Ba.lt(s:Ba p H H')(h:∀b,p b->∃kvs,H b=AA (.dK kvs)):Fb H H':=λb o e _ J _=>s b o (λz=>by obtain⟨kvs,D⟩:=h b z;rw[e]at D;show J _ (B9 D)) e
def Nh(i:EN):DG:=.tuple [.int (i.1:Int),.int (i.2.1:Int),.int i.2.2.1,.int i.2.2.2]
def Nn(p:Nat×AV):DG:=.tuple [.int (p.1:Int),.int p.2.1,.int p.2.2.1,.tuple [.int p.2.2.2.1,.int p.2.2.2.2.1,.int p.2.2.2.2.2.1,.int p.2.2.2.2.2.2]]
def KS(its:List EN)(ps:List (Nat×AV)):DG:=.tuple [.list (its.map Nh),.list (ps.map Nn)]
theorem iO(h:Az (Ja H) xs its):FI AH H xs (its.map Nh):=by induction h with|nil=>show .nil|cons a _ D=>obtain⟨a,rfl,e⟩:_:=a;show .cons (.tup (Ao e) (.cons (.int _) (.cons (.int _) (.cons (.int _) (.cons (.int _) .nil))))) D
theorem l8(h:Az (LA H) xs ps):FI AH H xs (ps.map Nn):=by induction h with|nil=>show .nil|cons a _ J=>obtain⟨a,q,rfl,e,D⟩:_:=a;show .cons (.tup (Ao e) (.cons (.int _) (.cons (.int _) (.cons (.int _) (.cons (.tup (Ao D) (.cons (.int _) (.cons (.int _) (.cons (.int _) (.cons (.int _) .nil))))) .nil))))) J
inductive Oy(H:AI)(r a b:AE)(its:List EN)(ps:List (Nat×AV)):Prop|mk(xs ys:List AD)(er:H r=AA (.tup [.ref a,.ref b]))(ea:H a=AA (.lst xs))(eb:H b=AA (.lst ys))(pi:Az (Ja H) xs its)(pp:Az (LA H) ys ps)
theorem Oy.dv(h:Oy H r a b its ps):DZ AH H (.ref r) (KS its ps):=by obtain⟨Y,Z,U,D,J,V,W⟩:_:=h;show .tup (Ao U) (.cons (.lst (AW D) (iO V)) (.cons (.lst (AW J) (l8 W)) .nil))
theorem KR(h:Az (Ja H) xs its)(t:Bc H H'):Az (Ja H') xs its:=Ej (λ_ _ J=>by obtain⟨a,e,D⟩:=J;show⟨a,e,t _ _ D⟩) h
theorem KU(h:Az (LA H) xs ps)(t:Bc H H'):Az (LA H') xs ps:=Ej (λ_ _ U=>by obtain⟨a,q,e,D,J⟩:=U;show⟨a,q,e,t _ _ D,t _ _ J⟩) h
theorem Oy.lt(h:Oy H r a b its ps)(t:Fb H H'):Oy H' r a b its ps:=by obtain⟨Y,Z,U,D,J,V,W⟩:_:=h;show⟨Y,Z,t.tp _ _ U,t.aaj D,t.aaj J,KR V t.tp,KU W t.tp⟩
theorem LH(its:List EN)(ps:List (Nat×AV)):F7 (KS its ps)=AJ:=by
 have a:∀its:List EN,FY (its.map Nh)=AJ/\EU (its.map Nh)<=3:=λits=>by induction its with|nil=>show⟨rfl,by decide⟩|cons i l D=>show⟨by simp[Nh,FY,GJ,D.1],by simp[Nh,EU,GK];(first|lia|omega)⟩
 have b:∀ps:List (Nat×AV),FY (ps.map Nn)=AJ/\EU (ps.map Nn)<=3:=λps=>by induction ps with|nil=>show⟨rfl,by decide⟩|cons i l D=>show⟨by simp[Nn,FY,GJ,D.1],by simp[Nn,EU,GK];(first|lia|omega)⟩
 lk;obtain⟨J,V⟩:=a its;obtain⟨U,W⟩:=b ps;k_in;simp[F7,KS,GJ,FY,GK,EU,J,U];(first|lia|omega)
theorem Xo{ks:List AK}{l:List Nat}(U:ks.Perm (l.map λt:Nat=>.inl (t:Int)))(ps:ks.Pairwise λa b=>Dl b a=AR)(V:l.Pairwise (.<.)):ks=l.map λt:Nat=>.inl (t:Int):=by
 have e:∀(a b:AK),Bf [b] [a]=Dl b a:=λa b=>by
  change(if b=a then AR else Dl b a)=_;by_cases q:b=a;.rw[AEv q,q,Ry]
  .rw[AEu q]
 have D:Cs (ks.map λk=>[k]):=Eb.mpr (ps.imp λ{a b}h=>(e a b).trans h);have J:Cs ((l.map λt:Nat=>(C5 (t:Int):AK)).map λk=>[k]):=Eb.mpr (Eb.mpr (V.imp λ{a b:Nat}h=>(e (.inl (a:Int)) (.inl (b:Int))).trans (AEz (show¬(b:Int)<(a:Int)by(first|lia|omega)))));show Ml (ON (U.map _) D J) λa _ b _ e=>(C9 e).1
theorem iP(h:Jb ss ss.length W D){n i:Nat}(U:D[n]?=AA (.inl (i:Int),v)):(Cy ss)[n]?=AA i:=by
 have e:(D.map (·.1))[n]?=AA (.inl (i:Int)):=by rw[Bs,U];rfl
 rw[h.yr,Bs]at e;obtain⟨j,J,e⟩:=Du.mp e;rw[<-Iv.mp (Fq e)];show J
theorem Tu{J:List Nat}(h:K9 J W D){n i:Nat}(Y:D[n]?=AA (.inl (i:Int),v)):J[n]?=AA i:=by
 have e:(D.map (·.1))[n]?=AA (.inl (i:Int)):=by rw[Bs,Y];rfl
 rw[h.yr,Bs]at e;obtain⟨j,U,e⟩:=Du.mp e;rw[<-Iv.mp (Fq e)];show U
theorem XO(s:Ba p H H')(h:∀b,p b->∃kvs,H' b=AA (.dK kvs))(e:H' a=AG):H a=AG:=by cases q:H a with|none=>rfl|some o=>
 by_cases y:p a
 . obtain⟨kvs,D⟩:=h a y;rw[e]at D;cases D
 . rw[s a o y q]at e;cases e
theorem mF(I:Cb AM ex H x d L)(T:BQ AH Ag AM){z:AF}(O:σ[1]?=AA (AA (.str z)))(P:σ[i]?=AA (AA (.ref x)))(k:∀H' r xs kss,BV d H H'->Cb AM ex H' x d (Ck z L)->H' r=AA (.lst xs)->Cc H' xs kss->Cs kss->kss.Perm ((Ap z L).map Et)->Q (.ref r) H'):Vn (Kv AH (FC i) "rows") (FC 1) (P5 HP) σ H Q:=by
    lk;obtain⟨M,F⟩:=I.cg;obtain⟨_,J,Y,_⟩:=I;k_in;have C:Cb AM ex H x d L:=⟨⟨M,F⟩,J,Y,‹_›⟩;change GF σ[i]? _;rw[P];show⟨_,⟨F,T.cq,T.bx,rfl⟩,d,rfl,.inl ⟨_,.inl Y⟩,?_⟩;change GF σ[1]? _;rw[O];show⟨BY _,λu a=>?_⟩;show BA a λW s1 S=>?_;have D:=s1 _ _ Y;have r1:=C.af s1;show⟨J,.inr z,D,rfl,λv U=>?_,λG=>?_⟩
    . rcases r1.om z D with⟨R,_⟩|⟨r,xs,kss,A,j,Z,w,h,g,f⟩;.rw[R]at U;cases U
      . rw[A]at U;cases U;have c:r≠d:=λy=>by rw[y,D]at Z;cases Z
        have V:BV d W (AQ W d (.dK (CM J (.inr z)))):=zzu
        show k _ r xs kss (λb o B e=>V _ _ B (s1 _ _ e)) (r1.ade z D V Af) (V _ _ c Z) (w.ab (V.tp D (by intro xs y;cases y))) g f
    . rcases r1.om z D with⟨_,E⟩|⟨r,xs,kss,A,_⟩
      . have N:Ck z L=L:=NI.mpr λi X=>AEx λy=>by have:i∈L.filter λi=>Aa (i.2.1=z):=DT.mpr ⟨X,AEx y⟩;rw[E]at this;cases this
        show k W u [] [] (λb o _ e=>s1 _ _ e) (by rw[N];show r1) S .nil .nil ?_;change yH [] ((L.filter λi=>Aa (i.2.1=z)).map Et);rw[E];show .nil
      .rw[A]at G;cases G
def nR(W:CF):BO:=λZ H Q _=>(KG λ(D:List AU)(F:DJ)(V:Bi)(U:CI)(Y:DI)(z:AF)=>HZ (Z=[.ref F.x,.str z]) (DK W [] H D F V U Y) (D.length<=8) (F.cp.length<=8) ((∀t,Bq D t->∀m,m<2->(Au m (V t)).length<=1000)) ((∀t∈Al D,(U t z).length<=3000)) (∀J p a b,Ba (CU D F) H J->DK W [] J D F (GB z V) (λt=>Cr (U t) z []) (λt=>CM (Y t) (.inr z))->H p=AG->H a=AG->H b=AG->a≠b->Oy J p a b (Es z V (Cy D)) (GA z U (Al D))->Q (.ref p) J))
theorem UB(T:BQ AH Ag AM):T.ju.Ok BM P w Ag base 2 (nR AM):=by
    show T.ju.ok λnd _ _ _ _ _ hr H vs Q E h=>?_;obtain⟨ss,F,sd,gg,gk,z,rfl,hb,lss,ljk,bs,bg,k⟩:_:=h;show⟨_,(Bv (BC 2 nd (CW Dq)) (Bv (LY (C8 DF rfl (VZ (Bu (AB 0) rfl) rfl rfl) (Jk rfl (EB (CO 3 nd) (EB (CO 4 nd) JJ))) (Ac (C8 DF rfl (P0 (K:=AH) (by rfl) T.fi (Bu (AB 4) rfl)) (Jk rfl (EB (CO 5 nd) (EB (CO 6 nd) JJ))) (Ac (D1 (Kr (K:=AH) Lf OZ QN M8 (AB 2) #v[(Hx (DC Ya) [("place",3),("side",5)] ⟨rfl,rfl,rfl,rfl,trivial⟩ (Cn (K:=AH) (aH (Bu (AB 6) rfl) (AB 1) (CW Dq) ⟨rfl,rfl,rfl,rfl⟩)) (λ_ _ _ _=>Hy) (λ_ _ _ _=>(AY (OF (K:=AH)) (CP #v[AB 1,AB 2]) (AB 0))))]))))))) (Bv (BC 7 nd (CW Dq)) (Bv (LY (C8 DF rfl (VZ (Bu (AB 0) rfl) rfl rfl) (Jk rfl (EB (CO 3 nd) (EB (CO 8 nd) JJ))) (Ac (D1 (Kr (K:=AH) Lf OZ QN M8 (AB 7) #v[(Hx (DC Ya) [("place",3)] ⟨rfl,rfl,trivial⟩ (Cn (K:=AH) (aH (Bu (AB 8) rfl) (AB 1) (CW Dq) ⟨rfl,rfl,rfl,rfl⟩)) (λ_ _ _ _=>Hy) (λ_ _ _ _=>(AY (OF (K:=AH)) (CP #v[AB 1]) (AB 0))))]))))) (Ac (BI (CP #v[AB 2,AB 7]))))))),?_⟩;have sz:Ay=16777216:=DW;obtain⟨dx,eo⟩:=hb.cg;showλ_ _ _ _ z1=>⟨BY _,λtl htl=>z1 _ _ ?_⟩;show BA (o:=.lst []) htl λH0 s0 et0=>?_;have jr0:=(hb.cb.gv htl).af s0;have ej0:=s0 _ _ hb.di;have eo0:=s0 _ _ eo;showλ_ _ _ _ z2=>⟨F.dj,(λo u y=>by rw[ej0]at y;cases y),_,⟨eo0,T.ah,T.av,rfl⟩,F.dj,F.cp,rfl,ej0,λo H1 e1=>?_⟩;subst e1;have ntj:tl≠F.dj:=λy=>by rw[y,hb.di]at htl;cases htl
    have ne1:∀b,b≠F.dj->(AQ H0 F.dj (.frz o (.dK F.cp))) b=H0 b:=λb nb=>AX nb;have jr1:=jr0.jq (.inr ⟨o,Af⟩) ne1;have ed1:(AQ H0 F.dj (.frz o (.dK F.cp))) F.dj=AA (.frz o (.dK F.cp)):=Af;have et1:(AQ H0 F.dj (.frz o (.dK F.cp))) tl=AA (.lst []):=by rw[AX ntj];show et0
    generalize AQ H0 F.dj (.frz o (.dK F.cp))=H1 at ne1 jr1 ed1 et1⊢;show U9 (kvs:=F.cp) (λn σ H'=>(IM λ(o3 o4 o5 o6:Option AD)(acc:List AD)=>HZ (σ=(Tb F.x z tl o3 o4 o5 o6 AG AG)) (H' F.dj=AA (.frz o (.dK F.cp))) (Ba (λb=>b=tl\/DR ss F.jd b) H1 H') (CY AM [tl] H' ss F.dj F.cp F.jd (λt=>if(.inl (t:Int):AK)∈(F.cp.take n).map (·.1)then Mo z 2 (sd t)else sd t)) (H' tl=AA (.lst acc)) (Az (Ja H') acc (Es z sd ((Cy ss).take n))) (acc.length<=2000*n))) ⟨AG,AG,AG,AG,[],rfl,ed1,λb o _ e=>e,jr1,et1,.nil,BY _⟩ (λn σ H' _ hh=>by obtain⟨_,_,_,_,_,_,e,_⟩:=hh;show e) (λn p σ H2' rp hp hI hrp=>?_) λσ H2 hI=>?_
    . lk;obtain⟨o3,o4,o5,o6,acc,rfl,ed2',s2',jr2',et2',wi2',ln2⟩:=hI;obtain⟨i,_,hj,rfl⟩:=hb.tw.rh p (Cg hp);have ji:=iP hb.tw hp;k_in;show BA (o:=.tup [Aw (.inl (i:Int)),.ref (F.jd i).j]) hrp λH2 g2 erp=>?_;show⟨rp,_,rfl,Ao erp,rfl,_,_,rfl,_,_,rfl,rfl,?_⟩;have new:(.inl (i:Int):AK)∉(F.cp.take n).map (·.1):=λhm=>by
        rw[cL]at hm;obtain⟨j,hj,e⟩:=FN.mp hm;rw[El]at hj;rw[NK]at e;have e2:(F.cp.map (·.1))[n]?=AA (.inl (i:Int)):=by rw[Bs,hp];rfl
        obtain⟨h2,q2⟩:=BU.mp e2;show(Gq.mp hb.tw.nd) j n (Bh hj (QF _ _)) h2 (Bh hj (J5 _ _)) (e.trans q2.symm)
      have tk:∀t:Nat,(.inl (t:Int):AK)∈(F.cp.take (n+1)).map (·.1)↔(.inl (t:Int):AK)∈(F.cp.take n).map (·.1)\/t=i:=λt=>by rw[Dt,hp,CQ,DS];show AFD ⟨λh=>Iv.mp (Fq (By.mp h)),λh=>by rw[h];show .head _⟩
      lk;obtain⟨nn,a,b,wi,et⟩:=hj;have jr2:=jr2'.af g2;obtain⟨ev,g⟩:=jr2.dc i _ _ _ _ et;obtain⟨dxj,ej⟩:=g.cg;k_in;show⟨_,⟨ej,T.cv,T.bo,rfl⟩,(F.jd i).sl,rfl,⟨_,AW g.cu⟩,Rv (K:=AH) (xs:=[.ref (F.jd i).x0,.ref (F.jd i).x1]) (λm σ H'=>(EH λ(o5 o6:Option AD)(acc:List AD)=>HZ (σ=(Tb F.x z tl (AA (.int (i:Int))) (AA (.ref (F.jd i).j)) o5 o6 AG AG)) (H' F.dj=AA (.frz o (.dK F.cp))) (Ba (λb=>b=tl\/DR ss F.jd b) H1 H') (CY AM [tl] H' ss F.dj F.cp F.jd (λt=>if t=i then Mo z m (sd i)else if(.inl (t:Int):AK)∈(F.cp.take n).map (·.1)then Mo z 2 (sd t)else sd t)) (H' tl=AA (.lst acc)) (Az (Ja H') acc (Es z sd ((Cy ss).take n)++(Ec m).flatMap (Ff z sd i))) (acc.length<=2000*n+1000*m))) ⟨_,_,acc,rfl,g2 _ _ ed2',λb o nb e=>g2 _ _ (s2' b o nb e),jr2.cu λt _=>?_,g2 _ _ et2',by change Az _ _ (_++[]);rw[C2];show KR wi2' g2.tp,ln2⟩ (λm σ H' _ hh=>?_) (λm x σ H3' rq hx hI hrq=>?_) λσ H3 hI=>?_⟩
      . by_cases q:t=i;.subst q;rw[AEv rfl,AEu new];rfl
        .rw[AEu q]
      . obtain⟨_,_,_,_,_,_,jr3,_⟩:_:=hh;show AW (jr3.dc i _ _ _ _ et).2.cu
      . obtain⟨o5,o6,acc,rfl,ed3',s3',jr3',et3',wi3',ln3⟩:_:=hI;have hm:m<2:=(BU.mp hx).1;show BA (o:=.tup [.int (m:Int),x]) hrq λH3 g3 erq=>?_;have jr3:=jr3'.af g3;have gj:=(jr3.dc i _ _ _ _ et).2;rw[AEv rfl]at gj;lk;obtain⟨x',d,ex',hd,sr,put⟩:=gj.ade hm;rw[hx]at ex';cases ex';k_in;have et3:=g3 _ _ et3';show⟨rq,_,rfl,Ao erq,rfl,_,_,rfl,_,_,rfl,rfl,.inl ⟨rfl,_,AW et3⟩,?_⟩;unfold JM JL Kk;show mF sr T (i:=6) (z:=z) rfl rfl λH4 r xs kss s4 sr4 er w sdk pm=>?_;show⟨r,rfl,⟨_,AW er⟩,?_⟩;have lk:kss.length<=1000:=by rw[pm.length_eq,As];show Ah (D3 _ _) (bs i ⟨nn,a,b,wi,et⟩ m hm)
        have ek:=YY sdk pm;subst ek;have hn:n<F.cp.length:=(BU.mp hp).1;have lx:xs.length=(Fg (Ap z (Au m (sd i)))).length:=w.de.trans (As _);rw[As]at lk;show W6 (M:=Fg (Ap z (Au m (sd i)))) (G:=λt y=>t=[.int y.1,.int y.2]) (pre:=[.int (i:Int),.int (m:Int)]) (λo H Q k=>⟨(by decide:2<=sizeLine),λp hp=>k p hp⟩) (by(first|lia|omega)) (by simp) (by simp) er ?_ (λt y e=>by subst e;show⟨by simp,by simp⟩) λH5 D ys s5 eD w5=>?_
        . show GY lx λj x y hx hy=>?_;lk;obtain⟨a,ks,e,ek,ea⟩:=w.at hx;rw[Bs,hy]at ek;cases ek;k_in;show⟨a,_,e,ea,rfl⟩
        have j4:=jr3.iq et (λb o n0 n1 e=>s4 b o (λy=>hd.elim (λq=>n0 (y.trans q)) λq=>n1 (y.trans q)) e) (put H4 s4 sr4);have dD:DR ss F.jd d:=⟨i,⟨nn,a,b,wi,et⟩,hd⟩;obtain⟨kd,ekd⟩:=jr3.tj dD;have et4:H4 tl=AA (.lst acc):=s4 _ _ (λy=>by rw[<-y,et3]at ekd;cases ekd) et3;have et5:=s5 _ _ et4;have j5:=j4.af s5;have la:=(CN wi3').1;have ly:=(CN w5).1;show⟨tl,D,acc,ys,rfl,rfl,et5,eD,by(first|lia|omega),?_⟩;have tp6:Bc H5 (AQ H5 tl (.lst (acc++ys))):=(IU H5).du et5 λxs=>by intro y;cases y
        have td:¬DR ss F.jd tl:=λy=>by obtain⟨kvs,e⟩:=j5.tj y;rw[et5]at e;cases e
        have j6:=j5.cx (p:=(.=tl)) (H':=AQ H5 tl (.lst (acc++ys))) zzu (λb hb=>.inl ⟨by rw[hb];show .head _,acc,by rw[hb];show et5⟩) (λb hb=>by rw[hb];show td) ntj.symm;have sd3:∀{b:AE}{o:Bn},b≠tl->¬DR ss F.jd b->H3' b=AA o->(AQ H5 tl (.lst (acc++ys))) b=AA o:=λ{b o}nt nb e=>by rw[AX nt];show s5 _ _ (s4 _ _ (λy=>nb (y▸dD)) (g3 _ _ e))
        show⟨_,_,acc++ys,rfl,sd3 ntj.symm (λy=>?_) ed3',λb o nb e=>sd3 (λy=>nb (.inl y)) (λy=>nb (.inr y)) (s3' b o nb e),j6.cu λt _=>?_,Af,?_,?_⟩
        . obtain⟨t,ht,q⟩:_:=y;show q.elim (hb.cb.uw t ht).1 (hb.cb.uw t ht).2
        . by_cases q:t=i;.rw[AEv q,AEv q]
          .rw[AEu q,AEu q,AEu q]
        . rw[OR,Vz,<-Ea];show Dh (KR wi3' λb xs e=>tp6 _ _ (s5 _ _ (s4.tp ekd (by intro xs y;cases y) _ _ (g3 _ _ e)))) ?_;rw[ABi];show PJ (Ej (λ_ _ h=>?_) w5);obtain⟨a,t,e,e',rfl⟩:_:=h;show⟨a,e,tp6 _ _ e'⟩
        . rw[B8];change _<=2000*n+1000*(m+1);(first|lia|omega)
      . obtain⟨o5,o6,acc,rfl,ed3,s3,jr3,et3,wi3,ln3⟩:_:=hI;show⟨_,_,_,_,acc,rfl,ed3,s3,jr3.cu λt _=>?_,et3,?_,by change acc.length<=2000*(n+1);have:acc.length<=2000*n+1000*2:=ln3;(first|lia|omega)⟩
        . by_cases q:t=i
          . subst q;rw[AEv ((tk t).mpr (.inr rfl)),AEv rfl];rfl
          . rw[AEu q];by_cases y:(.inl (t:Int):AK)∈(F.cp.take n).map (·.1);.rw[AEv y,AEv ((tk t).mpr (.inl y))]
            .rw[AEu y,AEu λh=>((tk t).mp h).elim y q]
        . unfold Es at wi3⊢;have e:(Ec 2).flatMap (Ff z sd i)=L7 z sd i:=by change Ff z sd i 0++(Ff z sd i 1++[])=_;rw[C2];rfl
          rw[Ms ji,<-e];show wi3
    . obtain⟨o3,o4,o5,o6,acc,rfl,ed2,s2,jr2,et2,wi2,ln2⟩:_:=hI;rw[GI]at jr2;have lj:(Cy ss).length=F.cp.length:=by have:=AEw JN hb.tw.yr;rw[As,As]at this;show this.symm
      rw[<-lj,GI]at wi2;have inn:∀{t:Nat},Bq ss t->(.inl (t:Int):AK)∈F.cp.map (·.1):=λ{t}hj=>by obtain⟨_,_,_,_,et⟩:=hj;show BE.mpr ⟨_,FD (hb.cb.dc t _ _ _ _ et).1,rfl⟩
      show⟨o,_,ed2,z2 _ _ ?_⟩;have ne3:∀b,b≠F.dj->(AQ H2 F.dj (.dK F.cp)) b=H2 b:=λb nb=>AX nb;have jr3:=(jr2.jq (.inl Af) ne3).cu (sd':=GB z sd) λt ht=>(AEv (inn ht)).symm;have et3:(AQ H2 F.dj (.dK F.cp)) tl=AA (.lst acc):=by rw[ne3 _ ntj];show et2
      have tp3:Bc H2 (AQ H2 F.dj (.dK F.cp)):=λb xs e=>by rw[ne3 b λy=>by rw[y,ed2]at e;cases e];show e
      have wi3:=KR wi2 tp3;have s3:Ba (DR ss F.jd) H (AQ H2 F.dj (.dK F.cp)):=λb ob nb e=>by
        have e0:=s0 _ _ e;by_cases q:b=F.dj
        . rw[q,ej0]at e0;cases e0;rw[q];show Af
        . rw[ne3 b q];show s2 b ob (λy=>y.elim (λy=>by rw[y,htl]at e;cases e) nb) (by rw[ne1 b q];show e0)
      generalize AQ H2 F.dj (.dK F.cp)=H3 at jr3 et3 wi3 s3⊢;have gr3:=hb.bw.cx s3 (λc y=>.inr (hb.cb.tj y)) (λi hi=>(hb.xc i hi).1) hb.md;clear jr0 jr1 jr2 et1 et2 wi2 tp3 s2 ed2 ne3 ne1 ed1 ln2 inn eo0 ej0 et0 s0 z1 z2;showλ_ _ _ _ z3=>⟨BY _,λtp htp=>z3 _ _ ?_⟩;show BA (o:=.lst []) htp λH4 s4 ep4=>?_;have gr4:=(gr3.gv htp).af s4;have eg4:=s4 _ _ (s3 _ _ hb.md hb.bh);have eo4:=s4 _ _ (s3 _ _ (λy=>by obtain⟨kvs,e⟩:=hb.cb.tj y;rw[eo]at e;cases e) eo);showλ_ _ _ _ z4=>⟨F.dg,(λo u y=>by rw[eg4]at y;cases y),_,⟨eo4,T.ah,T.aq,rfl⟩,F.dg,F.ax,rfl,eg4,λo H5 e5=>?_⟩;subst e5;have ntg:tp≠F.dg:=λy=>by rw[y,s3 _ _ hb.md hb.bh]at htp;cases htp
      have ne5:∀b,b≠F.dg->(AQ H4 F.dg (.frz o (.dK F.ax))) b=H4 b:=λb nb=>AX nb;have gr5:=gr4.jq (.inr ⟨o,Af⟩) ne5;have ed5:(AQ H4 F.dg (.frz o (.dK F.ax))) F.dg=AA (.frz o (.dK F.ax)):=Af;have ep5:(AQ H4 F.dg (.frz o (.dK F.ax))) tp=AA (.lst []):=by rw[AX ntg];show ep4
      generalize AQ H4 F.dg (.frz o (.dK F.ax))=H5 at ne5 gr5 ed5 ep5⊢;show U9 (kvs:=F.ax) (λn σ H'=>(EH λ(o3 o8:Option AD)(pcs:List AD)=>HZ (σ=(Tb F.x z tl o3 o4 o5 o6 (AA (.ref tp)) o8)) (H' F.dg=AA (.frz o (.dK F.ax))) (Ba (λb=>b=tp\/∃i∈Al ss,b=(F.gd i).d) H5 H') (DO AM [tp] H' ss (Al ss) F.dg F.ax F.gd (λt=>if(.inl (t:Int):AK)∈(F.ax.take n).map (·.1)then Cr (gg t) z []else gg t) (λt=>if(.inl (t:Int):AK)∈(F.ax.take n).map (·.1)then CM (gk t) (.inr z)else gk t)) (H' tp=AA (.lst pcs)) (Az (LA H') pcs (GA z gg ((Al ss).take n))) (pcs.length<=3000*n))) ⟨_,AG,[],rfl,ed5,λb o _ e=>e,gr5,ep5,.nil,BY _⟩ (λn σ H' _ hh=>by obtain⟨_,_,_,_,e,_⟩:=hh;show e) (λn p σ H6' rp hp hI hrp=>?_) λσ H6 hI=>?_
      . lk;obtain⟨o3,o8,pcs,rfl,ed6',s6',gr6',ep6',wp6',lp6⟩:=hI;obtain⟨i,hi,rfl⟩:=hb.ue.rh p (Cg hp);have gi:=Tu hb.ue hp;k_in;show BA (o:=.tup [Aw (.inl (i:Int)),.ref (F.gd i).x]) hrp λH6 g6 erp=>?_;show⟨rp,_,rfl,Ao erp,rfl,_,_,rfl,_,_,rfl,rfl,?_⟩;have new:(.inl (i:Int):AK)∉(F.ax.take n).map (·.1):=λhm=>by
          rw[cL]at hm;obtain⟨j,hj,e⟩:=FN.mp hm;rw[El]at hj;rw[NK]at e;have e2:(F.ax.map (·.1))[n]?=AA (.inl (i:Int)):=by rw[Bs,hp];rfl
          obtain⟨h2,q2⟩:=BU.mp e2;show(Gq.mp hb.ue.nd) j n (Bh hj (QF _ _)) h2 (Bh hj (J5 _ _)) (e.trans q2.symm)
        have tk:∀t:Nat,(.inl (t:Int):AK)∈(F.ax.take (n+1)).map (·.1)↔(.inl (t:Int):AK)∈(F.ax.take n).map (·.1)\/t=i:=λt=>by rw[Dt,hp,CQ,DS];show AFD ⟨λh=>Iv.mp (Fq (By.mp h)),λh=>by rw[h];show .head _⟩
        have hn:n<F.ax.length:=(BU.mp hp).1;have lg:=hb.uf;have gr6:=gr6'.af g6;have ep6:=g6 _ _ ep6';obtain⟨st,es,ev,g⟩:_:=gr6.jo i hi;rw[AEu new,AEu new]at g;show⟨.inl ⟨rfl,_,AW ep6⟩,?_⟩;unfold JM JL Kk;show mE g T (i:=8) (z:=z) rfl rfl λH7 r xs s7 g7 er w=>⟨r,rfl,⟨_,AW er⟩,?_⟩;have lx:=(CN w).1;have lb:=bg i hi;show W6 (M:=gg i z) (G:=λt y=>∃q,t=[.int y.1,.int y.2.1,.ref q]/\Fc H7 q y.2.2) (pre:=[.int (i:Int)]) (λo H Q k=>⟨(by decide:1<=sizeLine),λp hp=>k p hp⟩) (by(first|lia|omega)) (by simp) (by simp) er (Ej (λx y h=>?_) w) (λt y e=>by obtain⟨q,rfl,_⟩:=e;show⟨by simp,by simp⟩) λH8 D ys s8 eD w8=>?_
        . obtain⟨a,q,e,e1,e2⟩:_:=h;show⟨a,_,e,e1,q,rfl,e2⟩
        have edi:=g.aj.ai;have gr7:=gr6.iq hi es s7 g7;have ep7:H7 tp=AA (.lst pcs):=s7 _ _ (λy=>by rw[<-y,ep6]at edi;cases edi) ep6;have ep8:=s8 _ _ ep7;have gr8:=gr7.af s8;have la:=(CN wp6').1;have ly:=(CN w8).1;show⟨tp,D,pcs,ys,rfl,rfl,ep8,eD,by(first|lia|omega),?_⟩;have tp9:Bc H8 (AQ H8 tp (.lst (pcs++ys))):=(IU H8).du ep8 λxs=>by intro y;cases y
        have gr9:=gr8.cx (q:=(.=tp)) (H':=AQ H8 tp (.lst (pcs++ys))) zzu (λb hb=>.inl ⟨by rw[hb];show .head _,pcs,by rw[hb];show ep8⟩) (λk hk y=>by obtain⟨_,_,_,gg'⟩:=gr8.jo k hk;have:=gg'.aj.ai;rw[y,ep8]at this;cases this) ntg.symm;have keep:∀{b:AE}{o:Bn},b≠tp->b≠(F.gd i).d->H6' b=AA o->(AQ H8 tp (.lst (pcs++ys))) b=AA o:=λ{b o}nt nb e=>by rw[AX nt];show s8 _ _ (s7 _ _ nb (g6 _ _ e))
        have tpw:Bc H6' (AQ H8 tp (.lst (pcs++ys))):=λb xs e=>tp9 _ _ (s8 _ _ (s7.tp edi (by intro xs y;cases y) _ _ (g6 _ _ e)));show⟨_,_,pcs++ys,rfl,keep ntg.symm (hb.bw.md i hi) ed6',λb o nb e=>keep (λy=>nb (.inl y)) (λy=>nb (.inr ⟨i,hi,y⟩)) (s6' b o nb e),(gr9.zi λt _=>?_).adp λt _=>?_,Af,?_,?_⟩
        . by_cases q:t=i;.rw[AEv ((tk t).mpr (.inr q)),AEv q,q]
          . rw[AEu q];by_cases y:(.inl (t:Int):AK)∈(F.ax.take n).map (·.1);.rw[AEv y,AEv ((tk t).mpr (.inl y))]
            .rw[AEu y,AEu λh=>((tk t).mp h).elim y q]
        . by_cases q:t=i;.rw[AEv ((tk t).mpr (.inr q)),AEv q,q]
          . rw[AEu q];by_cases y:(.inl (t:Int):AK)∈(F.ax.take n).map (·.1);.rw[AEv y,AEv ((tk t).mpr (.inl y))]
            .rw[AEu y,AEu λh=>((tk t).mp h).elim y q]
        . unfold GA at wp6'⊢;rw[Ms gi];show Dh (KU wp6' tpw) (PJ (Ej (λ_ _ h=>?_) w8));obtain⟨a,t,e,e1,q,rfl,e2⟩:_:=h;show⟨a,q,e,tp9 _ _ e1,tp9 _ _ (s8 _ _ e2)⟩
        . rw[B8];(first|lia|omega)
      . obtain⟨o3,o8,pcs,rfl,ed6,s6,gr6,ep6,wp6,lp6⟩:_:=hI;rw[GI]at gr6;have lj:(Al ss).length=F.ax.length:=by have:=AEw JN hb.ue.yr;rw[As,As]at this;show this.symm
        rw[<-lj,GI]at wp6;have inn:∀{t:Nat},t∈Al ss->(.inl (t:Int):AK)∈F.ax.map (·.1):=λ{t}ht=>by obtain⟨_,_,v,_⟩:=hb.bw.jo t ht;show BE.mpr ⟨_,FD v,rfl⟩
        show⟨o,_,ed6,z4 _ _ ?_⟩;have ne7:∀b,b≠F.dg->(AQ H6 F.dg (.dK F.ax)) b=H6 b:=λb nb=>AX nb;have gr7:=((gr6.jq (.inl Af) ne7).iz.zi (gg':=λt=>Cr (gg t) z []) λt ht=>(AEv (inn ht)).symm).adp (gk':=λt=>CM (gk t) (.inr z)) λt ht=>(AEv (inn ht)).symm;have ep7:(AQ H6 F.dg (.dK F.ax)) tp=AA (.lst pcs):=by rw[ne7 _ ntg];show ep6
        have tp7:Bc H6 (AQ H6 F.dg (.dK F.ax)):=λb xs e=>by rw[ne7 b λy=>by rw[y,ed6]at e;cases e];show e
        have wp7:=KU wp6 tp7;have s7:Ba (λb=>∃i∈Al ss,b=(F.gd i).d) H3 (AQ H6 F.dg (.dK F.ax)):=λb ob nb e=>by
          have e4:=s4 _ _ e;by_cases q:b=F.dg
          . rw[q,eg4]at e4;cases e4;rw[q];show Af
          . rw[ne7 b q];show s6 b ob (λy=>y.elim (λy=>by rw[y,htp]at e;cases e) nb) (by rw[ne5 b q];show e4)
        generalize AQ H6 F.dg (.dK F.ax)=H7 at gr7 ep7 wp7 s7⊢;have dg3:∀i∈Al ss,∃kvs,H3 (F.gd i).d=AA (.dK kvs):=λi hi=>by obtain⟨_,_,_,g⟩:=gr3.jo i hi;show⟨_,g.aj.ai⟩
        have jr7:=jr3.iz.cx s7 (λb hb=>by obtain⟨i,hi,e⟩:=hb;rw[e];show .inr (dg3 i hi)) (λb hq hd=>by obtain⟨i,hi,e⟩:=hq;show(hb.xc i hi).1 (e▸hd)) λhq=>by obtain⟨i,hi,e⟩:=hq;show(hb.xc i hi).2 e
        have tp37:Bc H3 H7:=λb xs e=>s7 b _ (λhq=>by obtain⟨i,hi,q⟩:=hq;obtain⟨kvs,e'⟩:=dg3 i hi;rw[q,e']at e;cases e) e;have et7:H7 tl=AA (.lst acc):=s7 _ _ (λhq=>by obtain⟨i,hi,q⟩:=hq;obtain⟨kvs,e'⟩:=dg3 i hi;rw[<-q,et3]at e';cases e') et3;have sw:Ba (CU ss F) H H7:=λb ob nb e=>s7 _ _ (λy=>nb (.inr y)) (s3 _ _ (λy=>nb (.inl y)) e);have hb7:=hb.xv sw jr7 gr7;show⟨(by decide:2<=sizeLine),λp hp=>?_⟩;show BA hp λH8 s8 ep8=>?_;have isw:∀b,CU ss F b->∃kvs,H7 b=AA (.dK kvs):=λb hb=>hb7.qo hb;have p0:=XO sw isw hp;have isd:∀b,DR ss F.jd b->∃kvs,H3 b=AA (.dK kvs):=λb hb=>jr3.tj hb;show k H8 p tl tp (λb ob nb e=>s8 _ _ (sw b ob nb e)) (hb7.af s8) p0 htl (XO s3 isd htp) (Bg et3 htp) ⟨acc,pcs,ep8,s8 _ _ et7,s8 _ _ ep7,KR wi3 λb xs e=>s8 _ _ (tp37 _ _ e),KU wp7 s8.tp⟩
theorem Q9(h:Jb ss ss.length U D){ks:List AK}(J:ks.Perm (D.map (·.1)))(ps:ks.Pairwise λa b=>Dl b a=AR):ks.map Aw=(Cy ss).map λt:Nat=>AD.int (t:Int):=by rw[h.yr]at J;have e:ks=(Cy ss).map λt:Nat=>.inl (t:Int):=Xo J ps ((ABt.filter _));rw[e,Cu];rfl
theorem XW(h:K9 (Al ss) U D){ks:List AK}(J:ks.Perm (D.map (·.1)))(ps:ks.Pairwise λa b=>Dl b a=AR):ks.map Aw=(Al ss).map λt:Nat=>AD.int (t:Int):=by rw[h.yr]at J;have e:ks=(Al ss).map λt:Nat=>.inl (t:Int):=Xo J ps ((ABt.filter _));rw[e,Cu];rfl
theorem mP(h:LK (Au m (sd t)) M):(Ap z M).map (λi=>((t,m,i.1,i.2.2):EN))=Ff z sd t m:=by
 have e:Fg (Ap z (Au m (sd t)))=(Ap z M).map Hl:=by show Ub ?_ ((h.2.filter _).map _);rw[Cu];show Eb.mpr (((Eb.mp h.1).filter _).imp_of_mem λ{a b}U V r=>?_);have D:=AEy (DT.mp U).2;have J:=AEy (DT.mp V).2;change(if(Bt b.2.1:AK)=Bt a.2.1 then Bf (Ji (Hl b)) (Ji (Hl a))else Dl _ _)=AR at r;rw[AEv (by rw[D,J])]at r;show r
 unfold Ff;rw[e,Cu];rfl
theorem XX(T:BQ AH Ag AM)(V:DK AM [] H ss F sd gg gk)(S:Hg ss sd gg gk p)(G:σ[h]?=AA (AA (.ref F.x)))(I:σ[i]?=AA (AA (.int (t:Int))))(L:σ[j]?=AA (AA (.int (m:Int))))(c:Bq ss t)(R:m<2)(k:∀H' r xs M,An H H'->H r=AG->H' r=AA (.lst xs)->Cc H' xs (M.map Fu)->LK (Au m (sd t)) M->M.length<=600->Q (.ref r) H'):NG AM.dm "kept" (UW AM) [] JB (Hz (aO AH) (Kv AH (P4 (Kv AH (FC h) "joins") (FC i)) "sides") (FC j)) HP σ H Q:=by
 lk;obtain⟨n,a,b,C,Y⟩:=c;obtain⟨l,N⟩:=V.cg;obtain⟨g,W⟩:=V.cb.dc t n a b C Y;obtain⟨E,J⟩:=W.cg;obtain⟨x,d,P,B⟩:=W.acb R;obtain⟨D,U⟩:=B.cg;k_in;have Z:(Au m (sd t)).length<=600:=by
  have:=S.sl t ⟨n,a,b,C,Y⟩;unfold Au;split;.show this.1
  .show this.2
 change GF σ[h]? _;rw[G];show⟨_,⟨N,T.ah,T.av,rfl⟩,?_⟩;change GF σ[i]? _;rw[I];show⟨F.dj,.ref (F.jd t).j,rfl,by rw[<-g];show .inl ⟨F.cp,.inl (t:Int),V.cb.ai,rfl,rfl⟩,_,⟨J,T.cv,T.bo,rfl⟩,?_⟩;change GF σ[j]? _;rw[L];show⟨_,_,AW W.cu,Aj P,x,D,_,rfl,U,by rfl,[],x,d,_,rfl,B,Z,λH' r xs e s X O hw sd f=>?_⟩;obtain⟨M,A,rfl⟩:_:=PX f;show k H' r xs M s X O hw ⟨sd,A⟩ (by rw[A.length_eq];show Z)
theorem Q6(T:BQ AH Ag AM)(C:H F.x=AA (.ins AM.bc Z (Lz F)))(W:DO AM [] H ss (Al ss) F.dg F.ax F.gd gg gk)(G:Hg ss sd gg gk p)(A:σ[h]?=AA (AA (.ref F.x)))(B:σ[i]?=AA (AA (.int (t:Int))))(Y:t∈Al ss)(k:∀H' r xs(ks:List AF),An H H'->H r=AG->H' r=AA (.lst xs)->Az (Lq H') xs (CV (gg t) ks)->ks.Pairwise (λa b=>Dl (.inr b) (.inr a)=AR)->ks.Nodup->(∀y,gg t y≠[]->y∈ks)->(CV (gg t) ks).length<=1800000->Q (.ref r) H'):NG AM.au "pieces" (RS AM) [] JB (P4 (Kv AH (FC h) "groups") (FC i)) HP σ H Q:=by lk;obtain⟨P,X,R,g⟩:=W.jo t Y;obtain⟨J,U⟩:=g.cg;obtain⟨V,D⟩:=G.gl t Y;k_in;change GF σ[h]? _;rw[A];show⟨_,⟨C,T.ah,T.aq,rfl⟩,?_⟩;change GF σ[i]? _;rw[B];show⟨F.dg,.ref (F.gd t).x,rfl,by rw[<-R];show .inl ⟨F.ax,.inl (t:Int),W.ai,rfl,rfl⟩,(F.gd t).x,J,_,rfl,U,by rfl,[],(F.gd t).x,(F.gd t).p,(F.gd t).d,P,gg t,gk t,rfl,g,V,λz=>(D z).2,λH' r S ks s I E N O M L c=>k H' r S ks s I E N O M L ?_⟩;have:=Ug (g:=gg t) (n:=3000) (λz=>(D z).2) ks;(first|lia|omega)
theorem XZ(T:BQ AH Ag AM)(D:DK AM [] H ss F sd gg gk)(W:Hg ss sd gg gk p)(J:σ[h]?=AA (AA (.ref F.x)))(U:σ[i]?=AA (AA (.int (t:Int))))(Y:t∈Al ss)(k:∀H' r xs(ks:List AF),An H H'->H r=AG->H' r=AA (.lst xs)->Az (Lq H') xs (CV (gg t) ks)->ks.Pairwise (λa b=>Dl (.inr b) (.inr a)=AR)->ks.Nodup->(∀y,gg t y≠[]->y∈ks)->(CV (gg t) ks).length<=1800000->Q (.ref r) H'):NG AM.au "pieces" (RS AM) [] JB (P4 (Kv AH (FC h) "groups") (FC i)) HP σ H Q:=by obtain⟨Z,V⟩:=D.cg;show Q6 T V D.bw W J U Y k
theorem mB(Y:ks.Nodup)(W:g z≠[]->z∈ks):((CV g ks).filter λm=>Aa (m.1=z)).map (·.2)=g z:=by
  have U:∀y,(((g y).map λp=>(y,p)).filter λm=>Aa (m.1=z)).map (·.2)=if y=z then g z else[]:=λy=>by
    rw[NJ,Cu];by_cases q:y=z
    . subst q;have e:(g y).filter ((λm:AF×AV=>Aa (m.1=y))∘λp=>(y,p))=g y:=NI.mpr λ_ _=>AEx rfl;rw[AEv rfl,e];show V3 _
    . have e:(g y).filter ((λm:AF×AV=>Aa (m.1=z))∘λp=>(y,p))=[]:=IB.mpr λ_ _ h=>q (AEy h);rw[AEu q,e];rfl
  have J:∀{l:List AF},l.Nodup->((CV g l).filter λm=>Aa (m.1=z)).map (·.2)=if z∈l then g z else[]:=λ{l}n=>by induction l with|nil=>rfl|cons y l V=>
      obtain⟨Z,A⟩:=IE.mp n;unfold CV at V⊢;rw[Ek,GZ,CQ,U,V A];by_cases q:y=z;. subst q;rw[AEv rfl,AEu Z,AEv (.head _),C2]
      . rw[AEu q,Sf];by_cases D:z∈l;.rw[AEv D,AEv (.tail _ D)]
        .rw[AEu D,AEu λh=>(Ca.mp h).elim (λe=>q e.symm) D]
  rw[J Y];by_cases q:z∈ks;.rw[AEv q]
  . rw[AEu q];show(ABE λe=>q (W (Gb e)))
def nZ(Y:CF):BO:=λZ H Q _=>(KH λ(D:List AU)(F:DJ)(V:Bi)(U:CI)(W:DI)(p:AF->Prop)(z:AF)=>EV (Z=[.ref F.x,.str z]) (DK Y [] H D F V U W) (D.length<=8) (Hg D V U W p) (∀J r a b,An H J->H r=AG->H a=AG->H b=AG->Oy J r a b (Es z V (Cy D)) (GA z U (Al D))->Q (.ref r) J))
theorem RH(T:BQ AH Ag AM):T.og.Ok BM P w Ag base 3 (nZ AM):=by
    show T.og.ok λnd _ _ _ _ _ hr H vs Q E h=>?_;obtain⟨ss,F,sd,gg,gk,p,z,rfl,hb,lss,hq,k⟩:_:=h;show⟨_,(Bv (BC 2 nd (CW Dq)) (Bv (C8 DF rfl (Cn (K:=AH) (DE (MI rfl) (by rfl) T.cy J6 #v[Bu (AB 0) rfl])) (CO 3 nd) (Ac (C8 DF rfl (SH (by rfl) T.je #v[AN]) (CO 4 nd) (Ac (C8 DF rfl (Cn (K:=AH) (KW (CZ AH (Bu (EY hr.u1 (Bu (AB 0) rfl) (AB 3) (λ_ _=>rfl)) rfl) (AB 4)) T.cq (RG T) hr)) (CO 5 nd) (Ac (Bx (Bl DD (Av AH (AB 5) AN) (AB 1) (BW _)) (Ac (D1 (JI AH (AB 2) #v[CP #v[AB 3,AB 4,Av AH (AB 5) AN,Av AH (AB 5) AN]]))) CH))))))) (Bv (BC 6 nd (CW Dq)) (Bv (C8 DF rfl (Cn (K:=AH) (DE (MI rfl) (by rfl) T.cy J6 #v[Bu (AB 0) rfl])) (CO 3 nd) (Ac (C8 DF rfl (Cn (K:=AH) (KW (EY hr.u1 (Bu (AB 0) rfl) (AB 3) (λ_ _=>rfl)) T.aw (Nm T) hr)) (CO 7 nd) (Ac (Bx (Bl DD (Av AH (AB 7) AN) (AB 1) (BW _)) (Ac (D1 (JI AH (AB 6) #v[CP #v[AB 3,Av AH (AB 7) AN,Av AH (AB 7) AN,Av AH (AB 7) AN]]))) CH))))) (Ac (BI (CP #v[AB 2,AB 6]))))))),?_⟩;have sz:Ay=16777216:=DW;obtain⟨dx,eo⟩:=hb.cg;have lj:(Cy ss).length<=8:=Ah (D3 _ _) (by rw[JO];show lss);have lt:(Al ss).length<=8:=Ah (D3 _ _) (by rw[JO];show lss);showλ_ _ _ _ z1=>⟨BY _,λtl htl=>z1 _ _ ?_⟩;show BA (o:=.lst []) htl λH0 s0 et0=>?_;showλ_ _ _ _ z2=>⟨_,⟨s0 _ _ eo,T.ah,T.av,rfl⟩,F.dj,F.cp,rfl,s0 _ _ hb.di,.inl λq hq=>?_,λls ks hls pk ps=>?_⟩
    . obtain⟨i,_,_,e⟩:_:=hb.tw.rh q hq;show⟨_,by rw[e]⟩
    rw[Q9 hb.tw pk ps];show BA hls λH1 s1 els=>?_;have et1:=s1 _ _ et0;have s01:=s0.aa s1;have nlt:ls≠tl:=λy=>by rw[y,et0]at hls;cases hls
    have same:∀{H':AI},BV tl H1 H'->An H H':=λs b o e=>s b o (Bg e htl) (s01 _ _ e);clear s0 s1 et0 pk ps;show⟨ls,rfl,⟨_,AW els⟩,FJ (K:=AH) (xs:=(Cy ss).map λt:Nat=>AD.int (t:Int)) (λn σ H'=>(KD λ(o3 o4 o5:Option AD)(acc:List AD)=>EV (σ=[AA (.ref F.x),AA (.str z),AA (.ref tl),o3,o4,o5,AG,AG]) (BV tl H1 H') (H' tl=AA (.lst acc)) (Az (Ja H') acc (Es z sd ((Cy ss).take n))) (acc.length<=1200*n))) ⟨AG,AG,AG,[],rfl,λ_ _ _ e=>e,et1,.nil,BY _⟩ (λn σ H' _ hh=>by obtain⟨_,_,_,_,_,s,_⟩:=hh;show AW (s _ _ nlt els)) (λn x σ H2 hx hI=>?_) λσ H2 hI=>?_⟩
    . lk;obtain⟨o3,o4,o5,acc,rfl,s2,et2,wi2,la2⟩:=hI;rw[Bs]at hx;obtain⟨t,et,rfl⟩:=Du.mp hx;k_in;have ht:Bq ss t:=Jh.mp (Cg et);have hn:=(BU.mp et).1;show⟨_,rfl,by decide,by decide,Pl (λm σ H'=>(EH λ(o4 o5:Option AD)(acc:List AD)=>EV (σ=[AA (.ref F.x),AA (.str z),AA (.ref tl),AA (.int (t:Int)),o4,o5,AG,AG]) (BV tl H1 H') (H' tl=AA (.lst acc)) (Az (Ja H') acc (Es z sd ((Cy ss).take n)++(Ec m).flatMap (Ff z sd t))) (acc.length<=1200*n+600*m))) ⟨o4,o5,acc,rfl,s2,et2,by rw[show(Ec 0).flatMap (Ff z sd t)=[]from rfl,C2];show wi2,la2⟩ (λm σ H3 hm hI=>?_) λσ H3 hI=>?_⟩
      . obtain⟨o4,o5,acc,rfl,s3,et3,wi3,la3⟩:_:=hI;have hm:m<2:=hm;rw[Wm];unfold SW Kk;show XX T (hb.af (same s3)) hq (h:=0) (i:=3) (j:=4) rfl rfl rfl ht hm λH4 r xs M s4 hr4 er4 w4 sM lM=>?_;have et4:=s4 _ _ et3;have ntr:r≠tl:=λy=>by rw[y,et3]at hr4;cases hr4
        show⟨r,rfl,⟨_,AW er4⟩,FJ (K:=AH) (xs:=xs) (λq σ H'=>Kj (λ(o5:Option AD)(acc:List AD)=>σ=[AA (.ref F.x),AA (.str z),AA (.ref tl),AA (.int (t:Int)),AA (.int (m:Int)),o5,AG,AG]) (λ_ _=>BV tl H4 H') (λ_ acc=>H' tl=AA (.lst acc)) (λ_ acc=>Az (Ja H') acc ((Es z sd ((Cy ss).take n)++(Ec m).flatMap (Ff z sd t))++(Ap z (M.take q)).map λi=>((t,m,i.1,i.2.2):EN))) (λ_ acc=>acc.length<=1200*n+600*m+q)) ⟨o5,acc,rfl,λ_ _ _ e=>e,et4,by rw[V7,show(Ap z []).map (λi=>((t,m,i.1,i.2.2):EN))=[]from rfl,C2];show KR wi3 s4.tp,la3⟩ (λq σ H' _ hh=>by obtain⟨_,_,_,s,_⟩:=hh;show AW (s _ _ ntr er4)) (λq y σ H5 hy hI=>?_) λσ H5 hI=>?_⟩
        . lk;obtain⟨o5,acc,rfl,s5,et5,wi5,la5⟩:=hI;obtain⟨a,ks,rfl,ek,ea⟩:=w4.at hy;rw[Bs]at ek;obtain⟨it,ei,rfl⟩:=Du.mp ek;k_in;have hq':=(BU.mp ei).1;have tp5:=s5.tp et4 (by intro xs y;cases y);have sa:=Ao (K:=AH) (s5.tp et4 (by intro xs y;cases y) _ _ ea);have ft:=LF (p:=λi:AO=>Aa (i.2.1=z)) ei;show⟨_,_,sa,Aj (j:=0) rfl,rfl,_,rfl,Pn (λe=>?_) λe=>⟨_,acc,rfl,s5,et5,?_,by(first|lia|omega)⟩⟩
          . show⟨.inl ⟨rfl,_,AW et5⟩,_,_,sa,Aj (j:=1) rfl,_,_,sa,Aj (j:=2) rfl,(by decide:4<=sizeLine),λu hu=>?_⟩;show BA hu λH6 s6 eu=>?_;show⟨tl,acc,.ref u,rfl,rfl,s6 _ _ et5,by(first|lia|omega),?_⟩;have tp:Bc H5 (AQ H6 tl (.lst (acc++[.ref u]))):=λb xs e=>by rw[AX λy=>by rw[y,et5]at e;cases e];show s6 _ _ e
            show⟨_,acc++[.ref u],rfl,λb o nb e=>by rw[AX nb];show s6 _ _ (s5 _ _ nb e),Af,?_,by rw[B8];show OT la5 1⟩;unfold Ap;rw[ft,AEv (AEx e),CQ,<-Ea];show Dh (KR wi5 tp) (.cons ⟨u,rfl,by rw[AX λy=>by rw[y,s6 _ _ et5]at eu;cases eu];show eu⟩ .nil)
          . unfold Ap;rw[ft,AEu (by rw[AE1];show e),C2];show wi5
        . obtain⟨o5,acc,rfl,s5,et5,wi5,la5⟩:_:=hI;have lx:xs.length=M.length:=w4.de.trans (As _);rw[lx,GI,mP sM]at wi5;show⟨_,_,acc,rfl,λb o nb e=>s5 _ _ nb (s4 _ _ (s3 _ _ nb e)),et5,?_,by(first|lia|omega)⟩;rw[OR,Vz,ABi,<-Ea];show wi5
      . obtain⟨o4,o5,acc,rfl,s3,et3,wi3,la3⟩:_:=hI;show⟨_,_,_,acc,rfl,s3,et3,?_,by have:acc.length<=1200*n+600*2:=la3;(first|lia|omega)⟩;have e:(Ec 2).flatMap (Ff z sd t)=L7 z sd t:=by change Ff z sd t 0++(Ff z sd t 1++[])=_;rw[C2];rfl
        unfold Es at wi3⊢;rw[Ms et,<-e];show wi3
    . obtain⟨o3,o4,o5,acc,rfl,s2,et2,wi2,la2⟩:_:=hI;rw[As,GI]at wi2;have s2':=same s2;show z2 _ _ ?_;clear z1 z2 s2 et1 els s01 same nlt;have hb2:=hb.af s2';showλ_ _ _ _ z3=>⟨BY _,λtp htp=>z3 _ _ ?_⟩;show BA (o:=.lst []) htp λH3 s3 ep3=>?_;showλ_ _ _ _ z4=>⟨_,⟨s3 _ _ (s2' _ _ eo),T.ah,T.aq,rfl⟩,F.dg,F.ax,rfl,s3 _ _ hb2.bh,.inl λq hq=>?_,λlg ks hlg pk ps=>?_⟩;. obtain⟨i,_,e⟩:_:=hb.ue.rh q hq;show⟨_,by rw[e]⟩
      rw[XW hb.ue pk ps];show BA hlg λH4 s4 elg=>?_;have ep4:=s4 _ _ ep3;have s34:=s3.aa s4;have nlt:lg≠tp:=λy=>by rw[y,ep3]at hlg;cases hlg
      have same:∀{H':AI},BV tp H4 H'->An H2 H':=λs b o e=>s b o (Bg e htp) (s34 _ _ e);clear s3 s4 ep3 pk ps;show⟨lg,rfl,⟨_,AW elg⟩,FJ (K:=AH) (xs:=(Al ss).map λt:Nat=>AD.int (t:Int)) (λn σ H'=>(EH λ(o3 o7:Option AD)(acc:List AD)=>EV (σ=[AA (.ref F.x),AA (.str z),AA (.ref tl),o3,o4,o5,AA (.ref tp),o7]) (BV tp H4 H') (H' tp=AA (.lst acc)) (Az (LA H') acc (GA z gg ((Al ss).take n))) (acc.length<=1800000*n))) ⟨o3,AG,[],rfl,λ_ _ _ e=>e,ep4,.nil,BY _⟩ (λn σ H' _ hh=>by obtain⟨_,_,_,_,s,_⟩:=hh;show AW (s _ _ nlt elg)) (λn x σ H5 hx hI=>?_) λσ H5 hI=>?_⟩
      . lk;obtain⟨o3,o7,acc,rfl,s5,et5,wi5,la5⟩:=hI;rw[Bs]at hx;obtain⟨t,et,rfl⟩:=Du.mp hx;k_in;have ht:t∈Al ss:=Cg et;have hn:=(BU.mp et).1;unfold SW Kk;show XZ T (hb2.af (same s5)) hq (h:=0) (i:=3) rfl rfl ht λH6 r xs ks s6 hr6 er6 pk6 ps6 kn6 km6 lk6=>?_;have et6:=s6 _ _ et5;have ntr:r≠tp:=λy=>by rw[y,et5]at hr6;cases hr6
        have lx:=(CN pk6).1;show⟨r,rfl,⟨_,AW er6⟩,FJ (K:=AH) (xs:=xs) (λq σ H'=>Kj (λ(o7:Option AD)(acc:List AD)=>σ=[AA (.ref F.x),AA (.str z),AA (.ref tl),AA (.int (t:Int)),o4,o5,AA (.ref tp),o7]) (λ_ _=>BV tp H6 H') (λ_ acc=>H' tp=AA (.lst acc)) (λ_ acc=>Az (LA H') acc (GA z gg ((Al ss).take n)++(((CV (gg t) ks).take q).filter λm=>Aa (m.1=z)).map λm=>(t,m.2))) (λ_ acc=>acc.length<=1800000*n+q)) ⟨o7,acc,rfl,λ_ _ _ e=>e,et6,by rw[V7,show(Vy (λm:AF×AV=>Aa (m.1=z)) []).map (λm=>(t,m.2))=[]from rfl,C2];show KU wi5 s6.tp,la5⟩ (λq σ H' _ hh=>by obtain⟨_,_,_,s,_⟩:=hh;show AW (s _ _ ntr er6)) (λq y σ H7 hy hI=>?_) λσ H7 hI=>?_⟩
        . obtain⟨o7,acc,rfl,s7,et7,wi7,la7⟩:_:=hI;have hq':q<(CV (gg t) ks).length:=by rw[<-lx];show(BU.mp hy).1
          have em:=CG hq';generalize(CV (gg t) ks)[q]=pk at em;obtain⟨a,qa,rfl,ea,eq⟩:_:=(CN pk6).2 q _ _ hy em;have tp7:=s7.tp et6 (by intro xs y;cases y);have sa:=Ao (K:=AH) (tp7 _ _ ea);have ft:=LF (p:=λm:AF×AV=>Aa (m.1=z)) em;show⟨_,_,sa,Aj (j:=0) rfl,rfl,_,rfl,Pn (λe=>?_) λe=>⟨_,acc,rfl,s7,et7,?_,by(first|lia|omega)⟩⟩
          . show⟨.inl ⟨rfl,_,AW et7⟩,_,_,sa,Aj (j:=1) rfl,_,_,sa,Aj (j:=2) rfl,_,_,sa,Aj (j:=3) rfl,(by decide:4<=sizeLine),λu hu=>?_⟩;show BA hu λH8 s8 eu=>?_;show⟨tp,acc,.ref u,rfl,rfl,s8 _ _ et7,by(first|lia|omega),?_⟩;have tp':Bc H7 (AQ H8 tp (.lst (acc++[.ref u]))):=λb xs e=>by rw[AX λy=>by rw[y,et7]at e;cases e];show s8 _ _ e
            show⟨_,acc++[.ref u],rfl,λb o nb e=>by rw[AX nb];show s8 _ _ (s7 _ _ nb e),Af,?_,by rw[B8];show OT la7 1⟩;rw[ft,AEv (AEx e),CQ,<-Ea];show Dh (KU wi7 tp') (.cons ⟨u,qa,rfl,by rw[AX λy=>by rw[y,s8 _ _ et7]at eu;cases eu];show eu,tp' _ _ (tp7 _ _ eq)⟩ .nil)
          . rw[ft,AEu (by rw[AE1];show e),C2];show wi7
        . obtain⟨o7,acc,rfl,s7,et7,wi7,la7⟩:_:=hI;rw[lx,GI]at wi7;show⟨_,_,acc,rfl,λb o nb e=>s7 _ _ nb (s6 _ _ (s5 _ _ nb e)),et7,?_,by(first|lia|omega)⟩;unfold GA at wi7⊢;rw[Ms et];have e:((CV (gg t) ks).filter λm=>Aa (m.1=z)).map (λm=>((t,m.2):Nat×AV))=(gg t z).map λp=>(t,p):=by rw[<-mB kn6 (km6 z),Cu];rfl
          rw[<-e];show wi7
      . obtain⟨o3,o7,acc',rfl,s5,et5,wi5,la5⟩:_:=hI;rw[As,GI]at wi5;have s5':=same s5;show z4 _ _ ⟨(by decide:2<=sizeLine),λr hr=>?_⟩;show BA hr λH6 s6 er=>?_;have s56:=s5'.aa s6;show k H6 r tl tp (s2'.aa s56) ((s2'.aa s5').ba hr) htl (s2'.ba htp) ⟨acc,acc',er,s56 _ _ et2,s6 _ _ et5,KR wi2 s56.tp,KU wi5 s6.tp⟩
noncomputable def Nv(L:List AO):List AO:=Wf (LK L)
theorem UZ(h:LK L M):Nv L=M:=pO (Wg (p:=LK L) ⟨M,h⟩) h (.refl _)
theorem Yq(p:L.Perm D):Nv L=Nv D:=by unfold Nv LK;congr 1;funext M;show propext ⟨λh=>⟨h.1,h.2.trans p⟩,λh=>⟨h.1,h.2.trans p.symm⟩⟩
def LI(g:AF->List AV)(ks:List AF):Prop:=ks.Pairwise (λa b=>Dl (.inr b) (.inr a)=AR)/\ks.Nodup/\∀y,g y≠[]->y∈ks
noncomputable def Ua(g:AF->List AV):List (AF×AV):=Wf λM=>∃D,M=CV g D/\LI g D
theorem Yz:CV g (ks.filter λy=>!(g y).isEmpty)=CV g ks:=by induction ks with|nil=>rfl|cons y ks D=>unfold CV at D⊢;rw[Gp,Ek];cases q:g y with|nil=>show D|cons a b=>rw[AEv (by rfl),Ek,D,q]
theorem qN(h:LI g ks)(J:LI g D):CV g ks=CV g D:=by
 rw[<-Yz (ks:=ks),<-Yz (ks:=D)];have e:∀(a b:AF),Bf [.inr b] [.inr a]=Dl (.inr b) (.inr a):=λa b=>by
  change(if(Bt b:AK)=.inr a then AR else Dl (.inr b) (.inr a))=_;by_cases q:(Bt b:AK)=.inr a;.rw[AEv q,q,Ry]
  .rw[AEu q]
 have s:∀{l:List AF},LI g l->Cs ((l.filter λy=>!(g y).isEmpty).map λy=>[Bt y]):=λh=>Eb.mpr ((h.1.filter _).imp λ{a b}q=>(e a b).trans q);have m:∀{l:List AF},LI g l->∀y,y∈(l.filter λy=>!(g y).isEmpty)↔g y≠[]:=λh y=>by
  rw[DT];show⟨λq z=>?_,λq=>⟨h.2.2 y q,?_⟩⟩
  . rw[z]at q;cases q.2
  .cases z:g y with |nil=>show absurd z q|cons=>rfl
 congr 1;show Ml (ON (ADz _ ((ABu (h.2.1.filter _) (J.2.1.filter _)).mpr λy=>(m h y).trans (m J y).symm)) (s h) (s J)) λa _ b _ e=>Ft (C9 e).1
theorem Yr(h:LI g ks):Ua g=CV g ks:=by obtain⟨J,e,D⟩:_:=Wg (p:=λM=>∃ks,M=CV g ks/\LI g ks) ⟨_,ks,rfl,h⟩;show e.trans (qN D h)
noncomputable def JA(z:AF)(sd:Bi)(t m:Nat):DG:=.list (((Nv (Ck z (Au m (sd t)))).map Fu).map Ez)
noncomputable def Q5(z:AF)(gg:CI)(t:Nat):DG:=.list ((Ua (Cr (gg t) z [])).map L5)
noncomputable def Jj(ss:List AU)(z:AF)(sd:Bi)(gg:CI):List DG:=((Cy ss).flatMap λt=>[JA z sd t 0,JA z sd t 1])++(Al ss).map (Q5 z gg)
def Ws(z:AF)(ss:List AU)(sd sd':Bi):Prop:=∀t,Bq ss t->(Ck z (sd t).1).Perm (Ck z (sd' t).1)/\(Ck z (sd t).2).Perm (Ck z (sd' t).2)
theorem YE(h:Ws z ss sd sd')(J:∀t∈Al ss,∀y,y≠z->gg t y=gg' t y):Jj ss z sd gg=Jj ss z sd' gg':=by
  unfold Jj;congr 1
  . show Q4 λt D=>?_;obtain⟨a,b⟩:=h t (Jh.mp D);unfold JA Au;rw[AEv rfl,AEu (by decide),AEv rfl,AEu (by decide),Yq a,Yq b]
  . show MS λt D=>?_;unfold Q5;have e:Cr (gg t) z []=Cr (gg' t) z []:=funext λy=>by
      by_cases q:y=z;.rw[q,EX,EX]
      .rw[ER q,ER q,J t D y q]
    rw[e]
section
variable{w:CA}
inductive Hh(H:AI)(tl:AE):AD->DG->Prop|it(a:AE)(xs:List AD)(M:List AO)(n:a≠tl)(e:H a=AA (.lst xs))(w:Cc H xs (M.map Fu))(as:∀i∈M,CT i.2.1):Hh H tl (.ref a) (.list ((M.map Fu).map Ez))|pk(a:AE)(xs:List AD)(M:List (AF×AV))(n:a≠tl)(e:H a=AA (.lst xs))(w:Az (Lq H) xs M)(as:∀m∈M,CT m.1):Hh H tl (.ref a) (.list (M.map L5))
end
theorem Hh.ab(h:Hh H tl x d)(s:∀b xs,b≠tl->H b=AA (.lst xs)->H' b=AA (.lst xs))(t:Bc H H'):Hh H' tl x d:=by cases h with|it a xs M n e w D=>show .it a xs M n (s _ _ n e) (w.ab t) D|pk a xs M n e w D=>show .pk a xs M n (s _ _ n e) (YJ w t) D
theorem Hh.dv(h:Hh H tl x d):DZ AH H x d:=by cases h with|it a D M n e w _=>show .lst (AW e) w.adm|pk a D M n e w _=>show .lst (AW e) (mC w)
theorem Hh.sh(h:Hh H tl x d):GJ d=AJ/\GK d<=4:=by cases h with |it a B M n e w W=>
 clear e w;have J:∀{M:List AO},(∀i∈M,CT i.2.1)->FY ((M.map Fu).map Ez)=AJ/\EU ((M.map Fu).map Ez)<=2:=λ{M}=>by induction M with |nil=>showλ_=>⟨rfl,by simp[EU]⟩|cons i l A=>intro h;obtain⟨D,U⟩:=A λi Y=>h i (.tail _ Y);have Z:=(h i (.head _)).ok;show⟨by simp only[FL,cK,Fu,Ez,HK,FY,GJ,D,Z,S8],by simp only[FL,cK,Fu,Ez,HK,EU,GK];(first|lia|omega)⟩
 obtain⟨D,U⟩:=J W;show⟨by simp only[GJ];show D,by simp only[GK];(first|lia|omega)⟩|pk a B M n e w W=>
 clear e w;have J:∀{M:List (AF×AV)},(∀i∈M,CT i.1)->FY (M.map L5)=AJ/\EU (M.map L5)<=3:=λ{M}=>by induction M with|nil=>showλ_=>⟨rfl,by simp[EU]⟩|cons i l A=>intro h;obtain⟨D,U⟩:=A λi Y=>h i (.tail _ Y);have Z:=(h i (.head _)).ok;show⟨by simp[L5,FY,GJ,D,Z],by simp[L5,EU,GK];(first|lia|omega)⟩
 obtain⟨D,U⟩:=J W;show⟨by simp only[GJ];show D,by simp only[GK];(first|lia|omega)⟩
theorem UI(h:Az (Hh H tl) xs D):FY D=AJ/\EU D<=4:=by induction h with|nil=>show⟨rfl,by simp[EU]⟩|cons a _ J=>show⟨by simp[FY,a.sh.1,J.1],by simp only[EU];show Nat.max_le.mpr ⟨a.sh.2,J.2⟩⟩
def Nb(D:List DG):Prop:=FY D=AJ/\EU D<=4
theorem Nb.xg(h:Nb D):F7 (.list D)=AJ:=by obtain⟨a,b⟩:=h;simp[F7,GJ,GK,a];(first|lia|omega)
theorem Nb.acp(h:Nb D)(g:Nb E):F7 (.list [.list D,.list E])=AJ:=by lk;obtain⟨a,b⟩:=h;obtain⟨c,d⟩:=g;k_in;simp[F7,GJ,FY,GK,EU,a,c];(first|lia|omega)
theorem UH(h:Az (Hh H tl) xs D):FI AH H xs D:=by induction h with|nil=>show .nil|cons a _ J=>show .cons a.dv J
theorem Tg(p:E->Bool)(a:xs.length<=Ay)(O:B7 AH H r xs)(w:Az F xs L)(b:∀x y,y∈L->F x y->∀R:Bool->AI->Prop,R (p y) H->N (AA x::B.map (FA σ)) H R)(k:∀D ys,H D=AG->Az F ys (L.filter p)->Q (.ref D) (AQ H D (.lst ys))):Kd 1 B (G1 0) N (FC 0) σ Q (Kf AH r) H:=by
  obtain⟨M,P⟩:=CN w;show Mx (K:=AH) (xs:=xs) (λn A J W=>(∃o,A=o::B.map (FA σ))/\W=H/\Az F J ((L.take n).filter p)) a ⟨⟨AG,rfl⟩,rfl,.nil⟩ (λn A J W T=>by rw[T.2.1];show O) (λn x A J W f e I _ C d c=>?_) λA J W _ C D S=>?_
  . obtain⟨⟨o,rfl⟩,rfl,U⟩:_:=C;have X:n<L.length:=by rw[<-M];show(BU.mp I).1
    have Y:=CG X;generalize L[n]=y at Y;have G:=P n x y I Y;have Z:=LF (p:=p) Y;show b x y (Cg Y) G _ ?_;cases q:p y with |true=> rw[q,AEv rfl]at Z;show d _ _ _ ⟨⟨_,rfl⟩,rfl,by rw[Z];show Dh U (.cons G .nil)⟩|false=> rw[q,AEu Dw,C2]at Z;show c _ _ ⟨⟨_,rfl⟩,rfl,by rw[Z];show U⟩
  . obtain⟨_,rfl,U⟩:_:=C;rw[M,GI]at U;show k D J S U
theorem qM:(CV g ks).filter (λm=>!Aa (m.1=z))=CV (Cr g z []) ks:=by induction ks with |nil=>rfl|cons y ks D=>
 unfold CV at D⊢;rw[Ek,Ek,GZ,D,NJ];congr 1;by_cases q:y=z;. subst q;rw[EX,IB.mpr λp _ h=>by simp at h]
 .rw[ER q,NI.mpr λp _=>by simpa using q]
theorem Xx:Ck z M=M.filter λi=>!Aa (i.2.1=z):=IA λi _=>by
 by_cases q:i.2.1=z;.rw[AEx q,AEz (λh=>h q)];rfl
 .rw[AEz q,AEx (p:=¬_=_) q];rfl
theorem Ym(J:Hg ss sd gg gk p)(U:Bq ss t)(D:x∈Au m (sd t)):p x.2.1:=by
 unfold Au at D;split at D;.show(J.sp t U).1 x D
 .show(J.sp t U).2 x D
def oH(Y:CF):BO:=λZ H Q _=>(KH λ(D:List AU)(F:DJ)(U:Bi)(J:CI)(W:DI)(p:AF->Prop)(z:AF)=>JV (Z=[.ref F.x,.str z]) (DK Y [] H D F U J W) (D.length<=8) (Hg D U J W p) ((∀z,p z->CT z)) (∀V r,An H V->H r=AG->DZ AH V (.ref r) (.list (Jj D z U J))->Nb (Jj D z U J)->Q (.ref r) V))
theorem UD(T:BQ AH Ag AM):T.jz.Ok BM P w Ag base 3 (oH AM):=by
    show T.jz.ok λnd _ _ _ _ _ hr H vs Q E h=>?_;obtain⟨ss,F,sd,gg,gk,p,z,rfl,hb,lss,hq,pas,k⟩:_:=h;show⟨_,(Bv (BC 2 nd (CW Dq)) (Bv (C8 DF rfl (Cn (K:=AH) (DE (MI rfl) (by rfl) T.cy J6 #v[Bu (AB 0) rfl])) (CO 3 nd) (Ac (C8 DF rfl (SH (by rfl) T.je #v[AN]) (CO 4 nd) (Ac (D1 (JI AH (AB 2) #v[(Hx (DC Ye) [("_law_key",1)] ⟨rfl,rfl,trivial⟩ (Cn (K:=AH) (KW (CZ AH (Bu (EY hr.u1 (Bu (AB 0) rfl) (AB 3) (λ_ _=>rfl)) rfl) (AB 4)) T.cq (RG T) hr)) (λ_ _ _ _=>Jv (Bl Z8 (Av AH (AB 0) AN) (AB 1) (BW _))) (λ_ _ _ _=>(AB 0)))])))))) (Bv (C8 DF rfl (Cn (K:=AH) (DE (MI rfl) (by rfl) T.cy J6 #v[Bu (AB 0) rfl])) (CO 3 nd) (Ac (D1 (JI AH (AB 2) #v[(Hx (DC Ye) [("_law_key",1)] ⟨rfl,rfl,trivial⟩ (Cn (K:=AH) (KW (EY hr.u1 (Bu (AB 0) rfl) (AB 3) (λ_ _=>rfl)) T.aw (Nm T) hr)) (λ_ _ _ _=>Jv (Bl Z8 (Av AH (AB 0) AN) (AB 1) (BW _))) (λ_ _ _ _=>(AB 0)))])))) (Ac (BI (AB 2)))))),?_⟩;have sz:Ay=16777216:=DW;obtain⟨dx,eo⟩:=hb.cg;have lj:(Cy ss).length<=8:=Ah (D3 _ _) (by rw[JO];show lss);have lt:(Al ss).length<=8:=Ah (D3 _ _) (by rw[JO];show lss);showλ_ _ _ _ z1=>⟨BY _,λtl htl=>z1 _ _ ?_⟩;show BA (o:=.lst []) htl λH0 s0 et0=>?_;showλ_ _ _ _ z2=>⟨_,⟨s0 _ _ eo,T.ah,T.av,rfl⟩,F.dj,F.cp,rfl,s0 _ _ hb.di,.inl λq hq=>?_,λls ks hls pk ps=>?_⟩;. obtain⟨i,_,_,e⟩:_:=hb.tw.rh q hq;show⟨_,by rw[e]⟩
    rw[Q9 hb.tw pk ps];show BA hls λH1 s1 els=>?_;have et1:=s1 _ _ et0;have s01:=s0.aa s1;have nlt:ls≠tl:=λy=>by rw[y,et0]at hls;cases hls
    have same:∀{H':AI},BV tl H1 H'->An H H':=λs b o e=>s b o (Bg e htl) (s01 _ _ e);clear s0 s1 et0 pk ps;show⟨ls,rfl,⟨_,AW els⟩,FJ (K:=AH) (xs:=(Cy ss).map λt:Nat=>AD.int (t:Int)) (λn σ H'=>(EH λ(o3 o4:Option AD)(acc:List AD)=>EV (σ=[AA (.ref F.x),AA (.str z),AA (.ref tl),o3,o4]) (BV tl H1 H') (H' tl=AA (.lst acc)) (Az (Hh H' tl) acc (((Cy ss).take n).flatMap λt=>[JA z sd t 0,JA z sd t 1])) (acc.length<=2*n))) ⟨AG,AG,[],rfl,λ_ _ _ e=>e,et1,.nil,BY _⟩ (λn σ H' _ hh=>by obtain⟨_,_,_,_,s,_⟩:=hh;show AW (s _ _ nlt els)) (λn x σ H2 hx hI=>?_) λσ H2 hI=>?_⟩
    . lk;obtain⟨o3,o4,acc,rfl,s2,et2,wi2,la2⟩:=hI;rw[Bs]at hx;obtain⟨t,et,rfl⟩:=Du.mp hx;k_in;have ht:Bq ss t:=Jh.mp (Cg et);have hn:=(BU.mp et).1;show⟨_,rfl,by decide,by decide,Pl (λm σ H'=>Kj (λ(o4:Option AD)(acc:List AD)=>σ=[AA (.ref F.x),AA (.str z),AA (.ref tl),AA (.int (t:Int)),o4]) (λ_ _=>BV tl H1 H') (λ_ acc=>H' tl=AA (.lst acc)) (λ_ acc=>Az (Hh H' tl) acc ((((Cy ss).take n).flatMap λt=>[JA z sd t 0,JA z sd t 1])++(Ec m).map (JA z sd t))) (λ_ acc=>acc.length<=2*n+m)) ⟨o4,acc,rfl,s2,et2,by rw[show(Ec 0).map (JA z sd t)=[]from rfl,C2];show wi2,la2⟩ (λm σ H3 hm hI=>?_) λσ H3 hI=>?_⟩
      . obtain⟨o4,acc,rfl,s3,et3,wi3,la3⟩:_:=hI;have hm:m<2:=hm;rw[Wm];show⟨.inl ⟨rfl,_,AW et3⟩,?_⟩;unfold JM JL Kk;show XX T (hb.af (same s3)) hq (h:=0) (i:=3) (j:=4) rfl rfl rfl ht hm λH4 r xs M s4 hr4 er4 w4 sM lM=>⟨r,rfl,⟨_,AW er4⟩,?_⟩;have et4:=s4 _ _ et3;have lx:xs.length=M.length:=w4.de.trans (As _);show Tg (F:=λx i=>∃a,x=.ref a/\H4 a=AA (.tup ((Fu i).map Aw))) (λi:AO=>!Aa (i.2.1=z)) (by(first|lia|omega)) (AW er4) (GY lx λi x y e1 e2=>?_) (λx y _ hF R hR=>?_) λD ys hD w5=>?_
        . lk;obtain⟨a,ks,e,ek,ea⟩:=w4.at e1;rw[Bs,e2]at ek;cases ek;k_in;show⟨a,e,ea⟩
        . obtain⟨a,rfl,ea⟩:_:=hF;show⟨_,_,Ao ea,Aj (j:=0) rfl,rfl,_,rfl,?_⟩;have e:Aa (AD.str y.2.1=AD.str z)=Aa (y.2.1=z):=by
            by_cases q:y.2.1=z;.rw[q,AEx rfl,AEx rfl]
            .rw[AEz q,AEz λe=>q (AD.str.inj e)]
          change R (!Aa (AD.str y.2.1=AD.str z)) H4;rw[e];show hR
        . rw[<-Xx]at w5;show BA hD λH5 s5 eD=>?_;have nD:D≠tl:=λy=>by rw[y,et4]at hD;cases hD
          show⟨tl,acc,.ref D,rfl,rfl,s5 _ _ et4,by(first|lia|omega),?_⟩;have tp:Bc H3 (AQ H5 tl (.lst (acc++[.ref D]))):=λb xs e=>by rw[AX λy=>by rw[y,et3]at e;cases e];show s5 _ _ (s4 _ _ e)
          show⟨_,acc++[.ref D],rfl,λb o nb e=>by rw[AX nb];show s5 _ _ (s4 _ _ (s3 _ _ nb e)),Af,?_,by rw[B8];show OT la3 1⟩;rw[OR,CQ,<-Ea];show Dh (Ej (λ_ _ h=>h.ab (λb xs nb e=>by rw[AX nb];show s5 _ _ (s4 _ _ e)) tp) wi3) (.cons ?_ .nil);unfold JA;rw[UZ (L:=Ck z (Au m (sd t))) (M:=Ck z M) ⟨(Eb.mpr ((Eb.mp sM.1).filter _)),sM.2.filter _⟩];show .it D ys _ nD (by rw[AX nD];show eD) (PJ (Ej (λ_ _ h=>?_) w5)) λi hi=>pas _ (Ym hq ht (sM.2.mem_iff.mp (DT.mp hi).1));obtain⟨a,e,ea⟩:_:=h;show⟨a,e,by rw[AX λy=>by rw[y,et4]at ea;cases ea];show s5 _ _ ea⟩
      . obtain⟨o4,acc,rfl,s3,et3,wi3,la3⟩:_:=hI;show⟨_,_,acc,rfl,s3,et3,?_,by have:acc.length<=2*n+2:=la3;(first|lia|omega)⟩;rw[Ms et];show wi3
    . obtain⟨o3,o4,acc,rfl,s2,et2,wi2,la2⟩:_:=hI;rw[As]at wi2 la2;rw[GI]at wi2;have s2':=same s2;show z2 _ _ ?_;clear z1 z2 els s01 nlt;have hb2:=hb.af s2';showλ_ _ _ _ z4=>⟨_,⟨s2' _ _ eo,T.ah,T.aq,rfl⟩,F.dg,F.ax,rfl,hb2.bh,.inl λq hq=>?_,λlg ks hlg pk ps=>?_⟩
      . obtain⟨i,_,e⟩:_:=hb.ue.rh q hq;show⟨_,by rw[e]⟩
      rw[XW hb.ue pk ps];show BA hlg λH4 s4 elg=>?_;have et4:=s4 _ _ et2;have nlt:lg≠tl:=λy=>by rw[y,et2]at hlg;cases hlg
      clear pk ps;show⟨lg,rfl,⟨_,AW elg⟩,FJ (K:=AH) (xs:=(Al ss).map λt:Nat=>AD.int (t:Int)) (λn σ H'=>Kj (λ(o3:Option AD)(acc:List AD)=>σ=[AA (.ref F.x),AA (.str z),AA (.ref tl),o3,o4]) (λ_ _=>BV tl H4 H') (λ_ acc=>H' tl=AA (.lst acc)) (λ_ acc=>Az (Hh H' tl) acc (((Cy ss).flatMap λt=>[JA z sd t 0,JA z sd t 1])++((Al ss).take n).map (Q5 z gg))) (λ_ acc=>acc.length<=16+n)) ⟨o3,acc,rfl,λ_ _ _ e=>e,et4,by rw[V7,cK,C2];show Ej (λ_ _ h=>h.ab (λb xs _ e=>s4 _ _ e) s4.tp) wi2,by(first|lia|omega)⟩ (λn σ H' _ hh=>by obtain⟨_,_,_,s,_⟩:=hh;show AW (s _ _ nlt elg)) (λn x σ H5 hx hI=>?_) λσ H5 hI=>?_⟩
      . lk;obtain⟨o3,acc,rfl,s5,et5,wi5,la5⟩:=hI;rw[Bs]at hx;obtain⟨t,et,rfl⟩:=Du.mp hx;k_in;have ht:t∈Al ss:=Cg et;have hn:=(BU.mp et).1;show⟨.inl ⟨rfl,_,AW et5⟩,?_⟩;unfold JM JL Kk;show XZ T (hb.af (same λb o nb e=>s5 _ _ nb (s4 _ _ (s2 _ _ nb e)))) hq (h:=0) (i:=3) rfl rfl ht λH6 r xs ks s6 hr6 er6 pk6 ps6 kn6 km6 lk6=>⟨r,rfl,⟨_,AW er6⟩,?_⟩;have et6:=s6 _ _ et5;have lx:=(CN pk6).1;show Tg (F:=Lq H6) (λm:AF×AV=>!Aa (m.1=z)) (by(first|lia|omega)) (AW er6) pk6 (λx y _ hF R hR=>?_) λD ys hD w7=>?_
        . obtain⟨a,q,rfl,ea,_⟩:_:=hF;show⟨_,_,Ao ea,Aj (j:=0) rfl,rfl,_,rfl,?_⟩;have e:Aa (AD.str y.1=AD.str z)=Aa (y.1=z):=by
            by_cases q:y.1=z;.rw[q,AEx rfl,AEx rfl]
            .rw[AEz q,AEz λe=>q (AD.str.inj e)]
          change R (!Aa (AD.str y.1=AD.str z)) H6;rw[e];show hR
        . rw[qM]at w7;show BA hD λH7 s7 eD=>?_;have nD:D≠tl:=λy=>by rw[y,et6]at hD;cases hD
          show⟨tl,acc,.ref D,rfl,rfl,s7 _ _ et6,by(first|lia|omega),?_⟩;have tp:Bc H7 (AQ H7 tl (.lst (acc++[.ref D]))):=λb xs e=>by rw[AX λy=>by rw[y,s7 _ _ et6]at e;cases e];show e
          have tp5:Bc H5 (AQ H7 tl (.lst (acc++[.ref D]))):=λb xs e=>tp _ _ (s7 _ _ (s6 _ _ e));show⟨_,acc++[.ref D],rfl,λb o nb e=>by rw[AX nb];show s7 _ _ (s6 _ _ (s5 _ _ nb e)),Af,?_,by rw[B8];show OT la5 1⟩;rw[Dt,et,CQ,<-Ea];show Dh (Ej (λ_ _ h=>h.ab (λb xs nb e=>by rw[AX nb];show s7 _ _ (s6 _ _ e)) tp5) wi5) (.cons ?_ .nil);unfold Q5;rw[Yr (ks:=ks) ⟨ps6,kn6,λy hy=>km6 y λe=>hy ?_⟩];.show .pk D ys _ nD (by rw[AX nD];show eD) (YJ w7 λb xs e=>tp _ _ (s7 _ _ e)) λm hm=>pas _ (hq.gp t ht _ λe=>(by
              have:=(MA.mp hm).2;by_cases q:m.1=z;.rw[q,EX]at this;cases this
              .rw[ER q,e]at this;cases this))
          . by_cases q:y=z;.rw[q,EX]
            .rw[ER q,e]
      . obtain⟨o3,acc,rfl,s5,et5,wi5,la5⟩:_:=hI;rw[As,GI]at wi5;show z4 _ _ ?_;show k H5 tl (same λb o nb e=>s5 _ _ nb (s4 _ _ (s2 _ _ nb e))) htl (.lst (AW et5) (UH wi5)) (UI wi5)
section
variable{w:CA}{s:AU}
unseal Ew in theorem mM{X:Br}{st:DA}{t:C7}(h:Ew X st t):Ew X st (λD σ H=>∃a,(∀o u,H a≠AA (.frz o u))/\t {D with rt:=λv H'=>∃o u,H' a=AA (.frz o u)/\D.rt v (AQ H' a u)} σ H):=by intro pins s σ H D I⟨a,V,w⟩;have W:=λo u z=>V o u (I.ar.ql _ _ _ z);show BD (h _ s σ H _ I w) λf s' q=>?_;cases f with|next=>show q|brk=>show q|cont=>show q|ret u=>obtain⟨x,J,H',U,r,o,Y,e,q⟩:_:=q;show⟨x,J,_,U.acg e W,r,q⟩
end
def oU(W:CF):BO:=λZ H Q _=>(KG λ(D:List AU)(F:DJ)(J:Bi)(Y:CI)(V:DI)(z:AF)=>JV (Z=[.ref F.x,.str z]) (DK W [] H D F J Y V) (D.length<=8) ((∀t,Bq D t->Ap z (J t).1=[]/\Ap z (J t).2=[])) ((∀t∈Al D,(.inr z:AK)∉(V t).map (·.1))) (∀U,An H U->Q (.bl AR) U))
theorem lI(T:BQ AH Ag AM):T.jm.Ok BM P w Ag base 1 (oU AM):=by
    show T.jm.ok λnd _ _ _ _ _ hr H vs Q E h=>?_;obtain⟨ss,F,sd,gg,gk,z,rfl,hb,lss,hs,hg,k⟩:_:=h;show⟨_,(Bv (LY (C8 DF rfl (OJ (Bu (AB 0) rfl)) (CO 2 nd) (Ac (C8 DF rfl (Cn (K:=AH) (Bu (EY hr.u1 (Bu (AB 0) rfl) (AB 2) (λ_ _=>rfl)) rfl)) (CO 3 nd) (Ac (Bx (Va (aC hr.u1 (AB 1) (Bu (AB 3) rfl))) (Ac (BI F4)) CH)))))) (Ac (mM (BI (HM OG (DE (HJ (K:=AH)) (by rfl) T.fm HR #v[(Hx (DC mR) [("_law_key",1),("_law_hand",0)] ⟨rfl,rfl,rfl,rfl,trivial⟩ (OJ (Bu (AB 0) rfl)) (λ_ _ _ _=>Jv (Va (aC hr.u1 (AB 1) (Pz (K:=AH) (EY hr.u1 (Pz (K:=AH) (AB 2) rfl) (AB 0) (λ_ _=>rfl)) rfl)))) (λ_ _ _ _=>(AB 0)))]) AN (BW _)))))),?_⟩;have sz:Ay=16777216:=DW;have ljk:=hb.tw.de;obtain⟨dx,ex⟩:=hb.cg;showλ_ _ _ _ z1=>⟨F.dj,(λo u z=>by rw[hb.di]at z;cases z),_,⟨ex,T.ah,T.av,rfl⟩,F.dj,F.cp,rfl,.inl hb.di,λo H1 ed1 ne1=>?_⟩;have jr1:=hb.cb.jq (.inr ⟨o,ed1⟩) ne1;have ex1:H1 F.x=AA (.ins AM.bc dx (Lz F)):=by rw[ne1 _ λz=>by rw[z,hb.di]at ex;cases ex];show ex
    show U8 (λn σ H'=>LS (λ(o2 o3:Option AD)=>σ=[AA (.ref F.x),AA (.str z),o2,o3]) (λ_ _=>An H1 H')) ⟨AG,AG,rfl,C6 _⟩ (λn σ H' _ hh=>by obtain⟨_,_,_,s'⟩:=hh;show s' _ _ ed1) ?_ ?_
    . intro n q σ H2 hn hI;lk;obtain⟨o2,o3,rfl,s2⟩:=hI;obtain⟨t,_,hj,rfl⟩:=hb.tw.rh q (Cg hn);obtain⟨nn,a,b,wi,et⟩:=hj;have jr2:=jr1.af s2;obtain⟨vj,jj⟩:=jr2.dc t nn a b wi et;obtain⟨dj2,ej2⟩:=jj.cg;k_in;show⟨_,⟨s2 _ _ ex1,T.ah,T.av,rfl⟩,F.dj,.ref (F.jd t).j,rfl,by rw[<-vj];show .inl ⟨F.cp,.inl (t:Int),jr2.ai,rfl,rfl⟩,_,⟨ej2,T.cv,T.bo,rfl⟩,(F.jd t).sl,rfl,⟨_,AW jj.cu⟩,FJ (K:=AH) (xs:=[.ref (F.jd t).x0,.ref (F.jd t).x1]) (λm σ H'=>Gk (λ(o3:Option AD)=>σ=[AA (.ref F.x),AA (.str z),AA (.int (t:Int)),o3]) (λ_=>An H2 H')) ⟨o3,rfl,C6 _⟩ (λm σ H' _ hh=>by obtain⟨_,_,s'⟩:=hh;show AW (s' _ _ jj.cu)) ?_ ?_⟩
      . intro m y σ H3 hy hI;lk;obtain⟨o3',rfl,s3⟩:=hI;have jj3:=jj.af s3;have hm:m<2:=(BU.mp hy).1;obtain⟨x,d,ey,sr⟩:=DP.acb (L:=sd t) jj3 hm;rw[hy]at ey;cases ey;obtain⟨dxs,exs⟩:=sr.cg;obtain⟨kvs,ed,_⟩:=sr.aj;k_in;have e0:Ap z (Au m (sd t))=[]:=by
          have:=hs t ⟨nn,a,b,wi,et⟩;unfold Au;split;.show this.1
          .show this.2
        have hv:BH kvs (.inr z)=AG:=by
          rcases sr.om z ed with⟨e,_⟩|⟨r,xs,kss,_,_,_,_,nk,_,pm⟩;.show e
          . change kss.Perm ((Ap z (Au m (sd t))).map Et)at pm;rw[e0]at pm;show absurd (QC.mp pm) nk
        show⟨_,⟨exs,T.cq,T.bx,rfl⟩,d,AG,rfl,by rw[<-hv];show LN (k:=.inr z) ed,_,rfl,Ds ⟨_,rfl,s3⟩⟩
      . intro σ H3 hI;obtain⟨o3',rfl,s3⟩:_:=hI;show⟨_,_,rfl,s2.aa s3⟩
    . intro σ H2 hI;obtain⟨o2,o3,rfl,s2⟩:_:=hI;show⟨o,_,s2 _ _ ed1,z1 _ _ ?_⟩;have s3:=O7 hb.di ne1 s2;generalize AQ H2 F.dj (.dK F.cp)=H3 at s3⊢;clear ne1 jr1 ex1 s2 ed1;have hb3:=hb.af s3;have lgk:=hb.uf;show⟨F.dg,(λo u z=>by rw[hb3.bh]at z;cases z),_,⟨s3 _ _ ex,T.ah,T.aq,rfl⟩,F.dg,F.ax,rfl,.inl hb3.bh,λo H4 ed4 ne4=>?_⟩;have gr4:=hb3.bw.jq (.inr ⟨o,ed4⟩) ne4;have ex4:H4 F.x=AA (.ins AM.bc dx (Lz F)):=by rw[ne4 _ λz=>by have e:=hb3.bh;rw[<-z,s3 _ _ ex]at e;cases e];show s3 _ _ ex
      show ZR (o:=o) (kvs:=F.ax) (λn τ acc H'=>(∃o0,τ=[o0,AA (.str z),AA (.ref F.x)])/\acc=[]/\H'=H4) (by(first|lia|omega)) ⟨⟨AG,rfl⟩,rfl,rfl⟩ (λn τ acc H' hh=>by rw[hh.2.2];show ed4) (λn q τ acc H' R1 R0 hn _ hI _ k0=>?_) λτ acc H' _ hI D hD=>?_
      . lk;obtain⟨⟨o0,rfl⟩,rfl,rfl⟩:=hI;obtain⟨t,ht,rfl⟩:=hb.ue.rh q (Cg hn);obtain⟨st,es,vt,g⟩:=gr4.jo t ht;obtain⟨dxg,exg⟩:=g.cg;k_in;have hv:BH (gk t) (.inr z)=AG:=by cases e:BH (gk t) (.inr z)with|none=>rfl|some v=>show absurd (BE.mpr ⟨_,FD e,rfl⟩) (hg t ht)
        show⟨_,⟨ex4,T.ah,T.aq,rfl⟩,F.dg,.ref (F.gd t).x,rfl,by rw[<-vt];show .inl ⟨F.ax,.inl (t:Int),gr4.ai,rfl,rfl⟩,_,⟨exg,T.aw,T.bj,rfl⟩,(F.gd t).d,AG,rfl,by rw[<-hv];show LN (k:=.inr z) g.aj.ai,_,rfl,Ds (k0 _ _ ⟨⟨_,rfl⟩,rfl,rfl⟩)⟩
      . obtain⟨_,rfl,rfl⟩:_:=hI;show BA hD λH5 s5 eD=>⟨_,.inl (AW eD),o,_,s5 _ _ ed4,?_⟩;show k _ (s3.aa (O7 hb3.bh ne4 s5))
def pI:BO:=λU H Q _=>(EH λ(D:AF)(q:AE)(t:EI)=>IL (U=[.str D,.ref q]) (D∈FQ) (Fc H q t) (∀J,An H J->Q (.int (IS D t)) J))
theorem lT(T:BQ AH Ag AM):T.nj.Ok BM P w Ag base 1 pI:=by
 show T.nj.ok λZ _ _ _ _ _ S H R Q E h=>?_;obtain⟨J,q,t,rfl,W,B,k⟩:_:=h;show⟨_,(Ac (BI (Av AH (AB 1) (Kr (K:=AH) Lf ACn F.type_list_index (uE (K:=AH)) (CW #v[DV,DV,DV,DV]) #v[AB 0])))),?_⟩;have Z:FQ.Nodup:=by decide+kernel
 obtain⟨j,L,D⟩:_:=FN.mp W;have D:FQ[j]?=AA J:=by rw[<-D];show CG L
 have U:∀m,m<j->FQ[m]?≠AA J:=λm M e=>by obtain⟨G,C⟩:=BU.mp D;obtain⟨I,F⟩:=BU.mp e;show(Gq.mp Z) m j I G M (F.trans C.symm)
 have R:IS "count" t=t.1/\IS "sum" t=t.2.1/\IS "least" t=t.2.2.1/\IS "greatest" t=t.2.2.2:=⟨rfl,rfl,rfl,rfl⟩;have O:DL [AD.int t.1,.int t.2.1,.int t.2.2.1,.int t.2.2.2] (j)=AA (.int (IS J t)):=by match j,D with |0,e=>cases e;rfl|1,e=>cases e;rfl|2,e=>cases e;rfl|3,e=>cases e;rfl
 show⟨CB rfl,λp N=>?_⟩;show BA N λA s1 Y=>?_;show⟨.inl ⟨rfl,_,AW Y⟩,p,FQ,J,j,rfl,rfl,AW Y,D,U,_,_,Ao (s1 _ _ B),O,k A s1⟩
def UK(ss:List AU)(q:Dx):List AK:=match ss[q.1]? with|AA s=>Mr s q.2.1 q.2.2|AG=>[]
def L3(ss:List AU)(q:Dx):DG:=.tuple ((EF q).map HK++[Ez (UK ss q)])
theorem RB(h:Az (Gw ss H) xs D):FI AH H xs (D.map (L3 ss)):=by induction h with|nil=>show .nil|cons a _ Y=>obtain⟨a,r,s,W,rfl,J,U⟩:_:=a;show .cons (.tup (Ao J) (Q2 (OA _) (.cons ?_ .nil))) Y;unfold UK;rw[W];show .tup (Ao U) (OA _)
theorem Xr(W:∀s∈ss,∀t∈s.uc,CT t){D:List Dx}(h:∀q∈D,CT q.2.1)(F:tl=[]\/tl=[.none]):F7 (.list (D.map (L3 ss)++tl))=AJ:=by
 have V:∀q:Dx,CT q.2.1->GJ (L3 ss q)=AJ/\GK (L3 ss q)<=3:=λq E=>by have Y:=E.ok;unfold L3 UK;cases B:ss[q.1]? with|none=>show⟨by simp[EF,HK,Ez,GJ,FY,Y],by simp[EF,HK,Ez,GK,EU]⟩|some s=>have C:K0 s.nm=AJ:=(W s (Cg B) _ (by cases s<;>show .head _)).ok;show⟨by simp[EF,HK,Ez,Mr,GJ,FY,Y,C],by simp[EF,HK,Ez,Mr,GK,EU]⟩
 have U:∀{D:List Dx},(∀q∈D,CT q.2.1)->FY (D.map (L3 ss)++tl)=AJ/\EU (D.map (L3 ss)++tl)<=3:=λ{D}=>by induction D with
  |nil=>
   intro _;rcases F with rfl|rfl;.show⟨rfl,by simp[EU]⟩
   .show⟨rfl,by simp[EU,GK]⟩|cons q l H=> intro h;obtain⟨J,Z⟩:=V q (h q (.head _));obtain⟨A,I⟩:=H λx G=>h x (.tail _ G);rw[FL,Sa];show⟨by simp[FY,J,A],by simp only[EU];(first|lia|omega)⟩
 obtain⟨J,Z⟩:=U h;simp[F7,GJ,GK,J];(first|lia|omega)
def Lp(ss:List AU)(c:AE)(H:AI)(Y:List AD):Prop:=∀v∈Y,∃(q r U:AE)(W D:List AD)(J:List Dx),v=.ref q/\H q=AA (.tup [.ref r,.ref U])/\H r=AA (.lst (W++[.non]))/\H U=AA (.lst (D++[.non]))/\Az (Gw ss H) W J/\Az (Gw ss H) D J/\r≠c/\U≠c/\∀q∈J,CT q.2.1
theorem Lp.ab(h:Lp ss c H J)(s:∀b xs,b≠c->H b=AA (.lst xs)->H' b=AA (.lst xs))(t:Bc H H'):Lp ss c H' J:=λv C=>by obtain⟨q,r,I,xs,D,G,e,Z,A,B,E,F,U,W,Y⟩:_:=h v C;show⟨q,r,I,xs,D,G,e,t _ _ Z,s _ _ U A,s _ _ W B,Fv E t,Fv F t,U,W,Y⟩
theorem Lp.adt(h:Lp ss c H D):KI H D:=λv U=>by obtain⟨q,r,W,_,_,_,e,J,_⟩:_:=h v U;show .inr ⟨q,_,e,J,.inr λi z=>by cases z⟩
theorem jA(h:Az (Gw ss H) xs Y):KI H xs:=λv W=>by lk;obtain⟨i,U,e⟩:=FN.mp W;obtain⟨l,g⟩:=CN h;obtain⟨a,r,s,_,D,J,_⟩:=g i v _ (by rw[CG U,e]) (CG (by(first|lia|omega)));k_in;show .inr ⟨a,_,D,J,.inl (by rw[B8];show(by decide:3<5))⟩
theorem DK.yn{H:AI}{q:AE->Prop}(h:DK AM [] H ss A sd gg gk)(e:H c=AA (.lst ys))(C:KI H ys)(X:A.lp≠c)(s:Ba (λb=>q b\/b=c) H H')(B:∀b,q b->∃kvs,H b=AA (.dK kvs))(n:∀b,q b->¬CU ss A b/\b≠A.dj/\b≠A.dg):DK AM [] H' ss A sd gg gk:=by
 obtain⟨F,W⟩:=h.cg;have R:CY AM [c] H ss A.dj A.cp A.jd sd:=by
  show⟨h.cb.ai,λt n a b k M=>?_,h.cb.bb,h.cb.uw⟩;obtain⟨v,j⟩:=h.cb.dc t n a b k M;show⟨v,j.cg,j.cu,j.s0.yn e C,j.s1.yn e C,j.ne,λP=>?_⟩;have D:=j.cu;rw[By.mp P,e]at D;cases D;obtain⟨F,W⟩:=j.s0.cg;rcases C _ (.head _)with z|⟨l,u,K,U,_⟩;.cases z
  . cases K;rw[W]at U;cases U
 have N:DO AM [c] H ss (Al ss) A.dg A.ax A.gd gg gk:=by show⟨h.bw.ai,λt Q=>?_,h.bw.bb,h.bw.md⟩;obtain⟨d,L,v,g⟩:=h.bw.jo t Q;show⟨d,L,v,g.yn e C⟩
 have G:∀b,(q b\/b=c)->(b∈[c]/\∃I,H b=AA (.lst I))\/∃kvs,H b=AA (.dK kvs):=λb J=>J.elim (λz=>.inr (B b z)) λz=>.inl ⟨by rw[z];show .head _,ys,by rw[z];show e⟩;have Z:∀{b:AE}{kvs:List (AK×AD)},H b=AA (.dK kvs)->b≠c:=λD z=>by rw[z,e]at D;cases D
 have E:∀{b:AE}{o:Bn},H b=AA o->(∀kvs,o≠.dK kvs)->b≠c->H' b=AA o:=λ{b o}D S T=>s _ _ (λz=>z.elim (λz=>by obtain⟨kvs,U⟩:=B b z;rw[D]at U;show S _ (B9 U)) T) D;have f:Bc H H':=λb I D=>E D (by intro kvs z;cases z) λz=>by rw[z,e]at D;cases D
 have Y:∀{b:AE},CU ss A b->¬(q b\/b=c):=λ{b}J z=>z.elim (λz=>(n b z).1 J) λz=>by obtain⟨kvs,D⟩:=h.qo J;show Z D z
 show⟨⟨E h.qm (by intro kvs z;cases z) X,h.si.ab f,s _ _ (λz=>z.elim (λz=>(n _ z).2.1 rfl) (Z h.di)) h.di,h.tw,(R.cx s G (λb J B=>Y (.inl B) J) λz=>z.elim (λz=>(n _ z).2.1 rfl) (Z h.di)).iz,s _ _ (λz=>z.elim (λz=>(n _ z).2.2 rfl) (Z h.bh)) h.bh,h.uf,h.ue,(N.cx s G (λi O z=>Y (.inr ⟨i,O,rfl⟩) z) λz=>z.elim (λz=>(n _ z).2.2 rfl) (Z h.bh)).iz,h.xc,h.md⟩,F,E W (by intro kvs z;cases z) λz=>by rw[z,e]at W;cases W⟩
def KP(m:Option Int)(p:AV):Bool:=match m with|AG=>AJ|AA w=>Aa (p.2.1<=w)
theorem PH:Fd m ps=ps.filter (KP m):=by cases m with |none=>show(NI.mpr λ_ _=>rfl).symm|some w=>
 show IA λp _=>?_;change(!Aa (w<p.2.1))=Aa (p.2.1<=w);by_cases q:w<p.2.1;.rw[AEx q,AEz (by(first|lia|omega))];rfl
 .rw[AEz q,AEx (by(first|lia|omega))];rfl
theorem LL:DU m ps=ps.filter λp=>!KP m p:=by cases m with |none=>show(IB.mpr λ_ _ h=>by cases h).symm|some w=>
 show IA λp _=>?_;change Aa (w<p.2.1)=!Aa (p.2.1<=w);by_cases q:w<p.2.1;.rw[AEx q,AEz (by(first|lia|omega))];rfl
 .rw[AEz q,AEx (by(first|lia|omega))];rfl
theorem pP:Fd m (DU m ps)=[]:=by rw[PH,LL,IC];show IB.mpr λp _ h=>by simp at h
theorem pQ:DU m (DU m ps)=DU m ps:=by rw[LL,LL,IC];show IA λp _=>S8 _
theorem YF(D:σ[2]?=AA (AA (HH m)))(U:∀Q:BN,Q (.int p.2.1) H->J σ H Q)(q:R (KP m p) H):Vp (P6 (Hz (λx y H Q=>y=AD.non/\Q (AD.bl (Aa (x=AD.non))) H) (FC 2) (Ku AD.non))) (P6 (Hz (ND λi j=>AD.bl (Aa (i<=j))) J (FC 2))) σ H R:=by cases m with|none=>change GF σ[2]? _;rw[D];show⟨rfl,_,rfl,q⟩|some w=>change GF σ[2]? _;rw[D];show⟨rfl,_,rfl,Ds (U _ ?_)⟩;change GF σ[2]? _;rw[D];show⟨_,rfl,q⟩
theorem YK(h:EW H ps ss){i:Nat}(e:ss[i]?=AA s):∃a,ps[i]?=AA (.ref a)/\DY H a s:=by have D:=CG (show i<ps.length by rw[h.de];show(BU.mp e).1);lk;obtain⟨a,Y,U,J,W⟩:=h.at D;rw[e]at J;cases J;k_in;rw[U]at D;show⟨a,D,W⟩
theorem i9{gg:CI}{U:List Dx}{l:List Nat}(M:l.Nodup)(Z:l[n]?=AA t)(P:∀y,FR (gg t y))(h:LI (gg t) ks)(R:(U.map EF).Nodup)(A:∀q:Dx,q∈U↔q.1∈l.take n/\q.2.2∈Fd m (gg q.1 q.2.1)):((U++((CV (gg t) ks).filter λD=>KP m D.2).map λD=>((t,D):Dx)).map EF).Nodup/\∀q:Dx,q∈U++((CV (gg t) ks).filter λD=>KP m D.2).map (λD=>((t,D):Dx))↔q.1∈l.take (n+1)/\q.2.2∈Fd m (gg q.1 q.2.1):=by
  have S:t∉l.take n:=λN=>by obtain⟨j,K,e⟩:=FN.mp N;rw[El]at K;rw[NK]at e;obtain⟨J,G⟩:=BU.mp Z;show(Gq.mp M) j n (by(first|lia|omega)) J (by(first|lia|omega)) (e.trans G.symm)
  have X:∀i,i∈l.take (n+1)↔i∈l.take n\/i=t:=λi=>by rw[Dt,Z,DS];show AFD By
  constructor
  . rw[CQ];show cO.mpr ⟨R,?_,λa H b I e=>?_⟩
    . rw[Cu];show Eb.mpr (((Eb.mp (qL P h.1 h.2.1).2).filter _).imp λ{a b}n e=>n ?_);have e:EF (t,a)=EF (t,b):=e;lk;obtain⟨W,B⟩:=C9 e;obtain⟨_,C⟩:=C9 B;obtain⟨E,F⟩:=C9 C;k_in;unfold T3;rw[W,E,(C9 F).1]
    . subst e;lk;obtain⟨u,Y,rfl⟩:=BE.mp H;obtain⟨v,Q,e⟩:=BE.mp I;obtain⟨D,_,rfl⟩:=BE.mp Q;k_in;have:=Fq (C9 (C9 e).2).1;have W:t=u.1:=Iv.mp this;show S (by rw[W];show((A u).mp Y).1)
  . intro q;rw[DS,A,X];constructor
    . rintro(⟨a,b⟩|O);.show⟨.inl a,b⟩
      . lk;obtain⟨D,L,rfl⟩:=BE.mp O;obtain⟨V,J⟩:=DT.mp L;k_in;show⟨.inr rfl,by rw[PH];show DT.mpr ⟨(MA.mp V).2,J⟩⟩
    . rintro⟨a|a,b⟩;.show .inl ⟨a,b⟩
      . obtain⟨T,D⟩:=q;have a:T=t:=a;subst a;rw[PH]at b;obtain⟨V,J⟩:=DT.mp b;show .inr (BE.mpr ⟨D,DT.mpr ⟨MA.mpr ⟨h.2.2 _ (yS V),V⟩,J⟩,rfl⟩)
theorem XG{Y:List Ho}{W:List (AD×List AK)}(C:Az (Gw ss H) J U)(E:Y.map IW=U.map EF)(I:∀D:List Dx,D.Perm U->Cs (D.map EF)->D=A)(Z:W.Perm (J.zip (Y.map IW)))(G:(W.map (·.2)).Pairwise (λa b=>Bf b a=AR)):Az (Gw ss H) (W.map (·.1)) A:=by rw[E]at Z;obtain⟨D,F,K,B⟩:_:=Yo C Z;have e:=I D F (by change ABa _ _;rw[B];show G);subst e;show K
def UX(E:CF):BO:=λI H Q _=>(Ow λ(D:List AU)(F:DJ)(C:Bi)(Z:CI)(A:DI)(p:AF->Prop)(B J:AE)(G Y:List AD)(m:Option Int)=>Wn (I=[.ref F.x,.ref B,HH m,.ref J]) (DK E [] H D F C Z A) (ED D) (D.length<=8) (Hg D C Z A p) (((∀z,p z->CT z)/\∀s∈D,∀t∈s.uc,CT t)) (H B=AA (.lst G)) (EW H G D) (H J=AA (.lst Y)) ((B≠J/\F.lp≠J)) (Lp D J H Y) (Y.length<=1000) (∀U W v,Ba (λb=>CU D F b\/b=J) H U->DK E [] U D F C (λi z=>DU m (Z i z)) W->(∀i∈Al D,(W i).length<=(A i).length)->U J=AA (.lst (Y++[v]))->Lp D J U (Y++[v])->Q (.bl AJ) U))
theorem kZ(T:BQ AH Ag AM):T.iu.Ok BM P w Ag base 8 (UX AM):=by
    show T.iu.ok λnd _ _ _ _ _ hr H vs Q E h=>?_;obtain⟨ss,F,sd,gg,gk,p,lp,lh,ps,hs,m,rfl,hb,pok,lss,hq,⟨pas,txt⟩,elp,pr,elh,⟨nlp,nfl⟩,hw,lhs,k⟩:_:=h;show⟨_,(Bv (BC 4 nd (CW Dq)) (Bv (LY (C8 DF rfl (OJ (Bu (AB 0) rfl)) (CO 5 nd) (Aq (BC 6 nd (CZ AH (AB 1) (AB 5))) (Ac (C8 DF rfl (Cn (K:=AH) (KW (EY hr.u1 (Bu (AB 0) rfl) (AB 5) (λ_ _=>rfl)) T.aw (Nm T) hr)) (Jk rfl (EB (CO 7 nd) (EB (CO 8 nd) (EB (CO 9 nd) (EB (CO 10 nd) JJ))))) (Ac (Bx (Kh (Jw (Bl VP (AB 2) Jr (BW _)) (NC (Bl Pt (AB 9) (AB 2) (BW _))))) (Aq (BC 11 nd (CP #v[Av AH (AB 6) AN,AB 7,AB 8,AB 9,BG (lT T) hr #v[Av AH (AB 6) AN,AB 10]])) (Ac (D1 (JI AH (AB 4) #v[CP #v[AB 9,AB 5,AB 7,AB 8,AB 11]])))) CH))))))) (Bv (BC 12 nd (GV (AB 0) T.ah (X4 T) hr #v[AB 2])) (Bv (Bx (Kh (Jw (JK (G4 (DE (ZJ (K:=AH)) (by rfl) T.oo ACG #v[AB 12,(aD (v:=.ty "list") (by rfl) T.jc NR rfl)]))) (Jw (Bl (NB (K:=AH) hr.fw) (AB 12) (DE (U4 (K:=AH) hr) (by rfl) T.cy J6 #v[AB 4]) (BW _)) (NC (Bl (uT (K:=AH) hr.zl) (GV (AB 0) T.ah (X4 T) hr #v[AB 2]) (CW Dq) (BW _)))))) (Ac (BI F4)) CH) (Bv (D1 (JI AH (AB 3) #v[(CP #v[AB 12,(AY JG (DE (U4 (K:=AH) hr) (by rfl) T.cy J6 #v[AB 4]) (CW #v[Jr]))])])) (Bv (D1 (JI AH (AB 12) #v[Jr])) (Bv (LY (C8 DF rfl (OJ (Bu (AB 0) rfl)) (CO 5 nd) (Ac (C8 DF rfl (Cn (K:=AH) (KW (EY hr.u1 (Bu (AB 0) rfl) (AB 5) (λ_ _=>rfl)) T.aw (Nm T) hr)) (CO 13 nd) (Ac (Bx (Kh (Jw (Bl VP (AB 2) Jr (BW _)) (NC (Bl Pt (Av AH (AB 13) AN) (AB 2) (BW _))))) (Ac (BI F4)) CH)))))) (Ac (BI F4))))))))),?_⟩;have sz:Ay=16777216:=DW;obtain⟨dx,eo⟩:=hb.cg;have lgk:=hb.uf;have ltel:(Al ss).length<=8:=Ah (D3 _ _) (by rw[JO];show lss);showλ_ _ _ _ z1=>⟨BY _,λtl htl=>z1 _ _ ?_⟩;show BA (o:=.lst []) htl λH0 s0 et0=>?_;have hb0:=hb.af s0;showλ_ _ _ _ z2=>⟨F.dg,(λo u z=>by rw[hb0.bh]at z;cases z),_,⟨s0 _ _ eo,T.ah,T.aq,rfl⟩,F.dg,F.ax,rfl,.inl hb0.bh,λo H1 ed1 ne1=>?_⟩;have gr1:=((hb.bw.gv htl).af s0).jq (.inr ⟨o,ed1⟩) ne1;have ntd:tl≠F.dg:=λz=>by rw[z,hb.bh]at htl;cases htl
    have n1:∀{b:AE}{ob:Bn},H b=AA ob->(∀kvs,ob≠.dK kvs)->H1 b=AA ob:=λ{b ob}e n=>by rw[ne1 b λz=>by rw[z,hb.bh]at e;show n _ (B9 e).symm];show s0 _ _ e
    have ex1:=n1 eo (by intro kvs z;cases z);have et1:H1 tl=AA (.lst []):=by rw[ne1 _ ntd];show et0
    have elp1:=n1 elp (by intro kvs z;cases z);have pr1:EW H1 ps ss:=pr.ab λb xs e=>n1 e (by intro kvs z;cases z);have nlt:lp≠tl:=λz=>by rw[z,htl]at elp;cases elp
    show U8 (λn σ H'=>(Ll λ(o5 o6 o7 o8 o9 o10 o11:Option AD)(acc:List AD)(dq:List Dx)=>HZ (σ=[AA (.ref F.x),AA (.ref lp),AA (HH m),AA (.ref lh),AA (.ref tl),o5,o6,o7,o8,o9,o10,o11,AG,AG]) (BV tl H1 H') (H' tl=AA (.lst acc)) (Az (Gw ss H') acc dq) ((dq.map EF).Nodup) ((∀q:Dx,q∈dq↔q.1∈(Al ss).take n/\q.2.2∈Fd m (gg q.1 q.2.1))) (acc.length<=1800000*n))) ⟨AG,AG,AG,AG,AG,AG,AG,[],[],rfl,λ_ _ _ e=>e,et1,.nil,.nil,λq=>⟨λh=>(by cases h),λh=>(by cases h.1)⟩,BY _⟩ (λn σ H' _ hh=>by obtain⟨_,_,_,_,_,_,_,_,_,_,s,_⟩:=hh;show s _ _ ntd.symm ed1) (λn q σ H2 hn hI=>?_) λσ H2 hI=>?_
    . lk;obtain⟨o5,o6,o7,o8,o9,o10,o11,acc,dq,rfl,s2,et2,mk2,nd2,mm2,la2⟩:=hI;obtain⟨t,ht,rfl⟩:=hb.ue.rh q (Cg hn);have et:=Tu hb.ue hn;have hn8:=(BU.mp hn).1;obtain⟨st,es,tt⟩:=Kb.mp ht;obtain⟨tok,so,_⟩:=pok.gm es tt;have x2:∀{b:AE}{ob:Bn},b≠tl->H1 b=AA ob->H2 b=AA ob:=λnb e=>s2 _ _ nb e;have tp12:=s2.tp et1 (by intro xs y;cases y);obtain⟨a,ea,eA⟩:=YK pr1 es;k_in;have gr2:=(gr1.cx (q:=(.=tl)) (λb ob nb e=>s2 b ob nb e) (λb hb=>.inl ⟨by rw[hb];show .head _,[],by rw[hb];show et1⟩) (λi hi z=>by obtain⟨_,_,_,g⟩:=gr1.jo i hi;have:=g.aj.ai;rw[z,et1]at this;cases this) ntd.symm).iz;have ex2:=x2 (λz=>by rw[z,htl]at eo;cases eo) ex1;have elp2:=x2 nlt elp1;show⟨_,_,AW elp2,Aj ea,?_⟩;show Q6 (σ:=[AA (.ref F.x),AA (.ref lp),AA (HH m),AA (.ref lh),AA (.ref tl),AA (.int (t:Int)),AA (.ref a),o7,o8,o9,o10,o11,AG,AG]) T ex2 gr2 hq (h:=0) (i:=5) rfl rfl ht λH3 r xs ks s3 hr3 er3 pk3 ps3 kn3 km3 lk3=>?_;have et3:=s3 _ _ et2;have ntr:r≠tl:=λy=>by rw[y,et2]at hr3;cases hr3
      have lx:=(CN pk3).1;have kf:LI (gg t) ks:=⟨ps3,kn3,km3⟩;show⟨r,rfl,⟨_,AW er3⟩,FJ (K:=AH) (xs:=xs) (λq σ H'=>(KG λ(o7 o8 o9 o10 o11:Option AD)(acc:List AD)=>EV (σ=[AA (.ref F.x),AA (.ref lp),AA (HH m),AA (.ref lh),AA (.ref tl),AA (.int (t:Int)),AA (.ref a),o7,o8,o9,o10,o11,AG,AG]) (BV tl H3 H') (H' tl=AA (.lst acc)) (Az (Gw ss H') acc (dq++(((CV (gg t) ks).take q).filter λkp=>KP m kp.2).map λkp=>((t,kp):Dx))) (acc.length<=1800000*n+q))) ⟨o7,o8,o9,o10,o11,acc,rfl,λ_ _ _ e=>e,et3,by rw[V7,ABg,cK,C2];show Fv mk2 s3.tp,la2⟩ (λq σ H' _ hh=>by obtain⟨_,_,_,_,_,_,_,s,_⟩:=hh;show AW (s _ _ ntr er3)) (λq y σ H4 hy hI=>?_) λσ H4 hI=>?_⟩
      . obtain⟨o7,o8,o9,o10,o11,acc,rfl,s4,et4,mk4,la4⟩:_:=hI;have hq':q<(CV (gg t) ks).length:=by rw[<-lx];show(BU.mp hy).1
        have em:=CG hq';generalize(CV (gg t) ks)[q]=kp at em;obtain⟨b,qa,rfl,eb,eq⟩:_:=(CN pk3).2 q _ _ hy em;have tp4:=s4.tp et3 (by intro xs y;cases y);have ft:=LF (p:=λkp:AF×AV=>KP m kp.2) em;show⟨b,_,rfl,Ao (tp4 _ _ eb),rfl,_,_,rfl,_,_,rfl,_,_,rfl,_,_,rfl,rfl,?_⟩;unfold Vo;show YF (p:=kp.2) rfl (λQ h=>h) ?_;cases ov:KP m kp.2 with|false=>rw[ov,AEu Dw,C2]at ft;show Ds ⟨_,_,_,_,_,acc,rfl,s4,et4,by rw[ft];show mk4,by(first|lia|omega)⟩|true=>
          rw[ov,AEv rfl]at ft;have eA4:DY H4 a st:=eA.tp λb xs e=>tp4 _ _ (s3 _ _ (tp12 _ _ e));obtain⟨sq,a1,a3⟩:_:=eA4.adv tok;show Jq ⟨_,_,sq,a1,_,_,sq,a3,st.so,qa,kp.2.2.2,rfl,so,tp4 _ _ eq,λH5 s5=>?_⟩;show⟨(by decide:5<=sizeLine),λu hu=>?_⟩;show BA hu λH6 s6 eu=>?_;show⟨.inl ⟨rfl,_,AW (s6 _ _ (s5 _ _ et4))⟩,(by decide:5<=sizeLine),λv hv=>?_⟩;show BA hv λH7 s7 ev=>?_;have s57:=s5.aa (s6.aa s7);have et7:=s57 _ _ et4;show⟨tl,acc,.ref v,rfl,rfl,et7,by(first|lia|omega),?_⟩;have tp8:Bc H7 (AQ H7 tl (.lst (acc++[.ref v]))):=λb xs e=>by rw[AX λy=>by rw[y,et7]at e;cases e];show e
          show⟨_,_,_,_,_,acc++[.ref v],rfl,λb o nb e=>by rw[AX nb];show s57 _ _ (s4 _ _ nb e),Af,?_,by rw[B8];show OT la4 1⟩;rw[ft,CQ,<-Ea];show Dh (Fv mk4 λb xs e=>tp8 _ _ (s57 _ _ e)) (.cons ⟨v,u,st,es,rfl,tp8 _ _ ev,tp8 _ _ (s7 _ _ eu)⟩ .nil)
      . lk;obtain⟨o7,o8,o9,o10,o11,acc,rfl,s4,et4,mk4,la4⟩:=hI;rw[lx,GI]at mk4;obtain⟨nd5,mm5⟩:=i9 (Ue ss) et (λy=>((hq.gl t ht).2 y).1) kf nd2 mm2;k_in;show⟨_,_,_,_,_,_,_,acc,_,rfl,λb o nb e=>s4 _ _ nb (s3 _ _ (s2 _ _ nb e)),et4,mk4,nd5,mm5,by(first|lia|omega)⟩
    . obtain⟨o5,o6,o7,o8,o9,o10,o11,acc,dq,rfl,s2,et2,mk2,nd2,mm2,la2⟩:_:=hI;have lj:(Al ss).length=F.ax.length:=by have:=AEw JN hb.ue.yr;rw[As,As]at this;show this.symm
      rw[<-lj,GI]at mm2;show⟨o,_,s2 _ _ ntd.symm ed1,z2 _ _ ?_⟩;have s3:An H (AQ H2 F.dg (.dK F.ax)):=λb ob e=>by
        by_cases q:b=F.dg
        . rw[q,hb.bh]at e;cases e;rw[q];show Af
        . rw[AX q];show s2 _ _ (Bg e htl) (by rw[ne1 b q];show s0 _ _ e)
      have et3:(AQ H2 F.dg (.dK F.ax)) tl=AA (.lst acc):=by rw[AX ntd];show et2
      have mk3:Az (Gw ss (AQ H2 F.dg (.dK F.ax))) acc dq:=Fv mk2 λb xs e=>by rw[AX λz=>by rw[z,s2 _ _ ntd.symm ed1]at e;cases e];show e
      have la3:acc.length<=14400000:=by rw[<-lj]at la2;(first|lia|omega)
      generalize AQ H2 F.dg (.dK F.ax)=H3 at s3 et3 mk3⊢;clear s0 et0 hb0 z1 z2 gr1 n1 ex1 et1 elp1 pr1 ne1 ed1 s2 et2 mk2 la2;have hb3:=hb.af s3;have hlg:=λi(hi:i∈Al ss)=>hq.gl i hi;showλ_ _ _ _ z3=>⟨F.x,dx,_,rfl,s3 _ _ eo,by rfl,[],ss,F,sd,gg,gk,m,rfl,hb3,pok,lss,(λc hc=>by cases hc),(λi hi=>(hlg i hi).1),(λi hi=>(hlg i hi).2),λH4 r xs qs gk4 s4 hb4 lg4 hr4 er4 mk4 nd4 sd4 mm4 lq4=>z3 _ _ ?_⟩;have as:∀q∈qs,CT q.2.1:=λq hm=>by obtain⟨h1,h2⟩:=(mm4 q).mp hm;rw[PH]at h2;show pas _ (hq.gp _ h1 _ (yS (DT.mp h2).1))
      have un:∀R':List Dx,R'.Perm dq->Cs (R'.map EF)->R'=qs:=λR' pm sR=>mT pok (g:=λt z=>Fd m (gg t z)) (λt ht z=>by rw[PH];show((hlg t ht).2 z).1.sublist Jz) ((pm.map EF).nodup_iff.mpr nd2) nd4 sR sd4 (λq=>pm.mem_iff.trans (mm2 q)) mm4;have o4:∀{b:AE}{ob:Bn},H3 b=AA ob->(∀kvs,ob≠.dK kvs)->H4 b=AA ob:=λ{b ob}e n=>s4 _ _ (λz=>by obtain⟨kvs,e'⟩:=hb3.qo z;rw[e]at e';show n _ (B9 e')) e;have et4:=o4 et3 (by intro kvs z;cases z);have mk4':=Fv mk3 λb xs e=>o4 e (by intro kvs z;cases z);have sh:F7 (.list (qs.map (L3 ss)))=AJ:=by have:=Xr txt as (tl:=[]) (.inl rfl);rwa[C2]at this
      obtain⟨ds,edd,sn⟩:_:=T5 mk4' nd2;showλ_ _ _ _ z4=>⟨_,_,_,AJ,rfl,.lst er4,rfl,AJ,rfl,Ds ⟨tl,acc,ds,_,rfl,AW et4,sn,λl qq hl pq sq=>?_⟩⟩;have ml:=XG mk4' edd un pq sq;generalize qq.map (·.1)=xl at ml⊢;show BA hl λH5 s5 el=>?_;show M9 (.lst (AW (s5 _ _ er4)) (RB (Fv mk4 s5.tp))) (.lst (AW el) (RB (Fv ml s5.tp))) sh ⟨_,rfl,Ds ?_⟩;have hb5:=hb4.af s5;obtain⟨dx5,eo5⟩:=hb5.cg;show⟨F.x,dx5,_,rfl,eo5,by rfl,[],ss,F,sd,_,gk4,m,rfl,hb5,pok,lss,(λc hc=>by cases hc),(λi hi=>Ah (lg4 i hi) (hlg i hi).1),(λi hi z=>by rw[LL];show⟨((hlg i hi).2 z).1.sublist Jz,Ah (D3 _ _) ((hlg i hi).2 z).2⟩),λH6 r6 xs6 qs6 gk6 s6 hb6 lg6 hr6 er6 mk6 nd6 sd6 mm6 lq6=>⟨BY _,λu hu=>?_⟩⟩;show BA hu λH7 s7 eu=>?_;have q6:qs6=[]:=List.eq_nil_iff_forall_not_mem.mpr λq hm=>by have:=((mm6 q).mp hm).2;rw[pP]at this;cases this
      subst q6;cases mk6;show⟨r6,u,[],rfl,rfl,AW (s7 _ _ er6),AW eu,_,rfl,Ds (z4 _ _ ?_)⟩;have o6:∀{b:AE}{ob:Bn},H5 b=AA ob->(∀kvs,ob≠.dK kvs)->H6 b=AA ob:=λ{b ob}e n=>s6 _ _ (λz=>by obtain⟨kvs,e'⟩:=hb5.qo z;rw[e]at e';show n _ (B9 e')) e;have o7:∀{b:AE}{ob:Bn},H4 b=AA ob->(∀kvs,ob≠.dK kvs)->H7 b=AA ob:=λe n=>s7 _ _ (o6 (s5 _ _ e) n);have hb7:DK AM [] H7 ss F sd (λi z=>DU m (gg i z)) gk6:=⟨(hb6.af s7).toJZ.zi λi hi=>funext λz=>pQ.symm,(hb6.af s7).cg⟩;have et7:=o7 et4 (by intro kvs z;cases z);have er7:=o7 er4 (by intro kvs z;cases z);have tp47:Bc H4 H7:=λb xs e=>o7 e (by intro kvs z;cases z);have mk7:=Fv mk4' tp47;have mkr7:=Fv mk4 tp47;have elh7:=o7 (o4 (s3 _ _ elh) (by intro kvs z;cases z)) (by intro kvs z;cases z);have hw7:Lp ss lh H7 hs:=hw.ab (λb xs _ e=>o7 (o4 (s3 _ _ e) (by intro kvs z;cases z)) (by intro kvs z;cases z)) λb xs e=>o7 (o4 (s3 _ _ e) (by intro kvs z;cases z)) (by intro kvs z;cases z);have lg7:∀i∈Al ss,(gk6 i).length<=(gk i).length:=λi hi=>Ah (lg6 i hi) (lg4 i hi);have sp7:Ba (CU ss F) H H7:=λb ob nb e=>s7 _ _ (s6 _ _ nb (s5 _ _ (s4 _ _ nb (s3 _ _ e))));have nrl:r≠lh:=λz=>by rw[z,s3 _ _ elh]at hr4;cases hr4
      have nrp:F.lp≠r:=λz=>by rw[<-z,hb3.qm]at hr4;cases hr4
      have hrH:H r=AG:=s3.ba hr4;clear z3 z4 s4 s5 s6 s7 o4 o6 o7 hb3 hb4 hb5 hb6 er4 et4 el eu er6 mk4 mk4' ml s3 et3 mk3 lg4 lg6 eo5 pq sq qq edd sn ds;obtain⟨ds,edd,sn⟩:_:=T5 mk7 nd2;showλ_ _ _ _ z5=>⟨.inl ⟨rfl,_,AW elh7⟩,tl,acc,ds,_,rfl,AW et7,sn,λl qq hl pq sq=>?_⟩;have ml:=XG mk7 edd un pq sq;generalize qq.map (·.1)=xl at ml⊢;show BA hl λH8 s8 el=>⟨CB rfl,λn9 hn9=>?_⟩;show BA hn9 λH9 s9 en9=>?_;have lxl:=(CN ml).1;show⟨l,n9,xl,[.non],rfl,rfl,s9 _ _ el,en9,by rw[lxl];change qs.length+1<=_;(first|lia|omega),λd hd=>?_⟩;show BA hd λH10 s10 ed=>⟨(by decide:2<=sizeLine),λv hv=>?_⟩;show BA hv λH11 s11 ev=>?_;have s7b:=s8.aa (s9.aa (s10.aa s11));have elh11:=s7b _ _ elh7;show⟨lh,hs,.ref v,rfl,rfl,elh11,by(first|lia|omega),z5 _ _ ?_⟩;have er11:=s7b _ _ er7;have x12:BV lh H11 (AQ H11 lh (.lst (hs++[.ref v]))):=zzu
      have elh12:(AQ H11 lh (.lst (hs++[.ref v]))) lh=AA (.lst (hs++[.ref v])):=Af;generalize AQ H11 lh (.lst (hs++[.ref v]))=H12 at x12 elh12⊢;have er12:=x12 _ _ nrl er11;showλ_ _ _ _ z6=>⟨.inl ⟨rfl,_,AW er12⟩,r,xs,.non,rfl,rfl,er12,by rw[(CN mkr7).1];(first|lia|omega),z6 _ _ ?_⟩;have x13:BV r H12 (AQ H12 r (.lst (xs++[.non]))):=zzu
      have er13:(AQ H12 r (.lst (xs++[.non]))) r=AA (.lst (xs++[.non])):=Af;generalize AQ H12 r (.lst (xs++[.non]))=H13 at x13 er13⊢;have ndl:d≠lh:=λz=>by rw[z,s9 _ _ (s8 _ _ elh7)]at hd;cases hd
      have ndr:d≠r:=λz=>by rw[z,s9 _ _ (s8 _ _ er7)]at hd;cases hd
      have t13:Bc H11 H13:=λb ys e=>x13 _ _ (λz=>by rw[z,er11]at e;cases e) (x12 _ _ (λz=>by rw[z,elh11]at e;cases e) e);have t7:Bc H7 H13:=λb ys e=>t13 _ _ (s7b _ _ e);have hb12:DK AM [] H12 ss F sd (λi z=>DU m (gg i z)) gk6:=(hb7.af s7b).yn elh11 (hw7.ab (λb xs _ e=>s7b _ _ e) s7b.tp).adt nfl (q:=λ_=>False) (λb o nb e=>x12 _ _ (λz=>nb (.inr z)) e) (λ_ z=>z.elim) λ_ z=>z.elim;have hb13:DK AM [] H13 ss F sd (λi z=>DU m (gg i z)) gk6:=hb12.yn er12 (jA (Fv mkr7 λb ys e=>x12 _ _ (λz=>by rw[z,elh7]at e;cases e) (s7b _ _ e))) nrp (q:=λ_=>False) (λb o nb e=>x13 _ _ (λz=>nb (.inr z)) e) (λ_ z=>z.elim) λ_ z=>z.elim;have sp13:Ba (λb=>CU ss F b\/b=lh) H H13:=λb o nb e=>x13 _ _ (Bg e hrH) (x12 _ _ (λz=>nb (.inr z)) (s7b _ _ (sp7 _ _ (λz=>nb (.inl z)) e)));have no:∀{b:AE}{ob:Bn},H b=AA ob->(∀kvs,ob≠.dK kvs)->¬CU ss F b:=λ{b ob}e n z=>by obtain⟨kvs,e'⟩:=hb.qo z;rw[e]at e';show n _ (B9 e')
      have hw13:Lp ss lh H13 (hs++[.ref v]):=λw hw'=>by
        rcases DS.mp hw' with h|h;.show hw.ab (λb ys nb e=>sp13 _ _ (λz=>z.elim (no e (by intro kvs z;cases z)) nb) e) (λb ys e=>sp13 _ _ (λz=>z.elim (no e (by intro kvs z;cases z)) λz=>by rw[z,elh]at e;cases e) e) w h
        . rw[By.mp h];show⟨v,r,d,xs,xl,qs,rfl,t13 _ _ ev,er13,x13 _ _ ndr (x12 _ _ ndl (s11 _ _ ed)),Fv mkr7 t7,Fv ml t7,nrl,ndl,as⟩
      have elh13:=x13 _ _ nrl.symm elh12;clear sp7 mk7 mkr7 elh7 er7 hb7 x12 x13 er12 er13 elh12 hb12 t13 t7 s7b;obtain⟨dx13,eo13⟩:=hb13.cg;showλ_ _ _ _ z7=>⟨F.dg,(λo u z=>by rw[hb13.bh]at z;cases z),_,⟨eo13,T.ah,T.aq,rfl⟩,F.dg,F.ax,rfl,.inl hb13.bh,λo H14 ed14 ne14=>?_⟩;have gr14:=hb13.bw.jq (.inr ⟨o,ed14⟩) ne14;have eo14:H14 F.x=AA (.ins AM.bc dx13 (Lz F)):=by rw[ne14 _ λz=>by have e:=hb13.bh;rw[<-z,eo13]at e;cases e];show eo13
      have hq14:Hg ss sd (λi z=>DU m (gg i z)) gk6 p:=⟨hq.sl,hq.sp,λi hi=>⟨Ah (lg7 i hi) (hlg i hi).1,λz=>by rw[LL];show⟨((hlg i hi).2 z).1.sublist Jz,Ah (D3 _ _) ((hlg i hi).2 z).2⟩⟩,λi hi z hz=>hq.gp i hi z λe=>hz (by rw[e,LL];rfl)⟩;show U8 (λn σ H'=>LS (λ(o5 o13:Option AD)=>σ=[AA (.ref F.x),AA (.ref lp),AA (HH m),AA (.ref lh),AA (.ref tl),o5,o6,o7,o8,o9,o10,o11,AA (.ref r),o13]) (λ_ _=>An H14 H')) ⟨_,_,rfl,C6 _⟩ (λn σ H' _ hh=>by obtain⟨_,_,_,s⟩:=hh;show s _ _ ed14) (λn q σ H15 hn hI=>?_) λσ H15 hI=>?_
      . lk;obtain⟨o5,o13,rfl,s15⟩:=hI;obtain⟨t,ht,rfl⟩:=hb.ue.rh q (Cg hn);k_in;unfold SW Kk;show Q6 (σ:=[AA (.ref F.x),AA (.ref lp),AA (HH m),AA (.ref lh),AA (.ref tl),AA (.int (t:Int)),o6,o7,o8,o9,o10,o11,AA (.ref r),o13]) T (s15 _ _ eo14) (gr14.af s15) hq14 (h:=0) (i:=5) rfl rfl ht λH16 r' xs' ks s16 hr16 er16 pk16 ps16 kn16 km16 lk16=>?_;show⟨r',rfl,⟨_,AW er16⟩,FJ (K:=AH) (xs:=xs') (λq σ H'=>Gk (λ(o13:Option AD)=>σ=[AA (.ref F.x),AA (.ref lp),AA (HH m),AA (.ref lh),AA (.ref tl),AA (.int (t:Int)),o6,o7,o8,o9,o10,o11,AA (.ref r),o13]) (λ_=>H'=H16)) ⟨_,rfl,rfl⟩ (λq σ H' _ hh=>by obtain⟨_,_,e⟩:=hh;rw[e];show AW er16) (λq y σ H17 hy hI=>?_) λσ H17 hI=>?_⟩
        . obtain⟨o13,rfl,rfl⟩:_:=hI;have hq':q<(CV (λz=>DU m (gg t z)) ks).length:=by rw[<-(CN pk16).1];show(BU.mp hy).1
          have em:=CG hq';have mem:=(MA.mp (yP hq')).2;generalize(CV (λz=>DU m (gg t z)) ks)[q]=kp at em mem;obtain⟨b,qa,rfl,eb,eq⟩:_:=(CN pk16).2 q _ _ hy em;have ov:KP m kp.2=AR:=by rw[LL]at mem;have:=(DT.mp mem).2;cases h:KP m kp.2 with|false=>rfl|true=>rw[h]at this;cases this
          unfold Vo;show YF (p:=kp.2) rfl (λQ h=>⟨_,_,Ao eb,Aj (j:=2) rfl,h⟩) ?_;rw[ov];show Ds ⟨_,rfl,rfl⟩
        . obtain⟨o13,rfl,rfl⟩:_:=hI;show⟨_,_,rfl,s15.aa s16⟩
      . obtain⟨o5,o13,rfl,s15⟩:_:=hI;show⟨o,_,s15 _ _ ed14,z7 _ _ ?_⟩;have sF:=O7 hb13.bh ne14 s15;show k _ gk6 (.ref v) (λb ob nb e=>sF _ _ (sp13 _ _ nb e)) (hb13.af sF) lg7 (sF _ _ elh13) (hw13.ab (λb xs _ e=>sF _ _ e) sF.tp)
noncomputable def I9(sd:Bi)(t m:Nat):DG:=.list (((Nv (Au m (sd t))).map Fu).map Ez)
noncomputable def Xi(ss:List AU)(sd:Bi):List DG:=(Cy ss).flatMap λt=>[I9 sd t 0,I9 sd t 1]
noncomputable def O5(gg:CI)(t:Nat):DG:=.list ((Ua (gg t)).map L5)
theorem XY(T:BQ AH Ag AM)(W:Cb AM [] H x d L)(U:L.length<=600)(Y:σ[i]?=AA (AA (.ref x)))(k:∀H' r xs M,An H H'->H r=AG->H' r=AA (.lst xs)->Cc H' xs (M.map Fu)->LK L M->M.length<=600->Q (.ref r) H'):NG AM.dm "kept" (UW AM) [] JB (FC i) HP σ H Q:=by obtain⟨D,J⟩:=W.cg;change GF σ[i]? _;rw[Y];show⟨x,D,_,rfl,J,by rfl,[],x,d,L,rfl,W,U,λH' r xs B s A Z hw E C=>?_⟩;obtain⟨M,V,rfl⟩:_:=PX C;show k H' r xs M s A Z hw ⟨E,V⟩ (by rw[V.length_eq];show U)
theorem W7(T:BQ AH Ag AM)(eo:H1 F.x=AA (.ins AM.bc dx (Lz F)))(gks:K9 (Al ss) F.gd F.ax)(gl:F.ax.length<=8)(ed:H1 F.dg=AA (.frz o (.dK F.ax)))(gr:DO AM [] H1 ss (Al ss) F.dg F.ax F.gd gg gk)(hq:Hg ss sd gg gk p)(e0:σ[0]?=AA (AA (.ref F.x)))(pas:∀z,p z->CT z)(k:∀H' r xs,An H1 H'->H' r=AA (.lst xs)->DZ AH H' (.ref r) (.list ((Al ss).map (O5 gg)))->Nb ((Al ss).map (O5 gg))->Q (.ref r) H'):Kd 1 [0] (G1 0) P7 (NG AM.au "pieces" (RS AM) [] JB (P4 (Kv AH (FC 1) "groups") (FC 0)) HP) σ Q (ME o F.ax F.dg) H1:=by
  have sz:Ay=16777216:=DW;have pk:[0].map (FA σ)=[AA (.ref F.x)]:=by change[FA σ 0]=_;unfold FA;rw[e0];rfl
  show ZR (o:=o) (kvs:=F.ax) (λn τ acc H'=>(∃o0,τ=o0::[0].map (FA σ))/\An H1 H'/\Az (Hh H' F.dg) acc (((Al ss).take n).map (O5 gg))) (by(first|lia|omega)) ⟨⟨AG,rfl⟩,C6 _,.nil⟩ (λn τ acc H' hh=>hh.2.1 _ _ ed) (λn q τ acc H' R1 R0 hn _ hI k1 _=>?_) λτ acc H' _ hI D hD=>?_
  . obtain⟨⟨o0,rfl⟩,s1,dv1⟩:_:=hI;rw[pk]at k1⊢;obtain⟨t,ht,rfl⟩:_:=gks.rh q (Cg hn);have et:=Tu gks hn;show Q6 (σ:=[AA (.int (t:Int)),AA (.ref F.x)]) T (s1 _ _ eo) (gr.af s1) hq (h:=1) (i:=0) rfl rfl ht λH2 r xs ks s2 hr2 er2 pk2 ps2 kn2 km2 lk2=>k1 _ _ _ ⟨⟨_,rfl⟩,s1.aa s2,?_⟩;rw[Dt,et,CQ];show Dh (Ej (λ_ _ h=>h.ab (λb xs _ e=>s2 _ _ e) s2.tp) dv1) (.cons ?_ .nil);unfold O5;rw[Yr (ks:=ks) ⟨ps2,kn2,km2⟩];show .pk r xs _ (λy=>by rw[y,s1 _ _ ed]at hr2;cases hr2) er2 pk2 λm hm=>pas _ (hq.gp t ht _ (yS (MA.mp hm).2))
  . obtain⟨_,s1,dv1⟩:_:=hI;have lj:(Al ss).length=F.ax.length:=by have:=AEw JN gks.yr;rw[As,As]at this;show this.symm
    rw[<-lj,GI]at dv1;show BA hD λH2 s2 eD=>?_;show k H2 D acc (s1.aa s2) eD (.lst (AW eD) (KN (Eu s2) (UH dv1))) (UI dv1)
def UU(A:CF):BO:=λE H Q _=>(Ll λ(D:List AU)(F:DJ)(Z:Bi)(W:CI)(Y:DI)(p:AF->Prop)(B:AE)(C:List AD)(J:Int)=>JW (E=[.ref F.x,.ref B,.int J]) (DK A [] H D F Z W Y) (D.length<=8) (Hg D Z W Y p) ((∀z,p z->CT z)) (H B=AA (.lst C)) (EW H C D) (∀U,Ba (CU D F) H U->DK A [] U D F (Eh D J Z) W Y->Q (.bl AJ) U))
theorem kC(T:BQ AH Ag AM):T.fq.Ok BM P w Ag base 8 (UU AM):=by
    show T.fq.ok λnd _ _ _ _ _ hr H vs Q E h=>?_;obtain⟨ss,F,sd,gg,gk,p,lp,ps,now,rfl,hb,lss,hq,pas,elp,pr,k⟩:_:=h;show⟨_,(Bv (BC 3 nd (CW Dq)) (Bv (C8 DF rfl (Cn (K:=AH) (DE (MI rfl) (by rfl) T.cy J6 #v[Bu (AB 0) rfl])) (CO 4 nd) (Ac (C8 DF rfl (Cn (K:=AH) (Bu (EY hr.u1 (Bu (AB 0) rfl) (AB 4) (λ_ _=>rfl)) rfl)) (CO 5 nd) (Ac (D1 (JI AH (AB 3) #v[(Hx (DC RO) [("_law_now",2),("_law_plan_here",1),("_law_place",4)] ⟨rfl,rfl,rfl,rfl,rfl,rfl,trivial⟩ (Cn (K:=AH) (KW (AB 5) T.cq (RG T) hr)) (λ_ _ _ _=>Jv (Bl uN (Av AH (AB 0) AN) (AY FV (AB 1) (Av AH (CZ AH (AB 2) (AB 3)) AN)) (BW _))) (λ_ _ _ _=>(AB 0)))])))))) (Bv (LY (OL (i:=6) (osc:=DC RO) [("_law_hand",0)] nd rfl (Fo rfl) rfl (OJ (Bu (AB 0) rfl)) rfl rfl (by decide+kernel) (by decide+kernel) (by decide+kernel) ⟨rfl,rfl,trivial⟩ rfl (by decide+kernel) (λ_ _ _ _=>Hy) (λ_ _ _ _=>(KW (EY hr.u1 (Pz (K:=AH) (AB 1) rfl) (AB 0) (λ_ _=>rfl)) T.aw (Nm T) hr)))) (Bv (LY (Bx (Kh (Jw (Bl VS (GV (AB 0) T.ah (kB T) hr #v[AB 2]) Jr (BW _)) (NC (Bl (NB (K:=AH) hr.fw) (AB 6) (Hx (DC RO) [("_law_hand",0)] ⟨rfl,rfl,trivial⟩ (OJ (Bu (AB 0) rfl)) (λ_ _ _ _=>Hy) (λ_ _ _ _=>(KW (EY hr.u1 (Pz (K:=AH) (AB 1) rfl) (AB 0) (λ_ _=>rfl)) T.aw (Nm T) hr))) (BW _))))) (Ac (BI F4)) CH)) (Bv (BC 7 nd (CW Dq)) (Bv (C8 DF rfl (Cn (K:=AH) (DE (MI rfl) (by rfl) T.cy J6 #v[Bu (AB 0) rfl])) (CO 4 nd) (Ac (BC 7 nd (AY JG (AB 7) (Hx (DC RO) [] trivial (Cn (K:=AH) (Bu (EY hr.u1 (Bu (AB 0) rfl) (AB 4) (λ_ _=>rfl)) rfl)) (λ_ _ _ _=>Hy) (λ_ _ _ _=>(KW (AB 0) T.cq (RG T) hr))))))) (Ac (BI (HM (LW (K:=AH) hr.fw) (AB 7) (AB 3) (BW _)))))))))),?_⟩;have sz:Ay=16777216:=DW;obtain⟨dx,eo⟩:=hb.cg;have lgk:=hb.uf;have lj:(Cy ss).length<=8:=Ah (D3 _ _) (by rw[JO];show lss);have l6:∀t,Bq ss t->∀m,(Au m (sd t)).length<=600:=λt ht m=>by
      have:=hq.sl t ht;unfold Au;split;.show this.1
      .show this.2
    showλ_ _ _ _ z1=>⟨BY _,λtl htl=>z1 _ _ ?_⟩;show BA (o:=.lst []) htl λH0 s0 et0=>?_;showλ_ _ _ _ z2=>⟨_,⟨s0 _ _ eo,T.ah,T.av,rfl⟩,F.dj,F.cp,rfl,s0 _ _ hb.di,.inl λq hq=>?_,λls ks hls pk pS=>?_⟩
    . obtain⟨i,_,_,e⟩:_:=hb.tw.rh q hq;show⟨_,by rw[e]⟩
    rw[Q9 hb.tw pk pS];show BA hls λH1 s1 els=>?_;have et1:=s1 _ _ et0;have s01:=s0.aa s1;have nlt:ls≠tl:=λy=>by rw[y,et0]at hls;cases hls
    have same:∀{H':AI},BV tl H1 H'->An H H':=λs b o e=>s b o (Bg e htl) (s01 _ _ e);clear s0 s1 et0 pk pS;show⟨ls,rfl,⟨_,AW els⟩,FJ (K:=AH) (xs:=(Cy ss).map λt:Nat=>AD.int (t:Int)) (λn σ H'=>(EH λ(o4 o5:Option AD)(acc:List AD)=>EV (σ=[AA (.ref F.x),AA (.ref lp),AA (.int now),AA (.ref tl),o4,o5,AG,AG]) (BV tl H1 H') (H' tl=AA (.lst acc)) (Az (Hh H' tl) acc (((Cy ss).take n).flatMap λt=>[I9 (Eh ss now sd) t 0,I9 (Eh ss now sd) t 1])) (acc.length<=2*n))) ⟨AG,AG,[],rfl,λ_ _ _ e=>e,et1,.nil,BY _⟩ (λn σ H' _ hh=>by obtain⟨_,_,_,_,s,_⟩:=hh;show AW (s _ _ nlt els)) (λn x σ H2 hx hI=>?_) λσ H2 hI=>?_⟩
    . lk;obtain⟨o4,o5,acc,rfl,s2,et2,wi2,la2⟩:=hI;rw[Bs]at hx;obtain⟨t,et,rfl⟩:=Du.mp hx;have ht:Bq ss t:=Jh.mp (Cg et);have hn:=(BU.mp et).1;have hb2:=hb.af (same s2);obtain⟨nn,ja,jb,wi,es⟩:=ht;obtain⟨vj,jj⟩:=hb2.cb.dc t nn ja jb wi es;obtain⟨dxj,exj⟩:=jj.cg;obtain⟨ap,eap,eA⟩:=YK pr es;k_in;show⟨_,⟨same s2 _ _ eo,T.ah,T.av,rfl⟩,F.dj,.ref (F.jd t).j,rfl,by rw[<-vj];show .inl ⟨F.cp,.inl (t:Int),hb2.cb.ai,rfl,rfl⟩,_,⟨exj,T.cv,T.bo,rfl⟩,(F.jd t).sl,rfl,⟨_,AW jj.cu⟩,FJ (K:=AH) (xs:=[.ref (F.jd t).x0,.ref (F.jd t).x1]) (λm σ H'=>Kj (λ(o5:Option AD)(acc:List AD)=>σ=[AA (.ref F.x),AA (.ref lp),AA (.int now),AA (.ref tl),AA (.int (t:Int)),o5,AG,AG]) (λ_ _=>BV tl H1 H') (λ_ acc=>H' tl=AA (.lst acc)) (λ_ acc=>Az (Hh H' tl) acc ((((Cy ss).take n).flatMap λt=>[I9 (Eh ss now sd) t 0,I9 (Eh ss now sd) t 1])++(Ec m).map (I9 (Eh ss now sd) t))) (λ_ acc=>acc.length<=2*n+m)) ⟨o5,acc,rfl,s2,et2,by rw[show(Ec 0).map (I9 (Eh ss now sd) t)=[]from rfl,C2];show wi2,la2⟩ (λm σ H' _ hh=>by obtain⟨_,_,_,s,_⟩:=hh;show AW (((hb.af (same s)).cb.dc t nn ja jb wi es).2.cu)) (λm y σ H3 hy hI=>?_) λσ H3 hI=>?_⟩
      . lk;obtain⟨o5,acc,rfl,s3,et3,wi3,la3⟩:=hI;have hm:m<2:=(BU.mp hy).1;obtain⟨x,d,ey,sr⟩:=DP.acb (L:=sd t) ((hb.af (same s3)).cb.dc t nn ja jb wi es).2 hm;rw[hy]at ey;cases ey;k_in;show⟨.inl ⟨rfl,_,AW et3⟩,?_⟩;unfold JM JL Kk;show XY (σ:=[AA (.ref F.x),AA (.ref lp),AA (.int now),AA (.ref tl),AA (.int (t:Int)),AA (.ref x),AG,AG]) T sr (l6 t ⟨_,_,_,_,es⟩ m) (i:=5) rfl λH4 r xs M s4 hr4 er4 w4 sM lM=>⟨r,rfl,⟨_,AW er4⟩,?_⟩;have et4:=s4 _ _ et3;have lx:xs.length=M.length:=w4.de.trans (As _);have sH4:=(same s3).aa s4;show Tg (F:=λx i=>∃a,x=.ref a/\H4 a=AA (.tup ((Fu i).map Aw))) (λi:AO=>Aa (now-wi<=i.1)) (by(first|lia|omega)) (AW er4) (GY lx λi x y e1 e2=>?_) (λx y _ hF R hR=>?_) λD ys hD w5=>?_
        . lk;obtain⟨a,ks,e,ek,ea⟩:=w4.at e1;rw[Bs,e2]at ek;cases ek;k_in;show⟨a,e,ea⟩
        . obtain⟨a,rfl,ea⟩:_:=hF;show⟨_,_,Ao ea,Aj (j:=1) rfl,_,_,AW (sH4 _ _ elp),Aj eap,_,_,Ao (sH4 _ _ eA),Aj (j:=4) rfl,_,_,rfl,rfl,_,rfl,hR⟩
        . show BA hD λH5 s5 eD=>?_;have nD:D≠tl:=λy=>by rw[y,et4]at hD;cases hD
          show⟨tl,acc,.ref D,rfl,rfl,s5 _ _ et4,by(first|lia|omega),?_⟩;have tp:Bc H3 (AQ H5 tl (.lst (acc++[.ref D]))):=λb xs e=>by rw[AX λy=>by rw[y,et3]at e;cases e];show s5 _ _ (s4 _ _ e)
          show⟨_,acc++[.ref D],rfl,λb o nb e=>by rw[AX nb];show s5 _ _ (s4 _ _ (s3 _ _ nb e)),Af,?_,by rw[B8];show OT la3 1⟩;rw[OR,CQ,<-Ea];show Dh (Ej (λ_ _ h=>h.ab (λb xs nb e=>by rw[AX nb];show s5 _ _ (s4 _ _ e)) tp) wi3) (.cons ?_ .nil);have e:Au m (Eh ss now sd t)=ES (now-wi) (Au m (sd t)):=by rw[Q1 es];unfold Au;split<;>rfl
          unfold I9;rw[e,UZ (L:=ES (now-wi) (Au m (sd t))) (M:=M.filter λi=>Aa (now-wi<=i.1)) ⟨(Eb.mpr ((Eb.mp sM.1).filter _)),sM.2.filter _⟩];show .it D ys _ nD (by rw[AX nD];show eD) (PJ (Ej (λ_ _ h=>?_) w5)) λi hi=>pas _ (Ym hq ⟨_,_,_,_,es⟩ (sM.2.mem_iff.mp (DT.mp hi).1));obtain⟨a,e,ea⟩:_:=h;show⟨a,e,by rw[AX λy=>by rw[y,et4]at ea;cases ea];show s5 _ _ ea⟩
      . obtain⟨o5,acc,rfl,s3,et3,wi3,la3⟩:_:=hI;show⟨_,_,acc,rfl,s3,et3,?_,by have:acc.length<=2*n+2:=la3;(first|lia|omega)⟩;rw[Ms et];show wi3
    . obtain⟨o4,o5,acc,rfl,s2,et2,wi2,la2⟩:_:=hI;rw[As]at wi2 la2;rw[GI]at wi2;have dv2:=UH wi2;have sh2:Nb (Xi ss (Eh ss now sd)):=UI wi2;have s2':=same s2;show z2 _ _ ?_;clear z1 z2 els s01 nlt s2 same wi2;have hb2:=hb.af s2';showλ_ _ _ _ z3=>⟨F.dg,(λo u z=>by rw[hb2.bh]at z;cases z),_,⟨s2' _ _ eo,T.ah,T.aq,rfl⟩,F.dg,F.ax,rfl,.inl hb2.bh,λo H3 ed3 ne3=>?_⟩;have gr3:=hb2.bw.jq (.inr ⟨o,ed3⟩) ne3;have eo3:H3 F.x=AA (.ins AM.bc dx (Lz F)):=by rw[ne3 _ λz=>by have e:=hb2.bh;rw[<-z,s2' _ _ eo]at e;cases e];show s2' _ _ eo
      show W7 T eo3 hb.ue lgk ed3 gr3 hq rfl pas λH4 r xs s4 er4 dv4 sh4=>⟨o,_,s4 _ _ ed3,z3 _ _ ?_⟩;have s5:=O7 hb2.bh ne3 s4;have dv5:DZ AH (AQ H4 F.dg (.dK F.ax)) (.ref r) (.list ((Al ss).map (O5 gg))):=HF (λb ob e _ _ n=>by rw[AX λz=>by rw[z,s4 _ _ ed3]at e;show n _ _ (B9 e).symm];show e) dv4;generalize AQ H4 F.dg (.dK F.ax)=H5 at s5 dv5⊢;have et5:=s5 _ _ et2;have dv2':=KN (Eu s5) dv2;have s25:=s2'.aa s5;clear ne3 ed3 gr3 eo3 s4 er4 dv4 hb2 et2 dv2 z3 o;have hb5:=hb.af s25;showλ_ _ _ _ z4=>⟨F.dg,(λo u z=>by rw[hb5.bh]at z;cases z),F.x,dx,_,rfl,s25 _ _ eo,by rfl,ss,F,sd,gg,gk,now,rfl,hb5,λi hi=>⟨Ah (hq.sl i hi).1 (by decide),Ah (hq.sl i hi).2 (by decide)⟩,λH6 s6 hb6=>⟨rfl,_,rfl,Ds ?_⟩⟩;have lt56:Fb H5 H6:=s6.lt λb hb'=>hb5.qo hb';obtain⟨dx6,eo6⟩:=hb6.cg;show⟨_,⟨eo6,T.ah,T.aq,rfl⟩,F.dg,F.ax,rfl,.inl hb6.bh,λo H7 ed7 ne7=>?_⟩;have gr7:=hb6.bw.jq (.inr ⟨o,ed7⟩) ne7;have eo7:H7 F.x=AA (.ins AM.bc dx6 (Lz F)):=by rw[ne7 _ λz=>by have e:=hb6.bh;rw[<-z,eo6]at e;cases e];show eo6
      have lt67:Fb H6 H7:=λb ob e _ n2 _=>by rw[ne7 _ λz=>by rw[z,hb6.bh]at e;show n2 _ (B9 e).symm];show e
      show W7 T eo7 hb.ue lgk ed7 gr7 hq rfl pas λH8 r8 xs8 s8 er8 dv8 sh8=>?_;show M9 (HF (Eu s8) (HF lt67 (HF lt56 dv5))) dv8 sh8.xg ⟨_,rfl,Ds ⟨o,_,s8 _ _ ed7,z4 _ _ ?_⟩⟩;have s9:=O7 hb6.bh ne7 s8;generalize AQ H8 F.dg (.dK F.ax)=H9 at s9⊢;have hb9:=hb6.af s9;have lt59:=lt56.aa (Eu s9);have et9:=lt59.aaj et5;have dv9:=KN lt59 dv2';have sp9:Ba (CU ss F) H H9:=λb ob nb e=>s9 _ _ (s6 _ _ nb (s25 _ _ e));clear z4 lt56 lt59 lt67 s6 hb6 eo6 o ed7 ne7 gr7 eo7 s8 er8 dv8 s9 et5 dv2' dv5 hb5;have l6':∀t,Bq ss t->∀m,(Au m (Eh ss now sd t)).length<=600:=λt ht m=>by
        have h6:=l6 t ht m;obtain⟨n,a,b,wi,e⟩:=ht;rw[Q1 e];unfold Au at h6⊢;split;. rw[AEv (by assumption)]at h6;show Ah (Yn _ _) h6
        . rw[AEu (by assumption)]at h6;show Ah (Yn _ _) h6
      obtain⟨dx9,eo9⟩:=hb9.cg;showλ_ _ _ _ z5=>⟨BY _,λf0 hf0=>z5 _ _ ?_⟩;show BA (o:=.lst []) hf0 λH10 s10 ef0=>?_;showλ_ _ _ _ z6=>⟨_,⟨s10 _ _ eo9,T.ah,T.av,rfl⟩,F.dj,F.cp,rfl,s10 _ _ hb9.di,.inl λq hq=>?_,λlt ks hlt pk pS=>?_⟩
      . obtain⟨i,_,_,e⟩:_:=hb.tw.rh q hq;show⟨_,by rw[e]⟩
      rw[Q9 hb.tw pk pS];show BA hlt λH11 s11 elt=>?_;have s9b:=s10.aa s11;have ef1:=s11 _ _ ef0;clear pk pS s10 s11 ef0;show⟨lt,rfl,⟨_,AW elt⟩,FJ (K:=AH) (xs:=(Cy ss).map λt:Nat=>AD.int (t:Int)) (λn σ H'=>(EH λ(o4:Option AD)(f:AE)(acc:List AD)=>EV (σ=[AA (.ref F.x),AA (.ref lp),AA (.int now),AA (.ref tl),o4,o5,AA (.ref r),AA (.ref f)]) (An H11 H') (H' f=AA (.lst acc)) (FI AH H' acc (((Cy ss).take n).flatMap λt=>[I9 (Eh ss now sd) t 0,I9 (Eh ss now sd) t 1])) (acc.length<=2*n))) ⟨o4,f0,[],rfl,C6 _,ef1,.nil,BY _⟩ (λn σ H' _ hh=>by obtain⟨_,_,_,_,s,_⟩:=hh;show AW (s _ _ elt)) (λn x σ H12 hx hI=>?_) λσ H12 hI=>?_⟩
      . lk;obtain⟨o4,f,acc',rfl,s12,ef,dvf,laf⟩:=hI;rw[Bs]at hx;obtain⟨t,et,rfl⟩:=Du.mp hx;have ht:Bq ss t:=Jh.mp (Cg et);have hn:=(BU.mp et).1;have hb12:=hb9.af (s9b.aa s12);obtain⟨nn,ja,jb,wi,es⟩:=ht;obtain⟨vj,jj⟩:=hb12.cb.dc t nn ja jb wi es;obtain⟨dxj,exj⟩:=jj.cg;k_in;show⟨_,⟨s12 _ _ (s9b _ _ eo9),T.ah,T.av,rfl⟩,F.dj,.ref (F.jd t).j,rfl,by rw[<-vj];show .inl ⟨F.cp,.inl (t:Int),hb12.cb.ai,rfl,rfl⟩,_,⟨exj,T.cv,T.bo,rfl⟩,(F.jd t).sl,rfl,⟨_,AW jj.cu⟩,?_⟩;show Jo (K:=AH) (xs:=[.ref (F.jd t).x0,.ref (F.jd t).x1]) (λm τ ac H'=>(∃o,τ=[o])/\An H12 H'/\FI AH H' ac ((Ec m).map (I9 (Eh ss now sd) t))) (by change 2<=_;(first|lia|omega)) ⟨⟨AG,rfl⟩,C6 _,.nil⟩ (λm τ ac H' hh=>AW (hh.2.1 _ _ jj.cu)) (λm y τ ac H13 R1 hy _ hI k1=>?_) λτ ac H13 lac hI D hD=>?_
        . lk;obtain⟨⟨o,rfl⟩,s13,dva⟩:=hI;have hm:m<2:=(BU.mp hy).1;obtain⟨x,d,ey,sr⟩:=DP.acb (L:=Eh ss now sd t) (jj.af s13) hm;rw[hy]at ey;cases ey;k_in;show XY (σ:=[AA (.ref x)]) T sr (l6' t ⟨_,_,_,_,es⟩ m) (i:=0) rfl λH14 r' xs' M s14 hr14 er14 w14 sM lM=>k1 _ _ _ ⟨⟨_,rfl⟩,s13.aa s14,?_⟩;rw[OR,CQ];show Q2 (KN (Eu s14) dva) (.cons (.lst (AW er14) ?_) .nil);rw[UZ sM];show w14.adm
        . obtain⟨_,s13,dva⟩:_:=hI;show BA hD λH14 s14 eD=>?_;have s1214:=s13.aa s14;have lac:ac.length<=2:=lac;show⟨f,D,acc',ac,rfl,rfl,s1214 _ _ ef,eD,by(first|lia|omega),λg hg=>?_⟩;show BA hg λH15 s15 eg=>?_;show⟨_,g,acc'++ac,rfl,s12.aa (s1214.aa s15),eg,?_,by rw[B8];(first|lia|omega)⟩;rw[Ms et];show Q2 (KN (Eu (s1214.aa s15)) dvf) (KN (Eu (s14.aa s15)) dva)
      . obtain⟨o4,f,acc',rfl,s12,ef,dvf,laf⟩:_:=hI;rw[As,GI]at dvf;show z6 _ _ ?_;have s912:=s9b.aa s12;show Pk (d:=.list (Xi ss (Eh ss now sd))) (.lst (AW ef) dvf) (.lst (AW (s912 _ _ et9)) (KN (Eu s912) dv9)) sh2.xg ?_;show k H12 (λb ob nb e=>s912 _ _ (sp9 _ _ nb e)) (hb9.af s912)
def Ep(ss:List AU)(z:AF)(sd:Bi)(gg:CI):Prop:=(∀t,Bq ss t->∀m,m<2->Ap z (Au m (sd t))=[])/\∀t∈Al ss,gg t z=[]
structure FG(ss:List AU)(zs:List AF)(c:AF->Nat)(sd:Nat->Bi)(gg:Nat->CI):Prop where
 j:∀(t:Nat)n a b wi,ss[t]?=AA (.join n a b wi)->(Au 0 (sd 0 t)).length+(Au 0 (sd 1 t)).length<=c a/\(Au 1 (sd 0 t)).length+(Au 1 (sd 1 t)).length<=c b
 tm:∀i,i<2->∀t,Bq ss t->∀m,m<2->∀x∈Au m (sd i t),Eg x/\CT x.2.1/\x.2.1∈zs
 gd:∀i,i<2->TU ss c (gg i)gp:∀i,i<2->∀t∈Al ss,∀y,gg i t y≠[]->CT y/\y∈zs
def K8(ss:List AU)(c:AF->Nat):Prop:=∀(t:Nat)s,ss[t]?=AA s->s.da=AR->c s.nm<=600
theorem K8.oi(h:K8 ss c)(D:ED ss){t:Nat}(e:ss[t]?=AA s)(U:a∈s.bu):c a<=600:=by obtain⟨V,W,_,J,rfl,Y⟩:_:=D.oi t s a e U;show h V W J Y
theorem DK.vd(J:DK AM ex H ss F sd gg gk)(W:t∈Al ss)(U:k∈(gk t).map (·.1)):∃y,k=.inr y/\gg t y≠[]:=by lk;obtain⟨Z,_,_,g⟩:=J.bw.jo t W;obtain⟨q,V,rfl⟩:=BE.mp U;obtain⟨y,r,A,e,_,_,w,Y⟩:=g.aj.om q V;k_in;show⟨y,by rw[e],λD=>Y ?_⟩;rw[D]at w;cases w;rfl
theorem DK.adn(D:DK AM ex H ss F sd gg gk){zs:List AF}(J:t∈Al ss)(h:∀y,gg t y≠[]->y∈zs):(gk t).length<=zs.length:=by
 obtain⟨W,_,_,g⟩:_:=D.bw.jo t J;have:=Nl (m:=zs.map λy=>(Bt y:AK)) g.aj.nd λk U=>by obtain⟨y,rfl,V⟩:=D.vd J U;show BE.mpr ⟨y,h y V,rfl⟩
 rwa[As,As]at this
theorem DK.aeb(J:DK AM ex H ss F sd gg gk)(V:t∈Al ss)(h:gg t z=[]):(.inr z:AK)∉(gk t).map (·.1):=λU=>by obtain⟨y,e,D⟩:_:=J.vd V U;rw[<-Ft e]at D;show D h
theorem FG.hq(d:FG ss zs c sd gg)(D:ED ss)(V:K8 ss c)(I:zs.length<=600)(hi:i<2)(E:DK AM ex H ss F (sd i) (gg i) gk):Hg ss (sd i) (gg i) gk λy=>CT y/\y∈zs:=by
 show⟨λt J=>?_,λt J=>⟨λx W=>(d.tm i hi t J 0 (by decide) x W).2,λx W=>(d.tm i hi t J 1 (by decide) x W).2⟩,λt J=>⟨Ah (E.adn J λy G=>(d.gp i hi t J y G).2) I,λz=>?_⟩,d.gp i hi⟩
 . lk;obtain⟨n,a,b,L,e⟩:=J;obtain⟨Y,C⟩:=d.j t n a b L e;k_in;have A:=V.oi D e (a:=a) (.head _);have M:=V.oi D e (a:=b) (.tail _ (.head _));change(Au 0 (sd i t)).length<=600/\(Au 1 (sd i t)).length<=600;rcases Gr.mp (DM hi)with rfl|rfl<;>(first|lia|omega)
 . lk;obtain⟨s,U,Z⟩:=Kb.mp J;obtain⟨Y,C⟩:=d.gd i hi t s U Z z;obtain⟨K,_,B⟩:=D.gm U Z;k_in;have A:=V.oi D U (a:=s.fd) (by rw[B];show .head _);show⟨s.up Y,by(first|lia|omega)⟩
theorem Nr(z:AF)(s:Bi)(m t:Nat):Au m (GB z s t)=Ck z (Au m (s t)):=by unfold Au;split<;>rfl
theorem Xv(z:AF)(s:Bi):GB z (GB z s)=GB z s:=by
 have e:∀L:List AO,Ck z (Ck z L)=Ck z L:=λL=>by unfold Ck;rw[IC];show IA λ_ _=>S8 _
 funext t;show NO (e _) (e _)
theorem Xw(z:AF)(L:List AO):(Ck z L).length+(Ap z L).length=L.length:=by rw[Xx];unfold Ap;induction L with|nil=>rfl|cons i l D=>rw[Gp,Gp];cases Aa (i.2.1=z)<;>simp only[ABB,ABA,AE2,AE0,Kw,Lk]<;>(first|lia|omega)
noncomputable def Fw(ss:List AU)(z:AF)(sd:Nat->Bi)(i j:Nat):Nat->Bi:=BR (BR sd i (GB z (sd i))) j (KL z (BR sd i (GB z (sd i)) j) (Es z (sd i) (Cy ss)))
def Hj(ss:List AU)(z:AF)(gg:Nat->CI)(i j:Nat):Nat->CI:=BR (BR gg i λt=>Cr (gg i t) z []) j λt=>Cr (BR gg i (λt=>Cr (gg i t) z []) j t) z (Fe (GA z (gg i) (Al ss)) t)
theorem PM(J:m<2):Au m (Fw ss z sd i j k t)=if k=j then Au m (BR sd i (GB z (sd i)) j t)++HG z (Es z (sd i) (Cy ss)) t m else if k=i then Ck z (Au m (sd i t))else Au m (sd k t):=by
  unfold Fw;by_cases q:k=j
  . rw[AEv q,BR,AEv q,Tc z _ J t _ _ rfl λx U=>(Xk x U).2];rfl
  . rw[AEu q,BR,AEu q];by_cases D:k=i;.rw[AEv D,BR,AEv D,Nr]
    .rw[AEu D,BR,AEu D]
theorem PN:Au m (BR sd i (GB z (sd i)) j t)=if j=i then Ck z (Au m (sd i t))else Au m (sd j t):=by
 unfold BR;by_cases q:j=i;.rw[AEv q,AEv q,Nr]
 .rw[AEu q,AEu q]
theorem O9(U:t∈Al ss)(y:AF):Hj ss z gg i j k t y=if k=j then(if y=z then gg i t z else gg j t y)else if k=i then(if y=z then[]else gg i t y)else gg k t y:=by
  have e:=mK (z:=z) (gg:=gg i) (Ue ss) (t:=t);rw[AEv U]at e;unfold Hj;by_cases q:k=j
  . rw[AEv q,BR,AEv q,e];by_cases D:y=z;.rw[AEv D,D,EX]
    . rw[AEu D,ER D];unfold BR;split
      . rename_i V;change Cr (gg i t) z [] y=_;rw[ER D,V]
      .rfl
  . rw[AEu q,BR,AEu q];by_cases J:k=i
    . rw[AEv J,BR,AEv J];by_cases D:y=z;.rw[AEv D,D,EX]
      .rw[AEu D,ER D]
    .rw[AEu J,BR,AEu J]
theorem Q3{sd:Nat->Bi}(U:∀t,Bq ss t->∀m,m<2->(Fg (Ap z (Au m (sd i t)))).Perm ((Ap z (Au m (sd i t))).map Hl))(D:m<2)(J:Bq ss t):(HG z (Es z (sd i) (Cy ss)) t m).Perm (Ap z (Au m (sd i t))):=iC D J (U t J m D)
theorem UA(V:∀t,Bq ss t->∀m,m<2->(Fg (Ap z (Au m (sd i t)))).Perm ((Ap z (Au m (sd i t))).map Hl))(J:m<2)(U:Bq ss t)(y:AF):(Ap y (Au m (Fw ss z sd i j k t))).Perm (if k=j then Ap y (if j=i then Ck z (Au m (sd i t))else Au m (sd j t))++(if y=z then Ap z (Au m (sd i t))else[])else if k=i then(if y=z then[]else Ap y (Au m (sd i t)))else Ap y (Au m (sd k t))):=by
  rw[PM J];by_cases q:k=j
  . rw[AEv q,AEv q,Jf,PN];show .append (.refl _) (((Q3 V J U).filter _).trans (.of_eq ?_));show iD y z _
  . rw[AEu q,AEu q];by_cases D:k=i;.rw[AEv D,AEv D,Mi]
    .rw[AEu D,AEu D]
section
variable{ss:List AU}{z:AF}{sd:Nat->Bi}{i j t m:Nat}(hi:i<2)(hj:j<2)(ex:∀t,Bq ss t->∀m,m<2->(Fg (Ap z (Au m (sd i t)))).Perm ((Ap z (Au m (sd i t))).map Hl))
include hi hj ex in theorem Xt(hm:m<2)(D:Bq ss t):(Au m (Fw ss z sd i j 0 t)).length+(Au m (Fw ss z sd i j 1 t)).length=(Au m (sd 0 t)).length+(Au m (sd 1 t)).length:=by have l:=(Q3 ex hm D).length_eq;have n:=Xw z (Au m (sd i t));rw[PM hm,PM hm,PN];rcases Gr.mp (DM hi)with rfl|rfl<;>rcases Gr.mp (DM hj)with rfl|rfl<;>simp only[AE2,AE0,B8,Nat.zero_ne_one,Nat.one_ne_zero]<;>(first|lia|omega)
end
section
variable{ss:List AU}{z:AF}{sd:Nat->Bi}{i j k t m:Nat}(hi:i<2)(hj:j<2)(ex:∀t,Bq ss t->∀m,m<2->(Fg (Ap z (Au m (sd i t)))).Perm ((Ap z (Au m (sd i t))).map Hl))
include hi hj ex in theorem jM(hm:m<2)(W:Bq ss t)(V:k<2){x:AO}(D:x∈Au m (Fw ss z sd i j k t)):∃J,J<2/\x∈Au m (sd J t):=by
  have U:∀{k:Nat},x∈Ck z (Au m (sd k t))->x∈Au m (sd k t):=λh=>(DT.mp h).1;rw[PM hm,PN]at D;split at D
  . rcases DS.mp D with h|h
    . split at h;.show⟨i,hi,U h⟩
      .show⟨j,hj,h⟩
    .show⟨i,hi,(DT.mp ((Q3 ex hm W).mem_iff.mp h)).1⟩
  . split at D;.show⟨i,hi,U D⟩
    .show⟨k,V,D⟩
end
section
variable{s:AU}{ss:List AU}{zs:List AF}{c:AF->Nat}{z:AF}{sd:Nat->Bi}{gg:Nat->CI}{i j k t m:Nat}(hi:i<2)(hj:j<2)(ex:∀t,Bq ss t->∀m,m<2->(Fg (Ap z (Au m (sd i t)))).Perm ((Ap z (Au m (sd i t))).map Hl))
include hi hj ex in theorem FG.acx(d:FG ss zs c sd gg):FG ss zs c (Fw ss z sd i j) (Hj ss z gg i j):=by
  have Y:∀{k t:Nat}(y:AF),k<2->t∈Al ss->Hj ss z gg i j k t y=[]\/∃J,J<2/\Hj ss z gg i j k t y=gg J t y:=λ{k t}y U V=>by
    rw[O9 V];split
    . split
      . rename_i q;rw[q];show .inr ⟨i,hi,rfl⟩
      .show .inr ⟨j,hj,rfl⟩
    . split
      . split;.show .inl rfl
        .show .inr ⟨i,hi,rfl⟩
      .show .inr ⟨k,U,rfl⟩
  show⟨λt n a b B e=>?_,λk U t V m hm x A=>?_,λk U t s e Z y=>?_,λk U t V y W=>?_⟩
  . rw[Xt hi hj ex (by decide) ⟨_,_,_,_,e⟩,Xt hi hj ex (by decide) ⟨_,_,_,_,e⟩];show d.j t n a b B e
  . obtain⟨J,D,h⟩:_:=jM hi hj ex hm V U A;show d.tm J D t V m hm x h
  . rcases Y y U (Kb.mpr ⟨s,e,Z⟩)with h|⟨J,D,h⟩;. rw[h];show⟨s.abi,BY _⟩
    . rw[h];show d.gd J D t s e Z y
  . rcases Y y U V with h|⟨J,D,h⟩;.show absurd h W
    . rw[h]at W;show d.gp J D t V y W
end
theorem jN(Y:∀t,Bq ss t->∀m,m<2->(Fg (Ap z (Au m (sd i t)))).Perm ((Ap z (Au m (sd i t))).map Hl))(q:y≠z)(h:Ep ss y (sd k) (gg k)):Ep ss y (Fw ss z sd i j k) (Hj ss z gg i j k):=by
  show⟨λt U m V=>?_,λt U=>?_⟩
  . have:=UA Y (j:=j) (k:=k) V U y;have D:=h.1 t U m V;have e:Ap y (Ck z (Au m (sd i t)))=Ap y (Au m (sd i t)):=(Mi y z _).trans (AEu q);show QC.mp (this.trans (.of_eq ?_));rw[AEu q,C2,AEu q];split
    . rename_i J;split
      . rename_i W;rw[e,<-W,<-J];show D
      .rw[<-J];show D
    . split;. rename_i J;rw[<-J];show D
      .show D
  . rw[O9 U,AEu q,AEu q];have D:=h.2 t U;split;. rename_i J;rw[<-J];show D
    . split;. rename_i J;rw[<-J];show D
      .show D
theorem jL(U:∀t,Bq ss t->∀m,m<2->(Fg (Ap z (Au m (sd i t)))).Perm ((Ap z (Au m (sd i t))).map Hl))(h:k≠i->Ep ss z (sd k) (gg k))(q:k≠j):Ep ss z (Fw ss z sd i j k) (Hj ss z gg i j k):=by
  show⟨λt D m J=>?_,λt D=>?_⟩
  . have:=UA U (j:=j) (k:=k) J D z;rw[AEu q,AEv rfl]at this;show QC.mp (this.trans (.of_eq ?_));split;.rfl
    .show(h (by assumption)).1 t D m J
  . rw[O9 D,AEu q,AEv rfl];split;.rfl
    .show(h (by assumption)).2 t D
theorem jK{sd:Nat->Bi}{gg:Nat->CI}(V:∀t,Bq ss t->∀m,m<2->(Fg (Ap z (Au m (sd i t)))).Perm ((Ap z (Au m (sd i t))).map Hl))(h:j≠i->Ep ss z (sd j) (gg j)):Qs z ss (Fw ss z sd i j j) (sd i):=by
 have J:∀t,Bq ss t->∀m,m<2->(Ap z (Au m (Fw ss z sd i j j t))).Perm (Ap z (Au m (sd i t))):=λt D m U=>by
  show(UA V U D z).trans (.of_eq ?_);rw[AEv rfl,AEv rfl];by_cases q:j=i
  . rw[AEv q,Mi,AEv rfl];rfl
  . rw[AEu q,(h q).1 t D m U];rfl
 showλt D=>⟨J t D 0 (by decide),J t D 1 (by decide)⟩
theorem jJ(ex:∀t,Bq ss t->∀m,m<2->(Fg (Ap z (Au m (sd i t)))).Perm ((Ap z (Au m (sd i t))).map Hl))(k:Nat):Ws z ss (Fw ss z sd i j k) (sd k):=by
  have V:∀L:List AO,Ck z (Ck z L)=Ck z L:=λL=>by unfold Ck;rw[IC];show IA λ_ _=>S8 _
  have D:∀t,Bq ss t->∀m,m<2->(Ck z (Au m (Fw ss z sd i j k t))).Perm (Ck z (Au m (sd k t))):=λt J m W=>by
    rw[PM W,PN];split
    . rename_i q;have e:Ck z (HG z (Es z (sd i) (Cy ss)) t m)=[]:=IB.mpr λx Y=>by obtain⟨y,_,rfl⟩:=BE.mp Y;simp
      change(Vy _ _).Perm _;rw[GZ];change(Ck z _++Ck z (HG z (Es z (sd i) (Cy ss)) t m)).Perm _;rw[e,C2];split
      . rename_i U;rw[V,q,U]
      .rw[q]
    . split;. rename_i U;rw[V,U]
      .show .refl _
  showλt J=>⟨D t J 0 (by decide),D t J 1 (by decide)⟩
structure GQ(ad:CF)(H:AI)(ss:List AU)(Fs:Nat->DJ)(sd:Nat->Bi)(gg:Nat->CI)(gk:Nat->DI):Prop where cw:∀i,i<2->DK ad [] H ss (Fs i) (sd i) (gg i) (gk i)bb:∀i j,i<2->j<2->i≠j->∀b,CU ss (Fs i) b->¬CU ss (Fs j) b/\b≠(Fs j).dj/\b≠(Fs j).dg
theorem GQ.af(h:GQ AM H ss D sd gg gk)(s:An H H'):GQ AM H' ss D sd gg gk:=⟨λi J=>(h.cw i J).af s,h.bb⟩
theorem GQ.js(h:GQ AM H ss J sd gg gk)(hi:i<2)(s:Ba (CU ss (J i)) H H')(D:DK AM [] H' ss (J i) S G R):GQ AM H' ss J (BR sd i S) (BR gg i G) (BR gk i R):=by
 show⟨λk U=>?_,h.bb⟩;unfold BR;by_cases q:k=i
 . subst q;simp only[AEv rfl];show D
 . simp only[AEu q];show(h.cw k U).abx s (λb D=>(h.cw i hi).qo D) λb D=>h.bb i k hi U (Gb q) b D
theorem GQ.yn(h:GQ AM H ss D sd gg gk)(e:H c=AA (.lst ys))(Y:KI H ys)(W:∀k,k<2->(D k).lp≠c)(s:BV c H H'):GQ AM H' ss D sd gg gk:=⟨λk J=>(h.cw k J).yn e Y (W k J) (q:=λ_=>False) (λb o U e=>s _ _ (λz=>U (.inr z)) e) (λ_ z=>z.elim) λ_ z=>z.elim,h.bb⟩
theorem Hg.no(h:Hg ss sd gg gk p)(z:AF):Hg ss (GB z sd) (λt=>Cr (gg t) z []) (λt=>CM (gk t) (.inr z)) p:=by
  show⟨λt D=>⟨Ah (D3 _ _) (h.sl t D).1,Ah (D3 _ _) (h.sl t D).2⟩,λt D=>⟨λx U=>(h.sp t D).1 x (DT.mp U).1,λx U=>(h.sp t D).2 x (DT.mp U).1⟩,λt D=>⟨Ah (D3 _ _) (h.gl t D).1,λy=>?_⟩,λt D y J=>?_⟩
  . by_cases q:y=z
    . rw[q,EX];show⟨.nil,BY _⟩
    . rw[ER q];show(h.gl t D).2 y
  . by_cases q:y=z;. rw[q,EX]at J;show absurd rfl J
    . rw[ER q]at J;show h.gp t D y J
theorem Xu(z:AF)(sd:Bi)(ss:List AU):∀t,Bq ss t->Ap z (GB z sd t).1=[]/\Ap z (GB z sd t).2=[]:=λt _=>⟨(Mi z z _).trans (AEv rfl),(Mi z z _).trans (AEv rfl)⟩
theorem pU(Y:∀Q:BN,Q x H->D σ H Q)(Z:∀Q:BN,Q y H->J σ H Q)(U:DZ AH H x d)(W:DZ AH H y d)(sh:F7 d=AJ)(q:R AR H):P6 (Hz (SN AH) D J) σ H R:=Y _ (Z _ (M9 U W sh ⟨_,rfl,q⟩))
theorem pV(e:σ[i]?=AA (AA y))(J:DZ AH H x d)(U:DZ AH H y d)(sh:F7 d=AJ)(q:Q (.bl AR) H):FC i σ H λy D=>SN AH x y D Q:=by change GF σ[i]? _;rw[e];show M9 J U sh q
theorem RT(e:σ[i]?=AA (AA y))(J:DZ AH H x d)(U:DZ AH H y d)(sh:F7 d=AJ)(q:Q (.bl AJ) H):FC i σ H λy D=>SJ AH x y D Q:=by change GF σ[i]? _;rw[e];show Pk J U sh q
theorem RV(k:∀H' r,An H H'->DZ AH H' (.ref r) (KS [] [])->Q (.ref r) H'):Vr (JM (P5 HP) (JM (P5 HP) HP)) σ H Q:=by show⟨BY _,λu Y=>?_⟩;show BA (o:=.lst []) Y λA s1 U=>⟨BY _,λv Z=>?_⟩;show BA (o:=.lst []) Z λB s2 V=>⟨(by decide:2<=sizeLine),λp W=>?_⟩;show BA W λD s3 J=>?_;show k D p (s1.aa (s2.aa s3)) (.tup (Ao J) (.cons (.lst (AW (s3 _ _ (s2 _ _ U))) .nil) (.cons (.lst (AW (s3 _ _ V)) .nil) .nil)))
theorem lY(h:Az (Ja H) xs its):KI H xs:=λv W=>by lk;obtain⟨i,U,e⟩:=FN.mp W;obtain⟨l,g⟩:=CN h;obtain⟨a,D,J⟩:=g i v _ (by rw[CG U,e]) (CG (by(first|lia|omega)));k_in;show .inr ⟨a,_,D,J,.inl (by decide:3<4)⟩
theorem lZ(h:Az (LA H) xs ps):KI H xs:=λv W=>by lk;obtain⟨i,U,e⟩:=FN.mp W;obtain⟨l,g⟩:=CN h;obtain⟨a,q,D,J,_⟩:=g i v _ (by rw[CG U,e]) (CG (by(first|lia|omega)));k_in;show .inr ⟨a,_,D,J,.inl (by decide:3<4)⟩
def nS(A:CF):BO:=λC H Q _=>(TL λ(D:List AU)(V:Nat->DJ)(Z:List AF)(c:AF->Nat)(U:Nat->Bi)(J:Nat->CI)(B:Nat->DI)(i j:Nat)(z:AF)=>Mc (C=[.ref (V i).x,.ref (V j).x,.str z]) (GQ A H D V U J B) ((i<2/\j<2)) ((ED D/\D.length<=8)) (Z.length<=600) (FG D Z c U J) (K8 D c) ((∀k,k<2->k≠i->Ep D z (U k) (J k))) (∀W Y,Ba (λb=>CU D (V i) b\/CU D (V j) b) H W->GQ A W D V (Fw D z U i j) (Hj D z J i j) Y->FG D Z c (Fw D z U i j) (Hj D z J i j)->(∀k,k<2->k≠j->Ep D z (Fw D z U i j k) (Hj D z J i j k))->(∀k,k<2->∀y,y≠z->Ep D y (U k) (J k)->Ep D y (Fw D z U i j k) (Hj D z J i j k))->Q (.bl AJ) W))
theorem kH(T:BQ AH Ag AM):T.mz.Ok BM P w Ag base 5 (nS AM):=by
    have G_u_law_kept:=RH (P:=P) (w:=w) (base:=base) T;have G_u_law_others:=UD (P:=P) (w:=w) (base:=base) T;show T.mz.ok λnd _ _ _ _ _ hr H vs Q E h=>?_;obtain⟨ss,Fs,zs,c,sd,gg,gk,i,j,z,rfl,tb,⟨hi,hj⟩,⟨pok,lss⟩,lz,dq,hc,hz,k⟩:_:=h;show⟨_,(Bv (BC 3 nd (BG G_u_law_kept hr #v[AB 0,AB 2])) (Bv (BC 4 nd (CW #v[BG G_u_law_others hr #v[AB 0,AB 2],BG G_u_law_others hr #v[AB 1,AB 2]])) (Bv (BC 5 nd (GV (AB 0) T.ah (UB T) hr #v[AB 2])) (Bv (Bx (Kh (Jw (JK (G4 (DE (ZJ (K:=AH)) (by rfl) T.oo ACG #v[AB 5,(aD (v:=.ty "tuple") (by rfl) T.zx AD2 rfl)]))) (Jw (Bl (NB (K:=AH) hr.fw) (AB 5) (AB 3) (BW _)) (Jw (Bl (NB (K:=AH) hr.fw) (BG G_u_law_kept hr #v[AB 0,AB 2]) (CP #v[CW Dq,CW Dq]) (BW _)) (NC (G4 (BG (lI T) hr #v[AB 0,AB 2]))))))) (Ac (BI F4)) CH) (Bv (Bx (Bl (NB (K:=AH) hr.fw) (GV (AB 0) T.ah (UB T) hr #v[AB 2]) (CP #v[CW Dq,CW Dq]) (BW _)) (Ac (BI F4)) CH) (Bv (Bx (Bl VS (GV (AB 1) T.ah (lN T) hr #v[AB 2,AB 5]) Jr (BW _)) (Ac (BI F4)) CH) (Bv (D1 (aE (K:=AH) Lf AAB ACs Zz (Av AH (AB 5) AN))) (Bv (D1 (JI AH (Av AH (AB 5) AN) #v[AN])) (Bv (Bx (Bl (NB (K:=AH) hr.fw) (BG G_u_law_kept hr #v[AB 1,AB 2]) (AB 3) (BW _)) (Ac (BI F4)) CH) (Ac (BI (HM (LW (K:=AH) hr.fw) (CW #v[BG G_u_law_others hr #v[AB 0,AB 2],BG G_u_law_others hr #v[AB 1,AB 2]]) (AB 4) (BW _))))))))))))),?_⟩;have sz:Ay=16777216:=DW;have hb:=tb.cw i hi;have hq:=dq.hq pok hc lz hi hb;have hqj:=dq.hq pok hc lz hj (tb.cw j hj);have ex:∀t,Bq ss t->∀m,m<2->(Fg (Ap z (Au m (sd i t)))).Perm ((Ap z (Au m (sd i t))).map Hl):=λt ht m hm=>hb.cb.aac z t ht m hm;have pas:∀y,CT y/\y∈zs->CT y:=λy h=>h.1;have l6:∀t,Bq ss t->∀m,m<2->(Au m (sd 0 t)).length+(Au m (sd 1 t)).length<=600:=λt ht m hm=>by obtain⟨n,a,b,wi,e⟩:=ht;obtain⟨h1,h2⟩:=dq.j t n a b wi e;have c1:=hc.oi pok e (a:=a) (.head _);have c2:=hc.oi pok e (a:=b) (.tail _ (.head _));rcases Gr.mp (DM hm)with rfl|rfl<;>(first|lia|omega)
    have li:∀t,Bq ss t->∀m,m<2->(Au m (sd i t)).length<=600:=λt ht m hm=>by have:=l6 t ht m hm;rcases Gr.mp (DM hi)with rfl|rfl<;>(first|lia|omega)
    have ljk:(Fs i).cp.length<=8:=Ah hb.tw.de lss;showλ_ _ _ _ z1=>⟨ss,Fs i,sd i,gg i,gk i,_,z,rfl,hb,lss,hq,λH1 r1 a1 b1 s1 hr1 ha1 hb1 kp1=>z1 _ _ ?_⟩;showλ_ _ _ _ z2=>⟨ss,Fs i,sd i,gg i,gk i,_,z,rfl,hb.af s1,lss,hq,pas,λH2 ro s2 hro dvo sho=>⟨ss,Fs j,sd j,gg j,gk j,_,z,rfl,(tb.cw j hj).af (s1.aa s2),lss,hqj,pas,λH3 rj s3 hrj dvj shj=>⟨CB rfl,λra hra=>z2 _ _ ?_⟩⟩⟩;show BA hra λH4 s4 era=>?_;have s14:=s2.aa (s3.aa s4);have tb4:=tb.af (s1.aa s14);have dva:DZ AH H4 (.ref ra) (.list [.list (Jj ss z (sd i) (gg i)),.list (Jj ss z (sd j) (gg j))]):=.lst (AW era) (.cons (HF (Eu (s3.aa s4)) dvo) (.cons (HF (Eu s4) dvj) .nil));have kp4:=kp1.lt (Eu s14);have s04:=s1.aa s14;have hb4:=tb4.cw i hi;obtain⟨dx,eo⟩:=hb4.cg;showλ_ _ _ _ z3=>⟨(Fs i).x,dx,_,rfl,eo,by rfl,ss,Fs i,sd i,gg i,gk i,z,rfl,hb4,lss,ljk,λt ht m hm=>Ah (li t ht m hm) (by decide),λt ht=>((hq.gl t ht).2 z).2,λH5 p a b sp5 hb5 hp ha hbb nab kp5=>z3 _ _ ?_⟩;clear s1 s2 s3 s4 dvo dvj era kp1 z1 z2 z3 hra hro hrj hr1 ha1 hb1 s14;have lt45:Fb H4 H5:=sp5.lt λb' hb'=>hb4.qo hb';have kp5':=kp5;obtain⟨xs,ys,ep,ea,eb,wi5,wp5⟩:_:=kp5';have n5:=Xu z (sd i) ss;have q5:=hq.no z;showλ_ _ _ _ z4=>⟨_,_,_,AJ,rfl,.tup ep,rfl,AJ,rfl,Ds ?_⟩;unfold Vp;show pU (λ_ h=>h) (λ_ h=>h) kp5.dv (kp4.lt lt45).dv (LH _ _) (Ds ?_);show⟨ss,Fs i,_,_,_,_,z,rfl,hb5,lss,q5,λH6 r6 a6 b6 s6 _ _ _ kp6=>?_⟩;show RV λH7 r7 s7 dv7=>?_;rw[T1 n5,T2 λt _=>EX]at kp6;have s57:=s6.aa s7;show M9 (HF (Eu s7) kp6.dv) dv7 (LH _ _) ⟨_,rfl,Ds ⟨ss,Fs i,_,_,_,z,rfl,hb5.af s57,lss,n5,λt ht hm=>?_,λH8 s8=>⟨_,rfl,Ds (z4 _ _ ?_)⟩⟩⟩
    . obtain⟨v,hv⟩:=Lb hm;rw[qJ]at hv;cases hv
    have s58:=s57.aa s8;have hb8:=hb5.af s58;obtain⟨dx8,eo8⟩:=hb8.cg;clear s6 s7 s8 s57 kp6 dv7 z4;showλ_ _ _ _ z6=>⟨(Fs i).x,dx8,_,rfl,eo8,by rfl,ss,Fs i,_,_,_,z,rfl,hb8,lss,ljk,λt ht m hm=>?_,λt ht=>by rw[EX];show BY _,λH9 p9 a9 b9 sp9 hb9 _ _ _ _ kp9=>RV λH10 r10 s10 dv10=>?_⟩;. rw[Nr];show Ah (Ah (D3 _ _) (li t ht m hm)) (by decide)
    rw[T1 n5,T2 λt _=>EX]at kp9;show M9 (HF (Eu s10) kp9.dv) dv10 (LH _ _) ⟨_,rfl,Ds (z6 _ _ ?_)⟩;rw[Xv]at hb9;have hb10:DK AM [] H10 ss (Fs i) (GB z (sd i)) (λt=>Cr (gg i t) z []) _:=⟨(hb9.af s10).toJZ.zi λt _=>YT.symm,(hb9.af s10).cg⟩;have lt59:Fb H8 H9:=sp9.lt λb' hb'=>hb8.qo hb';have lt510:Fb H5 H10:=(Eu s58).aa (lt59.aa (Eu s10));have sp10:Ba (CU ss (Fs i)) H4 H10:=λb o nb e=>s10 _ _ (sp9 _ _ nb (s58 _ _ (sp5 _ _ nb e)));have tb10:=tb4.js hi sp10 hb10;have ep10:=lt510.tp _ _ ep;have ea10:=lt510.aaj ea;have eb10:=lt510.aaj eb;have wi10:=KR wi5 lt510.tp;have wp10:=KU wp5 lt510.tp;have lt410:=lt45.aa lt510;clear kp9 dv10 s10 z6 hb9 hb10 sp9 lt59 hb8 eo8 s58 hb5 kp5 ep ea eb wi5 wp5 sp5 lt45 lt510;have hbj:=tb10.cw j hj;obtain⟨dxj,eoj⟩:=hbj.cg;have gz:∀t∈Al ss,BR gg i (λt=>Cr (gg i t) z []) j t z=[]:=λt ht=>by
      unfold BR;split;.show EX
      .show(hz j hj (by assumption)).2 t ht
    showλ_ _ _ _ z8=>⟨(Fs j).x,dxj,_,rfl,eoj,by rfl,[],ss,Fs j,_,_,_,z,p,a,b,xs,ys,_,_,rfl,hbj,(λc hc=>by cases hc),ep10,ea10,eb10,wi10,wp10,Xk,iR,λt ht=>⟨?_,?_⟩,λt ht m hm=>?_,?_,λH11 RR sp11 hb11 _=>⟨rfl,_,rfl,Ds (z8 _ _ ?_)⟩⟩;.cases e:BH (BR gk i (λt=>CM (CM (gk i t) (.inr z)) (.inr z)) j t) (.inr z)with|none=>rfl|some v=>show absurd (BE.mpr ⟨_,FD e,rfl⟩) (hbj.aeb ht (gz t ht))
    . show Gs (hbj.adn ht (zs:=zs) λy hy=>?_) (by(first|lia|omega));unfold BR at hy;split at hy
      . change Cr (gg i t) z [] y≠[]at hy;by_cases q:y=z;.rw[q,EX]at hy;show absurd rfl hy
        . rw[ER q]at hy;show(dq.gp i hi t ht y hy).2
      .show(dq.gp j hj t ht y hy).2
    . have l:=(Q3 ex hm ht).length_eq;have n:=Xw z (Au m (sd i t));have:=l6 t ht m hm;rw[PN];have:=li t ht m hm;split;. (first|lia|omega)
      . have:(Au m (sd j t)).length<=600:=by rcases Gr.mp (DM hj)with rfl|rfl<;>(first|lia|omega)
        have:j≠i:=by assumption
        rcases Gr.mp (DM hj)with rfl|rfl<;>rcases Gr.mp (DM hi)with rfl|rfl<;>(first|lia|omega)
    . have:=Xm (z:=z) (gg:=gg i) (l:=Al ss) (n:=3000) λt ht=>((hq.gl t ht).2 z).2;have lt:(Al ss).length<=8:=Ah (D3 _ _) (by rw[JO];show lss);(first|lia|omega)
    have lt1011:Fb H10 H11:=sp11.lt λb' hb'=>hbj.qo hb';have tb11:GQ AM H11 ss Fs (Fw ss z sd i j) (Hj ss z gg i j) _:=tb10.js hj sp11 hb11;have spA:Ba (λb=>CU ss (Fs i) b\/CU ss (Fs j) b) H H11:=λb o nb e=>sp11 _ _ (λz=>nb (.inr z)) (sp10 _ _ (λz=>nb (.inl z)) (s04 _ _ e));have lt411:=lt410.aa lt1011;have ep11:=lt1011.tp _ _ ep10;have ea11:=lt1011.aaj ea10;have eb11:=lt1011.aaj eb10;have wi11:=KR wi10 lt1011.tp;have wp11:=KU wp10 lt1011.tp;have nlp:∀{d:AE},H4 d=AG->∀k,k<2->(Fs k).lp≠d:=λhd k hk y=>by have:=(tb4.cw k hk).qm;rw[y,hd]at this;cases this
    clear lt1011 hb11 sp11 hbj eoj tb10 ep10 ea10 eb10 wi10 wp10 lt410 sp10 gz z8;have dq':=dq.acx hi hj ex;showλ_ _ _ _ z10=>⟨_,_,Ao ep11,Aj (j:=0) rfl,.inl ⟨rfl,_,AW ea11⟩,a,xs,rfl,rfl,ea11,z10 _ _ ?_⟩;have x12:BV a H11 (AQ H11 a (.lst [])):=zzu
    have ea12:(AQ H11 a (.lst [])) a=AA (.lst []):=Af;generalize AQ H11 a (.lst [])=H12 at x12 ea12⊢;have eb12:=x12 _ _ nab.symm eb11;have t12:Bc H11 H12:=x12.tp ea11 (by intro xs y;cases y);have wp12:=KU wp11 t12;have tb12:=tb11.yn ea11 (lY wi11) (nlp ha) x12;have ep12:=t12 _ _ ep11;showλ_ _ _ _ z11=>⟨_,_,Ao ep12,Aj (j:=1) rfl,.inl ⟨rfl,_,AW eb12⟩,b,ys,.int 0,rfl,rfl,eb12,?_,z11 _ _ ?_⟩
    . have:=Xm (z:=z) (gg:=gg i) (l:=Al ss) (n:=3000) λt ht=>((hq.gl t ht).2 z).2;have lt:(Al ss).length<=8:=Ah (D3 _ _) (by rw[JO];show lss);have:=(CN wp11).1;(first|lia|omega)
    have x13:BV b H12 (AQ H12 b (.lst (ys++[.int 0]))):=zzu
    generalize AQ H12 b (.lst (ys++[.int 0]))=H13 at x13⊢;have tb13:=tb12.yn eb12 (lZ wp12) (nlp hbb) x13;have lt413:Fb H4 H13:=λd o e n1 n2 n3=>x13 _ _ (Bg e hbb) (x12 _ _ (Bg e ha) (lt411 d o e n1 n2 n3));have sp13:Ba (λb=>CU ss (Fs i) b\/CU ss (Fs j) b) H H13:=λd o nb e=>x13 _ _ (Bg (s04 _ _ e) hbb) (x12 _ _ (Bg (s04 _ _ e) ha) (spA _ _ nb e));have hq13:=λk(hk:k<2)=>dq'.hq pok hc lz hk (tb13.cw k hk);clear x12 x13 ea12 eb12 t12 wp12 tb11 tb12 z10 z11 spA lt411 ep11 ea11 eb11 wi11 wp11 ep12;showλ_ _ _ _ z12=>⟨ss,Fs j,_,_,_,_,z,rfl,tb13.cw j hj,lss,hq13 j hj,λH14 r14 a14 b14 s14 _ _ _ kp14=>?_⟩;rw[Xl (jK ex λq=>hz j hj q),Xn (gg':=gg i) λt ht=>by rw[O9 ht,AEv rfl,AEv rfl]]at kp14;show pV rfl kp14.dv (kp4.lt (lt413.aa (Eu s14))).dv (LH _ _) ⟨_,rfl,Ds (z12 _ _ ?_)⟩;have tb14:=tb13.af s14;show⟨ss,Fs i,_,_,_,_,z,rfl,tb14.cw i hi,lss,dq'.hq pok hc lz hi (tb14.cw i hi),pas,λH15 r15 s15 _ dv15 sh15=>⟨ss,Fs j,_,_,_,_,z,rfl,(tb14.cw j hj).af s15,lss,dq'.hq pok hc lz hj (tb14.cw j hj),pas,λH16 r16 s16 _ dv16 sh16=>⟨CB rfl,λrb hrb=>?_⟩⟩⟩;show BA hrb λH17 s17 erb=>?_;have oth:∀k,Jj ss z (Fw ss z sd i j k) (Hj ss z gg i j k)=Jj ss z (sd k) (gg k):=λk=>YE (jJ ex k) λt ht y hy=>by
      rw[O9 ht,AEu hy,AEu hy];split;.rename_i q;rw[q]
      . split;.rename_i q;rw[q]
        .rfl
    rw[oth]at dv15 dv16;have s1417:=s15.aa (s16.aa s17);have s1317:=s14.aa s1417;show RT rfl (.lst (AW erb) (.cons (HF (Eu (s16.aa s17)) dv15) (.cons (HF (Eu s17) dv16) .nil))) (HF (lt413.aa (Eu s1317)) dva) (sho.acp shj) ?_;show k H17 _ (λd o nb e=>s1317 _ _ (sp13 _ _ nb e)) (tb14.af s1417) dq' (λk hk q=>jL ex (λq2=>hz k hk q2) q) λk hk y q h=>jN ex q h
theorem gV(B:∀n a b wi,s=.join n a b wi->(Ap z S.1).Perm (Ap z V.1)/\(Ap z S.2).Perm (Ap z V.2))(U:∀a∈s.bu,(Ap z (bt a)).Perm (Ap z (D a)))(h:Eo s bt S e)(J:Eo s D V e):(Ap z (bt s.nm)).Perm (Ap z (D s.nm)):=by cases s with
 |take n k=> change bt n=_ at h;change D n=_ at J;change(Ap z (bt n)).Perm (Ap z (D n));rw[h,J]|only n a A Z=>
  change bt n=(bt a).filter _ at h;change D n=(D a).filter _ at J;change(Ap z (bt n)).Perm (Ap z (D n));have c:∀L:List AO,Ap z (L.filter λi=>Aa (A<=i.2.2/\i.2.2<=Z))=(Ap z L).filter λi=>Aa (A<=i.2.2/\i.2.2<=Z):=λL=>by unfold Ap;rw[IC,IC];show IA λ_ _=>fR _ _
  rw[h,J,c,c];show(U a (.head _)).filter _|turn n a f g=>
  change bt n=(bt a).map _ at h;change D n=(D a).map _ at J;change(Ap z (bt n)).Perm (Ap z (D n));have c:∀L:List AO,Ap z (L.map (PU f g))=(Ap z L).map (PU f g):=λL=>by unfold Ap;rw[NJ];rfl
  rw[h,J,c,c];show(U a (.head _)).map _|both n a b=> change bt n=bt a++bt b at h;change D n=D a++D b at J;change(Ap z (bt n)).Perm (Ap z (D n));rw[h,J,Jf,Jf];show(U a (.head _)).append (U b (.tail _ (.head _)))|join n a b wi=>
  obtain⟨W,Y⟩:=B n a b wi rfl;have c:∀{bt:AF->List AO}{S:List AO×List AO},(EE wi (S.1++bt a) (S.2++bt b)).Perm (EE wi S.1 S.2++bt n)->(EE wi (Ap z S.1++Ap z (bt a)) (Ap z S.2++Ap z (bt b))).Perm (EE wi (Ap z S.1) (Ap z S.2)++Ap z (bt n)):=λ{bt S}p=>by rw[<-Jf,<-Jf,<-Ti,<-Ti,<-Jf];show p.filter _
  have p:=c h;have C:=c J;have m:=XA (wi:=wi) (W.append (U a (.head _))) (Y.append (U b (.tail _ (.head _))));show(yW _).mp ((p.symm.trans (m.trans C)).trans ((XA W Y).symm.append (.refl _)))|gap n a E m=>change bt n=bt a at h;change D n=D a at J;change(Ap z (bt n)).Perm (Ap z (D n));rw[h,J];show U a (.head _)|each n a E y d=>change bt n=bt a at h;change D n=D a at J;change(Ap z (bt n)).Perm (Ap z (D n));rw[h,J];show U a (.head _)
theorem W3(Z:ED ss){bt D:AF->List AO}{sd sd':Bi}(W:∀t,Bq ss t->(Ap z (sd t).1).Perm (Ap z (sd' t).1)/\(Ap z (sd t).2).Perm (Ap z (sd' t).2))(Y:∀(i:Nat)s,ss[i]?=AA s->Eo s bt (sd i) e)(J:∀(i:Nat)s,ss[i]?=AA s->Eo s D (sd' i) e):∀(m i:Nat)s,i<m->ss[i]?=AA s->(Ap z (bt s.nm)).Perm (Ap z (D s.nm))|0,i,s,V,_=>absurd V (OW _)|m+1,i,s,V,U=>gV (λn a b F q=>W i ⟨n,a,b,F,by rw[<-q];show U⟩) (λa B=>by obtain⟨C,E,l,A,rfl,_⟩:_:=Z.oi i s a U B;show W3 Z W Y J m C E (Bh l (DM V)) A) (Y i s U) (J i s U)
theorem YO(h:∀x∈l,x.2.1=z)(q:y≠z):Hm y l=[]:=mI λD=>by obtain⟨x,J,e⟩:_:=BE.mp D;show q (e.symm.trans (h x J))
theorem FG.aco(d:FG ss zs c sd gg)(hi:i<2):O0 ss (sd i):=λt J=>⟨λx D=>(d.tm i hi t J 0 (by decide) x D).1,λx D=>(d.tm i hi t J 1 (by decide) x D).1⟩
theorem FG.abc(d:FG ss zs c sd gg)(hi:i<2):NZ ss c (sd i):=λt n a b J D=>by obtain⟨U,V⟩:=d.j t n a b J D;change(Au 0 (sd i t)).length<=c a/\(Au 1 (sd i t)).length<=c b;rcases Gr.mp (DM hi)with rfl|rfl<;>(first|lia|omega)
theorem RQ(D:ss[t]?=AA (.join n a b wi)):Au m (FH ss S ss.length bt t)=Au m (S t)++bt (if m=0 then a else b):=by rw[KZ D,AEv (BU.mp D).1];unfold Au;split<;>rfl
theorem FG.xw(d:FG ss zs c sd gg)(Y:ED ss)(hi:i<2)(u:Eg (KO e))(N:CT e.2.2.1/\e.2.2.1∈zs)(L:∀(t:Nat)s,ss[t]?=AA s->Eo s bt (sd i t) e):FG ss zs (Ly c bt) (BR sd i (FH ss (sd i) ss.length bt)) (BR gg i (LG ss (gg i) (Lx ss bt))):=by
  have V:=λ(t:Nat)s(J:ss[t]?=AA s)=>Qz Y u (d.aco hi) L (t+1) t s (JQ _) J;have G:∀{t:Nat}{s:AU}{a:AF},ss[t]?=AA s->a∈s.bu->∀x∈bt a,x.2.1=e.2.2.1/\Eg x:=λ{t s a}J X=>by obtain⟨g,p,_,P,rfl,_⟩:=Y.oi t s a J X;show V g p P
  have E:∀{O:Type}{f:Nat->O}{v:O}(k:Nat),BR f i v k=if k=i then v else f k:=λ_=>rfl;show⟨λt n a b H J=>?_,λk A t Z m M x U=>?_,λk A t s D C y=>?_,λk A t Z y W=>?_⟩
  . obtain⟨w,h2⟩:=d.j t n a b H J;have I:=RQ (bt:=bt) (S:=sd i) (m:=0) J;have K:=RQ (bt:=bt) (S:=sd i) (m:=1) J;change _<=c a+(bt a).length/\_<=c b+(bt b).length;rw[E,E];rcases Gr.mp (DM hi)with rfl|rfl
    . rw[AEv rfl,AEu (by decide),I,K,B8,B8,AEv rfl,AEu (by decide)];(first|lia|omega)
    . rw[AEu (by decide),AEv rfl,I,K,B8,B8,AEv rfl,AEu (by decide)];(first|lia|omega)
  . rw[E]at U;split at U
    . obtain⟨n,a,b,H,J⟩:_:=Z;rw[RQ J]at U;rcases DS.mp U with h|h;.show d.tm i hi t ⟨n,a,b,H,J⟩ m M x h
      . obtain⟨j,o⟩:=G J (a:=if m=0 then a else b) (by split;show .head _;show .tail _ (.head _)) x h;rw[j];show⟨o,N⟩
    .show d.tm k A t Z m M x U
  . rw[E];change _/\_<=5*(c s.fd+(bt s.fd).length);split
    . lk;obtain⟨F,R⟩:=d.gd i hi t s D C y;obtain⟨B,_,_⟩:=Y.gm D C;k_in;have Q:bt s.nm=bt s.fd:=by have:=L t s D;cases s with |gap n a r m=>show this|each n a r z d=>show this|_=>cases C
      have T:=XU B (l:=bt s.nm) (λx U=>(V t s D x U).2) F;rw[Iy D,Nc D];rw[Q]at T⊢;show⟨XT B F,by(first|lia|omega)⟩
    . obtain⟨F,R⟩:=d.gd k A t s D C y;show⟨F,by(first|lia|omega)⟩
  . rw[E]at W;split at W
    . obtain⟨s,D,C⟩:_:=Kb.mp Z;rw[Iy D,Nc D]at W;by_cases q:y=e.2.2.1;.rw[q];show N
      . unfold IQ at W;rw[YO (λx U=>(V t s D x U).1) q]at W;show d.gp i hi t Z y W
    .show d.gp k A t Z y W
theorem gU(U:ED ss)(L:Eg (KO e))(K:O0 ss (sd i))(E:∀(t:Nat)s,ss[t]?=AA s->Eo s bt (sd i t) e)(q:y≠e.2.2.1)(h:Ep ss y (sd k) (gg k)):Ep ss y (BR sd i (FH ss (sd i) ss.length bt) k) (BR gg i (LG ss (gg i) (Lx ss bt)) k):=by
  have D:=λ(t:Nat)s(V:ss[t]?=AA s)=>Qz U L K E (t+1) t s (JQ _) V;unfold BR;by_cases Z:k=i
  . subst Z;show⟨λt J m F=>?_,λt J=>?_⟩
    . rw[AEv rfl];have C:=h.1 t J m F;obtain⟨n,a,b,N,V⟩:_:=J;rw[RQ V,Jf,C];obtain⟨H,I,_,A,B,_⟩:_:=U.oi t _ (if m=0 then a else b) V (by split;show .head _;show .tail _ (.head _));show IB.mpr λx W G=>q ?_;rw[<-B]at W;show(AEy G).symm.trans (D H I A x W).1
    . rw[AEv rfl];obtain⟨s,Y,M⟩:_:=Kb.mp J;rw[Iy Y,Nc Y];unfold IQ;rw[YO (λx W=>(D t s Y x W).1) q];show h.2 t J
  . simp only[AEu Z];show h
theorem h9(h:Ob (KS its ps) (KS [] [])=AJ):its=[]/\ps=[]:=by cases its with
 |nil=>cases ps with|nil=>show⟨rfl,rfl⟩|cons p l=>simp[KS,Ob,dY]at h
 |cons p l=>simp[KS,Ob,dY]at h
def UT(E:CF):BO:=λN H Q _=>(TN λ(D:List AU)(W:Nat->DJ)(Y:List AF)(c L:AF->Nat)(B C:Nat)(U:Nat->Bi)(J:Nat->CI)(M:Nat->DI)(i:Nat)(I q:AE)(K:List AD)(e:FP)=>Qr (N=[.ref (W i).x,.ref I,.ref q]) (GQ E H D W U J M) (i<2) ((ED D/\D.length<=8)) (Y.length<=600) (FG D Y c U J) (K8 D c) ((Iw D c L B C/\B<C)) ((H I=AA (.lst K)/\EW H K D)) (Ge H q e) ((Eg (KO e)/\CT e.2.2.1/\e.2.2.1∈Y)) (∀Z S G A F,Ba (CU D (W i)) H Z->GQ E Z D W (BR U i S) (BR J i G) A->FG D Y F (BR U i S) (BR J i G)->Iw D F L (B+1) C->(∀k,k<2->∀y,y≠e.2.2.1->Ep D y (U k) (J k)->Ep D y (BR U i S k) (BR J i G k))->Q (.bl AJ) Z))
theorem jT(T:BQ AH Ag AM):T.fo.Ok BM P w Ag base 8 (UT AM):=by have G_u_law_kept:=RH (P:=P) (w:=w) (base:=base) T;show T.fo.ok λnd _ _ _ _ _ hr H vs Q E h=>?_;obtain⟨ss,Fs,zs,c,z0,kn,mo,sd,gg,gk,i,lp,q,ps,e,rfl,tb,hi,⟨pok,lss⟩,lz,dq,hc,⟨hC,hk⟩,⟨elp,pr⟩,ev,⟨te,ke⟩,k⟩:_:=h;show⟨_,(Bv (BC 3 nd (HM (LW (K:=AH) hr.fw) (BG G_u_law_kept hr #v[AB 0,Av AH (AB 2) AN]) (CP #v[CW Dq,CW Dq]) (BW _))) (Bv (Bx (Bl VS (GV (AB 0) T.ah (X1 T) hr #v[AB 2]) Jr (BW _)) (Ac (BI F4)) CH) (Aq (Bx (JK (G4 (AB 3))) (Ac (BI F4)) CH) (Bv (BC 4 nd (PK (UC T) hr T.ve Kq #v[AB 1])) (Bv (D1 (GV (AB 4) T.ah (X1 T) hr #v[AB 2])) (Ac (BI (HM (LW (K:=AH) hr.fw) (BG G_u_law_kept hr #v[AB 0,Av AH (AB 2) AN]) (BG G_u_law_kept hr #v[AB 4,Av AH (AB 2) AN]) (BW _))))))))),?_⟩;have hb:=tb.cw i hi;have hq:=dq.hq pok hc lz hi hb;showλ_ _ _ _ z1=>⟨_,_,Ao ev,Aj (j:=2) rfl,ss,Fs i,sd i,gg i,gk i,_,e.2.2.1,rfl,hb,lss,hq,λH1 r1 a1 b1 s1 hr1 ha1 hb1 kp1=>?_⟩;show RV λH2 r2 s2 dv2=>⟨_,_,HF (Eu s2) kp1.dv,dv2,LH _ _,LH _ _,z1 _ _ ?_⟩;have new:=λh=>h9 (its:=Es e.2.2.1 (sd i) (Cy ss)) (ps:=GA e.2.2.1 (gg i) (Al ss)) h;generalize Ob (KS (Es e.2.2.1 (sd i) (Cy ss)) (GA e.2.2.1 (gg i) (Al ss))) (KS [] [])=b at new⊢;have s12:=s1.aa s2;have tb2:=tb.af s12;have hb2:=tb2.cw i hi;obtain⟨dx,eo⟩:=hb2.cg;have ex:∀t,Bq ss t->∀m,m<2->(Fg (Ap e.2.2.1 (Au m (sd i t)))).Perm ((Ap e.2.2.1 (Au m (sd i t))).map Hl):=λt ht m hm=>hb.cb.aac _ t ht m hm;have gkl:=λt(ht:t∈Al ss)=>Ah ((hq.gl t ht).1) (by decide:600<=1000);showλ_ _ _ _ z2=>⟨(Fs i).x,dx,_,rfl,eo,by rfl,ss,Fs i,sd i,gg i,gk i,c,z0,kn,mo,e,q,rfl,hb2,pok,lss,s12 _ _ ev,hC,dq.abc hi,hk,⟨te,dq.aco hi⟩,gkl,dq.gd i hi,λH3 bt gk3 sp3 hb3 br3=>⟨rfl,_,rfl,Ds (z2 _ _ ?_)⟩⟩;have tb3:=tb2.js hi sp3 hb3;have dq3:=dq.xw pok hi te ke br3;have hC3:=hC.ug (dq.abc hi) br3;have hc3:K8 ss (Ly c bt):=λt s es tt=>O3 pok hC (dq.abc hi) hk (N:=t+1) (λt s _ et=>br3 t s et) (t+1) t s (Ak _) (JQ _) es tt;have no3:=λk(_:k<2)y(qy:y≠e.2.2.1)h=>gU (gg:=gg) pok te (dq.aco hi) br3 qy (k:=k) h;have sp03:Ba (CU ss (Fs i)) H H3:=λb o nb eb=>sp3 _ _ nb (s12 _ _ eb);clear z1 z2 kp1 dv2 s1 s2;cases b with |false=>show⟨_,rfl,Jq (k H3 _ _ _ _ sp03 tb3 dq3 hC3 no3)⟩|true=>
 obtain⟨k1,k2⟩:=new rfl;have n1:=iQ ex k1;have n2:=iS k2;have o3:∀{b:AE}{ob:Bn},H b=AA ob->(∀kvs,ob≠.dK kvs)->H3 b=AA ob:=λ{b ob}eb n=>sp03 _ _ (λy=>by obtain⟨kvs,e'⟩:=hb.qo y;rw[eb]at e';show n _ (B9 e')) eb;have elp3:=o3 elp (by intro kvs y;cases y);have pr3:EW H3 ps ss:=pr.ab λb xs eb=>o3 eb (by intro kvs y;cases y);have ev3:Ge H3 q e:=o3 ev (by intro kvs y;cases y);show⟨_,rfl,Ds ?_⟩;showλ_ _ _ _ z6=>λx dx hx hdx hxn=>⟨x,dx,lp,ps,ss,rfl,Af,by rw[AX (Bg elp3 hx),AX (Bg elp3 hdx)];show elp3,pr3.ab λb xs eb=>by rw[AX (Bg eb hx),AX (Bg eb hdx)];show eb,lss,λH4 F2 eF sx hb4 fre _=>⟨rfl,z6 _ _ ?_⟩⟩;subst eF;have s4:An H3 H4:=T6 hx hdx sx;have fr3:∀b,CU ss F2 b\/b=F2.dj\/b=F2.dg->H3 b=AG:=λb hb'=>(Ni hxn (fre b hb')).1;have tb4:=tb3.af s4;obtain⟨dx4,eo4⟩:=hb4.cg;have d0:FG ss zs (λ_=>0) (λ_ _=>([],[])) (λ_ _ _=>[]):=⟨λt n a b wi _=>⟨Ak _,Ak _⟩,λ_ _ t _ m _ x hx=>by(unfold Au at hx;split at hx<;>cases hx),λ_ _ t s _ _ y=>⟨s.abi,BY _⟩,λ_ _ t _ y hy=>absurd rfl hy⟩;have C0:Iw ss (λ_=>0) z0 0 mo:=⟨λ_ _ _ _=>BY _,hC.zq⟩;have b0:(0:Nat)<2:=by decide
 showλ_ _ _ _ z7=>⟨F2.x,dx4,_,rfl,eo4,by rfl,ss,F2,_,_,_,λ_=>0,z0,0,mo,e,q,rfl,hb4,pok,lss,s4 _ _ ev3,C0,d0.abc b0,by(first|lia|omega),⟨te,d0.aco b0⟩,λt _=>BY _,d0.gd 0 b0,λH5 bt2 gk5 sp5 hb5 br5=>z7 _ _ ?_⟩;have dq5:=d0.xw pok b0 te ke br5;have hc5:K8 ss (Ly (λ_=>0) bt2):=λt s es tt=>O3 pok C0 (d0.abc b0) (by(first|lia|omega)) (N:=t+1) (λt s _ et=>br5 t s et) (t+1) t s (Ak _) (JQ _) es tt;have dk4:∀b,CU ss F2 b->∃kvs,H4 b=AA (.dK kvs):=λb hb'=>hb4.qo hb';have tb5:GQ AM H5 ss Fs _ _ _:=⟨λk hk'=>(tb4.cw k hk').abx sp5 dk4 λb hb'=>⟨λy=>(by obtain⟨kvs,e'⟩:=(tb3.cw k hk').qo y;rw[fr3 b (.inl hb')]at e';cases e'),λy=>(by have e':=(tb3.cw k hk').di;rw[<-y,fr3 b (.inl hb')]at e';cases e'),λy=>(by have e':=(tb3.cw k hk').bh;rw[<-y,fr3 b (.inl hb')]at e';cases e')⟩,tb4.bb⟩;have sp05:Ba (CU ss (Fs i)) H H5:=λb o nb eb=>sp5 _ _ (λy=>by have e3:=sp03 _ _ nb eb;rw[fr3 b (.inl y)]at e3;cases e3) (s4 _ _ (sp03 _ _ nb eb));have ev5:Ge H5 q e:=sp5 _ _ (λy=>by rw[Ge,fr3 q (.inl y)]at ev3;cases ev3) (s4 _ _ ev3);have up:∀{α:Type}{f:Nat->α}{v:α}{j:Nat},BR f j v j=v:=λ{α f v j}=>AEv rfl;have hq5:=dq3.hq pok hc3 lz hi (tb5.cw i hi);have hqf:=dq5.hq pok hc5 lz b0 (F:=F2) (gk:=gk5) (H:=H5) (ex:=[]) (by rw[up,up];show hb5);have hbi:=tb5.cw i hi;rw[up,up]at hq5 hbi;rw[up,up]at hqf;show⟨_,_,Ao ev5,Aj (j:=2) rfl,ss,Fs i,_,_,_,_,e.2.2.1,rfl,hbi,lss,hq5,λH6 r6 a6 b6 s6 _ _ _ kp6=>⟨_,_,Ao (s6 _ _ ev5),Aj (j:=2) rfl,ss,F2,_,_,_,_,e.2.2.1,rfl,hb5.af s6,lss,hqf,λH7 r7 a7 b7 s7 _ _ _ kp7=>?_⟩⟩;have al:=W3 pok (z:=e.2.2.1) (sd:=sd i) (sd':=λ_=>([],[])) (λt ht=>by rw[(n1 t ht).1,(n1 t ht).2];show⟨.nil,.nil⟩) br3 br5;have fed:∀{t:Nat}{s:AU}{a:AF},ss[t]?=AA s->a∈s.bu->(Ap e.2.2.1 (bt a)).Perm (Ap e.2.2.1 (bt2 a)):=λ{t s a}et ha=>by obtain⟨i',s',_,e',rfl,_⟩:=pok.oi t s a et ha;show al (i'+1) i' s' (JQ _) e'
 have aS:Qs e.2.2.1 ss (FH ss (sd i) ss.length bt) (FH ss (λ_=>([],[])) ss.length bt2):=λt ht=>by obtain⟨m1,m2⟩:=n1 t ht;obtain⟨n,a,b,wi,et⟩:=ht;have hl:=(BU.mp et).1;rw[KZ et,KZ et,AEv hl,AEv hl];change(Ap _ ((sd i t).1++bt a)).Perm (Ap _ ([]++bt2 a))/\(Ap _ ((sd i t).2++bt b)).Perm (Ap _ ([]++bt2 b));rw[Jf,Jf,Jf,Jf,m1,m2];show⟨fed et (.head _),fed et (.tail _ (.head _))⟩
 have aP:∀t∈Al ss,LG ss (gg i) (Lx ss bt) t e.2.2.1=LG ss (λ_ _=>[]) (Lx ss bt2) t e.2.2.1:=λt ht=>by obtain⟨s,es,tt⟩:=Kb.mp ht;obtain⟨tok,_,_⟩:=pok.gm es tt;rw[Iy es,Iy es,Nc es,Nc es];unfold IQ;rw[n2 t ht];show iH tok ((al (t+1) t s (JQ _) es).map _) s.abi
 rw[Xl aS,Xn aP]at kp6;have s57:=s6.aa s7;show Pk (kp6.lt (Eu s7)).dv kp7.dv (LH _ _) ?_;show k H7 _ _ _ _ (λb o nb eb=>s57 _ _ (sp05 _ _ nb eb)) (tb5.af s57) dq3 hC3 no3
theorem pT(Y:∀Q:BN,Q x H->D σ H Q)(Z:∀Q:BN,Q y H->J σ H Q)(U:DZ AH H x d)(W:DZ AH H y d)(sh:F7 d=AJ)(q:Q (.bl AJ) H):Hz (SJ AH) D J σ H Q:=Y _ (Z _ (Pk U W sh q))
theorem FG.uz(d:FG ss zs c sd gg)(hi:i<2)(z:AF):FG ss zs c (BR sd i (GB z (sd i))) (BR gg i λt=>Cr (gg i t) z []):=by
  have U:∀k m t,(Au m (BR sd i (GB z (sd i)) k t)).length<=(Au m (sd k t)).length:=λk m t=>by
    unfold BR;split
    . rename_i q;rw[Nr,q];show D3 _ _
    .show Ak _
  have Y:∀k t y,BR gg i (λt=>Cr (gg i t) z []) k t y=[]\/BR gg i (λt=>Cr (gg i t) z []) k t y=gg k t y:=λk t y=>by
    unfold BR;split
    . rename_i q;change Cr (gg i t) z [] y=[]\/Cr (gg i t) z [] y=_;by_cases Z:y=z;.rw[Z];show .inl EX
      .rw[ER Z,q];show .inr rfl
    .show .inr rfl
  show⟨λt n a b C e=>?_,λk D t V m A x J=>?_,λk D t s e B y=>?_,λk D t V y W=>?_⟩
  . obtain⟨I,K⟩:=d.j t n a b C e;have E:=U 0 0 t;have F:=U 1 0 t;have G:=U 0 1 t;have H:=U 1 1 t;(first|lia|omega)
  . show d.tm k D t V m A x ?_;unfold BR at J;split at J
    . rename_i q;rw[Nr]at J;rw[q];show(DT.mp J).1
    .show J
  . rcases Y k t y with h|h;.rw[h];show⟨s.abi,BY _⟩
    .rw[h];show d.gd k D t s e B y
  . rcases Y k t y with h|h;.show absurd h W
    .rw[h]at W;show d.gp k D t V y W
theorem hU(h:Ep ss y (sd k) (gg k)\/(y=z/\k=i)):Ep ss y (BR sd i (GB z (sd i)) k) (BR gg i (λt=>Cr (gg i t) z []) k):=by
  unfold BR;by_cases q:k=i
  . subst q;rw[AEv rfl,AEv rfl];show⟨λt J m U=>?_,λt J=>?_⟩
    . rw[Nr,Mi];by_cases D:y=z;.rw[AEv D]
      . rw[AEu D];show h.elim (λh=>h.1 t J m U) λh=>absurd h.1 D
    . by_cases D:y=z;.rw[D];show EX
      . change Cr (gg k t) z [] y=[];rw[ER D];show h.elim (λh=>h.2 t J) λh=>absurd h.1 D
  . rw[AEu q,AEu q];show h.elim id λh=>absurd h.2 q
def n6(Z:CF):BO:=λC H Q _=>(Ll λ(D:List AU)(J:Nat->DJ)(A:List AF)(c:AF->Nat)(V:Nat->Bi)(U:Nat->CI)(B:Nat->DI)(i:Nat)(z:AF)=>JW (C=[.ref (J i).x,.str z]) (GQ Z H D J V U B) (i<2) ((ED D/\D.length<=8)) (A.length<=600) (FG D A c V U) (K8 D c) (∀W Y,Ba (CU D (J i)) H W->GQ Z W D J (BR V i (GB z (V i))) (BR U i λt=>Cr (U i t) z []) Y->Q (.bl AJ) W))
theorem kR(T:BQ AH Ag AM):T.jx.Ok BM P w Ag base 5 (n6 AM):=by
 show T.jx.ok λv _ _ _ _ _ V H vs Q E h=>?_;obtain⟨J,U,zs,c,C,I,l,i,z,rfl,tb,f,⟨pok,D⟩,lz,dq,hc,k⟩:_:=h;show⟨_,(Bv (BC 2 v (BG (RH T) V #v[AB 0,AB 1])) (Bv (BC 3 v (BG (UD T) V #v[AB 0,AB 1])) (Bv (BC 4 v (GV (AB 0) T.ah (UB T) V #v[AB 1])) (Ac (BI (SF (HM (LW (K:=AH) V.fw) (AB 4) (AB 2) (BW _)) (SF (HM (LW (K:=AH) V.fw) (BG (RH T) V #v[AB 0,AB 1]) (CP #v[CW Dq,CW Dq]) (BW _)) (VY (HM (LW (K:=AH) V.fw) (BG (UD T) V #v[AB 0,AB 1]) (AB 3) (BW _)))))))))),?_⟩;have d:=tb.cw i f;have A:=dq.hq pok hc lz f d;have M:∀y,CT y/\y∈zs->CT y:=λy h=>h.1;have s:(U i).cp.length<=8:=Ah d.tw.de D;showλ_ _ _ _ z1=>⟨J,U i,C i,I i,l i,_,z,rfl,d,D,A,λH1 r1 a1 b1 s1 _ _ _ q=>z1 _ _ ?_⟩;showλ_ _ _ _ z2=>⟨J,U i,C i,I i,l i,_,z,rfl,d.af s1,D,A,M,λH2 ro s2 _ j sho=>z2 _ _ ?_⟩;have N:=s1.aa s2;have X:=tb.af N;have Y:=X.cw i f;obtain⟨dx,eo⟩:=Y.cg;have n5:=Xu z (C i) J;showλ_ _ _ _ z3=>⟨(U i).x,dx,_,rfl,eo,by rfl,J,U i,C i,I i,l i,z,rfl,Y,D,s,λt F m hm=>?_,λt F=>((A.gl t F).2 z).2,λH3 p a b R Z _ _ _ _ r=>z3 _ _ ?_⟩
 . have h1:=(A.sl t F).1;have h2:=(A.sl t F).2;unfold Au;split<;>(first|lia|omega)
 have W:Fb H2 H3:=R.lt λb' n=>Y.qo n;unfold bN bE;show pT (λ_ h=>h) (λ_ h=>h) r.dv ((q.lt (Eu s2)).lt W).dv (LH _ _) ⟨_,rfl,Jq ⟨J,U i,_,_,_,_,z,rfl,Z,D,A.no z,λH4 r4 a4 b4 s4 _ _ _ L=>?_⟩⟩;show RV λH5 r5 s5 g=>?_;rw[T1 n5,T2 λt _=>EX]at L;have O:=s4.aa s5;show Pk (HF (Eu s5) L.dv) g (LH _ _) ⟨_,rfl,Jq ⟨J,U i,_,_,_,_,z,rfl,Z.af O,D,A.no z,M,λH6 r6 s6 _ G sh6=>?_⟩⟩;have e:Jj J z (GB z (C i)) (λt=>Cr (I i t) z [])=Jj J z (C i) (I i):=YE (λt F=>by have e:=Xv z (C i);show⟨.of_eq (AEw ACB (congrFun e t)),.of_eq (AEw ACC (congrFun e t))⟩) λt F y hy=>ER hy;rw[e]at G;have B:=O.aa s6;show RT rfl G (HF (W.aa (Eu B)) j) sho.xg ?_;have S:Ba (CU J (U i)) H2 H6:=λb o u e=>B _ _ (R _ _ u e);show k H6 _ (λb o u e=>S _ _ u (N _ _ e)) (X.js f S (Z.af B))
theorem YU{kvs:List (AK×AD)}(h:k∈kvs.map (·.1)):(BJ kvs k v).map (·.1)=kvs.map (·.1):=by
 have e:(kvs.any λJ=>Aa (J.1=k))=AJ:=by obtain⟨q,D,rfl⟩:=BE.mp h;show OO.mpr ⟨q,D,AEx rfl⟩
 unfold BJ;rw[AEv e,Cu];show MS λq _=>?_;change(if q.1=k then(q.1,v)else q).1=q.1;split<;>rfl
structure Jc(ad:CF)(H:AI)(ss:List AU)(Fs:Nat->DJ)(zs:List AF)(c:AF->Nat)(sd:Nat->Bi)(gg:Nat->CI)(gk:Nat->DI)(hl hd:AE)(kvs:List (AK×AD)):Prop where
 tb:GQ ad H ss Fs sd gg gk
 dq:FG ss zs c sd gg
 eh:H hl=AA (.lst [.ref (Fs 0).x,.ref (Fs 1).x])ed:H hd=AA (.dK kvs)nd:(kvs.map (·.1)).Nodup
 ky:∀q∈kvs,∃(y:AF)(i:Nat),q=(.inr y,.int (i:Int))/\i<2/\CT y/\y∈zs
 aaw:∀k,k<2->¬CU ss (Fs k) hd/\hd≠(Fs k).dj/\hd≠(Fs k).dg
def Ox(ss:List AU)(kvs:List (AK×AD))(sd:Nat->Bi)(gg:Nat->CI):Prop:=∀k:Nat,k<2->∀y,BH kvs (.inr y)≠AA (.int (k:Int))->Ep ss y (sd k) (gg k)
def Nf(ss:List AU)(D:Nat->DJ)(J:AE)(b:AE):Prop:=(∃k,k<2/\CU ss (D k) b)\/b=J
theorem Jc.ado(h:Jc AM H ss D zs c sd gg gk Y U kvs)(J:Nf ss D U b):∃W,H b=AA (.dK W):=J.elim (λ⟨k,V,o⟩=>(h.tb.cw k V).qo o) λe=>⟨kvs,by rw[e];show h.ed⟩
theorem Jc.ug(h:Jc AM H ss J zs c sd gg gk Z W kvs)(s:Ba (λb=>∃k,k<2/\CU ss (J k) b) H H')(C:GQ AM H' ss J sd' gg' gk')(V:FG ss D U sd' gg')(B:∀y∈zs,y∈D):Jc AM H' ss J D U sd' gg' gk' Z W kvs:=⟨C,V,s _ _ (λy=>y.elim λk w=>((h.tb.cw k w.1).qo w.2).elim λE e=>by rw[h.eh]at e;cases e) h.eh,s _ _ (λy=>y.elim λk w=>(h.aaw k w.1).1 w.2) h.ed,h.nd,λq A=>(by obtain⟨y,i,e,Y,a,m⟩:_:=h.ky q A;show⟨y,i,e,Y,a,B y m⟩),h.aaw⟩
theorem Jc.af(h:Jc AM H ss D zs c sd gg gk U J kvs)(s:An H H'):Jc AM H' ss D zs c sd gg gk U J kvs:=h.ug (λb o _ e=>s b o e) (h.tb.af s) h.dq λ_ h=>h
theorem Jc.adg(h:Jc AM H ss V zs c sd gg gk W D kvs){v:Nat}(A:v<2)(B:CT z/\z∈zs):Jc AM (AQ H D (.dK (BJ kvs (.inr z) (.int (v:Int))))) ss V zs c sd gg gk W D (BJ kvs (.inr z) (.int (v:Int))):=by
 have s:Ba (.=D) H (AQ H D (.dK (BJ kvs (.inr z) (.int (v:Int))))):=zzu
 show⟨⟨λk U=>(h.tb.cw k U).abx s (λb J=>⟨kvs,by rw[J];show h.ed⟩) λb J=>by rw[J];show h.aaw k U,h.tb.bb⟩,h.dq,s _ _ (λe=>by have:=h.eh;rw[e,h.ed]at this;cases this) h.eh,Af,NA h.nd,λq Z=>?_,h.aaw⟩;rcases M7 Z with rfl|⟨Y,_⟩;.show⟨z,v,rfl,A,B⟩
 .show h.ky q Y
theorem Wu{sd:Nat->Bi}{gg:Nat->CI}(h:∀k:Nat,k<2->∀y,y≠z->BH kvs (.inr y)≠AA (.int (k:Int))->Ep ss y (sd k) (gg k))(U:∀k,k<2->k≠v->Ep ss z (sd k) (gg k)):Ox ss (BJ kvs (.inr z) (.int (v:Int))) sd gg:=λk J y D=>by
 rw[Gn]at D;by_cases q:y=z
 . subst q;rw[AEv rfl]at D;show U k J λe=>D (by rw[e])
 . rw[AEu λe=>q (Ft e)]at D;show h k J y q D
theorem Je{D:Nat->DJ}{i:Nat}(hi:i<2):DL [AD.ref (D 0).x,.ref (D 1).x] (i:Int)=AA (.ref (D i).x):=by rcases Gr.mp (DM hi)with rfl|rfl<;>show Aj rfl
def UY(G:CF):BO:=λM H Q _=>(Qv λ(U:List AU)(B:Nat->DJ)(A:List AF)(c:AF->Nat)(K:Nat->Bi)(I:Nat->CI)(L:Nat->DI)(F Z:AE)(J:List (AK×AD))(i:Nat)(z:AF)(n:Int)=>Mc (M=[.ref F,.ref Z,.str z,.int n]) (Jc G H U B A c K I L F Z J) (Ox U J K I) ((ED U/\U.length<=8)) (A.length<=600) (K8 U c) ((i<2/\BH J (.inr z)=AA (.int (i:Int)))) ((CT z/\z∈A)) (∀C Y W E D,Ba (Nf U B Z) H C->Jc G C U B A c Y W E F Z D->Ox U D Y W->D.map (·.1)=J.map (·.1)->Q (.bl AJ) C))
theorem lA(T:BQ AH Ag AM):T.gu.Ok BM P w Ag base 6 (UY AM):=by
    have D:=kH (P:=P) (w:=w) (base:=base) T;show T.gu.ok λnd _ _ _ _ _ f H vs Q E h=>?_;obtain⟨A,F,zs,c,sd,l,gk,hl,L,J,i,z,n,rfl,W,ho,⟨S,O⟩,lz,hc,⟨U,hv⟩,kz,k⟩:_:=h;show⟨_,(Aq (BC 4 nd (EY f.u1 (AB 1) (AB 2) (λ_ _=>rfl))) (Aq (Bx (Bl DD (AY CC (AY C1 (AB 3) AN) AN) AN (BW _)) (Ac (BI (BG (kR T) f #v[CZ AH (AB 0) (AB 4),AB 2]))) CH) (Aq (Bx (Bl DD (AY CC (AY C1 (AB 3) AN) AN) AN (BW _)) (Ac (BI (BG D f #v[CZ AH (AB 0) (AB 4),CZ AH (AB 0) (AB 4),AB 2]))) CH) (Aq (Bx (JK (G4 (BG D f #v[CZ AH (AB 0) (AB 4),CZ AH (AB 0) (AY FV AN (AB 4)),AB 2]))) (Ac (BI F4)) CH) (Aq (Ju f.u1 (AB 1) (AB 2) (AY FV AN (AB 4)) rfl) (Aq (Bx (Bl DD (AY CC (AB 3) AN) AN (BW _)) (Aq (Ju f.u1 (AB 1) (AB 2) (AB 4) rfl) (Ac (BI (BG D f #v[CZ AH (AB 0) (AY FV AN (AB 4)),CZ AH (AB 0) (AB 4),AB 2])))) CH) (Ac (BI F4)))))))),?_⟩;have sz:Ay=16777216:=DW;have hz:∀k,k<2->k≠i->Ep A z (sd k) (l k):=λk B q=>ho k B z λe=>by rw[hv]at e;have:=AD.int.inj (B9 e);show q (by(first|lia|omega))
    have t:(.inr z:AK)∈J.map (·.1):=BE.mpr ⟨_,FD hv,rfl⟩;have lkv:J.length<=600:=by
      have:=Nl (m:=zs.map λy=>(Bt y:AK)) W.nd λx hx=>by obtain⟨q,hq,rfl⟩:=BE.mp hx;obtain⟨y,_,rfl,_,_,C⟩:=W.ky q hq;show BE.mpr ⟨y,C,rfl⟩
      rw[As,As]at this;(first|lia|omega)
    have toX:∀{H':AI}{i j:Nat},i<2->j<2->Ba (λb=>CU A (F i) b\/CU A (F j) b) H H'->Ba (λb=>∃k,k<2/\CU A (F k) b) H H':=λU M s b o Y e=>s b o (λy=>Y (y.elim (λy=>⟨_,U,y⟩) λy=>⟨_,M,y⟩)) e;show⟨L,.int (i:Int),rfl,by rw[<-hv];show .inl ⟨J,.inr z,.inl W.ed,rfl,rfl⟩,?_⟩;show⟨(zzd rfl),(zzp rfl),rfl,_,rfl,EA (λ_=>?_) λ_=>?_⟩
    . show⟨_,_,AW W.eh,Je U,A,F,zs,c,sd,l,gk,i,z,rfl,W.tb,U,⟨S,O⟩,lz,W.dq,hc,λX d G I=>?_⟩;have s1:Ba (λb=>∃k,k<2/\CU A (F k) b) H X:=λb o Y e=>G b o (λy=>Y ⟨i,U,y⟩) e;show k X _ _ _ J (λb o Y e=>s1 b o (λy=>Y (.inl y)) e) (W.ug s1 I (W.dq.uz U z) λ_ h=>h) (λk B y C=>hU (.inl (ho k B y C))) rfl
    show⟨(zzd rfl),(zzp rfl),rfl,_,rfl,EA (λ_=>?_) λ_=>?_⟩
    . show⟨_,_,AW W.eh,Je U,_,_,AW W.eh,Je U,A,F,zs,c,sd,l,gk,i,i,z,rfl,W.tb,⟨U,U⟩,⟨S,O⟩,lz,W.dq,hc,hz,λX d G I a R g=>?_⟩;have s1:=toX U U G;show k X _ _ _ J (λb o Y e=>s1 b o (λy=>Y (.inl y)) e) (W.ug s1 I a λ_ h=>h) (λk B y C=>?_) rfl;by_cases q:y=z;. subst q;show R k B λe=>C (by rw[hv,e])
      .show g k B y q (ho k B y C)
    have M:1-i<2:=by(first|lia|omega)
    have ej:(1:Int)-(i:Int)=((1-i:Nat):Int):=by(first|lia|omega)
    show⟨_,_,AW W.eh,Je U,_,_,AW W.eh,by rw[ej];show Je M,A,F,zs,c,sd,l,gk,i,1-i,z,rfl,W.tb,⟨U,M⟩,⟨S,O⟩,lz,W.dq,hc,hz,λX d G I a R g=>⟨_,rfl,Ds ?_⟩⟩;have s1:=toX U M G;have v:=W.ug s1 I a λ_ h=>h;have p:∀k:Nat,k<2->∀y,y≠z->BH J (.inr y)≠AA (.int (k:Int))->Ep A y (Fw A z sd i (1-i) k) (Hj A z l i (1-i) k):=λk B y q C=>g k B y q (ho k B y C);have N:=v.adg M kz;have r:=Wu p R;show⟨L,AQ X L (.dK (BJ J (.inr z) (.int ((1-i:Nat):Int)))),rfl,by rw[<-ej];show Ke (k:=.inr z) v.ed (by(first|lia|omega)),?_⟩;have s2:Ba (Nf A F L) H (AQ X L (.dK (BJ J (.inr z) (.int ((1-i:Nat):Int))))):=λb o Y e=>by rw[AX λy=>Y (.inr y)];show s1 b o (λy=>Y (.inl y)) e
    generalize AQ X L (.dK (BJ J (.inr z) (.int ((1-i:Nat):Int))))=H2 at N s2⊢;have k2:(BJ J (.inr z) (.int ((1-i:Nat):Int))).map (·.1)=J.map (·.1):=YU t;show⟨(zzp rfl),rfl,_,rfl,EA (λ_=>?_) λ_=>k H2 _ _ _ _ s2 N r k2⟩;have Z:=N.adg U kz;show⟨L,_,rfl,Ke (k:=.inr z) N.ed ?_,?_⟩
    . have:=AEw JN k2;rw[As,As]at this;(first|lia|omega)
    have s3:Ba (Nf A F L) H (AQ H2 L (.dK (BJ (BJ J (.inr z) (.int ((1-i:Nat):Int))) (.inr z) (.int (i:Int))))):=λb o Y e=>by rw[AX λy=>Y (.inr y)];show s2 b o Y e
    have k3:(BJ (BJ J (.inr z) (.int ((1-i:Nat):Int))) (.inr z) (.int (i:Int))).map (·.1)=J.map (·.1):=(YU (by rw[k2];show t)).trans k2;have v3:∀y,y≠z->BH (BJ (BJ J (.inr z) (.int ((1-i:Nat):Int))) (.inr z) (.int (i:Int))) (.inr y)=BH J (.inr y):=λy q=>by rw[Gn,AEu λe=>q (Ft e),Gn,AEu λe=>q (Ft e)]
    have v3z:BH (BJ (BJ J (.inr z) (.int ((1-i:Nat):Int))) (.inr z) (.int (i:Int))) (.inr z)=AA (.int (i:Int)):=by rw[Gn,AEv rfl]
    generalize AQ H2 L (.dK (BJ (BJ J (.inr z) (.int ((1-i:Nat):Int))) (.inr z) (.int (i:Int))))=H3 at Z s3⊢;generalize BJ (BJ J (.inr z) (.int ((1-i:Nat):Int))) (.inr z) (.int (i:Int))=u at Z k3 v3 v3z;show⟨_,_,AW Z.eh,by rw[ej];show Je M,_,_,AW Z.eh,Je U,A,F,zs,c,_,_,d,1-i,i,z,rfl,Z.tb,⟨M,U⟩,⟨S,O⟩,lz,Z.dq,hc,R,λH4 gk4 sp4 tb4 dq4 no4 nx4=>?_⟩;have s4:Ba (λb=>∃k,k<2/\CU A (F k) b) H3 H4:=λb o Y e=>sp4 b o (λy=>Y (y.elim (λy=>⟨_,M,y⟩) λy=>⟨_,U,y⟩)) e;show k H4 _ _ _ u (λb o Y e=>s4 b o (λy=>Y (.inl y)) (s3 b o Y e)) (Z.ug s4 tb4 dq4 λ_ h=>h) (λk B y C=>?_) k3;by_cases q:y=z
    . subst q;show no4 k B λe=>C (by rw[v3z,e])
    . rw[v3 y q]at C;show nx4 k B y q (p k B y q C)
section
variable{s:AU}
structure LC(s:BO)(vs:List AD)(H:AI)(Q:BN)(E:F0):Prop where go:s vs H Q E
end
theorem Qt(c:JX CX P w AH D base k R sp):JX CX P w AH D base k R (LC sp):=by obtain⟨r,b,F⟩:_:=c;show⟨r,b,F.adz λ_ _ _ _ h=>h.go⟩
theorem jU(T:BQ AH Ag AM):T.fo.Ok BM P w Ag base 8 (LC (UT AM)):=Qt (jT (P:=P) (w:=w) (base:=base) T)
theorem lB(T:BQ AH Ag AM):T.gu.Ok BM P w Ag base 6 (LC (UY AM)):=Qt (lA (P:=P) (w:=w) (base:=base) T)
theorem k4(T:BQ AH Ag AM):T.iu.Ok BM P w Ag base 8 (LC (UX AM)):=Qt (kZ (P:=P) (w:=w) (base:=base) T)
theorem kE(T:BQ AH Ag AM):T.fq.Ok BM P w Ag base 8 (LC (UU AM)):=Qt (kC (P:=P) (w:=w) (base:=base) T)
theorem FG.wj(d:FG ss zs c sd gg)(h:∀y∈zs,y∈U):FG ss U c sd gg:=⟨d.j,λi D t J m V x W=>⟨(d.tm i D t J m V x W).1,(d.tm i D t J m V x W).2.1,h _ (d.tm i D t J m V x W).2.2⟩,d.gd,λi D t J y Y=>⟨(d.gp i D t J y Y).1,h y (d.gp i D t J y Y).2⟩⟩
theorem Iw.acr(F:ED ss)(U:Iw ss c z k W)(B:k<=W):K8 ss c:=by
 have V:∀(m i:Nat)s,i<m->ss[i]?=AA s->s.da=AR->c s.nm<=z s.nm:=by intro m;induction m with |zero=>showλi s h=>absurd h (OW _)|succ m E=> intro i s A D J;rw[(U.zq i s D J).1];show Ah (U.le i s D J) (W2 (λa Z=>?_) B);obtain⟨C,G,l,Y,rfl,H⟩:=F.oi i s a D Z;show E C G (Bh l (DM A)) Y H
 showλi s D J=>Ah (V (i+1) i s (JQ _) D J) (U.zq i s D J).2
theorem FG.yo(d:FG ss zs c sd gg)(hi:i<2)(m:Option Int):FG ss zs c sd (BR gg i λt z=>DU m (gg i t z)):=by
 have J:∀k t y,(BR gg i (λt z=>DU m (gg i t z)) k t y).Sublist (gg k t y):=λk t y=>by
  unfold BR;split
  . rename_i q;rw[q];change(DU m (gg i t y)).Sublist _;rw[LL];show Jz
  .show .refl _
 show⟨d.j,d.tm,λk D t s e Z y=>?_,λk D t W y Y=>d.gp k D t W y λe=>Y ?_⟩;. obtain⟨U,V⟩:=d.gd k D t s e Z y;show⟨s.aah U (J k t y),Ah (J k t y).length_le V⟩
 . have:=J k t y;rw[e]at this;show List.sublist_nil.mp this
theorem lW{sd:Nat->Bi}{gg:Nat->CI}(h:Ep ss y (sd k) (gg k)):Ep ss y (sd k) (BR gg i (λt z=>DU m (gg i t z)) k):=by
 show⟨h.1,λt D=>?_⟩;unfold BR;split
 . rename_i q;change DU m (gg i t y)=[];rw[LL,<-q,h.2 t D];rfl
 .show h.2 t D
theorem Yl(e:ss[t]?=AA (.join n a b wi)):Au m (Eh ss D S t)=ES (D-wi) (Au m (S t)):=by rw[Q1 e];unfold Au;split<;>rfl
theorem FG.xh(d:FG ss zs c sd gg)(hi:i<2)(J:Int):FG ss zs c (BR sd i (Eh ss J (sd i))) gg:=by
 have U:∀k t m,Bq ss t->(Au m (BR sd i (Eh ss J (sd i)) k t)).Sublist (Au m (sd k t)):=λk t m V=>by
  unfold BR;split
  . rename_i q;obtain⟨n,a,b,D,e⟩:=V;rw[Yl e,q];show Jz
  .show .refl _
 show⟨λt n a b D e=>?_,λk W t V m Y x Z=>d.tm k W t V m Y x ((U k t m V).mem Z),d.gd,d.gp⟩;obtain⟨F,G⟩:=d.j t n a b D e;have A:=(U 0 t 0 ⟨n,a,b,D,e⟩).length_le;have B:=(U 1 t 0 ⟨n,a,b,D,e⟩).length_le;have C:=(U 0 t 1 ⟨n,a,b,D,e⟩).length_le;have E:=(U 1 t 1 ⟨n,a,b,D,e⟩).length_le;(first|lia|omega)
theorem iI{sd:Nat->Bi}{gg:Nat->CI}(h:Ep ss y (sd k) (gg k)):Ep ss y (BR sd i (Eh ss J (sd i)) k) (gg k):=by
 show⟨λt D m U=>?_,h.2⟩;unfold BR;split
 . rename_i q;have V:=h.1 t D m U;obtain⟨n,a,b,W,e⟩:_:=D;rw[Yl e,iF,<-q,V];rfl
 .show h.1 t D m U
section
variable{s:AU}
structure Lm(ss:List AU)(Fs:Nat->DJ)(H4:AI)(lp hl hd lh:AE)(ps:List AD):Prop where
 aao:ED ss
 ack:ss.length<=8
 uc:∀s∈ss,∀t∈s.uc,CT t
 abf:H4 lp=AA (.lst ps)pr:EW H4 ps ss
 fO:∀k,k<2->∀b,CU ss (Fs k) b->H4 b=AG
 fd:H4 hd=AG
 fh:H4 lh=AG
 aea:hl≠lh
 adq:∀k,k<2->(Fs k).lp≠lh
end
structure F9(ad:CF)(ss:List AU)(Fs:Nat->DJ)(H4 H':AI)(hl hd lh:AE)(zs:List AF)(c z0:AF->Nat)(sd:Nat->Bi)(gg:Nat->CI)(gk:Nat->DI)(kvs:List (AK×AD))(hs:List AD)(kn:Nat):Prop where
 g:An H4 H'
 lb:Jc ad H' ss Fs zs c sd gg gk hl hd kvs
 ho:Ox ss kvs sd gg
 cn:Iw ss c z0 kn 8
 eh:H' lh=AA (.lst hs)hw:Lp ss lh H' hs
theorem F9.hq(w:F9 AM ss U V H' Y W A zs c G sd gg gk kvs E Z)(D:Lm ss U V F Y W A ps)(C:zs.length<=600)(B:Z<=8)(J:j<2):Hg ss (sd j) (gg j) (gk j) λy=>CT y/\y∈zs:=w.lb.dq.hq D.aao (w.cn.acr D.aao B) C J (w.lb.tb.cw j J)
theorem F9.to(w:F9 AM ss J E H' A U H zs c I sd gg gk kvs N Q)(G:Lm ss J E R A U H ps)(s:Ba (Nf ss J U) H' C)(O:Jc AM C ss J Y Z sd' gg' gk' A U D)(M:Ox ss D sd' gg')(K:Iw ss Z I V 8):F9 AM ss J E C A U H Y Z I sd' gg' gk' D N V:=by
 have B:∀{b:AE}{o:Bn},H' b=AA o->(∀W,o≠.dK W)->¬Nf ss J U b:=λ{b o}e n y=>by obtain⟨W,F⟩:=w.lb.ado y;rw[e]at F;show n _ (B9 F)
 show⟨λb o e=>s _ _ (λy=>?_) (w.g _ _ e),O,M,K,s _ _ (B w.eh (by intro W y;cases y)) w.eh,w.hw.ab (λb P _ e=>s _ _ (B e (by intro W y;cases y)) e) λb P e=>s _ _ (B e (by intro W y;cases y)) e⟩;rcases y with⟨k,L,y⟩|y;.rw[G.fO k L b y]at e;cases e
 .rw[y,G.fd]at e;cases e
theorem F9.af(w:F9 AM ss D J H' V U W zs c C sd gg gk kvs A B)(Z:Lm ss D J E V U W ps)(s:An H' Y):F9 AM ss D J Y V U W zs c C sd gg gk kvs A B:=w.to Z (λb o _ e=>s b o e) (w.lb.af s) w.ho w.cn
theorem F9.yo(w:F9 AM ss W P H' S R U zs c i sd gg gk kvs H T)(D:Lm ss W P L S R U ps)(f:zs.length<=600)(d:T<=8)(K:H.length<=1000)(J:j<2)(m:Option Int)(k:∀Y gg' gk' v,Bc H' Y->F9 AM ss W P Y S R U zs c i sd gg' gk' kvs (H++[v]) T->Q (.bl AJ) Y):LC (UX AM) [.ref (W j).x,.ref L,HH m,.ref U] H' Q E:=by
  have M:L≠U:=λy=>by have:=D.abf;rw[y,D.fh]at this;cases this
  show⟨⟨ss,W j,sd j,gg j,gk j,_,L,U,ps,H,m,rfl,w.lb.tb.cw j J,D.aao,D.ack,w.hq D f d J,⟨λy h=>h.1,D.uc⟩,w.g _ _ D.abf,D.pr.ab w.g.tp,w.eh,⟨M,D.adq j J⟩,w.hw,K,λY A v s2 G _ C I=>k Y (BR gg j λt z=>DU m (gg j t z)) (BR gk j A) v (λb O e=>s2 _ _ (λy=>?_) e) ?_⟩⟩
  . rcases y with y|y
    . obtain⟨a,Z⟩:=(w.lb.tb.cw j J).qo y;rw[e]at Z;cases Z
    . rw[y,w.eh]at e;cases e
  have N:GQ AM Y ss W sd (BR gg j λt z=>DU m (gg j t z)) (BR gk j A):=by
    show⟨λk B=>?_,w.lb.tb.bb⟩;unfold BR;by_cases q:k=j
    . subst q;rw[AEv rfl,AEv rfl];show G
    . rw[AEu q,AEu q];show(w.lb.tb.cw k B).yn w.eh w.hw.adt (D.adq k B) s2 (λb F=>(w.lb.tb.cw j J).qo F) λb F=>w.lb.tb.bb j k J B (Gb q) b F
  have g:∀{b:AE}{O:List AD},H' b=AA (.lst O)->b≠U->¬(CU ss (W j) b\/b=U):=λ{b O}e n y=>y.elim (λy=>by obtain⟨a,Z⟩:=(w.lb.tb.cw j J).qo y;rw[e]at Z;cases Z) n;show⟨λb o e=>s2 _ _ (λy=>y.elim (λy=>by rw[D.fO j J b y]at e;cases e) λy=>by rw[y,D.fh]at e;cases e) (w.g _ _ e),⟨N,w.lb.dq.yo J m,s2 _ _ (g w.lb.eh D.aea) w.lb.eh,s2 _ _ (λy=>y.elim (w.lb.aaw j J).1 λy=>by have:=w.lb.ed;rw[y,w.eh]at this;cases this) w.lb.ed,w.lb.nd,w.lb.ky,w.lb.aaw⟩,λk B y X=>lW (w.ho k B y X),w.cn,C,I⟩
theorem F9.xh{K:AE}(w:F9 AM ss J C H' G F I zs c R sd gg gk kvs M H)(V:Lm ss J C K G F I ps)(P:zs.length<=600)(O:H<=8)(W:j<2)(D:Int)(k:∀U sd' gk',F9 AM ss J C U G F I zs c R sd' gg gk' kvs M H->Q (.bl AJ) U):LC (UU AM) [.ref (J j).x,.ref K,.int D] H' Q E:=by show⟨⟨ss,J j,sd j,gg j,gk j,_,K,ps,D,rfl,w.lb.tb.cw j W,V.ack,w.hq V P O W,λy h=>h.1,w.g _ _ V.abf,V.pr.ab w.g.tp,λU s2 A=>k U (BR sd j (Eh ss D (sd j))) (BR gk j (gk j)) ?_⟩⟩;have Z:=w.lb.tb.js W s2 A;rw[qB]at Z;have Y:Ba (λb=>∃k,k<2/\CU ss (J k) b) H' U:=λb o B e=>s2 b o (λy=>B ⟨j,W,y⟩) e;show w.to V (λb o B e=>Y b o (λy=>B (.inl y)) e) (w.lb.ug Y Z (w.lb.dq.xh W D) λ_ h=>h) (λk L y N=>iI (w.ho k L y N)) w.cn
theorem F9.zr{F j:Nat}(w:F9 AM ss U L H' O N P zs c a sd gg gk kvs i F)(J:Lm ss U L T O N P ps)(m:zs.length<=600)(R:F<8)(A:j<2)(g:Ge H' q e)(n:Eg (KO e)/\CT e.2.2.1/\e.2.2.1∈zs)(l:BH kvs (.inr e.2.2.1)=AA (.int (j:Int)))(k:∀D d sd' gg' gk',Bc H' D->F9 AM ss U L D O N P zs d a sd' gg' gk' kvs i (F+1)->Q (.bl AJ) D):LC (UT AM) [.ref (U j).x,.ref T,.ref q] H' Q E:=by
 show⟨⟨ss,U,zs,c,a,F,8,sd,gg,gk,j,T,q,ps,e,rfl,w.lb.tb,A,⟨J.aao,J.ack⟩,m,w.lb.dq,w.cn.acr J.aao (B6 R),⟨w.cn,R⟩,⟨w.g _ _ J.abf,J.pr.ab w.g.tp⟩,g,n,λD S G Z f s2 K Y W I=>k D f (BR sd j S) (BR gg j G) Z (λb r e=>s2 _ _ (λy=>?_) e) ?_⟩⟩
 . obtain⟨p,M⟩:=(w.lb.tb.cw j A).qo y;rw[e]at M;cases M
 have V:Ba (λb=>∃k,k<2/\CU ss (U k) b) H' D:=λb o H e=>s2 b o (λy=>H ⟨j,A,y⟩) e;show w.to J (λb o H e=>V b o (λy=>H (.inl y)) e) (w.lb.ug V K Y λ_ h=>h) (λk B y C=>?_) W;by_cases q:y=e.2.2.1
 . have X:k≠j:=λz=>C (by rw[q,l,z]);unfold BR;rw[AEu X,AEu X];show w.ho k B y C
 .show I k B y q (w.ho k B y C)
theorem F9.aan{ss:List AU}{Z:Nat->DJ}{I H':AI}{j Y W N:AE}{ps S:List AD}{zs:List AF}{c g:AF->Nat}{sd:Nat->Bi}{gg:Nat->CI}{gk:Nat->DI}{kvs:List (AK×AD)}{M:Nat}(w:F9 AM ss Z I H' Y W N zs c g sd gg gk kvs S M)(V:Lm ss Z I j Y W N ps)(d:zs.length<=600)(a:M<=8){y:AF}(T:(.inr y:AK)∈kvs.map (·.1))(n:Int){Q:BN}{E:F0}(k:∀J sd' gg' gk' D,Bc H' J->F9 AM ss Z I J Y W N zs c g sd' gg' gk' D S M->D.map (·.1)=kvs.map (·.1)->Q (.bl AJ) J):LC (UY AM) [.ref Y,.ref W,.str y,.int n] H' Q E:=by lk;obtain⟨v,L⟩:=Lb T;obtain⟨m,i,e,R,O,f⟩:=w.lb.ky _ (FD L);obtain⟨A,P⟩:=WH e;k_in;have A:=Ft A;subst A P;show⟨⟨ss,Z,zs,c,sd,gg,gk,Y,W,kvs,i,y,n,rfl,w.lb,w.ho,⟨V.aao,V.ack⟩,d,w.cn.acr V.aao a,⟨R,L⟩,⟨O,f⟩,λJ H B C U s2 G F X=>k J H B C U (λb l e=>s2 _ _ (λy=>?_) e) (w.to V s2 G F w.cn) X⟩⟩;obtain⟨h,K⟩:=w.lb.ado y;rw[e]at K;cases K
theorem mD(h:EW H ps ss):KI H ps:=λv W=>by lk;obtain⟨i,U,e⟩:=FN.mp W;obtain⟨a,s,D,_,J⟩:=h.at (by rw[CG U,e]);k_in;show .inr ⟨a,_,D,J,.inr λi z=>by cases s<;>cases z⟩
theorem YL(h:EW H ps ss):FI AH H ps (ss.map λs=>Ez s.vd):=by induction h with|nil=>show .nil|cons a _ D=>obtain⟨a,rfl,e⟩:_:=a;show .cons (.tup (Ao e) (OA _)) D
theorem qS:K0 "take"=AJ/\K0 "only"=AJ/\K0 "turn"=AJ/\K0 "both"=AJ/\K0 "join"=AJ/\K0 "gap"=AJ/\K0 "each"=AJ:=by decide+kernel
theorem YM{ss:List AU}(D:∀s∈ss,∀t∈s.uc,CT t):F7 (.list (ss.map λs=>Ez s.vd))=AJ:=by
 have e:(ss.map λs=>Ez s.vd)=(ss.map AU.vd).map Ez:=by rw[Cu];rfl
 rw[e];show wJ λF J=>?_;lk;obtain⟨s,U,rfl⟩:=BE.mp J;have t:=λx(V:x∈s.uc)=>(D s U x V).ok;obtain⟨W,Y,Z,A,B,C,E⟩:=qS;k_in;cases s<;>simp only[AU.uc,Ca,Sg,AE8,forall_eq_or_imp,forall_eq]at t<;>simp[R4,AU.vd,Zl,W,Y,Z,A,B,C,E,t]
theorem F9.de(w:F9 AM ss D J H' W U E zs c F sd gg gk kvs Z C):kvs.length<=zs.length:=by
 have:=Nl (m:=zs.map λy=>(Bt y:AK)) w.lb.nd λx A=>by obtain⟨q,Y,rfl⟩:=BE.mp A;obtain⟨y,_,rfl,_,_,B⟩:=w.lb.ky q Y;show BE.mpr ⟨y,B,rfl⟩
 rw[As,As]at this;show this
def gE(ss:List AU)(B:Nat->DJ)(E:AI)(I H K:AE)(P:AF->Nat)(Y:Int->Option AD->Option AD->Option AD->Option AD->Option AD->Ae)(i:Nat):Ae->AI->Prop:=λQ C=>(Qv λ(D:Int)(L M N U W:Option AD)(A:List AF)(c:AF->Nat)(O:Nat->Bi)(F:Nat->CI)(G:Nat->DI)(J:List (AK×AD))(Z:List AD)=>JV (Q=Y D L M N U W) (F9 AM ss B E C I H K A c P O F G J Z i) (A.length<=i) (Z.length<=2*i) (0<=D) (D<=1000000000))
theorem kQ(T:BQ AH Ag AM):Gy P w AH Ag base BM O4 AM.vn AM.ya ["_law_script"] (Nu AH):=by
    have U:=RJ (P:=P) (w:=w) (base:=base) T;have J:=k4 (P:=P) (w:=w) (base:=base) T;show T.zy.ok Yj (λ_ _ _ _ h=>by obtain⟨a,ns,rfl,_⟩:=h;rfl) λcdv A outer s H vs Q E B h=>?_;obtain⟨a,ns,rfl,hS,hl,k⟩:_:=h;have l:=(Yj).nd;show⟨_,(Aq (BC 1 l (BG (lC T) B #v[AB 0,AN])) (Aq (BC 2 l (LX (Rr (K:=AH)) (by rfl) T.jc NR #v[AB 1])) (Bv (BC 3 l (CW #v[PK (UC T) B T.ve Kq #v[AB 2],PK (UC T) B T.ve Kq #v[AB 2]])) (Bv (D1 (aE (K:=AH) Lf AAB ACs Zz (AB 2))) (Bv (BC 4 l OI) (Bv (BC 5 l (CW Dq)) (Bv (BC 6 l AN) (Bv (C8 DF rfl (vK (by rfl) T.je #v[AN,(DE (ZL rfl) (by rfl) T.zo zL #v[(AY FV (DE (HJ (K:=AH)) (by rfl) T.fm HR #v[AB 0]) AN),AN]),AN]) (CO 7 l) (Aq (BC 8 l (BG (j8 T) B #v[AB 0,AB 7])) (Aq (BC 8 l (CP #v[(DE (Rt rfl) (by rfl) T.wy WM #v[AB 6,Av AH (AB 8) AN]),Av AH (AB 8) AN,Av AH (AB 8) AN,Av AH (AB 8) AN])) (Aq (Jt (Bx (Va (uZ B.u1 (Av AH (AB 8) AN) (AB 4))) (Ac (Ju B.u1 (AB 4) (Av AH (AB 8) AN) AN rfl)) CH)) (Bv (Bx (JK (G4 (BG (jU T) B #v[(CZ AH (AB 3) (EY B.u1 (AB 4) (Av AH (AB 8) AN) (λ_ _=>rfl))),AB 1,AB 8]))) (Ac (BI F4)) CH) (Aq (BC 9 l (DE (MI rfl) (by rfl) T.cy J6 #v[AB 4])) (Aq (BC 10 l (CZ AH (AB 9) (AY CC (BG U B #v[AB 0,AY Dp (AB 7) AN]) (DE (HJ (K:=AH)) (by rfl) T.fm HR #v[AB 9])))) (Bv (Bx (JK (G4 (BG (lB T) B #v[AB 3,AB 4,AB 10,BG U B #v[AB 0,AY Dp (AB 7) AN]]))) (Ac (BI F4)) CH) (Aq (BC 11 l (BG U B #v[AB 0,AY Dp (AB 7) AN])) (Aq (Jt (Bx (Kh (Vb (Bl DD (AY CC (AY C1 (AB 11) AN) AN) AN (BW _)) (Vc (JK (G4 (BG J B #v[CZ AH (AB 3) (AY CC (AY C1 (AB 11) AN) AN),AB 1,Jr,AB 5])))))) (Ac (BI F4)) CH)) (Ac (Bx (Bl DD (AY CC (AB 11) AN) AN (BW _)) (Aq (BC 6 l (DE (Rt rfl) (by rfl) T.wy WM #v[AB 6,AY FV (Av AH (AB 8) AN) (AY CC (AY C1 (AB 11) AN) AN)])) (Bv (Bx (JK (G4 (BG (kE T) B #v[CZ AH (AB 3) (AY CC (AY C1 (AB 11) AN) AN),AB 1,AB 6]))) (Ac (BI F4)) CH) (Ac (Bx (JK (G4 (BG J B #v[CZ AH (AB 3) (AY CC (AY C1 (AB 11) AN) AN),AB 1,AB 6,AB 5]))) (Ac (BI F4)) CH)))) CH)))))))))))) (Bv (Bx (Kh (Jw (JK (G4 (BG J B #v[CZ AH (AB 3) AN,AB 1,Jr,AB 5]))) (NC (JK (G4 (BG J B #v[CZ AH (AB 3) AN,AB 1,Jr,AB 5])))))) (Ac (BI F4)) CH) (Aq (Bx (Bl OG (DE (HJ (K:=AH)) (by rfl) T.fm HR #v[(Hx (DC UM) [] trivial (Cn (K:=AH) (AB 5)) (λ_ _ _ _=>Jv (Bl (NB (K:=AH) B.fw) (Av AH (AB 0) AN) (Av AH (AB 0) AN) (BW _))) (λ_ _ _ _=>(AB 0)))]) AN (BW _)) (Ac (BI F4)) CH) (Ac (BI (SF (HM (LW (K:=AH) B.fw) (Bu (CZ AH (AB 3) AN) rfl) (AB 1) (BW _)) (VY (HM (LW (K:=AH) B.fw) (Bu (CZ AH (AB 3) AN) rfl) (AB 1) (BW _)))))))))))))))),?_⟩;have sz:Ay=16777216:=DW;show⟨a,ns,8,rfl,hS,hl,by decide,λlp H2 ps M z g2 hlp elp pr pok lss txt siz=>?_⟩;have hS2:=g2.wq hS;show⟨lp,ps,rfl,.inl (AW elp),λhh hhh=>?_⟩;show BA hhh λH5 g5 I=>?_;have elp5:=g5 _ _ elp;have pr5:=pr.ab g5.tp;showλ_ _ _ _ z3=>λx dx hx hdx hxn=>⟨x,dx,hh,ps,M,rfl,Af,by rw[AX (Bg I hx),AX (Bg I hdx)];show I,pr5.ab λb xs e=>by rw[AX (Bg e hx),AX (Bg e hdx)];show e,lss,λH6 F1 eF1 sx hb6 fr1 fp1=>⟨rfl,?_⟩⟩;have g6:An H5 H6:=T6 hx hdx sx;have fr1':∀b,CU M F1 b\/b=F1.dj\/b=F1.dg->H5 b=AG:=λb Z=>(Ni hxn (fr1 b Z)).1;showλy dy hy hdy hyn=>⟨y,dy,hh,ps,M,rfl,Af,by have e:=g6 _ _ I;rw[AX (Bg e hy),AX (Bg e hdy)];show e,(pr5.ab g6.tp).ab λb xs e=>by rw[AX (Bg e hy),AX (Bg e hdy)];show e,lss,λH7 F2 eF2 sy hb7 fr2 fp2=>⟨rfl,?_⟩⟩;have g7:An H6 H7:=T6 hy hdy sy;have fr2':∀b,CU M F2 b\/b=F2.dj\/b=F2.dg->H6 b=AG:=λb Z=>(Ni hyn (fr2 b Z)).1;show⟨CB rfl,λha hha=>z3 _ _ ?_⟩;show BA hha λH8 g8 eha=>?_;have g58:=g6.aa (g7.aa g8);lk;obtain⟨C,eFs⟩:∃C:Nat->DJ,C=λk=>if k=0 then F1 else F2:=⟨_,rfl⟩;k_in;have f0:C 0=F1:=by rw[eFs];rfl
    have f1:C 1=F2:=by rw[eFs];rfl
    have two:∀{p:Nat->Prop},p 0->p 1->∀k,k<2->p k:=λ{p}h0 h1 k G=>by
      rcases Gr.mp (DM G)with rfl|rfl;.show h0
      .show h1
    have tb8:GQ AM H8 M C (λ_ _=>([],[])) (λ_ _ _=>[]) (λ_ _=>[]):=by
      have d1:∀b,CU M F1 b\/b=F1.dj\/b=F1.dg->∃kv,H6 b=AA (.dK kv):=λb Z=>by
        rcases Z with Z|Z|Z;.show hb6.qo Z
        .show⟨_,by rw[Z];show hb6.di⟩
        .show⟨_,by rw[Z];show hb6.bh⟩
      have ap:∀b,CU M F1 b\/b=F1.dj\/b=F1.dg->¬(CU M F2 b\/b=F2.dj\/b=F2.dg):=λb h1 h2=>by obtain⟨kv,e⟩:=d1 b h1;rw[fr2' b h2]at e;cases e
      show⟨two (by rw[f0];show hb6.af (g7.aa g8)) (by rw[f1];show hb7.af g8),λi j hi hj nij b Z=>?_⟩;rcases Gr.mp (DM hi)with rfl|rfl<;>rcases Gr.mp (DM hj)with rfl|rfl;.show absurd rfl nij
      . rw[f0]at Z;rw[f1];show⟨λy=>ap b (.inl Z) (.inl y),λy=>ap b (.inl Z) (.inr (.inl y)),λy=>ap b (.inl Z) (.inr (.inr y))⟩
      . rw[f1]at Z;rw[f0];show⟨λy=>ap b (.inl y) (.inl Z),λy=>ap b (.inr (.inl y)) (.inl Z),λy=>ap b (.inr (.inr y)) (.inl Z)⟩
      .show absurd rfl nij
    have flp:∀k,k<2->H5 (C k).lp=AG:=two (by rw[f0];show(Ni hxn fp1).1) (by rw[f1];show g6.ba (Ni hyn fp2).1);have fO:∀k,k<2->∀b,CU M (C k) b->H2 b=AG:=two (λb Z=>by rw[f0]at Z;show g5.ba (fr1' b (.inl Z))) (λb Z=>by rw[f1]at Z;show g5.ba (g6.ba (fr2' b (.inl Z))));have eha:H8 ha=AA (.lst [.ref (C 0).x,.ref (C 1).x]):=by rw[f0,f1,eF1,eF2];show eha
    have N:=g58 _ _ I;have nha:ha≠hh:=λy=>by have e:=g7 _ _ (g6 _ _ I);rw[<-y,hha]at e;cases e
    showλ_ _ _ _ z4=>⟨.inl ⟨rfl,_,AW N⟩,hh,ps,rfl,rfl,N,z4 _ _ ?_⟩;have x9:BV hh H8 (AQ H8 hh (.lst [])):=zzu
    generalize AQ H8 hh (.lst [])=H9 at x9⊢;have u:=tb8.yn N (mD (pr5.ab g58.tp)) (λk G y=>by have e:=flp k G;rw[y,I]at e;cases e) x9;have g9:An H2 H9:=λb o e=>x9 _ _ (Bg e hhh) (g58 _ _ (g5 _ _ e));have eha9:=x9 _ _ nha eha;clear z3 z4 hb6 hb7 fr1 fr2 fr1' fr2' fp1 fp2 sx sy hx hy hdx hdy hxn hyn eF1 eF2 f0 f1 eFs tb8 x9 N g58 g6 g7 g8 hha I elp5 pr5 g2;showλ_ _ _ _ z5=>λS d=>z5 _ _ ?_;show BA (o:=.dK []) d λH10 g10 ehd=>?_;showλ_ _ _ _ z6=>⟨BY _,λlh hlh=>z6 _ _ ?_⟩;show BA (o:=.lst []) hlh λH11 g11 elh=>?_;have O:=g10.aa g11;have F:Lm M C H2 lp ha S lh ps:=⟨pok,lss,txt,elp,pr,fO,g9.ba d,g9.ba (g10.ba hlh),λy=>(by have e:=g10 _ _ eha9;rw[y,hlh]at e;cases e),λk G y=>(by have e:=g10 _ _ (u.cw k G).qm;rw[y,hlh]at e;cases e)⟩;have w0:F9 AM M C H2 H11 ha S lh [] (λ_=>0) z (λ_ _=>([],[])) (λ_ _ _=>[]) (λ_ _=>[]) [] [] 0:=by
      show⟨g9.aa O,⟨u.af O,⟨λt n a b wi _=>⟨Ak _,Ak _⟩,λ_ _ t _ m _ x hx=>by(unfold Au at hx;split at hx<;>cases hx),λ_ _ t s _ _ y=>⟨s.abi,BY _⟩,λ_ _ t _ y hy=>absurd rfl hy⟩,O _ _ eha9,g11 _ _ ehd,.nil,λq hq=>(by cases hq),λk G=>⟨λy=>?_,λy=>?_,λy=>?_⟩⟩,λk G y _=>⟨λt ht m hm=>?_,λt ht=>rfl⟩,⟨λ_ _ _ _=>BY _,siz⟩,elh,λv hv=>(by cases hv)⟩
      . obtain⟨kv,e⟩:=(u.cw k G).qo y;rw[d]at e;cases e
      . have e:=(u.cw k G).di;rw[<-y,d]at e;cases e
      . have e:=(u.cw k G).bh;rw[<-y,d]at e;cases e
      . unfold Au;split<;>rfl
    clear u fO flp g9 eha9 eha nha d hlh g10 g11 O ehd elh pok pr elp siz hhh g5 hlp;showλ_ _ _ _ z7=>z7 _ _ ?_;have lns:(ns.map AD.int).length=ns.length:=As ..;showλ_ _ _ _ z8=>⟨_,.inl (w0.g.wq hS2),_,_,_,rfl,⟨by decide,by decide,by decide,by decide,?_,?_⟩,?_⟩;.rw[lns];split<;>lia
    .rw[lns];split<;>lia
    have hn:F5 15 (if 31<((ns.map AD.int).length:Int)-1 then 31 else((ns.map AD.int).length:Int)-1) 2<=8:=by unfold F5;(repeat' split)<;>(first|lia|(first|lia|omega))
    generalize F5 15 (if 31<((ns.map AD.int).length:Int)-1 then 31 else((ns.map AD.int).length:Int)-1) 2=nt at hn⊢;show sT (gE M C H2 ha S lh z (λW o7 o8 o9 o10 o11=>[AA (.ref a),AA (.ref lp),AA (.ref hh),AA (.ref ha),AA (.ref S),AA (.ref lh),AA (.int W),o7,o8,o9,o10,o11])) ⟨0,AG,AG,AG,AG,AG,[],_,_,_,_,[],[],rfl,w0,BY _,BY _,by decide,by decide⟩ ?_ ?_
    . intro i σ H0 hi hI;obtain⟨W,o7,o8,o9,o10,o11,zs,c,sd,gg,gk,g,hs,rfl,w1,lz,lhs,n0,n1⟩:_:=hI;have i8:i<8:=Bh hi hn;show⟨a,ns,_,rfl,w1.g.wq hS2,hl,by lia,λq0 Hb e gb hq0 ev ak az te=>?_⟩;have wb:=w1.af F gb;show⟨_,_,Ao ev,Aj (j:=0) rfl,?_⟩;show⟨_,_,Ao ev,Aj (j:=1) rfl,_,_,Ao ev,Aj (j:=2) rfl,_,_,Ao ev,Aj (j:=3) rfl,CB rfl,λq hq=>?_⟩;lk;obtain⟨Y,ee⟩:∃Y:FP,Y=((if e.1>W then e.1 else W),e.2.1,e.2.2.1,e.2.2.2):=⟨_,rfl⟩;k_in;have te1:Eg (KO Y):=by rw[ee];change 0<=(if e.1>W then e.1 else W)/\(if e.1>W then e.1 else W)<=1000000000;split<;>(first|lia|omega)
      have az1:CT Y.2.2.1:=by rw[ee];show az
      show BA hq λHc gc ec=>?_;have X:Ge Hc q Y:=by rw[ee];show ec
      have wc:=wb.af F gc;show Jp (λσ' H'=>(EH λ(kvs':List (AK×AD))(zs':List AF)(j:Nat)=>HZ (σ'=[AA (.ref a),AA (.ref lp),AA (.ref hh),AA (.ref ha),AA (.ref S),AA (.ref lh),AA (.int W),AA (.int (15+(i:Int)*2)),AA (.ref q),o9,o10,o11]) (F9 AM M C H2 H' ha S lh zs' c z sd gg gk kvs' hs i) (Ge H' q Y) (Y.2.2.1∈zs') (j<2) (BH kvs' (.inr Y.2.2.1)=AA (.int (j:Int))) (zs'.length<=i+1))) ?_ ?_
      . show⟨_,_,Ao X,Aj (j:=2) rfl,S,BH g (.inr Y.2.2.1),rfl,.inl ⟨g,.inr Y.2.2.1,.inl wc.lb.ed,rfl,rfl⟩,_,rfl,?_⟩;have w2:F9 AM M C H2 Hc ha S lh (Y.2.2.1::zs) c z sd gg gk g hs i:=wc.to F (λb o _ e=>e) (wc.lb.ug (λb o _ e=>e) wc.lb.tb (wc.lb.dq.wj λ_ h=>.tail _ h) λ_ h=>.tail _ h) wc.ho wc.cn;cases hv:BH g (.inr Y.2.2.1)with |some v=> lk;obtain⟨y',j,ey,hj,ay,my⟩:=wc.lb.ky _ (FD hv);obtain⟨e1',e2⟩:=WH ey;k_in;subst e2;show Ds ⟨g,Y.2.2.1::zs,j,rfl,w2,X,.head _,hj,hv,QG lz⟩|none=>
          show Jq ?_;show⟨_,_,Ao X,Aj (j:=2) rfl,S,_,rfl,Ke (k:=.inr Y.2.2.1) w2.lb.ed ?_,?_⟩
          . have:=w2.de;rw[Kw]at this;(first|lia|omega)
          have nqd:q≠S:=λy=>by have e:=w2.lb.ed;rw[<-y,X]at e;cases e
          show⟨_,Y.2.2.1::zs,0,rfl,w2.to F (λb o nb e=>by rw[AX λy=>nb (.inr y)];show e) (w2.lb.adg (v:=0) (by decide) ⟨az1,.head _⟩) (Wu (λk G y _ hy=>w2.ho k G y hy) λk G _=>w2.ho k G _ λe=>(by rw[hv]at e;cases e)) w2.cn,by rw[Ge,AX nqd];show X,.head _,by decide,by rw[Gn,AEv rfl],QG lz⟩
      intro σ3 H3 hI;obtain⟨kvs3,zs3,j,rfl,w3,ev3,m3,hj,hv3,lz3⟩:_:=hI;clear wb wc gb gc ec X hq hq0 ev;have i1:i+1<=8:=i8;have L:zs3.length<=600:=by(first|lia|omega)
      showλ_ _ _ _ z9=>⟨_,_,Ao ev3,Aj (j:=2) rfl,S,.int (j:Int),rfl,by rw[<-hv3];show .inl ⟨kvs3,.inr Y.2.2.1,.inl w3.lb.ed,rfl,rfl⟩,_,_,AW w3.lb.eh,Je hj,w3.zr F L i8 hj ev3 ⟨te1,az1,m3⟩ hv3 λH4 c4 sd4 gg4 gk4 tp4 w4=>⟨_,rfl,Ds (z9 _ _ ?_)⟩⟩;show⟨S,kvs3,rfl,w4.lb.ed,.inr (λp hp=>?_),λlk ks hlk pm _=>?_⟩;. obtain⟨y,_,rfl,_⟩:_:=w4.lb.ky p hp;show⟨y,rfl⟩
      show BA hlk λH5 g5 elk=>?_;have w5:=w4.af F g5;have ev5:Ge H5 q Y:=g5 _ _ (tp4 _ _ ev3);have lks:0<ks.length:=by have:=pm.mem_iff.mpr (yC hv3);show cH this
      show⟨a,ns,_,rfl,w5.g.wq hS2,hl,by lia,λnn nn0=>?_⟩;lk;obtain⟨v,hv,mv⟩:=JC (ks.map Aw) ((ks.map Aw).length:Int) rfl (by rw[As];(first|lia|omega)) nn;obtain⟨kk,hkk,rfl⟩:=BE.mp mv;have hkk:=pm.mem_iff.mp hkk;obtain⟨p,hp,ekk⟩:=BE.mp hkk;obtain⟨y,_,rfl,_⟩:=w5.lb.ky p hp;k_in;subst ekk;show⟨_,.inl (AW elk),by rw[As];(first|lia|omega),_,_,AW elk,hv,?_⟩;showλ_ _ _ _ z10=>⟨a,ns,_,rfl,w5.g.wq hS2,hl,by lia,λn2 _=>w5.aan F L i1 hkk n2 λH6 sd6 gg6 gk6 kvs6 tp6 w6 k6=>⟨_,rfl,Ds (z10 _ _ ?_)⟩⟩;have ev6:Ge H6 q Y:=tp6 _ _ ev5;show⟨a,ns,_,rfl,w6.g.wq hS2,hl,by lia,λnh nh0=>?_⟩;clear w3 w4 w5 z9 z10 tp4 tp6 ev3 ev5 g5 elk hlk pm hv mv hkk hp;lk;obtain⟨j1,ej1,hj1⟩:∃j:Nat,nh/2%2=(j:Int)/\j<2:=⟨(nh/2%2).toNat,by(first|lia|omega),by(first|lia|omega)⟩;obtain⟨j2,ej2,hj2⟩:∃j:Nat,nh/20%2=(j:Int)/\j<2:=⟨(nh/20%2).toNat,by(first|lia|omega),by(first|lia|omega)⟩;k_in;show Jp (λσ' H'=>(EH λ(gg7:Nat->CI)(gk7:Nat->DI)(f:List AD)=>IL (σ'=[AA (.ref a),AA (.ref lp),AA (.ref hh),AA (.ref ha),AA (.ref S),AA (.ref lh),AA (.int W),AA (.int (15+(i:Int)*2)),AA (.ref q),AA (.ref lk),AA (.str y),AA (.int nh)]) (F9 AM M C H2 H' ha S lh zs3 c4 z sd6 gg7 gk7 kvs6 f (i+1)) (Ge H' q Y) (f.length<=2*i+1))) ?_ ?_;. show⟨(zzd rfl),(zzp rfl),rfl,_,rfl,EA (λ_=>?_) λ_=>Ds ⟨_,_,hs,rfl,w6,ev6,by(first|lia|omega)⟩⟩;show⟨(zzd rfl),(zzp rfl),_,_,AW w6.lb.eh,by rw[ej1];show Je hj1,w6.yo F L i1 (by(first|lia|omega)) hj1 AG λH7 gg7 gk7 v7 tp7 w7=>⟨_,rfl,Ds ⟨gg7,gk7,hs++[v7],rfl,w7,tp7 _ _ ev6,by rw[B8];change hs.length+1<=_;(first|lia|omega)⟩⟩⟩
      intro σ7 H7 hI;obtain⟨gg7,gk7,f,rfl,w7,ev7,lh7⟩:_:=hI;clear w6 ev6;show⟨(zzp rfl),rfl,_,rfl,EA (λ_=>?_) λ_=>⟨W,_,_,_,_,_,zs3,c4,sd6,gg7,gk7,kvs6,f,rfl,w7,lz3,by(first|lia|omega),n0,n1⟩⟩;have te:0<=Y.1/\Y.1<=1000000000:=te1;have bn:0<=(if Y.1-nh/4%5>W then Y.1-nh/4%5 else W)/\(if Y.1-nh/4%5>W then Y.1-nh/4%5 else W)<=1000000000:=by split<;>(first|lia|omega)
      show⟨_,_,Ao ev7,Aj (j:=0) rfl,(zzd rfl),(zzp rfl),?_⟩;showλ_ _ _ _ z11=>⟨(zzd rfl),(zzp rfl),_,_,AW w7.lb.eh,by rw[ej2];show Je hj2,w7.xh F L i1 hj2 _ λH8 sd8 gk8 w8=>⟨_,rfl,Ds (z11 _ _ ?_)⟩⟩;show⟨(zzd rfl),(zzp rfl),_,_,AW w8.lb.eh,by rw[ej1];show Je hj1,w8.yo F L i1 (by(first|lia|omega)) hj1 (AA _) λH9 gg9 gk9 v9 _ w9=>⟨_,rfl,Ds ⟨_,_,_,_,_,_,zs3,c4,sd8,gg9,gk9,kvs6,f++[v9],rfl,w9,lz3,by rw[B8];change f.length+1<=_;(first|lia|omega),bn.1,bn.2⟩⟩⟩
    . intro σ1 H1 hI;obtain⟨W,o7,o8,o9,o10,o11,zs,c,sd,gg,gk,g,hs,rfl,w1,lz,lhs,n0,n1⟩:_:=hI;show z8 _ _ ?_;have L:zs.length<=600:=by(first|lia|omega)
      showλ_ _ _ _ z12=>⟨_,_,AW w1.lb.eh,Aj (j:=0) rfl,w1.yo F L hn (by(first|lia|omega)) (by decide:0<2) AG λH3 gg3 gk3 v3 _ w3=>⟨_,rfl,Ds ⟨_,_,AW w3.lb.eh,Aj (j:=1) rfl,w3.yo F L hn (by rw[B8];change hs.length+1<=_;(first|lia|omega)) (by decide:1<2) AG λH5 gg5 gk5 v5 _ w5=>⟨_,rfl,Ds (z12 _ _ ?_)⟩⟩⟩⟩;have l5:(hs++[v3]++[v5]).length<=Ay:=by rw[B8,B8];change hs.length+1+1<=_;(first|lia|omega)
      generalize hs++[v3]++[v5]=hs5 at w5 l5;clear w1 w3 z12;show⟨lh,rfl,⟨_,AW w5.eh⟩,rW (K:=AH) (xs:=hs5) (λ_=>AR) (λx=>x) (AW w5.eh) l5 (λx R hx rr=>?_) (λx R hx h=>by cases h) λD hD=>?_⟩
      . obtain⟨q,r,r',xs,xs',qs,rfl,Y,e2,e3,p1,p2,_,_,as⟩:_:=w5.hw x hx;show⟨_,_,Ao Y,Aj (j:=0) rfl,_,_,Ao Y,Aj (j:=1) rfl,M9 (.lst (AW e2) (To (RB p1))) (.lst (AW e3) (To (RB p2))) (Xr F.uc as (.inr rfl)) ⟨_,rfl,rr⟩⟩
      rw[show(hs5.filter λ_=>AR).map (λx=>x)=[]from by rw[IB.mpr λ_ _ h=>by cases h];rfl];show BA hD λH7 g7 eD=>⟨_,.inl (AW eD),?_⟩;have w7:=w5.af F g7;have dv7:DZ AH H7 (.ref lp) (.list (M.map λs=>Ez s.vd)):=.lst (AW (w7.g _ _ F.abf)) (YL (F.pr.ab w7.g.tp));have one:∀k,k<2->Uq AH H7 (AC4 "plan") (.ref (C k).x) (.ref (C k).lp)/\DZ AH H7 (.ref (C k).lp) (.list (M.map λs=>Ez s.vd)):=λk G=>by obtain⟨dx,ex⟩:=(w7.lb.tb.cw k G).cg;show⟨⟨ex,T.ah,T.ku,rfl⟩,.lst (AW (w7.lb.tb.cw k G).qm) (YL (w7.lb.tb.cw k G).si)⟩
      lk;obtain⟨f0,d0⟩:=one 0 (by decide);obtain⟨f1,d1⟩:=one 1 (by decide);k_in;show⟨_,rfl,Ds ?_⟩;show⟨_,_,AW w7.lb.eh,Aj (j:=0) rfl,_,f0,RT rfl d0 dv7 (YM F.uc) ⟨AJ,rfl,Jq ⟨_,_,AW w7.lb.eh,Aj (j:=1) rfl,_,f1,RT rfl d1 dv7 (YM F.uc) (k _)⟩⟩⟩
theorem gS{l:Ss}{K:Ax}(U:D "law"=AA (.ref V))(T:BQ K D ⟨Y,J,Z,A,B,C,E,F,G⟩):∃W:Im,(∀(s:AZ)(v:AL),So s W ⟨[v],[]⟩ [("_law_script",v)])/\∀base:Bb,K.In base->base.Ns Li D->Gy l.prog w K D base BM O4 V W ["_law_script"] (Nu K):=by have e:=U.symm.trans T.abp;cases e;obtain⟨_,_,_,_,_,_,_,_,_,e,_,_⟩:=T.zy.ex;show⟨J,λs v=>by have e:J=_:=e;rw[e];show .of_eq rfl,λbase _ _=>ABD λn=>?_⟩;have h:=Wg (p:=λx:TQ=>BQ x.K x.mg x.ad/\¬∀(P:Ce)(w:CA)(base:Bb),Gy P w x.K x.mg base BM O4 x.ad.vn x.ad.ya ["_law_script"] (Nu x.K)) ⟨⟨K,D,⟨Y,J,Z,A,B,C,E,F,G⟩⟩,T,λh=>n (h _ _ _)⟩;show h.2 λP w base=>kQ h.1
end
noncomputable def PySem.W.Fast:=()where
 tw11140489577121144999:=()
 tw8679117791615038482:=()
 tw6650359431032383196:=()
 tw10618534240370172159:=()
 tw8272886887152831841:=()
 tw15597307592489773685:=()
 tw8997329397368291010:=()
 tw11195792021457615167:=()
 tw14495934582297088288:=()
 tw11715799421246249026:=()
 tw8862509932340193250:=()
 tw16790297830236968059:=()
 tw18170980008681952406:=()
 tw4420562671010672180:=()
 tw16343272430353093082:=()
 tw4095699478620967470:=()
 tw4066161616791550367:=()
 tw3510958146407921003:=()
 tw11957137401029011951:=()
 tw1761052489826586920:=()
 tw4929428111041230013:=()
 tw16520417673849065130:=()
 tw6917397820291533264:=()
 tw17110883235904412155:=()
 tw3517687848278028705:=()
 tw3473022562782680584:=()
 tw14203305271745135070:=()
 tw6382663085933262429:=()
 tw9296238611726300370:=()
 tw2742000722996222846:=()
 tw11195807087332660028:=()
 tw6723738052173050849:=()
 tw10101304184921628603:=()
 tw5616547366912949743:=()
 tw17538888039754828208:=()
 tw2830359780917560511:=()
 tw12654007852488992632:=()
 tw491914873273170080:=()
 tw1112793045205911303:=()
 tw15554891624476583990:=()
 tw15905619292165579624:=()
 tw11136892118546423134:=()
 tw13309408806964581627:=()
 tw13852192154056745205:=()
 tw8789542785925633796:=()
 tw9286232263195688555:=()
 tw14485066273668494578:=()
 tw846316328527667181:=()
 tw15350103853354347926:=()
 tw10127078043238517780:=()
 tw11061471361068440825:=()
 tw11470804933859504824:=()
 tw14464469068782607770:=()
 tw3604763538894583201:=()
 tw18443033290398642675:=()
 tw14409458981532807640:=()
 tw11207508884978825654:=()
 tw3114544794084004512:=()
 tw1394396991288424663:=()
 tw5572158645142462964:=()
 tw11204715420027329908:=()
 tw4879745677224792297:=()
 tw4585249020567875135:=()
 tw7353421802307255226:=()
 tw7945357134603553162:=()
 tw8172274327045285392:=()
 tw15197880664838927744:=()
 tw2303490293896757325:=()
 tw14385879130607362283:=()
 tw15767918643720660975:=()
 tw6852132973153337084:=()
 tw921252299529227226:=()
 tw12979590407188787926:=()
 tw2569429991560626975:=()
 tw3917361306407445737:=()
 tw7871142174118705891:=()
 tw17515487000624845960:=()
 tw9323241454031295805:=()
 tw18261859340614122963:=()
 tw21607149109541233:=()
 tw5654599038936393016:=()
 tw1484513103669780615:=()
 tw12941117142500265767:=()
 tw2509694626271761285:=()
 tw8997906080272003836:=()
 tw1257636764100924043:=()
 tw10385342170824839770:=()
 tw9254900920448670952:=()
 tw16714587176843274144:=()
 tw14464695216146028161:=()
 tw11252436888154993629:=()
 tw4966982523668575471:=()
 tw2029841322040418504:=()
 tw17698294131684842238:=()
 tw163266138486715140:=()
 tw2863427925017336318:=()
 tw15544858031228014204:=()
 tw5183638323382703261:=()
 tw7274841082661856312:=()
 tw2587144022713546180:=()
 tw12517127218548381909:=()
 tw11671202752195010942:=()
 tw9093307494680688946:=()
 tw1015013771256251596:=()
 tw7461873804607001147:=()
 tw11505950710630484862:=()
 tw9886165906847899803:=()
 tw9308185354114044822:=()
 tw3541398249913221338:=()
 tw4393387326834618549:=()
 tw17500858159814722783:=()
 tw14770736266887375381:=()
 tw441709926353877333:=()
 tw14425920603760133919:=()
 tw17325222706129451562:=()
 tw7381486881832181027:=()
 tw6248007945091967950:=()
 tw17039489878393655066:=()
 tw18007348316174695201:=()
 tw10201888235219634315:=()
 tw2206608018076369100:=()
 tw10925909474487156204:=()
 tw7848323882377112410:=()
 tw15073824842677861971:=()
 tw6173382152523947078:=()
 tw132098974534827402:=()
 tw13787303224688531703:=()
 tw14064625940809334616:=()
 tw17212432561381929560:=()
 tw11104609511814714722:=()
 tw15717365543018610636:=()
 tw17443876675608768744:=()
 tw6408456785878059123:=()
 tw15019584886978300353:=()
 tw9277735179557276694:=()
 tw10664775917743304055:=()
 tw1949319977046286506:=()
 tw11488292630341028783:=()
 tw10902283678297218518:=()
 tw6558367067715206877:=()
 tw8511775678057152587:=()
 tw8879958153545283656:=()
 tw7712836914292055422:=()
 tw18251396228490983353:=()
 tw9787175798400131068:=()
 tw15335339449221589531:=()
 tw88192166549886070:=()
 tw17743387723277312095:=()
 tw17039386006505463876:=()
 tw7007211142697470378:=()
 tw17310420622121257183:=()
 tw11161349484298939548:=()
 tw7309541096163961434:=()
 tw11091982171629812947:=()
 tw1435905686437878033:=()
 tw15340974961859572954:=()
 tw7470356517518500363:=()
 tw6068912954322882274:=()
 tw15342309929041393197:=()
 tw1400786475291961389:=()
 tw11583070230336381426:=()
 tw16366653244351062314:=()
 tw11645653233779678047:=()
 tw16443458949578315887:=()
 tw4880658549979952844:=()
 tw86853701066977555:=()
 tw5803458177957073597:=()
 tw7491369068671069960:=()
 tw1284164238323917704:=()
 tw15188878068768303374:=()
 tw10154447643944837601:=()
 tw14522080553615194275:=()
 tw11195254312021513062:=()
 tw10138825685879067885:=()
 tw2007031467580612483:=()
 tw13819879030817628916:=()
 tw17634100144503507801:=()
 tw11126956172973391698:=()
 tw8405594659543014039:=()
 tw11642545854539450342:=()
 tw15193227296135256716:=()
 tw8892235332026132155:=()
 tw3415975161617658140:=()
 tw12674120122610387003:=()
 tw7255889029176451031:=()
 tw4224137793815428446:=()
 tw3396448037860938377:=()
 tw16937619702904707814:=()
 tw7367166913553489774:=()
 tw964706736664914677:=()
 tw16401900384498111731:=()
 tw9133289120422587355:=()
 tw18125021827727383973:=()
 tw1303115926902771680:=()
 tw8210017990126401389:=()
 tw12661955286521530435:=()
 tw10468840867550333067:=()
 tw5015727351171111548:=()
 tw11804831630680458380:=()
 tw471745903498458927:=()
 tw3240188260719144254:=()
 tw9650215834679421190:=()
 tw16239932221823369748:=()
 tw13781975489069327429:=()
 tw13337796044242157553:=()
 tw3836413077194821733:=()
 tw12374258521384347669:=()
 tw6540924727599176170:=()
 tw3069191484774671491:=()
 tw11993195417238340234:=()
 tw6188805947454947743:=()
 tw2445225303787707381:=()
 tw9002907743608763777:=()
 tw5988170484910985670:=()
 tw16639135283507887267:=()
 tw6842325894055423157:=()
 tw10635700240925191920:=()
 tw862409120387707806:=()
 tw15846943488680572435:=()
 tw15569679748161095823:=()
 tw18027925415112968812:=()
 tw12529470678151942950:=()
 tw1268454145090996236:=()
 tw2719491677014569267:=()
 tw7067884785648573347:=()
 tw8645880491062232716:=()
 tw15631073810166015588:=()
 tw14099104229117454082:=()
 tw9988363224681262109:=()
 tw16572493585207120300:=()
 tw11527591978264554852:=()
 tw15424176067536018377:=()
 tw461289293362513771:=()
 tw6773952643513687443:=()
 tw11624490180903014942:=()
 tw14373120081693372774:=()
 tw16025430959822820865:=()
 tw5007391469562795908:=()
 tw15751657127657552429:=()
 tw3814850269768137983:=()
 tw5797147053790224557:=()
 tw11092112960581828995:=()
 tw8286398531133363535:=()
 tw12074233680330176883:=()
 tw13927721517957510878:=()
 tw4724115596724865981:=()
 tw10517766827263263621:=()
 tw5365782710008108029:=()
 tw3599614577255724440:=()
 tw4868260878436331590:=()
 tw12639442688538554602:=()
 tw12628074189150973728:=()
 tw14507000348716047244:=()
 tw3863061101507074052:=()
 tw6956632218074178094:=()
 tw17217378224380320299:=()
 tw1273919601962058174:=()
 tw836508145781004029:=()
 tw5171425924778498638:=()
 tw8156263603544499571:=()
 tw11501709364644152494:=()
 tw11623693703988935502:=()
 tw6765813802620623161:=()
 tw17990786564835568278:=()
 tw594426992023602519:=()
 tw3585444162629422837:=()
 tw13958196827366971155:=()
 tw17851354391016062338:=()
 tw7853270198027777767:=()
 tw3747127517385433356:=()
 tw14548404136894821770:=()
 tw16041584401451884731:=()
 tw9538860294433671751:=()
 tw15441408110276490519:=()
 tw2097318215374327086:=()
 tw9928642892155262090:=()
 tw12368788008297141595:=()
 tw11887109351904346314:=()
 tw15034822290625110138:=()
 tw11815922760433977930:=()
 tw15525446695605299916:=()
 tw1561774797446385360:=()
 tw7743343898904331537:=()
 tw7458415405354451039:=()
 tw6944120823893780906:=()
 tw13707265601262777797:=()
 tw7487370482245317328:=()
 tw16563921896692604452:=()
 tw13555777478036853557:=()
 tw13411056616669790848:=()
 tw11327318144363159896:=()
 tw12571106915627967754:=()
 tw3956687260229981494:=()
 tw5741083504464752894:=()
 tw13711348576105128832:=()
 tw12886688723218901746:=()
 tw6260091670682892304:=()
 tw17280183227467183600:=()
 tw1251447971288667859:=()
 tw11384566450298545394:=()
 tw2718398593960863252:=()
 tw6333552678481638021:=()
 tw6918594784491429616:=()
 tw14401538424857675629:=()
 tw8335703271794332860:=()
 tw981226575197410218:=()
 tw16536567979989095465:=()
open PySem PySem.W PyProof.Rows
set_option maxRecDepth 100000 in
set_option maxHeartbeats 0 in
theorem PySem.Challenge.cw_brooktally_k33_a_key_given_up_holds : PySem.Challenge.rw_brooktally_k33_a_key_given_up.Holds := by
  w_on; o_law; k_head; (case hw => w_witness2)
  k_fill
  refine yF (l := ACX) (n := 63) (k := O4) (x := "_law_script") (CX := BM) (sp := Nu) rfl (by decide) rfl ⟨rfl, by decide, by decide⟩ (fun w h Y => W.kIn_of Y) ?F iY (fun _ _ _ _ z => z)
  case F =>
    intro w mg fa h KX G hmg
    refine' gS hmg ?T
    case' T => constructor
    all_goals try dsimp only
    all_goals first
      | (refine' AAS KX G ?_; k_is)
      | (refine' W.mg_none_of KX G ?_; k_is)
      | (refine' jE KX G ?_; any_goals k_is)
      | (refine' ⟨?_, ?_, ?_, ?_⟩ <;> k_is)
      | (first
          | refine' Tn ⟨AAS KX G ?_, ?_⟩ ?_ ?_ ?_ SO ?_
          | refine' Tn ⟨?_, ?_, ?_⟩ ?_ ?_ ?_ SO ?_
          | refine' Tn ⟨?_, ?_, ?_, ?_⟩ ?_ ?_ ?_ SO ?_); (any_goals k_is); intro _ _ _ _ _ _ us hl; first | (obtain ⟨_, rfl⟩ := qE hl; rfl) | (obtain ⟨_, _, rfl⟩ := qF hl; rfl) | (obtain ⟨_, _, _, rfl⟩ := qG hl; rfl) | (obtain ⟨_, _, _, _, rfl⟩ := qH hl; rfl) | (obtain ⟨_, _, _, _, _, rfl⟩ := qI hl; rfl)
      | k_is
      | (refine' VA ?_ ?_ ?_; any_goals k_is)
      | k_exc
      | kit_is
      | kts_exm
      | (refine' iB ?_ ?_ ?_ ?_ ?_ ?_; any_goals k_is)
      | (refine' jS ?_; any_goals k_is)
      | (refine' pK ?_ ?_ ?_; (any_goals k_is); (first | decide | exact (by decide : 2 ≤ sizeLine) | exact (by decide : 4 ≤ sizeLine)); repeat (first | exact .nil | refine .cons ?_ ?_ | exact ⟨_, rfl⟩ | rfl))
      | (unfold Hr; k_is)
      | skip
