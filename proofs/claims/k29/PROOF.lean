import PyProof.Rows.All
import Wide.All
import OpenK.AllK
import Wide.FinOn
import Lean
import PyProof.EqAt
import PyProof.EqKinds
import PyProof.TupleCall
import PySem.Challenge.RW_brooktally_k29_rows_by_sets
set_option Elab.async false
set_option linter.all false
set_option maxRecDepth 100000
set_option maxHeartbeats 4000000
open PySem PySem.Spec PyProof.Rows
open _root_.Array renaming getElem?_eq_getElem->Gp,length_toList->JE,getElem?_toList->Ju,getElem?_eq_none->Lr,perm_iff_toList_perm->Pm,toList_append->TZ,toList_extract->ZN,toList_push->ZO,getElem?_extract->u6,getElem?_push->u7,toArray_toList->u9,toList->vA,toList_map->vB,toList_setIfInBounds->vC
open _root_.Array.Perm renaming refl->u0
open _root_.Bool renaming true->AF,false->AO,false_ne_true->C6,noConfusion->GH,and_eq_true->JF,eq_iff_iff->Lu,false_and->Lv,true_and->NW,false_eq_true->Pn,and_eq_true_iff->ZT,and_false->ZU,not_eq_true->vD,or_false->vE
open _root_.Classical renaming byContradiction->AB
open _root_.Decidable renaming decide->AZ
open _root_.Except renaming ok->HD,error->IJ
open _root_.False renaming elim->Ek
open _root_.ForIn renaming forIn->GI
open _root_.ForInStep renaming yield->Po
open _root_.Function renaming comp_def->vF
open _root_.Iff renaming rfl->NX
open _root_.Int renaming emod_nonneg->DR,emod_lt_of_pos->EM,le_refl->Jv,add_mul->NY,zero_add->NZ,ediv_nonneg->Pp,ediv_mul_le->Td,emod_eq_of_lt->Te,mul_emod_left->Tf,mul_nonneg->Ti,toNat_natCast->Tj,toNat_of_nonneg->Tn,lt_trichotomy->Zb,one_mul->Zc,ediv_le_self->vG,ediv_lt_of_lt_mul->vH,eq_ofNat_of_zero_le->vI,le_antisymm->vJ,lt_ediv_add_one_mul_self->vK,lt_irrefl->vL,natCast_add->vM,ofNat_inj->vN,sub_emod->vO
open _root_.LawfulBEq renaming eq_of_beq->O1
open _root_.List renaming length_map->Am,mem_map->BH,getElem?_map->BV,getElem?_eq_some_iff->Bh,mem_singleton->Bl,map_append->Bx,mem_cons->B7,getElem?_eq_getElem->B8,mem_of_getElem?->B9,mem_append->CT,length_append->CY,map_map->Cb,take_of_length_le->Cn,map_cons->Cu,take_add_one->DD,size_toArray->DQ,mem_filter->DX,range->DY,mem_cons_self->D6,not_mem_nil->EH,mem_append_right->ET,append_nil->Eg,length_take->Eh,cons->Et,nil->Eu,mem_cons_of_mem->E5,length_cons->FT,mem_append_left->Fs,append_assoc->F7,mem_iff_getElem->F8,pairwise_map->F9,length_filter_le->Gd,mem_iff_getElem?->HW,length_singleton->Hx,length_nil->Jd,pairwise_iff_getElem->Je,zip->Jf,filter_cons->KP,length->KQ,map_congr_left->KR,any_eq_true->LX,getElem?_append_right->LY,length_drop->LZ,pairwise_append->La,cons_append->Mt,filter_append->Mu,getD_eq_getElem?_getD->Mv,getElem?_zip_eq_some->Mw,getElem_mem->Mx,length_range->My,lookup->Mz,mem_range->M0,nodup_cons->M1,replicate->M3,take->M4,find?_cons->O2,flatMap_cons->O3,getElem?_append_left->O4,nodup_append->O5,all_eq_true->SN,any_cons->SO,extract_eq_take_drop->SQ,filterMap_cons->SR,getElem?_toArray->SS,getElem_inj->SU,map_id->SW,map_nil->SX,map_snd_zip->SY,take_append_drop->Sa,filter_filter->Xs,filter_sublist->Xt,getElem?_eq_none->Xu,getElem_map->Xv,length_eq_zero_iff->Xw,mem_filterMap->Xx,mem_flatMap->Xy,mem_of_mem_drop->Xz,nil_append->X0,pairwise_cons->X1,perm_append_comm->X2,reverse_cons->X3,sum_cons->X4,all_map->pE,drop->pF,drop_drop->pG,drop_eq_getElem_cons->pH,filter_map->pI,length_pos_iff->pJ,length_zip->pK,map_id'->pO,map_take->pP,mem_of_mem_take->pQ,ne_nil_of_mem->pR,of_mem_zip->pS,pairwise_reverse->pT,range_succ->pU,Perm->vP,all_cons->vR,drop_of_length_le->vS,drop_zero->vT,ext_getElem?->vU,filterMap_map->vV,filter_congr->vW,filter_cons_of_neg->vX,filter_cons_of_pos->vY,find?_some->vZ,flatMap_append->v7,getElem?_range->v8,getElem?_replicate->v9,getElem?_set_ne->wA,getElem?_set_self->wB,getElem?_take_of_lt->wC,getElem_take->wD,length_eraseIdx->wF,length_pos_of_mem->wG,length_replicate->wH,map_drop->wI,mem_reverse->wJ,pairwise_lt_range->wL,pairwise_singleton->wM,reverse_perm->wN,take_add->wO,zipIdx_cons->wQ,zip_cons_cons->wR
open _root_.List.Pairwise renaming filterMap->AAm,nil->AAn
open _root_.List.Perm renaming swap->Xq,trans->Xr,append_left->pD,of_eq->vQ,append_right->AAo
open _root_.List.cons renaming inj->D5
open _root_.Min renaming min->Dd
open _root_.Nat renaming le_refl->Af,zero_le->Bd,ne_of_lt->Cv,le_trans->DE,lt_of_lt_of_le->EI,lt_irrefl->E6,le_of_eq->Jg,lt_succ_of_lt->Jh,lt_succ_self->KS,le_of_lt->M5,le_succ->M6,add_zero->Sb,ne_of_gt->Se,not_lt_zero->Sf,sub_self->Sg,lt_or_ge->X5,lt_trichotomy->X6,lt_trans->pV,le_of_not_lt->wU,lt_succ_iff_lt_or_eq->wV,min_eq_left->wW,mod_lt->wX,mul_le_mul->wY,pos_of_ne_zero->wZ,strongRecOn->w5,sub_zero->w6
open _root_.Ne renaming symm->HX
open _root_.Option renaming some->AA,none->AD,map_eq_some_iff->Co,map_some->X7,isSome_iff_exists->pW,getD_none->w9
open _root_.Option.some renaming inj->De,injEq->xA
open _root_.Or renaming inl->O6
open _root_.Prod renaming ext->Sh,snd->X8
open _root_.Prod.mk renaming inj->pZ
open _root_.Pure renaming pure->BB
open _root_.PyProof renaming noPylong_small->xW
open _root_.PyProof.Rows renaming arrOf->Ai,Keyed->A4,wpS_bind->A5,wpS_pure->BG,pendingOf->BZ,SortSt->CU,wpS->Dq,envOfC->FU,seqObj->FV,wpS_forRange->GA,wpS_mono->Ge,pairsOf->G7,wpS_modify->HY,boot_isinstance->Iq,AllBare->Ji,boot_list->Jj,ltAt'->Jk,wpS_get->Jl,boot_min->KU,reverseSlice'->KW,boot_max->Lc,failedOf->M7,setArr->M8,wpS_lift->M9,IntsAre->O7,SortKind->O8,callWith_type1->O9,IsTup->Si,KeyOrd->Sk,boot_sorted->Sl,elem'->Sm,mirror->Sn,kindOf->YA,mem_zip_self->YB,pairsOf_toList->YC,setPending->YD,slot_tuple_getitem->YE,sortedHeap->YF,Subscript_->qA,args_sorted1->qB,assignInOrder_cons->qC,boot_int->qE,boot_tuple->qF,elem'_eq->qG,entry_list_sort->qH,entry_sorted->qI,join_plain_closes->qJ,keyKind'->qK,kind_sorted->qL,listUpdate_at->qM,lt_int->qN,plain_sorted->qO,seqEpoch_at->qP,slot_list_sort->qQ,subscriptTail->qR,args_list_sort->xC,assignInOrder_nil->xD,boot_bool->xE,boot_str->xF,boot_sum->xH,callWith_builtin1->xI,eqGives_str->xJ,getElem?_bubble->xK,getElem?_mirror_all->xM,isTrue_plain->xN,keyLt'_oneType->xO,lt_str->xP,pairsOf_size->xQ,reverseSlice'_eq->xR,slicePart_none->xS,sortedHeap_at->xT,sortedHeap_old->xU,subscriptTail_builtinR->xV,boot_set->AAq,join_nil_cons->AAr
open _root_.PyProof.Rows.F renaming entry_set_update_loop->xB,plain_set_update_loop->AAp
open _root_.PyProof.Rows.IsTup renaming new->Sj
open _root_.PyProof.Rows.KeyOrd renaming kle_trans->Ft,kle_of_klt->Ip,kle_refl->Lb
open _root_.PyProof.Rows.SortSt renaming mk'->X9
open _root_.PySem renaming Addr->AI,Str->AJ,Value->AK,Shared->AU,wpAny_bind->AX,wpAny->Aa,model->Ab,sizeLine->An,FuncData->Au,wpAny_pure->Aw,Heap->A3,Obj->A8,Expr->BD,mainGlobals->BI,Stmt->BM,Paired->Bm,World->Bn,eval->Bo,starEach->Bz,Program->CZ,Pos->Ce,Around->Cj,Sem->Cs,Env->DK,sizeLine_eq->Dg,Scope->Du,lookup_relabel_local->D8,compareOp->EJ,wpAny_mono->EK,backTo->EV,cLine->E8,binaryOp->FX,valueAt->Fv,scanBound->Gh,Tok->G9,call->HA,wpAny_rule->HB,Model->IB,SetTable->IC,boot_len->ID,codeAny->IE,rawInt->IF,sysModules->IG,PyData->Iv,foldedSetIterable->JA,swapsWith->JB,NameKind->Jn,codeAny_mono->Jr,wpAny_call_entry->Js,wpAny_holding->Jt,IsPart->KZ,atKey->Kg,codeAny_builtin->Kh,wpAny_newObj_type->Ki,Keyword->Le,bindC->Lh,bindL->Li,callerA->Lj,getItem->Lk,sliceBounds->Ll,wpAny_Call_Name_kw->Lm,wpAny_truthy_bool->Ln,isTrue->NF,mem_of_lookup->NG,pyIter->NH,pyNext->NI,stored->NJ,wpAny_passesOwn->NK,BindsTo->PB,attributeBase->PK,bootBuiltins->PL,pickOrder->PM,relayAll->PN,setNext->PR,tupleKind->PU,wpAny_askSetting->PV,wpAny_execs_nil->PX,wpAny_setField->PY,wpAny_setState_of->PZ,CmpOp->So,assignEach->Sz,backToKw->S0,fits_of_scanBound->S1,keywordEach->S5,plainId_quiet->TB,wpAny_attempt->TC,wpAny_call->TF,wpAny_callSpecial?_slot->TH,wpAny_setEntries_of->TJ,Params->YN,Result->YO,argsOk->YZ,behindInMarks->Ya,bindName->Yb,call_meets->Yc,holding->Yd,leaving->Ye,letOwnedTupleGo->Yf,noteFrame->Yg,numAt_eq->Yh,setFlight->Yi,slicePick->Yj,standAt->Yk,subscripted->Yl,truthy->Ym,unsupported->Yn,wpAny_fieldsOf->Yo,wpAny_newList->Yp,wpAny_runValue->Yq,DictEntry->qX,ItemsOf->rG,Within->r6,assignInOrder->r9,builtinsNs->sE,call_meetsIn->sF,cellsFrom->sG,closureFor->sH,codeAny_of_tree->sI,collect->sJ,concat_meets->sL,entryFor->sN,getAttr->sO,getMethod->sP,noFill_tuple_add->sQ,nums_intItems->sR,operate->sS,seq_tuple_add->sU,setField->sV,slot_list_getitem->sW,tupleKind_room_in1->sX,typeIs_str->sY,unaryOp->sZ,wpAny_Name->tD,wpAny_execs_cons->tE,wpAny_field->tF,wpAny_load->tG,wpAny_standAt->tH,wpAny_typeOf->tI,call_list_seq->AAE,check_set_init_1->AAF,codeAny_call_builtin->AAG,dictSetDefault->AAH,entryFor_alias->AAI,evalPart_none->AAK,findBy_of_findIdx?->AAL,frameOf->AAM,intBits_le_64->AAN,list_append->AAO,recursionLimit->AAP,richCompare_meets_room->AAQ,signature?_of->AAS,weight_type_call_type->AAT,wpAny_Assign_Subscript->AAU,wpAny_Call_method->AAV,wpAny_Expr_any->AAW,wpAny_assign_Name->AAX,wpAny_bindName->AAY,wpAny_forIn_list->AAZ,wpAny_getItem_list_slice->AAa,wpAny_isInstance->AAb,wpAny_newTuple->AAc,wpAny_pyIter_enum->AAd,wpAny_pyIter_list->AAe,wpAny_pyIter_slot->AAf,wpAny_pyIter_tuple->AAg,wpAny_seqItems->AAh,wpAny_setEpoch_of->AAi,wpAny_specialOf->AAj,wpAny_storeSet_of->AAk,wpAny_updateSeq->AAl
open _root_.PySem.Around renaming under_plain->xX,under_plainId->xY
open _root_.PySem.Builtin.Frozenset renaming updateFrom->xZ,newClass->AAs
open _root_.PySem.Builtin.List renaming listTooLong->qS,listExtendWith->x5,listSameRef->x6,listLengthHint->AAt
open _root_.PySem.Builtin.Range renaming rangeSize->qT,small->x8,rangeFitsLong->AAu
open _root_.PySem.Builtin.Slice renaming slicePlaces->YG,sliceAdjust->qU,sliceApplied->x9,sliceFields->AAv,slicePartIndex->AAw
open _root_.PySem.Builtin.Str renaming occurrences->yA
open _root_.PySem.Builtin.Tuple renaming tupleCompareSizes->AAx,tupleExact->AAy,tupleItemsOf->AAz
open _root_.PySem.Calls renaming spliced_cons->Jm,spliced_nil->Ld,evalArgs_plain->YH,callWith_builtin->qV,call_function_entry->qW,Name_function_global->yB
open _root_.PySem.Challenge renaming rw_brooktally_k29_rows_by_sets->yC,pw_brooktally_k29_rows_by_sets->AA0
open _root_.PySem.Code renaming quiet_builtin->yD
open _root_.PySem.DictEntry renaming refKey->AA1
open _root_.PySem.EntryCells renaming newEntry->qY
open _root_.PySem.EqMixed renaming eq_bool_str->AA2,eq_int_str->AA3,eq_str_bool->AA4,eq_str_int->AA5,ne_bool_str->AA6,ne_int_str->AA7,ne_str_bool->AA8,ne_str_int->AA9
open _root_.PySem.EqNone renaming eq_bool_none->ABA,eq_int_none->ABB,eq_none_bool->ABC,eq_none_int->ABD,eq_none_none->ABE,eq_none_str->ABF,eq_str_none->ABG,ne_bool_none->ABH,ne_int_none->ABI,ne_none_bool->ABJ,ne_none_int->ABK,ne_none_none->ABL,ne_none_str->ABM,ne_str_none->ABN
open _root_.PySem.F renaming called_set->GB,plainAttrs_list->YI,slot_list_extend->YJ,args_tuple_add_2->qZ,entry_tuple_add->q9,plain_list_iadd->rA,slot_dict_get->rB,slot_list_append->rC,slot_tuple_add->rD,type_list_extend->rE,args_dict_get_3->yE,args_list_append_2->yF,entry_dict_get->yG,entry_list_append->yH,entry_list_iadd->yI,entry_proto_collect->yJ,entry_set_init->yK,entry_tuple_lt->yL,entry_type_call->yM,excBase_ValueError->yN,plainAttrs_dict->yO,slot_dict_setdefault->yP,slot_set_iter->yQ,slot_tuple_index->yR,slot_tuple_lt->yS,typeCall_set_1->yT
open _root_.PySem.Flow renaming ret->Fu,next->G8,brk->Hy,cont->Hz
open _root_.PySem.Heap renaming get?_push_of_some->Bi,lt_size->Br,get?_push_size->Df,size_push->Gf,FlyingW->IA,SameBut->Ir,get?_update_other->PC,get?_update_self->PD,HeldW->rF,ExtBut->yU,get?_some_iff->yW,get?_update_ne->yX
open _root_.PySem.Heap.DictOf renaming new->ABO
open _root_.PySem.Heap.IsSliceOf renaming new->yV
open _root_.PySem.Heap.SameBut renaming update->KY,refl->ABP
open _root_.PySem.IsL renaming update->yY
open _root_.PySem.IsRange renaming new->yZ
open _root_.PySem.MeetsSeq.EqGives renaming int->ABQ
open _root_.PySem.NameKind renaming free->Ka,cell->YK
open _root_.PySem.Obj renaming mapSeq->Iu,data_mapFields->YL,mapFields->YM,putSet->rH,cls_mapFields->y4,data_mapDictKeys->y6,isFreed_of_fields->y7
open _root_.PySem.Paired renaming cons->Bu,nil->E7,length->Jo,snoc->y8
open _root_.PySem.PassesOwn renaming never->Dr,leaving->ABR
open _root_.PySem.PyData renaming int->GC,canLay0->Iw,strOk->Iy,depth->Jp,canLayAll0->Kb,depthAll->Kc,eqv->NA,eqvAll->NB
open _root_.PySem.SeqAt renaming shaped->HZ,EqAt->YQ,canLay_of_shaped->rJ,eqAt_reads->zC,notIn_listAt->zD,eqv_refl->ABh
open _root_.PySem.SeqAt.EqAt renaming int_str->y9,same->zA,str_int->zB,bool_bool->ABS,bool_int->ABT,bool_none->ABU,bool_str->ABV,int_bool->ABW,int_int->ABX,int_none->ABY,none_bool->ABZ,none_int->ABa,none_str->ABb,str_bool->ABc,str_none->ABd,str_str->ABe
open _root_.PySem.SeqAt.RcNeAt renaming lists->ABf,lists_lengths->ABg
open _root_.PySem.SetTable renaming below->Hc,grown->PF,fits->rK,insertAt->rL,Probe->zE
open _root_.PySem.SetTable.below renaming go->Sq
open _root_.PySem.SetTable.probe renaming go->zF
open _root_.PySem.Shared renaming TypeIs->zG
open _root_.PySem.Str renaming length_append->Ke,join->Sr,empty->zH,length->zI
open _root_.PySem.StrLaws renaming sliceText->rM,sliceText_to->zJ
open _root_.PySem.Txt renaming slice->FW,join->YR
open _root_.PySem.Value renaming ref->C8,type->Hd,none->NC,bool->Ss,int->Su,str->Sv,float->rN,bytes->zK,isInt->zL,isStrOf->zM
open _root_.PySem.W renaming Frag->Ar,nsIn->BS,mg_of->By,findIn->EU,mg_none_of->Gg,kia_one->Iz,kitOne->Jq,emptyDict->Kf,instObj->Lf,keepIn->Lg,excIn->ND,OpenLaw->PH,fnOf->PJ,exmOne->Sw,isFn->Sx,plainGet->Sy,KatLex->YS,callWith_K->YT,hasDictIn->YU,kat_cons->YV,kat_kind->YW,lookIn->YX,subIn->YY,WalkO->rO,codeIn->rP,kat_go->rQ,kat_no->rR,kat_one->rS,kat_yes->rT,makesIn->rV,methodObj->rW,plainGet_of->rX,plainOver->rY,takerIn->rZ,KatTups->zN,cellsFrom_some->zQ,clsIn->zR,handedIn->zS,hideAll->zT,hideAll_get->zU,kas_kind->zV,kat_lt->zW,kat_nil->zZ,kdl_dict->AAA,kitx_dict->AAB,kitx_list->AAC,of_hideAll->AAD
open _root_.PySem.W.KatTups renaming cons->zO
open _root_.PySem.W.Looks renaming here->ABi,ld->ABj
open _root_.PySem.W.WData renaming int->zP
open _root_.PySem.Within renaming cons->ABk
open _root_.PySem.pickOrder renaming go->sT
open _root_.Std.Legacy.Range renaming forIn_eq_forIn_range'->ABl,size->ABm
open _root_.Sum renaming inl->BP,inr->CP
open _root_.Sum.inl renaming inj->Gn
open _root_.Sum.inr renaming inj->NV
open _root_.True renaming intro->GG
noncomputable def ABn:=@if_neg
noncomputable def ABo:=@if_pos
noncomputable def ABp:=@congrArg
noncomputable def ABq:=@decide_eq_true
noncomputable def ABr:=@decide_eq_false
noncomputable def ABs:=@of_decide_eq_true
noncomputable def ABt:=@or_false
noncomputable def ABu:=@decide_eq_true_eq
noncomputable def ABv:=@of_decide_eq_false
noncomputable def ABw:=@beq_iff_eq
noncomputable def ABx:=@if_false
noncomputable def ABy:=@if_true
noncomputable def ABz:=@beq_eq_false_iff_ne
noncomputable def AB0:=@beq_self_eq_true
noncomputable def AB1:=@getElem?_pos
noncomputable abbrev AR:=Sum Int AJ
noncomputable def FO:AR->AK->Bool|.inl k,v=>zL k v|.inr x,v=>zM x v
noncomputable def jF(w:Bn):AR->Int|.inl k=>hashInt k|.inr x=>hashStr w x
theorem G0:∀{k:AR}{v:AK},FO k v=AF->(∃i t,k=BP i/\v=Su i t)\/(∃x t,k=CP x/\v=Sv x t)|.inl i,v,h=>by obtain⟨t,e⟩:=Value.isInt_shape (k:=i) (v:=v) h;exact .inl ⟨i,t,rfl,e⟩|.inr x,v,h=>by obtain⟨t,e⟩:=Value.isStrOf_shape (x:=x) (v:=v) h;exact .inr ⟨x,t,rfl,e⟩
theorem RV(i:Int)(t:G9):FO (.inl i) (.int i t)=AF:=by simp[FO,zL]
theorem RW(x:AJ)(t:G9):FO (.inr x) (.str x t)=AF:=by simp[FO,zM]
theorem jG(a b:Int):AZ ((BP a:AR)=BP b)=(a==b):=by
 by_cases e:a=b;.subst e;simp
 . have h:¬(BP a:AR)=BP b:=λq=>e (Gn q);rw[ABr h];exact(ABz.mpr e).symm
theorem jJ(a b:AJ):AZ ((CP a:AR)=CP b)=AZ (a=b):=by
 by_cases e:a=b;.subst e;simp
 . have h:¬(CP a:AR)=CP b:=λq=>e (NV q);rw[ABr h,ABr e]
theorem jH(a:Int)(b:AJ):AZ ((BP a:AR)=CP b)=AO:=ABr (λq=>nomatch q)
theorem jI(a:AJ)(b:Int):AZ ((CP a:AR)=BP b)=AO:=ABr (λq=>nomatch q)
noncomputable def DB(prog:CZ)(w:Bn):KeyKind prog w AR where
  is:=FO
  hash:=jF w
  inj:=λv a b U J=>by
    rcases G0 U with⟨i,t,rfl,rfl⟩|⟨x,t,rfl,rfl⟩
    . rcases G0 J with⟨j,u,rfl,e⟩|⟨y,u,rfl,e⟩;.injection e with D _;rw[D]
      .exact nomatch e
    . rcases G0 J with⟨j,u,rfl,e⟩|⟨y,u,rfl,e⟩;.exact nomatch e
      .injection e with D _;rw[D]
  byValue:=λk v h=>by rcases G0 h with⟨i,t,rfl,rfl⟩|⟨x,t,rfl,rfl⟩<;>rfl
  pyHash:=λF h=>by
    rcases G0 F with⟨i,t,rfl,rfl⟩|⟨x,t,rfl,rfl⟩;.exact wpAny_pyHash_int h
    .exact wpAny_pyHash_str h
  eqBool:=λV F h=>by
    rcases G0 V with⟨i,t,rfl,rfl⟩|⟨x,t,rfl,rfl⟩
    . rcases G0 F with⟨j,u,rfl,rfl⟩|⟨y,u,rfl,rfl⟩;.rw[jG]at h;exact wpAny_eqBool_int h
      .rw[jH]at h;exact y9 i t y u _ _ _ _ h
    . rcases G0 F with⟨j,u,rfl,rfl⟩|⟨y,u,rfl,rfl⟩;.rw[jI]at h;exact zB x t j u _ _ _ _ h
      .rw[jJ]at h;exact wpAny_eqBool_str h
  «strs»:=λk x t v h=>by
    rcases G0 h with⟨i,u,rfl,e⟩|⟨y,u,rfl,e⟩;.exact nomatch e
    . injection e with D _;subst D;cases v<;>rfl
theorem jY(prog:CZ)(w:Bn)(i:Int)(t:G9):(DB prog w).is (.inl i) (.int i t)=AF:=RV i t
theorem jZ(prog:CZ)(w:Bn)(x:AJ)(t:G9):(DB prog w).is (.inr x) (.str x t)=AF:=RW x t
inductive AH where|non|bl(b:Bool)|int(i:Int)|str(x:AJ)|byt(b:Array UInt8)|flt(b:UInt64)|ref(a:AI)|ty(n:String)deriving DecidableEq
noncomputable def BN:AH->AK->Prop|.non,u=>u=NC|.bl b,u=>u=Ss b|.int i,u=>∃t,u=Su i t|.str x,u=>∃t,u=Sv x t|.byt b,u=>∃t,u=zK b t|.flt b,u=>∃t,u=rN b t|.ref a,u=>u=C8 a|.ty n,u=>u=Hd n
noncomputable abbrev BO:List AH->List AK->Prop:=Bm BN
theorem BO.ak{xs:List AH}{us:List AK}(r:BO xs us):xs.length=us.length:=Jo r
theorem BO.yl:∀{xs:List AH}{us:List AK}{i:Nat}{x:AH},BO xs us->xs[i]?=AA x->∃u,us[i]?=AA u/\BN x u
 |_,_,_,_,.nil,e=>by simp at e|_,_,0,_,.cons r _,e=>by simp at e;subst e;exact⟨_,rfl,r⟩|_,_,i+1,x,.cons _ t,e=>by
  refine AB λD=>?_;obtain⟨u,F,J⟩:=BO.yl (i:=i) (x:=x) t (by simpa using e);refine D ?_;try clear D
  exact⟨u,by simpa using F,J⟩
theorem BO.lg:∀{xs ys:List AH}{us D:List AK},BO xs us->BO ys D->BO (xs++ys) (us++D)|_,_,_,_,.nil,s=>s|_,_,_,_,.cons r t,s=>.cons r (BO.lg t s)
theorem BO.adu:∀{xs:List AH}{us:List AK}(n:Nat),BO xs us->BO (xs.take n) (us.take n)|_,_,0,_=>.nil|_,_,_+1,.nil=>.nil|_,_,n+1,.cons r t=>.cons r (BO.adu n t)
theorem BO.afk:∀{xs:List AH}{us:List AK}(n:Nat),BO xs us->BO (xs.drop n) (us.drop n)|_,_,0,r=>r|_,_,_+1,.nil=>.nil|_,_,n+1,.cons _ t=>BO.afk n t
noncomputable def Hu:Option AH->Option AK->Prop|AA v,AA u=>BN v u|AD,AD=>True|_,_=>False
noncomputable def Dj:List (D×AH)->List (D×AK)->Prop:=Bm λ(p:D×AH)(q:D×AK)=>p.1=q.1/\BN p.2 q.2
noncomputable def Al:AR->AH|.inl i=>.int i|.inr x=>.str x
inductive DV where|lst(xs:List AH)|tup(xs:List AH)|dK(kvs:List (AR×AH))|dT(kvs:List (List AR×AH))|set(S:Int->Bool)(n:Nat)|ins(C dx:AI)(fs:List (AJ×AH))|own(x:AI)|xd(fs:List (AJ×AH))|met(f x:AI)|rng(lo hi:Int)|frz(o:A8)(u:DV)|tbl(ps:Array AK)|ext(φ:A3->Prop)
noncomputable abbrev AN:=AI->Option DV
noncomputable def AW(H:AN)(a:AI)(o:DV):AN:=λb=>if b=a then AA o else H b
theorem Az:AW H a o a=AA o:=by unfold AW;rw[ABo rfl]
theorem BC(h:b≠a):AW H a o b=H b:=by unfold AW;rw[ABn h]
theorem O0:AW (AW H a o) a u=AW H a u:=by funext b;unfold AW;split<;>rfl
theorem kA{H:AN}{a b:AI}{o u:DV}(h:H a=AA o)(h':H b=AA u)(d:o≠u):a≠b:=by intro e;subst e;rw[h]at h';exact d (De h')
theorem B6{H:AN}{a b:AI}{o:DV}(h:H a=AA o)(h':H b=AD):a≠b:=by intro e;subst e;rw[h]at h';cases h'
section
variable(P:CZ)(w:Bn)
noncomputable def C7(H:AN)(h:A3)(a:AI):DV->Prop|.lst xs=>xs.length<=An/\∃(D:List AK)(n:Nat),BO xs D/\h.get? a=AA {cls:=.type "list",data:=.seq D.toArray n}|.tup xs=>xs.length<=An/\∃D:List AK,BO xs D/\Si h a D.toArray|.dK kvs=>kvs.length<=An/\(a==IG)=AO/\∃J,Dj kvs J/\h.DictOf (DB P w) a J|.dT kvs=>kvs.length<=An/\(a==IG)=AO/\∃xs:List (List AR×AI×AK),Bm (λ(p:List AR×AH)(q:List AR×AI×AK)=>p.1=q.1/\H q.2.1=AA (.tup (p.1.map Al))/\BN p.2 q.2.2) kvs xs/\∃o es ep,h.get? a=AA o/\o.ExactDict/\o.data=.dict es ep/\es.toList=xs.map (entryOfKey (PU (DB P w)))/\(xs.map (·.1)).Nodup|.set S n=>h.SetOf (intKind P w) a S n|.ins C dx fs=>H dx=AA (.own a)/\fs.length<=1000/\dx≠a/\h.get? a=AA (Lf C dx)/\∃mA,h.Ns1 dx mA/\(∀f,Hu (fs.lookup f) (mA f))/\r6 mA (fs.map (·.1))|.own _=>∃o,h.get? a=AA o|.xd fs=>∃mA,h.Ns1 a mA/\∀f,Hu (fs.lookup f) (mA f)|.rng lo hi=>∃t u v,h.get? a=AA {cls:=.type "range",data:=.fields #[.int lo t,.int hi u,.int 1 v]}|.frz o u=>h.get? a=AA o/\C7 H h a u|.tbl ps=>h.get? a=AA {cls:=.none,data:=.fields ps}|.met f x=>h.get? a=AA (rW (.ref f) (.ref x))|.ext F=>F h/\(∃o,h.get? a=AA o)/\∀h1 h2:A3,F h1->(∀o,h1.get? a=AA o->h2.get? a=AA o)->F h2
end
noncomputable def Cy(P:CZ)(w:Bn)(H:AN)(h:A3):Prop:=∀a o,H a=AA o->C7 P w H h a o
theorem C7.lt{h:A3}(x:C7 P w H h a o):a<h.objs.size:=by cases o with|lst J=>obtain⟨_,_,_,_,e⟩:=x;exact Br e|tup J=>obtain⟨_,_,_,p⟩:=x;exact p.lt|dK D=>obtain⟨_,_,_,_,o,_,_,e,_⟩:=x;exact Br e|dT D=>obtain⟨_,_,_,_,o,_,_,e,_⟩:=x;exact Br e|set S n=>obtain⟨o,_,_,_,e,_⟩:=x;exact Br e|ins C U F=>obtain⟨_,_,_,e,_⟩:=x;exact Br e|own y=>obtain⟨_,e⟩:=x;exact Br e|xd F=>obtain⟨_,⟨_,_,_,e,_⟩,_⟩:=x;exact Br e|rng W V=>obtain⟨_,_,_,e⟩:=x;exact Br e|frz Y u=>obtain⟨e,_⟩:=x;exact Br e|tbl Z=>exact Br (show h.get? a=AA _ from x)|met f y=>exact Br (show h.get? a=AA _ from x)|ext q=>obtain⟨_,⟨_,e⟩,_⟩:=x;exact Br e
theorem Q8:∀{D:List α}{J:List U},Bm F D J->(∀a b,F a b->G a b)->Bm G D J|_,_,.nil,_=>.nil|_,_,.cons r t,f=>.cons (f _ _ r) (Q8 t f)
theorem C7.aab{h h':A3}(x:C7 P w H h a o)(k:∀b u,(b=a\/H b=AA (.own a))->h.get? b=AA u->h'.get? b=AA u)(K:∀b,H b=AA (.own a)->A b=AA (.own a))(L:∀b xs,H b=AA (.tup xs)->A b=AA (.tup xs)):C7 P w A h' a o:=by induction o with
 |lst xs=>obtain⟨z,U,n,r,e⟩:=x;exact⟨z,U,n,r,k _ _ (.inl rfl) e⟩|tup xs=>obtain⟨z,U,r,D,e,c⟩:=x;exact⟨z,U,r,D,k _ _ (.inl rfl) e,c⟩|dK W=>obtain⟨z,y,O,r,D,J,F,e,c⟩:=x;exact⟨z,y,O,r,D,J,F,k _ _ (.inl rfl) e,c⟩|dT W=>
  refine AB λV=>?_;obtain⟨z,y,xs,r,D,J,F,e,c⟩:=x;refine V ?_;try clear V
  exact⟨z,y,xs,Q8 r λp q z=>⟨z.1,L _ _ z.2.1,z.2.2⟩,D,J,F,k _ _ (.inl rfl) e,c⟩|set S n=>obtain⟨D,J,F,t,e,c⟩:=x;exact⟨D,J,F,t,k _ _ (.inl rfl) e,c⟩|ins C Q I=>
  refine AB λV=>?_;obtain⟨d,z,N,e,Y,⟨Z,J,F,G,c⟩,r⟩:=x;refine V ?_;try clear V
  exact⟨K _ d,z,N,k _ _ (.inl rfl) e,Y,⟨Z,J,F,k _ _ (.inr d) G,c⟩,r⟩|own y=>obtain⟨D,e⟩:=x;exact⟨D,k _ _ (.inl rfl) e⟩|xd I=>obtain⟨Y,⟨Z,J,F,e,c⟩,r⟩:=x;exact⟨Y,⟨Z,J,F,k _ _ (.inl rfl) e,c⟩,r⟩|rng T R=>obtain⟨t,u,v,e⟩:=x;exact⟨t,u,v,k _ _ (.inl rfl) e⟩|frz D u M=>obtain⟨e,q⟩:=x;exact⟨k _ _ (.inl rfl) e,M q⟩|tbl B=>have e:h.get? a=AA {cls:=.none,data:=.fields B}:=x;show h'.get? a=AA {cls:=.none,data:=.fields B};exact k a _ (.inl rfl) e|met f y=>have e:h.get? a=AA (rW (.ref f) (.ref y)):=x;show h'.get? a=AA (rW (.ref f) (.ref y));exact k a _ (.inl rfl) e|ext X=>obtain⟨p,⟨o,e⟩,E⟩:=x;exact⟨E _ _ p λo q=>k _ _ (.inl rfl) q,⟨o,k _ _ (.inl rfl) e⟩,E⟩
theorem Cy.lt{h:A3}(x:Cy P w H h)(e:H a=AA o):a<h.objs.size:=(x a o e).lt
theorem Cy.az{h:A3}(x:Cy P w H h)(e:h.objs.size<=a):H a=AD:=by cases q:H a with|none=>rfl|some u=>exact absurd (EI (x.lt q) e) (E6 _)
theorem Cy.de{h h':A3}(x:Cy P w H h)(k:∀b u,h.get? b=AA u->h'.get? b=AA u):Cy P w H h':=λa o e=>(x a o e).aab (λb u _ q=>k b u q) (λ_ q=>q) λ_ _ q=>q
theorem Cy.ie{h h':A3}(x:Cy P w H h)(k:∀b u,h.get? b=AA u->h'.get? b=AA u)(U:h.objs.size<=a)(D:C7 P w (AW H a o) h' a o):Cy P w (AW H a o) h':=λb u e=>by
 have J:=x.az U;by_cases F:b=a;.subst F;rw[Az]at e;cases e;exact D
 . rw[BC F]at e;exact(x b u e).aab (λc v _ q=>k c v q) (λc q=>by rw[BC (B6 q J)];exact q) λc V q=>by rw[BC (B6 q J)];exact q
noncomputable def HJ(H:AN)(a:AI)(u:DV):Prop:=H a=AA u\/∃o,H a=AA (.frz o u)
theorem HJ.ok(r:HJ H a u)(x:Cy P w H h):C7 P w H h a u:=by
 rcases r with r|⟨o,r⟩;.exact x a u r
 . obtain⟨_,q⟩:=x a _ r;exact q
noncomputable def ML:Option DV->Prop|AA (.lst _)=>True|AA (.dK _)=>True|AA (.dT _)=>True|AA (.set _ _)=>True|AA (.ins _ _ _)=>True|AA (.ext _)=>True|_=>False
theorem Cy.xu{h h':A3}(I:Cy P w H h)(W:ML (H x))(B:e=x\/H e=AA (.own x))(k:∀b u,b≠e->h.get? b=AA u->h'.get? b=AA u)(Z:∃u,h'.get? e=AA u)(A:C7 P w (AW H x C) h' x C):Cy P w (AW H x C) h':=λb u q=>by
  have F:∀c y,H c=AA (.own y)->c≠x:=λc y r z=>by subst z;rw[r]at W;exact W
  have J:∀c Y,H c=AA (.tup Y)->c≠x:=λc Y r z=>by subst z;rw[r]at W;exact W
  by_cases U:b=x;.subst U;rw[Az]at q;cases q;exact A
  . rw[BC U]at q;by_cases D:b=e
    . have E:H b=AA (.own x):=by
        rcases B with z|z;.exact absurd (D.trans z) U
        .rw[D];exact z
      rw[q]at E;cases E;obtain⟨v,G⟩:=Z;exact⟨v,by rw[D];exact G⟩
    . refine(I b u q).aab (λc v V r=>k c v ?_ r) (λc r=>by rw[BC (F c b r)];exact r) λc Y r=>by rw[BC (J c Y r)];exact r
      rcases V with rfl|V;.exact D
      . rintro rfl;rcases B with z|z;.exact F c b V z
        .rw[V]at z;cases z;exact U rfl
structure FL(fs ex:List AI)(H H':AN)(h h':A3):Prop where
 ae:∀b o,h.get? b=AA o->H b=AD->b∉fs->b∉ex->h'.get? b=AA o
 vo:∀b o,h.get? b=AA o->H b=AD->b∈fs->b∉ex->∃sl,h'.get? b=AA {o with slots:=sl}ar:∀b o,h.get? b=AA o->H b=AD->b∉ex->H' b=AD
 dr:∀b o,h.get? b=AA o->b∉ex->∃o',h'.get? b=AA o'
 xc:∀b xs,H b=AA (.tup xs)->H' b=AA (.tup xs)vg:∀b o u,H b=AA (.frz o u)->H' b=AA (.frz o u)wz:∀b ps,H b=AA (.tbl ps)->∃more,H' b=AA (.tbl (ps++more))
theorem FL.afg{h W:A3}(u:FL V U H Z h W)(q:h.get? b=AA D)(n:H b=AD)(J:b∉U):∃Y,W.get? b=AA {D with slots:=Y}:=by
 by_cases F:b∈V;.exact u.vo b D q n F J
 .exact⟨D.slots,u.ae b D q n F J⟩
theorem ON{h h':A3}(k:∀b u,h.get? b=AA u->h'.get? b=AA u):FL J F H H h h':=⟨λb D q _ _ _=>k b D q,λb D q _ _ _=>⟨D.slots,k b D q⟩,λ_ _ _ n _=>n,λb D q _=>⟨D,k b D q⟩,λ_ _ q=>q,λ_ _ _ q=>q,λ_ U q=>⟨#[],by rw[q];simp⟩⟩
theorem gO:FL F D H H h h:=ON λ_ _ q=>q
theorem gN{h h':A3}(k:∀b u,h.get? b=AA u->h'.get? b=AA u)(F:h.objs.size<=a)(D:H a=AD):FL V U H (AW H a o) h h' where
 ae:=λb u q _ _ _=>k b u q
 vo:=λb u q _ _ _=>⟨u.slots,k b u q⟩
 ar:=λb u q n _=>by rw[BC (Cv (EI (Br q) F))];exact n
 dr:=λb u q _=>⟨u,k b u q⟩
 xc:=λb J q=>by rw[BC (B6 q D)];exact q
 vg:=λb u J q=>by rw[BC (B6 q D)];exact q
 wz:=λb W q=>⟨#[],by rw[BC (B6 q D),q];simp⟩
theorem gP{h h':A3}(F:ML (H x))(Y:e=x\/H e=AA (.own x))(k:∀b u,b≠e->h.get? b=AA u->h'.get? b=AA u)(J:∃u,h'.get? e=AA u):FL C B H (AW H x o) h h':=by
 have W:∀b,H b=AD->b≠x:=λb n z=>by subst z;rw[n]at F;exact F
 have V:∀b,H b=AD->b≠e:=λb n z=>by
  subst z;rcases Y with r|r;.exact W b n r
  .rw[n]at r;cases r
 have U:∀b u,H b=AA u->¬ML (AA u)->b≠x:=λb u q Z z=>by subst z;rw[q]at F;exact Z F
 refine⟨λb u q n _ _=>k b u (V b n) q,λb u q n _ _=>⟨u.slots,k b u (V b n) q⟩,λb u q n _=>by rw[BC (W b n)];exact n,λb u q _=>?_,λb A q=>by rw[BC (U b _ q λz=>z)];exact q,λb u A q=>by rw[BC (U b _ q λz=>z)];exact q,λb E q=>⟨#[],by rw[BC (U b _ q λz=>z),q];simp⟩⟩;by_cases D:b=e;.subst D;exact J
 .exact⟨u,k b u D q⟩
noncomputable def Oy(h:A3)(H:AN):List AI:=(DY h.objs.size).filter λa=>(H a).isSome
noncomputable def Ig(h:A3)(H:AN):A3:=zT h (Oy h H)
theorem iR(h:A3)(H:AN):(Ig h H).objs.size=h.objs.size:=W.hideAll_size _ _
theorem iQ{h:A3}(e:h.get? b=AA o)(n:H b=AD):(Ig h H).get? b=AA o:=zU _ e λD=>by have q:(H b).isSome=AF:=(DX.mp D).2;rw[n]at q;simp at q
theorem kC{h:A3}(e:(Ig h H).get? b=AA o):h.get? b=AA o/\H b=AD:=by have D:h.get? b=AA o:=AAD (Oy h H) e;refine⟨D,?_⟩;cases q:H b with|none=>rfl|some x=>have F:b∈Oy h H:=DX.mpr ⟨M0.mpr (Br D),by simp[q]⟩;have z:(Ig h H).get? b=AD:=W.hideAll_none (Oy h H) F;rw[z]at e;cases e
structure OD(K:Ar)(mg:AJ->Option AK)(base:A3):Prop where
 aeq:K.In base
 vh:base.Ns BI mg
 aea:∃mb,base.Ns sE mb/\∀x:AJ,x≠"__name__"->mb x=PL x
 adq:base.NoLimit
structure BR where
 ag:CZ
 w:Bn
 K:Ar
 mg:AJ->Option AK
 ao:A3
 A:Cj
 N:List AJ
 s₀:AU
 H₀:AN
 af:DK
 iu:List DK
 ba:List DK
 ex:List AI
 fn:AJ->Bool
 bx:Bool
 pn:List (AI×A8)xe:AK->AU->Prop
noncomputable def C0(l:List DK):List AI:=l.filterMap (·.frame)
noncomputable abbrev BR.fs(X:BR):List AI:=C0 X.iu
noncomputable def OP(D:Du)(x:AJ):Prop:=D.names.lookup x=AA .local\/D.names.lookup x=AA .cell\/D.names.lookup x=AA .free
noncomputable def Ht(D:Du)(x:AJ):Prop:=D.names.lookup x=AA .local\/D.names.lookup x=AA .cell
noncomputable def gK(env:DK)(h:A3)(m:AJ->Option AK)(x:AJ)(u:AK):Prop:=(env.kindOf x=AA .local/\m x=AA u)\/((env.kindOf x=AA .cell\/env.kindOf x=AA .free)/\∃c,env.cells.lookup x=AA c/\h.IsCell c (AA u))
structure BR.Ok(X:BR):Prop where
 vn:OD X.K X.mg X.ao
 fo:X.af.scope.kind=.function
 vh:X.af.globals=BI
 aea:X.af.builtins=sE
 kz:X.s₀.heap.objs.size<=X.af.locals
 acj:∀x y c,X.af.cells.lookup x=AA c->X.af.cells.lookup y=AA c->x=y
 aep:∀x,(X.af.kindOf x=AA .cell\/X.af.kindOf x=AA .free)->∃c,X.af.cells.lookup x=AA c
 aem:∀x c,X.fn x=AF->X.af.cells.lookup x=AA c->X.s₀.heap.objs.size<=c
 hd:X.bx=AF->X.A.handled=AD
 dj:X.A.frames=AA X.ba
 afe:X.ba=X.iu\/(X.ba=X.af::X.iu/\X.af.frame=AA X.af.locals)afm:∀b∈X.ex,b≠X.af.locals/\∀x c,X.af.cells.lookup x=AA c->c≠b
 bs:∀b o,X.ao.get? b=AA o->X.s₀.heap.get? b=AA o/\X.H₀ b=AD
 acf:X.ao.objs.size<=X.s₀.heap.objs.size
 aap:∀b o,X.ao.get? b=AA o->b∉X.ex
 aak:∀b∈X.ex,b∉X.fs
 qb:X.s₀.heap.FunFrames X.ao X.iu
 adi:∀b∈X.fs,X.H₀ b=AD
structure AY(X:BR)(pins:List (AI×A8))(σ:List (Option AH))(H:AN)(s:AU):Prop where
 ok:X.Ok
 os:s.os=X.s₀.os
 ir:Ji s.gens
 ao:FL X.fs X.ex X.H₀ H X.s₀.heap s.heap
 zb:∃m,s.heap.Ns X.af.locals m/\∀(i:Nat)(x:AJ)(v:AH),X.N[i]?=AA x->σ[i]?=AA (AA v)->OP X.af.scope x->∃u,BN v u/\gK X.af s.heap m x u
 ou:∀x c,X.af.cells.lookup x=AA c->∃v,s.heap.IsCell c v
 ar:H X.af.locals=AD
 gb:∀x c,X.af.cells.lookup x=AA c->H c=AD
 wt:∀p∈X.pn++pins,s.heap.get? p.1=AA p.2/\H p.1=AD/\p.1≠X.af.locals/\p.1∉X.fs/\∀v,p.2.data≠.cell v
 bb:Cy X.ag X.w H s.heap
 bj:σ.length=X.N.length
theorem BR.Ok.ago{X:BR}(F:X.Ok)(e:X.ao.get? b=AA o):b∉X.fs:=λD=>by have:=(F.qb.mem D).1;rw[e]at this;cases this
theorem AY.bs{X:BR}{s:AU}(I:AY X D F H s):∀b o,X.ao.get? b=AA o->s.heap.get? b=AA o/\H b=AD:=λb o e=>⟨I.ao.ae b o (I.ok.bs b o e).1 (I.ok.bs b o e).2 (I.ok.ago e) (I.ok.aap b o e),I.ao.ar b o (I.ok.bs b o e).1 (I.ok.bs b o e).2 (I.ok.aap b o e)⟩
theorem AY.bk{X:BR}{s:AU}(I:AY X D F H s):∀b o,X.ao.get? b=AA o->s.heap.get? b=AA o:=λb o e=>(I.bs b o e).1
theorem AY.vn{X:BR}(I:AY X D F H s):OD X.K X.mg X.ao:=I.ok.vn
theorem AY.qu{X:BR}{s:AU}(I:AY X D F H s):X.K.In s.heap:=I.ok.vn.aeq.keeps I.bk
theorem AY.lt{X:BR}{s:AU}(I:AY X D J H s):X.af.locals<s.heap.objs.size:=let⟨_,F,_⟩:=I.zb;F.lt
theorem AY.sz{X:BR}{s:AU}(I:AY X D F H s):X.s₀.heap.objs.size<=s.heap.objs.size:=DE I.ok.kz (M5 I.lt)
theorem AY.agp{X:BR}{s:AU}(I:AY X F V H s)(h:s.heap.objs.size<=a):a∉X.fs:=λJ=>by
 refine AB λD=>?_;obtain⟨_,o,U,_⟩:=I.ok.qb.mem J;refine D ?_;try clear D
 exact absurd (EI (Br U) (DE I.sz h)) (E6 _)
theorem AY.agh{X:BR}(I:AY X W A H s):∀x c,X.af.cells.lookup x=AA c->c≠X.af.locals:=λx c e z=>by
 refine AB λV=>?_;obtain⟨v,o,U,J⟩:=I.ou x c e;obtain⟨m,⟨q,Z,Y,F,D,_⟩,_⟩:=I.zb;refine V ?_;try clear V
 rw[z,F]at U;cases U;rw[D]at J;cases J
theorem AY.qb{X:BR}{s:AU}(I:AY X W M H s):s.heap.FunFrames X.ao X.iu:=by
 have D:∀(l:List DK),(∀b∈C0 l,b∈X.fs)->X.s₀.heap.FunFrames X.ao l->s.heap.FunFrames X.ao l:=by intro l;induction l with|nil=>intro _ _;trivial|cons Y r G=> intro V A;obtain⟨q,⟨L,o,U,B,C,Z⟩,E⟩:=A;have F:L∈X.fs:=V L (by unfold C0;rw[SR,U];exact D6);obtain⟨K,e⟩:=I.ao.vo L o C (I.ok.adi L F) F λz=>I.ok.aak L z F;exact⟨q,⟨L,_,U,B,e,Z⟩,G (λb J=>V b (by unfold C0;rw[SR,U];exact E5 _ J)) E⟩
 exact D X.iu (λ_ J=>J) I.ok.qb
theorem AY.ba{X:BR}{s:AU}(I:AY X F V H s):s.heap.FunFrames X.ao X.ba:=by
  rcases I.ok.afe with e|⟨e,J⟩;.rw[e];exact I.qb
  . rw[e];refine AB λD=>?_;obtain⟨m,U,_⟩:=I.zb;refine D ?_;try clear D
    refine .cons (by rw[I.ok.fo];decide) J U ?_ I.qb;exact Heap.get?_none_of_le (DE I.ok.acf I.ok.kz)
theorem AY.yx{X:BR}(I:AY X F U H s):∀b∈C0 X.ba,b∈X.af.locals::X.fs:=λb D=>by
 rcases I.ok.afe with e|⟨e,J⟩;.rw[e]at D;exact E5 _ D
 . rw[e]at D;unfold C0 at D;rw[SR,J]at D;exact D
theorem AY.yw{X:BR}(I:AY X J V H s):∀b∈C0 X.ba,H b=AD:=λb D=>by
  rcases B7.mp (I.yx b D)with e|D;.rw[e];exact I.ar
  . refine AB λF=>?_;obtain⟨_,o,U,_⟩:=I.ok.qb.mem D;refine F ?_;try clear F
    exact I.ao.ar b o U (I.ok.adi b D) λz=>I.ok.aak b z D
theorem AY.aac{X:BR}{B:List (AI×A8)}{σ:List (Option AH)}{H L:AN}{h':A3}{g':Array GenState}{t':Nat}{d':Drawn}{ch:List AI}(I:AY X B σ H s)(V:∀b∈ch,(b∈X.ex\/X.s₀.heap.objs.size<=b)/\b≠X.af.locals/\(∀x c,X.af.cells.lookup x=AA c->c≠b)/\∀p∈X.pn++B,p.1≠b)(W:∀b o,b≠X.af.locals->b∉X.fs->b∉ch->s.heap.get? b=AA o->H b=AD->h'.get? b=AA o)(C:∀b o,b≠X.af.locals->b∈X.fs->b∉ch->s.heap.get? b=AA o->H b=AD->∃g,h'.get? b=AA {o with slots:=g})(J:∀b o,b∉ch->s.heap.get? b=AA o->H b=AD->L b=AD)(G:∀b o,b∉ch->s.heap.get? b=AA o->∃Q,h'.get? b=AA Q)(S:∀b xs,H b=AA (.tup xs)->L b=AA (.tup xs))(N:∀b o u,H b=AA (.frz o u)->L b=AA (.frz o u))(R:∀b T,H b=AA (.tbl T)->∃O,L b=AA (.tbl (T++O)))(ns:∀m,s.heap.Ns X.af.locals m->h'.Ns X.af.locals m)(f:Cy X.ag X.w L h')(hg:Ji g'):AY X B σ L {s with heap:=h',gens:=g',drawn:=d',toks:=t'}:=by
  have P:∀b o,X.s₀.heap.get? b=AA o->b≠X.af.locals:=λb o e=>Cv (EI (Br e) I.ok.kz);have A:∀b o,X.s₀.heap.get? b=AA o->b∉X.ex->b∉ch:=λb o e F E=>by
    rcases(V b E).1 with z|z;.exact F z
    .exact absurd (EI (Br e) z) (E6 _)
  have U:∀x c,X.af.cells.lookup x=AA c->∀v,s.heap.IsCell c v->h'.IsCell c v:=λx c e v⟨o,K,a⟩=>by
    have Y:c∉ch:=λz=>(V c z).2.2.1 x c e rfl;by_cases j:c∈X.fs
    . obtain⟨g,q⟩:=C c o (I.agh x c e) j Y K (I.gb x c e);exact⟨_,q,a⟩
    .exact⟨o,W c o (I.agh x c e) j Y K (I.gb x c e),a⟩
  refine⟨I.ok,I.os,hg,⟨λb o e n E F=>?_,λb o e n E F=>?_,λb o e n F=>?_,λb o e F=>?_,λb xs e=>S b xs (I.ao.xc b xs e),λb o xs e=>N b o xs (I.ao.vg b o xs e),λb T e=>?_⟩,?_,λx c e=>?_,?_,λx c e=>?_,λp t=>?_,f,I.bj⟩;.exact W b o (P b o e) E (A b o e F) (I.ao.ae b o e n E F) (I.ao.ar b o e n F)
  . refine AB λD=>?_;obtain⟨g,Z⟩:=I.ao.vo b o e n E F;obtain⟨h,M⟩:=C b _ (P b o e) E (A b o e F) Z (I.ao.ar b o e n F);refine D ?_;try clear D
    exact⟨h,M⟩
  . obtain⟨Q,Z⟩:=I.ao.dr b o e F;exact J b Q (A b o e F) Z (I.ao.ar b o e n F)
  . obtain⟨Q,Z⟩:=I.ao.dr b o e F;exact G b Q (A b o e F) Z
  . refine AB λD=>?_;obtain⟨m1,Z⟩:=I.ao.wz b T e;obtain⟨m2,M⟩:=R b _ Z;refine D ?_;try clear D
    exact⟨m1++m2,by rw[M,Array.append_assoc]⟩
  . refine AB λD=>?_;obtain⟨m,hn,hl⟩:=I.zb;refine D ?_;try clear D
    refine⟨m,ns m hn,λi x v Z M e3=>?_⟩;refine AB λD=>?_;obtain⟨u,r,l⟩:=hl i x v Z M e3;refine D ?_;try clear D
    refine⟨u,r,?_⟩;rcases l with l|⟨k,c,e,z⟩;.exact .inl l
    .exact .inr ⟨k,c,e,U x c e _ z⟩
  . obtain⟨v,z⟩:=I.ou x c e;exact⟨v,U x c e v z⟩
  . refine AB λD=>?_;obtain⟨m,⟨o,_,_,K,_⟩,_⟩:=I.zb;refine D ?_;try clear D
    exact J _ o (λz=>(V _ z).2.1 rfl) K I.ar
  . refine AB λD=>?_;obtain⟨v,o,K,a⟩:=I.ou x c e;refine D ?_;try clear D
    exact J c o (λz=>(V c z).2.2.1 x c e rfl) K (I.gb x c e)
  . refine AB λD=>?_;obtain⟨e,n,w,y,d⟩:=I.wt p t;refine D ?_;try clear D
    have Y:p.1∉ch:=λz=>(V p.1 z).2.2.2 p t rfl;exact⟨W p.1 p.2 w y Y e n,J p.1 p.2 Y e n,w,y,d⟩
theorem AY.un{X:BR}(I:AY X J E H s)(u:FL X.fs [] H Z s.heap h')(Y:Cy X.ag X.w Z h'):AY X J E Z {s with heap:=h',toks:=t'}:=by
 refine AB λF=>?_;obtain⟨m,⟨o,K,G,q,r⟩,_⟩:=id I.zb;obtain⟨N,A⟩:=u.afg q I.ar (by simp);refine F ?_;try clear F
 exact I.aac (g':=s.gens) (d':=s.drawn) (ch:=[]) (λ_ z=>nomatch z) (λb o _ W _ e n=>u.ae b o e n W (by simp)) (λb o _ W _ e n=>u.vo b o e n W (by simp)) (λb o _ e n=>u.ar b o e n (by simp)) (λb o _ e=>u.dr b o e (by simp)) u.xc u.vg u.wz (λL B=>by
  refine AB λF=>?_;obtain⟨M,V,U,D,C⟩:=B;refine F ?_;try clear F
  rw[q]at D;cases D;exact⟨_,V,U,A,C⟩) Y I.ir
theorem AY.afh{X:BR}(I:AY X D L H s)(u:FL (C0 X.ba) ch H A s.heap h')(q:Cy X.ag X.w A h')(E:Ji g')(J:∀b∈ch,(b∈X.ex\/X.s₀.heap.objs.size<=b)/\b≠X.af.locals/\(∀x c,X.af.cells.lookup x=AA c->c≠b)/\∀p∈X.pn++D,p.1≠b):AY X D L A {s with heap:=h',gens:=g',drawn:=d',toks:=t'}:=by
 refine AB λV=>?_;obtain⟨m,⟨o,N,M,B,r⟩,_⟩:=id I.zb;obtain⟨Q,Z⟩:=u.afg B I.ar λz=>(J _ z).2.1 rfl;refine V ?_;try clear V
 exact I.aac (ch:=ch) J (λb o Z C F e n=>u.ae b o e n (λz=>(B7.mp (I.yx b z)).elim Z C) F) (λb o _ _ F e n=>u.afg e n F) (λb o F e n=>u.ar b o e n F) (λb o F e=>u.dr b o e F) u.xc u.vg u.wz (λO G=>by
  refine AB λV=>?_;obtain⟨P,Y,W,U,K⟩:=G;refine V ?_;try clear V
  rw[B]at U;cases U;exact⟨_,Y,W,Z,K⟩) q E
theorem AY.dk{X:BR}{h':A3}(I:AY X D L H s)(k:∀b o,b≠it->s.heap.get? b=AA o->h'.get? b=AA o)(G:H it=AD)(U:it≠X.af.locals)(Z:it∈X.ex\/X.s₀.heap.objs.size<=it)(A:∀x c,X.af.cells.lookup x=AA c->c≠it)(B:∀p∈X.pn++D,p.1≠it):AY X D L H {s with heap:=h',toks:=t'}:=by
  have J:∀b u,H b=AA u->b≠it:=λb u e z=>by rw[z,G]at e;cases e
  refine I.aac (g':=s.gens) (d':=s.drawn) (ch:=[it]) (λb C=>?_) (λb o _ _ F e _=>k b o (λz=>F (by simp[z])) e) (λb o _ _ F e _=>⟨o.slots,k b o (λz=>F (by simp[z])) e⟩) (λ_ _ _ _ n=>n) (λb o F e=>⟨o,k b o (λz=>F (by simp[z])) e⟩) (λ_ _ e=>e) (λ_ _ _ e=>e) (λb M e=>⟨#[],by rw[e];simp⟩) (λm E=>?_) (λb u e=>?_) I.ir
  . have e:b=it:=by simpa using C
    subst e;exact⟨Z,U,A,B⟩
  . refine AB λV=>?_;obtain⟨o,Y,W,K,r⟩:=E;refine V ?_;try clear V
    exact⟨o,Y,W,k _ o (HX U) K,r⟩
  . refine(I.bb b u e).aab (λc v F q=>k c v ?_ q) (λ_ q=>q) λ_ _ q=>q;rcases F with z|z;.rw[z];exact J b u e
    .exact J c _ z
theorem AY.uh(I:AY X D F H s)(t:Nat):AY X D F H {s with toks:=t}:=I.un (h':=s.heap) (t':=t) gO I.bb
theorem AY.de{h':A3}(I:AY X D F H s)(k:∀b u,s.heap.get? b=AA u->h'.get? b=AA u):AY X D F H {s with heap:=h',toks:=t'}:=I.un (ON k) (I.bb.de k)
theorem AY.ie{X:BR}{h':A3}(I:AY X D U H s)(k:∀b u,s.heap.get? b=AA u->h'.get? b=AA u)(F:s.heap.objs.size<=a)(J:C7 X.ag X.w (AW H a o) h' a o):AY X D U (AW H a o) {s with heap:=h',toks:=t'}:=I.un (gN k F (I.bb.az F)) (I.bb.ie k F J)
theorem AY.xu{X:BR}{h':A3}(I:AY X F W H s)(V:ML (H x))(U:e=x\/H e=AA (.own x))(k:∀b u,b≠e->s.heap.get? b=AA u->h'.get? b=AA u)(D:∃u,h'.get? e=AA u)(J:C7 X.ag X.w (AW H x o) h' x o):AY X F W (AW H x o) {s with heap:=h',toks:=t'}:=I.un (gP V U k D) (I.bb.xu V U k D J)
theorem AY.qq{X:BR}{s:AU}(I:AY X F U H s)(h:∀p∈D,s.heap.get? p.1=AA p.2/\H p.1=AD/\p.1≠X.af.locals/\p.1∉X.fs/\∀v,p.2.data≠.cell v):AY X D U H s:=⟨I.ok,I.os,I.ir,I.ao,I.zb,I.ou,I.ar,I.gb,λp J=>(CT.mp J).elim (λz=>I.wt p (Fs _ z)) (h p),I.bb,I.bj⟩
theorem Wv{N:List AJ}(U:N.Nodup){i j:Nat}{x:AJ}(a:N[i]?=AA x)(b:N[j]?=AA x):i=j:=by
 refine AB λD=>?_;obtain⟨V,F⟩:=Bh.mp a;obtain⟨W,J⟩:=Bh.mp b;refine D ?_;try clear D
 exact(SU U).mp (F.trans J.symm)
theorem XW{X:BR}{σ:List (Option AH)}{s:AU}(I:AY X l σ H s)(hN:X.N.Nodup)(hi:X.N[i]?=AA x)(Y:Ht X.af.scope x)(r:BN v u)(h:∀s',AY X l (σ.set i (AA v)) H s'->(∃a,Ir a s.heap s'.heap/\(a=X.af.locals\/X.af.cells.lookup x=AA a))->Q () s')(hf:X.fn x=AF\/X.af.scope.names.lookup x=AA .local:=by first|exact .inl rfl|exact .inr rfl|assumption):Aa M A (storeName X.af x u) Q E s:=by
  refine AB λD=>?_;obtain⟨m,hn,hl⟩:=id I.zb;refine D ?_;try clear D
  have T:(X.af.scope.kind==.class||(X.af.scope.kind==.module&&X.af.locals !=X.af.globals))=AO:=by rw[I.ok.fo];rfl
  have C:i<σ.length:=by rw[I.bj];exact(Bh.mp hi).1
  have K:=I.agh;have U:∀{a:AI}{P:A3},(∃o,s.heap.get? a=AA o/\H a=AD)->Ir a s.heap P->Cy X.ag X.w H P:=λ{a P}ha F b ob e=>by
    obtain⟨_,_,Z⟩:=ha;refine(I.bb b ob e).aab (λc w' W q=>(F.2 c ?_).trans q) (λ_ q=>q) λ_ _ q=>q;rintro rfl;rcases W with rfl|W;.rw[Z]at e;cases e
    .rw[Z]at W;cases W
  rcases Y with G|G
  . refine wpAny_storeName_local G hn (λP hn' F=>?_) T;refine AB λD=>?_;obtain⟨oL,_,_,hoL,_⟩:=id hn;refine D ?_;try clear D
    refine h _ ⟨I.ok,I.os,I.ir,⟨λb o e n L Y=>?_,λb o e n L Y=>?_,I.ao.ar,λb o e Y=>?_,I.ao.xc,I.ao.vg,I.ao.wz⟩,⟨_,hn',λj y v' J B e3=>?_⟩,λy c e=>?_,I.ar,I.gb,λp hp=>?_,U ⟨oL,hoL,I.ar⟩ F,by simpa using I.bj⟩ ⟨_,F,.inl rfl⟩;.exact(F.2 b (Cv (EI (Br e) I.ok.kz))).trans (I.ao.ae b o e n L Y)
    . obtain⟨sl,J⟩:=I.ao.vo b o e n L Y;exact⟨sl,(F.2 b (Cv (EI (Br e) I.ok.kz))).trans J⟩
    . obtain⟨o',J⟩:=I.ao.dr b o e Y;exact⟨o',(F.2 b (Cv (EI (Br e) I.ok.kz))).trans J⟩
    . by_cases O:j=i
      . subst O;rw[hi]at J;cases J;rw[wB C]at B;cases B;exact⟨u,r,.inl ⟨G,by simp⟩⟩
      . rw[wA (HX O)]at B;refine AB λD=>?_;obtain⟨u',r',q⟩:=hl j y v' J B e3;refine D ?_;try clear D
        refine⟨u',r',?_⟩;rcases q with⟨k,e⟩|⟨k,c,e,z⟩
        . refine .inl ⟨k,?_⟩;have:y≠x:=λe=>O (Wv hN J (e▸hi));simp[this,e]
        .exact .inr ⟨k,c,e,z.sameBut F (K y c e)⟩
    . obtain⟨w',z⟩:=I.ou y c e;exact⟨w',z.sameBut F (K y c e)⟩
    . refine AB λD=>?_;obtain⟨e,n,w,nf,d⟩:=I.wt p hp;refine D ?_;try clear D
      exact⟨(F.2 p.1 w).trans e,n,w,nf,d⟩
  . have N:X.fn x=AF:=by
      rcases hf with z|z;.exact z
      .rw[z]at G;cases G
    refine AB λD=>?_;obtain⟨c,W⟩:=I.ok.aep x (.inl G);obtain⟨w',z⟩:=I.ou x c W;refine D ?_;try clear D
    refine wpAny_storeName_cell I.ok.fo G W z (λP R F=>?_);refine AB λD=>?_;obtain⟨oc,f,g⟩:=id z;refine D ?_;try clear D
    refine h {s with heap:=P} ⟨I.ok,I.os,I.ir,⟨λb o e n L Y=>?_,λb o e n L Y=>?_,I.ao.ar,λb o e Y=>?_,I.ao.xc,I.ao.vg,I.ao.wz⟩,⟨m,hn.sameBut F (HX (K x c W)),λj y v' J B e3=>?_⟩,λy t e=>?_,I.ar,I.gb,λp hp=>?_,U ⟨oc,f,I.gb x c W⟩ F,by simpa using I.bj⟩ ⟨c,F,.inr W⟩;.exact(F.2 b (Cv (EI (Br e) (I.ok.aem x c N W)))).trans (I.ao.ae b o e n L Y)
    . obtain⟨sl,J⟩:=I.ao.vo b o e n L Y;exact⟨sl,(F.2 b (Cv (EI (Br e) (I.ok.aem x c N W)))).trans J⟩
    . obtain⟨o',J⟩:=I.ao.dr b o e Y;exact⟨o',(F.2 b (Cv (EI (Br e) (I.ok.aem x c N W)))).trans J⟩
    . by_cases O:j=i
      . subst O;rw[hi]at J;cases J;rw[wB C]at B;cases B;exact⟨u,r,.inr ⟨.inl G,c,W,R⟩⟩
      . rw[wA (HX O)]at B;refine AB λD=>?_;obtain⟨u',r',q⟩:=hl j y v' J B e3;refine D ?_;try clear D
        refine⟨u',r',?_⟩;rcases q with q|⟨k,t,e,z'⟩;.exact .inl q
        . refine .inr ⟨k,t,e,z'.sameBut F ?_⟩;rintro rfl;exact O (Wv hN J (I.ok.acj _ _ _ e W▸hi))
    . by_cases S:t=c;.subst S;exact⟨_,R⟩
      . obtain⟨w2,z2⟩:=I.ou y t e;exact⟨w2,z2.sameBut F S⟩
    . refine AB λD=>?_;obtain⟨e,n,w,nf,d⟩:=I.wt p hp;refine D ?_;try clear D
      refine⟨(F.2 p.1 ?_).trans e,n,w,nf,d⟩;intro q;rw[q,f]at e;have q':oc=p.2:=De e;exact d w' (by rw[<-q'];exact g)
theorem Ox{X:BR}{Y:List (Option AH)}(I:AY X D Y H s)(J:X.N.Nodup)(hi:X.N[i]?=AA x)(W:Ht X.af.scope x)(r:BN v u)(h:∀s',AY X D (Y.set i (AA v)) H s'->Q () s')(U:X.fn x=AF\/X.af.scope.names.lookup x=AA .local:=by first|exact .inl rfl|exact .inr rfl|assumption):Aa M A (storeName X.af x u) Q E s:=XW I J hi W r (λs' F _=>h s' F) U
theorem AY.aay{X:BR}{s:AU}{s':AU}(I:AY X pins σ H s)(ho:s'.os=s.os)(u:FL (C0 X.ba) ch H H' s.heap s'.heap)(hok:Cy X.ag X.w H' s'.heap)(hg:Ji s'.gens)(hch:∀b∈ch,(b∈X.ex\/X.s₀.heap.objs.size<=b)/\b≠X.af.locals/\(∀x c,X.af.cells.lookup x=AA c->c≠b)/\∀p∈X.pn++pins,p.1≠b):AY X pins σ H' s':=by
 refine AB λnG=>?_;obtain⟨h',g',d',t',o'⟩:=s';refine nG ?_;try clear nG
 have e:o'=s.os:=ho;subst e;exact I.afh (g':=g') (t':=t') (d':=d') u hok hg hch
noncomputable abbrev E2:=AK->Option AI->AN->Prop
noncomputable abbrev Aj:=List (Option AH)
noncomputable abbrev BU:=AH->AN->Prop
noncomputable abbrev A1:=Aj->AN->BU->Prop
noncomputable abbrev Cg:=Aj->AN->(Bool->AN->Prop)->Prop
noncomputable abbrev Eb:=Aj->AN->(List AH->AN->Prop)->Prop
structure GP where
 nx:Aj->AN->Prop
 rt:BU
 bk:Aj->AN->Prop:=λ_ _=>False
 ct:Aj->AN->Prop:=λ_ _=>False
noncomputable abbrev Cd:=GP->Aj->AN->Prop
noncomputable def ED(X:BR)(D:List (AI×A8))(J:Aj)(Q:BU)(u:AK)(s':AU):Prop:=∃v F,AY X D J F s'/\BN v u/\Q v F
noncomputable def OM(X:BR)(D:List (AI×A8))(J:Aj)(Q:Bool->AN->Prop)(b:Bool)(s':AU):Prop:=∃F,AY X D J F s'/\Q b F
noncomputable def gC(X:BR)(D:List (AI×A8))(U:Aj)(Q:List AH->AN->Prop)(us:List AK)(s':AU):Prop:=∃J F,AY X D U F s'/\BO J us/\Q J F
noncomputable def MP(X:BR)(J:List (AI×A8))(D:GP)(f:Flow)(s':AU):Prop:=match f with|.next=>∃F U,AY X J F U s'/\D.nx F U|.brk=>∃F U,AY X J F U s'/\D.bk F U|.cont=>∃F U,AY X J F U s'/\D.ct F U|.ret u=>∃v F U,AY X J F U s'/\BN v u/\D.rt v U
noncomputable def Ae(X:BR)(e:BD)(t:A1):Prop:=∀(D:List (AI×A8))(s:AU)(F:Aj)(H:AN)(Q:BU),AY X D F H s->t F H Q->Aa (Ab X.ag X.w) X.A (Bo e X.af) (ED X D F Q) X.xe s
noncomputable def FK(X:BR)(e:BD)(t:Cg):Prop:=∀(D:List (AI×A8))(s:AU)(F:Aj)(H:AN)(Q:Bool->AN->Prop),AY X D F H s->t F H Q->Aa (Ab X.ag X.w) X.A (NF e X.af (Bo e X.af)) (OM X D F Q) X.xe s
noncomputable def KD(X:BR)(e:BD)(t:Cg):Prop:=∀(F:Cs AK)(D:List (AI×A8))(s:AU)(J:Aj)(H:AN)(Q:Bool->AN->Prop),AY X D J H s->t J H Q->Aa (Ab X.ag X.w) X.A (NF e X.af F) (OM X D J Q) X.xe s
theorem Fj(h:KD X e t):FK X e t:=h _
noncomputable def Ep(X:BR)(U:List BD)(t:Eb):Prop:=∀(F:Ce)(D:List (AI×A8))(s:AU)(J:Aj)(H:AN)(Q:List AH->AN->Prop),AY X D J H s->t J H Q->Aa (Ab X.ag X.w) X.A (spliced (EV F (Bz U X.af))) (gC X D J Q) X.xe s
noncomputable def DW(X:BR)(st:BM)(t:Cd):Prop:=∀(F:List (AI×A8))(s:AU)(J:Aj)(H:AN)(D:GP),AY X F J H s->t D J H->Aa (Ab X.ag X.w) X.A (exec st X.af) (MP X F D) X.xe s
noncomputable def Ea(X:BR)(st:List BM)(t:Cd):Prop:=∀(F:List (AI×A8))(s:AU)(J:Aj)(H:AN)(D:GP),AY X F J H s->t D J H->Aa (Ab X.ag X.w) X.A (execs st X.af) (MP X F D) X.xe s
theorem A2(h:Aa M A t Q E s)(F:∀a s,Q a s->D a s):Aa M A t D E s:=EK h F λ_ _ x=>x
noncomputable def Xg(i:Nat):A1:=λD H Q=>∃v,D[i]?=AA (AA v)/\Q v H
noncomputable def KO(v:AH):A1:=λ_ H Q=>Q v H
theorem XC{X:BR}{x:AJ}(q:X.N[i]?=AA x)(E:OP X.af.scope x)(V:(x==("__debug__":AJ))=AO:=by decide)(U:(x==("__classdict__":AJ))=AO:=by decide):Ae X (.Name x W) (Xg i):=by
  intro J s G H Q I h;refine AB λZ=>?_;obtain⟨v,e,h⟩:=h;obtain⟨m,C,A⟩:=I.zb;obtain⟨u,r,l⟩:=A i x v q e E;refine Z ?_;try clear Z
  have fin:ED X J G Q u s:=⟨v,H,I,r,h⟩;rcases l with⟨F,B⟩|⟨F,c,Y,D⟩;.exact tD (wpAny_loadName_local I.ok.fo F C B fin) V
  . rcases F with F|F;.exact tD (wpAny_loadName_cell I.ok.fo F Y D fin) V
    .exact tD (wpAny_loadName_free I.ok.fo F Y D fin U) V
theorem AM:Ae X (.Constant (.int i) j D) (KO (.int i)):=λ_ _ _ H _ I h=>wpAny_Constant_int ⟨.int i,H,I.uh _,⟨_,rfl⟩,h⟩
theorem FP:Ae X (.Constant (.bool b) j D) (KO (.bl b)):=λ_ _ _ H _ I h=>Constant_bool ⟨.bl b,H,I,rfl,h⟩
theorem Rw:Ae X (.Constant .none j D) (KO .non):=λ_ _ _ H _ I h=>Constant_none ⟨.non,H,I,rfl,h⟩
theorem A6:Ae X (.Constant (.str x) j D) (KO (.str x)):=λ_ _ _ H _ I h=>Calls.Constant_str ⟨.str x,H,I.uh _,⟨_,rfl⟩,h⟩
noncomputable def Eo(X:BR)(x:AJ):Prop:=X.af.kindOf x=AA .globalImplicit
theorem Mc{X:BR}{x:AJ}(I:AY X D W H s)(U:Eo X x)(V:X.mg x=AA u)(h:Q u s)(J:(x==("__debug__":AJ))=AO:=by decide):Aa (Ab X.ag X.w) X.A (Bo (.Name x F) X.af) Q E s:=yB I.ok.fo U (Calls.loadGlobal_global (by rw[I.ok.vh];exact I.vn.vh.keeps I.bk) V h) J
theorem Ih{X:BR}{x:AJ}(I:AY X D B H s)(Y:Eo X x)(Z:X.mg x=AD)(A:PL x=AA u)(h:Q u s)(q:x≠"__name__":=by decide)(W:(x==("__debug__":AJ))=AO:=by decide):Aa (Ab X.ag X.w) X.A (Bo (.Name x F) X.af) Q E s:=by
 refine AB λJ=>?_;obtain⟨C,U,V⟩:=I.vn.aea;refine J ?_;try clear J
 exact yB I.ok.fo Y (Calls.loadGlobal_builtin (by rw[I.ok.vh];exact I.vn.vh.keeps I.bk) Z (by rw[I.ok.aea];exact U.keeps I.bk) ((V x q).trans A) h) W
theorem Mi{X:BR}{x:AJ}(J:Eo X x)(U:X.mg x=AA u)(r:BN v u)(F:(x==("__debug__":AJ))=AO:=by decide):Ae X (.Name x D) (KO v):=λ_ _ _ H _ I h=>Mc I J U ⟨v,H,I,r,h⟩ F
theorem HR{X:BR}{x:AJ}(J:Eo X x)(U:X.mg x=AD)(Y:PL x=AA u)(r:BN v u)(W:x≠"__name__":=by decide)(F:(x==("__debug__":AJ))=AO:=by decide):Ae X (.Name x D) (KO v):=λ_ _ _ H _ I h=>Ih I J U Y ⟨v,H,I,r,h⟩ W F
noncomputable def m9(t:A1):Cg:=λF H Q=>t F H λx D=>∃c,x=.bl c/\Q c D
theorem Ga{X:BR}{e:BD}(h:Ae X e t)(W:∀D,NF e X.af D=(do let v<-D;Yk e.pos;Yd [v] (Ym v)):=by intro _;rfl):FK X e (m9 t):=by
 intro F s Z H Q I hw;refine xN (A2 (h F s Z H _ I hw) λv s1⟨x,U,V,r1,Y⟩=>?_) (W _);refine AB λJ=>?_;obtain⟨d,rfl,q⟩:=Y;cases r1;refine J ?_;try clear J
 exact Ln ⟨U,V,q⟩
noncomputable def m7(t u:Cg):Cg:=λF H Q=>t F H λc D=>if c=AF then u F D Q else Q AO D
noncomputable def nY(t u:Cg):Cg:=λF H Q=>t F H λc D=>if c=AF then Q AF D else u F D Q
noncomputable def nW(t:Cg):Cg:=λF H Q=>t F H λc D=>Q (!c) D
theorem LQ(F:FK X a U):KD X (.BoolOp .And [a] J) U:=by intro W D s V H Q I h;refine isTrue_and (A2 (F D s V H Q I h) λc s1 e=>?_);cases c with|true=>exact isTrue_and_nil e|false=>exact e
theorem Im(F:FK X a U):KD X (.BoolOp .Or [a] J) U:=by intro W D s V H Q I h;refine isTrue_or (A2 (F D s V H Q I h) λc s1 e=>?_);cases c with|false=>exact isTrue_or_nil e|true=>exact e
theorem LP(q:FK X a B)(A:KD X (.BoolOp .And (b::F) J) U):KD X (.BoolOp .And (a::b::F) J) (m7 B U):=by intro C D s Z H Q I h;refine isTrue_and (A2 (q D s Z H _ I h) λc s1⟨V,W,Y⟩=>?_);cases c with|true=>exact A C D s1 Z V Q W Y|false=>exact⟨V,W,Y⟩
theorem G6(q:FK X a B)(A:KD X (.BoolOp .Or (b::F) J) U):KD X (.BoolOp .Or (a::b::F) J) (nY B U):=by intro C D s Z H Q I h;refine isTrue_or (A2 (q D s Z H _ I h) λc s1⟨V,W,Y⟩=>?_);cases c with|true=>exact⟨V,W,Y⟩|false=>exact A C D s1 Z V Q W Y
theorem G5(J:FK X a V):FK X (.UnaryOp .Not a U) (nW V):=by intro D s W H Q I h;exact isTrue_not (J D s W H (λc F=>Q (!c) F) I h)
noncomputable def m8(J U:A1):A1:=λF H Q=>J F H λx D=>∃c,x=.bl c/\if c=AF then U F D Q else Q (.bl AO) D
noncomputable def nX(F:A1):A1:=λJ H Q=>F J H λx D=>∃c,x=.bl c/\Q (.bl (!c)) D
theorem Rx(h:Ae X a t):Ae X (.BoolOp op [a] F) t:=λD s J H Q I hw=>BoolOp_one (h D s J H Q I hw)
theorem Ru(q:Ae X a B)(A:Ae X (.BoolOp .And (b::F) U) C):Ae X (.BoolOp .And (a::b::F) U) (m8 B C):=by
 intro D s Z H Q I h;refine BoolOp_and (A2 (q D s Z H _ I h) λv s1⟨x,V,W,r1,J⟩=>?_);refine AB λY=>?_;obtain⟨c,rfl,J⟩:=J;cases r1;refine Y ?_;try clear Y
 refine Ln ?_;cases c with |true=>exact A D s1 Z V Q W J|false=>exact⟨.bl AO,V,W,rfl,J⟩
theorem XB(W:Ae X a Z):Ae X (.UnaryOp .Not a Y) (nX Z):=by
 intro D s q H Q I h;refine UnaryOp_ (A2 (W D s q H _ I h) λv s1⟨x,U,V,r1,F⟩=>?_);refine AB λJ=>?_;obtain⟨c,rfl,F⟩:=F;cases r1;refine J ?_;try clear J
 exact not_of (Ln ⟨.bl (!c),U,V,rfl,F⟩)
noncomputable def nL(t:Cg)(J U:A1):A1:=λD H Q=>t D H λc F=>if c=AF then J D F Q else U D F Q
theorem Oo(Z:FK X c A)(W:Ae X a B)(Y:Ae X b C):Ae X (.IfExp c a b q) (nL A B C):=by intro D s F H Q I h;refine wpAny_IfExp (A2 (Z D s F H _ I h) λd s1⟨J,U,V⟩=>?_);cases d with|true=>exact W D s1 F J Q U V|false=>exact Y D s1 F J Q U V
noncomputable def Bg(K:Ar)(H:AN)(a:AI)(xs:List AH):Prop:=HJ H a (.lst xs)\/∃(o:A8)(D:Array AK)(n:Nat),K.lookup a=AA o/\o.cls=.type "list"/\o.dict=AD/\o.data=.seq D n/\D.size<=An/\BO xs D.toList
noncomputable def Bw(K:Ar)(H:AN)(a:AI)(xs:List AH):Prop:=HJ H a (.tup xs)\/∃(o:A8)(D:Array AK)(n:Nat),K.lookup a=AA o/\o.cls=.type "tuple"/\o.data=.seq D n/\D.size<=An/\BO xs D.toList
noncomputable def gQ:AK->Option AH|.none=>AA .non|.bool b=>AA (.bl b)|.int i _=>AA (.int i)|.str x _=>AA (.str x)|.bytes b _=>AA (.byt b)|.float b _=>AA (.flt b)|.ref a=>AA (.ref a)|.type n=>AA (.ty n)|_=>AD
theorem BN.agw(r:BN x u):gQ u=AA x:=by cases x with|non=>cases r;rfl|bl _=>cases r;rfl|int _=>obtain⟨t,rfl⟩:=r;rfl|str _=>obtain⟨t,rfl⟩:=r;rfl|byt _=>obtain⟨t,rfl⟩:=r;rfl|flt _=>obtain⟨t,rfl⟩:=r;rfl|ref _=>cases r;rfl|ty _=>cases r;rfl
theorem BN.acj(r:BN x u)(q:BN y u):x=y:=De (r.agw.symm.trans q.agw)
theorem BO.acj:∀{xs ys:List AH}{us:List AK},BO xs us->BO ys us->xs=ys|_,_,_,.nil,.nil=>rfl|_,_,_,.cons r t,.cons D F=>by rw[r.acj D,BO.acj t F]
theorem AV{K:Ar}(h:H a=AA (.lst xs)):Bg K H a xs:=.inl (.inl h)
theorem Ao{K:Ar}(h:H a=AA (.tup xs)):Bw K H a xs:=.inl (.inl h)
theorem AY.cu{X:BR}{s:AU}{xs:List AH}(I:AY X J q H s)(h:Bg X.K H a xs):∃D:List AK,BO xs D/\PlainL s.heap a D.toArray/\xs.length<=An:=by
  rcases h with h|⟨o,D,n,W,U,V,Y,Z,r⟩
  . refine AB λF=>?_;obtain⟨z,D,n,r,e⟩:=h.ok I.bb;refine F ?_;try clear F
    exact⟨D,r,⟨_,n,e,rfl,rfl,rfl⟩,z⟩
  . refine⟨D.toList,r,⟨o,n,I.qu a o W,U,V,by simpa using Y⟩,?_⟩;have e:=r.ak;simp only[JE]at e;(first|lia|omega)
theorem AY.bh{X:BR}{s:AU}{xs:List AH}(I:AY X J Z H s)(h:Bw X.K H a xs):∃D:List AK,BO xs D/\Si s.heap a D.toArray/\xs.length<=An:=by
  rcases h with h|⟨o,D,n,V,U,W,Y,r⟩
  . refine AB λF=>?_;obtain⟨z,D,r,p⟩:=h.ok I.bb;refine F ?_;try clear F
    exact⟨D,r,p,z⟩
  . refine⟨D.toList,r,⟨o,I.qu a o V,U,n,by simpa using W⟩,?_⟩;have e:=r.ak;simp only[JE]at e;(first|lia|omega)
theorem AY.zr{X:BR}(I:AY X W B H s)(h:Bg X.K H a xs)(h':Bg X.K H a ys):xs=ys:=by
 refine AB λV=>?_;obtain⟨F,r,⟨o,n,e,_,_,d⟩,_⟩:=I.cu h;obtain⟨D,Z,⟨A,q,U,_,_,J⟩,_⟩:=I.cu h';refine V ?_;try clear V
 rw[e]at U;cases U;rw[d]at J;injection J with Y _;have:F=D:=by simpa using ABp vA Y
 subst this;exact r.acj Z
theorem AY.abw{X:BR}(I:AY X W B H s)(h:Bw X.K H a xs)(h':Bw X.K H a ys):xs=ys:=by
 refine AB λV=>?_;obtain⟨F,r,⟨o,e,_,n,d⟩,_⟩:=I.bh h;obtain⟨D,Z,⟨A,U,_,q,J⟩,_⟩:=I.bh h';refine V ?_;try clear V
 rw[e]at U;cases U;rw[d]at J;injection J with Y _;have:F=D:=by simpa using ABp vA Y
 subst this;exact r.acj Z
noncomputable abbrev BR.vt(X:BR)(E:AK->AU->Prop):BR:={X with xe:=E}
noncomputable abbrev BR.afu(X:BR):BR:=X.vt λ_ _=>False
theorem BR.Ok.vt{X:BR}(D:X.Ok)(E:AK->AU->Prop):(X.vt E).Ok:=⟨D.vn,D.fo,D.vh,D.aea,D.kz,D.acj,D.aep,D.aem,D.hd,D.dj,D.afe,D.afm,D.bs,D.acf,D.aap,D.aak,D.qb,D.adi⟩
theorem BR.Ok.ka{X:BR}(D:(X.vt E).Ok):X.Ok:=⟨D.vn,D.fo,D.vh,D.aea,D.kz,D.acj,D.aep,D.aem,D.hd,D.dj,D.afe,D.afm,D.bs,D.acf,D.aap,D.aak,D.qb,D.adi⟩
theorem AY.vt{X:BR}(I:AY X D F H s)(E:AK->AU->Prop):AY (X.vt E) D F H s:=⟨I.ok.vt E,I.os,I.ir,I.ao,I.zb,I.ou,I.ar,I.gb,I.wt,I.bb,I.bj⟩
theorem AY.ka{X:BR}(I:AY (X.vt E) D F H s):AY X D F H s:=⟨I.ok.ka,I.os,I.ir,I.ao,I.zb,I.ou,I.ar,I.gb,I.wt,I.bb,I.bj⟩
theorem MP.ka{X:BR}(h:MP (X.vt E) U D f s'):MP X U D f s':=by cases f with|next=>obtain⟨F,J,I,q⟩:=h;exact⟨F,J,I.ka,q⟩|brk=>obtain⟨F,J,I,q⟩:=h;exact⟨F,J,I.ka,q⟩|cont=>obtain⟨F,J,I,q⟩:=h;exact⟨F,J,I.ka,q⟩|ret u=>obtain⟨v,F,J,I,r,q⟩:=h;exact⟨v,F,J,I.ka,r,q⟩
theorem Ea.afu{X:BR}{st:List BM}(h:Ea X.afu st t):Ea X st t:=λF s J H D I hw=>EK (h F s J H D (I.vt _) hw) (λ_ _ q=>q.ka) λ_ _ z=>Ek z
noncomputable def nT:Cd:=λD F H=>D.nx F H
noncomputable def oB(t u:Cd):Cd:=λD F H=>t {D with nx:=u D} F H
theorem Bt:Ea X [] nT:=λ_ _ D H _ I h=>PX ⟨D,H,I,h⟩
theorem CG{st:BM}(Z:DW X st t)(A:Ea X J u):Ea X (st::J) (oB t u):=by intro F s B H D I h;refine tE (A2 (Z F s B H {D with nx:=u D} I h) λf s1 q=>?_);cases f with
 |next=>
  refine AB λV=>?_;obtain⟨U,W,Y,q⟩:=q;refine V ?_;try clear V
  exact A F s1 U W D Y q|ret v=>exact q|brk=>exact q|cont=>exact q
theorem Ac{st:BM}(J:DW X st t):Ea X [st] t:=by intro F s U H D I h;refine tE (A2 (J F s U H D I h) λf s1 q=>?_);cases f with|next=>exact PX q|ret v=>exact q|brk=>exact q|cont=>exact q
theorem AY.aed{X:BR}(I:AY X D F H s):interactive X.af=AO:=by simp[interactive,I.ok.fo]
noncomputable def nH(U:A1):Cd:=λD F H=>U F H λ_ J=>D.nx F J
theorem D4{X:BR}{J:Ce}(Y:Ae X e A)(Z:JB e AD J.line X.af=BB AO:=by rfl):DW X (.Expr e J) (nH A):=by intro F s U H D I h;exact AAW (A2 (Y F s U H _ I h) λv s1⟨x,V,W,r1,q⟩=>⟨U,V,W,q⟩) I.aed Z
noncomputable def n9(F:A1):Cd:=λD J H=>F J H D.rt
theorem BA(W:Ae X e q):DW X (.Return (AA e) Y) (n9 q):=by intro F s J H D I h;exact wpAny_Return_some (A2 (W F s J H _ I h) λv s1⟨x,U,V,r1,Z⟩=>⟨x,J,U,V,r1,Z⟩)
noncomputable def nM(c:Cg)(t u:Cd):Cd:=λD F H=>c F H λb J=>if b=AF then t D F J else u D F J
theorem Bc(A:FK X c Y)(Z:Ea X a t)(q:Ea X b u):DW X (.If c a b B) (nM Y t u):=by intro F s J H D I h;refine wpAny_If (A2 (A F s J H _ I h) λd s1⟨U,V,W⟩=>?_);cases d with|true=>exact Z F s1 J U D V W|false=>exact q F s1 J U D V W
noncomputable abbrev EE:=AH->Aj->AN->(Aj->AN->Prop)->Prop
noncomputable abbrev KG:=List AH->Aj->AN->(Aj->AN->Prop)->Prop
noncomputable def JR(X:BR)(D:BD)(t:EE):Prop:=∀(F:List (AI×A8))(s:AU)(W:Aj)(H:AN)(v:AH)(u:AK)(Q:Aj->AN->Prop),AY X F W H s->BN v u->t v W H Q->Aa (Ab X.ag X.w) X.A (assign D X.af u) (λ_ Y=>∃J U,AY X F J U Y/\Q J U) X.xe s
noncomputable def OF(X:BR)(q:List BD)(t:KG):Prop:=∀(D:List (AI×A8))(s:AU)(Y:Aj)(H:AN)(W:List AH)(U:List AK)(Q:Aj->AN->Prop),AY X D Y H s->BO W U->t W Y H Q->Aa (Ab X.ag X.w) X.A (r9 ((Sz q X.af).map (·.2)) U) (λ_ Z=>∃F J,AY X D F J Z/\Q F J) X.xe s
noncomputable def Di(i:Nat):EE:=λv D H Q=>Q (D.set i (AA v)) H
theorem GW{X:BR}(J:X.N.Nodup)(hi:X.N[i]?=AA x)(V:Ht X.af.scope x)(U:X.fn x=AF\/X.af.scope.names.lookup x=AA .local:=by first|exact .inl rfl|exact .inr rfl|assumption):JR X (.Name x W) (Di i):=by intro D s Z H v u Q I r h;exact AAX (Ox I J hi V r (λY F=>⟨_,H,F,h⟩) U)
noncomputable def MX:KG:=λD F H Q=>D=[]/\Q F H
noncomputable def HM(t:EE)(u:KG):KG:=λJ U H Q=>∃v r,J=v::r/\t v U H λD F=>u r D F Q
theorem GY:OF X [] MX:=by intro D s F H U J Q I r h;obtain⟨e,h⟩:=h;subst e;cases r;exact xD ⟨F,H,I,h⟩
theorem DC{X:BR}(Z:JR X e t)(q:OF X F u)(A:(Sz (e::F) X.af).map (·.2)=assign e X.af::(Sz F X.af).map (·.2):=by rfl):OF X (e::F) (HM t u):=by
 intro D s E H L G Q I r h;refine AB λU=>?_;obtain⟨v,K,Y,h⟩:=h;refine U ?_;try clear U
 subst Y;cases r with|cons r C=> rw[A];refine qC (A2 (Z D s E H _ _ _ I r h) λ_ s1⟨J,V,W,B⟩=>?_);exact q D s1 J V _ _ Q W C B
noncomputable def MY(K:Ar)(n:Nat)(t:KG):EE:=λv F H Q=>∃a D,v=.ref a/\Bw K H a D/\D.length=n/\t D F H Q
theorem GX{X:BR}(A:X.bx=AF)(h:OF X J t)(C:(Sz J X.af).length=n:=by rfl)(U:(Sz J X.af).findIdx? (·.1)=AD:=by rfl):JR X (.Tuple J k M) (MY X.K n t):=by
 intro D s W H v u Q I r hw;refine AB λF=>?_;obtain⟨a,N,Z,E,B,hw⟩:=hw;refine F ?_;try clear F
 subst Z;refine AB λF=>?_;cases r;obtain⟨L,V,G,O⟩:=I.bh E;refine F ?_;try clear F
 refine assign_Tuple_tuple (I.ok.hd A) G (by simp[C,<-B,V.ak]) U λq K=>?_;have Y:AY X D W H {s with heap:=q}:=I.de (t':=s.toks) λb o e=>K b o (Cv (Br e)) e;exact h D _ W H N _ Q Y (by simpa using V) hw
noncomputable def LV(U:A1)(g:EE):Cd:=λD F H=>U F H λx J=>g x F J D.nx
theorem lO{X:BR}{U:Ce}(q:X.N.Nodup)(hi:X.N[i]?=AA x)(E:Ht X.af.scope x)(A:Ae X e V)(C:JB e (AA (.Name x F)) U.line X.af=BB AO:=by rfl)(B:X.fn x=AF\/X.af.scope.names.lookup x=AA .local:=by first|exact .inl rfl|exact .inr rfl|assumption):DW X (.Assign [.Name x F] e U) (LV V (Di i)):=by intro J s K H D I h;refine wpAny_Assign_Name (A2 (A J s K H _ I h) λv s1⟨y,W,Y,r1,G⟩=>?_) C;exact Ox Y q hi E r1 (λs2 Z=>⟨_,W,Z,G⟩) B
noncomputable def nZ(i j:Nat)(U:Eb):Cd:=λD F H=>U F H λV J=>∃v w,V=[v,w]/\D.nx ((F.set i (AA v)).set j (AA w)) J
theorem lK{X:BR}{pos:Ce}(hc:X.bx=AF)(hN:X.N.Nodup)(hi:X.N[i]?=AA x)(hj:X.N[j]?=AA y)(hij:i≠j)(hx:X.af.scope.names.lookup x=AA .local)(hy:X.af.scope.names.lookup y=AA .local)(ha:Ep X [a,b] ta)(hw:swappedStores [.Tuple [.Name x px,.Name y py] kt pt] (.Tuple [a,b] k2 pt2) X.af=BB (AA [x,y]))(hs:swapsWithSole [.Tuple [.Name x px,.Name y py] kt pt] (.Tuple [a,b] k2 pt2) pos.line X.af=BB AO:=by rfl):DW X (.Assign [.Tuple [.Name x px,.Name y py] kt pt] (.Tuple [a,b] k2 pt2) pos) (nZ i j ta):=by
 intro pins s σ H D I h;rw[exec_Assign_arm];refine AX (tH ?_);rw[hs];refine AX (Aw ?_);rw[ABn (by decide)];refine AX (Tuple_ (A2 (ha _ pins s σ H _ I h) λus s1⟨vs,H1,I1,r1,q1⟩=>?_));refine AB λnG=>?_;obtain⟨v,w,e1,q1⟩:=q1;refine nG ?_;try clear nG
 subst e1;refine AB λnG=>?_;obtain⟨u1,u2,rfl,rv,rw'⟩:∃u1 u2,us=[u1,u2]/\BN v u1/\BN w u2:=by cases r1 with|cons p q=>cases q with|cons p' q'=>cases q';exact⟨_,_,rfl,p,p'⟩
 refine nG ?_;try clear nG
 refine Ki ?_ (by show 2<=An;decide);have I2:AY X pins σ H1 {s1 with heap:=s1.heap.push {cls:=.type "tuple",data:=.seq [u1,u2].toArray}}:=I1.de (t':=s1.toks) λb o e=>Bi _ e;rw[hw];refine AX (Aw ?_);show Aa (Ab X.ag X.w) X.A (do rule "assign.swapped-stores";let items<-unpackItems (.ref s1.heap.objs.size) 2 AD;r9 [λv=>Yb X.af y v,λv=>Yb X.af x v] items.reverse;BB G8) _ _ _;refine AX (HB (AX (unpackItems_tuple (items:=#[u1,u2]) (I.ok.hd hc) (Sj s1.heap _) λh' hx'=>?_)));have I3:=I2.de (h':=h') (t':=s1.toks) λb o e=>hx' b o (Cv (Br e)) e;show Aa _ _ (r9 [λv=>Yb X.af y v,λv=>Yb X.af x v] [u2,u1]>>=λ_=>BB G8) _ _ _;refine AX (qC (AAY (Ox I3 hN hj (.inl hy) rw' (λs2 I4=>?_) (.inr hy))));refine qC (AAY (Ox I4 hN hi (.inl hx) rv (λs3 I5=>xD (Aw ?_)) (.inr hx)));rw[List.set_comm _ _ (HX hij)]at I5;exact⟨_,H1,I5,q1⟩
noncomputable def Xh(c:Cg)(Z:Cd):Cd:=λD F H=>∃W:Nat->Aj->AN->Prop,(∃m,W m F H)/\∀m F H,W m F H->c F H λb V=>if b=AF then∃N:Aj->AN->Prop,(∀J U,N J U->∃Y,Y<m/\W Y J U)/\Z {D with nx:=N,ct:=N,bk:=D.nx} F V else D.nx F V
theorem R5{X:BR}(R:PassesOwn (Ab X.ag X.w) X.A X.af X.xe)(g:FK X c T)(e:Ea X body S):DW X (.While c body [] j) (Xh T S):=by
 intro J s o H D I h;refine AB λF=>?_;obtain⟨W,⟨i,l⟩,turn⟩:=h;refine F ?_;try clear F
 refine wpAny_While (codeAny_whileLoop (λn k=>∃Z L,AY X J Z L k/\W n Z L) ?_ i ⟨o,H,I,l⟩);intro n s1 d;refine AB λF=>?_;obtain⟨V,M,a,m⟩:=d;refine F ?_;try clear F
 refine NK R (A2 (g J s1 V M _ a (turn n V M m)) λb s2⟨O,P,q⟩=>?_);cases b with
 |true=>
  refine AB λF=>?_;obtain⟨N,Q,q⟩:=q;refine F ?_;try clear F
  rw[ABo rfl];refine NK R (A2 (e J s2 V O _ P q) λf s3 A=>?_);cases f with
  |next=>
   refine AB λF=>?_;obtain⟨U,Y,B,G⟩:=A;obtain⟨E,C,K⟩:=Q U Y G;refine F ?_;try clear F
   exact⟨E,C,U,Y,B,K⟩|cont=>
   refine AB λF=>?_;obtain⟨U,Y,B,G⟩:=A;obtain⟨E,C,K⟩:=Q U Y G;refine F ?_;try clear F
   exact⟨E,C,U,Y,B,K⟩|brk=>exact A|ret v=>exact A
 |false=> rw[ABn C6];exact PX ⟨V,O,P,q⟩
structure GQ where
 go:Nat->AN->Prop
 aej:Nat->AN->AH->AN->Prop
 aad:Nat->AN->Prop
noncomputable def KC(X:BR)(D:List (AI×A8))(H:AN)(b:AI):Prop:=H b=AD/\b≠X.af.locals/\b∉X.fs/\(b∈X.ex\/X.s₀.heap.objs.size<=b)/\(∀x c,X.af.cells.lookup x=AA c->c≠b)/\∀p∈X.pn++D,p.1≠b
theorem AY.abi{s:AU}(I:AY X D W H s)(F:s.heap.objs.size<=b)(U:J b=AD):KC X D J b:=by
 refine⟨U,Se (EI I.lt F),I.agp F,.inr (DE I.sz F),λx c e z=>?_,λp V z=>?_⟩;. obtain⟨v,q⟩:=I.ou x c e;exact absurd (EI q.lt (by rw[z];exact F)) (E6 _)
 .exact absurd (EI (Br (I.wt p V).1) (by rw[z];exact F)) (E6 _)
structure K7(P:CZ)(w:Bn)(K:Ar)(tg:BD)(J:GQ)(fp:List AI)(it:AI)(tn:Nat->A3->Prop):Prop where
 adp:it∈fp
 aaa:∀i h,tn i h->∀b∈fp,∃o,h.get? b=AA o/\∀v,o.data≠.cell v
 ae:∀i h h',tn i h->(∀b∈fp,∀o,h.get? b=AA o->h'.get? b=AA o)->tn i h'
 aal:∀(X:BR),X.ag=P->X.w=w->X.K=K->X.bx=AF->∀(i:Nat)(pins:List (AI×A8))(s:AU)(σ:Aj)(H:AN)(E:AK->AU->Prop),AY X pins σ H s->(∀b∈fp,KC X pins H b)->tn i s.heap->J.go i H->Aa (Ab P w) X.A (NI (.ref it)) (λr s1=>∃u,r=AA u/\Aa (Ab P w) X.A (Yf tg (.ref it) u) (λ_ s2=>∃x H',AY X pins σ H' s2/\BN x u/\J.aej i H x H'/\tn (i+1) s2.heap/\∀b∈fp,H' b=AD) E s1) E s
 aaj:∀(X:BR),X.ag=P->X.w=w->X.K=K->X.bx=AF->∀(i:Nat)(pins:List (AI×A8))(s:AU)(σ:Aj)(H:AN)(E:AK->AU->Prop),AY X pins σ H s->(∀b∈fp,KC X pins H b)->tn i s.heap->J.aad i H->Aa (Ab P w) X.A (NI (.ref it)) (λr s1=>r=AD/\AY X pins σ H s1) E s
 abu:∀(A:Cj)(i:Nat)(s:AU)(Q:AK->AU->Prop)(E:AK->AU->Prop),tn i s.heap->Q (.ref it) s->Aa (Ab P w) A (NH (.ref it)) Q E s
noncomputable abbrev Ec:=Aj->AN->(GQ->AN->Prop)->Prop
noncomputable def Vz(X:BR)(D:List (AI×A8))(q:Aj)(Z:BD)(R:GQ->AN->Prop)(U:AK)(s2:AU):Prop:=∃(W:AI)(V:List AI)(Y:Nat->A3->Prop)(J:GQ)(F:AN),U=.ref W/\AY X D q F s2/\K7 X.ag X.w X.K Z J V W Y/\Y 0 s2.heap/\(∀b∈V,KC X D F b)/\R J F
noncomputable def EZ(X:BR)(U F:BD)(wi:Ec):Prop:=∀(D:List (AI×A8))(s:AU)(J:Aj)(H:AN)(R:GQ->AN->Prop),AY X D J H s->wi J H R->Aa (Ab X.ag X.w) X.A (Bo F X.af) (λv s1=>Aa (Ab X.ag X.w) X.A (NH v) (Vz X D J U R) X.xe s1) X.xe s
theorem OY{s:AU}{o:A8}(W:s.heap.get? it=AA o)(J:o.cls=.type n)(U:o.data=.fields vs)(V:["enumerate","zip","dict_itemiterator","dict_reverseitemiterator","odict_iterator","itertools.zip_longest","itertools.pairwise"].contains n=AO)(D:Q () s):Aa M A (Yf F (.ref it) u) Q E s:=by unfold Yf;cases F<;>first|exact Aw D|(cases u<;>first|exact Aw D| (refine AX (tG W ?_);rw[J,U];show Aa M A (if(["enumerate","zip","dict_itemiterator","dict_reverseitemiterator","odict_iterator","itertools.zip_longest","itertools.pairwise"].contains n&&vs[0]?==AA (IF _))=AF then _ else _) Q E s;rw[ABn (by intro h;rw[V,Lv]at h;cases h)];exact Aw D))
noncomputable def JO(K:Ar)(a:AI):GQ:=⟨λi H=>∃D x,Bg K H a D/\D[i]?=AA x,λi H x F=>F=H/\∀D,Bg K H a D->D[i]?=AA x,λi H=>∃D,Bg K H a D/\D.length<=i⟩
noncomputable def Q6(K:Ar)(a:AI):GQ:=⟨λi H=>∃D x,Bw K H a D/\D[i]?=AA x,λi H x F=>F=H/\∀D,Bw K H a D->D[i]?=AA x,λi H=>∃D,Bw K H a D/\D.length<=i⟩
noncomputable def JP(lo:Int)(n:Nat):GQ:=⟨λi _=>i<n,λi H x D=>D=H/\x=.int (lo+i),λi _=>n<=i⟩
theorem oO{K:Ar}(a it:AI):K7 P w K y (JO K a) [it] it (λi h=>h.IsListIter it a i)where
 adp:=by simp
 aaa:=λi h F b U=>by
  have e:b=it:=by simpa using U
  subst e;refine AB λD=>?_;obtain⟨o,e,c,d⟩:=F;refine D ?_;try clear D
  exact⟨o,e,λv z=>by rw[d]at z;cases z⟩
 ae:=λi h W F k=>F.at λo e=>k it (by simp) o e
 aal:=by
  intro X M hw L S i J s T H E I Y F N;subst M hw L;refine AB λD=>?_;obtain⟨xs,x,Z,O⟩:=N;obtain⟨Q,R,p,n⟩:=I.cu Z;obtain⟨u,l,r⟩:=R.yl O;obtain⟨q,A,j,B,C,G⟩:=Y it (by simp);refine D ?_;try clear D
  refine wpAny_pyNext_list_item F p.isList (x:=u) (by simpa using l) λW V t=>?_;have f:AY X J T H {s with heap:=W}:=I.dk (t':=s.toks) (λb o U e=>(t.2 b U).trans e) q A B C G;refine AB λD=>?_;obtain⟨o,e,c,d⟩:=id V;refine D ?_;try clear D
  exact⟨u,rfl,OY (s:={s with heap:=W}) e c d (by decide) ⟨x,H,f,r,⟨rfl,λys m=>by rw[I.zr m Z];exact O⟩,V,λb U=>(Y b U).1⟩⟩
 aaj:=by
  intro X M hw L S i J s T H E I Y F N;subst M hw L;refine AB λD=>?_;obtain⟨xs,Z,O⟩:=N;obtain⟨Q,R,p,n⟩:=I.cu Z;obtain⟨q,A,j,B,C,G⟩:=Y it (by simp);refine D ?_;try clear D
  have hl:=R.ak;exact wpAny_pyNext_list_end (I.ok.hd S) F p.isList (by simp;(first|lia|omega)) λW g=>⟨rfl,I.dk (t':=s.toks) (λb o U e=>g b o U e) q A B C G⟩
 abu:=λ_ _ _ _ _ F h=>wpAny_pyIter_listiter F h
theorem oQ{K:Ar}(a it:AI):K7 P w K y (Q6 K a) [it] it (λi h=>h.IsTupleIter it a i)where
 adp:=by simp
 aaa:=λi h F b U=>by
  have e:b=it:=by simpa using U
  subst e;refine AB λD=>?_;obtain⟨o,e,c,d⟩:=F;refine D ?_;try clear D
  exact⟨o,e,λv z=>by rw[d]at z;cases z⟩
 ae:=λi h Y F k=>F.at λo e=>k it (by simp) o e
 aal:=by
  intro X N hw M S i J s T H E I Z F O;subst N hw M;refine AB λD=>?_;obtain⟨xs,x,q,Q⟩:=O;obtain⟨V,R,p,n⟩:=I.bh q;obtain⟨u,l,r⟩:=R.yl Q;obtain⟨A,B,j,C,G,L⟩:=Z it (by simp);refine D ?_;try clear D
  refine wpAny_pyNext_tuple_item F (show s.heap.IsTuple a V.toArray from p) (x:=u) (by simpa using l) λY W t=>?_;have f:AY X J T H {s with heap:=Y}:=I.dk (t':=s.toks) (λb o U e=>(t.2 b U).trans e) A B C G L;refine AB λD=>?_;obtain⟨o,e,c,d⟩:=id W;refine D ?_;try clear D
  exact⟨u,rfl,OY (s:={s with heap:=Y}) e c d (by decide) ⟨x,H,f,r,⟨rfl,λys m=>by rw[I.abw m q];exact Q⟩,W,λb U=>(Z b U).1⟩⟩
 aaj:=by
  intro X N hw M S i J s T H E I Z F O;subst N hw M;refine AB λD=>?_;obtain⟨xs,q,Q⟩:=O;obtain⟨V,R,p,n⟩:=I.bh q;obtain⟨A,B,j,C,G,L⟩:=Z it (by simp);refine D ?_;try clear D
  have hl:=R.ak;exact wpAny_pyNext_tuple_end (I.ok.hd S) F (show s.heap.IsTuple a V.toArray from p) (by simp;(first|lia|omega)) λY g=>⟨rfl,I.dk (t':=s.toks) (λb o U e=>g b o U e) A B C G L⟩
 abu:=λ_ _ _ _ _ F h=>wpAny_pyIter_tupleiter F h
theorem oP{K:Ar}(it:AI)(lo:Int)(n:Nat):K7 P w K f (JP lo n) [it] it (λi h=>IsRangeIter h it (lo+(i:Nat)*1) ((n:Int)-(i:Nat)) 1)where
 adp:=by simp
 aaa:=λi h D b J=>by
  have e:b=it:=by simpa using J
  subst e;exact⟨_,D,λv z=>by have g:Data.fields _=Data.cell v:=z;cases g⟩
 ae:=λi h Y D k=>k it (by simp) _ D
 aal:=by
  intro X M hw L N i F s R H E I Z D O;subst M hw L;refine AB λU=>?_;obtain⟨q,A,a,B,C,G⟩:=Z it (by simp);refine U ?_;try clear U
  have W:=Walks.range (prog:=X.ag) (w:=X.w) (I.ok.hd N) it lo 1 n;refine W.item i s _ _ O D λv Y Q c V d=>?_;obtain⟨t,rfl⟩:=c;have S:AY X F R H {s with heap:=Y,toks:=Q}:=I.dk (λb o J e=>d b o (by simpa using J) e) q A B C G;refine⟨_,rfl,OY (s:={s with heap:=Y,toks:=Q}) (n:="range_iterator") V rfl rfl (by decide) ⟨.int (lo+i),H,S,⟨t,?_⟩,⟨rfl,rfl⟩,V,λb J=>(Z b J).1⟩⟩;rw[Int.mul_one]
 aaj:=by
  intro X M hw L N i F s R H E I Z D O;subst M hw L;refine AB λU=>?_;obtain⟨q,A,a,B,C,G⟩:=Z it (by simp);refine U ?_;try clear U
  exact wpAny_pyNext_range_end (I.ok.hd N) D (by have:n<=i:=O;(first|lia|omega)) λY T=>⟨rfl,I.dk (t':=s.toks) (λb o J e=>T b o J e) q A B C G⟩
 abu:=λ_ _ _ _ _ D h=>wpAny_pyIter_rangeiter D h
noncomputable def WV(K:Ar)(F:A1):Ec:=λU H R=>F U H λx D=>∃a,x=.ref a/\(∃J,Bg K D a J)/\R (JO K a) D
noncomputable def WW(K:Ar)(F:A1):Ec:=λU H R=>F U H λx D=>∃a,x=.ref a/\(∃J,Bw K D a J)/\R (Q6 K a) D
theorem lF{X:BR}{K:BD}(Y:Ae X l U):EZ X K l (WV X.K U):=by
 intro F s C H R I h;refine A2 (Y F s C H _ I h) λv s1⟨x,V,J,r1,B⟩=>?_;refine AB λD=>?_;obtain⟨a,e,⟨L,Z⟩,q⟩:=B;refine D ?_;try clear D
 subst e;refine AB λD=>?_;cases r1;obtain⟨A,G,p,E⟩:=J.cu Z;refine D ?_;try clear D
 refine AAe p.isList ?_;refine⟨s1.heap.objs.size,[s1.heap.objs.size],_,_,V,rfl,J.de (t':=s1.toks) λb o e=>Bi _ e,oO a _,⟨_,Df _ rfl,rfl,rfl⟩,λb W=>?_,q⟩;have e:b=s1.heap.objs.size:=by simpa using W
 subst e;exact J.abi (Af _) (J.bb.az (Af _))
theorem lG{X:BR}{K:BD}(Z:Ae X l V):EZ X K l (WW X.K V):=by
 intro F s C H R I h;refine A2 (Z F s C H _ I h) λv s1⟨x,W,J,r1,B⟩=>?_;refine AB λD=>?_;obtain⟨a,e,⟨L,A⟩,q⟩:=B;refine D ?_;try clear D
 subst e;refine AB λD=>?_;cases r1;obtain⟨U,G,p,E⟩:=J.bh A;refine D ?_;try clear D
 refine AAg (show s1.heap.IsTuple a U.toArray from p) ?_;refine⟨s1.heap.objs.size,[s1.heap.objs.size],_,_,W,rfl,J.de (t':=s1.toks) λb o e=>Bi _ e,oQ a _,⟨_,Df _ rfl,rfl,rfl⟩,λb Y=>?_,q⟩;have e:b=s1.heap.objs.size:=by simpa using Y
 subst e;exact J.abi (Af _) (J.bb.az (Af _))
theorem mI{X:BR}{s:AU}{lo:Int}(I:AY X D U H s)(Y:-(2^62)<=lo)(Z:lo<2^62)(A:-(2^62)<=hi)(B:hi<2^62)(q:R (JP lo (hi-lo).toNat) H):Aa (Ab X.ag X.w) X.A (NH (.ref s.heap.objs.size)) (Vz X D U G R) E {s with heap:=s.heap.push {cls:=.type "range",data:=.fields #[.int lo t,.int hi u,.int 1 v]},toks:=J}:=by
  refine wpAny_pyIter_range (yZ ..) (small_one Y Z A B) ?_;have F:AY X D U H {s with heap:=s.heap.push {cls:=.type "range",data:=.fields #[.int lo t,.int hi u,.int 1 v]},toks:=J}:=I.de λb o e=>Bi _ e;refine⟨(s.heap.push {cls:=.type "range",data:=.fields #[.int lo t,.int hi u,.int 1 v]}).objs.size,[(s.heap.push {cls:=.type "range",data:=.fields #[.int lo t,.int hi u,.int 1 v]}).objs.size],_,_,H,rfl,F.de (t':=J) λb o e=>Bi _ e,oP _ lo (hi-lo).toNat,?_,λb C=>?_,q⟩
  . have V:lo+((0:Nat):Int)*1=lo:=by simp
    have W:(((hi-lo).toNat:Nat):Int)-((0:Nat):Int)=qT lo hi 1:=by rw[rangeSize_one];split<;>(first|lia|omega)
    show IsRangeIter _ _ (lo+((0:Nat):Int)*1) ((((hi-lo).toNat:Nat):Int)-((0:Nat):Int)) 1;rw[V,W];exact Df _ rfl
  . have e:b=(s.heap.push {cls:=.type "range",data:=.fields #[.int lo t,.int hi u,.int 1 v]}).objs.size:=by simpa using C
    subst e;exact F.abi (Af _) (F.bb.az (Af _))
noncomputable def iU(F:Eb):Ec:=λU H R=>F U H λJ D=>∃j:Int,J=[.int j]/\-(2^62)<=j/\j<2^62/\R (JP 0 j.toNat) D
theorem Mj{X:BR}(Z:Eo X "range")(A:X.mg "range"=AD)(Y:Ep X [a] V)(B:Bz [a] X.af=[(AO,Bo a X.af)]:=by rfl):EZ X L (.Call (.Name "range" p) [a] [] J) (iU V):=by
 intro F s G H R I h;refine Call_ (Ih I Z A boot_range (O9 (A2 (Y J F s G H _ I h) λM s1⟨N,K,W,r1,U⟩=>?_) B rfl));refine AB λD=>?_;obtain⟨j,e,U,C,q⟩:=U;refine D ?_;try clear D
 subst e;cases r1 with|cons r E=>
  refine AB λD=>?_;cases E;obtain⟨t,rfl⟩:=r;refine D ?_;try clear D
  exact call_range_1 (mI W (by(first|lia|omega)) (by(first|lia|omega)) U C (by simpa using q))
noncomputable def nK(wi:Ec)(g:EE)(B:Cd):Cd:=λD F H=>wi F H λJ q=>∃W:Nat->Nat->Aj->AN->Prop,(∃m,W 0 m F q)/\∀i m F H,W i m F H->(J.aad i H/\D.nx F H)\/(J.go i H/\∃N:Aj->AN->Prop,(∀V U,N V U->∃Z,Z<m/\W (i+1) Z V U)/\∀x U,J.aej i H x U->g x F U λY A=>B {D with nx:=N,ct:=N,bk:=D.nx} Y A)
noncomputable def Ml(D:List AI)(h:A3):List (AI×A8):=D.filterMap λb=>(h.get? b).map λo=>(b,o)
theorem Rc{h:A3}(F:b∈D)(e:h.get? b=AA o):(b,o)∈Ml D h:=Xx.mpr ⟨b,F,by rw[e];rfl⟩
theorem kE{h:A3}{p:AI×A8}(V:p∈Ml D h):p.1∈D/\h.get? p.1=AA p.2:=by
 refine AB λF=>?_;obtain⟨b,U,e⟩:=Xx.mp V;refine F ?_;try clear F
 cases q:h.get? b with|none=>rw[q]at e;cases e|some o=>rw[q]at e;have J:(b,o)=p:=De e;subst J;exact⟨U,q⟩
theorem AY.acq{s:AU}(I:AY X D W H s)(A:∀b∈F,KC X D H b)(B:∀b∈F,∃o,s.heap.get? b=AA o/\∀v,o.data≠.cell v):AY X (D++Ml F s.heap) W H s:=I.qq λp C=>(CT.mp C).elim (λz=>I.wt p (ET _ z)) λz=>by
 refine AB λV=>?_;obtain⟨U,e⟩:=kE z;obtain⟨Y,Z,q,_⟩:=A p.1 U;obtain⟨o,J,d⟩:=B p.1 U;refine V ?_;try clear V
 rw[e]at J;cases J;exact⟨e,Y,Z,q,d⟩
theorem AY.vq(I:AY X (D++pl) F H s):AY X D F H s:=I.qq λp J=>I.wt p (ET _ (Fs _ J))
theorem Dp{X:BR}(P:PassesOwn (Ab X.ag X.w) X.A X.af X.xe)(hc:X.bx=AF)(hi:EZ X tg A wi)(hg:JR X tg g)(q:Ea X body tb)(hs:∀x,JA A X.af x=BB x:=by intro _;rfl):DW X (.For tg A body [] p) (nK wi g tb):=by
  intro F s σ H D I h;refine wpAny_For (A2 (hi F s σ H _ I h) λv s1 h1=>A2 h1 λitv s2 h2=>?_) hs;refine AB λR=>?_;obtain⟨it,M,tn,J,H2,e,I2,T,w,f2,W,⟨m0,w0⟩,turn⟩:=h2;refine R ?_;try clear R
  subst e;have B:∀{G:AN},(∀b∈M,G b=AD)->∀b∈M,KC X F G b:=λhn b q=>⟨hn b q,(f2 b q).2⟩;refine codeAny_forLoop_any (λn s'=>∃i C G,AY X F C G s'/\tn i s'.heap/\(∀b∈M,G b=AD)/\W i n C G) ?_ m0 ⟨0,σ,H2,I2,w,λb q=>(f2 b q).1,w0⟩;intro n s3 hI;refine AB λR=>?_;obtain⟨i,E,c,I3,S,O,w3⟩:=hI;refine R ?_;try clear R
  rcases turn i n E c w3 with⟨a,qn⟩|⟨go,N,hN,step⟩
  . refine NK P (A2 (T.aaj X rfl rfl rfl hc i F s3 E c X.xe I3 (B O) S a) λr s4⟨l,I4⟩=>?_);subst l;exact PX ⟨E,c,I4,qn⟩
  . refine NK P (A2 (T.aal X rfl rfl rfl hc i F s3 E c X.xe I3 (B O) S go) λr s4⟨u,l,h4⟩=>?_);subst l;refine NK P (A2 h4 λ_ s5⟨x,z,I5,r5,y5,L,k⟩=>?_);have j:=I5.acq (B k) (T.aaa _ _ L);refine NK P (A2 (hg _ s5 E z x u _ j r5 (step x z y5)) λ_ s6⟨y,H6,I6,q6⟩=>?_);refine NK P (A2 (q _ s6 y H6 _ I6 q6) λf t K=>?_);have Z:∀{U:Aj}{V:AN},AY X (F++Ml M s5.heap) U V t->N U V->∃m,m<n/\∃i C G,AY X F C G t/\tn i t.heap/\(∀b∈M,G b=AD)/\W i m C G:=λ{U V}Y Q=>by obtain⟨m',hm,w7⟩:=hN U V Q;refine⟨m',hm,i+1,U,V,Y.vq,T.ae _ _ _ L λb q o e=>(Y.wt (b,o) (ET _ (ET _ (Rc q e)))).1,λb q=>?_,w7⟩;obtain⟨o,e,d⟩:=T.aaa _ _ L b q;exact(Y.wt (b,o) (ET _ (ET _ (Rc q e)))).2.1
    cases f with |next=>obtain⟨U,V,Y,Q⟩:=K;exact Z Y Q|cont=>obtain⟨U,V,Y,Q⟩:=K;exact Z Y Q|brk=>obtain⟨U,V,Y,K⟩:=K;exact⟨U,V,Y.vq,K⟩|ret v=>obtain⟨x7,U,V,Y,r7,K⟩:=K;exact⟨x7,U,V,Y.vq,r7,K⟩
theorem Fm{K:Ar}{a:AI}{xs:List AH}{g:EE}{G:Cd}{D:GP}{F:Aj}{H:AN}(J:Nat->Aj->AN->Prop)(I:J 0 F H)(P:∀i F H,i<=xs.length->J i F H->Bg K H a xs)(Q:∀i x F H,xs[i]?=AA x->J i F H->g x F H λZ B=>G {D with nx:=J (i+1),ct:=J (i+1),bk:=D.nx} Z B)(M:∀F H,J xs.length F H->D.nx F H):∃W:Nat->Nat->Aj->AN->Prop,(∃m,W 0 m F H)/\∀i m F H,W i m F H->((JO K a).aad i H/\D.nx F H)\/((JO K a).go i H/\∃N:Aj->AN->Prop,(∀Y U,N Y U->∃C,C<m/\W (i+1) C Y U)/\∀x U,(JO K a).aej i H x U->g x F U λZ B=>G {D with nx:=N,ct:=N,bk:=D.nx} Z B):=by
  refine⟨λi m F H=>m=xs.length-i/\i<=xs.length/\J i F H,⟨xs.length,by simp,Bd _,I⟩,?_⟩;intro i m F H L;refine AB λE=>?_;obtain⟨rfl,O,p⟩:=L;refine E ?_;try clear E
  have q:=P i F H O p;by_cases A:i<xs.length
  . refine .inr ⟨⟨xs,xs[i],q,by simp[A]⟩,J (i+1),λY U R=>⟨xs.length-(i+1),by(first|lia|omega),rfl,A,R⟩,λx U y=>?_⟩;obtain⟨e,y⟩:=y;subst e;exact Q i x F _ (y xs q) p
  . have e:i=xs.length:=by(first|lia|omega)
    subst e;exact .inl ⟨⟨xs,q,Af _⟩,M F H p⟩
theorem RN{lo:Int}{n:Nat}{g:EE}{C:Cd}{D:GP}{F:Aj}{H:AN}(U:Nat->Aj->AN->Prop)(E:U 0 F H)(K:∀i F H,i<n->U i F H->g (.int (lo+i)) F H λZ q=>C {D with nx:=U (i+1),ct:=U (i+1),bk:=D.nx} Z q)(I:∀F H,U n F H->D.nx F H):∃W:Nat->Nat->Aj->AN->Prop,(∃m,W 0 m F H)/\∀i m F H,W i m F H->((JP lo n).aad i H/\D.nx F H)\/((JP lo n).go i H/\∃N:Aj->AN->Prop,(∀Y J,N Y J->∃A,A<m/\W (i+1) A Y J)/\∀x J,(JP lo n).aej i H x J->g x F J λZ q=>C {D with nx:=N,ct:=N,bk:=D.nx} Z q):=by
  refine⟨λi m F H=>m=n-i/\i<=n/\U i F H,⟨n,by simp,Bd _,E⟩,?_⟩;intro i m F H G;refine AB λB=>?_;obtain⟨rfl,M,p⟩:=G;refine B ?_;try clear B
  by_cases V:i<n
  . refine .inr ⟨V,U (i+1),λY J L=>⟨n-(i+1),by(first|lia|omega),rfl,V,L⟩,λx J y=>?_⟩;obtain⟨e,y⟩:=y;subst e y;exact K i F _ V p
  . have e:i=n:=by(first|lia|omega)
    subst e;exact .inl ⟨Af _,I F H p⟩
theorem oZ{D:GP}(W:Aj->AN->Prop)(Z:Aj->AN->Nat)(C:W F H)(E:∀F H,W F H->c F H λb V=>if b=AF then B {D with nx:=λJ U=>W J U/\Z J U<Z F H,ct:=λJ U=>W J U/\Z J U<Z F H,bk:=D.nx} F V else D.nx F V)(Y:∀F H Q A,(∀b V,Q b V->A b V)->c F H Q->c F H A):Xh c B D F H:=by refine⟨λm F H=>m=Z F H/\W F H,⟨_,rfl,C⟩,?_⟩;rintro m F H⟨rfl,p⟩;refine Y F H _ _ (λb V q=>?_) (E F H p);cases b with|true=>exact⟨_,λJ U⟨G,l⟩=>⟨_,l,rfl,G⟩,q⟩|false=>exact q
noncomputable abbrev DH:=AH->AH->AN->BU->Prop
noncomputable def CO(X:BR)(f:AK->AK->Cs AK)(r:DH):Prop:=∀(D:List (AI×A8))(s:AU)(F:Aj)(H:AN)(x y:AH)(v u:AK)(Q:BU),AY X D F H s->BN x v->BN y u->r x y H Q->Aa (Ab X.ag X.w) X.A (f v u) (ED X D F Q) X.xe s
noncomputable def OO(X:BR)(f:AK->Cs AK)(r:AH->AN->BU->Prop):Prop:=∀(D:List (AI×A8))(s:AU)(F:Aj)(H:AN)(x:AH)(v:AK)(Q:BU),AY X D F H s->BN x v->r x H Q->Aa (Ab X.ag X.w) X.A (f v) (ED X D F Q) X.xe s
noncomputable def EB(X:BR)(f:AK)(r:List AH->AN->BU->Prop):Prop:=∀(D:List (AI×A8))(s:AU)(U:Aj)(H:AN)(J:List AH)(F:List AK)(Q:BU),AY X D U H s->BO J F->r J H Q->Aa (Ab X.ag X.w) X.A (HA f F) (ED X D U Q) X.xe s
noncomputable def gM(X:BR)(r:AH->AN->(Bool->AN->Prop)->Prop):Prop:=∀(D:List (AI×A8))(s:AU)(F:Aj)(H:AN)(x:AH)(v:AK)(Q:Bool->AN->Prop),AY X D F H s->BN x v->r x H Q->Aa (Ab X.ag X.w) X.A (Ym v) (OM X D F Q) X.xe s
noncomputable def Jc(r:DH)(U V:A1):A1:=λD H Q=>U D H λx F=>V D F λy J=>r x y J Q
noncomputable def oG(r:AH->AN->BU->Prop)(F:A1):A1:=λJ H Q=>F J H λx D=>r x D Q
noncomputable def LR(C:Int->Int->Prop)(g:Int->Int->AH):DH:=λx y H Q=>∃i j,x=.int i/\y=.int j/\C i j/\Q (g i j) H
noncomputable def Jb(g:Int->Int->AH):DH:=λx y H Q=>∃i j,x=.int i/\y=.int j/\Q (g i j) H
noncomputable def XI(g:Int->AH):AH->AN->BU->Prop:=λx H Q=>∃i,x=.int i/\Q (g i) H
theorem RE{X:BR}{a b:BD}{K L:A1}(A:Ae X a K)(B:Ae X b L){D:List (AI×A8)}{s:AU}{J:Aj}{H:AN}{R:AH->AH->AN->Prop}(I:AY X D J H s)(h:K J H λx Y=>L J Y λy F=>R x y F){Q:AK->AU->Prop}{f:AK->AK->Cs AK}(C:∀v u s2 x y F,AY X D J F s2->BN x v->BN y u->R x y F->Aa (Ab X.ag X.w) X.A (f v u) Q X.xe s2):Aa (Ab X.ag X.w) X.A (Bo a X.af) (λv U=>Aa (Ab X.ag X.w) X.A (Bo b X.af) (λu W=>Aa (Ab X.ag X.w) X.A (f v u) Q X.xe W) X.xe U) X.xe s:=by refine A2 (A D s J H _ I h) λv s1⟨x,Y,Z,r1,E⟩=>?_;refine A2 (B D s1 J Y _ Z E) λu s2⟨y,F,q,r2,G⟩=>?_;exact C v u s2 x y F q r1 r2 G
theorem AS(W:CO X (FX op) r)(U:Ae X a B)(V:Ae X b C):Ae X (.BinOp a op b Y) (Jc r B C):=by intro D s E H Q I h;exact wpAny_BinOp (RE U V I h λv u s2 x y F J Z A q=>W D s2 E F x y v u Q J Z A q)
theorem Oq(Y:OO X (sZ op) r)(W:Ae X a A):Ae X (.UnaryOp op a Z) (oG r A):=by intro D s F H Q I h;exact UnaryOp_ (A2 (W D s F H _ I h) λv s1⟨x,J,U,r1,q⟩=>Y D s1 F J x v Q U r1 q)
theorem Oh{C:Int->Int->Prop}{g:Int->Int->Int}(D:∀(i j:Int)(t u:G9)(s:AU)(Q:AK->AU->Prop)(E:AK->AU->Prop),C i j->Q (.int (g i j) s.toks) {s with toks:=s.toks+1}->Aa (Ab X.ag X.w) X.A (f (.int i t) (.int j u)) Q E s):CO X f (LR C λi j=>.int (g i j)):=by
 intro J s Z H x y v u Q I V W h;refine AB λF=>?_;obtain⟨i,j,rfl,rfl,U,q⟩:=h;obtain⟨t,rfl⟩:=V;obtain⟨Y,rfl⟩:=W;refine F ?_;try clear F
 exact D i j t Y s _ _ U ⟨.int (g i j),H,I.uh _,⟨_,rfl⟩,q⟩
theorem W0{g:Int->Int->Int}(D:∀(i j:Int)(t u:G9)(s:AU)(Q:AK->AU->Prop)(E:AK->AU->Prop),Q (.int (g i j) s.toks) {s with toks:=s.toks+1}->Aa (Ab X.ag X.w) X.A (f (.int i t) (.int j u)) Q E s):CO X f (Jb λi j=>.int (g i j)):=by
 intro J s Y H x y v u Q I U V h;refine AB λF=>?_;obtain⟨i,j,rfl,rfl,q⟩:=h;obtain⟨t,rfl⟩:=U;obtain⟨W,rfl⟩:=V;refine F ?_;try clear F
 exact D i j t W s _ _ ⟨.int (g i j),H,I.uh _,⟨_,rfl⟩,q⟩
theorem Ri{g:Int->Int->Bool}(D:∀(i j:Int)(t u:G9)(s:AU)(Q:AK->AU->Prop)(E:AK->AU->Prop),Q (.bool (g i j)) s->Aa (Ab X.ag X.w) X.A (f (.int i t) (.int j u)) Q E s):CO X f (Jb λi j=>.bl (g i j)):=by
 intro J s Y H x y v u Q I U V h;refine AB λF=>?_;obtain⟨i,j,rfl,rfl,q⟩:=h;obtain⟨t,rfl⟩:=U;obtain⟨W,rfl⟩:=V;refine F ?_;try clear F
 exact D i j t W s _ _ ⟨.bl (g i j),H,I,rfl,q⟩
noncomputable def Vs(i j:Int):Prop:=0<j/\j<1073741824
noncomputable def gD(i j:Int):Prop:=0<=j/\j<=1000000/\i.natAbs<2^64
noncomputable def Q3(i j:Int):Prop:=(-(2^64)<i/\i<2^64)\/(-(2^64)<j/\j<2^64)
theorem Q3.ok(h:Q3 i j):IntMulOk i j:=by
 rcases h with⟨D,F⟩|⟨D,F⟩;.exact .of_left (AAN D F)
 .exact .of_right (AAN D F)
theorem JX:CO X (FX .Add) (Jb λi j=>.int (i+j)):=W0 λ_ _ _ _ _ _ _ q=>add_int q
theorem Mg:CO X (FX .Sub) (Jb λi j=>.int (i-j)):=W0 λ_ _ _ _ _ _ _ q=>sub_int q
theorem W4:CO X (FX .Mult) (LR Q3 λi j=>.int (i*j)):=Oh λ_ _ _ _ _ _ _ D q=>mul_int q D.ok
theorem Rk:CO X (FX .FloorDiv) (LR Vs λi j=>.int (i/j)):=Oh λi j _ _ _ _ _ D q=>by have F:(0:Int)<j:=D.1;have J:j<1073741824:=D.2;exact floordiv_int (by(first|lia|omega)) (by rw[Int.fdiv_eq_ediv_of_nonneg i (by(first|lia|omega))];exact q) (.inl (xW (by(first|lia|omega))))
theorem kK:CO X (FX .Mod) (LR (λ_ j=>0<j) λi j=>.int (i%j)):=Oh λi j _ _ _ _ _ D q=>by have F:(0:Int)<j:=D;exact mod_int' (by(first|lia|omega)) (by rw[Int.fmod_eq_emod_of_nonneg i (by(first|lia|omega))];exact q)
theorem kN:CO X (FX .Pow) (LR gD λi j=>.int (i^j.toNat)):=Oh λ_ _ _ _ _ _ _ D q=>pow_int_small D.1 D.2.1 D.2.2 q
theorem oU{g:Int->Int}(D:∀(i:Int)(t:G9)(s:AU)(Q:AK->AU->Prop)(E:AK->AU->Prop),Q (.int (g i) s.toks) {s with toks:=s.toks+1}->Aa (Ab X.ag X.w) X.A (f (.int i t)) Q E s):OO X f (XI λi=>.int (g i)):=by
 intro J s V H x v Q I U h;refine AB λF=>?_;obtain⟨i,rfl,q⟩:=h;obtain⟨t,rfl⟩:=U;refine F ?_;try clear F
 exact D i t s _ _ ⟨.int (g i),H,I.uh _,⟨_,rfl⟩,q⟩
theorem Oz:OO X (sZ .USub) (XI λi=>.int (-i)):=oU λ_ _ _ _ _ q=>neg_int q
noncomputable def XQ:AH->AH->Bool|.non,.non=>AF|.non,.int _=>AF|.int _,.non=>AF|.non,.bl _=>AF|.bl _,.non=>AF|.non,.str _=>AF|.str _,.non=>AF|.int _,.int _=>AF|.bl _,.bl _=>AF|.str _,.str _=>AF|.byt _,.byt _=>AF|.int _,.str _=>AF|.str _,.int _=>AF|.bl _,.str _=>AF|.str _,.bl _=>AF|_,_=>AO
noncomputable def lX:DH:=λx y H Q=>XQ x y=AF/\Q (.bl (AZ (x=y))) H
noncomputable def mD:DH:=λx y H Q=>XQ x y=AF/\Q (.bl (!AZ (x=y))) H
theorem WK:AZ (AH.int i=AH.int j)=(i==j):=by rw[Lu];simp
theorem WI:AZ (AH.bl i=AH.bl j)=(i==j):=by rw[Lu];simp
theorem WL:AZ (AH.str i=AH.str j)=(i==j):=by rw[Lu];simp
theorem WJ{i j:Array UInt8}:AZ (AH.byt i=AH.byt j)=(i.toList==j.toList):=by
 rw[Lu];refine AB λD=>?_;cases i;cases j;refine D ?_;try clear D
 simp
theorem DJ(I:AY X D J H s)(q:Q (.bl k) H)(e:k=F):ED X D J Q (.bool F) s:=by subst e;exact⟨.bl k,H,I,rfl,q⟩
theorem Ca:CO X (EJ .Eq) lX:=by intro pins s σ H x y v u Q I rx ry h;obtain⟨hs,q⟩:=h;cases x with
 |non=> cases rx;cases y with |non=>cases ry;exact ABE (DJ I q (by simp))|bl j=>cases ry;exact ABC (DJ I q (by simp))|int j=>obtain⟨t',rfl⟩:=ry;exact ABD (DJ I q (by simp))|str j=>obtain⟨t',rfl⟩:=ry;exact ABF (DJ I q (by simp))|_=>exact absurd (show AO=AF from hs) C6
 |bl i=> cases rx;cases y with |non=>cases ry;exact ABA (DJ I q (by simp))|bl j=>cases ry;exact eq_bool (DJ I q WI)|str j=>obtain⟨t',rfl⟩:=ry;exact AA2 (DJ I q (by simp))|_=>exact absurd (show AO=AF from hs) C6
 |int i=> obtain⟨t,rfl⟩:=rx;cases y with |non=>cases ry;exact ABB (DJ I q (by simp))|int j=>obtain⟨t',rfl⟩:=ry;exact eq_int (DJ I q WK)|str j=>obtain⟨t',rfl⟩:=ry;exact AA3 (DJ I q (by simp))|_=>exact absurd (show AO=AF from hs) C6
 |str i=> obtain⟨t,rfl⟩:=rx;cases y with |non=>cases ry;exact ABG (DJ I q (by simp))|bl j=>cases ry;exact AA4 (DJ I q (by simp))|int j=>obtain⟨t',rfl⟩:=ry;exact AA5 (DJ I q (by simp))|str j=>obtain⟨t',rfl⟩:=ry;exact eq_str (DJ I q WL)|_=>exact absurd (show AO=AF from hs) C6
 |byt i=> obtain⟨t,rfl⟩:=rx;cases y with |byt j=>obtain⟨t',rfl⟩:=ry;exact W.eq_bytes (DJ I q WJ)|_=>exact absurd (show AO=AF from hs) C6
 |_=>cases y<;>exact absurd (show AO=AF from hs) C6
theorem Oj:CO X (EJ .NotEq) mD:=by intro pins s σ H x y v u Q I rx ry h;obtain⟨hs,q⟩:=h;cases x with
 |non=>cases rx;cases y with |non=>cases ry;exact ABL (DJ I q (by simp))|bl j=>cases ry;exact ABJ (DJ I q (by simp))|int j=>obtain⟨t',rfl⟩:=ry;exact ABK (DJ I q (by simp))|str j=>obtain⟨t',rfl⟩:=ry;exact ABM (DJ I q (by simp))|_=>exact absurd (show AO=AF from hs) C6
 |bl i=>cases rx;cases y with |non=>cases ry;exact ABH (DJ I q (by simp))|bl j=>cases ry;exact ne_bool (DJ I q (ABp not WI))|str j=>obtain⟨t',rfl⟩:=ry;exact AA6 (DJ I q (by simp))|_=>exact absurd (show AO=AF from hs) C6
 |int i=> obtain⟨t,rfl⟩:=rx;cases y with |non=>cases ry;exact ABI (DJ I q (by simp))|int j=>obtain⟨t',rfl⟩:=ry;exact ne_int (DJ I q (ABp not WK))|str j=>obtain⟨t',rfl⟩:=ry;exact AA7 (DJ I q (by simp))|_=>exact absurd (show AO=AF from hs) C6
 |str i=> obtain⟨t,rfl⟩:=rx;cases y with |non=>cases ry;exact ABN (DJ I q (by simp))|bl j=>cases ry;exact AA8 (DJ I q (by simp))|int j=>obtain⟨t',rfl⟩:=ry;exact AA9 (DJ I q (by simp))|str j=>obtain⟨t',rfl⟩:=ry;exact ne_str (DJ I q (ABp not WL))|_=>exact absurd (show AO=AF from hs) C6
 |byt i=> obtain⟨t,rfl⟩:=rx;cases y with |byt j=>obtain⟨t',rfl⟩:=ry;exact W.ne_bytes (DJ I q (ABp not WJ))|_=>exact absurd (show AO=AF from hs) C6
 |_=>cases y<;>exact absurd (show AO=AF from hs) C6
theorem Rp:CO X (EJ .Lt) (Jb λi j=>.bl (AZ (i<j))):=Ri λ_ _ _ _ _ _ _ q=>qN q
theorem Ro:CO X (EJ .LtE) (Jb λi j=>.bl (AZ (i<=j))):=Ri λ_ _ _ _ _ _ _ q=>le_int q
theorem W3:CO X (EJ .Gt) (Jb λi j=>.bl (AZ (j<i))):=Ri λ_ _ _ _ _ _ _ q=>gt_int q
theorem BL(b:BD)(h:op≠.In:=by decide)(J:op≠.NotIn:=by decide):Ya op b=AO:=by
 have D:(op==CmpOp.In)=AO:=by cases op<;>first|rfl|exact absurd rfl h
 have F:(op==CmpOp.NotIn)=AO:=by cases op<;>first|rfl|exact absurd rfl J
 cases b<;>simp[Ya,D,F]
theorem W9(Y:CO X (EJ op) r)(U:Ae X a C)(V:Ae X b E)(W:Ya op b=AO):Ae X (.Compare a [op] [b] Z) (Jc r C E):=by intro D s G H Q I h;exact wpAny_Compare1 (RE U V I h λv u s2 x y F J A B q=>Y D s2 G F x y v u Q J A B q) W
noncomputable def Xf(t:A1):Cg:=λF H Q=>t F H λx D=>∃k,x=.bl k/\Q k D
theorem BK(C:CO X (EJ op) r)(q:Ae X a N)(A:Ae X b O)(B:Ya op b=AO):FK X (.Compare a [op] [b] E) (Xf (Jc r N O)):=by intro D s F H Q I h;refine wpAny_isTrue_Compare1 (A2 (q D s F H _ I h) λv s1⟨x,J,W,r1,G⟩=>A2 (A D s1 F J _ W G) λu s2⟨y,U,Y,r2,K⟩=>A2 (C D s2 F U x y v u _ Y r1 r2 K) λc s3⟨z,V,Z,M,k,e,L⟩=>?_) B;subst e;cases M;exact Ln ⟨V,Z,L⟩
noncomputable def Xd(r W:DH)(Y Z q:A1):A1:=λD H Q=>Y D H λx J=>Z D J λy U=>r x y U λz F=>∃k,z=.bl k/\(if k=AF then q D F λA V=>W y A V Q else Q (.bl AO) F)
theorem kS(O:CO X (EJ op) r)(U:CO X (EJ F) Z)(K:Ae X a i)(L:Ae X b j)(M:Ae X c l)(N:lastMarks [op,F] [b,c]=AO:=by with_unfolding_all rfl):Ae X (.Compare a [op,F] [b,c] P) (Xd r Z i j l):=by intro D s J H Q I h;refine Compare_chain (A2 (K D s J H _ I h) λv s1⟨x,q,C,r1,R⟩=>chain_link (A2 (L D s1 J q _ C R) λu s2⟨y,A,E,r2,S⟩=>A2 (O D s2 J A x y v u _ E r1 r2 S) λd s3⟨z,V,W,f,k,e,Y⟩=>?_)) N;subst e;cases f;refine Ln ?_;cases k with|false=>exact ite_ff ⟨.bl AO,V,W,rfl,Y⟩|true=>exact ite_tt (chain_last (A2 (M D s3 J V _ W Y) λm s4⟨n,B,G,g,T⟩=>U D s4 J B y n u m Q G r2 g T))
theorem LO(f:CO X (EJ op) r)(U:CO X (EJ F) q)(P:Ae X a w)(R:Ae X b tb)(S:Ae X c tc)(T:lastMarks [op,F] [b,c]=AO:=by with_unfolding_all rfl):FK X (.Compare a [op,F] [b,c] g) (Xf (Xd r q w tb tc)):=by intro D s J H Q I h;refine isTrue_chain (A2 (P D s J H _ I h) λv s1⟨x,A,G,r1,j⟩=>test_link (A2 (R D s1 J A _ G j) λu s2⟨y,B,K,r2,l⟩=>A2 (f D s2 J B x y v u _ K r1 r2 l) λd s3⟨z,V,W,o,k,e,Z⟩=>?_)) T;subst e;cases o;refine Ln ?_;cases k with
 |false=>
  refine AB λY=>?_;obtain⟨k',N,i⟩:=Z;cases N;refine Y ?_;try clear Y
  exact ite_ff ⟨V,W,i⟩|true=>refine ite_tt (test_last (A2 (S D s3 J V _ W Z) λw' s4⟨z',C,L,p,m⟩=>A2 (U D s4 J C y z' u w' _ L r2 p m) λd' s5⟨z2,E,M,t,k2,O,n⟩=>?_));subst O;cases t;exact Ln ⟨E,M,n⟩
noncomputable def RB(K:Ar)(x:AH)(H:AN)(k:Bool):Prop:=match x with|.non=>k=AO|.bl b=>k=b|.int i=>k=(i !=0)|.str y=>y.length<=An/\k=((y.length:Int)!=0)|.byt y=>y.size<=An/\k=((y.size:Int)!=0)|.ref p=>(∃F,Bg K H p F/\k=!F.isEmpty)\/(∃F,Bw K H p F/\k=!F.isEmpty)\/∃D,H p=AA (.dK D)/\k=!D.isEmpty|_=>False
theorem iW{kvs:List (D×AH)}{vs:List (D×AK)}(r:Dj kvs vs):(!vs.isEmpty)=!kvs.isEmpty:=by cases r<;>rfl
theorem WZ{xs:List AH}{D:List AK}(r:BO xs D):(!D.toArray.isEmpty)=!xs.isEmpty:=by cases r<;>simp
theorem LF:(An:Nat)<2^63:=by rw[Dg];decide
theorem oJ{X:BR}:gM X (λx H Q=>∃k,RB X.K x H k/\Q k H):=by
  intro E s N H x v Q I W h;refine AB λF=>?_;obtain⟨k,e,q⟩:=h;refine F ?_;try clear F
  have L:=LF;have M:An=16777216:=Dg;cases x with |non=> cases W;have D:k=AO:=e;subst D;exact truthy_none ⟨H,I,q⟩|bl b=> cases W;have D:k=b:=e;subst D;exact Ln ⟨H,I,q⟩|int i=>obtain⟨t,rfl⟩:=W;have D:k=(i !=0):=e;subst D;exact P.truthy_int ⟨H,I,q⟩|str y=>
    refine AB λF=>?_;obtain⟨t,rfl⟩:=W;obtain⟨K,D⟩:y.length<=An/\k=((y.length:Int)!=0):=e;refine F ?_;try clear F
    subst D;exact P.truthy_str (by(first|lia|omega)) ⟨H,I.uh _,q⟩|byt y=>
    refine AB λF=>?_;obtain⟨t,rfl⟩:=W;obtain⟨K,D⟩:y.size<=An/\k=((y.size:Int)!=0):=e;refine F ?_;try clear F
    subst D;exact W.truthy_bytes (by(first|lia|omega)) ⟨H,I.uh _,q⟩|ref p=>
    cases W;have D:(∃V,Bg X.K H p V/\k=!V.isEmpty)\/(∃V,Bw X.K H p V/\k=!V.isEmpty)\/∃J,H p=AA (.dK J)/\k=!J.isEmpty:=e;rcases D with⟨V,Y,D⟩|⟨V,Y,D⟩|⟨J,Y,D⟩
    . subst D;refine AB λF=>?_;obtain⟨A,r,B,C⟩:=I.cu Y;refine F ?_;try clear F
      have U:=r.ak;exact wpAny_truthy_list B.isList (by simp only[DQ];(first|lia|omega)) ⟨H,I.uh _,by rw[WZ r];exact q⟩
    . subst D;refine AB λF=>?_;obtain⟨A,r,B,C⟩:=I.bh Y;refine F ?_;try clear F
      have U:=r.ak;exact truthy_tuple B (by simp only[DQ];(first|lia|omega)) ⟨H,I.uh _,by rw[WZ r];exact q⟩
    . subst D;refine AB λF=>?_;obtain⟨C,G,Z,r,m⟩:J.length<=An/\(p==IG)=AO/\∃Z,Dj J Z/\s.heap.DictOf (DB X.ag X.w) p Z:=I.bb p _ Y;refine F ?_;try clear F
      have U:J.length=Z.length:=Jo r;exact wpAny_truthy_dict G m (by(first|lia|omega)) ⟨H,I.uh _,by rw[iW r];exact q⟩|_=>exact(show False from e).elim
theorem lR{X:BR}{a:BD}(Y:Ae X a A)(Z:∀D,NF a X.af D=(do let v<-D;Yk a.pos;Yd [v] (Ym v))):FK X a (λJ H Q=>A J H λx U=>∃k,RB X.K x U k/\Q k U):=by intro F s J H Q I h;exact xN (A2 (Y F s J H _ I h) λv s1⟨x,V,W,r1,q⟩=>oJ F s1 J V x v Q W r1 q) (Z _)
theorem Mf:CO X (FX .Add) (λx y H Q=>∃i j,x=.str i/\y=.str j/\i.length+j.length<=An/\Q (.str (i++j)) H):=by
 intro F s Z H x y v u Q I U V h;refine AB λD=>?_;obtain⟨i,j,rfl,rfl,J,q⟩:=h;obtain⟨t,rfl⟩:=U;obtain⟨W,rfl⟩:=V;refine D ?_;try clear D
 exact add_str (λW Y=>⟨.str (i++j),H,I.uh _,⟨_,rfl⟩,q⟩) J
theorem F6(r:BO [x] us):∃u,us=[u]/\BN x u:=by cases r with|cons r1 r2=>cases r2;exact⟨_,rfl,r1⟩
theorem SK(r:BO [x,y] us):∃u D,us=[u,D]/\BN x u/\BN y D:=by cases r with|cons r1 r2=>cases r2 with|cons F J=>cases J;exact⟨_,_,rfl,r1,F⟩
theorem RF{X:BR}(U:X.bx=AF):EB X (.builtin "max") (λxs H Q=>∃i j,xs=[.int i,.int j]/\Q (.int (if j>i then j else i)) H):=by
 intro J s B H xs Z Q I r h;refine AB λF=>?_;obtain⟨i,j,rfl,q⟩:=h;obtain⟨u,A,rfl,⟨t,rfl⟩,⟨W,rfl⟩⟩:=SK r;refine F ?_;try clear F
 refine max_two_ints (I.ok.hd U) λV Y k=>⟨_,H,I.de k,?_,q⟩;by_cases D:j>i;.rw[ABo D,ABo D];exact⟨_,rfl⟩
 .rw[ABn D,ABn D];exact⟨_,rfl⟩
theorem gW{X:BR}(U:X.bx=AF):EB X (.builtin "min") (λxs H Q=>∃i j,xs=[.int i,.int j]/\Q (.int (if j<i then j else i)) H):=by
 intro J s B H xs Z Q I r h;refine AB λF=>?_;obtain⟨i,j,rfl,q⟩:=h;obtain⟨u,A,rfl,⟨t,rfl⟩,⟨W,rfl⟩⟩:=SK r;refine F ?_;try clear F
 refine min_two_ints (I.ok.hd U) λV Y k=>⟨_,H,I.de k,?_,q⟩;by_cases D:j<i;.rw[ABo D,ABo D];exact⟨_,rfl⟩
 .rw[ABn D,ABn D];exact⟨_,rfl⟩
theorem gS:EB X (.type "int") (λxs H Q=>(∃i,xs=[.int i]/\Q (.int i) H)\/∃k,xs=[.bl k]/\Q (.int (if k then 1 else 0)) H):=by
  intro F s U H xs J Q I r h;rcases h with⟨i,rfl,q⟩|⟨k,rfl,q⟩
  . refine AB λD=>?_;obtain⟨u,rfl,t,rfl⟩:=F6 r;refine D ?_;try clear D
    exact call_int_int ⟨.int i,H,I,⟨_,rfl⟩,q⟩
  . refine AB λD=>?_;obtain⟨u,rfl,r1⟩:=F6 r;cases r1;refine D ?_;try clear D
    exact call_int_bool ⟨.int (if k then 1 else 0),H,I.uh _,⟨_,rfl⟩,q⟩
structure K5(h:A3)(x dx C:AI)(mA:AJ->Option AK):Prop where
 aaa:h.get? x=AA (Lf C dx)ns:h.Ns1 dx mA
 ne:dx≠x
theorem jS{h:A3}(n:h.Ns1 F U):∃W,h.get? F=AA W/\∀name,YX name W=AA (U name):=by
  refine AB λV=>?_;obtain⟨o,J,G,C,Z,A,_,B⟩:=n;refine V ?_;try clear V
  refine⟨o,C,λname=>?_⟩;have e:=B name;unfold nsFind findBy at e;rw[<-Array.find?_toList]at e;unfold YX;rw[Z];dsimp only;split
  . rename_i y q;rw[q]at e;exact ABp AA e
  . rename_i q;rw[q]at e;have a:J.toList.any (·.refKey)=AO:=by rw[List.any_eq_false];intro y E;obtain⟨z,t,D⟩:=A y (Array.mem_toList_iff.mp E);simp[AA1,D]
    have Y:¬J.toList.any (·.refKey)=AF:=by rw[a];exact C6
    rw[ABn Y];exact ABp AA e
theorem K5.adk(I:K5 h x F C J):∃D,W.InstAt h x (Lf C F) C (AA D)/\∀name,YX name D=AA (J name):=let⟨D,V,U⟩:=jS I.ns
 ⟨D,⟨I.aaa,rfl,rfl,V⟩,U⟩
theorem iL{s:AU}{K:Ar}(X:K.In s.heap)(I:K5 s.heap x dx C mA)(hg:Sy K C name=AF)(hh:YU K C=AF)(ha:EU K (.ref C) name=AA AD)(hv:mA name=AA v)(hv':zS v=AF)(h:Q v {s with toks:=s.toks+1}):Aa (Ab prog w) A (sO (.ref x) name expr) Q E s:=by
 refine AB λnG=>?_;obtain⟨od,J,hl⟩:=I.adk;refine nG ?_;try clear nG
 exact W.get_value X J (rX hg).1 (W.findObj_own hh ha rfl (by rw[hl,hv])) hv' h
theorem iM{s:AU}{K:Ar}(X:K.In s.heap)(I:K5 s.heap x dx C mA)(hg:Sy K C name=AF)(hf:EU K (.ref C) name=AA (AA (.ref f)))(ht:Sx K (.ref f)=AF)(hv:mA name=AD)(h:Q (.ref f,[.ref x]) s):Aa (Ab prog w) A (sP (.ref x) name pl) Q E s:=by
 refine AB λnG=>?_;obtain⟨od,J,hl⟩:=I.adk;refine nG ?_;try clear nG
 exact W.method_fn X J (rX hg).1 (rX hg).2 hf (ABw.mp ht) (by show(YX name od).map (·.isSome)=AA AO;rw[hl,hv];rfl) h
theorem mO{s:AU}{K:Ar}{name:AJ}{G:List AJ}(X:K.In s.heap)(I:K5 s.heap x V C B)(P:EU K (.ref C) "__setattr__"=AA (AA (.builtin "object.__setattr__")))(O:rY K C=AF)(R:rZ K C name=AA AD)(N:YU K C=AF)(hw:r6 B G)(hsz:G.length<=An)(h:∀h',K5 h' x V C (λy=>if y=name then AA v else B y)->Ir V s.heap h'->Q () {s with heap:=h',toks:=s.toks+2}):Aa (Ab prog w) A (setAttr (.ref x) name v) Q E s:=by
 refine AB λD=>?_;obtain⟨e,J,c⟩:=I.adk;refine D ?_;try clear D
 refine W.set_plain X J P (W.osa_open (s:={s with toks:=s.toks+1}) (r:=AD) X J O R λb=>?_);refine AB λD=>?_;obtain⟨T,M,Y⟩:=W.any_some N;refine D ?_;try clear D
 have S:s.heap.get? x=AA ⟨.ref C,AA V,.plain,#[]⟩:=I.aaa;refine AX (Aw (AX (AX (wpAny_loadPart S (AX (ABi (s:={s with toks:=s.toks+1}) (W.looks_clsIn X M) ?_))))));rw[Y];refine Aw (a:=AA V) (AX (Aw (AX ?_)));refine wpAny_nsSet1 (s:={s with toks:=s.toks+1}) I.ns λh' F U=>?_;refine AB λD=>?_;obtain⟨d,L,H,q,Z,W⟩:=F.count (ABk name v hw);refine D ?_;try clear D
 refine AX (wpAny_lookBehind q (by rw[Z];exact pastItsLine_dict (DE W (by rw[FT];(first|lia|omega)))) ?_);exact Aw (h _ ⟨(U.2 _ (HX I.ne)).trans I.aaa,F,I.ne⟩ U)
theorem jW{A:Cj}{s:AU}{K:Ar}(X:K.In s.heap)(hm:rV K C=AF)(hi:EU K (.ref C) "__init__"=AA (AA (.ref f)))(hf:W.typeIn K (.ref f)=AA (.type "function"))(h:IE (Ab prog w) (A.under (.builtin "type.__call__" ⟨.ref C::vs,kw⟩)) (.call (.ref f) ⟨.ref (s.heap.objs.size+1)::vs,kw⟩) (W.InitBack (s.heap.objs.size+1) R) {s with heap:=(s.heap.push Kf).push (Lf C s.heap.objs.size)}):IE (Ab prog w) A (.call (.ref C) ⟨vs,kw⟩) R s:=by
 refine AB λnG=>?_;obtain⟨hh,g,d,t,os⟩:=s;refine nG ?_;try clear nG
 exact W.make_core (W.makes_of X hm) (W.looks_findIn X hi) (λself=>W.bind_fn X self hf) (.inl rfl) h
noncomputable def FR(f:AJ)(v:AH):List (AJ×AH)->List (AJ×AH)|[]=>[(f,v)]|(g,x)::r=>if g=f then(g,v)::r else(g,x)::FR f v r
theorem Wr(f g:AJ)(v:AH):∀J:List (AJ×AH),(FR f v J).lookup g=if g=f then AA v else J.lookup g
  |[]=>by
    show Mz g [(f,v)]=_;by_cases h:g=f;. have D:(g==f)=AF:=ABw.mpr h;simp only[Mz,D,ABo h]
    . have D:(g==f)=AO:=ABz.mpr h;simp only[Mz,D,ABn h]|(k,x)::r=>by
    have U:=Wr f g v r;rw[show FR f v ((k,x)::r)=(if k=f then(k,v)::r else(k,x)::FR f v r)from rfl];by_cases F:k=f
    . rw[ABo F];by_cases h:g=k
      . have D:(g==k)=AF:=ABw.mpr h;simp only[Mz,D,ABo (h.trans F)]
      . have D:(g==k)=AO:=ABz.mpr h;simp only[Mz,D,ABn (λe:g=f=>h (e.trans F.symm))]
    . rw[ABn F];by_cases h:g=k;. have D:(g==k)=AF:=ABw.mpr h;simp only[Mz,D,ABn (λe:g=f=>F (h.symm.trans e))]
      . have D:(g==k)=AO:=ABz.mpr h;simp only[Mz,D];exact U
theorem RX(f:AJ)(v:AH):∀D:List (AJ×AH),f∈(FR f v D).map (·.1)/\∀g,g∈D.map (·.1)->g∈(FR f v D).map (·.1)
  |[]=>⟨by simp[FR],λg h=>by simp at h⟩|(k,x)::r=>by
    obtain⟨i1,i2⟩:=RX f v r;rw[show FR f v ((k,x)::r)=(if k=f then(k,v)::r else(k,x)::FR f v r)from rfl];by_cases F:k=f;. rw[ABo F];subst F;exact⟨by simp,λg h=>by simpa using h⟩
    . rw[ABn F];refine⟨?_,λg h=>?_⟩
      . rw[Cu];exact E5 _ i1
      . rw[Cu]at h⊢;rcases B7.mp h with e|e;.exact B7.mpr (.inl e)
        .exact E5 _ (i2 g e)
theorem Wl(f:AJ)(v:AH):∀D:List (AJ×AH),(FR f v D).length<=D.length+1
 |[]=>by simp[FR]|(k,x)::r=>by
  have J:=Wl f v r;rw[show FR f v ((k,x)::r)=(if k=f then(k,v)::r else(k,x)::FR f v r)from rfl];by_cases F:k=f;.rw[ABo F,FT,FT];(first|lia|omega)
  .rw[ABn F,FT,FT];(first|lia|omega)
theorem MO(r:Hu (AA v) o):∃u,o=AA u/\BN v u:=by cases o with|none=>exact(show False from r).elim|some u=>exact⟨u,rfl,r⟩
theorem V0(r:Hu AD o):o=AD:=by cases o with|none=>rfl|some u=>exact(show False from r).elim
theorem iP(r:BN v u):zS u=AF:=by cases v with|non=>cases(show u=NC from r);rfl|bl b=>cases(show u=Ss b from r);rfl|int i=>obtain⟨t,e⟩:=(show∃t,u=Su i t from r);cases e;rfl|str x=>obtain⟨t,e⟩:=(show∃t,u=Sv x t from r);cases e;rfl|byt b=>obtain⟨t,e⟩:=(show∃t,u=zK b t from r);cases e;rfl|flt b=>obtain⟨t,e⟩:=(show∃t,u=rN b t from r);cases e;rfl|ref a=>cases(show u=C8 a from r);rfl|ty n=>cases(show u=Hd n from r);rfl
theorem OZ{F:List (AJ×AH)}(U:Cy P w H h)(e:H a=AA (.ins C J F)):∃D,K5 h a J C D/\(∀f,Hu (F.lookup f) (D f))/\r6 D (F.map (·.1))/\F.length<=1000/\H J=AA (.own a):=by
 refine AB λV=>?_;obtain⟨d,z,W,Y,D,n,r,q⟩:=(show C7 P w H h a (.ins C J F)from U a _ e);refine V ?_;try clear V
 exact⟨D,⟨Y,n,W⟩,r,q,z,d⟩
structure IW(K:Ar)(C:AI):Prop where
 pg:Sy K C zH=AF
 hd:YU K C=AF
 po:rY K C=AF
 sa:EU K (.ref C) "__setattr__"=AA (AA (.builtin "object.__setattr__"))
theorem IW.yl{K:Ar}(c:IW K C)(f:AJ):Sy K C f=AF:=c.pg
noncomputable def JQ(K:Ar)(C:AI)(f:AJ):Prop:=EU K (.ref C) f=AA AD
theorem JQ.afz{K:Ar}(n:JQ K C f):rZ K C f=AA AD:=by unfold rZ;rw[show EU K (.ref C) f=AA AD from n];rfl
structure OC(K:Ar)(C:AI)(m:AJ)(f:AI):Prop where
 ahj:EU K (.ref C) m=AA (AA (.ref f))fn:Sx K (.ref f)=AF
 kp:Lg K (.ref f)=AF
theorem iN{X:BR}{U:List (AJ×AH)}(I:AY X D Y H s)(e:H a=AA (.ins C Z U))(c:IW X.K C)(n:JQ X.K C f)(l:U.lookup f=AA v)(h:∀u s',AY X D Y H s'->BN v u->Q u s'):Aa (Ab X.ag X.w) A (sO (.ref a) f b) Q E s:=by
 refine AB λF=>?_;obtain⟨W,O,r,_,_,_⟩:=OZ I.bb e;obtain⟨u,V,J⟩:=MO (v:=v) (o:=W f) (by rw[<-l];exact r f);refine F ?_;try clear F
 exact iL I.qu O (c.yl f) c.hd n V (iP J) (h u _ (I.uh _) J)
theorem iO{X:BR}{J:List (AJ×AH)}(I:AY X F Y H s)(e:H a=AA (.ins C W J))(c:IW X.K C)(k:OC X.K C m g)(l:J.lookup m=AD)(h:Q (.ref g,[.ref a]) s):Aa (Ab X.ag X.w) A (sP (.ref a) m pl) Q E s:=by
 refine AB λD=>?_;obtain⟨V,O,r,_,_,_⟩:=OZ I.bb e;refine D ?_;try clear D
 have U:V m=AD:=V0 (by rw[<-l];exact r m);exact iM I.qu O (c.yl m) k.ahj k.fn U h
theorem mP{X:BR}{D:List (AJ×AH)}(I:AY X F T H s)(e:H a=AA (.ins C U D))(c:IW X.K C)(n:JQ X.K C f)(d:D.length<1000)(R:BN y u)(h:∀s',AY X F T (AW H a (.ins C U (FR f y D))) s'->Q () s'):Aa (Ab X.ag X.w) A (setAttr (.ref a) f u) Q E s:=by
  refine AB λZ=>?_;obtain⟨Y,O,r,B,_,W⟩:=OZ I.bb e;refine Z ?_;try clear Z
  have P:(D.map (·.1)).length<=An:=by rw[Am,Dg];(first|lia|omega)
  refine mO I.qu O c.sa c.po n.afz c.hd B P λK J S=>h _ ?_;have M:∃o,K.get? U=AA o:=let⟨o,_,_,G,_⟩:=J.ns;⟨o,G⟩;refine I.xu (x:=a) (e:=U) (by rw[e];exact GG) (.inr W) (λb q L z=>(S.2 b L).trans z) M ?_;refine⟨by rw[BC O.ne];exact W,?_,O.ne,J.aaa,_,J.ns,λg=>?_,λg N=>?_⟩;.have:=Wl f y D;(first|lia|omega)
  . show Hu ((FR f y D).lookup g) (if g=f then AA u else Y g);rw[Wr];by_cases q:g=f;.rw[ABo q,ABo q];exact R
    .rw[ABn q,ABn q];exact r g
  . by_cases q:g=f;.rw[q];exact(RX f y D).1
    . refine(RX f y D).2 g (B g λz=>N ?_);show(if g=f then AA u else Y g)=AD;rw[ABn q];exact z
theorem gJ(I:AY X D A H s):AY X D A (AW (AW H s.heap.objs.size (.own (s.heap.objs.size+1))) (s.heap.objs.size+1) (.ins C s.heap.objs.size [])) {s with heap:=(s.heap.push Kf).push (Lf C s.heap.objs.size)}:=by
 have F:(s.heap.push Kf).get? s.heap.objs.size=AA Kf:=Df s.heap rfl;have V:((s.heap.push Kf).push (Lf C s.heap.objs.size)).get? (s.heap.objs.size+1)=AA (Lf C s.heap.objs.size):=by have:=Df (s.heap.push Kf) (o:=Lf C s.heap.objs.size) rfl;rwa[Gf]at this
 have W:(s.heap.push Kf).Ns s.heap.objs.size (λ_=>AD):=⟨Kf,#[],_,F,rfl,(λe Y=>absurd Y (by simp)),λ_=>rfl⟩;have U:=I.ie (a:=s.heap.objs.size) (o:=.own (s.heap.objs.size+1)) (h':=s.heap.push Kf) (t':=s.toks) (λb u q=>Bi _ q) (Af _) ⟨_,F⟩;refine U.ie (a:=s.heap.objs.size+1) (o:=.ins C s.heap.objs.size []) (t':=s.toks) (λb u q=>Bi _ q) (Jg (Gf _ _)) ?_;have J:s.heap.objs.size≠s.heap.objs.size+1:=Cv (KS _);refine⟨by rw[BC J,Az],Bd _,J,V,λ_=>AD,(Heap.Ns1.of_empty W).at λo q=>Bi _ q,λ_=>GG,λy Z=>absurd rfl Z⟩
theorem gR(J:PK e f env (Bo e env)=Bo e env)(h:Aa (Ab prog w) A (Bo e env) (λo D=>Aa (Ab prog w) A (sO o f AF) Q E D) E s):Aa (Ab prog w) A (Bo (.Attribute e f F) env) Q E s:=Attribute_any_ h (by rw[arm_eval_Attribute,J])
noncomputable def nJ(K:Ar)(U:A1)(f:AJ):A1:=λV H Q=>U V H λx D=>∃a C J F v,x=.ref a/\D a=AA (.ins C J F)/\IW K C/\JQ K C f/\F.lookup f=AA v/\Q v D
noncomputable def mM(K:Ar)(Y Z:A1)(f:AJ):Cd:=λD J H=>Z J H λy W=>Y J W λx U=>∃a C V F,x=.ref a/\U a=AA (.ins C V F)/\IW K C/\JQ K C f/\F.length<1000/\D.nx J (AW U a (.ins C V (FR f y F)))
theorem Om{X:BR}(Z:Ae X e G)(Y:PK e f X.af (Bo e X.af)=Bo e X.af):Ae X (.Attribute e f A) (nJ X.K G f):=by intro D s K H Q I h;refine gR Y (A2 (Z D s K H _ I h) λu s1⟨x,F,J,E,a,C,L,M,v,W,V,c,n,l,q⟩=>?_);subst W;obtain rfl:u=C8 a:=E;exact iN J V c n l λN s2 U B=>⟨v,F,U,B,q⟩
theorem Mm{X:BR}{V:Ce}(K:Ae X o R)(M:Ae X F S)(L:JB F (AA (.Attribute o f U)) V.line X.af=BB AO):DW X (.Assign [.Attribute o f U] F V) (mM X.K R S f):=by intro J s W H D I h;refine plainObj_wpAny_Assign_Attribute (A2 (M J s W H _ I h) λu s1⟨y,Y,Z,Q,q⟩=>A2 (K J s1 W Y _ Z q) λN s2⟨x,T,A,P,a,C,b,d,G,E,c,n,l,O⟩=>?_) L;subst G;obtain rfl:N=C8 a:=P;exact mP A E c n l Q λs3 B=>⟨W,_,B,O⟩
section
variable{H:AN}
inductive F1(K:Ar)(H:AN):AH->AK->Prop where|non:F1 K H .non (.type "NoneType")|bl(x:Bool):F1 K H (.bl x) (.type "bool")|int(i:Int):F1 K H (.int i) (.type "int")|str(x:AJ):F1 K H (.str x) (.type "str")|flt(x:UInt64):F1 K H (.flt x) (.type "float")|lst{a:AI}{xs:List AH}(e:H a=AA (.lst xs)):F1 K H (.ref a) (.type "list")|frz{a:AI}{o:A8}{xs:List AH}(e:H a=AA (.frz o (.lst xs))):F1 K H (.ref a) (.type "list")|tup{a:AI}{xs:List AH}(e:H a=AA (.tup xs)):F1 K H (.ref a) (.type "tuple")|dK{a:AI}{kvs:List (AR×AH)}(e:H a=AA (.dK kvs)):F1 K H (.ref a) (.type "dict")|dT{a:AI}{kvs:List (List AR×AH)}(e:H a=AA (.dT kvs)):F1 K H (.ref a) (.type "dict")|ins{a C dx:AI}{fs:List (AJ×AH)}(e:H a=AA (.ins C dx fs))(cl:IW K C)(ha:EU K (.ref C) "__class__"=AA (AA (.builtin "object.__class__")))(hn:W.specialIn K (.builtin "object.__class__") "__get__"=AA (AA (.builtin "getset_descriptor.__get__")))(htk:W.takesIn K (.builtin "object.__class__")=AA AF)(hm:W.mroIn K C (.type "object")=AA AF):F1 K H (.ref a) (.ref C)
end
theorem iX{X:BR}(I:AY X pins σ H s)(rx:BN x u)(ty:F1 X.K H x t)(e:Jq X.K t c=AA b)(h:∀tk,Q (.bool b) {s with toks:=tk}):Aa (Ab X.ag X.w) A (HA (.builtin "isinstance") [u,c]) Q E s:=by cases ty with
 |non=>cases(show u=NC from rx);exact Iz W.kitx_none I.qu GG e (λz=>nomatch z) h|bl y=>cases(show u=Ss y from rx);exact Iz W.kitx_bool I.qu GG e (λz=>nomatch z) h|int i=>obtain⟨t,q⟩:=(show∃t,u=Su i t from rx);cases q;exact Iz W.kitx_int I.qu GG e (λz=>nomatch z) h|str y=>obtain⟨t,q⟩:=(show∃t,u=Sv y t from rx);cases q;exact Iz W.kitx_str I.qu GG e (λz=>nomatch z) h|flt y=>obtain⟨t,q⟩:=(show∃t,u=rN y t from rx);cases q;exact Iz W.kitx_float I.qu GG e (λz=>nomatch z) h|@lst a xs ea=>
  refine AB λnG=>?_;cases(show u=C8 a from rx);obtain⟨_,_,n,_,h1⟩:=(show C7 X.ag X.w H s.heap a (.lst xs)from I.bb a _ ea);refine nG ?_;try clear nG
  exact Iz AAC I.qu ⟨_,h1,rfl⟩ e (λz=>nomatch z) h|@frz a ob xs ea=>
  refine AB λnG=>?_;cases(show u=C8 a from rx);obtain⟨_,_,_,n,_,h1⟩:=(show C7 X.ag X.w H s.heap a (.frz ob (.lst xs))from I.bb a _ ea);refine nG ?_;try clear nG
  exact Iz AAC I.qu ⟨_,h1,rfl⟩ e (λz=>nomatch z) h|@tup a xs ea=>
  refine AB λnG=>?_;cases(show u=C8 a from rx);obtain⟨_,_,_,p⟩:=(show C7 X.ag X.w H s.heap a (.tup xs)from I.bb a _ ea);obtain⟨o,h1,h2,_⟩:=p;refine nG ?_;try clear nG
  exact Iz W.kitx_tuple I.qu ⟨o,h1,h2⟩ e (λz=>nomatch z) h|@dK a kvs ea=>
  refine AB λnG=>?_;cases(show u=C8 a from rx);obtain⟨_,_,vs,_,p⟩:=(show C7 X.ag X.w H s.heap a (.dK kvs)from I.bb a _ ea);obtain⟨o,es,ep,h1,h2,_⟩:=p;refine nG ?_;try clear nG
  exact Iz AAB I.qu ⟨o,h1,h2.1⟩ e (λz=>nomatch z) h|@dT a kvs ea=>
  refine AB λnG=>?_;cases(show u=C8 a from rx);obtain⟨_,_,xs,_,o,es,ep,h1,h2,_⟩:=(show C7 X.ag X.w H s.heap a (.dT kvs)from I.bb a _ ea);refine nG ?_;try clear nG
  exact Iz AAB I.qu ⟨o,h1,h2.1⟩ e (λz=>nomatch z) h|@ins a C dx fs ea cl ha hn htk hm=>
  refine AB λnG=>?_;cases(show u=C8 a from rx);obtain⟨mA,O,_⟩:=OZ I.bb ea;obtain⟨od,J,_⟩:=O.adk;refine nG ?_;try clear nG
  exact Iz (W.kitx_own (cl.yl _) cl.hd ha hn htk hm) I.qu J e (λz=>nomatch z) h
structure Dc(k:Nat)(A:Cj):Prop where
 hd:A.handled=AD
 dp:A.depth+3*k+5<AAP
 un:A.units+16*k+200<E8
theorem Dc.uo(r:Dc k A)(h:j<=k):Dc j A:=⟨r.hd,by have:=r.dp;(first|lia|omega),by have:=r.un;(first|lia|omega)⟩
theorem Dc.aen{A:Cj}(r:Dc (k+1) A)(env:DK):Dc k (A.deeper env):=⟨r.hd,by have:=r.dp;show A.depth+1+3*k+5<_;(first|lia|omega),by have:=r.un;show A.units+3+16*k+200<_;(first|lia|omega)⟩
theorem jV{A:Cj}:(A.under (.builtin "type.__call__" ⟨.ref C::us,D⟩)).depth=A.depth+1:=by first|rfl|simp[Around.under,Code.weight,Code.isCreation,Code.isGuard,Code.isCaller,Code.frames,Code.isFrame,guardIds]
theorem jX{A:Cj}:(A.under (.builtin "type.__call__" ⟨.ref C::us,D⟩)).units=A.units+1:=by first|rfl|simp[Around.under,Code.cUnits,Code.frames,Code.isFrame]
theorem Dc.aet{A:Cj}(r:Dc (k+1) A)(C:AI)(us:List AK)(D:List (AJ×AK)):Dc k (A.under (.builtin "type.__call__" ⟨.ref C::us,D⟩)):=⟨r.hd,by have:=r.dp;rw[jV];(first|lia|omega),by have:=r.un;rw[jX];(first|lia|omega)⟩
theorem Dc.afi{A:Cj}(r:Dc k A):A.depth<AAP:=by have:=r.dp;(first|lia|omega)
theorem Dc.xt{A:Cj}(r:Dc k A):A.units+64<E8:=by have:=r.un;(first|lia|omega)
theorem Dc.jz{A:Cj}(r:Dc k A):A.units<E8:=by have:=r.un;(first|lia|omega)
noncomputable def nU:Eb:=λ_ H Q=>Q [] H
noncomputable def nA(U:A1)(V:Eb):Eb:=λD H Q=>U D H λx F=>V D F λW J=>Q (x::W) J
theorem AQ:Ep X [] nU:=λ_ _ _ _ H Q I h=>Ld ⟨[],H,I,.nil,h⟩
theorem AG{X:BR}(q:Ae X e G)(A:Ep X J t)(B:Bz (e::J) X.af=(AO,Bo e X.af)::Bz J X.af:=by rfl):Ep X (e::J) (nA G t):=by intro F D s U H Q I h;rw[B];show Aa _ _ (spliced ((AO,Bo e X.af)::EV F (Bz J X.af))) _ _ s;refine Jm (A2 (q D s U H _ I h) λu s1⟨x,V,Y,r1,C⟩=>?_);exact A2 (A F D s1 U V _ Y C) λL s2⟨K,W,Z,r2,E⟩=>⟨x::K,W,Z,.cons r1 r2,E⟩
noncomputable def oF(t:Eb):A1:=λJ H Q=>t J H λF D=>F.length<=An/\∀p,D p=AD->Q (.ref p) (AW D p (.tup F))
noncomputable def nQ(t:Eb):A1:=λJ H Q=>t J H λF D=>F.length<=An/\∀p,D p=AD->Q (.ref p) (AW D p (.lst F))
theorem CL(h:Ep X V t):Ae X (.Tuple V A F) (oF t):=by intro D s C H Q I Y;refine wpAny_Tuple_spliced (A2 (h F D s C H _ I Y) λZ s1⟨B,J,U,r,z,q⟩=>⟨by rw[<-r.ak];exact z,?_⟩);have W:J s1.heap.objs.size=AD:=U.bb.az (Af _);refine⟨.ref s1.heap.objs.size,AW J s1.heap.objs.size (.tup B),U.ie (t':=s1.toks) (λb u e=>Bi _ e) (Af _) ?_,rfl,q _ W⟩;exact⟨z,Z,r,⟨_,Df _ rfl,rfl,_,rfl⟩⟩
theorem CJ(h:Ep X V t):Ae X (.List V F) (nQ t):=by intro D s B H Q I Y;refine wpAny_List_spliced (A2 (h F D s B H _ I Y) λZ s1⟨A,J,U,r,z,q⟩=>⟨by rw[<-r.ak];exact z,?_⟩);have W:J s1.heap.objs.size=AD:=U.bb.az (Af _);refine⟨.ref s1.heap.objs.size,AW J s1.heap.objs.size (.lst A),U.ie (t':=s1.toks) (λb u e=>Bi _ e) (Af _) ?_,rfl,q _ W⟩;exact⟨z,Z,0,r,Df _ rfl⟩
noncomputable abbrev Ba:=List AH->AN->BU->E2->Prop
noncomputable abbrev HI:=List DK->AN->AU->E2->AK->AU->Prop
structure Ky(P:CZ)(w:Bn)(K:Ar)(mg:AJ->Option AK)(base:A3)(A:Cj)(outer:List DK)(s:AU)(H:AN):Prop where
 dj:A.frames=AA outer
 vn:OD K mg base
 bs:∀b o,base.get? b=AA o->s.heap.get? b=AA o/\H b=AD
 acf:base.objs.size<=s.heap.objs.size
 qb:s.heap.FunFrames base outer
 adi:∀b∈C0 outer,H b=AD
 bb:Cy P w H s.heap
 ir:Ji s.gens
noncomputable def Q2(D:List DK)(P:CZ)(w:Bn)(H:AN)(s:AU)(Q:BU)(u:AK)(s':AU):Prop:=∃v F,s'.os=s.os/\Ji s'.gens/\FL (C0 D) [] H F s.heap s'.heap/\Cy P w F s'.heap/\BN v u/\Q v F
noncomputable def gE(CX:HI)(D:List DK)(P:CZ)(w:Bn)(H:AN)(s:AU)(Q:BU)(E:E2)(r:YO)(s':AU):Prop:=match r with|.ok (.ret u)=>Q2 D P w H s Q u s'|.ok _=>False|.error e=>CX D H s E e s'
structure BW(P:CZ)(w:Bn)(K:Ar)(mg:AJ->Option AK)(base:A3)(CX:HI)(k:Nat)(f:AI)(fd:Au)(ps:List AJ)(sp:Ba):Prop where
 bj:∀vs H Q E,sp vs H Q E->vs.length=ps.length
 agf:∀(A:Cj)(outer:List DK)(s:AU)(H:AN)(args:Args)(us:List AK)(vs:List AH)(Q:BU)(E:E2),Dc k A->Ky P w K mg base A outer s H->PB s fd args (ps.zip us)->BO vs us->sp vs H Q E->IE (Ab P w) A (.call (.ref f) args) (gE CX outer P w H s Q E) s
theorem Ky.aet{K:Ar}{A:Cj}(e:Ky P w K F base A D s H)(C:AI)(us:List AK)(J:List (AJ×AK)):Ky P w K F base (A.under (.builtin "type.__call__" ⟨.ref C::us,J⟩)) D s H:=⟨by first|exact e.dj|(simpa[Around.under,Code.envs,Code.isFrame,pushEnvs]using e.frames),e.vn,e.bs,e.acf,e.qb,e.adi,e.bb,e.ir⟩
theorem AY.aeo{X:BR}(I:AY X D F H s):Ky X.ag X.w X.K X.mg X.ao X.A X.ba s H:=⟨I.ok.dj,I.ok.vn,I.bs,DE I.ok.acf I.sz,I.ba,I.yw,I.bb,I.ir⟩
theorem AY.aca{X:BR}(I:AY X F B H s)(h:Q2 X.ba X.ag X.w H s Q u s'):ED X F B Q u s':=by
 refine AB λV=>?_;obtain⟨v,W,Z,D,A,J,r,q⟩:=h;obtain⟨Y,g,d,t,U⟩:=s';obtain rfl:U=s.os:=Z;refine V ?_;try clear V
 exact⟨v,W,I.afh (h':=Y) (g':=g) (d':=d) (t':=t) (ch:=[]) A J D (λb z=>absurd z (by simp)),r,q⟩
noncomputable def Xc(sp:Ba)(D:List AH)(E:E2)(t:Eb):A1:=λU H Q=>t U H λJ F=>sp (J++D) F Q E
noncomputable def nS(C:AI)(m:AJ)(sp:Ba)(D:List AH)(E:E2)(Z:A1)(t:Eb):A1:=λU H Q=>Z U H λx F=>∃a Y J,x=.ref a/\F a=AA (.ins C Y J)/\J.lookup m=AD/\t U F λq W=>sp (x::(q++D)) W Q E
noncomputable def nR(C:AI)(sp:Ba)(J:List AH)(E:E2)(t:Eb):A1:=λY H Q=>t Y H λW F=>∀x D,F x=AD->F D=AD->D≠x->sp (.ref x::(W++J)) (AW (AW F D (.own x)) x (.ins C D [])) (λv U=>v=.non/\Q (.ref x) U) E
noncomputable def Bf(K:Ar)(U:Au)(J:List AJ)(F:List AK):Prop:=∀(s:AU)(D:List AK),K.In s.heap->(D++F).length=J.length->PB s U ⟨D,[]⟩ (J.zip (D++F))
theorem Bf.vx{K:Ar}{D:List AJ}(h:∀us:List AK,us.length=D.length->bindArgs F ⟨us,[]⟩=BB (D.zip us)):Bf K F D []:=λs us _ J=>by rw[Eg]at J⊢;exact .of_eq (h us J)
noncomputable def JS(CX:HI)(X:BR)(E:E2):Prop:=∀(D:List (AI×A8))(J:Aj)(H:AN)(s:AU)(e:AK)(F:AU),AY X D J H s->CX X.ba H s E e F->X.xe e F
theorem XO{X:BR}(F:BW X.ag X.w X.K X.mg X.ao CX k f q Z sp)(K:Dc k X.A)(B:Bf X.K q Z W)(C:BO J W)(L:JS CX X E)(I:AY X D Y H s)(r:BO vs us)(h:sp (vs++J) H Q E):Aa (Ab X.ag X.w) X.A (HA (.ref f) us) (ED X D Y Q) X.xe s:=by
 have r2:BO (vs++J) (us++W):=r.lg C;have G:(us++W).length=Z.length:=by rw[<-r2.ak];exact F.bj _ _ _ _ h
 refine TF (Jr (F.agf X.A X.ba s H ⟨us,[]⟩ (us++W) (vs++J) Q E K I.aeo (B s us I.qu G) r2 h) λr M U=>?_);cases r with|error e=>exact L D Y H s e M I U|ok A=>cases A with|ret u=>exact I.aca U|next=>exact Ek U|brk=>exact Ek U|cont=>exact Ek U
theorem KJ{X:BR}{x:AJ}(F:BW X.ag X.w X.K X.mg X.ao CX k f B S sp)(P:Dc k X.A)(M:Eo X x)(O:X.mg x=AA (.ref f))(N:Lg X.K (.ref f)=AF)(G:Bf X.K B S A)(K:BO V A)(R:JS CX X E)(C:Ep X (e::U) t)(W:(x==("__debug__":AJ))=AO:=by decide)(L:Bz (e::U) X.af=(AO,Bo e X.af)::Bz U X.af:=by rfl)(Y:(EV J (Bz U X.af)).any (·.1)=AO:=by rfl):Ae X (.Call (.Name x p) (e::U) [] J) (Xc sp V E t):=by intro D s T H Q I h;refine Lm (Mc I M O ?_ W);refine YT (h₀:=X.ao) I.ok.vn.aeq N (A2 (C J D s T H _ I h) λb s1⟨c,a,Z,r,q⟩=>⟨Z.qu,?_⟩) L Y;exact XO F P G K R Z r q
theorem k8{X:BR}{apos:Ce}(he:Ae X o ta)(c:IW X.K C)(hm:OC X.K C m f)(F:BW X.ag X.w X.K X.mg X.ao CX k f fd ps sp)(hr:Dc k X.A)(hb:Bf X.K fd ps ds)(hd:BO dvs ds)(hx:JS CX X E)(ha:Ep X (e::es) t)(hst:Bz (e::es) X.af=(AO,Bo e X.af)::Bz es X.af:=by rfl)(hpl:(EV pos (Bz es X.af)).any (·.1)=AO:=by rfl)(ht:Bo (.Call (.Attribute o m apos) (e::es) [] pos) X.af=(do
 let ov<-Bo o X.af
 Yk apos.atName let(f,first)<-Yd [ov] (sP ov m pl)callWith pos f first (EV pos (Bz (e::es) X.af)) (S0 pos (S5 [] X.af))):=by rfl):Ae X (.Call (.Attribute o m apos) (e::es) [] pos) (nS C m sp dvs E ta t):=by intro pins s σ H Q I h;refine W.methodCall_KW (pl:=pl) (A2 (he pins s σ H _ I h) λu s1⟨x,H1,I1,rx,a,dx,fs,ex,ea,l,q⟩=>?_) ht;subst ex;obtain rfl:u=C8 a:=rx;refine iO I1 ea c hm l ?_;refine YT (first:=[.ref a]) (h₀:=X.ao) I.ok.vn.aeq hm.kp (A2 (ha pos pins s1 σ H1 _ I1 q) λus s2⟨vs,H2,I2,r,q2⟩=>⟨I2.qu,?_⟩) hst hpl;exact XO (us:=.ref a::us) (vs:=.ref a::vs) F hr hb hd hx I2 (.cons rfl r) q2
section
variable{f C:AI}
structure Q7(K:Ar)(C f:AI):Prop where
 afs:rV K C=AF
 agk:EU K (.ref C) "__init__"=AA (AA (.ref f))fn:Sx K (.ref f)=AF
 kp:Lg K (.ref C)=AF
end
theorem mK{X:BR}(M:Q7 X.K C f)(F:BW X.ag X.w X.K X.mg X.ao CX k f P G sp)(b:Dc (k+1) X.A)(S:Bf X.K P G Y)(T:BO U Y)(c:JS CX X E)(I:AY X J q H s)(r:BO vs us)(h:∀x Z,H x=AD->H Z=AD->Z≠x->sp (.ref x::(vs++U)) (AW (AW H Z (.own x)) x (.ins C Z [])) (λv L=>v=.non/\Q (.ref x) L) E):Aa (Ab X.ag X.w) X.A (HA (.ref C) us) (ED X J q Q) X.xe s:=by
 have A:=h (s.heap.objs.size+1) s.heap.objs.size (I.bb.az (M6 _)) (I.bb.az (Af _)) (Cv (KS _));have W:=gJ (C:=C) I;have r2:BO (AH.ref (s.heap.objs.size+1)::(vs++U)) (C8 (s.heap.objs.size+1)::(us++Y)):=.cons rfl (r.lg T);have a:(C8 (s.heap.objs.size+1)::us++Y).length=G.length:=by have e:=r2.ak;rw[F.bj _ _ _ _ A]at e;exact e.symm
 refine TF (jW (f:=f) I.qu M.afs M.agk (ABw.mp M.fn) (Jr (F.agf _ X.ba _ _ ⟨C8 (s.heap.objs.size+1)::us,[]⟩ (C8 (s.heap.objs.size+1)::(us++Y)) _ _ E (b.aet C us []) (W.aeo.aet C us []) (S _ (C8 (s.heap.objs.size+1)::us) W.qu a) r2 A) λr i D=>?_));cases r with |error e=>exact c J q _ _ e i W D|ok R=>cases R with
  |ret u=>
   refine AB λB=>?_;obtain⟨v,K,N,g,O,d⟩:=W.aca D;refine B ?_;try clear B
   subst O;exact⟨g,⟨AH.ref (s.heap.objs.size+1),K,N,rfl,d⟩⟩|next=>exact Ek D|brk=>exact Ek D|cont=>exact Ek D
theorem k7{X:BR}{x:AJ}(M:Q7 X.K C f)(F:BW X.ag X.w X.K X.mg X.ao CX k f B T sp)(R:Dc (k+1) X.A)(O:Eo X x)(P:X.mg x=AA (.ref C))(K:Bf X.K B T A)(L:BO V A)(S:JS CX X E)(G:Ep X (e::U) t)(W:(x==("__debug__":AJ))=AO:=by decide)(N:Bz (e::U) X.af=(AO,Bo e X.af)::Bz U X.af:=by rfl)(Y:(EV J (Bz U X.af)).any (·.1)=AO:=by rfl):Ae X (.Call (.Name x p) (e::U) [] J) (nR C sp V E t):=by intro D s a H Q I h;refine Lm (Mc I O P ?_ W);refine YT (h₀:=X.ao) I.ok.vn.aeq M.kp (A2 (G J D s a H _ I h) λc s1⟨d,b,Z,r,q⟩=>⟨Z.qu,?_⟩) N Y;exact mK M F R K L S Z r q
structure Bp(N P:List AJ)(sc:Du):Prop where
 fo:sc.kind=.function
 co:sc.isCoroutine=AO
 ahn:sc.isGenerator=AO
 nd:N.Nodup
 ags:N.take P.length=P
 ahf:∀x∈P,sc.names.lookup x=AA .local\/sc.names.lookup x=AA .cell
 aeu:∀y∈sc.names,y.2≠.free
theorem V7:∀{D:List (AJ×AK)}{m:AJ->Option AK},(∀v,(x,v)∉D)->Li F D m x=m x
  |[],_,_=>rfl|(n,v)::r,m,h=>by
    unfold Li;rw[V7 λw hw=>h w (E5 _ hw)];split
    . have:x≠n:=by rintro rfl;exact h v D6
      simp[this]
    .rfl
theorem V5:∀{D:List (AJ×AK)}{m:AJ->Option AK},(∀v,(x,v)∉D)->Lh F D m x=m x
  |[],_,_=>rfl|(n,v)::r,m,h=>by
    unfold Lh;rw[V5 λw hw=>h w (E5 _ hw)];split;.rfl
    . have:x≠n:=by rintro rfl;exact h v D6
      simp[this]
theorem V6:∀{P:List AJ}{vs:List AK}{i:Nat}{m:AJ->Option AK},P.Nodup->P[i]?=AA x->vs[i]?=AA v->D x=AA .local->Li D (P.zip vs) m x=AA v|[],_,_,_,_,h,_,_=>by simp at h|_::_,[],_,_,_,_,h,_=>by simp at h|p::P,w::vs,0,m,V,F,J,U=>by simp at F J;subst F;subst J;show Li D ((p,w)::P.zip vs) m p=_;unfold Li;rw[V7 λv W=>(M1.mp V).1 (pS W).1,ABo U];simp|p::P,w::vs,i+1,m,V,F,J,U=>by show Li D ((p,w)::P.zip vs) m x=_;unfold Li;exact V6 (i:=i) (M1.mp V).2 (by simpa using F) (by simpa using J) U
theorem V4:∀{P:List AJ}{vs:List AK}{i:Nat}{m:AJ->Option AK},P.Nodup->P[i]?=AA x->vs[i]?=AA v->D x≠AA .local->Lh D (P.zip vs) m x=AA v|[],_,_,_,_,h,_,_=>by simp at h|_::_,[],_,_,_,_,h,_=>by simp at h|p::P,w::vs,0,m,V,F,J,U=>by simp at F J;subst F;subst J;show Lh D ((p,w)::P.zip vs) m p=_;unfold Lh;rw[V5 λv W=>(M1.mp V).1 (pS W).1,ABn U];simp|p::P,w::vs,i+1,m,V,F,J,U=>by show Lh D ((p,w)::P.zip vs) m x=_;unfold Lh;exact V4 (i:=i) (M1.mp V).2 (by simpa using F) (by simpa using J) U
noncomputable def Io(N:List AJ)(vs:List AH):Aj:=vs.map AA++M3 (N.length-vs.length) AD
noncomputable def EG(CX:HI)(P:CZ)(w:Bn)(K:Ar)(Y:AJ->Option AK)(base:A3)(N:List AJ)(J:AJ)(D:Du)(f:AI)(V:AK)(A:Cj)(F:List DK)(s:AU)(H:AN)(E:E2):BR where
 ag:=P
 w:=w
 K:=K
 mg:=Y
 ao:=base
 A:=A.deeper (FU J D s.heap.objs.size f V)
 N:=N
 s₀:=s
 H₀:=H
 af:=FU J D s.heap.objs.size f V
 iu:=F
 ba:=FU J D s.heap.objs.size f V::F
 ex:=[]
 bx:=AF
 fn:=λ_=>AF
 pn:=[]
 xe:=λe Z=>Aa (Ab P w) (A.deeper (FU J D s.heap.objs.size f V)) (Ye (FU J D s.heap.objs.size f V) e) (λ_ U=>CX F H s E e U) (λW U=>CX F H s E W U) Z
theorem WC{D:Du}(h:D.names.lookup x=AA .cell):∃c,(sG n D.names []).lookup x=AA c:=by have q:=zQ D.names n [] (.inl h);exact pW.mp q
theorem iV{K:Ar}{B:List AJ}{D:Du}{A:Cj}{s:AU}{vs:List AH}(S:Bp N B D)(d:A.handled=AD)(W:Ky P w K Q base A F s H)(m:vs.length=B.length)(r:BO vs us)(x:InCallC s s.heap.objs.size (Li (FU J D s.heap.objs.size f L).kindOf (B.zip us) λ_=>AD) (sG (s.heap.objs.size+1) D.names []) (Lh (FU J D s.heap.objs.size f L).kindOf (B.zip us) λ_=>AD) s1):AY (EG CX P w K Q base N J D f L A F s H E) [] (Io N vs) H s1:=by
  have g:B.length<=N.length:=by have:=ABp KQ S.ags;rw[Eh]at this;(first|lia|omega)
  refine AB λG=>?_;obtain⟨M,o,rfl,R⟩:=x.done;refine G ?_;try clear G
  have Z:∀b:AI,b∉(EG CX P w K Q base N J D f L A F s H E).ex:=λb z=>absurd (show b∈([]:List AI)from z) (by simp);refine⟨⟨W.vn,S.fo,rfl,rfl,Af _,λy z c M U=>?_,λy Y=>?_,λy c _ h=>?_,λ_=>d,Around.frames_deeper W.dj,.inr ⟨rfl,rfl⟩,λb z=>absurd z (Z b),W.bs,W.acf,λb _ _=>Z b,λb z=>absurd z (Z b),W.qb,W.adi⟩,rfl,W.ir,ON R,⟨_,x.toInCall.ns,λi y v M U l=>?_⟩,λy c h=>⟨_,x.cell y c h⟩,W.bb.az (Af _),λy c h=>?_,λp C=>absurd (show p∈([]:List (AI×A8))from C) (by simp),W.bb.de R,?_⟩;.exact name_of_addr x.apart (NG M) (NG U)
  . have Y:D.names.lookup y=AA .cell\/D.names.lookup y=AA .free:=Y;rcases Y with Y|Y;.exact WC Y
    .exact absurd rfl (S.aeu _ (NG Y))
  .exact M5 (x.above y c (NG h))
  . have O:i<vs.length:=by
      unfold Io at U;by_cases O:i<vs.length;.exact O
      . rw[LY (by simpa using O)]at U;rw[v9]at U;split at U<;>cases U
    have X:vs[i]?=AA v:=by unfold Io at U;rw[O4 (by simpa using O),BV]at U;cases e:vs[i]? with|none=>rw[e]at U;cases U|some a=>rw[e]at U;cases U;rfl
    refine AB λG=>?_;obtain⟨u,T,j⟩:=r.yl X;refine G ?_;try clear G
    have C:B[i]?=AA y:=by rw[<-S.ags,wC (by(first|lia|omega))];exact M
    have I:B.Nodup:=by rw[<-S.ags];exact S.nd.sublist (List.take_sublist _ _)
    refine⟨u,j,?_⟩;rcases S.ahf y (B9 C)with k|k;.exact .inl ⟨k,V6 I C T k⟩
    . obtain⟨c,e⟩:=WC (n:=s.heap.objs.size+1) k;refine .inr ⟨.inl k,c,e,?_⟩;have q:=x.cell y c e;rw[V4 I C T (by show D.names.lookup y≠_;rw[k];decide)]at q;exact q
  .exact W.bb.az (M5 (x.above y c (NG h)))
  . unfold Io;show _=N.length;rw[CY,Am,wH];(first|lia|omega)
theorem WS{K:Ar}{ps:List AJ}(lk:K.lookup f=AA ⟨oc,od,.func (PJ name qual params body scope dV kV doc pm an cdv ct),osl⟩)(hcd:rP K cdv qual=AF)(S:Bp N ps scope)(len:∀vs H Q E,sp vs H Q E->vs.length=ps.length)(hbody:∀(A:Cj)(outer:List DK)(s:AU)(H:AN)(vs:List AH)(Q:BU)(E:E2),Dc k (A.deeper (FU qual scope s.heap.objs.size f cdv))->sp vs H Q E->∃t,Ea (EG CX P w K mg base N qual scope f cdv A outer s H E) body t/\t {nx:=λ_ H'=>Q .non H',rt:=Q} (Io N vs) H):BW P w K mg base CX (k+1) f (PJ name qual params body scope dV kV doc pm an cdv ct) ps sp:=by
 refine⟨len,λA outer s H args us vs Q E hr e0 hb r hsp=>?_⟩;have hl:=len _ _ _ _ hsp;have KX:K.In s.heap:=e0.vn.aeq.keeps λb o e=>(e0.bs b o e).1;have lim:s.heap.NoLimit:=e0.vn.adq.keeps λb o e=>(e0.bs b o e).1;have hkind:∀y∈ps.zip us,scope.names.lookup y.1=AA .local\/(scope.names.lookup y.1=AA .cell/\((sG (s.heap.objs.size+1) scope.names []).lookup y.1).isSome=AF):=λ⟨n,v⟩hy=>by
  rcases S.ahf n (pS hy).1 with q|q;.exact .inl q
  .exact .inr ⟨q,zQ _ _ _ (.inl q)⟩
 refine codeAny_call_function hr.afi (KX _ _ lk) rfl S.co S.ahn rfl (W.codeRec_of KX hcd) (hb _ _ _ _ ?_);refine wpAny_newFunctionEnv_cells S.fo hkind λenv he s1 x=>?_;subst he;refine⟨lim.keeps x.toInCall.keep,codeAny_func ?_⟩;refine AB λnG=>?_;obtain⟨t,ht,hq⟩:=hbody A outer s H vs Q E (hr.aen _) hsp;refine nG ?_;try clear nG
 have I:AY (EG CX P w K mg base N qual scope f cdv A outer s H E) [] (Io N vs) H s1:=iV S hr.hd e0 hl r x;refine EK (ht [] s1 (Io N vs) H _ I hq) (λfl s' hs=>?_) λe s' hs=>hs;have fin:∀{σ':Aj}{H':AN}{v:AH}{u:AK},AY (EG CX P w K mg base N qual scope f cdv A outer s H E) [] σ' H' s'->BN v u->Q v H'->Q2 outer P w H s Q u s':=λ{σ' H' v u}J rv q=>⟨v,H',J.os,J.ir,J.ao,J.bb,rv,q⟩;cases fl with
 |ret u=>
  refine AB λnG=>?_;obtain⟨v,σ',H',J,rv,q⟩:=hs;refine nG ?_;try clear nG
  exact fin J rv q|next=>
  refine AB λnG=>?_;obtain⟨σ',H',J,q⟩:=hs;refine nG ?_;try clear nG
  exact fin (v:=AH.non) (u:=NC) J rfl q|brk=>
  refine AB λnG=>?_;obtain⟨_,_,_,q⟩:=hs;refine nG ?_;try clear nG
  exact Ek q|cont=>
  refine AB λnG=>?_;obtain⟨_,_,_,q⟩:=hs;refine nG ?_;try clear nG
  exact Ek q
noncomputable def Xb(r:List AH->AN->BU->Prop)(t:Eb):A1:=λJ H Q=>t J H λF D=>r F D Q
theorem CN{X:BR}{x:AJ}(A:EB X (.builtin L) r)(C:Eo X x)(E:X.mg x=AD)(K:PL x=AA (.builtin L))(q:Ep X (e::J) t)(G:x≠"__name__":=by decide)(U:(x==("__debug__":AJ))=AO:=by decide)(B:Bz (e::J) X.af=(AO,Bo e X.af)::Bz J X.af:=by rfl)(V:(EV F (Bz J X.af)).any (·.1)=AO:=by rfl):Ae X (.Call (.Name x p) (e::J) [] F) (Xb r t):=by intro D s W H Q I h;refine Lm (Ih I C E K ?_ G U);exact xI (A2 (q F D s W H _ I h) λN s1⟨O,Y,Z,r1,M⟩=>A D s1 W Y O N Q Z r1 M) B V
theorem Ja{X:BR}{x:AJ}(A:EB X (.type T) r)(C:Eo X x)(E:X.mg x=AD)(K:PL x=AA (.type T))(q:Ep X (e::J) t)(G:x≠"__name__":=by decide)(U:(x==("__debug__":AJ))=AO:=by decide)(B:Bz (e::J) X.af=(AO,Bo e X.af)::Bz J X.af:=by rfl)(V:(EV F (Bz J X.af)).any (·.1)=AO:=by rfl):Ae X (.Call (.Name x p) (e::J) [] F) (Xb r t):=by intro D s W H Q I h;refine Lm (Ih I C E K ?_ G U);exact O9 (A2 (q F D s W H _ I h) λM s1⟨N,Y,Z,r1,L⟩=>A D s1 W Y N M Q Z r1 L) B V
theorem Ta{s:AU}{vs D:List AK}(S:Si s.heap t vs.toArray)(R:Si s.heap b D.toArray)(I:vs≠[])(O:D=[]->Q (.ref t) s)(P:D≠[]->Q (.ref s.heap.objs.size) {s with heap:=s.heap.push {cls:=.type "tuple",data:=.seq (vs++D).toArray}})(hsz:vs.length+D.length<=An):Aa (Ab prog w) A (FX .Add (.ref t) (.ref b)) Q E s:=by
 refine AB λL=>?_;obtain⟨⟨N,C,B,M⟩,Y,G,n,H⟩:=id S;obtain⟨⟨q,J,Z,W⟩,F,U,K,V⟩:=id R;refine L ?_;try clear L
 simp only at G H U V;subst G H U V;have e:vs.toArray++D.toArray=(vs++D).toArray:=by simp
 by_cases hw:D=[];.exact sL ⟨_,Y,rfl⟩ ⟨_,F,rfl⟩ sQ sU rD q9 (qZ _ _) (tuple_addW1 t b vs.toArray D.toArray n K C J M W (by simpa using I) (by simp[hw])) ⟨Y,F,O hw⟩
 . refine sL ⟨_,Y,rfl⟩ ⟨_,F,rfl⟩ sQ sU rD q9 (qZ _ _) (tuple_addW2 t b vs.toArray D.toArray n K C J M W (by simpa using I) (by simpa using hw) (by rw[DQ,DQ];exact hsz)) ⟨Y,F,?_⟩;rw[e];exact P hw
noncomputable def BJ(n d:Nat):Option Int->Nat|AD=>d|AA v=>if v<0 then(v+(n:Int)).toNat else Dd v.toNat n
theorem Lw(n d k:Nat):BJ n d (AA (k:Int))=Dd k n:=by show(if(k:Int)<0 then((k:Int)+(n:Int)).toNat else Dd (k:Int).toNat n)=Dd k n;rw[ABn (by(first|lia|omega)),Tj]
theorem ZZ(n d:Nat)(F:d<=n)(o:Option Int):BJ n d o<=n:=by cases o with |none=>exact F|some v=>
 show(if v<0 then(v+(n:Int)).toNat else Dd v.toNat n)<=n;by_cases D:v<0;.rw[ABo D];(first|lia|omega)
 .rw[ABn D];exact Nat.min_le_right _ _
theorem Tb(v:Int)(n d:Nat):(if v<0 then max (v+(n:Int)) 0 else Dd v (n:Int))=((BJ n d (AA v):Nat):Int):=by
 show(if v<0 then max (v+(n:Int)) 0 else Dd v (n:Int))=(((if v<0 then(v+(n:Int)).toNat else Dd v.toNat n):Nat):Int);by_cases D:v<0;.simp only[ABo D];(first|lia|omega)
 .simp only[ABn D];(first|lia|omega)
theorem ZV(lo hi:Option Int)(n:Nat):qU lo hi 1 (n:Int)=(((BJ n 0 lo:Nat):Int),((BJ n n hi:Nat):Int)):=by
 have D:¬((1:Int)<0):=by(first|lia|omega)
 unfold qU;simp only[D,ABx];refine Sh ?_ ?_;.cases lo with|none=>rfl|some v=>exact Tb v n 0
 .cases hi with|none=>rfl|some v=>exact Tb v n n
theorem ZY(i j:Nat):YG (i:Int) (j:Int) 1=j-i:=by
 unfold YG;have D:(1:Int)>0:=by(first|lia|omega)
 simp only[D,ABy,Int.ediv_one];split<;>(first|lia|omega)
theorem Tc(p:KZ v o)(h:Q o s):Aa (Ab prog w) A (AAw v) Q E s:=by cases p with|none=>exact xS h|int i t=>exact slicePart_int h
theorem Za{lo hi:Option Int}{n:Nat}(Z:s.heap.IsSliceOf W J U .none)(pl:KZ J lo)(q:KZ U hi)(h:Q (((BJ n 0 lo:Nat):Int),1,BJ n n hi-BJ n 0 lo) s):Aa (Ab prog w) A (x9 (.ref W) (BB (n:Int))) Q E s:=by
 refine AB λV=>?_;obtain⟨B,F,Y,D⟩:=id Z;refine V ?_;try clear V
 unfold x9 AAv;refine AX (AX (tF F D (x:=J) rfl (AX (tF F D (x:=U) rfl (AX (tF F D (x:=.none) rfl (Aw ?_)))))));refine AX (xS ?_);show Aa _ _ (if((1:Int)==0)=AF then _ else _) _ _ s;rw[ABn (by decide)];refine AX (Tc pl (AX (Tc q (AX (Aw ?_)))));show Aa _ _ (match qU lo hi 1 (n:Int)with|(lo,hi)=>BB (lo,(1:Int),YG lo hi 1)) _ _ s;rw[ZV lo hi n];show Aa _ _ (BB (((BJ n 0 lo:Nat):Int),(1:Int),YG ((BJ n 0 lo:Nat):Int) ((BJ n n hi:Nat):Int) 1)) _ _ s;rw[ZY];exact Aw h
theorem ZX(xs:Array AK)(i k:Nat):((DY k).filterMap λ(m:Nat)=>xs[((i:Int)+(m:Int)*1).toNat]?).toArray=((xs.toList.drop i).take k).toArray:=by
 have e:(λ(m:Nat)=>xs[((i:Int)+(m:Int)*1).toNat]?)=λm=>xs[i+m]?:=by
  funext m;have:((i:Int)+(m:Int)*1).toNat=i+m:=by(first|lia|omega)
  rw[this]
 rw[e];have:=pick_run xs i k;rw[vV]at this;have D:((λx=>xs[x]?)∘λx=>i+x)=λm=>xs[i+m]?:=rfl;rw[D]at this;rw[this]
theorem ZW{s:AU}{items:Array AK}{lo:Option Int}(F:Si s.heap t items)(Z:s.heap.IsSliceOf Y C G .none)(pl:KZ C lo)(K:KZ G hi)(hw:¬(BJ items.size 0 lo=0/\BJ items.size items.size hi=items.size))(h:Q (.ref s.heap.objs.size) {s with heap:=s.heap.push {cls:=.type "tuple",data:=.seq ((items.toList.drop (BJ items.size 0 lo)).take (BJ items.size items.size hi-BJ items.size 0 lo)).toArray}})(hsz:items.size<=An):Aa (Ab prog w) A (Lk (.ref t) (.ref Y)) Q E s:=by
 have D:sizeOk (.seq ((items.toList.drop (BJ items.size 0 lo)).take (BJ items.size items.size hi-BJ items.size 0 lo)).toArray):=by show((items.toList.drop (BJ items.size 0 lo)).take (BJ items.size items.size hi-BJ items.size 0 lo)).toArray.size<=An;rw[DQ,Eh,LZ,JE];(first|lia|omega)
 have L:BJ items.size items.size hi<=items.size:=ZZ _ _ (Af _) hi;refine AB λB=>?_;obtain⟨I,W,U,H⟩:=id Z;refine B ?_;try clear B
 have J:s.TypeIs (.ref Y) "slice":=⟨I,W,U⟩;unfold Lk;try with_reducible refine Jt ?_
 first|refine AX (Aw ?_)|skip
 refine AX (wpAny_sequenceKey F.typeIs (by decide) ?_);refine AX (TH (name:=Str.ofString "__getitem__") F.typeIs YE (Js YE F.typeIs entry_tuple_getitem ?_ (args_tuple_getitem _ _)));show Aa _ _ (AAz (.ref t)>>=_) _ _ s;refine AX (tupleItemsOf_ F ?_);refine AX (tI J ?_);rw[ABo (by decide)];refine AX (Za Z pl K ?_);have V:¬((((BJ items.size 0 lo:Nat):Int)==0&&(1:Int)==1&&(BJ items.size items.size hi-BJ items.size 0 lo)==items.size)=AF):=by intro q;rw[JF,JF]at q;have M:((BJ items.size 0 lo:Nat):Int)=0:=O1 q.1.1;have N:BJ items.size items.size hi-BJ items.size 0 lo=items.size:=O1 q.2;exact hw ⟨by(first|lia|omega),by(first|lia|omega)⟩
 show Aa _ _ (if(((BJ items.size 0 lo:Nat):Int)==0&&(1:Int)==1&&(BJ items.size items.size hi-BJ items.size 0 lo)==items.size)=AF then _ else _) _ _ s;rw[ABn V,ZX];first |exact AX (m:=AAy _) (Ki (Aw ⟨_,rfl,Aw h⟩) D)|exact wpAny_bind (m:=Builtin.Tuple.tupleExact _) (wpAny_newObj_type (wpAny_bind (wpAny_pure (wpAny_pure ⟨_,rfl,wpAny_pure h⟩))) D)|exact wpAny_bind (wpAny_bind (m:=Builtin.Tuple.tupleExact _) (wpAny_newObj_type (wpAny_pure (wpAny_pure ⟨_,rfl,wpAny_pure h⟩)) D))|exact wpAny_bind (wpAny_bind (m:=Builtin.Tuple.tupleExact _) (wpAny_newObj_type (wpAny_pure ⟨_,rfl,wpAny_pure h⟩) D))
noncomputable abbrev OL:=Aj->AN->(Option Int->AN->Prop)->Prop
noncomputable def OG(X:BR)(e:Option BD)(t:OL):Prop:=∀(D:List (AI×A8))(s:AU)(F:Aj)(H:AN)(Q:Option Int->AN->Prop),AY X D F H s->t F H Q->Aa (Ab X.ag X.w) X.A (evalPart e X.af) (λu U=>∃o J,AY X D F J U/\KZ u o/\Q o J) X.xe s
noncomputable def nV:OL:=λ_ H Q=>Q AD H
noncomputable def n8(t:A1):OL:=λF H Q=>t F H λx D=>∃i,x=.int i/\Q (AA i) D
theorem RO{D:List Int}:∀{us:List AK},BO (D.map AH.int) us->O7 us D:=by induction D with|nil=>intro us r;rw[SX]at r;cases r;exact .nil|cons n D F=>intro us r;rw[Cu]at r;cases r with|cons r1 r2=>obtain⟨t,e⟩:=r1;subst e;exact .cons n t (F r2)
theorem Hv:OG X AD nV:=by intro D s F H Q I h;rw[AAK];exact Aw ⟨AD,H,I,.none,h⟩
theorem FQ(h:Ae X e W):OG X (AA e) (n8 W):=by
 intro D s Y H Q I hw;rw[evalPart_some];refine A2 (h D s Y H _ I hw) λu s1⟨x,J,U,r1,V⟩=>?_;refine AB λF=>?_;obtain⟨i,rfl,q⟩:=V;obtain⟨t,rfl⟩:=r1;refine F ?_;try clear F
 exact⟨AA i,J,U,.int i t,q⟩
noncomputable def K6(X:BR)(r:AH->Option Int->Option Int->AN->BU->Prop):Prop:=∀(D:List (AI×A8))(s:AU)(Z:Aj)(H:AN)(x:AH)(v W Y:AK)(J F:Option Int)(U:AI)(Q:BU),AY X D Z H s->BN x v->s.heap.IsSliceOf U W Y .none->KZ W J->KZ Y F->r x J F H Q->∃T q,typeLookup (.type T) "__getitem__"=BB (AA (.builtin q))/\s.TypeIs v T/\Aa (Ab X.ag X.w) X.A (Lk v (.ref U)) (ED X D Z Q) X.xe s
noncomputable def oC(r:AH->Option Int->Option Int->AN->BU->Prop)(W:A1)(Z Y:OL):A1:=λD H Q=>W D H λx F=>Z D F λl J=>Y D J λu U=>r x l u U Q
theorem GV{lo:Option BD}(O:K6 X r)(L:Ae X e j)(N:OG X lo m)(R:OG X hi k):Ae X (.Subscript e (.Slice lo hi AD S) c) (oC r j m k):=by
 intro D s F H Q I h;refine qA (A2 (L D s F H _ I h) λv s1⟨x,Z,B,r1,f⟩=>?_);refine wpAny_Slice (A2 (N D s1 F Z _ B f) λJ s2⟨l,A,C,a,g⟩=>A2 (R D s2 F A _ C g) λU s3⟨u,W,E,d,i⟩=>?_);rw[AAK];refine Aw ?_;have G:AY X D F W {s3 with heap:=s3.heap.push {cls:=.type "slice",data:=.fields #[J,U,.none]}}:=E.de (t':=s3.toks) λb o q=>Bi _ q;refine AB λY=>?_;obtain⟨T,n,K,P,M⟩:=O D {s3 with heap:=s3.heap.push {cls:=.type "slice",data:=.fields #[J,U,.none]}} F W x v J U l u s3.heap.objs.size Q G r1 (yV ..) a d i;refine Y ?_;try clear Y
 show Aa (Ab X.ag X.w) X.A (qR e (.Slice lo hi AD S) v (.ref s3.heap.objs.size)) (ED X D F Q) X.xe {s3 with heap:=s3.heap.push {cls:=.type "slice",data:=.fields #[J,U,.none]}};exact tail_any (ops:=[.ref s3.heap.objs.size,v]) P K M (by with_unfolding_all rfl)
noncomputable def EF(xs:List AH)(lo hi:Option Int):List AH:=(xs.drop (BJ xs.length 0 lo)).take (BJ xs.length xs.length hi-BJ xs.length 0 lo)
theorem WH(xs:List AH)(lo hi:Option Int):(EF xs lo hi).length<=xs.length:=by unfold EF;rw[Eh,LZ];(first|lia|omega)
noncomputable def XH(K:Ar):AH->Option Int->Option Int->AN->BU->Prop:=λx J F H Q=>∃a D,x=.ref a/\Bw K H a D/\¬(BJ D.length 0 J=0/\BJ D.length D.length F=D.length)/\∀p,H p=AD->Q (.ref p) (AW H p (.tup (EF D J F)))
theorem mU{X:BR}:K6 X (XH X.K):=by
 intro A s P H x v N O J U M Q I K B E G h;refine AB λZ=>?_;obtain⟨a,F,rfl,C,hw,q⟩:=h;cases K;obtain⟨V,r,W,Y⟩:=I.bh C;refine Z ?_;try clear Z
 have D:V.toArray.size=F.length:=by rw[DQ];exact r.ak.symm
 refine⟨"tuple",_,YE.lookup,W.typeIs,?_⟩;refine ZW W B E G (by rw[D];exact hw) ?_ (by rw[D];exact Y);rw[D];refine⟨.ref s.heap.objs.size,_,I.ie (t':=s.toks) (o:=.tup (EF F J U)) (λb L q=>Bi _ q) (Af _) ?_,rfl,q _ (I.bb.az (Af _))⟩;exact⟨DE (WH F J U) Y,_,(r.afk (BJ F.length 0 J)).adu (BJ F.length F.length U-BJ F.length 0 J),Sj _ _⟩
noncomputable def XE(K:Ar):DH:=λx y H Q=>∃a b F D,x=.ref a/\y=.ref b/\Bw K H a F/\Bw K H b D/\F≠[]/\F.length+D.length<=An/\(D=[]->Q (.ref a) H)/\(D≠[]->∀p,H p=AD->Q (.ref p) (AW H p (.tup (F++D))))
theorem BO.qo(r:BO xs us):us=[]↔xs=[]:=by cases r with|nil=>simp|cons _ _=>simp
theorem kH{X:BR}:CO X (FX .Add) (XE X.K):=by
 intro U s O H x y v u Q I G K h;refine AB λJ=>?_;obtain⟨a,b,L,M,rfl,rfl,V,W,Y,D,C,E⟩:=h;cases G;cases K;obtain⟨Z,r1,A,_⟩:=I.bh V;obtain⟨F,r2,B,_⟩:=I.bh W;refine J ?_;try clear J
 refine Ta A B (λz=>Y (r1.qo.mp z)) (λz=>⟨.ref a,H,I,rfl,C (r2.qo.mp z)⟩) (λz=>?_) (by rw[<-r1.ak,<-r2.ak];exact D);refine⟨.ref s.heap.objs.size,_,I.ie (t':=s.toks) (o:=.tup (L++M)) (λb N q=>Bi _ q) (Af _) ?_,rfl,E (λw=>z (r2.qo.mpr w)) _ (I.bb.az (Af _))⟩;exact⟨by rw[CY];exact D,_,r1.lg r2,Sj _ _⟩
noncomputable def JV(n:Nat)(i:Int):Option Nat:=if 0<=i then(if i<n then AA i.toNat else AD)else if-(n:Int)<=i then AA (i+n).toNat else AD
noncomputable def C3(xs:List α)(i:Int):Option α:=(JV xs.length i).bind λj=>xs[j]?
theorem iZ(h:JV n i=AA j):seqIndex? i n=AA j/\j<n/\-(n:Int)<=i/\i<n:=by
  unfold JV at h;by_cases F:0<=i
  . rw[ABo F]at h;by_cases D:i<n;. rw[ABo D]at h;have e:i.toNat=j:=De h;exact⟨by rw[seqIndex_of F D,e],by(first|lia|omega),by(first|lia|omega),D⟩
    .rw[ABn D]at h;cases h
  . rw[ABn F]at h;by_cases D:-(n:Int)<=i
    . rw[ABo D]at h;have e:(i+n).toNat=j:=De h;exact⟨by rw[seqIndex_neg (by(first|lia|omega)) D,e],by(first|lia|omega),D,by(first|lia|omega)⟩
    .rw[ABn D]at h;cases h
theorem RD{xs:List α}(h:C3 xs i=AA v):∃j,seqIndex? i xs.length=AA j/\xs[j]?=AA v/\j<xs.length/\-(xs.length:Int)<=i/\i<xs.length:=by unfold C3 at h;cases e:JV xs.length i with|none=>rw[e]at h;cases h|some j=>
 rw[e]at h;refine AB λD=>?_;obtain⟨F,J,U,V⟩:=iZ e;refine D ?_;try clear D
 exact⟨j,F,h,J,U,V⟩
theorem Ag{α:Type}{xs:List α}{j:Nat}{v:α}(h:xs[j]?=AA v):C3 xs (j:Int)=AA v:=by
 have D:j<xs.length:=(Bh.mp h).1;have e:JV xs.length (j:Int)=AA j:=by unfold JV;rw[ABo (by(first|lia|omega)),ABo (by(first|lia|omega))];simp
 unfold C3;rw[e];exact h
theorem V3(xs:List α)(v:α):C3 (xs++[v]) (-1)=AA v:=by
 have D:(xs++[v]).length=xs.length+1:=by simp
 have e:JV (xs++[v]).length (-1)=AA xs.length:=by unfold JV;rw[D,ABn (by decide),ABo (by(first|lia|omega))];congr 1;(first|lia|omega)
 unfold C3;rw[e];show(xs++[v])[xs.length]?=AA v;simp
noncomputable def MN(b:BD):Prop:=∀o i,Yl b AO o i=sS [o,i] (Lk o i)
noncomputable def K4(X:BR)(r:DH):Prop:=∀(J D:BD)(F:List (AI×A8))(s:AU)(U:Aj)(H:AN)(x y:AH)(v u:AK)(Q:BU),AY X F U H s->BN x v->BN y u->r x y H Q->Yl D AO v u=sS [v,u] (Lk v u)->Aa (Ab X.ag X.w) X.A (qR J D v u) (ED X F U Q) X.xe s
noncomputable def OE(X:BR)(W:String)(r:AH->List AH->AN->BU->Prop):Prop:=∀(D:List (AI×A8))(s:AU)(U:Aj)(H:AN)(x:AH)(J:List AH)(v:AK)(F:List AK)(Q:BU),AY X D U H s->BN x v->BO J F->r x J H Q->Aa (Ab X.ag X.w) X.A (HA (.builtin W) (v::F)) (ED X D U Q) X.xe s
theorem HS(W:K4 X r)(U:Ae X a C)(V:Ae X b E)(Y:MN b):Ae X (.Subscript a b Z) (Jc r C E):=by intro D s G H Q I h;exact qA (RE U V I h λv u s2 x y F J A B q=>W a b D s2 G F x y v u Q J A B q (Y _ _))
noncomputable def R8(K:Ar):DH:=λx y H Q=>∃p D i v,x=.ref p/\y=.int i/\Bg K H p D/\C3 D i=AA v/\Q v H
noncomputable def R9(K:Ar):DH:=λx y H Q=>∃p D i v,x=.ref p/\y=.int i/\Bw K H p D/\C3 D i=AA v/\Q v H
noncomputable def l9:DH:=λx y H Q=>∃z i c,x=.str z/\y=.int i/\z.length<=An/\C3 z.cps.toList i=AA c/\Q (.str ⟨#[c]⟩) H
theorem i0{X:BR}:K4 X (R8 X.K):=by
  intro Z Y D s G H x y v u Q I R S h C;refine AB λE=>?_;obtain⟨p,d,i,z,rfl,rfl,P,N,q⟩:=h;cases R;obtain⟨t,rfl⟩:=S;obtain⟨U,r,V,c⟩:=I.cu P;obtain⟨j,F,K,a,L,M⟩:=RD N;obtain⟨w,A,W⟩:=r.yl K;refine E ?_;try clear E
  have O:=r.ak;have b:=LF;have fin:ED X D G Q w s:=⟨z,H,I,W,q⟩;by_cases B:0<=i
  . have J:i.toNat=j:=by rw[seqIndex_of B M]at F;exact De F
    exact item_listR V.isList B (by(first|lia|omega)) (by rw[J];simpa using A) fin C
  . have J:(i+(U.toArray.size:Int)).toNat=j:=by rw[seqIndex_neg (by(first|lia|omega)) L]at F;rw[DQ,<-O];exact De F
    exact xV (x:=w) V.isList.typeIs sW.lookup (wpAny_getItem_list_neg (Q:=λr T=>r=w/\ED X D G Q r T) V.isList (by(first|lia|omega)) (by rw[DQ]<;>(first|lia|omega)) (by(first|lia|omega)) (by rw[J];simpa using A) ⟨rfl,fin⟩) C
theorem i6{X:BR}:K4 X (R9 X.K):=by
 intro U J D s Y H x y v u Q I M N h K;refine AB λV=>?_;obtain⟨p,b,i,z,rfl,rfl,G,C,q⟩:=h;cases M;obtain⟨t,rfl⟩:=N;obtain⟨L,r,W,a⟩:=I.bh G;obtain⟨j,A,B,P,R,S⟩:=RD C;obtain⟨w,Z,F⟩:=r.yl B;refine V ?_;try clear V
 have E:=r.ak;have T:=LF;have fin:ED X D Y Q w s:=⟨z,H,I,F,q⟩;exact xV (x:=w) W.typeIs YE.lookup (getItem_tuple (j:=j) (Q:=λr O=>r=w/\ED X D Y Q r O) W (by(first|lia|omega)) (by(first|lia|omega)) (by rw[DQ,<-E];exact A) (by simpa using Z) ⟨rfl,fin⟩) K
theorem KI:K4 X l9:=by
 intro F D V s R H x y v u Q I K L h G;refine AB λU=>?_;obtain⟨z,i,c,rfl,rfl,O,C,q⟩:=h;obtain⟨t,rfl⟩:=K;obtain⟨P,rfl⟩:=L;obtain⟨j,J,Z,M,A,B⟩:=RD C;refine U ?_;try clear U
 have E:z.cps.toList.length=z.length:=by simp[zI]
 rw[E]at J A B;have N:=LF;exact tail_any (sY s z t) slot_str_getitem.lookup (getItem_str (c:=c) (by have W:AZ (i< -(2^63:Int))=AO:=ABr (by(first|lia|omega));have Y:AZ (i>=2^63)=AO:=ABr (by(first|lia|omega));rw[W,Y,vE]) (by rw[J];simpa using Z) ⟨.str ⟨#[c]⟩,H,I.uh _,⟨_,rfl⟩,q⟩) G
theorem mW(lo hi:Option Int)(n:Nat):(Ll lo hi AD n).1=((BJ n 0 lo:Nat):Int)/\(Ll lo hi AD n).2.1=((BJ n n hi:Nat):Int)/\(Ll lo hi AD n).2.2=1:=by
 refine⟨?_,?_,rfl⟩;.cases lo with |none=>simp[Ll,BJ]|some i=>
  simp only[Ll,BJ,w9,show(1:Int)>0 by decide,ABy];by_cases h:i<0;.simp only[h,ABy]<;>(first|lia|omega)
  .simp only[h,ABx]<;>(first|lia|omega)
 .cases hi with|none=>simp[Ll,BJ]|some i=>
  simp only[Ll,BJ,w9,show(1:Int)>0 by decide,ABy];by_cases h:i<0;.simp only[h,ABy]<;>(first|lia|omega)
  .simp only[h,ABx]<;>(first|lia|omega)
theorem mV(D:List AK)(lo hi:Option Int):Yj D.toArray lo hi AD=((D.drop (BJ D.length 0 lo)).take (BJ D.length D.length hi-BJ D.length 0 lo)).toArray:=by
 refine AB λF=>?_;obtain⟨J,U,V⟩:=mW lo hi D.toArray.size;refine F ?_;try clear F
 unfold Yj;rw[J,U,V];simp only[sliceRange_one,pick_run,DQ]<;>rfl
noncomputable def XG(K:Ar):AH->Option Int->Option Int->AN->BU->Prop:=λx J F H Q=>∃a D,x=.ref a/\Bg K H a D/\∀p,H p=AD->Q (.ref p) (AW H p (.lst (EF D J F)))
theorem mR{X:BR}:K6 X (XG X.K):=by
 intro Y s P H x v N O J U M Q I K Z E G h;refine AB λW=>?_;obtain⟨a,D,rfl,A,q⟩:=h;cases K;obtain⟨C,r,V,B⟩:=I.cu A;refine W ?_;try clear W
 have F:=r.ak;refine⟨"list",_,sW.lookup,V.isList.typeIs,?_⟩;refine AAa V.isList Z E G .none (by simp) ?_ (by rw[DQ]<;>(first|lia|omega));rw[mV,<-F];refine⟨.ref s.heap.objs.size,_,I.ie (t':=s.toks) (o:=.lst (EF D J U)) (λb L q=>Bi _ q) (Af _) ?_,rfl,q _ (I.bb.az (Af _))⟩;exact⟨DE (WH D J U) B,_,0,(r.afk (BJ D.length 0 J)).adu (BJ D.length D.length U-BJ D.length 0 J),Df _ rfl⟩
noncomputable def Ie:AH->Bool|.non=>AF|.bl _=>AF|.int _=>AF|.str _=>AF|_=>AO
noncomputable def JU:AH->AH->Bool|.non,.non=>AF|.bl a,.bl b=>a==b|.bl a,.int b=>(if a then 1 else 0)==b|.int a,.bl b=>a==(if b then 1 else 0)|.int a,.int b=>a==b|.str a,.str b=>a==b|_,_=>AO
theorem iF(U:BN y u)(D:BN x v)(W:Ie y=AF)(J:Ie x=AF):YQ A s u v (JU y x):=by cases y with
 |non=>cases U;cases x with |non=>cases D;exact zA _|bl b=>cases D;exact ABZ b|int b=>obtain⟨t,rfl⟩:=D;exact ABa b t|str b=>obtain⟨t,rfl⟩:=D;exact ABb b t|_=>exact absurd (show AO=AF from J) C6
 |bl a=> cases U;cases x with |non=>cases D;exact ABU a|bl b=>cases D;exact ABS a b|int b=>obtain⟨t,rfl⟩:=D;exact ABT a b t|str b=>obtain⟨t,rfl⟩:=D;exact ABV a b t|_=>exact absurd (show AO=AF from J) C6
 |int a=> obtain⟨F,rfl⟩:=U;cases x with |non=>cases D;exact ABY a F|bl b=>cases D;exact ABW a F b|int b=>obtain⟨t,rfl⟩:=D;exact ABX a F b t|str b=>obtain⟨t,rfl⟩:=D;exact y9 a F b t|_=>exact absurd (show AO=AF from J) C6
 |str a=> obtain⟨F,rfl⟩:=U;cases x with |non=>cases D;exact ABd a F|bl b=>cases D;exact ABc a F b|int b=>obtain⟨t,rfl⟩:=D;exact zB a F b t|str b=>obtain⟨t,rfl⟩:=D;exact ABe a F b t|_=>exact absurd (show AO=AF from J) C6
 |_=>exact absurd (show AO=AF from W) C6
noncomputable def Fl(x:AH)(u:AK):Bool:=match u with|.none=>JU .non x|.bool b=>JU (.bl b) x|.int i _=>JU (.int i) x|.str z _=>JU (.str z) x|_=>AO
theorem WN(r:BN y u)(f:Ie y=AF):Fl x u=JU y x:=by cases y with|non=>cases r;rfl|bl b=>cases r;rfl|int i=>obtain⟨t,rfl⟩:=r;rfl|str z=>obtain⟨t,rfl⟩:=r;rfl|_=>exact absurd (show AO=AF from f) C6
theorem MR:∀{xs:List AH}{us:List AK},BO xs us->xs.all Ie=AF->us.any (Fl x)=xs.any λy=>JU y x|_,_,.nil,_=>rfl|y::xs,u::us,.cons r t,f=>by rw[vR,JF]at f;rw[SO,SO,WN r f.1,MR t f.2]
theorem Md(J:BN x v)(F:Ie x=AF):∀{xs:List AH}{us:List AK},BO xs us->xs.all Ie=AF->∀u∈us,YQ A s u v (Fl x u)
 |_,_,.nil,_=>λu D=>by cases D|y::xs,u::us,.cons r t,f=>λU D=>by
  rw[vR,JF]at f;rcases B7.mp D with rfl|D;.rw[WN r f.1];exact iF r J f.1 F
  .exact Md J F t f.2 U D
noncomputable def Dk(x:AH)(xs:List AH):Bool:=xs.any λy=>JU y x
noncomputable def Ov(K:Ar)(F:Bool):DH:=λx y H Q=>∃p D,y=.ref p/\(Bg K H p D\/Bw K H p D)/\Ie x=AF/\D.all Ie=AF/\Q (.bl (if F then !Dk x D else Dk x D)) H
theorem kI{X:BR}:CO X (EJ .In) (Ov X.K AO):=by
  intro Y s E H x y v u Q I Z B h;refine AB λF=>?_;obtain⟨p,C,rfl,J,W,U,q⟩:=h;cases B;refine F ?_;try clear F
  rcases J with J|J
  . refine AB λF=>?_;obtain⟨D,r,V,A⟩:=I.cu J;refine F ?_;try clear F
    refine SeqAt.in_listAt (Fl x) V.isList (λw hw=>Md Z W r U w (by simpa using hw)) ⟨.bl _,H,I,rfl,?_⟩;rw[show D.toArray.any (Fl x)=D.any (Fl x)by simp,MR r U];exact q
  . refine AB λF=>?_;obtain⟨D,r,V,A⟩:=I.bh J;refine F ?_;try clear F
    refine SeqAt.in_tupleAt (Fl x) V (λw hw=>Md Z W r U w (by simpa using hw)) ⟨.bl _,H,I,rfl,?_⟩;rw[show D.toArray.any (Fl x)=D.any (Fl x)by simp,MR r U];exact q
theorem kL{X:BR}:CO X (EJ .NotIn) (Ov X.K AF):=by
  intro Y s E H x y v u Q I Z B h;refine AB λF=>?_;obtain⟨p,C,rfl,J,W,U,q⟩:=h;cases B;refine F ?_;try clear F
  rcases J with J|J
  . refine AB λF=>?_;obtain⟨D,r,V,A⟩:=I.cu J;refine F ?_;try clear F
    refine zD (Fl x) V.isList (λw hw=>Md Z W r U w (by simpa using hw)) ⟨.bl _,H,I,rfl,?_⟩;rw[show D.toArray.any (Fl x)=D.any (Fl x)by simp,MR r U];exact q
  . refine AB λF=>?_;obtain⟨D,r,V,A⟩:=I.bh J;refine F ?_;try clear F
    refine SeqAt.notIn_tupleAt (Fl x) V (λw hw=>Md Z W r U w (by simpa using hw)) ⟨.bl _,H,I,rfl,?_⟩;rw[show D.toArray.any (Fl x)=D.any (Fl x)by simp,MR r U];exact q
theorem gT{X:BR}:EB X (.builtin "len") (λxs H Q=>∃p ys,xs=[.ref p]/\(Bg X.K H p ys\/Bw X.K H p ys)/\Q (.int ys.length) H):=by
  intro Y s E H xs C Q I r h;refine AB λF=>?_;obtain⟨p,ys,rfl,J,q⟩:=h;obtain⟨u,rfl,A⟩:=F6 r;cases A;refine F ?_;try clear F
  have B:=LF;rcases J with J|J
  . refine AB λF=>?_;obtain⟨U,W,V,Z⟩:=I.cu J;refine F ?_;try clear F
    have D:=W.ak;exact Calls.call_len_list V.isList (by simp only[DQ]<;>(first|lia|omega)) ⟨.int ys.length,H,I.uh _,⟨s.toks+1,by rw[DQ,D]⟩,q⟩
  . refine AB λF=>?_;obtain⟨U,W,V,Z⟩:=I.bh J;refine F ?_;try clear F
    have D:=W.ak;exact len_tuple V (by simp only[DQ]<;>(first|lia|omega)) ⟨.int ys.length,H,I.uh _,⟨s.toks+1,by rw[DQ,D]⟩,q⟩
theorem gU:EB X (.builtin "len") (λxs H Q=>∃z,xs=[.str z]/\z.length<=An/\Q (.int z.length) H):=by
 intro F s W H xs V Q I r h;refine AB λD=>?_;obtain⟨z,rfl,U,q⟩:=h;obtain⟨u,rfl,t,rfl⟩:=F6 r;refine D ?_;try clear D
 have J:=LF;exact len_str (by(first|lia|omega)) ⟨.int z.length,H,I.uh _,⟨_,rfl⟩,q⟩
theorem gV{X:BR}:EB X (.type "list") (λxs H Q=>∃p ys,xs=[.ref p]/\(Bg X.K H p ys\/Bw X.K H p ys)/\∀l,H l=AD->Q (.ref l) (AW H l (.lst ys))):=by
  intro B s N H xs O Q I r h;refine AB λJ=>?_;obtain⟨p,ys,rfl,Y,q⟩:=h;obtain⟨u,rfl,M⟩:=F6 r;cases M;refine J ?_;try clear J
  have fin:∀(D:List AK),BO ys D->ys.length<=An->∀(F:A3)(U:Nat),(∀b L,s.heap.get? b=AA L->F.get? b=AA L)->F.get? s.heap.objs.size=AA {cls:=.type "list",dict:=AD,data:=.seq D.toArray U,slots:=#[]}->ED X B N Q (.ref s.heap.objs.size) {s with heap:=F}:=λD V Z F U A e=>⟨.ref s.heap.objs.size,_,I.ie (t':=s.toks) A (Af _) (show C7 X.ag X.w _ F _ (.lst ys)from⟨Z,D,U,V,e⟩),rfl,q _ (I.bb.az (Af _))⟩;rcases Y with Y|Y
  . refine AB λJ=>?_;obtain⟨D,V,K,Z⟩:=I.cu Y;have W:=V.ak;obtain⟨o,G,C,n,E⟩:=K.isList;refine J ?_;try clear J
    exact AAE p (.inl rfl) G C E (λF U A e=>fin D V Z F U A e) (by simp only[DQ]<;>(first|lia|omega))
  . refine AB λJ=>?_;obtain⟨D,V,K,Z⟩:=I.bh Y;have W:=V.ak;obtain⟨o,G,C,n,E⟩:=K;refine J ?_;try clear J
    exact AAE p (.inr rfl) G C E (λF U A e=>fin D V Z F U A e) (by simp only[DQ]<;>(first|lia|omega))
theorem gY{X:BR}:EB X (.type "tuple") (λxs H Q=>∃p ys,xs=[.ref p]/\((Bg X.K H p ys/\∀l,H l=AD->Q (.ref l) (AW H l (.tup ys)))\/(Bw X.K H p ys/\Q (.ref p) H))):=by
  intro F s C H xs L Q I r h;refine AB λD=>?_;obtain⟨p,ys,rfl,h⟩:=h;obtain⟨u,rfl,K⟩:=F6 r;cases K;refine D ?_;try clear D
  rcases h with⟨V,q⟩|⟨V,q⟩
  . refine AB λD=>?_;obtain⟨J,Y,W,B⟩:=I.cu V;refine D ?_;try clear D
    have A:=Y.ak;refine call_tuple_list W.isList (λU G=>?_) (by simp only[DQ]<;>(first|lia|omega));have Z:AY X F C H {s with heap:=U}:=I.de (t':=s.toks) G;have E:AY X F C (AW H U.objs.size (.tup ys)) {s with heap:=U.push {cls:=.type "tuple",data:=.seq J.toArray}}:=Z.ie (t':=s.toks) (λb o e=>Bi _ e) (Af _) (show C7 X.ag X.w _ _ _ (.tup ys)from⟨B,J,Y,Sj _ _⟩);exact⟨.ref U.objs.size,_,E,rfl,q _ (Z.bb.az (Af _))⟩
  . refine AB λD=>?_;obtain⟨J,Y,W,B⟩:=I.bh V;refine D ?_;try clear D
    exact call_tuple_same W ⟨.ref p,H,I,rfl,q⟩
noncomputable def Xk(K:Ar)(T:String)(x:AH)(H:AN):Prop:=match x with|.str _=>T="str"|.int _=>T="int"|.ref p=>(T="list"/\∃F,Bg K H p F)\/(T="tuple"/\∃o,K.lookup p=AA o/\o.cls=.type "tuple"/\o.dict=AD)\/(T="dict"/\((∃D,H p=AA (.dK D))\/∃D,H p=AA (.dT D)))\/(T="set"/\∃S n,H p=AA (.set S n))|_=>False
theorem oS{X:BR}{K:Aj}{s:AU}(I:AY X U K H s)(r:BN x v)(W:Xk X.K T x H):s.TypeIs v T/\∀a,v=.ref a->∃A,s.heap.get? a=AA A/\A.dict=AD:=by cases x with
  |str z=>
    refine AB λD=>?_;obtain⟨t,rfl⟩:=r;cases(show T="str"from W);refine D ?_;try clear D
    exact⟨sY s z t,λ_ e=>nomatch e⟩|int i=>
    refine AB λD=>?_;obtain⟨t,rfl⟩:=r;cases(show T="int"from W);refine D ?_;try clear D
    exact⟨typeIs_int s i t,λ_ e=>nomatch e⟩|ref p=>
    cases r;rcases W with⟨rfl,L,E⟩|⟨rfl,o,F,C,Z⟩|⟨rfl,F⟩|⟨rfl,S,n,F⟩
    . refine AB λD=>?_;obtain⟨G,_,B,_⟩:=I.cu E;refine D ?_;try clear D
      refine⟨B.isList.typeIs,λa e=>?_⟩;refine AB λD=>?_;cases e;obtain⟨o,n,e,c,Z,_⟩:=B;refine D ?_;try clear D
      exact⟨o,e,Z⟩
    . refine⟨⟨o,I.qu p o F,C⟩,λa e=>?_⟩;cases e;exact⟨o,I.qu _ o F,Z⟩
    . have z:∃o,s.heap.get? p=AA o/\o.ExactDict:=by
        rcases F with⟨q,F⟩|⟨q,F⟩
        . obtain⟨_,_,_,_,o,_,_,e,J,_⟩:=I.bb p _ F;exact⟨o,e,J⟩
        . obtain⟨_,_,_,_,o,_,_,e,J,_⟩:=I.bb p _ F;exact⟨o,e,J⟩
      refine AB λD=>?_;obtain⟨o,e,J⟩:=z;refine D ?_;try clear D
      refine⟨⟨o,e,J.1⟩,λa Y=>?_⟩;cases Y;exact⟨o,e,J.2.1⟩
    . refine AB λD=>?_;obtain⟨o,_,_,_,e,J,_⟩:=I.bb p _ F;refine D ?_;try clear D
      refine⟨⟨o,e,J.1⟩,λa Y=>?_⟩;cases Y;exact⟨o,e,J.2.1⟩|_=>exact Ek W
noncomputable def SG(K:Ar)(T:String)(r:AH->List AH->AN->BU->Prop)(U:A1)(t:Eb):A1:=λF H Q=>U F H λx D=>Xk K T x D/\t F D λW J=>r x W J Q
theorem kR{X:BR}{name:AJ}{Y D:Ce}(b:PlainAttrs T)(q:Slot T name B)(A:typeOf (.builtin B)=BB (.type "method_descriptor"))(R:OE X B r)(S:Ae X o f)(P:Ep X (e::U) t)(V:PK o name X.af (Bo o X.af)=Bo o X.af:=by rfl)(Z:((EV D (Bz (e::U) X.af)).all (λx=>!x.1)&&(S0 D (S5 [] X.af)).all (λx=>x.1.isSome)&&AZ ((e::U).length+([]:List Le).length+(if([]:List Le).isEmpty then 0 else 1)<30))=AF:=by rfl)(W:(Y.endLine==D.line)=AF:=by rfl)(a:Bz (e::U) X.af=(AO,Bo e X.af)::Bz U X.af:=by rfl)(J:(EV D (Bz U X.af)).any (·.1)=AO:=by rfl):Ae X (.Call (.Attribute o name Y) (e::U) [] D) (SG X.K T r f t):=by intro F s C H Q I h;refine wpAny_Call_method_late V Z W rfl (A2 (S F s C H _ I h) λv s1⟨x,K,E,r1,g,c⟩=>?_);obtain⟨N,O⟩:=oS E r1 g;refine⟨T,B,b,q,A,N,O,?_⟩;have G:=P D F s1 C K _ E c;rw[a]at G⊢;refine qV (by show(AO||(EV D (Bz U X.af)).any (·.1))=AO;rw[J]<;>rfl) (YH ?_);exact A2 G λi s2⟨j,L,M,r2,d⟩=>R F s2 C L x j v i Q M r1 r2 d
noncomputable def Vw(X:BR)(W:String)(r:AH->List AH->AN->BU->Prop):Prop:=∀(D:List (AI×A8))(s:AU)(U:Aj)(H:AN)(x:AH)(J:List AH)(v:AK)(F:List AK)(Q:BU),AY X D U H s->BN x v->BO J F->r x J H Q->Aa (Ab X.ag X.w) X.A (HA (.builtin W) (v::F)) (ED X D U Q) X.xe s
theorem BO.aby:∀{x:AH}{us:List AK},BO [x] us->∃u,us=[u]/\BN x u|_,_,.cons r .nil=>⟨_,rfl,r⟩
theorem BO.adt{xs:List AH}{us:List AK}(h:BO xs us):BO xs.reverse us.reverse:=by induction h with|nil=>exact .nil|cons r t D=>rw[X3,X3];exact BO.lg D (.cons r .nil)
theorem AY.aes{ys:List AH}{D its':List AK}(I:AY X F Z H s)(J:H l=AA (.lst xs))(e:s.heap.get? l=AA {cls:=.type "list",data:=.seq D.toArray n})(V:f D.toArray=its'.toArray)(Y:BO ys its')(hz:ys.length<=An):AY X F Z (AW H l (.lst ys)) {s with heap:=s.heap.update l (Iu f),toks:=t'}:=by have q:=yY e f;rw[V]at q;refine I.xu (x:=l) (e:=l) (by rw[J];exact trivial) (.inl rfl) (λA u U W=>(PC s.heap (Iu f) (HX U)).trans W) ⟨_,q⟩ ?_;exact⟨hz,its',_,Y,q⟩
theorem AY.agn{ys:List AH}{D:List AK}(I:AY X F U H s)(J:BO ys D)(hz:ys.length<=An):AY X F U (AW H s.heap.objs.size (.lst ys)) {s with heap:=s.heap.push {cls:=.type "list",data:=.seq D.toArray},toks:=t'}:=I.ie (λ_ _ q=>Bi _ q) (Af _) ⟨hz,D,0,J,Df _ rfl⟩
theorem AY.az{s:AU}(I:AY X D F H s):H s.heap.objs.size=AD:=I.bb.az (Af _)
theorem AY.abm{s:AU}{xs:List AH}(I:AY X J V H s)(U:H l=AA (.lst xs)):xs.length<=An/\∃(D:List AK)(n:Nat),BO xs D/\xs.length=D.length/\s.heap.get? l=AA {cls:=.type "list",data:=.seq D.toArray n}:=by
 refine AB λF=>?_;obtain⟨z,D,n,r,e⟩:=I.bb l _ U;refine F ?_;try clear F
 exact⟨z,D,n,r,r.ak,e⟩
theorem kB(h:n<=An):qS n=AO:=by unfold qS;exact ABr (by(first|lia|omega))
noncomputable def XD:AH->List AH->AN->BU->Prop:=λx F H Q=>∃l D y,x=.ref l/\F=[y]/\H l=AA (.lst D)/\D.length<An/\Q .non (AW H l (.lst (D++[y])))
theorem j7:Vw X "list.append" XD:=by
 intro V s K H x E v C Q I Z Y h;refine AB λU=>?_;obtain⟨l,G,y,rfl,rfl,J,B,q⟩:=h;cases Z;obtain⟨u,rfl,W⟩:=Y.aby;obtain⟨z,D,n,r,A,e⟩:=I.abm J;refine U ?_;try clear U
 refine Yc rC ⟨_,e,rfl⟩ yH (yF _ _) (AAO l D.toArray n u (by rw[DQ];(first|lia|omega))) ⟨e,?_⟩;refine⟨.non,_,I.aes (its':=D++[u]) J e (by simp) (r.lg (.cons W .nil)) ?_,rfl,q⟩;rw[CY,Hx];(first|lia|omega)
noncomputable def lZ:AH->List AH->AN->BU->Prop:=λx J H Q=>∃l b D F,x=.ref l/\J=[.ref b]/\H l=AA (.lst D)/\H b=AA (.lst F)/\D.length+F.length<=An/\Q .non (AW H l (.lst (D++F)))
theorem Rf:Vw X "list.extend" lZ:=by
 intro Z s a H x P v O Q I L K h;refine AB λY=>?_;obtain⟨l,b,R,T,rfl,rfl,W,B,N,q⟩:=h;cases L;obtain⟨u,rfl,G⟩:=K.aby;cases G;obtain⟨z,J,n,r,M,e⟩:=I.abm W;obtain⟨S,D,E,r2,C,A⟩:=I.abm B;refine Y ?_;try clear Y
 have V:J.toArray.size+D.toArray.size<=An:=by rw[DQ,DQ];(first|lia|omega)
 have U:¬(!J.toArray.isEmpty&&qS (J.toArray.size+D.toArray.size))=AF:=by rw[kB V,ZU];exact C6
 refine Yc YJ ⟨_,e,rfl⟩ F.entry_list_extend (F.args_list_extend_2 _ _) (AutoSeq1.list_extend_list_list_0 l J.toArray n b D.toArray E U (by rw[DQ];(first|lia|omega)) (by(first|lia|omega))) ⟨e,A,?_⟩;refine⟨.non,_,I.aes (its':=J++D) W e (by simp) (r.lg r2) ?_,rfl,q⟩;rw[CY];(first|lia|omega)
noncomputable def lV:DH:=λx y H Q=>∃l b D F,x=.ref l/\y=.ref b/\H l=AA (.lst D)/\H b=AA (.lst F)/\D.length+F.length<=An/\∀p,H p=AD->Q (.ref p) (AW H p (.lst (D++F)))
theorem Oi:CO X (FX .Add) lV:=by
 intro U s O H x y v u Q I B C h;refine AB λJ=>?_;obtain⟨l,b,L,N,rfl,rfl,Z,Y,G,q⟩:=h;cases B;cases C;obtain⟨z,F,n,r,E,e⟩:=I.abm Z;obtain⟨M,D,K,r2,A,V⟩:=I.abm Y;refine J ?_;try clear J
 refine P.add_list e V ?_ (by rw[DQ,DQ];(first|lia|omega));have W:F.toArray++D.toArray=(F++D).toArray:=by simp
 rw[W];exact⟨.ref _,_,I.agn (t':=s.toks) (r.lg r2) (by rw[CY];(first|lia|omega)),rfl,q _ I.az⟩
noncomputable def CI[DecidableEq F](kvs:List (F×AH))(k:F):Option AH:=(kvs.find? λD=>AZ (D.1=k)).map (·.2)
noncomputable def Bq[DecidableEq F](kvs:List (F×AH))(k:F)(v:AH):List (F×AH):=if(kvs.any λD=>AZ (D.1=k))=AF then kvs.map (λD=>if D.1=k then(D.1,v)else D)else kvs++[(k,v)]
theorem HV[DecidableEq D]{p:D×AH}(e:p.1=k):CI (p::r) k=AA p.2:=by simp[CI,O2,e]
theorem HU[DecidableEq D]{p:D×AH}(e:¬p.1=k):CI (p::r) k=CI r k:=by simp[CI,O2,e]
section
variable{κ:Type}[DecidableEq κ]
theorem Mr(k:κ):∀kvs:List (κ×AH),(kvs.any λD=>AZ (D.1=k))=(CI kvs k).isSome
 |[]=>rfl|p::r=>by
  rw[SO];by_cases e:p.1=k;.simp only[HV e,ABq e,Bool.true_or,Option.isSome_some]
  .rw[HU e,ABr e,Bool.false_or];exact Mr k r
end
section
variable{κ:Type}[DecidableEq κ]
theorem Xl(k j:κ)(y:AH):∀kvs:List (κ×AH),CI (kvs.map λD=>if D.1=k then(D.1,y)else D) j=(CI kvs j).map λx=>if j=k then y else x
  |[]=>rfl|p::r=>by
    have F:=Xl k j y r;rw[Cu];by_cases h:p.1=k
    . rw[ABo h];by_cases e:p.1=j;.rw[HV (p:=(p.1,y)) e,HV e,X7,ABo (e.symm.trans h)]
      .rw[HU (p:=(p.1,y)) e,HU e,F]
    . rw[ABn h];by_cases e:p.1=j;.rw[HV (p:=p) e,HV e,X7,ABn (λz=>h (e.trans z))]
      .rw[HU (p:=p) e,HU e,F]
end
section
variable{κ:Type}[DecidableEq κ]
theorem Xm(k j:κ)(y:AH):∀kvs:List (κ×AH),CI kvs k=AD->CI (kvs++[(k,y)]) j=if j=k then AA y else CI kvs j
 |[],_=>by
  by_cases e:k=j;.rw[ABo e.symm];exact HV (p:=(k,y)) e
  .rw[ABn (λz=>e z.symm)];exact HU (p:=(k,y)) e|p::r,D=>by
  rw[Mt];have F:¬p.1=k:=λz=>by rw[HV z]at D;cases D
  rw[HU F]at D;have J:=Xm k j y r D;by_cases e:p.1=j;.rw[HV e,HV e,ABn (λz=>F (e.trans z))]
  .rw[HU e,HU e,J]
end
theorem SJ{J:Type}[DecidableEq J](kvs:List (J×AH))(k j:J)(y:AH):CI (Bq kvs k y) j=if j=k then AA y else CI kvs j:=by
  unfold Bq;by_cases a:(kvs.any λF=>AZ (F.1=k))=AF
  . rw[ABo a,Xl];rw[Mr]at a;by_cases e:j=k
    . obtain⟨x,D⟩:=pW.mp a;rw[ABo e,e,D,X7,ABo rfl]
    . rw[ABn e];cases CI kvs j with|none=>rfl|some x=>rw[X7,ABn e]
  . rw[ABn a];refine Xm k j y kvs ?_;rw[Mr]at a;cases q:CI kvs k with|none=>rfl|some x=>rw[q]at a;exact(a rfl).elim
theorem Od[DecidableEq D](kvs:List (D×AH))(k:D)(v:AH):(Bq kvs k v).length<=kvs.length+1:=by
 unfold Bq;split;.rw[Am];(first|lia|omega)
 .rw[CY,FT,Jd];(first|lia|omega)
theorem Hu.abl{o:Option AH}{u:Option AK}(r:Hu o u):o.isSome=u.isSome:=by cases o with
 |none=>cases u with |none=>rfl|some _=>exact(show False from r).elim
 |some _=>cases u with|none=>exact(show False from r).elim|some _=>rfl
theorem Hu.afn{o:Option AH}{u:Option AK}(r:Hu o u)(D:BN d d'):BN (o.getD d) (u.getD d'):=by cases o with
 |none=>cases u with|none=>exact D|some _=>exact(show False from r).elim
 |some _=>cases u with|none=>exact(show False from r).elim|some _=>exact r
theorem Dj.adw[DecidableEq U](r:Dj kvs vs)(k:U):Hu (CI kvs k) (Fv vs k):=by unfold Dj at r;induction r with |nil=>exact GG|@cons p q Z F h t Y=>
    obtain⟨J,W⟩:=h;by_cases e:p.1=k
    . have D:q.1=k:=J.symm.trans e;have b:Fv (q::F) k=AA q.2:=by simp[Fv,O2,D]
      rw[HV e,b];exact W
    . have D:¬q.1=k:=λz=>e (J.trans z);have b:Fv (q::F) k=Fv F k:=by simp[Fv,O2,D]
      rw[HU e,b];exact Y
theorem Dj.afg[DecidableEq F]{kvs:List (F×AH)}{vs:List (F×AK)}(r:Dj kvs vs)(k:F):(kvs.any λD=>AZ (D.1=k))=vs.any λD=>AZ (D.1=k):=by unfold Dj at r;induction r with|nil=>rfl|cons h t J=>rw[SO,SO,J,h.1]
theorem Dj.aex[DecidableEq J]{kvs:List (J×AH)}{vs:List (J×AK)}(r:Dj kvs vs)(k:J)(Y:BN y u):Dj (kvs.map λD=>if D.1=k then(D.1,y)else D) (vs.map λD=>if D.1=k then(D.1,u)else D):=by unfold Dj at r⊢;induction r with|nil=>exact .nil|@cons p q Z A h t W=>
 rw[Cu,Cu];refine .cons ?_ W;obtain⟨F,U⟩:=h;by_cases e:p.1=k;.rw[ABo e,ABo (F.symm.trans e)];exact⟨F,Y⟩
 .rw[ABn e,ABn (λz=>e (F.trans z))];exact⟨F,U⟩
theorem Dj.acr[DecidableEq F](r:Dj kvs vs)(k:F)(D:BN y u):Dj (Bq kvs k y) (NJ vs k u):=by
 unfold Bq NJ;rw[r.afg k];by_cases e:(vs.any λJ=>AZ (J.1=k))=AF;.rw[ABo e,ABo e];exact r.aex k D
 .rw[ABn e,ABn e];exact y8 r ⟨rfl,D⟩
theorem Dj.ak[DecidableEq D]{kvs:List (D×AH)}{vs:List (D×AK)}(r:Dj kvs vs):kvs.length=vs.length:=Jo r
theorem LC(r:BN (Al k) u):(DB P w).is k u=AF:=by cases k with|inl i=>obtain⟨t,e⟩:=(show∃t,u=Su i t from r);subst e;exact jY P w i t|inr x=>obtain⟨t,e⟩:=(show∃t,u=Sv x t from r);subst e;exact jZ P w x t
theorem jA(e:Al a=Al b):a=b:=by cases a with
 |inl i=>cases b with |inl j=>have D:AH.int i=AH.int j:=e;injection D with D;rw[D]|inr y=>exact nomatch(show AH.int i=AH.str y from e)
 |inr x=>cases b with |inl j=>exact nomatch(show AH.str x=AH.int j from e)|inr y=>have D:AH.str x=AH.str y:=e;injection D with D;rw[D]
theorem We:∀{a b:List AR},a.map Al=b.map Al->a=b|[],[],_=>rfl|[],_::_,e=>by simp at e|_::_,[],e=>by simp at e|x::J,y::U,e=>by rw[Cu,Cu]at e;injection e with D F;rw[jA D,We F]
theorem Wb:∀{ks:List AR}{us:List AK},BO (ks.map Al) us->ItemsAre (DB P w) ks us|[],_,r=>by rw[SX]at r;cases r;exact .nil|k::ks,_,r=>by rw[Cu]at r;cases r with|cons h t=>exact .cons (LC h) (Wb t)
noncomputable abbrev Hs(H:AN):List (List AR×AH)->List (List AR×AI×AK)->Prop:=Bm λp q=>p.1=q.1/\H q.2.1=AA (.tup (p.1.map Al))/\BN p.2 q.2.2
theorem Hs.adw(r:Hs H kvs xs)(k:List AR):Hu (CI kvs k) ((Kg xs k).map (·.2)):=by induction r with|nil=>exact GG|@cons p q Z F h t Y=>
    refine AB λU=>?_;obtain⟨J,_,W⟩:=h;refine U ?_;try clear U
    by_cases e:p.1=k
    . have D:q.1=k:=J.symm.trans e;have b:Kg (q::F) k=AA q.2:=by simp[Kg,O2,D]
      rw[HV e,b];exact W
    . have D:¬q.1=k:=λz=>e (J.trans z);have b:Kg (q::F) k=Kg F k:=by simp[Kg,O2,D]
      rw[HU e,b];exact Y
theorem Hs.aex{kvs:List (List AR×AH)}{xs:List (List AR×AI×AK)}(r:Hs H kvs xs)(k:List AR)(Z:BN y u):Hs H (kvs.map λF=>if F.1=k then(F.1,y)else F) (xs.map (putAt k u)):=by induction r with|nil=>exact .nil|@cons p q A B h t Y=>
 rw[Cu,Cu];refine .cons ?_ Y;refine AB λU=>?_;obtain⟨D,J,W⟩:=h;refine U ?_;try clear U
 unfold putAt;by_cases e:p.1=k;.rw[ABo e,ABo (D.symm.trans e)];exact⟨D,J,Z⟩
 .rw[ABn e,ABn (λz=>e (D.trans z))];exact⟨D,J,W⟩
theorem Hs.acr(r:Hs H kvs xs)(k:List AR)(F:H b=AA (.tup (k.map Al)))(D:BN y u):Hs H (Bq kvs k y) (storedH xs k b u):=by
 have e:(kvs.any λJ=>AZ (J.1=k))=(Kg xs k).isSome:=by rw[Mr,(r.adw k).abl,Option.isSome_map]
 unfold Bq storedH;rw[e];by_cases q:(Kg xs k).isSome=AF;.rw[ABo q,ABo q];exact r.aex k D
 .rw[ABn q,ABn q];exact y8 r ⟨rfl,F,D⟩
theorem Hs.afp(r:Hs H kvs xs)(F:∀b ys,H b=AA (.tup ys)->D b=AA (.tup ys)):Hs D kvs xs:=Q8 r λ_ _ z=>⟨z.1,F _ _ z.2.1,z.2.2⟩
theorem XJ(D:Cy P w H h)(e:HJ H a u):C7 P w H h a u:=e.ok D
theorem MT{h:A3}{kvs:List (AR×AH)}(D:Cy P w H h)(e:HJ H a (.dK kvs)):kvs.length<=An/\(a==IG)=AO/\∃vs,Dj kvs vs/\h.DictOf (DB P w) a vs:=show C7 P w H h a (.dK kvs)from XJ D e
theorem MS{h:A3}{kvs:List (AR×AH)}(D:Cy P w H h)(e:H a=AA (.dK kvs)):kvs.length<=An/\(a==IG)=AO/\∃vs,Dj kvs vs/\h.DictOf (DB P w) a vs:=MT D (.inl e)
theorem Oc{ks:List AR}(W:Cy P w H h)(e:H a=AA (.tup (ks.map Al))):(PU (DB P w)).is h ks a:=by
 refine AB λF=>?_;obtain⟨_,D,r,o,J,U,n,V⟩:=(show C7 P w H h a (.tup (ks.map Al))from W a _ e);refine F ?_;try clear F
 exact⟨o,D.toArray,n,J,U,V,by simpa using Wb r⟩
theorem MU{h:A3}{kvs:List (List AR×AH)}(W:Cy P w H h)(e:HJ H a (.dT kvs)):kvs.length<=An/\(a==IG)=AO/\∃xs,Hs H kvs xs/\h.DictOfH (PU (DB P w)) a xs:=by
 refine AB λU=>?_;obtain⟨z,y,xs,r,o,Z,Y,A,B,C,E,G⟩:=(show C7 P w H h a (.dT kvs)from XJ W e);refine U ?_;try clear U
 refine⟨z,y,xs,r,o,Z,Y,A,B,C,E,λx D=>?_,G⟩;have F:∀{l:List (List AR×AH)}{m:List (List AR×AI×AK)},Hs H l m->∀x∈m,(PU (DB P w)).is h x.1 x.2.1:=by intro l m q;induction q with |nil=>intro x D;exact nomatch D|@cons p q K L J t I=>
  intro x D;rcases B7.mp D with e|D;. subst e;exact Oc W (by rw[<-J.1];exact J.2.1)
  .exact I x D
 exact F r x D
theorem iE{h:A3}{kvs:List (List AR×AH)}(D:Cy P w H h)(e:H a=AA (.dT kvs)):kvs.length<=An/\(a==IG)=AO/\∃xs,Hs H kvs xs/\h.DictOfH (PU (DB P w)) a xs:=MU D (.inl e)
noncomputable def JN(H:AN)(a:AI)(y:AH)(r:Option AH):Prop:=(∃D k,HJ H a (.dK D)/\y=Al k/\r=CI D k)\/∃D k b,HJ H a (.dT D)/\y=.ref b/\H b=AA (.tup (k.map Al))/\r=CI D k
noncomputable def OA(H:AN)(a:AI)(y v:AH)(F:AN):Prop:=(∃D k,H a=AA (.dK D)/\y=Al k/\D.length<An/\F=AW H a (.dK (Bq D k v)))\/∃D k b,H a=AA (.dT D)/\y=.ref b/\H b=AA (.tup (k.map Al))/\D.length<An/\F=AW H a (.dT (Bq D k v))
theorem MI(e:H a=AA (.dK kvs)):JN H a (Al k) (CI kvs k):=.inl ⟨kvs,k,.inl e,rfl,rfl⟩
theorem Kx{kvs:List (AR×AH)}(e:H a=AA (.dK kvs))(D:kvs.length<An):OA H a (Al k) v (AW H a (.dK (Bq kvs k v))):=.inl ⟨kvs,k,e,rfl,D,rfl⟩
theorem AY.agz{s:AU}(I:AY X D F H s):IG<s.heap.objs.size:=by have h:BI<s.heap.objs.size:=(I.vn.vh.keeps I.bk).lt;exact pV (by decide) h
theorem iA{X:BR}{A:Cj}(L:A.units+1<E8)(I:AY X V O H s)(g:JN H a y (AA v))(B:BN y u)(h:∀J s',AY X V O H s'->BN v J->Q J s'):Aa (Ab X.ag X.w) A (Lk (.ref a) u) Q E s:=by
  rcases g with⟨q,k,e,Y,l⟩|⟨q,k,b,e,Y,C,l⟩
  . subst Y;refine AB λU=>?_;obtain⟨z,G,M,D,W⟩:=MT I.bb e;obtain⟨J,hw,F⟩:=MO (v:=v) (o:=Fv M k) (by rw[l];exact D.adw k);refine U ?_;try clear U
    exact wpAny_getItem_of (LC B) W.mapOf hw (h J _ (I.uh _) F)
  . subst Y;refine AB λU=>?_;cases(show u=C8 b from B);obtain⟨z,G,N,D,W⟩:=MU I.bb e;obtain⟨J,hw,F⟩:=MO (v:=v) (o:=(Kg N k).map (·.2)) (by rw[l];exact D.adw k);obtain⟨p,K,Z⟩:=Co.mp hw;refine U ?_;try clear U
    refine wpAny_getItem_heap (sX L) (Oc I.bb C) W K ?_;rw[Z];exact h J _ (I.uh _) F
theorem OV{X:BR}{h':A3}(I:AY X D Z H s)(Y:ML (H a))(W:Ir a s.heap h')(V:∃q,h'.get? a=AA q)(F:C7 X.ag X.w (AW H a J) h' a J):AY X D Z (AW H a J) {s with heap:=h',toks:=t'}:=I.xu (x:=a) (e:=a) Y (.inl rfl) (λb q U z=>(W.2 b U).trans z) V F
theorem RL{h':A3}{kvs:List (AR×AH)}(z:kvs.length<=An)(J:(a==IG)=AO)(D:Dj kvs vs)(dd:h'.DictOf (DB P w) a vs):C7 P w F h' a (.dK kvs):=⟨z,J,vs,D,dd⟩
theorem iB{X:BR}{A:Cj}(o:A.units+1<E8)(I:AY X V w H s)(g:OA H a y v M)(S:BN y u)(R:BN v r)(h:∀s',AY X V w M s'->Q () s'):Aa (Ab X.ag X.w) A (setItem (.ref a) u r) Q E s:=by
  rcases g with⟨D,k,e,B,l,Z⟩|⟨D,k,b,e,B,N,l,Z⟩
  . subst B Z;refine AB λU=>?_;obtain⟨z,C,p,F,Y⟩:=MS I.bb e;refine U ?_;try clear U
    have L:p.length<=An:=by rw[<-F.ak];exact z
    have G:(Bq D k v).length<=An:=by have:=Od D k v;(first|lia|omega)
    refine wpAny_setItem_pairs (hsz:=L) (LC S) Y λP J K=>h _ ?_;have n:∃q,P.get? a=AA q:=let⟨q,_,_,W,_⟩:=J;⟨q,W⟩;exact OV I (by rw[e];exact GG) K n (RL G C (F.acr k R) J)
  . subst B Z;refine AB λU=>?_;cases(show u=C8 b from S);obtain⟨z,C,t,F,Y⟩:=iE I.bb e;refine U ?_;try clear U
    have L:t.length<=An:=by rw[<-Jo F];exact z
    have G:(Bq D k v).length<=An:=by have:=Od D k v;(first|lia|omega)
    refine wpAny_setItem_heap (hsz:=L) (sX o) (Oc I.bb N) Y λP J K=>h _ ?_;refine AB λU=>?_;obtain⟨q,d,T,W,f,i,j,_,m⟩:=J;refine U ?_;try clear U
    refine OV I (by rw[e];exact GG) K ⟨q,W⟩ ⟨G,C,_,(F.acr k N R).afp λc x O=>?_,q,d,T,W,f,i,j,m⟩;rw[BC (kA O e (λz=>nomatch z))];exact O
noncomputable def Vx(i:BD):Prop:=∀F D,Yl i AO F D=sS [F,D] (Lk F D)
theorem Xa(C:typeLookup (.type T) "__getitem__"=BB (AA (.builtin H)))(G:Vx D)(h:Aa (Ab prog w) A (Bo F env) (λo V=>Aa (Ab prog w) A (Bo D env) (λi J=>J.TypeIs o T/\Aa (Ab prog w) A (Lk o i) Q E J) E V) E s):Aa (Ab prog w) A (Bo (.Subscript F D q) env) Q E s:=by
 refine qA (EK h (λo V Y=>EK Y (λi J U=>?_) λ_ _ x=>x) λ_ _ x=>x);obtain⟨B,U⟩:=U;unfold qR;refine AX ?_;rw[getitemInPython_of_ne B.not_modules];refine AX (AAj B C ?_);have fin:Aa (Ab prog w) A (Yl D AO o i) (λr W=>Aa (Ab prog w) A (letTemporaryGo F o r>>=λ_=>BB r) Q E W) E J:=by rw[G o i];exact wpAny_operating (EK U (λr W Z=>AX (wpAny_letTemporaryGo (Aw Z))) λ_ _ x=>x)
 first |exact Aw (AX fin)|exact wpAny_bind (wpAny_pure (wpAny_bind fin))|exact wpAny_bind fin
theorem iD{s:AU}(I:AY X F W H s)(g:JN H a y o):s.TypeIs (.ref a) "dict":=by
  rcases g with⟨U,k,e,_,_⟩|⟨U,k,b,e,_,_,_⟩
  . refine AB λD=>?_;obtain⟨_,_,Y,_,J⟩:=MT I.bb e;refine D ?_;try clear D
    exact J.typeIs
  . refine AB λD=>?_;obtain⟨_,_,Z,_,J⟩:=MU I.bb e;refine D ?_;try clear D
    exact J.typeIs
noncomputable def nB(U V:A1):A1:=λF H Q=>U F H λx J=>V F J λy D=>∃a v,x=.ref a/\JN D a y (AA v)/\Q v D
noncomputable def mL(Y q Z:A1):Cd:=λD F H=>Z F H λv U=>Y F U λx V=>q F V λy W=>∃a J,x=.ref a/\OA W a y v J/\D.nx F J
theorem Il{X:BR}(C:X.A.units+1<E8)(A:Ae X o N)(hi:Ae X i O)(B:Vx i):Ae X (.Subscript o i E) (nB N O):=by intro D s U H Q I h;refine Xa F.slot_dict_getitem.lookup B (A2 (A D s U H _ I h) λu s1⟨x,V,Y,L,G⟩=>A2 (hi D s1 U V _ Y G) λP s2⟨y,W,J,M,a,v,q,g,K⟩=>?_);subst q;obtain rfl:u=C8 a:=L;exact⟨iD J g,iA C J g M λR s3 Z F=>⟨v,W,Z,F,K⟩⟩
theorem LN{X:BR}{W:Ce}(M:X.A.units+1<E8)(K:Ae X o b)(hi:Ae X i d)(N:Ae X J c)(L:JB J (AA (.Subscript o i U)) W.line X.af=BB AO):DW X (.Assign [.Subscript o i U] J W) (mL b d c):=by intro F s V H D I h;refine AAU (A2 (N F s V H _ I h) λr s1⟨v,Y,A,R,O⟩=>A2 (K F s1 V Y _ A O) λu s2⟨x,Z,B,S,P⟩=>A2 (hi F s2 V Z _ B P) λf s3⟨y,e,C,T,a,q,G,g,Q⟩=>?_) L;subst G;obtain rfl:u=C8 a:=S;exact iB M C g T R λs4 E=>⟨V,q,E,Q⟩
theorem WM(h:A3)(D:IG<h.objs.size):C7 P w H (h.push {cls:=.type "dict",data:=.dict #[]}) h.objs.size (.dK []):=⟨Bd _,ABz.mpr (HX (Cv D)),[],.nil,ABO h⟩
noncomputable def nD:A1:=λ_ H Q=>∀p,H p=AD->Q (.ref p) (AW H p (.dK []))
theorem Ol:Ae X (.Dict [] [] F) nD:=λD s J H Q I h=>wpAny_Dict_empty ⟨.ref s.heap.objs.size,_,I.ie (a:=s.heap.objs.size) (o:=.dK []) (t':=s.toks) (λ_ _ q=>Bi _ q) (Af _) (WM s.heap I.agz),rfl,h _ (I.bb.az (Af _))⟩
noncomputable def SH:List (A1×A1)->Aj->AN->(List (AH×AH)->AN->Prop)->Prop|[],_,H,Q=>Q [] H|(Y,Z)::r,D,H,Q=>Y D H λx F=>Z D F λy J=>SH r D J λW U=>Q ((x,y)::W) U
noncomputable abbrev V2:List (AH×AH)->List (AK×AK)->Prop:=Bm λp q=>BN p.1 q.1/\BN p.2 q.2
noncomputable def OH(X:BR)(U:Ce)(J:List (Option BD))(D:List BD)(W:List (A1×A1)):Prop:=∀(F:List (AI×A8))(s:AU)(Y:Aj)(H:AN)(Q:List (AH×AH)->AN->Prop),AY X F Y H s->SH W Y H Q->Aa (Ab X.ag X.w) X.A (evalPairs (pairTrees J D X.af U)) (λB A=>∃q Z,AY X F Y Z A/\V2 q B/\Q q Z) X.xe s
theorem lJ:OH X D [] [] []:=λF s J H Q I h=>pairTrees_nil_walk ⟨[],H,I,.nil,h⟩
theorem Ot(G:Ae X k W)(L:Ae X v Y)(K:OH X F ks vs J):OH X F (AA k::ks) (v::vs) ((W,Y)::J):=λD s V H Q I h=>pairTrees_cons_walk (A2 (G D s V H _ I h) λu s1⟨x,Z,B,R,N⟩=>A2 (L D s1 V Z _ B N) λT s2⟨y,q,C,S,O⟩=>A2 (K D s2 V q _ C O) λa s3⟨M,A,E,U,P⟩=>⟨(x,y)::M,A,E,.cons ⟨R,S⟩ U,P⟩)
noncomputable def LG(kvs D:List (AR×AH)):List (AR×AH):=D.foldl (λF J=>Bq F J.1 J.2) kvs
theorem Dj.aft:∀{D:List (AR×AH)}{F:List (AR×AK)}{kvs:List (AR×AH)}{vs:List (AR×AK)},Dj D F->Dj kvs vs->Dj (LG kvs D) (merged vs F):=by intro D F kvs vs r;unfold Dj at r;induction r generalizing kvs vs with|nil=>intro q;exact q|@cons p q W Y h t J=>
 intro U;have e:Dj (Bq kvs p.1 p.2) (NJ vs q.1 q.2):=by have:=U.acr p.1 h.2;rw[<-h.1];exact this
 exact J e
theorem Wk:∀(D kvs:List (AR×AH)),(LG kvs D).length<=kvs.length+D.length|[],kvs=>by show kvs.length<=kvs.length+0;(first|lia|omega)|p::r,kvs=>by have F:=Wk r (Bq kvs p.1 p.2);have J:=Od kvs p.1 p.2;show(LG (Bq kvs p.1 p.2) r).length<=_;rw[FT];(first|lia|omega)
theorem WB:∀{kvs:List (AR×AH)}{U:List (AK×AK)},V2 (kvs.map λF=>(Al F.1,F.2)) U->∃D,Carries (DB P w) U D/\Dj kvs D |[],_,r=>by rw[SX]at r;cases r;exact⟨[],GG,.nil⟩|p::kvs,_,r=>by rw[Cu]at r;cases r with|@cons a b Y A h t=>
 refine AB λJ=>?_;obtain⟨D,c,q⟩:=WB (P:=P) (w:=w) t;obtain⟨Z,W⟩:=b;refine J ?_;try clear J
 exact⟨(p.1,W)::D,⟨LC h.1,rfl,c⟩,.cons ⟨rfl,h.2⟩ q⟩
noncomputable def nF(F:List (A1×A1)):A1:=λY H Q=>∀p,H p=AD->SH F Y (AW H p (.dK [])) λW J=>J p=AA (.dK [])/\∃D:List (AR×AH),W=D.map (λU=>(Al U.1,U.2))/\D.length<=15/\Q (.ref p) (AW J p (.dK (LG [] D)))
theorem kX{keys:List (Option BD)}{values:List BD}(h:OH X pos keys values trs)(hall:keys.all (·.isSome)=AF)(hl:keys.length=values.length)(h0:keys≠[])(h15:keys.length<=15):Ae X (.Dict keys values pos) (nF trs):=by
 intro pins s σ H Q I q;have hn:=I.bb.az (Af s.heap.objs.size);have I1:=I.ie (a:=s.heap.objs.size) (o:=.dK []) (h':=s.heap.push {cls:=.type "dict",data:=.dict #[]}) (t':=s.toks) (λ_ _ q=>Bi _ q) (Af _) (WM s.heap I.agz);refine wpAny_Dict_walk (knd:=DB X.ag X.w) hall hl h0 h15 (A2 (h pins _ σ _ _ I1 (q _ hn)) λws s2⟨ps,H2,I2,rel,e,kvs,ep,lk,q2⟩=>?_);subst ep;refine AB λnG=>?_;obtain⟨rs,c,rk⟩:=WB (P:=X.ag) (w:=X.w) rel;obtain⟨z,hd,vs0,r0,dd⟩:=MS I2.bb e;cases r0;refine nG ?_;try clear nG
 refine⟨rs,c,dd,λh' dd' hs=>⟨.ref s.heap.objs.size,_,?_,rfl,q2⟩⟩;have hz:(LG [] kvs).length<=An:=by have h1:=Wk kvs [];rw[Jd]at h1;rw[Dg];(first|lia|omega)
 have he:∃q,h'.get? s.heap.objs.size=AA q:=let⟨q,_,_,hq,_⟩:=dd';⟨q,hq⟩;exact OV I2 (by rw[e];exact GG) hs he (RL hz hd (rk.aft .nil) dd')
structure Vv(X:BR)(o:BD)(m:AJ)(apos:Ce)(e f:BD)(cpos:Ce):Prop where
 ao:PK o m X.af (Bo o X.af)=Bo o X.af
 ahb:((EV cpos (Bz [e,f] X.af)).all (λx=>!x.1)&&(S0 cpos (S5 [] X.af)).all (λx=>x.1.isSome)&&AZ (([e,f]:List BD).length+([]:List Le).length+(if([]:List Le).isEmpty then 0 else 1)<30))=AF
 afq:(apos.endLine==cpos.line)=AF
 aeh:EV cpos (Bz [e,f] X.af)=[(AO,Bo e X.af),(AO,Bo f X.af)]
noncomputable def MJ(H:AN)(a:AI):Prop:=(∃D,HJ H a (.dK D))\/∃D,HJ H a (.dT D)
theorem WY{s:AU}(I:AY X U A H s)(d:MJ H a):s.TypeIs (.ref a) "dict"/\(∀b,C8 a=.ref b->∃F,s.heap.get? b=AA F/\F.dict=AD)/\(a==IG)=AO:=by
  rcases d with⟨Z,e⟩|⟨Z,e⟩
  . refine AB λD=>?_;obtain⟨_,Y,B,_,J⟩:=MT I.bb e;refine D ?_;try clear D
    refine⟨J.typeIs,λb q=>?_,Y⟩;refine AB λD=>?_;cases q;obtain⟨F,_,_,V,W,_⟩:=J;refine D ?_;try clear D
    exact⟨F,V,W.2.1⟩
  . refine AB λD=>?_;obtain⟨_,Y,C,_,J⟩:=MU I.bb e;refine D ?_;try clear D
    refine⟨J.typeIs,λb q=>?_,Y⟩;refine AB λD=>?_;cases q;obtain⟨F,_,_,V,W,_⟩:=J;refine D ?_;try clear D
    exact⟨F,V,W.2.1⟩
theorem hZ{X:BR}{o:Option AH}{A:Cj}(G:A.units+1<E8)(I:AY X U L H s)(g:JN H a y o)(q:BN y u)(Z:BN d r)(h:∀B s',AY X U L H s'->BN (o.getD d) B->Q B s'):Aa (Ab X.ag X.w) A (HA (.builtin "dict.get") [.ref a,u,r]) Q E s:=by
  rcases g with⟨Y,k,e,V,l⟩|⟨Y,k,b,e,V,C,l⟩
  . subst V;refine AB λJ=>?_;obtain⟨z,W,M,D,F⟩:=MT I.bb e;refine J ?_;try clear J
    refine sF rB F.typeIs yG (yE _ _ _) (meets_dict_get_default (DB X.ag X.w) a (LC q) W r) ⟨_,F.mapOf,h _ _ (I.uh _) ?_⟩;rw[l];exact(D.adw k).afn Z
  . subst V;refine AB λJ=>?_;cases(show u=C8 b from q);obtain⟨z,W,K,D,F⟩:=MU I.bb e;refine J ?_;try clear J
    refine sF rB F.typeIs yG (yE _ _ _) (meetsH_dict_get_default (PU (DB X.ag X.w)) a b W r) ⟨sX G,k,K,Oc I.bb C,F,h _ _ (I.uh _) ?_⟩;rw[l];exact(D.adw k).afn Z
noncomputable def nC(V Y W:A1):A1:=λD H Q=>V D H λx F=>∃a,x=.ref a/\MJ F a/\Y D F λy U=>W D U λz J=>∃o,JN J a y o/\Q (o.getD z) J
theorem kW{X:BR}(hu:X.A.units+1<E8)(ho:Ae X o td)(he:Ae X e ty)(hf:Ae X f tx)(m:Vv X o "get" apos e f cpos):Ae X (.Call (.Attribute o "get" apos) [e,f] [] cpos) (nC td ty tx):=by
 intro pins s σ H Q I h;refine AAV m.ao m.ahb m.afq yO rB F.type_dict_get (A2 (ho pins s σ H _ I h) λu s1⟨x,H1,I1,rx,a,ex,d,q1⟩=>?_);subst ex;refine AB λnG=>?_;obtain rfl:u=C8 a:=rx;obtain⟨t1,t2,_⟩:=WY I1 d;refine nG ?_;try clear nG
 refine⟨t1,t2,?_⟩;rw[m.aeh];refine qV rfl (YH (Jm (A2 (he pins s1 σ H1 _ I1 q1) λiv s2⟨y,H2,I2,ry,q2⟩=>Jm (A2 (hf pins s2 σ H2 _ I2 q2) λfv s3⟨z,H3,I3,rz,ov,g,q3⟩=>Ld ?_))));exact hZ hu I3 g ry rz λw' s4 I4 rw'=>⟨_,H3,I4,rw',q3⟩
theorem ZQ:∀(D:List Int)(vs:List AK),W.WellAll P h vs (D.map zP)->O7 vs D:=by intro D;induction D with|nil=>intro vs w;rw[SX]at w;cases w;exact .nil|cons n D F=>intro vs w;rw[Cu]at w;cases w with|cons a b=>cases a;exact .cons _ _ (F _ b)
theorem ZS{l:PH}(K:l.most=AA n){h:A3}(J:l.row.toRowW.claim.pre D=AF)(B:W.WellAll P h U D):∃a vs F,U=[C8 a]/\D=[W.WData.list (F.map zP)]/\h.get? a=AA {cls:=.type "list",data:=.seq vs.toArray}/\O7 vs F/\F.length<=n:=by
 have A:W.WShape.hasAll [] D [.list .int]=AF:=(W.pre_splitW J).1;have C:l.pre.holds [] {args:=D}=AF:=(W.pre_splitW J).2;refine AB λE=>?_;obtain⟨d,r,rfl,G,H⟩:=W.hasAllW_cons A;obtain rfl:=W.hasAllW_nil H;obtain⟨Q,rfl,I⟩:=W.hasW_list G;obtain⟨F,rfl⟩:=W.items_int I;refine E ?_;try clear E
 have W:F.length<=n:=by
  unfold W.OpenLaw.pre at C;have Y:(W.WTm.not (.lt (.lit (.int (n:Int))) (.len (.arg 0)))).holds [] {args:=[.list (F.map .int)]}=AF:=by have Y:=(W.holds_andW C).1;rw[K]at Y;exact Y
  have Z:=W.condW_of Y (W.w_not (W.w_lt W.w_lit (W.w_len_list (W.w_arg rfl))));rw[Am]at Z;refine wU λq=>?_;have M:(n:Int)<((F.length:Nat):Int):=by(first|lia|omega)
  first |(rw[ABq M]at Z;exact absurd Z (by decide))|(simp at Z;(first|lia|omega))
 cases B with|cons N O=>cases O;cases N with|list L V=>exact⟨_,_,F,rfl,rfl,L,ZQ F _ V,W⟩
theorem ZR(l:PH)(D:List W.WData):l.row.toRowW.claim.post D (.bool AF) D=AF:=W.postW_of (r:=l.row.toRowW) (X:=(AF==AF)) (show W.WShape.has [] (.bool AF) .bool=AF by first|rfl|decide|simp[WShape.has,WShape.arms,WShape.armsAll]) (show(W.WTm.eq .res (.lit (.bool AF))).value [] {args:=D,res:=AA (.bool AF),after:=D}=AA (.bool (AF==AF))from W.w_eq_bool (W.w_res rfl) W.w_lit) rfl
theorem ZP{l:PH}{d:DefRec}(hn:l.most=AA n)(hdf:d.params.defaults=[])(call:∀(w:Bn)(s₀ s₁:AU)(mg mb:AJ->Option AK)(fa:AI)(o:A8)(pm cd doc:AK)(a:AI)(vs:List AK)(ns:List Int),W.Ground q loose [] XP w s₀ mg mb s₁.heap->YP w s₁.heap->s₁.heap.get? fa=AA o->o.data=.func (Calls.docDef d.name d.params d.body d.scope pm cd doc)->s₁.heap.CodeRec cd d.name->mg d.name=AA (.ref fa)->s₁.heap.get? a=AA {cls:=.type "list",data:=.seq vs.toArray}->O7 vs ns->ns.length<=n->s₁.gens=#[]->IE (Ab l.prog w) Lj (.call (.ref fa) ⟨[.ref a],[]⟩) (λr s'=>r=.ok (.ret (.bool AF))/\OldK s₁.heap s'.heap/\s'.os=s₁.os/\Ji s'.gens) s₁):rO q loose XP YP l.row.toRowW d [] (λf vs=>HA f vs):=by
 intro w s₀ s₁ mg mb G Y fa o pm cd doc dV kV ho hd hcd hD hmg hg args vals as hpre hlay hrd hwl hlo;refine AB λnG=>?_;obtain rfl:dV=.none:=W.Dflts.none hD hdf;obtain rfl:kV=.none:=W.Dflts.noKw hD;obtain⟨a,vs,ns,rfl,rfl,hobj,hints,hlen⟩:=ZS hn hpre hwl;refine nG ?_;try clear nG
 refine W.enter_call (Jr (call w s₀ s₁ mg mb fa o pm cd doc a vs ns G Y ho (W.fd_plain hd) hcd hmg hobj hints hlen hg) λr s' hq=>?_);refine AB λnG=>?_;obtain⟨rfl,h2,h3,h4⟩:=hq;refine nG ?_;try clear nG
 exact⟨.inl ⟨.bool AF,.bool AF,[],rfl,λ_=>rfl,.bool AF,ZR l _,λ_=>⟨AAn,λ_ hm=>(nomatch hm)⟩⟩,h2,h3,h4⟩
theorem Xn:∀{vs:List AK}{D:List Int},O7 vs D->BO (D.map AH.int) vs|_,_,.nil=>.nil|_,_,.cons n t h=>.cons ⟨t,rfl⟩ (Xn h)
noncomputable def MM(H:AN):Prop:=∀b,H b=AD\/∃o D,H b=AA (.frz o (.lst D))
theorem jO{K:Ar}{x:AJ}{D:AU}{vs:List AK}{Q:List Int}(p:K.In D.heap)(I:D.heap.Ns BI O)(U:D.heap.Ns sE j)(f:∀x:AJ,x≠"__name__"->j x=PL x)(G:D.heap.NoLimit)(hg:D.gens=#[])(S:D.heap.get? a=AA {cls:=.type "list",data:=.seq vs.toArray})(hi:O7 vs Q)(hl:Q.length<=An)(hr:Dc k Lj)(F:∀base:A3,K.In base->base.Ns BI O->BW P w K O base CX k X y [x] sp)(Z:∀(s:AU)(u:AK),PB s y ⟨[u],[]⟩ [(x,u)])(i:∀H:AN,MM H->Bg K H a (Q.map AH.int)->sp [.ref a] H (λv _=>v=.bl AF) λ_ _ _=>False)(c:∀H e s',CX [] H D (λ_ _ _=>False) e s'->False):IE (Ab P w) Lj (.call (.ref X) ⟨[.ref a],[]⟩) (λr s'=>r=.ok (.ret (.bool AF))/\OldK D.heap s'.heap/\s'.os=D.os/\Ji s'.gens) D:=by
  have rv:=Xn hi;have N:=hi.length;have Y:∀H:AN,MM H->Bg K H a (Q.map AH.int)->Cy P w H D.heap->(∀b,H b≠AD->b=a)->(H a≠AD->K.lookup a=AD)->IE (Ab P w) Lj (.call (.ref X) ⟨[.ref a],[]⟩) (λr s'=>r=.ok (.ret (.bool AF))/\OldK D.heap s'.heap/\s'.os=D.os/\Ji s'.gens) D:=by
    intro H hO hS L hA hK;have J:∀{b:AI}{o:A8},D.heap.get? b=AA o->H b=AD->(Ig D.heap H).get? b=AA o:=λe n=>iQ e n;have l:∀{b:AI}{o:A8}{C:Array qX}{B:Nat},D.heap.get? b=AA o->o.data=.dict C B->H b=AD:=λ{b o C B}e d=>by cases q:H b with |none=>rfl|some u=> have T:b=a:=hA b (by rw[q];simp);subst T;rw[S]at e;cases e;have d':Data.seq vs.toArray _=Data.dict C B:=d;cases d'
    have W:∀{b:AI}{m:AJ->Option AK},D.heap.Ns b m->(Ig D.heap H).Ns b m:=λ{b m}⟨o,C,B,e,d,r⟩=>⟨o,C,B,J e (l e d),d,r⟩;have E:K.In (Ig D.heap H):=λb o e=>J (p b o e) (by cases q:H b with|none=>rfl|some u=>have T:b=a:=hA b (by rw[q];simp);subst T;rw[hK (by rw[q];simp)]at e;cases e);have hM:OD K O (Ig D.heap H):=⟨E,W I,⟨j,W U,f⟩,let⟨mc,h1,h2⟩:=G;⟨mc,W h1,h2⟩⟩;have e0:Ky P w K O (Ig D.heap H) Lj [] D H:=⟨rfl,hM,λb o e=>kC e,Jg (iR _ _),trivial,λb U=>absurd (show b∈([]:List AI)from U) (by simp),L,.of_eq hg⟩;refine Jr ((F _ E (W I)).agf Lj [] D H ⟨[.ref a],[]⟩ [.ref a] [.ref a] _ _ hr e0 (Z D (.ref a)) (.cons rfl .nil) (i H hO hS)) λr s' h=>?_;cases r with |error e=>exact(c H e s' h).elim|ok fl=>cases fl with |next=>exact Ek h|brk=>exact Ek h|cont=>exact Ek h|ret u=> obtain⟨v,H',os,A,un,M,r',q⟩:=h;have q':v=.bl AF:=q;subst q';obtain rfl:u=Ss AF:=r';refine⟨rfl,OldK.of_keep λb o e=>?_,os,A⟩;cases q:H b with |none=>exact un.ae b o e q (by intro z;exact absurd (show b∈([]:List AI)from z) (by simp)) (by simp)|some u=>
          rcases hO b with z|⟨ob,xs,z⟩;.rw[q]at z;cases z
          . have z2:=un.vg b ob _ z;obtain⟨t,_⟩:=L b _ z;obtain⟨e2,_⟩:=M b _ z2;rw[e]at t;cases t;exact e2
  cases g:K.lookup a with |some o=> have e:=p a o g;rw[S]at e;cases e;refine Y (λ_=>AD) (λ_=>.inl rfl) (.inr ⟨_,vs.toArray,_,g,rfl,rfl,rfl,by rw[DQ,N];exact hl,by simpa using rv⟩) (λb u z=>by have R:(AD:Option DV)=AA u:=z;cases R) (λb z=>absurd rfl z) λz=>absurd rfl z|none=>
    refine Y (λb=>if b=a then AA (.frz {cls:=.type "list",data:=.seq vs.toArray} (.lst (Q.map AH.int)))else AD) (λb=>?_) (.inl (.inr ⟨{cls:=.type "list",data:=.seq vs.toArray},ABo rfl⟩)) (λb u z=>?_) (λb z=>?_) λ_=>g
    . by_cases U:b=a;.exact .inr ⟨_,_,ABo U⟩
      .exact .inl (ABn U)
    . by_cases U:b=a;. have R:=(ABo U).symm.trans z;cases R;subst U;exact⟨S,by rw[Am];exact hl,vs,_,rv,S⟩
      . have R:=(ABn U).symm.trans z;cases R
    . by_cases U:b=a;.exact U
      .exact absurd (ABn U) z
theorem oX{l:PH}{n k:Nat}{q:CZ}{U:List AJ}{T:(AJ->Option AK)->A3->Prop}{Q:Bn->A3->Prop}{d:DefRec}{K:YN->Ar}{CX:Bn->HI}{sp:Bn->Ba}{x:AJ}(r:l.most=AA n)(N:n<=An)(L:d.params.defaults=[])(t:Dc k Lj)(i:∀(w:Bn)(h:A3),Q w h->(K w.params).In h)(F:∀(w:Bn)(W:AJ->Option AK)(B:AI)(h:A3),(K w.params).In h->h.Ns BI W->W d.name=AA (.ref B)->∃E:Au,(∀(s:AU)(u:AK),PB s E ⟨[u],[]⟩ [(x,u)])/\∀base:A3,(K w.params).In base->base.Ns BI W->BW l.prog w (K w.params) W base (CX w) k B E [x] (sp w))(O:∀(w:Bn)(H:AN)(a:AI)(C:List Int),C.length<=n->MM H->Bg (K w.params) H a (C.map AH.int)->sp w [.ref a] H (λv _=>v=.bl AF) λ_ _ _=>False)(I:∀(w:Bn)(H:AN)(s:AU)(e:AK)(s':AU),CX w [] H s (λ_ _ _=>False) e s'->False):rO q U T Q l.row.toRowW d [] (λf vs=>HA f vs):=by
 refine ZP r L λw S A W mb B o pm y X a vs C G Y ho z m M Z J D p=>?_;have P:=i w _ Y;refine AB λR=>?_;obtain⟨E,j,b⟩:=F w W B _ P G.T.g M;refine R ?_;try clear R
 exact jO P G.T.g G.T.b G.T.builtins G.T.nolimit p Z J (DE D N) t b j (λH c g=>O w H a C D c g) λH e s'=>I w H A e s'
theorem oY{l:PH}{n k:Nat}{q:CZ}{D:List AJ}{G:(AJ->Option AK)->A3->Prop}{B:Bn->A3->Prop}{d:DefRec}{K:YN->Ar}{CX:HI}{sp:Ar->Ba}{x:AJ}(O:l.most=AA n)(Z:n<=An)(Y:d.params.defaults=[])(P:Dc k Lj)(N:∀(w:Bn)(h:A3),B w h->(K w.params).In h)(F:∀(w:Bn)(J:AJ->Option AK)(C:AI)(h:A3),(K w.params).In h->h.Ns BI J->J d.name=AA (.ref C)->∃E:Au,(∀(s:AU)(u:AK),PB s E ⟨[u],[]⟩ [(x,u)])/\∀base:A3,(K w.params).In base->base.Ns BI J->BW l.prog w (K w.params) J base CX k C E [x] (sp (K w.params)))(A:∀(K:Ar)(H:AN)(a:AI)(U:List Int),U.length<=n->MM H->Bg K H a (U.map AH.int)->sp K [.ref a] H (λv _=>v=.bl AF) λ_ _ _=>False)(W:∀(H:AN)(s:AU)(e:AK)(s':AU),CX [] H s (λ_ _ _=>False) e s'->False):rO q D G B l.row.toRowW d [] (λf vs=>HA f vs):=oX (K:=K) (CX:=λ_=>CX) (sp:=λw=>sp (K w.params)) O Z Y P N F (λw H a U I L M=>A (K w.params) H a U I L M) λ_ H s e s'=>W H s e s'
noncomputable def WX(s:BM)(j:Nat):BM:=match s with|.ClassDef _ _ _ body _ _ _ _ _ _ _=>body.getD j (.Pass ⟨0,0,0,0⟩)|_=>.Pass ⟨0,0,0,0⟩
noncomputable def OW(s:BM):Arguments:=match s with|.FunctionDef _ a _ _ _ _ _ _ _ _=>a|_=>{posonlyargs:=[],args:=[],vararg:=AD,kwonlyargs:=[],kw_defaults:=[],kwarg:=AD,defaults:=[]}
noncomputable def LA(s:BM):List BM:=match s with|.FunctionDef _ _ b _ _ _ _ _ _ _=>b|_=>[]
noncomputable def A7(s:BM):Du:=match s with|.FunctionDef _ _ _ _ _ _ D _ _ _=>D|_=>{kind:=.function,names:=[],isGenerator:=AO,isCoroutine:=AO}
noncomputable abbrev Bs:HI:=λ_ _ _ _ _ _=>False
noncomputable abbrev Q5:E2:=λ_ _ _=>False
theorem LL:JS Bs X Q5:=λ_ _ _ _ _ _ _ h=>h.elim
structure A0(K:Ar)(x qual:AJ)(st:BM)(f:AI)(fd:Au):Prop where
 ex:∃(oc:AK)(od:Option AI)(kV doc pm:AK)(an:Option AI)(cdv ct:AK)(osl:Array (Option AK)),fd=PJ x qual (OW st) (LA st) (A7 st) .none kV doc pm an cdv ct/\K.lookup f=AA ⟨oc,od,.func fd,osl⟩/\rP K cdv qual=AF
 kp:Lg K (.ref f)=AF
theorem A0.ok{K:Ar}{st:BM}{G:List AJ}(F:A0 K x J st f I)(S:Bp N G (A7 st))(C:∀vs H Q E,sp vs H Q E->vs.length=G.length)(W:∀(U:AK)(A:Cj)(D:List DK)(s:AU)(H:AN)(vs:List AH)(Q:BU)(E:E2),Dc k (A.deeper (FU J (A7 st) s.heap.objs.size f U))->sp vs H Q E->∃t,Ea (EG Bs P w K T base N J (A7 st) f U A D s H E).afu (LA st) t/\t {nx:=λ_ L=>Q .non L,rt:=Q} (Io N vs) H):BW P w K T base Bs (k+1) f I G sp:=by
 refine AB λY=>?_;obtain⟨d,e,c,M,g,a,U,b,X,rfl,R,Z⟩:=F.ex;refine Y ?_;try clear Y
 refine WS R Z S C λA D s H vs Q E O B=>?_;refine AB λY=>?_;obtain⟨t,h,q⟩:=W U A D s H vs Q E O B;refine Y ?_;try clear Y
 exact⟨t,h.afu,q⟩
theorem A0.aq{K:Ar}{st:BM}{q:List AJ}(F:A0 K x D st f A)(h:∀(Y U Z:AK)(V:Option AI)(J W:AK)(us:List AK),us.length=q.length->bindArgs (PJ x D (OW st) (LA st) (A7 st) .none Y U Z V J W) ⟨us,[]⟩=BB (q.zip us)):Bf K A q []:=by
 refine AB λB=>?_;obtain⟨H,I,Y,U,Z,V,J,W,E,rfl,G,C⟩:=F.ex;refine B ?_;try clear B
 exact .vx (h Y U Z V J W)
theorem iK{K:Ar}{st:BM}(l:K.lookup f=AA ⟨q,A,.func (PJ x D (OW st) (LA st) (A7 st) .none Y J Z V F W),U⟩)(c:rP K F D=AF)(k:Lg K (.ref f)=AF):A0 K x D st f (PJ x D (OW st) (LA st) (A7 st) .none Y J Z V F W):=⟨⟨q,A,Y,J,Z,V,F,W,U,rfl,l,c⟩,k⟩
theorem Av{X:BR}(i:Nat){x:AJ}(J:X.N[i]?=AA x:=by rfl)(V:OP X.af.scope x:=by first|exact Or.inl rfl|exact Or.inr (Or.inl rfl)|exact Or.inr (Or.inr rfl))(U:(x==("__debug__":AJ))=AO:=by decide)(D:(x==("__classdict__":AJ))=AO:=by decide):Ae X (.Name x F) (Xg i):=XC J V U D
theorem C4{A B:Prop}(h:B):if AO=AF then A else B:=by rw[ABn C6];exact h
theorem HN{A B:Prop}(h:A):if AF=AF then A else B:=by rw[ABo rfl];exact h
noncomputable def Ak(H D:AN):Prop:=∀b o,H b=AA o->D b=AA o
theorem CS(H:AN):Ak H H:=λ_ _ h=>h
theorem Ak.aa(a:Ak H D)(b:Ak D F):Ak H F:=λc o h=>b c o (a c o h)
theorem Ak.ar(e:Ak H D)(h:D l=AD):H l=AD:=by cases q:H l with|none=>rfl|some o=>rw[e l o q]at h;cases h
theorem Ak.aar{K:Ar}(e:Ak H D)(h:Bg K H a xs):Bg K D a xs:=by
 rcases h with(h|⟨o,h⟩)|h;.exact .inl (.inl (e _ _ h))
 .exact .inl (.inr ⟨o,e _ _ h⟩)
 .exact .inr h
theorem oW{U:Type}[DecidableEq U]{kvs:List (U×AH)}{k:U}(h:CI kvs k=AD):¬k∈kvs.map (·.1):=by
 intro m;refine AB λD=>?_;obtain⟨p,F,e⟩:=BH.mp m;refine D ?_;try clear D
 have q:(kvs.any λJ=>AZ (J.1=k))=AF:=LX.mpr ⟨p,F,ABq e⟩;rw[Mr,h]at q;exact absurd q (by simp)
section
variable{κ:Type}[DecidableEq κ]
theorem Wu:∀{l:List κ}{k:κ},l.Nodup->¬k∈l->(l++[k]).Nodup
 |[],k,_,_=>by simp|a::r,k,h,D=>by
  obtain⟨h1,h2⟩:=M1.mp h;show(a::(r++[k])).Nodup;refine M1.mpr ⟨λm=>?_,Wu h2 λm=>D (B7.mpr (Or.inr m))⟩;rcases CT.mp m with q|q;.exact h1 q
  .exact D (B7.mpr (O6 (Bl.mp q).symm))
end
theorem Cy.acu(x:Cy P w H h)(J:H a=AD)(F:C7 P w (AW H a o) h a o):Cy P w (AW H a o) h:=by
  intro b u e;by_cases D:b=a
  . subst D;rw[Az]at e;grind
  . rw[BC D]at e;refine(x b u e).aab (by grind) (λc q=>?_) λc U q=>?_;.rw[BC (by grind)];exact q
    .rw[BC (by grind)];exact q
noncomputable def Ic(env:DK)(D:List (AJ×AI))(x:AJ×Jn):List (AJ×AI):=if x.2=.free then(x.1,(env.cells.lookup x.1).getD 0)::D else D
noncomputable def K9(env:DK)(D:List (AJ×Jn)):List (AJ×AI):=D.foldl (Ic env) []
theorem WT{α F:Type}{f:α->F->Cs (ForInStep F)}{g:F->α->F}:∀(l:List α)(D:F),(∀x∈l,∀c,f x c=BB (.yield (g c x)))->GI l D f=BB (l.foldl g D)|[],D,_=>rfl|x::l,D,h=>by rw[List.forIn_cons,h x D6 _];show GI l _ f=_;rw[WT l _ λy J=>h y (by grind)];rfl
theorem gZ{D:Du}{env:DK}(h:∀y∈D.names,y.2=.free->∃c,env.cells.lookup y.1=AA c):sH D env=BB (K9 env D.names):=by
  simp only[sH];rw[WT (g:=Ic env) _ [] λx Y c=>by
    obtain⟨n,F⟩:=x;by_cases U:F=.free
    . subst U;obtain⟨a,V⟩:=h _ Y rfl;have J:=V;simp only[AB0,ABy,Ic,cellOf,J,Option.getD_some];rfl
    . have W:(F==Ka)=AO:=by grind
      simp only[W,Pn,ABx,Ic,U]];rfl
theorem WD{env:DK}:∀(D:List (AJ×Jn))(F:List (AJ×AI)),(D.foldl (Ic env) F).lookup y=AA c->F.lookup y=AA c\/((y,Ka)∈D/\(env.cells.lookup y).getD 0=c)
 |[],F,h=>.inl h|(n,k)::r,F,h=>by
  rcases WD r _ h with q|⟨q,z⟩
  . unfold Ic at q;grind
  grind
theorem RI:∀(D:List (AJ×Jn))(F:List (AJ×AI)),((y,Ka)∈D\/∃c,F.lookup y=AA c)->∃c,(D.foldl (Ic env) F).lookup y=AA c
  |[],F,h=>by grind|(n,k)::r,F,h=>by
    refine RI r _ ?_;by_cases J:(y,Ka)∈r;.grind
    . refine .inr ?_;rcases h with h|⟨c,h⟩
      . rcases B7.mp h with e|e;. cases e;exact⟨_,by unfold Ic;rw[ABo rfl,List.lookup_cons_self]⟩
        grind
      . unfold Ic;grind
theorem hG(I:Nat->AU->Prop)(turn:∀n s,I n s->Aa (Ab prog w) A (NI it) (λr F=>match r with|AD=>R (.ok .next) F|AA v=>Aa (Ab prog w) A (Yf D it v) (λ_ J=>Aa (Ab prog w) A (assign D env v) (λ_ Y=>Aa (Ab prog w) A (GI M AF λc r=>if r=AF then do let O<-NF c env (Bo c env);BB (Po O)else BB (Po r)) (λO U=>if O=AF then Aa (Ab prog w) A (Bo G env) (λx Z=>Aa (Ab prog w) A (HA (.builtin "list.append") [E,x]) (λ_ q=>∃m,m<n/\I m q) (λ_ _=>False) Z) (λ_ _=>False) U else∃m,m<n/\I m U) (λ_ _=>False) Y) (λ_ _=>False) J) (λ_ _=>False) F) (λ_ _=>False) s)(n:Nat)(h:I n s):IE (Ab prog w) A (.compLoop (.ListComp G [⟨D,N,M,0⟩] C P) 0 it E env) R s:=by refine codeAny_loop rfl I (λn s S=>?_) n h;refine wpAny_noted ?_;refine AX (tH (AX (EK (turn n s S) (λr F V=>?_) λ_ _ Q=>Q.elim)));cases r with|none=>exact Aw V|some v=>refine AX (EK V (λ_ J B=>?_) (by grind));refine AX (EK B (λ_ Y H=>AX (EK H (λO U W=>?_) (by grind))) (by grind));cases O with|false=>exact Aw ⟨rfl,W⟩|true=>exact AX (AX (EK W (λx Z K=>AX (EK K (λ_ q L=>Aw (Aw ⟨rfl,L⟩)) (by grind))) (by grind)))
noncomputable def GR(X:BR)(F:List BD)(t:Cg):Prop:=∀(D:List (AI×A8))(s:AU)(J:Aj)(H:AN)(Q:Bool->AN->Prop),AY X D J H s->t J H Q->Aa (Ab X.ag X.w) X.A (GI F AF λc r=>if r=AF then do let U<-NF c X.af (Bo c X.af);BB (Po U)else BB (Po r)) (OM X D J Q) X.xe s
noncomputable def Mq:Cg:=λ_ H Q=>Q AF H
theorem F5:GR X [] Mq:=λD s F H Q I h=>wpAny_tests_nil ⟨H,I,h⟩
theorem Gb(h:FK X c t):GR X [c] t:=λD s F H Q I hw=>wpAny_tests_one (h _ s F H Q I hw)
noncomputable def Ck(X:BR)(D:Du)(N:List AJ)(C:AI)(s:AU)(H:AN)(F:List AI):BR:={X with N:=N,s₀:=s,H₀:=H,af:=compEnvC D (K9 X.af D.names) C X.af,iu:=X.ba,ba:=X.ba,ex:=F,fn:=λ_=>AO,pn:=[],xe:=λ_ _=>False}
noncomputable def Dm(D:Aj)(j:Nat):Option AH:=(D[j]?).getD AD
noncomputable def IZ(G:Nat)(E:List Nat)(g:EE)(K:Cg)(I:A1)(L:Aj)(Q:BU)(J:GQ)(Z:AN):Prop:=∃W:Nat->Nat->Aj->List AH->AN->Prop,(∃m,W 0 m (M3 G AD++E.map (Dm L)) [] Z)/\∀i m B F H,W i m B F H->(J.aad i H/\∀D,H D=AD->Q (.ref D) (AW H D (.lst F)))\/(J.go i H/\F.length<An/\∀x q,J.aej i H x q->g x B q λU Z=>K U Z λb A=>if b=AF then I U A λy C=>∃Y,Y<m/\W (i+1) Y U (F++[y]) C else∃Y,Y<m/\W (i+1) Y U F A)
noncomputable def Hw(J:Nat)(F:List Nat)(wi:Ec)(g:EE)(V:Cg)(U:A1):A1:=λD H Q=>wi D H (IZ J F g V U D Q)
theorem XN{env:DK}:∀{D:List (AJ×Jn)}{y:AJ},(∀z∈D,z.2≠.cell)->((D.map λ(n,k)=>if(k==Ka&&env.scope.kind==.function&&env.kindOf n==AA .cell)then(n,YK)else(n,k)).lookup y=AA .cell\/(D.map λ(n,k)=>if(k==Ka&&env.scope.kind==.function&&env.kindOf n==AA .cell)then(n,YK)else(n,k)).lookup y=AA .free)->(y,Ka)∈D|[],y,_,h=>by grind|(n,k)::r,y,F,h=>by have J:=@XN env r y (by grind);grind
theorem Ws{env:DK}:∀{D:List (AJ×Jn)}{y:AJ},D.lookup y=AA .free->(D.map λ(n,k)=>if(k==Ka&&env.scope.kind==.function&&env.kindOf n==AA .cell)then(n,YK)else(n,k)).lookup y=AA .cell\/(D.map λ(n,k)=>if(k==Ka&&env.scope.kind==.function&&env.kindOf n==AA .cell)then(n,YK)else(n,k)).lookup y=AA .free|[],y,h=>by grind|(n,k)::r,y,h=>by have F:=@Ws env r y;grind
noncomputable def Gw(X:BR)(D:Du):List (AJ×Nat)->Prop|[]=>True|p::r=>X.N[p.2]?=AA p.1/\D.names.lookup p.1=AA .free/\Gw X D r
theorem Gw.vx{X:BR}{D:Du}:∀{F:List (AJ×Nat)},Gw X D F->∀p∈F,X.N[p.2]?=AA p.1/\D.names.lookup p.1=AA .free
 |p::r,h,q,J=>by
  rcases B7.mp J with e|e;.subst e;exact⟨h.1,h.2.1⟩
  .exact Gw.vx h.2.2 q e
theorem WE{X:BR}{U:Du}{own:List AJ}{N:List (AJ×Nat)}(hc:X.bx=AF)(hi:EZ X tg O wi)(hk:U.kind=.function)(hcell:∀y∈U.names,y.2≠.cell)(hnames:∀y∈U.names,y.2=.local->U.names.lookup y.1=AA .local)(f:∀y∈U.names,y.2=.free->X.af.kindOf y.1=AA .cell\/X.af.kindOf y.1=AA .free)(hfr:Gw X U N)(hg:∀C s H ex,JR (Ck X U (own++N.map (·.1)) C s H ex) tg g)(ht:∀C s H ex,GR (Ck X U (own++N.map (·.1)) C s H ex) ifs tt)(he:∀C s H ex,Ae (Ck X U (own++N.map (·.1)) C s H ex) elt te)(hs:∀x,JA O X.af x=BB x)(I:AY X P σ H s)(h:Hw own.length (N.map (·.2)) wi g tt te σ H Q)(fin:∀(D C:AI)m(s4:AU)(H5:AN)v,AY X P σ H5 s4->s4.heap.Ns C m->H5 C=AD->C≠X.af.locals->X.s₀.heap.objs.size<=C->(∀x c,X.af.cells.lookup x=AA c->c≠C)->(∀p∈X.pn++P,p.1≠C)->Q (.ref D) H5->compPost (Ab X.ag X.w) X.A X.xe use PQ (.ref D) C (.ok v) s4):Aa (Ab X.ag X.w) X.A (comprehension (.ListComp elt [⟨tg,O,ifs,0⟩] U pos) U X.af p0 (newList []) AO (Bo O X.af) use) PQ X.xe s:=by
  have d:∀y c,(K9 X.af U.names).lookup y=AA c->X.af.cells.lookup y=AA c:=λy c e=>by
    rcases WD U.names [] e with q|⟨q,z⟩;.simp at q
    . obtain⟨c',e'⟩:=I.ok.aep y (f _ q rfl);rw[e']at z;rw[e',<-z];rfl
  have hclos:sH U X.af=BB (K9 X.af U.names):=gZ λy hy e=>I.ok.aep y.1 (f y hy e);refine wpAny_comprehension_free (use:=use) (cl:=K9 X.af U.names) (Q:=PQ) rfl hs hclos hk hnames ?_;refine A2 (hi P s σ H _ I h) λv s1 h1=>A2 h1 λitv s2 h2=>?_;refine AB λnG=>?_;obtain⟨it,L,tn,J,R,e,Z,T,st2,f2,W,⟨m0,w0⟩,turn⟩:=h2;refine nG ?_;try clear nG
  subst e;refine Ki (wpAny_newFunctionEnv hcell (by intro y hy;simp at hy) (λh₁ E A=>?_) hk);dsimp only at E A⊢;generalize hH2:s2.heap.push _=HL at E A⊢;have hC:HL.objs.size=s2.heap.objs.size+1:=by rw[<-hH2,Gf]
  generalize hCC:HL.objs.size=C at E A hC⊢;have hDC:s2.heap.objs.size≠C:=by rw[hC];exact Cv (KS _)
  have G:∀b,b<s2.heap.objs.size->b≠C/\b≠s2.heap.objs.size:=λb Y=>⟨by rw[hC];exact Cv (Jh Y),Cv Y⟩;have old:=λb o e=>A.extBut b o (G b (Br e)).1 (Bi _ (hH2▸Bi _ e));have eD0:=A.extBut _ _ hDC (Bi _ (hH2▸Df _ rfl));have t:∀b∈L,b<s2.heap.objs.size:=λb Y=>by obtain⟨o,e,_⟩:=T.aaa _ _ st2 b Y;exact Br e
  generalize hD:s2.heap.objs.size=D at hDC G eD0 t hC;have hDfp:D∉L:=λz=>E6 _ (t D z);have okY:(Ck X U (own++N.map (·.1)) C s2 R L).Ok:=by
    refine⟨Z.ok.vn,hk,Z.ok.vh,Z.ok.aea,by show s2.heap.objs.size<=C;(first|lia|omega),λx y c e1 e2=>Z.ok.acj x y c (d x c e1) (d y c e2),λy hy=>?_,λx c z _=>(by cases z),Z.ok.hd,Z.ok.dj,.inl rfl,λb Y=>⟨(G b (t b Y)).1,λy c e=>?_⟩,Z.bs,DE Z.ok.acf Z.sz,λb o e Y=>?_,λb Y z=>?_,Z.ba,Z.yw⟩;.exact RI U.names [] (.inl (XN (env:=X.af) hcell hy))
    .exact(f2 b Y).2.2.2.2.1 y c (d y c e)
    . rcases(f2 b Y).2.2.2.1 with z|z;.exact Z.ok.aap b o e z
      .exact absurd (EI (Br e) (DE Z.ok.acf z)) (E6 _)
    . rcases B7.mp (Z.yx b z)with q|q;.exact(f2 b Y).2.1 q
      .exact(f2 b Y).2.2.1 q
  have j:∀y c,X.af.cells.lookup y=AA c->c<D:=λy c e=>by obtain⟨v,z⟩:=Z.ou y c e;exact EI z.lt (Jg hD)
  have stkLt:∀b∈C0 X.ba,b<D:=λb Y=>by
    rcases B7.mp (Z.yx b Y)with q|q;.rw[q];exact EI Z.lt (Jg hD)
    . obtain⟨_,o,ho,_⟩:=Z.ok.qb.mem q;exact EI (Br ho) (DE Z.sz (Jg hD))
  have S:∀a,D<=a->R a=AD:=λa ha=>Z.bb.az (DE (Jg hD) ha);have IY:AY (Ck X U (own++N.map (·.1)) C s2 R L) [] (M3 own.length AD++(N.map (·.2)).map (Dm σ)) R {s2 with heap:=h₁,toks:=s2.toks+([]:List (AJ×AK)).length}:=by
    refine⟨okY,rfl,Z.ir,ON old,⟨_,E,λi y v e1 e2 e3=>?_⟩,λy c e=>?_,S C (by(first|lia|omega)),λy c e=>Z.gb y c (d y c e),λp M=>absurd (show p∈([]:List (AI×A8))from M) (by simp),Z.bb.de old,?_⟩
    . have e1:(own++N.map (·.1))[i]?=AA y:=e1;have hi':own.length<=i:=by
        by_cases hlt:i<own.length
        . rw[O4 (by simpa using hlt),v9,ABo hlt]at e2;cases e2
        . (first|lia|omega)
      rw[LY hi',BV]at e1;rw[LY (by simpa using hi'),BV,BV,wH]at e2;cases M:N[i-own.length]? with |none=>rw[M]at e1;cases e1|some p=>
        rw[M]at e1 e2;have ey:p.1=y:=De e1;have ev:Dm σ p.2=AA v:=De e2;obtain⟨a1,a3⟩:=hfr.vx p (B9 M);have es:σ[p.2]?=AA (AA v):=by unfold Dm at ev;cases q:σ[p.2]? with|none=>rw[q]at ev;cases ev|some z=>rw[q]at ev;exact ABp AA ev
        have hfk:=f (p.1,.free) (NG a3) rfl;obtain⟨m,hn,hl⟩:=Z.zb;obtain⟨u,r,l⟩:=hl p.2 p.1 v a1 es (hfk.elim (λz=>.inr (.inl z)) λz=>.inr (.inr z));refine⟨u,r,.inr ?_⟩;rcases l with⟨z,_⟩|⟨_,c,ec,zc⟩;.rcases hfk with q|q<;>rw[z]at q<;>cases q
        . obtain⟨c',ec'⟩:=RI (env:=X.af) (y:=p.1) U.names [] (.inl (NG a3));have:c'=c:=De ((d _ _ ec').symm.trans ec);subst this;rw[<-ey];obtain⟨o,ho,hdd⟩:=zc;exact⟨Ws (env:=X.af) a3,c',ec',o,old _ o ho,hdd⟩
    . obtain⟨v,z⟩:=Z.ou y c (d y c e);obtain⟨o,ho,hdd⟩:=z;exact⟨v,o,old _ o ho,hdd⟩
    . show(M3 own.length (AD:Option AH)++(N.map (λp=>p.2)).map (Dm σ)).length=(own++N.map (λp=>p.1)).length;simp
  have fpY:∀{w:AN}{ob:A8},(∀b∈L,w b=AD)->∀b∈L,KC (Ck X U (own++N.map (·.1)) C s2 R L) [(D,ob)] w b:=λ{w ob}hn b Y=>⟨hn b Y,(G b (t b Y)).1,λz=>okY.aak b Y z,.inl Y,λy c e=>(okY.afm b Y).2 y c e,λp M=>by
      have e:p=(D,ob):=by simpa[Ck]using M
      rw[e];show D≠b;exactλz=>hDfp (z▸Y)⟩;have noC:∀(xs:Array AK)(k:Nat)(v:Option AK),({cls:=.type "list",data:=.seq xs k}:A8).data≠.cell v:=λxs k v z=>by cases z
  have loop:∀s₃:AU,s₃={s2 with heap:=h₁,toks:=s2.toks+([]:List (AJ×AK)).length}->IE (Ab X.ag X.w) X.A (.compLoop (.ListComp elt [⟨tg,O,ifs,0⟩] U pos) 0 (.ref it) (.ref D) (compEnvC U (K9 X.af U.names) C X.af)) (compPost (Ab X.ag X.w) X.A X.xe use PQ (.ref D) C) s₃:=by
    rintro s₃ rfl;refine hG (λn s'=>∃(i:Nat)(τ:Aj)(K:List AH)(H':AN)(B:List AK)(k:Nat),AY (Ck X U (own++N.map (·.1)) C s2 R L) [] τ H' s'/\tn i s'.heap/\(∀b∈L,H' b=AD)/\H' D=AD/\BO K B/\s'.heap.get? D=AA {cls:=.type "list",data:=.seq B.toArray k}/\K.length<=An/\W i n τ K H') ?_ m0 ⟨0,_,[],R,[],0,IY,T.ae _ _ _ st2 λb _ o e=>old b o e,λb Y=>(f2 b Y).1,S D (Af _),.nil,eD0,Bd _,w0⟩;rintro n s3⟨i,τ,K,w,B,k,I3,st3,fr3,fD,rv,eD,hz,w3⟩;have I3':AY (Ck X U (own++N.map (·.1)) C s2 R L) [(D,{cls:=.type "list",data:=.seq B.toArray k})] τ w s3:=I3.qq λp M=>by
      have e:=by simpa using M
      subst e;exact⟨eD,fD,hDC,λz=>E6 _ (stkLt D z),noC _ _⟩
    rcases turn i n τ K w w3 with⟨stop,qn⟩|⟨go,hlt,step⟩
    . refine A2 (T.aaj (Ck X U (own++N.map (·.1)) C s2 R L) rfl rfl rfl hc i _ s3 τ w (λ_ _=>False) I3' (fpY fr3) st3 stop) λr s4⟨hr,I4⟩=>?_;subst hr;obtain⟨m,hn4,_⟩:=I4.zb;obtain⟨eD4,fD4,_⟩:=I4.wt (D,{cls:=.type "list",data:=.seq B.toArray k}) (ET _ (Bl.mpr rfl));have b4:FL (C0 X.ba) L R w s2.heap s4.heap:=I4.ao;have lt2:∀b o,s2.heap.get? b=AA o->b≠C/\b≠D:=λb o e=>G b (EI (Br e) (Jg hD));have tr2:∀b o,R b=AA o->b≠D:=λb o e z=>by have:=S D (Af _);rw[z,this]at e;cases e
      have un:FL (C0 X.ba) L R (AW w D (.lst K)) s2.heap s4.heap:=by
        refine⟨λb o e n Y hx=>b4.ae b o e n Y hx,λb o e n Y hx=>?_,λb o e n hx=>?_,λb o e hx=>?_,λb xs e=>?_,λb o u e=>?_,λb ps e=>?_⟩
        . obtain⟨sl,q⟩:=b4.vo b o e n Y hx;exact⟨sl,q⟩
        .rw[BC (lt2 b o e).2];exact b4.ar b o e n hx
        . obtain⟨o',q⟩:=b4.dr b o e hx;exact⟨o',q⟩
        .rw[BC (tr2 _ _ e)];exact b4.xc b xs e
        .rw[BC (tr2 _ _ e)];exact b4.vg b o u e
        .rw[BC (tr2 _ _ e)];exact b4.wz b ps e
      have hok':Cy X.ag X.w (AW w D (.lst K)) s4.heap:=I4.bb.acu fD4 ⟨hz,B,k,rv,eD4⟩;have IX:AY X P σ (AW w D (.lst K)) s4:=Z.aay (s':=s4) (ch:=L) I4.os un hok' I4.ir λb Y=>⟨(f2 b Y).2.2.2.1,(f2 b Y).2.1,(f2 b Y).2.2.2.2.1,(f2 b Y).2.2.2.2.2⟩;have hHC:w C=AD:=I4.ar;have noCD:∀b:AI,b<D->C≠b:=λb Y z=>by rw[<-z,hC]at Y;exact E6 D (Nat.lt_of_succ_lt Y)
      have hCL:C≠X.af.locals:=noCD _ (EI Z.lt (Jg hD));refine fin D C m s4 _ _ IX hn4 (by rw[BC hDC.symm];exact hHC) hCL (DE Z.sz (by(first|lia|omega))) (λz c e q=>?_) (λp M q=>?_) (qn D fD4);.exact noCD _ (j z c e) q.symm
      .exact noCD _ (EI (Br (Z.wt p M).1) (Jg hD)) q.symm
    . refine A2 (T.aal (Ck X U (own++N.map (·.1)) C s2 R L) rfl rfl rfl hc i _ s3 τ w (λ_ _=>False) I3' (fpY fr3) st3 go) λr s4⟨u,hr,h4⟩=>?_;subst hr;refine A2 h4 λ_ s5⟨x,H5,I5,r5,y5,st5,fr5⟩=>?_;have I5':=I5.acq (fpY fr5) (T.aaa _ _ st5);refine A2 (hg _ _ _ _ _ s5 τ H5 x u _ I5' r5 (step x H5 y5)) λ_ s6⟨τ6,H6,I6,q6⟩=>?_;refine A2 (ht _ _ _ _ _ s6 τ6 H6 _ I6 q6) λb s7⟨H7,I7,q7⟩=>?_;have facts:∀{s8:AU}{H8:AN}{τ8:Aj},AY (Ck X U (own++N.map (·.1)) C s2 R L) ([(D,{cls:=.type "list",data:=.seq B.toArray k})]++Ml L s5.heap) τ8 H8 s8->tn (i+1) s8.heap/\(∀b∈L,H8 b=AD)/\H8 D=AD/\s8.heap.get? D=AA {cls:=.type "list",data:=.seq B.toArray k}:=λ{s8 H8 τ8}I8=>by
        have M:∀b∈L,∀o,s5.heap.get? b=AA o->s8.heap.get? b=AA o/\H8 b=AD:=λb Y o e=>by have q:=I8.wt (b,o) (ET _ (ET _ (Rc Y e)));exact⟨q.1,q.2.1⟩
        have qD:=I8.wt (D,{cls:=.type "list",data:=.seq B.toArray k}) (ET _ (Fs _ (Bl.mpr rfl)));refine⟨T.ae _ _ _ st5 λb Y o e=>(M b Y o e).1,λb Y=>?_,qD.2.1,qD.1⟩;obtain⟨o,e,_⟩:=T.aaa _ _ st5 b Y;exact(M b Y o e).2
      cases b with |false=> obtain⟨m',hm,w7⟩:=q7;obtain⟨z1,z2,z3,z4⟩:=facts I7;exact⟨m',hm,i+1,τ6,K,H7,B,k,I7.qq λp M=>absurd M (by simp),z1,z2,z3,rv,z4,hz,w7⟩|true=>
        refine A2 (he _ _ _ _ _ s7 τ6 H7 _ I7 q7) λu8 s8⟨y,H8,I8,r8,m',hm,w8⟩=>?_;obtain⟨z1,z2,z3,z4⟩:=facts I8;have hl:=rv.ak;refine Yc rC ⟨_,z4,rfl⟩ yH (yF _ _) (AAO D B.toArray k u8 (by rw[DQ];(first|lia|omega))) ⟨z4,?_⟩;have z5:=yY z4 (·.push u8);have z6:B.toArray.push u8=(B++[u8]).toArray:=by simp
        rw[z6]at z5;have kk:∀b o,b≠D->s8.heap.get? b=AA o->(s8.heap.update D (Iu (·.push u8))).get? b=AA o:=λb o Y e=>(PC s8.heap (Iu (·.push u8)) (HX Y)).trans e;have I8':AY (Ck X U (own++N.map (·.1)) C s2 R L) [] τ6 H8 s8:=I8.qq λp M=>absurd M (by simp);refine⟨m',hm,i+1,τ6,K++[y],H8,B++[u8],_,I8'.dk (it:=D) kk z3 hDC (.inr (by show s2.heap.objs.size<=D;(first|lia|omega))) (λy c e=>Cv (j y c (d y c e))) (λp M=>absurd (show p∈([]:List (AI×A8))from M) (by simp)),?_,z2,z3,rv.lg (.cons r8 .nil),z5,?_,w8⟩;.exact T.ae _ _ _ z1 λb Y o e=>kk b o (λz=>hDfp (z▸Y)) e
        .rw[CY,Hx];(first|lia|omega)
  exact codeAny_compStart_list (loop _ rfl) (T.abu X.A 0 _ _ _ (T.ae _ _ _ st2 λb _ o e=>old b o e) (loop _ rfl))
theorem Rv{X:BR}{K:BD}{F:Du}{own:List AJ}{A:List (AJ×Nat)}(d:X.bx=AF)(hi:EZ X K J wi)(j:F.kind=.function)(V:∀y∈F.names,y.2≠.cell)(U:∀y∈F.names,y.2=.local->F.names.lookup y.1=AA .local)(W:∀y∈F.names,y.2=.free->X.af.kindOf y.1=AA .cell\/X.af.kindOf y.1=AA .free)(E:Gw X F A)(i:∀C s H Z,JR (Ck X F (own++A.map (·.1)) C s H Z) K g)(n:∀C s H Z,GR (Ck X F (own++A.map (·.1)) C s H Z) B N)(f:∀C s H Z,Ae (Ck X F (own++A.map (·.1)) C s H Z) Y M)(l:∀x,JA J X.af x=BB x:=by intro _;rfl):Ae X (.ListComp Y [⟨K,J,B,0⟩] F G) (Hw own.length (A.map (·.2)) wi g N M):=by intro L s u H Q I h;exact WE d hi j V U W E i n f l I h λD C m s4 r v O k T a P R S q=>⟨m,k,λt p=>⟨.ref D,_,O.dk (λb o c e=>(p.2 b c).trans e) T a (.inr P) R S,rfl,q⟩⟩
theorem kT{X:BR}{D osc:Du}{K:A1}(Y:List (AJ×Nat))(M:X.bx=AF)(hi:EZ X (.Name x I) F wi)(P:X.af.scope=osc)(O:D.kind=.function)(U:∀y∈D.names,y.2≠.cell)(J:∀y∈D.names,y.2=.local->D.names.lookup y.1=AA .local)(V:∀y∈D.names,y.2=.free->osc.names.lookup y.1=AA .cell\/osc.names.lookup y.1=AA .free)(A:Gw X D Y)(G:D.names.lookup x=AA .local)(B:(x::Y.map (·.1)).Nodup)(R:∀C s H q,GR (Ck X D (x::Y.map (·.1)) C s H q) Z L)(N:∀C s H q,Ae (Ck X D (x::Y.map (·.1)) C s H q) W K)(Q:∀x,JA F X.af x=BB x:=by intro _;rfl):Ae X (.ListComp W [⟨.Name x I,F,Z,0⟩] D E) (Hw 1 (Y.map (·.2)) wi (Di 0) L K):=Rv (own:=[x]) M hi O U J (λy S e=>by show X.af.scope.names.lookup y.1=_\/X.af.scope.names.lookup y.1=_;rw[P];exact V y S e) A (λC s H q=>GW (i:=0) B rfl (.inl (D8 G)) (.inr (D8 G))) R N Q
theorem RJ{J:GQ}{U:List Nat}(xs:List AH)(p:AH->Bool)(f:AH->AH)(g:xs.length<=An)(q:∀i,i<xs.length->J.go i H)(B:J.aad xs.length H)(b:∀i x Y,i<xs.length->J.aej i H x Y->Y=H/\xs[i]?=AA x)(E:∀x(R:Bool->AN->Prop),x∈xs->R (p x) H->I (AA x::U.map (Dm W)) H R)(C:∀x(R:BU),x∈xs->p x=AF->R (f x) H->G (AA x::U.map (Dm W)) H R)(a:∀D,H D=AD->Q (.ref D) (AW H D (.lst ((xs.filter p).map f)))):IZ 1 U (Di 0) I G W Q J H:=by
  refine⟨λi m O Z Y=>m=xs.length-i/\i<=xs.length/\Y=H/\(∃o,O=o::U.map (Dm W))/\Z=(((xs.take i).filter p).map f),⟨xs.length,by simp,Bd _,rfl,⟨AD,rfl⟩,rfl⟩,?_⟩;intro i m O Z Y X;refine AB λN=>?_;obtain⟨rfl,d,rfl,⟨o,rfl⟩,rfl⟩:=X;refine N ?_;try clear N
  by_cases F:i<xs.length
  . refine .inr ⟨q i F,?_,λx P y=>?_⟩
    . rw[Am];have T:((xs.take i).filter p).length<=(xs.take i).length:=Gd _ _;rw[Eh]at T;(first|lia|omega)
    . obtain⟨S,K⟩:=b i x P F y;subst S;have M:x∈xs:=B9 K;show I ((o::U.map (Dm W)).set 0 (AA x)) _ _;refine E x _ M ?_;have L:=take_succ_filter p xs i x K;cases A:p x with |true=> show G (AA x::U.map (Dm W)) _ _;refine C x _ M A ⟨xs.length-(i+1),by(first|lia|omega),rfl,F,rfl,⟨AA x,rfl⟩,?_⟩;rw[L,A];simp|false=> show∃c,c<xs.length-i/\_;refine⟨xs.length-(i+1),by(first|lia|omega),rfl,F,rfl,⟨AA x,rfl⟩,?_⟩;rw[L,A];simp
  . have e:i=xs.length:=by(first|lia|omega)
    subst e;rw[List.take_length];exact .inl ⟨B,a⟩
theorem OT{K:Ar}{F:List Nat}{xs:List AH}(p:AH->Bool)(f:AH->AH)(J:Bg K H a xs)(C:xs.length<=An)(W:∀x(R:Bool->AN->Prop),x∈xs->R (p x) H->q (AA x::F.map (Dm Y)) H R)(U:∀x(R:BU),x∈xs->p x=AF->R (f x) H->Z (AA x::F.map (Dm Y)) H R)(A:∀D,H D=AD->Q (.ref D) (AW H D (.lst ((xs.filter p).map f)))):IZ 1 F (Di 0) q Z Y Q (JO K a) H:=RJ xs p f C (λi B=>⟨xs,xs[i],J,by simp[B]⟩) ⟨xs,J,Af _⟩ (λi x E _ y=>⟨y.1,y.2 xs J⟩) W U A
noncomputable def Mp(z:AJ):List AH:=z.cps.toList.map λc=>AH.str ⟨#[c]⟩
noncomputable def F2(lo:Int)(n:Nat):List AH:=(DY n).map λ(i:Nat)=>AH.int (lo+(i:Int))
theorem hJ{lo:Int}{F:List Nat}(p:AH->Bool)(f:AH->AH)(E:n<=An)(U:∀x(R:Bool->AN->Prop),x∈F2 lo n->R (p x) H->Z (AA x::F.map (Dm W)) H R)(J:∀x(R:BU),x∈F2 lo n->p x=AF->R (f x) H->Y (AA x::F.map (Dm W)) H R)(q:∀D,H D=AD->Q (.ref D) (AW H D (.lst (((F2 lo n).filter p).map f)))):IZ 1 F (Di 0) Z Y W Q (JP lo n) H:=by
 have C:(F2 lo n).length=n:=by simp[F2]
 refine RJ (F2 lo n) p f (by(first|lia|omega)) (λi A=>by show i<n;(first|lia|omega)) (by show n<=_;(first|lia|omega)) (λi x B A y=>?_) U J q;obtain⟨e,rfl⟩:=y;refine⟨e,?_⟩;unfold F2;rw[BV,v8 (by(first|lia|omega))];rfl
noncomputable def mG:AH->Option Int->Option Int->AN->BU->Prop:=λx F D H Q=>∃z,x=.str z/\z.length<=An/\Q (.str (FW z F D)) H
theorem W7(p:KZ v o):∃l:Option (Int×G9),v=partValue l/\l.map (·.1)=o:=by cases p with|none=>exact⟨AD,rfl,rfl⟩|int i t=>exact⟨AA (i,t),rfl,rfl⟩
theorem XU:K6 X mG:=by
 intro J s L H x v G K B A C Q I Z U W Y h;refine AB λD=>?_;obtain⟨z,rfl,V,q⟩:=h;obtain⟨t,rfl⟩:=Z;obtain⟨l,rfl,rfl⟩:=W7 W;obtain⟨u,rfl,rfl⟩:=W7 Y;refine D ?_;try clear D
 exact⟨"str",_,F.slot_str_getitem.lookup,sY _ _ _,wpAny_getItem_str_slice (l:=l) (u:=u) (st:=AD) U rfl (post_val_or_str ⟨DE (Txt.slice_le z _ _) V,λE k=>⟨.str _,H,I.uh _,⟨_,rfl⟩,q⟩⟩)⟩
theorem m6{D:List AJ}:∀{us:List AK},BO (D.map AH.str) us->StrsAre us D:=by induction D with|nil=>intro us r;cases r;exact .nil|cons n J F=>intro us r;cases r with|cons r1 r2=>obtain⟨t,e⟩:=r1;subst e;exact .cons n t (F r2)
theorem j8{X:BR}{K:Ar}(W:X.K=K:=by rfl):OE X "str.join" (λx xs H Q=>∃(D:AJ)(p:AI)(F:List AJ),x=.str D/\xs=[.ref p]/\Bg K H p (F.map AH.str)/\(F.map (·.length)).sum+F.length*D.length<=16777216/\Q (.str (YR D F)) H):=by
 subst W;intro U s O H x xs v N Q I L C h;refine AB λJ=>?_;obtain⟨D,p,F,rfl,rfl,Y,Z,q⟩:=h;obtain⟨t,rfl⟩:=L;obtain⟨u,rfl,E⟩:=F6 C;cases E;obtain⟨A,G,B,_⟩:=I.cu Y;refine J ?_;try clear J
 exact join_list B.isList (by simpa using m6 G) Z λM k=>⟨.str _,H,I.uh _,⟨_,rfl⟩,q⟩
theorem HK{X:BR}{K:Ar}(J:X.K=K:=by rfl):EB X (.builtin "isinstance") (λxs H Q=>∃x n t b,xs=[x,.ty n]/\F1 K H x t/\Jq K t (.type n)=AA b/\Q (.bl b) H):=by
 subst J;intro F s B H xs A Q I r h;refine AB λD=>?_;obtain⟨x,n,t,b,rfl,W,e,q⟩:=h;obtain⟨u,Y,rfl,V,U⟩:=SK r;cases(show Y=Hd n from U);refine D ?_;try clear D
 exact iX I V W e λZ=>⟨.bl b,H,I.uh _,rfl,q⟩
mutual inductive Fi(K:Ar)(H:AN):AH->Iv->Prop where|non:Fi K H .non .none|bl(b:Bool):Fi K H (.bl b) (.bool b)|int(i:Int):Fi K H (.int i) (.int i)|str(x:AJ):Fi K H (.str x) (.str x)|lst{a:AI}{xs:List AH}{ds:List Iv}:Bg K H a xs->Ia K H xs ds->Fi K H (.ref a) (.list ds)|tup{a:AI}{xs:List AH}{ds:List Iv}:Bw K H a xs->Ia K H xs ds->Fi K H (.ref a) (.tuple ds)inductive Ia(K:Ar)(H:AN):List AH->List Iv->Prop where|nil:Ia K H [] []|cons{x:AH}{d:Iv}{xs:List AH}{ds:List Iv}:Fi K H x d->Ia K H xs ds->Ia K H (x::xs) (d::ds)end
section
variable{X:BR}{pins:List (AI×A8)}{σ:Aj}{H:AN}{s:AU}
mutual theorem Fi.aee(I:AY X pins σ H s):∀{x:AH}{d:Iv}{u:AK},Fi X.K H x d->BN x u->∃F,Reads s.heap u d F
 |_,_,_,.non,r=>by cases(by assumption);exact⟨_,.none⟩|_,_,_,.bl b,r=>by cases(by assumption);exact⟨_,.bool b⟩|_,_,_,.int i,r=>by obtain⟨t,rfl⟩:=r;exact⟨_,.int i t⟩|_,_,_,.str x,r=>by obtain⟨t,rfl⟩:=r;exact⟨_,.str x t⟩|_,_,_,.lst J ds,r=>by
  refine AB λD=>?_;cases r;obtain⟨U,Y,W,_⟩:=I.cu J;obtain⟨F,q⟩:=Q4 I ds Y;obtain⟨o,e,c,n,d⟩:=W.isList;refine D ?_;try clear D
  exact⟨_,.list e c d (by simpa using q)⟩|_,_,_,.tup J ds,r=>by
  refine AB λD=>?_;cases r;obtain⟨U,Y,W,_⟩:=I.bh J;obtain⟨F,q⟩:=Q4 I ds Y;obtain⟨o,e,c,n,d⟩:=W;refine D ?_;try clear D
  exact⟨_,.tuple e c d (by simpa using q)⟩theorem Q4(I:AY X pins σ H s):∀{xs:List AH}{ds:List Iv}{Z:List AK},Ia X.K H xs ds->BO xs Z->∃F,ReadsAll s.heap Z ds F |_,_,_,.nil,r=>by cases r;exact⟨_,.nil⟩|_,_,_,.cons d ds,r=>by cases r with|cons r1 r2=>
   refine AB λD=>?_;obtain⟨F,q⟩:=Fi.aee I d r1;obtain⟨A,p⟩:=Q4 I ds r2;refine D ?_;try clear D
   exact⟨_,.cons q p⟩end
end
noncomputable def XF(K:Ar):DH:=λx y H Q=>∃d e,Fi K H x d/\Fi K H y e/\HZ d=AF/\HZ e=AF/\Q (.bl (!NA d e)) H
theorem LJ{X:BR}{K:Ar}(W:X.A.units+64<E8)(J:X.K=K:=by rfl):CO X (EJ .NotEq) (XF K):=by
 subst J;intro F s G H x y v u Q I Y Z h;refine AB λD=>?_;obtain⟨d,e,U,V,A,B,q⟩:=h;obtain⟨C,r1⟩:=U.aee I Y;obtain⟨E,r2⟩:=V.aee I Z;refine D ?_;try clear D
 exact ne_dataH r1 r2 A B W ⟨.bl _,H,I,rfl,q⟩
theorem OX{K:Ar}:∀ys:List Int,Ia K H (ys.map AH.int) (ys.map GC)|[]=>.nil|y::r=>.cons (.int y) (OX r)
noncomputable def lY(K:Ar):DH:=λx y H Q=>∃a b D,x=.ref a/\y=.ref b/\Bg K H a D/\Bg K H b []/\Q (.bl D.isEmpty) H
theorem W2{X:BR}{K:Ar}(D:X.A.units<E8)(Z:X.K=K:=by rfl):CO X (EJ .Eq) (lY K):=by
 subst Z;intro W s N H x y v u Q I G L h;refine AB λJ=>?_;obtain⟨a,b,M,rfl,rfl,A,B,q⟩:=h;cases G;cases L;obtain⟨E,r1,U,_⟩:=I.cu A;obtain⟨F,r2,V,_⟩:=I.cu B;cases r2;refine J ?_;try clear J
 have C:=r1.ak;cases M with |nil=> cases r1;exact SeqAt.eq_listAt (e:=λ_=>AF) U.isList V.isList rfl D (λj Y _=>absurd Y (by simp)) ⟨.bl AF,H,I,rfl,q⟩|cons x r=>refine SeqAt.eq_list_lengthsAt U.isList V.isList ?_ D ⟨.bl AO,H,I,rfl,q⟩;rw[DQ,<-C];rfl
theorem FN{α:Type}(xs:List α)(n:Int)(V:(xs.length:Int)=n)(D:0<n)(c:Int):∃v,C3 xs (c%n)=AA v/\v∈xs:=by have F:0<=c%n:=DR _ (by(first|lia|omega));have U:c%n<n:=EM _ D;obtain⟨j,J⟩:=vI F;refine⟨xs[j],?_,(by grind)⟩;rw[J];exact Ag (by grind)
theorem Er{c:Bool}{A B:Prop}(D:c=AF->A)(F:c=AO->B):if c=AF then A else B:=by grind
theorem Ak.cb(e:Ak H D)(h:D a=AD):Ak H (AW D a o):=λb u q=>by rw[BC (B6 (e b u q) h)];exact e b u q
theorem Wc{X:BR}{K:Ar}(D:X.K=K:=by rfl):K4 X (R8 K):=by subst D;exact i0
theorem Wd{X:BR}{K:Ar}(D:X.K=K:=by rfl):K4 X (R9 K):=by subst D;exact i6
theorem Ow{X:BR}{K:Ar}(D:X.K=K:=by rfl):K6 X (XG K):=by subst D;exact mR
theorem KN{X:BR}{K:Ar}(D:X.K=K:=by rfl):K6 X (XH K):=by subst D;exact mU
theorem Rn{X:BR}{K:Ar}(D:X.K=K:=by rfl):CO X (EJ .In) (Ov K AO):=by subst D;exact kI
theorem kM{X:BR}{K:Ar}(D:X.K=K:=by rfl):CO X (EJ .NotIn) (Ov K AF):=by subst D;exact kL
theorem Rj{X:BR}{K:Ar}(D:X.K=K:=by rfl):CO X (FX .Add) (XE K):=by subst D;exact kH
theorem OQ{X:BR}{K:Ar}(D:X.K=K:=by rfl):EB X (.builtin "len") (λxs H Q=>∃p ys,xs=[.ref p]/\(Bg K H p ys\/Bw K H p ys)/\Q (.int ys.length) H):=by subst D;exact gT
theorem OR{X:BR}{K:Ar}(D:X.K=K:=by rfl):EB X (.type "list") (λxs H Q=>∃p ys,xs=[.ref p]/\(Bg K H p ys\/Bw K H p ys)/\∀l,H l=AD->Q (.ref l) (AW H l (.lst ys))):=by subst D;exact gV
theorem Cm{X:BR}{K:Ar}(J:Ae X l D)(F:X.K=K:=by rfl):EZ X U l (WV K D):=by subst F;exact lF J
theorem lH{X:BR}{K:Ar}(J:Ae X l D)(F:X.K=K:=by rfl):EZ X U l (WW K D):=by subst F;exact lG J
theorem lU{X:BR}{K:Ar}{a:BD}(V:Ae X a J)(W:∀D,NF a X.af D=(do let v<-D;Yk a.pos;Yd [v] (Ym v)))(U:X.K=K:=by rfl):FK X a (λY H Q=>J Y H λx F=>∃k,RB K x F k/\Q k F):=by subst U;exact lR V W
theorem LM{X:BR}{K:Ar}{name:AJ}{J D:Ce}(M:PlainAttrs T)(q:Slot T name B)(A:typeOf (.builtin B)=BB (.type "method_descriptor"))(H:OE X B r)(I:Ae X o C)(G:Ep X (e::U) t)(E:X.K=K:=by rfl)(W:PK o name X.af (Bo o X.af)=Bo o X.af:=by rfl)(Z:((EV D (Bz (e::U) X.af)).all (λx=>!x.1)&&(S0 D (S5 [] X.af)).all (λx=>x.1.isSome)&&AZ ((e::U).length+([]:List Le).length+(if([]:List Le).isEmpty then 0 else 1)<30))=AF:=by rfl)(Y:(J.endLine==D.line)=AF:=by rfl)(L:Bz (e::U) X.af=(AO,Bo e X.af)::Bz U X.af:=by rfl)(F:(EV D (Bz U X.af)).any (·.1)=AO:=by rfl):Ae X (.Call (.Attribute o name J) (e::U) [] D) (SG K T r C t):=by subst E;exact kR M q A H I G W Z Y L F
noncomputable def mE(K:Ar):DH:=λx y H Q=>∃a b D,x=.ref a/\y=.ref b/\Bg K H a D/\Bg K H b []/\Q (.bl (!D.isEmpty)) H
theorem LK{X:BR}{K:Ar}(D:X.A.units<E8)(Z:X.K=K:=by rfl):CO X (EJ .NotEq) (mE K):=by
 subst Z;intro W s N H x y v u Q I G L h;refine AB λJ=>?_;obtain⟨a,b,M,rfl,rfl,A,B,q⟩:=h;cases G;cases L;obtain⟨E,r1,U,_⟩:=I.cu A;obtain⟨F,r2,V,_⟩:=I.cu B;cases r2;refine J ?_;try clear J
 have C:=r1.ak;cases M with |nil=> cases r1;exact ABf (e:=λ_=>AF) U.isList V.isList rfl D (λj Y _=>absurd Y (by simp)) _ _ _ _ ⟨.bl AO,H,I,rfl,q⟩|cons x r=>refine ABg U.isList V.isList ?_ D _ _ _ _ ⟨.bl AF,H,I,rfl,q⟩;rw[DQ,<-C];rfl
theorem Dc.u1{A:Cj}(r:Dc k A):A.units+1<E8:=by have:=r.un;(first|lia|omega)
noncomputable def lW:DH:=λx y H Q=>∃a b F J,x=.ref a/\y=.ref b/\H a=AA (.tup F)/\H b=AA (.tup J)/\F.length+J.length<=An/\∀p D,Ak H D->D p=AA (.tup (F++J))->Q (.ref p) D
theorem LI:CO X (FX .Add) lW:=by
  intro T s t H x y v u Q I l m h;refine AB λV=>?_;obtain⟨a,b,c,d,rfl,rfl,G,L,P,q⟩:=h;cases l;cases m;obtain⟨A,r1,R,_⟩:=I.bh (Ao (K:=X.K) G);obtain⟨U,r2,S,_⟩:=I.bh (Ao (K:=X.K) L);refine V ?_;try clear V
  by_cases Z:A=[]
  . have i:c=[]:=r1.qo.mp Z;subst Z i;refine AB λV=>?_;obtain⟨⟨e,f,E,p⟩,O,M,n,N⟩:=id R;obtain⟨⟨C,Y,W,B⟩,J,D,k,F⟩:=id S;refine V ?_;try clear V
    simp only at M N D F;subst M N D F;exact sL ⟨_,O,rfl⟩ ⟨_,J,rfl⟩ sQ sU rD q9 (qZ _ _) (tuple_addW0 a b [].toArray U.toArray n k f Y p B (by simp)) ⟨O,J,⟨.ref b,H,I,rfl,q b H (CS H) L⟩⟩
  . refine Ta R S Z (λz=>⟨.ref a,H,I,rfl,?_⟩) (λz=>?_) (by rw[<-r1.ak,<-r2.ak];exact P)
    . have j:d=[]:=r2.qo.mp z;subst j;exact q a H (CS H) (by rw[Eg];exact G)
    . have g:=I.bb.az (Af s.heap.objs.size);refine⟨.ref s.heap.objs.size,_,I.ie (t':=s.toks) (o:=.tup (c++d)) (λb r q=>Bi _ q) (Af _) ?_,rfl,q _ _ ((CS H).cb g) Az⟩;exact⟨by rw[CY];exact P,_,r1.lg r2,Sj _ _⟩
noncomputable def Es(lo hi d:Int):Nat:=if lo<hi then((hi-lo-1)/d+1).toNat else 0
theorem XT{lo:Int}(D:1<=d):qT lo hi d=(Es lo hi d:Int):=by
 unfold qT Es;rw[ABo (by(first|lia|omega))];split
 . have:0<=(hi-lo-1)/d:=Pp (by(first|lia|omega)) (by(first|lia|omega));(first|lia|omega)
 .rfl
theorem oR{lo:Int}(F:1<=d):(Es lo hi d:Int)<=(if lo<hi then hi-lo else 0):=by
 unfold Es;split
 . have D:(hi-lo-1)/d<=hi-lo-1:=vG _ (by(first|lia|omega));(first|lia|omega)
 grind
theorem Rz{X:BR}{K:BD}{F:Du}{own:List AJ}{E:List (AJ×Nat)}{V:Ce}{y:AJ}(t:X.N.Nodup)(O:X.N[S]?=AA y)(Q:Ht X.af.scope y)(N:X.fn y=AF\/X.af.scope.names.lookup y=AA .local)(w:X.bx=AF)(hi:EZ X K J wi)(hk:F.kind=.function)(Y:∀y∈F.names,y.2≠.cell)(U:∀y∈F.names,y.2=.local->F.names.lookup y.1=AA .local)(Z:∀y∈F.names,y.2=.free->X.af.kindOf y.1=AA .cell\/X.af.kindOf y.1=AA .free)(M:Gw X F E)(hg:∀C s H B,JR (Ck X F (own++E.map (·.1)) C s H B) K g)(ht:∀C s H B,GR (Ck X F (own++E.map (·.1)) C s H B) A f)(z:∀C s H B,Ae (Ck X F (own++E.map (·.1)) C s H B) W d)(P:JB (.ListComp W [⟨K,J,A,0⟩] F G) (AA (.Name y c)) V.line X.af=BB AF)(hs:∀x,JA J X.af x=BB x:=by intro _;rfl):DW X (.Assign [.Name y c] (.ListComp W [⟨K,J,A,0⟩] F G) V) (LV (Hw own.length (E.map (·.2)) wi g f d) (Di S)):=by
 intro T s σ H D0 I h;rw[exec_Assign_Name_used _ _ _ _ P];refine AX (tH (AX ?_));refine AX (EK (WE w hi hk Y U Z M hg ht z hs I h λD C m s4 H5 v i hn p r k l n q=>?_) (λ_ s' hq=>Aw (Aw hq)) λ_ _ e=>e);refine AAX (XW i t O Q (v:=.ref D) rfl (λs5 j⟨a,R,ha⟩=>?_) N);have L:C≠a:=by grind
 exact⟨m,Heap.Ns.sameBut hn R L,λh' sb=>⟨_,_,j.dk (λb o u e=>(sb.2 b u).trans e) p r (.inr k) l n,q⟩⟩
theorem R4{X:BR}{y:AJ}{D osc:Du}{U:Ce}(q:List (AJ×Nat))(R:X.N.Nodup)(G:X.N[i]?=AA y)(L:Ht X.af.scope y)(S:X.bx=AF)(hi:EZ X (.Name x M) F wi)(c:X.af.scope=osc)(b:D.kind=.function)(W:∀y∈D.names,y.2≠.cell)(J:∀y∈D.names,y.2=.local->D.names.lookup y.1=AA .local)(Y:∀y∈D.names,y.2=.free->osc.names.lookup y.1=AA .cell\/osc.names.lookup y.1=AA .free)(E:Gw X D q)(N:D.names.lookup x=AA .local)(I:(x::q.map (·.1)).Nodup)(f:∀C s H B,GR (Ck X D (x::q.map (·.1)) C s H B) Z Q)(T:∀C s H B,Ae (Ck X D (x::q.map (·.1)) C s H B) V P)(K:JB (.ListComp V [⟨.Name x M,F,Z,0⟩] D A) (AA (.Name y O)) U.line X.af=BB AF:=by rfl)(a:X.fn y=AF\/X.af.scope.names.lookup y=AA .local:=by first|exact .inl rfl|exact .inr rfl|assumption)(d:∀x,JA F X.af x=BB x:=by intro _;rfl):DW X (.Assign [.Name y O] (.ListComp V [⟨.Name x M,F,Z,0⟩] D A) U) (LV (Hw 1 (q.map (·.2)) wi (Di 0) Q P) (Di i)):=Rz (own:=[x]) R G L a S hi b W J (λy g e=>by show X.af.scope.names.lookup y.1=_\/X.af.scope.names.lookup y.1=_;rw[c];exact Y y g e) E (λC s H B=>GW (i:=0) I rfl (.inl (D8 N)) (.inr (D8 N))) f T K d
noncomputable def DO:Cs α->Prop|.pure _=>True|.raise _=>True|.unsupported _=>True|.finish _=>True|.rule _ k=>DO (k ())|.at _ k=>DO (k ())|.load _ _ k=>∀o,DO (k o)|.update _ _ f k=>(∀o,(f o).dict=o.dict)/\DO (k ())|.loadIfAlive _ k=>∀o,DO (k o)|.point _ k=>DO (k ())|.alloc _ k=>∀a,DO (k a)|.fresh k=>∀t,DO (k t)|.ask k=>∀t,DO (k t)|.stack k=>∀l,DO (k l)|_=>False
theorem Dt{α F:Type}{t:Cs α}{f:α->Cs F}(h:DO t)(g:∀a,DO (f a)):DO (t>>=f):=by induction t with|pure a=>exact g a|raise e=>trivial|unsupported w=>trivial|finish e=>trivial|rule t k D=>exact D () h|«at»p k D=>exact D () h|load a p k D=>exactλo=>D o (h o)|update a p f k D=>exact⟨h.1,D () h.2⟩|alloc o k D=>exactλa=>D a (h a)|loadIfAlive a k D=>exactλo=>D o (h o)|point l k D=>exact D () h|fresh k D=>exactλo=>D o (h o)|ask k D=>exactλo=>D o (h o)|stack k D=>exactλo=>D o (h o)|_=>exact h.elim
noncomputable def Dy(e:AI)(d:Option AI)(h:A3):Prop:=∃o,h.objs[e]?=AA o/\o.dict=d
theorem Dy.ads{h:A3}(x:Dy e d h)(o:A8):Dy e d (h.push o):=by
 refine AB λU=>?_;obtain⟨u,J,V⟩:=x;refine U ?_;try clear U
 refine⟨u,?_,V⟩;have F:=(Array.getElem?_eq_some_iff.mp J).1;cases h with|mk D l=>show(D.push o)[e]?=AA u;rw[Array.getElem?_push_lt F];exact(Gp F).symm.trans J
theorem Dy.aez{h:A3}(x:Dy e d h)(a:AI)(V:∀o,(f o).dict=o.dict):Dy e d (h.update a f):=by
 refine AB λU=>?_;obtain⟨u,J,F⟩:=x;refine U ?_;try clear U
 cases h with|mk D l=>
  show∃o,(D.modify a f)[e]?=AA o/\o.dict=d;rw[Array.getElem?_modify];by_cases q:a=e;. rw[ABo q,J];exact⟨f u,rfl,(V u).trans F⟩
  . rw[ABn q];exact⟨u,J,F⟩
theorem Dy.yl{h:A3}{o:A8}(x:Dy e d h)(g:h.get? e=AA o):o.dict=d:=by
 refine AB λD=>?_;obtain⟨u,J,F⟩:=x;have:=(yW.mp g).1;rw[J]at this;cases this;refine D ?_;try clear D
 exact F
theorem gG{h:A3}{o:A8}(g:h.get? e=AA o):Dy e o.dict h:=⟨o,(yW.mp g).1,rfl⟩
theorem DO.wp:∀{Q:α->Ce->AU->Prop}{E:AK->Ce->AU->Prop}{p:Ce}{s:AU},DO t->Dy e d s.heap->Sem.wp M F t Q E p s->Sem.wp M F t (λa p s=>Q a p s/\Dy e d s.heap) (λa p s=>E a p s/\Dy e d s.heap) p s:=by induction t with|pure a=>intro Q E p s h x q;exact⟨q,x⟩|raise v=>intro Q E p s h x q;exact⟨q,x⟩|unsupported w=>intro Q E p s h x q;exact q.elim|finish v=>intro Q E p s h x q;exact q.elim|rule t k D=>intro Q E p s h x q;exact D () h x q|«at»V k D=>intro Q E p s h x q;exact D () h x q|load a U k D=>intro Q E p s h x q;obtain⟨o,J,q⟩:=q;exact⟨o,J,D o (h o) x q⟩|update a U f k D=>intro Q E p s h x q;exact⟨q.1,D () h.2 (x.aez a h.1) q.2⟩|alloc o k D=>intro Q E p s h x q;exact D _ (h _) (x.ads o) q|loadIfAlive a k D=>intro Q E p s h x q;exact D _ (h _) x q|point l k D=>intro Q E p s h x q;exact D () h x q|fresh k D=>intro Q E p s h x q;exact D _ (h _) x q|ask k D=>intro Q E p s h x q;exact D _ (h _) x q|stack k D=>intro Q E p s h x q;exact D _ (h _) x q|_=>intro Q E p s h;exact h.elim
theorem MK{s:AU}(h:DO t)(x:Dy e d s.heap)(q:Aa M A t Q E s):Aa M A t (λa s'=>Q a s'/\Dy e d s'.heap) (λv s'=>E v s'/\Dy e d s'.heap) s:=λF p D=>h.wp x (q F p D)
theorem RS(a:AI):DO (load a):=λ_=>trivial
theorem RU:DO stack:=λ_=>trivial
theorem jD(v:AK):DO (fieldsOf v):=by
 unfold fieldsOf;split
 . refine Dt (RS _) λo=>?_;split<;>trivial
 .trivial
theorem Ob(v:AK)(i:Nat):DO (field v i):=by refine Dt (jD v) λo=>?_;split<;>trivial
theorem iC(f:Array AK->Array AK)(o:A8):(YM f o).dict=o.dict:=by unfold YM;split<;>rfl
theorem RT(v:AK)(i:Nat)(x:AK):DO (sV v i x):=by
  unfold sV;split
  . refine Dt (RS _) λo=>?_;split
    . split;.exact⟨iC _,trivial⟩
      .trivial
    .trivial
  .trivial
theorem jC(f:AI)(b:Bool):DO (entryPlaceOf f b):=by refine Dt RU λo=>?_;split<;>trivial
theorem Wh:∀l:List DK,DO (readyFrames l)
  |[]=>trivial|F::D=>by
    unfold readyFrames;split
    . refine Dt (RS _) λo=>?_;split;.trivial
      . refine Dt ?_ λb=>Dt ?_ λv=>?_
        . unfold behindIsImport;split;.trivial
          . split;.trivial
            .exact Dt (Ob _ _) λ_=>trivial
        . unfold keptBack;split
          . split;.trivial
            .exact Dt (Dt RU λ_=>trivial) λ_=>trivial
          .trivial
        .exact⟨λ_=>rfl,Wh _⟩
    .trivial
theorem jE(env:DK):DO (AAM env):=by
  refine Dt (Dt RU λ_=>trivial) λl=>Dt ?_ λo=>?_
  . unfold frameObject;split;.trivial
    .exact Dt (Wh _) λ_=>trivial
  .split<;>trivial
theorem jB(a b c d e:AK)(l:List AK):DO (qY a b c d e l):=by
 unfold qY newFields newObj;have k:∀D:Array _,DO (newObjAsIs (.type "traceback") (.fields D)):=λD=>by exact Dt (λ_=>trivial) λ_=>trivial
 dsimp only;split<;>split<;>first|trivial|exact k _
theorem Wg(e:AK)(env:DK):DO (Yg e env):=by
  unfold Yg;split
  . rename_i f _;refine Dt (Ob _ _) λD=>?_;have k:∀x:AK,DO (do let a<-AAM env;let F<-entryPlaceOf f (x !=.none);let b<-qY x a .none (IF f) .none F;sV e 1 b):=λx=>Dt (jE _) λ_=>Dt (jC _ _) λ_=>Dt (jB _ _ _ _ _ _) λ_=>RT _ _ _;split
    . refine Dt (Ob _ _) λy=>?_;split;.trivial
      .exact Dt (RT _ _ _) λ_=>k D
    .exact k D
  .trivial
theorem RR(e:AK)(D:Option AI):DO (Yi e D):=by
 refine Dt (Ob _ _) λ_=>?_;split;.exact RT _ _ _
 .trivial
theorem Wf(env:DK)(e:AK):DO (Ye env e):=Dt (Wg _ _) λ_=>RR _ _
theorem jR{A:Cj}{s:AU}{env:DK}(U:A.frames=AA (env::D))(Z:env.frame=AA L)(J:IA base (env::D) e F V s.heap)(Y:Dy e dd s.heap)(k:∀h',IA base D e F V h'->s.heap.UpToSlots h'->Dy e dd h'->Q () {s with heap:=h'}):Aa M A (Ye env (.ref e)) Q E s:=by
 refine EK (MK (Wf _ _) Y (wpAny_leaves_onW (Q:=λ_ s3=>∃h',s3={s with heap:=h'}/\IA _ _ e _ V h'/\s.heap.UpToSlots h') (E:=λ_ _=>False) U Z J λh' x y=>⟨h',rfl,x,y⟩)) (λ_ s3 q=>?_) λ_ _ z=>z.1.elim;refine AB λW=>?_;obtain⟨⟨h',rfl,x,y⟩,z⟩:=q;refine W ?_;try clear W
 exact k h' x y z
theorem jQ{A:Cj}{s:AU}{base:A3}{env:DK}{J:A8}(U:A.frames=AA (env::D))(I:s.heap.FunFrames base (env::D))(H:env.frame=AA L)(Y:s.heap.get? e=AA J)(V:base.StaysIn s.heap)(F:base.get? e=AD)(G:J.data=.fields vs)(C:vs[1]?=AA .none)(B:vs[0]?=AA W)(k:∀h',IA base D e J.cls W h'->s.heap.UpToSlots h'->Dy e J.dict h'->Q () {s with heap:=h'}):Aa M A (Ye env (.ref e)) Q E s:=by
 refine EK (MK (Wf _ _) (gG Y) (wpAny_leaving_firstW (Q:=λ_ s3=>∃h',s3={s with heap:=h'}/\Heap.LeftW _ _ e _ W _ h') (E:=λ_ _=>False) U I H Y V F G C B λh' x=>⟨h',rfl,x⟩)) (λ_ s3 q=>?_) λ_ _ z=>z.1.elim;refine AB λZ=>?_;obtain⟨⟨h',rfl,K,⟨_,_,N⟩,O,P⟩,z⟩:=q;refine Z ?_;try clear Z
 exact k h' ⟨K,F,N,O⟩ P z
theorem jT{A:Cj}{s:AU}{env:DK}(U:A.frames=AA (env::D))(Z:env.frame=AA L)(J:IA base (env::D) e F V s.heap)(Y:Dy e dd s.heap)(k:∀h',rF base (env::D) e F V L h'->s.heap.UpToSlots h'->Dy e dd h'->Q () {s with heap:=h'}):Aa M A (Yg (.ref e) env) Q E s:=by
 refine EK (MK (Wg _ _) Y (wpAny_looks_onW (Q:=λ_ s3=>∃h',s3={s with heap:=h'}/\rF _ _ e _ V L h'/\s.heap.UpToSlots h') (E:=λ_ _=>False) U Z J λh' x y=>⟨h',rfl,x,y⟩)) (λ_ s3 q=>?_) λ_ _ z=>z.1.elim;refine AB λW=>?_;obtain⟨⟨h',rfl,x,y⟩,z⟩:=q;refine W ?_;try clear W
 exact k h' x y z
theorem jL{s:AU}(V:rF base l e D F L s.heap)(U:Dy e dd s.heap)(k:∀h',IA base l e D F h'->s.heap.UpToSlots h'->Dy e dd h'->Q () {s with heap:=h'}):Aa M A (Yi (.ref e) AD) Q E s:=by
 refine EK (MK (RR _ _) U (wpAny_landsW (Q:=λ_ s3=>∃h',s3={s with heap:=h'}/\IA _ l e _ F h'/\s.heap.UpToSlots h') (E:=λ_ _=>False) V λh' x y=>⟨h',rfl,x,y⟩)) (λ_ s3 q=>?_) λ_ _ z=>z.1.elim;refine AB λJ=>?_;obtain⟨⟨h',rfl,x,y⟩,z⟩:=q;refine J ?_;try clear J
 exact k h' x y z
theorem jM{s:AU}(V:IA base l e D F s.heap)(U:Dy e dd s.heap)(k:∀h',IA base l e D F h'->s.heap.UpToSlots h'->Dy e dd h'->Q () {s with heap:=h'}):Aa M A (Yi (.ref e) AD) Q E s:=by
 refine EK (MK (RR _ _) U (lands_againW (Q:=λ_ s3=>∃h',s3={s with heap:=h'}/\IA _ l e _ F h'/\s.heap.UpToSlots h') (E:=λ_ _=>False) V λh' x y=>⟨h',rfl,x,y⟩)) (λ_ s3 q=>?_) λ_ _ z=>z.1.elim;refine AB λJ=>?_;obtain⟨⟨h',rfl,x,y⟩,z⟩:=q;refine J ?_;try clear J
 exact k h' x y z
noncomputable def Fg(P:CZ)(w:Bn):HI:=λD H s E Y F=>∃(e:AI)(C W:AK)(J:AN)(B:A3)(U:Option AI),Y=.ref e/\F.os=s.os/\Ji F.gens/\Cy P w J B/\IA B D e C W F.heap/\FL (C0 D) [] H J s.heap F.heap/\(∀b o,s.heap.get? b=AA o->b∉C0 D->∃V,B.get? b=AA V/\(H b=AD->V=o))/\Dy e U F.heap/\E C U J
theorem RC{K:List AI}{h E G:A3}(u:FL W K H I h E)(L:E.UpToSlots G)(V:∀b o,E.get? b=AA o->b∈W->∀vs,o.data≠.fields vs)(J:∀b o,h.get? b=AA o->b∉W->∃Y,G.get? b=AA Y/\(H b=AD->Y=o)):FL W K H I h G where
  ae:=λb o e n F A=>by
    refine AB λD=>?_;obtain⟨Y,B,q⟩:=J b o e F;refine D ?_;try clear D
    rw[B,q n]
  vo:=λb o e n F A=>by
    refine AB λD=>?_;obtain⟨N,U⟩:=u.vo b o e n F A;obtain⟨Z,C⟩:=L b _ U (V b _ U F);refine D ?_;try clear D
    exact⟨Z,C⟩
  ar:=u.ar
  dr:=λb o e A=>by
    by_cases F:b∈W
    . refine AB λD=>?_;obtain⟨M,U⟩:=u.dr b o e A;obtain⟨Z,C⟩:=L b _ U (V b _ U F);refine D ?_;try clear D
      exact⟨_,C⟩
    . refine AB λD=>?_;obtain⟨Y,B,_⟩:=J b o e F;refine D ?_;try clear D
      exact⟨Y,B⟩
  xc:=u.xc
  vg:=u.vg
  wz:=u.wz
theorem kP{K:Ar}(y:∀C dd X,E C dd X->t C dd X):JS (Fg P w) (EG (Fg P w) P w K mg base N O W f m A V Q G t) E:=by
  intro r σ H s e' s' I hI;refine AB λD=>?_;obtain⟨e,C,v,X,B,dd,rfl,p,L,M,S,un,Z,g,q⟩:=hI;refine D ?_;try clear D
  have u:=I.aay p un (M.de S.1) L λb J=>absurd J (by simp);have h:=I.ok.dj;refine jR h rfl S g λh' U up c=>⟨e,C,v,X,B,dd,rfl,p.trans I.os,L,M,U,?_,?_,c,y C dd X q⟩
  . have d:∀b o,Q.heap.get? b=AA o->b∉C0 _->b∉C0 (FU O W _ f m::V):=λb o F J i=>by
      rcases B7.mp i with z|z;. rw[z]at F;exact E6 _ (Br F)
      .exact J z
    refine RC u.ao up (λb o F J=>?_) λb o F J=>?_
    . have:=(S.2.2.1.mem (show b∈Q.heap.objs.size::C0 _ from E5 _ J)).2;refine AB λD=>?_;obtain⟨o1,Y,x⟩:=this;rw[F]at Y;cases Y;refine D ?_;try clear D
      exact x
    . by_cases n:G b=AD
      . have Y:=I.ao.ae b o F n J (by simp[EG]);have j:=I.ao.ar b o F n (by simp[EG]);refine AB λD=>?_;obtain⟨T,R,l⟩:=Z b o Y (d b o F J);refine D ?_;try clear D
        exact⟨T,U.1 _ _ R,λ_=>l j⟩
      . refine AB λD=>?_;obtain⟨k,Y⟩:=I.ao.dr b o F (by simp[EG]);obtain⟨T,R,_⟩:=Z b k Y (d b o F J);refine D ?_;try clear D
        exact⟨T,U.1 _ _ R,λz=>absurd z n⟩
  . intro b o F J;have a:b∉C0 (FU O W _ f m::V):=λi=>by
      rcases B7.mp i with z|z
      . rw[z]at F;exact E6 _ (Br F)
      .exact J z
    by_cases n:G b=AD
    . have Y:=I.ao.ae b o F n J (by simp[EG]);have j:=I.ao.ar b o F n (by simp[EG]);refine AB λD=>?_;obtain⟨T,R,l⟩:=Z b o Y a;refine D ?_;try clear D
      exact⟨T,R,λ_=>l j⟩
    . refine AB λD=>?_;obtain⟨k,Y⟩:=I.ao.dr b o F (by simp[EG]);obtain⟨T,R,_⟩:=Z b k Y a;refine D ?_;try clear D
      exact⟨T,R,λz=>absurd z n⟩
theorem jP{K:Ar}{s:AU}(I:AY (EG (Fg P w) P w K mg base N qual scope f cd A outer s₀ H₀ E') pins σ H s)(hx:Heap.MadeExcOf s.heap h' e C args)(q:E' C AD H):(EG (Fg P w) P w K mg base N qual scope f cd A outer s₀ H₀ E').xe (.ref e) {s with heap:=h'}:=by
  have hfr:=I.ok.dj;have FF:=I.ba;let B:=zT s.heap (C0 (FU qual scope s₀.heap.objs.size f cd::outer));have hB:B.StaysIn _:=λb o z=>AAD _ z;have inB:∀b o,s.heap.get? b=AA o->b∉C0 _->B.get? b=AA o:=λb o z n=>zU _ z n;have FB:=W.funFrames_hide FF λenv he a ha=>Xx.mpr ⟨env,he,ha⟩;have cov:∀b o,s₀.heap.get? b=AA o->b∉C0 _->∃o',B.get? b=AA o'/\(H₀ b=AD->o'=o):=λb o e1 hb=>by
    have hb2:b∉C0 (FU qual scope _ f cd::outer):=λhm=>by
      rcases B7.mp hm with z|z
      . rw[z]at e1;exact E6 _ (Br e1)
      .exact hb z
    by_cases n:H₀ b=AD;. have e2:=I.ao.ae b o e1 n hb (by simp[EG]);exact⟨o,inB b o e2 hb2,λ_=>rfl⟩
    . obtain⟨o2,e2⟩:=I.ao.dr b o e1 (by simp[EG]);exact⟨o2,inB b o2 e2 hb2,λz=>absurd z n⟩
  have hokB:=λa o z=>(I.bb a o z).aab (λb u hb z2=>inB b u z2 λhm=>?_) (λ_ z=>z) λ_ _ z=>z
  . refine AB λnG=>?_;obtain⟨t,he,htn,ht⟩:=hx.there;refine nG ?_;try clear nG
    have fr:B.get? e=AD:=by cases hq:B.get? e with |none=>rfl|some o'=>have:=hB e o' hq;rw[hx.new]at this;cases this
    refine jQ hfr (FB.of_keeps λb o hb _=>⟨o,hx.keeps b o hb,rfl⟩) rfl he (λb o hb=>hx.keeps b o (hB b o hb)) fr rfl rfl rfl λh2 fly up hdd=>⟨e,C,_,H,B,_,rfl,I.os,I.ir,hokB,fly,?_,?_,hdd,q⟩
    . refine RC (I.de hx.keeps).ao up (λb o e1 hb=>?_) λb o e1 hb=>?_
      . refine AB λnG=>?_;obtain⟨_,o1,e2,h2'⟩:=FF.mem (show b∈s₀.heap.objs.size::C0 _ from E5 _ hb);have e3:=hx.keeps _ _ e2;rw[e1]at e3;cases e3;refine nG ?_;try clear nG
        exact h2'
      . refine AB λnG=>?_;obtain⟨o',e2,q2⟩:=cov b o e1 hb;refine nG ?_;try clear nG
        exact⟨o',fly.1 _ _ e2,q2⟩
    .exact cov
  . have n:=I.yw b hm;rcases hb with z3|z3;.rw[z3,z]at n;cases n
    .rw[z3]at n;cases n
theorem Vu{X:BR}{s:AU}{B:A3}(I:AY X V h H s)(J:AY X V h S s')(L:X.af.cells=[])(K:X.ex=[])(Q:X.ba=X.af::X.iu)(P:X.af.frame=AA X.af.locals)(W:∀b o,s.heap.get? b=AA o->b∉C0 X.ba->∃A,B.get? b=AA A/\(H b=AD->A=o))(M:Cy X.ag X.w S B)(F:B.StaysIn h')(g:s'.heap.UpToSlots h')(j:s'.heap.FunFrames B X.ba):AY X V h S {s' with heap:=h'}:=by
  have Z:∀b,b∈C0 X.ba↔b=X.af.locals\/b∈X.fs:=λb=>by rw[Q];unfold C0;rw[SR,P];exact B7
  have N:∀b o,s'.heap.get? b=AA o->b∈C0 _->∀vs,o.data≠.fields vs:=λb o e C=>by obtain⟨_,o1,O,q⟩:=j.mem C;rw[e]at O;cases O;exact q
  refine⟨J.ok,J.os,J.ir,?_,?_,λx c z=>?_,J.ar,J.gb,λp f=>?_,M.de F,J.bj⟩
  . refine RC J.ao g (λb o e C=>N b o e ((Z b).mpr (.inr C))) λb o e C=>?_;have G:b∉C0 _:=λz=>by
      rcases(Z b).mp z with q|q;. rw[q]at e;exact absurd (EI (Br e) I.ok.kz) (E6 _)
      .exact C q
    by_cases n:X.H₀ b=AD
    . by_cases U:b∈X.ex;.rw[K]at U;cases U
      . have E:=I.ao.ae b o e n C U;have n2:=I.ao.ar b o e n U;refine AB λD=>?_;obtain⟨A,Y,R⟩:=W b o E G;refine D ?_;try clear D
        exact⟨A,F _ _ Y,λ_=>R n2⟩
    . by_cases U:b∈X.ex;.rw[K]at U;cases U
      . refine AB λD=>?_;obtain⟨o2,E⟩:=I.ao.dr b o e U;obtain⟨A,Y,_⟩:=W b o2 E G;refine D ?_;try clear D
        exact⟨A,F _ _ Y,λz=>absurd z n⟩
  . refine AB λD=>?_;obtain⟨m,hn,hl⟩:=J.zb;refine D ?_;try clear D
    refine⟨m,g.ns hn,λi x v O E Y=>?_⟩;refine AB λD=>?_;obtain⟨u,r,l⟩:=hl i x v O E Y;refine D ?_;try clear D
    refine⟨u,r,?_⟩;rcases l with l|⟨_,c,d,_⟩;.exact .inl l
    .rw[L]at d;cases d
  .rw[L]at z;cases z
  . refine AB λD=>?_;obtain⟨a1,k,T,a,t⟩:=J.wt p f;obtain⟨w,y,b3,b4,b5⟩:=I.wt p f;obtain⟨A,Y,R⟩:=W _ _ w λz=>((Z _).mp z).elim T a;refine D ?_;try clear D
    have:=F _ _ Y;rw[R y]at this;exact⟨this,k,T,a,t⟩
noncomputable def BR.lr(X:BR)(e:AI):BR:={X with A:=X.A.mark (AA (.ref e)),bx:=AO,xe:=λ_ _=>False}
theorem AY.lr{X:BR}(I:AY X D F H s)(e:AI):AY (X.lr e) D F H s:=⟨⟨I.ok.vn,I.ok.fo,I.ok.vh,I.ok.aea,I.ok.kz,I.ok.acj,I.ok.aep,I.ok.aem,(λz=>by cases z),I.ok.dj,I.ok.afe,I.ok.afm,I.ok.bs,I.ok.acf,I.ok.aap,I.ok.aak,I.ok.qb,I.ok.adi⟩,I.os,I.ir,I.ao,I.zb,I.ou,I.ar,I.gb,I.wt,I.bb,I.bj⟩
theorem AY.aae{X:BR}(I:AY (X.lr e) D J H s)(F:X.bx=AF->X.A.handled=AD):AY X D J H s:=⟨⟨I.ok.vn,I.ok.fo,I.ok.vh,I.ok.aea,I.ok.kz,I.ok.acj,I.ok.aep,I.ok.aem,F,I.ok.dj,I.ok.afe,I.ok.afm,I.ok.bs,I.ok.acf,I.ok.aap,I.ok.aak,I.ok.qb,I.ok.adi⟩,I.os,I.ir,I.ao,I.zb,I.ou,I.ar,I.gb,I.wt,I.bb,I.bj⟩
noncomputable def Vt(e:AI)(C:AK)(dd:Option AI):DV:=.ext λh=>∃o,h.get? e=AA o/\o.cls=C/\o.dict=dd/\∃D,o.data=.fields D
theorem AY.acg{X:BR}{s:AU}(I:AY X D T H s)(O:∃o,s.heap.get? e=AA o/\o.cls=C/\o.dict=dd/\∃vs,o.data=.fields vs)(W:H e=AD)(L:∀o,X.s₀.heap.get? e≠AA o)(M:e≠X.af.locals)(N:∀x c,X.af.cells.lookup x=AA c->c≠e)(P:∀p∈X.pn++D,p.1≠e):AY X D T (AW H e (Vt e C dd)) s:=by
  have V:∀b o,H b=AA o->b≠e:=λb o z q=>by rw[q,W]at z;cases z
  refine⟨I.ok,I.os,I.ir,⟨I.ao.ae,I.ao.vo,λb o U n Q=>?_,I.ao.dr,λb S z=>?_,λb o u z=>?_,λb R z=>?_⟩,I.zb,I.ou,?_,λx c z=>?_,λp q=>?_,?_,I.bj⟩
  . have q:b≠e:=λq=>L o (by rw[<-q];exact U);rw[BC q];exact I.ao.ar b o U n Q
  .have:=I.ao.xc b S z;rw[BC (V _ _ this)];exact this
  .have:=I.ao.vg b o u z;rw[BC (V _ _ this)];exact this
  .obtain⟨Z,q⟩:=I.ao.wz b R z;exact⟨_,by rw[BC (V _ _ q)];exact q⟩
  .rw[BC M.symm];exact I.ar
  .rw[BC (N x c z)];exact I.gb x c z
  . refine AB λJ=>?_;obtain⟨A,B,E,G,K⟩:=I.wt p q;refine J ?_;try clear J
    exact⟨A,by rw[BC (P p q)];exact B,E,G,K⟩
  . refine AB λJ=>?_;obtain⟨o,Y,F⟩:=O;refine J ?_;try clear J
    exact I.bb.acu W ⟨⟨o,Y,F⟩,⟨o,Y⟩,λa d⟨o,U,r1⟩k=>⟨o,k o U,r1⟩⟩
theorem C7.aho{h:A3}(x:C7 P w H h a o):∃F,h.get? a=AA F:=by cases o with|lst U=>obtain⟨_,_,_,_,e⟩:=x;exact⟨_,e⟩|tup U=>obtain⟨_,_,_,F,e,_⟩:=x;exact⟨_,e⟩|dK D=>obtain⟨_,_,_,_,o,_,_,e,_⟩:=x;exact⟨_,e⟩|dT D=>obtain⟨_,_,_,_,o,_,_,e,_⟩:=x;exact⟨_,e⟩|set S n=>obtain⟨o,_,_,_,e,_⟩:=x;exact⟨_,e⟩|ins C V J=>obtain⟨_,_,_,e,_⟩:=x;exact⟨_,e⟩|own y=>obtain⟨_,e⟩:=x;exact⟨_,e⟩|xd J=>obtain⟨_,⟨_,_,_,e,_⟩,_⟩:=x;exact⟨_,e⟩|rng Y W=>obtain⟨_,_,_,e⟩:=x;exact⟨_,e⟩|frz F u=>obtain⟨e,_⟩:=x;exact⟨_,e⟩|tbl Z=>exact⟨_,(show h.get? a=AA _ from x)⟩|met f y=>exact⟨_,(show h.get? a=AA _ from x)⟩|ext q=>obtain⟨_,⟨_,e⟩,_⟩:=x;exact⟨_,e⟩
theorem A0.ahe{K:Ar}{st:BM}{G:List AJ}(F:A0 K x J st f I)(S:Bp N G (A7 st))(C:∀vs H Q E,sp vs H Q E->vs.length=G.length)(W:∀(U:AK)(A:Cj)(D:List DK)(s:AU)(H:AN)(vs:List AH)(Q:BU)(E:E2),Dc k (A.deeper (FU J (A7 st) s.heap.objs.size f U))->sp vs H Q E->∃t,Ea (EG (Fg P w) P w K L base N J (A7 st) f U A D s H E) (LA st) t/\t {nx:=λ_ M=>Q .non M,rt:=Q} (Io N vs) H):BW P w K L base (Fg P w) (k+1) f I G sp:=by
 refine AB λY=>?_;obtain⟨d,e,c,O,g,a,U,b,X,rfl,T,Z⟩:=F.ex;refine Y ?_;try clear Y
 refine WS T Z S C λA D s H vs Q E R B=>?_;refine AB λY=>?_;obtain⟨t,h,q⟩:=W _ A _ s H vs Q E R B;refine Y ?_;try clear Y
 exact⟨t,h,q⟩
theorem mZ(D:1<=c)(V:c<=2000000)(Z:-(2^40)<=a)(J:a<2^40)(q:-(2^40)<=b)(U:b<2^40):x8 a b c=AF:=by
 have h:=oR (lo:=a) (hi:=b) D;have A:=XT (lo:=a) (hi:=b) D;unfold x8;have F:(Es a b c:Int)<=2^42:=by grind
 have W:=Int.mul_le_mul F (by(first|lia|omega)) (by(first|lia|omega)) (by(first|lia|omega));have Y:0<=(Es a b c)*c:=Ti (by(first|lia|omega)) (by(first|lia|omega));simp only[AAu,JF,Bool.or_eq_true,ABu,ABw,show c>0 by(first|lia|omega),ABy];grind
theorem JZ:∀{D:List α}{J:List U},D.length=J.length->(∀(i:Nat)a b,D[i]?=AA a->J[i]?=AA b->F a b)->Bm F D J|[],[],_,_=>.nil|a::D,b::J,V,h=>.cons (h 0 a b rfl rfl) (JZ (by grind) λi x y W Y=>h (i+1) x y (by grind) (by grind))
noncomputable def LU(i j d:Int):List Int:=(DY (Es i j d)).map λk:Nat=>i+(k:Int)*d
theorem Mo(i j d:Int):(LU i j d).length=Es i j d:=by unfold LU;grind
theorem SE(h:k<Es i j d):(LU i j d)[k]?=AA (i+(k:Int)*d):=by unfold LU;grind
noncomputable def nP(F:Eb):A1:=λU H Q=>F U H λJ D=>∃i j d:Int,J=[.int i,.int j,.int d]/\(1<=d/\d<=2000000/\-(2^40)<=i/\i<2^40/\-(2^40)<=j/\j<2^40/\Es i j d<=16777216)/\∀l,D l=AD->Q (.ref l) (AW D l (.lst ((LU i j d).map AH.int)))
theorem kZ{X:BR}(m:X.bx=AF)(Y:Eo X "list")(A:X.mg "list"=AD)(n:Eo X "range")(w:X.mg "range"=AD)(l:Ep X [a,b,c] P)(hs:Bz [a,b,c] X.af=[(AO,Bo a X.af),(AO,Bo b X.af),(AO,Bo c X.af)]:=by rfl)(B:Bz [b,c] X.af=[(AO,Bo b X.af),(AO,Bo c X.af)]:=by rfl)(y:Bz [.Call (.Name "range" E) [a,b,c] [] D] X.af=[(AO,Bo (.Call (.Name "range" E) [a,b,c] [] D) X.af)]:=by rfl):Ae X (.Call (.Name "list" p) [.Call (.Name "range" E) [a,b,c] [] D] [] G) (nP P):=by
  intro J s R H Q I h;refine Lm (Ih I Y A Jj ?_);refine O9 ?_ (by rfl) rfl;refine Jm ?_;refine Call_ (Ih I n w boot_range (O9 (A2 (l D J s R H _ I h) λus s1⟨vs,S,L,r1,K⟩=>?_) (by grind) (by rw[B];rfl)));refine AB λU=>?_;obtain⟨i,j,d,e,⟨N,f,K,z,q3,q4,O⟩,q⟩:=K;refine U ?_;try clear U
  subst e;cases r1 with|cons r V=>cases V with|cons r' V=>cases V with|cons r2 V=>
        refine AB λU=>?_;cases V;obtain⟨t,rfl⟩:=r;obtain⟨t',rfl⟩:=r';obtain⟨t2,rfl⟩:=r2;refine U ?_;try clear U
        refine call_range_3 (by(first|lia|omega)) ?_ (.inl (xW (by(first|lia|omega))));refine Ld ?_;have M:AY X J R S {s1 with heap:=s1.heap.push {cls:=.type "range",data:=.fields #[.int i t,.int j t',.int d t2]},toks:=s1.toks}:=L.de λb o e=>Bi _ e;refine call_list_range (L.ok.hd m) (yZ ..) (mZ N f K z q3 q4) (XT N) O λg tk W T v hS F=>?_;refine⟨.ref _,_,M.ie v (Af _) (show C7 X.ag X.w _ g _ (.lst _)from⟨?_,W.toList,T,?_,by simp_all⟩),rfl,q _ (M.bb.az (Af _))⟩
        . rw[Am,Mo];exact O
        . refine JZ (by rw[Am,Mo,JE,F.1]) λk x u C hu=>?_;have Z:k<Es i j d:=by have:=(Bh.mp C).1;rw[Am,Mo]at this;grind
          rw[BV,SE Z]at C;obtain⟨tk',e⟩:=F.2 k u (by grind);rw[<-De C,e];exact⟨_,rfl⟩
theorem WA{X:BR}{K:Ar}(E:X.bx=AF)(C:X.K=K:=by rfl):EB X (.builtin "sum") (λxs H Q=>∃(p:AI)(D:List Int),xs=[.ref p]/\Bg K H p (D.map AH.int)/\Q (.int D.sum) H):=by
 subst C;intro Z s c H xs b Q I r h;refine AB λY=>?_;obtain⟨p,D,rfl,L,q⟩:=h;obtain⟨u,rfl,O⟩:=F6 r;cases O;obtain⟨M,P,N,S⟩:=I.cu L;have U:=RO P;obtain⟨J,W⟩:=U.allInts.items;refine Y ?_;try clear Y
 have F:=W▸N.isList;refine sum_intListG (I.ok.hd E) F λR a T G=>?_;have A:D=J.toList.map (·.1):=by rw[<-sR,<-W];exact(show numsOf _=D from U.numsOf).symm
 have B:preSum (numAt J) J.size=D.sum:=by rw[preSum_eq,Cn (by simp),A]
 rw[B];exact⟨.int _,H,I.de G,⟨_,rfl⟩,q⟩
theorem RG{X:BR}{K:Ar}(C:X.bx=AF)(B:X.K=K:=by rfl):EB X (.builtin "min") (λxs H Q=>∃(p:AI)(F:List Int),xs=[.ref p]/\Bg K H p (F.map AH.int)/\0<F.length/\∀M,M∈F->(∀a,a∈F->M<=a)->Q (.int M) H):=by
  subst B;intro A s l H xs k Q I r h;refine AB λD=>?_;obtain⟨p,F,rfl,N,L,q⟩:=h;obtain⟨u,rfl,S⟩:=F6 r;cases S;obtain⟨P,T,R,g⟩:=I.cu N;have Z:=RO T;obtain⟨J,e⟩:=Z.allInts.items;refine D ?_;try clear D
  have U:F=J.toList.map (·.1):=by rw[<-sR,<-e];exact(show numsOf _=F from Z.numsOf).symm
  have W:0<J.size:=by grind
  have G:=e▸R.isList;refine min_intList (I.ok.hd C) G W λv b i O E=>?_;refine AB λD=>?_;obtain⟨t,rfl⟩:=intItems_at O;obtain⟨c,d⟩:=argBest_lt (numAt J) (J.size-1);refine D ?_;try clear D
  refine⟨.int _,H,I.de E,⟨_,rfl⟩,q _ ?_ λa Y=>?_⟩;.rw[Yh];grind
  . rw[U]at Y;refine AB λD=>?_;obtain⟨j,f,rfl⟩:=mem_getD Y;refine D ?_;try clear D
    rw[<-Yh];grind
theorem V9{X:BR}{K:Ar}(C:X.bx=AF)(B:X.K=K:=by rfl):EB X (.builtin "max") (λxs H Q=>∃(p:AI)(F:List Int),xs=[.ref p]/\Bg K H p (F.map AH.int)/\0<F.length/\∀M,M∈F->(∀a,a∈F->a<=M)->Q (.int M) H):=by
  subst B;intro A s l H xs k Q I r h;refine AB λD=>?_;obtain⟨p,F,rfl,N,L,q⟩:=h;obtain⟨u,rfl,S⟩:=F6 r;cases S;obtain⟨P,T,R,g⟩:=I.cu N;have Z:=RO T;obtain⟨J,e⟩:=Z.allInts.items;refine D ?_;try clear D
  have U:F=J.toList.map (·.1):=by rw[<-sR,<-e];exact(show numsOf _=F from Z.numsOf).symm
  have W:0<J.size:=by grind
  have G:=e▸R.isList;refine max_intList (I.ok.hd C) G W λv b i O E=>?_;refine AB λD=>?_;obtain⟨t,rfl⟩:=intItems_at O;obtain⟨c,d⟩:=argBest_gt (numAt J) (J.size-1);refine D ?_;try clear D
  refine⟨.int _,H,I.de E,⟨_,rfl⟩,q _ ?_ λa Y=>?_⟩;.rw[Yh];grind
  . rw[U]at Y;refine AB λD=>?_;obtain⟨j,f,rfl⟩:=mem_getD Y;refine D ?_;try clear D
    rw[<-Yh];grind
theorem WO:∀ys D:List Int,NB (ys.map GC) (D.map GC)=AZ (ys=D)|[],[]=>rfl|[],_::_=>rfl|_::_,[]=>rfl|y::ys,z::D=>by show(NA (.int y) (.int z)&&NB (ys.map GC) (D.map GC))=_;rw[WO ys D];show((y==z)&&AZ (ys=D))=_;grind
theorem LD:∀ys:List Int,Kb (ys.map GC)=AF/\Kc (ys.map GC)=0|[]=>⟨rfl,rfl⟩|y::r=>by obtain⟨a,b⟩:=LD r;simp[Kb,Iw,Kc,Jp,a,b]
theorem mQ(ys:List Int):HZ (.list (ys.map GC))=AF:=by obtain⟨a,b⟩:=LD ys;simp[HZ,Iw,Jp,a,b]
theorem LH{K:Ar}(F:Fi K H x d)(J:Fi K H y d)(D:HZ d=AF)(q:Q (.bl AO) H):XF K x y H Q:=⟨d,d,F,J,D,D,by rw[ABh d (rJ D)];exact q⟩
theorem Cy.aev{h h':A3}(l:List AI)(x:Cy P w H h)(F:∀a∈l,H a=AD)(k:∀b u,b∉l->h.get? b=AA u->h'.get? b=AA u):Cy P w H h':=by intro b u e;refine(x b u e).aab (λc v D q=>k c v ?_ q) (λ_ q=>q) λ_ _ q=>q;grind
noncomputable def K0(K:Ar)(a:AI):GQ:=⟨λi H=>∃D x,Bg K H a D/\D[i]?=AA x,λi H x F=>∃p y,x=.ref p/\H p=AD/\F=AW H p (.tup [.int (i:Int),y])/\∀D,Bg K H a D->D[i]?=AA y,λi H=>∃D,Bg K H a D/\D.length<=i⟩
theorem oN{K:Ar}(a e it:AI)(L:e≠it):K7 P w K (.Tuple A x1 Q) (K0 K a) [e,it] e (λi h=>(∃F,IsEnum h e it i F)/\h.IsListIter it a i)where
 adp:=by simp
 aaa:=λi h J b U=>by
  refine AB λD=>?_;obtain⟨⟨F,W⟩,o,e2,c,d⟩:=J;refine D ?_;try clear D
  grind
 ae:=λi h h' J k=>by
  refine AB λD=>?_;obtain⟨⟨F,W⟩,J⟩:=J;refine D ?_;try clear D
  exact⟨(by grind),J.at (by grind)⟩
 aal:=by
  intro X f hw T hc i O s σ H E I Y J j;subst f hw T;refine AB λD=>?_;obtain⟨xs,x,R,Z⟩:=j;obtain⟨r,t,p,hz⟩:=I.cu R;obtain⟨u,hu,ru⟩:=t.yl Z;obtain⟨⟨F,W⟩,V⟩:=J;obtain⟨f0,f1,f2,f3,f4,f5⟩:=Y e (by simp);obtain⟨g0,g1,g2,g3,g4,g5⟩:=Y it (by simp);refine D ?_;try clear D
  have S:e<s.heap.objs.size:=Br W;have ilt:it<s.heap.objs.size:=by obtain⟨o,q,_⟩:=id V;exact Br q
  refine wpAny_pyNext_enum_item W V p.isList (x:=u) (by simpa using hu) L λh' eo C ht hsz kk=>⟨_,rfl,wpAny_letOwnedTupleGo_enum eo λB he2 v=>?_⟩;have M:H s.heap.objs.size=AD:=I.bb.az (Af _);have pe:s.heap.objs.size≠e:=Se S;have N:∀b o,b∉[e,it]->s.heap.get? b=AA o->B.get? b=AA o:=λb o U q=>by have y:b≠e:=λz=>U (by simp[z]);have b2:b≠it:=λz=>U (by simp[z]);exact(v.2 b y).trans (kk b o y b2 q)
  have G:B.IsListIter it a (i+1):=by obtain⟨o,q,c,d⟩:=id C;exact⟨o,(v.2 it (λz=>L z.symm)).trans q,c,d⟩
  have m:=(v.2 _ pe).trans ht;have l:Cy X.ag X.w (AW H s.heap.objs.size (.tup [.int (i:Int),x])) B:=by refine(I.bb.aev [e,it] (λb U=>(Y b U).1) N).acu M ?_;exact⟨show 2<=An by decide,[.int i s.toks,u],.cons ⟨_,rfl⟩ (.cons ru .nil),⟨_,m,rfl,_,rfl⟩⟩
  have un:FL (C0 X.ba) [e,it] H (AW H s.heap.objs.size (.tup [.int (i:Int),x])) s.heap B:=by
   refine⟨(by grind),λb o q n U Z=>⟨o.slots,N b o Z q⟩,λb o q n Z=>?_,(by grind),λb ys q=>?_,λb o u q=>?_,λb ps q=>?_⟩;.rw[BC (Cv (Br q))];exact n
   .rw[BC (B6 q M)];exact q
   .rw[BC (B6 q M)];exact q
   .exact⟨#[],by rw[BC (B6 q M),Array.append_empty];exact q⟩
  have I2:=I.aay (s':={s with heap:=B,toks:=s.toks+1}) (ch:=[e,it]) rfl un l I.ir (by grind);refine⟨.ref s.heap.objs.size,_,I2,rfl,⟨_,x,rfl,M,rfl,λys hy=>by rw[I.zr hy R];exact Z⟩,⟨⟨u,?_⟩,G⟩,λb U=>?_⟩;.grind
  . have g:b≠s.heap.objs.size:=(by grind);rw[BC g];exact(Y b U).1
 aaj:=by
  intro X f hw T hc i O s σ H E I Y J j;subst f hw T;refine AB λD=>?_;obtain⟨xs,R,Z⟩:=j;obtain⟨r,t,p,hz⟩:=I.cu R;obtain⟨⟨F,W⟩,V⟩:=J;obtain⟨f0,f1,f2,f3,f4,f5⟩:=Y it (by simp);refine D ?_;try clear D
  have hl:=t.ak;exact wpAny_pyNext_enum_end (I.ok.hd hc) W V p.isList (by simp;(first|lia|omega)) λh' eb=>⟨rfl,I.dk (t':=s.toks) (λb o U e=>eb b o U e) f0 f1 f3 f4 f5⟩
 abu:=λ_ _ _ _ _ J h=>by
  refine AB λD=>?_;obtain⟨⟨F,W⟩,_⟩:=J;refine D ?_;try clear D
  exact AAd W h
noncomputable def iT(K:Ar)(F:A1):Ec:=λU H R=>F U H λx D=>∃a,x=.ref a/\(∃J,Bg K D a J)/\R (K0 K a) D
theorem KL{X:BR}{K:Ar}(L:Eo X "enumerate")(O:X.mg "enumerate"=AD)(N:Ae X l Z)(C:X.K=K:=by rfl)(W:Bz [l] X.af=[(AO,Bo l X.af)]:=by rfl):EZ X (.Tuple F d U) (.Call (.Name "enumerate" p) [l] [] V) (iT K Z):=by
  subst C;intro Y s f H R I h;refine Call_ (Ih I L O boot_enumerate (O9 ?_ W rfl));rw[W];refine Jm (A2 (N _ s f H _ I h) λv s1⟨x,A,D,r1,c⟩=>?_);refine Ld ?_;refine AB λJ=>?_;obtain⟨a,e,⟨k,P⟩,q⟩:=c;refine J ?_;try clear J
  subst e;refine AB λJ=>?_;cases r1;obtain⟨S,j,p,i⟩:=D.cu P;refine J ?_;try clear J
  refine call_enumerate_list p.isList λg G M Q T=>?_;have B:=D.de (t':=s1.toks) T;refine AAd G ?_;refine⟨_,[s1.heap.objs.size+1,s1.heap.objs.size],_,_,A,rfl,B,oN a _ _ (by grind),(by grind),λb E=>?_,q⟩;rcases B7.mp E with z|z;. subst z;exact D.abi (M6 _) (D.bb.az (M6 _))
  . have z:b=s1.heap.objs.size:=by grind
    subst z;exact D.abi (Af _) (D.bb.az (Af _))
theorem XA{X:BR}{D osc:Du}{y:AJ}(Y:List (AJ×Nat))(K:X.bx=AF)(hi:EZ X (.Tuple [.Name x N,.Name y O] M U) F wi)(T:X.af.scope=osc)(S:D.kind=.function)(V:∀y∈D.names,y.2≠.cell)(J:∀y∈D.names,y.2=.local->D.names.lookup y.1=AA .local)(W:∀y∈D.names,y.2=.free->osc.names.lookup y.1=AA .cell\/osc.names.lookup y.1=AA .free)(G:Gw X D Y)(L:D.names.lookup x=AA .local)(E:D.names.lookup y=AA .local)(A:(x::y::Y.map (·.1)).Nodup)(b:∀C s H q,GR (Ck X D (x::y::Y.map (·.1)) C s H q) B Q)(R:∀C s H q,Ae (Ck X D (x::y::Y.map (·.1)) C s H q) Z P)(a:∀x,JA F X.af x=BB x:=by intro _;rfl):Ae X (.ListComp Z [⟨.Tuple [.Name x N,.Name y O] M U,F,B,0⟩] D I) (Hw 2 (Y.map (·.2)) wi (MY X.K 2 (HM (Di 0) (HM (Di 1) MX))) Q P):=Rv (own:=[x,y]) K hi S V J (λy E e=>by show X.af.scope.names.lookup y.1=_\/X.af.scope.names.lookup y.1=_;rw[T];exact W y E e) G (λC s H q=>GX (show(Ck X D (x::y::Y.map (λp:AJ×Nat=>p.1)) C s H q).bx=AF from K) (DC (GW (i:=0) A rfl (.inl (D8 L)) (.inr (D8 L))) (DC (GW (i:=1) A rfl (.inl (D8 E)) (.inr (D8 E))) GY))) b R a
theorem MW{K:Ar}{a:AI}{xs:List AH}{g:EE}{G:Cd}{D:GP}{F:Aj}{H:AN}(J:Nat->Aj->AN->Prop)(I:J 0 F H)(P:∀i F H,i<=xs.length->J i F H->Bg K H a xs)(R:∀(i:Nat)x F H p,xs[i]?=AA x->J i F H->H p=AD->g (.ref p) F (AW H p (.tup [.int (i:Int),x])) λZ C=>G {D with nx:=J (i+1),ct:=J (i+1),bk:=D.nx} Z C)(M:∀F H,J xs.length F H->D.nx F H):∃W:Nat->Nat->Aj->AN->Prop,(∃m,W 0 m F H)/\∀i m F H,W i m F H->((K0 K a).aad i H/\D.nx F H)\/((K0 K a).go i H/\∃N:Aj->AN->Prop,(∀Y U,N Y U->∃E,E<m/\W (i+1) E Y U)/\∀x U,(K0 K a).aej i H x U->g x F U λZ C=>G {D with nx:=N,ct:=N,bk:=D.nx} Z C):=by
  refine⟨λi m F H=>m=xs.length-i/\i<=xs.length/\J i F H,⟨xs.length,by simp,Bd _,I⟩,?_⟩;intro i m F H L;refine AB λB=>?_;obtain⟨rfl,O,p⟩:=L;refine B ?_;try clear B
  have q:=P i F H O p;by_cases A:i<xs.length
  . refine .inr ⟨⟨xs,xs[i],q,by simp[A]⟩,J (i+1),λY U T=>⟨xs.length-(i+1),by(first|lia|omega),rfl,A,T⟩,λx U y=>?_⟩;refine AB λB=>?_;obtain⟨r,z,rfl,Q,rfl,S⟩:=y;refine B ?_;try clear B
    exact R i z F H r (S xs q) p Q
  . have e:i=xs.length:=by(first|lia|omega)
    subst e;exact .inl ⟨⟨xs,q,Af _⟩,M F H p⟩
theorem WG{K:Ar}{B:List Nat}{xs:List AH}(L:Nat->AH->Bool)(f:Nat->AH->AH)(u:xs.length<=An)(N:∀F,Ak H F->Bg K F a xs)(l:∀(i:Nat)x p G I F(R:Aj->AN->Prop),xs[i]?=AA x->Ak H F->F p=AA (.tup [.int (i:Int),x])->R (AA (.int (i:Int))::AA x::B.map (Dm C)) F->g (.ref p) (G::I::B.map (Dm C)) F R)(P:∀(i:Nat)x F(R:Bool->AN->Prop),xs[i]?=AA x->Ak H F->(∀A,Ak F A->R (L i x) A)->b (AA (.int (i:Int))::AA x::B.map (Dm C)) F R)(O:∀(i:Nat)x F(R:BU),xs[i]?=AA x->L i x=AF->Ak H F->(∀A,Ak F A->R (f i x) A)->T (AA (.int (i:Int))::AA x::B.map (Dm C)) F R)(k:∀F,Ak H F->∀D,F D=AD->Q (.ref D) (AW F D (.lst (((Jf (DY xs.length) xs).filter λq=>L q.1 q.2).map λq=>f q.1 q.2)))):IZ 2 B g b T C Q (K0 K a) H:=by
  refine⟨λi m c Y M=>m=xs.length-i/\i<=xs.length/\Ak H M/\(∃G I,c=G::I::B.map (Dm C))/\Y=((((Jf (DY xs.length) xs).take i).filter λq=>L q.1 q.2).map λq=>f q.1 q.2),⟨xs.length,by simp,Bd _,CS H,⟨AD,AD,rfl⟩,rfl⟩,?_⟩;intro i m c Y M j;refine AB λE=>?_;obtain⟨rfl,t,s1,⟨G,I,rfl⟩,J⟩:=j;refine E ?_;try clear E
  have S:(Jf (DY xs.length) xs).length=xs.length:=by simp
  by_cases W:i<xs.length
  . have U:xs[i]?=AA xs[i]:=B8 W;have X:(Jf (DY xs.length) xs).take (i+1)=(Jf (DY xs.length) xs).take i++[(i,xs[i])]:=by
      rw[DD];have:(Jf (DY xs.length) xs)[i]?=AA (i,xs[i]):=by rw[Mw];exact⟨by simp[W],U⟩
      rw[this];rfl
    refine .inr ⟨⟨xs,xs[i],N _ s1,U⟩,?_,λx F y=>?_⟩
    . have:Y.length<=i:=by rw[J,Am];refine DE (Gd _ _) ?_;rw[Eh];exact Nat.min_le_left _ _
      (first|lia|omega)
    . refine AB λE=>?_;obtain⟨p,z,rfl,n,rfl,r⟩:=y;refine E ?_;try clear E
      have d:z=xs[i]:=De ((r xs (N _ s1)).symm.trans U);subst d;have s2:=s1.cb (o:=.tup [.int (i:Int),xs[i]]) n;refine l i xs[i] p G I _ _ U s2 Az ?_;refine P i xs[i] _ _ U s2 λA s3=>?_;cases Z:L i xs[i]with |true=> rw[ABo rfl];refine O i xs[i] _ _ U Z (s2.aa s3) λs s4=>⟨xs.length-(i+1),by(first|lia|omega),rfl,W,(s2.aa s3).aa s4,⟨_,_,rfl⟩,?_⟩;rw[X,Mu,Bx,<-J];simp[Z]|false=>rw[ABn C6];refine⟨xs.length-(i+1),by(first|lia|omega),rfl,W,s2.aa s3,⟨_,_,rfl⟩,?_⟩;rw[X,Mu,Bx,<-J];simp[Z]
  . have e:i=xs.length:=by(first|lia|omega)
    subst e;rw[Cn (by rw[S];exact Af _)]at J;exact .inl ⟨⟨xs,N _ s1,Af _⟩,λD h=>by rw[J];exact k M s1 D h⟩
noncomputable abbrev V1:=Aj->AN->BU->E2->Prop
noncomputable def Vy(X:BR)(e:BD)(t:V1):Prop:=∀(D:List (AI×A8))(s:AU)(F:Aj)(H:AN)(Q:BU)(E:E2),AY X D F H s->t F H Q E->Aa (Ab X.ag X.w) X.A (Bo e X.af) (ED X D F Q) (λU V=>∃J s1,AY X D F J s1/\Fg X.ag X.w X.ba J s1 E U V) s
noncomputable def oI(sp:Ba)(t:Eb):V1:=λJ H Q E=>t J H λF D=>sp F D Q E
theorem lD{X:BR}{K:List AJ}{x:AJ}(F:BW X.ag X.w X.K X.mg X.ao (Fg X.ag X.w) k f N K sp)(d:Dc k X.A)(T:Eo X x)(c:X.mg x=AA (.ref f))(a:Lg X.K (.ref f)=AF)(R:Bf X.K N K [])(P:Ep X.afu (e::V) t)(W:(x==("__debug__":AJ))=AO:=by decide)(S:Bz (e::V) X.af=(AO,Bo e X.af)::Bz V X.af:=by rfl)(Y:(EV Z (Bz V X.af)).any (·.1)=AO:=by rfl):Vy X (.Call (.Name x p) (e::V) [] Z) (oI sp t):=by
 intro G s m H Q E I h;refine Lm (Mc I T c ?_ W);refine YT I.ok.vn.aeq a (EK (P _ _ s m H _ (I.vt _) h) (λA s1⟨l,B,D,r,q⟩=>⟨D.qu,?_⟩) λ_ _ z=>Ek z) S Y;have U:=D.ka;have b:A.length=K.length:=by rw[<-r.ak];exact F.bj _ _ _ _ q
 refine TF (Jr (F.agf _ _ s1 B _ A l Q _ d U.aeo (by have:=R s1 A U.qu (by simpa using b);simpa using this) r q) λi o J=>?_);cases i with
 |ok O=>cases O with
  |ret u=>
   refine AB λC=>?_;obtain⟨v,L,M,j,g⟩:=U.aca J;refine C ?_;try clear C
   exact⟨v,L,M,j,g⟩|next=>exact Ek J|brk=>exact Ek J|cont=>exact Ek J
 |error n=>exact⟨B,s1,U,J⟩
theorem W8{X:BR}:JS (Fg X.ag X.w) X Q5:=by
 intro F W H s U V I J;refine AB λD=>?_;obtain⟨_,_,_,_,_,_,_,_,_,_,_,_,_,_,h⟩:=J;refine D ?_;try clear D
 exact h.elim
structure gH(K:Ar)(C:AI)(bm:List AK):Prop where aaa:∃(nm q:AJ)(NS:AI)(bs:List AK)(hdct:Bool)(sn:List AJ)(sub:List AK)(ab:Bool)(col:Option Bool)(dd:Option AI)(k0 k1 k2 k3 k5:Option AK),K.lookup C=AA (excClassObj nm q C NS bs bm hdct sn sub ab col dd k0 k1 k2 k3 k5 "ValueError.__new__")/\∀h:A3,K.In h->(∃mN,h.Ns NS mN/\mN "__init__"=AD)/\OwnTail h [.type "ValueError",.type "Exception",.type "BaseException",.type "object"] bm
theorem iI{K:Ar}(q:ND K C [.type "ValueError",.type "Exception",.type "BaseException",.type "object"] "ValueError.__new__"=AF):∃bm,gH K C bm:=by
  unfold ND at q;split at q
  . rename_i dd cd sl ho;split at q
    . rename_i C2 bm k0 k1 k2 k3 nn k5 hm hs;simp at q;refine AB λnG=>?_;obtain⟨⟨⟨⟨⟨e1,e2⟩,e3⟩,e4⟩,e5⟩,e6⟩:=q;refine nG ?_;try clear nG
      have hsl:sl=#[k0,k1,k2,k3,AA (.builtin nn),k5]:=by rw[<-u9 (xs:=sl),hs]
      cases cd with|mk a1 a2 a3 a4 a5 a6 a7 a8 a9 a10 a11=>subst hsl e1 e2 e3 hm;exact⟨bm,⟨a1,a5,a4,a2,a6,a7,a8,a9,a10,dd,k0,k1,k2,k3,k5,ho,λh X=>⟨⟨_,.of_isNs (W.isNs_of_in X e5),W.nsMap_none_of_in X e5 e6⟩,W.tail_of_in X e4⟩⟩⟩
    .cases q
  .cases q
theorem lL{K:Ar}{qual:AJ}{s₀:AU}{x:AJ}(hx:ND K C [.type "ValueError",.type "Exception",.type "BaseException",.type "object"] "ValueError.__new__"=AF)(hm:Ae (EG (Fg P w) P w K mg base N qual scope f cd A outer s₀ H₀ E') (.Name x np) (KO (.ref C)))(he:Ae (EG (Fg P w) P w K mg base N qual scope f cd A outer s₀ H₀ E') e te)(hts:EV cpos (Bz [e] (FU qual scope s₀.heap.objs.size f cd))=[(AO,Bo e (FU qual scope s₀.heap.objs.size f cd))]:=by rfl):DW (EG (Fg P w) P w K mg base N qual scope f cd A outer s₀ H₀ E') (.Raise (AA (.Call (.Name x np) [e] [] cpos)) AD pos) (λD σ H=>te σ H λv H1=>E' (.ref C) AD H1):=by
 obtain⟨bm,EC⟩:=iI hx;intro pins s σ H D I h;refine AB λnG=>?_;obtain⟨nm,q,NS,bs,hdct,sn,sub,ab,col,dd,k0,k1,k2,k3,k5,lk,more⟩:=EC.aaa;obtain⟨⟨mN,hN0,hni⟩,tl0⟩:=more _ I.ok.vn.aeq;refine nG ?_;try clear nG
 have hb:bm.contains (.type "BaseException")=AF:=tl0.hasType rfl;have ev:=λQ hq=>hm _ s σ H Q I hq;have hd:=I.ok.hd rfl;refine wpAny_Raise_call_subU (C:=C) (nm:=nm) (q:=q) (N:=NS) (bs:=bs) (hdct:=hdct) (sn:=sn) (sub:=sub) (ab:=ab) (col:=col) (dd:=dd) (k0:=k0) (k1:=k1) (k2:=k2) (k3:=k3) (k5:=k5) yN (by decide) yN hb hd (by show((EV _ (Bz _ (FU _ _ _ f cd))).any _)=AO;rw[hts];rfl) hni ?_;refine A2 (ev (λv H1=>v=.ref C/\H1=H) ⟨rfl,rfl⟩) λu s1⟨v,H1,I1,r1,e1,e2⟩=>?_;subst e1 e2;refine⟨r1,?_⟩;show Aa _ _ (evalArgs _ _ (EV _ (Bz _ (FU _ _ _ f cd))) []) _ _ s1;rw[hts];refine YH (Jm (A2 (he _ s1 σ _ _ I1 h) λu2 s2⟨y,H2,I2,ry,q2⟩=>Ld ?_));exact⟨rfl,by show 1<=An;decide,I2.qu C _ lk,hN0.keeps I2.bk,tl0.keeps I2.bk,λh' e' hx=>jP I2 hx q2⟩
theorem oK(l:AI)(items:Array AK)(n:Nat)(dd:Option AI)(N:Array (Option AK))(x:AK)(e:AK->Bool)(G:∀y,y∈items->MeetsSeq.EqGives y x (e y))(j:Nat)(Q:j<items.size)(W:e items[j]=AF)(Y:∀m(S:m<items.size),m<j->e items[m]=AO):Meets (Builtin.«tuple.index» ⟨[.ref l,x],[]⟩) (λ_ R s=>s.heap.get? l=AA {cls:=.type "tuple",dict:=dd,data:=.seq items n,slots:=N}/\R (.ok (.ret (.int j s.toks))) {s with toks:=s.toks+1}):=.of_wp λD w A R s h=>by
    refine AB λU=>?_;obtain⟨K,g,d,O,M⟩:=s;obtain⟨I,h⟩:=h;refine U ?_;try clear U
    wp_walk using wpAny_loadPart' I;change Aa (Ab D w) A.in1 (GI [:Dd items.size items.size] ((AD,()):Option Fin×Unit) _) _ _ _;rw[ABl];simp only[ABm,w6,Nat.add_sub_cancel,Nat.div_one,Nat.min_self];refine AAZ _ (λF b q=>∃k,F=List.range' k (items.size-k) 1/\k<=j/\b.1=AD/\q=(⟨K,g,d,O,M⟩:AU)) _ ?_ ?_ _ _ ⟨0,rfl,Bd _,rfl,rfl⟩
    . intro i F b q E;refine AB λU=>?_;obtain⟨k,Z,H,P,rfl⟩:=E;refine U ?_;try clear U
      have J:k<items.size:=(by grind);rw[show items.size-k=(items.size-(k+1))+1 by(first|lia|omega),List.range'_succ]at Z;injection Z with B C;subst B C;have L:items[i]?=AA items[i]:=(by grind);simp only[L];refine AX (G _ (Array.getElem_mem J) D w _ _ _ _ ?_);by_cases V:i=j
      . subst V;rw[W];wp_walk;exact⟨_,rfl,h⟩
      . rw[Y i J (by(first|lia|omega))];wp_walk;grind
    grind
theorem XZ{ys:List AJ}{D:List AK}(r:BO (ys.map AH.str) D){i:Nat}{z:AJ}(h:ys[i]?=AA z):∃t,D[i]?=AA (.str z t):=by
 refine AB λF=>?_;obtain⟨u,J,t,rfl⟩:=r.yl (i:=i) (x:=.str z) (by grind);refine F ?_;try clear F
 grind
noncomputable def XX(z:AJ):AK->Bool|.str y _=>y==z|_=>AO
theorem j9{X:BR}{K:Ar}(P:X.K=K:=by rfl):OE X "tuple.index" (λx xs H Q=>∃(p:AI)(ys:List AJ)(z:AJ)(j:Nat),x=.ref p/\xs=[.str z]/\Bw K H p (ys.map AH.str)/\ys[j]?=AA z/\(∀m,m<j->ys[m]?≠AA z)/\Q (.int (j:Int)) H):=by
 subst P;intro M s σ H x xs v w Q I l k h;refine AB λL=>?_;obtain⟨p,ys,z,j,rfl,rfl,e,T,d,q⟩:=h;cases l;obtain⟨u,rfl,t,rfl⟩:=F6 k;obtain⟨D,E,f,r⟩:=I.bh e;obtain⟨⟨c,N,O,o⟩,G,Z,n,A⟩:=f;refine L ?_;try clear L
 have Z:c=.type "tuple":=Z;have A:O=.seq D.toArray n:=A;subst Z A;have a:=E.ak;rw[Am]at a;have B:j<ys.length:=(by grind);have R:∀y,y∈D.toArray->MeetsSeq.EqGives y (.str z t) (XX z y):=λy g=>by obtain⟨i,S,rfl⟩:=F8.mp (by simpa using g);obtain⟨Y,J⟩:=XZ E (B8 (by(first|lia|omega):i<ys.length));rw[B8 S]at J;rw[De J];exact xJ _ _ _ _
 have U:∀m(W:m<D.toArray.size),∃Y,D.toArray[m]=.str (ys[m]'(by simp at W;(first|lia|omega))) Y:=λm W=>by
  have C:m<ys.length:=by simp at W;(first|lia|omega)
  obtain⟨Y,J⟩:=XZ E (B8 C);grind
 refine Yc yR ⟨_,G,rfl⟩ F.entry_tuple_index (by rfl) (oK p D.toArray n N o (.str z t) (XX z) R j (by simp;(first|lia|omega)) ?_ ?_) ⟨G,⟨.int (j:Int),H,I.uh _,⟨_,rfl⟩,q⟩⟩
 . obtain⟨Y,J⟩:=U j (by simp;(first|lia|omega));rw[J];rw[B8 B]at T;show(ys[j]==z)=AF;grind
 . intro m W b;obtain⟨Y,J⟩:=U m W;rw[J];show(ys[m]==z)=AO;grind
theorem iY{c A B:Prop}[Decidable c](D:c)(h:A):if AZ c=AF then A else B:=by rw[ABq D];exact HN h
structure gI(K:Ar)(C:AI):Prop where
 ga:EU K (.ref C) "__getattribute__"=AA (AA (.builtin "BaseException.__getattribute__"))gt:EU K (.ref C) "__getattr__"=AA AD
 ck:EU K (.ref C) "__class__"=AA (AA (.builtin "object.__class__"))sb:YY K (.ref C) (.type "BaseException")=AA AF
 so:YY K (.ref C) (.type "object")=AA AF
 cl:(zR K C).isSome=AF
theorem Ak.dw(e:Ak H D)(h:H b=AD):Ak H (AW D b o):=λc u q=>by rw[BC (B6 q h)];exact e c u q
theorem XY{a b:AJ}(h:a.cps.toList=b.cps.toList):a=b:=by cases a;simp_all
theorem Mh:∀{D:List α}{J:List U},Bm F D J->∀{i:Nat}{a:α}{b:U},D[i]?=AA a->J[i]?=AA b->F a b|_,_,.nil,i,a,b,h,_=>by grind|_,_,.cons h _,0,a,b,V,W=>by grind|_,_,.cons _ r,i+1,a,b,V,W=>Mh r (i:=i) (by grind) (by grind)
theorem Wi(h:FO k v=AF):BN (Al k) v:=by
 rcases G0 h with⟨i,t,rfl,rfl⟩|⟨x,t,rfl,rfl⟩;.exact⟨t,rfl⟩
 .exact⟨t,rfl⟩
theorem Wj{kvs:List (AR×AH)}{vs:List (AR×AK)}{D:List AK}(F:Dj kvs vs)(Z:D.length=vs.length)(h:∀(j:Nat)(v:AK),D[j]?=AA v->∃(k:AR)(x:AK),vs[j]?=AA (k,x)/\FO k v=AF):BO (kvs.map λp=>Al p.1) D:=by
  refine JZ ?_ ?_;.rw[Am,Z];exact Jo F
  . intro i a b J W;refine AB λU=>?_;obtain⟨k,x,B,Y⟩:=h i b W;rw[BV]at J;obtain⟨p,A,rfl⟩:=Co.mp J;refine U ?_;try clear U
    have q:=Mh F A B;rw[q.1];exact Wi Y
theorem V8{X:BR}{K:Ar}(hc:X.bx=AF):EB X (.type "list") (λxs H Q=>∃(a:AI)(kvs:List (AR×AH)),xs=[.ref a]/\H a=AA (.dK kvs)/\∀l,H l=AD->Q (.ref l) (AW H l (.lst (kvs.map λp=>Al p.1)))):=by
 intro pins s σ H xs us Q I r h;refine AB λnG=>?_;obtain⟨a,kvs,rfl,e,q⟩:=h;obtain⟨u,rfl,rx⟩:=F6 r;cases rx;obtain⟨z,lo,vs,rel,dd⟩:=MS I.bb e;obtain⟨ep,hat⟩:=dd.dictAt;refine nG ?_;try clear nG
 have hlen:kvs.length=vs.length:=Jo rel;refine W.kdl_call (AAA (knd:=DB X.ag X.w) (kvs:=vs) (ep:=ep) lo) (I.ok.hd hc) hat (by(first|lia|omega)) λh' tk acc c' kp e' it=>?_;refine⟨.ref s.heap.objs.size,_,I.ie (t':=tk) kp (Af _) (show C7 X.ag X.w _ h' _ (.lst (kvs.map λp=>Al p.1))from⟨by rw[Am];exact z,acc.toList,c',?_,by simpa using e'⟩),rfl,q _ (I.bb.az (Af _))⟩;exact Wj rel (by rw[JE];exact it.1) λj v hv=>it.2 j v (by rw[<-Ju];exact hv)
theorem lP{X:BR}{y:AJ}{D osc:Du}{W:Ce}(E:List (AJ×Nat))(d:X.N.Nodup)(N:X.N[i]?=AA y)(P:Ht X.af.scope y)(S:X.bx=AF)(hi:EZ X (.Tuple [.Name x R,.Name V B] Q J) F wi)(j:X.af.scope=osc)(h:D.kind=.function)(Z:∀y∈D.names,y.2≠.cell)(U:∀y∈D.names,y.2=.local->D.names.lookup y.1=AA .local)(q:∀y∈D.names,y.2=.free->osc.names.lookup y.1=AA .cell\/osc.names.lookup y.1=AA .free)(M:Gw X D E)(T:D.names.lookup x=AA .local)(K:D.names.lookup V=AA .local)(I:(x::V::E.map (·.1)).Nodup)(l:∀C s H G,GR (Ck X D (x::V::E.map (·.1)) C s H G) A c)(f:∀C s H G,Ae (Ck X D (x::V::E.map (·.1)) C s H G) Y b)(O:JB (.ListComp Y [⟨.Tuple [.Name x R,.Name V B] Q J,F,A,0⟩] D L) (AA (.Name y a)) W.line X.af=BB AF:=by rfl)(g:X.fn y=AF\/X.af.scope.names.lookup y=AA .local:=by first|exact .inl rfl|exact .inr rfl|assumption)(k:∀x,JA F X.af x=BB x:=by intro _;rfl):DW X (.Assign [.Name y a] (.ListComp Y [⟨.Tuple [.Name x R,.Name V B] Q J,F,A,0⟩] D L) W) (LV (Hw 2 (E.map (·.2)) wi (MY X.K 2 (HM (Di 0) (HM (Di 1) MX))) c b) (Di i)):=Rz (own:=[x,V]) d N P g S hi h Z U (λy m e=>by show X.af.scope.names.lookup y.1=_\/X.af.scope.names.lookup y.1=_;rw[j];exact q y m e) M (λC s H G=>GX (show(Ck X D (x::V::E.map (λp:AJ×Nat=>p.1)) C s H G).bx=AF from S) (DC (GW (i:=0) I rfl (.inl (D8 T)) (.inr (D8 T))) (DC (GW (i:=1) I rfl (.inl (D8 K)) (.inr (D8 K))) GY))) l f O k
theorem Xo(r:BN x u):∀{xs:List AH}{us:List AK},BO xs us->∀j,BO (xs.set j x) (us.set j u)|_,_,.nil,_=>.nil|_,_,.cons a b,0=>.cons r b|_,_,.cons a b,j+1=>.cons a (Xo r b j)
theorem Fo{a b:Int}{A B:Prop}(D:a=b->A)(F:¬a=b->B):if AZ (AH.int a=AH.int b)=AF then A else B:=Er (λe=>D (AH.int.inj (ABs e))) λe=>F λz=>ABv e (ABp AH.int z)
theorem LB{A B:Prop}(D:a=b->A)(F:¬a=b->B):if AZ (AH.str a=AH.str b)=AF then A else B:=Er (λe=>D (AH.str.inj (ABs e))) λe=>F λz=>ABv e (ABp AH.str z)
theorem F3{c:Prop}[Decidable c]{A B:Prop}(D:c->A)(F:¬c->B):if AZ c=AF then A else B:=(by grind)
theorem Wa{c:Bool}{A B:Prop}(h:if c=AF then B else A):if(!c)=AF then A else B:=by
 cases c;.exact h
 .exact h
noncomputable def Xe(t:Cd):Cd:=λD U H=>∃N:Aj->AN->Prop,t {D with nx:=N} U H/\∀F J,N F J->D.nx F J
theorem GZ{st:BM}(h:DW X st t):DW X st (Xe t):=λF s W H D I⟨N,q,k⟩=>by refine A2 (h F s W H {D with nx:=N} I q) λf Y z=>?_;cases f with|next=>obtain⟨J,U,V,n⟩:=z;exact⟨J,U,V,k _ _ n⟩|brk=>exact z|cont=>exact z|ret u=>exact z
theorem GS{D:GP}(N:Aj->AN->Prop)(h:t {D with nx:=N} U H)(k:∀F J,N F J->D.nx F J):Xe t D U H:=⟨N,h,k⟩
theorem Cz(h:H a=AD):Ak H (AW H a o):=(CS H).cb h
structure E9(prog:CZ)(w:Bn)(A:Cj)(s:AU)(κ:O8)(O:Sk)(kf:AK->O.α)(a₀:Array A4):Prop where ahi:∀p∈a₀.toList,∀q∈a₀.toList,∀(Q:Bool->AU->Prop)(E:AK->AU->Prop),Q (O.blt (kf p.1) (kf q.1)) s->Aa (Ab prog w) A (keyLt' κ p.1 q.1) Q E s
structure CV(κ:O8)(a₀:Array A4)(st:CU):Prop where
 nq:(Ai st).Perm a₀
 fo:YA st=κ
 qa:M7 st=AD
noncomputable def BE{O:Sk}(kf:AK->O.α)(xs:Array A4)(i:Nat):O.α:=kf ((xs[i]?.map (·.1)).getD .none)
noncomputable def DF{O:Sk}(kf:AK->O.α)(xs:Array A4)(lo hi:Nat):Prop:=∀i j,lo<=i->i<=j->j<hi->O.kle (BE kf xs i) (BE kf xs j)
theorem FA{O:Sk}{kf:AK->O.α}{xs ys:Array A4}{i j:Nat}(h:xs[i]?=ys[j]?):BE kf xs i=BE kf ys j:=by unfold BE;rw[h]
theorem CV.wu{D:Array A4}{st:CU}(B:CV F D st):(Ai st).size=D.size:=B.nq.size_eq
theorem CV.acr{st:CU}(B:CV F D st){xs:Array A4}(h:xs.Perm (Ai st)):CV F D (M8 st xs):=⟨h.trans B.nq,B.fo,B.qa⟩
theorem CV.at{J:O8}{O:Sk}{kf:AK->O.α}{D:Array A4}{st:CU}(B:CV J D st){i:Nat}(hi:i<D.size):∃p,(Ai st)[i]?=AA p/\p∈D.toList/\BE kf (Ai st) i=kf p.1:=by
 have F:i<(Ai st).size:=by rw[B.wu];exact hi
 refine⟨(Ai st)[i],(by grind),(Pm.mp B.nq).mem_iff.mp (by simp),?_⟩;unfold BE;grind
theorem NQ{prog:CZ}{w:Bn}{A:Cj}{E:AK->AU->Prop}{s:AU}{U:O8}{O:Sk}{kf:AK->O.α}{D:Array A4}{st:CU}(C:E9 prog w A s U O kf D)(B:CV U D st){p q:A4}(F:p∈D.toList)(J:q∈D.toList){Q:Option Bool->CU->Prop}(h:Q (AA (O.blt (kf p.1) (kf q.1))) st):Dq (Ab prog w) A E s (lt' p q) Q st:=by rw[lt'_eq];refine A5 (Jl ?_);rw[B.fo];exact A5 (M9 (TC (C.ahi p F q J _ _ ⟨rfl,BG h⟩)))
theorem NR{prog:CZ}{w:Bn}{A:Cj}{E:AK->AU->Prop}{s:AU}{H:O8}{O:Sk}{kf:AK->O.α}{D:Array A4}{st:CU}(C:E9 prog w A s H O kf D)(B:CV H D st){i j:Nat}(hi:i<D.size)(V:j<D.size){Q:Option Bool->CU->Prop}(h:Q (AA (O.blt (BE kf (Ai st) i) (BE kf (Ai st) j))) st):Dq (Ab prog w) A E s (Jk i j) Q st:=by
 refine AB λF=>?_;obtain⟨p,J,Z,W⟩:=B.at hi;obtain⟨q,U,G,Y⟩:=B.at V;refine F ?_;try clear F
 rw[W,Y]at h;show Dq _ _ _ _ (Sm _ i>>=λx=>Sm _ j>>=λy=>lt' x y) Q st;rw[qG,qG,J,U];exact A5 (BG (A5 (BG (NQ C B Z G h))))
theorem TL{O:Sk}{kf:AK->O.α}{xs:Array A4}{i j:Nat}(D:j<=xs.size)(k:Nat):BE kf (Sn xs i j ((j-i)/2)) k=if i<=k/\k<j then BE kf xs (i+j-1-k)else BE kf xs k:=by
 have e:=xM (i:=i) D k;by_cases h:i<=k/\k<j;.rw[ABo h]at e⊢;exact FA e
 .rw[ABn h]at e⊢;exact FA e
theorem Yv{O:Sk}{kf:AK->O.α}{xs:Array A4}{D d:Nat}(V:D<xs.size)(U:d<=D)(k:Nat):BE kf (bubble xs D d) k=if k=D-d then BE kf xs D else if D-d<k/\k<=D then BE kf xs (k-1)else BE kf xs k:=by
  have e:=xK V d U k;by_cases F:k=D-d;.rw[ABo F]at e⊢;exact FA e
  . rw[ABn F]at e⊢;by_cases J:D-d<k/\k<=D;.rw[ABo J]at e⊢;exact FA e
    .rw[ABn J]at e⊢;exact FA e
section
variable{st:CU}
structure Gi(lo:Nat)(st st':CU):Prop where
 aaq:BZ st'=BZ st
 age:∀k,k<lo->(Ai st')[k]?=(Ai st)[k]?
end
theorem Pa(lo:Nat)(st:CU):Gi lo st st:=⟨rfl,λ_ _=>rfl⟩
theorem Gi.aa{lo:Nat}(x:Gi lo a b)(y:Gi lo b c):Gi lo a c:=⟨y.aaq.trans x.aaq,λk h=>(y.age k h).trans (x.age k h)⟩
theorem tS{J:Array A4}{st:CU}(C:E9 prog w A s M O kf J){lo:Nat}(p:lo+n<=J.size)(b:L<=n)(B:CV M J st)(d:DF kf (Ai st) lo (lo+L))(h:∀D,CV M J D->Gi lo st D->DF kf (Ai D) lo (lo+n)->Q AF D):Dq (Ab prog w) A E s (binarySort' lo n L) Q st:=by
  rw[binarySort'_eq];refine A5 (Ge (GA (I:=λk c D=>c=(AD,())/\CV M J D/\Gi lo st D/\DF kf (Ai D) lo (lo+Dd k n)) (Q:=λc D=>c=(AD,())/\CV M J D/\Gi lo st D/\DF kf (Ai D) lo (lo+n)) ?step ?fin ?agk) ?post);case post=>
    intro c D V;refine AB λU=>?_;obtain⟨rfl,Y,N,u⟩:=V;refine U ?_;try clear U
    exact BG (h D Y N u)
  case agk=>
    refine⟨rfl,B,Pa _ _,λi j H K S=>?_⟩;by_cases z:L=0
    . obtain rfl:i=j:=by(first|lia|omega)
      exact Lb _
    .exact d i j H K (by(first|lia|omega))
  case fin=>grind
  case step=>
    intro k c D X a V;refine AB λU=>?_;obtain⟨rfl,Y,N,u⟩:=V;refine U ?_;try clear U
    rw[show Dd k n=k by(first|lia|omega)]at u;refine A5 (Ge (GA (I:=λx c F=>F=D/\∃l r,c=(AD,l,r)/\l<=r/\r<=k/\r-l<=k-x/\(∀i,i<l->O.kle (BE kf (Ai D) (lo+i)) (BE kf (Ai D) (lo+k)))/\(∀i,r<=i->i<k->O.klt (BE kf (Ai D) (lo+k)) (BE kf (Ai D) (lo+i)))) (Q:=λc F=>F=D/\∃l r,c=(AD,l,r)/\l<=k/\(∀i,i<l->O.kle (BE kf (Ai D) (lo+i)) (BE kf (Ai D) (lo+k)))/\(∀i,l<=i->i<k->O.klt (BE kf (Ai D) (lo+k)) (BE kf (Ai D) (lo+i)))) ?i1 ?i2 ?i3) ?i4);case i3=>grind
    case i2=>
      intro c F V;refine AB λU=>?_;obtain⟨rfl,l,r,rfl,H,K,S,Z,q⟩:=V;refine U ?_;try clear U
      grind
    case i1=>
      intro x c F _ t V;refine AB λU=>?_;obtain⟨rfl,l,r,rfl,H,K,S,Z,q⟩:=V;refine U ?_;try clear U
      dsimp only;by_cases g:l>=r
      . rw[ABo g];obtain rfl:l=r:=by(first|lia|omega)
        exact BG ⟨rfl,l,l,rfl,K,Z,q⟩
      . rw[ABn g];refine A5 (NR C Y (by(first|lia|omega)) (by(first|lia|omega)) ?_);cases e:O.blt (BE kf (Ai F) (lo+k)) (BE kf (Ai F) (lo+(l+r)/2))with |true=> refine BG ⟨rfl,l,(l+r)/2,rfl,by(first|lia|omega),by(first|lia|omega),by(first|lia|omega),Z,λi T f=>?_⟩;exact KeyOrd.klt_of_klt_of_kle e (u _ _ (by(first|lia|omega)) (by(first|lia|omega)) (by(first|lia|omega)))|false=> refine BG ⟨rfl,(l+r)/2+1,r,rfl,by(first|lia|omega),by(first|lia|omega),by(first|lia|omega),λi T=>?_,q⟩;exact Ft (u (lo+i) (lo+(l+r)/2) (by(first|lia|omega)) (by(first|lia|omega)) (by(first|lia|omega))) (show O.kle _ _ from e)
    case i4=>
      intro c F V;refine AB λU=>?_;obtain⟨rfl,l,r,rfl,H,Z,q⟩:=V;refine U ?_;try clear U
      show Dq _ _ _ _ (moveDown' (lo+k) (lo+l)>>=λ_=>BB (Po (AD,()))) _ _;rw[moveDown'_eq];have W:lo+k<(Ai F).size:=by rw[Y.wu];(first|lia|omega)
      have P:lo+k-(lo+l)<=lo+k:=by(first|lia|omega)
      refine A5 (HY (BG ⟨rfl,Y.acr (bubble_perm _ _ _),N.aa ⟨rfl,λz v=>?_⟩,?_⟩));.rw[xK W _ P,ABn (by(first|lia|omega)),ABn (by(first|lia|omega))]
      . rw[show Dd (k+1) n=k+1 by(first|lia|omega)];intro i j T f y;rw[Yv W P,Yv W P];have G:=λz m o=>by have:=Z (z-lo) (by(first|lia|omega));rwa[show lo+(z-lo)=z by(first|lia|omega)]at this
        have R:∀z,lo+l<=z->z<lo+k->O.klt (BE kf (Ai F) (lo+k)) (BE kf (Ai F) z):=λz m o=>by have:=q (z-lo) (by(first|lia|omega)) (by(first|lia|omega));rwa[show lo+(z-lo)=z by(first|lia|omega)]at this
        repeat' split
        all_goals first |(exfalso;(first|lia|omega))|exact Lb _|exact G _ (by(first|lia|omega)) (by(first|lia|omega))|exact Ip (R _ (by(first|lia|omega)) (by(first|lia|omega)))|exact u _ _ (by(first|lia|omega)) (by(first|lia|omega)) (by(first|lia|omega))
theorem DF.adj{O:Sk}{kf:AK->O.α}{xs:Array A4}{lo n:Nat}(u:DF kf xs lo (lo+n))(U:1<=n)(h:O.kle (BE kf xs (lo+n-1)) (BE kf xs (lo+n))):DF kf xs lo (lo+(n+1)):=λi j D F V=>by
  by_cases z:j=lo+n
  . subst z;by_cases J:i=lo+n;.subst J;exact Lb _
    .exact Ft (u i _ D (by(first|lia|omega)) (by(first|lia|omega))) h
  .exact u i j D F (by(first|lia|omega))
noncomputable def Lo{O:Sk}(kf:AK->O.α)(xs:Array A4)(lo hi:Nat):Prop:=∀i j,lo<=i->i<=j->j<hi->O.kle (BE kf xs j) (BE kf xs i)
theorem Lo.adj{O:Sk}{kf:AK->O.α}{xs:Array A4}{lo n:Nat}(u:Lo kf xs lo (lo+n))(U:1<=n)(h:O.kle (BE kf xs (lo+n)) (BE kf xs (lo+n-1))):Lo kf xs lo (lo+(n+1)):=λi j D F V=>by
  by_cases z:j=lo+n
  . subst z;by_cases J:i=lo+n;.subst J;exact Lb _
    .exact Ft h (u i _ D (by(first|lia|omega)) (by(first|lia|omega)))
  .exact u i j D F (by(first|lia|omega))
theorem Pc{D:Array A4}{st:CU}(B:CV J D st){lo:Nat}(hi:lo<=i)(F:j<=D.size):CV J D (M8 st (Sn (Ai st) i j ((j-i)/2)))/\Gi lo st (M8 st (Sn (Ai st) i j ((j-i)/2))):=by refine⟨B.acr (mirror_perm _ _ _ _),rfl,λk U=>?_⟩;rw[xM (by rw[B.wu];exact F),ABn (by(first|lia|omega))]
theorem Pd{J:O8}{O:Sk}{kf:AK->O.α}{D:Array A4}{st:CU}(B:CV J D st){i j:Nat}(F:j<=D.size)(h:∀k,i<=k->k<j->BE kf (Ai st) k=BE kf (Ai st) (j-1))(k:Nat):BE kf (Sn (Ai st) i j ((j-i)/2)) k=BE kf (Ai st) k:=by rw[TL (by rw[B.wu];exact F)];grind
theorem Y1{prog:CZ}{w:Bn}{A:Cj}{E:AK->AU->Prop}{s:AU}{L:O8}{O:Sk}{kf:AK->O.α}{F:Array A4}{st:CU}(C:E9 prog w A s L O kf F){lo D J:Nat}(P:lo+D<=F.size)(M:1<=J)(N:J<=D)(B:CV L F st)(u:DF kf (Ai st) lo (lo+J)){Q:Option (Option Nat)×Nat->CU->Prop}(h:∀n,J<=n->n<=D->DF kf (Ai st) lo (lo+n)->(n<D->O.klt (BE kf (Ai st) (lo+n)) (BE kf (Ai st) (lo+n-1)))->Q (AD,n) st){f:Nat->Option (Option Nat)×Nat->StateT CU Cs (ForInStep (Option (Option Nat)×Nat))}(G:∀x c,f x c=(do match(<-Jk (lo+c.2) (lo+c.2-1))with|AA b=>if b=AF then BB (.done (AD,c.2))else BB (.yield (AD,c.2+1))|AD=>BB (.done (AA AD,c.2)))):Dq (Ab prog w) A E s (GI [J:D] (AD,J) f) Q st:=by
  refine GA (I:=λx c U=>U=st/\c=(AD,x)/\J<=x/\x<=D/\DF kf (Ai st) lo (lo+x)) ?_ ?_ (by grind)
  . intro x c U H K q;refine AB λV=>?_;obtain⟨rfl,rfl,Y,Z,W⟩:=q;refine V ?_;try clear V
    rw[G];refine A5 (NR C B (by(first|lia|omega)) (by(first|lia|omega)) ?_);cases e:O.blt _ _ with|true=>exact BG (h x Y Z W λ_=>e)|false=>exact BG ⟨rfl,rfl,by(first|lia|omega),by(first|lia|omega),W.adj (by(first|lia|omega)) e⟩
  grind
noncomputable abbrev Gj:=Option (Option Nat)×Nat
noncomputable def NT(lo:Nat)(c:Gj):StateT CU Cs (ForInStep Gj):=Jk (lo+c.2) (lo+c.2-1)>>=λo=>match o with|AA b=>if b=AF then BB (.done (AD,c.2))else BB (.yield (AD,c.2+1))|_=>BB (.done (AA AD,c.2))
noncomputable def Kj(lo D n:Nat):StateT CU Cs (Option Nat):=KW lo (lo+n)>>=λ_=>GI [n:D] ((AD,n):Gj) (λ_ c=>NT lo c)>>=λc=>match c.1 with|AA r=>BB r|AD=>BB (AA c.2)
noncomputable abbrev TK:=Option (Option Nat)×Nat×Nat
noncomputable def Ys(lo:Nat)(c:TK):StateT CU Cs (ForInStep TK):=Jk (lo+c.2.1) (lo+c.2.1-1)>>=λo=>match o with
 |AA b=>if b=AF then(if c.2.2>0 then KW (lo+c.2.1-(c.2.2+1)) (lo+c.2.1)>>=λ_=>BB (.yield (AD,c.2.1+1,0))else BB (.yield (AD,c.2.1+1,0)))else Jk (lo+c.2.1-1) (lo+c.2.1)>>=λF=>match F with |AA D=>if D=AF then BB (.done (AD,c.2.1,c.2.2))else BB (.yield (AD,c.2.1+1,c.2.2+1))|_=>BB (.done (AA AD,c.2.1,c.2.2))
 |_=>BB (.done (AA AD,c.2.1,c.2.2))
noncomputable def Pb(lo D n:Nat):StateT CU Cs (Option Nat):=liftM (rule "list.sort.descending-run")>>=λ_=>GI [n+1:D] ((AD,n+1,0):TK) (λ_ c=>Ys lo c)>>=λc=>match c.1 with|AA r=>BB r|AD=>if c.2.2>0 then KW (lo+c.2.1-(c.2.2+1)) (lo+c.2.1)>>=λ_=>Kj lo D c.2.1 else Kj lo D c.2.1
theorem Y2{D:Array A4}{st:CU}(C:E9 prog w A s U O kf D){lo:Nat}(q:lo+F<=D.size)(Y:1<=n)(Z:n<=F)(B:CV U D st)(W:Lo kf (Ai st) lo (lo+n))(h:∀m J,CV U D J->Gi lo st J->1<=m->m<=F->DF kf (Ai J) lo (lo+m)->Q (AA m) J):Dq (Ab prog w) A E s (Kj lo F n) Q st:=by
 refine A5 (HY ?_);obtain⟨V,G⟩:=Pc B (Af lo) (show lo+n<=D.size by(first|lia|omega));have u:DF kf (Sn _ lo (lo+n) _) lo (lo+n):=λi j K L M=>by rw[TL (by rw[B.wu];(first|lia|omega)),TL (by rw[B.wu];(first|lia|omega)),ABo (by(first|lia|omega)),ABo (by(first|lia|omega))];exact W _ _ (by(first|lia|omega)) (by(first|lia|omega)) (by(first|lia|omega))
 refine A5 (Y1 C q Y Z V u (λm H I u2 _=>?_) λx c=>ABp (Jk _ _>>=.) (by grind));exact BG (by grind)
theorem Yz{prog:CZ}{w:Bn}{A:Cj}{E:AK->AU->Prop}{s:AU}{N:O8}{O:Sk}{kf:AK->O.α}{F:Array A4}{st:CU}(C:E9 prog w A s N O kf F){lo J n:Nat}(r:lo+J<=F.size)(u:1<=n)(v:n<J)(B:CV N F st)(o:∀k,lo<=k->k<lo+n->BE kf (Ai st) k=BE kf (Ai st) (lo+n-1))(lt:O.klt (BE kf (Ai st) (lo+n)) (BE kf (Ai st) (lo+n-1))){Q:Option Nat->CU->Prop}(h:∀m D,CV N F D->Gi lo st D->1<=m->m<=J->DF kf (Ai D) lo (lo+m)->Q (AA m) D):Dq (Ab prog w) A E s (Pb lo J n) Q st:=by
 unfold Pb;refine A5 (M9 (HB ⟨rfl,?_⟩));have X:=Lo.adj (λi j q K L=>by rw[o i q (by(first|lia|omega)),o j (by(first|lia|omega)) L];exact Lb _) u (Ip lt);refine A5 (Ge (GA (I:=λx c D=>∃e,c=(AD,x,e)/\n+1<=x/\x<=J/\e+1<=x/\CV N F D/\Gi lo st D/\Lo kf (Ai D) lo (lo+x)/\∀k,lo+x-(e+1)<=k->k<lo+x->BE kf (Ai D) k=BE kf (Ai D) (lo+x-1)) (Q:=λc D=>∃x e,c=(AD,x,e)/\n+1<=x/\x<=J/\e+1<=x/\CV N F D/\Gi lo st D/\Lo kf (Ai D) lo (lo+x)/\∀k,lo+x-(e+1)<=k->k<lo+x->BE kf (Ai D) k=BE kf (Ai D) (lo+x-1)) ?step ?fin ?agk) ?post);case agk=>exact⟨0,rfl,Af _,v,by(first|lia|omega),B,Pa _ _,X,(by grind)⟩
 case fin=>grind
 case step=>
  intro x c D y z d;refine AB λH=>?_;obtain⟨e,rfl,t,M,l,U,Y,Z,V⟩:=d;refine H ?_;try clear H
  unfold Ys;dsimp only;refine A5 (NR C U (by(first|lia|omega)) (by(first|lia|omega)) ?_);cases b:O.blt (BE kf (Ai D) (lo+x)) _ with
  |true=>
   dsimp only;rw[ABo rfl];have a:∀f:Array A4,(∀k,BE kf f k=BE kf (Ai D) k)->Lo kf f lo (lo+(x+1)):=λf p=>by have:=Z.adj (by(first|lia|omega)) (Ip b);intro i j q K L;rw[p,p];exact this i j q K L
   by_cases G:e>0
   . rw[ABo G,xR];refine A5 (HY (BG ?_));obtain⟨P,S⟩:=Pc U (show lo<=lo+x-(e+1)by(first|lia|omega)) (show lo+x<=F.size by(first|lia|omega));exact⟨0,rfl,by(first|lia|omega),by(first|lia|omega),by(first|lia|omega),P,Y.aa S,a _ (Pd U (by(first|lia|omega)) V),(by grind)⟩
   . rw[ABn G];exact BG (by grind)|false=> dsimp only;refine A5 (NR C U (by(first|lia|omega)) (by(first|lia|omega)) ?_);cases g:O.blt _ (BE kf (Ai D) (lo+x))with |true=>exact BG ⟨x,e,rfl,t,M,l,U,Y,Z,V⟩|false=> have ek:=O.total _ _ g b;refine BG ⟨e+1,rfl,by(first|lia|omega),by(first|lia|omega),by(first|lia|omega),U,Y,Z.adj (by(first|lia|omega)) g,λk q K=>?_⟩;grind
 case post=>
  intro c D d;refine AB λH=>?_;obtain⟨x,e,rfl,t,M,l,U,Y,Z,V⟩:=d;refine H ?_;try clear H
  dsimp only;by_cases G:e>0
  . rw[ABo G,xR];obtain⟨P,S⟩:=Pc U (show lo<=lo+x-(e+1)by(first|lia|omega)) (show lo+x<=F.size by(first|lia|omega));refine Y2 C r (by(first|lia|omega)) M P (λi j q K L=>?_) λm W R T=>h m W R ((Y.aa S).aa T);rw[Pd U (by(first|lia|omega)) V,Pd U (by(first|lia|omega)) V];exact Z i j q K L
  . rw[ABn G];exact Y2 C r (by(first|lia|omega)) M U Z λm W R T=>h m W R (Y.aa T)
theorem Y5{A:Cj}{E:AK->AU->Prop}{s:AU}{M:IB}{α D:Type}{m F:StateT D Cs α}{Q:α->D->Prop}{t:D}(e:F=m)(h:Dq M A E s m Q t):Dq M A E s F Q t:=by grind
theorem tT{F:Array A4}{st:CU}(C:E9 prog w A s e O kf F){lo:Nat}(P:lo+D<=F.size)(Z:1<=D)(B:CV e F st)(h:∀n J,CV e F J->Gi lo st J->1<=n->n<=D->DF kf (Ai J) lo (lo+n)->Q (AA n) J):Dq (Ab prog w) A E s (countRun' lo D) Q st:=by
  have t:DF kf (Ai st) lo (lo+1):=λi j V G v=>by
    obtain rfl:i=j:=by(first|lia|omega)
    exact Lb _
  refine A5 (Y1 C P (Af _) Z B t (λn I d u a=>?_) λx c=>ABp (Jk _ _>>=.) (funext λo=>by cases o<;>rfl));dsimp only;by_cases q:n=D
  . subst q;rw[ABo (AB0 n)];exact BG (h n st B (Pa _ _) I d u)
  . rw[ABn (by simpa using q)];by_cases T:n>1;. rw[ABo T];refine A5 (NR C B (by(first|lia|omega)) (by(first|lia|omega)) ?_);cases b:O.blt _ _ with|true=>exact BG (h n st B (Pa _ _) I d u)|false=>
        have W:=λk V G=>by refine KeyOrd.kle_antisymm (u k (lo+n-1) V (by(first|lia|omega)) (by(first|lia|omega))) (Ft (show O.kle _ _ from b) (u lo k (Af _) V G))
        refine A5 ?_;refine HY ?_;refine Y5 (m:=Pb lo D n) ?bf ?_;case bf=>exact(by
            refine ABp _ (funext λ_=>congr (ABp _ (ABp (GI _ _) (funext λ_=>funext λc=>?_))) (funext λc=>?_));. refine ABp (Jk _ _>>=.) (funext λo=>?_);cases o with|none=>rfl|some b=>cases b with|true=>rfl|false=>exact ABp (Jk _ _>>=.) (funext λR=>by cases R<;>rfl)
            . obtain⟨K,L⟩:=c;have t3:∀n,Kj lo D n=(KW lo (lo+n)>>=λ_=>GI [n:D] ((AD,n):Gj) _>>=λc=>match c.1 with|AA r=>BB r|AD=>BB (AA c.2)):=λ_=>rfl;have t4:∀n(X:Nat->Gj->StateT CU Cs (ForInStep Gj))(Y:Gj->StateT CU Cs (Option Nat)),(∀x c,X x c=NT lo c)->(∀c,Y c=match c.1 with|AA r=>BB r|AD=>BB (AA c.2))->(KW lo (lo+n)>>=λ_=>GI [n:D] ((AD,n):Gj) X>>=Y)=Kj lo D n:=λn X Y Z N=>by rw[t3,show X=λ_ c=>NT lo c from funext λx=>funext λc=>Z x c,show Y=_ from funext N]
              cases K with |some r=>rfl|none=>
                by_cases z:L.2>0
                . rw[ABo z,ABo z];refine ABp (KW _ _>>=.) (funext λ_=>?_);exact t4 _ _ _ (λx c=>ABp _ (funext λo=>by cases o<;>rfl)) (λc=>by obtain⟨U,M⟩:=c;cases U<;>rfl)
                . rw[ABn z,ABn z];exact t4 _ _ _ (λx c=>ABp _ (funext λo=>by cases o<;>rfl)) (λc=>by obtain⟨U,M⟩:=c;cases U<;>rfl))
        obtain⟨f,l⟩:=Pc B (Af lo) (show lo+n<=F.size by(first|lia|omega));have H:=Pd B (i:=lo) (j:=lo+n) (by(first|lia|omega)) W;refine Yz C P I (by(first|lia|omega)) f (λk V G=>?_) ?_ λm S g p=>h m S g (l.aa p)
        . rw[H,H];exact W k V G
        . rw[H,H];exact a (by(first|lia|omega))
    . rw[ABn T];refine Y5 (m:=Pb lo D n) ?bf ?_;case bf=>exact(by
            refine ABp _ (funext λ_=>congr (ABp _ (ABp (GI _ _) (funext λ_=>funext λc=>?_))) (funext λc=>?_))
            . refine ABp _ (funext λo=>?_);cases o with |none=>rfl|some b=>cases b with |true=>rfl|false=>exact ABp (Jk _ _>>=.) (funext λR=>by cases R<;>rfl)
            . obtain⟨K,L⟩:=c;have t3:∀n,Kj lo D n=(KW lo (lo+n)>>=λ_=>GI [n:D] ((AD,n):Gj) _>>=λc=>match c.1 with|AA r=>BB r|AD=>BB (AA c.2)):=λ_=>rfl;have t4:∀n(X:Nat->Gj->StateT CU Cs (ForInStep Gj))(Y:Gj->StateT CU Cs (Option Nat)),(∀x c,X x c=NT lo c)->(∀c,Y c=match c.1 with|AA r=>BB r|AD=>BB (AA c.2))->(KW lo (lo+n)>>=λ_=>GI [n:D] ((AD,n):Gj) X>>=Y)=Kj lo D n:=λn X Y Z N=>by rw[t3,show X=λ_ c=>NT lo c from funext λx=>funext λc=>Z x c,show Y=_ from funext N]
              cases K with |some r=>rfl|none=>
                by_cases z:L.2>0;. rw[ABo z,ABo z];refine ABp (KW _ _>>=.) (funext λ_=>?_);exact t4 _ _ _ (λx c=>ABp _ (funext λo=>by cases o<;>rfl)) (λc=>by obtain⟨U,M⟩:=c;cases U<;>rfl)
                . rw[ABn z,ABn z];exact t4 _ _ _ (λx c=>ABp _ (funext λo=>by cases o<;>rfl)) (λc=>by obtain⟨U,M⟩:=c;cases U<;>rfl))
      obtain rfl:n=1:=by(first|lia|omega)
      exact Yz C P I (by(first|lia|omega)) B (λk V G=>by rw[show k=lo+1-1 by(first|lia|omega)]) (a (by(first|lia|omega))) h
noncomputable def tO:Bool->A4->Array A4->Nat->Nat->Nat->StateT CU Cs (Option Nat):=sortPriv%PySem.Builtin.gallop
noncomputable def tQ:Array A4->Array A4->StateT CU Cs (Array A4):=sortPriv%PySem.Builtin.mergeLo
noncomputable def tP:Array A4->Array A4->StateT CU Cs (Array A4):=sortPriv%PySem.Builtin.mergeHi
theorem EL{prog:CZ}{w:Bn}{A:Cj}{E:AK->AU->Prop}{s:AU}{st:CU}{D:Array A4}{i:Nat}(hi:i<D.size){Q:A4->CU->Prop}(h:Q D[i] st):Dq (Ab prog w) A E s (Sm D i) Q st:=by rw[qG,AB1 _ i hi];exact BG h
noncomputable def Cc{O:Sk}(kf:AK->O.α)(left:Bool)(key:A4)(D:Array A4)(base i:Nat):Bool:=if left=AF then O.blt (BE kf D (base+i)) (kf key.1)else !O.blt (kf key.1) (BE kf D (base+i))
theorem DG{O:Sk}{kf:AK->O.α}{D:Array A4}{i:Nat}(hi:i<D.size):BE kf D i=kf D[i].1:=by unfold BE;grind
theorem tR{D:Array A4}{st:CU}(C:E9 prog w A s W O kf D)(B:CV W D st){F:Array A4}(J:key∈D.toList)(V:∀p∈F.toList,p∈D.toList)(hi:base+i<F.size)(h:Q (AA (Cc kf left key F base i)) st):Dq (Ab prog w) A E s (Sm F (base+i)>>=λx=>if left=AF then lt' x key else lt' key x>>=λo=>BB (o.map λb=>!b)) Q st:=by refine A5 (EL hi ?_);have U:F[base+i]∈D.toList:=V _ (by simp);unfold Cc at h;rw[DG hi]at h;cases left with|true=>exact NQ C B U J h|false=>exact A5 (NQ C B J U (BG h))
theorem tL{O:Sk}{kf:AK->O.α}{left:Bool}{key:A4}{D:Array A4}{base n i j:Nat}(u:DF kf D base (base+n))(J:i<=j)(U:j<n)(h:Cc kf left key D base j=AF):Cc kf left key D base i=AF:=by have F:=u (base+i) (base+j) (by(first|lia|omega)) (by(first|lia|omega)) (by(first|lia|omega));unfold Cc at h⊢;cases left with |true=>exact KeyOrd.klt_of_kle_of_klt F h|false=>
 have h:O.kle (BE kf D (base+j)) (kf key.1):=by show O.blt _ _=AO;grind
 have:O.blt _ _=AO:=Ft F h;grind
theorem Lq{K:Array A4}{st:CU}(C:E9 prog w A s κ O kf K)(B:CV κ K st){D:Array A4}(hk:key∈K.toList)(ha:∀p∈D.toList,p∈K.toList)(Z:base+n<=D.size)(G:hint<n)(u:DF kf D base (base+n))(h:∀k,k<=n->(∀i,i<k->Cc kf left key D base i=AF)->(∀i,k<=i->i<n->Cc kf left key D base i=AO)->Q (AA k) st):Dq (Ab prog w) A E s (tO left key D base n hint) Q st:=by
  have d:∀{i:Nat}{Q:Option Bool->CU->Prop},i<n->Q (AA (Cc kf left key D base i)) st->Dq (Ab prog w) A E s _ Q st:=λR q=>tR C B hk ha (by(first|lia|omega)) q;have S:∀i j,i<=j->j<n->Cc kf left key D base j=AF->Cc kf left key D base i=AF:=λi j U J H=>tL u U J H;refine A5 (d G ?_);have fin:∀X R,X<=R->R<=n->(∀i,i<X->Cc kf left key D base i=AF)->(∀i,R<=i->i<n->Cc kf left key D base i=AO)->∀{f:Nat->Option (Option Nat)×Nat×Nat->StateT CU Cs (ForInStep (Option (Option Nat)×Nat×Nat))}{g:Option (Option Nat)×Nat×Nat->StateT CU Cs (Option Nat)},(∀x c,f x c=if c.2.1>=c.2.2 then BB (.done (AD,c.2.1,c.2.2))else(Sm D (base+(c.2.1+(c.2.2-c.2.1)/2))>>=λx=>if left=AF then lt' x key else lt' key x>>=λo=>BB (o.map λb=>!b))>>=λo=>match o with|AA b=>if b=AF then BB (.yield (AD,c.2.1+(c.2.2-c.2.1)/2+1,c.2.2))else BB (.yield (AD,c.2.1,c.2.1+(c.2.2-c.2.1)/2))|AD=>BB (.done (AA AD,c.2.1,c.2.2)))->(∀c,g (AD,c)=BB (AA c.2))->Dq (Ab prog w) A E s (GI [:n] ((AD,X,R):Option (Option Nat)×Nat×Nat) f>>=g) Q st:=by
    intro X R M N v y f g hf hg;refine A5 (Ge (GA (I:=λx c F=>F=st/\∃l r,c=(AD,l,r)/\l<=r/\r<=n/\r-l<=n-x/\(∀i,i<l->Cc kf left key D base i=AF)/\(∀i,r<=i->i<n->Cc kf left key D base i=AO)) (Q:=λc F=>F=st/\∃l,c=(AD,l,l)/\l<=n/\(∀i,i<l->Cc kf left key D base i=AF)/\(∀i,l<=i->i<n->Cc kf left key D base i=AO)) ?_ ?_ ⟨rfl,X,R,rfl,M,N,by(first|lia|omega),v,y⟩) ?_)
    . rintro x c F _ P⟨rfl,l,r,rfl,U,J,H,V,Y⟩;rw[hf];dsimp only;by_cases g:l>=r
      . rw[ABo g];obtain rfl:l=r:=by(clear H J P N M G Z;(first|lia|omega))
        exact BG ⟨rfl,l,rfl,J,V,Y⟩
      . rw[ABn g];refine A5 (d (by(clear H U P N M G Z;(first|lia|omega))) ?_);cases e:Cc kf left key D base (l+(r-l)/2)with|true=>exact BG ⟨rfl,_,r,rfl,by(clear H J U P N M G Z;(first|lia|omega)),J,by(clear J U N M G Z;(first|lia|omega)),λi z=>S i _ (by(first|lia|omega)) (by(clear z H U P N M G Z;(first|lia|omega))) e,Y⟩|false=>exact BG ⟨rfl,l,_,rfl,by(clear g H J U P N M G Z;(first|lia|omega)),by(clear H U P N M G Z;(first|lia|omega)),by(clear J U N M G Z;(first|lia|omega)),V,λi t a=>by cases z:Cc kf left key D base i with|false=>rfl|true=>rw[S _ i t a z]at e;cases e⟩
    . rintro c F⟨rfl,l,r,rfl,U,J,H,V,Y⟩;obtain rfl:l=r:=by(clear J N M G Z;(first|lia|omega))
      exact⟨rfl,l,rfl,J,V,Y⟩
    . rintro c F⟨rfl,l,rfl,J,V,Y⟩;rw[hg];exact BG (h l J V Y)
  cases e:Cc kf left key D base hint with |true=>
    refine A5 (Ge (GA (I:=λx c F=>F=st/\∃l o,c=(AD,l,o)/\l<o/\hint+l<n/\x+1<=o/\Cc kf left key D base (hint+l)=AF) (Q:=λc F=>F=st/\∃l o,c=(AD,l,o)/\l<o/\hint+l<n/\Cc kf left key D base (hint+l)=AF/\(o>=n-hint\/(hint+o<n/\Cc kf left key D base (hint+o)=AO))) ?_ ?_ ⟨rfl,0,1,rfl,by(first|lia|omega),by(first|lia|omega),by(first|lia|omega),e⟩) ?_)
    . intro x c F _ P L;refine AB λW=>?_;obtain⟨rfl,l,o,rfl,U,J,H,V⟩:=L;refine W ?_;try clear W
      dsimp only;by_cases g:o>=n-hint
      . rw[ABo g];exact BG ⟨rfl,l,o,rfl,U,J,V,.inl g⟩
      . rw[ABn g];refine A5 (d (by(first|lia|omega)) ?_);cases T:Cc kf left key D base (hint+o)with |true=>exact BG ⟨rfl,o,_,rfl,by(first|lia|omega),by(first|lia|omega),by(first|lia|omega),T⟩|false=>exact BG ⟨rfl,l,o,rfl,U,J,V,.inr ⟨by(first|lia|omega),T⟩⟩
    . intro c F L;refine AB λW=>?_;obtain⟨rfl,l,o,rfl,U,J,H,V⟩:=L;refine W ?_;try clear W
      exact⟨rfl,l,o,rfl,U,J,V,.inl (by(first|lia|omega))⟩
    . intro c F L;refine AB λW=>?_;obtain⟨rfl,l,o,rfl,U,J,V,Y⟩:=L;refine W ?_;try clear W
      refine fin (hint+l+1) (hint+Dd o (n-hint)) (by(first|lia|omega)) (by(first|lia|omega)) (λi z=>S i _ (by(first|lia|omega)) J V) (λi t a=>?_) (λx c=>?_) (λc=>rfl)
      . rcases Y with Y|⟨Y,m⟩;. (first|lia|omega)
        .cases z:Cc kf left key D base i with|false=>rfl|true=>rw[S (hint+o) i (by(clear Y J U Z;(first|lia|omega))) a z]at m;cases m
      . dsimp only;split;.rfl
        .exact ABp (_>>=.) (funext λo=>by cases o<;>rfl)|false=>
    refine A5 (Ge (GA (I:=λx c F=>F=st/\∃l o,c=(AD,l,o)/\l<o/\l<=hint/\x+1<=o/\Cc kf left key D base (hint-l)=AO) (Q:=λc F=>F=st/\∃l o,c=(AD,l,o)/\l<o/\l<=hint/\Cc kf left key D base (hint-l)=AO/\(o>=hint+1\/(o<=hint/\Cc kf left key D base (hint-o)=AF))) ?_ ?_ ⟨rfl,0,1,rfl,by(first|lia|omega),by(first|lia|omega),by(first|lia|omega),e⟩) ?_)
    . intro x c F _ P L;refine AB λW=>?_;obtain⟨rfl,l,o,rfl,U,J,H,V⟩:=L;refine W ?_;try clear W
      dsimp only;by_cases g:o>=hint+1;. rw[ABo g];exact BG ⟨rfl,l,o,rfl,U,J,V,.inl g⟩
      . rw[ABn g];refine A5 (d (by(first|lia|omega)) ?_);cases T:Cc kf left key D base (hint-o)with|false=>exact BG ⟨rfl,o,_,rfl,by(first|lia|omega),by(first|lia|omega),by(first|lia|omega),T⟩|true=>exact BG ⟨rfl,l,o,rfl,U,J,V,.inr ⟨by(first|lia|omega),T⟩⟩
    . intro c F L;refine AB λW=>?_;obtain⟨rfl,l,o,rfl,U,J,H,V⟩:=L;refine W ?_;try clear W
      exact⟨rfl,l,o,rfl,U,J,V,.inl (by(first|lia|omega))⟩
    . intro c F L;refine AB λW=>?_;obtain⟨rfl,l,o,rfl,U,J,V,Y⟩:=L;refine W ?_;try clear W
      refine fin (hint+1-Dd o (hint+1)) (hint-l) (by(clear Y G Z;(first|lia|omega))) (by(first|lia|omega)) (λi z=>?_) (λi t a=>?_) (λx c=>?_) (λc=>rfl)
      . rcases Y with Y|⟨Y,m⟩;. (clear J U G Z;(first|lia|omega))
        .exact S i _ (by(clear J U G Z;(first|lia|omega))) (by(first|lia|omega)) m
      .cases z:Cc kf left key D base i with|false=>rfl|true=>rw[S (hint-l) i (by(first|lia|omega)) a z]at V;cases V
      . dsimp only;split;.rfl
        .exact ABp (_>>=.) (funext λo=>by cases o<;>rfl)
structure DU(R:A4->A4->Prop)(la lb lo:List A4)(i j:Nat):Prop where
 nq:lo.Perm (la.take i++lb.take j)agu:lo.Pairwise R
 a:∀x∈lo,∀y∈la.drop i,R x y
 b:∀x∈lo,∀y∈lb.drop j,R x y
theorem DU.aas{lo:List A4}(h:DU R D F lo i j):DU R F D lo j i:=⟨h.nq.trans X2,h.agu,h.b,h.a⟩
theorem DU.zy{F W lo:List A4}(h:DU R F W lo i j)(C:F.Pairwise R)(V:∀x∈(F.drop i).take k,∀y∈W.drop j,R x y):DU R F W (lo++(F.drop i).take k) (i+k) j:=by
  have E:((F.drop i).take k++(F.drop i).drop k).Pairwise R:=by rw[Sa];exact C.sublist (List.drop_sublist _ _)
  refine AB λY=>?_;obtain⟨A,_,B⟩:=La.mp E;refine Y ?_;try clear Y
  have Z:F.drop (i+k)=(F.drop i).drop k:=by rw[pG]
  refine⟨?_,La.mpr ⟨h.agu,A,λx V y D=>h.a x V y (pQ D)⟩,λx U y D=>?_,λx U y D=>?_⟩
  . rw[wO,F7];refine(h.nq.append_right _).trans ?_;rw[F7];exact pD _ X2
  . rw[Z]at D;rcases CT.mp U with q|q;.exact h.a x q y (Xz D)
    .exact B x q y D
  . rcases CT.mp U with q|q;.exact h.b x q y D
    .exact V x q y D
theorem DU.abc{F D lo:List A4}(h:DU R F D lo i j)(V:D.Pairwise R)(U:∀x∈(D.drop j).take k,∀y∈F.drop i,R x y):DU R F D (lo++(D.drop j).take k) i (j+k):=(h.aas.zy V U).aas
noncomputable def Ei(R:A4->A4->Prop)(D F l:List A4):Prop:=l.Perm (D++F)/\l.Pairwise R
theorem DU.adh{D F lo:List A4}(h:DU R D F lo i j)(A:D.Pairwise R)(B:F.Pairwise R)(Z:∀x∈D.drop i,∀y∈F.drop j,R x y):Ei R D F (lo++D.drop i++F.drop j):=by
  refine⟨?_,La.mpr ⟨La.mpr ⟨h.agu,(by grind),h.a⟩,(by grind),λx U y V=>?_⟩⟩
  . refine((h.nq.append_right _).append_right _).trans ?_;have W:D=D.take i++D.drop i:=(by simp_all);have Y:F=F.take j++F.drop j:=(by simp);grind
  . rcases CT.mp U with q|q;.exact h.b x q y V
    grind
theorem Ei.aas(h:Ei R F D l):Ei R D F l:=⟨h.1.trans X2,h.2⟩
theorem Y4{out a:Array A4}:(out++a.extract i (i+k)).toList=out.toList++(a.toList.drop i).take k:=by simp_all
theorem Pe{a:Array A4}:(a.extract i).toList=a.toList.drop i:=by simp;exact Cn (by simp)
theorem NP{a:Array A4}(hi:i<a.size):(a.toList.drop i).take 1=[a[i]]:=by rw[pH (by grind)];simp
theorem Y3{out a:Array A4}(hi:i<a.size):(out.push a[i]).toList=out.toList++(a.toList.drop i).take 1:=by rw[NP hi];simp
noncomputable def BQ{O:Sk}(kf:AK->O.α):A4->A4->Prop:=λp q=>O.kle (kf p.1) (kf q.1)
theorem JC{O:Sk}{kf:AK->O.α}{a:Array A4}(h:a.toList.Pairwise (BQ kf)){lo hi:Nat}(D:hi<=a.size):DF kf a lo hi:=λi j F J U=>by
 by_cases z:i=j;.rw[z];exact Lb _
 . rw[DG _,DG _];have:=Je.mp h i j (by grind) (by grind) (by(first|lia|omega));assumption
theorem Lp{a:Array A4}(h:p∈a.toList.drop i):∃k,∃(F:i+k<a.size),p=a[i+k]:=by
 refine AB λD=>?_;obtain⟨k,F,e⟩:=F8.mp h;refine D ?_;try clear D
 grind
theorem NN{a:Array A4}(h:p∈(a.toList.drop i).take k):∃m,m<k/\∃(F:i+m<a.size),p=a[i+m]:=by
 refine AB λD=>?_;obtain⟨m,J,e⟩:=F8.mp h;refine D ?_;try clear D
 grind
section
variable{κ:O8}{a₀:Array A4}{st:CU}
structure GF(κ:O8)(a₀:Array A4)(st st':CU):Prop where
 sb:CV κ a₀ st'
 agx:Ai st'=Ai st
 aaq:BZ st'=BZ st
end
theorem GF.agd{st:CU}(x:GF J F st D)(g:Nat):GF J F st (X9 (YA D) (Ai D) (BZ D) g (M7 D)):=⟨⟨x.sb.nq,x.sb.fo,x.sb.qa⟩,x.agx,x.aaq⟩
theorem Cf[Decidable c]{st:CU}(h:c)(k:Dq M A E s x Q st):Dq M A E s (if c then x else y) Q st:=by grind
theorem Ct[Decidable c]{st:CU}(h:¬c)(k:Dq M A E s y Q st):Dq M A E s (if c then x else y) Q st:=by grind
theorem tW{N:Array A4}{st:CU}(C:E9 prog w A s κ O kf N)(B:CV κ N st){a b:Array A4}(ha:∀p∈a.toList,p∈N.toList)(hb:∀p∈b.toList,p∈N.toList)(a1:1<=a.size)(b1:1<=b.size)(pa:a.toList.Pairwise (BQ kf))(pb:b.toList.Pairwise (BQ kf))(first:∀p∈a.toList,BQ kf b[0] p)(V:∀p∈b.toList,BQ kf p a[a.size-1])(h:∀m M,GF κ N st M->Ei (BQ kf) a.toList b.toList m.toList->Q m M):Dq (Ab prog w) A E s (tQ a b) Q st:=by
  have X:∀{D:Array A4}{W Z:Nat},DU (BQ kf) a.toList b.toList D.toList W Z->(Z=b.size\/W=a.size)->Ei (BQ kf) a.toList b.toList (D++a.extract W++b.extract Z).toList:=λ{D W Z}j e=>by
    rw[TZ,TZ,Pe,Pe];refine j.adh pa pb λx K y R=>?_;rcases e with rfl|rfl;.rw[vS (by simp)]at R;cases R
    .rw[vS (by simp)]at K;cases K
  have fLast:∀{D:Array A4}{W Z:Nat},DU (BQ kf) a.toList b.toList D.toList W Z->W+1=a.size->Ei (BQ kf) a.toList b.toList (D++b.extract Z++a.extract W).toList:=λ{D W Z}j e=>by
    rw[TZ,TZ,Pe,Pe];refine(j.aas.adh pb pa λx K y R=>?_).aas;obtain⟨k,hk,rfl⟩:=Lp R;have:k=0:=by(first|lia|omega)
    subst this;have:=V x (Xz K);simpa[show a.size-1=W by(first|lia|omega)]using this
  have am:∀{i:Nat}(hi:i<a.size),a[i]∈N.toList:=λhi=>ha _ (by simp);have bm:∀{i:Nat}(hi:i<b.size),b[i]∈N.toList:=λhi=>hb _ (by simp);have la:∀{i k:Nat}(hk:i+k<a.size),BQ kf (a[i]'(by(first|lia|omega))) a[i+k]:=λ{i k}hk=>by have:=JC pa (lo:=0) (Af _) i (i+k) (by(first|lia|omega)) (by(first|lia|omega)) hk;rw[DG (by(first|lia|omega):i<a.size),DG hk]at this;exact this
  have lb:∀{i k:Nat}(hk:i+k<b.size),BQ kf (b[i]'(by(first|lia|omega))) b[i+k]:=λ{i k}hk=>by have:=JC pb (lo:=0) (Af _) i (i+k) (by(first|lia|omega)) (by(first|lia|omega)) hk;rw[DG (by(first|lia|omega):i<b.size),DG hk]at this;exact this
  have oneB:∀{D:Array A4}{W Z:Nat}(t:W<a.size)(h2:Z<b.size),DU (BQ kf) a.toList b.toList D.toList W Z->BQ kf b[Z] a[W]->DU (BQ kf) a.toList b.toList (D.push b[Z]).toList W (Z+1):=λ{D W Z}t h2 j r=>by rw[Y3 h2];refine j.abc pb λx K y R=>?_;rw[NP h2,Bl]at K;obtain⟨k,hk,rfl⟩:=Lp R;rw[K];exact Ft r (la hk)
  have oneA:∀{D:Array A4}{W Z:Nat}(t:W<a.size)(h2:Z<b.size),DU (BQ kf) a.toList b.toList D.toList W Z->BQ kf a[W] b[Z]->DU (BQ kf) a.toList b.toList (D.push a[W]).toList (W+1) Z:=λ{D W Z}t h2 j r=>by rw[Y3 t];refine j.zy pa λx K y R=>?_;rw[NP t,Bl]at K;obtain⟨k,hk,rfl⟩:=Lp R;rw[K];exact Ft r (lb hk)
  refine A5 (M9 (HB ⟨rfl,?_⟩));refine A5 (EL (by(first|lia|omega):0<b.size) ?_);have j0:DU (BQ kf) a.toList b.toList (#[b[0]]:Array A4).toList 0 1:=by
    refine⟨?_,by simp,λx K y R=>?_,λx K y R=>?_⟩
    . rw[<-NP (by(first|lia|omega):0<b.size)];simp
    .simp at K R;subst K;exact first y (by simpa using R)
    . simp only[Bl]at K;obtain⟨k,hk,rfl⟩:=Lp R;rw[K];have:=lb (i:=0) (k:=1+k) (by(first|lia|omega));simpa using this
  by_cases e1:1=b.size;. refine Cf (by simpa using e1) ?_;exact BG (h _ st ⟨B,rfl,rfl⟩ (X j0 (.inl e1)))
  refine Ct (by simpa using e1) ?_;by_cases e2:0+1=a.size;. refine Cf (by simpa using e2) ?_;exact BG (h _ st ⟨B,rfl,rfl⟩ (fLast j0 e2))
  refine Ct (by simpa using e2) ?_;refine A5 (Jl ?_);refine A5 (Ge (GA (I:=λx c M=>GF κ N st M/\∃D W Z g,c=(AD,D,W,Z,g)/\DU (BQ kf) a.toList b.toList D.toList W Z/\W+1<a.size/\Z<b.size/\x+1<=W+Z) (Q:=λc M=>GF κ N st M/\∃r,c.1=AA r/\Ei (BQ kf) a.toList b.toList r.toList) ?step ?fin ?agk) ?post);case agk=>exact⟨⟨B,rfl,rfl⟩,_,0,1,_,rfl,j0,by(first|lia|omega),by(first|lia|omega),by(first|lia|omega)⟩
  case fin=>
    intro c M hI;refine AB λnG=>?_;obtain⟨S,D,W,Z,g,rfl,j,t,h2,h3⟩:=hI;refine nG ?_;try clear nG
    (first|lia|omega)
  case post=>
    intro c M hI;refine AB λnG=>?_;obtain⟨S,r,e,f⟩:=hI;obtain⟨c1,c2⟩:=c;obtain rfl:c1=AA r:=e;refine nG ?_;try clear nG
    exact BG (h r M S f)
  case step=>
    intro x c st1 _ K hI;refine AB λnG=>?_;obtain⟨S,D,W,Z,g,rfl,j,t,h2,h3⟩:=hI;refine nG ?_;try clear nG
    refine A5 (Ge (GA (I:=λy c M=>M=st1/\∃P Y L p q,c=(AD,P,Y,L,p,q)/\DU (BQ kf) a.toList b.toList P.toList Y L/\Y+1<a.size/\L<b.size/\W+Z+y<=Y+L) (Q:=λc M=>M=st1/\((∃r,c.1=AA r/\Ei (BQ kf) a.toList b.toList r.toList)\/∃P Y L p q,c=(AD,P,Y,L,p,q)/\DU (BQ kf) a.toList b.toList P.toList Y L/\Y+1<a.size/\L<b.size/\W+Z+1<=Y+L)) ?s1 ?s2 ?s3) ?s4);case s3=>exact⟨rfl,D,W,Z,0,0,rfl,j,t,h2,Af _⟩
    case s2=>
      intro c M hI;refine AB λnG=>?_;obtain⟨rfl,P,Y,L,p,q,rfl,j',g1,d,g3⟩:=hI;refine nG ?_;try clear nG
      exact⟨rfl,.inr ⟨P,Y,L,p,q,rfl,j',g1,d,by(first|lia|omega)⟩⟩
    case s1=>
      intro y c M _ R hI;refine AB λnG=>?_;obtain⟨rfl,P,Y,L,p,q,rfl,j',g1,d,g3⟩:=hI;refine nG ?_;try clear nG
      refine A5 (EL d (A5 (EL (by(first|lia|omega):Y<a.size) (A5 (NQ C S.sb (bm d) (am (by(first|lia|omega))) ?_)))));cases e:O.blt (kf b[L].1) (kf (a[Y]'(by(first|lia|omega))).1)with
      |true=>
        refine Cf rfl ?_;refine A5 (EL d ?_);have j2:=oneB (by(first|lia|omega)) d j' (Ip e);by_cases z:L+1=b.size;. refine Cf (by simpa using z) ?_;exact BG ⟨rfl,.inl ⟨_,rfl,X j2 (.inl z)⟩⟩
        . refine Ct (by simpa using z) ?_;split;.exact BG ⟨rfl,.inr ⟨_,_,_,_,_,rfl,j2,g1,by dsimp only;(first|lia|omega),by dsimp only;(first|lia|omega)⟩⟩
          .exact BG ⟨rfl,_,_,_,_,_,rfl,j2,g1,by dsimp only;(first|lia|omega),by dsimp only;(first|lia|omega)⟩|false=>
        refine Ct C6 ?_;refine A5 (EL (by(first|lia|omega):Y<a.size) ?_);have j2:=oneA (by(first|lia|omega)) d j' e;by_cases z:Y+1+1=a.size;. refine Cf (by simpa using z) ?_;exact BG ⟨rfl,.inl ⟨_,rfl,fLast j2 z⟩⟩
        . refine Ct (by simpa using z) ?_;split;.exact BG ⟨rfl,.inr ⟨_,_,_,_,_,rfl,j2,by dsimp only;(first|lia|omega),d,by dsimp only;(first|lia|omega)⟩⟩
          .exact BG ⟨rfl,_,_,_,_,_,rfl,j2,by dsimp only;(first|lia|omega),d,by dsimp only;(first|lia|omega)⟩
    case s4=>
      rintro c M⟨rfl,⟨r,e,f⟩|⟨P,Y,L,p,q,rfl,j',g1,d,g3⟩⟩
      . obtain⟨c1,c2⟩:=c;obtain rfl:c1=AA r:=e;exact BG ⟨S,r,rfl,f⟩
      refine A5 (M9 (HB ⟨rfl,?_⟩));refine A5 (Ge (GA (I:=λy c st2=>GF κ N st st2/\∃o2 i2 F m2 p q,c=(AD,o2,i2,F,m2,p,q)/\DU (BQ kf) a.toList b.toList o2.toList i2 F/\i2+1<a.size/\F<b.size/\W+Z+1<=i2+F) (Q:=λc st2=>GF κ N st st2/\((∃r,c.1=AA r/\Ei (BQ kf) a.toList b.toList r.toList)\/∃o2 i2 F m2 p q,c=(AD,o2,i2,F,m2,p,q)/\DU (BQ kf) a.toList b.toList o2.toList i2 F/\i2+1<a.size/\F<b.size/\W+Z+1<=i2+F)) ?t1 ?t2 ?t3) ?t4);case t3=>exact⟨S,P,Y,L,_,p,q,rfl,j',g1,d,g3⟩
      case t2=>rintro c st2⟨S2,r⟩;exact⟨S2,.inr r⟩
      case t4=>
        rintro c st2⟨S2,⟨r,e,f⟩|⟨o2,i2,F,m2,p,q,rfl,j2,f1,f2,f3⟩⟩
        . obtain⟨c1,c2⟩:=c;obtain rfl:c1=AA r:=e;exact BG ⟨S2,r,rfl,f⟩
        .refine A5 (HY (BG ⟨S2.agd _,o2,i2,F,_,rfl,j2,f1,f2,by(first|lia|omega)⟩))
      case t1=>
        intro y c st2 _ R hI;refine AB λnG=>?_;obtain⟨S2,o2,i2,F,m2,p,q,rfl,j2,f1,f2,f3⟩:=hI;refine nG ?_;try clear nG
        refine(λ(U:∀m3:Nat,(?G:Nat->Prop) m3)=>?u) ?v;case u=>
          by_cases z:m2>1
          . refine Cf z ?_;generalize m2-1=m3;exact U m3
          . refine Ct z ?_;generalize m2=m3;exact U m3
        case v=>
          intro m3;refine A5 (HY ?_);have S3:=S2.agd m3;refine A5 (EL f2 ?_);refine(λ(U:∀(k i3:Nat)(o3:Array A4),DU (BQ kf) a.toList b.toList o3.toList i3 F->(∀m(l:m<a.size),i3<=m->BQ kf b[F] a[m])->i3+1<a.size->W+Z+1<=i3+F->(?G2:Nat->Nat->Array A4->Prop) k i3 o3)=>?u2) ?v2;case u2=>
            refine A5 (Lq C S3.sb (bm f2) ha (by dsimp only;(first|lia|omega)) (by dsimp only;(first|lia|omega)) (JC pa (by dsimp only;(first|lia|omega))) λk hk bl bg=>?_);dsimp only at hk;have n:∀m,m<k->∀(l:i2+m<a.size),BQ kf a[i2+m] b[F]:=λm z l=>by have:=bl m z;unfold Cc at this;rw[ABn C6,DG l]at this;show O.blt _ _=AO;simpa using this
            have runB:∀m,k<=m->∀(l:i2+m<a.size),BQ kf b[F] a[i2+m]:=λm z l=>by have:=bg m z (by(clear z n bg bl hk U f3 f2 R g3 d g1 h3 h2 t K e2 e1 j0 V first b1 a1;dsimp only;(first|lia|omega)));unfold Cc at this;rw[ABn C6,DG l]at this;exact Ip (by show O.blt _ _=AF;simpa using this)
            have j3:DU (BQ kf) a.toList b.toList (o2++a.extract i2 (i2+k)).toList (i2+k) F:=by rw[Y4];refine j2.zy pa λx K y R=>?_;obtain⟨m,l,hm2,rfl⟩:=NN K;obtain⟨m',hm',rfl⟩:=Lp R;exact Ft (n m l hm2) (lb hm')
            have pre:(k>0/\i2+k+1=a.size)\/(k>0/\i2+k=a.size)\/i2+k+1<a.size:=by(clear runB n bg bl U f3 f2 R g3 d g1 h3 h2 t K e2 e1 j0 V first b1 a1;(first|lia|omega))
            rcases pre with⟨zk,o⟩|⟨zk,o⟩|o
            . refine Cf zk (Cf (by simpa using o) ?_);exact BG ⟨S3,.inl ⟨_,rfl,fLast j3 o⟩⟩
            . refine Cf zk (Ct (by simp;(first|lia|omega)) (Cf (by simpa using o) ?_));exact BG ⟨S3,.inl ⟨_,rfl,X j3 (.inr o)⟩⟩
            have hB3:∀m(l:m<a.size),i2+k<=m->BQ kf b[F] a[m]:=λm l z=>by have:=runB (m-i2) (by(clear l o runB n bg bl hk U f3 f2 f1 R g3 d g1 h3 h2 t K e2 e1 j0 V first b1 a1;(first|lia|omega))) (by(clear o runB n bg bl hk U f3 f2 f1 R g3 d g1 h3 h2 t K e2 e1 j0 V first b1 a1;(first|lia|omega)));simpa[show i2+(m-i2)=m by(clear this l o runB n bg bl hk U f3 f2 f1 R g3 d g1 h3 h2 t K e2 e1 j0 V first b1 a1;(first|lia|omega))]using this
            by_cases zk:k>0
            . refine Cf zk (Ct (by simp;(first|lia|omega)) (Ct (by simp;(first|lia|omega)) ?_));generalize o2++a.extract i2 (i2+k)=o3 at j3⊢;have f3':W+Z+1<=(i2+k)+F:=by(first|lia|omega)
              generalize i2+k=i3 at j3 hB3 o f3'⊢;exact U k i3 o3 j3 hB3 o f3'
            . refine Ct zk ?_;have zk0:k=0:=by(clear hB3 o runB n bg bl hk U f3 f2 f1 R g3 d g1 h3 h2 t K e2 e1 j0 V first b1 a1;(first|lia|omega))
              have eo:o2++a.extract i2 (i2+k)=o2:=by rw[zk0];simp;(first|lia|omega)
              rw[eo,zk0,Sb]at j3;rw[zk0,Sb]at hB3 o;exact U k i2 o2 j3 hB3 o f3
          case v2=>
            intro k i3 o3 j3 hB3 o f3';have hi3:i3<a.size:=by(first|lia|omega)
            refine A5 (EL f2 ?_);have j4:=oneB (by(first|lia|omega)) f2 j3 (hB3 i3 (by(first|lia|omega)) (Af _));by_cases z3:F+1=b.size;. refine Cf (by simpa using z3) ?_;exact BG ⟨S3,.inl ⟨_,rfl,X j4 (.inl z3)⟩⟩
            refine Ct (by simpa using z3) ?_;refine A5 (EL (by(first|lia|omega):i3<a.size) ?_);refine(λ(U:∀(k' k5:Nat)(o5:Array A4),DU (BQ kf) a.toList b.toList o5.toList i3 k5->(∀m(l:m<b.size),k5<=m->BQ kf (a[i3]'hi3) b[m])->k5<b.size->W+Z+1<=i3+k5->(?G3:Nat->Nat->Array A4->Prop) k' k5 o5)=>?u3) ?v3;case u3=>
              refine A5 (Lq C S3.sb (am (by(first|lia|omega))) hb (by dsimp only;(first|lia|omega)) (by(clear U hi3 f3' o f3 f1 R g3 d g1 h3 h2 t K e2 e1 j0 V first b1 a1;dsimp only;(first|lia|omega))) (JC pb (by dsimp only;(first|lia|omega))) λk' hk' bl' bg'=>?_);dsimp only at hk';have T:∀m,m<k'->∀(l:F+1+m<b.size),BQ kf b[F+1+m] (a[i3]'(by(first|lia|omega))):=λm z l=>by have:=bl' m z;unfold Cc at this;rw[ABo rfl,DG l]at this;exact Ip this
              have H:∀m(l:m<b.size),F+1+k'<=m->BQ kf (a[i3]'(by(first|lia|omega))) b[m]:=λm l z=>by
                have:=bg' (m-(F+1)) (by(clear l T bg' bl' hk' U z3 j4 hi3 f3' o hB3 f3 f2 f1 R g3 d g1 h3 h2 t K e2 e1 j0 V first b1 a1;(first|lia|omega))) (by(clear T bg' bl' hk' U z3 hi3 f3' o f3 f1 R g3 d g1 h3 h2 t K e2 e1 j0 V first b1 a1;dsimp only;(first|lia|omega)));unfold Cc at this;rw[ABo rfl]at this;have e:F+1+(m-(F+1))=m:=by(clear this l T bg' bl' hk' U z3 j4 hi3 f3' o hB3 f3 f2 f1 R g3 d g1 h3 h2 t K e2 e1 j0 V first b1 a1;(first|lia|omega))
                rw[e,DG l]at this;exact this
              have j5:DU (BQ kf) a.toList b.toList (o3.push b[F]++b.extract (F+1) (F+1+k')).toList i3 (F+1+k'):=by rw[Y4];refine j4.abc pb λx K y R=>?_;obtain⟨m,l,hm2,rfl⟩:=NN K;obtain⟨m',hm',rfl⟩:=Lp R;exact Ft (T m l hm2) (la hm')
              have pre:(k'>0/\F+1+k'=b.size)\/F+1+k'<b.size:=by(clear H T bg' bl' U hi3 f3' o f3 f1 R g3 d g1 h3 h2 t K e2 e1 j0 V first b1 a1;(first|lia|omega))
              rcases pre with⟨zk',z4⟩|z4;. refine Cf zk' (Cf (by simpa using z4) ?_);exact BG ⟨S3,.inl ⟨_,rfl,X j5 (.inl z4)⟩⟩
              have f4':W+Z+1<=i3+(F+1+k'):=by(first|lia|omega)
              by_cases zk':k'>0
              . refine Cf zk' (Ct (by simp;(first|lia|omega)) ?_);generalize o3.push b[F]++b.extract (F+1) (F+1+k')=o5 at j5⊢;generalize F+1+k'=k5 at j5 H z4 f4'⊢;exact U k' k5 o5 j5 H z4 f4'
              . refine Ct zk' ?_;have zk0:k'=0:=by((first|lia|omega))
                have eo:o3.push b[F]++b.extract (F+1) (F+1+k')=o3.push b[F]:=by rw[zk0];simp;(clear zk0 zk' f4' z4 H T bg' bl' hk' U z3 hi3 f3' o f3 f1 R g3 d g1 h3 h2 t K e2 e1 j0 V first b1 a1;(first|lia|omega))
                rw[eo,zk0,Sb]at j5;rw[zk0,Sb]at H z4 f4';exact U k' _ _ j5 H z4 f4'
            case v3=>
              intro k' k5 o5 j5 H z4 f4';refine A5 (EL (by(first|lia|omega):i3<a.size) ?_);have j6:=oneA (by(first|lia|omega)) z4 j5 (H k5 z4 (Af _));by_cases z5:i3+1+1=a.size
              . refine Cf (by simpa using z5) ?_;exact BG ⟨S3,.inl ⟨_,rfl,fLast j6 z5⟩⟩
              refine Ct (by simpa using z5) ?_;by_cases z6:(AZ (k<7)&&AZ (k'<7))=AF;. refine Cf z6 ?_;exact BG ⟨S3,.inr ⟨_,_,_,_,_,_,rfl,j6,by(first|lia|omega),z4,by(first|lia|omega)⟩⟩
              . refine Ct z6 ?_;exact BG ⟨S3,_,_,_,_,_,_,rfl,j6,by(first|lia|omega),z4,by(first|lia|omega)⟩
theorem NM(a:Array A4)(h:n<=a.size):a.toList.reverse.drop (a.size-n)=(a.toList.take n).reverse:=by rw[List.drop_reverse];grind
theorem IH{a:Array A4}(h:n<=a.size)(J:x∈a.toList.reverse.drop (a.size-n)):∃m,∃(F:m<a.size),m<n/\x=a[m]:=by
 refine AB λD=>?_;obtain⟨m,F,e⟩:=F8.mp J;refine D ?_;try clear D
 grind
theorem NU(a:Array A4)(h:n<=a.size)(D:t<=n):(a.toList.reverse.drop (a.size-n)).take (n-t)=(a.extract t n).toList.reverse:=by rw[NM a h,List.take_reverse];simp;rw[List.drop_take];grind
theorem NO(a:Array A4)(h:n<=a.size)(D:1<=n):(a.toList.reverse.drop (a.size-n)).take 1=[a[n-1]]:=by have e:=NU a h (show n-1<=n by(first|lia|omega));rw[show n-(n-1)=1 by(first|lia|omega)]at e;rw[e];have:=NP (a:=a) (i:=n-1) (by(first|lia|omega));simp;grind
theorem Yt{D F l:List A4}(h:Ei (λp q=>R q p) D.reverse F.reverse l.reverse):Ei R D F l:=by refine⟨(wN l).symm.trans (h.1.trans (by grind)),?_⟩;exact pT.mp h.2
noncomputable abbrev FY{O:Sk}(kf:AK->O.α)(a b out:Array A4)(D F:Nat):Prop:=DU (λp q=>BQ kf q p) a.toList.reverse b.toList.reverse out.toList (a.size-D) (b.size-F)
theorem tV{R:Array A4}{st:CU}(C:E9 prog w A s κ O kf R)(B:CV κ R st){a b:Array A4}(ha:∀p∈a.toList,p∈R.toList)(hb:∀p∈b.toList,p∈R.toList)(l:1<=a.size)(b1:1<=b.size)(pa:a.toList.Pairwise (BQ kf))(pb:b.toList.Pairwise (BQ kf))(first:∀p∈a.toList,BQ kf b[0] p)(last:∀p∈b.toList,BQ kf p a[a.size-1])(h:∀m P,GF κ R st P->Ei (BQ kf) a.toList b.toList m.toList->Q m P):Dq (Ab prog w) A E s (tP a b) Q st:=by
  have pa':a.toList.reverse.Pairwise (λp q=>BQ kf q p):=pT.mpr pa;have pb':b.toList.reverse.Pairwise (λp q=>BQ kf q p):=pT.mpr pb;have fDone:∀{U:Array A4}{Y W:Nat},Y<=a.size->W<=b.size->FY kf a b U Y W->(Y=0\/W=0)->Ei (BQ kf) a.toList b.toList (a.extract 0 Y++b.extract 0 W++U.reverse).toList:=λ{U Y W}q1 q2 j e=>by
    refine Yt ?_;have el:(a.extract 0 Y++b.extract 0 W++U.reverse).toList.reverse=U.toList++b.toList.reverse.drop (b.size-W)++a.toList.reverse.drop (a.size-Y):=by rw[NM a q1,NM b q2];simp[SQ]
    rw[el];refine(j.aas.adh pb' pa' λx d y o=>?_).aas;obtain⟨m,hm,z,rfl⟩:=IH q2 d;obtain⟨m',hm',z',rfl⟩:=IH q1 o;(first|lia|omega)
  have n:∀{U:Array A4}{Y W:Nat},Y<=a.size->W<=b.size->FY kf a b U Y W->W=1->Ei (BQ kf) a.toList b.toList (b.extract 0 W++a.extract 0 Y++U.reverse).toList:=λ{U Y W}q1 q2 j e=>by
    refine Yt ?_;have el:(b.extract 0 W++a.extract 0 Y++U.reverse).toList.reverse=U.toList++a.toList.reverse.drop (a.size-Y)++b.toList.reverse.drop (b.size-W):=by rw[NM a q1,NM b q2];simp[SQ]
    rw[el];refine j.adh pa' pb' λx d y o=>?_;obtain⟨m,hm,z,rfl⟩:=IH q1 d;obtain⟨m',hm',z',rfl⟩:=IH q2 o;have:m'=0:=by(first|lia|omega)
    subst this;exact first _ (by simp)
  have am:∀{i:Nat}(hi:i<a.size),a[i]∈R.toList:=λhi=>ha _ (by simp);have bm:∀{i:Nat}(hi:i<b.size),b[i]∈R.toList:=λhi=>hb _ (by simp);have la:∀{i k:Nat}(hk:k<a.size)(h:i<=k),BQ kf (a[i]'(by(first|lia|omega))) a[k]:=λ{i k}hk h=>by have:=JC pa (lo:=0) (Af _) i k (by(first|lia|omega)) (by(first|lia|omega)) hk;rw[DG (by(first|lia|omega):i<a.size),DG hk]at this;exact this
  have lb:∀{i k:Nat}(hk:k<b.size)(h:i<=k),BQ kf (b[i]'(by(first|lia|omega))) b[k]:=λ{i k}hk h=>by have:=JC pb (lo:=0) (Af _) i k (by(first|lia|omega)) (by(first|lia|omega)) hk;rw[DG (by(first|lia|omega):i<b.size),DG hk]at this;exact this
  have oneA:∀{U:Array A4}{Y W:Nat}(h1:1<=Y)(h2:Y<=a.size)(h3:1<=W)(h4:W<=b.size),FY kf a b U Y W->BQ kf b[W-1] a[Y-1]->FY kf a b (U.push a[Y-1]) (Y-1) W:=λ{U Y W}h1 h2 h3 h4 j r=>by
    have e:(U.push a[Y-1]).toList=U.toList++(a.toList.reverse.drop (a.size-Y)).take 1:=by rw[NO a h2 h1];simp
    show DU _ _ _ (U.push a[Y-1]).toList _ _;rw[e,show a.size-(Y-1)=a.size-Y+1 by(clear r h4 h3 last first b1 l;(first|lia|omega))];refine j.zy pa' λx d y o=>?_;rw[NO a h2 h1,Bl]at d;obtain⟨m,hm,z,rfl⟩:=IH h4 o;rw[d];exact Ft (lb (by(first|lia|omega)) (by(first|lia|omega):m<=W-1)) r
  have oneB:∀{U:Array A4}{Y W:Nat}(h1:1<=Y)(h2:Y<=a.size)(h3:1<=W)(h4:W<=b.size),FY kf a b U Y W->BQ kf a[Y-1] b[W-1]->FY kf a b (U.push b[W-1]) Y (W-1):=λ{U Y W}h1 h2 h3 h4 j r=>by
    have e:(U.push b[W-1]).toList=U.toList++(b.toList.reverse.drop (b.size-W)).take 1:=by rw[NO b h4 h3];simp
    show DU _ _ _ (U.push b[W-1]).toList _ _;rw[e,show b.size-(W-1)=b.size-W+1 by(clear r h2 h1 last first b1 l;(first|lia|omega))];refine j.abc pb' λx d y o=>?_;rw[NO b h4 h3,Bl]at d;obtain⟨m,hm,z,rfl⟩:=IH h2 o;rw[d];exact Ft (la (by(first|lia|omega)) (by(first|lia|omega):m<=Y-1)) r
  refine A5 (M9 (HB ⟨rfl,?_⟩));refine A5 (EL (by(first|lia|omega):a.size-1<a.size) ?_);have j0:FY kf a b (#[a[a.size-1]]:Array A4) (a.size-1) b.size:=by
    refine⟨?_,by simp,λx d y o=>?_,λx d y o=>?_⟩
    . have:=NO a (Af _) l;rw[Sg,vT]at this;rw[show a.size-(a.size-1)=1 by(first|lia|omega),this];simp
    . simp only[Bl]at d;obtain⟨m,hm,z,rfl⟩:=IH (by(first|lia|omega)) o;rw[d];exact la (by(first|lia|omega)) (by(first|lia|omega))
    . simp only[Bl]at d;obtain⟨m,hm,z,rfl⟩:=IH (Af _) o;rw[d];exact last _ (by simp)
  by_cases e1:a.size-1=0
  . refine Cf (by simpa using e1) ?_;exact BG (h _ st ⟨B,rfl,rfl⟩ (fDone (by(first|lia|omega)) (Af _) j0 (.inl e1)))
  refine Ct (by simpa using e1) ?_;by_cases e2:b.size=1;. refine Cf (by simpa using e2) ?_;exact BG (h _ st ⟨B,rfl,rfl⟩ (n (by(first|lia|omega)) (Af _) j0 e2))
  refine Ct (by simpa using e2) ?_;refine A5 (Jl ?_);refine A5 (Ge (GA (I:=λx c P=>GF κ R st P/\∃Y W U g,c=(AD,Y,W,U,g)/\FY kf a b U Y W/\1<=Y/\Y<=a.size/\2<=W/\W<=b.size/\x+1+Y+W<=a.size+b.size) (Q:=λc P=>GF κ R st P/\∃r,c.1=AA r/\Ei (BQ kf) a.toList b.toList r.toList) ?step ?fin ?agk) ?post);case agk=>exact⟨⟨B,rfl,rfl⟩,_,_,_,_,rfl,j0,by(first|lia|omega),by(first|lia|omega),by(first|lia|omega),by(first|lia|omega),by(first|lia|omega)⟩
  case fin=>
    intro c P hI;refine AB λnG=>?_;obtain⟨S,Y,W,U,g,rfl,j,h1,h2,h3,h4,h5⟩:=hI;refine nG ?_;try clear nG
    (first|lia|omega)
  case post=>
    intro c P hI;refine AB λnG=>?_;obtain⟨S,r,e,f⟩:=hI;obtain⟨c1,c2⟩:=c;obtain rfl:c1=AA r:=e;refine nG ?_;try clear nG
    exact BG (h r P S f)
  case step=>
    intro x c st1 hx0 d hI;refine AB λnG=>?_;obtain⟨S,Y,W,U,g,rfl,j,h1,h2,h3,h4,h5⟩:=hI;refine nG ?_;try clear nG
    refine A5 (Ge (GA (I:=λy c P=>P=st1/\∃L M T p q,c=(AD,L,M,T,p,q)/\FY kf a b T L M/\1<=L/\L<=a.size/\2<=M/\M<=b.size/\L+M+y<=Y+W) (Q:=λc P=>P=st1/\((∃r,c.1=AA r/\Ei (BQ kf) a.toList b.toList r.toList)\/∃L M T p q,c=(AD,L,M,T,p,q)/\FY kf a b T L M/\1<=L/\L<=a.size/\2<=M/\M<=b.size/\L+M+1<=Y+W)) ?s1 ?s2 ?s3) ?s4);case s3=>exact⟨rfl,Y,W,U,0,0,rfl,j,h1,h2,h3,h4,Af _⟩
    case s2=>
      intro c P hI;refine AB λnG=>?_;obtain⟨rfl,L,M,T,p,q,rfl,j',g1,g2,g3,g4,g5⟩:=hI;refine nG ?_;try clear nG
      exact⟨rfl,.inr ⟨L,M,T,p,q,rfl,j',g1,g2,g3,g4,by(first|lia|omega)⟩⟩
    case s1=>
      intro y c P hy0 o hI;refine AB λnG=>?_;obtain⟨rfl,L,M,T,p,q,rfl,j',g1,g2,g3,g4,g5⟩:=hI;refine nG ?_;try clear nG
      clear hy0 h1 h2 h3 h4 h5 d hx0 e1 e2 j0 j first last;refine A5 (EL (by(first|lia|omega):M-1<b.size) (A5 (EL (by(first|lia|omega):L-1<a.size) (A5 (NQ C S.sb (bm (by(first|lia|omega))) (am (by(first|lia|omega))) ?_)))));cases e:O.blt (kf (b[M-1]'(by(first|lia|omega))).1) (kf (a[L-1]'(by(first|lia|omega))).1)with
      |true=>
        refine Cf rfl ?_;refine A5 (EL (by(first|lia|omega):L-1<a.size) ?_);have j2:=oneA g1 g2 (by(first|lia|omega)) g4 j' (Ip e);by_cases z:L-1=0;. refine Cf (by simpa using z) ?_;exact BG ⟨rfl,.inl ⟨_,rfl,fDone (by dsimp only;(first|lia|omega)) g4 j2 (.inl z)⟩⟩
        . refine Ct (by simpa using z) ?_;split;.exact BG ⟨rfl,.inr ⟨_,_,_,_,_,rfl,j2,by dsimp only;(first|lia|omega),by dsimp only;(first|lia|omega),g3,g4,by dsimp only;(first|lia|omega)⟩⟩
          .exact BG ⟨rfl,_,_,_,_,_,rfl,j2,by dsimp only;(first|lia|omega),by dsimp only;(first|lia|omega),g3,g4,by dsimp only;(first|lia|omega)⟩|false=>
        refine Ct C6 ?_;refine A5 (EL (by(first|lia|omega):M-1<b.size) ?_);have j2:=oneB g1 g2 (by(first|lia|omega)) g4 j' e;by_cases z:M-1=1;. refine Cf (by simpa using z) ?_;exact BG ⟨rfl,.inl ⟨_,rfl,n g2 (by dsimp only;(first|lia|omega)) j2 z⟩⟩
        . refine Ct (by simpa using z) ?_;split;.exact BG ⟨rfl,.inr ⟨_,_,_,_,_,rfl,j2,g1,g2,by(clear j2 e g5 g4 g2 g1 o b1 l;dsimp only;(first|lia|omega)),by dsimp only;(first|lia|omega),by dsimp only;(first|lia|omega)⟩⟩
          .exact BG ⟨rfl,_,_,_,_,_,rfl,j2,g1,g2,by(clear j2 e g5 g4 g2 g1 o b1 l;dsimp only;(first|lia|omega)),by dsimp only;(first|lia|omega),by dsimp only;(first|lia|omega)⟩
    case s4=>
      rintro c P⟨rfl,⟨r,e,f⟩|⟨L,M,T,p,q,rfl,j',g1,g2,g3,g4,g5⟩⟩
      . obtain⟨c1,c2⟩:=c;obtain rfl:c1=AA r:=e;exact BG ⟨S,r,rfl,f⟩
      refine A5 (M9 (HB ⟨rfl,?_⟩));refine A5 (Ge (GA (I:=λy c st2=>GF κ R st st2/\∃i2 Z o2 m2 p q,c=(AD,i2,Z,o2,m2,p,q)/\FY kf a b o2 i2 Z/\1<=i2/\i2<=a.size/\2<=Z/\Z<=b.size/\i2+Z+1<=Y+W) (Q:=λc st2=>GF κ R st st2/\((∃r,c.1=AA r/\Ei (BQ kf) a.toList b.toList r.toList)\/∃i2 Z o2 m2 p q,c=(AD,i2,Z,o2,m2,p,q)/\FY kf a b o2 i2 Z/\1<=i2/\i2<=a.size/\2<=Z/\Z<=b.size/\i2+Z+1<=Y+W)) ?t1 ?t2 ?t3) ?t4);case t3=>exact⟨S,L,M,T,_,p,q,rfl,j',g1,g2,g3,g4,g5⟩
      case t2=> rintro c st2⟨S2,r⟩;exact⟨S2,.inr r⟩
      case t4=>
        rintro c st2⟨S2,⟨r,e,f⟩|⟨i2,Z,o2,m2,p,q,rfl,j2,f1,f2,f3,f4,f5⟩⟩;. obtain⟨c1,c2⟩:=c;obtain rfl:c1=AA r:=e;exact BG ⟨S2,r,rfl,f⟩
        .refine A5 (HY (BG ⟨S2.agd _,i2,Z,o2,_,rfl,j2,f1,f2,f3,f4,by(first|lia|omega)⟩))
      case t1=>
        intro y c st2 hy0 o hI;refine AB λnG=>?_;obtain⟨S2,i2,Z,o2,m2,p,q,rfl,j2,f1,f2,f3,f4,f5⟩:=hI;refine nG ?_;try clear nG
        clear hy0 o j' g1 g2 g3 g4 g5 j h1 h2 h3 h4 h5 d hx0 e1 e2 j0 S first last;refine(λ(H:∀m3:Nat,(?G:Nat->Prop) m3)=>?u) ?v;case u=>
          by_cases z:m2>1
          . refine Cf z ?_;generalize m2-1=m3;exact H m3
          . refine Ct z ?_;generalize m2=m3;exact H m3
        case v=>
          intro m3;refine A5 (HY ?_);have S3:=S2.agd m3;have V:Z-1<b.size:=by(first|lia|omega)
          refine A5 (EL V ?_);refine(λ(H:∀(c i3:Nat)(o3:Array A4),FY kf a b o3 i3 Z->(∀m(hm:m<a.size),m<i3->BQ kf a[m] (b[Z-1]'V))->1<=i3->i3<=a.size->i3+Z+1<=Y+W->(?G2:Nat->Nat->Array A4->Prop) c i3 o3)=>?u2) ?v2;case u2=>
            refine A5 (Lq C S3.sb (bm V) ha (by dsimp only;(first|lia|omega)) (by dsimp only;(first|lia|omega)) (JC pa (by dsimp only;(first|lia|omega))) λt ht bl bg=>?_);dsimp only at ht;have F:∀m(hm:m<a.size),m<t->BQ kf a[m] (b[Z-1]'V):=λm hm z=>by have:=bl m z;unfold Cc at this;rw[ABn C6,DG (by(first|lia|omega):0+m<a.size)]at this;show O.blt _ _=AO;simpa using this
            have runB:∀m(hm:m<a.size),t<=m->m<i2->BQ kf (b[Z-1]'V) a[m]:=λm hm z z'=>by have:=bg m z z';unfold Cc at this;rw[ABn C6,DG (by(first|lia|omega):0+m<a.size)]at this;exact Ip (by show O.blt _ _=AF;simpa using this)
            have j3:FY kf a b (o2++(a.extract t i2).reverse) t Z:=by
              have e:(o2++(a.extract t i2).reverse).toList=o2.toList++(a.toList.reverse.drop (a.size-i2)).take (i2-t):=by rw[NU a f2 ht];simp
              show DU _ _ _ (o2++(a.extract t i2).reverse).toList _ _;rw[e,show a.size-t=a.size-i2+(i2-t)by(clear runB F bg bl H V f5 f4 f3 f1 b1 l;(first|lia|omega))];refine j2.zy pa' λx d y o=>?_;rw[NU a f2 ht,wJ]at d;simp only[ZN,SQ]at d;obtain⟨m,hm,hm2,rfl⟩:=NN d;obtain⟨m',hm',z,rfl⟩:=IH f4 o;exact Ft (lb (by(first|lia|omega)) (by(clear o hm' d hm2 hm runB F bg bl H V f5 f4 f2 f1 b1 l;(first|lia|omega)):m'<=Z-1)) (runB _ hm2 (by(first|lia|omega)) (by(clear o z hm' d hm2 runB F bg bl H V f5 f4 f3 f2 f1 b1 l;(first|lia|omega))))
            have pre:(i2-t>0/\t=0)\/1<=t:=by(clear runB F bg bl H V f5 f4 f3 f2 b1 l;(first|lia|omega))
            rcases pre with⟨zk,z1⟩|z1;. refine Cf zk (Cf (by simpa using z1) ?_);exact BG ⟨S3,.inl ⟨_,rfl,fDone (by(first|lia|omega)) f4 j3 (.inl z1)⟩⟩
            have t2:t<=a.size:=by(first|lia|omega)
            have N:t+Z+1<=Y+W:=by(first|lia|omega)
            by_cases zk:i2-t>0
            . refine Cf zk (Ct (by simp;(first|lia|omega)) ?_);generalize i2-t=c;generalize o2++(a.extract t i2).reverse=o3 at j3⊢;clear bl bg ht runB zk;generalize t=i3 at j3 F z1 t2 N⊢;exact H c i3 o3 j3 F z1 t2 N
            . refine Ct zk ?_;have zk0:t=i2:=by(clear N t2 z1 runB F bg bl H V f5 f4 f3 f2 f1 b1 l;(first|lia|omega))
              have eo:o2++(a.extract t i2).reverse=o2:=by rw[zk0];simp;(first|lia|omega)
              rw[eo,zk0]at j3;rw[zk0]at F z1 t2 N;generalize i2-t=c;exact H c i2 o2 j3 F z1 t2 N
          case v2=>
            intro c i3 o3 j3 F z1 t2 N;have X:i3-1<a.size:=by(first|lia|omega)
            refine A5 (EL V ?_);have j4:=oneB z1 t2 (by(first|lia|omega)) f4 j3 (F _ (by(first|lia|omega)) (by(first|lia|omega)));by_cases z3:Z-1=1
            . refine Cf (by simpa using z3) ?_;exact BG ⟨S3,.inl ⟨_,rfl,n t2 (by dsimp only;(first|lia|omega)) j4 z3⟩⟩
            refine Ct (by simpa using z3) ?_;refine A5 (EL (by(first|lia|omega):i3-1<a.size) ?_);refine(λ(H:∀(c' k5:Nat)(o5:Array A4),FY kf a b o5 i3 k5->(∀m(hm:m<b.size),m<k5->BQ kf b[m] (a[i3-1]'X))->2<=k5->k5<=b.size->i3+k5+1<=Y+W->(?G3:Nat->Nat->Array A4->Prop) c' k5 o5)=>?u3) ?v3;case u3=>
              refine A5 (Lq C S3.sb (am (by(first|lia|omega))) hb (by dsimp only;(first|lia|omega)) (by(clear H j4 X N t2 F V f5 f4 f2 f1 b1 l;dsimp only;(first|lia|omega))) (JC pb (by dsimp only;(first|lia|omega))) λt' ht' bl' bg'=>?_);dsimp only at ht';have D:∀m(hm:m<b.size),m<t'->BQ kf b[m] (a[i3-1]'(by(first|lia|omega))):=λm hm z=>by have:=bl' m z;unfold Cc at this;rw[ABo rfl,DG (by(first|lia|omega):0+m<b.size)]at this;exact Ip (by show O.blt _ _=AF;simpa using this)
              have K:∀m(hm:m<b.size),t'<=m->m<Z-1->BQ kf (a[i3-1]'(by(first|lia|omega))) b[m]:=λm hm z z'=>by have:=bg' m z z';unfold Cc at this;rw[ABo rfl,DG (by(first|lia|omega):0+m<b.size)]at this;show O.blt _ _=AO;simpa using this
              have j5:FY kf a b (o3.push (b[Z-1]'V)++(b.extract t' (Z-1)).reverse) i3 t':=by
                have e:(o3.push (b[Z-1]'V)++(b.extract t' (Z-1)).reverse).toList=(o3.push (b[Z-1]'V)).toList++(b.toList.reverse.drop (b.size-(Z-1))).take (Z-1-t'):=by rw[NU b (by(first|lia|omega)) ht'];simp
                show DU _ _ _ (o3.push (b[Z-1]'V)++(b.extract t' (Z-1)).reverse).toList _ _;rw[e,show b.size-t'=b.size-(Z-1)+(Z-1-t')by(clear K D bg' bl' H X N t2 f5 f2 f1 b1 l;(first|lia|omega))];refine j4.abc pb' λx d y o=>?_;rw[NU b (by(first|lia|omega)) ht',wJ]at d;simp only[ZN,SQ]at d;obtain⟨m,hm,hm2,rfl⟩:=NN d;obtain⟨m',hm',z,rfl⟩:=IH t2 o;exact Ft (la (by(first|lia|omega)) (by(clear o hm' d hm2 e K D bg' bl' ht' H j4 X N t2 F V f5 f4 f3 f2 f1 b1 l;(first|lia|omega)):m'<=i3-1)) (K _ hm2 (by(first|lia|omega)) (by(clear o z hm' d hm2 e K D bg' bl' H j4 X N t2 F V f5 f4 f2 f1 b1 l;(first|lia|omega))))
              have pre:(Z-1-t'>0/\t'=1)\/(Z-1-t'>0/\t'=0)\/2<=t':=by(clear j5 K D bg' bl' H j4 X N t2 F V f5 f4 f2 f1 b1 l;(first|lia|omega))
              rcases pre with⟨zk',z4⟩|⟨zk',z4⟩|z4;. refine Cf zk' (Cf (by simpa using z4) ?_);exact BG ⟨S3,.inl ⟨_,rfl,n t2 (by(clear zk' K D bg' bl' H z3 j4 X N t2 z1 f5 f4 f3 f2 f1 b1 l;(first|lia|omega))) j5 z4⟩⟩
              . refine Cf zk' (Ct (by simp;(first|lia|omega)) (Cf (by simpa using z4) ?_));exact BG ⟨S3,.inl ⟨_,rfl,fDone t2 (by(clear zk' K D bg' bl' H z3 j4 X N t2 z1 f5 f4 f3 f2 f1 b1 l;(first|lia|omega))) j5 (.inr z4)⟩⟩
              have t4:t'<=b.size:=by(first|lia|omega)
              have f6':i3+t'+1<=Y+W:=by(clear t4 j5 K D bg' bl' H j4 X t2 F V f5 f4 f2 f1 b1 l;(first|lia|omega))
              by_cases zk':Z-1-t'>0
              . refine Cf zk' (Ct (by simp;(first|lia|omega)) (Ct (by simp;(first|lia|omega)) ?_));generalize Z-1-t'=c';generalize o3.push (b[Z-1]'V)++(b.extract t' (Z-1)).reverse=o5 at j5⊢;clear bl' bg' ht' K zk';generalize t'=k5 at j5 D z4 t4 f6'⊢;exact H c' k5 o5 j5 D z4 t4 f6'
              . refine Ct zk' ?_;have zk0:t'=Z-1:=by(clear f6' t4 j5 K D bg' bl' H j4 X N t2 F V f5 f4 f2 f1 b1 l;(first|lia|omega))
                have eo:o3.push (b[Z-1]'V)++(b.extract t' (Z-1)).reverse=o3.push (b[Z-1]'V):=by rw[zk0];simp;(clear zk' f6' t4 z4 K D bg' bl' ht' H z3 j4 X N t2 z1 f5 f4 f3 f2 f1 b1 l;(first|lia|omega))
                rw[eo,zk0]at j5;rw[zk0]at D z4 t4 f6';generalize Z-1-t'=c';exact H c' _ _ j5 D z4 t4 f6'
            case v3=>
              intro c' k5 o5 j5 D z4 t4 f6';refine A5 (EL (by(first|lia|omega):i3-1<a.size) ?_);have j6:=oneA z1 t2 (by(first|lia|omega)) t4 j5 (D _ (by(clear f6' D z3 j4 X N t2 z1 F V f5 f4 f3 f2 f1 b1 l;(first|lia|omega))) (by(clear f6' t4 D z3 j4 X N t2 z1 F V f5 f4 f3 f2 f1 b1 l;(first|lia|omega))));by_cases z5:i3-1=0
              . refine Cf (by simpa using z5) ?_;exact BG ⟨S3,.inl ⟨_,rfl,fDone (by(first|lia|omega)) t4 j6 (.inl z5)⟩⟩
              refine Ct (by simpa using z5) ?_;split;.exact BG ⟨S3,.inr ⟨_,_,_,_,_,_,rfl,j6,by(first|lia|omega),by(first|lia|omega),z4,t4,by(clear j6 t4 z4 D j4 X N t2 F V f5 f4 f3 f2 f1 b1 l;(first|lia|omega))⟩⟩
              .exact BG ⟨S3,_,_,_,_,_,_,rfl,j6,by(first|lia|omega),by(first|lia|omega),z4,t4,by(clear j6 t4 z4 D j4 X N t2 F V f5 f4 f3 f2 f1 b1 l;(first|lia|omega))⟩
theorem Yu(p:Nat):∀(M:List A4)(n:Nat)(xs:Array A4),p+n+M.length<=xs.size->((M.zipIdx n).foldl (λa x=>a.setIfInBounds (p+x.2) x.1) xs).toList=xs.toList.take (p+n)++M++xs.toList.drop (p+n+M.length)
 |[],n,xs,h=>by simp|m::r,n,xs,h=>by
  rw[FT]at h;rw[wQ,List.foldl_cons,Yu p r _ _ (by simp;(first|lia|omega))];have D:p+n<xs.toList.length:=by simp;(first|lia|omega)
  simp only[vC];rw[List.drop_set_of_lt (by(first|lia|omega)),show p+(n+1)=p+n+1 by(first|lia|omega),DD,List.take_set_of_le (by(first|lia|omega)),FT];grind
theorem Yx{O:Sk}{kf:AK->O.α}{xs:Array A4}{lo hi:Nat}(h:hi<=xs.size)(u:DF kf xs lo hi):(xs.extract lo hi).toList.Pairwise (BQ kf):=by
 rw[Je];intro i j D J F;have e:∀k(V:k<(xs.extract lo hi).toList.length),(xs.extract lo hi).toList[k]=xs[lo+k]'(by grind):=(by grind);rw[e i _,e j J];have U:j<hi-lo:=by grind
 have:=u (lo+i) (lo+j) (by(first|lia|omega)) (by(first|lia|omega)) (by grind);rw[DG _,DG _]at this;exact this
theorem Yw{xs:Array A4}{lo:Nat}(h:hi<=xs.size)(D:p∈(xs.extract lo hi).toList):∃m,lo<=m/\m<hi/\∃(J:m<xs.size),p=xs[m]:=by
 simp at D;refine AB λF=>?_;obtain⟨m,J,U,rfl⟩:=NN D;refine F ?_;try clear F
 grind
theorem tN(xs:Array A4)(J:i<=j)(U:j<=k)(V:k<=xs.size):xs.toList=xs.toList.take i++((xs.extract i j).toList++(xs.extract j k).toList)++xs.toList.drop k:=by
 simp only[ZN,SQ];have D:M4 (k-i) (xs.toList.drop i)=M4 (j-i) (xs.toList.drop i)++M4 (k-j) (xs.toList.drop j):=by rw[show k-i=(j-i)+(k-j)by(first|lia|omega),wO,pG,show i+(j-i)=j by(first|lia|omega)]
 have F:xs.toList.drop i=M4 (k-i) (xs.toList.drop i)++xs.toList.drop k:=by conv=>lhs;rw[<-Sa _ (xs.toList.drop i),pG,show i+(k-i)=k by(first|lia|omega)]
 rw[<-D,F7,<-F,Sa]
theorem tY{A:Cj}{E:AK->AU->Prop}{s:AU}{M:IB}{D:Type}{t u:D}{Q:PUnit->D->Prop}(h:Q ⟨⟩ t):Dq M A E s (set t:StateT D Cs PUnit) Q u:=by exact Aw ⟨rfl,h⟩
theorem tU{a₀:Array A4}{st:CU}(C:E9 prog w A s κ O kf a₀)(B:CV κ a₀ st)(p1:(BZ st)[i]?=AA (G,H,pw))(p2:(BZ st)[i+1]?=AA (G+H,nb,pw'))(d:1<=H)(K:1<=nb)(hz:G+H+nb<=a₀.size)(ua:DF kf (Ai st) G (G+H))(ub:DF kf (Ai st) (G+H) (G+H+nb))(h:∀st',CV κ a₀ st'->BZ st'=((BZ st).setIfInBounds i (G,H+nb,pw)).eraseIdxIfInBounds (i+1)->DF kf (Ai st') G (G+(H+nb))->(∀k,k<G\/G+H+nb<=k->BE kf (Ai st') k=BE kf (Ai st) k)->Q AF st'):Dq (Ab prog w) A E s (mergeAt' i) Q st:=by
  have P:=B.wu;refine A5 (Jl ?_);rw[show(sortPriv%PySem.Builtin.SortState.pending) st=BZ st from rfl,p1,p2];dsimp only;refine A5 (tY (t:=X9 (YA st) (Ai st) (((BZ st).setIfInBounds i (G,H+nb,pw)).eraseIdxIfInBounds (i+1)) (gallopOf st) (M7 st)) ?_);have memA:∀p∈(Ai st).toList,p∈a₀.toList:=λp hp=>(Pm.mp B.nq).mem_iff.mp hp;have L:G+H<(Ai st).size:=by(first|lia|omega)
  refine A5 (EL L ?_);generalize hst1:X9 (YA st) (Ai st) (((BZ st).setIfInBounds i (G,H+nb,pw)).eraseIdxIfInBounds (i+1)) (gallopOf st) (M7 st)=st1;have B1:CV κ a₀ st1:=by rw[<-hst1];exact⟨B.nq,B.fo,B.qa⟩
  have ar1:Ai st1=Ai st:=by rw[<-hst1]
  have pe1:BZ st1=((BZ st).setIfInBounds i (G,H+nb,pw)).eraseIdxIfInBounds (i+1):=by rw[<-hst1]
  have J:BE kf (Ai st) (G+H)=kf ((Ai st)[G+H]'L).1:=DG L;refine A5 (Lq (left:=AO) (key:=(Ai st)[G+H]'L) (base:=G) (n:=H) (hint:=0) C B1 (memA _ (by simp)) memA (by(first|lia|omega)) (by(first|lia|omega)) ua λk hk c T=>?_);have lowA:∀j,G<=j->j<G+k->O.kle (BE kf (Ai st) j) (BE kf (Ai st) (G+H)):=λj j1 j2=>by have:=c (j-G) (by(first|lia|omega));unfold Cc at this;rw[ABn C6,<-J,show G+(j-G)=j by(first|lia|omega)]at this;show O.blt _ _=AO;simpa using this
  have highA:∀j,G+k<=j->j<G+H->O.kle (BE kf (Ai st) (G+H)) (BE kf (Ai st) j):=λj j1 j2=>by have:=T (j-G) (by(first|lia|omega)) (by(first|lia|omega));unfold Cc at this;rw[ABn C6,<-J,show G+(j-G)=j by(first|lia|omega)]at this;exact Ip (by show O.blt _ _=AF;simpa using this)
  dsimp only;by_cases R:H-k=0
  . refine Cf (by simpa using R) ?_;refine BG (h st1 B1 pe1 ?_ λz _=>by rw[ar1]);rw[ar1];intro x y v h2 h3;by_cases hx:x<G+H
    . by_cases hy:y<G+H;.exact ua x y v h2 hy
      .exact Ft (lowA x v (by(first|lia|omega))) (ub _ y (Af _) (by(first|lia|omega)) (by(first|lia|omega)))
    .exact ub x y (by(first|lia|omega)) h2 (by(first|lia|omega))
  refine Ct (by simpa using R) ?_;have I:G+k+(H-k)-1<(Ai st).size:=by(clear R P hz K d;(first|lia|omega))
  refine A5 (EL I ?_);have F:BE kf (Ai st) (G+H-1)=kf ((Ai st)[G+k+(H-k)-1]'I).1:=by rw[<-DG (kf:=kf) I];congr 1;(first|lia|omega)
  refine A5 (Lq (left:=AF) (key:=(Ai st)[G+k+(H-k)-1]'I) (base:=G+H) (n:=nb) (hint:=nb-1) C B1 (memA _ (by simp)) memA (by(first|lia|omega)) (by(first|lia|omega)) ub λk' Z W V=>?_);have lowB:∀j,G+H<=j->j<G+H+k'->O.kle (BE kf (Ai st) j) (BE kf (Ai st) (G+H-1)):=λj j1 j2=>by have:=W (j-(G+H)) (by(first|lia|omega));unfold Cc at this;rw[ABo rfl,<-F,show G+H+(j-(G+H))=j by(clear j2 V W Z F I R T c hk J L P hz K d;(first|lia|omega))]at this;exact Ip this
  have highB:∀j,G+H+k'<=j->j<G+H+nb->O.kle (BE kf (Ai st) (G+H-1)) (BE kf (Ai st) j):=λj j1 j2=>by have:=V (j-(G+H)) (by(clear j2 V W Z F I R T c hk J L P hz K d;(first|lia|omega))) (by(first|lia|omega));unfold Cc at this;rw[ABo rfl,<-F,show G+H+(j-(G+H))=j by(first|lia|omega)]at this;exact this
  dsimp only;by_cases o:k'=0
  . refine Cf (by simpa using o) ?_;refine BG (h st1 B1 pe1 ?_ λz _=>by rw[ar1]);rw[ar1];intro x y v h2 h3;by_cases hx:x<G+H
    . by_cases hy:y<G+H;.exact ua x y v h2 hy
      .exact Ft (ua x (G+H-1) v (by(clear hy h3 h2 v o V W Z F I R T c hk J L P hz K d;(first|lia|omega))) (by(clear hy h3 h2 v o V W Z F I R T c hk J L P hz K d;(first|lia|omega)))) (highB y (by(first|lia|omega)) (by(first|lia|omega)))
    .exact ub x y (by(first|lia|omega)) h2 (by(first|lia|omega))
  refine Ct (by simpa using o) ?_;generalize hX:(Ai st).extract (G+k) (G+H)=X;generalize hY:(Ai st).extract (G+H) (G+H+k')=Y;have pX:X.toList.Pairwise (BQ kf):=by rw[<-hX];exact Yx (by(first|lia|omega)) λa b q1 q2 q3=>ua a b (by(first|lia|omega)) q2 q3
  have pY:Y.toList.Pairwise (BQ kf):=by rw[<-hY];exact Yx (by(first|lia|omega)) λa b q1 q2 q3=>ub a b (by(first|lia|omega)) q2 (by(first|lia|omega))
  have l:X.size=H-k:=by rw[<-hX];simp;(clear o V W Z F I R P hz K d;(first|lia|omega))
  have zY:Y.size=k':=by rw[<-hY];simp;(clear l o V W F I R hk K d;(first|lia|omega))
  have mX:∀p∈X.toList,∃m,G+k<=m/\m<G+H/\∃(hm:m<(Ai st).size),p=(Ai st)[m]:=λp hp=>Yw (by(first|lia|omega)) (by rw[hX];exact hp);have mY:∀p∈Y.toList,∃m,G+H<=m/\m<G+H+k'/\∃(hm:m<(Ai st).size),p=(Ai st)[m]:=λp hp=>Yw (by(first|lia|omega)) (by rw[hY];exact hp);have g:Y[0]'(by(clear l V W Z F I R T c J L P hz K d;(first|lia|omega)))=(Ai st)[G+H]'L:=by subst hY;simp
  have r:X[X.size-1]'(by(clear g V W Z F I T c J L P hz K;(first|lia|omega)))=(Ai st)[G+H-1]'(by(clear g zY l o Z R hk P hz K d;(first|lia|omega))):=by subst hX;rw[Array.getElem_extract];congr 1;rw[l];(clear l g V W Z F I T c J L P hz K;(first|lia|omega))
  have D:∀p∈X.toList,BQ kf (Y[0]'(by(clear r g l V W Z F I R T c J L P hz K d;(first|lia|omega)))) p:=λp hp=>by obtain⟨m,q1,q2,hm,rfl⟩:=mX p hp;rw[g];have:=highA m q1 q2;rw[J,DG hm]at this;exact this
  have U:∀p∈Y.toList,BQ kf p (X[X.size-1]'(by(clear r g V W Z F I T c J L P hz K;(first|lia|omega)))):=λp hp=>by obtain⟨m,q1,q2,hm,rfl⟩:=mY p hp;rw[r];have:=lowB m q1 q2;rw[DG hm,DG (by(clear this hp hm q2 q1 D r g zY l o Z R hk P hz K d;(first|lia|omega)):G+H-1<(arrOf st).size)]at this;exact this
  have inX:∀p∈X.toList,p∈a₀.toList:=λp hp=>by obtain⟨m,q1,q2,hm,rfl⟩:=mX p hp;exact memA _ (by simp)
  have inY:∀p∈Y.toList,p∈a₀.toList:=λp hp=>by obtain⟨m,q1,q2,hm,rfl⟩:=mY p hp;exact memA _ (by simp)
  have fin:∀(M:Array A4)(u:CU),GF κ a₀ st1 u->Ei (BQ kf) X.toList Y.toList M.toList->Q AF (M8 u (M.toList.zipIdx.foldl (λa x=>a.setIfInBounds (G+k+x.2) x.1) (Ai u))):=λM u S f=>by
    have lM:M.toList.length=(H-k)+k':=by rw[f.1.length_eq,CY];simp[l,zY]
    have ar2:Ai u=Ai st:=S.agx.trans ar1;have el:=Yu (G+k) M.toList 0 (Ai st) (by(first|lia|omega));rw[Sb,lM,show G+k+(H-k+k')=G+H+k' by(clear U D r g l o V W Z F I R T c J L P hz K d;(first|lia|omega))]at el;generalize hN:M.toList.zipIdx.foldl (λa x=>a.setIfInBounds (G+k+x.2) x.1) (Ai u)=N;have eN:N.toList=(Ai st).toList.take (G+k)++M.toList++(Ai st).toList.drop (G+H+k'):=by rw[<-hN,ar2];exact el
    have perm:N.Perm (Ai u):=by
      rw[ar2,Pm,eN];have sp:=tN (Ai st) (i:=G+k) (j:=G+H) (k:=G+H+k') (by(first|lia|omega)) (by(first|lia|omega)) (by(first|lia|omega));rw[hX,hY]at sp;conv=>rhs;rw[sp]
      exact AAo _ (pD _ f.1)
    have lt:((Ai st).toList.take (G+k)).length=G+k:=by simp;(clear lM U D r g zY l o V W Z F I R P hz K d;(first|lia|omega))
    have nOut:∀z,z<G+k\/G+H+k'<=z->N[z]?=(Ai st)[z]?:=λz hz'=>by
      rw[<-Ju,<-Ju,eN];rcases hz' with q|q;.rw[F7,O4 (by(clear lM U D r g zY l o V W Z F I R T c hk J L P hz K d;(first|lia|omega))),wC q]
      . rw[LY (by rw[CY];(clear U D r g l o V W Z F I R T c J L P hz K d;(first|lia|omega))),CY,lt,lM,List.getElem?_drop];congr 1;(clear U D r g l o V W Z F I R T c J L P hz K d;(first|lia|omega))
    have nIn:∀z,G+k<=z->z<G+H+k'->N[z]?=M[z-(G+k)]?:=λz q1 q2=>by rw[<-Ju,<-Ju,eN,F7,LY (by(clear q2 lM U D r g zY l o V W Z F I R T c hk J L P hz K d;(first|lia|omega))),lt,O4 (by(clear U D r g l o V W Z F I R T c J L P hz K d;(first|lia|omega)))]
    have upM:DF kf M 0 M.size:=JC f.2 (Af _);have sM:M.size=(H-k)+k':=by rw[<-lM];simp
    have inM:∀z,G+k<=z->z<G+H+k'->∃m,G+k<=m/\m<G+H+k'/\BE kf N z=BE kf (Ai st) m:=λz q1 q2=>by
      have hz2:z-(G+k)<M.size:=by(clear U D r g l o V W Z F I R T c J L P hz K d;(first|lia|omega))
      have hm:M[z-(G+k)]∈X.toList++Y.toList:=f.1.mem_iff.mp (by simp);rw[FA (nIn z q1 q2),DG hz2];rcases CT.mp hm with q|q;. obtain⟨m,q1,q2,hm,e⟩:=mX _ q;exact⟨m,q1,by(clear e hm q1 sM lM U D r g l o V W Z F I R T c hk J L P hz K d;(first|lia|omega)),by rw[e,DG hm]⟩
      . obtain⟨m,q1,q2,hm,e⟩:=mY _ q;exact⟨m,by(clear e hm q2 sM lM U D r g zY l o V W Z F I R T c J L P hz K d;(first|lia|omega)),q2,by rw[e,DG hm]⟩
    refine h _ (S.sb.acr perm) (S.aaq.trans pe1) ?_ λz hz'=>FA (nOut z (by(clear sM lM U D r g l o V W F I R T c hk J L P hz K d;(first|lia|omega))));show DF kf N G (G+(H+nb));intro x y v h2 h3;by_cases x1:x<G+k
    . rw[FA (nOut x (.inl x1))];have all:∀m,G+k<=m->m<G+H+nb->O.kle (BE kf (Ai st) x) (BE kf (Ai st) m):=λm q1 q2=>by
        by_cases q3:m<G+H;.exact ua x m v (by(clear q3 q2 h3 h2 v sM lM U D r g zY l o V W Z F I R T c hk J L P hz K d;(first|lia|omega))) q3
        .exact Ft (lowA x v x1) (ub _ m (Af _) (by(clear q2 q1 x1 h3 h2 v sM lM U D r g zY l o V W Z F I R T c hk J L P hz K d;(first|lia|omega))) q2)
      by_cases y1:y<G+k
      . rw[FA (nOut y (.inl y1))];exact ua x y v h2 (by(clear x1 h3 h2 v sM lM U D r g zY l o V W Z F I R T c J L P hz K d;(first|lia|omega)))
      . by_cases y2:y<G+H+k'
        . obtain⟨m,q1,q2,e⟩:=inM y (by(clear y2 x1 h3 h2 v sM lM U D r g zY l o V W Z F I R T c hk J L P hz K d;(first|lia|omega))) y2;rw[e];exact all m q1 (by(clear q1 y2 y1 x1 h3 h2 v sM lM U D r g l o V W F I R T c hk J L P hz K d;(first|lia|omega)))
        . rw[FA (nOut y (.inr (by(clear y1 x1 h3 h2 v sM lM U D r g l o V W Z F I R T c hk J L P hz K d;(first|lia|omega)))))];exact all y (by(clear y2 x1 h3 h2 v sM lM U D r g zY l o V W Z F I R T c hk J L P hz K d;(first|lia|omega))) (by(clear y2 y1 x1 h2 v sM lM U D r g zY l o V W Z F I R T c hk J L P hz K d;(first|lia|omega)))
    . by_cases x2:x<G+H+k'
      . by_cases y2:y<G+H+k'
        . rw[FA (nIn x (by(clear y2 x2 h3 h2 v sM lM U D r g zY l o V W Z F I R T c hk J L P hz K d;(first|lia|omega))) x2),FA (nIn y (by(clear y2 x2 h3 v sM lM U D r g zY l o V W Z F I R T c hk J L P hz K d;(first|lia|omega))) y2)];exact upM _ _ (by(first|lia|omega)) (by(clear y2 x2 h3 v sM lM U D r g zY l o V W Z F I R T c hk J L P hz K d;(first|lia|omega))) (by(clear x2 h3 v U D r g l o V W Z F I R T c J L P hz K d;(first|lia|omega)))
        . rw[FA (nOut y (.inr (by(clear x2 x1 h3 h2 v sM lM U D r g l o V W Z F I R T c hk J L P hz K d;(first|lia|omega)))))];obtain⟨m,q1,q2,e⟩:=inM x (by(clear y2 x2 h3 h2 v sM lM U D r g zY l o V W Z F I R T c hk J L P hz K d;(first|lia|omega))) x2;rw[e];by_cases q3:m<G+H;.exact Ft (ua m (G+H-1) (by(clear q3 q2 y2 x2 x1 h3 h2 v sM lM U D r g zY l o V W Z F I R T c hk J L P hz K d;(first|lia|omega))) (by(clear q2 q1 y2 x2 x1 h3 h2 v sM lM U D r g zY l o V W Z F I R T c hk J L P hz K;(first|lia|omega))) (by(clear q2 q1 y2 x2 x1 h3 h2 v sM lM U D r g zY l o V W Z F I R T c hk J L P hz K d;(first|lia|omega)))) (highB y (by(clear q3 q2 q1 x2 x1 h3 h2 v sM lM U D r g l o V W Z F I R T c hk J L P hz K d;(first|lia|omega))) (by(clear q3 q2 q1 y2 x2 x1 h2 v sM lM U D r g zY l o V W Z F I R T c hk J L P hz K d;(first|lia|omega))))
          .exact ub m y (by(clear q2 q1 y2 x2 x1 h3 h2 v sM lM U D r g zY l o V W Z F I R T c hk J L P hz K d;(first|lia|omega))) (by(clear q3 q1 x2 x1 h3 h2 v sM lM U D r g l o V W Z F I R T c hk J L P hz K d;(first|lia|omega))) (by(clear q3 q2 q1 y2 x2 x1 h2 v sM lM U D r g zY l o V W Z F I R T c hk J L P hz K d;(first|lia|omega)))
      . rw[FA (nOut x (.inr (by(clear x1 h3 h2 v sM lM U D r g l o V W Z F I R T c hk J L P hz K d;(first|lia|omega))))),FA (nOut y (.inr (by(clear x1 h3 v sM lM U D r g l o V W Z F I R T c hk J L P hz K d;(first|lia|omega)))))];exact ub x y (by(clear x1 h3 h2 v sM lM U D r g l o V W Z F I R T c hk J L P hz K d;(first|lia|omega))) h2 (by(clear x2 x1 h2 v sM lM U D r g zY l o V W Z F I R T c hk J L P hz K d;(first|lia|omega)))
  have fin2:∀(M:Array A4)(u:CU),GF κ a₀ st1 u->Ei (BQ kf) X.toList Y.toList M.toList->M7 (M8 u (M.toList.zipIdx.foldl (λa x=>a.setIfInBounds (G+k+x.2) x.1) (Ai u)))=AD:=λM u S _=>S.sb.qa;by_cases le:H-k<=k'
  . refine Cf le ?_;refine A5 (tW C B1 inX inY (by(clear le r g V W Z F I T c J L P hz K;(first|lia|omega))) (by(clear le U r g l V W Z F I R T c J L P hz K d;(first|lia|omega))) pX pY D U λM u S f=>?_);refine A5 (HY (A5 (Jl ?_)));have:=fin M u S f;have e:=fin2 M u S f;refine BG ?_;show Q (M7 (M8 u _)).isNone _;rw[e];exact this
  . refine Ct le ?_;refine A5 (tV C B1 inX inY (by(clear U D r g o V W Z F I R T c hk J L P hz K d;(first|lia|omega))) (by(clear le U r g l V W Z F I R T c J L P hz K d;(first|lia|omega))) pX pY D U λM u S f=>?_);refine A5 (HY (A5 (Jl ?_)));have:=fin M u S f;have e:=fin2 M u S f;refine BG ?_;show Q (M7 (M8 u _)).isNone _;rw[e];exact this
noncomputable def EW{O:Sk}(kf:AK->O.α)(xs:Array A4):Nat->List (Nat×Nat×Nat)->Nat->Prop|x,[],y=>x=y|x,(s,n,_)::r,y=>s=x/\1<=n/\DF kf xs s (s+n)/\EW kf xs (x+n) r y
theorem EW.le{O:Sk}{kf:AK->O.α}{xs:Array A4}:∀{l:List (Nat×Nat×Nat)}{x y:Nat},EW kf xs x l y->x+l.length<=y
 |[],x,y,h=>by have h:x=y:=h;grind|(s,n,p)::r,x,y,h=>by
  refine AB λD=>?_;obtain⟨_,J,_,F⟩:=h;refine D ?_;try clear D
  have:=EW.le F;grind
theorem NL{O:Sk}{kf:AK->O.α}{xs:Array A4}:∀{l m:List (Nat×Nat×Nat)}{x z:Nat},EW kf xs x (l++m) z↔∃y,EW kf xs x l y/\EW kf xs y m z
  |[],m,x,z=>⟨λh=>⟨x,rfl,h⟩,λ⟨y,D,J⟩=>by have D:x=y:=D;grind⟩|(s,n,p)::r,m,x,z=>by
    constructor
    . intro Y;refine AB λF=>?_;obtain⟨D,J,U,Z⟩:=Y;obtain⟨y,V,W⟩:=NL.mp Z;refine F ?_;try clear F
      exact⟨y,⟨D,J,U,V⟩,W⟩
    . intro Y;refine AB λF=>?_;obtain⟨y,⟨D,J,U,V⟩,W⟩:=Y;refine F ?_;try clear F
      exact⟨D,J,U,NL.mpr ⟨y,V,W⟩⟩
theorem EW.ae{O:Sk}{kf:AK->O.α}{xs ys:Array A4}:∀{l:List (Nat×Nat×Nat)}{x y:Nat},EW kf xs x l y->(∀k,x<=k->k<y->BE kf ys k=BE kf xs k)->EW kf ys x l y|[],x,y,h,_=>h|(s,n,p)::r,x,y,⟨J,U,V,D⟩,k=>by have:=EW.le D;subst J;exact⟨rfl,U,λi j F W Y=>by rw[k i F (by(first|lia|omega)),k j (by(first|lia|omega)) (by(first|lia|omega))];exact V i j F W Y,EW.ae D (by grind)⟩
theorem Y0{F:Array A4}{st:CU}(C:E9 prog w A s L O kf F)(B:CV L F st)(c:EW kf (Ai st) 0 (BZ st).toList hi)(l:i+1<(BZ st).size)(hz:hi<=F.size)(h:∀D,CV L F D->(BZ D).size+1=(BZ st).size->EW kf (Ai D) 0 (BZ D).toList hi->(∀k,hi<=k->BE kf (Ai D) k=BE kf (Ai st) k)->Q AF D):Dq (Ab prog w) A E s (mergeAt' i) Q st:=by
  refine AB λJ=>?_;obtain⟨⟨U,V,K⟩,P⟩:∃x,(BZ st)[i]?=AA x:=⟨_,AB1 _ i (by(first|lia|omega))⟩;obtain⟨⟨j,W,H⟩,R⟩:∃x,(BZ st)[i+1]?=AA x:=(by grind);refine J ?_;try clear J
  have Y:(BZ st).toList=(BZ st).toList.take i++(U,V,K)::(j,W,H)::(BZ st).toList.drop (i+2):=by
    have Z:i<(BZ st).toList.length:=by grind
    have q:i+1<(BZ st).toList.length:=by grind
    conv=>lhs;rw[<-Sa i (BZ st).toList]
    congr 1;rw[pH Z,pH q];grind
  have G:((BZ st).toList.take i).length=i:=by grind
  generalize(BZ st).toList.take i=Z at Y G;generalize(BZ st).toList.drop (i+2)=q at Y;rw[Y]at c;refine AB λJ=>?_;obtain⟨y,N,⟨a,b,d,⟨e,f,g,I⟩⟩⟩:=NL.mp c;refine J ?_;try clear J
  subst a e;have S:=I.le;refine tU C B P R b f (by(first|lia|omega)) d g λD M T u k=>h D M ?_ ?_ (by grind);.grind
  . have X:(BZ D).toList=Z++(U,V+W,K)::q:=by rw[T];simp only[Array.toList_eraseIdxIfInBounds,vC,Y];rw[List.set_append_right _ _ (by(first|lia|omega)),G,Sg,List.set_cons_zero,List.eraseIdx_append_of_length_le (by(first|lia|omega)),G];simp
    rw[X];refine NL.mpr ⟨U,N.ae (by grind),rfl,by(first|lia|omega),u,?_⟩;rw[show U+(V+W)=U+V+W by(first|lia|omega)];exact I.ae (by grind)
theorem Yr{O:Sk}{kf:AK->O.α}{xs:Array A4}:∀{l m:List (Nat×Nat×Nat)}{x y:Nat},l.map (λv=>(v.1,v.2.1))=m.map (λv=>(v.1,v.2.1))->EW kf xs x l y->EW kf xs x m y|[],[],_,_,_,h=>h|[],_::_,_,_,e,_=>by cases e|_::_,[],_,_,e,_=>by cases e|(a,n,p)::l,(b,k,q)::m,x,y,e,⟨F,J,U,V⟩=>by have e:=D5 e;have D:=e.1;cases D;exact⟨F,J,U,Yr e.2 V⟩
theorem Yy{Z:O8}{O:Sk}{kf:AK->O.α}{F:Array A4}{D:CU}{lo m x:Nat}(U:CV Z F D)(V:EW kf (Ai D) 0 (BZ D).toList lo)(u3:DF kf (Ai D) lo (lo+m))(W:1<=m)(Y:lo+m<=F.size)(q:x<=lo\/F.size<=lo):CV Z F (YD D ((BZ D).push (lo,m,0)))/\∃J,((AD,lo+m):Option Unit×Nat)=(AD,J)/\(x+1<=J\/F.size<=J)/\J<=F.size/\EW kf (Ai (YD D ((BZ D).push (lo,m,0)))) 0 (BZ (YD D ((BZ D).push (lo,m,0)))).toList J:=by refine⟨⟨U.nq,U.fo,U.qa⟩,_,rfl,by(first|lia|omega),Y,?_⟩;rw[ZO];exact NL.mpr ⟨lo,V,rfl,W,u3,rfl⟩
theorem tX{D:Array A4}{st:CU}(C:E9 prog w A s L O kf D)(B:CV L D st)(p0:BZ st=#[])(h:∀V,CV L D V->DF kf (Ai V) 0 D.size->Q () V):Dq (Ab prog w) A E s sortRuns' Q st:=by
  rw[sortRuns'_eq];refine A5 (Jl ?_);dsimp only;simp only[B.wu];generalize minRun' D.size D.size 0=o;refine A5 (Ge (GA (I:=λx c V=>CV L D V/\∃W,c=(AD,W)/\(x<=W\/D.size<=W)/\W<=D.size/\EW kf (Ai V) 0 (BZ V).toList W) (Q:=λc V=>CV L D V/\c=(AD,D.size)/\EW kf (Ai V) 0 (BZ V).toList D.size) ?step ?fin ?agk) ?post);case agk=>exact⟨B,0,rfl,.inl (Af _),Bd _,by rw[p0];rfl⟩
  case fin=>
    intro c V Z;refine AB λU=>?_;obtain⟨S,W,rfl,r,e,c⟩:=Z;obtain rfl:W=D.size:=by(first|lia|omega)
    refine U ?_;try clear U
    exact⟨S,rfl,c⟩
  case post=>
    intro c V Z;refine AB λU=>?_;obtain⟨S,rfl,c⟩:=Z;refine U ?_;try clear U
    dsimp only;refine A5 (Ge (GA (I:=λx c F=>c=(AD,())/\CV L D F/\EW kf (Ai F) 0 (BZ F).toList D.size/\((BZ F).size+x<=D.size\/(BZ F).size<=1)) (Q:=λc F=>c=(AD,())/\CV L D F/\EW kf (Ai F) 0 (BZ F).toList D.size/\(BZ F).size<=1) ?t1 ?t2 ?t3) ?t4);case t3=>exact⟨rfl,S,c,.inl (by have:=c.le;simp at this;(first|lia|omega))⟩
    case t2=>
      intro Y F Z;refine AB λU=>?_;obtain⟨rfl,K,Y,q⟩:=Z;refine U ?_;try clear U
      exact⟨rfl,K,Y,by(first|lia|omega)⟩
    case t4=>
      intro Y F Z;refine AB λU=>?_;obtain⟨rfl,K,Y,q⟩:=Z;refine U ?_;try clear U
      refine BG (h F K ?_);generalize(BZ F)=P at Y q;obtain⟨l⟩:=P;match l,q,Y with
      |[],_,Y=> have Y:0=D.size:=Y;intro i j _ _ q3;(first|lia|omega)|[(a,n,p)],_,Y=>
        refine AB λU=>?_;obtain⟨e1,_,u,e2⟩:=Y;refine U ?_;try clear U
        have e2:0+n=D.size:=e2;subst e1;rw[<-e2];exact u
    case t1=>
      intro x Y F _ g Z;refine AB λU=>?_;obtain⟨rfl,K,Y,q⟩:=Z;refine U ?_;try clear U
      refine A5 (Jl ?_);by_cases z:(BZ F).size<=1;. refine Cf z ?_;exact BG ⟨rfl,K,Y,z⟩
      . refine Ct z ?_;generalize hi:(if Option.any (λx=>AZ (x<(BZ F)[(BZ F).size-2+1]?.elim 0 (λx=>x.2.1))) _=AF then(BZ F).size-2-1 else(BZ F).size-2)=i;have aux:∀(c:Prop)[Decidable c](u v N:Nat),u+1<N->v+1<N->(if c then u else v)+1<N:=λc _ u v N h1 h2=>by split<;>assumption
        refine A5 (Y0 C K Y (by rw[<-hi];exact aux _ _ _ _ (by(first|lia|omega)) (by(first|lia|omega))) (Af _) λG T z3 X _=>?_);exact BG ⟨rfl,T,X,by(first|lia|omega)⟩
  case step=>
    intro x c V _ g Z;refine AB λU=>?_;obtain⟨S,W,rfl,r,e,c⟩:=Z;refine U ?_;try clear U
    dsimp only;by_cases z:W>=D.size
    . refine Cf z ?_;obtain rfl:W=D.size:=by(first|lia|omega)
      exact BG ⟨S,rfl,c⟩
    refine Ct z ?_;refine A5 (tT C (by(first|lia|omega)) (by(first|lia|omega)) S λn F K K2 n1 n2 u2=>?_);have Y:EW kf (Ai F) 0 (BZ F).toList W:=by rw[K2.aaq];exact c.ae λk _ k2=>FA (K2.age k k2)
    dsimp only;by_cases d:n<o;all_goals first
      | (refine Cf d ?_;refine A5 (M9 (HB ⟨rfl,?_⟩));refine A5 (tS C (by(first|lia|omega)) (by(first|lia|omega)) K u2 λG T K3 u3=>?_);refine Ct (by simp) ?_;have H:1<=Dd (D.size-W) o/\W+Dd (D.size-W) o<=D.size:=by(first|lia|omega)
         have X:EW kf (Ai G) 0 (BZ G).toList W:=by rw[K3.aaq];exact Y.ae λk _ k2=>FA (K3.age k k2)
         generalize Dd (D.size-W) o=m at u3 H⊢)
      | (refine Ct d ?_;have H:1<=n/\W+n<=D.size:=by(first|lia|omega)
         have T:=K;have X:=Y;have u3:=u2;generalize n=m at u3 H⊢;generalize F=G at T X u3⊢)
    all_goals refine A5 (Jl ?_);cases hb:(BZ G).back? with |none=>exact A5 (HY (BG (Yy T X u3 H.1 H.2 (by(first|lia|omega)))))|some b=>
        refine AB λU=>?_;obtain⟨s1,m1,pw⟩:=b;refine U ?_;try clear U
        dsimp only;generalize power' D.size (2*s1+m1) (2*s1+m1+m1+m) D.size=pp;refine A5 (Ge (GA (I:=λ_ c J=>c=(AD,())/\CV L D J/\EW kf (Ai J) 0 (BZ J).toList W/\DF kf (Ai J) W (W+m)) ?r1 (λ_ _ q=>q) ⟨rfl,T,X,u3⟩) ?r2);case r1=>
          intro y R J _ hy Z;refine AB λU=>?_;obtain⟨rfl,M,R,f⟩:=Z;refine U ?_;try clear U
          refine A5 (Jl ?_);by_cases z4:(BZ J).size>1
          . have e4:=AB1 (BZ J) ((BZ J).size-2) (by(clear hy H d n2 n1 z e r g;(first|lia|omega)));simp only[ABo z4,e4];split;.exact BG ⟨rfl,M,R,f⟩
            . refine A5 (Y0 C M R (by(clear hy H d n2 n1 z e r g;(first|lia|omega))) e λst5 t z5 c5 k5=>?_);exact BG ⟨rfl,t,c5,λi j w1 w2 w3=>by rw[k5 i w1,k5 j (by(clear w3 z5 hy H d n2 n1 z e r g;(first|lia|omega)))];exact f i j w1 w2 w3⟩
          . simp only[ABn z4];exact BG ⟨rfl,M,R,f⟩
        case r2=>
          intro R J Z;refine AB λU=>?_;obtain⟨rfl,M,R,f⟩:=Z;refine U ?_;try clear U
          dsimp only;refine A5 (HY (A5 (HY (BG ?_))));have t:CV L D (YD J ((BZ J).modify ((BZ J).size-1) λx=>(x.1,x.2.1,pp))):=⟨M.nq,M.fo,M.qa⟩;refine Yy t ?_ f H.1 H.2 (by(first|lia|omega));refine Yr (l:=(BZ J).toList) ?_ R;rw[Array.toList_modify];refine vU λk=>?_;rw[BV,BV,List.getElem?_modify];cases(BZ J).toList[k]? with|none=>rfl|some v=>
            show AA _=AA _;by_cases w:(BZ J).size-1=k;.simp[w]
            .simp[w]
noncomputable def Dl:AR->AR->Bool|.inl a,.inl b=>AZ (a<b)|.inl _,.inr _=>AF|.inr _,.inl _=>AO|.inr x,.inr y=>AZ (x.cps.toList<y.cps.toList)
theorem RQ:∀a,Dl a a=AO|.inl a=>ABr (by grind)|.inr x=>ABr (by grind)
theorem i9:∀{a b c},Dl a b=AF->Dl b c=AF->Dl a c=AF|.inl a,.inl b,.inl c,D,F=>ABq (Int.lt_trans (ABs D) (ABs F))|.inl _,.inl _,.inr _,_,_=>rfl|.inl _,.inr _,.inr _,_,_=>rfl|.inr x,.inr y,.inr z,D,F=>ABq (List.lt_trans (ABs D) (ABs F))
theorem i8:∀{a b},Dl a b=AO->Dl b a=AO->a=b|.inl a,.inl b,D,F=>by have D:=ABv D;have F:=ABv F;grind|.inr x,.inr y,D,F=>by have D:=ABv D;have F:=ABv F;rw[XY (List.le_antisymm (by grind) (List.not_lt.mp D))]
noncomputable def CQ:List AR->List AR->Bool|[],[]=>AO|[],_::_=>AF|_::_,[]=>AO|a::x,b::y=>if a=b then CQ x y else Dl a b
theorem Oe:∀x,CQ x x=AO|[]=>rfl|a::x=>by rw[CQ,ABo rfl];exact Oe x
theorem Rb:∀{x y z},CQ x y=AF->CQ y z=AF->CQ x z=AF
  |[],[],_,h,_=>by cases h|[],_::_,[],_,h=>by cases h|[],_::_,_::_,_,_=>rfl|_::_,[],_,h,_=>by cases h|_::_,_::_,[],_,h=>by cases h|a::x,b::y,c::z,D,F=>by
    unfold CQ at D F⊢;by_cases U:a=b
    . subst U;rw[ABo rfl]at D;by_cases J:a=c
      . subst J;rw[ABo rfl]at F⊢;exact Rb D F
      grind
    . rw[ABn U]at D;by_cases J:b=c;.grind
      . rw[ABn J]at F;have V:=i9 D F;have:a≠c:=λe=>by rw[e,RQ]at V;cases V
        grind
theorem Of:∀{x y},CQ x y=AO->CQ y x=AO->x=y
 |[],[],_,_=>rfl|[],_::_,h,_=>by cases h|_::_,[],_,h=>by cases h|a::x,b::y,D,F=>by
  unfold CQ at D F;by_cases e:a=b
  . subst e;rw[ABo rfl]at D F;rw[Of D F]
  . rw[ABn e]at D;rw[ABn (by grind)]at F;exact absurd (i8 D F) e
@[reducible]noncomputable def Ii:Sk where
 α:=List AR
 blt:=CQ
 irrefl:=Oe
 trans _ _ _:=Rb
 negTrans a b c h:=by cases e:CQ a b with |true=>exact .inl rfl|false=>cases D:CQ b a with |true=>exact .inr (Rb D h)|false=>rw[<-Of e D];exact .inr h
 total _ _:=Of
noncomputable def Bb:AK->AR|.int i _=>.inl i|.str x _=>.inr x|_=>.inl 0
noncomputable def G1(h:A3):AK->List AR
 |.int i _=>[.inl i]|.str x _=>[.inr x]|.ref a=>match h.get? a with
  |AA o=>match o.data with |.seq D _=>D.toList.map Bb|_=>[]
  |AD=>[]
 |_=>[]
theorem TM{s:AU}{O:Sk}{vs:List AK}(Y:s.heap.get? a=AA (FV "list" vs.toArray n))(hz:vs.length<=An)(kf:AK->O.α)(Z:∀h',(∀b o,b≠a->s.heap.get? b=AA o->h'.get? b=AA o)->2<=vs.length->∃W,(∀(Q:O8->AU->Prop)(E:AK->AU->Prop),Q W {s with heap:=h'}->Aa (Ab prog w) A (qK vs.toArray) Q E {s with heap:=h'})/\E9 prog w A {s with heap:=h'} W O kf (G7 vs))(h:∀out:Array A4,out.Perm (G7 vs)->DF kf out 0 (G7 vs).size->P (.done (.ret .none)) {s with heap:=YF s.heap a vs (out.map (·.2))}):Aa (Ab prog w) A (Builtin.«list.sort» ⟨[.ref a],[]⟩) P E s:=by
  rw[list_sort_plain];have X:a<s.heap.objs.size:=Br Y;refine AX (listItems_at Y rfl (AX (qM Y rfl ?_)));refine AB λV=>?_;obtain⟨G,U⟩:∃G,(s.heap.update a (Iu λ_=>#[])).get? a=AA (FV "list" #[] G):=⟨_,get?_update_seq Y (λ_=>#[])⟩;refine V ?_;try clear V
  refine AX (qP U rfl (AX (AAc (AX (Yp (Jt ?_))))));generalize I:((s.heap.update a (Iu λ_=>#[])).push (FV "tuple" vs.toArray 0)).push (FV "list" #[] 0)=H;have S:∀b o,b≠a->s.heap.get? b=AA o->H.get? b=AA o:=λb o M q=>by rw[<-I];exact Bi _ (Bi _ ((yX _ _ _ _ M).trans q))
  have F:H.get? a=AA (FV "list" #[] G):=by rw[<-I];exact Bi _ (Bi _ U)
  have fin:=λout K L=>by have:=h out K L;unfold YF at this;rw[I]at this;exact this
  dsimp only;by_cases D:vs.toArray.size<2
  . rw[ABo D,ABo D];refine AX (Aw ?_);rw[StateT.run_pure];refine AX (Aw ?_);dsimp only;refine AX (qP F rfl (AX (qM F rfl ?_ (hsz2:=by grind))));simp only[bne_self_eq_false,Pn,ABx];refine Aw (fin (vs.toArray.zip vs.toArray) (u0 _) λi j _ c T=>?_);rw[xQ]at T;have N:vs.toArray.size=vs.length:=by simp
    obtain rfl:i=j:=by(first|lia|omega)
    exact Lb _
  . rw[ABn D,ABn D];refine AB λV=>?_;obtain⟨W,R,C⟩:=Z H S (by simpa using D);refine V ?_;try clear V
    refine AX (R _ _ ?_);refine AX (EK (tX C (st:=X9 W (G7 vs) #[] 7 AD) (Q:=λ_ J=>CV W (G7 vs) J/\DF kf (Ai J) 0 (G7 vs).size) ⟨u0 _,rfl,rfl⟩ rfl λJ B u=>⟨B,u⟩) ?_ λ_ _ e=>e);rintro⟨⟨⟩,J⟩d⟨rfl,B,u⟩;dsimp only;refine AX (qP F rfl (AX (qM F rfl ?_ (hsz2:=by refine DE (Jg ((Array.size_map ..).trans (B.nq.size_eq.trans (xQ _)))) ?_;(first|lia|omega)))));rw[B.qa];simp only[bne_self_eq_false,Pn,ABx];exact Aw (fin _ B.nq u)
noncomputable def DP:AR->Bool|.inl _=>AF|.inr _=>AO
noncomputable def Dz:AK->Prop|.int _ _=>True|.str _ _=>True|_=>False
theorem Wt(c:Bool)(D:Dz x)(F:Dz y)(J:DP (Bb x)=DP (Bb y))(h:Q (Dl (Bb x) (Bb y)) s):Aa (Ab prog w) A (oneLt' c x y) Q E s:=by
 cases x<;>first|exact D.elim|skip
 all_goals(cases y<;>first|exact F.elim|exact GH (by assumption)|exact GH (by assumption)|skip)
 .cases c with |true=>exact oneLt_int h|false=>exact rS _ _ (qN h)
 .cases c with|true=>exact oneLt_str h|false=>exact rS _ _ (xP h)
theorem RM(D:Dz x)(F:Dz y)(J:DP (Bb x)=DP (Bb y))(h:Q (AZ (Bb x=Bb y)) s):Aa (Ab prog w) A (eqBool x y) Q E s:=by
  cases x<;>first|exact D.elim|skip
  all_goals(cases y<;>first|exact F.elim|exact GH (by assumption)|exact GH (by assumption)|skip)
  . rename_i a t c u;refine ABQ a c t u prog w A E s Q ?_;have e:(a==c)=AZ (Bb (.int a t)=Bb (.int c u)):=by show(a==c)=AZ ((BP a:AR)=BP c);grind
    grind
  . rename_i a t c u;refine xJ a c t u prog w A E s Q ?_;have e:(a==c)=AZ (Bb (.str a t)=Bb (.str c u)):=by show(a==c)=AZ ((CP a:AR)=CP c);grind
    grind
theorem Wn:∀(xs ys:List AK)(i:Nat),(∀v∈xs,Dz v)->(∀v∈ys,Dz v)->xs.map (λv=>DP (Bb v))=ys.map (λv=>DP (Bb v))->Q (CQ (xs.map Bb) (ys.map Bb)) s->YS prog w A b AO Q (xs.zip ys) i s
 |[],[],_,_,_,_,h=>zZ h|[],_::_,_,_,_,e,_=>by cases e|_::_,[],_,_,_,e,_=>by cases e|x::xs,y::ys,i,V,W,e,h=>by
  obtain⟨D,U⟩:=D5 e;have F:=V x D6;have J:=W y D6;have h:Q (if Bb x=Bb y then CQ _ _ else Dl _ _) s:=h;refine YV (RM F J D (rQ (λq=>?_) λq=>?_));. rw[ABo (by grind)]at h;exact rT (Wn xs ys _ (by grind) (by grind) U h)
  . rw[ABn (by grind)]at h;exact rR (Wt _ F J D h)
noncomputable def F0(h:A3)(u:AK)(ks:List AR):Prop:=∃a o D m,u=.ref a/\h.get? a=AA o/\o.cls=.type "tuple"/\o.data=.seq D m/\D.toList.map Bb=ks/\∀v∈D.toList,Dz v
theorem F0.kf(t:F0 h u ks):G1 h u=ks:=by
 refine AB λF=>?_;obtain⟨a,o,D,m,rfl,e,_,d,k,_⟩:=t;refine F ?_;try clear F
 simp only[G1,e,d];exact k
inductive Ib(h:A3):List AK->List (List AR)->Prop|cI{vs kss}:vs.length=kss.length->(∀(i:Nat)u ks,vs[i]?=AA u->kss[i]?=AA ks->∃n t,u=.int n t/\ks=[.inl n])->Ib h vs kss|cS{vs kss}:vs.length=kss.length->(∀(i:Nat)u ks,vs[i]?=AA u->kss[i]?=AA ks->∃n t,u=.str n t/\ks=[.inr n])->Ib h vs kss|cT{vs kss}(sh:List Bool):vs.length=kss.length->sh≠[]->(∀(i:Nat)u ks,vs[i]?=AA u->kss[i]?=AA ks->F0 h u ks/\ks.map DP=sh)->Ib h vs kss
theorem Ib.bj{vs:List AK}{kss:List (List AR)}(x:Ib h vs kss):vs.length=kss.length:=by cases x<;>assumption
theorem Ib.kf(x:Ib h vs kss):∀(i:Nat)u ks,vs[i]?=AA u->kss[i]?=AA ks->G1 h u=ks:=by intro i u ks D F;cases x with|cI _ f=>obtain⟨n,t,rfl,rfl⟩:=f i u ks D F;rfl|cS _ f=>obtain⟨n,t,rfl,rfl⟩:=f i u ks D F;rfl|cT _ _ _ f=>exact(f i u ks D F).1.kf
theorem JW{l:List α}{m:List F}(U:l.length=m.length)(h:x∈l):∃(i:Nat)(y:F),l[i]?=AA x/\m[i]?=AA y:=by
 refine AB λD=>?_;obtain⟨i,J,e⟩:=F8.mp h;refine D ?_;try clear D
 exact⟨i,m[i]'(by(first|lia|omega)),by grind,(by grind)⟩
theorem Ib.agc{s:AU}{h:A3}{vs:List AK}(x:Ib h vs kss)(y:2<=vs.length)(kp:∀a o items m,.ref a∈vs->h.get? a=AA o->o.cls=.type "tuple"->o.data=.seq items m->s.heap.get? a=AA o):∃κ,(∀(Q:O8->AU->Prop)(E:AK->AU->Prop),Q κ s->Aa (Ab prog w) A (qK vs.toArray) Q E s)/\E9 prog w A s κ Ii (G1 h) (G7 vs):=by
  have I:∀p∈(G7 vs).toList,p.1∈vs:=λp Z=>by rw[YC]at Z;exact(YB Z).2
  cases x with |cI W f=>
    refine⟨oneType',λQ E q=>zV (T:=.type "int") y (λv B=>?_) (by decide) (by decide) q,⟨λp Z q K Q E k=>?_⟩⟩
    . refine AB λD=>?_;obtain⟨i,J,U,V⟩:=JW W B;obtain⟨n,t,rfl,_⟩:=f i _ _ U V;refine D ?_;try clear D
      exact .now
    . refine AB λD=>?_;obtain⟨i,J,U,V⟩:=JW W (I p Z);obtain⟨j,ls,M,N⟩:=JW W (I q K);obtain⟨n,t,L,_⟩:=f i _ _ U V;obtain⟨m,t',u2,_⟩:=f j _ _ M N;refine D ?_;try clear D
      rw[L,u2]at k⊢;rw[xO];refine oneLt_int ?_;have e:AZ (n<m)=CQ [.inl n] [.inl m]:=by show _=if(BP n:AR)=BP m then AO else AZ (n<m);grind
      rw[e];exact k|cS W f=>
    refine⟨oneType',λQ E q=>zV (T:=.type "str") y (λv B=>?_) (by decide) (by decide) q,⟨λp Z q K Q E k=>?_⟩⟩
    . refine AB λD=>?_;obtain⟨i,J,U,V⟩:=JW W B;obtain⟨n,t,rfl,_⟩:=f i _ _ U V;refine D ?_;try clear D
      exact .now
    . refine AB λD=>?_;obtain⟨i,J,U,V⟩:=JW W (I p Z);obtain⟨j,ls,M,N⟩:=JW W (I q K);obtain⟨n,t,L,_⟩:=f i _ _ U V;obtain⟨m,t',u2,_⟩:=f j _ _ M N;refine D ?_;try clear D
      rw[L,u2]at k⊢;rw[xO];refine oneLt_str ?_;have e:AZ (n.cps.toList<m.cps.toList)=CQ [.inr n] [.inr m]:=by show _=if(CP n:AR)=CP m then AO else AZ (n.cps.toList<m.cps.toList);grind
      rw[e];exact k|cT X W hn f=>
    have C:∀u∈vs,∃J,F0 s.heap u J/\G1 h u=J/\J.map DP=X:=λu hu=>by obtain⟨i,J,U,V⟩:=JW W hu;obtain⟨t,z⟩:=f i u J U V;refine⟨J,?_,t.kf,z⟩;obtain⟨a,o,items,m,rfl,e,c,d,r⟩:=t;exact⟨a,o,items,m,rfl,(by grind),c,d,r⟩
    refine⟨tuples' AF,λQ E q=>?_,⟨λp Z q K Q E k=>?_⟩⟩;.
      have S:∀(l:List AK),(∀u∈l,u∈vs)->∃G,zN s.heap l G/\G.length=l.length/\∀v∈G,Dz v/\DP (Bb v)=X.headD AF:=λl=>by induction l with |nil=>exactλ_=>⟨[],trivial,rfl,(by grind)⟩|cons u l ih=> intro hu;obtain⟨G,H,P,R⟩:=ih (by grind);obtain⟨J,⟨a,o,items,m,rfl,e,c,d,r,Y⟩,_,z⟩:=C u (by grind);obtain⟨l0⟩:=items;match l0,r,Y with
          |[],r,_=>grind|f0::l1,r,Y=> refine⟨f0::G,zO e c d rfl H,by grind,λv B=>?_⟩;grind
      refine AB λD=>?_;obtain⟨G,H,P,R⟩:=S vs λ_ h=>h;refine D ?_;try clear D
      cases hh:X.headD AF with
      |true=> refine YW (T:=.type "int") H (by(first|lia|omega)) (λv B=>?_) (by decide) q;obtain⟨Y,z⟩:=R v B;rw[hh]at z;cases v<;>first|exact Y.elim|exact GH (show AF=AO from z)|exact GH (by assumption)|exact .now
      |false=> refine YW (T:=.type "str") H (by(first|lia|omega)) (λv B=>?_) (by decide) q;obtain⟨Y,z⟩:=R v B;rw[hh]at z;cases v<;>first|exact Y.elim|exact GH (by assumption)|exact GH (show AO=AF from z)|exact .now
    . refine AB λD=>?_;obtain⟨J,⟨a,o,items,m,L,e,c,d,r,Y⟩,H,z1⟩:=C _ (I p Z);obtain⟨ls,⟨a',o',F,m',u2,e',c',d',r',O⟩,P,z2⟩:=C _ (I q K);refine D ?_;try clear D
      have k:Q (CQ (G1 h p.1) (G1 h q.1)) s:=k;rw[H,P,<-r,<-r']at k;rw[L,u2];have b:=by
        have g:(items.toList.map Bb).map DP=(F.toList.map Bb).map DP:=by rw[r,r',z1,z2]
        rw[Cb,Cb]at g;exact g
      have el:items.size=F.size:=by have:=ABp KQ b;simpa using this
      refine zW e d e' d' ?_;rw[ABr (by(first|lia|omega))];exact Wn _ _ 0 Y O b k
theorem Rr{U:List C}(p:U.Perm bs):∀{J:List α},Bm F J bs->∃D,D.Perm J/\Bm F D U:=by induction p with
 |nil=>intro J h;cases h;exact⟨[],.nil,.nil⟩|cons x _ I=>intro J h;cases h with|cons W Y=>
   refine AB λV=>?_;obtain⟨D,A,B⟩:=I Y;refine V ?_;try clear V
   exact⟨_,A.cons _,.cons W B⟩|swap x y l=>intro J h;cases h with|cons W Y=>cases Y with|cons G H=>exact⟨_,Xq _ _ _,.cons G (.cons W H)⟩
 |trans _ _ Z q=>
  intro J h;refine AB λV=>?_;obtain⟨M,A,B⟩:=q h;obtain⟨E,K,L⟩:=Z B;refine V ?_;try clear V
  exact⟨E,K.trans A,L⟩
theorem C5:∀{l:List α}{m:List D},Bm F l m->l.length=m.length/\∀(i:Nat)a b,l[i]?=AA a->m[i]?=AA b->F a b|_,_,.nil=>(by grind)|_,_,.cons h r=>by obtain⟨J,U⟩:=C5 r;grind
theorem MZ:∀{ks:List AR}{us:List AK},BO (ks.map Al) us->us.map Bb=ks/\∀v∈us,Dz v|[],_,h=>by cases h;grind|k::ks,_,h=>by cases h with|cons F J=>obtain⟨e,f⟩:=MZ J;cases k with|inl i=>obtain⟨t,rfl⟩:=F;exact⟨by rw[Cu,e];rfl,λv D=>by rcases B7.mp D with rfl|D;exact GG;grind⟩|inr x=>obtain⟨t,rfl⟩:=F;exact⟨by rw[Cu,e];rfl,λv D=>by rcases B7.mp D with rfl|D;exact GG;grind⟩
theorem W6{X:BR}{D:List AK}{ys:List AH}{kss:List (List AR)}{h:A3}(r:BO ys D)(I:Ib h D kss){out:Array A4}(p:out.Perm (G7 D))(u:DF (O:=Ii) (G1 h) out 0 (G7 D).size):∃F:List (AH×List AR),F.Perm (ys.zip kss)/\BO (F.map (·.1)) (out.map (·.2)).toList/\(F.map (·.2)).Pairwise (λa b=>CQ b a=AO):=by
  have H:out.toList.Perm (D.zip D):=by rw[<-YC];exact Pm.mp p
  have g:∀q∈out.toList,q.1=q.2/\q.1∈D:=λq P=>YB (H.mem_iff.mp P);have K:(out.map (·.2)).toList=out.toList.map (·.2):=vB ..;have R:=by have:=H.map (·.2);rwa[SY (Af _)]at this
  have d:=r.ak;have C:=I.bj;have Q:Bm (λ(q:AH×List AR)v=>BN q.1 v/\G1 h v=q.2) (ys.zip kss) D:=by refine JZ (by grind) λi a b Y J=>?_;obtain⟨L,M⟩:=Mw.mp Y;obtain⟨v,Z,N⟩:=r.yl L;rw[J]at Z;cases Z;exact⟨N,I.kf i b a.2 J M⟩
  refine AB λG=>?_;obtain⟨F,S,T⟩:=Rr R Q;obtain⟨f,c⟩:=C5 T;refine G ?_;try clear G
  refine⟨F,S,?_,?_⟩
  . rw[K];refine JZ (by grind) λi a b Y J=>?_;grind
  . rw[Je];intro i j A B U;rw[Am]at A B;have e:=p.size_eq.symm;have E:∀k(C:k<F.length),(F[k]).2=BE (O:=Ii) (G1 h) out k:=λk C=>by
      have W:k<out.size:=by grind
      rw[DG W];have J:(out.toList.map (·.2))[k]?=AA out[k].2:=by grind
      grind
    have:=u i j (Bd _) (M5 U) (by grind);rw[<-E i A,<-E j B]at this;rw[Xv,Xv];exact this
theorem g9{A:Cj}{s:AU}(K:W.KdlSrc prog w T r d n P OK)(hh:A.handled=AD)(hok:OK s.heap)(hn:n<=An)(hQ:∀h' tk(acc:Array AK),(∀b o,s.heap.get? b=AA o->h'.get? b=AA o)->s.heap.objs.size<h'.objs.size->rG P acc n->Q acc.toList {s with heap:=h',toks:=tk}):Aa (Ab prog w) A (sJ (.ref r)) Q E s:=by
 refine AX (Yq (Kh yJ ?_));refine AX (Ki ?_);refine Aw ⟨TB rA _,Kh yI ?_⟩;have hS₁:(s.heap.push {cls:=.type "list",data:=.seq ([]:List AK).toArray}).get? _=AA _:=Df _ rfl;have ht:=K.there _ hok;have kp:∀b o,s.heap.get? b=AA o->(s.heap.push {cls:=.type "list",data:=.seq ([]).toArray}).get? b=AA o:=λb o e=>Bi _ e;have key:∀s',(∃h' tk acc c',s'={s with heap:=h',toks:=tk}/\(∀b o,b≠s.heap.objs.size->(s.heap.push {cls:=.type "list",data:=.seq ([]:List AK).toArray}).get? b=AA o->h'.get? b=AA o)/\h'.get? s.heap.objs.size=AA {cls:=.type "list",dict:=AD,data:=.seq acc c',slots:=#[]}/\rG P acc n)->Aa (Ab prog w) A (load _>>=λo=>match o.data with |.seq xs _=>BB xs.toList|_=>Yn "internal:collect") Q E s':=λs'⟨h',tk,acc,c',e,k1,k2,k3⟩=>by subst e;refine AX (tG k2 ?_);exact Aw (hQ h' tk acc (λb o e=>k1 b o (Cv (Br e)) (kp b o e)) (Br k2) k3)
 refine EK (W.kdl_extend (A:=A) (R:=λr s'=>r=.ok (.ret (.ref s.heap.objs.size))/\∃h' tk acc c',s'={s with heap:=h',toks:=tk}/\(∀b o,b≠s.heap.objs.size->(s.heap.push {cls:=.type "list",data:=.seq ([]:List AK).toArray}).get? b=AA o->h'.get? b=AA o)/\h'.get? s.heap.objs.size=AA {cls:=.type "list",dict:=AD,data:=.seq acc c',slots:=#[]}/\rG P acc n) K hh (K.keep _ _ hok (by grind)) _ (by grind) (by grind) _ 0 hS₁ (by grind) hn) (λfin s' hf=>?_) (by grind);cases fin with|done f=>grind|again c=>refine⟨hf.1,Jr hf.2 λr s2⟨e,q⟩=>?_⟩;grind
theorem gX{X:BR}(hc:X.bx=AF):EB X (.builtin "sorted") (λxs H Q=>∃(d:AI)(kvs:List (AR×AH)),xs=[.ref d]/\H d=AA (.dK kvs)/\((∀p∈kvs,∃i,p.1=.inl i)\/∀p∈kvs,∃i,p.1=.inr i)/\∀l(ks:List AR),H l=AD->ks.Perm (kvs.map (·.1))->ks.Pairwise (λa b=>Dl b a=AO)->Q (.ref l) (AW H l (.lst (ks.map Al)))):=by
  intro pins s σ H xs us Q I r h;refine AB λnG=>?_;obtain⟨d,kvs,rfl,e,hty,q⟩:=h;obtain⟨u,rfl,ru⟩:=F6 r;cases ru;obtain⟨z,lo,vs,rel,dd⟩:=MS I.bb e;obtain⟨ep,hat⟩:=dd.dictAt;refine nG ?_;try clear nG
  have hlen:kvs.length=vs.length:=Jo rel;refine qW qL qO qI (qB _) ?_;unfold Builtin.«sorted»;refine AX (m:=checkCount "sorted" 1 1 _) (Aw ?_);refine AX (g9 (AAA (knd:=DB X.ag X.w) (kvs:=vs) (ep:=ep) lo) (I.ok.hd hc) hat (by(first|lia|omega)) λh1 tk acc k1 gr it=>?_);have rv:BO (kvs.map λp=>Al p.1) acc.toList:=Wj rel (by rw[JE];exact it.1) λj v hv=>it.2 j v (by rw[<-Ju];exact hv);have ra:=rv.ak;rw[Am]at ra;have sv:Ib h1 acc.toList (kvs.map λp=>[p.1]):=by
    rcases hty with hty|hty
    . refine .cI (by rw[Am];(first|lia|omega)) λi u ks e1 e2=>?_;rw[BV]at e2;obtain⟨p,e3,rfl⟩:=Co.mp e2;obtain⟨n,en⟩:=hty p (B9 e3);obtain⟨u',e4,e5⟩:=rv.yl (i:=i) (x:=Al p.1) (by rw[BV,e3];rfl);rw[e1]at e4;cases e4;rw[en]at e5⊢;obtain⟨t,rfl⟩:=e5;exact⟨n,t,rfl,rfl⟩
    . refine .cS (by rw[Am];(first|lia|omega)) λi u ks e1 e2=>?_;rw[BV]at e2;obtain⟨p,e3,rfl⟩:=Co.mp e2;obtain⟨n,en⟩:=hty p (B9 e3);obtain⟨u',e4,e5⟩:=rv.yl (i:=i) (x:=Al p.1) (by rw[BV,e3];rfl);rw[e1]at e4;cases e4;rw[en]at e5⊢;obtain⟨t,rfl⟩:=e5;exact⟨n,t,rfl,rfl⟩
  generalize hits:acc.toList=its at rv ra sv;refine AX (Yp ?_ (by(first|lia|omega)));have hoL:(h1.push (FV "list" its.toArray 0)).get? h1.objs.size=AA (FV "list" its.toArray 0):=Df _ rfl;have grow:s.heap.objs.size<=h1.objs.size:=M5 gr;refine AX (Jt (Js (s:={s with heap:=h1.push (FV "list" its.toArray 0),toks:=tk}) qQ ⟨_,hoL,rfl⟩ qH (TM (O:=Ii) hoL (by(first|lia|omega)) (G1 h1) (λh' k' h2=>?_) λout p u=>⟨_,rfl,Aw ⟨_,rfl,?_⟩⟩) (xC _)))
  . refine sv.agc h2 λa o items m _ e _ _=>?_;exact k' a o (Cv (Br e)) (Bi _ e)
  . refine AB λnG=>?_;obtain⟨qs,q1,q2,q3⟩:=W6 (X:=X) rv sv p u;obtain⟨e',ho⟩:=xT (h:=h1.push (FV "list" its.toArray 0)) (a:=h1.objs.size) (vs:=its) (out:=out.map (·.2)) hoL;refine nG ?_;try clear nG
    have ep:qs.map (·.1)=(qs.map λx=>x.2.headD (.inl 0)).map Al:=by rw[Cb];refine KR λx hx=>?_;have hm:=q1.mem_iff.mp hx;obtain⟨i,hi⟩:=HW.mp hm;obtain⟨e3,e4⟩:=Mw.mp hi;rw[BV]at e3 e4;obtain⟨p3,e5,e6⟩:=Co.mp e3;rw[e5]at e4;have e4:AA [p3.1]=AA x.2:=e4;show x.1=Al (x.2.headD (.inl 0));rw[<-e6,<-De e4];rfl
    have pm:(qs.map λx=>x.2.headD (.inl 0)).Perm (kvs.map (·.1)):=by refine(q1.map _).trans (vQ ?_);rw[show(λx:AH×List AR=>x.2.headD (.inl 0))=(λl:List AR=>l.headD (.inl 0))∘X8 from rfl,<-Cb,SY (by simp),Cb];rfl
    have pw:(qs.map λx=>x.2.headD (.inl 0)).Pairwise (λa b=>Dl b a=AO):=by
      rw[F9];rw[F9]at q3;refine q3.imp_of_mem λ{a b}ha hb hab=>?_;have one:∀x∈qs,∃k,x.2=[k]:=λx hx=>by have hm:=q1.mem_iff.mp hx;obtain⟨i,hi⟩:=HW.mp hm;obtain⟨_,e4⟩:=Mw.mp hi;rw[BV]at e4;obtain⟨p3,_,e6⟩:=Co.mp e4;exact⟨_,e6.symm⟩
      obtain⟨x,ex⟩:=one a ha;obtain⟨y,ey⟩:=one b hb;rw[ex,ey]at hab⊢;show Dl y x=AO;have hab:(if y=x then AO else Dl y x)=AO:=hab;by_cases z:y=x;.rw[z];exact RQ x
      .rw[ABn z]at hab;exact hab
    have lz:(qs.map (·.1)).length<=An:=by rw[Am,q1.length_eq,pK,Am];(first|lia|omega)
    have old:∀b o,s.heap.get? b=AA o->(YF (h1.push (FV "list" its.toArray 0)) h1.objs.size its (out.map (·.2))).get? b=AA o:=λb o e=>by have e1:=k1 b o e;have hlt:=Br e1;rw[xU (Cv hlt) (by rw[size_push'];exact Jh hlt)];exact Bi _ e1
    refine⟨.ref h1.objs.size,_,I.ie (a:=h1.objs.size) (o:=.lst (qs.map (·.1))) (t':=tk) old grow ⟨lz,_,e',q2,by rw[u9];exact ho⟩,rfl,?_⟩;rw[ep];exact q _ _ (I.bb.az grow) pm pw
theorem iG(A:Cj)(s:AU)(J:Dz x)(U:Dz y)(F:DP (Bb x)=DP (Bb y)):YQ A s x y (AZ (Bb x=Bb y)):=by intro D w E Q h;exact RM J U F h
theorem mJ(A:Cj)(s:AU)(D:Dz x)(F:Dz y)(J:DP (Bb x)=DP (Bb y))(prog:CZ)(w:Bn)(E:AK->AU->Prop)(Q:AK->AU->Prop)(h:Q (.bool (Dl (Bb x) (Bb y))) s):Aa (Ab prog w) A (richCompare .Lt x y) Q E s:=by
 cases x<;>first|exact D.elim|skip
 all_goals(cases y<;>first|exact F.elim|exact GH _|exact GH (by assumption)|skip)
 .exact(qN h)
 .exact(xP h)
structure OB(vs ws:List AK)(n m:Nat)(r:Bool):Prop where
 ex:∃(us zs:List AK),vs=us++zs/\(zs=[]\/ws.length<=us.length)/\(∀v∈us,Dz v)/\(∀v∈ws,Dz v)/\(∀(i:Nat)x y,us[i]?=AA x->ws[i]?=AA y->DP (Bb x)=DP (Bb y))/\CQ (us.map Bb) (ws.map Bb)=r
 bj:vs.length+m=ws.length+n
theorem Xj(l b:AI)(items D:Array AK)(n n2:Nat)(dd N:Option AI)(sl k:Array (Option AK))(r:Bool)(T:OB items.toList D.toList items.size D.size r):Meets (Builtin.«tuple.__lt__» ⟨[.ref l,.ref b],[]⟩) (λ_ R s=>s.heap.get? l=AA {cls:=.type "tuple",dict:=dd,data:=.seq items n,slots:=sl}/\s.heap.get? b=AA {cls:=.type "tuple",dict:=N,data:=.seq D n2,slots:=k}/\R (.ok (.ret (.bool r))) s):=.of_wp λV w A R s h=>by
 refine AB λH=>?_;obtain⟨I,g,d,L,K⟩:=s;obtain⟨hl,hb,h⟩:=h;refine H ?_;try clear H
 have f2:=AutoSeq1.sub_tuple_tuple;wp_walk using wpAny_loadPart' hl,wpAny_loadPart' hb,AAZ _ (λW b j=>b.1=AD/\j=⟨I,g,d,L,K⟩/\∃(M J:List AK)(q:Bool),W=M.zip J/\OB M J items.size D.size q/\R (.ok (.ret (.bool q))) ⟨I,g,d,L,K⟩) _;case turn=>
  rintro⟨y,x⟩W b j⟨Z,rfl,M,J,q,C,X,hR⟩;refine AB λH=>?_;obtain⟨⟨Y,m,rfl,E,O,P,Q,U⟩,F⟩:=X;refine H ?_;try clear H
  cases J with |nil=>rw[List.zip_nil_right]at C;cases C|cons c J=>cases Y with |nil=>simp_all|cons a Y=> rw[Mt,wR]at C;injection C with f B;injection f with hy T;subst hy T;have o:=O y D6;have p:=P x D6;have t:=Q 0 y x rfl rfl;have U:(if Bb y=Bb x then CQ (Y.map Bb) (J.map Bb)else Dl (Bb y) (Bb x))=q:=U;refine AX (iG A.in1 ⟨I,g,d,L,K⟩ o p t V w _ _ ?_);cases e:AZ (Bb y=Bb x)with |true=> rw[ABo (ABs e)]at U;wp_walk;refine⟨rfl,rfl,Y++m,J,q,B,⟨⟨Y,m,rfl,?_,λv G=>O v (E5 _ G),λv G=>P v (E5 _ G),λi x y u z=>Q (i+1) x y (by simpa using u) (by simpa using z),U⟩,?_⟩,hR⟩;all_goals grind|false=>rw[ABn (ABv e)]at U;have S:=mJ A.in1 ⟨I,g,d,L,K⟩ o p t V w;wp_walk using S;exact⟨_,rfl,by rw[U];exact hR⟩
 case fin=>
  rintro⟨b1,b2⟩j⟨Z,rfl,M,J,q,C,⟨⟨Y,m,rfl,E,O,P,Q,U⟩,F⟩,hR⟩;simp only at Z;subst Z;have G:q=AZ (items.size<D.size):=by rw[<-U];cases Y with
   |nil=>
    rcases E with E|E
    . subst E;cases J with |nil=>simp only[Jd,Eg]at F;exact(ABr (by(first|lia|omega))).symm|cons c J=>simp only[Jd,Eg,FT]at F;exact(ABq (by(first|lia|omega))).symm
    . have:J=[]:=List.eq_nil_of_length_eq_zero (by simpa using E);subst this;simp only[Jd,X0]at F;exact(ABr (by(first|lia|omega))).symm|cons a Y=>cases J with |nil=> simp only[Jd,FT,Mt]at F;exact(ABr (by(first|lia|omega))).symm|cons c J=> rw[Mt,wR]at C;cases C
  rw[G]at hR;wp_walk;exact⟨_,rfl,by simpa[AAx]using hR⟩
 case h=>exact⟨rfl,rfl,items.toList,D.toList,r,rfl,T,h⟩
noncomputable def mC(K:Ar):DH:=λx y H Q=>∃a b D J F,x=.ref a/\y=.ref b/\Bw K H a (D.map Al++J)/\Bw K H b (F.map Al)/\(J=[]\/F.length<=D.length)/\(∀(i:Nat)k m,D[i]?=AA k->F[i]?=AA m->DP k=DP m)/\Q (.bl (CQ D F)) H
theorem SM:∀{xs ys:List AH}{us:List AK},BO (xs++ys) us->∃vs D,us=vs++D/\BO xs vs/\BO ys D |[],ys,us,h=>⟨[],us,rfl,.nil,h⟩|x::xs,ys,_,h=>by cases h with|cons J U=>
 refine AB λF=>?_;obtain⟨vs,D,e,W,Y⟩:=SM U;refine F ?_;try clear F
 exact⟨_,D,by grind,.cons J W,Y⟩
theorem kJ{X:BR}{K:Ar}(k:X.A.units<E8)(e:X.K=K:=by rfl):CO X (EJ .Lt) (mC K):=by
 subst e;intro V s σ H x y v u Q I rx ry h;refine AB λP=>?_;obtain⟨a,b,Z,zs,A,rfl,rfl,f,g,hz,j,q⟩:=h;cases rx;cases ry;obtain⟨l,r1,z,_⟩:=I.bh f;obtain⟨D,r2,p2,_⟩:=I.bh g;obtain⟨C,E,rfl,R,q2⟩:=SM r1;obtain⟨m,c⟩:=MZ R;obtain⟨o,d⟩:=MZ r2;have p:=R.ak;have r:=r2.ak;have l3:=q2.ak;rw[Am]at p r;obtain⟨⟨S,T,L,sl⟩,O,M,n,N⟩:=id z;obtain⟨⟨G,Y,W,B⟩,U,F,w,J⟩:=id p2;refine P ?_;try clear P
 simp only at M N F J;subst M N F J;have t:OB (C++E).toArray.toList D.toArray.toList (C++E).toArray.size D.toArray.size (CQ Z A):=by
  refine⟨⟨C,E,by simp,?_,c,by simpa using d,λi x y e1 e2=>?_,by simp[m,o]⟩,by simp;(first|lia|omega)⟩;.grind
  .refine j i _ _ (by grind) (by grind)
 exact AAQ (op:=.Lt) ⟨_,O,rfl⟩ ⟨_,U,rfl⟩ yS yL (by rfl) (Xj a b _ _ n w T Y sl B _ t) ⟨O,U,show Ss (CQ Z A)≠Value.notImplemented/\ED X V σ Q (.bool (CQ Z A)) s from⟨(by grind),⟨.bl _,H,I,rfl,q⟩⟩⟩ k
noncomputable def Bv(H:AN)(xs:List AH)(kss:List (List AR)):Prop:=Bm (λx D=>∃a,x=.ref a/\H a=AA (.tup (D.map Al))) xs kss
noncomputable def CM(H F:AN):Prop:=∀p D,H p=AA (.tup D)->F p=AA (.tup D)
theorem Ak.tp(s:Ak H D):CM H D:=λp F e=>s _ _ e
theorem ER(H:AN):CM H H:=λ_ _ h=>h
theorem CM.aa(a:CM H D)(b:CM D F):CM H F:=λp J e=>b _ _ (a _ _ e)
theorem CM.cb(t:CM H D)(h:D b=AA u)(F:∀xs,u≠.tup xs):CM H (AW D b o):=λp xs e=>by
 have e:=t p xs e;have:p≠b:=λz=>by rw[z,h]at e;exact F xs (De e)
 rw[BC this];exact e
theorem GU{α D:Type}{F G:α->D->Prop}(h:∀a b,F a b->G a b):∀{l:List α}{m:List D},Bm F l m->Bm G l m|_,_,.nil=>.nil|_,_,.cons a r=>.cons (h _ _ a) (GU h r)
theorem D3:∀{l D:List α}{m J:List U},Bm F l m->Bm F D J->Bm F (l++D) (m++J)|_,_,_,_,.nil,h=>h|_,_,_,_,.cons a r,h=>.cons a (D3 r h)
theorem Rt:∀{l:List α}{m:List D}(n:Nat),Bm F l m->Bm F (l.take n) (m.take n)|_,_,0,_=>.nil|_,_,_+1,.nil=>.nil|_,_,n+1,.cons a r=>.cons a (Rt n r)
theorem Rq:∀{l:List α}{m:List D}(n:Nat),Bm F l m->Bm F (l.drop n) (m.drop n)|_,_,0,h=>h|_,_,_+1,.nil=>.nil|_,_,n+1,.cons a r=>Rq n r
theorem Bv.ae(h:Bv H xs kss)(t:CM H D):Bv D xs kss:=GU (λx F⟨a,e,q⟩=>⟨a,e,t _ _ q⟩) h
theorem Bv.bj{xs:List AH}{kss:List (List AR)}(h:Bv H xs kss):xs.length=kss.length:=(C5 h).1
theorem Bv.at(h:Bv H xs kss){i:Nat}(e:xs[i]?=AA x):∃a ks,x=.ref a/\kss[i]?=AA ks/\H a=AA (.tup (ks.map Al)):=by
 have U:=(Bh.mp e).1;have D:kss[i]?=AA (kss[i]'(by rw[<-h.bj];exact U)):=B8 _;refine AB λF=>?_;obtain⟨a,J,q⟩:=(C5 h).2 i _ _ e D;refine F ?_;try clear F
 exact⟨a,_,J,D,q⟩
theorem Bv.ft{ks:List AR}(h:Bv H xs kss)(e:H p=AA (.tup (ks.map Al))):Bv H (xs++[.ref p]) (kss++[ks]):=D3 h (.cons ⟨p,rfl,e⟩ .nil)
theorem Fq(H:AN):Bv H [] []:=E7
noncomputable def HP:AR->Iv|.inl i=>.int i|.inr x=>.str x
noncomputable def ES(ks:List AR):Iv:=.tuple (ks.map HP)
noncomputable def Gz:AR->Bool|.inl _=>AF|.inr x=>Iy x
noncomputable def F4(ks:List AR):Bool:=ks.all Gz
theorem MV{K:Ar}:∀ks:List AR,Ia K H (ks.map Al) (ks.map HP)|[]=>.nil|.inl i::r=>.cons (.int i) (MV r)|.inr x::r=>.cons (.str x) (MV r)
theorem Bv.ahk{K:Ar}:∀{xs:List AH}{kss:List (List AR)},Bv H xs kss->Ia K H xs (kss.map ES)|_,_,E7=>.nil|_,_,Bu ⟨a,e,q⟩ r=>by subst e;exact .cons (.tup (Ao q) (MV _)) (Bv.ahk r)
theorem RZ:∀ks:List AR,F4 ks=AF->Kb (ks.map HP)=AF/\Kc (ks.map HP)=0
 |[],_=>⟨rfl,rfl⟩|k::r,h=>by
  have h:(Gz k&&F4 r)=AF:=h;refine AB λF=>?_;obtain⟨D,J⟩:=ZT.mp h;obtain⟨a,b⟩:=RZ r J;refine F ?_;try clear F
  cases k with |inl i=>simp[HP,Kb,Iw,Kc,Jp,a,b]|inr x=>have D:Iy x=AF:=D;simp[HP,Kb,Iw,Kc,Jp,a,b,D]
theorem Mb:∀kss:List (List AR),(∀ks∈kss,F4 ks=AF)->Kb (kss.map ES)=AF/\Kc (kss.map ES)<=1
 |[],_=>⟨rfl,by decide⟩|ks::r,h=>by
  refine AB λD=>?_;obtain⟨a,b⟩:=Mb r λz F=>h z (E5 _ F);obtain⟨c,d⟩:=RZ ks (h ks D6);refine D ?_;try clear D
  refine⟨by simp[ES,Kb,Iw,a,c],?_⟩;simp[ES,Kc,Jp,d];(first|lia|omega)
theorem XS{kss:List (List AR)}(h:∀ks∈kss,F4 ks=AF):HZ (.list (kss.map ES))=AF:=by obtain⟨a,b⟩:=Mb kss h;simp[HZ,Iw,Jp,a];(first|lia|omega)
theorem SF(h:F4 ks=AF):HZ (ES ks)=AF:=by obtain⟨a,b⟩:=RZ ks h;simp[ES,HZ,Iw,Jp,a,b]
theorem Bv.dv{K:Ar}{kss:List (List AR)}(h:Bv H xs kss)(e:H l=AA (.lst xs)):Fi K H (.ref l) (.list (kss.map ES)):=.lst (AV e) h.ahk
noncomputable def OI(kss:List (List AR)):Prop:=kss.Pairwise λa b=>CQ b a=AO
theorem XR:∀{a b:List (List AR)},a.Perm b->OI a->OI b->a=b
  |[],b,p,_,_=>by simp_all|x::a,[],p,_,_=>by simp_all|x::a,y::b,p,Z,q=>by
    refine AB λJ=>?_;obtain⟨U,V⟩:=X1.mp Z;obtain⟨W,Y⟩:=X1.mp q;refine J ?_;try clear J
    have e:x=y:=by
      have D:y∈x::a:=(by grind);have F:x∈y::b:=(by grind);rcases B7.mp D with e|D;.grind
      . rcases B7.mp F with e|F;.exact e
        .exact Of (W x F) (U y D)
    subst e;rw[XR (by simp_all) V Y]
theorem KH{K:Ar}{N:List Nat}{xs:List AH}(A:Nat->Aj->List AH->AN->Prop)(o:xs.length<=An)(d:A 0 (M3 P AD++N.map (Dm X)) [] H)(k:∀i W F Y,A i W F Y->Bg K Y a xs)(l:∀(i:Nat)x W F Y(M:AH->Aj->AN->Prop)(L:Aj->AN->Prop),xs[i]?=AA x->F.length<=i->A i W F Y->(∀y U Z,A (i+1) U (F++[y]) Z->M y U Z)->(∀U Z,A (i+1) U F Z->L U Z)->g x W Y λJ Z=>T J Z λb G=>if b=AF then S J G λy I=>M y J I else L J G)(j:∀W F Y,F.length<=xs.length->A xs.length W F Y->∀D,Y D=AD->Q (.ref D) (AW Y D (.lst F))):IZ P N g T S X Q (JO K a) H:=by
  refine⟨λi m W F E=>m=xs.length-i/\i<=xs.length/\F.length<=i/\A i W F E,⟨xs.length,by simp,Bd _,Bd _,d⟩,?_⟩;intro i m W F E f;refine AB λR=>?_;obtain⟨rfl,n,O,p⟩:=f;refine R ?_;try clear R
  have q:=k i W F E p;by_cases B:i<xs.length
  . refine .inr ⟨⟨xs,xs[i],q,by simp[B]⟩,by(first|lia|omega),λx Y y=>?_⟩;obtain⟨e,y⟩:=y;subst e;have c:=y xs q;exact l i x W F _ (λy J I=>∃C,C<xs.length-i/\C=xs.length-(i+1)/\i+1<=xs.length/\(F++[y]).length<=i+1/\A (i+1) J (F++[y]) I) (λJ G=>∃C,C<xs.length-i/\C=xs.length-(i+1)/\i+1<=xs.length/\F.length<=i+1/\A (i+1) J F G) c O p (λy U Z h=>⟨_,by(first|lia|omega),rfl,B,by rw[CY,Hx];(first|lia|omega),h⟩) λU Z h=>⟨_,by(first|lia|omega),rfl,B,by(first|lia|omega),h⟩
  . have e:i=xs.length:=by(first|lia|omega)
    subst e;exact .inl ⟨⟨xs,q,Af _⟩,j W F E O p⟩
theorem Gy{K:Ar}{I:List Nat}{xs:List AH}(A:Nat->Aj->List AH->AN->Prop)(T:xs.length<=An)(P:A 0 (M3 L AD++I.map (Dm M)) [] H)(S:∀i Y J U,A i Y J U->Bg K U a xs)(X:∀(i:Nat)x Y J U(q:AH->Aj->AN->Prop),xs[i]?=AA x->J.length<=i->A i Y J U->(∀y C W,A (i+1) C (J++[y]) W->q y C W)->g x Y U λF W=>B F W λy Z=>q y F Z)(R:∀Y J U,J.length<=xs.length->A xs.length Y J U->∀D,U D=AD->Q (.ref D) (AW U D (.lst J))):IZ L I g Mq B M Q (JO K a) H:=by
 refine KH (K:=K) (xs:=xs) A T P S (λi x Y J U q G N O p c _=>?_) R;have e:(λ(F:Aj)(W:AN)=>Mq F W λb E=>if b=AF then B F E λy Z=>q y F Z else G F E)=λF W=>B F W λy Z=>q y F Z:=by funext F W;show(if AF=AF then B F W λy Z=>q y F Z else G F W)=_;rw[ABo rfl]
 rw[e];exact X i x Y J U q N O p c
theorem kU{X:BR}{D osc:Du}{y:AJ}(Z:List (AJ×Nat))(K:X.bx=AF)(hi:EZ X (.Tuple [.Name x N,.Name y O,.Name z P] M U) F wi)(a:X.af.scope=osc)(T:D.kind=.function)(V:∀y∈D.names,y.2≠.cell)(J:∀y∈D.names,y.2=.local->D.names.lookup y.1=AA .local)(W:∀y∈D.names,y.2=.free->osc.names.lookup y.1=AA .cell\/osc.names.lookup y.1=AA .free)(G:Gw X D Z)(L:D.names.lookup x=AA .local)(E:D.names.lookup y=AA .local)(hz:D.names.lookup z=AA .local)(Y:(x::y::z::Z.map (·.1)).Nodup)(c:∀C s H A,GR (Ck X D (x::y::z::Z.map (·.1)) C s H A) B R)(S:∀C s H A,Ae (Ck X D (x::y::z::Z.map (·.1)) C s H A) q Q)(b:∀x,JA F X.af x=BB x:=by intro _;rfl):Ae X (.ListComp q [⟨.Tuple [.Name x N,.Name y O,.Name z P] M U,F,B,0⟩] D I) (Hw 3 (Z.map (·.2)) wi (MY X.K 3 (HM (Di 0) (HM (Di 1) (HM (Di 2) MX)))) R Q):=Rv (own:=[x,y,z]) K hi T V J (λy E e=>by show X.af.scope.names.lookup y.1=_\/X.af.scope.names.lookup y.1=_;rw[a];exact W y E e) G (λC s H A=>GX (show(Ck X D (x::y::z::Z.map (λp:AJ×Nat=>p.1)) C s H A).bx=AF from K) (DC (GW (i:=0) Y rfl (.inl (D8 L)) (.inr (D8 L))) (DC (GW (i:=1) Y rfl (.inl (D8 E)) (.inr (D8 E))) (DC (GW (i:=2) Y rfl (.inl (D8 hz)) (.inr (D8 hz))) GY)))) c S b
theorem Me[DecidableEq F]{q:F×AH}(h:q∈Bq kvs k v):q=(k,v)\/(q∈kvs/\q.1≠k):=by
  unfold Bq at h;split at h
  . refine AB λD=>?_;obtain⟨p,U,e⟩:=BH.mp h;refine D ?_;try clear D
    by_cases z:p.1=k;.rw[ABo z]at e;rw[<-e,z];exact .inl rfl
    .rw[ABn z]at e;rw[<-e];exact .inr ⟨U,z⟩
  . rename_i J;rcases CT.mp h with h|h;.refine .inr ⟨h,λz=>J (LX.mpr ⟨q,h,ABq z⟩)⟩
    .exact .inl (Bl.mp h)
theorem RY[DecidableEq J](kvs:List (J×AH))(k:J)(v:AH):(Bq kvs k v).map (·.1)=if k∈kvs.map (·.1)then kvs.map (·.1)else kvs.map (·.1)++[k]:=by
  by_cases h:k∈kvs.map (·.1)
  . rw[ABo h];refine AB λD=>?_;obtain⟨p,F,e⟩:=BH.mp h;refine D ?_;try clear D
    unfold Bq;rw[ABo (LX.mpr ⟨p,F,ABq e⟩),Cb];refine KR λq _=>?_;show(if q.1=k then(q.1,v)else q).1=q.1;split<;>rfl
  . rw[ABn h];unfold Bq;rw[ABn (λq=>?_),Bx];.rfl
    . refine AB λD=>?_;obtain⟨p,F,e⟩:=LX.mp q;refine D ?_;try clear D
      exact h (BH.mpr ⟨p,F,ABs e⟩)
theorem Ww{F:Type}[DecidableEq F]{kvs:List (F×AH)}{k:F}{v:AH}(h:(kvs.map (·.1)).Nodup):((Bq kvs k v).map (·.1)).Nodup:=by
 rw[RY];split;.exact h
 . rename_i D;exact Wu h D
theorem Ra[DecidableEq D](kvs:List (D×AH))(k:D)(v:AH):(Bq kvs k v).length<=kvs.length+1:=by
 have e:=ABp KQ (RY kvs k v);rw[Am]at e;rw[e];split;.rw[Am];(first|lia|omega)
 .rw[CY,Am];simp
theorem LW{J:Type}[DecidableEq J]{kvs:List (J×AH)}{k:J}{v:AH}(h:CI kvs k=AA v):(k,v)∈kvs:=by
 unfold CI at h;refine AB λF=>?_;obtain⟨p,D,U⟩:=Co.mp h;refine F ?_;try clear F
 have:=vZ (p:=λW:J×AH=>AZ (W.1=k)) D;have e:p.1=k:=ABs this;rw[<-e,<-U];exact List.mem_of_find?_eq_some D
theorem SI{D:Type}[DecidableEq D]{kvs:List (D×AH)}{k:D}(h:k∈kvs.map (·.1)):∃v,CI kvs k=AA v:=by cases e:CI kvs k with|some v=>exact⟨v,rfl⟩|none=>exact absurd h (oW e)
theorem OU:∀{l:List α}{n m:Nat},(∀(i:Nat)x,l[i]?=AA x->(p x=AF↔n<=i/\i<m))->(l.drop n).take (m-n)=l.filter p|[],n,m,_=>by simp|x::l,0,0,h=>by have D:=h 0 x rfl;have F:=OU (n:=0) (m:=0) λi y e=>(h (i+1) y (by simpa using e)).trans (by(first|lia|omega));rw[KP,ABn (λz=>by have:=D.mp z;(first|lia|omega)),<-F];rfl|x::l,0,m+1,h=>by have D:=h 0 x rfl;have F:=OU (n:=0) (m:=m) λi y e=>(h (i+1) y (by simpa using e)).trans (by(first|lia|omega));rw[KP,ABo (D.mpr ⟨Af _,Nat.succ_pos _⟩),<-F];rfl|x::l,n+1,m,h=>by have D:=h 0 x rfl;have F:=OU (n:=n) (m:=m-1) λi y e=>(h (i+1) y (by simpa using e)).trans (by(first|lia|omega));rw[KP,ABn (λz=>by have:=D.mp z;(first|lia|omega)),<-F];congr 1;(first|lia|omega)
noncomputable def Gx(d:AI)(H D:AN):Prop:=∀b o,b≠d->H b=AA o->D b=AA o
theorem Ak.x(s:Ak H D)(d:AI):Gx d H D:=λb o _ e=>s b o e
theorem Dc.acv{A:Cj}(r:Dc k A):A.in1.units+64<E8:=by
 have:=r.un;have e:A.in1.units<=A.units+1:=by first|exact Af _|((first|lia|omega))
 (first|lia|omega)
theorem tK{prog:CZ}{w:Bn}{K:Type}[DecidableEq K]{knd:KeyKind prog w K}{A:Cj}{E:AK->AU->Prop}{s:AU}{d:AI}{kvs:List (K×AK)}{k:K}{key D:AK}{Q:AK->AU->Prop}(F:knd.is k key=AF)(f:s.heap.DictOf knd d kvs)(V:∀v,Fv kvs k=AA v->Q v {s with toks:=s.toks+1})(C:Fv kvs k=AD->∀h',h'.DictOf knd d (NJ kvs k D)->Ir d s.heap h'->Q D {s with heap:=h',toks:=s.toks+1})(hsz:kvs.length<=An):Aa (Ab prog w) A (AAH d key D) Q E s:=by
 refine AB λS=>?_;obtain⟨o,J,m,I,X,Z,R,L,g⟩:=f;refine S ?_;try clear S
 have P:∀x,findBy knd.is J x=Fv _ x:=λx=>by rw[<-L.find x];simp[findBy]
 have c:J.size<=An:=by
  have h:=L.length;have j:J.toList.length=J.size:=by simp
  (first|lia|omega)
 unfold AAH;try with_reducible refine Jt ?_
 refine AX (knd.pyHash F ?_);refine AX (wpAny_dictFind_of F I Z R ?_);have B:(J.findIdx? λe=>knd.is k e.key)=kvs.findIdx? λG=>AZ (G.1=k):=by rw[<-L.findIdx k];obtain⟨l⟩:=J;simp
 cases H:J.findIdx? _ with
 |some i=>
  have U:Fv kvs k=(J[i]?).map (·.val):=by rw[<-P k,AAL,H]
  refine AX (wpAny_dictEntries I Z ?_);cases q:J[i]? with|none=>have:=Array.findIdx?_eq_some_iff_findIdx_eq.mp H;have N:=this.1;rw[Gp N]at q;exact nomatch q|some e=>rw[q]at U;exact AX (HB (Aw (V _ U)))
 |none=>
  have U:Fv kvs k=AD:=by rw[<-P k,AAL,H]
  have Y:=not_mem_of_findIdx_none (B▸H);have W:¬(kvs.any λG=>AZ (G.1=k))=AF:=by rw[LX];rintro⟨G,M,q⟩;exact Y (BH.mpr ⟨G,M,ABs q⟩)
  refine AX (HB (AX (wpAny_updateDictKeys I Z (Aw (C U _ ⟨_,_,_,PD _ I (Obj.isFreed_of_dict (y6 Z _)),X.mapDictKeys _,y6 Z _,R.push F _,?_,?_⟩ (KY ..))))));. rw[NJ,ABn W];have:=L.append F (knd.hash k) D;simpa using this
  . rw[NJ,ABn W,Bx,O5];refine⟨g,by simp,?_⟩;intro a T b O;simp at O;subst O;exactλe=>Y (e▸T)
theorem tJ{prog:CZ}{w:Bn}{K:Type}[DecidableEq K]{knd:KeyKind prog w K}{d:AI}{k:K}{key:AK}(F:knd.is k key=AF)(q:(d==IG)=AO)(D:AK):MeetsIn prog w (Builtin.«dict.setdefault» ⟨[.ref d,key,D],[]⟩) (λ_ R s=>∃kvs,s.heap.DictOf knd d kvs/\kvs.length<=An/\(∀v,Fv kvs k=AA v->R (.ok (.ret v)) {s with toks:=s.toks+1})/\(Fv kvs k=AD->∀h',h'.DictOf knd d (NJ kvs k D)->Ir d s.heap h'->R (.ok (.ret D)) {s with heap:=h',toks:=s.toks+1})):=.of_wp λA R s⟨kvs,W,V,Y,Z⟩=>by refine AX ?_;refine AX (wpAny_notOrdered_dict W.typeIs ?_);refine Aw ?_;simp only[q,Pn,ABx];exact AX (tK F W (λv C=>Aw ⟨v,rfl,Y v C⟩) (λB h' J U=>Aw ⟨_,rfl,Z B h' J U⟩) V)
noncomputable def nE(W Z Y:A1):A1:=λJ H Q=>W J H λx U=>∃a,x=.ref a/\MJ U a/\Z J U λy V=>Y J V λz F=>∃D k,F a=AA (.dK D)/\y=Al k/\D.length<An/\(∀v,CI D k=AA v->Q v F)/\(CI D k=AD->Q z (AW F a (.dK (Bq D k z))))
theorem kY(ho:Ae X o td)(he:Ae X e ty)(hf:Ae X f tx)(m:Vv X o "setdefault" apos e f cpos):Ae X (.Call (.Attribute o "setdefault" apos) [e,f] [] cpos) (nE td ty tx):=by
  intro pins s σ H Q I h;refine AAV m.ao m.ahb m.afq yO yP F.type_dict_setdefault (A2 (ho pins s σ H _ I h) λu s1⟨x,H1,I1,rx,a,ex,d,q1⟩=>?_);subst ex;refine AB λnG=>?_;obtain rfl:u=C8 a:=rx;obtain⟨t1,t2,_⟩:=WY I1 d;refine nG ?_;try clear nG
  refine⟨t1,t2,?_⟩;rw[m.aeh];refine qV rfl (YH (Jm (A2 (he pins s1 σ H1 _ I1 q1) λiv s2⟨y,H2,I2,ry,q2⟩=>Jm (A2 (hf pins s2 σ H2 _ I2 q2) λfv s3⟨z,H3,I3,rz,kvs,k,ea,ey,hl,q3,q4⟩=>Ld ?_))));subst ey;refine AB λnG=>?_;obtain⟨zz,hd,vs,rel,dd⟩:=MS I3.bb ea;refine nG ?_;try clear nG
  refine sF yP dd.typeIs F.entry_dict_setdefault (F.args_dict_setdefault_3 _ _ _) (tJ (knd:=DB X.ag X.w) (LC ry) hd fv) ⟨vs,dd,by rw[<-rel.ak];exact zz,λw' hw=>?_,λhn h' dd' hs=>?_⟩;.cases l:CI kvs k with |none=>have:=V0 (o:=Fv vs k) (by rw[<-l];exact rel.adw k);rw[hw]at this;cases this|some v=>
      refine AB λnG=>?_;obtain⟨w2,hw2,rw2⟩:=MO (v:=v) (o:=Fv vs k) (by rw[<-l];exact rel.adw k);rw[hw]at hw2;cases hw2;refine nG ?_;try clear nG
      exact⟨v,H3,I3.uh _,rw2,q3 v l⟩
  . have l:CI kvs k=AD:=by cases l:CI kvs k with|none=>rfl|some v=> obtain⟨w2,hw2,_⟩:=MO (v:=v) (o:=Fv vs k) (by rw[<-l];exact rel.adw k);rw[hn]at hw2;cases hw2
    have he:∃q,h'.get? a=AA q:=let⟨q,_,_,hq,_⟩:=dd';⟨q,hq⟩;have hl2:(Bq kvs k z).length<=An:=by have:=Od kvs k z;(first|lia|omega)
    exact⟨z,_,OV I3 (by rw[ea];exact GG) hs he (RL hl2 hd (rel.acr k rz) dd'),rz,q4 l⟩
theorem hU{K:Ar}{F:List Nat}{xs:List AH}(p:AH->Bool)(f:AH->AH)(J:Bw K H a xs)(C:xs.length<=An)(W:∀x(R:Bool->AN->Prop),x∈xs->R (p x) H->q (AA x::F.map (Dm Y)) H R)(U:∀x(R:BU),x∈xs->p x=AF->R (f x) H->Z (AA x::F.map (Dm Y)) H R)(A:∀D,H D=AD->Q (.ref D) (AW H D (.lst ((xs.filter p).map f)))):IZ 1 F (Di 0) q Z Y Q (Q6 K a) H:=RJ xs p f C (λi B=>⟨xs,xs[i],J,by simp[B]⟩) ⟨xs,J,Af _⟩ (λi x E _ y=>⟨y.1,y.2 xs J⟩) W U A
theorem hV{lo:Int}{L:List Nat}(Y:Nat->Aj->List AH->AN->Prop)(f:n<=An)(T:Y 0 (M3 N AD++L.map (Dm P)) [] H)(c:∀(i:Nat)q F A(K:AH->Aj->AN->Prop),i<n->F.length<=i->Y i q F A->(∀y C W,Y (i+1) C (F++[y]) W->K y C W)->g (.int (lo+i)) q A λJ W=>E J W λy Z=>K y J Z)(a:∀q F A,F.length<=n->Y n q F A->∀D,A D=AD->Q (.ref D) (AW A D (.lst F))):IZ N L g Mq E P Q (JP lo n) H:=by
  refine⟨λi m q F G=>m=n-i/\i<=n/\F.length<=i/\Y i q F G,⟨n,by simp,Bd _,Bd _,T⟩,?_⟩;intro i m q F G X;refine AB λO=>?_;obtain⟨rfl,d,M,p⟩:=X;refine O ?_;try clear O
  by_cases B:i<n
  . refine .inr ⟨B,by(first|lia|omega),λx A y=>?_⟩;obtain⟨R,S⟩:=y;subst R S;have e:(λ(J:Aj)(W:AN)=>Mq J W λb I=>if b=AF then E J I λy Z=>∃U,U<n-i/\U=n-(i+1)/\i+1<=n/\(F++[y]).length<=i+1/\Y (i+1) J (F++[y]) Z else∃U,U<n-i/\U=n-(i+1)/\i+1<=n/\F.length<=i+1/\Y (i+1) J F I)=λJ W=>E J W λy Z=>∃U,U<n-i/\U=n-(i+1)/\i+1<=n/\(F++[y]).length<=i+1/\Y (i+1) J (F++[y]) Z:=by funext J W;show(if AF=AF then(E J W λy Z=>∃U,U<n-i/\U=n-(i+1)/\i+1<=n/\(F++[y]).length<=i+1/\Y (i+1) J (F++[y]) Z)else∃U,U<n-i/\U=n-(i+1)/\i+1<=n/\F.length<=i+1/\Y (i+1) J F W)=_;rw[ABo rfl]
    rw[e];exact c i q F _ (λy J Z=>∃U,U<n-i/\U=n-(i+1)/\i+1<=n/\(F++[y]).length<=i+1/\Y (i+1) J (F++[y]) Z) B M p (λy C W h=>⟨_,by(first|lia|omega),rfl,B,by rw[CY,Hx];(first|lia|omega),h⟩)
  . have e:i=n:=by(first|lia|omega)
    subst e;exact .inl ⟨Af _,a q F G M p⟩
noncomputable def Kz(o:A8)(kvs:List (AR×AH))(d:AI):GQ:=⟨λi H=>H d=AA (.frz o (.dK kvs))/\i<kvs.length,λi H x D=>D=H/\∃p,kvs[i]?=AA p/\x=Al p.1,λi H=>H d=AA (.frz o (.dK kvs))/\kvs.length<=i⟩
theorem WU{h:A3}{o:A8}(C:Cy P w H h)(e:H d=AA (.frz o (.dK kvs)))(W:o.data=.dict U ep):∃vs,Dj kvs vs/\h.DictAt (DB P w) d vs ep:=by
 refine AB λZ=>?_;obtain⟨Y,z,E,vs,J,G,A,q,F,B,D,r⟩:=(show C7 P w H h d _ from C d _ e);rw[Y]at F;cases F;rw[W]at D;cases D;refine Z ?_;try clear Z
 exact⟨vs,J,o,U,Y,B,W,r⟩
theorem oM{K:Ar}(d it:AI){o:A8}{kvs:List (AR×AH)}(n:o.data=.dict es ep):K7 P w K tg (Kz o kvs d) [it] it (λi h=>h.IsKeyIter it d i kvs.length ep)where
 adp:=by simp
 aaa:=λi h F b W=>by
  have e:=by simpa using W
  subst e;refine AB λD=>?_;obtain⟨o,e,c,d⟩:=F;refine D ?_;try clear D
  exact⟨o,e,λv z=>by rw[d]at z;cases z⟩
 ae:=λi h l F k=>F.at λo e=>k it (by simp) o e
 aal:=by
  intro X R hw Q m i A s σ H E I B F S;subst R hw Q;refine AB λD=>?_;obtain⟨e,r⟩:=S;obtain⟨j,J,U⟩:=WU I.bb e n;refine D ?_;try clear D
  have C:=Jo J;have a:j[i]?=AA _:=B8 (by(first|lia|omega));have T:=B8 r;have g:=Mh J T a;generalize kvs[i]=p at T g;generalize j[i]'(by(first|lia|omega))=q at a g;refine AB λD=>?_;obtain⟨k,x⟩:=q;obtain⟨G,L,f2,M,N,O⟩:=B it (by simp);refine D ?_;try clear D
  rw[C]at F;refine wpAny_pyNext_dict_item F U a λf l Z Y sb=>?_;have t:=I.dk (t':=s.toks) (λb o W e=>(sb.2 b W).trans e) G L M N O;refine AB λD=>?_;obtain⟨o',e',u,y⟩:=id Y;refine D ?_;try clear D
  rw[<-C]at Y;have hk:=g.1;exact⟨f,rfl,OY e' u y (by decide) ⟨_,H,t,by rw[hk];exact Wi Z,⟨rfl,p,T,rfl⟩,Y,λb W=>(B b W).1⟩⟩
 aaj:=by
  intro X R hw Q m i A s σ H E I B F S;subst R hw Q;refine AB λD=>?_;obtain⟨e,r⟩:=S;obtain⟨j,J,U⟩:=WU I.bb e n;have C:=Jo J;obtain⟨G,L,f2,M,N,O⟩:=B it (by simp);refine D ?_;try clear D
  rw[C]at F;exact wpAny_pyNext_dict_end (I.ok.hd m) F U (by simp;(first|lia|omega)) λl eb=>⟨rfl,I.dk (λb o W e=>eb b o W e) G L M N O⟩
 abu:=λ_ _ _ _ _ F h=>wpAny_pyIter_keyiter F h
noncomputable def iS(U:A1):Ec:=λV H R=>U V H λx J=>∃a D,x=.ref a/\HJ J a (.dK D)/\∀o F,F a=AA (.frz o (.dK D))->(∀b,b≠a->F b=J b)->R (Kz o D a) F
theorem lE(E:Ae X l N):EZ X f l (iS N):=by
 intro M s P H R I h;refine A2 (E _ s P H _ I h) λv s1⟨x,Y,B,r1,c⟩=>?_;refine AB λW=>?_;obtain⟨a,S,e,T,q⟩:=c;refine W ?_;try clear W
 subst e;refine AB λW=>?_;cases r1;obtain⟨o,F,Z,Q,d,g⟩:∃o F,AY X _ P F s1/\F a=AA (.frz o _)/\R (Kz o _ a) F/\∀b,Y b=AD->F b=AD:=by
  rcases T with e|⟨o,e⟩
  . obtain⟨z,K,O,J,o,C,L,U,G,A,r⟩:=(show C7 _ _ Y _ a _ from B.bb a _ e);refine⟨o,_,?_,Az,q o _ Az (λb D=>BC D),λb D=>by rw[BC (B6 e D).symm];exact D⟩;exact B.xu (by rw[e];trivial) (.inl rfl) (λb u _ q=>q) ⟨o,U⟩ ⟨U,z,K,O,J,o,C,L,U,G,A,r⟩
  .exact⟨o,Y,B,e,q o Y e λb _=>rfl,λb D=>D⟩
 obtain⟨U,z,K,O,J,i,C,L,V,G,A,r⟩:=(show C7 _ _ F _ a _ from Z.bb a _ Q);rw[U]at V;cases V;refine W ?_;try clear W
 have E:=Jo J;refine wpAny_pyIter_dict K ⟨o,C,U,G,A,r⟩ ?_;refine⟨_,_,_,_,F,rfl,Z.de λb o e=>Bi _ e,oM a _ A,⟨_,Df _ rfl,rfl,by rw[E];rfl⟩,λb D=>?_,d⟩;have e:=by simpa using D
 subst e;exact Z.abi (Af _) (Z.bb.az (Af _))
theorem iJ{d:AI}{o:A8}{kvs:List (AR×AH)}{g:EE}{G:Cd}{D:GP}{F:Aj}{H:AN}(J:Nat->Aj->AN->Prop)(I:J 0 F H)(O:∀i F H,i<=kvs.length->J i F H->H d=AA (.frz o (.dK kvs)))(Q:∀(i:Nat)p F H,kvs[i]?=AA p->J i F H->g (Al p.1) F H λZ C=>G {D with nx:=J (i+1),ct:=J (i+1),bk:=D.nx} Z C)(L:∀F H,J kvs.length F H->D.nx F H):∃W:Nat->Nat->Aj->AN->Prop,(∃m,W 0 m F H)/\∀i m F H,W i m F H->((Kz o kvs d).aad i H/\D.nx F H)\/((Kz o kvs d).go i H/\∃N:Aj->AN->Prop,(∀Y U,N Y U->∃E,E<m/\W (i+1) E Y U)/\∀x U,(Kz o kvs d).aej i H x U->g x F U λZ C=>G {D with nx:=N,ct:=N,bk:=D.nx} Z C):=by
  refine⟨λi m F H=>m=kvs.length-i/\i<=kvs.length/\J i F H,⟨kvs.length,by simp,Bd _,I⟩,?_⟩;intro i m F H K;refine AB λB=>?_;obtain⟨rfl,M,p⟩:=K;refine B ?_;try clear B
  have q:=O i F H M p;by_cases A:i<kvs.length
  . refine .inr ⟨⟨q,A⟩,J (i+1),λY U R=>⟨kvs.length-(i+1),by(first|lia|omega),rfl,A,R⟩,λx U y=>?_⟩;refine AB λB=>?_;obtain⟨e,S,P,rfl⟩:=y;refine B ?_;try clear B
    subst e;exact Q i S F _ P p
  . have:i=kvs.length:=by(first|lia|omega)
    subst this;exact .inl ⟨⟨q,Af _⟩,L F H p⟩
theorem ZD:Manifest.owners.lookup (String.ofList ['r','o','t','a','r','e','t','i','_','t','e','s'].reverse)=AA Manifest.sig_set_iterator:=by kernel_rfl
theorem He:Slot "set_iterator" "__next__" "set_iterator.__next__":=.of (owner:="set_iterator") (n:="__next__") (by kernel_rfl) (by decide+kernel) (by decide+kernel) (by decide+kernel) (by first|exact .inl (by decide+kernel)|exact .inr (by decide+kernel)) (by kernel_rfl)
theorem Pg:sN table "set_iterator.__next__"=AA Builtin.«set_iterator.__next__»:=entryFor_of_tree (by kernel_rfl)
theorem Pf(a:AK):YZ "set_iterator.__next__" ⟨[a],[]⟩:=by unfold YZ;rw[AAS (n:=['_','_','t','x','e','n','_','_']) (by kernel_rfl) ZD];kernel_rfl
theorem ZJ:Slot "set_iterator" "__iter__" "set_iterator.__iter__":=.of (owner:="set_iterator") (n:="__iter__") (by kernel_rfl) (by decide+kernel) (by decide+kernel) (by decide+kernel) (by first|exact .inl (by decide+kernel)|exact .inr (by decide+kernel)) (by kernel_rfl)
theorem uL:sN table "set.__iter__"=AA Builtin.«frozenset.__iter__»:=AAI (id':="frozenset.__iter__") (by kernel_rfl) rfl (by decide+kernel) (by kernel_rfl)
noncomputable def II(xs:Array Nat):Prop:=∀i j:Nat,i<j->∀a b:Nat,xs[i]?=AA a->xs[j]?=AA b->a<b
theorem TN{xs:Array Nat}(V:II xs):∀(D lo hi:Nat),hi-lo<=D->lo<=hi->hi<=xs.size->(∀i a,i<lo->xs[i]?=AA a->a<j)->(∀i a,hi<=i->xs[i]?=AA a->j<=a)->Sq xs j D lo hi<=xs.size/\(∀i a,i<Sq xs j D lo hi->xs[i]?=AA a->a<j)/\∀i a,Sq xs j D lo hi<=i->xs[i]?=AA a->j<=a
 |0,lo,hi,A,B,W,J,U=>by unfold Sq;exact⟨by(first|lia|omega),J,λi a hi=>U i a (by(first|lia|omega))⟩|D+1,lo,hi,A,B,W,J,U=>by
  unfold Sq;split;.next C=>
   have Y:(lo+hi)/2<xs.size:=by(first|lia|omega)
   have e:=Gp Y;have q:xs.getD ((lo+hi)/2) j=xs[(lo+hi)/2]:=by simp[Array.getD,Y]
   dsimp only;rw[q];split;.next Z=>
    refine TN V _ _ _ (by(first|lia|omega)) (by(first|lia|omega)) W (λi a E F=>?_) U;by_cases h:i=(lo+hi)/2;.subst h;rw[e]at F;cases F;exact Z
    .have:=V i _ (by(first|lia|omega)) a _ F e;(first|lia|omega)
   .next Z=>
    refine TN V _ _ _ (by(first|lia|omega)) (by(first|lia|omega)) (by(first|lia|omega)) J (λi a E F=>?_);by_cases h:i=(lo+hi)/2;.subst h;rw[e]at F;cases F;(first|lia|omega)
    .have:=V _ i (by(first|lia|omega)) _ a e F;(first|lia|omega)
  .exact⟨by(first|lia|omega),J,λi a hi=>U i a (by(first|lia|omega))⟩
theorem TQ{xs:Array Nat}(D:II xs)(j:Nat):Hc xs j<=xs.size/\(∀i a,i<Hc xs j->xs[i]?=AA a->a<j)/\∀i a,Hc xs j<=i->xs[i]?=AA a->j<=a:=TN D _ 0 _ (by(first|lia|omega)) (by(first|lia|omega)) (Af _) (λi a h=>absurd h (by(first|lia|omega))) λi a h e=>by rw[Lr h]at e;cases e
theorem uB(F:II xs)(e:xs[i]?=AA a):Hc xs (a+1)=i+1:=by
  refine AB λJ=>?_;obtain⟨Y,U,V⟩:=TQ F (a+1);refine J ?_;try clear J
  rcases X6 (Hc xs (a+1)) (i+1)with h|h|h;.have:=V i a (by(first|lia|omega)) e;(first|lia|omega)
  .exact h
  . have W:i+1<xs.size:=by(first|lia|omega)
    have D:=Gp W;have:=U _ _ h D;have:=F i _ (by(first|lia|omega)) _ _ e D;(first|lia|omega)
theorem uC(J:II xs):Hc xs 0=0:=by
  refine AB λD=>?_;obtain⟨V,F,W⟩:=TQ J 0;refine D ?_;try clear D
  rcases Nat.eq_zero_or_pos _ with h|h;.exact h
  . have U:0<xs.size:=by(first|lia|omega)
    have:=F 0 _ h (Gp U);(first|lia|omega)
theorem uV(J:II xs)(I:xs[Hc xs j]?≠AA j):II (rL xs (Hc xs j) j):=by
  refine AB λE=>?_;obtain⟨M,B,U⟩:=TQ J j;refine E ?_;try clear E
  generalize Hc xs j=p at*;have W:∀i,(rL xs p j)[i]?=if i<p then xs[i]? else if i=p then AA j else xs[i-1]?:=λi=>by
    unfold rL;rw[Array.getElem?_append];have K:((xs.extract 0 p).push j).size=p+1:=by simp;(first|lia|omega)
    rw[K];by_cases Z:i<p
    . rw[ABo Z,ABo (by(first|lia|omega)),u7,ABn (by simp;(first|lia|omega))];simp[u6];(first|lia|omega)
    . rw[ABn Z];by_cases q:i=p;.rw[ABo q,ABo (by(first|lia|omega)),u7,ABo (by simp;(first|lia|omega))]
      . rw[ABn q,ABn (by(first|lia|omega))];simp only[u6];have:p+(i-(p+1))=i-1:=by(first|lia|omega)
        rw[this];split;.rfl
        .rw[Lr (by(first|lia|omega))]
  intro i k V a b F D;rw[W]at F D;have Y:∀i b,p<=i->xs[i]?=AA b->j<b:=λi b H e=>by
    have N:=U i b H e;rcases X5 j b with h|h;.exact h
    . have G:b=j:=by(first|lia|omega)
      subst G;rcases X5 p i with C|C
      . have L:p<xs.size:=by
          rcases X5 i xs.size with h|h;. (first|lia|omega)
          .rw[Lr h]at e;cases e
        have A:=Gp L;have:=J p i C _ _ A e;have:=U p _ (Af _) A;(first|lia|omega)
      . have:i=p:=by(first|lia|omega)
        subst this;exact absurd e I
  split at F
  . split at D;.exact J i k V a b F D
    . split at D;.cases D;exact B i a (by assumption) F
      .have:=B i a (by assumption) F;have:=U (k-1) b (by(first|lia|omega)) D;(first|lia|omega)
  . split at F
    . cases F;split at D;. (first|lia|omega)
      . split at D;. (first|lia|omega)
        .exact Y (k-1) b (by(first|lia|omega)) D
    . split at D;. (first|lia|omega)
      . split at D;. (first|lia|omega)
        .exact J (i-1) (k-1) (by(first|lia|omega)) a b F D
theorem TY{t:IC}:∀(D:Nat)(p:zE),(∀d,p.dummy=AA d->t.slot d=.dummy)->∀j F,zF t (λ_=>h+1) h D p=AA (.empty j F)->t.slot j=.empty/\∀d,F=AA d->t.slot d=.dummy
  |0,p,V,j,F,e=>by cases e|D+1,p,V,j,F,e=>by
    unfold zF at e;have J:∀q:zE,(t.advance q).dummy=q.dummy:=λq=>by unfold SetTable.advance;split<;>rfl
    split at e;.next W=>cases e;exact⟨W,V⟩
    .next W=>exact TY _ _ (λd U=>by rw[J]at U;cases U;exact W) j F e
    . split at e;.cases e
      .exact TY _ _ (λd U=>by rw[J]at U;exact V d U) j F e
theorem uU{t:IC}(h:∀i,t.slot j≠.live i):t.place[Hc t.place j]?≠AA j:=λe=>by refine h (Hc t.place j) ?_;unfold SetTable.slot;simp only[e];simp
noncomputable def JD(l:Bool)(t:IC):Prop:=t.led=l/\(t.plain=AF->II t.place)
theorem uM(l:Bool):JD l (.fresh 0 0 l):=⟨rfl,λ_ i j h a b e=>by simp[SetTable.fresh]at e⟩
theorem Ph{t:IC}(h:t.led=l)(n:Nat):JD l (t.standIn n):=⟨h,λe=>by simp[SetTable.standIn]at e⟩
theorem uO(h:JD l t):JD l {t with plain:=AO}:=⟨h.1,λe=>by simp at e⟩
theorem uN(g:JD l t)(W:Array (Int×AK))(h:Int)(x:AK):JD l (layNew t W h x).2.1:=by
  unfold layNew;split;.next V B D=>
    dsimp only;unfold SetTable.orStandIn;have J:=g.1;split
    . refine⟨J,λZ=>?_⟩;refine uV (g.2 Z) (uU λi=>?_);unfold SetTable.freeSlot at D;split at D;.next j F e=>
        refine AB λU=>?_;obtain⟨q,A⟩:=TY _ _ (λd Y=>by simp[SetTable.probeStart]at Y) j F e;cases D;refine U ?_;try clear U
        cases F with |none=>rw[show(AD).getD j=j from rfl,q];exactλe=>nomatch e|some d=>rw[show(AA d).getD j=d from rfl,A d rfl];exactλe=>nomatch e
      .cases D
    .exact Ph J _
  .exact Ph g.1 _
theorem uP{t:IC}(g:t.led=l)(Z:Array (Int×AK))(n:Nat):JD l (PN t Z n).2.1:=by
  unfold PN;split;.next H U e=>
    dsimp only;split
    . unfold SetTable.relaid SetTable.laid at e;simp only[Option.bind_eq_bind,Option.bind_eq_some_iff,Option.pure_def,xA,Prod.mk.injEq]at e;refine AB λD=>?_;obtain⟨E,_,Y,_⟩:=e;refine D ?_;try clear D
      subst Y;refine⟨g,λ_=>?_⟩;have G:(((DY (SetTable.sizeAbove n-1+1)).filterMap λj=>(E.getD j AD).map (j,.)).map (·.1)).Pairwise (.<.):=by rw[F9];refine AAm _ ?_ wL;intro a b F c q d A;obtain⟨_,_,rfl⟩:=Co.mp q;obtain⟨_,_,rfl⟩:=Co.mp A;exact F
      intro i j J a b V W;rw[SS]at V W;refine AB λD=>?_;obtain⟨B,rfl⟩:=Bh.mp V;obtain⟨C,rfl⟩:=Bh.mp W;refine D ?_;try clear D
      exact Je.mp G i j B C J
    .exact Ph g _
  .exact Ph g _
noncomputable instance uI(k:AR):∀L:List AR,Decidable (k∈L)|[]=>.isFalse (by simp)|x::L=>if h:k=x then .isTrue (by simp[h])else match uI k L with|.isTrue h2=>.isTrue (by simp[h2])|.isFalse h2=>.isFalse (by simp[h,h2])
noncomputable def Gm:AK->Option AR|.int i _=>AA (.inl i)|.str x _=>AA (.inr x)|_=>AD
theorem Y9(h:FO k v=AF):Gm v=AA k:=by rcases G0 h with⟨i,t,rfl,rfl⟩|⟨x,t,rfl,rfl⟩<;>rfl
theorem uS(h:Gm v=AA k):FO k v=AF:=by
 cases v<;>first|cases h|skip
 .exact RV _ _
 .exact RW _ _
theorem uW{v:AK}(h:FO k v=AF):v.scannable=AF:=by rcases G0 h with⟨i,t,rfl,rfl⟩|⟨x,t,rfl,rfl⟩<;>rfl
noncomputable def Gk(w:Bn):Bool:=w.params.followText "set-order"
noncomputable def Ej(prog:CZ)(w:Bn)(h:A3)(a:AI)(L:List AR):Prop:=∃o D F t,h.get? a=AA o/\o.ExactSet/\o.data=.set D F t/\ElemsOf (DB prog w) D.toList/\(D.toList.map λe=>Gm e.2).Perm (L.map AA)/\D.size<Gh/\t.fits D.size=AF/\JD (!Gk w) t
theorem Ej.agb{h h':A3}(x:Ej prog w h a L)(k:∀o,h.get? a=AA o->h'.get? a=AA o):Ej prog w h' a L:=let⟨o,F,D,t,J,r⟩:=x;⟨o,F,D,t,k o J,r⟩
theorem Ej.vp{s:AU}(x:Ej prog w s.heap a L):s.TypeIs (.ref a) "set":=let⟨o,_,_,_,F,D,_⟩:=x;⟨o,F,D.1⟩
theorem Ej.lt{h:A3}(x:Ej prog w h a L):a<h.objs.size:=let⟨_,_,_,_,D,_⟩:=x;Br D
theorem ZL{h:A3}{o:A8}(J:h.get? a=AA o)(D:o.data=.set F ep t):(h.update a (rH es' t')).get? a=AA {o with data:=.set es' (ep+1) t'}:=by have:=PD (rH _ t') J (by rw[putSet_of es' t' D];rfl);rw[putSet_of _ t' D]at this;grind
theorem Y6{prog:CZ}{w:Bn}{A:Cj}{E:AK->AU->Prop}{s:AU}{a:AI}{L:List AR}{g:Bool->Cs Unit}(f:∀(b:Bool)(V:AU)(P:Unit->AU->Prop),P () V->Aa (Ab prog w) A (g b) P E V){o:A8}{c:Array (Int×AK)}{ep:Nat}{t:IC}(S:s.heap.get? a=AA o)(B:o.ExactSet)(Q:o.data=.set c ep t){D:Array (Int×AK)}{t2:IC}(J:ElemsOf (DB prog w) D.toList)(I:(D.toList.map λe=>Gm e.2).Perm (L.map AA))(Y:D.size<Gh)(N:t2.fits D.size=AF)(G:JD (!Gk w) t2){F:Bool}{R:Option Bool->AU->Prop}(h:∀h',Ir a s.heap h'->Ej prog w h' a L->R (AA AF) {s with heap:=h'}):Aa (Ab prog w) A (do storeSet a D t2;if(!F&&t2.tooFull)=AF then do g (PN t2 D (PF D.size)).2.2;storeSet a (PN t2 D (PF D.size)).1 (PN t2 D (PF D.size)).2.1;BB (AA AF)else BB (AA AF)) R E s:=by
  refine AX (AAk S Q ?_ (S1 Y));have Z:=ZL (es':=D) (t':=t2) S Q;have U:=KY s.heap a (rH D t2);split
  . have K:=relayAll_perm t2 D (PF D.size);have C:=relayAll_fits t2 D (PF D.size);have H:=uP G.1 D (PF D.size);generalize d:PN t2 _ _=X at K C H⊢;refine AB λT=>?_;obtain⟨W,t3,M⟩:=X;refine T ?_;try clear T
    have O:W.size=D.size:=by rw[<-JE,K.length_eq,JE]
    have q:W.size<Gh:=by rw[O];exact Y
    refine AX (f _ _ _ ?_);refine AX (AAk Z rfl ?_ (S1 q));exact Aw (h _ (U.trans (KY _ a _)) ⟨_,W,_,t3,ZL Z rfl,B,rfl,J.perm K,(K.map _).trans I,q,C,H⟩)
  .exact Aw (h _ U ⟨_,D,_,t2,Z,B,rfl,J,I,Y,N,G⟩)
theorem tZ{s:AU}{L:List AR}(W:FO k x=AF)(hS:Ej prog w s.heap a L)(p:L.length+1<Gh)(h:∀h',Ir a s.heap h'->Ej prog w h' a (if k∈L then L else L++[k])->Q (!AZ (k∈L)) {s with heap:=h'}):Aa (Ab prog w) A (setAddHashed a x ((DB prog w).hash k)) Q E s:=by
  refine AB λM=>?_;obtain⟨o,S,z,t,i,N,d,q,P,u,l,g⟩:=hS;refine M ?_;try clear M
  have R:=uW W;have Y:=W;have I:∀k,k∈L↔∃e∈S.toList,(DB prog w).is k e.2=AF:=λk=>by have:=P.mem_iff (a:=AA k);simp only[BH,xA,exists_eq_right]at this;rw[<-this];exact⟨λ⟨e,f,V⟩=>⟨e,f,uS V⟩,λ⟨e,f,V⟩=>⟨e,f,Y9 V⟩⟩
  refine Jt (AX (PZ i d l ?_));dsimp only;rw[byScan_of R u q];refine AX ?_;refine AX (HB ?_);refine AX (wpAny_setScan_of Y i d l q ?_);cases v:List.findIdx? _ _ with
  |some j=>
    refine AB λM=>?_;obtain⟨hj,n,_⟩:=List.findIdx?_eq_some_iff_getElem.mp v;refine M ?_;try clear M
    have V:=(I k).mpr ⟨_,Mx hj,n⟩;refine Aw (Aw ?_);have:=h _ (ABP a _) (by rw[ABo V];exact⟨o,S,z,t,i,N,d,q,P,u,l,g⟩);rw[ABq V]at this;exact this|none=>
    have V:k∉L:=λV=>by obtain⟨e,f,hp⟩:=(I k).mp V;have:=List.findIdx?_eq_none_iff.mp v e f;rw[hp]at this;exact GH this
    have m:∀(b:Bool){J:AU}{X:Unit->AU->Prop},X () J->Aa (Ab prog w) A (match b with|AF=>rule "set.scan.the-table-gave-way"|AO=>BB ()) X E J:=λb J X K=>by cases b<;>first|exact Aw K|exact HB K
    have F:=layNew_perm t S ((DB prog w).hash k) x;have D:=layNew_fits t S ((DB prog w).hash k) x;have B:=uN g S ((DB prog w).hash k) x;generalize hL:layNew t S _ x=y at F D B⊢;refine AB λM=>?_;obtain⟨c,t1,T,r⟩:=y;refine M ?_;try clear M
    rw[ZO]at F;have G:=(q.push Y R).perm F;have O:(c.toList.map λe=>Gm e.2).Perm ((L++[k]).map AA):=by refine(F.map _).trans ?_;rw[Bx,Bx];refine P.append ?_;simp;rw[Y9 W]
    have C:c.size<Gh:=by have:=O.length_eq;simp at this;(first|lia|omega)
    refine AX (m _ ?_);have H:∀h',Ir a s.heap h'->Ej prog w h' a (L++[k])->Q AF {s with heap:=h'}:=by intro h' Z U;have:=h h' Z (by rw[ABn V];exact U);rw[ABr V]at this;exact this
    split
    . refine AX ?_;rw[hashByValue_scannable 8 R];refine Aw ?_;refine Y6 ?_ i N d G O C ?_ ?_ ?_;.intro b J X K;cases b<;>first|exact Aw K|exact HB K
      . split;.exact D
        .exact SetTable.fits_plain_off D
      . split;.exact B
        .exact uO B
      .intro h' Z U;exact Aw (H h' Z U)
    . refine AX (Aw ?_);refine Y6 ?_ i N d G O C D B ?_;.intro b J X K;cases b<;>first|exact Aw K|exact HB K
      .intro h' Z U;exact Aw (H h' Z U)
noncomputable def Ds:List AR->List AR->List AR|L,[]=>L|L,k::D=>Ds (if k∈L then L else L++[k]) D
theorem Pk:∀(ks L:List AR),(Ds L ks).length<=L.length+ks.length
 |[],L=>by simp[Ds]|k::ks,L=>by
  have:=Pk ks (if k∈L then L else L++[k]);unfold Ds;by_cases D:k∈L;.simp only[ABo D]at this⊢;simp;(first|lia|omega)
  .simp only[ABn D,CY,FT,Jd]at this⊢;(first|lia|omega)
theorem ZC(k:AR):∀(ks L:List AR),Ds L (ks++[k])=if k∈Ds L ks then Ds L ks else Ds L ks++[k]|[],L=>rfl|x::ks,L=>by exact ZC k ks _
theorem Pj(k:AR):∀(ks L:List AR),k∈Ds L ks↔k∈L\/k∈ks
  |[],L=>by simp[Ds]|x::ks,L=>by
    unfold Ds;rw[Pj k ks];split
    . simp;constructor;.rintro(h|h);exact .inl h;exact .inr (.inr h)
      .rintro(h|rfl|h);exact .inl h;exact .inl (by assumption);exact .inr h
    .simp only[CT,Bl,B7,EH,ABt,or_assoc]
theorem TV:∀(ks L:List AR),L.Nodup->(Ds L ks).Nodup
 |[],L,h=>h|x::ks,L,h=>by
  refine TV ks _ ?_;split;.exact h
  .next J=> rw[O5];refine⟨h,by simp,λa F b D e=>?_⟩;simp at D;subst D;subst e;exact J F
theorem ZM{A:Cj}(W:WalksS prog w A.in1 I f N G n P d)(S:AI)(Y:S∉f)(ks:List AR)(r:ks.length=n)(L:∀(i:Nat)k v,ks[i]?=AA k->P i v->FO k v=AF)(U:n+1<Gh):∀(k i:Nat)(s:AU),n-i=k->i<=n->d i s->Ej prog w s.heap S (Ds [] (ks.take i))->(∀s',Moved (S::N) G s s'->Ej prog w s'.heap S (Ds [] ks)->R (.ok (.ret .none)) s')->IE (Ab prog w) A (.builtin "set.update.loop" ⟨[.ref S,.ref I],[]⟩) R s:=by have Z:S∉N:=λh=>Y (W.sub _ h);have D:∀b∈N,b∈S::N:=λb U=>E5 _ U;intro k;induction k with
 |zero=>
  intro i s m l J M hR;have X:i=n:=by(first|lia|omega)
  subst X;refine Kh xB ?_;refine AX (W.done s _ _ J λs' C=>?_);rw[Cn (by(first|lia|omega))]at M;exact Aw (hR s' (C.mono D) (M.agb λo e=>C.heap S _ Z e))|succ k p=>
  intro i s m l J M hR;have B:i<n:=by(first|lia|omega)
  refine Kh xB ?_;refine AX (W.item i s _ _ B J λv s' j K C=>?_);have q:ks[i]?=AA (ks[i]'(by(first|lia|omega))):=B8 (by(first|lia|omega));have c:=L i _ v q j;have O:=M.agb λo e=>C.heap S _ Z e;refine AX (Jt ?_);unfold setAdd;refine Jt ?_;refine AX ((DB prog w).pyHash (show(DB prog w).is _ v=AF from c) ?_);have F:(Ds [] (ks.take i)).length+1<Gh:=by have:=Pk (ks.take i) [];simp at this;(first|lia|omega)
  refine tZ c O F λg H Q=>?_;have T:Ej prog w g S (Ds [] (ks.take (i+1))):=by rw[DD,q];rw[show(AA (ks[i]'(by(first|lia|omega)))).toList=[ks[i]'(by(first|lia|omega))]from rfl,ZC];exact Q
  refine Aw ⟨TB AAp _,p (i+1) _ (by(first|lia|omega)) B (W.frame _ s' _ _ K (M6 _) λb U o e=>?_) T λa E V=>?_⟩;.rw[H.2 b (λh:b=S=>Y (by rw[<-h];exact U))];exact e
  . refine hR a (Moved.trans W.gtrans ((C.mono D).then_heap (M6 _) λb o U e=>?_) E) V;rw[H.2 b (λh:b=S=>U (by rw[h];exact D6))];exact e
noncomputable abbrev EX(w:Bn):A8:={cls:=.type "set",dict:=AD,data:=.set #[] 0 (.fresh 0 0 (!Gk w))}
theorem ZI{s:AU}(a:AK)(h:Q₁ (.ref s.heap.objs.size) {s with heap:=s.heap.push (EX w)}):IE (Ab prog w) A (.call (.builtin "set.__new__") ⟨[.type "set",a],[]⟩) (wants Q₁ E) s:=by
 refine sI ?_;refine AX (wpAny_of_eq (F.newCall_set_1 a) (Aw ⟨TB F.plain_set_new _,Kh F.entry_set_new ?_⟩));unfold Builtin.«set.__new__»AAs;have D:=sub_set_self;refine AB λF=>?_;obtain⟨J,g,d,V,U⟩:=s;refine F ?_;try clear F
 dsimp only;wp_walk;refine PV (Aw ?_);dsimp only;simp only[newObj];refine AX (wpAny_alloc (Aw ?_));exact Aw h
theorem ZF{h:A3}(e:h.get? a=AA (EX w)):Ej prog w h a []:=⟨_,#[],0,_,e,⟨rfl,rfl,rfl⟩,rfl,λe D=>by simp at D,by simp,by decide,by rfl,uM _⟩
theorem uD{A:Cj}{s:AU}{items:Array AK}{ks:List AR}(hh:A.handled=AD)(hl:s.heap.IsList l items)(H:ks.length=items.size)(hi:∀(i:Nat)k v,ks[i]?=AA k->items[i]?=AA v->FO k v=AF)(O:items.size+1<Gh)(h:∀(h':A3)(S:Nat),Ej prog w h' s.heap.objs.size (Ds [] ks)->(∀b o,b<s.heap.objs.size->s.heap.get? b=AA o->h'.get? b=AA o)->Q (.ref s.heap.objs.size) {s with heap:=h',toks:=S}):Aa (Ab prog w) A (HA (.type "set") [.ref l]) Q E s:=by
  refine AB λF=>?_;obtain⟨c,tl,x⟩:=GB.mro;refine F ?_;try clear F
  have j:=GB.made;have hsub:=GB.sub;refine TF (sI ?_);show Aa _ _ (callAny (.type "set") _) _ _ _;refine Aw ⟨yD _ (by decide+kernel),Kh yM ?_⟩;rw[xX (AAT "set" [.ref l] []) rfl];have h1:=GB.notType;have h2:=GB.canCreate;have hct:=yT (.ref l);repeat(any_goals(first|assumption|wp_step))
  refine Jr (ZI (.ref l) (E:=E) (Q₁:=λM U=>M=.ref s.heap.objs.size/\U={s with heap:=s.heap.push (EX w)}) ⟨rfl,rfl⟩) λr U m=>?_;cases r with |error e=>exact m|ok fl=>cases fl with
    |ret M=>
      obtain⟨rfl,rfl⟩:=m;have u:(s.heap.push (EX w)).get? s.heap.objs.size=AA (EX w):=Df _ rfl;have hT:zG {s with heap:=s.heap.push (EX w)} (.ref s.heap.objs.size) "set":=⟨_,u,rfl⟩;have hli:=GB.init.lookup;have hbi:=GB.init.bind (.ref s.heap.objs.size);repeat(any_goals(first|assumption|wp_step))
      refine Jr (AAG (R:=wants (λr V=>r=.none/\∃h' S,V={s with heap:=h',toks:=S}/\Ej prog w h' s.heap.objs.size (Ds [] ks)/\(∀b o,b<s.heap.objs.size->s.heap.get? b=AA o->h'.get? b=AA o)) E) GB.init.plain yK (AAF hT ?_)) λN V D=>?_
      . refine AB λF=>?_;obtain⟨ol,K,q,nl,B⟩:=hl;obtain⟨ocls,Z,n,J⟩:=ol;refine F ?_;try clear F
        simp only at q B;subst q;subst B;have L:(s.heap.push (EX w)).get? l=AA {cls:=.type "list",dict:=Z,data:=.seq items nl,slots:=J}:=Bi _ K;have z:=F.sub_list_set;have y:=F.sub_list_frozenset;have hne:(Hd "list"==Hd "dict")=AO:=by decide
        have C:(s.heap.push (EX w)).IsList l items:=⟨_,L,rfl,nl,rfl⟩;unfold Builtin.«set.__init__»noKeywords xZ;generalize T:NH=PI;wp_walk;subst T;refine AAe C ?_;refine AX (Yq ?_);have G:l<s.heap.objs.size:=Br K;have f:A.in1.in1.in1.handled=AD:=by simp[hh]
        have I:l≠(s.heap.push (EX w)).objs.size:=by rw[Gf];exact Cv (Jh G)
        have X:s.heap.objs.size∉[(s.heap.push (EX w)).objs.size,l]:=by rw[Gf];simp only[B7,Bl,EH,ABt,not_or];exact⟨Cv (KS _),Se G⟩
        refine ZM ((Walks.list f _ l I items).toS) s.heap.objs.size X ks H (λi k v e1 e2=>hi i k v e1 e2) O (items.size-0) 0 _ (by(first|lia|omega)) (Bd _) ⟨⟨_,Df _ rfl,rfl,rfl⟩,(C.push _)⟩ ?hS0 ?hR;case hS0=>exact ZF (Bi _ u)
        case hR=>
          intro s' P Y;refine AB λF=>?_;obtain⟨h',g',d',t,p⟩:=s';refine F ?_;try clear F
          have eg:g'=s.gens:=P.gens;have ed:d'=s.drawn:=P.drawn;have eo:p=s.os:=P.os;subst eg;subst ed;subst eo;show Aa _ _ _ _ _ _;refine Aw ?_;show Aa _ _ (ret NC) _ _ _;refine Aw ⟨rfl,h',t,rfl,Y,λb o O e=>?_⟩;have a:b≠s.heap.objs.size:=Cv O;have d:b≠(s.heap.push (EX w)).objs.size:=by rw[Gf];exact Cv (Jh O)
          exact P.heap b o (by simp only[B7,Bl,EH,ABt,not_or];exact⟨a,d⟩) (Bi _ (Bi _ e))
      .cases N with |error e=>exact D|ok W=>cases W with
          |ret r=>
            refine AB λF=>?_;obtain⟨rfl,h',S,rfl,Y,g⟩:=D;refine F ?_;try clear F
            repeat(any_goals(first|assumption|wp_step))
            exact h _ _ Y g|_=>exact D.elim
    |_=>exact m.elim
theorem TR:∀(xs:List α)(i:Nat)(h:i<xs.length),(xs[i]::xs.eraseIdx i).Perm xs|x::xs,0,h=>.refl _|x::xs,i+1,h=>by exact(Xq ..).trans ((TR xs i _).cons x)
theorem uG(J:n≠0)(h:∀i d,i<n->Q i {s with drawn:=d}):Aa M A (choose F n) Q E s:=λU p D=>by refine⟨J,?_⟩;exact Aw (h _ _ (wX _ (wZ J))) U p D
theorem Y7:∀(n:Nat)(xs:List α)(s:AU)(Q:List α->AU->Prop),xs.length=n->(∀ys d,ys.Perm xs->Q ys {s with drawn:=d})->Aa M A (drawOrder n xs) Q E s|0,xs,s,Q,D,h=>by exact Aw (h [] _ (by rw[Xw.mp D]))|n+1,[],s,Q,D,h=>by simp at D|n+1,x::xs,s,Q,D,h=>by refine AX (uG (by simp) λi d F=>?_);have e:=B8 F;rw[e];refine AX (Y7 n _ _ _ (by rw[wF,ABo F];(first|lia|omega)) λys J U=>Aw ?_);exact h _ J ((U.cons _).trans (TR _ _ F))
theorem ZE(F:Nat->Nat):∀(n k:Nat)(xs:List α)(out:Array α),xs.length=n->(sT F n k xs out).toList.Perm (out.toList++xs)|0,k,xs,out,J=>by unfold sT;rw[Xw.mp J,Eg]|n+1,k,xs,out,J=>by unfold sT;have D:F k%xs.length<xs.length:=wX _ (by(first|lia|omega));rw[B8 D];refine(ZE F n _ _ _ (by rw[wF,ABo D];(first|lia|omega))).trans ?_;rw[ZO,F7];exact pD _ (TR _ _ D)
theorem Pl(D:Nat->Nat)(xs:Array α):(PM D xs).toList.Perm xs.toList:=by unfold PM;simpa using ZE D _ 0 _ #[] (by simp)
noncomputable def FC(h:A3)(it:AI)(first:AK)(i:Nat)(S:AI)(n ep:Nat):Prop:=∃o,h.get? it=AA o/\o.cls=.type "set_iterator"/\o.data=.fields #[first,.int i 0,.ref S,.int n 0,.int ep 0]
noncomputable def HC(h:A3)(S:AI)(D:Array (Int×AK))(ep:Nat)(t:IC):Prop:=∃o,h.get? S=AA o/\o.ExactSet/\o.data=.set D ep t/\t.fits D.size=AF
theorem FC.vp{s:AU}(x:FC s.heap it first i S n ep):s.TypeIs (.ref it) "set_iterator":=let⟨o,e,c,_⟩:=x;⟨o,e,c⟩
theorem HC.ae{h h':A3}(r:HC h S D ep t)(k:∀o,h.get? S=AA o->h'.get? S=AA o):HC h' S D ep t:=let⟨o,e,c⟩:=r;⟨o,k o e,c⟩
theorem FC.ae{h h':A3}(r:FC h it first i S n ep)(k:∀o,h.get? it=AA o->h'.get? it=AA o):FC h' it first i S n ep:=let⟨o,e,c⟩:=r;⟨o,k o e,c⟩
theorem FC.aew{h:A3}(x:FC h it first i S n ep)(v:AK):FC (h.update it (YM (·.setIfInBounds 0 v))) it v i S n ep:=by
 refine AB λD=>?_;obtain⟨o,e,c,d⟩:=x;refine D ?_;try clear D
 exact⟨_,PD _ e (y7 (YL d _)),(y4 ..).trans c,by rw[YL d];simp⟩
theorem FC.afx{h:A3}(x:FC h it first i S n ep):FC (h.update it (YM (·.setIfInBounds 1 (IF ((i:Int)+1))))) it first (i+1) S n ep:=by
 refine AB λD=>?_;obtain⟨o,e,c,d⟩:=x;refine D ?_;try clear D
 exact⟨_,PD _ e (y7 (YL d _)),(y4 ..).trans c,by rw[YL d];simp[IF]⟩
theorem uT{s:AU}{U:Array (Int×AK)}{W:List Nat}{e:Int×AK}(x:FC s.heap it (.ref T) i S U.size ep)(r:HC s.heap S U ep t)(I:s.heap.IsTuple T (W.map λ(p:Nat)=>IF p).toArray)(L:W[i]?=AA p)(K:U[p]?=AA e)(H:∀h',FC h' it (.ref T) (i+1) S U.size ep->Ir it s.heap h'->Q (AA e.2) {s with heap:=h'}):Aa (Ab prog w) A (NI (.ref it)) Q E s:=by
 have B:=x.vp;refine AB λJ=>?_;obtain⟨o,q,O,Y⟩:=id x;obtain⟨X,F,M,D,Z⟩:=r;refine J ?_;try clear J
 refine AX (TC (TH B He (Js He B Pg ?_ (Pf _))));refine AX (Aw (AX (Yo q Y ?_)));refine AX (TJ F D Z ?_);rw[ABn (by simp)];refine AB λJ=>?_;obtain⟨R,V,N,P,C⟩:=I;refine J ?_;try clear J
 refine AX (AAh V C ?_);have G:(W.map λ(p:Nat)=>IF p).toArray[(i:Int).toNat]?=AA (.int (p) 0):=by rw[Tj,SS,BV,L];rfl
 simp only[G];refine AX ?_;refine AX (PZ F D Z ?_);dsimp only;rw[ABn (by simp)];simp only[Tj,K];refine Aw ?_;refine AX (PY q Y (by simp) ?_);exact Aw ⟨_,rfl,Aw (H _ x.afx (KY ..))⟩
theorem ZK{A:Cj}(J:A.handled=AD){D:AU}(F:∀h',(∀b o,D.heap.get? b=AA o->h'.get? b=AA o)->Q AD {D with heap:=h'}):Aa (Ab prog w) A.in1 (newExc (.type "StopIteration") []>>=λe=>raiseNew (α:=Fin) e) (λfin s'=>∃v,fin=Fin.done (Fu v)/\Aa (Ab prog w) A (match(HD (AA v):Except AK (Option AK))with|HD (AA v)=>BB (AA v)|HD AD=>Yn "iter:the-iterator's-class-has-lost-its-__next__-amid-the-walk"|IJ e=>do let b<-isInstance e (Hd "StopIteration")if b=AF then BB AD else throw e) Q E s') (λe s'=>Aa (Ab prog w) A (match(IJ e:Except AK (Option AK))with|HD (AA v)=>BB (AA v)|HD AD=>Yn "iter:the-iterator's-class-has-lost-its-__next__-amid-the-walk"|IJ e=>do let b<-isInstance e (Hd "StopIteration")if b=AF then BB AD else throw e) Q E s') D:=by refine AX ?_;refine AX (Ki (AX (wpAny_of_eq (by first|rfl|(rfl)) (Ki ?_ (by size_fits)))) (by size_fits));refine AX (wpAny_handled ?_);rw[show A.in1.handled=AD from J];refine AX (Aw (wpAny_throw ?_));refine AX (AAb ⟨_,Df _ rfl,rfl⟩ isSubtype_stop ?_);exact Aw (F _ λb o e=>Bi _ (Bi _ e))
theorem uJ{A:Cj}{s:AU}{G:Array (Int×AK)}(N:A.handled=AD){V:List Nat}(x:FC s.heap it (.ref T) i S G.size ep)(r:HC s.heap S G ep t)(K:s.heap.IsTuple T (V.map λ(p:Nat)=>IF p).toArray)(O:V[i]?=AD)(I:∀h',yU it s.heap h'->Q AD {s with heap:=h'}):Aa (Ab prog w) A (NI (.ref it)) Q E s:=by
 have Z:=x.vp;refine AB λD=>?_;obtain⟨o,Y,a,W⟩:=id x;obtain⟨g,J,R,F,M⟩:=r;refine D ?_;try clear D
 refine AX (TC (TH Z He (Js He Z Pg ?_ (Pf _))));refine AX (Aw (AX (Yo Y W ?_)));refine AX (TJ J F M ?_);rw[ABn (by simp)];refine AB λD=>?_;obtain⟨f,U,X,c,B⟩:=K;refine D ?_;try clear D
 refine AX (AAh U B ?_);have C:(V.map λ(p:Nat)=>IF p).toArray[(i:Int).toNat]?=AD:=by rw[Tj,SS,BV,O];rfl
 simp only[C];refine AX (PY Y W (by simp) ?_);refine AB λD=>?_;obtain⟨d,H,P,q⟩:=x.aew _;refine D ?_;try clear D
 refine AX (PY H q (by simp) ?_);refine ZK N λh' k=>I _ λb o L e=>k b o ?_;exact((KY ..).trans (KY ..)).extBut b o L e
theorem ZA{ep i:Nat}{D j:Nat}(x:FC s.heap it (.int D 0) i S W.size ep)(r:HC s.heap S W ep t)(I:∀V:Option (AK×Nat)->AU->Prop,V (AA (v,j)) s->∀E,Aa (Ab prog w) A.in1 (PR S D i ep) V E s)(G:∀h',FC h' it (.int j 0) (i+1) S W.size ep->Ir it s.heap h'->Q (AA v) {s with heap:=h'}):Aa (Ab prog w) A (NI (.ref it)) Q E s:=by
 have q:=x.vp;refine AB λF=>?_;obtain⟨o,Z,M,Y⟩:=id x;obtain⟨O,U,L,J,H⟩:=r;refine F ?_;try clear F
 refine AX (TC (TH q He (Js He q Pg ?_ (Pf _))));refine AX (Aw (AX (Yo Z Y ?_)));refine AX (TJ U J H ?_);rw[ABn (by simp)];show Aa _ _ (PR S _ _ _>>=_) _ _ s;refine AX (I _ ?_ _);refine AX (PY Z Y (by simp) ?_);refine AB λF=>?_;obtain⟨N,C,K,B⟩:=x.aew _;refine F ?_;try clear F
 refine AX (PY C B (by simp) ?_);exact Aw ⟨_,rfl,Aw (G _ (x.aew _).afx ((KY ..).trans (KY ..)))⟩
theorem Y8{ep i:Nat}(H:A.handled=AD){D:Nat}(x:FC s.heap it (.int D 0) i S q.size ep)(r:HC s.heap S q ep t)(I:∀U:Option (AK×Nat)->AU->Prop,U AD s->∀E,Aa (Ab prog w) A.in1 (PR S D i ep) U E s)(B:∀h',yU it s.heap h'->Q AD {s with heap:=h'}):Aa (Ab prog w) A (NI (.ref it)) Q E s:=by
 have Z:=x.vp;refine AB λY=>?_;obtain⟨o,W,L,V⟩:=id x;obtain⟨M,J,K,F,G⟩:=r;refine Y ?_;try clear Y
 refine AX (TC (TH Z He (Js He Z Pg ?_ (Pf _))));refine AX (Aw (AX (Yo W V ?_)));refine AX (TJ J F G ?_);rw[ABn (by simp)];show Aa _ _ (PR S _ _ _>>=_) _ _ s;refine AX (I _ ?_ _);refine AX (PY W V (by simp) ?_);refine ZK H λh' k=>B _ λb o C e=>k b o ?_;exact(KY ..).extBut b o C e
theorem ZH{w:Bn}{s:AU}(V:Gk w=AF)(r:HC s.heap S Z ep t)(D:Nat)(U:Option (AK×Nat)->AU->Prop)(h:U (((PM (w.params.setOrder S ep) Z)[i]?).map λe=>(e.2,D)) s):Aa (Ab prog w) A (PR S D i ep) U E s:=by
 refine AB λY=>?_;obtain⟨B,J,q,F,W⟩:=r;refine Y ?_;try clear Y
 refine AX (PZ J F W ?_);refine AX ?_;refine AX (PV (Aw ?_));show Aa _ _ (if Gk w=AF then _ else _) _ _ s;rw[ABo V,ABn (by simp)];refine AX ?_;refine AX (PZ J F W ?_);refine AX ?_;refine AX (PV (Aw ?_));show Aa _ _ (if Gk w=AF then _ else _) _ _ s;rw[ABo V];exact AX (PV (Aw (Aw h)))
theorem ZG{s:AU}{F:Array (Int×AK)}{t:IC}(G:Gk w=AO)(r:HC s.heap S F ep t)(I:t.led=AF)(H:(!t.plain&&AZ (F.size>1))=AO)(N:II t.place)(D:Nat)(L:Hc t.place D=i)(J:Option (AK×Nat)->AU->Prop)(B:∀e j,F[i]?=AA e->t.place[i]?=AA j->J (AA (e.2,j+1)) s)(C:F.size<=i->J AD s):Aa (Ab prog w) A (PR S D i ep) J E s:=by
 refine AB λq=>?_;obtain⟨O,W,M,U,V⟩:=r;refine q ?_;try clear q
 have K:=by simp only[rK,JF,ABw]at V;exact V.1
 refine AX (PZ W U V ?_);dsimp only;refine AX ?_;refine AX (PV (Aw ?_));show Aa _ _ (if Gk w=AF then _ else if(!t.plain&&AZ _)=AF then _ else _) _ _ s;rw[ABn (by rw[G];exact C6),ABn (by rw[H];exact C6)];refine AX (m:=if(!t.led&&!F.isEmpty)=AF then _ else _) ?_;rw[ABn (by rw[I];simp)];refine Aw ?_;rw[L];rcases X5 i F.size with h|h
 . have Y:=Gp h;have Z:t.place[i]?=AA _:=Gp (by(first|lia|omega));rw[Y,Z];exact Aw (B _ _ Y Z)
 . rw[Lr h];exact Aw (C h)
theorem uA(a:AK):YZ "set_iterator.__iter__" ⟨[a],[]⟩:=by unfold YZ;rw[AAS (n:=['_','_','r','e','t','i','_','_']) (by kernel_rfl) ZD];kernel_rfl
theorem uK:sN table "set_iterator.__iter__"=AA Builtin.«dict_keyiterator.__iter__»:=AAI (id':="dict_keyiterator.__iter__") (by kernel_rfl) rfl (by decide+kernel) (by kernel_rfl)
theorem TU{s:AU}(x:FC s.heap it first i S n ep)(h:Q (.ref it) s):Aa (Ab prog w) A (NH (.ref it)) Q E s:=by refine AAf x.vp ZJ (Js ZJ x.vp uK ?_ (uA _));exact Aw ⟨_,rfl,_,_,x.vp,He.lookup,h⟩
theorem uX{A:Cj}{U:Array (Int×AK)}(K:A.handled=AD)(I T:AI)(G:S≠I)(H:T≠I)(W:List Nat)(vs:List AK)(O:W.length=U.size)(L:∀(i p:Nat),W[i]?=AA p->∃e,U[p]?=AA e/\vs[i]?=AA e.2):Walks prog w A I [I,S,T] [I] U.size (λi v=>vs[i]?=AA v) (λi h=>FC h I (.ref T) i S U.size ep/\HC h S U ep t/\h.IsTuple T (W.map λ(p:Nat)=>IF p).toArray)where
 sub:=λb F=>by simp at F;simp[F]
 frame:=λi h V D k=>⟨D.1.ae (k I (by simp)),D.2.1.ae (k S (by simp)),let⟨o,e,c⟩:=D.2.2;⟨o,k T (by simp) o e,c⟩⟩
 item:=λi s Q E N D J=>by
  have B:W[i]?=AA _:=B8 (by(first|lia|omega));refine AB λC=>?_;obtain⟨e,Y,Z⟩:=L i _ B;refine C ?_;try clear C
  refine uT D.1 D.2.1 D.2.2 B Y λV M q=>J _ V _ Z ⟨M,D.2.1.ae λo e=>q.extBut S o G e,let⟨o,e,c⟩:=D.2.2;⟨o,q.extBut T o H e,c⟩⟩ λb o F e=>q.extBut b o (λh=>F (by simp[h])) e
 done:=λs Q E D J=>uJ K D.1 D.2.1 D.2.2 (Xu (by(first|lia|omega))) λV Y=>J V _ λb o F e=>Y b o (λh=>F (by simp[h])) e
 self:=λi s Q E D J=>TU D.1 J
theorem uZ{w:Bn}{A:Cj}{J:Array (Int×AK)}(G:A.handled=AD)(F:Gk w=AF)(I:AI)(B:S≠I):Walks prog w A I [I,S] [I] J.size (λi v=>((PM (w.params.setOrder S ep) J).toList.map (·.2))[i]?=AA v) (λi h=>FC h I (.int (0:Nat) 0) i S J.size ep/\HC h S J ep t)where
 sub:=λb F=>by simp at F;simp[F]
 frame:=λi h V D k=>⟨D.1.ae (k I (by simp)),D.2.ae (k S (by simp))⟩
 item:=λi s Q E K D U=>by
  have Y:=by have:=(Pl (w.params.setOrder S ep) J).length_eq;simpa using this
  have e:(PM (w.params.setOrder S ep) J)[i]?=AA _:=Gp (by(first|lia|omega));refine ZA D.1 D.2 (λW q E=>ZH F D.2 0 W (by rw[e];exact q)) λV H Z=>U _ V _ (by rw[BV,Ju,e];rfl) ⟨H,D.2.ae λo e=>Z.extBut S o B e⟩ λb o F e=>Z.extBut b o (λh=>F (by simp[h])) e
 done:=λs Q E D U=>by
  have Y:=by have:=(Pl (w.params.setOrder S ep) J).length_eq;simpa using this
  exact Y8 G D.1 D.2 (λW q E=>ZH F D.2 0 W (by rw[Lr (by(first|lia|omega))];exact q)) λV C=>U V _ λb o F e=>C b o (λh=>F (by simp[h])) e
 self:=λi s Q E D U=>TU D.1 U
theorem uY{A:Cj}{U:Array (Int×AK)}{t:IC}(a:A.handled=AD)(D:Gk w=AO)(P:t.led=AF)(N:(!t.plain&&AZ (U.size>1))=AO)(K:II t.place)(I:AI)(T:S≠I):Walks prog w A I [I,S] [I] U.size (λi v=>(U.toList.map (·.2))[i]?=AA v) (λi h=>(∃F:Nat,Hc t.place F=i/\FC h I (.int F 0) i S U.size ep)/\HC h S U ep t)where
 sub:=λb D=>by simp at D;simp[D]
 frame:=λi h B J k=>⟨let⟨Z,e,x⟩:=J.1;⟨Z,e,x.ae (k I (by simp))⟩,J.2.ae (k S (by simp))⟩
 item:=λi s Q E H J W=>by
  refine AB λY=>?_;obtain⟨⟨Z,L,x⟩,r⟩:=J;refine Y ?_;try clear Y
  have c:t.place.size=U.size:=by obtain⟨_,_,_,_,O⟩:=r;simp only[rK,JF,ABw]at O;exact O.1
  have M:t.place[i]?=AA _:=Gp (by(first|lia|omega));refine ZA (v:=(U[i]).2) x r (λC q E=>ZG D r P N K Z L C (λe j V G=>?_) λh=>absurd H (by(first|lia|omega))) λB d R=>W _ B _ ?_ ⟨⟨_,uB K M,d⟩,r.ae λo e=>R.extBut S o T e⟩ λb o D e=>R.extBut b o (λh=>D (by simp[h])) e
  . rw[Gp H]at V;rw[M]at G;cases V;cases G;exact q
  .rw[BV,Ju,Gp H];rfl
 done:=λs Q E J W=>by
  refine AB λY=>?_;obtain⟨⟨Z,L,x⟩,r⟩:=J;refine Y ?_;try clear Y
  refine Y8 a x r (λC q E=>ZG D r P N K Z L C (λe j V G=>?_) λh=>q) λB X=>W B _ λb o D e=>X b o (λh=>D (by simp[h])) e;rw[Lr (Af _)]at V;cases V
 self:=λi s Q E J W=>let⟨⟨_,_,x⟩,_⟩:=J;TU x W
theorem uR{A:Cj}{s:AU}{L:List AR}(hh:A.handled=AD)(x:Ej prog w s.heap S L)(hQ:∀(h':A3)(d:Drawn)(I:AI)(fp:List AI)(St:Nat->A3->Prop)(vs:List AK)(n:Nat),vs.length=n->(∀b o,s.heap.get? b=AA o->h'.get? b=AA o)->(∀b∈fp,b=S\/s.heap.objs.size<=b)->s.heap.objs.size<=I->Walks prog w A I fp [I] n (λi v=>vs[i]?=AA v) St->St 0 h'->(vs.map Gm).Perm (L.map AA)->n<Gh->Q (.ref I) {s with heap:=h',drawn:=d}):Aa (Ab prog w) A (NH (.ref S)) Q E s:=by
  have ty:=x.vp;have hlt:=x.lt;refine AB λnG=>?_;obtain⟨o,es,ep,t,ho,hex,hd,hel,hpm,hb,hf,hgd⟩:=x;refine nG ?_;try clear nG
  have raw:HC s.heap S es ep t:=⟨o,ho,hex,hd,hf⟩;refine AAf ty yQ (Js yQ ty uL ?_ (F.args_set_iter_1 _));refine AX (AX (Aw (Aw ?_)));dsimp only;refine AX (AX (TJ ho hd hf (Aw ?_)));refine AX (m:=setDrawn S) ?_;unfold setDrawn;refine AX (PZ ho hd hf ?_);dsimp only;refine AX (m:=setsByText) ?_;unfold setsByText;refine AX (PV (Aw ?_));refine Aw ?_;show Aa _ _ (if(!Gk w&&(!t.plain&&AZ (es.size>1)))=AF then _ else _) _ _ s;by_cases hdr:(!Gk w&&(!t.plain&&AZ (es.size>1)))=AF
  . rw[ABo hdr];refine AX (Y7 es.size (DY es.size) s _ (by simp) λys d hp=>AX ?_);refine AAc ?_ (by have:=hp.length_eq;simp at this⊢;rw[this];exact S1 hb);have hly:ys.length=es.size:=by have:=hp.length_eq;simpa using this
    refine AX (AAi (Bi _ ho) hd hf ?_);simp only[newFields];refine AX (Ki (Aw ⟨_,rfl,"set_iterator",_,⟨_,Df _ rfl,rfl⟩,He.lookup,?_⟩));have key:∀p∈ys,∃e,es[p]?=AA e:=λp hp2=>by have:=hp.mem_iff.mp hp2;rw[M0]at this;exact⟨_,Gp this⟩
    refine hQ _ d _ [_,S,s.heap.objs.size] _ (ys.map λp=>((es[p]?).map (·.2)).getD .none) es.size (by simpa using hly) (λb o e=>Bi _ (Bi _ e)) ?_ ?_ (uX (t:=t) (ep:=ep) hh _ _ ?_ ?_ ys _ hly λi p e=>?_) ⟨⟨_,Df _ rfl,rfl,?_⟩,raw.ae λo e=>Bi _ (Bi _ e),⟨_,Bi _ (Df _ rfl),rfl,_,rfl⟩⟩ ?_ hb
    . intro b hb2;simp only[B7,EH,ABt]at hb2;rcases hb2 with rfl|rfl|rfl;.right;rw[Gf];(first|lia|omega)
      .exact .inl rfl
      .right;exact Af _
    .rw[Gf];(first|lia|omega)
    .rw[Gf];exact Cv (Jh hlt)
    .rw[Gf];exact Cv (KS _)
    . obtain⟨e2,he2⟩:=key p (B9 e);rw[BV,e];simp[he2]
    .simp[IF]
    . refine Xr ?_ hpm;refine((hp.map _).map Gm).trans ?_;have:(DY es.size).map (λp=>((es[p]?).map (·.2)).getD .none)=es.toList.map (·.2):=by refine List.ext_getElem (by simp) λi h1 h2=>?_;simp at h1 h2;simp[h1]
      rw[this,Cb];exact .refl _
  . rw[ABn hdr];refine AX (Aw ?_);refine AX (AAi ho hd hf ?_);refine AX (Ki (Aw ⟨_,rfl,"set_iterator",_,⟨_,Df _ rfl,rfl⟩,He.lookup,?_⟩));have fpo:∀b∈[s.heap.objs.size,S],b=S\/s.heap.objs.size<=b:=λb hb2=>by
      simp at hb2;rcases hb2 with rfl|rfl;.right;exact Af _
      .exact .inl rfl
    cases hbt:Gk w with
    |true=>
      refine hQ _ s.drawn _ [_,S] _ ((PM (w.params.setOrder S ep) es).toList.map (·.2)) es.size ?_ (λb o e=>Bi _ e) fpo (Af _) (uZ (t:=t) (ep:=ep) hh hbt _ (Cv hlt)) ⟨⟨_,Df _ rfl,rfl,?_⟩,raw.ae λo e=>Bi _ e⟩ ?_ hb;.have:=(Pl (w.params.setOrder S ep) es).length_eq;simpa using this
      . refine Xr ?_ hpm;rw[Cb];exact(Pl _ es).map _
      .simp[IF]|false=>
      have hd2:(!t.plain&&AZ (es.size>1))=AO:=by rw[hbt]at hdr;simpa using hdr
      have hps:=by simp only[rK,JF,ABw]at hf;exact hf.1
      have hr:II t.place:=by cases hpl:t.plain with |true=>exact hgd.2 hpl|false=> rw[hpl]at hd2;simp at hd2;intro i j hij a b ea eb;rw[Lr (by(first|lia|omega))]at eb;cases eb
      refine hQ _ s.drawn _ [_,S] _ (es.toList.map (·.2)) es.size (by simp) (λb o e=>Bi _ e) fpo (Af _) (uY (t:=t) (ep:=ep) hh hbt (by rw[hgd.1,hbt];rfl) hd2 hr _ (Cv hlt)) ⟨⟨0,uC hr,_,Df _ rfl,rfl,?_⟩,raw.ae λo e=>Bi _ e⟩ ?_ hb;. rw[Cb];exact hpm
      .simp[IF]
theorem uQ{s:AU}(D:s.TypeIs (.ref S) "set")(h:Q AO s):Aa (Ab prog w) A (AAt (.ref S)) Q E s:=by refine AX (AAj D F.slot_set_len.lookup ?_);generalize F:("set.__len__")=J;subst F;refine AX (AAb (b:=AF) D (by kernel_rfl) ?_);refine AX (tI D ?_);exact Aw h
theorem uH{A:Cj}{s:AU}{L:List AR}(hh:A.handled=AD)(x:Ej prog w s.heap S L)(hQ:∀h' q d(vs:List AK),(∀b o,s.heap.get? b=AA o->h'.get? b=AA o)->s.heap.objs.size<h'.objs.size->(vs.map Gm).Perm (L.map AA)->vs.length<Gh->Q vs {s with heap:=h',toks:=q,drawn:=d}):Aa (Ab prog w) A (sJ (.ref S)) Q E s:=by
 unfold sJ;refine AX (Yq (Kh yJ ?_));rw[xY F.plain_proto_collect _];refine AX (Ki ?_);refine Aw ⟨TB rA _,Kh yI ?_⟩;rw[xY rA _];have G:(s.heap.push {cls:=.type "list",data:=.seq ([]:List AK).toArray}).get? s.heap.objs.size=AA {cls:=.type "list",data:=.seq ([]:List AK).toArray}:=Df _ rfl;have v:∀b o,s.heap.get? b=AA o->(s.heap.push {cls:=.type "list",data:=.seq ([]:List AK).toArray}).get? b=AA o:=λb o e=>Bi _ e;have P:s.heap.objs.size≠S:=Se x.lt;have t:=x.agb λo e=>v S o e;show Aa _ A.in1 (x5 (.ref s.heap.objs.size) (.ref S) (.ref s.heap.objs.size)) _ _ _;unfold x5;refine AX (tI (T:="set") t.vp ?_);have g:x6 (.ref s.heap.objs.size) (.ref S)=AO:=by simp[x6,P]
 simp only[g,show(Hd "set"==Hd "list")=AO from by decide,show(Hd "set"==Hd "tuple")=AO from by decide,vE,Pn,ABx];refine AX (uR (A:=A.in1) hh t λh' d I fp z vs n X p l u W st pm M=>?_);have V:=p _ _ G;have k:s.heap.objs.size<I:=by have D:(s.heap.push {cls:=.type "list",data:=.seq ([]:List AK).toArray}).objs.size=s.heap.objs.size+1:=Gf ..;rw[D]at u;exact u
 have N:s.heap.objs.size∉fp:=λc=>by
  rcases l _ c with e|e;.exact P e
  . have D:(s.heap.push {cls:=.type "list",data:=.seq ([]:List AK).toArray}).objs.size=s.heap.objs.size+1:=Gf ..;rw[D]at e;exact absurd e (Nat.not_le_of_lt (KS _))
 refine AX (Jt (uQ (s:={s with heap:=h',drawn:=d}) (t.agb λo e=>p S o e).vp ?_));have r:∀(h:A3)(U:Nat)(R:YO->AU->Prop),z 0 h->(∀b o,b≠s.heap.objs.size->h'.get? b=AA o->h.get? b=AA o)->h.get? s.heap.objs.size=AA {cls:=.type "list",data:=.seq #[] U}->(∀D q B,(∀b o,s.heap.get? b=AA o->D.get? b=AA o)->D.get? s.heap.objs.size=AA {cls:=.type "list",dict:=AD,data:=.seq vs.toArray B,slots:=#[]}->R (.ok (.ret (.ref s.heap.objs.size))) {s with heap:=D,toks:=q,drawn:=d})->IE (Ab prog w) A (.builtin "list.extend.loop" ⟨[.ref s.heap.objs.size,.ref I,.ref s.heap.objs.size],[]⟩) R {s with heap:=h,drawn:=d}:=by
  intro h U R m hk H hR;refine codeAny_extend_loopS W.toS (S1 M) s.heap.objs.size N _ n 0 _ #[] U rfl (Bd _) m H (ItemsOf.nil _) λy J B c j C=>?_;rw[Moved.eq_with c];have ea:J=vs.toArray:=by refine Array.ext (by rw[C.1];simpa using X.symm) λi g D=>?_;have this:vs[i]?=AA J[i]:=C.2 i J[i] (Gp g);simp at D;rw[B8 D]at this;simpa using(De this).symm
  subst ea;refine hR y.heap y.toks B (λb o e=>c.heap b o (λZ=>?_) (hk b o (Cv (Br e)) (p b o (v b o e)))) j;rcases B7.mp Z with e'|Z;.exact absurd (Br e) (by rw[e'];exact E6 _)
  .have:=Br e;rw[Bl.mp Z]at this;exact absurd (pV this k) (E6 _)
 have fin:∀D q B,(∀b o,s.heap.get? b=AA o->D.get? b=AA o)->D.get? s.heap.objs.size=AA {cls:=.type "list",dict:=AD,data:=.seq vs.toArray B,slots:=#[]}->Aa (Ab prog w) A (load s.heap.objs.size>>=λo=>match o.data with |.seq xs _=>BB xs.toList|_=>Yn "internal:collect") Q E {s with heap:=D,toks:=q,drawn:=d}:=λD q B f a=>by refine AX (tG a ?_);exact Aw (hQ D q d vs f (Br a) pm (by rw[X];exact M))
 refine AX (HB ?_);refine AX ?_;refine AX (AAl V rfl ?_);have Y:=PD (Iu (·.push NC)) V rfl;refine AAl (hz:=by seq_fits) Y rfl ?_;have K:=PD (Iu (·.pop)) Y rfl;refine Aw ⟨TB F.plain_extend_loop _,r _ _ _ ?_ (λb o M e=>?_) K λD q B f a=>fin D q B f a⟩;. refine W.frame 0 _ _ st λb M o e=>?_;have O:b≠s.heap.objs.size:=λh=>N (h▸M);exact(PC _ _ (HX O)).trans ((PC _ _ (HX O)).trans e)
 .exact(PC _ _ (HX M)).trans ((PC _ _ (HX M)).trans e)
theorem AY.afj(I:AY X D V H s)(d:Drawn):AY X D V H {s with drawn:=d}:=by
 refine AB λU=>?_;obtain⟨W,Y,Z,q,A,B,C,E,G,F,J⟩:=I;refine U ?_;try clear U
 exact⟨W,Y,Z,q,A,B,C,E,G,F,J⟩
theorem jK:∀{vs:List AK}{L:List AR},(vs.map Gm).Perm (L.map AA)->∃D:List AR,vs.map Gm=D.map AA/\D.Perm L:=λ{vs L}h=>by
  refine⟨vs.map λv=>(Gm v).getD (.inl 0),?_,?_⟩
  . rw[Cb];refine KR λv J=>?_;have:=h.mem_iff.mp (List.mem_map_of_mem J);refine AB λF=>?_;obtain⟨k,_,e⟩:=BH.mp this;refine F ?_;try clear F
    simp[<-e]
  . have:=h.map λo=>o.getD (.inl 0);simpa[vF]using this
theorem SD(h:Gm v=AA k):BN (Al k) v:=by
 cases v<;>first|cases h|skip
 .exact⟨_,rfl⟩
 .exact⟨_,rfl⟩
noncomputable def MQ(h:A3)(u:AK)(ks:List AR)(J:List AI):Prop:=∃a o D m F,u=.ref a/\h.get? a=AA o/\o.cls=.type "tuple"/\o.data=.seq D m/\D.toList=F++J.map C8/\F.map Bb=ks/\∀v∈F,Dz v
noncomputable def gL(h:A3)(U:List AI)(J:List AR)(F:List AI)(D:List AR):Prop:=(U=F/\J=D)\/∃(p q:AI)(W V:List Int),U=[p]/\F=[q]/\J=W.map BP/\D=V.map BP/\F0 h (.ref p) J/\F0 h (.ref q) D
noncomputable abbrev Fh:=List AR×List AI×List AR
noncomputable def Fn(d:Fh):List AR:=d.1++d.2.2
structure Q9(h:A3)(vs:List AK)(ds:List Fh)(sh:List Bool):Prop where
 bj:vs.length=ds.length
 hn:sh≠[]aby:∀(i:Nat)u d,vs[i]?=AA u->ds[i]?=AA d->MQ h u d.1 d.2.1/\d.1.map DP=sh
 aff:∀(i j:Nat)d e,ds[i]?=AA d->ds[j]?=AA e->d.1=e.1->gL h d.2.1 d.2.2 e.2.1 e.2.2
theorem WR:∀{us F:List AK}{J D:List AI},(∀v∈us,Dz v)->(∀v∈F,Dz v)->us++J.map C8=F++D.map C8->us=F/\J=D
 |[],[],J,D,_,_,e=>⟨rfl,by exact(List.map_inj_right (by grind)).mp e⟩|[],v::F,J,D,_,h,e=>by cases J with|nil=>cases e|cons r J=>
  injection e with U _;have:=h v D6;rw[<-U]at this;exact this.elim|v::us,[],J,D,h,_,e=>by cases D with |nil=>cases e|cons r D=> injection e with U _;have:=h v D6;rw[U]at this;exact this.elim
 |v::us,Y::F,J,D,h,W,e=>by injection e with U V;obtain⟨a,b⟩:=WR (by grind) (by grind) V;grind
theorem MQ.aby(t:MQ h u ks Z)(t':MQ h u D J):ks=D/\Z=J:=by
 refine AB λF=>?_;obtain⟨a,o,V,m,K,rfl,e,_,d,l,k,f⟩:=t;obtain⟨E,I,U,H,C,q,Y,_,W,B,G,A⟩:=t';refine F ?_;try clear F
 injection q with q;subst q;rw[e]at Y;refine AB λF=>?_;cases Y;rw[d]at W;cases W;obtain⟨x,y⟩:=WR f A (l.symm.trans B);refine F ?_;try clear F
 grind
theorem F0.aby(t:F0 h u ks)(t':F0 h u D):ks=D:=t.kf.symm.trans t'.kf
noncomputable def Ma(vs:List AK)(kss:List (List AR))(u:AK):List AR:=by classical exact if D:∃F,(u,F)∈vs.zip kss then D.choose else[]
theorem Q9.kf{F:List Fh}(x:Q9 h vs F G):∀(i:Nat)u d,vs[i]?=AA u->F[i]?=AA d->Ma vs (F.map Fn) u=Fn d:=by
 intro i u d A U;have J:∃E,(u,E)∈vs.zip (F.map Fn):=⟨Fn d,HW.mpr ⟨i,(by grind)⟩⟩;unfold Ma;rw[dif_pos J];refine AB λZ=>?_;obtain⟨j,C⟩:=HW.mp J.choose_spec;obtain⟨B,V⟩:=Mw.mp C;rw[BV]at V;obtain⟨D,W,Y⟩:=Co.mp V;have Y:Fn D=J.choose:=Y;obtain⟨a,b⟩:=(x.aby i u d A U).1.aby (x.aby j u D B W).1;refine Z ?_;try clear Z
 have H:d.2.2=D.2.2:=by
  rcases x.aff i j d D U W a with⟨_,q⟩|⟨p,q,_,_,r1,r2,_,_,t1,t2⟩;.exact q
  . rw[b,r2]at r1;injection r1 with r1;subst r1;exact t1.aby t2
 grind
theorem Wo:∀(xs ys:List AK)(F D:List AK)(i:Nat),(∀v∈xs,Dz v)->(∀v∈ys,Dz v)->xs.map (λv=>DP (Bb v))=ys.map (λv=>DP (Bb v))->(xs.map Bb=ys.map Bb->∀j,i+xs.length<=j->YS prog w A b fin Q (F.zip D) j s)->(xs.map Bb≠ys.map Bb->Q (CQ (xs.map Bb) (ys.map Bb)) s)->YS prog w A b fin Q ((xs++F).zip (ys++D)) i s
 |[],[],F,D,i,_,_,_,h,_=>(by grind)|[],_::_,_,_,_,_,_,e,_,_=>by cases e|_::_,[],_,_,_,_,_,e,_,_=>by cases e|x::xs,y::ys,F,D,i,Z,B,e,h,W=>by
  obtain⟨J,Y⟩:=D5 e;have U:=Z x D6;have V:=B y D6;refine YV (RM U V J (rQ (λq=>?_) λq=>?_))
  . have q:=ABs q;refine rT (Wo xs ys F _ _ (by grind) (by grind) Y (by grind) λz=>?_);have:=W (by grind);rw[Cu,Cu,CQ]at this;grind
  . have q:=ABv q;have:=W (by grind);rw[Cu,Cu,CQ,ABn q]at this;exact rR (Wt _ U V J this)
theorem Wq:∀(D:List AI)(i:Nat),Q AO s->YS prog w A b AO Q ((D.map C8).zip (D.map C8)) i s|[],_,h=>zZ h|r::D,i,h=>YV (zA _ _ w _ _ (rT (Wq D _ h)))
theorem Wm:∀{ks ls xs ys:List AR},ks.length=ls.length->CQ (ks++xs) (ls++ys)=if ks=ls then CQ xs ys else CQ ks ls|[],[],_,_,_=>by grind|[],_::_,_,_,e=>by cases e|_::_,[],_,_,e=>by cases e|k::ks,l::ls,xs,ys,e=>by have D:=Wm (ks:=ks) (ls:=ls) (xs:=xs) (ys:=ys) (by grind);show(if k=l then CQ (ks++xs) (ls++ys)else Dl k l)=if k::ks=l::ls then CQ xs ys else(if k=l then CQ ks ls else Dl k l);grind
theorem SA:∀{us:List AK},(∀v∈us,Dz v)->∃D,ReadsAll h us ((us.map Bb).map HP) D
 |[],_=>⟨_,.nil⟩|v::us,f=>by
  obtain⟨D,r⟩:=SA (h:=h) (λw hw=>f w (E5 _ hw));have F:=f v D6;cases v<;>first|exact F.elim|skip
  .exact⟨_,.cons (.int _ _) r⟩
  .exact⟨_,.cons (.str _ _) r⟩
theorem RP:∀D:List Int,(D.map (BP:Int->AR)).map HP=D.map GC|[]=>rfl|n::D=>by rw[Cu,Cu,Cu,RP D];rfl
theorem iH{A:Cj}{s:AU}{D J:List Int}(t1:F0 s.heap (.ref p) (D.map BP))(t2:F0 s.heap (.ref q) (J.map BP))(O:A.units+64<E8):YQ A s (.ref p) (.ref q) (AZ (D=J)):=by
 refine AB λU=>?_;obtain⟨a,o,Z,m,Y,e,c,d,k,f⟩:=t1;obtain⟨L,Q,V,P,F,H,E,G,K,I⟩:=t2;refine U ?_;try clear U
 injection Y with Y;injection F with F;subst Y F;refine AB λU=>?_;obtain⟨C,r⟩:=SA (h:=s.heap) f;obtain⟨W,B⟩:=SA (h:=s.heap) I;refine U ?_;try clear U
 rw[k,RP]at r;rw[K,RP]at B;have:=zC (.tuple (D.map GC)) (.tuple (J.map GC)) A s (.ref p) (.ref q) C W (.tuple e c d r) (.tuple H E G B) (by simp[Iw,(LD D).1]) (by simp[Iw,(LD J).1]) (by
  have N:(PyData.tuple (D.map GC)).depth<=1:=by simp[Jp,(LD D).2]
  (first|lia|omega));have M:NA (.tuple (D.map GC)) (.tuple (J.map GC))=AZ (D=J):=by simp only[NA];exact WO D J
 grind
theorem jU{A:Cj}{s:AU}{Y W:List Int}(t1:F0 s.heap (.ref p) (Y.map BP))(t2:F0 s.heap (.ref q) (W.map BP))(u:A.units+64<E8)(h:Q (CQ (Y.map BP) (W.map BP)) s):Aa (Ab prog w) A (oneLt' AO (.ref p) (.ref q)) Q E s:=by
 refine AB λV=>?_;obtain⟨a,o,D,m,C,e,c,d,k,f⟩:=t1;obtain⟨j,b,F,X,J,M,H,K,S,R⟩:=t2;refine V ?_;try clear V
 injection C with C;injection J with J;subst C J;refine AB λV=>?_;obtain⟨O,P,L,g⟩:=o;obtain⟨I,B,Z,G⟩:=b;refine V ?_;try clear V
 simp only at c d H K;subst c d H K;have U:∀(l:List Int)(i:Nat)(z:AR),(l.map (BP:Int->AR))[i]?=AA z->DP z=AF:=λl i z N=>by rw[BV]at N;obtain⟨n,_,rfl⟩:=Co.mp N;rfl
 have T:OB D.toList F.toList D.size F.size (CQ (Y.map BP) (W.map BP)):=by refine⟨⟨D.toList,[],by simp,.inl rfl,f,R,λi x y r t=>?_,by rw[k,S]⟩,by grind⟩;rw[U Y i (Bb x) (by grind),U W i (Bb y) (by grind)]
 refine rS _ _ ?_;exact AAQ (op:=.Lt) ⟨_,e,rfl⟩ ⟨_,M,rfl⟩ yS yL (by rfl) (Xj p q _ _ m X P B g G _ T) ⟨e,M,⟨(by grind),h⟩⟩ (by(first|lia|omega))
theorem Q9.agc{A:Cj}{s:AU}{h:A3}{vs:List AK}{R:List Fh}(x:Q9 h vs R sh)(Z:A.units+64<E8)(h2:2<=vs.length)(kp:∀a o items m,h.get? a=AA o->o.cls=.type "tuple"->o.data=.seq items m->s.heap.get? a=AA o):∃κ,(∀(Q:O8->AU->Prop)(E:AK->AU->Prop),Q κ s->Aa (Ab prog w) A (qK vs.toArray) Q E s)/\E9 prog w A s κ Ii (Ma vs (R.map Fn)) (G7 vs):=by
  have mp:∀p∈(G7 vs).toList,p.1∈vs:=λp M=>by rw[YC]at M;exact(YB M).2
  have n:∀{u H rs},MQ h u H rs->MQ s.heap u H rs:=λ⟨a,o,items,m,F,S,e,c,d,r⟩=>⟨a,o,items,m,F,S,kp a o items m e c d,c,d,r⟩;have O:∀{u H},F0 h u H->F0 s.heap u H:=λ⟨a,o,items,m,S,e,c,d,r⟩=>⟨a,o,items,m,S,kp a o items m e c d,c,d,r⟩;have V:∀u∈vs,∃(i:Nat)(d:Fh),vs[i]?=AA u/\R[i]?=AA d:=λu Z=>JW x.bj Z;refine⟨tuples' AF,λQ E q=>?_,⟨λp M q hq Q E k=>?_⟩⟩
  . have g:∀(l:List AK),(∀u∈l,u∈vs)->∃Y,zN s.heap l Y/\Y.length=l.length/\∀v∈Y,Dz v/\DP (Bb v)=sh.headD AF:=λl=>by induction l with |nil=>exactλ_=>⟨[],trivial,rfl,λv B=>by cases B⟩|cons u l ih=> intro Z;obtain⟨Y,N,k2,f⟩:=ih (by grind);obtain⟨i,d,L,G⟩:=V u (Z u D6);obtain⟨t,z⟩:=x.aby i u d L G;obtain⟨a,o,items,m,F,rfl,e,c,W,C,r,U⟩:=n t;match F,C,r,U with
        |[],_,r,_=>rw[<-r]at z;exact absurd z.symm x.hn|f0::l1,C,r,U=>
          have g0:items[0]?=AA f0:=by rw[<-Ju,C];rfl
          refine⟨f0::Y,zO e c W g0 N,by grind,λv B=>?_⟩;grind
    refine AB λK=>?_;obtain⟨Y,N,k2,f⟩:=g vs λ_ h=>h;refine K ?_;try clear K
    cases hh:sh.headD AF with
    |true=> refine YW (T:=.type "int") N (by(first|lia|omega)) (λv B=>?_) (by decide) q;obtain⟨U,z⟩:=f v B;rw[hh]at z;cases v<;>first|exact U.elim|exact GH _|exact GH (show AO=AF from z)|exact .now
    |false=> refine YW (T:=.type "str") N (by(first|lia|omega)) (λv B=>?_) (by decide) q;obtain⟨U,z⟩:=f v B;rw[hh]at z;cases v<;>first|exact U.elim|exact GH (show AF=AO from z)|exact GH (show AO=AF from z)|exact .now
  . refine AB λK=>?_;obtain⟨i,d,L,G⟩:=V _ (mp p M);obtain⟨j,W,e3,X⟩:=V _ (mp q hq);have k:Q (CQ _ _) s:=k;rw[x.kf i _ d L G,x.kf j _ W e3 X]at k;obtain⟨t,z1⟩:=x.aby i _ d L G;obtain⟨t',z2⟩:=x.aby j _ W e3 X;obtain⟨a,o,items,m,F,u1,e,c,dd,C,r,U⟩:=n t;obtain⟨a',o',D,m',J,u2,e',c',P,I,r',b⟩:=n t';refine K ?_;try clear K
    have es:=by
      have h1:(F.map Bb).map DP=(J.map Bb).map DP:=by rw[r,r',z1,z2]
      rw[Cb,Cb]at h1;exact h1
    have el:=by have:=ABp KQ (z1.trans z2.symm);simpa using this
    unfold Fn at k;rw[Wm el]at k;rw[u1,u2];refine zW e dd e' P ?_;rw[C,I];have lu:F.length=d.1.length:=by rw[<-r,Am]
    have y:J.length=W.1.length:=by rw[<-r',Am]
    have sz1:items.size=F.length+d.2.1.length:=by rw[<-JE,C];simp
    have sz2:D.size=J.length+W.2.1.length:=by rw[<-JE,I];simp
    have hpos:0<F.length:=by rw[lu];refine wZ λz=>x.hn ?_;grind
    refine Wo F J _ _ 0 U b es (λq j hj=>?_) λq=>?_
    . rw[r,r']at q;rw[ABo q]at k;rcases x.aff i _ d W G X q with⟨q1,q2⟩|⟨p',q',ns,ms,r1,r2,r3,r4,t1,t2⟩
      . rw[ABr (by rw[sz1,sz2,lu,y,el,q1];(first|lia|omega)),q1];rw[q2,Oe]at k;exact Wq _ _ k
      . rw[ABr (by grind),r1,r2];rw[r3]at t1;rw[r4]at t2;rw[r3,r4]at k;refine YV (iH (O t1) (O t2) Z prog w _ _ (rQ (λz=>?_) λz=>?_))
        . have z:=ABs z;rw[z,Oe]at k;assumption
        . refine rR ?_;have j0:(j==0)=AO:=by simp;(first|lia|omega)
          rw[j0,ZU];exact jU (O t1) (O t2) Z k
    grind
noncomputable def OJ(K:Ar)(H:AN)(xs:List AH)(D:List Fh)(U:List Bool):Prop:=U≠[]/\Bm (λx(d:Fh)=>(∃a,x=.ref a/\Bw K H a (d.1.map Al++d.2.1.map AH.ref))/\d.1.map DP=U) xs D/\∀(i j:Nat)d e,D[i]?=AA d->D[j]?=AA e->d.1=e.1->(d.2.1=e.2.1/\d.2.2=e.2.2)\/∃(p q:AI)(J F:List Int),d.2.1=[p]/\e.2.1=[q]/\d.2.2=J.map BP/\e.2.2=F.map BP/\Bw K H p (J.map AH.int)/\Bw K H q (F.map AH.int)
theorem XM:∀{D:List AI}{us:List AK},BO (D.map AH.ref) us->us=D.map C8|[],_,h=>by cases h;rfl|r::D,_,h=>by cases h with|cons F J=>cases F;rw[XM J];rfl
theorem Xi{X:BR}{s:AU}(I:AY X U E H s){D:List Int}(h:Bw X.K H p (D.map AH.int)):F0 s.heap (.ref p) (D.map BP):=by
 have W:Bw X.K H p ((D.map (BP)).map Al):=by rw[Cb];exact h
 refine AB λJ=>?_;obtain⟨F,A,⟨o,q,Y,n,Z⟩,_⟩:=I.bh W;obtain⟨B,C⟩:=MZ A;refine J ?_;try clear J
 exact⟨p,o,_,n,rfl,q,Y,Z,by grind,by grind⟩
theorem OJ.adx{X:BR}{s:AU}(I:AY X G y H s)(h:OJ X.K H xs Y M)(r:BO xs D):Q9 s.heap D Y M:=by
  refine AB λF=>?_;obtain⟨Q,p,W⟩:=h;have v:=r.ak;obtain⟨m,O⟩:=C5 p;refine F ?_;try clear F
  refine⟨by(first|lia|omega),Q,λi u d U J=>?_,λi j d e U J q=>?_⟩
  . have t:=(Bh.mp J).1;have Z:xs[i]?=AA xs[i]:=B8 _;refine AB λF=>?_;obtain⟨⟨a,N,S⟩,z⟩:=O i _ _ Z J;obtain⟨w,A,B⟩:=r.yl Z;rw[U]at A;cases A;rw[N]at B;obtain rfl:u=C8 a:=B;obtain⟨E,g,⟨o,R,P,n,C⟩,_⟩:=I.bh S;obtain⟨k,x,rfl,l,v2⟩:=SM g;obtain⟨T,b⟩:=MZ l;refine F ?_;try clear F
    rw[XM v2]at C;exact⟨⟨a,o,_,n,k,rfl,R,P,C,by simp,T,b⟩,z⟩
  . rcases W i j d e U J q with h|⟨p,q,f,c,r1,r2,K,L,t1,t2⟩;.exact .inl h
    .exact .inr ⟨p,q,f,c,r1,r2,K,L,by rw[K];exact Xi I t1,by rw[L];exact Xi I t2⟩
theorem kO{D:List AK}{ys:List AH}{kss:List (List AR)}(r:BO ys D)(B:D.length=kss.length)(K:∀(i:Nat)u ks,D[i]?=AA u->kss[i]?=AA ks->kf u=ks){out:Array A4}(p:out.Perm (G7 D))(u:DF (O:=Ii) kf out 0 (G7 D).size):∃F:List (AH×List AR),F.Perm (ys.zip kss)/\BO (F.map (·.1)) (out.map (·.2)).toList/\(F.map (·.2)).Pairwise (λa b=>CQ b a=AO):=by
  have G:out.toList.Perm (D.zip D):=by rw[<-YC];exact Pm.mp p
  have f:∀q∈out.toList,q.1=q.2/\q.1∈D:=λq L=>YB (G.mem_iff.mp L);have H:(out.map (·.2)).toList=out.toList.map (·.2):=vB ..;have N:=by have:=G.map (·.2);rwa[SY (Af _)]at this
  have c:=r.ak;have M:Bm (λ(q:AH×List AR)v=>BN q.1 v/\kf v=q.2) (ys.zip kss) D:=by refine JZ (by grind) λi a b W Y=>?_;obtain⟨I,R⟩:=Mw.mp W;obtain⟨v,S,T⟩:=r.yl I;grind
  refine AB λE=>?_;obtain⟨F,P,Q⟩:=Rr N M;obtain⟨e,X⟩:=C5 Q;refine E ?_;try clear E
  refine⟨F,P,?_,?_⟩
  . rw[H];refine JZ (by grind) λi a b W Y=>?_;grind
  . rw[Je];intro i j Z A J;rw[Am]at Z A;have d:=p.size_eq.symm;have C:∀k(B:k<F.length),(F[k]).2=BE (O:=Ii) kf out k:=λk B=>by
      have U:k<out.size:=by grind
      rw[DG U];have Y:(out.toList.map (·.2))[k]?=AA out[k].2:=by grind
      grind
    have:=u i j (Bd _) (M5 J) (by grind);rw[<-C i Z,<-C j A]at this;rw[Xv,Xv];exact this
theorem RH{X:BR}{K:Ar}(g:Dc k X.A)(T:X.K=K:=by rfl):EB X (.builtin "sorted") (λxs H Q=>∃(p:AI)(ys:List AH)(J:List Fh)(N:List Bool),xs=[.ref p]/\Bg K H p ys/\OJ K H ys J N/\∀l(F:List (AH×List AR)),H l=AD->F.Perm (ys.zip (J.map Fn))->(F.map (·.2)).Pairwise (λa b=>CQ b a=AO)->Q (.ref l) (AW H l (.lst (F.map (·.1))))):=by
  subst T;intro L s σ H xs us Q I r h;refine AB λY=>?_;obtain⟨p,ys,J,N,rfl,f,x,q⟩:=h;obtain⟨u,rfl,w⟩:=F6 r;cases w;obtain⟨D,B,n,hz⟩:=I.cu f;refine Y ?_;try clear Y
  have C:=x.adx I B;have c:=n.isList;have G:=B.ak;refine qW qL qO qI (qB _) ?_;unfold Builtin.«sorted»;refine AX (m:=checkCount "sorted" 1 1 _) (Aw ?_);refine AX (collect_list c ?_ (by(first|lia|omega)));refine AX (Yp ?_ (by(first|lia|omega)));have W:((s.heap.push (FV "list" #[] 0)).update s.heap.objs.size (Iu (.++D.toArray))).objs.size=s.heap.objs.size+1:=by simp_all
  have U:(((s.heap.push (FV "list" #[] 0)).update s.heap.objs.size (Iu (.++D.toArray))).push (FV "list" D.toArray 0)).get? (s.heap.objs.size+1)=AA (FV "list" D.toArray 0):=by rw[<-W];exact Df _ rfl
  have kp:∀b o,s.heap.get? b=AA o->(((s.heap.push (FV "list" #[] 0)).update s.heap.objs.size (Iu (.++D.toArray))).push (FV "list" D.toArray 0)).get? b=AA o:=λb o e=>Bi _ ((yX _ _ _ _ (Cv (Br e))).trans (Bi _ e));rw[W];refine AX (Jt (Js qQ ⟨_,U,rfl⟩ qH (TM (O:=Ii) U (by(first|lia|omega)) (Ma D (J.map Fn)) (λy k' S=>?_) λA p u=>⟨_,rfl,Aw ⟨_,rfl,?_⟩⟩) (by rfl)))
  . refine C.agc ?_ S λa o Z m e _ _=>?_
    . have:=g.un;grind
    grind
  . refine AB λY=>?_;obtain⟨F,M,t,v⟩:=kO (kss:=J.map Fn) (kf:=Ma D (J.map Fn)) B (by rw[Am];exact C.bj) (λi u ks P E=>by rw[BV]at E;obtain⟨d,R,rfl⟩:=Co.mp E;exact C.kf i u d P R) p u;obtain⟨e,z⟩:=sortedAll_at s.heap D (A.map (·.2));refine Y ?_;try clear Y
    have j:(F.map (·.1)).length<=An:=by rw[Am,M.length_eq,pK];(first|lia|omega)
    refine⟨.ref (s.heap.objs.size+1),_,I.ie (a:=s.heap.objs.size+1) (o:=.lst (F.map (·.1))) (t':=s.toks) (λb o e=>sortedAll_old e) (M6 _) ⟨j,_,e,t,by assumption⟩,rfl,q _ F (I.bb.az (M6 _)) M v⟩
theorem uF{A:Cj}{s:AU}{items:Array AK}{ks:List AR}(hh:A.handled=AD)(hl:s.heap.IsTuple l items)(H:ks.length=items.size)(hi:∀(i:Nat)k v,ks[i]?=AA k->items[i]?=AA v->FO k v=AF)(O:items.size+1<Gh)(h:∀(h':A3)(S:Nat),Ej prog w h' s.heap.objs.size (Ds [] ks)->(∀b o,b<s.heap.objs.size->s.heap.get? b=AA o->h'.get? b=AA o)->Q (.ref s.heap.objs.size) {s with heap:=h',toks:=S}):Aa (Ab prog w) A (HA (.type "set") [.ref l]) Q E s:=by
  refine AB λF=>?_;obtain⟨c,tl,x⟩:=GB.mro;refine F ?_;try clear F
  have j:=GB.made;have hsub:=GB.sub;refine TF (sI ?_);show Aa _ _ (callAny (.type "set") _) _ _ _;refine Aw ⟨yD _ (by decide+kernel),Kh yM ?_⟩;rw[xX (AAT "set" [.ref l] []) rfl];have h1:=GB.notType;have h2:=GB.canCreate;have hct:=yT (.ref l);repeat(any_goals(first|assumption|wp_step))
  refine Jr (ZI (.ref l) (E:=E) (Q₁:=λM U=>M=.ref s.heap.objs.size/\U={s with heap:=s.heap.push (EX w)}) ⟨rfl,rfl⟩) λr U m=>?_;cases r with |error e=>exact m|ok fl=>cases fl with
    |ret M=>
      obtain⟨rfl,rfl⟩:=m;have u:(s.heap.push (EX w)).get? s.heap.objs.size=AA (EX w):=Df _ rfl;have hT:zG {s with heap:=s.heap.push (EX w)} (.ref s.heap.objs.size) "set":=⟨_,u,rfl⟩;have hli:=GB.init.lookup;have hbi:=GB.init.bind (.ref s.heap.objs.size);repeat(any_goals(first|assumption|wp_step))
      refine Jr (AAG (R:=wants (λr V=>r=.none/\∃h' S,V={s with heap:=h',toks:=S}/\Ej prog w h' s.heap.objs.size (Ds [] ks)/\(∀b o,b<s.heap.objs.size->s.heap.get? b=AA o->h'.get? b=AA o)) E) GB.init.plain yK (AAF hT ?_)) λN V D=>?_
      . refine AB λF=>?_;obtain⟨ol,K,q,nl,B⟩:=hl;obtain⟨ocls,Z,n,J⟩:=ol;refine F ?_;try clear F
        simp only at q B;subst q;subst B;have L:(s.heap.push (EX w)).get? l=AA {cls:=.type "tuple",dict:=Z,data:=.seq items nl,slots:=J}:=Bi _ K;have z:=F.sub_tuple_set;have y:=F.sub_tuple_frozenset;have hne:(Hd "tuple"==Hd "dict")=AO:=by decide
        have C:(s.heap.push (EX w)).IsTuple l items:=⟨_,L,rfl,nl,rfl⟩;unfold Builtin.«set.__init__»noKeywords xZ;generalize T:NH=PI;wp_walk;subst T;refine AAg C ?_;refine AX (Yq ?_);have G:l<s.heap.objs.size:=Br K;have f:A.in1.in1.in1.handled=AD:=by simp[hh]
        have I:l≠(s.heap.push (EX w)).objs.size:=by rw[Gf];exact Cv (Jh G)
        have X:s.heap.objs.size∉[(s.heap.push (EX w)).objs.size,l]:=by rw[Gf];simp only[B7,Bl,EH,ABt,not_or];exact⟨Cv (KS _),Se G⟩
        refine ZM ((Walks.tuple f _ l I items).toS) s.heap.objs.size X ks H (λi k v e1 e2=>hi i k v e1 e2) O (items.size-0) 0 _ (by(first|lia|omega)) (Bd _) ⟨⟨_,Df _ rfl,rfl,rfl⟩,(C.push _)⟩ ?hS0 ?hR;case hS0=>exact ZF (Bi _ u)
        case hR=>
          intro s' P Y;refine AB λF=>?_;obtain⟨h',g',d',t,p⟩:=s';refine F ?_;try clear F
          have eg:g'=s.gens:=P.gens;have ed:d'=s.drawn:=P.drawn;have eo:p=s.os:=P.os;subst eg;subst ed;subst eo;show Aa _ _ _ _ _ _;refine Aw ?_;show Aa _ _ (ret NC) _ _ _;refine Aw ⟨rfl,h',t,rfl,Y,λb o O e=>?_⟩;have a:b≠s.heap.objs.size:=Cv O;have d:b≠(s.heap.push (EX w)).objs.size:=by rw[Gf];exact Cv (Jh O)
          exact P.heap b o (by simp only[B7,Bl,EH,ABt,not_or];exact⟨a,d⟩) (Bi _ (Bi _ e))
      .cases N with |error e=>exact D|ok W=>cases W with
          |ret r=>
            refine AB λF=>?_;obtain⟨rfl,h',S,rfl,Y,g⟩:=D;refine F ?_;try clear F
            repeat(any_goals(first|assumption|wp_step))
            exact h _ _ Y g|_=>exact D.elim
    |_=>exact m.elim
theorem lI(D:List AK):Yj D.toArray AD AD (AA (-1))=D.reverse.toArray:=by
  have J:Ll AD AD (AA (-1)) D.length=((D.length:Int)-1,-1,-1):=by rfl
  have V:sliceRange ((D.length)-1) (-1) (-1)=(DY D.length).map λk=>D.length-1-k:=by
    have U:(if((D.length:Int)-1)>-1 then(((D.length:Int)-1)- -1- -1-1)/ -(-1)else 0).toNat=D.length:=by
      split
      . have:(((D.length:Int)-1)- -1- -1-1)/ -(-1)=D.length:=by rw[show-(-1)=1 by decide];(first|lia|omega)
        rw[this];rfl
      . have:D.length=0:=by(first|lia|omega)
        rw[this];rfl
    show List.map _ (DY (if((D.length:Int)-1)>-1 then(((D.length)-1)- -1- -1-1)/ -(-1:Int)else 0).toNat)=_;rw[U];refine KR λk _=>?_;(first|lia|omega)
  have F:((DY D.length).map λk=>D.length-1-k).map (λx=>D.toArray[x]?)=D.reverse.map AA:=by
    refine vU λk=>?_;rw[Cb,BV,BV];by_cases h:k<D.length
    . rw[v8 h,List.getElem?_reverse h];show AA (D.toArray[D.length-1-k]?)=_;rw[SS,B8 (by(first|lia|omega))];rfl
    . rw[Xu (by simpa using h),Xu (by simpa using h)];rfl
  unfold Yj;have W:D.toArray.size=D.length:=by simp
  rw[W,J];rw[V];have e:List.filterMap (λx=>D.toArray[x]?) ((DY D.length).map λk=>D.length-1-k)=D.reverse:=by have:=vV (f:=λx=>D.toArray[x]?) (g:=id) (l:=(DY D.length).map λk=>D.length-1-k);rw[F]at this;simp only[vF,id]at this;rw[<-this];simp
  rw[e]
noncomputable def oA(K:Ar)(V W:A1):A1:=λJ H Q=>V J H λx U=>W J U λy D=>y=.int (-1)/\∃a F,x=.ref a/\Bg K D a F/\∀p,D p=AD->Q (.ref p) (AW D p (.lst F.reverse))
theorem k9{X:BR}{K:Ar}{st:BD}(E:Ae X e T)(G:Ae X st c)(C:X.K=K:=by rfl):Ae X (.Subscript e (.Slice AD AD (AA st) d) P) (oA K T c):=by
 subst C;intro W s F H Q I h;refine Xa sW.lookup (λ_ _=>rfl) (A2 (E _ s F H _ I h) λv s1⟨x,Y,A,r1,R⟩=>?_);refine wpAny_Slice ?_;refine Aw ?_;refine Aw ?_;refine A2 (G _ s1 F Y _ A R) λu s2⟨y,Z,B,r2,S⟩=>?_;refine AB λV=>?_;obtain⟨rfl,a,f,rfl,L,q⟩:=S;cases r1;obtain⟨t,rfl⟩:=r2;have D:AY X _ F Z {s2 with heap:=s2.heap.push {cls:=.type "slice",data:=.fields #[.none,.none,.int (-1) t]}}:=B.de λb O q=>Bi _ q;obtain⟨N,r,U,M⟩:=D.cu L;refine V ?_;try clear V
 have J:=r.ak;refine⟨U.isList.typeIs,?_⟩;refine AAa U.isList (yV ..) .none .none (.int _ t) (by decide) ?_ (by rw[DQ];(first|lia|omega));rw[lI];refine⟨.ref _,_,D.ie (λb O q=>Bi _ q) (Af _) ?_,rfl,q _ (D.bb.az (Af _))⟩;exact⟨by rw[List.length_reverse];exact M,_,0,r.adt,Df _ rfl⟩
noncomputable def nN(t u:Cd):Cd:=λD U H=>∀(N:Aj->AN->Prop)(r:BU)(b c:Aj->AN->Prop),(∀F J,u D F J->N F J)->t ⟨N,r,b,c⟩ U H
theorem Aq{st:BM}(U:DW X st t)(V:Ea X F u):Ea X (st::F) (nN t u):=λJ s W H D I h=>CG U V J s W H D I (h _ _ _ _ λ_ _ z=>z)
noncomputable def nO(t u:Cd):Cd:=λD U H=>∀(N:Aj->AN->Prop)(r:BU)(b c:Aj->AN->Prop),(∀J F,u D J F->N J F)->(∀v F,D.rt v F->r v F)->t ⟨N,r,b,c⟩ U H
theorem Fp{st:BM}(U:DW X st t)(V:Ea X F u):Ea X (st::F) (nO t u):=λJ s W H D I h=>CG U V J s W H D I (h _ _ _ _ (λ_ _ z=>z) λ_ _ z=>z)
noncomputable def nI(t:Cd):Cd:=λD U H=>∀(N:Aj->AN->Prop)(r:BU)(b c:Aj->AN->Prop),(∀F J,D.nx F J->N F J)->t ⟨N,r,b,c⟩ U H
theorem E4{st:BM}(J:DW X st t):DW X st (nI t):=λF s U H D I h=>J F s U H D I (h _ _ _ _ λ_ _ z=>z)
@[elab_as_elim]theorem As{H:AN}{c:AI}{o:DV}{R:AN->Prop}(D:H c=AD)(k:∀G,Ak H G->G c=AA o->R G):R (AW H c o):=k _ (Cz D) Az
theorem BF{n:Nat}(h:n.ble m=AF):n<=m:=(by simp_all)
theorem CH{N P:List AJ}{D:Du}(F:D.kind=.function:=by rfl)(J:D.isCoroutine=AO:=by rfl)(U:D.isGenerator=AO:=by rfl)(V:N.Nodup:=by decide+kernel)(W:N.take P.length=P:=by rfl)(Y:∀x∈P,D.names.lookup x=AA .local\/D.names.lookup x=AA .cell:=by decide+kernel)(Z:∀y∈D.names,y.2≠.free:=by decide+kernel):Bp N P D:=⟨F,J,U,V,W,Y,Z⟩
structure gF(P:CZ)(w:Bn)(K:Ar)(mg:AJ->Option AK)(base:A3)(k:Nat)(f:AI)(fd:Au)(ps:List AJ)(sp:Ba)(x:AJ):Prop where
 F:BW P w K mg base Bs k f fd ps sp
 m:mg x=AA (.ref f)k:Lg K (.ref f)=AF
 b:Bf K fd ps []
theorem A9{X:BR}{x:AJ}(C:gF X.ag X.w X.K X.mg X.ao k f A B sp x)(q:Dc n X.A)(V:Ep X (e::D) t)(Z:k<=n:=by decide)(Y:Eo X x:=by rfl)(F:(x==("__debug__":AJ))=AO:=by decide)(W:Bz (e::D) X.af=(AO,Bo e X.af)::Bz D X.af:=by rfl)(J:(EV U (Bz D X.af)).any (·.1)=AO:=by rfl):Ae X (.Call (.Name x p) (e::D) [] U) (Xc sp [] Q5 t):=KJ C.F (q.uo Z) Y C.m C.k C.b .nil LL V F W J
theorem R6{X:BR}(K:Ar)(F:Ae X a W)(J:Ae X b Y)(U:MN b:=by exactλ_ _=>rfl)(D:X.K=K:=by rfl):Ae X (.Subscript a b V) (Jc (R8 K) W Y):=HS (Wc D) F J U
theorem Ef{X:BR}(K:Ar)(F:Ae X a W)(J:Ae X b Y)(U:MN b:=by exactλ_ _=>rfl)(D:X.K=K:=by rfl):Ae X (.Subscript a b V) (Jc (R9 K) W Y):=HS (Wd D) F J U
theorem Ax{X:BR}{F:Ce}(i:Nat)(J:X.N.Nodup)(U:Ae X e Z)(hi:X.N[i]?=AA x:=by rfl)(Y:Ht X.af.scope x:=by first|exact .inl rfl|exact .inr rfl)(W:JB e (AA (.Name x D)) F.line X.af=BB AO:=by rfl)(V:X.fn x=AF\/X.af.scope.names.lookup x=AA .local:=by first|exact .inl rfl|exact .inr rfl|assumption):DW X (.Assign [.Name x D] e F) (LV Z (Di i)):=lO J hi Y U W V
theorem Cr{X:BR}(i:Nat)(D:X.N.Nodup)(hi:X.N[i]?=AA x:=by rfl)(J:Ht X.af.scope x:=by first|exact .inl rfl|exact .inr rfl)(F:X.fn x=AF\/X.af.scope.names.lookup x=AA .local:=by first|exact .inl rfl|exact .inr rfl|assumption):JR X (.Name x U) (Di i):=GW D hi J F
theorem Ed{X:BR}{p pos:Ce}(K:Ar)(ho:Ae X a ta)(ha:Ep X (e::es) t)(hK:X.K=K:=by rfl)(hbase:PK a "append" X.af (Bo a X.af)=Bo a X.af:=by rfl)(hfew:((EV pos (Bz (e::es) X.af)).all (λx=>!x.1)&&(S0 pos (S5 [] X.af)).all (λx=>x.1.isSome)&&AZ ((e::es).length+([]:List Le).length+(if([]:List Le).isEmpty then 0 else 1)<30))=AF:=by rfl)(hline:(p.endLine==pos.line)=AF:=by rfl)(hs:Bz (e::es) X.af=(AO,Bo e X.af)::Bz es X.af:=by rfl)(hpl:(EV pos (Bz es X.af)).any (·.1)=AO:=by rfl):Ae X (.Call (.Attribute a "append" p) (e::es) [] pos) (SG K "list" XD ta t):=LM YI rC F.type_list_append j7 ho ha hK hbase hfew hline hs hpl
theorem Ee{X:BR}{D:Du}(osc:Du)(W:List (AJ×Nat))(A:Gw X D W)(hi:EZ X (.Name x E) F wi)(O:∀C s H q,GR (Ck X D (x::W.map (·.1)) C s H q) Z G)(K:∀C s H q,Ae (Ck X D (x::W.map (·.1)) C s H q) Y R)(I:X.bx=AF:=by rfl)(M:X.af.scope=osc:=by rfl)(L:D.kind=.function:=by rfl)(U:∀y∈D.names,y.2≠.cell:=by decide+kernel)(J:∀y∈D.names,y.2=.local->D.names.lookup y.1=AA .local:=by decide+kernel)(V:∀y∈D.names,y.2=.free->osc.names.lookup y.1=AA .cell\/osc.names.lookup y.1=AA .free:=by decide+kernel)(P:D.names.lookup x=AA .local:=by rfl)(B:(x::W.map (·.1)).Nodup:=by decide+kernel)(N:∀x,JA F X.af x=BB x:=by intro _;rfl):Ae X (.ListComp Y [⟨.Name x E,F,Z,0⟩] D Q) (Hw 1 (W.map (·.2)) wi (Di 0) G R):=kT W I hi M L U J V A P B O K N
noncomputable def G4(x:AH)(k:Int->Prop):Prop:=match x with|.int i=>k i|_=>False
noncomputable def Og(x:AH)(k:AI->Prop):Prop:=match x with|.ref i=>k i|_=>False
noncomputable def Wz(x:Option (Option AH))(k:AH->Prop):Prop:=match x with|AA (AA v)=>k v|_=>False
noncomputable def Wx(xs:List AH)(k:AH->Prop):Prop:=match xs with|[x]=>k x|_=>False
noncomputable def Rg(xs:List AH)(k:AH->AH->Prop):Prop:=match xs with|[x,y]=>k x y|_=>False
theorem HQ(h:G4 x k):∃i,x=.int i/\k i:=by cases x<;>first|exact⟨_,rfl,h⟩|exact h.elim
theorem Rh(h:Og x k):∃i,x=.ref i/\k i:=by cases x<;>first|exact⟨_,rfl,h⟩|exact h.elim
theorem kG(h:Wz x k):∃v,x=AA (AA v)/\k v:=by match x,h with|AA (AA v),h=>exact⟨v,rfl,h⟩
theorem kF(h:Wx xs k):∃x,xs=[x]/\k x:=by match xs,h with|[x],h=>exact⟨x,rfl,h⟩
theorem Wy(h:Rg xs k):∃x y,xs=[x,y]/\k x y:=by match xs,h with|[x,y],h=>exact⟨x,y,rfl,h⟩
noncomputable def oH(i:Nat):A1:=λD H Q=>Wz D[i]? λv=>Q v H
noncomputable def Ou(C:Int->Int->Prop)(g:Int->Int->AH):DH:=λx y H Q=>G4 x λi=>G4 y λj=>C i j/\Q (g i j) H
noncomputable def LS(g:Int->Int->AH):DH:=λx y H Q=>G4 x λi=>G4 y λj=>Q (g i j) H
noncomputable def mH(g:Int->AH):AH->AN->BU->Prop:=λx H Q=>G4 x λi=>Q (g i) H
noncomputable def l7(K:Ar):DH:=λx y H Q=>Og x λp=>G4 y λi=>∃D v,Bg K H p D/\C3 D i=AA v/\Q v H
noncomputable def mB(K:Ar):DH:=λx y H Q=>Og x λp=>G4 y λi=>∃D v,Bw K H p D/\C3 D i=AA v/\Q v H
theorem kQ(h:Ae X e t)(m:∀D H Q,t' D H Q->t D H Q):Ae X e t':=λF s D H Q I w=>h _ s D H Q I (m D H Q w)
theorem JY(h:CO X F r)(m:∀x y H Q,J x y H Q->r x y H Q):CO X F J:=λD s W H x y v u Q I U V w=>h _ s W H x y v u Q I U V (m x y H Q w)
theorem R7(x y:AH)(H:AN)(Q:BU)(h:Ou C g x y H Q):LR C g x y H Q:=by
 refine AB λD=>?_;obtain⟨i,rfl,F⟩:=HQ h;obtain⟨j,rfl,c,q⟩:=HQ F;refine D ?_;try clear D
 exact⟨i,j,rfl,rfl,c,q⟩
theorem Mn(x y:AH)(H:AN)(Q:BU)(h:LS g x y H Q):Jb g x y H Q:=by
 refine AB λD=>?_;obtain⟨i,rfl,F⟩:=HQ h;obtain⟨j,rfl,q⟩:=HQ F;refine D ?_;try clear D
 exact⟨i,j,rfl,rfl,q⟩
theorem AE{X:BR}{x:AJ}(i:Nat)(F:X.N[i]?=AA x:=by rfl)(U:OP X.af.scope x:=by first|exact Or.inl rfl|exact Or.inr (Or.inl rfl)|exact Or.inr (Or.inr rfl))(J:(x==("__debug__":AJ))=AO:=by decide)(D:(x==("__classdict__":AJ))=AO:=by decide):Ae X (.Name x V) (oH i):=kQ (XC F U J D) λ_ _ _ h=>kG h
theorem CC:CO X (FX .Add) (LS λi j=>.int (i+j)):=JY JX Mn
theorem E3:CO X (FX .Sub) (LS λi j=>.int (i-j)):=JY Mg Mn
theorem D1:CO X (FX .Mult) (Ou Q3 λi j=>.int (i*j)):=JY W4 R7
theorem CD:CO X (FX .FloorDiv) (Ou Vs λi j=>.int (i/j)):=JY Rk R7
theorem BY:CO X (FX .Mod) (Ou (λ_ j=>0<j) λi j=>.int (i%j)):=JY kK R7
theorem Ik:CO X (EJ .Lt) (LS λi j=>.bl (AZ (i<j))):=JY Rp Mn
theorem Ij:CO X (EJ .LtE) (LS λi j=>.bl (AZ (i<=j))):=JY Ro Mn
theorem Rm:CO X (EJ .Gt) (LS λi j=>.bl (AZ (j<i))):=JY W3 Mn
theorem oV:OO X (sZ .USub) (mH λi=>.int (-i)):=λD s J H x v Q I F h=>Oz D s J H x v Q I F (HQ h)
theorem Ci{X:BR}(K:Ar)(W:Ae X a E)(Y:Ae X b G)(Z:MN b:=by exactλ_ _=>rfl)(V:X.K=K:=by rfl):Ae X (.Subscript a b A) (Jc (l7 K) E G):=HS (λa b D s M H x y v u Q I B C h=>Wc V a b D s M H x y v u Q I B C (by
 refine AB λF=>?_;obtain⟨p,rfl,h⟩:=Rh h;obtain⟨i,rfl,L,w,J,U,q⟩:=HQ h;refine F ?_;try clear F
 exact⟨p,L,i,w,rfl,rfl,J,U,q⟩)) W Y Z
theorem Ay{X:BR}(K:Ar)(W:Ae X a E)(Y:Ae X b G)(Z:MN b:=by exactλ_ _=>rfl)(V:X.K=K:=by rfl):Ae X (.Subscript a b A) (Jc (mB K) E G):=HS (λa b F s M H x y v u Q I B C h=>Wd V a b _ s M H x y v u Q I B C (by
 refine AB λD=>?_;obtain⟨p,rfl,h⟩:=Rh h;obtain⟨i,rfl,L,w,J,U,q⟩:=HQ h;refine D ?_;try clear D
 exact⟨p,L,i,w,rfl,rfl,J,U,q⟩)) W Y Z
theorem OS{X:BR}(J:X.bx=AF):EB X (.builtin "max") (λxs H Q=>Rg xs λx y=>G4 x λi=>G4 y λj=>Q (.int (if j>i then j else i)) H):=λD s V H xs U Q I r h=>RF J D s V H xs U Q I r (by
 refine AB λF=>?_;obtain⟨x,y,rfl,h⟩:=Wy h;obtain⟨i,rfl,h⟩:=HQ h;obtain⟨j,rfl,q⟩:=HQ h;refine F ?_;try clear F
 exact⟨i,j,rfl,q⟩)
theorem K8{X:BR}(J:X.bx=AF):EB X (.builtin "min") (λxs H Q=>Rg xs λx y=>G4 x λi=>G4 y λj=>Q (.int (if j<i then j else i)) H):=λD s V H xs U Q I r h=>gW J D s V H xs U Q I r (by
 refine AB λF=>?_;obtain⟨x,y,rfl,h⟩:=Wy h;obtain⟨i,rfl,h⟩:=HQ h;obtain⟨j,rfl,q⟩:=HQ h;refine F ?_;try clear F
 exact⟨i,j,rfl,q⟩)
theorem JT{X:BR}{K:Ar}(J:X.K=K:=by rfl):EB X (.builtin "len") (λxs H Q=>Wx xs λx=>Og x λp=>∃ys,(Bg K H p ys\/Bw K H p ys)/\Q (.int ys.length) H):=λD s V H xs U Q I r h=>OQ J D s V H xs U Q I r (by
 refine AB λF=>?_;obtain⟨x,rfl,h⟩:=kF h;obtain⟨p,rfl,ys,h,q⟩:=Rh h;refine F ?_;try clear F
 exact⟨p,ys,rfl,h,q⟩)
theorem uE{A:Cj}{s:AU}{items:Array AK}{ks:List AR}(U:A.handled=AD)(F:s.heap.IsList l items\/s.heap.IsTuple l items)(D:ks.length=items.size)(hi:∀(i:Nat)k v,ks[i]?=AA k->items[i]?=AA v->FO k v=AF)(J:items.size+1<Gh)(h:∀(h':A3)(V:Nat),Ej prog w h' s.heap.objs.size (Ds [] ks)->(∀b o,b<s.heap.objs.size->s.heap.get? b=AA o->h'.get? b=AA o)->Q (.ref s.heap.objs.size) {s with heap:=h',toks:=V}):Aa (Ab prog w) A (HA (.type "set") [.ref l]) Q E s:=by
 rcases F with F|F;.exact uD U F D hi J h
 .exact uF U F D hi J h
noncomputable def oE(K:Ar)(U:A1):A1:=λV H Q=>U V H λx F=>∃(a:AI)(D:List AR),x=.ref a/\(Bg K F a (D.map Al)\/Bw K F a (D.map Al))/\((∀k∈D,∃i,k=.inl i)\/∀k∈D,∃i,k=.inr i)/\D.length+1<Gh/\∀l(J:List AR),F l=AD->J.Perm (Ds [] D)->J.Pairwise (λa b=>Dl b a=AO)->Q (.ref l) (AW F l (.lst (J.map Al)))
theorem Ry{X:BR}{K:Ar}(hc:X.bx=AF)(hg1:Eo X "sorted")(hm1:X.mg "sorted"=AD)(hg2:Eo X "set")(hm2:X.mg "set"=AD)(he0:Ae X e te)(hK:X.K=K:=by rfl)(hs2:Bz [e] X.af=(AO,Bo e X.af)::Bz [] X.af:=by rfl)(hs1:Bz [.Call (.Name "set" p2) [e] [] pos2] X.af=(AO,Bo (.Call (.Name "set" p2) [e] [] pos2) X.af)::Bz [] X.af:=by rfl):Ae X (.Call (.Name "sorted" p1) [.Call (.Name "set" p2) [e] [] pos2] [] pos1) (oE K te):=by
  subst hK;intro pins s0 σ H Q I0 h;refine Lm (Ih I0 hg1 hm1 Sl ?_ (by decide) (by decide));refine xI ?_ hs1 rfl;rw[hs1];refine Jm ?_;refine Lm (Ih I0 hg2 hm2 AAq ?_ (by decide) (by decide));refine O9 ?_ hs2 rfl;rw[hs2];refine Jm (A2 (he0 pins s0 σ H _ I0 h) λu s⟨x,H1,I,rx,a,ks,ex,hq,hty,hb,q⟩=>Ld ?_);subst ex;refine AB λnG=>?_;obtain rfl:u=C8 a:=rx;obtain⟨its0,rv0,hl⟩:∃its0,BO (ks.map Al) its0/\(s.heap.IsList a its0.toArray\/s.heap.IsTuple a its0.toArray):=by
    rcases hq with hq|hq
    . obtain⟨i,r,p,_⟩:=I.cu hq;exact⟨i,r,.inl p.isList⟩
    . obtain⟨i,r,p,_⟩:=I.bh hq;exact⟨i,r,.inr p⟩
  refine nG ?_;try clear nG
  have hlen:=rv0.ak;rw[Am]at hlen;refine uE (ks:=ks) (I.ok.hd hc) hl (by simpa using hlen) (λi k v e1 e2=>?_) (by simp;(first|lia|omega)) λh0 tk0 sk old0=>Ld ?_
  . rw[SS]at e2;refine AB λnG=>?_;obtain⟨u',e4,e5⟩:=rv0.yl (i:=i) (x:=Al k) (by rw[BV,e1];rfl);rw[e2]at e4;cases e4;refine nG ?_;try clear nG
    cases k with |inl n=>obtain⟨t,rfl⟩:=e5;exact RV _ _|inr n=>obtain⟨t,rfl⟩:=e5;exact RW _ _
  have hlt0:=sk.lt;refine qW qL qO qI (qB _) ?_;refine AX (Aw ?_);refine AX (uH (A:=X.A.in1) (I.ok.hd hc) sk λh1 tk d its k1 gr pm0 hbs=>?_);refine AB λnG=>?_;obtain⟨L,eL,pL⟩:=jK pm0;refine nG ?_;try clear nG
  have hmem:=λk hk=>by have:=(Pj k ks []).mp (pL.mem_iff.mp hk);simpa using this
  have hLl:=by have:=ABp KQ eL;simpa using this
  have kat:∀(i:Nat)v k,its[i]?=AA v->L[i]?=AA k->Gm v=AA k:=λi v k e1 e2=>by have:=ABp (λl=>l[i]?) eL;simp only[BV,e1,e2]at this;simpa using this
  have rv:BO (L.map Al) its:=by refine JZ (by rw[Am];(first|lia|omega)) λi x v e1 e2=>?_;rw[BV]at e1;obtain⟨k,e3,rfl⟩:=Co.mp e1;exact SD (kat i v k e2 e3)
  have sv:Ib h1 its (L.map λk=>[k]):=by
    rcases hty with hty|hty
    . refine .cI (by rw[Am];(first|lia|omega)) λi u ks e1 e2=>?_;rw[BV]at e2;obtain⟨p,e3,rfl⟩:=Co.mp e2;obtain⟨n,en⟩:=hty p (hmem p (B9 e3));have e5:=SD (kat i u p e1 e3);rw[en]at e5⊢;obtain⟨t,rfl⟩:=e5;exact⟨n,t,rfl,rfl⟩
    . refine .cS (by rw[Am];(first|lia|omega)) λi u ks e1 e2=>?_;rw[BV]at e2;obtain⟨p,e3,rfl⟩:=Co.mp e2;obtain⟨n,en⟩:=hty p (hmem p (B9 e3));have e5:=SD (kat i u p e1 e3);rw[en]at e5⊢;obtain⟨t,rfl⟩:=e5;exact⟨n,t,rfl,rfl⟩
  have hsl:=S1 hbs;refine AX (Yp ?_ (by(first|lia|omega)));have hoL:(h1.push (FV "list" its.toArray 0)).get? h1.objs.size=AA _:=Df _ rfl;have grow:=M5 (pV hlt0 gr);refine AX (Jt (Js qQ ⟨_,hoL,rfl⟩ qH (TM (O:=Ii) hoL (by(first|lia|omega)) (G1 h1) (λh' k' h2=>?_) λout p u=>⟨_,rfl,Aw ⟨_,rfl,?_⟩⟩) (xC _)))
  . refine sv.agc h2 λa o items m _ e _ _=>?_;exact k' a o (Cv (Br e)) (Bi _ e)
  . refine AB λnG=>?_;obtain⟨qs,q1,q2,q3⟩:=W6 (X:=X) rv sv p u;obtain⟨e',ho⟩:=xT (vs:=its) hoL;refine nG ?_;try clear nG
    have one:∀x∈qs,∃k,x.1=Al k/\x.2=[k]:=λx hx=>by have hm:=q1.mem_iff.mp hx;obtain⟨i,hi⟩:=HW.mp hm;obtain⟨e3,e4⟩:=Mw.mp hi;rw[BV]at e3 e4;obtain⟨p3,e5,e6⟩:=Co.mp e3;rw[e5]at e4;exact⟨p3,e6.symm,(De e4).symm⟩
    have ep:qs.map (·.1)=(qs.map λx=>x.2.headD (.inl 0)).map Al:=by rw[Cb];refine KR λx hx=>?_;obtain⟨k,e1,e2⟩:=one x hx;show x.1=Al (x.2.headD (.inl 0));rw[e1,e2];rfl
    have pm:(qs.map λx=>x.2.headD (.inl 0)).Perm L:=by refine(q1.map _).trans (vQ ?_);rw[show(λx:AH×List AR=>x.2.headD (.inl 0))=(λl:List AR=>l.headD (.inl 0))∘X8 from rfl,<-Cb,SY (by simp),Cb];exact SW _
    have pw:(qs.map λx=>x.2.headD (.inl 0)).Pairwise (λa b=>Dl b a=AO):=by
      rw[F9];rw[F9]at q3;refine q3.imp_of_mem λ{a b}ha hb hab=>?_;obtain⟨x,_,ex⟩:=one a ha;obtain⟨y,_,ey⟩:=one b hb;rw[ex,ey]at hab⊢;have hab:(if y=x then AO else Dl y x)=AO:=hab;by_cases z:y=x;.rw[z];exact RQ x
      .rw[ABn z]at hab;exact hab
    have lz:(qs.map (·.1)).length<=An:=by rw[Am,q1.length_eq,pK,Am];(first|lia|omega)
    have old:∀b o,s.heap.get? b=AA o->(YF (h1.push (FV "list" its.toArray 0)) h1.objs.size its (out.map (·.2))).get? b=AA o:=λb o e=>by have e1:=k1 b o (old0 b o (Br e) e);have hlt:=Br e1;rw[xU (Cv hlt) (by rw[size_push'];exact Jh hlt)];exact Bi _ e1
    refine⟨.ref h1.objs.size,_,(I.afj d).ie (o:=.lst (qs.map (·.1))) (t':=tk) old grow ⟨lz,_,e',q2,by exact ho⟩,rfl,?_⟩;rw[ep];exact q _ _ (I.bb.az grow) (pm.trans pL) pw
noncomputable def Xp(K:Ar)(J:AI)(V:AI->Cd)(D:GP)(W:Aj):E2:=λC U F=>Sw K C (.ref J)=AA AF/\∀e,F e=AD->V e {nx:=D.nx,rt:=D.rt} W (AW F e (Vt e C U))
theorem jN{X:BR}{cn:AJ}(hnc:X.af.cells=[])(hex:X.ex=[])(hst:X.ba=X.af::X.iu)(hfl:X.af.frame=AA X.af.locals)(hgc:Eo X cn)(hmc:X.mg cn=AA (.ref CF))(hs:∀e,Ea (X.lr e) (b₀::suite) (th e))(hdc:(cn==("__debug__":AJ))=AO)(I1:AY X pins σ H1 s1)(hq:Fg X.ag X.w X.ba H1 s1 (Xp X.K CF th D σ) ev s'):Aa (Ab X.ag X.w) X.A (Yg ev X.af) (λ_ s₂=>Aa (Ab X.ag X.w) X.A (Yi ev AD) (λ_ s₃=>Aa (Ab X.ag X.w) X.A (handleBy ev X.af [.ExceptHandler (AA (.Name cn np)) AD (b₀::suite) hpos]) (MP X pins D) X.xe s₃) X.xe s₂) X.xe s':=by
 refine AB λnG=>?_;obtain⟨e,C,a0,H',B,dd,rfl,os,bare,hokB,fly,un,cov,hdd,hmat,hh⟩:=hq;refine nG ?_;try clear nG
 have I2:=I1.aay (s':=s') (ch:=[]) os un (hokB.de fly.1) bare λb hb=>absurd hb (by simp);have hfr:X.A.frames=AA (X.af::X.iu):=by rw[<-hst];exact I1.ok.dj
 have fly':IA B (X.af::X.iu) e C a0 s'.heap:=by rw[<-hst];exact fly
 refine jT hfr hfl fly' hdd λh3 held up3 hd3=>?_;refine jL held hd3 λh4 fly4 up4 hd4=>?_;have I4:AY X pins σ H' {s' with heap:=h4}:=Vu I1 I2 hnc hex hst hfl cov hokB fly4.1 (up3.trans up4) fly.2.2.1;refine AB λnG=>?_;obtain⟨oe,hoe,hoec⟩:=fly.there;refine nG ?_;try clear nG
 have eB:B.get? e=AD:=fly.2.1;have efl:∃vs,oe.data=.fields vs:=by obtain⟨_,_,_,oe',vs,T,oT,ts,a1,a2,a3,_⟩:=fly;rw[hoe]at a1;cases a1;exact⟨_,a3⟩
 have nfr:e∉C0 X.ba:=λz=>by obtain⟨_,o1,e1,q1⟩:=fly.2.2.1.mem (b:=e) z;rw[hoe]at e1;cases e1;obtain⟨vs,q2⟩:=efl;exact q1 vs q2
 have inS:X.af.locals∈C0 X.ba:=by rw[hst];unfold C0;rw[SR,hfl];exact D6
 have ns1:∀o,s1.heap.get? e≠AA o:=λo z=>by obtain⟨o',q1,_⟩:=cov e o z nfr;rw[eB]at q1;cases q1
 have hn0:H' e=AD:=by cases z:H' e with|none=>rfl|some u=> obtain⟨o',q1⟩:=(hokB e u z).aho;rw[eB]at q1;cases q1
 refine wpAny_handleBy_cons (codeAny_handlers_test (Mc (X:=X.lr e) (I4.lr e) hgc hmc ?_ hdc)) (by intro q;cases q);refine AB λnG=>?_;obtain⟨o4,ho4,hc4⟩:=fly4.there;refine nG ?_;try clear nG
 have LT:W.Looks (Ab X.ag X.w) h4 (typeOf (.ref e)) C:=by rw[<-hc4];exact(ABj ho4).andThen .now
 refine W.exm_one (M:=Ab X.ag X.w) I4.qu LT hmat _ _ _ _ (λb o z=>z) ?_;show IE _ _ _ _ _;refine codeAny_handlers_suite (jM fly4 hd4 λh5 fly5 up5 hd5=>?_);have I5:AY X pins σ H' {s' with heap:=h5}:=Vu I1 I2 hnc hex hst hfl cov hokB fly5.1 ((up3.trans up4).trans up5) fly.2.2.1;have there5:∃o,h5.get? e=AA o/\o.cls=C/\o.dict=dd/\∃vs,o.data=.fields vs:=by obtain⟨oe5,vs5,g1,g2,g3,_⟩:=fly5.first;exact⟨oe5,g1,g2,hd5.yl g1,vs5,g3⟩
 have I6:=I5.acg (e:=e) (C:=C) (dd:=dd) there5 hn0 (λo z=>?_) (λz=>nfr (z▸inS)) (λx c z=>by rw[hnc]at z;cases z) (λp hp z=>?_)
 . refine EK (hs e pins _ _ _ _ (I6.lr e) (hh e hn0)) (λfl s8 q8=>?_) λ_ _ z=>Ek z;cases fl with
  |next=>
   refine AB λnG=>?_;obtain⟨σ8,H8,I8,q8⟩:=q8;refine nG ?_;try clear nG
   exact⟨_,_,I8.aae λz=>I1.ok.hd z,q8⟩|ret u=>
   refine AB λnG=>?_;obtain⟨v,σ8,H8,I8,rv,q8⟩:=q8;refine nG ?_;try clear nG
   exact⟨v,_,_,I8.aae λz=>I1.ok.hd z,rv,q8⟩|brk=>obtain⟨_,_,_,z⟩:=q8;exact Ek z|cont=>obtain⟨_,_,_,z⟩:=q8;exact Ek z
 . obtain⟨o',q1⟩:=I1.ao.dr e o z (by rw[hex];simp);exact ns1 o' q1
 . have b1:=(I1.wt p hp).1;rw[z]at b1;exact ns1 _ b1
theorem lQ{X:BR}{q:AJ}{W:Ce}(K:X.af.cells=[])(B:X.ex=[])(L:X.ba=X.af::X.iu)(C:X.af.frame=AA X.af.locals)(S:Vy X N c)(E:Eo X q)(G:X.mg q=AA (.ref P))(R:∀e,Ea (X.lr e) (U::F) (b e))(A:(q==("__debug__":AJ))=AO:=by decide)(M:JB N AD W.line X.af=BB AO:=by rfl):DW X (.Try [.Expr N W] [.ExceptHandler (AA (.Name q f)) AD (U::F) O] [] [] T) (λD J H=>c J H (λ_ Y=>D.nx J Y) (Xp X.K P b D J)):=by intro V s J H D I h;refine wpAny_Try_except (tE (AAW ?_ I.aed M));refine EK (S V s J H _ _ I h) (λv s1⟨y,Y,Z,r1,a⟩=>?_) λd g⟨Y,s1,Z,Q⟩=>jN K B L C E G R A Z Q;exact PX (PX ⟨J,Y,Z,a⟩)
theorem WQ:∀a b:List AR,NB (a.map HP) (b.map HP)=AZ (a=b)|[],[]=>by simp[NB]|[],_::_=>by simp[NB]|_::_,[]=>by simp[NB]|x::r,y::t=>by have D:=WQ r t;cases x<;>cases y<;>simp[NB,NA,HP,D];all_goals rw[Lu];simp
noncomputable def Oa(H:AN)(ks:List AR):AK->Bool
 |.ref a=>match H a with |AA (.tup D)=>AZ (D=ks.map Al)|_=>AO
 |_=>AO
noncomputable def mF(K:Ar):DH:=λx y H Q=>∃(a p:AI)(F:List AR)(J:List AH)(D:List (List AR)),x=.ref a/\y=.ref p/\Bw K H a (F.map Al)/\Bg K H p J/\Bv H J D/\F4 F=AF/\(∀q∈D,F4 q=AF)/\∀b:Bool,(b=AF↔F∉D)->Q (.bl b) H
theorem W5{X:BR}{K:Ar}(g:X.A.in1.units+64<E8)(d:X.K=K:=by rfl):CO X (EJ .NotIn) (mF K):=by
  subst d;intro O s σ H x y v u Q I o r h;refine AB λU=>?_;obtain⟨a,p,J,P,A,rfl,rfl,j,f,C,l,B,q⟩:=h;cases r;obtain⟨R,r1⟩:=Fi.aee I (.tup j (MV J)) o;obtain⟨D,M,n,hz⟩:=I.cu f;refine U ?_;try clear U
  have hl:=M.ak;have hk:=C.bj;have Y:∀i(F:i<D.length),∃b,D[i]=.ref b/\∃k,A[i]?=AA k/\H b=AA (.tup (k.map Al))/\P[i]?=AA (.ref b):=λi F=>by have E:=B8 (show i<P.length by(first|lia|omega));obtain⟨b,k,G,V,Z⟩:=C.at E;have q:=Mh M E (B8 F);rw[G]at q E;exact⟨b,q,k,V,Z,E⟩
  have W:∀i(F:i<D.length)k,A[i]?=AA k->Oa H J D[i]=AZ (k=J):=λi F k e=>by
    obtain⟨b,G,k',V,Z,_⟩:=Y i F;rw[e]at V;cases V;rw[G];show(match H b with|AA (.tup t)=>AZ (t=J.map Al)|_=>AO)=_;rw[Z];by_cases c:k=J;.rw[c];simp
    . rw[ABr c];exact ABr λz=>c (We z)
  refine zD (Oa H J) n.isList (λw hw=>?_) ⟨.bl _,H,I,rfl,?_⟩
  . have hw:w∈D:=by simpa using hw
    refine AB λU=>?_;obtain⟨i,F,rfl⟩:=F8.mp hw;obtain⟨b,G,k,V,Z,S⟩:=Y i F;have N:=B9 V;have q:=Mh M S (B8 F);obtain⟨L,r2⟩:=Fi.aee I (.tup (Ao Z) (MV k)) q;refine U ?_;try clear U
    have z:=zC (ES k) (ES J) X.A.in1 s D[i] v L R r2 r1 (rJ (SF (B k N))) (rJ (SF l)) (SeqAt.room_of_shaped (SF (B k N)) g);rw[W i F k V];have e:NA (ES k) (ES J)=AZ (k=J):=by unfold ES;simp only[NA];exact WQ k J
    rw[e]at z;exact z
  . refine q _ ?_;rw[show D.toArray.any (Oa H J)=D.any (Oa H J)by simp,Bool.not_eq_true',<-vD];refine not_congr ?_;rw[LX];constructor
    . intro T;refine AB λU=>?_;obtain⟨w,hw,h⟩:=T;obtain⟨i,F,rfl⟩:=F8.mp hw;obtain⟨_,_,k,V,_⟩:=Y i F;refine U ?_;try clear U
      rw[W i F k V]at h;rw[<-ABs h];exact B9 V
    . intro m;refine AB λU=>?_;obtain⟨i,F,e⟩:=F8.mp m;refine U ?_;try clear U
      refine⟨D[i]'(by(first|lia|omega)),Mx _,?_⟩;rw[W i (by(first|lia|omega)) _ (B8 F),e];exact ABq rfl
inductive J1{α0 α1:Type}(p0 p1 p2:α0->α1->Prop):Prop|mk(a0:α0)(a1:α1)(_:p0 a0 a1)(_:p1 a0 a1)(_:p2 a0 a1):J1 p0 p1 p2
inductive L3{α0 α1:Type}(p0 p1 p2 p3:α0->α1->Prop):Prop|mk(a0:α0)(a1:α1)(_:p0 a0 a1)(_:p1 a0 a1)(_:p2 a0 a1)(_:p3 a0 a1):L3 p0 p1 p2 p3
inductive Py{α0 α1:Type}(p0 p1 p2 p3 p4:α0->α1->Prop):Prop|mk(a0:α0)(a1:α1)(_:p0 a0 a1)(_:p1 a0 a1)(_:p2 a0 a1)(_:p3 a0 a1)(_:p4 a0 a1):Py p0 p1 p2 p3 p4
inductive Pz{α0 α1:Type}(p0 p1 p2 p3 p4 p5:α0->α1->Prop):Prop|mk(a0:α0)(a1:α1)(_:p0 a0 a1)(_:p1 a0 a1)(_:p2 a0 a1)(_:p3 a0 a1)(_:p4 a0 a1)(_:p5 a0 a1):Pz p0 p1 p2 p3 p4 p5
inductive Tt{α0 α1 α2:Type}(p0 p1:α0->α1->α2->Prop):Prop|mk(a0:α0)(a1:α1)(a2:α2)(_:p0 a0 a1 a2)(_:p1 a0 a1 a2):Tt p0 p1
inductive Tu{α0 α1 α2:Type}(p0 p1 p2 p3:α0->α1->α2->Prop):Prop|mk(a0:α0)(a1:α1)(a2:α2)(_:p0 a0 a1 a2)(_:p1 a0 a1 a2)(_:p2 a0 a1 a2)(_:p3 a0 a1 a2):Tu p0 p1 p2 p3
inductive Hk{α0 α1 α2:Type}(p0 p1 p2 p3 p4:α0->α1->α2->Prop):Prop|mk(a0:α0)(a1:α1)(a2:α2)(_:p0 a0 a1 a2)(_:p1 a0 a1 a2)(_:p2 a0 a1 a2)(_:p3 a0 a1 a2)(_:p4 a0 a1 a2):Hk p0 p1 p2 p3 p4
inductive Nb{α0 α1 α2:Type}(p0 p1 p2 p3 p4 p5:α0->α1->α2->Prop):Prop|mk(a0:α0)(a1:α1)(a2:α2)(_:p0 a0 a1 a2)(_:p1 a0 a1 a2)(_:p2 a0 a1 a2)(_:p3 a0 a1 a2)(_:p4 a0 a1 a2)(_:p5 a0 a1 a2):Nb p0 p1 p2 p3 p4 p5
inductive Tv{α0 α1 α2:Type}(p0 p1 p2 p3 p4 p5 p6:α0->α1->α2->Prop):Prop|mk(a0:α0)(a1:α1)(a2:α2)(_:p0 a0 a1 a2)(_:p1 a0 a1 a2)(_:p2 a0 a1 a2)(_:p3 a0 a1 a2)(_:p4 a0 a1 a2)(_:p5 a0 a1 a2)(_:p6 a0 a1 a2):Tv p0 p1 p2 p3 p4 p5 p6
inductive L4{α0 α1 α2 α3:Type}(p0 p1 p2 p3 p4:α0->α1->α2->α3->Prop):Prop|mk(a0:α0)(a1:α1)(a2:α2)(a3:α3)(_:p0 a0 a1 a2 a3)(_:p1 a0 a1 a2 a3)(_:p2 a0 a1 a2 a3)(_:p3 a0 a1 a2 a3)(_:p4 a0 a1 a2 a3):L4 p0 p1 p2 p3 p4
inductive L5{α0 α1 α2 α3:Type}(p0 p1 p2 p3 p4 p5:α0->α1->α2->α3->Prop):Prop|mk(a0:α0)(a1:α1)(a2:α2)(a3:α3)(_:p0 a0 a1 a2 a3)(_:p1 a0 a1 a2 a3)(_:p2 a0 a1 a2 a3)(_:p3 a0 a1 a2 a3)(_:p4 a0 a1 a2 a3)(_:p5 a0 a1 a2 a3):L5 p0 p1 p2 p3 p4 p5
inductive Tw{α0 α1 α2 α3:Type}(p0 p1 p2 p3 p4 p5 p6 p7:α0->α1->α2->α3->Prop):Prop|mk(a0:α0)(a1:α1)(a2:α2)(a3:α3)(_:p0 a0 a1 a2 a3)(_:p1 a0 a1 a2 a3)(_:p2 a0 a1 a2 a3)(_:p3 a0 a1 a2 a3)(_:p4 a0 a1 a2 a3)(_:p5 a0 a1 a2 a3)(_:p6 a0 a1 a2 a3)(_:p7 a0 a1 a2 a3):Tw p0 p1 p2 p3 p4 p5 p6 p7
inductive Tz{α0 α1 α2 α3:Type}(p0 p1 p2 p3 p4 p5 p6 p7 p8:α0->α1->α2->α3->Prop):Prop|mk(a0:α0)(a1:α1)(a2:α2)(a3:α3)(_:p0 a0 a1 a2 a3)(_:p1 a0 a1 a2 a3)(_:p2 a0 a1 a2 a3)(_:p3 a0 a1 a2 a3)(_:p4 a0 a1 a2 a3)(_:p5 a0 a1 a2 a3)(_:p6 a0 a1 a2 a3)(_:p7 a0 a1 a2 a3)(_:p8 a0 a1 a2 a3):Tz p0 p1 p2 p3 p4 p5 p6 p7 p8
inductive P0{α0 α1 α2 α3 α4:Type}(p0 p1 p2 p3:α0->α1->α2->α3->α4->Prop):Prop|mk(a0:α0)(a1:α1)(a2:α2)(a3:α3)(a4:α4)(_:p0 a0 a1 a2 a3 a4)(_:p1 a0 a1 a2 a3 a4)(_:p2 a0 a1 a2 a3 a4)(_:p3 a0 a1 a2 a3 a4):P0 p0 p1 p2 p3
inductive T2{α0 α1 α2 α3 α4:Type}(p0 p1 p2 p3 p4:α0->α1->α2->α3->α4->Prop):Prop|mk(a0:α0)(a1:α1)(a2:α2)(a3:α3)(a4:α4)(_:p0 a0 a1 a2 a3 a4)(_:p1 a0 a1 a2 a3 a4)(_:p2 a0 a1 a2 a3 a4)(_:p3 a0 a1 a2 a3 a4)(_:p4 a0 a1 a2 a3 a4):T2 p0 p1 p2 p3 p4
inductive J2{α0 α1 α2 α3 α4:Type}(p0 p1 p2 p3 p4 p5:α0->α1->α2->α3->α4->Prop):Prop|mk(a0:α0)(a1:α1)(a2:α2)(a3:α3)(a4:α4)(_:p0 a0 a1 a2 a3 a4)(_:p1 a0 a1 a2 a3 a4)(_:p2 a0 a1 a2 a3 a4)(_:p3 a0 a1 a2 a3 a4)(_:p4 a0 a1 a2 a3 a4)(_:p5 a0 a1 a2 a3 a4):J2 p0 p1 p2 p3 p4 p5
inductive Kn{α0 α1 α2 α3 α4:Type}(p0 p1 p2 p3 p4 p5 p6:α0->α1->α2->α3->α4->Prop):Prop|mk(a0:α0)(a1:α1)(a2:α2)(a3:α3)(a4:α4)(_:p0 a0 a1 a2 a3 a4)(_:p1 a0 a1 a2 a3 a4)(_:p2 a0 a1 a2 a3 a4)(_:p3 a0 a1 a2 a3 a4)(_:p4 a0 a1 a2 a3 a4)(_:p5 a0 a1 a2 a3 a4)(_:p6 a0 a1 a2 a3 a4):Kn p0 p1 p2 p3 p4 p5 p6
inductive T3{α0 α1 α2 α3 α4:Type}(p0 p1 p2 p3 p4 p5 p6 p7 p8:α0->α1->α2->α3->α4->Prop):Prop|mk(a0:α0)(a1:α1)(a2:α2)(a3:α3)(a4:α4)(_:p0 a0 a1 a2 a3 a4)(_:p1 a0 a1 a2 a3 a4)(_:p2 a0 a1 a2 a3 a4)(_:p3 a0 a1 a2 a3 a4)(_:p4 a0 a1 a2 a3 a4)(_:p5 a0 a1 a2 a3 a4)(_:p6 a0 a1 a2 a3 a4)(_:p7 a0 a1 a2 a3 a4)(_:p8 a0 a1 a2 a3 a4):T3 p0 p1 p2 p3 p4 p5 p6 p7 p8
inductive T1{α0 α1 α2 α3 α4:Type}(p0 p1 p2 p3 p4 p5 p6 p7 p8 p9:α0->α1->α2->α3->α4->Prop):Prop|mk(a0:α0)(a1:α1)(a2:α2)(a3:α3)(a4:α4)(_:p0 a0 a1 a2 a3 a4)(_:p1 a0 a1 a2 a3 a4)(_:p2 a0 a1 a2 a3 a4)(_:p3 a0 a1 a2 a3 a4)(_:p4 a0 a1 a2 a3 a4)(_:p5 a0 a1 a2 a3 a4)(_:p6 a0 a1 a2 a3 a4)(_:p7 a0 a1 a2 a3 a4)(_:p8 a0 a1 a2 a3 a4)(_:p9 a0 a1 a2 a3 a4):T1 p0 p1 p2 p3 p4 p5 p6 p7 p8 p9
inductive T5{α0 α1 α2 α3 α4 α5:Type}(p0 p1 p2:α0->α1->α2->α3->α4->α5->Prop):Prop|mk(a0:α0)(a1:α1)(a2:α2)(a3:α3)(a4:α4)(a5:α5)(_:p0 a0 a1 a2 a3 a4 a5)(_:p1 a0 a1 a2 a3 a4 a5)(_:p2 a0 a1 a2 a3 a4 a5):T5 p0 p1 p2
inductive T6{α0 α1 α2 α3 α4 α5:Type}(p0 p1 p2 p3:α0->α1->α2->α3->α4->α5->Prop):Prop|mk(a0:α0)(a1:α1)(a2:α2)(a3:α3)(a4:α4)(a5:α5)(_:p0 a0 a1 a2 a3 a4 a5)(_:p1 a0 a1 a2 a3 a4 a5)(_:p2 a0 a1 a2 a3 a4 a5)(_:p3 a0 a1 a2 a3 a4 a5):T6 p0 p1 p2 p3
inductive T7{α0 α1 α2 α3 α4 α5:Type}(p0 p1 p2 p3 p4:α0->α1->α2->α3->α4->α5->Prop):Prop|mk(a0:α0)(a1:α1)(a2:α2)(a3:α3)(a4:α4)(a5:α5)(_:p0 a0 a1 a2 a3 a4 a5)(_:p1 a0 a1 a2 a3 a4 a5)(_:p2 a0 a1 a2 a3 a4 a5)(_:p3 a0 a1 a2 a3 a4 a5)(_:p4 a0 a1 a2 a3 a4 a5):T7 p0 p1 p2 p3 p4
inductive Nc{α0 α1 α2 α3 α4 α5:Type}(p0 p1 p2 p3 p4 p5:α0->α1->α2->α3->α4->α5->Prop):Prop|mk(a0:α0)(a1:α1)(a2:α2)(a3:α3)(a4:α4)(a5:α5)(_:p0 a0 a1 a2 a3 a4 a5)(_:p1 a0 a1 a2 a3 a4 a5)(_:p2 a0 a1 a2 a3 a4 a5)(_:p3 a0 a1 a2 a3 a4 a5)(_:p4 a0 a1 a2 a3 a4 a5)(_:p5 a0 a1 a2 a3 a4 a5):Nc p0 p1 p2 p3 p4 p5
inductive T8{α0 α1 α2 α3 α4 α5:Type}(p0 p1 p2 p3 p4 p5 p6 p7 p8:α0->α1->α2->α3->α4->α5->Prop):Prop|mk(a0:α0)(a1:α1)(a2:α2)(a3:α3)(a4:α4)(a5:α5)(_:p0 a0 a1 a2 a3 a4 a5)(_:p1 a0 a1 a2 a3 a4 a5)(_:p2 a0 a1 a2 a3 a4 a5)(_:p3 a0 a1 a2 a3 a4 a5)(_:p4 a0 a1 a2 a3 a4 a5)(_:p5 a0 a1 a2 a3 a4 a5)(_:p6 a0 a1 a2 a3 a4 a5)(_:p7 a0 a1 a2 a3 a4 a5)(_:p8 a0 a1 a2 a3 a4 a5):T8 p0 p1 p2 p3 p4 p5 p6 p7 p8
inductive T4{α0 α1 α2 α3 α4 α5:Type}(p0 p1 p2 p3 p4 p5 p6 p7 p8 p9:α0->α1->α2->α3->α4->α5->Prop):Prop|mk(a0:α0)(a1:α1)(a2:α2)(a3:α3)(a4:α4)(a5:α5)(_:p0 a0 a1 a2 a3 a4 a5)(_:p1 a0 a1 a2 a3 a4 a5)(_:p2 a0 a1 a2 a3 a4 a5)(_:p3 a0 a1 a2 a3 a4 a5)(_:p4 a0 a1 a2 a3 a4 a5)(_:p5 a0 a1 a2 a3 a4 a5)(_:p6 a0 a1 a2 a3 a4 a5)(_:p7 a0 a1 a2 a3 a4 a5)(_:p8 a0 a1 a2 a3 a4 a5)(_:p9 a0 a1 a2 a3 a4 a5):T4 p0 p1 p2 p3 p4 p5 p6 p7 p8 p9
inductive UA{α0 α1 α2 α3 α4 α5 α6:Type}(p0 p1 p2 p3 p4:α0->α1->α2->α3->α4->α5->α6->Prop):Prop|mk(a0:α0)(a1:α1)(a2:α2)(a3:α3)(a4:α4)(a5:α5)(a6:α6)(_:p0 a0 a1 a2 a3 a4 a5 a6)(_:p1 a0 a1 a2 a3 a4 a5 a6)(_:p2 a0 a1 a2 a3 a4 a5 a6)(_:p3 a0 a1 a2 a3 a4 a5 a6)(_:p4 a0 a1 a2 a3 a4 a5 a6):UA p0 p1 p2 p3 p4
inductive T9{α0 α1 α2 α3 α4 α5 α6:Type}(p0 p1 p2 p3 p4 p5 p6 p7 p8 p9:α0->α1->α2->α3->α4->α5->α6->Prop):Prop|mk(a0:α0)(a1:α1)(a2:α2)(a3:α3)(a4:α4)(a5:α5)(a6:α6)(_:p0 a0 a1 a2 a3 a4 a5 a6)(_:p1 a0 a1 a2 a3 a4 a5 a6)(_:p2 a0 a1 a2 a3 a4 a5 a6)(_:p3 a0 a1 a2 a3 a4 a5 a6)(_:p4 a0 a1 a2 a3 a4 a5 a6)(_:p5 a0 a1 a2 a3 a4 a5 a6)(_:p6 a0 a1 a2 a3 a4 a5 a6)(_:p7 a0 a1 a2 a3 a4 a5 a6)(_:p8 a0 a1 a2 a3 a4 a5 a6)(_:p9 a0 a1 a2 a3 a4 a5 a6):T9 p0 p1 p2 p3 p4 p5 p6 p7 p8 p9
inductive UB{α0 α1 α2 α3 α4 α5 α6 α7:Type}(p0 p1 p2 p3 p4 p5 p6 p7 p8 p9 p10 p11:α0->α1->α2->α3->α4->α5->α6->α7->Prop):Prop|mk(a0:α0)(a1:α1)(a2:α2)(a3:α3)(a4:α4)(a5:α5)(a6:α6)(a7:α7)(_:p0 a0 a1 a2 a3 a4 a5 a6 a7)(_:p1 a0 a1 a2 a3 a4 a5 a6 a7)(_:p2 a0 a1 a2 a3 a4 a5 a6 a7)(_:p3 a0 a1 a2 a3 a4 a5 a6 a7)(_:p4 a0 a1 a2 a3 a4 a5 a6 a7)(_:p5 a0 a1 a2 a3 a4 a5 a6 a7)(_:p6 a0 a1 a2 a3 a4 a5 a6 a7)(_:p7 a0 a1 a2 a3 a4 a5 a6 a7)(_:p8 a0 a1 a2 a3 a4 a5 a6 a7)(_:p9 a0 a1 a2 a3 a4 a5 a6 a7)(_:p10 a0 a1 a2 a3 a4 a5 a6 a7)(_:p11 a0 a1 a2 a3 a4 a5 a6 a7):UB p0 p1 p2 p3 p4 p5 p6 p7 p8 p9 p10 p11
inductive UC{α0 α1 α2 α3 α4 α5 α6 α7 α8:Type}(p0 p1 p2 p3 p4:α0->α1->α2->α3->α4->α5->α6->α7->α8->Prop):Prop|mk(a0:α0)(a1:α1)(a2:α2)(a3:α3)(a4:α4)(a5:α5)(a6:α6)(a7:α7)(a8:α8)(_:p0 a0 a1 a2 a3 a4 a5 a6 a7 a8)(_:p1 a0 a1 a2 a3 a4 a5 a6 a7 a8)(_:p2 a0 a1 a2 a3 a4 a5 a6 a7 a8)(_:p3 a0 a1 a2 a3 a4 a5 a6 a7 a8)(_:p4 a0 a1 a2 a3 a4 a5 a6 a7 a8):UC p0 p1 p2 p3 p4
inductive Px{α0 α1 α2 α3 α4 α5 α6 α7 α8 α9:Type}(p0 p1 p2 p3 p4:α0->α1->α2->α3->α4->α5->α6->α7->α8->α9->Prop):Prop|mk(a0:α0)(a1:α1)(a2:α2)(a3:α3)(a4:α4)(a5:α5)(a6:α6)(a7:α7)(a8:α8)(a9:α9)(_:p0 a0 a1 a2 a3 a4 a5 a6 a7 a8 a9)(_:p1 a0 a1 a2 a3 a4 a5 a6 a7 a8 a9)(_:p2 a0 a1 a2 a3 a4 a5 a6 a7 a8 a9)(_:p3 a0 a1 a2 a3 a4 a5 a6 a7 a8 a9)(_:p4 a0 a1 a2 a3 a4 a5 a6 a7 a8 a9):Px p0 p1 p2 p3 p4
inductive Ts{α0 α1 α2 α3 α4 α5 α6 α7 α8 α9:Type}(p0 p1 p2 p3 p4 p5:α0->α1->α2->α3->α4->α5->α6->α7->α8->α9->Prop):Prop|mk(a0:α0)(a1:α1)(a2:α2)(a3:α3)(a4:α4)(a5:α5)(a6:α6)(a7:α7)(a8:α8)(a9:α9)(_:p0 a0 a1 a2 a3 a4 a5 a6 a7 a8 a9)(_:p1 a0 a1 a2 a3 a4 a5 a6 a7 a8 a9)(_:p2 a0 a1 a2 a3 a4 a5 a6 a7 a8 a9)(_:p3 a0 a1 a2 a3 a4 a5 a6 a7 a8 a9)(_:p4 a0 a1 a2 a3 a4 a5 a6 a7 a8 a9)(_:p5 a0 a1 a2 a3 a4 a5 a6 a7 a8 a9):Ts p0 p1 p2 p3 p4 p5
section
seal Ae FK KD Ep DW Ea JR OF EZ GR OG CO OO EB K4 K6
noncomputable def CB(i:Nat):BM:=AA0.main.body.getD i (.Pass ⟨0,0,0,0⟩)
noncomputable abbrev QW:BM:=CB 4
noncomputable abbrev QU:BM:=CB 5
noncomputable abbrev QO:BM:=WX (CB 8) 0
noncomputable abbrev QP:BM:=WX (CB 8) 1
noncomputable abbrev QZ:BM:=CB 13
noncomputable abbrev QY:BM:=CB 14
noncomputable abbrev QT:BM:=CB 15
noncomputable abbrev QV:BM:=CB 16
noncomputable abbrev Nw:BM:=CB 18
noncomputable abbrev QQ:BM:=CB 20
noncomputable abbrev Qc:BM:=CB 22
noncomputable abbrev Qe:BM:=CB 23
noncomputable abbrev ME:BM:=CB 24
noncomputable abbrev Qb:BM:=CB 26
noncomputable abbrev Qr:BM:=CB 28
noncomputable abbrev Nv:BM:=CB 30
noncomputable abbrev QS:BM:=CB 31
noncomputable abbrev QR:BM:=CB 32
noncomputable abbrev QX:BM:=CB 33
noncomputable abbrev Nt:BM:=CB 34
noncomputable abbrev Nu:BM:=CB 35
noncomputable abbrev Nq:BM:=CB 36
noncomputable abbrev Nr:BM:=CB 37
noncomputable abbrev Qs:BM:=CB 38
noncomputable abbrev Nz:BM:=CB 39
noncomputable abbrev Nx:BM:=CB 40
noncomputable abbrev Qd:BM:=CB 41
noncomputable abbrev Ny:BM:=CB 42
noncomputable abbrev Qa:BM:=CB 43
noncomputable abbrev Qf:BM:=CB 45
noncomputable abbrev N0:BM:=CB 46
noncomputable abbrev Qm:BM:=CB 47
noncomputable abbrev Qo:BM:=CB 48
noncomputable abbrev Qg:BM:=CB 49
noncomputable abbrev Qj:BM:=CB 50
noncomputable abbrev Qp:BM:=CB 51
noncomputable abbrev Qi:BM:=CB 52
noncomputable abbrev N1:BM:=CB 53
noncomputable abbrev Qh:BM:=CB 54
noncomputable abbrev J6:BM:=CB 55
noncomputable abbrev Ks:BM:=CB 56
noncomputable abbrev J7:BM:=CB 57
noncomputable abbrev Qq:BM:=CB 58
noncomputable abbrev N2:BM:=CB 59
noncomputable abbrev Qk:BM:=CB 60
noncomputable abbrev Qn:BM:=CB 61
noncomputable abbrev Ql:BM:=CB 62
noncomputable abbrev MD:BM:=CB 63
theorem Uy:Bp ["thing"] ["thing"] (A7 QW):=CH
theorem Uw:Bp ["thing","least","most"] ["thing","least","most"] (A7 QU):=CH
theorem Um:Bp ["self","slack"] ["self","slack"] (A7 QO):=CH
theorem Uo:Bp ["self","time"] ["self","time"] (A7 QP):=CH
theorem U3:Bp ["step"] ["step"] (A7 QZ):=CH
theorem U2:Bp ["step"] ["step"] (A7 QY):=CH
theorem Uu:Bp ["step"] ["step"] (A7 QT):=CH
theorem Ux:Bp ["step"] ["step"] (A7 QV):=CH
theorem VA:Bp ["plan"] ["plan"] (A7 Nw):=CH
theorem Uq:Bp ["rows","mark","low","high","middle"] ["rows","mark"] (A7 QQ):=CH
theorem U8:Bp ["step","event"] ["step","event"] (A7 Qc):=CH
theorem VF:Bp ["step","item"] ["step","item"] (A7 Qe):=CH
theorem U5:Bp ["step","streams"] ["step","streams"] (A7 ME):=CH
theorem U6:Bp ["time","size","step","first"] ["time","size","step"] (A7 Qb):=CH
theorem VZ:Bp ["sort","tally"] ["sort","tally"] (A7 Qr):=CH
theorem U9:Bp ["step","events","items","place","event"] ["step","events"] (A7 Nv):=CH
theorem Us:Bp ["items","rows","time","key","amount","places"] ["items"] (A7 QS):=CH
theorem Ur:Bp ["row","low","high"] ["row","low","high"] (A7 QR):=CH
theorem U1:Bp ["item","other","places"] ["item","other"] (A7 QX):=CH
theorem Uz:Bp ["within","streams","rows","made","item","near"] ["within","streams"] (A7 Nt):=CH
theorem U7:Bp ["plan","events","told","step","streams"] ["plan","events"] (A7 Nu):=CH
theorem Ut:Bp ["times","size","step","begins","time","start"] ["times","size","step"] (A7 Nq):=CH
theorem Uv:Bp ["times","most","parts","time"] ["times","most"] (A7 Nr):=CH
theorem Va:Bp ["step","times"] ["step","times"] (A7 Qs):=CH
theorem VE:Bp ["step","inner","amounts"] ["step","inner"] (A7 Nz):=CH
theorem VC:Bp ["place","step","key","row","told","start","end","inner"] ["place","step","key","row"] (A7 Nx):=CH
theorem VB:Bp ["plan","events","streams","told","place","rows","key"] ["plan","events"] (A7 Qd):=CH
theorem VD:Bp ["plan","events"] ["plan","events"] (A7 Ny):=CH
theorem U4:Bp ["slack","events","clock","kept","late","place","event"] ["slack","events"] (A7 Qa):=CH
theorem VG:Bp ["_law_script","_law_k"] ["_law_script","_law_k"] (A7 Qf):=CH
theorem VI:Bp ["_law_cell","_law_k","_law_signs","_law_letters","_law_turned","_law_size","_law_tail","_law_at_here"] ["_law_cell","_law_k","_law_signs"] (A7 N0):=CH
theorem VP:Bp ["_law_cell","_law_most"] ["_law_cell","_law_most"] (A7 Qm):=CH
theorem VT:Bp ["_law_cell","_law_name","_law_streams","_law_kind_here","_law_way","_law_one","_law_other","_law_more","_law_tally","_law_low","_law_high","_law_step_here"] ["_law_cell","_law_name","_law_streams","_law_kind_here"] (A7 Qo):=CH
theorem VH:Bp ["_law_step_here","_law_sizes","_law_many"] ["_law_step_here","_law_sizes","_law_many"] (A7 Qg):=CH
theorem VM:Bp ["_law_base","_law_j"] ["_law_base","_law_j"] (A7 Qj):=CH
theorem VU:Bp ["_law_base","_law_k","_law_signs","_law_words"] ["_law_base","_law_k","_law_signs"] (A7 Qp):=CH
theorem VL:Bp ["_law_base","_law_cell","_law_many","_law_plan","_law_one","_law_other","_law_ways"] ["_law_base","_law_cell","_law_many"] (A7 Qi):=CH
theorem VS:Bp ["_law_script","_law_first","_law_most","_law_many","_law_base","_law_letters","_law_plan","_law_sizes","_law_count","_law_joined","_law_k","_law_cell","_law_name","_law_kind_here","_law_step_here","_law_streams"] ["_law_script","_law_first","_law_most","_law_many"] (A7 N1):=CH
theorem VJ:Bp ["_law_script","_law_cells","_law_base","_law_scale","_law_events_here","_law_k","_law_cell","_law_mixed","_law_time","_law_kind_here","_law_at_here","_law_key","_law_amount"] ["_law_script","_law_cells"] (A7 Qh):=CH
theorem Qt:Bp ["_law_plan","_law_name","_law_events_here","_law_step_here","_law_ones","_law_others","_law_found","_law_time","_law_key","_law_amount","_law_other"] ["_law_plan","_law_name","_law_events_here"] (A7 J6):=CH
theorem VY:Bp ["_law_step_here","_law_times","_law_found","_law_time","_law_start","_law_last"] ["_law_step_here","_law_times"] (A7 Ks):=CH
theorem VQ:Bp ["_law_plan","_law_events_here","_law_found","_law_place","_law_step_here","_law_items_here","_law_key","_law_times","_law_start","_law_end","_law_some","_law_worth"] ["_law_plan","_law_events_here"] (A7 J7):=CH
theorem VX:Bp ["_law_thing"] ["_law_thing"] (A7 Qq):=CH
theorem VW:Bp ["_law_found","_law_due","_law_row"] ["_law_found","_law_due"] (A7 N2):=CH
theorem VN:Bp ["_law_slack_here","_law_events_here","_law_late_here","_law_now","_law_place","_law_event"] ["_law_slack_here","_law_events_here"] (A7 Qk):=CH
theorem VR:Bp ["_law_script","_law_cell"] ["_law_script"] (A7 Qn):=CH
theorem VO:Bp ["_law_thing","_law_events_here"] ["_law_thing","_law_events_here"] (A7 Ql):=CH
theorem U0:Bp ["_law_script","_law_many","_law_plan","_law_events_here","_law_cut","_law_other","_law_due","_law_handed","_law_slack_here","_law_late_here","_law_found"] ["_law_script"] (A7 MD):=CH
set_option genInjectivity false in structure Kk where
 om:AI
 oy:Au
 oj:AI
 ox:Au
 bw:AI
 da:Au
 gh:AI
 gu:Au
 ku:AI
 mi:Au
 rh:AI
 su:Au
 rg:AI
 si:Au
 kr:AI
 mh:Au
 rj:AI
 tf:Au
 xv:AI
 yh:Au
 xw:AI
 yi:Au
 uy:AI
 vf:Au
 uw:AI
 vd:Au
 ux:AI
 ve:Au
 xx:AI
 yj:Au
 kx:AI
 mj:Au
 rf:AI
 sg:Au
 qz:AI
 rq:Au
 oo:AI
 oz:Au
 iw:AI
 jk:Au
 iz:AI
 jl:Au
 eh:AI
 fh:Au
 gi:AI
 gv:Au
 jh:AI
 jw:Au
 ja:AI
 jm:Au
 gj:AI
 gw:Au
 rl:AI
 tq:Au
 ky:AI
 ml:Au
 ri:AI
 sy:Au
 oq:AI
 ph:Au
 fb:AI
 fi:Au
 fg:AI
 fm:Au
 jf:AI
 jt:Au
 gk:AI
 gx:Au
 jb:AI
 jo:Au
 cv:AI
 cw:Au
 cc:AI
 cg:Au
 cp:AI
 cq:Au
 ff:AI
 fj:Au
 gm:AI
 gy:Au
 df:AI
 dh:Au
 je:AI
 jr:Au
 gq:AI
 ic:Au
 jg:AI
 ju:Au
 jd:AI
 jq:Au
 gn:AI
 gz:Au
 cy:AI
 dc:Au
 abz:AI
 aaz:Au
 fz:AI
 ay:AI
 au:AI
 qp:AI
 ng:AI
 bz:AI
structure B0(K:Ar)(mg:AJ->Option AK)(ad:Kk):Prop where
 ur:A0 K "is_whole" "is_whole" QW ad.om ad.oy
 aah:Bf K ad.oy ["thing"] []aan:mg "is_whole"=AA (.ref ad.om)uq:A0 K "is_among" "is_among" QU ad.oj ad.ox
 aag:Bf K ad.ox ["thing","least","most"] []aam:mg "is_among"=AA (.ref ad.oj)qw:A0 K "__init__" "Clock.__init__" QO ad.bw ad.da
 rm:Bf K ad.da ["self","slack"] []vw:A0 K "admit" "Clock.admit" QP ad.gh ad.gu
 vy:Bf K ad.gu ["self","time"] []ud:A0 K "names_end" "names_end" QZ ad.ku ad.mi
 zl:Bf K ad.mi ["step"] []zu:mg "names_end"=AA (.ref ad.ku)xg:A0 K "name_of" "name_of" QY ad.rh ad.su
 abe:Bf K ad.su ["step"] []abo:mg "name_of"=AA (.ref ad.rh)xf:A0 K "feeders" "feeders" QT ad.rg ad.si
 abd:Bf K ad.si ["step"] []abn:mg "feeders"=AA (.ref ad.rg)uc:A0 K "is_teller" "is_teller" QV ad.kr ad.mh
 zh:Bf K ad.mh ["step"] []zt:mg "is_teller"=AA (.ref ad.kr)xh:A0 K "tellers" "tellers" Nw ad.rj ad.tf
 abf:Bf K ad.tf ["plan"] []abp:mg "tellers"=AA (.ref ad.rj)aav:A0 K "ahead" "ahead" QQ ad.xv ad.yh
 ade:Bf K ad.yh ["rows","mark"] []adl:mg "ahead"=AA (.ref ad.xv)aaw:A0 K "taken" "taken" Qc ad.xw ad.yi
 adf:Bf K ad.yi ["step","event"] []adm:mg "taken"=AA (.ref ad.xw)zg:A0 K "turned" "turned" Qe ad.uy ad.vf
 ace:Bf K ad.vf ["step","item"] []acn:mg "turned"=AA (.ref ad.uy)zd:A0 K "passed" "passed" ME ad.uw ad.vd
 acb:Bf K ad.vd ["step","streams"] []ack:mg "passed"=AA (.ref ad.uw)ze:A0 K "starts" "starts" Qb ad.ux ad.ve
 acd:Bf K ad.ve ["time","size","step"] []acm:mg "starts"=AA (.ref ad.ux)aax:A0 K "value" "value" Qr ad.xx ad.yj
 adg:Bf K ad.yj ["sort","tally"] []adn:mg "value"=AA (.ref ad.xx)ue:A0 K "taken_all" "taken_all" Nv ad.kx ad.mj
 zm:Bf K ad.mj ["step","events"] []zw:mg "taken_all"=AA (.ref ad.kx)qy:A0 K "by_keys" "by_keys" QS ad.rf ad.sg
 xm:Bf K ad.sg ["items"] []xq:mg "by_keys"=AA (.ref ad.rf)qx:A0 K "between" "between" QR ad.qz ad.rq
 xk:Bf K ad.rq ["row","low","high"] []xn:mg "between"=AA (.ref ad.qz)uv:A0 K "met_once" "met_once" QX ad.oo ad.oz
 aai:Bf K ad.oz ["item","other"] []aao:mg "met_once"=AA (.ref ad.oo)qd:A0 K "joined_all" "joined_all" Nt ad.iw ad.jk
 xy:Bf K ad.jk ["within","streams"] []ym:mg "joined_all"=AA (.ref ad.iw)qe:A0 K "streams_of" "streams_of" Nu ad.iz ad.jl
 ya:Bf K ad.jl ["plan","events"] []yn:mg "streams_of"=AA (.ref ad.iz)kh:A0 K "each_windows" "each_windows" Nq ad.eh ad.fh
 va:Bf K ad.fh ["times","size","step"] []vi:mg "each_windows"=AA (.ref ad.eh)nt:A0 K "gap_windows" "gap_windows" Nr ad.gi ad.gv
 vz:Bf K ad.gv ["times","most"] []wj:mg "gap_windows"=AA (.ref ad.gi)qk:A0 K "windows_of" "windows_of" Qs ad.jh ad.jw
 yg:Bf K ad.jw ["step","times"] []yu:mg "windows_of"=AA (.ref ad.jh)qf:A0 K "told_value" "told_value" Nz ad.ja ad.jm
 yb:Bf K ad.jm ["step","inner"] []yo:mg "told_value"=AA (.ref ad.ja)nu:A0 K "told_of_key" "told_of_key" Nx ad.gj ad.gw
 wc:Bf K ad.gw ["place","step","key","row"] []wm:mg "told_of_key"=AA (.ref ad.gj)xj:A0 K "told_of" "told_of" Qd ad.rl ad.tq
 abg:Bf K ad.tq ["plan","events"] []abq:mg "told_of"=AA (.ref ad.rl)uf:A0 K "told_once" "told_once" Ny ad.ky ad.ml
 zo:Bf K ad.ml ["plan","events"] []zx:mg "told_once"=AA (.ref ad.ky)mw:A0 K "on_time" "on_time" Qa ad.ri ad.sy
 ro:Bf K ad.sy ["slack","events"] []tu:mg "on_time"=AA (.ref ad.ri)dy:A0 K "_law_at" "_law_at" Qf ad.oq ad.ph
 ji:Bf K ad.ph ["_law_script","_law_k"] []jx:mg "_law_at"=AA (.ref ad.oq)bc:A0 K "_law_called" "_law_called" N0 ad.fb ad.fi
 bo:Bf K ad.fi ["_law_cell","_law_k","_law_signs"] []bp:mg "_law_called"=AA (.ref ad.fb)km:A0 K "_law_number" "_law_number" Qm ad.fg ad.fm
 vc:Bf K ad.fm ["_law_cell","_law_most"] []vk:mg "_law_number"=AA (.ref ad.fg)qi:A0 K "_law_step" "_law_step" Qo ad.jf ad.jt
 ye:Bf K ad.jt ["_law_cell","_law_name","_law_streams","_law_kind_here"] []yr:mg "_law_step"=AA (.ref ad.jf)ny:A0 K "_law_bound" "_law_bound" Qg ad.gk ad.gx
 we:Bf K ad.gx ["_law_step_here","_law_sizes","_law_many"] []wo:mg "_law_bound"=AA (.ref ad.gk)du:A0 K "_law_kind" "_law_kind" Qj ad.jb ad.jo
 jj:Bf K ad.jo ["_law_base","_law_j"] []jy:mg "_law_kind"=AA (.ref ad.jb)fw:A0 K "_law_step_name" "_law_step_name" Qp ad.cv ad.cw
 ql:Bf K ad.cw ["_law_base","_law_k","_law_signs"] []qm:mg "_law_step_name"=AA (.ref ad.cv)dq:A0 K "_law_joined_plan" "_law_joined_plan" Qi ad.cc ad.cg
 ni:Bf K ad.cg ["_law_base","_law_cell","_law_many"] []nk:mg "_law_joined_plan"=AA (.ref ad.cc)dz:A0 K "_law_small_plan" "_law_small_plan" N1 ad.cp ad.cq
 ot:Bf K ad.cq ["_law_script","_law_first","_law_most","_law_many"] []qc:mg "_law_small_plan"=AA (.ref ad.cp)kj:A0 K "_law_events" "_law_events" Qh ad.ff ad.fj
 vb:Bf K ad.fj ["_law_script","_law_cells"] []vj:mg "_law_events"=AA (.ref ad.ff)cj:A0 K "_law_items" "_law_items" J6 ad.gm ad.gy
 gs:Bf K ad.gy ["_law_plan","_law_name","_law_events_here"] []ig:mg "_law_items"=AA (.ref ad.gm)kb:A0 K "_law_windows" "_law_windows" Ks ad.df ad.dh
 uj:Bf K ad.dh ["_law_step_here","_law_times"] []um:mg "_law_windows"=AA (.ref ad.df)qh:A0 K "_law_rows" "_law_rows" J7 ad.je ad.jr
 yd:Bf K ad.jr ["_law_plan","_law_events_here"] []yq:mg "_law_rows"=AA (.ref ad.je)gg:A0 K "_law_whole" "_law_whole" Qq ad.gq ad.ic
 og:Bf K ad.ic ["_law_thing"] []oh:mg "_law_whole"=AA (.ref ad.gq)qj:A0 K "_law_told" "_law_told" N2 ad.jg ad.ju
 yf:Bf K ad.ju ["_law_found","_law_due"] []yt:mg "_law_told"=AA (.ref ad.jg)qg:A0 K "_law_late" "_law_late" Qk ad.jd ad.jq
 yc:Bf K ad.jq ["_law_slack_here","_law_events_here"] []yp:mg "_law_late"=AA (.ref ad.jd)oa:A0 K "_law_slack" "_law_slack" Qn ad.gn ad.gz
 wg:Bf K ad.gz ["_law_script"] []wq:mg "_law_slack"=AA (.ref ad.gn)iq:A0 K "_law_no_slack" "_law_no_slack" Ql ad.cy ad.dc
 rp:Bf K ad.dc ["_law_thing","_law_events_here"] []tw:mg "_law_no_slack"=AA (.ref ad.cy)adz:A0 K "law" "law" MD ad.abz ad.aaz
 agy:Bf K ad.aaz ["_law_script"] []afr:mg "law"=AA (.ref ad.abz)ado:mg "FlowError"=AA (.ref ad.fz)aei:ND K ad.fz [.type "ValueError",.type "Exception",.type "BaseException",.type "object"] "ValueError.__new__"=AF
 ug:mg "BadSlack"=AA (.ref ad.ay)aau:ND K ad.ay [.type "ValueError",.type "Exception",.type "BaseException",.type "object"] "ValueError.__new__"=AF
 aco:mg "Clock"=AA (.ref ad.au)cm:IW K ad.au
 oi:JQ K ad.au "slack"gf:JQ K ad.au "now"ik:JQ K ad.au "count"abb:OC K ad.au "__init__" ad.bw
 vm:OC K ad.au "admit" ad.gh
 acp:Q7 K ad.au ad.bw
 aeb:gI K ad.ay
 za:Jq K (.ref ad.ay) (.type "ValueError")=AA AF
 zq:Jq K (.ref ad.ay) (.ref ad.fz)=AA AF
 zp:Sw K (.ref ad.ay) (.ref ad.fz)=AA AF
 aaf:Jq K (.ref ad.ay) (.ref ad.ay)=AA AF
 nj:Sw K (.ref ad.ay) (.ref ad.ay)=AA AF
 yk:∃t,mg "MOST_SLACK"=AA (.int 1000000000 t)aci:mg "PAIRED"=AA (.ref ad.qp)acs:∀H,Bw K H ad.qp [.str "both",.str "join"]afo:∃o,K.lookup ad.qp=AA o/\o.cls=.type "tuple"/\o.dict=AD
 abk:mg "TELLERS"=AA (.ref ad.ng)abt:∀H,Bw K H ad.ng [.str "each",.str "gap"]afb:∃o,K.lookup ad.ng=AA o/\o.cls=.type "tuple"/\o.dict=AD
 abj:mg "TALLIES"=AA (.ref ad.bz)abr:∀H,Bw K H ad.bz [.str "count",.str "sum",.str "least",.str "greatest"]my:∃o,K.lookup ad.bz=AA o/\o.cls=.type "tuple"/\o.dict=AD
 ady:mg "ValueError"=AD
 acw:mg "bool"=AD
 bu:mg "enumerate"=AD
 acx:mg "int"=AD
 ax:mg "isinstance"=AD
 ke:mg "len"=AD
 ip:mg "list"=AD
 ui:mg "max"=AD
 qr:mg "min"=AD
 nh:mg "range"=AD
 acy:mg "set"=AD
 fu:mg "sorted"=AD
 aek:mg "str"=AD
 ael:mg "sum"=AD
 yy:mg "tuple"=AD
theorem Hr{us:List α}(h:us.length=1):∃D,us=[D]:=by match us,h with|[D],_=>exact⟨D,rfl⟩
theorem DZ{us:List α}(h:us.length=2):∃D F,us=[D,F]:=by match us,h with|[D,F],_=>exact⟨D,F,rfl⟩
theorem IV{us:List α}(h:us.length=3):∃D F J,us=[D,F,J]:=by match us,h with|[D,F,J],_=>exact⟨D,F,J,rfl⟩
theorem Qz{us:List α}(h:us.length=4):∃D F J U,us=[D,F,J,U]:=by match us,h with|[D,F,J,U],_=>exact⟨D,F,J,U,rfl⟩
theorem fR{K:Ar}{h:A3}(X:K.In h)(G:h.Ns BI mg)(a_is_whole:BS K BI "is_whole"=AA (AA (.ref f_is_whole)))(F_is_whole:A0 K "is_whole" "is_whole" QW f_is_whole d_is_whole)(a_is_among:BS K BI "is_among"=AA (AA (.ref f_is_among)))(F_is_among:A0 K "is_among" "is_among" QU f_is_among d_is_among)(a_Clock:BS K BI "Clock"=AA (AA (.ref J)))(a_Clock___init__:EU K (.ref J) "__init__"=AA (AA (.ref U)))(F_Clock___init__:A0 K "__init__" "Clock.__init__" QO U d)(a_Clock_admit:EU K (.ref J) "admit"=AA (AA (.ref q)))(F_Clock_admit:A0 K "admit" "Clock.admit" QP q d_Clock_admit)(a_names_end:BS K BI "names_end"=AA (AA (.ref s)))(F_names_end:A0 K "names_end" "names_end" QZ s d_names_end)(a_name_of:BS K BI "name_of"=AA (AA (.ref f_name_of)))(F_name_of:A0 K "name_of" "name_of" QY f_name_of d_name_of)(a_feeders:BS K BI "feeders"=AA (AA (.ref f_feeders)))(F_feeders:A0 K "feeders" "feeders" QT f_feeders d_feeders)(a_is_teller:BS K BI "is_teller"=AA (AA (.ref r)))(F_is_teller:A0 K "is_teller" "is_teller" QV r d_is_teller)(a_tellers:BS K BI "tellers"=AA (AA (.ref f_tellers)))(F_tellers:A0 K "tellers" "tellers" Nw f_tellers d_tellers)(a_ahead:BS K BI "ahead"=AA (AA (.ref f_ahead)))(F_ahead:A0 K "ahead" "ahead" QQ f_ahead d_ahead)(a_taken:BS K BI "taken"=AA (AA (.ref f_taken)))(F_taken:A0 K "taken" "taken" Qc f_taken d_taken)(a_turned:BS K BI "turned"=AA (AA (.ref f_turned)))(F_turned:A0 K "turned" "turned" Qe f_turned d_turned)(a_passed:BS K BI "passed"=AA (AA (.ref f_passed)))(F_passed:A0 K "passed" "passed" ME f_passed d_passed)(a_starts:BS K BI "starts"=AA (AA (.ref f_starts)))(F_starts:A0 K "starts" "starts" Qb f_starts d_starts)(a_value:BS K BI "value"=AA (AA (.ref f_value)))(F_value:A0 K "value" "value" Qr f_value d_value)(a_taken_all:BS K BI "taken_all"=AA (AA (.ref t)))(F_taken_all:A0 K "taken_all" "taken_all" Nv t d_taken_all)(a_by_keys:BS K BI "by_keys"=AA (AA (.ref f_by_keys)))(F_by_keys:A0 K "by_keys" "by_keys" QS f_by_keys d_by_keys)(a_between:BS K BI "between"=AA (AA (.ref f_between)))(F_between:A0 K "between" "between" QR f_between d_between)(a_met_once:BS K BI "met_once"=AA (AA (.ref f_met_once)))(F_met_once:A0 K "met_once" "met_once" QX f_met_once d_met_once)(a_joined_all:BS K BI "joined_all"=AA (AA (.ref f)))(F_joined_all:A0 K "joined_all" "joined_all" Nt f d_joined_all)(a_streams_of:BS K BI "streams_of"=AA (AA (.ref g)))(F_streams_of:A0 K "streams_of" "streams_of" Nu g d_streams_of)(a_each_windows:BS K BI "each_windows"=AA (AA (.ref E)))(F_each_windows:A0 K "each_windows" "each_windows" Nq E v)(a_gap_windows:BS K BI "gap_windows"=AA (AA (.ref Q)))(F_gap_windows:A0 K "gap_windows" "gap_windows" Nr Q d_gap_windows)(a_windows_of:BS K BI "windows_of"=AA (AA (.ref o)))(F_windows_of:A0 K "windows_of" "windows_of" Qs o d_windows_of)(a_told_value:BS K BI "told_value"=AA (AA (.ref i)))(F_told_value:A0 K "told_value" "told_value" Nz i d_told_value)(a_told_of_key:BS K BI "told_of_key"=AA (AA (.ref R)))(F_told_of_key:A0 K "told_of_key" "told_of_key" Nx R d_told_of_key)(a_told_of:BS K BI "told_of"=AA (AA (.ref f_told_of)))(F_told_of:A0 K "told_of" "told_of" Qd f_told_of d_told_of)(a_told_once:BS K BI "told_once"=AA (AA (.ref u)))(F_told_once:A0 K "told_once" "told_once" Ny u d_told_once)(a_on_time:BS K BI "on_time"=AA (AA (.ref f_on_time)))(F_on_time:A0 K "on_time" "on_time" Qa f_on_time d_on_time)(a_u_law_at:BS K BI "_law_at"=AA (AA (.ref f_u_law_at)))(F_u_law_at:A0 K "_law_at" "_law_at" Qf f_u_law_at d_u_law_at)(a_u_law_called:BS K BI "_law_called"=AA (AA (.ref I)))(F_u_law_called:A0 K "_law_called" "_law_called" N0 I w)(a_u_law_number:BS K BI "_law_number"=AA (AA (.ref M)))(F_u_law_number:A0 K "_law_number" "_law_number" Qm M y)(a_u_law_step:BS K BI "_law_step"=AA (AA (.ref m)))(F_u_law_step:A0 K "_law_step" "_law_step" Qo m d_u_law_step)(a_u_law_bound:BS K BI "_law_bound"=AA (AA (.ref S)))(F_u_law_bound:A0 K "_law_bound" "_law_bound" Qg S d_u_law_bound)(a_u_law_kind:BS K BI "_law_kind"=AA (AA (.ref j)))(F_u_law_kind:A0 K "_law_kind" "_law_kind" Qj j d_u_law_kind)(a_u_law_step_name:BS K BI "_law_step_name"=AA (AA (.ref Y)))(F_u_law_step_name:A0 K "_law_step_name" "_law_step_name" Qp Y P)(a_u_law_joined_plan:BS K BI "_law_joined_plan"=AA (AA (.ref V)))(F_u_law_joined_plan:A0 K "_law_joined_plan" "_law_joined_plan" Qi V C)(a_u_law_small_plan:BS K BI "_law_small_plan"=AA (AA (.ref W)))(F_u_law_small_plan:A0 K "_law_small_plan" "_law_small_plan" N1 W N)(a_u_law_events:BS K BI "_law_events"=AA (AA (.ref L)))(F_u_law_events:A0 K "_law_events" "_law_events" Qh L x)(a_u_law_items:BS K BI "_law_items"=AA (AA (.ref T)))(F_u_law_items:A0 K "_law_items" "_law_items" J6 T d_u_law_items)(a_u_law_windows:BS K BI "_law_windows"=AA (AA (.ref B)))(F_u_law_windows:A0 K "_law_windows" "_law_windows" Ks B p)(a_u_law_rows:BS K BI "_law_rows"=AA (AA (.ref l)))(F_u_law_rows:A0 K "_law_rows" "_law_rows" J7 l d_u_law_rows)(a_u_law_whole:BS K BI "_law_whole"=AA (AA (.ref b)))(F_u_law_whole:A0 K "_law_whole" "_law_whole" Qq b d_u_law_whole)(a_u_law_told:BS K BI "_law_told"=AA (AA (.ref n)))(F_u_law_told:A0 K "_law_told" "_law_told" N2 n d_u_law_told)(a_u_law_late:BS K BI "_law_late"=AA (AA (.ref k)))(F_u_law_late:A0 K "_law_late" "_law_late" Qk k d_u_law_late)(a_u_law_slack:BS K BI "_law_slack"=AA (AA (.ref a)))(F_u_law_slack:A0 K "_law_slack" "_law_slack" Qn a d_u_law_slack)(a_u_law_no_slack:BS K BI "_law_no_slack"=AA (AA (.ref A)))(F_u_law_no_slack:A0 K "_law_no_slack" "_law_no_slack" Ql A e)(a_law:BS K BI "law"=AA (AA (.ref f_law)))(F_law:A0 K "law" "law" MD f_law d_law)(a_FlowError:BS K BI "FlowError"=AA (AA (.ref Z)))(x_FlowError:ND K Z [.type "ValueError",.type "Exception",.type "BaseException",.type "object"] "ValueError.__new__"=AF)(a_BadSlack:BS K BI "BadSlack"=AA (AA (.ref D)))(x_BadSlack:ND K D [.type "ValueError",.type "Exception",.type "BaseException",.type "object"] "ValueError.__new__"=AF)(pg_Clock:Sy K J zH=AF)(hd_Clock:YU K J=AF)(po_Clock:rY K J=AF)(sa_Clock:EU K (.ref J) "__setattr__"=AA (AA (.builtin "object.__setattr__")))(n_Clock_slack:EU K (.ref J) "slack"=AA AD)(n_Clock_now:EU K (.ref J) "now"=AA AD)(n_Clock_count:EU K (.ref J) "count"=AA AD)(fn_Clock___init__:Sx K (.ref U)=AF)(fn_Clock_admit:Sx K (.ref q)=AF)(mks_Clock:rV K J=AF)(kp_Clock:Lg K (.ref J)=AF)(ga_BadSlack:EU K (.ref D) "__getattribute__"=AA (AA (.builtin "BaseException.__getattribute__")))(gt_BadSlack:EU K (.ref D) "__getattr__"=AA AD)(ck_BadSlack:EU K (.ref D) "__class__"=AA (AA (.builtin "object.__class__")))(sb_BadSlack:YY K (.ref D) (.type "BaseException")=AA AF)(so_BadSlack:YY K (.ref D) (.type "object")=AA AF)(cl_BadSlack:zR K D=AA cd_BadSlack)(i_BadSlack_ValueError:Jq K (.ref D) (.type "ValueError")=AA AF)(i_BadSlack_FlowError:Jq K (.ref D) (.ref Z)=AA AF)(e_BadSlack_FlowError:Sw K (.ref D) (.ref Z)=AA AF)(i_BadSlack_BadSlack:Jq K (.ref D) (.ref D)=AA AF)(e_BadSlack_BadSlack:Sw K (.ref D) (.ref D)=AA AF)(g_MOST_SLACK:BS K BI "MOST_SLACK"=AA (AA (.int 1000000000 t_MOST_SLACK)))(g_PAIRED:BS K BI "PAIRED"=AA (AA (.ref o_PAIRED)))(l_PAIRED:K.lookup o_PAIRED=AA ⟨.type "tuple",AD,.seq #[.str "both" t0_PAIRED,.str "join" t1_PAIRED] n_PAIRED,sl_PAIRED⟩)(g_TELLERS:BS K BI "TELLERS"=AA (AA (.ref o_TELLERS)))(l_TELLERS:K.lookup o_TELLERS=AA ⟨.type "tuple",AD,.seq #[.str "each" t0_TELLERS,.str "gap" t1_TELLERS] n_TELLERS,sl_TELLERS⟩)(g_TALLIES:BS K BI "TALLIES"=AA (AA (.ref o_TALLIES)))(l_TALLIES:K.lookup o_TALLIES=AA ⟨.type "tuple",AD,.seq #[.str "count" t0_TALLIES,.str "sum" t1_TALLIES,.str "least" t2_TALLIES,.str "greatest" t3_TALLIES] n_TALLIES,sl_TALLIES⟩)(z_ValueError:BS K BI "ValueError"=AA AD)(z_bool:BS K BI "bool"=AA AD)(z_enumerate:BS K BI "enumerate"=AA AD)(z_int:BS K BI "int"=AA AD)(z_isinstance:BS K BI "isinstance"=AA AD)(z_len:BS K BI "len"=AA AD)(z_list:BS K BI "list"=AA AD)(z_max:BS K BI "max"=AA AD)(z_min:BS K BI "min"=AA AD)(z_range:BS K BI "range"=AA AD)(z_set:BS K BI "set"=AA AD)(z_sorted:BS K BI "sorted"=AA AD)(z_str:BS K BI "str"=AA AD)(z_sum:BS K BI "sum"=AA AD)(z_tuple:BS K BI "tuple"=AA AD):B0 K mg (⟨f_is_whole,d_is_whole,f_is_among,d_is_among,U,d,q,d_Clock_admit,s,d_names_end,f_name_of,d_name_of,f_feeders,d_feeders,r,d_is_teller,f_tellers,d_tellers,f_ahead,d_ahead,f_taken,d_taken,f_turned,d_turned,f_passed,d_passed,f_starts,d_starts,f_value,d_value,t,d_taken_all,f_by_keys,d_by_keys,f_between,d_between,f_met_once,d_met_once,f,d_joined_all,g,d_streams_of,E,v,Q,d_gap_windows,o,d_windows_of,i,d_told_value,R,d_told_of_key,f_told_of,d_told_of,u,d_told_once,f_on_time,d_on_time,f_u_law_at,d_u_law_at,I,w,M,y,m,d_u_law_step,S,d_u_law_bound,j,d_u_law_kind,Y,P,V,C,W,N,L,x,T,d_u_law_items,B,p,l,d_u_law_rows,b,d_u_law_whole,n,d_u_law_told,k,d_u_law_late,a,d_u_law_slack,A,e,f_law,d_law,Z,D,J,o_PAIRED,o_TELLERS,o_TALLIES⟩:Kk):=⟨F_is_whole,F_is_whole.aq λ_ _ _ _ _ _ c F=>by obtain⟨O,rfl⟩:=Hr F;rfl,By X G a_is_whole,F_is_among,F_is_among.aq λ_ _ _ _ _ _ c F=>by obtain⟨O,z,a2,rfl⟩:=IV F;rfl,By X G a_is_among,F_Clock___init__,F_Clock___init__.aq λ_ _ _ _ _ _ c F=>by obtain⟨O,z,rfl⟩:=DZ F;rfl,F_Clock_admit,F_Clock_admit.aq λ_ _ _ _ _ _ c F=>by obtain⟨O,z,rfl⟩:=DZ F;rfl,F_names_end,F_names_end.aq λ_ _ _ _ _ _ c F=>by obtain⟨O,rfl⟩:=Hr F;rfl,By X G a_names_end,F_name_of,F_name_of.aq λ_ _ _ _ _ _ c F=>by obtain⟨O,rfl⟩:=Hr F;rfl,By X G a_name_of,F_feeders,F_feeders.aq λ_ _ _ _ _ _ c F=>by obtain⟨O,rfl⟩:=Hr F;rfl,By X G a_feeders,F_is_teller,F_is_teller.aq λ_ _ _ _ _ _ c F=>by obtain⟨O,rfl⟩:=Hr F;rfl,By X G a_is_teller,F_tellers,F_tellers.aq λ_ _ _ _ _ _ c F=>by obtain⟨O,rfl⟩:=Hr F;rfl,By X G a_tellers,F_ahead,F_ahead.aq λ_ _ _ _ _ _ c F=>by obtain⟨O,z,rfl⟩:=DZ F;rfl,By X G a_ahead,F_taken,F_taken.aq λ_ _ _ _ _ _ c F=>by obtain⟨O,z,rfl⟩:=DZ F;rfl,By X G a_taken,F_turned,F_turned.aq λ_ _ _ _ _ _ c F=>by obtain⟨O,z,rfl⟩:=DZ F;rfl,By X G a_turned,F_passed,F_passed.aq λ_ _ _ _ _ _ c F=>by obtain⟨O,z,rfl⟩:=DZ F;rfl,By X G a_passed,F_starts,F_starts.aq λ_ _ _ _ _ _ c F=>by obtain⟨O,z,a2,rfl⟩:=IV F;rfl,By X G a_starts,F_value,F_value.aq λ_ _ _ _ _ _ c F=>by obtain⟨O,z,rfl⟩:=DZ F;rfl,By X G a_value,F_taken_all,F_taken_all.aq λ_ _ _ _ _ _ c F=>by obtain⟨O,z,rfl⟩:=DZ F;rfl,By X G a_taken_all,F_by_keys,F_by_keys.aq λ_ _ _ _ _ _ c F=>by obtain⟨O,rfl⟩:=Hr F;rfl,By X G a_by_keys,F_between,F_between.aq λ_ _ _ _ _ _ c F=>by obtain⟨O,z,a2,rfl⟩:=IV F;rfl,By X G a_between,F_met_once,F_met_once.aq λ_ _ _ _ _ _ c F=>by obtain⟨O,z,rfl⟩:=DZ F;rfl,By X G a_met_once,F_joined_all,F_joined_all.aq λ_ _ _ _ _ _ c F=>by obtain⟨O,z,rfl⟩:=DZ F;rfl,By X G a_joined_all,F_streams_of,F_streams_of.aq λ_ _ _ _ _ _ c F=>by obtain⟨O,z,rfl⟩:=DZ F;rfl,By X G a_streams_of,F_each_windows,F_each_windows.aq λ_ _ _ _ _ _ c F=>by obtain⟨O,z,a2,rfl⟩:=IV F;rfl,By X G a_each_windows,F_gap_windows,F_gap_windows.aq λ_ _ _ _ _ _ c F=>by obtain⟨O,z,rfl⟩:=DZ F;rfl,By X G a_gap_windows,F_windows_of,F_windows_of.aq λ_ _ _ _ _ _ c F=>by obtain⟨O,z,rfl⟩:=DZ F;rfl,By X G a_windows_of,F_told_value,F_told_value.aq λ_ _ _ _ _ _ c F=>by obtain⟨O,z,rfl⟩:=DZ F;rfl,By X G a_told_value,F_told_of_key,F_told_of_key.aq λ_ _ _ _ _ _ c F=>by obtain⟨O,z,a2,a3,rfl⟩:=Qz F;rfl,By X G a_told_of_key,F_told_of,F_told_of.aq λ_ _ _ _ _ _ c F=>by obtain⟨O,z,rfl⟩:=DZ F;rfl,By X G a_told_of,F_told_once,F_told_once.aq λ_ _ _ _ _ _ c F=>by obtain⟨O,z,rfl⟩:=DZ F;rfl,By X G a_told_once,F_on_time,F_on_time.aq λ_ _ _ _ _ _ c F=>by obtain⟨O,z,rfl⟩:=DZ F;rfl,By X G a_on_time,F_u_law_at,F_u_law_at.aq λ_ _ _ _ _ _ c F=>by obtain⟨O,z,rfl⟩:=DZ F;rfl,By X G a_u_law_at,F_u_law_called,F_u_law_called.aq λ_ _ _ _ _ _ c F=>by obtain⟨O,z,a2,rfl⟩:=IV F;rfl,By X G a_u_law_called,F_u_law_number,F_u_law_number.aq λ_ _ _ _ _ _ c F=>by obtain⟨O,z,rfl⟩:=DZ F;rfl,By X G a_u_law_number,F_u_law_step,F_u_law_step.aq λ_ _ _ _ _ _ c F=>by obtain⟨O,z,a2,a3,rfl⟩:=Qz F;rfl,By X G a_u_law_step,F_u_law_bound,F_u_law_bound.aq λ_ _ _ _ _ _ c F=>by obtain⟨O,z,a2,rfl⟩:=IV F;rfl,By X G a_u_law_bound,F_u_law_kind,F_u_law_kind.aq λ_ _ _ _ _ _ c F=>by obtain⟨O,z,rfl⟩:=DZ F;rfl,By X G a_u_law_kind,F_u_law_step_name,F_u_law_step_name.aq λ_ _ _ _ _ _ c F=>by obtain⟨O,z,a2,rfl⟩:=IV F;rfl,By X G a_u_law_step_name,F_u_law_joined_plan,F_u_law_joined_plan.aq λ_ _ _ _ _ _ c F=>by obtain⟨O,z,a2,rfl⟩:=IV F;rfl,By X G a_u_law_joined_plan,F_u_law_small_plan,F_u_law_small_plan.aq λ_ _ _ _ _ _ c F=>by obtain⟨O,z,a2,a3,rfl⟩:=Qz F;rfl,By X G a_u_law_small_plan,F_u_law_events,F_u_law_events.aq λ_ _ _ _ _ _ c F=>by obtain⟨O,z,rfl⟩:=DZ F;rfl,By X G a_u_law_events,F_u_law_items,F_u_law_items.aq λ_ _ _ _ _ _ c F=>by obtain⟨O,z,a2,rfl⟩:=IV F;rfl,By X G a_u_law_items,F_u_law_windows,F_u_law_windows.aq λ_ _ _ _ _ _ c F=>by obtain⟨O,z,rfl⟩:=DZ F;rfl,By X G a_u_law_windows,F_u_law_rows,F_u_law_rows.aq λ_ _ _ _ _ _ c F=>by obtain⟨O,z,rfl⟩:=DZ F;rfl,By X G a_u_law_rows,F_u_law_whole,F_u_law_whole.aq λ_ _ _ _ _ _ c F=>by obtain⟨O,rfl⟩:=Hr F;rfl,By X G a_u_law_whole,F_u_law_told,F_u_law_told.aq λ_ _ _ _ _ _ c F=>by obtain⟨O,z,rfl⟩:=DZ F;rfl,By X G a_u_law_told,F_u_law_late,F_u_law_late.aq λ_ _ _ _ _ _ c F=>by obtain⟨O,z,rfl⟩:=DZ F;rfl,By X G a_u_law_late,F_u_law_slack,F_u_law_slack.aq λ_ _ _ _ _ _ c F=>by obtain⟨O,rfl⟩:=Hr F;rfl,By X G a_u_law_slack,F_u_law_no_slack,F_u_law_no_slack.aq λ_ _ _ _ _ _ c F=>by obtain⟨O,z,rfl⟩:=DZ F;rfl,By X G a_u_law_no_slack,F_law,F_law.aq λ_ _ _ _ _ _ c F=>by obtain⟨O,rfl⟩:=Hr F;rfl,By X G a_law,By X G a_FlowError,x_FlowError,By X G a_BadSlack,x_BadSlack,By X G a_Clock,⟨pg_Clock,hd_Clock,po_Clock,sa_Clock⟩,n_Clock_slack,n_Clock_now,n_Clock_count,⟨a_Clock___init__,fn_Clock___init__,F_Clock___init__.kp⟩,⟨a_Clock_admit,fn_Clock_admit,F_Clock_admit.kp⟩,⟨mks_Clock,a_Clock___init__,fn_Clock___init__,kp_Clock⟩,⟨ga_BadSlack,gt_BadSlack,ck_BadSlack,sb_BadSlack,so_BadSlack,by rw[cl_BadSlack];rfl⟩,i_BadSlack_ValueError,i_BadSlack_FlowError,e_BadSlack_FlowError,i_BadSlack_BadSlack,e_BadSlack_BadSlack,⟨_,By X G g_MOST_SLACK⟩,By X G g_PAIRED,λH=>.inr ⟨_,_,_,l_PAIRED,rfl,rfl,by first|decide|exact(by decide:2<=sizeLine),by repeat(first|exact .nil|refine .cons ?_ ?_|exact⟨_,rfl⟩|rfl)⟩,⟨_,l_PAIRED,rfl,rfl⟩,By X G g_TELLERS,λH=>.inr ⟨_,_,_,l_TELLERS,rfl,rfl,by first|decide|exact(by decide:2<=sizeLine),by repeat(first|exact .nil|refine .cons ?_ ?_|exact⟨_,rfl⟩|rfl)⟩,⟨_,l_TELLERS,rfl,rfl⟩,By X G g_TALLIES,λH=>.inr ⟨_,_,_,l_TALLIES,rfl,rfl,by first|decide|exact(by decide:4<=sizeLine),by repeat(first|exact .nil|refine .cons ?_ ?_|exact⟨_,rfl⟩|rfl)⟩,⟨_,l_TALLIES,rfl,rfl⟩,Gg X G z_ValueError,Gg X G z_bool,Gg X G z_enumerate,Gg X G z_int,Gg X G z_isinstance,Gg X G z_len,Gg X G z_list,Gg X G z_max,Gg X G z_min,Gg X G z_range,Gg X G z_set,Gg X G z_sorted,Gg X G z_str,Gg X G z_sum,Gg X G z_tuple⟩
noncomputable def N3(K:Ar):Ba:=λJ H Q _=>L3 (λ(a:AI)(D:List Int)=>J=[.ref a]) (λa D=>Bg K H a (D.map AH.int)) (λ_ D=>D.length<=63) (λ_ _=>∀F,Q (.bl AF) F)
theorem aF(K:Ar)(H:AN)(a:AI)(D:List Int)(J:D.length<=63)(_:MM H)(F:Bg K H a (D.map AH.int)):N3 K [.ref a] H (λv _=>v=.bl AF) λ_ _ _=>False:=⟨a,D,rfl,F,J,λ_=>rfl⟩
noncomputable abbrev P6:Nat:=60
theorem UD{C G R:Prop}(h:C->G)(k:(C->G)->R):R:=k h
inductive Ah where|take(n k:AJ)|only(n a:AJ)(lo hi:Int)|turn(n a:AJ)(f g:Int)|both(n a b:AJ)|join(n a b:AJ)(wi:Int)|gap(n a s:AJ)(m:Int)|each(n a s:AJ)(sz st:Int)
noncomputable def Ah.mz:Ah->List AR|Ah.take n k=>[.inr "take",.inr n,.inr k]|Ah.only n a F D=>[.inr "only",.inr n,.inr a,.inl F,.inl D]|Ah.turn n a f g=>[.inr "turn",.inr n,.inr a,.inl f,.inl g]|Ah.both n a b=>[.inr "both",.inr n,.inr a,.inr b]|Ah.join n a b V=>[.inr "join",.inr n,.inr a,.inr b,.inl V]|Ah.gap n a s m=>[.inr "gap",.inr n,.inr a,.inr s,.inl m]|Ah.each n a s U J=>[.inr "each",.inr n,.inr a,.inr s,.inl U,.inl J]
noncomputable def Ah.cx:Ah->AJ|Ah.take ..=>"take"|Ah.only ..=>"only"|Ah.turn ..=>"turn"|Ah.both ..=>"both"|Ah.join ..=>"join"|Ah.gap ..=>"gap"|Ah.each ..=>"each"
noncomputable def Ah.nm:Ah->AJ|Ah.take n _|Ah.only n _ _ _|Ah.turn n _ _ _|Ah.both n _ _|Ah.join n _ _ _|Ah.gap n _ _ _|Ah.each n _ _ _ _=>n
noncomputable def Ah.aw:Ah->List AJ|Ah.take ..=>[]|Ah.only _ a _ _|Ah.turn _ a _ _|Ah.gap _ a _ _|Ah.each _ a _ _ _=>[a]|Ah.both _ a b|Ah.join _ a b _=>[a,b]
noncomputable def Ah.br:Ah->Bool|Ah.gap ..|Ah.each ..=>AF|_=>AO
noncomputable def Ah.afl:Ah->Int|Ah.both ..|Ah.join ..=>4|_=>3
noncomputable def Ah.agr:Ah->Bool|Ah.both ..|Ah.join ..=>AF|_=>AO
noncomputable def Bj(H:AN)(p:AI)(s:Ah):Prop:=H p=AA (.tup (s.mz.map Al))
theorem Bj.tp(h:Bj H p s)(t:CM H D):Bj D p s:=t _ _ h
noncomputable def HE:List AH:=[.str "both",.str "join"]
theorem Bj.cx{K:Ar}{s:Ah}(h:Bj H p s):Bw K H p (s.mz.map Al)/\C3 (s.mz.map Al) 0=AA (.str s.cx)/\C3 (s.mz.map Al) 1=AA (.str s.nm):=by refine⟨Ao h,?_⟩;cases s<;>exact⟨Ag (j:=0) rfl,Ag (j:=1) rfl⟩
theorem f6:∀st:Ah,Dk (.str st.cx) HE=st.agr|.take ..=>(by decide+kernel:Dk (.str "take") HE=false)|.only ..=>(by decide+kernel:Dk (.str "only") HE=false)|.turn ..=>(by decide+kernel:Dk (.str "turn") HE=false)|.both ..=>(by decide+kernel:Dk (.str "both") HE=true)|.join ..=>(by decide+kernel:Dk (.str "join") HE=true)|.gap ..=>(by decide+kernel:Dk (.str "gap") HE=false)|.each ..=>(by decide+kernel:Dk (.str "each") HE=false)
noncomputable def Ah.no:Ah->Nat|.take ..=>0|.only ..=>1|.turn ..=>2|.both ..=>3|.join ..=>4|.gap ..=>5|.each ..=>6
noncomputable def Kw:List AJ:=["take","only","turn","both","join","gap","each"]
theorem Q1(st:Ah):Kw[st.no]?=AA st.cx:=by cases st<;>rfl
theorem fZ{st:Ah}(hz:Kw[i]?=AA z)(e:st.cx=z):st.no=i:=by
 have Y:Kw.Nodup:=by decide+kernel
 have h:=Q1 st;rw[e]at h;refine AB λV=>?_;obtain⟨J,D⟩:=Bh.mp h;obtain⟨U,F⟩:=Bh.mp hz;refine V ?_;try clear V
 have W:=Je.mp Y;rcases X6 st.no i with q|q|q;.exact absurd (D.trans F.symm) (W _ _ J U q)
 .exact q
 .exact absurd (F.trans D.symm) (W _ _ U J q)
theorem fY{st:Ah}(hz:Kw[i]?=AA z)(e:st.no≠i):st.cx≠z:=λq=>e (fZ hz q)
theorem EO{st:Ah}{i:Nat}{z:AJ}{A B:Prop}(hz:Kw[i]?=AA z)(D:st.no=i->A)(F:st.no≠i->B):if AZ (AH.str st.cx=AH.str z)=AF then A else B:=by
  by_cases h:st.no=i
  . have e:st.cx=z:=by have:=Q1 st;rw[h,hz]at this;exact(De this).symm
    rw[ABo (by rw[e];exact ABq rfl)];exact D h
  . rw[ABn (by rw[ABu];exactλq=>fY hz h (AH.str.inj q))];exact F h
noncomputable def dJ:Ba:=λD H Q _=>J1 (λ(p:AI)(s:Ah)=>D=[.ref p]) (λp s=>Bj H p s) (λ_ s=>Q (.int s.afl) H)
theorem bK{K:Ar}{J:Kk}(T:B0 K B J):BW P w K B base Bs 1 J.ku J.mi ["step"] dJ:=by
  refine T.ud.ok U3 (λC H Q E h=>?_) (λW A U s H C Q E I h=>?_)
  . refine AB λD=>?_;obtain⟨p,s,rfl,_⟩:=h;refine D ?_;try clear D
    rfl
  . refine AB λD=>?_;obtain⟨p,F,rfl,e,k⟩:=h;refine D ?_;try clear D
    have L:=U3.nd;refine⟨_,(Ac (BA (Oo (BK (Rn (K:=K)) (Ef K (Av 0) AM) (Mi (v:=.ref J.qp) (by rfl) T.aci rfl) (by with_unfolding_all rfl)) AM AM))),?_⟩;refine AB λD=>?_;obtain⟨Y,Z,G⟩:=e.cx (K:=K);refine D ?_;try clear D
    refine⟨_,rfl,p,_,_,_,rfl,rfl,Y,Z,_,HE,rfl,.inr (T.acs H),rfl,rfl,_,rfl,?_⟩;have V:=f6 F;refine Er (λq=>?_) λq=>?_
    . have q:Dk (.str F.cx) HE=AF:=q;rw[V]at q;cases F<;>first|exact k|cases q
    . have q:Dk (.str F.cx) HE=AO:=q;rw[V]at q;cases F<;>first|exact k|cases q
noncomputable def dZ:Ba:=λD H Q _=>J1 (λ(p:AI)(s:Ah)=>D=[.ref p]) (λp s=>Bj H p s) (λ_ s=>Q (.str s.nm) H)
theorem bJ{K:Ar}{J:Kk}(T:B0 K Y J):BW P w K Y base Bs 1 J.rh J.su ["step"] dZ:=by
  refine T.xg.ok U2 (λZ H Q E h=>?_) (λU A F s H Z Q E B h=>?_)
  . refine AB λD=>?_;obtain⟨p,s,rfl,_⟩:=h;refine D ?_;try clear D
    rfl
  . refine AB λD=>?_;obtain⟨p,G,rfl,e,k⟩:=h;refine D ?_;try clear D
    have C:=U2.nd;refine⟨_,(Ac (BA (Ef K (Av 0) AM))),?_⟩;refine AB λD=>?_;obtain⟨V,q,W⟩:=e.cx (K:=K);refine D ?_;try clear D
    exact⟨_,rfl,p,_,_,_,rfl,rfl,V,W,k⟩
noncomputable def dO:Ba:=λF H Q _=>J1 (λ(p:AI)(s:Ah)=>F=[.ref p]) (λp s=>Bj H p s) (λ_ s=>∀l D,Ak H D->H l=AD->D l=AA (.lst (s.aw.map AH.str))->Q (.ref l) D)
theorem aX{K:Ar}{G:Kk}(T:B0 K O G):BW P w K O base Bs 2 G.rg G.si ["step"] dO:=by
  have D:=gF.mk (bK (P:=P) (w:=w) (base:=base) T) T.zu T.ud.kp T.zl;refine T.xf.ok Uu (λS H Q E h=>?_) (λL A B s H S Q E N h=>?_)
  . refine AB λU=>?_;obtain⟨p,s,rfl,_⟩:=h;refine U ?_;try clear U
    rfl
  . refine AB λU=>?_;obtain⟨p,F,rfl,e,k⟩:=h;refine U ?_;try clear U
    have a:=Uu.nd;refine⟨_,(CG (Bc (BK Ca (Ef K (Av 0) AM) A6 (BL _)) (Ac (BA (CJ AQ))) Bt) (Ac (BA (Ja (OR (K:=K)) (by rfl) T.ip Jj (AG (GV (KN (K:=K)) (Av 0) (FQ AM) (FQ (A9 D N (AG (Av 0) AQ)))) AQ))))),?_⟩;refine AB λU=>?_;obtain⟨I,M,X⟩:=e.cx (K:=K);refine U ?_;try clear U
    refine⟨_,rfl,p,_,_,_,rfl,rfl,I,M,rfl,_,rfl,EO (i:=0) rfl (λC=>?_) λC=>?_⟩
    . have W:F.aw=[]:=by cases F<;>first|rfl|cases C
      exact⟨Bd _,λl J=>k l _ ((CS H).cb J) J (by rw[W];exact Az)⟩
    . have W:EF (F.mz.map Al) (AA 2) (AA F.afl)=F.aw.map AH.str:=by cases F<;>first|rfl|exact absurd rfl C
      refine⟨_,rfl,_,rfl,_,rfl,p,F,rfl,e,_,rfl,p,_,rfl,I,?_,λR Z=>⟨R,_,rfl,.inr (Ao Az),λl J=>k l _ (((CS H).cb Z).cb J) (by have Y:=J;rw[BC (B6 Az Y).symm]at J;exact J) ?_⟩⟩
      . rintro⟨q,_⟩;have J:3<=(F.mz.map Al).length:=by cases F<;>exact BF rfl
        have b:=(Lw (F.mz.map Al).length 0 2).symm.trans q;(first|lia|omega)
      .rw[Az,W]
noncomputable abbrev DS:=Int×AJ×Int
noncomputable def DT(i:DS):List AR:=[.inl i.1,.inr i.2.1,.inl i.2.2]
noncomputable abbrev CA:=Int×AJ×AJ×Int
noncomputable def Ey(e:CA):List AR:=[.inl e.1,.inr e.2.1,.inr e.2.2.1,.inl e.2.2.2]
noncomputable def Kq(e:CA):DS:=(e.1,e.2.2.1,e.2.2.2)
noncomputable def Zf(H:AN)(p:AI)(e:CA):Prop:=H p=AA (.tup ((Ey e).map Al))
noncomputable def To(H:AN)(c:AI)(L:List DS):Prop:=∃D,H c=AA (.lst D)/\Bv H D (L.map DT)
noncomputable def JG(H:AN)(l:AI)(evs:List CA):Prop:=∃D,H l=AA (.lst D)/\Bv H D (evs.map Ey)
noncomputable abbrev Ap:=DS×List Int
noncomputable def IL(H:AN)(x:AH)(i:Ap):Prop:=∃a p,x=.ref a/\H a=AA (.tup [.int i.1.1,.str i.1.2.1,.int i.1.2.2,.ref p])/\H p=AA (.tup (i.2.map AH.int))
noncomputable def EN(H:AN)(xs:List AH)(M:List Ap):Prop:=Bm (IL H) xs M
noncomputable def GL(H:AN)(l:AI)(M:List Ap):Prop:=∃D,H l=AA (.lst D)/\EN H D M
noncomputable def HF(D:List Int):Prop:=D.Pairwise (.<.)/\(∀k∈D,0<=k/\k<20)/\D≠[]
noncomputable def Hh(M:List Ap):Prop:=∀i∈M,HF i.2
theorem IL.ae(h:IL H x i)(t:CM H D):IL D x i:=let⟨a,p,e,F,J⟩:=h;⟨a,p,e,t _ _ F,t _ _ J⟩
theorem EN.ae(h:EN H xs M)(t:CM H D):EN D xs M:=GU (λ_ _ q=>q.ae t) h
theorem EN.bj{xs:List AH}{M:List Ap}(h:EN H xs M):xs.length=M.length:=(C5 h).1
theorem GL.bf(h:GL H l M)(s:Ak H D):GL D l M:=let⟨F,e,q⟩:=h;⟨F,s _ _ e,q.ae s.tp⟩
theorem JG.bf(h:JG H l M)(s:Ak H D):JG D l M:=let⟨F,e,q⟩:=h;⟨F,s _ _ e,q.ae s.tp⟩
theorem EN.ix(h:EN H xs M){i:Nat}(e:xs[i]?=AA x):∃m,M[i]?=AA m/\IL H x m:=by obtain⟨l,f⟩:=C5 h;have F:=(Bh.mp e).1;have D:=B8 (show i<M.length by(first|lia|omega));exact⟨_,D,f i x _ e D⟩
theorem cL{k:Nat}(h:k<20):HF [(k:Int)]:=⟨by simp,λn D=>by rw[Bl.mp D];(first|lia|omega),by simp⟩
theorem HF.nd{D:List Int}(h:HF D):D.Nodup:=h.1.imp λh e=>by(first|lia|omega)
theorem Ub:∀{ks js:List Int},ks.Nodup->(∀z∈ks,z∈js)->ks.length<=js.length|[],_,_,_=>Bd _|k::ks,js,W,h=>by obtain⟨U,V⟩:=M1.mp W;have D:k∈js:=h k D6;have J:=Ub (js:=js.erase k) V λz F=>(List.mem_erase_of_ne (λe=>U (by rw[<-e];exact F))).mpr (h z (E5 _ F));rw[List.length_erase_of_mem D]at J;have:=wG D;rw[FT];(first|lia|omega)
theorem HF.bj{D:List Int}(h:HF D):D.length<=20:=by
 have:=Ub (js:=(DY 20).map λn:Nat=>(n:Int)) h.nd λz F=>by obtain⟨a,b⟩:=h.2.1 z F;exact BH.mpr ⟨z.toNat,M0.mpr (by(first|lia|omega)),by(first|lia|omega)⟩
 simpa using this
theorem fS(h:(AW H p o) l=AD):H l=AD:=by have D:l≠p:=(B6 Az h).symm;rw[BC D]at h;exact h
noncomputable def E1(k:AJ)(e:CA):List DS:=if e.2.1=k then[Kq e]else[]
noncomputable def eP:Ba:=λF H Q _=>P0 (λ(p q:AI)(n k:AJ)(e:CA)=>F=[.ref p,.ref q]) (λp _ n k _=>Bj H p (.take n k)) (λ_ q _ _ e=>Zf H q e) (λ_ _ _ k e=>∀l D,Ak H D->H l=AD->To D l (E1 k e)->Q (.ref l) D)
theorem bV{K:Ar}{B:Kk}(T:B0 K M B):BW P w K M base Bs 1 B.xw B.yi ["step","event"] eP:=by
  refine T.aaw.ok U8 (λN H Q E h=>?_) (λG A Z s H N Q E O h=>?_)
  . refine AB λJ=>?_;obtain⟨p,q,n,k,e,rfl,_⟩:=h;refine J ?_;try clear J
    rfl
  . refine AB λJ=>?_;obtain⟨p,q,n,U,⟨t,V,z,D⟩,rfl,e,L,k⟩:=h;refine J ?_;try clear J
    have R:=U8.nd;refine⟨_,(Ac (BA (Oo (BK Ca (Ay K (AE 1) AM) (Ay K (AE 0) AM) (BL _)) (CJ (AG (CL (AG (Ay K (AE 1) AM) (AG (Ay K (AE 1) AM) (AG (Ay K (AE 1) AM) AQ)))) AQ)) (CJ AQ)))),?_⟩;have I:Bw K H p _:=Ao e;have W:Bw K H q _:=Ao L;refine⟨_,_,W,Ag (j:=1) rfl,_,_,I,Ag (j:=2) rfl,rfl,_,rfl,LB (λh=>?_) λh=>?_⟩
    . refine⟨_,_,W,Ag (j:=0) rfl,_,_,W,Ag (j:=2) rfl,_,_,W,Ag (j:=3) rfl,BF rfl,λC Y=>⟨BF rfl,λl F=>k l _ (((CS H).cb Y).cb F) (fS F) ⟨[.ref C],Az,?_⟩⟩⟩;show Bv _ [.ref C] ((E1 U (t,V,z,D)).map DT);rw[show E1 U (t,V,z,D)=[(t,z,D)]from ABo h];exact(Fq _).ft (ks:=DT (t,z,D)) (by rw[BC (B6 Az F)];exact Az)
    . refine⟨Bd _,λl F=>k l _ ((CS H).cb F) F ⟨[],Az,?_⟩⟩;show Bv _ [] ((E1 U (t,V,z,D)).map DT);rw[show E1 U (t,V,z,D)=[]from ABn h];exact Fq _
noncomputable def Ho(k:AJ)(evs:List CA):List Ap:=evs.zipIdx.flatMap λp=>(E1 k p.1).map λx=>(x,[(p.2:Int)])
theorem fM(k:AJ)(evs:List CA)(e:CA):Ho k (evs++[e])=Ho k evs++(E1 k e).map λx=>(x,[(evs.length:Int)]):=by unfold Ho;rw[List.zipIdx_append,v7];congr 1;simp
theorem fN(k:AJ)(e:CA):(E1 k e).length<=1:=by unfold E1;split<;>simp
noncomputable def eQ:Ba:=λJ H Q _=>T2 (λ(p l:AI)(n k:AJ)(D:List CA)=>J=[.ref p,.ref l]) (λp _ n k _=>Bj H p (.take n k)) (λ_ l _ _ D=>JG H l D) (λ_ _ _ _ D=>D.length<=20) (λ_ _ _ k D=>∀r F,Ak H F->H r=AD->GL F r (Ho k D)->Q (.ref r) F)
theorem bW{K:Ar}{ad:Kk}(T:B0 K mg ad):BW P w K mg base Bs 2 ad.kx ad.mj ["step","events"] eQ:=by
  have G_taken:=gF.mk (bV (P:=P) (w:=w) (base:=base) T) T.adm T.aaw.kp T.adf;refine T.ue.ok U9 (λvs H Q E h=>?_) (λcdv A outer s H vs Q E hr h=>?_)
  . refine AB λnG=>?_;obtain⟨p,l,n,k,evs,rfl,_⟩:=h;refine nG ?_;try clear nG
    rfl
  . refine AB λnG=>?_;obtain⟨p,l,n,kd,evs,rfl,st,⟨xs,el,hw⟩,le,k⟩:=h;refine nG ?_;try clear nG
    have nd:=U9.nd;refine⟨_,(Aq (Ax 2 nd (CJ AQ)) (Aq (Dp Dr rfl (KL (K:=K) (by rfl) T.bu (AE 1)) (GX rfl (DC (Cr 3 nd) (DC (Cr 4 nd) GY))) (Ac (E4 (D4 (LM (K:=K) YI YJ rE Rf (AE 2) (AG (Ee (A7 Nv) [("place",3)] ⟨rfl,rfl,trivial⟩ (Cm (K:=K) (A9 G_taken hr (AG (AE 0) (AG (AE 4) AQ)))) (λ_ _ _ _=>F5) (λ_ _ _ _=>(AS (Rj (K:=K)) (AE 0) (CL (AG (CL (AG (AE 1) AQ)) AQ))))) AQ)))))) (Ac (BA (AE 2))))),?_⟩;have sz:An=16777216:=Dg;have lx:=hw.bj;rw[Am]at lx;refineλ_ _ _ _ z1=>⟨Bd _,λil hil=>z1 _ _ ?_⟩;refine As (o:=.lst []) hil λH0 s0 eil=>?_;refineλ_ _ _ _ z2=>⟨l,rfl,⟨_,AV (s0 _ _ el)⟩,MW (K:=K) (xs:=xs) (λm σ H'=>Hk (λ(o3 o4:Option AH)(acc:List AH)=>σ=[AA (.ref p),AA (.ref l),AA (.ref il),o3,o4]) (λ_ _ _=>Ak H H') (λ_ _ acc=>H' il=AA (.lst acc)) (λ_ _ acc=>EN H' acc (Ho kd (evs.take m))) (λ_ _ acc=>acc.length<=m)) ⟨AD,AD,[],rfl,s0,eil,.nil,Af _⟩ (λm σ H' _ hh=>by obtain⟨_,_,_,_,s',_⟩:=hh;exact AV (s' _ _ el)) ?_ ?_⟩
    . intro m x σ H1 pp hx hI hpp;refine AB λnG=>?_;obtain⟨o3,o4,acc,rfl,s1,ei1,st1,la1⟩:=hI;obtain⟨b,ks,rfl,ek,eb⟩:=hw.at hx;rw[BV]at ek;obtain⟨e,ee,rfl⟩:=Co.mp ek;refine nG ?_;try clear nG
      have hm:m<evs.length:=(Bh.mp ee).1;have t1:=Cz (o:=.tup [.int (m:Int),.ref b]) hpp;refine⟨pp,_,rfl,Ao Az,rfl,_,_,rfl,_,_,rfl,rfl,?_⟩;generalize AW H1 pp (.tup [.int (m:Int),.ref b])=H2 at t1⊢;have s2:=s1.aa t1;refineλ_ _ _ _ z3=>⟨.inl ⟨rfl,_,AV (t1 _ _ ei1)⟩,p,b,n,kd,e,rfl,s2 _ _ st,s2 _ _ eb,λl2 H3 t2 hl2⟨zs,ez,rz⟩=>⟨l2,rfl,⟨_,AV ez⟩,?_⟩⟩;have s3:=s2.aa t2;have lz:zs.length<=1:=by rw[rz.bj,Am];exact fN _ _
      have hil3:H3 il=AA (.lst acc):=t2 _ _ (t1 _ _ ei1);refine Gy (K:=K) (xs:=zs) (λj τ acc' H'=>(∃o,τ=[o,AA (.int (m:Int))])/\Ak H3 H'/\EN H' acc' (((E1 kd e).take j).map λi=>(i,[(m:Int)]))) (by(first|lia|omega)) ⟨⟨AD,rfl⟩,CS _,.nil⟩ (λj τ acc' H'⟨_,s',_⟩=>AV (s' _ _ ez)) ?_ ?_
      . intro j y τ acc' H4 R1 hy _ hI k1;refine AB λnG=>?_;obtain⟨⟨o,rfl⟩,t3,sm⟩:=hI;obtain⟨c,ks,rfl,ek,ec⟩:=rz.at hy;rw[BV]at ek;obtain⟨i,ei,rfl⟩:=Co.mp ek;refine nG ?_;try clear nG
        refine⟨BF rfl,λq1 hq1=>⟨BF rfl,λq2 hq2=>?_⟩⟩;have u1:=Cz (o:=.tup [.int (m:Int)]) hq1;have f1:(AW H4 q1 (.tup [.int (m:Int)])) q1=AA (.tup [.int (m:Int)]):=Az;generalize AW H4 q1 (.tup [.int (m:Int)])=H5 at u1 f1 hq2⊢;refine As (o:=.tup [.ref q1]) hq2 λH6 u2 f2=>?_;have u3:=t3.aa (u1.aa u2);refine⟨c,q2,_,_,rfl,rfl,Ao (u3 _ _ ec),Ao f2,(by intro h;cases h),BF rfl,(λh=>by cases h),λ_ p3 hp3=>?_⟩;have u4:=Cz (o:=.tup ((DT i).map Al++[.ref q1])) hp3;have f4:(AW H6 p3 (.tup ((DT i).map Al++[.ref q1]))) p3=AA (.tup ((DT i).map Al++[.ref q1])):=Az;refine k1 _ _ _ ⟨⟨_,rfl⟩,u3.aa u4,?_⟩;have tk:(E1 kd e).take (j+1)=(E1 kd e).take j++[i]:=by rw[DD,ei];rfl
        rw[tk,Bx];exact D3 (sm.ae ((u1.aa u2).aa u4).tp) (.cons ⟨p3,q1,rfl,f4,(u2.aa u4) _ _ f1⟩ .nil)
      . intro τ acc' H4 la' hI D hD;refine AB λnG=>?_;obtain⟨_,t3,sm⟩:=hI;refine nG ?_;try clear nG
        have hz:zs.length=(E1 kd e).length:=by rw[rz.bj,Am]
        rw[hz,Cn (Af _)]at sm;refine As (o:=.lst acc') hD λH5 t4 eD=>?_;have t35:=t3.aa t4;have e5:=t35 _ _ hil3;have tp:CM H5 (AW H5 il (.lst (acc++acc'))):=(ER H5).cb e5 λxs=>by intro z;cases z
        have l1:(evs.take m).length=m:=by rw[Eh];(first|lia|omega)
        refine⟨il,D,_,_,rfl,rfl,e5,eD,by(first|lia|omega),z3 _ _ ⟨_,_,acc++acc',rfl,(s3.aa t35).dw hil,Az,?_,by rw[CY];(first|lia|omega)⟩⟩;rw[DD,ee];show EN _ _ (Ho kd (evs.take m++[e]));rw[fM,l1];exact D3 ((st1.ae (t1.aa (t2.aa t35)).tp).ae tp) ((sm.ae t4.tp).ae tp)
    . intro σ H1 hI;refine AB λnG=>?_;obtain⟨o3,o4,acc,rfl,s1,ei1,st1,la1⟩:=hI;refine nG ?_;try clear nG
      rw[lx,Cn (Af _)]at st1;exact z2 _ _ (k il _ s1 hil ⟨acc,ei1,st1⟩)
theorem Zv(xs:List AH)(n m:Nat)(h:n<=xs.length)(J:m<=xs.length):EF xs (AA (n:Int)) (AA (m:Int))=(xs.drop n).take (m-n):=by
 unfold EF;have D:∀d,BJ xs.length d (AA (m:Int))=m:=λd=>by show(if(m:Int)<0 then((m:Int)+(xs.length:Int)).toNat else Dd (m:Int).toNat xs.length)=m;rw[ABn (by(first|lia|omega))];(first|lia|omega)
 have F:∀d,BJ xs.length d (AA (n:Int))=n:=λd=>by show(if(n:Int)<0 then((n:Int)+(xs.length:Int)).toNat else Dd (n:Int).toNat xs.length)=n;rw[ABn (by(first|lia|omega))];(first|lia|omega)
 rw[D,F]
noncomputable def Tq(H:AN)(x:AH)(t:Int):Prop:=∃a r,x=.ref a/\H a=AA (.tup (.int t::r))
noncomputable def dC:Ba:=λU H Q _=>J2 (λ(r J:AI)(F:List AH)(D:List Int)(m:Int)=>U=[.ref r,.ref J]) (λr _ F _ _=>H r=AA (.lst F)) (λ_ _ F D _=>Bm (Tq H) F D) (λ_ _ _ D _=>D.Pairwise (.<=.)) (λ_ J _ _ m=>H J=AA (.tup [.int m])) (λ_ _ _ D m=>∀k:Nat,k<=D.length->(∀(i:Nat)t,i<k->D[i]?=AA t->t<m)->(∀(i:Nat)t,k<=i->D[i]?=AA t->m<=t)->Q (.int (k:Int)) H)
theorem aI(t b:Int):CQ [.inl t] [.inl b]=AZ (t<b):=by
 show(if(BP t:AR)=BP b then AO else AZ (t<b))=_;split
 . rename_i e;have e:=Gn e;rw[e];exact(ABr (vL b)).symm
 .rfl
theorem Vn{F:List Int}(h:F.Pairwise (.<=.)){i j:Nat}{a b:Int}(Z:i<=j)(J:F[i]?=AA a)(D:F[j]?=AA b):a<=b:=by
  by_cases e:i=j
  . subst e;rw[J]at D;cases D;exact Jv _
  . refine AB λU=>?_;obtain⟨Y,V⟩:=Bh.mp J;obtain⟨q,W⟩:=Bh.mp D;refine U ?_;try clear U
    have:=Je.mp h i j Y q (by(first|lia|omega));rw[V,W]at this;exact this
theorem aT{K:Ar}{t:Kk}(T:B0 K mg t):BW P w K mg base Bs 1 t.xv t.yh ["rows","mark"] dC:=by
  refine T.aav.ok Uq (λvs H Q E h=>?_) (λcdv A g s H vs Q E hr h=>?_)
  . refine AB λJ=>?_;obtain⟨r,f,n,U,m,rfl,_⟩:=h;refine J ?_;try clear J
    rfl
  . refine AB λJ=>?_;obtain⟨r,f,n,U,l,rfl,y,hw,up,em,k⟩:=h;refine J ?_;try clear J
    have Z:=Uq.nd;refine⟨_,(CG (Ax 2 Z AM) (CG (Ax 3 Z (CN (OQ (K:=K)) (by rfl) T.ke ID (AG (Av 0) AQ))) (CG (R5 Dr (BK Rp (Av 2) (Av 3) (BL _)) (CG (Ax 4 Z (AS Rk (AS JX (Av 2) (Av 3)) AM)) (Ac (Bc (BK (kJ (K:=K) hr.jz) (R6 K (Av 0) (Av 4)) (Av 1) (BL _)) (Ac (Ax 2 Z (AS JX (Av 4) AM))) (Ac (Ax 3 Z (Av 4))))))) (Ac (BA (Av 2)))))),?_⟩;obtain⟨d,I⟩:=C5 hw;refine⟨_,rfl,r,_,rfl,.inl (AV y),?_⟩;refine oZ (λB o=>o=H/\∃(F D:Nat)(o4:Option AH),B=[AA (.ref r),AA (.ref f),AA (.int (F:Int)),AA (.int (D:Int)),o4]/\F<=D/\D<=U.length/\(∀(i:Nat)p,i<F->U[i]?=AA p->p<l)/\(∀(i:Nat)p,D<=i->U[i]?=AA p->l<=p)) (λB _=>match B with|[_,_,AA (.int F),AA (.int D),_]=>(D-F).toNat|_=>0) ⟨rfl,0,U.length,AD,by rw[d];rfl,Bd _,Af _,λi c h=>by(first|lia|omega),λi c h e=>by have:=(Bh.mp e).1;(first|lia|omega)⟩ ?_ ?_
    . intro B o S;refine AB λJ=>?_;obtain⟨rfl,F,D,o4,rfl,h1,z,h3,h4⟩:=S;refine J ?_;try clear J
      refine⟨_,rfl,_,rfl,_,_,rfl,rfl,_,rfl,F3 (λe=>?_) λe=>?_⟩
      . have e:F<D:=by(first|lia|omega)
        have W:((F:Int)+(D:Int))/2=(((F+D)/2:Nat):Int):=by(first|lia|omega)
        have hm:(F+D)/2<U.length:=by(first|lia|omega)
        have G:U[(F+D)/2]?=AA U[(F+D)/2]:=B8 hm;have O:=B8 (show(F+D)/2<n.length by(first|lia|omega));refine AB λJ=>?_;obtain⟨a,rr,ea,x⟩:=I _ _ _ O G;refine J ?_;try clear J
        rw[ea]at O;generalize U[(F+D)/2]=tm at G x;refine⟨_,rfl,_,rfl,_,_,rfl,rfl,_,_,rfl,rfl,⟨by decide,by decide⟩,?_⟩;have N:C3 n (((F:Int)+(D:Int))/2)=AA (.ref a):=by rw[W];exact Ag O
        refine⟨_,rfl,_,rfl,r,_,_,_,rfl,rfl,AV y,N,_,rfl,a,f,[.inl tm],rr,[.inl l],rfl,rfl,Ao x,Ao em,.inr (Af _),(λi k m M C=>?_),_,rfl,?_⟩
        . have X:i=0:=by have:=(Bh.mp C).1;simp at this;(first|lia|omega)
          subst X;refine AB λJ=>?_;cases M;cases C;refine J ?_;try clear J
          rfl
        rw[aI];refine F3 (λb=>?_) λb=>?_
        . refine⟨_,rfl,_,_,rfl,rfl,⟨rfl,(F+D)/2+1,D,_,by show _=[_,_,AA (AH.int _),_,_];rw[show((((F+D)/2+1:Nat)):Int)=((F:Int)+(D:Int))/2+1 by(first|lia|omega)];rfl,by(first|lia|omega),z,λi c Y L=>?_,h4⟩,?_⟩;. have:=Vn up (by(first|lia|omega)) L G;(first|lia|omega)
          . show((D:Int)-(((F:Int)+(D:Int))/2+1)).toNat<((D:Int)-(F:Int)).toNat;(first|lia|omega)
        . refine⟨_,rfl,⟨rfl,F,(F+D)/2,_,by show _=[_,_,_,AA (AH.int _),_];rw[<-W];rfl,by(first|lia|omega),by(first|lia|omega),h3,λi c Y L=>?_⟩,?_⟩
          . have:=Vn up Y G L;(first|lia|omega)
          . show((((F:Int)+(D:Int))/2)-(F:Int)).toNat<((D:Int)-(F:Int)).toNat;(first|lia|omega)
      . have e:F=D:=by(first|lia|omega)
        subst e;exact⟨_,rfl,k F z h3 h4⟩
    . intro B H1 R R' hR S;refine AB λJ=>?_;obtain⟨v,M,u,C,i,j,e3,e4,b,e5,q⟩:=S;refine J ?_;try clear J
      exact⟨v,M,u,C,i,j,e3,e4,b,e5,hR _ _ q⟩
noncomputable def J0(H:AN)(x:AH)(i:Ap):Prop:=∃a p,x=.ref a/\H a=AA (.tup [.int i.1.1,.int i.1.2.2,.ref p])/\H p=AA (.tup (i.2.map AH.int))
noncomputable def Fw(H:AN)(xs:List AH)(N:List Ap):Prop:=Bm (J0 H) xs N
theorem J0.ae(h:J0 H x i)(t:CM H D):J0 D x i:=let⟨a,p,e,F,J⟩:=h;⟨a,p,e,t _ _ F,t _ _ J⟩
theorem Fw.ae(h:Fw H xs M)(t:CM H D):Fw D xs M:=GU (λ_ _ q=>q.ae t) h
theorem Fw.xr:∀{xs:List AH}{N:List Ap},Fw H xs N->Bm (Tq H) xs (N.map λi=>i.1.1)|_,_,.nil=>.nil|_,_,.cons ⟨a,p,e,D,_⟩ r=>.cons ⟨a,_,e,D⟩ (Fw.xr r)
noncomputable def JJ(N:List Ap):Prop:=(N.map λi=>i.1.1).Pairwise (.<=.)
noncomputable def DM(lo hi:Int)(i:Ap):Bool:=AZ (lo<=i.1.1/\i.1.1<hi)
noncomputable def dE:Ba:=λY H Q _=>J2 (λ(r:AI)(U:List AH)(N:List Ap)(F D:Int)=>Y=[.ref r,.int F,.int D]) (λr U _ _ _=>H r=AA (.lst U)) (λ_ U N _ _=>Fw H U N) (λ_ _ N _ _=>JJ N) (λ_ _ _ F D=>F<=D) (λ_ _ N F D=>∀l J W,Ak H J->H l=AD->J l=AA (.lst W)->Fw J W (N.filter (DM F D))->Q (.ref l) J)
theorem Ud{K:Ar}{M:Kk}(T:B0 K v M):BW P w K v base Bs 2 M.qz M.rq ["row","low","high"] dE:=by
  have D:=gF.mk (aT (P:=P) (w:=w) (base:=base) T) T.adl T.aav.kp T.ade;refine T.qx.ok Ur (λvs H Q E h=>?_) (λf A I s H vs Q E O h=>?_)
  . refine AB λJ=>?_;obtain⟨r,U,N,W,V,rfl,_⟩:=h;refine J ?_;try clear J
    rfl
  . refine AB λJ=>?_;obtain⟨r,U,N,W,V,rfl,q,hw,X,lh,k⟩:=h;refine J ?_;try clear J
    have nd:=Ur.nd;refine⟨_,(Ac (BA (GV (Ow (K:=K)) (Av 0) (FQ (A9 D O (AG (Av 0) (AG (CL (AG (Av 1) AQ)) AQ)))) (FQ (A9 D O (AG (Av 0) (AG (CL (AG (Av 2) AQ)) AQ))))))),?_⟩;have u:=(C5 hw).1;refine⟨_,rfl,_,rfl,_,rfl,BF rfl,λy C=>?_⟩;refine As (o:=.tup [.int W]) C λH1 s1 Y=>?_;refine⟨r,y,U,_,W,rfl,s1 _ _ q,(hw.ae s1.tp).xr,X,Y,λn p a b=>⟨_,rfl,?_⟩⟩;refine⟨_,rfl,_,rfl,BF rfl,λp2 G=>?_⟩;refine As (o:=.tup [.int V]) G λH2 s2 Z=>?_;have F:=s1.aa s2;refine⟨r,p2,U,_,V,rfl,F _ _ q,(hw.ae F.tp).xr,X,Z,λm j c d=>⟨_,rfl,?_⟩⟩;rw[Am]at p j;refine⟨r,U,rfl,AV (F _ _ q),λl B=>?_⟩;rw[Zv U n m (by(first|lia|omega)) (by(first|lia|omega))];have L:∀(i:Nat)x,N[i]?=AA x->(N.map λi=>i.1.1)[i]?=AA x.1.1:=λi x e=>by rw[BV,e];rfl
    have g:(N.drop n).take (m-n)=N.filter (DM W V):=OU λi x e=>by
      unfold DM;rw[decide_eq_true_iff];have t:=L i x e;constructor
      . rintro⟨R,S⟩;refine⟨wU λz=>?_,Nat.lt_of_not_le λz=>?_⟩;.have:=a i _ z t;(first|lia|omega)
        .have:=d i _ z t;(first|lia|omega)
      . rintro⟨R,S⟩;exact⟨b i _ R t,c i _ S t⟩
    refine k l _ _ (F.cb B) (F.ar B) Az ?_;rw[<-g];exact Rt _ (Rq _ (hw.ae (F.cb B).tp))
theorem Vp{kvs:List (AR×AH)}(q:(kvs.map (·.1)).Nodup)(h:(k,v)∈kvs):CI kvs k=AA v:=by
 refine AB λW=>?_;obtain⟨v2,D⟩:=SI (BH.mpr ⟨_,h,rfl⟩:k∈kvs.map (·.1));have J:=LW D;obtain⟨i,Y,U⟩:=F8.mp h;obtain⟨j,Z,F⟩:=F8.mp J;refine W ?_;try clear W
 have:=(SU (xs:=kvs.map (·.1)) (i:=i) (j:=j) (h₀:=by simpa using Y) (h₁:=by simpa using Z) q).mp (by simp[U,F]);subst this;rw[U]at F;rw[D];exact ABp AA (ABp X8 F).symm
noncomputable def P8(i:Ap):List AR:=DT i.1++i.2.map BP
theorem fF{K:Ar}{M:List Ap}(h:EN H xs M):∃D:List Fh,D.map Fn=M.map P8/\OJ K H xs D [AF,AO,AF]:=by
 have A:∀{xs:List AH}{M:List Ap},EN H xs M->∃D:List Fh,D.map Fn=M.map P8/\Bm (λx(d:Fh)=>(∃a,x=.ref a/\Bw K H a (d.1.map Al++d.2.1.map AH.ref))/\d.1.map DP=[AF,AO,AF]) xs D/\∀d∈D,∃(p:AI)(U:List Int),d.2.1=[p]/\d.2.2=U.map BP/\Bw K H p (U.map AH.int):=by intro xs M h;induction h with |nil=>exact⟨[],rfl,.nil,λd F=>by cases F⟩|cons P _ Q=>
  obtain⟨D,e,p,q⟩:=Q;rename_i x i _ _ _;obtain⟨a,W,O,Y,Z⟩:=P;refine⟨(DT i.1,[W],i.2.map BP)::D,by rw[Cu,Cu,e];rfl,.cons ⟨⟨a,O,Ao Y⟩,rfl⟩ p,λd F=>?_⟩;rcases B7.mp F with rfl|F;.exact⟨W,i.2,rfl,rfl,Ao Z⟩
  .exact q d F
 refine AB λJ=>?_;obtain⟨D,e,p,q⟩:=A h;refine J ?_;try clear J
 refine⟨D,e,by decide,p,λi j d N Y Z _=>.inr ?_⟩;refine AB λJ=>?_;obtain⟨W,U,B,C,E⟩:=q d (B9 Y);obtain⟨S,R,G,I,L⟩:=q N (B9 Z);refine J ?_;try clear J
 exact⟨W,S,U,R,B,G,C,I,E,L⟩
theorem QL{xs:List AH}{M:List U}(h:Bm F xs M){A:List (AH×List AR)}(p:A.Perm (xs.zip (M.map f))):∃W:List U,W.Perm M/\Bm F (A.map (·.1)) W/\W.map f=A.map (·.2):=by
 have Y:Bm (λ(q:AH×U)(b:AH×List AR)=>q.1=b.1/\b.2=f q.2/\F q.1 q.2) (xs.zip M) (xs.zip (M.map f)):=by clear p;induction h with|nil=>exact .nil|cons D _ J=>exact .cons ⟨rfl,rfl,D⟩ J
 refine AB λB=>?_;obtain⟨E,Z,C⟩:=Rr p Y;refine B ?_;try clear B
 refine⟨E.map (·.2),?_,?_,?_⟩;. have:=Z.map (·.2);rwa[SY (by have:=(C5 h).1;(first|lia|omega))]at this
 . clear Z p Y;induction C with |nil=>exact .nil|cons D _ J=>exact .cons (by have q:=D.2.2;rw[D.1]at q;exact q) J
 . clear Z p Y;induction C with|nil=>rfl|cons D _ J=>rw[Cu,Cu,Cu,J,D.2.1]
theorem Z1{M:List Ap}(h:(M.map P8).Pairwise λa b=>CQ b a=AO):JJ M:=by
 unfold JJ;rw[F9]at h⊢;refine h.imp λ{a b}q=>?_;have q:(if(BP b.1.1:AR)=BP a.1.1 then _ else AZ (b.1.1<a.1.1))=AO:=q;by_cases e:b.1.1=a.1.1;. (first|lia|omega)
 . rw[ABn (λz=>e (Gn z))]at q;have:=ABv q;(first|lia|omega)
noncomputable def Zi(H:AN)(M:List Ap)(q:AR×AH):Prop:=∃(z:AJ)(r:AI)(D:List AH),q=(.inr z,.ref r)/\H r=AA (.lst D)/\Fw H D (M.filter λi=>AZ (i.1.2.1=z))
structure IP(H0 H:AN)(d:AI)(M:List Ap)(kvs:List (AR×AH)):Prop where
 pj:H d=AA (.dK kvs)nd:(kvs.map (·.1)).Nodup
 bj:kvs.length<=M.length
 aef:∀q∈kvs,Zi H M q
 abx:∀z r,(CP z,AH.ref r)∈kvs->H0 r=AD
 uz:∀z z' r,(CP z,AH.ref r)∈kvs->(CP z',AH.ref r)∈kvs->z=z'
 vx:∀i∈M,(CP i.1.2.1:AR)∈kvs.map (·.1)
theorem IP.at{M:List Ap}(h:IP U H d M kvs)(z:AJ):(CI kvs (.inr z)=AD/\(M.filter λi=>AZ (i.1.2.1=z))=[])\/∃r xs,CI kvs (.inr z)=AA (.ref r)/\H r=AA (.lst xs)/\Fw H xs (M.filter λi=>AZ (i.1.2.1=z)):=by cases F:CI kvs (.inr z)with |none=> refine .inl ⟨rfl,List.filter_eq_nil_iff.mpr λi Y q=>?_⟩;have q:=ABs q;obtain⟨v,D⟩:=SI (h.vx i Y);rw[q,F]at D;cases D|some v=>
 refine AB λJ=>?_;obtain⟨Z,r,xs,e,W,w⟩:=h.aef _ (LW F);cases e;refine J ?_;try clear J
 exact .inr ⟨r,xs,rfl,W,w⟩
theorem IP.bf(h:IP F H d M kvs)(s:Ak H D):IP F D d M kvs:={h with pj:=s _ _ h.pj,aef:=λq U=>let⟨z,r,W,e,J,w⟩:=h.aef q U;⟨z,r,W,e,s _ _ J,w.ae s.tp⟩}
theorem Nh{M:List Ap}{i:Ap}(z:AJ):((M++[i]).filter λi=>AZ (i.1.2.1=z))=(M.filter λi=>AZ (i.1.2.1=z))++if i.1.2.1=z then[i]else[]:=by
 rw[Mu,KP];by_cases h:i.1.2.1=z;.rw[ABo (ABq h),ABo h];rfl
 .rw[ABn (λq=>h (ABs q)),ABn h];rfl
theorem IP.aer{i:Ap}(h:IP B H d M kvs)(G:CI kvs (.inr i.1.2.1)=AA (.ref r))(K:H r=AA (.lst xs))(L:D d=AA (.dK kvs))(W:D r=AA (.lst (xs++[.ref t])))(O:∀b ys,b≠r->H b=AA (.lst ys)->D b=AA (.lst ys))(I:CM H D)(N:J0 D (.ref t) i):IP B D d (M++[i]) kvs:=by
  have E:=LW G;refine⟨L,h.nd,by rw[CY];have:=h.bj;(first|lia|omega),λq Z=>?_,h.abx,h.uz,λj F=>?_⟩
  . refine AB λJ=>?_;obtain⟨z,A,ys,rfl,U,w⟩:=h.aef q Z;refine J ?_;try clear J
    by_cases Y:i.1.2.1=z
    . subst Y;have:AH.ref A=AH.ref r:=by have C:=Vp h.nd Z;rw[G]at C;exact(De C).symm
      refine AB λJ=>?_;cases this;rw[K]at U;cases U;refine J ?_;try clear J
      refine⟨_,r,xs++[.ref t],rfl,W,?_⟩;rw[Nh,ABo rfl];exact D3 (w.ae I) (.cons N .nil)
    . have P:A≠r:=λe=>by subst e;exact Y (h.uz _ _ _ E Z)
      refine⟨z,A,ys,rfl,O _ _ P U,?_⟩;rw[Nh,ABn Y,Eg];exact w.ae I
  . rcases CT.mp F with F|F;.exact h.vx j F
    . rw[Bl.mp F];exact BH.mpr ⟨_,E,rfl⟩
theorem IP.az{i:Ap}(h:IP G H d M kvs)(O:CI kvs (.inr i.1.2.1)=AD)(N:G r=AD)(T:H r=AD)(S:W d=AA (.dK (Bq kvs (.inr i.1.2.1) (.ref r))))(K:W r=AA (.lst [.ref t]))(a:∀b ys,H b=AA (.lst ys)->W b=AA (.lst ys))(f:CM H W)(X:J0 W (.ref t) i):IP G W d (M++[i]) (Bq kvs (.inr i.1.2.1) (.ref r)):=by
  have U:(M.filter λj=>AZ (j.1.2.1=i.1.2.1))=[]:=by
    rcases h.at i.1.2.1 with⟨_,e⟩|⟨D,g,e,_⟩;.exact e
    .rw[O]at e;cases e
  refine⟨S,Ww h.nd,?_,λq A=>?_,λz D A=>?_,λz l D A B=>?_,λj Y=>?_⟩
  . rw[CY];have:=h.bj;have:=Ra kvs (.inr i.1.2.1) (.ref r);simp only[FT,Jd];(first|lia|omega)
  . rcases Me A with rfl|⟨F,L⟩
    . refine⟨_,r,[.ref t],rfl,K,?_⟩;rw[Nh,ABo rfl,U];exact .cons X .nil
    . refine AB λP=>?_;obtain⟨z,D,ys,rfl,E,w⟩:=h.aef q F;refine P ?_;try clear P
      have R:i.1.2.1≠z:=λe=>L (by rw[e]);refine⟨z,D,ys,rfl,a _ _ E,?_⟩;rw[Nh,ABn R,Eg];exact w.ae f
  . rcases Me A with e|⟨F,_⟩;.cases e;exact N
    .exact h.abx z D F
  . have C:∀{z D},(CP z,AH.ref D)∈kvs->D≠r:=λ{z D}F e=>by obtain⟨_,_,_,Q,E,_⟩:=h.aef _ F;cases Q;rw[e,T]at E;cases E
    rcases Me A with e|⟨F,_⟩
    . rcases Me B with I|⟨J,_⟩;.cases e;cases I;rfl
      .cases e;exact absurd rfl (C J)
    . rcases Me B with I|⟨J,_⟩;.cases I;exact absurd rfl (C F)
      .exact h.uz _ _ _ F J
  . have:∀k,k∈kvs.map (·.1)\/k=.inr i.1.2.1->k∈(Bq kvs (.inr i.1.2.1) (.ref r)).map (·.1):=λk Z=>by
      obtain⟨v,O⟩:∃v,CI (Bq kvs (.inr i.1.2.1) (.ref r)) k=AA v:=by
        rw[SJ];split;.exact⟨_,rfl⟩
        . rename_i c;rcases Z with Z|Z;.exact SI Z
          .exact absurd Z c
      exact BH.mpr ⟨_,LW O,rfl⟩
    rcases CT.mp Y with Y|Y;.exact this _ (.inl (h.vx j Y))
    . rw[Bl.mp Y];exact this _ (.inr rfl)
noncomputable def dG:Ba:=λU H Q _=>L3 (λ(l:AI)(M:List Ap)=>U=[.ref l]) (λl M=>GL H l M) (λ_ M=>M.length<=1000) (λ_ M=>∀d D F J,Ak H D->H d=AD->F.Perm M->JJ F->IP H D d F J->Q (.ref d) D)
theorem Ue{K:Ar}{ad:Kk}(T:B0 K mg ad):BW P w K mg base Bs 1 ad.rf ad.sg ["items"] dG:=by
  refine T.qy.ok Us (λvs H Q E h=>?_) (λcdv A outer s H vs Q E hr h=>?_)
  . refine AB λF=>?_;obtain⟨l,M,rfl,_⟩:=h;refine F ?_;try clear F
    rfl
  . refine AB λF=>?_;obtain⟨l,M,rfl,⟨xs,el,hw⟩,lM,k⟩:=h;refine F ?_;try clear F
    have nd:=Us.nd;refine⟨_,(CG (Ax 1 nd Ol) (CG (Dp Dr rfl (Cm (K:=K) (CN (RH (K:=K) hr) (by rfl) T.fu Sl (AG (Av 0) AQ))) (GX rfl (DC (Cr 2 nd) (DC (Cr 3 nd) (DC (Cr 4 nd) (DC (Cr 5 nd) GY))))) (Ac (D4 (Ed K (kY (Av 1) (Av 3) (CJ AQ) ⟨rfl,rfl,rfl,rfl⟩) (AG (CL (AG (Av 2) (AG (Av 4) (AG (Av 5) AQ)))) AQ))))) (Ac (BA (Av 1))))),?_⟩;have sz:An=16777216:=Dg;have lx:=hw.bj;refineλd hd=>?_;refine As (o:=.dK []) hd λH0 s0 ed=>?_;refine AB λF=>?_;obtain⟨ds,eds,so⟩:=fF (K:=K) (hw.ae s0.tp);refine F ?_;try clear F
    refine⟨_,rfl,l,xs,ds,_,rfl,AV (s0 _ _ el),so,λsl qs hsl pq sq=>?_⟩;rw[eds]at pq;refine AB λF=>?_;obtain⟨L,pM,hw',ek⟩:=QL (hw.ae s0.tp) pq;refine F ?_;try clear F
    rw[<-ek]at sq;have tM:=Z1 sq;have s1:=Cz (o:=.lst (qs.map (·.1))) hsl;have Z:(AW H0 sl (.lst (qs.map (·.1)))) sl=AA (.lst (qs.map (·.1))):=Az;have I:=s0.aa s1;generalize AW H0 sl (.lst (qs.map (·.1)))=H1 at s1 Z I⊢;have hw1:=EN.ae hw' s1.tp;generalize qs.map (·.1)=ys at Z hw1;have ly:ys.length=L.length:=EN.bj hw1;have lM':L.length<=1000:=by rw[pM.length_eq];exact lM
    refine⟨sl,rfl,⟨_,AV Z⟩,Fm (K:=K) (xs:=ys) (λm σ H'=>J2 (λ(o2 o3 o4 o5:Option AH)(D:List (AR×AH))=>σ=[AA (.ref l),AA (.ref d),o2,o3,o4,o5]) (λ_ _ _ _ _=>Ak H H') (λ_ _ _ _ _=>H' sl=AA (.lst ys)) (λ_ _ _ _ _=>Gx d H1 H') (λ_ _ _ _ _=>EN H' ys L) (λ_ _ _ _ D=>IP H1 H' d (L.take m) D)) ⟨AD,AD,AD,AD,[],rfl,I,Z,(CS _).x _,hw1,s1 _ _ ed,.nil,Af _,(λq O=>by cases O),(λz r O=>by cases O),(λz z' r O=>by cases O),λi hi=>by cases hi⟩ (λm σ H' _ hh=>by obtain⟨_,_,_,_,_,_,_,e,_⟩:=hh;exact AV e) ?_ ?_⟩
    . intro m y σ H2 hy hI;refine AB λF=>?_;obtain⟨o2,o3,o4,o5,D,rfl,s2,C,g2,S,R⟩:=hI;obtain⟨i,ei,a,p,rfl,ea,ep⟩:=EN.ix S hy;refine F ?_;try clear F
      have hm:m<L.length:=(Bh.mp ei).1;refine⟨a,_,rfl,Ao ea,rfl,_,_,rfl,_,_,rfl,_,_,rfl,_,_,rfl,rfl,?_⟩;have N:=R.pj;have isd:MJ H2 d:=.inl ⟨D,.inl N⟩;have lkv:=R.bj;rw[Eh]at lkv;have tk:L.take (m+1)=L.take m++[i]:=by rw[DD,ei];rfl
      have nsd:sl≠d:=λz=>by rw[z,N]at C;cases C
      refine⟨_,rfl,d,rfl,isd,_,rfl,Bd _,λJ W=>?_⟩;have t3:=Cz (o:=.lst []) W;have el3:(AW H2 J (.lst [])) J=AA (.lst []):=Az;have ndl:d≠J:=B6 N W;have Y:H1 J=AD:=by cases O:H1 J with |none=>rfl|some o=>
          by_cases e:J=d;.rw[e,N]at W;cases W
          . have:=g2 _ _ e O;rw[W]at this;cases this
      have U:=R.bf t3;generalize AW H2 J (.lst [])=B at t3 el3 U⊢;have s3:=s2.aa t3;refine⟨D,.inr i.1.2.1,U.pj,rfl,by(first|lia|omega),λv hv=>?_,λhv=>?_⟩
      . refine AB λF=>?_;obtain⟨r,n,hv2,er,w⟩:∃r n,CI D (.inr i.1.2.1)=AA (.ref r)/\B r=AA (.lst n)/\Fw B n ((L.take m).filter λj=>AZ (j.1.2.1=i.1.2.1)):=by
          rcases U.at i.1.2.1 with⟨e,_⟩|h;.rw[hv]at e;cases e
          .exact h
        rw[hv]at hv2;cases hv2;refine F ?_;try clear F
        refine⟨.inl ⟨rfl,_,AV er⟩,_,rfl,_,rfl,_,rfl,BF rfl,λt ht=>?_⟩;refine As (o:=.tup [.int i.1.1,.int i.1.2.2,.ref p]) ht λH4 t4 et=>?_;have er4:=t4 _ _ er;have lz:n.length<=1000:=by rw[(C5 w).1];refine DE (Gd _ _) ?_;rw[Eh];(first|lia|omega)
        have f:CM H4 (AW H4 r (.lst (n++[.ref t]))):=(ER H4).cb er4 λxs=>by intro z;cases z
        have hr0:H1 r=AD:=R.abx _ _ (LW hv);have nrd:d≠r:=λz=>by rw[<-z,U.pj]at er;cases er
        have nrs:sl≠r:=B6 Z hr0;refine⟨r,_,_,rfl,rfl,er4,by(first|lia|omega),_,_,_,_,D,rfl,(s3.aa t4).dw (I.ar hr0),?_,(λb o u e=>by rw[BC (B6 e hr0)];exact(t3.aa t4) _ _ (g2 b o u e)),?_,?_⟩;.rw[BC nrs];exact(t3.aa t4) _ _ C
        .exact(S.ae (t3.aa t4).tp).ae f
        . rw[tk];exact U.aer hv er (by rw[BC nrd];exact t4 _ _ U.pj) Az (λb ys u e=>by rw[BC u];exact t4 _ _ e) (t4.tp.aa f) ⟨t,p,rfl,f _ _ et,f _ _ ((t3.aa t4) _ _ ep)⟩
      . have ed4:(AW B d (.dK (Bq D (.inr i.1.2.1) (.ref J)))) d=AA (.dK (Bq D (.inr i.1.2.1) (.ref J))):=Az;have G:∀{b:AI}{n:List AH},B b=AA (.lst n)->(AW B d (.dK (Bq D (.inr i.1.2.1) (.ref J)))) b=AA (.lst n):=λ{b n}e=>by rw[BC (λz=>by rw[z,U.pj]at e;cases e)];exact e
        have c:CM B (AW B d (.dK (Bq D (.inr i.1.2.1) (.ref J)))):=(ER B).cb U.pj λxs=>by intro z;cases z
        have s4:Ak H (AW B d (.dK (Bq D (.inr i.1.2.1) (.ref J)))):=s3.dw hd;have x4:∀b o,b≠d->B b=AA o->(AW B d (.dK (Bq D (.inr i.1.2.1) (.ref J)))) b=AA o:=λb o u e=>by rw[BC u];exact e
        generalize AW B d (.dK (Bq D (.inr i.1.2.1) (.ref J)))=H4 at ed4 G c s4 x4⊢;refine⟨.inl ⟨rfl,_,AV (G el3)⟩,_,rfl,_,rfl,_,rfl,BF rfl,λt ht=>?_⟩;refine As (o:=.tup [.int i.1.1,.int i.1.2.2,.ref p]) ht λH5 X et=>?_;have el5:=X _ _ (G el3);have g:CM H5 (AW H5 J (.lst [.ref t])):=(ER H5).cb el5 λxs=>by intro z;cases z
        have nsl:sl≠J:=B6 Z Y;refine⟨J,_,_,rfl,rfl,el5,by simp;(first|lia|omega),_,_,_,_,Bq D (.inr i.1.2.1) (.ref J),rfl,(s4.aa X).dw (I.ar Y),?_,?_,?_,?_⟩;.rw[X0,BC nsl];exact X _ _ (G (t3 _ _ C))
        .exactλb o u e=>by rw[BC (B6 e Y)];exact X _ _ (x4 b o u (t3 _ _ (g2 b o u e)))
        .exact(S.ae (t3.tp.aa (c.aa X.tp))).ae g
        . rw[tk];exact R.az hv Y W (by rw[BC ndl];exact X _ _ ed4) Az (λb ys e=>by rw[BC (B6 e W)];exact X _ _ (G (t3 _ _ e))) ((t3.tp.aa (c.aa X.tp)).aa g) ⟨t,p,rfl,g _ _ et,g _ _ (X.tp _ _ (c _ _ (t3 _ _ ep)))⟩
    . intro σ H2 hI;refine AB λF=>?_;obtain⟨o2,o3,o4,o5,D,rfl,s2,C,g2,S,R⟩:=hI;refine F ?_;try clear F
      rw[ly,Cn (Af _)]at R;exact⟨_,rfl,k d _ L D s2 hd pM tM {R with abx:=λz r O=>I.ar (R.abx z r O)}⟩
noncomputable def Nl(i j:Int):Int:=if i<j then j else i
noncomputable def Gv(i j:DS):DS:=(Nl i.1 j.1,i.2.1,i.2.2-j.2.2)
noncomputable def EA(wi:Int)(i j:DS):Bool:=AZ (j.2.1=i.2.1/\i.1-wi<=j.1/\j.1<=i.1+wi)
noncomputable def MC:List Int:=(DY 20).map λn:Nat=>(n:Int)
noncomputable def J9(p q:List Int):List Int:=MC.filter λk=>AZ (k∈p\/k∈q)
theorem Uk:MC.Pairwise (.<.):=by unfold MC;rw[F9];exact wL.imp λh=>by(first|lia|omega)
theorem aO:k∈MC↔0<=k/\k<20:=by
  unfold MC;constructor
  . intro h;refine AB λD=>?_;obtain⟨n,F,rfl⟩:=BH.mp h;refine D ?_;try clear D
    have:=M0.mp F;(first|lia|omega)
  . intro h;exact BH.mpr ⟨k.toNat,M0.mpr (by(first|lia|omega)),by(first|lia|omega)⟩
theorem Vo:∀{a b:List Int},a.Pairwise (.<.)->b.Pairwise (.<.)->(∀k,k∈a↔k∈b)->a=b
  |[],[],_,_,_=>rfl|[],y::b,_,_,h=>absurd ((h y).mpr D6) (by simp)|x::a,[],_,_,h=>absurd ((h x).mp D6) (by simp)|x::a,y::b,Y,Z,h=>by
    refine AB λU=>?_;obtain⟨F,V⟩:=X1.mp Y;obtain⟨J,W⟩:=X1.mp Z;refine U ?_;try clear U
    have e:x=y:=by
      rcases B7.mp ((h x).mp D6)with q|q;.exact q
      . rcases B7.mp ((h y).mpr D6)with r|r;.exact r.symm
        . have:=J x q;have:=F y r;(first|lia|omega)
    subst e;rw[Vo V W λk=>?_];constructor
    . intro D;rcases B7.mp ((h k).mp (E5 _ D))with q|q;.have:=F k D;(first|lia|omega)
      .exact q
    . intro D;rcases B7.mp ((h k).mpr (E5 _ D))with q|q;.have:=J k D;(first|lia|omega)
      .exact q
theorem QH:k∈J9 p q↔(0<=k/\k<20)/\(k∈p\/k∈q):=by unfold J9;rw[DX,aO,ABu]
theorem cM(F:HF p)(J:HF q):HF (J9 p q):=by refine⟨Uk.sublist Xt,λk D=>(QH.mp D).1,λe=>?_⟩;obtain⟨k,D⟩:=List.exists_mem_of_ne_nil _ F.2.2;have:k∈J9 p q:=QH.mpr ⟨F.2.1 k D,.inl D⟩;rw[e]at this;cases this
noncomputable def L8(i j:Ap):Ap:=(Gv i.1 j.1,J9 i.2 j.2)
noncomputable def Fx(wi:Int)(A B:List Ap):List Ap:=A.flatMap λi=>(B.filter λj=>EA wi i.1 j.1).map (L8 i)
theorem Ui{W:List Int}{F:List AR}(p:F.Perm (Ds [] (W.map BP)))(G:F.Pairwise λa b=>Dl b a=AO):∃D:List Int,F=D.map BP/\D.Pairwise (.<.)/\∀k,k∈D↔k∈W:=by
  have U:∀k,k∈F↔∃n∈W,k=BP n:=λk=>by
    rw[p.mem_iff,Pj];constructor
    . rintro(h|h);.cases h
      . obtain⟨n,J,rfl⟩:=BH.mp h;exact⟨n,J,rfl⟩
    . rintro⟨n,J,rfl⟩;exact .inr (BH.mpr ⟨n,J,rfl⟩)
  have E:F.Nodup:=p.nodup_iff.mpr (TV _ [] .nil);refine AB λV=>?_;obtain⟨D,rfl⟩:∃D:List Int,F=D.map BP:=by refine⟨F.map λq=>match q with|.inl x=>x|.inr _=>0,?_⟩;rw[Cb];refine((KR (g:=id) λq A=>?_).trans (SW _)).symm;obtain⟨i,_,rfl⟩:=(U q).mp A;rfl
  refine V ?_;try clear V
  refine⟨D,rfl,?_,λk=>?_⟩
  . have C:=F9.mp E;have s2:=F9.mp G;refine(C.and s2).imp λ{a b}h=>?_;have H:¬b<a:=λq=>by have:=h.2;have t:Dl (BP b) (BP a)=AZ (b<a):=rfl;rw[t,ABq q]at this;cases this
    have Y:a≠b:=λe=>h.1 (by rw[e]);(first|lia|omega)
  . have Y:k∈D↔(BP k:AR)∈D.map BP:=⟨λh=>BH.mpr ⟨k,h,rfl⟩,λh=>by obtain⟨y,B,e⟩:=BH.mp h;rw[<-Gn e];exact B⟩;rw[Y,U];constructor
    . intro Z;refine AB λV=>?_;obtain⟨n,J,e⟩:=Z;refine V ?_;try clear V
      rw[Gn e];exact J
    . intro h;exact⟨k,h,rfl⟩
noncomputable def dY:Ba:=λF H Q _=>L5 (λ(a b:AI)(i j:Ap)=>F=[.ref a,.ref b]) (λa _ i _=>IL H (.ref a) i) (λ_ b _ j=>J0 H (.ref b) j) (λ_ _ i _=>HF i.2) (λ_ _ _ j=>HF j.2) (λ_ _ i j=>∀r D,Ak H D->IL D (.ref r) (L8 i j)->Q (.ref r) D)
theorem bI{K:Ar}{M:Kk}(T:B0 K mg M):BW P w K mg base Bs 1 M.oo M.oz ["item","other"] dY:=by
  refine T.uv.ok U1 (λvs H Q E h=>?_) (λS A L s H vs Q E hr h=>?_)
  . refine AB λD=>?_;obtain⟨a,b,i,j,rfl,_⟩:=h;refine D ?_;try clear D
    rfl
  . refine AB λD=>?_;obtain⟨a,b,i,j,rfl,⟨a',p,B,N,e⟩,⟨b',q,C,O,f⟩,W,Y,k⟩:=h;refine D ?_;try clear D
    injection B with B;injection C with C;subst B C;have nd:=U1.nd;refine⟨_,(CG (Ax 2 nd (Ja gY (by rfl) T.yy qF (AG (Ry (K:=K) rfl (by rfl) T.fu (by rfl) T.acy (AS LI (Ef K (Av 0) AM) (Ef K (Av 1) AM))) AQ))) (Ac (BA (CL (AG (CN (RF rfl) (by rfl) T.ui Lc (AG (Ef K (Av 0) AM) (AG (Ef K (Av 1) AM) AQ))) (AG (Ef K (Av 0) AM) (AG (AS Mg (Ef K (Av 0) AM) (Ef K (Av 1) AM)) (AG (Av 2) AQ)))))))),?_⟩;have sz:An=16777216:=Dg;have l1:=W.bj;have l2:=Y.bj;have sb:Gh=4096:=by rfl
    refine⟨_,rfl,a,_,_,_,rfl,rfl,Ao N,Ag (j:=3) rfl,_,rfl,b,_,_,_,rfl,rfl,Ao O,Ag (j:=2) rfl,p,q,_,_,rfl,rfl,e,f,by rw[Am,Am];(first|lia|omega),λc H1 s1 R=>?_⟩;have X:i.2.map AH.int++j.2.map AH.int=((i.2++j.2).map (BP:Int->AR)).map Al:=by rw[Cb,<-Bx];rfl
    rw[X]at R;refine⟨c,(i.2++j.2).map BP,rfl,.inr (Ao R),.inl λk x=>(by obtain⟨n,_,rfl⟩:=BH.mp x;exact⟨n,rfl⟩),by rw[Am,CY];(first|lia|omega),λl rs y pr so=>?_⟩;refine AB λD=>?_;obtain⟨Z,m,up,I⟩:=Ui pr so;refine D ?_;try clear D
    have v:Z=J9 i.2 j.2:=Vo up (Uk.sublist Xt) λk=>by
      rw[I,QH,CT];constructor
      . intro h;refine⟨?_,h⟩;rcases h with h|h;.exact W.2.1 k h
        .exact Y.2.1 k h
      .exactλh=>h.2
    have G:rs.map Al=Z.map AH.int:=by rw[m,Cb];rfl
    rw[G];refine As (o:=.lst (Z.map AH.int)) y λH2 s2 d=>?_;refine⟨l,Z.map AH.int,rfl,.inl ⟨AV d,λt z=>?_⟩⟩;refine As (o:=.tup (Z.map AH.int)) z λH3 s3 u=>?_;have g:=s1.aa (s2.aa s3);have F:=g _ _ N;have J:=g _ _ O;refine⟨_,rfl,a,_,_,_,rfl,rfl,Ao F,Ag (j:=0) rfl,_,rfl,b,_,_,_,rfl,rfl,Ao J,Ag (j:=0) rfl,_,_,rfl,_,rfl,a,_,_,_,rfl,rfl,Ao F,Ag (j:=1) rfl,_,rfl,a,_,_,_,rfl,rfl,Ao F,Ag (j:=2) rfl,_,rfl,b,_,_,_,rfl,rfl,Ao J,Ag (j:=1) rfl,_,_,rfl,rfl,_,rfl,BF rfl,λr U=>?_⟩;refine k r _ (g.cb U) ⟨r,t,rfl,Az,?_⟩;show _=AA (DV.tup ((J9 i.2 j.2).map AH.int));rw[<-v];exact(Cz U) _ _ u
noncomputable def dS:Ba:=λW H Q _=>T4 (λ(D:Int)(V F J:AI)(A B:List Ap)=>W=[.int D,.ref V]) (λD _ _ _ _ _=>0<=D) (λ_ V F J _ _=>H V=AA (.lst [.ref F,.ref J])) (λ_ _ F _ A _=>GL H F A) (λ_ _ _ J _ B=>GL H J B) (λ_ _ _ _ A _=>Hh A) (λ_ _ _ _ _ B=>Hh B) (λ_ _ _ _ A _=>A.length<=1000) (λ_ _ _ _ _ B=>B.length<=1000) (λD _ _ _ A B=>∀r U C,Ak H U->H r=AD->GL U r C->C.Perm (Fx D A B)->Q (.ref r) U)
theorem aR(wi:Int)(i:DS)(M:List Ap):((M.filter λj=>AZ (j.1.2.1=i.2.1)).filter (DM (i.1-wi) (i.1+wi+1)))=M.filter λj=>EA wi i j.1:=by
  rw[Xs];refine vW λj _=>?_;unfold DM EA;rw[Lu];simp only[JF,ABu];constructor
  . intro F;refine AB λD=>?_;obtain⟨⟨a,b⟩,c⟩:=F;refine D ?_;try clear D
    exact⟨c,a,by(first|lia|omega)⟩
  . intro F;refine AB λD=>?_;obtain⟨c,a,b⟩:=F;refine D ?_;try clear D
    exact⟨⟨a,by(first|lia|omega)⟩,c⟩
theorem JJ.ach{M:List Ap}(h:JJ M)(p:Ap->Bool):JJ (M.filter p):=by unfold JJ at h⊢;exact h.sublist (Xt.map _)
theorem UN(f:α->List D)(l:List α)(x:α):(l++[x]).flatMap f=l.flatMap f++f x:=by rw[v7];simp
theorem bD{K:Ar}{ad:Kk}(T:B0 K mg ad):BW P w K mg base Bs 3 ad.iw ad.jk ["within","streams"] dS:=by
  have G_by_keys:=gF.mk (Ue (P:=P) (w:=w) (base:=base) T) T.xq T.qy.kp T.xm;have G_between:=gF.mk (Ud (P:=P) (w:=w) (base:=base) T) T.xn T.qx.kp T.xk;have G_met_once:=gF.mk (bI (P:=P) (w:=w) (base:=base) T) T.aao T.uv.kp T.aai;refine T.qd.ok Uz (λvs H Q E h=>?_) (λcdv A outer s H vs Q E hr h=>?_)
  . refine AB λnG=>?_;obtain⟨wi,ls,l0,l1,A,B,rfl,_⟩:=h;refine nG ?_;try clear nG
    rfl
  . refine AB λnG=>?_;obtain⟨wi,ls,l0,l1,MA,MB,rfl,w0,els,⟨xa,ea,sa⟩,sB,okA,okB,lA,lB,k⟩:=h;refine nG ?_;try clear nG
    have nd:=Uz.nd;refine⟨_,(Aq (Ax 2 nd (A9 G_by_keys hr (AG (Ci K (AE 1) AM) AQ))) (Aq (Ax 3 nd (CJ AQ)) (Aq (Dp Dr rfl (Cm (K:=K) (Ci K (AE 1) AM)) (Cr 4 nd) (Aq (Ax 5 nd (A9 G_between hr (AG (kW hr.u1 (AE 2) (Ay K (AE 4) AM) (CJ AQ) ⟨rfl,rfl,rfl,rfl⟩) (AG (AS E3 (Ay K (AE 4) AM) (AE 0)) (AG (AS CC (AS CC (Ay K (AE 4) AM) (AE 0)) AM) AQ))))) (Ac (E4 (D4 (LM (K:=K) YI YJ rE Rf (AE 3) (AG (Ee (A7 Nt) [("item",4)] ⟨rfl,rfl,trivial⟩ (Cm (K:=K) (AE 5)) (λ_ _ _ _=>F5) (λ_ _ _ _=>(A9 G_met_once hr (AG (AE 1) (AG (AE 0) AQ))))) AQ))))))) (Ac (BA (AE 3)))))),?_⟩;have sz:An=16777216:=Dg;have lx:=sa.bj;refineλ_ _ _ _ z1=>⟨_,_,AV els,Ag (j:=1) rfl,l1,MB,rfl,sB,lB,λd H1 M' kvs s1 hd pM tM rb=>z1 _ _ ?_⟩;refineλ_ _ _ _ z2=>⟨Bd _,λu hu=>z2 _ _ ?_⟩;have s2:=Cz (o:=.lst []) hu;have eu:(AW H1 u (.lst [])) u=AA (.lst []):=Az;have rb2:=rb.bf s2;generalize AW H1 u (.lst [])=H2 at s2 eu rb2⊢;have s02:=s1.aa s2;have hu0:H u=AD:=s1.ar hu;have lM:M'.length<=1000:=by rw[pM.length_eq];exact lB
    have okM:Hh M':=λi hi=>okB i (pM.mem_iff.mp hi);have nud:u≠d:=(B6 rb.pj hu).symm;have nur:∀z r,CI kvs (.inr z)=AA (.ref r)->r≠u:=λz r hv e=>by obtain⟨_,_,_,e1,e2,_⟩:=rb.aef _ (LW hv);cases e1;rw[e,hu]at e2;cases e2
    refineλ_ _ _ _ z3=>⟨_,_,AV (s02 _ _ els),Ag (j:=0) rfl,l0,rfl,⟨_,AV (s02 _ _ ea)⟩,Fm (K:=K) (xs:=xa) (λm σ H'=>L5 (λ(o4 o5:Option AH)(acc:List AH)(C:List Ap)=>σ=[AA (.int wi),AA (.ref ls),AA (.ref d),AA (.ref u),o4,o5]) (λ_ _ _ _=>Gx u H2 H') (λ_ _ acc _=>H' u=AA (.lst acc)) (λ_ _ acc C=>EN H' acc C) (λ_ _ _ C=>C.Perm (Fx wi (MA.take m) MB)) (λ_ _ acc _=>acc.length<=m*1000)) ⟨AD,AD,[],[],rfl,(CS _).x _,eu,.nil,.nil,Bd _⟩ (λm σ H' _ hh=>by obtain⟨_,_,_,_,_,s',_⟩:=hh;exact AV (s' _ _ (B6 ea hu0) (s02 _ _ ea))) ?_ ?_⟩
    . intro m y σ H3 hy hI;refine AB λnG=>?_;obtain⟨o4,o5,acc,C,rfl,s3,eu3,sC,pC,lC⟩:=hI;have t23:CM H2 H3:=λb ys e=>s3 _ _ (λz=>by rw[z,eu]at e;cases e) e;obtain⟨i,ei,a,p,rfl,ea1,ep1⟩:=EN.ix sa hy;refine nG ?_;try clear nG
      have hm:m<MA.length:=(Bh.mp ei).1;have t03:=s02.tp.aa t23;have ea3:=t03 _ _ ea1;have ep3:=t03 _ _ ep1;have ed3:=s3 _ _ nud.symm rb2.pj;have isd:MJ H3 d:=.inl ⟨kvs,.inl ed3⟩;refineλ_ _ _ _ z4=>⟨d,rfl,isd,_,_,Ao ea3,Ag (j:=1) rfl,Bd _,λel hel=>?_⟩;refine As (o:=.lst []) hel λH4 t4 eel=>?_;refine AB λnG=>?_;obtain⟨r,xs,erw,er,hw⟩:∃(r:AI)(xs:List AH),(CI kvs (.inr i.1.2.1)).getD (.ref el)=.ref r/\H4 r=AA (.lst xs)/\Fw H4 xs (M'.filter λj=>AZ (j.1.2.1=i.1.2.1)):=by
        rcases rb2.at i.1.2.1 with⟨e1,e2⟩|⟨r,xs,e1,er,hw⟩;.exact⟨el,[],by rw[e1];rfl,eel,by rw[e2];exact .nil⟩
        .exact⟨r,xs,by rw[e1];rfl,t4 _ _ (s3 _ _ (nur _ _ e1) er),hw.ae (t23.aa t4.tp)⟩
      refine nG ?_;try clear nG
      refine⟨_,MI (k:=CP i.1.2.1) (t4 _ _ ed3),?_⟩;rw[erw];have ea4:=t4 _ _ ea3;refine⟨_,_,Ao ea4,Ag (j:=0) rfl,_,_,Ao ea4,Ag (j:=0) rfl,r,xs,_,i.1.1-wi,i.1.1+wi+1,rfl,er,hw,tM.ach _,by(first|lia|omega),λnl H5 ys t5 hnl enl hwn=>?_⟩;rw[aR]at hwn;refine z4 _ _ ?_;have t35:=t4.aa t5;have eu5:=t35 _ _ eu3;have ly:=(C5 hwn).1;have ln:(M'.filter λj=>EA wi i.1 j.1).length<=1000:=DE (Gd _ _) lM;have i5:IL H5 (.ref a) i:=⟨a,p,rfl,t35 _ _ ea3,t35 _ _ ep3⟩;have oki:HF i.2:=okA i (B9 ei);refineλ_ _ _ _ z5=>⟨.inl ⟨rfl,_,AV eu5⟩,nl,rfl,⟨_,AV enl⟩,?_⟩;refine Gy (K:=K) (xs:=ys) (λj τ acc' H'=>(∃o,τ=[o,AA (.ref a)])/\Ak H5 H'/\EN H' acc' (((M'.filter λj=>EA wi i.1 j.1).take j).map (L8 i))) (by(first|lia|omega)) ⟨⟨AD,rfl⟩,CS _,.nil⟩ (λj τ acc' H'⟨_,s',_⟩=>AV (s' _ _ enl)) ?_ ?_
      . intro j y τ acc' H6 R1 hy' _ hI k1;refine AB λnG=>?_;obtain⟨⟨o,rfl⟩,t6,sD⟩:=hI;obtain⟨lq,fq⟩:=C5 hwn;have hj:=(Bh.mp hy').1;have ej:=B8 (show j<(M'.filter λj=>EA wi i.1 j.1).length by(first|lia|omega));have r3:=fq j _ _ hy' ej;obtain⟨b,pb,rfl,eb,epb⟩:=r3;refine nG ?_;try clear nG
        have okj:HF ((M'.filter λj=>EA wi i.1 j.1)[j]).2:=okM _ (DX.mp (Mx _)).1;refine⟨a,b,i,_,rfl,i5.ae t6.tp,⟨b,pb,rfl,t6 _ _ eb,t6 _ _ epb⟩,oki,okj,λr' H7 t7 i7=>?_⟩;refine k1 _ _ _ ⟨⟨_,rfl⟩,t6.aa t7,?_⟩;rw[DD,ej,Bx];exact D3 (sD.ae t7.tp) (.cons i7 .nil)
      . intro τ acc' H6 la' hI q hq;refine AB λnG=>?_;obtain⟨_,t6,sD⟩:=hI;refine nG ?_;try clear nG
        rw[ly,Cn (Af _)]at sD;refine As (o:=.lst acc') hq λH7 t7 e7=>?_;have t57:=t6.aa t7;have eu7:=t57 _ _ eu5;have tp8:CM H7 (AW H7 u (.lst (acc++acc'))):=(ER H7).cb eu7 λxs=>by intro z;cases z
        refine⟨u,q,_,_,rfl,rfl,eu7,e7,by(first|lia|omega),z5 _ _ ⟨_,_,acc++acc',C++(M'.filter λj=>EA wi i.1 j.1).map (L8 i),rfl,λb o nb e=>by rw[BC nb];exact(t35.aa t57) _ _ (s3 _ _ nb e),Az,D3 ((sC.ae (t35.aa t57).tp).ae tp8) ((sD.ae t7.tp).ae tp8),?_,?_⟩⟩
        . rw[DD,ei];show vP _ (Fx wi (MA.take m++[i]) _);unfold Fx;rw[UN];exact .append pC ((pM.filter _).map _)
        . rw[CY];have:acc'.length<=1000:=by rw[(C5 sD).1,Am];exact ln
          (first|lia|omega)
    . intro σ H3 hI;refine AB λnG=>?_;obtain⟨o4,o5,acc,C,rfl,s3,eu3,sC,pC,lC⟩:=hI;refine nG ?_;try clear nG
      rw[lx,Cn (Af _)]at pC;have sf:Ak H H3:=λb o e=>s3 _ _ (B6 e hu0) (s02 _ _ e);exact z3 _ _ (k u _ C sf hu0 ⟨acc,eu3,sC⟩ pC)
noncomputable def Ku(f g:Int)(i:DS):DS:=(i.1,i.2.1,i.2.2*f+g)
noncomputable def MG(f g:Int)(i:Ap):Ap:=(Ku f g i.1,i.2)
noncomputable def eV:Ba:=λF H Q _=>UA (λ(p q:AI)(n a:AJ)(f g:Int)(i:Ap)=>F=[.ref p,.ref q]) (λp _ n a f g _=>Bj H p (.turn n a f g)) (λ_ _ _ _ f _ _=>(-100<=f/\f<=100)) (λ_ q _ _ _ _ i=>IL H (.ref q) i) (λ_ _ _ _ f g i=>∀r D,Ak H D->IL D (.ref r) (MG f g i)->Q (.ref r) D)
theorem cA{K:Ar}{b:Kk}(T:B0 K m b):BW P w K m base Bs 1 b.uy b.vf ["step","item"] eV:=by
  refine T.zg.ok VF (λu H Q E h=>?_) (λd A R s H u Q E hr h=>?_)
  . refine AB λY=>?_;obtain⟨p,q,n,a,f,g,i,rfl,_⟩:=h;refine Y ?_;try clear Y
    rfl
  . refine AB λY=>?_;obtain⟨p,q,n,a,f,g,⟨⟨t,z,D⟩,ns⟩,rfl,e,⟨x,y⟩,⟨q',C,F,I,G⟩,k⟩:=h;refine Y ?_;try clear Y
    injection F with F;subst F;have nd:=VF.nd;refine⟨_,(Ac (BA (AS (Rj (K:=K)) (AS (Rj (K:=K)) (GV (KN (K:=K)) (AE 1) Hv (FQ AM)) (CL (AG (AS CC (AS D1 (Ay K (AE 1) AM) (Ay K (AE 0) AM)) (Ay K (AE 0) AM)) AQ))) (GV (KN (K:=K)) (AE 1) (FQ AM) Hv)))),?_⟩;have v:Bw K H p _:=Ao e;have r:Bw K H q _:=Ao I;refine⟨_,rfl,q,_,rfl,r,(by show¬(BJ 4 0 AD=0/\BJ 4 4 (AA 2)=4);decide),λZ L=>?_⟩;have s1:Ak H (AW H Z (.tup [AH.int t,AH.str z])):=(CS H).cb L;refine⟨_,_,Ao (s1 _ _ I),Ag (j:=2) rfl,_,_,Ao (s1 _ _ e),Ag (j:=3) rfl,.inr ⟨by(first|lia|omega),by(first|lia|omega)⟩,_,_,Ao (s1 _ _ e),Ag (j:=4) rfl,BF rfl,λS J=>?_⟩;have s2:=s1.cb (o:=.tup [AH.int (D*f+g)]) J;have N:Z≠S:=B6 Az J;refine⟨Z,S,[AH.int t,AH.str z],[AH.int (D*f+g)],rfl,rfl,Ao (by rw[BC N];exact Az),Ao Az,(by intro h;cases h),BF rfl,(λh=>by cases h),λ_ B M=>?_⟩;have s3:=s2.cb (o:=.tup [AH.int t,AH.str z,AH.int (D*f+g)]) M;refine⟨_,rfl,q,_,rfl,Ao (s3 _ _ I),(by show¬(BJ 4 0 (AA 3)=0/\BJ 4 4 AD=4);decide),λX U=>?_⟩;have s4:=s3.cb (o:=.tup [.ref C]) U;have O:B≠X:=B6 Az U;have l:(AW (AW (AW (AW H Z (.tup [AH.int t,AH.str z])) S (.tup [AH.int (D*f+g)])) B (.tup [AH.int t,AH.str z,AH.int (D*f+g)])) X (.tup [.ref C])) B=AA (.tup [AH.int t,AH.str z,AH.int (D*f+g)]):=by rw[BC O];exact Az
    refine⟨B,X,[AH.int t,AH.str z,AH.int (D*f+g)],[.ref C],rfl,rfl,Ao l,Ao Az,(by intro h;cases h),BF rfl,(λh=>by cases h),λ_ c W=>?_⟩;exact k c _ (s4.cb W) ⟨c,C,rfl,Az,(s4.cb W) _ _ G⟩
noncomputable def Np:Ah->List (List Ap)->List Ap|.only _ _ F D,[A]=>A.filter λi=>AZ (F<=i.1.2.2/\i.1.2.2<=D)|.turn _ _ f g,[A]=>A.map (MG f g)|.both ..,[A,B]=>A++B|.gap ..,[A]=>A|.each ..,[A]=>A|_,_=>[]
noncomputable def N4:Ah->Prop|.turn _ _ f _=>-100<=f/\f<=100|.join _ _ _ D=>0<=D|_=>True
noncomputable def Lx(H:AN)(F:List AH)(D:List (List Ap)):Prop:=Bm (λx L=>∃r,x=.ref r/\GL H r L) F D
theorem Kr{l:List α}(e:l[n]?=AA x):(l.take (n+1)).filter p=(l.take n).filter p++(if p x=AF then[x]else[]):=by rw[DD,e,Mu];congr 1;show[x].filter p=_;rw[KP];cases p x<;>rfl
theorem QK{l:List α}(h:l.length=1):∃x,l=[x]:=List.length_eq_one_iff.mp h
theorem P4(h:Lx H F [L]):∃r xs,F=[.ref r]/\H r=AA (.lst xs)/\EN H xs L:=by cases h with|cons a b=>
 refine AB λD=>?_;cases b;obtain⟨r,rfl,xs,e,w⟩:=a;refine D ?_;try clear D
 exact⟨r,xs,rfl,e,w⟩
theorem fQ{l:List α}(h:l.length=2):∃x y,l=[x,y]:=by match l,h with|[x,y],_=>exact⟨x,y,rfl⟩
theorem Zt(h:Lx H U [L,M]):∃r F xs D,U=[.ref r,.ref F]/\H r=AA (.lst xs)/\H F=AA (.lst D)/\EN H xs L/\EN H D M:=by cases h with|cons a b=>cases b with|cons b c=>
 refine AB λJ=>?_;cases c;obtain⟨r,rfl,xs,e,w⟩:=a;obtain⟨F,rfl,D,W,Y⟩:=b;refine J ?_;try clear J
 exact⟨r,F,xs,D,rfl,e,W,w,Y⟩
noncomputable def eA:Ba:=λW H Q _=>T1 (λ(p U:AI)(s:Ah)(F:List AH)(D:List (List Ap))=>W=[.ref p,.ref U]) (λp _ s _ _=>Bj H p s) (λ_ _ s _ _=>N4 s) (λ_ _ s _ _=>s.no≠0) (λ_ _ s _ _=>s.no≠4) (λ_ U _ F _=>H U=AA (.lst F)) (λ_ _ _ F D=>Lx H F D) (λ_ _ s _ D=>D.length=s.aw.length) (λ_ _ _ _ D=>(∀L∈D,L.length<=1000)) (λ_ _ s _ D=>∀r J,Ak H J->GL J r (Np s D)->Q (.ref r) J)
theorem bN{K:Ar}{ad:Kk}(T:B0 K mg ad):BW P w K mg base Bs 2 ad.uw ad.vd ["step","streams"] eA:=by
  have G_turned:=gF.mk (cA (P:=P) (w:=w) (base:=base) T) T.acn T.zg.kp T.ace;refine T.zd.ok U5 (λvs H Q E h=>?_) (λcdv A outer s H vs Q E hr h=>?_)
  . refine AB λnG=>?_;obtain⟨p,ls,s,rs,Ls,rfl,_⟩:=h;refine nG ?_;try clear nG
    rfl
  . refine AB λnG=>?_;obtain⟨p,ls,st,rs,Ls,rfl,e,ok,n0,n4,els,cs,cl,cz,k⟩:=h;refine nG ?_;try clear nG
    have nd:=U5.nd;refine⟨_,(CG (Bc (BK Ca (Ay K (AE 0) AM) A6 (BL _)) (Ac (BA (Ee (A7 ME) [("step",0)] ⟨rfl,rfl,trivial⟩ (Cm (K:=K) (Ci K (AE 1) AM)) (λ_ _ _ _=>Gb (LO Ij Ij (Ay K (AE 1) AM) (Ay K (AE 0) AM) (Ay K (AE 1) AM))) (λ_ _ _ _=>(AE 0))))) Bt) (CG (Bc (BK Ca (Ay K (AE 0) AM) A6 (BL _)) (Ac (BA (Ee (A7 ME) [("step",0)] ⟨rfl,rfl,trivial⟩ (Cm (K:=K) (Ci K (AE 1) AM)) (λ_ _ _ _=>F5) (λ_ _ _ _=>(A9 G_turned hr (AG (AE 1) (AG (AE 0) AQ))))))) Bt) (CG (Bc (BK Ca (Ay K (AE 0) AM) A6 (BL _)) (Ac (BA (AS Oi (Ci K (AE 1) AM) (Ci K (AE 1) AM)))) Bt) (Ac (BA (Ci K (AE 1) AM)))))),?_⟩;have sz:An=16777216:=Dg;refine AB λnG=>?_;obtain⟨e0,e1,e2⟩:=e.cx (K:=K);refine nG ?_;try clear nG
    refine⟨_,_,e0,e1,rfl,_,rfl,EO (i:=1) rfl (λq1=>?_) λq1=>?_⟩
    . refine AB λnG=>?_;obtain⟨n,a,lo,hi,rfl⟩:∃n a lo hi,st=.only n a lo hi:=by cases st<;>first|exact⟨_,_,_,_,rfl⟩|cases q1
      obtain⟨L,rfl⟩:=QK cl;obtain⟨r,xs,rfl,er,hw⟩:=P4 cs;refine nG ?_;try clear nG
      have hL:=cz L (.head _);have hx:=hw.bj;refine⟨_,_,AV els,Ag (j:=0) rfl,r,rfl,⟨_,AV er⟩,?_⟩;refine KH (K:=K) (xs:=xs) (λm τ acc H'=>(∃o,τ=[o,AA (.ref p)])/\H'=H/\EN H acc ((L.take m).filter λi=>AZ (lo<=i.1.2.2/\i.1.2.2<=hi))) (by(first|lia|omega)) ⟨⟨AD,rfl⟩,rfl,.nil⟩ (λm τ acc H'⟨_,e,_⟩=>by rw[e];exact AV er) ?_ ?_
      . intro m y τ acc H' R1 R0 hy _ hI k1 k0;refine AB λnG=>?_;obtain⟨⟨o,rfl⟩,rfl,hp⟩:=hI;obtain⟨⟨⟨t,z,am⟩,ns⟩,ei,b,pl,rfl,eb,epl⟩:=hw.ix hy;refine nG ?_;try clear nG
        have fs:=Kr (p:=λi:Ap=>AZ (lo<=i.1.2.2/\i.1.2.2<=hi)) ei;refine⟨_,_,e0,Ag (j:=3) rfl,_,_,Ao eb,Ag (j:=2) rfl,_,rfl,?_⟩;have no:¬(lo<=am/\am<=hi)->EN H' acc ((L.take (m+1)).filter λi=>AZ (lo<=i.1.2.2/\i.1.2.2<=hi)):=λq=>by rw[fs,ABn (by rw[ABu];exact q),Eg];exact hp
        refine F3 (λh1=>?_) λh1=>⟨_,rfl,C4 (k0 _ _ ⟨⟨_,rfl⟩,rfl,no λq=>h1 q.1⟩)⟩;refine⟨_,_,e0,Ag (j:=4) rfl,_,rfl,F3 (λh2=>?_) λh2=>k0 _ _ ⟨⟨_,rfl⟩,rfl,no λq=>h2 q.2⟩⟩;refine(k1 _ _ _ ⟨⟨_,rfl⟩,rfl,?_⟩);rw[fs,ABo (by rw[ABu];exact⟨h1,h2⟩)];exact D3 hp (.cons ⟨b,pl,rfl,eb,epl⟩ .nil)
      . intro τ acc H' la hI D hD;refine AB λnG=>?_;obtain⟨_,rfl,hp⟩:=hI;refine nG ?_;try clear nG
        rw[Cn (by(first|lia|omega))]at hp;exact k D _ ((CS _).cb hD) ⟨_,Az,hp.ae ((CS _).cb hD).tp⟩
    . refine⟨_,_,e0,e1,rfl,_,rfl,EO (i:=2) rfl (λq2=>?_) λq2=>?_⟩
      . refine AB λnG=>?_;obtain⟨n,a,f,g,rfl⟩:∃n a f g,st=.turn n a f g:=by cases st<;>first|exact⟨_,_,_,_,rfl⟩|cases q2
        obtain⟨L,rfl⟩:=QK cl;obtain⟨r,xs,rfl,er,hw⟩:=P4 cs;refine nG ?_;try clear nG
        have hL:=cz L (.head _);have hx:=hw.bj;refine⟨_,_,AV els,Ag (j:=0) rfl,r,rfl,⟨_,AV er⟩,?_⟩;refine Gy (K:=K) (xs:=xs) (λm τ acc H'=>(∃o,τ=[o,AA (.ref p)])/\Ak H H'/\EN H' acc ((L.take m).map (MG f g))) (by(first|lia|omega)) ⟨⟨AD,rfl⟩,CS _,.nil⟩ (λm τ acc H'⟨_,s,_⟩=>AV (s _ _ er)) ?_ ?_
        . intro m y τ acc H' R1 hy _ hI k1;refine AB λnG=>?_;obtain⟨⟨o,rfl⟩,s,hp⟩:=hI;obtain⟨i,ei,b,pl,rfl,eb,epl⟩:=hw.ix hy;refine nG ?_;try clear nG
          refine⟨p,b,n,a,f,g,i,rfl,s _ _ e,ok,⟨b,pl,rfl,s _ _ eb,s _ _ epl⟩,λr2 H2 s2 e2=>k1 _ _ _ ⟨⟨_,rfl⟩,s.aa s2,?_⟩⟩;rw[DD,ei,Bx];exact D3 (hp.ae s2.tp) (.cons e2 .nil)
        . intro τ acc H' la hI D hD;refine AB λnG=>?_;obtain⟨_,s,hp⟩:=hI;refine nG ?_;try clear nG
          rw[Cn (by(first|lia|omega))]at hp;exact k D _ (s.cb hD) ⟨_,Az,hp.ae ((CS _).cb hD).tp⟩
      . refine⟨_,_,e0,e1,rfl,_,rfl,EO (i:=3) rfl (λq3=>?_) λq3=>?_⟩
        . refine AB λnG=>?_;obtain⟨n,a,b,rfl⟩:∃n a b,st=.both n a b:=by cases st<;>first|exact⟨_,_,_,rfl⟩|cases q3
          obtain⟨L,M,rfl⟩:=fQ cl;obtain⟨r,r',xs,xs',rfl,er,er',hw,hw'⟩:=Zt cs;refine nG ?_;try clear nG
          have hL:=cz L (.head _);have hM:=cz M (.tail _ (.head _));have hx:=hw.bj;have hx':=hw'.bj;refine⟨_,_,AV els,Ag (j:=0) rfl,_,_,AV els,Ag (j:=1) rfl,r,r',xs,xs',rfl,rfl,er,er',by(first|lia|omega),λD hD=>k D _ ((CS _).cb hD) ⟨_,Az,?_⟩⟩;show EN _ _ (L++M);exact EN.ae (D3 hw hw') ((CS _).cb hD).tp
        . have n1:st.aw.length=1/\∀L,Np st [L]=L:=by cases st<;>first|exact⟨rfl,λ_=>rfl⟩|exact absurd rfl n0|exact absurd rfl q1|exact absurd rfl q2|exact absurd rfl q3|exact absurd rfl n4
          refine AB λnG=>?_;obtain⟨L,rfl⟩:=QK (cl.trans n1.1);obtain⟨r,xs,rfl,er,hw⟩:=P4 cs;refine nG ?_;try clear nG
          exact⟨_,_,AV els,Ag (j:=0) rfl,k r _ (CS _) (by rw[n1.2];exact⟨_,er,hw⟩)⟩
noncomputable def GO(s:Ah)(L:AJ->List Ap)(evs:List CA):List Ap:=match s with|.take _ k=>Ho k evs|.only _ a F D=>(L a).filter λi=>AZ (F<=i.1.2.2/\i.1.2.2<=D)|.turn _ a f g=>(L a).map (MG f g)|.both _ a b=>L a++L b|.join _ a b J=>Fx J (L a) (L b)|.gap _ a _ _=>L a|.each _ a _ _ _=>L a
theorem P9(f g:α->List D)(h:∀x,(f x).Perm (g x)):∀l:List α,(l.flatMap f).Perm (l.flatMap g)|[]=>.nil|x::r=>by rw[O3,O3];exact(h x).append (P9 f g h r)
theorem Zu{A B:List Ap}(p:A.Perm D)(q:B.Perm F):(Fx wi A B).Perm (Fx wi D F):=(p.flatMap_right _).trans (P9 _ _ (λi=>(q.filter _).map _) D)
theorem UY{s:Ah}(h:∀a∈s.aw,L a=D a):GO s L evs=GO s D evs:=by cases s with|take n k=>rfl|only n a U J=>show(L a).filter _=(D a).filter _;rw[h a (.head _)]|turn n a f g=>show(L a).map _=(D a).map _;rw[h a (.head _)]|both n a b=>show L a++L b=D a++D b;rw[h a (.head _),h b (.tail _ (.head _))]|join n a b F=>show Fx F (L a) (L b)=Fx F (D a) (D b);rw[h a (.head _),h b (.tail _ (.head _))]|gap n a s m=>exact h a (.head _)|each n a s z d=>exact h a (.head _)
structure Jz(ss:List Ah):Prop where
 uz:∀(i i':Nat)s s',ss[i]?=AA s->ss[i']?=AA s'->s.nm=s'.nm->i=i'
 uk:∀(i:Nat)s a,ss[i]?=AA s->a∈s.aw->∃(i':Nat)(s':Ah),i'<i/\ss[i']?=AA s'/\s'.nm=a/\s'.br=AO
 ok:∀s∈ss,N4 s
noncomputable def QN(D:AJ->List Ap)(n:AJ)(L:List Ap):AJ->List Ap:=λa=>if a=n then L else D a
theorem cP(h:Jz F)(evs:List CA):∃L:AJ->List Ap,∀s∈F,L s.nm=GO s L evs:=by
 have Z:∀n≤F.length,∃L:AJ->List Ap,∀(i:Nat)s,i<n->F[i]?=AA s->L s.nm=GO s L evs:=by intro n;induction n with|zero=>exactλ_=>⟨λ_=>[],λi s J=>absurd J (Sf _)⟩|succ n E=>
  intro H;obtain⟨L,Y⟩:=E (by(first|lia|omega));have V:=B8 (show n<F.length by(first|lia|omega));generalize F[n]=t at V;have U:∀(i:Nat)s,i<n->F[i]?=AA s->QN L t.nm (GO t L evs) s.nm=L s.nm:=λi s J D=>ABn λe=>by have:=h.uz i n s t D V e;(first|lia|omega)
  have q:∀(i:Nat)s,i<=n->F[i]?=AA s->∀a∈s.aw,L a=QN L t.nm (GO t L evs) a:=λi s J D a A=>by obtain⟨C,G,I,W,rfl,_⟩:=h.uk i s a D A;exact(U C G (by(first|lia|omega)) W).symm
  refine⟨QN L t.nm (GO t L evs),λi s J D=>?_⟩;by_cases e:i=n
  . subst e;rw[V]at D;cases D;rw[<-UY (q i t (Af _) V)];exact ABo rfl
  . rw[U i s (by(first|lia|omega)) D,Y i s (by(first|lia|omega)) D];exact UY (q i s (by(first|lia|omega)) D)
 obtain⟨L,Y⟩:=Z F.length (Af _);refine⟨L,λs B=>?_⟩;obtain⟨i,J⟩:=HW.mp B;exact Y i s (Bh.mp J).1 J
noncomputable def FZ(H:AN)(D:List AH)(F:List Ah):Prop:=Bm (λx s=>∃a,x=.ref a/\Bj H a s) D F
theorem FZ.ae(h:FZ H F J)(t:CM H D):FZ D F J:=GU (λx s⟨a,e,q⟩=>⟨a,e,q.tp t⟩) h
theorem FZ.bj{D:List AH}{F:List Ah}(h:FZ H D F):D.length=F.length:=(C5 h).1
theorem FZ.at(h:FZ H U D){i:Nat}(e:U[i]?=AA x):∃a s,x=.ref a/\D[i]?=AA s/\Bj H a s:=by
 refine AB λJ=>?_;obtain⟨l,f⟩:=C5 h;have W:=(Bh.mp e).1;have F:=B8 (show i<D.length by(first|lia|omega));obtain⟨a,r1,r2⟩:=f i x _ e F;refine J ?_;try clear J
 exact⟨a,_,r1,F,r2⟩
noncomputable def Jy(H:AN)(kvs:List (AR×AH))(L:List Ap)(n:AJ):Prop:=∃r M,CI kvs (.inr n)=AA (.ref r)/\GL H r M/\M.Perm L
theorem Jy.bf(h:Jy H kvs L n)(s:Ak H D):Jy D kvs L n:=let⟨r,M,v,m,p⟩:=h;⟨r,M,v,m.bf s,p⟩
theorem cJ{s:Ah}(J:s.no≠0)(U:s.no≠4)(D:Bm (λ(M:List Ap)a=>M.Perm (L a)) F s.aw):(Np s F).Perm (GO s L evs):=by cases s with
 |take n k=>exact absurd rfl J|join n a b Z=>exact absurd rfl U|only n a Y W=>cases D with|cons q r=>cases r;exact q.filter _
 |turn n a f g=>cases D with|cons q r=>cases r;exact q.map _
 |both n a b=>cases D with|cons q r=>cases r with|cons V r=>cases r;exact q.append V
 |gap n a s m=>cases D with|cons q r=>cases r;exact q
 |each n a s z d=>cases D with|cons q r=>cases r;exact q
theorem UZ:x∈Fx wi A B↔∃i∈A,∃j∈B,EA wi i.1 j.1=AF/\x=L8 i j:=by
  unfold Fx;constructor
  . intro h;refine AB λD=>?_;obtain⟨i,J,h⟩:=Xy.mp h;obtain⟨j,F,rfl⟩:=BH.mp h;refine D ?_;try clear D
    exact⟨i,J,j,(DX.mp F).1,(DX.mp F).2,rfl⟩
  . intro U;refine AB λD=>?_;obtain⟨i,J,j,F,n,rfl⟩:=U;refine D ?_;try clear D
    exact Xy.mpr ⟨i,J,BH.mpr ⟨j,DX.mpr ⟨F,n⟩,rfl⟩⟩
theorem fL{evs:List CA}(h:evs.length<=20):Hh (Ho k evs):=λx D=>by
 refine AB λF=>?_;obtain⟨⟨e,n⟩,J,D⟩:=Xy.mp D;obtain⟨y,_,rfl⟩:=BH.mp D;refine F ?_;try clear F
 have:=(List.mem_zipIdx J).2.1;exact cL (by(first|lia|omega))
theorem aM{s:Ah}{evs:List CA}(W:evs.length<=20)(h:∀a∈s.aw,Hh (L a)):Hh (GO s L evs):=by cases s with
 |take n k=>exact fL W|only n a Y D=>exactλi D=>h a (.head _) i (DX.mp D).1|turn n a f g=>
  intro i D;refine AB λF=>?_;obtain⟨j,J,rfl⟩:=BH.mp D;refine F ?_;try clear F
  exact h a (.head _) j J|both n a b=>
  intro i D;rcases CT.mp D with D|D;.exact h a (.head _) i D
  .exact h b (.tail _ (.head _)) i D|join n a b Z=>
  intro i D;refine AB λF=>?_;obtain⟨x,U,y,V,_,rfl⟩:=UZ.mp D;refine F ?_;try clear F
  exact cM (h a (.head _) x U) (h b (.tail _ (.head _)) y V)|gap n a s m=>exact h a (.head _)|each n a s z d=>exact h a (.head _)
theorem QM{D:List Ah}(h:Jz D){R:AJ->Prop}(st:∀s∈D,(∀a∈s.aw,R a)->R s.nm):∀s∈D,R s.nm:=by
 have J:∀(n:Nat)s,D[n]?=AA s->R s.nm:=by intro n;induction n using w5 with|ind n Z=> intro s e;refine st s (B9 e) λa U=>?_;obtain⟨Y,A,q,F,rfl,_⟩:=h.uk n s a e U;exact Z Y q A F
 intro s W;obtain⟨n,V⟩:=HW.mp W;exact J n s V
theorem cO{evs:List CA}(h:Jz D)(U:evs.length<=20)(F:∀s∈D,L s.nm=GO s L evs):∀s∈D,Hh (L s.nm):=QM (R:=λa=>Hh (L a)) h λs J q=>by show Hh (L s.nm);rw[F s J];exact aM U q
noncomputable def eK:Ba:=λq H Q _=>T8 (λ(Z Y:AI)(W:List AH)(F:List Ah)(D:List CA)(L:AJ->List Ap)=>q=[.ref Z,.ref Y]) (λZ _ W _ _ _=>H Z=AA (.lst W)) (λ_ _ W F _ _=>FZ H W F) (λ_ _ _ F _ _=>Jz F) (λ_ _ _ F _ _=>F.length<=100) (λ_ Y _ _ D _=>JG H Y D) (λ_ _ _ _ D _=>D.length<=20) (λ_ _ _ F D L=>(∀s∈F,L s.nm=GO s L D/\(L s.nm).length<=1000)) (λ_ _ _ F _ L=>∀d U J,Ak H U->H d=AD->U d=AA (.dK J)->(∀s∈F,Jy U J (L s.nm) s.nm)->Q (.ref d) U)
theorem bU{K:Ar}{ad:Kk}(T:B0 K mg ad):BW P w K mg base Bs 4 ad.iz ad.jl ["plan","events"] eK:=by
  have G:=gF.mk (aX (P:=P) (w:=w) (base:=base) T) T.abn T.xf.kp T.abd;have J:=gF.mk (bJ (P:=P) (w:=w) (base:=base) T) T.abo T.xg.kp T.abe;have Z:=gF.mk (bW (P:=P) (w:=w) (base:=base) T) T.zw T.ue.kp T.zm;have Y:=gF.mk (bD (P:=P) (w:=w) (base:=base) T) T.ym T.qd.kp T.xy;have X:=gF.mk (bN (P:=P) (w:=w) (base:=base) T) T.ack T.zd.kp T.acb;refine T.qe.ok U7 (λvs H Q E h=>?_) (λcdv A outer s H vs Q E u h=>?_)
  . refine AB λF=>?_;obtain⟨lp,le,ps,ss,evs,L,rfl,_⟩:=h;refine F ?_;try clear F
    rfl
  . refine AB λF=>?_;obtain⟨lp,le,ps,ss,evs,L,rfl,elp,pr,R,lss,ev,lev,hL,k⟩:=h;refine F ?_;try clear F
    have nd:=U7.nd;refine⟨_,(Aq (Ax 2 nd Ol) (Aq (Dp Dr rfl (Cm (K:=K) (AE 0)) (Cr 3 nd) (Aq (R4 (i:=4) (osc:=A7 Nu) [("told",2)] nd rfl (O6 rfl) rfl (Cm (K:=K) (A9 G u (AG (AE 3) AQ))) rfl rfl (by decide+kernel) (by decide+kernel) (by decide+kernel) ⟨rfl,rfl,trivial⟩ rfl (by decide+kernel) (λ_ _ _ _=>F5) (λ_ _ _ _=>(Il u.u1 (AE 1) (AE 0) (λ_ _=>rfl)))) (Ac (E4 (GZ (Bc (BK Ca (Ay K (AE 3) AM) A6 (BL _)) (Ac (LN u.u1 (AE 2) (A9 J u (AG (AE 3) AQ)) (A9 Z u (AG (AE 3) (AG (AE 1) AQ))) rfl)) (Ac (Bc (BK Ca (Ay K (AE 3) AM) A6 (BL _)) (Ac (LN u.u1 (AE 2) (A9 J u (AG (AE 3) AQ)) (A9 Y u (AG (Ay K (AE 3) AM) (AG (AE 4) AQ))) rfl)) (Ac (LN u.u1 (AE 2) (A9 J u (AG (AE 3) AQ)) (A9 X u (AG (AE 3) (AG (AE 4) AQ))) rfl)))))))))) (Ac (BA (AE 2))))),?_⟩;have sz:An=16777216:=Dg;have lp':=pr.bj;have okL:=cO R lev λs hs=>(hL s hs).1;refineλ_ _ _ _ z1 d hd=>z1 _ _ ?_;refine As (o:=.dK []) hd λH0 s0 ed=>?_;refineλ_ _ _ _ z2=>⟨lp,rfl,⟨_,AV (s0 _ _ elp)⟩,Fm (K:=K) (xs:=ps) (λn σ B=>Hk (λ(o3 o4:Option AH)(D:List (AR×AH))=>σ=[AA (.ref lp),AA (.ref le),AA (.ref d),o3,o4]) (λ_ _ _=>Ak H B) (λ_ _ D=>B d=AA (.dK D)) (λ_ _ D=>D.length<=n) (λ_ _ D=>∀(i:Nat)s,i<n->ss[i]?=AA s->Jy B D (L s.nm) s.nm)) ⟨AD,AD,[],rfl,s0,ed,Af _,λi s p=>absurd p (Sf _)⟩ (λn σ B _ hh=>by obtain⟨_,_,_,_,s',_⟩:=hh;exact AV (s' _ _ elp)) ?_ ?_⟩
    . intro n x σ H1 hx hI;refine AB λF=>?_;obtain⟨o3,o4,D,rfl,s1,ed1,lk,hh⟩:=hI;obtain⟨a,U,rfl,es,ea⟩:=pr.at hx;refine F ?_;try clear F
      have hn:n<ss.length:=(Bh.mp es).1;have ea1:Bj H1 a U:=s1 _ _ ea;refineλ_ _ _ _ z3=>⟨a,U,rfl,ea1,λlf Hf sf hlf elf=>⟨lf,rfl,⟨_,AV elf⟩,?_⟩⟩;have hf:∀(i:Nat)s,i<n->ss[i]?=AA s->Jy Hf D (L s.nm) s.nm:=λi s p ei=>(hh i s p ei).bf sf;have lf5:U.aw.length<=2:=by cases U<;>exact BF rfl
      have ed2:=sf _ _ ed1;refine Gy (K:=K) (xs:=U.aw.map AH.str) (λm τ acc B=>(∃o,τ=[o,AA (.ref d)])/\B=Hf/\∃Ms,Lx Hf acc Ms/\Bm (λ(M:List Ap)a=>M.Perm (L a)) Ms (U.aw.take m)) (by rw[Am];(first|lia|omega)) ⟨⟨AD,rfl⟩,rfl,[],.nil,.nil⟩ (λm τ acc B⟨_,ee,_⟩=>by rw[ee];exact AV elf) ?_ ?_
      . intro m y τ acc B R1 hy _ hI k1;refine AB λF=>?_;obtain⟨⟨o,rfl⟩,rfl,Ms,hc,t⟩:=hI;rw[BV]at hy;obtain⟨f,ef,rfl⟩:=Co.mp hy;obtain⟨i',s',li,l,rfl,_⟩:=R.uk n U f es (B9 ef);obtain⟨r,M,v1,v2,v3⟩:=hf i' s' li l;refine F ?_;try clear F
        refine⟨d,.ref r,rfl,?_,k1 _ _ _ ⟨⟨_,rfl⟩,rfl,Ms++[M],D3 hc (.cons ⟨r,rfl,v2⟩ .nil),?_⟩⟩;. rw[<-v1];exact MI (k:=.inr s'.nm) ed2
        . rw[DD,ef];exact D3 t (.cons v3 .nil)
      . intro τ W B la hI ls hls;refine AB λF=>?_;obtain⟨_,rfl,Ms,hc,t⟩:=hI;refine F ?_;try clear F
        rw[Am,Cn (Af _)]at t;have s4:=sf.cb (o:=.lst W) hls;have sl4:=Cz (o:=.lst W) hls;have els:(AW B ls (.lst W)) ls=AA (.lst W):=Az;have O:Lx (AW B ls (.lst W)) W Ms:=GU (λx L⟨r,e1,e2⟩=>⟨r,e1,e2.bf sl4⟩) hc;generalize AW B ls (.lst W)=H4 at s4 sl4 els O⊢;have S4:=s1.aa s4;have b:Bj H4 a U:=ea1.tp s4.tp;have ed4:=s4 _ _ ed1;have len4:∀M∈Ms,M.length<=1000:=λM hM=>by obtain⟨j,hj⟩:=HW.mp hM;obtain⟨lq,fq⟩:=C5 t;have hj2:=(Bh.mp hj).1;have ej:=B8 (show j<U.aw.length by(first|lia|omega));have pp:=fq j _ _ hj ej;obtain⟨i',s',li,l,e',_⟩:=R.uk n U _ es (Mx _);have l1:=(hL s' (B9 l)).2;have l2:=pp.length_eq;rw[l2,<-e'];exact l1
        have fin:∀{r:AI}{M:List Ap}{I:AN},Ak H4 I->GL I r M->M.Perm (L U.nm)->(I d=AA (.dK D)/\D.length+1<=An)/\(∃(o3 o4:Option AH)(v:List (AR×AH)),[AA (AH.ref lp),AA (.ref le),AA (.ref d),AA (.ref a),AA (.ref ls)]=[AA (AH.ref lp),AA (.ref le),AA (.ref d),o3,o4]/\Ak H (AW I d (.dK (Bq D (.inr U.nm) (.ref r))))/\(AW I d (.dK (Bq D (.inr U.nm) (.ref r)))) d=AA (.dK v)/\v.length<=n+1/\∀(i:Nat)s,i<n+1->ss[i]?=AA s->Jy (AW I d (.dK (Bq D (.inr U.nm) (.ref r)))) v (L s.nm) s.nm):=λ{r M I}S sr pm=>by
          refine⟨⟨S _ _ ed4,by(first|lia|omega)⟩,_,_,Bq D (.inr U.nm) (.ref r),rfl,(S4.aa S).dw hd,Az,?_,λi s p ei=>?_⟩;.have:=Ra D (.inr U.nm) (.ref r);(first|lia|omega)
          . have tp:CM I (AW I d (.dK (Bq D (.inr U.nm) (.ref r)))):=(ER I).cb (S _ _ ed4) λxs=>by intro z;cases z
            have keep:∀{q:AI}{N:List Ap},GL I q N->GL (AW I d (.dK (Bq D (.inr U.nm) (.ref r)))) q N:=λ{q N}⟨xs,e,w⟩=>⟨xs,by rw[BC (λz=>by rw[z,S _ _ ed4]at e;cases e)];exact e,w.ae tp⟩;by_cases e:i=n;. subst e;rw[es]at ei;cases ei;exact⟨r,M,by rw[SJ,ABo rfl],keep sr,pm⟩
            . obtain⟨r',M',v1,v2,v3⟩:=hh i s (by(first|lia|omega)) ei;refine⟨r',M',?_,keep (v2.bf (s4.aa S)),v3⟩;rw[SJ,ABn (λz=>e (R.uz i n s U ei es (NV z)))];exact v1
        have okF:∀a∈U.aw,Hh (L a):=λf hf'=>by obtain⟨i',s',li,l,rfl,_⟩:=R.uk n U f es hf';exact okL s' (B9 l)
        have memS:=B9 es;obtain⟨mS,lS⟩:=hL U memS;refine z3 _ _ λ_ _ _ _ z4=>GS (λσ' B=>Hk (λ(o3 o4:Option AH)(D:List (AR×AH))=>σ'=[AA (.ref lp),AA (.ref le),AA (.ref d),o3,o4]) (λ_ _ _=>Ak H B) (λ_ _ D=>B d=AA (.dK D)) (λ_ _ D=>D.length<=n+1) (λ_ _ D=>∀(i:Nat)s,i<n+1->ss[i]?=AA s->Jy B D (L s.nm) s.nm)) ?_ (λσ' B h=>z4 _ _ h);refine AB λF=>?_;obtain⟨e0,e1,e2⟩:=b.cx (K:=K);refine F ?_;try clear F
        refine⟨_,_,e0,e1,rfl,_,rfl,EO (i:=0) rfl (λq0=>?_) λq0=>?_⟩
        . refine AB λF=>?_;obtain⟨c,kd,rfl⟩:∃c kd,U=.take c kd:=by cases U<;>first|exact⟨_,_,rfl⟩|cases q0
          refine F ?_;try clear F
          refine⟨a,le,c,kd,evs,rfl,b,ev.bf S4,lev,λr I S hr5 sr=>?_⟩;have mS:L c=Ho kd evs:=mS;refine AB λF=>?_;obtain⟨⟨f1,f2⟩,g1,g2,g3,g4,g5,g6,g7,g8⟩:=fin S sr (by show vP _ (L c);rw[mS]);refine F ?_;try clear F
          exact⟨a,_,rfl,b.tp S.tp,d,_,rfl,Kx (k:=.inr c) f1 f2,g1,g2,g3,g4,g5,g6,g7,g8⟩
        . refine⟨_,_,e0,e1,rfl,_,rfl,EO (i:=4) rfl (λq4=>?_) λq4=>?_⟩
          . refine AB λF=>?_;obtain⟨c,f,g,wi,rfl⟩:∃c f g wi,U=.join c f g wi:=by cases U<;>first|exact⟨_,_,_,_,rfl⟩|cases q4
            refine F ?_;try clear F
            cases t with|cons pA t=>cases t with|cons pB t=> cases t;cases O with|cons hA O=>cases O with|cons hB O=>
            refine AB λF=>?_;cases O;obtain⟨r0,rfl,sA⟩:=hA;obtain⟨r1,rfl,sB⟩:=hB;refine F ?_;try clear F
            have okw:0<=wi:=R.ok _ memS;refine⟨_,_,e0,Ag (j:=4) rfl,wi,ls,r0,r1,_,_,rfl,okw,els,sA,sB,(λi p=>okF f (.head _) i (pA.mem_iff.mp p)),(λi p=>okF g (.tail _ (.head _)) i (pB.mem_iff.mp p)),len4 _ (.head _),len4 _ (.tail _ (.head _)),λr I C S hr5 sr pC=>?_⟩;have pM:C.Perm (L c):=by have mS:L c=Fx wi (L f) (L g):=mS;rw[mS];exact pC.trans (Zu pA pB)
            refine AB λF=>?_;obtain⟨⟨f1,f2⟩,g1,g2,g3,g4,g5,g6,g7,g8⟩:=fin S sr pM;refine F ?_;try clear F
            exact⟨a,_,rfl,b.tp S.tp,d,_,rfl,Kx (k:=.inr c) f1 f2,g1,g2,g3,g4,g5,g6,g7,g8⟩
          . refine⟨a,ls,U,W,Ms,rfl,b,R.ok _ memS,q0,q4,els,O,(C5 t).1,len4,λr I S sr=>?_⟩;have pM:(Np U Ms).Perm (L U.nm):=by rw[mS];exact cJ q0 q4 t
            refine AB λF=>?_;obtain⟨⟨f1,f2⟩,g1,g2,g3,g4,g5,g6,g7,g8⟩:=fin S sr pM;refine F ?_;try clear F
            exact⟨a,_,rfl,b.tp S.tp,d,_,rfl,Kx (k:=.inr U.nm) f1 f2,g1,g2,g3,g4,g5,g6,g7,g8⟩
    . intro σ H1 hI;refine AB λF=>?_;obtain⟨o3,o4,D,rfl,s1,ed1,lk,hh⟩:=hI;refine F ?_;try clear F
      refine z2 _ _ (k d _ D s1 hd ed1 λs hs=>?_);obtain⟨i,p⟩:=HW.mp hs;exact hh i s (by rw[lp'];exact(Bh.mp p).1) p
noncomputable def Hi:List AH:=[.str "each",.str "gap"]
theorem f7:∀st:Ah,Dk (.str st.cx) Hi=st.br|.take ..=>(by decide+kernel:Dk (.str "take") Hi=false)|.only ..=>(by decide+kernel:Dk (.str "only") Hi=false)|.turn ..=>(by decide+kernel:Dk (.str "turn") Hi=false)|.both ..=>(by decide+kernel:Dk (.str "both") Hi=false)|.join ..=>(by decide+kernel:Dk (.str "join") Hi=false)|.gap ..=>(by decide+kernel:Dk (.str "gap") Hi=true)|.each ..=>(by decide+kernel:Dk (.str "each") Hi=true)
noncomputable def eR:Ba:=λD H Q _=>J1 (λ(p:AI)(s:Ah)=>D=[.ref p]) (λp s=>Bj H p s) (λ_ s=>Q (.bl s.br) H)
theorem bB{K:Ar}{F:Kk}(T:B0 K q F):BW P w K q base Bs 1 F.kr F.mh ["step"] eR:=by
  refine T.uc.ok Ux (λB H Q E h=>?_) (λV A J s H B Q E G h=>?_)
  . refine AB λD=>?_;obtain⟨p,s,rfl,_⟩:=h;refine D ?_;try clear D
    rfl
  . refine AB λD=>?_;obtain⟨p,U,rfl,e,k⟩:=h;refine D ?_;try clear D
    have I:=Ux.nd;refine⟨_,(Ac (BA (W9 (Rn (K:=K)) (Ef K (Av 0) AM) (Mi (v:=.ref F.ng) (by rfl) T.abk rfl) (by with_unfolding_all rfl)))),?_⟩;refine AB λD=>?_;obtain⟨W,Y,C⟩:=e.cx (K:=K);refine D ?_;try clear D
    have Z:=f7 U;refine⟨_,rfl,p,_,_,_,rfl,rfl,W,Y,_,Hi,rfl,.inr (T.abt H),rfl,rfl,?_⟩;show Q (.bl (Dk (.str U.cx) Hi)) H;rw[Z];exact k
noncomputable def J8(D:List Ah)(i:Nat):Bool:=match D[i]? with|AA s=>s.br|AD=>AO
noncomputable def HH(D:List Ah):List Nat:=(DY D.length).filter (J8 D)
noncomputable def eS:Ba:=λW H Q _=>Hk (λ(U:AI)(F:List AH)(D:List Ah)=>W=[.ref U]) (λU F _=>H U=AA (.lst F)) (λ_ F D=>FZ H F D) (λ_ _ D=>D.length<=100) (λ_ _ D=>∀J r,Ak H J->H r=AD->J r=AA (.lst ((HH D).map λi:Nat=>AH.int (i:Int)))->Q (.ref r) J)
theorem bX{K:Ar}{G:Kk}(T:B0 K j G):BW P w K j base Bs 2 G.rj G.tf ["plan"] eS:=by
  have F:=gF.mk (bB (P:=P) (w:=w) (base:=base) T) T.zt T.uc.kp T.zh;refine T.xh.ok VA (λl H Q E h=>?_) (λX A B s H l Q E g h=>?_)
  . refine AB λJ=>?_;obtain⟨O,C,W,rfl,_⟩:=h;refine J ?_;try clear J
    rfl
  . refine AB λJ=>?_;obtain⟨O,C,W,rfl,I,M,m,k⟩:=h;refine J ?_;try clear J
    have o:=VA.nd;refine⟨_,(Ac (BA (XA (osc:=A7 Nw) [] rfl (KL (K:=K) (by rfl) T.bu (Av 0)) rfl rfl (by decide+kernel) (by decide+kernel) (by decide+kernel) trivial rfl rfl (by decide+kernel) (λ_ _ _ _=>Gb (Ga (A9 F g (AG (Av 1) AQ)))) (λ_ _ _ _=>(Av 0))))),?_⟩;have u:An=16777216:=Dg;have Z:=M.bj;refine⟨_,rfl,O,rfl,⟨_,AV I⟩,WG (K:=K) (xs:=C) (λi _=>J8 W i) (λi _=>.int (i:Int)) (by(first|lia|omega)) (λU s1=>AV (s1 _ _ I)) (λi x p r t U R _ _ e q=>⟨p,_,rfl,Ao e,rfl,_,_,rfl,_,_,rfl,rfl,q⟩) (λi x U R N s1 q=>?_) (λi x U R N _ s1 q=>⟨_,rfl,q _ (CS _)⟩) λU s1 D L=>?_⟩
    . refine AB λJ=>?_;obtain⟨a,S,rfl,d,b⟩:=M.at N;refine J ?_;try clear J
      have c:J8 W i=S.br:=by unfold J8;rw[d]
      rw[c]at q;exact⟨_,rfl,a,S,rfl,s1 _ _ b,_,rfl,q U (CS _)⟩
    . refine k _ D (s1.cb L) (s1.ar L) ?_;rw[Az];congr 2;unfold HH;rw[<-Z];have:∀(n:Nat)(Y:List AH),Y.length=n->((Jf (DY n) Y).filter λq=>J8 W q.1).map (λq:Nat×AH=>AH.int (q.1:Int))=((DY n).filter (J8 W)).map λi:Nat=>AH.int (i:Int):=λn Y e=>by
        have f:(DY n)=(Jf (DY n) Y).map Prod.fst:=(List.map_fst_zip (by rw[My];(first|lia|omega))).symm;conv=>rhs;rw[f]
        rw[pI,Cb];rfl
      exact this _ C rfl
noncomputable def Cp(t z d:Int):Int:=((t-z)/d+1)*d
noncomputable def FI(t z d:Int):List Int:=LU (Cp t z d) (t+1) d
noncomputable def L1(t z d:Int):Prop:=1<=d/\d<=1000000/\d<=z/\z<=1000000/\0<=t/\t<=2000000000
noncomputable def eI:Ba:=λD H Q _=>∃t z d:Int,D=[.int t,.int z,.int d]/\L1 t z d/\∀l,H l=AD->Q (.ref l) (AW H l (.lst ((FI t z d).map AH.int)))
theorem L7(Z:L1 t z d):Cp t z d<=t:=by
 refine AB λD=>?_;obtain⟨F,J,U,V,W,Y⟩:=Z;refine D ?_;try clear D
 have h:=Td (t-z) (b:=d) (by(first|lia|omega));unfold Cp;rw[NY,Zc];(first|lia|omega)
theorem Ni(Z:L1 t z d):t<Cp t z d+z:=by
 refine AB λD=>?_;obtain⟨F,J,U,V,W,Y⟩:=Z;refine D ?_;try clear D
 have h:=vK (t-z) (b:=d) (by(first|lia|omega));unfold Cp;(first|lia|omega)
theorem Z0(Z:L1 t z d):Cp t z d-d+z<=t:=by
 refine AB λD=>?_;obtain⟨F,J,U,V,W,Y⟩:=Z;refine D ?_;try clear D
 have h:=Td (t-z) (b:=d) (by(first|lia|omega));unfold Cp;rw[NY,Zc];(first|lia|omega)
theorem N8(F:L1 t z d):Es (Cp t z d) (t+1) d=((t-Cp t z d)/d).toNat+1:=by
 have h:=L7 F;refine AB λD=>?_;obtain⟨J,U,V,W,Y,Z⟩:=F;refine D ?_;try clear D
 have q:0<=(t-Cp t z d)/d:=Pp (by(first|lia|omega)) (by(first|lia|omega));unfold Es;rw[ABo (by(first|lia|omega)),show t+1-Cp t z d-1=t-Cp t z d by(first|lia|omega)];(first|lia|omega)
theorem e9(D:L1 t z d)(J:k<Es (Cp t z d) (t+1) d):Cp t z d+(k:Int)*d<=t:=by
 have h:=L7 D;rw[N8 D]at J;refine AB λF=>?_;obtain⟨U,V,W,Y,Z,q⟩:=D;refine F ?_;try clear F
 have A:0<=(t-Cp t z d)/d:=Pp (by(first|lia|omega)) (by(first|lia|omega));have B:=Td (t-Cp t z d) (b:=d) (by(first|lia|omega));have C:(k:Int)*d<=(t-Cp t z d)/d*d:=Int.mul_le_mul_of_nonneg_right (by(first|lia|omega)) (by(first|lia|omega));(first|lia|omega)
theorem fA(F:L1 t z d)(k:Nat):t<Cp t z d+(k:Int)*d+z:=by
 have h:=Ni F;refine AB λD=>?_;obtain⟨J,U,V,W,Y,Z⟩:=F;refine D ?_;try clear D
 have q:0<=(k:Int)*d:=Ti (by(first|lia|omega)) (by(first|lia|omega));(first|lia|omega)
theorem fO(D:L1 t z d):Es (Cp t z d) (t+1) d<=1000001:=by
 have h:=Ni D;have J:=L7 D;rw[N8 D];refine AB λF=>?_;obtain⟨U,V,W,Y,Z,q⟩:=D;refine F ?_;try clear F
 have A:0<=(t-Cp t z d)/d:=Pp (by(first|lia|omega)) (by(first|lia|omega));have B:(t-Cp t z d)/d<=t-Cp t z d:=vG _ (by(first|lia|omega));(first|lia|omega)
theorem fB(t z d:Int)(k:Nat):(Cp t z d+(k:Int)*d)%d=0:=by unfold Cp;rw[<-NY];exact Tf _ _
theorem bR{K:Ar}{U:Kk}(T:B0 K Y U):BW P w K Y base Bs 1 U.ux U.ve ["time","size","step"] eI:=by
  refine T.ze.ok U6 (λq H Q E h=>?_) (λW A J s H q Q E R h=>?_)
  . refine AB λD=>?_;obtain⟨t,z,d,rfl,_⟩:=h;refine D ?_;try clear D
    rfl
  . refine AB λD=>?_;obtain⟨t,z,d,rfl,F,k⟩:=h;refine D ?_;try clear D
    have Z:=U6.nd;refine⟨_,(CG (Ax 3 Z (AS W4 (AS JX (AS Rk (AS Mg (Av 0) (Av 1)) (Av 2)) AM) (Av 2))) (Ac (BA (kZ rfl (by rfl) T.ip (by rfl) T.nh (AG (Av 3) (AG (AS JX (Av 0) AM) (AG (Av 2) AQ))))))),?_⟩;have B:=L7 F;have C:=Ni F;have V:=fO F;refine AB λD=>?_;obtain⟨G,I,L,M,N,O⟩:=id F;refine D ?_;try clear D
    refine⟨_,rfl,_,rfl,_,_,rfl,rfl,_,rfl,_,_,rfl,rfl,⟨by(first|lia|omega),by(first|lia|omega)⟩,_,_,rfl,rfl,_,rfl,_,_,rfl,rfl,.inr ⟨by(first|lia|omega),by(first|lia|omega)⟩,?_⟩;refine⟨_,rfl,_,rfl,_,_,rfl,rfl,_,rfl,_,_,_,rfl,⟨by(first|lia|omega),by(first|lia|omega),?_,?_,by(first|lia|omega),by(first|lia|omega),?_⟩,k⟩
    . show-(2^40)<=Cp t z d;(first|lia|omega)
    . show Cp t z d<2^40;(first|lia|omega)
    .exact DE V (by decide)
noncomputable def Zj(D:List Int)(xs:List AH):Prop:=∃l g:Int,xs=[.int (D.length:Int),.int D.sum,.int l,.int g]/\l∈D/\(∀a∈D,l<=a)/\g∈D/\∀a∈D,a<=g
theorem cK{F D:List Int}(h:F.Perm D):F.sum=D.sum:=by induction h with|nil=>rfl|cons x _ J=>rw[X4,X4,J]|swap x y l=>simp only[X4];(first|lia|omega)|trans _ _ a b=>exact a.trans b
theorem fC{t z d:Int}{n:Nat}{s:Int}(h:(FI t z d)[n]?=AA s):s=Cp t z d+(n:Int)*d/\n<Es (Cp t z d) (t+1) d:=by
 have F:=(Bh.mp h).1;have D:n<Es (Cp t z d) (t+1) d:=by unfold FI at F;rw[Mo]at F;exact F
 have:=SE D;unfold FI at h;rw[h]at this;exact⟨De this,D⟩
theorem Qu(D:L1 t z d):x∈FI t z d↔x%d=0/\x<=t/\t-z<x:=by
  constructor
  . intro h;refine AB λF=>?_;obtain⟨n,N,e⟩:=F8.mp h;obtain⟨U,V⟩:=fC (show(FI t z d)[n]?=AA x by rw[<-e];exact B8 _);refine F ?_;try clear F
    rw[U];have a:=e9 D V;have b:=fA D n;exact⟨fB t z d n,a,by(first|lia|omega)⟩
  . intro Z;refine AB λF=>?_;obtain⟨Y,G,H⟩:=Z;have K:=Z0 D;have M:=L7 D;have L:1<=d:=D.1;obtain⟨q,B⟩:=Int.dvd_of_emod_eq_zero Y;refine F ?_;try clear F
    have W:Cp t z d=((t-z)/d+1)*d:=rfl;have C:x=q*d:=by rw[B,Int.mul_comm]
    have E:(t-z)/d+1<=q:=by have:=vH (a:=t-z) (b:=q) (c:=d) (by(first|lia|omega)) (by(first|lia|omega));(first|lia|omega)
    have A:x=Cp t z d+(((q-((t-z)/d+1)).toNat:Nat):Int)*d:=by rw[Tn (by(first|lia|omega)),W,<-NY,C];congr 1;(first|lia|omega)
    have J:(q-((t-z)/d+1)).toNat<Es (Cp t z d) (t+1) d:=by rw[N8 D];have I:0<=(t-Cp t z d)/d:=Pp (by(first|lia|omega)) (by(first|lia|omega));have:(((q-((t-z)/d+1)).toNat:Nat):Int)<=(t-Cp t z d)/d:=Int.le_ediv_of_mul_le (by(first|lia|omega)) (by(first|lia|omega));(first|lia|omega)
    have:=SE J;rw[<-A]at this;exact B9 this
theorem fE(D:L1 t z d)(hz:z<=20*d):(FI t z d).length<=21:=by
 unfold FI;rw[Mo,N8 D];have h:=Ni D;have F:1<=d:=D.1;have:(t-Cp t z d)/d<=20:=by have:=vH (a:=t-Cp t z d) (b:=21) (c:=d) (by(first|lia|omega)) (by(first|lia|omega));(first|lia|omega)
 (first|lia|omega)
noncomputable abbrev Fc:List AJ:=["count","sum","least","greatest"]
noncomputable def Jw(F:AJ)(D:List Int)(v:Int):Prop:=(F="count"/\v=(D.length:Int))\/(F="sum"/\v=D.sum)\/(F="least"/\v∈D/\∀a∈D,v<=a)\/(F="greatest"/\v∈D/\∀a∈D,a<=v)
theorem Zn{B:List Int}(h:Jw C B v)(h':Jw C A u)(p:B.Perm A):v=u:=by
 have U:("count":AJ)≠"sum":=by decide
 have V:("count":AJ)≠"least":=by decide
 have W:("count":AJ)≠"greatest":=by decide
 have Y:("sum":AJ)≠"least":=by decide
 have Z:("sum":AJ)≠"greatest":=by decide
 have q:("least":AJ)≠"greatest":=by decide
 rcases h with⟨e,h⟩|⟨e,h⟩|⟨e,h,J⟩|⟨e,h,J⟩<;>rcases h' with⟨D,g⟩|⟨D,g⟩|⟨D,g,F⟩|⟨D,g,F⟩;.rw[h,g,p.length_eq]
 .exact absurd (e.symm.trans D) U
 .exact absurd (e.symm.trans D) V
 .exact absurd (e.symm.trans D) W
 .exact absurd (D.symm.trans e) U
 .rw[h,g,cK p]
 .exact absurd (e.symm.trans D) Y
 .exact absurd (e.symm.trans D) Z
 .exact absurd (D.symm.trans e) V
 .exact absurd (D.symm.trans e) Y
 .exact vJ (J _ (p.mem_iff.mpr g)) (F _ (p.mem_iff.mp h))
 .exact absurd (e.symm.trans D) q
 .exact absurd (D.symm.trans e) W
 .exact absurd (D.symm.trans e) Z
 .exact absurd (D.symm.trans e) q
 .exact vJ (F _ (p.mem_iff.mp h)) (J _ (p.mem_iff.mpr g))
noncomputable def eW:Ba:=λU H Q _=>L4 (λ(D:AJ)(q:AI)(F:List Int)(J:List AH)=>U=[.str D,.ref q]) (λD _ _ _=>D∈Fc) (λ_ q _ J=>H q=AA (.tup J)) (λ_ _ F J=>Zj F J) (λD _ F _=>∀v:Int,Jw D F v->Q (.int v) H)
theorem cB{K:Ar}{J:Kk}(T:B0 K i J):BW P w K i base Bs 1 J.xx J.yj ["sort","tally"] eW:=by
  refine T.aax.ok VZ (λp H Q E h=>?_) (λR A C s H p Q E r h=>?_)
  . refine AB λU=>?_;obtain⟨W,q,n,o,rfl,_⟩:=h;refine U ?_;try clear U
    rfl
  . refine AB λU=>?_;obtain⟨W,q,n,o,rfl,B,S,G,k⟩:=h;refine U ?_;try clear U
    have I:=VZ.nd;refine⟨_,(Ac (BA (Ef K (Av 1) (LM (K:=K) F.plainAttrs_tuple yR F.type_tuple_index (j9 (K:=K)) (Mi (v:=.ref J.bz) (by rfl) T.abj rfl) (AG (Av 0) AQ))))),?_⟩;refine AB λU=>?_;obtain⟨l,g,rfl,L,M,N,O⟩:=G;have Y:Bw K H q _:=Ao S;have Z:Bw K H J.bz (Fc.map AH.str):=T.abr H;obtain⟨j,d,F⟩:=F8.mp B;refine U ?_;try clear U
    have F:Fc[j]?=AA W:=by rw[<-F];exact B8 d
    have I:Fc.Nodup:=by decide+kernel
    have D:∀m,m<j->Fc[m]?≠AA W:=λm f e=>by obtain⟨b,X⟩:=Bh.mp F;obtain⟨c,a⟩:=Bh.mp e;exact(Je.mp I) m j c b f (a.trans X.symm)
    match j,F,D with |0,F,D=>have e:=(De F).symm;exact⟨_,rfl,.inr (.inl ⟨rfl,T.my⟩),_,rfl,J.bz,Fc,W,0,rfl,rfl,Z,F,D,q,_,_,_,rfl,rfl,Y,Ag (j:=0) rfl,k _ (.inl ⟨e,rfl⟩)⟩|1,F,D=>have e:=(De F).symm;exact⟨_,rfl,.inr (.inl ⟨rfl,T.my⟩),_,rfl,J.bz,Fc,W,1,rfl,rfl,Z,F,D,q,_,_,_,rfl,rfl,Y,Ag (j:=1) rfl,k _ (.inr (.inl ⟨e,rfl⟩))⟩|2,F,D=>have e:=(De F).symm;exact⟨_,rfl,.inr (.inl ⟨rfl,T.my⟩),_,rfl,J.bz,Fc,W,2,rfl,rfl,Z,F,D,q,_,_,_,rfl,rfl,Y,Ag (j:=2) rfl,k _ (.inr (.inr (.inl ⟨e,L,M⟩)))⟩|3,F,D=>have e:=(De F).symm;exact⟨_,rfl,.inr (.inl ⟨rfl,T.my⟩),_,rfl,J.bz,Fc,W,3,rfl,rfl,Z,F,D,q,_,_,_,rfl,rfl,Y,Ag (j:=3) rfl,k _ (.inr (.inr (.inr ⟨e,N,O⟩)))⟩
structure IK(kvs:List (AR×AH))(S:Int->Prop):Prop where
 nd:(kvs.map (·.1)).Nodup
 aeg:∀k∈kvs.map (·.1),∃b,k=.inl b/\S b
 vx:∀b,S b->(BP b:AR)∈kvs.map (·.1)
theorem Zd:IK [] (λ_=>False):=⟨.nil,λk D=>(by cases D),λb h=>h.elim⟩
theorem IK.aba(h:IK kvs S)(e:∀b,S b↔D b):IK kvs D:=⟨h.nd,λk F=>let⟨b,q,r⟩:=h.aeg k F;⟨b,q,(e b).mp r⟩,λb q=>h.vx b ((e b).mpr q)⟩
theorem IK.acr(h:IK kvs S)(b:Int)(v:AH):IK (Bq kvs (.inl b) v) (λx=>S x\/x=b):=by
  have F:=RY kvs (.inl b:AR) v;have D:∀k,k∈(Bq kvs (.inl b:AR) v).map (·.1)↔k∈kvs.map (·.1)\/k=.inl b:=λk=>by
    rw[F];split;. rename_i U;exact⟨.inl,λq=>q.elim id λe=>by rw[e];exact U⟩
    .rw[CT,Bl]
  refine⟨Ww h.nd,λk F=>?_,λx W=>?_⟩
  . rcases(D k).mp F with q|q
    . refine AB λJ=>?_;obtain⟨c,e,r⟩:=h.aeg k q;refine J ?_;try clear J
      exact⟨c,e,.inl r⟩
    .exact⟨b,q,.inr rfl⟩
  . refine(D _).mpr ?_;rcases W with q|q;.exact .inl (h.vx x q)
    .exact .inr (by rw[q])
theorem IK.aey{kvs:List (AR×AH)}(h:IK kvs S){ks:List AR}(p:ks.Perm (kvs.map (·.1)))(Y:ks.Pairwise λa b=>Dl b a=AO):∃bs:List Int,ks=bs.map BP/\bs.Pairwise (.<.)/\∀b,b∈bs↔S b:=by
  refine AB λD=>?_;obtain⟨bs,rfl⟩:∃bs:List Int,ks=bs.map BP:=by refine⟨ks.map λq=>match q with|.inl x=>x|.inr _=>0,?_⟩;rw[Cb];refine((KR (g:=id) λq U=>?_).trans (SW _)).symm;obtain⟨i,rfl,_⟩:=h.aeg q (p.mem_iff.mp U);rfl
  refine D ?_;try clear D
  refine⟨bs,rfl,?_,λb=>?_⟩
  . have W:=F9.mp (p.nodup_iff.mpr h.nd);have s2:=F9.mp Y;refine(W.and s2).imp λ{a b}h=>?_;have A:¬b<a:=λq=>by have:=h.2;have t:Dl (BP b) (BP a)=AZ (b<a):=rfl;rw[t,ABq q]at this;cases this
    have Z:a≠b:=λe=>h.1 (by rw[e]);(first|lia|omega)
  . constructor
    . intro F;refine AB λD=>?_;obtain⟨c,e,r⟩:=h.aeg _ (p.mem_iff.mp (BH.mpr ⟨b,F,rfl⟩:(BP b:AR)∈bs.map BP));refine D ?_;try clear D
      rw[Gn e];exact r
    . intro F;refine AB λD=>?_;obtain⟨c,J,e⟩:=BH.mp (p.mem_iff.mpr (h.vx b F));refine D ?_;try clear D
      rw[<-Gn e];exact J
theorem IK.agl(h:IK kvs S):∀p∈kvs,∃i,p.1=.inl i:=λp D=>let⟨b,e,_⟩:=h.aeg _ (BH.mpr ⟨p,D,rfl⟩);⟨b,e⟩
noncomputable def Dx(q:Int×Int):List AR:=[.inl q.1,.inl q.2]
theorem Hm{l:List α}(e:l[n]?=AA x)(y:α):y∈l.take (n+1)↔y∈l.take n\/y=x:=by rw[DD,e];simp
noncomputable def dI:Ba:=λW H Q _=>L5 (λ(l:AI)(D:List Int)(z d:Int)=>W=[.ref l,.int z,.int d]) (λl D _ _=>H l=AA (.lst (D.map AH.int))) (λ_ D _ _=>D.length<=1000) (λ_ D z d=>(∀t∈D,L1 t z d)) (λ_ _ z d=>z<=20*d) (λ_ D z d=>∀F r U(J:List (Int×Int)),Ak H F->H r=AD->F r=AA (.lst U)->Bv F U (J.map Dx)->(J.map (·.1)).Pairwise (.<.)->(∀b e,(b,e)∈J↔e=b+z/\∃t∈D,b∈FI t z d)->J.length<=21*D.length->Q (.ref r) F)
theorem aV{K:Ar}{ad:Kk}(T:B0 K mg ad):BW P w K mg base Bs 2 ad.eh ad.fh ["times","size","step"] dI:=by
  have U:=gF.mk (bR (P:=P) (w:=w) (base:=base) T) T.acm T.ze.kp T.acd;refine T.kh.ok Ut (λvs H Q E h=>?_) (λcdv A outer s H vs Q E hr h=>?_)
  . refine AB λJ=>?_;obtain⟨l,f,z,d,rfl,_⟩:=h;refine J ?_;try clear J
    rfl
  . refine AB λJ=>?_;obtain⟨l,f,z,d,rfl,el,lts,hW,hz,k⟩:=h;refine J ?_;try clear J
    have nd:=Ut.nd;refine⟨_,(Aq (Ax 3 nd Ol) (Aq (Dp Dr rfl (Cm (K:=K) (AE 0)) (Cr 4 nd) (Ac (E4 (Dp Dr rfl (Cm (K:=K) (A9 U hr (AG (AE 4) (AG (AE 1) (AG (AE 2) AQ))))) (Cr 5 nd) (Ac (LN hr.u1 (AE 3) (AE 5) FP rfl)))))) (Ac (BA (Ee (A7 Nq) [("size",1)] ⟨rfl,rfl,trivial⟩ (Cm (K:=K) (CN (gX rfl) (by rfl) T.fu Sl (AG (AE 3) AQ))) (λ_ _ _ _=>F5) (λ_ _ _ _=>(CL (AG (AE 0) (AG (AS CC (AE 0) (AE 1)) AQ))))))))),?_⟩;have sz:An=16777216:=Dg;refineλ_ _ _ _ z1 N p=>z1 _ _ ?_;refine As (o:=.dK []) p λH0 s0 ed0=>?_;refineλ_ _ _ _ z2=>⟨l,rfl,⟨_,AV (s0 _ _ el)⟩,Fm (K:=K) (xs:=f.map AH.int) (λn M B=>Hk (λ(o4 X:Option AH)(F:List (AR×AH))=>M=[AA (.ref l),AA (.int z),AA (.int d),AA (.ref N),o4,X]) (λ_ _ _=>Ak H B) (λ_ _ F=>B N=AA (.dK F)) (λ_ _ F=>IK F (λb=>∃t∈f.take n,b∈FI t z d)) (λ_ _ F=>F.length<=21*n)) ⟨AD,AD,[],rfl,s0,ed0,Zd.aba λb=>by simp,Bd _⟩ (λn M B _ hh=>by obtain⟨_,_,_,_,s',_⟩:=hh;exact AV (s' _ _ el)) ?_ ?_⟩
    . intro n y M H1 O Y;refine AB λJ=>?_;obtain⟨o4,X,F,rfl,s1,L,a,lk⟩:=Y;rw[BV]at O;obtain⟨t,ht,rfl⟩:=Co.mp O;refine J ?_;try clear J
      have hn:n<f.length:=(Bh.mp ht).1;have W:=hW t (B9 ht);have lst:=fE W hz;refineλ_ _ _ _ z3=>⟨t,z,d,rfl,W,λst v=>?_⟩;refine As (o:=.lst ((FI t z d).map AH.int)) v λH2 s2 i=>?_;have nsd:st≠N:=(B6 L v).symm;refine⟨st,rfl,⟨_,AV i⟩,Fm (K:=K) (xs:=(FI t z d).map AH.int) (λm M B=>Py (λ(X:Option AH)(F:List (AR×AH))=>M=[AA (.ref l),AA (.int z),AA (.int d),AA (.ref N),AA (.int t),X]) (λ_ _=>Gx N H2 B) (λ_ F=>B N=AA (.dK F)) (λ_ F=>IK F (λb=>(∃t∈f.take n,b∈FI t z d)\/b∈(FI t z d).take m)) (λ_ F=>F.length<=21*n+m)) ⟨_,F,rfl,(CS _).x _,s2 _ _ L,a.aba λb=>by simp,lk⟩ (λm M B _ hh=>by obtain⟨_,_,_,x',_⟩:=hh;exact AV (x' _ _ nsd i)) ?_ ?_⟩
      . intro m y M H3 O Y;refine AB λJ=>?_;obtain⟨X,F,rfl,x3,R,I,lk3⟩:=Y;rw[BV]at O;obtain⟨b,Z,rfl⟩:=Co.mp O;refine J ?_;try clear J
        have hm:m<(FI t z d).length:=(Bh.mp Z).1;refine⟨N,_,rfl,Kx (k:=.inl b) R (by(first|lia|omega)),?_⟩;refine⟨_,Bq F (.inl b) (.bl AF),rfl,λc o nc e=>?_,Az,(I.acr b _).aba λx=>?_,?_⟩;.rw[BC nc];exact x3 c o nc e
        .rw[Hm Z,or_assoc]
        .have:=Ra F (BP b:AR) (.bl AF);(first|lia|omega)
      . intro M H3 Y;refine AB λJ=>?_;obtain⟨X,F,rfl,x3,R,I,lk3⟩:=Y;refine J ?_;try clear J
        rw[Am,Cn (Af _)]at I;refine z3 _ _ ⟨_,_,F,rfl,λc o e=>?_,R,I.aba λb=>?_,by rw[Am]at lk3;(first|lia|omega)⟩;.exact x3 c o (λq=>by rw[q,p]at e;cases e) (s2 _ _ (s1 _ _ e))
        . constructor
          . rintro(⟨t',S,Z⟩|Z);.exact⟨t',(Hm ht t').mpr (.inl S),Z⟩
            .exact⟨t,(Hm ht t).mpr (.inr rfl),Z⟩
          . intro Y;refine AB λJ=>?_;obtain⟨t',S,Z⟩:=Y;refine J ?_;try clear J
            rcases(Hm ht t').mp S with q|q;.exact .inl ⟨t',q,Z⟩
            .exact .inr (by rw[<-q];exact Z)
    . intro M H1 Y;refine AB λJ=>?_;obtain⟨o4,X,F,rfl,s1,L,a,lk⟩:=Y;refine J ?_;try clear J
      rw[Am]at a lk;rw[Cn (Af _)]at a;refine z2 _ _ ⟨N,F,rfl,L,.inl a.agl,λsl ks hsl pk sk=>?_⟩;refine AB λJ=>?_;obtain⟨G,rfl,up,mem⟩:=a.aey pk sk;refine J ?_;try clear J
      have lbs:G.length<=21*f.length:=by have:=pk.length_eq;simp only[Am]at this;(first|lia|omega)
      rw[show(G.map (BP:Int->AR)).map Al=G.map AH.int by rw[Cb];rfl];refine As (o:=.lst (G.map AH.int)) hsl λH2 s2 g=>?_;refine⟨sl,rfl,⟨_,AV g⟩,?_⟩;refine Gy (K:=K) (xs:=G.map AH.int) (λj τ C B=>(∃o,τ=[o,AA (.int z)])/\Ak H2 B/\Bv B C (((G.take j).map λb=>(b,b+z)).map Dx)) (by rw[Am];(first|lia|omega)) ⟨⟨AD,rfl⟩,CS _,Fq _⟩ (λj τ C B⟨_,s',_⟩=>AV (s' _ _ g)) ?_ ?_
      . intro j y τ C H3 R1 O _ Y k1;refine AB λJ=>?_;obtain⟨⟨o,rfl⟩,s3,hw⟩:=Y;rw[BV]at O;obtain⟨b,Z,rfl⟩:=Co.mp O;refine J ?_;try clear J
        refine⟨BF rfl,λr u=>k1 _ _ _ ⟨⟨_,rfl⟩,s3.cb u,?_⟩⟩;rw[DD,Z,Bx,Bx];exact(hw.ae (Cz u).tp).ft Az
      . intro τ C H3 la Y D hD;refine AB λJ=>?_;obtain⟨_,s3,hw⟩:=Y;refine J ?_;try clear J
        rw[Am,Cn (Af _)]at hw;have S3:=(s1.aa s2).aa s3;refine k _ D C (G.map λb=>(b,b+z)) (S3.cb hD) (S3.ar hD) Az (hw.ae (Cz hD).tp) ?_ (λb e=>?_) (by rw[Am];exact lbs)
        . have e:(G.map λb=>(b,b+z)).map (·.1)=G:=by rw[Cb];exact SW _
          rw[e];exact up
        . rw[<-mem b];constructor
          . intro h;refine AB λJ=>?_;obtain⟨c,hc,e⟩:=BH.mp h;cases e;refine J ?_;try clear J
            exact⟨rfl,hc⟩
          . rintro⟨rfl,Z⟩;exact BH.mpr ⟨b,Z,rfl⟩
noncomputable def cX(q B A:A1):Cd:=λD J H=>A J H λv Y=>q J Y λx Z=>B J Z λy U=>Tu (λ(l:AI)(F:List AH)(W:AH)=>x=.ref l) (λ_ _ _=>y=.int (-1)) (λl F W=>U l=AA (.lst (F++[W]))) (λl F _=>D.nx J (AW U l (.lst (F++[v]))))
theorem Vb(v:α):∀(xs:List α)(D:α),(xs++[D]).set xs.length v=xs++[v]|[],_=>rfl|x::xs,D=>by rw[Mt,FT,List.set_cons_succ,Vb v xs D];rfl
section
variable{X:BR}{o i value:BD}{pos pos':Ce}{td ty tv:A1}
unseal Ae DW in theorem cQ(ho:Ae X o td)(hi:Ae X i ty)(hv:Ae X value tv)(hs:JB value (AA (.Subscript o i pos')) pos.line X.af=BB AO):DW X (.Assign [.Subscript o i pos'] value pos) (cX td ty tv):=by
 intro pins s σ H D I h;refine AAU (A2 (hv pins s σ H _ I h) λr s1⟨v,H1,I1,rv,q1⟩=>A2 (ho pins s1 σ H1 _ I1 q1) λu s2⟨x,H2,I2,rx,q2⟩=>A2 (hi pins s2 σ H2 _ I2 q2) λiv s3⟨y,H3,I3,ry,l,xs,x0,ex,ey,e,q3⟩=>?_) hs;subst ex ey;refine AB λnG=>?_;obtain rfl:u=C8 l:=rx;obtain⟨t,rfl⟩:=ry;obtain⟨z,its,n,rs,hl,e'⟩:=I3.abm e;refine nG ?_;try clear nG
 have len:=rs.ak;rw[CY,Hx]at len;have sz:An=16777216:=Dg;have hk:((-1:Int)+(its.toArray.size:Int)).toNat=xs.length:=by rw[DQ];(first|lia|omega)
 refine W.ki_setBack e' (by decide) (by rw[DQ];(first|lia|omega)) (by decide) ?_;rw[hk];have rs':=Xo rv rs xs.length;rw[Vb]at rs';exact⟨σ,_,I3.aes (its':=its.set xs.length r) (t':=s3.toks) e e' (by simp) rs' (by rw[CY]at*;simp at*;(first|lia|omega)),q3⟩
end
theorem Uj:∀{ys:List J}{xs:List α},Bm F xs (ys++[y])->∃D x,xs=D++[x]/\Bm F D ys/\F x y
 |[],xs,h=>by cases h with|cons a b=>cases b;exact⟨[],_,rfl,.nil,a⟩
 |b::ys,xs,h=>by cases h with|cons a h=>
  refine AB λU=>?_;obtain⟨D,x,rfl,p,q⟩:=Uj h;refine U ?_;try clear U
  exact⟨_::D,x,rfl,.cons a p,q⟩
structure JI(m:Int)(ts:List Int)(ps:List (Int×Int)):Prop where
 ap:ps.Pairwise λa b=>a.2+m<b.1
 le:∀p∈ps,p.1<=p.2
 afa:∀t∈ts,∃p∈ps,p.1<=t/\t<=p.2
 lo:∀p∈ps,p.1∈ts
 hi:∀p∈ps,p.2∈ts
 co:∀p∈ps,∀t∈ts,p.1<=t->t<p.2->∃t'∈ts,t<t'/\t'<=t+m
noncomputable def Hg(m:Int)(D:List Int)(b l:Int):Prop:=b∈D/\l∈D/\b<=l/\(∀t∈D,t<b->t+m<b)/\(∀t∈D,l<t->l+m<t)/\∀t∈D,b<=t->t<l->∃F∈D,t<F/\F<=t+m
theorem UX:∀{l:List Int},l≠[]->∃x∈l,∀y∈l,y<=x
  |[],h=>absurd rfl h|[a],_=>⟨a,.head _,λy D=>by rw[Bl.mp D];exact Jv _⟩|a::b::l,_=>by
    refine AB λF=>?_;obtain⟨x,J,q⟩:=UX (l:=b::l) (by simp);refine F ?_;try clear F
    by_cases h:a<=x
    . refine⟨x,E5 _ J,λy D=>?_⟩;rcases B7.mp D with rfl|D;.exact h
      .exact q y D
    . refine⟨a,.head _,λy D=>?_⟩;rcases B7.mp D with rfl|D;.exact Jv _
      .have:=q y D;(first|lia|omega)
theorem JI.aff(h:JI m Z V){p q:Int×Int}(W:p∈V)(Y:q∈V):p=q\/p.2+m<q.1\/q.2+m<p.1:=by
 refine AB λU=>?_;obtain⟨i,F,e⟩:=F8.mp W;obtain⟨j,J,D⟩:=F8.mp Y;refine U ?_;try clear U
 have g:=Je.mp h.ap;rcases X6 i j with q|q|q
 . have:=g i j F J q;rw[e,D]at this;exact .inr (.inl this)
 . subst q;exact .inl (e.symm.trans D)
 . have:=g j i J F q;rw[e,D]at this;exact .inr (.inr this)
theorem JI.ahc(h:JI m I T)(c:0<=m)(b l:Int):(b,l)∈T↔Hg m I b l:=by
  constructor
  . intro D;have C:b<=l:=h.le _ D;refine⟨h.lo _ D,h.hi _ D,C,λt W q=>?_,λt W q=>?_,λt W q r=>h.co _ D t W q r⟩
    . refine AB λU=>?_;obtain⟨p,F,Z,V⟩:=h.afa t W;refine U ?_;try clear U
      rcases h.aff D F with e|e|e
      . rw[<-e]at Z;have:b<=t:=Z;(first|lia|omega)
      . have:l+m<p.1:=e;(first|lia|omega)
      . have:p.2+m<b:=e;(first|lia|omega)
    . refine AB λU=>?_;obtain⟨p,F,Z,V⟩:=h.afa t W;refine U ?_;try clear U
      rcases h.aff D F with e|e|e;. rw[<-e]at V;have:t<=l:=V;(first|lia|omega)
      . have:l+m<p.1:=e;(first|lia|omega)
      . have:p.2+m<b:=e;(first|lia|omega)
  . intro O;refine AB λU=>?_;obtain⟨P,R,Q,i1,i2,B⟩:=O;obtain⟨p,D,Z,V⟩:=h.afa b P;refine U ?_;try clear U
    have M:p.1=b:=by
      by_cases e:p.1=b;.exact e
      . exfalso;obtain⟨x,S,H⟩:=UX (l:=I.filter λt=>AZ (t<b)) (pR (DX.mpr ⟨h.lo p D,ABq (by(first|lia|omega))⟩));obtain⟨K,E⟩:=DX.mp S;have E:=ABs E;have X:=H p.1 (DX.mpr ⟨h.lo p D,ABq (by(first|lia|omega))⟩);obtain⟨Y,J,A,G⟩:=h.co p D x K X (by(first|lia|omega));have i:=i1 x K E;have:=H Y (DX.mpr ⟨J,ABq (by(first|lia|omega))⟩);(first|lia|omega)
    have N:p.2=l:=by
      rcases Zb p.2 l with q|q|q
      . obtain⟨Y,J,A,G⟩:=B p.2 (h.hi p D) V q;obtain⟨d,F,a,L⟩:=h.afa Y J;have:=h.le p D;rcases h.aff D F with e|e|e;.rw[<-e]at L;(first|lia|omega)
        . (first|lia|omega)
        . (first|lia|omega)
      .exact q
      . obtain⟨Y,J,A,G⟩:=h.co p D l R (by(first|lia|omega)) q;have:=i2 Y J A;(first|lia|omega)
    rw[<-M,<-N];exact D
theorem JI.abx(h:JI m B V)(J:∀p∈V,p.2+m<t)(C:0<=m):JI m (B++[t]) (V++[(t,t)]):=by
  have W:∀{R:Int×Int->Prop},(∀p∈V,R p)->R (t,t)->∀p∈V++[(t,t)],R p:=λa b p D=>by
    rcases CT.mp D with D|D;.exact a p D
    .rw[Bl.mp D];exact b
  refine⟨?_,W h.le (Jv _),λx F=>?_,W (λp D=>Fs _ (h.lo p D)) (ET _ (.head _)),W (λp D=>Fs _ (h.hi p D)) (ET _ (.head _)),W (λp D x F a b=>?_) λx F a b=>?_⟩
  . refine La.mpr ⟨h.ap,wM _ _,λp D q Z=>?_⟩;rw[Bl.mp Z];exact J p D
  . rcases CT.mp F with F|F
    . refine AB λU=>?_;obtain⟨p,D,c⟩:=h.afa x F;refine U ?_;try clear U
      exact⟨p,Fs _ D,c⟩
    . rw[Bl.mp F];exact⟨(t,t),ET _ (.head _),Jv _,Jv _⟩
  . rcases CT.mp F with F|F
    . refine AB λU=>?_;obtain⟨A,Y,c⟩:=h.co p D x F a b;refine U ?_;try clear U
      exact⟨A,Fs _ Y,c⟩
    . have:=J p D;have:=Bl.mp F;(first|lia|omega)
  . have a:t<=x:=a;have b:x<t:=b;(first|lia|omega)
theorem JI.ahl(h:JI m E (W++[(a,l)]))(H:∀x∈E,x<=t)(G:t-l<=m)(N:0<=m):JI m (E++[t]) (W++[(a,t)]):=by
  have Z:(a,l)∈W++[(a,l)]:=ET _ (.head _);have U:∀p∈W,p∈W++[(a,l)]:=λp D=>Fs _ D;have O:l<=t:=H l (h.hi _ Z);have M:a<=l:=h.le _ Z;refine AB λJ=>?_;obtain⟨I,_,Y⟩:=La.mp h.ap;refine J ?_;try clear J
  have Y:∀p∈W,p.2+m<a:=λp D=>Y p D _ (.head _);have A:∀{R:Int×Int->Prop},(∀p∈W,R p)->R (a,t)->∀p∈W++[(a,t)],R p:=λa b p D=>by
    rcases CT.mp D with D|D;.exact a p D
    .rw[Bl.mp D];exact b
  refine⟨?_,A (λp D=>h.le p (U p D)) (by show a<=t;(first|lia|omega)),λx F=>?_,A (λp D=>Fs _ (h.lo p (U p D))) (Fs _ (show a∈E from h.lo _ Z)),A (λp D=>Fs _ (h.hi p (U p D))) (ET _ (.head _)),A (λp D x F b c=>?_) λx F b c=>?_⟩
  . refine La.mpr ⟨I,wM _ _,λp D q L=>?_⟩;rw[Bl.mp L];exact Y p D
  . rcases CT.mp F with F|F
    . refine AB λJ=>?_;obtain⟨p,D,B,K⟩:=h.afa x F;refine J ?_;try clear J
      rcases CT.mp D with D|D;.exact⟨p,Fs _ D,B,K⟩
      . rw[Bl.mp D]at B;exact⟨(a,t),ET _ (.head _),B,H x F⟩
    . rw[Bl.mp F];exact⟨(a,t),ET _ (.head _),by show a<=t;(first|lia|omega),Jv _⟩
  . rcases CT.mp F with F|F
    . refine AB λJ=>?_;obtain⟨C,V,c⟩:=h.co p (U p D) x F b c;refine J ?_;try clear J
      exact⟨C,Fs _ V,c⟩
    . have:=Y p D;have:=Bl.mp F;(first|lia|omega)
  . have b:a<=x:=b;have c:x<t:=c;rcases CT.mp F with F|F
    . by_cases q:x<l
      . refine AB λJ=>?_;obtain⟨C,V,c⟩:=h.co _ Z x F b q;refine J ?_;try clear J
        exact⟨C,Fs _ V,c⟩
      .exact⟨t,ET _ (.head _),c,by(first|lia|omega)⟩
    . have:=Bl.mp F;(first|lia|omega)
noncomputable def dP:Ba:=λW H Q _=>Nb (λ(l:AI)(D:List Int)(m:Int)=>W=[.ref l,.int m]) (λl D _=>H l=AA (.lst (D.map AH.int))) (λ_ D _=>D.length<=1000) (λ_ _ m=>0<=m) (λ_ D _=>D.Pairwise (.<=.)) (λl D m=>∀F r U(J:List (Int×Int)),Ak H F->H r=AD->F r=AA (.lst U)->Bv F U (J.map Dx)->(J.map (·.1)).Pairwise (.<.)->(∀b e,(b,e)∈J↔∃l,e=l+m+1/\Hg m D b l)->J.length<=D.length->Q (.ref r) F)
theorem aY{K:Ar}{ad:Kk}(T:B0 K mg ad):BW P w K mg base Bs 1 ad.gi ad.gv ["times","most"] dP:=by
  refine T.nt.ok Uv (λvs H Q E h=>?_) (λcdv A outer s H vs Q E hr h=>?_)
  . refine AB λnG=>?_;obtain⟨l,ts,m,rfl,_⟩:=h;refine nG ?_;try clear nG
    rfl
  . refine AB λnG=>?_;obtain⟨l,ts,m,rfl,el,lts,hm,up,k⟩:=h;refine nG ?_;try clear nG
    have nd:=Uv.nd;refine⟨_,(Aq (Ax 2 nd (CJ AQ)) (Aq (Dp Dr rfl (Cm (K:=K) (Av 0)) (Cr 3 nd) (Ac (E4 (Bc (Fj (G6 (BK Ca (CN (OQ (K:=K)) (by rfl) T.ke ID (AG (Av 2) AQ)) AM (BL _)) (Im (BK W3 (AS Mg (Av 3) (Ef K (R6 K (Av 2) (Oq Oz AM)) AM)) (Av 1) (BL _))))) (Ac (D4 (Ed K (Av 2) (AG (CL (AG (Av 3) (AG (Av 3) AQ))) AQ)))) (Ac (cQ (Av 2) (Oq Oz AM) (CL (AG (Ef K (R6 K (Av 2) (Oq Oz AM)) AM) (AG (Av 3) AQ))) rfl)))))) (Ac (BA (XA (osc:=A7 Nr) [("most",1)] rfl (Cm (K:=K) (Av 2)) rfl rfl (by decide+kernel) (by decide+kernel) (by decide+kernel) ⟨rfl,rfl,trivial⟩ rfl rfl (by decide+kernel) (λ_ _ _ _=>F5) (λ_ _ _ _=>(CL (AG (Av 0) (AG (AS JX (AS JX (Av 1) (Av 2)) AM) AQ))))))))),?_⟩;have sz:An=16777216:=Dg;refineλ_ _ _ _ z1=>⟨Bd _,λpl hpl=>z1 _ _ ?_⟩;refine As (o:=.lst []) hpl λH0 s0 ep0=>?_;refineλ_ _ _ _ z2=>⟨_,rfl,l,rfl,⟨_,AV (s0 _ _ el)⟩,Fm (K:=K) (xs:=ts.map AH.int) (λn σ H'=>Nb (λ(o3:Option AH)(xs:List AH)(ps:List (Int×Int))=>σ=[AA (.ref l),AA (.int m),AA (.ref pl),o3]) (λ_ _ _=>Ak H H') (λ_ xs _=>H' pl=AA (.lst xs)) (λ_ xs ps=>Bv H' xs (ps.map Dx)) (λ_ _ ps=>JI m (ts.take n) ps) (λ_ _ ps=>ps.length<=n)) ⟨AD,[],[],rfl,s0,ep0,Fq _,⟨.nil,(λp hp=>by cases hp),(λt ht=>by cases ht),(λp hp=>by cases hp),(λp hp=>by cases hp),λp hp=>by cases hp⟩,Af _⟩ (λn σ H' _ hh=>by obtain⟨_,_,_,_,s',_⟩:=hh;exact AV (s' _ _ el)) ?_ ?_⟩
    . intro n y σ H1 hy hI;refine AB λnG=>?_;obtain⟨o3,xs,ps,rfl,s1,ep1,hw,gd,lp⟩:=hI;rw[BV]at hy;obtain⟨t,ht,rfl⟩:=Co.mp hy;refine nG ?_;try clear nG
      have hn:n<ts.length:=(Bh.mp ht).1;have lx:xs.length=ps.length:=by rw[hw.bj,Am]
      have tk:ts.take (n+1)=ts.take n++[t]:=by rw[DD,ht];rfl
      have before:∀x∈ts.take n,x<=t:=λx hx=>by obtain⟨i,hi,e⟩:=F8.mp hx;rw[Eh]at hi;rw[wD]at e;have e2:=(Bh.mp ht).2;have:=Je.mp up i n (by(first|lia|omega)) hn (by(first|lia|omega));rw[e,e2]at this;exact this
      have add:(∀p∈ps,p.2+m<t)->∀q,H1 q=AD->Ak H (AW (AW H1 q (.tup [.int t,.int t])) pl (.lst (xs++[.ref q])))/\Bv (AW (AW H1 q (.tup [.int t,.int t])) pl (.lst (xs++[.ref q]))) (xs++[.ref q]) ((ps++[(t,t)]).map Dx)/\JI m (ts.take (n+1)) (ps++[(t,t)])/\(ps++[(t,t)]).length<=n+1:=λfar q hq=>by
        refine As (o:=.tup [.int t,.int t]) hq λH2 s2 eq=>?_;have tp:CM H2 (AW H2 pl (.lst (xs++[.ref q]))):=(ER H2).cb (s2 _ _ ep1) λxs=>by intro z;cases z
        refine⟨(s1.aa s2).dw hpl,?_,by rw[tk];exact gd.abx far hm,by rw[CY];simp;(first|lia|omega)⟩;rw[Bx];exact(hw.ae (s2.tp.aa tp)).ft (tp _ _ eq)
      refineλ_ _ _ _ z3=>⟨_,rfl,pl,_,rfl,.inl (AV ep1),rfl,_,rfl,?_⟩;rcases List.eq_nil_or_concat ps with rfl|⟨qs,⟨a,e⟩,rfl⟩;. have ex:xs=[]:=Xw.mp lx;subst ex;exact HN ⟨_,rfl,.inl ⟨rfl,_,AV ep1⟩,_,rfl,_,rfl,BF rfl,λq hq=>⟨pl,_,_,rfl,rfl,(Cz hq) _ _ ep1,by simp;(first|lia|omega),have A:=add (λp hp=>by cases hp) q hq;z3 _ _ ⟨_,_,_,rfl,A.1,Az,A.2.1,A.2.2.1,A.2.2.2⟩⟩⟩
      . rw[List.concat_eq_append]at*;rw[Bx]at hw;refine AB λnG=>?_;obtain⟨ys,x,rfl,hwq,b,rfl,eb⟩:=Uj hw;refine nG ?_;try clear nG
        have eb:H1 b=AA (.tup [.int a,.int e]):=eb;have ne:¬((ys++[AH.ref b]).length:Int)=0:=by rw[CY];simp;(first|lia|omega)
        refine Fo (λh=>absurd h ne) λ_=>⟨_,rfl,_,rfl,_,rfl,pl,_,_,_,rfl,rfl,AV ep1,V3 _ _,b,_,_,_,rfl,rfl,Ao eb,Ag (j:=1) rfl,_,_,rfl,rfl,_,rfl,_,_,rfl,rfl,_,rfl,F3 (λh=>?_) λh=>?_⟩
        . have h:t-e>m:=h;refine⟨_,rfl,.inl ⟨rfl,_,AV ep1⟩,_,rfl,_,rfl,BF rfl,λq hq=>⟨pl,_,_,rfl,rfl,(Cz hq) _ _ ep1,by(first|lia|omega),have A:=add (λp hp=>?_) q hq;z3 _ _ ⟨_,_,_,rfl,A.1,Az,A.2.1,A.2.2.1,A.2.2.2⟩⟩⟩;have hl:(a,e)∈qs++[(a,e)]:=ET _ (.head _);rcases CT.mp hp with hp|hp
          . have h1:p.2+m<a:=(La.mp gd.ap).2.2 p hp _ (.head _);have h2:a<=e:=gd.le _ hl;(first|lia|omega)
          . rw[Bl.mp hp];show e+m<t;(first|lia|omega)
        . have h:¬t-e>m:=h;refine⟨_,rfl,_,rfl,pl,_,_,_,rfl,rfl,AV ep1,V3 _ _,b,_,_,_,rfl,rfl,Ao eb,Ag (j:=0) rfl,_,rfl,BF rfl,λq hq=>?_⟩;refine As (o:=.tup [.int a,.int t]) hq λH2 s2 eq=>?_;have tp:CM H2 (AW H2 pl (.lst (ys++[.ref q]))):=(ER H2).cb (s2 _ _ ep1) λxs=>by intro z;cases z
          refine⟨_,rfl,_,rfl,pl,ys,_,rfl,rfl,s2 _ _ ep1,z3 _ _ ⟨_,ys++[.ref q],qs++[(a,t)],rfl,(s1.aa s2).dw hpl,Az,?_,by rw[tk];exact gd.ahl before (by(first|lia|omega)) hm,by rw[CY]at lp⊢;simp at lp⊢;(first|lia|omega)⟩⟩;rw[Bx];exact(Bv.ae hwq (s2.tp.aa tp)).ft (tp _ _ eq)
    . intro σ H1 hI;refine AB λnG=>?_;obtain⟨o3,xs,ps,rfl,s1,ep1,hw,gd,lp⟩:=hI;refine nG ?_;try clear nG
      rw[Am]at gd lp;rw[Cn (Af _)]at gd;have lx:xs.length=ps.length:=by rw[hw.bj,Am]
      refine z2 _ _ ⟨_,rfl,pl,rfl,⟨_,AV ep1⟩,?_⟩;refine Gy (K:=K) (xs:=xs) (λj τ acc H'=>(∃o o',τ=[o,o',AA (.int m)])/\Ak H1 H'/\Bv H' acc (((ps.take j).map λq=>(q.1,q.2+m+1)).map Dx)) (by(first|lia|omega)) ⟨⟨AD,AD,rfl⟩,CS _,Fq _⟩ (λj τ acc H'⟨_,s',_⟩=>AV (s' _ _ ep1)) ?_ ?_
      . intro j y τ acc H2 R1 hy _ hI k1;refine AB λnG=>?_;obtain⟨⟨o,o',rfl⟩,s2,hw2⟩:=hI;obtain⟨b,ks,rfl,ek,eb⟩:=hw.at hy;rw[BV]at ek;obtain⟨q,eq,rfl⟩:=Co.mp ek;refine nG ?_;try clear nG
        have eb:H1 b=AA (.tup [.int q.1,.int q.2]):=eb;refine⟨b,_,rfl,Ao (s2 _ _ eb),rfl,_,_,rfl,_,_,rfl,rfl,?_⟩;refine⟨_,rfl,_,rfl,_,rfl,_,_,rfl,rfl,_,_,rfl,rfl,BF rfl,λr hr'=>k1 _ _ _ ⟨⟨_,_,rfl⟩,s2.cb hr',?_⟩⟩;rw[DD,eq,Bx,Bx];exact(hw2.ae (Cz hr').tp).ft Az
      . intro τ acc H2 la hI D hD;refine AB λnG=>?_;obtain⟨_,s2,hw2⟩:=hI;refine nG ?_;try clear nG
        rw[lx,Cn (Af _)]at hw2;have S2:=s1.aa s2;refine k _ D acc (ps.map λq=>(q.1,q.2+m+1)) (S2.cb hD) (S2.ar hD) Az (hw2.ae (Cz hD).tp) ?_ (λb e=>?_) (by rw[Am];exact lp)
        . rw[Cb,F9];refine gd.ap.imp_of_mem λ{a b}ha hb h=>?_;have:=gd.le a ha;show a.1<b.1;(first|lia|omega)
        . constructor
          . intro h;refine AB λnG=>?_;obtain⟨c,hc,e⟩:=BH.mp h;cases e;refine nG ?_;try clear nG
            exact⟨c.2,rfl,(gd.ahc hm _ _).mp hc⟩
          . intro hI;refine AB λnG=>?_;obtain⟨l',rfl,g⟩:=hI;refine nG ?_;try clear nG
            exact BH.mpr ⟨(b,l'),(gd.ahc hm _ _).mpr g,rfl⟩
section
variable{X:BR}
unseal Ae DW GR EZ in theorem cR{i:Nat}{y:AJ}{D W:BD}{A:List BD}{scope osc:Du}{wi:Ec}{T:Cg}{te:A1}{x J U:AJ}{px B E tpos S pos V:Ce}{P}(G:List (AJ×Nat))(a:X.N.Nodup)(M:X.N[i]?=AA y)(O:Ht X.af.scope y)(Q:X.bx=AF)(hi:EZ X (.Tuple [.Name x px,.Name J B,.Name U E] P tpos) D wi)(f:X.af.scope=osc)(d:scope.kind=.function)(Y:∀y∈scope.names,y.2≠.cell)(F:∀y∈scope.names,y.2=.local->scope.names.lookup y.1=AA .local)(Z:∀y∈scope.names,y.2=.free->osc.names.lookup y.1=AA .cell\/osc.names.lookup y.1=AA .free)(L:Gw X scope G)(R:scope.names.lookup x=AA .local)(I:scope.names.lookup J=AA .local)(K:scope.names.lookup U=AA .local)(q:(x::J::U::G.map (·.1)).Nodup)(h:∀C s H ex,GR (Ck X scope (x::J::U::G.map (·.1)) C s H ex) A T)(b:∀C s H ex,Ae (Ck X scope (x::J::U::G.map (·.1)) C s H ex) W te)(N:JB (.ListComp W [⟨.Tuple [.Name x px,.Name J B,.Name U E] P tpos,D,A,0⟩] scope pos) (AA (.Name y S)) V.line X.af=BB AF:=by rfl)(c:X.fn y=AF\/X.af.scope.names.lookup y=AA .local:=by first|exact .inl rfl|exact .inr rfl|assumption)(g:∀x,JA D X.af x=BB x:=by intro _;rfl):DW X (.Assign [.Name y S] (.ListComp W [⟨.Tuple [.Name x px,.Name J B,.Name U E] P tpos,D,A,0⟩] scope pos) V) (LV (Hw 3 (G.map (·.2)) wi (MY X.K 3 (HM (Di 0) (HM (Di 1) (HM (Di 2) MX)))) T te) (Di i)):=Rz (own:=[x,J,U]) a M O c Q hi d Y F (λy j e=>by show X.af.scope.names.lookup y.1=_\/X.af.scope.names.lookup y.1=_;rw[f];exact Z y j e) L (λC s H ex=>GX (show(Ck X scope (x::J::U::G.map (λp:AJ×Nat=>p.1)) C s H ex).bx=AF from Q) (DC (GW (i:=0) q rfl (.inl (D8 R)) (.inr (D8 R))) (DC (GW (i:=1) q rfl (.inl (D8 I)) (.inr (D8 I))) (DC (GW (i:=2) q rfl (.inl (D8 K)) (.inr (D8 K))) GY)))) h b N g
end
noncomputable def Ex:Ah->List Int->Int->Int->Prop|.each _ _ _ z d,D,b,e=>e=b+z/\∃t∈D,b∈FI t z d|.gap _ _ _ m,D,b,e=>∃l,e=l+m+1/\Hg m D b l|_,_,_,_=>False
noncomputable def Ah.abv:Ah->AJ|.gap _ _ s _|.each _ _ s _ _=>s|_=>""
noncomputable def Hn:Ah->Prop|.each _ _ s z d=>s∈Fc/\1<=d/\d<=1000000/\d<=z/\z<=1000000/\z<=20*d|.gap _ _ s m=>s∈Fc/\0<=m|_=>True
noncomputable def Km(D:List Int):Prop:=∀t∈D,0<=t/\t<=2000000000
theorem MH(V:Hn s)(U:Km J)(h:Ex s J b e):∃t∈J,b<=t/\t<e:=by cases s with
 |each n a C z d=>
  refine AB λD=>?_;obtain⟨rfl,t,F,Y⟩:=h;obtain⟨_,Z,q,A,B,_⟩:=V;refine D ?_;try clear D
  have:=(Qu ⟨Z,q,A,B,(U t F).1,(U t F).2⟩).mp Y;exact⟨t,F,this.2.1,by(first|lia|omega)⟩|gap n a C m=>
  refine AB λD=>?_;obtain⟨l,rfl,W,E,G,_⟩:=h;refine D ?_;try clear D
  have:=V.2;exact⟨b,W,Jv _,by(first|lia|omega)⟩|take n k=>exact h.elim|only n a I H=>exact h.elim|turn n a f g=>exact h.elim|both n a b=>exact h.elim|join n a b K=>exact h.elim
theorem Vk{s:Ah}(h:s.br=AF)(D:Hn s):s.abv∈Fc:=by cases s<;>first|exact D.1|cases h
theorem Pu{H:AN}{p:AI}{s:Ah}(h:s.br=AF):C3 (s.mz.map Al) 3=AA (.str s.abv)/\∃a,s.aw=[a]/\C3 (s.mz.map Al) 2=AA (.str a):=by cases s<;>first|exact⟨Ag (j:=3) rfl,_,rfl,Ag (j:=2) rfl⟩|cases h
noncomputable def eZ:Ba:=λW H Q _=>Tz (λ(p l:AI)(s:Ah)(D:List Int)=>W=[.ref p,.ref l]) (λp _ s _=>Bj H p s) (λ_ _ s _=>s.br=AF) (λ_ _ s _=>Hn s) (λ_ l _ D=>H l=AA (.lst (D.map AH.int))) (λ_ _ _ D=>D.length<=1000) (λ_ _ _ D=>D.Pairwise (.<=.)) (λ_ _ _ D=>Km D) (λ_ _ s D=>∀F r U(J:List (Int×Int)),Ak H F->H r=AD->F r=AA (.lst U)->Bv F U (J.map Dx)->(J.map (·.1)).Pairwise (.<.)->(∀b e,(b,e)∈J↔Ex s D b e)->J.length<=21*D.length->Q (.ref r) F)
theorem cD{K:Ar}{C:Kk}(T:B0 K X C):BW P w K X base Bs 3 C.jh C.jw ["step","times"] eZ:=by
  have D:=gF.mk (aV (P:=P) (w:=w) (base:=base) T) T.vi T.kh.kp T.va;have F:=gF.mk (aY (P:=P) (w:=w) (base:=base) T) T.wj T.nt.kp T.vz;refine T.qk.ok Va (λvs H Q E h=>?_) (λO A Z s H vs Q E I h=>?_)
  . refine AB λJ=>?_;obtain⟨p,l,s,B,rfl,_⟩:=h;refine J ?_;try clear J
    rfl
  . refine AB λJ=>?_;obtain⟨p,l,Y,B,rfl,e,S,L,G,U,up,M,k⟩:=h;refine J ?_;try clear J
    have nd:=Va.nd;refine⟨_,(CG (Bc (BK Ca (Ef K (Av 0) AM) A6 (BL _)) (Ac (BA (A9 D I (AG (Av 1) (AG (Ef K (Av 0) AM) (AG (Ef K (Av 0) AM) AQ)))))) Bt) (Ac (BA (A9 F I (AG (Av 1) (AG (Ef K (Av 0) AM) AQ)))))),?_⟩;refine AB λJ=>?_;obtain⟨W,R,e2⟩:=e.cx (K:=K);refine J ?_;try clear J
    refine⟨_,rfl,p,_,_,_,rfl,rfl,W,R,rfl,_,rfl,EO (i:=6) rfl (λq=>?_) λq=>?_⟩
    . refine AB λJ=>?_;obtain⟨n,a,V,z,d,rfl⟩:∃n a V z d,Y=.each n a V z d:=by cases Y<;>first|exact⟨_,_,_,_,_,rfl⟩|cases q
      obtain⟨_,o,u,v,x,y⟩:=L;refine J ?_;try clear J
      exact⟨_,rfl,_,rfl,p,_,_,_,rfl,rfl,W,Ag (j:=4) rfl,_,rfl,p,_,_,_,rfl,rfl,W,Ag (j:=5) rfl,l,B,z,d,rfl,G,U,(λt h=>⟨o,u,v,x,(M t h).1,(M t h).2⟩),y,k⟩
    . refine AB λJ=>?_;obtain⟨n,a,V,m,rfl⟩:∃n a V m,Y=.gap n a V m:=by cases Y<;>first|exact⟨_,_,_,_,rfl⟩|exact absurd rfl q|cases S
      refine J ?_;try clear J
      exact⟨_,rfl,_,rfl,p,_,_,_,rfl,rfl,W,Ag (j:=4) rfl,l,B,m,rfl,G,U,L.2,up,λN r xs ws a b c d e f g=>k N r xs ws a b c d e f (by(first|lia|omega))⟩
noncomputable def EY(N:List Ap):List Int:=N.map λi=>i.1.2.2
noncomputable def eO:Ba:=λJ H Q _=>T3 (λ(p l:AI)(s:Ah)(D:List AH)(N:List Ap)=>J=[.ref p,.ref l]) (λp _ s _ _=>Bj H p s) (λ_ _ s _ _=>s.br=AF) (λ_ _ s _ _=>Hn s) (λ_ l _ D _=>H l=AA (.lst D)) (λ_ _ _ D N=>Fw H D N) (λ_ _ _ _ N=>N≠[]) (λ_ _ _ _ N=>N.length<=1000) (λ_ _ s _ N=>∀v:Int,Jw s.abv (EY N) v->∀F,Ak H F->Q (.int v) F)
theorem Fw.ix(h:Fw H xs N){i:Nat}(e:xs[i]?=AA x):∃m,N[i]?=AA m/\J0 H x m:=by obtain⟨l,f⟩:=C5 h;have F:=(Bh.mp e).1;have D:=B8 (show i<N.length by(first|lia|omega));exact⟨_,D,f i x _ e D⟩
theorem b9{K:Ar}{ad:Kk}(T:B0 K mg ad):BW P w K mg base Bs 2 ad.ja ad.jm ["step","inner"] eO:=by
  have G_value:=gF.mk (cB (P:=P) (w:=w) (base:=base) T) T.adn T.aax.kp T.adg;refine T.qf.ok VE (λvs H Q E h=>?_) (λcdv A outer s H vs Q E hr h=>?_)
  . refine AB λnG=>?_;obtain⟨p,l,s,xs,N,rfl,_⟩:=h;refine nG ?_;try clear nG
    rfl
  . refine AB λnG=>?_;obtain⟨p,l,st,xs,N,rfl,e,ht,ok,el,hw,ne,lN,k⟩:=h;refine nG ?_;try clear nG
    have nd:=VE.nd;refine⟨_,(Aq (cR (i:=2) (osc:=A7 Nz) [] nd rfl (O6 rfl) rfl (Cm (K:=K) (Av 1)) rfl rfl (by decide+kernel) (by decide+kernel) (by decide+kernel) trivial rfl rfl rfl (by decide+kernel) (λ_ _ _ _=>F5) (λ_ _ _ _=>(Av 1))) (Ac (BA (A9 G_value hr (AG (Ef K (Av 0) AM) (AG (CL (AG (CN (OQ (K:=K)) (by rfl) T.ke ID (AG (Av 2) AQ)) (AG (CN (WA (K:=K) rfl) (by rfl) T.ael xH (AG (Av 2) AQ)) (AG (CN (RG (K:=K) rfl) (by rfl) T.qr KU (AG (Av 2) AQ)) (AG (CN (V9 (K:=K) rfl) (by rfl) T.ui Lc (AG (Av 2) AQ)) AQ))))) AQ)))))),?_⟩;have sz:An=16777216:=Dg;have lx:=(C5 hw).1;refineλ_ _ _ _ z1=>⟨_,rfl,l,rfl,⟨_,AV el⟩,?_⟩;refine Gy (K:=K) (xs:=xs) (λj τ acc H'=>(∃o o' o'',τ=[o,o',o''])/\H'=H/\acc=(EY (N.take j)).map AH.int) (by(first|lia|omega)) ⟨⟨AD,AD,AD,rfl⟩,rfl,rfl⟩ (λj τ acc H'⟨_,e,_⟩=>by rw[e];exact AV el) ?_ ?_
    . intro j y τ acc H1 R1 hy _ hI k1;refine AB λnG=>?_;obtain⟨⟨o,o',o'',rfl⟩,rfl,rfl⟩:=hI;obtain⟨i,ei,a,q,rfl,ea,eq⟩:=hw.ix hy;refine nG ?_;try clear nG
      refine⟨a,_,rfl,Ao ea,rfl,_,_,rfl,_,_,rfl,_,_,rfl,rfl,?_⟩;refine⟨_,rfl,k1 _ _ _ ⟨⟨_,_,_,rfl⟩,rfl,?_⟩⟩;unfold EY;rw[DD,ei,Bx,Bx];rfl
    . intro τ acc H1 la hI am ham;refine AB λnG=>?_;obtain⟨_,rfl,rfl⟩:=hI;refine nG ?_;try clear nG
      rw[lx,Cn (Af _)];refine As (o:=.lst ((EY N).map AH.int)) ham λH2 s1 eam=>?_;obtain⟨e3,_⟩:=Pu (H:=H1) (p:=p) ht;have pos:0<(EY N).length:=by unfold EY;rw[Am];exact pJ.mpr ne
      refine z1 _ _ ⟨_,rfl,p,_,_,_,rfl,rfl,Ao (s1 _ _ e),e3,_,rfl,am,_,rfl,.inl (AV eam),_,rfl,am,_,rfl,AV eam,_,rfl,am,_,rfl,AV eam,pos,λmn hm1 hm2=>⟨_,rfl,am,_,rfl,AV eam,pos,λmx hx1 hx2=>⟨BF rfl,λq hq=>?_⟩⟩⟩;refine⟨st.abv,q,EY N,_,rfl,Vk ht ok,Az,⟨mn,mx,by rw[Am],hm1,hm2,hx1,hx2⟩,λv hv=>k v hv _ (s1.cb hq)⟩
noncomputable abbrev Zh:=Int×Nat×AJ×Int×Int
noncomputable abbrev C1:=Zh×List Ap
noncomputable def KA(q:C1):Int×Int:=(q.1.2.2.2.1,q.1.1)
noncomputable def Cw(N:List Ap):List Int:=N.map λi=>i.1.1
noncomputable def Gq(U H:AN)(nm:AJ)(x:AH)(q:C1):Prop:=∃(a F D:AI)(J:List AH),x=.ref a/\H a=AA (.tup [.int q.1.1,.int (q.1.2.1:Int),.str q.1.2.2.1,.int q.1.2.2.2.1,.ref F,.ref D])/\H F=AA (.tup [.str nm,.str q.1.2.2.1,.int q.1.2.2.2.1,.int q.1.1,.int q.1.2.2.2.2])/\U D=AD/\H D=AA (.lst J)/\Fw H J q.2
theorem Gq.ae(h:Gq F H nm x q)(C:∀b ys,F b=AD->H b=AA (.lst ys)->D b=AA (.lst ys))(t:CM H D):Gq F D nm x q:=by
 refine AB λU=>?_;obtain⟨a,E,B,ys,e,W,Y,J,Z,A⟩:=h;refine U ?_;try clear U
 exact⟨a,E,B,ys,e,t _ _ W,t _ _ Y,J,C _ _ J Z,Fw.ae A t⟩
theorem Gq.bf(h:Gq F H nm x q)(s:Ak H D):Gq F D nm x q:=h.ae (λb J _ e=>s _ _ e) s.tp
theorem Gq.abh(h:Gq D H nm x q)(s:Ak G D):Gq G H nm x q:=by
 refine AB λF=>?_;obtain⟨a,B,A,C,e,J,U,W,Y,Z⟩:=h;refine F ?_;try clear F
 exact⟨a,B,A,C,e,J,U,s.ar W,Y,Z⟩
noncomputable def Lz(s:Ah)(pl:Nat)(z:AJ)(N:List Ap)(q:C1):Prop:=q.1.2.1=pl/\q.1.2.2.1=z/\q.2=N.filter (DM q.1.2.2.2.1 q.1.1)/\Jw s.abv (EY q.2) q.1.2.2.2.2
noncomputable def eM:Ba:=λY H Q _=>T9 (λ(p r:AI)(s:Ah)(U:Nat)(z:AJ)(J:List AH)(N:List Ap)=>Y=[.int (U:Int),.ref p,.str z,.ref r]) (λp _ s _ _ _ _=>Bj H p s) (λ_ _ s _ _ _ _=>s.br=AF) (λ_ _ s _ _ _ _=>Hn s) (λ_ r _ _ _ J _=>H r=AA (.lst J)) (λ_ _ _ _ _ J N=>Fw H J N) (λ_ _ _ _ _ _ N=>JJ N) (λ_ _ _ _ _ _ N=>N.length<=150) (λ_ _ _ _ _ _ N=>Km (Cw N)) (λ_ _ s U z _ N=>∀F l W D,Ak H F->H l=AD->F l=AA (.lst W)->Bm (Gq H F s.nm) W D->(∀q∈D,Lz s U z N q)->(∀b e,(b,e)∈D.map KA↔Ex s (Cw N) b e)->((D.map KA).map (·.1)).Pairwise (.<.)->D.length<=3150->Q (.ref l) F)
theorem b7{K:Ar}{ad:Kk}(T:B0 K mg ad):BW P w K mg base Bs 4 ad.gj ad.gw ["place","step","key","row"] eM:=by
  have J:=gF.mk (cD (P:=P) (w:=w) (base:=base) T) T.yu T.qk.kp T.yg;have W:=gF.mk (Ud (P:=P) (w:=w) (base:=base) T) T.xn T.qx.kp T.xk;have F:=gF.mk (b9 (P:=P) (w:=w) (base:=base) T) T.yo T.qf.kp T.yb;refine T.nu.ok VC (λvs H Q E h=>?_) (λcdv A outer s H vs Q E hr h=>?_)
  . refine AB λU=>?_;obtain⟨p,r,s,pl,z,xs,N,rfl,_⟩:=h;refine U ?_;try clear U
    rfl
  . refine AB λU=>?_;obtain⟨p,r,d,pl,z,xs,N,rfl,e,ht,ok,er,hw,tup,lN,tm,k⟩:=h;refine U ?_;try clear U
    have nd:=VC.nd;refine⟨_,(Aq (Ax 4 nd (CJ AQ)) (Aq (Dp Dr rfl (Cm (K:=K) (A9 J hr (AG (AE 1) (AG (Ee (A7 Nx) [] trivial (Cm (K:=K) (AE 3)) (λ_ _ _ _=>F5) (λ_ _ _ _=>(Ay K (AE 0) AM))) AQ)))) (GX rfl (DC (Cr 5 nd) (DC (Cr 6 nd) GY))) (Aq (Ax 7 nd (A9 W hr (AG (AE 3) (AG (AE 5) (AG (AE 6) AQ))))) (Ac (E4 (D4 (Ed K (AE 4) (AG (CL (AG (AE 6) (AG (AE 0) (AG (AE 2) (AG (AE 5) (AG (CL (AG (Ay K (AE 1) AM) (AG (AE 2) (AG (AE 5) (AG (AE 6) (AG (A9 F hr (AG (AE 1) (AG (AE 7) AQ))) AQ)))))) (AG (AE 7) AQ))))))) AQ))))))) (Ac (BA (AE 4))))),?_⟩;have sz:An=16777216:=Dg;have lx:=(C5 hw).1;have lt:(Cw N).length=N.length:=Am _;refineλ_ _ _ _ z1=>⟨Bd _,λM I=>z1 _ _ ?_⟩;refine As (o:=.lst []) I λH0 s0 G=>?_;refineλ_ _ _ _ z2=>⟨r,rfl,⟨_,AV (s0 _ _ er)⟩,?_⟩;have hw0:=Fw.ae hw s0.tp;refine Gy (K:=K) (xs:=xs) (λj τ D g=>(∃o,τ=[o])/\g=H0/\D=(Cw (N.take j)).map AH.int) (by(first|lia|omega)) ⟨⟨AD,rfl⟩,rfl,rfl⟩ (λj τ D g⟨_,e,_⟩=>by rw[e];exact AV (s0 _ _ er)) ?_ ?_
    . intro j y τ D H1 R1 hy _ m k1;refine AB λU=>?_;obtain⟨⟨o,rfl⟩,rfl,rfl⟩:=m;obtain⟨i,ei,a,q,rfl,ea,eq⟩:=hw0.ix hy;refine U ?_;try clear U
      refine⟨_,_,Ao ea,Ag (j:=0) rfl,k1 _ _ _ ⟨⟨_,rfl⟩,rfl,?_⟩⟩;unfold Cw;rw[DD,ei,Bx,Bx];rfl
    intro τ D Z la m O htm';refine AB λU=>?_;obtain⟨_,rfl,rfl⟩:=m;refine U ?_;try clear U
    rw[lx,Cn (Af _)];have s1:=Cz (o:=.lst ((Cw N).map AH.int)) htm';have etm:(AW Z O (.lst ((Cw N).map AH.int))) O=AA (.lst ((Cw N).map AH.int)):=Az;generalize AW Z O (.lst ((Cw N).map AH.int))=H1 at s1 etm⊢;have s01:=s0.aa s1;refine⟨p,O,d,Cw N,rfl,s01 _ _ e,ht,ok,etm,by(first|lia|omega),tup,tm,λH2 wl wx ws s2 hwl ewl hww upw X lw=>?_⟩;have L:=s01.aa s2;have nwt:wl≠M:=(B6 (s1 _ _ G) hwl).symm;refine⟨wl,rfl,⟨_,AV ewl⟩,Fm (K:=K) (xs:=wx) (λn σ g=>J2 (λ(o5 o6 o7:Option AH)(D:List AH)(C:List C1)=>σ=[AA (.int (pl:Int)),AA (.ref p),AA (.str z),AA (.ref r),AA (.ref M),o5,o6,o7]) (λ_ _ _ _ _=>Gx M H2 g) (λ_ _ _ D _=>g M=AA (.lst D)) (λ_ _ _ D C=>Bm (Gq Z g d.nm) D C) (λ_ _ _ _ C=>(∀q∈C,Lz d pl z N q)) (λ_ _ _ _ C=>C.map KA=ws.take n)) ⟨AD,AD,AD,[],[],rfl,(CS _).x _,s2 _ _ (s1 _ _ G),.nil,(λq hq=>by cases hq),rfl⟩ (λn σ g _ hh=>by obtain⟨_,_,_,_,_,_,x',_⟩:=hh;exact AV (x' _ _ nwt ewl)) ?_ ?_⟩
    . intro n y σ l hy m;refine AB λU=>?_;obtain⟨o5,o6,o7,D,C,rfl,x3,B,pq,u,Y⟩:=m;have t23:CM H2 l:=λb ys e=>x3 _ _ (λq=>by rw[q,s2 _ _ (s1 _ _ G)]at e;cases e) e;obtain⟨c,ks,rfl,ek,ec⟩:=hww.at hy;rw[BV]at ek;obtain⟨⟨b,f⟩,ew,rfl⟩:=Co.mp ek;have hn:n<ws.length:=(Bh.mp ew).1;have ec3:l c=AA (.tup [.int b,.int f]):=t23 _ _ ec;have wp:Ex d (Cw N) b f:=(X b f).mp (B9 ew);obtain⟨t0,ht0,b1,b2⟩:=MH ok tm wp;refine U ?_;try clear U
      have lq:D.length<=3150:=by rw[(C5 pq).1];have:=ABp KQ Y;rw[Am,Eh]at this;(first|lia|omega)
      have er3:l r=AA (.lst xs):=x3 _ _ (B6 er I) (L _ _ er);have e3:Bj l p d:=t23 _ _ (L _ _ e);refine⟨c,_,rfl,Ao ec3,rfl,_,_,rfl,_,_,rfl,rfl,?_⟩;refineλ_ _ _ _ z3=>⟨r,xs,N,b,f,rfl,er3,Fw.ae hw (L.tp.aa t23),tup,by(first|lia|omega),λia H4 ys s4 t eia hwi=>z3 _ _ ?_⟩;have ne:N.filter (DM b f)≠[]:=by obtain⟨i,hi,rfl⟩:=BH.mp ht0;exact pR (DX.mpr ⟨hi,by unfold DM;exact ABq ⟨b1,b2⟩⟩)
      refine AB λU=>?_;obtain⟨w0,w1,w2⟩:=Bj.cx (K:=K) (s4 _ _ e3:Bj H4 p d);refine U ?_;try clear U
      have et4:=s4 _ _ B;refineλ_ _ _ _ z4=>⟨.inl ⟨rfl,_,AV et4⟩,_,_,w0,w2,p,ia,d,ys,_,rfl,s4 _ _ e3,ht,ok,eia,hwi,ne,by have:=Gd (DM b f) N;(first|lia|omega),λv hv H5 s5=>⟨BF rfl,λra hra=>?_⟩⟩;refine As (o:=.tup [.str d.nm,.str z,.int b,.int f,.int v]) hra λH6 s6 era=>?_;refine⟨BF rfl,λa ha=>?_⟩;refine As (o:=.tup [.int f,.int (pl:Int),.str z,.int b,.ref ra,.ref ia]) ha λH7 s7 ea=>?_;have s47:=s5.aa (s6.aa s7);have s37:=s4.aa s47;have et7:=s37 _ _ B;have R:CM H7 (AW H7 M (.lst (D++[.ref a]))):=(ER H7).cb et7 λxs=>by intro z;cases z
      have kl8:∀b ys,Z b=AD->H7 b=AA (.lst ys)->(AW H7 M (.lst (D++[.ref a]))) b=AA (.lst ys):=λb ys nb e=>by rw[BC (λq=>by rw[q,G]at nb;cases nb)];exact e
      have S:Z ia=AD:=by cases hq:Z ia with |none=>rfl|some o=>
          by_cases q:ia=M;.rw[q,B]at t;cases t
          . have:=x3 _ _ q ((s1.aa s2) _ _ hq);rw[t]at this;cases this
      refine⟨M,_,_,rfl,rfl,et7,by(first|lia|omega),z4 _ _ ⟨_,_,_,D++[.ref a],C++[((f,pl,z,b,v),N.filter (DM b f))],rfl,(λb o nb e=>by rw[BC nb];exact s37 _ _ (x3 b o nb e)),Az,?_,λq hq=>?_,?_⟩⟩;.exact D3 (GU (λx q h=>(h.bf s37).ae kl8 R) pq) (.cons ⟨a,ra,ia,ys,rfl,R _ _ ea,R _ _ (s7 _ _ era),S,kl8 _ _ S (s47 _ _ eia),Fw.ae (Fw.ae hwi s47.tp) R⟩ .nil)
      . rcases CT.mp hq with h|h;.exact u q h
        . rw[Bl.mp h];exact⟨rfl,rfl,rfl,hv⟩
      . rw[Bx,Y,DD,ew];rfl
    . intro σ l m;refine AB λU=>?_;obtain⟨o5,o6,o7,D,C,rfl,x3,B,pq,u,Y⟩:=m;refine U ?_;try clear U
      have lwx:wx.length=ws.length:=by rw[hww.bj,Am]
      rw[lwx,Cn (Af _)]at Y;have S3:Ak H l:=λb o e=>x3 _ _ (B6 e I) (L _ _ e);refine z2 _ _ (k l M D C S3 I B (GU (λx q h=>h.abh s0) pq) u ?_ ?_ ?_);.rw[Y];exact X
      .rw[Y];exact upw
      . have:=ABp KQ Y;rw[Am]at this;(first|lia|omega)
noncomputable def Cq(S:List Ap)(z:AJ):List Ap:=S.filter λi=>AZ (i.1.2.1=z)
noncomputable def En(q:C1):List AR:=[.inl q.1.1,.inl (q.1.2.1:Int),.inr q.1.2.2.1,.inl q.1.2.2.2.1]
noncomputable def Zg(D:List Ah)(L:AJ->List Ap)(q:C1):Prop:=∃s f,D[q.1.2.1]?=AA s/\s.br=AF/\s.aw=[f]/\Ex s (Cw (Cq (L f) q.1.2.2.1)) q.1.2.2.2.1 q.1.1/\q.2.Perm ((Cq (L f) q.1.2.2.1).filter (DM q.1.2.2.2.1 q.1.1))/\Jw s.abv (EY q.2) q.1.2.2.2.2
structure Fd(ss:List Ah)(L:AJ->List Ap)(Dn:Nat->AJ->Prop)(qs:List C1):Prop where
 is:∀q∈qs,Zg ss L q/\Dn q.1.2.1 q.1.2.2.1
 vx:∀pl s f z b e,Dn pl z->ss[pl]?=AA s->s.br=AF->s.aw=[f]->Ex s (Cw (Cq (L f) z)) b e->∃q∈qs,q.1.2.1=pl/\q.1.2.2.1=z/\KA q=(b,e)ap:(qs.map En).Nodup
theorem Q0(h:∀t,t∈F↔t∈D):Ex s F b e↔Ex s D b e:=by cases s with|each n a J z d=>show(_/\∃t∈F,_)↔(_/\∃t∈D,_);simp only[h]|gap n a J m=>show(∃l,_/\Hg m F b l)↔∃l,_/\Hg m D b l;unfold Hg;simp only[h]|take n k=>exact NX|only n a V U=>exact NX|turn n a f g=>exact NX|both n a b=>exact NX|join n a b W=>exact NX
theorem Fd.aba(h:Fd J L F Z)(A:∀pl z,F pl z->D pl z)(B:∀pl s f z b e,D pl z->J[pl]?=AA s->s.br=AF->s.aw=[f]->Ex s (Cw (Cq (L f) z)) b e->F pl z):Fd J L D Z:=⟨λq W=>⟨(h.is q W).1,A _ _ (h.is q W).2⟩,λpl s f z b e d U Y V w=>h.vx pl s f z b e (B pl s f z b e d U Y V w) U Y V w,h.ap⟩
theorem Fd.adb{J:List C1}{s:Ah}{N:List Ap}(h:Fd H L C M)(G:¬C pl z)(I:H[pl]?=AA s)(j:s.br=AF)(K:s.aw=[f])(p:N.Perm (Cq (L f) z))(Y:∀q∈J,Lz s pl z N q)(A:∀b e,(b,e)∈J.map KA↔Ex s (Cw N) b e)(m:(J.map KA).Nodup):Fd H L (λa b=>C a b\/(a=pl/\b=z)) (M++J):=by
  have O:∀b e,Ex s (Cw N) b e↔Ex s (Cw (Cq (L f) z)) b e:=λb e=>Q0 λt=>(p.map _).mem_iff;refine⟨λq D=>?_,λB n c P b e d V E W w=>?_,?_⟩
  . rcases CT.mp D with D|D;.exact⟨(h.is q D).1,.inl (h.is q D).2⟩
    . refine AB λF=>?_;obtain⟨Z,U,T,X⟩:=Y q D;refine F ?_;try clear F
      refine⟨⟨s,f,by rw[Z];exact I,j,K,?_,?_,X⟩,.inr ⟨Z,U⟩⟩;. rw[U,<-O,<-A];exact BH.mpr ⟨q,D,rfl⟩
      . rw[T,U];exact p.filter _
  . by_cases q:B=pl/\P=z
    . refine AB λF=>?_;obtain⟨rfl,rfl⟩:=q;rw[I]at V;cases V;rw[K]at W;cases W;obtain⟨q,D,e⟩:=BH.mp ((A b e).mpr ((O b e).mpr w));obtain⟨Z,U,_⟩:=Y q D;refine F ?_;try clear F
      exact⟨q,ET _ D,Z,U,e⟩
    . refine AB λF=>?_;obtain⟨q,D,r⟩:=h.vx B n c P b e (d.resolve_right q) V E W w;refine F ?_;try clear F
      exact⟨q,Fs _ D,r⟩
  . rw[Bx];refine O5.mpr ⟨h.ap,?_,λa g b i e=>?_⟩
    . refine F9.mpr ((F9.mp m).imp λ{a b}h e=>h ?_);exact Sh (Gn (D5 (D5 (D5 (D5 e).2).2).2).1) (Gn (D5 e).1)
    . subst e;refine AB λF=>?_;obtain⟨x,k,rfl⟩:=BH.mp g;obtain⟨y,l,e⟩:=BH.mp i;obtain⟨Z,U,_⟩:=Y y l;refine F ?_;try clear F
      have o:(y.1.2.1:Int)=(x.1.2.1:Int):=Gn (D5 (D5 e).2).1;have Q:y.1.2.2.1=x.1.2.2.1:=NV (D5 (D5 (D5 e).2).2).1;have R:x.1.2.1=pl:=by(first|lia|omega)
      have S:x.1.2.2.1=z:=by rw[<-Q];exact U
      have:=(h.is x k).2;rw[R,S]at this;exact G this
noncomputable def GJ(F:List Ah)(D H:AN)(x:AH)(q:C1):Prop:=∃s,F[q.1.2.1]?=AA s/\Gq D H s.nm x q
theorem GJ.ae(h:GJ J F H x q)(U:∀b ys,F b=AD->H b=AA (.lst ys)->D b=AA (.lst ys))(t:CM H D):GJ J F D x q:=let⟨s,e,h⟩:=h;⟨s,e,h.ae U t⟩
theorem GJ.bf(h:GJ J F H x q)(s:Ak H D):GJ J F D x q:=h.ae (λb U _ e=>s _ _ e) s.tp
theorem GJ.abh(h:GJ F D H x q)(s:Ak G D):GJ F G H x q:=let⟨t,e,h⟩:=h;⟨t,e,h.abh s⟩
theorem Gq.ar(h:Gq D H nm x q)(s:∀b,D b=AD->G b=AD):Gq G H nm x q:=by
 refine AB λF=>?_;obtain⟨a,B,A,C,e,J,U,W,Y,Z⟩:=h;refine F ?_;try clear F
 exact⟨a,B,A,C,e,J,U,s _ W,Y,Z⟩
theorem UW{K:Ar}{J:List C1}(P:∀x q,F x q->∃(a:AI)(B:List AI),x=.ref a/\H a=AA (.tup ((En q).map Al++B.map AH.ref)))(h:Bm F xs J)(S:(J.map En).Nodup):∃D:List Fh,D.map Fn=J.map En/\OJ K H xs D [AF,AF,AO,AF]:=by
 have A:∀{xs:List AH}{J:List C1},Bm F xs J->∃D:List Fh,D.map Fn=J.map En/\D.map (·.1)=J.map En/\Bm (λx(d:Fh)=>(∃a,x=.ref a/\Bw K H a (d.1.map Al++d.2.1.map AH.ref))/\d.1.map DP=[AF,AF,AO,AF]) xs D:=by intro xs J h;induction h with |nil=>exact⟨[],rfl,rfl,.nil⟩|cons C _ Q=> obtain⟨D,e,Y,p⟩:=Q;rename_i x q _ _ _;obtain⟨a,B,L,W⟩:=P x q C;exact⟨(En q,B,[])::D,by rw[Cu,Cu,e];rfl,by rw[Cu,Cu,Y],.cons ⟨⟨a,L,Ao W⟩,rfl⟩ p⟩
 refine AB λU=>?_;obtain⟨D,e,Y,p⟩:=A h;refine U ?_;try clear U
 refine⟨D,e,by decide,p,λi j d I W Z M=>.inl ?_⟩;have E:(D.map (·.1))[i]?=AA d.1:=by rw[BV,W];rfl
 have G:(D.map (·.1))[j]?=AA I.1:=by rw[BV,Z];rfl
 rw[Y]at E G;refine AB λU=>?_;obtain⟨C,N⟩:=Bh.mp E;obtain⟨T,O⟩:=Bh.mp G;refine U ?_;try clear U
 have R:i=j:=(SU S).mp (by rw[N,O,M]);subst R;rw[W]at Z;cases Z;exact⟨rfl,rfl⟩
theorem Ua:i∈HH F↔∃s,F[i]?=AA s/\s.br=AF:=by
  unfold HH;rw[DX,M0];unfold J8;constructor;. rintro⟨h,q⟩;rw[B8 h]at q;exact⟨_,B8 h,q⟩
  . intro J;refine AB λD=>?_;obtain⟨s,e,q⟩:=J;refine D ?_;try clear D
    rw[e];exact⟨(Bh.mp e).1,q⟩
structure IM(ss:List Ah)(L:AJ->List Ap)(evs:List CA):Prop where
 ok:Jz ss
 bj:ss.length<=21
 el:evs.length<=20
 hL:∀s∈ss,L s.nm=GO s L evs/\(L s.nm).length<=150
 ada:∀s∈ss,Hn s
 tm:∀e∈evs,0<=e.1/\e.1<=2000000000
theorem aP(h:x∈Ho k evs):∃(n:Nat)(e:CA),evs[n]?=AA e/\e.2.1=k/\x=(Kq e,[(n:Int)]):=by
 refine AB λF=>?_;obtain⟨⟨e,n⟩,J,U⟩:=Xy.mp h;obtain⟨y,D,rfl⟩:=BH.mp U;refine F ?_;try clear F
 refine⟨n,e,List.mem_zipIdx_iff_getElem?.mp J,?_⟩;have D:y∈E1 k e:=D;unfold E1 at D;split at D
 . rename_i q;rw[Bl.mp D];exact⟨q,rfl⟩
 .cases D
theorem IM.vx{J:List Ah}{L:AJ->List Ap}{evs:List CA}(h:IM J L evs){R:DS->Prop}(V:∀e∈evs,R (Kq e))(E:∀f g i,R i->R (Ku f g i))(C:∀i j,R i->R j->R (Gv i j)):∀s∈J,∀i∈L s.nm,R i.1:=QM (R:=λa=>∀i∈L a,R i.1) h.ok λs Z q i D=>by rw[(h.hL s Z).1]at D;cases s with
 |take n k=>
  refine AB λF=>?_;obtain⟨n,e,U,_,rfl⟩:=aP D;refine F ?_;try clear F
  exact V e (B9 U)|only n a G W=>exact q a (.head _) i (DX.mp D).1|turn n a f g=>
  refine AB λF=>?_;obtain⟨j,Y,rfl⟩:=BH.mp D;refine F ?_;try clear F
  exact E f g j.1 (q a (.head _) j Y)|both n a b=>exact(CT.mp D).elim (q a (.head _) i) (q b (.tail _ (.head _)) i)|join n a b H=>
  refine AB λF=>?_;obtain⟨x,A,y,B,_,rfl⟩:=UZ.mp D;refine F ?_;try clear F
  exact C _ _ (q a (.head _) x A) (q b (.tail _ (.head _)) y B)|gap n a s m=>exact q a (.head _) i D|each n a s z d=>exact q a (.head _) i D
theorem IM.xr(h:IM F L evs):∀s∈F,Km (Cw (L s.nm)):=λs U t V=>by
 refine AB λD=>?_;obtain⟨i,J,rfl⟩:=BH.mp V;refine D ?_;try clear D
 refine h.vx (R:=λi=>0<=i.1/\i.1<=2000000000) h.tm (λf g i h=>h) (λi j W Y=>?_) s U i J;show 0<=Nl i.1 j.1/\Nl i.1 j.1<=2000000000;unfold Nl;split<;>(first|lia|omega)
theorem N7{l:List α}(W:l.Nodup)(e:l[n]?=AA x):x∉l.take n:=λV=>by
 refine AB λD=>?_;obtain⟨i,U,q⟩:=F8.mp V;rw[Eh]at U;rw[wD]at q;obtain⟨J,F⟩:=Bh.mp e;refine D ?_;try clear D
 have:=(SU (h₀:=by(first|lia|omega)) (h₁:=J) W).mp (q.trans F.symm);(first|lia|omega)
noncomputable def eT:Ba:=λA H Q _=>Nc (λ(Z Y:AI)(U:List AH)(F:List Ah)(D:List CA)(L:AJ->List Ap)=>A=[.ref Z,.ref Y]) (λZ _ U _ _ _=>H Z=AA (.lst U)) (λ_ _ U F _ _=>FZ H U F) (λ_ Y _ _ D _=>JG H Y D) (λ_ _ _ F D L=>IM F L D) (λ_ _ _ F _ L=>∀J l q W,Ak H J->H l=AD->J l=AA (.lst q)->Bm (GJ F H J) q W->Fd F L (λ_ _=>True) W->(W.map En).Pairwise (λa b=>CQ b a=AO)->W.length<=9922500->Q (.ref l) J)
theorem bZ{K:Ar}{ad:Kk}(T:B0 K mg ad):BW P w K mg base Bs 5 ad.rl ad.tq ["plan","events"] eT:=by
  have W:=gF.mk (bU (P:=P) (w:=w) (base:=base) T) T.yn T.qe.kp T.ya;have C:=gF.mk (bX (P:=P) (w:=w) (base:=base) T) T.abp T.xh.kp T.abf;have B:=gF.mk (Ue (P:=P) (w:=w) (base:=base) T) T.xq T.qy.kp T.xm;have J:=gF.mk (b7 (P:=P) (w:=w) (base:=base) T) T.wm T.nu.kp T.wc;refine T.xj.ok VB (λvs H Q E h=>?_) (λcdv A outer s H vs Q E hr h=>?_)
  . refine AB λF=>?_;obtain⟨lp,le,ps,O,evs,L,rfl,_⟩:=h;refine F ?_;try clear F
    rfl
  . refine AB λF=>?_;obtain⟨lp,le,ps,O,evs,L,rfl,S,pr,ev,ok,k⟩:=h;refine F ?_;try clear F
    have nd:=VB.nd;refine⟨_,(Aq (Ax 2 nd (A9 W hr (AG (AE 0) (AG (AE 1) AQ)))) (Aq (Ax 3 nd (CJ AQ)) (Aq (Dp Dr rfl (Cm (K:=K) (A9 C hr (AG (AE 0) AQ))) (Cr 4 nd) (Aq (Ax 5 nd (A9 B hr (AG (Il hr.u1 (AE 2) (Ay K (Ci K (AE 0) (AE 4)) AM) (λ_ _=>rfl)) AQ))) (Ac (E4 (Dp Dr rfl (lE (AE 5)) (Cr 6 nd) (Ac (E4 (D4 (LM (K:=K) YI YJ rE Rf (AE 3) (AG (A9 J hr (AG (AE 4) (AG (Ci K (AE 0) (AE 4)) (AG (AE 6) (AG (Il hr.u1 (AE 5) (AE 6) (λ_ _=>rfl)) AQ))))) AQ)))))))))) (Ac (BA (CN (RH (K:=K) hr) (by rfl) T.fu Sl (AG (AE 3) AQ))))))),?_⟩;have sz:An=16777216:=Dg;have lss:=ok.bj;have ndT:(HH O).Nodup:=List.nodup_range.sublist Xt;have lT:(HH O).length<=21:=DE (Gd _ _) (by rw[My];exact lss);refineλ_ _ _ _ z1=>⟨lp,le,ps,O,evs,L,rfl,S,pr,ok.ok,by(first|lia|omega),ev,ok.el,(λs hs=>⟨(ok.hL s hs).1,by have:=(ok.hL s hs).2;(first|lia|omega)⟩),λd H1 kvs s1 hd ed hold=>z1 _ _ ?_⟩;refineλ_ _ _ _ z2=>⟨Bd _,λZ htl=>z2 _ _ ?_⟩;refine As (o:=.lst []) htl λH2 s2 et2=>?_;have s02:=s1.aa s2;refineλ_ _ _ _ z3=>⟨lp,ps,O,rfl,s02 _ _ S,pr.ae s02.tp,by(first|lia|omega),λH3 tp s3 htp etp=>⟨tp,rfl,⟨_,AV etp⟩,?_⟩⟩;have ntt:tp≠Z:=(B6 et2 htp).symm;refine Fm (K:=K) (xs:=(HH O).map λi:Nat=>AH.int (i:Int)) (λn σ H'=>J2 (λ(o4 o5 o6:Option AH)(D:List AH)(U:List C1)=>σ=[AA (.ref lp),AA (.ref le),AA (.ref d),AA (.ref Z),o4,o5,o6]) (λ_ _ _ _ _=>Gx Z H3 H') (λ_ _ _ D _=>H' Z=AA (.lst D)) (λ_ _ _ D U=>Bm (GJ O H2 H') D U) (λ_ _ _ _ U=>Fd O L (λa _=>a∈(HH O).take n) U) (λ_ _ _ _ U=>U.length<=472500*n)) ⟨AD,AD,AD,[],[],rfl,(CS _).x _,s3 _ _ et2,.nil,⟨λq hq=>(by cases hq),λpl s f z b e dn=>(by cases dn),.nil⟩,Bd _⟩ (λn σ H' _ hh=>by obtain⟨_,_,_,_,_,_,x',_⟩:=hh;exact AV (x' _ _ ntt etp)) ?_ ?_
    . intro n y σ H4 hy hI;refine AB λF=>?_;obtain⟨o4,o5,o6,D,U,rfl,x4,R,pq,u,lq⟩:=hI;rw[BV]at hy;obtain⟨i,hi,rfl⟩:=Co.mp hy;have hn:n<(HH O).length:=(Bh.mp hi).1;obtain⟨st,es,ht⟩:=Ua.mp (B9 hi);have x14:∀b o,H1 b=AA o->H4 b=AA o:=λb o e=>x4 _ _ (B6 e htl) (s3 _ _ (s2 _ _ e));have s14:Ak H1 H4:=x14;have s04:=s1.aa s14;obtain⟨a,epi,ea⟩:∃a,ps[i]?=AA (.ref a)/\Bj H a st:=by obtain⟨lpq,f⟩:=C5 pr;have h1:=(Bh.mp es).1;have e1:=B8 (show i<ps.length by(first|lia|omega));obtain⟨a,e2,e3⟩:=f i _ _ e1 es;exact⟨a,by rw[e1,e2],e3⟩
      obtain⟨_,f,hf,e2⟩:=Pu (H:=H) (p:=a) ht;obtain⟨i',s',li,ei',rfl,_⟩:=ok.ok.uk i st f es (by rw[hf];exact .head _);have ms':=B9 ei';obtain⟨r,M,v1,v2,v3⟩:=(hold s' ms').bf s14;refine F ?_;try clear F
      have lM:M.length<=150:=by rw[v3.length_eq];exact(ok.hL s' ms').2
      have tmL:=ok.xr s' ms';have okS:=ok.ada st (B9 es);have ati:C3 ps (i:Int)=AA (.ref a):=Ag epi;refineλ_ _ _ _ z4=>⟨_,_,AV (s04 _ _ S),ati,_,_,Ao (s04 _ _ ea),e2,d,.ref r,rfl,by rw[<-v1];exact MI (k:=.inr s'.nm) (s14 _ _ ed),r,M,rfl,v2,by(first|lia|omega),λdd H5 M' I s5 hdd pM tM l=>z4 _ _ ?_⟩;have pL:M'.Perm (L s'.nm):=pM.trans v3;have lM':M'.length<=150:=by rw[pM.length_eq];exact lM
      have lkv:=l.bj;have ntd:Z≠dd:=B6 R hdd;refineλ_ _ _ _ z5=>⟨dd,I,rfl,.inl l.pj,λo H6 e6 ne6=>?_⟩;have kl6:∀b Y,H5 b=AA (.lst Y)->H6 b=AA (.lst Y):=λb Y e=>by rw[ne6 b (λq=>by rw[q,l.pj]at e;cases e)];exact e
      have tp6:CM H5 H6:=λb Y e=>by rw[ne6 b (λq=>by rw[q,l.pj]at e;cases e)];exact e
      refine iJ (λm σ G=>Tv (λ(o6:Option AH)(D:List AH)(U:List C1)=>σ=[AA (.ref lp),AA (.ref le),AA (.ref d),AA (.ref Z),AA (.int (i:Int)),AA (.ref dd),o6]) (λ_ _ _=>(∀b o',b≠Z->b≠dd->H5 b=AA o'->G b=AA o')) (λ_ _ _=>G dd=AA (.frz o (.dK I))) (λ_ D _=>G Z=AA (.lst D)) (λ_ D U=>Bm (GJ O H2 G) D U) (λ_ _ U=>Fd O L (λa z=>a∈(HH O).take n\/(a=i/\(CP z:AR)∈(I.take m).map (·.1))) U) (λ_ _ U=>U.length<=472500*n+3150*m)) ⟨_,D,U,rfl,(λb o' _ N e=>by rw[ne6 b N];exact e),e6,kl6 _ _ (s5 _ _ R),GU (λx q h=>(h.bf s5).ae (λb Y _ e=>kl6 b Y e) tp6) pq,u.aba (λa z h=>.inl h) (λpl s f z b e h _ _ _ _=>by simpa using h),by(first|lia|omega)⟩ (λm σ G _ hh=>by obtain⟨_,_,_,_,_,e,_⟩:=hh;exact e) ?_ ?_
      . rintro m⟨pk,pv⟩σ G hp⟨o6,D,U,rfl,xG,eG,X,pq,u,lq⟩;have hm:m<I.length:=(Bh.mp hp).1;have mp:=B9 hp;refine AB λF=>?_;obtain⟨z,r,xs,e,er,hw⟩:=l.aef _ mp;cases e;refine F ?_;try clear F
        have t5G:CM H5 G:=λb Y e=>xG _ _ (λq=>by rw[q,s5 _ _ R]at e;cases e) (λq=>by rw[q,l.pj]at e;cases e) e;have l5G:∀b Y,b≠Z->H5 b=AA (.lst Y)->G b=AA (.lst Y):=λb Y N e=>xG _ _ N (λq=>by rw[q,l.pj]at e;cases e) e;have ntr:r≠Z:=λq=>by have:=l.abx z r mp;rw[q,R]at this;cases this
        have elpG:G lp=AA (.lst ps):=l5G _ _ (B6 (s1 _ _ S) htl) ((s04.aa s5) _ _ S);have hv:CI I (.inr z)=AA (.ref r):=Vp l.nd mp;have pN:(M'.filter λi=>AZ (i.1.2.1=z)).Perm (Cq (L s'.nm) z):=pL.filter _;have lN:(M'.filter λi=>AZ (i.1.2.1=z)).length<=150:=DE (Gd _ _) lM';refineλ_ _ _ _ z6=>⟨.inl ⟨rfl,_,AV X⟩,_,_,AV elpG,ati,dd,.ref r,rfl,by rw[<-hv];exact .inl ⟨I,.inr z,.inr ⟨o,eG⟩,rfl,rfl⟩,a,r,st,i,z,xs,_,rfl,t5G _ _ (s5 _ _ (s04 _ _ ea)),ht,okS,l5G _ _ ntr er,Fw.ae hw t5G,tM.ach _,lN,(λt h=>?_),λH7 l2 v c s7 hl2 el2 pq2 isq2 mem2 up2 lq2=>?_⟩
        . refine tmL t ?_;refine AB λF=>?_;obtain⟨j,hj,rfl⟩:=BH.mp h;refine F ?_;try clear F
          exact BH.mpr ⟨j,pL.mem_iff.mp (DX.mp hj).1,rfl⟩
        . have et7:=s7 _ _ X;have tp8:CM H7 (AW H7 Z (.lst (D++v))):=(ER H7).cb et7 λxs=>by intro z;cases z
          have kl8:∀b Y,H2 b=AD->H7 b=AA (.lst Y)->(AW H7 Z (.lst (D++v))) b=AA (.lst Y):=λb Y N e=>by rw[BC (λq=>by rw[q,et2]at N;cases N)];exact e
          have fr:∀b,G b=AD->H2 b=AD:=λb N=>by cases q:H2 b with|none=>rfl|some o'=>
              by_cases e1:b=Z;.rw[e1,X]at N;cases N
              . by_cases e2:b=dd;.rw[e2,eG]at N;cases N
                . have:=xG b o' e1 e2 (s5 _ _ (x4 _ _ e1 (s3 _ _ q)));rw[N]at this;cases this
          have la:D.length=U.length:=(C5 pq).1;have la2:v.length=c.length:=(C5 pq2).1;have new:¬(i∈(HH O).take n\/(i=i/\(CP z:AR)∈(I.take m).map (·.1))):=λh=>by
            rcases h with h|⟨_,h⟩;.exact N7 ndT hi h
            . rw[pP]at h;exact N7 l.nd (by rw[BV,hp];rfl) h
          have lq':U.length+c.length<=472500*n+3150*(m+1):=by(first|lia|omega)
          refine⟨Z,l2,_,_,rfl,rfl,et7,el2,by(first|lia|omega),z6 _ _ ⟨_,D++v,U++c,rfl,(λb o' n1 n2 e=>by rw[BC n1];exact s7 _ _ (xG b o' n1 n2 e)),by rw[BC ntd.symm];exact s7 _ _ eG,Az,?_,?_,by rw[CY];exact lq'⟩⟩
          . refine D3 (GU (λx q h=>(h.bf s7).ae kl8 tp8) pq) ?_;have:∀{Y:List AH}{rs:List C1},Bm (Gq G H7 st.nm) Y rs->(∀q∈rs,Lz st i z (M'.filter λi=>AZ (i.1.2.1=z)) q)->Bm (GJ O H2 (AW H7 Z (.lst (D++v)))) Y rs:=λh=>by induction h with|nil=>exactλ_=>.nil|cons h1 _ ih=>exactλg=>.cons ⟨st,by rw[(g _ (.head _)).1];exact es,(h1.ar fr).ae kl8 tp8⟩ (ih λq hq=>g q (.tail _ hq))
            exact this pq2 isq2
          . refine(u.adb new es ht hf pN isq2 mem2 ((F9.mp up2).imp λh e=>by rw[e]at h;exact vL _ h)).aba (λa x h=>?_) λpl s f x b e h _ _ _ _=>?_
            . rcases h with(h|⟨rfl,h⟩)|⟨rfl,rfl⟩;.exact .inl h
              .exact .inr ⟨rfl,by rw[DD,Bx];exact Fs _ h⟩
              .exact .inr ⟨rfl,by rw[DD,hp,Bx];exact ET _ (.head _)⟩
            . rcases h with h|⟨rfl,h⟩;.exact .inl (.inl h)
              . rw[DD,hp,Bx]at h;rcases CT.mp h with h|h;.exact .inl (.inr ⟨rfl,h⟩)
                .exact .inr ⟨rfl,NV (Bl.mp h)⟩
      . intro σ G hI;refine AB λF=>?_;obtain⟨o6,D,U,rfl,xG,eG,X,pq,u,lq⟩:=hI;refine F ?_;try clear F
        refine z5 _ _ ⟨_,_,_,D,U,rfl,(λb o' N e=>xG b o' N (λq=>by rw[q]at e;have:=x4 _ _ ntd.symm e;rw[hdd]at this;cases this) (s5 _ _ (x4 b o' N e))),X,pq,u.aba (λa x h=>?_) (λpl s f x b e h es' ht' hf' wn=>?_),by(first|lia|omega)⟩
        . rcases h with h|⟨rfl,_⟩;.exact(Hm hi a).mpr (.inl h)
          .exact(Hm hi a).mpr (.inr rfl)
        . rcases(Hm hi pl).mp h with h|rfl;.exact .inl h
          . rw[es]at es';refine AB λF=>?_;cases es';rw[hf]at hf';cases hf';obtain⟨t,ht0,_⟩:=MH okS (λt h=>tmL t (by obtain⟨j,hj,rfl⟩:=BH.mp h;exact BH.mpr ⟨j,(DX.mp hj).1,rfl⟩)) wn;obtain⟨j,hj,rfl⟩:=BH.mp ht0;obtain⟨j1,j2⟩:=DX.mp hj;refine F ?_;try clear F
            have:=l.vx j (pL.mem_iff.mpr j1);rw[ABs j2]at this;exact .inr ⟨rfl,by rw[Cn (Af _)];exact this⟩
    . intro σ H4 hI;refine AB λF=>?_;obtain⟨o4,o5,o6,D,U,rfl,x4,R,pq,u,lq⟩:=hI;rw[Am,Cn (Af _)]at u;rw[Am]at lq;obtain⟨ds,eds,so⟩:=UW (K:=K) (λx q hh=>by obtain⟨_,_,a,ra,ia,_,ea,e1,_⟩:=hh;exact⟨a,[ra,ia],ea,e1⟩) pq u.ap;refine F ?_;try clear F
      refine z3 _ _ ⟨Z,D,ds,_,rfl,AV R,so,λsl qv hsl pv sv=>?_⟩;rw[eds]at pv;refine AB λF=>?_;obtain⟨c,p2,pq2,ek⟩:=QL pq pv;refine F ?_;try clear F
      rw[<-ek]at sv;have s5:=Cz (o:=.lst (qv.map (·.1))) hsl;have S4:Ak H H4:=λb o e=>x4 _ _ (B6 (s1 _ _ e) htl) ((s02.aa s3) _ _ e);refine k _ sl _ c (S4.aa s5) (S4.ar hsl) Az (GU (λx q h=>(h.bf s5).abh s02) pq2) ?_ sv (by rw[p2.length_eq];(first|lia|omega));refine⟨λq hq=>⟨(u.is q (p2.mem_iff.mp hq)).1,trivial⟩,λpl s f z b e _ es ht hf wn=>?_,(p2.map En).nodup_iff.mpr u.ap⟩;refine AB λF=>?_;obtain⟨q,hq,r⟩:=u.vx pl s f z b e (Ua.mpr ⟨s,es,ht⟩) es ht hf wn;refine F ?_;try clear F
      exact⟨q,p2.mem_iff.mpr hq,r⟩
noncomputable def JM(D:List Ah)(pl:Nat):AJ:=match D[pl]? with|AA s=>s.nm|AD=>""
noncomputable def HG(D:List Ah)(q:C1):List AR:=[.inr (JM D q.1.2.1),.inr q.1.2.2.1,.inl q.1.2.2.2.1,.inl q.1.1,.inl q.1.2.2.2.2]
theorem GJ.afv{q:C1}(h:GJ J W H x q):∃(a F D:AI)(ys:List AH),x=.ref a/\H a=AA (.tup [.int q.1.1,.int (q.1.2.1:Int),.str q.1.2.2.1,.int q.1.2.2.2.1,.ref F,.ref D])/\H F=AA (.tup ((HG J q).map Al))/\H D=AA (.lst ys)/\Fw H ys q.2:=by
 refine AB λU=>?_;obtain⟨s,e,a,F,D,ys,Y,Z,A,_,B,C⟩:=h;refine U ?_;try clear U
 refine⟨a,F,D,ys,Y,Z,?_,B,C⟩;have:JM J q.1.2.1=s.nm:=by unfold JM;rw[e]
 unfold HG;rw[this];exact A
theorem aK(h:Bm (GJ U F H) xs D){i:Nat}(e:xs[i]?=AA x):∃q,D[i]?=AA q/\GJ U F H x q:=by obtain⟨l,f⟩:=C5 h;have W:=(Bh.mp e).1;have J:=B8 (show i<D.length by(first|lia|omega));exact⟨_,J,f i x _ e J⟩
noncomputable def Vi:Ba:=λA H Q _=>Nc (λ(Z Y:AI)(U:List AH)(F:List Ah)(D:List CA)(L:AJ->List Ap)=>A=[.ref Z,.ref Y]) (λZ _ U _ _ _=>H Z=AA (.lst U)) (λ_ _ U F _ _=>FZ H U F) (λ_ Y _ _ D _=>JG H Y D) (λ_ _ _ F D L=>IM F L D) (λ_ _ _ F _ L=>∀J l q W,Ak H J->H l=AD->J l=AA (.lst q)->Bv J q (W.map (HG F))->Fd F L (λ_ _=>True) W->(W.map En).Pairwise (λa b=>CQ b a=AO)->W.length<=9922500->Q (.ref l) J)
theorem b8{K:Ar}{N:Kk}(T:B0 K x N):BW P w K x base Bs 6 N.ky N.ml ["plan","events"] Vi:=by
  have F:=gF.mk (bZ (P:=P) (w:=w) (base:=base) T) T.abq T.xj.kp T.abg;refine T.uf.ok VD (λvs H Q E h=>?_) (λf A C s H vs Q E p h=>?_)
  . refine AB λU=>?_;obtain⟨S,R,b,G,V,L,rfl,_⟩:=h;refine U ?_;try clear U
    rfl
  . refine AB λU=>?_;obtain⟨S,R,b,G,V,L,rfl,Y,pr,n,ok,k⟩:=h;refine U ?_;try clear U
    have nd:=VD.nd;refine⟨_,(Ac (BA (Ee (A7 Ny) [] trivial (Cm (K:=K) (A9 F p (AG (AE 0) (AG (AE 1) AQ)))) (λ_ _ _ _=>F5) (λ_ _ _ _=>(Ay K (AE 0) AM))))),?_⟩;have sz:An=16777216:=Dg;refine⟨S,R,b,G,V,L,rfl,Y,pr,n,ok,λM l ys c s1 hl O X ti so u=>⟨l,rfl,⟨_,AV O⟩,?_⟩⟩;have v:=(C5 X).1;refine Gy (K:=K) (xs:=ys) (λj W J I=>(∃o,W=[o])/\I=M/\Bv M J ((c.take j).map (HG G))) (by(first|lia|omega)) ⟨⟨AD,rfl⟩,rfl,Fq _⟩ (λj W J I⟨_,e,_⟩=>by rw[e];exact AV O) ?_ ?_
    . intro j y W J d R1 r _ B t;refine AB λU=>?_;obtain⟨⟨o,rfl⟩,rfl,hw⟩:=B;obtain⟨q,m,z⟩:=aK X r;obtain⟨a,ra,ia,zs,rfl,g,i,_,_⟩:=z.afv;refine U ?_;try clear U
      refine⟨_,_,Ao g,Ag (j:=4) rfl,t _ _ _ ⟨⟨_,rfl⟩,rfl,?_⟩⟩;rw[DD,m,Bx];exact hw.ft i
    . intro W J d la B D Z;refine AB λU=>?_;obtain⟨_,rfl,hw⟩:=B;refine U ?_;try clear U
      rw[v,Cn (Af _)]at hw;exact k _ D J c (s1.cb Z) (s1.ar Z) Az (hw.ae (Cz Z).tp) ti so u
noncomputable abbrev Be:AJ:="abcdefghijklmnopqrstuvwxyz"
noncomputable def IT:AH->Bool|.str y=>!(yA Be y 0 Be.length 1).isEmpty|_=>AO
noncomputable def J4:AH->Bool|.str z=>(AZ ((1:Int)<=(z.length:Int))&&AZ ((z.length:Int)<=12))&&(Mp z).all IT|_=>AO
theorem Z7{D:List AJ}(h:∀z∈D,z.length=1):(YR "" D).length<=D.length/\(D.map (·.length)).sum=D.length:=by
 have e:YR "" D=Sr "" D:=O1 (qJ "" D);have l:=StrLaws.join_length_le ("":AJ) D;have z:(("":AJ)).length=0:=rfl;have q:(D.map (·.length)).sum=D.length:=by clear l e;induction D with|nil=>rfl|cons a r J=> rw[Cu,X4,h a D6,J λz F=>h z (E5 _ F),FT];(first|lia|omega)
 rw[z,Nat.mul_zero,q]at l;rw[e];exact⟨l,q⟩
noncomputable def JL(m:Int):AJ:=⟨#[Be.cps.toList.getD (m%26).toNat 0]⟩
theorem aJ(m:Int):C3 Be.cps.toList (m%26)=AA (Be.cps.toList.getD (m%26).toNat 0):=by
 refine AB λF=>?_;obtain⟨v,W,_⟩:=FN Be.cps.toList 26 (by decide+kernel) (by decide) m;refine F ?_;try clear F
 have J:0<=m%26:=DR _ (by decide);have e:((m%26).toNat:Int)=m%26:=Tn J;have U:m%26<26:=EM _ (by decide);have V:Be.cps.toList.length=26:=by decide+kernel
 have D:(m%26).toNat<Be.cps.toList.length:=by(first|lia|omega)
 rw[<-e];refine Ag ?_;rw[B8 (by simpa using D),Mv,e,B8 D];rfl
noncomputable def dD(K:Ar):Ba:=λF H Q _=>Hk (λ(a:AI)(D:List Int)(i:Int)=>F=[.ref a,.int i]) (λa D _=>Bg K H a (D.map AH.int)) (λ_ D _=>D.length<=63) (λ_ _ i=>0<=i) (λ_ _ _=>∀j:Int,Q (.int j) H)
theorem Nn{K:Ar}{W:Kk}(T:B0 K C W):BW P w K C base Bs 1 W.oq W.ph ["_law_script","_law_k"] (dD K):=by
  refine T.dy.ok VG (λG H Q E h=>?_) (λZ A U s H G Q E L h=>?_)
  . refine AB λD=>?_;obtain⟨a,F,i,rfl,_⟩:=h;refine D ?_;try clear D
    rfl
  . refine AB λD=>?_;obtain⟨a,F,i,rfl,Y,I,B,k⟩:=h;refine D ?_;try clear D
    have M:=VG.nd;refine⟨_,(CG (Bc (BK Ik (AE 1) (CN (JT (K:=K)) (by rfl) T.ke ID (AG (AE 0) AQ)) (BL _)) (Ac (BA (Ci K (AE 0) (AE 1)))) Bt) (Ac (BA AM))),?_⟩;refine⟨_,.inl Y,_,rfl,Er (λe=>?_) λe=>k 0⟩;have e:i<((F.map AH.int).length:Int):=ABs e;have J:i.toNat<F.length:=by rw[Am]at e;(first|lia|omega)
    have q:=Ag (xs:=F.map AH.int) (j:=i.toNat) (v:=.int F[i.toNat]) (by rw[BV,B8 J];rfl);rw[Tn B]at q;exact⟨_,_,Y,q,k _⟩
noncomputable def d8:Ba:=λD H Q _=>∃c m:Int,D=[.int c,.int m]/\1<=m/\∀r:Int,0<=r->r<=m->Q (.int r) H
theorem bM{K:Ar}{V:Kk}(T:B0 K Z V):BW P w K Z base Bs 1 V.fg V.fm ["_law_cell","_law_most"] d8:=by
  refine T.km.ok VP (λq H Q E h=>?_) (λY A F s H q Q E M h=>?_)
  . refine AB λD=>?_;obtain⟨c,m,rfl,_⟩:=h;refine D ?_;try clear D
    rfl
  . refine AB λD=>?_;obtain⟨c,m,rfl,L,k⟩:=h;refine D ?_;try clear D
    have N:=VP.nd;refine⟨_,(Fp (Bc (BK Ca (AS BY (AE 0) AM) AM (BL _)) (Ac (BA (AS BY (AS CD (AE 0) AM) (AS CC (AE 1) AM)))) Bt) (Fp (Bc (BK Ca (AS BY (AE 0) AM) AM (BL _)) (Ac (BA (AS E3 (AE 1) (AS BY (AS CD (AE 0) AM) AM)))) Bt) (Ac (BA (AS BY (AS CD (AE 0) AM) (CN (K8 rfl) (by rfl) T.qr KU (AG AM (AG (AS CC (AE 1) AM) AQ)))))))),?_⟩;have W:(0:Int)<4:=by decide
    refineλ_ _ _ _ B J=>⟨W,rfl,_,rfl,Er (λ_=>?_) λ_=>B _ _ ?_⟩
    . have b:0<=c/4%(m+1)/\c/4%(m+1)<m+1:=⟨DR _ (by(first|lia|omega)),EM _ (by(first|lia|omega))⟩;exact⟨⟨by decide,by decide⟩,(by show(0:Int)<m+1;(first|lia|omega)),J _ _ (k _ b.1 (by(first|lia|omega)))⟩
    refineλ_ _ _ _ C U=>⟨W,rfl,_,rfl,Er (λ_=>?_) λ_=>C _ _ ?_⟩;. have G:0<=c/4%2/\c/4%2<2:=⟨DR _ (by decide),EM _ (by decide)⟩;exact⟨⟨by decide,by decide⟩,(by decide:(0:Int)<2),U _ _ (k _ (by(first|lia|omega)) (by(first|lia|omega)))⟩
    . have p:(0:Int)<(if m+1<13 then m+1 else 13):=by split<;>(first|lia|omega)
      have b:0<=c/4%(if m+1<13 then m+1 else 13)/\c/4%(if m+1<13 then m+1 else 13)<(if m+1<13 then m+1 else 13):=⟨DR _ (by(first|lia|omega)),EM _ p⟩;have I:(if m+1<13 then m+1 else(13:Int))<=m+1:=by split<;>(first|lia|omega)
      exact⟨⟨by decide,by decide⟩,p,k _ b.1 (by(first|lia|omega))⟩
noncomputable def Dw(y:AJ):Prop:=∀c∈y.cps.toList,IT (.str ⟨#[c]⟩)=AF
theorem IU(z:AJ):z.length=z.cps.toList.length:=by simp[zI]
theorem UJ(a b:AJ):(a++b).cps.toList=a.cps.toList++b.cps.toList:=by show(a.cps++b.cps).toList=_;simp
theorem aQ{y:AJ}(h:Dw y)(D:1<=y.length)(F:y.length<=12):J4 (.str y)=AF:=by show((AZ ((1:Int)<=(y.length:Int))&&AZ ((y.length:Int)<=12))&&(Mp y).all IT)=AF;rw[ABq (by(first|lia|omega)),ABq (by(first|lia|omega)),NW,NW];unfold Mp;rw[pE,SN];exact h
theorem Dw.aga(F:Dw a)(J:Dw b):Dw (a++b):=λc D=>by
 rw[UJ]at D;rcases CT.mp D with h|h;.exact F c h
 .exact J c h
theorem UL{x:AJ}(F:0<=j)(W:j<=(x.length:Int))(J:Dw x):Dw (FW x AD (AA j))/\Dw (FW x (AA j) AD)/\(FW x AD (AA j)).length+(FW x (AA j) AD).length=x.length:=by have U:FW x AD (AA j)=rM x AD (AA j):=rfl;have V:FW x (AA j) AD=rM x (AA j) AD:=rfl;have Y:=IU x;rw[U,V,zJ ⟨F,by(first|lia|omega)⟩,StrLaws.sliceText_from ⟨F,by(first|lia|omega)⟩];refine⟨λc D=>J c (Xz (pQ D)),λc D=>J c (Xz (pQ D)),?_⟩;rw[IU,IU,IU];show(M4 _ (pF 0 _)).length+(M4 _ (pF _ _)).length=_;rw[Eh,Eh,LZ,LZ];(first|lia|omega)
theorem UT(m:Int):Dw (JL m):=by
 have V:Be.cps.toList.length=26:=by decide+kernel
 have D:∀d:Nat,d<26->IT (.str ⟨#[Be.cps.toList.getD d 0]⟩)=AF:=by decide+kernel
 intro c F;have J:0<=m%26:=DR _ (by decide);have U:m%26<26:=EM _ (by decide);have e:c=Be.cps.toList.getD (m%26).toNat 0:=by simpa[JL]using F
 rw[e];exact D _ (by(first|lia|omega))
theorem QC:∀{D:List AJ},(∀z∈D,Dw z/\z.length=1)->Dw (Sr ⟨#[]⟩ D)/\(Sr ⟨#[]⟩ D).length=D.length
 |[],_=>⟨λc J=>absurd (show c∈([]:List Nat)from J) (by simp),rfl⟩|a::r,h=>by
  refine AB λF=>?_;obtain⟨i1,i2⟩:=QC λz U=>h z (E5 _ U);obtain⟨V,W⟩:=h a D6;refine F ?_;try clear F
  rw[AAr];exact⟨V.aga i1,by rw[Ke,i2,W,FT];(first|lia|omega)⟩
noncomputable def FJ(t:Int)(n:Nat):AJ:=YR "" ((F2 0 n).map (λx=>match x with|.int j=>JL (t+5*j*(1+t%3))|_=>("":AJ)))
noncomputable def Hq(c k:Int):Int:=c+31*k*(c%2)
noncomputable def Ez(c k:Int)(z:AJ):Int:=Hq c k/26%(13-(z.length:Int))
noncomputable def IQ(c n:Int):Int:=if c%2=0 then c/4%(n+1)else n
noncomputable def C9(c k:Int)(z:AJ):AJ:=FW (FJ (Hq c k) (Ez c k z).toNat) AD (AA (IQ c (Ez c k z)))++z++FW (FJ (Hq c k) (Ez c k z).toNat) (AA (IQ c (Ez c k z))) AD
noncomputable def dH:Ba:=λF H Q _=>Hk (λ(c k:Int)(z:AJ)=>F=[.int c,.int k,.str z]) (λ_ _ z=>Dw z) (λ_ _ z=>1<=z.length) (λ_ _ z=>z.length<=2) (λc k z=>(J4 (.str (C9 c k z))=AF->∀D,Ak H D->Q (.str (C9 c k z)) D))
theorem Zo(D:0<=n):0<=IQ c n/\IQ c n<=n:=by unfold IQ;have b:0<=c/4%(n+1)/\c/4%(n+1)<n+1:=⟨DR _ (by(first|lia|omega)),EM _ (by(first|lia|omega))⟩;split<;>(first|lia|omega)
theorem L9{K:Ar}{M:Kk}(T:B0 K v M):BW P w K v base Bs 1 M.fb M.fi ["_law_cell","_law_k","_law_signs"] dH:=by
  refine T.bc.ok VI (λvs H Q E h=>?_) (λf A L s H vs Q E hr h=>?_)
  . refine AB λF=>?_;obtain⟨c,i,z,rfl,_⟩:=h;refine F ?_;try clear F
    rfl
  . refine AB λF=>?_;obtain⟨c,i,z,rfl,p,r,u,k⟩:=h;refine F ?_;try clear F
    have W:=VI.nd;refine⟨_,(CG (Ax 3 W A6) (Aq (Ax 4 W (AS CC (AE 0) (AS D1 (AS D1 AM (AE 1)) (AS BY (AE 0) AM)))) (Aq (Ax 5 W (AS BY (AS CD (AE 4) AM) (AS E3 AM (CN gU (by rfl) T.ke ID (AG (AE 2) AQ))))) (Aq (Ax 6 W (LM (K:=K) F.plainAttrs_str F.slot_str_join F.type_str_join (j8 (K:=K)) A6 (AG (Ee (A7 N0) [("_law_letters",3),("_law_turned",4)] ⟨rfl,rfl,rfl,rfl,trivial⟩ (Mj (by rfl) T.nh (AG (AE 5) AQ)) (λ_ _ _ _=>F5) (λ_ _ _ _=>(HS KI (AE 1) (AS BY (AS CC (AE 2) (AS D1 (AS D1 AM (AE 0)) (AS CC AM (AS BY (AE 2) AM)))) AM) (λ_ _=>rfl)))) AQ))) (Aq (Ax 7 W (AE 5)) (Aq (GZ (Bc (BK Ca (AS BY (AE 0) AM) AM (BL _)) (Ac (Ax 7 W (AS BY (AS CD (AE 0) AM) (AS CC (AE 5) AM)))) Bt)) (Ac (BA (AS Mf (AS Mf (GV XU (AE 6) Hv (FQ (AE 7))) (AE 2)) (GV XU (AE 6) (FQ (AE 7)) Hv)))))))))),?_⟩;have b2:0<=c%2/\c%2<2:=⟨DR _ (by decide),EM _ (by decide)⟩;have sz:An=16777216:=Dg;refineλ_ _ _ _ z2=>⟨.inl ⟨by decide,by decide⟩,(by decide:(0:Int)<2),.inr ⟨by(first|lia|omega),by(first|lia|omega)⟩,z2 [AA (.int c),AA (.int i),AA (.str z),AA (.str Be),AA (.int (Hq c i)),AD,AD,AD] _ ?_⟩;refineλ_ _ _ _ z3=>⟨⟨by decide,by decide⟩,z,rfl,by(first|lia|omega),(by show(0:Int)<13-(z.length:Int);(first|lia|omega)),z3 [AA (.int c),AA (.int i),AA (.str z),AA (.str Be),AA (.int (Hq c i)),AA (.int (Ez c i z)),AD,AD] _ ?_⟩;have N:0<=Ez c i z/\Ez c i z<13-(z.length:Int):=⟨DR _ (by(first|lia|omega)),EM _ (by(first|lia|omega))⟩;obtain⟨S,X⟩:=Zo (c:=c) N.1;have k:∀y a,y=FJ (Hq c i) (Ez c i z).toNat->a=IQ c (Ez c i z)->J4 (.str (FW y AD (AA a)++z++FW y (AA a) AD))=AF->∀Z,Ak H Z->Q (.str (FW y AD (AA a)++z++FW y (AA a) AD)) Z:=λy a e g=>by subst e g;exact k
    generalize V:IQ c (Ez c i z)=a at S X k;have V:(if c%2=0 then c/4%(Ez c i z+1)else Ez c i z)=a:=V;generalize Hq c i=t at k⊢;generalize Ez c i z=n at k N X V⊢;refineλ_ _ _ _ z4=>⟨rfl,_,rfl,by(first|lia|omega),by(first|lia|omega),?_⟩;refine hJ (λ_=>AF) (λx=>.str (match x with|.int j=>JL (t+5*j*(1+t%3))|_=>"")) (by(first|lia|omega)) (λx R _ q=>q) (λx R G _ q=>?_) λD m=>?_
    . refine AB λF=>?_;obtain⟨j,_,rfl⟩:=BH.mp G;refine F ?_;try clear F
      have h3:0<=t%3:=DR _ (by decide);have h4:t%3<3:=EM _ (by decide);exact⟨.inl ⟨by decide,by decide⟩,(by decide:(0:Int)<3),.inr ⟨by(first|lia|omega),by(first|lia|omega)⟩,(by decide:(0:Int)<26),_,_,_,rfl,rfl,by decide+kernel,aJ _,q⟩
    . have J:∀y∈(F2 0 n.toNat).map (λx=>match x with|.int j=>JL (t+5*j*(1+t%3))|_=>("":AJ)),Dw y/\y.length=1:=λy I=>by obtain⟨x,G,rfl⟩:=BH.mp I;obtain⟨j,_,rfl⟩:=BH.mp G;exact⟨UT _,rfl⟩
      refine AB λF=>?_;obtain⟨_,O⟩:=Z7 λy I=>(J y I).2;obtain⟨B,C⟩:=QC J;refine F ?_;try clear F
      have l:FJ t n.toNat=Sr ⟨#[]⟩ _:=O1 (qJ "" _);rw[<-l]at B C;have U:((F2 0 n.toNat).map (λx=>match x with|.int j=>JL (t+5*j*(1+t%3))|_=>("":AJ))).length=n.toNat:=by rw[Am,F2,Am,My]
      rw[U]at C O;refine⟨"",D,(F2 0 n.toNat).map (λx=>match x with|.int j=>JL (t+5*j*(1+t%3))|_=>("":AJ)),rfl,rfl,AV ?_,?_,?_⟩
      . rw[Az,List.filter_eq_self.mpr (λ_ _=>rfl),Cb];rfl
      . rw[O,U];have:(("":AJ)).length=0:=rfl;rw[this];(first|lia|omega)
      have d:∀o,Ak H (AW H D o):=λo=>(CS H).cb m;refine z4 [AA (.int c),AA (.int i),AA (.str z),AA (.str Be),AA (.int t),AA (.int n),AA (.str (FJ t n.toNat)),AD] _ ?_;have k:=λa=>k (FJ t n.toNat) a rfl;generalize FJ t n.toNat=y at k B C⊢;refineλ_ _ _ _ z5=>z5 _ _ ?_;refineλ_ _ _ _ z6=>GS (λY Z=>Ak H Z/\Y=[AA (.int c),AA (.int i),AA (.str z),AA (.str Be),AA (.int t),AA (.int n),AA (.str y),AA (.int a)]) ?_ ?_
      . refine⟨(by decide:(0:Int)<2),rfl,_,rfl,Fo (λe=>?_) λe=>?_⟩;. rw[ABo e]at V;exact⟨⟨by decide,by decide⟩,(by show(0:Int)<n+1;(first|lia|omega)),d _,by rw[<-V];rfl⟩
        . rw[ABn e]at V;exact⟨d _,by rw[<-V];rfl⟩
      rintro Y H1⟨s1,rfl⟩;refine z6 _ _ ?_;refine AB λF=>?_;obtain⟨p1,p2,p3⟩:=UL (x:=y) (j:=a) S (by(first|lia|omega)) B;refine F ?_;try clear F
      have nv:J4 (.str (FW y AD (AA a)++z++FW y (AA a) AD))=AF:=aQ ((p1.aga p).aga p2) (by rw[Ke,Ke];(first|lia|omega)) (by rw[Ke,Ke];(first|lia|omega));have b:y.length<=An:=by(first|lia|omega)
      exact⟨_,rfl,y,rfl,b,_,_,rfl,rfl,by(first|lia|omega),_,rfl,y,rfl,b,_,_,rfl,rfl,by rw[Ke];(first|lia|omega),k a rfl nv _ s1⟩
theorem L6(a b:AJ):(a++b).cps.toList=a.cps.toList++b.cps.toList:=UJ a b
theorem N5{a b:AJ}(h:a.cps.toList=b.cps.toList):a=b:=XY h
theorem Zs{z F:AJ}(hz:z.length=F.length)(G:z.length<=2)(h:C9 c k z=C9 c J F):z=F:=by
  unfold C9 at h;by_cases Y:c%2=0
  . have t1:Hq c k=Hq c J:=by unfold Hq;rw[Y];(first|lia|omega)
    have s1:Ez c k z=Ez c J F:=by unfold Ez;rw[t1,hz]
    rw[t1,s1]at h;have h:=ABp (λy:AJ=>y.cps.toList) h;simp only[L6]at h;have h:=List.append_cancel_right h;exact N5 (List.append_cancel_left h)
  . have A:∀(k:Int)(z:AJ),z.length<=2->0<=Ez c k z:=λk z hz=>DR _ (by(first|lia|omega));have C:∀n,IQ c n=n:=λn=>by unfold IQ;rw[ABn Y]
    have B:∀(t:Int)(n:Int),0<=n->(FW (FJ t n.toNat) (AA n) AD).cps.toList=[]:=λt n Z=>by
      have D:∀y∈(F2 0 n.toNat).map (λx=>match x with|.int j=>JL (t+5*j*(1+t%3))|_=>("":AJ)),Dw y/\y.length=1:=λy I=>by obtain⟨x,H,rfl⟩:=BH.mp I;obtain⟨j,_,rfl⟩:=BH.mp H;exact⟨UT _,rfl⟩
      obtain⟨U,V⟩:=QC D;have W:FJ t n.toNat=Sr ⟨#[]⟩ _:=O1 (qJ "" _);have U:Dw (FJ t n.toNat):=by rw[W];exact U
      rw[Am,F2,Am,My]at V;have V:(FJ t n.toNat).length=n.toNat:=by rw[W];exact V
      obtain⟨_,_,L⟩:=UL (x:=FJ t n.toNat) (j:=n) Z (by(first|lia|omega)) U;have E:FW (FJ t n.toNat) AD (AA n)=rM (FJ t n.toNat) AD (AA n):=rfl;have K:=IU (FJ t n.toNat);have q:(FW (FJ t n.toNat) AD (AA n)).length=n.toNat:=by rw[E,zJ ⟨Z,by(first|lia|omega)⟩,IU];show(M4 _ (pF 0 _)).length=_;rw[Eh,LZ];(first|lia|omega)
      refine Xw.mp ?_;rw[<-IU];(first|lia|omega)
    have h:=ABp (λy:AJ=>y.cps.toList) h;simp only[L6,C]at h;rw[B _ _ (A k z G),B _ _ (A J F (by(first|lia|omega))),Eg,Eg]at h;refine N5 (List.append_inj_right' h ?_);rw[<-IU,<-IU,hz]
noncomputable abbrev Bk(j:Nat):AJ:=⟨#[Be.cps.toList.getD j 0]⟩
theorem Nf(j:Nat)(h:j<26):C3 Be.cps.toList (j:Int)=AA (Be.cps.toList.getD j 0):=by
 refine Ag ?_;have D:Be.cps.toList.length=26:=by decide+kernel
 rw[B8 (by(first|lia|omega)),Mv,B8 (by(first|lia|omega))];rfl
theorem UH(j:Nat)(h:j<26):Dw (Bk j):=by
 have D:∀d:Nat,d<26->IT (.str ⟨#[Be.cps.toList.getD d 0]⟩)=AF:=by decide+kernel
 intro c F;have e:c=Be.cps.toList.getD j 0:=by simpa[Bk]using F
 rw[e];exact D _ h
theorem UI(hi:i<26)(F:j<26)(h:Bk i=Bk j):i=j:=by
 have D:∀i:Nat,i<26->∀j:Nat,j<26->Be.cps.toList.getD i 0=Be.cps.toList.getD j 0->i=j:=by decide+kernel
 refine D i hi j F ?_;have q:=ABp (λy:AJ=>y.cps.toList) h;simpa[Bk]using q
noncomputable def Ew:List AJ:=["take","only","turn","both","join","each","gap","count","sum","least","greatest","late","end"]
theorem fW:∀z∈Ew,J4 (.str z)=AF:=by decide+kernel
theorem fV:∀i:Nat,i<13->∀j:Nat,j<13->Ew.getD i ""=Ew.getD j ""->i=j:=by decide+kernel
noncomputable def Fz(b k:Int)(z:AJ):AJ:=if b%9=4 then Ew.getD ((k+b/9)%13).toNat ""else C9 b k z
theorem J3(i j:Nat):(Bk i++Bk j).length=2:=by rw[Ke];rfl
theorem fP(h:Bk i++Bk j=Bk J++Bk U)(hi:i<26)(V:j<26)(D:J<26)(F:U<26):i=J/\j=U:=by have q:=ABp (λy:AJ=>y.cps.toList) h;simp only[L6]at q;obtain⟨W,Y⟩:=List.append_inj q rfl;exact⟨UI hi D (N5 W),UI V F (N5 Y)⟩
noncomputable def eC:Ba:=λF H Q _=>Nb (λ(b k:Int)(z:AJ)=>F=[.int b,.int k,.str z]) (λ_ _ z=>Dw z) (λ_ _ z=>z.length=2) (λ_ k _=>0<=k) (λ_ k _=>k<13) (λb k z=>(J4 (.str (Fz b k z))=AF->∀D,Ak H D->Q (.str (Fz b k z)) D))
theorem bT{K:Ar}{Z:Kk}(T:B0 K X Z):BW P w K X base Bs 2 Z.cv Z.cw ["_law_base","_law_k","_law_signs"] eC:=by
  have D:=gF.mk (L9 (P:=P) (w:=w) (base:=base) T) T.bp T.bc.kp T.bo;refine T.fw.ok VU (λe H Q E h=>?_) (λG A Y s H e Q E N h=>?_)
  . refine AB λU=>?_;obtain⟨b,k,z,rfl,_⟩:=h;refine U ?_;try clear U
    rfl
  . refine AB λU=>?_;obtain⟨b,k,z,rfl,O,R,i,S,J⟩:=h;refine U ?_;try clear U
    have a:=VU.nd;refine⟨_,(Aq (Ax 3 a (CJ (AG A6 (AG A6 (AG A6 (AG A6 (AG A6 (AG A6 (AG A6 (AG A6 (AG A6 (AG A6 (AG A6 (AG A6 (AG A6 AQ))))))))))))))) (CG (Bc (Fj (LP (BK Ca (AS BY (AE 0) AM) AM (BL _)) (LQ (BK Ik (AE 1) AM (BL _))))) (Ac (BA (Ci K (AE 3) (AS BY (AS CC (AE 1) (AS CD (AE 0) AM)) AM)))) Bt) (Ac (BA (A9 D N (AG (AE 0) (AG (AE 1) (AG (AE 2) AQ)))))))),?_⟩;refineλ_ _ _ _ f=>⟨by show 13<=An;decide,λl M=>f _ _ ?_⟩;refine As (o:=.lst (Ew.map AH.str)) M λg s1 I=>?_;unfold Fz at J;refine⟨(by decide:(0:Int)<9),rfl,_,rfl,Fo (λq=>?_) λq=>?_⟩
    . rw[ABo q]at J;refine⟨_,rfl,iY (show k<13 from S) ?_⟩;have W:0<=(k+b/9)%13/\(k+b/9)%13<13:=⟨DR _ (by decide),EM _ (by decide)⟩;have F:((k+b/9)%13).toNat<Ew.length:=by show _<13;(first|lia|omega)
      have B:Ew.getD ((k+b/9)%13).toNat ""=Ew[((k+b/9)%13).toNat]:=by rw[Mv,B8 F];rfl
      have L:C3 (Ew.map AH.str) ((k+b/9)%13)=AA (.str (Ew.getD ((k+b/9)%13).toNat "")):=by have q:=Ag (xs:=Ew.map AH.str) (j:=((k+b/9)%13).toNat) (v:=.str (Ew.getD ((k+b/9)%13).toNat "")) (by rw[BV,B8 F,B];rfl);rw[Tn W.1]at q;exact q
      exact⟨⟨by decide,by decide⟩,(by decide:(0:Int)<13),_,_,AV I,L,J (fW _ (by rw[B];exact Mx F)) _ s1⟩
    . rw[ABn q]at J;exact C4 ⟨b,k,z,rfl,O,by(first|lia|omega),by(first|lia|omega),λc C d=>J c C (s1.aa d)⟩
noncomputable def Qy(k:AJ)(evs:List CA):List DS:=(evs.filter λe=>AZ (e.2.1=k)).map Kq
noncomputable def Fy(wi:Int)(A B:List DS):List DS:=A.flatMap λi=>(B.filter (EA wi i)).map (Gv i)
noncomputable def Gu(s:Ah)(L:AJ->List DS)(evs:List CA):List DS:=match s with|.take _ k=>Qy k evs|.only _ a F D=>(L a).filter λi=>AZ (F<=i.2.2/\i.2.2<=D)|.turn _ a f g=>(L a).map (Ku f g)|.both _ a b=>L a++L b|.join _ a b J=>Fy J (L a) (L b)|.gap _ a _ _=>L a|.each _ a _ _ _=>L a
noncomputable def Fe(L:AJ->List Ap):AJ->List DS:=λa=>(L a).map (·.1)
theorem Vl:∀(evs:List CA)(n:Nat),((evs.zipIdx n).flatMap λp=>(E1 k p.1).map λx=>((x,[(p.2:Int)]):Ap)).map (·.1)=Qy k evs
 |[],_=>rfl|e::r,n=>by
  rw[wQ,O3,Bx,Vl r,Cb];unfold Qy E1;by_cases h:e.2.1=k;.rw[ABo h,KP,ABo (ABq h)];rfl
  .rw[ABn h,KP,ABn (λq=>h (ABs q))];rfl
theorem JK:∀B:List Ap,(B.filter λj=>p j.1).map (·.1)=(B.map (·.1)).filter p
 |[]=>rfl|j::B=>by
  rw[Cu,KP,KP];split;.rw[Cu,JK B]
  .exact JK B
theorem UK{B:List Ap}:∀A:List Ap,(Fx wi A B).map (·.1)=Fy wi (A.map (·.1)) (B.map (·.1))|[]=>rfl|i::A=>by have D:=UK (wi:=wi) (B:=B) A;unfold Fx Fy at D⊢;rw[O3,Bx,D,Cu,O3,<-JK,Cb,Cb];rfl
theorem Nk:(GO s L evs).map (·.1)=Gu s (Fe L) evs:=by cases s with|take n k=>exact Vl evs 0|only n a F D=>exact JK (p:=λi=>AZ (F<=i.2.2/\i.2.2<=D)) (L a)|turn n a f g=>show((L a).map (MG f g)).map (·.1)=((L a).map (·.1)).map (Ku f g);rw[Cb,Cb];rfl|both n a b=>exact Bx|join n a b J=>exact UK (L a)|gap n a s m=>rfl|each n a s z d=>rfl
theorem P5(wi:Int)(B:List DS):∀A:List DS,(Fy wi A B).length<=A.length*B.length|[]=>Bd _|i::A=>by have D:=P5 wi B A;unfold Fy at D⊢;rw[O3,CY,Am,FT,Nat.add_mul];have:=Gd (EA wi i) B;(first|lia|omega)
noncomputable def dW(n:Nat):Ba:=λZ H Q _=>UB (λ(Y W:AI)(J:List AH)(F:List Ah)(D:List CA)(L:AJ->List DS)(i:Nat)(s:Ah)=>Z=[.ref Y,.str s.nm,.ref W]) (λY _ J _ _ _ _ _=>H Y=AA (.lst J)) (λ_ _ J F _ _ _ _=>FZ H J F) (λ_ _ _ F _ _ _ _=>Jz F) (λ_ _ _ F _ _ _ _=>F.length<=100) (λ_ W _ _ D _ _ _=>JG H W D) (λ_ _ _ _ D _ _ _=>D.length<=20) (λ_ _ _ F D L _ s=>(∀s∈F,L s.nm=Gu s L D/\(L s.nm).length<=1000)) (λ_ _ _ F _ _ i s=>F[i]?=AA s) (λ_ _ _ _ _ _ _ s=>s.br=AO) (λ_ _ _ _ _ _ i _=>i<n) (λ_ _ _ _ _ L _ s=>∀r U,Ak H U->H r=AD->To U r (L s.nm)->Q (.ref r) U)
theorem bH{K:Ar}{ad:Kk}(T:B0 K mg ad):∀n:Nat,BW P w K mg base Bs (n+1) ad.gm ad.gy ["_law_plan","_law_name","_law_events_here"] (dW n):=by intro n;induction n with
  |zero=>
    refine T.cj.ok Qt (λvs H Q E h=>?_) (λcdv A outer s H vs Q E hr h=>?_)
    . refine AB λJ=>?_;obtain⟨lp,le,ps,ss,evs,L,i,s,rfl,_⟩:=h;refine J ?_;try clear J
      rfl
    . refine AB λJ=>?_;obtain⟨lp,le,ps,ss,evs,L,i,s,rfl,_,_,_,_,_,_,_,_,_,hi,_⟩:=h;refine J ?_;try clear J
      exact absurd hi (Sf _)|succ n ih=>
    have U:=ih;refine T.cj.ok Qt (λvs H Q E h=>?_) (λcdv A outer s H vs Q E hr h=>?_)
    . refine AB λJ=>?_;obtain⟨lp,le,ps,ss,evs,L,i,s,rfl,_⟩:=h;refine J ?_;try clear J
      rfl
    . refine AB λJ=>?_;obtain⟨lp,le,ps,ss,evs,L,i,G,rfl,elp,pr,pok,lss,ev,lev,hL,ei,ht,hi,k⟩:=h;refine J ?_;try clear J
      have nd:=Qt.nd;refine⟨_,(Aq (Ax 3 nd (Ci K (Ee (A7 J6) [("_law_name",1)] ⟨rfl,rfl,trivial⟩ (Cm (K:=K) (AE 0)) (λ_ _ _ _=>Gb (BK Ca (Ay K (AE 0) AM) (AE 1) (BL _))) (λ_ _ _ _=>(AE 0))) AM)) (Fp (Bc (BK Ca (Ay K (AE 3) AM) A6 (BL _)) (Ac (BA (Ee (A7 J6) [("_law_step_here",3)] ⟨rfl,rfl,trivial⟩ (Cm (K:=K) (AE 2)) (λ_ _ _ _=>Gb (BK Ca (Ay K (AE 0) AM) (Ay K (AE 1) AM) (BL _))) (λ_ _ _ _=>(CL (AG (Ay K (AE 0) AM) (AG (Ay K (AE 0) AM) (AG (Ay K (AE 0) AM) AQ)))))))) Bt) (Aq (Ax 4 nd (KJ U (hr.uo (by(first|lia|omega))) (by rfl) T.ig T.cj.kp T.gs .nil LL (AG (AE 0) (AG (Ay K (AE 3) AM) (AG (AE 2) AQ))))) (Fp (Bc (BK Ca (Ay K (AE 3) AM) A6 (BL _)) (Ac (BA (Ee (A7 J6) [("_law_step_here",3)] ⟨rfl,rfl,trivial⟩ (Cm (K:=K) (AE 4)) (λ_ _ _ _=>Gb (LO Ij Ij (Ay K (AE 1) AM) (Ay K (AE 0) AM) (Ay K (AE 1) AM))) (λ_ _ _ _=>(AE 0))))) Bt) (Fp (Bc (BK Ca (Ay K (AE 3) AM) A6 (BL _)) (Ac (BA (kU (osc:=A7 J6) [("_law_step_here",3)] rfl (Cm (K:=K) (AE 4)) rfl rfl (by decide+kernel) (by decide+kernel) (by decide+kernel) ⟨rfl,rfl,trivial⟩ rfl rfl rfl (by decide+kernel) (λ_ _ _ _=>F5) (λ_ _ _ _=>(CL (AG (AE 0) (AG (AE 1) (AG (AS CC (AS D1 (AE 2) (Ay K (AE 3) AM)) (Ay K (AE 3) AM)) AQ)))))))) Bt) (Aq (Ax 5 nd (KJ U (hr.uo (by(first|lia|omega))) (by rfl) T.ig T.cj.kp T.gs .nil LL (AG (AE 0) (AG (Ay K (AE 3) AM) (AG (AE 2) AQ))))) (Fp (Bc (BK Ca (Ay K (AE 3) AM) A6 (BL _)) (Ac (BA (AS Oi (AE 4) (AE 5)))) Bt) (Aq (Ax 6 nd (CJ AQ)) (Aq (Dp Dr rfl (Cm (K:=K) (AE 4)) (GX rfl (DC (Cr 7 nd) (DC (Cr 8 nd) (DC (Cr 9 nd) GY)))) (Ac (E4 (Dp Dr rfl (Cm (K:=K) (AE 5)) (Cr 10 nd) (Ac (E4 (Bc (Fj (LP (BK Ca (Ay K (AE 10) AM) (AE 8) (BL _)) (LQ (BK Ij (AS E3 (CN (OS rfl) (by rfl) T.ui Lc (AG (AE 7) (AG (Ay K (AE 10) AM) AQ))) (CN (K8 rfl) (by rfl) T.qr KU (AG (AE 7) (AG (Ay K (AE 10) AM) AQ)))) (Ay K (AE 3) AM) (BL _))))) (Ac (D4 (Ed K (AE 6) (AG (CL (AG (CN (OS rfl) (by rfl) T.ui Lc (AG (AE 7) (AG (Ay K (AE 10) AM) AQ))) (AG (AE 8) (AG (AS E3 (AE 9) (Ay K (AE 10) AM)) AQ)))) AQ)))) Bt))))))) (Ac (BA (AE 6)))))))))))),?_⟩;have sz:An=16777216:=Dg;have lps:=pr.bj;have hi2:=(Bh.mp ei).1;refine AB λJ=>?_;obtain⟨a,ex,ea⟩:∃a,ps[i]?=AA (.ref a)/\Bj H a G:=by have e:=B8 (show i<ps.length by(first|lia|omega));obtain⟨a,s',e1,e2,e3⟩:=pr.at e;rw[ei]at e2;cases e2;exact⟨a,by rw[e,e1],e3⟩
      refine J ?_;try clear J
      refineλ_ _ _ _ z1=>⟨lp,rfl,⟨_,AV elp⟩,?_⟩;refine KH (K:=K) (xs:=ps) (λm N F Z=>(∃o,N=[o,AA (.str G.nm)])/\Z=H/\(m<=i->F=[])/\(i<m->F=[.ref a])) (by(first|lia|omega)) ⟨⟨AD,rfl⟩,rfl,λ_=>rfl,λh=>absurd h (Sf _)⟩ (λm N F Z⟨_,e,_⟩=>by rw[e];exact AV elp) ?_ ?_
      . intro m y N F Z R1 R0 hy _ I k1 k0;refine AB λJ=>?_;obtain⟨⟨o,rfl⟩,rfl,a1,a2⟩:=I;obtain⟨b,s',rfl,es,eb⟩:=pr.at hy;obtain⟨b0,b1,b2⟩:=eb.cx (K:=K);refine J ?_;try clear J
        refine⟨_,_,b0,b2,rfl,_,rfl,LB (λh=>?_) λh=>k0 _ _ ⟨⟨_,rfl⟩,rfl,λq=>a1 (by(first|lia|omega)),λq=>?_⟩⟩
        . have em:=pok.uz m i s' G es ei h;subst em;rw[hy]at ex;cases ex;refine k1 _ _ _ ⟨⟨_,rfl⟩,rfl,λq=>by(first|lia|omega),λ_=>?_⟩;rw[a1 (Af _)];rfl
        . by_cases e:m=i
          . subst e;rw[ei]at es;cases es;exact absurd rfl h
          .exact a2 (by(first|lia|omega))
      intro N F Z _ I D S;refine AB λJ=>?_;obtain⟨_,rfl,_,a2⟩:=I;refine J ?_;try clear J
      rw[a2 (by(first|lia|omega))];have s1:=Cz (o:=.lst [.ref a]) S;have eD:(AW Z D (.lst [.ref a])) D=AA (.lst [.ref a]):=Az;generalize AW Z D (.lst [.ref a])=H1 at s1 eD⊢;refine⟨_,_,AV eD,Ag (j:=0) rfl,z1 _ _ ?_⟩;have ea1:Bj H1 a G:=s1 _ _ ea;refine AB λJ=>?_;obtain⟨e0,e1,_⟩:=ea1.cx (K:=K);obtain⟨xs,el,wl⟩:=ev.bf s1;refine J ?_;try clear J
      have lx:=wl.bj;rw[Am]at lx;have memS:=B9 ei;have mS:=(hL G memS).1;have k:∀{r:AI}{R:AN}{ys:List AH},Ak H1 R->H1 r=AD->R r=AA (.lst ys)->Bv R ys ((Gu G L evs).map DT)->Q (.ref r) R:=λs hr e w=>k _ _ (s1.aa s) (s1.ar hr) ⟨_,e,by rw[mS];exact w⟩;clear mS eD ex;refineλ_ _ _ _ z2 zr2=>⟨_,_,e0,e1,rfl,_,rfl,EO (i:=0) rfl (λq0=>?_) λq0=>z2 _ _ ?_⟩
      . refine AB λJ=>?_;obtain⟨v,kd,rfl⟩:∃v kd,G=.take v kd:=by cases G<;>first|exact⟨_,_,rfl⟩|cases q0
        refine J ?_;try clear J
        refine⟨le,rfl,⟨_,AV el⟩,?_⟩;refine KH (K:=K) (xs:=xs) (λm N F Z=>(∃o,N=[o,AA (.ref a)])/\Ak H1 Z/\Bv Z F ((((evs.take m).filter λe=>AZ (e.2.1=kd)).map Kq).map DT)) (by(first|lia|omega)) ⟨⟨AD,rfl⟩,CS _,Fq _⟩ (λm N F Z⟨_,s,_⟩=>AV (s _ _ el)) ?_ ?_
        . intro m y N F R R1 R0 hy _ I k1 k0;refine AB λJ=>?_;obtain⟨⟨o,rfl⟩,s,l⟩:=I;obtain⟨b,ks,rfl,ek,eb⟩:=wl.at hy;rw[BV]at ek;obtain⟨⟨t,ki,z,am⟩,ej,rfl⟩:=Co.mp ek;refine J ?_;try clear J
          have fs:=Kr (p:=λe:CA=>AZ (e.2.1=kd)) ej;have b0:Bw K R b _:=Ao (s _ _ eb);refine⟨_,_,b0,Ag (j:=1) rfl,_,_,Ao (s _ _ ea1),Ag (j:=2) rfl,rfl,_,rfl,LB (λh=>?_) λh=>k0 _ _ ⟨⟨_,rfl⟩,s,by rw[fs,ABn (by rw[ABu];exact h),Eg];exact l⟩⟩;refine⟨_,_,b0,Ag (j:=0) rfl,_,_,b0,Ag (j:=2) rfl,_,_,b0,Ag (j:=3) rfl,BF rfl,λp2 hp2=>k1 _ _ _ ⟨⟨_,rfl⟩,s.cb hp2,?_⟩⟩;rw[fs,ABo (by rw[ABu];exact h),Bx,Bx];exact(l.ae (Cz hp2).tp).ft (ks:=DT (t,z,am)) Az
        . intro N F R la I D S;refine AB λJ=>?_;obtain⟨_,s,l⟩:=I;refine J ?_;try clear J
          rw[Cn (by(first|lia|omega))]at l;exact zr2 _ _ (k (s.cb S) (s.ar S) Az (l.ae ((CS _).cb S).tp))
      refine AB λJ=>?_;obtain⟨f,hf,e3⟩:∃f,f∈G.aw/\C3 (G.mz.map Al) 2=AA (.str f):=by cases G<;>first|exact absurd rfl q0|exact⟨_,.head _,Ag (j:=2) rfl⟩
      obtain⟨i1,t1,l1,ei1,rfl,ht1⟩:=pok.uk i G f ei hf;refine J ?_;try clear J
      refineλ_ _ _ _ z4=>⟨_,_,e0,e3,lp,le,ps,ss,evs,L,i1,t1,rfl,s1 _ _ elp,pr.ae s1.tp,pok,lss,⟨xs,el,wl⟩,lev,hL,ei1,ht1,by(first|lia|omega),λr1 R s2 hr1⟨xa,er1,wa⟩=>z4 _ _ ?_⟩;have lA:=(hL t1 (B9 ei1)).2;have lxa:=wa.bj;rw[Am]at lxa;have ea2:Bj R a G:=s2 _ _ ea1;refine AB λJ=>?_;obtain⟨e0,e1,_⟩:=ea2.cx (K:=K);refine J ?_;try clear J
      refineλ_ _ _ _ z5 zr5=>⟨_,_,e0,e1,rfl,_,rfl,EO (i:=1) rfl (λq1=>?_) λq1=>z5 _ _ ?_⟩
      . refine AB λJ=>?_;obtain⟨v,f,lo,hi',rfl⟩:∃v f lo hi',G=.only v f lo hi':=by cases G<;>first|exact⟨_,_,_,_,rfl⟩|cases q1
        refine J ?_;try clear J
        have ef:f=t1.nm:=(Bl.mp hf).symm;subst ef;refine⟨r1,rfl,⟨_,AV er1⟩,?_⟩;refine KH (K:=K) (xs:=xa) (λm N F Z=>(∃o,N=[o,AA (.ref a)])/\Z=R/\Bv R F ((((L t1.nm).take m).filter λi=>AZ (lo<=i.2.2/\i.2.2<=hi')).map DT)) (by(first|lia|omega)) ⟨⟨AD,rfl⟩,rfl,Fq _⟩ (λm N F Z⟨_,ee,_⟩=>by rw[ee];exact AV er1) ?_ ?_
        . intro m y N F H3 R1 R0 hy _ I k1 k0;refine AB λJ=>?_;obtain⟨⟨o,rfl⟩,rfl,l⟩:=I;obtain⟨b,ks,rfl,ek,eb⟩:=wa.at hy;rw[BV]at ek;obtain⟨⟨t,z,am⟩,ej,rfl⟩:=Co.mp ek;refine J ?_;try clear J
          have fs:=Kr (p:=λi:DS=>AZ (lo<=i.2.2/\i.2.2<=hi')) ej;have no:¬(lo<=am/\am<=hi')->Bv H3 F ((((L t1.nm).take (m+1)).filter λi=>AZ (lo<=i.2.2/\i.2.2<=hi')).map DT):=λq=>by rw[fs,ABn (by rw[ABu];exact q),Eg];exact l
          refine⟨_,_,e0,Ag (j:=3) rfl,_,_,Ao eb,Ag (j:=2) rfl,_,rfl,F3 (λh1=>?_) λh1=>⟨_,rfl,C4 (k0 _ _ ⟨⟨_,rfl⟩,rfl,no λq=>h1 q.1⟩)⟩⟩;refine⟨_,_,e0,Ag (j:=4) rfl,_,rfl,F3 (λh2=>?_) λh2=>k0 _ _ ⟨⟨_,rfl⟩,rfl,no λq=>h2 q.2⟩⟩;refine k1 _ _ _ ⟨⟨_,rfl⟩,rfl,?_⟩;rw[fs,ABo (by rw[ABu];exact⟨h1,h2⟩),Bx];exact l.ft eb
        . intro N F H3 la I D S;refine AB λJ=>?_;obtain⟨_,rfl,l⟩:=I;refine J ?_;try clear J
          rw[Cn (by(first|lia|omega))]at l;exact zr5 _ _ (k (s2.cb S) (s2.ar S) Az (l.ae ((CS _).cb S).tp))
      refineλ_ _ _ _ z7 zr7=>⟨_,_,e0,e1,rfl,_,rfl,EO (i:=2) rfl (λq2=>?_) λq2=>z7 _ _ ?_⟩
      . refine AB λJ=>?_;obtain⟨v,f,fc,gc,rfl⟩:∃v f fc gc,G=.turn v f fc gc:=by cases G<;>first|exact⟨_,_,_,_,rfl⟩|cases q2
        refine J ?_;try clear J
        have ef:f=t1.nm:=(Bl.mp hf).symm;subst ef;have okf:-100<=fc/\fc<=100:=pok.ok _ memS;refine⟨r1,rfl,⟨_,AV er1⟩,?_⟩;refine Gy (K:=K) (xs:=xa) (λm N F Z=>(∃o p q,N=[o,p,q,AA (.ref a)])/\Ak R Z/\Bv Z F ((((L t1.nm).take m).map (Ku fc gc)).map DT)) (by(first|lia|omega)) ⟨⟨AD,AD,AD,rfl⟩,CS _,Fq _⟩ (λm N F Z⟨_,s,_⟩=>AV (s _ _ er1)) ?_ ?_
        . intro m y N F H3 R1 hy _ I k1;refine AB λJ=>?_;obtain⟨⟨o,o',o'',rfl⟩,s3,l⟩:=I;obtain⟨b,ks,rfl,ek,eb⟩:=wa.at hy;rw[BV]at ek;obtain⟨⟨t,z,am⟩,ej,rfl⟩:=Co.mp ek;refine J ?_;try clear J
          have p0:Bw K H3 a _:=Ao (s3 _ _ ea2);refine⟨b,_,rfl,Ao (s3 _ _ eb),rfl,_,_,rfl,_,_,rfl,_,_,rfl,rfl,?_⟩;refine⟨_,_,p0,Ag (j:=3) rfl,.inr ⟨by(first|lia|omega),by(first|lia|omega)⟩,_,_,p0,Ag (j:=4) rfl,BF rfl,λp2 hp2=>k1 _ _ _ ⟨⟨_,_,_,rfl⟩,s3.cb hp2,?_⟩⟩;rw[DD,ej,Bx,Bx];exact(l.ae (Cz hp2).tp).ft (ks:=DT (Ku fc gc (t,z,am))) Az
        . intro N F H3 la I D S;refine AB λJ=>?_;obtain⟨_,s3,l⟩:=I;refine J ?_;try clear J
          rw[Cn (by(first|lia|omega))]at l;exact zr7 _ _ (k (s2.aa (s3.cb S)) (s2.ar (s3.ar S)) Az (l.ae ((CS _).cb S).tp))
      refine AB λJ=>?_;obtain⟨f2,hf2,e4⟩:∃f2,G.aw=[t1.nm,f2]/\C3 (G.mz.map Al) 3=AA (.str f2):=by cases G with |take n k=>exact absurd rfl q0|only n a lo hi=>exact absurd rfl q1|turn n a f g=>exact absurd rfl q2|gap n a s m=>cases ht|each n a s z d=>cases ht|both n a b=> rw[<-AH.str.inj (De ((Ag (xs:=(Ah.both n a b).mz.map Al) (j:=2) rfl).symm.trans e3))];exact⟨b,rfl,Ag (j:=3) rfl⟩|join n a b Y=> rw[<-AH.str.inj (De ((Ag (xs:=(Ah.join n a b Y).mz.map Al) (j:=2) rfl).symm.trans e3))];exact⟨b,rfl,Ag (j:=3) rfl⟩
      obtain⟨i2,t2,l2,ei2,rfl,ht2⟩:=pok.uk i G f2 ei (by rw[hf2];exact .tail _ (.head _));refine J ?_;try clear J
      have S2:=s1.aa s2;refineλ_ _ _ _ z9=>⟨_,_,e0,e4,lp,le,ps,ss,evs,L,i2,t2,rfl,S2 _ _ elp,pr.ae S2.tp,pok,lss,ev.bf S2,lev,hL,ei2,ht2,by(first|lia|omega),λr2 H3 s3 hr2⟨xb,er2,wb⟩=>z9 _ _ ?_⟩;have lB:=(hL t2 (B9 ei2)).2;have lxb:=wb.bj;rw[Am]at lxb;have S3:=s2.aa s3;have ea3:Bj H3 a G:=s3 _ _ ea2;have er13:=s3 _ _ er1;have wa3:=wa.ae s3.tp;refine AB λJ=>?_;obtain⟨e0,e1,_⟩:=ea3.cx (K:=K);refine J ?_;try clear J
      clear hr1 hr2 S2 er1 wa ea2 ea1 el wl ev pr;refineλ_ _ _ _ z10 zr10=>⟨_,_,e0,e1,rfl,_,rfl,EO (i:=3) rfl (λq3=>?_) λq3=>z10 _ _ ?_⟩
      . refine AB λJ=>?_;obtain⟨v,f,g,rfl⟩:∃v f g,G=.both v f g:=by cases G<;>first|exact⟨_,_,_,rfl⟩|cases q3
        obtain⟨rfl,eg⟩:=D5 hf2;obtain⟨rfl,_⟩:=D5 eg;refine J ?_;try clear J
        refine⟨r1,r2,xa,xb,rfl,rfl,er13,er2,by(first|lia|omega),λD S=>zr10 _ _ (k (S3.cb S) (S3.ar S) Az ?_)⟩;show Bv _ _ ((L t1.nm++L t2.nm).map DT);rw[Bx];exact Bv.ae (D3 wa3 wb) ((CS _).cb S).tp
      refine AB λJ=>?_;obtain⟨v,f,g,Y,rfl⟩:∃v f g Y,G=.join v f g Y:=by cases G with |take n k=>exact absurd rfl q0|only n a lo hi=>exact absurd rfl q1|turn n a f g=>exact absurd rfl q2|gap n a s m=>cases ht|each n a s z d=>cases ht|both n a b=>exact absurd rfl q3|join n a b Y=>exact⟨_,_,_,_,rfl⟩
      obtain⟨rfl,eg⟩:=D5 hf2;obtain⟨rfl,_⟩:=D5 eg;refine J ?_;try clear J
      have k:∀{r:AI}{R:AN}{ys:List AH},Ak H1 R->H1 r=AD->R r=AA (.lst ys)->Bv R ys ((Fy Y (L t1.nm) (L t2.nm)).map DT)->Q (.ref r) R:=k;generalize L t1.nm=C at k lA lxa wa3;generalize L t2.nm=B at k lB lxb wb;refineλ_ _ _ _ z12=>⟨Bd _,λu hu=>z12 _ _ ?_⟩;refine As (o:=.lst []) hu λH4 t0 eu0=>?_;refineλ_ _ _ _ z13=>⟨r1,rfl,⟨_,AV (t0 _ _ er13)⟩,Fm (K:=K) (xs:=xa) (λn σ Z=>P0 (λ(o7 o8 o9 o10:Option AH)(F:List AH)=>σ=[AA (.ref lp),AA (.str v),AA (.ref le),AA (.ref a),AA (.ref r1),AA (.ref r2),AA (.ref u),o7,o8,o9,o10]) (λ_ _ _ _ _=>Ak H3 Z) (λ_ _ _ _ F=>Z u=AA (.lst F)) (λ_ _ _ _ F=>Bv Z F ((Fy Y (C.take n) B).map DT))) ⟨AD,AD,AD,AD,[],rfl,t0,eu0,Fq _⟩ (λn σ Z _ hh=>by obtain⟨_,_,_,_,_,_,s',_⟩:=hh;exact AV (s' _ _ er13)) ?_ ?_⟩
      . intro j x σ H5 hx I;refine AB λJ=>?_;obtain⟨o7,o8,o9,o10,F,rfl,s5,eu5,hw5⟩:=I;obtain⟨b,ks,rfl,ek,eb⟩:=wa3.at hx;rw[BV]at ek;obtain⟨⟨W,M,O⟩,eij,rfl⟩:=Co.mp ek;refine J ?_;try clear J
        refine⟨b,_,rfl,Ao (s5 _ _ eb),rfl,_,_,rfl,_,_,rfl,_,_,rfl,rfl,?_⟩;refineλ_ _ _ _ z14=>⟨r2,rfl,⟨_,AV (s5 _ _ er2)⟩,Fm (K:=K) (xs:=xb) (λm σ Z=>L3 (λ(o10:Option AH)(F:List AH)=>σ=[AA (.ref lp),AA (.str v),AA (.ref le),AA (.ref a),AA (.ref r1),AA (.ref r2),AA (.ref u),AA (.int W),AA (.str M),AA (.int O),o10]) (λ_ _=>Ak H3 Z) (λ_ F=>Z u=AA (.lst F)) (λ_ F=>Bv Z F ((Fy Y (C.take j) B++((B.take m).filter (EA Y (W,M,O))).map (Gv (W,M,O))).map DT))) ⟨_,F,rfl,s5,eu5,by simpa using hw5⟩ (λm σ Z _ hh=>by obtain⟨_,_,_,s',_⟩:=hh;exact AV (s' _ _ er2)) ?_ ?_⟩
        . intro m y σ H6 hy I;refine AB λJ=>?_;obtain⟨o10,F,rfl,s6,eu6,hw6⟩:=I;obtain⟨c,ks,rfl,ek,ec⟩:=wb.at hy;rw[BV]at ek;obtain⟨⟨X,zj,aj⟩,ej,rfl⟩:=Co.mp ek;refine J ?_;try clear J
          have fs:=Kr (p:=EA Y (W,M,O)) ej;have c6:Bw K H6 c _:=Ao (s6 _ _ ec);have no:¬(zj=M/\W-Y<=X/\X<=W+Y)->Bv H6 F ((Fy Y (C.take j) B++((B.take (m+1)).filter (EA Y (W,M,O))).map (Gv (W,M,O))).map DT):=λq=>by rw[fs,ABn (by unfold EA;rw[ABu];exact q),Eg];exact hw6
          refineλ_ _ _ _ z15=>⟨_,_,c6,Ag (j:=1) rfl,rfl,_,rfl,LB (λh1=>?_) λh1=>C4 (z15 _ _ ⟨_,F,rfl,s6,eu6,no λq=>h1 q.1⟩)⟩;refine⟨_,_,c6,Ag (j:=0) rfl,_,_,c6,Ag (j:=0) rfl,_,_,Ao (s6 _ _ ea3),Ag (j:=4) rfl,_,rfl,F3 (λh2=>?_) λh2=>z15 _ _ ⟨_,F,rfl,s6,eu6,no λq=>h2 ?_⟩⟩
          . have lac:F.length<=1001000:=by rw[hw6.bj,Am,CY,Am];have h3:=P5 Y B (C.take j);rw[Eh]at h3;have h4:=Gd (EA Y (W,M,O)) (B.take m);rw[Eh]at h4;have h5:=wY (show Dd j C.length<=1000 by(first|lia|omega)) lB;(first|lia|omega)
            refine⟨.inl ⟨rfl,_,AV eu6⟩,_,_,c6,Ag (j:=0) rfl,_,_,c6,Ag (j:=2) rfl,BF rfl,λp2 hp2=>?_⟩;have sp2:=Cz (o:=.tup ((DT (Gv (W,M,O) (X,zj,aj))).map Al)) hp2;have e2:(AW H6 p2 (.tup ((DT (Gv (W,M,O) (X,zj,aj))).map Al))) p2=AA (.tup ((DT (Gv (W,M,O) (X,zj,aj))).map Al)):=Az;have eu7:=sp2 _ _ eu6;refine⟨u,F,.ref p2,rfl,rfl,eu7,by(first|lia|omega),z15 _ _ ⟨_,F++[.ref p2],rfl,(s6.aa sp2).dw hu,Az,?_⟩⟩;have h2:(if W<X then X else W)-(if X<W then X else W)<=Y:=h2;have nr:EA Y (W,M,O) (X,zj,aj)=AF:=by unfold EA;rw[ABu];refine⟨h1,?_⟩;show W-Y<=X/\X<=W+Y;split at h2<;>split at h2<;>(first|lia|omega)
            have e5:(Fy Y (C.take j) B++((B.take (m+1)).filter (EA Y (W,M,O))).map (Gv (W,M,O))).map DT=(Fy Y (C.take j) B++((B.take m).filter (EA Y (W,M,O))).map (Gv (W,M,O))).map DT++[DT (Gv (W,M,O) (X,zj,aj))]:=by rw[fs,ABo nr];simp
            rw[e5];exact Bv.ae ((hw6.ae sp2.tp).ft e2) ((ER _).cb eu7 λxs=>by intro z;cases z)
          . refine AB λJ=>?_;obtain⟨_,q1,q2⟩:=q;refine J ?_;try clear J
            show(if W<X then X else W)-(if X<W then X else W)<=Y;split<;>split<;>(first|lia|omega)
        . intro σ H6 I;refine AB λJ=>?_;obtain⟨o10,F,rfl,s6,eu6,hw6⟩:=I;refine J ?_;try clear J
          refine z14 _ _ ⟨_,_,_,_,F,rfl,s6,eu6,?_⟩;rw[show B.take xb.length=B from Cn (by(first|lia|omega))]at hw6;have:Fy Y (C.take (j+1)) B=Fy Y (C.take j) B++(B.filter (EA Y (W,M,O))).map (Gv (W,M,O)):=by unfold Fy;rw[DD,eij];exact UN _ _ _
          rw[this];exact hw6
      . intro σ H5 I;refine AB λJ=>?_;obtain⟨o7,o8,o9,o10,F,rfl,s5,eu5,hw5⟩:=I;refine J ?_;try clear J
        rw[show C.take xa.length=C from Cn (by(first|lia|omega))]at hw5;exact z13 _ _ (k (S3.aa s5) (S3.ar hu) eu5 hw5)
noncomputable def eX:Ba:=λD H Q _=>∃n:Int,D=[.int n]/\Q (.bl AF) H
theorem Uh{K:Ar}{J:Kk}(T:B0 K V J):BW P w K V base Bs 1 J.gq J.ic ["_law_thing"] eX:=by
  refine T.gg.ok VX (λW H Q E h=>?_) (λU A F s H W Q E Y h=>?_)
  . refine AB λD=>?_;obtain⟨n,rfl,_⟩:=h;refine D ?_;try clear D
    rfl
  . refine AB λD=>?_;obtain⟨n,rfl,k⟩:=h;refine D ?_;try clear D
    have Z:=VX.nd;refine⟨_,(Ac (BA (Ru (CN (HK (K:=K)) (by rfl) T.ax Iq (AG (AE 0) (AG (HR (v:=.ty "int") (by rfl) T.acx qE rfl) AQ))) (Rx (XB (CN (HK (K:=K)) (by rfl) T.ax Iq (AG (AE 0) (AG (HR (v:=.ty "bool") (by rfl) T.acw xE rfl) AQ)))))))),?_⟩;exact⟨_,"int",_,AF,rfl,.int n,rfl,_,rfl,HN ⟨_,"bool",_,AO,rfl,.int n,rfl,_,rfl,k⟩⟩
noncomputable def DL(s:Ah)(z:AJ->Nat)(m:Nat):Nat:=match s with|.take ..=>m|.both _ a b=>z a+z b|.join _ a b _=>z a*z b|.only _ a _ _|.turn _ a _ _|.gap _ a _ _|.each _ a _ _ _=>z a
noncomputable def dF:Ba:=λF H Q _=>T7 (λ(p d:AI)(s:Ah)(D:List (AR×AH))(z:AJ->Nat)(m:Nat)=>F=[.ref p,.ref d,.int (m:Int)]) (λp _ s _ _ _=>Bj H p s) (λ_ d _ D _ _=>H d=AA (.dK D)) (λ_ _ s D z _=>(∀a∈s.aw,CI D (.inr a)=AA (.int (z a:Int))/\z a<=150)) (λ_ _ s _ z m=>Q (.int (DL s z m:Int)) H)
theorem aU{K:Ar}{N:Kk}(T:B0 K l N):BW P w K l base Bs 1 N.gk N.gx ["_law_step_here","_law_sizes","_law_many"] dF:=by
  refine T.ny.ok VH (λo H Q E h=>?_) (λR A Z s H o Q E U h=>?_)
  . refine AB λD=>?_;obtain⟨p,d,s,Y,z,m,rfl,_⟩:=h;refine D ?_;try clear D
    rfl
  . refine AB λD=>?_;obtain⟨p,d,F,Y,z,m,rfl,e,c,O,k⟩:=h;refine D ?_;try clear D
    have x:=VH.nd;refine⟨_,(Fp (Bc (BK Ca (Ay K (AE 0) AM) A6 (BL _)) (Ac (BA (AE 2))) Bt) (Fp (Bc (BK Ca (Ay K (AE 0) AM) A6 (BL _)) (Ac (BA (AS CC (Il U.u1 (AE 1) (Ay K (AE 0) AM) (λ_ _=>rfl)) (Il U.u1 (AE 1) (Ay K (AE 0) AM) (λ_ _=>rfl))))) Bt) (Fp (Bc (BK Ca (Ay K (AE 0) AM) A6 (BL _)) (Ac (BA (AS D1 (Il U.u1 (AE 1) (Ay K (AE 0) AM) (λ_ _=>rfl)) (Il U.u1 (AE 1) (Ay K (AE 0) AM) (λ_ _=>rfl))))) Bt) (Ac (BA (Il U.u1 (AE 1) (Ay K (AE 0) AM) (λ_ _=>rfl))))))),?_⟩;refine AB λD=>?_;obtain⟨J,V,v⟩:=e.cx (K:=K);refine D ?_;try clear D
    have g:∀a∈F.aw,JN H d (.str a) (AA (.int (z a:Int))):=λa W=>by rw[<-(O a W).1];exact MI (k:=.inr a) c
    refineλ_ _ _ _ r I=>⟨_,_,J,V,rfl,_,rfl,EO (i:=0) rfl (λq=>?_) λq=>r _ _ ?_⟩;.cases F<;>first|cases q;done|exact I _ _ k
    refineλ_ _ _ _ t L=>⟨_,_,J,V,rfl,_,rfl,EO (i:=3) rfl (λB=>?_) λB=>t _ _ ?_⟩
    . refine AB λD=>?_;obtain⟨n,a,b,rfl⟩:∃n a b,F=.both n a b:=by cases F<;>first|exact⟨_,_,_,rfl⟩|cases B
      refine D ?_;try clear D
      exact⟨_,_,J,Ag (j:=2) rfl,d,_,rfl,g a (.head _),_,_,J,Ag (j:=3) rfl,d,_,rfl,g b (.tail _ (.head _)),L _ _ k⟩
    refineλ_ _ _ _ u M=>⟨_,_,J,V,rfl,_,rfl,EO (i:=4) rfl (λC=>?_) λC=>u _ _ ?_⟩
    . refine AB λD=>?_;obtain⟨n,a,b,G,rfl⟩:∃n a b G,F=.join n a b G:=by cases F<;>first|exact⟨_,_,_,_,rfl⟩|cases C
      refine D ?_;try clear D
      have f:=(O a (.head _)).2;refine⟨_,_,J,Ag (j:=2) rfl,d,_,rfl,g a (.head _),_,_,J,Ag (j:=3) rfl,d,_,rfl,g b (.tail _ (.head _)),.inl ⟨by(first|lia|omega),by(first|lia|omega)⟩,M _ _ ?_⟩;have:(DL (.join n a b G) z m:Int)=(z a:Int)*(z b:Int):=Int.natCast_mul ..;rw[this]at k;exact k
    . refine AB λD=>?_;obtain⟨a,W,S,X⟩:∃a,a∈F.aw/\C3 (F.mz.map Al) 2=AA (.str a)/\DL F z m=z a:=by cases F<;>first|exact absurd rfl q|exact absurd rfl B|exact absurd rfl C|exact⟨_,.head _,Ag (j:=2) rfl,rfl⟩
      refine D ?_;try clear D
      rw[X]at k;exact⟨_,_,J,S,d,_,rfl,g a W,k⟩
noncomputable def CW(z:AJ):Prop:=Iy z=AF
theorem Hl(h:J4 (.str z)=AF):Iy z=AF:=by
 have h:((AZ ((1:Int)<=(z.length:Int))&&AZ ((z.length:Int)<=12))&&(Mp z).all IT)=AF:=h;rw[JF]at h;have F:=h.2;unfold Mp at F;rw[pE,SN]at F;unfold Iy;rw[<-Array.all_toList,SN];intro c J;have q:IT (.str ⟨#[c]⟩)=AF:=F c J;have q:(!(yA Be ⟨#[c]⟩ 0 Be.length 1).isEmpty)=AF:=q;rw[StrLaws.found_one Be c]at q;have m:c∈Be.cps.toList:=ABs q;have D:∀c∈Be.cps.toList,c<0x110000:=by decide+kernel
 exact ABq (D c m)
noncomputable def dU:Ba:=λJ H Q _=>∃b j:Int,J=[.int b,.int j]/\0<=j/\j<3/\∀F D,Ak H D->CW F->Q (.str F) D
theorem QJ{K:Ar}{B:Kk}(T:B0 K a B):BW P w K a base Bs 2 B.jb B.jo ["_law_base","_law_j"] dU:=by
  have D:=gF.mk (L9 (P:=P) (w:=w) (base:=base) T) T.bp T.bc.kp T.bo;refine T.du.ok VM (λg H Q E h=>?_) (λI A Z s H g Q E R h=>?_)
  . refine AB λF=>?_;obtain⟨b,j,rfl,_⟩:=h;refine F ?_;try clear F
    rfl
  . refine AB λF=>?_;obtain⟨b,j,rfl,S,X,k⟩:=h;refine F ?_;try clear F
    have m:=VM.nd;refine⟨_,(CG (Bc (BK Ca (AS BY (AE 0) AM) AM (BL _)) (Ac (BA (Ci K (CJ (AG A6 (AG A6 (AG A6 AQ)))) (AE 1)))) Bt) (Ac (BA (A9 D R (AG (AS CD (AE 0) AM) (AG (AE 1) (AG (HS KI A6 (AE 1) (λ_ _=>rfl)) AQ))))))),?_⟩;have M:j=0\/j=1\/j=2:=by(first|lia|omega)
    refine⟨(by decide:(0:Int)<9),rfl,_,rfl,Fo (λe=>?_) λe=>?_⟩
    . refine⟨BF rfl,λq O=>?_⟩;refine As (o:=.lst [.str "turn",.str "late",.str "take"]) O λl s1 W=>?_;rcases M with rfl|rfl|rfl;.exact⟨_,_,AV W,Ag (j:=0) rfl,k _ _ s1 (by decide+kernel:PyData.strOk "turn"=true)⟩
      .exact⟨_,_,AV W,Ag (j:=1) rfl,k _ _ s1 (by decide+kernel:PyData.strOk "late"=true)⟩
      .exact⟨_,_,AV W,Ag (j:=2) rfl,k _ _ s1 (by decide+kernel:PyData.strOk "take"=true)⟩
    . have U:∃V,C3 ("mno":AJ).cps.toList j=AA V/\Dw ⟨#[V]⟩:=by
        have J:∀c∈("mno":AJ).cps.toList,IT (.str ⟨#[c]⟩)=AF:=by decide+kernel
        obtain⟨v,C,N⟩:=FN ("mno":AJ).cps.toList 3 (by decide+kernel) (by decide) j;rw[Te S X]at C;refine⟨v,C,λc L=>?_⟩;have e:c=v:=by simpa using L
        rw[e];exact J v N
      refine AB λF=>?_;obtain⟨V,Y,G⟩:=U;refine F ?_;try clear F
      exact⟨⟨by decide,by decide⟩,_,_,_,rfl,rfl,by decide+kernel,Y,_,_,_,rfl,G,(by show 1<=1;decide),(by show 1<=2;decide),λd i f=>k _ _ f (Hl d)⟩
noncomputable def Ah.aat:Ah->List AJ|.take n k=>[n,k]|.only n a _ _=>[n,a]|.turn n a _ _=>[n,a]|.both n a b=>[n,a,b]|.join n a b _=>[n,a,b]|.gap n a s _=>[n,a,s]|.each n a s _ _=>[n,a,s]
structure Gs(sn:List AJ)(n:AJ)(s:Ah):Prop where
 nm:s.nm=n
 uk:∀a∈s.aw,a∈sn
 ok:N4 s
 aat:∀t∈s.aat,CW t
 ada:Hn s
noncomputable abbrev Pw:List AH:=[.str "count",.str "sum",.str "least",.str "greatest"]
theorem fH(h:v∈Pw):∃t,v=.str t/\CW t/\t∈Fc:=by simp only[B7,EH,ABt]at h;rcases h with rfl|rfl|rfl|rfl<;>exact⟨_,rfl,by unfold CW;decide+kernel,by decide⟩
theorem Kv{P:AJ->Prop}{a b:AJ}(F:P a)(J:P b):∀t∈[a,b],P t:=λt D=>by simp only[B7,EH,ABt]at D;rcases D with rfl|rfl<;>assumption
theorem Kt{P:AJ->Prop}{a b c:AJ}(F:P a)(J:P b)(U:P c):∀t∈[a,b,c],P t:=λt D=>by simp only[B7,EH,ABt]at D;rcases D with rfl|rfl|rfl<;>assumption
theorem Zz(h:F∈Fc)(J:0<=r)(r1:r<=999999)(r2:0<=D)(U:D<=19*(1+r)):Hn (.each n a F (if 1+r+D<1000000 then 1+r+D else 1000000) (1+r)):=by refine⟨h,by(first|lia|omega),by(first|lia|omega),?_,?_,?_⟩<;>split<;>(first|lia|omega)
noncomputable def eJ:Ba:=λW H Q _=>Kn (λ(c:Int)(n:AJ)(U:AI)(D:List AJ)(F:AJ)=>W=[.int c,.str n,.ref U,.str F]) (λ_ n _ _ _=>CW n) (λ_ _ U D _=>H U=AA (.lst (D.map AH.str))) (λ_ _ _ D _=>(∀a∈D,CW a)) (λ_ _ _ _ F=>CW F) (λ_ _ _ D _=>D.length<=1000) (λc n _ D F=>∀p s J,Ak H J->Bj J p s->Gs D n s->(D≠[]->c%8=6\/c%8=7->s.br=AF)->(D=[]->s=.take n F)->Q (.ref p) J)
theorem bS{K:Ar}{ad:Kk}(T:B0 K mg ad):BW P w K mg base Bs 2 ad.jf ad.jt ["_law_cell","_law_name","_law_streams","_law_kind_here"] eJ:=by
  have D:=gF.mk (bM (P:=P) (w:=w) (base:=base) T) T.vk T.km.kp T.vc;refine T.qi.ok VT (λvs H Q E h=>?_) (λcdv A outer s H vs Q E N h=>?_)
  . refine AB λJ=>?_;obtain⟨c,n,O,W,I,rfl,_⟩:=h;refine J ?_;try clear J
    rfl
  . refine AB λJ=>?_;obtain⟨c,n,O,W,I,rfl,l,f,hzs,hkd,lz,k⟩:=h;refine J ?_;try clear J
    have R:=VT.nd;refine⟨_,(Aq (Ax 4 R (AS BY (AE 0) AM)) (Aq (GZ (Ax 5 R (Oo (BK (LK (K:=K) N.jz) (AE 2) (CJ AQ) (BL _)) (Ci K (AE 2) (AS BY (AS CD (AE 0) AM) (CN (JT (K:=K)) (by rfl) T.ke ID (AG (AE 2) AQ)))) A6))) (Aq (GZ (Ax 6 R (Oo (BK (LK (K:=K) N.jz) (AE 2) (CJ AQ) (BL _)) (Ci K (AE 2) (AS BY (AS CD (AE 0) AM) (CN (JT (K:=K)) (by rfl) T.ke ID (AG (AE 2) AQ)))) A6))) (Aq (Ax 7 R (AS CC (AS CD (AE 0) AM) (AS BY (AS D1 (AS CD (AE 0) AM) AM) AM))) (Aq (Ax 8 R (Ci K (CJ (AG A6 (AG A6 (AG A6 (AG A6 AQ))))) (AS BY (AE 7) AM))) (Fp (Bc (Fj (G6 (BK Ik (AE 4) AM (BL _)) (Im (BK (W2 (K:=K) N.jz) (AE 2) (CJ AQ) (BL _))))) (Ac (BA (CL (AG A6 (AG (AE 1) (AG (AE 3) AQ)))))) Bt) (Fp (Bc (BK Ca (AE 4) AM (BL _)) (Aq (Ax 9 R (AS E3 (A9 D N (AG (AE 7) (AG AM AQ))) (AS D1 AM (AS BY (AS CD (AE 7) AM) AM)))) (Aq (Ax 10 R (AS CC (AE 9) (A9 D N (AG (AS CD (AE 7) AM) (AG AM AQ))))) (Aq (GZ (Bc (BK Ca (AS BY (AS CD (AE 7) AM) AM) AM (BL _)) (Ac (Ax 10 R (AS E3 AM (A9 D N (AG (AS CD (AE 7) AM) (AG AM AQ)))))) Bt)) (Aq (GZ (Bc (BK Ca (AS BY (AS CD (AE 7) AM) AM) AM (BL _)) (CG (Ax 9 R (AS E3 (AS BY (AS CD (AE 7) AM) AM) AM)) (Ac (Ax 10 R (AS CC (AE 9) (AS BY (AS CD (AE 7) AM) AM))))) Bt)) (Ac (BA (CL (AG A6 (AG (AE 1) (AG (AE 5) (AG (AE 9) (AG (CN (OS rfl) (by rfl) T.ui Lc (AG (AE 9) (AG (CN (K8 rfl) (by rfl) T.qr KU (AG AM (AG (AE 10) AQ))) AQ))) AQ)))))))))))) Bt) (Fp (Bc (BK Ca (AE 4) AM (BL _)) (Ac (BA (CL (AG A6 (AG (AE 1) (AG (AE 5) (AG (AS E3 (AS BY (AS CD (AE 7) AM) AM) AM) (AG (AS E3 (A9 D N (AG (AS CD (AE 7) AM) (AG AM AQ))) AM) AQ)))))))) Bt) (Fp (Bc (BK Ca (AE 4) AM (BL _)) (Ac (BA (CL (AG A6 (AG (AE 1) (AG (AE 5) (AG (AE 6) AQ))))))) Bt) (Fp (Bc (BK Ca (AE 4) AM (BL _)) (Ac (BA (CL (AG A6 (AG (AE 1) (AG (AE 5) (AG (AE 6) (AG (A9 D N (AG (AE 7) (AG AM AQ))) AQ)))))))) Bt) (Fp (Bc (BK Ca (AE 4) AM (BL _)) (Aq (Ax 11 R (AS CC AM (A9 D N (AG (AS CD (AE 7) AM) (AG (Ci K (CJ (AG AM (AG AM AQ))) (AS BY (AS CD (AE 7) AM) AM)) AQ))))) (Ac (BA (CL (AG A6 (AG (AE 1) (AG (AE 5) (AG (AE 8) (AG (CN (K8 rfl) (by rfl) T.qr KU (AG AM (AG (AS CC (AE 11) (A9 D N (AG (AS CD (AE 7) AM) (AG (AS D1 AM (AE 11)) AQ)))) AQ))) (AG (AE 11) AQ)))))))))) Bt) (Ac (BA (CL (AG A6 (AG (AE 1) (AG (AE 5) (AG (AE 8) (AG (A9 D N (AG (AS CD (AE 7) AM) (AG AM AQ))) AQ))))))))))))))))))),?_⟩;have B:∀{L:AN},Ak H L->∀s,Gs W n s->(W≠[]->c%8=6\/c%8=7->s.br=AF)->(W=[]->s=.take n I)->∀p,L p=AD->Q (.ref p) (AW L p (.tup (s.mz.map Al))):=λs' st g h2 h3 p Z=>k p st _ (s'.cb Z) Az g h2 h3;have gtk:Gs W n (.take n I):=⟨rfl,λa h=>(by cases h),trivial,Kv l hkd,trivial⟩;have pk:∀d:Int,W≠[]->∃v,C3 (W.map AH.str) (d%(((W.map AH.str).length:Nat):Int))=AA (.str v)/\v∈W/\(0:Int)<(((W.map AH.str).length:Nat):Int):=λd h=>by
      have hpos:0<(W.map AH.str).length:=by rw[Am];exact pJ.mpr h
      obtain⟨v1,g,m1⟩:=FN (W.map AH.str) (((W.map AH.str).length:Nat):Int) rfl (by(first|lia|omega)) d;obtain⟨F,G,rfl⟩:=BH.mp m1;exact⟨F,g,G,by(first|lia|omega)⟩
    have C:∀{b:Bool},(W.map AH.str).isEmpty=b->(b=AF->W=[])/\(b=AO->W≠[]):=λh=>by subst h;cases W with|nil=>exact⟨λ_=>rfl,λh=>(by cases h)⟩|cons a b=>exact⟨λh=>(by cases h),λ_ h=>(by cases h)⟩
    clear k;refineλ_ _ _ _ z1=>⟨(by decide:(0:Int)<8),z1 _ _ ?_⟩;refineλ_ _ _ _ z2=>GS (λY L=>∃F:AJ,Y=[AA (.int c),AA (.str n),AA (.ref O),AA (.str I),AA (.int (c%8)),AA (.str F),AD,AD,AD,AD,AD,AD]/\Ak H L/\(W≠[]->F∈W)) ?_ ?_
    . refine⟨Bd _,λl1 j=>?_⟩;refine As (o:=.lst []) j λH1 s1 e1=>?_;refine⟨O,l1,_,rfl,rfl,AV (s1 _ _ f),AV e1,_,rfl,?_⟩;cases q:(W.map AH.str).isEmpty with |true=>exact C4 ⟨_,rfl,s1,λh=>absurd ((C q).1 rfl) h⟩|false=>
        refine AB λJ=>?_;obtain⟨F,g,mo,Z⟩:=pk (c/8) ((C q).2 rfl);refine J ?_;try clear J
        exact HN ⟨⟨by decide,by decide⟩,_,.inl (AV (s1 _ _ f)),Z,_,_,AV (s1 _ _ f),g,F,rfl,s1,λ_=>mo⟩
    intro Y H1 i;refine AB λJ=>?_;obtain⟨F,rfl,s1,G⟩:=i;refine J ?_;try clear J
    refine z2 _ _ ?_;refineλ_ _ _ _ z3=>GS (λY L=>∃U:AJ,Y=[AA (.int c),AA (.str n),AA (.ref O),AA (.str I),AA (.int (c%8)),AA (.str F),AA (.str U),AD,AD,AD,AD,AD]/\Ak H L/\(W≠[]->U∈W)) ?_ ?_
    . refine⟨Bd _,λl1 j=>?_⟩;refine As (o:=.lst []) j λH2 s2 e1=>?_;have s2:=s1.aa s2;refine⟨O,l1,_,rfl,rfl,AV (s2 _ _ f),AV e1,_,rfl,?_⟩;cases q:(W.map AH.str).isEmpty with |true=>exact C4 ⟨_,rfl,s2,λh=>absurd ((C q).1 rfl) h⟩|false=>
        refine AB λJ=>?_;obtain⟨U,g,mo,Z⟩:=pk (c/160) ((C q).2 rfl);refine J ?_;try clear J
        exact HN ⟨⟨by decide,by decide⟩,_,.inl (AV (s2 _ _ f)),Z,_,_,AV (s2 _ _ f),g,U,rfl,s2,λ_=>mo⟩
    clear s1 pk;intro Y H2 i;refine AB λJ=>?_;obtain⟨U,rfl,s2,S⟩:=i;refine J ?_;try clear J
    refine z3 _ _ ?_;refineλ_ _ _ _ z4=>⟨⟨by decide,by decide⟩,⟨by decide,by decide⟩,.inr ⟨by decide,by decide⟩,(by decide:(0:Int)<2147483647),z4 [AA (.int c),AA (.str n),AA (.ref O),AA (.str I),AA (.int (c%8)),AA (.str F),AA (.str U),AA (.int (c/3200+c/8*48271%2147483647)),AD,AD,AD,AD] _ ?_⟩;generalize c/3200+c/8*48271%2147483647=m;refineλ_ _ _ _ z5=>⟨BF rfl,λl3 hl3=>?_⟩;refine As (o:=.lst Pw) hl3 λH3 s3 e3=>?_;refine AB λJ=>?_;obtain⟨tv,h3,m3⟩:=FN Pw 4 rfl (by decide) m;obtain⟨tl,rfl,okt,mtl⟩:=fH m3;refine J ?_;try clear J
    refine⟨(by decide:(0:Int)<4),_,_,AV e3,h3,z5 _ _ ?_⟩;have S3:=s2.aa s3;refineλ_ _ _ _ z6 zr6=>⟨_,rfl,F3 (λw=>?_) λw=>⟨Bd _,λl4 hl4=>?_⟩⟩;. have w:c%8<2:=w;exact⟨BF rfl,λp Z=>zr6 _ _ (B S3 (.take n I) gtk (λ_ h=>by(first|lia|omega)) (λ_=>rfl) p Z)⟩
    refine As (o:=.lst []) hl4 λH4 s4 e4=>?_;have X:=S3.aa s4;refine⟨O,l4,_,rfl,rfl,AV (X _ _ f),AV e4,_,rfl,?_⟩;cases q:(W.map AH.str).isEmpty with |true=>exact HN ⟨BF rfl,λp Z=>zr6 _ _ (B X (.take n I) gtk (λh=>absurd ((C q).1 rfl) h) (λ_=>rfl) p Z)⟩|false=>
      have t:=(C q).2 rfl;have G:=G t;have S:=S t;have z:∀{s:Ah},W=[]->s=.take n I:=λh=>absurd h t;have y:=hzs F G;have n2:=hzs U S;have f1:∀a∈[F],a∈W:=λa h=>by rw[Bl.mp h];exact G
      have f2:∀a∈[F,U],a∈W:=Kv G S;clear s2 s3 S3 s4 e3 e4 h3 m3 C;refine C4 (z6 _ _ ?_);refineλ_ _ _ _ z8 zr8=>⟨rfl,_,rfl,Fo (λw=>?_) λ_=>z8 _ _ ?_⟩
      . have w:c%8=2:=w;refineλ_ _ _ _ z9=>⟨_,_,rfl,by decide,λr u r1=>⟨⟨by decide,by decide⟩,(by decide:(0:Int)<2),.inl ⟨by decide,by decide⟩,z9 [AA (.int c),AA (.str n),AA (.ref O),AA (.str I),AA (.int (c%8)),AA (.str F),AA (.str U),AA (.int m),AA (.str tl),AA (.int (r-1000000000*(m/8%2))),AD,AD] _ ?_⟩⟩;generalize r-1000000000*(m/8%2)=e;refineλ_ _ _ _ z10=>⟨⟨by decide,by decide⟩,_,_,rfl,by decide,λr' _ _=>z10 [AA (.int c),AA (.str n),AA (.ref O),AA (.str I),AA (.int (c%8)),AA (.str F),AA (.str U),AA (.int m),AA (.str tl),AA (.int e),AA (.int (e+r')),AD] _ ?_⟩;generalize e+r'=x;refineλ_ _ _ _ z11=>GS (λY L=>∃x:Int,Y=[AA (.int c),AA (.str n),AA (.ref O),AA (.str I),AA (.int (c%8)),AA (.str F),AA (.str U),AA (.int m),AA (.str tl),AA (.int e),AA (.int x),AD]/\L=H4) ?_ ?_;.exact⟨⟨by decide,by decide⟩,(by decide:(0:Int)<2),rfl,_,rfl,Fo (λ_=>⟨⟨by decide,by decide⟩,_,_,rfl,by decide,λr' _ _=>⟨_,rfl,rfl⟩⟩) λ_=>⟨_,rfl,rfl⟩⟩
        intro Y H5 i;refine AB λJ=>?_;obtain⟨x,rfl,rfl⟩:=i;refine J ?_;try clear J
        refine z11 _ _ ?_;refineλ_ _ _ _ z13=>GS (λY L=>∃e x:Int,Y=[AA (.int c),AA (.str n),AA (.ref O),AA (.str I),AA (.int (c%8)),AA (.str F),AA (.str U),AA (.int m),AA (.str tl),AA (.int e),AA (.int x),AD]/\L=H5) ?_ ?_;.exact⟨⟨by decide,by decide⟩,(by decide:(0:Int)<2),rfl,_,rfl,Fo (λ_=>⟨⟨by decide,by decide⟩,(by decide:(0:Int)<21),⟨by decide,by decide⟩,(by decide:(0:Int)<21),_,_,rfl,rfl⟩) λ_=>⟨_,_,rfl,rfl⟩⟩
        intro Y H6 i;refine AB λJ=>?_;obtain⟨e,x,rfl,rfl⟩:=i;refine J ?_;try clear J
        refine z13 _ _ ?_;exact⟨BF rfl,λp Z=>zr8 _ _ (B X (.only n F e _) ⟨rfl,f1,trivial,Kv l y,trivial⟩ (λ_ h=>by(first|lia|omega)) z p Z)⟩
      refineλ_ _ _ _ z17 zr17=>⟨rfl,_,rfl,Fo (λw=>?_) λ_=>z17 _ _ ?_⟩;. have w:c%8=3:=w;have b19:0<=m/4%19/\m/4%19<19:=⟨DR _ (by decide),EM _ (by decide)⟩;exact⟨⟨by decide,by decide⟩,(by decide:(0:Int)<19),⟨by decide,by decide⟩,_,_,rfl,by decide,λr u r1=>⟨BF rfl,λp Z=>zr17 _ _ (B X (.turn n F _ _) ⟨rfl,f1,⟨by(first|lia|omega),by(first|lia|omega)⟩,Kv l y,trivial⟩ (λ_ h=>by(first|lia|omega)) z p Z)⟩⟩
      refineλ_ _ _ _ z19 zr19=>⟨rfl,_,rfl,Fo (λw=>?_) λ_=>z19 _ _ ?_⟩;. have w:c%8=4:=w;exact⟨BF rfl,λp Z=>zr19 _ _ (B X (.both n F U) ⟨rfl,f2,trivial,Kt l y n2,trivial⟩ (λ_ h=>by(first|lia|omega)) z p Z)⟩
      refineλ_ _ _ _ z21 zr21=>⟨rfl,_,rfl,Fo (λw=>?_) λ_=>z21 _ _ ?_⟩;. have w:c%8=5:=w;exact⟨_,_,rfl,by decide,λr u r1=>⟨BF rfl,λp Z=>zr21 _ _ (B X (.join n F U r) ⟨rfl,f2,u,Kt l y n2,trivial⟩ (λ_ h=>by(first|lia|omega)) z p Z)⟩⟩
      refineλ_ _ _ _ z23 zr23=>⟨rfl,_,rfl,Fo (λw=>?_) λ_=>z23 _ _ ?_⟩
      . refine AB λJ=>?_;obtain⟨mx,h5,m5⟩:=FN [AH.int 49999,AH.int 999999] 2 rfl (by decide) (m/256);obtain⟨M,rfl,hM⟩:∃M:Int,mx=.int M/\1<=M/\M<=999999:=by
          simp only[B7,EH,ABt]at m5;rcases m5 with rfl|rfl;.exact⟨_,rfl,by decide,by decide⟩
          .exact⟨_,rfl,by decide,by decide⟩
        refine J ?_;try clear J
        refineλ_ _ _ _ z24=>⟨⟨by decide,by decide⟩,BF rfl,λl5 hl5=>?_⟩;refine As (o:=.lst [.int 49999,.int 999999]) hl5 λH5 s5 e5=>?_;refine⟨⟨by decide,by decide⟩,(by decide:(0:Int)<2),_,_,AV e5,h5,_,_,rfl,hM.1,λr u r1=>z24 _ _ ?_⟩;exact⟨⟨by decide,by decide⟩,.inl ⟨by decide,by decide⟩,_,_,rfl,by(first|lia|omega),λr' r2 r3=>⟨BF rfl,λp Z=>zr23 _ _ (B (X.aa s5) (.each n F tl _ _) ⟨rfl,f1,trivial,Kt l y okt,Zz mtl u (by(first|lia|omega)) r2 r3⟩ (λ_ _=>rfl) z p Z)⟩⟩
      exact⟨⟨by decide,by decide⟩,_,_,rfl,by decide,λr u r1=>⟨BF rfl,λp Z=>B X (.gap n F tl r) ⟨rfl,f1,trivial,Kt l y okt,mtl,u⟩ (λ_ _=>rfl) z p Z⟩⟩
noncomputable def Em(b:Int)(n:AJ)(t:Nat×Nat):Prop:=t.1<26/\t.2<26/\((23<=t.1/\∃k:Int,n=C9 b k (Bk t.1++Bk t.2))\/(t.1=0/\t.2<13/\n=Fz b (t.2:Int) (Bk 0++Bk t.2)))
theorem Zr(b k:Int)(z:AJ):∃u v:List Nat,(C9 b k z).cps.toList=u++z.cps.toList++v:=by unfold C9;exact⟨_,_,by rw[L6,L6]⟩
theorem gA:∀w∈Ew,∀i:Nat,i<12->i+1<w.cps.toList.length->w.cps.toList.getD i 0<120:=by decide+kernel
theorem aH:∀i:Nat,i<26->23<=i->120<=Be.cps.toList.getD i 0:=by decide+kernel
theorem f9:∀w∈Ew,w.cps.toList.length<=12:=by decide+kernel
theorem Vr(hi:i<26)(h:23<=i)(hw:w∈Ew):w≠C9 b k (Bk i++Bk j):=λe=>by
 refine AB λD=>?_;obtain⟨u,v,q⟩:=Zr b k (Bk i++Bk j);refine D ?_;try clear D
 rw[<-e]at q;have q:w.cps.toList=u++[Be.cps.toList.getD i 0,Be.cps.toList.getD j 0]++v:=q;have J:=f9 w hw;have U:w.cps.toList.length=u.length+2+v.length:=by rw[q];simp;(first|lia|omega)
 have:=gA w hw u.length (by(first|lia|omega)) (by(first|lia|omega));have F:w.cps.toList.getD u.length 0=Be.cps.toList.getD i 0:=by rw[q,F7,Mv,LY (Af _),Sg];rfl
 have:=aH i hi h;(first|lia|omega)
theorem Vh(h:b%9=4)(k:Nat)(z:AJ):Fz b k z∈Ew:=by unfold Fz;rw[ABo h];have D:0<=((k:Int)+b/9)%13:=DR _ (by decide);have F:((k:Int)+b/9)%13<13:=EM _ (by decide);have l:Ew.length=13:=rfl;rw[Mv,B8 (by(first|lia|omega))];exact Mx _
theorem Qv(h:Em b n t)(h':Em b n t'):t=t':=by
  refine AB λI=>?_;obtain⟨Z,J,h⟩:=h;obtain⟨q,U,h'⟩:=h';refine I ?_;try clear I
  have V:∀{k E:Int}{i j B C:Nat},i<26->j<26->B<26->C<26->C9 b k (Bk i++Bk j)=C9 b E (Bk B++Bk C)->i=B/\j=C:=λW Y K L e=>fP (Zs (by rw[J3,J3]) (by rw[J3];decide) e) W Y K L;rcases h with⟨c,k,rfl⟩|⟨c,M,rfl⟩
  . rcases h' with⟨F,E,e⟩|⟨F,A,e⟩
    . obtain⟨G,H⟩:=V Z J q U e;exact Sh G H
    . by_cases D:b%9=4;.exact absurd e.symm (Vr Z c (Vh D t'.2 _))
      . unfold Fz at e;rw[ABn D]at e;obtain⟨G,H⟩:=V Z J (by decide) U e;(first|lia|omega)
  . rcases h' with⟨F,E,e⟩|⟨F,A,e⟩
    . by_cases D:b%9=4;.exact absurd e (Vr q F (Vh D t.2 _))
      . unfold Fz at e;rw[ABn D]at e;obtain⟨G,H⟩:=V (by decide) J q U e;(first|lia|omega)
    . have:t.2=t'.2:=by
        by_cases D:b%9=4
        . unfold Fz at e;rw[ABo D,ABo D]at e;have W:∀k:Nat,0<=((k:Int)+b/9)%13:=λk=>DR _ (by decide);have Y:∀k:Nat,((k:Int)+b/9)%13<13:=λk=>EM _ (by decide);have:=fV _ (by have:=W t.2;have:=Y t.2;(first|lia|omega)) _ (by have:=W t'.2;have:=Y t'.2;(first|lia|omega)) e;(first|lia|omega)
        . unfold Fz at e;rw[ABn D,ABn D]at e;exact(V (by decide) J (by decide) U e).2
      exact Sh (c.trans F.symm) this
noncomputable def Dh(sn:List AJ)(z:AJ->Nat):List (AR×AH):=sn.map λa=>(.inr a,.int (z a:Int))
theorem fT(h:a∈sn):CI (Dh sn z) (.inr a)=AA (.int (z a:Int)):=by
 unfold CI Dh;rw[List.find?_map];have F:(sn.find? ((λJ:AR×AH=>AZ (J.1=.inr a))∘λa=>((.inr a:AR),AH.int (z a:Int)))).isSome=AF:=by rw[List.find?_isSome];exact⟨a,h,by simp⟩
 obtain⟨b,D⟩:=pW.mp F;have e:=vZ D;have e:b=a:=by simpa using e
 rw[D,e];rfl
noncomputable def DA(z:AJ->Nat)(n:AJ)(m:Nat):AJ->Nat:=λa=>if a=n then m else z a
theorem J5:DA z n m n=m:=ABo rfl
theorem Ff(h:a≠n):DA z n m a=z a:=ABn h
theorem Ul(h:n∉sn):Bq (Dh sn z) (.inr n) (.int (z n:Int))=Dh (sn++[n]) z:=by
  unfold Bq;rw[ABn]
  . unfold Dh;rw[Bx];rfl
  . intro q;refine AB λD=>?_;obtain⟨U,J,e⟩:=LX.mp q;obtain⟨a,F,rfl⟩:=BH.mp J;refine D ?_;try clear D
    have e:a=n:=by simpa using e
    exact h (by rw[<-e];exact F)
theorem Vj(sn:List AJ)(z:AJ->Nat):(Dh sn z).map (λp=>Al p.1)=sn.map AH.str:=by unfold Dh;rw[Cb];rfl
theorem fG(h:∀a∈sn,z a=D a):Dh sn z=Dh sn D:=by unfold Dh;exact KR λa F=>by rw[h a F]
theorem P2{s:Ah}(h:∀a∈s.aw,D a=z a):DL s D m=DL s z m:=by cases s with|take=>rfl|only n a=>exact h a (.head _)|turn n a=>exact h a (.head _)|gap n a=>exact h a (.head _)|each n a=>exact h a (.head _)|both n a b=>show D a+D b=z a+z b;rw[h a (.head _),h b (.tail _ (.head _))]|join n a b=>show D a*D b=z a*z b;rw[h a (.head _),h b (.tail _ (.head _))]
structure D9(b:Int)(many:Nat)(ss:List Ah)(ts:List (Nat×Nat))(z:AJ->Nat)(sn:List AJ):Prop where
 agv:Bm (λs t=>Em b s.nm t) ss ts
 ahh:ts.Nodup
 uk:∀(i:Nat)s a,ss[i]?=AA s->a∈s.aw->∃(i':Nat)(s':Ah),i'<i/\ss[i']?=AA s'/\s'.nm=a/\s'.br=AO
 ok:∀s∈ss,N4 s
 aat:∀s∈ss,∀t∈s.aat,CW t
 acz:∀a∈sn,∃(i:Nat)(s:Ah),ss[i]?=AA s/\s.nm=a/\s.br=AO
 ada:∀s∈ss,Hn s
 agg:∀s∈ss,DL s z many<=z s.nm/\z s.nm<=150
theorem D9.ahd(b:Int)(D:Nat)(z:AJ->Nat):D9 b D [] [] z []:=⟨.nil,.nil,λi s a e=>(by simp at e),λs h=>(by cases h),λs h=>(by cases h),λa h=>(by cases h),λs h=>(by cases h),λs h=>(by cases h)⟩
theorem D9.afw(h:D9 b D W F z sn):Jz W:=by refine⟨λi V s A e J q=>?_,h.uk,h.ok⟩;obtain⟨l,f⟩:=C5 h.agv;have B:=(Bh.mp e).1;have Z:=(Bh.mp J).1;have t1:=B8 (show i<F.length by(first|lia|omega));have t2:=B8 (show V<F.length by(first|lia|omega));have U:=f i s _ e t1;have Y:=f V A _ J t2;rw[q]at U;exact(SU h.ahh).mp (Qv U Y)
theorem c8{l:List α}(h:(l++[x])[i]?=AA y):l[i]?=AA y\/(i=l.length/\y=x):=by
 rcases X6 i l.length with q|q|q;.rw[O4 q]at h;exact .inl h
 . subst q;rw[LY (Af _),Sg]at h;exact .inr ⟨rfl,(De h).symm⟩
 .rw[Xu (by rw[CY];show l.length+1<=i;(first|lia|omega))]at h;cases h
theorem P1{α:Type}{l:List α}{x y:α}{i:Nat}(h:l[i]?=AA y):(l++[x])[i]?=AA y:=by rw[O4 (Bh.mp h).1];exact h
theorem D9.abx(h:D9 b D W F z sn)(q:Em b n t)(Y:t∉F):∀s∈W,s.nm≠n:=λs Z e=>by
 refine AB λV=>?_;obtain⟨i,J⟩:=HW.mp Z;obtain⟨l,f⟩:=C5 h.agv;refine V ?_;try clear V
 have A:=(Bh.mp J).1;have t1:=B8 (show i<F.length by(first|lia|omega));have U:=f i s _ J t1;rw[e]at U;exact Y (by rw[Qv q U];exact Mx _)
theorem D9.ft(h:D9 b F E G z sn){s:Ah}(I:Em b s.nm t)(H:t∉G)(g:Gs sn s.nm s)(K:DL s z F<=150):D9 b F (E++[s]) (G++[t]) (DA z s.nm (DL s z F)) sn:=by
  have C:=h.abx I H;have Z:∀a∈sn,a≠s.nm:=λa U e=>by obtain⟨i,J,V,B,_⟩:=h.acz a U;exact C J (B9 V) (B.trans e)
  have M:∀J∈E,DL J (DA z s.nm (DL s z F)) F=DL J z F:=λJ D=>P2 λa U=>by obtain⟨i,V⟩:=HW.mp D;obtain⟨A,s2,_,Y,B,_⟩:=h.uk i J a V U;exact Ff λe=>C s2 (B9 Y) (B.trans e)
  refine⟨D3 h.agv (.cons I .nil),?_,λi J a V U=>?_,λJ D=>?_,λJ D=>?_,λa U=>?_,λJ D=>?_,λJ D=>?_⟩;. rw[O5];exact⟨h.ahh,by simp,λa U c L=>by rw[Bl.mp L];exactλe=>H (by rw[<-e];exact U)⟩
  . rcases c8 V with V|⟨rfl,rfl⟩
    . refine AB λW=>?_;obtain⟨A,s2,l,Y,q⟩:=h.uk i J a V U;refine W ?_;try clear W
      exact⟨A,s2,l,P1 Y,q⟩
    . refine AB λW=>?_;obtain⟨A,s2,Y,q⟩:=h.acz a (g.uk a U);refine W ?_;try clear W
      exact⟨A,s2,(Bh.mp Y).1,P1 Y,q⟩
  . rcases CT.mp D with D|D;.exact h.ok J D
    .rw[Bl.mp D];exact g.ok
  . rcases CT.mp D with D|D;.exact h.aat J D
    .rw[Bl.mp D];exact g.aat
  . refine AB λW=>?_;obtain⟨i,J,V,q⟩:=h.acz a U;refine W ?_;try clear W
    exact⟨i,J,P1 V,q⟩
  . rcases CT.mp D with D|D;.exact h.ada J D
    .rw[Bl.mp D];exact g.ada
  . rcases CT.mp D with D|D;. rw[M J D,Ff (C J D)];exact h.agg J D
    . rw[Bl.mp D,J5,P2 (z:=z) λa U=>Ff (Z a (g.uk a U))];exact⟨Af _,K⟩
theorem D9.adb{b:Int}{D:Nat}(h:D9 b D J U z sn){i:Nat}(V:J[i]?=AA s)(W:s.br=AO):D9 b D J U z (sn++[s.nm]):={h with acz:=λa F=>(by
 rcases CT.mp F with F|F;.exact h.acz a F
 .rw[Bl.mp F];exact⟨i,s,V,rfl,W⟩)}
theorem D9.agq(h:D9 b D V W z sn):∀a∈sn,CW a:=λa U=>by
 refine AB λF=>?_;obtain⟨i,s,J,rfl,_⟩:=h.acz a U;refine F ?_;try clear F
 exact h.aat s (B9 J) s.nm (by cases s<;>exact .head _)
theorem D9.ahg(h:D9 b D V W z sn):∀a∈sn,z a<=150:=λa U=>by
 refine AB λF=>?_;obtain⟨i,s,J,rfl,_⟩:=h.acz a U;refine F ?_;try clear F
 exact(h.agg s (B9 J)).2
theorem aL{s:Ah}{evs:List CA}(D:evs.length<=m)(h:∀a∈s.aw,(L a).length<=z a):(Gu s L evs).length<=DL s z m:=by cases s with|take n k=>exact DE (by show((evs.filter _).map Kq).length<=_;rw[Am];exact Gd _ _) D|only n a U J=>exact DE (Gd _ _) (h a (.head _))|turn n a f g=>show((L a).map _).length<=_;rw[Am];exact h a (.head _)|both n a b=>show(L a++L b).length<=z a+z b;rw[CY];have:=h a (.head _);have:=h b (.tail _ (.head _));(first|lia|omega)|join n a b F=>exact DE (P5 F (L b) (L a)) (wY (h a (.head _)) (h b (.tail _ (.head _))))|gap n a s m=>exact h a (.head _)|each n a s z d=>exact h a (.head _)
theorem D9.agm(h:D9 b D U G z sn){evs:List CA}(q:evs.length<=D)(Y:∀s∈U,L s.nm=Gu s L evs):∀s∈U,L s.nm=Gu s L evs/\(L s.nm).length<=150:=by
 have W:∀(i:Nat)s,U[i]?=AA s->(L s.nm).length<=z s.nm:=by intro i;induction i using w5 with|ind i B=> intro s J;have F:=B9 J;rw[Y s F];refine DE (aL q λa Z=>?_) (h.agg s F).1;obtain⟨A,E,C,V,rfl,_⟩:=h.uk i s a J Z;exact B A C E V
 intro s F;obtain⟨i,J⟩:=HW.mp F;exact⟨Y s F,DE (W i s J) (h.agg s F).2⟩
noncomputable def Tr(b:Int)(F:Nat)(C:List Ah):Prop:=∃(D J U V f W Y:AJ)(A B:Int),Em b D (24,0)/\Em b J (24,1)/\Em b U (24,2)/\Em b V (24,3)/\(f=D\/f=J)/\(CW D/\CW J/\CW U/\CW V)/\CW W/\CW Y/\0<=A/\0<=B/\((¬F<6/\C=[.take D W,.take J Y,.join U D f A,.join V J D B])\/(F<6/\∃(Z p q:AJ)(E:Int),Em b Z (24,4)/\CW Z/\0<=E/\((p=U/\q=J)\/(p=D/\q=V))/\C=[.take D W,.take J Y,.join U D f A,.join V J D B,.join Z p q E]))
noncomputable def dR:Ba:=λV H Q _=>Tt (λ(b c:Int)(D:Nat)=>V=[.int b,.int c,.int (D:Int)]) (λb _ D=>∀l F J U,Ak H F->H l=AD->F l=AA (.lst J)->FZ F J U->Tr b D U->Q (.ref l) F)
theorem Nd(hi:i<26)(D:j<26):Dw (Bk i++Bk j):=(UH i hi).aga (UH j D)
theorem Vc:("ya":AJ)=Bk 24++Bk 0:=by decide+kernel
theorem Vd:("yb":AJ)=Bk 24++Bk 1:=by decide+kernel
theorem Ve:("yc":AJ)=Bk 24++Bk 2:=by decide+kernel
theorem Vf:("yd":AJ)=Bk 24++Bk 3:=by decide+kernel
theorem Vg:("ye":AJ)=Bk 24++Bk 4:=by decide+kernel
theorem MF(hz:z=Bk 24++Bk j)(D:j<26):Em b (C9 b k z) (24,j):=⟨(by decide:24<26),D,.inl ⟨(by decide:23<=24),k,by rw[hz]⟩⟩
theorem bE{K:Ar}{ad:Kk}(T:B0 K mg ad):BW P w K mg base Bs 3 ad.cc ad.cg ["_law_base","_law_cell","_law_many"] dR:=by
  have D:=gF.mk (L9 (P:=P) (w:=w) (base:=base) T) T.bp T.bc.kp T.bo;have F:=gF.mk (QJ (P:=P) (w:=w) (base:=base) T) T.jy T.du.kp T.jj;refine T.dq.ok VL (λvs H Q E h=>?_) (λcdv A outer s H vs Q E hr h=>?_)
  . refine AB λJ=>?_;obtain⟨b,c,O,rfl,_⟩:=h;refine J ?_;try clear J
    rfl
  . refine AB λJ=>?_;obtain⟨b,c,O,rfl,k⟩:=h;refine J ?_;try clear J
    have nd:=VL.nd;refine⟨_,(Aq (Ax 3 nd (CJ (AG (CL (AG A6 (AG (A9 D hr (AG (AE 0) (AG AM (AG A6 AQ)))) (AG (A9 F hr (AG (AE 0) (AG AM AQ))) AQ)))) AQ))) (Aq (D4 (Ed K (AE 3) (AG (CL (AG A6 (AG (A9 D hr (AG (AE 0) (AG AM (AG A6 AQ)))) (AG (A9 F hr (AG (AE 0) (AG AM AQ))) AQ)))) AQ))) (Aq (lK (i:=4) (j:=5) rfl nd rfl rfl (by decide) rfl rfl (AG (Ay K (Ci K (AE 3) AM) AM) (AG (Ay K (Ci K (AE 3) AM) AM) AQ)) (by rfl)) (Aq (D4 (Ed K (AE 3) (AG (CL (AG A6 (AG (A9 D hr (AG (AE 0) (AG AM (AG A6 AQ)))) (AG (AE 4) (AG (Ci K (CJ (AG (AE 4) (AG (AE 5) AQ))) (AS BY (AS CD (AE 1) AM) AM)) (AG (AS BY (AE 1) AM) AQ)))))) AQ))) (Aq (D4 (Ed K (AE 3) (AG (CL (AG A6 (AG (A9 D hr (AG (AE 0) (AG AM (AG A6 AQ)))) (AG (AE 5) (AG (AE 4) (AG (AS BY (AS CD (AE 1) AM) AM) AQ)))))) AQ))) (CG (Bc (BK Ik (AE 2) AM (BL _)) (Aq (Ax 6 nd (Ci K (CJ (AG (CL (AG (Ay K (Ci K (AE 3) AM) AM) (AG (AE 5) AQ))) (AG (CL (AG (AE 4) (AG (Ay K (Ci K (AE 3) AM) AM) AQ))) AQ))) (AS BY (AS CD (AE 1) AM) AM))) (Ac (D4 (Ed K (AE 3) (AG (AS LI (AS LI (CL (AG A6 (AG (A9 D hr (AG (AE 0) (AG AM (AG A6 AQ)))) AQ))) (AE 6)) (CL (AG (AS BY (AS CD (AE 1) AM) AM) AQ))) AQ))))) Bt) (Ac (BA (AE 3))))))))),?_⟩;have sz:An=16777216:=Dg;have G:∀{z:AJ}{j:Nat},z=Bk 24++Bk j->j<26->Dw z/\1<=z.length/\z.length<=2:=λe hj=>by rw[e,J3];exact⟨Nd (by decide) hj,by decide,by decide⟩
    refine AB λJ=>?_;obtain⟨a,d,l⟩:=G Vc (by decide);refine J ?_;try clear J
    refineλ_ _ _ _ z1=>⟨_,_,_,rfl,a,d,l,λnv0 H1 s1=>⟨_,_,rfl,by decide,by decide,λn H2 s2 ok0=>⟨BF rfl,λp0 hp0=>?_⟩⟩⟩;have tg0:=MF (b:=b) (k:=610) Vc (by decide);have on0:CW (C9 b 610 "ya"):=Hl nv0;generalize C9 b 610 "ya"=U at tg0 on0⊢;refine As (o:=.tup [.str "take",.str U,.str n]) hp0 λH2' g0 I=>⟨BF rfl,λC hlp=>z1 _ _ ?_⟩;have m:H C=AD:=(s1.aa (s2.aa g0)).ar hlp;refine As (o:=.lst [.ref p0]) hlp λH3 g1 fl=>?_;have S3:=s1.aa (s2.aa (g0.aa g1));have I:Bj H3 p0 (.take U n):=g1 _ _ I;clear s1 s2 g0 g1 hp0 hlp;have N:∀{X:AN}{xs:List AH}{p:AI}(vs:List AH)(st:Ah),vs=st.mz.map Al->Ak H X->X C=AA (.lst xs)->X p=AD->∃Hb,Hb=AW (AW X p (.tup vs)) C (.lst (xs++[.ref p]))/\(AW X p (.tup vs)) C=AA (.lst xs)/\Ak H Hb/\Hb C=AA (.lst (xs++[.ref p]))/\Bj Hb p st/\CM X Hb:=λ{X xs p}vs st hv sa el hp=>by
      subst hv;have g:=Cz (o:=.tup (st.mz.map Al)) hp;have tp:CM (AW X p (.tup (st.mz.map Al))) (AW (AW X p (.tup (st.mz.map Al))) C (.lst (xs++[.ref p]))):=(ER _).cb (g _ _ el) λys=>by intro z;cases z
      exact⟨_,rfl,g _ _ el,(sa.aa g).dw m,Az,tp _ _ Az,g.tp.aa tp⟩
    refine AB λJ=>?_;obtain⟨a,d,l⟩:=G Vd (by decide);refine J ?_;try clear J
    refineλ_ _ _ _ z2=>⟨.inl ⟨rfl,_,AV fl⟩,_,_,_,rfl,a,d,l,λnv1 H4 s4=>⟨_,_,rfl,by decide,by decide,λk1 H5 s5 ok1=>⟨BF rfl,λp1 hp1=>?_⟩⟩⟩;have tg1:=MF (b:=b) (k:=611) Vd (by decide);have on1:CW (C9 b 611 "yb"):=Hl nv1;generalize C9 b 611 "yb"=W at tg1 on1⊢;have t:=s4.aa s5;refine AB λJ=>?_;obtain⟨H6,hH6,fl6',S6,M,f1,tp6⟩:=N [.str "take",.str W,.str k1] (.take W k1) rfl (S3.aa t) (t _ _ fl) hp1;refine J ?_;try clear J
    refine⟨C,_,_,rfl,rfl,fl6',by show 1+1<=An;(first|lia|omega),z2 _ _ ?_⟩;rw[<-hH6];have I:Bj H6 p0 (.take U n):=tp6 _ _ (t _ _ I);clear hH6 fl6' tp6 hp1 t s4 s5 S3 fl;refineλ_ _ _ _ z3=>⟨_,_,AV M,Ag (j:=0) rfl,_,.str U,Ao I,Ag (j:=1) rfl,_,_,AV M,Ag (j:=1) rfl,_,.str W,Ao f1,Ag (j:=1) rfl,_,_,rfl,z3 _ _ ?_⟩;refine AB λJ=>?_;obtain⟨a,d,l⟩:=G Ve (by decide);obtain⟨v,hv,mv⟩:=FN [AH.str U,AH.str W] 2 rfl (by decide) (c/31);obtain⟨f,rfl,hf⟩:∃f:AJ,v=.str f/\(f=U\/f=W):=by
      simp only[B7,EH,ABt]at mv;rcases mv with rfl|rfl;.exact⟨_,rfl,.inl rfl⟩
      .exact⟨_,rfl,.inr rfl⟩
    refine J ?_;try clear J
    have m31:0<=c%31:=DR _ (by decide);refineλ_ _ _ _ z4=>⟨.inl ⟨rfl,_,AV M⟩,_,_,_,rfl,a,d,l,λnv2 H7 s7=>⟨BF rfl,λq2 hq2=>?_⟩⟩;have tg2:=MF (b:=b) (k:=612) Ve (by decide);have on2:CW (C9 b 612 "yc"):=Hl nv2;generalize C9 b 612 "yc"=S at tg2 on2⊢;refine As (o:=.lst [.str U,.str W]) hq2 λH8 s8 eq2=>?_;refine⟨⟨by decide,by decide⟩,(by decide:(0:Int)<2),_,_,AV eq2,hv,(by decide:(0:Int)<31),BF rfl,λp2 hp2=>?_⟩;have R:=s7.aa s8;refine AB λJ=>?_;obtain⟨H9,hH9,fl9',S9,fl9,f2,tp9⟩:=N [.str "join",.str S,.str U,.str f,.int (c%31)] (.join S U f (c%31)) rfl (S6.aa R) (R _ _ M) hp2;refine J ?_;try clear J
    refine⟨C,_,_,rfl,rfl,fl9',by show 2+1<=An;(first|lia|omega),z4 _ _ ?_⟩;rw[<-hH9];have I:Bj H9 p0 (.take U n):=tp9 _ _ (R _ _ I);have f1:Bj H9 p1 (.take W k1):=tp9 _ _ (R _ _ f1);clear hH9 fl9' tp9 hp2 R s7 s8 eq2 hq2 S6 M hv mv;refine AB λJ=>?_;obtain⟨a,d,l⟩:=G Vf (by decide);refine J ?_;try clear J
    have m62:0<=c/62%31:=DR _ (by decide);refineλ_ _ _ _ z5=>⟨.inl ⟨rfl,_,AV fl9⟩,_,_,_,rfl,a,d,l,λnv3 H10 B=>⟨⟨by decide,by decide⟩,(by decide:(0:Int)<31),BF rfl,λp3 hp3=>?_⟩⟩;have tg3:=MF (b:=b) (k:=613) Vf (by decide);have on3:CW (C9 b 613 "yd"):=Hl nv3;generalize C9 b 613 "yd"=r at tg3 on3⊢;refine AB λJ=>?_;obtain⟨H11,hH11,L,S11,Y,f3,Z⟩:=N [.str "join",.str r,.str W,.str U,.int (c/62%31)] (.join r W U (c/62%31)) rfl (S9.aa B) (B _ _ fl9) hp3;refine J ?_;try clear J
    refine⟨C,_,_,rfl,rfl,L,by show 3+1<=An;(first|lia|omega),z5 _ _ ?_⟩;rw[<-hH11];have I:Bj H11 p0 (.take U n):=Z _ _ (B _ _ I);have f1:Bj H11 p1 (.take W k1):=Z _ _ (B _ _ f1);have f2:Bj H11 p2 (.join S U f (c%31)):=Z _ _ (B _ _ f2);clear hH11 L Z hp3 B S9 fl9;refine⟨_,rfl,F3 (λh6=>?_) λh6=>?_⟩
    . have h6:O<6:=by(first|lia|omega)
      refineλ_ _ _ _ z7=>⟨_,_,AV Y,Ag (j:=2) rfl,_,.str S,Ao f2,Ag (j:=1) rfl,BF rfl,λx1 hx1=>?_⟩;refine As (o:=.tup [.str S,.str W]) hx1 λH12 t1 ex1=>?_;refine⟨_,_,AV (t1 _ _ Y),Ag (j:=3) rfl,_,.str r,Ao (t1 _ _ f3),Ag (j:=1) rfl,BF rfl,λx2 hx2=>?_⟩;refine As (o:=.tup [.str U,.str r]) hx2 λH13 t2 ex2=>⟨BF rfl,λx3 hx3=>?_⟩;refine As (o:=.lst [.ref x1,.ref x2]) hx3 λH14 t3 ex3=>?_;refine AB λJ=>?_;obtain⟨v2,hv2,mv2⟩:=FN [AH.ref x1,AH.ref x2] 2 rfl (by decide) (c/1922);have t13:=t1.aa (t2.aa t3);obtain⟨y,p,q,rfl,ey,hpq⟩:∃(y:AI)(p q:AJ),v2=.ref y/\H14 y=AA (.tup [.str p,.str q])/\((p=S/\q=W)\/(p=U/\q=r)):=by
        simp only[B7,EH,ABt]at mv2;rcases mv2 with rfl|rfl;.exact⟨x1,_,_,rfl,(t2.aa t3) _ _ ex1,.inl ⟨rfl,rfl⟩⟩
        .exact⟨x2,_,_,rfl,t3 _ _ ex2,.inr ⟨rfl,rfl⟩⟩
      refine J ?_;try clear J
      refine⟨⟨by decide,by decide⟩,(by decide:(0:Int)<2),_,_,AV ex3,hv2,z7 _ _ ?_⟩;have fl14:=t13 _ _ Y;refine AB λJ=>?_;obtain⟨a,d,l⟩:=G Vg (by decide);refine J ?_;try clear J
      have m61:0<=c/3844%61:=DR _ (by decide);clear t1 t2 t3 ex1 ex2 ex3 hv2 mv2;refine⟨.inl ⟨rfl,_,AV fl14⟩,_,_,_,rfl,a,d,l,λnv4 H15 s15=>⟨BF rfl,λy1 hy1=>?_⟩⟩;have tg4:=MF (b:=b) (k:=614) Vg (by decide);have on4:CW (C9 b 614 "ye"):=Hl nv4;generalize C9 b 614 "ye"=n4 at tg4 on4⊢;refine As (o:=.tup [.str "join",.str n4]) hy1 λH16 t4 ey1=>?_;refine⟨y1,y,_,_,rfl,rfl,ey1,(s15.aa t4) _ _ ey,by show 2+2<=An;(first|lia|omega),λy2 H17 t5 ey2=>?_⟩;refine⟨⟨by decide,by decide⟩,(by decide:(0:Int)<61),BF rfl,λy3 hy3=>?_⟩;refine As (o:=.tup [.int (c/3844%61)]) hy3 λH18 t6 ey3=>?_;refine⟨y2,y3,_,_,rfl,rfl,t6 _ _ ey2,ey3,by show 4+1<=An;(first|lia|omega),λp4 H19 t7 ep4=>?_⟩;have tt:=t13.aa (s15.aa (t4.aa (t5.aa (t6.aa t7))));have S19:=S11.aa tt;have x:=tt _ _ Y;have ep4:Bj H19 p4 (.join n4 p q (c/3844%61)):=ep4;have tpz:=(ER H19).cb (o:=.lst (((([.ref p0]++[.ref p1])++[.ref p2])++[.ref p3])++[.ref p4])) x λys=>by intro z;cases z
      refine⟨C,_,_,rfl,rfl,x,by show 4+1<=An;(first|lia|omega),?_⟩;have u:=tt.tp.aa tpz;refine k C _ _ [.take U n,.take W k1,.join S U f (c%31),.join r W U (c/62%31),.join n4 p q (c/3844%61)] (S19.dw m) m Az (.cons ⟨p0,rfl,u _ _ I⟩ (.cons ⟨p1,rfl,u _ _ f1⟩ (.cons ⟨p2,rfl,u _ _ f2⟩ (.cons ⟨p3,rfl,u _ _ f3⟩ (.cons ⟨p4,rfl,tpz _ _ ep4⟩ .nil))))) ?_;exact⟨U,W,S,r,f,n,k1,_,_,tg0,tg1,tg2,tg3,hf,⟨on0,on1,on2,on3⟩,ok0,ok1,m31,m62,.inr ⟨h6,n4,p,q,_,tg4,on4,m61,hpq,rfl⟩⟩
    . have h6:¬O<6:=by(first|lia|omega)
      refine k C _ _ [.take U n,.take W k1,.join S U f (c%31),.join r W U (c/62%31)] S11 m Y (.cons ⟨p0,rfl,I⟩ (.cons ⟨p1,rfl,f1⟩ (.cons ⟨p2,rfl,f2⟩ (.cons ⟨p3,rfl,f3⟩ .nil)))) ?_;exact⟨U,W,S,r,f,n,k1,_,_,tg0,tg1,tg2,tg3,hf,⟨on0,on1,on2,on3⟩,ok0,ok1,m31,m62,.inl ⟨h6,rfl⟩⟩
noncomputable def QE(D:Nat):List Nat:=[D,D,D*D,D*D,D*D*D]
theorem N6(F:CW n)(D:CW k):Gs sn n (.take n k):=⟨rfl,λa h=>(by cases h),trivial,Kv F D,trivial⟩
theorem QD(J:CW n)(D:CW a)(F:CW b)(U:a∈sn)(V:b∈sn)(hw:0<=wi):Gs sn n (.join n a b wi):=⟨rfl,Kv U V,hw,Kt J D F,trivial⟩
theorem Kp(l:List α)(x:α):(l++[x])[l.length]?=AA x:=by rw[LY (Af _),Sg];rfl
theorem Z6{W:List Ah}(r:D=10\/D=5)(h:D9 b D E Z z0 [])(M:∀t∈Z,t.1=23)(j:Tr b D W):∃(z:AJ->Nat)(ts:List (Nat×Nat)),D9 b D (E++W) (Z++ts) z (W.map Ah.nm)/\(∀t∈ts,t.1=24)/\(∀(k:Nat)s,W[k]?=AA s->(QE D)[k]?=AA (z s.nm))/\(W.map Ah.nm).Nodup/\(W.length=4\/W.length=5):=by
  refine AB λnG=>?_;obtain⟨F,U,V,Y,f,u,v,w2,w3,X,a,c,d,hf,⟨o0,o1,o2,o3⟩,ok0,ok1,hw2,hw3,rest⟩:=j;refine nG ?_;try clear nG
  have I:∀{n n':AJ}{i i':Nat},Em b n (24,i)->Em b n' (24,i')->i≠i'->n≠n':=λt t' hi e=>by subst e;exact hi (ABp X8 (Qv t t'))
  have N:=I X a (by decide);have O:=I X c (by decide);have P:=I X d (by decide);have Q:=I a c (by decide);have R:=I a d (by decide);have S:=I c d (by decide);have no:∀{i:Nat}{l:List (Nat×Nat)},(24,i)∉l->(24,i)∉Z++l:=λhl r=>by
    rcases CT.mp r with q|q;.have:=M _ q;cases this
    .exact hl q
  have mm:D*D<=150:=by rcases r with rfl|rfl<;>decide
  have m1:D<=150:=by rcases r with rfl|rfl<;>decide
  have h1:=(h.ft (s:=.take F u) (t:=(24,0)) X (by simpa using no (i:=0) (l:=[]) (by simp)) (N6 o0 ok0) m1).adb (Kp _ _) rfl;have e1:DL (.take F u) z0 D=D:=rfl;rw[e1]at h1;have m:=(h1.ft (s:=.take U v) (t:=(24,1)) a (no (by simp)) (N6 o1 ok1) m1).adb (Kp _ _) rfl;have e2:∀z,DL (.take U v) z D=D:=λ_=>rfl;rw[e2]at m;have A:DA (DA z0 F D) U D F=D/\DA (DA z0 F D) U D U=D:=⟨by rw[Ff N,J5],J5⟩;generalize hq2:DA (DA z0 F D) U D=K at m A;have m:D9 b D (E++[.take F u]++[.take U v]) (Z++[(24,0)]++[(24,1)]) K ([]++[F]++[U]):=by rw[<-hq2];exact m
  have okf:CW f:=by rcases hf with rfl|rfl<;>assumption
  have mf:f∈([]++[F]++[U]:List AJ):=by rcases hf with rfl|rfl<;>simp
  have zf:K f=D:=by rcases hf with rfl|rfl;exact A.1;exact A.2
  have e3:DL (.join V F f w2) K D=D*D:=by show K F*K f=_;rw[A.1,zf]
  have o:=(m.ft (s:=.join V F f w2) (t:=(24,2)) c (by rw[F7];exact no (by simp)) (QD o2 o0 okf (by simp) mf hw2) (by rw[e3];exact mm)).adb (Kp _ _) rfl;rw[e3]at o;have B:DA K V (D*D) F=D/\DA K V (D*D) U=D/\DA K V (D*D) V=D*D:=⟨by rw[Ff O];exact A.1,by rw[Ff Q];exact A.2,J5⟩;generalize hq3:DA K V (D*D)=L at o B;have o:D9 b D (E++[.take F u]++[.take U v]++[.join V F f w2]) (Z++[(24,0)]++[(24,1)]++[(24,2)]) L ([]++[F]++[U]++[V]):=by rw[<-hq3];exact o
  have e4:DL (.join Y U F w3) L D=D*D:=by show L U*L F=_;rw[B.1,B.2.1]
  have T:=(o.ft (s:=.join Y U F w3) (t:=(24,3)) d (by rw[F7,F7];exact no (by simp)) (QD o3 o1 o0 (by simp) (by simp) hw3) (by rw[e4];exact mm)).adb (Kp _ _) rfl;rw[e4]at T;have J:DA L Y (D*D) F=D/\DA L Y (D*D) U=D/\DA L Y (D*D) V=D*D/\DA L Y (D*D) Y=D*D:=⟨by rw[Ff P];exact B.1,by rw[Ff R];exact B.2.1,by rw[Ff S];exact B.2.2,J5⟩;generalize hq4:DA L Y (D*D)=G at T J;have T:D9 b D (E++[.take F u]++[.take U v]++[.join V F f w2]++[.join Y U F w3]) (Z++[(24,0)]++[(24,1)]++[(24,2)]++[(24,3)]) G ([]++[F]++[U]++[V]++[Y]):=by rw[<-hq4];exact T
  rcases rest with⟨h6,rfl⟩|⟨h6,H,p,q,w4,g,o4,hw4,C,rfl⟩
  . refine⟨G,[(24,0),(24,1),(24,2),(24,3)],by have q:=T;simp only[F7,Mt,X0]at q;exact q,λt M=>?_,λk s e=>?_,?_,.inl rfl⟩
    . simp only[B7,EH,ABt]at M;rcases M with rfl|rfl|rfl|rfl<;>rfl
    .match k,e with |0,e=>cases e;exact ABp AA J.1.symm|1,e=>cases e;exact ABp AA J.2.1.symm|2,e=>cases e;exact ABp AA J.2.2.1.symm|3,e=>cases e;exact ABp AA J.2.2.2.symm|k+4,e=>simp at e
    . show[F,U,V,Y].Nodup;simp[N,O,P,Q,R,S]
  . have w:=I X g (by decide);have x:=I a g (by decide);have y:=I c g (by decide);have n34:=I d g (by decide);have m3:D*D*D<=150:=by
      rcases r with rfl|rfl;. (first|lia|omega)
      .decide
    have e5:DL (.join H p q w4) G D=D*D*D:=by
      show G p*G q=_;rcases C with⟨rfl,rfl⟩|⟨rfl,rfl⟩;.rw[J.2.2.1,J.2.1]
      .rw[J.1,J.2.2.2,Nat.mul_comm]
    have okp:CW p:=by rcases C with⟨rfl,rfl⟩|⟨rfl,rfl⟩<;>assumption
    have okq:CW q:=by rcases C with⟨rfl,rfl⟩|⟨rfl,rfl⟩<;>assumption
    have mp:p∈([]++[F]++[U]++[V]++[Y]:List AJ):=by rcases C with⟨rfl,rfl⟩|⟨rfl,rfl⟩<;>simp
    have mq:q∈([]++[F]++[U]++[V]++[Y]:List AJ):=by rcases C with⟨rfl,rfl⟩|⟨rfl,rfl⟩<;>simp
    have h5:=(T.ft (s:=.join H p q w4) (t:=(24,4)) g (by rw[F7,F7,F7];exact no (by simp)) (QD o4 okp okq mp mq hw4) (by rw[e5];exact m3)).adb (Kp _ _) rfl;rw[e5]at h5;refine⟨DA G H (D*D*D),[(24,0),(24,1),(24,2),(24,3),(24,4)],by have q:=h5;simp only[F7,Mt,X0]at q;exact q,λt M=>?_,λk s e=>?_,?_,.inr rfl⟩;. simp only[B7,EH,ABt]at M;rcases M with rfl|rfl|rfl|rfl|rfl<;>rfl
    .match k,e with |0,e=>cases e;show AA D=AA (DA G H _ F);rw[Ff w,J.1]|1,e=>cases e;show AA D=AA (DA G H _ U);rw[Ff x,J.2.1]|2,e=>cases e;show AA (D*D)=AA (DA G H _ V);rw[Ff y,J.2.2.1]|3,e=>cases e;show AA (D*D)=AA (DA G H _ Y);rw[Ff n34,J.2.2.2]|4,e=>cases e;show AA (D*D*D)=AA (DA G H _ H);rw[J5]|k+5,e=>simp at e
    . show[F,U,V,Y,H].Nodup;simp[N,O,P,Q,R,S,w,x,y,n34]
theorem D9.adu(h:D9 b D J F z sn)(U:D<=150)(W:Em b n t)(V:t∉F)(Z:CW n)(Y:CW k):D9 b D (J++[.take n k]) (F++[t]) (DA z n D) sn:=h.ft (s:=.take n k) W V (N6 Z Y) U
theorem Z4{m v:Int}(h:0<=m)(D:0<=v):0<=(if m*v<1000000 then m*v else 1000000):=by have:=Ti h D;split<;>(first|lia|omega)
structure Fb(H0 H:AN)(b:Int)(many:Nat)(lp d lj:AI)(ps:List AH)(ss:List Ah)(ts:List (Nat×Nat))(z:AJ->Nat)(sn:List AJ)(jps:List AH)(jn:AJ):Prop where
 bf:Ak H0 H
 l0:H0 lp=AD
 d0:H0 d=AD
 yz:H lp=AA (.lst ps)pr:FZ H ps ss
 pl:D9 b many ss ts z sn
 ed:H d=AA (.dK (Dh sn z))afc:sn.length<=100
 afd:ss.length<=50
 ej:H lj=AA (.lst jps)aec:lj≠lp
 j:jps=[]\/(jn∈sn/\(jps.length=4\/jps.length=5)/\∃(a:AI)(s:Ah),jps[2*jps.length-6]?=AA (.ref a)/\Bj H a s/\s.nm=jn)
theorem Fb.kg(I:Fb U H b D Y d W Z q B z sn F V)(s:Ak H J):Fb U J b D Y d W Z q B z sn F V:={I with bf:=I.bf.aa s,yz:=s _ _ I.yz,pr:=I.pr.ae s.tp,ed:=s _ _ I.ed,ej:=s _ _ I.ej,j:=I.j.imp id λ⟨m,l,a,A,e,f,g⟩=>⟨m,l,a,A,e,f.tp s.tp,g⟩}
theorem Fb.ads{Z:List Ah}(I:Fb B H b D F d O U Z A z sn J N){s:Ah}(G:Bj H p s)(Y:Em b s.nm t)(W:t∉A)(g:Gs sn s.nm s)(M:DL s z D<=150)(T:Z.length<50):Fb B (AW H F (.lst (U++[.ref p]))) b D F d O (U++[.ref p]) (Z++[s]) (A++[t]) (DA z s.nm (DL s z D)) sn J N:=by
 have V:CM H (AW H F (.lst (U++[.ref p]))):=(ER H).cb I.yz λX=>by intro q;cases q
 have P:d≠F:=λq=>by have:=I.ed;rw[q,I.yz]at this;cases this
 have Q:=I.pl.abx Y W;have K:Dh sn z=Dh sn (DA z s.nm (DL s z D)):=fG λa L=>by obtain⟨i,R,C,E,_⟩:=I.pl.acz a L;exact(Ff λe=>Q R (B9 C) (E.trans e)).symm
 exact{bf:=I.bf.dw I.l0,l0:=I.l0,d0:=I.d0,yz:=Az,pr:=(D3 (I.pr.ae V) (.cons ⟨p,rfl,G.tp V⟩ .nil)),pl:=I.pl.ft Y W g M,ed:=(by rw[BC P,<-K];exact I.ed),afc:=I.afc,afd:=(by rw[CY,Hx];(first|lia|omega)),ej:=(by rw[BC I.aec];exact I.ej),aec:=I.aec,j:=I.j.imp id λ⟨m,l,a,S,e,f,g⟩=>⟨m,l,a,S,e,f.tp V,g⟩}
theorem Fb.wu{Z H:AN}{b:Int}{D:Nat}{K d G:AI}{L:List AH}{W:List Ah}{N:List (Nat×Nat)}{sn:List AJ}{F:List AH}{E:AJ}(I:Fb Z H b D K d G L W N z sn F E){i:Nat}{s:Ah}(A:W[i]?=AA s)(C:s.br=AO)(B:s.nm∉sn)(O:sn.length<100):Fb Z (AW H d (.dK (Bq (Dh sn z) (.inr s.nm) (.int (z s.nm:Int))))) b D K d G L W N z (sn++[s.nm]) F E:=by
 have Y:CM H (AW H d (.dK (Bq (Dh sn z) (.inr s.nm) (.int (z s.nm:Int))))):=(ER H).cb I.ed λP=>by intro q;cases q
 have U:∀{c:AI}{J:List AH},H c=AA (.lst J)->(AW H d (.dK (Bq (Dh sn z) (.inr s.nm) (.int (z s.nm:Int))))) c=AA (.lst J):=λ{c J}e=>by rw[BC (λq=>by rw[q,I.ed]at e;cases e)];exact e
 exact{bf:=I.bf.dw I.d0,l0:=I.l0,d0:=I.d0,yz:=U I.yz,pr:=I.pr.ae Y,pl:=I.pl.adb A C,ed:=(by rw[Az,Ul B]),afc:=(by rw[CY,Hx];(first|lia|omega)),afd:=I.afd,ej:=U I.ej,aec:=I.aec,j:=I.j.imp id λ⟨m,l,a,M,e,f,g⟩=>⟨CT.mpr (.inl m),l,a,M,e,f.tp Y,g⟩}
theorem Fb.adx(I:Fb U H b F Y d W Z q A z sn J V){s:Ah}(g:∀a∈s.aw,a∈sn):∀a∈s.aw,CI (Dh sn z) (.inr a)=AA (.int (z a:Int))/\z a<=150:=λa D=>⟨fT (g a D),I.pl.ahg a (g a D)⟩
noncomputable abbrev Gr(a:AI)(D:Nat)(b:Int)(U d:AI)(F:Int)(J:AI)(r:List (Option AH)):Aj:=AA (.ref a)::AA (.int 2)::AA (.int 5)::AA (.int (D:Int))::AA (.int b)::AA (.str Be)::AA (.ref U)::AA (.ref d)::AA (.int F)::AA (.ref J)::r
noncomputable def Ah.yv:Ah->AJ->Ah|.gap n _ D m,f=>.gap n f D m|.each n _ D z d,f=>.each n f D z d|s,_=>s
theorem cV{s:Ah}(h:s.br=AF)(f:AJ):EF (s.mz.map Al) AD (AA 2)++[.str f]++EF (s.mz.map Al) (AA 3) AD=(s.yv f).mz.map Al/\¬(BJ (s.mz.map Al).length 0 AD=0/\BJ (s.mz.map Al).length (s.mz.map Al).length (AA 2)=(s.mz.map Al).length)/\¬(BJ (s.mz.map Al).length 0 (AA 3)=0/\BJ (s.mz.map Al).length (s.mz.map Al).length AD=(s.mz.map Al).length):=by cases s<;>first|exact⟨rfl,by show¬(BJ 5 0 AD=0/\BJ 5 5 (AA 2)=5);decide,by show¬(BJ 5 0 (AA 3)=0/\BJ 5 5 AD=5);decide⟩|exact⟨rfl,by show¬(BJ 6 0 AD=0/\BJ 6 6 (AA 2)=6);decide,by show¬(BJ 6 0 (AA 3)=0/\BJ 6 6 AD=6);decide⟩|cases h
theorem cU{s:Ah}(h:s.br=AF)(g:Gs sn n s)(D:f∈sn)(J:CW f):Gs sn n (s.yv f):=by cases s<;>first|exact⟨g.nm,λy F=>(by rw[Bl.mp F];exact D),trivial,Kt (g.aat _ (.head _)) J (g.aat _ (.tail _ (.tail _ (.head _)))),g.ada⟩|cases h
theorem cW{s:Ah}(h:s.br=AF)(f:AJ):(s.yv f).br=AF:=by cases s<;>first|rfl|cases h
theorem cY:("x":AJ)=Bk 23:=by decide+kernel
theorem cZ:("z":AJ)=Bk 25:=by decide+kernel
noncomputable def eF(K:Ar):Ba:=λq H Q _=>Hk (λ(a:AI)(J:List Int)(D:Nat)=>q=[.ref a,.int 2,.int 5,.int (D:Int)]) (λa J _=>Bg K H a (J.map AH.int)) (λ_ J _=>J.length<=63) (λ_ _ D=>(D=10\/D=5)) (λ_ _ D=>∀l F W U b Z z Y,Ak H F->H l=AD->F l=AA (.lst W)->FZ F W U->D9 b D U Z z Y->U.length<=21->Q (.ref l) F)
theorem bQ{K:Ar}{ad:Kk}(T:B0 K mg ad):BW P w K mg base Bs 4 ad.cp ad.cq ["_law_script","_law_first","_law_most","_law_many"] (eF K):=by
  have Z:=gF.mk (Nn (P:=P) (w:=w) (base:=base) T) T.jx T.dy.kp T.ji;have M:=gF.mk (L9 (P:=P) (w:=w) (base:=base) T) T.bp T.bc.kp T.bo;have G_u_law_kind:=gF.mk (QJ (P:=P) (w:=w) (base:=base) T) T.jy T.du.kp T.jj;have X:=gF.mk (bE (P:=P) (w:=w) (base:=base) T) T.nk T.dq.kp T.ni;have G_u_law_step_name:=gF.mk (bT (P:=P) (w:=w) (base:=base) T) T.qm T.fw.kp T.ql;have m:=gF.mk (bS (P:=P) (w:=w) (base:=base) T) T.yr T.qi.kp T.ye;have R:=gF.mk (aU (P:=P) (w:=w) (base:=base) T) T.wo T.ny.kp T.we;refine T.dz.ok VS (λvs H Q E h=>?_) (λcdv A outer s H vs Q E hr h=>?_)
  . refine AB λW=>?_;obtain⟨a,ns,F,rfl,_⟩:=h;refine W ?_;try clear W
    rfl
  . refine AB λW=>?_;obtain⟨a,ns,F,rfl,hS,hl,hm,k⟩:=h;refine W ?_;try clear W
    have nd:=VS.nd;refine⟨_,(Aq (Ax 4 nd (A9 Z hr (AG (AE 0) (AG (AE 1) AQ)))) (CG (Ax 5 nd A6) (Aq (Ax 6 nd (CJ AQ)) (Aq (Ax 7 nd Ol) (Aq (Ax 8 nd (A9 Z hr (AG (AE 0) (AG (AS CC (AE 1) AM) AQ)))) (Aq (Ax 9 nd (CJ AQ)) (Aq (GZ (Bc (BK (Rn (K:=K)) (AS BY (AS CD (AE 8) (AS CC (AE 2) AM)) AM) (CL (AG AM (AG AM AQ))) (by with_unfolding_all rfl)) (Ac (R4 (i:=6) (osc:=A7 N1) [("_law_base",4),("_law_letters",5)] nd rfl (O6 rfl) rfl (Mj (by rfl) T.nh (AG AM AQ)) rfl rfl (by decide+kernel) (by decide+kernel) (by decide+kernel) ⟨rfl,rfl,rfl,rfl,trivial⟩ rfl (by decide+kernel) (λ_ _ _ _=>F5) (λ_ _ _ _=>(CL (AG A6 (AG (A9 M hr (AG (AE 1) (AG (AS CC AM (AE 0)) (AG (AS Mf A6 (HS KI (AE 2) (AE 0) (λ_ _=>rfl))) AQ)))) (AG A6 AQ))))))) Bt)) (Aq (GZ (Bc (BK Rm (AS BY (AS CD (AE 8) (AS CC (AE 2) AM)) AM) AM (BL _)) (Aq (Ax 9 nd (A9 X hr (AG (AE 4) (AG (A9 Z hr (AG (AE 0) (AG (AS CC (AE 1) AM) AQ))) (AG (AE 3) AQ))))) (Aq (Ax 6 nd (AS Oi (AE 6) (AE 9))) (Ac (Dp Dr rfl (Mj (by rfl) T.nh (AG (CN (JT (K:=K)) (by rfl) T.ke ID (AG (AE 9) AQ)) AQ)) (Cr 10 nd) (Ac (LN hr.u1 (AE 7) (Ay K (Ci K (AE 9) (AE 10)) AM) (Ci K (CJ (AG (AE 3) (AG (AE 3) (AG (AS D1 (AE 3) (AE 3)) (AG (AS D1 (AE 3) (AE 3)) (AG (AS kN (AE 3) AM) AQ)))))) (AE 10)) rfl)))))) Bt)) (Aq (Dp Dr rfl (Mj (by rfl) T.nh (AG (AS BY (AE 8) (AS CC (AE 2) AM)) AQ)) (Cr 10 nd) (Aq (Ax 11 nd (AS CC (AS CC (A9 Z hr (AG (AE 0) (AG (AS CC (AS CC (AE 1) AM) (AS BY (AE 10) AM)) AQ))) (AS D1 AM (AS CD (AE 10) AM))) (AE 10))) (Aq (Ax 12 nd (A9 G_u_law_step_name hr (AG (AE 4) (AG (AE 10) (AG (AS Mf (HS KI (AE 5) AM (λ_ _=>rfl)) (HS KI (AE 5) (AE 10) (λ_ _=>rfl))) AQ))))) (Aq (Ax 13 nd (A9 G_u_law_kind hr (AG (AE 4) (AG (AS BY (AS CD (AE 11) AM) AM) AQ)))) (Aq (Ax 14 nd (A9 m hr (AG (AE 11) (AG (AE 12) (AG (Ja (V8 (K:=K) rfl) (by rfl) T.ip Jj (AG (AE 7) AQ)) (AG (AE 13) AQ)))))) (Aq (GZ (Bc (BK Rm (A9 R hr (AG (AE 14) (AG (AE 7) (AG (AE 3) AQ)))) AM (BL _)) (Ac (Ax 14 nd (CL (AG A6 (AG (AE 12) (AG (AE 13) AQ)))))) Bt)) (Aq (D4 (Ed K (AE 6) (AG (AE 14) AQ))) (Ac (E4 (Bc (Fj (LP (BK Oj (Ay K (AE 14) AM) A6 (BL _)) (LQ (BK Oj (Ay K (AE 14) AM) A6 (BL _))))) (Ac (LN hr.u1 (AE 7) (AE 12) (A9 R hr (AG (AE 14) (AG (AE 7) (AG (AE 3) AQ)))) rfl)) Bt)))))))))) (Aq (Ax 15 nd (Ja (V8 (K:=K) rfl) (by rfl) T.ip Jj (AG (AE 7) AQ))) (Aq (Dp Dr rfl (Mj (by rfl) T.nh (AG (AS D1 AM (Ja gS (by rfl) T.acx qE (AG (W9 Oj (AS BY (AS CD (AE 8) (AS CC (AE 2) AM)) AM) AM (BL _)) AQ))) AQ)) (Cr 10 nd) (Aq (Ax 11 nd (A9 Z hr (AG (AE 0) (AG (AS CC (AS CC (AE 1) AM) (AE 10)) AQ)))) (Aq (Ax 12 nd (A9 M hr (AG (AE 4) (AG (AS CC AM (AE 10)) (AG (AS Mf A6 (HS KI (AE 5) (AE 10) (λ_ _=>rfl))) AQ))))) (Aq (Ax 14 nd (A9 m hr (AG (AS CC (AS CC AM (AS BY (AE 11) AM)) (AS D1 AM (AS CD (AE 11) AM))) (AG (AE 12) (AG (AE 15) (AG A6 AQ)))))) (Aq (GZ (Bc (Fj (LP (BK Ca (Ay K (AE 14) AM) A6 (BL _)) (LQ (BK Ca (AS BY (AS CD (AE 11) AM) AM) AM (BL _))))) (Ac (Ax 14 nd (AS LI (GV (KN (K:=K)) (AE 14) Hv (FQ AM)) (CL (AG (CN (K8 rfl) (by rfl) T.qr KU (AG AM (AG (AS D1 (AS BY (Ay K (AE 14) AM) AM) (Ci K (CJ (AG AM (AG AM (AG AM (AG AM (AG AM (AG AM AQ))))))) (AS BY (A9 Z hr (AG (AE 0) (AG AM AQ))) AM))) AQ))) AQ))))) Bt)) (Aq (GZ (Bc (Fj (LP (BK (LK (K:=K) hr.jz) (AE 9) (CJ AQ) (BL _)) (LQ (BK Ca (AE 10) AM (BL _))))) (Ac (Ax 14 nd (AS LI (AS LI (GV (KN (K:=K)) (AE 14) Hv (FQ AM)) (CL (AG (Ay K (Ci K (AE 9) (AS E3 (AS D1 AM (CN (JT (K:=K)) (by rfl) T.ke ID (AG (AE 9) AQ))) AM)) AM) AQ))) (GV (KN (K:=K)) (AE 14) (FQ AM) Hv)))) Bt)) (Ac (E4 (D4 (Ed K (AE 6) (AG (AE 14) AQ))))))))))) (Ac (BA (AE 6)))))))))))))),?_⟩;have sz:An=16777216:=Dg;have m10:F<=10:=by(first|lia|omega)
    refineλ_ _ _ _ z1=>⟨a,ns,2,rfl,hS,hl,by decide,λb=>z1 _ _ ?_⟩;refineλ_ _ _ _ z3=>⟨Bd _,λO hlp=>z3 _ _ ?_⟩;refine As (o:=.lst []) hlp λH1 s1 elp=>?_;refineλ_ _ _ _ z4=>λd hd=>z4 _ _ ?_;have hd0:=s1.ar hd;refine As (o:=.dK []) hd λH2 s2 ed=>?_;have s12:=s1.aa s2;refineλ_ _ _ _ z5=>⟨a,ns,_,rfl,s12.aar hS,hl,by decide,λl=>z5 _ _ ?_⟩;refineλ_ _ _ _ z6=>⟨Bd _,λlj hlj=>z6 _ _ ?_⟩;have nlj:lj≠O:=(B6 (s2 _ _ elp) hlj).symm;refine As (o:=.lst []) hlj λH3 s3 elj=>?_;have I3:Fb H H3 b F O d lj [] [] [] (λ_=>0) [] [] "":={bf:=s12.aa s3,l0:=hlp,d0:=hd0,yz:=(s2.aa s3) _ _ elp,pr:=.nil,pl:=.ahd _ _ _,ed:=s3 _ _ ed,afc:=Bd _,afd:=Bd _,ej:=elj,aec:=nlj,j:=.inl rfl};clear s1 s2 s12 s3 elp ed elj nlj hd0 hd hlj hlp;refineλ_ _ _ _ z7=>GS (λσ' H'=>T6 (λ(O:AI)(N:Option AH)(f:List AH)(G:List Ah)(I:List (Nat×Nat))(z:AJ->Nat)=>σ'=Gr a F b O d l lj [N,AD,AD,AD,AD,AD]) (λO _ f G I z=>Fb H H' b F O d lj f G I z [] [] "") (λ_ _ _ _ I _=>(∀t∈I,t.1=23)) (λ_ _ _ G _ _=>G.length<=9)) ?_ ?_
    . refine⟨⟨by decide,by decide⟩,(by decide:(0:Int)<9),BF rfl,λt ht=>?_⟩;refine As (o:=.tup [.int 2,.int 6]) ht λH4 s4 et=>?_;refine⟨t,_,rfl,.inr (Ao et),rfl,rfl,_,rfl,Er (λ_=>?_) λ_=>⟨O,AD,[],[],[],_,rfl,I3.kg s4,λt h=>(by cases h),Bd _⟩⟩;refine⟨_,rfl,by decide,by decide,hV (n:=9) (λi τ acc H'=>(∃o,τ=[o,AA (.int b),AA (.str Be)])/\Ak H4 H'/\∃(G:List Ah)(I:List (Nat×Nat))(z:AJ->Nat),FZ H' acc G/\D9 b F G I z []/\(∀t∈I,t.1=23/\t.2<i)/\G.length=i) (by(first|lia|omega)) ⟨⟨AD,rfl⟩,CS _,[],[],λ_=>0,.nil,.ahd _ _ _,λt h=>(by cases h),rfl⟩ ?_ ?_⟩
      . intro i τ acc H5 R1 hi _ hI k1;refine AB λW=>?_;obtain⟨⟨o,rfl⟩,s5,G,I,z,pr,pl,tt,ls⟩:=hI;refine W ?_;try clear W
        have hch:C3 Be.cps.toList (0+(i:Int))=AA (Be.cps.toList.getD i 0):=by rw[NZ];exact Nf i (by(first|lia|omega))
        have hz:("x":AJ)++⟨#[Be.cps.toList.getD i 0]⟩=Bk 23++Bk i:=by rw[cY]
        have al:Dw (("x":AJ)++⟨#[Be.cps.toList.getD i 0]⟩)/\1<=(("x":AJ)++⟨#[Be.cps.toList.getD i 0]⟩:AJ).length/\(("x":AJ)++⟨#[Be.cps.toList.getD i 0]⟩:AJ).length<=2:=by rw[hz,J3];exact⟨Nd (by decide) (by(first|lia|omega)),by decide,by decide⟩
        refine⟨_,_,_,rfl,rfl,by decide+kernel,hch,_,_,rfl,rfl,by rw[<-Ke];(first|lia|omega),_,_,_,rfl,al.1,al.2.1,al.2.2,λnv H6 s6=>⟨BF rfl,λp hp=>?_⟩⟩;have tg:Em b (C9 b (620+(0+(i:Int))) (("x":AJ)++⟨#[Be.cps.toList.getD i 0]⟩)) (23,i):=⟨(by decide:23<26),(by show i<26;(first|lia|omega)),.inl ⟨Af _,_,by rw[hz]⟩⟩;have on:CW (C9 b (620+(0+(i:Int))) (("x":AJ)++⟨#[Be.cps.toList.getD i 0]⟩)):=Hl nv;generalize C9 b (620+(0+(i:Int))) (("x":AJ)++⟨#[Be.cps.toList.getD i 0]⟩)=nx at tg on⊢;refine k1 _ _ _ ⟨⟨_,rfl⟩,s5.aa (s6.aa (Cz hp)),G++[.take nx "nobody"],I++[(23,i)],_,D3 (pr.ae (s6.aa (Cz hp)).tp) (.cons ⟨p,rfl,(show Bj (AW H6 p (.tup [.str "take",.str nx,.str "nobody"])) p (.take nx "nobody")from Az)⟩ .nil),pl.adu (by(first|lia|omega)) tg (λh=>by have:=(tt _ h).2;exact E6 _ this) on (by unfold CW;decide+kernel),λt h=>?_,by rw[CY,ls];rfl⟩;rcases CT.mp h with h|h;.have:=tt t h;exact⟨this.1,by(first|lia|omega)⟩
        .rw[Bl.mp h];exact⟨rfl,by show i<i+1;(first|lia|omega)⟩
      . intro τ acc H5 la hI D hD;refine AB λW=>?_;obtain⟨_,s5,G,I,z,pr,pl,tt,ls⟩:=hI;refine W ?_;try clear W
        have s6:=Cz (o:=.lst acc) hD;have S:=s4.aa s5;refine⟨D,AD,acc,G,I,z,rfl,{bf:=I3.bf.aa (S.aa s6),l0:=(I3.bf.aa S).ar hD,d0:=I3.d0,yz:=Az,pr:=pr.ae s6.tp,pl:=pl,ed:=(S.aa s6) _ _ I3.ed,afc:=Bd _,afd:=(by(first|lia|omega)),ej:=(S.aa s6) _ _ I3.ej,aec:=B6 (S _ _ I3.ej) hD,j:=.inl rfl},λt h=>(tt t h).1,by(first|lia|omega)⟩
    clear I3;intro σ' H4 hI;refine AB λW=>?_;obtain⟨O,N,f,G,I,z,rfl,I4,t4,l4⟩:=hI;refine W ?_;try clear W
    refine z7 _ _ ?_;refineλ_ _ _ _ z9=>GS (λσ' H'=>Px (λ(O lj:AI)(N:Option AH)(f:List AH)(G:List Ah)(I:List (Nat×Nat))(z:AJ->Nat)(L:List AJ)(Y:List AH)(jn:AJ)=>σ'=Gr a F b O d l lj [N,AD,AD,AD,AD,AD]) (λO lj _ f G I z L Y jn=>Fb H H' b F O d lj f G I z L Y jn) (λ_ _ _ _ _ I _ _ _ _=>(∀t∈I,t.1=23\/t.1=24)) (λ_ _ _ _ G _ _ _ _ _=>G.length<=14) (λ_ _ _ _ _ _ _ L _ _=>L.length<=5)) ?_ ?_
    . refine⟨⟨by decide,by decide⟩,(by decide:(0:Int)<9),_,rfl,Er (λ_=>?_) λ_=>⟨O,lj,N,f,G,I,z,[],[],"",rfl,I4,λt h=>.inl (t4 t h),by(first|lia|omega),Bd _⟩⟩;refineλ_ _ _ _ z10=>⟨a,ns,_,rfl,I4.bf.aar hS,hl,by decide,λjc=>⟨b,jc,F,rfl,λl5 H5 Y jss s5 hl5 el5 jpr jn=>z10 _ _ ?_⟩⟩;have I5:=I4.kg s5;clear I4 s5;have ljs:=jpr.bj;refine AB λW=>?_;obtain⟨z6,ts6,pl6,tt6,zv,nd6,len6⟩:=Z6 hm I5.pl t4 jn;refine W ?_;try clear W
      refineλ_ _ _ _ z11=>⟨O,l5,_,_,rfl,rfl,I5.yz,el5,by have:=I5.pr.bj;(first|lia|omega),λlq hlq=>z11 _ _ ?_⟩;have s6:=Cz (o:=.lst (f++Y)) hlq;have elq:(AW H5 lq (.lst (f++Y))) lq=AA (.lst (f++Y)):=Az;generalize AW H5 lq (.lst (f++Y))=H6 at s6 elq⊢;have S6:=I5.bf.aa s6;have pr6:FZ H6 (f++Y) (G++jss):=D3 (I5.pr.ae s6.tp) (jpr.ae s6.tp);have el6:=s6 _ _ el5;have jpr6:=jpr.ae s6.tp;have ed6:=s6 _ _ I5.ed;refine⟨_,.inl (AV el6),_,rfl,by(first|lia|omega),by(first|lia|omega),RN (lo:=0) (n:=Y.length) (λi σ H'=>∃N,σ=Gr a F b lq d l l5 [N,AD,AD,AD,AD,AD]/\Gx d H6 H'/\H' d=AA (.dK (Dh ((jss.map Ah.nm).take i) z6))) ⟨_,rfl,(CS _).x _,ed6⟩ ?_ ?_⟩
      . intro i σ H7 hi hI;refine AB λW=>?_;obtain⟨N,rfl,s7,ed7⟩:=hI;have t67:CM H6 H7:=λc ys e=>s7 _ _ (λq=>by rw[q,ed6]at e;cases e) e;have nd5:l5≠d:=λq=>by have:=I5.ed;rw[<-q,el5]at this;cases this
        have el7:=s7 _ _ nd5 el6;have ex:=B8 hi;obtain⟨x,J,ex1,es,ea⟩:=jpr6.at ex;refine W ?_;try clear W
        rw[ex1]at ex;have ea7:Bj H7 x J:=ea.tp t67;have hv:=zv i J es;have i5:i<5:=by(first|lia|omega)
        refine⟨.inl ⟨by(first|lia|omega),by(first|lia|omega)⟩,.inl ⟨by(first|lia|omega),by(first|lia|omega)⟩,_,_,rfl,rfl,⟨by decide,by decide,by(first|lia|omega)⟩,BF rfl,λq hq=>?_⟩;have evl:[AH.int (F:Int),.int (F:Int),.int ((F:Int)*(F:Int)),.int ((F:Int)*(F:Int)),.int ((F:Int)^3)]=(QE F).map λn:Nat=>AH.int (n:Int):=by rcases hm with h|h<;>(rw[h];rfl)
        refine As (o:=.lst [AH.int (F:Int),.int (F:Int),.int ((F:Int)*(F:Int)),.int ((F:Int)*(F:Int)),.int ((F:Int)^3)]) hq λH8 s8 e8=>?_;rw[evl]at e8;have hval:C3 ((QE F).map λn:Nat=>AH.int (n:Int)) (0+(i:Int))=AA (.int (z6 J.nm:Int)):=by rw[NZ];exact Ag (by rw[BV,hv];rfl)
        have xi:C3 Y (0+(i:Int))=AA (.ref x):=by rw[NZ];exact Ag ex
        refine AB λW=>?_;obtain⟨w0,_,w2⟩:=Bj.cx (K:=K) (show Bj H8 x J from s8 _ _ ea7);refine W ?_;try clear W
        refine⟨_,_,AV e8,hval,_,_,AV (s8 _ _ el7),xi,_,_,w0,w2,d,_,rfl,Kx (k:=.inr J.nm) (s8 _ _ ed7) ?_,_,rfl,?_,?_⟩
        . show(Dh _ _).length<An;unfold Dh;rw[Am];have:=List.length_take_le i (jss.map Ah.nm);(first|lia|omega)
        .exactλc o nc e=>by rw[BC nc];exact s8 _ _ (s7 c o nc e)
        . have nin:J.nm∉(jss.map Ah.nm).take i:=λh=>N7 nd6 (by rw[BV,es];rfl) h;rw[Az,Ul nin];have:(jss.map Ah.nm).take (i+1)=(jss.map Ah.nm).take i++[J.nm]:=by rw[DD,BV,es];rfl
          rw[this]
      . intro σ H7 hI;refine AB λW=>?_;obtain⟨N,rfl,s7,ed7⟩:=hI;have t67:CM H6 H7:=λc ys e=>s7 _ _ (λq=>by rw[q,ed6]at e;cases e) e;have kl7:∀{c:AI}{xs:List AH},H6 c=AA (.lst xs)->H7 c=AA (.lst xs):=λ{c xs}e=>s7 _ _ (λq=>by rw[q,ed6]at e;cases e) e;have hd0:=I5.d0;have S7:Ak H H7:=λc o e=>s7 _ _ (B6 e hd0) (S6 _ _ e);have lmap:(jss.map Ah.nm).length=Y.length:=by rw[Am];(first|lia|omega)
        rw[<-lmap,Cn (Af _)]at ed7;have exj:=B8 (show 2*Y.length-6<Y.length by(first|lia|omega));obtain⟨x,J,ex1,es,ea⟩:=jpr6.at exj;refine W ?_;try clear W
        rw[ex1]at exj;refine⟨lq,l5,_,f++Y,G++jss,I++ts6,z6,jss.map Ah.nm,Y,J.nm,rfl,{bf:=S7,l0:=(I5.bf).ar hlq,d0:=hd0,yz:=kl7 elq,pr:=pr6.ae t67,pl:=pl6,ed:=ed7,afc:=(by rw[lmap];(first|lia|omega)),afd:=(by rw[CY];(first|lia|omega)),ej:=kl7 el6,aec:=B6 el5 hlq,j:=.inr ⟨BH.mpr ⟨J,B9 es,rfl⟩,by(first|lia|omega),x,J,exj,ea.tp t67,rfl⟩},λt h=>?_,by rw[CY];(first|lia|omega),by rw[lmap];(first|lia|omega)⟩;exact(CT.mp h).imp (t4 t) (tt6 t)
    clear I4;intro σ' H5 hI;refine AB λW=>?_;obtain⟨O,lj,N,f,G,I,z,L,Y,jn,rfl,I5,t5,l5,n5⟩:=hI;refine W ?_;try clear W
    refine z9 _ _ ?_;have c7:0<=l%(5+1)/\l%(5+1)<6:=⟨DR _ (by decide),EM _ (by decide)⟩;refineλ_ _ _ _ z14=>⟨(by decide:(0:Int)<5+1),_,rfl,by(first|lia|omega),by(first|lia|omega),RN (lo:=0) (n:=(l%(5+1)).toNat) (λi σ H'=>Px (λ(N o11 o12 o13 o14:Option AH)(f:List AH)(G:List Ah)(I:List (Nat×Nat))(z:AJ->Nat)(L:List AJ)=>σ=Gr a F b O d l lj [N,o11,o12,o13,o14,AD]) (λ_ _ _ _ _ f G I z L=>Fb H H' b F O d lj f G I z L Y jn) (λ_ _ _ _ _ _ _ I _ _=>(∀t∈I,t.1=23\/t.1=24\/(t.1=0/\t.2<i))) (λ_ _ _ _ _ _ G _ _ _=>G.length<=14+i) (λ_ _ _ _ _ _ _ _ _ L=>L.length<=5+i)) ⟨_,_,_,_,_,f,G,I,z,L,rfl,I5,λt h=>(t5 t h).imp id .inl,l5,n5⟩ ?_ ?_⟩
    . clear I5;intro i σ H6 hi hI;refine AB λW=>?_;obtain⟨N,o11,o12,o13,o14,f,G,I,z,L,rfl,I6,t6,l6,n6⟩:=hI;refine W ?_;try clear W
      have i7:i<7:=by(first|lia|omega)
      have bk:0<=(0+(i:Int))%7:=DR _ (by decide);refineλ_ _ _ _ z15=>⟨(by decide:(0:Int)<7),a,ns,_,rfl,I6.bf.aar hS,hl,by show 0<=(2+2)+(0+(i:Int))%7;(first|lia|omega),λc0=>⟨⟨by decide,by decide⟩,.inl ⟨by decide,by decide⟩,z15 (Gr a F b O d l lj [AA (.int (0+(i:Int))),AA (.int (c0+7919*((0+(i:Int))/7)+(0+(i:Int)))),o12,o13,o14,AD]) _ ?_⟩⟩;generalize c0+7919*((0+(i:Int))/7)+(0+(i:Int))=cl;have h0:C3 Be.cps.toList 0=AA (Be.cps.toList.getD 0 0):=Nf 0 (by decide);have hch:C3 Be.cps.toList (0+(i:Int))=AA (Be.cps.toList.getD i 0):=by rw[NZ];exact Nf i (by(first|lia|omega))
      refineλ_ _ _ _ z16=>⟨_,_,_,rfl,rfl,by decide+kernel,h0,_,_,_,rfl,rfl,by decide+kernel,hch,_,_,rfl,rfl,(by show 1+1<=An;(first|lia|omega)),b,0+(i:Int),Bk 0++Bk i,rfl,Nd (by decide) (by(first|lia|omega)),J3 _ _,by(first|lia|omega),by(first|lia|omega),λnv H7 s7=>z16 (Gr a F b O d l lj [AA (.int (0+(i:Int))),AA (.int cl),AA (.str (Fz b (0+(i:Int)) (Bk 0++Bk i))),o13,o14,AD]) _ ?_⟩;have tg:Em b (Fz b (0+(i:Int)) (Bk 0++Bk i)) (0,i):=⟨(by decide:0<26),(by show i<26;(first|lia|omega)),.inr ⟨rfl,(by show i<13;(first|lia|omega)),by rw[NZ]⟩⟩;have on:CW (Fz b (0+(i:Int)) (Bk 0++Bk i)):=Hl nv;generalize Fz b (0+(i:Int)) (Bk 0++Bk i)=nm at tg on⊢;have hno:((0,i):Nat×Nat)∉I:=λh=>by
        rcases t6 _ h with q|q|q;.cases q
        .cases q
        .exact E6 _ q.2
      refineλ_ _ _ _ z17=>⟨⟨by decide,by decide⟩,(by decide:(0:Int)<3),_,_,rfl,DR _ (by decide),EM _ (by decide),λkd H8 s8 okd=>z17 _ _ ?_⟩;have I8:=I6.kg (s7.aa s8);clear I6 s7 s8;refineλ_ _ _ _ z18=>⟨d,_,rfl,I8.ed,λla hla=>?_⟩;rw[Vj];refine As (o:=.lst (L.map AH.str)) hla λH9 s9 ela=>?_;refine⟨cl,nm,la,L,kd,rfl,on,ela,I8.pl.agq,okd,by(first|lia|omega),λp J H10 s10 es g _ _=>z18 _ _ ?_⟩;have I10:=I8.kg (s9.aa s10);clear I8 s9 s10 ela;refineλ_ _ _ _ z19=>GS (λσ' H'=>Py (λ(p:AI)(J:Ah)=>σ'=Gr a F b O d l lj [AA (.int (0+(i:Int))),AA (.int cl),AA (.str nm),AA (.str kd),AA (.ref p),AD]) (λ_ _=>Fb H H' b F O d lj f G I z L Y jn) (λp J=>Bj H' p J) (λ_ J=>Gs L nm J) (λ_ J=>DL J z F<=150)) ?_ ?_
      . refine⟨p,d,J,Dh L z,z,F,rfl,es,I10.ed,I10.adx g.uk,_,rfl,F3 (λh=>?_) λh=>⟨p,J,rfl,I10,es,g,by(first|lia|omega)⟩⟩;exact⟨BF rfl,λp' hp'=>⟨p',.take nm kd,rfl,I10.kg (Cz hp'),Az,N6 on okd,(by show F<=150;(first|lia|omega))⟩⟩
      clear I10 es g;intro σ' H11 hI;refine AB λW=>?_;obtain⟨p,J,rfl,I11,es,g,hb⟩:=hI;refine W ?_;try clear W
      refine z19 _ _ ?_;have hnm:=g.nm;have lp11:=I11.pr.bj;refineλ_ _ _ _ z21=>⟨.inl ⟨rfl,_,AV I11.yz⟩,O,_,_,rfl,rfl,I11.yz,by(first|lia|omega),z21 _ _ ?_⟩;have nw:=I11.pl.abx tg hno;have B:=I11.ads es (by rw[hnm];exact tg) hno (by rw[hnm];exact g) (by(first|lia|omega)) (by(first|lia|omega));have tp12:CM H11 (AW H11 O (.lst (f++[.ref p]))):=(ER H11).cb I11.yz λys=>by intro q;cases q
      have r:Bj (AW H11 O (.lst (f++[.ref p]))) p J:=es.tp tp12;generalize AW H11 O (.lst (f++[.ref p]))=H12 at B r tp12⊢;have t12:∀t∈I++[(0,i)],t.1=23\/t.1=24\/(t.1=0/\t.2<i+1):=λt h=>by
        rcases CT.mp h with h|h
        . rcases t6 t h with q|q|q;.exact .inl q
          .exact .inr (.inl q)
          .exact .inr (.inr ⟨q.1,by(first|lia|omega)⟩)
        .rw[Bl.mp h];exact .inr (.inr ⟨rfl,by show i<i+1;(first|lia|omega)⟩)
      have l12:(G++[J]).length<=14+(i+1):=by rw[CY,Hx];(first|lia|omega)
      refine AB λW=>?_;obtain⟨w0,w1,w2⟩:=r.cx (K:=K);refine W ?_;try clear W
      have eB:DL J (DA z J.nm (DL J z F)) F=DA z J.nm (DL J z F) J.nm:=by rw[J5];exact P2 λx hx=>Ff λe=>by obtain⟨i',s',ei',en,_⟩:=I11.pl.acz x (g.uk x hx);exact nw s' (B9 ei') (en.trans (e.trans hnm))
      have nin:J.nm∉L:=λh=>by obtain⟨i',s',ei',en,_⟩:=I11.pl.acz _ h;exact nw s' (B9 ei') (en.trans hnm)
      clear I11;generalize DA z J.nm (DL J z F)=z' at B eB;refineλ_ _ _ _ z22=>?_;refine UD (C:=True) (λ_=>z22 (Gr a F b O d l lj [AA (.int (0+(i:Int))),AA (.int cl),AA (.str nm),AA (.str kd),AA (.ref p),AD]) H12 ⟨_,_,_,_,_,_,_,_,_,_,rfl,B,t12,l12,by(first|lia|omega)⟩) λstay=>⟨_,_,w0,w1,rfl,_,rfl,Wa (EO (i:=6) rfl (λq6=>C4 (stay trivial)) λq6=>⟨_,_,w0,w1,rfl,_,rfl,Wa (EO (i:=5) rfl (λq5=>stay trivial) λq5=>?_)⟩)⟩;have htl:J.br=AO:=by cases J<;>first|rfl|exact absurd rfl q5|exact absurd rfl q6
      have hlen:(Dh L z').length<An:=by unfold Dh;rw[Am];(first|lia|omega)
      have I13:=B.wu (Kp _ _) htl nin (by(first|lia|omega));exact⟨p,d,J,Dh L z',z',F,rfl,r,B.ed,B.adx g.uk,d,_,rfl,(show OA H12 d (.str nm) (.int (DL J z' F:Int)) (AW H12 d (.dK (Bq (Dh L z') (.inr J.nm) (.int (z' J.nm:Int)))))from by rw[eB,<-hnm];exact Kx (k:=.inr J.nm) B.ed hlen),z22 _ _ ⟨_,_,_,_,_,_,_,_,z',_,rfl,I13,t12,l12,by rw[CY,Hx];(first|lia|omega)⟩⟩
    clear I5;intro σ H6 hI;refine AB λW=>?_;obtain⟨N,o11,o12,o13,o14,f,G,I,z,L,rfl,I6,t6,l6,n6⟩:=hI;refine W ?_;try clear W
    refine z14 _ _ ?_;refineλ_ _ _ _ z24=>⟨d,_,rfl,I6.ed,λls hls=>?_⟩;have nls:ls≠O:=(B6 I6.yz hls).symm;rw[Vj];refine As (o:=.lst (L.map AH.str)) hls λH7 s7 els=>z24 _ _ ?_;have I7:=I6.kg s7;clear I6 s7;have ntn:(l%(5+1)).toNat<=5:=by(first|lia|omega)
    refineλ_ _ _ _ z25=>⟨⟨by decide,by decide⟩,(by decide:(0:Int)<9),rfl,.inr ⟨_,rfl,.inl ⟨by decide,by decide⟩,_,rfl,?_,?_,RN (lo:=0) (λi σ H'=>UC (λ(N o11 o12 o13 o14:Option AH)(f:List AH)(G:List Ah)(I:List (Nat×Nat))(z:AJ->Nat)=>σ=Gr a F b O d l lj [N,o11,o12,o13,o14,AA (.ref ls)]) (λ_ _ _ _ _ f G I z=>Fb H H' b F O d lj f G I z L Y jn) (λ_ _ _ _ _ _ _ _ _=>H' ls=AA (.lst (L.map AH.str))) (λ_ _ _ _ _ _ _ I _=>(∀t∈I,t.1=23\/t.1=24\/t.1=0\/(t.1=25/\t.2<i))) (λ_ _ _ _ _ _ G _ _=>G.length<=19+i)) ⟨_,_,_,_,_,f,G,I,z,rfl,I7,els,λt h=>(by rcases t6 t h with q|q|q;exact .inl q;exact .inr (.inl q);exact .inr (.inr (.inl q.1))),by(first|lia|omega)⟩ ?_ ?_⟩⟩;.split<;>(first|lia|omega)
    .split<;>(first|lia|omega)
    . clear I7;intro i σ H8 hi hI;refine AB λW=>?_;obtain⟨N,o11,o12,o13,o14,f,G,I,z,rfl,I8,els8,t8,l8⟩:=hI;refine W ?_;try clear W
      have i2:i<2:=by refine EI hi ?_;split<;>decide
      refineλ_ _ _ _ z26=>⟨a,ns,_,rfl,I8.bf.aar hS,hl,by show 0<=(2+9)+(0+(i:Int));(first|lia|omega),λc0=>z26 (Gr a F b O d l lj [AA (.int (0+(i:Int))),AA (.int c0),o12,o13,o14,AA (.ref ls)]) _ ?_⟩;have hch:C3 Be.cps.toList (0+(i:Int))=AA (Be.cps.toList.getD i 0):=by rw[NZ];exact Nf i (by(first|lia|omega))
      have hz:("z":AJ)++⟨#[Be.cps.toList.getD i 0]⟩=Bk 25++Bk i:=by rw[cZ]
      have al:Dw (("z":AJ)++⟨#[Be.cps.toList.getD i 0]⟩)/\1<=(("z":AJ)++⟨#[Be.cps.toList.getD i 0]⟩:AJ).length/\(("z":AJ)++⟨#[Be.cps.toList.getD i 0]⟩:AJ).length<=2:=by rw[hz,J3];exact⟨Nd (by decide) (by(first|lia|omega)),by decide,by decide⟩
      refineλ_ _ _ _ z27=>⟨_,_,_,rfl,rfl,by decide+kernel,hch,_,_,rfl,rfl,by rw[<-Ke];(first|lia|omega),b,600+(0+(i:Int)),(("z":AJ)++⟨#[Be.cps.toList.getD i 0]⟩),rfl,al.1,al.2.1,al.2.2,λnv H9 s9=>z27 _ _ ?_⟩;have tg:Em b (C9 b (600+(0+(i:Int))) (("z":AJ)++⟨#[Be.cps.toList.getD i 0]⟩)) (25,i):=⟨(by decide:25<26),(by show i<26;(first|lia|omega)),.inl ⟨(by decide:23<=25),_,by rw[hz]⟩⟩;have on:CW (C9 b (600+(0+(i:Int))) (("z":AJ)++⟨#[Be.cps.toList.getD i 0]⟩)):=Hl nv;generalize C9 b (600+(0+(i:Int))) (("z":AJ)++⟨#[Be.cps.toList.getD i 0]⟩)=nm at tg on⊢;have I9:=I8.kg s9;have els9:=s9 _ _ els8;clear I8 els8 s9 hz al hch;have hno:((25,i):Nat×Nat)∉I:=λh=>by
        rcases t8 _ h with q|q|q|q;.cases q
        .cases q
        .cases q
        .exact E6 _ q.2
      refineλ_ _ _ _ z28=>⟨(by decide:(0:Int)<2),⟨by decide,by decide⟩,.inl ⟨by decide,by decide⟩,_,nm,ls,L,"k",rfl,on,els9,I9.pl.agq,(by unfold CW;decide+kernel),by(first|lia|omega),λp J H10 s10 es g tl _=>z28 _ _ ?_⟩;have tl':L≠[]->J.br=AF:=λh=>tl h (by have:=DR c0 (b:=2) (by decide);have:=EM c0 (b:=2) (by decide);(first|lia|omega));have I10:=I9.kg s10;have els10:=s10 _ _ els9;clear I9 els9 tl s10;refineλ_ _ _ _ z29=>GS (λσ' H'=>Pz (λ(p:AI)(J:Ah)=>σ'=Gr a F b O d l lj [AA (.int (0+(i:Int))),AA (.int c0),AA (.str nm),o13,AA (.ref p),AA (.ref ls)]) (λ_ _=>Fb H H' b F O d lj f G I z L Y jn) (λ_ _=>H' ls=AA (.lst (L.map AH.str))) (λp J=>Bj H' p J) (λ_ J=>Gs L nm J) (λ_ J=>(L≠[]->J.br=AF))) ?_ ?_
      . refine AB λW=>?_;obtain⟨w0,w1,w2⟩:=es.cx (K:=K);refine W ?_;try clear W
        refine⟨_,_,w0,w1,rfl,_,rfl,EO (i:=5) rfl (λq5=>?_) λq5=>C4 ⟨p,J,rfl,I10,els10,es,g,tl'⟩⟩;refine⟨⟨by decide,by decide⟩,(by decide:(0:Int)<2),rfl,_,rfl,Fo (λ_=>?_) λ_=>⟨p,J,rfl,I10,els10,es,g,tl'⟩⟩;refine AB λW=>?_;obtain⟨n',x',so,m',rfl⟩:∃n' x' so m',J=.gap n' x' so m':=by cases J<;>first|exact⟨_,_,_,_,rfl⟩|cases q5
        refine W ?_;try clear W
        have es:H10 p=AA (.tup [.str "gap",.str n',.str x',.str so,.int m']):=es;refine⟨_,rfl,p,_,rfl,Ao es,(by show¬(BJ 5 0 AD=0/\BJ 5 5 (AA 4)=5);decide),λp1 hp1=>?_⟩;refine As (o:=.tup [.str "gap",.str n',.str x',.str so]) hp1 λH11 u1 ep1=>?_;have m13:0<=m'%13/\m'%13<13:=⟨DR _ (by decide),EM _ (by decide)⟩;refine⟨_,_,Ao (u1 _ _ es),Ag (j:=4) rfl,(by decide:(0:Int)<13),BF rfl,λq hq=>?_⟩;refine As (o:=.lst [.int 1,.int 1,.int 1,.int 7,.int 1000,.int 1]) hq λH12 u2 eq=>?_;refine⟨a,ns,_,rfl,(I10.bf.aa (u1.aa u2)).aar hS,hl,by decide,λc6=>?_⟩;refine AB λW=>?_;obtain⟨v,hv,mv⟩:=FN [AH.int 1,AH.int 1,AH.int 1,AH.int 7,AH.int 1000,AH.int 1] 6 rfl (by decide) c6;obtain⟨vv,rfl,hvv⟩:∃vv:Int,v=.int vv/\0<=vv:=by simp only[B7,EH,ABt]at mv;rcases mv with rfl|rfl|rfl|rfl|rfl|rfl<;>exact⟨_,rfl,by decide⟩
        refine W ?_;try clear W
        refine⟨(by decide:(0:Int)<6),_,_,AV eq,hv,.inl ⟨by(first|lia|omega),by(first|lia|omega)⟩,BF rfl,λt ht=>?_⟩;refine As (o:=.tup [.int (if m'%13*vv<1000000 then m'%13*vv else 1000000)]) ht λH13 u3 et=>?_;refine⟨p1,t,_,_,rfl,rfl,(u2.aa u3) _ _ ep1,et,by show 4+1<=An;(first|lia|omega),λp2 H14 u4 ep2=>?_⟩;have U:=u1.aa (u2.aa (u3.aa u4));exact⟨p2,.gap n' x' so (if m'%13*vv<1000000 then m'%13*vv else 1000000),rfl,I10.kg U,U _ _ els10,ep2,⟨g.nm,g.uk,trivial,g.aat,g.ada.1,Z4 m13.1 hvv⟩,λ_=>rfl⟩
      clear I10 els10 es g tl';intro σ' H11 hI;refine AB λW=>?_;obtain⟨p,J,rfl,I11,els11,es10,g10,tl10⟩:=hI;refine W ?_;try clear W
      refine z29 _ _ ?_;refineλ_ _ _ _ z31=>GS (λσ' H'=>Pz (λ(p:AI)(J:Ah)=>σ'=Gr a F b O d l lj [AA (.int (0+(i:Int))),AA (.int c0),AA (.str nm),o13,AA (.ref p),AA (.ref ls)]) (λ_ _=>Fb H H' b F O d lj f G I z L Y jn) (λ_ _=>H' ls=AA (.lst (L.map AH.str))) (λp J=>Bj H' p J) (λ_ J=>Gs L nm J) (λ_ J=>(L≠[]->J.br=AF))) ?_ ?_
      . refine⟨Bd _,λl0 hl0=>?_⟩;refine As (o:=.lst []) hl0 λH12 v1 el0=>?_;have B:=I11.kg v1;have els12:=v1 _ _ els11;have r:Bj H12 p J:=es10.tp v1.tp;refine⟨lj,l0,Y,rfl,rfl,AV B.ej,AV el0,_,rfl,?_⟩;clear I11 els11 es10 v1;cases hne:Y.isEmpty with |true=>exact C4 ⟨p,J,rfl,B,els12,r,g10,tl10⟩|false=>
          refine AB λW=>?_;obtain⟨hjn,hjl,x,sj,hx,ex,ej⟩:jn∈L/\(Y.length=4\/Y.length=5)/\∃(a:AI)(s:Ah),Y[2*Y.length-6]?=AA (.ref a)/\Bj H12 a s/\s.nm=jn:=by
            rcases B.j with h|h;.rw[h]at hne;cases hne
            .exact h
          refine W ?_;try clear W
          subst ej;refine HN ⟨rfl,_,rfl,Fo (λ_=>?_) λ_=>⟨p,J,rfl,B,els12,r,g10,tl10⟩⟩;have htl:=tl10 (pR hjn);refine AB λW=>?_;obtain⟨r1,r2,r3⟩:=cV htl sj.nm;refine W ?_;try clear W
          have hix:C3 Y (2*(Y.length:Int)-6)=AA (.ref x):=by
            have e:2*(Y.length:Int)-6=((2*Y.length-6:Nat):Int):=by(first|lia|omega)
            rw[e];exact Ag hx
          have lky:(J.mz.map Al).length<=10:=by cases J<;>exact BF rfl
          refine⟨_,rfl,p,_,rfl,Ao r,r2,λp1 hp1=>?_⟩;refine As (o:=.tup (EF (J.mz.map Al) AD (AA 2))) hp1 λH13 u1 ep1=>?_;refine AB λW=>?_;obtain⟨x0,x1,x2⟩:=Bj.cx (K:=K) (show Bj H13 x sj from u1 _ _ ex);refine W ?_;try clear W
          refine⟨_,.inl (AV (u1 _ _ B.ej)),.inl ⟨by decide,by decide⟩,_,_,AV (u1 _ _ B.ej),hix,_,_,x0,x2,BF rfl,λt ht=>?_⟩;refine As (o:=.tup [.str sj.nm]) ht λH14 u2 et=>?_;have lc:∀lo hi,(EF (J.mz.map Al) lo hi).length<=10:=λlo hi=>by unfold EF;rw[Eh,LZ];(first|lia|omega)
          have lc1:=lc AD (AA 2);have lc2:=lc (AA 3) AD;refine⟨p1,t,_,_,rfl,rfl,u2 _ _ ep1,et,by show _+1<=An;(first|lia|omega),λp2 H15 u3 ep2=>?_⟩;have u13:=u1.aa (u2.aa u3);refine⟨_,rfl,p,_,rfl,Ao (u13 _ _ r),r3,λp3 hp3=>?_⟩;refine As (o:=.tup (EF (J.mz.map Al) (AA 3) AD)) hp3 λH16 u4 ep3=>?_;refine⟨p2,p3,_,_,rfl,rfl,u4 _ _ ep2,ep3,by rw[CY];show _+1+_<=An;(first|lia|omega),λp4 H17 u5 ep4=>?_⟩;rw[r1]at ep4;have U:=u13.aa (u4.aa u5);exact⟨p4,J.yv sj.nm,rfl,B.kg U,U _ _ els12,ep4,cU htl g10 hjn (B.pl.agq _ hjn),λ_=>cW htl _⟩
      clear I11 els11 es10 g10 tl10;intro σ' H12 hI;refine AB λW=>?_;obtain⟨p,J,rfl,B,els12,r,g12,tl12⟩:=hI;refine W ?_;try clear W
      refine z31 _ _ ?_;have hnm:=g12.nm;have lp12:=B.pr.bj;have hb:DL J z F<=150:=by cases ht:J.br with
        |true=>
          have:∃y∈J.aw,DL J z F=z y:=by cases J<;>first|exact⟨_,.head _,rfl⟩|cases ht
          obtain⟨y,hy,e⟩:=this;rw[e];exact B.pl.ahg y (g12.uk y hy)|false=>
          have hs0:L=[]:=by cases L with|nil=>rfl|cons u v=>have:=tl12 (by simp);rw[ht]at this;cases this
          have nf:∀y,y∉J.aw:=λy hy=>by have:=g12.uk y hy;rw[hs0]at this;cases this
          have:DL J z F=F:=by cases J<;>first|rfl|exact absurd (.head _) (nf _)
          (first|lia|omega)
      refineλ_ _ _ _ z33=>⟨.inl ⟨rfl,_,AV B.yz⟩,O,_,_,rfl,rfl,B.yz,by(first|lia|omega),z33 _ _ ⟨_,_,_,_,_,f++[.ref p],G++[J],I++[(25,i)],_,rfl,B.ads r (by rw[hnm];exact tg) hno (by rw[hnm];exact g12) hb (by(first|lia|omega)),?_,λt h=>?_,by rw[CY,Hx];(first|lia|omega)⟩⟩;.rw[BC nls];exact els12
      . rcases CT.mp h with h|h
        . rcases t8 t h with q|q|q|q;.exact .inl q
          .exact .inr (.inl q)
          .exact .inr (.inr (.inl q))
          .exact .inr (.inr (.inr ⟨q.1,by(first|lia|omega)⟩))
        .rw[Bl.mp h];exact .inr (.inr (.inr ⟨rfl,by show i<i+1;(first|lia|omega)⟩))
    . intro σ H8 hI;refine AB λW=>?_;obtain⟨N,o11,o12,o13,o14,f,G,I,z,rfl,I8,els8,t8,l8⟩:=hI;refine W ?_;try clear W
      exact z25 _ _ (k O _ f G b I z L I8.bf I8.l0 I8.yz I8.pr I8.pl (DE l8 (by split<;>decide)))
noncomputable def Jx(e:CA):Prop:=CW e.2.1/\CW e.2.2.1/\0<=e.1/\e.1<=1000000000
noncomputable def dN(K:Ar):Ba:=λW H Q _=>L5 (λ(a c:AI)(J F:List Int)=>W=[.ref a,.ref c]) (λa _ J _=>Bg K H a (J.map AH.int)) (λ_ _ J _=>J.length<=63) (λ_ c _ F=>Bg K H c (F.map AH.int)) (λ_ _ _ F=>F.length<=10) (λ_ _ _ F=>∀l U D,Ak H U->H l=AD->JG U l D->D.length=F.length->(∀e∈D,Jx e)->Q (.ref l) U)
theorem aB:∀c∈("lkjihgfedxyz":AJ).cps.toList,IT (.str ⟨#[c]⟩)=AF:=by decide+kernel
noncomputable abbrev Pq:List AJ:=["end","item","piece","clock","late","sum","take","hand","of","each","gap","turn"]
theorem aD:∀z∈Pq,Iy z=AF:=by decide+kernel
theorem aW{K:Ar}{ad:Kk}(T:B0 K mg ad):BW P w K mg base Bs 3 ad.ff ad.fj ["_law_script","_law_cells"] (dN K):=by
  have G_u_law_at:=gF.mk (Nn (P:=P) (w:=w) (base:=base) T) T.jx T.dy.kp T.ji;have G_u_law_called:=gF.mk (L9 (P:=P) (w:=w) (base:=base) T) T.bp T.bc.kp T.bo;have G_u_law_kind:=gF.mk (QJ (P:=P) (w:=w) (base:=base) T) T.jy T.du.kp T.jj;refine T.kj.ok VJ (λvs H Q E h=>?_) (λcdv A outer s H vs Q E hr h=>?_)
  . refine AB λnG=>?_;obtain⟨a,c,ns,cs,rfl,_⟩:=h;refine nG ?_;try clear nG
    rfl
  . refine AB λnG=>?_;obtain⟨a,c,ns,cs,rfl,hS,hl,hC,hlc,k⟩:=h;refine nG ?_;try clear nG
    have nd:=VJ.nd;refine⟨_,(Aq (Ax 2 nd (A9 G_u_law_at hr (AG (AE 0) (AG AM AQ)))) (Aq (Ax 3 nd (Ci K (CJ (AG AM (AG AM (AG AM (AG AM (AG AM (AG AM AQ))))))) (AS BY (AE 2) AM))) (Aq (Ax 4 nd (CJ AQ)) (Aq (Dp Dr rfl (KL (K:=K) (by rfl) T.bu (AE 1)) (GX rfl (DC (Cr 5 nd) (DC (Cr 6 nd) GY))) (Aq (Ax 7 nd (AS BY (AS D1 (AS CC (AE 6) (AS D1 AM (AE 5))) AM) AM)) (Aq (Ax 8 nd (AS CC (AS D1 (Ci K (CJ (AG (AS BY (AE 6) AM) (AG (AS CC (AS D1 AM (AE 5)) (AS BY (AE 6) AM)) AQ))) (AS BY (AS CD (AE 2) AM) AM)) (AE 3)) (AS BY (AE 7) (AE 3)))) (Aq (Ax 8 nd (CN (K8 rfl) (by rfl) T.qr KU (AG AM (AG (AE 8) AQ)))) (Aq (Ax 9 nd (A9 G_u_law_kind hr (AG (A9 G_u_law_at hr (AG (AE 0) (AG AM AQ))) (AG (AS BY (AS CD (AE 7) AM) AM) AQ)))) (Aq (Ax 10 nd (AS BY (AS CD (AE 7) AM) (Ci K (CJ (AG AM (AG AM (AG AM (AG AM AQ))))) (AS BY (AS CD (AE 2) AM) AM)))) (Aq (Ax 11 nd (A9 G_u_law_called hr (AG (AS CD (AE 2) AM) (AG (AE 10) (AG (HS KI A6 (AE 10) (λ_ _=>rfl)) AQ))))) (Aq (GZ (Bc (BK Ca (AS BY (AE 2) AM) AM (BL _)) (Ac (Ax 11 nd (Ci K (CJ (AG A6 (AG A6 (AG A6 (AG A6 (AG A6 (AG A6 (AG A6 (AG A6 (AG A6 (AG A6 (AG A6 (AG A6 AQ))))))))))))) (AE 10)))) Bt)) (Aq (Ax 12 nd (AS E3 (AS BY (AS CD (AE 7) AM) AM) AM)) (Aq (GZ (Bc (BK Ca (AS BY (AS CD (AE 7) AM) AM) AM (BL _)) (Ac (Ax 12 nd (AS E3 (AS BY (AE 7) AM) AM))) Bt)) (Ac (E4 (D4 (Ed K (AE 4) (AG (CL (AG (AE 8) (AG (AE 9) (AG (AE 11) (AG (AE 12) AQ))))) AQ))))))))))))))) (Ac (BA (AE 4))))))),?_⟩;have sz:An=16777216:=Dg;refineλ_ _ _ _ z1=>⟨a,ns,_,rfl,hS,hl,by decide,λb=>z1 _ _ ?_⟩;refineλ_ _ _ _ z2=>⟨BF rfl,λq hq=>?_⟩;refine As (o:=.lst [.int 1,.int 1,.int 1,.int 7,.int 1000,.int 25000000]) hq λH1 s1 eq=>?_;refine AB λnG=>?_;obtain⟨v,hv,mv⟩:=FN [AH.int 1,AH.int 1,AH.int 1,AH.int 7,AH.int 1000,AH.int 25000000] 6 rfl (by decide) b;obtain⟨sc,rfl,sc0,sc1⟩:∃m:Int,v=.int m/\0<m/\m<=25000000:=by simp only[B7,EH,ABt]at mv;rcases mv with rfl|rfl|rfl|rfl|rfl|rfl<;>exact⟨_,rfl,by decide,by decide⟩
    refine nG ?_;try clear nG
    refine⟨(by decide:(0:Int)<6),_,_,AV eq,hv,z2 _ _ ?_⟩;refineλ_ _ _ _ z3=>⟨Bd _,λil hil=>z3 _ _ ?_⟩;have hil0:H il=AD:=s1.ar hil;refine As (o:=.lst []) hil λH2 s2 eil=>?_;have s12:=s1.aa s2;refineλ_ _ _ _ z4=>⟨c,rfl,⟨_,s12.aar hC⟩,MW (K:=K) (xs:=cs.map AH.int) (λn σ H'=>Ts (λ(o5 o6 o7 o8 o9 o10 o11 o12:Option AH)(xs:List AH)(evs:List CA)=>σ=[AA (.ref a),AA (.ref c),AA (.int b),AA (.int sc),AA (.ref il),o5,o6,o7,o8,o9,o10,o11,o12]) (λ_ _ _ _ _ _ _ _ _ _=>Ak H H') (λ_ _ _ _ _ _ _ _ xs _=>H' il=AA (.lst xs)) (λ_ _ _ _ _ _ _ _ xs evs=>Bv H' xs (evs.map Ey)) (λ_ _ _ _ _ _ _ _ _ evs=>evs.length=n) (λ_ _ _ _ _ _ _ _ _ evs=>∀e∈evs,Jx e)) ⟨AD,AD,AD,AD,AD,AD,AD,AD,[],[],rfl,s12,eil,Fq _,rfl,λe h=>by cases h⟩ (λn σ H' _ hh=>by obtain⟨_,_,_,_,_,_,_,_,_,_,_,s',_⟩:=hh;exact s'.aar hC) ?_ ?_⟩
    . intro n x σ H3 pp hx hI hpp;refine AB λnG=>?_;obtain⟨o5,o6,o7,o8,o9,o10,o11,o12,xs,evs,rfl,s3,e3,w3,l3,ok3⟩:=hI;rw[BV]at hx;obtain⟨cl,hcl,rfl⟩:=Co.mp hx;refine nG ?_;try clear nG
      have hn:=(Bh.mp hcl).1;refine As hpp λH4 t1 epp=>?_;refine⟨pp,_,rfl,Ao epp,rfl,_,_,rfl,_,_,rfl,rfl,?_⟩;refineλ_ _ _ _ z5=>⟨.inl ⟨by decide,by decide⟩,.inr ⟨by decide,by decide⟩,(by decide:(0:Int)<2147483647),z5 [AA (.ref a),AA (.ref c),AA (.int b),AA (.int sc),AA (.ref il),AA (.int (n:Int)),AA (.int cl),AA (.int ((cl+7919*(n:Int))*48271%2147483647)),o8,o9,o10,o11,o12] _ ?_⟩;have mx0:0<=(cl+7919*(n:Int))*48271%2147483647:=DR _ (by decide);generalize(cl+7919*(n:Int))*48271%2147483647=mx at mx0⊢;have m3:0<=cl%10/\cl%10<10:=⟨DR _ (by decide),EM _ (by decide)⟩;have m4:0<=cl%40:=DR _ (by decide);refineλ_ _ _ _ z6=>⟨(by decide:(0:Int)<40),.inl ⟨by decide,by decide⟩,(by decide:(0:Int)<10),BF rfl,λq2 hq2=>?_⟩;refine As (o:=.lst [.int (cl%40),.int (3*(n:Int)+cl%10)]) hq2 λH5 t2 eq2=>?_;refine AB λnG=>?_;obtain⟨v2,hv2,mv2⟩:=FN [AH.int (cl%40),AH.int (3*(n:Int)+cl%10)] 2 rfl (by decide) (b/24);obtain⟨tb,rfl,htb⟩:∃m:Int,v2=.int m/\0<=m:=by
        simp only[B7,EH,ABt]at mv2;rcases mv2 with rfl|rfl;.exact⟨_,rfl,m4⟩
        .exact⟨_,rfl,by(first|lia|omega)⟩
      refine nG ?_;try clear nG
      have tm0:0<=tb*sc+mx%sc:=Int.add_nonneg (Ti htb (by(first|lia|omega))) (DR _ (by(first|lia|omega)));refine⟨⟨by decide,by decide⟩,(by decide:(0:Int)<2),_,_,AV eq2,hv2,.inr ⟨by(first|lia|omega),by(first|lia|omega)⟩,sc0,z6 _ _ ?_⟩;refineλ_ _ _ _ z7=>z7 [AA (.ref a),AA (.ref c),AA (.int b),AA (.int sc),AA (.ref il),AA (.int (n:Int)),AA (.int cl),AA (.int mx),AA (.int (if tb*sc+mx%sc<1000000000 then tb*sc+mx%sc else 1000000000)),o9,o10,o11,o12] _ ?_;have tmo:0<=(if tb*sc+mx%sc<1000000000 then tb*sc+mx%sc else 1000000000)/\(if tb*sc+mx%sc<1000000000 then tb*sc+mx%sc else 1000000000)<=1000000000:=by split<;>(first|lia|omega)
      generalize(if tb*sc+mx%sc<1000000000 then tb*sc+mx%sc else 1000000000)=tm at tmo⊢;have t12:=t1.aa t2;refineλ_ _ _ _ z8=>⟨a,ns,_,rfl,(s3.aa t12).aar hS,hl,by decide,λc2=>⟨⟨by decide,by decide⟩,(by decide:(0:Int)<3),_,_,rfl,DR _ (by decide),EM _ (by decide),λkd H6 s6 okd=>z8 _ _ ?_⟩⟩;have t15:=t12.aa s6;refine AB λnG=>?_;obtain⟨v4,hv4,mv4⟩:=FN [AH.int 3,AH.int 3,AH.int 3,AH.int 12] 4 rfl (by decide) (b/6);obtain⟨wd,rfl,hwd⟩:∃m:Int,v4=.int m/\(m=3\/m=12):=by simp only[B7,EH,ABt]at mv4;rcases mv4 with rfl|rfl|rfl|rfl<;>exact⟨_,rfl,by decide⟩
      refine nG ?_;try clear nG
      refineλ_ _ _ _ z9=>⟨⟨by decide,by decide⟩,BF rfl,λq4 hq4=>?_⟩;refine As (o:=.lst [.int 3,.int 3,.int 3,.int 12]) hq4 λH7 t6 eq4=>?_;refine⟨⟨by decide,by decide⟩,(by decide:(0:Int)<4),_,_,AV eq4,hv4,(by show(0:Int)<wd;(first|lia|omega)),z9 [AA (.ref a),AA (.ref c),AA (.int b),AA (.int sc),AA (.ref il),AA (.int (n:Int)),AA (.int cl),AA (.int mx),AA (.int tm),AA (.str kd),AA (.int (mx/120%wd)),o11,o12] _ ?_⟩;have hat:0<=mx/120%wd/\mx/120%wd<12:=⟨DR _ (by(first|lia|omega)),Int.lt_of_lt_of_le (EM _ (by(first|lia|omega))) (by(first|lia|omega))⟩;generalize mx/120%wd=ah at hat⊢;refine AB λnG=>?_;obtain⟨ch,hch,hcm⟩:=FN ("lkjihgfedxyz":AJ).cps.toList 12 (by decide+kernel) (by decide) ah;refine nG ?_;try clear nG
      rw[Te hat.1 hat.2]at hch;have al:Dw ⟨#[ch]⟩:=λc hc=>by
        have e:c=ch:=by simpa using hc
        rw[e];exact aB ch hcm
      refineλ_ _ _ _ z10=>⟨⟨by decide,by decide⟩,_,_,_,rfl,rfl,by decide+kernel,hch,_,_,_,rfl,al,(by show 1<=1;decide),(by show 1<=2;decide),λnv H8 t7=>z10 [AA (.ref a),AA (.ref c),AA (.int b),AA (.int sc),AA (.ref il),AA (.int (n:Int)),AA (.int cl),AA (.int mx),AA (.int tm),AA (.str kd),AA (.int ah),AA (.str (C9 (b/6) ah ⟨#[ch]⟩)),o12] _ ?_⟩;have t17:=t15.aa (t6.aa t7);have okc:=Hl nv;generalize C9 (b/6) ah ⟨#[ch]⟩=kc at okc⊢;refineλ_ _ _ _ z11=>GS (λσ' H'=>∃key:AJ,CW key/\Ak H3 H'/\σ'=[AA (.ref a),AA (.ref c),AA (.int b),AA (.int sc),AA (.ref il),AA (.int (n:Int)),AA (.int cl),AA (.int mx),AA (.int tm),AA (.str kd),AA (.int ah),AA (.str key),o12]) ?_ ?_
      . refine⟨(by decide:(0:Int)<11),rfl,_,rfl,Fo (λ_=>?_) λ_=>⟨_,okc,t17,rfl⟩⟩;refine⟨BF rfl,λq5 hq5=>?_⟩;refine As (o:=.lst (Pq.map AH.str)) hq5 λH9 t8 eq5=>?_;refine AB λnG=>?_;obtain⟨v5,hv5,mv5⟩:=FN (Pq.map AH.str) 12 rfl (by decide) ah;rw[Te hat.1 hat.2]at hv5;obtain⟨kw,hkw,rfl⟩:=BH.mp mv5;refine nG ?_;try clear nG
        exact⟨_,_,AV eq5,hv5,kw,aD kw hkw,t17.aa t8,rfl⟩
      intro σ' H9 hI;refine AB λnG=>?_;obtain⟨key,okk,t18,rfl⟩:=hI;refine nG ?_;try clear nG
      refine z11 _ _ ?_;refineλ_ _ _ _ z13=>⟨⟨by decide,by decide⟩,(by decide:(0:Int)<21),z13 _ _ ?_⟩;refineλ_ _ _ _ z14=>GS (λσ' H'=>∃am:Int,H'=H9/\σ'=[AA (.ref a),AA (.ref c),AA (.int b),AA (.int sc),AA (.ref il),AA (.int (n:Int)),AA (.int cl),AA (.int mx),AA (.int tm),AA (.str kd),AA (.int ah),AA (.str key),AA (.int am)]) ?_ ?_
      . refine⟨⟨by decide,by decide⟩,(by decide:(0:Int)<16),rfl,_,rfl,Fo (λ_=>?_) λ_=>⟨_,rfl,rfl⟩⟩;exact⟨(by decide:(0:Int)<2000000001),_,rfl,rfl⟩
      intro σ' H10 hI;refine AB λnG=>?_;obtain⟨am,rfl,rfl⟩:=hI;refine nG ?_;try clear nG
      refine z14 _ _ ?_;have lx:=w3.bj;rw[Am]at lx;refineλ_ _ _ _ z16=>⟨.inl ⟨rfl,_,AV (t18 _ _ e3)⟩,BF rfl,λev hev=>?_⟩;refine As (o:=.tup [.int tm,.str kd,.str key,.int am]) hev λH11 t9 eev=>?_;have t19:=t18.aa t9;refine⟨il,_,_,rfl,rfl,t19 _ _ e3,by(first|lia|omega),?_⟩;have tp:CM H11 (AW H11 il (.lst (xs++[.ref ev]))):=(ER H11).cb (t19 _ _ e3) λys=>by intro q;cases q
      refine z16 _ _ ⟨_,_,_,_,_,_,_,_,xs++[.ref ev],evs++[(tm,kd,key,am)],rfl,(s3.aa t19).dw hil0,Az,(by rw[Bx];exact((w3.ae t19.tp).ft (ks:=Ey (tm,kd,key,am)) eev).ae tp),(by rw[CY,l3];rfl),λe he=>?_⟩;rcases CT.mp he with h|h;.exact ok3 e h
      .rw[Bl.mp h];exact⟨okd,okk,tmo⟩
    . intro σ H3 hI;refine AB λnG=>?_;obtain⟨o5,o6,o7,o8,o9,o10,o11,o12,xs,evs,rfl,s3,e3,w3,l3,ok3⟩:=hI;refine nG ?_;try clear nG
      rw[Am]at l3;exact z4 _ _ (k il _ evs s3 hil0 ⟨xs,e3,w3⟩ l3 ok3)
inductive Hj where|non|bl|int|str|lst|tup|dct
noncomputable def Qx:Hj->String|.non=>"NoneType"|.bl=>"bool"|.int=>"int"|.str=>"str"|.lst=>"list"|.tup=>"tuple"|.dct=>"dict"
inductive FD(H:AN):AH->Hj->Prop where|non:FD H .non .non|bl(b:Bool):FD H (.bl b) .bl|int(i:Int):FD H (.int i) .int|str(z:AJ)(hz:z.length<=1000):FD H (.str z) .str|lst{a:AI}{xs:List AH}(e:H a=AA (.lst xs)):FD H (.ref a) .lst|tup{a:AI}{xs:List AH}(e:H a=AA (.tup xs)):FD H (.ref a) .tup|dct{a:AI}{kvs:List (AR×AH)}(e:H a=AA (.dK kvs)):FD H (.ref a) .dct
theorem FD.ty{K:Ar}(h:FD H x g):F1 K H x (.type (Qx g)):=by cases h with|non=>exact .non|bl b=>exact .bl b|int i=>exact .int i|str z _=>exact .str z|lst e=>exact .lst e|tup e=>exact .tup e|dct e=>exact .dK e
theorem FD.uo(h:FD H x g)(s:Ak H D):FD D x g:=by cases h with|non=>exact .non|bl b=>exact .bl b|int i=>exact .int i|str z F=>exact .str z F|lst e=>exact .lst (s _ _ e)|tup e=>exact .tup (s _ _ e)|dct e=>exact .dct (s _ _ e)
noncomputable def fJ:Hj->Bool|.int=>AF|.bl=>AF|_=>AO
noncomputable def fI:Hj->Bool|.bl=>AF|_=>AO
theorem aC(K:Ar)(g:Hj):Jq K (.type (Qx g)) (.type "int")=AA (fJ g):=by cases g<;>rfl
theorem UR(K:Ar)(g:Hj):Jq K (.type (Qx g)) (.type "bool")=AA (fI g):=by cases g<;>rfl
noncomputable def fX:AH->Bool|.int _=>AF|_=>AO
noncomputable def Ko(a b:Int):AH->Bool|.int i=>AZ (a<=i)&&AZ (i<=b)|_=>AO
noncomputable abbrev El(s n k:Int):List (AJ×AH):=[("slack",.int s),("now",.int n),("count",.int k)]
noncomputable def c9(f:AH->Bool):Ba:=λD H Q _=>∃x g,D=[x]/\FD H x g/\Q (.bl (f x)) H
noncomputable def dA:Ba:=λD H Q _=>∃x g a b,D=[x,.int a,.int b]/\FD H x g/\Q (.bl (Ko a b x)) H
noncomputable def dQ(D:Kk):Ba:=λJ H Q E=>∃x F v g,J=[.ref x,v]/\H x=AA (.ins D.au F [])/\FD H v g/\((∃s:Int,v=.int s/\0<=s/\s<=1000000000/\Q .non (AW H x (.ins D.au F (El s 0 0))))\/(Ko 0 1000000000 v=AO/\E (.ref D.ay) AD H))
noncomputable def dB(F:Kk):Ba:=λJ H Q _=>T5 (λ(x D:AI)(t s n k:Int)=>J=[.ref x,.int t]) (λx D _ s n k=>H x=AA (.ins F.au D (El s n k))) (λx D t s n k=>Q (.bl (AZ (n<=t))) (AW H x (.ins F.au D (El s (if t<n then n else if t-s>n then t-s else n) (k+1)))))
theorem bC{K:Ar}{J:Kk}(T:B0 K W J):BW P w K W base Bs 1 J.om J.oy ["thing"] (c9 fX):=by
  refine T.ur.ok Uy (λY H Q E h=>?_) (λV A F s H Y Q E Z h=>?_)
  . refine AB λD=>?_;obtain⟨x,g,rfl,_⟩:=h;refine D ?_;try clear D
    rfl
  . refine AB λD=>?_;obtain⟨x,g,rfl,U,k⟩:=h;refine D ?_;try clear D
    have q:=Uy.nd;refine⟨_,(Ac (BA (Ru (CN (HK (K:=K)) (by rfl) T.ax Iq (AG (Av 0) (AG (HR (v:=.ty "int") (by rfl) T.acx qE rfl) AQ))) (Rx (XB (CN (HK (K:=K)) (by rfl) T.ax Iq (AG (Av 0) (AG (HR (v:=.ty "bool") (by rfl) T.acw xE rfl) AQ)))))))),?_⟩;refine⟨_,rfl,x,"int",_,_,rfl,U.ty,aC _ g,_,rfl,?_⟩;cases U with|int i=>exact HN ⟨_,rfl,_,"bool",_,_,rfl,(FD.int (H:=H) i).ty,UR _ .int,_,rfl,k⟩|bl b=>exact HN ⟨_,rfl,_,"bool",_,_,rfl,(FD.bl (H:=H) b).ty,UR _ .bl,_,rfl,k⟩|_=>exact C4 k
theorem bA{K:Ar}{U:Kk}(T:B0 K Z U):BW P w K Z base Bs 2 U.oj U.ox ["thing","least","most"] dA:=by
  have D:=bC (P:=P) (w:=w) (base:=base) T;refine T.uq.ok Uw (λq H Q E h=>?_) (λW A J s H q Q E Y h=>?_)
  . refine AB λF=>?_;obtain⟨x,g,a,b,rfl,_⟩:=h;refine F ?_;try clear F
    rfl
  . refine AB λF=>?_;obtain⟨x,g,a,b,rfl,V,k⟩:=h;refine F ?_;try clear F
    have B:=Uw.nd;refine⟨_,(Ac (BA (Ru (KJ D (Y.uo (by decide)) (by rfl) T.aan T.ur.kp T.aah .nil LL (AG (Av 0) AQ)) (Rx (kS Ro Ro (Av 1) (Av 0) (Av 2)))))),?_⟩;refine⟨_,rfl,x,g,rfl,V,_,rfl,?_⟩;cases V with
    |int i=>
      refine HN ⟨_,rfl,_,rfl,_,_,rfl,rfl,_,rfl,?_⟩;have k:Q (.bl (AZ (a<=i)&&AZ (i<=b))) H:=k;refine Er (λe=>?_) λe=>?_;. rw[e,NW]at k;exact⟨_,rfl,_,_,rfl,rfl,k⟩
      . rw[e,Lv]at k;exact k|_=>exact C4 k
theorem aZ{K:Ar}{V:Kk}(T:B0 K I V):BW P w K I base (Fg P w) 3 V.bw V.da ["self","slack"] (dQ V):=by
  have J:=bA (P:=P) (w:=w) (base:=base) T;refine T.qw.ahe Um (λL H Q E h=>?_) (λZ A Y s H L Q E B h=>?_)
  . refine AB λU=>?_;obtain⟨x,W,v,g,rfl,_⟩:=h;refine U ?_;try clear U
    rfl
  . refine AB λU=>?_;obtain⟨x,W,v,g,rfl,e,C,k⟩:=h;obtain⟨F,D⟩:=T.yk;refine U ?_;try clear U
    have O:=Um.nd;refine⟨_,(CG (Bc (G5 (Ga (KJ J (B.uo (by decide)) (by rfl) T.aam T.uq.kp T.aag .nil LL (AG (Av 1) (AG AM (AG (Mi (v:=.int 1000000000) (by rfl) D ⟨F,rfl⟩) AQ)))))) (Ac (lL T.aau (Mi (v:=.ref V.ay) (by rfl) T.ug rfl) A6)) Bt) (CG (Mm (Av 0) (Av 1) rfl) (CG (Mm (Av 0) AM rfl) (Ac (Mm (Av 0) AM rfl))))),?_⟩;refine⟨_,rfl,v,g,_,_,rfl,C,_,rfl,?_⟩;rcases k with⟨z,rfl,M,N,k⟩|⟨G,k⟩
    . have q:Ko 0 1000000000 (.int z)=AF:=by show(AZ ((0:Int)<=z)&&AZ (z<=1000000000))=AF;rw[ABq M,ABq N];rfl
      rw[q];refine C4 ?_;refine⟨_,rfl,_,rfl,x,_,W,_,rfl,e,T.cm,T.oi,by decide,?_⟩;refine⟨_,rfl,x,_,W,_,rfl,Az,T.cm,T.gf,by show 1<1000;decide,?_⟩;refine⟨_,rfl,x,_,W,_,rfl,Az,T.cm,T.ik,by show 2<1000;decide,?_⟩;rw[O0,O0];exact k
    . rw[G];exact HN k
theorem aS{K:Ar}{J:Kk}(T:B0 K W J):BW P w K W base Bs 1 J.gh J.gu ["self","time"] (dB J):=by
  refine T.vw.ok Uo (λY H Q E h=>?_) (λV A U s H Y Q E Z h=>?_)
  . refine AB λF=>?_;obtain⟨x,D,t,z,n,k,rfl,_⟩:=h;refine F ?_;try clear F
    rfl
  . refine AB λF=>?_;obtain⟨x,D,t,z,n,c,rfl,e,k⟩:=h;refine F ?_;try clear F
    have B:=Uo.nd;refine⟨_,(CG (Mm (Av 0) (AS JX (Om (Av 0) rfl) AM) rfl) (CG (Bc (BK Rp (Av 1) (Om (Av 0) rfl) (BL _)) (Ac (BA FP)) Bt) (CG (Mm (Av 0) (CN (RF rfl) (by rfl) T.ui Lc (AG (Om (Av 0) rfl) (AG (AS Mg (Av 1) (Om (Av 0) rfl)) AQ))) rfl) (Ac (BA FP))))),?_⟩;refine⟨_,rfl,x,_,D,_,_,rfl,e,T.cm,T.ik,rfl,_,_,rfl,rfl,_,rfl,x,_,D,_,rfl,e,T.cm,T.ik,by show 3<1000;decide,?_⟩;refine⟨_,rfl,_,rfl,x,_,D,El z n (c+1),_,rfl,Az,T.cm,T.gf,rfl,_,_,rfl,rfl,_,rfl,Er (λq=>?_) λq=>?_⟩
    . have q:t<n:=ABs q;rw[ABo q,ABr (by(first|lia|omega))]at k;exact k
    . have q:¬t<n:=ABv q;rw[ABn q,ABq (by(first|lia|omega))]at k;refine⟨_,rfl,x,_,D,El z n (c+1),_,rfl,Az,T.cm,T.gf,rfl,_,rfl,_,rfl,x,_,D,El z n (c+1),_,rfl,Az,T.cm,T.oi,rfl,_,_,rfl,rfl,_,_,rfl,?_⟩;refine⟨_,rfl,x,_,D,El z n (c+1),rfl,Az,T.cm,T.gf,by show 3<1000;decide,?_⟩;rw[O0];exact k
noncomputable def Nm(s n t:Int):Int:=if t<n then n else if t-s>n then t-s else n
noncomputable def DN(s:Int)(D:List Int):Int:=D.foldl (Nm s) 0
noncomputable def FH(s:Int)(D:List Int)(j:Nat):Bool:=AZ (D.getD j 0<DN s (D.take j))
noncomputable def FG(s:Int)(D:List Int)(n:Nat):List Int:=((DY n).filter (FH s D)).map λj:Nat=>(j:Int)
noncomputable def FE(s:Int)(D:List Int)(xs:List α)(n:Nat):List α:=((DY n).filter λj=>!FH s D j).filterMap λj=>xs[j]?
theorem US(s:Int)(D:List Int)(n:Nat):FG s D (n+1)=FG s D n++(if FH s D n=AF then[(n:Int)]else[]):=by
 unfold FG;rw[pU,Mu,Bx];by_cases h:FH s D n=AF
 . rw[ABo h,vY h];rfl
 . rw[ABn h,vX h];rfl
theorem Nj(s:Int)(D:List Int)(xs:List α)(e:xs[n]?=AA x):FE s D xs (n+1)=FE s D xs n++(if FH s D n=AF then[]else[x]):=by
 unfold FE;rw[pU,Mu,List.filterMap_append];by_cases h:FH s D n=AF
 . rw[ABo h,vX (by rw[h];decide)];rfl
 . rw[ABn h,vY (by rw[vD]at h;rw[h];rfl)];simp[e]
theorem QG(s:Int)(D:List Int)(n:Nat):(FG s D n).length<=n:=by unfold FG;rw[Am];exact DE (Gd _ _) (by rw[My];exact Af _)
theorem UP(s:Int)(D:List Int)(xs:List α)(n:Nat):(FE s D xs n).length<=n:=by unfold FE;exact DE (List.length_filterMap_le _ _) (DE (Gd _ _) (by rw[My];exact Af _))
theorem Uc(s:Int)(D:List Int)(t:Int):DN s (D++[t])=Nm s (DN s D) t:=by unfold DN;rw[List.foldl_append];rfl
noncomputable def BX(evs:List CA):List Int:=evs.map (·.1)
noncomputable def d9(Z:Kk):Ba:=λq H Q E=>J2 (λ(v:AH)(g:Hj)(Y:AI)(J:List AH)(D:List CA)=>q=[v,.ref Y]) (λv g _ _ _=>FD H v g) (λ_ _ Y J _=>H Y=AA (.lst J)) (λ_ _ _ J D=>Bv H J (D.map Ey)) (λ_ _ _ _ D=>D.length<=10) (λv _ _ J D=>((∃s:Int,v=.int s/\0<=s/\s<=1000000000/\∀F t U W,Ak H F->H U=AD->H W=AD->U≠W->F t=AA (.tup [.ref U,.ref W])->F U=AA (.lst (FE s (BX D) J D.length))->F W=AA (.lst ((FG s (BX D) D.length).map AH.int))->Q (.ref t) F)\/(Ko 0 1000000000 v=AO/\∀F,Ak H F->E (.ref Z.ay) AD F)))
theorem Ug{K:Ar}{ad:Kk}(T:B0 K mg ad):BW P w K mg base (Fg P w) 5 ad.ri ad.sy ["slack","events"] (d9 ad):=by
  have G_Clock___init__:=aZ (P:=P) (w:=w) (base:=base) T;have G_Clock_admit:=aS (P:=P) (w:=w) (base:=base) T;refine T.mw.ahe U4 (λvs H Q E h=>?_) (λcdv A outer s H vs Q E hr h=>?_)
  . refine AB λnG=>?_;obtain⟨v,g,le,xs,evs,rfl,_⟩:=h;refine nG ?_;try clear nG
    rfl
  . refine AB λnG=>?_;obtain⟨v,g,le,xs,evs,rfl,hv,el,rw0,hl,k⟩:=h;refine nG ?_;try clear nG
    have nd:=U4.nd;refine⟨_,(CG (Ax 2 nd (k7 T.acp G_Clock___init__ (hr.uo (by decide)) (by rfl) T.aco T.rm .nil (kP (E:=E) (λ_ _ _ z=>z)) (AG (AE 0) AQ))) (CG (Ax 3 nd (CJ AQ)) (CG (Ax 4 nd (CJ AQ)) (CG (Dp ABR rfl (KL (K:=K) (by rfl) T.bu (AE 1)) (GX rfl (DC (Cr 5 nd) (DC (Cr 6 nd) GY))) (Ac (Bc (lU (K:=K) (k8 (AE 2) T.cm T.vm G_Clock_admit (hr.uo (by decide)) T.vy .nil LL (AG (Ay K (AE 6) AM) AQ)) (λ_=>rfl)) (Ac (D4 (Ed K (AE 3) (AG (AE 6) AQ)))) (Ac (D4 (Ed K (AE 4) (AG (AE 5) AQ))))))) (Ac (BA (CL (AG (AE 3) (AG (AE 4) AQ))))))))),?_⟩;have sz:An=16777216:=Dg;refineλx dx hx hdx hne=>?_;have s1:Ak H (AW (AW H dx (.own x)) x (.ins ad.au dx [])):=((CS H).dw hdx).dw hx;refine⟨x,dx,v,g,rfl,Az,hv.uo s1,?_⟩;rcases k with⟨z,rfl,z0,z1,k⟩|⟨k0,k⟩
    . refine .inl ⟨z,rfl,z0,z1,rfl,?_⟩;rw[O0];have s2:Ak H (AW (AW H dx (.own x)) x (.ins ad.au dx (El z 0 0))):=((CS H).dw hdx).dw hx;have e2:(AW (AW H dx (.own x)) x (.ins ad.au dx (El z 0 0))) x=AA (.ins ad.au dx (El z 0 0)):=Az;generalize AW (AW H dx (.own x)) x (.ins ad.au dx (El z 0 0))=H2 at s2 e2⊢;refine⟨Bd _,λlk hlk=>?_⟩;have nxk:x≠lk:=B6 e2 hlk;have hlk0:=s2.ar hlk;refine As (o:=.lst []) hlk λH3 s3 elk=>?_;refine⟨Bd _,λll hll=>?_⟩;have nxl:x≠ll:=B6 (s3 _ _ e2) hll;have nkl:lk≠ll:=B6 elk hll;have hll0:=(s2.aa s3).ar hll;refine As (o:=.lst []) hll λH4 s4 ell=>?_;have hxl:=rw0.bj;rw[Am]at hxl;refine⟨le,rfl,⟨_,AV ((s2.aa (s3.aa s4)) _ _ el)⟩,MW (K:=K) (xs:=xs) (λi σ H'=>Hk (λ(o5 o6:Option AH)(c:Int)=>σ=[AA (.int z),AA (.ref le),AA (.ref x),AA (.ref lk),AA (.ref ll),o5,o6]) (λ_ _ _=>Ak H H') (λ_ _ c=>H' x=AA (.ins ad.au dx (El z (DN z ((BX evs).take i)) c))) (λ_ _ _=>H' lk=AA (.lst (FE z (BX evs) xs i))) (λ_ _ _=>H' ll=AA (.lst ((FG z (BX evs) i).map AH.int)))) ⟨AD,AD,0,rfl,s2.aa (s3.aa s4),(s3.aa s4) _ _ e2,s4 _ _ elk,ell⟩ (λi σ H' _ hh=>by obtain⟨_,_,_,_,s',_⟩:=hh;exact AV (s' _ _ el)) ?_ ?_⟩
      . intro i y σ H5 pt hy hI hpt;refine AB λnG=>?_;obtain⟨o5,o6,c,rfl,s5,ex,ek,elt⟩:=hI;obtain⟨a,ks,rfl,eks,ea⟩:=rw0.at hy;rw[BV]at eks;obtain⟨ev,ee,rfl⟩:=Co.mp eks;refine nG ?_;try clear nG
        have hi:i<evs.length:=(Bh.mp ee).1;refine As hpt λH6 s6 ept=>?_;have ex6:=s6 _ _ ex;have et:(BX evs)[i]?=AA ev.1:=by unfold BX;rw[BV,ee];rfl
        have tk:DN z ((BX evs).take (i+1))=Nm z (DN z ((BX evs).take i)) ev.1:=by rw[DD,et];exact Uc ..
        have gd:(BX evs).getD i 0=ev.1:=by rw[Mv,et];rfl
        have lb:FH z (BX evs) i=AZ (ev.1<DN z ((BX evs).take i)):=by unfold FH;rw[gd]
        have ks:=Nj z (BX evs) xs hy;have ls:=US z (BX evs) i;have lk1:=UP z (BX evs) xs i;have ll1:=QG z (BX evs) i;have ea6:H6 a=AA (.tup ((Ey ev).map Al)):=s6 _ _ (s5 _ _ ea);refine⟨pt,_,rfl,Ao ept,rfl,_,_,rfl,_,_,rfl,rfl,x,dx,_,rfl,ex6,rfl,?_⟩;refine⟨_,_,Ao ea6,Ag (j:=0) rfl,x,dx,ev.1,z,_,c,rfl,ex6,?_⟩;have sx:Ak H (AW H6 x (.ins ad.au dx (El z (DN z ((BX evs).take (i+1))) (c+1)))):=((s5.aa s6).dw hx);have ek6:(AW H6 x (.ins ad.au dx (El z (DN z ((BX evs).take (i+1))) (c+1)))) lk=AA (.lst (FE z (BX evs) xs i)):=by rw[BC nxk.symm];exact s6 _ _ ek
        have el6:(AW H6 x (.ins ad.au dx (El z (DN z ((BX evs).take (i+1))) (c+1)))) ll=AA (.lst ((FG z (BX evs) i).map AH.int)):=by rw[BC nxl.symm];exact s6 _ _ elt
        have e7:(AW H6 x (.ins ad.au dx (El z (DN z ((BX evs).take (i+1))) (c+1)))) x=AA (.ins ad.au dx (El z (DN z ((BX evs).take (i+1))) (c+1))):=Az;have tk':(if ev.1<DN z ((BX evs).take i)then DN z ((BX evs).take i)else if ev.1-z>DN z ((BX evs).take i)then ev.1-z else DN z ((BX evs).take i))=DN z ((BX evs).take (i+1)):=tk.symm;rw[tk'];generalize AW H6 x (.ins ad.au dx (El z (DN z ((BX evs).take (i+1))) (c+1)))=H7 at sx ek6 el6 e7⊢;refine⟨_,rfl,?_⟩;by_cases q:ev.1<DN z ((BX evs).take i);. rw[ABr (by(first|lia|omega))];rw[lb,ABq q]at ks ls;exact⟨.inl ⟨rfl,_,AV el6⟩,ll,_,_,rfl,rfl,el6,by rw[Am];(first|lia|omega),_,_,_,rfl,sx.dw hll0,by rw[BC nxl];exact e7,by rw[BC nkl,ks];show _=AA (DV.lst (_++[]));rw[Eg];exact ek6,by rw[Az,ls,Bx];rfl⟩
        . rw[ABq (by(first|lia|omega))];rw[lb,ABr q]at ks ls;exact⟨.inl ⟨rfl,_,AV ek6⟩,lk,_,_,rfl,rfl,ek6,by(first|lia|omega),_,_,_,rfl,sx.dw hlk0,by rw[BC nxk];exact e7,by rw[Az,ks];rfl,by rw[BC nkl.symm,ls];show _=AA (DV.lst ((_++[]).map AH.int));rw[Eg];exact el6⟩
      . intro σ H5 hI;refine AB λnG=>?_;obtain⟨o5,o6,c,rfl,s5,ex,ek,elt⟩:=hI;refine nG ?_;try clear nG
        rw[hxl]at ek elt;exact⟨BF rfl,λt ht=>k _ t lk ll (s5.cb ht) hlk0 hll0 nkl Az ((Cz ht) _ _ ek) ((Cz ht) _ _ elt)⟩
    .exact .inr ⟨k0,k _ s1⟩
noncomputable def dX:Ba:=λW H Q _=>L4 (λ(s:Int)(U:AI)(F:List AH)(D:List CA)=>W=[.int s,.ref U]) (λ_ U F _=>H U=AA (.lst F)) (λ_ _ F D=>Bv H F (D.map Ey)) (λ_ _ _ D=>D.length<=10) (λs _ _ D=>∀J l,Ak H J->H l=AD->J l=AA (.lst ((FG s (BX D) D.length).map AH.int))->Q (.ref l) J)
theorem bF{K:Ar}{ad:Kk}(T:B0 K mg ad):BW P w K mg base Bs 1 ad.jd ad.jq ["_law_slack_here","_law_events_here"] dX:=by
  refine T.qg.ok VN (λvs H Q E h=>?_) (λcdv A outer s H vs Q E hr h=>?_)
  . refine AB λnG=>?_;obtain⟨z,le,xs,evs,rfl,_⟩:=h;refine nG ?_;try clear nG
    rfl
  . refine AB λnG=>?_;obtain⟨z,le,xs,evs,rfl,el,rw0,hl,k⟩:=h;refine nG ?_;try clear nG
    have nd:=VN.nd;refine⟨_,(CG (Ax 2 nd (CJ AQ)) (CG (Ax 3 nd AM) (CG (Dp Dr rfl (KL (K:=K) (by rfl) T.bu (AE 1)) (GX rfl (DC (Cr 4 nd) (DC (Cr 5 nd) GY))) (Ac (Bc (BK Ik (Ay K (AE 5) AM) (AE 3) (BL _)) (Ac (D4 (Ed K (AE 2) (AG (AE 4) AQ)))) (Ac (Ax 3 nd (CN (OS rfl) (by rfl) T.ui Lc (AG (AE 3) (AG (AS E3 (Ay K (AE 5) AM) (AE 0)) AQ)))))))) (Ac (BA (AE 2)))))),?_⟩;have sz:An=16777216:=Dg;refine⟨Bd _,λl hl0=>?_⟩;refine As (o:=.lst []) hl0 λH1 s1 e1=>?_;have hxl:=rw0.bj;rw[Am]at hxl;refine⟨le,rfl,⟨_,AV (s1 _ _ el)⟩,MW (K:=K) (xs:=xs) (λi σ H'=>J1 (λ(o4 o5:Option AH)=>σ=[AA (.int z),AA (.ref le),AA (.ref l),AA (.int (DN z ((BX evs).take i))),o4,o5]) (λ_ _=>Ak H H') (λ_ _=>H' l=AA (.lst ((FG z (BX evs) i).map AH.int)))) ⟨AD,AD,rfl,s1,e1⟩ (λi σ H' _ hh=>by obtain⟨_,_,_,s',_⟩:=hh;exact AV (s' _ _ el)) ?_ ?_⟩
    . intro i y σ H5 pt hy hI hpt;refine AB λnG=>?_;obtain⟨o4,o5,rfl,s5,elt⟩:=hI;obtain⟨a,ks,rfl,eks,ea⟩:=rw0.at hy;rw[BV]at eks;obtain⟨ev,ee,rfl⟩:=Co.mp eks;refine nG ?_;try clear nG
      have hi:i<evs.length:=(Bh.mp ee).1;refine As hpt λH6 s6 ept=>?_;have et:(BX evs)[i]?=AA ev.1:=by unfold BX;rw[BV,ee];rfl
      have tk:DN z ((BX evs).take (i+1))=Nm z (DN z ((BX evs).take i)) ev.1:=by rw[DD,et];exact Uc ..
      have gd:(BX evs).getD i 0=ev.1:=by rw[Mv,et];rfl
      have lb:FH z (BX evs) i=AZ (ev.1<DN z ((BX evs).take i)):=by unfold FH;rw[gd]
      have ls:=US z (BX evs) i;have ll1:=QG z (BX evs) i;have ea6:H6 a=AA (.tup ((Ey ev).map Al)):=s6 _ _ (s5 _ _ ea);have el6:=s6 _ _ elt;refine⟨pt,_,rfl,Ao ept,rfl,_,_,rfl,_,_,rfl,rfl,_,_,Ao ea6,Ag (j:=0) rfl,?_⟩;refine⟨_,rfl,Er (λq=>?_) λq=>?_⟩;. rw[lb,q]at ls;have q:=ABs q;have e3:DN z ((BX evs).take (i+1))=DN z ((BX evs).take i):=tk.trans (ABo q);rw[e3];exact⟨.inl ⟨rfl,_,AV el6⟩,l,_,_,rfl,rfl,el6,by rw[Am];(first|lia|omega),_,_,rfl,(s5.aa s6).dw hl0,by rw[Az,ls,Bx];rfl⟩
      . rw[lb,q]at ls;have q:=ABv q;have e3:DN z ((BX evs).take (i+1))=if DN z ((BX evs).take i)<ev.1-z then ev.1-z else DN z ((BX evs).take i):=tk.trans (ABn q);rw[e3];refine⟨_,_,Ao ea6,Ag (j:=0) rfl,_,_,rfl,s5.aa s6,?_⟩;rw[ls];show _=AA (DV.lst ((_++[]).map AH.int));rw[Eg];exact el6
    . intro σ H5 hI;refine AB λnG=>?_;obtain⟨o4,o5,rfl,s5,elt⟩:=hI;refine nG ?_;try clear nG
      rw[hxl]at elt;exact k _ l s5 hl0 elt
noncomputable def eE(K:Ar):Ba:=λJ H Q _=>L3 (λ(a:AI)(D:List Int)=>J=[.ref a]) (λa D=>Bg K H a (D.map AH.int)) (λ_ D=>D.length<=63) (λ_ _=>∀F s,Ak H F->0<=s->s<=1000000000->Q (.int s) F)
theorem bP{K:Ar}{U:Kk}(T:B0 K N U):BW P w K N base Bs 2 U.gn U.gz ["_law_script"] (eE K):=by
  have D:=gF.mk (Nn (P:=P) (w:=w) (base:=base) T) T.jx T.dy.kp T.ji;refine T.oa.ok VR (λR H Q E h=>?_) (λZ A J s H R Q E L h=>?_)
  . refine AB λF=>?_;obtain⟨a,Y,rfl,_⟩:=h;refine F ?_;try clear F
    rfl
  . refine AB λF=>?_;obtain⟨a,Y,rfl,C,G,k⟩:=h;refine F ?_;try clear F
    have O:=VR.nd;refine⟨_,(CG (Ax 1 O (A9 D L (AG (AE 0) (AG AM AQ)))) (Ac (BA (Ci K (CJ (AG (AS BY (AS CD (AE 1) AM) AM) (AG (AS BY (AS CD (AE 1) AM) AM) (AG AM (AG (AS BY (AS CD (AE 1) AM) AM) AQ))))) (AS BY (AE 1) AM))))),?_⟩;refine⟨a,Y,_,rfl,C,G,by decide,λc=>?_⟩;refine⟨⟨by decide,by decide⟩,(by decide:(0:Int)<12),⟨by decide,by decide⟩,(by decide:(0:Int)<60),⟨by decide,by decide⟩,(by decide:(0:Int)<1000000001),BF rfl,λq I=>?_⟩;refine As (o:=.lst [.int (c/4%12),.int (c/4%60),.int 0,.int (c/4%1000000001)]) I λS s1 B=>?_;refine AB λF=>?_;obtain⟨v,M,W⟩:=FN [AH.int (c/4%12),.int (c/4%60),.int 0,.int (c/4%1000000001)] 4 rfl (by decide) c;refine F ?_;try clear F
    refine⟨(by decide:(0:Int)<4),_,_,AV B,M,?_⟩;simp only[B7,EH,ABt]at W;rcases W with rfl|rfl|rfl|rfl;.exact k _ _ s1 (by(first|lia|omega)) (by(first|lia|omega))
    .exact k _ _ s1 (by(first|lia|omega)) (by(first|lia|omega))
    .exact k _ _ s1 (by(first|lia|omega)) (by(first|lia|omega))
    .exact k _ _ s1 (by(first|lia|omega)) (by(first|lia|omega))
noncomputable def Pt(ks:List AR):Prop:=∃(a b:AJ)(x y z:Int),ks=[.inr a,.inr b,.inl x,.inl y,.inl z]/\Iy a=AF/\Iy b=AF
noncomputable def eU:Ba:=λY H Q _=>Kn (λ(r q:AI)(F J:List AH)(D:List (List AR))=>Y=[.ref r,.ref q]) (λr _ F _ _=>H r=AA (.lst F)) (λ_ q _ J _=>H q=AA (.lst J)) (λ_ _ F _ D=>Bv H F D) (λ_ _ _ J D=>Bv H J D) (λ_ _ _ _ D=>(∀W∈D,Pt W)) (λ_ _ _ _ _=>∀U,Ak H U->Q (.bl AF) U)
theorem bY{K:Ar}{ad:Kk}(T:B0 K mg ad):BW P w K mg base Bs 2 ad.jg ad.ju ["_law_found","_law_due"] eU:=by
  have G_u_law_whole:=gF.mk (Uh (P:=P) (w:=w) (base:=base) T) T.oh T.gg.kp T.og;refine T.qj.ok VW (λvs H Q E h=>?_) (λcdv A outer s H vs Q E hr h=>?_)
  . refine AB λnG=>?_;obtain⟨r,q,xs,ys,kss,rfl,_⟩:=h;refine nG ?_;try clear nG
    rfl
  . refine AB λnG=>?_;obtain⟨r,q,xs,ys,kss,rfl,er,eq,wx,wy,hs,k⟩:=h;refine nG ?_;try clear nG
    have nd:=VW.nd;refine⟨_,(CG (Bc (Fj (G6 (G5 (Ga (CN (HK (K:=K)) (by rfl) T.ax Iq (AG (AE 0) (AG (HR (v:=.ty "list") (by rfl) T.ip Jj rfl) AQ))))) (Im (BK (LJ (K:=K) hr.xt) (Av 0) (Av 1) (BL _))))) (Ac (BA FP)) Bt) (CG (Dp Dr rfl (Cm (K:=K) (AE 0)) (Cr 2 nd) (CG (Bc (Fj (G6 (G5 (Ga (CN (HK (K:=K)) (by rfl) T.ax Iq (AG (AE 2) (AG (HR (v:=.ty "tuple") (by rfl) T.yy qF rfl) AQ))))) (G6 (G5 (Ga (CN (HK (K:=K)) (by rfl) T.ax Iq (AG (Ay K (AE 2) AM) (AG (HR (v:=.ty "str") (by rfl) T.aek xF rfl) AQ))))) (Im (G5 (Ga (CN (HK (K:=K)) (by rfl) T.ax Iq (AG (Ay K (AE 2) AM) (AG (HR (v:=.ty "str") (by rfl) T.aek xF rfl) AQ))))))))) (Ac (BA FP)) Bt) (Ac (Bc (BK (LK (K:=K) hr.jz) (Ee (A7 N2) [] trivial (lH (K:=K) (GV (KN (K:=K)) (AE 2) (FQ AM) Hv)) (λ_ _ _ _=>Gb (G5 (Ga (A9 G_u_law_whole hr (AG (AE 0) AQ))))) (λ_ _ _ _=>(AE 0))) (CJ AQ) (BL _)) (Ac (BA FP)) Bt)))) (Ac (BA FP)))),?_⟩;have okk:∀ks∈kss,F4 ks=AF:=λks hk=>by obtain⟨a,b,x,y,z,rfl,h1,h2⟩:=hs ks hk;show(Gz (CP a)&&(Gz (CP b)&&AF))=AF;rw[show Gz (CP a)=AF from h1,show Gz (CP b)=AF from h2];rfl
    refine⟨_,"list",_,AF,rfl,.lst er,rfl,_,rfl,C4 ⟨_,rfl,_,rfl,LH (wx.dv er) (wy.dv eq) (XS okk) ⟨_,rfl,C4 ?_⟩⟩⟩;refine⟨r,rfl,⟨_,AV er⟩,Fm (K:=K) (xs:=xs) (λn σ H'=>∃o,σ=[AA (.ref r),AA (.ref q),o]/\Ak H H') ⟨AD,rfl,CS H⟩ (λn σ H' _⟨_,_,s'⟩=>AV (s' _ _ er)) ?_ ?_⟩
    . intro n y σ H1 hy hI;refine AB λnG=>?_;obtain⟨o,rfl,s1⟩:=hI;obtain⟨b,ks,rfl,ek,eb⟩:=wx.at hy;obtain⟨a1,a2,x1,x2,x3,rfl,_,_⟩:=hs ks (B9 ek);refine nG ?_;try clear nG
      have eb:H1 b=AA (.tup [.str a1,.str a2,.int x1,.int x2,.int x3]):=s1 _ _ eb;refine⟨_,"tuple",_,AF,rfl,.tup eb,rfl,_,rfl,C4 ⟨_,_,Ao eb,Ag (j:=0) rfl,_,"str",_,AF,rfl,.str a1,rfl,_,rfl,C4 ⟨_,_,Ao eb,Ag (j:=1) rfl,_,"str",_,AF,rfl,.str a2,rfl,_,rfl,C4 ?_⟩⟩⟩;refine⟨_,rfl,b,_,rfl,Ao eb,(by show¬(BJ 5 0 (AA 2)=0/\BJ 5 5 AD=5);decide),λp hp=>?_⟩;refine As (o:=.tup [.int x1,.int x2,.int x3]) hp λH2 s2 ep=>?_;refine⟨p,rfl,⟨_,Ao ep⟩,hU (K:=K) (xs:=[.int x1,.int x2,.int x3]) (λ_=>AO) (λx=>x) (Ao ep) (BF rfl) (λx R hx r=>?_) (λx R hx h=>by cases h) λD hD=>?_⟩;. simp only[B7,EH,ABt]at hx;rcases hx with rfl|rfl|rfl<;>exact⟨_,rfl,_,rfl,r⟩
      . refine As (o:=.lst []) hD λH3 s3 eD=>?_;refine⟨Bd _,λD2 hD2=>?_⟩;refine As (o:=.lst []) hD2 λH4 s4 eD2=>?_;exact⟨D,D2,_,rfl,rfl,AV (s4 _ _ eD),AV eD2,_,rfl,C4 ⟨_,rfl,s1.aa (s2.aa (s3.aa s4))⟩⟩
    . intro σ H1 hI;refine AB λnG=>?_;obtain⟨o,rfl,s1⟩:=hI;refine nG ?_;try clear nG
      exact k H1 s1
noncomputable def d7:Ba:=λW H Q _=>Kn (λ(x:AH)(g:Hj)(J:AI)(F:List AH)(D:List CA)=>W=[x,.ref J]) (λx g _ _ _=>FD H x g) (λ_ _ J F _=>H J=AA (.lst F)) (λ_ _ _ F D=>Bv H F (D.map Ey)) (λ_ _ _ _ D=>D.length<=10) (λx _ _ _ _=>Ko 0 1000000000 x=AO) (λ_ _ _ _ _=>∀U,Ak H U->Q (.bl AF) U)
theorem bL{K:Ar}{W:Kk}(T:B0 K N W):BW P w K N base Bs 6 W.cy W.dc ["_law_thing","_law_events_here"] d7:=by
  have D:=Ug (P:=P) (w:=w) (base:=base) T;refine T.iq.ok VO (λO H Q E h=>?_) (λq A U s H O Q E L h=>?_)
  . refine AB λJ=>?_;obtain⟨x,g,Y,Z,F,rfl,_⟩:=h;refine J ?_;try clear J
    rfl
  . refine AB λJ=>?_;obtain⟨x,g,Y,Z,F,rfl,M,B,V,I,C,k⟩:=h;refine J ?_;try clear J
    have S:=VO.nd;refine⟨_,(CG (lQ rfl rfl rfl rfl (lD D (L.uo (by decide)) (by rfl) T.tu T.mw.kp T.ro (AG (AE 0) (AG (AE 1) AQ))) (by rfl) T.ug (λ_=>(Ac (BA FP)))) (Ac (BA FP))),?_⟩;exact⟨x,g,Y,Z,F,rfl,M,B,V,I,.inr ⟨C,λR s1=>⟨T.nj,λe G=>k _ (s1.cb G)⟩⟩⟩
theorem fU(h:Dx a=Dx b):a=b:=by
 unfold Dx at h;refine AB λD=>?_;obtain⟨F,J⟩:=D5 h;obtain⟨U,_⟩:=D5 J;refine D ?_;try clear D
 exact Sh (Gn F) (Gn U)
theorem N9{D:List (Int×Int)}:Dx a∈D.map Dx↔a∈D:=by rw[BH];exact⟨λ⟨x,F,e⟩=>by rw[<-fU e];exact F,λh=>⟨a,h,rfl⟩⟩
theorem Vq{J:List (Int×Int)}:∀q∈J.map Dx,F4 q=AF:=λq F=>by
 refine AB λD=>?_;obtain⟨x,_,rfl⟩:=BH.mp F;refine D ?_;try clear D
 rfl
theorem QI{d x y:Int}(Y:1<=d)(D:x%d=0)(F:y%d=0)(J:y-d<x)(U:x<=y):x=y:=by
 have V:(y-x)%d=0:=by rw[vO,D,F];simp
 have W:=Te (a:=y-x) (b:=d) (by(first|lia|omega)) (by(first|lia|omega));(first|lia|omega)
structure Kl(z d t:Int)(ws0 ws:List (Int×Int))(st:Int)(m:Nat):Prop where
 nd:ws.Nodup
 adp:∀b e,(b,e)∈ws↔(b,e)∈ws0\/(e=b+z/\b%d=0/\st<b/\b<=t/\t-z<b)bj:ws.length+m<=ws0.length+20
 md:st%d=0
 le:st<=t
 agi:st+z-t<=m*d
 ahp:∀b,b%d=0->b<=t->st-d<b->st<=b
theorem Ze{F:List (Int×Int)}(Z:F.Nodup)(J:1<=d)(q:z<=20*d):Kl z d t F F (t/d*d) 20:=by
  have D:=Td t (b:=d) (by(first|lia|omega));have Y:=vK t (b:=d) (by(first|lia|omega));rw[NY,Zc]at Y;refine⟨Z,λb e=>⟨.inl,λh=>h.elim id λ⟨U,V,W,A,B⟩=>?_⟩,Af _,Tf _ _,D,by show _<=(20:Int)*d;(first|lia|omega),λb U V W=>?_⟩;.exact absurd (QI (x:=t/d*d) (y:=b) J (Tf _ _) V (by(first|lia|omega)) (by(first|lia|omega))) (by(first|lia|omega))
  . by_cases c:t/d*d<=b;.exact c
    .exact absurd (QI (x:=b) (y:=t/d*d) J U (Tf _ _) W (by(first|lia|omega))) (by(first|lia|omega))
theorem Kl.ahq{st:Int}(h:Kl z d t D J st m)(c:t<st+z):∃F,m=F+1:=by cases m with|zero=>exact absurd h.agi (by simp;(first|lia|omega))|succ m=>exact⟨m,rfl⟩
theorem Kl.aac{st:Int}(h:Kl z d t U W st (m+1))(H:1<=d)(c:t<st+z)(h':(J=W/\(st,st+z)∈W)\/(J=W++[(st,st+z)]/\(st,st+z)∉W)):Kl z d t U J (st-d) m:=by
  refine AB λG=>?_;obtain⟨E,N,O,s1,s2,s3,s4⟩:=h;refine G ?_;try clear G
  have I:(((m+1:Nat):Int))*d=(m:Int)*d+d:=by rw[vM,NY];simp
  rw[I]at s3;have F:(st-d)%d=0:=by rw[vO,s1,Int.emod_self];simp
  have Z:∀b,b%d=0->b<=t->st-d-d<b->st-d<=b:=λb V Y q=>by
    by_cases c:st-d<=b;.exact c
    .exact absurd (QI (x:=b) (y:=st-d) H V F q (by(first|lia|omega))) (by(first|lia|omega))
  have D:∀b e,((b,e)∈W\/(b,e)=(st,st+z))↔(b,e)∈U\/(e=b+z/\b%d=0/\st-d<b/\b<=t/\t-z<b):=λb e=>by
    rw[N];constructor
    . rintro((h|⟨V,Y,q,A,B⟩)|h);.exact .inl h
      .exact .inr ⟨V,Y,by(first|lia|omega),A,B⟩
      . obtain⟨rfl,rfl⟩:=pZ h;exact .inr ⟨rfl,s1,by(first|lia|omega),s2,by(first|lia|omega)⟩
    . rintro(h|⟨V,Y,q,A,B⟩);.exact .inl (.inl h)
      . by_cases c:st<b;.exact .inl (.inr ⟨V,Y,c,A,B⟩)
        . have:=s4 b Y A q;have K:b=st:=by(first|lia|omega)
          exact .inr (by rw[V,K])
  rcases h' with⟨rfl,C⟩|⟨rfl,C⟩;.exact⟨E,λb e=>⟨λh=>(D b e).mp (.inl h),λh=>((D b e).mpr h).elim id λe=>by rw[e];exact C⟩,by(first|lia|omega),F,by(first|lia|omega),by(first|lia|omega),Z⟩
  . refine⟨O5.mpr ⟨E,by simp,λa L c M=>by rw[Bl.mp M];exactλe=>C (by rw[<-e];exact L)⟩,λb e=>?_,by rw[CY,Hx];(first|lia|omega),F,by(first|lia|omega),by(first|lia|omega),Z⟩;rw[CT,Bl];exact D b e
theorem Z3(h:Hg m V b l)(h':Hg m V b F):l=F:=by
  refine AB λD=>?_;obtain⟨H,W,Y,I,Z,q⟩:=h;obtain⟨K,A,B,L,C,E⟩:=h';refine D ?_;try clear D
  rcases Zb l F with c|c|c
  . refine AB λD=>?_;obtain⟨u,U,J,G⟩:=E l W Y c;refine D ?_;try clear D
    have:=Z u U J;(first|lia|omega)
  .exact c
  . refine AB λD=>?_;obtain⟨u,U,J,G⟩:=q F A B c;refine D ?_;try clear D
    have:=C u U J;(first|lia|omega)
noncomputable def GN(m:Int)(F:List Int)(D:Int):List Int:=F.filter λo=>AZ (D<o)&&AZ (o<=D+m)
noncomputable def IS(m:Int)(D:List Int)(t:Int):List Int:=D.filter λo=>AZ (t-m<=o)&&AZ (o<t)
theorem QB:u∈GN m F D↔u∈F/\D<u/\u<=D+m:=by unfold GN;rw[DX,ZT,ABu,ABu]
theorem UG:u∈IS m D t↔u∈D/\t-m<=u/\u<t:=by unfold IS;rw[DX,ZT,ABu,ABu]
theorem Zk{D:List Int}(h:a<b)(F:b∈D):(D.filter λu=>AZ (b<u)).length<(D.filter λu=>AZ (a<u)).length:=by
 have e:(D.filter λu=>AZ (b<u))=(D.filter λu=>AZ (a<u)).filter λu=>AZ (b<u):=by
  rw[Xs];refine vW λu _=>?_;by_cases c:b<u;.simp[c];(first|lia|omega)
  .simp[c]
 rw[e];exact List.length_filter_lt_length_iff_exists.mpr ⟨b,DX.mpr ⟨F,ABq h⟩,by simp⟩
structure Na(m t:Int)(ts:List Int)(la:Int)(μ:Nat):Prop where
 adp:la∈ts
 le:t<=la
 aha:∀u∈ts,t<=u->u<la->∃u'∈ts,u<u'/\u'<=u+m
 agi:(ts.filter λu=>AZ (la<u)).length<=μ
theorem Na.aac(h:Na m t U J Y)(C:k∈GN m U J)(A:∀y∈GN m U J,k<=y):∃D,D<Y/\Na m t U k D:=by
 refine AB λq=>?_;obtain⟨W,G,I⟩:=QB.mp C;refine q ?_;try clear q
 have B:=Zk G W;have H:=h.agi;refine⟨Y-1,by(first|lia|omega),W,by have:=h.le;(first|lia|omega),λu Z V E=>?_,by(first|lia|omega)⟩;rcases Zb u J with F|F|F;.exact h.aha u Z V F
 .exact⟨k,W,by(first|lia|omega),by(first|lia|omega)⟩
 . have:=A u (QB.mpr ⟨Z,F,by(first|lia|omega)⟩);(first|lia|omega)
theorem Na.ahm(h:Na m t F D Z)(Y:t∈F)(W:GN m F D=[])(V:IS m F t=[]):Hg m F t D:=by
  refine⟨Y,h.adp,h.le,λu U J=>?_,λu U J=>?_,h.aha⟩
  . by_cases c:u+m<t;.exact c
    . have:=UG.mpr ⟨U,(by(first|lia|omega):t-m<=u),J⟩;rw[V]at this;cases this
  . by_cases c:D+m<u;.exact c
    . have:=QB.mpr ⟨U,J,(by(first|lia|omega):u<=D+m)⟩;rw[W]at this;cases this
theorem Zq(h:Hg m F t l):IS m F t=[]:=by
 refine AB λD=>?_;obtain⟨_,_,_,J,_⟩:=h;refine D ?_;try clear D
 refine List.eq_nil_iff_forall_not_mem.mpr λu W=>?_;refine AB λD=>?_;obtain⟨U,Y,V⟩:=UG.mp W;refine D ?_;try clear D
 have:=J u U V;(first|lia|omega)
noncomputable def QA(m D:Int):AH->Bool|.int o=>AZ (D<o)&&AZ (o<=D+m)|_=>AO
noncomputable def UE(m t:Int):AH->Bool|.int o=>AZ (t-m<=o)&&AZ (o<t)|_=>AO
theorem UO{F:List Int}:(F.map AH.int).filter (QA m D)=(GN m F D).map AH.int:=by unfold GN;rw[pI];rfl
theorem Zp{D:List Int}:(D.map AH.int).filter (UE m t)=(IS m D t).map AH.int:=by unfold IS;rw[pI];rfl
noncomputable def eY:Ba:=λW H Q _=>Tw (λ(p l:AI)(s:Ah)(D:List Int)=>W=[.ref p,.ref l]) (λp _ s _=>Bj H p s) (λ_ _ s _=>s.br=AF) (λ_ _ s _=>Hn s) (λ_ l _ D=>H l=AA (.lst (D.map AH.int))) (λ_ _ _ D=>D.length<=150) (λ_ _ _ D=>Km D) (λ_ _ s D=>∀F r U(J:List (Int×Int)),Ak H F->H r=AD->F r=AA (.lst U)->Bv F U (J.map Dx)->J.Nodup->(∀b e,(b,e)∈J↔Ex s D b e)->J.length<=3150->Q (.ref r) F)
theorem cC{K:Ar}{ad:Kk}(T:B0 K mg ad):BW P w K mg base Bs 1 ad.df ad.dh ["_law_step_here","_law_times"] eY:=by
  refine T.kb.ok VY (λvs H Q E h=>?_) (λcdv A outer s H vs Q E hr h=>?_)
  . refine AB λF=>?_;obtain⟨p,l,s,Z,rfl,_⟩:=h;refine F ?_;try clear F
    rfl
  . refine AB λF=>?_;obtain⟨p,l,W,Z,rfl,e,ht,ok,el,lts,tm,k⟩:=h;refine F ?_;try clear F
    have nd:=VY.nd;refine⟨_,(CG (Ax 2 nd (CJ AQ)) (CG (Bc (BK Ca (Ay K (AE 0) AM) A6 (BL _)) (CG (Dp Dr rfl (Cm (K:=K) (AE 1)) (Cr 3 nd) (CG (Ax 4 nd (AS D1 (AS CD (AE 3) (Ay K (AE 0) AM)) (Ay K (AE 0) AM))) (Ac (R5 Dr (BK Rm (AS CC (AE 4) (Ay K (AE 0) AM)) (AE 3) (BL _)) (CG (Bc (BK (W5 (K:=K) hr.acv) (CL (AG (AE 4) (AG (AS CC (AE 4) (Ay K (AE 0) AM)) AQ))) (AE 2) (by with_unfolding_all rfl)) (Ac (D4 (Ed K (AE 2) (AG (CL (AG (AE 4) (AG (AS CC (AE 4) (Ay K (AE 0) AM)) AQ))) AQ)))) Bt) (Ac (Ax 4 nd (AS E3 (AE 4) (Ay K (AE 0) AM))))))))) (Ac (BA (AE 2)))) Bt) (CG (Dp Dr rfl (Cm (K:=K) (AE 1)) (Cr 3 nd) (CG (Ax 5 nd (AE 3)) (CG (R5 Dr (BK (LK (K:=K) hr.jz) (Ee (A7 Ks) [("_law_last",5),("_law_step_here",0)] ⟨rfl,rfl,rfl,rfl,trivial⟩ (Cm (K:=K) (AE 1)) (λ_ _ _ _=>Gb (LO Ik Ij (AE 1) (AE 0) (AS CC (AE 1) (Ay K (AE 2) AM)))) (λ_ _ _ _=>(AE 0))) (CJ AQ) (BL _)) (Ac (Ax 5 nd (CN (RG (K:=K) rfl) (by rfl) T.qr KU (AG (Ee (A7 Ks) [("_law_last",5),("_law_step_here",0)] ⟨rfl,rfl,rfl,rfl,trivial⟩ (Cm (K:=K) (AE 1)) (λ_ _ _ _=>Gb (LO Ik Ij (AE 1) (AE 0) (AS CC (AE 1) (Ay K (AE 2) AM)))) (λ_ _ _ _=>(AE 0))) AQ))))) (Ac (Bc (BK (W2 (K:=K) hr.jz) (Ee (A7 Ks) [("_law_time",3),("_law_step_here",0)] ⟨rfl,rfl,rfl,rfl,trivial⟩ (Cm (K:=K) (AE 1)) (λ_ _ _ _=>Gb (LO Ij Ik (AS E3 (AE 1) (Ay K (AE 2) AM)) (AE 0) (AE 1))) (λ_ _ _ _=>(AE 0))) (CJ AQ) (BL _)) (Ac (Bc (BK (W5 (K:=K) hr.acv) (CL (AG (AE 3) (AG (AS CC (AS CC (AE 5) (Ay K (AE 0) AM)) AM) AQ))) (AE 2) (by with_unfolding_all rfl)) (Ac (D4 (Ed K (AE 2) (AG (CL (AG (AE 3) (AG (AS CC (AS CC (AE 5) (Ay K (AE 0) AM)) AM) AQ))) AQ)))) Bt)) Bt))))) (Ac (BA (AE 2)))))),?_⟩;have sz:An=16777216:=Dg;refine⟨Bd _,λf hf=>?_⟩;refine As (o:=.lst []) hf λH1 s1 ef=>?_;refine AB λF=>?_;obtain⟨e0,e1,e2⟩:=Bj.cx (K:=K) (show Bj H1 p W from s1 _ _ e);refine F ?_;try clear F
    refine⟨_,_,e0,e1,rfl,_,rfl,EO (i:=6) rfl (λq=>?_) λq=>?_⟩
    . refine AB λF=>?_;obtain⟨n,a,so,z,d,rfl⟩:∃n a so z d,W=.each n a so z d:=by cases W<;>first|exact⟨_,_,_,_,_,rfl⟩|cases q
      obtain⟨_,o1,o2,o3,o4,o5⟩:=ok;refine F ?_;try clear F
      have e:H p=AA (.tup [.str "each",.str n,.str a,.str so,.int z,.int d]):=e;refine⟨l,rfl,⟨_,AV (s1 _ _ el)⟩,Fm (K:=K) (xs:=Z.map AH.int) (λi N C=>Kn (λ(o3 o4 o5:Option AH)(U:List AH)(J:List (Int×Int))=>N=[AA (.ref p),AA (.ref l),AA (.ref f),o3,o4,o5]) (λ_ _ _ _ _=>Ak H C) (λ_ _ _ U _=>C f=AA (.lst U)) (λ_ _ _ U J=>Bv C U (J.map Dx)) (λ_ _ _ _ J=>J.Nodup) (λ_ _ _ _ J=>(∀b e,(b,e)∈J↔Ex (.each n a so z d) (Z.take i) b e)) (λ_ _ _ _ J=>J.length<=21*i)) ⟨AD,AD,AD,[],[],rfl,s1,ef,Fq _,.nil,λb e=>⟨λh=>(nomatch h),λ⟨_,t,ht,_⟩=>(nomatch ht)⟩,Bd _⟩ (λi N C _ hh=>by obtain⟨_,_,_,_,_,_,s',_⟩:=hh;exact AV (s' _ _ el)) ?_ ?_⟩
      . intro i y N H2 hy X;refine AB λF=>?_;obtain⟨u3,u4,u5,ys0,ws0,rfl,s2,O,I,n0,m0,l0⟩:=X;rw[BV]at hy;obtain⟨t,et,rfl⟩:=Co.mp hy;refine F ?_;try clear F
        have hi:i<Z.length:=(Bh.mp et).1;have tt:=tm t (B9 et);have hW:L1 t z d:=⟨o1,o2,o3,o4,tt.1,tt.2⟩;have ep2:=s2 _ _ e;refine⟨_,_,Ao ep2,Ag (j:=5) rfl,?_⟩;refine⟨⟨by(first|lia|omega),by(first|lia|omega)⟩,_,_,Ao ep2,Ag (j:=5) rfl,.inr ⟨by(first|lia|omega),by(first|lia|omega)⟩,?_⟩;refine⟨λm N C=>L4 (λ(o5:Option AH)(U:List AH)(J:List (Int×Int))(W:Int)=>N=[AA (.ref p),AA (.ref l),AA (.ref f),AA (.int t),AA (.int W),o5]) (λ_ _ _ _=>Ak H C) (λ_ U _ _=>C f=AA (.lst U)) (λ_ U J _=>Bv C U (J.map Dx)) (λ_ _ J W=>Kl z d t ws0 J W m),⟨20,_,ys0,ws0,_,rfl,s2,O,I,Ze n0 o1 o5⟩,?_⟩;intro m N H3 X;refine AB λF=>?_;obtain⟨v5,U,J,W,rfl,s3,ef3,rw3,ea⟩:=X;refine F ?_;try clear F
        have S:=s3 _ _ e;refine⟨_,_,Ao S,Ag (j:=4) rfl,_,rfl,F3 (λc=>?_) λc=>?_⟩
        . have c:t<W+z:=c;obtain⟨m,rfl⟩:=ea.ahq c;have lw:=rw3.bj;rw[Am]at lw;have lew:=ea.bj;refine⟨λN C=>L4 (λ(o5:Option AH)(U:List AH)(J:List (Int×Int))(W:Int)=>N=[AA (.ref p),AA (.ref l),AA (.ref f),AA (.int t),AA (.int W),o5]) (λ_ _ _ _=>Ak H C) (λ_ U _ _=>C f=AA (.lst U)) (λ_ U J _=>Bv C U (J.map Dx)) (λ_ _ J W=>Kl z d t ws0 J W m),λσ' C h=>⟨m,KS _,h⟩,?_⟩;refine⟨_,_,Ao S,Ag (j:=4) rfl,BF rfl,λpr hpr=>?_⟩;refine As (o:=.tup [.int W,.int (W+z)]) hpr λH4 s4 epr=>?_;have ef4:=s4 _ _ ef3;have rw4:=rw3.ae s4.tp;have ep4:=s4 _ _ S;refine⟨pr,f,Dx (W,W+z),U,J.map Dx,rfl,rfl,Ao epr,AV ef4,rw4,rfl,Vq,λb hb=>⟨_,rfl,Er (λhbt=>?_) λhbf=>?_⟩⟩
          . have hn:(W,W+z)∉J:=λh=>(hb.mp hbt) (N9.mpr h);refine⟨.inl ⟨rfl,_,AV ef4⟩,_,_,Ao ep4,Ag (j:=4) rfl,BF rfl,λpr2 hpr2=>?_⟩;refine As (o:=.tup [.int W,.int (W+z)]) hpr2 λH5 s5 epr2=>?_;have ef5:=s5 _ _ ef4;have tp:CM H5 (AW H5 f (.lst (U++[.ref pr2]))):=(ER H5).cb ef5 λxs=>by intro z;cases z
            have L:=s3.aa (s4.aa s5);refine⟨f,_,_,rfl,rfl,ef5,by(first|lia|omega),?_⟩;refine⟨_,_,Ao (tp _ _ (s5 _ _ ep4)),Ag (j:=5) rfl,?_⟩;exact⟨_,U++[.ref pr2],J++[(W,W+z)],_,rfl,L.dw hf,Az,by rw[Bx];exact((rw4.ae s5.tp).ft epr2).ae tp,ea.aac o1 c (.inr ⟨rfl,hn⟩)⟩
          . have hy:(W,W+z)∈J:=AB λh=>by rw[hb.mpr λq=>h (N9.mp q)]at hbf;cases hbf
            exact⟨_,_,Ao ep4,Ag (j:=5) rfl,_,U,J,_,rfl,s3.aa s4,ef4,rw4,ea.aac o1 c (.inl ⟨rfl,hy⟩)⟩
        . have c:¬t<W+z:=c;refine⟨_,_,_,U,J,rfl,s3,ef3,rw3,ea.nd,λb e'=>?_,by have:=ea.bj;(first|lia|omega)⟩;rw[ea.adp,m0,DD,et];constructor
          . rintro(⟨G,u,hu,B⟩|⟨G,B,h3,h4,h5⟩);.exact⟨G,u,Fs _ hu,B⟩
            .exact⟨G,t,ET _ (.head _),(Qu hW).mpr ⟨B,h4,h5⟩⟩
          . intro X;refine AB λF=>?_;obtain⟨G,u,hu,B⟩:=X;refine F ?_;try clear F
            rcases CT.mp hu with hu|hu;.exact .inl ⟨G,u,hu,B⟩
            . refine AB λF=>?_;obtain rfl:=Bl.mp hu;obtain⟨h3,h4,h5⟩:=(Qu hW).mp B;refine F ?_;try clear F
              exact .inr ⟨G,h3,by(first|lia|omega),h4,h5⟩
      . intro N H2 X;refine AB λF=>?_;obtain⟨u3,u4,u5,U,J,rfl,s2,O,I,n0,m0,l0⟩:=X;refine F ?_;try clear F
        rw[Am,Cn (Af _)]at m0;rw[Am]at l0;exact k _ f U J s2 hf O I n0 m0 (by(first|lia|omega))
    . refine AB λF=>?_;obtain⟨n,a,so,m,rfl⟩:∃n a so m,W=.gap n a so m:=by cases W<;>first|exact⟨_,_,_,_,rfl⟩|exact absurd rfl q|cases ht
      refine F ?_;try clear F
      have e:H p=AA (.tup [.str "gap",.str n,.str a,.str so,.int m]):=e;have ltm:(Z.map AH.int).length<=An:=by rw[Am];(first|lia|omega)
      refine⟨l,rfl,⟨_,AV (s1 _ _ el)⟩,Fm (K:=K) (xs:=Z.map AH.int) (λi N C=>Kn (λ(o3 o4 o5:Option AH)(U:List AH)(J:List (Int×Int))=>N=[AA (.ref p),AA (.ref l),AA (.ref f),o3,o4,o5]) (λ_ _ _ _ _=>Ak H C) (λ_ _ _ U _=>C f=AA (.lst U)) (λ_ _ _ U J=>Bv C U (J.map Dx)) (λ_ _ _ _ J=>J.Nodup) (λ_ _ _ _ J=>(∀b e,(b,e)∈J↔b∈Z.take i/\Ex (.gap n a so m) Z b e)) (λ_ _ _ _ J=>J.length<=i)) ⟨AD,AD,AD,[],[],rfl,s1,ef,Fq _,.nil,λb e=>⟨λh=>(nomatch h),λh=>(nomatch h.1)⟩,Bd _⟩ (λi N C _ hh=>by obtain⟨_,_,_,_,_,_,s',_⟩:=hh;exact AV (s' _ _ el)) ?_ ?_⟩
      . intro i y N H2 hy X;refine AB λF=>?_;obtain⟨u3,u4,u5,U,J,rfl,s2,O,I,n0,m0,l0⟩:=X;rw[BV]at hy;obtain⟨t,et,rfl⟩:=Co.mp hy;refine F ?_;try clear F
        have hi:i<Z.length:=(Bh.mp et).1;have htm:=B9 et;have lw:=I.bj;rw[Am]at lw;refine⟨λμ N C=>J1 (λ(o4:Option AH)(Y:Int)=>N=[AA (.ref p),AA (.ref l),AA (.ref f),AA (.int t),o4,AA (.int Y)]) (λ_ _=>Ak H2 C) (λ_ Y=>Na m t Z Y μ),⟨Z.length,_,t,rfl,CS _,htm,Jv _,λu _ G B=>absurd G (by(first|lia|omega)),Gd _ _⟩,?_⟩;intro μ N H3 X;refine AB λF=>?_;obtain⟨v4,Y,rfl,s3,ga⟩:=X;refine F ?_;try clear F
        have S:=s3 _ _ (s2 _ _ e);have el3:=s3 _ _ (s2 _ _ el);refine⟨l,rfl,⟨_,AV el3⟩,OT (K:=K) (xs:=Z.map AH.int) (QA m Y) (λv=>v) (AV el3) ltm (λx R hx r=>?_) (λx R _ _ r=>r) λD hD=>?_⟩
        . refine AB λF=>?_;obtain⟨o,_,rfl⟩:=BH.mp hx;refine F ?_;try clear F
          refine⟨_,rfl,Er (λc=>?_) λc=>?_⟩;. have r:R (AZ (Y<o)&&AZ (o<=Y+m)) H3:=r;rw[c,NW]at r;exact⟨_,_,Ao S,Ag (j:=4) rfl,_,rfl,r⟩
          . have r:R (AZ (Y<o)&&AZ (o<=Y+m)) H3:=r;rw[c,Lv]at r;exact⟨_,rfl,r⟩
        rw[UO,pO];refine As (o:=.lst ((GN m Z Y).map AH.int)) hD λH4 s4 eD=>?_;refine⟨Bd _,λD2 hD2=>?_⟩;refine As (o:=.lst []) hD2 λH5 s5 eD2=>?_;have L:=s4.aa s5;have ep5:=L _ _ S;have el5:=L _ _ el3;refine⟨D,D2,_,rfl,rfl,AV (s5 _ _ eD),AV eD2,_,rfl,Er (λc=>?_) λc=>?_⟩
        . have hne:GN m Z Y≠[]:=λz=>by rw[z]at c;cases c
          refine⟨_,λσ' C h=>h,?_⟩;refine⟨l,rfl,⟨_,AV el5⟩,OT (K:=K) (xs:=Z.map AH.int) (QA m Y) (λv=>v) (AV el5) ltm (λx R hx r=>?_) (λx R _ _ r=>r) λD hD=>?_⟩
          . refine AB λF=>?_;obtain⟨o,_,rfl⟩:=BH.mp hx;refine F ?_;try clear F
            refine⟨_,rfl,Er (λc=>?_) λc=>?_⟩
            . have r:R (AZ (Y<o)&&AZ (o<=Y+m)) H5:=r;rw[c,NW]at r;exact⟨_,_,Ao ep5,Ag (j:=4) rfl,_,rfl,r⟩
            . have r:R (AZ (Y<o)&&AZ (o<=Y+m)) H5:=r;rw[c,Lv]at r;exact⟨_,rfl,r⟩
          rw[UO,pO];refine As (o:=.lst ((GN m Z Y).map AH.int)) hD λH6 s6 eD6=>?_;refine⟨D,GN m Z Y,rfl,AV eD6,pJ.mpr hne,λM hM hm=>?_⟩;refine AB λF=>?_;obtain⟨μ',lt,g⟩:=ga.aac hM hm;refine F ?_;try clear F
          exact⟨μ',lt,_,M,rfl,s3.aa (L.aa s6),g⟩
        . have hfe:GN m Z Y=[]:=by cases z:GN m Z Y with |nil=>rfl|cons x r=>rw[z]at c;cases c
          have ef5:=L _ _ (s3 _ _ O);have rw5:=I.ae (s3.aa L).tp;have s5':=s2.aa (s3.aa L);refine⟨l,rfl,⟨_,AV el5⟩,OT (K:=K) (xs:=Z.map AH.int) (UE m t) (λv=>v) (AV el5) ltm (λx R hx r=>?_) (λx R _ _ r=>r) λD hD=>?_⟩
          . refine AB λF=>?_;obtain⟨o,_,rfl⟩:=BH.mp hx;refine F ?_;try clear F
            refine⟨_,_,Ao ep5,Ag (j:=4) rfl,_,rfl,Er (λc=>?_) λc=>?_⟩
            . have r:R (AZ (t-m<=o)&&AZ (o<t)) H5:=r;rw[c,NW]at r;exact⟨_,rfl,r⟩
            . have r:R (AZ (t-m<=o)&&AZ (o<t)) H5:=r;rw[c,Lv]at r;exact⟨_,rfl,r⟩
          rw[Zp,pO];refine As (o:=.lst ((IS m Z t).map AH.int)) hD λH6 s6 eD6=>?_;refine⟨Bd _,λD7 hD7=>?_⟩;refine As (o:=.lst []) hD7 λH7 s7 eD7=>?_;have s57:=s6.aa s7;have ef7:=s57 _ _ ef5;have ep7:=s57 _ _ ep5;have rw7:=rw5.ae s57.tp;have tk:∀b,b∈Z.take (i+1)↔b∈Z.take i\/b=t:=λb=>by rw[DD,et,CT];exact or_congr NX Bl
          refine⟨D,D7,_,rfl,rfl,AV (s7 _ _ eD6),AV eD7,_,rfl,Er (λc2=>?_) λc2=>?_⟩
          . have hbe:IS m Z t=[]:=by cases z:IS m Z t with|nil=>rfl|cons x r=>rw[z]at c2;cases c2
            have gp:=ga.ahm htm hfe hbe;refine⟨_,_,Ao ep7,Ag (j:=4) rfl,BF rfl,λpr hpr=>?_⟩;refine As (o:=.tup [.int t,.int (Y+m+1)]) hpr λH8 s8 epr=>?_;have ef8:=s8 _ _ ef7;have rw8:=rw7.ae s8.tp;have ep8:=s8 _ _ ep7;refine⟨pr,f,Dx (t,Y+m+1),U,J.map Dx,rfl,rfl,Ao epr,AV ef8,rw8,rfl,Vq,λb hb=>⟨_,rfl,Er (λhbt=>?_) λhbf=>?_⟩⟩
            . have hn:(t,Y+m+1)∉J:=λh=>(hb.mp hbt) (N9.mpr h);refine⟨.inl ⟨rfl,_,AV ef8⟩,_,_,Ao ep8,Ag (j:=4) rfl,BF rfl,λpr2 hpr2=>?_⟩;refine As (o:=.tup [.int t,.int (Y+m+1)]) hpr2 λH9 s9 epr2=>?_;have ef9:=s9 _ _ ef8;have tp:CM H9 (AW H9 f (.lst (U++[.ref pr2]))):=(ER H9).cb ef9 λxs=>by intro z;cases z
              refine⟨f,_,_,rfl,rfl,ef9,by(first|lia|omega),?_⟩;refine⟨_,_,_,U++[.ref pr2],J++[(t,Y+m+1)],rfl,(s5'.aa (s57.aa (s8.aa s9))).dw hf,Az,by rw[Bx];exact((rw8.ae s9.tp).ft epr2).ae tp,O5.mpr ⟨n0,by simp,λa ha c hc=>by rw[Bl.mp hc];exactλe=>hn (by rw[<-e];exact ha)⟩,λb e'=>?_,by rw[CY,Hx];(first|lia|omega)⟩;rw[CT,Bl,m0,tk];constructor
              . rintro(⟨G,B⟩|h);.exact⟨.inl G,B⟩
                . obtain⟨rfl,rfl⟩:=pZ h;exact⟨.inr rfl,Y,rfl,gp⟩
              . rintro⟨G|rfl,B⟩;.exact .inl ⟨G,B⟩
                . refine AB λF=>?_;obtain⟨l',rfl,g'⟩:=B;refine F ?_;try clear F
                  rw[Z3 g' gp];exact .inr rfl
            . have hy:(t,Y+m+1)∈J:=AB λh=>by rw[hb.mpr λq=>h (N9.mp q)]at hbf;cases hbf
              refine⟨_,_,_,U,J,rfl,s5'.aa (s57.aa s8),ef8,rw8,n0,λb e'=>?_,by(first|lia|omega)⟩;rw[m0,tk];constructor
              . rintro⟨G,B⟩;exact⟨.inl G,B⟩
              . rintro⟨G|rfl,B⟩;.exact⟨G,B⟩
                .exact⟨((m0 _ _).mp hy).1,B⟩
          . refine⟨_,_,_,U,J,rfl,s5'.aa s57,ef7,rw7,n0,λb e'=>?_,by(first|lia|omega)⟩;rw[m0,tk];constructor;. rintro⟨G,B⟩;exact⟨.inl G,B⟩
            . rintro⟨G|rfl,B⟩;.exact⟨G,B⟩
              . obtain⟨l',rfl,g'⟩:=B;rw[Zq g']at c2;cases c2
      . intro N H2 X;refine AB λF=>?_;obtain⟨u3,u4,u5,U,J,rfl,s2,O,I,n0,m0,l0⟩:=X;refine F ?_;try clear F
        rw[Am,Cn (Af _)]at m0;rw[Am]at l0;exact k _ f U J s2 hf O I n0 (λb e'=>(m0 b e').trans ⟨λh=>h.2,λh=>⟨let⟨_,_,g⟩:=h;g.1,h⟩⟩) (by(first|lia|omega))
theorem UU{α V W:Type}{f:α->V}{g:α->W}:∀{a b:List α},a.map f=b.map f->(∀x∈a,∀y∈b,f x=f y->g x=g y)->a.map g=b.map g|[],[],_,_=>rfl|[],_::_,e,_=>nomatch e|_::_,[],e,_=>nomatch e|x::a,y::b,e,h=>by obtain⟨D,F⟩:=D5 e;rw[Cu,Cu,h x (.head _) y (.head _) D,UU F λx J y U=>h x (.tail _ J) y (.tail _ U)]
theorem UQ{A B:List Ap}(p:(A.map (·.1)).Perm (B.map (·.1)))(z:AJ):((Cq A z).map (·.1)).Perm ((Cq B z).map (·.1)):=by unfold Cq;rw[JK (p:=λi:DS=>AZ (i.2.1=z)),JK (p:=λi:DS=>AZ (i.2.1=z))];exact p.filter _
theorem fK{A B:List Ap}(p:(A.map (·.1)).Perm (B.map (·.1)))(t:Int):t∈Cw A↔t∈Cw B:=by have:=(p.map (·.1)).mem_iff (a:=t);rw[Cb,Cb]at this;exact this
theorem Zm{A B:List Ap}(p:(A.map (·.1)).Perm (B.map (·.1)))(b e:Int):(EY (A.filter (DM b e))).Perm (EY (B.filter (DM b e))):=by have q:=p.filter λi=>AZ (b<=i.1/\i.1<e);rw[<-JK,<-JK]at q;have:=q.map (·.2.2);rw[Cb,Cb]at this;exact this
theorem Z8{q D:C1}(e:En q=En D):q.1.1=D.1.1/\q.1.2.1=D.1.2.1/\q.1.2.2.1=D.1.2.2.1/\q.1.2.2.2.1=D.1.2.2.2.1:=by
 refine AB λF=>?_;obtain⟨J,e⟩:=D5 e;obtain⟨U,e⟩:=D5 e;obtain⟨V,e⟩:=D5 e;obtain⟨W,_⟩:=D5 e;refine F ?_;try clear F
 exact⟨Gn J,vN.mp (Gn U),NV V,Gn W⟩
theorem Fd.aeg{N F:List C1}(h:Fd W L (λ_ _=>True) N)(h':Fd W Y (λ_ _=>True) F)(G:∀s∈W,∀a∈s.aw,((L a).map (·.1)).Perm ((Y a).map (·.1)))(k:List AR)(H:k∈N.map En):k∈F.map En:=by
 refine AB λV=>?_;obtain⟨q,I,rfl⟩:=BH.mp H;obtain⟨s,f,U,K,J,O,_⟩:=(h.is q I).1;have p:=G s (B9 U) f (by rw[J];exact .head _);obtain⟨M,D,Z,A,B⟩:=h'.vx _ s f _ _ _ trivial U K J ((Q0 (fK (UQ p _))).mp O);obtain⟨C,E⟩:=pZ B;refine V ?_;try clear V
 refine BH.mpr ⟨M,D,?_⟩;unfold En;rw[Z,A,C,E]
theorem Fd.afy{K J:List C1}(h:Fd U L (λ_ _=>True) K)(h':Fd U M (λ_ _=>True) J)(V:∀s∈U,∀a∈s.aw,((L a).map (·.1)).Perm ((M a).map (·.1)))(X:OI (K.map En))(Y:OI (J.map En)):K.map (HG U)=J.map (HG U):=by
 refine UU (XR ((List.perm_ext_iff_of_nodup h.ap h'.ap).mpr λk=>⟨h.aeg h' V k,h'.aeg h (λs R a P=>(V s R a P).symm) k⟩) X Y) λq Q T W e=>?_;refine AB λH=>?_;obtain⟨Z,A,B,C⟩:=Z8 e;obtain⟨s,f,G,_,E,_,S,N⟩:=(h.is q Q).1;obtain⟨c,b,F,_,D,_,I,O⟩:=(h'.is T W).1;rw[<-A,G]at F;cases F;rw[E]at D;cases D;refine H ?_;try clear H
 have p:=V s (B9 G) f (by rw[E];exact .head _);rw[<-Z,<-B,<-C]at I;have:=Zn N O ((S.map _).trans ((Zm (UQ p _) _ _).trans (I.map _).symm));unfold HG;rw[Z,A,B,C,this]
noncomputable def L0(F:List Ah)(H:AN)(x:AH)(q:C1):Prop:=∃(a D:AI),x=.ref a/\H a=AA (.tup [.int q.1.1,.int (q.1.2.1:Int),.str q.1.2.2.1,.int q.1.2.2.2.1,.ref D])/\H D=AA (.tup ((HG F q).map Al))
theorem L0.ae(h:L0 F H x q)(t:CM H D):L0 F D x q:=let⟨a,W,e,J,U⟩:=h;⟨a,W,e,t _ _ J,t _ _ U⟩
theorem cE{W:List AJ}{V:List AR}(p:V.Perm (Ds [] (W.map CP))):∃J:List AJ,V=J.map CP/\J.Nodup/\∀k,k∈J↔k∈W:=by
  have U:∀k,k∈V↔∃n∈W,k=CP n:=λk=>by
    rw[p.mem_iff,Pj];constructor
    . rintro(h|h);.cases h
      . obtain⟨n,F,rfl⟩:=BH.mp h;exact⟨n,F,rfl⟩
    . rintro⟨n,F,rfl⟩;exact .inr (BH.mpr ⟨n,F,rfl⟩)
  refine AB λD=>?_;obtain⟨J,rfl⟩:∃J:List AJ,V=J.map CP:=by refine⟨V.map λq=>match q with|.inl _=>""|.inr x=>x,?_⟩;rw[Cb];refine((KR (g:=id) λq Y=>?_).trans (SW _)).symm;obtain⟨i,_,rfl⟩:=(U q).mp Y;rfl
  refine D ?_;try clear D
  refine⟨J,rfl,(F9.mp (p.nodup_iff.mpr (TV _ [] .nil))).imp λh e=>h (by rw[e]),λk=>?_⟩;have:=U (.inr k);constructor
  . intro h;refine AB λD=>?_;obtain⟨n,F,e⟩:=this.mp (BH.mpr ⟨k,h,rfl⟩);refine D ?_;try clear D
    rw[NV e];exact F
  . intro h;refine AB λD=>?_;obtain⟨n,F,e⟩:=BH.mp (this.mpr ⟨k,h,rfl⟩);refine D ?_;try clear D
    rw[<-NV e];exact F
theorem gB{U:AJ}{D:List Int}(h:U∈Fc)(W:F∈D)(Y:∀a∈D,F<=a)(Z:J∈D)(q:∀a∈D,a<=J)(A:n=(D.length:Int)):∃v:Int,CI (LG [] [((.inr "count":AR),AH.int n),(.inr "sum",.int D.sum),(.inr "least",.int F),(.inr "greatest",.int J)]) (.inr U)=AA (.int v)/\Jw U D v:=by
 subst A;simp only[B7,EH,ABt]at h;rcases h with rfl|rfl|rfl|rfl;.exact⟨_,rfl,.inl ⟨rfl,rfl⟩⟩
 .exact⟨_,rfl,.inr (.inl ⟨rfl,rfl⟩)⟩
 .exact⟨_,rfl,.inr (.inr (.inl ⟨rfl,W,Y⟩))⟩
 .exact⟨_,rfl,.inr (.inr (.inr ⟨rfl,Z,q⟩))⟩
@[elab_as_elim]theorem aG{H D:AN}{c:AI}{kvs:List (AR×AH)}{k:AR}{v:AH}{R:AN->Prop}(s:Ak H D)(J:H c=AD)(F:CI kvs k=AA v)(h:∀G,Ak H G->JN G c (Al k) (AA v)->R G):R (AW D c (.dK kvs)):=h _ (s.dw J) (by rw[<-F];exact MI Az)
theorem Qw{s:Ah}:s.br=AF↔s.no=6\/s.no=5:=by cases s<;>simp[Ah.br,Ah.no]
inductive GK(ss:List Ah)(L:AJ->List Ap)(tl:AI)(G H:AN)(Dn:Nat->AJ->Prop)(m:Nat):Prop where|mk(acc:List AH)(qs:List C1)(x:Gx tl G H)(e:H tl=AA (.lst acc))(p:Bm (L0 ss H) acc qs)(t:Fd ss L Dn qs)(l:qs.length<=m):GK ss L tl G H Dn m
theorem GK.sx:GK J L D G H F m->Gx D G H|.mk _ _ x _ _ _ _=>x
theorem GK.kg(s:Ak H J):GK V L W G H F m->GK V L W G J F m|.mk D U x e p t l=>.mk D U (λb o n h=>s _ _ (x b o n h)) (s _ _ e) (GU (λ_ _ h=>h.ae s.tp) p) t l
theorem GK.agj:GK U L V G H F m->GK U L V H H F m|.mk D J _ e p t l=>.mk D J (λ_ _ _ h=>h) e p t l
theorem GK.abh(Y:Gx F U G):GK W L F G H J m->GK W L F U H J m|.mk D V x e p t l=>.mk D V (λb o n h=>x b o n (Y b o n h)) e p t l
theorem GK.aba(V:∀pl z,J pl z->D pl z)(W:∀pl s f z b e,D pl z->U[pl]?=AA s->s.br=AF->s.aw=[f]->Ex s (Cw (Cq (L f) z)) b e->J pl z)(Y:m<=Z):GK U L A G H J m->GK U L A G H D Z|.mk F q x e p t l=>.mk F q x e p (t.aba V W) (DE l Y)
theorem GK.tp(h:GK U L F G H J m)(e:G F=AA (.lst D)):CM G H:=λb W q=>h.sx _ _ (λz=>by rw[z,e]at q;cases q) q
theorem bO{K:Ar}{ad:Kk}(T:B0 K mg ad):BW P w K mg base Bs 23 ad.je ad.jr ["_law_plan","_law_events_here"] Vi:=by
  have G_u_law_items:=gF.mk (bH (P:=P) (w:=w) (base:=base) T 21) T.ig T.cj.kp T.gs;have G_u_law_windows:=gF.mk (cC (P:=P) (w:=w) (base:=base) T) T.um T.kb.kp T.uj;refine T.qh.ok VQ (λvs H Q E h=>?_) (λcdv A outer s H vs Q E hr h=>?_)
  . refine AB λnG=>?_;obtain⟨lp,le,ps,ss,evs,L,rfl,_⟩:=h;refine nG ?_;try clear nG
    rfl
  . refine AB λnG=>?_;obtain⟨lp,le,ps,ss,evs,L,rfl,elp,pr,ev,ok,k⟩:=h;refine nG ?_;try clear nG
    have nd:=VQ.nd;refine⟨_,(Aq (Ax 2 nd (CJ AQ)) (Aq (Dp Dr rfl (KL (K:=K) (by rfl) T.bu (AE 0)) (GX rfl (DC (Cr 3 nd) (DC (Cr 4 nd) GY))) (Ac (E4 (Bc (Fj (G6 (BK Ca (Ay K (AE 4) AM) A6 (BL _)) (Im (BK Ca (Ay K (AE 4) AM) A6 (BL _))))) (Aq (Ax 5 nd (A9 G_u_law_items hr (AG (AE 0) (AG (Ay K (AE 4) AM) (AG (AE 1) AQ))))) (Ac (E4 (Dp Dr rfl (Cm (K:=K) (Ry (K:=K) rfl (by rfl) T.fu (by rfl) T.acy (Ee (A7 J7) [] trivial (Cm (K:=K) (AE 5)) (λ_ _ _ _=>F5) (λ_ _ _ _=>(Ay K (AE 0) AM))))) (Cr 6 nd) (Aq (Ax 7 nd (Ry (K:=K) rfl (by rfl) T.fu (by rfl) T.acy (Ee (A7 J7) [("_law_key",6)] ⟨rfl,rfl,trivial⟩ (Cm (K:=K) (AE 5)) (λ_ _ _ _=>Gb (BK Ca (Ay K (AE 0) AM) (AE 1) (BL _))) (λ_ _ _ _=>(Ay K (AE 0) AM))))) (Ac (E4 (Dp Dr rfl (Cm (K:=K) (A9 G_u_law_windows hr (AG (AE 4) (AG (AE 7) AQ)))) (GX rfl (DC (Cr 8 nd) (DC (Cr 9 nd) GY))) (Aq (R4 (i:=10) (osc:=A7 J7) [("_law_key",6),("_law_start",8),("_law_end",9)] nd rfl (O6 rfl) rfl (Cm (K:=K) (AE 5)) rfl rfl (by decide+kernel) (by decide+kernel) (by decide+kernel) ⟨rfl,rfl,rfl,rfl,rfl,rfl,trivial⟩ rfl (by decide+kernel) (λ_ _ _ _=>Gb (Fj (LP (BK Ca (Ay K (AE 0) AM) (AE 1) (BL _)) (LQ (LO Ij Ik (AE 2) (Ay K (AE 0) AM) (AE 3)))))) (λ_ _ _ _=>(Ay K (AE 0) AM))) (Aq (Ax 11 nd (Il hr.u1 (kX (Ot A6 (CN (JT (K:=K)) (by rfl) T.ke ID (AG (AE 10) AQ)) (Ot A6 (CN (WA (K:=K) rfl) (by rfl) T.ael xH (AG (AE 10) AQ)) (Ot A6 (CN (RG (K:=K) rfl) (by rfl) T.qr KU (AG (AE 10) AQ)) (Ot A6 (CN (V9 (K:=K) rfl) (by rfl) T.ui Lc (AG (AE 10) AQ)) lJ)))) (by rfl) (by rfl) (by intro z;cases z) (by decide)) (Ay K (AE 4) AM) (λ_ _=>rfl))) (Ac (E4 (D4 (Ed K (AE 2) (AG (CL (AG (AE 9) (AG (AE 3) (AG (AE 6) (AG (AE 8) (AG (CL (AG (Ay K (AE 4) AM) (AG (AE 6) (AG (AE 8) (AG (AE 9) (AG (AE 11) AQ)))))) AQ)))))) AQ))))))))))))))) Bt)))) (Ac (BA (Ee (A7 J7) [] trivial (Cm (K:=K) (CN (RH (K:=K) hr) (by rfl) T.fu Sl (AG (AE 2) AQ))) (λ_ _ _ _=>F5) (λ_ _ _ _=>(Ay K (AE 0) AM))))))),?_⟩;have sz:An=16777216:=Dg;have sb:Gh=4096:=by rfl
    have lss:=ok.bj;have lps:=pr.bj;have hLI:∀s∈ss,Fe L s.nm=Gu s (Fe L) evs/\(Fe L s.nm).length<=1000:=λs hs=>by obtain⟨h1,h2⟩:=ok.hL s hs;refine⟨?_,by show((L s.nm).map _).length<=_;rw[Am];(first|lia|omega)⟩;rw[<-Nk,<-h1];rfl
    refineλ_ _ _ _ z1=>⟨Bd _,λtl htl=>z1 _ _ ?_⟩;refine As (o:=.lst []) htl λH1 s1 et1=>?_;have bk:∀{G:AN},Gx tl H1 G->Ak H G:=λx b o e=>x _ _ (B6 e htl) (s1 _ _ e);refineλ_ _ _ _ z2=>⟨lp,rfl,⟨_,AV (s1 _ _ elp)⟩,MW (K:=K) (xs:=ps) (λn σ H'=>∃o3 o4 o5 o6 o7 o8 o9 o10 o11:Option AH,σ=[AA (.ref lp),AA (.ref le),AA (.ref tl),o3,o4,o5,o6,o7,o8,o9,o10,o11]/\GK ss L tl H1 H' (λa _=>a<n) (472500*n)) ⟨AD,AD,AD,AD,AD,AD,AD,AD,AD,rfl,.mk [] [] (λ_ _ _ h=>h) et1 .nil ⟨λq hq=>(by cases hq),λpl s f z b e dn=>absurd dn (Sf _),.nil⟩ (Bd _)⟩ (λn σ H' _ hh=>by obtain⟨_,_,_,_,_,_,_,_,_,_,ra⟩:=hh;exact AV (bk ra.sx _ _ elp)) ?_ ?_⟩
    . intro n y σ H2 pt hy hI hpt;refine AB λnG=>?_;obtain⟨o3,o4,o5,o6,o7,o8,o9,o10,o11,rfl,ra2⟩:=hI;obtain⟨a,st,rfl,es,ea⟩:=pr.at hy;refine nG ?_;try clear nG
      have hn:n<ps.length:=(Bh.mp hy).1;refine As hpt λH3 s3 ept=>?_;have ra3:=ra2.kg s3;clear ra2 s3;have S3:=bk ra3.sx;refine⟨pt,_,rfl,Ao ept,rfl,_,_,rfl,_,_,rfl,rfl,?_⟩;refine AB λnG=>?_;obtain⟨e0,e1,e2⟩:=Bj.cx (K:=K) (show Bj H3 a st from S3 _ _ ea);refine nG ?_;try clear nG
      refineλ_ _ _ _ z3=>?_;refine UD (C:=st.br=AF) ?body λkey=>⟨_,_,e0,e1,rfl,_,rfl,EO (i:=6) rfl (λq6=>key (Qw.mpr (.inl q6))) λq6=>⟨_,_,e0,e1,rfl,_,rfl,EO (i:=5) rfl (λq5=>key (Qw.mpr (.inr q5))) λq5=>z3 _ _ ⟨_,_,_,_,_,_,_,_,_,rfl,ra3.aba (λa _ h=>Jh h) (λpl s f z b e d es' ht _ _=>?els) (by(first|lia|omega))⟩⟩⟩;case els=>
        rcases wV.mp d with h|rfl;.exact h
        . rw[es]at es';cases es';exact absurd (Qw.mp ht) (by rintro(h|h);exact q6 h;exact q5 h)
      refineλht=>?_;refine AB λnG=>?_;obtain⟨so3,f,hf,e3⟩:=Pu (H:=H) (p:=a) ht;obtain⟨i',s',li,ei',rfl,ht'⟩:=ok.ok.uk n st f es (by rw[hf];exact .head _);refine nG ?_;try clear nG
      have ms':=B9 ei';have tmL:=ok.xr s' ms';have okS:=ok.ada st (B9 es);have lM:=(ok.hL s' ms').2;refineλ_ _ _ _ z4=>⟨_,_,e0,e3,lp,le,ps,ss,evs,Fe L,i',s',rfl,S3 _ _ elp,pr.ae S3.tp,ok.ok,by(first|lia|omega),ev.bf S3,ok.el,hLI,ei',ht',by(first|lia|omega),λr H4 s4 hr4⟨xs,er,wr⟩=>z4 _ _ ?_⟩;have wr:Bv H4 xs ((L s'.nm).map λi=>DT i.1):=by have w:=wr;unfold Fe at w;rwa[Cb]at w
      generalize hM:L s'.nm=M at wr tmL lM;have lx:=wr.bj;rw[Am]at lx;have ntr:r≠tl:=by cases ra3 with|mk acc qs x e p t l=>exact(B6 e hr4).symm
      have ra4:=ra3.kg s4;clear ra3;have S4:=S3.aa s4;have at4:∀{j:Nat}{y:AH},xs[j]?=AA y->∃(b:AI)(i:Ap),y=.ref b/\M[j]?=AA i/\H4 b=AA (.tup [.int i.1.1,.str i.1.2.1,.int i.1.2.2]):=λhy=>by obtain⟨b,ks,e,ek,eb⟩:=wr.at hy;rw[BV]at ek;obtain⟨i,ei,rfl⟩:=Co.mp ek;exact⟨b,i,e,ei,eb⟩
      refineλ_ _ _ _ z5=>⟨r,rfl,⟨_,AV er⟩,?_⟩;refine Gy (K:=K) (xs:=xs) (λj τ acc H'=>(∃o,τ=[o])/\H'=H4/\acc=((M.take j).map λi=>AH.str i.1.2.1)) (by(first|lia|omega)) ⟨⟨AD,rfl⟩,rfl,rfl⟩ (λj τ acc H'⟨_,e,_⟩=>by rw[e];exact AV er) ?_ ?_
      . intro j y τ acc H5 R1 hy _ hI k1;refine AB λnG=>?_;obtain⟨⟨o,rfl⟩,rfl,rfl⟩:=hI;obtain⟨b,i,rfl,ei,eb⟩:=at4 hy;refine nG ?_;try clear nG
        refine⟨_,_,Ao eb,Ag (j:=1) rfl,k1 _ _ _ ⟨⟨_,rfl⟩,rfl,?_⟩⟩;rw[DD,ei,Bx];rfl
      intro τ acc H5 _ hI D hD;refine AB λnG=>?_;obtain⟨_,rfl,rfl⟩:=hI;refine nG ?_;try clear nG
      have ek:((M.take xs.length).map λi=>AH.str i.1.2.1)=((M.map λi=>i.1.2.1).map (CP:AJ->AR)).map Al:=by rw[Cn (by(first|lia|omega)),Cb,Cb];rfl
      rw[ek];have s6:=Cz (o:=.lst (((M.map λi=>i.1.2.1).map (CP:AJ->AR)).map Al)) hD;have eD:(AW H5 D (.lst (((M.map λi=>i.1.2.1).map (CP:AJ->AR)).map Al))) D=AA (.lst (((M.map λi=>i.1.2.1).map (CP:AJ->AR)).map Al)):=Az;generalize AW H5 D (.lst (((M.map λi=>i.1.2.1).map (CP:AJ->AR)).map Al))=H6 at s6 eD⊢;refine⟨D,(M.map λi=>i.1.2.1).map CP,rfl,.inl (AV eD),.inr λk hk=>(by obtain⟨n,_,rfl⟩:=BH.mp hk;exact⟨n,rfl⟩),by rw[Am,Am];(first|lia|omega),λkl rs hkl prs _=>?_⟩;refine AB λnG=>?_;obtain⟨zs,rfl,ndz,memz⟩:=cE prs;refine nG ?_;try clear nG
      have lz:zs.length<=150:=by have h1:=prs.length_eq;have h2:=Pk ((M.map λi=>i.1.2.1).map CP) [];rw[Am]at h1;rw[Am,Am,Jd]at h2;(first|lia|omega)
      rw[show(zs.map (CP:AJ->AR)).map Al=zs.map AH.str by rw[Cb];rfl];refine As (o:=.lst (zs.map AH.str)) hkl λH7 s7 ekl=>?_;have S57:=s6.aa s7;have ra7:=ra4.kg S57;have er7:=S57 _ _ er;have ntk:kl≠tl:=by cases ra4.kg s6 with|mk acc qs x e p t l=>exact(B6 e hkl).symm
      refine AB λnG=>?_;obtain⟨acc7,et7⟩:∃acc,H7 tl=AA (.lst acc):=by cases ra7 with|mk acc qs x e p t l=>exact⟨acc,e⟩
      refine nG ?_;try clear nG
      have e7:=S57 _ _ (S4 _ _ ea);refine⟨kl,rfl,⟨_,AV ekl⟩,Fm (K:=K) (xs:=zs.map AH.str) (λm σ H'=>∃o6 o7 o8 o9 o10 o11:Option AH,σ=[AA (.ref lp),AA (.ref le),AA (.ref tl),AA (.int (n:Int)),AA (.ref a),AA (.ref r),o6,o7,o8,o9,o10,o11]/\GK ss L tl H7 H' (λa z=>a<n\/(a=n/\z∈zs.take m)) (472500*n+3150*m)) ⟨_,_,_,_,_,_,rfl,ra7.agj.aba (λa z h=>.inl h) (λpl s f z b e h _ _ _ _=>by simpa using h) (by(first|lia|omega))⟩ (λm σ H' _ hh=>by obtain⟨_,_,_,_,_,_,_,ra⟩:=hh;exact AV (ra.sx _ _ ntk ekl)) ?_ ?_⟩
      . intro m y σ H8 hy hI;refine AB λnG=>?_;obtain⟨o6,o7,o8,o9,o10,o11,rfl,ra8⟩:=hI;rw[BV]at hy;obtain⟨z,hz,rfl⟩:=Co.mp hy;refine nG ?_;try clear nG
        have hm:m<zs.length:=(Bh.mp hz).1;have er8:=ra8.sx _ _ ntr er7;have t8:=ra8.tp et7;have e8:Bj H8 a st:=t8 _ _ e7;have ex8:∀{j:Nat}{y:AH},xs[j]?=AA y->∃(b:AI)(i:Ap),y=.ref b/\M[j]?=AA i/\H8 b=AA (.tup [.int i.1.1,.str i.1.2.1,.int i.1.2.2]):=λhy=>by obtain⟨b,i,e,ei,eb⟩:=at4 hy;exact⟨b,i,e,ei,t8 _ _ (S57 _ _ eb)⟩
        clear at4;refineλ_ _ _ _ z6=>⟨r,rfl,⟨_,AV er8⟩,?_⟩;refine KH (K:=K) (xs:=xs) (λj τ acc H'=>(∃o,τ=[o,AA (.str z)])/\H'=H8/\acc=(Cw (Cq (M.take j) z)).map AH.int) (by(first|lia|omega)) ⟨⟨AD,rfl⟩,rfl,rfl⟩ (λj τ acc H'⟨_,e,_⟩=>by rw[e];exact AV er8) ?_ ?_
        . intro j y τ acc H9 R1 R0 hy _ hI k1 k0;refine AB λnG=>?_;obtain⟨⟨o,rfl⟩,rfl,rfl⟩:=hI;obtain⟨b,i,rfl,ei,eb⟩:=ex8 hy;refine nG ?_;try clear nG
          have fs:Cq (M.take (j+1)) z=Cq (M.take j) z++_:=Kr (p:=λi:Ap=>AZ (i.1.2.1=z)) ei;refine⟨_,_,Ao eb,Ag (j:=1) rfl,rfl,_,rfl,LB (λh=>?_) λh=>k0 _ _ ⟨⟨_,rfl⟩,rfl,by rw[fs,ABn (by rw[ABu];exact h),Eg]⟩⟩;refine⟨_,_,Ao eb,Ag (j:=0) rfl,k1 _ _ _ ⟨⟨_,rfl⟩,rfl,?_⟩⟩;rw[fs,ABo (by rw[ABu];exact h)];unfold Cw;rw[Bx,Bx];rfl
        intro τ acc H9 _ hI D2 hD2;refine AB λnG=>?_;obtain⟨_,rfl,rfl⟩:=hI;refine nG ?_;try clear nG
        rw[Cn (by(first|lia|omega)),show(Cw (Cq M z)).map AH.int=((Cw (Cq M z)).map (BP:Int->AR)).map Al by rw[Cb];rfl];have lN:(Cq M z).length<=150:=DE (Gd _ _) lM;have s10:=Cz (o:=.lst (((Cw (Cq M z)).map (BP:Int->AR)).map Al)) hD2;have eD2:(AW H9 D2 (.lst (((Cw (Cq M z)).map (BP:Int->AR)).map Al))) D2=AA (.lst (((Cw (Cq M z)).map (BP:Int->AR)).map Al)):=Az;generalize AW H9 D2 (.lst (((Cw (Cq M z)).map (BP:Int->AR)).map Al))=H10 at s10 eD2⊢;have lT:(Cw (Cq M z)).length<=150:=by unfold Cw;rw[Am];exact lN
        refine⟨D2,(Cw (Cq M z)).map BP,rfl,.inl (AV eD2),.inl λk hk=>(by obtain⟨n,_,rfl⟩:=BH.mp hk;exact⟨n,rfl⟩),by rw[Am];(first|lia|omega),λtt rs htt prs sors=>?_⟩;refine AB λnG=>?_;obtain⟨ts,rfl,_,memt⟩:=Ui prs sors;refine nG ?_;try clear nG
        have lts:ts.length<=150:=by have h1:=prs.length_eq;have h2:=Pk ((Cw (Cq M z)).map BP) [];rw[Am]at h1;rw[Am,Jd]at h2;(first|lia|omega)
        rw[show(ts.map (BP:Int->AR)).map Al=ts.map AH.int by rw[Cb];rfl];refine As (o:=.lst (ts.map AH.int)) htt λH11 s11 ett=>z6 _ _ ?_;have tmT:Km ts:=λt h=>by obtain⟨i,hi,rfl⟩:=BH.mp ((memt t).mp h);exact tmL _ (BH.mpr ⟨i,(DX.mp hi).1,rfl⟩)
        have s9:=s10.aa s11;refineλ_ _ _ _ z7=>⟨a,tt,st,ts,rfl,s9 _ _ e8,ht,okS,ett,lts,tmT,λH12 wl wx ws s12 hwl ewl hww ndw memw lw=>?_⟩;have memw:∀b e,(b,e)∈ws↔Ex st (Cw (Cq M z)) b e:=λb e=>(memw b e).trans (Q0 memt);have s89:=s9.aa s12;have er12:=s89 _ _ er8;have e12:Bj H12 a st:=s89 _ _ e8;have ex12:∀{j:Nat}{y:AH},xs[j]?=AA y->∃(b:AI)(i:Ap),y=.ref b/\M[j]?=AA i/\H12 b=AA (.tup [.int i.1.1,.str i.1.2.1,.int i.1.2.2]):=λhy=>by obtain⟨b,i,e,ei,eb⟩:=ex8 hy;exact⟨b,i,e,ei,s89 _ _ eb⟩
        clear ex8;refine AB λnG=>?_;obtain⟨acc0,qs0,x0,et0,p0,ti0,l0⟩:=ra8.kg s89;refine nG ?_;try clear nG
        have ntw:wl≠tl:=by cases ra8.kg s9 with|mk acc qs x e p t l=>exact(B6 e hwl).symm
        refine⟨wl,rfl,⟨_,AV ewl⟩,Fm (K:=K) (xs:=wx) (λj σ H'=>Nc (λ(o8 o9 o10 o11:Option AH)(acc:List AH)(qs:List C1)=>σ=[AA (.ref lp),AA (.ref le),AA (.ref tl),AA (.int (n:Int)),AA (.ref a),AA (.ref r),AA (.str z),AA (.ref tt),o8,o9,o10,o11]) (λ_ _ _ _ _ _=>Gx tl H12 H') (λ_ _ _ _ acc _=>H' tl=AA (.lst acc)) (λ_ _ _ _ acc qs=>Bm (L0 ss H') acc (qs0++qs)) (λ_ _ _ _ _ qs=>(∀q∈qs,Lz st n z (Cq M z) q)) (λ_ _ _ _ _ qs=>qs.map KA=ws.take j)) ⟨_,_,_,_,acc0,[],rfl,(λ_ _ _ h=>h),et0,by rw[Eg];exact p0,(λq hq=>by cases hq),rfl⟩ (λj σ H' _ hh=>by obtain⟨_,_,_,_,_,_,_,x',_⟩:=hh;exact AV (x' _ _ ntw ewl)) ?_ ?_⟩
        . intro j y σ H13 hy hI;refine AB λnG=>?_;obtain⟨o8,o9,o10,o11,acc,qs,rfl,x13,et13,p13,isq,eqw⟩:=hI;have t13:CM H12 H13:=λb ys e=>x13 _ _ (λq=>by rw[q,et0]at e;cases e) e;obtain⟨c,ks,rfl,ek,ec⟩:=hww.at hy;rw[BV]at ek;obtain⟨⟨b,e⟩,ew,rfl⟩:=Co.mp ek;refine nG ?_;try clear nG
          have hj:j<ws.length:=(Bh.mp ew).1;have lq:qs.length<=3150:=by have:=ABp KQ eqw;rw[Am,Eh]at this;(first|lia|omega)
          have la:=(C5 p13).1;rw[CY]at la;refine⟨c,_,rfl,Ao (t13 _ _ ec),rfl,_,_,rfl,_,_,rfl,rfl,?_⟩;have er13:=x13 _ _ ntr er12;refineλ_ _ _ _ z8=>⟨r,rfl,⟨_,AV er13⟩,?_⟩;refine KH (K:=K) (xs:=xs) (λj τ acc H'=>(∃o,τ=[o,AA (.str z),AA (.int b),AA (.int e)])/\H'=H13/\acc=(EY ((Cq (M.take j) z).filter (DM b e))).map AH.int) (by(first|lia|omega)) ⟨⟨AD,rfl⟩,rfl,rfl⟩ (λj τ acc H'⟨_,e,_⟩=>by rw[e];exact AV er13) ?_ ?_
          . intro j y τ acc H9 R1 R0 hy _ hI k1 k0;refine AB λnG=>?_;obtain⟨⟨o,rfl⟩,rfl,rfl⟩:=hI;obtain⟨b',i,rfl,ei,eb⟩:=ex12 hy;refine nG ?_;try clear nG
            have eb:=t13 _ _ eb;have fs:(Cq (M.take (j+1)) z).filter (DM b e)=(Cq (M.take j) z).filter (DM b e)++(if(DM b e i&&AZ (i.1.2.1=z))=AF then[i]else[]):=by have:=Kr (p:=λi:Ap=>DM b e i&&AZ (i.1.2.1=z)) ei;unfold Cq;rw[Xs,Xs];exact this
            have no:(DM b e i&&AZ (i.1.2.1=z))=AO->(EY ((Cq (M.take j) z).filter (DM b e))).map AH.int=(EY ((Cq (M.take (j+1)) z).filter (DM b e))).map AH.int:=λq=>by rw[fs,q,ABn C6,Eg]
            refine⟨_,_,Ao eb,Ag (j:=1) rfl,rfl,_,rfl,LB (λh=>?_) λh=>C4 (k0 _ _ ⟨⟨_,rfl⟩,rfl,no (by rw[ABr h,ZU])⟩)⟩;refine⟨_,_,Ao eb,Ag (j:=0) rfl,_,rfl,F3 (λh1=>?_) λh1=>⟨_,rfl,C4 (k0 _ _ ⟨⟨_,rfl⟩,rfl,no (by unfold DM;rw[ABr (λq=>h1 q.1),Lv])⟩)⟩⟩;refine⟨_,rfl,F3 (λh2=>?_) λh2=>k0 _ _ ⟨⟨_,rfl⟩,rfl,no (by unfold DM;rw[ABr (λq=>h2 q.2),Lv])⟩⟩;refine⟨_,_,Ao eb,Ag (j:=2) rfl,k1 _ _ _ ⟨⟨_,rfl⟩,rfl,?_⟩⟩;rw[fs,ABo (by unfold DM;rw[ABq ⟨h1,h2⟩,ABq h];rfl)];unfold EY;rw[Bx,Bx];rfl
          intro τ acc1 H14 _ hI am ham;refine AB λnG=>?_;obtain⟨_,rfl,rfl⟩:=hI;refine nG ?_;try clear nG
          rw[Cn (by(first|lia|omega))];have e13:Bj H14 a st:=t13 _ _ e12;have ne:0<(EY ((Cq M z).filter (DM b e))).length:=by obtain⟨t0,ht0,b1,b2⟩:=MH okS (λt h=>tmT t ((memt t).mpr h)) ((memw b e).mp (B9 ew));obtain⟨i,hi,rfl⟩:=BH.mp ht0;unfold EY;rw[Am];exact wG (DX.mpr ⟨hi,by unfold DM;exact ABq ⟨b1,b2⟩⟩)
          refine As (o:=.lst ((EY ((Cq M z).filter (DM b e))).map AH.int)) ham λH15 s15 eam=>z8 _ _ ?_;refineλ_ _ _ _ z9=>λdp hdp=>?_;refine As (o:=.dK []) hdp λH16 s16 edp=>?_;have eam6:=s16 _ _ eam;refine⟨_,.inl (AV eam6),am,_,rfl,AV eam6,am,_,rfl,AV eam6,ne,λmn hm1 hm2=>⟨am,_,rfl,AV eam6,ne,λmx hx1 hx2=>⟨edp,[(.inr "count",_),(.inr "sum",_),(.inr "least",_),(.inr "greatest",_)],rfl,BF rfl,?_⟩⟩⟩;refine AB λnG=>?_;obtain⟨v,ev,av⟩:=gB (Vk ht okS) hm1 hm2 hx1 hx2 (n:=(((EY ((Cq M z).filter (DM b e))).map AH.int).length:Int)) (by rw[Am]);refine nG ?_;try clear nG
          refine aG s16 hdp ev λH17 s17 dg=>?_;have s17:=s15.aa s17;refine⟨_,_,Ao (s17 _ _ e13),so3,dp,.int v,rfl,dg,z9 _ _ ?_⟩;have et17:=s17 _ _ et13;refine AB λnG=>?_;obtain⟨w0,_,w2⟩:=Bj.cx (K:=K) (show Bj H17 a st from s17 _ _ e13);refine nG ?_;try clear nG
          refineλ_ _ _ _ z10=>⟨.inl ⟨rfl,_,AV et17⟩,_,_,w0,w2,BF rfl,λra hra=>?_⟩;refine As (o:=.tup [.str st.nm,.str z,.int b,.int e,.int v]) hra λH18 s18 era=>?_;refine⟨BF rfl,λmk hmk=>?_⟩;refine As (o:=.tup [.int e,.int (n:Int),.str z,.int b,.ref ra]) hmk λH19 s19 emk=>?_;have s1319:=s17.aa (s18.aa s19);have et19:=s1319 _ _ et13;have tp:=(ER H19).cb (o:=.lst (acc++[.ref mk])) et19 λxs=>by intro z;cases z
          refine⟨tl,_,_,rfl,rfl,et19,by(first|lia|omega),z10 _ _ ⟨_,_,_,_,acc++[.ref mk],qs++[((e,n,z,b,v),(Cq M z).filter (DM b e))],rfl,(λb o nb h=>by rw[BC nb];exact s1319 _ _ (x13 b o nb h)),Az,?_,λq hq=>?_,?_⟩⟩
          . rw[<-F7];refine D3 (GU (λ_ _ h=>h.ae (s1319.tp.aa tp)) p13) (.cons ⟨mk,ra,rfl,tp _ _ emk,?_⟩ .nil);have en:JM ss n=st.nm:=by unfold JM;rw[es]
            show _=AA (DV.tup [.str (JM ss n),_,_,_,_]);rw[en];exact tp _ _ (s19 _ _ era)
          . rcases CT.mp hq with h|h;.exact isq q h
            . rw[Bl.mp h];exact⟨rfl,rfl,rfl,av⟩
          . rw[Bx,eqw,DD,ew];rfl
        . intro σ H13 hI;refine AB λnG=>?_;obtain⟨o8,o9,o10,o11,acc,qs,rfl,x13,et13,p13,isq,eqw⟩:=hI;refine nG ?_;try clear nG
          rw[hww.bj,Am,Cn (Af _)]at eqw;have lq:qs.length<=3150:=by have:=ABp KQ eqw;rw[Am]at this;(first|lia|omega)
          have new:¬(n<n\/(n=n/\z∈zs.take m)):=λh=>h.elim (E6 _) λh=>N7 ndz hz h.2;refine z7 _ _ ⟨_,_,_,_,_,_,rfl,.mk acc (qs0++qs) (λb o nb h=>x13 b o nb (x0 b o nb h)) et13 p13 ((ti0.adb new es ht hf (by rw[hM]) isq (by rw[eqw];exact memw) (by rw[eqw];exact ndw)).aba (λa x h=>?_) λpl s f x b e h _ _ _ _=>?_) (by rw[CY];(first|lia|omega))⟩
          . rcases h with(h|⟨rfl,h⟩)|⟨rfl,rfl⟩;.exact .inl h
            .exact .inr ⟨rfl,(Hm hz x).mpr (.inl h)⟩
            .exact .inr ⟨rfl,(Hm hz x).mpr (.inr rfl)⟩
          . rcases h with h|⟨rfl,h⟩;.exact .inl (.inl h)
            . rcases(Hm hz x).mp h with h|rfl;.exact .inl (.inr ⟨rfl,h⟩)
              .exact .inr ⟨rfl,rfl⟩
      . intro σ H8 hI;refine AB λnG=>?_;obtain⟨o6,o7,o8,o9,o10,o11,rfl,ra8⟩:=hI;refine nG ?_;try clear nG
        rw[Am,Cn (Af _)]at ra8;refine z5 _ _ (z3 _ _ ⟨_,_,_,_,_,_,_,_,_,rfl,(ra8.abh ra7.sx).aba (λa x h=>?_) (λpl s f x b e h es' ht' hf' wn=>?_) (by(first|lia|omega))⟩)
        . rcases h with h|⟨rfl,_⟩;.exact Jh h
          .exact KS _
        . rcases wV.mp h with h|rfl;.exact .inl h
          . rw[es]at es';refine AB λnG=>?_;cases es';rw[hf]at hf';cases hf';rw[hM]at wn;obtain⟨t,ht0,_⟩:=MH okS (λt h=>tmL t (by obtain⟨j,hj,rfl⟩:=BH.mp h;exact BH.mpr ⟨j,(DX.mp hj).1,rfl⟩)) wn;obtain⟨j,hj,rfl⟩:=BH.mp ht0;obtain⟨j1,j2⟩:=DX.mp hj;refine nG ?_;try clear nG
            exact .inr ⟨rfl,(memz x).mpr (BH.mpr ⟨j,j1,ABs j2⟩)⟩
    . intro σ H2 hI;refine AB λnG=>?_;obtain⟨o3,o4,o5,o6,o7,o8,o9,o10,o11,rfl,acc,qs,x2,et2,p2,ti2,l2⟩:=hI;obtain⟨ds,eds,so⟩:=UW (K:=K) (λx q hh=>by obtain⟨a,ra,ea,e1,_⟩:=hh;exact⟨a,[ra],ea,e1⟩) p2 ti2.ap;refine nG ?_;try clear nG
      refine z2 _ _ ⟨tl,acc,ds,_,rfl,AV et2,so,λsl qv hsl pv sv=>?_⟩;rw[eds]at pv;refine AB λnG=>?_;obtain⟨qs2,pm,pq2,ek⟩:=QL p2 pv;refine nG ?_;try clear nG
      rw[<-ek]at sv;generalize qv.map (·.1)=ys at pq2⊢;refine As (o:=.lst ys) hsl λH3 s3 esl=>?_;have S3:=(bk x2).aa s3;have ly:=(C5 pq2).1;have lq:=pm.length_eq;refine⟨sl,rfl,⟨_,AV esl⟩,Gy (K:=K) (xs:=ys) (λj τ acc H'=>(∃o,τ=[o])/\H'=H3/\Bv H3 acc ((qs2.take j).map (HG ss))) (by(first|lia|omega)) ⟨⟨AD,rfl⟩,rfl,Fq _⟩ (λj τ acc H'⟨_,e,_⟩=>by rw[e];exact AV esl) ?_ ?_⟩
      . intro j y τ acc H4 R1 hy _ hI k1;refine AB λnG=>?_;obtain⟨⟨o,rfl⟩,rfl,hw⟩:=hI;obtain⟨q,eq,a,ra,rfl,e1,e2⟩:∃q,qs2[j]?=AA q/\L0 ss H2 y q:=by obtain⟨l,f⟩:=C5 pq2;have hi:=(Bh.mp hy).1;have e2:=B8 (show j<qs2.length by(first|lia|omega));exact⟨_,e2,f j y _ hy e2⟩
        refine nG ?_;try clear nG
        refine⟨_,_,Ao (s3 _ _ e1),Ag (j:=4) rfl,k1 _ _ _ ⟨⟨_,rfl⟩,rfl,?_⟩⟩;rw[DD,eq,Bx];exact hw.ft (s3 _ _ e2)
      . intro τ acc H4 la hI D hD;refine AB λnG=>?_;obtain⟨_,rfl,hw⟩:=hI;refine nG ?_;try clear nG
        rw[ly,Cn (Af _)]at hw;refine k _ D acc qs2 (S3.cb hD) (S3.ar hD) Az (hw.ae (Cz hD).tp) ⟨λq hq=>⟨(ti2.is q (pm.mem_iff.mp hq)).1,trivial⟩,λpl s f z b e _ es ht hf wn=>?_,(pm.map En).nodup_iff.mpr ti2.ap⟩ sv (by(first|lia|omega));refine AB λnG=>?_;obtain⟨q,hq,r⟩:=ti2.vx pl s f z b e (by have:=(Bh.mp es).1;(first|lia|omega)) es ht hf wn;refine nG ?_;try clear nG
        exact⟨q,pm.mem_iff.mpr hq,r⟩
theorem cG{α J U:Type}{F:α->U->Prop}{f:J->U}{D:List α}{bs:List J}(h:Bm (λa b=>F a (f b)) D bs):Bm F D (bs.map f):=by induction h with|nil=>exact .nil|cons V _ W=>exact .cons V W
theorem aN{s:Ah}{evs:List CA}(h:∀a∈s.aw,(L a).Perm (F a))(p:evs.Perm D):(Gu s L evs).Perm (Gu s F D):=by cases s with|take n k=>exact(p.filter _).map _|only n a U J=>exact(h a (.head _)).filter _|turn n a f g=>exact(h a (.head _)).map _|both n a b=>exact(h a (.head _)).append (h b (.tail _ (.head _)))|join n a b V=>exact((h a (.head _)).flatMap_right _).trans (P9 _ _ (λi=>((h b (.tail _ (.head _))).filter _).map _) _)|gap n a s m=>exact h a (.head _)|each n a s z d=>exact h a (.head _)
theorem D9.pr{U:List Ah}{evs:List CA}(h:D9 b D U q z sn)(F:U.length<=21)(Z:D<=10)(J:evs.length<=D)(W:∀e∈evs,Jx e):∃L,IM U L evs:=by
 obtain⟨L,V⟩:=cP h.afw evs;have Y:∀s∈U,Fe L s.nm=Gu s (Fe L) evs:=λs F=>by rw[<-Nk,<-V s F];rfl
 refine⟨L,h.afw,F,by(first|lia|omega),λs F=>⟨V s F,?_⟩,h.ada,λe J=>⟨(W e J).2.2.1,by have:=(W e J).2.2.2;(first|lia|omega)⟩⟩;have:=(h.agm J Y s F).2;unfold Fe at this;rwa[Am]at this
theorem IM.nq{evs:List CA}(h:IM Y L evs)(h':IM Y F D)(p:evs.Perm D):∀s∈Y,∀a∈s.aw,((L a).map (·.1)).Perm ((F a).map (·.1)):=λs J a C=>by
 have V:=QM (R:=λa=>(Fe L a).Perm (Fe F a)) h.ok λs J q=>by
  have Z:Fe L s.nm=Gu s (Fe L) evs:=by rw[<-Nk,<-(h.hL s J).1];rfl
  have A:Fe F s.nm=Gu s (Fe F) D:=by rw[<-Nk,<-(h'.hL s J).1];rfl
  rw[Z,A];exact aN q p
 refine AB λW=>?_;obtain⟨i,B⟩:=HW.mp J;obtain⟨G,E,_,U,rfl,_⟩:=h.ok.uk i s a B C;refine W ?_;try clear W
 exact V E (B9 U)
theorem Fd.agt{A:List C1}(P:Fd J L (λ_ _=>True) A)(h:IM J L evs)(O:∀e∈evs,Jx e)(nm:∀s∈J,∀t∈s.aat,CW t):∀ks∈A.map (HG J),Pt ks:=λks I=>by
  refine AB λF=>?_;obtain⟨q,K,rfl⟩:=BH.mp I;obtain⟨s,f,V,S,H,Q,_⟩:=(P.is q K).1;refine F ?_;try clear F
  have Z:=B9 V;refine⟨_,_,_,_,_,rfl,?_,?_⟩
  . have:JM J q.1.2.1=s.nm:=by unfold JM;rw[V]
    rw[this];exact nm s Z s.nm (by cases s<;>exact .head _)
  . refine AB λF=>?_;obtain⟨T,B,_,U,rfl,_⟩:=h.ok.uk _ s f V (by rw[H];exact .head _);have D:=B9 U;obtain⟨t,Y,_⟩:=MH (h.ada s Z) (λt C=>h.xr B D t (by obtain⟨j,W,rfl⟩:=BH.mp C;exact BH.mpr ⟨j,(DX.mp W).1,rfl⟩)) Q;obtain⟨j,W,rfl⟩:=BH.mp Y;obtain⟨M,N⟩:=DX.mp W;refine F ?_;try clear F
    rw[<-ABs N];exact h.vx (R:=λi=>Iy i.2.1=AF) (λe G=>(O e G).2.1) (λf g i h=>h) (λi j E _=>E) B D j M
theorem cH{l:List α}{m:List D}(h:Bm F l m):Bm F l.reverse m.reverse:=by induction h with|nil=>exact .nil|cons a _ J=>rw[X3,X3];exact D3 J (.cons a .nil)
theorem Zx(D:List Int)(m:Nat):∃U:List Int,EF (D.map AH.int) (AA 14) (AA (14+(m:Int)))=U.map AH.int/\U.length<=m:=by
 refine⟨(D.drop (Dd 14 D.length)).take (Dd (14+m) D.length-Dd 14 D.length),?_,by rw[Eh];(first|lia|omega)⟩;have F:=Lw (D.map AH.int).length 0 14;have J:=Lw (D.map AH.int).length (D.map AH.int).length (14+m);rw[Am]at F J;have F:BJ D.length 0 (AA 14)=Dd 14 D.length:=F;have J:BJ D.length D.length (AA (14+(m:Int)))=Dd (14+m) D.length:=by rwa[vM]at J
 unfold EF;rw[Am,F,J,pP,wI]
theorem Zy(xs:List AH)(c:Nat)(h:c<=xs.length):EF xs AD (AA (c:Int))=xs.take c:=by unfold EF;rw[Lw];show(xs.drop 0).take (Dd c xs.length-0)=_;rw[vT,w6,wW h]
theorem Zw(xs:List AH)(c:Nat)(h:c<=xs.length):EF xs (AA (c:Int)) AD=xs.drop c:=by unfold EF;rw[Lw];show(xs.drop (Dd c xs.length)).take (xs.length-Dd c xs.length)=_;rw[wW h,Cn (by rw[LZ];exact Af _)]
theorem cN{J:List Ah}(h:∀s∈J,∀t∈s.aat,CW t):∀ks∈J.map Ah.mz,F4 ks=AF:=λks D=>by
 refine AB λF=>?_;obtain⟨s,U,rfl⟩:=BH.mp D;refine F ?_;try clear F
 have g:=h s U;have w:Iy s.cx=AF:=(by decide+kernel:∀z∈Kw,PyData.strOk z=true) _ (B9 (Q1 s));refine SN.mpr λk D=>?_;cases k with |inl _=>rfl|inr t=>
  show Iy t=AF;have:t=s.cx\/t∈s.aat:=by cases s<;>simpa[Ah.mz,Ah.aat,Ah.cx]using D
  rcases this with rfl|h;.exact w
  .exact g t h
theorem P7{evs:List CA}(h:∀e∈evs,Jx e):∀ks∈evs.map Ey,F4 ks=AF:=λks V=>by
 refine AB λD=>?_;obtain⟨e,U,rfl⟩:=BH.mp V;obtain⟨F,J,_⟩:=h e U;refine D ?_;try clear D
 show(Gz (BP e.1)&&(Gz (CP e.2.1)&&(Gz (CP e.2.2.1)&&(Gz (BP e.2.2.2)&&AF))))=AF;have a:Gz (CP e.2.1)=AF:=F;have b:Gz (CP e.2.2.1)=AF:=J;rw[a,b];rfl
theorem Vm{a b:List (List AR)}(F:∀ks∈a,F4 ks=AF)(J:∀ks∈b,F4 ks=AF):HZ (.list [.list (a.map ES),.list (b.map ES)])=AF:=by
 refine AB λD=>?_;obtain⟨c,d⟩:=Mb a F;obtain⟨e,f⟩:=Mb b J;refine D ?_;try clear D
 simp[HZ,Iw,Kb,Jp,Kc,c,e];(first|lia|omega)
theorem cF{a:List (List AR)}(J:∀ks∈a,F4 ks=AF)(F:List Int):HZ (.tuple [.list (a.map ES),.list (F.map GC)])=AF:=by
 refine AB λD=>?_;obtain⟨c,d⟩:=Mb a J;obtain⟨e,f⟩:=LD F;refine D ?_;try clear D
 simp[HZ,Iw,Kb,Jp,Kc,c,e,f];(first|lia|omega)
theorem Ng{K:Ar}{F:List Ah}{evs:List CA}(W:H l=AA (.lst [.ref a,.ref b]))(J:H a=AA (.lst D))(U:H b=AA (.lst xs))(Z:FZ H D F)(Y:Bv H xs (evs.map Ey)):Fi K H (.ref l) (.list [.list ((F.map Ah.mz).map ES),.list ((evs.map Ey).map ES)]):=.lst (AV W) (.cons (Bv.dv (cG Z) J) (.cons (Y.dv U) .nil))
theorem UM{K:Ar}{evs:List CA}{D:List Int}(U:H l=AA (.tup [.ref a,.ref b]))(F:H a=AA (.lst xs))(J:H b=AA (.lst (D.map AH.int)))(W:Bv H xs (evs.map Ey)):Fi K H (.ref l) (.tuple [.list ((evs.map Ey).map ES),.list (D.map GC)]):=.tup (Ao U) (.cons (W.dv F) (.cons (.lst (AV J) (OX D)) .nil))
theorem QF{evs:List CA}(h:Bv H xs (evs.map Ey))(s:Int)(D:List Int):∀n≤evs.length,Bv H (FE s D xs n) ((FE s D evs n).map Ey)
 |0,_=>Fq _|n+1,B=>by
  have A:=h.bj;rw[Am]at A;have F:=B8 (show n<xs.length by(first|lia|omega));have J:=B8 (show n<evs.length by(first|lia|omega));refine AB λY=>?_;obtain⟨a,C,Z,U,q⟩:=h.at F;rw[BV,J]at U;cases U;refine Y ?_;try clear Y
  rw[Z]at F;rw[Nj s D xs F,Nj s D evs J,Bx];have W:=QF h s D n (by(first|lia|omega));split;.rw[Eg,SX,Eg];exact W
  .exact W.ft q
theorem Z9(h:∀e∈evs,Jx e)(s:Int)(U:List Int)(n:Nat):∀e∈FE s U evs n,Jx e:=λe J=>by
 refine AB λD=>?_;obtain⟨j,_,F⟩:=Xx.mp J;refine D ?_;try clear D
 exact h e (B9 F)
theorem aE(hi:i<n):(i:Int)∈FG s F n↔FH s F i=AF:=by
  unfold FG;rw[BH];constructor
  . intro J;refine AB λD=>?_;obtain⟨j,U,e⟩:=J;refine D ?_;try clear D
    rw[<-vN.mp e];exact(DX.mp U).2
  .exactλh=>⟨i,DX.mpr ⟨M0.mpr hi,h⟩,rfl⟩
theorem aA:∀(xs:List AH),((Jf (DY xs.length) xs).filter λq=>!FH s D q.1).map (λq:Nat×AH=>q.2)=FE s D xs xs.length:=λxs=>by
 have F:∀n≤xs.length,((Jf (DY n) (xs.take n)).filter λq=>!FH s D q.1).map (λq:Nat×AH=>q.2)=FE s D xs n:=by intro n;induction n with|zero=>exactλ_=>rfl|succ n J=> intro U;have e:=B8 (show n<xs.length by(first|lia|omega));rw[Nj s D xs e,<-J (by(first|lia|omega)),pU,DD,e,List.zip_append (by rw[My,Eh];(first|lia|omega)),Mu,Bx];congr 1;cases h:FH s D n<;>simp[h]
 have:=F xs.length (Af _);rwa[Cn (Af _)]at this
theorem Z5(k:Int)(F:List Int):Dk (.int k) (F.map AH.int)=AF↔k∈F:=by
  unfold Dk;rw[List.any_map,LX];constructor
  . intro J;refine AB λD=>?_;obtain⟨n,U,q⟩:=J;refine D ?_;try clear D
    have q:(n==k)=AF:=q;have e:n=k:=O1 q;rw[<-e];exact U
  . intro h;exact⟨k,h,AB0 k⟩
theorem Z2(D:List Int):(D.map AH.int).all Ie=AF:=by rw[pE,SN];exactλ_ _=>rfl
theorem bG{K:Ar}{ad:Kk}(T:B0 K mg ad):BW P w K mg base Bs P6 ad.abz ad.aaz ["_law_script"] (N3 K):=by
  have G_u_law_at:=gF.mk (Nn (P:=P) (w:=w) (base:=base) T) T.jx T.dy.kp T.ji;have G_u_law_small_plan:=gF.mk (bQ (P:=P) (w:=w) (base:=base) T) T.qc T.dz.kp T.ot;have G_u_law_events:=gF.mk (aW (P:=P) (w:=w) (base:=base) T) T.vj T.kj.kp T.vb;have G_u_law_rows:=gF.mk (bO (P:=P) (w:=w) (base:=base) T) T.yq T.qh.kp T.yd;have G_told_once:=gF.mk (b8 (P:=P) (w:=w) (base:=base) T) T.zx T.uf.kp T.zo;have G_u_law_told:=gF.mk (bY (P:=P) (w:=w) (base:=base) T) T.yt T.qj.kp T.yf;have G_u_law_slack:=gF.mk (bP (P:=P) (w:=w) (base:=base) T) T.wq T.oa.kp T.wg;have G_u_law_late:=gF.mk (bF (P:=P) (w:=w) (base:=base) T) T.yp T.qg.kp T.yc;have G_on_time:=Ug (P:=P) (w:=w) (base:=base) T;have G_u_law_whole:=gF.mk (Uh (P:=P) (w:=w) (base:=base) T) T.oh T.gg.kp T.og;have G_u_law_no_slack:=gF.mk (bL (P:=P) (w:=w) (base:=base) T) T.tw T.iq.kp T.rp;refine T.adz.ok U0 (λvs H Q E h=>?_) (λcdv A outer s H vs Q E hr h=>?_)
  . refine AB λnG=>?_;obtain⟨a,ns,rfl,_⟩:=h;refine nG ?_;try clear nG
    rfl
  . refine AB λnG=>?_;obtain⟨a,ns,rfl,hS,hl,k⟩:=h;refine nG ?_;try clear nG
    have nd:=U0.nd;refine⟨_,(Aq (Ax 1 nd (Ci K (CJ (AG AM (AG AM (AG AM AQ)))) (AS BY (AS CD (A9 G_u_law_at hr (AG (AE 0) (AG AM AQ))) AM) AM))) (Aq (Ax 2 nd (A9 G_u_law_small_plan hr (AG (AE 0) (AG AM (AG AM (AG (AE 1) AQ)))))) (Aq (Ax 3 nd (A9 G_u_law_events hr (AG (AE 0) (AG (GV (Ow (K:=K)) (AE 0) (FQ AM) (FQ (AS CC AM (AE 1)))) AQ)))) (Aq (Ax 4 nd (AS BY (A9 G_u_law_at hr (AG (AE 0) (AG AM AQ))) (AS CC (CN (JT (K:=K)) (by rfl) T.ke ID (AG (AE 3) AQ)) AM))) (Aq (Ax 5 nd (k9 (K:=K) (AS Oi (GV (Ow (K:=K)) (AE 3) (FQ (AE 4)) Hv) (GV (Ow (K:=K)) (AE 3) Hv (FQ (AE 4)))) (Oq oV AM))) (Aq (Ax 6 nd (A9 G_u_law_rows hr (AG (AE 2) (AG (AE 3) AQ)))) (Aq (Ax 7 nd (CJ (AG (Ja (OR (K:=K)) (by rfl) T.ip Jj (AG (AE 2) AQ)) (AG (Ja (OR (K:=K)) (by rfl) T.ip Jj (AG (AE 3) AQ)) AQ)))) (Aq (Bc (Fj (G6 (G5 (Ga (A9 G_u_law_told hr (AG (A9 G_told_once hr (AG (Ci K (AE 7) AM) (AG (Ci K (AE 7) AM) AQ))) (AG (AE 6) AQ))))) (Im (G5 (Ga (A9 G_u_law_told hr (AG (A9 G_told_once hr (AG (Ja (OR (K:=K)) (by rfl) T.ip Jj (AG (AE 2) AQ)) (AG (AE 5) AQ))) (AG (AE 6) AQ)))))))) (Ac (BA FP)) Bt) (Aq (Ax 8 nd (A9 G_u_law_slack hr (AG (AE 0) AQ))) (Aq (Ax 9 nd (A9 G_u_law_late hr (AG (AE 8) (AG (AE 3) AQ)))) (Aq (Ax 10 nd (KJ G_on_time (hr.uo (by decide)) (by rfl) T.tu T.mw.kp T.ro .nil W8 (AG (AE 8) (AG (Ci K (AE 7) AM) AQ)))) (Aq (Bc (Fj (G6 (G5 (Ga (CN (HK (K:=K)) (by rfl) T.ax Iq (AG (AE 10) (AG (HR (v:=.ty "tuple") (by rfl) T.yy qF rfl) AQ))))) (G6 (BK Oj (CN (JT (K:=K)) (by rfl) T.ke ID (AG (AE 10) AQ)) AM (BL _)) (Im (BK (LJ (K:=K) hr.xt) (Av 7) (CJ (AG (AE 2) (AG (AE 3) AQ))) (BL _)))))) (Ac (BA FP)) Bt) (Aq (Bc (Fj (G6 (G5 (Ga (CN (HK (K:=K)) (by rfl) T.ax Iq (AG (Ay K (AE 10) AM) (AG (HR (v:=.ty "list") (by rfl) T.ip Jj rfl) AQ))))) (G6 (G5 (Ga (CN (HK (K:=K)) (by rfl) T.ax Iq (AG (Ay K (AE 10) AM) (AG (HR (v:=.ty "list") (by rfl) T.ip Jj rfl) AQ))))) (Im (BK (LJ (K:=K) hr.xt) (Ay K (AE 10) AM) (Av 9) (BL _)))))) (Ac (BA FP)) Bt) (Aq (Bc (BK (LK (K:=K) hr.jz) (Ee (A7 MD) [] trivial (Cm (K:=K) (Ay K (AE 10) AM)) (λ_ _ _ _=>Gb (G5 (Ga (A9 G_u_law_whole hr (AG (AE 0) AQ))))) (λ_ _ _ _=>(AE 0))) (CJ AQ) (BL _)) (Ac (BA FP)) Bt) (Aq (lP (i:=6) (osc:=A7 MD) [("_law_late_here",9)] nd rfl (O6 rfl) rfl (KL (K:=K) (by rfl) T.bu (AE 3)) rfl rfl (by decide+kernel) (by decide+kernel) (by decide+kernel) ⟨rfl,rfl,trivial⟩ rfl rfl (by decide+kernel) (λ_ _ _ _=>Gb (BK (kM (K:=K)) (AE 0) (AE 2) (by with_unfolding_all rfl))) (λ_ _ _ _=>(AE 1))) (Aq (Bc (BK (LJ (K:=K) hr.xt) (Ay K (AE 10) AM) (Av 6) (BL _)) (Ac (BA FP)) Bt) (Aq (D4 (Ed K (Ay K (AE 10) AM) (AG Rw AQ))) (Aq (D4 (Ed K (Ay K (AE 10) AM) (AG Rw AQ))) (Aq (Bc (Fj (G6 (BK (LJ (K:=K) hr.xt) (Av 7) (CJ (AG (AE 2) (AG (AE 3) AQ))) (BL _)) (Im (BK (LJ (K:=K) hr.xt) (KJ G_on_time (hr.uo (by decide)) (by rfl) T.tu T.mw.kp T.ro .nil W8 (AG (AE 8) (AG (Ci K (AE 7) AM) AQ))) (CL (AG (AE 6) (AG (AE 9) AQ))) (BL _))))) (Ac (BA FP)) Bt) (Ac (BA (A9 G_u_law_no_slack hr (AG (Ci K (CJ (AG (AS E3 AM AM) (AG AM (AG FP (AG Rw (AG A6 (AG (CJ (AG AM AQ)) AQ))))))) (AS BY (AS CD (A9 G_u_law_at hr (AG (AE 0) (AG AM AQ))) AM) AM)) (AG (AE 3) AQ)))))))))))))))))))))))),?_⟩;have sz:An=16777216:=Dg;refineλ_ _ _ _ z1=>⟨BF rfl,λq hq=>?_⟩;refine As (o:=.lst [.int 10,.int 10,.int 5]) hq λH1 s1 eq=>?_;refine⟨a,ns,_,rfl,s1.aar hS,hl,by decide,λb1=>?_⟩;refine AB λnG=>?_;obtain⟨v,hv,mv⟩:=FN [AH.int 10,AH.int 10,AH.int 5] 3 rfl (by decide) (b1/16);obtain⟨many,rfl,hm⟩:∃m:Nat,v=.int (m:Int)/\(m=10\/m=5):=by
      simp only[B7,EH,ABt]at mv;rcases mv with rfl|rfl|rfl;.exact⟨10,rfl,.inl rfl⟩
      .exact⟨10,rfl,.inl rfl⟩
      .exact⟨5,rfl,.inr rfl⟩
    refine nG ?_;try clear nG
    refine⟨⟨by decide,by decide⟩,(by decide:(0:Int)<3),_,_,AV eq,hv,z1 _ _ ?_⟩;refineλ_ _ _ _ z2=>⟨a,ns,many,rfl,s1.aar hS,hl,hm,λlp H2 ps ss b ts z sn s2 hlp elp pr pl lss=>z2 _ _ ?_⟩;have s12:=s1.aa s2;refine AB λnG=>?_;obtain⟨cs,ecs,lcs⟩:=Zx ns many;refine nG ?_;try clear nG
    refineλ_ _ _ _ z3=>⟨_,rfl,_,rfl,a,_,rfl,s12.aar hS,λc hc=>?_⟩;rw[ecs];refine As (o:=.lst (cs.map AH.int)) hc λH3 s3 ec=>?_;have s13:=s12.aa s3;refine⟨a,c,ns,cs,rfl,s13.aar hS,hl,AV ec,by(first|lia|omega),λle H4 evs s4 hle⟨xs,exs,wxs⟩lev okE=>z3 _ _ ?_⟩;have s14:=s13.aa s4;have lxs:=wxs.bj;rw[Am]at lxs;have l10:evs.length<=10:=by(first|lia|omega)
    have elp4:=(s3.aa s4) _ _ elp;have pr4:=pr.ae (s3.aa s4).tp;obtain⟨L,prL⟩:=pl.pr (evs:=evs) lss (by(first|lia|omega)) (by(first|lia|omega)) okE;have kpl:=cN pl.aat;have rk:∀{qs:List C1},Fd ss L (λ_ _=>True) qs->∀ks∈qs.map (HG ss),Pt ks:=λti=>ti.agt prL okE pl.aat;have ptx:∀{evo:List CA},evo.Perm evs->∃L',IM ss L' evo/\∀s∈ss,∀a∈s.aw,((L' a).map (·.1)).Perm ((L a).map (·.1)):=λp=>by obtain⟨L',h'⟩:=pl.pr lss (by(first|lia|omega)) (by rw[p.length_eq];(first|lia|omega)) λe he=>okE e (p.mem_iff.mp he);exact⟨L',h',h'.nq prL p⟩
    clear pr pl elp s2 s3 s4 s13 s12 s1 ec eq hv mv ecs hm hlp hle;refineλ_ _ _ _ z4=>⟨a,ns,_,rfl,s14.aar hS,hl,by decide,λb2=>⟨_,.inl (AV exs),(by show(0:Int)<(xs.length:Int)+1;(first|lia|omega)),?_⟩⟩;obtain⟨ct,hct⟩:=vI (show 0<=b2%((xs.length:Int)+1)from DR _ (by(first|lia|omega)));have lct:ct<=xs.length:=by have:=EM b2 (show(0:Int)<(xs.length:Int)+1 by(first|lia|omega));(first|lia|omega)
    refine z4 [AA (.ref a),AA (.int (many:Int)),AA (.ref lp),AA (.ref le),AA (.int (b2%((xs.length:Int)+1))),AD,AD,AD,AD,AD,AD] _ ?_;rw[hct];have ev1:=Zw xs ct lct;have ev2:=Zy xs ct lct;refineλ_ _ _ _ z5=>⟨_,rfl,le,xs,rfl,AV exs,λp1 hp1=>?_⟩;rw[ev1];refine As (o:=.lst (xs.drop ct)) hp1 λH5 t1 ep1=>?_;refine⟨_,rfl,le,xs,rfl,AV (t1 _ _ exs),λp2 hp2=>?_⟩;rw[ev2];refine As (o:=.lst (xs.take ct)) hp2 λH6 t2 ep2=>?_;refine⟨p1,p2,_,_,rfl,rfl,t2 _ _ ep1,ep2,by rw[LZ,Eh];(first|lia|omega),λp3 hp3=>?_⟩;have t3:=Cz (o:=.lst (xs.drop ct++xs.take ct)) hp3;have ep3:(AW H6 p3 (.lst (xs.drop ct++xs.take ct))) p3=AA (.lst (xs.drop ct++xs.take ct)):=Az;generalize AW H6 p3 (.lst (xs.drop ct++xs.take ct))=H7 at t3 ep3⊢;refine⟨rfl,p3,_,rfl,AV ep3,λlo hlo=>z5 _ _ ?_⟩;refine As (o:=.lst (xs.drop ct++xs.take ct).reverse) hlo λH8 t4 elo=>?_;have t14:=t1.aa (t2.aa (t3.aa t4));have wlo:Bv H8 (xs.drop ct++xs.take ct).reverse ((evs.drop ct++evs.take ct).reverse.map Ey):=by have:=cH (D3 (Rq ct (wxs.ae t14.tp)) (Rt ct (wxs.ae t14.tp)));rwa[<-wI,<-pP,<-Bx,<-List.map_reverse]at this
    have pev:(evs.drop ct++evs.take ct).reverse.Perm evs:=(wN _).trans (X2.trans (by rw[Sa]));generalize(evs.drop ct++evs.take ct).reverse=evo at wlo pev;generalize(xs.drop ct++xs.take ct).reverse=xo at wlo elo;have S8:=s14.aa t14;have elp8:=t14 _ _ elp4;have pr8:=pr4.ae t14.tp;have exs8:=t14 _ _ exs;have wxs8:=wxs.ae t14.tp;clear t1 t2 t3 t4 t14 ep1 ep2 ep3 ev1 ev2 s14 elp4 pr4 exs wxs lct hct;refineλ_ _ _ _ z6=>⟨lp,le,ps,ss,evs,L,rfl,elp8,pr8,⟨xs,exs8,wxs8⟩,prL,λH9 dl ys qs s9 hdl edl wdl tid sod _=>z6 _ _ ?_⟩;have S9:=S8.aa s9;have elp9:=s9 _ _ elp8;have pr9:=pr8.ae s9.tp;have exs9:=s9 _ _ exs8;have wxs9:=wxs8.ae s9.tp;have elo9:=s9 _ _ elo;have wlo9:=wlo.ae s9.tp;clear s9 S8 elp8 pr8 exs8 wxs8 elo wlo;refineλ_ _ _ _ z7=>⟨lp,ps,rfl,.inl (AV elp9),λh0 hh0=>?_⟩;refine As (o:=.lst ps) hh0 λH10 u1 eh0=>?_;refine⟨le,xs,rfl,.inl (AV (u1 _ _ exs9)),λh1 hh1=>?_⟩;refine As (o:=.lst xs) hh1 λH11 u2 eh1=>⟨BF rfl,λhd hhd=>z7 _ _ ?_⟩;refine As (o:=.lst [.ref h0,.ref h1]) hhd λH12 u3 ehd=>?_;have U:=u1.aa (u2.aa u3);have S12:=S9.aa U;have lpE:=U _ _ elp9;have prE:=pr9.ae U.tp;have leX:=U _ _ exs9;have weX:=wxs9.ae U.tp;have loE:=U _ _ elo9;have woX:=wlo9.ae U.tp;have dlE:=U _ _ edl;have wdE:=wdl.ae U.tp;have h0E:=(u2.aa u3) _ _ eh0;have h1E:=u3 _ _ eh1;clear u1 u2 u3 U S9 elp9 pr9 exs9 wxs9 elo9 wlo9 edl wdl eh0 eh1;refineλ_ _ _ _ z8=>⟨_,_,AV ehd,Ag (j:=0) rfl,_,_,AV ehd,Ag (j:=1) rfl,h0,h1,ps,ss,evs,L,rfl,h0E,prE,⟨xs,h1E,weX⟩,prL,λH13 r1 ys1 qs1 s13 hr1 er1 wr1 ti1 so1 _=>?_⟩;rw[<-tid.afy ti1 (λ_ _ _ _=>.refl _) sod so1]at wr1;refine⟨r1,dl,ys1,ys,_,rfl,er1,s13 _ _ dlE,wr1,wdE.ae s13.tp,rk tid,λH14 s14=>⟨_,rfl,C4 ?_⟩⟩;have s24:=s13.aa s14;refine AB λnG=>?_;obtain⟨L',prL',pm⟩:=ptx pev;refine nG ?_;try clear nG
    refine⟨lp,ps,rfl,.inl (AV (s24 _ _ lpE)),λl3 hl3=>?_⟩;refine As (o:=.lst ps) hl3 λH15 s15 el3=>?_;have s25:=s24.aa s15;refine⟨l3,lo,ps,ss,evo,L',rfl,el3,prE.ae s25.tp,⟨xo,s25 _ _ loE,woX.ae s25.tp⟩,prL',λH16 r2 ys2 qs2 s16 hr2 er2 wr2 ti2 so2 _=>?_⟩;rw[ti2.afy tid pm so2 sod]at wr2;have s26:=s25.aa s16;refine⟨r2,dl,ys2,ys,_,rfl,er2,s26 _ _ dlE,wr2,wdE.ae s26.tp,rk tid,λH17 s17=>⟨_,rfl,C4 (z8 _ _ ?_)⟩⟩;have s27:=s26.aa s17;have S17:=S12.aa s27;have lpF:=s27 _ _ lpE;have prF:=prE.ae s27.tp;have leF:=s27 _ _ leX;have weF:=weX.ae s27.tp;have h0F:=s27 _ _ h0E;have h1F:=s27 _ _ h1E;have hdF:=s27 _ _ ehd;clear s13 s14 s15 s16 s17 s24 s25 s26 s27 S12 lpE prE leX weX h0E h1E ehd loE woX dlE wdE er1 er2 wr1 wr2 ti1 ti2 so1 so2 hr1 hr2 hl3 el3 prL' pm ptx rk tid sod hdl;refineλ_ _ _ _ z10=>⟨a,ns,rfl,S17.aar hS,hl,λH18 sl s18 sl0 sl1=>z10 _ _ ?_⟩;refineλ_ _ _ _ z11=>⟨sl,le,xs,evs,rfl,s18 _ _ leF,weF.ae s18.tp,l10,λH19 lt s19 hlt elt=>z11 _ _ ?_⟩;have s89:=s18.aa s19;have S19:=S17.aa s89;have lpG:=s89 _ _ lpF;have prG:=prF.ae s89.tp;have leG:=s89 _ _ leF;have weG:=weF.ae s89.tp;have h0G:=s89 _ _ h0F;have h1G:=s89 _ _ h1F;have hdG:=s89 _ _ hdF;clear s18 s19 s89 S17 lpF prF leF weF h0F h1F hdF hlt;refineλ_ _ _ _ z12=>⟨_,_,AV hdG,Ag (j:=1) rfl,.int sl,.int,h1,xs,evs,rfl,.int sl,h1G,weG,l10,.inl ⟨sl,rfl,sl0,sl1,λH20 t lk ll s20 hlk hll nkl et elk ell=>z12 _ _ ?_⟩⟩;have lpI:=s20 _ _ lpG;have prI:=prG.ae s20.tp;have leI:=s20 _ _ leG;have weI:=weG.ae s20.tp;have h0I:=s20 _ _ h0G;have h1I:=s20 _ _ h1G;have hdI:=s20 _ _ hdG;have ltI:=s20 _ _ elt;have S20:=S19.aa s20;refineλ_ _ _ _ z13=>⟨_,"tuple",_,AF,rfl,.tup et,rfl,_,rfl,C4 ⟨_,.inr (Ao et),rfl,_,rfl,C4 ⟨_,rfl,BF rfl,λg hg=>?_⟩⟩⟩;refine As (o:=.lst [.ref lp,.ref le]) hg λH21 s21 eg=>?_;refine LH (Ng (s21 _ _ hdI) (s21 _ _ h0I) (s21 _ _ h1I) (prI.ae s21.tp) (weI.ae s21.tp)) (Ng eg (s21 _ _ lpI) (s21 _ _ leI) (prI.ae s21.tp) (weI.ae s21.tp)) (Vm kpl (P7 okE)) ⟨_,rfl,C4 (z13 _ _ ?_)⟩;have et1:=s21 _ _ et;have ell1:=s21 _ _ ell;refineλ_ _ _ _ z15=>⟨_,_,Ao et1,Ag (j:=0) rfl,_,"list",_,AF,rfl,.lst (s21 _ _ elk),rfl,_,rfl,C4 ⟨_,_,Ao et1,Ag (j:=1) rfl,_,"list",_,AF,rfl,.lst ell1,rfl,_,rfl,C4 ⟨_,_,Ao et1,Ag (j:=1) rfl,_,rfl,?_⟩⟩⟩;refine LH (.lst (AV ell1) (OX _)) (.lst (AV (s21 _ _ ltI)) (OX _)) (mQ _) ⟨_,rfl,C4 (z15 _ _ ?_)⟩;have ll10:=QG sl (BX evs) evs.length;refineλ_ _ _ _ z17=>⟨_,_,Ao et1,Ag (j:=1) rfl,ll,rfl,⟨_,AV ell1⟩,OT (K:=K) (λ_=>AO) (λx=>x) (AV ell1) (by rw[Am];(first|lia|omega)) (λx R hx r=>?_) (λx R hx h=>by cases h) λD hD=>?_⟩
    . refine AB λnG=>?_;obtain⟨n,_,rfl⟩:=BH.mp hx;refine nG ?_;try clear nG
      exact⟨_,rfl,_,rfl,r⟩
    rw[show(((FG sl (BX evs) evs.length).map AH.int).filter λ_=>AO).map (λx=>x)=[]by simp];refine As (o:=.lst []) hD λH22 s22 eD=>⟨Bd _,λD2 hD2=>?_⟩;refine As (o:=.lst []) hD2 λH23 s23 eD2=>?_;refine⟨D,D2,_,rfl,rfl,AV (s23 _ _ eD),AV eD2,_,rfl,C4 (z17 _ _ ?_)⟩;have v3:=s21.aa (s22.aa s23);have lpJ:=v3 _ _ lpI;have prJ:=prI.ae v3.tp;have leJ:=v3 _ _ leI;have weJ:=weI.ae v3.tp;have h0J:=v3 _ _ h0I;have h1J:=v3 _ _ h1I;have hdJ:=v3 _ _ hdI;have ltJ:=v3 _ _ ltI;have etJ:=v3 _ _ et;have ekJ:=v3 _ _ elk;have elJ:=v3 _ _ ell;have S23:=S20.aa v3;clear s21 s22 s23 v3 eD eD2 et1 ell1 lpI prI leI weI h0I h1I hdI ltI et elk ell S20;refineλ_ _ _ _ z19=>⟨le,rfl,⟨_,AV leJ⟩,WG (K:=K) (xs:=xs) (λi _=>!FH sl (BX evs) i) (λi x=>x) (by(first|lia|omega)) (λH1 s1=>AV (s1 _ _ leJ)) (λi x p o1 o2 H1 R _ _ e q=>⟨p,_,rfl,Ao e,rfl,_,_,rfl,_,_,rfl,rfl,q⟩) (λi x H1 R hx s1 q=>?_) (λi x H1 R hx _ s1 q=>q H1 (CS _)) λH24 s24 D hD=>?_⟩
    . have hi:=(Bh.mp hx).1;refine⟨lt,_,rfl,.inl (AV (s1 _ _ ltJ)),rfl,Z2 _,_,rfl,?_⟩;have e:FH sl (BX evs) i=Dk (.int (i:Int)) ((FG sl (BX evs) evs.length).map AH.int):=Lu.mpr (by rw[Z5,aE (by(first|lia|omega))]);rw[e]at q;exact q H1 (CS _)
    rw[aA,lxs];refine As (o:=.lst (FE sl (BX evs) xs evs.length)) hD λH25 s25 eD=>z19 _ _ ?_;have v3:=s24.aa s25;have wk:=(QF weJ sl (BX evs) evs.length (Af _)).ae v3.tp;have kok:=P7 (Z9 okE sl (BX evs) evs.length);have etK:=v3 _ _ etJ;have ekK:=v3 _ _ ekJ;have elK:=v3 _ _ elJ;have lenk:=UP sl (BX evs) xs evs.length;refineλ_ _ _ _ z20=>⟨_,_,Ao etK,Ag (j:=0) rfl,_,rfl,LH (wk.dv ekK) (wk.dv eD) (XS kok) ⟨_,rfl,C4 (z20 _ _ ?_)⟩⟩;refineλ_ _ _ _ z22=>⟨_,_,Ao etK,Ag (j:=0) rfl,.inl ⟨rfl,_,AV ekK⟩,lk,_,_,rfl,rfl,ekK,by(first|lia|omega),z22 _ _ ?_⟩;have ntk:t≠lk:=λq=>by rw[q,ekK]at etK;cases etK
    have e26:∀b o,b≠lk->H25 b=AA o->(AW H25 lk (.lst (FE sl (BX evs) xs evs.length++[.non]))) b=AA o:=λb o nb e=>by rw[BC nb];exact e
    generalize AW H25 lk (.lst (FE sl (BX evs) xs evs.length++[.non]))=H26 at e26⊢;have el26:=e26 _ _ nkl.symm elK;refineλ_ _ _ _ z23=>⟨_,_,Ao (e26 _ _ ntk etK),Ag (j:=1) rfl,.inl ⟨rfl,_,AV el26⟩,ll,_,_,rfl,rfl,el26,by rw[Am];(first|lia|omega),z23 _ _ ?_⟩;have e27:∀b o,b≠lk->b≠ll->H25 b=AA o->(AW H26 ll (.lst ((FG sl (BX evs) evs.length).map AH.int++[.non]))) b=AA o:=λb o nb nb2 e=>by rw[BC nb2];exact e26 b o nb e
    generalize AW H26 ll (.lst ((FG sl (BX evs) evs.length).map AH.int++[.non]))=H27 at e27⊢;have kp:∀{b:AI}{o o':DV},H19 b=AA o->H23 b=AA o'->H27 b=AA o':=λe e'=>e27 _ _ (B6 e hlk) (B6 e hll) (v3 _ _ e');have tp:CM H23 H27:=λb ys e=>e27 _ _ (λq=>by rw[q,ekJ]at e;cases e) (λq=>by rw[q,elJ]at e;cases e) (v3 _ _ e);have S27:Ak H H27:=λb o e=>kp (S19 _ _ e) (S23 _ _ e);have lpM:=kp lpG lpJ;have leM:=kp leG leJ;have h0M:=kp h0G h0J;have h1M:=kp h1G h1J;have hdM:=kp hdG hdJ;have ltM:=kp elt ltJ;have prM:=prJ.ae tp;have weM:=weJ.ae tp;have dM:=e27 _ _ (B6 (s24 _ _ ekJ) hD).symm (B6 (s24 _ _ elJ) hD).symm eD;clear e26 e27 kp tp el26 etK ekK elK etJ ekJ elJ S23 S19 v3 s24 s25 eD hD lpJ prJ leJ weJ h0J h1J hdJ ltJ lpG prG leG weG h0G h1G hdG elt wk hlk hll s20 ntk nkl;refineλ_ _ _ _ z24=>⟨_,rfl,BF rfl,λg hg=>?_⟩;refine As (o:=.lst [.ref lp,.ref le]) hg λH28 s28 eg=>?_;refine LH (Ng (s28 _ _ hdM) (s28 _ _ h0M) (s28 _ _ h1M) (prM.ae s28.tp) (weM.ae s28.tp)) (Ng eg (s28 _ _ lpM) (s28 _ _ leM) (prM.ae s28.tp) (weM.ae s28.tp)) (Vm kpl (P7 okE)) ⟨_,rfl,C4 ?_⟩;refine⟨_,_,AV (s28 _ _ hdM),Ag (j:=1) rfl,.int sl,.int,h1,xs,evs,rfl,.int sl,s28 _ _ h1M,weM.ae s28.tp,l10,.inl ⟨sl,rfl,sl0,sl1,λH29 t2 lk2 ll2 s29 _ _ _ et2 ek2 el2=>⟨BF rfl,λp hp=>?_⟩⟩⟩;refine As (o:=.tup [.ref D,.ref lt]) hp λH30 s30 ep=>?_;have v3:=s28.aa (s29.aa s30);have wk:=(QF weM sl (BX evs) evs.length (Af _)).ae v3.tp;refine LH (UM (s30 _ _ et2) (s30 _ _ ek2) (s30 _ _ el2) wk) (UM ep (v3 _ _ dM) (v3 _ _ ltM) wk) (cF kok _) ⟨_,rfl,C4 (z24 _ _ ?_)⟩;have S30:=S27.aa v3;have leN:=v3 _ _ leM;have weN:=weM.ae v3.tp;refine⟨BF rfl,λq hq=>?_⟩;refine As (o:=.lst [.int 1]) hq λH31 s31 eq=>⟨BF rfl,λq2 hq2=>?_⟩;refine As (o:=.lst [.int (0-1),.int 1000000001,.bl AF,.non,.str "3",.ref q]) hq2 λH32 s32 eq2=>?_;have v2:=s31.aa s32;refine⟨a,ns,_,rfl,(S30.aa v2).aar hS,hl,by decide,λb3=>?_⟩;refine AB λnG=>?_;obtain⟨v,hv,mv⟩:=FN [AH.int (0-1),.int 1000000001,.bl AF,.non,.str "3",.ref q] 6 rfl (by decide) (b3/48);refine nG ?_;try clear nG
    refine⟨⟨by decide,by decide⟩,(by decide:(0:Int)<6),_,_,AV eq2,hv,?_⟩;refine AB λnG=>?_;obtain⟨g,hg,ha⟩:∃g,FD H32 v g/\Ko 0 1000000000 v=AO:=by
      simp only[B7,EH,ABt]at mv;rcases mv with rfl|rfl|rfl|rfl|rfl|rfl;.exact⟨_,.int _,rfl⟩
      .exact⟨_,.int _,rfl⟩
      .exact⟨_,.bl _,rfl⟩
      .exact⟨_,.non,rfl⟩
      .exact⟨_,.str _ (by decide),rfl⟩
      .exact⟨_,.lst (s32 _ _ eq),rfl⟩
    refine nG ?_;try clear nG
    exact⟨v,g,le,xs,evs,rfl,hg,v2 _ _ leN,weN.ae v2.tp,l10,ha,λH' _=>k H'⟩
theorem Zl{l:PH}{K:Ar}(F:D "law"=AA (.ref U))(T:B0 K D J):∃V:Au,(∀(s:AU)(v:AK),PB s V ⟨[v],[]⟩ [("_law_script",v)])/\∀base:A3,K.In base->base.Ns BI D->BW l.prog w K D base Bs P6 U V ["_law_script"] (N3 K):=by
 have e:=F.symm.trans T.afr;refine AB λW=>?_;cases e;obtain⟨_,_,_,_,_,_,_,_,_,e,_,_⟩:=T.adz.ex;refine W ?_;try clear W
 exact⟨J.aaz,λs v=>by rw[e];exact .of_eq rfl,λbase _ _=>bG T⟩
end
noncomputable def PySem.W.Fast.tw11590836495959076837:Unit:=()
noncomputable def PySem.W.Fast.tw444839090999487217:Unit:=()
noncomputable def PySem.W.Fast.tw10972498050672475399:Unit:=()
noncomputable def PySem.W.Fast.tw10060338977964430018:Unit:=()
noncomputable def PySem.W.Fast.tw2259376732031765338:Unit:=()
noncomputable def PySem.W.Fast.tw17620411354835219360:Unit:=()
noncomputable def PySem.W.Fast.tw4600857658195561180:Unit:=()
noncomputable def PySem.W.Fast.tw14390766277170964605:Unit:=()
noncomputable def PySem.W.Fast.tw11403793186197002243:Unit:=()
noncomputable def PySem.W.Fast.tw13819735310765840113:Unit:=()
noncomputable def PySem.W.Fast.tw9478508272456172177:Unit:=()
noncomputable def PySem.W.Fast.tw3615639390749751008:Unit:=()
noncomputable def PySem.W.Fast.tw5800510520335936769:Unit:=()
noncomputable def PySem.W.Fast.tw11125181237254275759:Unit:=()
noncomputable def PySem.W.Fast.tw13731096015563888380:Unit:=()
noncomputable def PySem.W.Fast.tw10340356602272396942:Unit:=()
noncomputable def PySem.W.Fast.tw14678494086444260187:Unit:=()
noncomputable def PySem.W.Fast.tw7951863861111523684:Unit:=()
noncomputable def PySem.W.Fast.tw5881284465571237020:Unit:=()
noncomputable def PySem.W.Fast.tw4762425969381774058:Unit:=()
noncomputable def PySem.W.Fast.tw2609133516334071934:Unit:=()
noncomputable def PySem.W.Fast.tw1033812341141764721:Unit:=()
noncomputable def PySem.W.Fast.tw8034373235140819400:Unit:=()
noncomputable def PySem.W.Fast.tw2627857179870687425:Unit:=()
noncomputable def PySem.W.Fast.tw9696732660151469250:Unit:=()
noncomputable def PySem.W.Fast.tw10225379222018280993:Unit:=()
noncomputable def PySem.W.Fast.tw17191916699722600524:Unit:=()
noncomputable def PySem.W.Fast.tw11541040825769009327:Unit:=()
noncomputable def PySem.W.Fast.tw17725919890527319166:Unit:=()
noncomputable def PySem.W.Fast.tw15273678994846059002:Unit:=()
noncomputable def PySem.W.Fast.tw8548119926321697723:Unit:=()
noncomputable def PySem.W.Fast.tw7485334240231228617:Unit:=()
noncomputable def PySem.W.Fast.tw10611700635298626255:Unit:=()
noncomputable def PySem.W.Fast.tw12212840765036885592:Unit:=()
noncomputable def PySem.W.Fast.tw7266607404198693569:Unit:=()
noncomputable def PySem.W.Fast.tw3998847079822422758:Unit:=()
noncomputable def PySem.W.Fast.tw17155784718676479822:Unit:=()
noncomputable def PySem.W.Fast.tw1273058520020803800:Unit:=()
noncomputable def PySem.W.Fast.tw17571304375666427813:Unit:=()
noncomputable def PySem.W.Fast.tw10982877485414942478:Unit:=()
noncomputable def PySem.W.Fast.tw2887372912078572168:Unit:=()
noncomputable def PySem.W.Fast.tw18332285336306117540:Unit:=()
noncomputable def PySem.W.Fast.tw11030947213016310262:Unit:=()
noncomputable def PySem.W.Fast.tw17626873691599006682:Unit:=()
noncomputable def PySem.W.Fast.tw16752683243527485125:Unit:=()
noncomputable def PySem.W.Fast.tw4718442398913381614:Unit:=()
noncomputable def PySem.W.Fast.tw11538420959319562633:Unit:=()
noncomputable def PySem.W.Fast.tw16734103826548141014:Unit:=()
noncomputable def PySem.W.Fast.tw5524208399266697618:Unit:=()
noncomputable def PySem.W.Fast.tw5604957283143326508:Unit:=()
noncomputable def PySem.W.Fast.tw14210671314613065534:Unit:=()
noncomputable def PySem.W.Fast.tw13633318471720827288:Unit:=()
noncomputable def PySem.W.Fast.tw8796261333437656099:Unit:=()
noncomputable def PySem.W.Fast.tw17267215608216369068:Unit:=()
noncomputable def PySem.W.Fast.tw16660198435725333194:Unit:=()
noncomputable def PySem.W.Fast.tw6998955007127322977:Unit:=()
noncomputable def PySem.W.Fast.tw14603820509254397544:Unit:=()
noncomputable def PySem.W.Fast.tw10593543705331259165:Unit:=()
noncomputable def PySem.W.Fast.tw18194535205482445857:Unit:=()
noncomputable def PySem.W.Fast.tw15008155529725359456:Unit:=()
noncomputable def PySem.W.Fast.tw12650782221861079378:Unit:=()
noncomputable def PySem.W.Fast.tw2706434338026299813:Unit:=()
noncomputable def PySem.W.Fast.tw16887404687013310608:Unit:=()
noncomputable def PySem.W.Fast.tw16219821314896987303:Unit:=()
noncomputable def PySem.W.Fast.tw137003029050495542:Unit:=()
noncomputable def PySem.W.Fast.tw1209487269957097041:Unit:=()
noncomputable def PySem.W.Fast.tw16288780145201673026:Unit:=()
noncomputable def PySem.W.Fast.tw7105866832877179152:Unit:=()
noncomputable def PySem.W.Fast.tw7968123440251663112:Unit:=()
noncomputable def PySem.W.Fast.tw10286552859468297234:Unit:=()
noncomputable def PySem.W.Fast.tw10439059965297253422:Unit:=()
noncomputable def PySem.W.Fast.tw8521036676175306027:Unit:=()
noncomputable def PySem.W.Fast.tw13449598845550810128:Unit:=()
noncomputable def PySem.W.Fast.tw7213326607576215326:Unit:=()
noncomputable def PySem.W.Fast.tw4470950933598582129:Unit:=()
noncomputable def PySem.W.Fast.tw15682620588156557099:Unit:=()
noncomputable def PySem.W.Fast.tw6127706634112340155:Unit:=()
noncomputable def PySem.W.Fast.tw16985264609800301165:Unit:=()
noncomputable def PySem.W.Fast.tw10558445391873725298:Unit:=()
noncomputable def PySem.W.Fast.tw11144179064182656365:Unit:=()
noncomputable def PySem.W.Fast.tw9746290506560193506:Unit:=()
noncomputable def PySem.W.Fast.tw15876786057273143090:Unit:=()
noncomputable def PySem.W.Fast.tw5602508037112667261:Unit:=()
noncomputable def PySem.W.Fast.tw6754307013956745512:Unit:=()
noncomputable def PySem.W.Fast.tw12248235652242385180:Unit:=()
noncomputable def PySem.W.Fast.tw2326540399037476285:Unit:=()
noncomputable def PySem.W.Fast.tw6599318832027510571:Unit:=()
noncomputable def PySem.W.Fast.tw17730358619033380244:Unit:=()
noncomputable def PySem.W.Fast.tw5786161621541350272:Unit:=()
noncomputable def PySem.W.Fast.tw9767172254923448220:Unit:=()
noncomputable def PySem.W.Fast.tw8587424361888697297:Unit:=()
noncomputable def PySem.W.Fast.tw12865435478911829567:Unit:=()
noncomputable def PySem.W.Fast.tw15024711274267495443:Unit:=()
noncomputable def PySem.W.Fast.tw13472721397849595441:Unit:=()
noncomputable def PySem.W.Fast.tw13049209255000070786:Unit:=()
noncomputable def PySem.W.Fast.tw2716242716671829545:Unit:=()
noncomputable def PySem.W.Fast.tw12049445885535730291:Unit:=()
noncomputable def PySem.W.Fast.tw4688377554886114829:Unit:=()
noncomputable def PySem.W.Fast.tw3438958231135348945:Unit:=()
noncomputable def PySem.W.Fast.tw3990205569754070076:Unit:=()
noncomputable def PySem.W.Fast.tw13474811280694095900:Unit:=()
noncomputable def PySem.W.Fast.tw14293279504108028020:Unit:=()
noncomputable def PySem.W.Fast.tw2145854788879611353:Unit:=()
noncomputable def PySem.W.Fast.tw16379242864127119192:Unit:=()
noncomputable def PySem.W.Fast.tw6169682815828244550:Unit:=()
noncomputable def PySem.W.Fast.tw16516091618102039655:Unit:=()
noncomputable def PySem.W.Fast.tw2331434676300398986:Unit:=()
noncomputable def PySem.W.Fast.tw17764393977106449169:Unit:=()
noncomputable def PySem.W.Fast.tw2090185909954705840:Unit:=()
noncomputable def PySem.W.Fast.tw15629021402449360922:Unit:=()
noncomputable def PySem.W.Fast.tw16331659198360642258:Unit:=()
noncomputable def PySem.W.Fast.tw16280010215130456547:Unit:=()
noncomputable def PySem.W.Fast.tw3227034570742680927:Unit:=()
noncomputable def PySem.W.Fast.tw14570064557261545059:Unit:=()
noncomputable def PySem.W.Fast.tw3993850548717746071:Unit:=()
noncomputable def PySem.W.Fast.tw2896181042056486142:Unit:=()
noncomputable def PySem.W.Fast.tw16773479623706732436:Unit:=()
noncomputable def PySem.W.Fast.tw6195046745560392724:Unit:=()
noncomputable def PySem.W.Fast.tw8386606726367354305:Unit:=()
noncomputable def PySem.W.Fast.tw17254032459343582879:Unit:=()
noncomputable def PySem.W.Fast.tw4353900756139634247:Unit:=()
noncomputable def PySem.W.Fast.tw419696123707693551:Unit:=()
noncomputable def PySem.W.Fast.tw16374087356518713347:Unit:=()
noncomputable def PySem.W.Fast.tw2033825464166159725:Unit:=()
noncomputable def PySem.W.Fast.tw10576419621690788220:Unit:=()
noncomputable def PySem.W.Fast.tw14667459664002263075:Unit:=()
noncomputable def PySem.W.Fast.tw17138855219267557896:Unit:=()
noncomputable def PySem.W.Fast.tw673198575603597624:Unit:=()
noncomputable def PySem.W.Fast.tw16453553598381072643:Unit:=()
noncomputable def PySem.W.Fast.tw701993127964334478:Unit:=()
noncomputable def PySem.W.Fast.tw4810786171847336893:Unit:=()
noncomputable def PySem.W.Fast.tw14671424186306227805:Unit:=()
noncomputable def PySem.W.Fast.tw14606341132391095306:Unit:=()
noncomputable def PySem.W.Fast.tw10035506383260681181:Unit:=()
noncomputable def PySem.W.Fast.tw6455963936209844893:Unit:=()
noncomputable def PySem.W.Fast.tw4649420275200899264:Unit:=()
noncomputable def PySem.W.Fast.tw12922918637764655486:Unit:=()
noncomputable def PySem.W.Fast.tw9148735257935260348:Unit:=()
noncomputable def PySem.W.Fast.tw1152670507125739296:Unit:=()
noncomputable def PySem.W.Fast.tw18417681112126898272:Unit:=()
noncomputable def PySem.W.Fast.tw10462148092428102871:Unit:=()
noncomputable def PySem.W.Fast.tw7376843115404399587:Unit:=()
noncomputable def PySem.W.Fast.tw7971309190418193066:Unit:=()
noncomputable def PySem.W.Fast.tw4136930240470568727:Unit:=()
noncomputable def PySem.W.Fast.tw13280688251924112651:Unit:=()
noncomputable def PySem.W.Fast.tw14783974030233208135:Unit:=()
noncomputable def PySem.W.Fast.tw14877236908208059079:Unit:=()
noncomputable def PySem.W.Fast.tw18103501040802905883:Unit:=()
noncomputable def PySem.W.Fast.tw13264017380222778839:Unit:=()
noncomputable def PySem.W.Fast.tw12655025728999462222:Unit:=()
noncomputable def PySem.W.Fast.tw627921037460406612:Unit:=()
noncomputable def PySem.W.Fast.tw18296185825471406405:Unit:=()
noncomputable def PySem.W.Fast.tw8051305705438117390:Unit:=()
noncomputable def PySem.W.Fast.tw17881466723071058949:Unit:=()
noncomputable def PySem.W.Fast.tw1658294184150579894:Unit:=()
noncomputable def PySem.W.Fast.tw17663824224081632147:Unit:=()
noncomputable def PySem.W.Fast.tw7369700190427714770:Unit:=()
noncomputable def PySem.W.Fast.tw8893939578450161247:Unit:=()
noncomputable def PySem.W.Fast.tw280722740735383336:Unit:=()
noncomputable def PySem.W.Fast.tw1776856645628708523:Unit:=()
noncomputable def PySem.W.Fast.tw13008734506810611809:Unit:=()
noncomputable def PySem.W.Fast.tw9086151313617718297:Unit:=()
noncomputable def PySem.W.Fast.tw2559054986831435785:Unit:=()
noncomputable def PySem.W.Fast.tw632563479700515311:Unit:=()
noncomputable def PySem.W.Fast.tw3217527469410326378:Unit:=()
noncomputable def PySem.W.Fast.tw13533491763562323624:Unit:=()
noncomputable def PySem.W.Fast.tw12018516326370972402:Unit:=()
noncomputable def PySem.W.Fast.tw16172332784180182642:Unit:=()
noncomputable def PySem.W.Fast.tw15786238206665726020:Unit:=()
noncomputable def PySem.W.Fast.tw14101675513805748797:Unit:=()
noncomputable def PySem.W.Fast.tw12876102523976183830:Unit:=()
noncomputable def PySem.W.Fast.tw1325840555100780531:Unit:=()
noncomputable def PySem.W.Fast.tw14198220533194383248:Unit:=()
noncomputable def PySem.W.Fast.tw4919219431917093208:Unit:=()
noncomputable def PySem.W.Fast.tw16648292278766493929:Unit:=()
noncomputable def PySem.W.Fast.tw10420905449221934604:Unit:=()
noncomputable def PySem.W.Fast.tw561413490520724211:Unit:=()
noncomputable def PySem.W.Fast.tw13785473647044773876:Unit:=()
noncomputable def PySem.W.Fast.tw5564381715688432935:Unit:=()
noncomputable def PySem.W.Fast.tw6871667914565554850:Unit:=()
noncomputable def PySem.W.Fast.tw9667848340125906105:Unit:=()
noncomputable def PySem.W.Fast.tw788129459903498994:Unit:=()
noncomputable def PySem.W.Fast.tw16669999129138841821:Unit:=()
noncomputable def PySem.W.Fast.tw17056685516767716806:Unit:=()
noncomputable def PySem.W.Fast.tw13870206916246982231:Unit:=()
noncomputable def PySem.W.Fast.tw4122260244052650332:Unit:=()
noncomputable def PySem.W.Fast.tw15590190096692106062:Unit:=()
noncomputable def PySem.W.Fast.tw9334402925518214999:Unit:=()
noncomputable def PySem.W.Fast.tw18030436094424875020:Unit:=()
noncomputable def PySem.W.Fast.tw5386992808880615315:Unit:=()
noncomputable def PySem.W.Fast.tw2349290895880078436:Unit:=()
noncomputable def PySem.W.Fast.tw11630569257679831824:Unit:=()
noncomputable def PySem.W.Fast.tw13192802494177933843:Unit:=()
noncomputable def PySem.W.Fast.tw16816458287505640206:Unit:=()
noncomputable def PySem.W.Fast.tw15895861786628117776:Unit:=()
noncomputable def PySem.W.Fast.tw11964153373009513572:Unit:=()
noncomputable def PySem.W.Fast.tw1032262799559602464:Unit:=()
noncomputable def PySem.W.Fast.tw7515744683949334250:Unit:=()
noncomputable def PySem.W.Fast.tw7485041025019422729:Unit:=()
noncomputable def PySem.W.Fast.tw6495148022116381277:Unit:=()
noncomputable def PySem.W.Fast.tw7969568133738925831:Unit:=()
noncomputable def PySem.W.Fast.tw17846428164974090357:Unit:=()
noncomputable def PySem.W.Fast.tw17168276356008389609:Unit:=()
noncomputable def PySem.W.Fast.tw15855186249112038514:Unit:=()
noncomputable def PySem.W.Fast.tw1365811835065989755:Unit:=()
noncomputable def PySem.W.Fast.tw5138541790931306097:Unit:=()
noncomputable def PySem.W.Fast.tw3683710710229048813:Unit:=()
noncomputable def PySem.W.Fast.tw3029524007857252904:Unit:=()
noncomputable def PySem.W.Fast.tw7178371135326072844:Unit:=()
noncomputable def PySem.W.Fast.tw9477487429498023131:Unit:=()
noncomputable def PySem.W.Fast.tw4769790555738461350:Unit:=()
noncomputable def PySem.W.Fast.tw2766371532888890755:Unit:=()
noncomputable def PySem.W.Fast.tw3772605785251344632:Unit:=()
noncomputable def PySem.W.Fast.tw16577328458676210653:Unit:=()
noncomputable def PySem.W.Fast.tw15543989944085366732:Unit:=()
noncomputable def PySem.W.Fast.tw3095873453302131122:Unit:=()
noncomputable def PySem.W.Fast.tw9670569579316275607:Unit:=()
noncomputable def PySem.W.Fast.tw4868541388832726813:Unit:=()
noncomputable def PySem.W.Fast.tw2895635438929960258:Unit:=()
open PySem PySem.W PyProof.Rows
set_option maxRecDepth 100000 in
set_option maxHeartbeats 0 in
theorem PySem.Challenge.cw_brooktally_k29_rows_by_sets_holds : PySem.Challenge.rw_brooktally_k29_rows_by_sets.Holds := by
  w_on; o_law; k_head; (case hw => w_witness2)
  k_fill
  refine oY (l := yC) (n := 63) (k := P6) (x := "_law_script") (CX := Bs) (sp := N3) rfl (by decide) rfl ⟨rfl, by decide, by decide⟩ (fun w h Y => W.kIn_of Y) ?F aF (fun _ _ _ _ z => z)
  case F =>
    intro w mg fa h KX G hmg
    refine' Zl hmg (fR KX G ?om ?ur ?oj ?uq ?a_Clock ?bw ?qw ?gh ?vw ?ku ?ud ?rh ?xg ?rg ?xf ?kr ?uc ?rj ?xh ?xv ?aav ?xw ?aaw ?uy ?zg ?uw ?zd ?ux ?ze ?xx ?aax ?kx ?ue ?rf ?qy ?qz ?qx ?oo ?uv ?iw ?qd ?iz ?qe ?eh ?kh ?gi ?nt ?jh ?qk ?ja ?qf ?gj ?nu ?rl ?xj ?ky ?uf ?ri ?mw ?oq ?dy ?fb ?bc ?fg ?km ?jf ?qi ?gk ?ny ?jb ?du ?cv ?fw ?cc ?dq ?cp ?dz ?ff ?kj ?gm ?cj ?df ?kb ?je ?qh ?gq ?gg ?jg ?qj ?jd ?qg ?gn ?oa ?cy ?iq ?abz ?adz ?a_FlowError ?aei ?a_BadSlack ?aau ?pg_Clock ?hd_Clock ?po_Clock ?sa_Clock ?oi ?gf ?ik ?fn_Clock___init__ ?fn_Clock_admit ?mks_Clock ?kp_Clock ?ga_BadSlack ?gt_BadSlack ?ck_BadSlack ?sb_BadSlack ?so_BadSlack ?cl_BadSlack ?za ?zq ?zp ?aaf ?nj ?yk ?aci ?l_PAIRED ?abk ?l_TELLERS ?abj ?l_TALLIES ?ady ?acw ?bu ?acx ?ax ?ke ?ip ?ui ?qr ?nh ?acy ?fu ?aek ?ael ?yy)
    (case om | oj | a_Clock | bw | gh | ku | rh | rg | kr | rj | xv | xw | uy | uw | ux | xx | kx | rf | qz | oo | iw | iz | eh | gi | jh | ja | gj | rl | ky | ri | oq | fb | fg | jf | gk | jb | cv | cc | cp | ff | gm | df | je | gq | jg | jd | gn | cy | abz | a_FlowError | a_BadSlack | pg_Clock | hd_Clock | po_Clock | sa_Clock | oi | gf | ik | fn_Clock___init__ | fn_Clock_admit | mks_Clock | kp_Clock | ga_BadSlack | gt_BadSlack | ck_BadSlack | sb_BadSlack | so_BadSlack | cl_BadSlack | yk | aci | l_PAIRED | abk | l_TELLERS | abj | l_TALLIES | ady | acw | bu | acx | ax | ke | ip | ui | qr | nh | acy | fu | aek | ael | yy => k_is)
    (case aei | aau => k_exc)
    (case za | zq | aaf => kit_is)
    (case zp | nj => kts_exm)
    (case ur | uq | qw | vw | ud | xg | xf | uc | xh | aav | aaw | zg | zd | ze | aax | ue | qy | qx | uv | qd | qe | kh | nt | qk | qf | nu | xj | uf | mw | dy | bc | km | qi | ny | du | fw | dq | dz | kj | cj | kb | qh | gg | qj | qg | oa | iq | adz => refine' iK ?l ?c ?k; (case l => k_is); (case c => k_is); (case k => k_is))
