import PyProof.Rows.All
import Wide.All
import OpenK.AllK
import Wide.FinOn
import Lean
import PyProof.EqAt
import PyProof.EqKinds
import PyProof.TupleCall
import PySem.Challenge.RW_brooktally_k29_rows_by_sets
set_option Elab.async false
set_option linter.all false
set_option maxRecDepth 100000
set_option maxHeartbeats 4000000
open PySem PySem.Spec PyProof.Rows
open _root_.Array renaming getElem?_eq_getElem->IL,getElem?_eq_none->Od,getElem?_toList->Oe,length_toList->Q1,perm_iff_toList_perm->Ur,toList_append->ZJ,toList_extract->vW,toList_push->vX,getElem?_extract->AI2,getElem?_push->AI3,toList_map->AI4,toList_setIfInBounds->AI5
open _root_.Array.Perm renaming refl->AI1
open _root_.Bool renaming true->AD,false->AH,false_ne_true->D5,noConfusion->Hj,and_true->Of,and_eq_true->Q2,false_eq_true->Q3,and_eq_true_iff->ZK,eq_iff_iff->wC,and_false->AI6,not_eq_true'->AI7
open _root_.Classical renaming byContradiction->ALp
open _root_.Decidable renaming decide->Af
open _root_.Eq renaming trans->MI
open _root_.Except renaming ok->JB,error->KH
open _root_.False renaming elim->KI
open _root_.ForIn renaming forIn->Hk
open _root_.ForInStep renaming yield->Us
open _root_.Function renaming comp_def->AI8
open _root_.Iff renaming rfl->wK
open _root_.Int renaming le_refl->Ut,mul_nonneg->ZP,toNat_natCast->ZQ,ediv_mul_le->wL,ediv_nonneg->wM,mul_emod_left->wN,natCast_mul->wO,toNat_of_nonneg->wQ,add_mul->AI9,ediv_le_self->AJA,lt_ediv_add_one_mul_self->AJB,lt_trichotomy->AJC,natCast_add->AJD,sub_emod->AJE
open _root_.List renaming length_map->A4,length_append->Bi,map_map->Bj,mem_cons->Bw,mem_cons_self->B7,mem_map->B8,getElem?_map->Ca,mem_append->Cb,map_append->Cc,mem_singleton->Cd,cons->Cz,nil->C0,mem_cons_of_mem->DK,mem_append_right->Dl,map_cons->Dw,nodup_cons->EG,getElem?_eq_getElem->EM,getElem?_eq_some_iff->EN,range->EO,mem_filter->Ea,append_nil->Ek,length_cons->Fq,nodup_nil->Ft,mem_append_left->GK,replicate->GL,append_assoc->Gg,length_singleton->G9,nodup_append->HA,pairwise_map->HS,not_mem_nil->Hx,map_congr_left->Ie,length_filter_le->JG,length_eq_zero_iff->Jm,mem_of_getElem?->Jn,length->Kk,map->Kl,mem_flatMap->Km,flatMap_cons->Lo,length_nil->Lp,length_zipIdx->Lq,concat_eq_append->Ma,eq_nil_or_concat->Mb,foldl_cons->Mc,of_mem_zip->Md,pairwise_append->Me,size_toArray->Mf,filter_cons->Nu,mem_iff_getElem->Nv,pairwise_cons->Nw,drop_eq_getElem_cons->Pm,flatMap_append->Pn,map_nil->Po,filterMap_cons->SU,find?_cons->SV,getElem?_append_right->SW,getElem?_zip_eq_some->SX,map_snd_zip->SY,mem_filterMap->Sa,pairwise_iff_getElem->Sb,ext_getElem?->XA,extract_eq_take_drop->XB,foldl_append->XC,getElem?_toArray->XD,length_range->XE,length_zip->XF,map_id->XG,take_append_drop->XH,append_of_mem->fY,cons_append->fZ,drop_length->f6,filter_append->f7,filter_map->f9,flatMap_nil->gA,foldl_nil->gB,getElem_inj->gC,getElem_map->gD,mem_map_of_mem->gE,mem_range->gF,perm_append_comm->gG,range'->gH,reverse_cons->gI,set_getElem_self->gJ,take->gK,take_of_length_le->gL,all_cons->AEm,any_cons->AEn,drop_drop->AEo,filter_filter->AEp,filter_sublist->AEq,getElem?_append_left->AEr,getElem?_eq_none->AEs,getElem?_set_ne->AEt,getElem?_set_self->AEu,mem_iff_getElem?->AEv,ne_nil_of_mem->AEw,nil_append->AEx,pairwise_reverse->AEy,range'_succ->AEz,set->AE0,zipIdx_cons->AE1,zip_cons_cons->AE2,Pairwise->AJF,all_eq_true->AJH,any_eq_false->AJI,any_eq_true->AJJ,append_inj->AJK,drop_of_length_le->AJL,drop_zero->AJM,filterMap_map->AJN,filter_congr->AJO,filter_eq_nil_iff->AJP,getD_eq_getElem?_getD->AJQ,getElem?_take_of_lt->AJR,getElem_mem->AJS,length_eraseIdx->AJT,length_filterMap_le->AJU,length_take->AJV,map_flatMap->AJW,map_take->AJX,mem_of_mem_drop->AJY,mem_reverse->AJZ,pairwise_singleton->AJa,reverse_perm->AJb,set_eq_of_length_le->AJc,take_add->AJd,take_add_one->AJe
open _root_.List.Nodup renaming sublist->ALq
open _root_.List.Pairwise renaming and_mem->ALr,filterMap->ALs,sublist->ALt
open _root_.List.Perm renaming swap->fW,trans->fX,append_left->AEl,of_eq->AJG,append_right->ALu
open _root_.List.cons renaming inj->W9,injEq->ALv
open _root_.Max renaming max->Ey
open _root_.Min renaming min->Dx
open _root_.Nat renaming le_refl->Aw,le_trans->Cj,ne_of_lt->DL,zero_le->EA,lt_of_lt_of_le->Eb,lt_irrefl->HB,le_of_eq->Ig,le_of_lt->Nx,lt_succ_self->Ny,le_succ->Pp,lt_succ_of_lt->Pq,succ->Sf,zero->Sg,zero_add->Sh,add_zero->XI,ne_of_gt->XJ,sub_self->XM,lt_or_ge->gM,succ_pos->gN,lt_of_succ_lt_succ->AE3,lt_trans->AE4,min_self->AE5,succ_le_succ->AE6,le_succ_of_le->AJf,min_eq_left->AJg,mod_lt->AJh,mul_le_mul_right->AJi,not_lt_zero->AJj,pos_of_ne_zero->AJk,sub_zero->AJl
open _root_.Nat.succ renaming inj->Kn
open _root_.Ne renaming symm->Ko
open _root_.Option renaming some->AA,none->AB,bind_eq_some_iff->Am,map_eq_some_iff->BK,bind_some->Ec,join_eq_some_iff->Lr,map->Si,map_some->AE7,getD_none->AJm,map_eq_none_iff->AJn
open _root_.Option.some renaming inj->Kq,injEq->AJo
open _root_.Prod renaming ext->Sj,snd->AE8
open _root_.Prod.mk renaming inj->Mg
open _root_.Pure renaming pure->BC
open _root_.PyProof renaming noPylong_small->AJ7
open _root_.PyProof.Rows renaming arrOf->Aq,Keyed->A3,wpS_bind->A5,wpS_pure->BI,pendingOf->Bc,SortSt->CS,wpS->ER,envOfC->Fu,seqObj->Gi,wpS_forRange->HU,wpS_mono->Hy,pairsOf->Ih,wpS_modify->JI,AllBare->Ls,ltAt'->Lu,wpS_get->Lv,reverseSlice'->Mh,failedOf->Pr,setArr->Pt,slot_tuple_getitem->Pu,wpS_lift->Pw,IntsAre->Sk,IsTup->Sl,SortKind->Sm,callWith_type1->Sn,KeyOrd->XN,elem'->XO,mirror->XQ,boot_sorted->gQ,kindOf->gR,mem_zip_self->gS,pairsOf_toList->gT,setPending->gU,sortedHeap->gW,Subscript_->AE9,args_sorted1->AFA,assignInOrder_cons->AFB,boot_list->AFC,boot_max->AFD,elem'_eq->AFE,entry_list_sort->AFF,entry_sorted->AFG,keyKind'->AFH,kind_sorted->AFI,listUpdate_at->AFJ,lt_int->AFK,plain_sorted->AFL,seqEpoch_at->AFM,slot_list_sort->AFN,args_list_sort->AJq,assignInOrder_nil->AJr,boot_min->AJs,callWith_builtin1->AJt,entry_tuple_getitem->AJu,eqGives_str->AJv,getElem?_bubble->AJw,getElem?_mirror_all->AJx,keyLt'_oneType->AJy,lt_str->AJz,reverseSlice'_eq->AJ1,slicePart_none->AJ2,sortedHeap_at->AJ3,sortedHeap_old->AJ4,subscriptTail_builtinR->AJ5,tupleItemsOf_->AJ6,boot_int->ALx,boot_isinstance->ALy,boot_set->ALz,boot_sum->AL0,boot_tuple->AL1,join_nil_cons->AL2,join_plain_closes->AL3
open _root_.PyProof.Rows.F renaming entry_set_update_loop->AJp,plain_set_update_loop->ALw
open _root_.PyProof.Rows.IsTup renaming new->gO
open _root_.PyProof.Rows.KeyOrd renaming kle_trans->HC,kle_of_klt->Kr,kle_refl->Nz
open _root_.PyProof.Rows.SortSt renaming mk'->gP
open _root_.PySem renaming Str->AG,Addr->AI,Value->AJ,Shared->AX,sizeLine->AY,wpAny_bind->Aa,starEach->Ah,model->Aj,wpAny->Al,eval->Ar,Heap->Au,wpAny_pure->Av,Expr->BE,Obj->BF,World->Ba,backTo->Bx,Program->CB,Pos->Ce,Around->Ci,Sem->Cr,mainGlobals->C3,Stmt->DE,Env->DT,FuncData->DU,Scope->ED,compareOp->EI,sizeLine_eq->ES,wpAny_mono->Ez,Keyword->Fv,scanBound->F8,Paired->Gj,cLine->Gk,PyData->HX,swapsWith->HY,valueAt->HZ,wpAny_rule->H9,Tok->Ij,call->JL,Model->Jp,SetTable->Jr,attributeBase->Jt,backToKw->Ju,behindInMarks->Jv,binaryOp->Jw,codeAny->Jx,keywordEach->Jy,IsPart->Kw,assignEach->Kz,rawInt->K0,sysModules->K4,wpAny_call_entry->K5,wpAny_holding->K6,CmpOp->Lx,NameKind->Lz,bootBuiltins->L1,codeAny_mono->L3,foldedSetIterable->L4,getItem->L5,codeAny_builtin->Mm,wpAny_newObj_type->Mn,atKey->N3,callerA->N4,wpAny_Call_Name_kw->N5,bindC->P0,bindL->P1,isTrue->P2,mem_of_lookup->P4,pyIter->P5,pyNext->P6,stored->P7,wpAny_passesOwn->P8,wpAny_truthy_bool->P9,BindsTo->So,lookup_relabel_local->Sx,pickOrder->Sy,relayAll->Sz,setNext->S0,sliceBounds->S8,tupleKind->S9,wpAny_askSetting->TB,wpAny_callSpecial?_slot->TC,wpAny_execs_nil->TF,wpAny_setField->TH,wpAny_setState_of->TJ,PassesOwn->XR,assign->XZ,fits_of_scanBound->Xa,holding->Xb,plainId_quiet->Xc,standAt->Xd,wpAny_attempt->Xe,wpAny_call->Xf,wpAny_setEntries_of->Xg,wpAny_typeOf->Xh,Params->g7,Result->g9,argsOk->iJ,call_meets->iK,concat_meets->iM,getMethod->iN,lastMarks->iO,leaving->iP,noteFrame->iQ,numAt_eq->iR,setFlight->iS,slicePick->iT,subscripted->iU,unsupported->iV,wpAny_fieldsOf->iW,wpAny_newList->iX,wpAny_runValue->iY,Within->AFu,builtinsNs->AFv,call_meetsIn->AFw,cellsFrom->AFx,closureFor->AFy,codeAny_of_tree->AFz,entryFor->AF1,letOwnedTupleGo->AF3,noFill_tuple_add->AF4,nums_intItems->AF5,seq_tuple_add->AF8,setField->AF9,slot_list_getitem->AGA,wpAny_Name->AGB,wpAny_execs_cons->AGC,wpAny_field->AGD,wpAny_load->AGE,wpAny_standAt->AGF,call_list_seq->ALE,check_set_init_1->ALF,codeAny_call_builtin->ALG,dictSetDefault->ALH,entryFor_alias->ALI,findBy_of_findIdx?->ALK,frameOf->ALL,intBits_le_64->ALM,list_append->ALN,recursionLimit->ALO,richCompare_meets_room->ALP,signature?_of->ALR,swappedStores->ALS,swapsWithSole->ALT,weight_type_call_type->ALU,wpAny_Assign_Subscript->ALV,wpAny_Call_method->ALW,wpAny_Expr_any->ALX,wpAny_assign_Name->ALY,wpAny_bindName->ALZ,wpAny_forIn_list->ALa,wpAny_getItem_list_slice->ALb,wpAny_isInstance->ALc,wpAny_newTuple->ALd,wpAny_pyIter_enum->ALe,wpAny_pyIter_list->ALf,wpAny_pyIter_slot->ALg,wpAny_pyIter_tuple->ALh,wpAny_seqItems->ALi,wpAny_sequenceKey->ALj,wpAny_setEpoch_of->ALk,wpAny_specialOf->ALl,wpAny_storeSet_of->ALm,wpAny_updateSeq->ALn
open _root_.PySem.Around renaming under_plain->AJ8,under_plainId->AJ9
open _root_.PySem.Builtin.Frozenset renaming updateFrom->AKA,newClass->AL4
open _root_.PySem.Builtin.List renaming listTooLong->AFO,listExtendWith->AKB,listSameRef->AKC,listLengthHint->AL5
open _root_.PySem.Builtin.Range renaming rangeSize->AFP,small->AKD,rangeFitsLong->AL6
open _root_.PySem.Builtin.Slice renaming sliceAdjust->AFQ,slicePlaces->AFR,sliceApplied->AL7,slicePartIndex->AL8
open _root_.PySem.Builtin.Tuple renaming tupleItemsOf->AKE,tupleCompareSizes->AL9,tupleExact->AMA
open _root_.PySem.Calls renaming spliced_cons->Lw,spliced_nil->N0,evalArgs_plain->gX,callWith_builtin->AFS,call_function_entry->AFT,Name_function_global->AKF
open _root_.PySem.Challenge renaming rw_brooktally_k29_rows_by_sets->AKG,pw_brooktally_k29_rows_by_sets->AMB
open _root_.PySem.CmpOp renaming In->AKH,NotIn->AKI
open _root_.PySem.Code renaming quiet_builtin->AKJ
open _root_.PySem.DictEntry renaming refKey->AMC
open _root_.PySem.EntryCells renaming newEntry->AFU
open _root_.PySem.EqMixed renaming eq_bool_str->AMD,eq_int_str->AME,eq_str_bool->AMF,eq_str_int->AMG,ne_bool_str->AMH,ne_int_str->AMI,ne_str_bool->AMJ,ne_str_int->AMK
open _root_.PySem.EqNone renaming eq_bool_none->AML,eq_int_none->AMM,eq_none_bool->AMN,eq_none_int->AMO,eq_none_none->AMP,eq_none_str->AMQ,eq_str_none->AMR,ne_bool_none->AMS,ne_int_none->AMT,ne_none_bool->AMU,ne_none_int->AMV,ne_none_none->AMW,ne_none_str->AMX,ne_str_none->AMY
open _root_.PySem.F renaming called_set->HV,entry_tuple_add->AFV,plain_list_iadd->AFW,slot_dict_get->AFX,slot_list_append->AFY,slot_tuple_add->AFZ,entry_dict_get->AKK,entry_list_append->AKL,entry_list_iadd->AKM,entry_proto_collect->AKN,entry_set_init->AKO,entry_tuple_lt->AKP,entry_type_call->AKQ,excBase_ValueError->AKR,plainAttrs_dict->AKS,plainAttrs_list->AKT,slot_dict_setdefault->AKU,slot_list_extend->AKV,slot_set_iter->AKW,slot_tuple_index->AKX,slot_tuple_lt->AKY,typeCall_set_1->AKZ
open _root_.PySem.Flow renaming ret->HW,brk->Ks,cont->Kt,next->Ku
open _root_.PySem.Heap renaming get?_push_of_some->Bn,lt_size->Bt,get?_push_size->EB,size_push->JJ,FlyingW->Jo,SameBut->Kv,get?_update_other->Sq,get?_update_self->Ss,HeldW->AFa,ExtBut->AKa,get?_some_iff->AKc,get?_update_ne->AKd
open _root_.PySem.Heap.DictOf renaming new->AMZ
open _root_.PySem.Heap.IsSliceOf renaming new->AKb
open _root_.PySem.Heap.SameBut renaming update->Mi,refl->AMa
open _root_.PySem.IsL renaming update->AKe
open _root_.PySem.IsRange renaming new->AKf
open _root_.PySem.MeetsSeq.EqGives renaming int->AMb
open _root_.PySem.NameKind renaming free->Mj,cell->gY
open _root_.PySem.Obj renaming mapSeq->L0,data_mapFields->gZ,mapFields->g6,putSet->AFc,cls_mapFields->AKg,data_mapDictKeys->AKh,isFreed_of_fields->AKi
open _root_.PySem.Paired renaming cons->DV,nil->Kx,length->Ml,snoc->AKj
open _root_.PySem.PyData renaming strOk->C1,eqv->Ii,int->Jq,depthAll->g8,canLay0->AFd,canLayAll0->AFe,depth->AKk,eqvAll->AKl,tuple->AKm
open _root_.PySem.SeqAt renaming shaped->HD,EqAt->hZ,canLay_of_shaped->AKq,eqAt_reads->AKr,notIn_listAt->AKs
open _root_.PySem.SeqAt.EqAt renaming int_str->AKn,same->AKo,str_int->AKp,bool_bool->AMc,bool_int->AMd,bool_none->AMe,bool_str->AMf,int_bool->AMg,int_int->AMh,int_none->AMi,none_bool->AMj,none_int->AMk,none_str->AMl,str_bool->AMm,str_none->AMn,str_str->AMo
open _root_.PySem.SetTable renaming below->JK,grown->Su,fits->AFf,insertAt->AFg,Probe->AKt
open _root_.PySem.SetTable.below renaming go->XS
open _root_.PySem.SetTable.probe renaming go->AKu
open _root_.PySem.Shared renaming TypeIs->AKv
open _root_.PySem.Str renaming ofString->BO,join->AFh,empty->AKw,length_append->AKx
open _root_.PySem.StrLaws renaming sliceText->AKy
open _root_.PySem.Txt renaming slice->HE,join->iA
open _root_.PySem.Value renaming ref->FD,type->Ky,none->XT,bool->iB,int->AFi,str->AFj,isInt->AKz,isStrOf->AK0
open _root_.PySem.W renaming Frag->Ap,nsIn->EH,findIn->FX,mg_none_of->Hz,mg_of->Js,instObj->N1,keepIn->N2,excIn->Px,kia_one->Py,kitOne->Pz,OpenLaw->Sv,fnOf->Sw,emptyDict->XU,exmOne->XW,isFn->XX,plainGet->XY,KatLex->iC,callWith_K->iD,hasDictIn->iE,kat_cons->iF,kat_kind->iG,lookIn->iH,subIn->iI,WalkO->AFk,codeIn->AFl,kat_go->AFm,kat_no->AFn,kat_one->AFo,kat_yes->AFp,makesIn->AFq,plainGet_of->AFr,plainOver->AFs,takerIn->AFt,KatTups->AK1,cellsFrom_some->AK4,clsIn->AK5,handedIn->AK6,hideAll->AK7,hideAll_get->AK8,kas_kind->AK9,kat_lt->ALA,kat_nil->ALB,kdl_dict->ALC,of_hideAll->ALD
open _root_.PySem.W.KatTups renaming cons->AK2
open _root_.PySem.W.Looks renaming here->AMp,ld->AMq
open _root_.PySem.W.WData renaming int->AK3
open _root_.PySem.Within renaming cons->AMr
open _root_.PySem.pickOrder renaming go->AF7
open _root_.Std.Legacy.Range renaming forIn_eq_forIn_range'->AMs,size->AMt
open _root_.Sum renaming inr->BV,inl->Bk
open _root_.Sum.inl renaming inj->ALo
open _root_.Sum.inr renaming inj->j9
open _root_.True renaming intro->IK
def AMu:=@if_pos
def AMv:=@if_neg
def AMw:=@congrArg
def AMx:=@eq_false
def AMy:=@decide_eq_true
def AMz:=@or_false
def AM0:=@decide_eq_false
def AM1:=@of_decide_eq_true
def AM2:=@if_true
def AM3:=@of_decide_eq_false
def AM4:=@beq_iff_eq
def AM5:=@if_false
def AM6:=@and_congr
def AM7:=@getElem?_pos
local macro_rules|`(term|∎)=>`(by first|omega|assumption|grind)
local macro_rules|`(tactic|∎)=>`(tactic|first|omega|assumption|grind)
abbrev AW:=Sum Int AG
def Ge:AW->AJ->Bool|.inl k,v=>AKz k v|.inr x,v=>AK0 x v
def AB9(w:Ba):AW->Int|.inl k=>hashInt k|.inr x=>hashStr w x
def Ib:∀{k:AW}{v:AJ},Ge k v=AD->(∃i t,k=Bk i/\v=AFi i t)\/(∃x t,k=BV x/\v=AFj x t)|.inl i,v,h=>by obtain⟨t,e⟩:=Value.isInt_shape h;∎|.inr x,v,h=>by obtain⟨t,e⟩:=Value.isStrOf_shape h;∎
def WY(i:Int)(t:Ij):Ge (.inl i) (.int i t)=AD:=by simp[Ge,AKz]
def WZ(x:AG)(t:Ij):Ge (.inr x) (.str x t)=AD:=by simp[Ge,AK0]
def ACA(a b:Int):Af ((Bk a:AW)=Bk b)=(a==b):=by∎
def ACD(a b:AG):Af ((BV a:AW)=BV b)=Af (a=b):=by∎
def ACB(a:Int)(b:AG):Af ((Bk a:AW)=BV b)=AH:=∎
def ACC(a:AG)(b:Int):Af ((BV a:AW)=Bk b)=AH:=∎
def Dg(prog:CB)(w:Ba):KeyKind prog w AW where
  is:=Ge
  hash:=AB9 w
  inj:=λv a b V U=>by
    rcases Ib V with⟨i,t,rfl,rfl⟩|⟨x,t,rfl,rfl⟩
    . rcases Ib U with⟨j,u,rfl,e⟩|⟨y,u,rfl,e⟩;.injection e with D _;rw[D]
      .exact nomatch e
    . rcases Ib U with⟨j,u,rfl,e⟩|⟨y,u,rfl,e⟩;.exact nomatch e
      .injection e with D _;rw[D]
  byValue:=λk v h=>by rcases Ib h with⟨i,t,rfl,rfl⟩|⟨x,t,rfl,rfl⟩<;>rfl
  pyHash:=λJ h=>by
    rcases Ib J with⟨i,t,rfl,rfl⟩|⟨x,t,rfl,rfl⟩;.exact wpAny_pyHash_int h
    .exact wpAny_pyHash_str h
  eqBool:=λW J h=>by
    rcases Ib W with⟨i,t,rfl,rfl⟩|⟨x,t,rfl,rfl⟩
    . rcases Ib J with⟨j,u,rfl,rfl⟩|⟨y,u,rfl,rfl⟩;.rw[ACA]at h;exact wpAny_eqBool_int h
      .rw[ACB]at h;exact AKn i t y u _ _ _ _ h
    . rcases Ib J with⟨j,u,rfl,rfl⟩|⟨y,u,rfl,rfl⟩;.rw[ACC]at h;exact AKp x t j u _ _ _ _ h
      .rw[ACD]at h;exact wpAny_eqBool_str h
  «strs»:=λk x t v h=>by
    rcases Ib h with⟨i,u,rfl,e⟩|⟨y,u,rfl,e⟩;.exact nomatch e
    . injection e with D _;subst D;cases v<;>rfl
def ACT(prog:CB)(w:Ba)(i:Int)(t:Ij):(Dg prog w).is (.inl i) (.int i t)=AD:=WY i t
def ACU(prog:CB)(w:Ba)(x:AG)(t:Ij):(Dg prog w).is (.inr x) (.str x t)=AD:=WZ x t
inductive AQ where|non|bl(b:Bool)|int(i:Int)|str(x:AG)|byt(b:Array UInt8)|flt(b:UInt64)|ref(a:AI)|ty(n:String)deriving DecidableEq
def BQ:AQ->AJ->Prop|.non,u=>u=XT|.bl b,u=>u=iB b|.int i,u=>∃t,u=AFi i t|.str x,u=>∃t,u=AFj x t|.byt b,u=>∃t,u=Value.bytes b t|.flt b,u=>∃t,u=Value.float b t|.ref a,u=>u=FD a|.ty n,u=>u=Ky n
abbrev BR:List AQ->List AJ->Prop:=Gj BQ
def BR.aj{xs:List AQ}{D:List AJ}(r:BR xs D):xs.length=D.length:=Ml r
def BR.ju:∀{xs:List AQ}{D:List AJ}{i:Nat}{x:AQ},BR xs D->xs[i]?=AA x->∃u,D[i]?=AA u/\BQ x u|_,_,_,_,.nil,e=>by∎|_,_,0,_,.cons r _,e=>by∎|_,_,i+1,x,.cons _ t,e=>by obtain⟨u,h1,h2⟩:=BR.ju (i:=i) (x:=x) t ∎;∎
def BR.cw:∀{xs ys:List AQ}{D ws:List AJ},BR xs D->BR ys ws->BR (xs++ys) (D++ws)|_,_,_,_,.nil,s=>s|_,_,_,_,.cons r t,s=>.cons r (BR.cw t s)
def BR.qz:∀{xs:List AQ}{D:List AJ}(n:Nat),BR xs D->BR (xs.take n) (D.take n)|_,_,0,_=>.nil|_,_,_+1,.nil=>.nil|_,_,n+1,.cons r t=>.cons r (BR.qz n t)
def BR.qk:∀{xs:List AQ}{D:List AJ}(n:Nat),BR xs D->BR (xs.drop n) (D.drop n)|_,_,0,r=>r|_,_,_+1,.nil=>.nil|_,_,n+1,.cons _ t=>BR.qk n t
def Ka:Option AQ->Option AJ->Prop|AA v,AA u=>BQ v u|AB,AB=>True|_,_=>False
def Fp:List (κ×AQ)->List (κ×AJ)->Prop:=Gj λ(p:κ×AQ)(q:κ×AJ)=>p.1=q.1/\BQ p.2 q.2
def BP:AW->AQ|.inl i=>.int i|.inr x=>.str x
inductive Ds where|lst(xs:List AQ)|tup(xs:List AQ)|dK(kvs:List (AW×AQ))|dT(kvs:List (List AW×AQ))|set(S:Int->Bool)(n:Nat)|ins(C dx:AI)(fs:List (AG×AQ))|own(x:AI)|xd(fs:List (AG×AQ))|met(f x:AI)|rng(lo hi:Int)|frz(o:BF)(u:Ds)|tbl(ps:Array AJ)|ext(φ:Au->Prop)
abbrev AR:=AI->Option Ds
def Ax(H:AR)(a:AI)(o:Ds):AR:=λb=>if b=a then AA o else H b
def Dh:Ax H a o a=AA o:=by unfold Ax;∎
def Bs(h:b≠a):Ax H a o b=H b:=by unfold Ax;∎
def W5:Ax (Ax H a o) a u=Ax H a u:=by funext b;unfold Ax;split<;>rfl
def Nn{H:AR}{a b:AI}{o:Ds}(h:H a=AA o)(h':H b=AB):a≠b:=by grind
section
variable(P:CB)(w:Ba)
def Dt(H:AR)(h:Au)(a:AI):Ds->Prop|.lst xs=>xs.length<=AY/\∃(D:List AJ)(n:Nat),BR xs D/\h.get? a=AA {cls:=.type "list",data:=.seq D.toArray n}|.tup xs=>xs.length<=AY/\∃D:List AJ,BR xs D/\Sl h a D.toArray|.dK kvs=>kvs.length<=AY/\(a==K4)=AH/\∃vs,Fp kvs vs/\h.DictOf (Dg P w) a vs|.dT kvs=>kvs.length<=AY/\(a==K4)=AH/\∃xs:List (List AW×AI×AJ),Gj (λ(p:List AW×AQ)(q:List AW×AI×AJ)=>p.1=q.1/\H q.2.1=AA (.tup (p.1.map BP))/\BQ p.2 q.2.2) kvs xs/\∃o es ep,h.get? a=AA o/\o.ExactDict/\o.data=.dict es ep/\es.toList=xs.map (entryOfKey (S9 (Dg P w)))/\(xs.map (·.1)).Nodup|.set S n=>h.SetOf (intKind P w) a S n|.ins C dx fs=>H dx=AA (.own a)/\fs.length<=1000/\dx≠a/\h.get? a=AA (N1 C dx)/\∃mA,h.Ns1 dx mA/\(∀f,Ka (fs.lookup f) (mA f))/\AFu mA (fs.map (·.1))|.own _=>∃o,h.get? a=AA o|.xd fs=>∃mA,h.Ns1 a mA/\∀f,Ka (fs.lookup f) (mA f)|.rng lo hi=>∃t u v,h.get? a=AA {cls:=.type "range",data:=.fields #[.int lo t,.int hi u,.int 1 v]}|.frz o u=>h.get? a=AA o/\Dt H h a u|.tbl ps=>h.get? a=AA {cls:=.none,data:=.fields ps}|.met f x=>h.get? a=AA (W.methodObj (.ref f) (.ref x))|.ext J=>J h/\(∃o,h.get? a=AA o)/\∀h1 h2:Au,J h1->(∀o,h1.get? a=AA o->h2.get? a=AA o)->J h2
end
def DB(P:CB)(w:Ba)(H:AR)(h:Au):Prop:=∀a o,H a=AA o->Dt P w H h a o
def Dt.lt{h:Au}(x:Dt P w H h a o):a<h.objs.size:=by cases o with|lst xs=>obtain⟨_,_,_,_,e⟩:=x;exact Bt e|tup xs=>obtain⟨_,_,_,p⟩:=x;exact p.lt|dK kvs=>obtain⟨_,_,_,_,o,_,_,e,_⟩:=x;exact Bt e|dT kvs=>obtain⟨_,_,_,_,o,_,_,e,_⟩:=x;exact Bt e|set S n=>obtain⟨o,_,_,_,e,_⟩:=x;exact Bt e|ins C dx fs=>obtain⟨_,_,_,e,_⟩:=x;exact Bt e|own y=>obtain⟨_,e⟩:=x;exact Bt e|xd fs=>obtain⟨_,⟨_,_,_,e,_⟩,_⟩:=x;exact Bt e|rng lo hi=>obtain⟨_,_,_,e⟩:=x;exact Bt e|frz D u=>obtain⟨e,_⟩:=x;exact Bt e|tbl ps=>exact Bt ∎|met f y=>exact Bt ∎|ext J=>obtain⟨_,⟨_,e⟩,_⟩:=x;exact Bt e
def WB:∀{D:List α}{J:List β},Gj F D J->(∀a b,F a b->G a b)->Gj G D J|_,_,.nil,_=>.nil|_,_,.cons r t,f=>.cons (f _ _ r) (WB t f)
def Dt.ku{h h':Au}(x:Dt P w H h a o)(k:∀b u,(b=a\/H b=AA (.own a))->h.get? b=AA u->h'.get? b=AA u)(V:∀b,H b=AA (.own a)->H' b=AA (.own a))(A:∀b xs,H b=AA (.tup xs)->H' b=AA (.tup xs)):Dt P w H' h' a o:=by induction o with|lst xs=>obtain⟨z,J,n,r,e⟩:=x;exact⟨z,J,n,r,∎⟩|tup xs=>obtain⟨z,J,r,D,e,c⟩:=x;exact⟨z,J,r,D,∎,c⟩|dK kvs=>obtain⟨z,y,vs,r,D,es,ep,e,c⟩:=x;exact⟨z,y,vs,r,D,es,ep,∎,c⟩|dT kvs=>obtain⟨z,y,xs,r,D,es,ep,e,c⟩:=x;exact⟨z,y,xs,WB r ∎,D,es,ep,∎,c⟩|set S n=>obtain⟨D,es,ep,t,e,c⟩:=x;exact⟨D,es,ep,t,∎,c⟩|ins C dx fs=>obtain⟨d,z,Y,e,mA,⟨U,es,ep,Z,c⟩,r⟩:=x;exact⟨V _ d,z,Y,∎,mA,⟨U,es,ep,∎,c⟩,r⟩|own y=>obtain⟨D,e⟩:=x;exact⟨D,∎⟩|xd fs=>obtain⟨mA,⟨U,es,ep,e,c⟩,r⟩:=x;exact⟨mA,⟨U,es,ep,∎,c⟩,r⟩|rng lo hi=>obtain⟨t,u,v,e⟩:=x;exact⟨t,u,v,∎⟩|frz D u W=>obtain⟨e,q⟩:=x;exact⟨∎,W q⟩|tbl ps=>have e:h.get? a=AA _:=x;show h'.get? a=AA _;∎|met f y=>have e:h.get? a=AA _:=x;show h'.get? a=AA _;∎|ext B=>obtain⟨p,⟨o,e⟩,st⟩:=x;exact⟨∎,∎,st⟩
def DB.lt{h:Au}(x:DB P w H h)(e:H a=AA o):a<h.objs.size:=(x a o e).lt
def DB.ao{h:Au}(x:DB P w H h)(e:h.objs.size<=a):H a=AB:=by cases q:H a with|none=>rfl|some u=>exact absurd (Eb (x.lt q) e) ∎
def DB.cp{h h':Au}(x:DB P w H h)(k:∀b u,h.get? b=AA u->h'.get? b=AA u):DB P w H h':=λa o e=>(x a o e).ku ∎ (λ_ q=>q) λ_ _ q=>q
def DB.eu{h h':Au}(x:DB P w H h)(k:∀b u,h.get? b=AA u->h'.get? b=AA u)(J:h.objs.size<=a)(U:Dt P w (Ax H a o) h' a o):DB P w (Ax H a o) h':=λb u e=>by
 have hn:=x.ao J;by_cases D:b=a;.subst D;rw[Dh]at e;∎
 . rw[Bs D]at e;exact(x b u e).ku ∎ (λc q=>by rw[Bs ∎];exact q) λc xs q=>by rw[Bs ∎];exact q
def EY(H:AR)(a:AI)(u:Ds):Prop:=H a=AA u\/∃o,H a=AA (.frz o u)
def EY.ok(r:EY H a u)(x:DB P w H h):Dt P w H h a u:=by
 rcases r with r|⟨o,r⟩;.exact x a u r
 . obtain⟨_,q⟩:=x a _ r;exact q
def PD:Option Ds->Prop|AA (.lst _)=>True|AA (.dK _)=>True|AA (.dT _)=>True|AA (.set _ _)=>True|AA (.ins _ _ _)=>True|AA (.ext _)=>True|_=>False
def DB.jo{h h':Au}(A:DB P w H h)(U:PD (H x))(C:e=x\/H e=AA (.own x))(k:∀b u,b≠e->h.get? b=AA u->h'.get? b=AA u)(V:∃u,h'.get? e=AA u)(Z:Dt P w (Ax H x o') h' x o'):DB P w (Ax H x o') h':=λb u q=>by
  have D:∀c y,H c=AA (.own y)->c≠x:=λc y r z=>by subst z;rw[r]at U;exact U
  have J:∀c xs,H c=AA (.tup xs)->c≠x:=λc xs r z=>by subst z;rw[r]at U;exact U
  by_cases W:b=x;.subst W;rw[Dh]at q;∎
  . rw[Bs W]at q;by_cases Y:b=e
    . have q':H b=AA (.own x):=by∎
      rw[q]at q';cases q';obtain⟨v,E⟩:=V;exact⟨v,∎⟩
    . refine(A b u q).ku (λc v B r=>k c v ?_ r) (λc r=>by rw[Bs (D c b r)];exact r) λc xs r=>by rw[Bs (J c xs r)];exact r
      ∎
structure Gd(fs ex:List AI)(H H':AR)(h h':Au):Prop where
 aw:∀b o,h.get? b=AA o->H b=AB->b∉fs->b∉ex->h'.get? b=AA o
 iw:∀b o,h.get? b=AA o->H b=AB->b∈fs->b∉ex->∃sl,h'.get? b=AA {o with slots:=sl}bh:∀b o,h.get? b=AA o->H b=AB->b∉ex->H' b=AB
 cv:∀b o,h.get? b=AA o->b∉ex->∃o',h'.get? b=AA o'
 ji:∀b xs,H b=AA (.tup xs)->H' b=AA (.tup xs)iq:∀b o u,H b=AA (.frz o u)->H' b=AA (.frz o u)jh:∀b ps,H b=AA (.tbl ps)->∃more,H' b=AA (.tbl (ps++more))
def Gd.vb{h h1:Au}(u:Gd fs ex H H1 h h1)(q:h.get? b=AA D)(n:H b=AB)(U:b∉ex):∃sl,h1.get? b=AA {D with slots:=sl}:=by
 by_cases J:b∈fs;.exact u.iw b D q n J U
 .exact⟨_,u.aw b D q n J U⟩
def R0{h h':Au}(k:∀b u,h.get? b=AA u->h'.get? b=AA u):Gd fs ex H H h h':=⟨∎,λb D q _ _ _=>⟨_,k b D q⟩,∎,∎,λ_ _ q=>q,λ_ _ _ q=>q,(by simp_all)⟩
def ABB:Gd fs ex H H h h:=R0 λ_ _ q=>q
def ABA{h h':Au}(k:∀b u,h.get? b=AA u->h'.get? b=AA u)(D:h.objs.size<=a)(hn:H a=AB):Gd fs ex H (Ax H a o) h h' where
 aw:=∎
 iw:=λb u q _ _ _=>⟨_,k b u q⟩
 bh:=λb u q n _=>by rw[Bs (DL (Eb (Bt q) D))];exact n
 cv:=∎
 ji:=λb xs q=>by rw[Bs ∎];exact q
 iq:=λb u xs q=>by rw[Bs ∎];exact q
 jh:=λb ps q=>⟨#[],by rw[Bs ∎,q];simp⟩
def ABC{h h':Au}(J:PD (H x))(Y:e=x\/H e=AA (.own x))(k:∀b u,b≠e->h.get? b=AA u->h'.get? b=AA u)(V:∃u,h'.get? e=AA u):Gd fs ex H (Ax H x o) h h':=by
 have W:∀b,H b=AB->b≠x:=λb n z=>by subst z;rw[n]at J;exact J
 have U:∀b,H b=AB->b≠e:=∎;have D:∀b u,H b=AA u->¬PD (AA u)->b≠x:=∎;refine⟨∎,λb u q n _ _=>⟨_,k b u (U b n) q⟩,λb u q n _=>by rw[Bs (W b n)];exact n,λb u q _=>?_,λb xs q=>by rw[Bs (D b _ q λz=>z)];exact q,λb u xs q=>by rw[Bs (D b _ q λz=>z)];exact q,λb ps q=>⟨#[],by rw[Bs (D b _ q λz=>z),q];simp⟩⟩;∎
def fP(h:Au)(H:AR):List AI:=(EO h.objs.size).filter λa=>(H a).isSome
def Lf(h:Au)(H:AR):Au:=AK7 h (fP h H)
def ABp(h:Au)(H:AR):(Lf h H).objs.size=h.objs.size:=W.hideAll_size _ _
def ABo{h:Au}(e:h.get? b=AA o)(n:H b=AB):(Lf h H).get? b=AA o:=AK8 _ e λD=>by have q:=(Ea.mp D).2;∎
def ACb{h:Au}(e:(Lf h H).get? b=AA o):h.get? b=AA o/\H b=AB:=by have D:=ALD _ e;refine⟨D,?_⟩;cases q:H b with|none=>rfl|some x=>have J:b∈fP h H:=Ea.mpr ⟨gF.mpr (Bt D),by simp[q]⟩;have z:(Lf h H).get? b=AB:=W.hideAll_none _ J;∎
structure Ry(K:Ap)(mg:AG->Option AJ)(base:Au):Prop where
 tp:K.In base
 ir:base.Ns C3 mg
 rh:∃mb,base.Ns AFv mb/\∀x:AG,x≠"__name__"->mb x=L1 x
 qt:base.NoLimit
structure BY where
 af:CB
 w:Ba
 K:Ap
 mg:AG->Option AJ
 ai:Au
 A:Ci
 N:List AG
 s₀:AX
 H₀:AR
 aa:DT
 ff:List DT
 au:List DT
 ex:List AI
 fn:AG->Bool
 bc:Bool
 pn:List (AI×BF)xe:AJ->AX->Prop
def DC(l:List DT):List AI:=l.filterMap (·.frame)
abbrev BY.fs(X:BY):List AI:=DC X.ff
def Ia(D:ED)(x:AG):Prop:=D.names.lookup x=AA .local\/D.names.lookup x=AA .cell\/D.names.lookup x=AA .free
def JF(D:ED)(x:AG):Prop:=D.names.lookup x=AA .local\/D.names.lookup x=AA .cell
def AA8(env:DT)(h:Au)(m:AG->Option AJ)(x:AG)(u:AJ):Prop:=(env.kindOf x=AA .local/\m x=AA u)\/((env.kindOf x=AA .cell\/env.kindOf x=AA .free)/\∃c,env.cells.lookup x=AA c/\h.IsCell c (AA u))
structure BY.Ok(X:BY):Prop where
 dh:Ry X.K X.mg X.ai
 cy:X.aa.scope.kind=.function
 ir:X.aa.globals=C3
 rh:X.aa.builtins=AFv
 fq:X.s₀.heap.objs.size<=X.aa.locals
 jb:∀x y c,X.aa.cells.lookup x=AA c->X.aa.cells.lookup y=AA c->x=y
 tj:∀x,(X.aa.kindOf x=AA .cell\/X.aa.kindOf x=AA .free)->∃c,X.aa.cells.lookup x=AA c
 sr:∀x c,X.fn x=AD->X.aa.cells.lookup x=AA c->X.s₀.heap.objs.size<=c
 hd:X.bc=AD->X.A.handled=AB
 cq:X.A.frames=AA X.au
 ux:X.au=X.ff\/(X.au=X.aa::X.ff/\X.aa.frame=AA X.aa.locals)vi:∀b∈X.ex,b≠X.aa.locals/\∀x c,X.aa.cells.lookup x=AA c->c≠b
 bs:∀b o,X.ai.get? b=AA o->X.s₀.heap.get? b=AA o/\X.H₀ b=AB
 ot:X.ai.objs.size<=X.s₀.heap.objs.size
 lp:∀b o,X.ai.get? b=AA o->b∉X.ex
 lh:∀b∈X.ex,b∉X.fs
 gq:X.s₀.heap.FunFrames X.ai X.ff
 qm:∀b∈X.fs,X.H₀ b=AB
structure Ae(X:BY)(pins:List (AI×BF))(σ:List (Option AQ))(H:AR)(s:AX):Prop where
 ok:X.Ok
 os:s.os=X.s₀.os
 dy:Ls s.gens
 ai:Gd X.fs X.ex X.H₀ H X.s₀.heap s.heap
 jx:∃m,s.heap.Ns X.aa.locals m/\∀(i:Nat)(x:AG)(v:AQ),X.N[i]?=AA x->σ[i]?=AA (AA v)->Ia X.aa.scope x->∃u,BQ v u/\AA8 X.aa s.heap m x u
 gn:∀x c,X.aa.cells.lookup x=AA c->∃v,s.heap.IsCell c v
 bh:H X.aa.locals=AB
 dc:∀x c,X.aa.cells.lookup x=AA c->H c=AB
 ie:∀p∈X.pn++pins,s.heap.get? p.1=AA p.2/\H p.1=AB/\p.1≠X.aa.locals/\p.1∉X.fs/\∀v,p.2.data≠.cell v
 ay:DB X.af X.w H s.heap
 ba:σ.length=X.N.length
def BY.Ok.xj{X:BY}(J:X.Ok)(e:X.ai.get? b=AA o):b∉X.fs:=λD=>by have:=(J.gq.mem D).1;∎
def Ae.bs{X:BY}{s:AX}(I:Ae X pins σ H s):∀b o,X.ai.get? b=AA o->s.heap.get? b=AA o/\H b=AB:=λb o e=>⟨I.ai.aw b o (I.ok.bs b o e).1 (I.ok.bs b o e).2 (I.ok.xj e) (I.ok.lp b o e),I.ai.bh b o (I.ok.bs b o e).1 (I.ok.bs b o e).2 (I.ok.lp b o e)⟩
def Ae.bk{X:BY}{s:AX}(I:Ae X pins σ H s):∀b o,X.ai.get? b=AA o->s.heap.get? b=AA o:=λb o e=>(I.bs b o e).1
def Ae.dh{X:BY}(I:Ae X pins σ H s):Ry X.K X.mg X.ai:=I.ok.dh
def Ae.il{X:BY}{s:AX}(I:Ae X pins σ H s):X.K.In s.heap:=I.ok.dh.tp.keeps I.bk
def Ae.lt{X:BY}{s:AX}(I:Ae X pins σ H s):X.aa.locals<s.heap.objs.size:=let⟨_,hn,_⟩:=I.jx;hn.lt
def Ae.sz{X:BY}{s:AX}(I:Ae X pins σ H s):X.s₀.heap.objs.size<=s.heap.objs.size:=Cj I.ok.fq (Nx I.lt)
def Ae.xk{X:BY}{s:AX}(I:Ae X pins σ H s)(h:s.heap.objs.size<=a):a∉X.fs:=λD=>by obtain⟨_,o,J,_⟩:=I.ok.gq.mem D;exact absurd (Eb (Bt J) (Cj I.sz h)) ∎
def Ae.xb{X:BY}(I:Ae X pins σ H s):∀x c,X.aa.cells.lookup x=AA c->c≠X.aa.locals:=λx c e z=>by obtain⟨v,o,V,U⟩:=I.gn x c e;obtain⟨m,⟨o',es,ep,J,D,_⟩,_⟩:=I.jx;∎
def Ae.gq{X:BY}{s:AX}(I:Ae X pins σ H s):s.heap.FunFrames X.ai X.ff:=by
 have D:∀(l:List _),(∀b∈DC l,b∈X.fs)->X.s₀.heap.FunFrames X.ai l->s.heap.FunFrames X.ai l:=by intro l;induction l with |nil=>intro _ _;trivial|cons env r C=> intro V Z;obtain⟨Y,⟨L,o,W,hn,A,E⟩,B⟩:=Z;have J:=V L (by unfold DC;∎);obtain⟨sl,e⟩:=I.ai.iw L o A (I.ok.qm L J) J λz=>I.ok.lh L z J;exact⟨Y,∎,C (λb U=>V b (by unfold DC;rw[SU,W];exact DK _ U)) B⟩
 exact D _ (λ_ U=>U) I.ok.gq
def Ae.au{X:BY}{s:AX}(I:Ae X pins σ H s):s.heap.FunFrames X.ai X.au:=by
 rcases I.ok.ux with e|⟨e,D⟩;.rw[e];exact I.gq
 . rw[e];obtain⟨m,hn,_⟩:=I.jx;refine .cons (by rw[I.ok.cy];decide) D hn ?_ I.gq;exact Heap.get?_none_of_le (Cj I.ok.ot I.ok.fq)
def Ae.jr{X:BY}(I:Ae X pins σ H s):∀b∈DC X.au,b∈X.aa.locals::X.fs:=λb D=>by
 rcases I.ok.ux with e|⟨e,J⟩;.∎
 . rw[e]at D;unfold DC at D;rw[SU,J]at D;exact D
def Ae.jq{X:BY}(I:Ae X pins σ H s):∀b∈DC X.au,H b=AB:=λb D=>by
 rcases Bw.mp (I.jr b D)with e|D;.rw[e];exact I.bh
 . obtain⟨_,o,J,_⟩:=I.ok.gq.mem D;exact I.ai.bh b o J (I.ok.qm b D) λz=>I.ok.lh b z D
def Ae.uj{X:BY}{pins:List (AI×BF)}{σ:List (Option AQ)}{H H':AR}{h':Au}{g':Array GenState}{t':Nat}{T:Drawn}{ch:List AI}(I:Ae X pins σ H s)(C:∀b∈ch,(b∈X.ex\/X.s₀.heap.objs.size<=b)/\b≠X.aa.locals/\(∀x c,X.aa.cells.lookup x=AA c->c≠b)/\∀p∈X.pn++pins,p.1≠b)(U:∀b o,b≠X.aa.locals->b∉X.fs->b∉ch->s.heap.get? b=AA o->H b=AB->h'.get? b=AA o)(V:∀b o,b≠X.aa.locals->b∈X.fs->b∉ch->s.heap.get? b=AA o->H b=AB->∃sl,h'.get? b=AA {o with slots:=sl})(J:∀b o,b∉ch->s.heap.get? b=AA o->H b=AB->H' b=AB)(Q:∀b o,b∉ch->s.heap.get? b=AA o->∃o',h'.get? b=AA o')(K:∀b xs,H b=AA (.tup xs)->H' b=AA (.tup xs))(B:∀b o u,H b=AA (.frz o u)->H' b=AA (.frz o u))(S:∀b ps,H b=AA (.tbl ps)->∃E,H' b=AA (.tbl (ps++E)))(ns:∀m,s.heap.Ns X.aa.locals m->h'.Ns X.aa.locals m)(O:DB X.af X.w H' h')(f:Ls g'):Ae X pins σ H' {s with heap:=h',gens:=g',drawn:=T,toks:=t'}:=by
  have G:∀b o,X.s₀.heap.get? b=AA o->b≠X.aa.locals:=λb o e=>DL (Eb (Bt e) I.ok.fq);have Z:∀b o,X.s₀.heap.get? b=AA o->b∉X.ex->b∉ch:=λb o e D Y=>by
    rcases(C b Y).1 with z|z;.exact D z
    .exact absurd (Eb (Bt e) z) (HB _)
  have L:∀x c,X.aa.cells.lookup x=AA c->∀v,s.heap.IsCell c v->h'.IsCell c v:=λx c e v⟨o,A,N⟩=>by
    have F:c∉ch:=(by grind);by_cases R:c∈X.fs
    . obtain⟨sl,q⟩:=V c o (I.xb x c e) R F A (I.dc x c e);exact⟨_,q,N⟩
    .exact⟨o,U c o (I.xb x c e) R F A (I.dc x c e),N⟩
  refine⟨I.ok,I.os,f,⟨λb o e n Y D=>?_,λb o e n Y D=>?_,λb o e n D=>?_,λb o e D=>?_,λb xs e=>K b xs (I.ai.ji b xs e),λb o xs e=>B b o xs (I.ai.iq b o xs e),λb ps e=>?_⟩,?_,λx c e=>?_,?_,λx c e=>?_,λp h=>?_,O,I.ba⟩;.exact U b o (G b o e) Y (Z b o e D) (I.ai.aw b o e n Y D) (I.ai.bh b o e n D)
  . obtain⟨sl,W⟩:=I.ai.iw b o e n Y D;obtain⟨P,M⟩:=V b _ (G b o e) Y (Z b o e D) W (I.ai.bh b o e n D);exact⟨P,M⟩
  . obtain⟨o',W⟩:=I.ai.cv b o e D;exact J b o' (Z b o e D) W (I.ai.bh b o e n D)
  . obtain⟨o',W⟩:=I.ai.cv b o e D;grind
  . obtain⟨j,W⟩:=I.ai.jh b ps e;grind
  . obtain⟨m,hn,g⟩:=I.jx;refine⟨m,ns m hn,λi x v W M a=>?_⟩;obtain⟨u,r,l⟩:=g i x v W M a;refine⟨u,r,?_⟩;rcases l with l|⟨k,c,e,z⟩;.exact .inl l
    .exact .inr (by grind)
  . obtain⟨v,z⟩:=I.gn x c e;grind
  . obtain⟨m,⟨o,_,_,A,_⟩,_⟩:=I.jx;exact J _ o (λz=>(C _ z).2.1 rfl) A I.bh
  . obtain⟨v,o,A,N⟩:=I.gn x c e;exact J c o (by grind) A (I.dc x c e)
  . obtain⟨e,n,t,w,d⟩:=I.ie p h;grind
def Ae.un{X:BY}(I:Ae X pins σ H s)(u:Gd X.fs [] H H' s.heap h')(V:DB X.af X.w H' h'):Ae X pins σ H' {s with heap:=h',toks:=t'}:=by obtain⟨m,⟨o,es,ep,W,r⟩,_⟩:=id I.jx;obtain⟨sl,Y⟩:=u.vb W I.bh (by simp);exact I.uj (ch:=[]) ∎ (λb o _ U _ e n=>u.aw b o e n U (by simp)) (λb o _ U _ e n=>u.iw b o e n U (by simp)) (λb o _ e n=>u.bh b o e n (by simp)) (λb o _ e=>u.cv b o e (by simp)) u.ji u.iq u.jh (λA Z=>by obtain⟨o',es',J,D,r'⟩:=Z;rw[W]at D;cases D;exact⟨_,es',J,Y,r'⟩) V I.dy
def Ae.ve{X:BY}(I:Ae X pins σ H s)(u:Gd (DC X.au) ch H H' s.heap h')(Y:DB X.af X.w H' h')(C:Ls g')(W:∀b∈ch,(b∈X.ex\/X.s₀.heap.objs.size<=b)/\b≠X.aa.locals/\(∀x c,X.aa.cells.lookup x=AA c->c≠b)/\∀p∈X.pn++pins,p.1≠b):Ae X pins σ H' {s with heap:=h',gens:=g',drawn:=A,toks:=t'}:=by obtain⟨m,⟨o,es,ep,Z,r⟩,_⟩:=id I.jx;obtain⟨sl,V⟩:=u.vb Z I.bh ∎;exact I.uj W (λb o V B D e n=>u.aw b o e n (λz=>(Bw.mp (I.jr b z)).elim V B) D) (λb o _ _ D e n=>u.vb e n D) (λb o D e n=>u.bh b o e n D) (λb o D e=>u.cv b o e D) u.ji u.iq u.jh (λF E=>by obtain⟨o',es',U,J,r'⟩:=E;rw[Z]at J;cases J;exact⟨_,es',U,V,r'⟩) Y C
def Ae.cu{X:BY}{h':Au}(I:Ae X pins σ H s)(k:∀b o,b≠it->s.heap.get? b=AA o->h'.get? b=AA o)(hn:H it=AB)(V:it≠X.aa.locals)(h1:it∈X.ex\/X.s₀.heap.objs.size<=it)(h2:∀x c,X.aa.cells.lookup x=AA c->c≠it)(U:∀p∈X.pn++pins,p.1≠it):Ae X pins σ H {s with heap:=h',toks:=t'}:=by
 refine I.uj (ch:=[it]) (λb W=>?_) ∎ (λb o _ _ D e _=>⟨_,k b o ∎ e⟩) ∎ ∎ (λ_ _ e=>e) ∎ (by simp_all) (λm J=>?_) (λb u e=>?_) I.dy;.∎
 . obtain⟨o,es,ep,Y,r⟩:=J;exact⟨o,es,ep,∎,r⟩
 . refine(I.ay b u e).ku (λc v D q=>k c v ?_ q) (λ_ q=>q) λ_ _ q=>q;∎
def Ae.jd(I:Ae X pins σ H s)(t:Nat):Ae X pins σ H {s with toks:=t}:=I.un ABB I.ay
def Ae.cp{h':Au}(I:Ae X pins σ H s)(k:∀b u,s.heap.get? b=AA u->h'.get? b=AA u):Ae X pins σ H {s with heap:=h',toks:=t'}:=I.un (R0 k) (I.ay.cp k)
def Ae.eu{X:BY}{h':Au}(I:Ae X pins σ H s)(k:∀b u,s.heap.get? b=AA u->h'.get? b=AA u)(D:s.heap.objs.size<=a)(J:Dt X.af X.w (Ax H a o) h' a o):Ae X pins σ (Ax H a o) {s with heap:=h',toks:=t'}:=I.un (ABA k D (I.ay.ao D)) (I.ay.eu k D J)
def Ae.jo{X:BY}{h':Au}(I:Ae X pins σ H s)(V:PD (H x))(U:e=x\/H e=AA (.own x))(k:∀b u,b≠e->s.heap.get? b=AA u->h'.get? b=AA u)(D:∃u,h'.get? e=AA u)(J:Dt X.af X.w (Ax H x o) h' x o):Ae X pins σ (Ax H x o) {s with heap:=h',toks:=t'}:=I.un (ABC V U k D) (I.ay.jo V U k D J)
def Ae.gw{X:BY}{s:AX}(I:Ae X pins σ H s)(h:∀p∈D,s.heap.get? p.1=AA p.2/\H p.1=AB/\p.1≠X.aa.locals/\p.1∉X.fs/\∀v,p.2.data≠.cell v):Ae X D σ H s:=⟨I.ok,I.os,I.dy,I.ai,I.jx,I.gn,I.bh,I.dc,λp J=>(Cb.mp J).elim (λz=>I.ie p ∎) (h p),I.ay,I.ba⟩
def dG{N:List AG}(U:N.Nodup){i j:Nat}{x:AG}(a:N[i]?=AA x)(b:N[j]?=AA x):i=j:=by obtain⟨h1,D⟩:=EN.mp a;obtain⟨h2,J⟩:=EN.mp b;exact(gC U).mp (D.trans J.symm)
def fJ{X:BY}{σ:List (Option AQ)}{s:AX}(I:Ae X pins σ H s)(hN:X.N.Nodup)(hi:X.N[i]?=AA x)(W:JF X.aa.scope x)(r:BQ v u)(h:∀s',Ae X pins (σ.set i (AA v)) H s'->(∃a,Kv a s.heap s'.heap/\(a=X.aa.locals\/X.aa.cells.lookup x=AA a))->Q () s')(hf:X.fn x=AD\/X.aa.scope.names.lookup x=AA .local:=by first|exact .inl rfl|exact .inr rfl|∎):Al M A (storeName X.aa x u) Q E s:=by
  obtain⟨m,hn,hl⟩:=id I.jx;have P:(X.aa.scope.kind==.class||(X.aa.scope.kind==.module&&X.aa.locals !=X.aa.globals))=AH:=by rw[I.ok.cy];rfl
  have B:i<σ.length:=by rw[I.ba];exact(EN.mp hi).1
  have C:=I.xb;have U:∀{a:AI}{h':Au},(∃o,s.heap.get? a=AA o/\H a=AB)->Kv a s.heap h'->DB X.af X.w H h':=λ{a h'}ha D b ob e=>by refine(I.ay b ob e).ku (λc w' Y q=>(D.2 c ?_).trans q) (λ_ q=>q) λ_ _ q=>q;∎
  rcases W with L|L
  . refine wpAny_storeName_local L hn (λh' f D=>?_) P;obtain⟨oL,_,_,g,_⟩:=id hn;refine h _ ⟨I.ok,I.os,I.dy,⟨λb o e n F W=>?_,λb o e n F W=>?_,I.ai.bh,λb o e W=>?_,I.ai.ji,I.ai.iq,I.ai.jh⟩,⟨_,f,λj y v' J Z T=>?_⟩,λy c e=>?_,I.bh,I.dc,λp t=>?_,U ⟨oL,g,I.bh⟩ D,by simpa using I.ba⟩ ⟨_,D,.inl rfl⟩;.exact(D.2 b (DL (Eb (Bt e) I.ok.fq))).trans (I.ai.aw b o e n F W)
    . obtain⟨sl,J⟩:=I.ai.iw b o e n F W;exact⟨sl,(D.2 b (DL (Eb (Bt e) I.ok.fq))).trans J⟩
    . obtain⟨o',J⟩:=I.ai.cv b o e W;exact⟨o',(D.2 b (DL (Eb (Bt e) I.ok.fq))).trans J⟩
    . by_cases K:j=i
      . subst K;rw[hi]at J;cases J;rw[AEu B]at Z;cases Z;exact⟨u,r,.inl ⟨L,by simp⟩⟩
      . rw[AEt (Ko K)]at Z;obtain⟨u',r',q⟩:=hl j y v' J Z T;refine⟨u',r',?_⟩;rcases q with⟨k,e⟩|⟨k,c,e,z⟩;. refine .inl ⟨k,?_⟩;have:y≠x:=λe=>K (dG hN J (e▸hi));simp[this,e]
        .exact .inr ⟨k,c,e,z.sameBut D (C y c e)⟩
    . obtain⟨w',z⟩:=I.gn y c e;exact⟨w',z.sameBut D (C y c e)⟩
    . obtain⟨e,n,S,w,d⟩:=I.ie p t;exact⟨(D.2 p.1 S).trans e,n,S,w,d⟩
  . have G:X.fn x=AD:=by∎
    obtain⟨c,Y⟩:=I.ok.tj x (.inl L);obtain⟨w',z⟩:=I.gn x c Y;refine wpAny_storeName_cell I.ok.cy L Y z (λh' N D=>?_);obtain⟨oc,l,hocd⟩:=id z;refine h _ ⟨I.ok,I.os,I.dy,⟨λb o e n F W=>?_,λb o e n F W=>?_,I.ai.bh,λb o e W=>?_,I.ai.ji,I.ai.iq,I.ai.jh⟩,⟨m,hn.sameBut D (Ko (C x c Y)),λj y v' J Z T=>?_⟩,λy R e=>?_,I.bh,I.dc,λp t=>?_,U ⟨oc,l,I.dc x c Y⟩ D,by simpa using I.ba⟩ ⟨c,D,.inr Y⟩;.exact(D.2 b (DL (Eb (Bt e) (I.ok.sr x c G Y)))).trans (I.ai.aw b o e n F W)
    . obtain⟨sl,J⟩:=I.ai.iw b o e n F W;exact⟨sl,(D.2 b (DL (Eb (Bt e) (I.ok.sr x c G Y)))).trans J⟩
    . obtain⟨o',J⟩:=I.ai.cv b o e W;exact⟨o',(D.2 b (DL (Eb (Bt e) (I.ok.sr x c G Y)))).trans J⟩
    . by_cases K:j=i
      . subst K;rw[hi]at J;cases J;rw[AEu B]at Z;cases Z;exact⟨u,r,.inr ⟨.inl L,c,Y,N⟩⟩
      . rw[AEt (Ko K)]at Z;obtain⟨u',r',q⟩:=hl j y v' J Z T;refine⟨u',r',?_⟩;rcases q with q|⟨k,R,e,z'⟩;.exact .inl q
        . refine .inr ⟨k,R,e,z'.sameBut D ?_⟩;rintro rfl;exact K (dG hN J (I.ok.jb _ _ _ e Y▸hi))
    . by_cases O:R=c;.subst O;exact⟨_,N⟩
      . obtain⟨w2,z2⟩:=I.gn y R e;exact⟨w2,z2.sameBut D O⟩
    . obtain⟨e,n,S,w,d⟩:=I.ie p t;refine⟨(D.2 p.1 ?_).trans e,n,S,w,d⟩;∎
def SO{X:BY}{σ:List (Option AQ)}(I:Ae X pins σ H s)(D:X.N.Nodup)(hi:X.N[i]?=AA x)(U:JF X.aa.scope x)(r:BQ v u)(h:∀s',Ae X pins (σ.set i (AA v)) H s'->Q () s')(J:X.fn x=AD\/X.aa.scope.names.lookup x=AA .local:=by first|exact .inl rfl|exact .inr rfl|∎):Al M A (storeName X.aa x u) Q E s:=fJ I D hi U r ∎ J
def Ae.mh{X:BY}{s:AX}{s':AX}(I:Ae X pins σ H s)(V:s'.os=s.os)(u:Gd (DC X.au) ch H H' s.heap s'.heap)(J:DB X.af X.w H' s'.heap)(U:Ls s'.gens)(D:∀b∈ch,(b∈X.ex\/X.s₀.heap.objs.size<=b)/\b≠X.aa.locals/\(∀x c,X.aa.cells.lookup x=AA c->c≠b)/\∀p∈X.pn++pins,p.1≠b):Ae X pins σ H' s':=by obtain⟨h',g',W,t',o'⟩:=s';have e:=V;subst e;exact I.ve u J U D
abbrev FU:=AJ->Option AI->AR->Prop
abbrev Az:=List (Option AQ)
abbrev BZ:=AQ->AR->Prop
abbrev A6:=Az->AR->BZ->Prop
abbrev Dk:=Az->AR->(Bool->AR->Prop)->Prop
abbrev Eh:=Az->AR->(List AQ->AR->Prop)->Prop
structure Fo where
 nx:Az->AR->Prop
 rt:BZ
 bk:Az->AR->Prop:=λ_ _=>False
 ct:Az->AR->Prop:=λ_ _=>False
abbrev Du:=Fo->Az->AR->Prop
def FR(X:BY)(pins:List (AI×BF))(σ:Az)(Q:BZ)(u:AJ)(s':AX):Prop:=∃v H',Ae X pins σ H' s'/\BQ v u/\Q v H'
def WH(X:BY)(pins:List (AI×BF))(σ:Az)(Q:Bool->AR->Prop)(b:Bool)(s':AX):Prop:=∃H',Ae X pins σ H' s'/\Q b H'
def AAz(X:BY)(pins:List (AI×BF))(σ:Az)(Q:List AQ->AR->Prop)(D:List AJ)(s':AX):Prop:=∃vs H',Ae X pins σ H' s'/\BR vs D/\Q vs H'
def PJ(X:BY)(pins:List (AI×BF))(D:Fo)(f:Flow)(s':AX):Prop:=match f with|.next=>∃J H',Ae X pins J H' s'/\D.nx J H'|.brk=>∃J H',Ae X pins J H' s'/\D.bk J H'|.cont=>∃J H',Ae X pins J H' s'/\D.ct J H'|.ret u=>∃v J H',Ae X pins J H' s'/\BQ v u/\D.rt v H'
def AV(X:BY)(e:BE)(t:A6):Prop:=∀(pins:List (AI×BF))(s:AX)(σ:Az)(H:AR)(Q:BZ),Ae X pins σ H s->t σ H Q->Al (Aj X.af X.w) X.A (Ar e X.aa) (FR X pins σ Q) X.xe s
def Cq(X:BY)(e:BE)(t:Dk):Prop:=∀(pins:List (AI×BF))(s:AX)(σ:Az)(H:AR)(Q:Bool->AR->Prop),Ae X pins σ H s->t σ H Q->Al (Aj X.af X.w) X.A (P2 e X.aa (Ar e X.aa)) (WH X pins σ Q) X.xe s
def Hv(X:BY)(e:BE)(t:Dk):Prop:=∀(D:Cr AJ)(pins:List (AI×BF))(s:AX)(σ:Az)(H:AR)(Q:Bool->AR->Prop),Ae X pins σ H s->t σ H Q->Al (Aj X.af X.w) X.A (P2 e X.aa D) (WH X pins σ Q) X.xe s
def G6(h:Hv X e t):Cq X e t:=h _
def C7(X:BY)(es:List BE)(t:Eh):Prop:=∀(pos:Ce)(pins:List (AI×BF))(s:AX)(σ:Az)(H:AR)(Q:List AQ->AR->Prop),Ae X pins σ H s->t σ H Q->Al (Aj X.af X.w) X.A (spliced (Bx pos (Ah es X.aa))) (AAz X pins σ Q) X.xe s
def CY(X:BY)(st:DE)(t:Du):Prop:=∀(pins:List (AI×BF))(s:AX)(σ:Az)(H:AR)(D:Fo),Ae X pins σ H s->t D σ H->Al (Aj X.af X.w) X.A (exec st X.aa) (PJ X pins D) X.xe s
def DS(X:BY)(st:List DE)(t:Du):Prop:=∀(pins:List (AI×BF))(s:AX)(σ:Az)(H:AR)(D:Fo),Ae X pins σ H s->t D σ H->Al (Aj X.af X.w) X.A (execs st X.aa) (PJ X pins D) X.xe s
def A2(h:Al M A t Q E s)(J:∀a s,Q a s->D a s):Al M A t D E s:=Ez h J λ_ _ x=>x
def fO(i:Nat):A6:=λσ H Q=>∃v,σ[i]?=AA (AA v)/\Q v H
def Ln(v:AQ):A6:=λ_ H Q=>Q v H
def d8{X:BY}{x:AG}(Y:X.N[i]?=AA x)(B:Ia X.aa.scope x)(V:(x==("__debug__":AG))=AH:=by decide)(U:(x==("__classdict__":AG))=AH:=by decide):AV X (.Name x pos) (fO i):=by
  intro pins s σ H Q I h;obtain⟨v,e,h⟩:=h;obtain⟨m,hn,Z⟩:=I.jx;obtain⟨u,r,l⟩:=Z i x v Y e B;have fin:FR X _ σ Q u s:=⟨v,H,I,r,h⟩;rcases l with⟨J,A⟩|⟨J,c,W,D⟩;.exact AGB (wpAny_loadName_local I.ok.cy J hn A fin) V
  . rcases J with J|J;.exact AGB (wpAny_loadName_cell I.ok.cy J W D fin) V
    .exact AGB (wpAny_loadName_free I.ok.cy J W D fin U) V
def Lk:AV X (.Constant (.int i) j pos) (Ln (.int i)):=λ_ _ _ H _ I h=>wpAny_Constant_int ⟨.int i,H,I.jd _,⟨_,rfl⟩,h⟩
def Pb:AV X (.Constant (.bool b) j pos) (Ln (.bl b)):=λ_ _ _ H _ I h=>Constant_bool ⟨.bl b,H,I,rfl,h⟩
def ADB:AV X (.Constant .none j pos) (Ln .non):=λ_ _ _ H _ I h=>Constant_none ⟨.non,H,I,rfl,h⟩
def d5:AV X (.Constant (.str x) j pos) (Ln (.str x)):=λ_ _ _ H _ I h=>Calls.Constant_str ⟨.str x,H,I.jd _,⟨_,rfl⟩,h⟩
def CG(X:BY)(x:AG):Prop:=X.aa.kindOf x=AA .globalImplicit
def PV{X:BY}{x:AG}(I:Ae X pins σ H s)(J:CG X x)(U:X.mg x=AA u)(h:Q u s)(D:(x==("__debug__":AG))=AH:=by decide):Al (Aj X.af X.w) X.A (Ar (.Name x pos) X.aa) Q E s:=AKF I.ok.cy J (Calls.loadGlobal_global (by rw[I.ok.ir];exact I.dh.ir.keeps I.bk) U h) D
def Kg{X:BY}{x:AG}(I:Ae X pins σ H s)(J:CG X x)(U:X.mg x=AB)(V:L1 x=AA u)(h:Q u s)(hn:x≠"__name__":=by decide)(D:(x==("__debug__":AG))=AH:=by decide):Al (Aj X.af X.w) X.A (Ar (.Name x pos) X.aa) Q E s:=by obtain⟨W,h1,h2⟩:=I.dh.rh;exact AKF I.ok.cy J (Calls.loadGlobal_builtin (by rw[I.ok.ir];exact I.dh.ir.keeps I.bk) U (by rw[I.ok.rh];exact h1.keeps I.bk) ∎ h) D
def Pc{X:BY}{x:AG}(J:CG X x)(U:X.mg x=AA u)(r:BQ v u)(D:(x==("__debug__":AG))=AH:=by decide):AV X (.Name x pos) (Ln v):=λ_ _ _ H _ I h=>PV I J U ⟨v,H,I,r,h⟩ D
def ACy{X:BY}{x:AG}(J:CG X x)(U:X.mg x=AB)(W:L1 x=AA u)(r:BQ v u)(hn:x≠"__name__":=by decide)(D:(x==("__debug__":AG))=AH:=by decide):AV X (.Name x pos) (Ln v):=λ_ _ _ H _ I h=>Kg I J U W ⟨v,H,I,r,h⟩ hn D
def Np(b:BE)(h:op≠.In)(h2:op≠.NotIn):Jv op b=AH:=by
 have D:(op==AKH)=AH:=by cases op<;>first|rfl|exact absurd rfl h
 have J:(op==AKI)=AH:=by cases op<;>first|rfl|exact absurd rfl h2
 cases b<;>simp[Jv,D,J]
def AD5(t:A6):Dk:=λσ H Q=>t σ H λx H1=>∃c,x=.bl c/\Q c H1
def SM{X:BY}{e:BE}(h:AV X e t)(U:∀D,P2 e X.aa D=(do let v<-D;Xd e.pos;Xb [v] (truthy v)):=by intro _;rfl):Cq X e (AD5 t):=by intro pins s σ H Q I hw;refine isTrue_plain (A2 (h _ s σ H _ I hw) λv s1⟨x,H1,J,r1,V⟩=>?_) (U _);obtain⟨d,rfl,q⟩:=V;cases r1;exact P9 ⟨H1,J,q⟩
def AD3(t u:Dk):Dk:=λσ H Q=>t σ H λc H1=>if c=AD then u σ H1 Q else Q AH H1
def AEO(t u:Dk):Dk:=λσ H Q=>t σ H λc H1=>if c=AD then Q AD H1 else u σ H1 Q
def AEM(t:Dk):Dk:=λσ H Q=>t σ H λc H1=>Q (!c) H1
def Nq(D:Cq X a tA):Hv X (.BoolOp .And [a] pos) tA:=by intro J pins s σ H Q I h;refine isTrue_and (A2 (D _ s σ H Q I h) λc s1 e=>?_);cases c with|true=>exact isTrue_and_nil e|false=>exact e
def Kj(D:Cq X a tA):Hv X (.BoolOp .Or [a] pos) tA:=by intro J pins s σ H Q I h;refine isTrue_or (A2 (D _ s σ H Q I h) λc s1 e=>?_);cases c with|false=>exact isTrue_or_nil e|true=>exact e
def ADg(J:Cq X a tA)(U:Hv X (.BoolOp .And (b::rest) pos) tB'):Hv X (.BoolOp .And (a::b::rest) pos) (AD3 tA tB'):=by intro W pins s σ H Q I h;refine isTrue_and (A2 (J _ s σ H _ I h) λc s1⟨H1,D,V⟩=>?_);cases c with|true=>exact U W _ s1 σ H1 Q D V|false=>∎
def ADh(J:Cq X a tA)(U:Hv X (.BoolOp .Or (b::rest) pos) tB'):Hv X (.BoolOp .Or (a::b::rest) pos) (AEO tA tB'):=by intro W pins s σ H Q I h;refine isTrue_or (A2 (J _ s σ H _ I h) λc s1⟨H1,D,V⟩=>?_);cases c with|true=>∎|false=>exact U W _ s1 σ H1 Q D V
def Wm(D:Cq X a tA):Cq X (.UnaryOp .Not a pos) (AEM tA):=by intro pins s σ H Q I h;exact isTrue_not (D _ s σ H _ I h)
def AD4(ta tb:A6):A6:=λσ H Q=>ta σ H λx H1=>∃c,x=.bl c/\if c=AD then tb σ H1 Q else Q (.bl AH) H1
def AEN(ta:A6):A6:=λσ H Q=>ta σ H λx H1=>∃c,x=.bl c/\Q (.bl (!c)) H1
def Wi(h:AV X a t):AV X (.BoolOp op [a] pos) t:=∎
def ACx(U:AV X a ta)(V:AV X (.BoolOp .And (b::rest) pos) tb):AV X (.BoolOp .And (a::b::rest) pos) (AD4 ta tb):=by intro pins s σ H Q I h;refine BoolOp_and (A2 (U _ s σ H _ I h) λv s1⟨x,H1,J,r1,D⟩=>?_);obtain⟨c,rfl,D⟩:=D;cases r1;refine P9 ?_;cases c with|true=>exact V _ s1 σ H1 Q J D|false=>exact⟨.bl _,H1,J,rfl,D⟩
def ADC(U:AV X a ta):AV X (.UnaryOp .Not a pos) (AEN ta):=by intro pins s σ H Q I h;refine UnaryOp_ (A2 (U _ s σ H _ I h) λv s1⟨x,H1,J,r1,D⟩=>?_);obtain⟨c,rfl,D⟩:=D;cases r1;exact not_of (P9 ⟨.bl _,H1,J,rfl,D⟩)
def AED(t:Dk)(ta tb:A6):A6:=λσ H Q=>t σ H λc H1=>if c=AD then ta σ H1 Q else tb σ H1 Q
def AC8(W:Cq X c tA)(U:AV X a ta)(V:AV X b tb):AV X (.IfExp c a b pos) (AED tA ta tb):=by intro pins s σ H Q I h;refine wpAny_IfExp (A2 (W _ s σ H _ I h) λd s1⟨H1,D,J⟩=>?_);cases d with|true=>exact U _ s1 σ H1 Q D J|false=>exact V _ s1 σ H1 Q D J
def Bq(K:Ap)(H:AR)(a:AI)(xs:List AQ):Prop:=EY H a (.lst xs)\/∃(o:BF)(D:Array AJ)(n:Nat),K.lookup a=AA o/\o.cls=.type "list"/\o.dict=AB/\o.data=.seq D n/\D.size<=AY/\BR xs D.toList
def CH(K:Ap)(H:AR)(a:AI)(xs:List AQ):Prop:=EY H a (.tup xs)\/∃(o:BF)(D:Array AJ)(n:Nat),K.lookup a=AA o/\o.cls=.type "tuple"/\o.data=.seq D n/\D.size<=AY/\BR xs D.toList
def ABD:AJ->Option AQ|.none=>AA .non|.bool b=>AA (.bl b)|.int i _=>AA (.int i)|.str x _=>AA (.str x)|.bytes b _=>AA (.byt b)|.float b _=>AA (.flt b)|.ref a=>AA (.ref a)|.type n=>AA (.ty n)|_=>AB
def BQ.xw(r:BQ x u):ABD u=AA x:=by cases x with|non=>cases r;rfl|bl _=>cases r;rfl|int _=>obtain⟨t,rfl⟩:=r;rfl|str _=>obtain⟨t,rfl⟩:=r;rfl|byt _=>obtain⟨t,rfl⟩:=r;rfl|flt _=>obtain⟨t,rfl⟩:=r;rfl|ref _=>cases r;rfl|ty _=>cases r;rfl
def BQ.jb(r:BQ x u)(q:BQ y u):x=y:=Kq (r.xw.symm.trans q.xw)
def BR.jb:∀{xs ys:List AQ}{D:List AJ},BR xs D->BR ys D->xs=ys|_,_,_,.nil,.nil=>rfl|_,_,_,.cons r t,.cons r' t'=>by rw[r.jb r',BR.jb t t']
def Lb{K:Ap}(h:H a=AA (.lst xs)):Bq K H a xs:=.inl (.inl h)
def Jg{K:Ap}(h:H a=AA (.tup xs)):CH K H a xs:=.inl (.inl h)
def Ae.bz{X:BY}{s:AX}{xs:List AQ}(I:Ae X pins σ H s)(h:Bq X.K H a xs):∃D:List AJ,BR xs D/\PlainL s.heap a D.toArray/\xs.length<=AY:=by
 rcases h with h|⟨o,D,n,V,J,U,W,hz,r⟩;. obtain⟨z,D,n,r,e⟩:=h.ok I.ay;exact⟨D,r,⟨_,n,e,rfl,rfl,rfl⟩,z⟩
 . refine⟨_,r,⟨o,n,I.il a o V,J,U,by simp_all⟩,?_⟩;have e:=r.aj;∎
def Ae.bj{X:BY}{s:AX}{xs:List AQ}(I:Ae X pins σ H s)(h:CH X.K H a xs):∃D:List AJ,BR xs D/\Sl s.heap a D.toArray/\xs.length<=AY:=by
 rcases h with h|⟨o,D,n,U,J,V,hz,r⟩
 . obtain⟨z,D,r,p⟩:=h.ok I.ay;∎
 . refine⟨_,r,⟨o,I.il a o U,J,n,by simp_all⟩,?_⟩;have e:=r.aj;∎
def Ae.ke{X:BY}(I:Ae X pins σ H s)(h:Bq X.K H a xs)(h':Bq X.K H a ys):xs=ys:=by
 obtain⟨D,r,⟨o,n,e,_,_,d⟩,_⟩:=I.bz h;obtain⟨its',r',⟨o',V,J,_,_,U⟩,_⟩:=I.bz h';rw[e]at J;have:D=its':=by∎
 subst this;exact r.jb r'
def Ae.oi{X:BY}(I:Ae X pins σ H s)(h:CH X.K H a xs)(h':CH X.K H a ys):xs=ys:=by
 obtain⟨D,r,⟨o,e,_,n,d⟩,_⟩:=I.bj h;obtain⟨its',r',⟨o',J,_,V,U⟩,_⟩:=I.bj h';rw[e]at J;have:D=its':=by∎
 subst this;exact r.jb r'
abbrev BY.ja(X:BY)(E:AJ->AX->Prop):BY:={X with xe:=E}
abbrev BY.uf(X:BY):BY:=X.ja λ_ _=>False
def BY.Ok.ja{X:BY}(D:X.Ok)(E:AJ->AX->Prop):(X.ja E).Ok:=⟨D.dh,D.cy,D.ir,D.rh,D.fq,D.jb,D.tj,D.sr,D.hd,D.cq,D.ux,D.vi,D.bs,D.ot,D.lp,D.lh,D.gq,D.qm⟩
def BY.Ok.fe{X:BY}(D:(X.ja E).Ok):X.Ok:=⟨D.dh,D.cy,D.ir,D.rh,D.fq,D.jb,D.tj,D.sr,D.hd,D.cq,D.ux,D.vi,D.bs,D.ot,D.lp,D.lh,D.gq,D.qm⟩
def Ae.ja{X:BY}(I:Ae X pins σ H s)(E:AJ->AX->Prop):Ae (X.ja E) pins σ H s:=⟨I.ok.ja E,I.os,I.dy,I.ai,I.jx,I.gn,I.bh,I.dc,I.ie,I.ay,I.ba⟩
def Ae.fe{X:BY}(I:Ae (X.ja E) pins σ H s):Ae X pins σ H s:=⟨I.ok.fe,I.os,I.dy,I.ai,I.jx,I.gn,I.bh,I.dc,I.ie,I.ay,I.ba⟩
def PJ.fe{X:BY}(h:PJ (X.ja E) pins D f s'):PJ X pins D f s':=by cases f with|next=>obtain⟨J,H',I,q⟩:=h;exact⟨J,H',I.fe,q⟩|brk=>obtain⟨J,H',I,q⟩:=h;exact⟨J,H',I.fe,q⟩|cont=>obtain⟨J,H',I,q⟩:=h;exact⟨J,H',I.fe,q⟩|ret u=>obtain⟨v,J,H',I,r,q⟩:=h;exact⟨v,J,H',I.fe,r,q⟩
def DS.uf{X:BY}{st:List DE}(h:DS X.uf st t):DS X st t:=λpins s σ H D I hw=>Ez (h _ s σ H D (I.ja _) hw) (λ_ _ q=>q.fe) ∎
def AEK:Du:=λD σ H=>D.nx σ H
def AET(t u:Du):Du:=λD σ H=>t {D with nx:=u D} σ H
def SK:DS X [] AEK:=λ_ _ σ H _ I h=>TF ⟨σ,H,I,h⟩
def Jj{st:DE}(h1:CY X st t)(h2:DS X rest u):DS X (st::rest) (AET t u):=by intro pins s σ H D I h;refine AGC (A2 (h1 _ s σ H _ I h) λf s1 q=>?_);cases f with|next=>obtain⟨U,H',J,q⟩:=q;exact h2 _ s1 _ H' D J q|ret v=>exact q|brk=>exact q|cont=>exact q
def Ll{st:DE}(h1:CY X st t):DS X [st] t:=by intro pins s σ H D I h;refine AGC (A2 (h1 _ s σ H D I h) λf s1 q=>?_);cases f with|next=>exact TF q|ret v=>exact q|brk=>exact q|cont=>exact q
def Ae.ro{X:BY}(I:Ae X pins σ H s):interactive X.aa=AH:=by simp[interactive,I.ok.cy]
def AEA(te:A6):Du:=λD σ H=>te σ H λ_ H1=>D.nx σ H1
def Wl{X:BY}{pos:Ce}(U:AV X e te)(V:HY e AB pos.line X.aa=BC AH:=by rfl):CY X (.Expr e pos) (AEA te):=by intro pins s σ H D I h;exact ALX (A2 (U _ s σ H _ I h) λv s1⟨x,H1,J,r1,W⟩=>⟨σ,H1,J,W⟩) I.ro V
def AER(te:A6):Du:=λD σ H=>te σ H D.rt
def MY(U:AV X e te):CY X (.Return (AA e) pos) (AER te):=by intro pins s σ H D I h;exact wpAny_Return_some (A2 (U _ s σ H _ I h) λv s1⟨x,H1,J,r1,V⟩=>⟨x,σ,H1,J,r1,V⟩)
def AEE(c:Dk)(t u:Du):Du:=λD σ H=>c σ H λb H1=>if b=AD then t D σ H1 else u D σ H1
def Pe(Y:Cq X c tc)(V:DS X a t)(W:DS X b u):CY X (.If c a b pos) (AEE tc t u):=by intro pins s σ H D I h;refine wpAny_If (A2 (Y _ s σ H _ I h) λd s1⟨H1,J,U⟩=>?_);cases d with|true=>exact V _ s1 σ H1 D J U|false=>exact W _ s1 σ H1 D J U
def AEJ:Du:=λ_ _ _=>False
def eI:DS X sts AEJ:=λ_ _ _ _ _ _ h=>h.elim
abbrev GH:=AQ->Az->AR->(Az->AR->Prop)->Prop
abbrev Ke:=List AQ->Az->AR->(Az->AR->Prop)->Prop
def FT(X:BY)(D:BE)(t:GH):Prop:=∀(pins:List (AI×BF))(s:AX)(σ:Az)(H:AR)(v:AQ)(u:AJ)(Q:Az->AR->Prop),Ae X pins σ H s->BQ v u->t v σ H Q->Al (Aj X.af X.w) X.A (XZ D X.aa u) (λ_ s'=>∃J H',Ae X pins J H' s'/\Q J H') X.xe s
def IZ(X:BY)(ts:List BE)(t:Ke):Prop:=∀(pins:List (AI×BF))(s:AX)(σ:Az)(H:AR)(vs:List AQ)(J:List AJ)(Q:Az->AR->Prop),Ae X pins σ H s->BR vs J->t vs σ H Q->Al (Aj X.af X.w) X.A (assignInOrder ((Kz ts X.aa).map (·.2)) J) (λ_ s'=>∃D H',Ae X pins D H' s'/\Q D H') X.xe s
def Le(i:Nat):GH:=λv σ H Q=>Q (σ.set i (AA v)) H
def Wk{X:BY}(J:X.N.Nodup)(hi:X.N[i]?=AA x)(V:JF X.aa.scope x)(U:X.fn x=AD\/X.aa.scope.names.lookup x=AA .local:=by first|exact .inl rfl|exact .inr rfl|∎):FT X (.Name x pos) (Le i):=by intro pins s σ H v u Q I r h;exact ALY (SO I J hi V r (λs' D=>⟨_,H,D,h⟩) U)
def ABh:Ke:=λvs σ H Q=>vs=[]/\Q σ H
def ABg(t:GH)(u:Ke):Ke:=λvs σ H Q=>∃v r,vs=v::r/\t v σ H λD H'=>u r D H' Q
def ADK:IZ X [] ABh:=by intro pins s σ H vs D Q I r h;obtain⟨e,h⟩:=h;subst e;exact AJr ∎
def ADJ{X:BY}(h1:FT X e t)(h2:IZ X es u)(U:(Kz (e::es) X.aa).map (·.2)=XZ e X.aa::(Kz es X.aa).map (·.2):=by rfl):IZ X (e::es) (ABg t u):=by intro pins s σ H vs Z Q I r h;obtain⟨v,A,J,h⟩:=h;subst J;cases r with|cons r W=>rw[U];refine AFB (A2 (h1 _ s σ H _ _ _ I r h) λ_ s1⟨Y,H1,D,V⟩=>?_);exact h2 _ s1 _ H1 _ _ Q D W V
def ABi(K:Ap)(n:Nat)(t:Ke):GH:=λv σ H Q=>∃a xs,v=.ref a/\CH K H a xs/\xs.length=n/\t xs σ H Q
def ADI{X:BY}(V:X.bc=AD)(h:IZ X es t)(hn:(Kz es X.aa).length=n:=by rfl)(D:(Kz es X.aa).findIdx? (·.1)=AB:=by rfl):FT X (.Tuple es k pos) (ABi X.K n t):=by intro pins s σ H v u Q I r hw;obtain⟨a,xs,U,Y,W,hw⟩:=hw;subst U;cases r;obtain⟨B,C,Z,hz⟩:=I.bj Y;refine assign_Tuple_tuple (I.ok.hd V) Z (by simp[hn,<-W,C.aj]) D λh' A=>?_;have J:=I.cp (t':=s.toks) λb o e=>A b o (DL (Bt e)) e;exact h _ _ σ H xs _ Q J ∎ hw
def Wv(te:A6)(g:GH):Du:=λD σ H=>te σ H λx H1=>g x σ H1 D.nx
def eF{X:BY}{pos:Ce}(V:X.N.Nodup)(hi:X.N[i]?=AA x)(A:JF X.aa.scope x)(W:AV X e te)(Z:HY e (AA (.Name x pos')) pos.line X.aa=BC AH:=by rfl)(Y:X.fn x=AD\/X.aa.scope.names.lookup x=AA .local:=by first|exact .inl rfl|exact .inr rfl|∎):CY X (.Assign [.Name x pos'] e pos) (Wv te (Le i)):=by intro pins s σ H D I h;refine wpAny_Assign_Name (A2 (W _ s σ H _ I h) λv s1⟨y,H1,J,r1,B⟩=>?_) Z;exact SO J V hi A r1 (λs2 U=>⟨_,H1,U,B⟩) Y
def AEP(i j:Nat)(ta:Eh):Du:=λD σ H=>ta σ H λvs H1=>∃v w,vs=[v,w]/\D.nx ((σ.set i (AA v)).set j (AA w)) H1
def ADY{X:BY}{pos:Ce}(O:X.bc=AD)(B:X.N.Nodup)(hi:X.N[i]?=AA x)(P:X.N[j]?=AA y)(U:i≠j)(C:X.aa.scope.names.lookup x=AA .local)(E:X.aa.scope.names.lookup y=AA .local)(N:C7 X [a,b] ta)(hw:ALS [.Tuple [.Name x px,.Name y py] W pt] (.Tuple [a,b] k2 pt2) X.aa=BC (AA [x,y]))(T:ALT [.Tuple [.Name x px,.Name y py] W pt] (.Tuple [a,b] k2 pt2) pos.line X.aa=BC AH:=by rfl):CY X (.Assign [.Tuple [.Name x px,.Name y py] W pt] (.Tuple [a,b] k2 pt2) pos) (AEP i j ta):=by
 intro pins s σ H D I h;refine Aa (AGF ?_);refine Aa (Av ?_);refine Aa (Tuple_ (A2 (N _ _ s σ H _ I h) λS s1⟨vs,H1,F,r1,Y⟩=>?_));obtain⟨v,w,M,Y⟩:=Y;subst M;obtain⟨J,u2,rfl,R,Z⟩:∃J u2,S=[J,u2]/\BQ v J/\BQ w u2:=by cases r1 with|cons p q=>cases q with|cons Q q'=>cases q';exact⟨_,_,rfl,p,Q⟩
 refine Mn ?_ (by show 2<=AY;decide);have G:Ae X _ σ H1 {s1 with heap:=s1.heap.push {cls:=.type "tuple",data:=.seq [J,u2].toArray}}:=F.cp λb o e=>Bn _ e;rw[hw];refine Aa (Av ?_);refine Aa (H9 (Aa (unpackItems_tuple (items:=#[J,u2]) (I.ok.hd O) (gO _ _) λh' V=>?_)));have K:=G.cp (t':=s1.toks) λb o e=>V b o (DL (Bt e)) e;refine Aa (AFB (ALZ (SO K B P (.inl E) Z (λs2 L=>?_) (.inr E))));refine AFB (ALZ (SO L B hi (.inl C) R (λs3 A=>AJr (Av ?_)) (.inr C)));rw[List.set_comm _ _ (Ko U)]at A;exact⟨_,H1,A,Y⟩
def AEY(c:Dk)(tb:Du):Du:=λD σ H=>∃W:Nat->Az->AR->Prop,(∃m,W m σ H)/\∀m σ H,W m σ H->c σ H λb H1=>if b=AD then∃N:Az->AR->Prop,(∀J H',N J H'->∃U,U<m/\W U J H')/\tb {D with nx:=N,ct:=N,bk:=D.nx} σ H1 else D.nx σ H1
def ADb{X:BY}(C:XR (Aj X.af X.w) X.A X.aa X.xe)(L:Cq X c tc)(K:DS X J tb):CY X (.While c J [] pos) (AEY tc tb):=by intro pins s σ H D I h;obtain⟨W,⟨M,R⟩,turn⟩:=h;refine wpAny_While (codeAny_whileLoop (λn s'=>∃U H',Ae X pins U H' s'/\W n U H') ?_ M ∎);rintro n s1⟨Z,H1,F,P⟩;refine P8 C (A2 (L _ s1 _ H1 _ F (turn n _ H1 P)) λb s2⟨H2,B,V⟩=>?_);cases b with
 |true=> obtain⟨N,Q,V⟩:=V;refine P8 C (A2 (K _ s2 _ H2 _ B V) λf s3 Y=>?_);cases f with |next=> obtain⟨A,E,G,O⟩:=Y;∎|cont=> obtain⟨A,E,G,O⟩:=Y;∎|brk=>exact Y|ret v=>exact Y
 |false=>exact TF ⟨Z,H2,B,V⟩
structure G5 where
 go:Nat->AR->Prop
 uz:Nat->AR->AQ->AR->Prop
 oh:Nat->AR->Prop
def MU(X:BY)(pins:List (AI×BF))(H:AR)(b:AI):Prop:=H b=AB/\b≠X.aa.locals/\b∉X.fs/\(b∈X.ex\/X.s₀.heap.objs.size<=b)/\(∀x c,X.aa.cells.lookup x=AA c->c≠b)/\∀p∈X.pn++pins,p.1≠b
def Ae.ni{s:AX}(I:Ae X pins σ H s)(D:s.heap.objs.size<=b)(hn:H' b=AB):MU X pins H' b:=by
 refine⟨hn,XJ (Eb I.lt D),I.xk D,.inr (Cj I.sz D),λx c e z=>?_,λp J z=>?_⟩;. obtain⟨v,q⟩:=I.gn x c e;exact absurd (Eb q.lt ∎) (HB _)
 .exact absurd (Eb (Bt (I.ie p J).1) ∎) (HB _)
structure Nj(P:CB)(w:Ba)(K:Ap)(tg:BE)(J:G5)(fp:List AI)(it:AI)(tn:Nat->Au->Prop):Prop where
 vt:it∈fp
 kj:∀i h,tn i h->∀b∈fp,∃o,h.get? b=AA o/\∀v,o.data≠.cell v
 aw:∀i h h',tn i h->(∀b∈fp,∀o,h.get? b=AA o->h'.get? b=AA o)->tn i h'
 lj:∀(X:BY),X.af=P->X.w=w->X.K=K->X.bc=AD->∀(i:Nat)(pins:List (AI×BF))(s:AX)(σ:Az)(H:AR)(E:AJ->AX->Prop),Ae X pins σ H s->(∀b∈fp,MU X pins H b)->tn i s.heap->J.go i H->Al (Aj P w) X.A (P6 (.ref it)) (λr s1=>∃u,r=AA u/\Al (Aj P w) X.A (AF3 tg (.ref it) u) (λ_ s2=>∃x H',Ae X pins σ H' s2/\BQ x u/\J.uz i H x H'/\tn (i+1) s2.heap/\∀b∈fp,H' b=AB) E s1) E s
 lg:∀(X:BY),X.af=P->X.w=w->X.K=K->X.bc=AD->∀(i:Nat)(pins:List (AI×BF))(s:AX)(σ:Az)(H:AR)(E:AJ->AX->Prop),Ae X pins σ H s->(∀b∈fp,MU X pins H b)->tn i s.heap->J.oh i H->Al (Aj P w) X.A (P6 (.ref it)) (λr s1=>r=AB/\Ae X pins σ H s1) E s
 og:∀(A:Ci)(i:Nat)(s:AX)(Q:AJ->AX->Prop)(E:AJ->AX->Prop),tn i s.heap->Q (.ref it) s->Al (Aj P w) A (P5 (.ref it)) Q E s
abbrev G7:=Az->AR->(G5->AR->Prop)->Prop
def bN(X:BY)(pins:List (AI×BF))(σ:Az)(tg:BE)(R:G5->AR->Prop)(D:AJ)(s2:AX):Prop:=∃(it:AI)(fp:List AI)(U:Nat->Au->Prop)(J:G5)(H':AR),D=.ref it/\Ae X pins σ H' s2/\Nj X.af X.w X.K tg J fp it U/\U 0 s2.heap/\(∀b∈fp,MU X pins H' b)/\R J H'
def EX(X:BY)(tg iter:BE)(D:G7):Prop:=∀(pins:List (AI×BF))(s:AX)(σ:Az)(H:AR)(R:G5->AR->Prop),Ae X pins σ H s->D σ H R->Al (Aj X.af X.w) X.A (Ar iter X.aa) (λv s1=>Al (Aj X.af X.w) X.A (P5 v) (bN X pins σ tg R) X.xe s1) X.xe s
def R5{s:AX}{o:BF}(V:s.heap.get? it=AA o)(J:o.cls=.type n)(U:o.data=.fields vs)(hn:["enumerate","zip","dict_itemiterator","dict_reverseitemiterator","odict_iterator","itertools.zip_longest","itertools.pairwise"].contains n=AH)(D:Q () s):Al M A (AF3 tg (.ref it) u) Q E s:=by cases tg<;>first|exact Av D|(cases u<;>first|exact Av D| (refine Aa (AGE V ?_);rw[J,U];show Al M A (if(["enumerate","zip","dict_itemiterator","dict_reverseitemiterator","odict_iterator","itertools.zip_longest","itertools.pairwise"].contains n&&vs[0]?==AA _)=AD then _ else _) Q E s;rw[AMv ∎];exact Av D))
def bJ(K:Ap)(a:AI):G5:=⟨λi H=>∃xs x,Bq K H a xs/\xs[i]?=AA x,λi H x H'=>H'=H/\∀xs,Bq K H a xs->xs[i]?=AA x,λi H=>∃xs,Bq K H a xs/\xs.length<=i⟩
def bK(K:Ap)(a:AI):G5:=⟨λi H=>∃xs x,CH K H a xs/\xs[i]?=AA x,λi H x H'=>H'=H/\∀xs,CH K H a xs->xs[i]?=AA x,λi H=>∃xs,CH K H a xs/\xs.length<=i⟩
def Rt(lo:Int)(n:Nat):G5:=⟨λi _=>i<n,λi H x H'=>H'=H/\x=.int (lo+i),λi _=>n<=i⟩
def AEd{K:Ap}(a it:AI):Nj P w K tg (bJ K a) [it] it (λi h=>h.IsListIter it a i)where
 vt:=by simp
 kj:=λi h st b N=>by
  have e:b=it:=by∎
  obtain⟨o,e,c,d⟩:=st;∎
 aw:=λi h h' st k=>st.at ∎
 lj:=by intro X B hw A O i pins s σ H E I C st F;subst B hw A;obtain⟨xs,x,J,G⟩:=F;obtain⟨L,M,p,hz⟩:=I.bz J;obtain⟨u,j,S⟩:=M.ju G;obtain⟨U,V,f2,W,Y,Z⟩:=C it (by simp);refine wpAny_pyNext_list_item st p.isList (x:=u) ∎ λh' D T=>?_;have Q:=I.cu (t':=s.toks) (λb o N e=>(T.2 b N).trans e) U V W Y Z;obtain⟨o,e,c,d⟩:=id D;exact⟨u,rfl,R5 e c d (by decide) ⟨x,H,Q,S,⟨rfl,λys R=>by rw[I.ke R J];exact G⟩,D,∎⟩⟩
 lg:=by intro X B hw A O i pins s σ H E I C st F;subst B hw A;obtain⟨xs,J,G⟩:=F;obtain⟨L,M,p,hz⟩:=I.bz J;obtain⟨U,V,f2,W,Y,Z⟩:=C it (by simp);have g:=M.aj;exact wpAny_pyNext_list_end (I.ok.hd O) st p.isList ∎ λh' f=>⟨rfl,I.cu ∎ U V W Y Z⟩
 og:=λ_ _ _ _ _ st h=>wpAny_pyIter_listiter st h
def AEf{K:Ap}(a it:AI):Nj P w K tg (bK K a) [it] it (λi h=>h.IsTupleIter it a i)where
 vt:=by simp
 kj:=λi h st b N=>by
  have e:b=it:=by∎
  subst e;obtain⟨o,e,c,d⟩:=st;∎
 aw:=λi h h' st k=>st.at ∎
 lj:=by intro X B hw A O i pins s σ H E I C st F;subst B hw A;obtain⟨xs,x,J,G⟩:=F;obtain⟨L,M,p,hz⟩:=I.bj J;obtain⟨u,j,S⟩:=M.ju G;obtain⟨U,V,f2,W,Y,Z⟩:=C it (by simp);refine wpAny_pyNext_tuple_item st ∎ (x:=u) ∎ λh' D T=>?_;have Q:=I.cu (t':=s.toks) (λb o N e=>(T.2 b N).trans e) U V W Y Z;obtain⟨o,e,c,d⟩:=id D;exact⟨u,rfl,R5 e c d (by decide) ⟨x,H,Q,S,⟨rfl,λys R=>by rw[I.oi R J];exact G⟩,D,∎⟩⟩
 lg:=by intro X B hw A O i pins s σ H E I C st F;subst B hw A;obtain⟨xs,J,G⟩:=F;obtain⟨L,M,p,hz⟩:=I.bj J;obtain⟨U,V,f2,W,Y,Z⟩:=C it (by simp);have g:=M.aj;exact wpAny_pyNext_tuple_end (I.ok.hd O) st ∎ ∎ λh' f=>⟨rfl,I.cu ∎ U V W Y Z⟩
 og:=λ_ _ _ _ _ st h=>wpAny_pyIter_tupleiter st h
def AEe{K:Ap}(it:AI)(lo:Int)(n:Nat):Nj P w K tg (Rt lo n) [it] it (λi h=>IsRangeIter h it (lo+(i:Nat)*1) ((n:Int)-(i:Nat)) 1)where
 vt:=by simp
 kj:=∎
 aw:=∎
 lj:=by intro X G hw F A i pins s σ H E I B st C;subst G hw F;obtain⟨J,U,f2,V,Y,Z⟩:=B it (by simp);have W:=Walks.range (prog:=X.af) (w:=X.w) (I.ok.hd A) it lo 1 n;refine W.item i s _ _ C st λv h' tk M D O=>?_;obtain⟨t,rfl⟩:=M;have L:Ae X pins σ H {s with heap:=h',toks:=tk}:=I.cu ∎ J U V Y Z;refine⟨_,rfl,R5 D rfl rfl (by decide) ⟨.int (lo+i),H,L,⟨t,?_⟩,⟨rfl,rfl⟩,D,∎⟩⟩;∎
 lg:=by intro X G hw F A i pins s σ H E I B st C;obtain⟨J,U,f2,V,Y,Z⟩:=B it (by simp);exact wpAny_pyNext_range_end (I.ok.hd A) st (by have:n<=i:=C;∎) λh' N=>⟨rfl,I.cu ∎ J U V Y Z⟩
 og:=λ_ _ _ _ _ st h=>wpAny_pyIter_rangeiter st h
def cM(K:Ap)(tl:A6):G7:=λσ H R=>tl σ H λx H1=>∃a,x=.ref a/\(∃xs,Bq K H1 a xs)/\R (bJ K a) H1
def cN(K:Ap)(tl:A6):G7:=λσ H R=>tl σ H λx H1=>∃a,x=.ref a/\(∃xs,CH K H1 a xs)/\R (bK K a) H1
def ADN{X:BY}(J:AV X l tl):EX X tg l (cM X.K tl):=by
 intro pins s σ H R I h;refine A2 (J _ s σ H _ I h) λv s1⟨x,H1,D,r1,W⟩=>?_;obtain⟨a,e,⟨xs,U⟩,q⟩:=W;subst e;cases r1;obtain⟨V,Z,p,hz⟩:=D.bz U;refine ALf p.isList ?_;refine⟨_,_,_,_,H1,rfl,D.cp λb o e=>Bn _ e,AEd a _,⟨_,EB _ rfl,rfl,rfl⟩,λb Y=>?_,q⟩;have e:b=s1.heap.objs.size:=by∎
 subst e;exact D.ni (Aw _) (D.ay.ao (Aw _))
def ADP{X:BY}(J:AV X l tl):EX X tg l (cN X.K tl):=by
 intro pins s σ H R I h;refine A2 (J _ s σ H _ I h) λv s1⟨x,H1,D,r1,W⟩=>?_;obtain⟨a,e,⟨xs,U⟩,q⟩:=W;subst e;cases r1;obtain⟨V,Z,p,hz⟩:=D.bj U;refine ALh ∎ ?_;refine⟨_,_,_,_,H1,rfl,D.cp λb o e=>Bn _ e,AEf a _,⟨_,EB _ rfl,rfl,rfl⟩,λb Y=>?_,q⟩;have e:b=s1.heap.objs.size:=by∎
 subst e;exact D.ni (Aw _) (D.ay.ao (Aw _))
def ADl{X:BY}{s:AX}{lo:Int}(I:Ae X pins σ H s)(h1:-(2^62)<=lo)(h2:lo<2^62)(V:-(2^62)<=hi)(W:hi<2^62)(q:R (Rt lo (hi-lo).toNat) H):Al (Aj X.af X.w) X.A (P5 (.ref s.heap.objs.size)) (bN X pins σ tg R) E {s with heap:=s.heap.push {cls:=.type "range",data:=.fields #[.int lo t,.int hi u,.int 1 v]},toks:=tk}:=by
  refine wpAny_pyIter_range (AKf ..) (small_one h1 h2 V W) ?_;have D:Ae X _ σ H {s with heap:=s.heap.push {cls:=.type "range",data:=.fields #[.int lo t,.int hi u,.int 1 v]},toks:=tk}:=I.cp λb o e=>Bn _ e;refine⟨_,_,_,_,H,rfl,D.cp λb o e=>Bn _ e,AEe _ lo _,?_,λb Y=>?_,q⟩
  . have J:lo+((0:Nat))*1=lo:=by simp
    have U:(((hi-lo).toNat:Nat))-((0:Nat))=AFP lo hi 1:=by rw[rangeSize_one];∎
    rw[J,U];exact EB _ rfl
  . have e:b=(s.heap.push {cls:=.type "range",data:=.fields #[.int lo t,.int hi u,.int 1 v]}).objs.size:=by∎
    subst e;exact D.ni (Aw _) (D.ay.ao (Aw _))
def ABs(ta:Eh):G7:=λσ H R=>ta σ H λvs H1=>∃j:Int,vs=[.int j]/\-(2^62)<=j/\j<2^62/\R (Rt 0 j.toNat) H1
def ADO{X:BY}(V:CG X "range")(W:X.mg "range"=AB)(U:C7 X [a] ta)(Y:Ah [a] X.aa=[(AH,Ar a X.aa)]:=by rfl):EX X tg (.Call (.Name "range" p) [a] [] pos) (ABs ta):=by intro pins s σ H R I h;refine Call_ (Kg I V W boot_range (Sn (A2 (U _ _ s σ H _ I h) λB s1⟨vs,H1,J,r1,D⟩=>?_) Y rfl));obtain⟨j,e,D,Z,q⟩:=D;subst e;cases r1 with|cons r A=>cases A;obtain⟨t,rfl⟩:=r;exact call_range_1 (ADl J ∎ ∎ D Z ∎)
def AEC(Z:G7)(g:GH)(tb:Du):Du:=λD σ H=>Z σ H λJ H1=>∃W:Nat->Nat->Az->AR->Prop,(∃m,W 0 m σ H1)/\∀i m σ H,W i m σ H->(J.oh i H/\D.nx σ H)\/(J.go i H/\∃N:Az->AR->Prop,(∀U H',N U H'->∃Y,Y<m/\W (i+1) Y U H')/\∀x H',J.uz i H x H'->g x σ H' λV H2=>tb {D with nx:=N,ct:=N,bk:=D.nx} V H2)
def SJ(fp:List AI)(h:Au):List (AI×BF):=fp.filterMap λb=>(h.get? b).map λo=>(b,o)
def Wc{h:Au}(D:b∈fp)(e:h.get? b=AA o):(b,o)∈SJ fp h:=Sa.mpr ∎
def ACc{h:Au}{p:AI×BF}(D:p∈SJ fp h):p.1∈fp/\h.get? p.1=AA p.2:=by obtain⟨b,J,e⟩:=Sa.mp D;cases q:h.get? b with|none=>∎|some o=>∎
def Ae.pq{s:AX}(I:Ae X pins σ H s)(J:∀b∈fp,MU X pins H b)(Y:∀b∈fp,∃o,s.heap.get? b=AA o/\∀v,o.data≠.cell v):Ae X (pins++SJ fp s.heap) σ H s:=I.gw λp U=>(Cb.mp U).elim (λz=>I.ie p ∎) λz=>by obtain⟨D,e⟩:=ACc z;obtain⟨V,W,f2,_⟩:=J _ D;∎
def Ae.iz(I:Ae X (pins++pl) σ H s):Ae X pins σ H s:=I.gw λp D=>I.ie p ∎
def eE{X:BY}(M:XR (Aj X.af X.w) X.A X.aa X.xe)(q:X.bc=AD)(hi:EX X tg iter y)(hg:FT X tg g)(A:DS X F tb)(hs:∀x,L4 iter X.aa x=BC x:=by intro _;rfl):CY X (.For tg iter F [] pos) (AEC y g tb):=by
  intro pins s σ H D I h;refine wpAny_For (A2 (hi pins s σ H _ I h) λv s1 h1=>A2 h1 λitv s2 h2=>?_) hs;obtain⟨it,fp,w,J,H2,e,I2,T,j,f2,W,⟨m0,w0⟩,turn⟩:=h2;subst e;have B:∀{H':AR},(∀b∈fp,H' b=AB)->∀b∈fp,MU X pins H' b:=λhn b A=>⟨hn b A,(f2 b A).2⟩;refine codeAny_forLoop_any (λn s'=>∃i C H',Ae X pins C H' s'/\w i s'.heap/\(∀b∈fp,H' b=AB)/\W i n C H') ?_ m0 ⟨0,σ,H2,I2,j,λb A=>(f2 b A).1,w0⟩;rintro n s3⟨i,E,R,p,P,L,w3⟩;rcases turn i n E R w3 with⟨Q,qn⟩|⟨go,N,hN,step⟩
  . refine P8 M (A2 (T.lg X rfl rfl rfl q i _ s3 E R X.xe p (B L) P Q) λr s4⟨c,I4⟩=>?_);subst c;exact TF ⟨E,R,I4,qn⟩
  . refine P8 M (A2 (T.lj X rfl rfl rfl q i pins s3 E R X.xe p (B L) P go) λr s4⟨u,c,h4⟩=>?_);subst c;refine P8 M (A2 h4 λ_ s5⟨x,l,I5,r5,y5,K,a⟩=>?_);have S:=I5.pq (B a) (T.kj _ _ K);refine P8 M (A2 (hg _ s5 E l x u _ S r5 (step x l y5)) λ_ s6⟨k,z,I6,q6⟩=>?_);refine P8 M (A2 (A _ s6 k z _ I6 q6) λf t G=>?_);have Z:∀{U:Az}{V:AR},Ae X _ U V t->N U V->∃m,m<n/\∃i C H',Ae X pins C H' t/\w i _/\(∀b∈fp,H' b=AB)/\W i m C H':=λ{U V}Y O=>by obtain⟨m',hm,w7⟩:=hN U V O;refine⟨m',hm,_,U,V,Y.iz,T.aw _ _ _ K λb A o e=>(Y.ie _ (Dl _ (Dl _ (Wc A e)))).1,λb A=>?_,w7⟩;obtain⟨o,e,d⟩:=T.kj _ _ K b A;exact(Y.ie _ (Dl _ (Dl _ (Wc A e)))).2.1
    cases f with|next=>obtain⟨U,V,Y,O⟩:=G;exact Z Y O|cont=>obtain⟨U,V,Y,O⟩:=G;exact Z Y O|brk=>obtain⟨U,V,Y,G⟩:=G;exact⟨U,V,Y.iz,G⟩|ret v=>obtain⟨x7,U,V,Y,r7,G⟩:=G;exact⟨x7,U,V,Y.iz,r7,G⟩
abbrev Cy:=AQ->AQ->AR->BZ->Prop
def CN(X:BY)(f:AJ->AJ->Cr AJ)(r:Cy):Prop:=∀(pins:List (AI×BF))(s:AX)(σ:Az)(H:AR)(x y:AQ)(v u:AJ)(Q:BZ),Ae X pins σ H s->BQ x v->BQ y u->r x y H Q->Al (Aj X.af X.w) X.A (f v u) (FR X pins σ Q) X.xe s
def WJ(X:BY)(f:AJ->Cr AJ)(r:AQ->AR->BZ->Prop):Prop:=∀(pins:List (AI×BF))(s:AX)(σ:Az)(H:AR)(x:AQ)(v:AJ)(Q:BZ),Ae X pins σ H s->BQ x v->r x H Q->Al (Aj X.af X.w) X.A (f v) (FR X pins σ Q) X.xe s
def FA(X:BY)(f:AJ)(r:List AQ->AR->BZ->Prop):Prop:=∀(pins:List (AI×BF))(s:AX)(σ:Az)(H:AR)(xs:List AQ)(D:List AJ)(Q:BZ),Ae X pins σ H s->BR xs D->r xs H Q->Al (Aj X.af X.w) X.A (JL f D) (FR X pins σ Q) X.xe s
def MZ(r:Cy)(ta tb:A6):A6:=λσ H Q=>ta σ H λx H1=>tb σ H1 λy H2=>r x y H2 Q
def AEX(r:AQ->AR->BZ->Prop)(ta:A6):A6:=λσ H Q=>ta σ H λx H1=>r x H1 Q
def Nr(C:Int->Int->Prop)(g:Int->Int->AQ):Cy:=λx y H Q=>∃i j,x=.int i/\y=.int j/\C i j/\Q (g i j) H
def Gf(g:Int->Int->AQ):Cy:=λx y H Q=>∃i j,x=.int i/\y=.int j/\Q (g i j) H
def fB(g:Int->AQ):AQ->AR->BZ->Prop:=λx H Q=>∃i,x=.int i/\Q (g i) H
def WL{X:BY}{a b:BE}{ta tb:A6}(W:AV X a ta)(Y:AV X b tb){pins:List (AI×BF)}{s:AX}{σ:Az}{H:AR}{R:AQ->AQ->AR->Prop}(I:Ae X pins σ H s)(h:ta σ H λx H1=>tb σ H1 λy H2=>R x y H2){Q:AJ->AX->Prop}{f:AJ->AJ->Cr AJ}(B:∀v u s2 x y H2,Ae X pins σ H2 s2->BQ x v->BQ y u->R x y H2->Al (Aj X.af X.w) X.A (f v u) Q X.xe s2):Al (Aj X.af X.w) X.A (Ar a X.aa) (λv D=>Al (Aj X.af X.w) X.A (Ar b X.aa) (λu J=>Al (Aj X.af X.w) X.A (f v u) Q X.xe J) X.xe D) X.xe s:=by refine A2 (W _ s σ H _ I h) λv s1⟨x,H1,U,r1,Z⟩=>?_;refine A2 (Y _ s1 σ H1 _ U Z) λu s2⟨y,H2,A,r2,C⟩=>?_;grind
def Wj(V:CN X (Jw op) r)(J:AV X a ta)(U:AV X b tb):AV X (.BinOp a op b pos) (MZ r ta tb):=by intro pins s σ H Q I h;exact wpAny_BinOp (WL J U I h λv u s2 x y H2 D W Y q=>V _ s2 σ H2 x y v u Q D W Y q)
def d7(U:WJ X (unaryOp op) r)(J:AV X a ta):AV X (.UnaryOp op a pos) (AEX r ta):=by intro pins s σ H Q I h;exact UnaryOp_ (A2 (J _ s σ H _ I h) λv s1⟨x,H1,D,r1,W⟩=>U _ s1 σ H1 x v Q D r1 W)
def SD{C:Int->Int->Prop}{g:Int->Int->Int}(D:∀(i j:Int)(t u:Ij)(s:AX)(Q:AJ->AX->Prop)(E:AJ->AX->Prop),C i j->Q (.int (g i j) s.toks) {s with toks:=s.toks+1}->Al (Aj X.af X.w) X.A (f (.int i t) (.int j u)) Q E s):CN X f (Nr C λi j=>.int (g i j)):=by intro pins s σ H x y v u Q I U V h;obtain⟨i,j,rfl,rfl,J,q⟩:=h;obtain⟨t,rfl⟩:=U;obtain⟨t',rfl⟩:=V;exact D i j t t' s _ _ J ⟨.int _,H,I.jd _,⟨_,rfl⟩,q⟩
def dJ{g:Int->Int->Int}(D:∀(i j:Int)(t u:Ij)(s:AX)(Q:AJ->AX->Prop)(E:AJ->AX->Prop),Q (.int (g i j) s.toks) {s with toks:=s.toks+1}->Al (Aj X.af X.w) X.A (f (.int i t) (.int j u)) Q E s):CN X f (Gf λi j=>.int (g i j)):=by intro pins s σ H x y v u Q I J U h;obtain⟨i,j,rfl,rfl,q⟩:=h;obtain⟨t,rfl⟩:=J;obtain⟨t',rfl⟩:=U;exact D i j t t' s _ _ ⟨.int _,H,I.jd _,⟨_,rfl⟩,q⟩
def Wd{g:Int->Int->Bool}(D:∀(i j:Int)(t u:Ij)(s:AX)(Q:AJ->AX->Prop)(E:AJ->AX->Prop),Q (.bool (g i j)) s->Al (Aj X.af X.w) X.A (f (.int i t) (.int j u)) Q E s):CN X f (Gf λi j=>.bl (g i j)):=by intro pins s σ H x y v u Q I J U h;obtain⟨i,j,rfl,rfl,q⟩:=h;obtain⟨t,rfl⟩:=J;obtain⟨t',rfl⟩:=U;exact D i j t t' s _ _ ⟨.bl _,H,I,rfl,q⟩
def AA0(i j:Int):Prop:=0<j/\j<1073741824
def AA1(i j:Int):Prop:=0<=j/\j<=1000000/\i.natAbs<2^64
def bD(i j:Int):Prop:=(-(2^64)<i/\i<2^64)\/(-(2^64)<j/\j<2^64)
def bD.ok(h:bD i j):IntMulOk i j:=by
 rcases h with⟨h1,h2⟩|⟨h1,h2⟩;.exact .of_left (ALM h1 h2)
 .exact .of_right (ALM h1 h2)
def dM:CN X (Jw .Add) (Gf λi j=>.int (i+j)):=dJ λ_ _ _ _ _ _ _ q=>add_int q
def dR:CN X (Jw .Sub) (Gf λi j=>.int (i-j)):=dJ λ_ _ _ _ _ _ _ q=>sub_int q
def ACq:CN X (Jw .Mult) (Nr bD λi j=>.int (i*j)):=SD λ_ _ _ _ _ _ _ D q=>mul_int q D.ok
def ACl:CN X (Jw .FloorDiv) (Nr AA0 λi j=>.int (i/j)):=SD λi j _ _ _ _ _ D q=>by have h1:(0:Int)<j:=D.1;have h2:=D.2;exact floordiv_int ∎ (by rw[Int.fdiv_eq_ediv_of_nonneg i ∎];exact q) (.inl (AJ7 ∎))
def ACp:CN X (Jw .Mod) (Nr (λ_ j=>0<j) λi j=>.int (i%j)):=SD λi j _ _ _ _ _ D q=>by exact mod_int' ∎ ∎
def ACu:CN X (Jw .Pow) (Nr AA1 λi j=>.int (i^j.toNat)):=SD λ_ _ _ _ _ _ _ D q=>pow_int_small D.1 D.2.1 D.2.2 q
def AEi{g:Int->Int}(D:∀(i:Int)(t:Ij)(s:AX)(Q:AJ->AX->Prop)(E:AJ->AX->Prop),Q (.int (g i) s.toks) {s with toks:=s.toks+1}->Al (Aj X.af X.w) X.A (f (.int i t)) Q E s):WJ X f (fB λi=>.int (g i)):=by intro pins s σ H x v Q I J h;obtain⟨i,rfl,q⟩:=h;obtain⟨t,rfl⟩:=J;exact D i t s _ _ ⟨.int _,H,I.jd _,⟨_,rfl⟩,q⟩
def fS:WJ X (unaryOp .USub) (fB λi=>.int (-i)):=AEi λ_ _ _ _ _ q=>neg_int q
def SN:AQ->AQ->Bool|.non,.non=>AD|.non,.int _=>AD|.int _,.non=>AD|.non,.bl _=>AD|.bl _,.non=>AD|.non,.str _=>AD|.str _,.non=>AD|.int _,.int _=>AD|.bl _,.bl _=>AD|.str _,.str _=>AD|.byt _,.byt _=>AD|.int _,.str _=>AD|.str _,.int _=>AD|.bl _,.str _=>AD|.str _,.bl _=>AD|_,_=>AH
def eQ:Cy:=λx y H Q=>SN x y=AD/\Q (.bl (Af (x=y))) H
def eW:Cy:=λx y H Q=>SN x y=AD/\Q (.bl (!Af (x=y))) H
def cA:Af (AQ.int i=AQ.int j)=(i==j):=by∎
def b8:Af (AQ.bl i=AQ.bl j)=(i==j):=by∎
def cB:Af (AQ.str i=AQ.str j)=(i==j):=by∎
def b9{i j:Array UInt8}:Af (AQ.byt i=AQ.byt j)=(i.toList==j.toList):=by rw[wC];simp_all
def Dd(I:Ae X pins σ H s)(q:Q (.bl k) H)(e:k=D):FR X pins σ Q (.bool D) s:=by subst e;exact⟨.bl k,H,I,rfl,q⟩
def ACj:CN X (EI .Eq) eQ:=by intro pins s σ H x y v u Q I J D h;obtain⟨U,q⟩:=h;cases x with
 |non=>cases J;cases y with |non=>cases D;exact AMP (Dd I q (by simp))|bl j=>cases D;exact AMN (Dd I q (by simp))|int j=>obtain⟨t',rfl⟩:=D;exact AMO (Dd I q (by simp))|str j=>obtain⟨t',rfl⟩:=D;exact AMQ (Dd I q (by simp))|_=>exact absurd ∎ D5
 |bl i=> cases J;cases y with |non=>cases D;exact AML (Dd I q (by simp))|bl j=>cases D;exact eq_bool (Dd I q b8)|str j=>obtain⟨t',rfl⟩:=D;exact AMD (Dd I q (by simp))|_=>exact absurd (show AH=AD from U) D5
 |int i=> obtain⟨t,rfl⟩:=J;cases y with |non=>cases D;exact AMM (Dd I q (by simp))|int j=>obtain⟨t',rfl⟩:=D;exact eq_int (Dd I q cA)|str j=>obtain⟨t',rfl⟩:=D;exact AME (Dd I q (by simp))|_=>exact absurd (show AH=AD from U) D5
 |str i=> obtain⟨t,rfl⟩:=J;cases y with |non=>cases D;exact AMR (Dd I q (by simp))|bl j=>cases D;exact AMF (Dd I q (by simp))|int j=>obtain⟨t',rfl⟩:=D;exact AMG (Dd I q (by simp))|str j=>obtain⟨t',rfl⟩:=D;exact eq_str (Dd I q cB)|_=>exact absurd ∎ D5
 |byt i=>obtain⟨t,rfl⟩:=J;cases y with |byt j=>obtain⟨t',rfl⟩:=D;exact W.eq_bytes (Dd I q b9)|_=>exact absurd ∎ D5
 |_=>cases y<;>exact absurd (show AH=AD from U) D5
def dP:CN X (EI .NotEq) eW:=by intro pins s σ H x y v u Q I J D h;obtain⟨U,q⟩:=h;cases x with
 |non=> cases J;cases y with |non=>cases D;exact AMW (Dd I q (by simp))|bl j=>cases D;exact AMU (Dd I q (by simp))|int j=>obtain⟨t',rfl⟩:=D;exact AMV (Dd I q (by simp))|str j=>obtain⟨t',rfl⟩:=D;exact AMX (Dd I q (by simp))|_=>exact absurd (show AH=AD from U) D5
 |bl i=>cases J;cases y with |non=>cases D;exact AMS (Dd I q (by simp))|bl j=>cases D;exact ne_bool (Dd I q (AMw not b8))|str j=>obtain⟨t',rfl⟩:=D;exact AMH (Dd I q (by simp))|_=>exact absurd ∎ D5
 |int i=> obtain⟨t,rfl⟩:=J;cases y with |non=>cases D;exact AMT (Dd I q (by simp))|int j=>obtain⟨t',rfl⟩:=D;exact ne_int (Dd I q (AMw not cA))|str j=>obtain⟨t',rfl⟩:=D;exact AMI (Dd I q (by simp))|_=>exact absurd (show AH=AD from U) D5
 |str i=> obtain⟨t,rfl⟩:=J;cases y with |non=>cases D;exact AMY (Dd I q (by simp))|bl j=>cases D;exact AMJ (Dd I q (by simp))|int j=>obtain⟨t',rfl⟩:=D;exact AMK (Dd I q (by simp))|str j=>obtain⟨t',rfl⟩:=D;exact ne_str (Dd I q (AMw not cB))|_=>exact absurd ∎ D5
 |byt i=> obtain⟨t,rfl⟩:=J;cases y with |byt j=>obtain⟨t',rfl⟩:=D;exact W.ne_bytes (Dd I q (AMw not b9))|_=>exact absurd ∎ D5
 |_=>cases y<;>exact absurd (show AH=AD from U) D5
def SE:CN X (EI .Lt) (Gf λi j=>.bl (Af (i<j))):=Wd λ_ _ _ _ _ _ _ q=>AFK q
def dO:CN X (EI .LtE) (Gf λi j=>.bl (Af (i<=j))):=Wd λ_ _ _ _ _ _ _ q=>le_int q
def ACm:CN X (EI .Gt) (Gf λi j=>.bl (Af (j<i))):=Wd λ_ _ _ _ _ _ _ q=>gt_int q
def ACZ(b:BE)(h:op≠.In:=by decide)(h2:op≠.NotIn:=by decide):Jv op b=AH:=by
 have D:(op==AKH)=AH:=by cases op<;>first|rfl|exact absurd rfl h
 have J:(op==AKI)=AH:=by cases op<;>first|rfl|exact absurd rfl h2
 cases b<;>simp[Jv,D,J]
def AC3(W:CN X (EI op) r)(J:AV X a ta)(U:AV X b tb)(V:Jv op b=AH):AV X (.Compare a [op] [b] pos) (MZ r ta tb):=by intro pins s σ H Q I h;exact wpAny_Compare1 (WL J U I h λv u s2 x y H2 D Y Z q=>W _ s2 σ H2 x y v u Q D Y Z q) V
def W2(t:A6):Dk:=λσ H Q=>t σ H λx H'=>∃k,x=.bl k/\Q k H'
def eJ(A:CN X (EI op) r)(W:AV X a ta)(Y:AV X b tb)(Z:Jv op b=AH):Cq X (.Compare a [op] [b] pos) (W2 (MZ r ta tb)):=by intro pins s σ H Q I h;refine wpAny_isTrue_Compare1 (A2 (W _ s σ H _ I h) λv s1⟨x,H1,J,r1,B⟩=>A2 (Y _ s1 σ H1 _ J B) λu s2⟨y,H2,U,r2,C⟩=>A2 (A _ s2 σ H2 x y v u _ U r1 r2 C) λc s3⟨z,D,V,F,k,e,E⟩=>?_) Z;subst e;cases F;exact P9 ⟨D,V,E⟩
def Wx(r r':Cy)(ta tb tc:A6):A6:=λσ H Q=>ta σ H λx H1=>tb σ H1 λy H2=>r x y H2 λz D=>∃k,z=.bl k/\(if k=AD then tc σ D λU J=>r' y U J Q else Q (.bl AH) D)
def AC2(K:CN X (EI op) r)(J:CN X (EI D) r')(C:AV X a ta)(E:AV X b tb)(F:AV X c tc)(G:iO [op,D] [b,c]=AH:=by with_unfolding_all rfl):AV X (.Compare a [op,D] [b,c] pos) (Wx r r' ta tb tc):=by intro pins s σ H Q I h;refine Compare_chain (A2 (C _ s σ H _ I h) λv s1⟨x,H1,Z,r1,L⟩=>chain_link (A2 (E _ s1 σ H1 _ Z L) λu s2⟨y,H2,A,r2,M⟩=>A2 (K _ s2 σ H2 x y v u _ A r1 r2 M) λd s3⟨z,U,V,O,k,e,W⟩=>?_)) G;subst e;cases O;refine P9 ?_;cases k with|false=>exact ite_ff ⟨.bl _,U,V,rfl,W⟩|true=>exact ite_tt (chain_last (A2 (F _ s3 σ U _ V W) λR s4⟨S,Y,B,P,N⟩=>J _ s4 σ Y y S u R Q B r2 P N))
def ADd(O:CN X (EI op) r)(J:CN X (EI D) r')(K:AV X a ta)(L:AV X b tb)(M:AV X c tc)(N:iO [op,D] [b,c]=AH:=by with_unfolding_all rfl):Cq X (.Compare a [op,D] [b,c] pos) (W2 (Wx r r' ta tb tc)):=by intro pins s σ H Q I h;refine isTrue_chain (A2 (K _ s σ H _ I h) λv s1⟨x,H1,A,r1,P⟩=>test_link (A2 (L _ s1 σ H1 _ A P) λu s2⟨y,H2,B,r2,R⟩=>A2 (O _ s2 σ H2 x y v u _ B r1 r2 R) λd s3⟨z,U,V,f,k,e,W⟩=>?_)) N;subst e;cases f;refine P9 ?_;cases k with|false=>obtain⟨n,F,q'⟩:=W;cases F;exact ite_ff ⟨U,V,q'⟩|true=>refine ite_tt (test_last (A2 (M _ s3 σ U _ V W) λj s4⟨l,Y,C,g,S⟩=>A2 (J _ s4 σ Y y l u j _ C r2 g S) λm o⟨p,Z,E,i,k2,G,T⟩=>?_));subst G;cases i;exact P9 ⟨Z,E,T⟩
def Wb:(AY:Nat)<2^63:=by decide
def ACg:CN X (Jw .Add) (λx y H Q=>∃i j,x=.str i/\y=.str j/\i.length+j.length<=AY/\Q (.str (i++j)) H):=by intro pins s σ H x y v u Q I D J h;obtain⟨i,j,rfl,rfl,hz,q⟩:=h;obtain⟨t,rfl⟩:=D;obtain⟨t',rfl⟩:=J;exact add_str (λt' tk=>⟨.str (i++j),H,I.jd _,⟨_,rfl⟩,q⟩) hz
def Hw(r:BR [x] D):∃u,D=[u]/\BQ x u:=by cases r with|cons r1 r2=>cases r2;∎
def W7(r:BR [x,y] D):∃u J,D=[u,J]/\BQ x u/\BQ y J:=by cases r with|cons r1 r2=>cases r2 with|cons W U=>cases U;∎
def bV{X:BY}(J:X.bc=AD):FA X (.builtin "max") (λxs H Q=>∃i j,xs=[.int i,.int j]/\Q (.int (if j>i then j else i)) H):=by
 intro pins s σ H xs U Q I r h;obtain⟨i,j,rfl,q⟩:=h;obtain⟨u,V,rfl,⟨t,rfl⟩,⟨t',rfl⟩⟩:=W7 r;refine max_two_ints (I.ok.hd J) λh' tk k=>⟨_,H,I.cp k,?_,q⟩;by_cases D:j>i;.rw[AMu D,AMu D];exact⟨_,rfl⟩
 .rw[AMv D,AMv D];exact⟨_,rfl⟩
def ABN{X:BY}(J:X.bc=AD):FA X (.builtin "min") (λxs H Q=>∃i j,xs=[.int i,.int j]/\Q (.int (if j<i then j else i)) H):=by
 intro pins s σ H xs U Q I r h;obtain⟨i,j,rfl,q⟩:=h;obtain⟨u,V,rfl,⟨t,rfl⟩,⟨t',rfl⟩⟩:=W7 r;refine min_two_ints (I.ok.hd J) λh' tk k=>⟨_,H,I.cp k,?_,q⟩;by_cases D:j<i;.rw[AMu D,AMu D];exact⟨_,rfl⟩
 .rw[AMv D,AMv D];exact⟨_,rfl⟩
def ABG:FA X (.type "int") (λxs H Q=>(∃i,xs=[.int i]/\Q (.int i) H)\/∃k,xs=[.bl k]/\Q (.int (if k then 1 else 0)) H):=by
 intro pins s σ H xs D Q I r h;rcases h with⟨i,rfl,q⟩|⟨k,rfl,q⟩;. obtain⟨u,rfl,t,rfl⟩:=Hw r;exact call_int_int ⟨.int i,H,I,⟨_,rfl⟩,q⟩
 . obtain⟨u,rfl,r1⟩:=Hw r;cases r1;exact call_int_bool ⟨.int _,H,I.jd _,⟨_,rfl⟩,q⟩
def V9(K:Ap)(x:AQ)(H:AR)(n:Nat):Prop:=match x with|.str y=>y.length<=AY/\n=y.length|.byt y=>y.size<=AY/\n=y.size|.ref p=>(∃xs,Bq K H p xs/\n=xs.length)\/∃xs,CH K H p xs/\n=xs.length|_=>False
def ABH{X:BY}:FA X (.builtin "len") (λxs H Q=>∃x n,xs=[x]/\V9 X.K x H n/\Q (.int n) H):=by intro pins s σ H xs A Q I r h;obtain⟨x,n,rfl,e,q⟩:=h;obtain⟨u,rfl,W⟩:=Hw r;have Z:=ES;cases x with
 |str y=> obtain⟨t,rfl⟩:=W;obtain⟨Y,J⟩:y.length<=AY/\n=y.length:=e;subst J;exact len_str ∎ ⟨.int _,H,I.jd _,⟨_,rfl⟩,q⟩|byt y=> obtain⟨t,rfl⟩:=W;obtain⟨Y,J⟩:y.size<=AY/\n=y.size:=e;subst J;exact W.len_bytes ∎ ⟨.int _,H,I.jd _,⟨_,rfl⟩,q⟩|ref p=>
  cases W;have J:=e;rcases J with⟨xs,U,J⟩|⟨xs,U,J⟩;. subst J;obtain⟨V,r',pl,hz⟩:=I.bz U;have D:=r'.aj;exact Calls.call_len_list pl.isList ∎ ⟨.int _,H,I.jd _,⟨_,by simp only[Mf];rw[D]⟩,q⟩
  . subst J;obtain⟨V,r',pl,hz⟩:=I.bj U;have D:=r'.aj;exact len_tuple pl ∎ ⟨.int _,H,I.jd _,⟨_,by simp only[Mf];rw[D]⟩,q⟩|_=>exact(show False from e).elim
structure Nh(h:Au)(x dx C:AI)(mA:AG->Option AJ):Prop where
 kj:h.get? x=AA (N1 C dx)ns:h.Ns1 dx mA
 ne:dx≠x
def ACN{h:Au}(n:h.Ns1 dx mA):∃J,h.get? dx=AA J/\∀name,iH name J=AA (mA name):=by
  obtain⟨o,es,ep,Y,U,V,_,W⟩:=n;refine⟨o,Y,λname=>?_⟩;have e:=W name;unfold nsFind findBy at e;rw[<-Array.find?_toList]at e;unfold iH;rw[U];dsimp only;split;.∎
  . have a:es.toList.any (·.refKey)=AH:=by rw[AJI];intro y Z;obtain⟨z,t,D⟩:=V y ∎;simp[AMC,D]
    ∎
def Nh.tq(I:Nh h x dx C mA):∃D,W.InstAt h x (N1 C dx) C (AA D)/\∀name,iH name D=AA (mA name):=let⟨D,U,J⟩:=ACN I.ns
 ⟨D,⟨I.kj,rfl,rfl,U⟩,J⟩
def ABj{s:AX}{K:Ap}(X:K.In s.heap)(I:Nh s.heap x dx C mA)(hg:XY K C name=AD)(hh:iE K C=AD)(ha:FX K (.ref C) name=AA AB)(hv:mA name=AA v)(hv':AK6 v=AD)(h:Q v {s with toks:=s.toks+1}):Al (Aj prog w) A (getAttr (.ref x) name expr) Q E s:=by obtain⟨od,J,hl⟩:=I.tq;exact W.get_value X J (AFr hg).1 (W.findObj_own hh ha rfl (by grind)) hv' h
def ABk{s:AX}{K:Ap}(X:K.In s.heap)(I:Nh s.heap x dx C mA)(hg:XY K C name=AD)(hf:FX K (.ref C) name=AA (AA (.ref f)))(ht:XX K (.ref f)=AD)(hv:mA name=AB)(h:Q (.ref f,[.ref x]) s):Al (Aj prog w) A (iN (.ref x) name pl) Q E s:=by obtain⟨od,J,hl⟩:=I.tq;exact W.method_fn X J (AFr hg).1 (AFr hg).2 hf (AM4.mp ht) (by show(iH _ od).map _=AA _;grind) h
def ADr{s:AX}{K:Ap}{name:AG}{ns:List AG}(X:K.In s.heap)(I:Nh s.heap x dx C mA)(M:FX K (.ref C) "__setattr__"=AA (AA (.builtin "object.__setattr__")))(L:AFs K C=AD)(O:AFt K C name=AA AB)(H:iE K C=AD)(hw:AFu mA ns)(N:ns.length<=AY)(h:∀h',Nh h' x dx C (λy=>if y=name then AA v else mA y)->Kv dx s.heap h'->Q () {s with heap:=h',toks:=s.toks+2}):Al (Aj prog w) A (setAttr (.ref x) name v) Q E s:=by obtain⟨T,J,R⟩:=I.tq;refine W.set_plain X J M (W.osa_open X J L O λb=>?_);obtain⟨cd,F,V⟩:=W.any_some H;have P:=I.kj;refine Aa (Av (Aa (Aa (wpAny_loadPart P (Aa (AMp (W.looks_clsIn X F) ?_))))));rw[V];refine Av (Aa (Av (Aa ?_)));refine wpAny_nsSet1 I.ns λh' D U=>?_;obtain⟨S,B,Z,Y,W,G⟩:=D.count (AMr _ v hw);refine Aa (wpAny_lookBehind Y (by rw[W];exact pastItsLine_dict ∎) ?_);exact Av (h _ ⟨(U.2 _ (Ko I.ne)).trans I.kj,D,I.ne⟩ U)
def ACR{A:Ci}{s:AX}{K:Ap}(X:K.In s.heap)(V:AFq K C=AD)(hi:FX K (.ref C) "__init__"=AA (AA (.ref f)))(U:W.typeIn K (.ref f)=AA (.type "function"))(h:Jx (Aj prog w) (A.under (.builtin "type.__call__" ⟨.ref C::vs,D⟩)) (.call (.ref f) ⟨.ref (s.heap.objs.size+1)::vs,D⟩) (W.InitBack (s.heap.objs.size+1) R) {s with heap:=(s.heap.push XU).push (N1 C s.heap.objs.size)}):Jx (Aj prog w) A (.call (.ref C) ⟨vs,D⟩) R s:=by exact W.make_core (W.makes_of X V) (W.looks_findIn X hi) (λJ=>W.bind_fn X _ U) (.inl rfl) h
def G8(f:AG)(v:AQ):List (AG×AQ)->List (AG×AQ)|[]=>[(f,v)]|(g,x)::r=>if g=f then(g,v)::r else(g,x)::G8 f v r
def dD(f g:AG)(v:AQ):∀fs:List (AG×AQ),(G8 f v fs).lookup g=if g=f then AA v else fs.lookup g|[]=>by show List.lookup g [(f,v)]=_;∎|(k,x)::r=>by have D:=dD f g v r;rw[show G8 f v _=(if k=f then(k,v)::r else(k,x)::G8 f v r)from rfl];∎
def Wa(f:AG)(v:AQ):∀fs:List (AG×AQ),f∈(G8 f v fs).map (·.1)/\∀g,g∈fs.map (·.1)->g∈(G8 f v fs).map (·.1)|[]=>⟨by simp[G8],∎⟩|(k,x)::r=>by obtain⟨i1,i2⟩:=Wa f v r;rw[show G8 f v _=(if k=f then(k,v)::r else(k,x)::G8 f v r)from rfl];∎
def c8(f:AG)(v:AQ):∀fs:List (AG×AQ),(G8 f v fs).length<=fs.length+1|[]=>by simp[G8]|(k,x)::r=>by have D:=c8 f v r;rw[show G8 f v _=(if k=f then(k,v)::r else(k,x)::G8 f v r)from rfl];∎
def PH(r:Ka (AA v) o):∃u,o=AA u/\BQ v u:=by cases o with|none=>exact(show False from r).elim|some u=>exact⟨u,rfl,r⟩
def bO(r:Ka AB o):o=AB:=by cases o with|none=>rfl|some u=>exact(show False from r).elim
def ABn(r:BQ v u):AK6 u=AD:=by cases v with|non=>cases∎;rfl|bl b=>cases∎;rfl|int i=>obtain⟨t,e⟩:=∎;cases e;rfl|str x=>obtain⟨t,e⟩:=∎;cases e;rfl|byt b=>obtain⟨t,e⟩:=∎;cases e;rfl|flt b=>obtain⟨t,e⟩:=∎;cases e;rfl|ref a=>cases∎;rfl|ty n=>cases∎;rfl
def WR{fs:List (AG×AQ)}(D:DB P w H h)(e:H a=AA (.ins C dx fs)):∃mA,Nh h a dx C mA/\(∀f,Ka (fs.lookup f) (mA f))/\AFu mA (fs.map (·.1))/\fs.length<=1000/\H dx=AA (.own a):=by obtain⟨d,z,J,U,mA,n,r,q⟩:=(show Dt P w H h a _ from D a _ e);exact⟨mA,⟨U,n,J⟩,r,q,z,d⟩
structure KY(K:Ap)(C:AI):Prop where
 pg:XY K C AKw=AD
 hd:iE K C=AD
 po:AFs K C=AD
 sa:FX K (.ref C) "__setattr__"=AA (AA (.builtin "object.__setattr__"))
def KY.ju{K:Ap}(c:KY K C)(f:AG):XY K C f=AD:=c.pg
def LZ(K:Ap)(C:AI)(f:AG):Prop:=FX K (.ref C) f=AA AB
def LZ.wg{K:Ap}(n:LZ K C f):AFt K C f=AA AB:=by unfold AFt;rw[show FX K _ f=AA _ from n];rfl
structure PC(K:Ap)(C:AI)(m:AG)(f:AI):Prop where
 yq:FX K (.ref C) m=AA (AA (.ref f))fn:XX K (.ref f)=AD
 kp:N2 K (.ref f)=AD
def ABl{X:BY}{fs:List (AG×AQ)}(I:Ae X pins σ H s)(e:H a=AA (.ins C dx fs))(c:KY X.K C)(n:LZ X.K C f)(l:fs.lookup f=AA v)(h:∀u s',Ae X pins σ H s'->BQ v u->Q u s'):Al (Aj X.af X.w) A (getAttr (.ref a) f b) Q E s:=by obtain⟨mA,O,r,_,_,_⟩:=WR I.ay e;obtain⟨u,J,D⟩:=PH (v:=v) (o:=mA f) ∎;exact ABj I.il O (c.ju f) c.hd n J (ABn D) (h u _ (I.jd _) D)
def ABm{X:BY}{fs:List (AG×AQ)}(I:Ae X pins σ H s)(e:H a=AA (.ins C dx fs))(c:KY X.K C)(k:PC X.K C m g)(l:fs.lookup m=AB)(h:Q (.ref g,[.ref a]) s):Al (Aj X.af X.w) A (iN (.ref a) m pl) Q E s:=by obtain⟨mA,O,r,_,_,_⟩:=WR I.ay e;have hn:mA m=AB:=bO ∎;exact ABk I.il O (c.ju m) k.yq k.fn hn h
def ADs{X:BY}{fs:List (AG×AQ)}(I:Ae X pins σ H s)(e:H a=AA (.ins C dx fs))(c:KY X.K C)(n:LZ X.K C f)(K:fs.length<1000)(F:BQ y u)(h:∀s',Ae X pins σ (Ax H a (.ins C dx (G8 f y fs))) s'->Q () s'):Al (Aj X.af X.w) A (setAttr (.ref a) f u) Q E s:=by
  obtain⟨mA,O,r,U,_,J⟩:=WR I.ay e;have hz:(fs.map (·.1)).length<=AY:=by rw[A4,ES];∎
  refine ADr I.il O c.sa c.po n.wg c.hd U hz λh' D G=>h _ ?_;have Z:∃o,h'.get? dx=AA o:=let⟨o,_,_,W,_⟩:=D.ns;⟨o,W⟩;refine I.jo (by rw[e];exact IK) (.inr J) (λb q Y z=>(G.2 b Y).trans z) Z ?_;refine⟨by rw[Bs O.ne];exact J,?_,O.ne,D.kj,_,D.ns,λg=>?_,λg B=>?_⟩;.have:=c8 f y fs;∎
  . rw[dD];by_cases q:g=f;.rw[AMu q,AMu q];exact F
    ∎
  . by_cases q:g=f;.rw[q];exact(Wa f y fs).1
    . refine(Wa f y fs).2 g (U g λz=>B ?_);∎
def AA7(I:Ae X pins σ H s):Ae X pins σ (Ax (Ax H s.heap.objs.size (.own (s.heap.objs.size+1))) (s.heap.objs.size+1) (.ins C s.heap.objs.size [])) {s with heap:=(s.heap.push XU).push (N1 C s.heap.objs.size)}:=by
 have D:(s.heap.push _).get? _=AA XU:=EB _ rfl;have V:((s.heap.push XU).push (N1 C s.heap.objs.size)).get? (s.heap.objs.size+1)=AA (N1 C s.heap.objs.size):=by have:=EB (s.heap.push XU) (o:=N1 C s.heap.objs.size) rfl;simp_all
 have W:(s.heap.push _).Ns _ _:=⟨_,#[],_,D,rfl,(λe Z=>∎),λ_=>rfl⟩;have U:=I.eu (o:=.own (s.heap.objs.size+1)) (t':=s.toks) (λb u q=>Bn _ q) (Aw _) ⟨_,D⟩;refine U.eu (λb u q=>Bn _ q) (by simp_all) ?_;have J:s.heap.objs.size≠s.heap.objs.size+1:=∎;refine⟨by rw[Bs J,Dh],EA _,J,V,_,(Heap.Ns1.of_empty W).at λo q=>Bn _ q,λ_=>IK,λy Y=>absurd rfl Y⟩
def ABF(J:Jt e f env (Ar e env)=Ar e env)(h:Al (Aj prog w) A (Ar e env) (λo D=>Al (Aj prog w) A (getAttr o f AD) Q E D) E s):Al (Aj prog w) A (Ar (.Attribute e f pos) env) Q E s:=Attribute_any_ h (by rw[arm_eval_Attribute,J])
def AEB(K:Ap)(ta:A6)(f:AG):A6:=λσ H Q=>ta σ H λx H1=>∃a C dx fs v,x=.ref a/\H1 a=AA (.ins C dx fs)/\KY K C/\LZ K C f/\fs.lookup f=AA v/\Q v H1
def ADp(K:Ap)(ta tv:A6)(f:AG):Du:=λD σ H=>tv σ H λy H1=>ta σ H1 λx H2=>∃a C dx fs,x=.ref a/\H2 a=AA (.ins C dx fs)/\KY K C/\LZ K C f/\fs.length<1000/\D.nx σ (Ax H2 a (.ins C dx (G8 f y fs)))
def SI{X:BY}(W:AV X e ta)(V:Jt e f X.aa (Ar e X.aa)=Ar e X.aa):AV X (.Attribute e f pos) (AEB X.K ta f):=by intro pins s σ H Q I h;refine ABF V (A2 (W _ s σ H _ I h) λu s1⟨x,H1,D,Z,a,C,dx,fs,v,ex,U,c,n,l,q⟩=>?_);subst ex;obtain rfl:u=FD a:=Z;exact ABl D U c n l λA s2 J Y=>⟨v,H1,J,Y,q⟩
def Pd{X:BY}{pos:Ce}(Y:AV X o ta)(A:AV X value tv)(Z:HY value (AA (.Attribute o f pos')) pos.line X.aa=BC AH):CY X (.Assign [.Attribute o f pos'] value pos) (ADp X.K ta tv f):=by intro pins s σ H D I h;refine plainObj_wpAny_Assign_Attribute (A2 (A _ s σ H _ I h) λu s1⟨y,H1,J,G,q⟩=>A2 (Y _ s1 σ H1 _ J q) λB s2⟨x,H2,U,F,a,C,dx,fs,ex,W,c,n,l,E⟩=>?_) Z;subst ex;obtain rfl:B=FD a:=F;exact ADs U W c n l G λs3 V=>⟨σ,_,V,E⟩
structure CP(k:Nat)(A:Ci):Prop where
 hd:A.handled=AB
 dp:A.depth+3*k+5<ALO
 un:A.units+16*k+200<Gk
def CP.gg(r:CP k A)(h:j<=k):CP j A:=⟨r.hd,by have:=r.dp;∎,by have:=r.un;∎⟩
def CP.su{A:Ci}(r:CP (k+1) A)(env:DT):CP k (A.deeper env):=⟨r.hd,by have:=r.dp;show A.depth+1+3*k+5<_;∎,by have:=r.un;show A.units+3+16*k+200<_;∎⟩
def ACQ{A:Ci}:(A.under (.builtin "type.__call__" ⟨.ref C::J,D⟩)).depth=A.depth+1:=by rfl
def ACS{A:Ci}:(A.under (.builtin "type.__call__" ⟨.ref C::J,D⟩)).units=A.units+1:=by rfl
def CP.ud{A:Ci}(r:CP (k+1) A)(C:AI)(J:List AJ)(D:List (AG×AJ)):CP k (A.under (.builtin "type.__call__" ⟨.ref C::J,D⟩)):=⟨r.hd,by have:=r.dp;rw[ACQ];∎,by have:=r.un;rw[ACS];∎⟩
def CP.vf{A:Ci}(r:CP k A):A.depth<ALO:=by have:=r.dp;∎
def CP.qe{A:Ci}(r:CP k A):A.units+64<Gk:=by have:=r.un;∎
def CP.uo{A:Ci}(r:CP k A):A.units<Gk:=by have:=r.un;∎
def W0:Eh:=λ_ H Q=>Q [] H
def Wy(ta:A6)(D:Eh):Eh:=λσ H Q=>ta σ H λx H1=>D σ H1 λxs H2=>Q (x::xs) H2
def GI:C7 X [] W0:=λ_ _ _ _ H Q I h=>N0 ⟨[],H,I,.nil,h⟩
def D9{X:BY}(U:AV X e te)(V:C7 X es t)(W:Ah (e::es) X.aa=(AH,Ar e X.aa)::Ah es X.aa:=by rfl):C7 X (e::es) (Wy te t):=by intro pos pins s σ H Q I h;rw[W];refine Lw (A2 (U _ s σ H _ I h) λu s1⟨x,H1,D,r1,Y⟩=>?_);exact A2 (V _ _ s1 σ H1 _ D Y) λA s2⟨xs,H2,J,r2,Z⟩=>⟨_,H2,J,.cons r1 r2,Z⟩
def AEW(t:Eh):A6:=λσ H Q=>t σ H λxs H1=>xs.length<=AY/\∀p,H1 p=AB->Q (.ref p) (Ax H1 p (.tup xs))
def AEG(t:Eh):A6:=λσ H Q=>t σ H λxs H1=>xs.length<=AY/\∀p,H1 p=AB->Q (.ref p) (Ax H1 p (.lst xs))
def d6(h:C7 X es t):AV X (.Tuple es W pos) (AEW t):=by intro pins s σ H Q I U;refine wpAny_Tuple_spliced (A2 (h _ _ s σ H _ I U) λV s1⟨xs,H1,D,r,z,q⟩=>⟨by rw[<-r.aj];exact z,?_⟩);have J:=D.ay.ao (Aw _);refine⟨.ref _,_,D.eu (λb u e=>Bn _ e) (Aw _) ?_,rfl,q _ J⟩;exact⟨z,V,r,⟨_,EB _ rfl,rfl,_,rfl⟩⟩
def d3(h:C7 X es t):AV X (.List es pos) (AEG t):=by intro pins s σ H Q I U;refine wpAny_List_spliced (A2 (h _ _ s σ H _ I U) λV s1⟨xs,H1,D,r,z,q⟩=>⟨by rw[<-r.aj];exact z,?_⟩);have J:=D.ay.ao (Aw _);refine⟨.ref _,_,D.eu (λb u e=>Bn _ e) (Aw _) ?_,rfl,q _ J⟩;exact⟨z,V,0,r,EB _ rfl⟩
abbrev Ex:=List AQ->AR->BZ->FU->Prop
abbrev Hu:=List DT->AR->AX->FU->AJ->AX->Prop
structure Ng(P:CB)(w:Ba)(K:Ap)(mg:AG->Option AJ)(base:Au)(A:Ci)(outer:List DT)(s:AX)(H:AR):Prop where
 cq:A.frames=AA outer
 dh:Ry K mg base
 bs:∀b o,base.get? b=AA o->s.heap.get? b=AA o/\H b=AB
 ot:base.objs.size<=s.heap.objs.size
 gq:s.heap.FunFrames base outer
 qm:∀b∈DC outer,H b=AB
 ay:DB P w H s.heap
 dy:Ls s.gens
def V5(outer:List DT)(P:CB)(w:Ba)(H:AR)(s:AX)(Q:BZ)(u:AJ)(s':AX):Prop:=∃v H',s'.os=s.os/\Ls s'.gens/\Gd (DC outer) [] H H' s.heap s'.heap/\DB P w H' s'.heap/\BQ v u/\Q v H'
def AA2(CX:Hu)(outer:List DT)(P:CB)(w:Ba)(H:AR)(s:AX)(Q:BZ)(E:FU)(r:g9)(s':AX):Prop:=match r with|.ok (.ret u)=>V5 outer P w H s Q u s'|.ok _=>False|.error e=>CX outer H s E e s'
structure Dr(P:CB)(w:Ba)(K:Ap)(mg:AG->Option AJ)(base:Au)(CX:Hu)(k:Nat)(f:AI)(fd:DU)(ps:List AG)(sp:Ex):Prop where
 ba:∀vs H Q E,sp vs H Q E->vs.length=ps.length
 qx:∀(A:Ci)(outer:List DT)(s:AX)(H:AR)(args:Args)(us:List AJ)(vs:List AQ)(Q:BZ)(E:FU),CP k A->Ng P w K mg base A outer s H->So s fd args (ps.zip us)->BR vs us->sp vs H Q E->Jx (Aj P w) A (.call (.ref f) args) (AA2 CX outer P w H s Q E) s
def Dr.gg{K:Ap}(F:Dr P w K mg base CX j f fd ps sp)(h:j<=k):Dr P w K mg base CX k f fd ps sp:=⟨F.ba,λA outer s H D U vs Q E J=>F.qx A _ s H _ U vs Q E (J.gg h)⟩
def Dr.yv{K:Ap}(F:Dr P w K mg base CX k f fd ps sp)(h:∀vs H Q E,sp' vs H Q E->sp vs H Q E):Dr P w K mg base CX k f fd ps sp':=⟨λvs H Q E q=>F.ba vs H Q E (h _ _ _ _ q),λA outer s H D Z vs Q E V U J Y W=>F.qx A _ s H _ Z vs Q E V U J Y (h _ _ _ _ W)⟩
def Ng.ud{K:Ap}{A:Ci}(e:Ng P w K mg base A outer s H)(C:AI)(J:List AJ)(D:List (AG×AJ)):Ng P w K mg base (A.under (.builtin "type.__call__" ⟨.ref C::J,D⟩)) outer s H:=⟨by first|exact e.cq|(simpa[pushEnvs]using e.frames),e.dh,e.bs,e.ot,e.gq,e.qm,e.ay,e.dy⟩
def Ae.sx{X:BY}(I:Ae X pins σ H s):Ng X.af X.w X.K X.mg X.ai X.A X.au s H:=⟨I.ok.cq,I.ok.dh,I.bs,Cj I.ok.ot I.sz,I.au,I.jq,I.ay,I.dy⟩
def Ae.oq{X:BY}(I:Ae X pins σ H s)(h:V5 X.au X.af X.w H s Q u s'):FR X pins σ Q u s':=by obtain⟨v,H',os,D,V,J,r,q⟩:=h;obtain⟨W,g,d,t,U⟩:=s';obtain rfl:U=s.os:=os;exact⟨v,H',I.ve V J D ∎,r,q⟩
def fN(sp:Ex)(dvs:List AQ)(E:FU)(t:Eh):A6:=λσ H Q=>t σ H λvs H1=>sp (vs++dvs) H1 Q E
def AEI(C:AI)(m:AG)(sp:Ex)(dvs:List AQ)(E:FU)(ta:A6)(t:Eh):A6:=λσ H Q=>ta σ H λx H1=>∃a dx fs,x=.ref a/\H1 a=AA (.ins C dx fs)/\fs.lookup m=AB/\t σ H1 λvs H2=>sp (x::(vs++dvs)) H2 Q E
def AEH(C:AI)(sp:Ex)(dvs:List AQ)(E:FU)(t:Eh):A6:=λσ H Q=>t σ H λvs H1=>∀x dx,H1 x=AB->H1 dx=AB->dx≠x->sp (.ref x::(vs++dvs)) (Ax (Ax H1 dx (.own x)) x (.ins C dx [])) (λv H2=>v=.non/\Q (.ref x) H2) E
def Fm(K:Ap)(fd:DU)(ps:List AG)(ds:List AJ):Prop:=∀(s:AX)(D:List AJ),K.In s.heap->(D++ds).length=ps.length->So s fd ⟨D,[]⟩ (ps.zip (D++ds))
def Fm.xa{K:Ap}{ps:List AG}(h:∀D:List AJ,D.length=ps.length->bindArgs fd ⟨D,[]⟩=BC (ps.zip D)):Fm K fd ps []:=λs D _ J=>by rw[Ek]at J⊢;exact .of_eq (h D J)
def MV(CX:Hu)(X:BY)(E:FU):Prop:=∀(pins:List (AI×BF))(σ:Az)(H:AR)(s:AX)(e:AJ)(s':AX),Ae X pins σ H s->CX X.au H s E e s'->X.xe e s'
def fG{X:BY}(F:Dr X.af X.w X.K X.mg X.ai CX k f fd ps sp)(Z:CP k X.A)(U:Fm X.K fd ps ds)(W:BR dvs ds)(A:MV CX X E)(I:Ae X pins σ H s)(r:BR vs D)(h:sp (vs++dvs) H Q E):Al (Aj X.af X.w) X.A (JL (.ref f) D) (FR X pins σ Q) X.xe s:=by
 have r2:=r.cw W;have Y:(D++ds).length=ps.length:=by rw[<-r2.aj];exact F.ba _ _ _ _ h
 refine Xf (L3 (F.qx _ _ s H _ _ _ Q E Z I.sx (U s D I.il Y) r2 h) λr s' J=>?_);cases r with|error e=>exact A _ σ H s e s' I J|ok fl=>cases fl with|ret u=>exact I.oq J|next=>∎|brk=>∎|cont=>∎
def AC0{X:BY}{x:AG}(F:Dr X.af X.w X.K X.mg X.ai CX k f fd ps sp)(G:CP k X.A)(A:CG X x)(C:X.mg x=AA (.ref f))(B:N2 X.K (.ref f)=AD)(W:Fm X.K fd ps ds)(Y:BR dvs ds)(K:MV CX X E)(V:C7 X (e::es) t)(D:(x==("__debug__":AG))=AH:=by decide)(Z:Ah (e::es) X.aa=(AH,Ar e X.aa)::Ah es X.aa:=by rfl)(J:(Bx pos (Ah es X.aa)).any (·.1)=AH:=by rfl):AV X (.Call (.Name x p) (e::es) [] pos) (fN sp dvs E t):=by intro pins s σ H Q I h;refine N5 (PV I A C ?_ D);refine iD I.ok.dh.tp B (A2 (V _ _ s σ H _ I h) λL s1⟨vs,H1,U,r,q⟩=>⟨U.il,?_⟩) Z J;exact fG F G W Y K U r q
def ADA{X:BY}{apos:Ce}(he:AV X o ta)(c:KY X.K C)(hm:PC X.K C m f)(F:Dr X.af X.w X.K X.mg X.ai CX k f fd ps sp)(hr:CP k X.A)(hb:Fm X.K fd ps ds)(hd:BR dvs ds)(hx:MV CX X E)(ha:C7 X (e::es) t)(hst:Ah (e::es) X.aa=(AH,Ar e X.aa)::Ah es X.aa:=by rfl)(hpl:(Bx pos (Ah es X.aa)).any (·.1)=AH:=by rfl)(ht:Ar (.Call (.Attribute o m apos) (e::es) [] pos) X.aa=(do
 let ov<-Ar o X.aa
 Xd apos.atName let(f,first)<-Xb [ov] (iN ov m pl)callWith pos f first (Bx pos (Ah (e::es) X.aa)) (Ju pos (Jy [] X.aa))):=by rfl):AV X (.Call (.Attribute o m apos) (e::es) [] pos) (AEI C m sp dvs E ta t):=by intro pins s σ H Q I h;refine W.methodCall_KW (A2 (he _ s σ H _ I h) λu s1⟨x,H1,I1,rx,a,dx,fs,ex,ea,l,q⟩=>?_) ht;subst ex;obtain rfl:u=FD a:=rx;refine ABm I1 ea c hm l ?_;refine iD I.ok.dh.tp hm.kp (A2 (ha _ _ s1 σ H1 _ I1 q) λus s2⟨vs,H2,I2,r,q2⟩=>⟨I2.il,?_⟩) hst hpl;exact fG (vs:=.ref a::vs) F hr hb hd hx I2 (.cons rfl r) q2
section
variable{f C:AI}
structure Rx(K:Ap)(C f:AI):Prop where
 vq:AFq K C=AD
 xg:FX K (.ref C) "__init__"=AA (AA (.ref f))fn:XX K (.ref f)=AD
 kp:N2 K (.ref C)=AD
end
def ADn{X:BY}(M:Rx X.K C f)(F:Dr X.af X.w X.K X.mg X.ai CX k f fd ps sp)(K:CP (k+1) X.A)(A:Fm X.K fd ps ds)(B:BR dvs ds)(L:MV CX X E)(I:Ae X pins σ H s)(r:BR vs J)(h:∀x dx,H x=AB->H dx=AB->dx≠x->sp (.ref x::(vs++dvs)) (Ax (Ax H dx (.own x)) x (.ins C dx [])) (λv H2=>v=.non/\Q (.ref x) H2) E):Al (Aj X.af X.w) X.A (JL (.ref C) J) (FR X pins σ Q) X.xe s:=by
 have W:=h _ _ (I.ay.ao (Pp _)) (I.ay.ao (Aw _)) ∎;have U:=AA7 (C:=C) I;have r2:BR (AQ.ref (s.heap.objs.size+1)::(vs++dvs)) _:=.cons rfl (r.cw B);have G:(FD (s.heap.objs.size+1)::J++ds).length=ps.length:=by have e:=r2.aj;rw[F.ba _ _ _ _ W]at e;∎
 refine Xf (ACR I.il M.vq M.xg (AM4.mp M.fn) (L3 (F.qx _ _ _ _ _ _ _ _ E (K.ud C J []) (U.sx.ud C J []) (A _ _ U.il G) r2 W) λr s' D=>?_));cases r with|error e=>exact L _ σ _ _ e s' U D|ok fl=>cases fl with|ret u=>obtain⟨v,H',Y,O,Z,N⟩:=U.oq D;subst Z;exact⟨O,⟨AQ.ref _,H',Y,rfl,N⟩⟩|next=>∎|brk=>∎|cont=>∎
def d4{X:BY}{x:AG}(M:Rx X.K C f)(F:Dr X.af X.w X.K X.mg X.ai CX k f fd ps sp)(G:CP (k+1) X.A)(A:CG X x)(B:X.mg x=AA (.ref C))(W:Fm X.K fd ps ds)(Y:BR dvs ds)(K:MV CX X E)(V:C7 X (e::es) t)(D:(x==("__debug__":AG))=AH:=by decide)(Z:Ah (e::es) X.aa=(AH,Ar e X.aa)::Ah es X.aa:=by rfl)(J:(Bx pos (Ah es X.aa)).any (·.1)=AH:=by rfl):AV X (.Call (.Name x p) (e::es) [] pos) (AEH C sp dvs E t):=by intro pins s σ H Q I h;refine N5 (PV I A B ?_ D);refine iD I.ok.dh.tp M.kp (A2 (V _ _ s σ H _ I h) λL s1⟨vs,H1,U,r,q⟩=>⟨U.il,?_⟩) Z J;exact ADn M F G W Y K U r q
structure HP(N P:List AG)(sc:ED):Prop where
 cy:sc.kind=.function
 co:sc.isCoroutine=AH
 yt:sc.isGenerator=AH
 nd:N.Nodup
 xm:N.take P.length=P
 yi:∀x∈P,sc.names.lookup x=AA .local\/sc.names.lookup x=AA .cell
 ue:∀y∈sc.names,y.2≠.free
def bU:∀{D:List (AG×AJ)}{m:AG->Option AJ},(∀v,(x,v)∉D)->P1 J D m x=m x|[],_,_=>rfl|(n,v)::r,m,h=>by unfold P1;rw[bU _];split;all_goals∎
def bS:∀{D:List (AG×AJ)}{m:AG->Option AJ},(∀v,(x,v)∉D)->P0 J D m x=m x|[],_,_=>rfl|(n,v)::r,m,h=>by unfold P0;rw[bS _];split;all_goals∎
def bT:∀{P:List AG}{vs:List AJ}{i:Nat}{m:AG->Option AJ},P.Nodup->P[i]?=AA x->vs[i]?=AA v->D x=AA .local->P1 D (P.zip vs) m x=AA v|[],_,_,_,_,h,_,_=>by∎|_::_,[],_,_,_,_,h,_=>by∎|p::P,w::vs,0,m,U,h1,h2,J=>by simp at h1 h2;subst h1;subst h2;show P1 _ ((p,w)::P.zip vs) m p=_;unfold P1;rw[bU λv V=>(EG.mp U).1 (Md V).1,AMu J];simp|p::P,w::vs,i+1,m,U,h1,h2,J=>by unfold P1;exact bT (i:=i) ∎ ∎ ∎ J
def bR:∀{P:List AG}{vs:List AJ}{i:Nat}{m:AG->Option AJ},P.Nodup->P[i]?=AA x->vs[i]?=AA v->D x≠AA .local->P0 D (P.zip vs) m x=AA v|[],_,_,_,_,h,_,_=>by∎|_::_,[],_,_,_,_,h,_=>by∎|p::P,w::vs,0,m,U,h1,h2,J=>by simp at h1 h2;subst h1;subst h2;show P0 _ ((p,w)::P.zip vs) m p=_;unfold P0;rw[bS λv V=>(EG.mp U).1 (Md V).1,AMv J];simp|p::P,w::vs,i+1,m,U,h1,h2,J=>by unfold P0;exact bR (i:=i) ∎ ∎ ∎ J
def Lm(N:List AG)(vs:List AQ):Az:=vs.map AA++GL (N.length-vs.length) AB
def EZ(CX:Hu)(P:CB)(w:Ba)(K:Ap)(mg:AG->Option AJ)(base:Au)(N:List AG)(qual:AG)(scope:ED)(f:AI)(cd:AJ)(A:Ci)(outer:List DT)(s:AX)(H:AR)(E:FU):BY where
 af:=P
 w:=w
 K:=K
 mg:=mg
 ai:=base
 A:=A.deeper (Fu qual scope s.heap.objs.size f cd)
 N:=N
 s₀:=s
 H₀:=H
 aa:=Fu qual scope s.heap.objs.size f cd
 ff:=outer
 au:=Fu qual scope s.heap.objs.size f cd::outer
 ex:=[]
 bc:=AD
 fn:=λ_=>AD
 pn:=[]
 xe:=λe s'=>Al (Aj P w) (A.deeper (Fu qual scope s.heap.objs.size f cd)) (iP (Fu qual scope s.heap.objs.size f cd) e) (λ_ D=>CX outer H s E e D) (λJ D=>CX outer H s E J D) s'
def bY{D:ED}(h:D.names.lookup x=AA .cell):∃c,(AFx n D.names []).lookup x=AA c:=by have q:=AK4 _ n [] (.inl h);exact Option.isSome_iff_exists.mp q
def ABt{K:Ap}{ps:List AG}{scope:ED}{A:Ci}{s:AX}{vs:List AQ}(S:HP N ps scope)(C:A.handled=AB)(e0:Ng P w K mg base A outer s H)(M:vs.length=ps.length)(r:BR vs W)(x:InCallC s s.heap.objs.size (P1 (Fu qual scope s.heap.objs.size f cd).kindOf (ps.zip W) λ_=>AB) (AFx (s.heap.objs.size+1) scope.names []) (P0 (Fu qual scope s.heap.objs.size f cd).kindOf (ps.zip W) λ_=>AB) s1):Ae (EZ CX P w K mg base N qual scope f cd A outer s H E) [] (Lm N vs) H s1:=by
  have F:ps.length<=N.length:=by have:=AMw Kk S.xm;∎
  obtain⟨h1,tk,rfl,Y⟩:=x.done;have G:∀b:AI,b∉(EZ CX P w K mg base N qual scope f cd A outer s H E).ex:=λb z=>absurd (show b∈([]:List AI)from z) (by simp);refine⟨⟨e0.dh,S.cy,rfl,rfl,Aw _,λy z c h1 h2=>?_,λy D=>?_,λy c _ h=>?_,λ_=>C,Around.frames_deeper e0.cq,.inr ⟨rfl,rfl⟩,∎,e0.bs,e0.ot,∎,∎,e0.gq,e0.qm⟩,rfl,e0.dy,R0 Y,⟨_,x.toInCall.ns,λi y v h1 h2 L=>?_⟩,λy c h=>⟨_,x.cell y c h⟩,e0.ay.ao (Aw _),λy c h=>?_,λp U=>absurd (show p∈([])from U) (by simp),e0.ay.cp Y,?_⟩;.exact name_of_addr x.apart (P4 h1) (P4 h2)
  . rcases D with D|D;.exact bY D
    .exact absurd rfl (S.ue _ (P4 D))
  .exact Nx (x.above y c (P4 h))
  . have hi:i<vs.length:=by unfold Lm at h2;∎
    have B:vs[i]?=AA v:=by unfold Lm at h2;∎
    obtain⟨u,Z,I⟩:=r.ju B;have U:ps[i]?=AA y:=by rw[<-S.xm,AJR ∎];exact h1
    have J:ps.Nodup:=by rw[<-S.xm];exact S.nd.sublist ∎
    refine⟨u,I,?_⟩;rcases S.yi y ∎with k|k;.exact .inl ⟨k,bT J U Z k⟩
    . obtain⟨c,e⟩:=bY k;refine .inr ⟨.inl k,c,e,?_⟩;have q:=x.cell y c e;rw[bR J U Z (by show scope.names.lookup y≠_;∎)]at q;exact q
  .exact e0.ay.ao (Nx (x.above y c (P4 h)))
  . unfold Lm;show _=N.length;∎
def cH{K:Ap}{ps:List AG}(lk:K.lookup f=AA ⟨oc,od,.func (Sw name qual params body scope dV kV doc pm an cdv ct),osl⟩)(hcd:AFl K cdv qual=AD)(S:HP N ps scope)(len:∀vs H Q E,sp vs H Q E->vs.length=ps.length)(hbody:∀(A:Ci)(outer:List DT)(s:AX)(H:AR)(vs:List AQ)(Q:BZ)(E:FU),CP k (A.deeper (Fu qual scope s.heap.objs.size f cdv))->sp vs H Q E->∃t,DS (EZ CX P w K mg base N qual scope f cdv A outer s H E) body t/\t {nx:=λ_ H'=>Q .non H',rt:=Q} (Lm N vs) H):Dr P w K mg base CX (k+1) f (Sw name qual params body scope dV kV doc pm an cdv ct) ps sp:=by
 refine⟨len,λA outer s H args us vs Q E hr e0 hb r hsp=>?_⟩;have hl:=len _ _ _ _ hsp;have KX:=e0.dh.tp.keeps λb o e=>(e0.bs b o e).1;have lim:=e0.dh.qt.keeps λb o e=>(e0.bs b o e).1;have hkind:∀y∈ps.zip us,scope.names.lookup y.1=AA .local\/(scope.names.lookup y.1=AA _/\((AFx (s.heap.objs.size+1) _ []).lookup y.1).isSome=AD):=λ⟨n,v⟩hy=>by
  rcases S.yi n (Md hy).1 with q|q;.grind
  .exact .inr ⟨q,AK4 _ _ _ (.inl q)⟩
 refine codeAny_call_function hr.vf (KX _ _ lk) rfl S.co S.yt rfl (W.codeRec_of KX hcd) (hb _ _ _ _ ?_);refine wpAny_newFunctionEnv_cells S.cy hkind λenv he s1 x=>?_;subst he;refine⟨lim.keeps x.toInCall.keep,codeAny_func ?_⟩;obtain⟨t,ht,hq⟩:=hbody A _ s H vs Q E (hr.su _) hsp;have I:Ae (EZ CX P w K mg _ N _ _ f _ A _ s H E) [] _ H s1:=ABt S hr.hd e0 hl r x;refine Ez (ht [] s1 _ H _ I hq) (λfl s' hs=>?_) λe s' hs=>hs;have fin:∀{σ':Az}{H':AR}{v:AQ}{u:AJ},Ae (EZ CX P w K mg base N qual scope f cdv A _ s H E) [] σ' H' s'->BQ v u->Q v H'->V5 outer P w H s Q u s':=λ{σ' H' v u}J rv q=>⟨v,H',J.os,J.dy,J.ai,J.ay,rv,q⟩;cases fl with|ret u=>obtain⟨v,σ',H',J,rv,q⟩:=hs;exact fin J rv q|next=>obtain⟨σ',H',J,q⟩:=hs;exact fin (v:=AQ.non) J rfl q|brk=>obtain⟨_,_,_,q⟩:=hs;grind|cont=>obtain⟨_,_,_,q⟩:=hs;grind
def Ww(r:List AQ->AR->BZ->Prop)(t:Eh):A6:=λσ H Q=>t σ H λvs H1=>r vs H1 Q
def SH{X:BY}{x:AG}{id:String}(W:FA X (.builtin id) r)(Z:CG X x)(A:X.mg x=AB)(B:L1 x=AA (.builtin id))(V:C7 X (e::es) t)(hn:x≠"__name__":=by decide)(D:(x==("__debug__":AG))=AH:=by decide)(Y:Ah (e::es) X.aa=(AH,Ar e X.aa)::Ah es X.aa:=by rfl)(J:(Bx pos (Ah es X.aa)).any (·.1)=AH:=by rfl):AV X (.Call (.Name x p) (e::es) [] pos) (Ww r t):=by intro pins s σ H Q I h;refine N5 (Kg I Z A B ?_ hn D);exact AJt (A2 (V _ _ s σ H _ I h) λE s1⟨vs,H1,U,r1,C⟩=>W _ s1 σ H1 vs E Q U r1 C) Y J
def AC1{X:BY}{x:AG}(W:FA X (.type T) r)(Z:CG X x)(A:X.mg x=AB)(B:L1 x=AA (.type T))(V:C7 X (e::es) t)(hn:x≠"__name__":=by decide)(D:(x==("__debug__":AG))=AH:=by decide)(Y:Ah (e::es) X.aa=(AH,Ar e X.aa)::Ah es X.aa:=by rfl)(J:(Bx pos (Ah es X.aa)).any (·.1)=AH:=by rfl):AV X (.Call (.Name x p) (e::es) [] pos) (Ww r t):=by intro pins s σ H Q I h;refine N5 (Kg I Z A B ?_ hn D);exact Sn (A2 (V _ _ s σ H _ I h) λE s1⟨vs,H1,U,r1,C⟩=>W _ s1 σ H1 vs E Q U r1 C) Y J
def wF{s:AX}{vs ws:List AJ}(M:Sl s.heap t vs.toArray)(K:Sl s.heap b ws.toArray)(H:vs≠[])(h1:ws=[]->Q (.ref t) s)(h2:ws≠[]->Q (.ref s.heap.objs.size) {s with heap:=s.heap.push {cls:=.type "tuple",data:=.seq (vs++ws).toArray}})(L:vs.length+ws.length<=AY):Al (Aj prog w) A (Jw .Add (.ref t) (.ref b)) Q E s:=by
 obtain⟨⟨cls,dd,C,sl⟩,Z,F,n,G⟩:=id M;obtain⟨⟨B,J,Y,W⟩,D,U,I,V⟩:=id K;simp only at F G U V;subst F G U V;by_cases hw:ws=[];.exact iM ⟨_,Z,rfl⟩ ⟨_,D,rfl⟩ AF4 AF8 AFZ AFV (by rfl) (tuple_addW1 t b vs.toArray ws.toArray n I dd J sl W (by simpa using H) (by simp[hw])) ∎
 . refine iM ⟨_,Z,rfl⟩ ⟨_,D,rfl⟩ AF4 AF8 AFZ AFV (by rfl) (tuple_addW2 t b vs.toArray ws.toArray n I dd J sl W (by simpa using H) (by simpa using hw) ∎) ⟨Z,D,?_⟩;∎
def CD(n d:Nat):Option Int->Nat|AB=>d|AA v=>if v<0 then(v+(n:Int)).toNat else Dx v.toNat n
def ZM(n d:Nat):CD n d AB=d:=rfl
def ND(n d k:Nat):CD n d (AA (k:Int))=Dx k n:=by rfl
def wJ(n d:Nat)(D:d<=n)(o:Option Int):CD n d o<=n:=by cases o with|none=>exact D|some v=>show(if v<0 then(v+(n)).toNat else Dx _ n)<=n;∎
def ZL(v:Int)(n d:Nat):(if v<0 then Ey (v+(n:Int)) 0 else Dx v (n:Int))=((CD n d (AA v):Nat):Int):=by show(if v<0 then Ey _ 0 else Dx v _)=(((if v<0 then(v+(n)).toNat else Dx _ n):Nat):Int);∎
def wD(lo hi:Option Int)(n:Nat):AFQ lo hi 1 (n:Int)=(((CD n 0 lo:Nat):Int),((CD n n hi:Nat):Int)):=by
 have h1:=by∎
 unfold AFQ;refine Sj ?_ ?_;.cases lo with|none=>rfl|some v=>exact ZL v n 0
 .cases hi with|none=>rfl|some v=>exact ZL v n n
def wI(i j:Nat):AFR (i:Int) (j:Int) 1=j-i:=by unfold AFR;∎
def ZO(p:Kw v o)(h:Q o s):Al (Aj prog w) A (AL8 v) Q E s:=by cases p with|none=>exact AJ2 h|int i t=>exact slicePart_int h
def ZN{lo hi:Option Int}{n:Nat}(Y:s.heap.IsSliceOf sl U V .none)(pl:Kw U lo)(Z:Kw V hi)(h:Q (((CD n 0 lo:Nat):Int),1,CD n n hi-CD n 0 lo) s):Al (Aj prog w) A (AL7 (.ref sl) (BC (n:Int))) Q E s:=by obtain⟨os,J,W,D⟩:=id Y;refine Aa (Aa (AGD J D rfl (Aa (AGD J D rfl (Aa (AGD J D rfl (Av ?_)))))));refine Aa (AJ2 ?_);refine Aa (ZO pl (Aa (ZO Z (Aa (Av ?_)))));show Al _ _ (match AFQ lo hi 1 _ with|(lo,hi)=>BC (lo,(1:Int),AFR lo hi 1)) _ _ s;rw[wD lo hi n];show Al _ _ (BC _) _ _ s;rw[wI];exact Av h
def wH(xs:Array AJ)(i k:Nat):((EO k).filterMap λ(m:Nat)=>xs[((i:Int)+(m:Int)*1).toNat]?).toArray=((xs.toList.drop i).take k).toArray:=by
 have e:(λ(m:Nat)=>xs[((i)+(m:Int)*1).toNat]?)=λm=>xs[i+m]?:=by∎
 have:=pick_run xs i k;have D:((λx=>xs[x]?)∘λx=>i+x)=λm=>xs[i+m]?:=rfl;∎
def wG{s:AX}{items:Array AJ}{lo:Option Int}(J:Sl s.heap t items)(Z:s.heap.IsSliceOf sl B C .none)(pl:Kw B lo)(H:Kw C hi)(hw:¬(CD items.size 0 lo=0/\CD items.size items.size hi=items.size))(h:Q (.ref s.heap.objs.size) {s with heap:=s.heap.push {cls:=.type "tuple",data:=.seq ((items.toList.drop (CD items.size 0 lo)).take (CD items.size items.size hi-CD items.size 0 lo)).toArray}})(G:items.size<=AY):Al (Aj prog w) A (L5 (.ref t) (.ref sl)) Q E s:=by
 have D:=by show((items.toList.drop (CD items.size 0 lo)).take (CD items.size items.size hi-CD items.size 0 lo)).toArray.size<=AY;∎
 have I:CD items.size items.size hi<=items.size:=wJ _ _ (Aw _) hi;obtain⟨os,Y,V,F⟩:=id Z;have U:s.TypeIs (.ref sl) "slice":=⟨os,Y,V⟩;unfold L5;try with_reducible refine K6 ?_
 first|refine Aa (Av ?_)|skip
 refine Aa (ALj J.typeIs (by decide) ?_);refine Aa (TC (name:=BO "__getitem__") J.typeIs Pu (K5 Pu J.typeIs AJu ?_ (by rfl)));show Al _ _ (AKE (.ref t)>>=_) _ _ s;refine Aa (AJ6 J ?_);refine Aa (Xh U ?_);rw[AMu (by decide)];refine Aa (ZN Z pl H ?_);have W:¬((((CD items.size 0 lo:Nat):Int)==0&&(1:Int)==1&&(CD items.size items.size hi-CD items.size 0 lo)==items.size)=AD):=by∎
 show Al _ _ (if(((CD items.size 0 lo:Nat):Int)==0&&(1:Int)==1&&(CD items.size items.size hi-CD items.size 0 lo)==items.size)=AD then _ else _) _ _ s;rw[AMv W,wH];first|exact Aa (m:=AMA _) (Mn (Av ⟨_,rfl,Av h⟩) D)|exact wpAny_bind (m:=Builtin.Tuple.tupleExact _) (wpAny_newObj_type (wpAny_bind (wpAny_pure (wpAny_pure ⟨_,rfl,wpAny_pure h⟩))) D)|exact wpAny_bind _|exact wpAny_bind _
abbrev Ni:=Az->AR->(Option Int->AR->Prop)->Prop
def Jd(X:BY)(e:Option BE)(t:Ni):Prop:=∀(pins:List (AI×BF))(s:AX)(σ:Az)(H:AR)(Q:Option Int->AR->Prop),Ae X pins σ H s->t σ H Q->Al (Aj X.af X.w) X.A (evalPart e X.aa) (λu s'=>∃o H',Ae X pins σ H' s'/\Kw u o/\Q o H') X.xe s
def AEL:Ni:=λ_ H Q=>Q AB H
def AEQ(t:A6):Ni:=λσ H Q=>t σ H λx H1=>∃i,x=.int i/\Q (AA i) H1
def WS{ns:List Int}:∀{D:List AJ},BR (ns.map AQ.int) D->Sk D ns:=by induction ns with|nil=>intro D r;cases r;exact .nil|cons n ns J=>intro D r;cases r with|cons r1 r2=>obtain⟨t,e⟩:=r1;subst e;exact .cons n t (J r2)
def ADS:Jd X AB AEL:=by intro pins s σ H Q I h;exact Av ⟨_,H,I,.none,h⟩
def ADT(h:AV X e te):Jd X (AA e) (AEQ te):=by intro pins s σ H Q I hw;refine A2 (h _ s σ H _ I hw) λu s1⟨x,H1,D,r1,J⟩=>?_;obtain⟨i,rfl,q⟩:=J;obtain⟨t,rfl⟩:=r1;exact⟨_,H1,D,.int i t,q⟩
def Jf(X:BY)(r:AQ->Option Int->Option Int->AR->BZ->Prop):Prop:=∀(pins:List (AI×BF))(s:AX)(σ:Az)(H:AR)(x:AQ)(v D J:AJ)(lo hi:Option Int)(sl:AI)(Q:BZ),Ae X pins σ H s->BQ x v->s.heap.IsSliceOf sl D J .none->Kw D lo->Kw J hi->r x lo hi H Q->∃T id,typeLookup (.type T) "__getitem__"=BC (AA (.builtin id))/\s.TypeIs v T/\Al (Aj X.af X.w) X.A (L5 v (.ref sl)) (FR X pins σ Q) X.xe s
def WD(h:Jf X r)(h':Jf X r'):Jf X (λx lo hi H Q=>r x lo hi H Q\/r' x lo hi H Q):=by
 intro pins s σ H x v W Y lo hi sl Q I U D pl J q;rcases q with q|q;.exact h _ s σ H x v W Y lo hi sl Q I U D pl J q
 .exact h' _ s σ H x v W Y lo hi sl Q I U D pl J q
def AEU(r:AQ->Option Int->Option Int->AR->BZ->Prop)(te:A6)(tl th:Ni):A6:=λσ H Q=>te σ H λx H1=>tl σ H1 λl H2=>th σ H2 λu D=>r x l u D Q
def ADE{lo:Option BE}(G:Jf X r)(C:AV X e te)(F:Jd X lo tl)(L:Jd X hi th):AV X (.Subscript e (.Slice lo hi AB p2) pos) (AEU r te tl th):=by intro pins s σ H Q I h;refine AE9 (A2 (C _ s σ H _ I h) λv s1⟨x,H1,W,r1,N⟩=>?_);refine wpAny_Slice (A2 (F _ s1 σ H1 _ W N) λJ s2⟨l,H2,Y,pl,O⟩=>A2 (L _ s2 σ H2 _ Y O) λU s3⟨u,D,Z,M,P⟩=>?_);refine Av ?_;have A:Ae X _ σ D {s3 with heap:=s3.heap.push {cls:=.type "slice",data:=.fields #[J,U,.none]}}:=Z.cp λb R q=>Bn _ q;obtain⟨T,id,B,K,E⟩:=G _ _ σ D x v J U l u _ Q A r1 (AKb ..) pl M P;exact tail_any K B E (by rfl)
def MW(xs:List AQ)(lo hi:Option Int):List AQ:=(xs.drop (CD xs.length 0 lo)).take (CD xs.length xs.length hi-CD xs.length 0 lo)
def b7(xs:List AQ)(lo hi:Option Int):(MW xs lo hi).length<=xs.length:=by unfold MW;∎
def fA(K:Ap):AQ->Option Int->Option Int->AR->BZ->Prop:=λx lo hi H Q=>∃a xs,x=.ref a/\CH K H a xs/\¬(CD xs.length 0 lo=0/\CD xs.length xs.length hi=xs.length)/\∀p,H p=AB->Q (.ref p) (Ax H p (.tup (MW xs lo hi)))
def ADy{X:BY}:Jf X (fA X.K):=by
 intro pins s σ H x v B C lo hi sl Q I Z V pl Y h;obtain⟨a,xs,rfl,W,hw,q⟩:=h;cases Z;obtain⟨J,r,U,hz⟩:=I.bj W;have D:J.toArray.size=xs.length:=by exact r.aj.symm
 refine⟨_,_,Pu.lookup,U.typeIs,?_⟩;refine wG U V pl Y ∎ ?_ ∎;rw[D];refine⟨.ref _,_,I.eu (λb A q=>Bn _ q) (Aw _) ?_,rfl,q _ (I.ay.ao (Aw _))⟩;exact⟨Cj (b7 xs lo hi) hz,_,(r.qk _).qz _,gO _ _⟩
def BR.mz(r:BR xs D):D=[]↔xs=[]:=by cases r with|nil=>simp|cons _ _=>simp
def Lg(n:Nat)(i:Int):Option Nat:=if 0<=i then(if i<n then AA i.toNat else AB)else if-(n:Int)<=i then AA (i+n).toNat else AB
def CJ(xs:List α)(i:Int):Option α:=(Lg xs.length i).bind λj=>xs[j]?
def ABx(h:Lg n i=AA j):seqIndex? i n=AA j/\j<n/\-(n:Int)<=i/\i<n:=by
  unfold Lg at h;by_cases D:0<=i
  . by_cases h1:i<n
    . have e:i.toNat=j:=∎;exact⟨by rw[seqIndex_of D h1,e],∎,∎,h1⟩
    ∎
  . by_cases h1:-(n)<=i
    . have e:(i+n).toNat=j:=∎;exact⟨by rw[seqIndex_neg ∎ h1,e],∎,h1,∎⟩
    ∎
def WK{xs:List α}(h:CJ xs i=AA v):∃j,seqIndex? i xs.length=AA j/\xs[j]?=AA v/\j<xs.length/\-(xs.length:Int)<=i/\i<xs.length:=by unfold CJ at h;cases e:Lg xs.length i with|none=>∎|some j=>obtain⟨h1,h2,D,J⟩:=ABx e;∎
def ABE{α:Type}{xs:List α}{j:Nat}{v:α}(h:xs[j]?=AA v):CJ xs (j:Int)=AA v:=by
 have e:Lg xs.length (j)=AA j:=by unfold Lg;grind
 unfold CJ;grind
def WC(b:BE):Prop:=∀o i,iU b AH o i=operate [o,i] (L5 o i)
def Jb(X:BY)(r:Cy):Prop:=∀(value D:BE)(pins:List (AI×BF))(s:AX)(σ:Az)(H:AR)(x y:AQ)(v u:AJ)(Q:BZ),Ae X pins σ H s->BQ x v->BQ y u->r x y H Q->iU D AH v u=operate [v,u] (L5 v u)->Al (Aj X.af X.w) X.A (subscriptTail value D v u) (FR X pins σ Q) X.xe s
def Rz(X:BY)(id:String)(r:AQ->List AQ->AR->BZ->Prop):Prop:=∀(pins:List (AI×BF))(s:AX)(σ:Az)(H:AR)(x:AQ)(xs:List AQ)(v:AJ)(D:List AJ)(Q:BZ),Ae X pins σ H s->BQ x v->BR xs D->r x xs H Q->Al (Aj X.af X.w) X.A (JL (.builtin id) (v::D)) (FR X pins σ Q) X.xe s
def Jb.or(h:Jb X r)(h':Jb X r'):Jb X (λx y H Q=>r x y H Q\/r' x y H Q):=by
 intro value D pins s σ H x y v u Q I U V q J;rcases q with q|q;.exact h _ _ _ s σ H x y v u Q I U V q J
 .exact h' _ _ _ s σ H x y v u Q I U V q J
def dZ(V:Jb X r)(J:AV X a ta)(U:AV X b tb)(W:WC b):AV X (.Subscript a b pos) (MZ r ta tb):=by intro pins s σ H Q I h;exact AE9 (WL J U I h λv u s2 x y H2 D Y Z q=>V a b _ s2 σ H2 x y v u Q D Y Z q (W _ _))
def eT(K:Ap):Cy:=λx y H Q=>∃p xs i v,x=.ref p/\y=.int i/\Bq K H p xs/\CJ xs i=AA v/\Q v H
def Wq(K:Ap):Cy:=λx y H Q=>∃p xs i v,x=.ref p/\y=.int i/\CH K H p xs/\CJ xs i=AA v/\Q v H
def eU:Cy:=λx y H Q=>∃z i c,x=.str z/\y=.int i/\z.length<=AY/\CJ z.cps.toList i=AA c/\Q (.str ⟨#[c]⟩) H
def ABy{X:BY}:Jb X (eT X.K):=by
  intro value U pins s σ H x y v u Q I E F h W;obtain⟨p,xs,i,z,rfl,rfl,C,A,q⟩:=h;cases E;obtain⟨t,rfl⟩:=F;obtain⟨D,r,pl,hz⟩:=I.bz C;obtain⟨j,h1,h2,K,Y,Z⟩:=WK A;obtain⟨w,G,J⟩:=r.ju h2;have L:=r.aj;have hn:=Wb;have fin:FR X pins σ Q w s:=⟨z,H,I,J,q⟩;by_cases V:0<=i
  . have B:i.toNat=j:=by rw[seqIndex_of V Z]at h1;∎
    exact item_listR pl.isList V ∎ ∎ fin W
  . have B:(i+(D.toArray.size:Int)).toNat=j:=by rw[seqIndex_neg ∎ Y]at h1;∎
    exact AJ5 (x:=w) pl.isList.typeIs AGA.lookup (wpAny_getItem_list_neg pl.isList ∎ ∎ ∎ ∎ ⟨rfl,fin⟩) W
def cR{X:BY}:Jb X (Wq X.K):=by intro value J pins s σ H x y v u Q I Z A h W;obtain⟨p,xs,i,z,rfl,rfl,V,U,q⟩:=h;cases Z;obtain⟨t,rfl⟩:=A;obtain⟨Y,r,pl,hz⟩:=I.bj V;obtain⟨j,h1,h2,C,E,F⟩:=WK U;obtain⟨w,B,D⟩:=r.ju h2;have G:=r.aj;have hn:=Wb;have fin:FR X _ σ Q w s:=⟨z,H,I,D,q⟩;exact AJ5 pl.typeIs Pu.lookup (getItem_tuple (j:=j) pl ∎ ∎ ∎ ∎ ⟨rfl,fin⟩) W
def AB1:Jb X eU:=by
 intro value D pins s σ H x y v u Q I V W h U;obtain⟨z,i,c,rfl,rfl,hz,J,q⟩:=h;obtain⟨t,rfl⟩:=V;obtain⟨t',rfl⟩:=W;obtain⟨j,h1,h2,Y,Z,A⟩:=WK J;have B:z.cps.toList.length=z.length:=by simp[Str.length]
 have hn:=Wb;exact tail_any (by rfl) slot_str_getitem.lookup (getItem_str (c:=c) (by∎) ∎ ⟨.str ⟨#[c]⟩,H,I.jd _,⟨_,rfl⟩,q⟩) U
def Wo(K:Ap):Cy:=λx y H Q=>eT K x y H Q\/Wq K x y H Q\/eU x y H Q
def ABz{X:BY}:Jb X (Wo X.K):=ABy.or (cR.or AB1)
def AD0(lo hi:Option Int)(n:Nat):(S8 lo hi AB n).1=((CD n 0 lo:Nat):Int)/\(S8 lo hi AB n).2.1=((CD n n hi:Nat):Int)/\(S8 lo hi AB n).2.2=1:=by
 refine⟨?_,?_,rfl⟩;.cases lo with |none=>rfl|some i=> simp only[S8,CD,AJm,show(1)>0 by decide,AM2];∎
 .cases hi with |none=>rfl|some i=> simp only[S8,CD,AJm,show(1)>0 by decide,AM2];∎
def ADz(D:List AJ)(lo hi:Option Int):iT D.toArray lo hi AB=((D.drop (CD D.length 0 lo)).take (CD D.length D.length hi-CD D.length 0 lo)).toArray:=by obtain⟨h1,h2,J⟩:=AD0 lo hi _;unfold iT;rw[h1,h2,J];simp only[sliceRange_one,pick_run,Mf]<;>rfl
def Wr(K:Ap):AQ->Option Int->Option Int->AR->BZ->Prop:=λx lo hi H Q=>∃a xs,x=.ref a/\Bq K H a xs/\∀p,H p=AB->Q (.ref p) (Ax H p (.lst (MW xs lo hi)))
def ADv{X:BY}:Jf X (Wr X.K):=by intro pins s σ H x v B C lo hi sl Q I Z U pl Y h;obtain⟨a,xs,rfl,V,q⟩:=h;cases Z;obtain⟨W,r,J,hz⟩:=I.bz V;have D:=r.aj;refine⟨_,_,AGA.lookup,J.isList.typeIs,?_⟩;refine ALb J.isList U pl Y .none (by simp) ?_ ∎;rw[ADz,<-D];refine⟨.ref _,_,I.eu (λb A q=>Bn _ q) (Aw _) ?_,rfl,q _ (I.ay.ao (Aw _))⟩;exact⟨Cj (b7 xs lo hi) hz,_,0,(r.qk _).qz _,EB _ rfl⟩
def Jh:AQ->Bool|.non=>AD|.bl _=>AD|.int _=>AD|.str _=>AD|_=>AH
def Ld:AQ->AQ->Bool|.non,.non=>AD|.bl a,.bl b=>a==b|.bl a,.int b=>(if a then 1 else 0)==b|.int a,.bl b=>a==(if b then 1 else 0)|.int a,.int b=>a==b|.str a,.str b=>a==b|_,_=>AH
def ABc(J:BQ y u)(D:BQ x v)(W:Jh y=AD)(U:Jh x=AD):hZ A s u v (Ld y x):=by cases y with
 |non=>cases J;cases x with |non=>cases D;exact AKo _|bl b=>cases D;exact AMj b|int b=>obtain⟨t,rfl⟩:=D;exact AMk b t|str b=>obtain⟨t,rfl⟩:=D;exact AMl b t|_=>exact absurd ∎ D5
 |bl a=>cases J;cases x with |non=>cases D;exact AMe a|bl b=>cases D;exact AMc a b|int b=>obtain⟨t,rfl⟩:=D;exact AMd a b t|str b=>obtain⟨t,rfl⟩:=D;exact AMf a b t|_=>exact absurd ∎ D5
 |int a=>obtain⟨t',rfl⟩:=J;cases x with |non=>cases D;exact AMi a t'|bl b=>cases D;exact AMg a t' b|int b=>obtain⟨t,rfl⟩:=D;exact AMh a t' b t|str b=>obtain⟨t,rfl⟩:=D;exact AKn a t' b t|_=>exact absurd ∎ D5
 |str a=> obtain⟨t',rfl⟩:=J;cases x with |non=>cases D;exact AMn a t'|bl b=>cases D;exact AMm a t' b|int b=>obtain⟨t,rfl⟩:=D;exact AKp a t' b t|str b=>obtain⟨t,rfl⟩:=D;exact AMo a t' b t|_=>exact absurd ∎ D5
 |_=>exact absurd ∎ D5
def MX(x:AQ)(u:AJ):Bool:=match u with|.none=>Ld .non x|.bool b=>Ld (.bl b) x|.int i _=>Ld (.int i) x|.str z _=>Ld (.str z) x|_=>AH
def cE(r:BQ y u)(f:Jh y=AD):MX x u=Ld y x:=by cases y with|non=>cases r;rfl|bl b=>cases r;rfl|int i=>obtain⟨t,rfl⟩:=r;rfl|str z=>obtain⟨t,rfl⟩:=r;rfl|_=>exact absurd ∎ D5
def PL:∀{xs:List AQ}{D:List AJ},BR xs D->xs.all Jh=AD->D.any (MX x)=xs.any λy=>Ld y x|_,_,.nil,_=>rfl|y::xs,u::D,.cons r t,f=>by rw[AEm,Q2]at f;rw[AEn,AEn,cE r f.1,PL t f.2]
def Pa(W:BQ x v)(U:Jh x=AD):∀{xs:List AQ}{J:List AJ},BR xs J->xs.all Jh=AD->∀u∈J,hZ A s u v (MX x u)
 |_,_,.nil,_=>∎|y::xs,u::J,.cons r t,f=>λY D=>by
  rw[AEm,Q2]at f;rcases Bw.mp D with rfl|D;.rw[cE r f.1];exact ABc r W f.1 U
  .exact Pa W U t f.2 Y D
def Nl(x:AQ)(xs:List AQ):Bool:=xs.any λy=>Ld y x
def Pg(K:Ap)(neg:Bool):Cy:=λx y H Q=>∃p xs,y=.ref p/\(Bq K H p xs\/CH K H p xs)/\Jh x=AD/\xs.all Jh=AD/\Q (.bl (if neg then !Nl x xs else Nl x xs)) H
def ACn{X:BY}:CN X (EI .In) (Pg X.K AH):=by
 intro pins s σ H x y v u Q I V W h;obtain⟨p,xs,rfl,J,U,fs,q⟩:=h;cases W;rcases J with J|J
 . obtain⟨D,r,pl,hz⟩:=I.bz J;refine SeqAt.in_listAt _ pl.isList (λw hw=>Pa V U r fs w ∎) ⟨.bl _,H,I,rfl,?_⟩;rw[show D.toArray.any _=D.any (MX x)by simp,PL r fs];exact q
 . obtain⟨D,r,pl,hz⟩:=I.bj J;refine SeqAt.in_tupleAt _ pl (λw hw=>Pa V U r fs w ∎) ⟨.bl _,H,I,rfl,?_⟩;rw[show D.toArray.any _=D.any (MX x)by simp,PL r fs];exact q
def ACs{X:BY}:CN X (EI .NotIn) (Pg X.K AD):=by
 intro pins s σ H x y v u Q I V W h;obtain⟨p,xs,rfl,J,U,fs,q⟩:=h;cases W;rcases J with J|J
 . obtain⟨D,r,pl,hz⟩:=I.bz J;refine AKs _ pl.isList (λw hw=>Pa V U r fs w ∎) ⟨.bl _,H,I,rfl,?_⟩;rw[show D.toArray.any _=D.any (MX x)by simp,PL r fs];exact q
 . obtain⟨D,r,pl,hz⟩:=I.bj J;refine SeqAt.notIn_tupleAt _ pl (λw hw=>Pa V U r fs w ∎) ⟨.bl _,H,I,rfl,?_⟩;rw[show D.toArray.any _=D.any (MX x)by simp,PL r fs];exact q
def ABK{X:BY}:FA X (.type "list") (λxs H Q=>∃p ys,xs=[.ref p]/\(Bq X.K H p ys\/CH X.K H p ys)/\∀l,H l=AB->Q (.ref l) (Ax H l (.lst ys))):=by
 intro pins s σ H xs C Q I r h;obtain⟨p,ys,rfl,U,q⟩:=h;obtain⟨u,rfl,B⟩:=Hw r;cases B;have fin:∀(D:List _),BR ys _->ys.length<=AY->∀(h':Au)(Z:Nat),(∀b o',s.heap.get? b=AA o'->h'.get? b=AA o')->h'.get? _=AA _->FR X _ σ Q _ _:=λD r' hz h' Z A e=>⟨.ref _,_,I.eu (t':=s.toks) A (Aw _) (show Dt _ _ _ h' _ (.lst ys)from⟨hz,D,Z,r',e⟩),rfl,q _ (I.ay.ao (Aw _))⟩;rcases U with U|U
 . obtain⟨D,r',pl,hz⟩:=I.bz U;have J:=r'.aj;obtain⟨o,Y,V,n,W⟩:=pl.isList;exact ALE p (.inl rfl) Y V W ∎ ∎
 . obtain⟨D,r',pl,hz⟩:=I.bj U;have J:=r'.aj;obtain⟨o,Y,V,n,W⟩:=pl;exact ALE p (.inr rfl) Y V W ∎ ∎
def ABR{X:BY}:FA X (.type "tuple") (λxs H Q=>∃p ys,xs=[.ref p]/\((Bq X.K H p ys/\∀l,H l=AB->Q (.ref l) (Ax H l (.tup ys)))\/(CH X.K H p ys/\Q (.ref p) H))):=by
 intro pins s σ H xs A Q I r h;obtain⟨p,ys,rfl,h⟩:=h;obtain⟨u,rfl,Z⟩:=Hw r;cases Z;rcases h with⟨J,q⟩|⟨J,q⟩
 . obtain⟨D,r',pl,hz⟩:=I.bz J;have V:=r'.aj;refine call_tuple_list pl.isList (λh' Y=>?_) ∎;have U:=I.cp (t':=s.toks) Y;have W:=U.eu (t':=s.toks) (λb o e=>Bn _ e) (Aw _) (show Dt _ _ _ _ _ (.tup ys)from⟨hz,D,r',gO _ _⟩);exact⟨.ref _,_,W,rfl,q _ (U.ay.ao (Aw _))⟩
 . obtain⟨D,r',pl,hz⟩:=I.bj J;exact call_tuple_same pl ⟨.ref p,H,I,rfl,q⟩
def W4(K:Ap)(T:String)(x:AQ)(H:AR):Prop:=match x with|.str _=>T="str"|.int _=>T="int"|.ref p=>(T="list"/\∃xs,Bq K H p xs)\/(T="tuple"/\∃o,K.lookup p=AA o/\o.cls=.type "tuple"/\o.dict=AB)\/(T="dict"/\((∃kvs,H p=AA (.dK kvs))\/∃kvs,H p=AA (.dT kvs)))\/(T="set"/\∃S n,H p=AA (.set S n))|_=>False
def AEh{X:BY}{s:AX}(I:Ae X pins σ H s)(r:BQ x v)(ty:W4 X.K T x H):s.TypeIs v T/\∀a,v=.ref a->∃W,s.heap.get? a=AA W/\W.dict=AB:=by cases x with
  |str z=> obtain⟨t,rfl⟩:=r;cases(show T="str"from ty);exact⟨typeIs_str s z t,∎⟩|int i=> obtain⟨t,rfl⟩:=r;cases(show T="int"from ty);exact⟨typeIs_int s i t,∎⟩|ref p=>
    cases r;rcases ty with⟨rfl,xs,Z⟩|⟨rfl,o,D,Y,U⟩|⟨rfl,D⟩|⟨rfl,S,n,D⟩
    . obtain⟨A,_,pl,_⟩:=I.bz Z;refine⟨pl.isList.typeIs,λa e=>?_⟩;obtain⟨o,n,e,c,U,_⟩:=pl;∎
    . refine⟨⟨o,I.il p o D,Y⟩,λa e=>?_⟩;cases e;exact⟨o,I.il _ o D,U⟩
    . have z:∃o,s.heap.get? p=AA o/\o.ExactDict:=by
        rcases D with⟨kvs,D⟩|⟨kvs,D⟩
        . obtain⟨_,_,_,_,o,_,_,e,ex,_⟩:=I.ay p _ D;∎
        . obtain⟨_,_,_,_,o,_,_,e,ex,_⟩:=I.ay p _ D;∎
      obtain⟨o,e,ex⟩:=z;refine⟨⟨o,e,ex.1⟩,λa J=>?_⟩;cases J;exact⟨o,e,ex.2.1⟩
    . obtain⟨o,_,_,_,e,ex,_⟩:=I.ay p _ D;refine⟨⟨o,e,ex.1⟩,λa J=>?_⟩;cases J;exact⟨o,e,ex.2.1⟩|_=>exact KI ty
def SQ(K:Ap)(T:String)(r:AQ->List AQ->AR->BZ->Prop)(to:A6)(t:Eh):A6:=λσ H Q=>to σ H λx H1=>W4 K T x H1/\t σ H1 λxs H2=>r x xs H2 Q
def ACz{X:BY}{name:AG}{apos cpos:Ce}{id:String}(pa:PlainAttrs T)(V:Slot T name id)(Y:typeOf (.builtin id)=BC (.type "method_descriptor"))(E:Rz X id r)(F:AV X o to)(C:C7 X (e::es) t)(D:Jt o name X.aa (Ar o X.aa)=Ar o X.aa:=by rfl)(U:((Bx cpos (Ah (e::es) X.aa)).all (λx=>!x.1)&&(Ju cpos (Jy [] X.aa)).all (λx=>x.1.isSome)&&Af ((e::es).length+([]:List Fv).length+(if([]:List Fv).isEmpty then 0 else 1)<30))=AD:=by rfl)(J:(apos.endLine==cpos.line)=AD:=by rfl)(G:Ah (e::es) X.aa=(AH,Ar e X.aa)::Ah es X.aa:=by rfl)(W:(Bx cpos (Ah es X.aa)).any (·.1)=AH:=by rfl):AV X (.Call (.Attribute o name apos) (e::es) [] cpos) (SQ X.K T r to t):=by intro pins s σ H Q I h;refine wpAny_Call_method_late D U J rfl (A2 (F _ s σ H _ I h) λv s1⟨x,H1,Z,r1,ty,K⟩=>?_);obtain⟨h1,h2⟩:=AEh Z r1 ty;refine⟨T,id,pa,V,Y,h1,h2,?_⟩;have A:=C cpos _ s1 σ H1 _ Z K;rw[G]at A⊢;refine AFS ∎ (gX ?_);exact A2 A λM s2⟨vs,H2,B,r2,L⟩=>E _ s2 σ H2 x vs v M Q B r1 r2 L
def bL(X:BY)(id:String)(r:AQ->List AQ->AR->BZ->Prop):Prop:=∀(pins:List (AI×BF))(s:AX)(σ:Az)(H:AR)(x:AQ)(xs:List AQ)(v:AJ)(D:List AJ)(Q:BZ),Ae X pins σ H s->BQ x v->BR xs D->r x xs H Q->Al (Aj X.af X.w) X.A (JL (.builtin id) (v::D)) (FR X pins σ Q) X.xe s
def BR.om:∀{x:AQ}{D:List AJ},BR [x] D->∃u,D=[u]/\BQ x u|_,_,.cons r .nil=>⟨_,rfl,r⟩
def BR.qw{xs:List AQ}{D:List AJ}(h:BR xs D):BR xs.reverse D.reverse:=by induction h with|nil=>exact .nil|cons r t J=>rw[gI,gI];exact BR.cw J (.cons r .nil)
def Ae.tu{ys:List AQ}{D its':List AJ}(I:Ae X pins σ H s)(J:H l=AA (.lst xs))(e:s.heap.get? l=AA {cls:=.type "list",data:=.seq D.toArray n})(V:f D.toArray=its'.toArray)(Y:BR ys its')(hz:ys.length<=AY):Ae X pins σ (Ax H l (.lst ys)) {s with heap:=s.heap.update l (L0 f),toks:=t'}:=by have q:=AKe e f;rw[V]at q;refine I.jo (by rw[J];exact trivial) (.inl rfl) (λZ u U W=>(Sq _ _ (Ko U)).trans W) ⟨_,q⟩ ?_;exact⟨hz,_,_,Y,q⟩
def Ae.xh{ys:List AQ}{D:List AJ}(I:Ae X pins σ H s)(J:BR ys D)(hz:ys.length<=AY):Ae X pins σ (Ax H s.heap.objs.size (.lst ys)) {s with heap:=s.heap.push {cls:=.type "list",data:=.seq D.toArray},toks:=t'}:=I.eu (λ_ _ q=>Bn _ q) (Aw _) ⟨hz,D,0,J,EB _ rfl⟩
def Ae.ao{s:AX}(I:Ae X pins σ H s):H s.heap.objs.size=AB:=I.ay.ao (Aw _)
def Ae.tw{s:AX}{xs:List AQ}(I:Ae X pins σ H s)(J:H l=AA (.lst xs)):xs.length<=AY/\∃(D:List AJ)(n:Nat),BR xs D/\xs.length=D.length/\s.heap.get? l=AA {cls:=.type "list",data:=.seq D.toArray n}:=by obtain⟨z,D,n,r,e⟩:=I.ay l _ J;exact⟨z,D,n,r,r.aj,e⟩
def ACa(h:n<=AY):AFO n=AH:=by unfold AFO;∎
def Wn:AQ->List AQ->AR->BZ->Prop:=λx vs H Q=>∃l xs y,x=.ref l/\vs=[y]/\H l=AA (.lst xs)/\xs.length<AY/\Q .non (Ax H l (.lst (xs++[y])))
def ACV:bL X "list.append" Wn:=by intro pins s σ H x vs v Z Q I W V h;obtain⟨l,xs,y,rfl,rfl,J,hz,q⟩:=h;cases W;obtain⟨u,rfl,U⟩:=V.om;obtain⟨z,D,n,r,Y,e⟩:=I.tw J;refine iK AFY ⟨_,e,rfl⟩ AKL (by rfl) (ALN l D.toArray n u ∎) ⟨e,?_⟩;refine⟨.non,_,I.tu (its':=D++[u]) J e (by simp) (r.cw (.cons U .nil)) ?_,rfl,q⟩;∎
def FW[DecidableEq κ](kvs:List (κ×AQ))(k:κ):Option AQ:=(kvs.find? λD=>Af (D.1=k)).map (·.2)
def Ej[DecidableEq κ](kvs:List (κ×AQ))(k:κ)(v:AQ):List (κ×AQ):=if(kvs.any λD=>Af (D.1=k))=AD then kvs.map (λD=>if D.1=k then(D.1,v)else D)else kvs++[(k,v)]
def SS[DecidableEq κ]{p:κ×AQ}(e:p.1=k):FW (p::r) k=AA p.2:=by simp[FW,SV,e]
def Pl[DecidableEq κ]{p:κ×AQ}(e:¬p.1=k):FW (p::r) k=FW r k:=by simp[FW,SV,e]
section
variable{κ:Type}[DecidableEq κ]
theorem W6(k:κ):∀kvs:List (κ×AQ),(kvs.any λD=>Af (D.1=k))=(FW kvs k).isSome
 |[]=>rfl|p::r=>by
  rw[AEn];by_cases e:p.1=k;.simp only[SS e,AMy e,Bool.true_or,Option.isSome_some]
  .rw[Pl e,AM0 e];exact W6 k r
end
def SA[DecidableEq κ](kvs:List (κ×AQ))(k:κ)(v:AQ):(Ej kvs k v).length<=kvs.length+1:=by unfold Ej;∎
def ADf{κ:Type}[DecidableEq κ]{kvs:List (κ×AQ)}{k:κ}(v:AQ)(h:FW kvs k=AB):Ej kvs k v=kvs++[(k,v)]:=by unfold Ej;rw[W6,h];exact AMv (by decide)
def Ka.nr{o:Option AQ}{u:Option AJ}(r:Ka o u):o.isSome=u.isSome:=by cases o with
 |none=>cases u with |none=>rfl|some _=>exact(show False from r).elim
 |some _=>cases u with|none=>exact(show False from r).elim|some _=>rfl
def Ka.vj{o:Option AQ}{u:Option AJ}(r:Ka o u)(J:BQ d D):BQ (o.getD d) (u.getD D):=by cases o with
 |none=>cases u with|none=>exact J|some _=>exact(show False from r).elim
 |some _=>cases u with|none=>exact(show False from r).elim|some _=>exact r
def Fp.rf[DecidableEq κ](r:Fp kvs vs)(k:κ):Ka (FW kvs k) (HZ vs k):=by induction r with |nil=>exact IK|@cons p q ps qs h t J=>
    obtain⟨h1,h2⟩:=h;by_cases e:p.1=k
    . have D:=h1.symm.trans e;have b:HZ (q::qs) k=AA q.2:=by simp[HZ,SV,D]
      rw[SS e,b];exact h2
    . have D:¬q.1=k:=∎;have b:HZ (q::qs) k=HZ qs k:=by simp[HZ,SV,D]
      rw[Pl e,b];exact J
def Fp.vb[DecidableEq κ]{kvs:List (κ×AQ)}{vs:List (κ×AJ)}(r:Fp kvs vs)(k:κ):(kvs.any λD=>Af (D.1=k))=vs.any λD=>Af (D.1=k):=by induction r with|nil=>rfl|cons h t J=>∎
def Fp.ui[DecidableEq κ]{kvs:List (κ×AQ)}{vs:List (κ×AJ)}(r:Fp kvs vs)(k:κ)(U:BQ y u):Fp (kvs.map λD=>if D.1=k then(D.1,y)else D) (vs.map λD=>if D.1=k then(D.1,u)else D):=by induction r with|nil=>exact .nil|@cons p q ps qs h t J=>refine .cons ?_ J;∎
def Fp.fm[DecidableEq κ](r:Fp kvs vs)(k:κ)(D:BQ y u):Fp (Ej kvs k y) (P7 vs k u):=by
 unfold Ej P7;rw[r.vb k];by_cases e:(vs.any λJ=>Af (J.1=k))=AD;.rw[AMu e,AMu e];exact r.ui k D
 .rw[AMv e,AMv e];exact AKj r ⟨rfl,D⟩
def Fp.aj[DecidableEq κ]{kvs:List (κ×AQ)}{vs:List (κ×AJ)}(r:Fp kvs vs):kvs.length=vs.length:=Ml r
def Nm(r:BQ (BP k) u):(Dg P w).is k u=AD:=by cases k with|inl i=>obtain⟨t,e⟩:=∎;subst e;exact ACT P w i t|inr x=>obtain⟨t,e⟩:=∎;subst e;exact ACU P w x t
def cQ:∀{ks:List AW}{D:List AJ},BR (ks.map BP) D->ItemsAre (Dg P w) ks D|[],_,r=>by cases r;exact .nil|k::ks,_,r=>by cases r with|cons h t=>exact .cons (Nm h) (cQ t)
abbrev Jc(H:AR):List (List AW×AQ)->List (List AW×AI×AJ)->Prop:=Gj λp q=>p.1=q.1/\H q.2.1=AA (.tup (p.1.map BP))/\BQ p.2 q.2.2
def Jc.rf(r:Jc H kvs xs)(k:List AW):Ka (FW kvs k) ((N3 xs k).map (·.2)):=by induction r with|nil=>exact IK|@cons p q ps qs h t J=>
    obtain⟨h1,_,h2⟩:=h;by_cases e:p.1=k
    . have D:=h1.symm.trans e;have b:N3 (q::qs) k=AA q.2:=by simp[N3,SV,D]
      rw[SS e,b];exact h2
    . have D:¬q.1=k:=∎;have b:N3 (q::qs) k=N3 qs k:=by simp[N3,SV,D]
      rw[Pl e,b];exact J
def Jc.ui{kvs:List (List AW×AQ)}{xs:List (List AW×AI×AJ)}(r:Jc H kvs xs)(k:List AW)(U:BQ y u):Jc H (kvs.map λD=>if D.1=k then(D.1,y)else D) (xs.map (putAt k u)):=by induction r with|nil=>exact .nil|@cons p q ps qs h t J=>refine .cons ?_ J;unfold putAt;∎
def Jc.fm(r:Jc H kvs xs)(k:List AW)(U:H b=AA (.tup (k.map BP)))(J:BQ y u):Jc H (Ej kvs k y) (storedH xs k b u):=by
 have e:(kvs.any λD=>Af (D.1=k))=(N3 xs k).isSome:=by rw[W6,(r.rf k).nr,Option.isSome_map]
 unfold Ej storedH;rw[e];by_cases q:(N3 xs k).isSome=AD;.rw[AMu q,AMu q];exact r.ui k J
 .rw[AMv q,AMv q];exact AKj r ∎
def Jc.vo(r:Jc H kvs xs)(D:∀b ys,H b=AA (.tup ys)->H' b=AA (.tup ys)):Jc H' kvs xs:=WB r ∎
def fC(D:DB P w H h)(e:EY H a u):Dt P w H h a u:=e.ok D
def PM{h:Au}{kvs:List (AW×AQ)}(D:DB P w H h)(e:EY H a (.dK kvs)):kvs.length<=AY/\(a==K4)=AH/\∃vs,Fp kvs vs/\h.DictOf (Dg P w) a vs:=show Dt P w H h a _ from fC D e
def WO{h:Au}{kvs:List (AW×AQ)}(D:DB P w H h)(e:H a=AA (.dK kvs)):kvs.length<=AY/\(a==K4)=AH/\∃vs,Fp kvs vs/\h.DictOf (Dg P w) a vs:=PM D (.inl e)
def R8{ks:List AW}(U:DB P w H h)(e:H a=AA (.tup (ks.map BP))):(S9 (Dg P w)).is h ks a:=by obtain⟨_,J,r,o,h1,h2,n,D⟩:=(show Dt P w H h a _ from U a _ e);exact⟨o,_,n,h1,h2,D,by simpa using cQ r⟩
def PN{h:Au}{kvs:List (List AW×AQ)}(J:DB P w H h)(e:EY H a (.dT kvs)):kvs.length<=AY/\(a==K4)=AH/\∃xs,Jc H kvs xs/\h.DictOfH (S9 (Dg P w)) a xs:=by
 obtain⟨z,y,xs,r,o,es,ep,h1,h2,W,Y,Z⟩:=(show Dt P w H h a _ from fC J e);refine⟨z,y,xs,r,o,es,ep,h1,h2,W,Y,λx D=>?_,Z⟩;have U:∀{l:List _}{m:List _},Jc H l m->∀x∈m,(S9 (Dg P w)).is h x.1 x.2.1:=by intro l m q;induction q with |nil=>∎|@cons p q ps qs A t B=>
  intro x D;rcases Bw.mp D with e|D;.exact R8 J ∎
  ∎
 ∎
def ABb{h:Au}{kvs:List (List AW×AQ)}(D:DB P w H h)(e:H a=AA (.dT kvs)):kvs.length<=AY/\(a==K4)=AH/\∃xs,Jc H kvs xs/\h.DictOfH (S9 (Dg P w)) a xs:=PN D (.inl e)
def Nf(H:AR)(a:AI)(y:AQ)(r:Option AQ):Prop:=(∃kvs k,EY H a (.dK kvs)/\y=BP k/\r=FW kvs k)\/∃kvs k b,EY H a (.dT kvs)/\y=.ref b/\H b=AA (.tup (k.map BP))/\r=FW kvs k
def bE(H:AR)(a:AI)(y v:AQ)(H':AR):Prop:=(∃kvs k,H a=AA (.dK kvs)/\y=BP k/\kvs.length<AY/\H'=Ax H a (.dK (Ej kvs k v)))\/∃kvs k b,H a=AA (.dT kvs)/\y=.ref b/\H b=AA (.tup (k.map BP))/\kvs.length<AY/\H'=Ax H a (.dT (Ej kvs k v))
def Ae.xy{s:AX}(I:Ae X pins σ H s):K4<s.heap.objs.size:=by have h:=(I.dh.ir.keeps I.bk).lt;exact AE4 (by decide) h
def ABX{X:BY}{A:Ci}(F:A.units+1<Gk)(I:Ae X pins σ H s)(g:Nf H a y (AA v))(C:BQ y u)(h:∀U s',Ae X pins σ H s'->BQ v U->Q U s'):Al (Aj X.af X.w) A (L5 (.ref a) u) Q E s:=by
 rcases g with⟨kvs,k,e,V,l⟩|⟨kvs,k,b,e,V,Y,l⟩
 . subst V;obtain⟨z,Z,vs,D,dd⟩:=PM I.ay e;obtain⟨U,hw,J⟩:=PH (by rw[l];exact D.rf k);exact wpAny_getItem_of (Nm C) dd.mapOf hw (h U _ (I.jd _) J)
 . subst V;cases∎;obtain⟨z,Z,xs,D,dd⟩:=PN I.ay e;obtain⟨U,hw,J⟩:=PH (by rw[l];exact D.rf k);obtain⟨p,B,W⟩:=BK.mp hw;refine wpAny_getItem_heap ∎ (R8 I.ay Y) dd B ?_;rw[W];exact h U _ (I.jd _) J
def R3{X:BY}{h':Au}(I:Ae X pins σ H s)(Y:PD (H a))(W:Kv a s.heap h')(V:∃q,h'.get? a=AA q)(D:Dt X.af X.w (Ax H a J) h' a J):Ae X pins σ (Ax H a J) {s with heap:=h',toks:=t'}:=I.jo Y (.inl rfl) (λb q U z=>(W.2 b U).trans z) V D
def WN{h':Au}{kvs:List (AW×AQ)}(z:kvs.length<=AY)(J:(a==K4)=AH)(D:Fp kvs vs)(dd:h'.DictOf (Dg P w) a vs):Dt P w H' h' a (.dK kvs):=⟨z,J,vs,D,dd⟩
def ABY{X:BY}{A:Ci}(P:A.units+1<Gk)(I:Ae X pins σ H s)(g:bE H a y v H')(G:BQ y u)(F:BQ v r)(h:∀s',Ae X pins σ H' s'->Q () s'):Al (Aj X.af X.w) A (setItem (.ref a) u r) Q E s:=by
  rcases g with⟨kvs,k,e,W,l,V⟩|⟨kvs,k,b,e,W,C,l,V⟩
  . subst W V;obtain⟨z,Y,vs,D,dd⟩:=WO I.ay e;have hz:vs.length<=AY:=by rw[<-D.aj];exact z
    have Z:(Ej kvs k v).length<=AY:=by have:=SA kvs k v;∎
    refine wpAny_setItem_pairs (Nm G) dd λh' J B=>h _ ?_;have O:∃q,h'.get? a=AA q:=let⟨q,_,_,U,_⟩:=J;⟨q,U⟩;exact R3 I (by rw[e];exact IK) B O (WN Z Y (D.fm k F) J)
  . subst W V;cases(show u=FD b from G);obtain⟨z,Y,xs,D,dd⟩:=ABb I.ay e;have hz:xs.length<=AY:=by rw[<-Ml D];exact z
    have Z:(Ej kvs k v).length<=AY:=by have:=SA kvs k v;∎
    refine wpAny_setItem_heap ∎ (R8 I.ay C) dd λh' J B=>h _ ?_;obtain⟨q,es,ep,U,h2,L,M,_,N⟩:=J;refine R3 I (by rw[e];exact IK) B ⟨q,U⟩ ⟨Z,Y,_,(D.fm k C F).vo λc ys K=>?_,q,es,ep,U,h2,L,M,N⟩;rw[Bs ∎];exact K
def WA(i:BE):Prop:=∀J D,iU i AH J D=operate [J,D] (L5 J D)
def fM{id:String}(C:typeLookup (.type T) "__getitem__"=BC (AA (.builtin id)))(F:WA D)(h:Al (Aj prog w) A (Ar value env) (λo V=>Al (Aj prog w) A (Ar D env) (λi J=>J.TypeIs o T/\Al (Aj prog w) A (L5 o i) Q E J) E V) E s):Al (Aj prog w) A (Ar (.Subscript value D pos) env) Q E s:=by
 refine AE9 (Ez h (λo V Y=>Ez Y (λi J U=>?_) λ_ _ x=>x) λ_ _ x=>x);obtain⟨B,U⟩:=U;refine Aa ?_;refine Aa (ALl B C ?_);have fin:Al (Aj prog w) A (iU D AH o i) (λr W=>Al (Aj prog w) A (letTemporaryGo value o r>>=λ_=>BC r) Q E W) E J:=by rw[F o i];exact wpAny_operating (Ez U (λr W Z=>Aa (wpAny_letTemporaryGo (Av Z))) λ_ _ x=>x)
 first |exact Av (Aa fin)|exact wpAny_bind _|exact wpAny_bind _
def ABa{s:AX}(I:Ae X pins σ H s)(g:Nf H a y o):s.TypeIs (.ref a) "dict":=by
 rcases g with⟨kvs,k,e,_,_⟩|⟨kvs,k,b,e,_,_,_⟩
 . obtain⟨_,_,vs,_,dd⟩:=PM I.ay e;exact dd.typeIs
 . obtain⟨_,_,xs,_,dd⟩:=PN I.ay e;exact dd.typeIs
def Wz(td ty:A6):A6:=λσ H Q=>td σ H λx H1=>ty σ H1 λy H2=>∃a v,x=.ref a/\Nf H2 a y (AA v)/\Q v H2
def ADo(td ty tv:A6):Du:=λD σ H=>tv σ H λv H1=>td σ H1 λx H2=>ty σ H2 λy U=>∃a J,x=.ref a/\bE U a y v J/\D.nx σ J
def dY{X:BY}(Z:X.A.units+1<Gk)(W:AV X o td)(hi:AV X i ty)(Y:WA i):AV X (.Subscript o i pos) (Wz td ty):=by intro pins s σ H Q I h;refine fM F.slot_dict_getitem.lookup Y (A2 (W _ s σ H _ I h) λu s1⟨x,H1,U,C,A⟩=>A2 (hi _ s1 σ H1 _ U A) λF s2⟨y,H2,J,E,a,v,ex,g,B⟩=>?_);subst ex;obtain rfl:u=FD a:=C;exact⟨ABa J g,ABX Z J g E λG s3 V D=>⟨v,H2,V,D,B⟩⟩
def ADW{X:BY}{pos:Ce}(B:X.A.units+1<Gk)(Z:AV X o td)(hi:AV X i ty)(C:AV X value tv)(A:HY value (AA (.Subscript o i pos')) pos.line X.aa=BC AH):CY X (.Assign [.Subscript o i pos'] value pos) (ADo td ty tv):=by intro pins s σ H D I h;refine ALV (A2 (C _ s σ H _ I h) λr s1⟨v,H1,U,K,E⟩=>A2 (Z _ s1 σ H1 _ U E) λu s2⟨x,H2,V,L,F⟩=>A2 (hi _ s2 σ H2 _ V F) λO s3⟨y,N,W,M,a,J,ex,g,G⟩=>?_) A;subst ex;obtain rfl:u=FD a:=L;exact ABY B W g M K λs4 Y=>⟨σ,J,Y,G⟩
def cC(h:Au)(D:K4<h.objs.size):Dt P w H (h.push {cls:=.type "dict",data:=.dict #[]}) h.objs.size (.dK []):=⟨EA _,∎,[],.nil,AMZ h⟩
def AD7:A6:=λ_ H Q=>∀p,H p=AB->Q (.ref p) (Ax H p (.dK []))
def AC6:AV X (.Dict [] [] pos) AD7:=λpins s σ H Q I h=>wpAny_Dict_empty ⟨.ref _,_,I.eu (λ_ _ q=>Bn _ q) (Aw _) (cC _ I.xy),rfl,h _ (I.ay.ao (Aw _))⟩
def SR:List (A6×A6)->Az->AR->(List (AQ×AQ)->AR->Prop)->Prop|[],_,H,Q=>Q [] H|(tk,tv)::r,σ,H,Q=>tk σ H λx H1=>tv σ H1 λy H2=>SR r σ H2 λps D=>Q ((x,y)::ps) D
abbrev bQ:List (AQ×AQ)->List (AJ×AJ)->Prop:=Gj λp q=>BQ p.1 q.1/\BQ p.2 q.2
def La(X:BY)(pos:Ce)(J:List (Option BE))(D:List BE)(U:List (A6×A6)):Prop:=∀(pins:List (AI×BF))(s:AX)(σ:Az)(H:AR)(Q:List (AQ×AQ)->AR->Prop),Ae X pins σ H s->SR U σ H Q->Al (Aj X.af X.w) X.A (evalPairs (pairTrees J D X.aa pos)) (λvs s'=>∃ps H',Ae X pins σ H' s'/\bQ ps vs/\Q ps H') X.xe s
def ADV:La X pos [] [] []:=λpins s σ H Q I h=>pairTrees_nil_walk ⟨[],H,I,.nil,h⟩
def ADU(Z:AV X k tk)(B:AV X v tv)(A:La X pos ks vs D):La X pos (AA k::ks) (v::vs) ((tk,tv)::D):=λpins s σ H Q I h=>pairTrees_cons_walk (A2 (Z _ s σ H _ I h) λu s1⟨x,H1,V,G,C⟩=>A2 (B _ s1 σ H1 _ V C) λL s2⟨y,H2,W,K,E⟩=>A2 (A _ s2 σ H2 _ W E) λws s3⟨ps,U,Y,J,F⟩=>⟨_,U,Y,.cons ⟨G,K⟩ J,F⟩)
def Li(kvs D:List (AW×AQ)):List (AW×AQ):=D.foldl (λJ U=>Ej J U.1 U.2) kvs
def Fp.vw:∀{D:List (AW×AQ)}{J:List (AW×AJ)}{kvs:List (AW×AQ)}{vs:List (AW×AJ)},Fp D J->Fp kvs vs->Fp (Li kvs D) (merged vs J):=by intro D J kvs vs r;induction r generalizing kvs vs with |nil=>intro q;exact q|@cons p q ps qs h t U=>
 intro W;have e:Fp (Ej kvs p.1 p.2) (P7 vs q.1 q.2):=by have:=W.fm p.1 h.2;∎
 exact U e
def c7:∀(D kvs:List (AW×AQ)),(Li kvs D).length<=kvs.length+D.length|[],kvs=>by show kvs.length<=kvs.length+0;∎|p::r,kvs=>by have h1:=c7 r (Ej kvs p.1 p.2);have h2:=SA kvs p.1 p.2;show(Li _ r).length<=_;∎
def bX:∀{kvs:List (AW×AQ)}{ws:List (AJ×AJ)},bQ (kvs.map λJ=>(BP J.1,J.2)) ws->∃D,Carries (Dg P w) ws D/\Fp kvs D|[],_,r=>by cases r;exact⟨[],IK,.nil⟩|p::kvs,_,r=>by cases r with|@cons a b W bs h t=>obtain⟨D,c,q⟩:=bX t;obtain⟨Y,U⟩:=b;exact⟨(p.1,U)::D,⟨Nm h.1,rfl,c⟩,.cons ⟨rfl,h.2⟩ q⟩
def AD9(D:List (A6×A6)):A6:=λσ H Q=>∀p,H p=AB->SR D σ (Ax H p (.dK [])) λps H2=>H2 p=AA (.dK [])/\∃kvs:List (AW×AQ),ps=kvs.map (λJ=>(BP J.1,J.2))/\kvs.length<=15/\Q (.ref p) (Ax H2 p (.dK (Li [] kvs)))
def AC5{D:List (Option BE)}{J:List BE}(h:La X pos D J W)(V:D.all (·.isSome)=AD)(G:D.length=J.length)(C:D≠[])(Y:D.length<=15):AV X (.Dict D J pos) (AD9 W):=by
 intro pins s σ H Q I q;have hn:=I.ay.ao (Aw _);have B:=I.eu (t':=s.toks) (λ_ _ q=>Bn _ q) (Aw _) (cC _ I.xy);refine wpAny_Dict_walk (knd:=Dg _ _) V G C Y (A2 (h _ _ σ _ _ B (q _ hn)) λws s2⟨ps,H2,A,Z,e,kvs,ep,S,M⟩=>?_);subst ep;obtain⟨P,c,O⟩:=bX Z;obtain⟨z,E,R,N,dd⟩:=WO A.ay e;cases N;refine⟨P,c,dd,λh' U L=>⟨.ref _,_,?_,rfl,M⟩⟩;have hz:(Li [] kvs).length<=AY:=by have h1:=c7 kvs [];rw[Lp]at h1;rw[ES];∎
 have F:∃q,h'.get? _=AA q:=let⟨q,_,_,K,_⟩:=U;⟨q,K⟩;exact R3 A (by rw[e];exact IK) L F (WN hz E (O.vw .nil) U)
structure Rv(X:BY)(o:BE)(m:AG)(apos:Ce)(e f:BE)(cpos:Ce):Prop where
 ai:Jt o m X.aa (Ar o X.aa)=Ar o X.aa
 yb:((Bx cpos (Ah [e,f] X.aa)).all (λx=>!x.1)&&(Ju cpos (Jy [] X.aa)).all (λx=>x.1.isSome)&&Af (([e,f]:List BE).length+([]:List Fv).length+(if([]:List Fv).isEmpty then 0 else 1)<30))=AD
 vp:(apos.endLine==cpos.line)=AD
 rq:Bx cpos (Ah [e,f] X.aa)=[(AH,Ar e X.aa),(AH,Ar f X.aa)]
def V7(H:AR)(a:AI):Prop:=(∃kvs,EY H a (.dK kvs))\/∃kvs,EY H a (.dT kvs)
def cP{s:AX}(I:Ae X pins σ H s)(d:V7 H a):s.TypeIs (.ref a) "dict"/\(∀b,FD a=.ref b->∃D,s.heap.get? b=AA D/\D.dict=AB)/\(a==K4)=AH:=by
 rcases d with⟨kvs,e⟩|⟨kvs,e⟩
 . obtain⟨_,J,vs,_,dd⟩:=PM I.ay e;refine⟨dd.typeIs,λb q=>?_,J⟩;cases q;obtain⟨D,_,_,h1,h2,_⟩:=dd;exact⟨D,h1,h2.2.1⟩
 . obtain⟨_,J,xs,_,dd⟩:=PN I.ay e;refine⟨dd.typeIs,λb q=>?_,J⟩;cases q;obtain⟨D,_,_,h1,h2,_⟩:=dd;exact⟨D,h1,h2.2.1⟩
def ABW{X:BY}{o:Option AQ}{A:Ci}(B:A.units+1<Gk)(I:Ae X pins σ H s)(g:Nf H a y o)(Z:BQ y u)(V:BQ d r)(h:∀W s',Ae X pins σ H s'->BQ (o.getD d) W->Q W s'):Al (Aj X.af X.w) A (JL (.builtin "dict.get") [.ref a,u,r]) Q E s:=by
 rcases g with⟨kvs,k,e,J,l⟩|⟨kvs,k,b,e,J,Y,l⟩
 . subst J;obtain⟨z,U,vs,D,dd⟩:=PM I.ay e;refine AFw AFX dd.typeIs AKK (by rfl) (meets_dict_get_default (Dg X.af X.w) a (Nm Z) U r) ⟨_,dd.mapOf,h _ _ (I.jd _) ?_⟩;rw[l];exact(D.rf k).vj V
 . subst J;cases∎;obtain⟨z,U,xs,D,dd⟩:=PN I.ay e;refine AFw AFX dd.typeIs AKK (by rfl) (meetsH_dict_get_default (S9 (Dg X.af X.w)) a b U r) ⟨∎,k,xs,R8 I.ay Y,dd,h _ _ (I.jd _) ?_⟩;rw[l];exact(D.rf k).vj V
def AD6(td ty tx:A6):A6:=λσ H Q=>td σ H λx H1=>∃a,x=.ref a/\V7 H1 a/\ty σ H1 λy H2=>tx σ H2 λz D=>∃o,Nf D a y o/\Q (o.getD z) D
def AC4{X:BY}(C:X.A.units+1<Gk)(B:AV X o td)(Z:AV X e ty)(A:AV X f tx)(m:Rv X o "get" apos e f cpos):AV X (.Call (.Attribute o "get" apos) [e,f] [] cpos) (AD6 td ty tx):=by intro pins s σ H Q I h;refine ALW m.ai m.yb m.vp AKS AFX F.type_dict_get (A2 (B _ s σ H _ I h) λu s1⟨x,H1,J,K,a,ex,d,E⟩=>?_);subst ex;obtain rfl:u=FD a:=K;obtain⟨t1,t2,_⟩:=cP J d;refine⟨t1,t2,?_⟩;rw[m.rq];refine AFS rfl (gX (Lw (A2 (Z _ s1 σ H1 _ J E) λO s2⟨y,H2,V,L,F⟩=>Lw (A2 (A _ s2 σ H2 _ V F) λN s3⟨z,U,W,M,P,g,G⟩=>N0 ?_))));exact ABW C W g L M λR s4 Y D=>⟨_,U,Y,D,G⟩
def vZ:∀(ns:List Int)(vs:List AJ),W.WellAll P h vs (ns.map AK3)->Sk vs ns:=by intro ns;induction ns with|nil=>intro vs w;cases w;exact .nil|cons n ns D=>intro vs w;cases w with|cons a b=>cases a;exact .cons _ _ (D _ b)
def wB{l:Sv}(hn:l.most=AA n){h:Au}(J:l.row.toRowW.claim.pre D=AD)(Z:W.WellAll P h U D):∃a vs ns,U=[FD a]/\D=[W.WData.list (ns.map AK3)]/\h.get? a=AA {cls:=.type "list",data:=.seq vs.toArray}/\Sk vs ns/\ns.length<=n:=by
 have Y:=(W.pre_splitW J).1;have C:l.pre.holds [] _=AD:=(W.pre_splitW J).2;obtain⟨d,r,rfl,h1,h2⟩:=W.hasAllW_cons Y;obtain rfl:=W.hasAllW_nil h2;obtain⟨xs,rfl,B⟩:=W.hasW_list h1;obtain⟨ns,rfl⟩:=W.items_int B;have W:ns.length<=n:=by
  have A:(W.WTm.not (.lt (.lit (.int (n))) (.len (.arg 0)))).holds [] {args:=[.list (ns.map .int)]}=AD:=by have A:=(W.holds_andW C).1;∎
  have H:=W.condW_of A (by rfl);∎
 cases Z with|cons F G=>cases G;cases F with|list E V=>exact⟨_,_,ns,rfl,rfl,E,vZ ns _ V,W⟩
def wA(l:Sv)(D:List W.WData):l.row.toRowW.claim.post D (.bool AD) D=AD:=W.postW_of (by rfl) (show(W.WTm.eq _ _).value [] _=AA _ from W.w_eq_bool (W.w_res rfl) W.w_lit) rfl
def vY{l:Sv}{d:DefRec}(hn:l.most=AA n)(hdf:d.params.defaults=[])(call:∀(w:Ba)(s₀ s₁:AX)(mg mb:AG->Option AJ)(fa:AI)(o:BF)(pm cd doc:AJ)(a:AI)(vs:List AJ)(ns:List Int),W.Ground q loose [] XP w s₀ mg mb s₁.heap->YP w s₁.heap->s₁.heap.get? fa=AA o->o.data=.func (Calls.docDef d.name d.params d.body d.scope pm cd doc)->s₁.heap.CodeRec cd d.name->mg d.name=AA (.ref fa)->s₁.heap.get? a=AA {cls:=.type "list",data:=.seq vs.toArray}->Sk vs ns->ns.length<=n->s₁.gens=#[]->Jx (Aj l.prog w) N4 (.call (.ref fa) ⟨[.ref a],[]⟩) (λr s'=>r=.ok (.ret (.bool AD))/\OldK s₁.heap s'.heap/\s'.os=s₁.os/\Ls s'.gens) s₁):AFk q loose XP YP l.row.toRowW d [] (λf vs=>JL f vs):=by intro w s₀ s₁ mg mb G Y fa o pm cd doc dV kV ho hd hcd hD hmg hg args vals as hpre hlay hrd hwl hlo;obtain rfl:dV=.none:=W.Dflts.none hD hdf;obtain rfl:kV=.none:=W.Dflts.noKw hD;obtain⟨a,vs,ns,rfl,rfl,hobj,hints,hlen⟩:=wB hn hpre hwl;refine W.enter_call (L3 (call w _ _ mg mb fa o pm cd _ a vs ns G Y ho (W.fd_plain hd) hcd hmg hobj hints hlen hg) λr s' hq=>?_);obtain⟨rfl,h2,h3,h4⟩:=hq;exact⟨.inl ⟨_,_,[],rfl,λ_=>rfl,.bool _,wA l _,(by grind)⟩,h2,h3,h4⟩
def fT:∀{vs:List AJ}{ns:List Int},Sk vs ns->BR (ns.map AQ.int) vs|_,_,.nil=>.nil|_,_,.cons n t h=>.cons ⟨t,rfl⟩ (fT h)
def PF(H:AR):Prop:=∀b,H b=AB\/∃o xs,H b=AA (.frz o (.lst xs))
def ACI{K:Ap}{x:AG}{D:AX}{vs:List AJ}{ns:List Int}(O:K.In D.heap)(E:D.heap.Ns C3 mg)(B:D.heap.Ns AFv T)(g:∀x:AG,x≠"__name__"->T x=L1 x)(C:D.heap.NoLimit)(i:D.gens=#[])(M:D.heap.get? a=AA {cls:=.type "list",data:=.seq vs.toArray})(hi:Sk vs ns)(hl:ns.length<=AY)(j:CP k N4)(F:∀base:Au,K.In base->base.Ns C3 mg->Dr P w K mg base CX k fa fd [x] sp)(W:∀(s:AX)(u:AJ),So s fd ⟨[u],[]⟩ [(x,u)])(N:∀H:AR,PF H->Bq K H a (ns.map AQ.int)->sp [.ref a] H (λv _=>v=.bl AD) λ_ _ _=>False)(L:∀H e s',CX [] H D (λ_ _ _=>False) e s'->False):Jx (Aj P w) N4 (.call (.ref fa) ⟨[.ref a],[]⟩) (λr s'=>r=.ok (.ret (.bool AD))/\OldK D.heap s'.heap/\s'.os=D.os/\Ls s'.gens) D:=by
  have t:=fT hi;have S:=hi.length;have U:∀H:AR,PF H->Bq K H a (ns.map AQ.int)->DB P w H D.heap->(∀b,H b≠AB->b=a)->(H a≠AB->K.lookup a=AB)->Jx (Aj P w) N4 (.call (.ref fa) ⟨[.ref a],[]⟩) (λr s'=>r=.ok (.ret (.bool AD))/\OldK D.heap s'.heap/\s'.os=D.os/\Ls s'.gens) D:=by intro H Q f G hA hK;have J:∀{b:AI}{o:BF},D.heap.get? b=AA o->H b=AB->(Lf D.heap H).get? b=AA o:=λe n=>ABo e n;have Y:∀{b:AI}{m:AG->Option AJ},D.heap.Ns b m->(Lf D.heap H).Ns b m:=λ{b m}⟨o,es,ep,e,d,r⟩=>⟨o,es,ep,∎,d,r⟩;have A:=λb o e=>J (O b o e) (by∎);have c:Ry K mg (Lf D.heap H):=⟨A,Y E,∎,let⟨l,h1,h2⟩:=C;⟨l,Y h1,h2⟩⟩;have e0:Ng P w K mg (Lf D.heap H) N4 [] D H:=⟨rfl,c,λb o e=>ACb e,Ig (ABp _ _),trivial,λb B=>absurd (show b∈([]:List AI)from B) (by simp),G,.of_eq i⟩;refine L3 ((F _ A (Y E)).qx N4 [] D H ⟨[.ref a],[]⟩ [.ref a] [.ref a] _ _ j e0 (W D (.ref a)) (.cons rfl .nil) (N H Q f)) λr s' h=>?_;cases r with|error e=>exact(L H e s' h).elim|ok fl=>cases fl with |next=>exact KI h|brk=>exact KI h|cont=>exact KI h|ret u=> obtain⟨v,H',os,Z,X,I,r',q⟩:=h;have q':v=.bl AD:=q;subst q';obtain rfl:u=iB AD:=r';refine⟨rfl,OldK.of_keep λb o e=>?_,os,Z⟩;cases q:H b with |none=>exact X.aw b o e q (by intro z;exact absurd (show b∈([]:List AI)from z) (by simp)) (by simp)|some u=>
          rcases Q b with z|⟨p,xs,z⟩;.∎
          . have z2:=X.iq b p _ z;obtain⟨e1,_⟩:=G b _ z;obtain⟨e2,_⟩:=I b _ z2;∎
  cases R:K.lookup a with |some o=> have e:=O a o R;rw[M]at e;cases e;refine U (λ_=>AB) (λ_=>.inl rfl) (.inr (by simp_all)) (λb u z=>∎) ∎ ∎|none=>
    refine U (λb=>if b=a then AA (.frz {cls:=.type "list",data:=.seq vs.toArray} (.lst (ns.map AQ.int)))else AB) (λb=>?_) (.inl (.inr ∎)) (λb u z=>?_) (λb z=>?_) λ_=>R;.∎
    . by_cases B:b=a
      . have y:=(AMu B).symm.trans z;cases y;subst B;exact⟨M,∎,vs,_,t,M⟩
      ∎
    ∎
def AEj{l:Sv}{n k:Nat}{q:CB}{J:List AG}{I:(AG->Option AJ)->Au->Prop}{B:Ba->Au->Prop}{d:DefRec}{K:g7->Ap}{CX:Ba->Hu}{sp:Ba->Ex}{x:AG}(hn:l.most=AA n)(S:n<=AY)(W:d.params.defaults=[])(T:CP k N4)(O:∀(w:Ba)(h:Au),B w h->(K w.params).In h)(F:∀(w:Ba)(mg:AG->Option AJ)(fa:AI)(h:Au),(K w.params).In h->h.Ns C3 mg->mg d.name=AA (.ref fa)->∃fd:DU,(∀(s:AX)(u:AJ),So s fd ⟨[u],[]⟩ [(x,u)])/\∀base:Au,(K w.params).In base->base.Ns C3 mg->Dr l.prog w (K w.params) mg base (CX w) k fa fd [x] (sp w))(X:∀(w:Ba)(H:AR)(a:AI)(ns:List Int),ns.length<=n->PF H->Bq (K w.params) H a (ns.map AQ.int)->sp w [.ref a] H (λv _=>v=.bl AD) λ_ _ _=>False)(M:∀(w:Ba)(H:AR)(s:AX)(e:AJ)(s':AX),CX w [] H s (λ_ _ _=>False) e s'->False):AFk q J I B l.row.toRowW d [] (λf vs=>JL f vs):=by refine vY hn W λw s₀ E mg g fa o i cd L a vs ns G Y c b Q Z U D C R=>?_;have A:=O w _ Y;obtain⟨fd,P,N⟩:=F w mg fa _ A G.T.g Z;exact ACI A G.T.g G.T.b G.T.builtins G.T.nolimit R U D (by grind) T N P (by grind) (by grind)
def AEk{l:Sv}{n k:Nat}{q:CB}{D:List AG}{Y:(AG->Option AJ)->Au->Prop}{W:Ba->Au->Prop}{d:DefRec}{K:g7->Ap}{CX:Hu}{sp:Ap->Ex}{x:AG}(hn:l.most=AA n)(U:n<=AY)(J:d.params.defaults=[])(B:CP k N4)(A:∀(w:Ba)(h:Au),W w h->(K w.params).In h)(F:∀(w:Ba)(mg:AG->Option AJ)(fa:AI)(h:Au),(K w.params).In h->h.Ns C3 mg->mg d.name=AA (.ref fa)->∃fd:DU,(∀(s:AX)(u:AJ),So s fd ⟨[u],[]⟩ [(x,u)])/\∀base:Au,(K w.params).In base->base.Ns C3 mg->Dr l.prog w (K w.params) mg base CX k fa fd [x] (sp (K w.params)))(C:∀(K:Ap)(H:AR)(a:AI)(ns:List Int),ns.length<=n->PF H->Bq K H a (ns.map AQ.int)->sp K [.ref a] H (λv _=>v=.bl AD) λ_ _ _=>False)(Z:∀(H:AR)(s:AX)(e:AJ)(s':AX),CX [] H s (λ_ _ _=>False) e s'->False):AFk q D Y W l.row.toRowW d [] (λf vs=>JL f vs):=AEj hn U J B A F (by grind) (by grind)
def cO(s:DE)(j:Nat):DE:=match s with|.ClassDef _ _ _ D _ _ _ _ _ _ _=>D.getD j (.Pass ⟨0,0,0,0⟩)|_=>.Pass ⟨0,0,0,0⟩
def R4(s:DE):Arguments:=match s with|.FunctionDef _ a _ _ _ _ _ _ _ _=>a|_=>{posonlyargs:=[],args:=[],vararg:=AB,kwonlyargs:=[],kw_defaults:=[],kwarg:=AB,defaults:=[]}
def Lc(s:DE):List DE:=match s with|.FunctionDef _ _ b _ _ _ _ _ _ _=>b|_=>[]
def Bz(s:DE):ED:=match s with|.FunctionDef _ _ _ _ _ _ D _ _ _=>D|_=>{kind:=.function,names:=[],isGenerator:=AH,isCoroutine:=AH}
abbrev G4:Hu:=λ_ _ _ _ _ _=>False
abbrev bF:FU:=λ_ _ _=>False
def Wg:MV G4 X bF:=λ_ _ _ _ _ _ _ h=>h.elim
structure Ew(K:Ap)(x qual:AG)(st:DE)(f:AI)(fd:DU):Prop where
 ex:∃(oc:AJ)(od:Option AI)(kV doc pm:AJ)(an:Option AI)(cdv ct:AJ)(osl:Array (Option AJ)),fd=Sw x qual (R4 st) (Lc st) (Bz st) .none kV doc pm an cdv ct/\K.lookup f=AA ⟨oc,od,.func fd,osl⟩/\AFl K cdv qual=AD
 kp:N2 K (.ref f)=AD
def Ew.ok{K:Ap}{st:DE}{ps:List AG}(F:Ew K x qual st f fd)(S:HP N ps (Bz st))(Y:∀vs H Q E,sp vs H Q E->vs.length=ps.length)(J:∀(D:AJ)(A:Ci)(outer:List DT)(s:AX)(H:AR)(vs:List AQ)(Q:BZ)(E:FU),CP k (A.deeper (Fu qual (Bz st) s.heap.objs.size f D))->sp vs H Q E->∃t,DS (EZ G4 P w K mg base N qual (Bz st) f D A outer s H E).uf (Lc st) t/\t {nx:=λ_ H'=>Q .non H',rt:=Q} (Lm N vs) H):Dr P w K mg base G4 (k+1) f fd ps sp:=by obtain⟨O,R,M,Z,T,I,D,L,G,rfl,C,U⟩:=F.ex;refine cH C U S Y λA outer s H vs Q E B W=>?_;obtain⟨t,h,q⟩:=J _ A _ s H vs Q E B W;exact⟨t,h.uf,q⟩
def Ew.ip{K:Ap}{st:DE}{ps:List AG}(F:Ew K x qual st f fd)(h:∀(Y J Z:AJ)(V:Option AI)(D W:AJ)(U:List AJ),U.length=ps.length->bindArgs (Sw x qual (R4 st) (Lc st) (Bz st) .none Y J Z V D W) ⟨U,[]⟩=BC (ps.zip U)):Fm K fd ps []:=by obtain⟨E,G,Y,J,Z,V,D,W,B,rfl,C,A⟩:=F.ex;exact .xa ∎
def cL{K:Ap}{st:DE}(l:K.lookup f=AA ⟨A,B,.func (Sw x qual (R4 st) (Lc st) (Bz st) .none Y J Z V D W),U⟩)(c:AFl K D qual=AD)(k:N2 K (.ref f)=AD):Ew K x qual st f (Sw x qual (R4 st) (Lc st) (Bz st) .none Y J Z V D W):=⟨∎,k⟩
def GJ{X:BY}(i:Nat){x:AG}(J:X.N[i]?=AA x:=by rfl)(V:Ia X.aa.scope x:=by first|exact Or.inl rfl|exact Or.inr (Or.inl rfl)|exact Or.inr (Or.inr rfl))(U:(x==("__debug__":AG))=AH:=by decide)(D:(x==("__classdict__":AG))=AH:=by decide):AV X (.Name x pos) (fO i):=d8 J V U D
def ABv(h:B):if AH=AD then A else B:=by∎
def ABw(h:A):if AD=AD then A else B:=by∎
def As(H H':AR):Prop:=∀b o,H b=AA o->H' b=AA o
def CQ(H:AR):As H H:=λ_ _ h=>h
def As.ae(a:As H H1)(b:As H1 H2):As H H2:=λc o h=>b c o (a c o h)
def As.bh(e:As H H')(h:H' l=AB):H l=AB:=by cases q:H l with|none=>rfl|some o=>rw[e l o q]at h;cases h
def DB.qc(x:DB P w H h)(hn:H a=AB)(J:Dt P w (Ax H a o) h a o):DB P w (Ax H a o) h:=by
  intro b u e;by_cases D:b=a
  . subst D;rw[Dh]at e;∎
  . rw[Bs D]at e;refine(x b u e).ku ∎ (λc q=>?_) λc xs q=>?_;.rw[Bs ∎];exact q
    .rw[Bs ∎];exact q
def Kf(env:DT)(cs:List (AG×AI))(x:AG×Lz):List (AG×AI):=if x.2=.free then(x.1,(env.cells.lookup x.1).getD 0)::cs else cs
def Nk(env:DT)(D:List (AG×Lz)):List (AG×AI):=D.foldl (Kf env) []
def cJ{α β:Type}{f:α->β->Cr (ForInStep β)}{g:β->α->β}:∀(l:List α)(D:β),(∀x∈l,∀c,f x c=BC (.yield (g c x)))->Hk l D f=BC (l.foldl g D)|[],D,_=>rfl|x::l,D,h=>by rw[List.forIn_cons,h x B7 _];show Hk l _ f=_;rw[cJ l _ λy J=>h y (by grind)];rfl
def ABS{scope:ED}{env:DT}(h:∀y∈scope.names,y.2=.free->∃c,env.cells.lookup y.1=AA c):AFy scope env=BC (Nk env scope.names):=by
  simp only[AFy];rw[cJ (g:=Kf env) _ [] λx Y c=>by
    obtain⟨n,D⟩:=x;by_cases U:D=.free
    . subst U;obtain⟨a,V⟩:=h _ Y rfl;have J:=V;simp only[beq_self_eq_true,AM2,Kf,cellOf,J,Option.getD_some];rfl
    . have W:(D==Mj)=AH:=by∎
      simp only[W,Q3,AM5,Kf,U]];rfl
def bZ{env:DT}:∀(D:List (AG×Lz))(J:List (AG×AI)),(D.foldl (Kf env) J).lookup y=AA c->J.lookup y=AA c\/((y,Mj)∈D/\(env.cells.lookup y).getD 0=c)
 |[],J,h=>.inl h|(n,k)::r,J,h=>by
  rcases bZ r _ h with q|⟨q,z⟩
  . unfold Kf at q;∎
  ∎
def WM:∀(D:List (AG×Lz))(J:List (AG×AI)),((y,Mj)∈D\/∃c,J.lookup y=AA c)->∃c,(D.foldl (Kf env) J).lookup y=AA c
  |[],J,h=>by∎|(n,k)::r,J,h=>by
    refine WM r _ ?_;by_cases U:(y,Mj)∈r;.∎
    . refine .inr ?_;rcases h with h|⟨c,h⟩
      . rcases Bw.mp h with e|e;. cases e;exact⟨_,by unfold Kf;rw[AMu rfl,List.lookup_cons_self]⟩
        ∎
      . unfold Kf;∎
def ABU(I:Nat->AX->Prop)(turn:∀n s,I n s->Al (Aj prog w) A (P6 it) (λr J=>match r with|AB=>R (.ok .next) J|AA v=>Al (Aj prog w) A (AF3 D it v) (λ_ U=>Al (Aj prog w) A (XZ D env v) (λ_ Z=>Al (Aj prog w) A (Hk ifs AD λc r=>if r=AD then do let L<-P2 c env (Ar c env);BC (Us L)else BC (Us r)) (λL V=>if L=AD then Al (Aj prog w) A (Ar elt env) (λx B=>Al (Aj prog w) A (JL (.builtin "list.append") [F,x]) (λ_ C=>∃m,m<n/\I m C) (λ_ _=>False) B) (λ_ _=>False) V else∃m,m<n/\I m V) (λ_ _=>False) Z) (λ_ _=>False) U) (λ_ _=>False) J) (λ_ _=>False) s)(n:Nat)(h:I n s):Jx (Aj prog w) A (.compLoop (.ListComp elt [⟨D,iter,ifs,0⟩] scope pos) 0 it F env) R s:=by refine codeAny_loop rfl I (λn s M=>?_) n h;refine wpAny_noted ?_;refine Aa (AGF (Aa (Ez (turn n s M) (λr J W=>?_) λ_ _ h'=>h'.elim)));cases r with|none=>exact Av W|some v=>refine Aa (Ez W (λ_ U E=>?_) ∎);refine Aa (Ez E (λ_ Z G=>Aa (Ez G (λL V Y=>?_) ∎)) ∎);cases L with|false=>exact Av ⟨rfl,Y⟩|true=>exact Aa (Aa (Ez Y (λx B H=>Aa (Ez H (λ_ C K=>Av (Av ⟨rfl,K⟩)) ∎)) ∎))
def Je(X:BY)(ifs:List BE)(t:Dk):Prop:=∀(pins:List (AI×BF))(s:AX)(σ:Az)(H:AR)(Q:Bool->AR->Prop),Ae X pins σ H s->t σ H Q->Al (Aj X.af X.w) X.A (Hk ifs AD λc r=>if r=AD then do let D<-P2 c X.aa (Ar c X.aa);BC (Us D)else BC (Us r)) (WH X pins σ Q) X.xe s
def W3:Dk:=λ_ H Q=>Q AD H
def eK:Je X [] W3:=λpins s σ H Q I h=>wpAny_tests_nil ⟨H,I,h⟩
def ADe(h:Cq X c t):Je X [c] t:=λpins s σ H Q I hw=>wpAny_tests_one (h _ s σ H Q I hw)
def Ct(X:BY)(scope:ED)(N:List AG)(C:AI)(s:AX)(H:AR)(ex:List AI):BY:={X with N:=N,s₀:=s,H₀:=H,aa:=compEnvC scope (Nk X.aa scope.names) C X.aa,ff:=X.au,au:=X.au,ex:=ex,fn:=λ_=>AH,pn:=[],xe:=λ_ _=>False}
def Ki(σ:Az)(j:Nat):Option AQ:=(σ[j]?).getD AB
def AA3(B:Nat)(A:List Nat)(g:GH)(C:Dk)(te:A6)(σ:Az)(Q:BZ)(J:G5)(H1:AR):Prop:=∃W:Nat->Nat->Az->List AQ->AR->Prop,(∃m,W 0 m (GL B AB++A.map (Ki σ)) [] H1)/\∀i m τ U H,W i m τ U H->(J.oh i H/\∀D,H D=AB->Q (.ref D) (Ax H D (.lst U)))\/(J.go i H/\U.length<AY/\∀x H',J.uz i H x H'->g x τ H' λτ1 H1=>C τ1 H1 λb H2=>if b=AD then te τ1 H2 λy Z=>∃Y,Y<m/\W (i+1) Y τ1 (U++[y]) Z else∃Y,Y<m/\W (i+1) Y τ1 U H2)
def Nt(J:Nat)(D:List Nat)(V:G7)(g:GH)(U:Dk)(te:A6):A6:=λσ H Q=>V σ H (AA3 J D g U te σ Q)
def fF{env:DT}:∀{D:List (AG×Lz)}{y:AG},(∀z∈D,z.2≠.cell)->((D.map λ(n,k)=>if(k==Mj&&env.scope.kind==.function&&env.kindOf n==AA .cell)then(n,gY)else(n,k)).lookup y=AA .cell\/(D.map λ(n,k)=>if(k==Mj&&env.scope.kind==.function&&env.kindOf n==AA .cell)then(n,gY)else(n,k)).lookup y=AA .free)->(y,Mj)∈D|[],y,_,h=>by∎|(n,k)::r,y,J,h=>by have U:=@fF env r y ∎;∎
def dE{env:DT}:∀{D:List (AG×Lz)}{y:AG},D.lookup y=AA .free->(D.map λ(n,k)=>if(k==Mj&&env.scope.kind==.function&&env.kindOf n==AA .cell)then(n,gY)else(n,k)).lookup y=AA .cell\/(D.map λ(n,k)=>if(k==Mj&&env.scope.kind==.function&&env.kindOf n==AA .cell)then(n,gY)else(n,k)).lookup y=AA .free|[],y,h=>by∎|(n,k)::r,y,h=>by have J:=@dE env r y;∎
def KZ(X:BY)(scope:ED):List (AG×Nat)->Prop|[]=>True|p::r=>X.N[p.2]?=AA p.1/\scope.names.lookup p.1=AA .free/\KZ X scope r
def KZ.xa{X:BY}{scope:ED}:∀{D:List (AG×Nat)},KZ X scope D->∀p∈D,X.N[p.2]?=AA p.1/\scope.names.lookup p.1=AA .free
 |p::r,h,q,J=>by
  rcases Bw.mp J with e|e;.subst e;exact⟨h.1,h.2.1⟩
  .exact KZ.xa h.2.2 q e
def b0{X:BY}{scope:ED}{own:List AG}{L:List (AG×Nat)}(hc:X.bc=AD)(hi:EX X tg iter wi)(hk:scope.kind=.function)(t:∀y∈scope.names,y.2≠.cell)(hnames:∀y∈scope.names,y.2=.local->scope.names.lookup y.1=AA .local)(O:∀y∈scope.names,y.2=.free->X.aa.kindOf y.1=AA .cell\/X.aa.kindOf y.1=AA .free)(hfr:KZ X scope L)(hg:∀C s H ex,FT (Ct X scope (own++L.map (·.1)) C s H ex) tg g)(ht:∀C s H ex,Je (Ct X scope (own++L.map (·.1)) C s H ex) ifs tt)(he:∀C s H ex,AV (Ct X scope (own++L.map (·.1)) C s H ex) elt te)(hs:∀x,L4 iter X.aa x=BC x)(I:Ae X pins σ H s)(h:Nt own.length (L.map (·.2)) wi g tt te σ H Q)(fin:∀(D C:AI)m(s4:AX)(H5:AR)v,Ae X pins σ H5 s4->s4.heap.Ns C m->H5 C=AB->C≠X.aa.locals->X.s₀.heap.objs.size<=C->(∀x c,X.aa.cells.lookup x=AA c->c≠C)->(∀p∈X.pn++pins,p.1≠C)->Q (.ref D) H5->compPost (Aj X.af X.w) X.A X.xe use PQ (.ref D) C (.ok v) s4):Al (Aj X.af X.w) X.A (comprehension (.ListComp elt [⟨tg,iter,ifs,0⟩] scope pos) scope X.aa p0 (newList []) AH (Ar iter X.aa) use) PQ X.xe s:=by
  have N:∀y c,(Nk X.aa scope.names).lookup y=AA c->X.aa.cells.lookup y=AA c:=λy c e=>by
    rcases bZ scope.names [] e with q|⟨q,z⟩;.simp at q
    . obtain⟨c',e'⟩:=I.ok.tj y (O _ q rfl);rw[e']at z;rw[e',<-z];rfl
  have hclos:AFy scope X.aa=BC (Nk X.aa scope.names):=ABS λy hy e=>I.ok.tj y.1 (O y hy e);refine wpAny_comprehension_free (use:=use) (cl:=Nk X.aa scope.names) (Q:=PQ) rfl hs hclos hk hnames ?_;refine A2 (hi pins s σ H _ I h) λv s1 h1=>A2 h1 λitv s2 h2=>?_;obtain⟨it,fp,tn,J,H2,e,Y,T,st2,f2,W,⟨m0,w0⟩,turn⟩:=h2;subst e;refine Mn (wpAny_newFunctionEnv t (by intro y hy;simp at hy) (λh₁ B Z=>?_) hk);dsimp only at B Z⊢;generalize hH2:s2.heap.push _=HL at B Z⊢;have hC:HL.objs.size=s2.heap.objs.size+1:=by rw[<-hH2,JJ]
  generalize hCC:HL.objs.size=C at B Z hC⊢;have j:s2.heap.objs.size≠C:=by rw[hC];exact DL (Ny _)
  have E:∀b,b<s2.heap.objs.size->b≠C/\b≠s2.heap.objs.size:=λb U=>⟨by rw[hC];exact DL (Pq U),DL U⟩;have d:=λb o e=>Z.extBut b o (E b (Bt e)).1 (Bn _ (hH2▸Bn _ e));have eD0:=Z.extBut _ _ j (Bn _ (hH2▸EB _ rfl));have R:∀b∈fp,b<s2.heap.objs.size:=λb U=>by obtain⟨o,e,_⟩:=T.kj _ _ st2 b U;exact Bt e
  generalize hD:s2.heap.objs.size=D at j E eD0 R hC;have hDfp:D∉fp:=λz=>HB _ (R D z);have okY:(Ct X scope (own++L.map (·.1)) C s2 H2 fp).Ok:=by
    refine⟨Y.ok.dh,hk,Y.ok.ir,Y.ok.rh,by show s2.heap.objs.size<=C;∎,λx y c e1 e2=>Y.ok.jb x y c (N x c e1) (N y c e2),λy hy=>?_,λx c z _=>(by cases z),Y.ok.hd,Y.ok.cq,.inl rfl,λb U=>⟨(E b (R b U)).1,λy c e=>?_⟩,Y.bs,Cj Y.ok.ot Y.sz,λb o e U=>?_,λb U z=>?_,Y.au,Y.jq⟩;.exact WM scope.names [] (.inl (fF (env:=X.aa) t hy))
    .exact(f2 b U).2.2.2.2.1 y c (N y c e)
    . rcases(f2 b U).2.2.2.1 with z|z;.exact Y.ok.lp b o e z
      .exact absurd (Eb (Bt e) (Cj Y.ok.ot z)) (HB _)
    . rcases Bw.mp (Y.jr b z)with q|q;.exact(f2 b U).2.1 q
      .exact(f2 b U).2.2.1 q
  have P:∀y c,X.aa.cells.lookup y=AA c->c<D:=λy c e=>by obtain⟨v,z⟩:=Y.gn y c e;exact Eb z.lt (Ig hD)
  have stkLt:∀b∈DC X.au,b<D:=λb U=>by
    rcases Bw.mp (Y.jr b U)with q|q;.rw[q];exact Eb Y.lt (Ig hD)
    . obtain⟨_,o,ho,_⟩:=Y.ok.gq.mem q;exact Eb (Bt ho) (Cj Y.sz (Ig hD))
  have M:∀a,D<=a->H2 a=AB:=λa ha=>Y.ay.ao (Cj (Ig hD) ha);have IY:Ae (Ct X scope (own++L.map (·.1)) C s2 H2 fp) [] (GL own.length AB++(L.map (·.2)).map (Ki σ)) H2 {s2 with heap:=h₁,toks:=s2.toks+([]:List (AG×AJ)).length}:=by
    refine⟨okY,rfl,Y.dy,R0 d,⟨_,B,λi y v e1 e2 e3=>?_⟩,λy c e=>?_,M C ∎,λy c e=>Y.dc y c (N y c e),λp K=>absurd (show p∈([]:List (AI×BF))from K) (by simp),Y.ay.cp d,?_⟩
    . have e1:(own++L.map (·.1))[i]?=AA y:=e1;have hi':own.length<=i:=by
        by_cases hlt:i<own.length
        . rw[AEr (by simpa using hlt),List.getElem?_replicate,AMu hlt]at e2;cases e2
        .∎
      rw[SW hi',Ca]at e1;rw[SW (by simpa using hi'),Ca,Ca,List.length_replicate]at e2;cases K:L[i-own.length]? with |none=>rw[K]at e1;cases e1|some p=>
        rw[K]at e1 e2;have ey:p.1=y:=Kq e1;have ev:Ki σ p.2=AA v:=Kq e2;obtain⟨a1,a3⟩:=hfr.xa p (Jn K);have es:σ[p.2]?=AA (AA v):=by unfold Ki at ev;cases q:σ[p.2]? with|none=>rw[q]at ev;cases ev|some z=>rw[q]at ev;exact AMw AA ev
        have hfk:=O (p.1,.free) (P4 a3) rfl;obtain⟨m,hn,hl⟩:=Y.jx;obtain⟨u,r,l⟩:=hl p.2 p.1 v a1 es (hfk.elim (λz=>.inr (.inl z)) λz=>.inr (.inr z));refine⟨u,r,.inr ?_⟩;rcases l with⟨z,_⟩|⟨_,c,ec,zc⟩;.rcases hfk with q|q<;>rw[z]at q<;>cases q
        . obtain⟨c',ec'⟩:=WM (env:=X.aa) (y:=p.1) scope.names [] (.inl (P4 a3));have:c'=c:=Kq ((N _ _ ec').symm.trans ec);subst this;rw[<-ey];obtain⟨o,ho,hdd⟩:=zc;exact⟨dE (env:=X.aa) a3,c',ec',o,d _ o ho,hdd⟩
    . obtain⟨v,z⟩:=Y.gn y c (N y c e);obtain⟨o,ho,hdd⟩:=z;exact⟨v,o,d _ o ho,hdd⟩
    . show(GL own.length (AB:Option AQ)++(L.map (λp=>p.2)).map (Ki σ)).length=(own++L.map (λp=>p.1)).length;simp
  have fpY:∀{S:AR}{ob:BF},(∀b∈fp,S b=AB)->∀b∈fp,MU (Ct X scope (own++L.map (·.1)) C s2 H2 fp) [(D,ob)] S b:=λ{S ob}hn b U=>⟨hn b U,(E b (R b U)).1,λz=>okY.lh b U z,.inl U,λy c e=>(okY.vi b U).2 y c e,λp K=>by
      have e:p=(D,ob):=by simpa[Ct]using K
      rw[e];show D≠b;exactλz=>hDfp (z▸U)⟩;have noC:∀(xs:Array AJ)(k:Nat)(v:Option AJ),({cls:=.type "list",data:=.seq xs k}:BF).data≠.cell v:=λxs k v z=>by cases z
  have loop:∀s₃:AX,s₃={s2 with heap:=h₁,toks:=s2.toks+([]:List (AG×AJ)).length}->Jx (Aj X.af X.w) X.A (.compLoop (.ListComp elt [⟨tg,iter,ifs,0⟩] scope pos) 0 (.ref it) (.ref D) (compEnvC scope (Nk X.aa scope.names) C X.aa)) (compPost (Aj X.af X.w) X.A X.xe use PQ (.ref D) C) s₃:=by
    rintro s₃ rfl;refine ABU (λn s'=>∃(i:Nat)(τ:Az)(G:List AQ)(H':AR)(A:List AJ)(k:Nat),Ae (Ct X scope (own++L.map (·.1)) C s2 H2 fp) [] τ H' s'/\tn i s'.heap/\(∀b∈fp,H' b=AB)/\H' D=AB/\BR G A/\s'.heap.get? D=AA {cls:=.type "list",data:=.seq A.toArray k}/\G.length<=AY/\W i n τ G H') ?_ m0 ⟨0,_,[],H2,[],0,IY,T.aw _ _ _ st2 λb _ o e=>d b o e,λb U=>(f2 b U).1,M D (Aw _),.nil,eD0,EA _,w0⟩;rintro n s3⟨i,τ,G,S,A,k,I3,st3,fr3,fD,rv,eD,hz,w3⟩;have I3':Ae (Ct X scope (own++L.map (·.1)) C s2 H2 fp) [(D,{cls:=.type "list",data:=.seq A.toArray k})] τ S s3:=I3.gw λp K=>by
      have e:=by simpa using K
      subst e;exact⟨eD,fD,j,λz=>HB _ (stkLt D z),noC _ _⟩
    rcases turn i n τ G S w3 with⟨stop,qn⟩|⟨go,hlt,step⟩
    . refine A2 (T.lg (Ct X scope (own++L.map (·.1)) C s2 H2 fp) rfl rfl rfl hc i _ s3 τ S (λ_ _=>False) I3' (fpY fr3) st3 stop) λr s4⟨hr,I4⟩=>?_;subst hr;obtain⟨m,hn4,_⟩:=I4.jx;obtain⟨eD4,fD4,_⟩:=I4.ie (D,{cls:=.type "list",data:=.seq A.toArray k}) (Dl _ (Cd.mpr rfl));have b4:Gd (DC X.au) fp H2 S s2.heap s4.heap:=I4.ai;have lt2:∀b o,s2.heap.get? b=AA o->b≠C/\b≠D:=λb o e=>E b (Eb (Bt e) (Ig hD));have tr2:∀b o,H2 b=AA o->b≠D:=λb o e z=>by have:=M D (Aw _);rw[z,this]at e;cases e
      have un:Gd (DC X.au) fp H2 (Ax S D (.lst G)) s2.heap s4.heap:=by
        refine⟨λb o e n U hx=>b4.aw b o e n U hx,λb o e n U hx=>?_,λb o e n hx=>?_,λb o e hx=>?_,λb xs e=>?_,λb o u e=>?_,λb ps e=>?_⟩;. obtain⟨sl,q⟩:=b4.iw b o e n U hx;exact⟨sl,q⟩
        .rw[Bs (lt2 b o e).2];exact b4.bh b o e n hx
        . obtain⟨o',q⟩:=b4.cv b o e hx;exact⟨o',q⟩
        .rw[Bs (tr2 _ _ e)];exact b4.ji b xs e
        .rw[Bs (tr2 _ _ e)];exact b4.iq b o u e
        .rw[Bs (tr2 _ _ e)];exact b4.jh b ps e
      have hok':DB X.af X.w (Ax S D (.lst G)) s4.heap:=I4.ay.qc fD4 ⟨hz,A,k,rv,eD4⟩;have IX:Ae X pins σ (Ax S D (.lst G)) s4:=Y.mh (s':=s4) (ch:=fp) I4.os un hok' I4.dy λb U=>⟨(f2 b U).2.2.2.1,(f2 b U).2.1,(f2 b U).2.2.2.2.1,(f2 b U).2.2.2.2.2⟩;have hHC:S C=AB:=I4.bh;have w:∀b:AI,b<D->C≠b:=λb U z=>by rw[<-z,hC]at U;exact HB D (Nat.lt_of_succ_lt U)
      have hCL:C≠X.aa.locals:=w _ (Eb Y.lt (Ig hD));refine fin D C m s4 _ _ IX hn4 (by rw[Bs j.symm];exact hHC) hCL (Cj Y.sz ∎) (λz c e q=>?_) (λp K q=>?_) (qn D fD4);.exact w _ (P z c e) q.symm
      .exact w _ (Eb (Bt (Y.ie p K).1) (Ig hD)) q.symm
    . refine A2 (T.lj (Ct X scope (own++L.map (·.1)) C s2 H2 fp) rfl rfl rfl hc i _ s3 τ S (λ_ _=>False) I3' (fpY fr3) st3 go) λr s4⟨u,hr,h4⟩=>?_;subst hr;refine A2 h4 λ_ s5⟨x,H5,I5,r5,y5,st5,fr5⟩=>?_;have I5':=I5.pq (fpY fr5) (T.kj _ _ st5);refine A2 (hg _ _ _ _ _ s5 τ H5 x u _ I5' r5 (step x H5 y5)) λ_ s6⟨τ6,H6,I6,q6⟩=>?_;refine A2 (ht _ _ _ _ _ s6 τ6 H6 _ I6 q6) λb s7⟨H7,I7,q7⟩=>?_;have f:∀{s8:AX}{H8:AR}{τ8:Az},Ae (Ct X scope (own++L.map (·.1)) C s2 H2 fp) ([(D,{cls:=.type "list",data:=.seq A.toArray k})]++SJ fp s5.heap) τ8 H8 s8->tn (i+1) s8.heap/\(∀b∈fp,H8 b=AB)/\H8 D=AB/\s8.heap.get? D=AA {cls:=.type "list",data:=.seq A.toArray k}:=λ{s8 H8 τ8}I8=>by
        have K:∀b∈fp,∀o,s5.heap.get? b=AA o->s8.heap.get? b=AA o/\H8 b=AB:=λb U o e=>by have q:=I8.ie (b,o) (Dl _ (Dl _ (Wc U e)));exact⟨q.1,q.2.1⟩
        have qD:=I8.ie (D,{cls:=.type "list",data:=.seq A.toArray k}) (Dl _ (GK _ (Cd.mpr rfl)));refine⟨T.aw _ _ _ st5 λb U o e=>(K b U o e).1,λb U=>?_,qD.2.1,qD.1⟩;obtain⟨o,e,_⟩:=T.kj _ _ st5 b U;exact(K b U o e).2
      cases b with |false=>obtain⟨m',hm,w7⟩:=q7;obtain⟨z1,z2,z3,z4⟩:=f I7;exact⟨m',hm,i+1,τ6,G,H7,A,k,I7.gw λp K=>absurd K (by simp),z1,z2,z3,rv,z4,hz,w7⟩|true=>
        refine A2 (he _ _ _ _ _ s7 τ6 H7 _ I7 q7) λu8 s8⟨y,H8,I8,r8,m',hm,w8⟩=>?_;obtain⟨z1,z2,z3,z4⟩:=f I8;have hl:=rv.aj;refine iK AFY ⟨_,z4,rfl⟩ AKL (F.args_list_append_2 _ _) (ALN D A.toArray k u8 (by rw[Mf];∎)) ⟨z4,?_⟩;have z5:=AKe z4 (·.push u8);have z6:A.toArray.push u8=(A++[u8]).toArray:=by simp
        rw[z6]at z5;have kk:∀b o,b≠D->s8.heap.get? b=AA o->(s8.heap.update D (L0 (·.push u8))).get? b=AA o:=λb o U e=>(Sq s8.heap (L0 (·.push u8)) (Ko U)).trans e;have I8':Ae (Ct X scope (own++L.map (·.1)) C s2 H2 fp) [] τ6 H8 s8:=I8.gw λp K=>absurd K (by simp);refine⟨m',hm,i+1,τ6,G++[y],H8,A++[u8],_,I8'.cu (it:=D) kk z3 j (.inr (by show s2.heap.objs.size<=D;∎)) (λy c e=>DL (P y c (N y c e))) (λp K=>absurd (show p∈([]:List (AI×BF))from K) (by simp)),?_,z2,z3,rv.cw (.cons r8 .nil),z5,?_,w8⟩;.exact T.aw _ _ _ z1 λb U o e=>kk b o (λz=>hDfp (z▸U)) e
        .rw[Bi,G9];∎
  exact codeAny_compStart_list (loop _ rfl) (T.og X.A 0 _ _ _ (T.aw _ _ _ st2 λb _ o e=>d b o e) (loop _ rfl))
def dX{X:BY}{scope:ED}{own:List AG}{W:List (AG×Nat)}(L:X.bc=AD)(hi:EX X tg iter A)(O:scope.kind=.function)(U:∀y∈scope.names,y.2≠.cell)(J:∀y∈scope.names,y.2=.local->scope.names.lookup y.1=AA .local)(V:∀y∈scope.names,y.2=.free->X.aa.kindOf y.1=AA .cell\/X.aa.kindOf y.1=AA .free)(Y:KZ X scope W)(N:∀C s H ex,FT (Ct X scope (own++W.map (·.1)) C s H ex) tg g)(R:∀C s H ex,Je (Ct X scope (own++W.map (·.1)) C s H ex) ifs Z)(M:∀C s H ex,AV (Ct X scope (own++W.map (·.1)) C s H ex) elt te)(P:∀x,L4 iter X.aa x=BC x:=by intro _;rfl):AV X (.ListComp elt [⟨tg,iter,ifs,0⟩] scope pos) (Nt own.length (W.map (·.2)) A g Z te):=by intro pins s σ H Q I h;exact b0 L hi O U J V Y N R M P I h λD C m s4 T v B hn F G h1 h2 E q=>⟨m,hn,λh' S=>⟨.ref D,_,B.cu (λb o K e=>(S.2 b K).trans e) F G (.inr h1) h2 E,rfl,q⟩⟩
def ADk:AQ->Option Int->Option Int->AR->BZ->Prop:=λx lo hi H Q=>∃z,x=.str z/\z.length<=AY/\Q (.str (HE z lo hi)) H
def dW(p:Kw v o):∃l:Option (Int×Ij),v=partValue l/\l.map (·.1)=o:=by cases p with|none=>exact⟨AB,rfl,rfl⟩|int i t=>exact⟨AA (i,t),rfl,rfl⟩
def ADx:Jf X ADk:=by intro pins s σ H x v V W lo hi sl Q I U D pl J h;obtain⟨z,rfl,hz,q⟩:=h;obtain⟨t,rfl⟩:=U;obtain⟨l,rfl,rfl⟩:=dW pl;obtain⟨u,rfl,rfl⟩:=dW J;exact⟨"str",_,F.slot_str_getitem.lookup,typeIs_str _ _ _,wpAny_getItem_str_slice (l:=l) (u:=u) (st:=AB) D rfl (post_val_or_str ⟨Cj (Txt.slice_le z _ _) hz,λt' k=>⟨.str _,H,I.jd _,⟨_,rfl⟩,q⟩⟩)⟩
def AD2{zs:List AG}:∀{D:List AJ},BR (zs.map AQ.str) D->StrsAre D zs:=by induction zs with|nil=>intro D r;cases r;exact .nil|cons n ns J=>intro D r;cases r with|cons r1 r2=>obtain⟨t,e⟩:=r1;subst e;exact .cons n t (J r2)
def ACX{X:BY}{K:Ap}(J:X.K=K:=by rfl):Rz X "str.join" (λx xs H Q=>∃(D:AG)(p:AI)(zs:List AG),x=.str D/\xs=[.ref p]/\Bq K H p (zs.map AQ.str)/\(zs.map (·.length)).sum+zs.length*D.length<=16777216/\Q (.str (iA D zs)) H):=by subst J;intro pins s σ H x xs v C Q I B Y h;obtain⟨D,p,zs,rfl,rfl,U,hz,q⟩:=h;obtain⟨t,rfl⟩:=B;obtain⟨u,rfl,Z⟩:=Hw Y;cases Z;obtain⟨W,A,pl,_⟩:=I.bz U;exact join_list pl.isList (by simpa using AD2 A) hz λt' k=>⟨.str _,H,I.jd _,⟨_,rfl⟩,q⟩
mutual inductive GG(K:Ap)(H:AR):AQ->HX->Prop where|non:GG K H .non .none|bl(b:Bool):GG K H (.bl b) (.bool b)|int(i:Int):GG K H (.int i) (.int i)|str(x:AG):GG K H (.str x) (.str x)|lst{a:AI}{xs:List AQ}{ds:List HX}:Bq K H a xs->Ja K H xs ds->GG K H (.ref a) (.list ds)|tup{a:AI}{xs:List AQ}{ds:List HX}:CH K H a xs->Ja K H xs ds->GG K H (.ref a) (.tuple ds)inductive Ja(K:Ap)(H:AR):List AQ->List HX->Prop where|nil:Ja K H [] []|cons{x:AQ}{d:HX}{xs:List AQ}{ds:List HX}:GG K H x d->Ja K H xs ds->Ja K H (x::xs) (d::ds)end
section
variable{X:BY}{pins:List (AI×BF)}{σ:Az}{H:AR}{s:AX}
mutual theorem GG.km(I:Ae X pins σ H s):∀{x:AQ}{d:HX}{u:AJ},GG X.K H x d->BQ x u->∃D,Reads s.heap u d D|_,_,_,.non,r=>by cases(by assumption);exact⟨_,.none⟩|_,_,_,.bl b,r=>by cases(by assumption);exact⟨_,.bool b⟩|_,_,_,.int i,r=>by obtain⟨t,rfl⟩:=r;exact⟨_,.int i t⟩|_,_,_,.str x,r=>by obtain⟨t,rfl⟩:=r;exact⟨_,.str x t⟩|_,_,_,.lst J ds,r=>by cases r;obtain⟨U,W,pl,_⟩:=I.bz J;obtain⟨D,q⟩:=V6 I ds W;obtain⟨o,e,c,n,d⟩:=pl.isList;exact⟨_,.list e c d (by simpa using q)⟩|_,_,_,.tup J ds,r=>by cases r;obtain⟨U,W,pl,_⟩:=I.bj J;obtain⟨D,q⟩:=V6 I ds W;obtain⟨o,e,c,n,d⟩:=pl;exact⟨_,.tuple e c d (by simpa using q)⟩theorem V6(I:Ae X pins σ H s):∀{xs:List AQ}{ds:List HX}{Y:List AJ},Ja X.K H xs ds->BR xs Y->∃D,ReadsAll s.heap Y ds D|_,_,_,.nil,r=>by cases r;exact⟨_,.nil⟩|_,_,_,.cons d ds,r=>by cases r with|cons r1 r2=>obtain⟨D,q⟩:=GG.km I d r1;obtain⟨bs,p⟩:=V6 I ds r2;exact⟨_,.cons q p⟩end
end
def eR(K:Ap):Cy:=λx y H Q=>∃d e,GG K H x d/\GG K H y e/\HD d=AD/\HD e=AD/\Q (.bl (Ii d e)) H
def eX(K:Ap):Cy:=λx y H Q=>∃d e,GG K H x d/\GG K H y e/\HD d=AD/\HD e=AD/\Q (.bl (!Ii d e)) H
def ACk{X:BY}{K:Ap}(V:X.A.units+64<Gk)(D:X.K=K:=by rfl):CN X (EI .Eq) (eR K):=by subst D;intro pins s σ H x y v u Q I W Y h;obtain⟨d,e,J,U,Z,A,q⟩:=h;obtain⟨B,r1⟩:=J.km I W;obtain⟨bs,r2⟩:=U.km I Y;exact eq_dataH r1 r2 Z A V ⟨.bl _,H,I,rfl,q⟩
def dQ{X:BY}{K:Ap}(V:X.A.units+64<Gk)(D:X.K=K:=by rfl):CN X (EI .NotEq) (eX K):=by subst D;intro pins s σ H x y v u Q I W Y h;obtain⟨d,e,J,U,Z,A,q⟩:=h;obtain⟨B,r1⟩:=J.km I W;obtain⟨bs,r2⟩:=U.km I Y;exact ne_dataH r1 r2 Z A V ⟨.bl _,H,I,rfl,q⟩
def ABu{c:Bool}{A B:Prop}(h1:c=AD->A)(h2:c=AH->B):if c=AD then A else B:=by∎
def As.zb(e:As H H')(h:H' a=AB):As H (Ax H' a o):=λb u q=>by rw[Bs (Nn (e b u q) h)];exact e b u q
def AB2{X:BY}{K:Ap}(D:X.K=K:=by rfl):Jb X (Wq K):=by subst D;exact cR
def AB0{X:BY}{K:Ap}(D:X.K=K:=by rfl):Jb X (Wo K):=by subst D;exact ABz
def ADw{X:BY}{K:Ap}(D:X.K=K:=by rfl):Jf X (Wr K):=by subst D;exact ADv
def dN{X:BY}{K:Ap}(D:X.K=K:=by rfl):CN X (EI .In) (Pg K AH):=by subst D;exact ACn
def ACt{X:BY}{K:Ap}(D:X.K=K:=by rfl):CN X (EI .NotIn) (Pg K AD):=by subst D;exact ACs
def ABI{X:BY}{K:Ap}(D:X.K=K:=by rfl):FA X (.builtin "len") (λxs H Q=>∃x n,xs=[x]/\V9 K x H n/\Q (.int n) H):=by subst D;exact ABH
def ABL{X:BY}{K:Ap}(D:X.K=K:=by rfl):FA X (.type "list") (λxs H Q=>∃p ys,xs=[.ref p]/\(Bq K H p ys\/CH K H p ys)/\∀l,H l=AB->Q (.ref l) (Ax H l (.lst ys))):=by subst D;exact ABK
def d9{X:BY}{K:Ap}(J:AV X l tl)(D:X.K=K:=by rfl):EX X tg l (cM K tl):=by subst D;exact ADN J
def ADQ{X:BY}{K:Ap}(J:AV X l tl)(D:X.K=K:=by rfl):EX X tg l (cN K tl):=by subst D;exact ADP J
def SG{X:BY}{K:Ap}{name:AG}{apos cpos:Ce}{id:String}(pa:PlainAttrs T)(Y:Slot T name id)(Z:typeOf (.builtin id)=BC (.type "method_descriptor"))(C:Rz X id r)(E:AV X o to)(B:C7 X (e::es) t)(A:X.K=K:=by rfl)(J:Jt o name X.aa (Ar o X.aa)=Ar o X.aa:=by rfl)(W:((Bx cpos (Ah (e::es) X.aa)).all (λx=>!x.1)&&(Ju cpos (Jy [] X.aa)).all (λx=>x.1.isSome)&&Af ((e::es).length+([]:List Fv).length+(if([]:List Fv).isEmpty then 0 else 1)<30))=AD:=by rfl)(U:(apos.endLine==cpos.line)=AD:=by rfl)(F:Ah (e::es) X.aa=(AH,Ar e X.aa)::Ah es X.aa:=by rfl)(D:(Bx cpos (Ah es X.aa)).any (·.1)=AH:=by rfl):AV X (.Call (.Attribute o name apos) (e::es) [] cpos) (SQ K T r to t):=by subst A;exact ACz pa Y Z C E B J W U F D
def FV{st:DE}(h:CY X st t)(hw:∀D σ H,t' D σ H->t D σ H):CY X st t':=λpins s σ H D I q=>h _ s σ H D I (hw D σ H q)
def Pf(h:Cq X e t)(hw:∀σ H Q,t' σ H Q->t σ H Q):Cq X e t':=λpins s σ H Q I q=>h _ s σ H Q I (hw σ H Q q)
def CP.u1{A:Ci}(r:CP k A):A.units+1<Gk:=by have:=r.un;∎
def FC(lo hi d:Int):Nat:=if lo<hi then((hi-lo-1)/d+1).toNat else 0
def fI{lo:Int}(D:1<=d):AFP lo hi d=(FC lo hi d:Int):=by
 unfold AFP FC;rw[AMu ∎];split
 . have:0<=(hi-lo-1)/d:=wM ∎ ∎;∎
 .rfl
def AEg{lo:Int}(D:1<=d):(FC lo hi d:Int)<=(if lo<hi then hi-lo else 0):=by
 unfold FC;split
 . have h2:(hi-lo-1)/d<=hi-lo-1:=AJA _ ∎;∎
 ∎
def eA{X:BY}{scope:ED}{own:List AG}{Y:List (AG×Nat)}{U:Ce}{y:AG}(T:X.N.Nodup)(E:X.N[L]?=AA y)(G:JF X.aa.scope y)(B:X.fn y=AD\/X.aa.scope.names.lookup y=AA .local)(d:X.bc=AD)(hi:EX X tg iter N)(j:scope.kind=.function)(V:∀y∈scope.names,y.2≠.cell)(J:∀y∈scope.names,y.2=.local->scope.names.lookup y.1=AA .local)(W:∀y∈scope.names,y.2=.free->X.aa.kindOf y.1=AA .cell\/X.aa.kindOf y.1=AA .free)(A:KZ X scope Y)(i:∀C s H ex,FT (Ct X scope (own++Y.map (·.1)) C s H ex) tg g)(n:∀C s H ex,Je (Ct X scope (own++Y.map (·.1)) C s H ex) ifs M)(f:∀C s H ex,AV (Ct X scope (own++Y.map (·.1)) C s H ex) elt te)(F:HY (.ListComp elt [⟨tg,iter,ifs,0⟩] scope pos) (AA (.Name y py)) U.line X.aa=BC AD)(l:∀x,L4 iter X.aa x=BC x:=by intro _;rfl):CY X (.Assign [.Name y py] (.ListComp elt [⟨tg,iter,ifs,0⟩] scope pos) U) (Wv (Nt own.length (Y.map (·.2)) N g M te) (Le L)):=by
 intro pins s σ H r I h;rw[exec_Assign_Name_used _ _ _ _ F];refine Aa (AGF (Aa ?_));refine Aa (Ez (b0 d hi j V J W A i n f l I h λD C m s4 t v O hn R S h1 h2 Q q=>?_) (λ_ s' k=>Av (Av k)) λ_ _ e=>e);refine ALY (fJ O T E G (v:=.ref D) rfl (λw P⟨a,K,u⟩=>?_) B);have Z:C≠a:=by∎
 exact⟨m,Heap.Ns.sameBut hn K Z,λh' p=>⟨_,_,P.cu (λb o c e=>(p.2 b c).trans e) R S (.inr h1) h2 Q,q⟩⟩
def De:Cr α->Prop|.pure _=>True|.raise _=>True|.unsupported _=>True|.finish _=>True|.rule _ k=>De (k ())|.at _ k=>De (k ())|.load _ _ k=>∀o,De (k o)|.update _ _ f k=>(∀o,(f o).dict=o.dict)/\De (k ())|.loadIfAlive _ k=>∀o,De (k o)|.point _ k=>De (k ())|.alloc _ k=>∀a,De (k a)|.fresh k=>∀t,De (k t)|.ask k=>∀t,De (k t)|.stack k=>∀l,De (k l)|_=>False
def EW{α β:Type}{t:Cr α}{f:α->Cr β}(h:De t)(g:∀a,De (f a)):De (t>>=f):=by induction t with|pure a=>exact g a|raise e=>trivial|unsupported w=>trivial|finish e=>trivial|rule t k D=>exact D () h|«at»p k D=>exact D () h|load a p k D=>exactλo=>D o (h o)|update a p f k D=>exact⟨h.1,D () h.2⟩|alloc o k D=>exactλa=>D a (h a)|loadIfAlive a k D=>exactλo=>D o (h o)|point l k D=>exact D () h|fresh k D=>exactλo=>D o (h o)|ask k D=>exactλo=>D o (h o)|stack k D=>exactλo=>D o (h o)|_=>exact h.elim
def Eg(e:AI)(d:Option AI)(h:Au):Prop:=∃o,h.objs[e]?=AA o/\o.dict=d
def Eg.xn{h:Au}(x:Eg e d h)(o:BF):Eg e d (h.push o):=by obtain⟨u,U,V⟩:=x;refine⟨u,?_,V⟩;have J:=(Array.getElem?_eq_some_iff.mp U).1;cases h with|mk D l=>show(D.push o)[e]?=AA u;rw[Array.getElem?_push_lt J];exact(IL J).symm.trans U
def Eg.ur{h:Au}(x:Eg e d h)(a:AI)(V:∀o,(f o).dict=o.dict):Eg e d (h.update a f):=by obtain⟨u,U,J⟩:=x;cases h with|mk D l=>
 show∃o,(D.modify a f)[e]?=AA o/\o.dict=d;rw[Array.getElem?_modify];by_cases q:a=e
 . rw[AMu q,U];exact⟨f u,rfl,(V u).trans J⟩
 . rw[AMv q];exact⟨u,U,J⟩
def Eg.ju{h:Au}{o:BF}(x:Eg e d h)(g:h.get? e=AA o):o.dict=d:=by obtain⟨u,J,D⟩:=x;have:=(AKc.mp g).1;rw[J]at this;cases this;exact D
def AA4{h:Au}{o:BF}(g:h.get? e=AA o):Eg e o.dict h:=⟨o,(AKc.mp g).1,rfl⟩
def De.wp:∀{Q:α->Ce->AX->Prop}{E:AJ->Ce->AX->Prop}{p:Ce}{s:AX},De t->Eg e d s.heap->Sem.wp M J t Q E p s->Sem.wp M J t (λa p s=>Q a p s/\Eg e d s.heap) (λa p s=>E a p s/\Eg e d s.heap) p s:=by induction t with|pure a=>intro Q E p s h x q;exact⟨q,x⟩|raise v=>intro Q E p s h x q;exact⟨q,x⟩|unsupported w=>intro Q E p s h x q;exact q.elim|finish v=>intro Q E p s h x q;exact q.elim|rule t k D=>intro Q E p s h x q;exact D () h x q|«at»V k D=>intro Q E p s h x q;exact D () h x q|load a pt k D=>intro Q E p s h x q;obtain⟨o,U,q⟩:=q;exact⟨o,U,D o (h o) x q⟩|update a pt f k D=>intro Q E p s h x q;exact⟨q.1,D () h.2 (x.ur a h.1) q.2⟩|alloc o k D=>intro Q E p s h x q;exact D _ (h _) (x.xn o) q|loadIfAlive a k D=>intro Q E p s h x q;exact D _ (h _) x q|point l k D=>intro Q E p s h x q;exact D () h x q|fresh k D=>intro Q E p s h x q;exact D _ (h _) x q|ask k D=>intro Q E p s h x q;exact D _ (h _) x q|stack k D=>intro Q E p s h x q;exact D _ (h _) x q|_=>intro Q E p s h;exact h.elim
def O9{s:AX}(h:De t)(x:Eg e d s.heap)(q:Al M A t Q E s):Al M A t (λa s'=>Q a s'/\Eg e d s'.heap) (λv s'=>E v s'/\Eg e d s'.heap) s:=λJ p D=>h.wp x (q J p D)
def WV(a:AI):De (load a):=λ_=>trivial
def WX:De stack:=λ_=>trivial
def AB7(v:AJ):De (fieldsOf v):=by
 unfold fieldsOf;split
 . refine EW (WV _) λo=>?_;split<;>trivial
 .trivial
def R7(v:AJ)(i:Nat):De (field v i):=by refine EW (AB7 v) λo=>?_;split<;>trivial
def ABZ(f:Array AJ->Array AJ)(o:BF):(g6 f o).dict=o.dict:=by unfold g6;split<;>rfl
def WW(v:AJ)(i:Nat)(x:AJ):De (AF9 v i x):=by
  unfold AF9;split
  . refine EW (WV _) λo=>?_;split
    . split;.exact⟨ABZ _,trivial⟩
      .trivial
    .trivial
  .trivial
def AB6(f:AI)(b:Bool):De (entryPlaceOf f b):=by refine EW WX λo=>?_;split<;>trivial
def cX:∀l:List DT,De (readyFrames l)
  |[]=>trivial|env::outer=>by
    unfold readyFrames;split
    . refine EW (WV _) λo=>?_;split;.trivial
      . refine EW ?_ λb=>EW ?_ λv=>?_
        . unfold behindIsImport;split;.trivial
          . split;.trivial
            .exact EW (R7 _ _) λ_=>trivial
        . unfold keptBack;split
          . split;.trivial
            .exact EW (EW WX λ_=>trivial) λ_=>trivial
          .trivial
        .exact⟨λ_=>rfl,cX _⟩
    .trivial
def AB8(env:DT):De (ALL env):=by
  refine EW (EW WX λ_=>trivial) λl=>EW ?_ λo=>?_
  . unfold frameObject;split;.trivial
    .exact EW (cX _) λ_=>trivial
  .split<;>trivial
def AB5(a b c d e:AJ)(l:List AJ):De (AFU a b c d e l):=by
 unfold AFU newFields newObj;have k:∀vs:Array _,De (newObjAsIs (.type "traceback") (.fields vs)):=λvs=>by exact EW (λ_=>trivial) λ_=>trivial
 dsimp only;split<;>split<;>first|trivial|exact k _
def cW(e:AJ)(env:DT):De (iQ e env):=by
  unfold iQ;split
  . rename_i f _;refine EW (R7 _ _) λD=>?_;have k:∀x:AJ,De (do let a<-ALL env;let pl<-entryPlaceOf f (x !=.none);let b<-AFU x a .none (K0 f) .none pl;AF9 e 1 b):=λx=>EW (AB8 _) λ_=>EW (AB6 _ _) λ_=>EW (AB5 _ _ _ _ _ _) λ_=>WW _ _ _;split
    . refine EW (R7 _ _) λy=>?_;split;.trivial
      .exact EW (WW _ _ _) λ_=>k D
    .exact k D
  .trivial
def WU(e:AJ)(D:Option AI):De (iS e D):=by
 refine EW (R7 _ _) λ_=>?_;split;.exact WW _ _ _
 .trivial
def cV(env:DT)(e:AJ):De (iP env e):=EW (cW _ _) λ_=>WU _ _
def ACL{A:Ci}{s:AX}{env:DT}(J:A.frames=AA (env::outer))(V:env.frame=AA L)(D:Jo base (env::outer) e cls a0 s.heap)(U:Eg e dd s.heap)(k:∀h',Jo base outer e cls a0 h'->s.heap.UpToSlots h'->Eg e dd h'->Q () {s with heap:=h'}):Al M A (iP env (.ref e)) Q E s:=by refine Ez (O9 (cV _ _) U (wpAny_leaves_onW (Q:=λ_ s3=>∃h',s3={s with heap:=h'}/\Jo _ _ e _ a0 h'/\s.heap.UpToSlots h') (E:=λ_ _=>False) J V D λh' x y=>⟨h',rfl,x,y⟩)) (λ_ s3 q=>?_) λ_ _ z=>z.1.elim;obtain⟨⟨h',rfl,x,y⟩,z⟩:=q;exact k h' x y z
def ACK{A:Ci}{s:AX}{base:Au}{env:DT}{J:BF}(U:A.frames=AA (env::outer))(C:s.heap.FunFrames base (env::outer))(B:env.frame=AA L)(W:s.heap.get? e=AA J)(V:base.StaysIn s.heap)(D:base.get? e=AB)(Z:J.data=.fields vs)(h1:vs[1]?=AA .none)(Y:vs[0]?=AA a0)(k:∀h',Jo base outer e J.cls a0 h'->s.heap.UpToSlots h'->Eg e J.dict h'->Q () {s with heap:=h'}):Al M A (iP env (.ref e)) Q E s:=by refine Ez (O9 (cV _ _) (AA4 W) (wpAny_leaving_firstW (Q:=λ_ s3=>∃h',s3={s with heap:=h'}/\Heap.LeftW _ _ e _ a0 _ h') (E:=λ_ _=>False) U C B W V D Z h1 Y λh' x=>⟨h',rfl,x⟩)) (λ_ s3 q=>?_) λ_ _ z=>z.1.elim;obtain⟨⟨h',rfl,k1,⟨_,_,k2⟩,k3,F⟩,z⟩:=q;exact k h' ⟨k1,D,k2,k3⟩ F z
def ACO{A:Ci}{s:AX}{env:DT}(J:A.frames=AA (env::outer))(V:env.frame=AA L)(D:Jo base (env::outer) e cls a0 s.heap)(U:Eg e dd s.heap)(k:∀h',AFa base (env::outer) e cls a0 L h'->s.heap.UpToSlots h'->Eg e dd h'->Q () {s with heap:=h'}):Al M A (iQ (.ref e) env) Q E s:=by refine Ez (O9 (cW _ _) U (wpAny_looks_onW (Q:=λ_ s3=>∃h',s3={s with heap:=h'}/\AFa _ _ e _ a0 L h'/\s.heap.UpToSlots h') (E:=λ_ _=>False) J V D λh' x y=>⟨h',rfl,x,y⟩)) (λ_ s3 q=>?_) λ_ _ z=>z.1.elim;obtain⟨⟨h',rfl,x,y⟩,z⟩:=q;exact k h' x y z
def ACF{s:AX}(J:AFa base l e cls a0 L s.heap)(D:Eg e dd s.heap)(k:∀h',Jo base l e cls a0 h'->s.heap.UpToSlots h'->Eg e dd h'->Q () {s with heap:=h'}):Al M A (iS (.ref e) AB) Q E s:=by refine Ez (O9 (WU _ _) D (wpAny_landsW (Q:=λ_ s3=>∃h',s3={s with heap:=h'}/\Jo _ l e _ a0 h'/\s.heap.UpToSlots h') (E:=λ_ _=>False) J λh' x y=>⟨h',rfl,x,y⟩)) (λ_ s3 q=>?_) λ_ _ z=>z.1.elim;obtain⟨⟨h',rfl,x,y⟩,z⟩:=q;exact k h' x y z
def ACG{s:AX}(J:Jo base l e cls a0 s.heap)(D:Eg e dd s.heap)(k:∀h',Jo base l e cls a0 h'->s.heap.UpToSlots h'->Eg e dd h'->Q () {s with heap:=h'}):Al M A (iS (.ref e) AB) Q E s:=by refine Ez (O9 (WU _ _) D (lands_againW (Q:=λ_ s3=>∃h',s3={s with heap:=h'}/\Jo _ l e _ a0 h'/\s.heap.UpToSlots h') (E:=λ_ _=>False) J λh' x y=>⟨h',rfl,x,y⟩)) (λ_ s3 q=>?_) λ_ _ z=>z.1.elim;obtain⟨⟨h',rfl,x,y⟩,z⟩:=q;exact k h' x y z
def HM(P:CB)(w:Ba):Hu:=λouter H s E D s'=>∃(e:AI)(C a0:AJ)(H':AR)(B:Au)(dd:Option AI),D=.ref e/\s'.os=s.os/\Ls s'.gens/\DB P w H' B/\Jo B outer e C a0 s'.heap/\Gd (DC outer) [] H H' s.heap s'.heap/\(∀b o,s.heap.get? b=AA o->b∉DC outer->∃o',B.get? b=AA o'/\(H b=AB->o'=o))/\Eg e dd s'.heap/\E C dd H'
def WI{h h1 h2:Au}(u:Gd fs ex H H' h h1)(B:h1.UpToSlots h2)(V:∀b o,h1.get? b=AA o->b∈fs->∀vs,o.data≠.fields vs)(J:∀b o,h.get? b=AA o->b∉fs->∃o',h2.get? b=AA o'/\(H b=AB->o'=o)):Gd fs ex H H' h h2 where
 aw:=λb o e n D Y=>by obtain⟨o',Z,q⟩:=J b o e D;rw[Z,q n]
 iw:=λb o e n D Y=>by obtain⟨sl,U⟩:=u.iw b o e n D Y;obtain⟨W,A⟩:=B b _ U (V b _ U D);exact⟨W,A⟩
 bh:=u.bh
 cv:=λb o e Y=>by
  by_cases D:b∈fs
  . obtain⟨C,U⟩:=u.cv b o e Y;obtain⟨W,A⟩:=B b _ U (V b _ U D);exact⟨_,A⟩
  . obtain⟨o',Z,_⟩:=J b o e D;exact⟨o',Z⟩
 ji:=u.ji
 iq:=u.iq
 jh:=u.jh
def ACw{K:Ap}(d:∀C dd H',E C dd H'->E' C dd H'):MV (HM P w) (EZ (HM P w) P w K mg base N qual scope f cd A outer s₀ H₀ E') E:=by
  rintro pins σ H s i s' I⟨e,C,a0,H',B,dd,rfl,os,Y,Z,G,g,W,Q,q⟩;have c:=I.mh os g (Z.cp G.1) Y λb J=>absurd J (by simp);have R:=I.ok.cq;refine ACL R rfl G Q λh' U h M=>⟨e,C,a0,H',B,dd,rfl,os.trans I.os,Y,Z,U,?_,?_,M,d C dd H' q⟩
  . have O:∀b o,s₀.heap.get? b=AA o->b∉DC _->b∉DC (Fu qual scope _ f cd::outer):=λb o D J S=>by
      rcases Bw.mp S with z|z
      . rw[z]at D;exact HB _ (Bt D)
      .exact J z
    refine WI c.ai h (λb o D J=>?_) λb o D J=>?_
    . have:=(G.2.2.1.mem (show b∈s₀.heap.objs.size::DC _ from DK _ J)).2;obtain⟨j,V,h2⟩:=this;rw[D]at V;cases V;exact h2
    . by_cases n:H₀ b=AB
      . have V:=I.ai.aw b o D n J (by simp[EZ]);have T:=I.ai.bh b o D n (by simp[EZ]);obtain⟨o',F,a⟩:=W b o V (O b o D J);exact⟨o',U.1 _ _ F,λ_=>a T⟩
      . obtain⟨X,V⟩:=I.ai.cv b o D (by simp[EZ]);obtain⟨o',F,_⟩:=W b X V (O b o D J);exact⟨o',U.1 _ _ F,λz=>absurd z n⟩
  . intro b o D J;have L:b∉DC (Fu qual scope _ f cd::outer):=λS=>by
      rcases Bw.mp S with z|z
      . rw[z]at D;exact HB _ (Bt D)
      .exact J z
    by_cases n:H₀ b=AB
    . have V:=I.ai.aw b o D n J (by simp[EZ]);have T:=I.ai.bh b o D n (by simp[EZ]);obtain⟨o',F,a⟩:=W b o V L;exact⟨o',F,λ_=>a T⟩
    . obtain⟨X,V⟩:=I.ai.cv b o D (by simp[EZ]);obtain⟨o',F,_⟩:=W b X V L;exact⟨o',F,λz=>absurd z n⟩
def ACJ{K:Ap}{s:AX}(I:Ae (EZ (HM P w) P w K mg base N qual scope f cd A outer s₀ H₀ E') pins σ H s)(hx:Heap.MadeExcOf s.heap h' e C args)(q:E' C AB H):(EZ (HM P w) P w K mg base N qual scope f cd A outer s₀ H₀ E').xe (.ref e) {s with heap:=h'}:=by
  have hfr:=I.ok.cq;have FF:=I.au;let B:=AK7 s.heap (DC (Fu qual scope s₀.heap.objs.size f cd::outer));have hB:B.StaysIn _:=λb o z=>ALD _ z;have inB:∀b o,s.heap.get? b=AA o->b∉DC _->B.get? b=AA o:=λb o z n=>AK8 _ z n;have FB:=W.funFrames_hide FF λenv he a ha=>Sa.mpr ⟨env,he,ha⟩;have cov:∀b o,s₀.heap.get? b=AA o->b∉DC _->∃o',B.get? b=AA o'/\(H₀ b=AB->o'=o):=λb o e1 hb=>by
    have hb2:b∉DC (Fu qual scope _ f cd::outer):=λhm=>by
      rcases Bw.mp hm with z|z;. rw[z]at e1;exact HB _ (Bt e1)
      .exact hb z
    by_cases n:H₀ b=AB
    . have e2:=I.ai.aw b o e1 n hb (by simp[EZ]);exact⟨o,inB b o e2 hb2,λ_=>rfl⟩
    . obtain⟨o2,e2⟩:=I.ai.cv b o e1 (by simp[EZ]);exact⟨o2,inB b o2 e2 hb2,λz=>absurd z n⟩
  have hokB:=λa o z=>(I.ay a o z).ku (λb u hb z2=>inB b u z2 λhm=>?_) (λ_ z=>z) λ_ _ z=>z
  . obtain⟨t,he,htn,ht⟩:=hx.there;have fr:B.get? e=AB:=by cases hq:B.get? e with|none=>rfl|some o'=>have:=hB e o' hq;rw[hx.new]at this;cases this
    refine ACK hfr (FB.of_keeps λb o hb _=>⟨o,hx.keeps b o hb,rfl⟩) rfl he (λb o hb=>hx.keeps b o (hB b o hb)) fr rfl rfl rfl λh2 fly up hdd=>⟨e,C,_,H,B,_,rfl,I.os,I.dy,hokB,fly,?_,?_,hdd,q⟩
    . refine WI (I.cp hx.keeps).ai up (λb o e1 hb=>?_) λb o e1 hb=>?_
      . obtain⟨_,o1,e2,h2'⟩:=FF.mem (show b∈s₀.heap.objs.size::DC _ from DK _ hb);have e3:=hx.keeps _ _ e2;rw[e1]at e3;cases e3;exact h2'
      . obtain⟨o',e2,q2⟩:=cov b o e1 hb;exact⟨o',fly.1 _ _ e2,q2⟩
    .exact cov
  . have n:=I.jq b hm;rcases hb with z3|z3;.rw[z3,z]at n;cases n
    .rw[z3]at n;cases n
def bH{X:BY}{s:AX}{B:Au}(I:Ae X pins σ H s)(J:Ae X pins σ H' s')(F:X.aa.cells=[])(E:X.ex=[])(N:X.au=X.aa::X.ff)(M:X.aa.frame=AA X.aa.locals)(V:∀b o,s.heap.get? b=AA o->b∉DC X.au->∃o',B.get? b=AA o'/\(H b=AB->o'=o))(G:DB X.af X.w H' B)(D:B.StaysIn h')(T:s'.heap.UpToSlots h')(a:s'.heap.FunFrames B X.au):Ae X pins σ H' {s' with heap:=h'}:=by
  have Y:∀b,b∈DC X.au↔b=X.aa.locals\/b∈X.fs:=λb=>by rw[N];unfold DC;rw[SU,M];exact Bw
  have K:∀b o,s'.heap.get? b=AA o->b∈DC _->∀vs,o.data≠.fields vs:=λb o e Z=>by obtain⟨_,o1,L,q⟩:=a.mem Z;rw[e]at L;cases L;exact q
  refine⟨J.ok,J.os,J.dy,?_,?_,λx c z=>?_,J.bh,J.dc,λp S=>?_,G.cp D,J.ba⟩
  . refine WI J.ai T (λb o e Z=>K b o e ((Y b).mpr (.inr Z))) λb o e Z=>?_;have C:b∉DC _:=λz=>by
      rcases(Y b).mp z with q|q;. rw[q]at e;exact absurd (Eb (Bt e) I.ok.fq) (HB _)
      .exact Z q
    by_cases n:X.H₀ b=AB
    . by_cases U:b∈X.ex;.rw[E]at U;cases U
      . have A:=I.ai.aw b o e n Z U;have j:=I.ai.bh b o e n U;obtain⟨o',W,O⟩:=V b o A C;exact⟨o',D _ _ W,λ_=>O j⟩
    . by_cases U:b∈X.ex;.rw[E]at U;cases U
      . obtain⟨k,A⟩:=I.ai.cv b o e U;obtain⟨o',W,_⟩:=V b k A C;exact⟨o',D _ _ W,λz=>absurd z n⟩
  . obtain⟨m,hn,h⟩:=J.jx;refine⟨m,T.ns hn,λi x v L A W=>?_⟩;obtain⟨u,r,l⟩:=h i x v L A W;refine⟨u,r,?_⟩;rcases l with l|⟨_,c,R,_⟩;.exact .inl l
    .rw[F]at R;cases R
  .rw[F]at z;cases z
  . obtain⟨a1,a2,P,Q,d⟩:=J.ie p S;obtain⟨f,g,t,w,y⟩:=I.ie p S;obtain⟨o',W,O⟩:=V _ _ f λz=>((Y _).mp z).elim P Q;have:=D _ _ W;rw[O g]at this;exact⟨this,a2,P,Q,d⟩
def BY.ft(X:BY)(e:AI):BY:={X with A:=X.A.mark (AA (.ref e)),bc:=AH,xe:=λ_ _=>False}
def Ae.ft{X:BY}(I:Ae X pins σ H s)(e:AI):Ae (X.ft e) pins σ H s:=⟨⟨I.ok.dh,I.ok.cy,I.ok.ir,I.ok.rh,I.ok.fq,I.ok.jb,I.ok.tj,I.ok.sr,(λz=>by cases z),I.ok.cq,I.ok.ux,I.ok.vi,I.ok.bs,I.ok.ot,I.ok.lp,I.ok.lh,I.ok.gq,I.ok.qm⟩,I.os,I.dy,I.ai,I.jx,I.gn,I.bh,I.dc,I.ie,I.ay,I.ba⟩
def Ae.kx{X:BY}(I:Ae (X.ft e) pins σ H s)(D:X.bc=AD->X.A.handled=AB):Ae X pins σ H s:=⟨⟨I.ok.dh,I.ok.cy,I.ok.ir,I.ok.rh,I.ok.fq,I.ok.jb,I.ok.tj,I.ok.sr,D,I.ok.cq,I.ok.ux,I.ok.vi,I.ok.bs,I.ok.ot,I.ok.lp,I.ok.lh,I.ok.gq,I.ok.qm⟩,I.os,I.dy,I.ai,I.jx,I.gn,I.bh,I.dc,I.ie,I.ay,I.ba⟩
def bG(e:AI)(C:AJ)(dd:Option AI):Ds:=.ext λh=>∃o,h.get? e=AA o/\o.cls=C/\o.dict=dd/\∃vs,o.data=.fields vs
def Ae.ou{X:BY}{s:AX}(I:Ae X pins σ H s)(G:∃o,s.heap.get? e=AA o/\o.cls=C/\o.dict=dd/\∃vs,o.data=.fields vs)(hn:H e=AB)(B:∀o,X.s₀.heap.get? e≠AA o)(E:e≠X.aa.locals)(F:∀x c,X.aa.cells.lookup x=AA c->c≠e)(K:∀p∈X.pn++pins,p.1≠e):Ae X pins σ (Ax H e (bG e C dd)) s:=by
 have U:∀b o,H b=AA o->b≠e:=λb o z q=>by rw[q,hn]at z;cases z
 refine⟨I.ok,I.os,I.dy,⟨I.ai.aw,I.ai.iw,λb o J n L=>?_,I.ai.cv,λb xs z=>?_,λb o u z=>?_,λb ps z=>?_⟩,I.jx,I.gn,?_,λx c z=>?_,λp q=>?_,?_,I.ba⟩
 . have q:b≠e:=λq=>B o (by rw[<-q];exact J);rw[Bs q];exact I.ai.bh b o J n L
 .have:=I.ai.ji b xs z;rw[Bs (U _ _ this)];exact this
 .have:=I.ai.iq b o u z;rw[Bs (U _ _ this)];exact this
 .obtain⟨W,q⟩:=I.ai.jh b ps z;exact⟨_,by rw[Bs (U _ _ q)];exact q⟩
 .rw[Bs E.symm];exact I.bh
 .rw[Bs (F x c z)];exact I.dc x c z
 . obtain⟨a1,a2,Y,Z,A⟩:=I.ie p q;exact⟨a1,by rw[Bs (K p q)];exact a2,Y,Z,A⟩
 . obtain⟨o,V,D⟩:=G;exact I.ay.qc hn ⟨⟨o,V,D⟩,⟨o,V⟩,λh1 h2⟨o,J,r1⟩k=>⟨o,k o J,r1⟩⟩
def Dt.yu{h:Au}(x:Dt P w H h a o):∃D,h.get? a=AA D:=by cases o with|lst xs=>obtain⟨_,_,_,_,e⟩:=x;exact⟨_,e⟩|tup xs=>obtain⟨_,_,_,D,e,_⟩:=x;exact⟨_,e⟩|dK kvs=>obtain⟨_,_,_,_,o,_,_,e,_⟩:=x;exact⟨_,e⟩|dT kvs=>obtain⟨_,_,_,_,o,_,_,e,_⟩:=x;exact⟨_,e⟩|set S n=>obtain⟨o,_,_,_,e,_⟩:=x;exact⟨_,e⟩|ins C dx fs=>obtain⟨_,_,_,e,_⟩:=x;exact⟨_,e⟩|own y=>obtain⟨_,e⟩:=x;exact⟨_,e⟩|xd fs=>obtain⟨_,⟨_,_,_,e,_⟩,_⟩:=x;exact⟨_,e⟩|rng lo hi=>obtain⟨_,_,_,e⟩:=x;exact⟨_,e⟩|frz D u=>obtain⟨e,_⟩:=x;exact⟨_,e⟩|tbl ps=>exact⟨_,(show h.get? a=AA _ from x)⟩|met f y=>exact⟨_,(show h.get? a=AA _ from x)⟩|ext J=>obtain⟨_,⟨_,e⟩,_⟩:=x;exact⟨_,e⟩
def Ew.yg{K:Ap}{st:DE}{ps:List AG}(F:Ew K x qual st f fd)(S:HP N ps (Bz st))(Y:∀vs H Q E,sp vs H Q E->vs.length=ps.length)(J:∀(D:AJ)(A:Ci)(outer:List DT)(s:AX)(H:AR)(vs:List AQ)(Q:BZ)(E:FU),CP k (A.deeper (Fu qual (Bz st) s.heap.objs.size f D))->sp vs H Q E->∃t,DS (EZ (HM P w) P w K mg base N qual (Bz st) f D A outer s H E) (Lc st) t/\t {nx:=λ_ H'=>Q .non H',rt:=Q} (Lm N vs) H):Dr P w K mg base (HM P w) (k+1) f fd ps sp:=by obtain⟨O,R,M,Z,T,I,D,L,G,rfl,C,U⟩:=F.ex;refine cH C U S Y λA outer s H vs Q E B W=>?_;obtain⟨t,h,q⟩:=J _ A _ s H vs Q E B W;exact⟨t,h,q⟩
def AD1(D:1<=c)(V:c<=2000000)(Z:-(2^40)<=a)(J:a<2^40)(A:-(2^40)<=b)(U:b<2^40):AKD a b c=AD:=by
 have h:=AEg (lo:=a) (hi:=b) D;have B:=fI (lo:=a) (hi:=b) D;unfold AKD;have h2:(FC a b c:Int)<=2^42:=by∎
 have W:=Int.mul_le_mul h2 ∎ ∎ ∎;have Y:0<=(FC a b c)*c:=ZP ∎ ∎;simp only[AL6,Q2,Bool.or_eq_true,decide_eq_true_eq,AM4,show c>0 by∎,AM2];∎
def Lj:∀{D:List α}{J:List β},D.length=J.length->(∀(i:Nat)a b,D[i]?=AA a->J[i]?=AA b->F a b)->Gj F D J|[],[],_,_=>.nil|a::D,b::J,U,h=>.cons (h 0 a b rfl rfl) (Lj ∎ λi x y V W=>h (i+1) x y ∎ ∎)
def Jl(i j d:Int):List Int:=(EO (FC i j d)).map λk:Nat=>i+(k:Int)*d
def Ph(i j d:Int):(Jl i j d).length=FC i j d:=by unfold Jl;∎
def Wu(h:k<FC i j d):(Jl i j d)[k]?=AA (i+(k:Int)*d):=by unfold Jl;∎
def AEF(ta:Eh):A6:=λσ H Q=>ta σ H λvs H1=>∃i j d:Int,vs=[.int i,.int j,.int d]/\(1<=d/\d<=2000000/\-(2^40)<=i/\i<2^40/\-(2^40)<=j/\j<2^40/\FC i j d<=16777216)/\∀l,H1 l=AB->Q (.ref l) (Ax H1 l (.lst ((Jl i j d).map AQ.int)))
def AC9{X:BY}(N:X.bc=AD)(V:CG X "list")(Y:X.mg "list"=AB)(O:CG X "range")(R:X.mg "range"=AB)(M:C7 X [a,b,c] ta)(n:Ah [a,b,c] X.aa=[(AH,Ar a X.aa),(AH,Ar b X.aa),(AH,Ar c X.aa)]:=by rfl)(Z:Ah [b,c] X.aa=[(AH,Ar b X.aa),(AH,Ar c X.aa)]:=by rfl)(S:Ah [.Call (.Name "range" p2) [a,b,c] [] pos2] X.aa=[(AH,Ar (.Call (.Name "range" p2) [a,b,c] [] pos2) X.aa)]:=by rfl):AV X (.Call (.Name "list" p) [.Call (.Name "range" p2) [a,b,c] [] pos2] [] pos) (AEF ta):=by intro pins s σ H Q I h;refine N5 (Kg I V Y AFC ?_);refine Sn ?_ (by rfl) rfl;refine Lw ?_;refine Call_ (Kg I O R boot_range (Sn (A2 (M pos2 pins s σ H _ I h) λw s1⟨vs,H1,C,r1,B⟩=>?_) ∎ (by rw[Z];rfl)));obtain⟨i,j,d,e,⟨F,L,B,T,f,g,G⟩,q⟩:=B;subst e;cases r1 with|cons r J=>cases J with|cons r' J=>cases J with|cons r2 J=>
        cases J;obtain⟨t,rfl⟩:=r;obtain⟨t',rfl⟩:=r';obtain⟨t2,rfl⟩:=r2;refine call_range_3 ∎ ?_ (.inl (AJ7 ∎));refine N0 ?_;have E:Ae X pins σ H1 {s1 with heap:=s1.heap.push {cls:=.type "range",data:=.fields #[.int i t,.int j t',.int d t2]},toks:=s1.toks}:=C.cp λb o e=>Bn _ e;refine call_list_range (C.ok.hd N) (AKf ..) (AD1 F L B T f g) (fI F) G λh' tk U K P m D=>?_;refine⟨.ref _,_,E.eu P (Aw _) (show Dt X.af X.w _ h' _ (.lst _)from⟨?_,U.toList,K,?_,by simp_all⟩),rfl,q _ (E.ay.ao (Aw _))⟩
        . rw[A4,Ph];exact G
        . refine Lj (by rw[A4,Ph,Q1,D.1]) λk x u A v=>?_;have W:k<FC i j d:=by have:=(EN.mp A).1;rw[A4,Ph]at this;∎
          rw[Ca,Wu W]at A;obtain⟨l,e⟩:=D.2 k u ∎;rw[<-Kq A,e];exact⟨_,rfl⟩
def ABQ{X:BY}{K:Ap}(Z:X.bc=AD)(Y:X.K=K:=by rfl):FA X (.builtin "sum") (λxs H Q=>∃(p:AI)(ns:List Int),xs=[.ref p]/\Bq K H p (ns.map AQ.int)/\Q (.int ns.sum) H):=by
 subst Y;intro pins s σ H xs G Q I r h;obtain⟨p,ns,rfl,B,q⟩:=h;obtain⟨u,rfl,E⟩:=Hw r;cases E;obtain⟨C,F,pl,hz⟩:=I.bz B;have hi:=WS F;obtain⟨zs,J⟩:=hi.allInts.items;have D:=J▸pl.isList;refine sum_intListG (I.ok.hd Z) D λh' tk t' A=>?_;have U:ns=zs.toList.map (·.1):=by rw[<-AF5,<-J];exact(show numsOf _=ns from hi.numsOf).symm
 have W:preSum (numAt zs) zs.size=ns.sum:=by rw[preSum_eq,gL (by simp),U]
 rw[W];exact⟨.int _,H,I.cp A,⟨_,rfl⟩,q⟩
def ABO{X:BY}{K:Ap}(Y:X.bc=AD)(W:X.K=K:=by rfl):FA X (.builtin "min") (λxs H Q=>∃(p:AI)(ns:List Int),xs=[.ref p]/\Bq K H p (ns.map AQ.int)/\0<ns.length/\∀M,M∈ns->(∀a,a∈ns->M<=a)->Q (.int M) H):=by
 subst W;intro pins s σ H xs O Q I r h;obtain⟨p,ns,rfl,C,B,q⟩:=h;obtain⟨u,rfl,G⟩:=Hw r;cases G;obtain⟨F,L,pl,hz⟩:=I.bz C;have hi:=WS L;obtain⟨zs,e⟩:=hi.allInts.items;have D:ns=zs.toList.map (·.1):=by rw[<-AF5,<-e];exact(show numsOf _=ns from hi.numsOf).symm
 have J:0<zs.size:=by∎
 have A:=e▸pl.isList;refine min_intList (I.ok.hd Y) A J λv h' tk E Z=>?_;obtain⟨t,rfl⟩:=intItems_at E;obtain⟨h1,h2⟩:=argBest_lt (numAt zs) (zs.size-1);refine⟨.int _,H,I.cp Z,⟨_,rfl⟩,q _ ?_ λa U=>?_⟩;.rw[iR];∎
 . rw[D]at U;obtain⟨j,N,rfl⟩:=mem_getD U;rw[<-iR];∎
def ABM{X:BY}{K:Ap}(Y:X.bc=AD)(W:X.K=K:=by rfl):FA X (.builtin "max") (λxs H Q=>∃(p:AI)(ns:List Int),xs=[.ref p]/\Bq K H p (ns.map AQ.int)/\0<ns.length/\∀M,M∈ns->(∀a,a∈ns->a<=M)->Q (.int M) H):=by
 subst W;intro pins s σ H xs O Q I r h;obtain⟨p,ns,rfl,C,B,q⟩:=h;obtain⟨u,rfl,G⟩:=Hw r;cases G;obtain⟨F,L,pl,hz⟩:=I.bz C;have hi:=WS L;obtain⟨zs,e⟩:=hi.allInts.items;have D:ns=zs.toList.map (·.1):=by rw[<-AF5,<-e];exact(show numsOf _=ns from hi.numsOf).symm
 have J:0<zs.size:=by∎
 have A:=e▸pl.isList;refine max_intList (I.ok.hd Y) A J λv h' tk E Z=>?_;obtain⟨t,rfl⟩:=intItems_at E;obtain⟨h1,h2⟩:=argBest_gt (numAt zs) (zs.size-1);refine⟨.int _,H,I.cp Z,⟨_,rfl⟩,q _ ?_ λa U=>?_⟩;.rw[iR];∎
 . rw[D]at U;obtain⟨j,N,rfl⟩:=mem_getD U;rw[<-iR];∎
def cF:∀ys zs:List Int,AKl (ys.map Jq) (zs.map Jq)=Af (ys=zs)|[],[]=>rfl|[],_::_=>rfl|_::_,[]=>rfl|y::ys,z::zs=>by show(Ii (.int y) (.int z)&&AKl (ys.map Jq) (zs.map Jq))=_;rw[cF ys zs];show((y==z)&&Af (ys=zs))=_;∎
def R9:∀ys:List Int,AFe (ys.map Jq)=AD/\g8 (ys.map Jq)=0|[]=>⟨rfl,rfl⟩|y::r=>by obtain⟨a,b⟩:=R9 r;simp[AFe,AFd,g8,AKk,a,b]
def DB.ug{h h':Au}(l:List AI)(x:DB P w H h)(hn:∀a∈l,H a=AB)(k:∀b u,b∉l->h.get? b=AA u->h'.get? b=AA u):DB P w H h':=by intro b u e;refine(x b u e).ku (λc v D q=>k c v ?_ q) (λ_ q=>q) λ_ _ q=>q;∎
def bI(K:Ap)(a:AI):G5:=⟨λi H=>∃xs x,Bq K H a xs/\xs[i]?=AA x,λi H x H'=>∃p y,x=.ref p/\H p=AB/\H'=Ax H p (.tup [.int (i:Int),y])/\∀xs,Bq K H a xs->xs[i]?=AA y,λi H=>∃xs,Bq K H a xs/\xs.length<=i⟩
def AEc{K:Ap}(a e it:AI)(C:e≠it):Nj P w K (.Tuple Z x1 tpos) (bI K a) [e,it] e (λi h=>(∃D,IsEnum h e it i D)/\h.IsListIter it a i)where
 vt:=by simp
 kj:=λi h st b J=>by obtain⟨⟨D,V⟩,o,e2,c,d⟩:=st;∎
 aw:=λi h h' st k=>by obtain⟨⟨D,V⟩,st⟩:=st;exact⟨∎,st.at ∎⟩
 lj:=by
  intro X N hw M y i pins s σ H E I W st Q;subst N hw M;obtain⟨xs,x,L,Y⟩:=Q;obtain⟨T,f,p,hz⟩:=I.bz L;obtain⟨u,hu,ru⟩:=f.ju Y;obtain⟨⟨D,V⟩,U⟩:=st;obtain⟨l,m,f2,r,t,v⟩:=W e (by simp);obtain⟨g0,g1,g2,g3,g4,g5⟩:=W it (by simp);have elt:e<s.heap.objs.size:=Bt V;have ilt:it<s.heap.objs.size:=by obtain⟨o,q,_⟩:=id U;exact Bt q
  refine wpAny_pyNext_enum_item V U p.isList (x:=u) (by simpa using hu) C λh' eo A ht hsz kk=>⟨_,rfl,wpAny_letOwnedTupleGo_enum eo λh2 he2 g=>?_⟩;have F:H s.heap.objs.size=AB:=I.ay.ao (Aw _);have pe:s.heap.objs.size≠e:=XJ elt;have G:∀b o,b∉[e,it]->s.heap.get? b=AA o->h2.get? b=AA o:=λb o J q=>by have j:b≠e:=λz=>J (by simp[z]);have b2:b≠it:=λz=>J (by simp[z]);exact(g.2 b j).trans (kk b o j b2 q)
  have B:h2.IsListIter it a (i+1):=by obtain⟨o,q,c,d⟩:=id A;exact⟨o,(g.2 it (λz=>C z.symm)).trans q,c,d⟩
  have S:=(g.2 _ pe).trans ht;have R:DB X.af X.w (Ax H s.heap.objs.size (.tup [.int (i:Int),x])) h2:=by refine(I.ay.ug [e,it] (λb J=>(W b J).1) G).qc F ?_;exact⟨show 2<=AY by decide,[.int i s.toks,u],.cons ⟨_,rfl⟩ (.cons ru .nil),⟨_,S,rfl,_,rfl⟩⟩
  have un:Gd (DC X.au) [e,it] H (Ax H s.heap.objs.size (.tup [.int (i:Int),x])) s.heap h2:=by
   refine⟨∎,λb o q n J Y=>⟨o.slots,G b o Y q⟩,λb o q n Y=>?_,∎,λb ys q=>?_,λb o u q=>?_,λb ps q=>?_⟩;.rw[Bs (DL (Bt q))];exact n
   .rw[Bs (Nn q F)];exact q
   .rw[Bs (Nn q F)];exact q
   .exact⟨#[],by rw[Bs (Nn q F),Array.append_empty];exact q⟩
  have I2:=I.mh (s':={s with heap:=h2,toks:=s.toks+1}) (ch:=[e,it]) rfl un R I.dy ∎;refine⟨.ref s.heap.objs.size,_,I2,rfl,⟨_,x,rfl,F,rfl,λys hy=>by rw[I.ke hy L];exact Y⟩,⟨⟨u,?_⟩,B⟩,λb J=>?_⟩;.∎
  . have O:b≠s.heap.objs.size:=∎;rw[Bs O];exact(W b J).1
 lg:=by intro X N hw M y i pins s σ H E I W st Q;subst N hw M;obtain⟨xs,L,Y⟩:=Q;obtain⟨T,f,p,hz⟩:=I.bz L;obtain⟨⟨D,V⟩,U⟩:=st;obtain⟨l,m,f2,r,t,v⟩:=W it (by simp);have hl:=f.aj;exact wpAny_pyNext_enum_end (I.ok.hd y) V U p.isList (by simp;∎) λh' eb=>⟨rfl,I.cu (t':=s.toks) (λb o J e=>eb b o J e) l m r t v⟩
 og:=λ_ _ _ _ _ st h=>by obtain⟨⟨D,V⟩,_⟩:=st;exact ALe V h
def ABr(K:Ap)(tl:A6):G7:=λσ H R=>tl σ H λx H1=>∃a,x=.ref a/\(∃xs,Bq K H1 a xs)/\R (bI K a) H1
def ADM{X:BY}{K:Ap}(A:CG X "enumerate")(E:X.mg "enumerate"=AB)(C:AV X l tl)(W:X.K=K:=by rfl)(U:Ah [l] X.aa=[(AH,Ar l X.aa)]:=by rfl):EX X (.Tuple J O tpos) (.Call (.Name "enumerate" p) [l] [] pos) (ABr K tl):=by
  subst W;intro pins s σ H R I h;refine Call_ (Kg I A E boot_enumerate (Sn ?_ U rfl));rw[U];refine Lw (A2 (C _ s σ H _ I h) λv s1⟨x,H1,D,r1,N⟩=>?_);refine N0 ?_;obtain⟨a,e,⟨xs,F⟩,q⟩:=N;subst e;cases r1;obtain⟨L,P,p,hz⟩:=D.bz F;refine call_enumerate_list p.isList λh' Z B G M=>?_;have V:=D.cp (t':=s1.toks) M;refine ALe Z ?_;refine⟨_,[s1.heap.objs.size+1,s1.heap.objs.size],_,_,H1,rfl,V,AEc a _ _ ∎,∎,λb Y=>?_,q⟩;rcases Bw.mp Y with z|z
  . subst z;exact D.ni (Pp _) (D.ay.ao (Pp _))
  . have z:b=s1.heap.objs.size:=by∎
    subst z;exact D.ni (Aw _) (D.ay.ao (Aw _))
abbrev bP:=Az->AR->BZ->FU->Prop
def bM(X:BY)(e:BE)(t:bP):Prop:=∀(pins:List (AI×BF))(s:AX)(σ:Az)(H:AR)(Q:BZ)(E:FU),Ae X pins σ H s->t σ H Q E->Al (Aj X.af X.w) X.A (Ar e X.aa) (FR X pins σ Q) (λD s'=>∃H1 s1,Ae X pins σ H1 s1/\HM X.af X.w X.au H1 s1 E D s') s
def AEZ(sp:Ex)(t:Eh):bP:=λσ H Q E=>t σ H λvs H1=>sp vs H1 Q E
def ADH{X:BY}{x:AG}(F:Dr X.af X.w X.K X.mg X.ai (HM X.af X.w) k f fd ps sp)(N:CP k X.A)(G:CG X x)(M:X.mg x=AA (.ref f))(K:N2 X.K (.ref f)=AD)(B:Fm X.K fd ps [])(A:C7 X.uf (e::es) t)(V:(x==("__debug__":AG))=AH:=by decide)(C:Ah (e::es) X.aa=(AH,Ar e X.aa)::Ah es X.aa:=by rfl)(W:(Bx pos (Ah es X.aa)).any (·.1)=AH:=by rfl):bM X (.Call (.Name x p) (e::es) [] pos) (AEZ sp t):=by
 intro pins s σ H Q E I h;refine N5 (PV I G M ?_ V);refine iD I.ok.dh.tp K (Ez (A _ _ s σ H _ (I.ja _) h) (λY s1⟨vs,H1,D,r,q⟩=>⟨D.il,?_⟩) λ_ _ z=>KI z) C W;have U:=D.fe;have L:Y.length=ps.length:=by rw[<-r.aj];exact F.ba _ _ _ _ q
 refine Xf (L3 (F.qx _ _ s1 H1 _ Y vs Q _ N U.sx (by have:=B s1 Y U.il (by simpa using L);simpa using this) r q) λP s' J=>?_);cases P with
 |ok fl=>cases fl with |ret u=> obtain⟨v,H',Z,R,O⟩:=U.oq J;exact⟨v,H',Z,R,O⟩|next=>exact KI J|brk=>exact KI J|cont=>exact KI J
 |error S=>exact⟨H1,s1,U,J⟩
structure AA5(K:Ap)(C:AI)(bm:List AJ):Prop where kj:∃(nm q:AG)(NS:AI)(bs:List AJ)(hdct:Bool)(sn:List AG)(sub:List AJ)(ab:Bool)(col:Option Bool)(dd:Option AI)(k0 k1 k2 k3 k5:Option AJ),K.lookup C=AA (excClassObj nm q C NS bs bm hdct sn sub ab col dd k0 k1 k2 k3 k5 "ValueError.__new__")/\∀h:Au,K.In h->(∃mN,h.Ns NS mN/\mN "__init__"=AB)/\OwnTail h [.type "ValueError",.type "Exception",.type "BaseException",.type "object"] bm
def ABf{K:Ap}(q:Px K C [.type "ValueError",.type "Exception",.type "BaseException",.type "object"] "ValueError.__new__"=AD):∃bm,AA5 K C bm:=by
  unfold Px at q;split at q
  . rename_i dd cd sl ho;split at q
    . rename_i C2 bm k0 k1 k2 k3 nn k5 hm hs;simp at q;obtain⟨⟨⟨⟨⟨e1,e2⟩,e3⟩,e4⟩,e5⟩,e6⟩:=q;have hsl:sl=#[k0,k1,k2,k3,AA (.builtin nn),k5]:=by rw[<-Array.toArray_toList (xs:=sl),hs]
      cases cd with|mk a1 a2 a3 a4 a5 a6 a7 a8 a9 a10 a11=>subst hsl e1 e2 e3 hm;exact⟨bm,⟨a1,a5,a4,a2,a6,a7,a8,a9,a10,dd,k0,k1,k2,k3,k5,ho,λh X=>⟨⟨_,.of_isNs (W.isNs_of_in X e5),W.nsMap_none_of_in X e5 e6⟩,W.tail_of_in X e4⟩⟩⟩
    .cases q
  .cases q
def ADZ{K:Ap}{qual:AG}{s₀:AX}{x:AG}(B:Px K C [.type "ValueError",.type "Exception",.type "BaseException",.type "object"] "ValueError.__new__"=AD)(a:AV (EZ (HM P w) P w K mg base N qual scope f cd A outer s₀ H₀ E') (.Name x np) (Ln (.ref C)))(X:AV (EZ (HM P w) P w K mg base N qual scope f cd A outer s₀ H₀ E') e te)(J:Bx cpos (Ah [e] (Fu qual scope s₀.heap.objs.size f cd))=[(AH,Ar e (Fu qual scope s₀.heap.objs.size f cd))]:=by rfl):CY (EZ (HM P w) P w K mg base N qual scope f cd A outer s₀ H₀ E') (.Raise (AA (.Call (.Name x np) [e] [] cpos)) AB pos) (λD σ H=>te σ H λv H1=>E' (.ref C) AB H1):=by obtain⟨L,E⟩:=ABf B;intro pins s σ H D I h;obtain⟨nm,q,G,bs,hdct,sn,sub,ab,col,dd,k0,k1,k2,k3,k5,c,U⟩:=E.kj;obtain⟨⟨i,Y,Z⟩,V⟩:=U _ I.ok.dh.tp;have S:L.contains (.type "BaseException")=AD:=V.hasType rfl;have R:=λQ b=>a _ s σ H Q I b;have T:=I.ok.hd rfl;refine wpAny_Raise_call_subU (C:=C) (nm:=nm) (q:=q) (N:=G) (bs:=bs) (hdct:=hdct) (sn:=sn) (sub:=sub) (ab:=ab) (col:=col) (dd:=dd) (k0:=k0) (k1:=k1) (k2:=k2) (k3:=k3) (k5:=k5) AKR (by decide) AKR S T (by show((Bx _ (Ah _ (Fu _ _ _ f cd))).any _)=AH;rw[J];rfl) Z ?_;refine A2 (R (λv H1=>v=.ref C/\H1=H) ⟨rfl,rfl⟩) λu s1⟨v,H1,F,r1,M,O⟩=>?_;subst M O;refine⟨r1,?_⟩;show Al _ _ (evalArgs _ _ (Bx _ (Ah _ (Fu _ _ _ f cd))) []) _ _ s1;rw[J];refine gX (Lw (A2 (X _ s1 σ _ _ F h) λu2 s2⟨y,H2,W,j,d⟩=>N0 ?_));exact⟨rfl,by show 1<=AY;decide,W.il C _ c,Y.keeps W.bk,V.keeps W.bk,λh' g B=>ACJ W B d⟩
def AEa(l:AI)(items:Array AJ)(n:Nat)(dd:Option AI)(sl:Array (Option AJ))(x:AJ)(e:AJ->Bool)(B:∀y,y∈items->MeetsSeq.EqGives y x (e y))(j:Nat)(I:j<items.size)(U:e items[j]=AD)(V:∀m(K:m<items.size),m<j->e items[m]=AH):Meets (Builtin.«tuple.index» ⟨[.ref l,x],[]⟩) (λ_ R s=>s.heap.get? l=AA {cls:=.type "tuple",dict:=dd,data:=.seq items n,slots:=sl}/\R (.ok (.ret (.int j s.toks))) {s with toks:=s.toks+1}):=.of_wp λprog w A R s h=>by
    obtain⟨F,g,d,tk,os⟩:=s;obtain⟨E,h⟩:=h;wp_walk using wpAny_loadPart' E;change Al (Aj prog w) A.in1 (Hk [:Dx items.size items.size] ((AB,()):Option Fin×Unit) _) _ _ _;rw[AMs];simp only[AMt,AJl,Nat.add_sub_cancel,Nat.div_one,AE5];refine ALa _ (λrest b s'=>∃k,rest=gH k (items.size-k) 1/\k<=j/\b.1=AB/\s'=(⟨F,g,d,tk,os⟩:AX)) _ ?_ ?_ _ _ ⟨0,rfl,EA _,rfl,rfl⟩
    . rintro i rest b s'⟨k,W,C,H,rfl⟩;have D:k<items.size:=∎;rw[show items.size-k=(items.size-(k+1))+1 by∎,AEz]at W;injection W with Y Z;subst Y Z;have G:items[i]?=AA items[i]:=∎;simp only[G];refine Aa (B _ (Array.getElem_mem D) prog w _ _ _ _ ?_);by_cases J:i=j;. subst J;rw[U];wp_walk;exact⟨_,rfl,h⟩
      . rw[V i D ∎];wp_walk;∎
    ∎
def fL{ys:List AG}{D:List AJ}(r:BR (ys.map AQ.str) D){i:Nat}{z:AG}(h:ys[i]?=AA z):∃t,D[i]?=AA (.str z t):=by obtain⟨u,J,t,rfl⟩:=r.ju (i:=i) (x:=.str z) (by grind);grind
def fK(z:AG):AJ->Bool|.str y _=>y==z|_=>AH
def ACY{X:BY}{K:Ap}(L:X.K=K:=by rfl):Rz X "tuple.index" (λx xs H Q=>∃(p:AI)(ys:List AG)(z:AG)(j:Nat),x=.ref p/\xs=[.str z]/\CH K H p (ys.map AQ.str)/\ys[j]?=AA z/\(∀m,m<j->ys[m]?≠AA z)/\Q (.int (j:Int)) H):=by
 subst L;intro pins s σ H x xs v e Q I d b h;obtain⟨p,ys,z,j,rfl,rfl,S,N,R,q⟩:=h;cases d;obtain⟨u,rfl,t,rfl⟩:=Hw b;obtain⟨D,C,T,hz⟩:=I.bj S;obtain⟨⟨c,dd,G,sl⟩,E,Y,n,Z⟩:=T;have Y:c=.type "tuple":=Y;have Z:G=.seq D.toArray n:=Z;subst Y Z;have O:=C.aj;rw[A4]at O;have A:j<ys.length:=∎;have M:∀y,y∈D.toArray->MeetsSeq.EqGives y (.str z t) (fK z y):=λy a=>by obtain⟨i,hi,rfl⟩:=Nv.mp (by simpa using a);obtain⟨t',J⟩:=fL C (EM (by∎:i<ys.length));rw[EM hi]at J;rw[Kq J];exact AJv _ _ _ _
 have U:∀m(W:m<D.toArray.size),∃t',D.toArray[m]=.str (ys[m]'(by simp at W;∎)) t':=λm W=>by
  have B:m<ys.length:=by simp at W;∎
  obtain⟨t',J⟩:=fL C (EM B);∎
 refine iK AKX ⟨_,E,rfl⟩ F.entry_tuple_index (by rfl) (AEa p D.toArray n dd sl (.str z t) (fK z) M j (by simp;∎) ?_ ?_) ⟨E,⟨.int (j:Int),H,I.jd _,⟨_,rfl⟩,q⟩⟩
 . obtain⟨t',J⟩:=U j (by simp;∎);rw[J];rw[EM A]at N;show(ys[j]==z)=AD;∎
 . intro m W P;obtain⟨t',J⟩:=U m W;rw[J];show(ys[m]==z)=AH;∎
structure AA6(K:Ap)(C:AI):Prop where
 ga:FX K (.ref C) "__getattribute__"=AA (AA (.builtin "BaseException.__getattribute__"))gt:FX K (.ref C) "__getattr__"=AA AB
 ck:FX K (.ref C) "__class__"=AA (AA (.builtin "object.__class__"))sb:iI K (.ref C) (.type "BaseException")=AA AD
 so:iI K (.ref C) (.type "object")=AA AD
 cl:(AK5 K C).isSome=AD
def As.oj(e:As H H')(h:H b=AB):As H (Ax H' b o):=λc u q=>by rw[Bs (Nn q h)];exact e c u q
def Pj{a b:AG}(h:a.cps.toList=b.cps.toList):a=b:=by cases a;simp_all
def We:∀{D:List α}{J:List β},Gj F D J->∀{i:Nat}{a:α}{b:β},D[i]?=AA a->J[i]?=AA b->F a b|_,_,.nil,i,a,b,h,_=>by∎|_,_,.cons h _,0,a,b,h1,h2=>by∎|_,_,.cons _ r,i+1,a,b,h1,h2=>We r (i:=i) ∎ ∎
def cY(h:Ge k v=AD):BQ (BP k) v:=by
 rcases Ib h with⟨i,t,rfl,rfl⟩|⟨x,t,rfl,rfl⟩;.exact⟨t,rfl⟩
 .exact⟨t,rfl⟩
def cZ{kvs:List (AW×AQ)}{vs:List (AW×AJ)}{D:List AJ}(J:Fp kvs vs)(Z:D.length=vs.length)(h:∀(j:Nat)(v:AJ),D[j]?=AA v->∃(k:AW)(x:AJ),vs[j]?=AA (k,x)/\Ge k v=AD):BR (kvs.map λp=>BP p.1) D:=by
 refine Lj ?_ ?_;.rw[A4,Z];exact Ml J
 . intro i a b U W;obtain⟨k,x,B,Y⟩:=h i b W;rw[Ca]at U;obtain⟨p,A,rfl⟩:=BK.mp U;have q:=We J A B;rw[q.1];exact cY Y
def fU(r:BQ x u):∀{xs:List AQ}{D:List AJ},BR xs D->∀j,BR (xs.set j x) (D.set j u)|_,_,.nil,_=>.nil|_,_,.cons a b,0=>.cons r b|_,_,.cons a b,j+1=>.cons a (fU r b j)
def Df(h:H a=AB):As H (Ax H a o):=(CQ H).zb h
structure GN(prog:CB)(w:Ba)(A:Ci)(s:AX)(κ:Sm)(O:XN)(kf:AJ->O.α)(a₀:Array A3):Prop where yp:∀p∈a₀.toList,∀q∈a₀.toList,∀(Q:Bool->AX->Prop)(E:AJ->AX->Prop),Q (O.blt (kf p.1) (kf q.1)) s->Al (Aj prog w) A (keyLt' κ p.1 q.1) Q E s
structure CT(κ:Sm)(a₀:Array A3)(st:CS):Prop where
 gv:(Aq st).Perm a₀
 cy:gR st=κ
 gp:Pr st=AB
def BG{O:XN}(kf:AJ->O.α)(xs:Array A3)(i:Nat):O.α:=kf ((xs[i]?.map (·.1)).getD .none)
def DW{O:XN}(kf:AJ->O.α)(xs:Array A3)(lo hi:Nat):Prop:=∀i j,lo<=i->i<=j->j<hi->O.kle (BG kf xs i) (BG kf xs j)
def GO{O:XN}{kf:AJ->O.α}{xs ys:Array A3}{i j:Nat}(h:xs[i]?=ys[j]?):BG kf xs i=BG kf ys j:=by unfold BG;rw[h]
def CT.kr{a₀:Array A3}{st:CS}(B:CT κ a₀ st):(Aq st).size=a₀.size:=B.gv.size_eq
def CT.fm{st:CS}(B:CT κ a₀ st){xs:Array A3}(h:xs.Perm (Aq st)):CT κ a₀ (Pt st xs):=⟨h.trans B.gv,B.cy,B.gp⟩
def CT.at{κ:Sm}{O:XN}{kf:AJ->O.α}{a₀:Array A3}{st:CS}(B:CT κ a₀ st){i:Nat}(hi:i<a₀.size):∃p,(Aq st)[i]?=AA p/\p∈a₀.toList/\BG kf (Aq st) i=kf p.1:=by
 have D:i<(Aq st).size:=by rw[B.kr];exact hi
 refine⟨(Aq st)[i],(by grind),(Ur.mp B.gv).mem_iff.mp (by simp),?_⟩;unfold BG;grind
def QF{prog:CB}{w:Ba}{A:Ci}{E:AJ->AX->Prop}{s:AX}{κ:Sm}{O:XN}{kf:AJ->O.α}{a₀:Array A3}{st:CS}(C:GN prog w A s κ O kf a₀)(B:CT κ a₀ st){p q:A3}(D:p∈a₀.toList)(J:q∈a₀.toList){Q:Option Bool->CS->Prop}(h:Q (AA (O.blt (kf p.1) (kf q.1))) st):ER (Aj prog w) A E s (lt' p q) Q st:=by rw[lt'_eq];refine A5 (Lv ?_);rw[B.cy];exact A5 (Pw (Xe (C.yp p D q J _ _ ⟨rfl,BI h⟩)))
def QG{prog:CB}{w:Ba}{A:Ci}{E:AJ->AX->Prop}{s:AX}{κ:Sm}{O:XN}{kf:AJ->O.α}{a₀:Array A3}{st:CS}(C:GN prog w A s κ O kf a₀)(B:CT κ a₀ st){i j:Nat}(hi:i<a₀.size)(J:j<a₀.size){Q:Option Bool->CS->Prop}(h:Q (AA (O.blt (BG kf (Aq st) i) (BG kf (Aq st) j))) st):ER (Aj prog w) A E s (Lu i j) Q st:=by obtain⟨p,ep,W,U⟩:=B.at hi;obtain⟨q,D,Y,V⟩:=B.at J;rw[U,V]at h;show ER _ _ _ _ (XO _ i>>=λx=>XO _ j>>=λy=>lt' x y) Q st;rw[AFE,AFE,ep,D];exact A5 (BI (A5 (BI (QF C B W Y h))))
def Xj{O:XN}{kf:AJ->O.α}{xs:Array A3}{i j:Nat}(D:j<=xs.size)(k:Nat):BG kf (XQ xs i j ((j-i)/2)) k=if i<=k/\k<j then BG kf xs (i+j-1-k)else BG kf xs k:=by
 have e:=AJx (i:=i) D k;by_cases h:i<=k/\k<j;.rw[AMu h]at e⊢;exact GO e
 .rw[AMv h]at e⊢;exact GO e
def i9{O:XN}{kf:AJ->O.α}{xs:Array A3}{D d:Nat}(U:D<xs.size)(J:d<=D)(k:Nat):BG kf (bubble xs D d) k=if k=D-d then BG kf xs D else if D-d<k/\k<=D then BG kf xs (k-1)else BG kf xs k:=by
  have e:=AJw U d J k;by_cases h1:k=D-d;.rw[AMu h1]at e⊢;exact GO e
  . rw[AMv h1]at e⊢;by_cases h2:D-d<k/\k<=D;.rw[AMu h2]at e⊢;exact GO e
    .rw[AMv h2]at e⊢;exact GO e
section
variable{st:CS}
structure IA(lo:Nat)(st st':CS):Prop where
 lq:Bc st'=Bc st
 wu:∀k,k<lo->(Aq st')[k]?=(Aq st)[k]?
end
def TK(lo:Nat)(st:CS):IA lo st st:=⟨rfl,λ_ _=>rfl⟩
def IA.ae{lo:Nat}(x:IA lo a b)(y:IA lo b c):IA lo a c:=⟨y.lq.trans x.lq,λk h=>(y.wu k h).trans (x.wu k h)⟩
def AGO{a₀:Array A3}{st:CS}(C:GN prog w A s κ O kf a₀){lo:Nat}(hn:lo+n<=a₀.size)(R:F<=n)(B:CT κ a₀ st)(S:DW kf (Aq st) lo (lo+F))(h:∀D,CT κ a₀ D->IA lo st D->DW kf (Aq D) lo (lo+n)->Q AD D):ER (Aj prog w) A E s (binarySort' lo n F) Q st:=by
  rw[binarySort'_eq];refine A5 (Hy (HU (I:=λk c D=>c=(AB,())/\CT κ a₀ D/\IA lo st D/\DW kf (Aq D) lo (lo+Dx k n)) (Q:=λc D=>c=(AB,())/\CT κ a₀ D/\IA lo st D/\DW kf (Aq D) lo (lo+n)) ?step ?fin ?xg) ?post);case post=> rintro c D⟨rfl,V,G,u⟩;exact BI (h D V G u)
  case xg=>
    refine⟨rfl,B,TK _ _,λi j h1 h2 L=>?_⟩;by_cases z:F=0
    . obtain rfl:i=j:=by omega
      exact Nz _
    .exact S i j h1 h2 (by omega)
  case fin=>grind
  case step=>
    rintro k c D N P⟨rfl,V,G,u⟩;rw[show Dx k n=k by omega]at u;refine A5 (Hy (HU (I:=λx c J=>J=D/\∃l r,c=(AB,l,r)/\l<=r/\r<=k/\r-l<=k-x/\(∀i,i<l->O.kle (BG kf (Aq D) (lo+i)) (BG kf (Aq D) (lo+k)))/\(∀i,r<=i->i<k->O.klt (BG kf (Aq D) (lo+k)) (BG kf (Aq D) (lo+i)))) (Q:=λc J=>J=D/\∃l r,c=(AB,l,r)/\l<=k/\(∀i,i<l->O.kle (BG kf (Aq D) (lo+i)) (BG kf (Aq D) (lo+k)))/\(∀i,l<=i->i<k->O.klt (BG kf (Aq D) (lo+k)) (BG kf (Aq D) (lo+i)))) ?i1 ?i2 ?i3) ?i4);case i3=>grind
    case i2=> rintro c J⟨rfl,l,r,rfl,h1,h2,L,W,Y⟩;grind
    case i1=>
      rintro x c J _ b⟨rfl,l,r,rfl,h1,h2,L,W,Y⟩;dsimp only;by_cases g:l>=r
      . rw[AMu g];obtain rfl:l=r:=by omega
        exact BI ⟨rfl,l,l,rfl,h2,W,Y⟩
      . rw[AMv g];refine A5 (QG C V (by omega) (by omega) ?_);cases e:O.blt (BG kf (Aq J) (lo+k)) (BG kf (Aq J) (lo+(l+r)/2))with |true=> refine BI ⟨rfl,l,(l+r)/2,rfl,by omega,by omega,by omega,W,λi M T=>?_⟩;exact KeyOrd.klt_of_klt_of_kle e (u _ _ (by omega) (by omega) (by omega))|false=>refine BI ⟨rfl,(l+r)/2+1,r,rfl,by omega,by omega,by omega,λi M=>?_,Y⟩;exact HC (u (lo+i) (lo+(l+r)/2) (by omega) (by omega) (by omega)) (show O.kle _ _ from e)
    case i4=>
      rintro c J⟨rfl,l,r,rfl,h1,W,Y⟩;show ER _ _ _ _ (moveDown' (lo+k) (lo+l)>>=λ_=>BC (Us (AB,()))) _ _;rw[moveDown'_eq];have U:lo+k<(Aq J).size:=by rw[V.kr];omega
      have H:lo+k-(lo+l)<=lo+k:=by omega
      refine A5 (JI (BI ⟨rfl,V.fm (bubble_perm _ _ _),G.ae ⟨rfl,λz hz=>?_⟩,?_⟩));.rw[AJw U _ H,AMv (by omega),AMv (by omega)]
      . rw[show Dx (k+1) n=k+1 by omega];intro i j M T d;rw[i9 U H,i9 U H];have Z:=λz X a=>by have:=W (z-lo) (by omega);rwa[show lo+(z-lo)=z by omega]at this
        have K:∀z,lo+l<=z->z<lo+k->O.klt (BG kf (Aq J) (lo+k)) (BG kf (Aq J) z):=λz X a=>by have:=Y (z-lo) (by omega) (by omega);rwa[show lo+(z-lo)=z by omega]at this
        repeat' split
        all_goals first |(exfalso;omega)|exact Nz _|exact Z _ (by omega) (by omega)|exact Kr (K _ (by omega) (by omega))|exact u _ _ (by omega) (by omega) (by omega)
def DW.qo{O:XN}{kf:AJ->O.α}{xs:Array A3}{lo n:Nat}(u:DW kf xs lo (lo+n))(h1:1<=n)(h:O.kle (BG kf xs (lo+n-1)) (BG kf xs (lo+n))):DW kf xs lo (lo+(n+1)):=λi j D J V=>by
  by_cases z:j=lo+n
  . subst z;by_cases U:i=lo+n;.subst U;exact Nz _
    .exact HC (u i _ D (by omega) (by omega)) h
  .exact u i j D J (by omega)
def N6{O:XN}(kf:AJ->O.α)(xs:Array A3)(lo hi:Nat):Prop:=∀i j,lo<=i->i<=j->j<hi->O.kle (BG kf xs j) (BG kf xs i)
def N6.qo{O:XN}{kf:AJ->O.α}{xs:Array A3}{lo n:Nat}(u:N6 kf xs lo (lo+n))(h1:1<=n)(h:O.kle (BG kf xs (lo+n)) (BG kf xs (lo+n-1))):N6 kf xs lo (lo+(n+1)):=λi j D J V=>by
  by_cases z:j=lo+n
  . subst z;by_cases U:i=lo+n;.subst U;exact Nz _
    .exact HC h (u i _ D (by omega) (by omega))
  .exact u i j D J (by omega)
def TM{a₀:Array A3}{st:CS}(B:CT κ a₀ st){lo:Nat}(hi:lo<=i)(D:j<=a₀.size):CT κ a₀ (Pt st (XQ (Aq st) i j ((j-i)/2)))/\IA lo st (Pt st (XQ (Aq st) i j ((j-i)/2))):=by refine⟨B.fm (mirror_perm _ _ _ _),rfl,λk J=>?_⟩;rw[AJx (by rw[B.kr];exact D),AMv ∎]
def TQ{κ:Sm}{O:XN}{kf:AJ->O.α}{a₀:Array A3}{st:CS}(B:CT κ a₀ st){i j:Nat}(D:j<=a₀.size)(h:∀k,i<=k->k<j->BG kf (Aq st) k=BG kf (Aq st) (j-1))(k:Nat):BG kf (XQ (Aq st) i j ((j-i)/2)) k=BG kf (Aq st) k:=by rw[Xj (by rw[B.kr];exact D)];grind
def jF{prog:CB}{w:Ba}{A:Ci}{E:AJ->AX->Prop}{s:AX}{κ:Sm}{O:XN}{kf:AJ->O.α}{a₀:Array A3}{st:CS}(C:GN prog w A s κ O kf a₀){lo D J:Nat}(hn:lo+D<=a₀.size)(G:1<=J)(h1:J<=D)(B:CT κ a₀ st)(u:DW kf (Aq st) lo (lo+J)){Q:Option (Option Nat)×Nat->CS->Prop}(h:∀n,J<=n->n<=D->DW kf (Aq st) lo (lo+n)->(n<D->O.klt (BG kf (Aq st) (lo+n)) (BG kf (Aq st) (lo+n-1)))->Q (AB,n) st){f:Nat->Option (Option Nat)×Nat->StateT CS Cr (ForInStep (Option (Option Nat)×Nat))}(Y:∀x c,f x c=(do match(<-Lu (lo+c.2) (lo+c.2-1))with |AA b=>if b=AD then BC (.done (AB,c.2))else BC (.yield (AB,c.2+1))|AB=>BC (.done (AA AB,c.2)))):ER (Aj prog w) A E s (Hk [J:D] (AB,J) f) Q st:=by
 refine HU (I:=λx c U=>U=st/\c=(AB,x)/\J<=x/\x<=D/\DW kf (Aq st) lo (lo+x)) ?_ ?_ (by grind)
 . rintro x c U Z F⟨rfl,rfl,h2,W,V⟩;rw[Y];refine A5 (QG C B (by omega) (by omega) ?_);cases e:O.blt _ _ with |true=>exact BI (h x h2 W V λ_=>e)|false=>exact BI ⟨rfl,rfl,by omega,by omega,V.qo (by omega) e⟩
 grind
abbrev IB:=Option (Option Nat)×Nat
def QH(lo:Nat)(c:IB):StateT CS Cr (ForInStep IB):=Lu (lo+c.2) (lo+c.2-1)>>=λo=>match o with|AA b=>if b=AD then BC (.done (AB,c.2))else BC (.yield (AB,c.2+1))|_=>BC (.done (AA AB,c.2))
def Mo(lo D n:Nat):StateT CS Cr (Option Nat):=Mh lo (lo+n)>>=λ_=>Hk [n:D] ((AB,n):IB) (λ_ c=>QH lo c)>>=λc=>match c.1 with|AA r=>BC r|AB=>BC (AA c.2)
abbrev Xi:=Option (Option Nat)×Nat×Nat
def i6(lo:Nat)(c:Xi):StateT CS Cr (ForInStep Xi):=Lu (lo+c.2.1) (lo+c.2.1-1)>>=λo=>match o with
 |AA b=>if b=AD then(if c.2.2>0 then Mh (lo+c.2.1-(c.2.2+1)) (lo+c.2.1)>>=λ_=>BC (.yield (AB,c.2.1+1,0))else BC (.yield (AB,c.2.1+1,0)))else Lu (lo+c.2.1-1) (lo+c.2.1)>>=λJ=>match J with |AA D=>if D=AD then BC (.done (AB,c.2.1,c.2.2))else BC (.yield (AB,c.2.1+1,c.2.2+1))|_=>BC (.done (AA AB,c.2.1,c.2.2))
 |_=>BC (.done (AA AB,c.2.1,c.2.2))
def TL(lo D n:Nat):StateT CS Cr (Option Nat):=liftM (rule "list.sort.descending-run")>>=λ_=>Hk [n+1:D] ((AB,n+1,0):Xi) (λ_ c=>i6 lo c)>>=λc=>match c.1 with|AA r=>BC r|AB=>if c.2.2>0 then Mh (lo+c.2.1-(c.2.2+1)) (lo+c.2.1)>>=λ_=>Mo lo D c.2.1 else Mo lo D c.2.1
def jG{a₀:Array A3}{st:CS}(C:GN prog w A s κ O kf a₀){lo:Nat}(hn:lo+D<=a₀.size)(W:1<=n)(h1:n<=D)(B:CT κ a₀ st)(V:N6 kf (Aq st) lo (lo+n))(h:∀m J,CT κ a₀ J->IA lo st J->1<=m->m<=D->DW kf (Aq J) lo (lo+m)->Q (AA m) J):ER (Aj prog w) A E s (Mo lo D n) Q st:=by
 refine A5 (JI ?_);obtain⟨U,Y⟩:=TM B (Aw lo) (show lo+n<=a₀.size by∎);have u:DW kf (XQ _ lo (lo+n) _) lo (lo+n):=λi j G H I=>by rw[Xj (by rw[B.kr];∎),Xj (by rw[B.kr];∎),AMu ∎,AMu ∎];exact V _ _ ∎ ∎ ∎
 refine A5 (jF C hn W h1 U u (λm Z F u2 _=>?_) λx c=>AMw (Lu _ _>>=.) ∎);exact BI ∎
def jD{prog:CB}{w:Ba}{A:Ci}{E:AJ->AX->Prop}{s:AX}{κ:Sm}{O:XN}{kf:AJ->O.α}{a₀:Array A3}{st:CS}(C:GN prog w A s κ O kf a₀){lo J n:Nat}(hn:lo+J<=a₀.size)(l:1<=n)(h1:n<J)(B:CT κ a₀ st)(d:∀k,lo<=k->k<lo+n->BG kf (Aq st) k=BG kf (Aq st) (lo+n-1))(q:O.klt (BG kf (Aq st) (lo+n)) (BG kf (Aq st) (lo+n-1))){Q:Option Nat->CS->Prop}(h:∀m D,CT κ a₀ D->IA lo st D->1<=m->m<=J->DW kf (Aq D) lo (lo+m)->Q (AA m) D):ER (Aj prog w) A E s (TL lo J n) Q st:=by
 unfold TL;refine A5 (Pw (H9 ⟨rfl,?_⟩));have S:=N6.qo (λi j F H K=>by rw[d i F (by omega),d j (by omega) K];exact Nz _) l (Kr q);refine A5 (Hy (HU (I:=λx c D=>∃e,c=(AB,x,e)/\n+1<=x/\x<=J/\e+1<=x/\CT κ a₀ D/\IA lo st D/\N6 kf (Aq D) lo (lo+x)/\∀k,lo+x-(e+1)<=k->k<lo+x->BG kf (Aq D) k=BG kf (Aq D) (lo+x-1)) (Q:=λc D=>∃x e,c=(AB,x,e)/\n+1<=x/\x<=J/\e+1<=x/\CT κ a₀ D/\IA lo st D/\N6 kf (Aq D) lo (lo+x)/\∀k,lo+x-(e+1)<=k->k<lo+x->BG kf (Aq D) k=BG kf (Aq D) (lo+x-1)) ?step ?fin ?xg) ?post);case xg=>exact⟨0,rfl,Aw _,h1,by omega,B,TK _ _,S,(by grind)⟩
 case fin=>grind
 case step=> rintro x c D o p⟨e,rfl,g,L,a,U,Y,Z,V⟩;unfold i6;dsimp only;refine A5 (QG C U (by omega) (by omega) ?_);cases b:O.blt (BG kf (Aq D) (lo+x)) _ with
  |true=>
   dsimp only;rw[AMu rfl];have T:∀ys:Array A3,(∀k,BG kf ys k=BG kf (Aq D) k)->N6 kf ys lo (lo+(x+1)):=λys f=>by have:=Z.qo (by omega) (Kr b);intro i j F H K;rw[f,f];exact this i j F H K
   by_cases G:e>0
   . rw[AMu G,AJ1];refine A5 (JI (BI ?_));obtain⟨M,P⟩:=TM U (show lo<=lo+x-(e+1)by omega) (show lo+x<=a₀.size by omega);exact⟨0,rfl,by omega,by omega,by omega,M,Y.ae P,T _ (TQ U (by omega) V),(by grind)⟩
   . rw[AMv G];exact BI (by grind)|false=> dsimp only;refine A5 (QG C U (by omega) (by omega) ?_);cases X:O.blt _ (BG kf (Aq D) (lo+x))with |true=>exact BI ⟨x,e,rfl,g,L,a,U,Y,Z,V⟩|false=> have r:=O.total _ _ X b;refine BI ⟨e+1,rfl,by omega,by omega,by omega,U,Y,Z.qo (by omega) X,λk F H=>?_⟩;grind
 case post=>
  rintro c D⟨x,e,rfl,g,L,a,U,Y,Z,V⟩;dsimp only;by_cases G:e>0
  . rw[AMu G,AJ1];obtain⟨M,P⟩:=TM U (show lo<=lo+x-(e+1)by omega) (show lo+x<=a₀.size by omega);refine jG C hn (by omega) L M (λi j F H K=>?_) λm W N R=>h m W N ((Y.ae P).ae R);rw[TQ U (by omega) V,TQ U (by omega) V];exact Z i j F H K
  . rw[AMv G];exact jG C hn (by omega) L U Z λm W N R=>h m W N (Y.ae R)
def jJ(e:D=m)(h:ER M A E s m Q t):ER M A E s D Q t:=by∎
def AGP{a₀:Array A3}{st:CS}(C:GN prog w A s κ O kf a₀){lo:Nat}(hn:lo+D<=a₀.size)(h1:1<=D)(B:CT κ a₀ st)(h:∀n J,CT κ a₀ J->IA lo st J->1<=n->n<=D->DW kf (Aq J) lo (lo+n)->Q (AA n) J):ER (Aj prog w) A E s (countRun' lo D) Q st:=by
  have f:DW kf (Aq st) lo (lo+1):=λi j V F g=>by
    obtain rfl:i=j:=by∎
    exact Nz _
  refine A5 (jF C hn (Aw _) h1 B f (λn H S u R=>?_) λx c=>AMw (Lu _ _>>=.) (funext λo=>by cases o<;>rfl));dsimp only;by_cases Z:n=D;. subst Z;rw[AMu (beq_self_eq_true n)];exact BI (h n st B (TK _ _) H S u)
  . rw[AMv (by simpa using Z)];by_cases P:n>1
    . rw[AMu P];refine A5 (QG C B ∎ ∎ ?_);cases b:O.blt _ _ with |true=>exact BI (h n st B (TK _ _) H S u)|false=>
        have W:=λk V F=>by refine KeyOrd.kle_antisymm (u k (lo+n-1) V ∎ ∎) (HC (show O.kle _ _ from b) (u lo k (Aw _) V F))
        refine A5 ?_;refine JI ?_;refine jJ (m:=TL lo D n) ?ag ?_;case ag=>exact(by
            refine AMw _ (funext λ_=>congr (AMw _ (AMw (Hk _ _) (funext λ_=>funext λc=>?_))) (funext λc=>?_))
            . refine AMw (Lu _ _>>=.) (funext λo=>?_);cases o with|none=>rfl|some b=>cases b with|true=>rfl|false=>exact AMw (Lu _ _>>=.) (funext λM=>by cases M<;>rfl)
            . obtain⟨I,K⟩:=c;have t3:∀n,Mo lo D n=(Mh lo (lo+n)>>=λ_=>Hk [n:D] ((AB,n):IB) _>>=λc=>match c.1 with|AA r=>BC r|AB=>BC (AA c.2)):=λ_=>rfl;have t4:∀n(X:Nat->IB->StateT CS Cr (ForInStep IB))(Y:IB->StateT CS Cr (Option Nat)),(∀x c,X x c=QH lo c)->(∀c,Y c=match c.1 with|AA r=>BC r|AB=>BC (AA c.2))->(Mh lo (lo+n)>>=λ_=>Hk [n:D] ((AB,n):IB) X>>=Y)=Mo lo D n:=λn X Y h1 h2=>by rw[t3,show X=λ_ c=>QH lo c from funext λx=>funext λc=>h1 x c,show Y=_ from funext h2]
              cases I with |some r=>rfl|none=>
                by_cases z:K.2>0
                . rw[AMu z,AMu z];refine AMw (Mh _ _>>=.) (funext λ_=>?_);exact t4 _ _ _ (λx c=>AMw _ (funext λo=>by cases o<;>rfl)) (λc=>by obtain⟨U,L⟩:=c;cases U<;>rfl)
                . rw[AMv z,AMv z];exact t4 _ _ _ (λx c=>AMw _ (funext λo=>by cases o<;>rfl)) (λc=>by obtain⟨U,L⟩:=c;cases U<;>rfl))
        obtain⟨T,d⟩:=TM B (Aw lo) (show lo+n<=a₀.size by∎);have G:=TQ B (i:=lo) (j:=lo+n) ∎ W;refine jD C hn H ∎ T (λk V F=>?_) ?_ λm N a e=>h m N a (d.ae e)
        . rw[G,G];exact W k V F
        . rw[G,G];exact R ∎
    . rw[AMv P];refine jJ (m:=TL lo D n) ?ag ?_;case ag=>exact(by
            refine AMw _ (funext λ_=>congr (AMw _ (AMw (Hk _ _) (funext λ_=>funext λc=>?_))) (funext λc=>?_))
            . refine AMw _ (funext λo=>?_);cases o with|none=>rfl|some b=>cases b with|true=>rfl|false=>exact AMw (Lu _ _>>=.) (funext λM=>by cases M<;>rfl)
            . obtain⟨I,K⟩:=c;have t3:∀n,Mo lo D n=(Mh lo (lo+n)>>=λ_=>Hk [n:D] ((AB,n):IB) _>>=λc=>match c.1 with|AA r=>BC r|AB=>BC (AA c.2)):=λ_=>rfl;have t4:∀n(X:Nat->IB->StateT CS Cr (ForInStep IB))(Y:IB->StateT CS Cr (Option Nat)),(∀x c,X x c=QH lo c)->(∀c,Y c=match c.1 with|AA r=>BC r|AB=>BC (AA c.2))->(Mh lo (lo+n)>>=λ_=>Hk [n:D] ((AB,n):IB) X>>=Y)=Mo lo D n:=λn X Y h1 h2=>by rw[t3,show X=λ_ c=>QH lo c from funext λx=>funext λc=>h1 x c,show Y=_ from funext h2]
              cases I with |some r=>rfl|none=>
                by_cases z:K.2>0
                . rw[AMu z,AMu z];refine AMw (Mh _ _>>=.) (funext λ_=>?_);exact t4 _ _ _ (λx c=>AMw _ (funext λo=>by cases o<;>rfl)) (λc=>by obtain⟨U,L⟩:=c;cases U<;>rfl)
                . rw[AMv z,AMv z];exact t4 _ _ _ (λx c=>AMw _ (funext λo=>by cases o<;>rfl)) (λc=>by obtain⟨U,L⟩:=c;cases U<;>rfl))
      obtain rfl:n=1:=by∎
      exact jD C hn H ∎ B (λk V F=>by rw[show k=lo+1-1 by∎]) (R ∎) h
def AGK:Bool->A3->Array A3->Nat->Nat->Nat->StateT CS Cr (Option Nat):=sortPriv%PySem.Builtin.gallop
def AGM:Array A3->Array A3->StateT CS Cr (Array A3):=sortPriv%PySem.Builtin.mergeLo
def AGL:Array A3->Array A3->StateT CS Cr (Array A3):=sortPriv%PySem.Builtin.mergeHi
def E1{prog:CB}{w:Ba}{A:Ci}{E:AJ->AX->Prop}{s:AX}{st:CS}{D:Array A3}{i:Nat}(hi:i<D.size){Q:A3->CS->Prop}(h:Q D[i] st):ER (Aj prog w) A E s (XO D i) Q st:=by rw[AFE,AM7 _ i hi];exact BI h
def Cf{O:XN}(kf:AJ->O.α)(left:Bool)(key:A3)(D:Array A3)(base i:Nat):Bool:=if left=AD then O.blt (BG kf D (base+i)) (kf key.1)else !O.blt (kf key.1) (BG kf D (base+i))
def DX{O:XN}{kf:AJ->O.α}{D:Array A3}{i:Nat}(hi:i<D.size):BG kf D i=kf D[i].1:=by unfold BG;grind
def AGN{a₀:Array A3}{st:CS}(C:GN prog w A s κ O kf a₀)(B:CT κ a₀ st){D:Array A3}(J:key∈a₀.toList)(V:∀p∈D.toList,p∈a₀.toList)(hi:base+i<D.size)(h:Q (AA (Cf kf left key D base i)) st):ER (Aj prog w) A E s (XO D (base+i)>>=λx=>if left=AD then lt' x key else lt' key x>>=λo=>BC (o.map λb=>!b)) Q st:=by refine A5 (E1 hi ?_);have U:D[base+i]∈a₀.toList:=V _ (by simp);unfold Cf at h;rw[DX hi]at h;cases left with|true=>exact QF C B U J h|false=>exact A5 (QF C B J U (BI h))
def AGI{O:XN}{kf:AJ->O.α}{left:Bool}{key:A3}{D:Array A3}{base n i j:Nat}(u:DW kf D base (base+n))(U:i<=j)(V:j<n)(h:Cf kf left key D base j=AD):Cf kf left key D base i=AD:=by have J:=u (base+i) (base+j) (by omega) (by omega) (by omega);unfold Cf at h⊢;cases left with|true=>exact KeyOrd.klt_of_kle_of_klt J h|false=>
 have h:O.kle (BG kf D (base+j)) (kf key.1):=by show O.blt _ _=AH;grind
 have:O.blt _ _=AH:=HC J h;grind
def N8{a₀:Array A3}{st:CS}(C:GN prog w A s κ O kf a₀)(B:CT κ a₀ st){D:Array A3}(m:key∈a₀.toList)(X:∀p∈D.toList,p∈a₀.toList)(Z:base+n<=D.size)(F:hint<n)(u:DW kf D base (base+n))(h:∀k,k<=n->(∀i,i<k->Cf kf left key D base i=AD)->(∀i,k<=i->i<n->Cf kf left key D base i=AH)->Q (AA k) st):ER (Aj prog w) A E s (AGK left key D base n hint) Q st:=by
  have N:∀{i:Nat}{Q:Option Bool->CS->Prop},i<n->Q (AA (Cf kf left key D base i)) st->ER (Aj prog w) A E s _ Q st:=λhi q=>AGN C B m X ∎ q;have K:∀i j,i<=j->j<n->Cf kf left key D base j=AD->Cf kf left key D base i=AD:=λi j V U G=>AGI u V U G;refine A5 (N F ?_);have fin:∀lo hi,lo<=hi->hi<=n->(∀i,i<lo->Cf kf left key D base i=AD)->(∀i,hi<=i->i<n->Cf kf left key D base i=AH)->∀{f:Nat->Option (Option Nat)×Nat×Nat->StateT CS Cr (ForInStep (Option (Option Nat)×Nat×Nat))}{g:Option (Option Nat)×Nat×Nat->StateT CS Cr (Option Nat)},(∀x c,f x c=if c.2.1>=c.2.2 then BC (.done (AB,c.2.1,c.2.2))else(XO D (base+(c.2.1+(c.2.2-c.2.1)/2))>>=λx=>if left=AD then lt' x key else lt' key x>>=λo=>BC (o.map λb=>!b))>>=λo=>match o with |AA b=>if b=AD then BC (.yield (AB,c.2.1+(c.2.2-c.2.1)/2+1,c.2.2))else BC (.yield (AB,c.2.1,c.2.1+(c.2.2-c.2.1)/2))|AB=>BC (.done (AA AB,c.2.1,c.2.2)))->(∀c,g (AB,c)=BC (AA c.2))->ER (Aj prog w) A E s (Hk [:n] ((AB,lo,hi):Option (Option Nat)×Nat×Nat) f>>=g) Q st:=by
    intro lo hi h1 h2 S T f g a d;refine A5 (Hy (HU (I:=λx c J=>J=st/\∃l r,c=(AB,l,r)/\l<=r/\r<=n/\r-l<=n-x/\(∀i,i<l->Cf kf left key D base i=AD)/\(∀i,r<=i->i<n->Cf kf left key D base i=AH)) (Q:=λc J=>J=st/\∃l,c=(AB,l,l)/\l<=n/\(∀i,i<l->Cf kf left key D base i=AD)/\(∀i,l<=i->i<n->Cf kf left key D base i=AH)) ?_ ?_ ⟨rfl,lo,hi,rfl,h1,h2,∎,S,T⟩) ?_)
    . rintro x c J _ H⟨rfl,l,r,rfl,V,U,G,W,Y⟩;rw[a];dsimp only;by_cases g:l>=r
      . rw[AMu g];obtain rfl:l=r:=by(clear G U H h2 h1 F Z;∎)
        exact BI ⟨rfl,l,rfl,U,W,Y⟩
      . rw[AMv g];refine A5 (N (by(clear G V H h2 h1 F Z;∎)) ?_);cases e:Cf kf left key D base (l+(r-l)/2)with |true=>exact BI ⟨rfl,_,r,rfl,by(clear G U V H h2 h1 F Z;∎),U,by(clear U V h2 h1 F Z;∎),λi z=>K i _ ∎ (by(clear z G V H h2 h1 F Z;∎)) e,Y⟩|false=>exact BI ⟨rfl,l,_,rfl,by(clear g G U V H h2 h1 F Z;∎),by(clear G V H h2 h1 F Z;∎),by(clear U V h2 h1 F Z;∎),W,λi R M=>by cases z:Cf kf left key D base i with |false=>rfl|true=>rw[K _ i R M z]at e;cases e⟩
    . rintro c J⟨rfl,l,r,rfl,V,U,G,W,Y⟩;obtain rfl:l=r:=by(clear U h2 h1 F Z;∎)
      exact⟨rfl,l,rfl,U,W,Y⟩
    . rintro c J⟨rfl,l,rfl,U,W,Y⟩;rw[d];exact BI (h l U W Y)
  cases e:Cf kf left key D base hint with |true=>
    refine A5 (Hy (HU (I:=λx c J=>J=st/\∃l o,c=(AB,l,o)/\l<o/\hint+l<n/\x+1<=o/\Cf kf left key D base (hint+l)=AD) (Q:=λc J=>J=st/\∃l o,c=(AB,l,o)/\l<o/\hint+l<n/\Cf kf left key D base (hint+l)=AD/\(o>=n-hint\/(hint+o<n/\Cf kf left key D base (hint+o)=AH))) ?_ ?_ ⟨rfl,0,1,rfl,∎,∎,∎,e⟩) ?_)
    . rintro x c J _ H⟨rfl,l,o,rfl,V,U,G,W⟩;dsimp only;by_cases g:o>=n-hint;. rw[AMu g];exact BI ⟨rfl,l,o,rfl,V,U,W,.inl g⟩
      . rw[AMv g];refine A5 (N ∎ ?_);cases L:Cf kf left key D base (hint+o)with|true=>exact BI ⟨rfl,o,_,rfl,∎,∎,∎,L⟩|false=>exact BI ⟨rfl,l,o,rfl,V,U,W,.inr ⟨∎,L⟩⟩
    . rintro c J⟨rfl,l,o,rfl,V,U,G,W⟩;exact⟨rfl,l,o,rfl,V,U,W,.inl ∎⟩
    . rintro c J⟨rfl,l,o,rfl,V,U,W,Y⟩;refine fin (hint+l+1) (hint+Dx o (n-hint)) ∎ ∎ (λi z=>K i _ ∎ U W) (λi R M=>?_) (λx c=>?_) (λc=>rfl)
      . rcases Y with Y|⟨Y,P⟩;.∎
        .cases z:Cf kf left key D base i with|false=>rfl|true=>rw[K (hint+o) i (by(clear Y U V Z;∎)) M z]at P;cases P
      . dsimp only;split;.rfl
        .exact AMw (_>>=.) (funext λo=>by cases o<;>rfl)|false=>
    refine A5 (Hy (HU (I:=λx c J=>J=st/\∃l o,c=(AB,l,o)/\l<o/\l<=hint/\x+1<=o/\Cf kf left key D base (hint-l)=AH) (Q:=λc J=>J=st/\∃l o,c=(AB,l,o)/\l<o/\l<=hint/\Cf kf left key D base (hint-l)=AH/\(o>=hint+1\/(o<=hint/\Cf kf left key D base (hint-o)=AD))) ?_ ?_ ⟨rfl,0,1,rfl,∎,∎,∎,e⟩) ?_)
    . rintro x c J _ H⟨rfl,l,o,rfl,V,U,G,W⟩;dsimp only;by_cases g:o>=hint+1
      . rw[AMu g];exact BI ⟨rfl,l,o,rfl,V,U,W,.inl g⟩
      . rw[AMv g];refine A5 (N ∎ ?_);cases L:Cf kf left key D base (hint-o)with|false=>exact BI ⟨rfl,o,_,rfl,∎,∎,∎,L⟩|true=>exact BI ⟨rfl,l,o,rfl,V,U,W,.inr ⟨∎,L⟩⟩
    . rintro c J⟨rfl,l,o,rfl,V,U,G,W⟩;exact⟨rfl,l,o,rfl,V,U,W,.inl ∎⟩
    . rintro c J⟨rfl,l,o,rfl,V,U,W,Y⟩;refine fin (hint+1-Dx o (hint+1)) (hint-l) (by(clear Y F Z;∎)) ∎ (λi z=>?_) (λi R M=>?_) (λx c=>?_) (λc=>rfl)
      . rcases Y with Y|⟨Y,P⟩;. (clear U V F Z;∎)
        .exact K i _ (by(clear U V F Z;∎)) ∎ P
      .cases z:Cf kf left key D base i with|false=>rfl|true=>rw[K (hint-l) i ∎ M z]at W;cases W
      . dsimp only;split;.rfl
        .exact AMw (_>>=.) (funext λo=>by cases o<;>rfl)
structure Dm(R:A3->A3->Prop)(la lb lo:List A3)(i j:Nat):Prop where
 gv:lo.Perm (la.take i++lb.take j)jc:lo.Pairwise R
 a:∀x∈lo,∀y∈la.drop i,R x y
 b:∀x∈lo,∀y∈lb.drop j,R x y
def Dm.ly{lo:List A3}(h:Dm R la lb lo i j):Dm R lb la lo j i:=⟨h.gv.trans gG,h.jc,h.b,h.a⟩
def Dm.ki{la lb lo:List A3}(h:Dm R la lb lo i j)(pa:la.Pairwise R)(V:∀x∈(la.drop i).take k,∀y∈lb.drop j,R x y):Dm R la lb (lo++(la.drop i).take k) (i+k) j:=by
  have Z:((la.drop i).take k++(la.drop i).drop k).Pairwise R:=by rw[XH];exact pa.sublist (List.drop_sublist _ _)
  obtain⟨p1,_,Y⟩:=Me.mp Z;have W:la.drop (i+k)=(la.drop i).drop k:=by rw[AEo]
  refine⟨?_,Me.mpr ⟨h.jc,p1,λx V y D=>h.a x V y (List.mem_of_mem_take D)⟩,λx U y D=>?_,λx U y D=>?_⟩
  . rw[AJd,Gg];refine(h.gv.append_right _).trans ?_;rw[Gg];exact AEl _ gG
  . rw[W]at D;rcases Cb.mp U with q|q;.exact h.a x q y (AJY D)
    .exact Y x q y D
  . rcases Cb.mp U with q|q;.exact h.b x q y D
    .exact V x q y D
def Dm.my{la lb lo:List A3}(h:Dm R la lb lo i j)(pb:lb.Pairwise R)(D:∀x∈(lb.drop j).take k,∀y∈la.drop i,R x y):Dm R la lb (lo++(lb.drop j).take k) i (j+k):=(h.ly.ki pb D).ly
def FY(R:A3->A3->Prop)(la lb l:List A3):Prop:=l.Perm (la++lb)/\l.Pairwise R
def Dm.ql{la lb lo:List A3}(h:Dm R la lb lo i j)(pa:la.Pairwise R)(pb:lb.Pairwise R)(Y:∀x∈la.drop i,∀y∈lb.drop j,R x y):FY R la lb (lo++la.drop i++lb.drop j):=by
  refine⟨?_,Me.mpr ⟨Me.mpr ⟨h.jc,∎,h.a⟩,∎,λx D y U=>?_⟩⟩
  . refine((h.gv.append_right _).append_right _).trans ?_;have V:la=la.take i++la.drop i:=(by simp_all);have W:lb=lb.take j++lb.drop j:=(by simp);∎
  . rcases Cb.mp D with q|q;.exact h.b x q y U
    ∎
def FY.ly(h:FY R lb la l):FY R la lb l:=⟨h.1.trans gG,h.2⟩
def jI{out a:Array A3}:(out++a.extract i (i+k)).toList=out.toList++(a.toList.drop i).take k:=by simp_all
def TR{a:Array A3}:(a.extract i).toList=a.toList.drop i:=by simp;exact gL (by simp)
def QE{a:Array A3}(hi:i<a.size):(a.toList.drop i).take 1=[a[i]]:=by rw[Pm ∎];simp
def jH{out a:Array A3}(hi:i<a.size):(out.push a[i]).toList=out.toList++(a.toList.drop i).take 1:=by rw[QE hi];simp
def BS{O:XN}(kf:AJ->O.α):A3->A3->Prop:=λp q=>O.kle (kf p.1) (kf q.1)
def K7{O:XN}{kf:AJ->O.α}{a:Array A3}(h:a.toList.Pairwise (BS kf)){lo hi:Nat}(D:hi<=a.size):DW kf a lo hi:=λi j J U V=>by
 by_cases z:i=j;.rw[z];exact Nz _
 . rw[DX _,DX _];have:=Sb.mp h i j (by grind) (by grind) (by omega);assumption
def N7{a:Array A3}(h:p∈a.toList.drop i):∃k,∃(D:i+k<a.size),p=a[i+k]:=by obtain⟨k,D,e⟩:=Nv.mp h;∎
def QC{a:Array A3}(h:p∈(a.toList.drop i).take k):∃m,m<k/\∃(D:i+m<a.size),p=a[i+m]:=by obtain⟨m,J,e⟩:=Nv.mp h;∎
section
variable{κ:Sm}{a₀:Array A3}{st:CS}
structure Ha(κ:Sm)(a₀:Array A3)(st st':CS):Prop where
 sb:CT κ a₀ st'
 xx:Aq st'=Aq st
 lq:Bc st'=Bc st
end
def Ha.wt{st:CS}(x:Ha κ a₀ st D)(g:Nat):Ha κ a₀ st (gP (gR D) (Aq D) (Bc D) g (Pr D)):=⟨⟨x.sb.gv,x.sb.cy,x.sb.gp⟩,x.xx,x.lq⟩
def Ck[Decidable c]{st:CS}(h:c)(k:ER M A E s x Q st):ER M A E s (if c then x else y) Q st:=by∎
def C4[Decidable c]{st:CS}(h:¬c)(k:ER M A E s y Q st):ER M A E s (if c then x else y) Q st:=by∎
def AGS{a₀:Array A3}{st:CS}(C:GN prog w A s κ O kf a₀)(B:CT κ a₀ st){a b:Array A3}(ha:∀p∈a.toList,p∈a₀.toList)(hb:∀p∈b.toList,p∈a₀.toList)(a1:1<=a.size)(b1:1<=b.size)(pa:a.toList.Pairwise (BS kf))(pb:b.toList.Pairwise (BS kf))(first:∀p∈a.toList,BS kf b[0] p)(D:∀p∈b.toList,BS kf p a[a.size-1])(h:∀m H,Ha κ a₀ st H->FY (BS kf) a.toList b.toList m.toList->Q m H):ER (Aj prog w) A E s (AGM a b) Q st:=by
  have N:∀{out:Array A3}{U W:Nat},Dm (BS kf) a.toList b.toList out.toList U W->(W=b.size\/U=a.size)->FY (BS kf) a.toList b.toList (out++a.extract U++b.extract W).toList:=λ{out U W}j e=>by
    rw[ZJ,ZJ,TR,TR];refine j.ql pa pb λx Z y L=>?_;rcases e with rfl|rfl;.rw[AJL (by simp)]at L;cases L
    .rw[AJL (by simp)]at Z;cases Z
  have o:∀{out:Array A3}{U W:Nat},Dm (BS kf) a.toList b.toList out.toList U W->U+1=a.size->FY (BS kf) a.toList b.toList (out++b.extract W++a.extract U).toList:=λ{out U W}j e=>by
    rw[ZJ,ZJ,TR,TR];refine(j.ly.ql pb pa λx Z y L=>?_).ly;obtain⟨k,d,rfl⟩:=N7 L;have:k=0:=by∎
    subst this;have:=D x (AJY Z);simpa[show a.size-1=U by∎]using this
  have am:∀{i:Nat}(hi:i<a.size),a[i]∈a₀.toList:=λhi=>ha _ (by simp);have bm:∀{i:Nat}(hi:i<b.size),b[i]∈a₀.toList:=λhi=>hb _ (by simp);have la:∀{i k:Nat}(d:i+k<a.size),BS kf (a[i]'∎) a[i+k]:=λ{i k}d=>by have:=K7 pa (lo:=0) (Aw _) i (i+k) ∎ ∎ d;rw[DX (by∎:i<a.size),DX d]at this;exact this
  have lb:∀{i k:Nat}(d:i+k<b.size),BS kf (b[i]'∎) b[i+k]:=λ{i k}d=>by have:=K7 pb (lo:=0) (Aw _) i (i+k) ∎ ∎ d;rw[DX (by∎:i<b.size),DX d]at this;exact this
  have oneB:∀{out:Array A3}{U W:Nat}(h1:U<a.size)(h2:W<b.size),Dm (BS kf) a.toList b.toList out.toList U W->BS kf b[W] a[U]->Dm (BS kf) a.toList b.toList (out.push b[W]).toList U (W+1):=λ{out U W}h1 h2 j r=>by rw[jH h2];refine j.my pb λx Z y L=>?_;rw[QE h2,Cd]at Z;obtain⟨k,d,rfl⟩:=N7 L;rw[Z];exact HC r (la d)
  have oneA:∀{out:Array A3}{U W:Nat}(h1:U<a.size)(h2:W<b.size),Dm (BS kf) a.toList b.toList out.toList U W->BS kf a[U] b[W]->Dm (BS kf) a.toList b.toList (out.push a[U]).toList (U+1) W:=λ{out U W}h1 h2 j r=>by rw[jH h1];refine j.ki pa λx Z y L=>?_;rw[QE h1,Cd]at Z;obtain⟨k,d,rfl⟩:=N7 L;rw[Z];exact HC r (lb d)
  refine A5 (Pw (H9 ⟨rfl,?_⟩));refine A5 (E1 (by∎:0<b.size) ?_);have j0:Dm (BS kf) a.toList b.toList (#[b[0]]:Array A3).toList 0 1:=by
    refine⟨?_,by simp,λx Z y L=>?_,λx Z y L=>?_⟩
    . rw[<-QE (by∎:0<b.size)];simp
    .simp at Z L;subst Z;exact first y (by simpa using L)
    . simp only[Cd]at Z;obtain⟨k,d,rfl⟩:=N7 L;rw[Z];have:=lb (i:=0) (k:=1+k) ∎;simpa using this
  by_cases e1:1=b.size;. refine Ck (by simpa using e1) ?_;exact BI (h _ st ⟨B,rfl,rfl⟩ (N j0 (.inl e1)))
  refine C4 (by simpa using e1) ?_;by_cases e2:0+1=a.size;. refine Ck (by simpa using e2) ?_;exact BI (h _ st ⟨B,rfl,rfl⟩ (o j0 e2))
  refine C4 (by simpa using e2) ?_;refine A5 (Lv ?_);refine A5 (Hy (HU (I:=λx c H=>Ha κ a₀ st H/\∃out U W g,c=(AB,out,U,W,g)/\Dm (BS kf) a.toList b.toList out.toList U W/\U+1<a.size/\W<b.size/\x+1<=U+W) (Q:=λc H=>Ha κ a₀ st H/\∃r,c.1=AA r/\FY (BS kf) a.toList b.toList r.toList) ?step ?fin ?xg) ?post);case xg=>exact⟨⟨B,rfl,rfl⟩,_,0,1,_,rfl,j0,∎,∎,∎⟩
  case fin=> rintro c H⟨S,out,U,W,g,rfl,j,h1,h2,h3⟩;∎
  case post=> rintro c H⟨S,r,e,f⟩;obtain⟨c1,c2⟩:=c;obtain rfl:c1=AA r:=e;exact BI (h r H S f)
  case step=>
    rintro x c st1 _ Z⟨S,out,U,W,g,rfl,j,h1,h2,h3⟩;refine A5 (Hy (HU (I:=λy c H=>H=st1/\∃K V F p q,c=(AB,K,V,F,p,q)/\Dm (BS kf) a.toList b.toList K.toList V F/\V+1<a.size/\F<b.size/\U+W+y<=V+F) (Q:=λc H=>H=st1/\((∃r,c.1=AA r/\FY (BS kf) a.toList b.toList r.toList)\/∃K V F p q,c=(AB,K,V,F,p,q)/\Dm (BS kf) a.toList b.toList K.toList V F/\V+1<a.size/\F<b.size/\U+W+1<=V+F)) ?s1 ?s2 ?s3) ?s4);case s3=>exact⟨rfl,out,U,W,0,0,rfl,j,h1,h2,Aw _⟩
    case s2=> rintro c H⟨rfl,K,V,F,p,q,rfl,j',g1,P,g3⟩;exact⟨rfl,.inr ⟨K,V,F,p,q,rfl,j',g1,P,∎⟩⟩
    case s1=> rintro y c H _ L⟨rfl,K,V,F,p,q,rfl,j',g1,P,g3⟩;refine A5 (E1 P (A5 (E1 (by∎:V<a.size) (A5 (QF C S.sb (bm P) (am ∎) ?_)))));cases e:O.blt (kf b[F].1) (kf (a[V]'∎).1)with
      |true=>
        refine Ck rfl ?_;refine A5 (E1 P ?_);have j2:=oneB ∎ P j' (Kr e);by_cases z:F+1=b.size
        . refine Ck (by simpa using z) ?_;exact BI ⟨rfl,.inl ⟨_,rfl,N j2 (.inl z)⟩⟩
        . refine C4 (by simpa using z) ?_;split;.exact BI ⟨rfl,.inr ⟨_,_,_,_,_,rfl,j2,g1,by dsimp only;∎,by dsimp only;∎⟩⟩
          .exact BI ⟨rfl,_,_,_,_,_,rfl,j2,g1,by dsimp only;∎,by dsimp only;∎⟩|false=>
        refine C4 D5 ?_;refine A5 (E1 (by∎:V<a.size) ?_);have j2:=oneA ∎ P j' e;by_cases z:V+1+1=a.size;. refine Ck (by simpa using z) ?_;exact BI ⟨rfl,.inl ⟨_,rfl,o j2 z⟩⟩
        . refine C4 (by simpa using z) ?_;split;.exact BI ⟨rfl,.inr ⟨_,_,_,_,_,rfl,j2,by dsimp only;∎,P,by dsimp only;∎⟩⟩
          .exact BI ⟨rfl,_,_,_,_,_,rfl,j2,by dsimp only;∎,P,by dsimp only;∎⟩
    case s4=>
      rintro c H⟨rfl,⟨r,e,f⟩|⟨K,V,F,p,q,rfl,j',g1,P,g3⟩⟩;. obtain⟨c1,c2⟩:=c;obtain rfl:c1=AA r:=e;exact BI ⟨S,r,rfl,f⟩
      refine A5 (Pw (H9 ⟨rfl,?_⟩));refine A5 (Hy (HU (I:=λy c st2=>Ha κ a₀ st st2/\∃o2 i2 k2 m2 p q,c=(AB,o2,i2,k2,m2,p,q)/\Dm (BS kf) a.toList b.toList o2.toList i2 k2/\i2+1<a.size/\k2<b.size/\U+W+1<=i2+k2) (Q:=λc st2=>Ha κ a₀ st st2/\((∃r,c.1=AA r/\FY (BS kf) a.toList b.toList r.toList)\/∃o2 i2 k2 m2 p q,c=(AB,o2,i2,k2,m2,p,q)/\Dm (BS kf) a.toList b.toList o2.toList i2 k2/\i2+1<a.size/\k2<b.size/\U+W+1<=i2+k2)) ?t1 ?t2 ?t3) ?t4);case t3=>exact⟨S,K,V,F,_,p,q,rfl,j',g1,P,g3⟩
      case t2=> rintro c st2⟨S2,r⟩;exact⟨S2,.inr r⟩
      case t4=>
        rintro c st2⟨S2,⟨r,e,f⟩|⟨o2,i2,k2,m2,p,q,rfl,j2,f1,f2,f3⟩⟩
        . obtain⟨c1,c2⟩:=c;obtain rfl:c1=AA r:=e;exact BI ⟨S2,r,rfl,f⟩
        .refine A5 (JI (BI ⟨S2.wt _,o2,i2,k2,_,rfl,j2,f1,f2,∎⟩))
      case t1=>
        rintro y c st2 _ L⟨S2,o2,i2,k2,m2,p,q,rfl,j2,f1,f2,f3⟩;refine(λ(key:∀m3:Nat,(?G:Nat->Prop) m3)=>?u) ?v;case u=>
          by_cases z:m2>1
          . refine Ck z ?_;generalize m2-1=m3;exact key m3
          . refine C4 z ?_;generalize m2=m3;exact key m3
        case v=>
          intro m3;refine A5 (JI ?_);have S3:=S2.wt m3;refine A5 (E1 f2 ?_);refine(λ(key:∀(k i3:Nat)(o3:Array A3),Dm (BS kf) a.toList b.toList o3.toList i3 k2->(∀m(R:m<a.size),i3<=m->BS kf b[k2] a[m])->i3+1<a.size->U+W+1<=i3+k2->(?G2:Nat->Nat->Array A3->Prop) k i3 o3)=>?u2) ?v2;case u2=>
            refine A5 (N8 C S3.sb (bm f2) ha (by dsimp only;∎) (by dsimp only;∎) (K7 pa (by dsimp only;∎)) λk d bl bg=>?_);dsimp only at d;have T:∀m,m<k->∀(R:i2+m<a.size),BS kf a[i2+m] b[k2]:=λm z R=>by have:=bl m z;unfold Cf at this;rw[AMv D5,DX R]at this;show O.blt _ _=AH;simpa using this
            have l:∀m,k<=m->∀(R:i2+m<a.size),BS kf b[k2] a[i2+m]:=λm z R=>by have:=bg m z (by(clear z T bg bl d key f3 f2 L g3 P g1 h3 h2 h1 Z e2 e1 j0 D first b1 a1;dsimp only;∎));unfold Cf at this;rw[AMv D5,DX R]at this;exact Kr (by show O.blt _ _=AD;simpa using this)
            have j3:Dm (BS kf) a.toList b.toList (o2++a.extract i2 (i2+k)).toList (i2+k) k2:=by rw[jI];refine j2.ki pa λx Z y L=>?_;obtain⟨m,R,hm2,rfl⟩:=QC Z;obtain⟨m',hm',rfl⟩:=N7 L;exact HC (T m R hm2) (lb hm')
            have pre:(k>0/\i2+k+1=a.size)\/(k>0/\i2+k=a.size)\/i2+k+1<a.size:=by(clear l T bg bl key f3 f2 L g3 P g1 h3 h2 h1 Z e2 e1 j0 D first b1 a1;∎)
            rcases pre with⟨zk,X⟩|⟨zk,X⟩|X;. refine Ck zk (Ck (by simpa using X) ?_);exact BI ⟨S3,.inl ⟨_,rfl,o j3 X⟩⟩
            . refine Ck zk (C4 (by simp;∎) (Ck (by simpa using X) ?_));exact BI ⟨S3,.inl ⟨_,rfl,N j3 (.inr X)⟩⟩
            have t:∀m(R:m<a.size),i2+k<=m->BS kf b[k2] a[m]:=λm R z=>by have:=l (m-i2) (by(clear R X l T bg bl d key f3 f2 f1 L g3 P g1 h3 h2 h1 Z e2 e1 j0 D first b1 a1;∎)) (by(clear X l T bg bl d key f3 f2 f1 L g3 P g1 h3 h2 h1 Z e2 e1 j0 D first b1 a1;∎));simpa[show i2+(m-i2)=m by(clear this R X l T bg bl d key f3 f2 f1 L g3 P g1 h3 h2 h1 Z e2 e1 j0 D first b1 a1;∎)]using this
            by_cases zk:k>0
            . refine Ck zk (C4 (by simp;∎) (C4 (by simp;∎) ?_));generalize o2++a.extract i2 (i2+k)=o3 at j3⊢;have n:U+W+1<=(i2+k)+k2:=by∎
              generalize i2+k=i3 at j3 t X n⊢;exact key k i3 o3 j3 t X n
            . refine C4 zk ?_;have zk0:k=0:=by(clear t X l T bg bl d key f3 f2 f1 L g3 P g1 h3 h2 h1 Z e2 e1 j0 D first b1 a1;∎)
              have eo:o2++a.extract i2 (i2+k)=o2:=by rw[zk0];simp;∎
              rw[eo,zk0,XI]at j3;rw[zk0,XI]at t X;exact key k i2 o2 j3 t X f3
          case v2=>
            intro k i3 o3 j3 t X n;have hi3:i3<a.size:=by∎
            refine A5 (E1 f2 ?_);have j4:=oneB ∎ f2 j3 (t i3 ∎ (Aw _));by_cases z3:k2+1=b.size;. refine Ck (by simpa using z3) ?_;exact BI ⟨S3,.inl ⟨_,rfl,N j4 (.inl z3)⟩⟩
            refine C4 (by simpa using z3) ?_;refine A5 (E1 (by∎:i3<a.size) ?_);refine(λ(key:∀(k' k5:Nat)(o5:Array A3),Dm (BS kf) a.toList b.toList o5.toList i3 k5->(∀m(R:m<b.size),k5<=m->BS kf (a[i3]'hi3) b[m])->k5<b.size->U+W+1<=i3+k5->(?G3:Nat->Nat->Array A3->Prop) k' k5 o5)=>?u3) ?v3;case u3=>
              refine A5 (N8 C S3.sb (am ∎) hb (by dsimp only;∎) (by(clear key hi3 n X f3 f1 L g3 P g1 h3 h2 h1 Z e2 e1 j0 D first b1 a1;dsimp only;∎)) (K7 pb (by dsimp only;∎)) λk' hk' bl' bg'=>?_);dsimp only at hk';have M:∀m,m<k'->∀(R:k2+1+m<b.size),BS kf b[k2+1+m] (a[i3]'∎):=λm z R=>by have:=bl' m z;unfold Cf at this;rw[AMu rfl,DX R]at this;exact Kr this
              have Y:∀m(R:m<b.size),k2+1+k'<=m->BS kf (a[i3]'∎) b[m]:=λm R z=>by
                have:=bg' (m-(k2+1)) (by(clear R M bg' bl' hk' key z3 j4 hi3 n X t f3 f2 f1 L g3 P g1 h3 h2 h1 Z e2 e1 j0 D first b1 a1;∎)) (by(clear M bg' bl' hk' key z3 hi3 n X f3 f1 L g3 P g1 h3 h2 h1 Z e2 e1 j0 D first b1 a1;dsimp only;∎));unfold Cf at this;rw[AMu rfl]at this;have e:k2+1+(m-(k2+1))=m:=by(clear this R M bg' bl' hk' key z3 j4 hi3 n X t f3 f2 f1 L g3 P g1 h3 h2 h1 Z e2 e1 j0 D first b1 a1;∎)
                rw[e,DX R]at this;exact this
              have j5:Dm (BS kf) a.toList b.toList (o3.push b[k2]++b.extract (k2+1) (k2+1+k')).toList i3 (k2+1+k'):=by rw[jI];refine j4.my pb λx Z y L=>?_;obtain⟨m,R,hm2,rfl⟩:=QC Z;obtain⟨m',hm',rfl⟩:=N7 L;exact HC (M m R hm2) (la hm')
              have pre:(k'>0/\k2+1+k'=b.size)\/k2+1+k'<b.size:=by(clear Y M bg' bl' key hi3 n X f3 f1 L g3 P g1 h3 h2 h1 Z e2 e1 j0 D first b1 a1;∎)
              rcases pre with⟨zk',z4⟩|z4
              . refine Ck zk' (Ck (by simpa using z4) ?_);exact BI ⟨S3,.inl ⟨_,rfl,N j5 (.inl z4)⟩⟩
              have f4':U+W+1<=i3+(k2+1+k'):=by∎
              by_cases zk':k'>0
              . refine Ck zk' (C4 (by simp;∎) ?_);generalize o3.push b[k2]++b.extract (k2+1) (k2+1+k')=o5 at j5⊢;generalize k2+1+k'=k5 at j5 Y z4 f4'⊢;exact key k' k5 o5 j5 Y z4 f4'
              . refine C4 zk' ?_;have zk0:k'=0:=by(∎)
                have eo:o3.push b[k2]++b.extract (k2+1) (k2+1+k')=o3.push b[k2]:=by rw[zk0];simp;(clear zk0 zk' f4' z4 Y M bg' bl' hk' key z3 hi3 n X f3 f1 L g3 P g1 h3 h2 h1 Z e2 e1 j0 D first b1 a1;∎)
                rw[eo,zk0,XI]at j5;rw[zk0,XI]at Y z4 f4';exact key k' _ _ j5 Y z4 f4'
            case v3=>
              intro k' k5 o5 j5 Y z4 f4';refine A5 (E1 (by∎:i3<a.size) ?_);have j6:=oneA ∎ z4 j5 (Y k5 z4 (Aw _));by_cases z5:i3+1+1=a.size;. refine Ck (by simpa using z5) ?_;exact BI ⟨S3,.inl ⟨_,rfl,o j6 z5⟩⟩
              refine C4 (by simpa using z5) ?_;by_cases z6:(Af (k<7)&&Af (k'<7))=AD;. refine Ck z6 ?_;exact BI ⟨S3,.inr ⟨_,_,_,_,_,_,rfl,j6,∎,z4,∎⟩⟩
              . refine C4 z6 ?_;exact BI ⟨S3,_,_,_,_,_,_,rfl,j6,∎,z4,∎⟩
def QB(a:Array A3)(h:n<=a.size):a.toList.reverse.drop (a.size-n)=(a.toList.take n).reverse:=by rw[List.drop_reverse];∎
def Jz{a:Array A3}(h:n<=a.size)(J:x∈a.toList.reverse.drop (a.size-n)):∃m,∃(D:m<a.size),m<n/\x=a[m]:=by obtain⟨m,D,e⟩:=Nv.mp J;∎
def QI(a:Array A3)(h:n<=a.size)(D:t<=n):(a.toList.reverse.drop (a.size-n)).take (n-t)=(a.extract t n).toList.reverse:=by rw[QB a h,List.take_reverse];simp;rw[List.drop_take];∎
def QD(a:Array A3)(h:n<=a.size)(h1:1<=n):(a.toList.reverse.drop (a.size-n)).take 1=[a[n-1]]:=by have e:=QI a h (show n-1<=n by∎);rw[show n-(n-1)=1 by∎]at e;rw[e];have:=QE (a:=a) (i:=n-1) ∎;simp;∎
def i7{la lb l:List A3}(h:FY (λp q=>R q p) la.reverse lb.reverse l.reverse):FY R la lb l:=by refine⟨(AJb l).symm.trans (h.1.trans ∎),?_⟩;exact AEy.mp h.2
abbrev Gm{O:XN}(kf:AJ->O.α)(a b out:Array A3)(D U:Nat):Prop:=Dm (λp q=>BS kf q p) a.toList.reverse b.toList.reverse out.toList (a.size-D) (b.size-U)
def AGR{a₀:Array A3}{st:CS}(C:GN prog w A s κ O kf a₀)(B:CT κ a₀ st){a b:Array A3}(ha:∀p∈a.toList,p∈a₀.toList)(hb:∀p∈b.toList,p∈a₀.toList)(a1:1<=a.size)(X:1<=b.size)(pa:a.toList.Pairwise (BS kf))(pb:b.toList.Pairwise (BS kf))(first:∀p∈a.toList,BS kf b[0] p)(last:∀p∈b.toList,BS kf p a[a.size-1])(h:∀m L,Ha κ a₀ st L->FY (BS kf) a.toList b.toList m.toList->Q m L):ER (Aj prog w) A E s (AGL a b) Q st:=by
  have pa':a.toList.reverse.Pairwise (λp q=>BS kf q p):=AEy.mpr pa;have pb':b.toList.reverse.Pairwise (λp q=>BS kf q p):=AEy.mpr pb;have o:∀{out:Array A3}{Y W:Nat},Y<=a.size->W<=b.size->Gm kf a b out Y W->(Y=0\/W=0)->FY (BS kf) a.toList b.toList (a.extract 0 Y++b.extract 0 W++out.reverse).toList:=λ{out Y W}q1 q2 j e=>by
    refine i7 ?_;have el:(a.extract 0 Y++b.extract 0 W++out.reverse).toList.reverse=out.toList++b.toList.reverse.drop (b.size-W)++a.toList.reverse.drop (a.size-Y):=by rw[QB a q1,QB b q2];simp[XB]
    rw[el];refine(j.ly.ql pb' pa' λx P y T=>?_).ly;obtain⟨m,hm,z,rfl⟩:=Jz q2 P;obtain⟨m',hm',z',rfl⟩:=Jz q1 T;∎
  have R:∀{out:Array A3}{Y W:Nat},Y<=a.size->W<=b.size->Gm kf a b out Y W->W=1->FY (BS kf) a.toList b.toList (b.extract 0 W++a.extract 0 Y++out.reverse).toList:=λ{out Y W}q1 q2 j e=>by
    refine i7 ?_;have el:(b.extract 0 W++a.extract 0 Y++out.reverse).toList.reverse=out.toList++a.toList.reverse.drop (a.size-Y)++b.toList.reverse.drop (b.size-W):=by rw[QB a q1,QB b q2];simp[XB]
    rw[el];refine j.ql pa' pb' λx P y T=>?_;obtain⟨m,hm,z,rfl⟩:=Jz q1 P;obtain⟨m',hm',z',rfl⟩:=Jz q2 T;have:m'=0:=by∎
    subst this;exact first _ (by simp)
  have am:∀{i:Nat}(hi:i<a.size),a[i]∈a₀.toList:=λhi=>ha _ (by simp);have bm:∀{i:Nat}(hi:i<b.size),b[i]∈a₀.toList:=λhi=>hb _ (by simp);have la:∀{i k:Nat}(hk:k<a.size)(h:i<=k),BS kf (a[i]'∎) a[k]:=λ{i k}hk h=>by have:=K7 pa (lo:=0) (Aw _) i k ∎ ∎ hk;rw[DX (by∎:i<a.size),DX hk]at this;exact this
  have lb:∀{i k:Nat}(hk:k<b.size)(h:i<=k),BS kf (b[i]'∎) b[k]:=λ{i k}hk h=>by have:=K7 pb (lo:=0) (Aw _) i k ∎ ∎ hk;rw[DX (by∎:i<b.size),DX hk]at this;exact this
  have oneA:∀{out:Array A3}{Y W:Nat}(h1:1<=Y)(h2:Y<=a.size)(h3:1<=W)(h4:W<=b.size),Gm kf a b out Y W->BS kf b[W-1] a[Y-1]->Gm kf a b (out.push a[Y-1]) (Y-1) W:=λ{out Y W}h1 h2 h3 h4 j r=>by
    have e:(out.push a[Y-1]).toList=out.toList++(a.toList.reverse.drop (a.size-Y)).take 1:=by rw[QD a h2 h1];simp
    show Dm _ _ _ (out.push a[Y-1]).toList _ _;rw[e,show a.size-(Y-1)=a.size-Y+1 by(clear r h4 h3 last first X a1;∎)];refine j.ki pa' λx P y T=>?_;rw[QD a h2 h1,Cd]at P;obtain⟨m,hm,z,rfl⟩:=Jz h4 T;rw[P];exact HC (lb ∎ (by∎:m<=W-1)) r
  have oneB:∀{out:Array A3}{Y W:Nat}(h1:1<=Y)(h2:Y<=a.size)(h3:1<=W)(h4:W<=b.size),Gm kf a b out Y W->BS kf a[Y-1] b[W-1]->Gm kf a b (out.push b[W-1]) Y (W-1):=λ{out Y W}h1 h2 h3 h4 j r=>by
    have e:(out.push b[W-1]).toList=out.toList++(b.toList.reverse.drop (b.size-W)).take 1:=by rw[QD b h4 h3];simp
    show Dm _ _ _ (out.push b[W-1]).toList _ _;rw[e,show b.size-(W-1)=b.size-W+1 by(clear r h2 h1 last first X a1;∎)];refine j.my pb' λx P y T=>?_;rw[QD b h4 h3,Cd]at P;obtain⟨m,hm,z,rfl⟩:=Jz h2 T;rw[P];exact HC (la ∎ (by∎:m<=Y-1)) r
  refine A5 (Pw (H9 ⟨rfl,?_⟩));refine A5 (E1 (by∎:a.size-1<a.size) ?_);have j0:Gm kf a b (#[a[a.size-1]]:Array A3) (a.size-1) b.size:=by
    refine⟨?_,by simp,λx P y T=>?_,λx P y T=>?_⟩
    . have:=QD a (Aw _) a1;rw[XM,AJM]at this;rw[show a.size-(a.size-1)=1 by∎,this];simp
    . simp only[Cd]at P;obtain⟨m,hm,z,rfl⟩:=Jz ∎ T;rw[P];exact la ∎ ∎
    . simp only[Cd]at P;obtain⟨m,hm,z,rfl⟩:=Jz (Aw _) T;rw[P];exact last _ (by simp)
  by_cases e1:a.size-1=0;. refine Ck (by simpa using e1) ?_;exact BI (h _ st ⟨B,rfl,rfl⟩ (o ∎ (Aw _) j0 (.inl e1)))
  refine C4 (by simpa using e1) ?_;by_cases e2:b.size=1;. refine Ck (by simpa using e2) ?_;exact BI (h _ st ⟨B,rfl,rfl⟩ (R ∎ (Aw _) j0 e2))
  refine C4 (by simpa using e2) ?_;refine A5 (Lv ?_);refine A5 (Hy (HU (I:=λx c L=>Ha κ a₀ st L/\∃Y W out g,c=(AB,Y,W,out,g)/\Gm kf a b out Y W/\1<=Y/\Y<=a.size/\2<=W/\W<=b.size/\x+1+Y+W<=a.size+b.size) (Q:=λc L=>Ha κ a₀ st L/\∃r,c.1=AA r/\FY (BS kf) a.toList b.toList r.toList) ?step ?fin ?xg) ?post);case xg=>exact⟨⟨B,rfl,rfl⟩,_,_,_,_,rfl,j0,∎,∎,∎,∎,∎⟩
  case fin=> rintro c L⟨S,Y,W,out,g,rfl,j,h1,h2,h3,h4,h5⟩;∎
  case post=> rintro c L⟨S,r,e,f⟩;obtain⟨c1,c2⟩:=c;obtain rfl:c1=AA r:=e;exact BI (h r L S f)
  case step=>
    rintro x c st1 hx0 P⟨S,Y,W,out,g,rfl,j,h1,h2,h3,h4,h5⟩;refine A5 (Hy (HU (I:=λy c L=>L=st1/\∃F H M p q,c=(AB,F,H,M,p,q)/\Gm kf a b M F H/\1<=F/\F<=a.size/\2<=H/\H<=b.size/\F+H+y<=Y+W) (Q:=λc L=>L=st1/\((∃r,c.1=AA r/\FY (BS kf) a.toList b.toList r.toList)\/∃F H M p q,c=(AB,F,H,M,p,q)/\Gm kf a b M F H/\1<=F/\F<=a.size/\2<=H/\H<=b.size/\F+H+1<=Y+W)) ?s1 ?s2 ?s3) ?s4);case s3=>exact⟨rfl,Y,W,out,0,0,rfl,j,h1,h2,h3,h4,Aw _⟩
    case s2=> rintro c L⟨rfl,F,H,M,p,q,rfl,j',g1,g2,g3,g4,g5⟩;exact⟨rfl,.inr ⟨F,H,M,p,q,rfl,j',g1,g2,g3,g4,∎⟩⟩
    case s1=> rintro y c L hy0 T⟨rfl,F,H,M,p,q,rfl,j',g1,g2,g3,g4,g5⟩;clear hy0 h1 h2 h3 h4 h5 P hx0 e1 e2 j0 j first last;refine A5 (E1 (by∎:H-1<b.size) (A5 (E1 (by∎:F-1<a.size) (A5 (QF C S.sb (bm ∎) (am ∎) ?_)))));cases e:O.blt (kf (b[H-1]'∎).1) (kf (a[F-1]'∎).1)with
      |true=>
        refine Ck rfl ?_;refine A5 (E1 (by∎:F-1<a.size) ?_);have j2:=oneA g1 g2 ∎ g4 j' (Kr e);by_cases z:F-1=0;. refine Ck (by simpa using z) ?_;exact BI ⟨rfl,.inl ⟨_,rfl,o (by dsimp only;∎) g4 j2 (.inl z)⟩⟩
        . refine C4 (by simpa using z) ?_;split;.exact BI ⟨rfl,.inr ⟨_,_,_,_,_,rfl,j2,by dsimp only;∎,by dsimp only;∎,g3,g4,by dsimp only;∎⟩⟩
          .exact BI ⟨rfl,_,_,_,_,_,rfl,j2,by dsimp only;∎,by dsimp only;∎,g3,g4,by dsimp only;∎⟩|false=>
        refine C4 D5 ?_;refine A5 (E1 (by∎:H-1<b.size) ?_);have j2:=oneB g1 g2 ∎ g4 j' e;by_cases z:H-1=1
        . refine Ck (by simpa using z) ?_;exact BI ⟨rfl,.inl ⟨_,rfl,R g2 (by dsimp only;∎) j2 z⟩⟩
        . refine C4 (by simpa using z) ?_;split;.exact BI ⟨rfl,.inr ⟨_,_,_,_,_,rfl,j2,g1,g2,by(clear j2 e g5 g4 g2 g1 T X a1;dsimp only;∎),by dsimp only;∎,by dsimp only;∎⟩⟩
          .exact BI ⟨rfl,_,_,_,_,_,rfl,j2,g1,g2,by(clear j2 e g5 g4 g2 g1 T X a1;dsimp only;∎),by dsimp only;∎,by dsimp only;∎⟩
    case s4=>
      rintro c L⟨rfl,⟨r,e,f⟩|⟨F,H,M,p,q,rfl,j',g1,g2,g3,g4,g5⟩⟩;. obtain⟨c1,c2⟩:=c;obtain rfl:c1=AA r:=e;exact BI ⟨S,r,rfl,f⟩
      refine A5 (Pw (H9 ⟨rfl,?_⟩));refine A5 (Hy (HU (I:=λy c st2=>Ha κ a₀ st st2/\∃i2 k2 o2 m2 p q,c=(AB,i2,k2,o2,m2,p,q)/\Gm kf a b o2 i2 k2/\1<=i2/\i2<=a.size/\2<=k2/\k2<=b.size/\i2+k2+1<=Y+W) (Q:=λc st2=>Ha κ a₀ st st2/\((∃r,c.1=AA r/\FY (BS kf) a.toList b.toList r.toList)\/∃i2 k2 o2 m2 p q,c=(AB,i2,k2,o2,m2,p,q)/\Gm kf a b o2 i2 k2/\1<=i2/\i2<=a.size/\2<=k2/\k2<=b.size/\i2+k2+1<=Y+W)) ?t1 ?t2 ?t3) ?t4);case t3=>exact⟨S,F,H,M,_,p,q,rfl,j',g1,g2,g3,g4,g5⟩
      case t2=> rintro c st2⟨S2,r⟩;exact⟨S2,.inr r⟩
      case t4=>
        rintro c st2⟨S2,⟨r,e,f⟩|⟨i2,k2,o2,m2,p,q,rfl,j2,f1,f2,f3,n,f5⟩⟩
        . obtain⟨c1,c2⟩:=c;obtain rfl:c1=AA r:=e;exact BI ⟨S2,r,rfl,f⟩
        .refine A5 (JI (BI ⟨S2.wt _,i2,k2,o2,_,rfl,j2,f1,f2,f3,n,∎⟩))
      case t1=>
        rintro y c st2 hy0 T⟨S2,i2,k2,o2,m2,p,q,rfl,j2,f1,f2,f3,n,f5⟩;clear hy0 T j' g1 g2 g3 g4 g5 j h1 h2 h3 h4 h5 P hx0 e1 e2 j0 S first last;refine(λ(key:∀m3:Nat,(?G:Nat->Prop) m3)=>?u) ?v;case u=>
          by_cases z:m2>1
          . refine Ck z ?_;generalize m2-1=m3;exact key m3
          . refine C4 z ?_;generalize m2=m3;exact key m3
        case v=>
          intro m3;refine A5 (JI ?_);have S3:=S2.wt m3;have V:k2-1<b.size:=by∎
          refine A5 (E1 V ?_);refine(λ(key:∀(c i3:Nat)(o3:Array A3),Gm kf a b o3 i3 k2->(∀m(hm:m<a.size),m<i3->BS kf a[m] (b[k2-1]'V))->1<=i3->i3<=a.size->i3+k2+1<=Y+W->(?G2:Nat->Nat->Array A3->Prop) c i3 o3)=>?u2) ?v2;case u2=>
            refine A5 (N8 C S3.sb (bm V) ha (by dsimp only;∎) (by dsimp only;∎) (K7 pa (by dsimp only;∎)) λt ht bl bg=>?_);dsimp only at ht;have U:∀m(hm:m<a.size),m<t->BS kf a[m] (b[k2-1]'V):=λm hm z=>by have:=bl m z;unfold Cf at this;rw[AMv D5,DX (by∎:0+m<a.size)]at this;show O.blt _ _=AH;simpa using this
            have runB:∀m(hm:m<a.size),t<=m->m<i2->BS kf (b[k2-1]'V) a[m]:=λm hm z z'=>by have:=bg m z z';unfold Cf at this;rw[AMv D5,DX (by∎:0+m<a.size)]at this;exact Kr (by show O.blt _ _=AD;simpa using this)
            have j3:Gm kf a b (o2++(a.extract t i2).reverse) t k2:=by
              have e:(o2++(a.extract t i2).reverse).toList=o2.toList++(a.toList.reverse.drop (a.size-i2)).take (i2-t):=by rw[QI a f2 ht];simp
              show Dm _ _ _ (o2++(a.extract t i2).reverse).toList _ _;rw[e,show a.size-t=a.size-i2+(i2-t)by(clear runB U bg bl key V f5 n f3 f1 X a1;∎)];refine j2.ki pa' λx P y T=>?_;rw[QI a f2 ht,AJZ]at P;simp only[vW,XB]at P;obtain⟨m,hm,hm2,rfl⟩:=QC P;obtain⟨m',hm',z,rfl⟩:=Jz n T;exact HC (lb ∎ (by(clear T hm' P hm2 hm runB U bg bl key V f5 n f2 f1 X a1;∎):m'<=k2-1)) (runB _ hm2 ∎ (by(clear T z hm' P hm2 runB U bg bl key V f5 n f3 f2 f1 X a1;∎)))
            have pre:(i2-t>0/\t=0)\/1<=t:=by(clear runB U bg bl key V f5 n f3 f2 X a1;∎)
            rcases pre with⟨zk,z1⟩|z1
            . refine Ck zk (Ck (by simpa using z1) ?_);exact BI ⟨S3,.inl ⟨_,rfl,o ∎ n j3 (.inl z1)⟩⟩
            have t2:t<=a.size:=by∎
            have K:t+k2+1<=Y+W:=by∎
            by_cases zk:i2-t>0
            . refine Ck zk (C4 (by simp;∎) ?_);generalize i2-t=c;generalize o2++(a.extract t i2).reverse=o3 at j3⊢;clear bl bg ht runB zk;generalize t=i3 at j3 U z1 t2 K⊢;exact key c i3 o3 j3 U z1 t2 K
            . refine C4 zk ?_;have zk0:t=i2:=by(clear K t2 z1 runB U bg bl key V f5 n f3 f2 f1 X a1;∎)
              have eo:o2++(a.extract t i2).reverse=o2:=by rw[zk0];simp;∎
              rw[eo,zk0]at j3;rw[zk0]at U z1 t2 K;generalize i2-t=c;exact key c i2 o2 j3 U z1 t2 K
          case v2=>
            intro c i3 o3 j3 U z1 t2 K;have N:i3-1<a.size:=by∎
            refine A5 (E1 V ?_);have j4:=oneB z1 t2 ∎ n j3 (U _ ∎ ∎);by_cases z3:k2-1=1;. refine Ck (by simpa using z3) ?_;exact BI ⟨S3,.inl ⟨_,rfl,R t2 (by dsimp only;∎) j4 z3⟩⟩
            refine C4 (by simpa using z3) ?_;refine A5 (E1 (by∎:i3-1<a.size) ?_);refine(λ(key:∀(c' k5:Nat)(o5:Array A3),Gm kf a b o5 i3 k5->(∀m(hm:m<b.size),m<k5->BS kf b[m] (a[i3-1]'N))->2<=k5->k5<=b.size->i3+k5+1<=Y+W->(?G3:Nat->Nat->Array A3->Prop) c' k5 o5)=>?u3) ?v3;case u3=>
              refine A5 (N8 C S3.sb (am ∎) hb (by dsimp only;∎) (by(clear key j4 N K t2 U V f5 n f2 f1 X a1;dsimp only;∎)) (K7 pb (by dsimp only;∎)) λt' ht' l d=>?_);dsimp only at ht';have D:∀m(hm:m<b.size),m<t'->BS kf b[m] (a[i3-1]'∎):=λm hm z=>by have:=l m z;unfold Cf at this;rw[AMu rfl,DX (by∎:0+m<b.size)]at this;exact Kr (by show O.blt _ _=AD;simpa using this)
              have Z:∀m(hm:m<b.size),t'<=m->m<k2-1->BS kf (a[i3-1]'∎) b[m]:=λm hm z z'=>by have:=d m z z';unfold Cf at this;rw[AMu rfl,DX (by∎:0+m<b.size)]at this;show O.blt _ _=AH;simpa using this
              have j5:Gm kf a b (o3.push (b[k2-1]'V)++(b.extract t' (k2-1)).reverse) i3 t':=by
                have e:(o3.push (b[k2-1]'V)++(b.extract t' (k2-1)).reverse).toList=(o3.push (b[k2-1]'V)).toList++(b.toList.reverse.drop (b.size-(k2-1))).take (k2-1-t'):=by rw[QI b ∎ ht'];simp
                show Dm _ _ _ (o3.push (b[k2-1]'V)++(b.extract t' (k2-1)).reverse).toList _ _;rw[e,show b.size-t'=b.size-(k2-1)+(k2-1-t')by(clear Z D d l key N K t2 f5 f2 f1 X a1;∎)];refine j4.my pb' λx P y T=>?_;rw[QI b ∎ ht',AJZ]at P;simp only[vW,XB]at P;obtain⟨m,hm,hm2,rfl⟩:=QC P;obtain⟨m',hm',z,rfl⟩:=Jz t2 T;exact HC (la ∎ (by(clear T hm' P hm2 e Z D d l ht' key j4 N K t2 U V f5 n f3 f2 f1 X a1;∎):m'<=i3-1)) (Z _ hm2 ∎ (by(clear T z hm' P hm2 e Z D d l key j4 N K t2 U V f5 n f2 f1 X a1;∎)))
              have pre:(k2-1-t'>0/\t'=1)\/(k2-1-t'>0/\t'=0)\/2<=t':=by(clear j5 Z D d l key j4 N K t2 U V f5 n f2 f1 X a1;∎)
              rcases pre with⟨zk',z4⟩|⟨zk',z4⟩|z4;. refine Ck zk' (Ck (by simpa using z4) ?_);exact BI ⟨S3,.inl ⟨_,rfl,R t2 (by(clear zk' Z D d l key z3 j4 N K t2 z1 f5 n f3 f2 f1 X a1;∎)) j5 z4⟩⟩
              . refine Ck zk' (C4 (by simp;∎) (Ck (by simpa using z4) ?_));exact BI ⟨S3,.inl ⟨_,rfl,o t2 (by(clear zk' Z D d l key z3 j4 N K t2 z1 f5 n f3 f2 f1 X a1;∎)) j5 (.inr z4)⟩⟩
              have t4:t'<=b.size:=by∎
              have f6':i3+t'+1<=Y+W:=by(clear t4 j5 Z D d l key j4 N t2 U V f5 n f2 f1 X a1;∎)
              by_cases zk':k2-1-t'>0
              . refine Ck zk' (C4 (by simp;∎) (C4 (by simp;∎) ?_));generalize k2-1-t'=c';generalize o3.push (b[k2-1]'V)++(b.extract t' (k2-1)).reverse=o5 at j5⊢;clear l d ht' Z zk';generalize t'=k5 at j5 D z4 t4 f6'⊢;exact key c' k5 o5 j5 D z4 t4 f6'
              . refine C4 zk' ?_;have zk0:t'=k2-1:=by(clear f6' t4 j5 Z D d l key j4 N K t2 U V f5 n f2 f1 X a1;∎)
                have eo:o3.push (b[k2-1]'V)++(b.extract t' (k2-1)).reverse=o3.push (b[k2-1]'V):=by rw[zk0];simp;(clear zk' f6' t4 z4 Z D d l ht' key z3 j4 N K t2 z1 f5 n f3 f2 f1 X a1;∎)
                rw[eo,zk0]at j5;rw[zk0]at D z4 t4 f6';generalize k2-1-t'=c';exact key c' _ _ j5 D z4 t4 f6'
            case v3=>
              intro c' k5 o5 j5 D z4 t4 f6';refine A5 (E1 (by∎:i3-1<a.size) ?_);have j6:=oneA z1 t2 ∎ t4 j5 (D _ (by(clear f6' D z3 j4 N K t2 z1 U V f5 n f3 f2 f1 X a1;∎)) (by(clear f6' t4 D z3 j4 N K t2 z1 U V f5 n f3 f2 f1 X a1;∎)));by_cases z5:i3-1=0;. refine Ck (by simpa using z5) ?_;exact BI ⟨S3,.inl ⟨_,rfl,o ∎ t4 j6 (.inl z5)⟩⟩
              refine C4 (by simpa using z5) ?_;split;.exact BI ⟨S3,.inr ⟨_,_,_,_,_,_,rfl,j6,∎,∎,z4,t4,by(clear j6 t4 z4 D j4 N K t2 U V f5 n f3 f2 f1 X a1;∎)⟩⟩
              .exact BI ⟨S3,_,_,_,_,_,_,rfl,j6,∎,∎,z4,t4,by(clear j6 t4 z4 D j4 N K t2 U V f5 n f3 f2 f1 X a1;∎)⟩
def i8(p:Nat):∀(M:List A3)(n:Nat)(xs:Array A3),p+n+M.length<=xs.size->((M.zipIdx n).foldl (λa x=>a.setIfInBounds (p+x.2) x.1) xs).toList=xs.toList.take (p+n)++M++xs.toList.drop (p+n+M.length)
 |[],n,xs,h=>by simp|m::r,n,xs,h=>by
  rw[Fq]at h;rw[AE1,Mc,i8 p r _ _ (by simp;omega)];have D:p+n<xs.toList.length:=by simp;omega
  simp only[AI5];rw[List.drop_set_of_lt (by omega),show p+(n+1)=p+n+1 by omega,AJe,List.take_set_of_le (by omega),Fq];grind
def jB{O:XN}{kf:AJ->O.α}{xs:Array A3}{lo hi:Nat}(h:hi<=xs.size)(u:DW kf xs lo hi):(xs.extract lo hi).toList.Pairwise (BS kf):=by
 rw[Sb];intro i j D U J;have e:∀k(W:k<(xs.extract lo hi).toList.length),(xs.extract lo hi).toList[k]=xs[lo+k]'(by grind):=(by grind);rw[e i _,e j U];have V:j<hi-lo:=by grind
 have:=u (lo+i) (lo+j) (by omega) (by omega) (by grind);rw[DX _,DX _]at this;exact this
def jA{xs:Array A3}{lo:Nat}(h:hi<=xs.size)(D:p∈(xs.extract lo hi).toList):∃m,lo<=m/\m<hi/\∃(J:m<xs.size),p=xs[m]:=by simp at D;obtain⟨m,J,U,rfl⟩:=QC D;∎
def AGJ(xs:Array A3)(h1:i<=j)(h2:j<=k)(U:k<=xs.size):xs.toList=xs.toList.take i++((xs.extract i j).toList++(xs.extract j k).toList)++xs.toList.drop k:=by
 simp only[vW,XB];have D:gK (k-i) (xs.toList.drop i)=gK (j-i) (xs.toList.drop i)++gK (k-j) (xs.toList.drop j):=by rw[show k-i=(j-i)+(k-j)by omega,AJd,AEo,show i+(j-i)=j by omega]
 have J:xs.toList.drop i=gK (k-i) (xs.toList.drop i)++xs.toList.drop k:=by conv=>lhs;rw[<-XH _ (xs.toList.drop i),AEo,show i+(k-i)=k by omega]
 rw[<-D,Gg,<-J,XH]
def AGU{A:Ci}{E:AJ->AX->Prop}{s:AX}{M:Jp}{σ:Type}{t u:σ}{Q:PUnit->σ->Prop}(h:Q ⟨⟩ t):ER M A E s (set t:StateT σ Cr PUnit) Q u:=by exact Av ⟨rfl,h⟩
def AGQ{a₀:Array A3}{st:CS}(C:GN prog w A s κ O kf a₀)(B:CT κ a₀ st)(p1:(Bc st)[i]?=AA (F,G,pw))(p2:(Bc st)[i+1]?=AA (F+G,nb,pw'))(T:1<=G)(I:1<=nb)(hz:F+G+nb<=a₀.size)(ua:DW kf (Aq st) F (F+G))(ub:DW kf (Aq st) (F+G) (F+G+nb))(h:∀st',CT κ a₀ st'->Bc st'=((Bc st).setIfInBounds i (F,G+nb,pw)).eraseIdxIfInBounds (i+1)->DW kf (Aq st') F (F+(G+nb))->(∀k,k<F\/F+G+nb<=k->BG kf (Aq st') k=BG kf (Aq st) k)->Q AD st'):ER (Aj prog w) A E s (mergeAt' i) Q st:=by
  have L:=B.kr;refine A5 (Lv ?_);rw[show(sortPriv%PySem.Builtin.SortState.pending) st=Bc st from rfl,p1,p2];dsimp only;refine A5 (AGU (t:=gP (gR st) (Aq st) (((Bc st).setIfInBounds i (F,G+nb,pw)).eraseIdxIfInBounds (i+1)) (gallopOf st) (Pr st)) ?_);have memA:∀p∈(Aq st).toList,p∈a₀.toList:=λp hp=>(Ur.mp B.gv).mem_iff.mp hp;have K:F+G<(Aq st).size:=by∎
  refine A5 (E1 K ?_);generalize hst1:gP (gR st) (Aq st) (((Bc st).setIfInBounds i (F,G+nb,pw)).eraseIdxIfInBounds (i+1)) (gallopOf st) (Pr st)=st1;have B1:CT κ a₀ st1:=by rw[<-hst1];exact⟨B.gv,B.cy,B.gp⟩
  have ar1:Aq st1=Aq st:=by rw[<-hst1]
  have pe1:Bc st1=((Bc st).setIfInBounds i (F,G+nb,pw)).eraseIdxIfInBounds (i+1):=by rw[<-hst1]
  have J:BG kf (Aq st) (F+G)=kf ((Aq st)[F+G]'K).1:=DX K;refine A5 (N8 (left:=AH) (key:=(Aq st)[F+G]'K) (base:=F) (n:=G) (hint:=0) C B1 (memA _ (by simp)) memA ∎ ∎ ua λk o R P=>?_);have lowA:∀j,F<=j->j<F+k->O.kle (BG kf (Aq st) j) (BG kf (Aq st) (F+G)):=λj j1 j2=>by have:=R (j-F) ∎;unfold Cf at this;rw[AMv D5,<-J,show F+(j-F)=j by∎]at this;show O.blt _ _=AH;simpa using this
  have highA:∀j,F+k<=j->j<F+G->O.kle (BG kf (Aq st) (F+G)) (BG kf (Aq st) j):=λj j1 j2=>by have:=P (j-F) ∎ ∎;unfold Cf at this;rw[AMv D5,<-J,show F+(j-F)=j by∎]at this;exact Kr (by show O.blt _ _=AD;simpa using this)
  dsimp only;by_cases k0:G-k=0
  . refine Ck (by simpa using k0) ?_;refine BI (h st1 B1 pe1 ?_ λz _=>by rw[ar1]);rw[ar1];intro x y h1 h2 h3;by_cases hx:x<F+G
    . by_cases hy:y<F+G;.exact ua x y h1 h2 hy
      .exact HC (lowA x h1 ∎) (ub _ y (Aw _) ∎ ∎)
    .exact ub x y ∎ h2 ∎
  refine C4 (by simpa using k0) ?_;have H:F+k+(G-k)-1<(Aq st).size:=by(clear k0 L hz I T;∎)
  refine A5 (E1 H ?_);have D:BG kf (Aq st) (F+G-1)=kf ((Aq st)[F+k+(G-k)-1]'H).1:=by rw[<-DX (kf:=kf) H];congr 1;∎
  refine A5 (N8 (left:=AD) (key:=(Aq st)[F+k+(G-k)-1]'H) (base:=F+G) (n:=nb) (hint:=nb-1) C B1 (memA _ (by simp)) memA ∎ ∎ ub λk' Z W V=>?_);have lowB:∀j,F+G<=j->j<F+G+k'->O.kle (BG kf (Aq st) j) (BG kf (Aq st) (F+G-1)):=λj j1 j2=>by have:=W (j-(F+G)) ∎;unfold Cf at this;rw[AMu rfl,<-D,show F+G+(j-(F+G))=j by(clear j2 V W Z D H k0 P R o J K L hz I T;∎)]at this;exact Kr this
  have highB:∀j,F+G+k'<=j->j<F+G+nb->O.kle (BG kf (Aq st) (F+G-1)) (BG kf (Aq st) j):=λj j1 j2=>by have:=V (j-(F+G)) (by(clear j2 V W Z D H k0 P R o J K L hz I T;∎)) ∎;unfold Cf at this;rw[AMu rfl,<-D,show F+G+(j-(F+G))=j by∎]at this;exact this
  dsimp only;by_cases k1:k'=0
  . refine Ck (by simpa using k1) ?_;refine BI (h st1 B1 pe1 ?_ λz _=>by rw[ar1]);rw[ar1];intro x y h1 h2 h3;by_cases hx:x<F+G
    . by_cases hy:y<F+G;.exact ua x y h1 h2 hy
      .exact HC (ua x (F+G-1) h1 (by(clear hy h3 h2 h1 k1 V W Z D H k0 P R o J K L hz I T;∎)) (by(clear hy h3 h2 h1 k1 V W Z D H k0 P R o J K L hz I T;∎))) (highB y ∎ ∎)
    .exact ub x y ∎ h2 ∎
  refine C4 (by simpa using k1) ?_;generalize hX:(Aq st).extract (F+k) (F+G)=X;generalize hY:(Aq st).extract (F+G) (F+G+k')=Y;have pX:X.toList.Pairwise (BS kf):=by rw[<-hX];exact jB ∎ λa b v u q3=>ua a b ∎ u q3
  have pY:Y.toList.Pairwise (BS kf):=by rw[<-hY];exact jB ∎ λa b v u q3=>ub a b ∎ u ∎
  have d:X.size=G-k:=by rw[<-hX];simp;(clear k1 V W Z D H k0 L hz I T;∎)
  have zY:Y.size=k':=by rw[<-hY];simp;(clear d k1 V W D H k0 o I T;∎)
  have mX:∀p∈X.toList,∃m,F+k<=m/\m<F+G/\∃(hm:m<(Aq st).size),p=(Aq st)[m]:=λp hp=>jA ∎ (by rw[hX];exact hp);have mY:∀p∈Y.toList,∃m,F+G<=m/\m<F+G+k'/\∃(hm:m<(Aq st).size),p=(Aq st)[m]:=λp hp=>jA ∎ (by rw[hY];exact hp);have c:Y[0]'(by(clear d V W Z D H k0 P R J K L hz I T;∎))=(Aq st)[F+G]'K:=by subst hY;simp
  have g:X[X.size-1]'(by(clear c V W Z D H P R J K L hz I;∎))=(Aq st)[F+G-1]'(by(clear c zY d k1 Z k0 o L hz I T;∎)):=by subst hX;rw[Array.getElem_extract];congr 1;rw[d];(clear d c V W Z D H P R J K L hz I;∎)
  have first:∀p∈X.toList,BS kf (Y[0]'(by(clear g c d V W Z D H k0 P R J K L hz I T;∎))) p:=λp hp=>by obtain⟨m,v,u,hm,rfl⟩:=mX p hp;rw[c];have:=highA m v u;rw[J,DX hm]at this;exact this
  have U:∀p∈Y.toList,BS kf p (X[X.size-1]'(by(clear g c V W Z D H P R J K L hz I;∎))):=λp hp=>by obtain⟨m,v,u,hm,rfl⟩:=mY p hp;rw[g];have:=lowB m v u;rw[DX hm,DX (by(clear this hp hm u v first g c zY d k1 Z k0 o L hz I T;∎):F+G-1<(arrOf st).size)]at this;exact this
  have inX:∀p∈X.toList,p∈a₀.toList:=λp hp=>by obtain⟨m,v,u,hm,rfl⟩:=mX p hp;exact memA _ (by simp)
  have inY:∀p∈Y.toList,p∈a₀.toList:=λp hp=>by obtain⟨m,v,u,hm,rfl⟩:=mY p hp;exact memA _ (by simp)
  have fin:∀(M:Array A3)(l:CS),Ha κ a₀ st1 l->FY (BS kf) X.toList Y.toList M.toList->Q AD (Pt l (M.toList.zipIdx.foldl (λa x=>a.setIfInBounds (F+k+x.2) x.1) (Aq l))):=λM l S f=>by
    have r:M.toList.length=(G-k)+k':=by rw[f.1.length_eq,Bi];simp[d,zY]
    have ar2:Aq l=Aq st:=S.xx.trans ar1;have el:=i8 (F+k) M.toList 0 (Aq st) ∎;rw[XI,r,show F+k+(G-k+k')=F+G+k' by(clear U first g c d k1 V W Z D H k0 P R J K L hz I T;∎)]at el;generalize hN:M.toList.zipIdx.foldl (λa x=>a.setIfInBounds (F+k+x.2) x.1) (Aq l)=N;have eN:N.toList=(Aq st).toList.take (F+k)++M.toList++(Aq st).toList.drop (F+G+k'):=by rw[<-hN,ar2];exact el
    have perm:N.Perm (Aq l):=by
      rw[ar2,Ur,eN];have sp:=AGJ (Aq st) (i:=F+k) (j:=F+G) (k:=F+G+k') ∎ ∎ ∎;rw[hX,hY]at sp;conv=>rhs;rw[sp]
      exact ALu _ (AEl _ f.1)
    have lt:((Aq st).toList.take (F+k)).length=F+k:=by simp;(clear r U first g c zY d k1 V W Z D H k0 L hz I T;∎)
    have nOut:∀z,z<F+k\/F+G+k'<=z->N[z]?=(Aq st)[z]?:=λz hz'=>by
      rw[<-Oe,<-Oe,eN];rcases hz' with q|q;.rw[Gg,AEr (by(clear r U first g c zY d k1 V W Z D H k0 P R o J K L hz I T;∎)),AJR q]
      . rw[SW (by rw[Bi];(clear U first g c d k1 V W Z D H k0 P R J K L hz I T;∎)),Bi,lt,r,List.getElem?_drop];congr 1;(clear U first g c d k1 V W Z D H k0 P R J K L hz I T;∎)
    have nIn:∀z,F+k<=z->z<F+G+k'->N[z]?=M[z-(F+k)]?:=λz v u=>by rw[<-Oe,<-Oe,eN,Gg,SW (by(clear u r U first g c zY d k1 V W Z D H k0 P R o J K L hz I T;∎)),lt,AEr (by(clear U first g c d k1 V W Z D H k0 P R J K L hz I T;∎))]
    have upM:DW kf M 0 M.size:=K7 f.2 (Aw _);have sM:M.size=(G-k)+k':=by rw[<-r];simp
    have inM:∀z,F+k<=z->z<F+G+k'->∃m,F+k<=m/\m<F+G+k'/\BG kf N z=BG kf (Aq st) m:=λz v u=>by
      have hz2:z-(F+k)<M.size:=by(clear U first g c d k1 V W Z D H k0 P R J K L hz I T;∎)
      have hm:M[z-(F+k)]∈X.toList++Y.toList:=f.1.mem_iff.mp (by simp);rw[GO (nIn z v u),DX hz2];rcases Cb.mp hm with q|q;. obtain⟨m,v,u,hm,e⟩:=mX _ q;exact⟨m,v,by(clear e hm v sM r U first g c d k1 V W Z D H k0 P R o J K L hz I T;∎),by rw[e,DX hm]⟩
      . obtain⟨m,v,u,hm,e⟩:=mY _ q;exact⟨m,by(clear e hm u sM r U first g c zY d k1 V W Z D H k0 P R J K L hz I T;∎),u,by rw[e,DX hm]⟩
    refine h _ (S.sb.fm perm) (S.lq.trans pe1) ?_ λz hz'=>GO (nOut z (by(clear sM r U first g c d k1 V W D H k0 P R o J K L hz I T;∎)));show DW kf N F (F+(G+nb));intro x y h1 h2 h3;by_cases x1:x<F+k
    . rw[GO (nOut x (.inl x1))];have all:∀m,F+k<=m->m<F+G+nb->O.kle (BG kf (Aq st) x) (BG kf (Aq st) m):=λm v u=>by
        by_cases q3:m<F+G;.exact ua x m h1 (by(clear q3 u h3 h2 h1 sM r U first g c zY d k1 V W Z D H k0 P R o J K L hz I T;∎)) q3
        .exact HC (lowA x h1 x1) (ub _ m (Aw _) (by(clear u v x1 h3 h2 h1 sM r U first g c zY d k1 V W Z D H k0 P R o J K L hz I T;∎)) u)
      by_cases y1:y<F+k
      . rw[GO (nOut y (.inl y1))];exact ua x y h1 h2 (by(clear x1 h3 h2 h1 sM r U first g c zY d k1 V W Z D H k0 P R J K L hz I T;∎))
      . by_cases y2:y<F+G+k'
        . obtain⟨m,v,u,e⟩:=inM y (by(clear y2 x1 h3 h2 h1 sM r U first g c zY d k1 V W Z D H k0 P R o J K L hz I T;∎)) y2;rw[e];exact all m v (by(clear v y2 y1 x1 h3 h2 h1 sM r U first g c d k1 V W D H k0 P R o J K L hz I T;∎))
        . rw[GO (nOut y (.inr (by(clear y1 x1 h3 h2 h1 sM r U first g c d k1 V W Z D H k0 P R o J K L hz I T;∎))))];exact all y (by(clear y2 x1 h3 h2 h1 sM r U first g c zY d k1 V W Z D H k0 P R o J K L hz I T;∎)) (by(clear y2 y1 x1 h2 h1 sM r U first g c zY d k1 V W Z D H k0 P R o J K L hz I T;∎))
    . by_cases x2:x<F+G+k'
      . by_cases y2:y<F+G+k'
        . rw[GO (nIn x (by(clear y2 x2 h3 h2 h1 sM r U first g c zY d k1 V W Z D H k0 P R o J K L hz I T;∎)) x2),GO (nIn y (by(clear y2 x2 h3 h1 sM r U first g c zY d k1 V W Z D H k0 P R o J K L hz I T;∎)) y2)];exact upM _ _ ∎ (by(clear y2 x2 h3 h1 sM r U first g c zY d k1 V W Z D H k0 P R o J K L hz I T;∎)) (by(clear x2 h3 h1 U first g c d k1 V W Z D H k0 P R J K L hz I T;∎))
        . rw[GO (nOut y (.inr (by(clear x2 x1 h3 h2 h1 sM r U first g c d k1 V W Z D H k0 P R o J K L hz I T;∎))))];obtain⟨m,v,u,e⟩:=inM x (by(clear y2 x2 h3 h2 h1 sM r U first g c zY d k1 V W Z D H k0 P R o J K L hz I T;∎)) x2;rw[e];by_cases q3:m<F+G;.exact HC (ua m (F+G-1) (by(clear q3 u y2 x2 x1 h3 h2 h1 sM r U first g c zY d k1 V W Z D H k0 P R o J K L hz I T;∎)) (by(clear u v y2 x2 x1 h3 h2 h1 sM r U first g c zY d k1 V W Z D H k0 P R o J K L hz I;∎)) (by(clear u v y2 x2 x1 h3 h2 h1 sM r U first g c zY d k1 V W Z D H k0 P R o J K L hz I T;∎))) (highB y (by(clear q3 u v x2 x1 h3 h2 h1 sM r U first g c d k1 V W Z D H k0 P R o J K L hz I T;∎)) (by(clear q3 u v y2 x2 x1 h2 h1 sM r U first g c zY d k1 V W Z D H k0 P R o J K L hz I T;∎)))
          .exact ub m y (by(clear u v y2 x2 x1 h3 h2 h1 sM r U first g c zY d k1 V W Z D H k0 P R o J K L hz I T;∎)) (by(clear q3 v x2 x1 h3 h2 h1 sM r U first g c d k1 V W Z D H k0 P R o J K L hz I T;∎)) (by(clear q3 u v y2 x2 x1 h2 h1 sM r U first g c zY d k1 V W Z D H k0 P R o J K L hz I T;∎))
      . rw[GO (nOut x (.inr (by(clear x1 h3 h2 h1 sM r U first g c d k1 V W Z D H k0 P R o J K L hz I T;∎)))),GO (nOut y (.inr (by(clear x1 h3 h1 sM r U first g c d k1 V W Z D H k0 P R o J K L hz I T;∎))))];exact ub x y (by(clear x1 h3 h2 h1 sM r U first g c d k1 V W Z D H k0 P R o J K L hz I T;∎)) h2 (by(clear x2 x1 h2 h1 sM r U first g c zY d k1 V W Z D H k0 P R o J K L hz I T;∎))
  have fin2:∀(M:Array A3)(l:CS),Ha κ a₀ st1 l->FY (BS kf) X.toList Y.toList M.toList->Pr (Pt l (M.toList.zipIdx.foldl (λa x=>a.setIfInBounds (F+k+x.2) x.1) (Aq l)))=AB:=λM l S _=>S.sb.gp;by_cases le:G-k<=k'
  . refine Ck le ?_;refine A5 (AGS C B1 inX inY (by(clear le g c V W Z D H P R J K L hz I;∎)) (by(clear le U g c d V W Z D H k0 P R J K L hz I T;∎)) pX pY first U λM l S f=>?_);refine A5 (JI (A5 (Lv ?_)));have:=fin M l S f;have e:=fin2 M l S f;refine BI ?_;show Q (Pr (Pt l _)).isNone _;rw[e];exact this
  . refine C4 le ?_;refine A5 (AGR C B1 inX inY (by(clear U first g c k1 V W Z D H k0 P R o J K L hz I T;∎)) (by(clear le U g c d V W Z D H k0 P R J K L hz I T;∎)) pX pY first U λM l S f=>?_);refine A5 (JI (A5 (Lv ?_)));have:=fin M l S f;have e:=fin2 M l S f;refine BI ?_;show Q (Pr (Pt l _)).isNone _;rw[e];exact this
def FE{O:XN}(kf:AJ->O.α)(xs:Array A3):Nat->List (Nat×Nat×Nat)->Nat->Prop|x,[],y=>x=y|x,(s,n,_)::r,y=>s=x/\1<=n/\DW kf xs s (s+n)/\FE kf xs (x+n) r y
def FE.le{O:XN}{kf:AJ->O.α}{xs:Array A3}:∀{l:List (Nat×Nat×Nat)}{x y:Nat},FE kf xs x l y->x+l.length<=y|[],x,y,h=>by have h:x=y:=h;grind|(s,n,p)::r,x,y,h=>by obtain⟨_,h1,_,h2⟩:=h;have:=FE.le h2;grind
def QA{O:XN}{kf:AJ->O.α}{xs:Array A3}:∀{l m:List (Nat×Nat×Nat)}{x z:Nat},FE kf xs x (l++m) z↔∃y,FE kf xs x l y/\FE kf xs y m z
 |[],m,x,z=>⟨λh=>⟨x,rfl,h⟩,λ⟨y,h1,h2⟩=>by have h1:x=y:=h1;grind⟩|(s,n,p)::r,m,x,z=>by
  constructor
  . rintro⟨h1,h2,D,V⟩;obtain⟨y,J,U⟩:=QA.mp V;exact⟨y,⟨h1,h2,D,J⟩,U⟩
  . rintro⟨y,⟨h1,h2,D,J⟩,U⟩;exact⟨h1,h2,D,QA.mpr ⟨y,J,U⟩⟩
def FE.aw{O:XN}{kf:AJ->O.α}{xs ys:Array A3}:∀{l:List (Nat×Nat×Nat)}{x y:Nat},FE kf xs x l y->(∀k,x<=k->k<y->BG kf ys k=BG kf xs k)->FE kf ys x l y|[],x,y,h,_=>h|(s,n,p)::r,x,y,⟨h1,h2,U,D⟩,k=>by have:=FE.le D;subst h1;exact⟨rfl,h2,λi j J V W=>by rw[k i J (by omega),k j (by omega) (by omega)];exact U i j J V W,FE.aw D (by grind)⟩
def jE{a₀:Array A3}{st:CS}(C:GN prog w A s κ O kf a₀)(B:CT κ a₀ st)(c:FE kf (Aq st) 0 (Bc st).toList hi)(h1:i+1<(Bc st).size)(hz:hi<=a₀.size)(h:∀D,CT κ a₀ D->(Bc D).size+1=(Bc st).size->FE kf (Aq D) 0 (Bc D).toList hi->(∀k,hi<=k->BG kf (Aq D) k=BG kf (Aq st) k)->Q AD D):ER (Aj prog w) A E s (mergeAt' i) Q st:=by
  obtain⟨⟨J,U,H⟩,L⟩:∃x,(Bc st)[i]?=AA x:=⟨_,AM7 _ i ∎⟩;obtain⟨⟨d,V,F⟩,M⟩:∃x,(Bc st)[i+1]?=AA x:=∎;have sp:(Bc st).toList=(Bc st).toList.take i++(J,U,H)::(d,V,F)::(Bc st).toList.drop (i+2):=by
    have W:i<(Bc st).toList.length:=by∎
    have Y:i+1<(Bc st).toList.length:=by∎
    conv=>lhs;rw[<-XH i (Bc st).toList]
    congr 1;rw[Pm W,Pm Y];∎
  have Z:((Bc st).toList.take i).length=i:=by∎
  generalize(Bc st).toList.take i=W at sp Z;generalize(Bc st).toList.drop (i+2)=Y at sp;rw[sp]at c;obtain⟨y,K,⟨R,S,T,⟨X,a,b,G⟩⟩⟩:=QA.mp c;subst R X;have N:=G.le;refine AGQ C B L M S a ∎ T b λD I P u k=>h D I ?_ ?_ ∎;.∎
  . have pl:(Bc D).toList=W++(J,U+V,H)::Y:=by rw[P];simp only[Array.toList_eraseIdxIfInBounds,AI5,sp];rw[List.set_append_right _ _ ∎,Z,XM,List.set_cons_zero,List.eraseIdx_append_of_length_le ∎,Z];simp
    rw[pl];refine QA.mpr ⟨J,K.aw ∎,rfl,∎,u,?_⟩;rw[show J+(U+V)=J+U+V by∎];exact G.aw ∎
def iZ{O:XN}{kf:AJ->O.α}{xs:Array A3}:∀{l m:List (Nat×Nat×Nat)}{x y:Nat},l.map (λv=>(v.1,v.2.1))=m.map (λv=>(v.1,v.2.1))->FE kf xs x l y->FE kf xs x m y|[],[],_,_,_,h=>h|[],_::_,_,_,e,_=>by cases e|_::_,[],_,_,e,_=>by cases e|(a,n,p)::l,(b,k,q)::m,x,y,e,⟨h1,h2,J,U⟩=>by have e:=W9 e;have D:=e.1;cases D;exact⟨h1,h2,J,iZ e.2 U⟩
def jC{κ:Sm}{O:XN}{kf:AJ->O.α}{a₀:Array A3}{D:CS}{lo m x:Nat}(U:CT κ a₀ D)(V:FE kf (Aq D) 0 (Bc D).toList lo)(u3:DW kf (Aq D) lo (lo+m))(h1:1<=m)(h2:lo+m<=a₀.size)(W:x<=lo\/a₀.size<=lo):CT κ a₀ (gU D ((Bc D).push (lo,m,0)))/\∃J,((AB,lo+m):Option Unit×Nat)=(AB,J)/\(x+1<=J\/a₀.size<=J)/\J<=a₀.size/\FE kf (Aq (gU D ((Bc D).push (lo,m,0)))) 0 (Bc (gU D ((Bc D).push (lo,m,0)))).toList J:=by refine⟨⟨U.gv,U.cy,U.gp⟩,_,rfl,by omega,h2,?_⟩;rw[vX];exact QA.mpr ⟨lo,V,rfl,h1,u3,rfl⟩
def AGT{a₀:Array A3}{st:CS}(C:GN prog w A s κ O kf a₀)(B:CT κ a₀ st)(p0:Bc st=#[])(h:∀U,CT κ a₀ U->DW kf (Aq U) 0 a₀.size->Q () U):ER (Aj prog w) A E s sortRuns' Q st:=by
  rw[sortRuns'_eq];refine A5 (Lv ?_);dsimp only;simp only[B.kr];generalize minRun' a₀.size a₀.size 0=X;refine A5 (Hy (HU (I:=λx c U=>CT κ a₀ U/\∃lo,c=(AB,lo)/\(x<=lo\/a₀.size<=lo)/\lo<=a₀.size/\FE kf (Aq U) 0 (Bc U).toList lo) (Q:=λc U=>CT κ a₀ U/\c=(AB,a₀.size)/\FE kf (Aq U) 0 (Bc U).toList a₀.size) ?step ?fin ?xg) ?post);case xg=>exact⟨B,0,rfl,.inl (Aw _),EA _,by rw[p0];rfl⟩
  case fin=>
    rintro c U⟨H,lo,rfl,d,R,c⟩;obtain rfl:lo=a₀.size:=by∎
    exact⟨H,rfl,c⟩
  case post=>
    rintro c U⟨H,rfl,c⟩;dsimp only;refine A5 (Hy (HU (I:=λx c D=>c=(AB,())/\CT κ a₀ D/\FE kf (Aq D) 0 (Bc D).toList a₀.size/\((Bc D).size+x<=a₀.size\/(Bc D).size<=1)) (Q:=λc D=>c=(AB,())/\CT κ a₀ D/\FE kf (Aq D) 0 (Bc D).toList a₀.size/\(Bc D).size<=1) ?t1 ?t2 ?t3) ?t4);case t3=>exact⟨rfl,H,c,.inl (by have:=c.le;simp at this;∎)⟩
    case t2=> rintro V D⟨rfl,Z,V,q⟩;exact⟨rfl,Z,V,∎⟩
    case t4=> rintro V D⟨rfl,Z,V,q⟩;refine BI (h D Z ?_);generalize(Bc D)=P at V q;obtain⟨l⟩:=P;match l,q,V with
      |[],_,V=> have V:0=a₀.size:=V;intro i j _ _ q3;∎|[(a,n,p)],_,V=> obtain⟨e1,_,u,g⟩:=V;have g:0+n=a₀.size:=g;subst e1;rw[<-g];exact u
    case t1=>
      rintro x V D _ T⟨rfl,Z,V,q⟩;refine A5 (Lv ?_);by_cases z:(Bc D).size<=1;. refine Ck z ?_;exact BI ⟨rfl,Z,V,z⟩
      . refine C4 z ?_;generalize hi:(if Option.any (λx=>Af (x<(Bc D)[(Bc D).size-2+1]?.elim 0 (λx=>x.2.1))) _=AD then(Bc D).size-2-1 else(Bc D).size-2)=i;have f:∀(c:Prop)[Decidable c](u v N:Nat),u+1<N->v+1<N->(if c then u else v)+1<N:=λc _ u v N h1 h2=>by split<;>∎
        refine A5 (jE C Z V (by rw[<-hi];exact f _ _ _ _ ∎ ∎) (Aw _) λW K z3 L _=>?_);exact BI ⟨rfl,K,L,∎⟩
  case step=>
    rintro x c U _ T⟨H,lo,rfl,d,R,c⟩;dsimp only;by_cases z:lo>=a₀.size
    . refine Ck z ?_;obtain rfl:lo=a₀.size:=by∎
      exact BI ⟨H,rfl,c⟩
    refine C4 z ?_;refine A5 (AGP C ∎ ∎ H λn D Z K2 t n2 u2=>?_);have V:FE kf (Aq D) 0 (Bc D).toList lo:=by rw[K2.lq];exact c.aw λk _ k2=>GO (K2.wu k k2)
    dsimp only;by_cases M:n<X;all_goals first
      | (refine Ck M ?_;refine A5 (Pw (H9 ⟨rfl,?_⟩));refine A5 (AGO C ∎ ∎ Z u2 λW K K3 u3=>?_);refine C4 (by simp) ?_;have Y:1<=Dx (a₀.size-lo) X/\lo+Dx (a₀.size-lo) X<=a₀.size:=by∎
         have L:FE kf (Aq W) 0 (Bc W).toList lo:=by rw[K3.lq];exact V.aw λk _ k2=>GO (K3.wu k k2)
         generalize Dx (a₀.size-lo) X=m at u3 Y⊢)
      | (refine C4 M ?_;have Y:1<=n/\lo+n<=a₀.size:=by∎
         have K:=Z;have L:=V;have u3:=u2;generalize n=m at u3 Y⊢;generalize D=W at K L u3⊢)
    all_goals refine A5 (Lv ?_);cases hb:(Bc W).back? with |none=>exact A5 (JI (BI (jC K L u3 Y.1 Y.2 ∎)))|some b=>
        obtain⟨s1,r,pw⟩:=b;dsimp only;generalize power' a₀.size (2*s1+r) (2*s1+r+r+m) a₀.size=pp;refine A5 (Hy (HU (I:=λ_ c J=>c=(AB,())/\CT κ a₀ J/\FE kf (Aq J) 0 (Bc J).toList lo/\DW kf (Aq J) lo (lo+m)) ?r1 (λ_ _ q=>q) ⟨rfl,K,L,u3⟩) ?r2);case r1=>
          rintro y G J _ o⟨rfl,F,G,S⟩;refine A5 (Lv ?_);by_cases z4:(Bc J).size>1
          . have e4:=AM7 (Bc J) ((Bc J).size-2) (by(clear o Y M n2 t z R d T;∎));simp only[AMu z4,e4];split;.exact BI ⟨rfl,F,G,S⟩
            . refine A5 (jE C F G (by(clear o Y M n2 t z R d T;∎)) R λst5 e z5 c5 k5=>?_);exact BI ⟨rfl,e,c5,λi j w1 w2 w3=>by rw[k5 i w1,k5 j (by(clear w3 z5 o Y M n2 t z R d T;∎))];exact S i j w1 w2 w3⟩
          . simp only[AMv z4];exact BI ⟨rfl,F,G,S⟩
        case r2=> rintro G J⟨rfl,F,G,S⟩;dsimp only;refine A5 (JI (A5 (JI (BI ?_))));have e:CT κ a₀ (gU J ((Bc J).modify ((Bc J).size-1) λx=>(x.1,x.2.1,pp))):=⟨F.gv,F.cy,F.gp⟩;refine jC e ?_ S Y.1 Y.2 ∎;refine iZ (l:=(Bc J).toList) ?_ G;rw[Array.toList_modify];refine XA λk=>?_;rw[Ca,Ca,List.getElem?_modify];cases(Bc J).toList[k]? with |none=>rfl|some v=>
            show AA _=AA _;by_cases w:(Bc J).size-1=k;.simp[w]
            .simp[w]
def D8:AW->AW->Bool|.inl a,.inl b=>Af (a<b)|.inl _,.inr _=>AD|.inr _,.inl _=>AH|.inr x,.inr y=>Af (x.cps.toList<y.cps.toList)
def R6:∀a,D8 a a=AH|.inl a=>AM0 ∎|.inr x=>AM0 ∎
def AB4:∀{a b c},D8 a b=AD->D8 b c=AD->D8 a c=AD|.inl a,.inl b,.inl c,h1,h2=>AMy (Int.lt_trans (AM1 h1) (AM1 h2))|.inl _,.inl _,.inr _,_,_=>rfl|.inl _,.inr _,.inr _,_,_=>rfl|.inr x,.inr y,.inr z,h1,h2=>AMy (List.lt_trans (AM1 h1) (AM1 h2))
def AB3:∀{a b},D8 a b=AH->D8 b a=AH->a=b|.inl a,.inl b,h1,h2=>by have h1:=AM3 h1;have h2:=AM3 h2;∎|.inr x,.inr y,h1,h2=>by have h1:=AM3 h1;have h2:=AM3 h2;rw[Pj (List.le_antisymm ∎ (List.not_lt.mp h1))]
def Bv:List AW->List AW->Bool|[],[]=>AH|[],_::_=>AD|_::_,[]=>AH|a::x,b::y=>if a=b then Bv x y else D8 a b
def PX:∀x,Bv x x=AH|[]=>rfl|a::x=>by rw[Bv,AMu rfl];exact PX x
def PZ:∀{x y z},Bv x y=AD->Bv y z=AD->Bv x z=AD
  |[],[],_,h,_=>by cases h|[],_::_,[],_,h=>by cases h|[],_::_,_::_,_,_=>rfl|_::_,[],_,h,_=>by cases h|_::_,_::_,[],_,h=>by cases h|a::x,b::y,c::z,h1,h2=>by
    unfold Bv at h1 h2⊢;by_cases J:a=b
    . subst J;rw[AMu rfl]at h1;by_cases D:a=c
      . subst D;rw[AMu rfl]at h2⊢;exact PZ h1 h2
      ∎
    . rw[AMv J]at h1;by_cases D:b=c;.∎
      . rw[AMv D]at h2;have U:=AB4 h1 h2;have:a≠c:=λe=>by rw[e,R6]at U;cases U
        ∎
def PY:∀{x y},Bv x y=AH->Bv y x=AH->x=y
 |[],[],_,_=>rfl|[],_::_,h,_=>by cases h|_::_,[],_,h=>by cases h|a::x,b::y,h1,h2=>by
  unfold Bv at h1 h2;by_cases e:a=b
  . subst e;rw[AMu rfl]at h1 h2;rw[PY h1 h2]
  . rw[AMv e]at h1;rw[AMv ∎]at h2;exact absurd (AB3 h1 h2) e
@[reducible]def Kh:XN where
 α:=List AW
 blt:=Bv
 irrefl:=PX
 trans _ _ _:=PZ
 negTrans a b c h:=by cases e:Bv a b with |true=>exact .inl rfl|false=>cases D:Bv b a with |true=>exact .inr (PZ D h)|false=>rw[<-PY e D];exact .inr h
 total _ _:=PY
def Bf:AJ->AW|.int i _=>.inl i|.str x _=>.inr x|_=>.inl 0
def Ic(h:Au):AJ->List AW
 |.int i _=>[.inl i]|.str x _=>[.inr x]|.ref a=>match h.get? a with
  |AA o=>match o.data with |.seq xs _=>xs.toList.map Bf|_=>[]
  |AB=>[]
 |_=>[]
def Xk{s:AX}{O:XN}{vs:List AJ}(W:s.heap.get? a=AA (Gi "list" vs.toArray n))(hz:vs.length<=AY)(kf:AJ->O.α)(Y:∀h',(∀b o,b≠a->s.heap.get? b=AA o->h'.get? b=AA o)->2<=vs.length->∃κ,(∀(Q:Sm->AX->Prop)(E:AJ->AX->Prop),Q κ {s with heap:=h'}->Al (Aj prog w) A (AFH vs.toArray) Q E {s with heap:=h'})/\GN prog w A {s with heap:=h'} κ O kf (Ih vs))(h:∀out:Array A3,out.Perm (Ih vs)->DW kf out 0 (Ih vs).size->P (.done (.ret .none)) {s with heap:=gW s.heap a vs (out.map (·.2))}):Al (Aj prog w) A (Builtin.«list.sort» ⟨[.ref a],[]⟩) P E s:=by
  rw[list_sort_plain];have N:a<s.heap.objs.size:=Bt W;refine Aa (listItems_at W rfl (Aa (AFJ W rfl ?_)));obtain⟨Z,V⟩:∃Z,(s.heap.update a (L0 λ_=>#[])).get? a=AA (Gi "list" #[] Z):=⟨_,get?_update_seq W (λ_=>#[])⟩;refine Aa (AFM V rfl (Aa (ALd (Aa (iX (K6 ?_))))));generalize F:((s.heap.update a (L0 λ_=>#[])).push (Gi "tuple" vs.toArray 0)).push (Gi "list" #[] 0)=h2;have L:∀b o,b≠a->s.heap.get? b=AA o->h2.get? b=AA o:=λb o H q=>by rw[<-F];exact Bn _ (Bn _ ((AKd _ _ _ _ H).trans q))
  have J:h2.get? a=AA (Gi "list" #[] Z):=by rw[<-F];exact Bn _ (Bn _ V)
  have fin:=λout h1 G=>by have:=h out h1 G;unfold gW at this;rw[F]at this;exact this
  dsimp only;by_cases D:vs.toArray.size<2
  . rw[AMu D,AMu D];refine Aa (Av ?_);rw[StateT.run_pure];refine Aa (Av ?_);dsimp only;refine Aa (AFM J rfl (Aa (AFJ J rfl ?_ (hsz2:=∎))));simp only[bne_self_eq_false,Q3,AM5];refine Av (fin (vs.toArray.zip vs.toArray) (AI1 _) λi j _ R M=>?_);rw[pairsOf_size]at M;have I:vs.toArray.size=vs.length:=by simp
    obtain rfl:i=j:=by∎
    exact Nz _
  . rw[AMv D,AMv D];obtain⟨κ,K,C⟩:=Y h2 L (by simpa using D);refine Aa (K _ _ ?_);refine Aa (Ez (AGT C (st:=gP κ (Ih vs) #[] 7 AB) (Q:=λ_ U=>CT κ (Ih vs) U/\DW kf (Aq U) 0 (Ih vs).size) ⟨AI1 _,rfl,rfl⟩ rfl λU B u=>⟨B,u⟩) ?_ λ_ _ e=>e);rintro⟨⟨⟩,U⟩s'⟨rfl,B,u⟩;dsimp only;refine Aa (AFM J rfl (Aa (AFJ J rfl ?_ (hsz2:=by refine Cj (Ig ((Array.size_map ..).trans (B.gv.size_eq.trans (pairsOf_size _)))) ?_;∎))));rw[B.gp];simp only[bne_self_eq_false,Q3,AM5];exact Av (fin _ B.gv u)
def CZ:AW->Bool|.inl _=>AD|.inr _=>AH
def Ei:AJ->Prop|.int _ _=>True|.str _ _=>True|_=>False
def dF(c:Bool)(D:Ei x)(J:Ei y)(U:CZ (Bf x)=CZ (Bf y))(h:Q (D8 (Bf x) (Bf y)) s):Al (Aj prog w) A (oneLt' c x y) Q E s:=by
 cases x<;>first|exact D.elim|skip
 all_goals(cases y<;>first|exact J.elim|exact Hj ∎|exact Hj ∎|skip)
 .cases c with |true=>exact oneLt_int h|false=>exact AFo _ _ (AFK h)
 .cases c with|true=>exact oneLt_str h|false=>exact AFo _ _ (AJz h)
def WQ(D:Ei x)(J:Ei y)(U:CZ (Bf x)=CZ (Bf y))(h:Q (Af (Bf x=Bf y)) s):Al (Aj prog w) A (eqBool x y) Q E s:=by
  cases x<;>first|exact D.elim|skip
  all_goals(cases y<;>first|exact J.elim|exact Hj ∎|exact Hj ∎|skip)
  . rename_i a t c u;refine AMb a c t u prog w A E s Q ?_;have e:(a==c)=Af (Bf (.int a t)=Bf (.int c u)):=by show(a==c)=Af ((Bk a:AW)=Bk c);∎
    ∎
  . rename_i a t c u;refine AJv a c t u prog w A E s Q ?_;have e:(a==c)=Af (Bf (.str a t)=Bf (.str c u)):=by show(a==c)=Af ((BV a:AW)=BV c);∎
    ∎
def dA:∀(xs ys:List AJ)(i:Nat),(∀v∈xs,Ei v)->(∀v∈ys,Ei v)->xs.map (λv=>CZ (Bf v))=ys.map (λv=>CZ (Bf v))->Q (Bv (xs.map Bf) (ys.map Bf)) s->iC prog w A b AH Q (xs.zip ys) i s
 |[],[],_,_,_,_,h=>ALB h|[],_::_,_,_,_,e,_=>by cases e|_::_,[],_,_,_,e,_=>by cases e|x::xs,y::ys,i,W,Y,e,h=>by
  obtain⟨D,V⟩:=W9 e;have J:=W x B7;have U:=Y y B7;have h:Q (if Bf x=Bf y then Bv _ _ else D8 _ _) s:=h;refine iF (WQ J U D (AFm (λq=>?_) λq=>?_))
  . rw[AMu ∎]at h;exact AFp (dA xs ys _ ∎ ∎ V h)
  . rw[AMv ∎]at h;exact AFn (dF _ J U D h)
def HQ(h:Au)(u:AJ)(ks:List AW):Prop:=∃a o items m,u=.ref a/\h.get? a=AA o/\o.cls=.type "tuple"/\o.data=.seq items m/\items.toList.map Bf=ks/\∀v∈items.toList,Ei v
def HQ.kf(t:HQ h u ks):Ic h u=ks:=by obtain⟨a,o,items,m,rfl,e,_,d,k,_⟩:=t;simp only[Ic,e,d];exact k
inductive Kc(h:Au):List AJ->List (List AW)->Prop|cI{vs kss}:vs.length=kss.length->(∀(i:Nat)u ks,vs[i]?=AA u->kss[i]?=AA ks->∃n t,u=.int n t/\ks=[.inl n])->Kc h vs kss|cS{vs kss}:vs.length=kss.length->(∀(i:Nat)u ks,vs[i]?=AA u->kss[i]?=AA ks->∃n t,u=.str n t/\ks=[.inr n])->Kc h vs kss|cT{vs kss}(sh:List Bool):vs.length=kss.length->sh≠[]->(∀(i:Nat)u ks,vs[i]?=AA u->kss[i]?=AA ks->HQ h u ks/\ks.map CZ=sh)->Kc h vs kss
def Kc.ba{vs:List AJ}{kss:List (List AW)}(x:Kc h vs kss):vs.length=kss.length:=by cases x<;>∎
def Kc.kf(x:Kc h vs kss):∀(i:Nat)u ks,vs[i]?=AA u->kss[i]?=AA ks->Ic h u=ks:=by intro i u ks D J;cases x with|cI _ f=>obtain⟨n,t,rfl,rfl⟩:=f i u ks D J;rfl|cS _ f=>obtain⟨n,t,rfl,rfl⟩:=f i u ks D J;rfl|cT _ _ _ f=>exact(f i u ks D J).1.kf
def Lh{l:List α}{m:List β}(D:l.length=m.length)(h:x∈l):∃(i:Nat)(y:β),l[i]?=AA x/\m[i]?=AA y:=by obtain⟨i,hi,e⟩:=Nv.mp h;exact⟨i,m[i]'∎,∎,∎⟩
def Kc.wq{s:AX}{h:Au}{vs:List AJ}(x:Kc h vs kss)(h2:2<=vs.length)(kp:∀a o items m,.ref a∈vs->h.get? a=AA o->o.cls=.type "tuple"->o.data=.seq items m->s.heap.get? a=AA o):∃κ,(∀(Q:Sm->AX->Prop)(E:AJ->AX->Prop),Q κ s->Al (Aj prog w) A (AFH vs.toArray) Q E s)/\GN prog w A s κ Kh (Ic h) (Ih vs):=by
  have B:∀p∈(Ih vs).toList,p.1∈vs:=λp W=>by rw[gT]at W;exact(gS W).2
  cases x with |cI V f=>
    refine⟨oneType',λQ E q=>AK9 (T:=.type "int") h2 (λv Y=>?_) (by decide) (by decide) q,⟨λp W q C Q E k=>?_⟩⟩
    . obtain⟨i,ks,J,U⟩:=Lh V Y;obtain⟨n,t,rfl,_⟩:=f i _ _ J U;exact .now
    . obtain⟨i,ks,J,U⟩:=Lh V (B p W);obtain⟨j,ls,G,H⟩:=Lh V (B q C);obtain⟨n,t,F,_⟩:=f i _ _ J U;obtain⟨m,t',u2,_⟩:=f j _ _ G H;rw[F,u2]at k⊢;rw[AJy];refine oneLt_int ?_;have e:Af (n<m)=Bv [.inl n] [.inl m]:=by show _=if(Bk n:AW)=Bk m then AH else Af (n<m);∎
      rw[e];exact k|cS V f=>
    refine⟨oneType',λQ E q=>AK9 (T:=.type "str") h2 (λv Y=>?_) (by decide) (by decide) q,⟨λp W q C Q E k=>?_⟩⟩
    . obtain⟨i,ks,J,U⟩:=Lh V Y;obtain⟨n,t,rfl,_⟩:=f i _ _ J U;exact .now
    . obtain⟨i,ks,J,U⟩:=Lh V (B p W);obtain⟨j,ls,G,H⟩:=Lh V (B q C);obtain⟨n,t,F,_⟩:=f i _ _ J U;obtain⟨m,t',u2,_⟩:=f j _ _ G H;rw[F,u2]at k⊢;rw[AJy];refine oneLt_str ?_;have e:Af (n.cps.toList<m.cps.toList)=Bv [.inr n] [.inr m]:=by show _=if(BV n:AW)=BV m then AH else Af (n.cps.toList<m.cps.toList);∎
      rw[e];exact k|cT K V hn f=>
    have Z:∀u∈vs,∃ks,HQ s.heap u ks/\Ic h u=ks/\ks.map CZ=K:=λu M=>by obtain⟨i,ks,J,U⟩:=Lh V M;obtain⟨t,z⟩:=f i u ks J U;refine⟨ks,?_,t.kf,z⟩;obtain⟨a,o,items,m,rfl,e,c,d,r⟩:=t;exact⟨a,o,items,m,rfl,∎,c,d,r⟩
    refine⟨tuples' AD,λQ E q=>?_,⟨λp W q C Q E k=>?_⟩⟩;.
      have key:∀(l:List AJ),(∀u∈l,u∈vs)->∃fs,AK1 s.heap l fs/\fs.length=l.length/\∀v∈fs,Ei v/\CZ (Bf v)=K.headD AD:=λl=>by induction l with |nil=>exactλ_=>⟨[],trivial,rfl,∎⟩|cons u l R=> intro M;obtain⟨fs,k1,k2,k3⟩:=R ∎;obtain⟨ks,⟨a,o,items,m,rfl,e,c,d,r,fl⟩,_,z⟩:=Z u ∎;obtain⟨S⟩:=items;match S,r,fl with |[],r,_=>∎|P::l1,r,fl=> refine⟨P::fs,AK2 e c d rfl k1,∎,λv Y=>?_⟩;∎
      obtain⟨fs,k1,k2,k3⟩:=key vs λ_ h=>h;cases L:K.headD AD with
      |true=> refine iG (T:=.type "int") k1 ∎ (λv Y=>?_) (by decide) q;obtain⟨fl,z⟩:=k3 v Y;rw[L]at z;cases v<;>first|exact fl.elim|exact Hj (show AD=AH from z)|exact Hj ∎|exact .now
      |false=> refine iG (T:=.type "str") k1 ∎ (λv Y=>?_) (by decide) q;obtain⟨fl,z⟩:=k3 v Y;rw[L]at z;cases v<;>first|exact fl.elim|exact Hj ∎|exact Hj (show AH=AD from z)|exact .now
    . obtain⟨ks,⟨a,o,items,m,F,e,c,d,r,fl⟩,k1,X⟩:=Z _ (B p W);obtain⟨ls,⟨g,o',D,m',u2,O,y,N,r',I⟩,k2,b⟩:=Z _ (B q C);have k:Q (Bv (Ic h p.1) (Ic h q.1)) s:=k;rw[k1,k2,<-r,<-r']at k;rw[F,u2];have es:=by
        have h1:(items.toList.map Bf).map CZ=(D.toList.map Bf).map CZ:=by rw[r,r',X,b]
        rw[Bj,Bj]at h1;exact h1
      have el:items.size=D.size:=by have:=AMw Kk es;simpa using this
      refine ALA e d O N ?_;rw[AM0 ∎];exact dA _ _ 0 fl I es k
def Wf{U:List β}(p:U.Perm bs):∀{J:List α},Gj F J bs->∃D,D.Perm J/\Gj F D U:=by induction p with
 |nil=>intro J h;cases h;exact⟨[],.nil,.nil⟩|cons x _ C=>intro J h;cases h with|cons h1 h2=>obtain⟨D,Y,Z⟩:=C h2;exact⟨_,Y.cons _,.cons h1 Z⟩
 |swap x y l=>intro J h;cases h with|cons h1 h2=>cases h2 with|cons A B=>exact⟨_,fW _ _ _,.cons A (.cons h1 B)⟩
 |trans _ _ V W=> intro J h;obtain⟨a1,Y,Z⟩:=W h;obtain⟨a2,E,G⟩:=V Z;exact⟨a2,E.trans Y,G⟩
def SF:∀{l:List α}{m:List β},Gj F l m->l.length=m.length/\∀(i:Nat)a b,l[i]?=AA a->m[i]?=AA b->F a b|_,_,.nil=>∎|_,_,.cons h r=>by obtain⟨h1,h2⟩:=SF r;∎
def PR:∀{ks:List AW}{J:List AJ},BR (ks.map BP) J->J.map Bf=ks/\∀v∈J,Ei v|[],_,h=>by cases h;∎|k::ks,_,h=>by cases h with|cons h1 h2=>obtain⟨e,f⟩:=PR h2;cases k with|inl i=>obtain⟨t,rfl⟩:=h1;exact⟨by rw[Dw,e];rfl,λv D=>by rcases Bw.mp D with rfl|D;exact IK;∎⟩|inr x=>obtain⟨t,rfl⟩:=h1;exact⟨by rw[Dw,e];rfl,λv D=>by rcases Bw.mp D with rfl|D;exact IK;∎⟩
def dS{X:BY}{D:List AJ}{ys:List AQ}{kss:List (List AW)}{h:Au}(r:BR ys D)(E:Kc h D kss){out:Array A3}(p:out.Perm (Ih D))(u:DW (O:=Kh) (Ic h) out 0 (Ih D).size):∃qs:List (AQ×List AW),qs.Perm (ys.zip kss)/\BR (qs.map (·.1)) (out.map (·.2)).toList/\(qs.map (·.2)).Pairwise (λa b=>Bv b a=AH):=by
  have pl:out.toList.Perm (D.zip D):=by rw[<-gT];exact Ur.mp p
  have T:∀q∈out.toList,q.1=q.2/\q.1∈D:=λq I=>gS (pl.mem_iff.mp I);have e0:(out.map (·.2)).toList=out.toList.map (·.2):=AI4 ..;have L:=by have:=pl.map (·.2);rwa[SY (Aw _)]at this
  have Q:=r.aj;have B:=E.ba;have K:Gj (λ(q:AQ×List AW)v=>BQ q.1 v/\Ic h v=q.2) (ys.zip kss) D:=by refine Lj (by grind) λi a b Y J=>?_;obtain⟨F,G⟩:=SX.mp Y;obtain⟨v,Z,H⟩:=r.ju F;rw[J]at Z;cases Z;exact⟨H,E.kf i b a.2 J G⟩
  obtain⟨qs,M,N⟩:=Wf L K;obtain⟨S,P⟩:=SF N;refine⟨qs,M,?_,?_⟩
  . rw[e0];refine Lj (by grind) λi a b Y J=>?_;grind
  . rw[Sb];intro i j hi A U;rw[A4]at hi A;have R:=p.size_eq.symm;have C:∀k(B:k<qs.length),(qs[k]).2=BG (O:=Kh) (Ic h) out k:=λk B=>by
      have W:k<out.size:=by grind
      rw[DX W];have J:(out.toList.map (·.2))[k]?=AA out[k].2:=by grind
      grind
    have:=u i j (EA _) (Nx U) (by grind);rw[<-C i hi,<-C j A]at this;rw[gD,gD];exact this
def ABT{A:Ci}{s:AX}(K:W.KdlSrc prog w T r d n P OK)(hh:A.handled=AB)(hok:OK s.heap)(hn:n<=AY)(hQ:∀h' tk(acc:Array AJ),(∀b o,s.heap.get? b=AA o->h'.get? b=AA o)->s.heap.objs.size<h'.objs.size->ItemsOf P acc n->Q acc.toList {s with heap:=h',toks:=tk}):Al (Aj prog w) A (collect (.ref r)) Q E s:=by
 refine Aa (iY (Mm AKN ?_));refine Aa (Mn ?_);refine Av ⟨Xc AFW _,Mm AKM ?_⟩;have hS₁:(s.heap.push {cls:=.type "list",data:=.seq ([]:List AJ).toArray}).get? _=AA _:=EB _ rfl;have ht:=K.there _ hok;have kp:∀b o,s.heap.get? b=AA o->(s.heap.push {cls:=.type "list",data:=.seq ([]).toArray}).get? b=AA o:=λb o e=>Bn _ e;have key:∀s',(∃h' tk acc c',s'={s with heap:=h',toks:=tk}/\(∀b o,b≠s.heap.objs.size->(s.heap.push {cls:=.type "list",data:=.seq ([]:List AJ).toArray}).get? b=AA o->h'.get? b=AA o)/\h'.get? s.heap.objs.size=AA {cls:=.type "list",dict:=AB,data:=.seq acc c',slots:=#[]}/\ItemsOf P acc n)->Al (Aj prog w) A (load _>>=λo=>match o.data with |.seq xs _=>BC xs.toList|_=>iV "internal:collect") Q E s':=λs'⟨h',tk,acc,c',e,k1,k2,k3⟩=>by subst e;refine Aa (AGE k2 ?_);exact Av (hQ h' tk acc (λb o e=>k1 b o (DL (Bt e)) (kp b o e)) (Bt k2) k3)
 refine Ez (W.kdl_extend (A:=A) (R:=λr s'=>r=.ok (.ret (.ref s.heap.objs.size))/\∃h' tk acc c',s'={s with heap:=h',toks:=tk}/\(∀b o,b≠s.heap.objs.size->(s.heap.push {cls:=.type "list",data:=.seq ([]:List AJ).toArray}).get? b=AA o->h'.get? b=AA o)/\h'.get? s.heap.objs.size=AA {cls:=.type "list",dict:=AB,data:=.seq acc c',slots:=#[]}/\ItemsOf P acc n) K hh (K.keep _ _ hok (by grind)) _ (by grind) (by grind) _ 0 hS₁ (by grind) hn) (λfin s' hf=>?_) (by grind);cases fin with|done f=>grind|again c=>refine⟨hf.1,L3 hf.2 λr s2⟨e,q⟩=>?_⟩;grind
def ABd(A:Ci)(s:AX)(J:Ei x)(U:Ei y)(D:CZ (Bf x)=CZ (Bf y)):hZ A s x y (Af (Bf x=Bf y)):=by intro prog w E Q h;exact WQ J U D h
def ADm(A:Ci)(s:AX)(D:Ei x)(J:Ei y)(U:CZ (Bf x)=CZ (Bf y))(prog:CB)(w:Ba)(E:AJ->AX->Prop)(Q:AJ->AX->Prop)(h:Q (.bool (D8 (Bf x) (Bf y))) s):Al (Aj prog w) A (richCompare .Lt x y) Q E s:=by
 cases x<;>first|exact D.elim|skip
 all_goals(cases y<;>first|exact J.elim|exact Hj _|exact Hj ∎|skip)
 .exact(AFK h)
 .exact(AJz h)
structure Ru(vs ws:List AJ)(n m:Nat)(r:Bool):Prop where
 ex:∃(us zs:List AJ),vs=us++zs/\(zs=[]\/ws.length<=us.length)/\(∀v∈us,Ei v)/\(∀v∈ws,Ei v)/\(∀(i:Nat)x y,us[i]?=AA x->ws[i]?=AA y->CZ (Bf x)=CZ (Bf y))/\Bv (us.map Bf) (ws.map Bf)=r
 ba:vs.length+m=ws.length+n
def fR(l b:AI)(items D:Array AJ)(n T:Nat)(dd C:Option AI)(sl L:Array (Option AJ))(r:Bool)(H:Ru items.toList D.toList items.size D.size r):Meets (Builtin.«tuple.__lt__» ⟨[.ref l,.ref b],[]⟩) (λ_ R s=>s.heap.get? l=AA {cls:=.type "tuple",dict:=dd,data:=.seq items n,slots:=sl}/\s.heap.get? b=AA {cls:=.type "tuple",dict:=C,data:=.seq D T,slots:=L}/\R (.ok (.ret (.bool r))) s):=.of_wp λprog w A R s h=>by
 obtain⟨B,g,d,tk,os⟩:=s;obtain⟨Q,P,h⟩:=h;have f2:=AutoSeq1.sub_tuple_tuple;wp_walk using wpAny_loadPart' Q,wpAny_loadPart' P,ALa _ (λrest b s'=>b.1=AB/\s'=⟨B,g,d,tk,os⟩/\∃(vs ws:List AJ)(q:Bool),rest=vs.zip ws/\Ru vs ws items.size D.size q/\R (.ok (.ret (.bool q))) ⟨B,g,d,tk,os⟩) _;case turn=> rintro⟨y,x⟩rest b s'⟨W,rfl,vs,ws,q,hz,I,hR⟩;obtain⟨⟨V,zs,rfl,h1,h2,E,F,U⟩,J⟩:=I;cases ws with |nil=>rw[List.zip_nil_right]at hz;cases hz|cons c ws=>cases V with |nil=>simp_all|cons a V=> rw[fZ,AE2]at hz;injection hz with K Y;injection K with S H;subst S H;have fa:=h2 y B7;have M:=E x B7;have ks:=F 0 y x rfl rfl;have U:(if Bf y=Bf x then Bv (V.map Bf) (ws.map Bf)else D8 (Bf y) (Bf x))=q:=U;refine Aa (ABd A.in1 ⟨B,g,d,tk,os⟩ fa M ks prog w _ _ ?_);cases e:Af (Bf y=Bf x)with |true=> rw[AMu (AM1 e)]at U;wp_walk;refine⟨rfl,rfl,V++zs,ws,q,Y,⟨⟨V,zs,rfl,?_,λv Z=>h2 v (DK _ Z),λv Z=>E v (DK _ Z),λi x y N O=>F (i+1) x y (by simpa using N) (by simpa using O),U⟩,?_⟩,hR⟩;all_goals∎|false=> rw[AMv (AM3 e)]at U;have G:=ADm A.in1 ⟨B,g,d,tk,os⟩ fa M ks prog w;wp_walk using G;exact⟨_,rfl,by rw[U];exact hR⟩
 case fin=>
  rintro⟨X,f⟩s'⟨W,rfl,vs,ws,q,hz,⟨⟨V,zs,rfl,h1,h2,E,F,U⟩,J⟩,hR⟩;simp only at W;subst W;have Z:q=Af (items.size<D.size):=by rw[<-U];cases V with
   |nil=>
    rcases h1 with h1|h1
    . subst h1;cases ws with|nil=>simp only[Lp,Ek]at J;exact(AM0 ∎).symm|cons c ws=>simp only[Lp,Ek,Fq]at J;exact(AMy ∎).symm
    . have:ws=[]:=List.eq_nil_of_length_eq_zero (by simpa using h1);subst this;simp only[Lp,AEx]at J;exact(AM0 ∎).symm|cons a V=>cases ws with|nil=>simp only[Lp,Fq,fZ]at J;exact(AM0 ∎).symm|cons c ws=>rw[fZ,AE2]at hz;cases hz
  rw[Z]at hR;wp_walk;exact⟨_,rfl,by simpa[AL9]using hR⟩
 case h=>exact⟨rfl,rfl,items.toList,D.toList,r,rfl,H,h⟩
def eV(K:Ap):Cy:=λx y H Q=>∃a b ks zs D,x=.ref a/\y=.ref b/\CH K H a (ks.map BP++zs)/\CH K H b (D.map BP)/\(zs=[]\/D.length<=ks.length)/\(∀(i:Nat)k m,ks[i]?=AA k->D[i]?=AA m->CZ k=CZ m)/\Q (.bl (Bv ks D)) H
def W8:∀{xs ys:List AQ}{D:List AJ},BR (xs++ys) D->∃vs ws,D=vs++ws/\BR xs vs/\BR ys ws|[],ys,D,h=>⟨[],D,rfl,.nil,h⟩|x::xs,ys,_,h=>by cases h with|cons h1 h2=>obtain⟨vs,ws,e,p1,p2⟩:=W8 h2;exact⟨_,ws,∎,.cons h1 p1,p2⟩
def ACo{X:BY}{K:Ap}(T:X.A.units<Gk)(O:X.K=K:=by rfl):CN X (EI .Lt) (eV K):=by
 subst O;intro pins s σ H x y v u Q I k l h;obtain⟨a,b,ks,zs,Z,rfl,rfl,P,R,hz,S,q⟩:=h;cases k;cases l;obtain⟨c,r1,p1,_⟩:=I.bj P;obtain⟨D,r2,p2,_⟩:=I.bj R;obtain⟨B,ws,rfl,M,j⟩:=W8 r1;obtain⟨k1,N⟩:=PR M;obtain⟨k2,f2⟩:=PR r2;have d:=M.aj;have e:=r2.aj;have p:=j.aj;rw[A4]at d e;obtain⟨⟨cls,dd,E,sl⟩,L,F,n,G⟩:=id p1;obtain⟨⟨C,Y,W,A⟩,V,J,g,U⟩:=id p2;simp only at F G J U;subst F G J U;have f:Ru (B++ws).toArray.toList D.toArray.toList (B++ws).toArray.size D.toArray.size (Bv ks Z):=by
  refine⟨⟨B,ws,by simp,?_,N,by simpa using f2,λi x y m o=>?_,by simp[k1,k2]⟩,by simp;∎⟩;.∎
  .refine S i _ _ ∎ ∎
 exact ALP (op:=.Lt) ⟨_,L,rfl⟩ ⟨_,V,rfl⟩ AKY AKP (by rfl) (fR a b _ _ n g dd Y sl A _ f) ⟨L,V,show iB (Bv ks Z)≠Value.notImplemented/\FR X pins σ Q (.bool (Bv ks Z)) s from⟨∎,⟨.bl _,H,I,rfl,q⟩⟩⟩ T
def cU:AW->HX|.inl i=>.int i|.inr x=>.str x
def Kb(kss:List (List AW)):Prop:=kss.Pairwise λa b=>Bv b a=AH
def fH:∀{a b:List (List AW)},a.Perm b->Kb a->Kb b->a=b
  |[],b,p,_,_=>by simp_all|x::a,[],p,_,_=>by simp_all|x::a,y::b,p,W,Y=>by
    obtain⟨h1,h2⟩:=Nw.mp W;obtain⟨U,V⟩:=Nw.mp Y;have e:x=y:=by
      have D:y∈x::a:=∎;have J:x∈y::b:=∎;rcases Bw.mp D with e|D;.∎
      . rcases Bw.mp J with e|J;.exact e
        .exact PY (U x J) (h1 y D)
    subst e;rw[fH (by simp_all) h2 V]
def R1:∀{l:List α}{n m:Nat},(∀(i:Nat)x,l[i]?=AA x->(p x=AD↔n<=i/\i<m))->(l.drop n).take (m-n)=l.filter p|[],n,m,_=>by simp|x::l,0,0,h=>by have D:=h 0 x rfl;have J:=R1 (n:=0) (m:=0) λi y e=>(h (i+1) y (by simpa using e)).trans ∎;rw[Nu,AMv (λz=>by have:=D.mp z;∎),<-J];rfl|x::l,0,m+1,h=>by have D:=h 0 x rfl;have J:=R1 (n:=0) (m:=m) λi y e=>(h (i+1) y (by simpa using e)).trans ∎;rw[Nu,AMu (D.mpr ⟨Aw _,gN _⟩),<-J];rfl|x::l,n+1,m,h=>by have D:=h 0 x rfl;have J:=R1 (n:=n) (m:=m-1) λi y e=>(h (i+1) y (by simpa using e)).trans ∎;rw[Nu,AMv (λz=>by have:=D.mp z;∎),<-J];congr 1;∎
def CP.uq{A:Ci}(r:CP k A):A.in1.units+64<Gk:=by
 have:=r.un;have e:A.in1.units<=A.units+1:=by first|exact Aw _|(∎)
 ∎
def AGH{prog:CB}{w:Ba}{K:Type}[DecidableEq K]{knd:KeyKind prog w K}{A:Ci}{E:AJ->AX->Prop}{s:AX}{d:AI}{kvs:List (K×AJ)}{k:K}{key D:AJ}{Q:AJ->AX->Prop}(J:knd.is k key=AD)(X:s.heap.DictOf knd d kvs)(V:∀v,HZ kvs k=AA v->Q v {s with toks:=s.toks+1})(F:HZ kvs k=AB->∀h',h'.DictOf knd d (P7 kvs k D)->Kv d s.heap h'->Q D {s with heap:=h',toks:=s.toks+1})(c:kvs.length<=AY):Al (Aj prog w) A (ALH d key D) Q E s:=by
 obtain⟨o,es,ep,H,S,Z,P,I,hn⟩:=X;have O:∀x,findBy knd.is es x=HZ _ x:=λx=>by rw[<-I.find x];simp[findBy]
 have T:es.size<=AY:=by
  have f:=I.length;have g:es.toList.length=es.size:=by simp
  omega
 unfold ALH;try with_reducible refine K6 ?_
 refine Aa (knd.pyHash J ?_);refine Aa (wpAny_dictFind_of J H Z P ?_);have C:(es.findIdx? λe=>knd.is k e.key)=kvs.findIdx? λG=>Af (G.1=k):=by rw[<-I.findIdx k];obtain⟨l⟩:=es;simp
 cases hi:es.findIdx? _ with
 |some i=>
  have U:HZ kvs k=(es[i]?).map (·.val):=by rw[<-O k,ALK,hi]
  refine Aa (wpAny_dictEntries H Z ?_);cases B:es[i]? with |none=> have:=Array.findIdx?_eq_some_iff_findIdx_eq.mp hi;have M:=this.1;rw[IL M]at B;exact nomatch B|some e=>rw[B]at U;exact Aa (H9 (Av (V _ U)))
 |none=>
  have U:HZ kvs k=AB:=by rw[<-O k,ALK,hi]
  have Y:=not_mem_of_findIdx_none (C▸hi);have W:¬(kvs.any λG=>Af (G.1=k))=AD:=by rw[AJJ];rintro⟨G,L,B⟩;exact Y (B8.mpr ⟨G,L,AM1 B⟩)
  refine Aa (H9 (Aa (wpAny_updateDictKeys H Z (Av (F U _ ⟨_,_,_,Ss _ H (Obj.isFreed_of_dict (AKh Z _)),S.mapDictKeys _,AKh Z _,P.push J _,?_,?_⟩ (Mi ..))))))
  . rw[P7,AMv W];have:=I.append J (knd.hash k) D;simpa using this
  . rw[P7,AMv W,Cc,HA];refine⟨hn,by simp,?_⟩;intro a R b N;simp at N;subst N;exactλe=>Y (e▸R)
def AGG{prog:CB}{w:Ba}{K:Type}[DecidableEq K]{knd:KeyKind prog w K}{d:AI}{k:K}{key:AJ}(J:knd.is k key=AD)(Z:(d==K4)=AH)(D:AJ):MeetsIn prog w (Builtin.«dict.setdefault» ⟨[.ref d,key,D],[]⟩) (λ_ R s=>∃kvs,s.heap.DictOf knd d kvs/\kvs.length<=AY/\(∀v,HZ kvs k=AA v->R (.ok (.ret v)) {s with toks:=s.toks+1})/\(HZ kvs k=AB->∀h',h'.DictOf knd d (P7 kvs k D)->Kv d s.heap h'->R (.ok (.ret D)) {s with heap:=h',toks:=s.toks+1})):=.of_wp λA R s⟨kvs,Y,W,h1,h2⟩=>by refine Aa ?_;refine Aa (wpAny_notOrdered_dict Y.typeIs ?_);refine Av ?_;simp only[Z,Q3,AM5];exact Aa (AGH J Y (λv B=>Av ⟨v,rfl,h1 v B⟩) (λhn h' U V=>Av ⟨_,rfl,h2 hn h' U V⟩) W)
def AD8(td ty tx:A6):A6:=λσ H Q=>td σ H λx H1=>∃a,x=.ref a/\V7 H1 a/\ty σ H1 λy H2=>tx σ H2 λz D=>∃kvs k,D a=AA (.dK kvs)/\y=BP k/\kvs.length<AY/\(∀v,FW kvs k=AA v->Q v D)/\(FW kvs k=AB->Q z (Ax D a (.dK (Ej kvs k z))))
def AC7(ho:AV X o td)(he:AV X e ty)(hf:AV X f tx)(m:Rv X o "setdefault" apos e f cpos):AV X (.Call (.Attribute o "setdefault" apos) [e,f] [] cpos) (AD8 td ty tx):=by
  intro pins s σ H Q I h;refine ALW m.ai m.yb m.vp AKS AKU F.type_dict_setdefault (A2 (ho pins s σ H _ I h) λu s1⟨x,H1,I1,rx,a,ex,d,q1⟩=>?_);subst ex;obtain rfl:u=FD a:=rx;obtain⟨t1,t2,_⟩:=cP I1 d;refine⟨t1,t2,?_⟩;rw[m.rq];refine AFS rfl (gX (Lw (A2 (he pins s1 σ H1 _ I1 q1) λiv s2⟨y,H2,I2,ry,q2⟩=>Lw (A2 (hf pins s2 σ H2 _ I2 q2) λfv s3⟨z,H3,I3,rz,kvs,k,ea,ey,hl,q3,q4⟩=>N0 ?_))));subst ey;obtain⟨zz,hd,vs,rel,dd⟩:=WO I3.ay ea;refine AFw AKU dd.typeIs F.entry_dict_setdefault (F.args_dict_setdefault_3 _ _ _) (AGG (knd:=Dg X.af X.w) (Nm ry) hd fv) ⟨vs,dd,by rw[<-rel.aj];exact zz,λw' hw=>?_,λhn h' dd' hs=>?_⟩;.cases l:FW kvs k with |none=>have:=bO (o:=HZ vs k) (by rw[<-l];exact rel.rf k);rw[hw]at this;cases this|some v=> obtain⟨w2,hw2,rw2⟩:=PH (v:=v) (o:=HZ vs k) (by rw[<-l];exact rel.rf k);rw[hw]at hw2;cases hw2;exact⟨v,H3,I3.jd _,rw2,q3 v l⟩
  . have l:FW kvs k=AB:=by cases l:FW kvs k with|none=>rfl|some v=> obtain⟨w2,hw2,_⟩:=PH (v:=v) (o:=HZ vs k) (by rw[<-l];exact rel.rf k);rw[hn]at hw2;cases hw2
    have he:∃q,h'.get? a=AA q:=let⟨q,_,_,hq,_⟩:=dd';⟨q,hq⟩;have hl2:(Ej kvs k z).length<=AY:=by have:=SA kvs k z;omega
    exact⟨z,_,R3 I3 (by rw[ea];exact IK) hs he (WN hl2 hd (rel.fm k rz) dd'),rz,q4 l⟩
def ABV{s:AX}{items:Array AJ}{lo:Option Int}(D:Sl s.heap t items)(V:s.heap.IsSliceOf sl W Y .none)(pl:Kw W lo)(Z:Kw Y hi)(hw:CD items.size 0 lo=0/\CD items.size items.size hi=items.size)(h:Q (.ref t) s):Al (Aj prog w) A (L5 (.ref t) (.ref sl)) Q E s:=by
 obtain⟨so,J,U,B⟩:=id V;have ts:s.TypeIs (.ref sl) _:=⟨so,J,U⟩;unfold L5;try with_reducible refine K6 ?_
 refine Aa (ALj D.typeIs (by decide) (Aa (TC D.typeIs Pu (K5 Pu D.typeIs AJu ?_ (args_tuple_getitem _ _)))));show Al _ _ (AKE _>>=_) _ _ s;refine Aa (AJ6 D (Aa (Xh ts ?_)));refine Aa (ZN V pl Z ?_);rw[hw.1,hw.2];show Al _ _ (if((((0):Int))==0&&(1)==1&&(items.size-0)==items.size)=AD then _ else _) _ _ s;rw[AMu (by simp)];refine Aa (Aa (Xh D.typeIs (Av ?_)));first|exact Aa _|exact Aa (H9 (Av ⟨_,rfl,Av h⟩))
def eZ(K:Ap):AQ->Option Int->Option Int->AR->BZ->Prop:=λx lo hi H Q=>∃a xs,x=.ref a/\CH K H a xs/\CD xs.length 0 lo=0/\CD xs.length xs.length hi=xs.length/\Q (.ref a) H
def ADt{X:BY}:Jf X (eZ X.K):=by
 intro pins s σ H x v A B lo hi sl Q I Z V pl Y h;obtain⟨a,xs,rfl,W,h1,h2,q⟩:=h;cases Z;obtain⟨D,r,U,hz⟩:=I.bj W;have J:D.toArray.size=xs.length:=by exact r.aj.symm
 refine⟨_,_,Pu.lookup,U.typeIs,?_⟩;refine ABV U V pl Y ∎ ?_;exact⟨.ref a,H,I,rfl,q⟩
def ADu{X:BY}{K:Ap}(D:X.K=K:=by rfl):Jf X (λx lo hi H Q=>eZ K x lo hi H Q\/fA K x lo hi H Q):=by subst D;exact WD ADt ADy
def V8(o:BF)(kvs:List (AW×AQ))(d:AI):G5:=⟨λi H=>H d=AA (.frz o (.dK kvs))/\i<kvs.length,λi H x H'=>H'=H/\∃p,kvs[i]?=AA p/\x=BP p.1,λi H=>H d=AA (.frz o (.dK kvs))/\kvs.length<=i⟩
def cK{h:Au}{o:BF}(B:DB P w H h)(e:H d=AA (.frz o (.dK kvs)))(W:o.data=.dict es ep):∃vs,Fp kvs vs/\h.DictAt (Dg P w) d vs ep:=by obtain⟨Y,z,lo,vs,U,o',es',Z,J,A,D,r⟩:=(show Dt P w H h d _ from B d _ e);rw[Y]at J;cases J;rw[W]at D;cases D;exact⟨vs,U,o,es,Y,A,W,r⟩
def AEb{K:Ap}(d it:AI){o:BF}{kvs:List (AW×AQ)}(a:o.data=.dict es ep):Nj P w K tg (V8 o kvs d) [it] it (λi h=>h.IsKeyIter it d i kvs.length ep)where
 vt:=by simp
 kj:=λi h st b U=>by
  have e:=by simpa using U
  subst e;obtain⟨o,e,c,d⟩:=st;exact⟨o,e,λv z=>by rw[d]at z;cases z⟩
 aw:=λi h h' st k=>st.at λo e=>k it (by simp) o e
 lj:=by intro X N hw M T i pins s σ H E I Z st O;subst N hw M;obtain⟨e,hi⟩:=O;obtain⟨vs,D,J⟩:=cK I.ay e a;have A:=Ml D;have R:vs[i]?=AA _:=EM ∎;have Q:=EM hi;have S:=We D Q R;generalize kvs[i]=p at Q S;generalize vs[i]'∎=q at R S;obtain⟨k,x⟩:=q;obtain⟨B,C,f2,F,G,L⟩:=Z it (by simp);rw[A]at st;refine wpAny_pyNext_dict_item st J R λkey h' Y W r=>?_;have f:=I.cu (t':=s.toks) (λb o U e=>(r.2 b U).trans e) B C F G L;obtain⟨o',l,g,j⟩:=id W;rw[<-A]at W;have n:=S.1;exact⟨key,rfl,R5 l g j (by decide) ⟨_,H,f,by rw[n];exact cY Y,⟨rfl,p,Q,rfl⟩,W,λb U=>(Z b U).1⟩⟩
 lg:=by intro X N hw M T i pins s σ H E I Z st O;subst N hw M;obtain⟨e,hi⟩:=O;obtain⟨vs,D,J⟩:=cK I.ay e a;have A:=Ml D;obtain⟨B,C,f2,F,G,L⟩:=Z it (by simp);rw[A]at st;exact wpAny_pyNext_dict_end (I.ok.hd T) st J (by simp;∎) λh' m=>⟨rfl,I.cu (λb o U e=>m b o U e) B C F G L⟩
 og:=λ_ _ _ _ _ st h=>wpAny_pyIter_keyiter st h
def ABq(tl:A6):G7:=λσ H R=>tl σ H λx H1=>∃a kvs,x=.ref a/\EY H1 a (.dK kvs)/\∀o H2,H2 a=AA (.frz o (.dK kvs))->(∀b,b≠a->H2 b=H1 b)->R (V8 o kvs a) H2
def ADL(A:AV X l tl):EX X tg l (ABq tl):=by
 intro pins s σ H R I h;refine A2 (A _ s σ H _ I h) λv s1⟨x,H1,Z,r1,F⟩=>?_;obtain⟨a,kvs,e,E,q⟩:=F;subst e;cases r1;obtain⟨o,H2,W,C,G,f2⟩:∃o H2,Ae X _ σ H2 s1/\H2 a=AA (.frz o _)/\R (V8 o _ a) H2/\∀b,H1 b=AB->H2 b=AB:=by
  rcases E with e|⟨o,e⟩
  . obtain⟨z,lo,vs,J,o,es,ep,U,B,Y,r⟩:=(show Dt _ _ H1 _ a _ from Z.ay a _ e);refine⟨o,_,?_,Dh,q o _ Dh (λb D=>Bs D),λb D=>by rw[Bs (Nn e D).symm];exact D⟩;exact Z.jo (by rw[e];trivial) (.inl rfl) (λb u _ q=>q) ⟨o,U⟩ ⟨U,z,lo,vs,J,o,es,ep,U,B,Y,r⟩
  .exact⟨o,H1,Z,e,q o H1 e λb _=>rfl,λb D=>D⟩
 obtain⟨U,z,lo,vs,J,o',es,ep,V,B,Y,r⟩:=(show Dt _ _ H2 _ a _ from W.ay a _ C);rw[U]at V;cases V;have A:=Ml J;refine wpAny_pyIter_dict lo ⟨o,es,U,B,Y,r⟩ ?_;refine⟨_,_,_,_,H2,rfl,W.cp λb o e=>Bn _ e,AEb a _ Y,⟨_,EB _ rfl,rfl,by rw[A];rfl⟩,λb D=>?_,G⟩;have e:=by simpa using D
 subst e;exact W.ni (Aw _) (W.ay.ao (Aw _))
def jR:Manifest.owners.lookup (String.ofList ['r','o','t','a','r','e','t','i','_','t','e','s'].reverse)=AA Manifest.sig_set_iterator:=by kernel_rfl
def JM:Slot "set_iterator" "__next__" "set_iterator.__next__":=.of (owner:="set_iterator") (n:="__next__") (by kernel_rfl) (by decide+kernel) (by decide+kernel) (by decide+kernel) (by first|exact .inl (by decide+kernel)|exact .inr (by decide+kernel)) (by kernel_rfl)
def TV:AF1 table "set_iterator.__next__"=AA Builtin.«set_iterator.__next__»:=entryFor_of_tree (by kernel_rfl)
def TU(a:AJ):iJ "set_iterator.__next__" ⟨[a],[]⟩:=by unfold iJ;rw[ALR (n:=['_','_','t','x','e','n','_','_']) (by kernel_rfl) jR];kernel_rfl
def jY:Slot "set_iterator" "__iter__" "set_iterator.__iter__":=.of (owner:="set_iterator") (n:="__iter__") (by kernel_rfl) (by decide+kernel) (by decide+kernel) (by decide+kernel) (by first|exact .inl (by decide+kernel)|exact .inr (by decide+kernel)) (by kernel_rfl)
def AGh:AF1 table "set.__iter__"=AA Builtin.«frozenset.__iter__»:=ALI (id':="frozenset.__iter__") (by kernel_rfl) rfl (by decide+kernel) (by kernel_rfl)
def J0(xs:Array Nat):Prop:=∀i j:Nat,i<j->∀a b:Nat,xs[i]?=AA a->xs[j]?=AA b->a<b
def Xl{xs:Array Nat}(W:J0 xs):∀(D lo hi:Nat),hi-lo<=D->lo<=hi->hi<=xs.size->(∀i a,i<lo->xs[i]?=AA a->a<j)->(∀i a,hi<=i->xs[i]?=AA a->j<=a)->XS xs j D lo hi<=xs.size/\(∀i a,i<XS xs j D lo hi->xs[i]?=AA a->a<j)/\∀i a,XS xs j D lo hi<=i->xs[i]?=AA a->j<=a
 |0,lo,hi,h1,h2,Y,U,V=>by unfold XS;exact⟨∎,U,λi a hi=>V i a ∎⟩|D+1,lo,hi,h1,h2,Y,U,V=>by
  unfold XS;split;.next C=>
   have Z:(lo+hi)/2<xs.size:=by∎
   have e:=IL Z;have B:xs.getD ((lo+hi)/2) j=xs[(lo+hi)/2]:=by simp[Array.getD,Z]
   dsimp only;rw[B];split;.next A=>
    refine Xl W _ _ _ ∎ ∎ Y (λi a E J=>?_) V;by_cases h:i=(lo+hi)/2;.subst h;rw[e]at J;cases J;exact A
    .have:=W i _ ∎ a _ J e;∎
   .next A=>
    refine Xl W _ _ _ ∎ ∎ ∎ U (λi a E J=>?_);by_cases h:i=(lo+hi)/2;.subst h;rw[e]at J;cases J;∎
    .have:=W _ i ∎ _ a e J;∎
  .exact⟨∎,U,λi a hi=>V i a ∎⟩
def Xm{xs:Array Nat}(D:J0 xs)(j:Nat):JK xs j<=xs.size/\(∀i a,i<JK xs j->xs[i]?=AA a->a<j)/\∀i a,JK xs j<=i->xs[i]?=AA a->j<=a:=Xl D _ 0 _ ∎ ∎ (Aw _) (λi a h=>absurd h ∎) λi a h e=>by rw[Od h]at e;cases e
def AGX(J:J0 xs)(e:xs[i]?=AA a):JK xs (a+1)=i+1:=by
  obtain⟨h1,h2,U⟩:=Xm J (a+1);rcases Nat.lt_trichotomy (JK xs (a+1)) (i+1)with h|h|h;.have:=U i a ∎ e;∎
  .exact h
  . have V:i+1<xs.size:=by∎
    have D:=IL V;have:=h2 _ _ h D;have:=J i _ ∎ _ _ e D;∎
def AGY(D:J0 xs):JK xs 0=0:=by
  obtain⟨h1,h2,U⟩:=Xm D 0;rcases Nat.eq_zero_or_pos _ with h|h;.exact h
  . have J:0<xs.size:=by∎
    have:=h2 0 _ h (IL J);∎
def AGr(U:J0 xs)(hn:xs[JK xs j]?≠AA j):J0 (AFg xs (JK xs j) j):=by
  obtain⟨h1,h2,V⟩:=Xm U j;generalize JK xs j=p at*;have key:∀i,(AFg xs p j)[i]?=if i<p then xs[i]? else if i=p then AA j else xs[i-1]?:=λi=>by
    unfold AFg;rw[Array.getElem?_append];have C:((xs.extract 0 p).push j).size=p+1:=by simp;∎
    rw[C];by_cases a1:i<p
    . rw[AMu a1,AMu ∎,AI3,AMv (by simp;∎)];simp[AI2];∎
    . rw[AMv a1];by_cases a2:i=p;.rw[AMu a2,AMu ∎,AI3,AMu (by simp;∎)]
      . rw[AMv a2,AMv ∎];simp only[AI2];have:p+(i-(p+1))=i-1:=by∎
        rw[this];split;.rfl
        .rw[Od ∎]
  intro i k W a b J D;rw[key]at J D;have Y:∀i b,p<=i->xs[i]?=AA b->j<b:=λi b hi e=>by
    have F:=V i b hi e;rcases gM j b with h|h;.exact h
    . have B:b=j:=by∎
      subst B;rcases gM p i with A|A
      . have E:p<xs.size:=by
          rcases gM i xs.size with h|h;.∎
          .rw[Od h]at e;cases e
        have Z:=IL E;have:=U p i A _ _ Z e;have:=V p _ (Aw _) Z;∎
      . have:i=p:=by∎
        subst this;exact absurd e hn
  split at J
  . split at D;.exact U i k W a b J D
    . split at D;.cases D;exact h2 i a ∎ J
      .have:=h2 i a ∎ J;have:=V (k-1) b ∎ D;∎
  . split at J
    . cases J;split at D;.∎
      . split at D;.∎
        .exact Y (k-1) b ∎ D
    . split at D;.∎
      . split at D;.∎
        .exact U (i-1) (k-1) ∎ a b J D
def Xq{t:Jr}:∀(D:Nat)(p:AKt),(∀d,p.dummy=AA d->t.slot d=.dummy)->∀j J,AKu t (λ_=>h+1) h D p=AA (.empty j J)->t.slot j=.empty/\∀d,J=AA d->t.slot d=.dummy
  |0,p,W,j,J,e=>by cases e|D+1,p,W,j,J,e=>by
    unfold AKu at e;have U:∀q:AKt,(t.advance q).dummy=q.dummy:=λq=>by unfold SetTable.advance;split<;>rfl
    split at e;.next Y=>cases e;exact⟨Y,W⟩
    .next Y=>exact Xq _ _ (λd V=>by rw[U]at V;cases V;exact Y) j J e
    . split at e;.cases e
      .exact Xq _ _ (λd V=>by rw[U]at V;exact W d V) j J e
def AGq{t:Jr}(h:∀i,t.slot j≠.live i):t.place[JK t.place j]?≠AA j:=λe=>by refine h (JK t.place j) ?_;unfold SetTable.slot;simp only[e];simp
def K8(l:Bool)(t:Jr):Prop:=t.led=l/\(t.plain=AD->J0 t.place)
def AGi(l:Bool):K8 l (.fresh 0 0 l):=⟨rfl,λ_ i j h a b e=>by simp[SetTable.fresh]at e⟩
def TY{t:Jr}(h:t.led=l)(n:Nat):K8 l (t.standIn n):=⟨h,λe=>by simp[SetTable.standIn]at e⟩
def AGk(h:K8 l t):K8 l {t with plain:=AH}:=⟨h.1,λe=>by simp at e⟩
def AGj(g:K8 l t)(es:Array (Int×AJ))(h:Int)(x:AJ):K8 l (layNew t es h x).2.1:=by
  unfold layNew;split;.next V B D=>
    dsimp only;unfold SetTable.orStandIn;have U:=g.1;split
    . refine⟨U,λY=>?_⟩;refine AGr (g.2 Y) (AGq λi=>?_);unfold SetTable.freeSlot at D;split at D;.next j J e=> obtain⟨Z,A⟩:=Xq _ _ (λd W=>by simp[SetTable.probeStart]at W) j J e;cases D;cases J with |none=>rw[show(AB).getD j=j from rfl,Z];exactλe=>nomatch e|some d=>rw[show(AA d).getD j=d from rfl,A d rfl];exactλe=>nomatch e
      .cases D
    .exact TY U _
  .exact TY g.1 _
def AGl{t:Jr}(g:t.led=l)(es:Array (Int×AJ))(n:Nat):K8 l (Sz t es n).2.1:=by
  unfold Sz;split;.next t' U e=>
    dsimp only;split
    . unfold SetTable.relaid SetTable.laid at e;simp only[Option.bind_eq_bind,Am,Option.pure_def,AJo,Prod.mk.injEq]at e;obtain⟨C,_,Y,_⟩:=e;subst Y;refine⟨g,λ_=>?_⟩;have E:(((EO (SetTable.sizeAbove n-1+1)).filterMap λj=>(C.getD j AB).map (j,.)).map (·.1)).Pairwise (.<.):=by rw[HS];refine ALs _ ?_ List.pairwise_lt_range;intro a b D c Z d A;obtain⟨_,_,rfl⟩:=BK.mp Z;obtain⟨_,_,rfl⟩:=BK.mp A;exact D
      intro i j J a b V W;rw[XD]at V W;obtain⟨hi,rfl⟩:=EN.mp V;obtain⟨B,rfl⟩:=EN.mp W;exact Sb.mp E i j hi B J
    .exact TY g _
  .exact TY g _
instance AGe(k:AW):∀L:List AW,Decidable (k∈L)|[]=>.isFalse (by simp)|x::L=>if h:k=x then .isTrue (by simp[h])else match AGe k L with|.isTrue h2=>.isTrue (by simp[h2])|.isFalse h2=>.isFalse (by simp[h,h2])
def ID:AJ->Option AW|.int i _=>AA (.inl i)|.str x _=>AA (.inr x)|_=>AB
def jN(h:Ge k v=AD):ID v=AA k:=by rcases Ib h with⟨i,t,rfl,rfl⟩|⟨x,t,rfl,rfl⟩<;>rfl
def AGo(h:ID v=AA k):Ge k v=AD:=by
 cases v<;>first|cases h|skip
 .exact WY _ _
 .exact WZ _ _
def AGs{v:AJ}(h:Ge k v=AD):v.scannable=AD:=by rcases Ib h with⟨i,t,rfl,rfl⟩|⟨x,t,rfl,rfl⟩<;>rfl
def IC(w:Ba):Bool:=w.params.followText "set-order"
def FZ(prog:CB)(w:Ba)(h:Au)(a:AI)(L:List AW):Prop:=∃o es ep t,h.get? a=AA o/\o.ExactSet/\o.data=.set es ep t/\ElemsOf (Dg prog w) es.toList/\(es.toList.map λe=>ID e.2).Perm (L.map AA)/\es.size<F8/\t.fits es.size=AD/\K8 (!IC w) t
def FZ.wo{h h':Au}(x:FZ prog w h a L)(k:∀o,h.get? a=AA o->h'.get? a=AA o):FZ prog w h' a L:=let⟨o,es,ep,t,D,r⟩:=x;⟨o,es,ep,t,k o D,r⟩
def FZ.ix{s:AX}(x:FZ prog w s.heap a L):s.TypeIs (.ref a) "set":=let⟨o,_,_,_,J,D,_⟩:=x;⟨o,J,D.1⟩
def FZ.lt{h:Au}(x:FZ prog w h a L):a<h.objs.size:=let⟨_,_,_,_,D,_⟩:=x;Bt D
def j7{h:Au}{o:BF}(J:h.get? a=AA o)(D:o.data=.set es ep t):(h.update a (AFc es' t')).get? a=AA {o with data:=.set es' (ep+1) t'}:=by have:=Ss (AFc _ t') J (by rw[putSet_of es' t' D];rfl);rw[putSet_of _ t' D]at this;∎
def jK{prog:CB}{w:Ba}{A:Ci}{E:AJ->AX->Prop}{s:AX}{a:AI}{L:List AW}{g:Bool->Cr Unit}(d:∀(b:Bool)(W:AX)(Q:Unit->AX->Prop),Q () W->Al (Aj prog w) A (g b) Q E W){o:BF}{es:Array (Int×AJ)}{ep:Nat}{t:Jr}(T:s.heap.get? a=AA o)(F:o.ExactSet)(S:o.data=.set es ep t){D:Array (Int×AJ)}{t2:Jr}(U:ElemsOf (Dg prog w) D.toList)(K:(D.toList.map λe=>ID e.2).Perm (L.map AA))(Z:D.size<F8)(O:t2.fits D.size=AD)(H:K8 (!IC w) t2){J:Bool}{R:Option Bool->AX->Prop}(h:∀h',Kv a s.heap h'->FZ prog w h' a L->R (AA AD) {s with heap:=h'}):Al (Aj prog w) A (do storeSet a D t2 if(!J&&t2.tooFull)=AD then do g (Sz t2 D (Su D.size)).2.2;storeSet a (Sz t2 D (Su D.size)).1 (Sz t2 D (Su D.size)).2.1;BC (AA AD)else BC (AA AD)) R E s:=by
  refine Aa (ALm T S ?_ (Xa Z));have B:=j7 (es':=D) (t':=t2) T S;have V:=Mi s.heap a (AFc D t2);split
  . have M:=relayAll_perm t2 D (Su D.size);have G:=relayAll_fits t2 D (Su D.size);have I:=AGl H.1 D (Su D.size);generalize c:Sz t2 _ _=X at M G I⊢;obtain⟨Y,t3,N⟩:=X;have P:Y.size=D.size:=by rw[<-Q1,M.length_eq,Q1]
    have C:Y.size<F8:=by rw[P];exact Z
    refine Aa (d _ _ _ ?_);refine Aa (ALm B rfl ?_ (Xa C));exact Av (h _ (V.trans (Mi _ a _)) ⟨_,Y,_,t3,j7 B rfl,F,rfl,U.perm M,(M.map _).trans K,C,G,I⟩)
  .exact Av (h _ V ⟨_,D,_,t2,B,F,rfl,U,K,Z,O,H⟩)
def AGV{s:AX}{L:List AW}(Y:Ge k x=AD)(v:FZ prog w s.heap a L)(n:L.length+1<F8)(h:∀h',Kv a s.heap h'->FZ prog w h' a (if k∈L then L else L++[k])->Q (!Af (k∈L)) {s with heap:=h'}):Al (Aj prog w) A (setAddHashed a x ((Dg prog w).hash k)) Q E s:=by
  obtain⟨o,es,ep,t,g,N,c,C,P,q,i,f⟩:=v;have R:=AGs Y;have Z:=Y;have K:∀k,k∈L↔∃e∈es.toList,(Dg prog w).is k e.2=AD:=λk=>by have:=P.mem_iff (a:=AA k);simp only[B8,AJo,exists_eq_right]at this;rw[<-this];exact⟨λ⟨e,d,W⟩=>⟨e,d,AGo W⟩,λ⟨e,d,W⟩=>⟨e,d,jN W⟩⟩
  refine K6 (Aa (TJ g c i ?_));dsimp only;rw[byScan_of R q C];refine Aa ?_;refine Aa (H9 ?_);refine Aa (wpAny_setScan_of Z g c i C ?_);cases r:List.findIdx? _ _ with |some j=> obtain⟨y,m,_⟩:=List.findIdx?_eq_some_iff_getElem.mp r;have W:=(K k).mpr ⟨_,AJS y,m⟩;refine Av (Av ?_);have:=h _ (AMa a _) (by rw[AMu W];exact⟨o,es,ep,t,g,N,c,C,P,q,i,f⟩);rw[AMy W]at this;exact this|none=>
    have W:k∉L:=λW=>by obtain⟨e,d,z⟩:=(K k).mp W;have:=List.findIdx?_eq_none_iff.mp r e d;rw[z]at this;exact Hj this
    have l:∀(b:Bool){U:AX}{T:Unit->AX->Prop},T () U->Al (Aj prog w) A (match b with|AD=>rule "set.scan.the-table-gave-way"|AH=>BC ()) T E U:=λb U T M=>by cases b<;>first|exact Av M|exact H9 M
    have J:=layNew_perm t es ((Dg prog w).hash k) x;have D:=layNew_fits t es ((Dg prog w).hash k) x;have F:=AGj f es ((Dg prog w).hash k) x;generalize hL:layNew t es _ x=u at J D F⊢;obtain⟨X,t1,S,p⟩:=u;rw[vX]at J;have H:=(C.push Z R).perm J;have O:(X.toList.map λe=>ID e.2).Perm ((L++[k]).map AA):=by refine(J.map _).trans ?_;rw[Cc,Cc];refine P.append ?_;simp;rw[jN Y]
    have G:X.size<F8:=by have:=O.length_eq;simp at this;∎
    refine Aa (l _ ?_);have I:∀h',Kv a s.heap h'->FZ prog w h' a (L++[k])->Q AD {s with heap:=h'}:=by intro h' B V;have:=h h' B (by rw[AMv W];exact V);rw[AM0 W]at this;exact this
    split
    . refine Aa ?_;rw[hashByValue_scannable 8 R];refine Av ?_;refine jK ?_ g N c H O G ?_ ?_ ?_;.intro b U T M;cases b<;>first|exact Av M|exact H9 M
      . split;.exact D
        .exact SetTable.fits_plain_off D
      . split;.exact F
        .exact AGk F
      .intro h' B V;exact Av (I h' B V)
    . refine Aa (Av ?_);refine jK ?_ g N c H O G D F ?_;.intro b U T M;cases b<;>first|exact Av M|exact H9 M
      .intro h' B V;exact Av (I h' B V)
def DF:List AW->List AW->List AW|L,[]=>L|L,k::ks=>DF (if k∈L then L else L++[k]) ks
def jQ:∀(ks L:List AW),(DF L ks).length<=L.length+ks.length
 |[],L=>by simp[DF]|k::ks,L=>by
  have:=jQ ks (if k∈L then L else L++[k]);unfold DF;by_cases D:k∈L;.simp only[AMu D]at this⊢;simp;∎
  .simp only[AMv D,Bi,Fq,Lp]at this⊢;∎
def jP(k:AW):∀(ks L:List AW),DF L (ks++[k])=if k∈DF L ks then DF L ks else DF L ks++[k]|[],L=>rfl|x::ks,L=>by exact jP k ks _
def N9(k:AW):∀(ks L:List AW),k∈DF L ks↔k∈L\/k∈ks
  |[],L=>by simp[DF]|x::ks,L=>by
    unfold DF;rw[N9 k ks];split
    . simp;constructor;.rintro(h|h);exact .inl h;exact .inr (.inr h)
      .rintro(h|rfl|h);exact .inl h;exact .inl ∎;exact .inr h
    .simp only[Cb,Cd,Bw,Hx,AMz,or_assoc]
def Xp:∀(ks L:List AW),L.Nodup->(DF L ks).Nodup
 |[],L,h=>h|x::ks,L,h=>by
  refine Xp ks _ ?_;split;.exact h
  .next U=> rw[HA];refine⟨h,by simp,λa J b D e=>?_⟩;simp at D;subst D;subst e;exact U J
def j8{A:Ci}{St:Nat->AX->Prop}(W:WalksS prog w A.in1 I fp wr G n P St)(S:AI)(Z:S∉fp)(ks:List AW)(hn:ks.length=n)(M:∀(i:Nat)k v,ks[i]?=AA k->P i v->Ge k v=AD)(V:n+1<F8):∀(k i:Nat)(s:AX),n-i=k->i<=n->St i s->FZ prog w s.heap S (DF [] (ks.take i))->(∀s',Moved (S::wr) G s s'->FZ prog w s'.heap S (DF [] ks)->R (.ok (.ret .none)) s')->Jx (Aj prog w) A (.builtin "set.update.loop" ⟨[.ref S,.ref I],[]⟩) R s:=by have B:S∉wr:=λh=>Z (W.sub _ h);have D:∀b∈wr,b∈S::wr:=λb V=>DK _ V;intro k;induction k with
 |zero=>
  intro i s f hi U N hR;have X:i=n:=by∎
  subst X;refine Mm AJp ?_;refine Aa (W.done s _ _ U λs' F=>?_);rw[gL ∎]at N;exact Av (hR s' (F.mono D) (N.wo λo e=>F.heap S _ B e))|succ k g=>
  intro i s f hi U N hR;have E:i<n:=by∎
  refine Mm AJp ?_;refine Aa (W.item i s _ _ E U λv s' d L F=>?_);have C:ks[i]?=AA (ks[i]'∎):=EM ∎;have c:=M i _ v C d;have O:=N.wo λo e=>F.heap S _ B e;refine Aa (K6 ?_);unfold setAdd;refine K6 ?_;refine Aa ((Dg prog w).pyHash (show(Dg prog w).is _ v=AD from c) ?_);have J:(DF [] (ks.take i)).length+1<F8:=by have:=jQ (ks.take i) [];simp at this;∎
  refine AGV c O J λh' K Q=>?_;have T:FZ prog w h' S (DF [] (ks.take (i+1))):=by rw[AJe,C];rw[show(AA (ks[i]'∎)).toList=[ks[i]'∎]from rfl,jP];exact Q
  refine Av ⟨Xc ALw _,g (i+1) _ ∎ E (W.frame _ s' _ _ L (Pp _) λb V o e=>?_) T λa H Y=>?_⟩;.rw[K.2 b (λh:b=S=>Z (by rw[<-h];exact V))];exact e
  . refine hR a (Moved.trans W.gtrans ((F.mono D).then_heap (Pp _) λb o V e=>?_) H) Y;rw[K.2 b (λh:b=S=>V (by rw[h];exact B7))];exact e
abbrev FG(w:Ba):BF:={cls:=.type "set",dict:=AB,data:=.set #[] 0 (.fresh 0 0 (!IC w))}
def jX{s:AX}(a:AJ)(h:Q₁ (.ref s.heap.objs.size) {s with heap:=s.heap.push (FG w)}):Jx (Aj prog w) A (.call (.builtin "set.__new__") ⟨[.type "set",a],[]⟩) (wants Q₁ E) s:=by refine AFz ?_;refine Aa (wpAny_of_eq (F.newCall_set_1 a) (Av ⟨Xc F.plain_set_new _,Mm F.entry_set_new ?_⟩));unfold Builtin.«set.__new__»AL4;have D:=sub_set_self;obtain⟨J,g,d,tk,os⟩:=s;dsimp only;wp_walk;refine TB (Av ?_);dsimp only;simp only[newObj];refine Aa (wpAny_alloc (Av ?_));exact Av h
def jU{h:Au}(e:h.get? a=AA (FG w)):FZ prog w h a []:=⟨_,#[],0,_,e,⟨rfl,rfl,rfl⟩,rfl,λe D=>by simp at D,by simp,by decide,by rfl,AGi _⟩
def AGZ{A:Ci}{s:AX}{items:Array AJ}{ks:List AW}(hh:A.handled=AB)(hl:s.heap.IsList l items)(H:ks.length=items.size)(hi:∀(i:Nat)k v,ks[i]?=AA k->items[i]?=AA v->Ge k v=AD)(O:items.size+1<F8)(h:∀(h':Au)(tk:Nat),FZ prog w h' s.heap.objs.size (DF [] ks)->(∀b o,b<s.heap.objs.size->s.heap.get? b=AA o->h'.get? b=AA o)->Q (.ref s.heap.objs.size) {s with heap:=h',toks:=tk}):Al (Aj prog w) A (JL (.type "set") [.ref l]) Q E s:=by
  obtain⟨c,tl,t⟩:=HV.mro;have g:=HV.made;have y:=HV.sub;refine Xf (AFz ?_);show Al _ _ (callAny (.type "set") _) _ _ _;refine Av ⟨AKJ _ (by decide+kernel),Mm AKQ ?_⟩;rw[AJ8 (ALU "set" [.ref l] []) rfl];have h1:=HV.notType;have h2:=HV.canCreate;have hct:=AKZ (.ref l);repeat(any_goals(first|assumption|wp_step))
  refine L3 (jX (.ref l) (E:=E) (Q₁:=λM U=>M=.ref s.heap.objs.size/\U={s with heap:=s.heap.push (FG w)}) ⟨rfl,rfl⟩) λr U j=>?_;cases r with|error e=>exact j|ok fl=>cases fl with
    |ret M=>
      obtain⟨rfl,rfl⟩:=j;have q:(s.heap.push (FG w)).get? s.heap.objs.size=AA (FG w):=EB _ rfl;have hT:AKv {s with heap:=s.heap.push (FG w)} (.ref s.heap.objs.size) "set":=⟨_,q,rfl⟩;have hli:=HV.init.lookup;have hbi:=HV.init.bind (.ref s.heap.objs.size);repeat(any_goals(first|assumption|wp_step))
      refine L3 (ALG (R:=wants (λr V=>r=.none/\∃h' tk,V={s with heap:=h',toks:=tk}/\FZ prog w h' s.heap.objs.size (DF [] ks)/\(∀b o,b<s.heap.objs.size->s.heap.get? b=AA o->h'.get? b=AA o)) E) HV.init.plain AKO (ALF hT ?_)) λN V D=>?_
      . obtain⟨ol,K,B,z,C⟩:=hl;obtain⟨ocls,Z,m,J⟩:=ol;simp only at B C;subst B;subst C;have L:(s.heap.push (FG w)).get? l=AA {cls:=.type "list",dict:=Z,data:=.seq items z,slots:=J}:=Bn _ K;have x:=F.sub_list_set;have u:=F.sub_list_frozenset;have hne:(Ky "list"==Ky "dict")=AH:=by decide
        have F:(s.heap.push (FG w)).IsList l items:=⟨_,L,rfl,z,rfl⟩;unfold Builtin.«set.__init__»noKeywords AKA;generalize S:P5=PI;wp_walk;subst S;refine ALf F ?_;refine Aa (iY ?_);have G:l<s.heap.objs.size:=Bt K;have d:A.in1.in1.in1.handled=AB:=by simp[hh]
        have I:l≠(s.heap.push (FG w)).objs.size:=by rw[JJ];exact DL (Pq G)
        have T:s.heap.objs.size∉[(s.heap.push (FG w)).objs.size,l]:=by rw[JJ];simp only[Bw,Cd,Hx,AMz,not_or];exact⟨DL (Ny _),XJ G⟩
        refine j8 ((Walks.list d _ l I items).toS) s.heap.objs.size T ks H (λi k v e1 e2=>hi i k v e1 e2) O (items.size-0) 0 _ (by omega) (EA _) ⟨⟨_,EB _ rfl,rfl,rfl⟩,(F.push _)⟩ ?hS0 ?hR;case hS0=>exact jU (Bn _ q)
        case hR=>
          intro s' P Y;obtain⟨h',g',d',p,n⟩:=s';have eg:g'=s.gens:=P.gens;have ed:d'=s.drawn:=P.drawn;have eo:n=s.os:=P.os;subst eg;subst ed;subst eo;show Al _ _ _ _ _ _;refine Av ?_;show Al _ _ (ret XT) _ _ _;refine Av ⟨rfl,h',p,rfl,Y,λb o O e=>?_⟩;have X:b≠s.heap.objs.size:=DL O;have a:b≠(s.heap.push (FG w)).objs.size:=by rw[JJ];exact DL (Pq O)
          exact P.heap b o (by simp only[Bw,Cd,Hx,AMz,not_or];exact⟨X,a⟩) (Bn _ (Bn _ e))
      .cases N with|error e=>exact D|ok W=>cases W with
          |ret r=>
            obtain⟨rfl,h',tk,rfl,Y,f⟩:=D;repeat(any_goals(first|assumption|wp_step))
            exact h _ _ Y f|_=>exact D.elim
    |_=>exact j.elim
def Xn:∀(xs:List α)(i:Nat)(h:i<xs.length),(xs[i]::xs.eraseIdx i).Perm xs|x::xs,0,h=>.refl _|x::xs,i+1,h=>by exact(fW ..).trans ((Xn xs i _).cons x)
def AGc(hn:n≠0)(h:∀i d,i<n->Q i {s with drawn:=d}):Al M A (choose J n) Q E s:=λU p D=>by refine⟨hn,?_⟩;exact Av (h _ _ (AJh _ (AJk hn))) U p D
def jL:∀(n:Nat)(xs:List α)(s:AX)(Q:List α->AX->Prop),xs.length=n->(∀ys d,ys.Perm xs->Q ys {s with drawn:=d})->Al M A (drawOrder n xs) Q E s|0,xs,s,Q,D,h=>by exact Av (h [] _ (by rw[Jm.mp D]))|n+1,[],s,Q,D,h=>by simp at D|n+1,x::xs,s,Q,D,h=>by refine Aa (AGc (by simp) λi d hi=>?_);have e:=EM hi;rw[e];refine Aa (jL n _ _ _ (by rw[AJT,AMu hi];∎) λys J U=>Av ?_);exact h _ J ((U.cons _).trans (Xn _ _ hi))
def jT(D:Nat->Nat):∀(n k:Nat)(xs:List α)(out:Array α),xs.length=n->(AF7 D n k xs out).toList.Perm (out.toList++xs)|0,k,xs,out,J=>by unfold AF7;rw[Jm.mp J,Ek]|n+1,k,xs,out,J=>by unfold AF7;have hi:D k%xs.length<xs.length:=AJh _ ∎;rw[EM hi];refine(jT D n _ _ _ (by rw[AJT,AMu hi];∎)).trans ?_;rw[vX,Gg];exact AEl _ (Xn _ _ hi)
def TZ(D:Nat->Nat)(xs:Array α):(Sy D xs).toList.Perm xs.toList:=by unfold Sy;simpa using jT D _ 0 _ #[] (by simp)
def GP(h:Au)(it:AI)(first:AJ)(i:Nat)(S:AI)(n ep:Nat):Prop:=∃o,h.get? it=AA o/\o.cls=.type "set_iterator"/\o.data=.fields #[first,.int i 0,.ref S,.int n 0,.int ep 0]
def Ik(h:Au)(S:AI)(es:Array (Int×AJ))(ep:Nat)(t:Jr):Prop:=∃o,h.get? S=AA o/\o.ExactSet/\o.data=.set es ep t/\t.fits es.size=AD
def GP.ix{s:AX}(x:GP s.heap it first i S n ep):s.TypeIs (.ref it) "set_iterator":=let⟨o,e,c,_⟩:=x;⟨o,e,c⟩
def Ik.aw{h h':Au}(r:Ik h S es ep t)(k:∀o,h.get? S=AA o->h'.get? S=AA o):Ik h' S es ep t:=let⟨o,e,c⟩:=r;⟨o,k o e,c⟩
def GP.aw{h h':Au}(r:GP h it first i S n ep)(k:∀o,h.get? it=AA o->h'.get? it=AA o):GP h' it first i S n ep:=let⟨o,e,c⟩:=r;⟨o,k o e,c⟩
def GP.uh{h:Au}(x:GP h it first i S n ep)(v:AJ):GP (h.update it (g6 (·.setIfInBounds 0 v))) it v i S n ep:=by obtain⟨o,e,c,d⟩:=x;exact⟨_,Ss _ e (AKi (gZ d _)),(AKg ..).trans c,by rw[gZ d];simp⟩
def GP.vz{h:Au}(x:GP h it first i S n ep):GP (h.update it (g6 (·.setIfInBounds 1 (K0 ((i:Int)+1))))) it first (i+1) S n ep:=by obtain⟨o,e,c,d⟩:=x;exact⟨_,Ss _ e (AKi (gZ d _)),(AKg ..).trans c,by rw[gZ d];simp[K0]⟩
def AGp{s:AX}{es:Array (Int×AJ)}{ps:List Nat}{e:Int×AJ}(x:GP s.heap it (.ref T) i S es.size ep)(r:Ik s.heap S es ep t)(F:s.heap.IsTuple T (ps.map λ(p:Nat)=>K0 p).toArray)(H:ps[i]?=AA p)(G:es[p]?=AA e)(C:∀h',GP h' it (.ref T) (i+1) S es.size ep->Kv it s.heap h'->Q (AA e.2) {s with heap:=h'}):Al (Aj prog w) A (P6 (.ref it)) Q E s:=by
 have ty:=x.ix;obtain⟨o,Y,L,V⟩:=id x;obtain⟨O,J,I,D,W⟩:=r;refine Aa (Xe (TC ty JM (K5 JM ty TV ?_ (TU _))));refine Aa (Av (Aa (iW Y V ?_)));refine Aa (Xg J D W ?_);rw[AMv (by simp)];obtain⟨N,U,K,M,Z⟩:=F;refine Aa (ALi U Z ?_);have B:(ps.map λ(p:Nat)=>K0 p).toArray[(i:Int).toNat]?=AA (.int (p) 0):=by rw[ZQ,XD,Ca,H];rfl
 simp only[B];refine Aa ?_;refine Aa (TJ J D W ?_);dsimp only;rw[AMv (by simp)];simp only[ZQ,G];refine Av ?_;refine Aa (TH Y V (by simp) ?_);exact Av ⟨_,rfl,Av (C _ x.vz (Mi ..))⟩
def jZ{A:Ci}(U:A.handled=AB){D:AX}(J:∀h',(∀b o,D.heap.get? b=AA o->h'.get? b=AA o)->Q AB {D with heap:=h'}):Al (Aj prog w) A.in1 (newExc (.type "StopIteration") []>>=λe=>raiseNew (α:=Fin) e) (λfin s'=>∃v,fin=Fin.done (HW v)/\Al (Aj prog w) A (match(JB (AA v):Except AJ (Option AJ))with|JB (AA v)=>BC (AA v)|JB AB=>iV "iter:the-iterator's-class-has-lost-its-__next__-amid-the-walk"|KH e=>do let b<-isInstance e (Ky "StopIteration")if b=AD then BC AB else throw e) Q E s') (λe s'=>Al (Aj prog w) A (match(KH e:Except AJ (Option AJ))with|JB (AA v)=>BC (AA v)|JB AB=>iV "iter:the-iterator's-class-has-lost-its-__next__-amid-the-walk"|KH e=>do let b<-isInstance e (Ky "StopIteration")if b=AD then BC AB else throw e) Q E s') D:=by refine Aa ?_;refine Aa (Mn (Aa (wpAny_of_eq (by first|rfl|(rfl)) (Mn ?_ (by size_fits)))) (by size_fits));refine Aa (wpAny_handled ?_);rw[show A.in1.handled=AB from U];refine Aa (Av (wpAny_throw ?_));refine Aa (ALc ⟨_,EB _ rfl,rfl⟩ isSubtype_stop ?_);exact Av (J _ λb o e=>Bn _ (Bn _ e))
def AGf{A:Ci}{s:AX}{es:Array (Int×AJ)}(I:A.handled=AB){ps:List Nat}(x:GP s.heap it (.ref T) i S es.size ep)(r:Ik s.heap S es ep t)(F:s.heap.IsTuple T (ps.map λ(p:Nat)=>K0 p).toArray)(K:ps[i]?=AB)(C:∀h',AKa it s.heap h'->Q AB {s with heap:=h'}):Al (Aj prog w) A (P6 (.ref it)) Q E s:=by
 have ty:=x.ix;obtain⟨o,W,O,V⟩:=id x;obtain⟨a,J,M,D,H⟩:=r;refine Aa (Xe (TC ty JM (K5 JM ty TV ?_ (TU _))));refine Aa (Av (Aa (iW W V ?_)));refine Aa (Xg J D H ?_);rw[AMv (by simp)];obtain⟨X,U,N,P,Z⟩:=F;refine Aa (ALi U Z ?_);have B:(ps.map λ(p:Nat)=>K0 p).toArray[(i:Int).toNat]?=AB:=by rw[ZQ,XD,Ca,K];rfl
 simp only[B];refine Aa (TH W V (by simp) ?_);obtain⟨R,h1,L,Y⟩:=x.uh _;refine Aa (TH h1 Y (by simp) ?_);refine jZ I λh' k=>C _ λb o G e=>k b o ?_;exact((Mi ..).trans (Mi ..)).extBut b o G e
def jO{ep i:Nat}{D j:Nat}(x:GP s.heap it (.int D 0) i S es.size ep)(r:Ik s.heap S es ep t)(hn:∀V:Option (AJ×Nat)->AX->Prop,V (AA (v,j)) s->∀E,Al (Aj prog w) A.in1 (S0 S D i ep) V E s)(B:∀h',GP h' it (.int j 0) (i+1) S es.size ep->Kv it s.heap h'->Q (AA v) {s with heap:=h'}):Al (Aj prog w) A (P6 (.ref it)) Q E s:=by have ty:=x.ix;obtain⟨o,Y,H,W⟩:=id x;obtain⟨K,U,G,J,C⟩:=r;refine Aa (Xe (TC ty JM (K5 JM ty TV ?_ (TU _))));refine Aa (Av (Aa (iW Y W ?_)));refine Aa (Xg U J C ?_);rw[AMv (by simp)];show Al _ _ (S0 S _ _ _>>=_) _ _ s;refine Aa (hn _ ?_ _);refine Aa (TH Y W (by simp) ?_);obtain⟨I,h1,F,Z⟩:=x.uh _;refine Aa (TH h1 Z (by simp) ?_);exact Av ⟨_,rfl,Av (B _ (x.uh _).vz ((Mi ..).trans (Mi ..)))⟩
def jM{ep i:Nat}(F:A.handled=AB){D:Nat}(x:GP s.heap it (.int D 0) i S es.size ep)(r:Ik s.heap S es ep t)(hn:∀V:Option (AJ×Nat)->AX->Prop,V AB s->∀E,Al (Aj prog w) A.in1 (S0 S D i ep) V E s)(Z:∀h',AKa it s.heap h'->Q AB {s with heap:=h'}):Al (Aj prog w) A (P6 (.ref it)) Q E s:=by have ty:=x.ix;obtain⟨o,Y,H,W⟩:=id x;obtain⟨I,U,G,J,C⟩:=r;refine Aa (Xe (TC ty JM (K5 JM ty TV ?_ (TU _))));refine Aa (Av (Aa (iW Y W ?_)));refine Aa (Xg U J C ?_);rw[AMv (by simp)];show Al _ _ (S0 S _ _ _>>=_) _ _ s;refine Aa (hn _ ?_ _);refine Aa (TH Y W (by simp) ?_);refine jZ F λh' k=>Z _ λb o B e=>k b o ?_;exact(Mi ..).extBut b o B e
def jW{w:Ba}{s:AX}(W:IC w=AD)(r:Ik s.heap S es ep t)(D:Nat)(V:Option (AJ×Nat)->AX->Prop)(h:V (((Sy (w.params.setOrder S ep) es)[i]?).map λe=>(e.2,D)) s):Al (Aj prog w) A (S0 S D i ep) V E s:=by obtain⟨B,U,Z,J,Y⟩:=r;refine Aa (TJ U J Y ?_);refine Aa ?_;refine Aa (TB (Av ?_));show Al _ _ (if IC w=AD then _ else _) _ _ s;rw[AMu W,AMv (by simp)];refine Aa ?_;refine Aa (TJ U J Y ?_);refine Aa ?_;refine Aa (TB (Av ?_));show Al _ _ (if IC w=AD then _ else _) _ _ s;rw[AMu W];exact Aa (TB (Av (Av h)))
def jV{s:AX}{es:Array (Int×AJ)}{t:Jr}(B:IC w=AH)(r:Ik s.heap S es ep t)(F:t.led=AD)(C:(!t.plain&&Af (es.size>1))=AH)(K:J0 t.place)(D:Nat)(H:JK t.place D=i)(J:Option (AJ×Nat)->AX->Prop)(h1:∀e j,es[i]?=AA e->t.place[i]?=AA j->J (AA (e.2,j+1)) s)(h2:es.size<=i->J AB s):Al (Aj prog w) A (S0 S D i ep) J E s:=by
 obtain⟨L,W,I,U,V⟩:=r;have G:=by simp only[AFf,Q2,AM4]at V;exact V.1
 refine Aa (TJ W U V ?_);dsimp only;refine Aa ?_;refine Aa (TB (Av ?_));show Al _ _ (if IC w=AD then _ else if(!t.plain&&Af _)=AD then _ else _) _ _ s;rw[AMv (by rw[B];exact D5),AMv (by rw[C];exact D5)];refine Aa (m:=if(!t.led&&!es.isEmpty)=AD then _ else _) ?_;rw[AMv (by rw[F];simp)];refine Av ?_;rw[H];rcases gM i es.size with h|h
 . have Y:=IL h;have Z:t.place[i]?=AA _:=IL ∎;rw[Y,Z];exact Av (h1 _ _ Y Z)
 . rw[Od h];exact Av (h2 h)
def AGW(a:AJ):iJ "set_iterator.__iter__" ⟨[a],[]⟩:=by unfold iJ;rw[ALR (n:=['_','_','r','e','t','i','_','_']) (by kernel_rfl) jR];kernel_rfl
def AGg:AF1 table "set_iterator.__iter__"=AA Builtin.«dict_keyiterator.__iter__»:=ALI (id':="dict_keyiterator.__iter__") (by kernel_rfl) rfl (by decide+kernel) (by kernel_rfl)
def Xo{s:AX}(x:GP s.heap it first i S n ep)(h:Q (.ref it) s):Al (Aj prog w) A (P5 (.ref it)) Q E s:=by refine ALg x.ix jY (K5 jY x.ix AGg ?_ (AGW _));exact Av ⟨_,rfl,_,_,x.ix,JM.lookup,h⟩
def AGt{A:Ci}{es:Array (Int×AJ)}(Z:A.handled=AB)(I T:AI)(h1:S≠I)(h2:T≠I)(ps:List Nat)(vs:List AJ)(F:ps.length=es.size)(B:∀(i p:Nat),ps[i]?=AA p->∃e,es[p]?=AA e/\vs[i]?=AA e.2):Walks prog w A I [I,S,T] [I] es.size (λi v=>vs[i]?=AA v) (λi h=>GP h I (.ref T) i S es.size ep/\Ik h S es ep t/\h.IsTuple T (ps.map λ(p:Nat)=>K0 p).toArray)where
 sub:=λb D=>by simp at D;simp[D]
 frame:=λi h h' st k=>⟨st.1.aw (k I (by simp)),st.2.1.aw (k S (by simp)),let⟨o,e,c⟩:=st.2.2;⟨o,k T (by simp) o e,c⟩⟩
 item:=λi s Q E hi st J=>by have Y:ps[i]?=AA _:=EM ∎;obtain⟨e,U,V⟩:=B i _ Y;refine AGp st.1 st.2.1 st.2.2 Y U λh' C W=>J _ h' _ V ⟨C,st.2.1.aw λo e=>W.extBut S o h1 e,let⟨o,e,c⟩:=st.2.2;⟨o,W.extBut T o h2 e,c⟩⟩ λb o D e=>W.extBut b o (λh=>D (by simp[h])) e
 done:=λs Q E st J=>AGf Z st.1 st.2.1 st.2.2 (AEs ∎) λh' U=>J h' _ λb o D e=>U b o (λh=>D (by simp[h])) e
 self:=λi s Q E st J=>Xo st.1 J
def AGv{w:Ba}{A:Ci}{es:Array (Int×AJ)}(Z:A.handled=AB)(D:IC w=AD)(I:AI)(h1:S≠I):Walks prog w A I [I,S] [I] es.size (λi v=>((Sy (w.params.setOrder S ep) es).toList.map (·.2))[i]?=AA v) (λi h=>GP h I (.int (0:Nat) 0) i S es.size ep/\Ik h S es ep t)where
 sub:=λb D=>by simp at D;simp[D]
 frame:=λi h h' st k=>⟨st.1.aw (k I (by simp)),st.2.aw (k S (by simp))⟩
 item:=λi s Q E hi st J=>by
  have V:=by have:=(TZ (w.params.setOrder S ep) es).length_eq;simpa using this
  have e:(Sy (w.params.setOrder S ep) es)[i]?=AA _:=IL ∎;refine jO st.1 st.2 (λU q E=>jW D st.2 0 U (by rw[e];exact q)) λh' B W=>J _ h' _ (by rw[Ca,Oe,e];rfl) ⟨B,st.2.aw λo e=>W.extBut S o h1 e⟩ λb o D e=>W.extBut b o (λh=>D (by simp[h])) e
 done:=λs Q E st J=>by
  have V:=by have:=(TZ (w.params.setOrder S ep) es).length_eq;simpa using this
  exact jM Z st.1 st.2 (λU q E=>jW D st.2 0 U (by rw[Od ∎];exact q)) λh' Y=>J h' _ λb o D e=>Y b o (λh=>D (by simp[h])) e
 self:=λi s Q E st J=>Xo st.1 J
def AGu{A:Ci}{es:Array (Int×AJ)}{t:Jr}(M:A.handled=AB)(D:IC w=AH)(H:t.led=AD)(F:(!t.plain&&Af (es.size>1))=AH)(Z:J0 t.place)(I:AI)(h1:S≠I):Walks prog w A I [I,S] [I] es.size (λi v=>(es.toList.map (·.2))[i]?=AA v) (λi h=>(∃J:Nat,JK t.place J=i/\GP h I (.int J 0) i S es.size ep)/\Ik h S es ep t)where
 sub:=λb D=>by simp at D;simp[D]
 frame:=λi h h' st k=>⟨let⟨sl,e,x⟩:=st.1;⟨sl,e,x.aw (k I (by simp))⟩,st.2.aw (k S (by simp))⟩
 item:=λi s Q E hi st V=>by
  obtain⟨⟨sl,B,x⟩,r⟩:=st;have N:t.place.size=es.size:=by obtain⟨_,_,_,_,G⟩:=r;simp only[AFf,Q2,AM4]at G;exact G.1
  have C:t.place[i]?=AA _:=IL ∎;refine jO (v:=(es[i]).2) x r (λW q E=>jV D r H F Z sl B W (λe j U Y=>?_) λh=>absurd hi ∎) λh' O K=>V _ h' _ ?_ ⟨⟨_,AGX Z C,O⟩,r.aw λo e=>K.extBut S o h1 e⟩ λb o D e=>K.extBut b o (λh=>D (by simp[h])) e;. rw[IL hi]at U;rw[C]at Y;cases U;cases Y;exact q
  .rw[Ca,Oe,IL hi];rfl
 done:=λs Q E st V=>by obtain⟨⟨sl,B,x⟩,r⟩:=st;refine jM M x r (λW q E=>jV D r H F Z sl B W (λe j U Y=>?_) λh=>q) λh' L=>V h' _ λb o D e=>L b o (λh=>D (by simp[h])) e;rw[Od (Aw _)]at U;cases U
 self:=λi s Q E st V=>let⟨⟨_,_,x⟩,_⟩:=st;Xo x V
def AGn{A:Ci}{s:AX}{L:List AW}(hh:A.handled=AB)(x:FZ prog w s.heap S L)(hQ:∀(h':Au)(d:Drawn)(I:AI)(fp:List AI)(St:Nat->Au->Prop)(vs:List AJ)(n:Nat),vs.length=n->(∀b o,s.heap.get? b=AA o->h'.get? b=AA o)->(∀b∈fp,b=S\/s.heap.objs.size<=b)->s.heap.objs.size<=I->Walks prog w A I fp [I] n (λi v=>vs[i]?=AA v) St->St 0 h'->(vs.map ID).Perm (L.map AA)->n<F8->Q (.ref I) {s with heap:=h',drawn:=d}):Al (Aj prog w) A (P5 (.ref S)) Q E s:=by
  have ty:=x.ix;have hlt:=x.lt;obtain⟨o,es,ep,t,ho,hex,hd,hel,hpm,hb,hf,hgd⟩:=x;have raw:Ik s.heap S es ep t:=⟨o,ho,hex,hd,hf⟩;refine ALg ty AKW (K5 AKW ty AGh ?_ (F.args_set_iter_1 _));refine Aa (Aa (Av (Av ?_)));dsimp only;refine Aa (Aa (Xg ho hd hf (Av ?_)));refine Aa (m:=setDrawn S) ?_;unfold setDrawn;refine Aa (TJ ho hd hf ?_);dsimp only;refine Aa (m:=setsByText) ?_;unfold setsByText;refine Aa (TB (Av ?_));refine Av ?_;show Al _ _ (if(!IC w&&(!t.plain&&Af (es.size>1)))=AD then _ else _) _ _ s;by_cases hdr:(!IC w&&(!t.plain&&Af (es.size>1)))=AD
  . rw[AMu hdr];refine Aa (jL es.size (EO es.size) s _ (by simp) λys d hp=>Aa ?_);refine ALd ?_ (by have:=hp.length_eq;simp at this⊢;rw[this];exact Xa hb);have hly:ys.length=es.size:=by have:=hp.length_eq;simpa using this
    refine Aa (ALk (Bn _ ho) hd hf ?_);simp only[newFields];refine Aa (Mn (Av ⟨_,rfl,"set_iterator",_,⟨_,EB _ rfl,rfl⟩,JM.lookup,?_⟩));have key:∀p∈ys,∃e,es[p]?=AA e:=λp hp2=>by have:=hp.mem_iff.mp hp2;rw[gF]at this;exact⟨_,IL this⟩
    refine hQ _ d _ [_,S,s.heap.objs.size] _ (ys.map λp=>((es[p]?).map (·.2)).getD .none) es.size (by simpa using hly) (λb o e=>Bn _ (Bn _ e)) ?_ ?_ (AGt (t:=t) (ep:=ep) hh _ _ ?_ ?_ ys _ hly λi p e=>?_) ⟨⟨_,EB _ rfl,rfl,?_⟩,raw.aw λo e=>Bn _ (Bn _ e),⟨_,Bn _ (EB _ rfl),rfl,_,rfl⟩⟩ ?_ hb
    . intro b hb2;simp only[Bw,Hx,AMz]at hb2;rcases hb2 with rfl|rfl|rfl;.right;rw[JJ];omega
      .exact .inl rfl
      .right;exact Aw _
    .rw[JJ];omega
    .rw[JJ];exact DL (Pq hlt)
    .rw[JJ];exact DL (Ny _)
    . obtain⟨e2,he2⟩:=key p (Jn e);rw[Ca,e];simp[he2]
    .simp[K0]
    . refine fX ?_ hpm;refine((hp.map _).map ID).trans ?_;have:(EO es.size).map (λp=>((es[p]?).map (·.2)).getD .none)=es.toList.map (·.2):=by refine List.ext_getElem (by simp) λi h1 h2=>?_;simp at h1 h2;simp[h1]
      rw[this,Bj];exact .refl _
  . rw[AMv hdr];refine Aa (Av ?_);refine Aa (ALk ho hd hf ?_);refine Aa (Mn (Av ⟨_,rfl,"set_iterator",_,⟨_,EB _ rfl,rfl⟩,JM.lookup,?_⟩));have fpo:∀b∈[s.heap.objs.size,S],b=S\/s.heap.objs.size<=b:=λb hb2=>by
      simp at hb2;rcases hb2 with rfl|rfl;.right;exact Aw _
      .exact .inl rfl
    cases hbt:IC w with
    |true=>
      refine hQ _ s.drawn _ [_,S] _ ((Sy (w.params.setOrder S ep) es).toList.map (·.2)) es.size ?_ (λb o e=>Bn _ e) fpo (Aw _) (AGv (t:=t) (ep:=ep) hh hbt _ (DL hlt)) ⟨⟨_,EB _ rfl,rfl,?_⟩,raw.aw λo e=>Bn _ e⟩ ?_ hb;.have:=(TZ (w.params.setOrder S ep) es).length_eq;simpa using this
      . refine fX ?_ hpm;rw[Bj];exact(TZ _ es).map _
      .simp[K0]|false=>
      have hd2:(!t.plain&&Af (es.size>1))=AH:=by rw[hbt]at hdr;simpa using hdr
      have hps:=by simp only[AFf,Q2,AM4]at hf;exact hf.1
      have hr:J0 t.place:=by cases hpl:t.plain with |true=>exact hgd.2 hpl|false=> rw[hpl]at hd2;simp at hd2;intro i j hij a b ea eb;rw[Od (by omega)]at eb;cases eb
      refine hQ _ s.drawn _ [_,S] _ (es.toList.map (·.2)) es.size (by simp) (λb o e=>Bn _ e) fpo (Aw _) (AGu (t:=t) (ep:=ep) hh hbt (by rw[hgd.1,hbt];rfl) hd2 hr _ (DL hlt)) ⟨⟨0,AGY hr,_,EB _ rfl,rfl,?_⟩,raw.aw λo e=>Bn _ e⟩ ?_ hb
      . rw[Bj];exact hpm
      .simp[K0]
def AGm{s:AX}(D:s.TypeIs (.ref S) "set")(h:Q AH s):Al (Aj prog w) A (AL5 (.ref S)) Q E s:=by refine Aa (ALl D F.slot_set_len.lookup ?_);generalize J:("set.__len__")=U;subst J;refine Aa (ALc (b:=AD) D (by kernel_rfl) ?_);refine Aa (Xh D ?_);exact Av h
def AGd{A:Ci}{s:AX}{L:List AW}(r:A.handled=AB)(x:FZ prog w s.heap S L)(q:∀h' tk d(vs:List AJ),(∀b o,s.heap.get? b=AA o->h'.get? b=AA o)->s.heap.objs.size<h'.objs.size->(vs.map ID).Perm (L.map AA)->vs.length<F8->Q vs {s with heap:=h',toks:=tk,drawn:=d}):Al (Aj prog w) A (collect (.ref S)) Q E s:=by
 unfold collect;refine Aa (iY (Mm AKN ?_));rw[AJ9 F.plain_proto_collect _];refine Aa (Mn ?_);refine Av ⟨Xc AFW _,Mm AKM ?_⟩;rw[AJ9 AFW _];have C:(s.heap.push {cls:=.type "list",data:=.seq ([]:List AJ).toArray}).get? s.heap.objs.size=AA {cls:=.type "list",data:=.seq ([]:List AJ).toArray}:=EB _ rfl;have l:∀b o,s.heap.get? b=AA o->(s.heap.push {cls:=.type "list",data:=.seq ([]:List AJ).toArray}).get? b=AA o:=λb o e=>Bn _ e;have O:s.heap.objs.size≠S:=XJ x.lt;have j:=x.wo λo e=>l S o e;show Al _ A.in1 (AKB (.ref s.heap.objs.size) (.ref S) (.ref s.heap.objs.size)) _ _ _;unfold AKB;refine Aa (Xh (T:="set") j.ix ?_);have h1:AKC (.ref s.heap.objs.size) (.ref S)=AH:=by simp[AKC,O]
 simp only[h1,show(Ky "set"==Ky "list")=AH from by decide,show(Ky "set"==Ky "tuple")=AH from by decide,Bool.or_false,Q3,AM5];refine Aa (AGn (A:=A.in1) r j λh' d I fp St vs n P k1 f k W st u K=>?_);have U:=k1 _ _ C;have c:s.heap.objs.size<I:=by have h2:(s.heap.push {cls:=.type "list",data:=.seq ([]:List AJ).toArray}).objs.size=s.heap.objs.size+1:=JJ ..;rw[h2]at k;exact k
 have M:s.heap.objs.size∉fp:=λX=>by
  rcases f _ X with e|e;.exact O e
  . have h2:(s.heap.push {cls:=.type "list",data:=.seq ([]:List AJ).toArray}).objs.size=s.heap.objs.size+1:=JJ ..;rw[h2]at e;exact absurd e (Nat.not_le_of_lt (Ny _))
 refine Aa (K6 (AGm (s:={s with heap:=h',drawn:=d}) (j.wo λo e=>k1 S o e).ix ?_));have key:∀(h:Au)(J:Nat)(R:g9->AX->Prop),St 0 h->(∀b o,b≠s.heap.objs.size->h'.get? b=AA o->h.get? b=AA o)->h.get? s.heap.objs.size=AA {cls:=.type "list",data:=.seq #[] J}->(∀h2 tk Z,(∀b o,s.heap.get? b=AA o->h2.get? b=AA o)->h2.get? s.heap.objs.size=AA {cls:=.type "list",dict:=AB,data:=.seq vs.toArray Z,slots:=#[]}->R (.ok (.ret (.ref s.heap.objs.size))) {s with heap:=h2,toks:=tk,drawn:=d})->Jx (Aj prog w) A (.builtin "list.extend.loop" ⟨[.ref s.heap.objs.size,.ref I,.ref s.heap.objs.size],[]⟩) R {s with heap:=h,drawn:=d}:=by
  intro h J R g t G hR;refine codeAny_extend_loopS W.toS (Xa K) s.heap.objs.size M _ n 0 _ #[] J rfl (EA _) g G (ItemsOf.nil _) λs' D Z X a B=>?_;rw[Moved.eq_with X];have p:D=vs.toArray:=by refine Array.ext (by rw[B.1];simpa using P.symm) λi h1 h2=>?_;have this:vs[i]?=AA D[i]:=B.2 i D[i] (IL h1);simp at h2;rw[EM h2]at this;simpa using(Kq this).symm
  subst p;refine hR s'.heap s'.toks Z (λb o e=>X.heap b o (λY=>?_) (t b o (DL (Bt e)) (k1 b o (l b o e)))) a;rcases Bw.mp Y with m|Y;.exact absurd (Bt e) (by rw[m];exact HB _)
  .have:=Bt e;rw[Cd.mp Y]at this;exact absurd (AE4 this c) (HB _)
 have fin:∀h2 tk Z,(∀b o,s.heap.get? b=AA o->h2.get? b=AA o)->h2.get? s.heap.objs.size=AA {cls:=.type "list",dict:=AB,data:=.seq vs.toArray Z,slots:=#[]}->Al (Aj prog w) A (load s.heap.objs.size>>=λo=>match o.data with |.seq xs _=>BC xs.toList|_=>iV "internal:collect") Q E {s with heap:=h2,toks:=tk,drawn:=d}:=λh2 tk Z a1 a2=>by refine Aa (AGE a2 ?_);exact Av (q h2 tk d vs a1 (Bt a2) u (by rw[P];exact K))
 refine Aa (H9 ?_);refine Aa ?_;refine Aa (ALn U rfl ?_);have V:=Ss (L0 (·.push XT)) U rfl;refine ALn (hz:=by seq_fits) V rfl ?_;have H:=Ss (L0 (·.pop)) V rfl;refine Av ⟨Xc F.plain_extend_loop _,key _ _ _ ?_ (λb o K e=>?_) H λh2 tk Z a1 a2=>fin h2 tk Z a1 a2⟩;. refine W.frame 0 _ _ st λb K o e=>?_;have N:b≠s.heap.objs.size:=λh=>M (h▸K);exact(Sq _ _ (Ko N)).trans ((Sq _ _ (Ko N)).trans e)
 .exact(Sq _ _ (Ko K)).trans ((Sq _ _ (Ko K)).trans e)
def Ae.vh(I:Ae X pins σ H s)(d:Drawn):Ae X pins σ H {s with drawn:=d}:=by obtain⟨a1,a2,U,V,W,Y,Z,A,B,D,J⟩:=I;exact⟨a1,a2,U,V,W,Y,Z,A,B,D,J⟩
def ACE:∀{vs:List AJ}{L:List AW},(vs.map ID).Perm (L.map AA)->∃D:List AW,vs.map ID=D.map AA/\D.Perm L:=λ{vs L}h=>by
 refine⟨vs.map λv=>(ID v).getD (.inl 0),?_,?_⟩
 . rw[Bj];refine Ie λv J=>?_;have:=h.mem_iff.mp (gE J);obtain⟨k,_,e⟩:=B8.mp this;simp[<-e]
 . have:=h.map λo=>o.getD (.inl 0);simpa[AI8]using this
def Wt(h:ID v=AA k):BQ (BP k) v:=by
 cases v<;>first|cases h|skip
 .exact⟨_,rfl⟩
 .exact⟨_,rfl⟩
def PK(h:Au)(u:AJ)(ks:List AW)(J:List AI):Prop:=∃a o items m D,u=.ref a/\h.get? a=AA o/\o.cls=.type "tuple"/\o.data=.seq items m/\items.toList=D++J.map FD/\D.map Bf=ks/\∀v∈D,Ei v
def AA9(h:Au)(U:List AI)(tl:List AW)(J:List AI)(D:List AW):Prop:=(U=J/\tl=D)\/∃(p q:AI)(ns V:List Int),U=[p]/\J=[q]/\tl=ns.map Bk/\D=V.map Bk/\HQ h (.ref p) tl/\HQ h (.ref q) D
abbrev HN:=List AW×List AI×List AW
def HR(d:HN):List AW:=d.1++d.2.2
structure WE(h:Au)(vs:List AJ)(ds:List HN)(sh:List Bool):Prop where
 ba:vs.length=ds.length
 hn:sh≠[]om:∀(i:Nat)u d,vs[i]?=AA u->ds[i]?=AA d->PK h u d.1 d.2.1/\d.1.map CZ=sh
 uy:∀(i j:Nat)d e,ds[i]?=AA d->ds[j]?=AA e->d.1=e.1->AA9 h d.2.1 d.2.2 e.2.1 e.2.2
def cG:∀{V J:List AJ}{U D:List AI},(∀v∈V,Ei v)->(∀v∈J,Ei v)->V++U.map FD=J++D.map FD->V=J/\U=D
 |[],[],U,D,_,_,e=>⟨rfl,by exact(List.map_inj_right ∎).mp e⟩|[],v::J,U,D,_,h,e=>by cases U with |nil=>cases e|cons r U=> injection e with W _;have:=h v B7;rw[<-W]at this;exact this.elim
 |v::V,[],U,D,h,_,e=>by cases D with|nil=>cases e|cons r D=> injection e with W _;have:=h v B7;rw[W]at this;exact this.elim
 |v::V,v'::J,U,D,h,h',e=>by injection e with W Y;obtain⟨a,b⟩:=cG ∎ ∎ Y;∎
def PK.om(t:PK h u ks Y)(t':PK h u D J):ks=D/\Y=J:=by obtain⟨a,o,items,m,G,rfl,e,_,d,l,k,f⟩:=t;obtain⟨C,o',U,F,B,q,W,_,V,A,E,Z⟩:=t';injection q with q;subst q;rw[e]at W;cases W;rw[d]at V;cases V;obtain⟨x,y⟩:=cG f Z (l.symm.trans A);∎
def HQ.om(t:HQ h u ks)(t':HQ h u D):ks=D:=t.kf.symm.trans t'.kf
noncomputable def PU(vs:List AJ)(kss:List (List AW))(u:AJ):List AW:=by classical exact if D:∃ks,(u,ks)∈vs.zip kss then D.choose else[]
def WE.kf{ds:List HN}(x:WE h vs ds C):∀(i:Nat)u d,vs[i]?=AA u->ds[i]?=AA d->PU vs (ds.map HR) u=HR d:=by
 intro i u d Z U;have J:∃ks,(u,ks)∈vs.zip (ds.map HR):=⟨HR d,AEv.mpr ⟨i,∎⟩⟩;unfold PU;rw[dif_pos J];obtain⟨j,B⟩:=AEv.mp J.choose_spec;obtain⟨A,V⟩:=SX.mp B;rw[Ca]at V;obtain⟨D,W,Y⟩:=BK.mp V;have Y:HR D=J.choose:=Y;obtain⟨a,b⟩:=(x.om i u d Z U).1.om (x.om j u D A W).1;have tl:d.2.2=D.2.2:=by
  rcases x.uy i j d D U W a with⟨_,q⟩|⟨p,q,_,_,r1,r2,_,_,t1,t2⟩;.exact q
  . rw[b,r2]at r1;injection r1 with r1;subst r1;exact t1.om t2
 ∎
def dB:∀(xs ys:List AJ)(zs D:List AJ)(i:Nat),(∀v∈xs,Ei v)->(∀v∈ys,Ei v)->xs.map (λv=>CZ (Bf v))=ys.map (λv=>CZ (Bf v))->(xs.map Bf=ys.map Bf->∀j,i+xs.length<=j->iC prog w A b fin Q (zs.zip D) j s)->(xs.map Bf≠ys.map Bf->Q (Bv (xs.map Bf) (ys.map Bf)) s)->iC prog w A b fin Q ((xs++zs).zip (ys++D)) i s
 |[],[],zs,D,i,_,_,_,h,_=>∎|[],_::_,_,_,_,_,_,e,_,_=>by cases e|_::_,[],_,_,_,_,_,e,_,_=>by cases e|x::xs,y::ys,zs,D,i,Y,Z,e,h,h'=>by
  obtain⟨J,W⟩:=W9 e;have U:=Y x B7;have V:=Z y B7;refine iF (WQ U V J (AFm (λq=>?_) λq=>?_))
  . have q:=AM1 q;refine AFp (dB xs ys zs _ _ ∎ ∎ W ∎ λz=>?_);have:=h' ∎;rw[Dw,Dw,Bv]at this;∎
  . have q:=AM3 q;have:=h' ∎;rw[Dw,Dw,Bv,AMv q]at this;exact AFn (dF _ U V J this)
def dC:∀(D:List AI)(i:Nat),Q AH s->iC prog w A b AH Q ((D.map FD).zip (D.map FD)) i s|[],_,h=>ALB h|r::D,i,h=>iF (AKo _ _ w _ _ (AFp (dC D _ h)))
def c9:∀{ks ls xs ys:List AW},ks.length=ls.length->Bv (ks++xs) (ls++ys)=if ks=ls then Bv xs ys else Bv ks ls|[],[],_,_,_=>by∎|[],_::_,_,_,e=>by cases e|_::_,[],_,_,e=>by cases e|k::ks,l::ls,xs,ys,e=>by have D:=c9 (ks:=ks) (ls:=ls) (xs:=xs) (ys:=ys) ∎;show(if k=l then Bv (ks++xs) (ls++ys)else D8 k l)=if k::ks=l::ls then Bv xs ys else(if k=l then Bv ks ls else D8 k l);∎
def Ws:∀{D:List AJ},(∀v∈D,Ei v)->∃J,ReadsAll h D ((D.map Bf).map cU) J
 |[],_=>⟨_,.nil⟩|v::D,f=>by
  obtain⟨J,r⟩:=Ws (h:=h) (λw hw=>f w (DK _ hw));have U:=f v B7;cases v<;>first|exact U.elim|skip
  .exact⟨_,.cons (.int _ _) r⟩
  .exact⟨_,.cons (.str _ _) r⟩
def WT:∀ns:List Int,(ns.map (Bk:Int->AW)).map cU=ns.map Jq|[]=>rfl|n::ns=>by rw[Dw,Dw,Dw,WT ns];rfl
def ABe{A:Ci}{s:AX}{ns J:List Int}(t1:HQ s.heap (.ref p) (ns.map Bk))(t2:HQ s.heap (.ref q) (J.map Bk))(H:A.units+64<Gk):hZ A s (.ref p) (.ref q) (Af (ns=J)):=by
 obtain⟨a,o,items,m,e0,e,c,d,k,f⟩:=t1;obtain⟨F,o',U,I,D,B,Y,Z,E,C⟩:=t2;injection e0 with e0;injection D with D;subst e0 D;obtain⟨W,r⟩:=Ws (h:=s.heap) f;obtain⟨V,r'⟩:=Ws (h:=s.heap) C;rw[k,WT]at r;rw[E,WT]at r';have:=AKr (.tuple (ns.map Jq)) (.tuple (J.map Jq)) A s (.ref p) (.ref q) W V (.tuple e c d r) (.tuple B Y Z r') (by simp[AFd,(R9 ns).1]) (by simp[AFd,(R9 J).1]) (by
  have h1:(AKm (ns.map Jq)).depth<=1:=by simp[AKk,(R9 ns).2]
  ∎);have G:Ii (.tuple (ns.map Jq)) (.tuple (J.map Jq))=Af (ns=J):=by simp only[Ii];exact cF ns J
 ∎
def ACP{A:Ci}{s:AX}{ns V:List Int}(t1:HQ s.heap (.ref p) (ns.map Bk))(t2:HQ s.heap (.ref q) (V.map Bk))(R:A.units+64<Gk)(h:Q (Bv (ns.map Bk) (V.map Bk)) s):Al (Aj prog w) A (oneLt' AH (.ref p) (.ref q)) Q E s:=by
 obtain⟨a,o,items,m,e0,e,c,d,k,f⟩:=t1;obtain⟨N,o',D,M,J,H,B,F,K,I⟩:=t2;injection e0 with e0;injection J with J;subst e0 J;obtain⟨cls,dd,G,sl⟩:=o;obtain⟨C,Y,W,Z⟩:=o';simp only at c d B F;subst c d B F;have U:∀(l:List Int)(i:Nat)(z:AW),(l.map (Bk:Int->AW))[i]?=AA z->CZ z=AD:=λl i z hz=>by rw[Ca]at hz;obtain⟨n,_,rfl⟩:=BK.mp hz;rfl
 have L:Ru items.toList D.toList items.size D.size (Bv (ns.map Bk) (V.map Bk)):=by refine⟨⟨items.toList,[],by simp,.inl rfl,f,I,λi x y O P=>?_,by rw[k,K]⟩,∎⟩;rw[U ns i (Bf x) ∎,U V i (Bf y) ∎]
 refine AFo _ _ ?_;exact ALP (op:=.Lt) ⟨_,e,rfl⟩ ⟨_,H,rfl⟩ AKY AKP (by rfl) (fR p q _ _ m M dd Y sl Z _ L) ⟨e,H,⟨∎,h⟩⟩ ∎
def WE.wq{A:Ci}{s:AX}{h:Au}{vs:List AJ}{ds:List HN}(x:WE h vs ds P)(Y:A.units+64<Gk)(h2:2<=vs.length)(n:∀a o items m,h.get? a=AA o->o.cls=.type "tuple"->o.data=.seq items m->s.heap.get? a=AA o):∃κ,(∀(Q:Sm->AX->Prop)(E:AJ->AX->Prop),Q κ s->Al (Aj prog w) A (AFH vs.toArray) Q E s)/\GN prog w A s κ Kh (PU vs (ds.map HR)) (Ih vs):=by
  have mp:∀p∈(Ih vs).toList,p.1∈vs:=λp H=>by rw[gT]at H;exact(gS H).2
  have N:∀{u ks rs},PK h u ks rs->PK s.heap u ks rs:=λ⟨a,o,items,m,J,e0,e,c,d,r⟩=>⟨a,o,items,m,J,e0,n a o items m e c d,c,d,r⟩;have I:∀{u ks},HQ h u ks->HQ s.heap u ks:=λ⟨a,o,items,m,e0,e,c,d,r⟩=>⟨a,o,items,m,e0,n a o items m e c d,c,d,r⟩;have V:∀u∈vs,∃(i:Nat)(d:HN),vs[i]?=AA u/\ds[i]?=AA d:=λu Y=>Lh x.ba Y;refine⟨tuples' AD,λQ E q=>?_,⟨λp H q hq Q E k=>?_⟩⟩
  . have key:∀(l:List AJ),(∀u∈l,u∈vs)->∃fs,AK1 s.heap l fs/\fs.length=l.length/\∀v∈fs,Ei v/\CZ (Bf v)=P.headD AD:=λl=>by induction l with |nil=>exactλ_=>⟨[],trivial,rfl,λv Z=>by cases Z⟩|cons u l ih=> intro Y;obtain⟨fs,k1,k2,k3⟩:=ih ∎;obtain⟨i,d,G,C⟩:=V u (Y u B7);obtain⟨t,z⟩:=x.om i u d G C;obtain⟨a,o,items,m,J,rfl,e,c,W,B,r,fl⟩:=N t;match J,B,r,fl with
        |[],_,r,_=>rw[<-r]at z;exact absurd z.symm x.hn|f::l1,B,r,fl=>
          have g0:items[0]?=AA f:=by rw[<-Oe,B];rfl
          refine⟨f::fs,AK2 e c W g0 k1,∎,λv Z=>?_⟩;∎
    obtain⟨fs,k1,k2,k3⟩:=key vs λ_ h=>h;cases g:P.headD AD with
    |true=> refine iG (T:=.type "int") k1 ∎ (λv Z=>?_) (by decide) q;obtain⟨fl,z⟩:=k3 v Z;rw[g]at z;cases v<;>first|exact fl.elim|exact Hj _|exact Hj (show AH=AD from z)|exact .now
    |false=>refine iG (T:=.type "str") k1 ∎ (λv Z=>?_) (by decide) q;obtain⟨fl,z⟩:=k3 v Z;rw[g]at z;cases v<;>first|exact fl.elim|exact Hj (show AD=AH from z)|exact Hj (show AH=AD from z)|exact .now
  . obtain⟨i,d,G,C⟩:=V _ (mp p H);obtain⟨j,W,X,L⟩:=V _ (mp q hq);have k:Q (Bv _ _) s:=k;rw[x.kf i _ d G C,x.kf j _ W X L]at k;obtain⟨t,z1⟩:=x.om i _ d G C;obtain⟨t',z2⟩:=x.om j _ W X L;obtain⟨a,o,items,m,J,u1,e,c,dd,B,r,fl⟩:=N t;obtain⟨a',o',D,m',U,u2,e',c',K,F,r',M⟩:=N t';have es:=by
      have h1:(J.map Bf).map CZ=(U.map Bf).map CZ:=by rw[r,r',z1,z2]
      rw[Bj,Bj]at h1;exact h1
    have b:=by have:=AMw Kk (z1.trans z2.symm);simpa using this
    unfold HR at k;rw[c9 b]at k;rw[u1,u2];refine ALA e dd e' K ?_;rw[B,F];have y:J.length=d.1.length:=by rw[<-r,A4]
    have O:U.length=W.1.length:=by rw[<-r',A4]
    have R:items.size=J.length+d.2.1.length:=by rw[<-Q1,B];simp
    have S:D.size=U.length+W.2.1.length:=by rw[<-Q1,F];simp
    have hpos:0<J.length:=by rw[y];refine AJk λz=>x.hn ?_;∎
    refine dB J U _ _ 0 fl M es (λq j hj=>?_) λq=>?_
    . rw[r,r']at q;rw[AMu q]at k;rcases x.uy i _ d W C L q with⟨q1,q2⟩|⟨p',q',ns,ms,r1,r2,r3,r4,t1,t2⟩
      . rw[AM0 (by rw[R,S,y,O,b,q1];∎),q1];rw[q2,PX]at k;exact dC _ _ k
      . rw[AM0 ∎,r1,r2];rw[r3]at t1;rw[r4]at t2;rw[r3,r4]at k;refine iF (ABe (I t1) (I t2) Y prog w _ _ (AFm (λz=>?_) λz=>?_))
        . have z:=AM1 z;rw[z,PX]at k;∎
        . refine AFn ?_;have j0:(j==0)=AH:=by simp;∎
          rw[j0,AI6];exact ACP (I t1) (I t2) Y k
    ∎
def WG(K:Ap)(H:AR)(xs:List AQ)(ds:List HN)(J:List Bool):Prop:=J≠[]/\Gj (λx(d:HN)=>(∃a,x=.ref a/\CH K H a (d.1.map BP++d.2.1.map AQ.ref))/\d.1.map CZ=J) xs ds/\∀(i j:Nat)d e,ds[i]?=AA d->ds[j]?=AA e->d.1=e.1->(d.2.1=e.2.1/\d.2.2=e.2.2)\/∃(p q:AI)(ns D:List Int),d.2.1=[p]/\e.2.1=[q]/\d.2.2=ns.map Bk/\e.2.2=D.map Bk/\CH K H p (ns.map AQ.int)/\CH K H q (D.map AQ.int)
def fE:∀{D:List AI}{J:List AJ},BR (D.map AQ.ref) J->J=D.map FD|[],_,h=>by cases h;rfl|r::D,_,h=>by cases h with|cons h1 h2=>cases h1;rw[fE h2];rfl
def fQ{X:BY}{s:AX}(I:Ae X pins σ H s){ns:List Int}(h:CH X.K H p (ns.map AQ.int)):HQ s.heap (.ref p) (ns.map Bk):=by
 have h':CH X.K H p ((ns.map (Bk)).map BP):=by rw[Bj];exact h
 obtain⟨D,Y,⟨o,W,J,n,U⟩,_⟩:=I.bj h';obtain⟨k1,k2⟩:=PR Y;exact⟨p,o,_,n,rfl,W,J,U,∎,∎⟩
def WG.xv{X:BY}{s:AX}(I:Ae X pins σ H s)(h:WG X.K H xs ds G)(r:BR xs D):WE s.heap D ds G:=by
  obtain⟨hn,p,W⟩:=h;have S:=r.aj;obtain⟨h1,h2⟩:=SF p;refine⟨∎,hn,λi u d U J=>?_,λi j d e U J q=>?_⟩
  . have hi:=(EN.mp J).1;have Y:xs[i]?=AA xs[i]:=EM _;obtain⟨⟨a,K,N⟩,z⟩:=h2 i _ _ Y J;obtain⟨T,Z,A⟩:=r.ju Y;rw[U]at Z;cases Z;rw[K]at A;obtain rfl:u=FD a:=A;obtain⟨C,P,⟨o,M,L,n,B⟩,_⟩:=I.bj N;obtain⟨Q,ws,rfl,R,v2⟩:=W8 P;obtain⟨k1,k2⟩:=PR R;rw[fE v2]at B;exact⟨⟨a,o,_,n,Q,rfl,M,L,B,by simp,k1,k2⟩,z⟩
  . rcases W i j d e U J q with h|⟨p,q,ns,O,r1,r2,E,F,t1,t2⟩;.exact .inl h
    .exact .inr ⟨p,q,ns,O,r1,r2,E,F,by rw[E];exact fQ I t1,by rw[F];exact fQ I t2⟩
def ACv{D:List AJ}{ys:List AQ}{kss:List (List AW)}(r:BR ys D)(A:D.length=kss.length)(E:∀(i:Nat)u ks,D[i]?=AA u->kss[i]?=AA ks->kf u=ks){out:Array A3}(p:out.Perm (Ih D))(u:DW (O:=Kh) kf out 0 (Ih D).size):∃qs:List (AQ×List AW),qs.Perm (ys.zip kss)/\BR (qs.map (·.1)) (out.map (·.2)).toList/\(qs.map (·.2)).Pairwise (λa b=>Bv b a=AH):=by
  have pl:out.toList.Perm (D.zip D):=by rw[<-gT];exact Ur.mp p
  have T:∀q∈out.toList,q.1=q.2/\q.1∈D:=λq F=>gS (pl.mem_iff.mp F);have e0:(out.map (·.2)).toList=out.toList.map (·.2):=AI4 ..;have H:=by have:=pl.map (·.2);rwa[SY (Aw _)]at this
  have Q:=r.aj;have G:Gj (λ(q:AQ×List AW)v=>BQ q.1 v/\kf v=q.2) (ys.zip kss) D:=by refine Lj ∎ λi a b W Y=>?_;obtain⟨C,L⟩:=SX.mp W;obtain⟨v,M,N⟩:=r.ju C;∎
  obtain⟨qs,I,K⟩:=Wf H G;obtain⟨S,P⟩:=SF K;refine⟨qs,I,?_,?_⟩
  . rw[e0];refine Lj ∎ λi a b W Y=>?_;∎
  . rw[Sb];intro i j hi Z J;rw[A4]at hi Z;have R:=p.size_eq.symm;have B:∀k(A:k<qs.length),(qs[k]).2=BG (O:=Kh) kf out k:=λk A=>by
      have U:k<out.size:=by∎
      rw[DX U];have Y:(out.toList.map (·.2))[k]?=AA out[k].2:=by∎
      ∎
    have:=u i j (EA _) (Nx J) ∎;rw[<-B i hi,<-B j Z]at this;rw[gD,gD];exact this
def bW{X:BY}{K:Ap}(N:CP k X.A)(G:X.K=K:=by rfl):FA X (.builtin "sorted") (λxs H Q=>∃(p:AI)(ys:List AQ)(ds:List HN)(C:List Bool),xs=[.ref p]/\Bq K H p ys/\WG K H ys ds C/\∀l(qs:List (AQ×List AW)),H l=AB->qs.Perm (ys.zip (ds.map HR))->(qs.map (·.2)).Pairwise (λa b=>Bv b a=AH)->Q (.ref l) (Ax H l (.lst (qs.map (·.1))))):=by
  subst G;intro pins s σ H xs j Q I r h;obtain⟨p,ys,ds,C,rfl,M,so,q⟩:=h;obtain⟨u,rfl,T⟩:=Hw r;cases T;obtain⟨D,W,pl,hz⟩:=I.bz M;have Y:=so.xv I W;have L:=pl.isList;have A:=W.aj;refine AFT AFI AFL AFG (AFA _) ?_;unfold Builtin.«sorted»;refine Aa (m:=checkCount "sorted" 1 1 _) (Av ?_);refine Aa (collect_list L ?_ ∎);refine Aa (iX ?_ ∎);have U:((s.heap.push (Gi "list" #[] 0)).update s.heap.objs.size (L0 (.++D.toArray))).objs.size=s.heap.objs.size+1:=by simp_all
  have J:(((s.heap.push (Gi "list" #[] 0)).update s.heap.objs.size (L0 (.++D.toArray))).push (Gi "list" D.toArray 0)).get? (s.heap.objs.size+1)=AA (Gi "list" D.toArray 0):=by rw[<-U];exact EB _ rfl
  have g:∀b o,s.heap.get? b=AA o->(((s.heap.push (Gi "list" #[] 0)).update s.heap.objs.size (L0 (.++D.toArray))).push (Gi "list" D.toArray 0)).get? b=AA o:=λb o e=>Bn _ ((AKd _ _ _ _ (DL (Bt e))).trans (Bn _ e));rw[U];refine Aa (K6 (K5 AFN ⟨_,J,rfl⟩ AFF (Xk (O:=Kh) J ∎ (PU D (ds.map HR)) (λh' f h2=>?_) λout p u=>⟨_,rfl,Av ⟨_,rfl,?_⟩⟩) (by rfl)))
  . refine Y.wq ?_ h2 λa o items m e _ _=>?_
    . have:=N.un;∎
    ∎
  . obtain⟨qs,B,R,S⟩:=ACv (kss:=ds.map HR) (kf:=PU D (ds.map HR)) W (by rw[A4];exact Y.ba) (λi u ks E Z=>by rw[Ca]at Z;obtain⟨d,F,rfl⟩:=BK.mp Z;exact Y.kf i u d E F) p u;obtain⟨e,c⟩:=sortedAll_at s.heap D (out.map (·.2));have P:(qs.map (·.1)).length<=AY:=by rw[A4,B.length_eq,XF];∎
    refine⟨.ref (s.heap.objs.size+1),_,I.eu (a:=s.heap.objs.size+1) (o:=.lst (qs.map (·.1))) (t':=s.toks) (λb o e=>sortedAll_old e) (Pp _) ⟨P,_,e,R,∎⟩,rfl,q _ qs (I.ay.ao (Pp _)) B S⟩
def AGb{A:Ci}{s:AX}{items:Array AJ}{ks:List AW}(hh:A.handled=AB)(hl:s.heap.IsTuple l items)(H:ks.length=items.size)(hi:∀(i:Nat)k v,ks[i]?=AA k->items[i]?=AA v->Ge k v=AD)(O:items.size+1<F8)(h:∀(h':Au)(tk:Nat),FZ prog w h' s.heap.objs.size (DF [] ks)->(∀b o,b<s.heap.objs.size->s.heap.get? b=AA o->h'.get? b=AA o)->Q (.ref s.heap.objs.size) {s with heap:=h',toks:=tk}):Al (Aj prog w) A (JL (.type "set") [.ref l]) Q E s:=by
  obtain⟨c,tl,t⟩:=HV.mro;have g:=HV.made;have y:=HV.sub;refine Xf (AFz ?_);show Al _ _ (callAny (.type "set") _) _ _ _;refine Av ⟨AKJ _ (by decide+kernel),Mm AKQ ?_⟩;rw[AJ8 (ALU "set" [.ref l] []) rfl];have h1:=HV.notType;have h2:=HV.canCreate;have hct:=AKZ (.ref l);repeat(any_goals(first|assumption|wp_step))
  refine L3 (jX (.ref l) (E:=E) (Q₁:=λM U=>M=.ref s.heap.objs.size/\U={s with heap:=s.heap.push (FG w)}) ⟨rfl,rfl⟩) λr U j=>?_;cases r with|error e=>exact j|ok fl=>cases fl with
    |ret M=>
      obtain⟨rfl,rfl⟩:=j;have q:(s.heap.push (FG w)).get? s.heap.objs.size=AA (FG w):=EB _ rfl;have hT:AKv {s with heap:=s.heap.push (FG w)} (.ref s.heap.objs.size) "set":=⟨_,q,rfl⟩;have hli:=HV.init.lookup;have hbi:=HV.init.bind (.ref s.heap.objs.size);repeat(any_goals(first|assumption|wp_step))
      refine L3 (ALG (R:=wants (λr V=>r=.none/\∃h' tk,V={s with heap:=h',toks:=tk}/\FZ prog w h' s.heap.objs.size (DF [] ks)/\(∀b o,b<s.heap.objs.size->s.heap.get? b=AA o->h'.get? b=AA o)) E) HV.init.plain AKO (ALF hT ?_)) λN V D=>?_
      . obtain⟨ol,K,B,z,C⟩:=hl;obtain⟨ocls,Z,m,J⟩:=ol;simp only at B C;subst B;subst C;have L:(s.heap.push (FG w)).get? l=AA {cls:=.type "tuple",dict:=Z,data:=.seq items z,slots:=J}:=Bn _ K;have x:=F.sub_tuple_set;have u:=F.sub_tuple_frozenset;have hne:(Ky "tuple"==Ky "dict")=AH:=by decide
        have F:(s.heap.push (FG w)).IsTuple l items:=⟨_,L,rfl,z,rfl⟩;unfold Builtin.«set.__init__»noKeywords AKA;generalize S:P5=PI;wp_walk;subst S;refine ALh F ?_;refine Aa (iY ?_);have G:l<s.heap.objs.size:=Bt K;have d:A.in1.in1.in1.handled=AB:=by simp[hh]
        have I:l≠(s.heap.push (FG w)).objs.size:=by rw[JJ];exact DL (Pq G)
        have T:s.heap.objs.size∉[(s.heap.push (FG w)).objs.size,l]:=by rw[JJ];simp only[Bw,Cd,Hx,AMz,not_or];exact⟨DL (Ny _),XJ G⟩
        refine j8 ((Walks.tuple d _ l I items).toS) s.heap.objs.size T ks H (λi k v e1 e2=>hi i k v e1 e2) O (items.size-0) 0 _ (by omega) (EA _) ⟨⟨_,EB _ rfl,rfl,rfl⟩,(F.push _)⟩ ?hS0 ?hR;case hS0=>exact jU (Bn _ q)
        case hR=>
          intro s' P Y;obtain⟨h',g',d',p,n⟩:=s';have eg:g'=s.gens:=P.gens;have ed:d'=s.drawn:=P.drawn;have eo:n=s.os:=P.os;subst eg;subst ed;subst eo;show Al _ _ _ _ _ _;refine Av ?_;show Al _ _ (ret XT) _ _ _;refine Av ⟨rfl,h',p,rfl,Y,λb o O e=>?_⟩;have X:b≠s.heap.objs.size:=DL O;have a:b≠(s.heap.push (FG w)).objs.size:=by rw[JJ];exact DL (Pq O)
          exact P.heap b o (by simp only[Bw,Cd,Hx,AMz,not_or];exact⟨X,a⟩) (Bn _ (Bn _ e))
      .cases N with|error e=>exact D|ok W=>cases W with
          |ret r=>
            obtain⟨rfl,h',tk,rfl,Y,f⟩:=D;repeat(any_goals(first|assumption|wp_step))
            exact h _ _ Y f|_=>exact D.elim
    |_=>exact j.elim
def ADR(D:List AJ):iT D.toArray AB AB (AA (-1))=D.reverse.toArray:=by
  have J:S8 AB AB (AA (-1)) D.length=((D.length:Int)-1,-1,-1):=by rfl
  have V:sliceRange ((D.length)-1) (-1) (-1)=(EO D.length).map λk=>D.length-1-k:=by
    have U:(if((D.length:Int)-1)>-1 then(((D.length:Int)-1)- -1- -1-1)/ -(-1)else 0).toNat=D.length:=by
      split
      . have:(((D.length:Int)-1)- -1- -1-1)/ -(-1)=D.length:=by rw[show-(-1)=1 by decide];∎
        rw[this];rfl
      . have:D.length=0:=by∎
        rw[this];rfl
    show Kl _ (EO (if((D.length:Int)-1)>-1 then(((D.length)-1)- -1- -1-1)/ -(-1:Int)else 0).toNat)=_;rw[U];refine Ie λk _=>?_;∎
  have key:((EO D.length).map λk=>D.length-1-k).map (λx=>D.toArray[x]?)=D.reverse.map AA:=by
    refine XA λk=>?_;rw[Bj,Ca,Ca];by_cases h:k<D.length
    . rw[List.getElem?_range h,List.getElem?_reverse h];show AA (D.toArray[D.length-1-k]?)=_;rw[XD,EM ∎];rfl
    . rw[AEs (by simpa using h),AEs (by simpa using h)];rfl
  unfold iT;have W:D.toArray.size=D.length:=by simp
  rw[W,J];rw[V];have e:List.filterMap (λx=>D.toArray[x]?) ((EO D.length).map λk=>D.length-1-k)=D.reverse:=by have:=AJN (f:=λx=>D.toArray[x]?) (g:=id) (l:=(EO D.length).map λk=>D.length-1-k);rw[key]at this;simp only[AI8,id]at this;rw[<-this];simp
  rw[e]
def AES(K:Ap)(te ts:A6):A6:=λσ H Q=>te σ H λx H1=>ts σ H1 λy H2=>y=.int (-1)/\∃a xs,x=.ref a/\Bq K H2 a xs/\∀p,H2 p=AB->Q (.ref p) (Ax H2 p (.lst xs.reverse))
def ADD{X:BY}{K:Ap}{st:BE}(Z:AV X e te)(A:AV X st ts)(Y:X.K=K:=by rfl):AV X (.Subscript e (.Slice AB AB (AA st) p2) pos) (AES K te ts):=by subst Y;intro pins s σ H Q I h;refine fM AGA.lookup (λ_ _=>rfl) (A2 (Z _ s σ H _ I h) λv s1⟨x,H1,V,r1,F⟩=>?_);refine wpAny_Slice ?_;refine Av ?_;refine Av ?_;refine A2 (A _ s1 σ H1 _ V F) λu s2⟨y,H2,W,r2,G⟩=>?_;obtain⟨rfl,a,xs,rfl,B,q⟩:=G;cases r1;obtain⟨t,rfl⟩:=r2;have D:Ae X _ σ H2 {s2 with heap:=s2.heap.push {cls:=.type "slice",data:=.fields #[.none,.none,.int (-1) t]}}:=W.cp λb E q=>Bn _ q;obtain⟨C,r,U,hz⟩:=D.bz B;have J:=r.aj;refine⟨U.isList.typeIs,?_⟩;refine ALb U.isList (AKb ..) .none .none (.int _ t) (by decide) ?_ (by rw[Mf];∎);rw[ADR];refine⟨.ref _,_,D.eu (λb E q=>Bn _ q) (Aw _) ?_,rfl,q _ (D.ay.ao (Aw _))⟩;exact⟨by rw[List.length_reverse];exact hz,_,0,r.qw,EB _ rfl⟩
def CA{N P:List AG}{D:ED}(h1:D.kind=.function:=by rfl)(h2:D.isCoroutine=AH:=by rfl)(J:D.isGenerator=AH:=by rfl)(U:N.Nodup:=by decide+kernel)(V:N.take P.length=P:=by rfl)(W:∀x∈P,D.names.lookup x=AA .local\/D.names.lookup x=AA .cell:=by decide+kernel)(Y:∀y∈D.names,y.2≠.free:=by decide+kernel):HP N P D:=⟨h1,h2,J,U,V,W,Y⟩
structure LY(P:CB)(w:Ba)(K:Ap)(mg:AG->Option AJ)(base:Au)(k:Nat)(f:AI)(fd:DU)(ps:List AG)(sp:Ex)(x:AG):Prop where
 F:Dr P w K mg base G4 k f fd ps sp
 m:mg x=AA (.ref f)k:N2 K (.ref f)=AD
 b:Fm K fd ps []
def Wh{X:BY}{x:AG}(C:LY X.af X.w X.K X.mg X.ai k f fd ps sp x)(Y:CP n X.A)(U:C7 X (e::es) t)(hn:k<=n:=by decide)(W:CG X x:=by rfl)(D:(x==("__debug__":AG))=AH:=by decide)(V:Ah (e::es) X.aa=(AH,Ar e X.aa)::Ah es X.aa:=by rfl)(J:(Bx pos (Ah es X.aa)).any (·.1)=AH:=by rfl):AV X (.Call (.Name x p) (e::es) [] pos) (fN sp [] bF t):=AC0 C.F (Y.gg hn) W C.m C.k C.b .nil Wg U D V J
def ADc{X:BY}{pos:Ce}(i:Nat)(D:X.N.Nodup)(J:AV X e te)(hi:X.N[i]?=AA x:=by rfl)(W:JF X.aa.scope x:=by first|exact .inl rfl|exact .inr rfl)(V:HY e (AA (.Name x pos')) pos.line X.aa=BC AH:=by rfl)(U:X.fn x=AD\/X.aa.scope.names.lookup x=AA .local:=by first|exact .inl rfl|exact .inr rfl|∎):CY X (.Assign [.Name x pos'] e pos) (Wv te (Le i)):=eF D hi W J V U
def dU{X:BY}{p pos:Ce}(K:Ap)(Z:AV X a ta)(Y:C7 X (e::es) t)(W:X.K=K:=by rfl)(D:Jt a "append" X.aa (Ar a X.aa)=Ar a X.aa:=by rfl)(U:((Bx pos (Ah (e::es) X.aa)).all (λx=>!x.1)&&(Ju pos (Jy [] X.aa)).all (λx=>x.1.isSome)&&Af ((e::es).length+([]:List Fv).length+(if([]:List Fv).isEmpty then 0 else 1)<30))=AD:=by rfl)(J:(p.endLine==pos.line)=AD:=by rfl)(A:Ah (e::es) X.aa=(AH,Ar e X.aa)::Ah es X.aa:=by rfl)(V:(Bx pos (Ah es X.aa)).any (·.1)=AH:=by rfl):AV X (.Call (.Attribute a "append" p) (e::es) [] pos) (SQ K "list" Wn ta t):=SG AKT AFY F.type_list_append ACV Z Y W D U J A V
def dH(x:AQ)(k:Int->Prop):Prop:=match x with|.int i=>k i|_=>False
def dI(x:AQ)(k:AI->Prop):Prop:=match x with|.ref i=>k i|_=>False
def Ji(x:Option (Option AQ))(k:AQ->Prop):Prop:=match x with|AA (AA v)=>k v|_=>False
def ACd(h:dH x k):∃i,x=.int i/\k i:=by cases x<;>first|exact⟨_,rfl,h⟩|exact h.elim
def ACe(h:dI x k):∃i,x=.ref i/\k i:=by cases x<;>first|exact⟨_,rfl,h⟩|exact h.elim
def ACf(h:Ji x k):∃v,x=AA (AA v)/\k v:=by match x,h with|AA (AA v),h=>exact⟨v,rfl,h⟩
def Pk(i:Nat):A6:=λσ H Q=>Ji σ[i]? λv=>Q v H
def ADj(K:Ap):Cy:=λx y H Q=>dI x λp=>dH y λi=>∃xs v,CH K H p xs/\CJ xs i=AA v/\Q v H
def C8(h:AV X e t)(m:∀σ H Q,t' σ H Q->t σ H Q):AV X e t':=λpins s σ H Q I w=>h _ s σ H Q I (m σ H Q w)
def Jk{X:BY}{x:AG}(i:Nat)(J:X.N[i]?=AA x:=by rfl)(V:Ia X.aa.scope x:=by first|exact Or.inl rfl|exact Or.inr (Or.inl rfl)|exact Or.inr (Or.inr rfl))(U:(x==("__debug__":AG))=AH:=by decide)(D:(x==("__classdict__":AG))=AH:=by decide):AV X (.Name x pos) (Pk i):=C8 (d8 J V U D) λ_ _ _ h=>ACf h
def ADi{X:BY}(K:Ap)(J:AV X a ta)(U:AV X b tb)(V:WC b:=by exactλ_ _=>rfl)(D:X.K=K:=by rfl):AV X (.Subscript a b pos) (MZ (ADj K) ta tb):=dZ (λa b pins s σ H x y v u Q I W Y h=>AB2 D a b _ s σ H x y v u Q I W Y (by obtain⟨p,rfl,h⟩:=ACe h;obtain⟨i,rfl,xs,w,h1,h2,q⟩:=ACd h;exact⟨p,xs,i,w,rfl,rfl,h1,h2,q⟩)) J U V
def AGa{A:Ci}{s:AX}{items:Array AJ}{ks:List AW}(V:A.handled=AB)(J:s.heap.IsList l items\/s.heap.IsTuple l items)(D:ks.length=items.size)(hi:∀(i:Nat)k v,ks[i]?=AA k->items[i]?=AA v->Ge k v=AD)(U:items.size+1<F8)(h:∀(h':Au)(tk:Nat),FZ prog w h' s.heap.objs.size (DF [] ks)->(∀b o,b<s.heap.objs.size->s.heap.get? b=AA o->h'.get? b=AA o)->Q (.ref s.heap.objs.size) {s with heap:=h',toks:=tk}):Al (Aj prog w) A (JL (.type "set") [.ref l]) Q E s:=by
 rcases J with J|J;.exact AGZ V J D hi U h
 .exact AGb V J D hi U h
def AEV(K:Ap)(te:A6):A6:=λσ H Q=>te σ H λx H1=>∃(a:AI)(ks:List AW),x=.ref a/\(Bq K H1 a (ks.map BP)\/CH K H1 a (ks.map BP))/\((∀k∈ks,∃i,k=.inl i)\/∀k∈ks,∃i,k=.inr i)/\ks.length+1<F8/\∀l(D:List AW),H1 l=AB->D.Perm (DF [] ks)->D.Pairwise (λa b=>D8 b a=AH)->Q (.ref l) (Ax H1 l (.lst (D.map BP)))
def ADF{X:BY}{K:Ap}(hc:X.bc=AD)(hg1:CG X "sorted")(hm1:X.mg "sorted"=AB)(hg2:CG X "set")(hm2:X.mg "set"=AB)(he0:AV X e te)(hK:X.K=K:=by rfl)(g:Ah [e] X.aa=(AH,Ar e X.aa)::Ah [] X.aa:=by rfl)(f:Ah [.Call (.Name "set" p2) [e] [] pos2] X.aa=(AH,Ar (.Call (.Name "set" p2) [e] [] pos2) X.aa)::Ah [] X.aa:=by rfl):AV X (.Call (.Name "sorted" p1) [.Call (.Name "set" p2) [e] [] pos2] [] pos1) (AEV K te):=by
  subst hK;intro pins s0 σ H Q I0 h;refine N5 (Kg I0 hg1 hm1 gQ ?_ (by decide) (by decide));refine AJt ?_ f rfl;rw[f];refine Lw ?_;refine N5 (Kg I0 hg2 hm2 ALz ?_ (by decide) (by decide));refine Sn ?_ g rfl;rw[g];refine Lw (A2 (he0 pins s0 σ H _ I0 h) λu s⟨x,H1,I,rx,a,ks,ex,c,Z,hb,q⟩=>N0 ?_);subst ex;obtain rfl:u=FD a:=rx;obtain⟨W,w,hl⟩:∃W,BR (ks.map BP) W/\(s.heap.IsList a W.toArray\/s.heap.IsTuple a W.toArray):=by
    rcases c with c|c
    . obtain⟨i,r,p,_⟩:=I.bz c;exact⟨i,r,.inl p.isList⟩
    . obtain⟨i,r,p,_⟩:=I.bj c;exact⟨i,r,.inr p⟩
  have F:=w.aj;rw[A4]at F;refine AGa (ks:=ks) (I.ok.hd hc) hl (by simpa using F) (λi k v D U=>?_) (by simp;∎) λh0 tk0 sk j=>N0 ?_
  . rw[XD]at U;obtain⟨u',R,C⟩:=w.ju (i:=i) (x:=BP k) (by rw[Ca,D];rfl);rw[U]at R;cases R;cases k with |inl n=>obtain⟨t,rfl⟩:=C;exact WY _ _|inr n=>obtain⟨t,rfl⟩:=C;exact WZ _ _
  have T:=sk.lt;refine AFT AFI AFL AFG (AFA _) ?_;refine Aa (Av ?_);refine Aa (AGd (A:=X.A.in1) (I.ok.hd hc) sk λh1 tk d J k1 gr pm0 hbs=>?_);obtain⟨L,eL,pL⟩:=ACE pm0;have G:=λk hk=>by have:=(N9 k ks []).mp (pL.mem_iff.mp hk);simpa using this
  have hLl:=by have:=AMw Kk eL;simpa using this
  have N:∀(i:Nat)v k,J[i]?=AA v->L[i]?=AA k->ID v=AA k:=λi v k D U=>by have:=AMw (λl=>l[i]?) eL;simp only[Ca,D,U]at this;simpa using this
  have rv:BR (L.map BP) J:=by refine Lj (by rw[A4];∎) λi x v D U=>?_;rw[Ca]at D;obtain⟨k,B,rfl⟩:=BK.mp D;exact Wt (N i v k U B)
  have sv:Kc h1 J (L.map λk=>[k]):=by
    rcases Z with Z|Z
    . refine .cI (by rw[A4];∎) λi u ks D U=>?_;rw[Ca]at U;obtain⟨p,B,rfl⟩:=BK.mp U;obtain⟨n,en⟩:=Z p (G p (Jn B));have C:=Wt (N i u p D B);rw[en]at C⊢;obtain⟨t,rfl⟩:=C;exact⟨n,t,rfl,rfl⟩
    . refine .cS (by rw[A4];∎) λi u ks D U=>?_;rw[Ca]at U;obtain⟨p,B,rfl⟩:=BK.mp U;obtain⟨n,en⟩:=Z p (G p (Jn B));have C:=Wt (N i u p D B);rw[en]at C⊢;obtain⟨t,rfl⟩:=C;exact⟨n,t,rfl,rfl⟩
  have hsl:=Xa hbs;refine Aa (iX ?_ ∎);have M:(h1.push (Gi "list" J.toArray 0)).get? h1.objs.size=AA _:=EB _ rfl;have E:=Nx (AE4 T gr);refine Aa (K6 (K5 AFN ⟨_,M,rfl⟩ AFF (Xk (O:=Kh) M ∎ (Ic h1) (λh' k' h2=>?_) λout p u=>⟨_,rfl,Av ⟨_,rfl,?_⟩⟩) (AJq _)))
  . refine sv.wq h2 λa o items m _ e _ _=>?_;exact k' a o (DL (Bt e)) (Bn _ e)
  . obtain⟨qs,q1,q2,q3⟩:=dS (X:=X) rv sv p u;obtain⟨e',ho⟩:=AJ3 (vs:=J) M;have P:∀x∈qs,∃k,x.1=BP k/\x.2=[k]:=λx hx=>by have hm:=q1.mem_iff.mp hx;obtain⟨i,hi⟩:=AEv.mp hm;obtain⟨B,R⟩:=SX.mp hi;rw[Ca]at B R;obtain⟨p3,C,e6⟩:=BK.mp B;rw[C]at R;exact⟨p3,e6.symm,(Kq R).symm⟩
    have ep:qs.map (·.1)=(qs.map λx=>x.2.headD (.inl 0)).map BP:=by rw[Bj];refine Ie λx hx=>?_;obtain⟨k,D,U⟩:=P x hx;show x.1=BP (x.2.headD (.inl 0));rw[D,U];rfl
    have pm:(qs.map λx=>x.2.headD (.inl 0)).Perm L:=by refine(q1.map _).trans (AJG ?_);rw[show(λx:AQ×List AW=>x.2.headD (.inl 0))=(λl:List AW=>l.headD (.inl 0))∘AE8 from rfl,<-Bj,SY (by simp),Bj];exact XG _
    have pw:(qs.map λx=>x.2.headD (.inl 0)).Pairwise (λa b=>D8 b a=AH):=by
      rw[HS];rw[HS]at q3;refine q3.imp_of_mem λ{a b}ha hb Y=>?_;obtain⟨x,_,ex⟩:=P a ha;obtain⟨y,_,ey⟩:=P b hb;rw[ex,ey]at Y⊢;have Y:(if y=x then AH else D8 y x)=AH:=Y;by_cases z:y=x;.rw[z];exact R6 x
      .rw[AMv z]at Y;exact Y
    have lz:(qs.map (·.1)).length<=AY:=by rw[A4,q1.length_eq,XF,A4];∎
    have old:∀b o,s.heap.get? b=AA o->(gW (h1.push (Gi "list" J.toArray 0)) h1.objs.size J (out.map (·.2))).get? b=AA o:=λb o e=>by have D:=k1 b o (j b o (Bt e) e);have S:=Bt D;rw[AJ4 (DL S) (by rw[size_push'];exact Pq S)];exact Bn _ D
    refine⟨.ref h1.objs.size,_,(I.vh d).eu (o:=.lst (qs.map (·.1))) (t':=tk) old E ⟨lz,_,e',q2,by exact ho⟩,rfl,?_⟩;rw[ep];exact q _ _ (I.ay.ao E) (pm.trans pL) pw
inductive AN where|n|b(x:Bool)|i(x:Int)|s(x:AG)|t(l:List AN)|l(l:List AN)|m(ks:List AW)(l:List AN)
inductive AU where|d(x:AN)|L(l:List AU)|M(ks:List AW)(l:List AU)|U(l:List AU)|B(c:Nat)(fs:List AG)(l:List AU)|R(k:Nat)(t:AU)|H(k:Nat)
mutual def DY(K:Ap)(G:AR):AN->AQ->Prop|.n,v=>v=.non|.b x,v=>v=.bl x|.i x,v=>v=.int x|.s x,v=>v=.str x|.t l,v=>∃a xs,v=.ref a/\CH K G a xs/\Bd K G l xs|.l l,v=>∃a xs,v=.ref a/\Bq K G a xs/\Bd K G l xs|.m ks l,v=>∃a xs,v=.ref a/\(ks.length=xs.length/\ks.Nodup)/\EY G a (.dK (ks.zip xs))/\Bd K G l xs def Bd(K:Ap)(G:AR):List AN->List AQ->Prop|[],xs=>xs=[]|d::r,xs=>∃v ys,xs=v::ys/\DY K G d v/\Bd K G r ys end
def Mq(e:As H H')(h:EY H a u):EY H' a u:=by
 rcases h with h|⟨o,h⟩;.exact .inl (e _ _ h)
 .exact .inr ⟨o,e _ _ h⟩
def Gp{K:Ap}(e:As H H')(h:Bq K H a xs):Bq K H' a xs:=h.imp (Mq e) id
def Fe{K:Ap}(e:As H H')(h:CH K H a xs):CH K H' a xs:=by
 rcases h with h|h;.exact .inl (Mq e h)
 .exact .inr h
def Gn(G G':AR):Prop:=(∀a u,EY G a u->EY G' a u)/\(∀a xs,G a=AA (.tup xs)->G' a=AA (.tup xs))/\∀a o u,G a=AA (.frz o u)->G' a=AA (.frz o u)
def HF(e:As G G'):Gn G G':=⟨λa u h=>Mq e h,λa xs h=>e _ _ h,λa o u h=>e _ _ h⟩
def Gn.xr{K:Ap}(e:Gn G G')(h:Bq K G a xs):Bq K G' a xs:=h.imp (e.1 a _) id
def Gn.ym{K:Ap}(e:Gn G G')(h:CH K G a xs):CH K G' a xs:=h.imp (e.1 a _) id
section
variable{K:Ap}{G G':AR}
mutual theorem Xv(e:Gn G G'):∀{d:AN}{v:AQ},DY K G d v->DY K G' d v|.n,_,h|.b _,_,h|.i _,_,h|.s _,_,h=>h|.t l,_,h=>by obtain⟨a,xs,h1,h2,J⟩:=h;exact⟨a,xs,h1,e.ym h2,Bd.fz e J⟩|.l l,_,h=>by obtain⟨a,xs,h1,h2,J⟩:=h;exact⟨a,xs,h1,e.xr h2,Bd.fz e J⟩|.m ks l,_,h=>by obtain⟨a,xs,h1,U,h2,J⟩:=h;exact⟨a,xs,h1,U,e.1 a _ h2,Bd.fz e J⟩theorem Bd.fz(e:Gn G G'):∀{l:List AN}{xs:List AQ},Bd K G l xs->Bd K G' l xs|[],_,h=>h|d::r,_,h=>by obtain⟨v,ys,h1,h2,J⟩:=h;exact⟨v,ys,h1,Xv e h2,Bd.fz e J⟩end
end
def DY.ag{K:Ap}(e:As G G')(h:DY K G d v):DY K G' d v:=Xv (HF e) h
def Bd.ag{K:Ap}(e:As G G')(h:Bd K G l xs):Bd K G' l xs:=Bd.fz (HF e) h
mutual def Bh(K:Ap)(cl:Nat->AI)(G H:AR):AU->AQ->List AI->Prop|.d x,v,F=>DY K G x v/\F=[]|.L l,v,F=>∃a xs F',v=.ref a/\F=a::F'/\H a=AA (.lst xs)/\Cu K cl G H l xs F'|.M ks l,v,F=>∃a xs F',v=.ref a/\F=a::F'/\(ks.length=xs.length/\ks.Nodup)/\H a=AA (.dK (ks.zip xs))/\Cu K cl G H l xs F'|.U l,v,F=>∃a xs,v=.ref a/\G a=AA (.tup xs)/\Cu K cl G H l xs F|.B c fs l,v,F=>∃a dx xs F',v=.ref a/\F=a::dx::F'/\fs.length=xs.length/\H a=AA (.ins (cl c) dx (fs.zip xs))/\H dx=AA (.own a)/\Cu K cl G H l xs F'|.R k t,v,F=>v=.ref (cl k)/\Bh K cl G H t v F|.H k,v,F=>v=.ref (cl k)/\F=[]def Cu(K:Ap)(cl:Nat->AI)(G H:AR):List AU->List AQ->List AI->Prop|[],xs,F=>xs=[]/\F=[]|t::r,xs,F=>∃v ys D J,xs=v::ys/\F=D++J/\Bh K cl G H t v D/\Cu K cl G H r ys J end
mutual def AU.fg:AU->Option AN|.d x=>AA x|.L l=>(DM l).map .l|.M ks l=>(DM l).map (.m ks)|.U l=>(DM l).map .t|.R _ t=>t.fg|.B _ _ _|.H _=>AB def DM:List AU->Option (List AN)|[]=>AA []|t::r=>t.fg.bind λx=>(DM r).map (x::.)end
section
variable{K:Ap}{G G' H H':AR}{cl:Nat->AI}
mutual theorem Te(e:Gn G G'):∀{t:AU}{v:AQ}{F:List AI},(∀a∈F,∀o,H a=AA o->H' a=AA o)->Bh K cl G H t v F->Bh K cl G' H' t v F|.d _,_,_,_,h=>⟨Xv e h.1,h.2⟩|.L l,_,_,k,h=>by obtain⟨a,xs,F',h1,rfl,J,D⟩:=h;exact⟨a,xs,F',h1,rfl,(by grind),OD e (by grind) D⟩|.M ks l,_,_,k,h=>by obtain⟨a,xs,F',h1,rfl,W,J,D⟩:=h;exact⟨a,xs,F',h1,rfl,W,(by grind),OD e (by grind) D⟩|.U l,_,_,k,h=>by obtain⟨a,xs,h1,J,D⟩:=h;exact⟨a,xs,h1,e.2.1 _ _ J,OD e k D⟩|.B c fs l,_,_,k,h=>by obtain⟨a,dx,xs,F',h1,rfl,W,J,A,D⟩:=h;exact⟨a,dx,xs,F',h1,rfl,W,(by grind),(by grind),OD e (by grind) D⟩|.R _ _,_,_,k,h=>⟨h.1,Te e k h.2⟩|.H _,_,_,_,h=>h theorem OD(e:Gn G G'):∀{l:List AU}{xs:List AQ}{F:List AI},(∀a∈F,∀o,H a=AA o->H' a=AA o)->Cu K cl G H l xs F->Cu K cl G' H' l xs F|[],_,_,_,h=>h|t::r,_,_,k,h=>by obtain⟨v,ys,Y,Z,h1,rfl,h2,J⟩:=h;exact⟨v,ys,Y,Z,h1,rfl,Te e (by grind) h2,OD e (by grind) J⟩end
end
def Bh.ag{K:Ap}(e:As G G')(k:∀a∈F,∀o,H a=AA o->H' a=AA o)(h:Bh K cl G H t v F):Bh K cl G' H' t v F:=Te (HF e) k h
def Cu.ag{K:Ap}(e:As G G')(k:∀a∈F,∀o,H a=AA o->H' a=AA o)(h:Cu K cl G H l xs F):Cu K cl G' H' l xs F:=OD (HF e) k h
section
variable{K:Ap}{G H:AR}{cl:Nat->AI}
mutual theorem Bh.ri:∀{t:AU}{v:AQ}{F:List AI},Bh K cl G H t v F->∀a∈F,∃o,H a=AA o
 |.d _,_,_,h,a,J=>by rw[h.2]at J;cases J|.L l,_,_,h,b,D=>by
  obtain⟨a,xs,F',h1,rfl,Y,W⟩:=h;rcases Bw.mp D with rfl|D;.grind
  .exact QL W b D|.M ks l,_,_,h,b,D=>by
  obtain⟨a,xs,F',h1,rfl,Z,Y,W⟩:=h;rcases Bw.mp D with rfl|D;.grind
  .exact QL W b D|.U l,_,_,h,b,D=>by obtain⟨a,xs,h1,Y,W⟩:=h;exact QL W b D|.B c fs l,_,_,h,b,D=>by
  obtain⟨a,dx,xs,F',h1,rfl,Z,Y,E,W⟩:=h;rcases Bw.mp D with rfl|D;.grind
  rcases Bw.mp D with rfl|D;.grind
  .exact QL W b D|.R _ _,_,_,h,b,D=>Bh.ri h.2 b D|.H _,_,_,h,b,D=>by rw[h.2]at D;cases D theorem QL:∀{l:List AU}{xs:List AQ}{F:List AI},Cu K cl G H l xs F->∀a∈F,∃o,H a=AA o
 |[],_,_,h,a,J=>by rw[h.2]at J;cases J|t::r,_,_,h,a,J=>by
  obtain⟨v,ys,A,C,h1,rfl,h2,Y⟩:=h;rcases Cb.mp J with J|J;.exact Bh.ri h2 a J
  .exact QL Y a J end
end
section
variable{K:Ap}{G G' H:AR}{cl:Nat->AI}
mutual theorem Bh.rp(e:As G G'):∀{t:AU}{v:AQ}{F:List AI}{d:AN},t.fg=AA d->(∀a∈F,∀o,H a=AA o->G' a=AA o)->Bh K cl G H t v F->DY K G' d v|.d _,_,_,_,q,_,h=>by cases q;exact DY.ag e h.1|.L l,_,_,_,q,k,h=>by obtain⟨a,xs,F',h1,rfl,W,Y⟩:=h;obtain⟨ds,J,rfl⟩:=BK.mp q;exact⟨a,xs,h1,.inl (.inl (by grind)),OE e J (by grind) Y⟩|.M ks l,_,_,_,q,k,h=>by obtain⟨a,xs,F',h1,rfl,Z,W,Y⟩:=h;obtain⟨ds,J,rfl⟩:=BK.mp q;exact⟨a,xs,h1,Z,.inl (by grind),OE e J (by grind) Y⟩|.U l,_,_,_,q,k,h=>by obtain⟨a,xs,h1,W,Y⟩:=h;obtain⟨ds,J,rfl⟩:=BK.mp q;exact⟨a,xs,h1,Jg (e _ _ W),OE e J k Y⟩|.R _ t,_,_,_,q,k,h=>Bh.rp e (t:=t) q k h.2|.B _ _ _,_,_,_,q,_,_|.H _,_,_,_,q,_,_=>by cases q theorem OE(e:As G G'):∀{l:List AU}{xs:List AQ}{F:List AI}{ds:List AN},DM l=AA ds->(∀a∈F,∀o,H a=AA o->G' a=AA o)->Cu K cl G H l xs F->Bd K G' ds xs|[],_,_,_,q,_,h=>by cases q;exact h.1|t::r,_,_,_,q,k,h=>by obtain⟨v,ys,E,I,h1,rfl,h2,W⟩:=h;obtain⟨d,J,A⟩:=Am.mp q;obtain⟨ds,C,rfl⟩:=BK.mp A;exact⟨v,ys,h1,Bh.rp e J (by grind) h2,OE e C (by grind) W⟩end
end
def E2(K:Ap)(cl:Nat->AI)(G H:AR):List (Option AU)->Az->List AI->Prop|[],σ,F=>σ=[]/\F=[]|AB::r,σ,F=>∃v D,σ=v::D/\E2 K cl G H r D F|AA t::r,σ,F=>∃v D J U,σ=AA v::D/\F=J++U/\Bh K cl G H t v J/\E2 K cl G H r D U
def E2.fz{K:Ap}(e:Gn G G'):∀{τ:List (Option AU)}{σ:Az}{F:List AI},(∀a∈F,∀o,H a=AA o->H' a=AA o)->E2 K cl G H τ σ F->E2 K cl G' H' τ σ F|[],_,_,_,h=>h|AB::r,_,_,k,h=>by obtain⟨v,D,h1,J⟩:=h;exact⟨v,D,h1,E2.fz e k J⟩|AA t::r,_,_,k,h=>by obtain⟨v,D,U,V,h1,rfl,h2,J⟩:=h;exact⟨v,D,U,V,h1,rfl,Te e ∎ h2,E2.fz e ∎ J⟩
def E2.ag{K:Ap}(e:As G G')(k:∀a∈F,∀o,H a=AA o->H' a=AA o)(h:E2 K cl G H τ σ F):E2 K cl G' H' τ σ F:=E2.fz (HF e) k h
def E2.ri{K:Ap}:∀{τ:List (Option AU)}{σ:Az}{F:List AI},E2 K cl G H τ σ F->∀a∈F,∃o,H a=AA o
 |[],_,_,h,a,D=>by rw[h.2]at D;cases D|AB::r,_,_,h,a,D=>by obtain⟨v,U,h1,J⟩:=h;exact E2.ri J a D|AA t::r,_,_,h,a,D=>by
  obtain⟨v,U,V,W,h1,rfl,h2,J⟩:=h;rcases Cb.mp D with D|D;.exact h2.ri a D
  .exact E2.ri J a D
def E2.dh{K:Ap}:∀{τ:List (Option AU)}{σ:Az}{F:List AI}(i:Nat),i<τ.length->E2 K cl G H τ σ F->∃D,(∀a∈D,a∈F)/\(F.Nodup->D.Nodup)/\(∀t,τ[i]?=AA (AA t)->∃v,σ[i]?=AA (AA v)/\Bh K cl G H t v D)/\∀{G' H':AR}{t':AU}{v':AQ}{Fn:List AI},As G G'->(∀a∈F,a∉D->∀o,H a=AA o->H' a=AA o)->F.Nodup->Bh K cl G' H' t' v' Fn->∃F',E2 K cl G' H' (τ.set i (AA t')) (σ.set i (AA v')) F'/\(∀a,a∈F'↔(a∈F/\a∉D)\/a∈Fn)/\(Fn.Nodup->(∀a∈Fn,a∈F->a∈D)->F'.Nodup)|[],_,_,_,l,_=>absurd l (AJj _)|AB::r,_,F,0,_,h=>by obtain⟨u,J,rfl,U⟩:=h;refine⟨[],λa Z=>(nomatch Z),λ_=>Ft,λt e=>(nomatch e),λ{G' H' t' v' Fn}e k W w=>⟨Fn++F,⟨v',J,Fn,F,rfl,rfl,w,U.ag e ∎⟩,λa=>?_,λI L=>?_⟩⟩;all_goals∎|AA x::r,_,_,0,_,h=>by obtain⟨u,J,D,Y,rfl,rfl,h2,U⟩:=h;refine⟨D,λa Z=>GK _ Z,λW=>(HA.mp W).1,∎,λ{G' H' t' v' Fn}e k W w=>?_⟩;refine⟨Fn++Y,⟨v',J,Fn,Y,rfl,rfl,w,U.ag e ∎⟩,λa=>?_,λI L=>?_⟩;all_goals∎|AB::r,_,F,i+1,l,h=>by obtain⟨u,J,rfl,U⟩:=h;obtain⟨D,M,N,A,B⟩:=E2.dh i (AE3 l) U;refine⟨D,M,N,λt e=>A t e,λe k W w=>?_⟩;obtain⟨F',C,O,P⟩:=B e k W w;exact⟨F',⟨u,_,rfl,C⟩,O,P⟩|AA x::r,_,_,i+1,l,h=>by obtain⟨u,J,E,Y,rfl,rfl,h2,U⟩:=h;obtain⟨D,M,N,A,B⟩:=E2.dh i (AE3 l) U;refine⟨D,∎,∎,λt e=>A t e,λ{G' H' t' v' Fn}e k W w=>?_⟩;obtain⟨R,Q,S⟩:=HA.mp W;obtain⟨F',C,O,P⟩:=B e ∎ Q w;refine⟨E++F',⟨u,_,E,F',rfl,rfl,h2.ag e ∎,C⟩,λa=>?_,λI L=>?_⟩;all_goals∎
def E2.ba{K:Ap}:∀{τ:List (Option AU)}{σ:Az}{F:List AI},E2 K cl G H τ σ F->σ.length=τ.length|[],_,_,h=>by rw[h.1];rfl|AB::r,_,_,h=>by obtain⟨v,J,rfl,D⟩:=h;exact AMw _ (E2.ba D)|AA t::r,_,_,h=>by obtain⟨v,J,U,V,rfl,rfl,h2,D⟩:=h;exact AMw _ (E2.ba D)
open Classical in noncomputable def A1(O:AI->Prop)(F:List AI)(H:AR):AR:=λa=>if O a\/a∈F then AB else H a
def CU:A1 O F H a=AA o↔¬O a/\a∉F/\H a=AA o:=by unfold A1;∎
def Xw(P:List AI)(H H':AR):Prop:=∀a o,a∉P->H a=AA o->H' a=AA o
def Xw.ak(s:Xw P H H1)(e:As H1 H2):Xw P H H2:=λa o n h=>e _ _ (s a o n h)
structure JN where
 H0:AR
 O:AI->Prop
 P:List AI
 pn:AR->Prop
 pm:∀G G',Gn G G'->pn G->pn G'
structure BH(K:Ap)(cl:Nat->AI)(g:JN)(F:List AI)(H:AR)(σ:Az)(τ:List (Option AU)):Prop where
 ag:Xw g.P g.H0 H
 od:∀a,g.O a->a∉g.P/\∃o,g.H0 a=AA o
 nw:∀a∈F,a∈g.P\/g.H0 a=AB
 nd:F.Nodup
 sl:E2 K cl (A1 g.O F H) H τ σ F
 pn:g.pn (A1 g.O F H)
inductive Ab where|s(d:AN)|n(t:AU)
def Ab.t:Ab->AU|.s d=>.d d|.n t=>t
def Ab.d(w:Ab):Option AN:=w.t.fg
def EJ(K:Ap)(cl:Nat->AI)(O:AI->Prop)(F:List AI)(H H':AR):Ab->AQ->Prop|.s d,v=>DY K (A1 O F H') d v|.n t,v=>∃F',Bh K cl (A1 O (F'++F) H') H' t v F'/\F'.Nodup/\∀a∈F',H a=AB
def FI(e:As H H'):As (A1 O F H) (A1 O F H'):=λa o h=>by obtain⟨h1,h2,D⟩:=CU.mp h;exact CU.mpr ⟨h1,h2,e _ _ D⟩
def Bu:As (A1 O F H) H:=λa o h=>(CU.mp h).2.2
def DN(s:∀a∈F',a∈F):As (A1 O F H) (A1 O F' H):=λa o h=>by obtain⟨h1,h2,D⟩:=CU.mp h;exact CU.mpr ∎
def OI(e:As H H')(s:∀a∈F',a∈F\/H a=AB):As (A1 O F H) (A1 O F' H'):=λa o h=>by obtain⟨h1,h2,D⟩:=CU.mp h;refine CU.mpr ⟨h1,λz=>?_,e _ _ D⟩;∎
def BH.ri{K:Ap}(S:BH K cl g F H σ τ):∀a∈F,∃o,H a=AA o:=S.sl.ri
def BH.ak{K:Ap}(S:BH K cl g F H σ τ)(e:As H H'):BH K cl g F H' σ τ:=⟨S.ag.ak e,S.od,S.nw,S.nd,S.sl.ag (FI e) λa _ o h=>e _ _ h,g.pm _ _ (HF (FI e)) S.pn⟩
def BH.ao{K:Ap}{g:JN}(S:BH K cl g F H σ τ)(h:H a=AB):a∉F/\¬g.O a:=by
 refine⟨λz=>?_,λz=>?_⟩
 . obtain⟨o,q⟩:=S.ri a z;∎
 . obtain⟨n,o,q⟩:=S.od a z;rw[S.ag _ _ n q]at h;cases h
def BH.ph{K:Ap}{g:JN}(S:BH K cl g F H σ τ)(h:H a=AB):a∈g.P\/g.H0 a=AB:=by
 by_cases z:a∈g.P;.∎
 .cases q:g.H0 a with |none=>∎|some o=>rw[S.ag _ _ z q]at h;cases h
def BH.za{K:Ap}{g:JN}{σ:Az}{τ:List (Option AU)}(S:BH K cl g F H σ τ)(e:As H H'){w:Ab}(r:EJ K cl g.O F H H' w v)(hi:i<τ.length):∃F',BH K cl g F' H' (σ.set i (AA v)) (τ.set i (AA w.t))/\As (A1 g.O F H) (A1 g.O F' H'):=by obtain⟨E,G,I,L,Y⟩:=S.sl.dh i hi;cases w with |s d=> obtain⟨F',U,C,A⟩:=Y (FI (H':=H') e) (λa _ _ o h=>e _ _ h) S.nd (t':=.d d) ⟨r,rfl⟩;have sub:∀a∈F',a∈F:=∎;exact⟨F',⟨S.ag.ak e,S.od,λa D=>S.nw a (sub a D),∎,U.ag (DN sub) λa _ o h=>h,g.pm _ _ (HF (OI e ∎)) S.pn⟩,OI e ∎⟩|n t=>
 obtain⟨Fn,r1,r2,Z⟩:=r;have J:As (A1 g.O F H) (A1 g.O (Fn++F) H'):=OI e ∎;obtain⟨F',U,C,A⟩:=Y J (λa _ _ o h=>e _ _ h) S.nd r1;have sub:∀a∈F',a∈Fn++F:=∎;refine⟨F',⟨S.ag.ak e,S.od,λa D=>?_,A r2 λa D B=>absurd B (S.ao (Z a D)).1,U.ag (DN sub) λa _ o h=>h,g.pm _ _ (HF (J.ae (DN sub))) S.pn⟩,J.ae (DN sub)⟩;rcases Cb.mp (sub a D)with h|h;.exact S.ph (Z a h)
 .exact S.nw a h
def BH.dh{K:Ap}{g:JN}{τ:List (Option AU)}(S:BH K cl g F H σ τ)(hi:τ[i]?=AA (AA t)):∃v D,σ[i]?=AA (AA v)/\Bh K cl (A1 g.O F H) H t v D/\(∀a∈D,a∈F)/\D.Nodup/\∀{H':AR}{t':AU}{Fn:List AI},(∀a o,a∉D->H a=AA o->H' a=AA o)->(∀a∈Fn,a∈D\/H a=AB)->Fn.Nodup->(∀F',(∀a,a∈F'↔a∈F\/a∈Fn)->Bh K cl (A1 g.O F' H') H' t' v Fn)->∃F',BH K cl g F' H' σ (τ.set i (AA t')):=by
  have C:i<τ.length:=(EN.mp hi).1;obtain⟨D,J,I,L,M⟩:=S.sl.dh i C;obtain⟨v,W,G⟩:=L t hi;refine⟨v,D,W,G,J,I S.nd,λ{H' t' Fn}k Y E w=>?_⟩;have V:As (A1 g.O F H) (A1 g.O (Fn++F) H'):=λa o h=>by obtain⟨h1,h2,A⟩:=CU.mp h;refine CU.mpr ⟨h1,λz=>?_,k a o (λz=>h2 (J a z)) A⟩;∎
  obtain⟨F',Z,O,N⟩:=M V (λa _ z o h=>k a o z h) S.nd (w (Fn++F) λa=>by rw[Cb];exact Or.comm);have sub:∀a∈F',a∈Fn++F:=∎;have es:σ.set i (AA v)=σ:=by obtain⟨h1,h2⟩:=EN.mp W;rw[<-h2,gJ]
  rw[es]at Z;refine⟨F',λa o n h=>?_,S.od,λa U=>?_,N E λa U B=>?_,Z.ag (DN sub) λa _ o h=>h,g.pm _ _ (HF (V.ae (DN sub))) S.pn⟩
  . refine k a o (λz=>?_) (S.ag _ _ n h);rcases S.nw a (J a z)with y|y;.exact n y
    .rw[y]at h;cases h
  . rcases Cb.mp (sub a U)with h|h
    . rcases Y a h with z|z;.exact S.nw a (J a z)
      .exact S.ph z
    .exact S.nw a h
  . rcases Y a U with z|z;.exact z
    .exact absurd B (S.ao z).1
def BH.yj{K:Ap}{τ:List (Option AU)}(S:BH K cl g F H σ τ){t:AU}(hi:τ[i]?=AA (AA t))(U:t.fg=AA d):∃F',BH K cl g F' H σ (τ.set i (AA (.d d))):=by
 have Z:=(EN.mp hi).1;obtain⟨V,B,I,C,E⟩:=S.sl.dh i Z;obtain⟨v,Y,A⟩:=C t hi;have e0:As _ (A1 g.O (F.filter λa=>Af (a∉V)) H):=DN λa J=>(Ea.mp J).1;have G:=A.rp e0 U λa J o h=>CU.mpr ⟨(λz=>by
  obtain⟨n,o',q⟩:=S.od a z;rcases S.nw a (B a J)with y|y;.exact n y
  .rw[y]at q;cases q),λz=>by simp[J]at z,h⟩;obtain⟨F',W,L,M⟩:=E e0 (λa _ _ o h=>h) S.nd (t':=.d d) (Fn:=[]) ⟨G,rfl⟩;have es:σ.set i (AA v)=σ:=by obtain⟨h1,h2⟩:=EN.mp Y;rw[<-h2,gJ]
 rw[es]at W;have sub:∀a∈F',a∈F.filter λa=>Af (a∉V):=∎;exact⟨F',S.ag,S.od,λa J=>S.nw a (Ea.mp (sub a J)).1,∎,W.ag (DN sub) λa _ o h=>h,g.pm _ _ (HF (e0.ae (DN sub))) S.pn⟩
def EJ.rp{K:Ap}{g:JN}(S:BH K cl g F H σ τ)(e:As H H'){w:Ab}(r:EJ K cl g.O F H H' w v)(h:w.d=AA d):DY K (A1 g.O F H') d v:=by cases w with|s x=>cases∎;exact r|n t=>obtain⟨Fn,r1,r2,U⟩:=r;exact r1.rp (DN ∎) h λa J o q=>CU.mpr ⟨(S.ao (U a J)).2,(S.ao (U a J)).1,q⟩
def EJ.ow{K:Ap}{w:Ab}(r:EJ K cl O F H H' w v):∃F',Bh K cl (A1 O F H') H' w.t v F':=by cases w with|s x=>exact⟨[],r,rfl⟩|n t=>obtain⟨Fn,r1,r2,D⟩:=r;exact⟨Fn,r1.ag (DN ∎) λa _ o h=>h⟩
abbrev AM:=List (Option AU)
def A7(K:Ap)(cl:Nat->AI)(f:AM->Option Ab):A6:=λσ H Q=>∃g F τ w,BH K cl g F H σ τ/\f τ=AA w/\∀v H',As H H'->EJ K cl g.O F H H' w v->Q v H'
def A0(K:Ap)(cl:Nat->AI)(p:AM->Option AU):A6:=λσ H Q=>∃g F τ t,BH K cl g F H σ τ/\p τ=AA t/\∀v H' F',As H H'->Bh K cl (A1 g.O F H') H' t v F'->Q v H'
def DO(K:Ap)(cl:Nat->AI)(f:AM->Option Bool):Dk:=λσ H Q=>∃g F τ b,BH K cl g F H σ τ/\f τ=AA b/\∀H',As H H'->Q b H'
noncomputable def Mt(O:AI->Prop)(F B:List AI)(H:AR):AR:=A1 (λa=>(O a\/a∈F)/\a∉B) [] H
def Hf(K:Ap)(cl:Nat->AI)(f:AM->Option (Bool×List AN)):Eh:=λσ H Q=>∃g F τ b ds,BH K cl g F H σ τ/\f τ=AA (b,ds)/\∀vs H' B,As H H'->(b=AH->B=[])->(∀a∈B,a∈F)->Bd K (Mt g.O F B H') ds vs->Q vs H'
def EJ.gm{K:Ap}(e:As H H1)(r:EJ K cl O F H1 H' w v):EJ K cl O F H H' w v:=by cases w with|s x=>exact r|n t=>obtain⟨Fn,r1,r2,J⟩:=r;exact⟨Fn,r1,r2,λa D=>e.bh (J a D)⟩
def Bh.ak{K:Ap}(e:As H H')(h:Bh K cl (A1 O F H) H t v D):Bh K cl (A1 O F H') H' t v D:=h.ag (FI e) λa _ o q=>e _ _ q
def Ai(i:Nat):AM->Option AU:=λτ=>(τ[i]?).join
def AE{K:Ap}{X:BY}{x:AG}(i:Nat)(W:X.N[i]?=AA x:=by rfl)(Z:Ia X.aa.scope x:=by first|exact Or.inl rfl|exact Or.inr (Or.inl rfl)|exact Or.inr (Or.inr rfl))(Y:(x==("__debug__":AG))=AH:=by decide)(J:(x==("__classdict__":AG))=AH:=by decide):AV X (.Name x pos) (A0 K cl (Ai i)):=C8 (Jk i W Z Y J) λσ H Q⟨g,F,τ,t,S,D,k⟩=>by have D:=Lr.mp D;obtain⟨U,_,_,B,_⟩:=S.sl.dh i ∎;obtain⟨v,V,A⟩:=B t D;show Ji _ _;rw[V];exact k v H U (CQ _) A
def BW(p:AM->Option AU):AM->Option Ab:=λτ=>(p τ).bind λt=>match t with|.d d=>AA (.s d)|_=>AB
def AS{K:Ap}(h:AV X e (A0 K cl pa)):AV X e (A7 K cl (BW pa)):=C8 h λσ H Q⟨g,F,τ,w,S,U,k⟩=>by obtain⟨t,J,D⟩:=Am.mp U;cases t with|d d=>cases D;exact⟨g,F,τ,_,S,J,λv H' F' s o=>k v H' s o.1⟩|_=>cases D
def Bg(f:AM->Option Ab):AM->Option AU:=λτ=>(f τ).map Ab.t
def AF{K:Ap}(h:AV X e (A7 K cl fa)):AV X e (A0 K cl (Bg fa)):=C8 h λσ H Q⟨g,F,τ,t,S,J,k⟩=>by obtain⟨w,D,rfl⟩:=BK.mp J;refine⟨g,F,τ,w,S,D,λv H' s r=>?_⟩;obtain⟨F',o⟩:=r.ow;∎
def CC(w:Ab):AM->Option Ab:=λ_=>AA w
def Qt{K:Ap}(h:AV X e (Ln v))(r:∀G,DY K G d v):AV X e (A7 K cl (CC (.s d))):=C8 h λσ H Q⟨g,F,τ,w,S,J,k⟩=>by cases J;exact k v H (CQ _) (r _)
def AO{K:Ap}:AV X (.Constant (.int i) j pos) (A7 K cl (CC (.s (.i i)))):=Qt Lk λ_=>rfl
def Iu{K:Ap}:AV X (.Constant (.bool b) j pos) (A7 K cl (CC (.s (.b b)))):=Qt Pb λ_=>rfl
def Yq{K:Ap}:AV X (.Constant .none j pos) (A7 K cl (CC (.s .n))):=Qt ADB λ_=>rfl
def BA{K:Ap}:AV X (.Constant (.str x) j pos) (A7 K cl (CC (.s (.s x)))):=Qt d5 λ_=>rfl
def A9(op:AU->AU->Option α)(p q:AM->Option AU):AM->Option α:=λτ=>(p τ).bind λa=>(q τ).bind λb=>op a b
def GQ(K:Ap)(cl:Nat->AI)(r:Cy)(op:AU->AU->Option Ab):Prop:=∀{g:JN}{F:List AI}{H:AR}{σ:Az}{τ:AM}{a b:AU}{x y:AQ}{w:Ab}{D J:List AI}{Q:BZ},BH K cl g F H σ τ->Bh K cl (A1 g.O F H) H a x D->Bh K cl (A1 g.O F H) H b y J->op a b=AA w->(∀v H',As H H'->EJ K cl g.O F H H' w v->Q v H')->r x y H Q
def YD{K:Ap}(Z:GQ K cl r op)(h:A7 K cl (A9 op pa pb) σ H Q):MZ r (A0 K cl pa) (A0 K cl pb) σ H Q:=by obtain⟨g,F,τ,w,S,Y,k⟩:=h;obtain⟨a,D,J⟩:=Am.mp Y;obtain⟨b,U,V⟩:=Am.mp J;exact⟨g,F,τ,a,S,D,λx H1 C s1 A=>⟨g,F,τ,b,S.ak s1,U,λy H2 E s2 B=>Z ((S.ak s1).ak s2) (A.ak s2) B V λv H' s3 r=>k v H' (s1.ae (s2.ae s3)) (r.gm (s1.ae s2))⟩⟩
def OY{K:Ap}(U:CN X (Jw op) r)(V:GQ K cl r f)(D:AV X a (A0 K cl pa))(J:AV X b (A0 K cl pb)):AV X (.BinOp a op b pos) (A7 K cl (A9 f pa pb)):=C8 (Wj U D J) λ_ _ _=>YD V
def oC{K:Ap}(V:CN X (EI op) r)(Y:GQ K cl r f)(D:AV X a (A0 K cl pa))(J:AV X b (A0 K cl pb))(U:Jv op b=AH:=by first|exact Np _ (by decide) (by decide)|rfl):AV X (.Compare a [op] [b] pos) (A7 K cl (A9 f pa pb)):=C8 (AC3 V D J U) λ_ _ _=>YD Y
def DZ(f:AM->Option Ab):AM->Option Bool:=λτ=>(f τ).bind λw=>match w with|.s (.b k)=>AA k|_=>AB
def YF{K:Ap}(m:∀σ H Q,A7 K cl f σ H Q->te σ H Q)(h:DO K cl (DZ f) σ H Q):W2 te σ H Q:=by obtain⟨g,F,τ,b,S,U,k⟩:=h;obtain⟨w,J,D⟩:=Am.mp U;refine m σ H _ ⟨g,F,τ,w,S,J,λv H' s r=>?_⟩;match w,D,r with|.s (.b c),D,r=>cases D;exact⟨_,r,k H' s⟩
def LI{K:Ap}(V:CN X (EI op) r)(Y:GQ K cl r f)(D:AV X a (A0 K cl pa))(J:AV X b (A0 K cl pb))(U:Jv op b=AH:=by first|exact Np _ (by decide) (by decide)|rfl):Cq X (.Compare a [op] [b] pos) (DO K cl (DZ (A9 f pa pb))):=Pf (eJ V D J U) λ_ _ _=>YF λ_ _ _=>YD Y
inductive A8 where|nx(τ:AM)|rt(w:Ab)(τ:AM)|bk(τ:AM)|ct(τ:AM)|er
def QJ(K:Ap)(cl:Nat->AI)(g:JN)(F:List AI)(H:AR):Ab->AQ->Prop|.s d,v=>DY K (A1 g.O F H) d v|.n t,v=>∃F',Bh K cl (A1 g.O (F'++F) H) H t v F'/\F'.Nodup/\(∀a∈F',a∉F)/\∀a∈F',a∈g.P\/g.H0 a=AB
def FH(K:Ap)(cl:Nat->AI)(g:JN)(D:Fo):A8->Prop|.nx τ=>∀F H σ,BH K cl g F H σ τ->D.nx σ H|.bk τ=>∀F H σ,BH K cl g F H σ τ->D.bk σ H|.ct τ=>∀F H σ,BH K cl g F H σ τ->D.ct σ H|.rt w τ=>∀F H σ v,BH K cl g F H σ τ->QJ K cl g F H w v->D.rt v H|.er=>False
def Cv(K:Ap)(cl:Nat->AI)(G:AM->A8):Du:=λD σ H=>∃g F τ,BH K cl g F H σ τ/\FH K cl g D (G τ)
def mZ(h:DS X sts t)(m:∀D σ H,t' D σ H->t D σ H):DS X sts t':=λpins s σ H D I w=>h _ s σ H D I (m D σ H w)
def Gr(G G':AM->A8):AM->A8:=λτ=>match G τ with|.nx D=>G' D|o=>o
def Ag{K:Ap}{st:DE}(h:CY X st (Cv K cl G))(h':DS X sts (Cv K cl G')):DS X (st::sts) (Cv K cl (Gr G G')):=mZ (Jj h h') λD σ H⟨g,F,τ,S,o⟩=>by refine⟨g,F,τ,S,?_⟩;unfold Gr at o;cases e:G τ with|nx J=>rw[e]at o;exactλF' H' V U=>⟨g,F',J,U,o⟩|rt w J=>rw[e]at o;exact o|bk w=>rw[e]at o;exact o|ct w=>rw[e]at o;exact o|er=>rw[e]at o;exact o
def B6{K:Ap}:DS X [] (Cv K cl .nx):=mZ SK λD σ H⟨g,F,τ,S,o⟩=>o F H σ S
def An{K:Ap}{st:DE}(h:CY X st (Cv K cl G)):DS X [st] (Cv K cl G):=Ll h
def BH.fm{K:Ap}{g:JN}{σ:Az}{τ:AM}(S:BH K cl g F H σ τ)(e:As H H'){w:Ab}(r:EJ K cl g.O F H H' w v)(i:Nat):∃F',BH K cl g F' H' (σ.set i (AA v)) (τ.set i (AA w.t))/\As (A1 g.O F H) (A1 g.O F' H'):=by
 by_cases hi:i<τ.length;.exact S.za e r hi
 . rw[AJc (by rw[S.sl.ba];∎),AJc ∎];exact⟨F,S.ak e,FI e⟩
def Ir(i:Nat)(f:AM->Option Ab):AM->A8:=λτ=>match f τ with|AA w=>.nx (τ.set i (AA w.t))|AB=>.er
def Ay{K:Ap}{X:BY}{pos:Ce}(i:Nat)(V:X.N.Nodup)(W:AV X e (A7 K cl f))(hi:X.N[i]?=AA x:=by rfl)(A:JF X.aa.scope x:=by first|exact .inl rfl|exact .inr rfl)(Z:HY e (AA (.Name x pos')) pos.line X.aa=BC AH:=by rfl)(Y:X.fn x=AD\/X.aa.scope.names.lookup x=AA .local:=by first|exact .inl rfl|exact .inr rfl|∎):CY X (.Assign [.Name x pos'] e pos) (Cv K cl (Ir i f)):=FV (ADc i V W hi A Z Y) λD σ H⟨g,F,τ,S,o⟩=>by unfold Ir at o;cases J:f τ with|none=>rw[J]at o;exact o.elim|some w=>rw[J]at o;refine⟨g,F,τ,w,S,J,λv H' s r=>?_⟩;obtain⟨F',U,_⟩:=S.fm s r i;exact o F' H' _ U
def KC(q:AM->Option Bool)(G G':AM->A8):AM->A8:=λτ=>match q τ with|AA AD=>G τ|AA AH=>G' τ|AB=>.er
def Bo{K:Ap}(W:Cq X c (DO K cl q))(U:DS X a (Cv K cl G))(V:DS X b (Cv K cl G')):CY X (.If c a b pos) (Cv K cl (KC q G G')):=FV (Pe W U V) λD σ H⟨g,F,τ,S,o⟩=>by unfold KC at o;cases J:q τ with|none=>rw[J]at o;exact o.elim|some b=>rw[J]at o;refine⟨g,F,τ,b,S,J,λH' s=>?_⟩;cases b with|true=>exact⟨g,F,τ,S.ak s,o⟩|false=>exact⟨g,F,τ,S.ak s,o⟩
def EJ.yo{K:Ap}{g:JN}(S:BH K cl g F H σ τ)(r:EJ K cl g.O F H H' w v):QJ K cl g F H' w v:=by cases w with|s d=>exact r|n t=>obtain⟨Fn,r1,r2,J⟩:=r;exact⟨Fn,r1,r2,λa D=>(S.ao (J a D)).1,λa D=>S.ph (J a D)⟩
def Qr(f:AM->Option Ab):AM->A8:=λτ=>match f τ with|AA w=>.rt w τ|AB=>.er
def BX{K:Ap}(U:AV X e (A7 K cl f)):CY X (.Return (AA e) pos) (Cv K cl (Qr f)):=FV (MY U) λD σ H⟨g,F,τ,S,o⟩=>by unfold Qr at o;cases J:f τ with|none=>rw[J]at o;exact o.elim|some w=>rw[J]at o;exact⟨g,F,τ,w,S,J,λv H' s r=>o F H' σ v (S.ak s) (r.yo S)⟩
def AU.w:AU->Ab|.d x=>.s x|t=>.n t
def J2(τ:AM)(i:Nat):AM:=match(τ[i]?).join with|AA (.d x)=>τ|AA _=>τ.set i AB|AB=>τ
def E2.sy{K:Ap}:∀{τ:AM}{σ:Az}{F:List AI}{i:Nat}{t:AU},E2 K cl G H τ σ F->τ[i]?=AA (AA t)->∃v J U,σ[i]?=AA (AA v)/\Bh K cl G H t v J/\E2 K cl G H (τ.set i AB) σ U/\(∀a,a∈F↔a∈J\/a∈U)/\(F.Nodup->J.Nodup/\U.Nodup/\∀a∈J,a∉U)|[],_,_,_,_,_,e=>by cases e|AB::r,_,_,0,_,_,e=>by cases e|AA x::r,_,_,0,_,h,e=>by obtain⟨u,D,J,U,rfl,rfl,h2,V⟩:=h;cases e;exact⟨u,J,U,rfl,h2,⟨_,D,rfl,V⟩,∎,∎⟩|AB::r,_,_,i+1,_,h,e=>by obtain⟨u,D,rfl,V⟩:=h;obtain⟨v,J,U,W,Y,Z,A,B⟩:=E2.sy V e;exact⟨v,J,U,W,Y,⟨u,D,rfl,Z⟩,A,B⟩|AA x::r,_,_,i+1,_,h,e=>by obtain⟨u,D,C,Fr,rfl,rfl,h2,V⟩:=h;obtain⟨v,J,U,W,Y,Z,A,B⟩:=E2.sy V e;refine⟨v,J,_,W,Y,⟨u,D,C,U,rfl,rfl,h2,Z⟩,λa=>?_,λE=>?_⟩;all_goals∎
def BH.xf{K:Ap}(S:BH K cl g F H σ τ){t:AU}(h:τ[i]?=AA (AA t)):∃v F',σ[i]?=AA (AA v)/\BH K cl g F' H σ (J2 τ i)/\QJ K cl g F' H t.w v:=by
 obtain⟨v,Y,D,J,W,I,O,N⟩:=S.sl.sy h;have own:∀t',t.w=.n t'->t'=t->BH K cl g D H σ (τ.set i AB)/\QJ K cl g D H t.w v:=λt' A Z=>by subst Z;obtain⟨C,E,G⟩:=N S.nd;have sub:∀a∈D,a∈F:=∎;refine⟨⟨S.ag,S.od,λa V=>S.nw a (sub a V),E,I.ag (DN sub) λa _ o h=>h,g.pm _ _ (HF (DN sub)) S.pn⟩,?_⟩;rw[A];exact⟨Y,W.ag (DN ∎) λa _ o h=>h,C,G,λa V=>S.nw a ∎⟩
 cases t with |d x=>exact⟨v,F,J,by unfold J2;∎,W.1⟩|L l=>obtain⟨a,b⟩:=own _ rfl rfl;exact⟨v,D,J,by unfold J2;∎,b⟩|M ks l=>obtain⟨a,b⟩:=own _ rfl rfl;exact⟨v,D,J,by unfold J2;∎,b⟩|U l=>obtain⟨a,b⟩:=own _ rfl rfl;exact⟨v,D,J,by unfold J2;∎,b⟩|B c fs l=>obtain⟨a,b⟩:=own _ rfl rfl;exact⟨v,D,J,by unfold J2;∎,b⟩|R k t=>obtain⟨a,b⟩:=own _ rfl rfl;exact⟨v,D,J,by unfold J2;∎,b⟩|H k=>obtain⟨a,b⟩:=own _ rfl rfl;exact⟨v,D,J,by unfold J2;∎,b⟩
def Qs(i:Nat):AM->A8:=λτ=>match(τ[i]?).join with|AA t=>.rt t.w (J2 τ i)|AB=>.er
def Hi{K:Ap}{X:BY}{x:AG}(i:Nat)(Y:X.N[i]?=AA x:=by rfl)(A:Ia X.aa.scope x:=by first|exact Or.inl rfl|exact Or.inr (Or.inl rfl)|exact Or.inr (Or.inr rfl))(Z:(x==("__debug__":AG))=AH:=by decide)(U:(x==("__classdict__":AG))=AH:=by decide):CY X (.Return (AA (.Name x p)) pos) (Cv K cl (Qs i)):=FV (MY (Jk i Y A Z U)) λD σ H⟨g,F,τ,S,o⟩=>by unfold Qs at o;cases J:(τ[i]?).join with|none=>rw[J]at o;exact o.elim|some t=>rw[J]at o;obtain⟨v,F',W,V,r⟩:=S.xf (Lr.mp J);show Ji _ _;rw[W];exact o F' H σ v V r
def MC(i:Nat)(τ:AM):AM:=match(τ[i]?).join.bind AU.fg with|AA d=>τ.set i (AA (.d d))|AB=>τ
def KD(is:List Nat)(G:AM->A8):AM->A8:=λτ=>G (is.foldl (λτ i=>MC i τ) τ)
def BH.xq{K:Ap}:∀(is:List Nat){F:List AI}{τ:AM},BH K cl g F H σ τ->∃F',BH K cl g F' H σ (is.foldl (λτ i=>MC i τ) τ)
 |[],F,_,S=>⟨F,S⟩|i::r,F,τ,S=>by
  have:∃F',BH K cl g F' H σ (MC i τ):=by
   unfold MC;split
   . rename_i d h;obtain⟨t,h1,h2⟩:=Am.mp h;exact S.yj ∎ h2
   ∎
  obtain⟨F',D⟩:=this;exact BH.xq r D
def Bm{K:Ap}{st:DE}(is:List Nat)(h:CY X st (Cv K cl G)):CY X st (Cv K cl (KD is G)):=FV h λD σ H⟨g,F,τ,S,o⟩=>by obtain⟨F',J⟩:=S.xq is;exact⟨g,F',_,J,o⟩
def J8(K:Ap)(cl:Nat->AI)(f:List AN->Option Ab):Ex:=λvs H Q _=>∃O ds w,(∀a,O a->∃o,H a=AA o)/\Bd K (A1 O [] H) ds vs/\f ds=AA w/\∀v H',As H H'->EJ K cl O [] H H' w v->Q v H'
def By(N:Nat)(G:AM->A8)(n:Nat):List AN->Option Ab:=λds=>if ds.length=n then match G (ds.map (λd=>AA (.d d))++GL (N-n) AB)with|.rt w _=>AA w|.nx _=>AA (.s .n)|_=>AB else AB
def Bd.ba{K:Ap}:∀{ds:List AN}{vs:List AQ},Bd K G ds vs->vs.length=ds.length|[],_,h=>by rw[show _=[]from h];rfl|d::r,_,h=>by obtain⟨v,ys,rfl,_,J⟩:=h;exact AMw _ (Bd.ba J)
def kJ{K:Ap}:∀{ds:List AN}{vs:List AQ},Bd K G ds vs->E2 K cl G H (ds.map (λd=>AA (.d d))++GL m AB) (vs.map AA++GL m AB) []
 |[],_,h=>by cases∎;induction m with|zero=>exact⟨rfl,rfl⟩|succ m U=>exact⟨_,_,rfl,U⟩
 |d::r,_,h=>by obtain⟨v,ys,rfl,h2,J⟩:=h;exact⟨v,_,[],[],rfl,rfl,⟨h2,rfl⟩,kJ J⟩
def QJ.yy{K:Ap}(r:QJ K cl ⟨J,O,[],D,U⟩ F H w v):EJ K cl O [] J H w v:=by cases w with|s d=>exact DY.ag (DN ∎) r|n t=>obtain⟨Fn,r1,r2,Y,Z⟩:=r;exact⟨Fn,r1.ag (DN ∎) λa _ o h=>h,r2,∎⟩
def Ua{K:Ap}{st:DE}{N ps:List AG}(F:Ew K x qual st f fd)(S:HP N ps (Bz st))(h:∀(D:AJ)(A:Ci)(outer:List DT)(s:AX)(H:AR)(E:FU),CP k (A.deeper (Fu qual (Bz st) s.heap.objs.size f D))->DS (EZ G4 P w K mg base N qual (Bz st) f D A outer s H E).uf (Lc st) (Cv K cl G)):Dr P w K mg base G4 (k+1) f fd ps (J8 K cl (By N.length G ps.length)):=by
  refine F.ok S (λvs H Q E⟨O,ds,w,_,r,e,_⟩=>?_) λD A outer s H vs Q E Y⟨O,ds,w,Z,r,e,q⟩=>⟨_,h D A outer s H E Y,?_⟩
  . unfold By at e;by_cases z:ds.length=ps.length;.rw[r.ba,z]
    ∎
  . unfold By at e;by_cases z:ds.length=ps.length
    . rw[AMu z]at e;refine⟨⟨H,O,[],λ_=>True,∎⟩,[],ds.map (λd=>AA (.d d))++GL (N.length-ps.length) AB,⟨λ_ _ _ h=>h,∎,∎,Ft,?_,trivial⟩,?_⟩
      . have:=kJ (cl:=cl) (H:=H) (m:=N.length-ps.length) r;unfold Lm;rw[r.ba,z];∎
      .cases W:G _ with |rt B V=>rw[W]at e;cases e;exactλF' H' U v J r=>q v H' (λa o h=>J.ag a o ∎ h) r.yy|nx V=>rw[W]at e;cases e;exactλF' H' U J=>q .non H' (λa o h=>J.ag a o ∎ h) rfl|bk _=>∎|ct _=>∎|er=>∎
    ∎
def E3{α:Type}{c:Prop}{_:Decidable c}{x y:α}(h:(if c then AA x else AB)=AA y):c/\x=y:=by grind
def lG:A1 (λa=>O a\/a∈F) F' H=A1 O (F'++F) H:=by unfold A1;∎
def QS:Mt O F B H a=AA o↔((O a\/a∈F)->a∈B)/\H a=AA o:=by unfold Mt;rw[CU];∎
def lF:As (A1 O F H) (Mt O F B H):=λa o h=>by obtain⟨h1,h2,D⟩:=CU.mp h;exact QS.mpr ∎
def AHF(e:As H H')(s:∀a∈B,a∈D):As (Mt O F B H) (Mt O F D H'):=λa o h=>by obtain⟨h1,h2⟩:=QS.mp h;exact QS.mpr ⟨∎,e _ _ h2⟩
def Tu:As (Mt O F [] H) (A1 O F H):=λa o h=>by obtain⟨h1,h2⟩:=QS.mp h;exact CU.mpr ∎
def C9:AM->Option (Bool×List AN):=λ_=>AA (AH,[])
def BU(f:AM->Option Ab)(fs:AM->Option (Bool×List AN)):AM->Option (Bool×List AN):=λτ=>(f τ).bind λw=>w.d.bind λd=>(fs τ).map λr=>(r.1,d::r.2)
def UP(p:AM->Option AU)(fs:AM->Option (Bool×List AN)):AM->Option (Bool×List AN):=λτ=>(p τ).bind λt=>t.fg.bind λd=>(fs τ).map λr=>(r.1||(match t with|.d _=>AH|_=>AD),d::r.2)
def YU(h:C7 X es t)(m:∀σ H Q,t' σ H Q->t σ H Q):C7 X es t':=λpos pins s σ H Q I w=>h _ _ s σ H Q I (m σ H Q w)
def AZ{K:Ap}:C7 X [] (Hf K cl C9):=YU GI λσ H Q⟨g,F,τ,b,ds,S,D,k⟩=>by cases D;exact k [] H [] (CQ _) (λ_=>rfl) ∎ rfl
def AK{K:Ap}{X:BY}(E:AV X e (A7 K cl fa))(I:C7 X es (Hf K cl fs))(L:Ah (e::es) X.aa=(AH,Ar e X.aa)::Ah es X.aa:=by rfl):C7 X (e::es) (Hf K cl (BU fa fs)):=YU (D9 E I L) λσ H Q⟨g,F,τ,b,ds,S,A,k⟩=>by obtain⟨w,J,U⟩:=Am.mp A;obtain⟨d,V,W⟩:=Am.mp U;obtain⟨⟨D,r⟩,Y,Z⟩:=BK.mp W;obtain⟨rfl,rfl⟩:=Mg Z;refine⟨g,F,τ,w,S,J,λv H1 s1 r1=>⟨g,F,τ,D,r,S.ak s1,Y,λvs H2 B s2 G C r2=>k _ H2 B (s1.ae s2) G C ⟨v,vs,rfl,?_,r2⟩⟩⟩;exact(r1.rp S s1 V).ag ((FI s2).ae lF)
def n9{K:Ap}{X:BY}{x:AG}(i:Nat)(T:C7 X es (Hf K cl fs))(O:X.N[i]?=AA x:=by rfl)(e:Ia X.aa.scope x:=by first|exact Or.inl rfl|exact Or.inr (Or.inl rfl)|exact Or.inr (Or.inr rfl))(R:(x==("__debug__":AG))=AH:=by decide)(V:(x==("__classdict__":AG))=AH:=by decide)(c:Ah (.Name x pos::es) X.aa=(AH,Ar (.Name x pos) X.aa)::Ah es X.aa:=by rfl):C7 X (.Name x pos::es) (Hf K cl (UP (Ai i) fs)):=YU (D9 (Jk i O e R V) T c) λσ H Q⟨g,F,τ,b,ds,S,M,k⟩=>by
 obtain⟨t,D,A⟩:=Am.mp M;obtain⟨d,C,E⟩:=Am.mp A;obtain⟨⟨Z,r⟩,G,I⟩:=BK.mp E;obtain⟨J,L⟩:=Mg I;subst L;have D:=Lr.mp D;obtain⟨Y,l,_,f,_⟩:=S.sl.dh i (EN.mp D).1;obtain⟨v,N,W⟩:=f t D;show Ji _ _;rw[N];refine⟨g,F,τ,Z,r,S,G,λvs H2 B s2 P j r2=>?_⟩;refine k _ H2 (Y++B) s2 (λz=>?_) ∎ ⟨v,vs,rfl,?_,r2.ag (AHF (CQ _) λa U=>Dl _ U)⟩
 . rw[z]at J;cases t with|d x=>rw[W.2,P (by simpa using J)];rfl|_=>simp at J
 .exact(W.ak s2).rp lF C λa U o h=>QS.mpr ⟨λ_=>GK _ U,h⟩
def AN.nh:AN->Bool|.t _|.l _|.m _ _=>AH|_=>AD
def Ab.nh:Ab->Bool|.s d=>d.nh|.n _=>AH
def AGy{K:Ap}{d:AN}(h:d.nh=AD)(r:DY K G d v):DY K G' d v:=by cases d with|n=>exact r|b x=>exact r|i x=>exact r|s x=>exact r|_=>cases h
def DP(f:List AN->Option Ab)(fs:AM->Option (Bool×List AN)):AM->Option Ab:=λτ=>(fs τ).bind λr=>(f r.2).bind λw=>if r.1=AH\/w.nh=AD then AA w else AB
def NB{K:Ap}{X:BY}{x:AG}(C:LY X.af X.w X.K X.mg X.ai k f fd ps (J8 K cl fn) x)(P:CP n X.A)(J:C7 X (e::es) (Hf K cl fs))(hn:k<=n:=by decide)(O:CG X x:=by rfl)(U:(x==("__debug__":AG))=AH:=by decide)(N:Ah (e::es) X.aa=(AH,Ar e X.aa)::Ah es X.aa:=by rfl)(V:(Bx pos (Ah es X.aa)).any (·.1)=AH:=by rfl):AV X (.Call (.Name x p) (e::es) [] pos) (A7 K cl (DP fn fs)):=C8 (Wh C P J hn O U N V) λσ H Q⟨g,F,τ,w,S,L,q⟩=>by
  obtain⟨⟨b,ds⟩,A,E⟩:=Am.mp L;obtain⟨Z,G,I⟩:=Am.mp E;obtain⟨c,rfl⟩:=E3 I;refine⟨g,F,τ,b,ds,S,A,λvs H1 B s1 Y j r=>?_⟩;refine⟨_,ds,Z,λa J=>?_,by rw[Ek];exact r,G,λv H' s r'=>q v H' (s1.ae s) (EJ.gm s1 ?_)⟩
  . rcases J.1 with J|J;. obtain⟨n,o,h⟩:=S.od a J;exact⟨o,s1 _ _ (S.ag _ _ n h)⟩
    . obtain⟨o,h⟩:=S.ri a J;exact⟨o,s1 _ _ h⟩
  .cases Z with |s d=>
      rcases c with c|c
      . cases Y c;exact DY.ag Tu r'
      .exact AGy c r'|n t=>
      rcases c with c|c
      . cases Y c;obtain⟨Fn,R,T,i⟩:=r';refine⟨Fn,R.ag (λa o h=>?_) λa _ o h=>h,T,i⟩;obtain⟨h1,h2,M⟩:=CU.mp h;rw[Ek]at h2;refine CU.mpr ⟨λz=>h1 ⟨.inl z,(nomatch.)⟩,λz=>?_,M⟩;rcases Cb.mp z with z|z;.exact h2 z
        .exact h1 ⟨.inr z,(nomatch.)⟩
      .cases c
def M1{K:Ap}:∀{ds:List AN}{vs:List AQ},Bd K G ds vs->Cu K cl G H (ds.map .d) vs []|[],_,h=>⟨h,rfl⟩|d::r,_,h=>by obtain⟨v,ys,rfl,h2,J⟩:=h;exact⟨v,ys,[],[],rfl,rfl,⟨h2,rfl⟩,M1 J⟩
def He{K:Ap}{ds:List AN}(J:H q=AB)(r:Bd K (A1 O F H) ds xs):EJ K cl O F H (Ax H q (.lst xs)) (.n (.L (ds.map .d))) (.ref q):=⟨[q],⟨q,xs,[],rfl,rfl,Dh,M1 (r.ag (OI (Df J) ∎))⟩,∎,∎⟩
def UQ(fs:AM->Option (Bool×List AN)):AM->Option Ab:=λτ=>(fs τ).bind λr=>if r.1=AH/\r.2.length<=AY then AA (.n (.L (r.2.map .d)))else AB
def CL{K:Ap}(h:C7 X es (Hf K cl fs)):AV X (.List es pos) (A7 K cl (UQ fs)):=C8 (d3 h) λσ H Q⟨g,F,τ,w,S,Y,q⟩=>by obtain⟨⟨b,ds⟩,V,W⟩:=Am.mp Y;obtain⟨⟨J,U⟩,rfl⟩:=E3 W;exact⟨g,F,τ,b,ds,S,V,λvs H1 B s1 Z A r=>⟨by rw[r.ba];exact U,λp D=>q _ _ (s1.ae (Df D)) ((He D (by cases Z J;exact r.ag Tu)).gm s1)⟩⟩
def US(fs:AM->Option (Bool×List AN)):AM->Option Ab:=λτ=>(fs τ).bind λr=>if r.1=AH/\r.2.length<=AY then AA (.s (.t r.2))else AB
def CM{K:Ap}(h:C7 X es (Hf K cl fs)):AV X (.Tuple es E pos) (A7 K cl (US fs)):=C8 (d6 h) λσ H Q⟨g,F,τ,w,S,Y,q⟩=>by
 obtain⟨⟨b,ds⟩,V,W⟩:=Am.mp Y;obtain⟨⟨J,U⟩,rfl⟩:=E3 W;refine⟨g,F,τ,b,ds,S,V,λvs H1 B s1 Z G r=>⟨by rw[r.ba];exact U,λp D=>q _ _ (s1.ae (Df D)) ⟨p,vs,rfl,Jg ?_,?_⟩⟩⟩;. obtain⟨A,C⟩:=(S.ak s1).ao D;exact CU.mpr ⟨C,A,Dh⟩
 . cases Z J;exact(r.ag Tu).ag (FI (Df D))
def Mp(h:CN X fn r)(h':CN X fn r'):CN X fn (λx y H Q=>r x y H Q\/r' x y H Q):=λpins s σ H x y v u Q I D J q=>q.elim (h _ s σ H x y v u Q I D J) (h' _ s σ H x y v u Q I D J)
def JP(f D:AU->AU->Option Ab):AU->AU->Option Ab:=λa b=>match f a b with|AA w=>AA w|AB=>D a b
def Td{K:Ap}(h:GQ K cl r f)(h':GQ K cl r' D):GQ K cl (λx y H Q=>r x y H Q\/r' x y H Q) (JP f D):=λ{g F H σ τ a b x y w V Y Q}S J U e k=>by unfold JP at e;cases q:f a b with|some z=>exact .inl (h S J U q ∎)|none=>rw[q]at e;exact .inr (h' S J U e k)
def F9(f:Int->Int->Option AN):AU->AU->Option Ab|.d (.i i),.d (.i j)=>(f i j).map .s|_,_=>AB
def T2{K:Ap}(Y:∀i j d,f i j=AA d->C i j/\∀G,DY K G d (gV i j)):GQ K cl (Nr C gV) (F9 f):=λ{g F H σ τ a b x y w Z A Q}S J U e k=>by match a,b,e,J,U with|.d (.i i),.d (.i j),e,J,U=>obtain⟨d,W,rfl⟩:=BK.mp e;obtain⟨c,r⟩:=Y i j d W;exact⟨i,j,J.1,U.1,c,k _ H (CQ _) (r _)⟩
def OL{K:Ap}{cl:Nat->AI}{gV:Int->Int->AQ}{f:Int->Int->AN}(W:∀i j G,DY K G (f i j) (gV i j)):GQ K cl (Gf gV) (F9 λi j=>AA (f i j)):=λ{g F H σ τ a b x y w Y Z Q}S J U e k=>by match a,b,e,J,U with|.d (.i i),.d (.i j),e,J,U=>cases e;exact⟨i,j,J.1,U.1,k _ H (CQ _) (W _ _ _)⟩
abbrev mL:=F9 λi j=>AA (.i (i-j))
abbrev LG:=F9 λi j=>if(-(2^64)<i/\i<2^64)\/(-(2^64)<j/\j<2^64)then AA (.i (i*j))else AB
abbrev mC:=F9 λi j=>if 0<j/\j<1073741824 then AA (.i (i/j))else AB
abbrev YR:=F9 λi j=>if 0<j then AA (.i (i%j))else AB
abbrev YO:=F9 λi j=>AA (.b (Af (i<j)))
abbrev AHm:=F9 λi j=>AA (.b (Af (i<=j)))
abbrev mF:=F9 λi j=>AA (.b (Af (j<i)))
def FK{K:Ap}(D:AV X a (A0 K cl pa))(J:AV X b (A0 K cl pb)):AV X (.BinOp a .Sub b pos) (A7 K cl (A9 mL pa pb)):=OY dR (OL (f:=λi j=>.i _) λ_ _ _=>rfl) D J
def Ed{K:Ap}(D:AV X a (A0 K cl pa))(J:AV X b (A0 K cl pb)):AV X (.BinOp a .Mult b pos) (A7 K cl (A9 LG pa pb)):=OY ACq (T2 λi j d h=>by obtain⟨h1,rfl⟩:=E3 h;exact⟨h1,λ_=>rfl⟩) D J
def B0{K:Ap}(D:AV X a (A0 K cl pa))(J:AV X b (A0 K cl pb)):AV X (.BinOp a .FloorDiv b pos) (A7 K cl (A9 mC pa pb)):=OY ACl (T2 λi j d h=>by obtain⟨h1,rfl⟩:=E3 h;exact⟨h1,λ_=>rfl⟩) D J
def Bb{K:Ap}(D:AV X a (A0 K cl pa))(J:AV X b (A0 K cl pb)):AV X (.BinOp a .Mod b pos) (A7 K cl (A9 YR pa pb)):=OY ACp (T2 λi j d h=>by obtain⟨h1,rfl⟩:=E3 h;exact⟨h1,λ_=>rfl⟩) D J
def Ob{K:Ap}(D:AV X a (A0 K cl pa))(J:AV X b (A0 K cl pb)):Cq X (.Compare a [.Lt] [b] pos) (DO K cl (DZ (A9 YO pa pb))):=LI SE (OL (f:=λi j=>(.b _)) λ_ _ _=>rfl) D J
def AIe{K:Ap}(D:AV X a (A0 K cl pa))(J:AV X b (A0 K cl pb)):Cq X (.Compare a [.LtE] [b] pos) (DO K cl (DZ (A9 AHm pa pb))):=LI dO (OL (f:=λi j=>(.b _)) λ_ _ _=>rfl) D J
def Uc{K:Ap}(D:AV X a (A0 K cl pa))(J:AV X b (A0 K cl pb)):Cq X (.Compare a [.Gt] [b] pos) (DO K cl (DZ (A9 mF pa pb))):=LI ACm (OL (f:=λi j=>(.b _)) λ_ _ _=>rfl) D J
def Yb(q:AM->Option Bool):AM->Option Bool:=λτ=>(q τ).map (!.)
def JU{K:Ap}(U:Cq X a (DO K cl qa)):Cq X (.UnaryOp .Not a pos) (DO K cl (Yb qa)):=Pf (Wm U) λσ H Q⟨g,F,τ,b,S,J,k⟩=>by obtain⟨c,D,rfl⟩:=BK.mp J;exact⟨g,F,τ,c,S,D,k⟩
def Ya(q r:AM->Option Bool):AM->Option Bool:=λτ=>(q τ).bind λc=>if c=AD then r τ else AA AH
def nC(q r:AM->Option Bool):AM->Option Bool:=λτ=>(q τ).bind λc=>if c=AD then AA AD else r τ
def m8(h:Hv X e t)(hw:∀σ H Q,t' σ H Q->t σ H Q):Hv X e t':=λD pins s σ H Q I q=>h D _ s σ H Q I (hw σ H Q q)
def Oc{K:Ap}(V:Cq X a (DO K cl qa))(W:Hv X (.BoolOp .And (b::rest) pos) (DO K cl qb)):Hv X (.BoolOp .And (a::b::rest) pos) (DO K cl (Ya qa qb)):=m8 (ADg V W) λσ H Q⟨g,F,τ,b,S,U,k⟩=>by obtain⟨c,D,J⟩:=Am.mp U;refine⟨g,F,τ,c,S,D,λH1 s1=>?_⟩;cases c with|true=>exact⟨g,F,τ,b,S.ak s1,J,λH2 s2=>k H2 (s1.ae s2)⟩|false=>∎
def Iz{K:Ap}(V:Cq X a (DO K cl qa))(W:Hv X (.BoolOp .Or (b::rest) pos) (DO K cl qb)):Hv X (.BoolOp .Or (a::b::rest) pos) (DO K cl (nC qa qb)):=m8 (ADh V W) λσ H Q⟨g,F,τ,b,S,U,k⟩=>by obtain⟨c,D,J⟩:=Am.mp U;refine⟨g,F,τ,c,S,D,λH1 s1=>?_⟩;cases c with|true=>∎|false=>exact⟨g,F,τ,b,S.ak s1,J,λH2 s2=>k H2 (s1.ae s2)⟩
def Iy{K:Ap}{X:BY}{e:BE}(h:AV X e (A7 K cl fa))(J:∀D,P2 e X.aa D=(do let v<-D;Xd e.pos;Xb [v] (truthy v)):=by intro _;rfl):Cq X e (DO K cl (DZ fa)):=Pf (SM h J) λσ H Q h=>YF ∎ h
def AH7(f:AM->Option Ab):AM->Option Ab:=λτ=>(DZ f τ).map λb=>.s (.b !b)
def Yh(f h:AM->Option Ab):AM->Option Ab:=λτ=>(DZ f τ).bind λc=>if c=AD then h τ else AA (.s (.b AH))
def kM(h:DZ f τ=AA b):f τ=AA (.s (.b b)):=by obtain⟨w,D,J⟩:=Am.mp h;∎
def oJ{K:Ap}(U:AV X a (A7 K cl fa)):AV X (.UnaryOp .Not a pos) (A7 K cl (AH7 fa)):=C8 (ADC U) λσ H Q⟨g,F,τ,w,S,J,k⟩=>by obtain⟨c,D,rfl⟩:=BK.mp J;exact⟨g,F,τ,_,S,kM D,λv H1 s1 r=>⟨c,r,k _ H1 s1 rfl⟩⟩
def Yn{K:Ap}(V:AV X a (A7 K cl fa))(W:AV X (.BoolOp .And (b::rest) pos) (A7 K cl fb)):AV X (.BoolOp .And (a::b::rest) pos) (A7 K cl (Yh fa fb)):=C8 (ACx V W) λσ H Q⟨g,F,τ,w,S,U,k⟩=>by obtain⟨c,J,D⟩:=Am.mp U;refine⟨g,F,τ,_,S,kM J,λv H1 s1 r=>⟨c,r,?_⟩⟩;cases c with|true=>exact⟨g,F,τ,w,S.ak s1,D,λv H2 s2 r=>k v H2 (s1.ae s2) (r.gm s1)⟩|false=>cases D;exact k _ H1 s1 rfl
def n6(q:AM->Option Bool)(f h:AM->Option Ab):AM->Option Ab:=λτ=>(q τ).bind λc=>if c=AD then f τ else h τ
def UX{K:Ap}(Z:Cq X c (DO K cl qa))(W:AV X a (A7 K cl fa))(Y:AV X b (A7 K cl fb)):AV X (.IfExp c a b pos) (A7 K cl (n6 qa fa fb)):=C8 (AC8 Z W Y) λσ H Q⟨g,F,τ,w,S,V,k⟩=>by obtain⟨c,U,D⟩:=Am.mp V;refine⟨g,F,τ,c,S,U,λH1 s1=>?_⟩;have J:∀v H2,As H1 H2->EJ K cl _ F H1 H2 w v->Q v H2:=λv H2 s2 r=>k v H2 (s1.ae s2) (r.gm s1);cases c with|true=>show if AD=AD then _ else _;exact⟨g,F,τ,w,S.ak s1,D,J⟩|false=>show if AH=AD then _ else _;exact⟨g,F,τ,w,S.ak s1,D,J⟩
def Xs(K:Ap)(cl:Nat->AI)(r:Cy)(op:AU->AU->Option AU):Prop:=∀{G H:AR}{a b:AU}{x y:AQ}{w:AU}{D J:List AI}{Q:BZ},As G H->Bh K cl G H a x D->Bh K cl G H b y J->op a b=AA w->(∀v F',Bh K cl G H w v F'->Q v H)->r x y H Q
def Bd.at{K:Ap}:∀{ds:List AN}{vs:List AQ}{j:Nat}{d:AN},Bd K G ds vs->ds[j]?=AA d->∃v,vs[j]?=AA v/\DY K G d v|[],_,_,_,_,e=>by cases e|d::r,_,0,_,h,e=>by obtain⟨v,ys,rfl,h2,J⟩:=h;∎|d::r,_,j+1,_,h,e=>by obtain⟨v,ys,rfl,h2,J⟩:=h;exact Bd.at (j:=j) J e
def Cu.at{K:Ap}:∀{ts:List AU}{vs:List AQ}{F:List AI}{j:Nat}{t:AU},Cu K cl G H ts vs F->ts[j]?=AA t->∃v F',vs[j]?=AA v/\Bh K cl G H t v F'|[],_,_,_,_,_,e=>by cases e|t::r,_,_,0,_,h,e=>by obtain⟨v,ys,J,U,rfl,rfl,h2,D⟩:=h;∎|t::r,_,_,j+1,_,h,e=>by obtain⟨v,ys,J,U,rfl,rfl,h2,D⟩:=h;exact Cu.at (j:=j) D e
def Cu.ba{K:Ap}:∀{ts:List AU}{vs:List AQ}{F:List AI},Cu K cl G H ts vs F->vs.length=ts.length|[],_,_,h=>by rw[h.1];rfl|t::r,_,_,h=>by obtain⟨v,ys,J,U,rfl,rfl,h2,D⟩:=h;exact AMw _ (Cu.ba D)
def Th{l:List α}{m:List β}(h:m.length=l.length)(e:CJ l i=AA x):∃j:Nat,l[j]?=AA x/\∀y,m[j]?=AA y->CJ m i=AA y:=by unfold CJ at e⊢;obtain⟨j,D,J⟩:=Am.mp e;∎
def B9:AU->AU->Option AU|.d (.t l),.d (.i k)=>(CJ l k).map .d|.d (.l l),.d (.i k)=>(CJ l k).map .d|.d (.s z),.d (.i k)=>if z.length<=AY then(CJ z.cps.toList k).map λc=>.d (.s ⟨#[c]⟩)else AB|.L l,.d (.i k)=>CJ l k|.U l,.d (.i k)=>CJ l k|_,_=>AB
def AHS{K:Ap}:Xs K cl (Wo K) B9:=λ{G H a b x y w C E Q}e D J h k=>by match a,b,h,D,J with
 |.d (.t l),.d (.i i),h,D,J=> obtain⟨⟨a,xs,rfl,q,r⟩,_⟩:=D;obtain⟨d,A,rfl⟩:=BK.mp h;obtain⟨j,V,W⟩:=Th r.ba A;obtain⟨v,Y,Z⟩:=r.at V;exact .inr (.inl ⟨a,xs,i,v,rfl,J.1,Fe e q,W v Y,k v [] ⟨Z,rfl⟩⟩)|.d (.l l),.d (.i i),h,D,J=> obtain⟨⟨a,xs,rfl,q,r⟩,_⟩:=D;obtain⟨d,A,rfl⟩:=BK.mp h;obtain⟨j,V,W⟩:=Th r.ba A;obtain⟨v,Y,Z⟩:=r.at V;exact .inl ⟨a,xs,i,v,rfl,J.1,Gp e q,W v Y,k v [] ⟨Z,rfl⟩⟩|.d (.s z),.d (.i i),h,D,J=>
  by_cases hz:z.length<=AY
  . rw[show B9 (.d (.s z)) (.d (.i i))=(CJ _ i).map _ from AMu hz]at h;obtain⟨c,A,rfl⟩:=BK.mp h;exact .inr (.inr ⟨z,i,c,D.1,J.1,hz,A,k _ [] ⟨rfl,rfl⟩⟩)
  .rw[show B9 (.d (.s z)) (.d (.i i))=AB from AMv hz]at h;cases h|.L l,.d (.i i),h,D,J=> obtain⟨a,xs,F',rfl,rfl,q,r⟩:=D;obtain⟨j,V,W⟩:=Th r.ba h;obtain⟨v,B,Y,Z⟩:=r.at V;exact .inl ⟨a,xs,i,v,rfl,J.1,Lb q,W v Y,k v B Z⟩|.U l,.d (.i i),h,D,J=>obtain⟨a,xs,rfl,q,r⟩:=D;obtain⟨j,V,W⟩:=Th r.ba h;obtain⟨v,B,Y,Z⟩:=r.at V;exact .inr (.inl ⟨a,xs,i,v,rfl,J.1,Jg (e _ _ q),W v Y,k v B Z⟩)
def lV{K:Ap}(Y:Xs K cl r op)(h:A0 K cl (A9 op pa pb) σ H Q):MZ r (A0 K cl pa) (A0 K cl pb) σ H Q:=by obtain⟨g,F,τ,w,S,W,k⟩:=h;obtain⟨a,D,J⟩:=Am.mp W;obtain⟨b,U,V⟩:=Am.mp J;exact⟨g,F,τ,a,S,D,λx H1 B s1 Z=>⟨g,F,τ,b,S.ak s1,U,λy H2 C s2 A=>Y Bu (Z.ak s2) A V λv F' o=>k v H2 F' (s1.ae s2) o⟩⟩
def Ac{K:Ap}{X:BY}(J:AV X a (A0 K cl pa))(U:AV X b (A0 K cl pb))(V:WC b:=by exactλ_ _=>rfl)(D:X.K=K:=by rfl):AV X (.Subscript a b pos) (A0 K cl (A9 B9 pa pb)):=C8 (dZ (AB0 D) J U V) λ_ _ _=>lV AHS
def Xr(K:Ap)(J:G5)(U:AR->Prop)(ds:List AN):Prop:=∀(O:AI->Prop)(F:List AI)(H:AR),(∀a,O a\/a∈F->∃o,H a=AA o)->U (A1 O F H)->J.oh ds.length H/\∀i d,ds[i]?=AA d->J.go i H/\∀x H',J.uz i H x H'->As H H'/\DY K (A1 O F H') d x
def J9(K:Ap)(cl:Nat->AI)(f:AM->Option (List AN)):G7:=λσ H R=>∃g F τ ds,BH K cl g F H σ τ/\f τ=AA ds/\∀J H' U,As H H'->(∀G G',Gn G G'->U G->U G')->U (A1 g.O F H')->Xr K J U ds->R J H'
def JR(K:Ap)(cl:Nat->AI)(m:AN->AM->Option AM):GH:=λv σ H Q=>∃g F τ d U,BH K cl g F H σ τ/\DY K (A1 g.O F H) d v/\m d τ=AA U/\∀F' J,BH K cl g F' H J U->Q J H
def OR(K:Ap)(cl:Nat->AI)(m:List AN->AM->Option AM):Ke:=λvs σ H Q=>∃g F τ ds U,BH K cl g F H σ τ/\Bd K (A1 g.O F H) ds vs/\m ds τ=AA U/\∀F' J,BH K cl g F' H J U->Q J H
def Bd.cw{K:Ap}:∀{ds es:List AN}{vs J:List AQ},Bd K G ds vs->Bd K G es J->Bd K G (ds++es) (vs++J)|[],_,_,_,h,k=>by rw[show _=[]from h];exact k|d::r,_,_,_,h,k=>by obtain⟨v,ys,rfl,h2,U⟩:=h;exact⟨v,_,rfl,h2,Bd.cw U k⟩
def Qg(h:EX X tg iter t)(m:∀σ H Q,t' σ H Q->t σ H Q):EX X tg iter t':=λpins s σ H Q I w=>h _ s σ H Q I (m σ H Q w)
def mQ(h:FT X e t)(m:∀v σ H Q,t' v σ H Q->t v σ H Q):FT X e t':=λpins s σ H v u Q I r w=>h _ s σ H v u Q I r (m v σ H Q w)
def mR(h:IZ X es t)(m:∀v σ H Q,t' v σ H Q->t v σ H Q):IZ X es t':=λpins s σ H v u Q I r w=>h _ s σ H v u Q I r (m v σ H Q w)
def GS(i:Nat):AN->AM->Option AM:=λd τ=>AA (τ.set i (AA (.d d)))
def BH.qu{K:Ap}{g:JN}{σ:Az}{τ:AM}(S:BH K cl g F H σ τ)(r:DY K (A1 g.O F H) d v)(i:Nat):∃F',BH K cl g F' H (σ.set i (AA v)) (τ.set i (AA (.d d)))/\As (A1 g.O F H) (A1 g.O F' H):=S.fm (w:=.s d) (CQ _) r i
def Gs{K:Ap}{X:BY}(i:Nat)(U:X.N.Nodup)(hi:X.N[i]?=AA x:=by rfl)(W:JF X.aa.scope x:=by first|exact .inl rfl|exact .inr rfl)(V:X.fn x=AD\/X.aa.scope.names.lookup x=AA .local:=by first|exact .inl rfl|exact .inr rfl|∎):FT X (.Name x pos) (JR K cl (GS i)):=mQ (Wk U hi W V) λv σ H Q⟨g,F,τ,d,Y,S,r,J,k⟩=>by cases J;obtain⟨F',D,_⟩:=S.qu r i;exact k F' _ D
def T4:List AN->AM->Option AM:=λds τ=>match ds with|[]=>AA τ|_=>AB
def OM(m:AN->AM->Option AM)(r:List AN->AM->Option AM):List AN->AM->Option AM:=λds τ=>match ds with|d::l=>(m d τ).bind (r l)|_=>AB
def Hh{K:Ap}:IZ X [] (OR K cl T4):=mR ADK λv σ H Q⟨g,F,τ,ds,J,S,r,D,k⟩=>by match ds,D,r with|[],D,r=>cases D;exact⟨r,k F σ S⟩
def Er{K:Ap}{X:BY}(i:Nat)(W:X.N.Nodup)(h2:IZ X es (OR K cl m))(hi:X.N[i]?=AA x:=by rfl)(A:JF X.aa.scope x:=by first|exact .inl rfl|exact .inr rfl)(Y:X.fn x=AD\/X.aa.scope.names.lookup x=AA .local:=by first|exact .inl rfl|exact .inr rfl|∎)(Z:(Kz (.Name x pos::es) X.aa).map (·.2)=XZ (.Name x pos) X.aa::(Kz es X.aa).map (·.2):=by rfl):IZ X (.Name x pos::es) (OR K cl (OM (GS i) m)):=mR (ADJ (Wk W hi A Y) h2 Z) λv σ H Q⟨g,F,τ,ds,U,S,r,J,k⟩=>by match ds,J,r with|d::l,J,r=>obtain⟨v,ys,rfl,r1,r2⟩:=r;refine⟨v,ys,rfl,?_⟩;obtain⟨V,B,C⟩:=S.qu r1 i;exact⟨g,V,_,l,U,B,r2.ag C,J,k⟩
def QZ(n:Nat)(m:List AN->AM->Option AM):AN->AM->Option AM:=λd τ=>match d with|.t ds=>if ds.length=n then m ds τ else AB|_=>AB
def Hg{K:Ap}{X:BY}(n:Nat)(Z:X.bc=AD)(h:IZ X es (OR K cl m))(hn:(Kz es X.aa).length=n:=by rfl)(U:(Kz es X.aa).findIdx? (·.1)=AB:=by rfl)(Y:X.K=K:=by rfl):FT X (.Tuple es k pos) (JR K cl (QZ n m)):=mQ (ADI Z h hn U) λv σ H Q⟨g,F,τ,d,V,S,r,J,q⟩=>by subst Y;match d,J,r with
 |.t ds,J,r=>
  obtain⟨a,xs,rfl,A,W⟩:=r;have J:(if ds.length=n then m ds τ else AB)=AA _:=J;by_cases z:ds.length=n;. rw[AMu z]at J;exact⟨a,xs,rfl,Fe Bu A,by rw[W.ba];exact z,g,F,τ,ds,V,S,W,J,q⟩
  ∎
def ET(m:AN->AM->Option AM)(G:AM->A8):List AN->AM->A8|[],τ=>.nx τ|d::r,τ=>match m d τ with|AB=>.er|AA τ1=>match G τ1 with|.nx J=>ET m G r J|.ct J=>ET m G r J|.bk J=>.nx J|.rt w J=>.rt w J|.er=>.er
def Qo(f:AM->Option (List AN))(m:AN->AM->Option AM)(G:AM->A8):AM->A8:=λτ=>match f τ with|AA ds=>ET m G ds τ|AB=>.er
def JN.ie(g:JN)(J:AR->Prop)(D:∀G G',Gn G G'->J G->J G'):JN:=⟨g.H0,g.O,g.P,λG=>g.pn G/\J G,λG G' e h=>⟨g.pm _ _ e h.1,D _ _ e h.2⟩⟩
def BH.ie{K:Ap}{g:JN}(S:BH K cl g F H σ τ)(h:D (A1 g.O F H)):BH K cl (g.ie D J) F H σ τ:=⟨S.ag,S.od,S.nw,S.nd,S.sl,S.pn,h⟩
def BH.qf{K:Ap}{g:JN}(S:BH K cl (g.ie J D) F H σ τ):BH K cl g F H σ τ:=⟨S.ag,S.od,S.nw,S.nd,S.sl,S.pn.1⟩
def BH.vk{K:Ap}{g:JN}(S:BH K cl g F H σ τ):∀a,g.O a\/a∈F->∃o,H a=AA o:=λa D=>by
 rcases D with D|D
 . obtain⟨n,o,h⟩:=S.od a D;exact⟨o,S.ag _ _ n h⟩
 .exact S.ri a D
def lE{K:Ap}{g:JN}{J:G5}{D:Fo}(S:BH K cl g F H σ τ)(T:∀G G',Gn G G'->L G->L G')(h1:L (A1 g.O F H))(it:Xr K J L ds)(o:FH K cl g D (ET m G ds τ))(R:tb=Cv K cl G):∃W:Nat->Nat->Az->AR->Prop,(∃m,W 0 m σ H)/\∀i n σ H,W i n σ H->(J.oh i H/\D.nx σ H)\/(J.go i H/\∃N:Az->AR->Prop,(∀U H',N U H'->∃c,c<n/\W (i+1) c U H')/\∀x H',J.uz i H x H'->JR K cl m x σ H' λX H2=>tb {D with nx:=N,ct:=N,bk:=D.nx} X H2):=by
  subst R;refine⟨λi n U H'=>n=ds.length-i/\i<=ds.length/\∃F' V,BH K cl (g.ie L T) F' H' U V/\FH K cl g D (ET m G (ds.drop i) V),⟨_,rfl,EA _,F,τ,S.ie h1,o⟩,?_⟩;rintro i n U H'⟨rfl,hi,F',V,M,o'⟩;obtain⟨st,f⟩:=it _ F' H' M.vk M.pn.2;by_cases E:i<ds.length
  . obtain⟨h,j⟩:=f i ds[i] ∎;refine .inr ⟨h,λa b=>∃O I,BH K cl _ O b _ _/\FH K cl g D _,λa b⟨O,I,l,p⟩=>⟨_,∎,rfl,E,O,I,l,p⟩,λx H2 y=>?_⟩;obtain⟨s2,k⟩:=j x H2 y;rw[Pm E]at o';unfold ET at o';cases Q:m _ _ with |none=>rw[Q]at o';exact o'.elim|some τ1=> rw[Q]at o';refine⟨_,F',V,_,τ1,M.ak s2,k,Q,λF4 q d=>⟨_,F4,τ1,d,?_⟩⟩;cases P:G _ with |nx Z=>exactλA B Y C=>∎|ct Z=>exactλA B Y C=>∎|bk Z=>simp only[P]at o';exactλA B Y C=>o' A B _ C.qf|rt w Z=>simp only[P]at o';exactλA B Y v C r=>o' A B _ v C.qf ∎|er=>simp only[P]at o';∎
  . have e:i=ds.length:=by∎
    subst e;rw[f6]at o';exact .inl ⟨st,o' F' H' _ M.qf⟩
def Ee{K:Ap}{X:BY}(hi:EX X tg iter (J9 K cl f))(A:FT X tg (JR K cl m))(Y:DS X U (Cv K cl G))(Z:X.bc=AD:=by rfl)(B:XR (Aj X.af X.w) X.A X.aa X.xe:=by exact PassesOwn.never)(C:∀x,L4 iter X.aa x=BC x:=by intro _;rfl):CY X (.For tg iter U [] pos) (Cv K cl (Qo f m G)):=FV (eE B Z hi A Y C) λD σ H⟨g,F,τ,S,o⟩=>by unfold Qo at o;cases V:f τ with|none=>rw[V]at o;exact o.elim|some ds=>rw[V]at o;exact⟨g,F,τ,ds,S,V,λJ H1 E s1 W h1 it=>lE (S.ak s1) W h1 it o rfl⟩
def C5{K:Ap}{X:BY}(h:AV X e (A7 K cl fa))(Z:X.K=K:=by rfl):EX X tg e (J9 K cl λτ=>(fa τ).bind λw=>match w.d with|AA (.l ds)=>AA ds|_=>AB):=Qg (d9 h Z) λσ H R⟨g,F,τ,ds,S,W,k⟩=>by obtain⟨w,V,D⟩:=Am.mp W;refine⟨g,F,τ,w,S,V,λv H1 s1 r=>?_⟩;match hw:w.d,D with|AA (.l _),D=>cases D;obtain⟨a,xs,rfl,U,A⟩:=r.rp S s1 hw;refine⟨a,rfl,⟨xs,Gp Bu U⟩,k _ _ (λG=>Bq K G a xs/\Bd K G ds xs) s1 (λG G' e h=>⟨e.xr h.1,h.2.fz e⟩) ⟨U,A⟩ λO F H _ h=>⟨⟨xs,Gp Bu h.1,Ig h.2.ba⟩,λi d Y=>?_⟩⟩;obtain⟨v,J,B⟩:=h.2.at Y;exact⟨⟨xs,v,Gp Bu h.1,J⟩,λx H' y=>by obtain⟨e,y⟩:=y;subst e;have:=y xs (Gp Bu h.1);rw[J]at this;cases this;exact⟨CQ _,B⟩⟩
def AIV{K:Ap}{X:BY}(h:AV X e (A7 K cl fa))(Z:X.K=K:=by rfl):EX X tg e (J9 K cl λτ=>(fa τ).bind λw=>match w with|.s (.t ds)=>AA ds|_=>AB):=Qg (ADQ h Z) λσ H R⟨g,F,τ,ds,S,W,k⟩=>by obtain⟨w,V,D⟩:=Am.mp W;refine⟨g,F,τ,w,S,V,λv H1 s1 r=>?_⟩;match w,D,r with|.s (.t _),D,r=>cases D;obtain⟨a,xs,rfl,U,A⟩:=r;refine⟨a,rfl,⟨xs,Fe Bu U⟩,k _ _ (λG=>CH K G a xs/\Bd K G ds xs) s1 (λG G' e h=>⟨e.ym h.1,h.2.fz e⟩) ⟨U,A⟩ λO F H _ h=>⟨⟨xs,Fe Bu h.1,Ig h.2.ba⟩,λi d Y=>?_⟩⟩;obtain⟨v,J,B⟩:=h.2.at Y;exact⟨⟨xs,v,Fe Bu h.1,J⟩,λx H' y=>by obtain⟨e,y⟩:=y;subst e;have:=y xs (Fe Bu h.1);rw[J]at this;cases this;exact⟨CQ _,B⟩⟩
def Mu(lo:Int)(n:Nat):List AN:=(EO n).map λ(k:Nat)=>.i (lo+(k:Int))
def AHJ{K:Ap}{lo:Int}:Xr K (Rt lo n) (λ_=>True) (Mu lo n):=λO F H _ _=>by
 have J:(Mu lo n).length=n:=by unfold Mu;∎
 refine⟨(by rw[J];exact Aw _),λi d e=>?_⟩;unfold Mu at e;rw[Ca]at e;obtain⟨j,D,rfl⟩:=BK.mp e;obtain⟨h1,h2⟩:=EN.mp D;rw[List.getElem_range]at h2;subst h2;rw[XE]at h1;exact⟨h1,λx H' y=>by obtain⟨rfl,rfl⟩:=y;exact⟨CQ _,rfl⟩⟩
def MD(ds:List AN):Option (List AN):=match ds with|[.i j]=>if-(2^62)<=j/\j<2^62 then AA (Mu 0 j.toNat)else AB|_=>AB
def AHs(h:MD l=AA ds):∃j,l=[.i j]/\(-(2^62)<=j/\j<2^62)/\ds=Mu 0 j.toNat:=by unfold MD at h;∎
def Qv{K:Ap}{X:BY}(W:CG X "range")(Y:X.mg "range"=AB)(V:C7 X [a] (Hf K cl fs))(Z:Ah [a] X.aa=[(AH,Ar a X.aa)]:=by rfl):EX X tg (.Call (.Name "range" p) [a] [] pos) (J9 K cl λτ=>(fs τ).bind λr=>MD r.2):=Qg (ADO W Y V Z) λσ H R⟨g,F,τ,ds,S,U,k⟩=>by obtain⟨⟨b,l⟩,D,J⟩:=Am.mp U;refine⟨g,F,τ,b,l,S,D,λvs H1 B s1 C A r=>?_⟩;obtain⟨j,(rfl:l=_),c,rfl⟩:=AHs J;obtain⟨v,ys,rfl,E,rfl⟩:=r;cases∎;exact⟨j,rfl,c.1,c.2,k _ _ _ s1 ∎ trivial AHJ⟩
def OP(τ:AM)(j:Nat):Option AU:=match(τ[j]?).join with|AA (.d d)=>AA (.d d)|_=>AB
def OS(J:Nat)(D:List Nat)(τ:AM):AM:=GL J AB++D.map (OP τ)
def I9:Nat->AM->AM|0,τ=>τ|_+1,[]=>[]|n+1,_::r=>AB::I9 n r
def Il(m:AN->AM->Option AM)(q:AM->Option Bool)(f:AM->Option Ab)(J:AM)(d:AN):Option (Option AN):=(m d J).bind λτ1=>(q τ1).bind λc=>if c=AD then((f τ1).bind Ab.d).map AA else AA AB
def Hd(k:AN->Option (Option AN)):List AN->Option (List AN)|[]=>AA []|d::r=>(k d).bind λo=>(Hd k r).map λl=>match o with|AA y=>y::l|AB=>l
def LH(U:Nat)(J:List Nat)(fi:AM->Option (List AN))(m:AN->AM->Option AM)(q:AM->Option Bool)(f:AM->Option Ab):AM->Option Ab:=λτ=>(fi τ).bind λds=>if ds.length<=AY then(Hd (Il m q f (OS U J τ)) ds).map λl=>.n (.L (l.map .d))else AB
def E2.wk{K:Ap}:∀(n:Nat){τ:AM}{σ:Az}{F:List AI},E2 K cl G H τ σ F->∃F',E2 K cl G H (I9 n τ) σ F'/\(∀a∈F',a∈F)/\(F.Nodup->F'.Nodup)|0,_,_,F,h=>⟨F,h,λ_ h=>h,id⟩|_+1,[],_,F,h=>⟨F,h,λ_ h=>h,id⟩|n+1,AB::r,_,F,h=>by obtain⟨v,D,rfl,J⟩:=h;obtain⟨F',U,V,W⟩:=E2.wk n J;exact⟨F',⟨v,D,rfl,U⟩,V,W⟩|n+1,AA t::r,_,F,h=>by obtain⟨v,D,Y,Z,rfl,rfl,h2,J⟩:=h;obtain⟨F',U,V,W⟩:=E2.wk n J;exact⟨F',⟨_,D,rfl,U⟩,∎,∎⟩
def BH.wk{K:Ap}{g:JN}(n:Nat)(S:BH K cl g F H σ τ):∃F',BH K cl g F' H σ (I9 n τ)/\As (A1 g.O F H) (A1 g.O F' H):=by obtain⟨F',U,D,V⟩:=S.sl.wk n;exact⟨F',⟨S.ag,S.od,λa J=>S.nw a (D a J),V S.nd,U.ag (DN D) λa _ o h=>h,g.pm _ _ (HF (DN D)) S.pn⟩,DN D⟩
def E2.vy{K:Ap}(h:E2 K cl G H τ σ F):∀(D:List Nat),E2 K cl G H (D.map (OP τ)) (D.map (Ki σ)) []|[]=>⟨rfl,rfl⟩|j::r=>by have J:=E2.vy h r;show E2 K cl G H (OP τ j::_) _ [];unfold OP;match q:(τ[j]?).join with|AA (.d d)=>have q':=Lr.mp q;obtain⟨Y,_,_,W,_⟩:=h.dh j ∎;obtain⟨v,Z,V⟩:=W _ q';refine⟨v,_,[],[],?_,rfl,⟨V.1,rfl⟩,J⟩;unfold Ki;∎|AB|AA (.L _)|AA (.M _ _)|AA (.U _)|AA (.B _ _ _)|AA (.R _ _)|AA (.H _)=>exact⟨_,_,rfl,J⟩
def E2.vx{K:Ap}(h:E2 K cl G H τ σ F):∀n:Nat,E2 K cl G H (GL n AB++τ) (GL n AB++σ) F|0=>h|n+1=>⟨_,_,rfl,E2.vx h n⟩
def kU{K:Ap}(hgt:∀v σ H Q,JR K cl m v σ H Q->gt v σ H Q)(hm:∀d r τ1,m d (GL Z AB++r)=AA τ1->I9 Z τ1=GL Z AB++r)(h:A7 K cl (LH Z b fi m q f) σ H Q):Nt Z b (J9 K cl fi) gt (DO K cl q) (A7 K cl f) σ H Q:=by
  obtain⟨g,F,τ,w,S,ew,k⟩:=h;obtain⟨ds,ed,T⟩:=Am.mp ew;by_cases hz:ds.length<=AY;case neg=>rw[AMv hz]at T;cases T
  rw[AMu hz]at T;obtain⟨l,e3,rfl⟩:=BK.mp T;refine⟨g,F,τ,ds,S,ed,λJ H1 φ s1 hφ h1 it=>?_⟩;have B:∀F' H',A1 _ F' H'=A1 g.O (F'++F) H':=λF' H'=>lG;have S1:=S.ak s1;refine⟨λi n P V H'=>n=ds.length-i/\i<=ds.length/\V.length<=i/\∃O l2 F',BH K cl ⟨H1,λa=>g.O a\/a∈F,[],λG=>φ G/\Bd K G O V,λG G' e h=>⟨hφ _ _ e h.1,h.2.fz e⟩⟩ F' H' P (OS Z b τ)/\Hd _ (ds.drop i)=AA l2/\l=O++l2,⟨_,rfl,EA _,EA _,[],l,[],⟨λ_ _ _ h=>h,λa M=>⟨λz=>(by cases z),S1.vk a M⟩,λa M=>(nomatch M),Ft,?_,?_⟩,e3,rfl⟩,?_⟩;. rw[B];exact(S1.sl.vy b).vx Z
  . rw[B];exact⟨h1,rfl⟩
  rintro i n P V H'⟨rfl,hi,N,O,l2,F',E,X,e5⟩;obtain⟨st,go⟩:=it _ F' H' E.vk E.pn.1;by_cases Y:i<ds.length
  . obtain⟨q1,q2⟩:=go i ds[i] (EM Y);refine .inr ⟨q1,∎,λx H2 y=>?_⟩;obtain⟨s2,rp⟩:=q2 x H2 y;rw[Pm Y]at X;obtain⟨o,e6,e7⟩:=Am.mp X;obtain⟨l3,e8,e9⟩:=BK.mp e7;obtain⟨τ1,I,p⟩:=Am.mp e6;obtain⟨c,s,L⟩:=Am.mp p;have A:=hm _ _ _ I;refine hgt _ _ _ _ ⟨_,F',_,ds[i],τ1,E.ak s2,rp,I,λF4 σ4 S4=>⟨_,F4,τ1,c,S4,s,λH5 s5=>?_⟩⟩;have R:=S4.ak s5;cases c with |true=> show if AD=AD then _ else _;obtain⟨y,t,rfl⟩:=BK.mp L;obtain⟨w,u,e16⟩:=Am.mp t;refine⟨_,F4,τ1,w,R,u,λv H6 s6 r=>⟨_,∎,rfl,Y,by rw[Bi];exact AE6 N,O++[y],l3,?_⟩⟩;have S6:=R.ak s6;have ry:=r.rp R s6 e16;obtain⟨j,U,s7⟩:=S6.wk Z;rw[A]at U;refine⟨j,⟨U.ag,U.od,U.nw,U.nd,U.sl,U.pn.1,?_⟩,e8,by rw[e5,<-e9,Gg];rfl⟩;exact Bd.cw U.pn.2 ⟨v,[],rfl,ry.ag s7,rfl⟩|false=> show if AH=AD then _ else _;cases L;obtain⟨j,U,s7⟩:=R.wk Z;rw[A]at U;exact⟨_,∎,rfl,Y,AJf N,O,l3,j,U,e8,by rw[e5,<-e9]⟩
  . have e:i=ds.length:=by∎
    subst e;rw[f6]at X;cases X;refine .inl ⟨st,λC hC=>?_⟩;have rl:=E.pn.2;rw[B]at rl;have rl':Bd K (A1 g.O F H') l V:=by rw[e5,Ek];exact rl.ag (DN λa M=>Dl _ M)
    have sm:As H1 H':=λa o h=>E.ag a o (λz=>by cases z) h;exact k _ _ ((s1.ae sm).ae (Df hC)) ((He hC rl').gm (s1.ae sm))
def eO(K:Ap):Cy:=λx y H Q=>∃a b xs ys,x=.ref a/\y=.ref b/\Bq K H a xs/\Bq K H b ys/\xs.length+ys.length<=AY/\∀p,H p=AB->Q (.ref p) (Ax H p (.lst (xs++ys)))
def ACh{X:BY}{K:Ap}(O:X.K=K:=by rfl):CN X (Jw .Add) (eO K):=by
 subst O;intro pins s σ H x y v u Q I T c h;obtain⟨a,b,xs,ys,rfl,rfl,P,R,hz,q⟩:=h;cases T;cases c;obtain⟨J,r1,⟨⟨cls,dd,C,sl⟩,n,G,E,F,L⟩,d⟩:=I.bz P;obtain⟨D,r2,⟨⟨B,M,Z,A⟩,S,W,U,V,Y⟩,e⟩:=I.bz R;simp only at E F L U V Y;subst E F L U V Y;refine iM ⟨_,G,rfl⟩ ⟨_,W,rfl⟩ noFill_list_add seq_list_add F.slot_list_add F.entry_list_add (by rfl) (list_addW a b J.toArray D.toArray n S AB AB sl A (by rw[Mf,Mf,<-r1.aj,<-r2.aj];exact hz)) ⟨G,W,?_⟩;have N:J.toArray++D.toArray=(J++D).toArray:=by simp
 rw[N];exact⟨.ref _,_,I.xh (t':=s.toks) (r1.cw r2) ∎,rfl,q _ I.ao⟩
def eP(K:Ap):Cy:=λx y H Q=>∃a b xs ys,x=.ref a/\y=.ref b/\CH K H a xs/\CH K H b ys/\xs.length+ys.length<=AY/\(xs=[]->Q (.ref b) H)/\(ys=[]->Q (.ref a) H)/\∀p,H p=AB->Q (.ref p) (Ax H p (.tup (xs++ys)))
def ACi{X:BY}{K:Ap}(M:X.K=K:=by rfl):CN X (Jw .Add) (eP K):=by
  subst M;intro pins s σ H x y v u Q I T c h;obtain⟨a,b,xs,ys,rfl,rfl,N,O,hz,qb,qa,q⟩:=h;cases T;cases c;obtain⟨A,r1,p1,_⟩:=I.bj N;obtain⟨V,r2,p2,_⟩:=I.bj O;by_cases Z:A=[]
  . have R:xs=[]:=r1.mz.mp Z;subst Z R;obtain⟨⟨cls,dd,E,sl⟩,L,F,n,G⟩:=id p1;obtain⟨⟨C,Y,W,B⟩,U,D,S,J⟩:=id p2;simp only at F G D J;subst F G D J;exact iM ⟨_,L,rfl⟩ ⟨_,U,rfl⟩ AF4 AF8 AFZ AFV (by rfl) (tuple_addW0 a b [].toArray V.toArray n S dd Y sl B (by simp)) ⟨L,U,⟨.ref b,H,I,rfl,qb rfl⟩⟩
  . refine wF p1 p2 Z (λz=>⟨.ref a,H,I,rfl,?_⟩) (λz=>?_) (by rw[<-r1.aj,<-r2.aj];exact hz)
    . have d:ys=[]:=r2.mz.mp z;∎
    . have P:=I.ay.ao (Aw s.heap.objs.size);refine⟨.ref s.heap.objs.size,_,I.eu (t':=s.toks) (o:=.tup (xs++ys)) (λb e q=>Bn _ q) (Aw _) ?_,rfl,q _ P⟩;exact⟨∎,_,r1.cw r2,gO _ _⟩
def AU.oy:AU->Option AN|.d x=>AA x|_=>AB
def Mr:List AU->Option (List AN)|[]=>AA []|t::r=>t.oy.bind λd=>(Mr r).map (d::.)
def AU.az:AU->Option (List AN)|.d (.l l)=>AA l|.L l=>Mr l|.R _ (.L l)=>Mr l|_=>AB
def Cu.oz{K:Ap}:∀{ts:List AU}{vs:List AQ}{F:List AI}{ds:List AN},Cu K cl G H ts vs F->Mr ts=AA ds->Bd K G ds vs|[],_,_,_,h,e=>by cases e;exact h.1|t::r,_,_,_,h,e=>by obtain⟨v,ys,Z,A,rfl,rfl,h2,Y⟩:=h;obtain⟨d,J,U⟩:=Am.mp e;obtain⟨l,W,rfl⟩:=BK.mp U;cases t with|d x=>cases J;exact⟨v,ys,rfl,h2.1,Cu.oz Y W⟩|_=>cases J
def AHM{t:AU}(e:t.az=AA ds):t=.d (.l ds)\/(∃l,t=.L l/\Mr l=AA ds)\/∃k l,t=.R k (.L l)/\Mr l=AA ds:=by cases t with
 |d x=>cases x with |l l=>cases e;∎|_=>cases e
 |L l=>exact .inr (.inl ⟨l,rfl,e⟩)|R k t=>cases t with |L l=>exact .inr (.inr ⟨k,l,rfl,e⟩)|_=>cases e
 |_=>cases e
def Bh.az{K:Ap}{t:AU}(h:Bh K cl G H t v F)(e:t.az=AA ds)(s:As G H):∃a xs,v=.ref a/\Bq K H a xs/\Bd K G ds xs:=by
 rcases AHM e with rfl|⟨l,rfl,e⟩|⟨k,l,rfl,e⟩
 . obtain⟨⟨a,xs,rfl,q,r⟩,_⟩:=h;exact⟨a,xs,rfl,Gp s q,r⟩
 . obtain⟨a,xs,F',rfl,rfl,q,r⟩:=h;exact⟨a,xs,rfl,Lb q,r.oz e⟩
 . obtain⟨_,a,xs,F',rfl,rfl,q,r⟩:=h;exact⟨a,xs,rfl,Lb q,r.oz e⟩
def YL:=F9 λi j=>AA (.i (i+j))
def MA:AU->AU->Option Ab|.d (.s a),.d (.s b)=>if a.length+b.length<=AY then AA (.s (.s (a++b)))else AB|_,_=>AB
def MB:AU->AU->Option Ab|.d (.t a),.d (.t b)=>if a.length+b.length<=AY then AA (.s (.t (a++b)))else AB|_,_=>AB
def YM(a b:AU):Option Ab:=a.az.bind λk=>b.az.bind λl=>if k.length+l.length<=AY then AA (.n (.L ((k++l).map .d)))else AB
def AHj(h:MA a b=AA w):∃i j,a=.d (.s i)/\b=.d (.s j)/\i.length+j.length<=AY/\w=.s (.s (i++j)):=by unfold MA at h;∎
def AHk(h:MB a b=AA w):∃i j,a=.d (.t i)/\b=.d (.t j)/\i.length+j.length<=AY/\w=.s (.t (i++j)):=by unfold MB at h;∎
def AHQ{K:Ap}:GQ K cl (λx y H Q=>∃i j,x=.str i/\y=.str j/\i.length+j.length<=AY/\Q (.str (i++j)) H) MA:=λ{g F H σ τ a b x y w U V Q}S D J e k=>by obtain⟨i,j,rfl,rfl,c,rfl⟩:=AHj e;exact⟨i,j,D.1,J.1,c,k _ H (CQ _) rfl⟩
def AHR{K:Ap}:GQ K cl (eP K) MB:=λ{g F H σ τ a b x y w Y Z Q}S V W e k=>by
 obtain⟨i,j,rfl,rfl,c,rfl⟩:=AHk e;obtain⟨⟨a,xs,rfl,q,r⟩,_⟩:=V;obtain⟨⟨b,ys,rfl,q',r'⟩,_⟩:=W;refine⟨a,b,xs,ys,rfl,rfl,Fe Bu q,Fe Bu q',by rw[r.ba,r'.ba];exact c,λz=>?_,λz=>?_,λp D=>?_⟩;. have:=Jm.mp (by rw[<-r.ba,z];rfl);subst this;exact k _ H (CQ _) ⟨b,ys,rfl,q',r'⟩
 . have:=Jm.mp (by rw[<-r'.ba,z];rfl);subst this;rw[Ek]at k;exact k _ H (CQ _) ⟨a,xs,rfl,q,r⟩
 . obtain⟨J,U⟩:=S.ao D;exact k _ _ (Df D) ⟨p,_,rfl,Jg (CU.mpr ⟨U,J,Dh⟩),(r.cw r').ag (FI (Df D))⟩
def AHP{K:Ap}:GQ K cl (eO K) YM:=λ{g F H σ τ a b x y w A B Q}S Y Z e k=>by obtain⟨C,J,U⟩:=Am.mp e;obtain⟨E,V,W⟩:=Am.mp U;obtain⟨c,rfl⟩:=E3 W;obtain⟨a,xs,rfl,q,r⟩:=Y.az J Bu;obtain⟨b,ys,rfl,q',r'⟩:=Z.az V Bu;exact⟨a,b,xs,ys,rfl,rfl,q,q',by rw[r.ba,r'.ba];exact c,λp D=>k _ _ (Df D) (He D (r.cw r'))⟩
def En:=JP YL (JP MA (JP MB YM))
def BN{K:Ap}{X:BY}(J:AV X a (A0 K cl pa))(U:AV X b (A0 K cl pb))(D:X.K=K:=by rfl):AV X (.BinOp a .Add b pos) (A7 K cl (A9 En pa pb)):=OY (Mp dM (Mp ACg (Mp (ACi D) (ACh D)))) (Td (OL (f:=λi j=>.i _) λ_ _ _=>rfl) (Td AHQ (Td AHR AHP))) J U
def UL(K:Ap)(cl:Nat->AI)(f:AM->Option (Option Int)):Ni:=λσ H Q=>∃g F τ o,BH K cl g F H σ τ/\f τ=AA o/\∀H',As H H'->Q o H'
def mS(h:Jd X D t)(m:∀σ H Q,t' σ H Q->t σ H Q):Jd X D t':=λpins s σ H Q I w=>h _ s σ H Q I (m σ H Q w)
def KG{K:Ap}:Jd X AB (UL K cl λ_=>AA AB):=mS ADS λσ H Q⟨g,F,τ,o,S,e,k⟩=>by cases e;exact k H (CQ _)
def mH(p:AM->Option AU):AM->Option (Option Int):=λτ=>(p τ).bind λt=>match t with|.d (.i i)=>AA (AA i)|_=>AB
def Gu{K:Ap}(h:AV X e (A0 K cl pa)):Jd X (AA e) (UL K cl (mH pa)):=mS (ADT h) λσ H Q⟨g,F,τ,o,S,e,k⟩=>by obtain⟨t,U,D⟩:=Am.mp e;refine⟨g,F,τ,t,S,U,λv H1 V s1 J=>?_⟩;match t,D,J with|.d (.i i),D,J=>cases D;exact⟨i,J.1,k H1 s1⟩
def Cs(xs:List α)(lo hi:Option Int):List α:=(xs.drop (CD xs.length 0 lo)).take (CD xs.length xs.length hi-CD xs.length 0 lo)
def Bd.qk{K:Ap}:∀(n:Nat){ds:List AN}{vs:List AQ},Bd K G ds vs->Bd K G (ds.drop n) (vs.drop n)|0,_,_,h=>h|n+1,[],_,h=>by rw[show _=[]from h];rfl|n+1,d::r,_,h=>by obtain⟨v,ys,rfl,_,J⟩:=h;exact Bd.qk n J
def Bd.qz{K:Ap}:∀(n:Nat){ds:List AN}{vs:List AQ},Bd K G ds vs->Bd K G (ds.take n) (vs.take n)|0,_,_,h=>rfl|n+1,[],_,h=>by rw[show _=[]from h];rfl|n+1,d::r,_,h=>by obtain⟨v,ys,rfl,h2,J⟩:=h;exact⟨v,_,rfl,h2,Bd.qz n J⟩
def Bd.xc{K:Ap}(h:Bd K G ds vs)(lo hi:Option Int):Bd K G (Cs ds lo hi) (MW vs lo hi):=by unfold Cs MW;rw[h.ba];exact(h.qk _).qz _
def Ip(t:AU)(lo hi:Option Int):Option Ab:=match t with|.d (.t l)=>AA (.s (.t (Cs l lo hi)))|.d (.s z)=>if z.length<=AY then AA (.s (.s (HE z lo hi)))else AB|t=>t.az.map λl=>.n (.L ((Cs l lo hi).map .d))
def AHp{t:AU}{lo:Option Int}(h:Ip t lo hi=AA w):(∃l,t=.d (.t l)/\w=.s (.t (Cs l lo hi)))\/(∃z,t=.d (.s z)/\z.length<=AY/\w=.s (.s (HE z lo hi)))\/∃l,t.az=AA l/\w=.n (.L ((Cs l lo hi).map .d)):=by
 unfold Ip at h;split at h;.∎
 .∎
 . obtain⟨l,D,J⟩:=BK.mp h;∎
def n8(p:AM->Option AU)(fl fh:AM->Option (Option Int)):AM->Option Ab:=λτ=>(p τ).bind λt=>(fl τ).bind λlo=>(fh τ).bind λhi=>Ip t lo hi
def IH{K:Ap}{X:BY}{lo:Option BE}(h:AV X e (A0 K cl pa))(R:Jd X lo (UL K cl fl))(P:Jd X hi (UL K cl fh))(Z:X.K=K:=by rfl):AV X (.Subscript e (.Slice lo hi AB p2) pos) (A7 K cl (n8 pa fl fh)):=C8 (ADE (WD (ADw Z) (WD (ADu Z) ADx)) h R P) λσ H Q⟨g,F,τ,w,S,e,k⟩=>by
  obtain⟨t,E,G⟩:=Am.mp e;obtain⟨lo,I,M⟩:=Am.mp G;obtain⟨hi,N,O⟩:=Am.mp M;refine⟨g,F,τ,t,S,E,λv H1 f s1 U=>⟨g,F,τ,lo,S.ak s1,I,λH2 s2=>⟨g,F,τ,hi,(S.ak s1).ak s2,N,λB s3=>?_⟩⟩⟩;have V:=s2.ae s3;have C:=((S.ak s1).ak s2).ak s3;have U:=U.ak V;have D:=s1.ae V;have A:∀l,t.az=AA l->w=.n (.L ((Cs l lo hi).map .d))->Wr K v lo hi B Q:=λl W Y=>by subst Y;obtain⟨a,xs,rfl,q,r⟩:=U.az W Bu;exact⟨a,xs,rfl,q,λp J=>k _ _ (D.ae (Df J)) ((He J (r.xc lo hi)).gm D)⟩
  rcases AHp O with⟨l,rfl,rfl⟩|⟨z,rfl,c,rfl⟩|⟨l,W,Y⟩
  . obtain⟨⟨a,xs,rfl,q,r⟩,_⟩:=U;by_cases z:CD xs.length 0 lo=0/\CD xs.length xs.length hi=xs.length
    . refine .inr (.inl (.inl ⟨a,xs,rfl,Fe Bu q,z.1,z.2,k _ _ D ⟨a,xs,rfl,q,?_⟩⟩));have:=r.xc lo hi;unfold MW at this;∎
    . refine .inr (.inl (.inr ⟨a,xs,rfl,Fe Bu q,z,λp J=>?_⟩));obtain⟨T,b⟩:=C.ao J;exact k _ _ (D.ae (Df J)) ⟨p,_,rfl,Jg (CU.mpr ⟨b,T,Dh⟩),(r.xc lo hi).ag (FI (Df J))⟩
  .exact .inr (.inr ⟨z,U.1,c,k _ _ D rfl⟩)
  ∎
mutual def AN.py:AN->Option HX|.n=>AA .none|.b x=>AA (.bool x)|.i x=>AA (.int x)|.s x=>AA (.str x)|.t ls=>(J1 ls).map .tuple|.l ls=>(J1 ls).map .list|.m _ _=>AB def J1:List AN->Option (List HX)|[]=>AA []|d::r=>d.py.bind λx=>(J1 r).map (x::.)end
section
variable{K:Ap}{G:AR}
mutual theorem DY.dv:∀{d:AN}{v:AQ}{y:HX},d.py=AA y->DY K G d v->GG K G v y|.n,_,_,e,h=>by cases e;rw[show _=AQ.non from h];exact .non|.b x,_,_,e,h=>by cases e;rw[show _=AQ.bl x from h];exact .bl x|.i x,_,_,e,h=>by cases e;rw[show _=AQ.int x from h];exact .int x|.s x,_,_,e,h=>by cases e;rw[show _=AQ.str x from h];exact .str x|.t l,_,_,e,h=>by obtain⟨ys,J,rfl⟩:=BK.mp e;obtain⟨a,xs,rfl,q,r⟩:=h;exact .tup q (Tg J r)|.l l,_,_,e,h=>by obtain⟨ys,J,rfl⟩:=BK.mp e;obtain⟨a,xs,rfl,q,r⟩:=h;exact .lst q (Tg J r)|.m _ _,_,_,e,_=>by cases e theorem Tg:∀{ds:List AN}{vs:List AQ}{ys:List HX},J1 ds=AA ys->Bd K G ds vs->Ja K G vs ys|[],_,_,e,h=>by cases e;rw[show _=[]from h];exact .nil|d::r,_,_,e,h=>by obtain⟨y,J,U⟩:=Am.mp e;obtain⟨ys,W,rfl⟩:=BK.mp U;obtain⟨v,Z,rfl,h2,Y⟩:=h;exact .cons (DY.dv J h2) (Tg W Y)end
end
def Bh.yl{K:Ap}{t:AU}(s:As G H)(o:Bh K cl G H t v F)(e:t.fg=AA d):DY K H d v:=o.rp s e λa _ o h=>h
def Tp(neg:Bool):AN->AN->Option Bool|.i a,.i b=>AA (Af (a=b)^^neg)|.s a,.s b=>AA (Af (a=b)^^neg)|.b a,.b b=>AA (Af (a=b)^^neg)|_,_=>AB
def OG(neg:Bool)(a b:AN):Option Bool:=a.py.bind λx=>b.py.bind λy=>if HD x=AD/\HD y=AD then AA (Ii x y^^neg)else AB
def Cm(neg:Bool)(a b:AU):Option Ab:=a.fg.bind λx=>b.fg.bind λy=>(match Tp neg x y with|AA r=>AA r|AB=>OG neg x y).map λr=>.s (.b r)
def AHB{K:Ap}(h:Tp neg a b=AA r)(J:DY K H a v)(U:DY K H b u):SN v u=AD/\r=(Af (v=u)^^neg):=by
 unfold Tp at h;split at h;.cases(show v=_ from J);cases(show u=_ from U);exact⟨rfl,by simp_all⟩
 .cases(show v=_ from J);cases(show u=_ from U);exact⟨rfl,by simp_all⟩
 .cases(show v=_ from J);cases(show u=_ from U);exact⟨rfl,by simp_all⟩
 ∎
def mE{K:Ap}(s:As G H)(h:Cm neg a b=AA w)(N:Bh K cl G H a v Y)(O:Bh K cl G H b u Z):∃r:Bool,w=.s (.b r)/\((SN v u=AD/\r=(Af (v=u)^^neg))\/∃d e,GG K H v d/\GG K H u e/\HD d=AD/\HD e=AD/\r=(Ii d e^^neg)):=by
 obtain⟨x,A,h1⟩:=Am.mp h;obtain⟨y,B,h2⟩:=Am.mp h1;obtain⟨r,D,rfl⟩:=BK.mp h2;refine⟨r,rfl,?_⟩;have J:=N.yl s A;have U:=O.yl s B;split at D;. rename_i r' C;cases D;exact .inl (AHB C J U)
 . obtain⟨d,E,L⟩:=Am.mp D;obtain⟨e,F,M⟩:=Am.mp L;obtain⟨c,I⟩:=E3 M;exact .inr ⟨d,e,J.dv E,U.dv F,c.1,c.2,I.symm⟩
def AHU{K:Ap}:GQ K cl (λx y H Q=>eQ x y H Q\/eR K x y H Q) (Cm AH):=λ{g F H σ τ a b x y w W Y Q}S U V e k=>by
 obtain⟨r,rfl,h⟩:=mE Bu e U V;rcases h with⟨h1,rfl⟩|⟨d,f,h1,h2,D,J,rfl⟩;.exact .inl ⟨h1,k _ H (CQ _) (by show _=_;simp)⟩
 .exact .inr ⟨d,f,h1,h2,D,J,k _ H (CQ _) (by show _=_;simp)⟩
def lW{K:Ap}:GQ K cl (λx y H Q=>eW x y H Q\/eX K x y H Q) (Cm AD):=λ{g F H σ τ a b x y w W Y Q}S U V e k=>by
 obtain⟨r,rfl,h⟩:=mE Bu e U V;rcases h with⟨h1,rfl⟩|⟨d,f,h1,h2,D,J,rfl⟩;.exact .inl ⟨h1,k _ H (CQ _) (by show _=_;simp)⟩
 .exact .inr ⟨d,f,h1,h2,D,J,k _ H (CQ _) (by show _=_;simp)⟩
def CV{K:Ap}{X:BY}(V:CP n X.A)(J:AV X a (A0 K cl pa))(U:AV X b (A0 K cl pb))(D:X.K=K:=by rfl):Cq X (.Compare a [.Eq] [b] pos) (DO K cl (DZ (A9 (Cm AH) pa pb))):=LI (Mp ACj (ACk V.qe D)) AHU J U
def HI{K:Ap}{X:BY}(V:CP n X.A)(J:AV X a (A0 K cl pa))(U:AV X b (A0 K cl pb))(D:X.K=K:=by rfl):Cq X (.Compare a [.NotEq] [b] pos) (DO K cl (DZ (A9 (Cm AD) pa pb))):=LI (Mp dP (dQ V.qe D)) lW J U
def AN.fl:AN->Option AQ|.n=>AA .non|.b x=>AA (.bl x)|.i x=>AA (.int x)|.s x=>AA (.str x)|_=>AB
def OA:List AN->Option (List AQ)|[]=>AA []|d::r=>d.fl.bind λx=>(OA r).map (x::.)
def AU.eh:AU->Option (List AN)|.d (.t l)=>AA l|t=>t.az
def kE{K:Ap}{d:AN}(h:d.fl=AA v)(r:DY K G d u):u=v/\Jh v=AD:=by cases d with|n=>cases h;exact⟨r,rfl⟩|b x=>cases h;exact⟨r,rfl⟩|i x=>cases h;exact⟨r,rfl⟩|s x=>cases h;exact⟨r,rfl⟩|_=>cases h
def kF{K:Ap}:∀{ds:List AN}{vs J:List AQ},OA ds=AA vs->Bd K G ds J->J=vs/\vs.all Jh=AD|[],_,_,h,r=>by cases h;exact⟨r,rfl⟩|d::Z,_,_,h,r=>by obtain⟨v,U,W⟩:=Am.mp h;obtain⟨vs,Y,rfl⟩:=BK.mp W;obtain⟨u,J,rfl,r1,r2⟩:=r;obtain⟨rfl,A⟩:=kE U r1;obtain⟨rfl,B⟩:=kF Y r2;∎
def Bh.eh{K:Ap}{t:AU}(h:Bh K cl G H t v F)(e:t.eh=AA ds)(s:As G H):∃a xs,v=.ref a/\(Bq K H a xs\/CH K H a xs)/\Bd K G ds xs:=by
 unfold AU.eh at e;split at e
 . cases e;obtain⟨⟨a,xs,rfl,q,r⟩,_⟩:=h;exact⟨a,xs,rfl,.inr (Fe s q),r⟩
 . obtain⟨a,xs,h1,h2,J⟩:=h.az e s;∎
def Mz(neg:Bool)(a b:AU):Option Ab:=a.oy.bind λx=>x.fl.bind λv=>b.eh.bind λl=>(OA l).map λvs=>.s (.b (if neg=AD then !Nl v vs else Nl v vs))
def YE{K:Ap}:GQ K cl (Pg K neg) (Mz neg):=λ{g F H σ τ a b x y w E G Q}S Z A e k=>by obtain⟨d,J,h1⟩:=Am.mp e;obtain⟨v,U,h2⟩:=Am.mp h1;obtain⟨l,V,Y⟩:=Am.mp h2;obtain⟨vs,W,rfl⟩:=BK.mp Y;cases a with|d z=>cases J;obtain⟨rfl,B⟩:=kE U Z.1;obtain⟨p,xs,rfl,q,r⟩:=A.eh V Bu;obtain⟨rfl,C⟩:=kF W r;exact⟨p,xs,rfl,q,B,C,k _ H (CQ _) rfl⟩|_=>cases J
def oO{K:Ap}{X:BY}(J:AV X a (A0 K cl pa))(U:AV X b (A0 K cl pb))(D:X.K=K:=by rfl)(V:Jv .In b=AH:=by first|exact Np _ (by decide) (by decide)|rfl):Cq X (.Compare a [.In] [b] pos) (DO K cl (DZ (A9 (Mz AH) pa pb))):=LI (dN D) YE J U V
def AIh{K:Ap}{X:BY}(J:AV X a (A0 K cl pa))(U:AV X b (A0 K cl pb))(D:X.K=K:=by rfl)(V:Jv .NotIn b=AH:=by first|exact Np _ (by decide) (by decide)|rfl):Cq X (.Compare a [.NotIn] [b] pos) (DO K cl (DZ (A9 (Mz AD) pa pb))):=LI (ACt D) YE J U V
def M7(f D:Int->Int->Bool)(p q r:AM->Option AU):AM->Option Ab:=λτ=>(p τ).bind λa=>(q τ).bind λb=>match a,b with|.d (.i i),.d (.i j)=>if f i j=AD then(r τ).bind λc=>match c with|.d (.i k)=>AA (.s (.b (D j k)))|_=>AB else AA (.s (.b AH))|_,_=>AB
def kQ{K:Ap}(h:A7 K cl (M7 f D pa pb pc) σ H Q):Wx (Gf λi j=>.bl (f i j)) (Gf λi j=>.bl (D i j)) (A0 K cl pa) (A0 K cl pb) (A0 K cl pc) σ H Q:=by
 obtain⟨g,F,τ,w,S,A,k⟩:=h;obtain⟨a,W,h1⟩:=Am.mp A;obtain⟨b,Y,h2⟩:=Am.mp h1;refine⟨g,F,τ,a,S,W,λx H1 E s1 B=>⟨g,F,τ,b,S.ak s1,Y,λy H2 G s2 U=>?_⟩⟩;split at h2
 . rename_i i j;refine⟨i,j,B.1,U.1,_,rfl,?_⟩;cases z:f i j with
  |true=>
   rw[AMu z]at h2;obtain⟨c,Z,J⟩:=Am.mp h2;refine⟨g,F,τ,c,(S.ak s1).ak s2,Z,λu V I s3 C=>?_⟩;split at J;. cases J;exact⟨j,_,U.1,C.1,k _ V (s1.ae (s2.ae s3)) rfl⟩
   ∎|false=> rw[AMv ∎]at h2;cases h2;exact k _ H2 (s1.ae s2) rfl
 ∎
def QT(i j:Int):Bool:=Af (i<=j)
def Tv(i j:Int):Bool:=Af (i<j)
def Oa{K:Ap}(A:CN X (EI op) (Gf λi j=>.bl (f i j)))(J:CN X (EI D) (Gf λi j=>.bl (U i j)))(V:AV X a (A0 K cl pa))(W:AV X b (A0 K cl pb))(Y:AV X c (A0 K cl pc))(Z:iO [op,D] [b,c]=AH:=by with_unfolding_all rfl):Cq X (.Compare a [op,D] [b,c] pos) (DO K cl (DZ (M7 f U pa pb pc))):=Pf (ADd A J V W Y Z) λ_ _ _=>YF λ_ _ _=>kQ
def AID{K:Ap}(A:CN X (EI op) (Gf λi j=>.bl (f i j)))(J:CN X (EI D) (Gf λi j=>.bl (U i j)))(V:AV X a (A0 K cl pa))(W:AV X b (A0 K cl pb))(Y:AV X c (A0 K cl pc))(Z:iO [op,D] [b,c]=AH:=by with_unfolding_all rfl):AV X (.Compare a [op,D] [b,c] pos) (A7 K cl (M7 f U pa pb pc)):=C8 (AC2 A J V W Y Z) λ_ _ _=>kQ
def J7:CN X (EI .LtE) (Gf λi j=>.bl (QT i j)):=dO
def UD:CN X (EI .Lt) (Gf λi j=>.bl (Tv i j)):=SE
def Hc(K:Ap)(cl:Nat->AI)(r:List AQ->AR->BZ->Prop)(op:AU->Option Ab):Prop:=∀{g:JN}{F:List AI}{H:AR}{σ:Az}{τ:AM}{a:AU}{x:AQ}{w:Ab}{D:List AI}{Q:BZ},BH K cl g F H σ τ->Bh K cl (A1 g.O F H) H a x D->op a=AA w->(∀v H',As H H'->EJ K cl g.O F H H' w v->Q v H')->r [x] H Q
def FJ(op:AU->Option Ab)(p:AM->Option AU):AM->Option Ab:=λτ=>(p τ).bind op
def lU{K:Ap}(Y:Hc K cl r op)(h:A7 K cl (FJ op pa) σ H Q):Ww r (Wy (A0 K cl pa) W0) σ H Q:=by obtain⟨g,F,τ,w,S,U,k⟩:=h;obtain⟨a,D,J⟩:=Am.mp U;exact⟨g,F,τ,a,S,D,λx H1 A s1 Z=>Y (S.ak s1) Z J λv H' s r=>k v H' (s1.ae s) (r.gm s1)⟩
def NA{K:Ap}{X:BY}{x:AG}{id:String}(C:Hc K cl r op)(Z:FA X (.builtin id) r)(B:X.mg x=AB)(Y:AV X e (A0 K cl pa))(E:L1 x=AA (.builtin id):=by rfl)(A:CG X x:=by rfl)(hn:x≠"__name__":=by decide)(D:(x==("__debug__":AG))=AH:=by decide)(U:Ah [e] X.aa=(AH,Ar e X.aa)::Ah [] X.aa:=by rfl)(J:(Bx pos (Ah [] X.aa)).any (·.1)=AH:=by rfl):AV X (.Call (.Name x p) [e] [] pos) (A7 K cl (FJ op pa)):=C8 (SH Z A B E (D9 Y GI U) hn D U J) λ_ _ _=>lU C
def UZ{K:Ap}{X:BY}{x:AG}{id:String}(C:Hc K cl r op)(Z:FA X (.type id) r)(B:X.mg x=AB)(Y:AV X e (A0 K cl pa))(E:L1 x=AA (.type id):=by rfl)(A:CG X x:=by rfl)(hn:x≠"__name__":=by decide)(D:(x==("__debug__":AG))=AH:=by decide)(U:Ah [e] X.aa=(AH,Ar e X.aa)::Ah [] X.aa:=by rfl)(J:(Bx pos (Ah [] X.aa)).any (·.1)=AH:=by rfl):AV X (.Call (.Name x p) [e] [] pos) (A7 K cl (FJ op pa)):=C8 (AC1 Z A B E (D9 Y GI U) hn D U J) λ_ _ _=>lU C
def J6:AU->Option Ab|.d (.s z)=>if z.length<=AY then AA (.s (.i z.length))else AB|.d (.t l)=>AA (.s (.i l.length))|.d (.l l)=>AA (.s (.i l.length))|.L l=>AA (.s (.i l.length))|.R _ (.L l)=>AA (.s (.i l.length))|.U l=>AA (.s (.i l.length))|_=>AB
def AHX{K:Ap}:Hc K cl (λxs H Q=>∃x n,xs=[x]/\V9 K x H n/\Q (.int n) H) J6:=λ{g F H σ τ a x w J Q}S D e k=>by
 unfold J6 at e;split at e
 . rename_i z;obtain⟨c,rfl⟩:=E3 e;cases(show x=_ from D.1);exact⟨_,_,rfl,⟨c,rfl⟩,k _ H (CQ _) rfl⟩
 . obtain⟨⟨a,xs,rfl,q,r⟩,_⟩:=D;cases e;exact⟨_,_,rfl,.inr ⟨xs,Fe Bu q,rfl⟩,k _ H (CQ _) (by rw[r.ba];rfl)⟩
 . obtain⟨⟨a,xs,rfl,q,r⟩,_⟩:=D;cases e;exact⟨_,_,rfl,.inl ⟨xs,Gp Bu q,rfl⟩,k _ H (CQ _) (by rw[r.ba];rfl)⟩
 . obtain⟨a,xs,F',rfl,rfl,q,r⟩:=D;cases e;exact⟨_,_,rfl,.inl ⟨xs,Lb q,rfl⟩,k _ H (CQ _) (by rw[r.ba];rfl)⟩
 . obtain⟨_,a,xs,F',rfl,rfl,q,r⟩:=D;cases e;exact⟨_,_,rfl,.inl ⟨xs,Lb q,rfl⟩,k _ H (CQ _) (by rw[r.ba];rfl)⟩
 . obtain⟨a,xs,rfl,q,r⟩:=D;cases e;exact⟨_,_,rfl,.inr ⟨xs,Jg (Bu _ _ q),rfl⟩,k _ H (CQ _) (by rw[r.ba];rfl)⟩
 ∎
def Iv{K:Ap}{X:BY}(Y:X.mg "len"=AB)(U:AV X e (A0 K cl pa))(W:CG X "len":=by rfl)(J:X.K=K:=by rfl)(V:Ah [e] X.aa=(AH,Ar e X.aa)::Ah [] X.aa:=by rfl)(D:(Bx pos (Ah [] X.aa)).any (·.1)=AH:=by rfl):AV X (.Call (.Name "len" p) [e] [] pos) (A7 K cl (FJ J6 pa)):=NA AHX (ABI J) Y U boot_len W (by decide) (by decide) V D
def YN(t:AU):Option Ab:=t.eh.map λl=>.n (.L (l.map .d))
def AHY{K:Ap}:Hc K cl (λxs H Q=>∃p ys,xs=[.ref p]/\(Bq K H p ys\/CH K H p ys)/\∀l,H l=AB->Q (.ref l) (Ax H l (.lst ys))) YN:=λ{g F H σ τ a x w V Q}S U e k=>by obtain⟨l,J,rfl⟩:=BK.mp e;obtain⟨p,xs,rfl,q,r⟩:=U.eh J Bu;exact⟨p,xs,rfl,q,λl D=>k _ _ (Df D) (He D r)⟩
def lH(h:a∈F):A1 O F (Ax H a o)=A1 O F H:=by
 funext b;unfold A1;by_cases z:O b\/b∈F;.∎
 .rw[AMv z,AMv z,Bs ∎]
def Xt{K:Ap}:∀{ts U:List AU}{xs ys:List AQ}{D J:List AI},Cu K cl G H ts xs D->Cu K cl G H U ys J->Cu K cl G H (ts++U) (xs++ys) (D++J)|[],_,_,_,_,_,h,k=>by rw[h.1,h.2];exact k|t::r,_,_,_,_,_,h,k=>by obtain⟨v,ys,D,J,rfl,rfl,h2,W⟩:=h;rw[Gg];exact⟨v,_,D,_,rfl,rfl,h2,Xt W k⟩
def kK{K:Ap}{cl:Nat->AI}{g:JN}{F:List AI}{H H':AR}{σ:Az}{τ:AM}{a:AI}{Fx Fy:List AI}{o:Ds}{w:Ab}{u:AQ}(S:BH K cl g F H σ τ)(s:As H H')(r:EJ K cl g.O F H H' w u)(Z:a∈F):∃D,D.Nodup/\(∀b∈D,H b=AB)/\∀Fx,(∀b∈Fx,b∈F\/b∈D)->Bh K cl (A1 g.O Fx H') (Ax H' a o) w.t u D:=by cases w with|s d=>exact⟨[],Ft,(by grind),λFx Y=>⟨DY.ag (DN (by grind)) r,rfl⟩⟩|n t=>obtain⟨Fn,r1,r2,J⟩:=r;refine⟨Fn,r2,J,λFx Y=>r1.ag (DN (by grind)) λb U o' h=>?_⟩;rw[Bs λz=>(S.ao (J b U)).1 (by grind)];exact h
def OB(n:Nat)(m:AN->AM->Option AM):Prop:=∀d τ τ1,m d τ=AA τ1->I9 n τ1=I9 n τ
def Tc(n:Nat)(m:List AN->AM->Option AM):Prop:=∀d τ τ1,m d τ=AA τ1->I9 n τ1=I9 n τ
def oR:∀{n i:Nat}{τ:AM}{o:Option AU},i<n->I9 n (τ.set i o)=I9 n τ|0,_,_,_,h=>∎|n+1,_,[],_,_=>rfl|n+1,0,_::r,_,_=>rfl|n+1,i+1,_::r,_,h=>AMw (AB::.) (oR ∎)
def Ug:∀{n:Nat}{r:AM},I9 n (GL n AB++r)=GL n AB++r|0,_=>rfl|n+1,r=>AMw _ Ug
def DG(h:i<n:=by decide):OB n (GS i):=λd τ τ1 e=>by cases e;exact oR h
def QV:Tc n T4:=λd τ τ1 e=>by match d,e with|[],e=>cases e;rfl
def Io(h:OB n m)(k:Tc n r):Tc n (OM m r):=λd τ τ1 e=>by match d,e with|d::l,e=>obtain⟨V,J,U⟩:=Am.mp e;rw[k _ _ _ U,h _ _ _ J]
def QW(h:Tc n m):OB n (QZ i m):=λd τ τ1 e=>by
  unfold QZ at e;split at e
  . rename_i ds;by_cases z:ds.length=i;.rw[AMu z]at e;exact h _ _ _ e
    ∎
  ∎
def E5{K:Ap}{scope:ED}{N:List AG}(i:Nat)(J:N.Nodup)(D:scope.names.lookup x=AA .local:=by rfl)(hi:N[i]?=AA x:=by rfl):FT (Ct X scope N C s H ex) (.Name x pos) (JR K cl (GS i)):=Gs i J hi (.inl (Sx D)) (.inr (Sx D))
def Iw{K:Ap}{scope:ED}{N:List AG}(i:Nat)(U:N.Nodup)(h2:IZ (Ct X scope N C s H ex) es (OR K cl m))(J:scope.names.lookup x=AA .local:=by rfl)(hi:N[i]?=AA x:=by rfl)(V:(Kz (.Name x pos::es) (Ct X scope N C s H ex).aa).map (·.2)=XZ (.Name x pos) (Ct X scope N C s H ex).aa::(Kz es (Ct X scope N C s H ex).aa).map (·.2):=by rfl):IZ (Ct X scope N C s H ex) (.Name x pos::es) (OR K cl (OM (GS i) m)):=Er i U h2 hi (.inl (Sx J)) (.inr (Sx J)) V
def Qj:AM->Option Bool:=λ_=>AA AD
def II{K:Ap}:Je X [] (DO K cl Qj):=λpins s σ H Q I h=>eK _ s σ H Q I (by obtain⟨g,F,τ,b,S,e,k⟩:=h;cases e;exact k H (CQ _))
def IJ{K:Ap}(h:Cq X c (DO K cl q)):Je X [c] (DO K cl q):=ADe h
def E4{K:Ap}{X:BY}{scope:ED}(own:List AG)(W:List (AG×Nat))(V:ED)(A:OB own.length m)(hi:EX X tg iter (J9 K cl fi))(F:∀C s H ex,FT (Ct X scope (own++W.map (·.1)) C s H ex) tg (JR K cl m))(L:∀C s H ex,Je (Ct X scope (own++W.map (·.1)) C s H ex) ifs (DO K cl q))(E:∀C s H ex,AV (Ct X scope (own++W.map (·.1)) C s H ex) elt (A7 K cl f))(Y:KZ X scope W:=by first|trivial|exact⟨rfl,rfl,trivial⟩|exact⟨rfl,rfl,rfl,rfl,trivial⟩|exact⟨rfl,rfl,rfl,rfl,rfl,rfl,trivial⟩|exact⟨rfl,rfl,rfl,rfl,rfl,rfl,rfl,rfl,trivial⟩)(B:X.bc=AD:=by rfl)(M:X.aa.scope=V:=by rfl)(G:scope.kind=.function:=by rfl)(U:∀y∈scope.names,y.2≠.cell:=by decide+kernel)(J:∀y∈scope.names,y.2=.local->scope.names.lookup y.1=AA .local:=by decide+kernel)(Z:∀y∈scope.names,y.2=.free->V.names.lookup y.1=AA .cell\/V.names.lookup y.1=AA .free:=by decide+kernel)(I:∀x,L4 iter X.aa x=BC x:=by intro _;rfl):AV X (.ListComp elt [⟨tg,iter,ifs,0⟩] scope pos) (A7 K cl (LH own.length (W.map (·.2)) fi m q f)):=C8 (dX B hi G U J (λy N e=>by show X.aa.scope.names.lookup _=_\/X.aa.scope.names.lookup _=_;∎) Y F L E I) λ_ _ _=>kU ∎ λd r τ1 e=>(A _ _ _ e).trans Ug
def Ub{K:Ap}{X:BY}{scope:ED}{y:AG}{U:Ce}(i:Nat)(O:X.N.Nodup)(own:List AG)(Y:List (AG×Nat))(W:ED)(I:OB own.length m)(hi:EX X tg iter (J9 K cl fi))(R:∀C s H ex,FT (Ct X scope (own++Y.map (·.1)) C s H ex) tg (JR K cl m))(b:∀C s H ex,Je (Ct X scope (own++Y.map (·.1)) C s H ex) ifs (DO K cl q))(Q:∀C s H ex,AV (Ct X scope (own++Y.map (·.1)) C s H ex) elt (A7 K cl f))(G:X.N[i]?=AA y:=by rfl)(M:JF X.aa.scope y:=by first|exact .inl rfl|exact .inr rfl)(E:X.fn y=AD\/X.aa.scope.names.lookup y=AA .local:=by first|exact .inl rfl|exact .inr rfl|∎)(A:KZ X scope Y:=by first|trivial|exact⟨rfl,rfl,trivial⟩|exact⟨rfl,rfl,rfl,rfl,trivial⟩|exact⟨rfl,rfl,rfl,rfl,rfl,rfl,trivial⟩|exact⟨rfl,rfl,rfl,rfl,rfl,rfl,rfl,rfl,trivial⟩)(P:X.bc=AD:=by rfl)(c:X.aa.scope=W:=by rfl)(T:scope.kind=.function:=by rfl)(V:∀y∈scope.names,y.2≠.cell:=by decide+kernel)(J:∀y∈scope.names,y.2=.local->scope.names.lookup y.1=AA .local:=by decide+kernel)(B:∀y∈scope.names,y.2=.free->W.names.lookup y.1=AA .cell\/W.names.lookup y.1=AA .free:=by decide+kernel)(L:HY (.ListComp elt [⟨tg,iter,ifs,0⟩] scope pos) (AA (.Name y py)) U.line X.aa=BC AD:=by rfl)(a:∀x,L4 iter X.aa x=BC x:=by intro _;rfl):CY X (.Assign [.Name y py] (.ListComp elt [⟨tg,iter,ifs,0⟩] scope pos) U) (Cv K cl (Ir i (LH own.length (Y.map (·.2)) fi m q f))):=FV (eA O G M E P hi T V J (λy h e=>by show X.aa.scope.names.lookup _=_\/X.aa.scope.names.lookup _=_;∎) A R b Q L a) λD σ H⟨g,F,τ,S,o⟩=>by refine kU (λ_ _ _ _ z=>z) (λd r τ1 e=>(I _ _ _ e).trans Ug) ?_;unfold Ir at o;cases Z:LH _ _ fi m q f τ with|none=>rw[Z]at o;exact o.elim|some w=>rw[Z]at o;refine⟨g,F,τ,w,S,Z,λv H' s r=>?_⟩;obtain⟨F',N,_⟩:=S.fm s r i;exact o F' H' _ N
def GV(q:AM->Option Bool)(G:AM->A8):Nat->AM->A8|0,_=>.er|n+1,τ=>match q τ with|AB=>.er|AA AH=>.nx τ|AA AD=>match G τ with|.nx τ1=>GV q G n τ1|.ct τ1=>GV q G n τ1|.bk τ1=>.nx τ1|.rt w τ1=>.rt w τ1|.er=>.er
def Yt{K:Ap}{X:BY}(n:Nat)(Q:Cq X c (DO K cl q))(P:DS X U (Cv K cl G))(R:XR (Aj X.af X.w) X.A X.aa X.xe:=by exact PassesOwn.never):CY X (.While c U [] pos) (Cv K cl (GV q G n)):=FV (ADb R Q P) λD σ H⟨g,F,τ,S,o⟩=>by refine⟨λm σ H=>∃F τ,BH K cl g F H σ τ/\FH K cl g D (GV q G m τ),∎,λm T H1⟨Y,τ1,Z,J⟩=>?_⟩;cases m with|zero=>exact J.elim|succ m=>unfold GV at J;cases B:q _ with|none=>rw[B]at J;exact J.elim|some b=>rw[B]at J;refine⟨g,Y,τ1,b,Z,B,λH2 s2=>?_⟩;cases b with|false=>exact J Y H2 _ (Z.ak s2)|true=>refine⟨λC M=>∃I W,BH K cl g I M C W/\FH K cl g D (GV q G m W),∎,g,Y,τ1,Z.ak s2,?_⟩;cases A:G _ with|nx V=>exactλL N E O=>∎|ct V=>exactλL N E O=>∎|bk V=>simp only[A]at J;exact J|rt w V=>simp only[A]at J;exact J|er=>simp only[A]at J;∎
def oE{K:Ap}{X:BY}{x:AG}(W:X.mg x=AA u)(r:BQ v u)(Y:∀G,DY K G d v)(U:CG X x:=by rfl)(J:(x==("__debug__":AG))=AH:=by decide):AV X (.Name x pos) (A7 K cl (CC (.s d))):=Qt (Pc U W r J) Y
def Ta(P:CB)(w:Ba)(K:Ap)(mg:AG->Option AJ)(base:Au)(cl:Nat->AI)(N:List AG)(q:AG)(st:DE)(f:AI)(k:Nat)(G:AM->A8):Prop:=∀(D:AJ)(A:Ci)(outer:List DT)(s:AX)(H:AR)(E:FU),CP k (A.deeper (Fu q (Bz st) s.heap.objs.size f D))->DS (EZ G4 P w K mg base N q (Bz st) f D A outer s H E).uf (Lc st) (Cv K cl G)
def UY{K:Ap}{X:BY}(Y:X.mg "list"=AB)(U:AV X e (A0 K cl pa))(W:CG X "list":=by rfl)(J:X.K=K:=by rfl)(V:Ah [e] X.aa=(AH,Ar e X.aa)::Ah [] X.aa:=by rfl)(D:(Bx pos (Ah [] X.aa)).any (·.1)=AH:=by rfl):AV X (.Call (.Name "list" p) [e] [] pos) (A7 K cl (FJ YN pa)):=UZ AHY (ABL J) Y U AFC W (by decide) (by decide) V D
def Qf(t:AU):Option Ab:=t.eh.map λl=>.s (.t l)
def AHh{K:Ap}{X:BY}(V:X.K=K):Hc K cl (λxs H Q=>∃p ys,xs=[.ref p]/\((Bq X.K H p ys/\∀l,H l=AB->Q (.ref l) (Ax H l (.tup ys)))\/(CH X.K H p ys/\Q (.ref p) H))) Qf:=λ{g F H σ τ a x w Z Q}S U e k=>by
 subst V;obtain⟨l,D,rfl⟩:=BK.mp e;unfold AU.eh at D;split at D
 . cases D;obtain⟨⟨a,xs,rfl,q,r⟩,_⟩:=U;exact⟨a,xs,rfl,.inr ⟨Fe Bu q,k _ H (CQ _) ⟨a,xs,rfl,q,r⟩⟩⟩
 . obtain⟨a,xs,rfl,q,r⟩:=U.az D Bu;refine⟨a,xs,rfl,.inl ⟨q,λl J=>?_⟩⟩;obtain⟨W,Y⟩:=S.ao J;exact k _ _ (Df J) ⟨l,xs,rfl,Jg (CU.mpr ⟨Y,W,Dh⟩),r.ag (FI (Df J))⟩
def AIT{K:Ap}{X:BY}(Y:X.mg "tuple"=AB)(U:AV X e (A0 K cl pa))(W:CG X "tuple":=by rfl)(J:X.K=K:=by rfl)(V:Ah [e] X.aa=(AH,Ar e X.aa)::Ah [] X.aa:=by rfl)(D:(Bx pos (Ah [] X.aa)).any (·.1)=AH:=by rfl):AV X (.Call (.Name "tuple" p) [e] [] pos) (A7 K cl (FJ Qf pa)):=UZ (AHh J) ABR Y U AL1 W (by decide) (by decide) V D
def T7:AU->Option Ab|.d (.i i)=>AA (.s (.i i))|.d (.b k)=>AA (.s (.i (if k then 1 else 0)))|_=>AB
def AHV{K:Ap}:Hc K cl (λxs H Q=>(∃i,xs=[.int i]/\Q (.int i) H)\/∃k,xs=[.bl k]/\Q (.int (if k then 1 else 0)) H) T7:=λ{g F H σ τ a x w J Q}S D e k=>by
 unfold T7 at e;split at e;.cases e;cases(show x=_ from D.1);exact .inl ⟨_,rfl,k _ H (CQ _) rfl⟩
 .cases e;cases(show x=_ from D.1);exact .inr ⟨_,rfl,k _ H (CQ _) rfl⟩
 ∎
def AIK{K:Ap}{X:BY}(W:X.mg "int"=AB)(J:AV X e (A0 K cl pa))(V:CG X "int":=by rfl)(U:Ah [e] X.aa=(AH,Ar e X.aa)::Ah [] X.aa:=by rfl)(D:(Bx pos (Ah [] X.aa)).any (·.1)=AH:=by rfl):AV X (.Call (.Name "int" p) [e] [] pos) (A7 K cl (FJ T7 pa)):=UZ AHV ABG W J ALx V (by decide) (by decide) U D
def mK:=F9 λi j=>AA (.i (if j<i then j else i))
def mJ:=F9 λi j=>AA (.i (if j>i then j else i))
def AHl(h:F9 f a b=AA w):∃i j d,a=.d (.i i)/\b=.d (.i j)/\f i j=AA d/\w=.s d:=by
 unfold F9 at h;split at h
 . obtain⟨d,J,U⟩:=BK.mp h;∎
 ∎
def oF{K:Ap}{cl:Nat->AI}{X:BY}{a b:BE}{x:AG}{p pos:Ce}{pa pb:AM->Option AU}{gV:Int->Int->Int}{id:String}(E:FA X (.builtin id) (λxs H Q=>∃i j,xs=[.int i,.int j]/\Q (.int (gV i j)) H))(I:X.mg x=AB)(B:AV X a (A0 K cl pa))(C:AV X b (A0 K cl pb))(L:L1 x=AA (.builtin id))(G:CG X x)(hn:x≠"__name__")(D:(x==("__debug__":AG))=AH)(V:Ah [a,b] X.aa=(AH,Ar a X.aa)::Ah [b] X.aa)(J:Ah [b] X.aa=(AH,Ar b X.aa)::Ah [] X.aa)(U:(Bx pos (Ah [b] X.aa)).any (·.1)=AH):AV X (.Call (.Name x p) [a,b] [] pos) (A7 K cl (A9 (F9 λi j=>AA (.i (gV i j))) pa pb)):=C8 (SH E G I L (D9 B (D9 C GI J) V) hn D V U) λσ H Q⟨g,F,τ,w,S,A,k⟩=>by obtain⟨ta,W,h1⟩:=Am.mp A;obtain⟨tb,Y,h2⟩:=Am.mp h1;obtain⟨i,j,d,rfl,rfl,Z,rfl⟩:=AHl h2;cases Z;refine⟨g,F,τ,_,S,W,λu H1 O s1 M=>⟨g,F,τ,_,S.ak s1,Y,λv H2 P s2 N=>?_⟩⟩;cases(show u=_ from M.1);cases(show v=_ from N.1);exact⟨i,j,rfl,k _ H2 (s1.ae s2) rfl⟩
def OX{K:Ap}{X:BY}(A:X.mg "min"=AB)(U:AV X a (A0 K cl pa))(V:AV X b (A0 K cl pb))(W:X.bc=AD:=by rfl)(Z:CG X "min":=by rfl)(Y:Ah [a,b] X.aa=(AH,Ar a X.aa)::Ah [b] X.aa:=by rfl)(D:Ah [b] X.aa=(AH,Ar b X.aa)::Ah [] X.aa:=by rfl)(J:(Bx pos (Ah [b] X.aa)).any (·.1)=AH:=by rfl):AV X (.Call (.Name "min" p) [a,b] [] pos) (A7 K cl (A9 mK pa pb)):=oF (ABN W) A U V AJs Z (by decide) (by decide) Y D J
def Qu{K:Ap}{X:BY}(A:X.mg "max"=AB)(U:AV X a (A0 K cl pa))(V:AV X b (A0 K cl pb))(W:X.bc=AD:=by rfl)(Z:CG X "max":=by rfl)(Y:Ah [a,b] X.aa=(AH,Ar a X.aa)::Ah [b] X.aa:=by rfl)(D:Ah [b] X.aa=(AH,Ar b X.aa)::Ah [] X.aa:=by rfl)(J:(Bx pos (Ah [b] X.aa)).any (·.1)=AH:=by rfl):AV X (.Call (.Name "max" p) [a,b] [] pos) (A7 K cl (A9 mJ pa pb)):=oF (bV W) A U V AFD Z (by decide) (by decide) Y D J
def Hb:List AN->Option (List Int)|[]=>AA []|.i k::r=>(Hb r).map (k::.)|_=>AB
def Bd.qp{K:Ap}:∀{ds:List AN}{ns:List Int}{vs:List AQ},Hb ds=AA ns->Bd K G ds vs->vs=ns.map AQ.int|[],_,_,e,r=>by cases e;exact r|.i k::l,_,_,e,r=>by obtain⟨ns,J,rfl⟩:=BK.mp e;obtain⟨v,ys,rfl,r1,r2⟩:=r;rw[show v=_ from r1,Bd.qp J r2];rfl|.n::_,_,_,e,_|.b _::_,_,_,e,_|.s _::_,_,_,e,_|.t _::_,_,_,e,_|.l _::_,_,_,e,_|.m _ _::_,_,_,e,_=>by cases e
def UC(t:AU):Option Ab:=t.az.bind λl=>(Hb l).map λns=>.s (.i ns.sum)
def AHg{K:Ap}:Hc K cl (λxs H Q=>∃(p:AI)(ns:List Int),xs=[.ref p]/\Bq K H p (ns.map AQ.int)/\Q (.int ns.sum) H) UC:=λ{g F H σ τ a x w Y Q}S W e k=>by obtain⟨l,D,J⟩:=Am.mp e;obtain⟨ns,U,rfl⟩:=BK.mp J;obtain⟨p,xs,rfl,q,r⟩:=W.az D Bu;rw[r.qp U]at q;exact⟨p,ns,rfl,q,k _ H (CQ _) rfl⟩
def oM{K:Ap}{X:BY}(Z:X.mg "sum"=AB)(U:AV X e (A0 K cl pa))(V:X.bc=AD:=by rfl)(Y:CG X "sum":=by rfl)(J:X.K=K:=by rfl)(W:Ah [e] X.aa=(AH,Ar e X.aa)::Ah [] X.aa:=by rfl)(D:(Bx pos (Ah [] X.aa)).any (·.1)=AH:=by rfl):AV X (.Call (.Name "sum" p) [e] [] pos) (A7 K cl (FJ UC pa)):=NA AHg (ABQ V J) Z U AL0 Y (by decide) (by decide) W D
def J4:List Int->Option Int|[]=>AB|k::r=>AA (r.foldl Dx k)
def LD:List Int->Option Int|[]=>AB|k::r=>AA (r.foldl Ey k)
def lB:∀(r:List Int)(k:Int),(r.foldl Dx k∈k::r)/\∀a∈k::r,r.foldl Dx k<=a
 |[],k=>∎|b::r,k=>by
  obtain⟨h1,h2⟩:=lB r (Dx k b);refine⟨?_,λa J=>?_⟩;.∎
  . have D:=h2 (Dx k b) B7;∎
def lA:∀(r:List Int)(k:Int),(r.foldl Ey k∈k::r)/\∀a∈k::r,a<=r.foldl Ey k
 |[],k=>∎|b::r,k=>by
  obtain⟨h1,h2⟩:=lA r (Ey k b);refine⟨?_,λa J=>?_⟩;.∎
  . have D:=h2 (Ey k b) B7;∎
def Qb(t:AU):Option Ab:=t.az.bind λl=>(Hb l).bind λns=>(J4 ns).map λk=>.s (.i k)
def T9(t:AU):Option Ab:=t.az.bind λl=>(Hb l).bind λns=>(LD ns).map λk=>.s (.i k)
def AHW{K:Ap}:Hc K cl (λxs H Q=>∃(p:AI)(ns:List Int),xs=[.ref p]/\Bq K H p (ns.map AQ.int)/\0<ns.length/\∀M,M∈ns->(∀a,a∈ns->M<=a)->Q (.int M) H) Qb:=λ{g F H σ τ a x w B Q}S A e k=>by obtain⟨l,J,U⟩:=Am.mp e;obtain⟨ns,W,Y⟩:=Am.mp U;obtain⟨m,D,rfl⟩:=BK.mp Y;obtain⟨p,xs,rfl,q,r⟩:=A.az J Bu;rw[r.qp W]at q;cases ns with|nil=>cases D|cons z zs=>cases D;obtain⟨h1,h2⟩:=lB zs z;refine⟨p,_,rfl,q,gN _,λM C Z=>?_⟩;rw[show M=zs.foldl Dx z from∎];exact k _ H (CQ _) rfl
def AHb{K:Ap}:Hc K cl (λxs H Q=>∃(p:AI)(ns:List Int),xs=[.ref p]/\Bq K H p (ns.map AQ.int)/\0<ns.length/\∀M,M∈ns->(∀a,a∈ns->a<=M)->Q (.int M) H) T9:=λ{g F H σ τ a x w B Q}S A e k=>by obtain⟨l,J,U⟩:=Am.mp e;obtain⟨ns,W,Y⟩:=Am.mp U;obtain⟨m,D,rfl⟩:=BK.mp Y;obtain⟨p,xs,rfl,q,r⟩:=A.az J Bu;rw[r.qp W]at q;cases ns with|nil=>cases D|cons z zs=>cases D;obtain⟨h1,h2⟩:=lA zs z;refine⟨p,_,rfl,q,gN _,λM C Z=>?_⟩;rw[show M=zs.foldl Ey z from∎];exact k _ H (CQ _) rfl
def Yo{K:Ap}{X:BY}(Z:X.mg "min"=AB)(U:AV X e (A0 K cl pa))(V:X.bc=AD:=by rfl)(Y:CG X "min":=by rfl)(J:X.K=K:=by rfl)(W:Ah [e] X.aa=(AH,Ar e X.aa)::Ah [] X.aa:=by rfl)(D:(Bx pos (Ah [] X.aa)).any (·.1)=AH:=by rfl):AV X (.Call (.Name "min" p) [e] [] pos) (A7 K cl (FJ Qb pa)):=NA AHW (ABO V J) Z U AJs Y (by decide) (by decide) W D
def oH{K:Ap}{X:BY}(Z:X.mg "max"=AB)(U:AV X e (A0 K cl pa))(V:X.bc=AD:=by rfl)(Y:CG X "max":=by rfl)(J:X.K=K:=by rfl)(W:Ah [e] X.aa=(AH,Ar e X.aa)::Ah [] X.aa:=by rfl)(D:(Bx pos (Ah [] X.aa)).any (·.1)=AH:=by rfl):AV X (.Call (.Name "max" p) [e] [] pos) (A7 K cl (FJ T9 pa)):=NA AHb (ABM V J) Z U AFD Y (by decide) (by decide) W D
def AII{K:Ap}{X:BY}(J:AV X a (A0 K cl pa))(U:AV X b (A0 K cl pb))(D:X.K=K:=by rfl)(V:Jv .In b=AH:=by first|exact Np _ (by decide) (by decide)|rfl):AV X (.Compare a [.In] [b] pos) (A7 K cl (A9 (Mz AH) pa pb)):=oC (dN D) YE J U V
def AIO{K:Ap}{X:BY}(V:CP n X.A)(J:AV X a (A0 K cl pa))(U:AV X b (A0 K cl pb))(D:X.K=K:=by rfl):AV X (.Compare a [.NotEq] [b] pos) (A7 K cl (A9 (Cm AD) pa pb)):=oC (Mp dP (dQ V.qe D)) lW J U
abbrev YS:=F9 λi j=>if 0<=j/\j<=1000000/\i.natAbs<2^64 then AA (.i (i^j.toNat))else AB
def AIP{K:Ap}(D:AV X a (A0 K cl pa))(J:AV X b (A0 K cl pb)):AV X (.BinOp a .Pow b pos) (A7 K cl (A9 YS pa pb)):=OY ACu (T2 λi j d h=>by obtain⟨h1,rfl⟩:=E3 h;exact⟨h1,λ_=>rfl⟩) D J
def L7(k:Nat):List AN->List AN|[]=>[]|d::r=>.t [.i (k:Int),d]::L7 (k+1) r
def kZ:∀{ds:List AN}{k:Nat},(L7 k ds).length=ds.length|[],_=>rfl|d::r,k=>AMw (.+1) kZ
def kY:∀{ds:List AN}{k i:Nat}{y:AN},(L7 k ds)[i]?=AA y->∃d,ds[i]?=AA d/\y=.t [.i ((k+i:Nat):Int),d]|[],_,_,_,e=>by cases e|d::r,k,0,_,e=>by cases e;∎|d::r,k,i+1,_,e=>by obtain⟨J,h1,h2⟩:=kY (i:=i) e;∎
def NC{K:Ap}{X:BY}(C:CG X "enumerate")(I:X.mg "enumerate"=AB)(h:AV X e (A7 K cl fa))(B:X.K=K:=by rfl)(M:Ah [e] X.aa=[(AH,Ar e X.aa)]:=by rfl):EX X (.Tuple es T tpos) (.Call (.Name "enumerate" p) [e] [] pos) (J9 K cl λτ=>(fa τ).bind λw=>match w.d with|AA (.l ds)=>AA (L7 0 ds)|_=>AB):=Qg (ADM C I h B M) λσ H R⟨g,F,τ,ds,S,Z,k⟩=>by obtain⟨w,Y,J⟩:=Am.mp Z;refine⟨g,F,τ,w,S,Y,λv H1 s1 r=>?_⟩;match hw:w.d,J with
 |AA (.l D),J=>
  cases J;obtain⟨a,xs,rfl,W,P⟩:=r.rp S s1 hw;refine⟨a,rfl,⟨xs,Gp Bu W⟩,k _ _ (λG=>Bq K G a xs/\Bd K G D xs) s1 (λG G' e h=>⟨e.xr h.1,h.2.fz e⟩) ⟨W,P⟩ λO F H E h=>⟨⟨xs,Gp Bu h.1,by rw[kZ];exact Ig h.2.ba⟩,λi d A=>?_⟩⟩;obtain⟨b,h1,rfl⟩:=kY A;obtain⟨v,U,Q⟩:=h.2.at h1;refine⟨⟨xs,v,Gp Bu h.1,U⟩,λx H' y=>?_⟩;obtain⟨r,z,rfl,L,rfl,N⟩:=y;have hz:=N xs (Gp Bu h.1);rw[U]at hz;cases hz;have V:As H (Ax H r (.tup [.int (i),v])):=Df L;refine⟨V,r,_,rfl,Jg (CU.mpr ⟨λz=>?_,λz=>?_,Dh⟩),.int _,_,rfl,?_,v,[],rfl,Q.ag (FI V),rfl⟩;.∎
  .∎
  .show _=_;rw[Sh]
def eS:AQ->List AQ->AR->BZ->Prop:=λx vs H Q=>∃l b xs zs,x=.ref l/\vs=[.ref b]/\H l=AA (.lst xs)/\EY H b (.lst zs)/\xs.length+zs.length<=AY/\Q .non (Ax H l (.lst (xs++zs)))
def ACW:bL X "list.extend" eS:=by
 intro pins s σ H x vs v L Q I G E h;obtain⟨l,b,xs,zs,rfl,rfl,W,Z,hz,q⟩:=h;cases G;obtain⟨u,rfl,C⟩:=E.om;cases C;obtain⟨z,J,n,r,K,e⟩:=I.tw W;obtain⟨M,D,B,r2,Y⟩:=Z.ok I.ay;have A:=r2.aj;have V:J.toArray.size+D.toArray.size<=AY:=by∎
 have U:¬(!J.toArray.isEmpty&&AFO (J.toArray.size+D.toArray.size))=AD:=by rw[ACa V,AI6];∎
 refine iK AKV ⟨_,e,rfl⟩ F.entry_list_extend (by rfl) (AutoSeq1.list_extend_list_list_0 l J.toArray n b D.toArray B U ∎ ∎) ⟨e,Y,?_⟩;refine⟨.non,_,I.tu (its':=J++D) W e (by simp) (r.cw r2) ?_,rfl,q⟩;∎
def ADG{X:BY}(K:Ap){p pos:Ce}(Z:AV X a ta)(Y:C7 X [e] t)(W:X.K=K:=by rfl)(D:Jt a "extend" X.aa (Ar a X.aa)=Ar a X.aa:=by rfl)(U:((Bx pos (Ah [e] X.aa)).all (λx=>!x.1)&&(Ju pos (Jy [] X.aa)).all (λx=>x.1.isSome)&&Af ([e].length+([]:List Fv).length+(if([]:List Fv).isEmpty then 0 else 1)<30))=AD:=by rfl)(J:(p.endLine==pos.line)=AD:=by rfl)(A:Ah [e] X.aa=(AH,Ar e X.aa)::Ah [] X.aa:=by rfl)(V:(Bx pos (Ah [] X.aa)).any (·.1)=AH:=by rfl):AV X (.Call (.Attribute a "extend" p) [e] [] pos) (SQ K "list" eS ta t):=SG AKT AKV F.type_list_extend ACW Z Y W D U J A V
def Cu.dh{K:Ap}:∀{l:List AU}{xs:List AQ}{F:List AI}(j:Nat){t:AU},l[j]?=AA t->Cu K cl G H l xs F->∃v U,xs[j]?=AA v/\Bh K cl G H t v U/\(∀a∈U,a∈F)/\(F.Nodup->U.Nodup)/\∀{G' H':AR}{t':AU}{v':AQ}{Fn:List AI},As G G'->(∀a∈F,a∉U->∀o,H a=AA o->H' a=AA o)->F.Nodup->Bh K cl G' H' t' v' Fn->∃F',Cu K cl G' H' (l.set j t') (xs.set j v') F'/\(∀a,a∈F'↔(a∈F/\a∉U)\/a∈Fn)/\(Fn.Nodup->(∀a∈Fn,a∈F->a∈U)->F'.Nodup)|[],_,_,_,_,e,_=>by cases e|x::r,_,_,0,_,e,h=>by obtain⟨u,ys,W,Z,rfl,rfl,h2,B⟩:=h;cases e;refine⟨u,W,rfl,h2,λa D=>GK _ D,λJ=>(HA.mp J).1,λ{G' H' t' v' Fn}e k J w=>?_⟩;obtain⟨M,I,E⟩:=HA.mp J;have A:=λa D C=>E a C a D rfl;refine⟨Fn++Z,⟨v',ys,Fn,Z,rfl,rfl,w,B.ag e λa D=>k a (Dl _ D) (A a D)⟩,λa=>?_,λN O=>?_⟩;all_goals∎|x::r,_,_,j+1,_,e,h=>by obtain⟨u,ys,Y,Z,rfl,rfl,h2,B⟩:=h;obtain⟨v,W,P,Q,L,R,S⟩:=Cu.dh j e B;refine⟨v,W,P,Q,λa D=>Dl _ (L a D),λJ=>R (HA.mp J).2.1,λ{G' H' t' v' Fn}e k J w=>?_⟩;obtain⟨M,I,E⟩:=HA.mp J;have A:∀a∈Y,a∉W:=λa D C=>E a D a (L a C) rfl;obtain⟨F',X,b,c⟩:=S e (λa D=>k a (Dl _ D)) I w;refine⟨Y++F',⟨u,_,Y,F',rfl,rfl,h2.ag e λa D=>k a (GK _ D) (A a D),X⟩,λa=>?_,λN O=>?_⟩;all_goals∎
def AU.lr:AU->List AU|.L l=>l|.M _ l=>l|.U l=>l|.B _ _ l=>l|.R _ t=>t.lr|_=>[]
def AU.wy(t:AU)(j:Nat)(c:AU):AU:=match t with|.L l=>.L (l.set j c)|.M ks l=>.M ks (l.set j c)|.U l=>.U (l.set j c)|.B k fs l=>.B k fs (l.set j c)|.R k t=>.R k (t.wy j c)|t=>t
def GR(H:AR)(v:AQ)(j:Nat):Option AQ:=match v with
 |.ref a=>match H a with |AA (.lst xs)=>xs[j]?|AA (.tup xs)=>xs[j]?|AA (.dK kvs)=>(kvs[j]?).map (·.2)|AA (.ins _ _ fs)=>(fs[j]?).map (·.2)|_=>AB
 |_=>AB
def AG7(e:As H H')(h:GR H v j=AA u):GR H' v j=AA u:=by unfold GR at h⊢;cases v with
 |ref a=>simp at h⊢;cases q:H a with|none=>∎|some o=>rw[q]at h;rw[e _ _ q];exact h
 |_=>cases h
def ZI{α β:Type}{ks:List α}{xs:List β}(h:ks.length=xs.length){j:Nat}{v:β}(e:xs[j]?=AA v):((ks.zip xs)[j]?).map (·.2)=AA v:=by grind
def UJ{l:List α}(h:l[j]?=AA v):l.set j v=l:=by obtain⟨h1,h2⟩:=EN.mp h;rw[<-h2,gJ]
def kH{K:Ap}(gh:As G H)(j:Nat):∀{t:AU}{v:AQ}{F:List AI},t.lr[j]?=AA c->Bh K cl G H t v F->∃J D,GR H v j=AA J/\Bh K cl G H c J D/\(∀a∈D,a∈F)/\(F.Nodup->D.Nodup)/\∀{G' H':AR}{g:AU}{Fn:List AI},As G G'->As G' H'->(∀a∈F,a∉D->∀o,H a=AA o->H' a=AA o)->F.Nodup->Bh K cl G' H' g J Fn->∃F',(Bh K cl G' H' (t.wy j g) v F'/\GR H' v j=AA J)/\(∀a,a∈F'↔(a∈F/\a∉D)\/a∈Fn)/\(Fn.Nodup->(∀a∈Fn,a∈F->a∈D)->F'.Nodup)
 |.d _,_,_,e,_=>by cases e|.H _,_,_,e,_=>by cases e|.R k t,v,F,e,h=>by obtain⟨J,D,q1,N,Z,O,P⟩:=kH gh j (t:=t) e h.2;refine⟨J,D,q1,N,Z,O,λe X k W w=>?_⟩;obtain⟨F',Y,f,S⟩:=P e X k W w;exact⟨F',⟨⟨h.1,Y.1⟩,Y.2⟩,f,S⟩|.U l,v,F,e,h=>by
  obtain⟨a,xs,rfl,q,r⟩:=h;obtain⟨J,D,E,N,Z,O,P⟩:=r.dh j e;have C:∀{A:AR},A a=AA (.tup xs)->GR A (.ref a) j=AA J:=λh=>by unfold GR;simp only;rw[h];exact E
  refine⟨J,D,C (gh _ _ q),N,Z,O,λe X k W w=>?_⟩;obtain⟨F',Y,f,S⟩:=P e k W w;rw[UJ E]at Y;exact⟨F',⟨⟨a,xs,rfl,e _ _ q,Y⟩,C (X _ _ (e _ _ q))⟩,f,S⟩|.L l,v,F,e,h=>by
  obtain⟨a,xs,y,rfl,rfl,q,r⟩:=h;obtain⟨J,D,E,N,Z,O,P⟩:=r.dh j e;have C:∀{A:AR},A a=AA (.lst xs)->GR A (.ref a) j=AA J:=λh=>by unfold GR;simp only;rw[h];exact E
  refine⟨J,D,C q,N,λa i=>DK _ (Z a i),λW=>O (EG.mp W).2,λ{G' H' g Fn}e X k W w=>?_⟩
  . obtain⟨n,p⟩:=EG.mp W;obtain⟨F',Y,f,S⟩:=P e (λb I=>k b (DK _ I)) p w;rw[UJ E]at Y;have Q:a∉D:=λz=>n (Z a z);refine⟨a::F',⟨⟨a,xs,F',rfl,rfl,k a B7 Q _ q,Y⟩,C (k a B7 Q _ q)⟩,λb=>?_,λu x=>EG.mpr ⟨λz=>?_,S u λb I s=>x b I (DK _ s)⟩⟩;all_goals∎|.M ks l,v,F,e,h=>by
  obtain⟨a,xs,y,rfl,rfl,m,q,r⟩:=h;obtain⟨J,D,E,N,Z,O,P⟩:=r.dh j e;have C:∀{A:AR},A a=AA (.dK (ks.zip xs))->GR A (.ref a) j=AA J:=λh=>by unfold GR;simp only;rw[h];exact ZI m.1 E
  refine⟨J,D,C q,N,λa i=>DK _ (Z a i),λW=>O (EG.mp W).2,λ{G' H' g Fn}e X k W w=>?_⟩
  . obtain⟨n,p⟩:=EG.mp W;obtain⟨F',Y,f,S⟩:=P e (λb I=>k b (DK _ I)) p w;rw[UJ E]at Y;have Q:a∉D:=λz=>n (Z a z);refine⟨a::F',⟨⟨a,xs,F',rfl,rfl,m,k a B7 Q _ q,Y⟩,C (k a B7 Q _ q)⟩,λb=>?_,λu x=>EG.mpr ⟨λz=>?_,S u λb I s=>x b I (DK _ s)⟩⟩;all_goals∎|.B c fs l,v,F,e,h=>by
  obtain⟨a,dx,xs,y,rfl,rfl,m,q,qd,r⟩:=h;obtain⟨J,D,E,N,Z,O,P⟩:=r.dh j e;have C:∀{A:AR},A a=AA (.ins (cl c) dx (fs.zip xs))->GR A (.ref a) j=AA J:=λh=>by unfold GR;simp only;rw[h];exact ZI m E
  refine⟨J,D,C q,N,λa i=>DK _ (DK _ (Z a i)),λW=>O (EG.mp (EG.mp W).2).2,λ{G' H' g Fn}e X k W w=>?_⟩;. obtain⟨n,n0⟩:=EG.mp W;obtain⟨n3,p⟩:=EG.mp n0;obtain⟨F',Y,f,S⟩:=P e (λb I=>k b (DK _ (DK _ I))) p w;rw[UJ E]at Y;have Q:a∉D:=λz=>n (DK _ (Z a z));have nx:dx∉D:=λz=>n3 (Z dx z);refine⟨a::dx::F',⟨⟨a,dx,xs,F',rfl,rfl,m,k a B7 Q _ q,k dx (DK _ B7) nx _ qd,Y⟩,C (k a B7 Q _ q)⟩,λb=>?_,∎⟩;all_goals∎
def AU.we:AU->List Nat->Option AU|t,[]=>AA t|t,j::r=>(t.lr[j]?).bind λc=>c.we r
def AU.wb:AU->List Nat->AU->AU|_,[],x=>x|t,j::r,x=>match t.lr[j]? with|AA c=>t.wy j (c.wb r x)|AB=>t
def LJ(H:AR):AQ->List Nat->Option AQ|v,[]=>AA v|v,j::r=>(GR H v j).bind λu=>LJ H u r
def oQ(e:As H H'):∀{π:List Nat}{v u:AQ},LJ H v π=AA u->LJ H' v π=AA u|[],_,_,h=>h|j::r,_,_,h=>by obtain⟨w,h1,h2⟩:=Am.mp h;exact Am.mpr ⟨w,AG7 e h1,oQ e h2⟩
def kI{K:Ap}(L:As G H):∀{π:List Nat}{t c:AU}{v:AQ}{F:List AI},t.we π=AA c->Bh K cl G H t v F->∃W D,LJ H v π=AA W/\Bh K cl G H c W D/\(∀a∈D,a∈F)/\(F.Nodup->D.Nodup)/\∀{G' H':AR}{Y:AU}{Fn:List AI},As G G'->As G' H'->(∀a∈F,a∉D->∀o,H a=AA o->H' a=AA o)->F.Nodup->Bh K cl G' H' Y W Fn->Fn.Nodup->(∀a∈Fn,a∈F->a∈D)->∃F',(Bh K cl G' H' (t.wb π Y) v F'/\LJ H' v π=AA W)/\(∀a,a∈F'↔(a∈F/\a∉D)\/a∈Fn)/\F'.Nodup|[],t,c,v,F,e,h=>by cases e;exact⟨v,F,rfl,h,λ_ h=>h,id,λ{G' H' Y Fn}e n k Z w A M=>⟨Fn,⟨w,rfl⟩,λa=>⟨.inr,λz=>z.elim (λz=>absurd z.1 z.2) id⟩,A⟩⟩|j::r,t,c,v,F,e,h=>by obtain⟨s,C,S⟩:=Am.mp e;obtain⟨vs,m,d,f,B,O,g⟩:=kH L j C h;obtain⟨W,D,p1,p2,N,X,b⟩:=kI L S f;refine⟨W,D,Am.mpr ⟨vs,d,p1⟩,p2,λa J=>B a (N a J),λZ=>X (O Z),λ{G' H' Y Fn}E I k Z w A M=>?_⟩;obtain⟨R,Q,q,l⟩:=b E I (λa J U=>k a (B a J) U) (O Z) w A λa J U=>M a J (B a U);obtain⟨F',P,p,i⟩:=g E I (λa J U=>k a J λz=>U (N a z)) Z Q.1;refine⟨F',⟨by show Bh K cl G' H' (match t.lr[j]? with|AA c=>t.wy j (c.wb r Y)|AB=>t) v F';rw[C];exact P.1,Am.mpr ⟨vs,P.2,Q.2⟩⟩,λa=>?_,i l λa J U=>?_⟩;all_goals∎
def AM.at(τ:AM)(i:Nat)(π:List Nat):Option AU:=(τ[i]?).join.bind λt=>t.we π
def AM.fm(τ:AM)(i:Nat)(π:List Nat)(c:AU):AM:=match(τ[i]?).join with|AA t=>τ.set i (AA (t.wb π c))|AB=>τ
def IF(H:AR)(σ:Az)(i:Nat)(π:List Nat)(v:AQ):Prop:=∃u,σ[i]?=AA (AA u)/\LJ H u π=AA v
def IF.ag(e:As H H')(h:IF H σ i π v):IF H' σ i π v:=by obtain⟨u,h1,h2⟩:=h;exact⟨u,h1,oQ e h2⟩
def IF.jb(h:IF H σ i π v)(k:IF H σ i π u):v=u:=by obtain⟨a,h1,h2⟩:=h;obtain⟨b,k1,k2⟩:=k;∎
def BH.wj{K:Ap}{g:JN}{τ:AM}(S:BH K cl g F H σ τ)(h:τ.at i π=AA c):∃v J,IF H σ i π v/\Bh K cl (A1 g.O F H) H c v J/\(∀a∈J,a∈F)/\J.Nodup/\∀{H':AR}{U:AU}{Fn:List AI},(∀a o,a∉J->H a=AA o->H' a=AA o)->(∀a∈Fn,a∈J\/H a=AB)->Fn.Nodup->(∀Fx,(∀a,a∈Fx↔a∈F\/a∈Fn)->Bh K cl (A1 g.O Fx H') H' U v Fn)->∃F',BH K cl g F' H' σ (τ.fm i π U)/\IF H' σ i π v:=by
  obtain⟨t,A,O⟩:=Am.mp h;have W:=Lr.mp A;obtain⟨v,J,B,b,sub,E,R⟩:=S.dh W;obtain⟨l,M,d,e,V,f,j⟩:=kI Bu O b;refine⟨l,M,⟨v,B,d⟩,e,λa D=>sub a (V a D),f E,λ{H' U Fn}k C X w=>?_⟩;have Z:∀{Fx:List AI},(∀a∈Fx,a∈F\/a∈Fn)->As (A1 g.O F H) (A1 g.O Fx H'):=λ{Fx}Q a o h=>by obtain⟨h1,h2,P⟩:=CU.mp h;refine CU.mpr ⟨h1,λz=>?_,k a o (λz=>h2 (sub a (V a z))) P⟩;∎
  obtain⟨L,G,m,n⟩:=j (H':=H') (Z λa D=>Cb.mp D) Bu (λa D Y o h=>k a o Y h) E (w (F++Fn) λa=>Cb) X λa D Y=>by
    rcases C a D with z|z;.exact z
    . obtain⟨o,I⟩:=S.ri a (sub a Y);rw[z]at I;cases I
  have:=R (H':=H') (t':=t.wb π U) (Fn:=L) (λa o D h=>k a o (λz=>D (V a z)) h) (λa D=>?_) n λFx Q=>?_
  . obtain⟨F',N⟩:=this;refine⟨F',?_,v,B,G.2⟩;unfold AM.fm;rw[A];exact N
  . rcases(m a).mp D with⟨z,_⟩|z;.exact .inl z
    .exact(C a z).imp (V a) id
  . refine G.1.ag (DN λa D=>?_) λa _ o h=>h;∎
def AN.gb:AN->Option AW|.i k=>AA (.inl k)|.s k=>AA (.inr k)|_=>AB
def AU.gb:AU->Option AW|.d x=>x.gb|_=>AB
def Tf{K:Ap}{d:AN}(h:d.gb=AA k)(r:DY K G d v):v=BP k:=by cases d with|i x=>cases h;exact r|s x=>cases h;exact r|_=>cases h
def Bh.gb{K:Ap}{t:AU}(h:t.gb=AA k)(r:Bh K cl G H t v F):v=BP k:=by cases t with|d x=>exact Tf h r.1|_=>cases h
def DQ:List AW->List α->AW->Option α|k0::ks,x::xs,k=>if k0=k then AA x else DQ ks xs k|_,_,_=>AB
def OW:∀{ks:List AW}{xs:List AQ}{k:AW},FW (ks.zip xs) k=DQ ks xs k
 |[],_,_=>rfl|_::_,[],_=>rfl|k0::ks,x::xs,k=>by
  show FW ((k0,x)::ks.zip xs) k=if k0=k then AA x else DQ ks xs k;by_cases z:k0=k;.rw[AMu z,SS z]
  .rw[AMv z,Pl z,OW]
def UT:∀{ks:List AW}{xs:List α}{ys:List β}{k:AW},ys.length=xs.length->(∀x,DQ ks xs k=AA x->∃j:Nat,xs[j]?=AA x/\∀y,ys[j]?=AA y->DQ ks ys k=AA y)/\(DQ ks xs k=AB->DQ ks ys k=AB)
  |[],_,_,_,_=>⟨λx e=>(by cases e),λ_=>rfl⟩|_::_,[],[],_,_=>⟨λx e=>(by cases e),λ_=>rfl⟩|k0::ks,x::xs,y::ys,k,h=>by
    obtain⟨h1,h2⟩:=UT (Kn h);by_cases z:k0=k;.exact⟨λv e=>⟨0,by rw[show DQ (k0::ks) (x::xs) k=AA x from AMu z]at e;exact e,λU D=>by rw[show DQ (k0::ks) (y::ys) k=AA y from AMu z];exact D⟩,λe=>by rw[show DQ (k0::ks) (x::xs) k=AA x from AMu z]at e;cases e⟩
    . refine⟨λv e=>?_,λe=>?_⟩
      . rw[show DQ (k0::ks) (x::xs) k=DQ ks xs k from AMv z]at e;obtain⟨j,J,V⟩:=h1 v e;exact⟨j+1,J,λU D=>by rw[show DQ (k0::ks) (y::ys) k=DQ ks ys k from AMv z];∎⟩
      . rw[show DQ (k0::ks) (x::xs) k=DQ ks xs k from AMv z]at e;rw[show DQ (k0::ks) (y::ys) k=DQ ks ys k from AMv z];∎
def AU.dz:AU->Option (List AW×List AU)|.d (.m ks l)=>AA (ks,l.map .d)|.M ks l=>AA (ks,l)|.R _ t=>t.dz|_=>AB
def Bh.dz{K:Ap}(s:As G H):∀{t:AU}{v:AQ}{F:List AI}{ks:List AW}{l:List AU},t.dz=AA (ks,l)->Bh K cl G H t v F->∃a xs F',v=.ref a/\EY H a (.dK (ks.zip xs))/\(ks.length=xs.length/\ks.Nodup)/\Cu K cl G H l xs F'|.d (.m ks l),_,_,_,_,e,h=>by cases e;obtain⟨⟨a,xs,rfl,D,q,r⟩,_⟩:=h;exact⟨a,xs,[],rfl,Mq s q,D,M1 r⟩|.M ks l,_,_,_,_,e,h=>by cases e;obtain⟨a,xs,F',rfl,rfl,D,q,r⟩:=h;exact⟨a,xs,F',rfl,.inl q,D,r⟩|.R k t,_,_,_,_,e,h=>Bh.dz s (t:=t) e h.2|.d .n,_,_,_,_,e,_|.d (.b _),_,_,_,_,e,_|.d (.i _),_,_,_,_,e,_|.d (.s _),_,_,_,_,e,_|.d (.t _),_,_,_,_,e,_|.d (.l _),_,_,_,_,e,_=>by cases e|.L _,_,_,_,_,e,_|.U _,_,_,_,_,e,_|.B _ _ _,_,_,_,_,e,_|.H _,_,_,_,_,e,_=>by cases e
def J5(a b:AU):Option AU:=a.dz.bind λm=>b.gb.bind λk=>DQ m.1 m.2 k
def AHT{K:Ap}:Xs K cl (λx y H Q=>∃a v,x=.ref a/\Nf H a y (AA v)/\Q v H) J5:=λ{G H a b x y w B C Q}s W Y h k=>by obtain⟨⟨ks,l⟩,J,h1⟩:=Am.mp h;obtain⟨V,U,h2⟩:=Am.mp h1;obtain⟨a,xs,F',rfl,q,F,r⟩:=W.dz s J;obtain⟨j,A,I⟩:=(UT r.ba).1 w h2;obtain⟨v,D,E,Z⟩:=r.at A;exact⟨a,v,rfl,.inl ⟨_,V,q,Y.gb U,by rw[OW];∎⟩,k v D Z⟩
def MH{K:Ap}{X:BY}(U:CP n X.A)(D:AV X a (A0 K cl pa))(J:AV X b (A0 K cl pb))(V:WA b:=by exactλ_ _=>rfl):AV X (.Subscript a b pos) (A0 K cl (A9 J5 pa pb)):=C8 (dY U.u1 D J V) λ_ _ _=>lV AHT
def nY(p q:AM->Option AU)(f:AM->Option Ab):AM->Option Ab:=λτ=>(p τ).bind λa=>(q τ).bind λb=>(f τ).bind λw=>a.dz.bind λm=>b.gb.bind λk=>match DQ m.1 m.2 k with|AA (.d d)=>AA (.s d)|AA _=>AB|AB=>AA w
def AIF{K:Ap}{X:BY}(T:CP n X.A)(O:AV X a (A0 K cl pa))(P:AV X b (A0 K cl pb))(R:AV X c (A7 K cl f))(m:Rv X a "get" p b c pos:=by exact⟨rfl,rfl,rfl,rfl⟩):AV X (.Call (.Attribute a "get" p) [b,c] [] pos) (A7 K cl (nY pa pb f)):=C8 (AC4 T.u1 O P R m) λσ H Q⟨g,F,τ,w,S,L,k⟩=>by
 obtain⟨ta,A,h1⟩:=Am.mp L;obtain⟨tb,B,h2⟩:=Am.mp h1;obtain⟨s,C,M⟩:=Am.mp h2;obtain⟨⟨ks,l⟩,E,N⟩:=Am.mp M;obtain⟨Y,G,U⟩:=Am.mp N;refine⟨g,F,τ,ta,S,A,λx H1 Fa s1 e=>?_⟩;obtain⟨d,xs,F',rfl,q,q0,r⟩:=e.dz Bu E;refine⟨d,rfl,.inl ⟨_,q⟩,g,F,τ,tb,S.ak s1,B,λy H2 Fb s2 h=>⟨g,F,τ,s,(S.ak s1).ak s2,C,λz W s3 o=>?_⟩⟩;have D:=s2.ae s3;refine⟨_,.inl ⟨_,Y,Mq D q,h.gb G,rfl⟩,?_⟩;rw[OW];have Z:=UT (ks:=ks) (k:=Y) r.ba;have J:=s1.ae D;split at U
 . rename_i d0 V;cases U;obtain⟨j,t,u⟩:=Z.1 _ V;obtain⟨v,F2,I,i⟩:=r.at t;rw[u v I];exact k v W J (i.1.ag (FI D))
 .cases U
 . rename_i V;cases U;rw[Z.2 V];exact k z W J (o.gm (s1.ae s2))
def UW{K:Ap}:AV X (.Dict [] [] pos) (A7 K cl (CC (.n (.M [] [])))):=C8 AC6 λσ H Q⟨g,F,τ,w,S,D,k⟩=>by cases D;intro p J;exact k _ _ (Df J) ⟨[p],⟨p,[],[],rfl,rfl,∎,Dh,rfl,rfl⟩,∎,∎⟩
def Eo[DecidableEq κ]:List κ->κ->List κ|[],k=>[k]|k0::ks,k=>if k0=k then k0::ks else k0::Eo ks k
def EL[DecidableEq κ]:List κ->List α->κ->α->List α|k0::ks,x::xs,k,v=>if k0=k then v::xs else x::EL ks xs k v|_,_,_,v=>[v]
def YV:∀{ks:List AW}{xs:List AQ}{k:AW}{v:AQ},ks.length=xs.length->ks.Nodup->Ej (ks.zip xs) k v=(Eo ks k).zip (EL ks xs k v)
 |[],[],k,v,_,_=>rfl|k0::ks,x::xs,k,v,h,W=>by
  have J:=YV (k:=k) (v:=v) (Kn h) ∎;show Ej ((k0,x)::ks.zip xs) k v=(if k0=k then k0::ks else k0::Eo ks k).zip (if k0=k then v::xs else x::EL ks xs k v);by_cases z:k0=k
  . rw[AMu z,AMu z];unfold Ej;rw[AMu (by simp[z])];show(if k0=k then(k0,v)else(k0,x))::_=(k0,v)::ks.zip xs;rw[AMu z];congr 1;refine(Ie λU D=>?_).trans (XG _);have:U.1∈ks:=(Md D).1;∎
  . rw[AMv z,AMv z];show _=(k0,x)::(Eo ks k).zip (EL ks xs k v);rw[<-J];unfold Ej;∎
def m4[DecidableEq κ]:∀{ks:List κ}{k x:κ},x∈Eo ks k↔x∈ks\/x=k
 |[],k,x=>by show x∈[k]↔_;simp|k0::ks,k,x=>by
  unfold Eo;by_cases z:k0=k;.∎
  .rw[AMv z,Bw,Bw,m4,or_assoc]
def m5[DecidableEq κ]:∀{ks:List κ}{k:κ},ks.Nodup->(Eo ks k).Nodup
 |[],k,_=>EG.mpr ∎|k0::ks,k,h=>by
  obtain⟨h1,h2⟩:=EG.mp h;unfold Eo;by_cases z:k0=k;.∎
  . rw[AMv z];exact EG.mpr ⟨λq=>(m4.mp q).elim h1 z,m5 h2⟩
def YZ[DecidableEq κ]:∀{ks:List κ}{xs:List α}{k:κ}{v:α},ks.length=xs.length->(Eo ks k).length=(EL ks xs k v).length
 |[],[],k,v,_=>rfl|k0::ks,x::xs,k,v,h=>by
  unfold Eo EL;by_cases z:k0=k;.∎
  .rw[AMv z,AMv z];exact AMw _ (YZ (Kn h))
def Xu{K:Ap}[DecidableEq κ]{D:List AI}:∀{ks:List κ}{l:List AU}{xs:List AQ}{F':List AI}{k:κ},ks.length=xs.length->Cu K cl G H l xs F'->Bh K cl G H t v D->∃Fn,Cu K cl G H (EL ks l k t) (EL ks xs k v) Fn/\(∀a∈Fn,a∈F'\/a∈D)/\(F'.Nodup->D.Nodup->(∀a∈D,a∉F')->Fn.Nodup)
 |[],l,xs,F',k,J,h,w=>by
  have:xs=[]:=∎;refine⟨D++[],?_,∎,∎⟩;have e:EL [] l k t=[t]:=by rfl
  exact⟨v,[],D,[],rfl,rfl,w,rfl,rfl⟩|k0::ks,[],_,_,k,J,h,w=>by rw[h.1]at J;cases J|k0::ks,L::l,_,_,k,J,h,w=>by
  obtain⟨u,ys,W,Y,rfl,rfl,h2,U⟩:=h;unfold EL;by_cases z:k0=k
  . rw[AMu z,AMu z];refine⟨_,⟨v,ys,D,Y,rfl,rfl,w,U⟩,∎,λB C E=>?_⟩;∎
  . rw[AMv z,AMv z];obtain⟨Fn,Z,F,I⟩:=Xu (Kn J) U w;refine⟨_,⟨u,_,W,Fn,rfl,rfl,h2,Z⟩,λa A=>?_,∎⟩;all_goals∎
def ME(K:Ap)(cl:Nat->AI)(pl:AM->Option (Nat×List Nat)):A6:=λσ H Q=>∃g F,∃τ:AM,∃i π c,BH K cl g F H σ τ/\pl τ=AA (i,π)/\τ.at i π=AA c/\∀v H',As H H'->IF H' σ i π v->Q v H'
def Mx(i:Nat):AM->Option (Nat×List Nat):=λ_=>AA (i,[])
def Di{K:Ap}{X:BY}{x:AG}(i:Nat)(Y:X.N[i]?=AA x:=by rfl)(A:Ia X.aa.scope x:=by first|exact Or.inl rfl|exact Or.inr (Or.inl rfl)|exact Or.inr (Or.inr rfl))(Z:(x==("__debug__":AG))=AH:=by decide)(J:(x==("__classdict__":AG))=AH:=by decide):AV X (.Name x pos) (ME K cl (Mx i)):=C8 (Jk i Y A Z J) λσ H Q⟨g,F,τ,j,π,t,S,U,V,k⟩=>by cases U;obtain⟨v,B,st,_⟩:=S.wj V;obtain⟨u,W,D⟩:=id st;have D:=Kq D;show Ji _ _;rw[W,D];exact k v H (CQ _) st
def AU.qj:AU->Option (List AW×List AU)|.M ks l=>AA (ks,l)|.R _ t=>t.qj|_=>AB
def AU.nu(ks:List AW)(l:List AU):AU->AU|.R k t=>.R k (t.nu ks l)|_=>.M ks l
def AU.mf:AU->Option (List AU)|.L l=>AA l|.R _ t=>t.mf|_=>AB
def AU.ik(l:List AU):AU->AU|.R k t=>.R k (t.ik l)|_=>.L l
def Bh.qj{K:Ap}:∀{t:AU}{v:AQ}{F:List AI}{ks:List AW}{l:List AU},t.qj=AA (ks,l)->Bh K cl G H t v F->∃a xs F',v=.ref a/\F=a::F'/\(ks.length=xs.length/\ks.Nodup)/\H a=AA (.dK (ks.zip xs))/\Cu K cl G H l xs F'/\∀{G' H':AR}{D:List AW}{ts:List AU}{ys:List AQ}{Fn:List AI},(D.length=ys.length/\D.Nodup)->H' a=AA (.dK (D.zip ys))->Cu K cl G' H' ts ys Fn->Bh K cl G' H' (t.nu D ts) v (a::Fn)|.M ks l,_,_,_,_,e,h=>by cases e;obtain⟨a,xs,F',rfl,rfl,A,q,r⟩:=h;exact⟨a,xs,F',rfl,rfl,A,q,r,λ{G' H' D ts ys Fn}h1 h2 J=>⟨a,ys,Fn,rfl,rfl,h1,h2,J⟩⟩|.R k t,_,_,_,_,e,h=>by obtain⟨a,xs,F',h1,h2,J,W,Y,Z⟩:=Bh.qj (t:=t) e h.2;exact⟨a,xs,F',h1,h2,J,W,Y,λC E I=>⟨h.1,Z C E I⟩⟩|.d _,_,_,_,_,e,_|.L _,_,_,_,_,e,_|.U _,_,_,_,_,e,_|.B _ _ _,_,_,_,_,e,_|.H _,_,_,_,_,e,_=>by cases e
def Bh.mf{K:Ap}:∀{t:AU}{v:AQ}{F:List AI}{l:List AU},t.mf=AA l->Bh K cl G H t v F->∃a xs F',v=.ref a/\F=a::F'/\H a=AA (.lst xs)/\Cu K cl G H l xs F'/\∀{G' H':AR}{ts:List AU}{ys:List AQ}{Fn:List AI},H' a=AA (.lst ys)->Cu K cl G' H' ts ys Fn->Bh K cl G' H' (t.ik ts) v (a::Fn)|.L l,_,_,_,e,h=>by cases e;obtain⟨a,xs,F',rfl,rfl,q,r⟩:=h;exact⟨a,xs,F',rfl,rfl,q,r,λ{G' H' ts ys Fn}h2 D=>⟨a,ys,Fn,rfl,rfl,h2,D⟩⟩|.R k t,_,_,_,e,h=>by obtain⟨a,xs,F',h1,h2,J,W,Y⟩:=Bh.mf (t:=t) e h.2;exact⟨a,xs,F',h1,h2,J,W,λZ A=>⟨h.1,Y Z A⟩⟩|.d _,_,_,_,e,_|.M _ _,_,_,_,e,_|.U _,_,_,_,e,_|.B _ _ _,_,_,_,e,_|.H _,_,_,_,e,_=>by cases e
def EJ.yc{K:Ap}(r:EJ K cl O F H H1 w u)(e:As H1 H2):EJ K cl O F H H2 w u:=by cases w with|s d=>exact DY.ag (FI e) r|n t=>obtain⟨Fn,r1,r2,D⟩:=r;exact⟨Fn,r1.ag (FI e) λa _ o h=>e _ _ h,r2,D⟩
def BH.ya{K:Ap}{cl:Nat->AI}{g:JN}{F:List AI}{H H2:AR}{σ:Az}{τ:AM}(S:BH K cl g F H σ τ){i:Nat}{π:List Nat}{t t':AU}{v:AQ}{U F' Fr Fn:List AI}{z:AI}{l ts:List AU}{xs ys:List AQ}{u:Ds}{w:Ab}{A:AQ}(s:As H H2)(E:EJ K cl g.O F H H2 w A)(hz:z∈U)(O:∀b,b∈U↔b∈Fr\/b∈F')(sub:∀b∈U,b∈F)(N:∀b∈Fr,b∉F')(B:F'.Nodup)(R:z∈Fr)(r:Cu K cl (A1 g.O F H) H l xs F')(Z:∀{G' H':AR}{D:List AI},Cu K cl G' H' l xs F'->Bh K cl G' H' w.t A D->∃Fn,Cu K cl G' H' ts ys Fn/\(∀b∈Fn,b∈F'\/b∈D)/\(F'.Nodup->D.Nodup->(∀b∈D,b∉F')->Fn.Nodup)):∃Fn,Fn.Nodup/\(∀b∈Fn,b∈F'\/H b=AB)/\∀Fx,(∀b,b∈Fx->b∈F\/b∈Fn)->Cu K cl (A1 g.O Fx H2) (Ax H2 z u) ts ys Fn:=by obtain⟨D,I,L,M⟩:=kK (Fx:=F) (Fy:=F) (o:=u) S s E (sub z hz);have J:∀b∈D,b∉F':=λb Y P=>(S.ao (L b Y)).1 (by grind);have G:As (A1 _ F H) (A1 g.O (F++D) H2):=OI s (by grind);obtain⟨Fn,p1,p2,C⟩:=Z (r.ag G λb Y o h=>by rw[Bs (by grind)];exact s _ _ h) (M _ (by grind));refine⟨Fn,C B I J,(by grind),λFx Q=>p1.ag (DN λb Y=>?_) λb _ o h=>h⟩;grind
def BH.vg{K:Ap}{g:JN}{τ:AM}(S:BH K cl g F H σ τ){t:AU}{ks:List AW}{w:Ab}(J:τ.at i π=AA t)(Z:t.qj=AA (ks,l))(s:As H H2)(r:EJ K cl g.O F H H2 w u):∃a xs,IF H σ i π (.ref a)/\H a=AA (.dK (ks.zip xs))/\(ks.length=xs.length/\ks.Nodup)/\∃F',BH K cl g F' (Ax H2 a (.dK ((Eo ks k).zip (EL ks xs k u)))) σ (τ.fm i π (t.nu (Eo ks k) (EL ks l k w.t)))/\IF (Ax H2 a (.dK ((Eo ks k).zip (EL ks xs k u)))) σ i π (.ref a):=by
 obtain⟨v,I,st,E,sub,C,A⟩:=S.wj J;obtain⟨a,xs,F',rfl,rfl,D,q,r',U⟩:=E.qj Z;obtain⟨M,B⟩:=EG.mp C;refine⟨a,xs,st,q,D,?_⟩;obtain⟨Fn,p1,p2,G⟩:=S.ya (i:=i) (π:=π) (t:=t) (t':=t) (v:=.ref a) (F':=F') (Fr:=[a]) (Fn:=[]) (z:=a) s r B7 ∎ sub ∎ B (Cd.mpr rfl) r' λh1 h2=>Xu (k:=k) D.1 h1 h2;refine A (Fn:=a::Fn) (λb o Y h=>?_) (λb Y=>?_) ∎ λFx L=>?_
 . rw[Bs ∎];exact s _ _ h
 .∎
 . rw[lH ∎];refine U ⟨YZ D.1,m5 D.2⟩ Dh (G Fx λb Y=>?_);∎
def IG(pl:AM->Option (Nat×List Nat))(pk:AM->Option AU)(f:AM->Option Ab):AM->A8:=λτ=>match f τ,pl τ,(pk τ).bind AU.gb with|AA w,AA (i,π),AA k=>(match τ.at i π with|AA t=>(match t.qj with|AA (ks,l)=>if ks.length<AY then .nx (τ.fm i π (t.nu (Eo ks k) (EL ks l k w.t)))else .er|AB=>.er)|AB=>.er)|_,_,_=>.er
def AH1{K:Ap}{τ:AM}{D:Fo}(h:FH K cl g D (IG pl pa f τ)):∃w i π tk k t ks l,f τ=AA w/\pl τ=AA (i,π)/\pa τ=AA tk/\tk.gb=AA k/\τ.at i π=AA t/\t.qj=AA (ks,l)/\ks.length<AY/\∀F H σ,BH K cl g F H σ (τ.fm i π (t.nu (Eo ks k) (EL ks l k w.t)))->D.nx σ H:=by
  unfold IG at h;split at h
  . rename_i w i π k h1 h2 V;obtain⟨tk,J,U⟩:=Am.mp V;split at h
    . rename_i t W;split at h
      . rename_i ks l Y;by_cases z:ks.length<AY
        . rw[AMu z]at h;exact⟨w,i,π,tk,k,t,ks,l,h1,h2,J,U,W,Y,z,h⟩
        .rw[AMv z]at h;exact h.elim
      .exact h.elim
    .exact h.elim
  .exact h.elim
def OZ{K:Ap}{X:BY}{pos:Ce}(M:CP n X.A)(L:AV X o (ME K cl pl))(hi:AV X i (A0 K cl pa))(O:AV X e (A7 K cl f))(N:HY e (AA (.Subscript o i pos')) pos.line X.aa=BC AH:=by rfl):CY X (.Assign [.Subscript o i pos'] e pos) (Cv K cl (IG pl pa f)):=FV (ADW M.u1 L hi O N) λD σ H⟨g,F,τ,S,Z⟩=>by
 obtain⟨w,j,π,tk,k,t,ks,l,A,B,C,E,W,G,T,Z⟩:=AH1 Z;refine⟨g,F,τ,w,S,A,λu H1 s1 r1=>⟨g,F,τ,j,π,t,S.ak s1,B,W,λv H2 s2 st=>⟨g,F,τ,tk,(S.ak s1).ak s2,C,λy Q P s3 U=>?_⟩⟩⟩;have J:=s2.ae s3;obtain⟨a,xs,V,q,Y,F',R,_⟩:=S.vg (k:=k) W G (s1.ae J) (r1.yc J);have I:=st.jb (V.ag (s1.ae s2));subst I;refine⟨a,_,rfl,.inl ⟨_,k,s3 _ _ (s2 _ _ (s1 _ _ q)),U.gb E,?_,rfl⟩,?_⟩;.∎
 . rw[YV Y.1 Y.2];∎
def BH.uc{K:Ap}{g:JN}{τ:AM}(S:BH K cl g F H σ τ){t:AU}(D:τ.at i π=AA t)(Z:t.mf=AA l):∃a xs F',IF H σ i π (.ref a)/\H a=AA (.lst xs)/\Cu K cl (A1 g.O F H) H l xs F'/\(a::F').Nodup/\(∀b∈a::F',b∈F)/\∀{H2:AR}{ys:List AQ}{ts:List AU}{Fn:List AI},As H H2->(∀b∈Fn,b∈F'\/H b=AB)->Fn.Nodup->(∀Fx,(∀b,b∈Fx↔b∈F\/b∈Fn)->As (A1 g.O F H) (A1 g.O Fx H2)->Cu K cl (A1 g.O Fx H2) (Ax H2 a (.lst ys)) ts ys Fn)->∃W,BH K cl g W (Ax H2 a (.lst ys)) σ (τ.fm i π (t.ik ts)):=by
 obtain⟨v,E,st,C,sub,B,A⟩:=S.wj D;obtain⟨a,xs,F',rfl,rfl,q,r,J⟩:=C.mf Z;refine⟨a,xs,F',st,q,r,B,sub,λ{H2 ys ts Fn}s I L w=>?_⟩;refine(λ⟨F',Y,_⟩=>⟨F',Y⟩) (A (Fn:=a::Fn) (λb o U h=>?_) (λb U=>?_) ∎ λFx G=>?_)
 . rw[Bs ∎];exact s _ _ h
 .∎
 . rw[lH _];refine J Dh (w Fx (λb=>?_) (OI s λb U=>?_));all_goals∎
def BH.qq{K:Ap}{g:JN}{τ:AM}(S:BH K cl g F H σ τ){t:AU}{l:List AU}{w:Ab}(D:τ.at i π=AA t)(A:t.mf=AA l)(s:As H H2)(r:EJ K cl g.O F H H2 w u):∃a xs,IF H σ i π (.ref a)/\H a=AA (.lst xs)/\xs.length=l.length/\∃F',BH K cl g F' (Ax H2 a (.lst (xs++[u]))) σ (τ.fm i π (t.ik (l++[w.t]))):=by
 obtain⟨a,xs,F',st,Y,r',M,sub,B⟩:=S.uc D A;refine⟨a,xs,st,Y,r'.ba,?_⟩;obtain⟨J,E,G,I⟩:=kK (Fx:=F) (Fy:=F) S s r (sub a B7);refine B (Fn:=F'++J) s ∎ (HA.mpr ⟨∎,E,λb U c Z z=>by subst z;exact(S.ao (G b Z)).1 ∎⟩) λFx L C=>?_;refine Xt (r'.ag C λb U o' h=>?_) ⟨u,[],J,[],rfl,∎,I Fx λb U=>?_,rfl,rfl⟩
 . rw[Bs ∎];exact s _ _ h
 ∎
def JS(pl:AM->Option (Nat×List Nat))(f:AM->Option Ab):AM->A8:=λτ=>match pl τ,f τ with|AA (i,π),AA w=>(match τ.at i π with|AA t=>(match t.mf with|AA l=>if l.length<AY then .nx (τ.fm i π (t.ik (l++[w.t])))else .er|AB=>.er)|AB=>.er)|_,_=>.er
def nX{K:Ap}{τ:AM}{D:Fo}(h:FH K cl g D (JS pl f τ)):∃i π w t l,pl τ=AA (i,π)/\f τ=AA w/\τ.at i π=AA t/\t.mf=AA l/\l.length<AY/\∀F H σ,BH K cl g F H σ (τ.fm i π (t.ik (l++[w.t])))->D.nx σ H:=by
  unfold JS at h;split at h
  . rename_i i π w h1 h2;split at h
    . rename_i t J;split at h
      . rename_i l U;by_cases z:l.length<AY
        . rw[AMu z]at h;exact⟨i,π,w,t,l,h1,h2,J,U,z,h⟩
        .rw[AMv z]at h;exact h.elim
      .exact h.elim
    .exact h.elim
  .exact h.elim
def GB{K:Ap}{X:BY}{p pos:Ce}{ps:Ce}(d:AV X o (ME K cl pl))(b:AV X e (A7 K cl f))(T:X.K=K:=by rfl)(J:Jt o "append" X.aa (Ar o X.aa)=Ar o X.aa:=by rfl)(W:((Bx pos (Ah [e] X.aa)).all (λx=>!x.1)&&(Ju pos (Jy [] X.aa)).all (λx=>x.1.isSome)&&Af ([e].length+([]:List Fv).length+(if([]:List Fv).isEmpty then 0 else 1)<30))=AD:=by rfl)(U:(p.endLine==pos.line)=AD:=by rfl)(N:Ah [e] X.aa=(AH,Ar e X.aa)::Ah [] X.aa:=by rfl)(C:(Bx pos (Ah [] X.aa)).any (·.1)=AH:=by rfl)(E:HY (.Call (.Attribute o "append" p) [e] [] pos) AB ps.line X.aa=BC AH:=by rfl):CY X (.Expr (.Call (.Attribute o "append" p) [e] [] pos) ps) (Cv K cl (JS pl f)):=FV (Wl (dU K d (D9 b GI N) T J W U N C) E) λD σ H⟨g,F,τ,S,G⟩=>by obtain⟨i,π,w,t,l,P,Q,A,M,k,G⟩:=nX G;refine⟨g,F,τ,i,π,t,S,P,A,λv H1 s1 st=>?_⟩;obtain⟨a,xs,Z,B,_⟩:=S.qq (w:=.s .n) A M (CQ _) rfl;have R:=st.jb (Z.ag s1);subst R;refine⟨.inl ⟨rfl,_,Lb (s1 _ _ B)⟩,g,F,τ,w,S.ak s1,Q,λu H2 s2 I=>?_⟩;have Y:=s1.ae s2;obtain⟨j,h,L,V,c,F',O⟩:=S.qq A M Y (I.gm s1);cases Z.jb L;rw[B]at V;cases V;exact⟨a,xs,u,rfl,rfl,Y _ _ B,∎,G F' _ σ O⟩
def Ab.nd:Ab->Option AN|.n (.L l)=>(AU.L l).fg|_=>AB
def AG0{w:Ab}(h:w.nd=AA d):∃l ds,w=.n (.L l)/\DM l=AA ds/\d=.l ds:=by
 unfold Ab.nd at h;split at h
 . obtain⟨ds,J,U⟩:=BK.mp h;∎
 ∎
def UO(pl:AM->Option (Nat×List Nat))(f:AM->Option Ab):AM->A8:=λτ=>match pl τ,(f τ).bind Ab.nd with|AA (i,π),AA (.l ds)=>(match τ.at i π with|AA t=>(match t.mf with|AA l=>if l.length+ds.length<=AY then .nx (τ.fm i π (t.ik (l++ds.map .d)))else .er|AB=>.er)|AB=>.er)|_,_=>.er
def AH2{K:Ap}{τ:AM}{D:Fo}(h:FH K cl g D (UO pl f τ)):∃i π w ds t l,pl τ=AA (i,π)/\f τ=AA w/\w.nd=AA (.l ds)/\τ.at i π=AA t/\t.mf=AA l/\l.length+ds.length<=AY/\∀F H σ,BH K cl g F H σ (τ.fm i π (t.ik (l++ds.map .d)))->D.nx σ H:=by
  unfold UO at h;split at h
  . rename_i i π ds h1 h2;obtain⟨w,J,U⟩:=Am.mp h2;split at h
    . rename_i t V;split at h
      . rename_i l W;by_cases z:l.length+ds.length<=AY
        . rw[AMu z]at h;exact⟨i,π,w,ds,t,l,h1,J,U,V,W,z,h⟩
        .rw[AMv z]at h;exact h.elim
      .exact h.elim
    .exact h.elim
  .exact h.elim
def Ys{K:Ap}{X:BY}{p pos:Ce}{ps:Ce}(ho:AV X o (ME K cl pl))(he:AV X e (A7 K cl f))(z:X.K=K:=by rfl)(J:Jt o "extend" X.aa (Ar o X.aa)=Ar o X.aa:=by rfl)(Y:((Bx pos (Ah [e] X.aa)).all (λx=>!x.1)&&(Ju pos (Jy [] X.aa)).all (λx=>x.1.isSome)&&Af ([e].length+([]:List Fv).length+(if([]:List Fv).isEmpty then 0 else 1)<30))=AD:=by rfl)(U:(p.endLine==pos.line)=AD:=by rfl)(O:Ah [e] X.aa=(AH,Ar e X.aa)::Ah [] X.aa:=by rfl)(C:(Bx pos (Ah [] X.aa)).any (·.1)=AH:=by rfl)(E:HY (.Call (.Attribute o "extend" p) [e] [] pos) AB ps.line X.aa=BC AH:=by rfl):CY X (.Expr (.Call (.Attribute o "extend" p) [e] [] pos) ps) (Cv K cl (UO pl f)):=FV (Wl (ADG K ho (D9 he GI O) z J Y U O C) E) λD σ H⟨g,F,τ,S,G⟩=>by
 obtain⟨i,π,w,ds,t,l,d,j,n,M,k,m,G⟩:=AH2 G;refine⟨g,F,τ,i,π,t,S,d,M,λv H1 s1 st=>?_⟩;obtain⟨a,xs,F',L,N,r,nd,sub,md⟩:=S.uc M k;have y:=st.jb (L.ag s1);subst y;refine⟨.inl ⟨rfl,_,Lb (s1 _ _ N)⟩,g,F,τ,w,S.ak s1,j,λu H2 s2 I=>?_⟩;have V:=s1.ae s2;obtain⟨l',c,rfl,B,s⟩:=AG0 n;cases s;obtain⟨Fn,⟨b,zs,Fz,rfl,rfl,A,ol⟩,nd2,P⟩:=I;have Q:=OE (DN λa Z=>Dl _ Z) B (λa Z o q=>CU.mpr ⟨((S.ak s1).ao (P a (DK _ Z))).2,((S.ak s1).ao (P a (DK _ Z))).1,q⟩) ol;refine⟨a,b,xs,zs,rfl,rfl,V _ _ N,.inl A,by rw[r.ba,Q.ba];exact m,?_⟩;obtain⟨R,T⟩:=md (H2:=H2) (Fn:=F'++[]) V ∎ ∎ λFx hx sm=>by
  refine Xt (r.ag sm λb A o' h=>?_) (M1 (Q.ag (DN λb A=>?_)))
  . rw[Bs ∎];exact V _ _ h
  ∎
 exact G R _ σ T
def Ud:∀{π D:List Nat}{v u w:AQ},LJ H v π=AA u->LJ H u D=AA w->LJ H v (π++D)=AA w|[],_,_,_,_,h,k=>by cases h;exact k|j::r,_,_,_,_,h,k=>by obtain⟨z,h1,h2⟩:=Am.mp h;exact Am.mpr ⟨z,h1,Ud h2 k⟩
def LA(p:List AW×α):List (List AW×α)->List (List AW×α)|[]=>[p]|q::r=>if Bv q.1 p.1=AD then q::LA p r else p::q::r
def Gq:List (List AW×α)->List (List AW×α)|[]=>[]|p::r=>LA p (Gq r)
def X8(p:List AW×α):∀l,(LA p l).Perm (p::l)
 |[]=>.refl _|q::r=>by
  unfold LA;split;.exact((X8 p r).cons q).trans (.swap p q r)
  simp_all
def LB:∀l:List (List AW×α),(Gq l).Perm l|[]=>.refl _|p::r=>(X8 p _).trans ((LB r).cons p)
def lN(p:List AW×α):∀l:List (List AW×α),Kb (l.map (·.1))->Kb ((LA p l).map (·.1))
  |[],_=>Nw.mpr (by simp_all)|q::r,h=>by
    obtain⟨h1,h2⟩:=Nw.mp ∎;unfold LA;split
    . rename_i z;refine Nw.mpr ⟨λa D=>?_,lN p r h2⟩;obtain⟨y,J,rfl⟩:=B8.mp D;rcases Bw.mp ((X8 p r).mem_iff.mp J)with rfl|J;.cases w:Bv _ _ with|false=>rfl|true=>have:=PZ z w;rw[PX]at this;∎
      ∎
    . have z:Bv q.1 p.1=AH:=by∎
      refine Nw.mpr ⟨λa D=>?_,h⟩;rcases Bw.mp D with rfl|D;.exact z
      .cases w:Bv a _ with |false=>rfl|true=>have U:=h1 a D;cases y:Bv _ a with|true=>rw[PZ y w]at z;cases z|false=>rw[<-PY y U,z]at w;cases w
def Mv:∀l:List (List AW×α),Kb ((Gq l).map (·.1))|[]=>.nil|p::r=>lN p _ (Mv r)
def Ye{D bs:List (List AW×α)}(pa:D.Perm l)(pb:bs.Perm l)(U:Kb (D.map (·.1)))(V:Kb (bs.map (·.1)))(fn:∀p∈l,∀q∈l,p.1=q.1->p.2=q.2):D=bs:=by have J:=fH ((pa.trans pb.symm).map _) U V;refine XA λi=>?_;have e:=AMw (λx=>x[i]?) J;∎
def mP{K:Ap}:∀{ds:List AN}{ys:List AQ}{kss:List (List AW)},Bd K G ds ys->kss.length=ds.length->Gj (λ(d:List AW×AN)(q:AQ×List AW)=>d.1=q.2/\DY K G d.2 q.1) (kss.zip ds) (ys.zip kss)|[],_,[],h,_=>by rw[show _=[]from h];exact .nil|d::r,_,k::kss,h,U=>by obtain⟨v,ys,rfl,h2,J⟩:=h;exact .cons ⟨rfl,h2⟩ (mP J ∎)
def AHx{K:Ap}{ds:List AN}{ys:List AQ}{kss:List (List AW)}{qs:List (AQ×List AW)}(r:Bd K G ds ys)(E:kss.length=ds.length)(fn:∀p∈kss.zip ds,∀q∈kss.zip ds,p.1=q.1->p.2=q.2)(J:qs.Perm (ys.zip kss))(W:(qs.map (·.2)).Pairwise λa b=>Bv b a=AH):Bd K G ((Gq (kss.zip ds)).map (·.2)) (qs.map (·.1)):=by
 obtain⟨C,U,B⟩:=Wf J (mP r E);have Z:C.map (·.1)=qs.map (·.2):=by clear U J W;induction B with|nil=>rfl|cons h _ A=>∎
 have Y:=Ye U (LB _) (by rw[Z];exact W) (Mv _) fn;rw[<-Y];clear Y Z U J W;induction B with|nil=>rfl|cons h _ A=>exact⟨_,_,rfl,h.2,A⟩
def L9(f:α->Option β):List α->Option (List β)|[]=>AA []|x::r=>(f x).bind λy=>(L9 f r).map (y::.)
def YH:∀{l:List α}{m:List β},L9 f l=AA m->m.length=l.length|[],_,h=>by cases h;rfl|x::r,_,h=>by obtain⟨y,_,h2⟩:=Am.mp h;obtain⟨m,D,rfl⟩:=BK.mp h2;exact AMw _ (YH D)
def YJ:∀{l:List α}{m:List β},L9 f l=AA m->∀p∈m.zip l,f p.2=AA p.1
 |[],_,h,p,D=>by simp_all|x::r,_,h,p,D=>by
  obtain⟨y,h1,h2⟩:=Am.mp h;obtain⟨m,J,rfl⟩:=BK.mp h2;rcases Bw.mp D with rfl|D;.exact h1
  .exact YJ J p D
def HG:List AN->Option (List AW)|[]=>AA []|d::r=>d.gb.bind λk=>(HG r).map (k::.)
def AHK{d J:AN}(h:d.gb=AA k)(h':J.gb=AA k):d=J:=by cases d<;>cases J<;>cases h<;>cases h'<;>rfl
def QQ{K:Ap}:∀{l:List AN}{vs:List AQ}{ks:List AW},HG l=AA ks->Bd K G l vs->vs=ks.map BP|[],_,_,h,r=>by cases h;exact r|d::l,_,_,h,r=>by obtain⟨k,h1,h2⟩:=Am.mp h;obtain⟨m,J,rfl⟩:=BK.mp h2;obtain⟨v,ys,rfl,r1,r2⟩:=r;rw[Tf h1 r1,QQ J r2];rfl
def nH{K:Ap}{ds:List AN}{ys:List AQ}{kss:List (List AW)}{qs:List (AQ×List AW)}(r:Bd K (A1 O F H) ds ys)(J:kss.length=ds.length)(fn:∀p∈kss.zip ds,∀q∈kss.zip ds,p.1=q.1->p.2=q.2)(W:qs.Perm (ys.zip kss))(Y:(qs.map (·.2)).Pairwise λa b=>Bv b a=AH)(U:H l=AB):EJ K cl O F H (Ax H l (.lst (qs.map (·.1)))) (.n (.L ((Gq (kss.zip ds)).map λp=>.d p.2))) (.ref l):=by have:=He (cl:=cl) U (AHx r J fn W Y);rw[Bj]at this;exact this
def DH:List AN->List AW×List AN|[]=>([],[])|d::r=>match d.gb with|AA k=>(k::(DH r).1,(DH r).2)|AB=>([],d::r)
def AN.vm:AN->Bool|.t _|.l _|.m _ _=>AD|_=>AH
def UK{K:Ap}:∀{l:List AN}{vs:List AQ},Bd K G l vs->∃J,vs=(DH l).1.map BP++J/\Bd K G (DH l).2 J
 |[],_,h=>⟨[],h,rfl⟩|d::r,_,h=>by
  obtain⟨v,ys,rfl,h2,U⟩:=h;unfold DH;split
  . rename_i k Z;obtain⟨J,W,Y⟩:=UK U;exact⟨J,by rw[Tf Z h2,W];rfl,Y⟩
  .exact⟨_,rfl,v,ys,rfl,h2,U⟩
def nE{K:Ap}:∀{l:List AN}{vs:List AQ},l.all AN.vm=AD->Bd K G l vs->∃J:List AI,vs=J.map AQ.ref|[],_,_,h=>⟨[],h⟩|d::r,_,U,h=>by obtain⟨v,ys,rfl,h2,W⟩:=h;rw[AEm,ZK]at U;obtain⟨J,e⟩:=nE U.2 W;cases d with|t l=>obtain⟨a,_,rfl,_⟩:=h2;exact⟨a::J,∎⟩|l l=>obtain⟨a,_,rfl,_⟩:=h2;exact⟨a::J,∎⟩|m ks l=>obtain⟨a,_,rfl,_⟩:=h2;exact⟨a::J,∎⟩|_=>cases U.1
def YB:AN->Option (List AW)|.t l=>if(DH l).2.all AN.vm=AD then AA (DH l).1 else AB|_=>AB
section
variable{p:Ce}
open Classical in noncomputable def UB(t:AU):Option Ab:=t.az.bind λds=>(L9 YB ds).bind λkss=>if(∃D,(D≠[]/\∀k∈kss,k.map CZ=D))/\kss.Nodup then AA (.n (.L ((Gq (kss.zip ds)).map λp=>.d p.2)))else AB
end
def nD(K:Ap):List AQ->AR->BZ->Prop:=λxs H Q=>∃(p:AI)(ys:List AQ)(ds:List HN)(D:List Bool),xs=[.ref p]/\Bq K H p ys/\WG K H ys ds D/\∀l(qs:List (AQ×List AW)),H l=AB->qs.Perm (ys.zip (ds.map HR))->(qs.map (·.2)).Pairwise (λa b=>Bv b a=AH)->Q (.ref l) (Ax H l (.lst (qs.map (·.1))))
def nN{K:Ap}(s:As G H):∀{ds:List AN}{kss:List (List AW)}{vs:List AQ},L9 YB ds=AA kss->(∀k∈kss,k.map CZ=U)->Bd K G ds vs->∃J:List HN,J.map HR=kss/\J.map (·.1)=kss/\(∀d∈J,d.2.2=[])/\Gj (λx(d:HN)=>(∃a,x=AQ.ref a/\CH K H a (d.1.map BP++d.2.1.map AQ.ref))/\d.1.map CZ=U) vs J
 |[],_,_,h,_,r=>by cases h;exact⟨[],rfl,rfl,∎,by rw[show _=[]from r];exact .nil⟩|d::l,_,_,h,C,r=>by obtain⟨y,h1,h2⟩:=Am.mp h;obtain⟨m,B,rfl⟩:=BK.mp h2;obtain⟨v,ys,rfl,r1,r2⟩:=r;obtain⟨J,E,N,O,F⟩:=nN s B (λk M=>C k ∎) r2;cases d with
  |t ls=>
   obtain⟨c,rfl⟩:=E3 ∎;obtain⟨a,xs,rfl,q,I⟩:=r1;obtain⟨P,Y,Z⟩:=UK I;obtain⟨W,A⟩:=nE c Z;subst A;refine⟨((DH ls).1,W,[])::J,?_,?_,λd L=>?_,.cons ⟨⟨a,rfl,by rw[Y]at q;exact Fe s q⟩,∎⟩ F⟩;.rw[Dw,E];show((DH ls).1++[])::m=_;∎
   all_goals∎|_=>cases h1
def l8:∀{kss:List (List AW)}{ds:List α},kss.Nodup->∀p∈kss.zip ds,∀q∈kss.zip ds,p.1=q.1->p.2=q.2
  |[],_,_,p,D,_,_,_=>by cases D|_::_,[],_,p,D,_,_,_=>by cases D|k::kss,d::ds,W,p,D,q,J,e=>by
    obtain⟨U,V⟩:=EG.mp W;rcases Bw.mp D with rfl|D
    . rcases Bw.mp J with rfl|J;.rfl
      .exact absurd (by rw[show k=q.1 from e];exact(Md J).1) U
    . rcases Bw.mp J with rfl|J;.exact absurd (by rw[show k=p.1 from e.symm];exact(Md D).1) U
      .exact l8 V p D q J e
def AHe{K:Ap}:Hc K cl (nD K) UB:=λ{g F H σ τ a x w R Q}S L e k=>by
 obtain⟨ds,C,h1⟩:=Am.mp e;obtain⟨kss,U,h2⟩:=Am.mp h1;obtain⟨⟨⟨P,s1,s2⟩,Y⟩,rfl⟩:=E3 h2;obtain⟨p,xs,rfl,q,r⟩:=L.az C Bu;obtain⟨B,M,A,X,N⟩:=nN Bu U s2 r;refine⟨p,xs,B,P,rfl,q,⟨s1,N,λi j d e V J D=>.inl ?_⟩,λl qs W Z O=>k _ _ (Df W) (nH r (YH U) (l8 Y) (by rw[M]at Z;exact Z) O W)⟩;have E:kss[i]?=AA d.1:=by rw[<-A,Ca,V];rfl
 have G:kss[j]?=AA d.1:=by rw[<-A,Ca,J,D];rfl
 obtain⟨i1,i2⟩:=EN.mp E;obtain⟨T,I⟩:=EN.mp G;have:=(gC Y).mp (i2.trans I.symm);subst this;rw[V]at J;cases J;exact⟨rfl,rfl⟩
def oK{K:Ap}{X:BY}(Z:CP n X.A)(Y:X.mg "sorted"=AB)(U:AV X e (A0 K cl pa))(W:CG X "sorted":=by rfl)(J:X.K=K:=by rfl)(V:Ah [e] X.aa=(AH,Ar e X.aa)::Ah [] X.aa:=by rfl)(D:(Bx pos (Ah [] X.aa)).any (·.1)=AH:=by rfl):AV X (.Call (.Name "sorted" p) [e] [] pos) (A7 K cl (FJ UB pa)):=NA AHe (bW Z J) Y U gQ W (by decide) (by decide) V D
def OJ:AN->Option (List AW)
 |.t l=>match(DH l).2 with |[.t J]=>(Hb J).map λns=>(DH l).1++ns.map Bk|_=>AB
 |_=>AB
def UI:AN->Option (List AW)|.t l=>AA (DH l).1|_=>AB
section
variable{p:Ce}
open Classical in noncomputable def Qd(t:AU):Option Ab:=t.az.bind λds=>(L9 OJ ds).bind λkss=>if∃D,(D≠[]/\∀d∈ds,∀k,UI d=AA k->k.map CZ=D)then AA (.n (.L ((Gq (kss.zip ds)).map λp=>.d p.2)))else AB
end
def YA(h:OJ d=AA ks):∃l J ns,d=.t l/\(DH l).2=[.t J]/\Hb J=AA ns/\ks=(DH l).1++ns.map Bk:=by
  unfold OJ at h;split at h
  . split at h
    . obtain⟨ns,U,V⟩:=BK.mp h;∎
    ∎
  ∎
def nQ:∀{l U:List AN},DH l=DH U->l=U
  |[],[],_=>rfl|[],d::r,h=>by unfold DH at h;∎|d::r,[],h=>by unfold DH at h;∎|d::r,Z::r',h=>by
    unfold DH at h;split at h
    . rename_i k Y;split at h
      . rename_i A J;obtain⟨h1,h2⟩:=Mg h;obtain⟨V,W⟩:=W9 h1;subst V;rw[AHK Y J,nQ (Sj W h2)]
      ∎
    ∎
def AHH:∀{l J:List AN}{ns:List Int},Hb l=AA ns->Hb J=AA ns->l=J:=by intro l;induction l with
 |nil=> intro J ns h h';cases h;cases J with|nil=>rfl|cons d r=>cases d with |i k=>obtain⟨m,_,e⟩:=BK.mp ∎;cases e|_=>cases h'
 |cons d r Z=> intro J ns h h';cases d with
  |i k=> obtain⟨m,V,rfl⟩:=BK.mp ∎;cases J with|nil=>cases h'|cons U r'=>cases U with |i A=> obtain⟨B,W,Y⟩:=BK.mp ∎;∎|_=>cases h'
  |_=>cases h
def l5:∀{a b:List Int},a.map (Bk:Int->AW)=b.map Bk->a=b|[],[],_=>rfl|[],_::_,h=>by cases h|_::_,[],h=>by cases h|x::a,y::b,h=>by obtain⟨h1,h2⟩:=W9 h;rw[ALo h1,l5 h2]
def nM{K:Ap}(s:As G H):∀{ds:List AN}{kss:List (List AW)}{vs:List AQ},L9 OJ ds=AA kss->(∀d∈ds,∀k,UI d=AA k->k.map CZ=Z)->Bd K G ds vs->∃J:List HN,J.map HR=kss/\(∀d∈J,∃(p:AI)(ns:List Int),d.2.1=[p]/\d.2.2=ns.map Bk/\CH K H p (ns.map AQ.int))/\Gj (λx(d:HN)=>(∃a,x=AQ.ref a/\CH K H a (d.1.map BP++d.2.1.map AQ.ref))/\d.1.map CZ=Z) vs J
 |[],_,_,h,_,r=>by cases h;exact⟨[],rfl,λd U=>(nomatch U),by rw[show _=[]from r];exact .nil⟩|d::l,_,_,h,Y,r=>by
  obtain⟨y,h1,h2⟩:=Am.mp h;obtain⟨m,E,rfl⟩:=BK.mp h2;obtain⟨v,ys,rfl,r1,r2⟩:=r;obtain⟨J,F,I,L⟩:=nM s E (λk P=>Y k ∎) r2;obtain⟨ls,Q,ns,rfl,B,C,rfl⟩:=YA h1;obtain⟨a,xs,rfl,q,N⟩:=r1;obtain⟨R,A,W⟩:=UK N;rw[B]at W;obtain⟨u,O,rfl,⟨b,zs,rfl,qb,M⟩,rfl⟩:=W;rw[M.qp C]at qb;refine⟨((DH ls).1,[b],ns.map _)::J,by rw[Dw,F];rfl,λd U=>?_,.cons ⟨⟨a,rfl,by rw[A]at q;exact Fe s q⟩,Y _ B7 _ rfl⟩ L⟩;rcases Bw.mp U with rfl|U;.exact⟨b,ns,rfl,rfl,Fe s qb⟩
  .exact I d U
def AHd{K:Ap}:Hc K cl (nD K) Qd:=λ{g F H σ τ a x w Fa Q}S c e k=>by
  obtain⟨ds,P,h1⟩:=Am.mp e;obtain⟨kss,D,h2⟩:=Am.mp h1;obtain⟨⟨n,s1,s2⟩,rfl⟩:=E3 h2;obtain⟨p,xs,rfl,q,r⟩:=c.az P Bu;obtain⟨O,f,B,h⟩:=nM Bu D s2 r;refine⟨p,xs,O,n,rfl,q,⟨s1,h,λi j d e R T _=>.inr ?_⟩,λl qs U A m=>k _ _ (Df U) (nH r (YH D) (λp V q W e=>?_) (by rw[f]at A;exact A) m U)⟩
  . obtain⟨p1,Y,a1,a2,I⟩:=B d (Jn R);obtain⟨p2,Z,L,M,N⟩:=B e (Jn T);exact⟨p1,p2,Y,Z,a1,L,a2,M,I,N⟩
  . have z1:=YJ D p V;have G:=YJ D q W;rw[<-e]at G;obtain⟨X,m1,Y,E,v,y,z⟩:=YA z1;obtain⟨b,m2,Z,C,s,t,u⟩:=YA G;have t1:=s2 _ (Md V).2 _ (by rw[E];rfl);have t2:=s2 _ (Md W).2 _ (by rw[C];rfl);have J:(DH X).1.length=(DH b).1.length:=by rw[<-A4,t1,<-t2,A4]
    obtain⟨o,u2⟩:=AJK (z.symm.trans u) J;have u3:=l5 u2;subst u3;rw[E,C];exact AMw _ (nQ (Sj o (by rw[v,s,AHH y t])))
def AIR{K:Ap}{X:BY}(Z:CP n X.A)(Y:X.mg "sorted"=AB)(U:AV X e (A0 K cl pa))(W:CG X "sorted":=by rfl)(J:X.K=K:=by rfl)(V:Ah [e] X.aa=(AH,Ar e X.aa)::Ah [] X.aa:=by rfl)(D:(Bx pos (Ah [] X.aa)).any (·.1)=AH:=by rfl):AV X (.Call (.Name "sorted" p) [e] [] pos) (A7 K cl (FJ Qd pa)):=NA AHd (bW Z J) Y U gQ W (by decide) (by decide) V D
def ABJ{X:BY}(hc:X.bc=AD):FA X (.type "list") (λxs H Q=>∃(a:AI)(kvs:List (AW×AQ)),xs=[.ref a]/\EY H a (.dK kvs)/\∀l,H l=AB->Q (.ref l) (Ax H l (.lst (kvs.map λp=>BP p.1)))):=by intro pins s σ H xs us Q I r h;obtain⟨a,kvs,rfl,e,q⟩:=h;obtain⟨u,rfl,rx⟩:=Hw r;cases rx;obtain⟨z,lo,vs,rel,dd⟩:=e.ok I.ay;obtain⟨ep,hat⟩:=dd.dictAt;have hlen:=Ml rel;refine W.kdl_call (ALC lo) (I.ok.hd hc) hat (by omega) λh' tk acc c' kp e' it=>?_;refine⟨.ref _,_,I.eu kp (Aw _) (show Dt _ _ _ h' _ (.lst _)from⟨by grind,acc.toList,c',?_,by simp_all⟩),rfl,q _ (I.ay.ao (Aw _))⟩;exact cZ rel (by exact it.1) λj v hv=>it.2 j v (by grind)
def ABP{X:BY}(hc:X.bc=AD):FA X (.builtin "sorted") (λxs H Q=>∃(d:AI)(kvs:List (AW×AQ)),xs=[.ref d]/\EY H d (.dK kvs)/\((∀p∈kvs,∃i,p.1=.inl i)\/∀p∈kvs,∃i,p.1=.inr i)/\∀l(ks:List AW),H l=AB->ks.Perm (kvs.map (·.1))->ks.Pairwise (λa b=>D8 b a=AH)->Q (.ref l) (Ax H l (.lst (ks.map BP)))):=by
  intro pins s σ H xs us Q I r h;obtain⟨d,kvs,rfl,e,J,q⟩:=h;obtain⟨u,rfl,ru⟩:=Hw r;cases ru;obtain⟨z,lo,vs,G,dd⟩:=e.ok I.ay;obtain⟨ep,L⟩:=dd.dictAt;have S:kvs.length=vs.length:=Ml G;refine AFT AFI AFL AFG (AFA _) ?_;unfold Builtin.«sorted»;refine Aa (m:=checkCount "sorted" 1 1 _) (Av ?_);refine Aa (ABT (ALC (knd:=Dg X.af X.w) (kvs:=vs) (ep:=ep) lo) (I.ok.hd hc) L ∎ λh1 tk W k1 gr it=>?_);have K:BR (kvs.map λp=>BP p.1) W.toList:=cZ G (by rw[Q1];exact it.1) λj v hv=>it.2 j v ∎;have f:=K.aj;rw[A4]at f;have P:Kc h1 W.toList (kvs.map λp=>[p.1]):=by
    rcases J with J|J
    . refine .cI ∎ λi u ks A B=>?_;rw[Ca]at B;obtain⟨p,w,rfl⟩:=BK.mp B;obtain⟨n,en⟩:=J p ∎;obtain⟨u',C,E⟩:=K.ju (i:=i) (x:=BP p.1) ∎;rw[A]at C;cases C;rw[en]at E⊢;obtain⟨t,rfl⟩:=E;∎
    . refine .cS ∎ λi u ks A B=>?_;rw[Ca]at B;obtain⟨p,w,rfl⟩:=BK.mp B;obtain⟨n,en⟩:=J p ∎;obtain⟨u',C,E⟩:=K.ju (i:=i) (x:=BP p.1) ∎;rw[A]at C;cases C;rw[en]at E⊢;obtain⟨t,rfl⟩:=E;∎
  generalize R:W.toList=D at K f P;refine Aa (iX ?_ ∎);have Z:(h1.push (Gi "list" D.toArray 0)).get? h1.objs.size=AA (Gi "list" D.toArray 0):=EB _ rfl;have U:s.heap.objs.size<=h1.objs.size:=Nx gr;refine Aa (K6 (K5 (s:={s with heap:=h1.push (Gi "list" D.toArray 0),toks:=tk}) AFN ⟨_,Z,rfl⟩ AFF (Xk (O:=Kh) Z ∎ (Ic h1) (λh' k' h2=>?_) λout p u=>⟨_,rfl,Av ⟨_,rfl,?_⟩⟩) (AJq _)))
  . refine P.wq h2 λa o items m _ e _ _=>?_;exact k' a o (DL (Bt e)) (Bn _ e)
  . obtain⟨qs,T,q2,c⟩:=dS (X:=X) K P p u;obtain⟨g,ho⟩:=AJ3 (h:=h1.push (Gi "list" D.toArray 0)) (a:=h1.objs.size) (vs:=D) (out:=out.map (·.2)) Z;have ep:qs.map (·.1)=(qs.map λx=>x.2.headD (.inl 0)).map BP:=by rw[Bj];refine Ie λx hx=>?_;∎
    have pm:(qs.map λx=>x.2.headD (.inl 0)).Perm (kvs.map (·.1)):=by refine(T.map _).trans (AJG ?_);rw[show(λx:AQ×List AW=>x.2.headD (.inl 0))=(λl:List AW=>l.headD (.inl 0))∘AE8 from rfl,<-Bj,SY (by simp),Bj];rfl
    have pw:(qs.map λx=>x.2.headD (.inl 0)).Pairwise (λa b=>D8 b a=AH):=by
      rw[HS];rw[HS]at c;refine c.imp_of_mem λ{a b}ha hb Y=>?_;have F:∀x∈qs,∃k,x.2=[k]:=∎;obtain⟨x,ex⟩:=F a ha;obtain⟨y,ey⟩:=F b hb;rw[ex,ey]at Y⊢;show D8 y x=AH;have Y:(if y=x then AH else D8 y x)=AH:=Y;by_cases z:y=x;.rw[z];exact R6 x
      ∎
    have lz:(qs.map (·.1)).length<=AY:=by rw[A4,T.length_eq,XF,A4];∎
    have N:∀b o,s.heap.get? b=AA o->(gW (h1.push (Gi "list" D.toArray 0)) h1.objs.size D (out.map (·.2))).get? b=AA o:=λb o e=>by have A:=k1 b o e;have M:=Bt A;rw[AJ4 (DL M) (by rw[size_push'];∎)];exact Bn _ A
    refine⟨.ref h1.objs.size,_,I.eu (a:=h1.objs.size) (o:=.lst (qs.map (·.1))) (t':=tk) N U ⟨lz,_,g,q2,∎⟩,rfl,?_⟩;rw[ep];exact q _ _ (I.ay.ao U) pm pw
def cD{X:BY}{s:AX}(I:Ae X pins σ H s):∀{ys:List AQ}{ds:List HX}{J:List AJ},Ja X.K H ys ds->BR ys J->∃ps:List (AJ×HX),ps.map (·.1)=J/\ps.map (·.2)=ds/\∀p∈ps,∃D,Reads s.heap p.1 p.2 D|_,_,_,.nil,r=>by cases r;simp_all|_,_,_,.cons (d:=U) d ds,r=>by cases r with|cons r1 r2=>obtain⟨D,q⟩:=GG.km I d r1;obtain⟨ps,e,W,h⟩:=cD I ds r2;refine⟨(_,U)::ps,by rw[Dw,e],∎,λp Y=>?_⟩;∎
def Em:AW->AN|.inl k=>.i k|.inr k=>.s k
def OQ{K:Ap}:∀(ks:List AW),Bd K G (ks.map Em) (ks.map BP)|[]=>rfl|.inl k::r=>⟨_,_,rfl,rfl,OQ r⟩|.inr k::r=>⟨_,_,rfl,rfl,OQ r⟩
def Uq:∀{ks:List AW}{xs:List AQ},ks.length=xs.length->(ks.zip xs).map (·.1)=ks|[],[],_=>rfl|k::ks,x::xs,h=>AMw _ (Uq (Kn h))
def Qc(t:AU):Option Ab:=t.dz.map λm=>.n (.L ((m.1.map Em).map .d))
def AHZ{K:Ap}:Hc K cl (λxs H Q=>∃(a:AI)(kvs:List (AW×AQ)),xs=[.ref a]/\EY H a (.dK kvs)/\∀l,H l=AB->Q (.ref l) (Ax H l (.lst (kvs.map λp=>BP p.1)))) Qc:=λ{g F H σ τ a x w Y Q}S W e k=>by
 obtain⟨⟨ks,l⟩,U,rfl⟩:=BK.mp e;obtain⟨d,xs,F',rfl,q,J,r⟩:=W.dz Bu U;refine⟨d,_,rfl,q,λl D=>k _ _ (Df D) ?_⟩;have:(ks.zip xs).map (λp=>BP p.1)=ks.map BP:=by rw[<-Uq J.1,Bj,Uq J.1];rfl
 rw[this];exact He D (OQ ks)
def oG{K:Ap}{X:BY}(Y:X.mg "list"=AB)(J:AV X e (A0 K cl pa))(U:X.bc=AD:=by rfl)(W:CG X "list":=by rfl)(V:Ah [e] X.aa=(AH,Ar e X.aa)::Ah [] X.aa:=by rfl)(D:(Bx pos (Ah [] X.aa)).any (·.1)=AH:=by rfl):AV X (.Call (.Name "list" p) [e] [] pos) (A7 K cl (FJ Qc pa)):=UZ AHZ (ABJ U) Y J AFC W (by decide) (by decide) V D
def GA(ks:List AW):List AW:=(Gq (ks.map λk=>([k],k))).map (·.2)
def nL{ls:List AW}(D:ls.Perm ks)(J:ls.Pairwise λa b=>D8 b a=AH):ls=GA ks:=by
 have h1:(ls.map λk=>([k],k)).Perm _:=D.map _;have h2:Kb ((ls.map λk=>(([k]),k)).map (·.1)):=by rw[Bj];show AJF _ _;rw[HS];refine J.imp λ{a b}h=>?_;show(if b=a then AH else D8 b a)=AH;∎
 have:=Ye h1 (LB _) h2 (Mv _) ∎;unfold GA;rw[<-this,Bj];exact(XG _).symm
section
variable{i:BE}
open Classical in noncomputable def Qe(t:AU):Option Ab:=t.dz.bind λm=>if(∀k∈m.1,∃i,k=.inl i)\/∀k∈m.1,∃i,k=.inr i then AA (.n (.L (((GA m.1).map Em).map .d)))else AB
end
def AHf{K:Ap}:Hc K cl (λxs H Q=>∃(d:AI)(kvs:List (AW×AQ)),xs=[.ref d]/\EY H d (.dK kvs)/\((∀p∈kvs,∃i,p.1=.inl i)\/∀p∈kvs,∃i,p.1=.inr i)/\∀l(ks:List AW),H l=AB->ks.Perm (kvs.map (·.1))->ks.Pairwise (λa b=>D8 b a=AH)->Q (.ref l) (Ax H l (.lst (ks.map BP)))) Qe:=λ{g F H σ τ a x w C Q}S Z e k=>by obtain⟨⟨ks,l⟩,U,h1⟩:=Am.mp e;obtain⟨c,rfl⟩:=E3 h1;obtain⟨d,xs,F',rfl,q,A,r⟩:=Z.dz Bu U;have Y:∀p∈ks.zip xs,p.1∈ks:=λp W=>(Md W).1;refine⟨d,_,rfl,q,∎,λl ls D J B=>k _ _ (Df D) ?_⟩;rw[Uq A.1]at J;rw[nL J B];exact He D (OQ _)
def AIS{K:Ap}{X:BY}(Y:X.mg "sorted"=AB)(J:AV X e (A0 K cl pa))(U:X.bc=AD:=by rfl)(W:CG X "sorted":=by rfl)(V:Ah [e] X.aa=(AH,Ar e X.aa)::Ah [] X.aa:=by rfl)(D:(Bx pos (Ah [] X.aa)).any (·.1)=AH:=by rfl):AV X (.Call (.Name "sorted" p) [e] [] pos) (A7 K cl (FJ Qe pa)):=NA AHf (ABP U) Y J gQ W (by decide) (by decide) V D
section
variable{i:BE}
open Classical in noncomputable def M0(t:AU):Option Ab:=t.eh.bind λl=>(HG l).bind λks=>if((∀k∈ks,∃i,k=.inl i)\/∀k∈ks,∃i,k=.inr i)/\ks.length+1<F8 then AA (.n (.L (((GA (DF [] ks)).map Em).map .d)))else AB
end
def Yr{K:Ap}{X:BY}(U:X.mg "sorted"=AB)(V:X.mg "set"=AB)(N:AV X e (A0 K cl pa))(O:X.bc=AD:=by rfl)(D:CG X "sorted":=by rfl)(J:CG X "set":=by rfl)(M:X.K=K:=by rfl)(Y:Ah [e] X.aa=(AH,Ar e X.aa)::Ah [] X.aa:=by rfl)(W:Ah [.Call (.Name "set" p2) [e] [] pos'] X.aa=(AH,Ar (.Call (.Name "set" p2) [e] [] pos') X.aa)::Ah [] X.aa:=by rfl):AV X (.Call (.Name "sorted" p) [.Call (.Name "set" p2) [e] [] pos'] [] pos) (A7 K cl (FJ M0 pa)):=C8 (ADF O D U J V N M Y W) λσ H Q⟨g,F,τ,w,S,I,k⟩=>by obtain⟨t,C,h1⟩:=Am.mp I;obtain⟨l,E,h2⟩:=Am.mp h1;obtain⟨ks,G,L⟩:=Am.mp h2;obtain⟨⟨A,B⟩,rfl⟩:=E3 L;refine⟨g,F,τ,t,S,C,λv H1 a s1 P=>?_⟩;obtain⟨d,xs,rfl,q,r⟩:=P.eh E Bu;rw[QQ G r]at q;refine⟨d,ks,rfl,q,A,B,λl b Z R T=>k _ _ (s1.ae (Df Z)) ((?_:EJ K cl _ F H1 _ _ _).gm s1)⟩;rw[nL R T];exact He Z (OQ _)
def YT(t:AU):Option Ab:=t.az.map λl=>.n (.L (l.reverse.map .d))
def Bd.yz{K:Ap}:∀{ds:List AN}{vs:List AQ},Bd K G ds vs->Bd K G ds.reverse vs.reverse|[],_,h=>by rw[show _=[]from h];rfl|d::r,_,h=>by obtain⟨v,ys,rfl,h2,J⟩:=h;rw[gI,gI];exact(Bd.yz J).cw ⟨v,[],rfl,h2,rfl⟩
def AIQ{K:Ap}{X:BY}(Y:AV X e (A0 K cl pa))(W:X.K=K:=by rfl):AV X (.Subscript e (.Slice AB AB (AA (.UnaryOp .USub (.Constant (.int 1) j A) p)) p2) pos) (A7 K cl (FJ YT pa)):=C8 (ADD (K:=K) Y (d7 fS Lk) W) λσ H Q⟨g,F,τ,w,S,V,k⟩=>by obtain⟨t,J,h1⟩:=Am.mp V;obtain⟨l,U,rfl⟩:=BK.mp h1;refine⟨g,F,τ,t,S,J,λv H1 B s1 Z=>⟨1,rfl,rfl,?_⟩⟩;obtain⟨d,xs,rfl,q,r⟩:=Z.az U Bu;exact⟨d,xs,rfl,q,λp D=>k _ _ (s1.ae (Df D)) ((He D r.yz).gm s1)⟩
def OO(a b:AU):Option Ab:=match a,b with|.d (.t l),.d (.t m)=>(HG m).bind λD=>if((DH l).2=[]\/D.length<=(DH l).1.length)/\((DH l).1.zip D).all (λp=>CZ p.1==CZ p.2)=AD then AA (.s (.b (Bv (DH l).1 D)))else AB|_,_=>AB
def AHn(h:OO a b=AA w):∃l m D,a=.d (.t l)/\b=.d (.t m)/\HG m=AA D/\((DH l).2=[]\/D.length<=(DH l).1.length)/\((DH l).1.zip D).all (λp=>CZ p.1==CZ p.2)=AD/\w=.s (.b (Bv (DH l).1 D)):=by
 unfold OO at h;split at h
 . obtain⟨D,J,U⟩:=Am.mp h;∎
 ∎
def AHa{K:Ap}:GQ K cl (eV K) OO:=λ{g F H σ τ a b x y w C E Q}S Z A e k=>by
 obtain⟨l,m,Y,rfl,rfl,V,J,U,rfl⟩:=AHn e;obtain⟨⟨a,xs,rfl,q,r⟩,_⟩:=Z;obtain⟨⟨b,ys,rfl,q',r'⟩,_⟩:=A;obtain⟨B,W,D⟩:=UK r;rw[QQ V r']at q';rw[W]at q;refine⟨a,b,_,B,Y,rfl,rfl,Fe Bu q,Fe Bu q',J.imp (λz=>?_) id,λi k m h1 h2=>?_,k _ H (CQ _) rfl⟩;.rw[z]at D;exact D
 . have:=AJH.mp U (k,m) (Jn (SX.mpr ⟨h1,h2⟩));∎
def YQ:=JP YO OO
def AIf{K:Ap}{X:BY}(V:CP n X.A)(J:AV X a (A0 K cl pa))(U:AV X b (A0 K cl pb))(D:X.K=K:=by rfl):Cq X (.Compare a [.Lt] [b] pos) (DO K cl (DZ (A9 YQ pa pb))):=LI (Mp SE (ACo V.uo D)) (Td (OL (f:=λi j=>.b _) λ_ _ _=>rfl) AHa) J U
def LF(neg:Bool)(a b:AU):Option Ab:=a.oy.bind λx=>x.py.bind λdx=>b.az.bind λl=>(J1 l).bind λds=>if(∀d∈ds,HD d=AD)/\HD dx=AD then AA (.s (.b ((ds.any λd=>Ii d dx)^^neg)))else AB
def AHG{K:Ap}(s:As G H)(F:Bh K cl G H a x J)(I:Bh K cl G H b y U)(h:LF neg a b=AA w):∃p ys ds dx,y=.ref p/\Bq K H p ys/\Ja K H ys ds/\GG K H x dx/\(∀d∈ds,HD d=AD)/\HD dx=AD/\w=.s (.b ((ds.any λd=>Ii d dx)^^neg)):=by obtain⟨d,D,h1⟩:=Am.mp h;obtain⟨dx,Y,h2⟩:=Am.mp h1;obtain⟨l,Z,C⟩:=Am.mp h2;obtain⟨ds,A,E⟩:=Am.mp C;obtain⟨c,B⟩:=E3 E;cases a with|d z=>cases D;obtain⟨p,ys,rfl,q,r⟩:=I.az Z s;exact⟨p,ys,ds,dx,rfl,q,Tg A (r.ag s),DY.dv Y (F.1.ag s),c.1,c.2,B.symm⟩|_=>cases D
inductive K9 where|non|bl|int|str|lst|tup|dct
def T5:K9->String|.non=>"NoneType"|.bl=>"bool"|.int=>"int"|.str=>"str"|.lst=>"list"|.tup=>"tuple"|.dct=>"dict"
def YC:K9->K9->Bool|.non,.non=>AD|.bl,.bl=>AD|.bl,.int=>AD|.int,.int=>AD|.str,.str=>AD|.lst,.lst=>AD|.tup,.tup=>AD|.dct,.dct=>AD|_,_=>AH
def AHN(K:Ap)(s t:K9):Pz K (.type (T5 s)) (.type (T5 t))=AA (YC s t):=by cases s<;>cases t<;>rfl
def AU.ty:AU->Option K9|.d .n=>AA .non|.d (.b _)=>AA .bl|.d (.i _)=>AA .int|.d (.s _)=>AA .str|.d (.t _)=>AA .tup|.d (.l _)=>AA .lst|.d (.m _ _)=>AA .dct|.L _=>AA .lst|.M _ _=>AA .dct|.U _=>AA .tup|.R _ t=>t.ty|_=>AB
def kL(K:Ap)(H:AR):AQ->K9->Prop|.non,t=>t=.non|.bl _,t=>t=.bl|.int _,t=>t=.int|.str _,t=>t=.str|.ref a,t=>(t=.lst/\∃xs,Bq K H a xs)\/(t=.tup/\∃xs,CH K H a xs)\/(t=.dct/\∃kvs,EY H a (.dK kvs))|_,_=>False
def Bh.ty{K:Ap}(s:As G H):∀{t:AU}{v:AQ}{F:List AI}{n:K9},t.ty=AA n->Bh K cl G H t v F->kL K H v n|.d .n,_,_,_,e,h=>by cases e;rw[show _=AQ.non from h.1];rfl|.d (.b _),_,_,_,e,h=>by cases e;rw[show _=AQ.bl _ from h.1];rfl|.d (.i _),_,_,_,e,h=>by cases e;rw[show _=AQ.int _ from h.1];rfl|.d (.s _),_,_,_,e,h=>by cases e;rw[show _=AQ.str _ from h.1];rfl|.d (.t _),_,_,_,e,h=>by cases e;obtain⟨⟨a,xs,rfl,q,_⟩,_⟩:=h;exact .inr (.inl ⟨rfl,xs,Fe s q⟩)|.d (.l _),_,_,_,e,h=>by cases e;obtain⟨⟨a,xs,rfl,q,_⟩,_⟩:=h;exact .inl ⟨rfl,xs,Gp s q⟩|.d (.m _ _),_,_,_,e,h=>by cases e;obtain⟨⟨a,xs,rfl,_,q,_⟩,_⟩:=h;exact .inr (.inr ⟨rfl,_,Mq s q⟩)|.L _,_,_,_,e,h=>by cases e;obtain⟨a,xs,F',rfl,rfl,q,r⟩:=h;exact .inl ⟨rfl,xs,.inl (.inl q)⟩|.M _ _,_,_,_,e,h=>by cases e;obtain⟨a,xs,F',rfl,rfl,_,q,r⟩:=h;exact .inr (.inr ⟨rfl,_,.inl q⟩)|.U _,_,_,_,e,h=>by cases e;obtain⟨a,xs,rfl,q,r⟩:=h;exact .inr (.inl ⟨rfl,xs,Jg (s _ _ q)⟩)|.R _ t,_,_,_,e,h=>Bh.ty s (t:=t) e h.2|.B _ _ _,_,_,_,e,_|.H _,_,_,_,e,_=>by cases e
def AG1{K:Ap}{X:BY}(V:X.K=K):FA X (.builtin "isinstance") (λxs H Q=>∃x t s,xs=[x,.ty (T5 t)]/\kL K H x s/\Q (.bl (YC s t)) H):=by subst V;intro pins s σ H xs Y Q I r h;obtain⟨x,t,k,rfl,ty,q⟩:=h;obtain⟨u,Z,rfl,J,W⟩:=W7 r;cases∎;have e:=AHN X.K k t;have fin:∀tk,FR X _ σ Q _ {s with toks:=tk}:=λtk=>⟨.bl _,H,I.jd _,rfl,q⟩;cases x with
 |non=>cases(show k=_ from ty);cases(show u=XT from J);exact Py W.kitx_none I.il IK e ∎ fin|bl y=>cases(show k=_ from ty);cases(show u=iB y from J);exact Py W.kitx_bool I.il IK e ∎ fin|int i=>cases(show k=_ from ty);obtain⟨t,q⟩:=(show∃t,u=AFi i t from J);cases q;exact Py W.kitx_int I.il IK e ∎ fin|str y=>cases(show k=_ from ty);obtain⟨t,q⟩:=(show∃t,u=AFj y t from J);cases q;exact Py W.kitx_str I.il IK e ∎ fin|ref a=>
  cases(show u=FD a from J);rcases ty with⟨rfl,xs,D⟩|⟨rfl,xs,D⟩|⟨rfl,kvs,D⟩
  . obtain⟨U,_,⟨o,n,h1,h2,_⟩,_⟩:=I.bz D;exact Py W.kitx_list I.il ⟨o,h1,h2⟩ e ∎ fin
  . obtain⟨U,_,⟨o,h1,h2,_⟩,_⟩:=I.bj D;exact Py W.kitx_tuple I.il ⟨o,h1,h2⟩ e ∎ fin
  . obtain⟨_,_,vs,_,p⟩:=D.ok I.ay;obtain⟨o,es,ep,h1,h2,_⟩:=p;exact Py W.kitx_dict I.il ⟨o,h1,h2.1⟩ e ∎ fin|_=>exact ty.elim
def T8(n:K9)(t:AU):Option Ab:=t.ty.map λs=>.s (.b (YC s n))
def JT{K:Ap}{X:BY}{y:AG}(t:K9)(M:X.mg "isinstance"=AB)(W:X.mg y=AB)(I:AV X e (A0 K cl pa))(D:L1 y=AA (.type (T5 t)):=by rfl)(L:CG X "isinstance":=by rfl)(V:CG X y:=by rfl)(G:X.K=K:=by rfl)(Y:y≠"__name__":=by decide)(J:(y==("__debug__":AG))=AH:=by decide)(A:Ah [e,.Name y py] X.aa=(AH,Ar e X.aa)::Ah [.Name y py] X.aa:=by rfl)(U:Ah [.Name y py] X.aa=(AH,Ar (.Name y py) X.aa)::Ah [] X.aa:=by rfl)(Z:(Bx pos (Ah [.Name y py] X.aa)).any (·.1)=AH:=by rfl):AV X (.Call (.Name "isinstance" p) [e,.Name y py] [] pos) (A7 K cl (FJ (T8 t) pa)):=C8 (SH (AG1 G) L M ALy (D9 I (D9 (ACy (v:=.ty _) V W D rfl Y J) GI U) A) (by decide) (by decide) A Z) λσ H Q⟨g,F,τ,w,S,E,k⟩=>by obtain⟨u,B,h1⟩:=Am.mp E;obtain⟨s,C,rfl⟩:=BK.mp h1;exact⟨g,F,τ,u,S,B,λv H1 O s1 N=>⟨v,t,s,rfl,N.ty Bu C,k _ H1 s1 rfl⟩⟩
def Tw(z:AG):List AG->Option Nat|[]=>AB|y::r=>if y=z then AA 0 else(Tw z r).map (.+1)
def lK:∀{ys:List AG}{j:Nat},Tw z ys=AA j->ys[j]?=AA z/\∀m,m<j->ys[m]?≠AA z
 |y::r,j,h=>by
  unfold Tw at h;by_cases q:y=z;.∎
  . rw[AMv q]at h;obtain⟨k,h1,rfl⟩:=BK.mp h;obtain⟨h2,D⟩:=lK h1;∎
def mG(ys:List AG):AU->Option Ab|.d (.s z)=>(Tw z ys).map λ(j:Nat)=>.s (.i (j:Int))|_=>AB
def AIJ{K:Ap}{X:BY}{p pos:Ce}{y:AG}{ys:List AG}(N:X.mg y=AA (.ref u))(O:∀H,CH K H u (ys.map AQ.str))(M:∃o,K.lookup u=AA o/\o.cls=.type "tuple"/\o.dict=AB)(G:AV X e (A0 K cl pa))(L:CG X y:=by rfl)(I:(y==("__debug__":AG))=AH:=by decide)(Y:X.K=K:=by rfl)(D:Jt (.Name y py) "index" X.aa (Ar (.Name y py) X.aa)=Ar (.Name y py) X.aa:=by rfl)(U:((Bx pos (Ah [e] X.aa)).all (λx=>!x.1)&&(Ju pos (Jy [] X.aa)).all (λx=>x.1.isSome)&&Af ([e].length+([]:List Fv).length+(if([]:List Fv).isEmpty then 0 else 1)<30))=AD:=by rfl)(J:(p.endLine==pos.line)=AD:=by rfl)(Z:Ah [e] X.aa=(AH,Ar e X.aa)::Ah [] X.aa:=by rfl)(W:(Bx pos (Ah [] X.aa)).any (·.1)=AH:=by rfl):AV X (.Call (.Attribute (.Name y py) "index" p) [e] [] pos) (A7 K cl (FJ (mG ys) pa)):=C8 (SG F.plainAttrs_tuple AKX F.type_tuple_index (ACY Y) (Pc (v:=.ref u) L N rfl I) (D9 G GI Z) Y D U J Z W) λσ H Q⟨g,F,τ,w,S,C,k⟩=>by
 obtain⟨t,A,h1⟩:=Am.mp C;refine⟨.inr (.inl ⟨rfl,M⟩),g,F,τ,t,S,A,λv H1 R s1 P=>?_⟩;unfold mG at h1;split at h1;. obtain⟨j,B,rfl⟩:=BK.mp h1;obtain⟨h2,E⟩:=lK B;exact⟨u,ys,_,j,rfl,by rw[show v=_ from P.1],O _,h2,E,k _ H1 s1 rfl⟩
 .cases h1
def QK:List AN->Option (List AG)|[]=>AA []|.s k::r=>(QK r).map (k::.)|_=>AB
def Bd.xt{K:Ap}:∀{ds:List AN}{ns:List AG}{vs:List AQ},QK ds=AA ns->Bd K G ds vs->vs=ns.map AQ.str|[],_,_,e,r=>by cases e;exact r|.s k::l,_,_,e,r=>by obtain⟨ns,J,rfl⟩:=BK.mp e;obtain⟨v,ys,rfl,r1,r2⟩:=r;rw[show v=_ from r1,Bd.xt J r2];rfl|.n::_,_,_,e,_|.b _::_,_,_,e,_|.i _::_,_,_,e,_|.t _::_,_,_,e,_|.l _::_,_,_,e,_|.m _ _::_,_,_,e,_=>by cases e
def Qa(a b:AU):Option Ab:=match a with|.d (.s J)=>b.az.bind λl=>(QK l).bind λzs=>if(zs.map (·.length)).sum+zs.length*J.length<=16777216 then AA (.s (.s (iA J zs)))else AB|_=>AB
def AIL{K:Ap}{X:BY}{p pos:Ce}(N:AV X a (A0 K cl pa))(O:AV X b (A0 K cl pb))(Z:X.K=K:=by rfl)(D:Jt a "join" X.aa (Ar a X.aa)=Ar a X.aa:=by rfl)(U:((Bx pos (Ah [b] X.aa)).all (λx=>!x.1)&&(Ju pos (Jy [] X.aa)).all (λx=>x.1.isSome)&&Af ([b].length+([]:List Fv).length+(if([]:List Fv).isEmpty then 0 else 1)<30))=AD:=by rfl)(J:(p.endLine==pos.line)=AD:=by rfl)(A:Ah [b] X.aa=(AH,Ar b X.aa)::Ah [] X.aa:=by rfl)(V:(Bx pos (Ah [] X.aa)).any (·.1)=AH:=by rfl):AV X (.Call (.Attribute a "join" p) [b] [] pos) (A7 K cl (A9 Qa pa pb)):=C8 (SG F.plainAttrs_str F.slot_str_join F.type_str_join (ACX Z) N (D9 O GI A) Z D U J A V) λσ H Q⟨g,F,τ,w,S,I,k⟩=>by
 obtain⟨ta,B,h1⟩:=Am.mp I;obtain⟨tb,C,h2⟩:=Am.mp h1;refine⟨g,F,τ,ta,S,B,λv H1 R s1 P=>?_⟩;unfold Qa at h2;split at h2
 . rename_i Y;obtain⟨l,E,L⟩:=Am.mp h2;obtain⟨zs,G,M⟩:=Am.mp L;obtain⟨c,rfl⟩:=E3 M;cases(show v=_ from P.1);refine⟨rfl,g,F,τ,tb,S.ak s1,C,λu H2 T s2 W=>?_⟩;obtain⟨d,xs,rfl,q,r⟩:=W.az E Bu;rw[r.xt G]at q;exact⟨Y,d,zs,rfl,rfl,q,c,k _ H2 (s1.ae s2) rfl⟩
 ∎
def QY(ds:List AN):Option (List AN):=match ds with|[.i i,.i j,.i d]=>if 1<=d/\d<=2000000/\-(2^40)<=i/\i<2^40/\-(2^40)<=j/\j<2^40/\FC i j d<=16777216 then AA ((Jl i j d).map .i)else AB|_=>AB
def AHi(h:QY l=AA ds):∃i j d,l=[.i i,.i j,.i d]/\(1<=d/\d<=2000000/\-(2^40)<=i/\i<2^40/\-(2^40)<=j/\j<2^40/\FC i j d<=16777216)/\ds=(Jl i j d).map .i:=by unfold QY at h;∎
def nI{K:Ap}:∀(ns:List Int),Bd K G (ns.map .i) (ns.map AQ.int)|[]=>rfl|k::r=>⟨_,_,rfl,rfl,nI r⟩
def AIM{K:Ap}{X:BY}(J:X.mg "list"=AB)(P:X.mg "range"=AB)(M:C7 X [a,b,c] (Hf K cl fs))(N:X.bc=AD:=by rfl)(D:CG X "list":=by rfl)(O:CG X "range":=by rfl)(R:Ah [a,b,c] X.aa=[(AH,Ar a X.aa),(AH,Ar b X.aa),(AH,Ar c X.aa)]:=by rfl)(V:Ah [b,c] X.aa=[(AH,Ar b X.aa),(AH,Ar c X.aa)]:=by rfl)(U:Ah [.Call (.Name "range" p2) [a,b,c] [] pos'] X.aa=[(AH,Ar (.Call (.Name "range" p2) [a,b,c] [] pos') X.aa)]:=by rfl):AV X (.Call (.Name "list" p) [.Call (.Name "range" p2) [a,b,c] [] pos'] [] pos) (A7 K cl λτ=>(fs τ).bind λr=>(QY r.2).map λl=>.n (.L (l.map .d))):=C8 (AC9 N D J O P M R V U) λσ H Q⟨g,F,τ,w,S,I,k⟩=>by obtain⟨⟨A,l⟩,E,h1⟩:=Am.mp I;obtain⟨ds,G,rfl⟩:=BK.mp h1;obtain⟨i,j,d,(rfl:l=_),C,rfl⟩:=AHi G;refine⟨g,F,τ,A,_,S,E,λvs H1 B s1 m h r=>?_⟩;obtain⟨v,ys,rfl,T,v',e,rfl,W,v2,f,rfl,Y,rfl⟩:=r;cases(show v=_ from T);cases(show v'=_ from W);cases(show v2=_ from Y);exact⟨i,j,d,rfl,C,λl Z=>k _ _ (s1.ae (Df Z)) ((He Z (nI _)).gm s1)⟩
def El(k:AW):List AW->Option Nat|[]=>AB|y::r=>if y=k then AA 0 else(El k r).map (.+1)
def X7:∀{ks:List AW}{xs:List α}{j:Nat},ks.length=xs.length->El k ks=AA j->DQ ks xs k=xs[j]?/\(ks.zip xs)[j]?.map (·.2)=xs[j]?/\j<xs.length
 |y::r,x::xs,j,U,h=>by
  unfold El at h;by_cases z:y=k
  . rw[AMu z]at h;cases h;exact⟨AMu z,rfl,gN _⟩
  . rw[AMv z]at h;obtain⟨m,h1,rfl⟩:=BK.mp h;obtain⟨h2,D,J⟩:=X7 (xs:=xs) ∎ h1;exact⟨(AMv z).trans h2,D,∎⟩
def lI:∀{ks:List AW}{xs:List α},El k ks=AB->DQ ks xs k=AB
 |[],_,_=>rfl|_::_,[],_=>rfl|y::r,x::xs,h=>by
  unfold El at h;by_cases z:y=k;.∎
  .exact(AMv z).trans (lI (by simp_all))
def lJ:∀{ks:List AW}{xs:List α},ks.length=xs.length->El k ks=AB->El k (Eo ks k)=AA ks.length/\(EL ks xs k v)[ks.length]?=AA v
 |[],[],_,_=>⟨AMu rfl,rfl⟩|y::r,x::xs,D,h=>by
  unfold El at h;by_cases z:y=k;.∎
  . rw[AMv z]at h;obtain⟨h1,h2⟩:=lJ (v:=v) (xs:=xs) ∎ (AJn.mp h);unfold Eo EL;rw[AMv z];unfold El;∎
def JQ(τ:AM)(i:Nat)(π:List Nat)(t:AU)(ks:List AW)(l:List AU)(k:AW):AM×Nat:=match El k ks with|AA j=>(τ,j)|AB=>(τ.fm i π (t.nu (Eo ks k) (EL ks l k (.L []))),ks.length)
def M9(pl:AM->Option (Nat×List Nat))(pk:AM->Option AU)(f:AM->Option Ab):AM->A8:=λτ=>match pl τ,(pk τ).bind AU.gb with|AA (i,π),AA k=>(match τ.at i π with|AA t=>(match t.qj with|AA (ks,l)=>if ks.length<AY then JS (λ_=>AA (i,π++[(JQ τ i π t ks l k).2])) f (JQ τ i π t ks l k).1 else .er|AB=>.er)|AB=>.er)|_,_=>.er
def AIA{K:Ap}{τ:AM}(h:FH K cl g D (M9 pl pa f τ)):∃i π tk k t ks l,pl τ=AA (i,π)/\pa τ=AA tk/\tk.gb=AA k/\τ.at i π=AA t/\t.qj=AA (ks,l)/\ks.length<AY/\FH K cl g D (JS (λ_=>AA (i,π++[(JQ τ i π t ks l k).2])) f (JQ τ i π t ks l k).1):=by
  unfold M9 at h;split at h
  . rename_i i π k h2 V;obtain⟨tk,J,U⟩:=Am.mp V;split at h
    . rename_i t W;split at h
      . rename_i ks l Y;by_cases z:ks.length<AY;. rw[AMu z]at h;exact⟨i,π,tk,k,t,ks,l,h2,J,U,W,Y,z,h⟩
        .rw[AMv z]at h;exact h.elim
      .exact h.elim
    .exact h.elim
  .exact h.elim
def AId{K:Ap}{X:BY}{p pos:Ce}{ps:Ce}(hr:CP n X.A)(ho:AV X o (ME K cl pl))(hi:AV X i (A0 K cl pa))(he:AV X e (A7 K cl f))(m:Rv X o "setdefault" C i (.List [] G) E:=by exact⟨rfl,rfl,rfl,rfl⟩)(hK:X.K=K:=by rfl)(U:Jt (.Call (.Attribute o "setdefault" C) [i,.List [] G] [] E) "append" X.aa (Ar (.Call (.Attribute o "setdefault" C) [i,.List [] G] [] E) X.aa)=Ar (.Call (.Attribute o "setdefault" C) [i,.List [] G] [] E) X.aa:=by rfl)(N:((Bx pos (Ah [e] X.aa)).all (λx=>!x.1)&&(Ju pos (Jy [] X.aa)).all (λx=>x.1.isSome)&&Af ([e].length+([]:List Fv).length+(if([]:List Fv).isEmpty then 0 else 1)<30))=AD:=by rfl)(Y:(p.endLine==pos.line)=AD:=by rfl)(hs:Ah [e] X.aa=(AH,Ar e X.aa)::Ah [] X.aa:=by rfl)(r:(Bx pos (Ah [] X.aa)).any (·.1)=AH:=by rfl)(hsw:HY (.Call (.Attribute (.Call (.Attribute o "setdefault" C) [i,.List [] G] [] E) "append" p) [e] [] pos) AB ps.line X.aa=BC AH:=by rfl):CY X (.Expr (.Call (.Attribute (.Call (.Attribute o "setdefault" C) [i,.List [] G] [] E) "append" p) [e] [] pos) ps) (Cv K cl (M9 pl pa f)):=FV (Wl (dU K (AC7 ho hi (d3 GI) m) (D9 he GI hs) hK U N Y hs r) hsw) λD σ H⟨g,F,τ,S,B⟩=>by
 obtain⟨j,π,tk,k,t,ks,l,e1,e2,e3,T,e5,e6,B⟩:=AIA B;refine⟨g,F,τ,j,π,t,S,e1,T,λv H1 s1 st=>?_⟩;obtain⟨v',F1,st',ow,_⟩:=(S.ak s1).wj T;cases st.jb st';obtain⟨a,xs,F',rfl,_,W,qa,ra,_⟩:=ow.qj e5;refine⟨a,rfl,.inl ⟨_,.inl qa⟩,g,F,τ,tk,S.ak s1,e2,λy H2 Fk s2 ok2=>⟨EA _,λz hz=>?_⟩⟩;have A:=s1.ae s2;have s3:As H2 (Ax H2 z (.lst [])):=Df hz;have O:=s3 _ _ (s2 _ _ qa);have fin:∀{F4:List AI}{I:AR}{τ1:AM}{m:Nat}{u:AQ},(JQ τ j π t ks l k)=(τ1,m)->BH K cl g F4 I σ τ1->IF I σ j (π++[m]) u->W4 K "list" u I/\(Wy (A7 K cl f) W0) σ I λxs H5=>Wn u xs H5 λ_ H6=>D.nx σ H6:=λ{F4 I τ1 m u}es R st4=>by rw[es]at B;obtain⟨j',π',w,t2,l2,f1,f2,f3,f4,f5,B⟩:=nX B;cases f1;obtain⟨b,zs,P,c,_⟩:=R.qq (w:=.s .n) (u:=.non) f3 f4 (CQ _) rfl;cases st4.jb P;refine⟨.inl ⟨rfl,_,Lb c⟩,g,F4,τ1,w,R,f2,λu2 H5 s5 res=>?_⟩;obtain⟨b',zs',Q,M,q,F6,S6⟩:=R.qq f3 f4 s5 res;cases P.jb Q;rw[c]at M;cases M;exact⟨b,zs,u2,rfl,rfl,s5 _ _ c,by rw[q];exact f5,B F6 _ σ S6⟩
 have stH:=(st.ag s2).ag s3;refine⟨_,k,O,ok2.gb e3,by rw[XF,<-W.1,AE5];exact e6,λv J=>?_,λJ=>?_⟩;. rw[OW]at J;cases Z:El k ks with|none=>rw[lI Z]at J;cases J|some m=> obtain⟨h1,h2,h3⟩:=X7 W.1 Z;refine fin (F4:=F) (τ1:=τ) (m:=m) (by unfold JQ;rw[Z]) ((S.ak A).ak s3) ?_;obtain⟨w,w1,w2⟩:=stH;refine⟨w,w1,Ud w2 (Am.mpr ⟨v,?_,rfl⟩)⟩;unfold GR;simp only;rw[O];show((ks.zip xs)[m]?).map (·.2)=_;rw[h2,<-h1];exact J
 . rw[OW]at J;cases Z:El k ks with |some m=> obtain⟨h1,h2,h3⟩:=X7 W.1 Z;rw[h1,EM h3]at J;cases J|none=>
  have rz:EJ K cl g.O F H (Ax H2 z (.lst [])) (.n (.L [])) (.ref z):=(He (ds:=[]) (xs:=[]) hz rfl).gm A;obtain⟨a',xs',sta,qa',hk',F5,S5,st5⟩:=S.vg (k:=k) T e5 (A.ae s3) rz;cases(sta.ag s1).jb st;have h:=by have:=s1 _ _ qa';rw[qa]at this;exact Ds.dK.inj (Kq this)|>.symm
  have d:xs'=xs:=by have h2:=AMw (Kl AE8) h;rwa[SY ∎,SY ∎]at h2
  subst d;rw[YV W.1 W.2];obtain⟨p1,p2⟩:=lJ (v:=AQ.ref z) W.1 Z;refine fin (F4:=F5) (m:=ks.length) (by unfold JQ;rw[Z];rfl) S5 ?_;obtain⟨w,w1,w2⟩:=st5;refine⟨w,w1,Ud w2 (Am.mpr ⟨.ref z,?_,rfl⟩)⟩;unfold GR;simp only;rw[Dh];exact ZI (YZ W.1) p2
def Qp(i:Nat)(m:AN->AM->Option AM)(G:AM->A8):AM->A8:=λτ=>match(τ[i]?).join with|AA (.M ks l)=>(match DM l with|AA ds=>ET m G (ks.map Em) (τ.set i (AA (.d (.m ks ds))))|AB=>.er)|_=>.er
def AH3{K:Ap}{τ:AM}(h:FH K cl g D (Qp i m G τ)):∃ks l ds,τ[i]?=AA (AA (.M ks l))/\DM l=AA ds/\FH K cl g D (ET m G (ks.map Em) (τ.set i (AA (.d (.m ks ds))))):=by
  unfold Qp at h;split at h
  . split at h;.∎
    .exact h.elim
  .exact h.elim
def AIX{K:Ap}{X:BY}{x:AG}(i:Nat)(hg:FT X tg (JR K cl m))(C:DS X U (Cv K cl G))(hN:X.N[i]?=AA x:=by rfl)(hv:Ia X.aa.scope x:=by first|exact Or.inl rfl|exact Or.inr (Or.inl rfl)|exact Or.inr (Or.inr rfl))(hd:(x==("__debug__":AG))=AH:=by decide)(E:(x==("__classdict__":AG))=AH:=by decide)(hc:X.bc=AD:=by rfl)(hp:XR (Aj X.af X.w) X.A X.aa X.xe:=by exact PassesOwn.never)(hs:∀z,L4 (.Name x p) X.aa z=BC z:=by intro _;rfl):CY X (.For tg (.Name x p) U [] pos) (Cv K cl (Qp i m G)):=FV (eE hp hc (ADL (Jk i hN hv hd E)) hg C hs) λD σ H⟨g,F,τ,S,M⟩=>by
  obtain⟨ks,l,ds,B,e2,M⟩:=AH3 M;obtain⟨v,F1,R,ow,sub,_⟩:=S.dh B;obtain⟨a,xs,F',rfl,rfl,hk,qa,r⟩:=ow;obtain⟨A,V⟩:=S.yj (d:=.m ks ds) B (by show(DM l).map (AN.m ks)=_;rw[e2];rfl);have lt:i<τ.length:=(EN.mp B).1;obtain⟨v2,F3,Z,N,_⟩:=V.dh (i:=i) (t:=.d (.m ks ds)) (AEu lt);rw[R]at Z;cases Z;obtain⟨⟨a2,xs2,ea,_,q2,_⟩,_⟩:=N;cases ea;have I:∃o,A1 g.O A H a=AA o:=by
    rcases q2 with h|⟨o,h⟩;.exact⟨_,h⟩
    .exact⟨_,h⟩
  obtain⟨o0,h0⟩:=I;obtain⟨q,L,_⟩:=CU.mp h0;show Ji σ[i]? _;rw[R];refine⟨a,_,rfl,.inl qa,λo H2 c f2=>?_⟩;have f:Gn (A1 g.O A H) (A1 g.O A H2):=by
    refine⟨λb u h=>?_,λb ys h=>?_,λb o' u h=>?_⟩
    . by_cases z:b=a
      . subst z;rcases h with h|⟨o',h⟩
        . have:=(CU.mp h).2.2;rw[qa]at this;cases this;exact .inr ⟨o,CU.mpr ⟨q,L,c⟩⟩
        . have:=(CU.mp h).2.2;rw[qa]at this;cases this
      . rcases h with h|⟨o',h⟩
        . obtain⟨W,Y,J⟩:=CU.mp h;exact .inl (CU.mpr ⟨W,Y,by rw[f2 b z];exact J⟩)
        . obtain⟨W,Y,J⟩:=CU.mp h;exact .inr ⟨o',CU.mpr ⟨W,Y,by rw[f2 b z];exact J⟩⟩
    . obtain⟨W,Y,J⟩:=CU.mp h;have z:b≠a:=λz=>by rw[z,qa]at J;cases J
      exact CU.mpr ⟨W,Y,by rw[f2 b z];exact J⟩
    . obtain⟨W,Y,J⟩:=CU.mp h;have z:b≠a:=λz=>by rw[z,qa]at J;cases J
      exact CU.mpr ⟨W,Y,by rw[f2 b z];exact J⟩
  have w:BH K cl g A H2 σ (τ.set i (AA (.d (.m ks ds)))):=by
    refine⟨λb u s h=>?_,V.od,V.nw,V.nd,V.sl.fz f λb C u h=>?_,g.pm _ _ f V.pn⟩
    . have z:b≠a:=λz=>by
        subst z;rcases S.nw b (sub b B7)with y|y;.exact s y
        .rw[y]at h;cases h
      rw[f2 b z];exact V.ag b u s h
    . rw[f2 b λz=>L (by rw[<-z];exact C)];exact h
  refine lE w (λG G' e h=>e.2.2 _ _ _ h) (CU.mpr ⟨q,L,c⟩) (λO F H hid h=>?_) M rfl;have n:=(CU.mp h).2.2;have hl:(ks.zip xs).length=ks.length:=by rw[XF,<-hk.1,AE5]
  refine⟨⟨n,by rw[A4];∎⟩,λj d P=>?_⟩;rw[Ca]at P;obtain⟨k,Q,rfl⟩:=BK.mp P;obtain⟨j1,_⟩:=EN.mp Q;refine⟨⟨n,∎⟩,λy H' hy=>?_⟩;obtain⟨rfl,pr,ep,rfl⟩:=hy;have:pr.1=k:=by obtain⟨h1,h2⟩:=SX.mp ep;rw[Q]at h1;exact(Kq h1).symm
  rw[this];refine⟨CQ _,?_⟩;cases k<;>rfl
def OF(o:AU->AU->Option α)(x y:Option AU):Option α:=x.bind λa=>y.bind λb=>o a b
def ZH:A9 o p q τ=OF o (p τ) (q τ):=rfl
def pJ:OF o (AA a) (AA b)=o a b:=rfl
def Xy(o:α->Option β)(x:Option α):Option β:=x.bind o
def vP:FJ o p τ=Xy o (p τ):=rfl
def pI{α β:Type}{o:α->Option β}{a:α}:Xy o (AA a)=o a:=rfl
def vR:Ai 0 (x::τ)=x:=by rfl
def vS:Ai (i+1) (x::τ)=Ai i τ:=rfl
def ON(x:Option Ab):Option AU:=x.map Ab.t
def ZG:Bg f τ=ON (f τ):=rfl
def ZA:ON (AA (.s d))=AA (.d d):=rfl
def sH:ON (AA (.n a))=AA a:=rfl
def lY(x:Option AU):Option Ab:=x.bind λt=>match t with|.d d=>AA (.s d)|_=>AB
def Uj:BW p τ=lY (p τ):=rfl
def Um:lY (AA (.d d))=AA (.s d):=rfl
def Y8:CC w τ=AA w:=rfl
def LC(x:Option Ab):Option Bool:=x.bind λw=>match w with|.s (.b k)=>AA k|_=>AB
def Yx:DZ f τ=LC (f τ):=rfl
def r6:LC (AA (.s (.b k)))=AA k:=rfl
def D1(x:A8)(G:AM->A8):A8:=match x with|.nx D=>G D|o=>o
def uM:Gr G G' τ=D1 (G τ) G':=rfl
def u7:D1 (.nx τ) G=G τ:=rfl
def u9:D1 (.rt w τ) G=.rt w τ:=rfl
def uZ:D1 (.bk τ) G=.bk τ:=rfl
def u0:D1 (.ct τ) G=.ct τ:=rfl
def Yc(i:Nat)(x:Option Ab)(τ:AM):A8:=match x with|AA w=>.nx (τ.set i (AA w.t))|AB=>.er
def uN:Ir i f τ=Yc i (f τ) τ:=rfl
def uP{τ:AM}:Yc i (AA (.s d)) τ=.nx (τ.set i (AA (.d d))):=rfl
def uO{τ:AM}:Yc i (AA (.n a)) τ=.nx (τ.set i (AA a)):=rfl
def uK{τ:AM}{x y:Option AU}:AE0 (x::τ) 0 y=y::τ:=rfl
def uL{τ:AM}{i:Nat}{x y:Option AU}:AE0 (x::τ) (i+1) y=x::AE0 τ i y:=rfl
def J3(x:Option Bool)(G G':AM->A8)(τ:AM):A8:=match x with|AA AD=>G τ|AA AH=>G' τ|AB=>.er
def Y7:KC t G G' τ=J3 (t τ) G G' τ:=rfl
def rE:J3 (AA AD) G G' τ=G τ:=rfl
def rB:J3 (AA AH) G G' τ=G' τ:=rfl
def rA[Decidable c]:J3 (AA (Af c)) G G' τ=if c then G τ else G' τ:=by by_cases z:c<;>simp[z,J3]
def rD[Decidable c]:J3 (AA (!Af c)) G G' τ=if c then G' τ else G τ:=by by_cases z:c<;>simp[z,J3]
def Qk(x:Option Ab)(τ:AM):A8:=match x with|AA w=>.rt w τ|AB=>.er
def uA:Qr f τ=Qk (f τ) τ:=rfl
def uC:Qk (AA w) τ=.rt w τ:=rfl
def M4(x:Option AU)(i:Nat)(τ:AM):A8:=match x with|AA (.d d)=>.rt (.s d) τ|AA t=>.rt (.n t) (τ.set i AB)|AB=>.er
def uD:Qs i τ=M4 (Ai i τ) i τ:=by unfold Qs M4 Ai J2;cases(τ[i]?).join with|none=>rfl|some t=>cases t<;>rfl
def uG:M4 (AA (.d d)) i τ=.rt (.s d) τ:=rfl
def uH{τ:AM}:M4 (AA (.L l)) i τ=.rt (.n (.L l)) (τ.set i AB):=rfl
def uI{τ:AM}:M4 (AA (.M ks l)) i τ=.rt (.n (.M ks l)) (τ.set i AB):=rfl
def uJ{τ:AM}:M4 (AA (.U l)) i τ=.rt (.n (.U l)) (τ.set i AB):=rfl
def uF{τ:AM}:M4 (AA (.B c ks l)) i τ=.rt (.n (.B c ks l)) (τ.set i AB):=rfl
def ZE:C9 τ=AA (AH,[]):=rfl
def X0(x:Option AN)(y:Option (Bool×List AN)):Option (Bool×List AN):=x.bind λd=>y.map λr=>(r.1,d::r.2)
def L8(x:Option Ab):Option AN:=x.bind Ab.d
def Ui:BU f fs τ=X0 (L8 (f τ)) (fs τ):=by unfold BU X0 L8;∎
def Y3:X0 (AA d) (AA (c,l))=AA (c,d::l):=rfl
def ZC:L8 (AA (.s d))=AA d:=rfl
def sJ{a:AU}:L8 (AA (.n a))=a.fg:=rfl
def UN:∀{l:List AN},DM (l.map .d)=AA l|[]=>rfl|d::r=>by show((AU.d d).fg.bind _)=_;rw[UN];rfl
def LK{l:List AN}:(AU.L (l.map .d)).fg=AA (.l l):=by show(DM _).map _=_;rw[UN];rfl
def vB:(AU.L []).fg=AA (.l []):=rfl
def vA:(AU.d d).fg=AA d:=rfl
def QO(f:List AN->Option Ab)(x:Option (Bool×List AN)):Option Ab:=x.bind λr=>(f r.2).bind λw=>if r.1=AH\/w.nh=AD then AA w else AB
def Yy:DP f fs τ=QO f (fs τ):=rfl
def pN:QO f (AA (AH,l))=f l:=by unfold QO;∎
def AIm{w:Ab}(e:f l=AA w)(J:w.nh=AD):QO f (AA (AD,l))=AA w:=by unfold QO;∎
def My(x:Option (Bool×List AN)):Option Ab:=x.bind λr=>if r.1=AH/\r.2.length<=AY then AA (.n (.L (r.2.map .d)))else AB
def MF(x:Option (Bool×List AN)):Option Ab:=x.bind λr=>if r.1=AH/\r.2.length<=AY then AA (.s (.t r.2))else AB
def rT:UQ fs τ=My (fs τ):=rfl
def vF:US fs τ=MF (fs τ):=rfl
def rV:My (AA (AH,[]))=AA (.n (.L [])):=rfl
def rW:My (AA (AH,[a]))=AA (.n (.L [.d a])):=rfl
def rX:My (AA (AH,[a,b]))=AA (.n (.L [.d a,.d b])):=rfl
def rY:My (AA (AH,[a,b,c]))=AA (.n (.L [.d a,.d b,.d c])):=rfl
def vG:MF (AA (AH,[]))=AA (.s (.t [])):=rfl
def vH:MF (AA (AH,[a]))=AA (.s (.t [a])):=rfl
def vI:MF (AA (AH,[a,b]))=AA (.s (.t [a,b])):=rfl
def vJ:MF (AA (AH,[a,b,c]))=AA (.s (.t [a,b,c])):=rfl
def vK:MF (AA (AH,[a,b,c,d]))=AA (.s (.t [a,b,c,d])):=rfl
def vL:MF (AA (AH,[a,b,c,d,e]))=AA (.s (.t [a,b,c,d,e])):=rfl
def vM:MF (AA (AH,[a,b,c,d,e,f]))=AA (.s (.t [a,b,c,d,e,f])):=rfl
def l9(x:Option Bool):Option Bool:=x.map (!.)
def sT:Yb t τ=l9 (t τ):=rfl
def sU:l9 (AA c)=AA (!c):=rfl
def QM(x:Option Bool)(r:AM->Option Bool)(τ:AM):Option Bool:=x.bind λc=>if c=AD then r τ else AA AH
def UE(x:Option Bool)(r:AM->Option Bool)(τ:AM):Option Bool:=x.bind λc=>if c=AD then AA AD else r τ
def Yv:Ya t t' τ=QM (t τ) t' τ:=rfl
def sX:nC t t' τ=UE (t τ) t' τ:=rfl
def oW:QM (AA AD) t τ=t τ:=rfl
def oV:QM (AA AH) t τ=AA AH:=rfl
def s9:UE (AA AD) t τ=AA AD:=rfl
def sZ:UE (AA AH) t τ=t τ:=rfl
def oU:QM (AA c) t τ=if c=AD then t τ else AA AH:=rfl
def sY:UE (AA c) t τ=if c=AD then AA AD else t τ:=rfl
def Mw(x:Option Bool)(f h:AM->Option Ab)(τ:AM):Option Ab:=x.bind λc=>if c=AD then f τ else h τ
def rG:n6 t f h τ=Mw (t τ) f h τ:=rfl
def rL:Mw (AA AD) f h τ=f τ:=rfl
def rJ:Mw (AA AH) f h τ=h τ:=rfl
def rH:Mw (AA c) f h τ=if c=AD then f τ else h τ:=rfl
def qR:Cm AH (.d (.s a)) (.d (.s b))=AA (.s (.b (Af (a=b)))):=by show AA _=_;∎
def qQ:Cm AH (.d (.i a)) (.d (.i b))=AA (.s (.b (Af (a=b)))):=by show AA _=_;∎
def sR:Cm AD (.d (.s a)) (.d (.s b))=AA (.s (.b (!Af (a=b)))):=by show AA _=_;simp_all
def sQ:Cm AD (.d (.i a)) (.d (.i b))=AA (.s (.b (!Af (a=b)))):=by show AA _=_;simp_all
def sV:F9 f (.d (.i i)) (.d (.i j))=(f i j).map .s:=rfl
def oS:En (.d (.i i)) (.d (.i j))=AA (.s (.i (i+j))):=rfl
def Yu{l m:List AN}(h:l.length+m.length<=AY):En (.d (.t l)) (.d (.t m))=AA (.s (.t (l++m))):=by show JP MB _ _ _=_;unfold JP;have e:MB (.d (.t l)) (.d (.t m))=AA _:=AMu h;rw[e]
def Qw{a b:AG}(h:a.length+b.length<=AY):En (.d (.s a)) (.d (.s b))=AA (.s (.s (a++b))):=by show JP MA _ _ _=_;unfold JP;have e:MA (.d (.s a)) (.d (.s b))=AA _:=AMu h;rw[e]
def X9{α:Type}{n:Nat}{k:Int}(h:0<=k)(l:List α):CJ l k=l[k.toNat]?:=by unfold CJ Lg;grind
def Gv{α:Type}{l:List α}{n:Nat}:CJ l (n:Int)=l[n]?:=X9 (n:=0) (by grind) l
def o6{α:Type}{l:List α}:CJ l 0=l[0]?:=Gv (n:=0)
def o7{α:Type}{l:List α}:CJ l 1=l[1]?:=Gv (n:=1)
def o8{α:Type}{l:List α}:CJ l 2=l[2]?:=Gv (n:=2)
def o9{α:Type}{l:List α}:CJ l 3=l[3]?:=Gv (n:=3)
def pA{α:Type}{l:List α}:CJ l 4=l[4]?:=Gv (n:=4)
def pB{α:Type}{l:List α}:CJ l 5=l[5]?:=Gv (n:=5)
def pC{α:Type}{l:List α}:CJ l 6=l[6]?:=Gv (n:=6)
def pF{l:List α}:CJ l (-1)=l.getLast?:=by unfold CJ Lg;rw[AMv (by decide)];cases l with|nil=>rfl|cons x r=>rw[AMu (by show-((r.length+1:Nat):Int)<=-1;∎),List.getLast?_eq_getElem?];show(x::r)[(-1+((r.length+1:Nat):Int)).toNat]?=(x::r)[r.length]?;congr 1;∎
def qX:(x::l)[0]?=AA x:=rfl
def qY:(x::l)[i+1]?=l[i]?:=rfl
def pH:B9 (.d (.t l)) (.d (.i k))=(CJ l k).map .d:=rfl
def pD:B9 (.d (.l l)) (.d (.i k))=(CJ l k).map .d:=rfl
def pG:B9 (.L l) (.d (.i k))=CJ l k:=rfl
def rP{l:List AN}:J6 (.d (.t l))=AA (.s (.i l.length)):=rfl
def rN{l:List AN}:J6 (.d (.l l))=AA (.s (.i l.length)):=rfl
def rO{l:List AU}:J6 (.L l)=AA (.s (.i l.length)):=rfl
def Yd(x:Option AU)(y z:Option (Option Int)):Option Ab:=x.bind λt=>y.bind λlo=>z.bind λhi=>Ip t lo hi
def uQ:n8 p fl fh τ=Yd (p τ) (fl τ) (fh τ):=rfl
def uR{lo:Option Int}:Yd (AA a) (AA lo) (AA hi)=Ip a lo hi:=rfl
def lZ(x:Option AU):Option (Option Int):=x.bind λt=>match t with|.d (.i i)=>AA (AA i)|_=>AB
def sW:mH p τ=lZ (p τ):=rfl
def sE:lZ (AA (.d (.i k)))=AA (AA k):=rfl
def uT{lo:Option Int}:Ip (.d (.t l)) lo hi=AA (.s (.t (Cs l lo hi))):=rfl
def EK(x:A8):Option Ab:=match x with|.rt w _=>AA w|.nx _=>AA (.s .n)|_=>AB
def Cg{ds:List AN}(e:ds.length=n):By N G n ds=EK (G (ds.map (λd=>AA (.d d))++GL (N-n) AB)):=by unfold By;rw[AMu e];rfl
def tF:EK (.rt w τ)=AA w:=rfl
def tE:EK (.nx τ)=AA (.s .n):=rfl
def tD[Decidable c]:EK (if c then x else y)=if c then EK x else EK y:=by∎
def uB[Decidable c]:Qk (if c then x else y) τ=if c then Qk x τ else Qk y τ:=by∎
def u6[Decidable c]:D1 (if c then x else y) G=if c then D1 x G else D1 y G:=by∎
def Ts(m:AN->AM->Option AM)(G:AM->A8)(x:Option (List AN))(τ:AM):A8:=match x with|AA ds=>ET m G ds τ|AB=>.er
def qV:Qo fi m G τ=Ts m G (fi τ) τ:=rfl
def qW:Ts m G (AA ds) τ=ET m G ds τ:=rfl
def lD(U:m d τ=AA τ1)(V:G τ1=.nx J):ET m G (d::ds) τ=ET m G ds J:=by show(match m d τ with|AB=>_|AA _=>_)=_;∎
def lC(U:m d τ=AA τ1)(V:G τ1=.ct J):ET m G (d::ds) τ=ET m G ds J:=by show(match m d τ with|AB=>_|AA _=>_)=_;∎
def sP{τ:AM}:GS i d τ=AA (τ.set i (AA (.d d))):=rfl
def kX(x:Option AM)(r:List AN->AM->Option AM)(l:List AN):Option AM:=x.bind (r l)
def sI{ds:List AN}(e:ds.length=n):QZ n r (.t ds) τ=r ds τ:=AMu e
def sG:T4 [] τ=AA τ:=rfl
def sC:OM m r (d::l) τ=kX (m d τ) r l:=rfl
def qG:kX (AA τ) r l=r l τ:=rfl
def kS(en:α->AN)(g:α->Option AN):∀{xs:List α},(∀x∈xs,k (en x)=AA (g x))->Hd k (xs.map en)=AA (xs.filterMap g)|[],_=>rfl|x::xs,J=>by rw[Dw,Hd,kS en g ∎];∎
def Im(k:AN->Option (Option AN))(x:Option (List AN)):Option Ab:=x.bind λds=>if ds.length<=AY then(Hd k ds).map λl=>.n (.L (l.map .d))else AB
def Y2:LH J D fi m t f τ=Im (Il m t f (OS J D τ)) (fi τ):=rfl
def JA{xs:List α}(h:xs.length<=AY)(J:∀x∈xs,k (en x)=AA (g x)):Im k (AA (xs.map en))=AA (.n (.L ((xs.filterMap g).map .d))):=by show(if(xs.map en).length<=AY then(Hd k _).map _ else AB)=_;rw[AMu ∎,kS en g J];rfl
def Ms(x:Option Bool)(f:AM->Option Ab)(τ:AM):Option (Option AN):=x.bind λc=>if c=AD then(L8 (f τ)).map AA else AA AB
def kN(x:Option AM)(q:AM->Option Bool)(f:AM->Option Ab):Option (Option AN):=x.bind λτ1=>(q τ1).bind λc=>if c=AD then((f τ1).bind Ab.d).map AA else AA AB
def Y1:Il m t f τ d=kN (m d τ) t f:=rfl
def Yz:kN (AA τ) t f=Ms (t τ) f τ:=rfl
def Y0:Ms (AA AD) f τ=(L8 (f τ)).map AA:=rfl
def pU:Ms (AA AH) f τ=AA AB:=rfl
def pS:Ms (AA b) f τ=if b=AD then(L8 (f τ)).map AA else AA AB:=rfl
def vV:Qj τ=AA AD:=rfl
def uY{D:List Nat}:OS J D τ=GL J AB++D.map (OP τ):=rfl
def Qh(x:Option AU):Option AU:=match x with|AA (.d d)=>AA (.d d)|_=>AB
def tK:OP τ i=Qh (Ai i τ):=rfl
def tN:Qh (AA (.d d))=AA (.d d):=rfl
def tW:Qh AB=AB:=rfl
def tS:Qh (AA (.L l))=AB:=rfl
def tU:Qh (AA (.M ks l))=AB:=rfl
def rZ:Mx i τ=AA (i,[]):=rfl
def QN(x:Option (Nat×List Nat))(y:Option Ab)(τ:AM):A8:=JS (λ_=>x) (λ_=>y) τ
def oX:JS pl f τ=QN (pl τ) (f τ) τ:=rfl
def vU:(Ab.s d).t=.d d:=rfl
def vT:(Ab.n a).t=a:=rfl
def uX(h:n<=1000):(n<=AY)=True:=eq_true (Cj h (by decide))
def AHz{l:List α}:l.take (Dx n l.length)=l.take n:=by∎
def AHA{l:List α}:l.drop (Dx n l.length)=l.drop n:=by simp_all
def Qz{α:Type}{l:List α}{n:Nat}:Cs l AB (AA (n:Int))=l.take n:=by unfold Cs;rw[ND,ZM,AJM,AJl,AHz]
def Qy{α:Type}{l:List α}{n:Nat}:Cs l (AA (n:Int)) AB=l.drop n:=by unfold Cs;rw[ND,ZM,AHA];refine gL ?_;grind
def qH{α:Type}{l:List α}:Cs l AB (AA 1)=l.take 1:=Qz
def qI{α:Type}{l:List α}:Cs l AB (AA 2)=l.take 2:=Qz
def qK{α:Type}{l:List α}:Cs l AB (AA 3)=l.take 3:=Qz
def qL{α:Type}{l:List α}:Cs l AB (AA 4)=l.take 4:=Qz
def pO{α:Type}{l:List α}:Cs l (AA 1) AB=l.drop 1:=Qy
def pP{α:Type}{l:List α}:Cs l (AA 2) AB=l.drop 2:=Qy
def pQ{α:Type}{l:List α}:Cs l (AA 3) AB=l.drop 3:=Qy
def pR{α:Type}{l:List α}:Cs l (AA 4) AB=l.drop 4:=Qy
def p9{l:List α}:Cs l AB (AA (-1))=l.dropLast:=by unfold Cs;rw[List.dropLast_eq_take];congr 1;show(-1+(l.length:Int)).toNat=_;∎
def kP(g g':Int->Int->Bool)(x y:Option AU)(r:AM->Option AU)(τ:AM):Option Ab:=x.bind λa=>y.bind λb=>match a,b with|.d (.i i),.d (.i j)=>if g i j=AD then(r τ).bind λc=>match c with|.d (.i k)=>AA (.s (.b (g' j k)))|_=>AB else AA (.s (.b AH))|_,_=>AB
def vQ:M7 g g' p q r τ=kP g g' (p τ) (q τ) r τ:=rfl
def kO(g':Int->Int->Bool)(j:Int)(x:Option AU):Option Ab:=x.bind λc=>match c with|.d (.i k)=>AA (.s (.b (g' j k)))|_=>AB
def pZ:kP g g' (AA (.d (.i i))) (AA (.d (.i j))) r τ=if g i j=AD then kO g' j (r τ)else AA (.s (.b AH)):=rfl
def pW:kO g' j (AA (.d (.i k)))=AA (.s (.b (g' j k))):=rfl
def qZ:QT i j=Af (i<=j):=rfl
def q9:Tv i j=Af (i<j):=rfl
def r9[Decidable c]:LC (if c then x else y)=if c then LC x else LC y:=by∎
def pV[Decidable c]:Ms (if c then x else y) f τ=if c then Ms x f τ else Ms y f τ:=by∎
def rC[Decidable c]:J3 (if c then x else y) G G' τ=if c then J3 x G G' τ else J3 y G G' τ:=by∎
def rK[Decidable c]:Mw (if c then x else y) f h τ=if c then Mw x f h τ else Mw y f h τ:=by∎
def QX:∀{l:List AN},Mr (l.map .d)=AA l|[]=>rfl|d::r=>by show((AU.d d).oy.bind _)=_;rw[QX];rfl
def rM:(AU.d (.l l)).az=AA l:=rfl
def Gw{l:List AN}:(AU.L (l.map .d)).az=AA l:=QX
def Uh{a b:AU}{l m:List AN}(J:a.az=AA l)(U:b.az=AA m)(V:l.length+m.length<=AY):En a b=AA (.n (.L ((l++m).map .d))):=by
 have W:YL a b=AB:=by
  unfold YL F9;split;.cases J
  .rfl
 have Y:MA a b=AB:=by
  unfold MA;split;.cases J
  .rfl
 have Z:MB a b=AB:=by
  unfold MB;split;.cases J
  .rfl
 unfold En JP;unfold YM;∎
def qN:(Ab.s d).d=AA d:=rfl
def qM{a:AU}:(Ab.n a).d=a.fg:=rfl
def QP(x:Option (Nat×List Nat))(y:Option AN)(τ:AM):A8:=match x,y with|AA (i,π),AA (.l ds)=>(match τ.at i π with|AA t=>(match t.mf with|AA l=>if l.length+ds.length<=AY then .nx (τ.fm i π (t.ik (l++ds.map .d)))else .er|AB=>.er)|AB=>.er)|_,_=>.er
def l4(x:Option Ab):Option AN:=x.bind Ab.nd
def sF:l4 (AA (.n (.L l)))=(AU.L l).fg:=rfl
def qS:UO pl f τ=QP (pl τ) (l4 (f τ)) τ:=rfl
def uU[Decidable c]:AA (if c then x else y)=if c then AA x else AA y:=by∎
def Uk:∀{xs:List α}{k:Nat},L7 k (xs.map en)=(xs.zipIdx k).map λp=>.t [.i p.2,en p.1]|[],_=>rfl|x::xs,k=>by show AN.t _::L7 _ _=_;rw[Uk];rfl
def vC:(AU.L [.d a]).fg=AA (.l [a]):=rfl
def vD:(AU.L [.d a,.d b]).fg=AA (.l [a,b]):=rfl
def vE:(AU.L [.d a,.d b,.d c]).fg=AA (.l [a,b,c]):=rfl
def Xz(x:Option (Option AN)):Option Ab:=x.map λo=>.n (.L (match o with|AA y=>[.d y]|AB=>[]))
def qC:Im k (AA [])=AA (.n (.L [])):=rfl
def qE:Im k (AA [d])=Xz (k d):=by show(if[d].length<=AY then(Hd k _).map _ else AB)=_;rw[Hd];cases k d with|none=>rfl|some o=>cases o<;>rfl
def qB:Xz (AA (AA y))=AA (.n (.L [.d y])):=rfl
def qA:Xz (AA AB)=AA (.n (.L [])):=rfl
def X2(x:Option AU)(i:Nat)(ds:List AN)(τ:AM):A8:=match x with|AA (.L l)=>if l.length+ds.length<=AY then .nx (τ.set i (AA (.L (l++ds.map .d))))else .er|AA (.R k (.L l))=>if l.length+ds.length<=AY then .nx (τ.set i (AA (.R k (.L (l++ds.map .d)))))else .er|AA t=>QP (AA (i,[])) (AA (.l ds)) τ|AB=>.er
def qU:QP (AA (i,[])) (AA (.l ds)) τ=X2 (Ai i τ) i ds τ:=by cases e:Ai i τ with
 |none=>
  have J:τ.at i []=AB:=by show(Ai i τ).bind _=_;∎
  show(match τ.at i []with|AA t=>_|AB=>_)=_;rw[J];rfl|some t=>
  have J:τ.at i []=AA t:=by show(Ai i τ).bind _=_;rw[e];rfl
  have V:∀c,τ.fm i [] c=τ.set i (AA c):=by intro c;unfold AM.fm;rw[show(τ[i]?).join=AA t from e];rfl
  unfold X2;split;.rename_i U;cases U;unfold QP;simp only[J,AU.mf,AU.ik,V]
  .rename_i U;cases U;unfold QP;simp only[J,AU.mf,AU.ik,V]
  all_goals∎
def qT{τ:AM}{l:List AU}{ds:List AN}:X2 (AA (.L l)) i ds τ=if l.length+ds.length<=AY then .nx (τ.set i (AA (.L (l++ds.map .d))))else .er:=rfl
def Xx(x:Option AU)(i:Nat)(u:AU)(τ:AM):A8:=match x with|AA (.L l)=>if l.length<AY then .nx (τ.set i (AA (.L (l++[u]))))else .er|AA (.R k (.L l))=>if l.length<AY then .nx (τ.set i (AA (.R k (.L (l++[u])))))else .er|AA t=>QN (AA (i,[])) (AA (.n u)) τ|AB=>.er
def oZ{w:Ab}:QN (AA (i,[])) (AA w) τ=Xx (Ai i τ) i w.t τ:=by cases e:Ai i τ with
 |none=>
  have D:τ.at i []=AB:=by show(Ai i τ).bind _=_;∎
  show(match τ.at i []with|AA t=>_|AB=>_)=_;rw[D];rfl|some t=>
  have D:τ.at i []=AA t:=by show(Ai i τ).bind _=_;rw[e];rfl
  have U:∀c,τ.fm i [] c=τ.set i (AA c):=by intro c;unfold AM.fm;rw[show(τ[i]?).join=AA t from e];rfl
  unfold Xx;split;.rename_i J;cases J;unfold QN JS;simp only[D,AU.mf,AU.ik,U]
  .rename_i J;cases J;unfold QN JS;simp only[D,AU.mf,AU.ik,U]
  .rfl
  ∎
def oY{τ:AM}{l:List AU}:Xx (AA (.L l)) i u τ=if l.length<AY then .nx (τ.set i (AA (.L (l++[u]))))else .er:=rfl
def JO{K:AM->A8}{xs:List α}(I:List α->AM->Prop)(B:I [] τ)(E:∀l x z,xs=l++x::z->∀τ,I l τ->∃τ1,m (en x) τ=AA τ1/\∃U,I (l++[x]) U/\(G τ1=.nx U\/G τ1=.ct U))(k:∀J,I xs J->EK (K J)=r):EK (D1 (ET m G (xs.map en) τ) K)=r:=by
 have A:∀(z l:List α)(τ:AM),xs=l++z->I l τ->∃J,ET m G (z.map en) τ=.nx J/\I xs J:=by intro z;induction z with |nil=>intro l τ e h;rw[e,Ek];exact⟨τ,rfl,h⟩|cons x z F=>
  intro l τ e h;obtain⟨τ1,Y,U,h2,V⟩:=E l x z e τ h;obtain⟨J,Z,C⟩:=F _ _ (by rw[e,Gg];rfl) h2;refine⟨J,?_,C⟩;rcases V with V|V;.exact(lD Y V).trans Z
  .exact(lC Y V).trans Z
 obtain⟨J,e,h⟩:=A xs [] τ rfl B;rw[e];exact k _ h
def X6:∀{ks:List AW},El k ks=AB↔k∉ks
 |[]=>⟨∎,λ_=>rfl⟩|y::r=>by
  unfold El;by_cases z:y=k;.∎
  . rw[AMv z,AJn,X6];∎
def YW:∀{ks:List AW},k∉ks->Eo ks k=ks++[k]|[],_=>rfl|y::r,h=>by unfold Eo;rw[AMv ∎,YW ∎];rfl
def m6:∀{ks:List AW},k∈ks->Eo ks k=ks
 |[],h=>nomatch h|y::r,h=>by
  unfold Eo;by_cases z:y=k;.∎
  .rw[AMv z,m6 ∎]
def YX:∀{ks:List AW}{l:List α},ks.length=l.length->k∉ks->EL ks l k v=l++[v]|[],[],_,_=>rfl|y::r,x::l,D,h=>by unfold EL;rw[AMv ∎,YX ∎ ∎];rfl|[],_::_,h,_=>nomatch h|_::_,[],h,_=>nomatch h
def m7:∀{ks:List AW}{l:List α}{j:Nat},ks.length=l.length->El k ks=AA j->EL ks l k v=l.set j v
 |[],_,_,_,h=>nomatch h|y::r,x::l,j,J,h=>by
  unfold El at h;unfold EL;by_cases z:y=k;.∎
  . rw[AMv z]at h⊢;obtain⟨U,D,rfl⟩:=BK.mp h;rw[m7 ∎ D];rfl|_::_,[],_,h,_=>nomatch h
def Qx{τ:AM}(e:Ai i τ=AA t):τ.at i []=AA t:=by show(Ai i τ).bind _=_;rw[e];rfl
def Uo{τ:AM}(e:Ai i τ=AA t):τ.fm i [] c=τ.set i (AA c):=by unfold AM.fm;rw[show(τ[i]?).join=AA t from e];rfl
def To{τ:AM}{ks:List AW}{l:List AU}{w:Ab}(e0:pl τ=AA (i,[]))(D:Ai i τ=AA (.M ks l))(U:(p τ).bind AU.gb=AA k)(V:f τ=AA w)(J:k∉ks)(W:ks.length=l.length)(Y:ks.length<AY):IG pl p f τ=.nx (τ.set i (AA (.M (ks++[k]) (l++[w.t])))):=by unfold IG;simp only[e0,U,V,Qx D,AU.qj,AU.nu,Uo D,YW J,YX W J];∎
def AG8{τ:AM}{ks:List AW}{l:List AU}{w:Ab}(e0:pl τ=AA (i,[]))(J:Ai i τ=AA (.M ks l))(U:(p τ).bind AU.gb=AA k)(V:f τ=AA w)(D:El k ks=AA j)(W:ks.length=l.length)(Z:ks.length<AY):IG pl p f τ=.nx (τ.set i (AA (.M ks (l.set j w.t)))):=by
 have Y:=ALp λh=>by rw[X6.mpr h]at D;cases D
 unfold IG;simp only[e0,U,V,Qx J,AU.qj,AU.nu,Uo J,m6 Y,m7 W D];∎
def AG9{τ:AM}:Ai i τ=x->∀{c:AU},i<τ.length->Ai i (τ.set i (AA c))=AA c:=λ_{c}h=>by show((τ.set i _)[i]?).join=_;∎
def AIB{τ:AM}(e:Ai i τ=AA t):i<τ.length:=by have h:(τ[i]?).join=AA t:=e;∎
def AHu{τ:AM}{ks:List AW}{l:List AU}{w:Ab}(e0:pl τ=AA (i,[]))(D:Ai i τ=AA (.M ks l))(W:(p τ).bind AU.gb=AA k)(Y:f (τ.set i (AA (.M (ks++[k]) (l++[.L []]))))=AA w)(J:k∉ks)(V:ks.length=l.length)(C:ks.length<AY):M9 pl p f τ=.nx (τ.set i (AA (.M (ks++[k]) (l++[.L [w.t]])))):=by
 have E:=AIB D;unfold M9;simp only[e0,W,Qx D,AU.qj];rw[AMu C];have es:JQ τ i [] (.M ks l) ks l k=(τ.set i (AA (.M (ks++[k]) (l++[.L []]))),ks.length):=by unfold JQ;rw[X6.mpr J];show(τ.fm i [] (AU.M _ _),_)=_;rw[Uo D,YW J,YX V J]
 rw[es];have U:=AG9 D (c:=.M (ks++[k]) (l++[.L []])) E;have A:AM.at (τ.set i (AA (.M (ks++[k]) (l++[.L []])))) i [ks.length]=AA (.L []):=by show(Ai i _).bind _=_;rw[U];show((l++[AU.L []])[ks.length]?).bind _=_;rw[V,SW (Aw _),XM];rfl
 unfold JS;simp only[Y,AEx,A,AU.mf,AU.ik];rw[AMu (by decide)];unfold AM.fm;rw[show(((τ.set i (AA (.M (ks++[k]) (l++[.L []]))))[i]?).join)=_ from U];simp only;rw[List.set_set];have B:AU.wb (.M (ks++[k]) (l++[.L []])) [ks.length] (.L [w.t])=.M (ks++[k]) (l++[.L [w.t]]):=by
  unfold AU.wb;have Z:(AU.M (ks++[k]) (l++[.L []])).lr[ks.length]?=AA (.L []):=by show((l++[AU.L []])[ks.length]?)=_;∎
  rw[Z];show AU.M (ks++[k]) ((l++[AU.L []]).set ks.length (AU.L [w.t]))=_;simp_all
 rw[B]
def AHv{τ:AM}{ks:List AW}{l:List AU}{w:Ab}{m:List AU}(e0:pl τ=AA (i,[]))(D:Ai i τ=AA (.M ks l))(U:(p τ).bind AU.gb=AA k)(V:f τ=AA w)(Z:El k ks=AA j)(J:l[j]?=AA (.L m))(A:m.length<AY)(B:ks.length<AY):M9 pl p f τ=.nx (τ.set i (AA (.M ks (l.set j (.L (m++[w.t])))))):=by
 unfold M9;simp only[e0,U,Qx D,AU.qj];rw[AMu B];have es:JQ τ i [] (.M ks l) ks l k=(τ,j):=by unfold JQ;rw[Z]
 rw[es];have W:τ.at i [j]=AA (.L m):=by show(Ai i _).bind _=_;rw[D];show(l[j]?).bind _=_;rw[J];rfl
 unfold JS;simp only[V,AEx,W,AU.mf,AU.ik];rw[AMu A];unfold AM.fm;rw[show((τ[i]?).join)=_ from D];simp only;have Y:AU.wb (.M ks l) [j] (.L (m++[w.t]))=.M ks (l.set j (.L (m++[w.t]))):=by unfold AU.wb;rw[show(AU.M ks l).lr[j]?=AA _ from J];rfl
 rw[Y]
def ADq(td ty tv:A6):Du:=λD σ H=>tv σ H λv H1=>td σ H1 λx H2=>ty σ H2 λy J=>∃(l:AI)(xs:List AQ),x=.ref l/\y=.int (-1)/\J l=AA (.lst xs)/\0<xs.length/\D.nx σ (Ax J l (.lst (xs.set (xs.length-1) v)))
def ADX{X:BY}{pos:Ce}(ho:AV X o td)(hi:AV X i ty)(hv:AV X value tv)(hs:HY value (AA (.Subscript o i pos')) pos.line X.aa=BC AH):CY X (.Assign [.Subscript o i pos'] value pos) (ADq td ty tv):=by
 intro pins s σ H D I h;refine ALV (A2 (hv pins s σ H _ I h) λr s1⟨v,H1,I1,rv,q1⟩=>A2 (ho pins s1 σ H1 _ I1 q1) λu s2⟨x,H2,I2,rx,q2⟩=>A2 (hi pins s2 σ H2 _ I2 q2) λiv s3⟨y,H3,I3,ry,l,xs,ex,ey,e,e0,q3⟩=>?_) hs;subst ex ey;obtain rfl:u=FD l:=rx;obtain⟨t,rfl⟩:=ry;obtain⟨z,its,n,rs,hl,e'⟩:=I3.tw e;have hk:((-1)+(its.toArray.size:Int)).toNat=xs.length-1:=by rw[Mf];omega
 refine W.ki_setBack e' (by decide) (by rw[Mf];omega) (by decide) ?_;rw[hk];exact⟨σ,_,I3.tu e e' (by simp) (fU rv rs _) (by rw[List.length_set];omega),q3⟩
def YY:∀{l:List α}{s j:Nat},j<l.length->EL (gH s l.length) l (s+j) v=l.set j v|[],_,_,h=>nomatch h|x::r,s,0,_=>by rw[Fq,AEz,EL,AMu ∎];rfl|x::r,s,j+1,h=>by rw[Fq,AEz,EL,AMv ∎,show s+(j+1)=(s+1)+j by∎,YY ∎];rfl
def AGx{K:Ap}{D:List AI}{l:List AU}{xs:List AQ}{F':List AI}(J:j<l.length)(h:Cu K cl G H l xs F')(w:Bh K cl G H t v D):∃Fn,Cu K cl G H (l.set j t) (xs.set j v) Fn/\(∀a∈Fn,a∈F'\/a∈D)/\(F'.Nodup->D.Nodup->(∀a∈D,a∉F')->Fn.Nodup):=by have U:=h.ba;have r:=Xu (ks:=gH 0 l.length) (k:=0+j) ∎ h w;rw[YY J,<-U,YY ∎]at r;exact r
def BH.xi{K:Ap}{g:JN}{τ:AM}(S:BH K cl g F H σ τ){t:AU}{l:List AU}{w:Ab}(D:τ.at i π=AA t)(Y:t.mf=AA l)(U:j<l.length)(s:As H H2)(r:EJ K cl g.O F H H2 w u):∃a xs,IF H σ i π (.ref a)/\H a=AA (.lst xs)/\xs.length=l.length/\∃F',BH K cl g F' (Ax H2 a (.lst (xs.set j u))) σ (τ.fm i π (t.ik (l.set j w.t))):=by obtain⟨a,xs,F',st,J,r',B,sub,Z⟩:=S.uc D Y;obtain⟨C,A⟩:=EG.mp B;refine⟨a,xs,st,J,r'.ba,?_⟩;obtain⟨Fn,p1,p2,E⟩:=S.ya (i:=i) (π:=π) (t:=t) (t':=t) (v:=.ref a) (Fr:=[a]) (Fn:=[]) (u:=.lst (xs.set j u)) s r B7 ∎ sub ∎ A ∎ r' λh1 h2=>AGx U h1 h2;exact Z s p2 p1 ∎
def T1(k:Int)(n:Nat):Option Nat:=if k=-1 then(if 0<n then AA (n-1)else AB)else if 0<=k/\k<n then AA k.toNat else AB
def OU(pl:AM->Option (Nat×List Nat))(pk:AM->Option AU)(f:AM->Option Ab):AM->A8:=λτ=>match f τ,pl τ,pk τ with|AA w,AA (i,π),AA (.d (.i k))=>(match τ.at i π with|AA t=>(match t.mf with|AA l=>(match T1 k l.length with|AA j=>.nx (τ.fm i π (t.ik (l.set j w.t)))|AB=>.er)|AB=>.er)|AB=>.er)|_,_,_=>.er
def AH5{K:Ap}{τ:AM}{D:Fo}(h:FH K cl g D (OU pl pa f τ)):∃w i π k t l j,f τ=AA w/\pl τ=AA (i,π)/\pa τ=AA (.d (.i k))/\τ.at i π=AA t/\t.mf=AA l/\T1 k l.length=AA j/\∀F H σ,BH K cl g F H σ (τ.fm i π (t.ik (l.set j w.t)))->D.nx σ H:=by
  unfold OU at h;split at h
  . rename_i w i π k h1 h2 J;split at h
    . rename_i t U;split at h
      . rename_i l V;split at h;. rename_i j W;exact⟨w,i,π,k,t,l,j,h1,h2,J,U,V,W,h⟩
        .exact h.elim
      .exact h.elim
    .exact h.elim
  .exact h.elim
def AIZ{K:Ap}{X:BY}{pos:Ce}(L:AV X o (ME K cl pl))(hi:AV X i (A0 K cl pa))(N:AV X e (A7 K cl f))(I:∀τ k,pa τ=AA (.d (.i k))->k=-1:=by intro _ _ h;cases h;rfl)(M:HY e (AA (.Subscript o i pos')) pos.line X.aa=BC AH:=by rfl):CY X (.Assign [.Subscript o i pos'] e pos) (Cv K cl (OU pl pa f)):=FV (ADX L hi N M) λD σ H⟨g,F,τ,S,Z⟩=>by
 obtain⟨w,O,π,k,t,l,j,A,B,W,Y,C,E,Z⟩:=AH5 Z;obtain rfl:=I τ k W;have T:0<l.length/\j=l.length-1:=by unfold T1 at E;∎
 refine⟨g,F,τ,w,S,A,λu H1 s1 r1=>⟨g,F,τ,O,π,t,S.ak s1,B,Y,λv H2 s2 st=>⟨g,F,τ,_,(S.ak s1).ak s2,W,λy Q P s3 U=>?_⟩⟩⟩;have J:=s2.ae s3;obtain⟨a,xs,V,q,b,F',R⟩:=S.xi (j:=j) Y C ∎ (s1.ae J) (r1.yc J);have G:=st.jb (V.ag (s1.ae s2));subst G;refine⟨a,xs,rfl,U.1,s3 _ _ (s2 _ _ (s1 _ _ q)),∎,?_⟩;∎
def UA:AU->Option Ab|.d (.i k)=>AA (.s (.i (-k)))|_=>AB
def AHo(h:UA t=AA w):∃k,t=.d (.i k)/\w=.s (.i (-k)):=by unfold UA at h;∎
def Yp{K:Ap}(V:AV X a (A0 K cl pa)):AV X (.UnaryOp .USub a pos) (A7 K cl (FJ UA pa)):=C8 (d7 fS V) λσ H Q⟨g,F,τ,w,S,U,k⟩=>by obtain⟨t,D,J⟩:=Am.mp U;obtain⟨j,rfl,rfl⟩:=AHo J;exact⟨g,F,τ,_,S,D,λv H1 Y s1 W=>⟨j,W.1,k _ H1 s1 rfl⟩⟩
def sS:UA (.d (.i k))=AA (.s (.i (-k))):=rfl
def JV{xs:List α}(h:xs.length<=AY)(J:∀x∈xs,k (en x)=AA (AA (g x))):Im k (AA (xs.map en))=AA (.n (.L ((xs.map g).map .d))):=by rw[JA h J,List.filterMap_eq_map']
def Tz:∀{ns:List Int},Hb (ns.map .i)=AA ns|[]=>rfl|n::r=>by rw[Dw,Hb,Tz];rfl
def uW{ns:List Int}:UC (.L ((ns.map .i).map .d))=AA (.s (.i ns.sum)):=by unfold UC;rw[Gw,Ec,Tz];rfl
def Y9{ns:List Int}:Qb (.L ((ns.map .i).map .d))=(J4 ns).map λk=>.s (.i k):=by unfold Qb;rw[Gw,Ec,Tz];rfl
def sN{ns:List Int}:T9 (.L ((ns.map .i).map .d))=(LD ns).map λk=>.s (.i k):=by unfold T9;rw[Gw,Ec,Tz];rfl
def T3(x:Option (Nat×List Nat))(y:Option AU)(z:Option Ab)(τ:AM):A8:=OU (λ_=>x) (λ_=>y) (λ_=>z) τ
def rQ:OU pl pk f τ=T3 (pl τ) (pk τ) (f τ) τ:=rfl
def YG(x:Option AU)(i:Nat)(u:AU)(τ:AM):A8:=match x with|AA (.L l)=>if 0<l.length then .nx (τ.set i (AA (.L (l.set (l.length-1) u))))else .er|_=>T3 (AA (i,[])) (AA (.d (.i (-1)))) (AA (.n u)) τ
def rS{w:Ab}:T3 (AA (i,[])) (AA (.d (.i (-1)))) (AA w) τ=YG (Ai i τ) i w.t τ:=by
 unfold YG;split
 . rename_i l e;unfold T3 OU;simp only[Qx e,AU.mf,AU.ik,Uo e,T1,AM2];∎
 .rfl
def rR{τ:AM}:YG (AA (.L (l++[x]))) i u τ=.nx (τ.set i (AA (.L (l++[u])))):=by show(if 0<(l++[x]).length then A8.nx _ else .er)=_;simp_all
def t6:KD [] G τ=G τ:=rfl
def t8:KD (i::is) G τ=KD is G (MC i τ):=rfl
def nG(x:Option AN)(i:Nat)(τ:AM):AM:=match x with|AA d=>τ.set i (AA (.d d))|AB=>τ
def l7(x:Option AU):Option AN:=x.bind AU.fg
def t7:MC i τ=nG (l7 (Ai i τ)) i τ:=rfl
def t9{τ:AM}:nG (AA d) i τ=τ.set i (AA (.d d)):=rfl
def sO{t:AU}:l7 (AA t)=t.fg:=rfl
def OH{xs:List α}(I:List α->AM->Prop)(Z:I [] τ)(B:∀l x z,xs=l++x::z->∀τ,I l τ->∃τ1,m (en x) τ=AA τ1/\∃J,I (l++[x]) J/\(G τ1=.nx J\/G τ1=.ct J)):∃D,ET m G (xs.map en) τ=.nx D/\I xs D:=by
 have Y:∀(z l:List α)(τ:AM),xs=l++z->I l τ->∃D,ET m G (z.map en) τ=.nx D/\I xs D:=by intro z;induction z with |nil=>intro l τ e h;rw[e,Ek];exact⟨τ,rfl,h⟩|cons x z C=>
  intro l τ e h;obtain⟨τ1,V,J,h2,U⟩:=B l x z e τ h;obtain⟨D,W,A⟩:=C _ _ (by rw[e,Gg];rfl) h2;refine⟨D,?_,A⟩;rcases U with U|U;.exact(lD V U).trans W
  .exact(lC V U).trans W
 exact Y xs [] τ rfl Z
def QR{α:Type}{τ:AM}{m:AN->AM->Option AM}{G:AM->A8}{en:α->AN}{xs:List α}{J:AM->Prop}(I:List α->AM->Prop)(V:I [] τ)(W:∀l x z,xs=l++x::z->∀τ,I l τ->∃τ1,m (en x) τ=AA τ1/\∃U,I (l++[x]) U/\(G τ1=.nx U\/G τ1=.ct U))(k:∀D,I xs D->J D):∃D,J D/\(ET m G (xs.map en) τ=.nx D\/ET m G (xs.map en) τ=.ct D):=by obtain⟨D,e,h⟩:=OH I V W;grind
noncomputable def Qm(ns:List Int):List AN:=(GA (DF [] (ns.map Bk))).map Em
def X3:∀{ns:List Int},HG (ns.map .i)=AA (ns.map Bk)|[]=>rfl|n::r=>by rw[Dw,HG,X3];rfl
def AIx{ns:List Int}(h:ns.length+1<F8):M0 (.d (.t (ns.map .i)))=AA (.n (.L ((Qm ns).map .d))):=by
 show((HG _).bind _)=_;rw[X3,Ec,AMu];.rfl
 ∎
def vO:Qf (.d (.t l))=AA (.s (.t l)):=rfl
def vN{l:List AN}:Qf (.L (l.map .d))=AA (.s (.t l)):=by unfold Qf;rw[show(AU.L _).eh=AA l from QX];rfl
def sL:mJ (.d (.i i)) (.d (.i j))=AA (.s (.i (if j>i then j else i))):=rfl
def ZD:mK (.d (.i i)) (.d (.i j))=AA (.s (.i (if j<i then j else i))):=rfl
def AU.dd:AU->Option AN|.d x=>AA x|_=>AB
def AGz{t:AU}(h:t.dd=AA x):t=.d x:=by cases t with|d y=>cases h;rfl|_=>cases h
def Ti(ks:List AW)(l:List AU)(d:AN):Option (Option AN):=(d.gb.bind λk=>(DQ ks l k).bind AU.dd).map AA
def Qn(j:Nat)(fi:AM->Option (List AN)):AM->Option Ab:=λτ=>(fi τ).bind λds=>(Ai j τ).bind λt=>t.dz.bind λm=>if ds.length<=AY then(Hd (Ti m.1 m.2) ds).map λl=>.n (.L (l.map .d))else AB
def AG3{K:Ap}(h:A7 K cl (Qn j fi) σ H Q):Nt 1 [j] (J9 K cl fi) (Le 0) W3 (Wz (Pk 1) (Pk 0)) σ H Q:=by
  obtain⟨g,F,τ,w,S,ew,k⟩:=h;obtain⟨ds,ed,U⟩:=Am.mp ew;obtain⟨t,A,U⟩:=Am.mp U;obtain⟨⟨ks,lt⟩,em,U⟩:=Am.mp U;by_cases hz:ds.length<=AY;case neg=>rw[AMv hz]at U;cases U
  rw[AMu hz]at U;obtain⟨l,p,rfl⟩:=BK.mp U;refine⟨g,F,τ,ds,S,ed,λJ H1 φ s1 P h1 it=>?_⟩;have c:=S.ak s1;have A:=Lr.mp A;obtain⟨F1,_,_,q3,_⟩:=c.sl.dh j (EN.mp A).1;obtain⟨v0,ev,ow⟩:=q3 t A;obtain⟨a,xs,F2,rfl,qd,q0,r⟩:=ow.dz Bu em;refine⟨λi n Y D H'=>n=ds.length-i/\i<=ds.length/\D.length<=i/\(∃o,Y=[o,AA (.ref a)])/\As H1 H'/\∃B R,Bd K (A1 g.O F H') B D/\Hd (Ti ks lt) (ds.drop i)=AA R/\l=B++R,⟨_,rfl,EA _,EA _,⟨AB,?_⟩,CQ _,[],l,rfl,p,rfl⟩,?_⟩
  . show[AB,Ki σ j]=_;unfold Ki;rw[ev];rfl
  rintro i n Y D H'⟨rfl,hi,O,⟨o,rfl⟩,W,B,R,m,Z,d⟩;obtain⟨st,go⟩:=it g.O F H' (c.ak W).vk (P _ _ (HF (FI W)) h1);by_cases V:i<ds.length
  . obtain⟨q1,q2⟩:=go i ds[i] (EM V);refine .inr ⟨q1,∎,λx H2 y=>?_⟩;obtain⟨s2,rp⟩:=q2 x H2 y;rw[Pm V]at Z;obtain⟨o1,q,s⟩:=Am.mp Z;obtain⟨l3,u,e9⟩:=BK.mp s;obtain⟨z,E,rfl⟩:=BK.mp q;obtain⟨kk,G,I⟩:=Am.mp E;obtain⟨tz,L,M⟩:=Am.mp I;cases AGz M;obtain⟨j',z1,z2⟩:=(UT r.ba).1 _ L;obtain⟨v,F3,N,X⟩:=r.at z1;have hx:=Tf G rp;unfold Le W3;refine⟨a,v,rfl,.inl ⟨_,kk,Mq (W.ae s2) qd,hx,by rw[OW];exact(z2 v N).symm⟩,_,∎,rfl,V,by rw[Bi];exact AE6 O,⟨_,rfl⟩,W.ae s2,B++[z],l3,?_,u,by rw[d,<-e9,Gg];rfl⟩;exact Bd.cw (m.ag (FI s2)) ⟨v,[],rfl,X.1.ag (FI (W.ae s2)),rfl⟩
  . have e:i=ds.length:=by∎
    subst e;rw[f6]at Z;cases Z;refine .inl ⟨st,λC f=>?_⟩;have b:Bd K (A1 g.O F H') l D:=by rw[d,Ek];exact m
    exact k _ _ ((s1.ae W).ae (Df f)) ((He f b).gm (s1.ae W))
def AIW{K:Ap}{X:BY}{scope:ED}{y:AG}{U:Ce}(i j:Nat)(M:X.N.Nodup)(x:AG)(d:AG)(W:ED)(hi:EX X tg iter (J9 K cl fi))(P:∀C s H ex,FT (Ct X scope [x,d] C s H ex) tg (Le 0))(O:∀C s H ex,AV (Ct X scope [x,d] C s H ex) elt (Wz (Pk 1) (Pk 0)))(E:X.N[i]?=AA y:=by rfl)(I:JF X.aa.scope y:=by first|exact .inl rfl|exact .inr rfl)(B:X.fn y=AD\/X.aa.scope.names.lookup y=AA .local:=by first|exact .inl rfl|exact .inr rfl|∎)(Z:KZ X scope [(d,j)]:=by exact⟨rfl,rfl,trivial⟩)(N:X.bc=AD:=by rfl)(T:X.aa.scope=W:=by rfl)(Q:scope.kind=.function:=by rfl)(V:∀y∈scope.names,y.2≠.cell:=by decide+kernel)(J:∀y∈scope.names,y.2=.local->scope.names.lookup y.1=AA .local:=by decide+kernel)(A:∀y∈scope.names,y.2=.free->W.names.lookup y.1=AA .cell\/W.names.lookup y.1=AA .free:=by decide+kernel)(G:HY (.ListComp elt [⟨tg,iter,[],0⟩] scope pos) (AA (.Name y py)) U.line X.aa=BC AD:=by rfl)(R:∀x,L4 iter X.aa x=BC x:=by intro _;rfl):CY X (.Assign [.Name y py] (.ListComp elt [⟨tg,iter,[],0⟩] scope pos) U) (Cv K cl (Ir i (Qn j fi))):=FV (eA (own:=[x]) M E I B N hi Q V J (λy a e=>by show X.aa.scope.names.lookup _=_\/X.aa.scope.names.lookup y.1=_;∎) Z P (λ_ _ _ _=>eK) O G R) λD σ H⟨g,F,τ,S,o⟩=>by refine AG3 ?_;unfold Ir at o;cases Y:Qn j fi τ with|none=>rw[Y]at o;exact o.elim|some w=>rw[Y]at o;refine⟨g,F,τ,w,S,Y,λv H' s r=>?_⟩;obtain⟨F',L,_⟩:=S.fm s r i;exact o F' H' _ L
def AHE{scope:ED}{N:List AG}(J:N.Nodup)(D:scope.names.lookup x=AA .local:=by rfl)(hi:N[0]?=AA x:=by rfl):FT (Ct X scope N C s H ex) (.Name x pos) (Le 0):=Wk J hi (.inl (Sx D)) (.inr (Sx D))
def M3(i:Nat)(τ:AM):AM:=match(τ[i]?).join with|AA (.M ks l)=>(match DM l with|AA ds=>τ.set i (AA (.M ks (ds.map .d)))|AB=>τ)|_=>τ
def BH.xo{K:Ap}(S:BH K cl g F H σ τ)(i:Nat):∃F',BH K cl g F' H σ (M3 i τ):=by
  unfold M3;split
  . rename_i ks l h1;split
    . rename_i ds h2;have hi:=Lr.mp h1;have A:i<τ.length:=(EN.mp hi).1;obtain⟨Q,W,G,I,L⟩:=S.sl.dh i A;obtain⟨v,Z,C⟩:=I _ hi;obtain⟨a,xs,J,rfl,rfl,E,qa,r⟩:=C;have V:=G S.nd;have e0:As (A1 g.O F H) (A1 g.O (F.filter λb=>Af (b∉J)) H):=DN λa U=>(Ea.mp U).1;have N:Bd K (A1 g.O (F.filter λb=>Af (b∉J)) H) ds xs:=OE e0 h2 (λb D o h=>CU.mpr ⟨(λz=>by
        obtain⟨n,o',q⟩:=S.od b z;rcases S.nw b (W b (DK _ D))with y|y;.exact n y
        .rw[y]at q;cases q),λz=>by simp[D]at z,h⟩) r;obtain⟨F',Y,O,P⟩:=L e0 (λa _ _ o h=>h) S.nd (t':=.M ks (ds.map .d)) (v':=.ref a) (Fn:=[a]) ⟨a,xs,[],rfl,rfl,E,qa,M1 N⟩;have es:σ.set i (AA (.ref a))=σ:=by obtain⟨h1,h2⟩:=EN.mp Z;rw[<-h2,gJ]
      rw[es]at Y;have B:a∉J:=(EG.mp V).1;have sub:∀b∈F',b∈F.filter λb=>Af (b∉J):=λb D=>by
        rcases(O b).mp D with⟨h,z⟩|h;.exact Ea.mpr ⟨h,AMy λy=>z (DK _ y)⟩
        . rw[Cd.mp h];exact Ea.mpr ⟨W a B7,AMy B⟩
      exact⟨F',S.ag,S.od,λa U=>S.nw a (Ea.mp (sub a U)).1,P (EG.mpr ⟨(nomatch.),Ft⟩) (λb D _=>by rw[Cd.mp D];exact B7),Y.ag (DN sub) λa _ o h=>h,g.pm _ _ (HF (e0.ae (DN sub))) S.pn⟩
    .exact⟨F,S⟩
  .exact⟨F,S⟩
def Yl(i:Nat)(G:AM->A8):AM->A8:=λτ=>G (M3 i τ)
def AIb{K:Ap}{st:DE}(i:Nat)(h:CY X st (Cv K cl G)):CY X st (Cv K cl (Yl i G)):=FV h λD σ H⟨g,F,τ,S,o⟩=>by obtain⟨F',J⟩:=S.xo i;exact⟨g,F',_,J,o⟩
def eY(K:Ap):Cy:=λx y H Q=>∃p ys ds dx,y=.ref p/\Bq K H p ys/\Ja K H ys ds/\GG K H x dx/\(∀d∈ds,HD d=AD)/\HD dx=AD/\Q (.bl (!(ds.any λd=>Ii d dx))) H
section
variable{X:BY}
open Classical in theorem ACr{K:Ap}(M:X.A.in1.units+64<Gk)(F:X.K=K:=by rfl):CN X (EI .NotIn) (eY K):=by
  subst F;intro pins s σ H x y v u Q I O P h;obtain⟨p,ys,ds,dx,rfl,L,J,U,D,W,q⟩:=h;cases P;obtain⟨Z,r1⟩:=U.km I O;obtain⟨V,N,pl,hz⟩:=I.bz L;obtain⟨ps,e,R,G⟩:=cD I J N;have E:∀w∈V,∃p∈ps,p.1=w/\Ii p.2 dx=Af (∃p∈ps,p.1=w/\Ii p.2 dx=AD):=(by grind);refine AKs (λw=>Af (∃p∈ps,p.1=w/\Ii p.2 dx=AD)) pl.isList (λw hw=>?_) ⟨.bl _,H,I,rfl,?_⟩
  . obtain⟨p,m,B,C⟩:=E w (by grind);obtain⟨A,r2⟩:=G _ m;have Y:p.2∈ds:=by grind
    rw[<-C];subst B;exact AKr _ dx _ s _ v _ Z r2 r1 (AKq (D _ Y)) (AKq W) (SeqAt.room_of_shaped (D _ Y) M)
  grind
end
def AHc{K:Ap}:GQ K cl (eY K) (LF AD):=λ{g F H σ τ a b x y w B C Q}S Z A e k=>by obtain⟨p,ys,ds,dx,D,J,U,V,W,Y,rfl⟩:=AHG Bu Z A e;exact⟨p,ys,ds,dx,D,J,U,V,W,Y,k _ H (CQ _) (by show _=_;simp)⟩
def oP{K:Ap}{X:BY}(W:CP n X.A)(J:AV X a (A0 K cl pa))(U:AV X b (A0 K cl pb))(D:X.K=K:=by rfl)(V:Jv .NotIn b=AH:=by first|exact Np _ (by decide) (by decide)|rfl):Cq X (.Compare a [.NotIn] [b] pos) (DO K cl (DZ (A9 (LF AD) pa pb))):=LI (ACr W.uq D) AHc J U V
def M8:List ((AM->Option Ab)×(AM->Option Ab))->AM->Option (List (AW×AW))|[],_=>AA []|(f,h)::r,τ=>(f τ).bind λw=>w.t.gb.bind λk=>(h τ).bind λu=>u.t.gb.bind λv=>(M8 r τ).map ((k,v)::.)
def Ql(K:Ap)(cl:Nat->AI)(l:List ((AM->Option Ab)×(AM->Option Ab))):List (A6×A6):=l.map λp=>(A7 K cl p.1,A7 K cl p.2)
def EJ.gb{K:Ap}{w:Ab}(h:w.t.gb=AA k)(r:EJ K cl O F H H' w v):v=BP k:=by obtain⟨F',o⟩:=r.ow;exact o.gb h
def mV{K:Ap}:∀{l:List ((AM->Option Ab)×(AM->Option Ab))}{kvs:List (AW×AW)}{H:AR}{Q:List (AQ×AQ)->AR->Prop},BH K cl g F H σ τ->M8 l τ=AA kvs->(∀H',As H H'->Q (kvs.map λq=>(BP q.1,BP q.2)) H')->SR (Ql K cl l) σ H Q|[],_,H,_,S,e,k=>by cases e;exact k H (CQ _)|(f,h)::r,_,H,Q,S,e,k=>by obtain⟨w,J,e⟩:=Am.mp e;obtain⟨B,U,e⟩:=Am.mp e;obtain⟨u,Y,e⟩:=Am.mp e;obtain⟨E,Z,e⟩:=Am.mp e;obtain⟨C,A,rfl⟩:=BK.mp e;refine⟨g,F,τ,w,S,J,λx H1 s1 r1=>⟨g,F,τ,u,S.ak s1,Y,λy H2 s2 r2=>mV ((S.ak s1).ak s2) A λD s3=>?_⟩⟩;rw[r1.gb U,r2.gb Z];exact k D (s1.ae (s2.ae s3))
def oB[DecidableEq κ]:∀{kvs:List (κ×AQ)}{k:κ},k∉kvs.map (·.1)->FW kvs k=AB|[],_,_=>rfl|(k0,x)::r,k,h=>by rw[Pl ∎];exact oB ∎
def l6:∀{l D:List (AW×AQ)},(D.map (·.1)++l.map (·.1)).Nodup->Li D l=D++l|[],D,_=>(Ek _).symm|p::r,D,h=>by have J:p.1∉D.map (·.1):=∎;show Li (Ej _ _ _) r=_;rw[ADf _ (oB J),l6];all_goals∎
def nZ(l:List ((AM->Option Ab)×(AM->Option Ab))):AM->Option Ab:=λτ=>(M8 l τ).bind λkvs=>if kvs.length<=15/\(kvs.map (·.1)).Nodup then AA (.n (.M (kvs.map (·.1)) (kvs.map λq=>.d (Em q.2))))else AB
def AHt{K:Ap}:DY K G (Em k) (BP k):=by cases k<;>rfl
def nJ{K:Ap}:∀(l:List (AW×AW)),Bd K G (l.map λq=>Em q.2) (l.map λq=>BP q.2)|[]=>rfl|q::r=>⟨_,_,rfl,AHt,nJ r⟩
def AIC{K:Ap}:La X pos [] [] (Ql K cl []):=ADV
def UU{K:Ap}(D:AV X k (A7 K cl f))(U:AV X v (A7 K cl f2))(J:La X pos ks vs (Ql K cl l)):La X pos (AA k::ks) (v::vs) (Ql K cl ((f,f2)::l)):=ADU D U J
def AIH{K:Ap}{D:List (Option BE)}{J:List BE}(h:La X pos D J (Ql K cl l))(U:D.all (·.isSome)=AD:=by rfl)(M:D.length=J.length:=by rfl)(I:D≠[]:=by exactλz=>nomatch z)(Y:D.length<=15:=by decide):AV X (.Dict D J pos) (A7 K cl (nZ l)):=C8 (AC5 h U M I Y) λσ H Q⟨g,F,τ,w,S,E,k⟩=>by
  obtain⟨kvs,Z,A⟩:=Am.mp E;obtain⟨c,B⟩:=E3 A;subst B;intro p V;refine mV (S.ak (Df V)) Z λH2 s2=>⟨s2 _ _ Dh,kvs.map λq=>(q.1,BP q.2),?_,by rw[A4];exact c.1,?_⟩
  . rw[Bj];rfl
  have C:Li [] (kvs.map λq=>(q.1,BP q.2))=(kvs.map (·.1)).zip (kvs.map λq=>BP q.2):=by rw[l6];all_goals∎
  rw[C];refine k _ _ (λa o h=>?_) ⟨[p],⟨p,kvs.map λq=>BP q.2,[],rfl,rfl,⟨by rw[A4,A4],c.2⟩,Dh,?_⟩,∎,λa L=>by rw[Cd.mp L];exact V⟩
  . have z:a≠p:=λz=>by rw[z,V]at h;cases h
    rw[Bs z];exact s2 _ _ (Df V _ _ h)
  . have:=M1 (cl:=cl) (H:=Ax H2 p (.dK ((kvs.map (·.1)).zip (kvs.map λq=>BP q.2)))) (nJ (K:=K) (G:=A1 g.O ([p]++F) (Ax H2 p (.dK ((kvs.map (·.1)).zip (kvs.map λq=>BP q.2))))) kvs);rw[Bj]at this;exact this
def Ue{q:AM->Option Bool}{G:AM->A8}{J:AM->Prop}(I:Nat->AM->Prop)(W:∀m τ,I m τ->(q τ=AA AH/\J τ)\/(q τ=AA AD/\∃V D,m=V+1/\I V D/\(G τ=.nx D\/G τ=.ct D))):∀{n m:Nat}{τ:AM},I m τ->m<n->∃U,GV q G n τ=.nx U/\J U
 |0,m,τ,_,h=>(by grind)|n+1,m,τ,Y,h=>by
  rcases W m τ Y with⟨e,j⟩|⟨e,V,D,rfl,h2,Z⟩;.exact⟨τ,by unfold GV;rw[e],j⟩
  . obtain⟨U,A,j⟩:=Ue I W h2 (AE3 h);unfold GV;grind
def AIi{K:AM->A8}(I:Nat->AM->Prop)(m:Nat)(U:I m τ)(V:m<n)(Y:∀m τ,I m τ->(q τ=AA AH/\EK (K τ)=r)\/(q τ=AA AD/\∃J D,m=J+1/\I J D/\(G τ=.nx D\/G τ=.ct D))):EK (D1 (GV q G n τ) K)=r:=by obtain⟨Z,e,j⟩:=Ue I Y U V;rw[e];exact j
def AIj{τ:AM}{q:AM->Option Bool}{G:AM->A8}{J:AM->Prop}(I:Nat->AM->Prop){n:Nat}(m:Nat)(W:I m τ)(Y:m<n)(Z:∀m τ,I m τ->(q τ=AA AH/\J τ)\/(q τ=AA AD/\∃V U,m=V+1/\I V U/\(G τ=.nx U\/G τ=.ct U))):∃D,J D/\(GV q G n τ=.nx D\/GV q G n τ=.ct D):=by obtain⟨D,e,j⟩:=Ue I Z W Y;grind
def AIr:YQ (.d (.t (.i t::r))) (.d (.t [.i m]))=AA (.s (.b (Af (t<m)))):=by
 have h:OO (.d (.t (.i t::r))) (.d (.t [.i m]))=AA (.s (.b (Af (t<m)))):=by
  have e:(DH (.i t::r)).1=.inl t::(DH r).1:=rfl;have J:HG [AN.i m]=AA _:=rfl;unfold OO;simp only[J,Ec];rw[e,AMu ⟨.inr (by simp),by simp[CZ]⟩];congr 3;show(if(Bk t)=.inl m then Bv _ []else D8 _ _)=_;by_cases z:t=m;. subst z;cases(DH r).1<;>simp[Bv]
  . rw[AMv ∎];rfl
 ∎
def lL{α β:Type}{h:α->β}(p:List AW×α):∀l:List (List AW×α),LA (p.1,h p.2) (l.map λq=>(q.1,h q.2))=(LA p l).map λq=>(q.1,h q.2)
 |[]=>rfl|q::r=>by
  rw[Dw];unfold LA;split;.rw[Dw,lL p r]
  .rfl
def lP{α β:Type}{h:α->β}:∀l:List (List AW×α),Gq (l.map λq=>(q.1,h q.2))=(Gq l).map λq=>(q.1,h q.2)|[]=>rfl|p::r=>by rw[Dw];unfold Gq;rw[lP r,lL p]
def YI{α β:Type}{f:AN->Option β}{en:α->AN}{ky:α->β}:∀{xs:List α},(∀x∈xs,f (en x)=AA (ky x))->L9 f (xs.map en)=AA (xs.map ky)|[],_=>rfl|x::r,h=>by show((f _).bind _)=_;rw[h x (by grind),YI λy J=>h y (by grind)];rfl
def Dz(ky:α->List AW)(xs:List α):List α:=(Gq (xs.map λx=>(ky x,x))).map (·.2)
def nR{α:Type}{en:α->AN}{ky:α->List AW}{xs:List α}:(Gq ((xs.map ky).zip (xs.map en))).map (λp=>AU.d p.2)=((Dz ky xs).map en).map .d:=by rw[List.zip_map',show(xs.map _)=(xs.map λx=>(ky x,x)).map λq=>(q.1,en q.2)by simp_all,lP];unfold Dz;simp_all
def HH:(Dz ky xs).Perm xs:=by
 have:=(LB (xs.map λx=>(ky x,x))).map (·.2);have e:(xs.map λx=>(ky x,x)).map (·.2)=xs:=by rw[Bj];exact XG _
 rw[e]at this;exact this
def AHy:Kb ((Dz ky xs).map ky):=by
 have h:=Mv (xs.map λx=>(ky x,x));have e:(Gq (xs.map λx=>(ky x,x))).map (·.1)=(Dz ky xs).map ky:=by unfold Dz;rw[Bj];refine Ie λp D=>?_;obtain⟨x,_,rfl⟩:=B8.mp ((LB _).mem_iff.mp D);rfl
 ∎
def AIv{α:Type}{en:α->AN}{ky:α->List AW}{xs:List α}(W:t.az=AA (xs.map en))(V:∀x∈xs,OJ (en x)=AA (ky x))(J:List Bool)(U:J≠[])(Y:∀x∈xs,∀k,UI (en x)=AA k->k.map CZ=J):Qd t=AA (.n (.L (((Dz ky xs).map en).map .d))):=by have c:∃J,(J≠[]/\∀d∈xs.map en,∀k,UI d=AA k->k.map CZ=J):=⟨J,U,(by grind)⟩;unfold Qd;rw[W,Ec,YI V,Ec,AMu c,nR]
def uV{α:Type}{en:α->AN}{ky:α->List AW}{xs:List α}(W:t.az=AA (xs.map en))(V:∀x∈xs,YB (en x)=AA (ky x))(J:List Bool)(U:J≠[])(Z:∀x∈xs,(ky x).map CZ=J)(Y:(xs.map ky).Nodup):UB t=AA (.n (.L (((Dz ky xs).map en).map .d))):=by have c:(∃J,(J≠[]/\∀k∈xs.map ky,k.map CZ=J))/\(xs.map ky).Nodup:=⟨⟨J,U,(by grind)⟩,Y⟩;unfold UB;rw[W,Ec,YI V,Ec,AMu c,nR]
def AHL:(AU.d (.l l)).az=AA l:=rfl
def lS{l:List AN}:(AU.L (l.map .d)).az=AA l:=QX
def lO:∀{ns:List Int},Hb (ns.map .i)=AA ns|[]=>rfl|n::r=>by unfold Hb;simp[lO]
def AHq{st:DE}:CY X st (λ_ _ _=>False):=λpins s σ H D I h=>h.elim
def nU(K:Ap)(cl:Nat->AI)(m:AM->Option (Bool×AM)):Dk:=λσ H Q=>∃g F τ b D,BH K cl g F H σ τ/\m τ=AA (b,D)/\∀F' H',BH K cl g F' H' σ D->Q b H'
def Qq(m:AM->Option (Bool×AM))(G G':AM->A8):AM->A8:=λτ=>match m τ with|AA (AD,D)=>G D|AA (AH,D)=>G' D|AB=>.er
def AH4{K:Ap}(h:FH K cl g D (Qq m G G' τ)):∃b J,m τ=AA (b,J)/\FH K cl g D (if b=AD then G J else G' J):=by unfold Qq at h;cases e:m τ with|none=>rw[e]at h;exact h.elim|some q=>∎
def AIY{K:Ap}(Z:Cq X c (nU K cl m))(W:DS X a (Cv K cl G))(Y:DS X b (Cv K cl G')):CY X (.If c a b pos) (Cv K cl (Qq m G G')):=FV (Pe Z W Y) λD σ H⟨g,F,τ,S,o⟩=>by obtain⟨b,J,V,o⟩:=AH4 o;refine⟨g,F,τ,b,J,S,V,λF' H' U=>?_⟩;cases b with|true=>exact⟨g,F',J,U,o⟩|false=>exact⟨g,F',J,U,o⟩
abbrev OC:=List AW->List AW->Option (Bool×List AW)
def nO(C:AI)(fs:List AG)(J:OC):Ex:=λvs H Q _=>∃a dx ks U b D,vs=.ref a::U.map BP/\H a=AA (.ins C dx (fs.zip (ks.map BP)))/\fs.length=ks.length/\J ks U=AA (b,D)/\Q (.bl b) (Ax H a (.ins C dx (fs.zip (D.map BP))))
def Tq:List AU->Option (List AW)|[]=>AA []|t::r=>t.gb.bind λk=>(Tq r).map (k::.)
def X4{K:Ap}:∀{l:List AU}{ks:List AW}{xs:List AQ}{F:List AI},Tq l=AA ks->Cu K cl G H l xs F->xs=ks.map BP/\F=[]|[],_,_,_,e,h=>by cases e;exact h|t::r,_,_,_,e,h=>by obtain⟨k,D,e⟩:=Am.mp e;obtain⟨ks,J,rfl⟩:=BK.mp e;obtain⟨v,ys,W,Y,rfl,rfl,h2,U⟩:=h;obtain⟨rfl,rfl⟩:=X4 J U;rw[h2.gb D];cases t with|d x=>exact⟨rfl,by rw[h2.2];rfl⟩|_=>cases D
def mO{K:Ap}(ks:List AW):Cu K cl G H (ks.map λk=>.d (Em k)) (ks.map BP) []:=by have:=M1 (cl:=cl) (H:=H) (OQ (K:=K) (G:=G) ks);rw[Bj]at this;exact this
def lX:∀{fs:List AG}{xs:List AQ},m∉fs->(fs.zip xs).lookup m=AB|[],_,_=>rfl|_::_,[],_=>rfl|y::fs,x::xs,h=>by have h1:(m==y)=AH:=∎;rw[AE2,List.lookup_cons,h1];exact lX ∎
def YK(i c:Nat)(fs:List AG)(J:OC)(τ:AM)(t:Option AU)(r:Option (Bool×List AN)):Option (Bool×AM):=match t with|AA (.B V fs' l)=>if V=c/\fs'=fs then(Tq l).bind λks=>r.bind λr=>(HG r.2).bind λU=>(J ks U).bind λq=>if q.2.length=fs.length/\ks.length=fs.length then AA (q.1,τ.set i (AA (.B c fs (q.2.map λk=>.d (Em k)))))else AB else AB|_=>AB
def Yi(i c:Nat)(fs:List AG)(J:OC)(fa:AM->Option (Bool×List AN)):AM->Option (Bool×AM):=λτ=>YK i c fs J τ (Ai i τ) (fa τ)
def AH6{τ:AM}{fs:List AG}(h:Yi i c fs D fa τ=AA q):∃l ks r J z,τ[i]?=AA (AA (.B c fs l))/\Tq l=AA ks/\fa τ=AA r/\HG r.2=AA J/\D ks J=AA z/\(z.2.length=fs.length/\ks.length=fs.length)/\q=(z.1,τ.set i (AA (.B c fs (z.2.map λk=>.d (Em k))))):=by
  unfold Yi YK at h;split at h
  . rename_i U fs' l e0;by_cases z:U=c/\fs'=fs;case neg=>rw[AMv z]at h;cases h
    rw[AMu z]at h;obtain⟨rfl,rfl⟩:=z;obtain⟨ks,V,h⟩:=Am.mp h;obtain⟨r,W,h⟩:=Am.mp h;obtain⟨J,Y,h⟩:=Am.mp h;obtain⟨z,Z,h⟩:=Am.mp h;obtain⟨hz,h⟩:=E3 h;exact⟨l,ks,r,J,z,Lr.mp e0,V,W,Y,Z,hz,h.symm⟩
  .cases h
def AIg{K:Ap}{X:BY}{ap:Ce}{x m:AG}(i:Nat)(U:cl c=C)(hc:KY X.K C)(hm:PC X.K C m f)(Fk:Dr X.af X.w X.K X.mg X.ai G4 k f fd ps (nO C fs Y))(hr:CP n X.A)(W:Fm X.K fd ps [])(ha:C7 X (e::es) (Hf K cl fa))(I:m∉fs)(hn:k<=n:=by decide)(hN:X.N[i]?=AA x:=by rfl)(hv:Ia X.aa.scope x:=by first|exact Or.inl rfl|exact Or.inr (Or.inl rfl)|exact Or.inr (Or.inr rfl))(hd:(x==("__debug__":AG))=AH:=by decide)(G:(x==("__classdict__":AG))=AH:=by decide)(M:Ah (e::es) X.aa=(AH,Ar e X.aa)::Ah es X.aa:=by rfl)(L:(Bx pos (Ah es X.aa)).any (·.1)=AH:=by rfl)(ht:Ar (.Call (.Attribute (.Name x p) m ap) (e::es) [] pos) X.aa=(do
  let s<-Ar (.Name x p) X.aa
  Xd ap.atName let(f,first)<-Xb [s] (iN s m pl)callWith pos f first (Bx pos (Ah (e::es) X.aa)) (Ju pos (Jy [] X.aa))):=by rfl)(he:∀J,P2 (.Call (.Attribute (.Name x p) m ap) (e::es) [] pos) X.aa J=(do let v<-J;Xd (Expr.pos (.Call (.Attribute (.Name x p) m ap) (e::es) [] pos));Xb [v] (truthy v)):=by intro _;rfl):Cq X (.Call (.Attribute (.Name x p) m ap) (e::es) [] pos) (nU K cl (Yi i c fs Y fa)):=Pf (SM (ADA (pl:=pl) (Jk i hN hv hd G) hc hm Fk (hr.gg hn) W .nil Wg ha M L ht) he) λσ H Q⟨g,F,τ,b,τ',S,e1,k⟩=>by
 obtain⟨l,ks,⟨b1,ds⟩,as,z,T,j,e4,e5,e6,⟨z1,z2⟩,eq⟩:=AH6 e1;cases eq;obtain⟨v,F1,q,ow,_⟩:=S.dh T;obtain⟨a,dx,xs,F',rfl,rfl,hl,t,q2,q3⟩:=ow;obtain⟨rfl,rfl⟩:=X4 j q3;show Ji σ[i]? _;rw[q];refine⟨a,dx,_,rfl,by rw[t,U],lX I,g,F,τ,b1,ds,S,e4,λvs H2 B s2 hB hF r=>?_⟩;have S2:=S.ak s2;obtain⟨v2,F2,V,O,u,Z,E⟩:=S2.dh T;rw[q]at V;cases V;obtain⟨a2,D,xs2,w,ea,rfl,hl2,A,P,R⟩:=O;cases ea;obtain⟨rfl,rfl⟩:=X4 j R;have ed:D=dx:=by have:=s2 _ _ t;rw[A]at this;cases this;rfl
 subst ed;rw[QQ e5 r];have N:D≠a:=λz=>by have:=(EG.mp Z).1;exact this (by rw[z];exact B7 ..)
 refine⟨a,D,ks,as,z.1,z.2,by rw[Ek],by rw[A,U],z2.symm,e6,_,rfl,?_⟩;obtain⟨F3,S3⟩:=E (H':=Ax H2 a (.ins C D (fs.zip (z.2.map BP)))) (t':=.B c fs (z.2.map λk=>.d (Em k))) (Fn:=[a,D]) (λb o W h=>by rw[Bs λy=>W (by rw[y];exact B7 ..)];exact h) (λb W=>.inl W) Z λF4 _=>⟨a,D,z.2.map BP,[],rfl,rfl,by rw[A4,z1],by rw[U];exact Dh,by rw[Bs N];exact P,mO _⟩;exact k F3 _ S3
def nP(C:AI)(fs:List AG)(D:List AW->Option (List AW)):Ex:=λvs H Q _=>∃a dx J ks,vs=.ref a::J.map BP/\H a=AA (.ins C dx [])/\D J=AA ks/\∀H',As H H'->Q .non (Ax H' a (.ins C dx (fs.zip (ks.map BP))))
def Yj(c:Nat)(fs:List AG)(J:List AW->Option (List AW))(fa:AM->Option (Bool×List AN)):AM->Option Ab:=λτ=>(fa τ).bind λr=>(HG r.2).bind λU=>(J U).bind λks=>if ks.length=fs.length then AA (.n (.B c fs (ks.map λk=>.d (Em k))))else AB
def AIN{K:Ap}{X:BY}{x:AG}(W:cl c=C)(M:Rx X.K C f)(G:Dr X.af X.w X.K X.mg X.ai G4 k f fd ps (nP C fs V))(l:CP n X.A)(j:X.mg x=AA (.ref C))(J:Fm X.K fd ps [])(D:C7 X (e::es) (Hf K cl fa))(hn:k+1<=n:=by decide)(d:CG X x:=by rfl)(Z:(x==("__debug__":AG))=AH:=by decide)(T:Ah (e::es) X.aa=(AH,Ar e X.aa)::Ah es X.aa:=by rfl)(A:(Bx pos (Ah es X.aa)).any (·.1)=AH:=by rfl):AV X (.Call (.Name x p) (e::es) [] pos) (A7 K cl (Yj c fs V fa)):=C8 (d4 M G (l.gg hn) d j J .nil Wg D Z T A) λσ H Q⟨g,F,τ,w,S,R,k⟩=>by
  obtain⟨⟨L,ds⟩,N,h⟩:=Am.mp R;obtain⟨I,O,h⟩:=Am.mp h;obtain⟨ks,P,h⟩:=Am.mp h;obtain⟨i,h⟩:=E3 h;subst h;refine⟨g,F,τ,L,ds,S,N,λvs H1 B s1 o q r a dx D U E=>?_⟩;rw[QQ O r];refine⟨a,dx,I,ks,by rw[Ek],Dh,P,λH2 s2=>⟨rfl,?_⟩⟩;have m:As H1 (Ax (Ax H1 dx (.own a)) a (.ins C dx [])):=((CQ H1).oj U).oj D;have s3:As H1 (Ax H2 a (.ins C dx (fs.zip (ks.map BP)))):=(m.ae s2).oj D;have Y:H2 dx=AA (.own a):=s2 _ _ (by rw[Bs E];exact Dh);refine k _ _ (s1.ae s3) ⟨[a,dx],⟨a,dx,ks.map BP,[],rfl,rfl,by rw[A4,i],by rw[W];exact Dh,?_,mO _⟩,EG.mpr ⟨λz=>E (Cd.mp z).symm,EG.mpr ⟨(nomatch.),Ft⟩⟩,λb J=>?_⟩
  . rw[Bs E];exact Y
  . rcases Bw.mp J with rfl|J;.exact s1.bh D
    . rw[Cd.mp J];exact s1.bh U
def lT(j:Nat)(pl:AM->Option (Nat×List Nat)):AM->Option (Nat×List Nat):=λτ=>(pl τ).bind λq=>(τ.at q.1 q.2).bind λt=>match t with|.U l=>if j<l.length then AA (q.1,q.2++[j])else AB|_=>AB
def AHO{τ:AM}(h:lT j pl τ=AA r):∃q l,pl τ=AA q/\τ.at q.1 q.2=AA (.U l)/\j<l.length/\r=(q.1,q.2++[j]):=by
 obtain⟨q,D,h⟩:=Am.mp h;obtain⟨t,J,h⟩:=Am.mp h;split at h;. obtain⟨c,h⟩:=E3 h;exact⟨q,_,D,J,c,h.symm⟩
 .cases h
def oN{K:Ap}{X:BY}(E:AV X a (ME K cl pl))(j:Nat)(B:X.K=K:=by rfl):AV X (.Subscript a (.Constant (.int (j:Int)) I p) pos) (ME K cl (lT j pl)):=C8 (ADi K E Lk (by exactλ_ _=>rfl) B) λσ H Q⟨g,F,τ,i,π,c,S,Y,P,k⟩=>by obtain⟨⟨G,J⟩,l,Z,V,C,A⟩:=AHO Y;cases A;refine⟨g,F,τ,G,J,.U l,S,Z,V,λv H1 s1 st=>?_⟩;obtain⟨v',O,D,L,_⟩:=(S.ak s1).wj V;cases st.jb D;obtain⟨d,xs,rfl,q,r⟩:=L;obtain⟨u,_,W,_⟩:=r.at (EM C);refine⟨xs,u,Jg (Bu _ _ q),by rw[Gv];exact W,k u H1 s1 ?_⟩;obtain⟨w,M,N⟩:=st;refine⟨w,M,Ud N (Am.mpr ⟨u,?_,rfl⟩)⟩;unfold GR;simp only;rw[Bu _ _ q];exact W
def AHC{K:Ap}{st:DE}(Fn:Ew K x qual st f fd)(S:HP N ps (Bz st)):Dr P w K mg base G4 (k+1) f fd ps (J8 K cl λ_=>AB):=by
 refine Fn.ok S (λvs H Q E⟨O,ds,w,_,r,e,_⟩=>?_) λD A outer s H vs Q E J⟨O,ds,w,U,r,e,q⟩=>?_;.cases e
 .cases e
def L6(a b:Option AU)(w:Option Ab):Option Ab:=a.bind λa=>b.bind λb=>w.bind λw=>a.dz.bind λm=>b.gb.bind λk=>match DQ m.1 m.2 k with|AA (.d d)=>AA (.s d)|AA _=>AB|AB=>AA w
def qO:nY p q f τ=L6 (p τ) (q τ) (f τ):=rfl
def AG6{a b:AU}(h1:a.dz=AA (ks,l))(h2:b.gb=AA k)(J:DQ ks l k=AA (.d d)):L6 (AA a) (AA b) (AA w)=AA (.s d):=by unfold L6;∎
def AG5{a b:AU}(h1:a.dz=AA (ks,l))(h2:b.gb=AA k)(D:DQ ks l k=AB):L6 (AA a) (AA b) (AA w)=AA w:=by unfold L6;∎
def X1{a b:AU}(h1:a.dz=AA (ks,l))(h2:b.gb=AA k)(D:DQ ks l k=AA t):J5 a b=AA t:=by unfold J5;∎
def OV{α β:Type}{h:β->AW}{v:β->α}(hi:∀a b,h a=h b->a=b):∀{zs:List β}{z:β},z∈zs->DQ (zs.map h) (zs.map v) (h z)=AA (v z)
 |[],_,e=>nomatch e|y::r,z,e=>by
  show(if h y=h z then AA _ else DQ _ _ _)=_;by_cases c:h y=h z;.grind
  . rw[AMv c];exact OV hi (by grind)
def oA:∀{zs:List β},(∀z∈zs,h z≠k)->DQ (zs.map h) (zs.map v) k=AB|[],_=>rfl|y::r,e=>by show(if h y=k then AA _ else DQ _ _ k)=_;rw[AMv ∎];exact oA ∎
def QU(a b:AG)(h:(BV a:AW)=.inr b):a=b:=j9 h
def UM:∀{zs:List α},(∀z∈zs,(t z).fg=AA (d z))->DM (zs.map t)=AA (zs.map d)|[],_=>rfl|z::r,h=>by show(t z).fg.bind _=_;rw[h z ∎,UM λy J=>h y ∎];rfl
def KA{ds:List AN}:(AU.L (ds.map .d)).fg=AA (.l ds):=by show(DM _).map _=_;rw[UN];rfl
def nV:∀{l m:List AU}{a b:List AN},DM l=AA a->DM m=AA b->DM (l++m)=AA (a++b)|[],_,_,_,h,h'=>by cases h;exact h'|t::r,m,_,b,h,h'=>by obtain⟨x,J,h⟩:=Am.mp h;obtain⟨xs,U,rfl⟩:=BK.mp h;show t.fg.bind (λx=>(DM (r++m)).map _)=_;rw[J,nV U h'];rfl
def uE:Yl i G τ=G (M3 i τ):=rfl
def AHr{τ:AM}{ds:List AN}(h:Ai i τ=AA (.M ks l))(h2:DM l=AA ds):M3 i τ=τ.set i (AA (.M ks (ds.map .d))):=by unfold M3;rw[show(τ[i]?).join=_ from h];∎
def lQ:AW->Option Int|.inl i=>AA i|_=>AB
def M5:(GA ks).Perm ks:=by
 have:=(LB (ks.map λk=>(([k]),k))).map (·.2);have e:(ks.map λk=>(([k]),k)).map (·.2)=ks:=by rw[Bj];exact XG _
 rw[e]at this;exact this
def AHw:(GA ks).Pairwise λa b=>D8 b a=AH:=by
 have h:=Mv (ks.map λk=>(([k]),k));have e:(Gq (ks.map λk=>(([k]),k))).map (·.1)=(GA ks).map λk=>[k]:=by unfold GA;rw[Bj];refine Ie λp D=>?_;obtain⟨x,_,rfl⟩:=B8.mp ((LB _).mem_iff.mp D);rfl
 rw[e]at h;refine(HS.mp h).imp λ{a b}z=>?_;have z:(if b=a then AH else D8 b a)=AH:=z;by_cases c:b=a;.rw[c];exact R6 a
 ∎
def k8:∀{ks:List AW},(∀k∈ks,∃i,k=.inl i)->(ks.filterMap lQ).map Bk=ks|[],_=>rfl|k::r,h=>by obtain⟨i,rfl⟩:=h k ∎;show Bk i::_=_;rw[k8 ∎]
def GU(ks:List AW):List Int:=(GA ks).filterMap lQ
def M6{ks:List AW}(h:∀k∈ks,∃i,k=.inl i):GA ks=(GU ks).map Bk/\(∀i,i∈GU ks↔.inl i∈ks)/\(GU ks).Pairwise (.<=.)/\(ks.Nodup->(GU ks).Pairwise (.<.))/\(GU ks).length=ks.length:=by
  have e:(GU ks).map _=GA ks:=k8 λk U=>h k (M5.mem_iff.mp U);have V:∀i,i∈GU ks↔.inl i∈ks:=λi=>by rw[<-M5.mem_iff,<-e];∎
  have J:(GU ks).Pairwise (.<=.):=by have:=AHw (ks:=ks);rw[<-e]at this;refine(HS.mp this).imp λ{a b}z=>?_;have z:Af _=AH:=z;∎
  refine⟨e.symm,V,J,λW=>?_,?_⟩
  . have D:(GU ks).Nodup:=by have:=(M5).nodup_iff.mpr W;∎
    exact(J.and D).imp ∎
  .rw[<-A4,e,M5.length_eq]
def AIw{a:AU}(h1:a.dz=AA (ks,l))(h:∀k∈ks,∃i,k=.inl i):Qe a=AA (.n (.L (((GU ks).map .i).map .d))):=by have c:(∀k∈ks,∃i,k=(.inl i))\/∀k∈ks,∃i,k=.inr i:=.inl h;unfold Qe;rw[h1,Ec,AMu c,(M6 h).1,Bj (g:=Em)];rfl
noncomputable def Iq(ns:List Int):List Int:=GU (DF [] (ns.map Bk))
def mM{ns:List Int}:∀k∈DF [] (ns.map Bk:List AW),∃i,k=.inl i:=λk D=>by rcases(N9 k _ _).mp D with h|h;all_goals∎
def nW:Qm ns=(Iq ns).map .i:=by unfold Qm;rw[(M6 mM).1,Bj];rfl
def OT:(∀i,i∈Iq ns↔i∈ns)/\(Iq ns).Pairwise (.<.):=by obtain⟨_,h1,_,h2,_⟩:=M6 (mM);refine⟨λi=>?_,h2 (Xp _ _ Ft)⟩;show i∈GU _↔_;rw[h1,N9];∎
def Tt{K:AM->A8}{xs:List α}(R:Option Ab->Prop)(I:List α->AM->Prop)(V:I [] τ)(Y:∀l x z,xs=l++x::z->∀τ,I l τ->∃τ1,m (en x) τ=AA τ1/\∃U,I (l++[x]) U/\(G τ1=.nx U\/G τ1=.ct U))(k:∀J,I xs J->R (EK (K J))):R (EK (D1 (ET m G (xs.map en) τ) K)):=by obtain⟨J,e,h⟩:=OH I V Y;rw[e];exact k _ h
def Tj(t:Option AU)(ds:Option (List AN)):Option Ab:=ds.bind λds=>t.bind λt=>t.dz.bind λm=>if ds.length<=AY then(Hd (Ti m.1 m.2) ds).map λl=>.n (.L (l.map .d))else AB
def qF:Qn j fi τ=Tj (Ai j τ) (fi τ):=rfl
def kR:∀{xs:List α},(∀x∈xs,k (en x)=AA (AA (g x)))->Hd k (xs.map en)=AA (xs.map g)|[],_=>rfl|x::r,h=>by show(k _).bind _=_;rw[h x ∎,kR λy J=>h y ∎];rfl
def AG2{t:AU}{xs:List α}(h1:t.dz=AA (ks,l))(W:xs.length<=AY)(h:∀x∈xs,∃k,(en x).gb=AA k/\DQ ks l k=AA (.d (g x))):Tj (AA t) (AA (xs.map en))=AA (.n (.L ((xs.map g).map .d))):=by
 unfold Tj;simp only[Ec,h1];rw[AMu ∎,kR];.rfl
 . intro x V;obtain⟨k,J,U⟩:=h x V;unfold Ti;simp only[J,Ec,U,AU.dd,AE7]
def AHD{τ:AM}{ks:List AW}(h:Ai i τ=AA (.M ks l))(h2:DM l=AA ds):Qp i m G τ=ET m G (ks.map Em) (τ.set i (AA (.d (.m ks ds)))):=by unfold Qp;rw[show(τ[i]?).join=_ from h];∎
def UG(i j:Nat)(r:Option (Bool×List AN))(τ:AM):A8:=match r with|AA (AH,[d,e])=>.nx ((τ.set i (AA (.d d))).set j (AA (.d e)))|_=>.er
def UR(i j:Nat)(fs:AM->Option (Bool×List AN)):AM->A8:=λτ=>UG i j (fs τ) τ
def tH:UR i j fs τ=UG i j (fs τ) τ:=rfl
def tJ{τ:AM}:UG i j (AA (AH,[d,e])) τ=.nx ((τ.set i (AA (.d d))).set j (AA (.d e))):=rfl
def AH8{K:Ap}{τ:AM}(h:FH K cl g D (UR i j fs τ)):∃d e,fs τ=AA (AH,[d,e])/\FH K cl g D (.nx ((τ.set i (AA (.d d))).set j (AA (.d e)))):=by
 unfold UR UG at h;split at h;.∎
 .exact h.elim
def AIa{K:Ap}{X:BY}{pos:Ce}(i j:Nat)(C:X.N.Nodup)(E:C7 X [a,b] (Hf K cl fs))(G:X.bc=AD:=by rfl)(hi:X.N[i]?=AA x:=by rfl)(I:X.N[j]?=AA y:=by rfl)(J:i≠j:=by decide)(M:X.aa.scope.names.lookup x=AA .local:=by rfl)(N:X.aa.scope.names.lookup y=AA .local:=by rfl)(hw:ALS [.Tuple [.Name x px,.Name y py] U pt] (.Tuple [a,b] k2 pt2) X.aa=BC (AA [x,y]):=by rfl)(L:ALT [.Tuple [.Name x px,.Name y py] U pt] (.Tuple [a,b] k2 pt2) pos.line X.aa=BC AH:=by rfl):CY X (.Assign [.Tuple [.Name x px,.Name y py] U pt] (.Tuple [a,b] k2 pt2) pos) (Cv K cl (UR i j fs)):=FV (ADY G C hi I J M N E hw L) λD σ H⟨g,F,τ,S,o⟩=>by obtain⟨d,e,Z,o⟩:=AH8 o;refine⟨g,F,τ,_,_,S,Z,λvs H1 B s1 A Q r=>?_⟩;cases A rfl;obtain⟨v,ys,rfl,r1,w,zs,rfl,r2,rfl⟩:=r.ag Tu;refine⟨v,w,rfl,?_⟩;obtain⟨P,W,O⟩:=(S.ak s1).qu r1 i;obtain⟨V,Y,_⟩:=W.qu (r2.ag O) j;exact o V H1 _ Y
mutual def AN.pl:AN->Bool|.n|.b _|.i _=>AD|.s x=>C1 x|.t ls=>EE ls|.l ls=>EE ls|.m _ _=>AH def EE:List AN->Bool|[]=>AD|d::r=>AN.pl d&&EE r end
mutual def AN.dp:AN->Nat|.t ls=>Fd ls+1|.l ls=>Fd ls+1|_=>0 def Fd:List AN->Nat|[]=>0|d::r=>Ey (AN.dp d) (Fd r)end
mutual theorem kG:∀{d:AN},d.pl=AD->∃y,d.py=AA y/\y.canLay0=AD/\y.depth=d.dp |.n,_=>⟨_,rfl,rfl,rfl⟩|.b _,_=>⟨_,rfl,rfl,rfl⟩|.i _,_=>⟨_,rfl,rfl,rfl⟩|.s x,h=>⟨_,rfl,h,rfl⟩|.t ls,h=>by obtain⟨ys,V,J,U⟩:=Tb h;exact⟨.tuple ys,by show(J1 ls).map _=_;grind,J,AMw _ U⟩|.l ls,h=>by obtain⟨ys,V,J,U⟩:=Tb h;exact⟨.list ys,by show(J1 ls).map _=_;grind,J,AMw _ U⟩theorem Tb:∀{ls:List AN},EE ls=AD->∃ys,J1 ls=AA ys/\AFe ys=AD/\g8 ys=Fd ls
 |[],_=>⟨[],rfl,rfl,rfl⟩|d::r,h=>by
  obtain⟨h1,h2⟩:=ZK.mp (by assumption);obtain⟨y,V,J,U⟩:=kG h1;obtain⟨ys,W,f2,Y⟩:=Tb h2;refine⟨y::ys,?_,ZK.mpr ⟨J,f2⟩,?_⟩
  . show d.py.bind _=_;grind
  . show Ey _ _=Ey _ _;grind end
def nK{y:HX}(h:y.canLay0=AD)(D:y.depth<=64):HD y=AD:=ZK.mpr ∎
def Q0{a b:AU}{d:AN}(Y:a.fg=AA d)(Z:b.fg=AA d)(h:d.pl=AD)(A:d.dp<=64)(V:d.vm=AD):Cm neg a b=AA (.s (.b (!neg))):=by
 obtain⟨y,U,J,W⟩:=kG h;have E:=nK J ∎;have B:Tp neg d d=AB:=by cases d<;>first|rfl|cases V
 have C:OG neg d d=AA (!neg):=by unfold OG;rw[U,Ec,Ec,SeqAt.eqv_refl y J];simp_all
 unfold Cm;∎
def Y4{a:AU}{l:List AN}(V:a.fg=AA (.l l))(h:EE l=AD)(Y:Fd l<=63):Cm neg a (.L [])=AA (.s (.b (l.isEmpty^^neg))):=by
 obtain⟨ys,J,U,W⟩:=Tb h;have Z:OG neg (.l l) (.l [])=AA (l.isEmpty^^neg):=by
  unfold OG;rw[show(AN.l l).py=AA (.list ys)by show(J1 l).map _=_;∎,Ec,show(AN.l []).py=AA _ from rfl,Ec,AMu ⟨nK U (by show g8 ys+1<=64;∎),(by rfl)⟩];have:Ii (.list ys) (.list [])=l.isEmpty:=by cases l with |nil=>cases J;rfl|cons x r=>obtain⟨y,_,e⟩:=Am.mp J;obtain⟨zs,_,rfl⟩:=BK.mp e;rfl
  ∎
 unfold Cm;rw[V,show(AU.L []).fg=AA _ from rfl];show(OG _ _ _).map _=_;∎
def UH(p:Int×Int):AN:=.t [.i p.1,.i p.2]
def nB:∀{ws:List (Int×Int)},J1 (ws.map UH)=AA (ws.map λq=>.tuple [.int q.1,.int q.2])|[]=>rfl|q::r=>by show(UH q).py.bind _=_;rw[show(UH q).py=AA _ from rfl,nB];rfl
def Ul{p:Int×Int}{ws:List (Int×Int)}:LF neg (.d (.t [.i p.1,.i p.2])) (.L ((ws.map UH).map .d))=AA (.s (.b (Af (p∈ws)^^neg))):=by
  have U:(∀d∈(ws.map λq:Int×Int=>AKm [.int q.1,.int q.2]),HD d=AD)/\HD (.tuple [.int p.1,.int p.2])=AD:=⟨λd J=>by obtain⟨q,_,rfl⟩:=B8.mp J;rfl,rfl⟩;unfold LF;rw[show(AU.d _).oy=AA _ from rfl,Ec,show(AN.t _).py=AA _ from rfl,Ec,Gw,Ec,nB,Ec,AMu U]
  . congr 4;rw[wC,AJJ,decide_eq_true_eq];constructor
    . rintro⟨d,J,e⟩;obtain⟨q,V,rfl⟩:=B8.mp J;have e:((q.1==p.1)&&((q.2==p.2)&&AD))=AD:=e;∎
    . intro h;refine⟨_,B8.mpr ⟨p,h,rfl⟩,?_⟩;show((p.1==p.1)&&((p.2==p.2)&&AD))=AD;simp
def Qi:∀{ns:List Int},EE (ns.map .i)=AD/\Fd (ns.map .i)=0|[]=>⟨rfl,rfl⟩|n::r=>⟨(Qi (ns:=r)).1,by show Ey 0 _=0;rw[(Qi).2];rfl⟩
def rF{ns:List Int}:Cm neg (.L ((ns.map .i).map .d)) (.L [])=AA (.s (.b (ns.isEmpty^^neg))):=by rw[Y4 (KA) Qi.1 (by rw[Qi.2];decide)];simp_all
def AIk:D1 (D1 x G) G'=D1 x λτ=>D1 (G τ) G':=by cases x<;>rfl
def AHI{l:List AN}:(AU.L (l.map .d)).eh=AA l:=QX
def nS{ks:List AW}{l:List AN}(J:HG l=AA ks)(U:(∀k∈ks,∃i,k=.inl i)\/∀k∈ks,∃i,k=.inr i)(V:ks.length+1<F8):M0 (.L (l.map .d))=AA (.n (.L (((GA (DF [] ks)).map Em).map .d))):=by unfold M0;rw[AHI,Ec,J,Ec,AMu ⟨U,V⟩]
def AIy{ns:List Int}(D:ns.length+1<F8):M0 (.L ((ns.map .i).map .d))=AA (.n (.L (((Iq ns).map .i).map .d))):=by rw[nS X3 ∎ ∎];show AA (Ab.n (.L ((Qm ns).map _)))=_;rw[nW]
def k7:∀{zs:List AG},HG (zs.map .s)=AA (zs.map BV)|[]=>rfl|n::r=>by rw[Dw,HG,k7];rfl
def lR:AW->Option AG|.inr i=>AA i|_=>AB
def k9:∀{ks:List AW},(∀k∈ks,∃i,k=.inr i)->(ks.filterMap lR).map BV=ks|[],_=>rfl|k::r,h=>by obtain⟨i,rfl⟩:=h k ∎;show BV i::_=_;rw[k9 ∎]
noncomputable def MG(zs:List AG):List AG:=(GA (DF [] (zs.map BV))).filterMap lR
def Yg{zs:List AG}:GA (DF [] (zs.map BV))=(MG zs).map BV/\(∀z,z∈MG zs↔z∈zs)/\(MG zs).Nodup:=by
  have D:∀k∈GA (DF [] (zs.map BV:List AW)),∃i,k=.inr i:=λk J=>by rcases(N9 k _ _).mp (M5.mem_iff.mp J)with h|h;all_goals∎
  have e:(MG zs).map BV=GA (DF [] (zs.map BV)):=k9 D;refine⟨e.symm,λz=>?_,?_⟩
  . have:z∈MG zs↔(.inr z:AW)∈GA (DF [] (zs.map BV)):=by∎
    rw[this,M5.mem_iff,N9];∎
  . have U:=(M5 (ks:=DF [] (zs.map BV))).nodup_iff.mpr (Xp _ _ Ft);∎
def AIz{zs:List AG}(D:zs.length+1<F8):M0 (.L ((zs.map .s).map .d))=AA (.n (.L (((MG zs).map .s).map .d))):=by rw[nS k7 ∎ ∎,Yg.1,Bj (g:=Em)];rfl
def mU(w u:Option Ab)(l:Option (List (AW×AW))):Option (List (AW×AW)):=w.bind λw=>w.t.gb.bind λk=>u.bind λu=>u.t.gb.bind λv=>l.map ((k,v)::.)
def tX:M8 [] τ=AA []:=rfl
def tY:M8 ((f,h)::r) τ=mU (f τ) (h τ) (M8 r τ):=rfl
def tZ:mU (AA (.s (.s a))) (AA (.s (.i b))) (AA l)=AA ((.inr a,.inl b)::l):=rfl
open Classical in noncomputable def Tn(l:Option (List (AW×AW))):Option Ab:=l.bind λkvs=>if kvs.length<=15/\(kvs.map (·.1)).Nodup then AA (.n (.M (kvs.map (·.1)) (kvs.map λq=>.d (Em q.2))))else AB
def qP:nZ l τ=Tn (M8 l τ):=by rfl
def AIn{kvs:List (AW×AW)}(h1:kvs.length<=15)(h2:(kvs.map (·.1)).Nodup):Tn (AA kvs)=AA (.n (.M (kvs.map (·.1)) (kvs.map λq=>.d (Em q.2)))):=by unfold Tn;∎
def Ym(i j:Nat):AM->A8:=λτ=>match Ai i τ,Ai j τ with|AA t,AA u=>.rt (.n (.U [t,u])) ((τ.set i AB).set j AB)|_,_=>.er
def AH9{K:Ap}{τ:AM}(h:FH K cl g D (Ym i j τ)):∃t u,τ[i]?=AA (AA t)/\τ[j]?=AA (AA u)/\FH K cl g D (.rt (.n (.U [t,u])) ((τ.set i AB).set j AB)):=by
 unfold Ym at h;split at h;. rename_i t u J V;exact⟨t,u,Lr.mp J,Lr.mp V,h⟩
 .exact h.elim
def AIc{K:Ap}{X:BY}{x y:AG}(i j:Nat)(M:i≠j:=by decide)(m:X.N[i]?=AA x:=by rfl)(q:Ia X.aa.scope x:=by first|exact Or.inl rfl|exact Or.inr (Or.inl rfl)|exact Or.inr (Or.inr rfl))(I:(x==("__debug__":AG))=AH:=by decide)(G:(x==("__classdict__":AG))=AH:=by decide)(E:X.N[j]?=AA y:=by rfl)(O:Ia X.aa.scope y:=by first|exact Or.inl rfl|exact Or.inr (Or.inl rfl)|exact Or.inr (Or.inr rfl))(L:(y==("__debug__":AG))=AH:=by decide)(A:(y==("__classdict__":AG))=AH:=by decide)(n:Ah [.Name x p1,.Name y p2] X.aa=(AH,Ar (.Name x p1) X.aa)::Ah [.Name y p2] X.aa:=by rfl)(N:Ah [.Name y p2] X.aa=(AH,Ar (.Name y p2) X.aa)::Ah [] X.aa:=by rfl):CY X (.Return (AA (.Tuple [.Name x p1,.Name y p2] r pt)) pos) (Cv K cl (Ym i j)):=FV (MY (d6 (D9 (Jk i m q I G) (D9 (Jk j E O L A) GI N) n))) λD σ H⟨g,F,τ,S,o⟩=>by
  obtain⟨t,u,f,k,o⟩:=AH9 o;obtain⟨U,W,Fr,q1,q2,q3,q4,q5⟩:=S.sl.sy f;obtain⟨s,v,T⟩:=q5 S.nd;have C:(τ.set i AB)[j]?=AA (AA u):=by rw[AEt M];exact k
  obtain⟨v2,V,Y,r1,r2,r3,P,r5⟩:=q3.sy C;obtain⟨w,n2,n3⟩:=r5 v;show Ji σ[i]? _;rw[q1];show Ji σ[j]? _;rw[r1];refine⟨by show 2<=AY;rw[ES];decide,λp R=>?_⟩;obtain⟨l,f2⟩:=S.ao R;have Z:∀a,a∈F↔a∈W++V\/a∈Y:=λa=>by rw[q4,P,Cb,or_assoc]
  have s1:As H (Ax H p (.tup [U,v2])):=Df R;have c:As (A1 g.O F H) (A1 g.O ((W++V)++Y) (Ax H p (.tup [U,v2]))):=(FI s1).ae (DN λa J=>(Z a).mpr (Cb.mp J));have d:As (A1 g.O F H) (A1 g.O Y (Ax H p (.tup [U,v2]))):=(FI s1).ae (DN λa J=>(Z a).mpr (.inr J));have Q:A1 g.O ((W++V)++Y) (Ax H p (.tup [U,v2])) p=AA (.tup [U,v2]):=CU.mpr ⟨f2,λz=>l ((Z p).mpr (Cb.mp z)),Dh⟩;refine o Y _ σ (.ref p) ⟨S.ag.ak s1,S.od,λa J=>S.nw a ((Z a).mpr (.inr J)),n2,r3.ag d λa _ o h=>s1 _ _ h,g.pm _ _ (HF d) S.pn⟩ ⟨W++V,⟨p,[U,v2],rfl,Q,U,[v2],W,V,rfl,rfl,q2.ag c λa _ o h=>s1 _ _ h,v2,[],V,[],rfl,(Ek _).symm,r2.ag c λa _ o h=>s1 _ _ h,rfl,rfl⟩,?_,λa J B=>?_,λa J=>S.nw a ((Z a).mpr (.inl J))⟩;.exact HA.mpr ⟨s,w,λa J b B e=>T a J ((P a).mpr (.inl (by rw[e];exact B)))⟩
  . rcases Cb.mp J with J|J;.exact T a J ((P a).mpr (.inr B))
    .exact n3 a J B
def fV(K:Ap)(CF:AI)(th:AI->Du)(D:Fo)(σ:Az):FU:=λC dd H'=>XW K C (.ref CF)=AA AD/\∀e,H' e=AB->th e {nx:=D.nx,rt:=D.rt} σ (Ax H' e (bG e C dd))
def ACH{X:BY}{cn:AG}(hnc:X.aa.cells=[])(hex:X.ex=[])(hst:X.au=X.aa::X.ff)(hfl:X.aa.frame=AA X.aa.locals)(hgc:CG X cn)(hmc:X.mg cn=AA (.ref CF))(hs:∀e,DS (X.ft e) (b₀::suite) (th e))(hdc:(cn==("__debug__":AG))=AH)(I1:Ae X pins σ H1 s1)(hq:HM X.af X.w X.au H1 s1 (fV X.K CF th D σ) ev s'):Al (Aj X.af X.w) X.A (iQ ev X.aa) (λ_ s₂=>Al (Aj X.af X.w) X.A (iS ev AB) (λ_ s₃=>Al (Aj X.af X.w) X.A (handleBy ev X.aa [.ExceptHandler (AA (.Name cn np)) AB (b₀::suite) hpos]) (PJ X pins D) X.xe s₃) X.xe s₂) X.xe s':=by
 obtain⟨e,C,a0,H',B,dd,rfl,os,bare,hokB,fly,un,cov,hdd,hmat,hh⟩:=hq;have I2:=I1.mh (s':=s') (ch:=[]) os un (hokB.cp fly.1) bare λb hb=>absurd hb (by simp);have hfr:X.A.frames=AA (X.aa::X.ff):=by rw[<-hst];exact I1.ok.cq
 have fly':Jo B (X.aa::X.ff) e C a0 s'.heap:=by rw[<-hst];exact fly
 refine ACO hfr hfl fly' hdd λh3 held up3 hd3=>?_;refine ACF held hd3 λh4 fly4 up4 hd4=>?_;have I4:Ae X pins σ H' {s' with heap:=h4}:=bH I1 I2 hnc hex hst hfl cov hokB fly4.1 (up3.trans up4) fly.2.2.1;obtain⟨oe,hoe,hoec⟩:=fly.there;have eB:B.get? e=AB:=fly.2.1;have efl:∃vs,oe.data=.fields vs:=by obtain⟨_,_,_,oe',vs,T,oT,ts,a1,a2,a3,_⟩:=fly;rw[hoe]at a1;cases a1;exact⟨_,a3⟩
 have nfr:e∉DC X.au:=λz=>by obtain⟨_,o1,e1,q1⟩:=fly.2.2.1.mem (b:=e) z;rw[hoe]at e1;cases e1;obtain⟨vs,q2⟩:=efl;exact q1 vs q2
 have inS:X.aa.locals∈DC X.au:=by rw[hst];unfold DC;rw[SU,hfl];exact B7
 have ns1:∀o,s1.heap.get? e≠AA o:=λo z=>by obtain⟨o',q1,_⟩:=cov e o z nfr;rw[eB]at q1;cases q1
 have hn0:H' e=AB:=by cases z:H' e with|none=>rfl|some u=>obtain⟨o',q1⟩:=(hokB e u z).yu;rw[eB]at q1;cases q1
 refine wpAny_handleBy_cons (codeAny_handlers_test (PV (X:=X.ft e) (I4.ft e) hgc hmc ?_ hdc)) (by intro q;cases q);obtain⟨o4,ho4,hc4⟩:=fly4.there;have LT:W.Looks (Aj X.af X.w) h4 (typeOf (.ref e)) C:=by rw[<-hc4];exact(AMq ho4).andThen .now
 refine W.exm_one (M:=Aj X.af X.w) I4.il LT hmat _ _ _ _ (λb o z=>z) ?_;show Jx _ _ _ _ _;refine codeAny_handlers_suite (ACG fly4 hd4 λh5 fly5 up5 hd5=>?_);have I5:Ae X pins σ H' {s' with heap:=h5}:=bH I1 I2 hnc hex hst hfl cov hokB fly5.1 ((up3.trans up4).trans up5) fly.2.2.1;have there5:∃o,h5.get? e=AA o/\o.cls=C/\o.dict=dd/\∃vs,o.data=.fields vs:=by obtain⟨oe5,vs5,g1,g2,g3,_⟩:=fly5.first;exact⟨oe5,g1,g2,hd5.ju g1,vs5,g3⟩
 have I6:=I5.ou (e:=e) (C:=C) (dd:=dd) there5 hn0 (λo z=>?_) (λz=>nfr (z▸inS)) (λx c z=>by rw[hnc]at z;cases z) (λp hp z=>?_)
 . refine Ez (hs e pins _ _ _ _ (I6.ft e) (hh e hn0)) (λfl s8 q8=>?_) λ_ _ z=>KI z;cases fl with |next=> obtain⟨σ8,H8,I8,q8⟩:=q8;exact⟨_,_,I8.kx λz=>I1.ok.hd z,q8⟩|ret u=>obtain⟨v,σ8,H8,I8,rv,q8⟩:=q8;exact⟨v,_,_,I8.kx λz=>I1.ok.hd z,rv,q8⟩|brk=>obtain⟨_,_,_,z⟩:=q8;exact KI z|cont=>obtain⟨_,_,_,z⟩:=q8;exact KI z
 . obtain⟨o',q1⟩:=I1.ai.cv e o z (by rw[hex];simp);exact ns1 o' q1
 . have b1:=(I1.ie p hp).1;rw[z]at b1;exact ns1 _ b1
def ADa{X:BY}{cn:AG}{rpos:Ce}(A:X.aa.cells=[])(V:X.ex=[])(B:X.au=X.aa::X.ff)(W:X.aa.frame=AA X.aa.locals)(G:bM X e0 tx)(Y:CG X cn)(Z:X.mg cn=AA (.ref CF))(F:∀e,DS (X.ft e) (b₀::suite) (th e))(U:(cn==("__debug__":AG))=AH:=by decide)(C:HY e0 AB rpos.line X.aa=BC AH:=by rfl):CY X (.Try [.Expr e0 rpos] [.ExceptHandler (AA (.Name cn np)) AB (b₀::suite) hpos] [] [] pos) (λD σ H=>tx σ H (λ_ H1=>D.nx σ H1) (fV X.K CF th D σ)):=by intro pins s σ H D I h;refine wpAny_Try_except (AGC (ALX ?_ I.ro C));refine Ez (G pins s σ H _ _ I h) (λv s1⟨y,H1,J,r1,K⟩=>?_) λL s'⟨H1,s1,J,E⟩=>ACH A V B W Y Z F U J E;exact TF (TF ⟨σ,H1,J,K⟩)
def AIq{l:List AN}(h:l.length<=1000):My (AA (AH,l))=AA (.n (.L (l.map .d))):=AMu ⟨rfl,Cj h (by decide)⟩
def ZF{j:Int}(h:j<100000)(D:0<=j):MD [.i j]=AA ((EO j.toNat).map λk:Nat=>.i (k:Int)):=by show(if-(2^62)<=j/\j<2^62 then AA _ else AB)=_;unfold Mu;∎
def nT:∀{zs:List AG},QK (zs.map .s)=AA zs|[]=>rfl|z::r=>by rw[Dw,QK,nT];rfl
def AIo{zs:List AG}(h:(zs.map (·.length)).sum<=100):Qa (.d (.s "")) (.L ((zs.map .s).map .d))=AA (.s (.s (iA "" zs))):=by
 have e:(zs.map (·.length)).sum+zs.length*("":AG).length<=16777216:=by rw[show("":AG).length=0 from rfl];∎
 unfold Qa;simp only[Gw,Ec,nT,AMu e]
def Dy(C:Option Ab->Prop)(J:AM->Prop)(h1:∃D,A τ=.nx D/\J D)(h2:∀D,J D->C (EK (B D))):C (EK (Gr A B τ)):=by obtain⟨D,e,h⟩:=h1;show C (EK (D1 _ B));rw[e];exact h2 _ h
def Yw{z:AG}(h:z.length<=AY)(e:CJ z.cps.toList k=AA c):B9 (.d (.s z)) (.d (.i k))=AA (.d (.s ⟨#[c]⟩)):=by show(if z.length<=AY then(CJ _ k).map _ else AB)=_;∎
def kT{xs:List α}(Y:xs.length<=AY)(h:∀x∈xs,∃τ1,m (en x) τ=AA τ1/\t τ1=AA AD/\f τ1=AA (.s (g x))):Im (Il m t f τ) (AA (xs.map en))=AA (.n (.L ((xs.map g).map .d))):=JV Y λx Z=>by obtain⟨τ1,J,U,V⟩:=h x Z;rw[Y1,J,Yz,U,Y0,V];rfl
def AIs(h:-2^64<i/\i<2^64):LG (.d (.i i)) (.d (.i j))=AA (.s (.i (i*j))):=by show(if _ then _ else _:Option AN).map _=_;∎
def AIt(h:-2^64<j/\j<2^64):LG (.d (.i i)) (.d (.i j))=AA (.s (.i (i*j))):=by show(if _ then _ else _:Option AN).map _=_;∎
def AI0(h:n<1000):(n<AY)=True:=eq_true (Eb h (by decide))
def pK:OF o (AA a) (AA b)=o a b:=id pJ
def AH0(C:Option Ab->Prop)(J:AM->Prop)(h1:∃D,X=.nx D/\J D)(h2:∀D,J D->C (EK (G D))):C (EK (D1 X G)):=by obtain⟨D,e,h⟩:=h1;rw[e];exact h2 _ h
def Ep{A B:AM->A8}{τ:AM}{Q:AM->Prop}(J:AM->Prop)(h1:∃D,A τ=.nx D/\J D)(h2:∀D,J D->∃U,B D=.nx U/\Q U):∃U,Gr A B τ=.nx U/\Q U:=by obtain⟨D,e,h⟩:=h1;show∃U,D1 _ B=.nx _/\Q _;rw[e];exact h2 _ h
def T6{X:A8}{Q:AM->Prop}(h:∃D,X=.nx D/\Q D):∃D,Q D/\(X=.nx D\/X=.ct D):=(by grind)
def IE(h:t τ=AA b):KC t G G' τ=if b=AD then G τ else G' τ:=by rw[Y7,h];cases b<;>rfl
def AIl{α β:Type}{o:α->Option β}{a:α}:Xy o (AA a)=o a:=id pI
def AIu{lo:Option Int}:Yd (AA a) (AA lo) (AA hi)=Ip a lo hi:=id uR
def pM{α β:Type}{a:α}{f:α->Option β}:(AA a).bind f=f a:=id rfl
def Y5:Qo fi m G τ=Ts m G (fi τ) τ:=id qV
def Y6:Ts m G (AA ds) τ=ET m G ds τ:=id qW
def X5{x:AM->Option (Bool×List AN)}{m:AN->AM->Option AM}{G:AM->A8}{τ:AM}{j:Int}(h:x τ=AA (AH,[.i j]))(h1:j<100000)(J:0<=j):Qo (λτ=>(x τ).bind λr=>MD r.2) m G τ=ET m G ((EO j.toNat).map λk:Nat=>.i (k:Int)) τ:=by
 have e:((x τ).bind λr=>MD r.2)=AA ((EO j.toNat).map λk:Nat=>.i (k)):=by rw[h,<-ZF h1 J];rfl
 rw[Y5];rw[e,Y6]
def AIp{z:AG}(h:z.length<=AY):J6 (.d (.s z))=AA (.s (.i (z.length:Int))):=AMu h
def uS{z:AG}{lo:Option Int}(h:z.length<=AY):Ip (.d (.s z)) lo hi=AA (.s (.s (HE z lo hi))):=AMu h
def AGw(K:Ap)(J:G5)(G H:AR)(ds:List AN):Prop:=∀H',As H H'->J.oh ds.length H'/\∀i d,ds[i]?=AA d->J.go i H'/\∀x H2,J.uz i H' x H2->H2=H'/\DY K G d x
def Yf(K:Ap)(cl:Nat->AI)(f:AM->Option (List AN)):G7:=λσ H R=>∃g F τ ds,BH K cl g F H σ τ/\f τ=AA ds/\∀J H',As H H'->AGw K J (A1 g.O F H') H' ds->R J H'
def Yk(p:AM->Option AU):AM->Option (List AN):=λτ=>(p τ).bind AU.az
def AIU{K:Ap}{X:BY}(h:AV X e (A0 K cl p))(Y:X.K=K:=by rfl):EX X tg e (Yf K cl (Yk p)):=Qg (d9 h Y) λσ H R⟨g,F,τ,ds,S,V,k⟩=>by obtain⟨t,J,U⟩:=Am.mp V;refine⟨g,F,τ,t,S,J,λv H1 B s1 Z=>?_⟩;obtain⟨a,xs,rfl,q,r⟩:=Z.az U Bu;refine⟨a,rfl,⟨xs,q⟩,k _ _ s1 λH2 s2=>⟨⟨xs,Gp s2 q,Ig r.ba⟩,λi d W=>?_⟩⟩;obtain⟨v,D,A⟩:=r.at W;exact⟨⟨xs,v,Gp s2 q,D⟩,λx H' y=>by obtain⟨e,y⟩:=y;subst e;have:=y xs (Gp s2 q);rw[D]at this;cases this;exact⟨rfl,A⟩⟩
def AG4{K:Ap}(hgt:∀v σ H Q,JR K cl m v σ H Q->gt v σ H Q)(hm:∀d r τ1,m d (GL W AB++r)=AA τ1->I9 W τ1=GL W AB++r)(h:A7 K cl (LH W I fi m q f) σ H Q):Nt W I (Yf K cl fi) gt (DO K cl q) (A7 K cl f) σ H Q:=by
  obtain⟨g,F,τ,w,S,ew,k⟩:=h;obtain⟨ds,ed,T⟩:=Am.mp ew;by_cases hz:ds.length<=AY;case neg=>rw[AMv hz]at T;cases T
  rw[AMu hz]at T;obtain⟨l,e3,rfl⟩:=BK.mp T;refine⟨g,F,τ,ds,S,ed,λJ H1 s1 it=>?_⟩;have N:∀F' H',A1 (λa=>g.O a\/a∈F) F' H'=A1 g.O (F'++F) H':=λF' H'=>lG;have S1:=S.ak s1;refine⟨λi n O U H'=>n=ds.length-i/\i<=ds.length/\U.length<=i/\∃B l2 F',BH K cl ⟨H1,λa=>g.O a\/a∈F,[],λG=>Bd K G B U,λG G' e h=>h.fz e⟩ F' H' O (OS W I τ)/\Hd (Il m q f (OS W I τ)) (ds.drop i)=AA l2/\l=B++l2,⟨_,rfl,EA _,EA _,[],l,[],⟨λ_ _ _ h=>h,λa L=>⟨λz=>(by cases z),S1.vk a L⟩,λa L=>(nomatch L),Ft,?_,?_⟩,e3,rfl⟩,?_⟩;. rw[N];exact(S1.sl.vy I).vx W
  .exact rfl
  rintro i n O U H'⟨rfl,hi,M,B,l2,F',P,X,e5⟩;have j:As H1 H':=λa o h=>P.ag a o (λz=>by cases z) h;obtain⟨st,go⟩:=it H' j;by_cases Z:i<ds.length
  . obtain⟨q1,q2⟩:=go i ds[i] (EM Z);refine .inr ⟨q1,∎,λx H2 y=>?_⟩;obtain⟨rfl,rp⟩:=q2 x H2 y;have sv:As (A1 g.O F H1) (A1 (λa=>g.O a\/a∈F) F' H2):=λa o h=>by
      obtain⟨h1,h2,h3⟩:=CU.mp h;refine CU.mpr ⟨λz=>z.elim h1 h2,λz=>?_,j _ _ h3⟩;rcases P.nw a z with z|z;.cases z
      .rw[show H1 a=AB from z]at h3;cases h3
    rw[Pm Z]at X;obtain⟨o,e6,e7⟩:=Am.mp X;obtain⟨l3,e8,e9⟩:=BK.mp e7;obtain⟨τ1,E,s⟩:=Am.mp e6;obtain⟨c,t,Y⟩:=Am.mp s;have A:=hm _ _ _ E;refine hgt _ _ _ _ ⟨_,F',_,ds[i],τ1,P,rp.ag sv,E,λF4 σ4 S4=>⟨_,F4,τ1,c,S4,t,λH5 s5=>?_⟩⟩;have R:=S4.ak s5;cases c with |true=> rw[AMu rfl]at Y;show if AD=AD then _ else _;rw[AMu rfl];obtain⟨y,u,rfl⟩:=BK.mp Y;obtain⟨w,e15,e16⟩:=Am.mp u;refine⟨_,F4,τ1,w,R,e15,λv H6 s6 r=>⟨_,∎,rfl,Z,by rw[Bi];exact AE6 M,B++[y],l3,?_⟩⟩;have S6:=R.ak s6;have ry:=r.rp R s6 e16;obtain⟨p,V,s7⟩:=S6.wk W;rw[A]at V;refine⟨p,⟨V.ag,V.od,V.nw,V.nd,V.sl,?_⟩,e8,by rw[e5,<-e9,Gg];rfl⟩;exact Bd.cw V.pn ⟨v,[],rfl,ry.ag s7,rfl⟩|false=>rw[AMv (by decide)]at Y;show if AH=AD then _ else _;rw[AMv (by decide)];cases Y;obtain⟨p,V,s7⟩:=R.wk W;rw[A]at V;exact⟨_,∎,rfl,Z,AJf M,B,l3,p,V,e8,by rw[e5,<-e9]⟩
  . have e:i=ds.length:=by∎
    subst e;rw[f6]at X;cases X;refine .inl ⟨st,λC hC=>?_⟩;have b:=P.pn;have b:Bd K (A1 _ F' H') B U:=b;rw[N]at b;have rl':Bd K (A1 g.O F H') l U:=by rw[e5,Ek];exact b.ag (DN λa L=>Dl _ L)
    exact k _ _ ((s1.ae j).ae (Df hC)) ((He hC rl').gm (s1.ae j))
def AIE{K:Ap}{X:BY}{scope:ED}(own:List AG)(Y:List (AG×Nat))(W:ED)(A:OB own.length m)(hi:EX X tg iter (Yf K cl fi))(F:∀C s H ex,FT (Ct X scope (own++Y.map (·.1)) C s H ex) tg (JR K cl m))(M:∀C s H ex,Je (Ct X scope (own++Y.map (·.1)) C s H ex) ifs (DO K cl q))(E:∀C s H ex,AV (Ct X scope (own++Y.map (·.1)) C s H ex) elt (A7 K cl f))(Z:KZ X scope Y:=by first|trivial|exact⟨rfl,rfl,trivial⟩|exact⟨rfl,rfl,rfl,rfl,trivial⟩)(B:X.bc=AD:=by rfl)(I:X.aa.scope=W:=by rfl)(G:scope.kind=.function:=by rfl)(U:∀y∈scope.names,y.2≠.cell:=by decide+kernel)(J:∀y∈scope.names,y.2=.local->scope.names.lookup y.1=AA .local:=by decide+kernel)(V:∀y∈scope.names,y.2=.free->W.names.lookup y.1=AA .cell\/W.names.lookup y.1=AA .free:=by decide+kernel)(L:∀x,L4 iter X.aa x=BC x:=by intro _;rfl):AV X (.ListComp elt [⟨tg,iter,ifs,0⟩] scope pos) (A7 K cl (LH own.length (Y.map (·.2)) fi m q f)):=C8 (dX B hi G U J (λy N e=>by show X.aa.scope.names.lookup y.1=_\/X.aa.scope.names.lookup y.1=_;rw[I];exact V y N e) Z F M E L) λ_ _ _=>AG4 (λ_ _ _ _ z=>z) λd r τ1 e=>(A _ _ _ e).trans Ug
def kC(P:CB)(w:Ba)(K:Ap)(mg:AG->Option AJ)(base:Au)(k:Nat)(ps:List AG)(sp:Ex)(x:AG):Prop:=∃f fd,LY P w K mg base k f fd ps sp x
def BD{X:BY}{K:Ap}{x:AG}(C:kC X.af X.w X.K X.mg X.ai k ps (J8 K cl fn) x)(A:CP n X.A)(V:C7 X (e::es) (Hf K cl fs))(hn:k<=n:=by decide)(Z:CG X x:=by rfl)(J:(x==("__debug__":AG))=AH:=by decide)(Y:Ah (e::es) X.aa=(AH,Ar e X.aa)::Ah es X.aa:=by rfl)(U:(Bx pos (Ah es X.aa)).any (·.1)=AH:=by rfl):AV X (.Call (.Name x p) (e::es) [] pos) (A7 K cl (DP fn fs)):=by obtain⟨f,fd,C⟩:=C;exact NB C A V hn Z J Y U
section
seal AV Cq Hv C7 CY DS FT IZ EX Je Jd CN WJ FA Jb Jf
def DJ(i:Nat):DE:=AMB.main.body.getD i (.Pass ⟨0,0,0,0⟩)
abbrev Vs:DE:=cO (DJ 8) 0
abbrev Vt:DE:=cO (DJ 8) 1
abbrev Rh:DE:=DJ 43
abbrev LV:DE:=DJ 55
abbrev Vu:DE:=DJ 62
abbrev Nb:DE:=DJ 63
def aK:HP ["self","slack"] ["self","slack"] (Bz Vs):=CA
def AAO:HP ["self","time"] ["self","time"] (Bz Vt):=CA
def Ri:HP ["slack","events","clock","kept","late","place","event"] ["slack","events"] (Bz Rh):=CA
def Vv:HP ["_law_plan","_law_name","_law_events_here","_law_step_here","_law_ones","_law_others","_law_found","_law_time","_law_key","_law_amount","_law_other"] ["_law_plan","_law_name","_law_events_here"] (Bz LV):=CA
def AAP:HP ["_law_thing","_law_events_here"] ["_law_thing","_law_events_here"] (Bz Vu):=CA
def aL:HP ["_law_script","_law_many","_law_plan","_law_events_here","_law_cut","_law_other","_law_due","_law_handed","_law_slack_here","_law_late_here","_law_found"] ["_law_script"] (Bz Nb):=CA
abbrev CW(n:AG)(i:Nat)(p:List AG):AG×Nat×List AG:=(n,i,p)
def O6:List (AG×Nat×List AG):=[CW "is_whole" 4 ["thing"],CW "is_among" 5 ["thing","least","most"],CW "names_end" 13 ["step"],CW "name_of" 14 ["step"],CW "feeders" 15 ["step"],CW "is_teller" 16 ["step"],CW "tellers" 18 ["plan"],CW "ahead" 20 ["rows","mark"],CW "taken" 22 ["step","event"],CW "turned" 23 ["step","item"],CW "passed" 24 ["step","streams"],CW "starts" 26 ["time","size","step"],CW "value" 28 ["sort","tally"],CW "taken_all" 30 ["step","events"],CW "by_keys" 31 ["items"],CW "between" 32 ["row","low","high"],CW "met_once" 33 ["item","other"],CW "joined_all" 34 ["within","streams"],CW "streams_of" 35 ["plan","events"],CW "each_windows" 36 ["times","size","step"],CW "gap_windows" 37 ["times","most"],CW "windows_of" 38 ["step","times"],CW "told_value" 39 ["step","inner"],CW "told_of_key" 40 ["place","step","key","row"],CW "told_of" 41 ["plan","events"],CW "told_once" 42 ["plan","events"],CW "_law_at" 45 ["_law_script","_law_k"],CW "_law_called" 46 ["_law_cell","_law_k","_law_signs"],CW "_law_number" 47 ["_law_cell","_law_most"],CW "_law_step" 48 ["_law_cell","_law_name","_law_streams","_law_kind_here"],CW "_law_bound" 49 ["_law_step_here","_law_sizes","_law_many"],CW "_law_kind" 50 ["_law_base","_law_j"],CW "_law_step_name" 51 ["_law_base","_law_k","_law_signs"],CW "_law_joined_plan" 52 ["_law_base","_law_cell","_law_many"],CW "_law_small_plan" 53 ["_law_script","_law_first","_law_most","_law_many"],CW "_law_events" 54 ["_law_script","_law_cells"],CW "_law_windows" 56 ["_law_step_here","_law_times"],CW "_law_rows" 57 ["_law_plan","_law_events_here"],CW "_law_whole" 58 ["_law_thing"],CW "_law_told" 59 ["_law_found","_law_due"],CW "_law_late" 60 ["_law_slack_here","_law_events_here"],CW "_law_slack" 61 ["_law_script"]]
def Uu(K:Ap)(mg:AG->Option AJ)(p:AG×Nat×List AG):Prop:=∃a d,Ew K p.1 p.1 (DJ p.2.1) a d/\mg p.1=AA (.ref a)
def Zi{Q:AG×Nat×List AG->Prop}:∀p∈([]:List (AG×Nat×List AG)),Q p:=(by grind)
def Zh{Q:AG×Nat×List AG->Prop}{p:AG×Nat×List AG}{l:List (AG×Nat×List AG)}(h:Q p)(r:∀p∈l,Q p):∀q∈p::l,Q q:=(by grind)
def xF{K:Ap}{h:Au}(X:K.In h)(G:h.Ns C3 mg)(a:EH K C3 nm=AA (AA (.ref f)))(F:Ew K nm nm (DJ i) f d):Uu K mg (nm,i,ps):=⟨f,d,F,Js X G a⟩
set_option genInjectivity false in structure Og where
 ax:AI
 bp:DU
 df:AI
 dg:DU
 du:AI
 fw:DU
 bu:AI
 cm:DU
 cf:AI
 cg:DU
 jy:AI
 mj:DU
 da:AI
 ar:AI
 av:AI
 gu:AI
 gc:AI
 ic:AI
structure GX(K:Ap)(mg:AG->Option AJ)(ad:Og):Prop where
 t:∀p∈O6,Uu K mg p
 dq:Ew K "__init__" "Clock.__init__" Vs ad.ax ad.bp
 dw:Fm K ad.bp ["self","slack"] []jf:Ew K "admit" "Clock.admit" Vt ad.df ad.dg
 jg:Fm K ad.dg ["self","time"] []fu:Ew K "on_time" "on_time" Rh ad.du ad.fw
 jk:Fm K ad.fw ["slack","events"] []jm:mg "on_time"=AA (.ref ad.du)cj:Ew K "_law_items" "_law_items" LV ad.bu ad.cm
 gi:Fm K ad.cm ["_law_plan","_law_name","_law_events_here"] []gj:mg "_law_items"=AA (.ref ad.bu)dr:Ew K "_law_no_slack" "_law_no_slack" Vu ad.cf ad.cg
 gy:Fm K ad.cg ["_law_thing","_law_events_here"] []gz:mg "_law_no_slack"=AA (.ref ad.cf)oo:Ew K "law" "law" Nb ad.jy ad.mj
 vd:Fm K ad.mj ["_law_script"] []rm:mg "law"=AA (.ref ad.jy)qr:mg "FlowError"=AA (.ref ad.da)sf:Px K ad.da [.type "ValueError",.type "Exception",.type "BaseException",.type "object"] "ValueError.__new__"=AD
 ig:mg "BadSlack"=AA (.ref ad.ar)ma:Px K ad.ar [.type "ValueError",.type "Exception",.type "BaseException",.type "object"] "ValueError.__new__"=AD
 kg:mg "Clock"=AA (.ref ad.av)bw:KY K ad.av
 gk:LZ K ad.av "slack"de:LZ K ad.av "now"di:LZ K ad.av "count"mw:PC K ad.av "__init__" ad.ax
 iu:PC K ad.av "admit" ad.df
 kh:Rx K ad.av ad.ax
 rj:AA6 K ad.ar
 jw:Pz K (.ref ad.ar) (.type "ValueError")=AA AD
 kc:Pz K (.ref ad.ar) (.ref ad.da)=AA AD
 jz:XW K (.ref ad.ar) (.ref ad.da)=AA AD
 kz:Pz K (.ref ad.ar) (.ref ad.ar)=AA AD
 gf:XW K (.ref ad.ar) (.ref ad.ar)=AA AD
 gs:∃t,mg "MOST_SLACK"=AA (.int 1000000000 t)ox:mg "PAIRED"=AA (.ref ad.gu)pz:∀H,CH K H ad.gu [.str "both",.str "join"]vn:∃o,K.lookup ad.gu=AA o/\o.cls=.type "tuple"/\o.dict=AB
 nk:mg "TELLERS"=AA (.ref ad.gc)nz:∀H,CH K H ad.gc [.str "each",.str "gap"]uw:∃o,K.lookup ad.gc=AA o/\o.cls=.type "tuple"/\o.dict=AB
 nj:mg "TALLIES"=AA (.ref ad.ic)ny:∀H,CH K H ad.ic [.str "count",.str "sum",.str "least",.str "greatest"]nt:∃o,K.lookup ad.ic=AA o/\o.cls=.type "tuple"/\o.dict=AB
 rg:mg "ValueError"=AB
 qg:mg "bool"=AB
 bo:mg "enumerate"=AB
 qh:mg "int"=AB
 aq:mg "isinstance"=AB
 fj:mg "len"=AB
 dk:mg "list"=AB
 ij:mg "max"=AB
 gx:mg "min"=AB
 gd:mg "range"=AB
 qi:mg "set"=AB
 cz:mg "sorted"=AB
 sg:mg "str"=AB
 si:mg "sum"=AB
 jt:mg "tuple"=AB
def aV{D:List α}(h:D.length=1):∃a0,D=[a0]:=by match D,h with|[a0],_=>∎
def O7{D:List α}(h:D.length=2):∃a0 a1,D=[a0,a1]:=by match D,h with|[a0,a1],_=>∎
def aW{D:List α}(h:D.length=3):∃a0 a1 a2,D=[a0,a1,a2]:=by match D,h with|[a0,a1,a2],_=>∎
def AAo{D:List α}(h:D.length=4):∃a0 a1 a2 J,D=[a0,a1,a2,J]:=by match D,h with|[a0,a1,a2,J],_=>∎
def AAc:∀p∈O6,∀{K:Ap}{f:AI}{d:DU},Ew K p.1 p.1 (DJ p.2.1) f d->Fm K d p.2.2 []:=by
 unfold O6;repeat'(first|exact Zi|refine Zh ?_ ?_)
 all_goals(intro K f d F;exact F.ip λ_ _ _ _ _ _ U D=>by first|(obtain⟨a0,rfl⟩:=aV D;rfl)|(obtain⟨a0,a1,rfl⟩:=O7 D;rfl)|(obtain⟨a0,a1,a2,rfl⟩:=aW D;rfl)|(obtain⟨a0,a1,a2,J,rfl⟩:=AAo D;rfl))
def CO(N:List AG)(nm:AG)(j i:Nat)(ps:List AG)(k:Nat):={G:AM->A8//(HP N ps (Bz (DJ i))/\O6[j]?=AA (nm,i,ps))/\∀{P w K mg base ad cl}(_:GX K mg ad)(_:N.Nodup)(a:AI),Ta P w K mg base cl N nm (DJ i) a k G}
def CO.c{P w K mg base ad cl N nm j i ps k f}(p:CO N nm j i ps k)(T:GX K mg ad)(e:f=By N.length p.1 ps.length:=by rfl):kC P w K mg base (k+1) ps (J8 K cl f) nm:=by subst e;have D:=Jn p.2.1.2;obtain⟨a,d,F,m⟩:=T.t _ D;exact⟨a,d,Ua F p.2.1.1 (p.2.2 T p.2.1.1.nd a),m,F.kp,AAc _ D F⟩
def AAm{K:Ap}{h:Au}(X:K.In h)(G:h.Ns C3 mg)(t:∀p∈O6,Uu K mg p)(a_Clock:EH K C3 "Clock"=AA (AA (.ref J)))(a_Clock___init__:FX K (.ref J) "__init__"=AA (AA (.ref U)))(F_Clock___init__:Ew K "__init__" "Clock.__init__" Vs U A)(a_Clock_admit:FX K (.ref J) "admit"=AA (AA (.ref W)))(F_Clock_admit:Ew K "admit" "Clock.admit" Vt W C)(a_on_time:EH K C3 "on_time"=AA (AA (.ref F)))(F_on_time:Ew K "on_time" "on_time" Rh F N)(a_u_law_items:EH K C3 "_law_items"=AA (AA (.ref Z)))(F_u_law_items:Ew K "_law_items" "_law_items" LV Z E)(a_u_law_no_slack:EH K C3 "_law_no_slack"=AA (AA (.ref Y)))(F_u_law_no_slack:Ew K "_law_no_slack" "_law_no_slack" Vu Y B)(a_law:EH K C3 "law"=AA (AA (.ref e)))(F_law:Ew K "law" "law" Nb e m)(a_FlowError:EH K C3 "FlowError"=AA (AA (.ref V)))(x_FlowError:Px K V [.type "ValueError",.type "Exception",.type "BaseException",.type "object"] "ValueError.__new__"=AD)(a_BadSlack:EH K C3 "BadSlack"=AA (AA (.ref D)))(x_BadSlack:Px K D [.type "ValueError",.type "Exception",.type "BaseException",.type "object"] "ValueError.__new__"=AD)(pg_Clock:XY K J AKw=AD)(hd_Clock:iE K J=AD)(po_Clock:AFs K J=AD)(sa_Clock:FX K (.ref J) "__setattr__"=AA (AA (.builtin "object.__setattr__")))(n_Clock_slack:FX K (.ref J) "slack"=AA AB)(n_Clock_now:FX K (.ref J) "now"=AA AB)(n_Clock_count:FX K (.ref J) "count"=AA AB)(fn_Clock___init__:XX K (.ref U)=AD)(fn_Clock_admit:XX K (.ref W)=AD)(mks_Clock:AFq K J=AD)(kp_Clock:N2 K (.ref J)=AD)(ga_BadSlack:FX K (.ref D) "__getattribute__"=AA (AA (.builtin "BaseException.__getattribute__")))(gt_BadSlack:FX K (.ref D) "__getattr__"=AA AB)(ck_BadSlack:FX K (.ref D) "__class__"=AA (AA (.builtin "object.__class__")))(sb_BadSlack:iI K (.ref D) (.type "BaseException")=AA AD)(so_BadSlack:iI K (.ref D) (.type "object")=AA AD)(cl_BadSlack:AK5 K D=AA P)(i_BadSlack_ValueError:Pz K (.ref D) (.type "ValueError")=AA AD)(i_BadSlack_FlowError:Pz K (.ref D) (.ref V)=AA AD)(e_BadSlack_FlowError:XW K (.ref D) (.ref V)=AA AD)(i_BadSlack_BadSlack:Pz K (.ref D) (.ref D)=AA AD)(e_BadSlack_BadSlack:XW K (.ref D) (.ref D)=AA AD)(g_MOST_SLACK:EH K C3 "MOST_SLACK"=AA (AA (.int 1000000000 O)))(g_PAIRED:EH K C3 "PAIRED"=AA (AA (.ref M)))(l_PAIRED:K.lookup M=AA ⟨.type "tuple",AB,.seq #[.str "both" j,.str "join" k] l,i⟩)(g_TELLERS:EH K C3 "TELLERS"=AA (AA (.ref L)))(l_TELLERS:K.lookup L=AA ⟨.type "tuple",AB,.seq #[.str "each" T,.str "gap" b] g,R⟩)(g_TALLIES:EH K C3 "TALLIES"=AA (AA (.ref I)))(l_TALLIES:K.lookup I=AA ⟨.type "tuple",AB,.seq #[.str "count" S,.str "sum" a,.str "least" c,.str "greatest" d] f,Q⟩)(z_ValueError:EH K C3 "ValueError"=AA AB)(z_bool:EH K C3 "bool"=AA AB)(z_enumerate:EH K C3 "enumerate"=AA AB)(z_int:EH K C3 "int"=AA AB)(z_isinstance:EH K C3 "isinstance"=AA AB)(z_len:EH K C3 "len"=AA AB)(z_list:EH K C3 "list"=AA AB)(z_max:EH K C3 "max"=AA AB)(z_min:EH K C3 "min"=AA AB)(z_range:EH K C3 "range"=AA AB)(z_set:EH K C3 "set"=AA AB)(z_sorted:EH K C3 "sorted"=AA AB)(z_str:EH K C3 "str"=AA AB)(z_sum:EH K C3 "sum"=AA AB)(z_tuple:EH K C3 "tuple"=AA AB):GX K mg (⟨U,A,W,C,F,N,Z,E,Y,B,e,m,V,D,J,M,L,I⟩:Og):=⟨t,F_Clock___init__,F_Clock___init__.ip λ_ _ _ _ _ _ o n=>by obtain⟨a0,a1,rfl⟩:=O7 n;rfl,F_Clock_admit,F_Clock_admit.ip λ_ _ _ _ _ _ o n=>by obtain⟨a0,a1,rfl⟩:=O7 n;rfl,F_on_time,F_on_time.ip λ_ _ _ _ _ _ o n=>by obtain⟨a0,a1,rfl⟩:=O7 n;rfl,Js X G a_on_time,F_u_law_items,F_u_law_items.ip λ_ _ _ _ _ _ o n=>by obtain⟨a0,a1,a2,rfl⟩:=aW n;rfl,Js X G a_u_law_items,F_u_law_no_slack,F_u_law_no_slack.ip λ_ _ _ _ _ _ o n=>by obtain⟨a0,a1,rfl⟩:=O7 n;rfl,Js X G a_u_law_no_slack,F_law,F_law.ip λ_ _ _ _ _ _ o n=>by obtain⟨a0,rfl⟩:=aV n;rfl,Js X G a_law,Js X G a_FlowError,x_FlowError,Js X G a_BadSlack,x_BadSlack,Js X G a_Clock,⟨pg_Clock,hd_Clock,po_Clock,sa_Clock⟩,n_Clock_slack,n_Clock_now,n_Clock_count,⟨a_Clock___init__,fn_Clock___init__,F_Clock___init__.kp⟩,⟨a_Clock_admit,fn_Clock_admit,F_Clock_admit.kp⟩,⟨mks_Clock,a_Clock___init__,fn_Clock___init__,kp_Clock⟩,⟨ga_BadSlack,gt_BadSlack,ck_BadSlack,sb_BadSlack,so_BadSlack,∎⟩,i_BadSlack_ValueError,i_BadSlack_FlowError,e_BadSlack_FlowError,i_BadSlack_BadSlack,e_BadSlack_BadSlack,⟨_,Js X G g_MOST_SLACK⟩,Js X G g_PAIRED,λH=>.inr ⟨_,_,_,l_PAIRED,rfl,rfl,by first|decide|exact(by decide:2<=sizeLine),by repeat(first|exact .nil|refine .cons ?_ ?_|exact⟨_,rfl⟩|rfl)⟩,∎,Js X G g_TELLERS,λH=>.inr ⟨_,_,_,l_TELLERS,rfl,rfl,by first|decide|exact(by decide:2<=sizeLine),by repeat(first|exact .nil|refine .cons ?_ ?_|exact⟨_,rfl⟩|rfl)⟩,∎,Js X G g_TALLIES,λH=>.inr ⟨_,_,_,l_TALLIES,rfl,rfl,by first|decide|exact(by decide:4<=sizeLine),by repeat(first|exact .nil|refine .cons ?_ ?_|exact⟨_,rfl⟩|rfl)⟩,∎,Hz X G z_ValueError,Hz X G z_bool,Hz X G z_enumerate,Hz X G z_int,Hz X G z_isinstance,Hz X G z_len,Hz X G z_list,Hz X G z_max,Hz X G z_min,Hz X G z_range,Hz X G z_set,Hz X G z_sorted,Hz X G z_str,Hz X G z_sum,Hz X G z_tuple⟩
def Rj(K:Ap):Ex:=λvs H Q _=>∃(a:AI)(ns:List Int),vs=[.ref a]/\Bq K H a (ns.map AQ.int)/\ns.length<=63/\∀H',Q (.bl AD) H'
def zP(K:Ap)(H:AR)(a:AI)(ns:List Int)(J:ns.length<=63)(_:PF H)(D:Bq K H a (ns.map AQ.int)):Rj K [.ref a] H (λv _=>v=.bl AD) λ_ _ _=>False:=⟨a,ns,rfl,D,J,λ_=>rfl⟩
abbrev VO:Nat:=60
noncomputable def ZU:CO ["thing"] "is_whole" 0 4 ["thing"] 0:=⟨_,⟨CA,rfl⟩,λT J _ _ _ _ _ _ _ D=>(An (BX (Yn (JT .int T.aq T.qh (AE 0)) (Wi (oJ (JT .bl T.aq T.qg (AE 0)))))))⟩
noncomputable def zE:=By 1 ZU.1 1
noncomputable def Uy:CO ["thing","least","most"] "is_among" 1 5 ["thing","least","most"] 1:=⟨_,⟨CA,rfl⟩,λT J _ _ _ _ _ _ _ D=>(An (BX (Yn (BD (ZU.c (f:=zE) T) D (AK (AS (AE 0)) AZ)) (Wi (AID J7 J7 (AE 1) (AE 0) (AE 2))))))⟩
noncomputable def KN:=By 3 Uy.1 3
noncomputable def ZV:CO ["step"] "names_end" 2 13 ["step"] 0:=⟨_,⟨CA,rfl⟩,λ{P w K mg base ad cl}T J _ _ _ _ _ _ _ D=>(An (BX (UX (oO (Ac (AE 0) (AF AO)) (AF (oE (v:=.ref ad.gu) (d:=.t [.s "both",.s "join"]) T.ox rfl λG=>⟨_,_,rfl,T.pz G,_,_,rfl,rfl,_,_,rfl,rfl,rfl⟩))) AO AO)))⟩
noncomputable def zF:=By 1 ZV.1 1
noncomputable def Q8:CO ["step"] "name_of" 3 14 ["step"] 0:=⟨_,⟨CA,rfl⟩,λT J _ _ _ _ _ _ _ D=>(An (BX (AS (Ac (AE 0) (AF AO)))))⟩
noncomputable def FP:=By 1 Q8.1 1
noncomputable def ZS:CO ["step"] "feeders" 4 15 ["step"] 1:=⟨_,⟨CA,rfl⟩,λT J _ _ _ _ _ _ _ D=>(Ag (Bo (CV D (Ac (AE 0) (AF AO)) (AF BA)) (An (BX (CL AZ))) B6) (An (BX (UY T.dk (AF (IH (AE 0) (Gu (AF AO)) (Gu (AF (BD (ZV.c (f:=zF) T) D (AK (AS (AE 0)) AZ))))))))))⟩
noncomputable def Zp:=By 1 ZS.1 1
noncomputable def ZT:CO ["step"] "is_teller" 5 16 ["step"] 0:=⟨_,⟨CA,rfl⟩,λ{P w K mg base ad cl}T J _ _ _ _ _ _ _ D=>(An (BX (AII (Ac (AE 0) (AF AO)) (AF (oE (v:=.ref ad.gc) (d:=.t [.s "each",.s "gap"]) T.nk rfl λG=>⟨_,_,rfl,T.nz G,_,_,rfl,rfl,_,_,rfl,rfl,rfl⟩)))))⟩
noncomputable def Zq:=By 1 ZT.1 1
noncomputable def U6:CO ["plan"] "tellers" 6 18 ["plan"] 1:=⟨_,⟨CA,rfl⟩,λT J _ _ _ _ _ _ _ D=>(An (BX (E4 ["place","step"] [] (Bz (DJ 18)) (QW (Io DG (Io DG QV))) (NC (by rfl) T.bo (AS (AE 0))) (λ_ _ _ _=>Hg 2 rfl (Iw 0 (by decide+kernel) (Iw 1 (by decide+kernel) Hh))) (λ_ _ _ _=>IJ (Iy (BD (ZT.c (f:=Zq) T) D (AK (AS (AE 1)) AZ)))) (λ_ _ _ _=>(AS (AE 0))))))⟩
noncomputable def Zs:=By 1 U6.1 1
noncomputable def Q5:CO ["rows","mark","low","high","middle"] "ahead" 7 20 ["rows","mark"] 0:=⟨_,⟨CA,rfl⟩,λT D _ _ _ _ _ _ _ J=>(Ag (Ay 2 D AO) (Ag (Ay 3 D (Iv T.fj (AE 0))) (Ag (Yt 40 (Ob (AE 2) (AE 3)) (Ag (Ay 4 D (B0 (AF (BN (AE 2) (AE 3))) (AF AO))) (An (Bo (AIf J (Ac (AE 0) (AE 4)) (AE 1)) (An (Ay 2 D (BN (AE 4) (AF AO)))) (An (Bm [4] (Ay 3 D (AS (AE 4))))))))) (An (Hi 2)))))⟩
noncomputable def NK:=By 5 Q5.1 2
noncomputable def U4:CO ["step","event"] "taken" 8 22 ["step","event"] 0:=⟨_,⟨CA,rfl⟩,λT J _ _ _ _ _ _ _ D=>(An (BX (UX (CV D (Ac (AE 1) (AF AO)) (Ac (AE 0) (AF AO))) (CL (AK (CM (AK (AS (Ac (AE 1) (AF AO))) (AK (AS (Ac (AE 1) (AF AO))) (AK (AS (Ac (AE 1) (AF AO))) AZ)))) AZ)) (CL AZ))))⟩
noncomputable def Zr:=By 2 U4.1 2
noncomputable def VA:CO ["step","item"] "turned" 9 23 ["step","item"] 0:=⟨_,⟨CA,rfl⟩,λT J _ _ _ _ _ _ _ D=>(An (BX (BN (AF (BN (AF (IH (AE 1) KG (Gu (AF AO)))) (AF (CM (AK (BN (AF (Ed (Ac (AE 1) (AF AO)) (Ac (AE 0) (AF AO)))) (Ac (AE 0) (AF AO))) AZ))))) (AF (IH (AE 1) (Gu (AF AO)) KG)))))⟩
noncomputable def Zt:=By 2 VA.1 2
noncomputable def Ol:CO ["step","streams"] "passed" 10 24 ["step","streams"] 1:=⟨_,⟨CA,rfl⟩,λT J _ _ _ _ _ _ _ D=>(Ag (Bo (CV D (Ac (AE 0) (AF AO)) (AF BA)) (An (BX (E4 ["item"] [("step",0)] (Bz (DJ 24)) DG (C5 (AS (Ac (AE 1) (AF AO)))) (λ_ _ _ _=>E5 0 (by decide+kernel)) (λ_ _ _ _=>IJ (Oa J7 J7 (Ac (AE 1) (AF AO)) (Ac (AE 0) (AF AO)) (Ac (AE 1) (AF AO)))) (λ_ _ _ _=>(AS (AE 0)))))) B6) (Ag (Bo (CV D (Ac (AE 0) (AF AO)) (AF BA)) (An (BX (E4 ["item"] [("step",0)] (Bz (DJ 24)) DG (C5 (AS (Ac (AE 1) (AF AO)))) (λ_ _ _ _=>E5 0 (by decide+kernel)) (λ_ _ _ _=>II) (λ_ _ _ _=>(BD (VA.c (f:=Zt) T) D (AK (AS (AE 1)) (AK (AS (AE 0)) AZ))))))) B6) (Ag (Bo (CV D (Ac (AE 0) (AF AO)) (AF BA)) (An (BX (BN (Ac (AE 1) (AF AO)) (Ac (AE 1) (AF AO))))) B6) (An (BX (AS (Ac (AE 1) (AF AO))))))))⟩
noncomputable def Es:=By 2 Ol.1 2
noncomputable def U3:CO ["time","size","step","first"] "starts" 11 26 ["time","size","step"] 0:=⟨_,⟨CA,rfl⟩,λT D _ _ _ _ _ _ _ J=>(Ag (Ay 3 D (Ed (AF (BN (AF (B0 (AF (FK (AE 0) (AE 1))) (AE 2))) (AF AO))) (AE 2))) (An (Bm [3] (BX (AIM T.dk T.gd (AK (AS (AE 3)) (AK (BN (AE 0) (AF AO)) (AK (AS (AE 2)) AZ))))))))⟩
noncomputable def VS:=By 4 U3.1 3
noncomputable def ZW:CO ["sort","tally"] "value" 12 28 ["sort","tally"] 0:=⟨_,⟨CA,rfl⟩,λT J _ _ _ _ _ _ _ D=>(An (BX (AS (Ac (AE 1) (AF (AIJ (ys:=["count","sum","least","greatest"]) T.nj T.ny T.nt (AE 0)))))))⟩
noncomputable def Zv:=By 2 ZW.1 2
noncomputable def U5:CO ["step","events","items","place","event"] "taken_all" 13 30 ["step","events"] 1:=⟨_,⟨CA,rfl⟩,λT D _ _ _ _ _ _ _ J=>(Ag (Ay 2 D (CL AZ)) (Ag (Ee (NC (by rfl) T.bo (AS (AE 1))) (Hg 2 rfl (Er 3 D (Er 4 D Hh))) (An (Ys (Di 2) (E4 ["item"] [("place",3)] (Bz (DJ 30)) DG (C5 (BD (U4.c (f:=Zr) T) J (AK (AS (AE 0)) (AK (AS (AE 4)) AZ)))) (λ_ _ _ _=>E5 0 (by decide+kernel)) (λ_ _ _ _=>II) (λ_ _ _ _=>(BN (AE 0) (AF (CM (AK (CM (AK (AS (AE 1)) AZ)) AZ))))))))) (An (Hi 2))))⟩
noncomputable def NM:=By 5 U5.1 2
noncomputable def Q7:CO ["items","rows","time","key","amount","places"] "by_keys" 14 31 ["items"] 0:=⟨_,⟨CA,rfl⟩,λT D _ _ _ _ _ _ _ J=>(Ag (Ay 1 D UW) (Ag (Ee (C5 (AIR J T.cz (AE 0))) (Hg 4 rfl (Er 2 D (Er 3 D (Er 4 D (Er 5 D Hh))))) (An (AId J (Di 1) (AE 3) (CM (AK (AS (AE 2)) (AK (AS (AE 4)) (AK (AS (AE 5)) AZ))))))) (An (Hi 1))))⟩
noncomputable def Ox:=By 6 Q7.1 1
noncomputable def Q6:CO ["row","low","high"] "between" 15 32 ["row","low","high"] 1:=⟨_,⟨CA,rfl⟩,λ{P w K mg base ad cl}T J _ _ _ _ _ _ _ D=>(An (BX (IH (AE 0) (Gu (AF (BD (Q5.c (f:=NK) T) D (AK (AS (AE 0)) (AK (CM (AK (AS (AE 1)) AZ)) AZ))))) (Gu (AF (BD (Q5.c (f:=NK) T) D (AK (AS (AE 0)) (AK (CM (AK (AS (AE 2)) AZ)) AZ))))))))⟩
noncomputable def Ov:=By 3 Q6.1 3
noncomputable def U1:CO ["item","other","places"] "met_once" 16 33 ["item","other"] 0:=⟨_,⟨CA,rfl⟩,λT D _ _ _ _ _ _ _ J=>(Ag (Ay 2 D (AIT T.jt (AF (Yr T.cz T.qi (AF (BN (Ac (AE 0) (AF AO)) (Ac (AE 1) (AF AO)))))))) (An (Bm [2] (BX (CM (AK (Qu T.ij (Ac (AE 0) (AF AO)) (Ac (AE 1) (AF AO))) (AK (AS (Ac (AE 0) (AF AO))) (AK (FK (Ac (AE 0) (AF AO)) (Ac (AE 1) (AF AO))) (AK (AS (AE 2)) AZ)))))))))⟩
noncomputable def RS:=By 3 U1.1 2
noncomputable def Uz:CO ["within","streams","rows","made","item","near"] "joined_all" 17 34 ["within","streams"] 2:=⟨_,⟨CA,rfl⟩,λT J _ _ _ _ _ _ _ D=>(Ag (Ay 2 J (BD (Q7.c (f:=Ox) T) D (AK (AS (Ac (AE 1) (AF AO))) AZ))) (Ag (Ay 3 J (CL AZ)) (Ag (Bm [2] (Ee (C5 (AS (Ac (AE 1) (AF AO)))) (Gs 4 J) (Ag (Ay 5 J (BD (Q6.c (f:=Ov) T) D (AK (AIF D (AE 2) (Ac (AE 4) (AF AO)) (CL AZ)) (AK (FK (Ac (AE 4) (AF AO)) (AE 0)) (AK (BN (AF (BN (Ac (AE 4) (AF AO)) (AE 0))) (AF AO)) AZ))))) (An (Bm [5] (Ys (Di 3) (E4 ["other"] [("item",4)] (Bz (DJ 34)) DG (C5 (AS (AE 5))) (λ_ _ _ _=>E5 0 (by decide+kernel)) (λ_ _ _ _=>II) (λ_ _ _ _=>(BD (U1.c (f:=RS) T) D (AK (AS (AE 1)) (AK (AS (AE 0)) AZ))))))))))) (An (Hi 3)))))⟩
noncomputable def NL:=By 6 Uz.1 2
noncomputable def Uw:CO ["times","size","step","begins","time","start"] "each_windows" 19 36 ["times","size","step"] 1:=⟨_,⟨CA,rfl⟩,λT D _ _ _ _ _ _ _ J=>(Ag (Ay 3 D UW) (Ag (Ee (C5 (AS (AE 0))) (Gs 4 D) (An (Ee (C5 (BD (U3.c (f:=VS) T) J (AK (AS (AE 4)) (AK (AS (AE 1)) (AK (AS (AE 2)) AZ))))) (Gs 5 D) (An (OZ J (Di 3) (AE 5) Iu))))) (An (BX (E4 ["start"] [("size",1)] (Bz (DJ 36)) DG (C5 (AIS T.cz (AE 3))) (λ_ _ _ _=>E5 0 (by decide+kernel)) (λ_ _ _ _=>II) (λ_ _ _ _=>(CM (AK (AS (AE 0)) (AK (BN (AE 0) (AE 1)) AZ)))))))))⟩
noncomputable def RQ:=By 6 Uw.1 3
noncomputable def HJ:CO ["_law_script","_law_k"] "_law_at" 26 45 ["_law_script","_law_k"] 0:=⟨_,⟨CA,rfl⟩,λT J _ _ _ _ _ _ _ D=>(Ag (Bo (Ob (AE 1) (AF (Iv T.fj (AE 0)))) (An (BX (AS (Ac (AE 0) (AE 1))))) B6) (An (BX AO)))⟩
noncomputable def Ho:=By 2 HJ.1 2
noncomputable def IM:CO ["_law_cell","_law_k","_law_signs","_law_letters","_law_turned","_law_size","_law_tail","_law_at_here"] "_law_called" 27 46 ["_law_cell","_law_k","_law_signs"] 0:=⟨_,⟨CA,rfl⟩,λT D _ _ _ _ _ _ _ J=>(Ag (Ay 3 D BA) (Ag (Ay 4 D (BN (AE 0) (AF (Ed (AF (Ed (AF AO) (AE 1))) (AF (Bb (AE 0) (AF AO))))))) (Ag (Ay 5 D (Bb (AF (B0 (AE 4) (AF AO))) (AF (FK (AF AO) (AF (Iv T.fj (AE 2))))))) (Ag (Bm [4,5] (Ay 6 D (AIL (AF BA) (AF (E4 ["_law_j"] [("_law_letters",3),("_law_turned",4)] (Bz (DJ 46)) DG (Qv (by rfl) T.gd (AK (AS (AE 5)) AZ)) (λ_ _ _ _=>E5 0 (by decide+kernel)) (λ_ _ _ _=>II) (λ_ _ _ _=>(AS (Ac (AE 1) (AF (Bb (AF (BN (AE 2) (AF (Ed (AF (Ed (AF AO) (AE 0))) (AF (BN (AF AO) (AF (Bb (AE 2) (AF AO))))))))) (AF AO))))))))))) (Ag (Bm [5] (Ay 7 D (AS (AE 5)))) (Ag (Bo (CV J (AF (Bb (AE 0) (AF AO))) (AF AO)) (An (Ay 7 D (Bb (AF (B0 (AE 0) (AF AO))) (AF (BN (AE 5) (AF AO)))))) B6) (An (BX (BN (AF (BN (AF (IH (AE 6) KG (Gu (AE 7)))) (AE 2))) (AF (IH (AE 6) (Gu (AE 7)) KG)))))))))))⟩
noncomputable def Gz:=By 8 IM.1 3
noncomputable def JW:CO ["_law_cell","_law_most"] "_law_number" 28 47 ["_law_cell","_law_most"] 0:=⟨_,⟨CA,rfl⟩,λT J _ _ _ _ _ _ _ D=>(Ag (Bo (CV D (AF (Bb (AE 0) (AF AO))) (AF AO)) (An (BX (Bb (AF (B0 (AE 0) (AF AO))) (AF (BN (AE 1) (AF AO)))))) B6) (Ag (Bo (CV D (AF (Bb (AE 0) (AF AO))) (AF AO)) (An (BX (FK (AE 1) (AF (Bb (AF (B0 (AE 0) (AF AO))) (AF AO)))))) B6) (An (BX (Bb (AF (B0 (AE 0) (AF AO))) (AF (OX T.gx (AF AO) (AF (BN (AE 1) (AF AO))))))))))⟩
noncomputable def KO:=By 2 JW.1 2
noncomputable def RE:CO ["_law_cell","_law_name","_law_streams","_law_kind_here","_law_way","_law_one","_law_other","_law_more","_law_tally","_law_low","_law_high","_law_step_here"] "_law_step" 29 48 ["_law_cell","_law_name","_law_streams","_law_kind_here"] 1:=⟨_,⟨CA,rfl⟩,λT J _ _ _ _ _ _ _ D=>(Ag (Ay 4 J (Bb (AE 0) (AF AO))) (Ag (Ay 5 J (UX (HI D (AE 2) (AF (CL AZ))) (AS (Ac (AE 2) (AF (Bb (AF (B0 (AE 0) (AF AO))) (AF (Iv T.fj (AE 2))))))) BA)) (Ag (Ay 6 J (UX (HI D (AE 2) (AF (CL AZ))) (AS (Ac (AE 2) (AF (Bb (AF (B0 (AE 0) (AF AO))) (AF (Iv T.fj (AE 2))))))) BA)) (Ag (Ay 7 J (BN (AF (B0 (AE 0) (AF AO))) (AF (Bb (AF (Ed (AF (B0 (AE 0) (AF AO))) (AF AO))) (AF AO))))) (Ag (Ay 8 J (AS (Ac (AF (CL (AK BA (AK BA (AK BA (AK BA AZ)))))) (AF (Bb (AE 7) (AF AO)))))) (Ag (Bo (G6 (Iz (Ob (AE 4) (AF AO)) (Kj (CV D (AE 2) (AF (CL AZ)))))) (An (BX (CM (AK BA (AK (AS (AE 1)) (AK (AS (AE 3)) AZ)))))) B6) (Ag (Bo (CV D (AE 4) (AF AO)) (Ag (Bm [7] (Ay 9 J (FK (AF (BD (JW.c (f:=KO) T) D (AK (AS (AE 7)) (AK AO AZ)))) (AF (Ed (AF AO) (AF (Bb (AF (B0 (AE 7) (AF AO))) (AF AO)))))))) (Ag (Ay 10 J (BN (AE 9) (AF (BD (JW.c (f:=KO) T) D (AK (B0 (AE 7) (AF AO)) (AK AO AZ)))))) (Ag (Bo (CV D (AF (Bb (AF (B0 (AE 7) (AF AO))) (AF AO))) (AF AO)) (An (Ay 10 J (FK (AF AO) (AF (BD (JW.c (f:=KO) T) D (AK (B0 (AE 7) (AF AO)) (AK AO AZ))))))) B6) (Ag (Bo (CV D (AF (Bb (AF (B0 (AE 7) (AF AO))) (AF AO))) (AF AO)) (Ag (Ay 9 J (FK (AF (Bb (AF (B0 (AE 7) (AF AO))) (AF AO))) (AF AO))) (An (Ay 10 J (BN (AE 9) (AF (Bb (AF (B0 (AE 7) (AF AO))) (AF AO))))))) B6) (An (Bm [5,9] (BX (CM (AK BA (AK (AS (AE 1)) (AK (AS (AE 5)) (AK (AS (AE 9)) (AK (Qu T.ij (AE 9) (AF (OX T.gx (AF AO) (AE 10)))) AZ))))))))))))) B6) (Ag (Bo (CV D (AE 4) (AF AO)) (An (Bm [5] (BX (CM (AK BA (AK (AS (AE 1)) (AK (AS (AE 5)) (AK (FK (AF (Bb (AF (B0 (AE 7) (AF AO))) (AF AO))) (AF AO)) (AK (FK (AF (BD (JW.c (f:=KO) T) D (AK (B0 (AE 7) (AF AO)) (AK AO AZ)))) (AF AO)) AZ))))))))) B6) (Ag (Bo (CV D (AE 4) (AF AO)) (An (Bm [5,6] (BX (CM (AK BA (AK (AS (AE 1)) (AK (AS (AE 5)) (AK (AS (AE 6)) AZ)))))))) B6) (Ag (Bo (CV D (AE 4) (AF AO)) (An (Bm [5,6,7] (BX (CM (AK BA (AK (AS (AE 1)) (AK (AS (AE 5)) (AK (AS (AE 6)) (AK (BD (JW.c (f:=KO) T) D (AK (AS (AE 7)) (AK AO AZ))) AZ))))))))) B6) (Ag (Bo (CV D (AE 4) (AF AO)) (Ag (Ay 11 J (BN (AF AO) (AF (BD (JW.c (f:=KO) T) D (AK (B0 (AE 7) (AF AO)) (AK (AS (Ac (AF (CL (AK AO (AK AO AZ)))) (AF (Bb (AF (B0 (AE 7) (AF AO))) (AF AO))))) AZ)))))) (An (Bm [5,8,11] (BX (CM (AK BA (AK (AS (AE 1)) (AK (AS (AE 5)) (AK (AS (AE 8)) (AK (OX T.gx (AF AO) (AF (BN (AE 11) (AF (BD (JW.c (f:=KO) T) D (AK (B0 (AE 7) (AF AO)) (AK (Ed (AF AO) (AE 11)) AZ))))))) (AK (AS (AE 11)) AZ))))))))))) B6) (An (Bm [5,8] (BX (CM (AK BA (AK (AS (AE 1)) (AK (AS (AE 5)) (AK (AS (AE 8)) (AK (BD (JW.c (f:=KO) T) D (AK (B0 (AE 7) (AF AO)) (AK AO AZ))) AZ))))))))))))))))))))⟩
noncomputable def RU:=By 12 RE.1 4
noncomputable def RB:CO ["_law_step_here","_law_sizes","_law_many"] "_law_bound" 30 49 ["_law_step_here","_law_sizes","_law_many"] 0:=⟨_,⟨CA,rfl⟩,λT J _ _ _ _ _ _ _ D=>(Ag (Bo (CV D (Ac (AE 0) (AF AO)) (AF BA)) (An (Hi 2)) B6) (Ag (Bo (CV D (Ac (AE 0) (AF AO)) (AF BA)) (An (BX (BN (MH D (AE 1) (Ac (AE 0) (AF AO))) (MH D (AE 1) (Ac (AE 0) (AF AO)))))) B6) (Ag (Bo (CV D (Ac (AE 0) (AF AO)) (AF BA)) (An (BX (Ed (MH D (AE 1) (Ac (AE 0) (AF AO))) (MH D (AE 1) (Ac (AE 0) (AF AO)))))) B6) (An (BX (AS (MH D (AE 1) (Ac (AE 0) (AF AO)))))))))⟩
noncomputable def NN:=By 3 RB.1 3
noncomputable def NG:CO ["_law_base","_law_j"] "_law_kind" 31 50 ["_law_base","_law_j"] 1:=⟨_,⟨CA,rfl⟩,λT J _ _ _ _ _ _ _ D=>(Ag (Bo (CV D (AF (Bb (AE 0) (AF AO))) (AF AO)) (An (BX (AS (Ac (AF (CL (AK BA (AK BA (AK BA AZ))))) (AE 1))))) B6) (An (BX (BD (IM.c (f:=Gz) T) D (AK (B0 (AE 0) (AF AO)) (AK (AS (AE 1)) (AK (AS (Ac (AF BA) (AE 1))) AZ)))))))⟩
noncomputable def NP:=By 2 NG.1 2
noncomputable def VG:CO ["_law_base","_law_k","_law_signs","_law_words"] "_law_step_name" 32 51 ["_law_base","_law_k","_law_signs"] 1:=⟨_,⟨CA,rfl⟩,λT J _ _ _ _ _ _ _ D=>(Ag (Ay 3 J (CL (AK BA (AK BA (AK BA (AK BA (AK BA (AK BA (AK BA (AK BA (AK BA (AK BA (AK BA (AK BA (AK BA AZ))))))))))))))) (Ag (Bo (G6 (Oc (CV D (AF (Bb (AE 0) (AF AO))) (AF AO)) (Nq (Ob (AE 1) (AF AO))))) (An (BX (AS (Ac (AE 3) (AF (Bb (AF (BN (AE 1) (AF (B0 (AE 0) (AF AO))))) (AF AO))))))) B6) (An (BX (BD (IM.c (f:=Gz) T) D (AK (AS (AE 0)) (AK (AS (AE 1)) (AK (AS (AE 2)) AZ))))))))⟩
noncomputable def Zu:=By 4 VG.1 3
noncomputable def Ux:CO ["times","most","parts","time"] "gap_windows" 20 37 ["times","most"] 0:=⟨_,⟨CA,rfl⟩,λT D _ _ _ _ _ _ _ J=>(Ag (Ay 2 D (CL AZ)) (Ag (Ee (C5 (AS (AE 0))) (Gs 3 D) (An (Bo (G6 (Iz (CV J (AF (Iv T.fj (AE 2))) (AF AO)) (Kj (Uc (AF (FK (AE 3) (Ac (Ac (AE 2) (AF (Yp (AF AO)))) (AF AO)))) (AE 1))))) (An (GB (Di 2) (CM (AK (AS (AE 3)) (AK (AS (AE 3)) AZ))))) (An (AIZ (Di 2) (AF (Yp (AF AO))) (CM (AK (AS (Ac (Ac (AE 2) (AF (Yp (AF AO)))) (AF AO))) (AK (AS (AE 3)) AZ)))))))) (An (Bm [2] (BX (E4 ["first","last"] [("most",1)] (Bz (DJ 37)) (QW (Io DG (Io DG QV))) (C5 (AS (AE 2))) (λ_ _ _ _=>Hg 2 rfl (Iw 0 (by decide+kernel) (Iw 1 (by decide+kernel) Hh))) (λ_ _ _ _=>II) (λ_ _ _ _=>(CM (AK (AS (AE 0)) (AK (BN (AF (BN (AE 1) (AE 2))) (AF AO)) AZ))))))))))⟩
noncomputable def RR:=By 4 Ux.1 2
noncomputable def RG:CO ["step","times"] "windows_of" 21 38 ["step","times"] 2:=⟨_,⟨CA,rfl⟩,λT J _ _ _ _ _ _ _ D=>(Ag (Bo (CV D (Ac (AE 0) (AF AO)) (AF BA)) (An (BX (BD (Uw.c (f:=RQ) T) D (AK (AS (AE 1)) (AK (AS (Ac (AE 0) (AF AO))) (AK (AS (Ac (AE 0) (AF AO))) AZ)))))) B6) (An (BX (BD (Ux.c (f:=RR) T) D (AK (AS (AE 1)) (AK (AS (Ac (AE 0) (AF AO))) AZ))))))⟩
noncomputable def Oz:=By 2 RG.1 2
noncomputable def U9:CO ["step","inner","amounts"] "told_value" 22 39 ["step","inner"] 1:=⟨_,⟨CA,rfl⟩,λT J _ _ _ _ _ _ _ D=>(Ag (Ub 2 J ["time","amount","places"] [] (Bz (DJ 39)) (QW (Io DG (Io DG (Io DG QV)))) (C5 (AS (AE 1))) (λ_ _ _ _=>Hg 3 rfl (Iw 0 (by decide+kernel) (Iw 1 (by decide+kernel) (Iw 2 (by decide+kernel) Hh)))) (λ_ _ _ _=>II) (λ_ _ _ _=>(AS (AE 1)))) (An (BX (BD (ZW.c (f:=Zv) T) D (AK (AS (Ac (AE 0) (AF AO))) (AK (CM (AK (Iv T.fj (AE 2)) (AK (oM T.si (AE 2)) (AK (Yo T.gx (AE 2)) (AK (oH T.ij (AE 2)) AZ))))) AZ))))))⟩
noncomputable def VX:=By 3 U9.1 2
noncomputable def U8:CO ["place","step","key","row","told","start","end","inner"] "told_of_key" 23 40 ["place","step","key","row"] 3:=⟨_,⟨CA,rfl⟩,λT D _ _ _ _ _ _ _ J=>(Ag (Ay 4 D (CL AZ)) (Ag (Ee (C5 (BD (RG.c (f:=Oz) T) J (AK (AS (AE 1)) (AK (E4 ["part"] [] (Bz (DJ 40)) DG (C5 (AS (AE 3))) (λ_ _ _ _=>E5 0 (by decide+kernel)) (λ_ _ _ _=>II) (λ_ _ _ _=>(AS (Ac (AE 0) (AF AO))))) AZ)))) (Hg 2 rfl (Er 5 D (Er 6 D Hh))) (Ag (Ay 7 D (BD (Q6.c (f:=Ov) T) J (AK (AS (AE 3)) (AK (AS (AE 5)) (AK (AS (AE 6)) AZ))))) (An (Bm [7] (GB (Di 4) (CM (AK (AS (AE 6)) (AK (AS (AE 0)) (AK (AS (AE 2)) (AK (AS (AE 5)) (AK (CM (AK (AS (Ac (AE 1) (AF AO))) (AK (AS (AE 2)) (AK (AS (AE 5)) (AK (AS (AE 6)) (AK (BD (U9.c (f:=VX) T) J (AK (AS (AE 1)) (AK (AS (AE 7)) AZ))) AZ)))))) (AK (AS (AE 7)) AZ)))))))))))) (An (Hi 4))))⟩
noncomputable def VW:=By 8 U8.1 4
noncomputable def Q9:CO ["plan","events","told","step","streams"] "streams_of" 18 35 ["plan","events"] 3:=⟨_,⟨CA,rfl⟩,λT J _ _ _ _ _ _ _ D=>(Ag (Ay 2 J UW) (Ag (Ee (C5 (AS (AE 0))) (Gs 3 J) (Ag (AIb 2 (AIW 4 2 J "name" "told" (Bz (DJ 35)) (C5 (BD (ZS.c (f:=Zp) T) D (AK (AS (AE 3)) AZ))) (λ_ _ _ _=>AHE (by decide+kernel)) (λ_ _ _ _=>dY D.u1 (Jk 1) (Jk 0) (λ_ _=>rfl)))) (An (Bo (CV D (Ac (AE 3) (AF AO)) (AF BA)) (An (OZ D (Di 2) (AF (BD (Q8.c (f:=FP) T) D (AK (AS (AE 3)) AZ))) (BD (U5.c (f:=NM) T) D (AK (AS (AE 3)) (AK (AS (AE 1)) AZ))))) (An (Bo (CV D (Ac (AE 3) (AF AO)) (AF BA)) (An (Bm [4] (OZ D (Di 2) (AF (BD (Q8.c (f:=FP) T) D (AK (AS (AE 3)) AZ))) (BD (Uz.c (f:=NL) T) D (AK (AS (Ac (AE 3) (AF AO))) (AK (AS (AE 4)) AZ)))))) (An (Bm [4] (OZ D (Di 2) (AF (BD (Q8.c (f:=FP) T) D (AK (AS (AE 3)) AZ))) (BD (Ol.c (f:=Es) T) D (AK (AS (AE 3)) (AK (AS (AE 4)) AZ)))))))))))) (An (Hi 2))))⟩
noncomputable def VT:=By 5 Q9.1 2
noncomputable def U7:CO ["plan","events","streams","told","place","rows","key"] "told_of" 24 41 ["plan","events"] 4:=⟨_,⟨CA,rfl⟩,λT J _ _ _ _ _ _ _ D=>(Ag (Ay 2 J (BD (Q9.c (f:=VT) T) D (AK (AS (AE 0)) (AK (AS (AE 1)) AZ)))) (Ag (Ay 3 J (CL AZ)) (Ag (Bm [2] (Ee (C5 (BD (U6.c (f:=Zs) T) D (AK (AS (AE 0)) AZ))) (Gs 4 J) (Ag (Ay 5 J (BD (Q7.c (f:=Ox) T) D (AK (AS (MH D (AE 2) (Ac (Ac (AE 0) (AE 4)) (AF AO)))) AZ))) (An (AIX 5 (Gs 6 J) (An (Ys (Di 3) (BD (U8.c (f:=VW) T) D (AK (AS (AE 4)) (AK (AS (Ac (AE 0) (AE 4))) (AK (AS (AE 6)) (AK (AS (MH D (AE 5) (AE 6))) AZ)))))))))))) (An (BX (oK D T.cz (AE 3)))))))⟩
noncomputable def VU:=By 7 U7.1 2
noncomputable def RA:CO ["plan","events"] "told_once" 25 42 ["plan","events"] 5:=⟨_,⟨CA,rfl⟩,λT J _ _ _ _ _ _ _ D=>(An (BX (E4 ["mark"] [] (Bz (DJ 42)) DG (C5 (BD (U7.c (f:=VU) T) D (AK (AS (AE 0)) (AK (AS (AE 1)) AZ)))) (λ_ _ _ _=>E5 0 (by decide+kernel)) (λ_ _ _ _=>II) (λ_ _ _ _=>(AS (Ac (AE 0) (AF AO)))))))⟩
noncomputable def Oy:=By 2 RA.1 2
noncomputable def VH:CO ["_law_thing"] "_law_whole" 38 58 ["_law_thing"] 0:=⟨_,⟨CA,rfl⟩,λT J _ _ _ _ _ _ _ D=>(An (BX (Yn (JT .int T.aq T.qh (AE 0)) (Wi (oJ (JT .bl T.aq T.qg (AE 0)))))))⟩
noncomputable def Vf:=By 1 VH.1 1
local macro_rules | `(tactic| lk) => `(tactic| simp only [ZH, pJ, vP, pI, vR, vS, ZG, ZA, sH, Uj, Um, Y8, Yx, r6, uM, u7, u9, uZ, u0, uN, uP, uO, uK, uL, Y7, rE, rB, rA, rD, uA, uC, uD, uG, uH, uI, uJ, uF, ZE, Ui, Y3, ZC, sJ, LK, vB, vA, Yy, pN, rT, vF, rV, rW, rX, rY, vG, vH, vI, vJ, vK, vL, vM, sT, sU, Yv, sX, oW, oV, s9, sZ, oU, sY, rG, rL, rJ, rH, qR, qQ, sR, sQ, sV, oS, o6, o7, o8, o9, pA, pB, pC, pF, qX, qY, pH, pD, pG, rP, rN, rO, uQ, uR, sW, sE, uT, tF, tE, tD, uB, u6, qV, qW, sP, sG, sC, qG, Y2, Y1, Yz, Y0, pU, pS, vV, uY, tK, tN, tW, tS, tU, rZ, oX, vU, vT, uX, qH, qI, qK, qL, pO, pP, pQ, pR, p9, vQ, pZ, pW, qZ, q9, r9, pV, rC, rK, Yu, qS, sF, qN, qM, List.take_succ_cons, List.take_zero, List.drop_succ_cons, List.drop_zero, List.length_cons, List.length_nil, Nat.reduceAdd, Nat.reduceSub, Nat.reduceLeDiff, Option.bind_some, t6, qO, qP, tY, tX, tZ, tH, tJ, qF, uE, t8, t7, t9, sO, List.getLast?_concat, rQ, rS, rR, vO, vN, sL, ZD, sS, uW, Y9, sN, uU, vC, vD, vE, qC, qE, qB, qA, List.flatMap_cons, List.flatMap_nil, List.append_nil, Uk, qU, qT, oZ, oY, List.length_map, Nat.zero_add, Nat.add_zero, sI, Bool.false_eq_true, Option.map_some, and_self, and_true, true_and, or_true, true_or, decide_true, decide_false, decide_eq_true_eq, if_true, if_false, List.map_cons, List.map_nil, List.replicate_zero, List.replicate_succ, List.nil_append, List.cons_append, ↓reduceIte, *])
def yL{nm kd ky k2:AG}{t a:Int}:Zr [.t [.s "take",.s nm,.s kd],.t [.i t,.s k2,.s ky,.i a]]=if k2=kd then AA (.n (.L [.d (.t [.i t,.s ky,.i a])]))else AA (.n (.L [])):=by refine(Cg (by rfl)).trans ?_;unfold U4;lk
def yB{nm fd:AG}{lo:Int}{xs:List (Int×AG×Int×AN)}(J:xs.length<=AY):Es [.t [.s "only",.s nm,.s fd,.i lo,.i hi],.l [.l (xs.map λx=>.t [.i x.1,.s x.2.1,.i x.2.2.1,x.2.2.2])]]=AA (.n (.L ((xs.filterMap λx=>if lo<=x.2.2.1 then if x.2.2.1<=hi then AA (.t [.i x.1,.s x.2.1,.i x.2.2.1,x.2.2.2])else AB else AB).map .d))):=by refine(Cg (by rfl)).trans ?_;unfold Ol;lk;rw[JA J (g:=λx=>if lo<=x.2.2.1 then if x.2.2.1<=hi then AA (.t [.i x.1,.s x.2.1,.i x.2.2.1,x.2.2.2])else AB else AB) (by intro x _;lk)];rfl
def JE(kd:AG)(p:(Int×AG×AG×Int)×Nat):List AN:=if p.1.2.1=kd then[.t [.i p.1.1,.s p.1.2.2.1,.i p.1.2.2.2,.t [.i p.2]]]else[]
def aT:∀{l:List ((Int×AG×AG×Int)×Nat)},(l.flatMap (JE kd)).length<=l.length
 |[]=>Aw _|x::l=>by
  rw[Lo,Bi,Fq];have:=aT (kd:=kd) (l:=l);have:(JE kd x).length<=1:=by unfold JE;∎
  ∎
def yM{nm kd:AG}{xs:List (Int×AG×AG×Int)}(A:xs.length<=AY):NM [.t [.s "take",.s nm,.s kd],.l (xs.map λx=>.t [.i x.1,.s x.2.1,.s x.2.2.1,.i x.2.2.2])]=AA (.n (.L ((xs.zipIdx.flatMap (JE kd)).map .d))):=by
  refine(Cg (by rfl)).trans ?_;unfold U5;lk;refine JO (λl τ=>∃D J,τ=[AA (.d (.t [.s "take",.s nm,.s kd])),AA (.d (.l (xs.map λx=>.t [.i x.1,.s x.2.1,.s x.2.2.1,.i x.2.2.2]))),AA (.L ((l.flatMap (JE kd)).map .d)),D,J]) (by simp_all) ?_ ?_
  . rintro l⟨⟨t,k2,ky,a⟩,n⟩z e _⟨D,J,rfl⟩;have V:(l.flatMap (JE kd)).length+1<=AY:=by have h1:=AMw Kk e;rw[Lq,Bi,Fq]at h1;have:=aT (kd:=kd) (l:=l);∎
    have W:(l.flatMap (JE kd)).length<=AY:=by∎
    refine⟨_,by rfl,_,⟨AA (.d (.i n)),AA (.d (.t [.i t,.s k2,.s ky,.i a])),rfl⟩,.inl ?_⟩;have Z:=@yL nm kd ky k2 t a;rw[Pn,Cc];by_cases U:k2=kd
    . subst U;have Y:(JE k2 ((t,k2,ky,a),n))=[.t _]:=AMu rfl;lk
    . have Y:(JE kd ((t,k2,ky,a),n))=[]:=AMv U;lk
  . rintro _⟨D,J,rfl⟩;rfl
def V3(so:AG)(x:Int)(r:List Int):Int:=if so="count"then(r.length:Int)+1 else if so="sum"then(x::r).sum else if so="least"then r.foldl Dx x else r.foldl Ey x
def yW{so:AG}{r:List Int}(h:so="count"\/so="sum"\/so="least"\/so="greatest"):Zv [.s so,.t [.i ((r.length:Int)+1),.i (x::r).sum,.i (r.foldl Dx x),.i (r.foldl Ey x)]]=AA (.s (.i (V3 so x r))):=by rcases h with rfl|rfl|rfl|rfl;all_goals rfl
def yT{k nm fd so:AG}{x:Int×Int×AN}{xs:List (Int×Int×AN)}(J:(x::xs).length<=AY)(U:so="count"\/so="sum"\/so="least"\/so="greatest"):VX [.t (.s k::.s nm::.s fd::.s so::r),.l ((x::xs).map λx=>.t [.i x.1,.i x.2.1,x.2.2])]=AA (.s (.i (V3 so x.2.1 (xs.map (·.2.1))))):=by
 refine(Cg (by rfl)).trans ?_;unfold U9;generalize hz:x::xs=zs at J⊢;lk;rw[JV J (by intro y _;rfl),show zs.map (λy=>AN.i _)=(zs.map _).map _ from(Bj).symm];subst hz;have V:=yW (x:=x.2.1) (r:=xs.map (·.2.1)) U;rw[A4]at V;have h1:J4 (Kl (λx=>x.2.1) (x::xs))=AA _:=rfl;have h2:LD (Kl (λx=>x.2.1) (x::xs))=AA _:=rfl;generalize hn:Kl _ _=ns at h1 h2⊢;have W:(ns.length)=((xs.map (·.2.1)).length:Int)+1:=by∎
 have Y:ns.sum=(x.2.1::xs.map (·.2.1)).sum:=by∎
 lk
def Fg(most:Int)(ps:List (Int×Int))(t:Int):List (Int×Int):=match ps.getLast? with|AB=>ps++[(t,t)]|AA p=>if t-p.2>most then ps++[(t,t)]else ps.dropLast++[(p.1,t)]
def CI(p:Int×Int):AN:=.t [.i p.1,.i p.2]
def RX:∀{ts:List Int}{ps:List (Int×Int)},(ts.foldl (Fg most) ps).length<=ps.length+ts.length
 |[],ps=>Aw _|t::ts,ps=>by
  have h:=RX (most:=most) (ts:=ts) (ps:=Fg most ps t);have h2:(Fg most ps t).length<=ps.length+1:=by unfold Fg;∎
  ∎
def xM{ts:List Int}(A:ts.length<=AY):RR [.l (ts.map .i),.i most]=AA (.n (.L (((ts.foldl (Fg most) []).map λp=>.t [.i p.1,.i (p.2+most+1)]).map .d))):=by
  unfold RR;refine(Cg (by rfl)).trans ?_;unfold Ux;lk;refine JO (λl τ=>∃Y,τ=[AA (.d (.l (ts.map .i))),AA (.d (.i most)),AA (.L (((l.foldl (Fg most) []).map CI).map .d)),Y]) ⟨AB,rfl⟩ ?_ ?_
  . rintro l t z e _⟨Y,rfl⟩;have hn:(l.foldl (Fg most) []).length<AY:=by have h:=RX (most:=most) (ts:=l) (ps:=[]);∎
    clear e A;refine⟨_,by lk;rfl,_,⟨AA (.d (.i t)),rfl⟩,.inl ?_⟩;rw[XC,Mc,gB];generalize l.foldl (Fg most) []=ps at hn⊢;rcases Mb ps with rfl|⟨qs,p,rfl⟩;.rfl
    . rw[Ma]at hn⊢;have W:((qs++[p]).map CI).map AU.d=(qs.map CI).map AU.d++[.d (.t [.i p.1,.i p.2])]:=by simp[CI]
      have V:Fg most (qs++[p]) t=if most<t-p.2 then qs++[p]++[(t,t)]else qs++[(p.1,t)]:=by simp[Fg]
      have D:((qs.map CI).map AU.d++[AU.d (.t [.i p.1,.i p.2])]).length<AY:=by∎
      have J:((((qs.map CI).map AU.d++[AU.d (.t [.i p.1,.i p.2])]).length:Int)=0)=False:=by∎
      by_cases Z:most<t-p.2
      . have U:((Fg most (qs++[p]) t).map CI).map AU.d=(qs.map CI).map AU.d++[.d (.t [.i p.1,.i p.2])]++[.d (.t [.i t,.i t])]:=by rw[V,AMu Z];simp[CI]
        rw[U,W];clear U W V hn;generalize(qs.map CI).map AU.d=B at D J⊢;lk
      . have U:((Fg most (qs++[p]) t).map CI).map AU.d=(qs.map CI).map AU.d++[.d (.t [.i p.1,.i t])]:=by rw[V,AMv Z];simp[CI]
        rw[U,W];clear U W V hn;generalize(qs.map CI).map AU.d=B at D J⊢;lk
  . rintro _⟨Y,rfl⟩;have hn:(ts.foldl (Fg most) []).length<=AY:=by have h:=RX (most:=most) (ts:=ts) (ps:=[]);∎
    clear A;lk;rw[JV hn (g:=λp=>.t [.i p.1,.i (p.2+most+1)]) (by intro y _;rfl)];rfl
def yI(h1:0<d)(h2:d<1073741824)(J:-2^64<d)(D:d<2^64)(U:QY [.i (((t-s)/d+1)*d),.i (t+1),.i d]=AA ((Jl (((t-s)/d+1)*d) (t+1) d).map .i)):VS [.i t,.i s,.i d]=AA (.n (.L (((Jl (((t-s)/d+1)*d) (t+1) d).map .i).map .d))):=by refine(Cg (by rfl)).trans ?_;unfold U3;lk
def Rq:((BO "gap"=BO "each")=False)/\((BO "turn"=BO "only")=False)/\((BO "both"=BO "only")=False)/\((BO "both"=BO "turn")=False):=⟨AMx (by decide+kernel),AMx (by decide+kernel),AMx (by decide+kernel),AMx (by decide+kernel)⟩
def yY{nm fd so:AN}{most:Int}{ts ws:List AN}{u:Ab}(J:RR [.l ts,.i most]=AA u):Oz [.t [.s "gap",nm,fd,so,.i most],.l ts]=AA u:=by have hw:=Rq;refine(Cg (by rfl)).trans ?_;unfold RG;lk
def yX{nm fd so:AN}{a b:Int}{ts ws:List AN}{u:Ab}(J:RQ [.l ts,.i a,.i b]=AA u):Oz [.t [.s "each",nm,fd,so,.i a,.i b],.l ts]=AA u:=by refine(Cg (by rfl)).trans ?_;unfold RG;lk
def yV{nm fd:AN}{k c t a:Int}{key:AG}{ps:AN}(h:(-2^64<a/\a<2^64)\/(-2^64<k/\k<2^64)):Zt [.t [.s "turn",nm,fd,.i k,.i c],.t [.i t,.s key,.i a,ps]]=AA (.s (.t [.i t,.s key,.i (a*k+c),ps])):=by refine(Cg (by rfl)).trans ?_;unfold VA;lk
def yC{xs:List (Int×AG×Int×AN)}(J:xs.length<=AY)(W:-2^64<k)(U:k<2^64):Es [.t [.s "turn",nm,fd,.i k,.i c],.l [.l (xs.map λx=>.t [.i x.1,.s x.2.1,.i x.2.2.1,x.2.2.2])]]=AA (.n (.L ((xs.map λx=>.t [.i x.1,.s x.2.1,.i (x.2.2.1*k+c),x.2.2.2]).map .d))):=by have hw:=Rq;refine(Cg (by rfl)).trans ?_;unfold Ol;lk;rw[JV J (g:=λx=>.t [.i x.1,.s x.2.1,.i (x.2.2.1*k+c),x.2.2.2]) (by intro x _;have V:=@yV nm fd k c x.1 x.2.2.1 x.2.1 x.2.2.2 ∎;lk)];rfl
def yA{l m:List AN}(U:l.length+m.length<=AY):Es [.t [.s "both",nm,J,f2],.l [.l l,.l m]]=AA (.n (.L ((l++m).map .d))):=by have hw:=Rq;have V:=Uh rM rM U;refine(Cg (by rfl)).trans ?_;unfold Ol;lk
def xV{p1 p2:List Int}(J:p1.length+p2.length<1000):RS [.t [.i t1,.s key,.i a1,.t (p1.map .i)],.t [.i t2,.i a2,.t (p2.map .i)]]=AA (.s (.t [.i (if t2>t1 then t2 else t1),.s key,.i (a1-a2),.t (Qm (p1++p2))])):=by
 refine(Cg (by rfl)).trans ?_;unfold U1;have D:En (.d (.t (p1.map .i))) (.d (.t (p2.map .i)))=AA (.s (.t ((p1++p2).map .i))):=by rw[Cc];refine Yu ?_;rw[A4,A4];have:=ES;∎
 have U:M0 (.d (.t ((p1++p2).map .i)))=AA _:=AIx (by
  rw[Bi];have:1001<F8:=by decide+kernel
  ∎);lk
def AAy{lo hi:Option Int}:Ip (.d (.l l)) lo hi=AA (.n (.L ((Cs l lo hi).map .d))):=rfl
def xG(U:NK [.l J,.t [.i a]]=AA (.s (.i m)))(V:NK [.l J,.t [.i b]]=AA (.s (.i n))):Ov [.l J,.i a,.i b]=AA (.n (.L ((Cs J (AA m) (AA n)).map .d))):=by have W:=@AAy J (AA m) (AA n);refine(Cg (by rfl)).trans ?_;unfold Q6;lk
abbrev Dp:=Int×AG×Int
abbrev BL:=Dp×List Int
def DR(i:BL):AN:=.t [.i i.1.1,.i i.1.2.2,.t (i.2.map .i)]
def Be(i:BL):AN:=.t [.i i.1.1,.s i.1.2.1,.i i.1.2.2,.t (i.2.map .i)]
def NJ(a:Int)(N:List BL):Nat:=(N.filter λi=>Af (i.1.1<a)).length
def LM(N:List BL):Prop:=(N.map λi=>i.1.1).Pairwise (.<=.)
def VL{N:List BL}:NJ a N<=N.length:=JG ..
def RO:∀{N:List BL}{k:Nat}{i:BL},LM N->N[k]?=AA i->(i.1.1<a↔k<NJ a N)
 |[],_,_,_,e=>by cases e|i::N,0,_,h,e=>by
  unfold NJ;rw[Nu];by_cases c:i.1.1<a;.∎
  . have h:=(Nw.mp (show AJF _ (i.1.1::N.map _)from h)).1;rw[AJP.mpr λj D=>by have:=h _ (B8.mpr ⟨j,D,rfl⟩);simp;∎];∎|x::N,k+1,i,h,e=>by have h':=Nw.mp ∎;have J:=RO (a:=a) h'.2 e;have U:=h'.1 _ (B8.mpr ⟨i,∎,rfl⟩);unfold NJ at J⊢;∎
def Zj{N:List BL}(L:LM N)(H:N.length<2^30):NK [.l (N.map DR),.t [.i a]]=AA (.s (.i (NJ a N))):=by
  unfold NK;refine(Cg (by rfl)).trans ?_;unfold Q5;have B:=VL (a:=a) (N:=N);have J:=λk i=>RO (a:=a) (N:=N) (k:=k) (i:=i) L;generalize NJ a N=c at B J⊢;have hn:(N.map DR).length=N.length:=A4 ..;generalize A:N.map DR=D at hn⊢;clear L;have G:∀(lo hi:Nat)(x:Option AU),True:=λ_ _ _=>trivial;have st:EK ((D1 (GV (DZ (A9 YO (Ai 2) (Ai 3))) (Gr (Ir 4 (A9 mC (Bg (A9 En (Ai 2) (Ai 3))) (Bg (CC (.s (.i 2)))))) (KC (DZ (A9 YQ (A9 B9 (Ai 0) (Ai 4)) (Ai 1))) (Ir 2 (A9 En (Ai 4) (Bg (CC (.s (.i 1)))))) (KD [4] (Ir 3 (BW (Ai 4)))))) 40 [AA (.d (.l D)),AA (.d (.t [.i a])),AA (.d (.i 0)),AA (.d (.i D.length)),AB]) (Qs 2)))=AA (.s (.i c)):=by
    refine AIi (λm τ=>∃(lo hi:Nat)(x:Option AU),τ=[AA (.d (.l D)),AA (.d (.t [.i a])),AA (.d (.i lo)),AA (.d (.i hi)),x]/\lo<=hi/\hi<=D.length/\hi-lo<2^m/\lo<=c/\c<=hi) 31 ⟨0,D.length,AB,rfl,EA _,Aw _,∎,EA _,∎⟩ (by decide) ?_;rintro m _⟨lo,hi,x,rfl,h1,h2,W,Y,Z⟩;by_cases V:lo<hi
    . have Q:(lo:Int)<(hi:Int):=by∎
      refine .inr ⟨?_,?_⟩
      . clear h1 h2 W Y Z V G J H hn A B;lk
      . obtain⟨U,rfl⟩:∃U,m=U+1:=by cases m with |zero=>exact absurd W (by simp;∎)|succ m=>exact⟨m,rfl⟩
        have e:((lo:Int)+(hi:Int))/2=(((lo+hi)/2:Nat):Int):=by∎
        have I:(lo+hi)/2<N.length:=by∎
        have F:CJ D (((lo+hi)/2:Nat):Int)=AA (DR N[(lo+hi)/2]):=by rw[Gv,<-A,Ca,EM I];rfl
        have X:=J _ _ (EM I);have O:DR N[(lo+hi)/2]=.t _:=rfl;rw[O]at F;have b:=AIr (t:=N[(lo+hi)/2].1.1) (m:=a) (r:=[.i N[(lo+hi)/2].1.2.2,.t (N[(lo+hi)/2].2.map .i)]);have R:(0:Int)<2:=by decide
        have S:(2:Int)<1073741824:=by decide
        have f:2^(U+1)=2*2^U:=by rw[Nat.pow_succ,Nat.mul_comm]
        by_cases K:N[(lo+hi)/2].1.1<a
        . have E:=X.mp K;refine⟨U,[AA (.d (.l D)),AA (.d (.t [.i a])),AA (.d (.i (((lo+hi)/2+1:Nat):Int))),AA (.d (.i hi)),AA (.d (.i (((lo+hi)/2:Nat):Int)))],rfl,⟨(lo+hi)/2+1,hi,_,rfl,∎,h2,∎,E,Z⟩,.inl ?_⟩;have M:(((lo+hi)/2+1:Nat):Int)=(((lo+hi)/2:Nat):Int)+1:=by∎
          rw[M];lk
        . have C:c<=(lo+hi)/2:=by∎
          refine⟨U,[AA (.d (.l D)),AA (.d (.t [.i a])),AA (.d (.i lo)),AA (.d (.i (((lo+hi)/2:Nat):Int))),AA (.d (.i (((lo+hi)/2:Nat):Int)))],rfl,⟨lo,(lo+hi)/2,_,rfl,∎,∎,∎,Y,C⟩,.inl ?_⟩;generalize N[(lo+hi)/2]=it at b K F;lk
    . have Q:¬(lo:Int)<(hi:Int):=by∎
      have P:c=lo:=by∎
      subst P;refine .inl ⟨?_,?_⟩
      . clear h1 h2 W Y Z V G J H hn A B;lk
      rfl
  exact st
def xE{l:List α}(D:m<=l.length)(hn:n<=l.length):Cs l (AA (m:Int)) (AA (n:Int))=(l.drop m).take (n-m):=by unfold Cs;rw[ND,ND,AJg D,AJg hn]
def Fh(lo hi:Int)(i:BL):Bool:=Af (lo<=i.1.1/\i.1.1<hi)
def Zk{N:List BL}(D:LM N)(J:N.length<2^30):Ov [.l (N.map DR),.i a,.i b]=AA (.n (.L (((N.filter (Fh a b)).map DR).map .d))):=by
 rw[xG (Zj D J) (Zj D J)];congr 4;rw[<-R1 λi x e=>?_,AJX,List.map_drop];.exact xE (by rw[A4];exact VL) (by rw[A4];exact VL)
 . have h1:=RO (a:=a) D e;have h2:=RO (a:=b) D e;unfold Fh;∎
def Dq(i:BL):AG:=i.1.2.1
def NQ(i:BL):List AW:=[.inl i.1.1,.inr i.1.2.1,.inl i.1.2.2]++i.2.map Bk
def Fl(M:List BL):List BL:=Dz NQ M
def Br(l:List BL):List AG:=l.foldl (λks i=>if Dq i∈ks then ks else ks++[Dq i]) []
def Cp(l:List BL)(z:AG):List BL:=l.filter λi=>Af (Dq i=z)
def Ga(l:List BL)(z:AG):AU:=.L (((Cp l z).map DR).map .d)
def Vj:Br (l++[i])=if Dq i∈Br l then Br l else Br l++[Dq i]:=by unfold Br;∎
def LR:∀(n:Nat)(l:List BL),l.length=n->(Br l).Nodup/\(∀z,z∈Br l↔∃i∈l,Dq i=z)/\(Br l).length<=n
 |0,l,h=>by cases Jm.mp h;exact⟨Ft,λz=>⟨λh=>(nomatch h),∎⟩,Aw _⟩|n+1,l,h=>by
  rcases Mb l with rfl|⟨r,i,rfl⟩;.cases h
  . rw[Ma]at h⊢;rw[Bi]at h;obtain⟨h1,h2,D⟩:=LR n r (Kn h);rw[Vj];∎
def RZ:Cp (l++[i]) z=if Dq i=z then Cp l z++[i]else Cp l z:=by unfold Cp;∎
def Z4(h:z∉Br l):Cp l z=[]:=AJP.mpr λi hi e=>h (((LR _ l rfl).2.1 z).mpr ∎)
def Zz:∀{ks:List AG},z∈ks->∃j,El (.inr z) (ks.map BV)=AA j/\ks[j]?=AA z
 |[],h=>nomatch h|y::r,h=>by
  show∃j,(if(BV y)=.inr z then AA 0 else(El _ _).map _)=AA j/\_;by_cases c:y=z;.simp_all
  . obtain⟨j,h1,h2⟩:=Zz ((Bw.mp h).resolve_left ∎);∎
def AAM(D:(Br l)[j]?=AA (Dq i)):(Br l).map (Ga (l++[i]))=((Br l).map (Ga l)).set j (.L (((Cp l (Dq i)).map DR).map .d++[.d (DR i)])):=by
 have W:=(LR _ l rfl).1;obtain⟨V,U⟩:=EN.mp D;refine XA λn=>?_;rw[Ca,List.getElem?_set,A4];by_cases c:j=n
 . subst c;rw[AMu V,D];show AA _=_;unfold Ga;rw[RZ];simp
 . rw[AMv c,Ca];cases e:(Br l)[n]? with|none=>rfl|some z=>show AA _=AA _;unfold Ga;rw[RZ,AMv λJ=>c ?_];obtain⟨Z,Y⟩:=EN.mp e;exact(gC W).mp (by rw[U,Y,J])
def AAL(h:Dq i∉Br l):(Br l++[Dq i]).map (Ga (l++[i]))=(Br l).map (Ga l)++[.L [.d (DR i)]]:=by
 rw[Cc];congr 1
 . refine Ie λz hz=>?_;unfold Ga;rw[RZ,AMv ∎]
 . show[Ga _ _]=_;unfold Ga;rw[RZ,AMu rfl,Z4 h];rfl
def zK:OJ (Be i)=AA (NQ i):=by show(Hb _).map _=_;rw[lO];rfl
def Zl{M:List BL}(H:M.length<AY):Ox [.l (M.map Be)]=AA (.n (.M ((Br (Fl M)).map BV) ((Br (Fl M)).map (Ga (Fl M))))):=by
  have B:Qd (.d (.l (M.map Be)))=AA (.n (.L (((Fl M).map Be).map .d))):=AIv AHL (λx _=>zK) [AD,AH,AD] (by decide) λx _ k e=>by cases e;rfl
  have V:(Fl M).length=M.length:=(HH (ky:=NQ) (xs:=M)).length_eq;generalize Fl M=S at B V⊢;generalize M.map Be=m at B⊢;unfold Ox;refine(Cg (by rfl)).trans ?_;unfold Q7;have G:=@Gw (S.map Be);lk;refine JO (λl τ=>∃W Y Z A,τ=[AA (.d (.l m)),AA (.M ((Br l).map BV) ((Br l).map (Ga l))),W,Y,Z,A]) ⟨AB,AB,AB,AB,rfl⟩ ?_ ?_
  . rintro l i z e _⟨W,Y,Z,A,rfl⟩;have C:l.length<AY:=by∎
    obtain⟨k1,k2,k3⟩:=LR _ l rfl;refine⟨_,rfl,?_⟩;have U:((Br l).map BV:List AW).length=((Br l).map (Ga l)).length:=by∎
    have D:((Br l).map BV:List AW).length<AY:=by∎
    by_cases J:Dq i∈Br l
    . obtain⟨j,F,E⟩:=Zz J;refine⟨_,⟨AA (.d (.i i.1.1)),AA (.d (.s i.1.2.1)),AA (.d (.i i.1.2.2)),AA (.d (.t (i.2.map .i))),rfl⟩,.inl ?_⟩;rw[Vj,AMu J,AAM E];refine(AHv (i:=1) (w:=.s (DR i)) rfl rfl rfl ?_ F (by rw[Ca,E];rfl) ?_ D).trans rfl;.rfl
      . have:(Cp l (Dq i)).length<=l.length:=JG ..;∎
    . refine⟨_,⟨AA (.d (.i i.1.1)),AA (.d (.s i.1.2.1)),AA (.d (.i i.1.2.2)),AA (.d (.t (i.2.map .i))),rfl⟩,.inl ?_⟩;rw[Vj,AMv J,AAL J,Cc];refine(AHu (i:=1) (w:=.s (DR i)) rfl rfl rfl ?_ (λh=>?_) U D).trans rfl;.rfl
      ∎
  . rintro _⟨W,Y,Z,A,rfl⟩;rfl
def Hq(a b:Int):Int:=if b>a then b else a
noncomputable def IT(i j:BL):BL:=((Hq i.1.1 j.1.1,i.1.2.1,i.1.2.2-j.1.2.2),Iq (i.2++j.2))
def xW{i j:BL}(h:i.2.length+j.2.length<1000):RS [Be i,DR j]=AA (.s (Be (IT i j))):=by have:=xV (t1:=i.1.1) (t2:=j.1.1) (a1:=i.1.2.2) (a2:=j.1.2.2) (key:=i.1.2.1) h;rw[nW]at this;exact this
def V1{M:List BL}(h:LM N)(s:M.Sublist N):LM M:=ALt (s.map _) h
def V0:LM (Fl M):=by have h:=HS.mp (AHy (ky:=NQ) (xs:=M));refine HS.mpr (h.imp λ{a b}z=>?_);have z:(if(Bk b.1.1)=.inl _ then _ else Af _)=AH:=z;∎
noncomputable def GF(D:Int)(i:BL)(S:List BL):List BL:=(Cp S (Dq i)).filter (Fh (i.1.1-D) (i.1.1+D+1))
noncomputable def JX(D:Int)(A B:List BL):List BL:=A.flatMap λi=>(GF D i (Fl B)).map (IT i)
def LU(l:List BL)(z:AG):AN:=.l ((Cp l z).map DR)
def aH:(Ga l z).fg=AA (LU l z):=KA
def xO{A B:List BL}(R:B.length<2^23)(K:(JX D A B).length<=AY)(Q:∀i∈A,∀j∈B,i.2.length+j.2.length<1000):NL [.i D,.l [.l (A.map Be),.l (B.map Be)]]=AA (.n (.L (((JX D A B).map Be).map .d))):=by
  have C:AY=16777216:=ES;have q:=Zl (M:=B) ∎;have V:(Fl B).length=B.length:=(HH (ky:=NQ) (xs:=B)).length_eq;have J:∀j,j∈Fl B↔j∈B:=λj=>(HH (ky:=NQ) (xs:=B)).mem_iff;have G:=V0 (M:=B);have p:JX D A B=A.flatMap _:=rfl;rw[p]at K⊢;generalize Fl B=S at q V J G K⊢;have x:(AU.M ((Br S).map BV) ((Br S).map (Ga S))).fg=AA (.m ((Br S).map BV) ((Br S).map (LU S))):=by show(DM _).map _=_;rw[UM λz _=>aH (l:=S) (z:=z)];rfl
  unfold NL;refine(Cg (by rfl)).trans ?_;unfold Uz;revert R K Q C V J G;clear p;lk;clear q x;intro R Q C V J G K;have u:=λi hi j F=>Q i hi j ((J j).mp F);clear Q J;refine JO (λl τ=>∃b f,τ=[AA (.d (.i D)),AA _,AA _,AA (.L (((l.flatMap λi=>(GF D i S).map (IT i)).map Be).map .d)),b,f]) ⟨AB,AB,rfl⟩ ?_ ?_
  . rintro l i z e _⟨b,f,rfl⟩;have hi:Be i=.t _:=rfl;have Z:i∈A:=by rw[e];exact Dl _ (B7 ..)
    have hn:(GF D i S).length<=S.length:=Cj (JG ..) (JG ..);have X:(l.flatMap λi=>(GF D i S).map (IT i)).length+(GF D i S).length<=AY:=by∎
    have W:Ov _=AA (.n (.L (((GF D i S).map DR).map .d))):=Zk (V1 G AEq) (by have:(Cp S (Dq i)).length<=S.length:=JG ..;∎);have O:∀j∈GF D i S,RS [Be i,DR j]=AA (.s (Be (IT i j))):=λj F=>xW (u i Z j (Ea.mp (Ea.mp F).1).1);have Y:(GF D i S).length<=AY:=by∎
    rw[hi]at O;refine⟨_,rfl,_,⟨AA (.d (Be i)),AA (.d (.l ((GF D i S).map DR))),rfl⟩,.inl ?_⟩;rw[Pn,Lo,gA,Ek,Cc,Cc];have H:L6 (AA (.d (.m ((Br S).map BV) ((Br S).map (LU S))))) (AA (.d (.s i.1.2.1))) (AA (.n (.L [])))=AA (.s (.l ((Cp S (Dq i)).map DR)))\/L6 (AA (.d (.m ((Br S).map BV) ((Br S).map (LU S))))) (AA (.d (.s i.1.2.1))) (AA (.n (.L [])))=AA (.n (.L []))/\(Cp S (Dq i)).map DR=[]:=by
      by_cases c:Dq i∈Br S
      . left;refine AG6 (k:=.inr (Dq i)) rfl rfl ?_;rw[Bj];exact OV (h:=BV) (v:=λz=>AU.d (LU S z)) QU c
      . right;refine⟨AG5 (k:=.inr (Dq i)) rfl rfl ?_,by rw[Z4 c];rfl⟩;rw[Bj];exact oA (h:=BV) (v:=λz=>AU.d (LU S z)) λz hz e=>c (by rw[<-j9 e];exact hz)
    have I:∃w,L6 (AA (.d (.m ((Br S).map BV) ((Br S).map (LU S))))) (AA (.d (.s i.1.2.1))) (AA (.n (.L [])))=AA w/\w.d=AA (.l ((Cp S (Dq i)).map DR)):=by
      rcases H with h|⟨h,h2⟩;.exact⟨_,h,rfl⟩
      .exact⟨_,h,by rw[h2];rfl⟩
    obtain⟨w,P,E⟩:=I;clear H;have U:(((l.flatMap λi=>(GF D i S).map (IT i)).map Be).map AU.d).length+(((GF D i S).map (IT i)).map Be).length<=AY:=by∎
    generalize((l.flatMap λi=>(GF D i S).map (IT i)).map Be).map AU.d=mad at U⊢;generalize(Cp S (Dq i)).map DR=a at W E;generalize r:GF D i S=N at U W O Y⊢;have y:L8 (AA w)=AA (.l a):=E;clear hn X K G C R V e Z u E;lk;rw[JV Y (g:=λj=>Be (IT i j)) (by intro j F;have:=O j F;clear O Y r U P W F;lk)];clear O Y r P W;have o:(N.map (IT i)).map Be=N.map λj=>Be (IT i j):=Bj;rw[o]at U⊢;generalize(N.map λj=>Be (IT i j))=ys at U⊢;clear o;lk
  . rintro _⟨b,f,rfl⟩;lk
def Dj(t z d:Int):Int:=((t-z)/d+1)*d
def EV(t z d:Int):List Int:=Jl (Dj t z d) (t+1) d
def LN(t z d:Int):Prop:=1<=d/\d<=1000000/\d<=z/\z<=1000000/\0<=t/\t<=2000000000
def O0(hW:LN t z d):Dj t z d<=t:=by obtain⟨h1,h2,D,J,U,V⟩:=hW;have h:=wL (t-z) (b:=d) ∎;unfold Dj;∎
def RV(hW:LN t z d):t<Dj t z d+z:=by obtain⟨h1,h2,D,J,U,V⟩:=hW;have h:=AJB (t-z) (b:=d) ∎;unfold Dj;∎
def Ro(hW:LN t z d):FC (Dj t z d) (t+1) d=((t-Dj t z d)/d).toNat+1:=by have h:=O0 hW;obtain⟨h1,h2,D,J,U,V⟩:=hW;have W:0<=(t-Dj t z d)/d:=wM ∎ ∎;unfold FC;∎
def AAU(hW:LN t z d)(D:k<FC (Dj t z d) (t+1) d):Dj t z d+(k:Int)*d<=t:=by have h:=O0 hW;rw[Ro hW]at D;obtain⟨h1,h2,J,U,V,W⟩:=hW;have Y:0<=(t-Dj t z d)/d:=wM ∎ ∎;have Z:=wL (t-Dj t z d) (b:=d) ∎;have A:(k)*d<=(t-Dj t z d)/d*d:=Int.mul_le_mul_of_nonneg_right ∎ ∎;∎
def AAV(hW:LN t z d)(k:Nat):t<Dj t z d+(k:Int)*d+z:=by have h:=RV hW;obtain⟨h1,h2,D,J,U,V⟩:=hW;have W:0<=(k)*d:=ZP ∎ ∎;∎
def AAk(hW:LN t z d):FC (Dj t z d) (t+1) d<=1000001:=by have h:=RV hW;have D:=O0 hW;rw[Ro hW];obtain⟨h1,h2,J,U,V,W⟩:=hW;have Y:(t-Dj t z d)/d<=t-Dj t z d:=AJA _ ∎;∎
def AAW(t z d:Int)(k:Nat):(Dj t z d+(k:Int)*d)%d=0:=by unfold Dj;simp_all
def AAj(hW:LN t z d)(hz:z<=20*d):FC (Dj t z d) (t+1) d<=21:=by have h:=RV hW;have D:=O0 hW;rw[Ro hW];have J:(t-Dj t z d)/d<=20:=Int.ediv_le_of_le_mul ∎ ∎;∎
def yJ(hW:LN t z d):VS [.i t,.i z,.i d]=AA (.n (.L (((EV t z d).map .i).map .d))):=by have D:=O0 hW;have h1:=RV hW;have h2:=AAk hW;obtain⟨J,U,V,W,Y,Z⟩:=id hW;refine yI ∎ ∎ ∎ ∎ ?_;show QY [.i (Dj t z d),.i _,.i d]=_;refine AMu ∎
def Hm(ns:List Int)(s:Int):List Int:=if s∈ns then ns else ns++[s]
def ML:∀(l D:List Int),D.Nodup->(l.foldl Hm D).Nodup/\(∀s,s∈l.foldl Hm D↔s∈D\/s∈l)/\(l.foldl Hm D).length<=D.length+l.length
 |[],D,h=>∎|x::l,D,h=>by
  have h1:(Hm D x).Nodup/\(∀s,s∈Hm D x↔s∈D\/s=x)/\(Hm D x).length<=D.length+1:=by unfold Hm;∎
  obtain⟨i1,i2,i3⟩:=ML l _ h1.1;∎
def Zy:∀{ks:List Int},z∈ks->∃j,El (.inl z) (ks.map Bk)=AA j/\ks[j]?=AA z
 |[],h=>nomatch h|y::r,h=>by
  show∃j,(if(Bk y)=.inl z then AA 0 else(El _ _).map _)=AA j/\_;by_cases c:y=z;.simp_all
  . obtain⟨j,h1,h2⟩:=Zy ((Bw.mp h).resolve_left ∎);∎
def JZ(ns:List Int):List AU:=ns.map λ_=>.d (.b AD)
def AAh:(JZ ns).set j (.d (.b AD))=JZ ns:=by refine XA λn=>?_;unfold JZ;∎
def E8(z d:Int)(ts:List Int):List Int:=(ts.flatMap λt=>EV t z d).foldl Hm []
def VI:∀{ts:List Int},(∀t∈ts,LN t z d)->z<=20*d->(ts.flatMap λt=>EV t z d).length<=21*ts.length
 |[],_,_=>Aw _|t::r,h,hz=>by
  rw[Lo,Bi,Fq];have h1:=VI (λy D=>h y (DK _ D)) hz;have h2:(EV t z d).length<=21:=by unfold EV;rw[Ph];exact AAj ∎ hz
  ∎
def xI{ts:List Int}(E:ts.length<=100000)(hW:∀t∈ts,LN t z d)(hz:z<=20*d):RQ [.l (ts.map .i),.i z,.i d]=AA (.n (.L ((((GU ((E8 z d ts).map Bk)).map λs=>(.t [.i s,.i (s+z)]:AN))).map .d))):=by
  have Z:=VI hW hz;have V:AY=16777216:=ES;unfold RQ;refine(Cg (by rfl)).trans ?_;unfold Uw;revert E hW hz Z V;lk;intro E hW hz Z V;refine JO (λl τ=>∃H A,τ=[AA (.d (.l (ts.map .i))),AA (.d (.i z)),AA (.d (.i d)),AA (.M ((E8 z d l).map Bk) (JZ (E8 z d l))),H,A]) ⟨AB,AB,rfl⟩ ?_ ?_
  . rintro l t r e _⟨H,A,rfl⟩;have N:=yJ (hW t ∎);have U:(l.flatMap λt=>EV t z d).length+(EV t z d).length<=2100000:=by∎
    refine⟨_,rfl,?_⟩;have I:E8 z d (l++[t])=(EV t z d).foldl Hm (E8 z d l):=by unfold E8;∎
    have Y:=ML (l.flatMap λt=>EV t z d) [] Ft;rw[I];have W:(E8 z d l).Nodup:=Y.1;have J:(E8 z d l).length<=(l.flatMap λt=>EV t z d).length:=by have:=Y.2.2;rw[Lp,Sh]at this;exact this
    clear Y I;generalize E8 z d l=bs at W J⊢;generalize EV t z d=ss at N U⊢;revert E hz Z V hW e W J U;lk;intro E hW hz Z V e W J U;refine QR (λm τ=>∃A,τ=[AA (.d (.l (ts.map .i))),AA (.d (.i z)),AA (.d (.i d)),AA (.M ((m.foldl Hm bs).map Bk) (JZ (m.foldl Hm bs))),AA (.d (.i t)),A]) ⟨A,rfl⟩ ?_ ?_
    . rintro m s r' R _⟨T,rfl⟩;obtain⟨a1,a2,O⟩:=ML m bs W;have P:m.length<=ss.length:=by∎
      refine⟨_,rfl,_,⟨AA (.d (.i s)),rfl⟩,.inl ?_⟩;rw[XC,Mc,gB];generalize m.foldl Hm bs=cs at a1 a2 O⊢;have B:(cs.map Bk:List AW).length=(JZ cs).length:=by unfold JZ;∎
      have C:(cs.map Bk:List AW).length<AY:=by rw[A4];∎
      unfold Hm;by_cases c:s∈cs
      . obtain⟨j,Q,S⟩:=Zy c;rw[AMu c];refine(AG8 (i:=3) (w:=.s (.b AD)) rfl rfl rfl rfl Q B C).trans ?_;show A8.nx [_,_,_,AA (.M _ ((JZ cs).set j (.d (.b AD)))),_,_]=_;rw[AAh]
      . rw[AMv c];refine(To (i:=3) (w:=.s (.b AD)) (k:=.inl s) rfl rfl rfl rfl (λh=>?_) B C).trans ?_;.∎
        . unfold JZ;rw[Cc,Cc];rfl
    ∎
  . rintro _⟨H,A,rfl⟩;have Y:=ML (ts.flatMap λt=>EV t z d) [] Ft;have J:(E8 z d ts).length<=21*ts.length:=by have:=Y.2.2;rw[Lp,Sh]at this;exact Cj this Z
    have G:∀k∈((E8 z d ts).map Bk:List AW),∃i,k=.inl i:=∎;have K:=(M6 G).2.2.2.2;rw[A4]at K;have N:Qe (.M ((E8 z d ts).map Bk) (JZ (E8 z d ts)))=_:=AIw rfl G;have F:(GU ((E8 z d ts).map Bk)).length<=AY:=by∎
    clear G K J Y Z hW E hz V;lk;rw[JV F (g:=λs=>.t [.i s,.i (s+z)]) (by intro y _;rfl)];rfl
def O8(so:AG):List BL->Int|[]=>0|x::xs=>V3 so x.1.2.2 (xs.map λi=>i.1.2.2)
def yU{k nm fd so:AG}{M:List BL}(hn:M≠[])(U:M.length<=AY)(J:so="count"\/so="sum"\/so="least"\/so="greatest"):VX [.t (.s k::.s nm::.s fd::.s so::r),.l (M.map DR)]=AA (.s (.i (O8 so M))):=by cases M with|nil=>∎|cons x xs=>have h:=yT (k:=k) (nm:=nm) (fd:=fd) (r:=r) (x:=(x.1.1,x.1.2.2,.t (x.2.map .i))) (xs:=xs.map λi=>(i.1.1,i.1.2.2,.t (i.2.map .i))) ∎ J;rw[Dw,Bj,Bj]at h;exact h
def NV(pl:Int)(nm so key:AG)(N:List BL)(w:Int×Int):AN:=.t [.i w.2,.i pl,.s key,.i w.1,.t [.s nm,.s key,.i w.1,.i w.2,.i (O8 so (N.filter (Fh w.1 w.2)))],.l ((N.filter (Fh w.1 w.2)).map DR)]
def yR{k nm fd so key:AG}{N:List BL}{ws:List (Int×Int)}(Y:LM N)(A:N.length<2^23)(hw:Oz [.t (.s k::.s nm::.s fd::.s so::r),.l ((N.map λi=>i.1.1).map .i)]=AA (.n (.L ((ws.map CI).map .d))))(W:ws.length<=AY)(Z:so="count"\/so="sum"\/so="least"\/so="greatest")(U:∀w∈ws,N.filter (Fh w.1 w.2)≠[]):VW [.i pl,.t (.s k::.s nm::.s fd::.s so::r),.s key,.l (N.map DR)]=AA (.n (.L ((ws.map (NV pl nm so key N)).map .d))):=by
  have V:=ES;have J:N.length<=AY:=by∎
  have H:=JV J (en:=DR) (k:=Il (GS 0) Qj (BW (A9 B9 (Ai 0) (Bg (CC (.s (.i 0)))))) [AB]) (by intro i _;rfl);rw[show(N.map λi=>AN.i i.1.1)=(N.map λi=>i.1.1).map .i by rw[Bj];rfl]at H;refine(Cg (by rfl)).trans ?_;unfold U8;revert Y A W Z U V J;lk;intro Y A W Z U V J;clear H hw;refine JO (en:=CI) (λl τ=>∃C E F,τ=[AA (.d (.i pl)),AA _,AA (.d (.s key)),AA _,AA (.L ((l.map (NV pl nm so key N)).map .d)),C,E,F]) ⟨AB,AB,AB,rfl⟩ ?_ ?_
  . rintro l w z e _⟨C,E,F,rfl⟩;have K:=Zk (a:=w.1) (b:=w.2) Y ∎;have I:(N.filter (Fh w.1 w.2)).length<=N.length:=JG ..;have M:=yU (k:=k) (nm:=nm) (fd:=fd) (so:=so) (r:=r) (U w ∎) ∎ Z;have B:((l.map (NV pl nm so key N)).map AU.d).length<AY:=by∎
    refine⟨_,rfl,_,⟨AA (.d (.i w.1)),AA (.d (.i w.2)),AA (.d (.l ((N.filter (Fh w.1 w.2)).map DR))),rfl⟩,.inl ?_⟩;have G:((l++[w]).map (NV pl nm so key N)).map AU.d=(l.map (NV pl nm so key N)).map AU.d++[.d (.t [.i w.2,.i pl,.s key,.i w.1,.t [.s nm,.s key,.i w.1,.i w.2,.i (O8 so (N.filter (Fh w.1 w.2)))],.l ((N.filter (Fh w.1 w.2)).map DR)])]:=by rw[Cc,Cc];rfl
    rw[G];generalize(l.map _).map AU.d=tl at B⊢;clear Y A W Z U V J e I G;lk
  . rintro _⟨C,E,F,rfl⟩;rfl
section
variable{w:Ba}
inductive Ao where|take(n k:AG)|only(n a:AG)(lo hi:Int)|turn(n a:AG)(f g:Int)|both(n a b:AG)|join(n a b:AG)(w:Int)|gap(n a so:AG)(m:Int)|each(n a so:AG)(z d:Int)
end
def Ao.nm:Ao->AG|.take n _|.only n _ _ _|.turn n _ _ _|.both n _ _|.join n _ _ _|.gap n _ _ _|.each n _ _ _ _=>n
def Ao.bx:Ao->List AG|.take _ _=>[]|.only _ a _ _|.turn _ a _ _|.gap _ a _ _|.each _ a _ _ _=>[a]|.both _ a b|.join _ a b _=>[a,b]
def Ao.br:Ao->Bool|.gap _ _ _ _|.each _ _ _ _ _=>AD|_=>AH
def Ao.D:Ao->AN|.take n k=>.t [.s "take",.s n,.s k]|.only n a lo hi=>.t [.s "only",.s n,.s a,.i lo,.i hi]|.turn n a f g=>.t [.s "turn",.s n,.s a,.i f,.i g]|.both n a b=>.t [.s "both",.s n,.s a,.s b]|.join n a b w=>.t [.s "join",.s n,.s a,.s b,.i w]|.gap n a so m=>.t [.s "gap",.s n,.s a,.s so,.i m]|.each n a so z d=>.t [.s "each",.s n,.s a,.s so,.i z,.i d]
abbrev BB:=Int×AG×AG×Int
def Ak(x:BB):AN:=.t [.i x.1,.s x.2.1,.s x.2.2.1,.i x.2.2.2]
def Rm(k:AG)(evs:List BB):List BL:=evs.zipIdx.flatMap λp=>if p.1.2.1=k then[((p.1.1,p.1.2.2.1,p.1.2.2.2),[(p.2:Int)])]else[]
noncomputable def Hr(evs:List BB)(D:AG->List BL):Ao->List BL|.take _ k=>Rm k evs|.only _ a lo hi=>(D a).filter λi=>Af (lo<=i.1.2.2)&&Af (i.1.2.2<=hi)|.turn _ a f g=>(D a).map λi=>((i.1.1,i.1.2.1,i.1.2.2*f+g),i.2)|.both _ a b=>D a++D b|.join _ a b w=>JX w (D a) (D b)|.gap _ a _ _|.each _ a _ _ _=>D a
def aP(evs:List BB)(D:AG->List BL):Ao->Prop|.take _ _=>evs.length<=AY|.only _ a _ _=>(D a).length<=AY|.turn _ a f _=>(D a).length<=AY/\-2^64<f/\f<2^64|.both _ a b=>(D a).length+(D b).length<=AY|.join _ a b w=>(D b).length<2^23/\(JX w (D a) (D b)).length<=AY/\∀i∈D a,∀j∈D b,i.2.length+j.2.length<1000|_=>True
noncomputable def NY(D:AG->List BL)(n:AG)(L:List BL):AG->List BL:=λa=>if a=n then L else D a
noncomputable def BJ(evs:List BB)(ss:List Ao):AG->List BL:=ss.foldl (λD s=>NY D s.nm (Hr evs D s)) λ_=>[]
def Vy{s:Ao}:BJ evs (ss++[s])=NY (BJ evs ss) s.nm (Hr evs (BJ evs ss) s):=by unfold BJ;∎
def xK{s:Ao}:Zp [s.D]=AA (.n (.L ((s.bx.map .s).map .d))):=by cases s<;>rfl
def AAg{evs:List BB}:(evs.zipIdx.flatMap (JE k))=(Rm k evs).map Be:=by unfold Rm;rw[AJW];congr 1;funext p;unfold JE;split<;>rfl
def KQ{α β:Type}{g:α->Option β}{p:α->Bool}{h:α->β}(e:∀x,g x=if p x=AD then AA (h x)else AB):∀l:List α,l.filterMap g=(l.filter p).map h|[]=>rfl|x::l=>by rw[SU,Nu,e x];cases p x with|true=>simp only[AM2,Dw,KQ e l]|false=>simp only[Q3,AM5,KQ e l]
def AAF{lo:Int}:∀{M:List BL},M.length<=AY->Es [(Ao.only n a lo hi).D,.l [.l (M.map Be)]]=AA (.n (.L (((M.filter λi=>Af (lo<=i.1.2.2)&&Af (i.1.2.2<=hi)).map Be).map .d))):=λ{M}J=>by have h:=yB (nm:=n) (fd:=a) (lo:=lo) (hi:=hi) (xs:=M.map λi=>(i.1.1,i.1.2.1,i.1.2.2,.t (i.2.map .i))) ∎;rw[Bj]at h;refine MI h ?_;congr 4;rw[AJN];refine KQ (λx=>?_) M;show(if lo<=x.1.2.2 then if x.1.2.2<=hi then AA (Be x)else AB else AB)=_;∎
def AAi{M:List BL}(J:M.length<=AY)(h1:-2^64<f)(h2:f<2^64):Es [(Ao.turn n a f g).D,.l [.l (M.map Be)]]=AA (.n (.L (((M.map λi=>(((i.1.1,i.1.2.1,i.1.2.2*f+g),i.2):BL)).map Be).map .d))):=by have h:=yC (nm:=.s n) (fd:=.s a) (c:=g) (xs:=M.map λi=>(i.1.1,i.1.2.1,i.1.2.2,.t (i.2.map .i))) ∎ h1 h2;rw[Bj]at h;refine MI h ?_;simp only[Bj];rfl
def Ot{s:Ao}(h:aP evs D s)(h1:∀n k,s≠.take n k)(h2:∀n a b w,s≠.join n a b w):∃w,Es [s.D,.l (s.bx.map λa=>.l ((D a).map Be))]=AA w/\w.d=AA (.l ((Hr evs D s).map Be)):=by cases s with|take n k=>∎|join n a b w=>∎|only n a lo hi=>exact⟨_,AAF h,KA⟩|turn n a f g=>exact⟨_,AAi h.1 h.2.1 h.2.2,KA⟩|both n a b=>refine⟨_,yA (by rw[A4,A4];exact h),?_⟩;rw[<-Cc];exact KA|gap n a so m=>exact⟨_,rfl,rfl⟩|each n a so z d=>exact⟨_,rfl,rfl⟩
def aX:((BO "join"=BO "take")=False)/\((BO "only"=BO "take")=False)/\((BO "turn"=BO "take")=False)/\((BO "both"=BO "take")=False)/\((BO "gap"=BO "take")=False)/\((BO "each"=BO "take")=False)/\((BO "only"=BO "join")=False)/\((BO "turn"=BO "join")=False)/\((BO "both"=BO "join")=False)/\((BO "gap"=BO "join")=False)/\((BO "each"=BO "join")=False):=⟨AMx (by decide+kernel),AMx (by decide+kernel),AMx (by decide+kernel),AMx (by decide+kernel),AMx (by decide+kernel),AMx (by decide+kernel),AMx (by decide+kernel),AMx (by decide+kernel),AMx (by decide+kernel),AMx (by decide+kernel),AMx (by decide+kernel)⟩
structure ZX(evs:List BB)(ss:List Ao):Prop where
 ba:ss.length<AY
 nd:(ss.map Ao.nm).Nodup
 fd:∀l s r,ss=l++s::r->∀a∈s.bx,a∈l.map Ao.nm
 ok:∀l s r,ss=l++s::r->aP evs (BJ evs l) s
def Eu(evs:List BB)(J:AG->List BL)(a:AG):AN:=.l ((J a).map Be)
def AAY{l:List Ao}{s:Ao}(h:s.nm∉l.map Ao.nm):((l++[s]).map Ao.nm).map (Eu evs (BJ evs (l++[s])))=(l.map Ao.nm).map (Eu evs (BJ evs l))++[.l ((Hr evs (BJ evs l) s).map Be)]:=by
 rw[Cc,Cc,Vy];congr 1
 . refine Ie λa D=>?_;unfold Eu NY;∎
 . unfold Eu NY;∎
def AAJ{l:List Ao}{s:Ao}{ds:List AN}{w:Ab}(J:ds=(l.map Ao.nm).map (Eu evs (BJ evs l)))(h:s.nm∉l.map Ao.nm)(hw:w.d=AA (.l ((Hr evs (BJ evs l) s).map Be))):DM (ds.map .d++[w.t])=AA (((l++[s]).map Ao.nm).map (Eu evs (BJ evs (l++[s])))):=by rw[AAY h,<-J];refine nV UN ?_;show(w.t.fg).bind _=_;rw[show w.t.fg=_ from hw];rfl
def yK{evs:List BB}{ss:List Ao}(h:ZX evs ss):∃l,VT [.l (ss.map Ao.D),.l (evs.map Ak)]=AA (.n (.M ((ss.map Ao.nm).map BV) l))/\DM l=AA ((ss.map Ao.nm).map (Eu evs (BJ evs ss))):=by
  have X:VT [.l (ss.map Ao.D),.l (evs.map Ak)]=EK (Q9.1 _):=Cg (by rfl);rw[X];clear X;unfold Q9;revert h;lk;intro h;refine Tt (λr=>∃l,r=AA (.n (.M ((ss.map Ao.nm).map BV) l))/\DM l=AA ((ss.map Ao.nm).map (Eu evs (BJ evs ss)))) (λl τ=>∃m P K,DM m=AA ((l.map Ao.nm).map (Eu evs (BJ evs l)))/\τ=[AA (.d (.l (ss.map Ao.D))),AA (.d (.l (evs.map Ak))),AA (.M ((l.map Ao.nm).map BV) m),P,K]) ⟨[],AB,AB,rfl,rfl⟩ ?_ ?_
  . rintro l s r e _⟨m,P,K,I,rfl⟩;have Z:=h.fd l s r e;have U:=h.ok l s r e;have F:s.nm∉l.map Ao.nm:=λhc=>by have:=h.nd;∎
    have E:l.length<AY:=by have:=h.ba;∎
    refine⟨_,rfl,?_⟩;generalize V:(l.map Ao.nm).map (Eu evs (BJ evs l))=ds at I;have Y:ds.length=l.length:=by rw[<-V,A4,A4]
    have A:((l.map Ao.nm).map BV:List AW).length=(ds.map AU.d).length:=by rw[A4,A4,A4,Y]
    have C:((l.map Ao.nm).map BV:List AW).length<AY:=by rw[A4,A4];exact E
    have B:(.inr s.nm:AW)∉((l.map Ao.nm).map BV:List AW):=∎;have O:∀(fi:AM->Option (List AN))G,fi [AA (.d (.l (ss.map Ao.D))),AA (.d (.l (evs.map Ak))),AA (.M ((l.map Ao.nm).map BV) (ds.map .d)),AA (.d s.D),K]=AA (s.bx.map .s)->D1 (Yl 2 (Ir 4 (Qn 2 fi)) ([AA (.d (.l (ss.map Ao.D))),AA (.d (.l (evs.map Ak))),AA (.M ((l.map Ao.nm).map BV) m),AA (.d s.D),K])) G=G [AA (.d (.l (ss.map Ao.D))),AA (.d (.l (evs.map Ak))),AA (.M ((l.map Ao.nm).map BV) (ds.map .d)),AA (.d s.D),AA (.L ((s.bx.map (Eu evs (BJ evs l))).map .d))]:=λfi G c=>by
      have S:M3 2 [AA (.d (.l (ss.map Ao.D))),AA (.d (.l (evs.map Ak))),AA (.M ((l.map Ao.nm).map BV) m),AA (.d s.D),K]=[AA (.d (.l (ss.map Ao.D))),AA (.d (.l (evs.map Ak))),AA (.M ((l.map Ao.nm).map BV) (ds.map .d)),AA (.d s.D),K]:=AHr rfl I;have x:Tj (AA (.M ((l.map Ao.nm).map BV) (ds.map .d))) (AA (s.bx.map .s))=AA (.n (.L ((s.bx.map (Eu evs (BJ evs l))).map .d))):=AG2 rfl (by
        have:s.bx.length<=2:=by cases s<;>simp[Ao.bx]
        have:AY=16777216:=ES;∎) λa u=>⟨.inr a,rfl,by have q:=OV (h:=BV) (v:=λa=>AU.d (Eu evs (BJ evs l) a)) QU (Z a u);have j:((l.map Ao.nm).map (Eu evs (BJ evs l))).map AU.d=(l.map Ao.nm).map λa=>AU.d (Eu evs (BJ evs l) a):=Bj;rw[<-V,j];exact q⟩;generalize s.D=sD at S c⊢;clear I Z U F E V Y A C B e h;lk
    have fin:∀(w:Ab)(x4':Option AU),w.d=AA (.l ((Hr evs (BJ evs l) s).map Be))->∀(p:AM->Option AU)(f:AM->Option Ab)(sl:Option AU),(p [AA (.d (.l (ss.map Ao.D))),AA (.d (.l (evs.map Ak))),AA (.M ((l.map Ao.nm).map BV) (ds.map .d)),AA (.d s.D),sl]).bind AU.gb=AA (.inr s.nm)->f _=AA w->∃J,(∃m P K,DM m=AA (((l++[s]).map Ao.nm).map (Eu evs (BJ evs (l++[s]))))/\J=[AA (.d (.l (ss.map Ao.D))),AA (.d (.l (evs.map Ak))),AA (.M (((l++[s]).map Ao.nm).map BV) m),P,K])/\IG (Mx 2) p f _=.nx J:=λw _ hw p f sl y X=>by refine⟨_,⟨ds.map .d++[w.t],AA (.d s.D),sl,AAJ V.symm F hw,rfl⟩,?_⟩;rw[To (i:=2) rfl rfl y X B A C,Cc,Cc];rfl
    have R:=aX;have key:∃J,(∃m P K,DM m=AA (((l++[s]).map Ao.nm).map (Eu evs (BJ evs (l++[s]))))/\J=[AA (.d (.l (ss.map Ao.D))),AA (.d (.l (evs.map Ak))),AA (.M (((l++[s]).map Ao.nm).map BV) m),P,K])/\(KC (DZ (A9 (Cm AH) (A9 B9 (Ai 3) (Bg (CC (.s (.i 0))))) (Bg (CC (.s (.s "take")))))) (IG (Mx 2) (Bg (DP FP (BU (BW (Ai 3)) C9))) (DP NM (BU (BW (Ai 3)) (BU (BW (Ai 1)) C9)))) (KC (DZ (A9 (Cm AH) (A9 B9 (Ai 3) (Bg (CC (.s (.i 0))))) (Bg (CC (.s (.s "join")))))) (KD [4] (IG (Mx 2) (Bg (DP FP (BU (BW (Ai 3)) C9))) (DP NL (BU (BW (A9 B9 (Ai 3) (Bg (CC (.s (.i 4)))))) (BU (BW (Ai 4)) C9))))) (KD [4] (IG (Mx 2) (Bg (DP FP (BU (BW (Ai 3)) C9))) (DP Es (BU (BW (Ai 3)) (BU (BW (Ai 4)) C9))))))) [AA (.d (.l (ss.map Ao.D))),AA (.d (.l (evs.map Ak))),AA (.M ((l.map Ao.nm).map BV) (ds.map .d)),AA (.d s.D),AA (.L ((s.bx.map (Eu evs (BJ evs l))).map .d))]=.nx J:=by cases s with
      |take n k=> obtain⟨w,Q,hw⟩:∃w,NM [.t [.s "take",.s n,.s k],.l (evs.map Ak)]=AA w/\w.d=AA (.l ((Rm k evs).map Be)):=⟨_,yM U,by rw[AAg];exact KA⟩;have N:FP [.t [.s "take",.s n,.s k]]=AA (.s (.s n)):=rfl;obtain⟨J,h2,H⟩:=fin w AB hw (Bg (DP FP (BU (BW (Ai 3)) C9))) (DP NM (BU (BW (Ai 3)) (BU (BW (Ai 1)) C9))) (AA (.L [])) (by rfl) (by show DP NM (BU (BW (Ai 3)) (BU (BW (Ai 1)) C9)) [_,_,_,AA (.d (.t [.s "take",.s n,.s k])),_]=_;clear fin hw U R N O I Z F E V Y A C B e h;lk);refine⟨J,h2,MI ?_ H⟩;rfl|only n a lo hi=> obtain⟨w,Q,hw⟩:∃w,Es [.t [.s "only",.s n,.s a,.i lo,.i hi],.l [.l ((BJ evs l a).map Be)]]=AA w/\w.d=AA (.l ((Hr evs (BJ evs l) (.only n a lo hi)).map Be)):=Ot (s:=.only n a lo hi) U (λ_ _ e=>nomatch e) (λ_ _ _ _ e=>nomatch e);have N:FP [.t [.s "only",.s n,.s a,.i lo,.i hi]]=AA (.s (.s n)):=rfl;obtain⟨J,h2,H⟩:=fin w AB hw (Bg (DP FP (BU (BW (Ai 3)) C9))) (DP Es (BU (BW (Ai 3)) (BU (BW (Ai 4)) C9))) (AA (.d (.l [.l ((BJ evs l a).map Be)]))) (by rfl) (by show DP Es (BU (BW (Ai 3)) (BU (BW (Ai 4)) C9)) [_,_,_,AA (.d (.t [.s "only",.s n,.s a,.i lo,.i hi])),_]=_;clear fin hw U R N O I Z F E V Y A C B e h;lk);refine⟨J,h2,MI ?_ H⟩;rfl|turn n a f g=> obtain⟨w,Q,hw⟩:∃w,Es [.t [.s "turn",.s n,.s a,.i f,.i g],.l [.l ((BJ evs l a).map Be)]]=AA w/\w.d=AA (.l ((Hr evs (BJ evs l) (.turn n a f g)).map Be)):=Ot (s:=.turn n a f g) U (λ_ _ e=>nomatch e) (λ_ _ _ _ e=>nomatch e);have N:FP [.t [.s "turn",.s n,.s a,.i f,.i g]]=AA (.s (.s n)):=rfl;obtain⟨J,h2,H⟩:=fin w AB hw (Bg (DP FP (BU (BW (Ai 3)) C9))) (DP Es (BU (BW (Ai 3)) (BU (BW (Ai 4)) C9))) (AA (.d (.l [.l ((BJ evs l a).map Be)]))) (by rfl) (by show DP Es (BU (BW (Ai 3)) (BU (BW (Ai 4)) C9)) [_,_,_,AA (.d (.t [.s "turn",.s n,.s a,.i f,.i g])),_]=_;clear fin hw U R N O I Z F E V Y A C B e h;lk);refine⟨J,h2,MI ?_ H⟩;rfl|both n a b=> obtain⟨w,Q,hw⟩:∃w,Es [.t [.s "both",.s n,.s a,.s b],.l [.l ((BJ evs l a).map Be),.l ((BJ evs l b).map Be)]]=AA w/\w.d=AA (.l ((Hr evs (BJ evs l) (.both n a b)).map Be)):=Ot (s:=.both n a b) U (λ_ _ e=>nomatch e) (λ_ _ _ _ e=>nomatch e);have N:FP [.t [.s "both",.s n,.s a,.s b]]=AA (.s (.s n)):=rfl;obtain⟨J,h2,H⟩:=fin w AB hw (Bg (DP FP (BU (BW (Ai 3)) C9))) (DP Es (BU (BW (Ai 3)) (BU (BW (Ai 4)) C9))) (AA (.d (.l [.l ((BJ evs l a).map Be),.l ((BJ evs l b).map Be)]))) (by rfl) (by show DP Es (BU (BW (Ai 3)) (BU (BW (Ai 4)) C9)) [_,_,_,AA (.d (.t [.s "both",.s n,.s a,.s b])),_]=_;clear fin hw U R N O I Z F E V Y A C B e h;lk);refine⟨J,h2,MI ?_ H⟩;rfl|join n a b v=> obtain⟨w,Q,hw⟩:∃w,NL [.i v,.l [.l ((BJ evs l a).map Be),.l ((BJ evs l b).map Be)]]=AA w/\w.d=AA (.l ((JX v (BJ evs l a) (BJ evs l b)).map Be)):=⟨_,xO U.1 U.2.1 U.2.2,KA⟩;have N:FP [.t [.s "join",.s n,.s a,.s b,.i v]]=AA (.s (.s n)):=rfl;obtain⟨J,h2,H⟩:=fin w AB hw (Bg (DP FP (BU (BW (Ai 3)) C9))) _ (AA (.d (.l [.l ((BJ evs l a).map Be),.l ((BJ evs l b).map Be)]))) (by rfl) (by show DP NL (BU (BW (A9 B9 (Ai 3) (Bg (CC (.s (.i 4)))))) (BU (BW (Ai 4)) C9)) [_,_,_,AA (.d (.t [.s "join",.s n,.s a,.s b,.i v])),_]=_;clear fin hw U R N O I Z F E V Y A C B e h;lk);refine⟨J,h2,MI ?_ H⟩;rfl|gap n a so v=> obtain⟨w,Q,hw⟩:∃w,Es [.t [.s "gap",.s n,.s a,.s so,.i v],.l [.l ((BJ evs l a).map Be)]]=AA w/\w.d=AA (.l ((Hr evs (BJ evs l) (.gap n a so v)).map Be)):=Ot (s:=.gap n a so v) U (λ_ _ e=>nomatch e) (λ_ _ _ _ e=>nomatch e);have N:FP [.t [.s "gap",.s n,.s a,.s so,.i v]]=AA (.s (.s n)):=rfl;obtain⟨J,h2,H⟩:=fin w AB hw (Bg (DP FP (BU (BW (Ai 3)) C9))) (DP Es (BU (BW (Ai 3)) (BU (BW (Ai 4)) C9))) (AA (.d (.l [.l ((BJ evs l a).map Be)]))) (by rfl) (by∎);refine⟨J,h2,MI ?_ H⟩;rfl|each n a so z d=> obtain⟨w,Q,hw⟩:∃w,Es [.t [.s "each",.s n,.s a,.s so,.i z,.i d],.l [.l ((BJ evs l a).map Be)]]=AA w/\w.d=AA (.l ((Hr evs (BJ evs l) (.each n a so z d)).map Be)):=Ot (s:=.each n a so z d) U (λ_ _ e=>nomatch e) (λ_ _ _ _ e=>nomatch e);obtain⟨J,h2,H⟩:=fin w AB hw (Bg (DP FP (BU (BW (Ai 3)) C9))) (DP Es (BU (BW (Ai 3)) (BU (BW (Ai 4)) C9))) (AA (.d (.l [.l ((BJ evs l a).map Be)]))) (by rfl) (by∎);refine⟨J,h2,MI ?_ H⟩;rfl
    obtain⟨J,h2,H⟩:=key;refine⟨J,h2,.inl ((O _ _ ?_).trans H)⟩;have o:=@xK s;generalize s.D=sD at o⊢;clear O fin I Z U F E V Y A C B e h h2 H R;lk
  . rintro _⟨m,P,K,I,rfl⟩;exact⟨m,rfl,I⟩
def xN{s:Ao}:Zq [s.D]=AA (.s (.b s.br)):=by cases s<;>rfl
def IV(ss:List Ao):List Nat:=ss.zipIdx.filterMap λp=>if p.1.br=AD then AA p.2 else AB
def yO{ss:List Ao}(V:ss.length<=AY):Zs [.l (ss.map Ao.D)]=AA (.n (.L (((IV ss).map λn:Nat=>.i (n:Int)).map .d))):=by
 refine(Cg (by rfl)).trans ?_;unfold U6;have J:ss.zipIdx.length<=AY:=by simp_all
 lk;rw[JA J (g:=λp=>if p.1.br=AD then AA (.i (p.2))else AB) (by intro p _;have U:=@xN p.1;lk)];have e:(ss.zipIdx.filterMap λp=>if p.1.br=AD then AA (AN.i (p.2))else AB)=(IV ss).map λn:Nat=>AN.i (n):=by unfold IV;∎
 rw[e];rfl
def Ao.jc:Ao->AG|.gap _ _ so _|.each _ _ so _ _=>so|_=>""
def Ao.fd:Ao->AG|.gap _ a _ _|.each _ a _ _ _=>a|_=>""
def Nd:Ao->List Int->List (Int×Int)|.gap _ _ _ m,ts=>(ts.foldl (Fg m) []).map λp=>(p.1,p.2+m+1)|.each _ _ _ z d,ts=>(GU ((E8 z d ts).map Bk)).map λs=>(s,s+z)|_,_=>[]
def IW:Ao->Prop|.gap _ _ so m=>0<=m/\(so="count"\/so="sum"\/so="least"\/so="greatest")|.each _ _ so z d=>(1<=d/\d<=1000000/\d<=z/\z<=1000000/\z<=20*d)/\(so="count"\/so="sum"\/so="least"\/so="greatest")|_=>False
def Hl(ts:List Int):Prop:=∀t∈ts,0<=t/\t<=2000000000
def bA{ts:List Int}(U:IW s)(V:Hl ts):(Nd s ts).length<=21*ts.length:=by cases s with|gap n a so m=>have h:=RX (most:=m) (ts:=ts) (ps:=[]);show(Kl _ _).length<=_;∎|each n a so z d=>obtain⟨⟨Z,A,B,C,E⟩,_⟩:=U;have hW:∀t∈ts,LN t z d:=λt h=>⟨Z,A,B,C,(V t h).1,(V t h).2⟩;have W:=VI hW E;have D:=(ML (ts.flatMap λt=>EV t z d) [] Ft).2.2;rw[Lp,Sh]at D;have Y:∀k∈((E8 z d ts).map Bk:List AW),∃i,k=.inl i:=∎;have J:=(M6 Y).2.2.2.2;rw[A4]at J;show(Kl _ _).length<=_;rw[A4,J];exact Cj D W|_=>exact U.elim
def yZ{s:Ao}{ts:List Int}(D:IW s)(U:ts.length<=100000)(J:Hl ts):Oz [s.D,.l (ts.map .i)]=AA (.n (.L (((Nd s ts).map CI).map .d))):=by have V:=ES;cases s with|gap n a so m=>refine(yY (ws:=[]) (xM ∎)).trans ?_;show _=AA (Ab.n (.L ((((ts.foldl _ []).map _).map _).map _)));rw[Bj (g:=CI)];rfl|each n a so z d=>obtain⟨⟨Y,Z,A,B,C⟩,_⟩:=D;refine(yX (ws:=[]) (xI U (λt h=>⟨Y,Z,A,B,(J t h).1,(J t h).2⟩) C)).trans ?_;show _=AA (Ab.n (.L ((((GU _).map _).map _).map _)));rw[Bj (g:=CI)];rfl|_=>exact D.elim
abbrev DD:=Int×Nat×AG×Int
def D6(q:DD):List AW:=[.inl q.1,.inl (q.2.1:Int),.inr q.2.2.1,.inl q.2.2.2]
noncomputable def Cw(evs:List BB)(ss:List Ao)(s:Ao):List BL:=Fl (BJ evs ss s.fd)
noncomputable def EU(evs:List BB)(ss:List Ao)(q:DD):AN:=match ss[q.2.1]? with|AA s=>NV (q.2.1:Int) s.nm s.jc q.2.2.1 (Cp (Cw evs ss s) q.2.2.1) (q.2.2.2,q.1)|AB=>.n
def Ht(N:List BL):List Int:=N.map λi=>i.1.1
noncomputable def GZ(evs:List BB)(ss:List Ao)(p:Nat)(s:Ao)(z:AG):List DD:=(Nd s (Ht (Cp (Cw evs ss s) z))).map λw=>(w.2,p,z,w.1)
noncomputable def FQ(evs:List BB)(ss:List Ao)(p:Nat):List DD:=match ss[p]? with|AA s=>(Br (Cw evs ss s)).flatMap (GZ evs ss p s)|AB=>[]
noncomputable def G1(evs:List BB)(ss:List Ao):List DD:=(IV ss).flatMap (FQ evs ss)
section
variable{w:Ba}
structure NI(evs:List BB)(ss:List Ao):Prop where
 qx:ZX evs ss
 ok:∀(p:Nat)s,ss[p]?=AA s->s.br=AD->IW s/\s.fd∈ss.map Ao.nm/\(BJ evs ss s.fd).length<=100000/\Hl (Ht (BJ evs ss s.fd))ne:∀(p:Nat)s,ss[p]?=AA s->s.br=AD->∀z∈Br (Cw evs ss s),∀w∈Nd s (Ht (Cp (Cw evs ss s) z)),(Cp (Cw evs ss s) z).filter (Fh w.1 w.2)≠[]ba:(G1 evs ss).length<=AY
end
def Nc(h:p∈IV ss):∃s,ss[p]?=AA s/\s.br=AD:=by obtain⟨⟨s,i⟩,h1,h2⟩:=Sa.mp h;∎
def ZY{s:Ao}(h:s.br=AD):∃k r,s.D=.t (.s k::.s s.nm::.s s.fd::.s s.jc::r):=by cases s<;>first|exact⟨_,_,rfl⟩|cases h
def aR{s:Ao}(h:IW s):s.jc="count"\/s.jc="sum"\/s.jc="least"\/s.jc="greatest":=by cases s<;>first|exact h.2|exact h.elim
def yN(h:NI evs ss){p:Nat}(J:ss[p]?=AA s)(U:s.br=AD)(hz:z∈Br (Cw evs ss s)):VW [.i (p:Int),s.D,.s z,.l ((Cp (Cw evs ss s) z).map DR)]=AA (.n (.L (((GZ evs ss p s z).map (EU evs ss)).map .d))):=by
 obtain⟨h1,h2,E,Z⟩:=h.ok p s J U;obtain⟨k,r,Y⟩:=ZY U;have C:=ES;have D:(Cw evs ss s).Perm _:=HH;have F:=by have A:(Cp _ z).length<=(Cw evs ss s).length:=JG ..;rw[D.length_eq]at A;omega
 have V:Hl (Ht (Cp _ z)):=λt h=>by obtain⟨i,hi,rfl⟩:=B8.mp h;exact Z _ (B8.mpr ⟨i,D.mem_iff.mp (Ea.mp hi).1,rfl⟩)
 have hw:=yZ h1 (by unfold Ht;grind) V;have W:=bA h1 V;unfold Ht at W;rw[A4]at W;rw[Y]at hw⊢;have B:LM (Cp (Cw evs ss s) z):=V1 V0 AEq;refine(yR B (by omega) hw (by unfold Ht;omega) (aR h1) (h.ne p s J U z hz)).trans ?_;unfold GZ;rw[Bj (g:=EU _ ss)];congr 4;refine Ie λw _=>?_;show _=EU _ ss _;unfold EU;simp only[J]
def yQ{evs:List BB}{ss:List Ao}(h:NI evs ss)(W:((G1 evs ss).map D6).Nodup):VU [.l (ss.map Ao.D),.l (evs.map Ak)]=AA (.n (.L (((Dz D6 (G1 evs ss)).map (EU evs ss)).map .d))):=by
  obtain⟨l,hS,v⟩:=yK h.qx;have hT:=yO (ss:=ss) (Nx h.qx.ba);have hM:(AU.M ((ss.map Ao.nm).map BV) l).fg=AA (.m ((ss.map Ao.nm).map BV) ((ss.map Ao.nm).map (Eu evs (BJ evs ss)))):=by show(DM l).map _=_;rw[v];rfl
  unfold VU;refine(Cg (by rfl)).trans ?_;unfold U7;have O:=h.ba;have E:G1 evs ss=(IV ss).flatMap (FQ evs ss):=rfl;revert h W O E;clear v;lk;intro h W O E;clear hS hT hM;generalize H:((ss.map Ao.nm).map BV:List AW)=ks;generalize G:(ss.map Ao.nm).map (Eu evs (BJ evs ss))=dd;refine JO (λl τ=>∃o t K,τ=[AA (.d (.l (ss.map Ao.D))),AA (.d (.l (evs.map Ak))),AA (.d (.m ks dd)),AA (.L (((l.flatMap (FQ evs ss)).map (EU evs ss)).map .d)),o,t,K]) ⟨AB,AB,AB,rfl⟩ ?_ ?_
  . rintro l p r e _⟨o,t,K,rfl⟩;refine⟨_,rfl,?_⟩;obtain⟨s,I,X⟩:=Nc (p:=p) (by rw[e];exact Dl _ (B7 ..));obtain⟨h1,h2,y,h4⟩:=h.ok p s I X;have j:AY=16777216:=ES;have b:CJ (ss.map Ao.D) (p:Int)=AA s.D:=by rw[Gv,Ca,I];rfl
    obtain⟨k,rr,u⟩:=ZY X;have c:J5 (.d (.m ks dd)) (.d (.s s.fd))=AA (.d (.l ((BJ evs ss s.fd).map Be))):=by refine X1 (k:=.inr s.fd) rfl rfl ?_;have x:((ss.map Ao.nm).map (Eu evs (BJ evs ss))).map AU.d=(ss.map Ao.nm).map _:=Bj;rw[<-H,<-G,x];exact OV (h:=BV) QU h2
    have P:Ox _=AA (.n (.M ((Br (Cw evs ss s)).map BV) ((Br (Cw evs ss s)).map (Ga (Cw evs ss s))))):=Zl ∎;have V:∀z∈Br (Cw evs ss s),_:=λz hz=>yN h I X hz;have F:FQ evs ss p=(Br (Cw evs ss s)).flatMap (GZ evs ss p s):=by unfold FQ;rw[I]
    have Y:(l.flatMap (FQ evs ss)).length+((Br (Cw evs ss s)).flatMap (GZ evs ss p s)).length<=AY:=by rw[E,e,Pn,Lo,Bi,Bi,F]at O;∎
    have U:((l++[p]).flatMap (FQ evs ss)).map (EU evs ss)=(l.flatMap (FQ evs ss)).map (EU evs ss)++((Br (Cw evs ss s)).flatMap (GZ evs ss p s)).map (EU evs ss):=by rw[Pn,Lo,gA,Ek,Cc,F]
    rw[U];have J:((l.flatMap (FQ evs ss)).map (EU evs ss)).length+((Br (Cw evs ss s)).flatMap (GZ evs ss p s)).length<=AY:=by rw[A4];exact Y
    generalize(l.flatMap (FQ evs ss)).map (EU evs ss)=tl at J⊢;generalize Cw evs ss s=S at P V J⊢;rw[u]at b V;clear U F Y h h1 h2 y h4 e I X j H G O E W u;revert V J;have C:∀(A B:AM->A8)(τ N:AM),A τ=.nx N->Gr A B τ=B N:=λA B τ N e=>by show D1 _ _=_;rw[e];rfl
    intro V J;rw[C _ _ _ [AA (.d (.l (ss.map Ao.D))),AA (.d (.l (evs.map Ak))),AA (.d (.m ks dd)),AA (.L (tl.map .d)),AA (.d (.i (p:Int))),AA (.M ((Br S).map BV) ((Br S).map (Ga S))),K] (by lk)];rw[AHD rfl (UM λz _=>aH),Bj (g:=Em)];refine QR (en:=AN.s) (xs:=Br S) (λm τ=>∃K,τ=[AA (.d (.l (ss.map Ao.D))),AA (.d (.l (evs.map Ak))),AA (.d (.m ks dd)),AA (.L ((tl++(m.flatMap (GZ evs ss p s)).map (EU evs ss)).map .d)),AA (.d (.i (p:Int))),AA _,K]) ⟨K,by rw[gA,Po,Ek];rfl⟩ ?_ ?_
    . rintro m z r' a _⟨y6,rfl⟩;have hz:z∈Br S:=by rw[a];exact Dl _ (B7 ..)
      have f:=V z hz;have hdz:J5 (.d (.m ((Br S).map BV) ((Br S).map (LU S)))) (.d (.s z))=AA (.d (.l ((Cp S z).map DR))):=by refine X1 (k:=.inr z) rfl rfl ?_;rw[Bj];exact OV (h:=BV) QU hz
      refine⟨_,rfl,_,⟨AA (.d (.s z)),rfl⟩,.inl ?_⟩;have Q:((tl++(m.flatMap (GZ evs ss p s)).map (EU evs ss)).map AU.d).length+((GZ evs ss p s z).map (EU evs ss)).length<=AY:=by rw[a,Pn,Lo,Bi,Bi]at J;rw[A4,Bi,A4,A4];∎
      have U:(tl++((m++[z]).flatMap (GZ evs ss p s)).map (EU evs ss)).map AU.d=(tl++(m.flatMap (GZ evs ss p s)).map (EU evs ss)).map AU.d++((GZ evs ss p s z).map (EU evs ss)).map AU.d:=by simp
      rw[U];generalize(tl++(m.flatMap (GZ evs ss p s)).map (EU evs ss)).map AU.d=ul at Q⊢;generalize(GZ evs ss p s z).map (EU evs ss)=vl at f Q⊢;clear U hz V J a C c P;lk
    . rintro _⟨y6,rfl⟩;exact⟨_,_,_,rfl⟩
  . rintro _⟨o,t,K,rfl⟩;rw[<-E];have hB:=uV (en:=EU evs ss) (ky:=D6) (xs:=G1 evs ss) lS (λq Z=>?_) [AD,AD,AH,AD] (by decide) (λq _=>rfl) W
    . clear h W O E H G;lk
    . rw[E]at Z;obtain⟨p,I,Z⟩:=Km.mp Z;obtain⟨s,R,X⟩:=Nc I;unfold FQ at Z;rw[R]at Z;obtain⟨z,hz,Z⟩:=Km.mp Z;obtain⟨w,hw,rfl⟩:=B8.mp Z;unfold EU;simp only[R];rfl
noncomputable def Na(evs:List BB)(ss:List Ao)(q:DD):AN:=match ss[q.2.1]? with|AA s=>.t [.s s.nm,.s q.2.2.1,.i q.2.2.2,.i q.1,.i (O8 s.jc ((Cp (Cw evs ss s) q.2.2.1).filter (Fh q.2.2.2 q.1)))]|AB=>.n
def yS{evs:List BB}{ss:List Ao}(h:NI evs ss)(W:((G1 evs ss).map D6).Nodup):Oy [.l (ss.map Ao.D),.l (evs.map Ak)]=AA (.n (.L (((Dz D6 (G1 evs ss)).map (Na evs ss)).map .d))):=by
 have Z:=yQ h W;have U:(Dz D6 (G1 evs ss)).length<=AY:=by rw[HH.length_eq];exact h.ba
 have V:∀q∈Dz D6 (G1 evs ss),∃a b c d e,EU _ ss q=.t [a,b,c,d,Na _ ss q,e]:=λq D=>by rw[HH.mem_iff]at D;obtain⟨p,Y,D⟩:=Km.mp D;obtain⟨s,J,A⟩:=Nc Y;unfold FQ at D;rw[J]at D;obtain⟨z,hz,D⟩:=Km.mp D;obtain⟨w,hw,rfl⟩:=B8.mp D;refine⟨.i w.2,.i (p),.s z,.i w.1,.l (((Cp (Cw evs ss s) z).filter (Fh w.1 w.2)).map DR),?_⟩;unfold EU Na;simp only[J];rfl
 refine(Cg (by rfl)).trans ?_;unfold RA;revert U V;lk;intro U V;rw[JV U (g:=Na evs ss) (by intro q D;obtain⟨a,b,c,d,e,D⟩:=V q D;lk)];rfl
noncomputable def VC:CO ["_law_base","_law_cell","_law_many","_law_plan","_law_one","_law_other","_law_ways"] "_law_joined_plan" 33 52 ["_law_base","_law_cell","_law_many"] 2:=⟨_,⟨CA,rfl⟩,λT J _ _ _ _ _ _ _ D=>(Ag (Ay 3 J (CL (AK (CM (AK BA (AK (BD (IM.c (f:=Gz) T) D (AK (AS (AE 0)) (AK AO (AK BA AZ)))) (AK (BD (NG.c (f:=NP) T) D (AK (AS (AE 0)) (AK AO AZ))) AZ)))) AZ))) (Ag (GB (Di 3) (CM (AK BA (AK (BD (IM.c (f:=Gz) T) D (AK (AS (AE 0)) (AK AO (AK BA AZ)))) (AK (BD (NG.c (f:=NP) T) D (AK (AS (AE 0)) (AK AO AZ))) AZ))))) (Ag (AIa 4 5 J (AK (AS (Ac (Ac (AE 3) (AF AO)) (AF AO))) (AK (AS (Ac (Ac (AE 3) (AF AO)) (AF AO))) AZ))) (Ag (GB (Di 3) (CM (AK BA (AK (BD (IM.c (f:=Gz) T) D (AK (AS (AE 0)) (AK AO (AK BA AZ)))) (AK (AS (AE 4)) (AK (AS (Ac (AF (CL (AK (AS (AE 4)) (AK (AS (AE 5)) AZ)))) (AF (Bb (AF (B0 (AE 1) (AF AO))) (AF AO))))) (AK (Bb (AE 1) (AF AO)) AZ))))))) (Ag (GB (Di 3) (CM (AK BA (AK (BD (IM.c (f:=Gz) T) D (AK (AS (AE 0)) (AK AO (AK BA AZ)))) (AK (AS (AE 5)) (AK (AS (AE 4)) (AK (Bb (AF (B0 (AE 1) (AF AO))) (AF AO)) AZ))))))) (Ag (Bo (Ob (AE 2) (AF AO)) (Ag (Ay 6 J (AS (Ac (AF (CL (AK (CM (AK (AS (Ac (Ac (AE 3) (AF AO)) (AF AO))) (AK (AS (AE 5)) AZ))) (AK (CM (AK (AS (AE 4)) (AK (AS (Ac (Ac (AE 3) (AF AO)) (AF AO))) AZ))) AZ)))) (AF (Bb (AF (B0 (AE 1) (AF AO))) (AF AO)))))) (An (GB (Di 3) (BN (AF (BN (AF (CM (AK BA (AK (BD (IM.c (f:=Gz) T) D (AK (AS (AE 0)) (AK AO (AK BA AZ)))) AZ)))) (AE 6))) (AF (CM (AK (Bb (AF (B0 (AE 1) (AF AO))) (AF AO)) AZ))))))) B6) (An (Hi 3))))))))⟩
noncomputable def VZ:=By 7 VC.1 3
noncomputable def VF:CO ["_law_script","_law_first","_law_most","_law_many","_law_base","_law_letters","_law_plan","_law_sizes","_law_count","_law_joined","_law_k","_law_cell","_law_name","_law_kind_here","_law_step_here","_law_streams"] "_law_small_plan" 34 53 ["_law_script","_law_first","_law_most","_law_many"] 3:=⟨_,⟨CA,rfl⟩,λT J _ _ _ _ _ _ _ D=>(Ag (Ay 4 J (BD (HJ.c (f:=Ho) T) D (AK (AS (AE 0)) (AK (AS (AE 1)) AZ)))) (Ag (Ay 5 J BA) (Ag (Ay 6 J (CL AZ)) (Ag (Ay 7 J UW) (Ag (Ay 8 J (BD (HJ.c (f:=Ho) T) D (AK (AS (AE 0)) (AK (BN (AE 1) (AF AO)) AZ)))) (Ag (Ay 9 J (CL AZ)) (Ag (Bo (oO (AF (Bb (AF (B0 (AE 8) (AF (BN (AE 2) (AF AO))))) (AF AO))) (AF (CM (AK AO (AK AO AZ))))) (An (Bm [4] (Ub 6 J ["_law_k"] [("_law_base",4),("_law_letters",5)] (Bz (DJ 53)) DG (Qv (by rfl) T.gd (AK AO AZ)) (λ_ _ _ _=>E5 0 (by decide+kernel)) (λ_ _ _ _=>II) (λ_ _ _ _=>(CM (AK BA (AK (BD (IM.c (f:=Gz) T) D (AK (AS (AE 1)) (AK (BN (AF AO) (AE 0)) (AK (BN (AF BA) (Ac (AE 2) (AE 0))) AZ)))) (AK BA AZ)))))))) B6) (Ag (Bo (Uc (AF (Bb (AF (B0 (AE 8) (AF (BN (AE 2) (AF AO))))) (AF AO))) (AF AO)) (Ag (Bm [4] (Ay 9 J (BD (VC.c (f:=VZ) T) D (AK (AS (AE 4)) (AK (BD (HJ.c (f:=Ho) T) D (AK (AS (AE 0)) (AK (BN (AE 1) (AF AO)) AZ))) (AK (AS (AE 3)) AZ)))))) (Ag (Ay 6 J (BN (AE 6) (AE 9))) (An (Ee (Qv (by rfl) T.gd (AK (Iv T.fj (AE 9)) AZ)) (Gs 10 J) (An (OZ D (Di 7) (Ac (Ac (AE 9) (AE 10)) (AF AO)) (AS (Ac (AF (CL (AK (AS (AE 3)) (AK (AS (AE 3)) (AK (Ed (AE 3) (AE 3)) (AK (Ed (AE 3) (AE 3)) (AK (AIP (AE 3) (AF AO)) AZ))))))) (AE 10))))))))) B6) (Ag (Ee (Qv (by rfl) T.gd (AK (Bb (AE 8) (AF (BN (AE 2) (AF AO)))) AZ)) (Gs 10 J) (Ag (Ay 11 J (BN (AF (BN (AF (BD (HJ.c (f:=Ho) T) D (AK (AS (AE 0)) (AK (BN (AF (BN (AE 1) (AF AO))) (AF (Bb (AE 10) (AF AO)))) AZ)))) (AF (Ed (AF AO) (AF (B0 (AE 10) (AF AO))))))) (AE 10))) (Ag (Bm [4] (Ay 12 J (BD (VG.c (f:=Zu) T) D (AK (AS (AE 4)) (AK (AS (AE 10)) (AK (BN (Ac (AE 5) (AF AO)) (Ac (AE 5) (AE 10))) AZ)))))) (Ag (Bm [4] (Ay 13 J (BD (NG.c (f:=NP) T) D (AK (AS (AE 4)) (AK (Bb (AF (B0 (AE 11) (AF AO))) (AF AO)) AZ))))) (Ag (Bm [11,12,13] (Ay 14 J (BD (RE.c (f:=RU) T) D (AK (AS (AE 11)) (AK (AS (AE 12)) (AK (oG T.dk (AE 7)) (AK (AS (AE 13)) AZ))))))) (Ag (Bm [14] (Bo (Uc (AF (BD (RB.c (f:=NN) T) D (AK (AS (AE 14)) (n9 7 (AK (AS (AE 3)) AZ))))) (AF AO)) (An (Bm [12,13] (Ay 14 J (CM (AK BA (AK (AS (AE 12)) (AK (AS (AE 13)) AZ))))))) B6)) (Ag (Bm [14] (GB (Di 6) (AS (AE 14)))) (An (Bo (G6 (Oc (HI D (Ac (AE 14) (AF AO)) (AF BA)) (Nq (HI D (Ac (AE 14) (AF AO)) (AF BA))))) (An (Bm [14] (OZ D (Di 7) (AE 12) (BD (RB.c (f:=NN) T) D (AK (AS (AE 14)) (n9 7 (AK (AS (AE 3)) AZ))))))) B6))))))))) (Ag (Ay 15 J (oG T.dk (AE 7))) (Ag (Ee (Qv (by rfl) T.gd (AK (Ed (AF AO) (AF (AIK T.qh (AF (AIO D (AF (Bb (AF (B0 (AE 8) (AF (BN (AE 2) (AF AO))))) (AF AO))) (AF AO)))))) AZ)) (Gs 10 J) (Ag (Ay 11 J (BD (HJ.c (f:=Ho) T) D (AK (AS (AE 0)) (AK (BN (AF (BN (AE 1) (AF AO))) (AE 10)) AZ)))) (Ag (Bm [4] (Ay 12 J (BD (IM.c (f:=Gz) T) D (AK (AS (AE 4)) (AK (BN (AF AO) (AE 10)) (AK (BN (AF BA) (Ac (AE 5) (AE 10))) AZ)))))) (Ag (Bm [12,15] (Ay 14 J (BD (RE.c (f:=RU) T) D (AK (BN (AF (BN (AF AO) (AF (Bb (AE 11) (AF AO))))) (AF (Ed (AF AO) (AF (B0 (AE 11) (AF AO)))))) (AK (AS (AE 12)) (AK (AS (AE 15)) (AK BA AZ))))))) (Ag (Bo (G6 (Oc (CV D (Ac (AE 14) (AF AO)) (AF BA)) (Nq (CV D (AF (Bb (AF (B0 (AE 11) (AF AO))) (AF AO))) (AF AO))))) (An (Ay 14 J (BN (AF (IH (AE 14) KG (Gu (AF AO)))) (AF (CM (AK (OX T.gx (AF AO) (AF (Ed (AF (Bb (Ac (AE 14) (AF AO)) (AF AO))) (Ac (AF (CL (AK AO (AK AO (AK AO (AK AO (AK AO (AK AO AZ)))))))) (AF (Bb (AF (BD (HJ.c (f:=Ho) T) D (AK (AS (AE 0)) (AK AO AZ)))) (AF AO))))))) AZ)))))) B6) (Ag (Bo (G6 (Oc (HI D (AE 9) (AF (CL AZ))) (Nq (CV D (AE 10) (AF AO))))) (An (Ay 14 J (BN (AF (BN (AF (IH (AE 14) KG (Gu (AF AO)))) (AF (CM (AK (AS (Ac (Ac (AE 9) (AF (FK (AF (Ed (AF AO) (AF (Iv T.fj (AE 9))))) (AF AO)))) (AF AO))) AZ))))) (AF (IH (AE 14) (Gu (AF AO)) KG))))) B6) (An (Bm [14] (GB (Di 6) (AS (AE 14))))))))))) (An (Hi 6)))))))))))))⟩
noncomputable def Vd:=By 16 VF.1 4
noncomputable def VB:CO ["_law_script","_law_cells","_law_base","_law_scale","_law_events_here","_law_k","_law_cell","_law_mixed","_law_time","_law_kind_here","_law_at_here","_law_key","_law_amount"] "_law_events" 35 54 ["_law_script","_law_cells"] 2:=⟨_,⟨CA,rfl⟩,λT D _ _ _ _ _ _ _ J=>(Ag (Ay 2 D (BD (HJ.c (f:=Ho) T) J (AK (AS (AE 0)) (AK AO AZ)))) (Ag (Ay 3 D (AS (Ac (AF (CL (AK AO (AK AO (AK AO (AK AO (AK AO (AK AO AZ)))))))) (AF (Bb (AE 2) (AF AO)))))) (Ag (Ay 4 D (CL AZ)) (Ag (Ee (NC (by rfl) T.bo (AS (AE 1))) (Hg 2 rfl (Er 5 D (Er 6 D Hh))) (Ag (Ay 7 D (Bb (AF (Ed (AF (BN (AE 6) (AF (Ed (AF AO) (AE 5))))) (AF AO))) (AF AO))) (Ag (Ay 8 D (BN (AF (Ed (Ac (AF (CL (AK (Bb (AE 6) (AF AO)) (AK (BN (AF (Ed (AF AO) (AE 5))) (AF (Bb (AE 6) (AF AO)))) AZ)))) (AF (Bb (AF (B0 (AE 2) (AF AO))) (AF AO)))) (AE 3))) (AF (Bb (AE 7) (AE 3))))) (Ag (Ay 8 D (OX T.gx (AF AO) (AE 8))) (Ag (Ay 9 D (BD (NG.c (f:=NP) T) J (AK (BD (HJ.c (f:=Ho) T) J (AK (AS (AE 0)) (AK AO AZ))) (AK (Bb (AF (B0 (AE 7) (AF AO))) (AF AO)) AZ)))) (Ag (Ay 10 D (Bb (AF (B0 (AE 7) (AF AO))) (Ac (AF (CL (AK AO (AK AO (AK AO (AK AO AZ)))))) (AF (Bb (AF (B0 (AE 2) (AF AO))) (AF AO)))))) (Ag (Bm [10] (Ay 11 D (BD (IM.c (f:=Gz) T) J (AK (B0 (AE 2) (AF AO)) (AK (AS (AE 10)) (AK (AS (Ac (AF BA) (AE 10))) AZ)))))) (Ag (Bo (CV J (AF (Bb (AE 2) (AF AO))) (AF AO)) (An (Ay 11 D (AS (Ac (AF (CL (AK BA (AK BA (AK BA (AK BA (AK BA (AK BA (AK BA (AK BA (AK BA (AK BA (AK BA (AK BA AZ)))))))))))))) (AE 10))))) B6) (Ag (Ay 12 D (FK (AF (Bb (AF (B0 (AE 7) (AF AO))) (AF AO))) (AF AO))) (Ag (Bo (CV J (AF (Bb (AF (B0 (AE 7) (AF AO))) (AF AO))) (AF AO)) (An (Ay 12 D (FK (AF (Bb (AE 7) (AF AO))) (AF AO)))) B6) (An (Bm [8,9,11,12] (GB (Di 4) (CM (AK (AS (AE 8)) (AK (AS (AE 9)) (AK (AS (AE 11)) (AK (AS (AE 12)) AZ)))))))))))))))))) (An (Hi 4))))))⟩
noncomputable def VY:=By 13 VB.1 2
noncomputable def NH:CO ["_law_step_here","_law_times","_law_found","_law_time","_law_start","_law_last"] "_law_windows" 36 56 ["_law_step_here","_law_times"] 0:=⟨_,⟨CA,rfl⟩,λT D _ _ _ _ _ _ _ J=>(Ag (Ay 2 D (CL AZ)) (Ag (Bo (CV J (Ac (AE 0) (AF AO)) (AF BA)) (Ag (Ee (C5 (AS (AE 1))) (Gs 3 D) (Ag (Ay 4 D (Ed (AF (B0 (AE 3) (Ac (AE 0) (AF AO)))) (Ac (AE 0) (AF AO)))) (An (Yt 30 (Uc (AF (BN (AE 4) (Ac (AE 0) (AF AO)))) (AE 3)) (Ag (Bm [4] (Bo (oP J (AF (CM (AK (AS (AE 4)) (AK (BN (AE 4) (Ac (AE 0) (AF AO))) AZ)))) (AE 2)) (An (Bm [4] (GB (Di 2) (CM (AK (AS (AE 4)) (AK (BN (AE 4) (Ac (AE 0) (AF AO))) AZ)))))) B6)) (An (Ay 4 D (FK (AE 4) (Ac (AE 0) (AF AO)))))))))) (An (Hi 2))) B6) (Ag (Ee (C5 (AS (AE 1))) (Gs 3 D) (Ag (Ay 5 D (AS (AE 3))) (Ag (Bm [5] (Yt 2000 (HI J (AF (E4 ["_law_other"] [("_law_last",5),("_law_step_here",0)] (Bz (DJ 56)) DG (C5 (AS (AE 1))) (λ_ _ _ _=>E5 0 (by decide+kernel)) (λ_ _ _ _=>IJ (Oa UD J7 (AE 1) (AE 0) (AF (BN (AE 1) (Ac (AE 2) (AF AO)))))) (λ_ _ _ _=>(AS (AE 0))))) (AF (CL AZ))) (An (Bm [5] (Ay 5 D (Yo T.gx (AF (E4 ["_law_other"] [("_law_last",5),("_law_step_here",0)] (Bz (DJ 56)) DG (C5 (AS (AE 1))) (λ_ _ _ _=>E5 0 (by decide+kernel)) (λ_ _ _ _=>IJ (Oa UD J7 (AE 1) (AE 0) (AF (BN (AE 1) (Ac (AE 2) (AF AO)))))) (λ_ _ _ _=>(AS (AE 0))))))))))) (An (Bo (CV J (AF (E4 ["_law_other"] [("_law_time",3),("_law_step_here",0)] (Bz (DJ 56)) DG (C5 (AS (AE 1))) (λ_ _ _ _=>E5 0 (by decide+kernel)) (λ_ _ _ _=>IJ (Oa J7 UD (AF (FK (AE 1) (Ac (AE 2) (AF AO)))) (AE 0) (AE 1))) (λ_ _ _ _=>(AS (AE 0))))) (AF (CL AZ))) (An (Bo (oP J (AF (CM (AK (AS (AE 3)) (AK (BN (AF (BN (AE 5) (Ac (AE 0) (AF AO)))) (AF AO)) AZ)))) (AE 2)) (An (GB (Di 2) (CM (AK (AS (AE 3)) (AK (BN (AF (BN (AE 5) (Ac (AE 0) (AF AO)))) (AF AO)) AZ))))) B6)) B6))))) (An (Hi 2)))))⟩
noncomputable def KP:=By 6 NH.1 2
noncomputable def RC(g:List AN->Option Ab):{G:AM->A8//∀{P w K mg base ad cl}{k:Nat}(T:GX K mg ad)(J:LY P w K mg base k ad.bu ad.cm ["_law_plan","_law_name","_law_events_here"] (J8 K cl g) "_law_items"),Ta P w K mg base cl ["_law_plan","_law_name","_law_events_here","_law_step_here","_law_ones","_law_others","_law_found","_law_time","_law_key","_law_amount","_law_other"] "_law_items" LV ad.bu k G}:=⟨_,λ{P w K mg base ad cl k}T J _ _ _ _ _ _ U=>have V:=Vv.nd
 (Ag (Ay 3 V (AS (Ac (AF (E4 ["_law_one"] [("_law_name",1)] (Bz LV) DG (C5 (AS (AE 0))) (λ_ _ _ _=>E5 0 (by decide+kernel)) (λ_ _ _ _=>IJ (CV U (Ac (AE 0) (AF AO)) (AE 1))) (λ_ _ _ _=>(AS (AE 0))))) (AF AO)))) (Ag (Bo (CV U (Ac (AE 3) (AF AO)) (AF BA)) (An (Bm [3] (BX (E4 ["_law_event"] [("_law_step_here",3)] (Bz LV) DG (C5 (AS (AE 2))) (λ_ _ _ _=>E5 0 (by decide+kernel)) (λ_ _ _ _=>IJ (CV U (Ac (AE 0) (AF AO)) (Ac (AE 1) (AF AO)))) (λ_ _ _ _=>(CM (AK (AS (Ac (AE 0) (AF AO))) (AK (AS (Ac (AE 0) (AF AO))) (AK (AS (Ac (AE 0) (AF AO))) AZ))))))))) B6) (Ag (Ay 4 V (NB (hn:=Aw _) J U (AK (AS (AE 0)) (AK (AS (Ac (AE 3) (AF AO))) (AK (AS (AE 2)) AZ))))) (Ag (Bo (CV U (Ac (AE 3) (AF AO)) (AF BA)) (An (Bm [3,4] (BX (E4 ["_law_item"] [("_law_step_here",3)] (Bz LV) DG (C5 (AS (AE 4))) (λ_ _ _ _=>E5 0 (by decide+kernel)) (λ_ _ _ _=>IJ (Oa J7 J7 (Ac (AE 1) (AF AO)) (Ac (AE 0) (AF AO)) (Ac (AE 1) (AF AO)))) (λ_ _ _ _=>(AS (AE 0))))))) B6) (Ag (Bo (CV U (Ac (AE 3) (AF AO)) (AF BA)) (An (Bm [3,4] (BX (E4 ["_law_time","_law_key","_law_amount"] [("_law_step_here",3)] (Bz LV) (QW (Io DG (Io DG (Io DG QV)))) (C5 (AS (AE 4))) (λ_ _ _ _=>Hg 3 rfl (Iw 0 (by decide+kernel) (Iw 1 (by decide+kernel) (Iw 2 (by decide+kernel) Hh)))) (λ_ _ _ _=>II) (λ_ _ _ _=>(CM (AK (AS (AE 0)) (AK (AS (AE 1)) (AK (BN (AF (Ed (AE 2) (Ac (AE 3) (AF AO)))) (Ac (AE 3) (AF AO))) AZ))))))))) B6) (Ag (Ay 5 V (NB (hn:=Aw _) J U (AK (AS (AE 0)) (AK (AS (Ac (AE 3) (AF AO))) (AK (AS (AE 2)) AZ))))) (Ag (Bo (CV U (Ac (AE 3) (AF AO)) (AF BA)) (An (BX (BN (AE 4) (AE 5)))) B6) (Ag (Ay 6 V (CL AZ)) (Ag (Bm [4] (Ee (C5 (AS (AE 4))) (Hg 3 rfl (Er 7 V (Er 8 V (Er 9 V Hh)))) (An (Bm [5] (Ee (C5 (AS (AE 5))) (Gs 10 V) (An (Bo (G6 (Oc (CV U (Ac (AE 10) (AF AO)) (AE 8)) (Nq (AIe (AF (FK (AF (Qu T.ij (AE 7) (Ac (AE 10) (AF AO)))) (AF (OX T.gx (AE 7) (Ac (AE 10) (AF AO)))))) (Ac (AE 3) (AF AO)))))) (An (GB (Di 6) (CM (AK (Qu T.ij (AE 7) (Ac (AE 10) (AF AO))) (AK (AS (AE 8)) (AK (FK (AE 9) (Ac (AE 10) (AF AO))) AZ)))))) B6))))))) (An (Hi 6)))))))))))⟩
noncomputable def NO:Nat->List AN->Option Ab|0=>λ_=>AB|n+1=>By 11 (RC (NO n)).1 3
def Zd{K:Ap}{ad:Og}(T:GX K mg ad):∀n:Nat,LY P w K mg base (n+1) ad.bu ad.cm ["_law_plan","_law_name","_law_events_here"] (J8 K cl (NO n)) "_law_items"|0=>⟨AHC T.cj Vv,T.gj,T.cj.kp,T.gi⟩|n+1=>⟨Ua T.cj Vv ((RC _).2 T (Zd T n)),T.gj,T.cj.kp,T.gi⟩
noncomputable def RD:CO ["_law_plan","_law_events_here","_law_found","_law_place","_law_step_here","_law_items_here","_law_key","_law_times","_law_start","_law_end","_law_some","_law_worth"] "_law_rows" 37 57 ["_law_plan","_law_events_here"] 23:=⟨_,⟨CA,rfl⟩,λ{P w K mg base ad cl}T J _ _ _ _ _ _ _ U=>have D:=Zd (P:=P) (w:=w) (base:=base) (cl:=cl) T 22
 (Ag (Ay 2 J (CL AZ)) (Ag (Ee (NC (by rfl) T.bo (AS (AE 0))) (Hg 2 rfl (Er 3 J (Er 4 J Hh))) (An (Bo (G6 (Iz (CV U (Ac (AE 4) (AF AO)) (AF BA)) (Kj (CV U (Ac (AE 4) (AF AO)) (AF BA))))) (Ag (Ay 5 J (NB D U (AK (AS (AE 0)) (AK (AS (Ac (AE 4) (AF AO))) (AK (AS (AE 1)) AZ))))) (An (Bm [5] (Ee (C5 (Yr T.cz T.qi (AF (E4 ["_law_item"] [] (Bz (DJ 57)) DG (C5 (AS (AE 5))) (λ_ _ _ _=>E5 0 (by decide+kernel)) (λ_ _ _ _=>II) (λ_ _ _ _=>(AS (Ac (AE 0) (AF AO)))))))) (Gs 6 J) (Ag (Bm [5] (Ay 7 J (Yr T.cz T.qi (AF (E4 ["_law_item"] [("_law_key",6)] (Bz (DJ 57)) DG (C5 (AS (AE 5))) (λ_ _ _ _=>E5 0 (by decide+kernel)) (λ_ _ _ _=>IJ (CV U (Ac (AE 0) (AF AO)) (AE 1))) (λ_ _ _ _=>(AS (Ac (AE 0) (AF AO))))))))) (An (Bm [7] (Ee (C5 (BD (NH.c (f:=KP) T) U (AK (AS (AE 4)) (AK (AS (AE 7)) AZ)))) (Hg 2 rfl (Er 8 J (Er 9 J Hh))) (Ag (Bm [5] (Ub 10 J ["_law_item"] [("_law_key",6),("_law_start",8),("_law_end",9)] (Bz (DJ 57)) DG (C5 (AS (AE 5))) (λ_ _ _ _=>E5 0 (by decide+kernel)) (λ_ _ _ _=>IJ (G6 (Oc (CV U (Ac (AE 0) (AF AO)) (AE 1)) (Nq (Oa J7 UD (AE 2) (Ac (AE 0) (AF AO)) (AE 3)))))) (λ_ _ _ _=>(AS (Ac (AE 0) (AF AO)))))) (Ag (Ay 11 J (AS (MH U (AF (AIH (UU BA (Iv T.fj (AE 10)) (UU BA (oM T.si (AE 10)) (UU BA (Yo T.gx (AE 10)) (UU BA (oH T.ij (AE 10)) AIC)))))) (Ac (AE 4) (AF AO))))) (An (Bm [11] (GB (Di 2) (CM (AK (AS (AE 9)) (AK (AS (AE 3)) (AK (AS (AE 6)) (AK (AS (AE 8)) (AK (CM (AK (AS (Ac (AE 4) (AF AO))) (AK (AS (AE 6)) (AK (AS (AE 8)) (AK (AS (AE 9)) (AK (AS (AE 11)) AZ)))))) AZ))))))))))))))))))) B6))) (An (BX (E4 ["_law_one"] [] (Bz (DJ 57)) DG (C5 (oK U T.cz (AE 2))) (λ_ _ _ _=>E5 0 (by decide+kernel)) (λ_ _ _ _=>II) (λ_ _ _ _=>(AS (Ac (AE 0) (AF AO)))))))))⟩
noncomputable def Vb:=By 12 RD.1 2
noncomputable def RF:CO ["_law_found","_law_due","_law_row"] "_law_told" 39 59 ["_law_found","_law_due"] 1:=⟨_,⟨CA,rfl⟩,λT J _ _ _ _ _ _ _ D=>(Ag (Bo (G6 (Iz (JU (Iy (JT .lst T.aq T.dk (AE 0)))) (Kj (HI D (AE 0) (AE 1))))) (An (BX Iu)) B6) (Ag (Ee (C5 (AS (AE 0))) (Gs 2 J) (Ag (Bo (G6 (Iz (JU (Iy (JT .tup T.aq T.jt (AE 2)))) (Iz (JU (Iy (JT .str T.aq T.sg (Ac (AE 2) (AF AO))))) (Kj (JU (Iy (JT .str T.aq T.sg (Ac (AE 2) (AF AO))))))))) (An (BX Iu)) B6) (An (Bo (HI D (AF (E4 ["_law_part"] [] (Bz (DJ 59)) DG (AIV (IH (AE 2) (Gu (AF AO)) KG)) (λ_ _ _ _=>E5 0 (by decide+kernel)) (λ_ _ _ _=>IJ (JU (Iy (BD (VH.c (f:=Vf) T) D (AK (AS (AE 0)) AZ))))) (λ_ _ _ _=>(AS (AE 0))))) (AF (CL AZ))) (An (BX Iu)) B6)))) (An (BX Iu))))⟩
noncomputable def Ve:=By 3 RF.1 2
noncomputable def VD:CO ["_law_slack_here","_law_events_here","_law_late_here","_law_now","_law_place","_law_event"] "_law_late" 40 60 ["_law_slack_here","_law_events_here"] 0:=⟨_,⟨CA,rfl⟩,λT D _ _ _ _ _ _ _ J=>(Ag (Ay 2 D (CL AZ)) (Ag (Ay 3 D AO) (Ag (Ee (NC (by rfl) T.bo (AS (AE 1))) (Hg 2 rfl (Er 4 D (Er 5 D Hh))) (An (Bo (Ob (Ac (AE 5) (AF AO)) (AE 3)) (An (GB (Di 2) (AS (AE 4)))) (An (Ay 3 D (Qu T.ij (AE 3) (AF (FK (Ac (AE 5) (AF AO)) (AE 0))))))))) (An (Hi 2)))))⟩
noncomputable def Va:=By 6 VD.1 2
noncomputable def VE:CO ["_law_script","_law_cell"] "_law_slack" 41 61 ["_law_script"] 1:=⟨_,⟨CA,rfl⟩,λT J _ _ _ _ _ _ _ D=>(Ag (Ay 1 J (BD (HJ.c (f:=Ho) T) D (AK (AS (AE 0)) (AK AO AZ)))) (An (BX (AS (Ac (AF (CL (AK (Bb (AF (B0 (AE 1) (AF AO))) (AF AO)) (AK (Bb (AF (B0 (AE 1) (AF AO))) (AF AO)) (AK AO (AK (Bb (AF (B0 (AE 1) (AF AO))) (AF AO)) AZ)))))) (AF (Bb (AE 1) (AF AO))))))))⟩
noncomputable def Vc:=By 2 VE.1 1
def Bp(i:Dp):AN:=.t [.i i.1,.s i.2.1,.i i.2.2]
def Rn(k:AG)(evs:List BB):List Dp:=(evs.filter λe=>Af (e.2.1=k)).map λe=>(e.1,e.2.2.1,e.2.2.2)
def MO(a b:Int):Int:=if b<a then b else a
def DI(w:Int)(i j:Dp):Bool:=Af (j.2.1=i.2.1)&&Af (Hq i.1 j.1-MO i.1 j.1<=w)
def E9(i j:Dp):Dp:=(Hq i.1 j.1,i.2.1,i.2.2-j.2.2)
def VM(w:Int)(A B:List Dp):List Dp:=A.flatMap λi=>(B.filter (DI w i)).map (E9 i)
def IU(evs:List BB)(D:AG->List Dp):Ao->List Dp|.take _ k=>Rn k evs|.only _ a lo hi=>(D a).filter λi=>Af (lo<=i.2.2)&&Af (i.2.2<=hi)|.turn _ a f g=>(D a).map λi=>(i.1,i.2.1,i.2.2*f+g)|.both _ a b=>D a++D b|.join _ a b w=>VM w (D a) (D b)|.gap _ a _ _|.each _ a _ _ _=>D a
def NX(D:AG->List Dp)(n:AG)(L:List Dp):AG->List Dp:=λa=>if a=n then L else D a
def Bl(evs:List BB)(ss:List Ao):AG->List Dp:=ss.foldl (λD s=>NX D s.nm (IU evs D s)) λ_=>[]
def O1{s:Ao}:Bl evs (ss++[s])=NX (Bl evs ss) s.nm (IU evs (Bl evs ss) s):=by unfold Bl;∎
def Vi:∀{r l:List Ao},a∉r.map Ao.nm->Bl evs (l++r) a=Bl evs l a|[],l,_=>by∎|s::r,l,h=>by rw[show l++s::r=(l++[s])++r by∎,Vi ∎,O1];unfold NX;∎
def Vz:∀{evs:List BB}{n:Nat},((evs.zipIdx n).flatMap λp=>if p.1.2.1=k then[(((p.1.1,p.1.2.2.1,p.1.2.2.2),[(p.2:Int)]):BL)]else[]).map (·.1)=Rn k evs|[],_=>rfl|e::r,n=>by have D:=Vz (k:=k) (evs:=r) (n:=n+1);rw[AE1,Lo,Cc,D];unfold Rn;∎
def z7{i j:BL}(hw:0<=w):(Af (Dq j=Dq i)&&Fh (i.1.1-w) (i.1.1+w+1) j)=DI w i.1 j.1:=by unfold DI Fh Hq MO Dq;∎
def Vp{α β:Type}{f g:α->List β}:∀{l:List α},(∀x∈l,(f x).Perm (g x))->(l.flatMap f).Perm (l.flatMap g)|[],_=>.refl _|x::l,h=>by exact(h x (by grind)).append (Vp (by grind))
def xD(hw:0<=w){A B:List BL}(Y:(A.map (·.1)).Perm J)(Z:(B.map (·.1)).Perm D):((JX w A B).map (·.1)).Perm (VM w J D):=by
 have h1:(JX w A B).map (·.1)=A.flatMap λi=>((GF w i (Fl B)).map λj=>E9 i.1 j.1):=by unfold JX;rw[AJW];congr 1;funext i;rw[Bj];rfl
 have h2:∀i:BL,((GF w i _).map _).Perm ((D.filter _).map _):=λi=>by
  have U:GF w i (Fl B)=(Fl B).filter λj=>DI w i.1 j.1:=by unfold GF Cp;rw[AEp];refine AJO λj _=>?_;rw[Bool.and_comm];exact z7 hw
  have V:(((Fl B).filter λj=>DI w i.1 j.1).map λj=>E9 i.1 j.1)=(((Fl B).map (·.1)).filter (DI w i.1)).map (E9 i.1):=by rw[f9,Bj];rfl
  rw[U,V];exact(((HH.map _).trans Z).filter _).map _
 rw[h1];refine(Vp λi _=>h2 i).trans ?_;have W:(A.flatMap λi=>(D.filter (DI w i.1)).map (E9 i.1))=(A.map (·.1)).flatMap λi=>(D.filter (DI w i)).map (E9 i):=by rw[List.flatMap_map]
 rw[W];exact Y.flatMap_right _
def LQ:Ao->Prop|.join _ _ _ w=>0<=w|_=>True
def O4:∀(n:Nat){ss:List Ao},ss.length=n->(∀s∈ss,LQ s)->∀a,((BJ evs ss a).map (·.1)).Perm (Bl evs ss a)
  |0,ss,e,_,a=>by cases Jm.mp e;rfl|n+1,ss,e,h,a=>by
    rcases Mb ss with rfl|⟨l,s,rfl⟩;.cases e
    . rw[Ma]at e h⊢;rw[Bi]at e;have D:=O4 (evs:=evs) n (Kn e) ∎;rw[Vy,O1];unfold NY NX;by_cases c:a=s.nm
      . rw[AMu c,AMu c];have V:=h s ∎;cases s with
        |take m k=>exact .of_eq Vz|only m b lo hi=>
          show(((BJ _ l b).filter _).map _).Perm _;have U:(((BJ evs l b).filter λi=>Af (lo<=i.1.2.2)&&Af (i.1.2.2<=hi)).map (·.1))=((BJ evs l b).map (·.1)).filter λi=>Af (lo<=i.2.2)&&Af (i.2.2<=hi):=by rw[f9];rfl
          rw[U];exact(D b).filter _|turn m b f g=>
          have U:(((BJ evs l b).map λi=>(((i.1.1,i.1.2.1,i.1.2.2*f+g),i.2))).map (·.1))=((BJ evs l b).map (·.1)).map λi=>(i.1,i.2.1,i.2.2*f+g):=by simp_all
          show((((BJ _ l b).map λi=>(((i.1.1,i.1.2.1,i.1.2.2*f+g),i.2))).map _)).Perm _;rw[U];exact(D b).map _|both m b J=> show((BJ _ l b++BJ _ l J).map _).Perm _;rw[Cc];exact(D b).append (D J)|join m b J w=>exact xD V (D b) (D J)|gap m b so v=>exact D b|each m b so z d=>exact D b
      ∎
def Ao.D2(s:Ao):∃k r,s.D=.t (.s k::.s s.nm::r):=by cases s<;>exact⟨_,_,rfl⟩
def AAE{ss:List Ao}(J:(ss.map Ao.nm).Nodup){s:Ao}(D:s∈ss):(ss.filterMap λt=>if t.nm=s.nm then AA t.D else AB)=[s.D]:=by induction ss with |nil=>cases D|cons x r U=>
 rcases Bw.mp D with rfl|D;.simp_all
 ∎
def aY:((BO "only"=BO "take")=False)/\((BO "turn"=BO "take")=False)/\((BO "both"=BO "take")=False)/\((BO "join"=BO "take")=False)/\((BO "turn"=BO "only")=False)/\((BO "both"=BO "only")=False)/\((BO "join"=BO "only")=False)/\((BO "both"=BO "turn")=False)/\((BO "join"=BO "turn")=False)/\((BO "join"=BO "both")=False):=⟨AMx (by decide+kernel),AMx (by decide+kernel),AMx (by decide+kernel),AMx (by decide+kernel),AMx (by decide+kernel),AMx (by decide+kernel),AMx (by decide+kernel),AMx (by decide+kernel),AMx (by decide+kernel),AMx (by decide+kernel)⟩
def AAG{s:Ao}(h:∀a∈s.bx,J a=D a):IU evs J s=IU evs D s:=by cases s<;>simp_all[IU,Ao.bx]
structure Uv(evs:List BB)(ss:List Ao):Prop where
 ba:ss.length<=AY
 yr:evs.length<=AY
 nd:(ss.map Ao.nm).Nodup
 fd:∀l s r,ss=l++s::r->∀a∈s.bx,∃l1 t r1,l=l1++t::r1/\t.nm=a/\t.br=AH
 sz:∀a,(Bl evs ss a).length<=8388608
 tn:∀n a f g,.turn n a f g∈ss->-2^64<f/\f<2^64
def zI{s:Ao}(h:Uv evs ss)(e:ss=l++s::r):Bl evs ss s.nm=IU evs (Bl evs ss) s:=by
 have D:=h.nd;rw[e,Cc]at D;obtain⟨A,U,B⟩:=HA.mp D;obtain⟨V,C⟩:=EG.mp U;have h1:Bl evs ss s.nm=IU evs (Bl evs l) s:=by rw[e,show l++s::r=(l++[s])++r by rw[Gg];rfl,Vi V,O1];unfold NX;rw[AMu rfl]
 have h2:∀a∈s.bx,Bl evs l a=Bl _ ss a:=λa J=>by obtain⟨Z,t,r1,W,Y,_⟩:=h.fd l s r e a J;rw[e,Vi];∎
 rw[h1];exact AAG h2
def Zm{evs:List BB}{ss:List Ao}(h:Uv evs ss):∀(n:Nat)(l:List Ao)(s:Ao)(r:List Ao),ss=l++s::r->s.br=AH->l.length<n->NO n [.l (ss.map Ao.D),.s s.nm,.l (evs.map Ak)]=AA (.n (.L (((Bl evs ss s.nm).map Bp).map .d)))
  |0,l,s,r,_,_,hn=>absurd hn (AJj _)|n+1,l,s,r,e,M,hn=>by
    have C:∀a∈s.bx,NO n [.l (ss.map Ao.D),.s a,.l (evs.map Ak)]=AA (.n (.L (((Bl evs ss a).map Bp).map .d))):=λa ha=>by obtain⟨l1,t,r1,U,u,y⟩:=h.fd l s r e a ha;rw[<-u];refine Zm h n l1 t (r1++s::r) (by rw[e,U,Gg];rfl) y ?_;rw[U,Bi,Fq]at hn;∎
    have F:=AAE h.nd (s:=s) (by rw[e];exact Dl _ (B7 ..));have H:=zI h e;show By 11 (RC (NO n)).1 3 _=_;refine(Cg (by rfl)).trans ?_;unfold RC;have Y:=JA h.ba (en:=Ao.D) (k:=Il (GS 0) (DZ (A9 (Cm AH) (A9 B9 (Ai 0) (Bg (CC (.s (.i 1))))) (Ai 1))) (BW (Ai 0)) [AB,AA (.d (.s s.nm))]) (g:=λt=>if t.nm=s.nm then AA t.D else AB) (by intro t _;obtain⟨k,q,eD⟩:=t.D2;clear C F H hn M e h;rw[eD];lk);rw[F]at Y;have hw:=aY;have G:=h.yr;have hz:=h.sz;have Z:=h.tn;rw[H];generalize NO n=fi at C⊢;have W:=h.sz s.nm;rw[H]at W;clear H F hn;cases s with
    |take m k=>
      have V:(Ao.take m k).D=.t [.s "take",.s m,.s k]:=rfl;rw[V]at Y;clear hz Z C M e h W V;revert G;lk;intro G;rw[JA G (g:=λx=>if x.2.1=k then AA (Bp (x.1,x.2.2.1,x.2.2.2))else AB) (by intro x _;have hx:Ak x=.t [.i x.1,.s x.2.1,.s x.2.2.1,.i x.2.2.2]:=rfl;clear Y hw G;lk;unfold Bp;split<;>rfl)];rw[KQ (p:=λx=>Af (x.2.1=k)) (h:=λx=>Bp (x.1,x.2.2.1,x.2.2.2)) (λx=>by by_cases c:x.2.1=k<;>simp[c])];have U:(IU evs (Bl evs ss) (.take m k)).map Bp=(evs.filter λx=>Af (x.2.1=k)).map λx=>Bp (x.1,x.2.2.1,x.2.2.2):=by show((evs.filter λe=>Af (e.2.1=k)).map λe=>((e.1,e.2.2.1,e.2.2.2):Dp)).map Bp=_;rw[Bj];rfl
      rw[U];clear Y hw G U;lk|only m a lo hi=>
      have V:(Ao.only m a lo hi).D=.t [.s "only",.s m,.s a,.i lo,.i hi]:=rfl;rw[V]at Y;have i1:=C a (B7 ..);have J:(Bl evs ss a).length<=AY:=Cj (hz a) (by rw[ES];decide);clear hz Z C M e h W V G;generalize S:Bl evs ss a=A at i1 J;have U:(IU evs (Bl evs ss) (.only m a lo hi))=A.filter λi=>Af (lo<=i.2.2)&&Af (i.2.2<=hi):=by rw[<-S];rfl
      rw[U];clear U S;revert J;lk;intro J;rw[JA J (en:=Bp) (g:=λx=>if(Af (lo<=x.2.2)&&Af (x.2.2<=hi))=AD then AA (Bp x)else AB) (by intro x _;have hx:Bp x=.t [.i x.1,.s x.2.1,.i x.2.2]:=rfl;clear Y hw J i1;lk;by_cases X:lo<=x.2.2<;>by_cases I:x.2.2<=hi<;>simp[X,I])];rw[KQ (p:=λx=>Af (lo<=x.2.2)&&Af (x.2.2<=hi)) (h:=Bp) (λx=>rfl)];clear Y hw J i1;lk|turn m a f g=>
      have V:(Ao.turn m a f g).D=.t [.s "turn",.s m,.s a,.i f,.i g]:=rfl;rw[V]at Y;have i1:=C a (B7 ..);have J:(Bl evs ss a).length<=AY:=Cj (hz a) (by rw[ES];decide);obtain⟨f1,f2⟩:=Z m a f g (by rw[e];exact Dl _ (B7 ..));clear hz Z C M e h W V G;generalize S:Bl evs ss a=A at i1 J;have U:(IU evs (Bl evs ss) (.turn m a f g)).map Bp=A.map λi=>Bp (i.1,i.2.1,i.2.2*f+g):=by rw[<-S];show(Kl _ _).map _=_;rw[Bj];rfl
      rw[U];clear U S;revert J;lk;intro J;rw[JV J (en:=Bp) (g:=λi=>Bp (i.1,i.2.1,i.2.2*f+g)) (by intro x _;have hx:Bp x=.t [.i x.1,.s x.2.1,.i x.2.2]:=rfl;have hy:Bp (x.1,x.2.1,x.2.2*f+g)=.t [.i x.1,.s x.2.1,.i (x.2.2*f+g)]:=rfl;clear Y hw J i1;lk)];clear Y hw J i1;lk|both m a b=> have V:(Ao.both m a b).D=.t [.s "both",.s m,.s a,.s b]:=rfl;rw[V]at Y;have i1:=C a (B7 ..);have i2:=C b (DK _ (B7 ..));have J:(Bl evs ss a).length<=8388608:=hz a;have hzb:(Bl evs ss b).length<=8388608:=hz b;clear hz Z C M e h W V G;have ha:=Uh (a:=.L (((Bl evs ss a).map Bp).map .d)) (b:=.L (((Bl evs ss b).map Bp).map .d)) Gw Gw (by rw[A4,A4,ES];∎);have U:(IU evs (Bl evs ss) (.both m a b)).map Bp=(Bl evs ss a).map Bp++(Bl evs ss b).map Bp:=Cc;rw[U];generalize(Bl evs ss a).map Bp=A at i1 ha⊢;generalize(Bl evs ss b).map Bp=B at i2 ha⊢;clear U J hzb;lk|join m a b w=>
      have V:(Ao.join m a b w).D=.t [.s "join",.s m,.s a,.s b,.i w]:=rfl;rw[V]at Y;have i1:=C a (B7 ..);have i2:=C b (DK _ (B7 ..));clear hz Z C M e h V G;have U:IU evs (Bl evs ss) (.join m a b w)=(Bl evs ss a).flatMap λi=>((Bl evs ss b).filter (DI w i)).map (E9 i):=rfl;rw[U]at W⊢;clear U;generalize Bl evs ss a=A at i1 W⊢;generalize Bl evs ss b=B at i2 W⊢;revert W;lk;intro W;clear i1 i2 Y hw;refine JO (en:=Bp) (λl τ=>∃t5 x7 x8 x9 E,t5.fg=AA (.l (B.map Bp))/\τ=[AA (.d (.l (ss.map Ao.D))),AA (.d (.s (Ao.join m a b w).nm)),AA (.d (.l (evs.map Ak))),AA (.d (.t [.s "join",.s m,.s a,.s b,.i w])),AA (.d (.l (A.map Bp))),AA t5,AA (.L (((l.flatMap λi=>(B.filter (DI w i)).map (E9 i)).map Bp).map .d)),x7,x8,x9,E]) ⟨_,AB,AB,AB,AB,KA,rfl⟩ ?_ ?_
      . rintro l i z e _⟨t5,x7,x8,x9,E,R,rfl⟩;refine⟨_,rfl,?_⟩;have Q:(l.flatMap λi=>(B.filter (DI w i)).map (E9 i)).length+(B.filter (DI w i)).length<=8388608:=by rw[e,Pn,Lo,Bi,Bi,A4]at W;∎
        have u:((l++[i]).flatMap λi=>(B.filter (DI w i)).map (E9 i))=(l.flatMap λi=>(B.filter (DI w i)).map (E9 i))++(B.filter (DI w i)).map (E9 i):=by rw[Pn,Lo,gA,Ek]
        rw[u];clear u e W;generalize(l.flatMap λi=>(B.filter (DI w i)).map (E9 i))=N at Q⊢;revert Q;lk;intro Q;refine QR (en:=Bp) (λq τ=>∃E,τ=[AA (.d (.l (ss.map Ao.D))),AA (.d (.s (Ao.join m a b w).nm)),AA (.d (.l (evs.map Ak))),AA (.d (.t [.s "join",.s m,.s a,.s b,.i w])),AA (.d (.l (A.map Bp))),AA (.d (.l (B.map Bp))),AA (.L (((N++(q.filter (DI w i)).map (E9 i)).map Bp).map .d)),AA (.d (.i i.1)),AA (.d (.s i.2.1)),AA (.d (.i i.2.2)),E]) ⟨E,by rw[List.filter_nil,Po,Ek]⟩ ?_ ?_
        . rintro q j z' o _⟨y10,rfl⟩;refine⟨_,rfl,_,⟨AA (.d (Bp j)),rfl⟩,.inl ?_⟩;have hj:Bp j=.t [.i j.1,.s j.2.1,.i j.2.2]:=rfl;have hq:(q.filter (DI w i)).length<=(B.filter (DI w i)).length:=by rw[o,f7,Bi];∎
          have P:(if j.1>i.1 then j.1 else i.1)=Hq i.1 j.1:=rfl;have O:(if j.1<i.1 then j.1 else i.1)=MO i.1 j.1:=rfl;have hn:DI w i j=(Af (j.2.1=i.2.1)&&Af (Hq i.1 j.1-MO i.1 j.1<=w)):=rfl;by_cases X:j.2.1=i.2.1
          . by_cases I:Hq i.1 j.1-MO i.1 j.1<=w
            . have K:((q++[j]).filter (DI w i))=q.filter (DI w i)++[j]:=by rw[f7,Nu,AMu (by rw[hn];simp[X,I])];rfl
              have hql:(((N++(q.filter (DI w i)).map (E9 i)).map Bp).map AU.d).length<AY:=by rw[A4,A4,Bi,A4,ES];∎
              have y:((N++((q++[j]).filter (DI w i)).map (E9 i)).map Bp).map AU.d=((N++(q.filter (DI w i)).map (E9 i)).map Bp).map AU.d++[.d (.t [.i (Hq i.1 j.1),.s i.2.1,.i (i.2.2-j.2.2)])]:=by rw[K];simp only[Cc,Gg];rfl
              rw[y];generalize((N++(q.filter (DI w i)).map (E9 i)).map Bp).map AU.d=fl at hql⊢;generalize MO i.1 j.1=mnv at O I;generalize Hq i.1 j.1=mxv at P I⊢;clear y K hn hq o Q R;lk
            . have K:((q++[j]).filter (DI w i))=q.filter (DI w i):=by rw[f7,Nu,AMv (by rw[hn];simp[I])];simp
              rw[K];generalize((N++(q.filter (DI w i)).map (E9 i)).map Bp).map AU.d=fl;generalize MO i.1 j.1=mnv at O I;generalize Hq i.1 j.1=mxv at P I⊢;clear K hn hq o Q R;lk
          . have K:((q++[j]).filter (DI w i))=q.filter (DI w i):=by rw[f7,Nu,AMv (by rw[hn];simp[X])];simp
            rw[K];generalize((N++(q.filter (DI w i)).map (E9 i)).map Bp).map AU.d=fl;clear K hn hq o Q R P O;lk
        . rintro _⟨y10,rfl⟩;exact⟨_,_,_,_,_,rfl,rfl⟩
      . rintro _⟨t5,x7,x8,x9,E,R,rfl⟩;clear W R;lk|gap m a so v=>cases M|each m a so z d=>cases M
def AAX{t z d:Int}{n:Nat}{s:Int}(h:(EV t z d)[n]?=AA s):s=Dj t z d+(n:Int)*d/\n<FC (Dj t z d) (t+1) d:=by
 have hn:=(EN.mp h).1;have D:=by unfold EV at hn;rw[Ph]at hn;exact hn
 have:=Wu D;unfold EV at h;grind
def aO(hW:LN t z d):x∈EV t z d↔x%d=0/\x<=t/\t-z<x:=by
  constructor
  . intro h;obtain⟨n,hn,e⟩:=Nv.mp h;obtain⟨J,U⟩:=AAX (show(EV t z d)[n]?=AA x by∎);rw[J];have a:=AAU hW U;have b:=AAV hW n;exact⟨AAW t z d n,a,∎⟩
  . rintro⟨h1,h2,A⟩;have B:=hW.1;obtain⟨q,W⟩:=Int.dvd_of_emod_eq_zero h1;have Y:Dj t z d=((t-z)/d+1)*d:=rfl;have C:x=q*d:=by rw[W,Int.mul_comm]
    have Z:=by have:=Int.ediv_lt_of_lt_mul (a:=t-z) (b:=q) (c:=d) ∎ ∎;∎
    have V:x=Dj t z d+(((q-((t-z)/d+1)).toNat):Int)*d:=by∎
    have D:(q-((t-z)/d+1)).toNat<FC (Dj t z d) (t+1) d:=by rw[Ro hW];have:(((q-((t-z)/d+1)).toNat):Int)<=(t-Dj t z d)/d:=Int.le_ediv_of_mul_le ∎ ∎;∎
    have:=Wu D;rw[<-V]at this;exact Jn this
structure MK(m:Int)(ts:List Int)(ps:List (Int×Int)):Prop where
 ap:ps.Pairwise λa b=>a.2+m<b.1
 le:∀p∈ps,p.1<=p.2
 uv:∀t∈ts,∃p∈ps,p.1<=t/\t<=p.2
 lo:∀p∈ps,p.1∈ts
 hi:∀p∈ps,p.2∈ts
 co:∀p∈ps,∀t∈ts,p.1<=t->t<p.2->∃t'∈ts,t<t'/\t'<=t+m
def KJ(m:Int)(ts:List Int)(b l:Int):Prop:=b∈ts/\l∈ts/\b<=l/\(∀t∈ts,t<b->t+m<b)/\(∀t∈ts,l<t->l+m<t)/\∀t∈ts,b<=t->t<l->∃t'∈ts,t<t'/\t'<=t+m
def Z6:∀{l:List Int},l≠[]->∃x∈l,∀y∈l,y<=x|[],h=>absurd rfl h|[a],_=>(by simp_all)|a::b::l,_=>by obtain⟨x,D,q⟩:=Z6 (l:=b::l) (by simp);∎
def MK.uy(h:MK m ts ps){p q:Int×Int}(D:p∈ps)(J:q∈ps):p=q\/p.2+m<q.1\/q.2+m<p.1:=by obtain⟨i,hi,e⟩:=Nv.mp D;obtain⟨j,V,U⟩:=Nv.mp J;have g:=Sb.mp h.ap;∎
def MK.yd(h:MK m ts ps)(P:0<=m)(b l:Int):(b,l)∈ps↔KJ m ts b l:=by
  constructor
  . intro D;have Z:b<=l:=h.le _ D;refine⟨h.lo _ D,h.hi _ D,Z,λt V q=>?_,λt V q=>?_,λt V q r=>h.co _ D t V q r⟩
    . obtain⟨p,J,B,W⟩:=h.uv t V;rcases h.uy D J with e|e|e;all_goals∎
    . obtain⟨p,J,B,W⟩:=h.uv t V;rcases h.uy D J with e|e|e;all_goals∎
  . rintro⟨I,L,K,i1,i2,Y⟩;obtain⟨p,D,B,W⟩:=h.uv b I;have G:p.1=b:=by
      by_cases e:p.1=b;.exact e
      . exfalso;obtain⟨x,M,C⟩:=Z6 (l:=ts.filter λt=>Af (t<b)) (AEw (Ea.mpr ⟨h.lo p D,AMy ∎⟩));obtain⟨E,A⟩:=Ea.mp M;have A:=AM1 A;have N:=C p.1 (Ea.mpr ⟨h.lo p D,AMy ∎⟩);obtain⟨t',U,a1,a2⟩:=h.co p D x E N ∎;have i:=i1 x E A;have:=C t' (Ea.mpr ⟨U,AMy ∎⟩);∎
    have H:p.2=l:=by
      rcases AJC p.2 l with q|q|q
      . obtain⟨t',U,a1,a2⟩:=Y p.2 (h.hi p D) W q;obtain⟨Q,J,O,F⟩:=h.uv t' U;rcases h.uy D J with e|e|e;.rw[<-e]at F;∎
        .∎
        .∎
      .exact q
      . obtain⟨t',U,a1,a2⟩:=h.co p D l L ∎ q;have:=i2 t' U a1;∎
    rw[<-G,<-H];exact D
def MK.ph(h:MK m ts ps)(V:∀p∈ps,p.2+m<t)(W:0<=m):MK m (ts++[t]) (ps++[(t,t)]):=by
  have sp:∀{R:Int×Int->Prop},(∀p∈ps,R p)->R (t,t)->∀p∈ps++[(t,t)],R p:=∎;refine⟨?_,sp h.le (Ut _),λx D=>?_,sp (λp J=>GK _ (h.lo p J)) ∎,sp (λp J=>GK _ (h.hi p J)) (Dl _ (.head _)),sp (λp J x D a b=>?_) λx D a b=>?_⟩
  . refine Me.mpr ⟨h.ap,AJa _ _,λp J q Y=>?_⟩;∎
  . rcases Cb.mp D with D|D
    . obtain⟨p,J,c⟩:=h.uv x D;∎
    simp_all
  . rcases Cb.mp D with D|D
    . obtain⟨t',U,c⟩:=h.co p J x D a b;exact⟨t',GK _ U,c⟩
    ∎
  ∎
def wU(h:MK m ts (ps++[(a,l)]))(B:∀x∈ts,x<=t)(A:t-l<=m)(G:0<=m):MK m (ts++[t]) (ps++[(a,t)]):=by
  have Y:(a,l)∈ps++[(a,l)]:=Dl _ (.head _);have U:∀p∈ps,p∈ps++[(a,l)]:=λp D=>GK _ D;have H:=B l (h.hi _ Y);have F:=h.le _ Y;obtain⟨a1,_,W⟩:=Me.mp h.ap;have W:=λp D=>W p D _ (.head _);have sp:∀{R:Int×Int->Prop},(∀p∈ps,R p)->R _->∀p∈ps++[(a,t)],R p:=λa b p D=>by
    rcases Cb.mp D with D|D;.exact a p D
    .rw[Cd.mp D];exact b
  refine⟨?_,sp (λp D=>h.le p (U p D)) ∎,λx J=>?_,sp (λp D=>GK _ (h.lo p (U p D))) (GK _ (show a∈ts from h.lo _ Y)),sp (λp D=>GK _ (h.hi p (U p D))) (Dl _ (.head _)),sp (λp D x J b c=>?_) λx J b c=>?_⟩
  . refine Me.mpr ⟨a1,AJa _ _,λp D q E=>?_⟩;rw[Cd.mp E];exact W p D
  . rcases Cb.mp J with J|J
    . obtain⟨p,D,Z,C⟩:=h.uv x J;rcases Cb.mp D with D|D;.exact⟨p,GK _ D,Z,C⟩
      . rw[Cd.mp D]at Z;exact⟨_,Dl _ (.head _),Z,B x J⟩
    . rw[Cd.mp J];exact⟨_,Dl _ (.head _),∎,Ut _⟩
  . rcases Cb.mp J with J|J
    . obtain⟨t',V,c⟩:=h.co p (U p D) x J b c;exact⟨t',GK _ V,c⟩
    . have:=W p D;have:=Cd.mp J;∎
  . rcases Cb.mp J with J|J
    . by_cases q:x<l
      . obtain⟨t',V,c⟩:=h.co _ Y x J b q;exact⟨t',GK _ V,c⟩
      .exact⟨t,Dl _ (.head _),c,∎⟩
    . have:=Cd.mp J;∎
def E7:Ao->List Int->Int->Int->Prop|.each _ _ _ z d,ts,b,e=>e=b+z/\∃t∈ts,b∈EV t z d|.gap _ _ _ m,ts,b,e=>∃l,e=l+m+1/\KJ m ts b l|_,_,_,_=>False
def aZ(U:IW s)(J:Hl ts)(h:E7 s ts b e):∃t∈ts,b<=t/\t<e:=by cases s with|each n a so z d=>obtain⟨rfl,t,D,V⟩:=h;obtain⟨⟨W,Y,Z,A,_⟩,_⟩:=U;have:=(aO ⟨W,Y,Z,A,(J t D).1,(J t D).2⟩).mp V;∎|gap n a so m=>obtain⟨l,rfl,h1,h2,B,_⟩:=h;have:=U.1;∎|_=>exact h.elim
def Vh(J:0<=m):∀(n:Nat){ts:List Int},ts.length=n->ts.Pairwise (.<=.)->MK m ts (ts.foldl (Fg m) [])
  |0,ts,e,_=>by cases Jm.mp e;exact⟨.nil,∎,∎,∎,∎,∎⟩|n+1,ts,e,V=>by
    rcases Mb ts with rfl|⟨l,t,rfl⟩;.cases e
    . rw[Ma]at e V⊢;rw[Bi]at e;obtain⟨p1,_,Z⟩:=Me.mp V;have D:=Vh J n (Kn e) p1;rw[XC,Mc];generalize l.foldl (Fg m) []=ps at D⊢;have Y:∀x∈l,x<=t:=(by simp_all);rcases Mb ps with rfl|⟨qs,p,rfl⟩;.exact D.ph ∎ J
      . rw[Ma]at D⊢;have W:Fg m (qs++[p]) t=if m<t-p.2 then qs++[p]++[(t,t)]else qs++[(p.1,t)]:=by simp[Fg]
        rw[W];split
        . refine D.ph (λq U=>?_) J;rcases Cb.mp U with U|U
          . have h1:=(Me.mp D.ap).2.2 q U p ∎;have h2:=D.le p ∎;∎
          ∎
        .exact wU D Y ∎ J
def V4{ts:List Int}(D:IW s)(W:ts.Pairwise (.<=.))(b e:Int):(b,e)∈Nd s ts↔E7 s ts b e:=by cases s with
 |gap n a so m=>
  have h:=Vh D.1 _ rfl W;show(b,e)∈Kl _ _↔∃l,e=l+m+1/\KJ m ts b l;rw[B8];constructor;. rintro⟨⟨J,l⟩,h1,h2⟩;cases h2;exact⟨l,rfl,(h.yd D.1 J l).mp h1⟩
  . rintro⟨l,rfl,h1⟩;exact⟨_,(h.yd D.1 b l).mpr h1,rfl⟩|each n a so z d=>
  have V:∀k∈((E8 z d ts).map Bk:List AW),∃i,k=.inl i:=∎;show(b,e)∈Kl _ _↔e=b+z/\∃t∈ts,b∈EV t z d;have Y:b∈GU ((E8 z d ts).map Bk)↔∃t∈ts,b∈EV t z d:=by
   rw[(M6 V).2.1,B8];have:=(ML (ts.flatMap λt=>EV t z d) [] Ft).2.1 b;constructor
   . rintro⟨i,hi,U⟩;rw[ALo U]at hi;rcases this.mp hi with h|h;all_goals∎
   . intro h;exact⟨b,this.mpr ∎,rfl⟩
  ∎|_=>exact D.elim
def AAs{ts:List Int}(D:IW s)(W:ts.Pairwise (.<=.)):(Nd s ts).Nodup:=by cases s with|gap n a so m=>have h:=Vh D.1 _ rfl W;refine HS.mpr ((ALr.mp h.ap).imp λ{p q}⟨U,Y,V⟩e=>?_);have h1:=(Mg e).1;have h2:=h.le p U;have:=D.1;∎|each n a so z d=>have J:∀k∈((E8 z d ts).map Bk:List AW),∃i,k=.inl i:=∎;have hn:((E8 z d ts).map Bk:List AW).Nodup:=HS.mpr ((ML _ [] Ft).1.imp ∎);refine HS.mpr (((M6 J).2.2.2.1 hn).imp λ{p q}h e=>?_);∎|_=>exact D.elim
def Rr(h:∀t,t∈ts↔t∈D):E7 s ts b e↔E7 s D b e:=by cases s with|each n a so z d=>show(_/\∃t∈ts,_)↔(_/\∃t∈D,_);∎|gap n a so m=>show(∃l,_/\KJ m ts b l)↔(∃l,_/\KJ m D b l);unfold KJ;∎|_=>rfl
def Vm{d x y:Int}(W:1<=d)(D:x%d=0)(J:y%d=0)(h1:y-d<x)(h2:x<=y):x=y:=by
 have U:(y-x)%d=0:=by rw[AJE,D,J];simp
 have V:=Int.emod_eq_of_lt (a:=y-x) (b:=d) (by omega) (by omega);omega
def xT{ts:List Int}(ok:IW (.each n a so z d))(S:Hl ts)(k:ts.length<=100000):∃ws:List (Int×Int),KP [(Ao.each n a so z d).D,.l (ts.map .i)]=AA (.n (.L ((ws.map CI).map .d)))/\ws.Nodup/\(∀b e,(b,e)∈ws↔E7 (.each n a so z d) ts b e)/\ws.length<=21*ts.length:=by
  have hf:KP [.t [.s "each",.s n,.s a,.s so,.i z,.i d],.l (ts.map .i)]=EK (NH.1 _):=Cg (by rfl);show∃ws:List (Int×Int),KP [.t [.s "each",.s n,.s a,.s so,.i z,.i d],.l (ts.map .i)]=_/\_;rw[hf];clear hf;unfold NH;obtain⟨⟨W,P,Q,R,g⟩,_⟩:=ok;revert S k W P Q R g;lk;intro S k W P Q R g;have Z:∀t∈ts,LN t z d:=λt h=>⟨W,P,Q,R,(S t h).1,(S t h).2⟩;rw[AIk];refine Tt (λr=>∃ws:List (Int×Int),r=AA (.n (.L ((ws.map CI).map .d)))/\ws.Nodup/\(∀b e,(b,e)∈ws↔E7 (.each n a so z d) ts b e)/\ws.length<=21*ts.length) (λl τ=>∃(ws:List (Int×Int))(x3 x4 j:Option AU),(ws.Nodup/\(∀b e,(b,e)∈ws↔E7 (.each n a so z d) l b e)/\ws.length<=21*l.length)/\τ=[AA (.d (.t [.s "each",.s n,.s a,.s so,.i z,.i d])),AA (.d (.l (ts.map .i))),AA (.L ((ws.map CI).map .d)),x3,x4,j]) ⟨[],AB,AB,AB,⟨Ft,λb e=>⟨λh=>(nomatch h),λ⟨_,t,h,_⟩=>(nomatch h)⟩,Aw _⟩,rfl⟩ ?_ ?_
  . rintro l t r e _⟨V,x3,x4,j,⟨O,N,X⟩,rfl⟩;refine⟨_,rfl,?_⟩;have hW:LN t z d:=Z t (by rw[e];exact Dl _ (B7 ..));have F:l.length<=100000:=by rw[e,Bi]at k;∎
    have hm1:-2^64<d:=by∎
    have hm2:d<2^64:=by∎
    have hd1:0<d:=by∎
    have hd2:d<1073741824:=by∎
    have H:=hW.2.2.2.2.1;clear e k S Z;have J:∀(A B:AM->A8)(τ K:AM),A τ=.nx K->Gr A B τ=B K:=λA B τ K e=>by show D1 _ _=_;rw[e];rfl
    rw[J _ _ _ [AA (.d (.t [.s "each",.s n,.s a,.s so,.i z,.i d])),AA (.d (.l (ts.map .i))),AA (.L ((V.map CI).map .d)),AA (.d (.i t)),AA (.d (.i (t/d*d))),j] (by clear J O N X F H W P Q R g hW;lk)];have G:=wL t (b:=d) ∎;refine AIj (λm τ=>∃(ws:List (Int×Int))(st:Int),(ws.Nodup/\(∀b e,(b,e)∈ws↔(b,e)∈V\/(e=b+z/\b%d=0/\st<b/\b<=t/\t-z<b))/\ws.length+m<=V.length+20)/\(st%d=0/\st<=t/\st+z-t<=m*d)/\(∀b,b%d=0->b<=t->st-d<b->st<=b)/\τ=[AA (.d (.t [.s "each",.s n,.s a,.s so,.i z,.i d])),AA (.d (.l (ts.map .i))),AA (.L ((ws.map CI).map .d)),AA (.d (.i t)),AA (.d (.i st)),j]) 20 ⟨V,t/d*d,⟨O,λb e=>⟨.inl,λh=>h.elim id λ⟨_,h2,C,v,_⟩=>?_⟩,Aw _⟩,⟨wN _ _,G,∎⟩,λb h1 h2 C=>?_,rfl⟩ (by decide) ?_
    . have hx:=AJB t (b:=d) ∎;rw[AI9,Int.one_mul]at hx;exact absurd (Vm (x:=t/d*d) (y:=b) W (wN _ _) h2 ∎ ∎) ∎
    . by_cases c:t/d*d<=b;.exact c
      .exact absurd (Vm (x:=b) (y:=t/d*d) W h1 (wN _ _) C ∎) ∎
    . rintro m _⟨ws,st,⟨o,m1,l1⟩,⟨s1,s2,s3⟩,s4,rfl⟩;by_cases c:t<st+z
      . right;obtain⟨f,rfl⟩:∃f,m=f+1:=by cases m with |zero=>exact absurd s3 (by simp;∎)|succ m=>exact⟨m,rfl⟩
        have e5:(((f+1:Nat):Int))*d=(f:Int)*d+d:=by rw[AJD,AI9];simp
        rw[e5]at s3;have Y:(st-d)%d=0:=by rw[AJE,s1,Int.emod_self];simp
        have I:∀b,b%d=0->b<=t->st-d-d<b->st-d<=b:=λb h1 h2 C=>by
          by_cases c:st-d<=b;.exact c
          .exact absurd (Vm (x:=b) (y:=st-d) W h1 Y C ∎) ∎
        have U:∀b e,((b,e)∈ws\/(b,e)=(st,st+z))↔(b,e)∈V\/(e=b+z/\b%d=0/\st-d<b/\b<=t/\t-z<b):=∎;refine⟨?_,f,?_⟩
        . clear J O N X F H W P Q R g hW G o m1 l1 s1 s2 s3 s4 e5 Y I U;lk
        by_cases q:(st,st+z)∈ws
        . have E:LF AD (.d (.t [.i st,.i (st+z)])) (.L ((ws.map CI).map .d))=AA (.s (.b AH)):=(Ul (p:=(st,st+z))).trans (by rw[AMy q];rfl);refine⟨_,rfl,⟨ws,st-d,⟨o,λb e=>?_,∎⟩,⟨Y,∎,∎⟩,I,rfl⟩,.inl ?_⟩
          . rw[<-U];exact⟨.inl,λh=>h.elim id λh=>by rw[h];exact q⟩
          . generalize(ws.map CI).map AU.d=wl at E⊢;lk
        . have E:LF AD (.d (.t [.i st,.i (st+z)])) (.L ((ws.map CI).map .d))=AA (.s (.b AD)):=(Ul (p:=(st,st+z))).trans (by rw[AM0 q];rfl);have w:((ws.map CI).map AU.d).length<AY:=by rw[A4,A4,ES];∎
          refine⟨_,rfl,⟨ws++[(st,st+z)],st-d,⟨?_,λb e=>?_,by rw[Bi,G9];∎⟩,⟨Y,∎,∎⟩,I,rfl⟩,.inl ?_⟩;.∎
          .rw[<-U,Cb,Cd]
          . have e6:((ws++[(st,st+z)]).map CI).map AU.d=(ws.map CI).map AU.d++[.d (.t [.i st,.i (st+z)])]:=by rw[Cc,Cc];rfl
            rw[e6];generalize(ws.map CI).map AU.d=wl at E w⊢;lk
      . left;refine⟨?_,ws,_,_,_,⟨o,λb e=>?_,?_⟩,rfl⟩
        . clear J O N X F H W P Q R g hW G o m1 l1 s1 s2 s3 s4;lk
        . rw[m1,N];show(E7 _ l b e\/_)↔(e=b+z/\∃u∈l++[t],b∈EV u z d);have hs:=aO (x:=b) hW;constructor
          . rintro(⟨h1,u,M,h2⟩|⟨h1,h2,C,v,h5⟩);all_goals∎
          . rintro⟨h1,u,M,h2⟩;rcases Cb.mp M with M|M;.exact .inl ⟨h1,u,M,h2⟩
            . rw[Cd.mp M]at h2;obtain⟨C,v,h5⟩:=hs.mp h2;exact .inr ⟨h1,C,∎,v,h5⟩
        . rw[Bi,G9];∎
  . rintro _⟨ws,x3,x4,j,⟨O,N,X⟩,rfl⟩;exact⟨ws,rfl,O,N,X⟩
def zG(h:KJ m ts b l)(h':KJ m ts b D):l=D:=by obtain⟨a1,a2,J,U,V,W⟩:=h;obtain⟨Y,Z,A,B,C,E⟩:=h';∎
def IQ(m:Int)(ts:List Int)(la:Int):List Int:=ts.filter λo=>Af (la<o)&&Af (o<=la+m)
def KL(m:Int)(ts:List Int)(t:Int):List Int:=ts.filter λo=>Af (t-m<=o)&&Af (o<t)
def Vg:u∈IQ m ts la↔u∈ts/\la<u/\u<=la+m:=by unfold IQ;∎
def Zc:u∈KL m ts t↔u∈ts/\t-m<=u/\u<t:=by unfold KL;∎
def Vk:∀{l:List Int},l≠[]->∃k,J4 l=AA k/\k∈l/\∀y∈l,k<=y:=λ{l}h=>by cases l with |nil=>exact absurd rfl h|cons x r=> refine⟨_,rfl,?_⟩;clear h;induction r generalizing x with |nil=>exact⟨Cd.mpr rfl,λy D=>by rw[Cd.mp D];exact Ut _⟩|cons y r J=>
      obtain⟨h1,h2⟩:=J (Dx x y);rw[Mc];refine⟨?_,λz hz=>?_⟩;.∎
      . have U:=h2 _ (B7 ..);rcases Bw.mp hz with rfl|hz;.∎
        . rcases Bw.mp hz with rfl|hz;.∎
          .exact h2 z (DK _ hz)
def wX{ts:List Int}(h:a<b)(D:b∈ts):(ts.filter λu=>Af (b<u)).length<(ts.filter λu=>Af (a<u)).length:=by
 have e:(ts.filter λu=>Af (b<u))=(ts.filter λu=>Af (a<u)).filter λu=>Af (b<u):=by rw[AEp];∎
 rw[e];exact List.length_filter_lt_length_iff_exists.mpr ⟨b,∎,by simp⟩
def xU{ts:List Int}(P:0<=m)(K:ts.length<=1900):∃ws:List (Int×Int),KP [(Ao.gap n a so m).D,.l (ts.map .i)]=AA (.n (.L ((ws.map CI).map .d)))/\ws.Nodup/\(∀b e,(b,e)∈ws↔E7 (.gap n a so m) ts b e)/\ws.length<=21*ts.length:=by
  have hf:KP [.t [.s "gap",.s n,.s a,.s so,.i m],.l (ts.map .i)]=EK (NH.1 _):=Cg (by rfl);show∃ws:List (Int×Int),KP [.t [.s "gap",.s n,.s a,.s so,.i m],.l (ts.map .i)]=_/\_;rw[hf];clear hf;unfold NH;have hw:=Rq;have hz:AY=16777216:=ES;have U:ts.length<=AY:=by∎
  have W:∀la:Int,Im (Il (GS 0) (DZ (M7 Tv QT (Ai 1) (Ai 0) (Bg (A9 En (Ai 1) (A9 B9 (Ai 2) (Bg (CC (.s (.i 4))))))))) (BW (Ai 0)) [AB,AA (.d (.i la)),AA (.d (.t [.s "gap",.s n,.s a,.s so,.i m]))]) (AA (ts.map .i))=AA (.n (.L (((IQ m ts la).map .i).map .d))):=λla=>by rw[JA U (en:=AN.i) (g:=λo=>if(Af (la<o)&&Af (o<=la+m))=AD then AA (.i o)else AB) (by intro o _;clear P K hw hz U;lk;by_cases c1:la<o<;>by_cases I:o<=la+m<;>simp[c1,I])];rw[KQ (p:=λo=>Af (la<o)&&Af (o<=la+m)) (h:=AN.i) (λo=>rfl)];rfl
  have Z:∀t:Int,Im (Il (GS 0) (DZ (M7 QT Tv (Bg (A9 mL (Ai 1) (A9 B9 (Ai 2) (Bg (CC (.s (.i 4))))))) (Ai 0) (Ai 1))) (BW (Ai 0)) [AB,AA (.d (.i t)),AA (.d (.t [.s "gap",.s n,.s a,.s so,.i m]))]) (AA (ts.map .i))=AA (.n (.L (((KL m ts t).map .i).map .d))):=λt=>by rw[JA U (en:=AN.i) (g:=λo=>if(Af (t-m<=o)&&Af (o<t))=AD then AA (.i o)else AB) (by intro o _;clear P K hw hz U W;lk;by_cases c1:t-m<=o<;>by_cases I:o<t<;>simp[c1,I])];rw[KQ (p:=λo=>Af (t-m<=o)&&Af (o<t)) (h:=AN.i) (λo=>rfl)];rfl
  revert P K hz U W Z;lk;intro P K hz U W Z;clear hw;refine Tt (λr=>∃ws:List (Int×Int),r=AA (.n (.L ((ws.map CI).map .d)))/\ws.Nodup/\(∀b e,(b,e)∈ws↔E7 (.gap n a so m) ts b e)/\ws.length<=21*ts.length) (λl τ=>∃(ws:List (Int×Int))(x3 x4 x5:Option AU),(ws.Nodup/\(∀b e,(b,e)∈ws↔b∈l/\E7 (.gap n a so m) ts b e)/\ws.length<=l.length)/\τ=[AA (.d (.t [.s "gap",.s n,.s a,.s so,.i m])),AA (.d (.l (ts.map .i))),AA (.L ((ws.map CI).map .d)),x3,x4,x5]) ⟨[],AB,AB,AB,⟨Ft,λb e=>⟨λh=>(nomatch h),λh=>(nomatch h.1)⟩,Aw _⟩,rfl⟩ ?_ ?_
  . rintro l t r e _⟨ws,x3,x4,x5,⟨O,S,l0⟩,rfl⟩;refine⟨_,rfl,?_⟩;have F:t∈ts:=by rw[e];exact Dl _ (B7 ..)
    have M:l.length<1900:=by rw[e,Bi,Fq]at K;∎
    have E:∀(A B:AM->A8)(τ V:AM),A τ=.nx V->Gr A B τ=B V:=λA B τ V e=>by show D1 _ _=_;rw[e];rfl
    have Y:∀(q:AM->Option Bool)(G B:AM->A8)(j:AM->Prop)(τ:Int->AM),(∀la,MC 5 (τ la)=τ la)->(∀la,q (τ la)=AA (!(IQ m ts la).isEmpty))->(∀la k,J4 (IQ m ts la)=AA k->G (τ la)=.nx (τ k))->(∀la,la∈ts/\t<=la/\(∀u∈ts,t<=u->u<la->∃f∈ts,u<f/\f<=u+m)/\(∀u∈ts,la<u->la+m<u)->∃V,j V/\(B (τ la)=.nx V\/B (τ la)=.ct V))->∃V,j V/\(Gr (KD [5] (GV q G 2000)) B (τ t)=.nx V\/Gr (KD [5] (GV q G 2000)) B (τ t)=.ct V):=λq G B j τ hrel hq hG hB=>by
      obtain⟨N,e1,la,e2,h1,h2,w,h4⟩:=Ue (q:=q) (G:=G) (J:=λN=>∃la,N=τ la/\la∈ts/\t<=la/\(∀u∈ts,t<=u->u<la->∃f∈ts,u<f/\f<=u+m)/\(∀u∈ts,la<u->la+m<u)) (λμ N=>∃la,N=τ la/\la∈ts/\t<=la/\(∀u∈ts,t<=u->u<la->∃f∈ts,u<f/\f<=u+m)/\(ts.filter λu=>Af (la<u)).length<=μ) (λμ N⟨la,e2,h1,h2,w,h4⟩=>by
        subst e2;by_cases c:IQ m ts la=[]
        . left;refine⟨by rw[hq,c];rfl,la,rfl,h1,h2,w,λu Q hlt=>?_⟩;by_cases I:la+m<u;.exact I
          . have:=Vg.mpr ⟨Q,hlt,(by∎:u<=la+m)⟩;rw[c]at this;cases this
        . right;obtain⟨k,k1,k2,k3⟩:=Vk c;obtain⟨k4,k5,k6⟩:=Vg.mp k2;have hlt:=wX k5 k4;obtain⟨μ',rfl⟩:∃μ',μ=μ'+1:=by cases μ with |zero=>exact absurd h4 ∎|succ μ=>exact⟨μ,rfl⟩
          refine⟨by rw[hq];cases hc:IQ m ts la with|nil=>exact absurd hc c|cons x r=>rfl,μ',τ k,rfl,⟨k,rfl,k4,∎,λu Q hu1 hu2=>?_,∎⟩,.inl (hG la k k1)⟩;rcases AJC u la with I|I|I;.exact w u Q hu1 I
          .exact⟨k,k4,∎,∎⟩
          . have:=k3 u (Vg.mpr ⟨Q,I,∎⟩);∎) (n:=2000) (m:=1900) (τ:=τ t) ⟨t,rfl,F,Ut _,λu Q h1 h2=>absurd h1 ∎,Cj (JG ..) K⟩ (by decide);have e3:Gr (KD [5] (GV q G 2000)) B (τ t)=B (τ la):=by show D1 (GV q G 2000 (MC 5 (τ t))) B=_;rw[hrel,e1,e2];rfl
      rw[e3];exact hB la ⟨h1,h2,w,h4⟩
    refine Y _ _ _ _ (λla=>[AA (.d (.t [.s "gap",.s n,.s a,.s so,.i m])),AA (.d (.l (ts.map .i))),AA (.L ((ws.map CI).map .d)),AA (.d (.i t)),x4,AA (.d (.i la))]) (λla=>rfl) (λla=>?_) (λla k hk=>?_) (λla hP=>?_)
    . have h1:=W la;have h2:Cm AD (.L (((IQ m ts la).map .i).map .d)) (.L [])=AA (.s (.b (!(IQ m ts la).isEmpty))):=by rw[rF,Bool.xor_true]
      generalize IQ m ts la=C at h1 h2⊢;clear Y E O S l0 M P K hz U W Z F e;lk
    . have h1:=W la;have h2:Qb (.L (((IQ m ts la).map .i).map .d))=AA (.s (.i k)):=by rw[Y9,hk];rfl
      generalize IQ m ts la=C at h1 h2;clear Y E O S l0 M P K hz U W Z F e hk;lk
    . obtain⟨p1,p2,p3,p4⟩:=hP;have h1:=Z t;have h2:Cm AH (.L (((KL m ts t).map .i).map .d)) (.L [])=AA (.s (.b (KL m ts t).isEmpty)):=by rw[rF,Bool.xor_false]
      have R:((ws.map CI).map AU.d).length<AY:=by rw[A4,A4];∎
      by_cases v:KL m ts t=[]
      . have X:∀u∈ts,u<t->u+m<t:=λu Q h=>by
          by_cases I:u+m<t;.exact I
          . have:=Zc.mpr ⟨Q,(by∎:t-m<=u),h⟩;rw[v]at this;cases this
        have hG:KJ m ts t la:=⟨F,p1,p2,X,p4,p3⟩;clear X;have H:∀b e,((b,e)∈ws\/(b,e)=(t,la+m+1))↔b∈l++[t]/\E7 (.gap n a so m) ts b e:=λb e=>by
          rw[S,Cb,Cd];constructor
          . rintro(⟨h,h'⟩|h);.exact⟨.inl h,h'⟩
            . obtain⟨rfl,rfl⟩:=Mg h;exact⟨.inr rfl,la,rfl,hG⟩
          . rintro⟨h|rfl,h'⟩;.exact .inl ⟨h,h'⟩
            . obtain⟨l',rfl,h'⟩:=h';rw[zG h' hG];exact .inr rfl
        rw[v]at h1 h2;have h2:Cm AH (.L []) (.L [])=AA (.s (.b AD)):=h2;have h1:Im _ _=AA (.n (.L [])):=h1;by_cases ci:(t,la+m+1)∈ws
        . have z:LF AD (.d (.t [.i t,.i (la+m+1)])) (.L ((ws.map CI).map .d))=AA (.s (.b AH)):=(Ul (p:=(t,la+m+1))).trans (by rw[AMy ci];rfl);refine⟨_,⟨ws,AA (.d (.i t)),x4,AA (.d (.i la)),⟨O,λb e=>?_,by rw[Bi];∎⟩,rfl⟩,.inl ?_⟩;. rw[<-H];exact⟨.inl,λh=>h.elim id λh=>by rw[h];exact ci⟩
          . generalize(ws.map CI).map AU.d=wl at z⊢;clear Y E O S l0 M P K hz U W Z F e H hG ci R p1 p2 p3 p4 v;lk
        . have z:LF AD (.d (.t [.i t,.i (la+m+1)])) (.L ((ws.map CI).map .d))=AA (.s (.b AD)):=(Ul (p:=(t,la+m+1))).trans (by rw[AM0 ci];rfl);refine⟨_,⟨ws++[(t,la+m+1)],AA (.d (.i t)),x4,AA (.d (.i la)),⟨?_,λb e=>?_,by rw[Bi,Bi,G9,G9];∎⟩,rfl⟩,.inl ?_⟩;.exact HA.mpr ⟨O,EG.mpr ⟨(nomatch.),Ft⟩,λx hx y hy e=>ci (by rw[<-Cd.mp hy,<-e];exact hx)⟩
          .rw[<-H,Cb,Cd]
          . have e6:((ws++[(t,la+m+1)]).map CI).map AU.d=(ws.map CI).map AU.d++[.d (.t [.i t,.i (la+m+1)])]:=by rw[Cc,Cc];rfl
            rw[e6];generalize(ws.map CI).map AU.d=wl at z R⊢;clear Y E O S l0 M P K hz U W Z F e H hG ci p1 p2 p3 p4 v e6;lk
      . refine⟨_,⟨ws,AA (.d (.i t)),x4,AA (.d (.i la)),⟨O,λb e=>?_,by rw[Bi];∎⟩,rfl⟩,.inl ?_⟩
        . rw[S,Cb,Cd];constructor
          . rintro⟨h,h'⟩;exact⟨.inl h,h'⟩
          . rintro⟨h|rfl,h'⟩;.exact⟨h,h'⟩
            . obtain⟨l',_,_,_,_,h4,_⟩:=h';obtain⟨u,Q⟩:=List.exists_mem_of_ne_nil _ v;obtain⟨u1,u2,u3⟩:=Zc.mp Q;have:=h4 u u1 u3;∎
        . have w:(KL m ts t).isEmpty=AH:=by cases hc:KL m ts t with|nil=>exact absurd hc v|cons x r=>rfl
          rw[w]at h2;generalize KL m ts t=C at h1 h2;generalize(ws.map CI).map AU.d=wl at R⊢;clear Y E O S l0 M P K hz U W Z F e R p1 p2 p3 p4 v w;lk
  . rintro _⟨ws,x3,x4,x5,⟨O,S,l0⟩,rfl⟩;refine⟨ws,rfl,O,λb e=>?_,∎⟩;rw[S];exact⟨λh=>h.2,λh=>⟨by obtain⟨l,_,h,_⟩:=h;exact h,h⟩⟩
def Et(D:List Dp)(z:AG):List Dp:=D.filter λi=>Af (i.2.1=z)
def Gx(evs:List BB)(ss:List Ao)(q:DD):Prop:=∃s,ss[q.2.1]?=AA s/\s.br=AD/\(∃i∈Bl evs ss s.fd,i.2.1=q.2.2.1)/\E7 s ((Et (Bl evs ss s.fd) q.2.2.1).map (·.1)) q.2.2.2 q.1
def Rg(D:∀s∈ss,LQ s)(s:Ao):((Cw evs ss s).map (·.1)).Perm (Bl evs ss s.fd):=(HH.map _).trans (O4 _ rfl D _)
def zM{N:List BL}:(Cp N z).map (·.1)=Et (N.map (·.1)) z:=by unfold Cp Et;rw[f9];rfl
def aS(D:∀s∈ss,LQ s)(s:Ao)(z:AG)(t:Int):t∈Ht (Cp (Cw evs ss s) z)↔t∈(Et (Bl evs ss s.fd) z).map (·.1):=by
 have e:Ht (Cp (Cw evs ss s) z)=(Et ((Cw evs ss s).map (·.1)) z).map (·.1):=by rw[<-zM,Bj];rfl
 rw[e];exact((((Rg D s).filter _).map _).mem_iff)
def zW{s:Ao}(h:ss[p]?=AA s)(D:s.br=AD):p∈IV ss:=Sa.mpr ⟨(s,p),∎,∎⟩
def Rk:(Ht (Cp (Cw evs ss s) z)).Pairwise (.<=.):=V1 (V0) AEq
def Vl(h:NI evs ss)(U:∀s∈ss,LQ s)(q:DD):q∈G1 evs ss↔Gx evs ss q:=by
 have V:∀(s:Ao)(z:AG),z∈Br (Cw evs ss s)↔∃i∈Bl evs ss _,i.2.1=z:=λs z=>by
  rw[(LR _ _ rfl).2.1];constructor;. rintro⟨i,hi,e⟩;exact⟨i.1,(Rg U s).mem_iff.mp ∎,e⟩
  . rintro⟨i,hi,e⟩;obtain⟨j,U,rfl⟩:=B8.mp ((Rg U s).mem_iff.mpr hi);exact⟨j,U,e⟩
 constructor
 . intro J;obtain⟨p,W,J⟩:=Km.mp J;obtain⟨s,D,Y⟩:=Nc W;unfold FQ at J;rw[D]at J;obtain⟨z,hz,J⟩:=Km.mp J;obtain⟨w,hw,rfl⟩:=B8.mp J;refine⟨s,D,Y,(V s z).mp hz,?_⟩;exact(Rr (aS U s z)).mp ((V4 (h.ok p s D Y).1 Rk _ _).mp hw)
 . rintro⟨s,W,Y,Z,hw⟩;refine Km.mpr ⟨_,zW W Y,?_⟩;unfold FQ;rw[W];refine Km.mpr ⟨_,∎,B8.mpr ⟨(q.2.2.2,q.1),?_,rfl⟩⟩;exact(V4 (h.ok _ s W Y).1 Rk _ _).mpr ((Rr (aS U s _)).mpr hw)
def Vn{α β:Type}{f:α->List β}:∀{l:List α},l.Nodup->(∀x∈l,(f x).Nodup)->(∀x∈l,∀y∈l,∀b,b∈f x->b∈f y->x=y)->(l.flatMap f).Nodup|[],_,_,_=>Ft|x::l,h,h1,h2=>by obtain⟨V,D⟩:=EG.mp h;refine HA.mpr ⟨(by grind),Vn D (by grind) (by grind),λa J b U e=>?_⟩;grind
def bC:∀{l:List α}{n:Nat},(l.zipIdx n).map (·.2)=gH n l.length|[],_=>rfl|x::l,n=>by rw[AE1,Dw,bC];rfl
def AAd:(IV ss).Nodup:=by
  have h:(IV ss).Sublist ((ss.zipIdx).map (·.2)):=by unfold IV;generalize ss.zipIdx=l;induction l with |nil=>exact .slnil|cons p r J=>
      rw[SU];split;.exact .cons _ J
      . rename_i k D;split at D;.cases D;exact .cons₂ _ J
        .cases D
  refine ALq h ?_;rw[bC];exact List.nodup_range' ..
def Z9(h:NI evs ss):(G1 evs ss).Nodup:=by
  refine Vn AAd (λp V=>?_) λp V A W q D U=>?_
  . obtain⟨s,J,Y⟩:=Nc V;unfold FQ;rw[J];refine Vn (LR _ _ rfl).1 (λz hz=>?_) λz hz C Z q D U=>?_;.exact HS.mpr ((AAs (h.ok p s J Y).1 Rk).imp ∎)
    . obtain⟨w,_,rfl⟩:=B8.mp D;obtain⟨B,_,e⟩:=B8.mp U;∎
  . have pl:∀{p:Nat},q∈FQ evs ss p->q.2.1=p:=λ{p}D=>by
      unfold FQ at D;split at D
      . obtain⟨z,hz,D⟩:=Km.mp D;obtain⟨w,_,rfl⟩:=B8.mp D;rfl
      ∎
    ∎
def Z7(h:D6 q=D6 r):q=r:=by simp only[D6,ALv,Sum.inl.injEq,Sum.inr.injEq,and_true]at h;∎
def Z8{qs:List DD}(h:qs.Nodup):(qs.map D6).Nodup:=HS.mpr (h.imp λ{a b}D e=>D (Z7 e))
def KU(so:AG)(ns:List Int):Int:=if so="count"then(ns.length:Int)else if so="sum"then ns.sum else if so="least"then(J4 ns).getD 0 else(LD ns).getD 0
def FN(D:List Dp)(z:AG)(b e:Int):List Int:=(D.filter λi=>Af (i.2.1=z)&&(Af (b<=i.1)&&Af (i.1<e))).map (·.2.2)
noncomputable def GC(evs:List BB)(ss:List Ao)(q:DD):AN:=match ss[q.2.1]? with|AA s=>.t [.s s.nm,.s q.2.2.1,.i q.2.2.2,.i q.1,.i (KU s.jc (FN (Bl evs ss s.fd) q.2.2.1 q.2.2.2 q.1))]|AB=>.n
noncomputable def GY(evs:List BB)(ss:List Ao)(q:DD):AN:=.t [.i q.1,.i (q.2.1:Int),.s q.2.2.1,.i q.2.2.2,GC evs ss q]
def zA{so:AG}{lo:Int}(h:so="count"\/so="sum"\/so="least"\/so="greatest"):J5 (.M [.inr "count",.inr "sum",.inr "least",.inr "greatest"] [.d (.i n),.d (.i s),.d (.i lo),.d (.i hi)]) (.d (.s so))=AA (.d (.i (if so="count"then n else if so="sum"then s else if so="least"then lo else hi))):=by rcases h with rfl|rfl|rfl|rfl<;>rfl
def Ao.D3(s:Ao):∃k r,s.D=.t (.s k::.s s.nm::r)/\(s.br=AH->(k=BO "each")=False/\(k=BO "gap")=False):=by cases s<;>first|exact⟨_,_,rfl,λ_=>⟨AMx (by decide+kernel),AMx (by decide+kernel)⟩⟩|exact⟨_,_,rfl,λh=>(nomatch h)⟩
def wW{s:Ao}(D:s.br=AD):∃k r,s.D=.t (.s k::.s s.nm::.s s.fd::.s s.jc::r)/\(k=BO "each"\/(k=BO "each")=False/\k=BO "gap"):=by cases s<;>first|exact⟨_,_,rfl,_⟩|exact⟨_,_,rfl,∎⟩|cases D
def NU[DecidableEq α]:∀{l m:List α},l.Nodup->(∀x∈l,x∈m)->l.length<=m.length|[],_,_,_=>EA _|x::l,m,h,J=>by obtain⟨U,D⟩:=EG.mp h;have h1:=NU (m:=m.erase x) D ∎;∎
def xS{s:Ao}{D:List Int}(J:IW s)(V:Hl D)(U:D.length<=1900):∃ws:List (Int×Int),KP [s.D,.l (D.map .i)]=AA (.n (.L ((ws.map CI).map .d)))/\ws.Nodup/\(∀b e,(b,e)∈ws↔E7 s D b e)/\ws.length<=21*D.length:=by cases s with|each n a so z d=>exact xT J V ∎|gap n a so m=>exact xU J.1 U|_=>exact J.elim
def yD{s:Ao}(W:ss[p]?=AA s)(Y:s.br=AD)(J:s.jc="count"\/s.jc="sum"\/s.jc="least"\/s.jc="greatest"){z:AG}{ns:List Int}(V:ns=FN (Bl evs ss s.fd) z b e)(U:ns≠[]):∃v:Int,v=KU s.jc ns/\∃lo hi,J4 ns=AA lo/\LD ns=AA hi/\J5 (.M [.inr "count",.inr "sum",.inr "least",.inr "greatest"] [.d (.i (ns.length:Int)),.d (.i ns.sum),.d (.i lo),.d (.i hi)]) (.d (.s s.jc))=AA (.d (.i v))/\GY evs ss (e,p,z,b)=.t [.i e,.i (p:Int),.s z,.i b,.t [.s s.nm,.s z,.i b,.i e,.i v]]:=by cases D:ns with |nil=>∎|cons x r=>
 rw[<-D];have h1:J4 ns=AA (r.foldl Dx x):=by rw[D];rfl
 have h2:LD ns=AA (r.foldl Ey x):=by rw[D];rfl
 refine⟨_,rfl,_,_,h1,h2,?_,?_⟩
 . rw[zA J];unfold KU;∎
 . unfold GY GC;∎
structure RH(evs:List BB)(ss:List Ao):Prop where
 um:NI evs ss
 yx:Uv evs ss
 jn:∀s∈ss,LQ s
 ba:ss.length<=22
 tf:∀(p:Nat)s,ss[p]?=AA s->s.br=AD->∃l t r,ss=l++t::r/\t.nm=s.fd/\t.br=AH
 yw:∀(p:Nat)s,ss[p]?=AA s->s.br=AD->(Bl evs ss s.fd).length<=1800
 ye:(G1 evs ss).length<=8388608
def AAn{ns:List Int}:(Iq ns).length<=ns.length:=NU ((OT).2.imp ∎) λx D=>(OT.1 x).mp D
def yE{evs:List BB}{ss:List Ao}(h:RH evs ss):∃qs:List DD,Vb [.l (ss.map Ao.D),.l (evs.map Ak)]=AA (.n (.L (((Dz D6 qs).map (GC evs ss)).map .d)))/\qs.Nodup/\∀q,q∈qs↔Gx evs ss q:=by
  have hf:Vb [.l (ss.map Ao.D),.l (evs.map Ak)]=EK (RD.1 _):=Cg (by rfl);rw[hf];clear hf;unfold RD;have E:AY=16777216:=ES;have H:4000<F8:=by decide+kernel
  revert h E H;lk;intro h E H;refine Tt (en:=λp:Ao×Nat=>.t [.i (p.2:Int),p.1.D]) (λr=>∃qs:List DD,r=AA (.n (.L (((Dz D6 qs).map (GC evs ss)).map .d)))/\qs.Nodup/\∀q,q∈qs↔Gx evs ss q) (λl τ=>∃(qs:List DD)(x3 x4 x5 x6 x7 x8 x9 R S:Option AU),(qs.Nodup/\(∀q,q∈qs↔q.2.1<l.length/\Gx evs ss q))/\τ=[AA (.d (.l (ss.map Ao.D))),AA (.d (.l (evs.map Ak))),AA (.L ((qs.map (GY evs ss)).map .d)),x3,x4,x5,x6,x7,x8,x9,R,S]) ⟨[],AB,AB,AB,AB,AB,AB,AB,AB,AB,⟨Ft,λq=>⟨λh=>(nomatch h),λh=>(nomatch h.1)⟩⟩,rfl⟩ ?_ ?_
  . rintro l⟨s,p⟩r e _⟨qs,x3,x4,x5,x6,x7,x8,x9,R,S,⟨n0,m0⟩,rfl⟩;refine⟨_,rfl,?_⟩;have hz:ss.zipIdx[l.length]?=AA (s,p):=by rw[e,SW (Aw _),XM];rfl
    have hpl:p=l.length/\ss[p]?=AA s:=by rw[List.getElem?_zipIdx]at hz;obtain⟨x,hx,ex⟩:=BK.mp hz;cases ex;exact⟨∎,by rw[Sh];exact hx⟩
    obtain⟨rfl,u⟩:=hpl;have F:(l++[(s,l.length)]).length=l.length+1:=by rw[Bi];rfl
    by_cases K:s.br=AD
    . obtain⟨l0,t0,r0,es,en,et⟩:=h.tf l.length s u K;have hI:=Zm h.yx 22 l0 t0 r0 es et (by have:=h.ba;rw[es,Bi,Fq]at this;∎);rw[en]at hI;clear es en et;obtain⟨ok,hfd,hsl,htm⟩:=h.um.ok l.length s u K;have hso:=aR ok;have O:=h.yw l.length s u K;have I:∀i∈Bl evs ss s.fd,0<=i.1/\i.1<=2000000000:=λi hi=>by obtain⟨j,hj,rfl⟩:=B8.mp ((O4 _ rfl h.jn s.fd).mem_iff.mpr hi);exact htm _ (B8.mpr ⟨j,hj,rfl⟩)
      have P:∀q,Gx evs ss q->q∈G1 evs ss:=λq hq=>(Vl h.um h.jn q).mpr hq;have Y:=h.ye;obtain⟨k,rr,eD,hk⟩:=wW K;have hW:∀us:List Int,Hl us->us.length<=1900->∃ws:List (Int×Int),KP [s.D,.l (us.map .i)]=AA (.n (.L ((ws.map CI).map .d)))/\ws.Nodup/\(∀b e,(b,e)∈ws↔E7 s us b e)/\ws.length<=21*us.length:=λus h1 h2=>xS ok h1 h2;have C:∀q:DD,Gx evs ss q/\q.2.1=l.length↔q.2.1=l.length/\(∃i∈Bl evs ss s.fd,i.2.1=q.2.2.1)/\E7 s ((Et (Bl evs ss s.fd) q.2.2.1).map (·.1)) q.2.2.2 q.1:=λq=>by
        constructor
        . rintro⟨⟨s',h1,h2,o,h4⟩,h5⟩;rw[h5,u]at h1;cases h1;exact⟨h5,o,h4⟩
        . rintro⟨h5,o,h4⟩;exact⟨⟨s,by rw[h5];exact u,K,o,h4⟩,h5⟩
      have W:=λ(z:AG)(b e:Int)(ns:List Int)(h1:ns=FN (Bl evs ss s.fd) z b e)(h2:ns≠[])=>yD (evs:=evs) u K hso (z:=z) (b:=b) (e:=e) h1 h2;have Z:∀(us:List Int)(b e:Int),Hl us->E7 s us b e->∃t∈us,b<=t/\t<e:=λus b e h1 h2=>aZ ok h1 h2;rw[F];generalize Bl evs ss s.fd=J at hI O I C W;rw[eD]at hW⊢;have hif:∀(q:AM->Option Bool)(G G':AM->A8)(τ:AM),q τ=AA AD->KC q G G' τ=G τ:=λq G G' τ e=>by unfold KC;rw[e]
      have V:∀(A B:AM->A8)(τ τ2:AM),A τ=.nx τ2->Gr A B τ=B τ2:=λA B τ τ2 e=>by show D1 _ _=_;rw[e];rfl
      rw[hif _ _ _ _ (by
        clear h E H n0 m0 e hz u F K hI ok hfd hsl htm hso O I P Y eD hW C W Z hif V;rcases hk with rfl|⟨k1,rfl⟩;.lk
        .lk)];rw[V _ _ _ [AA (.d (.l (ss.map Ao.D))),AA (.d (.l (evs.map Ak))),AA (.L ((qs.map (GY evs ss)).map .d)),AA (.d (.i (l.length:Int))),AA (.d (.t (.s k::.s s.nm::.s s.fd::.s s.jc::rr))),AA (.L ((J.map Bp).map .d)),x6,x7,x8,x9,R,S] (by clear h E H n0 m0 e hz u F K ok hfd hsl htm hso O I P Y eD hW C W Z hif V hk;lk)];have U:J.length<=AY:=by∎
      have hc1:Im (Il (GS 0) Qj (BW (A9 B9 (Ai 0) (Bg (CC (.s (.i 1)))))) [AB]) (AA (J.map Bp))=AA (.n (.L (((J.map (·.2.1)).map .s).map .d))):=by rw[JV U (g:=λi=>.s i.2.1) (by intro i _;have hx:Bp i=.t [.i i.1,.s i.2.1,.i i.2.2]:=rfl;clear h E H n0 m0 e hz u F K ok hfd hsl htm hso O I P Y eD hW C W Z hif V hk hI U;lk),Bj (g:=AN.s)];rfl
      have hS1:=AIz (zs:=J.map (·.2.1)) (by rw[A4];∎);have N:∀z,z∈MG (J.map (·.2.1))↔∃i∈J,i.2.1=z:=λz=>by rw[Yg.2.1,B8]
      have Q:=(Yg (zs:=J.map (·.2.1))).2.2;generalize MG (J.map (·.2.1))=zs at hS1 N Q;have hTd:(AU.L ((J.map Bp).map .d)).fg=AA (.l (J.map Bp)):=KA;revert h E H n0 m0 e hz u F K ok hfd hsl htm hso O I P Y eD hW C W Z hif V hk hI U N Q;lk;intro h E H n0 m0 e hz u F K ok hfd hsl htm hso P Y eD hk hW Z hI O I C W hif V U N Q;clear hc1 hS1 hTd hif V h e hz F ok hfd hsl htm hso eD hk hI;have V:∀(A B:AM->A8)(τ τ2:AM),A τ=.nx τ2->Gr A B τ=B τ2:=λA B τ τ2 e=>by show D1 _ _=_;rw[e];rfl
      have hqs:∀q∈qs,Gx evs ss q:=λq hq=>((m0 q).mp hq).2;generalize hst:(AN.t (.s k::.s s.nm::.s s.fd::.s s.jc::rr))=sD at hW;refine QR (en:=AN.s) (xs:=zs) (λm τ=>∃(rs:List DD)(x6 x7 x8 x9 R S:Option AU),(rs.Nodup/\∀q,q∈rs↔q∈qs\/(q.2.1=l.length/\q.2.2.1∈m/\E7 s ((Et J q.2.2.1).map (·.1)) q.2.2.2 q.1))/\τ=[AA (.d (.l (ss.map Ao.D))),AA (.d (.l (evs.map Ak))),AA (.L ((rs.map (GY evs ss)).map .d)),AA (.d (.i (l.length:Int))),AA (.d sD),AA (.d (.l (J.map Bp))),x6,x7,x8,x9,R,S]) ⟨qs,x6,x7,x8,x9,R,S,⟨n0,λq=>⟨.inl,λh=>h.elim id λh=>(nomatch h.2.1)⟩⟩,rfl⟩ ?_ ?_
      . rintro m z r' e' _⟨rs,y6,y7,y8,y9,y10,y11,⟨n1,m1⟩,rfl⟩;refine⟨_,rfl,?_⟩;have hzi:∃i∈J,i.2.1=z:=(N z).mp (by rw[e'];exact Dl _ (B7 ..));have hzm:z∉m:=λhc=>by rw[e']at Q;exact(HA.mp Q).2.2 z hc z (B7 ..) rfl
        have hml:∀y∈m,∃i∈J,i.2.1=y:=λy hy=>(N y).mp (by rw[e'];exact GK _ hy);have hrs:∀q∈rs,Gx evs ss q:=λq hq=>by
          rcases(m1 q).mp hq with h|⟨h1,h2,o⟩;.exact hqs q h
          .exact((C q).mpr ⟨h1,hml _ h2,o⟩).1
        have htl:((Et J z).map (·.1)).length<=J.length:=by rw[A4];exact JG ..
        have hS2:=AIy (ns:=(Et J z).map (·.1)) ∎;have hul:(Iq ((Et J z).map (·.1))).length<=1900:=Cj AAn ∎;have hut:Hl (Iq ((Et J z).map (·.1))):=λt K=>by obtain⟨i,hi,rfl⟩:=B8.mp ((OT.1 t).mp K);exact I i (Ea.mp hi).1
        obtain⟨ws,hw1,hw2,hw3,hw4⟩:=hW _ hut hul;have f:∀b e,(b,e)∈ws↔E7 s ((Et J z).map (·.1)) b e:=λb e=>(hw3 b e).trans (Rr OT.1);have hmt:Hl ((Et J z).map (·.1)):=λt K=>by obtain⟨i,hi,rfl⟩:=B8.mp K;exact I i (Ea.mp hi).1
        have hc2:Im (Il (GS 0) (DZ (A9 (Cm AH) (A9 B9 (Ai 0) (Bg (CC (.s (.i 1))))) (Ai 1))) (BW (A9 B9 (Ai 0) (Bg (CC (.s (.i 0)))))) [AB,AA (.d (.s z))]) (AA (J.map Bp))=AA (.n (.L ((((Et J z).map (·.1)).map .i).map .d))):=by rw[JA U (en:=Bp) (g:=λi=>if Af (i.2.1=z)=AD then AA (.i i.1)else AB) (by intro i _;have hx:Bp i=.t [.i i.1,.s i.2.1,.i i.2.2]:=rfl;clear hw1 hw2 hw3 hw4 f hmt hS2 hul hut htl hrs hml hzm hzi m1 n1 e' hqs V E H n0 m0 u K P Y hW Z O I C W U N Q hst;lk)];rw[KQ (p:=λi:Dp=>Af (i.2.1=z)) (h:=λi:Dp=>AN.i i.1) (λi=>rfl)];unfold Et;rw[Bj (g:=AN.i)];rfl
        have hnew:∀w∈ws,Gx evs ss (w.2,l.length,z,w.1):=λw hw=>((C (w.2,l.length,z,w.1)).mpr ⟨rfl,hzi,(f w.1 w.2).mp hw⟩).1;rw[V _ _ _ [AA (.d (.l (ss.map Ao.D))),AA (.d (.l (evs.map Ak))),AA (.L ((rs.map (GY evs ss)).map .d)),AA (.d (.i (l.length:Int))),AA (.d sD),AA (.d (.l (J.map Bp))),AA (.d (.s z)),AA (.L (((Iq ((Et J z).map (·.1))).map .i).map .d)),y8,y9,y10,y11] (by clear hw1 hw2 hw3 hw4 f hmt hul hut htl hrs hml hzm hzi m1 n1 e' hqs V E H n0 m0 u K P Y hW Z O I C W U N Q hst hnew;generalize(Et J z).map (·.1)=tz at hS2 hc2⊢;lk)];clear hS2 hc2;have hU:(AU.L (((Iq ((Et J z).map (·.1))).map .i).map .d)).fg=AA (.l ((Iq ((Et J z).map (·.1))).map .i)):=KA;generalize Iq ((Et J z).map (·.1))=us at hw1 hw3 hw4 hut hul hU⊢;revert hw2 hw3 hw4 f hmt hul hut htl hrs hml hzm hzi m1 n1 e' hqs V E H n0 m0 u K P Y hW Z O I C W U N Q hst hnew;lk;intro E H n0 m0 u K P Y Z O I C W U N Q V hqs hst hW e' n1 m1 hzi hzm hml hrs htl hw2 f hmt hnew g1 g2 g3 g4;clear hw1 hU V hW g1 g2 g3 g4 H n0 u K I C N Q e' hzi hml htl O;have hall:∀q,q∈rs++ws.map (λw=>((w.2,l.length,z,w.1):DD))↔q∈qs\/(q.2.1=l.length/\q.2.2.1∈m++[z]/\E7 s ((Et J q.2.2.1).map (·.1)) q.2.2.2 q.1):=λq=>by
          rw[Cb,m1,B8,Cb,Cd];constructor
          . rintro((h|⟨h1,h2,o⟩)|⟨w,hw,rfl⟩);.exact .inl h
            .exact .inr ⟨h1,.inl h2,o⟩
            .exact .inr ⟨rfl,.inr rfl,(f w.1 w.2).mp hw⟩
          . rintro(h|⟨h1,h2|h2,o⟩);.exact .inl (.inl h)
            .exact .inl (.inr ⟨h1,h2,o⟩)
            . rw[h2]at o;exact .inr ⟨(q.2.2.2,q.1),(f _ _).mpr o,by obtain⟨a,b,c,d⟩:=q;cases h1;cases h2;rfl⟩
        have hnd:(rs++ws.map (λw=>((w.2,l.length,z,w.1):DD))).Nodup:=by
          refine HA.mpr ⟨n1,HS.mpr (hw2.imp λ{a b}hab e=>hab (Sj (Mg (Mg (Mg e).2).2).2 (Mg e).1)),λq hq q' hq' e=>?_⟩;subst e;obtain⟨w,hw,rfl⟩:=B8.mp hq';rcases(m1 _).mp hq with h|⟨_,h2,_⟩;.exact absurd ((m0 _).mp h).1 (HB _)
          .exact hzm h2
        have hlen2:(rs++ws.map (λw=>((w.2,l.length,z,w.1):DD))).length<=8388608:=by
          refine Cj (NU hnd λq hq=>P q ?_) Y;rcases Cb.mp hq with h|h;.exact hrs q h
          . obtain⟨w,hw,rfl⟩:=B8.mp h;exact hnew w hw
        refine QR (en:=CI) (xs:=ws) (λk τ=>∃x8 x9 R S:Option AU,τ=[AA (.d (.l (ss.map Ao.D))),AA (.d (.l (evs.map Ak))),AA (.L (((rs++k.map (λw=>((w.2,l.length,z,w.1):DD))).map (GY evs ss)).map .d)),AA (.d (.i (l.length:Int))),AA (.d sD),AA (.d (.l (J.map Bp))),AA (.d (.s z)),AA (.d (.l (us.map .i))),x8,x9,R,S]) ⟨y8,y9,y10,y11,by rw[Po,Ek]⟩ ?_ ?_
        . rintro kk w r2 e2 _⟨v8,v9,v10,v11,rfl⟩;refine⟨_,rfl,?_⟩;have hww:w∈ws:=by rw[e2];exact Dl _ (B7 ..)
          obtain⟨t,ht1,ht2,ht3⟩:=Z _ _ _ hmt ((f w.1 w.2).mp hww);obtain⟨i,hi,rfl⟩:=B8.mp ht1;have hne:FN J z w.1 w.2≠[]:=λhc=>by have:i.2.2∈FN J z w.1 w.2:=B8.mpr ⟨i,Ea.mpr ⟨(Ea.mp hi).1,by have:=(Ea.mp hi).2;rw[this,AMy ht2,AMy ht3];rfl⟩,rfl⟩;rw[hc]at this;cases this
          obtain⟨v,hv,lo,hi',hlo,hhi,hX,hM⟩:=W z w.1 w.2 _ rfl hne;have hll:(((rs++kk.map (λw=>((w.2,l.length,z,w.1):DD))).map (GY evs ss)).map AU.d).length<AY:=by rw[e2,Cc,Dw]at hlen2;rw[A4,A4,Bi,E];rw[Bi,Bi,Fq]at hlen2;∎
          refine⟨_,⟨AA (.d (.i w.1)),AA (.d (.i w.2)),AA (.L (((FN J z w.1 w.2).map .i).map .d)),AA (.d (.i v)),rfl⟩,.inl ?_⟩;have hcon:(((rs++(kk++[w]).map (λw=>((w.2,l.length,z,w.1):DD))).map (GY evs ss)).map AU.d)=(((rs++kk.map (λw=>((w.2,l.length,z,w.1):DD))).map (GY evs ss)).map AU.d)++[.d (.t [.i w.2,.i (l.length:Int),.s z,.i w.1,.t [.s s.nm,.s z,.i w.1,.i w.2,.i v]])]:=by rw[<-hM];simp only[Cc,Gg];rfl
          rw[hcon,<-hst];generalize(((rs++kk.map (λw=>((w.2,l.length,z,w.1):DD))).map (GY evs ss)).map AU.d)=fl at hll⊢;have hY:Tn (AA [(.inr (BO "count"),.inl ((FN J z w.1 w.2).length:Int)),(.inr (BO "sum"),.inl (FN J z w.1 w.2).sum),(.inr (BO "least"),.inl lo),(.inr (BO "greatest"),.inl hi')])=AA (.n (.M [.inr "count",.inr "sum",.inr "least",.inr "greatest"] [.d (.i ((FN J z w.1 w.2).length:Int)),.d (.i (FN J z w.1 w.2).sum),.d (.i lo),.d (.i hi')])):=AIn (by show 4<=15;decide) (by show([.inr (BO "count"),.inr (BO "sum"),.inr (BO "least"),.inr (BO "greatest")]:List AW).Nodup;decide+kernel);have X:(J.filter λi:Dp=>Af (i.2.1=z)&&(Af (w.1<=i.1)&&Af (i.1<w.2))).map (λi:Dp=>AN.i i.2.2)=(FN J z w.1 w.2).map .i:=by unfold FN;rw[Bj (g:=AN.i)];rfl
          generalize FN J z w.1 w.2=ns at hlo hhi hX hY X⊢;clear hcon hM hv hne hww hi ht1 ht2 ht3 e2 hall hnd hlen2 W m0 hqs hzm Z hmt Y P hnew hrs f hw2 m1 n1 E hst;revert U X;lk;intro U X;rw[JA U (en:=Bp) (g:=λi:Dp=>if(Af (i.2.1=z)&&(Af (w.1<=i.1)&&Af (i.1<w.2)))=AD then AA (.i i.2.2)else AB) (by intro i _;have hx:Bp i=.t [.i i.1,.s i.2.1,.i i.2.2]:=rfl;clear U X hll hlo hhi hX hY;lk;by_cases c1:i.2.1=z<;>by_cases c2:w.1<=i.1<;>by_cases c3:i.1<w.2<;>simp[c1,c2,c3])];rw[KQ (p:=λi:Dp=>Af (i.2.1=z)&&(Af (w.1<=i.1)&&Af (i.1<w.2))) (h:=λi:Dp=>AN.i i.2.2) (λi=>rfl),X];clear U X;lk
        . rintro _⟨v8,v9,v10,v11,rfl⟩;exact⟨_,_,_,_,_,_,_,⟨hnd,hall⟩,rfl⟩
      . rintro _⟨rs,y6,y7,y8,y9,y10,y11,⟨n1,m1⟩,rfl⟩;refine⟨rs,_,_,_,_,_,_,_,_,_,⟨n1,λq=>?_⟩,rfl⟩;rw[m1,m0];constructor
        . rintro(⟨h1,h2⟩|⟨h1,h2,o⟩);.exact⟨∎,h2⟩
          .exact⟨∎,((C q).mpr ⟨h1,(N _).mp h2,o⟩).1⟩
        . rintro⟨h1,h2⟩;by_cases c:q.2.1=l.length;. obtain⟨o,h4,h5⟩:=(C q).mp ⟨h2,c⟩;exact .inr ⟨o,(N _).mpr h4,h5⟩
          .exact .inl ⟨∎,h2⟩
    . have K:s.br=AH:=Bool.eq_false_iff.mpr K;obtain⟨k,r2,eD,hk⟩:=s.D3;obtain⟨k1,k2⟩:=hk K;refine⟨_,⟨qs,AA (.d (.i (l.length:Int))),AA (.d s.D),x5,x6,x7,x8,x9,R,S,⟨n0,λq=>?_⟩,rfl⟩,.inl ?_⟩
      . rw[m0,F];constructor;. rintro⟨h1,h2⟩;exact⟨∎,h2⟩
        . rintro⟨h1,h2⟩;refine⟨?_,h2⟩;obtain⟨s',o,h4,_⟩:=h2;by_cases c:q.2.1=l.length
          . rw[c,u]at o;cases o;rw[K]at h4;cases h4
          .∎
      . rw[eD];clear h E H n0 m0 e hz u F K hk eD;lk
  . rintro _⟨qs,x3,x4,x5,x6,x7,x8,x9,R,S,⟨n0,m0⟩,rfl⟩;have hmem:∀q,q∈qs↔Gx evs ss q:=λq=>by rw[m0,Lq];exact⟨λh=>h.2,λh=>⟨by obtain⟨s,h1,_⟩:=h;exact(EN.mp h1).1,h⟩⟩
    refine⟨qs,?_,n0,hmem⟩;have hB:=uV (t:=.L ((qs.map (GY evs ss)).map .d)) (en:=GY evs ss) (ky:=D6) (xs:=qs) lS (λq hq=>?_) [AD,AD,AH,AD] (by decide) (λq _=>rfl) (Z8 n0)
    . have hl:(Dz D6 qs).length<=AY:=by rw[HH.length_eq];have:=NU n0 λq hq=>(Vl h.um h.jn q).mpr ((hmem q).mp hq);have:=h.ye;∎
      clear h E H n0 m0 hmem;generalize(qs.map (GY evs ss)).map AU.d=ml at hB;generalize Dz D6 qs=rs at hB hl⊢;revert hl;lk;intro hl;rw[JV hl (g:=GC evs ss) (by intro q hq;have hx:GY evs ss q=.t [.i q.1,.i (q.2.1:Int),.s q.2.2.1,.i q.2.2.2,GC evs ss q]:=rfl;clear hl hB;lk)];clear hl hB;lk
    . obtain⟨s,h1,_⟩:=(hmem q).mp hq;unfold GY GC;simp only[h1];rfl
def AAT{D:List DD}(h:D.Perm bs):Dz D6 D=Dz D6 bs:=by have h1:((Gq (D.map λx=>(D6 x,x)))).Perm _:=(LB _).trans (h.map _);have h2:=Ye h1 (LB _) (Mv _) (Mv _) (λp J q U e=>by obtain⟨x,_,rfl⟩:=B8.mp J;obtain⟨y,_,rfl⟩:=B8.mp U;exact Z7 e);unfold Dz;rw[h2]
def aA:∀{l:List Int},l≠[]->∃k,LD l=AA k/\k∈l/\∀y∈l,y<=k:=λ{l}h=>by cases l with |nil=>exact absurd rfl h|cons x r=> refine⟨_,rfl,?_⟩;clear h;induction r generalizing x with |nil=>exact⟨Cd.mpr rfl,λy D=>by rw[Cd.mp D];exact Ut _⟩|cons y r J=>
      obtain⟨h1,h2⟩:=J (Ey x y);rw[Mc];refine⟨?_,λz hz=>?_⟩;.∎
      . have U:=h2 _ (B7 ..);rcases Bw.mp hz with rfl|hz;.∎
        . rcases Bw.mp hz with rfl|hz;.∎
          .exact h2 z (DK _ hz)
def AAZ{D bs:List Int}(h:D.Perm bs):D.sum=bs.sum:=by induction h with|nil=>rfl|cons x _ J=>∎|swap x y l=>∎|trans _ _ a b=>∎
def bB{D:List Int}(h:D.Perm bs):KU so D=KU so bs:=by
 have Y:J4 D=J4 bs:=by
  by_cases c:D=[];.simp_all
  . obtain⟨a,a1,a2,J⟩:=Vk c;obtain⟨b,U,V,W⟩:=Vk (l:=bs) ∎;∎
 have Z:LD D=LD bs:=by
  by_cases c:D=[];.simp_all
  . obtain⟨a,a1,a2,J⟩:=aA c;obtain⟨b,U,V,W⟩:=aA (l:=bs) ∎;∎
 unfold KU;rw[Y,Z,h.length_eq,AAZ h]
def AAp{M:List BL}:O8 so M=KU so (M.map λi=>i.1.2.2):=by cases M with
  |nil=>
    unfold KU;split;.rfl
    . split;.rfl
      .split<;>rfl|cons x r=>rfl
def AAK(D:∀s∈ss,LQ s)(q:DD):Na evs ss q=GC evs ss q:=by unfold Na GC;cases U:ss[q.2.1]? with|none=>rfl|some s=>
 simp only;rw[AAp];have J:(((Cp (Cw evs ss s) q.2.2.1).filter (Fh q.2.2.2 q.1)).map λi=>i.1.2.2).Perm (FN (Bl evs ss s.fd) q.2.2.1 q.2.2.2 q.1):=by
  have e:((Cp (Cw evs ss s) q.2.2.1).filter (Fh q.2.2.2 q.1)).map (λi=>i.1.2.2)=FN ((Cw evs ss s).map (·.1)) q.2.2.1 q.2.2.2 q.1:=by unfold Cp FN;rw[AEp,f9,Bj];congr 1;refine AJO λi _=>?_;unfold Fh Dq;∎
  rw[e];exact((Rg D s).filter _).map _
 rw[bB J]
def aU{evs:List BB}{ss:List Ao}(h:RH evs ss){qs:List DD}(hn:qs.Nodup)(D:∀q,q∈qs↔Gx evs ss q):Oy [.l (ss.map Ao.D),.l (evs.map Ak)]=AA (.n (.L (((Dz D6 qs).map (GC evs ss)).map .d))):=by
 have J:=(List.perm_ext_iff_of_nodup (Z9 h.um) hn).mpr λq=>by rw[Vl h.um h.jn,D]
 rw[yS h.um (Z8 (Z9 h.um)),AAT J];congr 4;exact Ie λq _=>AAK h.jn q
def RY{evs:List BB}(V:evs.Perm D):∀(n:Nat){ss:List Ao},ss.length=n->∀a,(Bl evs ss a).Perm (Bl D ss a)
  |0,ss,e,a=>by cases Jm.mp e;exact .refl _|n+1,ss,e,a=>by
    rcases Mb ss with rfl|⟨l,s,rfl⟩;.cases e
    . rw[Ma]at e⊢;rw[Bi]at e;have J:=RY V n (Kn e);rw[O1,O1];unfold NX;by_cases c:a=s.nm
      . rw[AMu c,AMu c];cases s with |take m k=>exact(V.filter _).map _|only m b lo hi=>exact(J b).filter _|turn m b f g=>exact(J b).map _|both m b U=>exact(J b).append (J U)|join m b U w=>show(VM w _ _).Perm _;exact(Vp ∎).trans ((J b).flatMap_right _)|gap m b so v=>exact J b|each m b so z d=>exact J b
      ∎
def zH{evs:List BB}(J:evs.Perm D):Gx evs ss q↔Gx D ss q:=by
 refine exists_congr λs=>AM6 wK (AM6 wK (AM6 ?_ ?_));.exact exists_congr λi=>AM6 ((RY J _ rfl _).mem_iff) wK
 .exact Rr λt=>((((RY J _ rfl _).filter _).map _).mem_iff)
def zS{evs:List BB}(U:evs.Perm D):GC evs ss q=GC D ss q:=by have J:∀(s:Ao)(z:AG)(b e:Int),(FN (Bl _ ss s.fd) z b e).Perm (FN _ z b e):=λs z b e=>((RY U _ rfl _).filter _).map _;unfold GC;cases V:ss[q.2.1]? with|none=>rfl|some s=>simp only;rw[bB (J s _ _ _)]
def AAf{evs D:List BB}(J:evs.Perm D){ss:List Ao}(h':RH D ss){qs:List DD}(hn:qs.Nodup)(U:∀q,q∈qs↔Gx evs ss q):Oy [.l (ss.map Ao.D),.l (D.map Ak)]=AA (.n (.L (((Dz D6 qs).map (GC evs ss)).map .d))):=by rw[aU h' hn λq=>(U q).trans (zH J)];congr 4;exact Ie λq _=>(zS J).symm
abbrev Om:=AG×AG×Int×Int×Int
def JD(r:Om):AN:=.t [.s r.1,.s r.2.1,.i r.2.2.1,.i r.2.2.2.1,.i r.2.2.2.2]
def RI(r:Om):Prop:=C1 r.1=AD/\C1 r.2.1=AD
def aJ:∀{J:List Om},(∀r∈J,RI r)->EE (J.map JD)=AD/\Fd (J.map JD)<=1
 |[],_=>⟨rfl,EA _⟩|r::J,h=>by
  obtain⟨h1,h2⟩:=aJ λx U=>h x (DK _ U);obtain⟨V,W⟩:=h r ∎;refine⟨?_,?_⟩
  . show((C1 _&&(C1 _&&AD))&&EE _)=AD;∎
  . show Ey 1 _<=1;∎
def yP{J:List Om}(h:∀r∈J,RI r):Ve [.l (J.map JD),.l (J.map JD)]=AA (.s (.b AD)):=by
 obtain⟨h1,h2⟩:=aJ h;have V:Cm AD (.d _) (.d (.l _))=AA _:=Q0 rfl rfl h1 (by show Fd _+1<=64;∎) rfl;have W:T8 .lst (.d (.l (J.map JD)))=AA _:=rfl;refine(Cg (by rfl)).trans ?_;unfold RF;lk;refine JO (λl τ=>∃U,τ=[AA _,AA _,U]) ⟨_,rfl⟩ ?_ ?_
 . rintro l⟨a,b,c,d,e⟩z e0 _⟨U,rfl⟩;refine⟨_,rfl,_,⟨AA (.d (JD (a,b,c,d,e))),rfl⟩,.inl ?_⟩;rfl
 . rintro _⟨U,rfl⟩;rfl
def G0(sl:Int)(st:List Int×Int)(p:BB×Nat):List Int×Int:=if p.1.1<st.2 then(st.1++[(p.2:Int)],st.2)else(st.1,if p.1.1-sl>st.2 then p.1.1-sl else st.2)
def Ra(sl:Int)(evs:List BB):List Int:=(evs.zipIdx.foldl (G0 sl) ([],0)).1
def Rb:∀{l:List (BB×Nat)}{st:List Int×Int},(l.foldl (G0 sl) st).1.length<=st.1.length+l.length
 |[],_=>Aw _|p::l,st=>by
  have h:=Rb (sl:=sl) (l:=l) (st:=G0 sl st p);have h2:(G0 sl st p).1.length<=st.1.length+1:=by unfold G0;∎
  ∎
def xQ{evs:List BB}(Y:evs.length<=100000):Va [.i sl,.l (evs.map Ak)]=AA (.n (.L (((Ra sl evs).map .i).map .d))):=by
  have J:AY=16777216:=ES;unfold Va;refine(Cg (by rfl)).trans ?_;unfold VD;revert Y J;lk;intro Y J;refine JO (λl τ=>∃Z A,τ=[AA (.d (.i sl)),AA (.d (.l (evs.map Ak))),AA (.L (((l.foldl (G0 sl) ([],0)).1.map .i).map .d)),AA (.d (.i (l.foldl (G0 sl) ([],0)).2)),Z,A]) ⟨AB,AB,rfl⟩ ?_ ?_
  . rintro l⟨U,n⟩z e _⟨Z,A,rfl⟩;refine⟨_,rfl,_,⟨AA (.d (.i (n:Int))),AA (.d (Ak U)),rfl⟩,.inl ?_⟩;have V:(((l.foldl (G0 sl) ([],0)).1.map AN.i).map AU.d).length<AY:=by have h1:=Rb (sl:=sl) (l:=l) (st:=([],0));have h2:=AMw Kk e;rw[Lq,Bi,Fq]at h2;∎
    rw[XC,Mc,gB];generalize l.foldl (G0 sl) ([],0)=st at V⊢;have C:Ak U=.t _:=rfl;by_cases c:U.1<st.2
    . have W:G0 sl st (U,n)=(st.1++[(n:Int)],st.2):=AMu c;rw[W];have B:(((st.1++[(n:Int)],st.2).1.map AN.i).map AU.d)=(st.1.map AN.i).map AU.d++[.d (.i (n:Int))]:=by simp
      rw[B];generalize(st.1.map AN.i).map AU.d=E at V⊢;clear W B e Y J;lk
    . have W:G0 sl st (U,n)=(st.1,if U.1-sl>st.2 then U.1-sl else st.2):=AMv c;rw[W];clear W e Y J V;lk
  . rintro _⟨Z,A,rfl⟩;rfl
abbrev Q4(s n k:Int):List (AG×AQ):=[("slack",.int s),("now",.int n),("count",.int k)]
def NR:List AW->Option (List AW)|[.inl s]=>if 0<=s/\s<=1000000000 then AA [.inl s,.inl 0,.inl 0]else AB|_=>AB
def Z0(h:NR D=AA ks):∃s:Int,D=[.inl s]/\0<=s/\s<=1000000000/\ks=[.inl s,.inl 0,.inl 0]:=by unfold NR at h;∎
def RJ:OC|[.inl s,.inl n,.inl k],[.inl t]=>AA (Af (n<=t),[.inl s,.inl (if t<n then n else if t-s>n then t-s else n),.inl (k+1)])|_,_=>AB
def ZZ(h:RJ ks D=AA q):∃s n k t:Int,ks=[.inl s,.inl n,.inl k]/\D=[.inl t]/\q=(Af (n<=t),[.inl s,.inl (if t<n then n else if t-s>n then t-s else n),.inl (k+1)]):=by unfold RJ at h;∎
abbrev Oh:List AG:=["slack","now","count"]
def VP:KN [.i s,.i a,.i b]=AA (.s (.b (Af (a<=s)&&Af (s<=b)))):=by
 have D:∀(f g:AM->Option Ab)(τ:AM),f τ=AA (.s (.b AD))->Yh f g τ=g τ:=λf g τ e=>by unfold Yh DZ;∎
 show EK (Qr _ _)=_;unfold Qr;rw[D _ _ _ (by rfl)];by_cases J:a<=s<;>by_cases U:s<=b<;>simp[M7,Ai,QT,J,U,EK]
def z8{K:Ap}{ad:Og}(T:GX K mg ad):Dr P w K mg base G4 1 ad.df ad.dg ["self","time"] (nO ad.av Oh RJ):=by
  refine T.jf.ok AAO (λvs H Q E h=>?_) (λU A outer s H vs Q E W h=>?_)
  . obtain⟨x,dx,ks,J,b,D,rfl,_,_,h,_⟩:=h;obtain⟨_,_,_,_,rfl,rfl,_⟩:=ZZ h;rfl
  . obtain⟨x,dx,ks,J,b,D,rfl,e,_,h,k⟩:=h;obtain⟨z,n,c,t,rfl,rfl,V⟩:=ZZ h;cases V;refine⟨_,(Jj (Pd (GJ 0) (Wj dM (SI (GJ 0) rfl) Lk) rfl) (Jj (Pe (eJ SE (GJ 1) (SI (GJ 0) rfl) (ACZ _)) (Ll (MY Pb)) SK) (Jj (Pd (GJ 0) (SH (bV rfl) (by rfl) T.ij AFD (D9 (SI (GJ 0) rfl) (D9 (Wj dR (GJ 1) (SI (GJ 0) rfl)) GI))) rfl) (Ll (MY Pb))))),?_⟩;refine⟨_,rfl,x,_,dx,_,_,rfl,e,T.bw,T.di,rfl,_,_,rfl,rfl,_,rfl,x,_,dx,_,rfl,e,T.bw,T.di,by show 3<1000;decide,?_⟩;refine⟨_,rfl,_,rfl,x,_,dx,Q4 z n (c+1),_,rfl,Dh,T.bw,T.de,rfl,_,_,rfl,rfl,_,rfl,ABu (λq=>?_) λq=>?_⟩
    . have q:t<n:=AM1 q;rw[AMu q,AM0 ∎]at k;exact k
    . have q:¬t<n:=AM3 q;rw[AMv q,AMy ∎]at k;refine⟨_,rfl,x,_,dx,Q4 z n (c+1),_,rfl,Dh,T.bw,T.de,rfl,_,rfl,_,rfl,x,_,dx,Q4 z n (c+1),_,rfl,Dh,T.bw,T.gk,rfl,_,_,rfl,rfl,_,_,rfl,?_⟩;refine⟨_,rfl,x,_,dx,Q4 z n (c+1),rfl,Dh,T.bw,T.de,by show 3<1000;decide,?_⟩;rw[W5];exact k
def z9{K:Ap}{ad:Og}(T:GX K mg ad):Dr P w K mg base G4 3 ad.ax ad.bp ["self","slack"] (nP ad.av Oh NR):=by
  obtain⟨V,W,U⟩:=Uy.c (P:=P) (w:=w) (base:=base) (cl:=λ_=>ad.av) (f:=KN) T;refine T.dq.ok aK (λvs H Q E h=>?_) (λZ A outer s H vs Q E C h=>?_)
  . obtain⟨x,dx,Y,ks,rfl,_,h,_⟩:=h;obtain⟨_,rfl,_⟩:=Z0 h;rfl
  . obtain⟨x,dx,Y,ks,rfl,e,h,k⟩:=h;obtain⟨z,rfl,F,G,rfl⟩:=Z0 h;obtain⟨J,D⟩:=T.gs;refine⟨_,(Jj (Pe (Wm (SM (Wh U C (D9 (GJ 1) (D9 Lk (D9 (Pc (v:=.int 1000000000) (by rfl) D ⟨J,rfl⟩) GI)))))) (Ll AHq) SK) (Jj (Pd (GJ 0) (GJ 1) rfl) (Jj (Pd (GJ 0) Lk rfl) (Ll (Pd (GJ 0) Lk rfl))))),?_⟩;refine⟨_,rfl,λ_=>False,[.i z,.i 0,.i 1000000000],.s (.b AD),∎,⟨_,_,rfl,rfl,_,_,rfl,rfl,_,_,rfl,rfl,rfl⟩,?_,λv H' s1 r=>?_⟩;. rw[VP,AMy F,AMy G];rfl
    cases∎;have B:=s1 _ _ e;refine⟨_,rfl,ABv ?_⟩;refine⟨_,rfl,_,rfl,x,_,dx,_,rfl,B,T.bw,T.gk,by decide,?_⟩;refine⟨_,rfl,x,_,dx,_,rfl,Dh,T.bw,T.de,by show 1<1000;decide,?_⟩;refine⟨_,rfl,x,_,dx,_,rfl,Dh,T.bw,T.di,by show 2<1000;decide,?_⟩;rw[W5,W5];exact k H' s1
noncomputable def U2:{G:AM->A8//∀{P w K mg base ad cl}(T:GX K mg ad)(D:cl 0=ad.av),Ta P w K mg base cl ["slack","events","clock","kept","late","place","event"] "on_time" Rh ad.du 4 G}:=⟨_,λ{P w K mg base ad cl}T D _ _ _ _ _ _ U=>have J:=Ri.nd
 (Ag (Ay 2 J (AIN D T.kh (z9 T) U T.kg T.dw (AK (AS (AE 0)) AZ))) (Ag (Ay 3 J (CL AZ)) (Ag (Ay 4 J (CL AZ)) (Ag (Ee (NC (by rfl) T.bo (AS (AE 1))) (Hg 2 rfl (Er 5 J (Er 6 J Hh))) (An (AIY (AIg 2 D T.bw T.iu (z8 T) U T.jg (AK (AS (Ac (AE 6) (AF AO))) AZ) (by decide+kernel)) (An (GB (Di 3) (AS (AE 6)))) (An (GB (Di 4) (AS (AE 5))))))) (An (AIc 3 4))))))⟩
noncomputable def VR:=By 7 U2.1 2
def xA{K:Ap}{ad:Og}(T:GX K mg ad)(D:cl 0=ad.av):LY P w K mg base 5 ad.du ad.fw ["slack","events"] (J8 K cl VR) "on_time":=⟨Ua T.fu Ri (U2.2 T D),T.jm,T.fu.kp,T.jk⟩
def AAw(h:m τ=AA (b,D)):Qq m G G' τ=if b=AD then G D else G' D:=by unfold Qq;∎
def MM(s n k:Int):AU:=.B 0 Oh [.d (.i s),.d (.i n),.d (.i k)]
def zZ{τ:AM}:YK 2 0 Oh RJ τ (AA (MM s n k)) (AA (AH,[.i t]))=AA (Af (n<=t),τ.set 2 (AA (MM s (if t<n then n else if t-s>n then t-s else n) (k+1)))):=by rfl
def Fi(sl:Int)(st:List BB×List Int×Int)(p:BB×Nat):List BB×List Int×Int:=(if p.1.1<st.2.2 then st.1 else st.1++[p.1],G0 sl st.2 p)
def JY(sl:Int)(evs:List BB):List BB×List Int×Int:=evs.zipIdx.foldl (Fi sl) ([],[],0)
def Vo:∀{l:List (BB×Nat)}{st:List BB×List Int×Int},(l.foldl (Fi sl) st).1.length<=st.1.length+l.length/\(l.foldl (Fi sl) st).2=l.foldl (G0 sl) st.2
 |[],_=>∎|p::l,st=>by
  obtain⟨h,h'⟩:=Vo;have h2:(Fi sl st p).1.length<=st.1.length+1:=by unfold Fi;∎
  rw[Mc,Fq];exact⟨∎,h'⟩
def xZ{evs:List BB}(R:0<=sl)(h1:sl<=1000000000)(N:evs.length<=100000):VR [.i sl,.l (evs.map Ak)]=AA (.n (.U [.L (((JY sl evs).1.map Ak).map .d),.L (((JY sl evs).2.1.map .i).map .d)])):=by
  have C:AY=16777216:=ES;unfold VR;refine(Cg (by rfl)).trans ?_;unfold U2;have G:∀fa τ,fa τ=AA (AH,[.i sl])->Yj 0 Oh NR fa τ=AA (.n (MM sl 0 0)):=λfa τ e=>by unfold Yj;rw[e,Ec];have hi:NR [.inl sl]=AA [.inl sl,.inl 0,.inl 0]:=AMu ⟨R,h1⟩;show(NR [.inl sl]).bind _=_;rw[hi];rfl
  have W:∀(A B:AM->A8)(τ E:AM),A τ=.nx E->Gr A B τ=B E:=λA B τ E e=>by show D1 _ _=_;rw[e];rfl
  show EK (Gr _ _ _)=_;rw[W _ _ _ _ (by unfold Ir;rw[G];all_goals rfl)];generalize K:MM sl 0 0=c0;revert N C;clear G W R h1;lk;intro N C;subst K;refine JO (λl τ=>∃k P Q,τ=[AA (.d (.i sl)),AA (.d (.l (evs.map Ak))),AA (MM sl (l.foldl (Fi sl) ([],[],0)).2.2 k),AA (.L (((l.foldl (Fi sl) ([],[],0)).1.map Ak).map .d)),AA (.L (((l.foldl (Fi sl) ([],[],0)).2.1.map .i).map .d)),P,Q]) ⟨0,AB,AB,rfl⟩ ?_ ?_
  . rintro l⟨V,n⟩z e _⟨k,P,Q,rfl⟩;refine⟨_,rfl,?_⟩;have O:l.length<100000:=by have h2:=AMw Kk e;rw[Lq,Bi,Fq]at h2;∎
    obtain⟨f,X⟩:=Vo (sl:=sl) (l:=l) (st:=([],[],0));have M:(((l.foldl (Fi sl) ([],[],0)).1.map Ak).map AU.d).length<AY:=by∎
    have Z:(((l.foldl (Fi sl) ([],[],0)).2.1.map AN.i).map AU.d).length<AY:=by rw[A4,A4,X];have:=Rb (sl:=sl) (l:=l) (st:=([],0));∎
    rw[XC,Mc,gB];generalize l.foldl (Fi sl) ([],[],0)=st at M Z⊢;obtain⟨Y,la,J⟩:=st;have S:Ak V=.t [.i V.1,.s V.2.1,.s V.2.2.1,.i V.2.2.2]:=rfl;have I:=@zZ sl J k V.1 [AA (.d (.i sl)),AA (.d (.l (evs.map Ak))),AA (MM sl J k),AA (.L ((Y.map Ak).map .d)),AA (.L ((la.map .i).map .d)),AA (.d (.i (n:Int))),AA (.d (Ak V))];clear e O f X N C;rw[AAw (b:=Af (J<=V.1)) (by exact I)];by_cases c:V.1<J
    . rw[AMv (by simp;∎),AMu c];have H:Fi sl (Y,la,J) (V,n)=(Y,la++[(n:Int)],J):=by unfold Fi G0;simp only[AMu c]
      rw[H];refine⟨_,⟨k+1,AA (.d (.i (n:Int))),AA (.d (Ak V)),rfl⟩,.inl ?_⟩;have F:((la++[(n:Int)]).map AN.i).map AU.d=(la.map AN.i).map AU.d++[.d (.i (n:Int))]:=by simp
      rw[F];generalize(la.map AN.i).map AU.d=a at Z⊢;generalize MM sl J (k+1)=g;clear I H F S c M;lk
    . rw[AMu (by simp;∎),AMv c];have H:Fi sl (Y,la,J) (V,n)=(Y++[V],la,if V.1-sl>J then V.1-sl else J):=by unfold Fi G0;simp only[AMv c]
      rw[H];refine⟨_,⟨k+1,AA (.d (.i (n:Int))),AA (.d (Ak V)),rfl⟩,.inl ?_⟩;have F:((Y++[V]).map Ak).map AU.d=(Y.map Ak).map AU.d++[.d (Ak V)]:=by simp
      rw[F];generalize(Y.map Ak).map AU.d=a at M⊢;clear I H F S c Z;lk
  . rintro _⟨k,P,Q,rfl⟩;rfl
def AAR(K:Ap)(ad:Og):Ex:=λvs H Q E=>∃(x:AI)(v:AQ)(d:AN)(O:AI->Prop),vs=[.ref x,v]/\(∀a,O a->∃o,H a=AA o)/\DY K (A1 O [] H) d v/\KN [d,.i 0,.i 1000000000]=AA (.s (.b AH))/\∀H',As H H'->E (.ref ad.ar) AB H'
def AAA{K:Ap}{ad:Og}(T:GX K mg ad):Dr P w K mg base (HM P w) 3 ad.ax ad.bp ["self","slack"] (AAR K ad):=by
 obtain⟨V,W,U⟩:=Uy.c (P:=P) (w:=w) (base:=base) (cl:=λ_=>ad.av) (f:=KN) T;refine T.dq.yg aK (λvs H Q E h=>?_) (λY A outer s H vs Q E B h=>?_)
 . obtain⟨x,v,d,O,rfl,_⟩:=h;rfl
 . obtain⟨x,v,d,O,rfl,C,F,Z,k⟩:=h;obtain⟨J,D⟩:=T.gs;refine⟨_,(Jj (Pe (Wm (SM (Wh U B (D9 (GJ 1) (D9 Lk (D9 (Pc (v:=.int 1000000000) (by rfl) D ⟨J,rfl⟩) GI)))))) (Ll (ADZ T.ma (Pc (by rfl) T.ig rfl) d5)) SK) eI),?_⟩;refine⟨_,rfl,O,[d,.i 0,.i 1000000000],.s (.b AH),C,⟨_,_,rfl,F,_,_,rfl,rfl,_,_,rfl,rfl,rfl⟩,Z,λu H' s1 r=>?_⟩;cases∎;exact⟨_,rfl,ABw (k H' s1)⟩
def AAS(K:Ap)(ad:Og):Ex:=λvs H Q E=>∃(v y:AQ)(d:AN)(O:AI->Prop),vs=[v,y]/\(∀a,O a->∃o,H a=AA o)/\DY K (A1 O [] H) d v/\KN [d,.i 0,.i 1000000000]=AA (.s (.b AH))/\∀H',As H H'->E (.ref ad.ar) AB H'
def AAC{K:Ap}{ad:Og}(T:GX K mg ad):Dr P w K mg base (HM P w) 5 ad.du ad.fw ["slack","events"] (AAS K ad):=by
 have D:=AAA (P:=P) (w:=w) (base:=base) T;refine T.fu.yg Ri (λvs H Q E h=>?_) (λU A outer s H vs Q E Z h=>?_)
 . obtain⟨v,y,d,O,rfl,_⟩:=h;rfl
 . obtain⟨v,y,d,O,rfl,F,G,W,k⟩:=h;have C:=Ri.nd;refine⟨_,(Jj (eF (i:=2) C rfl (Or.inl rfl) (d4 T.kh D (Z.gg (by decide)) (by rfl) T.kg T.dw .nil (ACw (λ_ _ _ z=>z)) (D9 (GJ 0) GI))) eI),?_⟩;refine⟨_,rfl,λx dx B J Y=>?_⟩;have s1:As H (Ax (Ax H dx (.own x)) x (.ins ad.av dx [])):=((CQ H).oj J).oj B;exact⟨x,v,d,O,rfl,λa V=>(F a V).imp λo h=>s1 _ _ h,G.ag (FI s1),W,λH' s2=>k H' (s1.ae s2)⟩
open Classical in noncomputable def RT:List AN->Option Ab|[d,_]=>if KN [d,.i 0,.i 1000000000]=AA (.s (.b AH))then AA (.s (.b AD))else AB|_=>AB
def aB(h:RT ds=AA w):∃d e,ds=[d,e]/\KN [d,.i 0,.i 1000000000]=AA (.s (.b AH))/\w=.s (.b AD):=by unfold RT at h;∎
def xB{K:Ap}{ad:Og}(T:GX K mg ad):LY P w K mg base 6 ad.cf ad.cg ["_law_thing","_law_events_here"] (J8 K cl RT) "_law_no_slack":=by
 have D:=AAC (P:=P) (w:=w) (base:=base) T;refine⟨T.dr.ok AAP (λvs H Q E h=>?_) (λV A outer s H vs Q E Z h=>?_),T.gz,T.dr.kp,T.gy⟩
 . obtain⟨O,ds,u,J,r,e,q⟩:=h;obtain⟨d,e,rfl,_⟩:=aB e;obtain⟨v,ys,rfl,U,y,zs,rfl,B,rfl⟩:=r;rfl
 . obtain⟨O,ds,u,J,r,e,q⟩:=h;obtain⟨d,e,rfl,W,rfl⟩:=aB e;obtain⟨v,ys,rfl,U,y,zs,rfl,B,rfl⟩:=r;refine⟨_,(Jj (ADa rfl rfl rfl rfl (ADH D (Z.gg (by decide)) (by rfl) T.jm T.fu.kp T.jk (D9 (GJ 0) (D9 (GJ 1) GI))) (by rfl) T.ig (λ_=>Ll (MY Pb))) (Ll (MY Pb))),?_⟩;refine⟨_,rfl,_,rfl,v,y,d,O,rfl,J,U,W,λH1 s1=>⟨T.gf,λe Y=>?_⟩⟩;exact q _ _ (s1.oj (s1.bh Y)) rfl
noncomputable def U0:{G:AM->A8//∀{P w K mg base ad}(T:GX K mg ad),Ta P w K mg base (λ_=>ad.av) ["_law_script","_law_many","_law_plan","_law_events_here","_law_cut","_law_other","_law_due","_law_handed","_law_slack_here","_law_late_here","_law_found"] "law" Nb ad.jy 30 G}:=⟨_,λ{P w K mg base ad}T _ _ _ _ _ _ U=>have J:=xA (P:=P) (w:=w) (base:=base) (cl:=λ_=>ad.av) T rfl
 have D:=xB (P:=P) (w:=w) (base:=base) (cl:=λ_=>ad.av) T
 have V:=aL.nd
 (Ag (Ay 1 V (AS (Ac (AF (CL (AK AO (AK AO (AK AO AZ))))) (AF (Bb (AF (B0 (AF (BD (HJ.c (f:=Ho) T) U (AK (AS (AE 0)) (AK AO AZ)))) (AF AO))) (AF AO)))))) (Ag (Bm [1] (Ay 2 V (BD (VF.c (f:=Vd) T) U (AK (AS (AE 0)) (AK AO (AK AO (AK (AS (AE 1)) AZ))))))) (Ag (Ay 3 V (BD (VB.c (f:=VY) T) U (AK (AS (AE 0)) (AK (IH (AE 0) (Gu (AF AO)) (Gu (AF (BN (AF AO) (AE 1))))) AZ)))) (Ag (Ay 4 V (Bb (AF (BD (HJ.c (f:=Ho) T) U (AK (AS (AE 0)) (AK AO AZ)))) (AF (BN (AF (Iv T.fj (AE 3))) (AF AO))))) (Ag (Ay 5 V (AIQ (AF (BN (AF (IH (AE 3) (Gu (AE 4)) KG)) (AF (IH (AE 3) KG (Gu (AE 4)))))))) (Ag (Bm [2,3] (Ay 6 V (BD (RD.c (f:=Vb) T) U (AK (AS (AE 2)) (AK (AS (AE 3)) AZ))))) (Ag (Ay 7 V (CL (AK (UY T.dk (AE 2)) (AK (UY T.dk (AE 3)) AZ)))) (Ag (Bm [5,6] (Bo (G6 (Iz (JU (Iy (BD (RF.c (f:=Ve) T) U (AK (BD (RA.c (f:=Oy) T) U (AK (AS (Ac (AE 7) (AF AO))) (AK (AS (Ac (AE 7) (AF AO))) AZ))) (AK (AS (AE 6)) AZ))))) (Kj (JU (Iy (BD (RF.c (f:=Ve) T) U (AK (BD (RA.c (f:=Oy) T) U (AK (UY T.dk (AE 2)) (AK (AS (AE 5)) AZ))) (AK (AS (AE 6)) AZ)))))))) (An (BX Iu)) B6)) (Ag (Ay 8 V (BD (VE.c (f:=Vc) T) U (AK (AS (AE 0)) AZ))) (Ag (Bm [3,8] (Ay 9 V (BD (VD.c (f:=Va) T) U (AK (AS (AE 8)) (AK (AS (AE 3)) AZ))))) (Ag (Bm [8] (Ay 10 V (NB J U (AK (AS (AE 8)) (AK (AS (Ac (AE 7) (AF AO))) AZ))))) (Ag (Bm [2,3] (Bo (G6 (Iz (JU (Iy (JT .tup T.aq T.jt (AE 10)))) (Iz (HI U (AF (Iv T.fj (AE 10))) (AF AO)) (Kj (HI U (AE 7) (AF (CL (AK (AS (AE 2)) (AK (AS (AE 3)) AZ))))))))) (An (BX Iu)) B6)) (Ag (Bo (G6 (Iz (JU (Iy (JT .lst T.aq T.dk (Ac (AE 10) (AF AO))))) (Iz (JU (Iy (JT .lst T.aq T.dk (Ac (AE 10) (AF AO))))) (Kj (HI U (Ac (AE 10) (AF AO)) (AE 9)))))) (An (BX Iu)) B6) (Ag (Bo (HI U (AF (AIE ["_law_place"] [] (Bz Nb) DG (AIU (Ac (AE 10) (AF AO))) (λ_ _ _ _=>E5 0 (by decide+kernel)) (λ_ _ _ _=>IJ (JU (Iy (BD (VH.c (f:=Vf) T) U (AK (AS (AE 0)) AZ))))) (λ_ _ _ _=>(AS (AE 0))))) (AF (CL AZ))) (An (BX Iu)) B6) (Ag (Bm [3,9] (Ub 6 V ["_law_place","_law_event"] [("_law_late_here",9)] (Bz Nb) (QW (Io DG (Io DG QV))) (NC (by rfl) T.bo (AS (AE 3))) (λ_ _ _ _=>Hg 2 rfl (Iw 0 (by decide+kernel) (Iw 1 (by decide+kernel) Hh))) (λ_ _ _ _=>IJ (AIh (AE 0) (AE 2))) (λ_ _ _ _=>(AS (AE 1))))) (Ag (Bo (HI U (Ac (AE 10) (AF AO)) (AE 6)) (An (BX Iu)) B6) (Ag (GB (oN (Di 10) 0) Yq) (Ag (GB (oN (Di 10) 1) Yq) (Ag (Bm [2,3,6,8,9] (Bo (G6 (Iz (HI U (AE 7) (AF (CL (AK (AS (AE 2)) (AK (AS (AE 3)) AZ))))) (Kj (HI U (AF (NB J U (AK (AS (AE 8)) (AK (AS (Ac (AE 7) (AF AO))) AZ)))) (AF (CM (AK (AS (AE 6)) (AK (AS (AE 9)) AZ)))))))) (An (BX Iu)) B6)) (An (Bm [3] (BX (NB D U (AK (AS (Ac (AF (CL (AK (FK (AF AO) (AF AO)) (AK AO (AK Iu (AK Yq (AK BA (AK (CL (AK AO AZ)) AZ)))))))) (AF (Bb (AF (B0 (AF (BD (HJ.c (f:=Ho) T) U (AK (AS (AE 0)) (AK AO AZ)))) (AF AO))) (AF AO))))) (AK (AS (AE 3)) AZ)))))))))))))))))))))))))⟩
noncomputable def VQ:=By 11 U0.1 1
def wZ{K:Ap}{ad:Og}(T:GX K mg ad):LY P w K mg base 31 ad.jy ad.mj ["_law_script"] (J8 K (λ_=>ad.av) VQ) "law":=⟨Ua T.oo aL (U0.2 T),T.rm,T.oo.kp,T.vd⟩
local macro_rules | `(tactic| lk) => `(tactic| simp only [ZH, pK, vP, AIl, vR, vS, ZG, ZA, sH, Uj, Um, Y8, Yx, r6, uM, u7, u9, uZ, u0, uN, uP, uO, uK, uL, Y7, rE, rB, rA, rD, uA, uC, uD, uG, uH, uI, uJ, uF, ZE, Ui, Y3, ZC, sJ, LK, vB, vA, Yy, pN, rT, vF, rV, rW, rX, rY, vG, vH, vI, vJ, vK, vL, vM, sT, sU, Yv, sX, oW, oV, s9, sZ, oU, sY, rG, rL, rJ, rH, qR, qQ, sR, sQ, sV, oS, AI0, Nat.reduceLT, o6, o7, o8, o9, pA, pB, pC, pF, qX, qY, pH, pD, pG, rP, rN, rO, uQ, AIu, sW, sE, uT, tF, tE, tD, uB, u6, Y5, Y6, sP, sG, sC, qG, Y2, Y1, Yz, Y0, pU, pS, vV, uY, tK, tN, tW, tS, tU, rZ, oX, vU, vT, uX, qH, qI, qK, qL, pO, pP, pQ, pR, p9, vQ, pZ, pW, qZ, q9, r9, pV, rC, rK, Yu, qS, sF, qN, qM, List.take_succ_cons, List.take_zero, List.drop_succ_cons, List.drop_zero, List.length_cons, List.length_nil, Nat.reduceAdd, Nat.reduceSub, Nat.reduceLeDiff, pM, t6, qO, qP, tY, tX, tZ, tH, tJ, qF, uE, t8, t7, t9, sO, List.getLast?_concat, rQ, rS, rR, vO, vN, sL, ZD, sS, uW, Y9, sN, uU, vC, vD, vE, qC, qE, qB, qA, List.flatMap_cons, List.flatMap_nil, List.append_nil, Uk, qU, qT, oZ, oY, List.length_map, Nat.zero_add, Nat.add_zero, sI, Bool.false_eq_true, Option.map_some, and_self, and_true, true_and, or_true, true_or, decide_true, decide_false, decide_eq_true_eq, if_true, if_false, List.map_cons, List.map_nil, List.replicate_zero, List.replicate_succ, List.nil_append, List.cons_append, ↓reduceIte, Int.reduceLT, Int.reduceLE, Int.reduceNeg, Int.reducePow, Int.reduceAdd, AIq, ZD, *])
abbrev FL:AG:="abcdefghijklmnopqrstuvwxyz"
def Cn(z:AG):Prop:=C1 z=AD
def E6(y:AG):Prop:=∀c∈y.cps.toList,c∈FL.cps.toList
def E6.ok(h:E6 z):Cn z:=by
 unfold Cn C1;rw[<-Array.all_toList,AJH];have D:∀c∈FL.cps.toList,c<0x110000:=by decide+kernel
 exactλc J=>AMy (D c (h c J))
def NT(z:AG):z.length=z.cps.toList.length:=by rfl
def Oo(a b:AG):(a++b).cps.toList=a.cps.toList++b.cps.toList:=by show(a.cps++b.cps).toList=_;simp
def E6.wm(J:E6 a)(U:E6 b):E6 (a++b):=λc D=>by rw[Oo]at D;exact(Cb.mp D).elim (J c) (U c)
abbrev BM(j:Nat):AG:=⟨#[FL.cps.toList.getD j 0]⟩
def zR:FL.cps.toList.length=26:=by decide+kernel
def Ze{j:Nat}(h:j<26):CJ FL.cps.toList (j:Int)=AA (FL.cps.toList.getD j 0):=by refine ABE ?_;have D:=zR;grind
def VJ(h:j<26):E6 (BM j):=by
 have D:∀d:Nat,d<26->FL.cps.toList.getD d 0∈FL.cps.toList:=by decide+kernel
 intro c J;∎
def Zf(hi:i<26)(J:j<26)(h:BM i=BM j):i=j:=by
 have D:∀i:Nat,i<26->∀j:Nat,j<26->FL.cps.toList.getD i 0=FL.cps.toList.getD j 0->i=j:=by decide+kernel
 ∎
def O2(m:Int):AG:=BM (m%26).toNat
def D7{m k:Int}(h:0<k):0<=m%k/\m%k<k:=⟨Int.emod_nonneg _ (by omega),Int.emod_lt_of_pos _ h⟩
def zV(m:Int):CJ FL.cps.toList (m%26)=AA (FL.cps.toList.getD (m%26).toNat 0):=by have e:=Ze (j:=(m%26).toNat) ∎;∎
def zU(m:Int):E6 (O2 m):=VJ ∎
def Z2:∀{zs:List AG},(∀z∈zs,E6 z/\z.length=1)->E6 (AFh ⟨#[]⟩ zs)/\(AFh ⟨#[]⟩ zs).length=zs.length/\(zs.map (·.length)).sum=zs.length|[],_=>⟨λc D=>absurd (show c∈([])from D) (by simp),rfl,rfl⟩|a::r,h=>by obtain⟨i1,i2,i3⟩:=Z2 λz hz=>h z (DK _ hz);obtain⟨J,U⟩:=h a B7;rw[AL2];exact⟨J.wm i1,by rw[AKx,Fq];∎,∎⟩
def LW(t:Int)(n:Nat):List AG:=(EO n).map λj:Nat=>O2 (t+5*(j:Int)*(1+t%3))
def HK(t:Int)(n:Nat):AG:=iA "" (LW t n)
def aQ:E6 (HK t n)/\(HK t n).length=n/\((LW t n).map (·.length)).sum=n:=by
 have J:HK t n=AFh ⟨#[]⟩ _:=eq_of_beq (AL3 "" _);obtain⟨a,b,c⟩:=Z2 (zs:=LW t n) λy D=>by obtain⟨j,_,rfl⟩:=B8.mp D;exact⟨zU _,rfl⟩
 have l:(LW t n).length=n:=by unfold LW;∎
 ∎
def Zg{x:AG}{j:Int}(W:0<=j)(h1:j<=(x.length:Int))(D:E6 x):E6 (HE x AB (AA j))/\E6 (HE x (AA j) AB)/\(HE x AB (AA j)).length=j.toNat/\(HE x (AA j) AB).length=x.length-j.toNat:=by
 have J:HE x AB (AA j)=AKy x _ _:=rfl;have U:HE x _ AB=AKy x (AA j) _:=rfl;have Y:=NT x;rw[J,U,StrLaws.sliceText_to ∎,StrLaws.sliceText_from ∎];refine⟨λc V=>D c ∎,λc V=>D c ∎,?_,?_⟩
 . rw[NT];∎
 . rw[NT];∎
def MT(c k:Int):Int:=c+31*k*(c%2)
def Gb(c k:Int)(z:AG):Int:=MT c k/26%(13-(z.length:Int))
def FO(c n:Int):Int:=if c%2=0 then c/4%(n+1)else n
def Ff(c k:Int)(z:AG):AG:=HE (HK (MT c k) (Gb c k z).toNat) AB (AA (FO c (Gb c k z)))++z++HE (HK (MT c k) (Gb c k z).toNat) (AA (FO c (Gb c k z))) AB
def Za(hn:0<=n):0<=FO c n/\FO c n<=n:=by unfold FO;have b:=D7 (m:=c/4) (k:=n+1) ∎;∎
def RM{z:AG}(h:z.length<=2):∃u v:AG,Ff c k z=u++z++v/\E6 u/\E6 v/\u.length=(FO c (Gb c k z)).toNat/\v.length=(Gb c k z).toNat-(FO c (Gb c k z)).toNat/\0<=Gb c k z/\Gb c k z<=12:=by have D:=D7 (m:=MT c k/26) (k:=13-(z.length)) ∎;obtain⟨a0,a1⟩:=Za D.1;obtain⟨t1,t2,_⟩:=aQ (n:=(Gb c k z).toNat);obtain⟨p1,p2,J,U⟩:=Zg (j:=FO c (Gb c k z)) a0 (by unfold Gb at*;∎) t1;exact⟨_,_,rfl,p1,p2,J,∎,D.1,by unfold Gb;∎⟩
def LO{z:AG}(h:z.length<=2)(hz:E6 z):Cn (Ff c k z):=by obtain⟨u,v,e,h1,h2,_⟩:=RM h;rw[e];exact((h1.wm hz).wm h2).ok
def xC{z D:AG}(hz:z.length=D.length)(h2:z.length<=2)(h:Ff c k z=Ff c J D):z=D:=by
  by_cases U:c%2=0
  . have t1:MT c k=MT c J:=by unfold MT;rw[U];∎
    have s1:Gb c k z=Gb c J D:=by unfold Gb;rw[t1,hz]
    unfold Ff at h;rw[t1,s1]at h;have h:=AMw (λy:AG=>y.cps.toList) h;simp only[Oo]at h;exact Pj (List.append_cancel_left (List.append_cancel_right h))
  . have a1:∀n,FO c n=n:=λn=>by unfold FO;rw[AMv U]
    obtain⟨u,v,e,_,_,_,l,_⟩:=RM (c:=c) (k:=k) h2;obtain⟨Y,v',W,_,_,_,V,_⟩:=RM (c:=c) (k:=J) (z:=D) ∎;rw[a1,XM,NT]at l V;rw[e,W]at h;have h:=AMw (λy:AG=>y.cps.toList) h;simp only[Oo,Jm.mp l,Jm.mp V,Ek]at h;refine Pj (List.append_inj_right' h ?_);rw[<-NT,<-NT,hz]
def IP:List AG:=["take","only","turn","both","join","each","gap","count","sum","least","greatest","late","end"]
def AAr:∀z∈IP,C1 z=AD:=by decide+kernel
def AAq:∀i:Nat,i<13->∀j:Nat,j<13->IP.getD i ""=IP.getD j ""->i=j:=by decide+kernel
def Hs(b k:Int)(z:AG):AG:=if b%9=4 then IP.getD ((k+b/9)%13).toNat ""else Ff b k z
def KR(i j:Nat):(BM i++BM j).length=2:=by rfl
def RL(hi:i<26)(D:j<26):E6 (BM i++BM j):=(VJ hi).wm (VJ D)
def AAl(h:BM i++BM j=BM U++BM V)(hi:i<26)(W:j<26)(D:U<26)(J:V<26):i=U/\j=V:=by have q:=AMw (λy:AG=>y.cps.toList) h;simp only[Oo]at q;obtain⟨Y,Z⟩:=AJK q rfl;exact⟨Zf hi D (Pj Y),Zf W J (Pj Z)⟩
def Gy(b:Int)(n:AG)(t:Nat×Nat):Prop:=t.1<26/\t.2<26/\((23<=t.1/\∃k:Int,n=Ff b k (BM t.1++BM t.2))\/(t.1=0/\t.2<13/\n=Hs b (t.2:Int) (BM 0++BM t.2)))
def AAv:∀w∈IP,∀i:Nat,i<12->i+1<w.cps.toList.length->w.cps.toList.getD i 0<120:=by decide+kernel
def zQ:∀i:Nat,i<26->23<=i->120<=FL.cps.toList.getD i 0:=by decide+kernel
def AAu:∀w∈IP,w.cps.toList.length<=12:=by decide+kernel
def AAt(hi:i<26)(h:23<=i)(hw:w∈IP):w≠Ff b k (BM i++BM j):=λe=>by
 obtain⟨u,v,q,_⟩:=RM (c:=b) (k:=k) (z:=BM i++BM j) (by exact Aw _);rw[<-e]at q;have q:=AMw (λy:AG=>y.cps.toList) q;simp only[Oo]at q;have J:=AAu w hw;have U:w.cps.toList.length=u.cps.toList.length+2+v.cps.toList.length:=by rw[q];simp;∎
 have:=AAv w hw u.cps.toList.length ∎ ∎;have D:w.cps.toList.getD u.cps.toList.length 0=FL.cps.toList.getD i 0:=by∎
 have:=zQ i hi h;∎
def aM(h:b%9=4)(k:Nat)(z:AG):Hs b k z∈IP:=by unfold Hs;have l:IP.length=13:=rfl;∎
def AAb(h:Gy b n t)(h':Gy b n t'):t=t':=by
  obtain⟨a1,a2,h⟩:=h;obtain⟨E,V,h'⟩:=h';have Y:∀{k C:Int}{i j B J:Nat},i<26->j<26->B<26->J<26->Ff b k (BM i++BM j)=Ff b C (BM B++BM J)->i=B/\j=J:=λh1 h2 Z A e=>AAl (xC (by rw[KR,KR]) (by rw[KR];decide) e) h1 h2 Z A;have F:∀{k:Int}{i j:Nat}{J:Nat},i<26->j<26->J<26->23<=i->Ff b k (BM i++BM j)≠Hs b (J:Int) (BM 0++BM J):=λh1 h2 Z A e=>by
    by_cases D:b%9=4;.exact AAt h1 A (aM D _ _) e.symm
    . unfold Hs at e;rw[AMv D]at e;have:=(Y h1 h2 (by decide) Z e).1;∎
  rcases h with⟨c,k,rfl⟩|⟨c,I,rfl⟩
  . rcases h' with⟨U,C,e⟩|⟨U,W,e⟩
    . obtain⟨G,H⟩:=Y a1 a2 E V e;exact Sj G H
    .exact absurd e (F a1 a2 V c)
  . rcases h' with⟨U,C,e⟩|⟨U,W,e⟩;.exact absurd e.symm (F E V a2 U)
    . have:t.2=t'.2:=by
        by_cases D:b%9=4
        . unfold Hs at e;rw[AMu D,AMu D]at e;have h1:∀k:Nat,0<=((k:Int)+b/9)%13/\((k:Int)+b/9)%13<13:=λk=>D7 (by decide);have:=AAq _ (by have:=h1 t.2;∎) _ (by have:=h1 t'.2;∎) e;have:=h1 t.2;have:=h1 t'.2;∎
        . unfold Hs at e;rw[AMv D,AMv D]at e;exact(Y (by decide) a2 (by decide) V e).2
      exact Sj (c.trans U.symm) this
def EF(s:Ao)(z:AG->Nat)(m:Nat):Nat:=match s with|.take ..=>m|.both _ a b=>z a+z b|.join _ a b _=>z a*z b|.only _ a _ _|.turn _ a _ _|.gap _ a _ _|.each _ a _ _ _=>z a
def aN:Ao->Prop|.take _ k=>Cn k|.join _ _ _ w=>0<=w|.turn _ _ f _=>-2^64<f/\f<2^64|.gap n a so m=>IW (.gap n a so m)|.each n a so z d=>IW (.each n a so z d)|_=>True
structure JC(sn:List AG)(n:AG)(s:Ao):Prop where
 nm:s.nm=n
 ng:∀a∈s.bx,a∈sn
 ok:aN s
def MQ(z:AG->Nat)(n:AG)(m:Nat):AG->Nat:=λa=>if a=n then m else z a
def aF:MQ z n m n=m:=AMu rfl
def O3(h:a≠n):MQ z n m a=z a:=AMv h
def Zb{s:Ao}(h:∀a∈s.bx,D a=z a):EF s D m=EF s z m:=by cases s<;>simp_all[EF,Ao.bx]
structure Dc(b:Int)(many:Nat)(ss:List Ao)(q:Nat×Nat->Prop)(z:AG->Nat)(sn:List AG):Prop where
 wz:∀s∈ss,∃t,q t/\Gy b s.nm t
 nd:(ss.map Ao.nm).Nodup
 ng:∀l s r,ss=l++s::r->∀a∈s.bx,∃l1 t r1,l=l1++t::r1/\t.nm=a/\t.br=AH
 ok:∀s∈ss,aN s/\Cn s.nm
 uk:∀a∈sn,∃s∈ss,s.nm=a/\s.br=AH
 wc:∀s∈ss,EF s z many<=z s.nm/\z s.nm<=1000
def AAQ(h:ss++[x]=l++s::r):(∃r',ss=l++s::r')\/(l=ss/\s=x):=by
 rcases Mb r with rfl|⟨r',y,rfl⟩;.simp_all
 . rw[Ma,<-fZ,<-Gg]at h;exact .inl ⟨r',(List.append_inj' h rfl).1⟩
def Dc.yf:Dc b many [] q z []:=⟨∎,.nil,(by simp_all),∎,∎,∎⟩
def Dc.ph{ss:List Ao}(h:Dc b many ss q z sn)(U:Gy b n t)(hn:¬q t):n∉ss.map Ao.nm:=λD=>by obtain⟨s,J,rfl⟩:=B8.mp D;obtain⟨t',V,h1⟩:=h.wz s J;rw[AAb U h1]at hn;∎
def Dc.wx{ss:List Ao}(h:Dc b many ss q z sn)(D:a∈sn):a∈ss.map Ao.nm:=by obtain⟨s,J,rfl,_⟩:=h.uk a D;∎
def Dc.qy(h:Dc b many ss q z sn){s:Ao}(V:Gy b s.nm t)(hn:¬q t)(g:JC sn s.nm s)(A:Cn s.nm)(C:EF s z many<=1000)(E:∀u,q u\/u=t->q' u):Dc b many (ss++[s]) q' (MQ z s.nm (EF s z many)) sn:=by
  have F:=h.ph V hn;have Z:∀a∈ss.map Ao.nm,a≠s.nm:=∎;refine⟨λs' D=>?_,?_,λl s' r e a J=>?_,λs' D=>?_,λa J=>?_,λs' D=>?_⟩
  . rcases Cb.mp D with D|D
    . obtain⟨t',G,h1⟩:=h.wz s' D;∎
    ∎
  . rw[Cc,HA];exact⟨h.nd,by simp,∎⟩
  . rcases AAQ e with⟨r',e⟩|⟨rfl,rfl⟩;.exact h.ng l s' r' e a J
    . obtain⟨s2,Y,B,t2⟩:=h.uk a (g.ng a J);obtain⟨W,r1,U⟩:=fY Y;∎
  . rcases Cb.mp D with D|D;.exact h.ok s' D
    .rw[Cd.mp D];exact⟨g.ok,A⟩
  . obtain⟨s',D,e⟩:=h.uk a J;∎
  . rcases Cb.mp D with D|D
    . rw[O3 ∎,Zb (z:=z) λa J=>?_];.exact h.wc s' D
      . obtain⟨l,r,e⟩:=fY D;obtain⟨W,t1,r1,U,rfl,_⟩:=h.ng l s' r e a J;exact O3 ∎
    . rw[Cd.mp D,aF,Zb (z:=z) λa J=>O3 (Z _ (h.wx (g.ng a J)))];∎
def Dc.yn(h:Dc b many ss q z sn){s:Ao}(J:s∈ss)(U:s.br=AH):Dc b many ss q z (sn++[s.nm]):={h with uk:=λa D=>(by
 rcases Cb.mp D with D|D;.exact h.uk a D
 ∎)}
def Dc.fm(h:Dc b many ss q z sn){s:Ao}(V:Gy b s.nm t)(hn:¬q t)(g:JC sn s.nm s)(W:Cn s.nm)(D:EF s z many<=1000)(U:∀u,q u\/u=t->q' u)(J:s.br=AH):Dc b many (ss++[s]) q' (MQ z s.nm (EF s z many)) (sn++[s.nm]):=(h.qy V hn g W D U).yn ∎ J
def Dc.nv{ss:List Ao}(h:Dc b many ss q z sn){s:Ao}(A:s.nm=n)(J:Gy b n t)(hn:¬q t)(g:JC sn n s)(B:Cn n)(e:EF s z many=m)(W:m<=1000)(Z:∀u,q u\/u=t->q' u)(Y:s.br=AH):∃D,Dc b many (ss++[s]) q' D (sn++[n])/\D n=m/\(∀a∈sn,D a=z a)/\n∉ss.map Ao.nm:=by subst A e;have U:=h.ph J hn;exact⟨_,h.fm J hn g B W Z Y,aF,λa V=>O3 λc=>U (c▸h.wx V),U⟩
def Dc.gg(h:Dc b many ss q z sn)(J:∀u,q u->q' u):Dc b many ss q' z sn:={h with wz:=λs D=>(by obtain⟨t,h1,h2⟩:=h.wz s D;∎)}
def Dc.yh(h:Dc b many ss q z sn):∀a∈sn,Cn a:=λa D=>by obtain⟨s,J,rfl,_⟩:=h.uk a D;exact(h.ok s J).2
def Dc.xu(h:Dc b many ss q z sn):∀a∈sn,z a<=1000:=λa D=>by obtain⟨s,J,rfl,_⟩:=h.uk a D;exact(h.wc s J).2
def Dc.wa{ss:List Ao}{sn:List AG}(h:Dc b many ss q z sn)(hn:n∉ss.map Ao.nm):sn.map (λa=>AU.d (.i (MQ z n m a:Int)))=sn.map λa=>AU.d (.i (z a:Int)):=Ie λa D=>by rw[O3 λe:a=n=>hn (e▸h.wx D)]
def MS(h:Cn k):JC sn n (.take n k):=⟨rfl,λa h=>(nomatch h),h⟩
def V2{P:AG->Prop}{a b:AG}(D:P a)(J:P b):∀t∈[a,b],P t:=(by grind)
def NW{P:AG->Prop}{a:AG}(D:P a):∀t∈[a],P t:=(by grind)
def Vw(D:a∈sn)(J:b∈sn)(hw:0<=w):JC sn n (.join n a b w):=⟨rfl,V2 D J,hw⟩
def Hn(ns:List Int)(k:Int):Int:=(ns[k.toNat]?).getD 0
def Oq{ns:List Int}{k:Int}(h:0<=k):Ho [.l (ns.map .i),.i k]=AA (.s (.i (Hn ns k))):=by
 have J:(CJ (ns.map AN.i) k)=(ns[k.toNat]?).map .i:=by rw[X9 (n:=0) h,Ca]
 refine(Cg (by rfl)).trans ?_;unfold HJ;revert h;lk;intro h;unfold Hn;by_cases c:k<(ns.length);.rw[AMu c,EM (by omega)];rfl
 grind
def MP(c m:Int):Int:=if c%4=0 then c/4%(m+1)else if c%4=1 then m-c/4%2 else c/4%(if m+1<13 then m+1 else 13)
def Rc(h:1<=m):0<=MP c m/\MP c m<=m:=by unfold MP;have h1:=D7 (m:=c/4) (k:=m+1) ∎;∎
def xY{c m:Int}(h:0<=m):KO [.i c,.i m]=AA (.s (.i (MP c m))):=by
 have h1:0<m+1:=by omega
 have h2:0<(if m+1<13 then m+1 else 13):=by grind
 refine(Cg (by rfl)).trans ?_;unfold JW MP;lk;grind
def yF{ns:List Int}:∃s:Int,Vc [.l (ns.map .i)]=AA (.s (.i s))/\0<=s/\s<=1000000000:=by
 have U:=Oq (ns:=ns) (k:=1) (by decide);generalize Hn ns 1=c at U;unfold Vc;rw[Cg (by rfl)];unfold VE;have D:=D7 (m:=c/4) (k:=12) (by decide);have J:=D7 (m:=c/4) (k:=60) (by decide);have V:=D7 (m:=c/4) (k:=1000000001) (by decide);have Y:=D7 (m:=c) (k:=4) (by decide);have hw:c%4=0\/c%4=1\/c%4=2\/c%4=3:=by∎
 revert D J V;rcases hw with h|h|h|h<;>lk<;>intro h1 h2 W<;>exact∎
def zB{A:AU->AU->Option AU}{L:AG}{f:Int->AG}{t j:Int}(J:∀m,A (.d (.s L)) (.d (.i (m%26)))=AA (.d (.s (f m)))):BW (A9 A (Ai 1) (Bg (A9 YR (Bg (A9 En (Ai 2) (Bg (A9 LG (Bg (A9 LG (Bg (CC (.s (.i 5)))) (Ai 0))) (Bg (A9 En (Bg (CC (.s (.i 1)))) (Bg (A9 YR (Ai 2) (Bg (CC (.s (.i 3)))))))))))) (Bg (CC (.s (.i 26))))))) [AA (.d (.i j)),AA (.d (.s L)),AA (.d (.i t))]=AA (.s (.s (f (t+5*j*(1+t%3))))):=by have U:=AIs (i:=5) (j:=j) (by decide);have D:=λi=>AIt (i:=i) (j:=1+t%3) (by omega);lk
def LP{z:AG}(h:z.length<=2):Gz [.i c,.i k,.s z]=AA (.s (.s (Ff c k z))):=by
 have C:0<13-(z.length:Int):=by∎
 have hz:=AIp (z:=z) (Cj h (by decide));have U:-18446744073709551616<c%2:=by∎
 have V:c%2<18446744073709551616:=by∎
 have hn:=D7 (m:=(c+31*k*(c%2))/26) C;have hR:=ZF (j:=(c+31*k*(c%2))/26%(13-(z.length:Int))) ∎ hn.1;unfold Gz;refine(Cg (by rfl)).trans ?_;unfold IM;revert hn h;lk;intro h hn;have A:Ff c k z=HE (HK (c+31*k*(c%2)) ((c+31*k*(c%2))/26%(13-(z.length:Int))).toNat) AB (AA (FO c ((c+31*k*(c%2))/26%(13-(z.length:Int)))))++z++HE (HK (c+31*k*(c%2)) ((c+31*k*(c%2))/26%(13-(z.length:Int))).toNat) (AA (FO c ((c+31*k*(c%2))/26%(13-(z.length:Int))))) AB:=by rfl
 rw[A];clear A hR U V hz;generalize c+31*k*(c%2)=t at hn⊢;generalize t/26%(13-(z.length:Int))=n at hn⊢;have J:∀m,B9 (.d (.s (BO "abcdefghijklmnopqrstuvwxyz"))) (.d (.i (m%26)))=AA (.d (.s (O2 m))):=λm=>Yw (by decide+kernel) (zV m);have Y:-18446744073709551616<1+t%3:=by∎
 have Z:1+t%3<18446744073709551616:=by∎
 have W:AY=16777216:=ES;rw[kT (g:=λj:Nat=>.s (O2 (t+5*(j:Int)*(1+t%3)))) ∎ (by intro j _;refine⟨_,rfl,rfl,?_⟩;exact zB J)];obtain⟨B,F,G⟩:=aQ (t:=t) (n:=n.toNat);have P:Qa (.d (.s "")) (.L (((EO n.toNat).map λj:Nat=>.s (O2 (t+5*(j:Int)*(1+t%3)))).map .d))=AA (.s (.s (HK t n.toNat))):=by have e:=AIo (zs:=LW t n.toNat) ∎;rw[show(LW t n.toNat).map AN.s=_ by unfold LW;exact Bj]at e;exact e
 obtain⟨a0,a1⟩:=Za (c:=c) hn.1;obtain⟨p1,p2,N,O⟩:=Zg (x:=HK t n.toNat) (j:=FO c n) a0 ∎ B;have K:=uS (z:=HK t n.toNat) (lo:=AB) (hi:=AA (FO c n)) ∎;have M:=uS (z:=HK t n.toNat) (lo:=AA (FO c n)) (hi:=AB) ∎;have H:=Qw (a:=HE (HK t n.toNat) AB (AA (FO c n))) (b:=z) ∎;have I:=Qw (a:=HE (HK t n.toNat) AB (AA (FO c n))++z) (b:=HE (HK t n.toNat) (AA (FO c n)) AB) (by rw[AKx];∎);have Q:0<n+1:=by∎
 clear J Y Z W B F G p1 p2 N O a0 a1 hn h C;unfold FO at*;by_cases E:c%2=0
 . rw[AMu E]at*;lk
 . rw[AMv E]at*;lk
def RP(J:0<=j)(h1:j<3):∃kd,NP [.i b,.i j]=AA (.s (.s kd))/\Cn kd:=by
  have D:E6 "m"/\E6 "n"/\E6 "o":=by unfold E6;decide+kernel
  have c0:=LP (c:=b/7) (k:=0) (z:="m") (by decide+kernel);have V:=LP (c:=b/7) (k:=1) (z:="n") (by decide+kernel);have W:=LP (c:=b/7) (k:=2) (z:="o") (by decide+kernel);have Y:B9 (.d (.s "mno")) (.d (.i 0))=AA (.d (.s "m")):=by rfl
  have Z:B9 (.d (.s "mno")) (.d (.i 1))=AA (.d (.s "n")):=by rfl
  have A:B9 (.d (.s "mno")) (.d (.i 2))=AA (.d (.s "o")):=by rfl
  unfold NP;rw[Cg (by rfl)];unfold NG;have U:j=0\/j=1\/j=2:=by∎
  by_cases B:b%9=7
  . clear c0 V W Y Z A D;rcases U with rfl|rfl|rfl<;>clear J h1<;>lk;.exact⟨_,rfl,by unfold Cn;decide+kernel⟩
    .exact⟨_,rfl,by unfold Cn;decide+kernel⟩
    .exact⟨_,rfl,by unfold Cn;decide+kernel⟩
  . revert D;rcases U with rfl|rfl|rfl<;>clear J h1<;>lk;.exactλD=>⟨_,rfl,LO (by decide+kernel) D.1⟩
    .exactλD=>⟨_,rfl,LO (by decide+kernel) D.2.1⟩
    .exactλD=>⟨_,rfl,LO (by decide+kernel) D.2.2⟩
def yH{z:AG}(hz:z.length<=2)(U:0<=k)(h1:k<13):Zu [.i b,.i k,.s z]=AA (.s (.s (Hs b k z))):=by
  have V:=LP (c:=b) (k:=k) hz;refine(Cg (by rfl)).trans ?_;unfold VG Hs;clear hz U;by_cases Y:b%9=4
  . have J:=D7 (m:=k+b/9) (k:=13) (by decide);have D:∀j:Nat,j<13->CJ (IP.map λz=>AU.d (.s z)) (j:Int)=AA (.d (.s (IP.getD j ""))):=λj W=>by rw[Gv,Ca,AJQ,EM ∎];rfl
    have D:=D ((k+b/9)%13).toNat ∎;rw[wQ J.1]at D;unfold IP at D⊢;simp only[Dw,Po]at D;clear J;lk
  .lk
structure MJ(many:Nat)(evs:List BB):Prop where
 ba:evs.length<=many
 tm:∀e∈evs,0<=e.1/\e.1<=1000000000
 ky:∀e∈evs,Cn e.2.2.1/\Cn e.2.1
def Oi(evs:List BB)(i:BL):Prop:=(0<=i.1.1/\i.1.1<=1000000000)/\i.1.2.1∈evs.map (·.2.2.1)/\i.2.Nodup/\∀p∈i.2,p∈(EO evs.length).map λn:Nat=>(n:Int)
def Z1{evs:List BB}{i:BL}(h:Oi evs i):i.2.length<=evs.length:=by have:=NU h.2.2.1 h.2.2.2;∎
def AAH(W:∀e∈evs,0<=e.1/\e.1<=1000000000)(h:∀a,∀i∈V a,Oi evs i):∀i∈Hr evs V s,Oi evs i:=by intro i hi;cases s with
 |take n k=>
  obtain⟨⟨e,m⟩,D,hi⟩:=Km.mp hi;have hz:=List.mem_zipIdx_iff_getElem?.mp D;have Z:=Jn hz;split at hi
  . rw[Cd.mp hi];refine⟨W e Z,∎,by simp,λp D=>?_⟩;∎
  .cases hi|only n a lo Y=>exact h a i (Ea.mp hi).1|turn n a f g=>obtain⟨j,J,rfl⟩:=B8.mp hi;exact h a j J|both n a b=>exact(Cb.mp hi).elim (h a i) (h b i)|join n a b w=>
  obtain⟨j,J,hi⟩:=Km.mp hi;obtain⟨k,U,rfl⟩:=B8.mp hi;have U:=HH.mem_iff.mp (Ea.mp (Ea.mp U).1).1;obtain⟨E,A,F,B⟩:=h a j J;obtain⟨k1,k2,k3,C⟩:=h b k U;refine⟨?_,A,(OT).2.imp λ{x y}h=>∎,λp D=>?_⟩
  . show 0<=Hq _ _/\Hq _ _<=_;unfold Hq;split<;>∎
  .exact(Cb.mp ((OT.1 p).mp D)).elim (B p) (C p)|gap n a so m=>exact h a i hi|each n a so z d=>exact h a i hi
def RW{α β:Type}{f:α->List β}{n:Nat}:∀{l:List α},(∀x∈l,(f x).length<=n)->(l.flatMap f).length<=l.length*n|[],_=>by simp|x::l,h=>by have h1:=RW λy D=>h y (DK x D);have h2:=h x (by grind);rw[Lo,Bi,Fq,Nat.add_mul];omega
def aD{evs:List BB}(J:evs.length<=m)(h:∀a,(D a).length<=z a):(Hr evs D s).length<=EF s z m:=by cases s with|take n k=>have e:=AMw Kk (Vz (k:=k) (evs:=evs) (n:=0));rw[A4]at e;refine Cj (Ig e) (Cj ?_ J);unfold Rn;∎|only n a lo hi=>exact Cj (JG ..) (h a)|turn n a f g=>show(Kl _ _).length<=_;rw[A4];exact h a|both n a b=>show(D a++D b).length<=z a+z b;∎|join n a b w=>refine Cj (RW λi _=>?_) (AJi _ (h a));rw[A4];refine Cj (JG ..) (Cj (JG ..) ?_);unfold Fl;rw[(HH).length_eq];∎|gap n a so m=>exact h a|each n a so z d=>exact h a
def Vx{evs:List BB}(D:evs.length<=m)(J:∀e∈evs,0<=e.1/\e.1<=1000000000):∀(n:Nat){l:List Ao},l.length=n->(∀s∈l,EF s z m<=z s.nm)->∀a,(BJ evs l a).length<=z a/\(∀i∈BJ evs l a,Oi evs i)/\(a∉l.map Ao.nm->BJ evs l a=[])
  |0,l,e,_,a=>by cases Jm.mp e;exact⟨EA _,λi h=>(nomatch h),λ_=>rfl⟩|n+1,l,e,h,a=>by
    rcases Mb l with rfl|⟨l,s,rfl⟩;.cases e
    . rw[Ma]at e h⊢;rw[Bi]at e;have U:=Vx D J n (Kn e) λs V=>h s ∎;rw[Vy];unfold NY;by_cases c:a=s.nm;. rw[AMu c,c];exact⟨Cj (aD D λa=>(U a).1) (h s (by simp)),AAH J λa=>(U a).2.1,∎⟩
      ∎
def aG{ss:List Ao}(h:Dc b many ss q z sn)(v:many<=10)(L:ss.length<=22)(K:MJ many evs):RH evs ss:=by
 have T:AY=16777216:=ES;have G:=K.ba;have st:∀l r,ss=l++r->∀a,(BJ evs l a).length<=1000/\∀i∈BJ evs l a,Oi evs i:=λl r e a=>by
  obtain⟨h1,h2,Q⟩:=Vx (z:=z) G K.tm _ (l:=l) rfl (λs Y=>(h.wc s (by rw[e];exact GK _ Y)).1) a;refine⟨?_,h2⟩;by_cases c:a∈l.map Ao.nm;. obtain⟨s,Y,rfl⟩:=B8.mp c;exact Cj h1 (h.wc s (by rw[e];exact GK _ Y)).2
  .rw[Q c];exact EA _
 have U:=st ss [] (Ek _).symm;have N:∀s∈ss,LQ s:=λs Y=>by have:=(h.ok s Y).1;cases s<;>first|exact this|trivial
 have A:∀a,(Bl evs ss a).length<=1000:=λa=>by rw[<-(O4 _ rfl N a).length_eq,A4];exact(U a).1
 have B:∀(p:Nat)s,ss[p]?=AA s->s.br=AD->∃l t r,ss=l++t::r/\t.nm=s.fd/\t.br=AH:=λp s J D=>by obtain⟨l,r,e⟩:=fY (Jn J);obtain⟨O,t,r1,F,Z,P⟩:=h.ng l s r e s.fd (by cases s<;>first|exact .head _|cases D);exact⟨O,t,r1++s::r,by rw[e,F,Gg];rfl,Z,P⟩
 have V:∀(p:Nat)s,ss[p]?=AA s->s.br=AD->IW s:=λp s J D=>by have:=(h.ok s (Jn J)).1;cases s<;>first|exact this|cases D
 have E:∀a,Hl (Ht (BJ evs ss a)):=λa t D=>by obtain⟨i,hi,rfl⟩:=B8.mp D;have:=((U a).2 i hi).1;exact⟨this.1,∎⟩
 have sub:∀{s:Ao}{y:AG}{i:BL},i∈Cp (Cw evs ss s) y->i∈BJ evs ss s.fd:=λhi=>HH.mem_iff.mp (Ea.mp hi).1;have C:∀s y,Hl (Ht (Cp (Cw evs ss s) y)):=λs y t D=>by obtain⟨i,hi,rfl⟩:=B8.mp D;exact E s.fd _ (B8.mpr ⟨i,sub hi,rfl⟩)
 have I:(G1 evs ss).length<=8388608:=by
  have t1:(IV ss).length<=22:=by refine Cj (AJU ..) ?_;rw[Lq];exact L
  have t2:∀p∈IV ss,(FQ evs ss p).length<=10*21000:=λp J=>by
   obtain⟨s,h1,h2⟩:=Nc J;unfold FQ;rw[h1];show(List.flatMap _ _).length<=_;have X:(Br (Cw evs ss s)).length<=10:=by refine Cj (NU (m:=evs.map (·.2.2.1)) (LR _ _ rfl).1 λy M=>?_) (by rw[A4];∎);obtain⟨i,hi,rfl⟩:=((LR _ _ rfl).2.1 y).mp M;exact((U s.fd).2 i (HH.mem_iff.mp hi)).2.1
   refine Cj (RW (n:=21000) λy _=>?_) (AJi _ X);unfold GZ;rw[A4];refine Cj (bA (V p s h1 h2) (C s y)) ?_;unfold Ht;rw[A4];have:=JG (λi=>Af (Dq i=y)) (Cw evs ss s);have e:(Cw evs ss s).length=(BJ evs ss s.fd).length:=HH.length_eq;have:=(U s.fd).1;unfold Cp;∎
  have:=RW t2;unfold G1;∎
 refine⟨⟨⟨∎,h.nd,λl s r e a R=>?_,λl s r e=>?_⟩,λp s J D=>⟨V p s J D,?_,?_,E _⟩,λp s J D y M w hw=>?_,∎⟩,⟨∎,∎,h.nd,h.ng,λa=>Cj (A a) (by decide),λn a f g Y=>(h.ok _ Y).1⟩,N,L,B,λp s _ _=>Cj (A _) (by decide),I⟩
 . obtain⟨O,t,r1,F,Z,_⟩:=h.ng l s r e a R;rw[F,<-Z];exact gE (by simp)
 . have sl:=st l (s::r) e;have os:=(h.ok s (by rw[e];simp)).1;cases s with
  |take n k=>show evs.length<=AY;∎|only n a lo hi=>have:=(sl a).1;show(BJ evs l a).length<=AY;∎|turn n a f g=>have:=(sl a).1;exact⟨∎,os⟩|both n a W=>have:=(sl a).1;have:=(sl W).1;show(BJ evs l a).length+(BJ evs l W).length<=AY;∎|join n a W w=>
   have h1:=(sl a).1;have h2:=(sl W).1;refine⟨∎,?_,λi hi j S=>?_⟩
   . have:=aD (s:=.join n a W w) (z:=λ_=>1000) (m:=evs.length) (Aw _) λa=>(sl a).1;have this:(JX w (BJ evs l a) (BJ evs l W)).length<=1000*1000:=this;∎
   . have:=Z1 ((sl a).2 i hi);have:=Z1 ((sl W).2 j S);∎|gap n a so m=>trivial|each n a so z d=>trivial
 . obtain⟨l,t,r,e,Z,_⟩:=B p s J D;rw[<-Z,e];exact gE (by simp)
 . have:=(U s.fd).1;∎
 . obtain⟨o,u⟩:=w;obtain⟨t,H,h1,h2⟩:=aZ (V p s J D) (C s y) ((V4 (V p s J D) Rk o u).mp hw);obtain⟨i,hi,rfl⟩:=B8.mp H;exact AEw (Ea.mpr ⟨hi,AMy ⟨h1,h2⟩⟩)
def IS{α:Type}{l:List α}{n:Int}(h:(l.length:Int)=n)(hn:0<n)(m:Int):∃x∈l,CJ l (m%n)=AA x:=by have D:=D7 (m:=m) hn;refine⟨l[(m%n).toNat]'(by omega),(by grind),?_⟩;rw[X9 (n:=0) D.1,EM _]
def aE:∀{zs:List AG},(∀a∈zs,Cn a)->EE (zs.map .s)=AD/\Fd (zs.map .s)=0
 |[],_=>⟨rfl,rfl⟩|z::r,h=>by
  obtain⟨h1,h2⟩:=aE λa J=>h a (DK _ J);have o:C1 z=AD:=h z ∎;refine⟨?_,?_⟩
  . show(C1 z&&EE _)=AD;∎
  ∎
def Zn{zs:List AG}(hz:∀a∈zs,Cn a)(V:Cn kd):∃s:Ao,RU [.i c,.s n,.l (zs.map .s),.s kd]=AA (.s s.D)/\JC zs n s/\(zs≠[]->c%8=6\/c%8=7->s.br=AD)/\(zs=[]->s=.take n kd):=by
  obtain⟨p1,p2⟩:=aE hz;have W:=λneg=>Y4 (neg:=neg) (a:=.d (.l (zs.map .s))) rfl p1 ∎;have Q:=λc m h=>@xY c m h;obtain⟨x,Y,f⟩:=IS (l:=[AU.d (.s "count"),.d (.s "sum"),.d (.s "least"),.d (.s "greatest")]) (n:=4) rfl (by decide) (c/3200+c/8*48271%2147483647);obtain⟨so,rfl,U⟩:∃so:AG,x=.d (.s so)/\(so="count"\/so="sum"\/so="least"\/so="greatest"):=by
    simp only[Bw,Hx,AMz]at Y;rcases Y with rfl|rfl|rfl|rfl;.exact⟨_,rfl,.inl rfl⟩
    .exact⟨_,rfl,.inr (.inl rfl)⟩
    .exact⟨_,rfl,.inr (.inr (.inl rfl))⟩
    .exact⟨_,rfl,.inr (.inr (.inr rfl))⟩
  obtain⟨y,Z,R⟩:=IS (l:=[AU.d (.i 49999),.d (.i 999999)]) (n:=2) rfl (by decide) ((c/3200+c/8*48271%2147483647)/256);obtain⟨M,rfl,B⟩:∃M:Int,y=.d (.i M)/\1<=M/\M<=999999:=by simp only[Bw,Hx,AMz]at Z;rcases Z with rfl|rfl<;>exact⟨_,rfl,by decide,by decide⟩
  have K:=Rc (c:=(c/3200+c/8*48271%2147483647)/4) (m:=M) B.1;have N:=Rc (c:=(c/3200+c/8*48271%2147483647)/64) (m:=19*(1+MP ((c/3200+c/8*48271%2147483647)/4) M)) ∎;have H:0<=M:=by∎
  have I:0<=19*(1+MP ((c/3200+c/8*48271%2147483647)/4) M):=by∎
  unfold RU;rw[Cg (by rfl)];unfold RE;have hw:c%8=0\/c%8=1\/c%8=2\/c%8=3\/c%8=4\/c%8=5\/c%8=6\/c%8=7:=by∎
  clear p1 p2 Y Z;by_cases e:zs=[]
  . subst e;clear hz hw K N B H I R Q U;have C:Cm AD (.d (.l [])) (.L [])=AA (.s (.b AH)):=W AD;have E:Cm AH (.d (.l [])) (.L [])=AA (.s (.b AD)):=W AH;clear W;revert V;lk;intro V;refine⟨.take n kd,?_,MS V,λh=>absurd rfl h,λ_=>rfl⟩;split<;>rfl
  . have O:0<(zs.length:Int):=by have:=List.length_pos_iff.mpr e;∎
    obtain⟨x,Y,S⟩:=IS (l:=zs.map AN.s) (by rw[A4]) O (c/8);obtain⟨J,h1,rfl⟩:=B8.mp Y;obtain⟨y,Z,X⟩:=IS (l:=zs.map AN.s) (by rw[A4]) O (c/160);obtain⟨A,h2,rfl⟩:=B8.mp Z;have C:Cm AD (.d (.l (zs.map .s))) (.L [])=AA (.s (.b AD)):=by rw[W];cases zs with|nil=>exact absurd rfl e|cons a b=>rfl
    have E:Cm AH (.d (.l (zs.map .s))) (.L [])=AA (.s (.b AH)):=by rw[W];cases zs with|nil=>exact absurd rfl e|cons a b=>rfl
    clear W Y Z;have P:=D7 (m:=(c/3200+c/8*48271%2147483647)/4) (k:=19) (by decide);have G:=Rc (c:=c/3200+c/8*48271%2147483647) (m:=1000000) (by decide);have F:=Rc (c:=(c/3200+c/8*48271%2147483647)/4) (m:=1000000) (by decide);revert U h1 h2 e hz K N B P G F V;rcases hw with h|h|h|h|h|h|h|h<;>lk<;>intro hz V U K N B e h1 h2 P G F;.exact⟨.take n kd,rfl,MS V,λ_ h=>∎,λh=>absurd h e⟩
    .exact⟨.take n kd,rfl,MS V,λ_ h=>∎,λh=>absurd h e⟩
    .split<;>split<;>exact⟨.only n J _ _,rfl,⟨rfl,NW h1,trivial⟩,λ_ h=>∎,λh=>absurd h e⟩
    .exact⟨.turn n J _ _,rfl,⟨rfl,NW h1,by constructor<;>∎⟩,λ_ h=>∎,λh=>absurd h e⟩
    .exact⟨.both n J A,rfl,⟨rfl,V2 h1 h2,trivial⟩,λ_ h=>∎,λh=>absurd h e⟩
    .exact⟨.join n J A _,rfl,⟨rfl,V2 h1 h2,G.1⟩,λ_ h=>∎,λh=>absurd h e⟩
    . refine⟨.each n J so _ _,rfl,⟨rfl,NW h1,⟨?_,U⟩⟩,λ_ _=>rfl,λh=>absurd h e⟩;split<;>∎
    .exact⟨.gap n J so _,rfl,⟨rfl,NW h1,⟨F.1,U⟩⟩,λ_ _=>rfl,λh=>absurd h e⟩
def O5(sn:List AG)(z:AG->Nat):AN:=.m (sn.map BV) (sn.map λa=>.i (z a:Int))
def AAa(h:a∈sn):J5 (.d (O5 sn z)) (.d (.s a))=AA (.d (.i (z a:Int))):=by have e:=OV (v:=λa=>AU.d (.i (z a))) QU h;refine X1 ?_ rfl e;show AA _=_;simp_all
def xH{m:Nat}(h:∀a∈s.bx,a∈sn)(hz:∀a∈sn,z a<=1000):NN [s.D,O5 sn z,.i (m:Int)]=AA (.s (.i (EF s z m:Int))):=by obtain⟨N,O,P,Q,R,S,T,X,c,Y,Z⟩:=aX;obtain⟨F,v2,v3,G,H,I,K,L,M,W⟩:=aY;have C:(BO "only"=BO "both")=False:=AMx (by decide+kernel);have u2:(BO "turn"=BO "both")=False:=AMx (by decide+kernel);have u3:(BO "gap"=BO "both")=False:=AMx (by decide+kernel);have E:(BO "each"=BO "both")=False:=AMx (by decide+kernel);have D:∀a∈s.bx,J5 (.d (O5 sn z)) (.d (.s a))=AA (.d (.i (z a:Int))):=λa V=>AAa (h a V);have J:∀a∈s.bx,-18446744073709551616<(z a:Int)/\(z a:Int)<18446744073709551616:=(by grind);clear hz h;unfold NN;refine(Cg (by rfl)).trans ?_;unfold RB;cases s with|take n k=>lk;rfl|only n a lo hi=>have D:=D a (.head _);unfold Ao.D EF;clear J;lk|turn n a lo hi=>have D:=D a (.head _);unfold Ao.D EF;clear J;lk|both n a b=>have U:=D b (.tail _ (.head _));have D:=D a (.head _);unfold Ao.D EF;clear J;lk;rw[AJD]|join n a b w=>obtain⟨A,B⟩:=J a (.head _);clear J;have U:=D b (.tail _ (.head _));have D:=D a (.head _);unfold Ao.D EF;lk;rw[wO]|gap n a so k=>have D:=D a (.head _);unfold Ao.D EF;clear J;lk|each n a so k d=>have D:=D a (.head _);unfold Ao.D EF;clear J;lk
def ZR(b:Int)(many:Nat)(ss:List Ao):Prop:=∃(D J U V f k0 k1:AG)(Y Z:Int),Gy b D (24,0)/\Gy b J (24,1)/\Gy b U (24,2)/\Gy b V (24,3)/\(f=D\/f=J)/\(Cn D/\Cn J/\Cn U/\Cn V/\Cn k0/\Cn k1)/\0<=Y/\0<=Z/\((¬many<6/\ss=[.take D k0,.take J k1,.join U D f Y,.join V J D Z])\/(many<6/\∃(W p q:AG)(A:Int),Gy b W (24,4)/\Cn W/\0<=A/\((p=U/\q=J)\/(p=D/\q=V))/\ss=[.take D k0,.take J k1,.join U D f Y,.join V J D Z,.join W p q A]))
def Ou(hz:z=BM 24++BM j)(D:j<26):∃n,Gz [.i b,.i k,.s z]=AA (.s (.s n))/\Gy b n (24,j)/\Cn n:=by
 have J:z.length<=2:=by rw[hz,KR];∎
 exact⟨_,LP J,⟨(by decide:24<26),D,.inl ⟨(by decide:23<=24),k,by rw[hz]⟩⟩,LO J (by rw[hz];exact RL (by decide) D)⟩
def xP{b c:Int}{many:Nat}:∃ss:List Ao,VZ [.i b,.i c,.i (many:Int)]=AA (.n (.L ((ss.map Ao.D).map .d)))/\ZR b many ss:=by
 obtain⟨U,a,I,E⟩:=Ou (b:=b) (k:=610) (z:="ya") (j:=0) (by decide+kernel) (by decide);obtain⟨V,e,t1,F⟩:=Ou (b:=b) (k:=611) (z:="yb") (j:=1) (by decide+kernel) (by decide);obtain⟨B,g,t2,G⟩:=Ou (b:=b) (k:=612) (z:="yc") (j:=2) (by decide+kernel) (by decide);obtain⟨C,h,t3,H⟩:=Ou (b:=b) (k:=613) (z:="yd") (j:=3) (by decide+kernel) (by decide);obtain⟨P,o,t4,M⟩:=Ou (b:=b) (k:=614) (z:="ye") (j:=4) (by decide+kernel) (by decide);obtain⟨k0,e0,D⟩:=RP (b:=b) (j:=0) (by decide) (by decide);obtain⟨k1,Q,J⟩:=RP (b:=b) (j:=1) (by decide) (by decide);obtain⟨x,N,S⟩:=IS (l:=[AU.d (.s U),.d (.s V)]) (n:=2) rfl (by decide) (c/31);obtain⟨f,rfl,Y⟩:∃f:AG,x=.d (.s f)/\(f=U\/f=V):=by grind
 obtain⟨y,O,X⟩:=IS (l:=[AU.d (.t [.s B,.s V]),.d (.t [.s U,.s C])]) (n:=2) rfl (by decide) (c/1922);obtain⟨p,q,rfl,W⟩:∃p q:AG,y=.d (.t [.s p,.s q])/\((p=B/\q=V)\/(p=U/\q=C)):=by grind
 have Z:=(D7 (m:=c) (k:=31) (by decide)).1;have A:=(D7 (m:=c/62) (k:=31) (by decide)).1;have K:=(D7 (m:=c/3844) (k:=61) (by decide)).1;unfold VZ;rw[Cg (by rfl)];unfold VC;clear N O;revert D J I t1 t2 t3 t4 E F G H M Y W Z A K;by_cases R:(many:Int)<6;. lk;intro I E t1 F t2 G t3 H t4 M D J Y W Z A K;exact⟨[.take U k0,.take V k1,.join B U f _,.join C V U _,.join P p q _],rfl,U,V,B,C,f,k0,k1,_,_,I,t1,t2,t3,Y,⟨E,F,G,H,D,J⟩,Z,A,(by grind)⟩
 . lk;intro I E t1 F t2 G t3 H t4 M D J Y W Z A K;exact⟨_,rfl,U,V,B,C,f,k0,k1,_,_,I,t1,t2,t3,Y,⟨E,F,G,H,D,J⟩,Z,A,.inl ⟨by omega,rfl⟩⟩
def MN(b:Int)(k:Nat):Ao:=.take (Ff b (620+(k:Int)) (BM 23++BM k)) "nobody"
def Zx(D:many<=10):∀n,n<=9->∃z,Dc b many ((EO n).map (MN b)) (λt=>t.1=23/\t.2<n) z []|0,_=>⟨λ_=>0,.yf⟩|n+1,h=>by obtain⟨z,J⟩:=Zx D n ∎;rw[List.range_succ,Cc];refine⟨_,J.qy (t:=(23,n)) ⟨(by decide:23<26),∎,.inl ⟨(by decide:23<=23),_,rfl⟩⟩ ∎ (MS (by unfold Cn;decide+kernel)) (LO (by rw[KR];∎) (RL (by decide) ∎)) (by show many<=1000;∎) λu U=>?_⟩;∎
def MR(k:Nat):Nat×Nat->Prop:=λt=>t.1=23\/(t.1=24/\t.2<k)
def Z3(m:Int):List Int:=[m,m,m*m,m*m,m^3]
def zJ{U:List Ao}(F:many=10\/many=5)(h:Dc b many ss (λt=>t.1=23) z0 [])(j:ZR b many U):∃z:AG->Nat,Dc b many (ss++U) (MR 5) z (U.map Ao.nm)/\(U.map λs=>(z s.nm:Int))=(Z3 many).take U.length/\(U.length=4\/U.length=5)/\(∀s∈U,s.D.pl=AD/\s.D.dp<=1):=by
  obtain⟨J,V,Y,Z,f,k0,k1,P,Q,g0,g1,g2,g3,i,⟨B,L,v,x,C,E⟩,l,o,rest⟩:=j;have K:∀k:Nat,¬MR k (24,k):=λk c=>by
    rcases c with c|c;.cases c
    .exact HB _ c.2
  have O:∀(k:Nat)u,MR k u\/u=(24,k)->MR (k+1) u:=λk u c=>by
    rcases c with(c|c)|rfl;.exact .inl c
    .exact .inr ⟨c.1,∎⟩
    .exact .inr ⟨rfl,Ny _⟩
  have m1:many<=1000:=by rcases F with rfl|rfl<;>decide
  have h0:Dc b many ss (MR 0) z0 []:=h.gg λu c=>.inl c;have mm:many*many<=1000:=by rcases F with rfl|rfl<;>decide
  obtain⟨z1,h1,a1,_⟩:=h0.nv (s:=.take J k0) (n:=J) (m:=many) rfl g0 (K 0) (MS C) B rfl m1 (O 0) rfl;obtain⟨z2,h2,a2,c2,_⟩:=h1.nv (s:=.take V k1) (n:=V) (m:=many) rfl g1 (K 1) (MS E) L rfl m1 (O 1) rfl;have b2:=(c2 J (by simp)).trans a1;have bf:z2 f=many:=by rcases i with rfl|rfl<;>∎
  obtain⟨z3,g,a3,c3,_⟩:=h2.nv (s:=.join Y J f P) (n:=Y) rfl g2 (K 2) (Vw (by simp) (by rcases i with rfl|rfl<;>simp) l) v (show z2 J*z2 f=_ by rw[b2,bf]) mm (O 2) rfl;have d0:=(c3 J (by simp)).trans b2;have d1:=(c3 V (by simp)).trans a2;obtain⟨A,h4,S,T,_⟩:=g.nv (s:=.join Z V J Q) (n:=Z) rfl g3 (K 3) (Vw (by simp) (by simp) o) x (show z3 V*z3 J=_ by rw[d0,d1]) mm (O 3) rfl;have e0:=(T J (by simp)).trans d0;have X:=(T V (by simp)).trans d1;have d:=(T Y (by simp)).trans a3;have M:Cn f:=by rcases i with rfl|rfl<;>∎
  have pt:∀{n k:AG},Cn n->Cn k->(Ao.take n k).D.pl=AD/\(Ao.take n k).D.dp<=1:=λ{n k}h1 h2=>⟨by show(C1 "take"&&(C1 n&&(C1 k&&AD)))=AD;rw[show C1 n=AD from h1,show C1 k=AD from h2];decide+kernel,Aw _⟩;have N:∀{n a b:AG}{w:Int},Cn n->Cn a->Cn b->(Ao.join n a b w).D.pl=AD/\(Ao.join n a b w).D.dp<=1:=λ{n a b w}h1 h2 g=>⟨by show(C1 "join"&&(C1 n&&(C1 a&&(C1 b&&(AD&&AD)))))=AD;rw[show C1 n=AD from h1,show C1 a=AD from h2,show C1 b=AD from g];decide+kernel,Aw _⟩;rcases rest with⟨h6,rfl⟩|⟨h6,I,p,q,y,g4,o4,r,W,rfl⟩
  . have e:ss++[.take J k0,.take V k1,.join Y J f P,.join Z V J Q]=ss++[.take J k0]++[.take V k1]++[.join Y J f P]++[.join Z V J Q]:=by simp
    rw[e];refine⟨A,h4.gg λu c=>c.imp id λc=>⟨c.1,∎⟩,?_,.inl rfl,λs H=>?_⟩;. show[(A J:Int),(A V:Int),(A Y:Int),(A Z:Int)]=[_,_,_,_];rw[e0,X,d,S,wO]
    . simp only[Bw,Hx,AMz]at H;rcases H with rfl|rfl|rfl|rfl;.exact pt B C
      .exact pt L E
      .exact N v B M
      .exact N x L B
  . have e:ss++[.take J k0,.take V k1,.join Y J f P,.join Z V J Q,.join I p q y]=ss++[.take J k0]++[.take V k1]++[.join Y J f P]++[.join Z V J Q]++[.join I p q y]:=by simp
    have F:many=5:=by∎
    have ep:A p*A q=many^3:=by
      rcases W with⟨rfl,rfl⟩|⟨rfl,rfl⟩;.rw[d,X,F]
      .rw[e0,S,F]
    obtain⟨G,h5,a5,R,_⟩:=h4.nv (s:=.join I p q y) (n:=I) rfl g4 (K 4) (Vw (by rcases W with⟨rfl,rfl⟩|⟨rfl,rfl⟩<;>simp) (by rcases W with⟨rfl,rfl⟩|⟨rfl,rfl⟩<;>simp) r) o4 (show A p*A q=_ from ep) (by rw[F];decide) (O 4) rfl;rw[e];refine⟨G,h5,?_,.inr rfl,λs H=>?_⟩;. show[(G J:Int),(G V:Int),(G Y:Int),(G Z:Int),(G I:Int)]=[_,_,_,_,_];rw[R J (by simp),R V (by simp),R Y (by simp),R Z (by simp),e0,X,d,S,a5,wO,Int.natCast_pow]
    . simp only[Bw,Hx,AMz]at H;rcases H with rfl|rfl|rfl|rfl|rfl;.exact pt B C
      .exact pt L E
      .exact N v B M
      .exact N x L B
      .exact N o4 (by rcases W with⟨rfl,rfl⟩|⟨rfl,rfl⟩<;>∎) (by rcases W with⟨rfl,rfl⟩|⟨rfl,rfl⟩<;>∎)
def wV(b:Int)(many:Nat)(r:Option Ab):Prop:=∃ss q z sn,r=AA (.n (.L ((ss.map Ao.D).map .d)))/\Dc b many ss q z sn/\ss.length<=22
abbrev Ef(ss:List Ao):AU:=.L ((ss.map Ao.D).map .d)
abbrev LX(sn:List AG)(z:AG->Nat):AU:=.M (sn.map BV) (sn.map λa=>.d (.i (z a:Int)))
abbrev Co(ns:List Int)(many:Nat)(b:Int)(ss:List Ao)(sn:List AG)(z:AG->Nat)(D:Int)(J:AU)(r:AM):AM:=AA (.d (.l (ns.map .i)))::AA (.d (.i 2))::AA (.d (.i 5))::AA (.d (.i (many:Int)))::AA (.d (.i b))::AA (.d (.s FL))::AA (Ef ss)::AA (LX sn z)::AA (.d (.i D))::AA J::r
def zC{b:Int}{j:Nat}(U:j<26){L:AG}(W:B9 (.d (.s L)) (.d (.i (j:Int)))=AA (.d (.s (BM j)))):US (BU (CC (.s (.s "take"))) (BU (DP Gz (BU (BW (Ai 1)) (BU (A9 En (Bg (CC (.s (.i 620)))) (Ai 0)) (BU (A9 En (Bg (CC (.s (.s "x")))) (A9 B9 (Ai 2) (Ai 0))) C9)))) (BU (CC (.s (.s "nobody"))) C9))) [AA (.d (.i (j:Int))),AA (.d (.i b)),AA (.d (.s L))]=AA (.s (MN b j).D):=by
 have J:=LP (c:=b) (k:=620+(j:Int)) (z:=BM 23++BM j) (by rw[KR];exact Aw _);have V:En (.d (.s "x")) (.d (.s (BM j)))=AA (.s (.s (BM 23++BM j))):=by exact Qw (by show 1+1<=AY;decide)
 clear U;unfold MN;generalize BM 23++BM j=y at J V⊢;lk;rfl
def RN{j:Nat}(h:j<26):B9 (.d (.s FL)) (.d (.i (j:Int)))=AA (.d (.s (BM j))):=Yw (by decide+kernel) (Ze h)
def Oj(J:AU)(sn:List AG):Prop:=J=.L []\/∃D:List Ao,J=Ef D/\(D.length=4\/D.length=5)/\(∀s∈D,s.D.pl=AD/\s.D.dp<=1)/\∀s∈D,s.nm∈sn
def Vr {l : List Nat} (e : EO n = l ++ x :: z) : x = l.length ∧ x < n := by
  have h : (EO n)[l.length]? = AA x := by ∎
  ∎
def zD{m:Int}(W:Ai 3 τ=AA (.d (.i m)))(D:Ai 10 τ=AA (.d (.i (x:Int))))(J:-18446744073709551616<m)(U:m<18446744073709551616)(V:m.natAbs<2^64)(Y:CJ [AU.d (.i m),.d (.i m),.d (.i (m*m)),.d (.i (m*m)),.d (.i (m^(3:Int).toNat))] (x:Int)=AA (.d (.i v))):BW (A9 B9 (Bg (UQ (BU (BW (Ai 3)) (BU (BW (Ai 3)) (BU (A9 LG (Ai 3) (Ai 3)) (BU (A9 LG (Ai 3) (Ai 3)) (BU (A9 YS (Ai 3) (Bg (CC (.s (.i 3))))) C9))))))) (Ai 10)) τ=AA (.s (.i v)):=by lk
def Zo{m:Nat}(h:∀a∈s.bx,a∈sn)(hz:∀a∈sn,z a<=1000)(D:Ai 14 τ=AA (.d s.D))(V:Ai 7 τ=AA (LX sn z))(U:Ai 3 τ=AA (.d (.i (m:Int)))):DP NN (BU (BW (Ai 14)) (UP (Ai 7) (BU (BW (Ai 3)) C9))) τ=AA (.s (.i (EF s z m:Int))):=by
 have e:=xH (m:=m) h hz;have W:(LX sn z).fg=AA (O5 sn z):=by show(DM _).map _=_;rw[UM λ_ _=>rfl];rfl
 have J:BU (BW (Ai 14)) (UP (Ai 7) (BU (BW (Ai 3)) C9)) τ=AA (AD,[s.D,O5 sn z,.i (m)]):=by rw[Ui,Uj,D,Um];unfold UP;simp only[V,pM,W,Ui,Uj,U,Um,ZC,ZE,Y3,AE7];rfl
 rw[Yy,J];exact AIm e rfl
def AAe{s:Ao}(h:Ai 14 τ=AA (.d s.D)):Ya (DZ (A9 (Cm AD) (A9 B9 (Ai 14) (Bg (CC (.s (.i 0))))) (Bg (CC (.s (.s "each")))))) (DZ (A9 (Cm AD) (A9 B9 (Ai 14) (Bg (CC (.s (.i 0))))) (Bg (CC (.s (.s "gap")))))) τ=AA (!s.br):=by
 have g:∀w:AG,DZ (A9 (Cm AD) (A9 B9 (Ai 14) (Bg (CC (.s (.i 0))))) (Bg (CC (.s (.s w))))) τ=LC (OF (Cm AD) (B9 (.d s.D) (.d (.i 0))) (AA (.d (.s w)))):=λw=>by simp only[Yx,ZH,ZG,Y8,h,ZA,pK]
 rw[Yv,g];unfold QM;rw[g];cases s<;>rfl
def LS(i:Nat):Nat×Nat->Prop:=λt=>MR 5 t\/(t.1=0/\t.2<i)
def Rf(i:Nat):Nat×Nat->Prop:=λt=>LS 5 t\/(t.1=25/\t.2<i)
def Oj.we(h:Oj J sn)(U:∀a∈sn,a∈D):Oj J D:=h.imp id ∎
def Z5{sn:List AG}:Qc (LX sn z)=AA (.n (.L ((sn.map .s).map .d))):=by show AA (Ab.n _)=_;rw[show(sn.map _).map _=sn.map AN.s by rw[Bj];rfl]
def yG {ns : List Int} (H : many = 10 ∨ many = 5) : wV (Hn ns 2) many (Vd [.l (ns.map .i), .i 2, .i 5, .i (many : Int)]) := by
  have O := fun k h => @Oq ns k h
  have hA2 := O 2 (by decide)
  have hA3 := O 3 (by decide)
  generalize Hn ns 2 = b at hA2 ⊢
  generalize Hn ns 3 = V at hA3 ⊢
  unfold Vd
  rw [Cg (by rfl)]
  unfold VF
  revert O H
  lk
  intro H O
  clear hA2 hA3
  have A : AY = 16777216 := ES
  have Y : many ≤ 10 := by ∎
  obtain ⟨t1, hin⟩ : ∃ t1, Mz AH (.d (.i (V / 6 % 9))) (.d (.t [.i 2, .i 6])) = AA (.s (.b t1)) := ⟨_, rfl⟩
  refine AH0 _ (fun τ => ∃ ss z, τ = Co ns many b ss [] z V (.L []) [AB, AB, AB, AB, AB, AB] ∧ Dc b many ss (fun t => t.1 = 23) z [] ∧ ss.length ≤ 9) ?_ ?_
  · rw [hin]
    clear hin
    cases t1 with
    | false => exact ⟨_, rfl, [], fun _ => 0, rfl, .yf, EA _⟩
    | true =>
      obtain ⟨z, Z⟩ := Zx (b := b) Y 9 (Aw _)
      refine ⟨_, ?_, (EO 9).map (MN b), z, rfl, Z.gg fun u h => h.1, Aw _⟩
      have hR : MD [.i 9] = AA ((EO 9).map fun k : Nat => .i (k : Int)) := ZF (j := 9) (by decide) (by decide)
      have hC := kT (m := GS 0) (t := Qj) (f := US (BU (CC (.s (.s "take"))) (BU (DP Gz (BU (BW (Ai 1)) (BU (A9 En (Bg (CC (.s (.i 620)))) (Ai 0)) (BU (A9 En (Bg (CC (.s (.s "x")))) (A9 B9 (Ai 2) (Ai 0))) C9)))) (BU (CC (.s (.s "nobody"))) C9)))) (τ := [AB, AA (.d (.i b)), AA (.d (.s FL))]) (en := fun k : Nat => .i (k : Int)) (g := fun k => (MN b k).D) (xs := EO 9) (by decide) fun j hj => ⟨_, rfl, rfl, zC (Eb (gF.mp hj) (by decide)) (RN (Eb (gF.mp hj) (by decide)))⟩
      clear Z H A Y O
      generalize EO 9 = R at hR hC ⊢
      generalize MD = rr at hR ⊢
      rw [show (R.map fun k => (MN b k).D) = (R.map (MN b)).map Ao.D by rw [Bj]; rfl] at hC
      lk
      rfl
  rintro _ ⟨ss, z, rfl, Z, E⟩
  clear hin
  refine Dy _ (fun τ => ∃ ss sn z J r, τ = Co ns many b ss sn z V J (r :: [AB, AB, AB, AB, AB]) ∧ Dc b many ss (MR 5) z sn ∧ Oj J sn ∧ ss.length ≤ 14 ∧ sn.length ≤ 5) ?_ ?_
  · obtain ⟨U, hj, jS⟩ := xP (b := b) (c := Hn ns 10) (many := many)
    have O := O 10 (by decide)
    by_cases c5 : 5 < V / 6 % 9
    · obtain ⟨z', Q, hv, hl4, hpl⟩ := zJ H Z jS
      have hAd : En (Ef ss) (Ef U) = AA (.n (Ef (ss ++ U))) := by
        have := Uh (a := Ef ss) (b := Ef U) Gw Gw (by rw [A4, A4]; ∎)
        rw [← Cc] at this
        exact this
      have hLn : J6 (Ef U) = AA (.s (.i (U.length : Int))) := by show AA (Ab.s (.i (Kk _ : Nat))) = _; rw [A4, A4]
      unfold Ef at hAd hLn
      clear jS
      rw [IE (b := AD) (by
        clear hAd hLn hj O Z Q hv hl4 hpl E H A Y
        lk), AMu rfl]
      refine Ep (fun τ => τ = Co ns many b ss [] z V (Ef U) [AB, AB, AB, AB, AB, AB]) ⟨_, by
        clear hAd hLn Z Q hv hl4 hpl E H A Y
        lk, rfl⟩ ?_
      rintro _ rfl
      refine Ep (fun τ => τ = Co ns many b (ss ++ U) [] z V (Ef U) [AB, AB, AB, AB, AB, AB]) ⟨_, by
        clear hLn Z Q hv hl4 hpl E H A Y
        lk, rfl⟩ ?_
      rintro _ rfl
      rw [X5 (j := (U.length : Int)) (by
        clear hAd Z Q hv hl4 hpl E H A Y
        lk) ∎ ∎, ZQ]
      have hnd : (U.map Ao.nm).Nodup := by
        have := Q.nd
        rw [Cc] at this
        exact (HA.mp this).2.1
      obtain ⟨τ', e, r, rfl⟩ := OH (m := GS 10) (G := IG (Mx 7) (A9 B9 (A9 B9 (Ai 9) (Ai 10)) (Bg (CC (.s (.i 1))))) (BW (A9 B9 (Bg (UQ (BU (BW (Ai 3)) (BU (BW (Ai 3)) (BU (A9 LG (Ai 3) (Ai 3)) (BU (A9 LG (Ai 3) (Ai 3)) (BU (A9 YS (Ai 3) (Bg (CC (.s (.i 3))))) C9))))))) (Ai 10)))) (en := fun k : Nat => .i (k : Int)) (xs := EO U.length) (fun l τ => ∃ r, τ = Co ns many b (ss ++ U) ((U.take l.length).map Ao.nm) z' V (Ef U) (r :: [AB, AB, AB, AB, AB])) (τ := Co ns many b (ss ++ U) [] z V (Ef U) [AB, AB, AB, AB, AB, AB]) ⟨AB, rfl⟩ (by
        rintro l x y e _ ⟨r, rfl⟩
        obtain ⟨rfl, hx⟩ := Vr e
        refine ⟨_, rfl, ?_⟩
        have hs : U[l.length]? = AA U[l.length] := EM hx
        generalize U[l.length] = s at hs
        have hI1 : CJ ((U.map Ao.D).map AU.d) (l.length : Int) = AA (.d s.D) := by rw [Gv, Ca, Ca, hs]; rfl
        have hI2 : B9 (.d s.D) (.d (.i 1)) = AA (.d (.s s.nm)) := by cases s <;> rfl
        have hz := AMw (·[l.length]?) hv
        simp only [Ca, hs, AE7, List.getElem?_take, hx, AM2] at hz
        have hV : CJ [AU.d (.i (many : Int)), .d (.i (many : Int)), .d (.i ((many : Int) * (many : Int))), .d (.i ((many : Int) * (many : Int))), .d (.i ((many : Int) ^ (3 : Int).toNat))] (l.length : Int) = AA (.d (.i (z' s.nm : Int))) := by
          have e : [AU.d (.i (many : Int)), .d (.i (many : Int)), .d (.i ((many : Int) * (many : Int))), .d (.i ((many : Int) * (many : Int))), .d (.i ((many : Int) ^ (3 : Int).toNat))] = (Z3 many).map fun i => AU.d (.i i) := rfl
          rw [e, Gv, Ca, ← hz]
          rfl
        have N : (BV s.nm : AW) ∉ ((U.take l.length).map Ao.nm).map BV := fun hc => by
          obtain ⟨a, ha, ea⟩ := B8.mp hc
          rw [AJX] at ha
          obtain ⟨i, hi, ei⟩ := List.mem_take_iff_getElem.mp ha
          have h1 : (U.map Ao.nm)[l.length]? = AA s.nm := by rw [Ca, hs]; rfl
          obtain ⟨h2, h3⟩ := EN.mp h1
          have := (gC hnd).mp (ei.trans ((j9 ea).trans h3.symm))
          ∎
        have ht : (U.take (l.length + 1)) = U.take l.length ++ [s] := by rw [List.take_succ, hs]; rfl
        refine T6 ⟨_, To (k := .inr s.nm) (w := .s (.i (z' s.nm : Int))) rfl rfl ?_ (zD rfl rfl ∎ ∎ ∎ hV) N ?_ ?_, AA (.d (.i (l.length : Int))), ?_⟩
        · have hp : A9 B9 (A9 B9 (Ai 9) (Ai 10)) (Bg (CC (.s (.i 1)))) (Co ns many b (ss ++ U) ((U.take l.length).map Ao.nm) z' V (Ef U) (AA (.d (.i (l.length : Int))) :: [AB, AB, AB, AB, AB])) = AA (.d (.s s.nm)) := by
            clear hV N ht hz hnd hAd hLn Z Q hv hl4 hpl E H A Y hs
            lk
          show (A9 B9 (A9 B9 (Ai 9) (Ai 10)) (Bg (CC (.s (.i 1)))) (Co ns many b (ss ++ U) ((U.take l.length).map Ao.nm) z' V (Ef U) (AA (.d (.i (l.length : Int))) :: [AB, AB, AB, AB, AB]))).bind AU.gb = _
          rw [hp]
          rfl
        · simp only [A4]
        · rw [A4, A4, AJV]; ∎
        · rw [Bi, G9, ht]
          unfold Co LX
          simp only [Cc, Dw, Po]
          rfl)
      refine ⟨_, e, ss ++ U, U.map Ao.nm, z', Ef U, r, ?_, Q, .inr ⟨U, rfl, hl4, hpl, fun s hs => gE hs⟩, by rw [Bi]; ∎, by rw [A4]; ∎⟩
      rw [XE, List.take_length]
    · refine ⟨Co ns many b ss [] z V (.L []) [AB, AB, AB, AB, AB, AB], ?_, ss, [], z, .L [], AB, rfl, Z.gg fun u h => .inl h, .inl rfl, ∎, EA _⟩
      clear hj jS Z E H A Y
      lk
  clear Z E
  rintro _ ⟨ss, sn, z, J, r, rfl, Z, I, E, S⟩
  refine Dy _ (fun τ => ∃ ss sn z K M F B C, τ = Co ns many b ss sn z V J [K, M, F, B, C, AB] ∧ Dc b many ss (LS 5) z sn ∧ Oj J sn ∧ ss.length ≤ 19) ?_ ?_
  · have c6 := D7 (m := V) (k := 6) (by decide)
    rw [X5 (j := V % 6) (by
      clear Z I E S H A Y O c6
      lk) ∎ c6.1]
    refine (OH (en := fun k : Nat => .i (k : Int)) (fun l τ => ∃ ss sn z K M F B C, τ = Co ns many b ss sn z V J [K, M, F, B, C, AB] ∧ Dc b many ss (LS l.length) z sn ∧ Oj J sn ∧ ss.length ≤ 14 + l.length ∧ sn.length ≤ 5 + l.length) ⟨ss, sn, z, r, AB, AB, AB, AB, rfl, Z.gg fun u h => .inl h, I, ∎, ∎⟩ ?_).imp fun τ ⟨e, ss, sn, z, K, M, F, B, C, e1, h1, h2, h3, _⟩ => ⟨e, ss, sn, z, K, M, F, B, C, e1, h1.gg fun u h => h.imp id fun h => ⟨h.1, by have := h.2; rw [XE] at this; ∎⟩, h2, by rw [XE] at h3; ∎⟩
    clear Z I E S
    rintro l i y e _ ⟨ss, sn, z, K, M, F, B, C, rfl, Z, I, E, S⟩
    obtain ⟨rfl, hx⟩ := Vr e
    clear e
    have i5 : l.length < 6 := by ∎
    generalize N : l.length = k at *
    refine ⟨_, rfl, T6 ?_⟩
    have hA1 := O (4 + (k : Int) % 7) ∎
    generalize Hn ns (4 + (k : Int) % 7) = a0 at hA1
    refine Ep (fun τ => ∃ c : Int, τ = Co ns many b ss sn z V J [AA (.d (.i (k : Int))), AA (.d (.i c)), F, B, C, AB]) ⟨_, by
      clear Z I E S H A Y O c6 hx i5 N
      lk, a0 + 7919 * ((k : Int) / 7) + (k : Int), rfl⟩ ?_
    rintro _ ⟨c, rfl⟩
    have hc0 : B9 (.d (.s FL)) (.d (.i 0)) = AA (.d (.s (BM 0))) := RN (j := 0) (by decide)
    have hck := RN (j := k) ∎
    have o : En (.d (.s (BM 0))) (.d (.s (BM k))) = AA (.s (.s (BM 0 ++ BM k))) := Qw (by show 1 + 1 ≤ AY; decide)
    have hsn := yH (b := b) (k := (k : Int)) (z := BM 0 ++ BM k) (by rw [KR]; exact Aw _) ∎ ∎
    have tg : Gy b (Hs b (k : Int) (BM 0 ++ BM k)) (0, k) := ⟨(by decide : 0 < 26), (by show k < 26; ∎), .inr ⟨rfl, (by show k < 13; ∎), rfl⟩⟩
    have P : Cn (Hs b (k : Int) (BM 0 ++ BM k)) := by
      by_cases h9 : b % 9 = 4
      · exact AAr _ (aM h9 _ _)
      · unfold Hs
        rw [AMv h9]
        exact LO (by rw [KR]; exact Aw _) (RL (by decide) ∎)
    generalize Hs b (k : Int) (BM 0 ++ BM k) = nm at hsn tg P
    generalize BM 0 ++ BM k = y2 at o hsn
    generalize BM 0 = y0 at hc0 o
    generalize BM k = yk at hck o
    refine Ep (fun τ => τ = Co ns many b ss sn z V J [AA (.d (.i (k : Int))), AA (.d (.i c)), AA (.d (.s nm)), B, C, AB]) ⟨_, by
      clear Z I E S H A Y O c6 hx i5 N tg P
      lk, rfl⟩ ?_
    rintro _ rfl
    clear hc0 hck o hsn hA1
    have m3 := D7 (m := c / 3200) (k := 3) (by decide)
    obtain ⟨kd, hkd, okd⟩ := RP (b := b) m3.1 m3.2
    refine Ep (fun τ => τ = Co ns many b ss sn z V J [AA (.d (.i (k : Int))), AA (.d (.i c)), AA (.d (.s nm)), AA (.d (.s kd)), C, AB]) ⟨_, by
      clear Z I E S H A Y O c6 hx i5 N tg P okd m3
      lk, rfl⟩ ?_
    rintro _ rfl
    clear hkd m3
    obtain ⟨s0, hst, g0, -, -⟩ := Zn (c := c) (n := nm) Z.yh okd
    have hld := Z5 (sn := sn) (z := z)
    refine Ep (fun τ => τ = Co ns many b ss sn z V J [AA (.d (.i (k : Int))), AA (.d (.i c)), AA (.d (.s nm)), AA (.d (.s kd)), AA (.d s0.D), AB]) ⟨_, by
      clear Z I E S H A Y O c6 hx i5 N tg P okd g0
      generalize Qc = oL at hld ⊢
      lk, rfl⟩ ?_
    rintro _ rfl
    clear hst hld
    refine Ep (fun τ => ∃ s : Ao, τ = Co ns many b ss sn z V J [AA (.d (.i (k : Int))), AA (.d (.i c)), AA (.d (.s nm)), AA (.d (.s kd)), AA (.d s.D), AB] ∧ JC sn nm s ∧ EF s z many ≤ 150) ?_ ?_
    · have hb := Zo (τ := Co ns many b ss sn z V J [AA (.d (.i (k : Int))), AA (.d (.i c)), AA (.d (.s nm)), AA (.d (.s kd)), AA (.d s0.D), AB]) g0.ng Z.xu rfl rfl rfl
      show ∃ τ2, KC _ _ _ (Co ns many b ss sn z V J [AA (.d (.i (k : Int))), AA (.d (.i c)), AA (.d (.s nm)), AA (.d (.s kd)), AA (.d s0.D), AB]) = _ ∧ _
      rw [IE (b := Af ((150 : Int) < (EF s0 z many : Int))) (by
        show LC (OF mF (ON (DP NN _ _)) _) = _
        rw [hb]
        rfl)]
      by_cases hc : (150 : Int) < (EF s0 z many : Int)
      · rw [AMu (AMy hc)]
        refine ⟨_, by
          clear Z I E S H A Y O c6 hx i5 N tg P okd g0 hb hc
          lk
          rfl, .take nm kd, rfl, MS okd, by show many ≤ 150; ∎⟩
      · rw [AMv (by simpa using hc)]
        exact ⟨_, rfl, s0, rfl, g0, ∎⟩
    clear g0
    rintro _ ⟨s, rfl, g, hb⟩
    have hlp : ss.length < AY := by ∎
    refine Ep (fun τ => τ = Co ns many b (ss ++ [s]) sn z V J [AA (.d (.i (k : Int))), AA (.d (.i c)), AA (.d (.s nm)), AA (.d (.s kd)), AA (.d s.D), AB]) ⟨Co ns many b (ss ++ [s]) sn z V J [AA (.d (.i (k : Int))), AA (.d (.i c)), AA (.d (.s nm)), AA (.d (.s kd)), AA (.d s.D), AB], by
      clear Z I E S H A Y O c6 hx i5 N tg P okd g hb
      lk
      unfold Co Ef
      rw [Cc, Cc]
      rfl, rfl⟩ ?_
    rintro _ rfl
    clear hlp
    have nq : ¬ LS k (0, k) := fun h => by
      rcases h with (h | h) | h
      · cases h
      · cases h.1
      · exact HB _ h.2
    have sq : ∀ u, LS k u ∨ u = (0, k) → LS (k + 1) u := fun u h => by
      rcases h with (h | h) | rfl
      · exact .inl h
      · exact .inr ⟨h.1, ∎⟩
      · exact .inr ⟨rfl, Ny _⟩
    have hl' : (ss ++ [s]).length ≤ 14 + (l ++ [k]).length := by rw [Bi, Bi, G9, G9]; ∎
    have hq' : LS (l ++ [k]).length = LS (k + 1) := by rw [Bi, G9, N]
    rw [IE (AAe rfl), hq']
    cases ht : s.br with
    | true =>
      have hg : JC sn s.nm s := by rw [g.nm]; exact g
      rw [AMv (by decide)]
      refine ⟨_, rfl, ss ++ [s], sn, MQ z s.nm (EF s z many), AA (.d (.i (k : Int))), AA (.d (.i c)), AA (.d (.s nm)), AA (.d (.s kd)), AA (.d s.D), ?_, Z.qy (t := (0, k)) (by rw [g.nm]; exact tg) nq hg (by rw [g.nm]; exact P) ∎ sq, I, hl', by rw [Bi, G9]; ∎⟩
      unfold Co LX
      rw [Z.wa (by rw [g.nm]; exact Z.ph tg nq)]
    | false =>
      rw [AMu (by decide)]
      obtain ⟨z', Q, e1, e2, nn⟩ := Z.nv g.nm tg nq g P rfl ∎ sq ht
      have hb2 := Zo (τ := Co ns many b (ss ++ [s]) sn z V J [AA (.d (.i (k : Int))), AA (.d (.i c)), AA (.d (.s nm)), AA (.d (.s kd)), AA (.d s.D), AB]) g.ng Z.xu rfl rfl rfl
      have hsn : nm ∉ sn := fun h => nn (Z.wx h)
      refine ⟨Co ns many b (ss ++ [s]) (sn ++ [nm]) z' V J [AA (.d (.i (k : Int))), AA (.d (.i c)), AA (.d (.s nm)), AA (.d (.s kd)), AA (.d s.D), AB], ?_, ss ++ [s], sn ++ [nm], z', _, _, _, _, _, rfl, Q, I.we fun a h => GK _ h, hl', by rw [Bi, Bi, G9, G9]; ∎⟩
      show IG _ _ _ (Co ns many b (ss ++ [s]) sn z V J [AA (.d (.i (k : Int))), AA (.d (.i c)), AA (.d (.s nm)), AA (.d (.s kd)), AA (.d s.D), AB]) = _
      rw [To (k := .inr nm) rfl rfl rfl hb2 (fun h => by
        obtain ⟨a, ha, ea⟩ := B8.mp h
        exact hsn (by rw [← j9 ea]; exact ha)) (by simp only [A4]) (by
        rw [A4]
        ∎)]
      unfold Co LX
      have ez : sn.map (fun a => AU.d (.i (z' a : Int))) = sn.map fun a => AU.d (.i (z a : Int)) := Ie fun a ha => by rw [e2 a ha]
      simp only [Cc, ez, Dw, Po, e1]
      rfl
  rintro _ ⟨ss, sn, z, K, M, F, B, C, rfl, Z, I, E⟩
  have hld := Z5 (sn := sn) (z := z)
  refine Dy _ (fun τ => τ = Co ns many b ss sn z V J [K, M, F, B, C, AA (.L ((sn.map .s).map .d))]) ⟨_, by
    clear Z I E H A Y O
    generalize Qc = oL at hld ⊢
    lk, rfl⟩ ?_
  rintro _ rfl
  clear hld
  refine Dy _ (fun τ => ∃ ss q z r, τ = Co ns many b ss sn z V J r ∧ Dc b many ss q z sn ∧ ss.length ≤ 22) ?_ ?_
  · obtain ⟨j, j0, j2, hj⟩ : ∃ j : Int, 0 ≤ j ∧ j ≤ 1 ∧ T7 (.d (.b (!Af (V / 6 % 9 = 4)))) = AA (.s (.i j)) := by
      cases (!Af (V / 6 % 9 = 4)) with
      | true => exact ⟨1, by decide, by decide, rfl⟩
      | false => exact ⟨0, by decide, by decide, rfl⟩
    rw [X5 (j := 2 * j) (by
      clear Z I E H A Y O j0 j2
      lk) ∎ ∎]
    refine (OH (en := fun k : Nat => .i (k : Int)) (fun l τ => ∃ ss z K M F B C x15, τ = Co ns many b ss sn z V J [K, M, F, B, C, AA x15] ∧ (x15 = .L ((sn.map .s).map .d) ∨ x15 = .d (.l (sn.map .s))) ∧ Dc b many ss (Rf l.length) z sn ∧ ss.length ≤ 19 + l.length) ⟨ss, z, K, M, F, B, C, _, rfl, .inl rfl, Z.gg fun u h => .inl h, ∎⟩ ?_).imp fun τ ⟨e, ss, z, K, M, F, B, C, x15, e1, e2, h1, h2⟩ => ⟨e, ss, _, z, _, e1, h1, by rw [XE] at h2; ∎⟩
    clear Z E hj
    rintro l i y e _ ⟨ss, z, K, M, F, B, C, x15, rfl, h15, Z, E⟩
    obtain ⟨rfl, hx⟩ := Vr e
    clear e
    generalize N : l.length = k at *
    have i2 : k < 2 := by ∎
    refine ⟨_, rfl, T6 ?_⟩
    have hA1 := O (11 + (k : Int)) ∎
    have X := O 0 (by decide)
    generalize Hn ns (11 + (k : Int)) = c at hA1
    generalize Hn ns 0 = c0 at X
    clear O hx
    refine Ep (fun τ => τ = Co ns many b ss sn z V J [AA (.d (.i (k : Int))), AA (.d (.i c)), F, B, C, AA x15]) ⟨_, by
      clear Z I E H A Y N i2 j0 j2 h15
      lk, rfl⟩ ?_
    rintro _ rfl
    have hck := RN (j := k) ∎
    have o : En (.d (.s "z")) (.d (.s (BM k))) = AA (.s (.s (BM 25 ++ BM k))) := by
      rw [show ("z" : AG) = BM 25 by decide +kernel]
      exact Qw (by show 1 + 1 ≤ AY; decide)
    have hz2 : (BM 25 ++ BM k).length ≤ 2 := by rw [KR]; exact Aw _
    have hcl := LP (c := b) (k := 600 + (k : Int)) hz2
    have tg : Gy b (Ff b (600 + (k : Int)) (BM 25 ++ BM k)) (25, k) := ⟨(by decide : 25 < 26), (by show k < 26; ∎), .inl ⟨(by decide : 23 ≤ 25), _, rfl⟩⟩
    have P : Cn (Ff b (600 + (k : Int)) (BM 25 ++ BM k)) := LO hz2 (RL (by decide) ∎)
    generalize Ff b (600 + (k : Int)) (BM 25 ++ BM k) = nm at hcl tg P
    clear hz2
    generalize BM 25 ++ BM k = y2 at o hcl
    generalize BM k = yk at hck o
    refine Ep (fun τ => τ = Co ns many b ss sn z V J [AA (.d (.i (k : Int))), AA (.d (.i c)), AA (.d (.s nm)), B, C, AA x15]) ⟨_, by
      clear Z I E H A Y N i2 j0 j2 h15 tg P
      lk, rfl⟩ ?_
    rintro _ rfl
    clear hck o hcl hA1
    obtain ⟨s0, hst, g0, t0, p⟩ := Zn (c := 6 + c % 2 + 8 * (c / 2)) (n := nm) (kd := "k") Z.yh (by unfold Cn; decide +kernel)
    have t0 := fun h => t0 h ∎
    refine Ep (fun τ => τ = Co ns many b ss sn z V J [AA (.d (.i (k : Int))), AA (.d (.i c)), AA (.d (.s nm)), B, AA (.d s0.D), AA (.d (.l (sn.map .s)))]) ⟨_, by
      clear Z I E H A Y N i2 j0 j2 tg P g0 t0 p
      rcases h15 with rfl | rfl <;> lk, rfl⟩ ?_
    rintro _ rfl
    clear hst h15
    refine Ep (fun τ => ∃ s : Ao, τ = Co ns many b ss sn z V J [AA (.d (.i (k : Int))), AA (.d (.i c)), AA (.d (.s nm)), B, AA (.d s.D), AA (.d (.l (sn.map .s)))] ∧ JC sn nm s ∧ (sn ≠ [] → s.br = AD) ∧ (sn = [] → s = .take nm "k")) ?_ ?_
    · cases s0 with
      | gap n' a so m =>
        have eD : (Ao.gap n' a so m).D = .t [.s "gap", .s n', .s a, .s so, .i m] := rfl
        obtain ⟨v, hv, hV⟩ := IS (l := [AU.d (.i 1), .d (.i 1), .d (.i 1), .d (.i 7), .d (.i 1000), .d (.i 1)]) (n := 6) rfl (by decide) c0
        obtain ⟨vv, rfl, v0, v1⟩ : ∃ vv : Int, v = .d (.i vv) ∧ 0 ≤ vv ∧ vv ≤ 1000 := by
          simp only [Bw, Hx, AMz] at hv
          rcases hv with rfl | rfl | rfl | rfl | rfl | rfl <;> exact ⟨_, rfl, by decide, by decide⟩
        by_cases c16 : c / 16 % 2 = 1
        · have m13 := (D7 (m := m) (k := 13) (by decide)).1
          have mv := ZP m13 v0
          have b1 : -18446744073709551616 < vv := by ∎
          have b2 : vv < 18446744073709551616 := by ∎
          rw [IE (b := AD) (by
            clear Z I E H A Y N i2 j0 j2 tg P g0 t0 p X hv hV v0 v1 m13 mv b1 b2
            lk), AMu rfl]
          refine ⟨_, by
            clear Z I E H A Y N i2 j0 j2 tg P g0 t0 p hv v0 v1 m13 mv
            lk
            rfl, .gap n' a so (if m % 13 * vv < 1000000 then m % 13 * vv else 1000000), rfl, ⟨g0.nm, g0.ng, ⟨?_, g0.ok.2⟩⟩, fun _ => rfl, fun h => (nomatch p h)⟩
          split <;> ∎
        · rw [IE (b := AH) (by
            clear Z I E H A Y N i2 j0 j2 tg P g0 t0 p X hv hV v0 v1
            lk), AMv (by decide)]
          exact ⟨_, rfl, .gap n' a so m, rfl, g0, t0, p⟩
      | _ => exact ⟨_, rfl, _, rfl, g0, t0, p⟩
    clear g0 t0 p
    rintro _ ⟨s, rfl, g, t, t'⟩
    refine Ep (fun τ => ∃ s : Ao, τ = Co ns many b ss sn z V J [AA (.d (.i (k : Int))), AA (.d (.i c)), AA (.d (.s nm)), B, AA (.d s.D), AA (.d (.l (sn.map .s)))] ∧ JC sn nm s ∧ (sn ≠ [] → s.br = AD) ∧ (sn = [] → s = .take nm "k")) ?_ ?_
    · by_cases hT : ∃ U : List Ao, J = Ef U ∧ (U.length = 4 ∨ U.length = 5) ∧ (∀ s ∈ U, s.D.pl = AD ∧ s.D.dp ≤ 1) ∧ ∀ s ∈ U, s.nm ∈ sn
      · obtain ⟨U, rfl, j4, jp, js⟩ := hT
        have pl : ∀ {l : List Ao}, (∀ s ∈ l, s.D.pl = AD ∧ s.D.dp ≤ 1) → EE (l.map Ao.D) = AD ∧ Fd (l.map Ao.D) ≤ 1 := fun {l} => by
          induction l with
          | nil => exact fun _ => ⟨rfl, EA _⟩
          | cons a r ih =>
            intro h
            obtain ⟨h1, h2⟩ := ih fun s hs => h s (DK _ hs)
            obtain ⟨h3, h4⟩ := h a (B7 ..)
            refine ⟨?_, ?_⟩
            · show (a.D.pl && EE (r.map Ao.D)) = AD
              rw [h3, h1]
              rfl
            · show Ey a.D.dp (Fd (r.map Ao.D)) ≤ 1
              ∎
        obtain ⟨p1, p2⟩ := pl jp
        have hE : Cm AD (Ef U) (.L []) = AA (.s (.b AD)) := by
          rw [Y4 (l := U.map Ao.D) LK p1 ∎]
          cases U with
          | nil => simp at j4
          | cons a r => rfl
        by_cases k0 : (k : Int) = 0
        · have hj : (2 * U.length - 6) < U.length := by ∎
          have hs := EM hj
          have hm2 := js _ (AJS hj)
          generalize U[2 * U.length - 6] = sj at hs hm2
          have hI1 : CJ ((U.map Ao.D).map AU.d) (2 * (U.length : Int) - 6) = AA (.d sj.D) := by
            rw [show 2 * (U.length : Int) - 6 = ((2 * U.length - 6 : Nat) : Int) by ∎, Gv, Ca, Ca, hs]
            rfl
          have hI2 : B9 (.d sj.D) (.d (.i 1)) = AA (.d (.s sj.nm)) := by cases sj <;> rfl
          have hLn : J6 (.L ((U.map Ao.D).map AU.d)) = AA (.s (.i (U.length : Int))) := by show AA (Ab.s (.i (Kk _ : Nat))) = _; rw [A4, A4]
          unfold Ef at hE
          have tl := t (AEw hm2)
          rw [IE (b := AD) (by
            clear Z I E H A Y N i2 j0 j2 tg P g t t' X js jp pl p1 p2 hj hs hm2 hI1 hI2 hLn tl
            lk), AMu rfl]
          cases s with
          | gap n' a so m =>
            have eD : (Ao.gap n' a so m).D = .t [.s "gap", .s n', .s a, .s so, .i m] := rfl
            refine ⟨_, by
              clear Z I E H A Y N i2 j0 j2 tg P g t t' X js jp pl p1 p2 hj hs hm2 tl hE
              lk
              rfl, .gap n' sj.nm so m, rfl, ⟨g.nm, NW hm2, g.ok⟩, fun _ => rfl, fun h => (nomatch t' h)⟩
          | each n' a so zz dd =>
            have eD : (Ao.each n' a so zz dd).D = .t [.s "each", .s n', .s a, .s so, .i zz, .i dd] := rfl
            refine ⟨_, by
              clear Z I E H A Y N i2 j0 j2 tg P g t t' X js jp pl p1 p2 hj hs hm2 tl hE
              lk
              rfl, .each n' sj.nm so zz dd, rfl, ⟨g.nm, NW hm2, g.ok⟩, fun _ => rfl, fun h => (nomatch t' h)⟩
          | _ => cases tl
        · rw [IE (b := AH) (by
            clear Z I E H A Y N i2 j0 j2 tg P g t t' X js jp pl p1 p2
            unfold Ef at hE
            lk), AMv (by decide)]
          exact ⟨_, rfl, s, rfl, g, t, t'⟩
      · rcases I with rfl | I
        · rw [IE (b := AH) (by rfl), AMv (by decide)]
          exact ⟨_, rfl, s, rfl, g, t, t'⟩
        · exact absurd I hT
    clear g t t'
    rintro _ ⟨s, rfl, g, t, t'⟩
    have hlp : ss.length < AY := by ∎
    have hb : EF s z many ≤ 1000 := by
      by_cases e : sn = []
      · rw [t' e]; show many ≤ 1000; ∎
      · have ht := t e
        have hz := Z.xu
        have hf := g.ng
        cases s <;> first | cases ht; done | exact hz _ (hf _ (.head _))
    have nq : ¬ Rf k (25, k) := fun h => by
      rcases h with ((h | h) | h) | h
      · cases h
      · cases h.1
      · cases h.1
      · exact HB _ h.2
    have sq : ∀ u, Rf k u ∨ u = (25, k) → Rf (k + 1) u := fun u h => by
      rcases h with (h | h) | rfl
      · exact .inl h
      · exact .inr ⟨h.1, ∎⟩
      · exact .inr ⟨rfl, Ny _⟩
    have hg : JC sn s.nm s := by rw [g.nm]; exact g
    refine ⟨Co ns many b (ss ++ [s]) sn z V J [AA (.d (.i (k : Int))), AA (.d (.i c)), AA (.d (.s nm)), B, AA (.d s.D), AA (.d (.l (sn.map .s)))], by
      clear Z I E H A Y N i2 j0 j2 tg P g t t' X hb nq sq hg
      lk
      unfold Co Ef
      rw [Cc, Cc]
      rfl, ss ++ [s], MQ z s.nm (EF s z many), AA (.d (.i (k : Int))), AA (.d (.i c)), AA (.d (.s nm)), B, AA (.d s.D), _, ?_, .inr rfl, ?_, ?_⟩
    · unfold Co LX
      rw [Z.wa (by rw [g.nm]; exact Z.ph tg nq)]
    · rw [Bi, G9, N]
      exact Z.qy (t := (25, k)) (by rw [g.nm]; exact tg) nq hg (by rw [g.nm]; exact P) hb sq
    · rw [Bi, Bi, G9, G9]
      ∎
  · rintro _ ⟨ss, q, z, r, rfl, Z, E⟩
    exact ⟨ss, q, z, sn, rfl, Z, E⟩
abbrev GW(ns cs:List Int)(base D:Int)(evs:List BB)(r:AM):AM:=AA (.d (.l (ns.map .i)))::AA (.d (.l (cs.map .i)))::AA (.d (.i base))::AA (.d (.i D))::AA (.L ((evs.map Ak).map .d))::r
def wR(n:Nat)(r:Option Ab):Prop:=∃evs:List BB,r=AA (.n (.L ((evs.map Ak).map .d)))/\MJ n evs
def LL:List AG:=["l","k","j","i","h","g","f","e","d","x","y","z"]
def NF:List AG:=["end","item","piece","clock","late","sum","take","hand","of","each","gap","turn"]
def zO:∀j:Nat,j<12->B9 (.d (.s "lkjihgfedxyz")) (.d (.i (j:Int)))=AA (.d (.s (LL.getD j ""))):=by
 have D:∀j:Nat,j<12->("lkjihgfedxyz":AG).cps.toList[j]?=AA ((LL.getD j "").cps.toList.getD 0 0)/\(LL.getD j "")=⟨#[(LL.getD j "").cps.toList.getD 0 0]⟩:=by decide+kernel
 intro j J;obtain⟨h1,h2⟩:=D j J;rw[h2];exact Yw (by decide+kernel) (by rw[Gv];exact h1)
def zN:∀j:Nat,j<12->(∀c∈(LL.getD j "").cps.toList,c∈FL.cps.toList)/\(LL.getD j "").length<=2/\C1 (NF.getD j "")=AD:=by decide+kernel
def xJ{ns cs:List Int}(L:cs.length<=10):wR cs.length (VY [.l (ns.map .i),.l (cs.map .i)]):=by
  have g:=Oq (ns:=ns) (k:=0) (by decide);have U:=Oq (ns:=ns) (k:=2) (by decide);generalize Hn ns 0=base at g;generalize Hn ns 2=b2 at U;have V:AY=16777216:=ES;obtain⟨v,O,hV⟩:=IS (l:=[AU.d (.i 1),.d (.i 1),.d (.i 1),.d (.i 7),.d (.i 1000),.d (.i 25000000)]) (n:=6) rfl (by decide) base;obtain⟨E,rfl,M,s1⟩:∃E:Int,v=.d (.i E)/\1<=E/\E<=25000000:=by simp only[Bw,Hx,AMz]at O;rcases O with rfl|rfl|rfl|rfl|rfl|rfl<;>exact⟨_,rfl,by decide,by decide⟩
  clear O;unfold VY;rw[Cg (by rfl)];unfold VB;refine Dy _ (λτ=>τ=AA (.d (.l (ns.map .i)))::AA (.d (.l (cs.map .i)))::AA (.d (.i base))::AB::AB::[AB,AB,AB,AB,AB,AB,AB,AB]) ⟨_,by clear U hV L V M s1;lk,rfl⟩ ?_;rintro _ rfl;refine Dy _ (λτ=>τ=AA (.d (.l (ns.map .i)))::AA (.d (.l (cs.map .i)))::AA (.d (.i base))::AA (.d (.i E))::AB::[AB,AB,AB,AB,AB,AB,AB,AB]) ⟨_,by clear U L V M s1;lk,rfl⟩ ?_;rintro _ rfl;refine Dy _ (λτ=>τ=GW ns cs base E [] [AB,AB,AB,AB,AB,AB,AB,AB]) ⟨_,rfl,rfl⟩ ?_;rintro _ rfl;refine Dy _ (λτ=>∃evs r,τ=GW ns cs base E evs r/\MJ cs.length evs) ?_ ?_
  . clear hV g;rw[Y5];have j:L7 0 (cs.map AN.i)=(cs.zipIdx.map λp=>.t [.i (p.2:Int),.i p.1]):=Uk;rw[show(BW (Ai 1) (GW ns cs base E [] [AB,AB,AB,AB,AB,AB,AB,AB])).bind _=AA (L7 0 (cs.map AN.i))from rfl,j,Y6];clear j;refine(OH (xs:=cs.zipIdx) (en:=λp:Int×Nat=>.t [.i (p.2:Int),.i p.1]) (λl τ=>∃evs x5 x6 x7 x8 f N K F,τ=GW ns cs base E evs [x5,x6,x7,x8,f,N,K,F]/\MJ l.length evs) ⟨[],AB,AB,AB,AB,AB,AB,AB,AB,rfl,Aw _,λe h=>(nomatch h),λe h=>(nomatch h)⟩ ?_).imp λτ⟨e,evs,x5,x6,x7,x8,f,N,K,F,e1,h1⟩=>⟨e,evs,_,e1,by rw[Lq]at h1;exact h1⟩;rintro l⟨c,k⟩y e _⟨evs,x5,x6,x7,x8,f,N,K,F,rfl,J⟩;have Y:evs.length<10:=by have h1:=J.ba;have h2:=AMw Kk e;rw[Lq,Bi,Fq]at h2;∎
    clear e;refine⟨_,rfl,T6 ?_⟩;refine Ep (λτ=>∃G:Int,0<=G/\τ=GW ns cs base E evs [AA (.d (.i (k:Int))),AA (.d (.i c)),AA (.d (.i G)),x8,f,N,K,F]) ⟨_,by clear L V M s1 J U Y;lk,(c+7919*(k:Int))*48271%2147483647,(D7 (by decide)).1,rfl⟩ ?_;rintro _⟨G,A,rfl⟩;obtain⟨v,O,hX⟩:=IS (l:=[AU.d (.i (c%40)),.d (.i (3*(k:Int)+c%10))]) (n:=2) rfl (by decide) (base/24);obtain⟨w,rfl,ht⟩:∃w:Int,v=.d (.i w)/\0<=w:=by
      simp only[Bw,Hx,AMz]at O;have h1:=(D7 (m:=c) (k:=40) (by decide)).1;have h2:=(D7 (m:=c) (k:=10) (by decide)).1;rcases O with rfl|rfl;.exact⟨_,rfl,h1⟩
      .exact⟨_,rfl,∎⟩
    have sp:0<E:=by∎
    have b1:-18446744073709551616<E:=by∎
    have b2':E<18446744073709551616:=by∎
    refine Ep (λτ=>∃H:Int,0<=H/\τ=GW ns cs base E evs [AA (.d (.i (k:Int))),AA (.d (.i c)),AA (.d (.i G)),AA (.d (.i H)),f,N,K,F]) ⟨_,by clear L V M s1 J U Y A O ht;lk,w*E+G%E,Int.add_nonneg (ZP ht ∎) (D7 sp).1,rfl⟩ ?_;clear hX O ht b1 b2' sp;rintro _⟨H,W,rfl⟩;refine Ep (λτ=>∃H:Int,(0<=H/\H<=1000000000)/\τ=GW ns cs base E evs [AA (.d (.i (k:Int))),AA (.d (.i c)),AA (.d (.i G)),AA (.d (.i H)),f,N,K,F]) ⟨_,by clear L V M s1 J U Y A W;lk,if H<1000000000 then H else 1000000000,by split<;>∎,rfl⟩ ?_;clear W;rintro _⟨H,W,rfl⟩;have u:=D7 (m:=G/40) (k:=3) (by decide);obtain⟨kd,hkd,C⟩:=RP (b:=b2) u.1 u.2;refine Ep (λτ=>τ=GW ns cs base E evs [AA (.d (.i (k:Int))),AA (.d (.i c)),AA (.d (.i G)),AA (.d (.i H)),AA (.d (.s kd)),N,K,F]) ⟨_,by clear L V M s1 J Y A W u C;lk,rfl⟩ ?_;clear hkd u;rintro _ rfl;obtain⟨v,O,hX⟩:=IS (l:=[AU.d (.i 3),.d (.i 3),.d (.i 3),.d (.i 12)]) (n:=4) rfl (by decide) (base/6);obtain⟨a,rfl,w0,w1⟩:∃a:Int,v=.d (.i a)/\0<a/\a<=12:=by simp only[Bw,Hx,AMz]at O;rcases O with rfl|rfl|rfl|rfl<;>exact⟨_,rfl,by decide,by decide⟩
    refine Ep (λτ=>∃I:Nat,I<12/\τ=GW ns cs base E evs [AA (.d (.i (k:Int))),AA (.d (.i c)),AA (.d (.i G)),AA (.d (.i H)),AA (.d (.s kd)),AA (.d (.i (I:Int))),K,F]) ⟨GW ns cs base E evs [AA (.d (.i (k:Int))),AA (.d (.i c)),AA (.d (.i G)),AA (.d (.i H)),AA (.d (.s kd)),AA (.d (.i (G/120%a))),K,F],by clear L V M s1 J U Y A W C O w1;lk,(G/120%a).toNat,by have:=D7 (m:=G/120) w0;∎,by rw[wQ (D7 w0).1]⟩ ?_;clear hX O w0 w1;rintro _⟨I,B,rfl⟩;have S:=zO I B;obtain⟨al,q,X⟩:=zN I B;have R:=LP (c:=base/6) (k:=(I:Int)) q;have Z:=LO (c:=base/6) (k:=(I:Int)) q al;generalize Ff (base/6) (I:Int) (LL.getD I "")=ky at R Z;refine Ep (λτ=>τ=GW ns cs base E evs [AA (.d (.i (k:Int))),AA (.d (.i c)),AA (.d (.i G)),AA (.d (.i H)),AA (.d (.s kd)),AA (.d (.i (I:Int))),AA (.d (.s ky)),F]) ⟨_,by clear L V M s1 J U Y A W C Z al q X B;generalize LL.getD I ""=kk at S R;generalize B9=oa at S⊢;lk,rfl⟩ ?_;clear R S al q;rintro _ rfl;refine Ep (λτ=>∃ky,Cn ky/\τ=GW ns cs base E evs [AA (.d (.i (k:Int))),AA (.d (.i c)),AA (.d (.i G)),AA (.d (.i H)),AA (.d (.s kd)),AA (.d (.i (I:Int))),AA (.d (.s ky)),F]) ?_ ?_
    . by_cases c11:base%11=5
      . have o:CJ (NF.map λz=>AU.d (.s z)) (I:Int)=AA (.d (.s (NF.getD I ""))):=by rw[Gv,Ca,AJQ,EM (show I<NF.length from B)];rfl
        generalize NF.getD I ""=kk at o X;unfold NF at o;simp only[Dw,Po]at o;rw[IE (b:=AD) (by clear L V M s1 J U Y A W C Z B o X;lk),AMu rfl];refine⟨_,by clear L V M s1 J U Y A W C Z B X;lk,kk,X,rfl⟩
      . rw[IE (b:=AH) (by clear L V M s1 J U Y A W C Z B X;lk),AMv (by decide)];exact⟨_,rfl,ky,Z,rfl⟩
    clear Z X;rintro _⟨ky,Z,rfl⟩;refine Ep (λτ=>∃Q:Int,τ=GW ns cs base E evs [AA (.d (.i (k:Int))),AA (.d (.i c)),AA (.d (.i G)),AA (.d (.i H)),AA (.d (.s kd)),AA (.d (.i (I:Int))),AA (.d (.s ky)),AA (.d (.i Q))]) ⟨_,by clear L V M s1 J U Y A W C Z B;lk,G/360%21-10,rfl⟩ ?_;rintro _⟨Q,rfl⟩;refine Ep (λτ=>∃Q:Int,τ=GW ns cs base E evs [AA (.d (.i (k:Int))),AA (.d (.i c)),AA (.d (.i G)),AA (.d (.i H)),AA (.d (.s kd)),AA (.d (.i (I:Int))),AA (.d (.s ky)),AA (.d (.i Q))]) ?_ ?_
    . by_cases c16:G/7560%16=3
      . rw[IE (b:=AD) (by clear L V M s1 J U Y A W C Z B;lk),AMu rfl];exact⟨_,by clear L V M s1 J U Y A W C Z B;lk,G%2000000001-1000000000,rfl⟩
      . rw[IE (b:=AH) (by clear L V M s1 J U Y A W C Z B;lk),AMv (by decide)];exact⟨_,rfl,Q,rfl⟩
    clear Q;rintro _⟨Q,rfl⟩;have hlp:evs.length<AY:=by∎
    refine⟨GW ns cs base E (evs++[(H,kd,ky,Q)]) [AA (.d (.i (k:Int))),AA (.d (.i c)),AA (.d (.i G)),AA (.d (.i H)),AA (.d (.s kd)),AA (.d (.i (I:Int))),AA (.d (.s ky)),AA (.d (.i Q))],by clear L V M s1 J U Y A W C Z B;lk;unfold GW;rw[Cc,Cc];rfl,evs++[(H,kd,ky,Q)],_,_,_,_,_,_,_,_,rfl,?_,λx P=>?_,λx P=>?_⟩
    . rw[Bi,Bi,G9,G9];have:=J.ba;∎
    . rcases Cb.mp P with P|P;.exact J.tm x P
      .rw[Cd.mp P];exact W
    . rcases Cb.mp P with P|P;.exact J.ky x P
      .rw[Cd.mp P];exact⟨Z,C⟩
  . rintro _⟨evs,r,rfl,h⟩;exact⟨evs,rfl,h⟩
def Zw : ∀ {L : List Int}, OA (L.map .i) = AA (L.map AQ.int)
  | [] => rfl
  | n :: r => by
    rw [Dw, OA, Zw]
    rfl
def AAx{L:List Int}:Mz AD (.d (.i n)) (.d (.l (L.map .i)))=AA (.s (.b (!Af (n∈L)))):=by
 show((AU.d (.l _)).eh.bind λl=>(OA l).map λvs=>Ab.s (.b (!Nl _ vs)))=_;rw[show(AU.d _).eh=AA _ from rfl,Ec,Zw];show AA (Ab.s _)=_;congr 3;unfold Nl;rw[wC,AI7,AI7,decide_eq_false_iff_not];rw[AJI];constructor;. intro h hn;exact h (.int n) ∎ (show(n==n)=AD from∎)
 . intro h v J e;obtain⟨m,U,rfl⟩:=B8.mp J;have e:(m==n)=AD:=e;∎
def C6(L:List Int)(evs:List BB):List BB:=evs.zipIdx.filterMap λp=>if(p.2:Int)∈L then AB else AA p.1
def AAD{es:List BB}:JY sl (es++[e])=Fi sl (JY sl es) (e,es.length):=by unfold JY;∎
def zL{es:List BB}:C6 L (es++[e])=C6 L es++if(es.length:Int)∈L then[]else[e]:=by unfold C6;∎
def aC:∀(n:Nat)(evs:List BB),evs.length=n->(JY sl evs).1=C6 (JY sl evs).2.1 evs/\∀x∈(JY sl evs).2.1,x<(evs.length:Int)
  |0,evs,h=>by cases Jm.mp h;exact⟨rfl,λx h=>(nomatch h)⟩|n+1,evs,h=>by
    rcases Mb evs with rfl|⟨es,e,rfl⟩;.cases h
    . rw[Ma]at h⊢;rw[Bi]at h;obtain⟨h1,h2⟩:=aC n es (Kn h);rw[AAD,Bi];generalize JY sl es=st at h1 h2;obtain⟨K,L,D⟩:=st;have W:(es.length:Int)∉L:=∎;by_cases c:e.1<D
      . have U:Fi sl (K,L,D) (e,es.length)=(K,L++[(es.length:Int)],D):=by show((if e.1<D then K else K++[e]),(if e.1<D then _ else _))=_;∎
        rw[U];refine⟨?_,λx V=>?_⟩
        . refine h1.trans ?_;unfold C6;have Y:∀{l:List _}{f g:BB×Nat->Option BB},(∀p∈l,f p=g p)->l.filterMap f=l.filterMap g:=λ{l f g}=>by induction l with|nil=>∎|cons a r Z=>∎
          ∎
        ∎
      . have U:∃J,Fi sl (K,L,D) (e,es.length)=(K++[e],L,J):=by refine⟨if e.1-sl>D then e.1-sl else D,?_⟩;show((if e.1<D then K else K++[e]),(if e.1<D then _ else _))=_;∎
        obtain⟨J,U⟩:=U;rw[U];refine⟨?_,λx V=>?_⟩;.rw[zL,AMv W,<-h1]
        ∎
def xX(h:KN [d,.i 0,.i 1000000000]=AA (.s (.b AH))):RT [d,x]=AA (.s (.b AD)):=AMu h
def AAI(h:Dc b many ss q z sn){s:Ao}(W:s∈ss):s.D.pl=AD/\s.D.dp<=1:=by
 obtain⟨g,J⟩:=h.ok s W;have U:∀a∈s.bx,C1 a=AD:=λa Y=>by obtain⟨l,r,e⟩:=fY W;obtain⟨A,t,r1,Z,rfl,_⟩:=h.ng l s r e a Y;exact(h.ok t ∎).2
 have J:C1 _=AD:=J;have V:C1 "take"=AD/\C1 "only"=AD/\C1 "turn"=AD/\C1 "both"=AD/\C1 "join"=AD/\C1 "gap"=AD/\C1 "each"=AD:=by decide+kernel
 have so:∀so:AG,(so="count"\/so="sum"\/so="least"\/so="greatest")->C1 so=AD:=λso h=>by rcases h with rfl|rfl|rfl|rfl<;>decide+kernel
 refine⟨?_,by cases s<;>exact Aw _⟩;cases s with |take n k=>simp only[Ao.D,AN.pl,EE,Ao.nm,V,show C1 k=AD from g,J,Of]at J⊢|only n a lo hi=>have:=U a (.head _);simp only[Ao.D,AN.pl,EE,Ao.nm,V,this,J,Of]at J⊢|turn n a lo hi=>have:=U a (.head _);simp only[Ao.D,AN.pl,EE,Ao.nm,V,this,J,Of]at J⊢|both n a b=>have:=U a (.head _);have:=U b (.tail _ (.head _));simp only[Ao.D,AN.pl,EE,Ao.nm,V, *,J,Of]at J⊢|join n a b w=>have:=U a (.head _);have:=U b (.tail _ (.head _));simp only[Ao.D,AN.pl,EE,Ao.nm,V, *,J,Of]at J⊢|gap n a s m=>have:=U a (.head _);have:=so s g.2;simp only[Ao.D,AN.pl,EE,Ao.nm,V, *,J,Of]at J⊢|each n a s z d=>have:=U a (.head _);have:=so s g.2;simp only[Ao.D,AN.pl,EE,Ao.nm,V, *,J,Of]at J⊢
def Vq : ∀ {l : List α}, (∀ x ∈ l, (f x).pl = AD ∧ (f x).dp ≤ 1) → EE (l.map f) = AD ∧ Fd (l.map f) ≤ 1
  | [], _ => ⟨rfl, EA _⟩
  | a :: r, h => by
    obtain ⟨h1, h2⟩ := Vq fun s J => h s (DK a J)
    obtain ⟨U, V⟩ := h a ∎
    refine ⟨?_, ?_⟩
    · show ((f a).pl && EE _) = AD
      ∎
    · show Ey _ _ ≤ 1
      ∎
noncomputable def NZ(evs:List BB)(ss:List Ao)(q:DD):Om:=match ss[q.2.1]? with|AA s=>(s.nm,q.2.2.1,q.2.2.2,q.1,KU s.jc (FN (Bl evs ss s.fd) q.2.2.1 q.2.2.2 q.1))|AB=>("","",0,0,0)
def AAN(h:Dc b many ss q z sn)(D:MJ many evs)(B:∀q∈qs,Gx evs ss q):(Dz D6 qs).map (GC evs ss)=((Dz D6 qs).map (NZ evs ss)).map JD/\∀r∈(Dz D6 qs).map (NZ evs ss),RI r:=by
 have E:∀s∈ss,LQ s:=λs U=>by have:=(h.ok s U).1;cases s<;>first|exact this|trivial
 have key:∀q∈Dz D6 qs,GC _ ss q=JD (NZ evs ss q)/\RI (NZ evs ss q):=λq C=>by obtain⟨s,V,_,⟨i,hi,Y⟩,_⟩:=B q (HH.mem_iff.mp C);unfold GC NZ;rw[V];refine⟨rfl,(h.ok s ∎).2,?_⟩;obtain⟨j,Z,rfl⟩:=B8.mp ((O4 _ rfl E _).mem_iff.mpr hi);have A:=((Vx D.ba D.tm _ rfl (λs U=>(h.wc s U).1) _).2.1 j Z).2.1;obtain⟨e,J,W⟩:=B8.mp A;rw[<-Y,<-W];exact(D.ky e J).1
 refine⟨?_,λr F=>?_⟩;.simp_all
 ∎
def VN{α β:Type}{f:α->β}{l:List α}{lo hi:Option Int}:Cs (l.map f) lo hi=(Cs l lo hi).map f:=by unfold Cs;simp_all
def xR{ns:List Int}:VQ [.l (ns.map .i)]=AA (.s (.b AD)):=by
 have H:=Oq (ns:=ns) (k:=1) (by decide);generalize Hn ns 1=c1 at H;have Y:AY=16777216:=ES;obtain⟨v,hv,hV⟩:=IS (l:=[AU.d (.i 10),.d (.i 10),.d (.i 5)]) (n:=3) rfl (by decide) (c1/16);obtain⟨many,rfl,E⟩:∃many:Nat,v=.d (.i (many:Int))/\(many=10\/many=5):=by∎
 clear hv;have V:many<=10:=by∎
 unfold VQ;rw[Cg (by rfl)];unfold U0;refine Dy (.=AA (.s (.b AD))) (λτ=>τ=[AA (.d (.l (ns.map .i))),AA (.d (.i (many:Int))),AB,AB,AB,AB,AB,AB,AB,AB,AB]) ⟨_,by clear E V Y;lk,rfl⟩ ?_;rintro _ rfl;clear hV;obtain⟨ss,q,z,sn,hp,B,C⟩:=yG (ns:=ns) E;refine Dy (.=AA (.s (.b AD))) (λτ=>τ=[AA (.d (.l (ns.map .i))),AA (.d (.i (many:Int))),AA (.L ((ss.map Ao.D).map .d)),AB,AB,AB,AB,AB,AB,AB,AB]) ⟨_,by clear E V Y B C H;lk,rfl⟩ ?_;rintro _ rfl;clear hp;have hcl:(Cs ns (AA 14) (AA (14+(many:Int)))).length<=many:=by unfold Cs;rw[AJV,List.length_drop];have e1:CD ns.length 0 (AA 14)=Dx 14 ns.length:=ND _ _ 14;have e2:CD ns.length ns.length (AA (14+(many:Int)))=Dx (14+many) ns.length:=ND _ _ (14+many);rw[e1,e2];∎
 obtain⟨evs,hev,o⟩:=xJ (ns:=ns) (cs:=Cs ns (AA 14) (AA (14+(many:Int)))) ∎;have A:MJ many evs:=⟨Cj o.ba hcl,o.tm,o.ky⟩;have hsl:Ip (.d (.l (ns.map .i))) (AA 14) (AA (14+(many:Int)))=AA (.n (.L (((Cs ns (AA 14) (AA (14+(many:Int)))).map .i).map .d))):=by rw[<-VN];rfl
 clear o hcl;refine Dy (.=AA (.s (.b AD))) (λτ=>τ=[AA (.d (.l (ns.map .i))),AA (.d (.i (many:Int))),AA (.L ((ss.map Ao.D).map .d)),AA (.L ((evs.map Ak).map .d)),AB,AB,AB,AB,AB,AB,AB]) ⟨_,by clear E V Y B C H A;generalize Cs ns (AA 14) (AA (14+(many:Int)))=cs at hsl hev;lk,rfl⟩ ?_;rintro _ rfl;clear hev hsl;have J:evs.length<=10:=Cj A.ba V;have hp1:0<(evs.length:Int)+1:=by∎
 have G:=D7 (m:=c1) hp1;refine Dy (.=AA (.s (.b AD))) (λτ=>∃c:Nat,c<=evs.length/\τ=[AA (.d (.l (ns.map .i))),AA (.d (.i (many:Int))),AA (.L ((ss.map Ao.D).map .d)),AA (.L ((evs.map Ak).map .d)),AA (.d (.i (c:Int))),AB,AB,AB,AB,AB,AB]) ⟨[AA (.d (.l (ns.map .i))),AA (.d (.i (many:Int))),AA (.L ((ss.map Ao.D).map .d)),AA (.L ((evs.map Ak).map .d)),AA (.d (.i (c1%((evs.length:Int)+1)))),AB,AB,AB,AB,AB,AB],by clear E V Y B C A J G;lk,(c1%((evs.length:Int)+1)).toNat,∎,by rw[wQ G.1]⟩ ?_;clear G hp1;rintro _⟨c,G,rfl⟩;have ho1:Ip (.L ((evs.map Ak).map .d)) (AA (c:Int)) AB=AA (.n (.L (((evs.drop c).map Ak).map .d))):=by show Si (λl=>Ab.n (.L ((Cs l _ _).map .d))) (AU.az _)=_;rw[Gw];show AA (Ab.n (.L ((Cs (evs.map Ak) (AA (c:Int)) AB).map .d)))=_;rw[VN,Qy]
 have ho2:Ip (.L ((evs.map Ak).map .d)) AB (AA (c:Int))=AA (.n (.L (((evs.take c).map Ak).map .d))):=by show Si (λl=>Ab.n (.L ((Cs l _ _).map .d))) (AU.az _)=_;rw[Gw];show AA (Ab.n (.L ((Cs (evs.map Ak) AB (AA (c:Int))).map .d)))=_;rw[VN,Qz]
 have ho3:En (.L (((evs.drop c).map Ak).map .d)) (.L (((evs.take c).map Ak).map .d))=AA (.n (.L (((evs.drop c++evs.take c).map Ak).map .d))):=by rw[Uh Gw Gw ∎,<-Cc]
 have w:YT (.L (((evs.drop c++evs.take c).map Ak).map .d))=AA (.n (.L (((evs.drop c++evs.take c).reverse.map Ak).map .d))):=by show Si (λl=>Ab.n (.L (l.reverse.map .d))) (AU.az _)=_;rw[Gw,List.map_reverse];rfl
 have pm:evs.Perm (evs.drop c++evs.take c).reverse:=by refine .trans ?_ (AJb _).symm;refine .trans ?_ gG;rw[XH]
 refine Dy (.=AA (.s (.b AD))) (λτ=>τ=[AA (.d (.l (ns.map .i))),AA (.d (.i (many:Int))),AA (.L ((ss.map Ao.D).map .d)),AA (.L ((evs.map Ak).map .d)),AA (.d (.i (c:Int))),AA (.L (((evs.drop c++evs.take c).reverse.map Ak).map .d)),AB,AB,AB,AB,AB]) ⟨_,by clear E V Y B C H A J G pm;generalize(evs.drop c++evs.take c).reverse=eo1 at w⊢;generalize evs.drop c++evs.take c=eo2 at ho3 w;generalize En=oa at ho3⊢;generalize YT=or at w⊢;lk,rfl⟩ ?_;rintro _ rfl;clear ho1 ho2 ho3 w;generalize(evs.drop c++evs.take c).reverse=I at pm;have R:=aG B V C A;have eo2:MJ many I:=⟨by rw[<-pm.length_eq];exact A.ba,λe h=>A.tm e (pm.mem_iff.mpr h),λe h=>A.ky e (pm.mem_iff.mpr h)⟩;have R2:=aG B V C eo2;obtain⟨qs,P,hnd,u⟩:=yE R;have Q:=aU R hnd u;have S:=AAf pm R2 hnd u;obtain⟨er,rok⟩:=AAN B A (qs:=qs) λq hq=>(u q).mp hq;rw[er]at P Q S;have htd:=yP rok;generalize(Dz D6 qs).map (NZ evs ss)=rs at P Q S htd;clear R R2 hnd u er rok eo2 pm qs;have hli:∀l:List AN,YN (.d (.l l))=AA (.n (.L (l.map .d))):=λl=>rfl;refine Dy (.=AA (.s (.b AD))) (λτ=>τ=[AA (.d (.l (ns.map .i))),AA (.d (.i (many:Int))),AA (.d (.l (ss.map Ao.D))),AA (.d (.l (evs.map Ak))),AA (.d (.i (c:Int))),AA (.L ((I.map Ak).map .d)),AA (.L ((rs.map JD).map .d)),AB,AB,AB,AB]) ⟨_,by clear E V Y B C H A J G Q S htd hli;lk,rfl⟩ ?_;rintro _ rfl;clear P;refine Dy (.=AA (.s (.b AD))) (λτ=>τ=[AA (.d (.l (ns.map .i))),AA (.d (.i (many:Int))),AA (.d (.l (ss.map Ao.D))),AA (.d (.l (evs.map Ak))),AA (.d (.i (c:Int))),AA (.L ((I.map Ak).map .d)),AA (.L ((rs.map JD).map .d)),AA (.L [.d (.l (ss.map Ao.D)),.d (.l (evs.map Ak))]),AB,AB,AB]) ⟨_,by clear E V Y B C H A J G Q S htd;lk,rfl⟩ ?_;rintro _ rfl;refine Dy (.=AA (.s (.b AD))) (λτ=>∃K j,τ=[AA (.d (.l (ns.map .i))),AA (.d (.i (many:Int))),AA (.d (.l (ss.map Ao.D))),AA (.d (.l (evs.map Ak))),AA (.d (.i (c:Int))),K,j,AA (.L [.d (.l (ss.map Ao.D)),.d (.l (evs.map Ak))]),AB,AB,AB]) ⟨[AA (.d (.l (ns.map .i))),AA (.d (.i (many:Int))),AA (.d (.l (ss.map Ao.D))),AA (.d (.l (evs.map Ak))),AA (.d (.i (c:Int))),AA (.d (.l (I.map Ak))),AA (.d (.l (rs.map JD))),AA (.L [.d (.l (ss.map Ao.D)),.d (.l (evs.map Ak))]),AB,AB,AB],by clear E V Y B C H A J G;have b1:(!AD)=AH:=rfl;lk,_,_,rfl⟩ ?_;rintro _⟨K,j,rfl⟩;clear Q S htd hli;obtain⟨sl,hsl,X,s1⟩:=yF (ns:=ns);refine Dy (.=AA (.s (.b AD))) (λτ=>τ=[AA (.d (.l (ns.map .i))),AA (.d (.i (many:Int))),AA (.d (.l (ss.map Ao.D))),AA (.d (.l (evs.map Ak))),AA (.d (.i (c:Int))),K,j,AA (.L [.d (.l (ss.map Ao.D)),.d (.l (evs.map Ak))]),AA (.d (.i sl)),AB,AB]) ⟨_,by clear E V Y B C H A J G X s1;lk,rfl⟩ ?_;rintro _ rfl;clear hsl;have hla:=xQ (sl:=sl) (evs:=evs) ∎;have F:=xZ (evs:=evs) X s1 ∎;have hlo:(JY sl evs).2.1=Ra sl evs:=AMw Prod.fst (Vo (sl:=sl) (l:=evs.zipIdx) (st:=([],[],0))).2;have hke:=(aC (sl:=sl) _ evs rfl).1;rw[hke,hlo]at F;clear hke hlo;have Z:(Ra sl evs).length<=evs.length:=by have:=Rb (sl:=sl) (l:=evs.zipIdx) (st:=([],0));rw[Lq,Lp,Sh]at this;exact this
 generalize Ra sl evs=la at hla F Z;refine Dy (.=AA (.s (.b AD))) (λτ=>τ=[AA (.d (.l (ns.map .i))),AA (.d (.i (many:Int))),AA (.d (.l (ss.map Ao.D))),AA (.d (.l (evs.map Ak))),AA (.d (.i (c:Int))),K,j,AA (.L [.d (.l (ss.map Ao.D)),.d (.l (evs.map Ak))]),AA (.d (.i sl)),AA (.L ((la.map .i).map .d)),AB]) ⟨_,by clear E V Y B C H A J G X s1 F Z;lk,rfl⟩ ?_;rintro _ rfl;clear hla;refine Dy (.=AA (.s (.b AD))) (λτ=>τ=[AA (.d (.l (ns.map .i))),AA (.d (.i (many:Int))),AA (.d (.l (ss.map Ao.D))),AA (.d (.l (evs.map Ak))),AA (.d (.i (c:Int))),K,j,AA (.L [.d (.l (ss.map Ao.D)),.d (.l (evs.map Ak))]),AA (.d (.i sl)),AA (.L ((la.map .i).map .d)),AA (.U [.L (((C6 la evs).map Ak).map .d),.L ((la.map .i).map .d)])]) ⟨_,by clear E V Y B C H A J G X s1 Z;lk,rfl⟩ ?_;rintro _ rfl;have pE:∀{l:List BB},(∀e∈l,e∈evs)->EE (l.map Ak)=AD/\Fd (l.map Ak)<=1:=λ{l}hs=>Vq λe h=>by obtain⟨h1,h2⟩:=A.ky e (hs e h);refine⟨?_,Aw _⟩;show(C1 e.2.1&&(C1 e.2.2.1&&(AD&&AD)))=AD;rw[show C1 e.2.1=AD from h2,show C1 e.2.2.1=AD from h1];rfl
 obtain⟨p1,p2⟩:=Vq (f:=Ao.D) λs hs=>AAI B hs;obtain⟨p3,p4⟩:=pE λe h=>h;have hE:Cm AD (.L [.d (.l (ss.map Ao.D)),.d (.l (evs.map Ak))]) (.L [.d (.l (ss.map Ao.D)),.d (.l (evs.map Ak))])=AA (.s (.b AH)):=Q0 (d:=.l [.l (ss.map Ao.D),.l (evs.map Ak)]) rfl rfl (by show(EE _&&(EE _&&AD))=AD;rw[p1,p3];rfl) (by show Ey (Fd (ss.map Ao.D)+1) (Ey (Fd (evs.map Ak)+1) 0)+1<=64;∎) rfl;obtain⟨p5,p6⟩:=pE (l:=C6 la evs) λe h=>by obtain⟨p,hp,ep⟩:=Sa.mp h;∎
 obtain⟨p7,p8⟩:=Qi (ns:=la);have M:Cm AD (.L ((la.map .i).map .d)) (.L ((la.map .i).map .d))=AA (.s (.b AH)):=Q0 (d:=.l (la.map .i)) LK LK p7 (by show Fd (la.map AN.i)+1<=64;∎) rfl;have N:Cm AD (.L (((C6 la evs).map Ak).map .d)) (.L (((C6 la evs).map Ak).map .d))=AA (.s (.b AH)):=Q0 (d:=.l ((C6 la evs).map Ak)) LK LK p5 (by show Fd ((C6 la evs).map Ak)+1<=64;∎) rfl;have O:Cm AD (.U [.L (((C6 la evs).map Ak).map .d),.L ((la.map .i).map .d)]) (.d (.t [.l ((C6 la evs).map Ak),.l (la.map .i)]))=AA (.s (.b AH)):=Q0 (d:=.t [.l ((C6 la evs).map Ak),.l (la.map .i)]) (by show(DM [.L (((C6 la evs).map Ak).map .d),.L ((la.map .i).map .d)]).map AN.t=_;show Si AN.t ((AU.fg (.L (((C6 la evs).map Ak).map .d))).bind λd=>(DM [.L ((la.map .i).map .d)]).map (d::.))=_;rw[LK];show Si AN.t (Si _ ((AU.fg (.L ((la.map .i).map .d))).bind λd=>(DM []).map (d::.)))=_;rw[LK];rfl) rfl (by show(EE _&&(EE _&&AD))=AD;rw[p5,p7];rfl) (by show Ey (Fd ((C6 la evs).map Ak)+1) (Ey (Fd (la.map AN.i)+1) 0)+1<=64;∎) rfl;have u1:∀a b:AU,T8 .tup (.U [a,b])=AA (.s (.b AD)):=λ_ _=>rfl;have u2:∀a b:AU,J6 (.U [a,b])=AA (.s (.i 2)):=λ_ _=>rfl;have u3:∀a b:AU,B9 (.U [a,b]) (.d (.i 0))=AA a:=λ_ _=>rfl;have u4:∀a b:AU,B9 (.U [a,b]) (.d (.i 1))=AA b:=λ_ _=>rfl;have u5:∀l:List AU,T8 .lst (.L l)=AA (.s (.b AD)):=λ_=>rfl;have b1:(!AD)=AH:=rfl;refine Dy (.=AA (.s (.b AD))) (λτ=>τ=[AA (.d (.l (ns.map .i))),AA (.d (.i (many:Int))),AA (.d (.l (ss.map Ao.D))),AA (.d (.l (evs.map Ak))),AA (.d (.i (c:Int))),K,j,AA (.L [.d (.l (ss.map Ao.D)),.d (.l (evs.map Ak))]),AA (.d (.i sl)),AA (.L ((la.map .i).map .d)),AA (.U [.L (((C6 la evs).map Ak).map .d),.L ((la.map .i).map .d)])]) ⟨_,by clear E V Y B C H A J G X s1 F pE p1 p2 p3 p4 p5 p6 p7 p8 M N O u3 u4 u5 Z;lk,rfl⟩ ?_;rintro _ rfl;refine Dy (.=AA (.s (.b AD))) (λτ=>τ=[AA (.d (.l (ns.map .i))),AA (.d (.i (many:Int))),AA (.d (.l (ss.map Ao.D))),AA (.d (.l (evs.map Ak))),AA (.d (.i (c:Int))),K,j,AA (.L [.d (.l (ss.map Ao.D)),.d (.l (evs.map Ak))]),AA (.d (.i sl)),AA (.L ((la.map .i).map .d)),AA (.U [.L (((C6 la evs).map Ak).map .d),.L ((la.map .i).map .d)])]) ⟨_,by clear E V Y B C H A J G X s1 F pE p1 p2 p3 p4 p5 p6 p7 p8 hE N O u1 u2 Z;lk,rfl⟩ ?_;rintro _ rfl;have r:LH 1 [] (Yk (A9 B9 (Ai 10) (Bg (CC (.s (.i 1)))))) (GS 0) (Yb (DZ (DP Vf (BU (BW (Ai 0)) C9)))) (BW (Ai 0)) [AA (.d (.l (ns.map .i))),AA (.d (.i (many:Int))),AA (.d (.l (ss.map Ao.D))),AA (.d (.l (evs.map Ak))),AA (.d (.i (c:Int))),K,j,AA (.L [.d (.l (ss.map Ao.D)),.d (.l (evs.map Ak))]),AA (.d (.i sl)),AA (.L ((la.map .i).map .d)),AA (.U [.L (((C6 la evs).map Ak).map .d),.L ((la.map .i).map .d)])]=AA (.n (.L [])):=by rw[Y2];have ho:Yk (A9 B9 (Ai 10) (Bg (CC (.s (.i 1))))) [AA (.d (.l (ns.map .i))),AA (.d (.i (many:Int))),AA (.d (.l (ss.map Ao.D))),AA (.d (.l (evs.map Ak))),AA (.d (.i (c:Int))),K,j,AA (.L [.d (.l (ss.map Ao.D)),.d (.l (evs.map Ak))]),AA (.d (.i sl)),AA (.L ((la.map .i).map .d)),AA (.U [.L (((C6 la evs).map Ak).map .d),.L ((la.map .i).map .d)])]=AA (la.map .i):=Gw;rw[ho,JA (en:=AN.i) (g:=λ_=>AB) ∎ (by intro i _;rfl),List.filterMap_eq_nil_iff.mpr λ_ _=>rfl];rfl
 have h00:Cm AD (.L []) (.L [])=AA (.s (.b AH)):=by rfl
 refine Dy (.=AA (.s (.b AD))) _ ⟨_,by rw[IE (b:=AH) (by show LC (OF (Cm AD) (ON (LH 1 [] _ _ _ _ _)) (ON (My (AA (AH,[])))))=_;rw[r];show LC (Cm AD (.L []) (.L []))=_;rw[h00];rfl),AMv (by decide)],rfl⟩ ?_;rintro _ rfl;clear r h00;have r:Im (Il (QZ 2 (OM (GS 0) (OM (GS 1) T4))) (DZ (A9 (Mz AD) (Ai 0) (Ai 2))) (BW (Ai 1)) [AB,AB,AA (.d (.l (la.map .i)))]) (AA (evs.zipIdx.map λp:BB×Nat=>.t [.i (p.2:Int),Ak p.1]))=AA (.n (.L (((C6 la evs).map Ak).map .d))):=by
  rw[JA (en:=λp:BB×Nat=>.t [.i (p.2:Int),Ak p.1]) (g:=λp=>if(p.2:Int)∈la then AB else AA (Ak p.1)) (by rw[Lq];∎) (by
   intro p _;have hx:=AAx (n:=(p.2:Int)) (L:=la);clear E V Y B C H A J G X s1 F pE p1 p2 p3 p4 p5 p6 p7 p8 hE M N O u1 u2 u3 u4 u5 Z;by_cases c:(p.2:Int)∈la
   . rw[AMu c];have c':Af ((p.2:Int)∈la)=AD:=AMy c;rw[c']at hx;clear c c';lk
   . rw[AMv c];have c':Af ((p.2:Int)∈la)=AH:=AM0 c;rw[c']at hx;have b2:(!AH)=AD:=rfl;clear c c';lk)];have ek:(evs.zipIdx.filterMap λp=>if(p.2:Int)∈la then AB else AA (Ak p.1))=(C6 la evs).map Ak:=by unfold C6;rw[List.map_filterMap];congr 1;funext p;split<;>rfl
  rw[ek]
 refine Dy (.=AA (.s (.b AD))) (λτ=>τ=[AA (.d (.l (ns.map .i))),AA (.d (.i (many:Int))),AA (.d (.l (ss.map Ao.D))),AA (.d (.l (evs.map Ak))),AA (.d (.i (c:Int))),K,AA (.L (((C6 la evs).map Ak).map .d)),AA (.L [.d (.l (ss.map Ao.D)),.d (.l (evs.map Ak))]),AA (.d (.i sl)),AA (.d (.l (la.map .i))),AA (.U [.L (((C6 la evs).map Ak).map .d),.L ((la.map .i).map .d)])]) ⟨_,by clear E V Y B C H A J G X s1 F pE p1 p2 p3 p4 p5 p6 p7 p8 hE M N O u1 u2 u3 u4 u5 Z;lk,rfl⟩ ?_;rintro _ rfl;clear r;refine Dy (.=AA (.s (.b AD))) (λτ=>τ=[AA (.d (.l (ns.map .i))),AA (.d (.i (many:Int))),AA (.d (.l (ss.map Ao.D))),AA (.d (.l (evs.map Ak))),AA (.d (.i (c:Int))),K,AA (.L (((C6 la evs).map Ak).map .d)),AA (.L [.d (.l (ss.map Ao.D)),.d (.l (evs.map Ak))]),AA (.d (.i sl)),AA (.d (.l (la.map .i))),AA (.U [.L (((C6 la evs).map Ak).map .d),.L ((la.map .i).map .d)])]) ⟨_,by clear E V Y B C H A J G X s1 F pE p1 p2 p3 p4 p5 p6 p7 p8 hE M O u1 u2 u4 u5 Z;lk,rfl⟩ ?_;rintro _ rfl;have hkl:(((C6 la evs).map Ak).map AU.d).length<AY:=by have:(C6 la evs).length<=evs.zipIdx.length:=AJU ..;rw[Lq]at this;rw[A4,A4];∎
 have hll:((la.map AN.i).map AU.d).length<AY:=by rw[A4,A4];∎
 refine Dy (.=AA (.s (.b AD))) _ ⟨_,AMu hkl,rfl⟩ ?_;rintro _ rfl;refine Dy (.=AA (.s (.b AD))) (λτ=>τ=[AA (.d (.l (ns.map .i))),AA (.d (.i (many:Int))),AA (.d (.l (ss.map Ao.D))),AA (.d (.l (evs.map Ak))),AA (.d (.i (c:Int))),K,AA (.L (((C6 la evs).map Ak).map .d)),AA (.L [.d (.l (ss.map Ao.D)),.d (.l (evs.map Ak))]),AA (.d (.i sl)),AA (.d (.l (la.map .i))),AA (.U [.L (((C6 la evs).map Ak).map .d++[.d .n]),.L ((la.map .i).map .d++[.d .n])])]) ⟨_,AMu hll,rfl⟩ ?_;rintro _ rfl;refine Dy (.=AA (.s (.b AD))) (λτ=>∃j x8 x9 x10,τ=[AA (.d (.l (ns.map .i))),AA (.d (.i (many:Int))),AA (.d (.l (ss.map Ao.D))),AA (.d (.l (evs.map Ak))),AA (.d (.i (c:Int))),K,j,AA (.L [.d (.l (ss.map Ao.D)),.d (.l (evs.map Ak))]),x8,x9,x10]) ⟨[AA (.d (.l (ns.map .i))),AA (.d (.i (many:Int))),AA (.d (.l (ss.map Ao.D))),AA (.d (.l (evs.map Ak))),AA (.d (.i (c:Int))),K,AA (.d (.l ((C6 la evs).map Ak))),AA (.L [.d (.l (ss.map Ao.D)),.d (.l (evs.map Ak))]),AA (.d (.i sl)),AA (.d (.l (la.map .i))),AA (.U [.L (((C6 la evs).map Ak).map .d++[.d .n]),.L ((la.map .i).map .d++[.d .n])])],by clear E V Y B C H A J G X s1 pE p1 p2 p3 p4 p5 p6 p7 p8 M N u1 u2 u3 u4 u5 Z hkl hll;generalize AU.U [.L (((C6 la evs).map Ak).map .d++[.d .n]),.L ((la.map .i).map .d++[.d .n])]=fo;lk,_,_,_,_,rfl⟩ ?_;rintro _⟨x6',x8,x9,x10,rfl⟩;clear hE M N O F;obtain⟨y,hy,hY⟩:=IS (l:=[AU.d (.i (0-1)),.d (.i 1000000001),.d (.b AD),.d .n,.d (.s "3"),.d (.l [.i 1])]) (n:=6) rfl (by decide) (c1/48);obtain⟨dd,rfl,hD⟩:∃dd:AN,y=.d dd/\KN [dd,.i 0,.i 1000000000]=AA (.s (.b AH)):=by
  simp only[Bw,Hx,AMz]at hy;rcases hy with rfl|rfl|rfl|rfl|rfl|rfl;.exact⟨_,rfl,VP⟩
  .exact⟨_,rfl,VP⟩
  .exact⟨_,rfl,rfl⟩
  .exact⟨_,rfl,rfl⟩
  .exact⟨_,rfl,rfl⟩
  .exact⟨_,rfl,rfl⟩
 have hN:=xX (x:=.l (evs.map Ak)) hD;clear E V Y B C A J G X s1 pE p1 p2 p3 p4 p5 p6 p7 p8 u1 u2 u3 u4 u5 Z hkl hll hy hD b1;lk
def aI{K:Ap}:∀{ns:List Int},Bd K G (ns.map .i) (ns.map AQ.int)|[]=>rfl|n::r=>⟨_,_,rfl,rfl,aI⟩
def AAB{K:Ap}{ad:Og}(T:GX K mg ad):Dr P w K mg base G4 VO ad.jy ad.mj ["_law_script"] (Rj K):=((wZ T).F.gg (by decide)).yv λvs H Q E h=>by
 obtain⟨a,ns,rfl,D,_,k⟩:=h;refine⟨λ_=>False,[.l (ns.map .i)],_,∎,⟨_,[],rfl,⟨a,_,rfl,?_,aI⟩,rfl⟩,xR,λv H' _ r=>?_⟩;.exact Gp (λa o h=>CU.mpr ∎) D
 . rw[show v=.bl _ from r];∎
def wY{l:Sv}{K:Ap}{ad:Og}(D:mg "law"=AA (.ref fa))(T:GX K mg ad):∃fd:DU,(∀(s:AX)(v:AJ),So s fd ⟨[v],[]⟩ [("_law_script",v)])/\∀base:Au,K.In base->base.Ns C3 mg->Dr l.prog w K mg base G4 VO fa fd ["_law_script"] (Rj K):=by have e:=D.symm.trans T.rm;cases e;obtain⟨_,_,_,_,_,_,_,_,_,e,_,_⟩:=T.oo.ex;exact⟨_,λs v=>by rw[e];exact .of_eq rfl,λbase _ _=>AAB T⟩
end
def PySem.W.Fast.tw11590836495959076837:Unit:=()
def PySem.W.Fast.tw444839090999487217:Unit:=()
def PySem.W.Fast.tw10972498050672475399:Unit:=()
def PySem.W.Fast.tw10060338977964430018:Unit:=()
def PySem.W.Fast.tw2259376732031765338:Unit:=()
def PySem.W.Fast.tw17620411354835219360:Unit:=()
def PySem.W.Fast.tw4600857658195561180:Unit:=()
def PySem.W.Fast.tw14390766277170964605:Unit:=()
def PySem.W.Fast.tw11403793186197002243:Unit:=()
def PySem.W.Fast.tw13819735310765840113:Unit:=()
def PySem.W.Fast.tw9478508272456172177:Unit:=()
def PySem.W.Fast.tw3615639390749751008:Unit:=()
def PySem.W.Fast.tw5800510520335936769:Unit:=()
def PySem.W.Fast.tw11125181237254275759:Unit:=()
def PySem.W.Fast.tw13731096015563888380:Unit:=()
def PySem.W.Fast.tw10340356602272396942:Unit:=()
def PySem.W.Fast.tw14678494086444260187:Unit:=()
def PySem.W.Fast.tw7951863861111523684:Unit:=()
def PySem.W.Fast.tw5881284465571237020:Unit:=()
def PySem.W.Fast.tw4762425969381774058:Unit:=()
def PySem.W.Fast.tw2609133516334071934:Unit:=()
def PySem.W.Fast.tw1033812341141764721:Unit:=()
def PySem.W.Fast.tw8034373235140819400:Unit:=()
def PySem.W.Fast.tw2627857179870687425:Unit:=()
def PySem.W.Fast.tw9696732660151469250:Unit:=()
def PySem.W.Fast.tw10225379222018280993:Unit:=()
def PySem.W.Fast.tw17191916699722600524:Unit:=()
def PySem.W.Fast.tw11541040825769009327:Unit:=()
def PySem.W.Fast.tw17725919890527319166:Unit:=()
def PySem.W.Fast.tw15273678994846059002:Unit:=()
def PySem.W.Fast.tw8548119926321697723:Unit:=()
def PySem.W.Fast.tw7485334240231228617:Unit:=()
def PySem.W.Fast.tw10611700635298626255:Unit:=()
def PySem.W.Fast.tw12212840765036885592:Unit:=()
def PySem.W.Fast.tw7266607404198693569:Unit:=()
def PySem.W.Fast.tw3998847079822422758:Unit:=()
def PySem.W.Fast.tw17155784718676479822:Unit:=()
def PySem.W.Fast.tw1273058520020803800:Unit:=()
def PySem.W.Fast.tw17571304375666427813:Unit:=()
def PySem.W.Fast.tw10982877485414942478:Unit:=()
open PySem PySem.W PyProof.Rows
set_option maxRecDepth 100000 in
set_option maxHeartbeats 0 in
theorem PySem.Challenge.cw_brooktally_k29_rows_by_sets_holds : PySem.Challenge.rw_brooktally_k29_rows_by_sets.Holds := by
  w_on; o_law; k_head; (case hw => w_witness2)
  k_fill
  refine AEk (l := AKG) (n := 63) (k := VO) (x := "_law_script") (CX := G4) (sp := Rj) rfl (by decide) rfl ⟨rfl, by decide, by decide⟩ (fun w h Y => W.kIn_of Y) ?F zP (fun _ _ _ _ z => z)
  case F =>
    intro w mg fa h KX G hmg
    refine' wY hmg (AAm KX G ?t ?a_Clock ?ax ?dq ?df ?jf ?du ?fu ?bu ?cj ?cf ?dr ?jy ?oo ?a_FlowError ?sf ?a_BadSlack ?ma ?pg_Clock ?hd_Clock ?po_Clock ?sa_Clock ?gk ?de ?di ?fn_Clock___init__ ?fn_Clock_admit ?mks_Clock ?kp_Clock ?ga_BadSlack ?gt_BadSlack ?ck_BadSlack ?sb_BadSlack ?so_BadSlack ?cl_BadSlack ?jw ?kc ?jz ?kz ?gf ?gs ?ox ?l_PAIRED ?nk ?l_TELLERS ?nj ?l_TALLIES ?rg ?qg ?bo ?qh ?aq ?fj ?dk ?ij ?gx ?gd ?qi ?cz ?sg ?si ?jt)
    (case t =>
      repeat' (first | exact Zi | refine Zh ?_ ?_)
      all_goals (refine' xF KX G ?a ?F; (case a => k_is); (case F => refine' cL ?l ?c ?k; (case l => k_is); (case c => k_is); (case k => k_is))))
    (case a_Clock | ax | df | du | bu | cf | jy | a_FlowError | a_BadSlack | pg_Clock | hd_Clock | po_Clock | sa_Clock | gk | de | di | fn_Clock___init__ | fn_Clock_admit | mks_Clock | kp_Clock | ga_BadSlack | gt_BadSlack | ck_BadSlack | sb_BadSlack | so_BadSlack | cl_BadSlack | gs | ox | l_PAIRED | nk | l_TELLERS | nj | l_TALLIES | rg | qg | bo | qh | aq | fj | dk | ij | gx | gd | qi | cz | sg | si | jt => k_is)
    (case sf | ma => k_exc)
    (case jw | kc | kz => kit_is)
    (case jz | gf => kts_exm)
    (case dq | jf | fu | cj | dr | oo => refine' cL ?l ?c ?k; (case l => k_is); (case c => k_is); (case k => k_is))
