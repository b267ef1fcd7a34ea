import PyProof.Rows.All
import Wide.All
import OpenK.AllK
import Wide.FinOn
import Lean
import PyProof.EqAt
import PyProof.EqKinds
import PyProof.TupleCall
import PySem.Challenge.RW_brooktally_k21_whole_any_order
set_option Elab.async false
set_option linter.all false
set_option maxRecDepth 100000
set_option maxHeartbeats 4000000
open PySem PySem.Spec PyProof.Rows
open _root_.Array renaming length_toList->IF,getElem?_toList->M4,perm_iff_toList_perm->M5,toList_append->SU,append_empty->Y9,size_map->ZA,toList_extract->ZC,toArray_toList->rF,toList_map->rG,toList_push->rH,toList_setIfInBounds->rJ
open _root_.Array.Perm renaming refl->SS
open _root_.Bool renaming true->AH,false->AQ,false_ne_true->C4,noConfusion->Fs,false_eq_true->Jg,and_eq_true->M6,eq_iff_iff->SV,not_eq_true'->ZH,and_false->rK,false_and->rL,not_false->rM,not_true->rN,or_eq_true->rO
open _root_.Classical renaming byContradiction->AB
open _root_.Decidable renaming decide->Ae
open _root_.False renaming elim->Ft
open _root_.ForIn renaming forIn->GH
open _root_.ForInStep renaming yield->Ov
open _root_.Int renaming emod_nonneg->FJ,emod_lt_of_pos->Fu,mul_nonneg->Ow,le_refl->ZQ,le_antisymm->rP,le_total->rQ,lt_irrefl->rR,mul_le_mul->rS,mul_le_mul_of_nonneg_right->rT,toNat_of_nonneg->rV,zero_add->rW
open _root_.List renaming length_map->A0,getElem?_eq_some_iff->BN,mem_map->BO,getElem?_map->Bx,mem_singleton->By,length_append->CA,mem_cons->CB,getElem?_eq_getElem->Cm,map_append->C9,mem_append->DA,map_cons->DM,mem_cons_self->DR,cons->DV,mem_of_getElem?->DW,nil->DX,take_of_length_le->Df,take_add_one->Ds,mem_filter->Dy,replicate->Dz,size_toArray->D1,length_take->EA,map_map->EO,mem_cons_of_mem->ER,append_assoc->Ei,mem_append_right->Ej,pairwise_iff_getElem->E3,append_nil->FG,filter_cons->FX,length_filter_le->FY,flatMap_cons->Fo,range->Fp,length_cons->F6,mem_iff_getElem->F7,pairwise_cons->Ga,mem_append_left->Gr,filter_append->Hr,length_drop->Ig,nodup_cons->Ih,getElem?_zip_eq_some->JX,length_nil->JY,not_mem_nil->KJ,pairwise_map->KL,cons_append->K8,getElem?_append_left->K9,length->LA,pairwise_append->LB,zip->LC,filter_congr->MT,filter_sublist->MU,getElem?_append_right->MV,getElem_take->MW,lookup->MX,filter_eq_nil_iff->OO,filter_filter->OP,find?_cons->OQ,getElem_map->OR,perm_append_comm->OS,take->OT,take_append_drop->OU,any_cons->Rq,any_eq_true->Rr,extract_eq_take_drop->Rt,filter->Ru,getElem?_eq_none_iff->Rv,length_range->Rw,length_zip->Rx,map_congr_left->Ry,mem_flatMap->Rz,replicate_succ->R3,drop_eq_getElem_cons->Xt,eq_nil_of_length_eq_zero->Xu,ext_getElem?->Xv,flatten_cons->Xw,getElem?_eq_none->Xx,getElem?_take_of_lt->Xy,getElem_inj->Xz,length_singleton->X0,map_nil->X1,mem_of_mem_drop->X2,mem_of_mem_take->X3,of_mem_zip->X4,zip_cons_cons->X5,drop_drop->nT,filterMap_cons->nU,filter_cons_of_neg->nV,filter_cons_of_pos->nW,filter_eq_self->nX,filter_map->nY,flatMap_append->nZ,foldl->n6,foldl_cons->n8,length_pos_of_mem->n9,map_snd_zip->oA,map_take->oB,mem_iff_getElem?->oC,mem_range->oE,nil_append->oF,nodup_append->oG,pairwise_reverse->oH,pairwise_singleton->oI,Nodup->rX,Perm->rY,all_cons->r9,drop->sA,drop_of_length_le->sC,drop_sublist->sF,find?_some->sG,foldl_append->sH,getElem?_drop->sI,getElem?_replicate->sJ,getElem?_set_ne->sL,getElem?_set_self->sN,getElem_mem->sO,length_replicate->sP,map_id->sQ,map_id'->sR,mem_filterMap->sS,mem_reverse->sT,nodup_range->sU,perm_middle->sV,take_add->sW,take_length->sX,take_sublist->sY,take_zero->sZ,zip_nil_right->tD
open _root_.List.Pairwise renaming imp_of_mem->wQ,nil->wR
open _root_.List.Perm renaming of_eq->Xr,trans->Xs,append_left->nQ,cons->nR,swap->nS,append_right->rZ,append->wU,refl->wV
open _root_.List.Sublist renaming eq_of_length_le->wW,map->wX
open _root_.List.cons renaming inj->Dx
open _root_.Max renaming max->Gb
open _root_.Min renaming min->Cs
open _root_.Nat renaming le_refl->Al,le_trans->CL,zero_le->CU,le_of_ble_eq_true->C2,lt_of_lt_of_le->ES,ne_of_lt->ET,lt_irrefl->HI,le_of_eq->Ht,lt_succ_self->Hu,le_succ->Ii,not_lt_zero->JZ,add_zero->R4,le_of_lt->R5,lt_trichotomy->X6,mul_le_mul->X7,ne_of_gt->X8,sub_self->X9,succ_pos->YA,le_add_right->oJ,add_comm->tE,lt_of_succ_lt->tF,lt_succ_of_lt->tG,mul_add->tH,succ_le_succ->tI,succ_lt_succ->tJ
open _root_.Ne renaming symm->Hv
open _root_.Option renaming some->AA,none->AF,map_eq_some_iff->D2,map_some->YB,isSome_iff_exists->oK,getD_none->tK
open _root_.Option.some renaming inj->CM
open _root_.Or renaming inl->BL,inr->oM
open _root_.Prod renaming ext->YC
open _root_.Prod.mk renaming inj->tL
open _root_.Pure renaming pure->BZ
open _root_.PyProof renaming noPylong_small->pC
open _root_.PyProof.Rows renaming arrOf->Ah,Keyed->Au,wpS_bind->Az,wpS_pure->A9,pendingOf->Bf,seqObj->Bl,SortSt->CF,wpS->D3,wpS_forRange->F8,wpS_mono->Gd,pairsOf->Gs,wpS_modify->HJ,ltAt'->Ja,wpS_get->Jb,AllBare->KN,envOfC->KP,failedOf->KQ,reverseSlice'->KR,boot_list->LD,callWith_type1->LF,listUpdate_at->MY,setArr->MZ,wpS_lift->Ma,Call_->OV,IntsAre->OW,SortKind->OX,pairsOf_toList->OY,IsTup->R6,KeyOrd->R7,boot_sorted->R8,elem'->R9,get?_update_seq->SA,mirror->SD,seqEpoch_at->SE,boot_max->YE,boot_range->YF,kindOf->YG,mem_zip_self->YH,setPending->YI,slot_tuple_getitem->YJ,Subscript_->oN,boot_int->oO,boot_min->oP,collect_list->oQ,elem'_eq->oR,entry_list_sort->oS,entry_sorted->oT,keyKind'->oU,kind_sorted->oV,ksk_tail->oW,listItems_at->oX,lt_int->oY,plain_sorted->oZ,slot_list_sort->pA,subscriptTail->pB,args_sorted1->tO,boot_isinstance->tP,eqGives_str->tQ,getElem?_bubble->tR,getElem?_mirror_all->tS,keyLt'_oneType->tT,lt_str->tU,pairsOf_size->tV,reverseSlice'_eq->tW,slicePart_none->tX,sortedAll_at->tY,sortedAll_old->tZ,subscriptTail_builtinR->t5,boot_bool->wY,callWith_builtin1->wZ,ge_int->w4
open _root_.PyProof.Rows.IsTup renaming new->tM
open _root_.PyProof.Rows.KeyOrd renaming kle_trans->Fq,kle_of_klt->Hw,kle_refl->KO,klt_of_kle_of_klt->tN
open _root_.PyProof.Rows.SortSt renaming mk'->YD
open _root_.PySem renaming Addr->AD,Str->AG,Value->AK,Shared->AY,FuncData->Ag,model->Ao,wpAny->Av,sizeLine->Aw,Stmt->A3,wpAny_bind->A4,Expr->A5,Obj->A6,mainGlobals->BD,Heap->BG,eval->BI,Paired->BP,World->Bq,starEach->Bv,Program->CQ,Pos->Ca,wpAny_pure->Cg,Around->Cy,Sem->DH,sizeLine_eq->DN,Env->Dm,Scope->EI,compareOp->EJ,backTo->EV,binaryOp->Fb,Tok->GA,boot_len->GB,cLine->GC,wpAny_mono->Ge,call->HK,lookup_relabel_local->ID,sysModules->Io,Keyword->Jc,NameKind->Jd,PyData->Je,attributeBase->Jf,IsPart->KS,atKey->KZ,foldedSetIterable->Ka,Model->LG,bindC->LK,bindL->LM,callerA->LN,codeAny->LO,getItem->LP,swapsWith->LQ,valueAt->LR,backToKw->Mi,bootBuiltins->Mj,keywordEach->Ml,mem_of_lookup->Mm,sliceBounds->Mn,wpAny_Call_Name_kw->Mo,wpAny_passesOwn->Mp,wpAny_rule->Mq,wpAny_truthy_bool->Mr,BindsTo->OZ,call_meets->Oi,tupleKind->Oj,wpAny_holding->Ol,CmpOp->SF,assignEach->SK,codeAny_mono->SM,isTrue->SN,wpAny_newList->SO,DictEntry->YO,Fin->YS,Params->YW,behindInMarks->Yi,getMethod->Yj,letOwnedTupleGo->Yk,numAt_eq->Yl,pyIter->Ym,subscripted->Yn,typeIs_str->Yo,wpAny_Call_method->Yp,wpAny_call_entry->Yq,wpAny_execs_nil->Yr,IsRangeIter->pK,Within->qA,builtinsNs->qB,call_meetsIn->qC,cellsFrom->qE,checkCount->qF,closureFor->qG,getAttr->qH,holding->qI,operate->qJ,richCompare_meets_room->qK,standAt->qL,tupleKind_room_in1->qM,typeIs_int->qN,unaryOp->qO,wpAny_Name->qP,wpAny_call->qQ,wpAny_field->qR,wpAny_forIn_list->qS,wpAny_standAt->qT,call_list_seq->vT,call_range_3->vU,concat_meets->vV,evalArgs_none->vW,evalPart_none->vX,intBits_le_64->vY,list_append->vZ,method_meetsIn->v5,noFill_tuple_add->v7,nums_intItems->v8,recursionLimit->v9,seqIndex_neg->wA,seq_tuple_add->wB,slot_list_getitem->wC,wpAny_assign_Name->wD,wpAny_attempt->wF,wpAny_execs_cons->wG,wpAny_newObj_type->wH,wpAny_newTuple->wI,wpAny_pyIter_enum->wJ,wpAny_pyIter_range->wK,wpAny_pyIter_rangeiter->wL,wpAny_pyIter_zip->wM,wpAny_pyNext_range_end->wN
open _root_.PySem.AutoListH renaming list___mul___list_int_3->w5
open _root_.PySem.AutoSeq1 renaming sub_tuple_tuple->t6
open _root_.PySem.Builtin.List renaming listTooLong->YK,listFitsIndex->w9
open _root_.PySem.Builtin.Range renaming rangeSize->YL,small->YM,rangeFitsLong->t8
open _root_.PySem.Builtin.Slice renaming slicePlaces->YN,sliceAdjust->pD,sliceApplied->t9,sliceFields->xB,slicePartIndex->xC
open _root_.PySem.Builtin.Tuple renaming tupleCompareSizes->uA,tupleExact->xD,tupleItemsOf->xE
open _root_.PySem.Calls renaming spliced_cons->Mb,spliced_nil->Oa,callWith_builtin->pE,evalArgs_plain->pF,Name_function_global->uB,call_function_entry->uC
open _root_.PySem.Challenge renaming rw_brooktally_k21_whole_any_order->uD,pw_brooktally_k21_whole_any_order->xF
open _root_.PySem.DictEntry renaming refKey->xG
open _root_.PySem.EqMixed renaming eq_bool_str->xH,eq_int_str->xI,eq_str_bool->xJ,eq_str_int->xK,ne_bool_str->xM,ne_int_str->xN,ne_str_bool->xO,ne_str_int->xP
open _root_.PySem.EqNone renaming eq_bool_none->xQ,eq_int_none->xR,eq_none_bool->xS,eq_none_int->xT,eq_none_none->xU,eq_none_str->xV,eq_str_none->xW,ne_bool_none->xX,ne_int_none->xY,ne_none_bool->xZ,ne_none_int->x5,ne_none_none->x9,ne_none_str->yA,ne_str_none->yB
open _root_.PySem.F renaming plainAttrs_list->Mc,slot_list_append->SG,slot_list_extend->SH,plainAttrs_dict->YQ,type_list_extend->YR,slot_dict_get->pG,type_list_append->pH,args_dict_get_3->uE,args_list_append_2->uF,args_tuple_add_2->uG,entry_dict_get->uH,entry_list_append->uI,entry_tuple_add->uJ,entry_tuple_lt->uK,slot_dict_items->uL,slot_dict_pop->uM,slot_dict_values->uN,slot_int_rmul->uO,slot_str_ge->uP,slot_tuple_add->uQ,slot_tuple_index->uR,slot_tuple_lt->uS
open _root_.PySem.Flow renaming brk->Hx,cont->Hy,next->Hz,ret->IA
open _root_.PySem.Heap renaming lt_size->CP,get?_push_of_some->Cn,get?_push_size->FZ,SameBut->SI,get?_update_ne->YU,size_push->pI,get?_none_of_le->uT,get?_update_other->uU
open _root_.PySem.Heap.DictOf renaming new->yC
open _root_.PySem.Heap.IsSliceOf renaming new->yD
open _root_.PySem.Heap.SameBut renaming update->YT
open _root_.PySem.IsL renaming update->uV
open _root_.PySem.IsRange renaming new->pJ
open _root_.PySem.MeetsSeq.EqGives renaming int->yE
open _root_.PySem.NameKind renaming free->KU,cell->YV
open _root_.PySem.Obj renaming mapSeq->DC
open _root_.PySem.Paired renaming cons->Cc,nil->F9,length->Ij,snoc->uW
open _root_.PySem.PassesOwn renaming never->E4
open _root_.PySem.PyData renaming int->IB,canLay0->Md,canLayAll0->Me,depthAll->Mf,depth->Ob,eqv->SJ,strOk->YX,eqvAll->uX
open _root_.PySem.SeqAt renaming EqAt->YY,shaped->YZ,eqv_refl->yS
open _root_.PySem.SeqAt.EqAt renaming int_str->uY,same->uZ,str_int->u5,bool_bool->yF,bool_int->yG,bool_none->yH,bool_str->yI,int_bool->yJ,int_int->yK,int_none->yL,none_bool->yM,none_int->yN,none_str->yO,str_bool->yP,str_none->yQ,str_str->yR
open _root_.PySem.Str renaming empty->Oc,length->u6,length_append->u7,ofString->u9
open _root_.PySem.StrLaws renaming sliceText->vA
open _root_.PySem.Txt renaming slice->Ik
open _root_.PySem.Value renaming ref->C3,bool->Od,int->Oe,str->Of,none->Ya,float->pL,type->pN,bytes->vB,isInt->vC,isStrOf->vD,notImplemented->vE
open _root_.PySem.W renaming Frag->Ar,nsIn->BU,mg_of->Bo,findIn->Bu,isFn->EU,mg_none_of->IC,keepIn->Il,kia_one->Im,emptyDict->KW,plainGet->KY,hasDictIn->LH,instObj->LI,kitOne->LJ,makesIn->Mg,plainOver->Mh,OpenLaw->Og,fnOf->Oh,KatLex->Yb,excIn->Yc,exmOne->Yd,kat_cons->Ye,kat_kind->Yf,lookIn->Yg,subIn->Yh,WalkO->pO,callWith_K->pP,codeIn->pQ,kat_go->pR,kat_no->pS,kat_one->pT,kat_yes->pU,methodObj->pV,plainGet_of->pW,takerIn->pZ,KatTups->vF,callWith_K0->vI,cellsFrom_some->vJ,clsIn->vK,handedIn->vL,kas_kind->vM,kat_lt->vN,kat_nil->vO,kitx_dict->vP,kitx_list->vQ,methodCall_KW->vR
open _root_.PySem.W.KatTups renaming cons->vG
open _root_.PySem.W.Looks renaming here->yT
open _root_.PySem.W.WData renaming int->vH
open _root_.PySem.Walks renaming range->vS
open _root_.PySem.Within renaming cons->yU
open _root_.StateT renaming run_pure->wO
open _root_.Std.Legacy.Range renaming forIn_eq_forIn_range'->yV,size->yW
open _root_.Sum renaming inr->CJ,inl->CN
open _root_.Sum.inl renaming inj->FI
open _root_.Sum.inr renaming inj->Kc
open _root_.True renaming intro->GG
noncomputable def yX:=@if_neg
noncomputable def yY:=@if_pos
noncomputable def yZ:=@congrArg
noncomputable def y3:=@decide_eq_true
noncomputable def y4:=@decide_eq_false
noncomputable def y6:=@of_decide_eq_true
noncomputable def y7:=@decide_eq_true_eq
noncomputable def y8:=@if_false
noncomputable def y9:=@if_true
noncomputable def zA:=@of_decide_eq_false
noncomputable def zB:=@or_false
noncomputable def zC:=@beq_iff_eq
noncomputable def zD:=@beq_eq_false_iff_ne
noncomputable def zE:=@decide_eq_false_iff_not
noncomputable def zF:=@bne_self_eq_false
noncomputable def zG:=@decide_eq_decide
noncomputable def zH:=@getElem?_pos
noncomputable abbrev AL:=Sum Int AG
noncomputable def JM:AL->AK->Bool|.inl k,v=>vC k v|.inr x,v=>vD x v
noncomputable def iZ(w:Bq):AL->Int|.inl k=>hashInt k|.inr x=>hashStr w x
theorem Hl:∀{k:AL}{v:AK},JM k v=AH->(∃i t,k=CN i/\v=Oe i t)\/(∃x t,k=CJ x/\v=Of x t)|.inl i,v,h=>by obtain⟨t,e⟩:=Value.isInt_shape (k:=i) (v:=v) h;exact .inl ⟨i,t,rfl,e⟩|.inr x,v,h=>by obtain⟨t,e⟩:=Value.isStrOf_shape (x:=x) (v:=v) h;exact .inr ⟨x,t,rfl,e⟩
theorem i5(i:Int)(t:GA):JM (.inl i) (.int i t)=AH:=by simp[JM,vC]
theorem i6(x:AG)(t:GA):JM (.inr x) (.str x t)=AH:=by simp[JM,vD]
theorem i7(a b:Int):Ae ((CN a:AL)=CN b)=(a==b):=by
 by_cases e:a=b;.subst e;simp
 . have h:¬(CN a:AL)=CN b:=λq=>e (FI q);rw[y4 h];exact(zD.mpr e).symm
theorem jA(a b:AG):Ae ((CJ a:AL)=CJ b)=Ae (a=b):=by
 by_cases e:a=b;.subst e;simp
 . have h:¬(CJ a:AL)=CJ b:=λq=>e (Kc q);rw[y4 h,y4 e]
theorem i8(a:Int)(b:AG):Ae ((CN a:AL)=CJ b)=AQ:=y4 (λq=>nomatch q)
theorem i9(a:AG)(b:Int):Ae ((CJ a:AL)=CN b)=AQ:=y4 (λq=>nomatch q)
noncomputable def Dq(prog:CQ)(w:Bq):KeyKind prog w AL where
  is:=JM
  hash:=iZ w
  inj:=λv a b U J=>by
    rcases Hl U with⟨i,t,rfl,rfl⟩|⟨x,t,rfl,rfl⟩
    . rcases Hl J with⟨j,u,rfl,e⟩|⟨y,u,rfl,e⟩;.injection e with D _;rw[D]
      .exact nomatch e
    . rcases Hl J with⟨j,u,rfl,e⟩|⟨y,u,rfl,e⟩;.exact nomatch e
      .injection e with D _;rw[D]
  byValue:=λk v h=>by rcases Hl h with⟨i,t,rfl,rfl⟩|⟨x,t,rfl,rfl⟩<;>rfl
  pyHash:=λF h=>by
    rcases Hl F with⟨i,t,rfl,rfl⟩|⟨x,t,rfl,rfl⟩;.exact wpAny_pyHash_int h
    .exact wpAny_pyHash_str h
  eqBool:=λV F h=>by
    rcases Hl V with⟨i,t,rfl,rfl⟩|⟨x,t,rfl,rfl⟩
    . rcases Hl F with⟨j,u,rfl,rfl⟩|⟨y,u,rfl,rfl⟩;.rw[i7]at h;exact wpAny_eqBool_int h
      .rw[i8]at h;exact uY i t y u _ _ _ _ h
    . rcases Hl F with⟨j,u,rfl,rfl⟩|⟨y,u,rfl,rfl⟩;.rw[i9]at h;exact u5 x t j u _ _ _ _ h
      .rw[jA]at h;exact wpAny_eqBool_str h
  «strs»:=λk x t v h=>by
    rcases Hl h with⟨i,u,rfl,e⟩|⟨y,u,rfl,e⟩;.exact nomatch e
    . injection e with D _;subst D;cases v<;>rfl
theorem jI(prog:CQ)(w:Bq)(i:Int)(t:GA):(Dq prog w).is (.inl i) (.int i t)=AH:=i5 i t
theorem jJ(prog:CQ)(w:Bq)(x:AG)(t:GA):(Dq prog w).is (.inr x) (.str x t)=AH:=i6 x t
inductive AE where|non|bl(b:Bool)|int(i:Int)|str(x:AG)|byt(b:Array UInt8)|flt(b:UInt64)|ref(a:AD)|ty(n:String)deriving DecidableEq
noncomputable def BQ:AE->AK->Prop|.non,u=>u=Ya|.bl b,u=>u=Od b|.int i,u=>∃t,u=Oe i t|.str x,u=>∃t,u=Of x t|.byt b,u=>∃t,u=vB b t|.flt b,u=>∃t,u=pL b t|.ref a,u=>u=C3 a|.ty n,u=>u=pN n
noncomputable abbrev BJ:List AE->List AK->Prop:=BP BQ
theorem BJ.ai{xs:List AE}{us:List AK}(r:BJ xs us):xs.length=us.length:=Ij r
theorem BJ.aae:∀{xs:List AE}{us:List AK}{i:Nat}{x:AE},BJ xs us->xs[i]?=AA x->∃u,us[i]?=AA u/\BQ x u
 |_,_,_,_,.nil,e=>by simp at e|_,_,0,_,.cons r _,e=>by simp at e;subst e;exact⟨_,rfl,r⟩|_,_,i+1,x,.cons _ t,e=>by
  refine AB λD=>?_;obtain⟨u,F,J⟩:=BJ.aae (i:=i) (x:=x) t (by simpa using e);refine D ?_;try clear D
  exact⟨u,by simpa using F,J⟩
theorem BJ.uf:∀{xs ys:List AE}{us D:List AK},BJ xs us->BJ ys D->BJ (xs++ys) (us++D)|_,_,_,_,.nil,s=>s|_,_,_,_,.cons r t,s=>.cons r (BJ.uf t s)
theorem BJ.aks:∀{xs:List AE}{us:List AK}(n:Nat),BJ xs us->BJ (xs.take n) (us.take n)|_,_,0,_=>.nil|_,_,_+1,.nil=>.nil|_,_,n+1,.cons r t=>.cons r (BJ.aks n t)
theorem BJ.afj:∀{xs:List AE}{us:List AK}(n:Nat),BJ xs us->BJ (xs.drop n) (us.drop n)|_,_,0,r=>r|_,_,_+1,.nil=>.nil|_,_,n+1,.cons _ t=>BJ.afj n t
noncomputable def HZ:Option AE->Option AK->Prop|AA v,AA u=>BQ v u|AF,AF=>True|_,_=>False
noncomputable def Dj:List (D×AE)->List (D×AK)->Prop:=BP λ(p:D×AE)(q:D×AK)=>p.1=q.1/\BQ p.2 q.2
noncomputable def Ax:AL->AE|.inl i=>.int i|.inr x=>.str x
inductive Bh where|lst(xs:List AE)|tup(xs:List AE)|dK(kvs:List (AL×AE))|dT(kvs:List (List AL×AE))|set(S:Int->Bool)(n:Nat)|ins(C dx:AD)(fs:List (AG×AE))|own(x:AD)|xd(fs:List (AG×AE))|met(f x:AD)|rng(lo hi:Int)|frz(o:A6)(u:Bh)|tbl(ps:Array AK)|ext(φ:BG->Prop)
noncomputable abbrev AI:=AD->Option Bh
noncomputable def AN(H:AI)(a:AD)(o:Bh):AI:=λb=>if b=a then AA o else H b
theorem Ab:AN H a o a=AA o:=by unfold AN;rw[yY rfl]
theorem Ac(h:b≠a):AN H a o b=H b:=by unfold AN;rw[yX h]
theorem OL:AN (AN H a o) a u=AN H a u:=by funext b;unfold AN;split<;>rfl
theorem jL{H:AI}{a b:AD}{o u:Bh}(h:H a=AA o)(h':H b=AA u)(d:o≠u):a≠b:=by intro e;subst e;rw[h]at h';exact d (CM h')
theorem BS{H:AI}{a b:AD}{o:Bh}(h:H a=AA o)(h':H b=AF):a≠b:=by intro e;subst e;rw[h]at h';cases h'
section
variable(P:CQ)(w:Bq)
noncomputable def C5(H:AI)(h:BG)(a:AD):Bh->Prop|.lst xs=>xs.length<=Aw/\∃(D:List AK)(n:Nat),BJ xs D/\h.get? a=AA {cls:=.type "list",data:=.seq D.toArray n}|.tup xs=>xs.length<=Aw/\∃D:List AK,BJ xs D/\R6 h a D.toArray|.dK kvs=>kvs.length<=Aw/\(a==Io)=AQ/\∃J,Dj kvs J/\h.DictOf (Dq P w) a J|.dT kvs=>kvs.length<=Aw/\(a==Io)=AQ/\∃xs:List (List AL×AD×AK),BP (λ(p:List AL×AE)(q:List AL×AD×AK)=>p.1=q.1/\H q.2.1=AA (.tup (p.1.map Ax))/\BQ p.2 q.2.2) kvs xs/\∃o es ep,h.get? a=AA o/\o.ExactDict/\o.data=.dict es ep/\es.toList=xs.map (entryOfKey (Oj (Dq P w)))/\(xs.map (·.1)).Nodup|.set S n=>h.SetOf (intKind P w) a S n|.ins C dx fs=>H dx=AA (.own a)/\fs.length<=1000/\dx≠a/\h.get? a=AA (LI C dx)/\∃mA,h.Ns1 dx mA/\(∀f,HZ (fs.lookup f) (mA f))/\qA mA (fs.map (·.1))|.own _=>∃o,h.get? a=AA o|.xd fs=>∃mA,h.Ns1 a mA/\∀f,HZ (fs.lookup f) (mA f)|.rng lo hi=>∃t u v,h.get? a=AA {cls:=.type "range",data:=.fields #[.int lo t,.int hi u,.int 1 v]}|.frz o u=>h.get? a=AA o/\C5 H h a u|.tbl ps=>h.get? a=AA {cls:=.none,data:=.fields ps}|.met f x=>h.get? a=AA (pV (.ref f) (.ref x))|.ext F=>F h/\(∃o,h.get? a=AA o)/\∀h1 h2:BG,F h1->(∀o,h1.get? a=AA o->h2.get? a=AA o)->F h2
end
noncomputable def Ci(P:CQ)(w:Bq)(H:AI)(h:BG):Prop:=∀a o,H a=AA o->C5 P w H h a o
theorem C5.lt{h:BG}(x:C5 P w H h a o):a<h.objs.size:=by cases o with|lst J=>obtain⟨_,_,_,_,e⟩:=x;exact CP e|tup J=>obtain⟨_,_,_,p⟩:=x;exact p.lt|dK D=>obtain⟨_,_,_,_,o,_,_,e,_⟩:=x;exact CP e|dT D=>obtain⟨_,_,_,_,o,_,_,e,_⟩:=x;exact CP e|set S n=>obtain⟨o,_,_,_,e,_⟩:=x;exact CP e|ins C U F=>obtain⟨_,_,_,e,_⟩:=x;exact CP e|own y=>obtain⟨_,e⟩:=x;exact CP e|xd F=>obtain⟨_,⟨_,_,_,e,_⟩,_⟩:=x;exact CP e|rng W V=>obtain⟨_,_,_,e⟩:=x;exact CP e|frz Y u=>obtain⟨e,_⟩:=x;exact CP e|tbl Z=>exact CP (show h.get? a=AA _ from x)|met f y=>exact CP (show h.get? a=AA _ from x)|ext q=>obtain⟨_,⟨_,e⟩,_⟩:=x;exact CP e
theorem Qz:∀{D:List U}{J:List V},BP F D J->(∀a b,F a b->G a b)->BP G D J|_,_,.nil,_=>.nil|_,_,.cons r t,f=>.cons (f _ _ r) (Qz t f)
theorem C5.abm{h h':BG}(x:C5 P w H h a o)(k:∀b u,(b=a\/H b=AA (.own a))->h.get? b=AA u->h'.get? b=AA u)(I:∀b,H b=AA (.own a)->H' b=AA (.own a))(K:∀b xs,H b=AA (.tup xs)->H' b=AA (.tup xs)):C5 P w H' h' a o:=by induction o with
 |lst xs=>obtain⟨z,U,n,r,e⟩:=x;exact⟨z,U,n,r,k _ _ (.inl rfl) e⟩|tup xs=>obtain⟨z,U,r,D,e,c⟩:=x;exact⟨z,U,r,D,k _ _ (.inl rfl) e,c⟩|dK W=>obtain⟨z,y,N,r,D,J,F,e,c⟩:=x;exact⟨z,y,N,r,D,J,F,k _ _ (.inl rfl) e,c⟩|dT W=>
  refine AB λV=>?_;obtain⟨z,y,xs,r,D,J,F,e,c⟩:=x;refine V ?_;try clear V
  exact⟨z,y,xs,Qz r λp q z=>⟨z.1,K _ _ z.2.1,z.2.2⟩,D,J,F,k _ _ (.inl rfl) e,c⟩|set S n=>obtain⟨D,J,F,t,e,c⟩:=x;exact⟨D,J,F,t,k _ _ (.inl rfl) e,c⟩|ins C O G=>
  refine AB λV=>?_;obtain⟨d,z,M,e,Y,⟨Z,J,F,E,c⟩,r⟩:=x;refine V ?_;try clear V
  exact⟨I _ d,z,M,k _ _ (.inl rfl) e,Y,⟨Z,J,F,k _ _ (.inr d) E,c⟩,r⟩|own y=>obtain⟨D,e⟩:=x;exact⟨D,k _ _ (.inl rfl) e⟩|xd G=>obtain⟨Y,⟨Z,J,F,e,c⟩,r⟩:=x;exact⟨Y,⟨Z,J,F,k _ _ (.inl rfl) e,c⟩,r⟩|rng R Q=>obtain⟨t,u,v,e⟩:=x;exact⟨t,u,v,k _ _ (.inl rfl) e⟩|frz D u L=>obtain⟨e,q⟩:=x;exact⟨k _ _ (.inl rfl) e,L q⟩|tbl A=>have e:h.get? a=AA {cls:=.none,data:=.fields A}:=x;show h'.get? a=AA {cls:=.none,data:=.fields A};exact k a _ (.inl rfl) e|met f y=>have e:h.get? a=AA (pV (.ref f) (.ref y)):=x;show h'.get? a=AA (pV (.ref f) (.ref y));exact k a _ (.inl rfl) e|ext T=>obtain⟨p,⟨o,e⟩,B⟩:=x;exact⟨B _ _ p λo q=>k _ _ (.inl rfl) q,⟨o,k _ _ (.inl rfl) e⟩,B⟩
theorem Ci.lt{h:BG}(x:Ci P w H h)(e:H a=AA o):a<h.objs.size:=(x a o e).lt
theorem Ci.bo{h:BG}(x:Ci P w H h)(e:h.objs.size<=a):H a=AF:=by cases q:H a with|none=>rfl|some u=>exact absurd (ES (x.lt q) e) (HI _)
theorem Ci.jf{h h':BG}(x:Ci P w H h)(k:∀b u,h.get? b=AA u->h'.get? b=AA u):Ci P w H h':=λa o e=>(x a o e).abm (λb u _ q=>k b u q) (λ_ q=>q) λ_ _ q=>q
theorem Ci.qk{h h':BG}(x:Ci P w H h)(k:∀b u,h.get? b=AA u->h'.get? b=AA u)(U:h.objs.size<=a)(D:C5 P w (AN H a o) h' a o):Ci P w (AN H a o) h':=λb u e=>by
 have J:=x.bo U;by_cases F:b=a;.subst F;rw[Ab]at e;cases e;exact D
 . rw[Ac F]at e;exact(x b u e).abm (λc v _ q=>k c v q) (λc q=>by rw[Ac (BS q J)];exact q) λc V q=>by rw[Ac (BS q J)];exact q
noncomputable def FC(H:AI)(a:AD)(u:Bh):Prop:=H a=AA u\/∃o,H a=AA (.frz o u)
theorem FC.ok(r:FC H a u)(x:Ci P w H h):C5 P w H h a u:=by
 rcases r with r|⟨o,r⟩;.exact x a u r
 . obtain⟨_,q⟩:=x a _ r;exact q
noncomputable def Lv:Option Bh->Prop|AA (.lst _)=>True|AA (.dK _)=>True|AA (.dT _)=>True|AA (.set _ _)=>True|AA (.ins _ _ _)=>True|AA (.ext _)=>True|_=>False
theorem Ci.aak{h h':BG}(I:Ci P w H h)(W:Lv (H x))(B:e=x\/H e=AA (.own x))(k:∀b u,b≠e->h.get? b=AA u->h'.get? b=AA u)(Z:∃u,h'.get? e=AA u)(A:C5 P w (AN H x C) h' x C):Ci P w (AN H x C) h':=λb u q=>by
  have F:∀c y,H c=AA (.own y)->c≠x:=λc y r z=>by subst z;rw[r]at W;exact W
  have J:∀c Y,H c=AA (.tup Y)->c≠x:=λc Y r z=>by subst z;rw[r]at W;exact W
  by_cases U:b=x;.subst U;rw[Ab]at q;cases q;exact A
  . rw[Ac U]at q;by_cases D:b=e
    . have E:H b=AA (.own x):=by
        rcases B with z|z;.exact absurd (D.trans z) U
        .rw[D];exact z
      rw[q]at E;cases E;obtain⟨v,G⟩:=Z;exact⟨v,by rw[D];exact G⟩
    . refine(I b u q).abm (λc v V r=>k c v ?_ r) (λc r=>by rw[Ac (F c b r)];exact r) λc Y r=>by rw[Ac (J c Y r)];exact r
      rcases V with rfl|V;.exact D
      . rintro rfl;rcases B with z|z;.exact F c b V z
        .rw[V]at z;cases z;exact U rfl
structure FR(fs ex:List AD)(H H':AI)(h h':BG):Prop where
 ab:∀b o,h.get? b=AA o->H b=AF->b∉fs->b∉ex->h'.get? b=AA o
 zv:∀b o,h.get? b=AA o->H b=AF->b∈fs->b∉ex->∃sl,h'.get? b=AA {o with slots:=sl}bh:∀b o,h.get? b=AA o->H b=AF->b∉ex->H' b=AF
 rl:∀b o,h.get? b=AA o->b∉ex->∃o',h'.get? b=AA o'
 abq:∀b xs,H b=AA (.tup xs)->H' b=AA (.tup xs)yy:∀b o u,H b=AA (.frz o u)->H' b=AA (.frz o u)abp:∀b ps,H b=AA (.tbl ps)->∃more,H' b=AA (.tbl (ps++more))
theorem FR.ajw{h V:BG}(u:FR U ex H Y h V)(q:h.get? b=AA D)(n:H b=AF)(J:b∉ex):∃W,V.get? b=AA {D with slots:=W}:=by
 by_cases F:b∈U;.exact u.zv b D q n F J
 .exact⟨D.slots,u.ab b D q n F J⟩
theorem Nq{h h':BG}(k:∀b u,h.get? b=AA u->h'.get? b=AA u):FR F ex H H h h':=⟨λb D q _ _ _=>k b D q,λb D q _ _ _=>⟨D.slots,k b D q⟩,λ_ _ _ n _=>n,λb D q _=>⟨D,k b D q⟩,λ_ _ q=>q,λ_ _ _ q=>q,λ_ J q=>⟨#[],by rw[q];simp⟩⟩
theorem gG:FR D ex H H h h:=Nq λ_ _ q=>q
theorem gD{h h':BG}(k:∀b u,h.get? b=AA u->h'.get? b=AA u)(F:h.objs.size<=a)(D:H a=AF):FR U ex H (AN H a o) h h' where
 ab:=λb u q _ _ _=>k b u q
 zv:=λb u q _ _ _=>⟨u.slots,k b u q⟩
 bh:=λb u q n _=>by rw[Ac (ET (ES (CP q) F))];exact n
 rl:=λb u q _=>⟨u,k b u q⟩
 abq:=λb J q=>by rw[Ac (BS q D)];exact q
 yy:=λb u J q=>by rw[Ac (BS q D)];exact q
 abp:=λb V q=>⟨#[],by rw[Ac (BS q D),q];simp⟩
theorem gH{h h':BG}(F:Lv (H x))(Y:e=x\/H e=AA (.own x))(k:∀b u,b≠e->h.get? b=AA u->h'.get? b=AA u)(J:∃u,h'.get? e=AA u):FR B ex H (AN H x o) h h':=by
 have W:∀b,H b=AF->b≠x:=λb n z=>by subst z;rw[n]at F;exact F
 have V:∀b,H b=AF->b≠e:=λb n z=>by
  subst z;rcases Y with r|r;.exact W b n r
  .rw[n]at r;cases r
 have U:∀b u,H b=AA u->¬Lv (AA u)->b≠x:=λb u q Z z=>by subst z;rw[q]at F;exact Z F
 refine⟨λb u q n _ _=>k b u (V b n) q,λb u q n _ _=>⟨u.slots,k b u (V b n) q⟩,λb u q n _=>by rw[Ac (W b n)];exact n,λb u q _=>?_,λb A q=>by rw[Ac (U b _ q λz=>z)];exact q,λb u A q=>by rw[Ac (U b _ q λz=>z)];exact q,λb C q=>⟨#[],by rw[Ac (U b _ q λz=>z),q];simp⟩⟩;by_cases D:b=e;.subst D;exact J
 .exact⟨u,k b u D q⟩
noncomputable def OK(h:BG)(H:AI):List AD:=(Fp h.objs.size).filter λa=>(H a).isSome
noncomputable def IU(h:BG)(H:AI):BG:=W.hideAll h (OK h H)
theorem iK(h:BG)(H:AI):(IU h H).objs.size=h.objs.size:=W.hideAll_size _ _
theorem iJ{h:BG}(e:h.get? b=AA o)(n:H b=AF):(IU h H).get? b=AA o:=W.hideAll_get _ e λD=>by have q:(H b).isSome=AH:=(Dy.mp D).2;rw[n]at q;simp at q
theorem jM{h:BG}(e:(IU h H).get? b=AA o):h.get? b=AA o/\H b=AF:=by have D:h.get? b=AA o:=W.of_hideAll (OK h H) e;refine⟨D,?_⟩;cases q:H b with|none=>rfl|some x=>have F:b∈OK h H:=Dy.mpr ⟨oE.mpr (CP D),by simp[q]⟩;have z:(IU h H).get? b=AF:=W.hideAll_none (OK h H) F;rw[z]at e;cases e
structure Ng(K:Ar)(mg:AG->Option AK)(base:BG):Prop where
 aki:K.In base
 aba:base.Ns BD mg
 ajr:∃mb,base.Ns qB mb/\∀x:AG,x≠"__name__"->mb x=Mj x
 aij:base.NoLimit
structure BY where
 af:CQ
 w:Bq
 K:Ar
 mg:AG->Option AK
 ah:BG
 A:Cy
 N:List AG
 s₀:AY
 H₀:AI
 ae:Dm
 xi:List Dm
 cb:List Dm
 ex:List AD
 fn:AG->Bool
 ic:Bool
 pn:List (AD×A6)xe:AK->AY->Prop
noncomputable def Ew(l:List Dm):List AD:=l.filterMap (·.frame)
noncomputable abbrev BY.fs(X:BY):List AD:=Ew X.xi
noncomputable def Nt(D:EI)(x:AG):Prop:=D.names.lookup x=AA .local\/D.names.lookup x=AA .cell\/D.names.lookup x=AA .free
noncomputable def IP(D:EI)(x:AG):Prop:=D.names.lookup x=AA .local\/D.names.lookup x=AA .cell
noncomputable def fX(env:Dm)(h:BG)(m:AG->Option AK)(x:AG)(u:AK):Prop:=(env.kindOf x=AA .local/\m x=AA u)\/((env.kindOf x=AA .cell\/env.kindOf x=AA .free)/\∃c,env.cells.lookup x=AA c/\h.IsCell c (AA u))
structure BY.Ok(X:BY):Prop where
 aah:Ng X.K X.mg X.ah
 lh:X.ae.scope.kind=.function
 aba:X.ae.globals=BD
 ajr:X.ae.builtins=qB
 wx:X.s₀.heap.objs.size<=X.ae.locals
 ait:∀x y c,X.ae.cells.lookup x=AA c->X.ae.cells.lookup y=AA c->x=y
 ake:∀x,(X.ae.kindOf x=AA .cell\/X.ae.kindOf x=AA .free)->∃c,X.ae.cells.lookup x=AA c
 ajy:∀x c,X.fn x=AH->X.ae.cells.lookup x=AA c->X.s₀.heap.objs.size<=c
 hd:X.ic=AH->X.A.handled=AF
 qj:X.A.frames=AA X.cb
 alc:X.cb=X.xi\/(X.cb=X.ae::X.xi/\X.ae.frame=AA X.ae.locals)alf:∀b∈X.ex,b≠X.ae.locals/\∀x c,X.ae.cells.lookup x=AA c->c≠b
 bs:∀b o,X.ah.get? b=AA o->X.s₀.heap.get? b=AA o/\X.H₀ b=AF
 ahs:X.ah.objs.size<=X.s₀.heap.objs.size
 ahk:∀b o,X.ah.get? b=AA o->b∉X.ex
 agu:∀b∈X.ex,b∉X.fs
 vb:X.s₀.heap.FunFrames X.ah X.xi
 ais:∀b∈X.fs,X.H₀ b=AF
structure AZ(X:BY)(pins:List (AD×A6))(σ:List (Option AE))(H:AI)(s:AY):Prop where
 ok:X.Ok
 os:s.os=X.s₀.os
 jx:KN s.gens
 ah:FR X.fs X.ex X.H₀ H X.s₀.heap s.heap
 ads:∃m,s.heap.Ns X.ae.locals m/\∀(i:Nat)(x:AG)(v:AE),X.N[i]?=AA x->σ[i]?=AA (AA v)->Nt X.ae.scope x->∃u,BQ v u/\fX X.ae s.heap m x u
 uz:∀x c,X.ae.cells.lookup x=AA c->∃v,s.heap.IsCell c v
 bh:H X.ae.locals=AF
 mf:∀x c,X.ae.cells.lookup x=AA c->H c=AF
 zu:∀p∈X.pn++pins,s.heap.get? p.1=AA p.2/\H p.1=AF/\p.1≠X.ae.locals/\p.1∉X.fs/\∀v,p.2.data≠.cell v
 bx:Ci X.af X.w H s.heap
 dh:σ.length=X.N.length
theorem BY.Ok.alk{X:BY}(F:X.Ok)(e:X.ah.get? b=AA o):b∉X.fs:=λD=>by have:=(F.vb.mem D).1;rw[e]at this;cases this
theorem AZ.bs{X:BY}{s:AY}(I:AZ X D F H s):∀b o,X.ah.get? b=AA o->s.heap.get? b=AA o/\H b=AF:=λb o e=>⟨I.ah.ab b o (I.ok.bs b o e).1 (I.ok.bs b o e).2 (I.ok.alk e) (I.ok.ahk b o e),I.ah.bh b o (I.ok.bs b o e).1 (I.ok.bs b o e).2 (I.ok.ahk b o e)⟩
theorem AZ.bk{X:BY}{s:AY}(I:AZ X D F H s):∀b o,X.ah.get? b=AA o->s.heap.get? b=AA o:=λb o e=>(I.bs b o e).1
theorem AZ.aah{X:BY}(I:AZ X D F H s):Ng X.K X.mg X.ah:=I.ok.aah
theorem AZ.wj{X:BY}{s:AY}(I:AZ X D F H s):X.K.In s.heap:=I.ok.aah.aki.keeps I.bk
theorem AZ.lt{X:BY}{s:AY}(I:AZ X D J H s):X.ae.locals<s.heap.objs.size:=let⟨_,F,_⟩:=I.ads;F.lt
theorem AZ.sz{X:BY}{s:AY}(I:AZ X D F H s):X.s₀.heap.objs.size<=s.heap.objs.size:=CL I.ok.wx (R5 I.lt)
theorem AZ.alm{X:BY}{s:AY}(I:AZ X F V H s)(h:s.heap.objs.size<=a):a∉X.fs:=λJ=>by
 refine AB λD=>?_;obtain⟨_,o,U,_⟩:=I.ok.vb.mem J;refine D ?_;try clear D
 exact absurd (ES (CP U) (CL I.sz h)) (HI _)
theorem AZ.ale{X:BY}(I:AZ X W A H s):∀x c,X.ae.cells.lookup x=AA c->c≠X.ae.locals:=λx c e z=>by
 refine AB λV=>?_;obtain⟨v,o,U,J⟩:=I.uz x c e;obtain⟨m,⟨q,Z,Y,F,D,_⟩,_⟩:=I.ads;refine V ?_;try clear V
 rw[z,F]at U;cases U;rw[D]at J;cases J
theorem AZ.vb{X:BY}{s:AY}(I:AZ X W M H s):s.heap.FunFrames X.ah X.xi:=by
 have D:∀(l:List Dm),(∀b∈Ew l,b∈X.fs)->X.s₀.heap.FunFrames X.ah l->s.heap.FunFrames X.ah l:=by intro l;induction l with|nil=>intro _ _;trivial|cons Y r G=> intro V A;obtain⟨q,⟨L,o,U,B,C,Z⟩,E⟩:=A;have F:L∈X.fs:=V L (by unfold Ew;rw[nU,U];exact DR);obtain⟨K,e⟩:=I.ah.zv L o C (I.ok.ais L F) F λz=>I.ok.agu L z F;exact⟨q,⟨L,_,U,B,e,Z⟩,G (λb J=>V b (by unfold Ew;rw[nU,U];exact ER _ J)) E⟩
 exact D X.xi (λ_ J=>J) I.ok.vb
theorem AZ.cb{X:BY}{s:AY}(I:AZ X F V H s):s.heap.FunFrames X.ah X.cb:=by
  rcases I.ok.alc with e|⟨e,J⟩;.rw[e];exact I.vb
  . rw[e];refine AB λD=>?_;obtain⟨m,U,_⟩:=I.ads;refine D ?_;try clear D
    refine .cons (by rw[I.ok.lh];decide) J U ?_ I.vb;exact uT (CL I.ok.ahs I.ok.wx)
theorem AZ.abn{X:BY}(I:AZ X F U H s):∀b∈Ew X.cb,b∈X.ae.locals::X.fs:=λb D=>by
 rcases I.ok.alc with e|⟨e,J⟩;.rw[e]at D;exact ER _ D
 . rw[e]at D;unfold Ew at D;rw[nU,J]at D;exact D
theorem AZ.afa{X:BY}(I:AZ X J V H s):∀b∈Ew X.cb,H b=AF:=λb D=>by
  rcases CB.mp (I.abn b D)with e|D;.rw[e];exact I.bh
  . refine AB λF=>?_;obtain⟨_,o,U,_⟩:=I.ok.vb.mem D;refine F ?_;try clear F
    exact I.ah.bh b o U (I.ok.ais b D) λz=>I.ok.agu b z D
theorem AZ.vh{X:BY}{B:List (AD×A6)}{σ:List (Option AE)}{H H':AI}{h':BG}{g':Array GenState}{t':Nat}{d':Drawn}{ch:List AD}(I:AZ X B σ H s)(V:∀b∈ch,(b∈X.ex\/X.s₀.heap.objs.size<=b)/\b≠X.ae.locals/\(∀x c,X.ae.cells.lookup x=AA c->c≠b)/\∀p∈X.pn++B,p.1≠b)(W:∀b o,b≠X.ae.locals->b∉X.fs->b∉ch->s.heap.get? b=AA o->H b=AF->h'.get? b=AA o)(C:∀b o,b≠X.ae.locals->b∈X.fs->b∉ch->s.heap.get? b=AA o->H b=AF->∃a,h'.get? b=AA {o with slots:=a})(J:∀b o,b∉ch->s.heap.get? b=AA o->H b=AF->H' b=AF)(G:∀b o,b∉ch->s.heap.get? b=AA o->∃P,h'.get? b=AA P)(R:∀b xs,H b=AA (.tup xs)->H' b=AA (.tup xs))(M:∀b o u,H b=AA (.frz o u)->H' b=AA (.frz o u))(Q:∀b ps,H b=AA (.tbl ps)->∃N,H' b=AA (.tbl (ps++N)))(ns:∀m,s.heap.Ns X.ae.locals m->h'.Ns X.ae.locals m)(T:Ci X.af X.w H' h')(y:KN g'):AZ X B σ H' {s with heap:=h',gens:=g',drawn:=d',toks:=t'}:=by
  have O:∀b o,X.s₀.heap.get? b=AA o->b≠X.ae.locals:=λb o e=>ET (ES (CP e) I.ok.wx);have A:∀b o,X.s₀.heap.get? b=AA o->b∉X.ex->b∉ch:=λb o e F E=>by
    rcases(V b E).1 with z|z;.exact F z
    .exact absurd (ES (CP e) z) (HI _)
  have U:∀x c,X.ae.cells.lookup x=AA c->∀v,s.heap.IsCell c v->h'.IsCell c v:=λx c e v⟨o,K,S⟩=>by
    have Y:c∉ch:=λz=>(V c z).2.2.1 x c e rfl;by_cases g:c∈X.fs
    . obtain⟨a,q⟩:=C c o (I.ale x c e) g Y K (I.mf x c e);exact⟨_,q,S⟩
    .exact⟨o,W c o (I.ale x c e) g Y K (I.mf x c e),S⟩
  refine⟨I.ok,I.os,y,⟨λb o e n E F=>?_,λb o e n E F=>?_,λb o e n F=>?_,λb o e F=>?_,λb xs e=>R b xs (I.ah.abq b xs e),λb o xs e=>M b o xs (I.ah.yy b o xs e),λb ps e=>?_⟩,?_,λx c e=>?_,?_,λx c e=>?_,λp h=>?_,T,I.dh⟩;.exact W b o (O b o e) E (A b o e F) (I.ah.ab b o e n E F) (I.ah.bh b o e n F)
  . refine AB λD=>?_;obtain⟨a,Z⟩:=I.ah.zv b o e n E F;obtain⟨f,L⟩:=C b _ (O b o e) E (A b o e F) Z (I.ah.bh b o e n F);refine D ?_;try clear D
    exact⟨f,L⟩
  . obtain⟨P,Z⟩:=I.ah.rl b o e F;exact J b P (A b o e F) Z (I.ah.bh b o e n F)
  . obtain⟨P,Z⟩:=I.ah.rl b o e F;exact G b P (A b o e F) Z
  . refine AB λD=>?_;obtain⟨m1,Z⟩:=I.ah.abp b ps e;obtain⟨m2,L⟩:=Q b _ Z;refine D ?_;try clear D
    exact⟨m1++m2,by rw[L,Array.append_assoc]⟩
  . refine AB λD=>?_;obtain⟨m,hn,hl⟩:=I.ads;refine D ?_;try clear D
    refine⟨m,ns m hn,λi x v Z L w=>?_⟩;refine AB λD=>?_;obtain⟨u,r,l⟩:=hl i x v Z L w;refine D ?_;try clear D
    refine⟨u,r,?_⟩;rcases l with l|⟨k,c,e,z⟩;.exact .inl l
    .exact .inr ⟨k,c,e,U x c e _ z⟩
  . obtain⟨v,z⟩:=I.uz x c e;exact⟨v,U x c e v z⟩
  . refine AB λD=>?_;obtain⟨m,⟨o,_,_,K,_⟩,_⟩:=I.ads;refine D ?_;try clear D
    exact J _ o (λz=>(V _ z).2.1 rfl) K I.bh
  . refine AB λD=>?_;obtain⟨v,o,K,S⟩:=I.uz x c e;refine D ?_;try clear D
    exact J c o (λz=>(V c z).2.2.1 x c e rfl) K (I.mf x c e)
  . refine AB λD=>?_;obtain⟨e,n,j,t,d⟩:=I.zu p h;refine D ?_;try clear D
    have Y:p.1∉ch:=λz=>(V p.1 z).2.2.2 p h rfl;exact⟨W p.1 p.2 j t Y e n,J p.1 p.2 Y e n,j,t,d⟩
theorem AZ.un{X:BY}(I:AZ X J C H s)(u:FR X.fs [] H H' s.heap h')(Y:Ci X.af X.w H' h'):AZ X J C H' {s with heap:=h',toks:=t'}:=by
 refine AB λF=>?_;obtain⟨m,⟨o,G,E,Z,r⟩,_⟩:=id I.ads;obtain⟨M,q⟩:=u.ajw Z I.bh (by simp);refine F ?_;try clear F
 exact I.vh (g':=s.gens) (d':=s.drawn) (ch:=[]) (λ_ z=>nomatch z) (λb o _ W _ e n=>u.ab b o e n W (by simp)) (λb o _ W _ e n=>u.zv b o e n W (by simp)) (λb o _ e n=>u.bh b o e n (by simp)) (λb o _ e=>u.rl b o e (by simp)) u.abq u.yy u.abp (λK A=>by
  refine AB λF=>?_;obtain⟨L,V,U,D,B⟩:=A;refine F ?_;try clear F
  rw[Z]at D;cases D;exact⟨_,V,U,q,B⟩) Y I.jx
theorem AZ.ajz{X:BY}{K:List (Option AE)}(I:AZ X D K H s)(u:FR (Ew X.cb) ch H H' s.heap h')(q:Ci X.af X.w H' h')(C:KN g')(J:∀b∈ch,(b∈X.ex\/X.s₀.heap.objs.size<=b)/\b≠X.ae.locals/\(∀x c,X.ae.cells.lookup x=AA c->c≠b)/\∀p∈X.pn++D,p.1≠b):AZ X D K H' {s with heap:=h',gens:=g',drawn:=d',toks:=t'}:=by
 refine AB λV=>?_;obtain⟨m,⟨o,M,L,A,r⟩,_⟩:=id I.ads;obtain⟨P,Z⟩:=u.ajw A I.bh λz=>(J _ z).2.1 rfl;refine V ?_;try clear V
 exact I.vh (ch:=ch) J (λb o Z B F e n=>u.ab b o e n (λz=>(CB.mp (I.abn b z)).elim Z B) F) (λb o _ _ F e n=>u.ajw e n F) (λb o F e n=>u.bh b o e n F) (λb o F e=>u.rl b o e F) u.abq u.yy u.abp (λN E=>by
  refine AB λV=>?_;obtain⟨O,Y,W,U,G⟩:=E;refine V ?_;try clear V
  rw[A]at U;cases U;exact⟨_,Y,W,Z,G⟩) q C
theorem AZ.eh{X:BY}{h':BG}(I:AZ X D L H s)(k:∀b o,b≠it->s.heap.get? b=AA o->h'.get? b=AA o)(G:H it=AF)(U:it≠X.ae.locals)(Z:it∈X.ex\/X.s₀.heap.objs.size<=it)(A:∀x c,X.ae.cells.lookup x=AA c->c≠it)(B:∀p∈X.pn++D,p.1≠it):AZ X D L H {s with heap:=h',toks:=t'}:=by
  have J:∀b u,H b=AA u->b≠it:=λb u e z=>by rw[z,G]at e;cases e
  refine I.vh (g':=s.gens) (d':=s.drawn) (ch:=[it]) (λb C=>?_) (λb o _ _ F e _=>k b o (λz=>F (by simp[z])) e) (λb o _ _ F e _=>⟨o.slots,k b o (λz=>F (by simp[z])) e⟩) (λ_ _ _ _ n=>n) (λb o F e=>⟨o,k b o (λz=>F (by simp[z])) e⟩) (λ_ _ e=>e) (λ_ _ _ e=>e) (λb M e=>⟨#[],by rw[e];simp⟩) (λm E=>?_) (λb u e=>?_) I.jx
  . have e:b=it:=by simpa using C
    subst e;exact⟨Z,U,A,B⟩
  . refine AB λV=>?_;obtain⟨o,Y,W,K,r⟩:=E;refine V ?_;try clear V
    exact⟨o,Y,W,k _ o (Hv U) K,r⟩
  . refine(I.bx b u e).abm (λc v F q=>k c v ?_ q) (λ_ q=>q) λ_ _ q=>q;rcases F with z|z;.rw[z];exact J b u e
    .exact J c _ z
theorem AZ.fw(I:AZ X D F H s)(t:Nat):AZ X D F H {s with toks:=t}:=I.un (h':=s.heap) (t':=t) gG I.bx
theorem AZ.jf{h':BG}(I:AZ X D F H s)(k:∀b u,s.heap.get? b=AA u->h'.get? b=AA u):AZ X D F H {s with heap:=h',toks:=t'}:=I.un (Nq k) (I.bx.jf k)
theorem AZ.qk{X:BY}{h':BG}(I:AZ X D U H s)(k:∀b u,s.heap.get? b=AA u->h'.get? b=AA u)(F:s.heap.objs.size<=a)(J:C5 X.af X.w (AN H a o) h' a o):AZ X D U (AN H a o) {s with heap:=h',toks:=t'}:=I.un (gD k F (I.bx.bo F)) (I.bx.qk k F J)
theorem AZ.aak{X:BY}{h':BG}(I:AZ X F W H s)(V:Lv (H x))(U:e=x\/H e=AA (.own x))(k:∀b u,b≠e->s.heap.get? b=AA u->h'.get? b=AA u)(D:∃u,h'.get? e=AA u)(J:C5 X.af X.w (AN H x o) h' x o):AZ X F W (AN H x o) {s with heap:=h',toks:=t'}:=I.un (gH V U k D) (I.bx.aak V U k D J)
theorem AZ.jh{X:BY}{s:AY}(I:AZ X F U H s)(h:∀p∈D,s.heap.get? p.1=AA p.2/\H p.1=AF/\p.1≠X.ae.locals/\p.1∉X.fs/\∀v,p.2.data≠.cell v):AZ X D U H s:=⟨I.ok,I.os,I.jx,I.ah,I.ads,I.uz,I.bh,I.mf,λp J=>(DA.mp J).elim (λz=>I.zu p (Gr _ z)) (h p),I.bx,I.dh⟩
theorem Wk{N:List AG}(U:N.Nodup){i j:Nat}{x:AG}(a:N[i]?=AA x)(b:N[j]?=AA x):i=j:=by
 refine AB λD=>?_;obtain⟨V,F⟩:=BN.mp a;obtain⟨W,J⟩:=BN.mp b;refine D ?_;try clear D
 exact(Xz U).mp (F.trans J.symm)
theorem XT{X:BY}{σ:List (Option AE)}{s:AY}(I:AZ X l σ H s)(hN:X.N.Nodup)(hi:X.N[i]?=AA x)(Y:IP X.ae.scope x)(r:BQ v u)(h:∀s',AZ X l (σ.set i (AA v)) H s'->(∃a,SI a s.heap s'.heap/\(a=X.ae.locals\/X.ae.cells.lookup x=AA a))->Q () s')(hf:X.fn x=AH\/X.ae.scope.names.lookup x=AA .local:=by first|exact .inl rfl|exact .inr rfl|assumption):Av M A (storeName X.ae x u) Q E s:=by
  refine AB λD=>?_;obtain⟨m,hn,hl⟩:=id I.ads;refine D ?_;try clear D
  have T:(X.ae.scope.kind==.class||(X.ae.scope.kind==.module&&X.ae.locals !=X.ae.globals))=AQ:=by rw[I.ok.lh];rfl
  have C:i<σ.length:=by rw[I.dh];exact(BN.mp hi).1
  have K:=I.ale;have U:∀{a:AD}{P:BG},(∃o,s.heap.get? a=AA o/\H a=AF)->SI a s.heap P->Ci X.af X.w H P:=λ{a P}ha F b ob e=>by
    obtain⟨_,_,Z⟩:=ha;refine(I.bx b ob e).abm (λc w' W q=>(F.2 c ?_).trans q) (λ_ q=>q) λ_ _ q=>q;rintro rfl;rcases W with rfl|W;.rw[Z]at e;cases e
    .rw[Z]at W;cases W
  rcases Y with G|G
  . refine wpAny_storeName_local G hn (λP hn' F=>?_) T;refine AB λD=>?_;obtain⟨oL,_,_,hoL,_⟩:=id hn;refine D ?_;try clear D
    refine h _ ⟨I.ok,I.os,I.jx,⟨λb o e n L Y=>?_,λb o e n L Y=>?_,I.ah.bh,λb o e Y=>?_,I.ah.abq,I.ah.yy,I.ah.abp⟩,⟨_,hn',λj y v' J B e3=>?_⟩,λy c e=>?_,I.bh,I.mf,λp hp=>?_,U ⟨oL,hoL,I.bh⟩ F,by simpa using I.dh⟩ ⟨_,F,.inl rfl⟩;.exact(F.2 b (ET (ES (CP e) I.ok.wx))).trans (I.ah.ab b o e n L Y)
    . obtain⟨sl,J⟩:=I.ah.zv b o e n L Y;exact⟨sl,(F.2 b (ET (ES (CP e) I.ok.wx))).trans J⟩
    . obtain⟨o',J⟩:=I.ah.rl b o e Y;exact⟨o',(F.2 b (ET (ES (CP e) I.ok.wx))).trans J⟩
    . by_cases O:j=i
      . subst O;rw[hi]at J;cases J;rw[sN C]at B;cases B;exact⟨u,r,.inl ⟨G,by simp⟩⟩
      . rw[sL (Hv O)]at B;refine AB λD=>?_;obtain⟨u',r',q⟩:=hl j y v' J B e3;refine D ?_;try clear D
        refine⟨u',r',?_⟩;rcases q with⟨k,e⟩|⟨k,c,e,z⟩
        . refine .inl ⟨k,?_⟩;have:y≠x:=λe=>O (Wk hN J (e▸hi));simp[this,e]
        .exact .inr ⟨k,c,e,z.sameBut F (K y c e)⟩
    . obtain⟨w',z⟩:=I.uz y c e;exact⟨w',z.sameBut F (K y c e)⟩
    . refine AB λD=>?_;obtain⟨e,n,w,nf,d⟩:=I.zu p hp;refine D ?_;try clear D
      exact⟨(F.2 p.1 w).trans e,n,w,nf,d⟩
  . have N:X.fn x=AH:=by
      rcases hf with z|z;.exact z
      .rw[z]at G;cases G
    refine AB λD=>?_;obtain⟨c,W⟩:=I.ok.ake x (.inl G);obtain⟨w',z⟩:=I.uz x c W;refine D ?_;try clear D
    refine wpAny_storeName_cell I.ok.lh G W z (λP R F=>?_);refine AB λD=>?_;obtain⟨oc,f,g⟩:=id z;refine D ?_;try clear D
    refine h {s with heap:=P} ⟨I.ok,I.os,I.jx,⟨λb o e n L Y=>?_,λb o e n L Y=>?_,I.ah.bh,λb o e Y=>?_,I.ah.abq,I.ah.yy,I.ah.abp⟩,⟨m,hn.sameBut F (Hv (K x c W)),λj y v' J B e3=>?_⟩,λy t e=>?_,I.bh,I.mf,λp hp=>?_,U ⟨oc,f,I.mf x c W⟩ F,by simpa using I.dh⟩ ⟨c,F,.inr W⟩;.exact(F.2 b (ET (ES (CP e) (I.ok.ajy x c N W)))).trans (I.ah.ab b o e n L Y)
    . obtain⟨sl,J⟩:=I.ah.zv b o e n L Y;exact⟨sl,(F.2 b (ET (ES (CP e) (I.ok.ajy x c N W)))).trans J⟩
    . obtain⟨o',J⟩:=I.ah.rl b o e Y;exact⟨o',(F.2 b (ET (ES (CP e) (I.ok.ajy x c N W)))).trans J⟩
    . by_cases O:j=i
      . subst O;rw[hi]at J;cases J;rw[sN C]at B;cases B;exact⟨u,r,.inr ⟨.inl G,c,W,R⟩⟩
      . rw[sL (Hv O)]at B;refine AB λD=>?_;obtain⟨u',r',q⟩:=hl j y v' J B e3;refine D ?_;try clear D
        refine⟨u',r',?_⟩;rcases q with q|⟨k,t,e,z'⟩;.exact .inl q
        . refine .inr ⟨k,t,e,z'.sameBut F ?_⟩;rintro rfl;exact O (Wk hN J (I.ok.ait _ _ _ e W▸hi))
    . by_cases S:t=c;.subst S;exact⟨_,R⟩
      . obtain⟨w2,z2⟩:=I.uz y t e;exact⟨w2,z2.sameBut F S⟩
    . refine AB λD=>?_;obtain⟨e,n,w,nf,d⟩:=I.zu p hp;refine D ?_;try clear D
      refine⟨(F.2 p.1 ?_).trans e,n,w,nf,d⟩;intro q;rw[q,f]at e;have q':oc=p.2:=CM e;exact d w' (by rw[<-q'];exact g)
theorem XS{X:BY}{Y:List (Option AE)}(I:AZ X D Y H s)(J:X.N.Nodup)(hi:X.N[i]?=AA x)(W:IP X.ae.scope x)(r:BQ v u)(h:∀s',AZ X D (Y.set i (AA v)) H s'->Q () s')(U:X.fn x=AH\/X.ae.scope.names.lookup x=AA .local:=by first|exact .inl rfl|exact .inr rfl|assumption):Av M A (storeName X.ae x u) Q E s:=XT I J hi W r (λs' F _=>h s' F) U
theorem AZ.acw{X:BY}{s:AY}{s':AY}(I:AZ X pins σ H s)(ho:s'.os=s.os)(u:FR (Ew X.cb) ch H H' s.heap s'.heap)(hok:Ci X.af X.w H' s'.heap)(hg:KN s'.gens)(hch:∀b∈ch,(b∈X.ex\/X.s₀.heap.objs.size<=b)/\b≠X.ae.locals/\(∀x c,X.ae.cells.lookup x=AA c->c≠b)/\∀p∈X.pn++pins,p.1≠b):AZ X pins σ H' s':=by
 refine AB λnG=>?_;obtain⟨h',g',d',t',o'⟩:=s';refine nG ?_;try clear nG
 have e:o'=s.os:=ho;subst e;exact I.ajz (g':=g') (t':=t') (d':=d') u hok hg hch
noncomputable abbrev F3:=AK->Option AD->AI->Prop
noncomputable abbrev Am:=List (Option AE)
noncomputable abbrev Bn:=AE->AI->Prop
noncomputable abbrev A1:=Am->AI->Bn->Prop
noncomputable abbrev C6:=Am->AI->(Bool->AI->Prop)->Prop
noncomputable abbrev EF:=Am->AI->(List AE->AI->Prop)->Prop
structure Fz where
 nx:Am->AI->Prop
 rt:Bn
 bk:Am->AI->Prop:=λ_ _=>False
 ct:Am->AI->Prop:=λ_ _=>False
noncomputable abbrev Cf:=Fz->Am->AI->Prop
noncomputable def ED(X:BY)(D:List (AD×A6))(J:Am)(Q:Bn)(u:AK)(s':AY):Prop:=∃v F,AZ X D J F s'/\BQ v u/\Q v F
noncomputable def Q2(X:BY)(D:List (AD×A6))(J:Am)(Q:Bool->AI->Prop)(b:Bool)(s':AY):Prop:=∃F,AZ X D J F s'/\Q b F
noncomputable def fR(X:BY)(D:List (AD×A6))(U:Am)(Q:List AE->AI->Prop)(us:List AK)(s':AY):Prop:=∃J F,AZ X D U F s'/\BJ J us/\Q J F
noncomputable def Nm(X:BY)(J:List (AD×A6))(D:Fz)(f:Flow)(s':AY):Prop:=match f with|.next=>∃F U,AZ X J F U s'/\D.nx F U|.brk=>∃F U,AZ X J F U s'/\D.bk F U|.cont=>∃F U,AZ X J F U s'/\D.ct F U|.ret u=>∃v F U,AZ X J F U s'/\BQ v u/\D.rt v U
noncomputable def An(X:BY)(e:A5)(t:A1):Prop:=∀(D:List (AD×A6))(s:AY)(F:Am)(H:AI)(Q:Bn),AZ X D F H s->t F H Q->Av (Ao X.af X.w) X.A (BI e X.ae) (ED X D F Q) X.xe s
noncomputable def F1(X:BY)(e:A5)(t:C6):Prop:=∀(D:List (AD×A6))(s:AY)(F:Am)(H:AI)(Q:Bool->AI->Prop),AZ X D F H s->t F H Q->Av (Ao X.af X.w) X.A (SN e X.ae (BI e X.ae)) (Q2 X D F Q) X.xe s
noncomputable def J8(X:BY)(e:A5)(t:C6):Prop:=∀(F:DH AK)(D:List (AD×A6))(s:AY)(J:Am)(H:AI)(Q:Bool->AI->Prop),AZ X D J H s->t J H Q->Av (Ao X.af X.w) X.A (SN e X.ae F) (Q2 X D J Q) X.xe s
theorem Nk(h:J8 X e t):F1 X e t:=h _
noncomputable def Ec(X:BY)(U:List A5)(t:EF):Prop:=∀(F:Ca)(D:List (AD×A6))(s:AY)(J:Am)(H:AI)(Q:List AE->AI->Prop),AZ X D J H s->t J H Q->Av (Ao X.af X.w) X.A (spliced (EV F (Bv U X.ae))) (fR X D J Q) X.xe s
noncomputable def D6(X:BY)(st:A3)(t:Cf):Prop:=∀(F:List (AD×A6))(s:AY)(J:Am)(H:AI)(D:Fz),AZ X F J H s->t D J H->Av (Ao X.af X.w) X.A (exec st X.ae) (Nm X F D) X.xe s
noncomputable def F0(X:BY)(st:List A3)(t:Cf):Prop:=∀(F:List (AD×A6))(s:AY)(J:Am)(H:AI)(D:Fz),AZ X F J H s->t D J H->Av (Ao X.af X.w) X.A (execs st X.ae) (Nm X F D) X.xe s
theorem Ay{F:Type}{t:DH F}{Q D:F->AY->Prop}{M:LG}{A:Cy}{E:AK->AY->Prop}{s:AY}(h:Av M A t Q E s)(J:∀a s,Q a s->D a s):Av M A t D E s:=Ge h J λ_ _ x=>x
noncomputable def Xf(i:Nat):A1:=λD H Q=>∃v,D[i]?=AA (AA v)/\Q v H
noncomputable def K6(v:AE):A1:=λ_ H Q=>Q v H
theorem W3{X:BY}{x:AG}(q:X.N[i]?=AA x)(C:Nt X.ae.scope x)(V:(x==("__debug__":AG))=AQ:=by decide)(U:(x==("__classdict__":AG))=AQ:=by decide):An X (.Name x W) (Xf i):=by
  intro J s E H Q I h;refine AB λZ=>?_;obtain⟨v,e,h⟩:=h;obtain⟨m,B,z⟩:=I.ads;obtain⟨u,r,l⟩:=z i x v q e C;refine Z ?_;try clear Z
  have fin:ED X J E Q u s:=⟨v,H,I,r,h⟩;rcases l with⟨F,A⟩|⟨F,c,Y,D⟩;.exact qP (wpAny_loadName_local I.ok.lh F B A fin) V
  . rcases F with F|F;.exact qP (wpAny_loadName_cell I.ok.lh F Y D fin) V
    .exact qP (wpAny_loadName_free I.ok.lh F Y D fin U) V
theorem AR:An X (.Constant (.int i) j D) (K6 (.int i)):=λ_ _ _ H _ I h=>wpAny_Constant_int ⟨.int i,H,I.fw _,⟨_,rfl⟩,h⟩
theorem KG:An X (.Constant (.bool b) j D) (K6 (.bl b)):=λ_ _ _ H _ I h=>Constant_bool ⟨.bl b,H,I,rfl,h⟩
theorem MK:An X (.Constant .none j D) (K6 .non):=λ_ _ _ H _ I h=>Constant_none ⟨.non,H,I,rfl,h⟩
theorem DB:An X (.Constant (.str x) j D) (K6 (.str x)):=λ_ _ _ H _ I h=>Calls.Constant_str ⟨.str x,H,I.fw _,⟨_,rfl⟩,h⟩
noncomputable def Eb(X:BY)(x:AG):Prop:=X.ae.kindOf x=AA .globalImplicit
theorem L8{X:BY}{x:AG}(I:AZ X D W H s)(U:Eb X x)(V:X.mg x=AA u)(h:Q u s)(J:(x==("__debug__":AG))=AQ:=by decide):Av (Ao X.af X.w) X.A (BI (.Name x F) X.ae) Q E s:=uB I.ok.lh U (Calls.loadGlobal_global (by rw[I.ok.aba];exact I.aah.aba.keeps I.bk) V h) J
theorem G7{X:BY}{x:AG}(I:AZ X D A H s)(Y:Eb X x)(Z:X.mg x=AF)(z:Mj x=AA u)(h:Q u s)(q:x≠"__name__":=by decide)(W:(x==("__debug__":AG))=AQ:=by decide):Av (Ao X.af X.w) X.A (BI (.Name x F) X.ae) Q E s:=by
 refine AB λJ=>?_;obtain⟨B,U,V⟩:=I.aah.ajr;refine J ?_;try clear J
 exact uB I.ok.lh Y (Calls.loadGlobal_builtin (by rw[I.ok.aba];exact I.aah.aba.keeps I.bk) Z (by rw[I.ok.ajr];exact U.keeps I.bk) ((V x q).trans z) h) W
theorem OB{X:BY}{x:AG}(J:Eb X x)(U:X.mg x=AA u)(r:BQ v u)(F:(x==("__debug__":AG))=AQ:=by decide):An X (.Name x D) (K6 v):=λ_ _ _ H _ I h=>L8 I J U ⟨v,H,I,r,h⟩ F
theorem Wy{X:BY}{x:AG}(J:Eb X x)(U:X.mg x=AF)(Y:Mj x=AA u)(r:BQ v u)(W:x≠"__name__":=by decide)(F:(x==("__debug__":AG))=AQ:=by decide):An X (.Name x D) (K6 v):=λ_ _ _ H _ I h=>G7 I J U Y ⟨v,H,I,r,h⟩ W F
noncomputable def mC(t:A1):C6:=λF H Q=>t F H λx D=>∃c,x=.bl c/\Q c D
theorem KH{X:BY}{e:A5}(h:An X e t)(W:∀D,SN e X.ae D=(do let v<-D;qL e.pos;qI [v] (truthy v)):=by intro _;rfl):F1 X e (mC t):=by
 intro F s Z H Q I hw;refine isTrue_plain (Ay (h F s Z H _ I hw) λv s1⟨x,U,V,r1,Y⟩=>?_) (W _);refine AB λJ=>?_;obtain⟨d,rfl,q⟩:=Y;cases r1;refine J ?_;try clear J
 exact Mr ⟨U,V,q⟩
noncomputable def l9(t u:C6):C6:=λF H Q=>t F H λc D=>if c=AH then u F D Q else Q AQ D
noncomputable def mV(t u:C6):C6:=λF H Q=>t F H λc D=>if c=AH then Q AH D else u F D Q
noncomputable def mT(t:C6):C6:=λF H Q=>t F H λc D=>Q (!c) D
theorem W8(F:F1 X a U):J8 X (.BoolOp .And [a] J) U:=by intro W D s V H Q I h;refine isTrue_and (Ay (F D s V H Q I h) λc s1 e=>?_);cases c with|true=>exact isTrue_and_nil e|false=>exact e
theorem W9(F:F1 X a U):J8 X (.BoolOp .Or [a] J) U:=by intro W D s V H Q I h;refine isTrue_or (Ay (F D s V H Q I h) λc s1 e=>?_);cases c with|false=>exact isTrue_or_nil e|true=>exact e
theorem W7(q:F1 X a A)(z:J8 X (.BoolOp .And (b::F) J) U):J8 X (.BoolOp .And (a::b::F) J) (l9 A U):=by intro B D s Z H Q I h;refine isTrue_and (Ay (q D s Z H _ I h) λc s1⟨V,W,Y⟩=>?_);cases c with|true=>exact z B D s1 Z V Q W Y|false=>exact⟨V,W,Y⟩
theorem OF(q:F1 X a A)(z:J8 X (.BoolOp .Or (b::F) J) U):J8 X (.BoolOp .Or (a::b::F) J) (mV A U):=by intro B D s Z H Q I h;refine isTrue_or (Ay (q D s Z H _ I h) λc s1⟨V,W,Y⟩=>?_);cases c with|true=>exact⟨V,W,Y⟩|false=>exact z B D s1 Z V Q W Y
theorem OE(J:F1 X a V):F1 X (.UnaryOp .Not a U) (mT V):=by intro D s W H Q I h;exact isTrue_not (J D s W H (λc F=>Q (!c) F) I h)
noncomputable def mB(J U:A1):A1:=λF H Q=>J F H λx D=>∃c,x=.bl c/\if c=AH then U F D Q else Q (.bl AQ) D
noncomputable def mU(F:A1):A1:=λJ H Q=>F J H λx D=>∃c,x=.bl c/\Q (.bl (!c)) D
theorem Rc(h:An X a t):An X (.BoolOp op [a] F) t:=λD s J H Q I hw=>BoolOp_one (h D s J H Q I hw)
theorem Ra(q:An X a A)(z:An X (.BoolOp .And (b::F) U) B):An X (.BoolOp .And (a::b::F) U) (mB A B):=by
 intro D s Z H Q I h;refine BoolOp_and (Ay (q D s Z H _ I h) λv s1⟨x,V,W,r1,J⟩=>?_);refine AB λY=>?_;obtain⟨c,rfl,J⟩:=J;cases r1;refine Y ?_;try clear Y
 refine Mr ?_;cases c with |true=>exact z D s1 Z V Q W J|false=>exact⟨.bl AQ,V,W,rfl,J⟩
theorem kH(W:An X a Z):An X (.UnaryOp .Not a Y) (mU Z):=by
 intro D s q H Q I h;refine UnaryOp_ (Ay (W D s q H _ I h) λv s1⟨x,U,V,r1,F⟩=>?_);refine AB λJ=>?_;obtain⟨c,rfl,F⟩:=F;cases r1;refine J ?_;try clear J
 exact not_of (Mr ⟨.bl (!c),U,V,rfl,F⟩)
noncomputable def mM(t:C6)(J U:A1):A1:=λD H Q=>t D H λc F=>if c=AH then J D F Q else U D F Q
theorem OC(Z:F1 X c z)(W:An X a A)(Y:An X b B):An X (.IfExp c a b q) (mM z A B):=by intro D s F H Q I h;refine wpAny_IfExp (Ay (Z D s F H _ I h) λd s1⟨J,U,V⟩=>?_);cases d with|true=>exact W D s1 F J Q U V|false=>exact Y D s1 F J Q U V
noncomputable def Bc(K:Ar)(H:AI)(a:AD)(xs:List AE):Prop:=FC H a (.lst xs)\/∃(o:A6)(D:Array AK)(n:Nat),K.lookup a=AA o/\o.cls=.type "list"/\o.dict=AF/\o.data=.seq D n/\D.size<=Aw/\BJ xs D.toList
noncomputable def B8(K:Ar)(H:AI)(a:AD)(xs:List AE):Prop:=FC H a (.tup xs)\/∃(o:A6)(D:Array AK)(n:Nat),K.lookup a=AA o/\o.cls=.type "tuple"/\o.data=.seq D n/\D.size<=Aw/\BJ xs D.toList
noncomputable def gI:AK->Option AE|.none=>AA .non|.bool b=>AA (.bl b)|.int i _=>AA (.int i)|.str x _=>AA (.str x)|.bytes b _=>AA (.byt b)|.float b _=>AA (.flt b)|.ref a=>AA (.ref a)|.type n=>AA (.ty n)|_=>AF
theorem BQ.aly(r:BQ x u):gI u=AA x:=by cases x with|non=>cases r;rfl|bl _=>cases r;rfl|int _=>obtain⟨t,rfl⟩:=r;rfl|str _=>obtain⟨t,rfl⟩:=r;rfl|byt _=>obtain⟨t,rfl⟩:=r;rfl|flt _=>obtain⟨t,rfl⟩:=r;rfl|ref _=>cases r;rfl|ty _=>cases r;rfl
theorem BQ.ait(r:BQ x u)(q:BQ y u):x=y:=CM (r.aly.symm.trans q.aly)
theorem BJ.ait:∀{xs ys:List AE}{us:List AK},BJ xs us->BJ ys us->xs=ys|_,_,_,.nil,.nil=>rfl|_,_,_,.cons r t,.cons D F=>by rw[r.ait D,BJ.ait t F]
theorem Ai{K:Ar}(h:H a=AA (.lst xs)):Bc K H a xs:=.inl (.inl h)
theorem As{K:Ar}(h:H a=AA (.tup xs)):B8 K H a xs:=.inl (.inl h)
theorem AZ.fk{X:BY}{s:AY}{xs:List AE}(I:AZ X F Z H s)(h:Bc X.K H a xs):∃its:List AK,BJ xs its/\PlainL s.heap a its.toArray/\xs.length<=Aw:=by
  rcases h with h|⟨o,its,n,V,J,U,W,Y,r⟩
  . refine AB λD=>?_;obtain⟨z,its,n,r,e⟩:=h.ok I.bx;refine D ?_;try clear D
    exact⟨its,r,⟨_,n,e,rfl,rfl,rfl⟩,z⟩
  . refine⟨its.toList,r,⟨o,n,I.wj a o V,J,U,by simpa using W⟩,?_⟩;have e:=r.ai;simp only[IF]at e;(first|lia|omega)
theorem AZ.dy{X:BY}{s:AY}{xs:List AE}(I:AZ X F Y H s)(h:B8 X.K H a xs):∃its:List AK,BJ xs its/\R6 s.heap a its.toArray/\xs.length<=Aw:=by
  rcases h with h|⟨o,its,n,U,J,V,W,r⟩
  . refine AB λD=>?_;obtain⟨z,its,r,p⟩:=h.ok I.bx;refine D ?_;try clear D
    exact⟨its,r,p,z⟩
  . refine⟨its.toList,r,⟨o,I.wj a o U,J,n,by simpa using V⟩,?_⟩;have e:=r.ai;simp only[IF]at e;(first|lia|omega)
theorem AZ.vd{X:BY}(I:AZ X W A H s)(h:Bc X.K H a xs)(h':Bc X.K H a ys):xs=ys:=by
 refine AB λV=>?_;obtain⟨F,r,⟨o,n,e,_,_,d⟩,_⟩:=I.fk h;obtain⟨D,Z,⟨z,q,U,_,_,J⟩,_⟩:=I.fk h';refine V ?_;try clear V
 rw[e]at U;cases U;rw[d]at J;injection J with Y _;have:F=D:=by simpa using yZ Array.toList Y
 subst this;exact r.ait Z
noncomputable abbrev BY.zx(X:BY)(E:AK->AY->Prop):BY:={X with xe:=E}
noncomputable abbrev BY.ala(X:BY):BY:=X.zx λ_ _=>False
theorem BY.Ok.zx{X:BY}(D:X.Ok)(E:AK->AY->Prop):(X.zx E).Ok:=⟨D.aah,D.lh,D.aba,D.ajr,D.wx,D.ait,D.ake,D.ajy,D.hd,D.qj,D.alc,D.alf,D.bs,D.ahs,D.ahk,D.agu,D.vb,D.ais⟩
theorem BY.Ok.qo{X:BY}(D:(X.zx E).Ok):X.Ok:=⟨D.aah,D.lh,D.aba,D.ajr,D.wx,D.ait,D.ake,D.ajy,D.hd,D.qj,D.alc,D.alf,D.bs,D.ahs,D.ahk,D.agu,D.vb,D.ais⟩
theorem AZ.zx{X:BY}(I:AZ X D F H s)(E:AK->AY->Prop):AZ (X.zx E) D F H s:=⟨I.ok.zx E,I.os,I.jx,I.ah,I.ads,I.uz,I.bh,I.mf,I.zu,I.bx,I.dh⟩
theorem AZ.qo{X:BY}(I:AZ (X.zx E) D F H s):AZ X D F H s:=⟨I.ok.qo,I.os,I.jx,I.ah,I.ads,I.uz,I.bh,I.mf,I.zu,I.bx,I.dh⟩
theorem Nm.qo{X:BY}(h:Nm (X.zx E) U D f s'):Nm X U D f s':=by cases f with|next=>obtain⟨F,J,I,q⟩:=h;exact⟨F,J,I.qo,q⟩|brk=>obtain⟨F,J,I,q⟩:=h;exact⟨F,J,I.qo,q⟩|cont=>obtain⟨F,J,I,q⟩:=h;exact⟨F,J,I.qo,q⟩|ret u=>obtain⟨v,F,J,I,r,q⟩:=h;exact⟨v,F,J,I.qo,r,q⟩
theorem F0.ala{X:BY}{st:List A3}(h:F0 X.ala st t):F0 X st t:=λF s J H D I hw=>Ge (h F s J H D (I.zx _) hw) (λ_ _ q=>q.qo) λ_ _ z=>Ft z
noncomputable def mR:Cf:=λD F H=>D.nx F H
noncomputable def OJ(t u:Cf):Cf:=λD F H=>t {D with nx:=u D} F H
theorem C1:F0 X [] mR:=λ_ _ D H _ I h=>Yr ⟨D,H,I,h⟩
theorem Af{st:A3}(Z:D6 X st t)(z:F0 X J u):F0 X (st::J) (OJ t u):=by intro F s A H D I h;refine wG (Ay (Z F s A H {D with nx:=u D} I h) λf s1 q=>?_);cases f with
 |next=>
  refine AB λV=>?_;obtain⟨U,W,Y,q⟩:=q;refine V ?_;try clear V
  exact z F s1 U W D Y q|ret v=>exact q|brk=>exact q|cont=>exact q
theorem Ak{st:A3}(J:D6 X st t):F0 X [st] t:=by intro F s U H D I h;refine wG (Ay (J F s U H D I h) λf s1 q=>?_);cases f with|next=>exact Yr q|ret v=>exact q|brk=>exact q|cont=>exact q
theorem AZ.akq{X:BY}(I:AZ X D F H s):interactive X.ae=AQ:=by simp[interactive,I.ok.lh]
noncomputable def mJ(U:A1):Cf:=λD F H=>U F H λ_ J=>D.nx F J
theorem Fn{X:BY}{J:Ca}(Y:An X e z)(Z:LQ e AF J.line X.ae=BZ AQ:=by rfl):D6 X (.Expr e J) (mJ z):=by intro F s U H D I h;exact wpAny_Expr_any (Ay (Y F s U H _ I h) λv s1⟨x,V,W,r1,q⟩=>⟨U,V,W,q⟩) I.akq Z
noncomputable def mZ(F:A1):Cf:=λD J H=>F J H D.rt
theorem BE(W:An X e q):D6 X (.Return (AA e) Y) (mZ q):=by intro F s J H D I h;exact wpAny_Return_some (Ay (W F s J H _ I h) λv s1⟨x,U,V,r1,Z⟩=>⟨x,J,U,V,r1,Z⟩)
noncomputable def mN(c:C6)(t u:Cf):Cf:=λD F H=>c F H λb J=>if b=AH then t D F J else u D F J
theorem CT(z:F1 X c Y)(Z:F0 X a t)(q:F0 X b u):D6 X (.If c a b A) (mN Y t u):=by intro F s J H D I h;refine wpAny_If (Ay (z F s J H _ I h) λd s1⟨U,V,W⟩=>?_);cases d with|true=>exact Z F s1 J U D V W|false=>exact q F s1 J U D V W
noncomputable abbrev Du:=AE->Am->AI->(Am->AI->Prop)->Prop
noncomputable abbrev J9:=List AE->Am->AI->(Am->AI->Prop)->Prop
noncomputable def JE(X:BY)(D:A5)(t:Du):Prop:=∀(F:List (AD×A6))(s:AY)(W:Am)(H:AI)(v:AE)(u:AK)(Q:Am->AI->Prop),AZ X F W H s->BQ v u->t v W H Q->Av (Ao X.af X.w) X.A (assign D X.ae u) (λ_ Y=>∃J U,AZ X F J U Y/\Q J U) X.xe s
noncomputable def Nh(X:BY)(q:List A5)(t:J9):Prop:=∀(D:List (AD×A6))(s:AY)(Y:Am)(H:AI)(W:List AE)(U:List AK)(Q:Am->AI->Prop),AZ X D Y H s->BJ W U->t W Y H Q->Av (Ao X.af X.w) X.A (assignInOrder ((SK q X.ae).map (·.2)) U) (λ_ Z=>∃F J,AZ X D F J Z/\Q F J) X.xe s
noncomputable def F4(i:Nat):Du:=λv D H Q=>Q (D.set i (AA v)) H
theorem FE{X:BY}(J:X.N.Nodup)(hi:X.N[i]?=AA x)(V:IP X.ae.scope x)(U:X.fn x=AH\/X.ae.scope.names.lookup x=AA .local:=by first|exact .inl rfl|exact .inr rfl|assumption):JE X (.Name x W) (F4 i):=by intro D s Z H v u Q I r h;exact wD (XS I J hi V r (λY F=>⟨_,H,F,h⟩) U)
noncomputable def RC:J9:=λD F H Q=>D=[]/\Q F H
noncomputable def L6(t:Du)(u:J9):J9:=λJ U H Q=>∃v r,J=v::r/\t v U H λD F=>u r D F Q
theorem JR:Nh X [] RC:=by intro D s F H U J Q I r h;obtain⟨e,h⟩:=h;subst e;cases r;exact assignInOrder_nil ⟨F,H,I,h⟩
theorem FU{X:BY}(Z:JE X e t)(q:Nh X F u)(z:(SK (e::F) X.ae).map (·.2)=assign e X.ae::(SK F X.ae).map (·.2):=by rfl):Nh X (e::F) (L6 t u):=by
 intro D s C H K E Q I r h;refine AB λU=>?_;obtain⟨v,G,Y,h⟩:=h;refine U ?_;try clear U
 subst Y;cases r with|cons r B=> rw[z];refine assignInOrder_cons (Ay (Z D s C H _ _ _ I r h) λ_ s1⟨J,V,W,A⟩=>?_);exact q D s1 J V _ _ Q W B A
noncomputable def RD(K:Ar)(n:Nat)(t:J9):Du:=λv F H Q=>∃a D,v=.ref a/\B8 K H a D/\D.length=n/\t D F H Q
theorem JQ{X:BY}(z:X.ic=AH)(h:Nh X J t)(B:(SK J X.ae).length=n:=by rfl)(U:(SK J X.ae).findIdx? (·.1)=AF:=by rfl):JE X (.Tuple J k L) (RD X.K n t):=by
 intro D s W H v u Q I r hw;refine AB λF=>?_;obtain⟨a,M,Z,C,A,hw⟩:=hw;refine F ?_;try clear F
 subst Z;refine AB λF=>?_;cases r;obtain⟨K,V,E,N⟩:=I.dy C;refine F ?_;try clear F
 refine assign_Tuple_tuple (I.ok.hd z) E (by simp[B,<-A,V.ai]) U λq G=>?_;have Y:AZ X D W H {s with heap:=q}:=I.jf (t':=s.toks) λb o e=>G b o (ET (CP e)) e;exact h D _ W H M _ Q Y (by simpa using V) hw
noncomputable def MQ(U:A1)(g:Du):Cf:=λD F H=>U F H λx J=>g x F J D.nx
theorem Bg{X:BY}{U:Ca}(q:X.N.Nodup)(hi:X.N[i]?=AA x)(C:IP X.ae.scope x)(z:An X e V)(B:LQ e (AA (.Name x F)) U.line X.ae=BZ AQ:=by rfl)(A:X.fn x=AH\/X.ae.scope.names.lookup x=AA .local:=by first|exact .inl rfl|exact .inr rfl|assumption):D6 X (.Assign [.Name x F] e U) (MQ V (F4 i)):=by intro J s G H D I h;refine wpAny_Assign_Name (Ay (z J s G H _ I h) λv s1⟨y,W,Y,r1,E⟩=>?_) B;exact XS Y q hi C r1 (λs2 Z=>⟨_,W,Z,E⟩) A
noncomputable def Xg(c:C6)(Z:Cf):Cf:=λD F H=>∃W:Nat->Am->AI->Prop,(∃m,W m F H)/\∀m F H,W m F H->c F H λb V=>if b=AH then∃N:Am->AI->Prop,(∀J U,N J U->∃Y,Y<m/\W Y J U)/\Z {D with nx:=N,ct:=N,bk:=D.nx} F V else D.nx F V
theorem kW{X:BY}(Q:PassesOwn (Ao X.af X.w) X.A X.ae X.xe)(e:F1 X c S)(d:F0 X body R):D6 X (.While c body [] i) (Xg S R):=by
 intro J s m H D I h;refine AB λF=>?_;obtain⟨W,⟨g,k⟩,turn⟩:=h;refine F ?_;try clear F
 refine wpAny_While (codeAny_whileLoop (λn j=>∃Z K,AZ X J Z K j/\W n Z K) ?_ g ⟨m,H,I,k⟩);intro n s1 a;refine AB λF=>?_;obtain⟨V,L,T,l⟩:=a;refine F ?_;try clear F
 refine Mp Q (Ay (e J s1 V L _ T (turn n V L l)) λb s2⟨M,O,q⟩=>?_);cases b with
 |true=>
  refine AB λF=>?_;obtain⟨N,P,q⟩:=q;refine F ?_;try clear F
  rw[yY rfl];refine Mp Q (Ay (d J s2 V M _ O q) λf s3 z=>?_);cases f with
  |next=>
   refine AB λF=>?_;obtain⟨U,Y,A,E⟩:=z;obtain⟨C,B,G⟩:=P U Y E;refine F ?_;try clear F
   exact⟨C,B,U,Y,A,G⟩|cont=>
   refine AB λF=>?_;obtain⟨U,Y,A,E⟩:=z;obtain⟨C,B,G⟩:=P U Y E;refine F ?_;try clear F
   exact⟨C,B,U,Y,A,G⟩|brk=>exact z|ret v=>exact z
 |false=> rw[yX C4];exact Yr ⟨V,M,O,q⟩
structure FQ where
 go:Nat->AI->Prop
 aht:Nat->AI->AE->AI->Prop
 zw:Nat->AI->Prop
noncomputable def G4(X:BY)(D:List (AD×A6))(H:AI)(b:AD):Prop:=H b=AF/\b≠X.ae.locals/\b∉X.fs/\(b∈X.ex\/X.s₀.heap.objs.size<=b)/\(∀x c,X.ae.cells.lookup x=AA c->c≠b)/\∀p∈X.pn++D,p.1≠b
theorem AZ.zp{s:AY}(I:AZ X D V H s)(F:s.heap.objs.size<=b)(J:H' b=AF):G4 X D H' b:=by
 refine⟨J,X8 (ES I.lt F),I.alm F,.inr (CL I.sz F),λx c e z=>?_,λp U z=>?_⟩;. obtain⟨v,q⟩:=I.uz x c e;exact absurd (ES q.lt (by rw[z];exact F)) (HI _)
 .exact absurd (ES (CP (I.zu p U).1) (by rw[z];exact F)) (HI _)
structure JG(P:CQ)(w:Bq)(K:Ar)(tg:A5)(J:FQ)(fp:List AD)(it:AD)(tn:Nat->BG->Prop):Prop where
 ajh:it∈fp
 cn:∀i h,tn i h->∀b∈fp,∃o,h.get? b=AA o/\∀v,o.data≠.cell v
 ab:∀i h h',tn i h->(∀b∈fp,∀o,h.get? b=AA o->h'.get? b=AA o)->tn i h'
 abb:∀(X:BY),X.af=P->X.w=w->X.K=K->X.ic=AH->∀(i:Nat)(pins:List (AD×A6))(s:AY)(σ:Am)(H:AI)(E:AK->AY->Prop),AZ X pins σ H s->(∀b∈fp,G4 X pins H b)->tn i s.heap->J.go i H->Av (Ao P w) X.A (pyNext (.ref it)) (λr s1=>∃u,r=AA u/\Av (Ao P w) X.A (Yk tg (.ref it) u) (λ_ s2=>∃x H',AZ X pins σ H' s2/\BQ x u/\J.aht i H x H'/\tn (i+1) s2.heap/\∀b∈fp,H' b=AF) E s1) E s
 aaz:∀(X:BY),X.af=P->X.w=w->X.K=K->X.ic=AH->∀(i:Nat)(pins:List (AD×A6))(s:AY)(σ:Am)(H:AI)(E:AK->AY->Prop),AZ X pins σ H s->(∀b∈fp,G4 X pins H b)->tn i s.heap->J.zw i H->Av (Ao P w) X.A (pyNext (.ref it)) (λr s1=>r=AF/\AZ X pins σ H s1) E s
 adk:∀(A:Cy)(i:Nat)(s:AY)(Q:AK->AY->Prop)(E:AK->AY->Prop),tn i s.heap->Q (.ref it) s->Av (Ao P w) A (Ym (.ref it)) Q E s
noncomputable abbrev Ed:=Am->AI->(FQ->AI->Prop)->Prop
noncomputable def Qy(X:BY)(D:List (AD×A6))(q:Am)(Z:A5)(R:FQ->AI->Prop)(U:AK)(s2:AY):Prop:=∃(W:AD)(V:List AD)(Y:Nat->BG->Prop)(J:FQ)(F:AI),U=.ref W/\AZ X D q F s2/\JG X.af X.w X.K Z J V W Y/\Y 0 s2.heap/\(∀b∈V,G4 X D F b)/\R J F
noncomputable def Eu(X:BY)(U F:A5)(wi:Ed):Prop:=∀(D:List (AD×A6))(s:AY)(J:Am)(H:AI)(R:FQ->AI->Prop),AZ X D J H s->wi J H R->Av (Ao X.af X.w) X.A (BI F X.ae) (λv s1=>Av (Ao X.af X.w) X.A (Ym v) (Qy X D J U R) X.xe s1) X.xe s
theorem Nz{s:AY}{o:A6}(W:s.heap.get? it=AA o)(J:o.cls=.type n)(U:o.data=.fields vs)(V:["enumerate","zip","dict_itemiterator","dict_reverseitemiterator","odict_iterator","itertools.zip_longest","itertools.pairwise"].contains n=AQ)(D:Q () s):Av M A (Yk F (.ref it) u) Q E s:=by unfold Yk;cases F<;>first|exact Cg D|(cases u<;>first|exact Cg D| (refine A4 (wpAny_load W ?_);rw[J,U];show Av M A (if(["enumerate","zip","dict_itemiterator","dict_reverseitemiterator","odict_iterator","itertools.zip_longest","itertools.pairwise"].contains n&&vs[0]?==AA (rawInt _))=AH then _ else _) Q E s;rw[yX (by intro h;rw[V,rL]at h;cases h)];exact Cg D))
noncomputable def J5(K:Ar)(a:AD):FQ:=⟨λi H=>∃D x,Bc K H a D/\D[i]?=AA x,λi H x F=>F=H/\∀D,Bc K H a D->D[i]?=AA x,λi H=>∃D,Bc K H a D/\D.length<=i⟩
noncomputable def J6(lo:Int)(n:Nat):FQ:=⟨λi _=>i<n,λi H x D=>D=H/\x=.int (lo+i),λi _=>n<=i⟩
theorem nH{K:Ar}(a it:AD):JG P w K y (J5 K a) [it] it (λi h=>h.IsListIter it a i)where
 ajh:=by simp
 cn:=λi h F b U=>by
  have e:b=it:=by simpa using U
  subst e;refine AB λD=>?_;obtain⟨o,e,c,d⟩:=F;refine D ?_;try clear D
  exact⟨o,e,λv z=>by rw[d]at z;cases z⟩
 ab:=λi h W F k=>F.at λo e=>k it (by simp) o e
 abb:=by
  intro X M hw L S i J s T H E I Y F N;subst M hw L;refine AB λD=>?_;obtain⟨xs,x,Z,O⟩:=N;obtain⟨Q,R,p,n⟩:=I.fk Z;obtain⟨u,l,r⟩:=R.aae O;obtain⟨q,A,j,B,C,G⟩:=Y it (by simp);refine D ?_;try clear D
  refine wpAny_pyNext_list_item F p.isList (x:=u) (by simpa using l) λW V t=>?_;have f:AZ X J T H {s with heap:=W}:=I.eh (t':=s.toks) (λb o U e=>(t.2 b U).trans e) q A B C G;refine AB λD=>?_;obtain⟨o,e,c,d⟩:=id V;refine D ?_;try clear D
  exact⟨u,rfl,Nz (s:={s with heap:=W}) e c d (by decide) ⟨x,H,f,r,⟨rfl,λys m=>by rw[I.vd m Z];exact O⟩,V,λb U=>(Y b U).1⟩⟩
 aaz:=by
  intro X M hw L S i J s T H E I Y F N;subst M hw L;refine AB λD=>?_;obtain⟨xs,Z,O⟩:=N;obtain⟨Q,R,p,n⟩:=I.fk Z;obtain⟨q,A,j,B,C,G⟩:=Y it (by simp);refine D ?_;try clear D
  have hl:=R.ai;exact wpAny_pyNext_list_end (I.ok.hd S) F p.isList (by simp;(first|lia|omega)) λW g=>⟨rfl,I.eh (t':=s.toks) (λb o U e=>g b o U e) q A B C G⟩
 adk:=λ_ _ _ _ _ F h=>wpAny_pyIter_listiter F h
theorem nI{K:Ar}(it:AD)(lo:Int)(n:Nat):JG P w K f (J6 lo n) [it] it (λi h=>pK h it (lo+(i:Nat)*1) ((n:Int)-(i:Nat)) 1)where
 ajh:=by simp
 cn:=λi h D b J=>by
  have e:b=it:=by simpa using J
  subst e;exact⟨_,D,λv z=>by have g:Data.fields _=Data.cell v:=z;cases g⟩
 ab:=λi h Y D k=>k it (by simp) _ D
 abb:=by
  intro X M hw L N i F s R H E I Z D O;subst M hw L;refine AB λU=>?_;obtain⟨q,A,a,B,C,G⟩:=Z it (by simp);refine U ?_;try clear U
  have W:=vS (prog:=X.af) (w:=X.w) (I.ok.hd N) it lo 1 n;refine W.item i s _ _ O D λv Y Q c V d=>?_;obtain⟨t,rfl⟩:=c;have S:AZ X F R H {s with heap:=Y,toks:=Q}:=I.eh (λb o J e=>d b o (by simpa using J) e) q A B C G;refine⟨_,rfl,Nz (s:={s with heap:=Y,toks:=Q}) (n:="range_iterator") V rfl rfl (by decide) ⟨.int (lo+i),H,S,⟨t,?_⟩,⟨rfl,rfl⟩,V,λb J=>(Z b J).1⟩⟩;rw[Int.mul_one]
 aaz:=by
  intro X M hw L N i F s R H E I Z D O;subst M hw L;refine AB λU=>?_;obtain⟨q,A,a,B,C,G⟩:=Z it (by simp);refine U ?_;try clear U
  exact wN (I.ok.hd N) D (by have:n<=i:=O;(first|lia|omega)) λY T=>⟨rfl,I.eh (t':=s.toks) (λb o J e=>T b o J e) q A B C G⟩
 adk:=λ_ _ _ _ _ D h=>wL D h
noncomputable def WQ(K:Ar)(F:A1):Ed:=λU H R=>F U H λx D=>∃a,x=.ref a/\(∃J,Bc K D a J)/\R (J5 K a) D
theorem kL{X:BY}(Y:An X l U):Eu X G l (WQ X.K U):=by
 intro F s B H R I h;refine Ay (Y F s B H _ I h) λv s1⟨x,V,J,r1,A⟩=>?_;refine AB λD=>?_;obtain⟨a,e,⟨K,Z⟩,q⟩:=A;refine D ?_;try clear D
 subst e;refine AB λD=>?_;cases r1;obtain⟨z,E,p,C⟩:=J.fk Z;refine D ?_;try clear D
 refine wpAny_pyIter_list p.isList ?_;refine⟨s1.heap.objs.size,[s1.heap.objs.size],_,_,V,rfl,J.jf (t':=s1.toks) λb o e=>Cn _ e,nH a _,⟨_,FZ _ rfl,rfl,rfl⟩,λb W=>?_,q⟩;have e:b=s1.heap.objs.size:=by simpa using W
 subst e;exact J.zp (Al _) (J.bx.bo (Al _))
theorem XH{X:BY}{s:AY}{lo:Int}(I:AZ X D U H s)(Y:-(2^62)<=lo)(Z:lo<2^62)(z:-(2^62)<=hi)(A:hi<2^62)(q:R (J6 lo (hi-lo).toNat) H):Av (Ao X.af X.w) X.A (Ym (.ref s.heap.objs.size)) (Qy X D U C R) E {s with heap:=s.heap.push {cls:=.type "range",data:=.fields #[.int lo t,.int hi u,.int 1 v]},toks:=J}:=by
  refine wK (pJ ..) (small_one Y Z z A) ?_;have F:AZ X D U H {s with heap:=s.heap.push {cls:=.type "range",data:=.fields #[.int lo t,.int hi u,.int 1 v]},toks:=J}:=I.jf λb o e=>Cn _ e;refine⟨(s.heap.push {cls:=.type "range",data:=.fields #[.int lo t,.int hi u,.int 1 v]}).objs.size,[(s.heap.push {cls:=.type "range",data:=.fields #[.int lo t,.int hi u,.int 1 v]}).objs.size],_,_,H,rfl,F.jf (t':=J) λb o e=>Cn _ e,nI _ lo (hi-lo).toNat,?_,λb B=>?_,q⟩
  . have V:lo+((0:Nat):Int)*1=lo:=by simp
    have W:(((hi-lo).toNat:Nat):Int)-((0:Nat):Int)=YL lo hi 1:=by rw[rangeSize_one];split<;>(first|lia|omega)
    show pK _ _ (lo+((0:Nat):Int)*1) ((((hi-lo).toNat:Nat):Int)-((0:Nat):Int)) 1;rw[V,W];exact FZ _ rfl
  . have e:b=(s.heap.push {cls:=.type "range",data:=.fields #[.int lo t,.int hi u,.int 1 v]}).objs.size:=by simpa using B
    subst e;exact F.zp (Al _) (F.bx.bo (Al _))
noncomputable def iM(F:EF):Ed:=λU H R=>F U H λJ D=>∃j:Int,J=[.int j]/\-(2^62)<=j/\j<2^62/\R (J6 0 j.toNat) D
noncomputable def iN(F:EF):Ed:=λU H R=>F U H λJ D=>∃i j:Int,J=[.int i,.int j]/\(-(2^62)<=i/\i<2^62/\-(2^62)<=j/\j<2^62)/\R (J6 i (j-i).toNat) D
theorem W4{X:BY}{K:A5}(Z:Eb X "range")(z:X.mg "range"=AF)(Y:Ec X [a] V)(A:Bv [a] X.ae=[(AQ,BI a X.ae)]:=by rfl):Eu X K (.Call (.Name "range" p) [a] [] J) (iM V):=by
 intro F s E H R I h;refine OV (G7 I Z z YF (LF (Ay (Y J F s E H _ I h) λL s1⟨M,G,W,r1,U⟩=>?_) A rfl));refine AB λD=>?_;obtain⟨j,e,U,B,q⟩:=U;refine D ?_;try clear D
 subst e;cases r1 with|cons r C=>
  refine AB λD=>?_;cases C;obtain⟨t,rfl⟩:=r;refine D ?_;try clear D
  exact call_range_1 (XH W (by(first|lia|omega)) (by(first|lia|omega)) U B (by simpa using q))
theorem kM{X:BY}(A:Eb X "range")(B:X.mg "range"=AF)(z:Ec X [a,b] Y)(C:Bv [a,b] X.ae=[(AQ,BI a X.ae),(AQ,BI b X.ae)]:=by rfl)(D:Bv [b] X.ae=[(AQ,BI b X.ae)]:=by rfl):Eu X P (.Call (.Name "range" p) [a,b] [] U) (iN Y):=by
 intro J s M H R I h;refine OV (G7 I A B YF (LF (Ay (z U J s M H _ I h) λQ s1⟨S,N,Z,r1,V⟩=>?_) (by rw[C,D]) (by rw[D];rfl)));refine AB λF=>?_;obtain⟨i,j,e,⟨V,E,G,K⟩,q⟩:=V;refine F ?_;try clear F
 subst e;cases r1 with|cons r W=>cases W with|cons L W=>
  refine AB λF=>?_;cases W;obtain⟨t,rfl⟩:=r;obtain⟨O,rfl⟩:=L;refine F ?_;try clear F
  exact call_range_2 (XH Z V E G K q)
noncomputable def mL(wi:Ed)(g:Du)(A:Cf):Cf:=λD F H=>wi F H λJ q=>∃W:Nat->Nat->Am->AI->Prop,(∃m,W 0 m F q)/\∀i m F H,W i m F H->(J.zw i H/\D.nx F H)\/(J.go i H/\∃N:Am->AI->Prop,(∀V U,N V U->∃Z,Z<m/\W (i+1) Z V U)/\∀x U,J.aht i H x U->g x F U λY z=>A {D with nx:=N,ct:=N,bk:=D.nx} Y z)
noncomputable def MM(D:List AD)(h:BG):List (AD×A6):=D.filterMap λb=>(h.get? b).map λo=>(b,o)
theorem RL{h:BG}(F:b∈D)(e:h.get? b=AA o):(b,o)∈MM D h:=sS.mpr ⟨b,F,by rw[e];rfl⟩
theorem jN{h:BG}{p:AD×A6}(V:p∈MM D h):p.1∈D/\h.get? p.1=AA p.2:=by
 refine AB λF=>?_;obtain⟨b,U,e⟩:=sS.mp V;refine F ?_;try clear F
 cases q:h.get? b with|none=>rw[q]at e;cases e|some o=>rw[q]at e;have J:(b,o)=p:=CM e;subst J;exact⟨U,q⟩
theorem AZ.ahl{s:AY}(I:AZ X D W H s)(A:∀b∈F,G4 X D H b)(B:∀b∈F,∃o,s.heap.get? b=AA o/\∀v,o.data≠.cell v):AZ X (D++MM F s.heap) W H s:=I.jh λp C=>(DA.mp C).elim (λz=>I.zu p (Ej _ z)) λz=>by
 refine AB λV=>?_;obtain⟨U,e⟩:=jN z;obtain⟨Y,Z,q,_⟩:=A p.1 U;obtain⟨o,J,d⟩:=B p.1 U;refine V ?_;try clear V
 rw[e]at J;cases J;exact⟨e,Y,Z,q,d⟩
theorem AZ.ze(I:AZ X (D++pl) F H s):AZ X D F H s:=I.jh λp J=>I.zu p (Ej _ (Gr _ J))
theorem Eh{X:BY}(O:PassesOwn (Ao X.af X.w) X.A X.ae X.xe)(hc:X.ic=AH)(hi:Eu X tg z wi)(hg:JE X tg g)(q:F0 X body tb)(hs:∀x,Ka z X.ae x=BZ x:=by intro _;rfl):D6 X (.For tg z body [] l) (mL wi g tb):=by
  intro F s σ H D I h;refine wpAny_For (Ay (hi F s σ H _ I h) λv s1 h1=>Ay h1 λitv s2 h2=>?_) hs;refine AB λQ=>?_;obtain⟨it,L,tn,J,H2,e,I2,T,t,f2,W,⟨m0,w0⟩,turn⟩:=h2;refine Q ?_;try clear Q
  subst e;have A:∀{E:AI},(∀b∈L,E b=AF)->∀b∈L,G4 X F E b:=λhn b q=>⟨hn b q,(f2 b q).2⟩;refine codeAny_forLoop_any (λn s'=>∃i B E,AZ X F B E s'/\tn i s'.heap/\(∀b∈L,E b=AF)/\W i n B E) ?_ m0 ⟨0,σ,H2,I2,t,λb q=>(f2 b q).1,w0⟩;intro n s3 hI;refine AB λQ=>?_;obtain⟨i,C,a,I3,R,M,w3⟩:=hI;refine Q ?_;try clear Q
  rcases turn i n C a w3 with⟨S,qn⟩|⟨go,N,hN,step⟩
  . refine Mp O (Ay (T.aaz X rfl rfl rfl hc i F s3 C a X.xe I3 (A M) R S) λr s4⟨k,I4⟩=>?_);subst k;exact Yr ⟨C,a,I4,qn⟩
  . refine Mp O (Ay (T.abb X rfl rfl rfl hc i F s3 C a X.xe I3 (A M) R go) λr s4⟨u,k,h4⟩=>?_);subst k;refine Mp O (Ay h4 λ_ s5⟨x,y,I5,r5,y5,K,j⟩=>?_);have c:=I5.ahl (A j) (T.cn _ _ K);refine Mp O (Ay (hg _ s5 C y x u _ c r5 (step x y y5)) λ_ s6⟨w,H6,I6,q6⟩=>?_);refine Mp O (Ay (q _ s6 w H6 _ I6 q6) λf p G=>?_);have Z:∀{U:Am}{V:AI},AZ X (F++MM L s5.heap) U V p->N U V->∃m,m<n/\∃i B E,AZ X F B E p/\tn i p.heap/\(∀b∈L,E b=AF)/\W i m B E:=λ{U V}Y P=>by obtain⟨m',hm,w7⟩:=hN U V P;refine⟨m',hm,i+1,U,V,Y.ze,T.ab _ _ _ K λb q o e=>(Y.zu (b,o) (Ej _ (Ej _ (RL q e)))).1,λb q=>?_,w7⟩;obtain⟨o,e,d⟩:=T.cn _ _ K b q;exact(Y.zu (b,o) (Ej _ (Ej _ (RL q e)))).2.1
    cases f with |next=>obtain⟨U,V,Y,P⟩:=G;exact Z Y P|cont=>obtain⟨U,V,Y,P⟩:=G;exact Z Y P|brk=>obtain⟨U,V,Y,G⟩:=G;exact⟨U,V,Y.ze,G⟩|ret v=>obtain⟨x7,U,V,Y,r7,G⟩:=G;exact⟨x7,U,V,Y.ze,r7,G⟩
theorem IT{K:Ar}{a:AD}{xs:List AE}{g:Du}{C:Cf}{D:Fz}{F:Am}{H:AI}(J:Nat->Am->AI->Prop)(E:J 0 F H)(M:∀i F H,i<=xs.length->J i F H->Bc K H a xs)(O:∀i x F H,xs[i]?=AA x->J i F H->g x F H λY z=>C {D with nx:=J (i+1),ct:=J (i+1),bk:=D.nx} Y z)(I:∀F H,J xs.length F H->D.nx F H):∃W:Nat->Nat->Am->AI->Prop,(∃m,W 0 m F H)/\∀i m F H,W i m F H->((J5 K a).zw i H/\D.nx F H)\/((J5 K a).go i H/\∃N:Am->AI->Prop,(∀U H',N U H'->∃A,A<m/\W (i+1) A U H')/\∀x H',(J5 K a).aht i H x H'->g x F H' λY z=>C {D with nx:=N,ct:=N,bk:=D.nx} Y z):=by
  refine⟨λi m F H=>m=xs.length-i/\i<=xs.length/\J i F H,⟨xs.length,by simp,CU _,E⟩,?_⟩;intro i m F H G;refine AB λB=>?_;obtain⟨rfl,L,p⟩:=G;refine B ?_;try clear B
  have q:=M i F H L p;by_cases Z:i<xs.length
  . refine .inr ⟨⟨xs,xs[i],q,by simp[Z]⟩,J (i+1),λU H' P=>⟨xs.length-(i+1),by(first|lia|omega),rfl,Z,P⟩,λx H' y=>?_⟩;obtain⟨e,y⟩:=y;subst e;exact O i x F _ (y xs q) p
  . have e:i=xs.length:=by(first|lia|omega)
    subst e;exact .inl ⟨⟨xs,q,Al _⟩,I F H p⟩
theorem RB{lo:Int}{n:Nat}{g:Du}{A:Cf}{D:Fz}{F:Am}{H:AI}(J:Nat->Am->AI->Prop)(B:J 0 F H)(G:∀i F H,i<n->J i F H->g (.int (lo+i)) F H λY Z=>A {D with nx:=J (i+1),ct:=J (i+1),bk:=D.nx} Y Z)(E:∀F H,J n F H->D.nx F H):∃W:Nat->Nat->Am->AI->Prop,(∃m,W 0 m F H)/\∀i m F H,W i m F H->((J6 lo n).zw i H/\D.nx F H)\/((J6 lo n).go i H/\∃N:Am->AI->Prop,(∀V H',N V H'->∃q,q<m/\W (i+1) q V H')/\∀x H',(J6 lo n).aht i H x H'->g x F H' λY Z=>A {D with nx:=N,ct:=N,bk:=D.nx} Y Z):=by
  refine⟨λi m F H=>m=n-i/\i<=n/\J i F H,⟨n,by simp,CU _,B⟩,?_⟩;intro i m F H C;refine AB λz=>?_;obtain⟨rfl,K,p⟩:=C;refine z ?_;try clear z
  by_cases U:i<n
  . refine .inr ⟨U,J (i+1),λV H' I=>⟨n-(i+1),by(first|lia|omega),rfl,U,I⟩,λx H' y=>?_⟩;obtain⟨e,y⟩:=y;subst e y;exact G i F _ U p
  . have e:i=n:=by(first|lia|omega)
    subst e;exact .inl ⟨Al _,E F H p⟩
theorem nP{D:Fz}(V:Am->AI->Prop)(Y:Am->AI->Nat)(A:V F H)(B:∀F H,V F H->c F H λb U=>if b=AH then z {D with nx:=λJ H'=>V J H'/\Y J H'<Y F H,ct:=λJ H'=>V J H'/\Y J H'<Y F H,bk:=D.nx} F U else D.nx F U)(W:∀F H Q Z,(∀b U,Q b U->Z b U)->c F H Q->c F H Z):Xg c z D F H:=by refine⟨λm F H=>m=Y F H/\V F H,⟨_,rfl,A⟩,?_⟩;rintro m F H⟨rfl,p⟩;refine W F H _ _ (λb U q=>?_) (B F H p);cases b with|true=>exact⟨_,λJ H'⟨C,l⟩=>⟨_,l,rfl,C⟩,q⟩|false=>exact q
noncomputable abbrev DU:=AE->AE->AI->Bn->Prop
noncomputable def CG(X:BY)(f:AK->AK->DH AK)(r:DU):Prop:=∀(D:List (AD×A6))(s:AY)(F:Am)(H:AI)(x y:AE)(v u:AK)(Q:Bn),AZ X D F H s->BQ x v->BQ y u->r x y H Q->Av (Ao X.af X.w) X.A (f v u) (ED X D F Q) X.xe s
noncomputable def Nr(X:BY)(f:AK->DH AK)(r:AE->AI->Bn->Prop):Prop:=∀(D:List (AD×A6))(s:AY)(F:Am)(H:AI)(x:AE)(v:AK)(Q:Bn),AZ X D F H s->BQ x v->r x H Q->Av (Ao X.af X.w) X.A (f v) (ED X D F Q) X.xe s
noncomputable def Ea(X:BY)(f:AK)(r:List AE->AI->Bn->Prop):Prop:=∀(D:List (AD×A6))(s:AY)(U:Am)(H:AI)(J:List AE)(F:List AK)(Q:Bn),AZ X D U H s->BJ J F->r J H Q->Av (Ao X.af X.w) X.A (HK f F) (ED X D U Q) X.xe s
noncomputable def K7(r:DU)(U V:A1):A1:=λD H Q=>U D H λx F=>V D F λy J=>r x y J Q
noncomputable def m8(r:AE->AI->Bn->Prop)(F:A1):A1:=λJ H Q=>F J H λx D=>r x D Q
noncomputable def K4(C:Int->Int->Prop)(g:Int->Int->AE):DU:=λx y H Q=>∃i j,x=.int i/\y=.int j/\C i j/\Q (g i j) H
noncomputable def JU(g:Int->Int->AE):DU:=λx y H Q=>∃i j,x=.int i/\y=.int j/\Q (g i j) H
noncomputable def XG(g:Int->AE):AE->AI->Bn->Prop:=λx H Q=>∃i,x=.int i/\Q (g i) H
theorem Q4{X:BY}{a b:A5}{G K:A1}(z:An X a G)(A:An X b K){D:List (AD×A6)}{s:AY}{J:Am}{H:AI}{R:AE->AE->AI->Prop}(I:AZ X D J H s)(h:G J H λx Y=>K J Y λy F=>R x y F){Q:AK->AY->Prop}{f:AK->AK->DH AK}(B:∀v u s2 x y F,AZ X D J F s2->BQ x v->BQ y u->R x y F->Av (Ao X.af X.w) X.A (f v u) Q X.xe s2):Av (Ao X.af X.w) X.A (BI a X.ae) (λv U=>Av (Ao X.af X.w) X.A (BI b X.ae) (λu W=>Av (Ao X.af X.w) X.A (f v u) Q X.xe W) X.xe U) X.xe s:=by refine Ay (z D s J H _ I h) λv s1⟨x,Y,Z,r1,C⟩=>?_;refine Ay (A D s1 J Y _ Z C) λu s2⟨y,F,q,r2,E⟩=>?_;exact B v u s2 x y F q r1 r2 E
theorem AX(W:CG X (Fb op) r)(U:An X a A)(V:An X b B):An X (.BinOp a op b Y) (K7 r A B):=by intro D s C H Q I h;exact wpAny_BinOp (Q4 U V I h λv u s2 x y F J Z z q=>W D s2 C F x y v u Q J Z z q)
theorem Rf(Y:Nr X (qO op) r)(W:An X a z):An X (.UnaryOp op a Z) (m8 r z):=by intro D s F H Q I h;exact UnaryOp_ (Ay (W D s F H _ I h) λv s1⟨x,J,U,r1,q⟩=>Y D s1 F J x v Q U r1 q)
theorem N8{C:Int->Int->Prop}{g:Int->Int->Int}(D:∀(i j:Int)(t u:GA)(s:AY)(Q:AK->AY->Prop)(E:AK->AY->Prop),C i j->Q (.int (g i j) s.toks) {s with toks:=s.toks+1}->Av (Ao X.af X.w) X.A (f (.int i t) (.int j u)) Q E s):CG X f (K4 C λi j=>.int (g i j)):=by
 intro J s Z H x y v u Q I V W h;refine AB λF=>?_;obtain⟨i,j,rfl,rfl,U,q⟩:=h;obtain⟨t,rfl⟩:=V;obtain⟨Y,rfl⟩:=W;refine F ?_;try clear F
 exact D i j t Y s _ _ U ⟨.int (g i j),H,I.fw _,⟨_,rfl⟩,q⟩
theorem Wo{g:Int->Int->Int}(D:∀(i j:Int)(t u:GA)(s:AY)(Q:AK->AY->Prop)(E:AK->AY->Prop),Q (.int (g i j) s.toks) {s with toks:=s.toks+1}->Av (Ao X.af X.w) X.A (f (.int i t) (.int j u)) Q E s):CG X f (JU λi j=>.int (g i j)):=by
 intro J s Y H x y v u Q I U V h;refine AB λF=>?_;obtain⟨i,j,rfl,rfl,q⟩:=h;obtain⟨t,rfl⟩:=U;obtain⟨W,rfl⟩:=V;refine F ?_;try clear F
 exact D i j t W s _ _ ⟨.int (g i j),H,I.fw _,⟨_,rfl⟩,q⟩
theorem RR{g:Int->Int->Bool}(D:∀(i j:Int)(t u:GA)(s:AY)(Q:AK->AY->Prop)(E:AK->AY->Prop),Q (.bool (g i j)) s->Av (Ao X.af X.w) X.A (f (.int i t) (.int j u)) Q E s):CG X f (JU λi j=>.bl (g i j)):=by
 intro J s Y H x y v u Q I U V h;refine AB λF=>?_;obtain⟨i,j,rfl,rfl,q⟩:=h;obtain⟨t,rfl⟩:=U;obtain⟨W,rfl⟩:=V;refine F ?_;try clear F
 exact D i j t W s _ _ ⟨.bl (g i j),H,I,rfl,q⟩
noncomputable def Vo(i j:Int):Prop:=0<j/\j<1073741824
noncomputable def fS(i j:Int):Prop:=0<=j/\j<=1000000/\i.natAbs<2^64
noncomputable def Qt(i j:Int):Prop:=(-(2^64)<i/\i<2^64)\/(-(2^64)<j/\j<2^64)
theorem Qt.ok(h:Qt i j):IntMulOk i j:=by
 rcases h with⟨D,F⟩|⟨D,F⟩;.exact .of_left (vY D F)
 .exact .of_right (vY D F)
theorem D8:CG X (Fb .Add) (JU λi j=>.int (i+j)):=Wo λ_ _ _ _ _ _ _ q=>add_int q
theorem F5:CG X (Fb .Sub) (JU λi j=>.int (i-j)):=Wo λ_ _ _ _ _ _ _ q=>sub_int q
theorem Eg:CG X (Fb .Mult) (K4 Qt λi j=>.int (i*j)):=N8 λ_ _ _ _ _ _ _ D q=>mul_int q D.ok
theorem C8:CG X (Fb .FloorDiv) (K4 Vo λi j=>.int (i/j)):=N8 λi j _ _ _ _ _ D q=>by have F:(0:Int)<j:=D.1;have J:j<1073741824:=D.2;exact floordiv_int (by(first|lia|omega)) (by rw[Int.fdiv_eq_ediv_of_nonneg i (by(first|lia|omega))];exact q) (.inl (pC (by(first|lia|omega))))
theorem B6:CG X (Fb .Mod) (K4 (λ_ j=>0<j) λi j=>.int (i%j)):=N8 λi j _ _ _ _ _ D q=>by have F:(0:Int)<j:=D;exact mod_int' (by(first|lia|omega)) (by rw[Int.fmod_eq_emod_of_nonneg i (by(first|lia|omega))];exact q)
theorem RZ:CG X (Fb .Pow) (K4 fS λi j=>.int (i^j.toNat)):=N8 λ_ _ _ _ _ _ _ D q=>pow_int_small D.1 D.2.1 D.2.2 q
theorem nM{g:Int->Int}(D:∀(i:Int)(t:GA)(s:AY)(Q:AK->AY->Prop)(E:AK->AY->Prop),Q (.int (g i) s.toks) {s with toks:=s.toks+1}->Av (Ao X.af X.w) X.A (f (.int i t)) Q E s):Nr X f (XG λi=>.int (g i)):=by
 intro J s V H x v Q I U h;refine AB λF=>?_;obtain⟨i,rfl,q⟩:=h;obtain⟨t,rfl⟩:=U;refine F ?_;try clear F
 exact D i t s _ _ ⟨.int (g i),H,I.fw _,⟨_,rfl⟩,q⟩
theorem Xl:Nr X (qO .USub) (XG λi=>.int (-i)):=nM λ_ _ _ _ _ q=>neg_int q
noncomputable def XO:AE->AE->Bool|.non,.non=>AH|.non,.int _=>AH|.int _,.non=>AH|.non,.bl _=>AH|.bl _,.non=>AH|.non,.str _=>AH|.str _,.non=>AH|.int _,.int _=>AH|.bl _,.bl _=>AH|.str _,.str _=>AH|.byt _,.byt _=>AH|.int _,.str _=>AH|.str _,.int _=>AH|.bl _,.str _=>AH|.str _,.bl _=>AH|_,_=>AQ
noncomputable def kZ:DU:=λx y H Q=>XO x y=AH/\Q (.bl (Ae (x=y))) H
noncomputable def lD:DU:=λx y H Q=>XO x y=AH/\Q (.bl (!Ae (x=y))) H
theorem WB:Ae (AE.int i=AE.int j)=(i==j):=by rw[SV];simp
theorem V9:Ae (AE.bl i=AE.bl j)=(i==j):=by rw[SV];simp
theorem WC:Ae (AE.str i=AE.str j)=(i==j):=by rw[SV];simp
theorem WA{i j:Array UInt8}:Ae (AE.byt i=AE.byt j)=(i.toList==j.toList):=by
 rw[SV];refine AB λD=>?_;cases i;cases j;refine D ?_;try clear D
 simp
theorem DG(I:AZ X D J H s)(q:Q (.bl k) H)(e:k=F):ED X D J Q (.bool F) s:=by subst e;exact⟨.bl k,H,I,rfl,q⟩
theorem C7:CG X (EJ .Eq) kZ:=by intro pins s σ H x y v u Q I rx ry h;obtain⟨hs,q⟩:=h;cases x with
 |non=> cases rx;cases y with |non=>cases ry;exact xU (DG I q (by simp))|bl j=>cases ry;exact xS (DG I q (by simp))|int j=>obtain⟨t',rfl⟩:=ry;exact xT (DG I q (by simp))|str j=>obtain⟨t',rfl⟩:=ry;exact xV (DG I q (by simp))|_=>exact absurd (show AQ=AH from hs) C4
 |bl i=> cases rx;cases y with |non=>cases ry;exact xQ (DG I q (by simp))|bl j=>cases ry;exact eq_bool (DG I q V9)|str j=>obtain⟨t',rfl⟩:=ry;exact xH (DG I q (by simp))|_=>exact absurd (show AQ=AH from hs) C4
 |int i=> obtain⟨t,rfl⟩:=rx;cases y with |non=>cases ry;exact xR (DG I q (by simp))|int j=>obtain⟨t',rfl⟩:=ry;exact eq_int (DG I q WB)|str j=>obtain⟨t',rfl⟩:=ry;exact xI (DG I q (by simp))|_=>exact absurd (show AQ=AH from hs) C4
 |str i=> obtain⟨t,rfl⟩:=rx;cases y with |non=>cases ry;exact xW (DG I q (by simp))|bl j=>cases ry;exact xJ (DG I q (by simp))|int j=>obtain⟨t',rfl⟩:=ry;exact xK (DG I q (by simp))|str j=>obtain⟨t',rfl⟩:=ry;exact eq_str (DG I q WC)|_=>exact absurd (show AQ=AH from hs) C4
 |byt i=> obtain⟨t,rfl⟩:=rx;cases y with |byt j=>obtain⟨t',rfl⟩:=ry;exact W.eq_bytes (DG I q WA)|_=>exact absurd (show AQ=AH from hs) C4
 |_=>cases y<;>exact absurd (show AQ=AH from hs) C4
theorem jT:CG X (EJ .NotEq) lD:=by intro pins s σ H x y v u Q I rx ry h;obtain⟨hs,q⟩:=h;cases x with
 |non=>cases rx;cases y with |non=>cases ry;exact x9 (DG I q (by simp))|bl j=>cases ry;exact xZ (DG I q (by simp))|int j=>obtain⟨t',rfl⟩:=ry;exact x5 (DG I q (by simp))|str j=>obtain⟨t',rfl⟩:=ry;exact yA (DG I q (by simp))|_=>exact absurd (show AQ=AH from hs) C4
 |bl i=>cases rx;cases y with |non=>cases ry;exact xX (DG I q (by simp))|bl j=>cases ry;exact ne_bool (DG I q (yZ not V9))|str j=>obtain⟨t',rfl⟩:=ry;exact xM (DG I q (by simp))|_=>exact absurd (show AQ=AH from hs) C4
 |int i=> obtain⟨t,rfl⟩:=rx;cases y with |non=>cases ry;exact xY (DG I q (by simp))|int j=>obtain⟨t',rfl⟩:=ry;exact ne_int (DG I q (yZ not WB))|str j=>obtain⟨t',rfl⟩:=ry;exact xN (DG I q (by simp))|_=>exact absurd (show AQ=AH from hs) C4
 |str i=> obtain⟨t,rfl⟩:=rx;cases y with |non=>cases ry;exact yB (DG I q (by simp))|bl j=>cases ry;exact xO (DG I q (by simp))|int j=>obtain⟨t',rfl⟩:=ry;exact xP (DG I q (by simp))|str j=>obtain⟨t',rfl⟩:=ry;exact ne_str (DG I q (yZ not WC))|_=>exact absurd (show AQ=AH from hs) C4
 |byt i=> obtain⟨t,rfl⟩:=rx;cases y with |byt j=>obtain⟨t',rfl⟩:=ry;exact W.ne_bytes (DG I q (yZ not WA))|_=>exact absurd (show AQ=AH from hs) C4
 |_=>cases y<;>exact absurd (show AQ=AH from hs) C4
theorem Wt:CG X (EJ .Lt) (JU λi j=>.bl (Ae (i<j))):=RR λ_ _ _ _ _ _ _ q=>oY q
theorem RV:CG X (EJ .LtE) (JU λi j=>.bl (Ae (i<=j))):=RR λ_ _ _ _ _ _ _ q=>le_int q
theorem N9:CG X (EJ .Gt) (JU λi j=>.bl (Ae (j<i))):=RR λ_ _ _ _ _ _ _ q=>gt_int q
theorem Ws:CG X (EJ .Is) (λx y H Q=>y=.non/\Q (.bl (Ae (x=.non))) H):=by
 intro F s V H x y v u Q I J U h;refine AB λD=>?_;obtain⟨rfl,q⟩:=h;cases U;refine D ?_;try clear D
 refine is_none_gen (DG I q ?_);cases x<;>first|(cases J;rfl)|(obtain⟨t,rfl⟩:=J;rfl)
theorem Br(b:A5)(h:op≠.In:=by decide)(J:op≠.NotIn:=by decide):Yi op b=AQ:=by
 have D:(op==CmpOp.In)=AQ:=by cases op<;>first|rfl|exact absurd rfl h
 have F:(op==CmpOp.NotIn)=AQ:=by cases op<;>first|rfl|exact absurd rfl J
 cases b<;>simp[Yi,D,F]
theorem MH(Y:CG X (EJ op) r)(U:An X a B)(V:An X b C)(W:Yi op b=AQ):An X (.Compare a [op] [b] Z) (K7 r B C):=by intro D s E H Q I h;exact wpAny_Compare1 (Q4 U V I h λv u s2 x y F J z A q=>Y D s2 E F x y v u Q J z A q) W
noncomputable def Xe(t:A1):C6:=λF H Q=>t F H λx D=>∃k,x=.bl k/\Q k D
theorem Bt(C:CG X (EJ op) r)(q:An X a N)(A:An X b O)(B:Yi op b=AQ):F1 X (.Compare a [op] [b] E) (Xe (K7 r N O)):=by intro D s F H Q I h;refine wpAny_isTrue_Compare1 (Ay (q D s F H _ I h) λv s1⟨x,J,W,r1,G⟩=>Ay (A D s1 F J _ W G) λu s2⟨y,U,Y,r2,K⟩=>Ay (C D s2 F U x y v u _ Y r1 r2 K) λc s3⟨z,V,Z,M,k,e,L⟩=>?_) B;subst e;cases M;exact Mr ⟨V,Z,L⟩
noncomputable def XZ(r W:DU)(Y Z q:A1):A1:=λD H Q=>Y D H λx J=>Z D J λy U=>r x y U λz F=>∃k,z=.bl k/\(if k=AH then q D F λA V=>W y A V Q else Q (.bl AQ) F)
theorem j9(O:CG X (EJ op) r)(U:CG X (EJ F) Z)(K:An X a i)(L:An X b j)(M:An X c l)(N:lastMarks [op,F] [b,c]=AQ:=by with_unfolding_all rfl):An X (.Compare a [op,F] [b,c] P) (XZ r Z i j l):=by intro D s J H Q I h;refine Compare_chain (Ay (K D s J H _ I h) λv s1⟨x,q,C,r1,R⟩=>chain_link (Ay (L D s1 J q _ C R) λu s2⟨y,A,E,r2,S⟩=>Ay (O D s2 J A x y v u _ E r1 r2 S) λd s3⟨z,V,W,f,k,e,Y⟩=>?_)) N;subst e;cases f;refine Mr ?_;cases k with|false=>exact ite_ff ⟨.bl AQ,V,W,rfl,Y⟩|true=>exact ite_tt (chain_last (Ay (M D s3 J V _ W Y) λm s4⟨n,B,G,g,T⟩=>U D s4 J B y n u m Q G r2 g T))
theorem kX(f:CG X (EJ op) r)(U:CG X (EJ F) q)(P:An X a w)(R:An X b tb)(S:An X c tc)(T:lastMarks [op,F] [b,c]=AQ:=by with_unfolding_all rfl):F1 X (.Compare a [op,F] [b,c] g) (Xe (XZ r q w tb tc)):=by intro D s J H Q I h;refine isTrue_chain (Ay (P D s J H _ I h) λv s1⟨x,A,G,r1,j⟩=>test_link (Ay (R D s1 J A _ G j) λu s2⟨y,B,K,r2,l⟩=>Ay (f D s2 J B x y v u _ K r1 r2 l) λd s3⟨z,V,W,o,k,e,Z⟩=>?_)) T;subst e;cases o;refine Mr ?_;cases k with
 |false=>
  refine AB λY=>?_;obtain⟨k',N,i⟩:=Z;cases N;refine Y ?_;try clear Y
  exact ite_ff ⟨V,W,i⟩|true=>refine ite_tt (test_last (Ay (S D s3 J V _ W Z) λw' s4⟨z',C,L,p,m⟩=>Ay (U D s4 J C y z' u w' _ L r2 p m) λd' s5⟨z2,E,M,t,k2,O,n⟩=>?_));subst O;cases t;exact Mr ⟨E,M,n⟩
theorem MB:(Aw:Nat)<2^63:=by rw[DN];decide
theorem RS:CG X (Fb .Add) (λx y H Q=>∃i j,x=.str i/\y=.str j/\i.length+j.length<=Aw/\Q (.str (i++j)) H):=by
 intro F s Z H x y v u Q I U V h;refine AB λD=>?_;obtain⟨i,j,rfl,rfl,J,q⟩:=h;obtain⟨t,rfl⟩:=U;obtain⟨W,rfl⟩:=V;refine D ?_;try clear D
 exact add_str (λW Y=>⟨.str (i++j),H,I.fw _,⟨_,rfl⟩,q⟩) J
theorem HH(r:BJ [x] us):∃u,us=[u]/\BQ x u:=by cases r with|cons r1 r2=>cases r2;exact⟨_,rfl,r1⟩
theorem OM(r:BJ [x,y] us):∃u D,us=[u,D]/\BQ x u/\BQ y D:=by cases r with|cons r1 r2=>cases r2 with|cons F J=>cases J;exact⟨_,_,rfl,r1,F⟩
theorem Vz{X:BY}(U:X.ic=AH):Ea X (.builtin "max") (λxs H Q=>∃i j,xs=[.int i,.int j]/\Q (.int (if j>i then j else i)) H):=by
 intro J s A H xs Z Q I r h;refine AB λF=>?_;obtain⟨i,j,rfl,q⟩:=h;obtain⟨u,z,rfl,⟨t,rfl⟩,⟨W,rfl⟩⟩:=OM r;refine F ?_;try clear F
 refine max_two_ints (I.ok.hd U) λV Y k=>⟨_,H,I.jf k,?_,q⟩;by_cases D:j>i;.rw[yY D,yY D];exact⟨_,rfl⟩
 .rw[yX D,yX D];exact⟨_,rfl⟩
theorem gQ{X:BY}(U:X.ic=AH):Ea X (.builtin "min") (λxs H Q=>∃i j,xs=[.int i,.int j]/\Q (.int (if j<i then j else i)) H):=by
 intro J s A H xs Z Q I r h;refine AB λF=>?_;obtain⟨i,j,rfl,q⟩:=h;obtain⟨u,z,rfl,⟨t,rfl⟩,⟨W,rfl⟩⟩:=OM r;refine F ?_;try clear F
 refine min_two_ints (I.ok.hd U) λV Y k=>⟨_,H,I.jf k,?_,q⟩;by_cases D:j<i;.rw[yY D,yY D];exact⟨_,rfl⟩
 .rw[yX D,yX D];exact⟨_,rfl⟩
theorem Vx:Ea X (.type "int") (λxs H Q=>(∃i,xs=[.int i]/\Q (.int i) H)\/∃k,xs=[.bl k]/\Q (.int (if k then 1 else 0)) H):=by
  intro F s U H xs J Q I r h;rcases h with⟨i,rfl,q⟩|⟨k,rfl,q⟩
  . refine AB λD=>?_;obtain⟨u,rfl,t,rfl⟩:=HH r;refine D ?_;try clear D
    exact call_int_int ⟨.int i,H,I,⟨_,rfl⟩,q⟩
  . refine AB λD=>?_;obtain⟨u,rfl,r1⟩:=HH r;cases r1;refine D ?_;try clear D
    exact call_int_bool ⟨.int (if k then 1 else 0),H,I.fw _,⟨_,rfl⟩,q⟩
structure Kp(h:BG)(x dx C:AD)(mA:AG->Option AK):Prop where
 cn:h.get? x=AA (LI C dx)ns:h.Ns1 dx mA
 ne:dx≠x
theorem jD{h:BG}(n:h.Ns1 F U):∃W,h.get? F=AA W/\∀name,Yg name W=AA (U name):=by
  refine AB λV=>?_;obtain⟨o,J,G,C,Z,A,_,B⟩:=n;refine V ?_;try clear V
  refine⟨o,C,λname=>?_⟩;have e:=B name;unfold nsFind findBy at e;rw[<-Array.find?_toList]at e;unfold Yg;rw[Z];dsimp only;split
  . rename_i y q;rw[q]at e;exact yZ AA e
  . rename_i q;rw[q]at e;have a:J.toList.any (·.refKey)=AQ:=by rw[List.any_eq_false];intro y E;obtain⟨z,t,D⟩:=A y (Array.mem_toList_iff.mp E);simp[xG,D]
    have Y:¬J.toList.any (·.refKey)=AH:=by rw[a];exact C4
    rw[yX Y];exact yZ AA e
theorem Kp.ahy(I:Kp h x F C J):∃D,W.InstAt h x (LI C F) C (AA D)/\∀name,Yg name D=AA (J name):=let⟨D,V,U⟩:=jD I.ns
 ⟨D,⟨I.cn,rfl,rfl,V⟩,U⟩
theorem iF{s:AY}{K:Ar}(X:K.In s.heap)(I:Kp s.heap x dx C mA)(hg:KY K C name=AH)(hh:LH K C=AH)(ha:Bu K (.ref C) name=AA AF)(hv:mA name=AA v)(hv':vL v=AH)(h:Q v {s with toks:=s.toks+1}):Av (Ao prog w) A (qH (.ref x) name expr) Q E s:=by
 refine AB λnG=>?_;obtain⟨od,J,hl⟩:=I.ahy;refine nG ?_;try clear nG
 exact W.get_value X J (pW hg).1 (W.findObj_own hh ha rfl (by rw[hl,hv])) hv' h
theorem iG{s:AY}{K:Ar}(X:K.In s.heap)(I:Kp s.heap x dx C mA)(hg:KY K C name=AH)(hf:Bu K (.ref C) name=AA (AA (.ref f)))(ht:EU K (.ref f)=AH)(hv:mA name=AF)(h:Q (.ref f,[.ref x]) s):Av (Ao prog w) A (Yj (.ref x) name pl) Q E s:=by
 refine AB λnG=>?_;obtain⟨od,J,hl⟩:=I.ahy;refine nG ?_;try clear nG
 exact W.method_fn X J (pW hg).1 (pW hg).2 hf (zC.mp ht) (by show(Yg name od).map (·.isSome)=AA AQ;rw[hl,hv];rfl) h
theorem lP{s:AY}{K:Ar}{name:AG}{ns:List AG}(X:K.In s.heap)(I:Kp s.heap x V C z)(N:Bu K (.ref C) "__setattr__"=AA (AA (.builtin "object.__setattr__")))(M:Mh K C=AH)(O:pZ K C name=AA AF)(L:LH K C=AH)(hw:qA z ns)(hsz:ns.length<=Aw)(h:∀h',Kp h' x V C (λy=>if y=name then AA v else z y)->SI V s.heap h'->Q () {s with heap:=h',toks:=s.toks+2}):Av (Ao prog w) A (setAttr (.ref x) name v) Q E s:=by
 refine AB λD=>?_;obtain⟨c,J,S⟩:=I.ahy;refine D ?_;try clear D
 refine W.set_plain X J N (W.osa_open (s:={s with toks:=s.toks+1}) (r:=AF) X J M O λb=>?_);refine AB λD=>?_;obtain⟨R,H,Y⟩:=W.any_some L;refine D ?_;try clear D
 have P:s.heap.get? x=AA ⟨.ref C,AA V,.plain,#[]⟩:=I.cn;refine A4 (Cg (A4 (A4 (wpAny_loadPart P (A4 (yT (s:={s with toks:=s.toks+1}) (W.looks_clsIn X H) ?_))))));rw[Y];refine Cg (a:=AA V) (A4 (Cg (A4 ?_)));refine wpAny_nsSet1 (s:={s with toks:=s.toks+1}) I.ns λh' F U=>?_;refine AB λD=>?_;obtain⟨T,G,B,q,Z,W⟩:=F.count (yU name v hw);refine D ?_;try clear D
 refine A4 (wpAny_lookBehind q (by rw[Z];exact pastItsLine_dict (CL W (by rw[F6];(first|lia|omega)))) ?_);exact Cg (h _ ⟨(U.2 _ (Hv I.ne)).trans I.cn,F,I.ne⟩ U)
theorem jG{A:Cy}{s:AY}{K:Ar}(X:K.In s.heap)(hm:Mg K C=AH)(hi:Bu K (.ref C) "__init__"=AA (AA (.ref f)))(hf:W.typeIn K (.ref f)=AA (.type "function"))(h:LO (Ao prog w) (A.under (.builtin "type.__call__" ⟨.ref C::vs,kw⟩)) (.call (.ref f) ⟨.ref (s.heap.objs.size+1)::vs,kw⟩) (W.InitBack (s.heap.objs.size+1) R) {s with heap:=(s.heap.push KW).push (LI C s.heap.objs.size)}):LO (Ao prog w) A (.call (.ref C) ⟨vs,kw⟩) R s:=by
 refine AB λnG=>?_;obtain⟨hh,g,d,t,os⟩:=s;refine nG ?_;try clear nG
 exact W.make_core (W.makes_of X hm) (W.looks_findIn X hi) (λself=>W.bind_fn X self hf) (.inl rfl) h
noncomputable def E2(f:AG)(v:AE):List (AG×AE)->List (AG×AE)|[]=>[(f,v)]|(g,x)::r=>if g=f then(g,v)::r else(g,x)::E2 f v r
theorem Wg(f g:AG)(v:AE):∀J:List (AG×AE),(E2 f v J).lookup g=if g=f then AA v else J.lookup g
  |[]=>by
    show MX g [(f,v)]=_;by_cases h:g=f;. have D:(g==f)=AH:=zC.mpr h;simp only[MX,D,yY h]
    . have D:(g==f)=AQ:=zD.mpr h;simp only[MX,D,yX h]|(k,x)::r=>by
    have U:=Wg f g v r;rw[show E2 f v ((k,x)::r)=(if k=f then(k,v)::r else(k,x)::E2 f v r)from rfl];by_cases F:k=f
    . rw[yY F];by_cases h:g=k
      . have D:(g==k)=AH:=zC.mpr h;simp only[MX,D,yY (h.trans F)]
      . have D:(g==k)=AQ:=zD.mpr h;simp only[MX,D,yX (λe:g=f=>h (e.trans F.symm))]
    . rw[yX F];by_cases h:g=k;. have D:(g==k)=AH:=zC.mpr h;simp only[MX,D,yX (λe:g=f=>F (h.symm.trans e))]
      . have D:(g==k)=AQ:=zD.mpr h;simp only[MX,D];exact U
theorem RG(f:AG)(v:AE):∀D:List (AG×AE),f∈(E2 f v D).map (·.1)/\∀g,g∈D.map (·.1)->g∈(E2 f v D).map (·.1)
  |[]=>⟨by simp[E2],λg h=>by simp at h⟩|(k,x)::r=>by
    obtain⟨i1,i2⟩:=RG f v r;rw[show E2 f v ((k,x)::r)=(if k=f then(k,v)::r else(k,x)::E2 f v r)from rfl];by_cases F:k=f;. rw[yY F];subst F;exact⟨by simp,λg h=>by simpa using h⟩
    . rw[yX F];refine⟨?_,λg h=>?_⟩
      . rw[DM];exact ER _ i1
      . rw[DM]at h⊢;rcases CB.mp h with e|e;.exact CB.mpr (.inl e)
        .exact ER _ (i2 g e)
theorem Wb(f:AG)(v:AE):∀D:List (AG×AE),(E2 f v D).length<=D.length+1
 |[]=>by simp[E2]|(k,x)::r=>by
  have J:=Wb f v r;rw[show E2 f v ((k,x)::r)=(if k=f then(k,v)::r else(k,x)::E2 f v r)from rfl];by_cases F:k=f;.rw[yY F,F6,F6];(first|lia|omega)
  .rw[yX F,F6,F6];(first|lia|omega)
theorem Nl(r:HZ (AA v) o):∃u,o=AA u/\BQ v u:=by cases o with|none=>exact(show False from r).elim|some u=>exact⟨u,rfl,r⟩
theorem f6(r:HZ AF o):o=AF:=by cases o with|none=>rfl|some u=>exact(show False from r).elim
theorem iI(r:BQ v u):vL u=AH:=by cases v with|non=>cases(show u=Ya from r);rfl|bl b=>cases(show u=Od b from r);rfl|int i=>obtain⟨t,e⟩:=(show∃t,u=Oe i t from r);cases e;rfl|str x=>obtain⟨t,e⟩:=(show∃t,u=Of x t from r);cases e;rfl|byt b=>obtain⟨t,e⟩:=(show∃t,u=vB b t from r);cases e;rfl|flt b=>obtain⟨t,e⟩:=(show∃t,u=pL b t from r);cases e;rfl|ref a=>cases(show u=C3 a from r);rfl|ty n=>cases(show u=pN n from r);rfl
theorem N0{F:List (AG×AE)}(U:Ci P w H h)(e:H a=AA (.ins C J F)):∃D,Kp h a J C D/\(∀f,HZ (F.lookup f) (D f))/\qA D (F.map (·.1))/\F.length<=1000/\H J=AA (.own a):=by
 refine AB λV=>?_;obtain⟨d,z,W,Y,D,n,r,q⟩:=(show C5 P w H h a (.ins C J F)from U a _ e);refine V ?_;try clear V
 exact⟨D,⟨Y,n,W⟩,r,q,z,d⟩
structure Fy(K:Ar)(C:AD):Prop where
 pg:KY K C Oc=AH
 hd:LH K C=AH
 po:Mh K C=AH
 sa:Bu K (.ref C) "__setattr__"=AA (AA (.builtin "object.__setattr__"))
theorem Fy.aae{K:Ar}(c:Fy K C)(f:AG):KY K C f=AH:=c.pg
noncomputable def Et(K:Ar)(C:AD)(f:AG):Prop:=Bu K (.ref C) f=AA AF
theorem Et.akt{K:Ar}(n:Et K C f):pZ K C f=AA AF:=by unfold pZ;rw[show Bu K (.ref C) f=AA AF from n];rfl
structure EE(K:Ar)(C:AD)(m:AG)(f:AD):Prop where
 amf:Bu K (.ref C) m=AA (AA (.ref f))fn:EU K (.ref f)=AH
 kp:Il K (.ref f)=AH
theorem iH{X:BY}{U:List (AG×AE)}(I:AZ X D Y H s)(e:H a=AA (.ins C Z U))(c:Fy X.K C)(n:Et X.K C f)(l:U.lookup f=AA v)(h:∀u s',AZ X D Y H s'->BQ v u->Q u s'):Av (Ao X.af X.w) A (qH (.ref a) f b) Q E s:=by
 refine AB λF=>?_;obtain⟨W,O,r,_,_,_⟩:=N0 I.bx e;obtain⟨u,V,J⟩:=Nl (v:=v) (o:=W f) (by rw[<-l];exact r f);refine F ?_;try clear F
 exact iF I.wj O (c.aae f) c.hd n V (iI J) (h u _ (I.fw _) J)
theorem WN{X:BY}{J:List (AG×AE)}(I:AZ X F Y H s)(e:H a=AA (.ins C W J))(c:Fy X.K C)(k:EE X.K C m g)(l:J.lookup m=AF)(h:Q (.ref g,[.ref a]) s):Av (Ao X.af X.w) A (Yj (.ref a) m pl) Q E s:=by
 refine AB λD=>?_;obtain⟨V,O,r,_,_,_⟩:=N0 I.bx e;refine D ?_;try clear D
 have U:V m=AF:=f6 (by rw[<-l];exact r m);exact iG I.wj O (c.aae m) k.amf k.fn U h
theorem lQ{X:BY}{D:List (AG×AE)}(I:AZ X F T H s)(e:H a=AA (.ins C U D))(c:Fy X.K C)(n:Et X.K C f)(d:D.length<1000)(R:BQ y u)(h:∀s',AZ X F T (AN H a (.ins C U (E2 f y D))) s'->Q () s'):Av (Ao X.af X.w) A (setAttr (.ref a) f u) Q E s:=by
  refine AB λZ=>?_;obtain⟨Y,O,r,B,_,W⟩:=N0 I.bx e;refine Z ?_;try clear Z
  have P:(D.map (·.1)).length<=Aw:=by rw[A0,DN];(first|lia|omega)
  refine lP I.wj O c.sa c.po n.akt c.hd B P λK J S=>h _ ?_;have M:∃o,K.get? U=AA o:=let⟨o,_,_,G,_⟩:=J.ns;⟨o,G⟩;refine I.aak (x:=a) (e:=U) (by rw[e];exact GG) (.inr W) (λb q L z=>(S.2 b L).trans z) M ?_;refine⟨by rw[Ac O.ne];exact W,?_,O.ne,J.cn,_,J.ns,λg=>?_,λg N=>?_⟩;.have:=Wb f y D;(first|lia|omega)
  . show HZ ((E2 f y D).lookup g) (if g=f then AA u else Y g);rw[Wg];by_cases q:g=f;.rw[yY q,yY q];exact R
    .rw[yX q,yX q];exact r g
  . by_cases q:g=f;.rw[q];exact(RG f y D).1
    . refine(RG f y D).2 g (B g λz=>N ?_);show(if g=f then AA u else Y g)=AF;rw[yX q];exact z
theorem fW(I:AZ X D z H s):AZ X D z (AN (AN H s.heap.objs.size (.own (s.heap.objs.size+1))) (s.heap.objs.size+1) (.ins C s.heap.objs.size [])) {s with heap:=(s.heap.push KW).push (LI C s.heap.objs.size)}:=by
 have F:(s.heap.push KW).get? s.heap.objs.size=AA KW:=FZ s.heap rfl;have V:((s.heap.push KW).push (LI C s.heap.objs.size)).get? (s.heap.objs.size+1)=AA (LI C s.heap.objs.size):=by have:=FZ (s.heap.push KW) (o:=LI C s.heap.objs.size) rfl;rwa[pI]at this
 have W:(s.heap.push KW).Ns s.heap.objs.size (λ_=>AF):=⟨KW,#[],_,F,rfl,(λe Y=>absurd Y (by simp)),λ_=>rfl⟩;have U:=I.qk (a:=s.heap.objs.size) (o:=.own (s.heap.objs.size+1)) (h':=s.heap.push KW) (t':=s.toks) (λb u q=>Cn _ q) (Al _) ⟨_,F⟩;refine U.qk (a:=s.heap.objs.size+1) (o:=.ins C s.heap.objs.size []) (t':=s.toks) (λb u q=>Cn _ q) (Ht (pI _ _)) ?_;have J:s.heap.objs.size≠s.heap.objs.size+1:=ET (Hu _);refine⟨by rw[Ac J,Ab],CU _,J,V,λ_=>AF,(Heap.Ns1.of_empty W).at λo q=>Cn _ q,λ_=>GG,λy Z=>absurd rfl Z⟩
theorem gL(J:Jf e f env (BI e env)=BI e env)(h:Av (Ao prog w) A (BI e env) (λo D=>Av (Ao prog w) A (qH o f AH) Q E D) E s):Av (Ao prog w) A (BI (.Attribute e f F) env) Q E s:=Attribute_any_ h (by rw[arm_eval_Attribute,J])
noncomputable def Xb(K:Ar)(U:A1)(f:AG):A1:=λV H Q=>U V H λx D=>∃a C J F v,x=.ref a/\D a=AA (.ins C J F)/\Fy K C/\Et K C f/\F.lookup f=AA v/\Q v D
noncomputable def lO(K:Ar)(Y Z:A1)(f:AG):Cf:=λD J H=>Z J H λy W=>Y J W λx U=>∃a C V F,x=.ref a/\U a=AA (.ins C V F)/\Fy K C/\Et K C f/\F.length<1000/\D.nx J (AN U a (.ins C V (E2 f y F)))
theorem Cq{X:BY}(Z:An X e E)(Y:Jf e f X.ae (BI e X.ae)=BI e X.ae):An X (.Attribute e f z) (Xb X.K E f):=by intro D s G H Q I h;refine gL Y (Ay (Z D s G H _ I h) λu s1⟨x,F,J,B,a,C,K,L,v,W,V,c,n,l,q⟩=>?_);subst W;obtain rfl:u=C3 a:=B;exact iH J V c n l λM s2 U A=>⟨v,F,U,A,q⟩
theorem FW{X:BY}{V:Ca}(G:An X o Q)(L:An X F R)(K:LQ F (AA (.Attribute o f U)) V.line X.ae=BZ AQ):D6 X (.Assign [.Attribute o f U] F V) (lO X.K Q R f):=by intro J s W H D I h;refine plainObj_wpAny_Assign_Attribute (Ay (L J s W H _ I h) λu s1⟨y,Y,Z,P,q⟩=>Ay (G J s1 W Y _ Z q) λM s2⟨x,S,z,O,a,C,T,b,E,B,c,n,l,N⟩=>?_) K;subst E;obtain rfl:M=C3 a:=O;exact lQ z B c n l P λs3 A=>⟨W,_,A,N⟩
section
variable{H:AI}
inductive GW(K:Ar)(H:AI):AE->AK->Prop where|non:GW K H .non (.type "NoneType")|bl(x:Bool):GW K H (.bl x) (.type "bool")|int(i:Int):GW K H (.int i) (.type "int")|str(x:AG):GW K H (.str x) (.type "str")|flt(x:UInt64):GW K H (.flt x) (.type "float")|lst{a:AD}{xs:List AE}(e:H a=AA (.lst xs)):GW K H (.ref a) (.type "list")|frz{a:AD}{o:A6}{xs:List AE}(e:H a=AA (.frz o (.lst xs))):GW K H (.ref a) (.type "list")|tup{a:AD}{xs:List AE}(e:H a=AA (.tup xs)):GW K H (.ref a) (.type "tuple")|dK{a:AD}{kvs:List (AL×AE)}(e:H a=AA (.dK kvs)):GW K H (.ref a) (.type "dict")|dT{a:AD}{kvs:List (List AL×AE)}(e:H a=AA (.dT kvs)):GW K H (.ref a) (.type "dict")|ins{a C dx:AD}{fs:List (AG×AE)}(e:H a=AA (.ins C dx fs))(cl:Fy K C)(ha:Bu K (.ref C) "__class__"=AA (AA (.builtin "object.__class__")))(hn:W.specialIn K (.builtin "object.__class__") "__get__"=AA (AA (.builtin "getset_descriptor.__get__")))(htk:W.takesIn K (.builtin "object.__class__")=AA AH)(hm:W.mroIn K C (.type "object")=AA AH):GW K H (.ref a) (.ref C)
end
theorem iR{X:BY}(I:AZ X pins σ H s)(rx:BQ x u)(ty:GW X.K H x t)(e:LJ X.K t c=AA b)(h:∀tk,Q (.bool b) {s with toks:=tk}):Av (Ao X.af X.w) A (HK (.builtin "isinstance") [u,c]) Q E s:=by cases ty with
 |non=>cases(show u=Ya from rx);exact Im W.kitx_none I.wj GG e (λz=>nomatch z) h|bl y=>cases(show u=Od y from rx);exact Im W.kitx_bool I.wj GG e (λz=>nomatch z) h|int i=>obtain⟨t,q⟩:=(show∃t,u=Oe i t from rx);cases q;exact Im W.kitx_int I.wj GG e (λz=>nomatch z) h|str y=>obtain⟨t,q⟩:=(show∃t,u=Of y t from rx);cases q;exact Im W.kitx_str I.wj GG e (λz=>nomatch z) h|flt y=>obtain⟨t,q⟩:=(show∃t,u=pL y t from rx);cases q;exact Im W.kitx_float I.wj GG e (λz=>nomatch z) h|@lst a xs ea=>
  refine AB λnG=>?_;cases(show u=C3 a from rx);obtain⟨_,_,n,_,h1⟩:=(show C5 X.af X.w H s.heap a (.lst xs)from I.bx a _ ea);refine nG ?_;try clear nG
  exact Im vQ I.wj ⟨_,h1,rfl⟩ e (λz=>nomatch z) h|@frz a ob xs ea=>
  refine AB λnG=>?_;cases(show u=C3 a from rx);obtain⟨_,_,_,n,_,h1⟩:=(show C5 X.af X.w H s.heap a (.frz ob (.lst xs))from I.bx a _ ea);refine nG ?_;try clear nG
  exact Im vQ I.wj ⟨_,h1,rfl⟩ e (λz=>nomatch z) h|@tup a xs ea=>
  refine AB λnG=>?_;cases(show u=C3 a from rx);obtain⟨_,_,_,p⟩:=(show C5 X.af X.w H s.heap a (.tup xs)from I.bx a _ ea);obtain⟨o,h1,h2,_⟩:=p;refine nG ?_;try clear nG
  exact Im W.kitx_tuple I.wj ⟨o,h1,h2⟩ e (λz=>nomatch z) h|@dK a kvs ea=>
  refine AB λnG=>?_;cases(show u=C3 a from rx);obtain⟨_,_,vs,_,p⟩:=(show C5 X.af X.w H s.heap a (.dK kvs)from I.bx a _ ea);obtain⟨o,es,ep,h1,h2,_⟩:=p;refine nG ?_;try clear nG
  exact Im vP I.wj ⟨o,h1,h2.1⟩ e (λz=>nomatch z) h|@dT a kvs ea=>
  refine AB λnG=>?_;cases(show u=C3 a from rx);obtain⟨_,_,xs,_,o,es,ep,h1,h2,_⟩:=(show C5 X.af X.w H s.heap a (.dT kvs)from I.bx a _ ea);refine nG ?_;try clear nG
  exact Im vP I.wj ⟨o,h1,h2.1⟩ e (λz=>nomatch z) h|@ins a C dx fs ea cl ha hn htk hm=>
  refine AB λnG=>?_;cases(show u=C3 a from rx);obtain⟨mA,O,_⟩:=N0 I.bx ea;obtain⟨od,J,_⟩:=O.ahy;refine nG ?_;try clear nG
  exact Im (W.kitx_own (cl.aae _) cl.hd ha hn htk hm) I.wj J e (λz=>nomatch z) h
structure DK(k:Nat)(A:Cy):Prop where
 hd:A.handled=AF
 dp:A.depth+3*k+5<v9
 un:A.units+16*k+200<GC
theorem DK.bb(r:DK k A)(h:j<=k):DK j A:=⟨r.hd,by have:=r.dp;(first|lia|omega),by have:=r.un;(first|lia|omega)⟩
theorem DK.ajc{A:Cy}(r:DK (k+1) A)(env:Dm):DK k (A.deeper env):=⟨r.hd,by have:=r.dp;show A.depth+1+3*k+5<_;(first|lia|omega),by have:=r.un;show A.units+3+16*k+200<_;(first|lia|omega)⟩
theorem DK.akf{A:Cy}(r:DK (k+1) A):DK k A.in1:=⟨r.hd,by have:=r.dp;show A.depth+3*k+5<_;(first|lia|omega),by have:=r.un;show A.units+1+16*k+200<_;(first|lia|omega)⟩
theorem jF{A:Cy}:(A.under (.builtin "type.__call__" ⟨.ref C::us,D⟩)).depth=A.depth+1:=by first|rfl|simp[Around.under,Code.weight,Code.isCreation,Code.isGuard,Code.isCaller,Code.frames,Code.isFrame,guardIds]
theorem jH{A:Cy}:(A.under (.builtin "type.__call__" ⟨.ref C::us,D⟩)).units=A.units+1:=by first|rfl|simp[Around.under,Code.cUnits,Code.frames,Code.isFrame]
theorem DK.ajg{A:Cy}(r:DK (k+1) A)(C:AD)(us:List AK)(D:List (AG×AK)):DK k (A.under (.builtin "type.__call__" ⟨.ref C::us,D⟩)):=⟨r.hd,by have:=r.dp;rw[jF];(first|lia|omega),by have:=r.un;rw[jH];(first|lia|omega)⟩
theorem DK.akb{A:Cy}(r:DK k A):A.depth<v9:=by have:=r.dp;(first|lia|omega)
theorem DK.aiz{A:Cy}(r:DK k A):A.units+64<GC:=by have:=r.un;(first|lia|omega)
theorem DK.ajm{A:Cy}(r:DK k A):A.units<GC:=by have:=r.un;(first|lia|omega)
noncomputable def Rm:EF:=λ_ H Q=>Q [] H
noncomputable def mD(U:A1)(V:EF):EF:=λD H Q=>U D H λx F=>V D F λW J=>Q (x::W) J
theorem AW:Ec X [] Rm:=λ_ _ _ _ H Q I h=>Oa ⟨[],H,I,.nil,h⟩
theorem AJ{X:BY}(q:An X e E)(z:Ec X J t)(A:Bv (e::J) X.ae=(AQ,BI e X.ae)::Bv J X.ae:=by rfl):Ec X (e::J) (mD E t):=by intro F D s U H Q I h;rw[A];show Av _ _ (spliced ((AQ,BI e X.ae)::EV F (Bv J X.ae))) _ _ s;refine Mb (Ay (q D s U H _ I h) λu s1⟨x,V,Y,r1,B⟩=>?_);exact Ay (z F D s1 U V _ Y B) λK s2⟨G,W,Z,r2,C⟩=>⟨x::G,W,Z,.cons r1 r2,C⟩
noncomputable def m7(t:EF):A1:=λJ H Q=>t J H λF D=>F.length<=Aw/\∀p,D p=AF->Q (.ref p) (AN D p (.tup F))
noncomputable def mQ(t:EF):A1:=λJ H Q=>t J H λF D=>F.length<=Aw/\∀p,D p=AF->Q (.ref p) (AN D p (.lst F))
theorem Cw(h:Ec X V t):An X (.Tuple V A F) (m7 t):=by intro D s C H Q I Y;refine wpAny_Tuple_spliced (Ay (h F D s C H _ I Y) λZ s1⟨B,J,U,r,z,q⟩=>⟨by rw[<-r.ai];exact z,?_⟩);have W:J s1.heap.objs.size=AF:=U.bx.bo (Al _);refine⟨.ref s1.heap.objs.size,AN J s1.heap.objs.size (.tup B),U.qk (t':=s1.toks) (λb u e=>Cn _ e) (Al _) ?_,rfl,q _ W⟩;exact⟨z,Z,r,⟨_,FZ _ rfl,rfl,_,rfl⟩⟩
theorem Dl(h:Ec X V t):An X (.List V F) (mQ t):=by intro D s B H Q I Y;refine wpAny_List_spliced (Ay (h F D s B H _ I Y) λZ s1⟨A,J,U,r,z,q⟩=>⟨by rw[<-r.ai];exact z,?_⟩);have W:J s1.heap.objs.size=AF:=U.bx.bo (Al _);refine⟨.ref s1.heap.objs.size,AN J s1.heap.objs.size (.lst A),U.qk (t':=s1.toks) (λb u e=>Cn _ e) (Al _) ?_,rfl,q _ W⟩;exact⟨z,Z,0,r,FZ _ rfl⟩
noncomputable abbrev BF:=List AE->AI->Bn->F3->Prop
noncomputable abbrev HV:=List Dm->AI->AY->F3->AK->AY->Prop
structure JB(P:CQ)(w:Bq)(K:Ar)(mg:AG->Option AK)(base:BG)(A:Cy)(outer:List Dm)(s:AY)(H:AI):Prop where
 qj:A.frames=AA outer
 aah:Ng K mg base
 bs:∀b o,base.get? b=AA o->s.heap.get? b=AA o/\H b=AF
 ahs:base.objs.size<=s.heap.objs.size
 vb:s.heap.FunFrames base outer
 ais:∀b∈Ew outer,H b=AF
 bx:Ci P w H s.heap
 jx:KN s.gens
noncomputable def Qs(D:List Dm)(P:CQ)(w:Bq)(H:AI)(s:AY)(Q:Bn)(u:AK)(s':AY):Prop:=∃v F,s'.os=s.os/\KN s'.gens/\FR (Ew D) [] H F s.heap s'.heap/\Ci P w F s'.heap/\BQ v u/\Q v F
noncomputable def fT(CX:HV)(D:List Dm)(P:CQ)(w:Bq)(H:AI)(s:AY)(Q:Bn)(E:F3)(r:Result)(s':AY):Prop:=match r with|.ok (.ret u)=>Qs D P w H s Q u s'|.ok _=>False|.error e=>CX D H s E e s'
structure A8(P:CQ)(w:Bq)(K:Ar)(mg:AG->Option AK)(base:BG)(CX:HV)(k:Nat)(f:AD)(fd:Ag)(ps:List AG)(sp:BF):Prop where
 dh:∀vs H Q E,sp vs H Q E->vs.length=ps.length
 alb:∀(A:Cy)(outer:List Dm)(s:AY)(H:AI)(args:Args)(us:List AK)(vs:List AE)(Q:Bn)(E:F3),DK k A->JB P w K mg base A outer s H->OZ s fd args (ps.zip us)->BJ vs us->sp vs H Q E->LO (Ao P w) A (.call (.ref f) args) (fT CX outer P w H s Q E) s
theorem JB.ajg{K:Ar}{A:Cy}(e:JB P w K F base A D s H)(C:AD)(us:List AK)(J:List (AG×AK)):JB P w K F base (A.under (.builtin "type.__call__" ⟨.ref C::us,J⟩)) D s H:=⟨by first|exact e.qj|(simpa[Around.under,Code.envs,Code.isFrame,pushEnvs]using e.frames),e.aah,e.bs,e.ahs,e.vb,e.ais,e.bx,e.jx⟩
theorem JB.akf{K:Ar}{A:Cy}(e:JB P w K F base A D s H):JB P w K F base A.in1 D s H:=⟨e.qj,e.aah,e.bs,e.ahs,e.vb,e.ais,e.bx,e.jx⟩
theorem AZ.aje{X:BY}(I:AZ X D F H s):JB X.af X.w X.K X.mg X.ah X.A X.cb s H:=⟨I.ok.qj,I.ok.aah,I.bs,CL I.ok.ahs I.sz,I.cb,I.afa,I.bx,I.jx⟩
theorem AZ.agi{X:BY}(I:AZ X F B H s)(h:Qs X.cb X.af X.w H s Q u s'):ED X F B Q u s':=by
 refine AB λV=>?_;obtain⟨v,W,Z,D,A,J,r,q⟩:=h;obtain⟨Y,g,d,t,U⟩:=s';obtain rfl:U=s.os:=Z;refine V ?_;try clear V
 exact⟨v,W,I.ajz (h':=Y) (g':=g) (d':=d) (t':=t) (ch:=[]) A J D (λb z=>absurd z (by simp)),r,q⟩
noncomputable def XY(sp:BF)(D:List AE)(E:F3)(t:EF):A1:=λU H Q=>t U H λJ F=>sp (J++D) F Q E
noncomputable def Xd(C:AD)(m:AG)(sp:BF)(D:List AE)(E:F3)(Z:A1)(t:EF):A1:=λU H Q=>Z U H λx F=>∃a Y J,x=.ref a/\F a=AA (.ins C Y J)/\J.lookup m=AF/\t U F λq W=>sp (x::(q++D)) W Q E
noncomputable def Xc(C:AD)(sp:BF)(J:List AE)(E:F3)(t:EF):A1:=λY H Q=>t Y H λW F=>∀x D,F x=AF->F D=AF->D≠x->sp (.ref x::(W++J)) (AN (AN F D (.own x)) x (.ins C D [])) (λv U=>v=.non/\Q (.ref x) U) E
noncomputable def BA(K:Ar)(J:Ag)(ps:List AG)(F:List AK):Prop:=∀(s:AY)(D:List AK),K.In s.heap->(D++F).length=ps.length->OZ s J ⟨D,[]⟩ (ps.zip (D++F))
theorem BA.afd{K:Ar}{ps:List AG}(h:∀us:List AK,us.length=ps.length->bindArgs D ⟨us,[]⟩=BZ (ps.zip us)):BA K D ps []:=λs us _ F=>by rw[FG]at F⊢;exact .of_eq (h us F)
noncomputable def JF(CX:HV)(X:BY)(E:F3):Prop:=∀(D:List (AD×A6))(J:Am)(H:AI)(s:AY)(e:AK)(F:AY),AZ X D J H s->CX X.cb H s E e F->X.xe e F
theorem Rj{X:BY}(F:A8 X.af X.w X.K X.mg X.ah CX k f Z ps sp)(C:DK k X.A)(z:BA X.K Z ps W)(A:BJ J W)(G:JF CX X E)(I:AZ X D Y H s)(r:BJ vs us)(h:sp (vs++J) H Q E):Av (Ao X.af X.w) X.A (HK (.ref f) us) (ED X D Y Q) X.xe s:=by
 have r2:BJ (vs++J) (us++W):=r.uf A;have B:(us++W).length=ps.length:=by rw[<-r2.ai];exact F.dh _ _ _ _ h
 refine qQ (SM (F.alb X.A X.cb s H ⟨us,[]⟩ (us++W) (vs++J) Q E C I.aje (z s us I.wj B) r2 h) λr K U=>?_);cases r with|error e=>exact G D Y H s e K I U|ok q=>cases q with|ret u=>exact I.agi U|next=>exact Ft U|brk=>exact Ft U|cont=>exact Ft U
theorem Cj{X:BY}{x:AG}(F:A8 X.af X.w X.K X.mg X.ah CX k f A ps sp)(O:DK k X.A)(L:Eb X x)(N:X.mg x=AA (.ref f))(M:Il X.K (.ref f)=AH)(C:BA X.K A ps z)(G:BJ V z)(P:JF CX X E)(B:Ec X (e::U) t)(W:(x==("__debug__":AG))=AQ:=by decide)(K:Bv (e::U) X.ae=(AQ,BI e X.ae)::Bv U X.ae:=by rfl)(Y:(EV J (Bv U X.ae)).any (·.1)=AQ:=by rfl):An X (.Call (.Name x p) (e::U) [] J) (XY sp V E t):=by intro D s R H Q I h;refine Mo (L8 I L N ?_ W);refine pP (h₀:=X.ah) I.ok.aah.aki M (Ay (B J D s R H _ I h) λT s1⟨a,S,Z,r,q⟩=>⟨Z.wj,?_⟩) K Y;exact Rj F O C G P Z r q
theorem Gp{X:BY}{apos:Ca}(he:An X o ta)(c:Fy X.K C)(hm:EE X.K C m f)(F:A8 X.af X.w X.K X.mg X.ah CX k f fd ps sp)(hr:DK k X.A)(hb:BA X.K fd ps ds)(hd:BJ dvs ds)(hx:JF CX X E)(ha:Ec X (e::es) t)(hst:Bv (e::es) X.ae=(AQ,BI e X.ae)::Bv es X.ae:=by rfl)(hpl:(EV pos (Bv es X.ae)).any (·.1)=AQ:=by rfl)(ht:BI (.Call (.Attribute o m apos) (e::es) [] pos) X.ae=(do
 let ov<-BI o X.ae
 qL apos.atName let(f,first)<-qI [ov] (Yj ov m pl)callWith pos f first (EV pos (Bv (e::es) X.ae)) (Mi pos (Ml [] X.ae))):=by rfl):An X (.Call (.Attribute o m apos) (e::es) [] pos) (Xd C m sp dvs E ta t):=by intro pins s σ H Q I h;refine vR (pl:=pl) (Ay (he pins s σ H _ I h) λu s1⟨x,H1,I1,rx,a,dx,fs,ex,ea,l,q⟩=>?_) ht;subst ex;obtain rfl:u=C3 a:=rx;refine WN I1 ea c hm l ?_;refine pP (first:=[.ref a]) (h₀:=X.ah) I.ok.aah.aki hm.kp (Ay (ha pos pins s1 σ H1 _ I1 q) λus s2⟨vs,H2,I2,r,q2⟩=>⟨I2.wj,?_⟩) hst hpl;exact Rj (us:=.ref a::us) (vs:=.ref a::vs) F hr hb hd hx I2 (.cons rfl r) q2
theorem kG{X:BY}{J:Ca}(M:An X o S)(c:Fy X.K C)(Y:EE X.K C m f)(F:A8 X.af X.w X.K X.mg X.ah CX k f G ps sp)(N:DK k X.A)(K:BA X.K G ps z)(L:BJ W z)(P:JF CX X E)(O:BI (.Call (.Attribute o m J) [] [] D) X.ae=(do
 let Z<-BI o X.ae
 qL J.atName let(f,first)<-qI [Z] (Yj Z m pl)callWith D f first (EV D (Bv [] X.ae)) (Mi D (Ml [] X.ae))):=by rfl):An X (.Call (.Attribute o m J) [] [] D) (Xd C m sp W E S Rm):=by intro U s T H Q I h;refine vR (pl:=pl) (Ay (M U s T H _ I h) λu s1⟨x,b,V,R,a,d,e,B,A,l,q⟩=>?_) O;subst B;obtain rfl:u=C3 a:=R;refine WN V A c Y l ?_;exact vI (first:=[.ref a]) V.wj Y.kp (Rj (us:=[.ref a]) (vs:=[.ref a]) F N K L P V (.cons rfl .nil) q)
section
variable{f C:AD}
structure JC(K:Ar)(C f:AD):Prop where
 akm:Mg K C=AH
 ali:Bu K (.ref C) "__init__"=AA (AA (.ref f))fn:EU K (.ref f)=AH
 kp:Il K (.ref C)=AH
end
theorem XN{X:BY}(M:JC X.K C f)(F:A8 X.af X.w X.K X.mg X.ah CX k f N ps sp)(T:DK (k+1) X.A)(P:BA X.K N ps Y)(R:BJ U Y)(a:JF CX X E)(I:AZ X J q H s)(r:BJ vs us)(h:∀x Z,H x=AF->H Z=AF->Z≠x->sp (.ref x::(vs++U)) (AN (AN H Z (.own x)) x (.ins C Z [])) (λv G=>v=.non/\Q (.ref x) G) E):Av (Ao X.af X.w) X.A (HK (.ref C) us) (ED X J q Q) X.xe s:=by
 have z:=h (s.heap.objs.size+1) s.heap.objs.size (I.bx.bo (Ii _)) (I.bx.bo (Al _)) (ET (Hu _));have W:=fW (C:=C) I;have r2:BJ (AE.ref (s.heap.objs.size+1)::(vs++U)) (C3 (s.heap.objs.size+1)::(us++Y)):=.cons rfl (r.uf R);have S:(C3 (s.heap.objs.size+1)::us++Y).length=ps.length:=by have e:=r2.ai;rw[F.dh _ _ _ _ z]at e;exact e.symm
 refine qQ (jG (f:=f) I.wj M.akm M.ali (zC.mp M.fn) (SM (F.alb _ X.cb _ _ ⟨C3 (s.heap.objs.size+1)::us,[]⟩ (C3 (s.heap.objs.size+1)::(us++Y)) _ _ E (T.ajg C us []) (W.aje.ajg C us []) (P _ (C3 (s.heap.objs.size+1)::us) W.wj S) r2 z) λr d D=>?_));cases r with |error e=>exact a J q _ _ e d W D|ok O=>cases O with
  |ret u=>
   refine AB λA=>?_;obtain⟨v,B,K,c,L,b⟩:=W.agi D;refine A ?_;try clear A
   subst L;exact⟨c,⟨AE.ref (s.heap.objs.size+1),B,K,rfl,b⟩⟩|next=>exact Ft D|brk=>exact Ft D|cont=>exact Ft D
theorem OD{X:BY}{x:AG}(M:JC X.K C f)(F:A8 X.af X.w X.K X.mg X.ah CX k f A ps sp)(P:DK (k+1) X.A)(N:Eb X x)(O:X.mg x=AA (.ref C))(G:BA X.K A ps z)(K:BJ V z)(R:JF CX X E)(B:Ec X (e::U) t)(W:(x==("__debug__":AG))=AQ:=by decide)(L:Bv (e::U) X.ae=(AQ,BI e X.ae)::Bv U X.ae:=by rfl)(Y:(EV J (Bv U X.ae)).any (·.1)=AQ:=by rfl):An X (.Call (.Name x p) (e::U) [] J) (Xc C sp V E t):=by intro D s S H Q I h;refine Mo (L8 I N O ?_ W);refine pP (h₀:=X.ah) I.ok.aah.aki M.kp (Ay (B J D s S H _ I h) λa s1⟨b,T,Z,r,q⟩=>⟨Z.wj,?_⟩) L Y;exact XN M F P G K R Z r q
theorem W2{X:BY}{x:AG}(M:JC X.K C f)(F:A8 X.af X.w X.K X.mg X.ah CX k f W ps sp)(A:DK (k+1) X.A)(q:Eb X x)(z:X.mg x=AA (.ref C))(Y:BA X.K W ps V)(Z:BJ D V)(B:JF CX X E)(J:(x==("__debug__":AG))=AQ:=by decide):An X (.Call (.Name x p) [] [] G) (Xc C sp D E Rm):=by intro U s K H Q I h;refine Mo (L8 I q z ?_ J);exact vI I.wj M.kp (XN (us:=[]) M F A Y Z B I .nil h)
structure BV(N P:List AG)(sc:EI):Prop where
 lh:sc.kind=.function
 co:sc.isCoroutine=AQ
 ami:sc.isGenerator=AQ
 nd:N.Nodup
 alq:N.take P.length=P
 amd:∀x∈P,sc.names.lookup x=AA .local\/sc.names.lookup x=AA .cell
 aji:∀y∈sc.names,y.2≠.free
theorem Vw:∀{D:List (AG×AK)}{m:AG->Option AK},(∀v,(x,v)∉D)->LM F D m x=m x
  |[],_,_=>rfl|(n,v)::r,m,h=>by
    unfold LM;rw[Vw λw hw=>h w (ER _ hw)];split
    . have:x≠n:=by rintro rfl;exact h v DR
      simp[this]
    .rfl
theorem Vu:∀{D:List (AG×AK)}{m:AG->Option AK},(∀v,(x,v)∉D)->LK F D m x=m x
  |[],_,_=>rfl|(n,v)::r,m,h=>by
    unfold LK;rw[Vu λw hw=>h w (ER _ hw)];split;.rfl
    . have:x≠n:=by rintro rfl;exact h v DR
      simp[this]
theorem Vv:∀{P:List AG}{vs:List AK}{i:Nat}{m:AG->Option AK},P.Nodup->P[i]?=AA x->vs[i]?=AA v->D x=AA .local->LM D (P.zip vs) m x=AA v|[],_,_,_,_,h,_,_=>by simp at h|_::_,[],_,_,_,_,h,_=>by simp at h|p::P,w::vs,0,m,V,F,J,U=>by simp at F J;subst F;subst J;show LM D ((p,w)::P.zip vs) m p=_;unfold LM;rw[Vw λv W=>(Ih.mp V).1 (X4 W).1,yY U];simp|p::P,w::vs,i+1,m,V,F,J,U=>by show LM D ((p,w)::P.zip vs) m x=_;unfold LM;exact Vv (i:=i) (Ih.mp V).2 (by simpa using F) (by simpa using J) U
theorem Vt:∀{P:List AG}{vs:List AK}{i:Nat}{m:AG->Option AK},P.Nodup->P[i]?=AA x->vs[i]?=AA v->D x≠AA .local->LK D (P.zip vs) m x=AA v|[],_,_,_,_,h,_,_=>by simp at h|_::_,[],_,_,_,_,h,_=>by simp at h|p::P,w::vs,0,m,V,F,J,U=>by simp at F J;subst F;subst J;show LK D ((p,w)::P.zip vs) m p=_;unfold LK;rw[Vu λv W=>(Ih.mp V).1 (X4 W).1,yX U];simp|p::P,w::vs,i+1,m,V,F,J,U=>by show LK D ((p,w)::P.zip vs) m x=_;unfold LK;exact Vt (i:=i) (Ih.mp V).2 (by simpa using F) (by simpa using J) U
noncomputable def JV(N:List AG)(vs:List AE):Am:=vs.map AA++Dz (N.length-vs.length) AF
noncomputable def Kv(CX:HV)(P:CQ)(w:Bq)(K:Ar)(Y:AG->Option AK)(base:BG)(N:List AG)(J:AG)(D:EI)(f:AD)(V:AK)(A:Cy)(F:List Dm)(s:AY)(H:AI)(E:F3):BY where
 af:=P
 w:=w
 K:=K
 mg:=Y
 ah:=base
 A:=A.deeper (KP J D s.heap.objs.size f V)
 N:=N
 s₀:=s
 H₀:=H
 ae:=KP J D s.heap.objs.size f V
 xi:=F
 cb:=KP J D s.heap.objs.size f V::F
 ex:=[]
 ic:=AH
 fn:=λ_=>AH
 pn:=[]
 xe:=λe Z=>Av (Ao P w) (A.deeper (KP J D s.heap.objs.size f V)) (leaving (KP J D s.heap.objs.size f V) e) (λ_ U=>CX F H s E e U) (λW U=>CX F H s E W U) Z
theorem V5{D:EI}(h:D.names.lookup x=AA .cell):∃c,(qE n D.names []).lookup x=AA c:=by have q:=vJ D.names n [] (.inl h);exact oK.mp q
theorem iQ{K:Ar}{ps:List AG}{D:EI}{A:Cy}{s:AY}{vs:List AE}(S:BV N ps D)(X:A.handled=AF)(W:JB P w K O base A F s H)(l:vs.length=ps.length)(r:BJ vs us)(x:InCallC s s.heap.objs.size (LM (KP J D s.heap.objs.size f I).kindOf (ps.zip us) λ_=>AF) (qE (s.heap.objs.size+1) D.names []) (LK (KP J D s.heap.objs.size f I).kindOf (ps.zip us) λ_=>AF) s1):AZ (Kv CX P w K O base N J D f I A F s H E) [] (JV N vs) H s1:=by
  have d:ps.length<=N.length:=by have:=yZ LA S.alq;rw[EA]at this;(first|lia|omega)
  refine AB λC=>?_;obtain⟨L,m,rfl,Q⟩:=x.done;refine C ?_;try clear C
  have Z:∀b:AD,b∉(Kv CX P w K O base N J D f I A F s H E).ex:=λb z=>absurd (show b∈([]:List AD)from z) (by simp);refine⟨⟨W.aah,S.lh,rfl,rfl,Al _,λy z c L U=>?_,λy Y=>?_,λy c _ h=>?_,λ_=>X,Around.frames_deeper W.qj,.inr ⟨rfl,rfl⟩,λb z=>absurd z (Z b),W.bs,W.ahs,λb _ _=>Z b,λb z=>absurd z (Z b),W.vb,W.ais⟩,rfl,W.jx,Nq Q,⟨_,x.toInCall.ns,λi y v L U j=>?_⟩,λy c h=>⟨_,x.cell y c h⟩,W.bx.bo (Al _),λy c h=>?_,λp B=>absurd (show p∈([]:List (AD×A6))from B) (by simp),W.bx.jf Q,?_⟩;.exact name_of_addr x.apart (Mm L) (Mm U)
  . have Y:D.names.lookup y=AA .cell\/D.names.lookup y=AA .free:=Y;rcases Y with Y|Y;.exact V5 Y
    .exact absurd rfl (S.aji _ (Mm Y))
  .exact R5 (x.above y c (Mm h))
  . have M:i<vs.length:=by
      unfold JV at U;by_cases M:i<vs.length;.exact M
      . rw[MV (by simpa using M)]at U;rw[sJ]at U;split at U<;>cases U
    have T:vs[i]?=AA v:=by unfold JV at U;rw[K9 (by simpa using M),Bx]at U;cases e:vs[i]? with|none=>rw[e]at U;cases U|some a=>rw[e]at U;cases U;rfl
    refine AB λC=>?_;obtain⟨u,R,g⟩:=r.aae T;refine C ?_;try clear C
    have B:ps[i]?=AA y:=by rw[<-S.alq,Xy (by(first|lia|omega))];exact L
    have G:ps.Nodup:=by rw[<-S.alq];exact S.nd.sublist (sY _ _)
    refine⟨u,g,?_⟩;rcases S.amd y (DW B)with k|k;.exact .inl ⟨k,Vv G B R k⟩
    . obtain⟨c,e⟩:=V5 (n:=s.heap.objs.size+1) k;refine .inr ⟨.inl k,c,e,?_⟩;have q:=x.cell y c e;rw[Vt G B R (by show D.names.lookup y≠_;rw[k];decide)]at q;exact q
  .exact W.bx.bo (R5 (x.above y c (Mm h)))
  . unfold JV;show _=N.length;rw[CA,A0,sP];(first|lia|omega)
theorem h9{K:Ar}{ps:List AG}(lk:K.lookup f=AA ⟨oc,od,.func (Oh name qual params body scope dV kV doc pm an cdv ct),osl⟩)(hcd:pQ K cdv qual=AH)(S:BV N ps scope)(len:∀vs H Q E,sp vs H Q E->vs.length=ps.length)(hbody:∀(A:Cy)(outer:List Dm)(s:AY)(H:AI)(vs:List AE)(Q:Bn)(E:F3),DK k (A.deeper (KP qual scope s.heap.objs.size f cdv))->sp vs H Q E->∃t,F0 (Kv CX P w K mg base N qual scope f cdv A outer s H E) body t/\t {nx:=λ_ H'=>Q .non H',rt:=Q} (JV N vs) H):A8 P w K mg base CX (k+1) f (Oh name qual params body scope dV kV doc pm an cdv ct) ps sp:=by
 refine⟨len,λA outer s H args us vs Q E hr e0 hb r hsp=>?_⟩;have hl:=len _ _ _ _ hsp;have KX:K.In s.heap:=e0.aah.aki.keeps λb o e=>(e0.bs b o e).1;have lim:s.heap.NoLimit:=e0.aah.aij.keeps λb o e=>(e0.bs b o e).1;have hkind:∀y∈ps.zip us,scope.names.lookup y.1=AA .local\/(scope.names.lookup y.1=AA .cell/\((qE (s.heap.objs.size+1) scope.names []).lookup y.1).isSome=AH):=λ⟨n,v⟩hy=>by
  rcases S.amd n (X4 hy).1 with q|q;.exact .inl q
  .exact .inr ⟨q,vJ _ _ _ (.inl q)⟩
 refine codeAny_call_function hr.akb (KX _ _ lk) rfl S.co S.ami rfl (W.codeRec_of KX hcd) (hb _ _ _ _ ?_);refine wpAny_newFunctionEnv_cells S.lh hkind λenv he s1 x=>?_;subst he;refine⟨lim.keeps x.toInCall.keep,codeAny_func ?_⟩;refine AB λnG=>?_;obtain⟨t,ht,hq⟩:=hbody A outer s H vs Q E (hr.ajc _) hsp;refine nG ?_;try clear nG
 have I:AZ (Kv CX P w K mg base N qual scope f cdv A outer s H E) [] (JV N vs) H s1:=iQ S hr.hd e0 hl r x;refine Ge (ht [] s1 (JV N vs) H _ I hq) (λfl s' hs=>?_) λe s' hs=>hs;have fin:∀{σ':Am}{H':AI}{v:AE}{u:AK},AZ (Kv CX P w K mg base N qual scope f cdv A outer s H E) [] σ' H' s'->BQ v u->Q v H'->Qs outer P w H s Q u s':=λ{σ' H' v u}J rv q=>⟨v,H',J.os,J.jx,J.ah,J.bx,rv,q⟩;cases fl with
 |ret u=>
  refine AB λnG=>?_;obtain⟨v,σ',H',J,rv,q⟩:=hs;refine nG ?_;try clear nG
  exact fin J rv q|next=>
  refine AB λnG=>?_;obtain⟨σ',H',J,q⟩:=hs;refine nG ?_;try clear nG
  exact fin (v:=AE.non) (u:=Ya) J rfl q|brk=>
  refine AB λnG=>?_;obtain⟨_,_,_,q⟩:=hs;refine nG ?_;try clear nG
  exact Ft q|cont=>
  refine AB λnG=>?_;obtain⟨_,_,_,q⟩:=hs;refine nG ?_;try clear nG
  exact Ft q
noncomputable def XX(r:List AE->AI->Bn->Prop)(t:EF):A1:=λJ H Q=>t J H λF D=>r F D Q
theorem DQ{X:BY}{x:AG}{id:String}(z:Ea X (.builtin id) r)(B:Eb X x)(C:X.mg x=AF)(G:Mj x=AA (.builtin id))(q:Ec X (e::J) t)(E:x≠"__name__":=by decide)(U:(x==("__debug__":AG))=AQ:=by decide)(A:Bv (e::J) X.ae=(AQ,BI e X.ae)::Bv J X.ae:=by rfl)(V:(EV F (Bv J X.ae)).any (·.1)=AQ:=by rfl):An X (.Call (.Name x p) (e::J) [] F) (XX r t):=by intro D s W H Q I h;refine Mo (G7 I B C G ?_ E U);exact wZ (Ay (q F D s W H _ I h) λL s1⟨M,Y,Z,r1,K⟩=>z D s1 W Y M L Q Z r1 K) A V
theorem Ia{X:BY}{x:AG}(z:Ea X (.type T) r)(B:Eb X x)(C:X.mg x=AF)(G:Mj x=AA (.type T))(q:Ec X (e::J) t)(E:x≠"__name__":=by decide)(U:(x==("__debug__":AG))=AQ:=by decide)(A:Bv (e::J) X.ae=(AQ,BI e X.ae)::Bv J X.ae:=by rfl)(V:(EV F (Bv J X.ae)).any (·.1)=AQ:=by rfl):An X (.Call (.Name x p) (e::J) [] F) (XX r t):=by intro D s W H Q I h;refine Mo (G7 I B C G ?_ E U);exact LF (Ay (q F D s W H _ I h) λL s1⟨M,Y,Z,r1,K⟩=>z D s1 W Y M L Q Z r1 K) A V
theorem ZJ{s:AY}{vs D:List AK}(R:R6 s.heap t vs.toArray)(P:R6 s.heap b D.toArray)(H:vs≠[])(N:D=[]->Q (.ref t) s)(O:D≠[]->Q (.ref s.heap.objs.size) {s with heap:=s.heap.push {cls:=.type "tuple",data:=.seq (vs++D).toArray}})(hsz:vs.length+D.length<=Aw):Av (Ao prog w) A (Fb .Add (.ref t) (.ref b)) Q E s:=by
 refine AB λK=>?_;obtain⟨⟨M,B,z,L⟩,Y,C,n,G⟩:=id R;obtain⟨⟨q,J,Z,W⟩,F,U,I,V⟩:=id P;refine K ?_;try clear K
 simp only at C G U V;subst C G U V;have e:vs.toArray++D.toArray=(vs++D).toArray:=by simp
 by_cases hw:D=[];.exact vV ⟨_,Y,rfl⟩ ⟨_,F,rfl⟩ v7 wB uQ uJ (uG _ _) (tuple_addW1 t b vs.toArray D.toArray n I B J L W (by simpa using H) (by simp[hw])) ⟨Y,F,N hw⟩
 . refine vV ⟨_,Y,rfl⟩ ⟨_,F,rfl⟩ v7 wB uQ uJ (uG _ _) (tuple_addW2 t b vs.toArray D.toArray n I B J L W (by simpa using H) (by simpa using hw) (by rw[D1,D1];exact hsz)) ⟨Y,F,?_⟩;rw[e];exact O hw
noncomputable def BW(n d:Nat):Option Int->Nat|AF=>d|AA v=>if v<0 then(v+(n:Int)).toNat else Cs v.toNat n
theorem ZO(n d k:Nat):BW n d (AA (k:Int))=Cs k n:=by show(if(k:Int)<0 then((k:Int)+(n:Int)).toNat else Cs (k:Int).toNat n)=Cs k n;rw[yX (by(first|lia|omega)),Int.toNat_natCast]
theorem ZN(n d:Nat)(F:d<=n)(o:Option Int):BW n d o<=n:=by cases o with |none=>exact F|some v=>
 show(if v<0 then(v+(n:Int)).toNat else Cs v.toNat n)<=n;by_cases D:v<0;.rw[yY D];(first|lia|omega)
 .rw[yX D];exact Nat.min_le_right _ _
theorem SW(v:Int)(n d:Nat):(if v<0 then Gb (v+(n:Int)) 0 else Cs v (n:Int))=((BW n d (AA v):Nat):Int):=by
 show(if v<0 then Gb (v+(n:Int)) 0 else Cs v (n:Int))=(((if v<0 then(v+(n:Int)).toNat else Cs v.toNat n):Nat):Int);by_cases D:v<0;.simp only[yY D];(first|lia|omega)
 .simp only[yX D];(first|lia|omega)
theorem ZI(lo hi:Option Int)(n:Nat):pD lo hi 1 (n:Int)=(((BW n 0 lo:Nat):Int),((BW n n hi:Nat):Int)):=by
 have D:¬((1:Int)<0):=by(first|lia|omega)
 unfold pD;simp only[D,y8];refine YC ?_ ?_;.cases lo with|none=>rfl|some v=>exact SW v n 0
 .cases hi with|none=>rfl|some v=>exact SW v n n
theorem ZM(i j:Nat):YN (i:Int) (j:Int) 1=j-i:=by
 unfold YN;have D:(1:Int)>0:=by(first|lia|omega)
 simp only[D,y9,Int.ediv_one];split<;>(first|lia|omega)
theorem SX(p:KS v o)(h:Q o s):Av (Ao prog w) A (xC v) Q E s:=by cases p with|none=>exact tX h|int i t=>exact slicePart_int h
theorem ZP{lo hi:Option Int}{n:Nat}(Z:s.heap.IsSliceOf W J U .none)(pl:KS J lo)(q:KS U hi)(h:Q (((BW n 0 lo:Nat):Int),1,BW n n hi-BW n 0 lo) s):Av (Ao prog w) A (t9 (.ref W) (BZ (n:Int))) Q E s:=by
 refine AB λV=>?_;obtain⟨z,F,Y,D⟩:=id Z;refine V ?_;try clear V
 unfold t9 xB;refine A4 (A4 (qR F D (x:=J) rfl (A4 (qR F D (x:=U) rfl (A4 (qR F D (x:=.none) rfl (Cg ?_)))))));refine A4 (tX ?_);show Av _ _ (if((1:Int)==0)=AH then _ else _) _ _ s;rw[yX (by decide)];refine A4 (SX pl (A4 (SX q (A4 (Cg ?_)))));show Av _ _ (match pD lo hi 1 (n:Int)with|(lo,hi)=>BZ (lo,(1:Int),YN lo hi 1)) _ _ s;rw[ZI lo hi n];show Av _ _ (BZ (((BW n 0 lo:Nat):Int),(1:Int),YN ((BW n 0 lo:Nat):Int) ((BW n n hi:Nat):Int) 1)) _ _ s;rw[ZM];exact Cg h
theorem ZL(xs:Array AK)(i k:Nat):((Fp k).filterMap λ(m:Nat)=>xs[((i:Int)+(m:Int)*1).toNat]?).toArray=((xs.toList.drop i).take k).toArray:=by
 have e:(λ(m:Nat)=>xs[((i:Int)+(m:Int)*1).toNat]?)=λm=>xs[i+m]?:=by
  funext m;have:((i:Int)+(m:Int)*1).toNat=i+m:=by(first|lia|omega)
  rw[this]
 rw[e];have:=pick_run xs i k;rw[List.filterMap_map]at this;have D:((λx=>xs[x]?)∘λx=>i+x)=λm=>xs[i+m]?:=rfl;rw[D]at this;rw[this]
theorem ZK{s:AY}{D:Array AK}{lo:Option Int}(J:R6 s.heap t D)(z:s.heap.IsSliceOf Z C G .none)(pl:KS C lo)(K:KS G hi)(hw:¬(BW D.size 0 lo=0/\BW D.size D.size hi=D.size))(h:Q (.ref s.heap.objs.size) {s with heap:=s.heap.push {cls:=.type "tuple",data:=.seq ((D.toList.drop (BW D.size 0 lo)).take (BW D.size D.size hi-BW D.size 0 lo)).toArray}})(hsz:D.size<=Aw):Av (Ao prog w) A (LP (.ref t) (.ref Z)) Q E s:=by
 have F:sizeOk (.seq ((D.toList.drop (BW D.size 0 lo)).take (BW D.size D.size hi-BW D.size 0 lo)).toArray):=by show((D.toList.drop (BW D.size 0 lo)).take (BW D.size D.size hi-BW D.size 0 lo)).toArray.size<=Aw;rw[D1,EA,Ig,IF];(first|lia|omega)
 have L:BW D.size D.size hi<=D.size:=ZN _ _ (Al _) hi;refine AB λB=>?_;obtain⟨I,Y,V,H⟩:=id z;refine B ?_;try clear B
 have U:s.TypeIs (.ref Z) "slice":=⟨I,Y,V⟩;unfold LP;try with_reducible refine Ol ?_
 first|refine A4 (Cg ?_)|skip
 refine A4 (wpAny_sequenceKey J.typeIs (by decide) ?_);refine A4 (wpAny_callSpecial?_slot (name:=u9 "__getitem__") J.typeIs YJ (Yq YJ J.typeIs entry_tuple_getitem ?_ (args_tuple_getitem _ _)));show Av _ _ (xE (.ref t)>>=_) _ _ s;refine A4 (tupleItemsOf_ J ?_);refine A4 (wpAny_typeOf U ?_);rw[yY (by decide)];refine A4 (ZP z pl K ?_);have W:¬((((BW D.size 0 lo:Nat):Int)==0&&(1:Int)==1&&(BW D.size D.size hi-BW D.size 0 lo)==D.size)=AH):=by intro q;rw[M6,M6]at q;have M:((BW D.size 0 lo:Nat):Int)=0:=eq_of_beq q.1.1;have N:BW D.size D.size hi-BW D.size 0 lo=D.size:=eq_of_beq q.2;exact hw ⟨by(first|lia|omega),by(first|lia|omega)⟩
 show Av _ _ (if(((BW D.size 0 lo:Nat):Int)==0&&(1:Int)==1&&(BW D.size D.size hi-BW D.size 0 lo)==D.size)=AH then _ else _) _ _ s;rw[yX W,ZL];first |exact A4 (m:=xD _) (wH (Cg ⟨_,rfl,Cg h⟩) F)|exact wpAny_bind (m:=Builtin.Tuple.tupleExact _) (wpAny_newObj_type (wpAny_bind (wpAny_pure (wpAny_pure ⟨_,rfl,wpAny_pure h⟩))) F)|exact wpAny_bind (wpAny_bind (m:=Builtin.Tuple.tupleExact _) (wpAny_newObj_type (wpAny_pure (wpAny_pure ⟨_,rfl,wpAny_pure h⟩)) F))|exact wpAny_bind (wpAny_bind (m:=Builtin.Tuple.tupleExact _) (wpAny_newObj_type (wpAny_pure ⟨_,rfl,wpAny_pure h⟩) F))
noncomputable abbrev Np:=Am->AI->(Option Int->AI->Prop)->Prop
noncomputable def Ni(X:BY)(e:Option A5)(t:Np):Prop:=∀(D:List (AD×A6))(s:AY)(F:Am)(H:AI)(Q:Option Int->AI->Prop),AZ X D F H s->t F H Q->Av (Ao X.af X.w) X.A (evalPart e X.ae) (λu U=>∃o J,AZ X D F J U/\KS u o/\Q o J) X.xe s
noncomputable def mS:Np:=λ_ H Q=>Q AF H
noncomputable def mW(t:A1):Np:=λF H Q=>t F H λx D=>∃i,x=.int i/\Q (AA i) D
theorem WR{ns:List Int}:∀{us:List AK},BJ (ns.map AE.int) us->OW us ns:=by induction ns with|nil=>intro us r;rw[X1]at r;cases r;exact .nil|cons n ns D=>intro us r;rw[DM]at r;cases r with|cons r1 r2=>obtain⟨t,e⟩:=r1;subst e;exact .cons n t (D r2)
theorem GZ:Ni X AF mS:=by intro D s F H Q I h;rw[vX];exact Cg ⟨AF,H,I,.none,h⟩
theorem FF(h:An X e W):Ni X (AA e) (mW W):=by
 intro D s Y H Q I hw;rw[evalPart_some];refine Ay (h D s Y H _ I hw) λu s1⟨x,J,U,r1,V⟩=>?_;refine AB λF=>?_;obtain⟨i,rfl,q⟩:=V;obtain⟨t,rfl⟩:=r1;refine F ?_;try clear F
 exact⟨AA i,J,U,.int i t,q⟩
noncomputable def Kq(X:BY)(r:AE->Option Int->Option Int->AI->Bn->Prop):Prop:=∀(D:List (AD×A6))(s:AY)(Z:Am)(H:AI)(x:AE)(v W Y:AK)(J F:Option Int)(U:AD)(Q:Bn),AZ X D Z H s->BQ x v->s.heap.IsSliceOf U W Y .none->KS W J->KS Y F->r x J F H Q->∃T q,typeLookup (.type T) "__getitem__"=BZ (AA (.builtin q))/\s.TypeIs v T/\Av (Ao X.af X.w) X.A (LP v (.ref U)) (ED X D Z Q) X.xe s
noncomputable def m5(r:AE->Option Int->Option Int->AI->Bn->Prop)(W:A1)(Z Y:Np):A1:=λD H Q=>W D H λx F=>Z D F λl J=>Y D J λu U=>r x l u U Q
theorem Fl{lo:Option A5}(N:Kq X r)(K:An X e i)(M:Ni X lo k)(P:Ni X hi j):An X (.Subscript e (.Slice lo hi AF R) a) (m5 r i k j):=by
 intro D s F H Q I h;refine oN (Ay (K D s F H _ I h) λv s1⟨x,Z,A,r1,d⟩=>?_);refine wpAny_Slice (Ay (M D s1 F Z _ A d) λJ s2⟨l,z,B,S,f⟩=>Ay (P D s2 F z _ B f) λU s3⟨u,W,C,c,g⟩=>?_);rw[vX];refine Cg ?_;have E:AZ X D F W {s3 with heap:=s3.heap.push {cls:=.type "slice",data:=.fields #[J,U,.none]}}:=C.jf (t':=s3.toks) λb n q=>Cn _ q;refine AB λY=>?_;obtain⟨T,m,G,O,L⟩:=N D {s3 with heap:=s3.heap.push {cls:=.type "slice",data:=.fields #[J,U,.none]}} F W x v J U l u s3.heap.objs.size Q E r1 (yD ..) S c g;refine Y ?_;try clear Y
 show Av (Ao X.af X.w) X.A (pB e (.Slice lo hi AF R) v (.ref s3.heap.objs.size)) (ED X D F Q) X.xe {s3 with heap:=s3.heap.push {cls:=.type "slice",data:=.fields #[J,U,.none]}};exact tail_any (ops:=[.ref s3.heap.objs.size,v]) O G L (by with_unfolding_all rfl)
noncomputable def Ee(xs:List AE)(lo hi:Option Int):List AE:=(xs.drop (BW xs.length 0 lo)).take (BW xs.length xs.length hi-BW xs.length 0 lo)
theorem V8(xs:List AE)(lo hi:Option Int):(Ee xs lo hi).length<=xs.length:=by unfold Ee;rw[EA,Ig];(first|lia|omega)
noncomputable def XF(K:Ar):AE->Option Int->Option Int->AI->Bn->Prop:=λx J F H Q=>∃a D,x=.ref a/\B8 K H a D/\¬(BW D.length 0 J=0/\BW D.length D.length F=D.length)/\∀p,H p=AF->Q (.ref p) (AN H p (.tup (Ee D J F)))
theorem lS{X:BY}:Kq X (XF X.K):=by
 intro z s O H x v M N J U L Q I G A C E h;refine AB λZ=>?_;obtain⟨a,F,rfl,B,hw,q⟩:=h;cases G;obtain⟨V,r,W,Y⟩:=I.dy B;refine Z ?_;try clear Z
 have D:V.toArray.size=F.length:=by rw[D1];exact r.ai.symm
 refine⟨"tuple",_,YJ.lookup,W.typeIs,?_⟩;refine ZK W A C E (by rw[D];exact hw) ?_ (by rw[D];exact Y);rw[D];refine⟨.ref s.heap.objs.size,_,I.qk (t':=s.toks) (o:=.tup (Ee F J U)) (λb K q=>Cn _ q) (Al _) ?_,rfl,q _ (I.bx.bo (Al _))⟩;exact⟨CL (V8 F J U) Y,_,(r.afj (BW F.length 0 J)).aks (BW F.length F.length U-BW F.length 0 J),tM _ _⟩
noncomputable def XB(K:Ar):DU:=λx y H Q=>∃a b F D,x=.ref a/\y=.ref b/\B8 K H a F/\B8 K H b D/\F≠[]/\F.length+D.length<=Aw/\(D=[]->Q (.ref a) H)/\(D≠[]->∀p,H p=AF->Q (.ref p) (AN H p (.tup (F++D))))
theorem BJ.abk(r:BJ xs us):us=[]↔xs=[]:=by cases r with|nil=>simp|cons _ _=>simp
theorem jP{X:BY}:CG X (Fb .Add) (XB X.K):=by
 intro U s O H x y v u Q I G K h;refine AB λJ=>?_;obtain⟨a,b,L,M,rfl,rfl,V,W,Y,D,C,E⟩:=h;cases G;cases K;obtain⟨Z,r1,A,_⟩:=I.dy V;obtain⟨F,r2,B,_⟩:=I.dy W;refine J ?_;try clear J
 refine ZJ A B (λz=>Y (r1.abk.mp z)) (λz=>⟨.ref a,H,I,rfl,C (r2.abk.mp z)⟩) (λz=>?_) (by rw[<-r1.ai,<-r2.ai];exact D);refine⟨.ref s.heap.objs.size,_,I.qk (t':=s.toks) (o:=.tup (L++M)) (λb N q=>Cn _ q) (Al _) ?_,rfl,E (λw=>z (r2.abk.mpr w)) _ (I.bx.bo (Al _))⟩;exact⟨by rw[CA];exact D,_,r1.uf r2,tM _ _⟩
noncomputable def JK(n:Nat)(i:Int):Option Nat:=if 0<=i then(if i<n then AA i.toNat else AF)else if-(n:Int)<=i then AA (i+n).toNat else AF
noncomputable def Cb(xs:List D)(i:Int):Option D:=(JK xs.length i).bind λj=>xs[j]?
theorem iT(h:JK n i=AA j):seqIndex? i n=AA j/\j<n/\-(n:Int)<=i/\i<n:=by
  unfold JK at h;by_cases F:0<=i
  . rw[yY F]at h;by_cases D:i<n;. rw[yY D]at h;have e:i.toNat=j:=CM h;exact⟨by rw[seqIndex_of F D,e],by(first|lia|omega),by(first|lia|omega),D⟩
    .rw[yX D]at h;cases h
  . rw[yX F]at h;by_cases D:-(n:Int)<=i
    . rw[yY D]at h;have e:(i+n).toNat=j:=CM h;exact⟨by rw[wA (by(first|lia|omega)) D,e],by(first|lia|omega),D,by(first|lia|omega)⟩
    .rw[yX D]at h;cases h
theorem Q3{xs:List F}(h:Cb xs i=AA v):∃j,seqIndex? i xs.length=AA j/\xs[j]?=AA v/\j<xs.length/\-(xs.length:Int)<=i/\i<xs.length:=by unfold Cb at h;cases e:JK xs.length i with|none=>rw[e]at h;cases h|some j=>
 rw[e]at h;refine AB λD=>?_;obtain⟨J,U,V,W⟩:=iT e;refine D ?_;try clear D
 exact⟨j,J,h,U,V,W⟩
theorem Aq{D:Type}{xs:List D}{j:Nat}{v:D}(h:xs[j]?=AA v):Cb xs (j:Int)=AA v:=by
 have F:j<xs.length:=(BN.mp h).1;have e:JK xs.length (j:Int)=AA j:=by unfold JK;rw[yY (by(first|lia|omega)),yY (by(first|lia|omega))];simp
 unfold Cb;rw[e];exact h
theorem gJ(xs:List D)(v:D):Cb (xs++[v]) (-1)=AA v:=by
 have F:(xs++[v]).length=xs.length+1:=by simp
 have e:JK (xs++[v]).length (-1)=AA xs.length:=by unfold JK;rw[F,yX (by decide),yY (by(first|lia|omega))];congr 1;(first|lia|omega)
 unfold Cb;rw[e];show(xs++[v])[xs.length]?=AA v;simp
noncomputable def Q0(b:A5):Prop:=∀o i,Yn b AQ o i=qJ [o,i] (LP o i)
noncomputable def Ko(X:BY)(r:DU):Prop:=∀(J D:A5)(F:List (AD×A6))(s:AY)(U:Am)(H:AI)(x y:AE)(v u:AK)(Q:Bn),AZ X F U H s->BQ x v->BQ y u->r x y H Q->Yn D AQ v u=qJ [v,u] (LP v u)->Av (Ao X.af X.w) X.A (pB J D v u) (ED X F U Q) X.xe s
noncomputable def Qx(X:BY)(id:String)(r:AE->List AE->AI->Bn->Prop):Prop:=∀(D:List (AD×A6))(s:AY)(U:Am)(H:AI)(x:AE)(J:List AE)(v:AK)(F:List AK)(Q:Bn),AZ X D U H s->BQ x v->BJ J F->r x J H Q->Av (Ao X.af X.w) X.A (HK (.builtin id) (v::F)) (ED X D U Q) X.xe s
theorem BC(W:Ko X r)(U:An X a B)(V:An X b C)(Y:Q0 b):An X (.Subscript a b Z) (K7 r B C):=by intro D s E H Q I h;exact oN (Q4 U V I h λv u s2 x y F J z A q=>W a b D s2 E F x y v u Q J z A q (Y _ _))
noncomputable def XC(K:Ar):DU:=λx y H Q=>∃p D i v,x=.ref p/\y=.int i/\Bc K H p D/\Cb D i=AA v/\Q v H
noncomputable def XD(K:Ar):DU:=λx y H Q=>∃p D i v,x=.ref p/\y=.int i/\B8 K H p D/\Cb D i=AA v/\Q v H
noncomputable def k9:DU:=λx y H Q=>∃z i c,x=.str z/\y=.int i/\z.length<=Aw/\Cb z.cps.toList i=AA c/\Q (.str ⟨#[c]⟩) H
theorem iU{X:BY}:Ko X (XC X.K):=by
  intro Z Y D s G H x y v u Q I R S h C;refine AB λE=>?_;obtain⟨p,d,i,z,rfl,rfl,P,N,q⟩:=h;cases R;obtain⟨t,rfl⟩:=S;obtain⟨U,r,V,c⟩:=I.fk P;obtain⟨j,F,K,a,L,M⟩:=Q3 N;obtain⟨w,A,W⟩:=r.aae K;refine E ?_;try clear E
  have O:=r.ai;have b:=MB;have fin:ED X D G Q w s:=⟨z,H,I,W,q⟩;by_cases B:0<=i
  . have J:i.toNat=j:=by rw[seqIndex_of B M]at F;exact CM F
    exact item_listR V.isList B (by(first|lia|omega)) (by rw[J];simpa using A) fin C
  . have J:(i+(U.toArray.size:Int)).toNat=j:=by rw[wA (by(first|lia|omega)) L]at F;rw[D1,<-O];exact CM F
    exact t5 (x:=w) V.isList.typeIs wC.lookup (wpAny_getItem_list_neg (Q:=λr T=>r=w/\ED X D G Q r T) V.isList (by(first|lia|omega)) (by rw[D1]<;>(first|lia|omega)) (by(first|lia|omega)) (by rw[J];simpa using A) ⟨rfl,fin⟩) C
theorem iV{X:BY}:Ko X (XD X.K):=by
 intro U J D s Y H x y v u Q I M N h K;refine AB λV=>?_;obtain⟨p,b,i,z,rfl,rfl,G,C,q⟩:=h;cases M;obtain⟨t,rfl⟩:=N;obtain⟨L,r,W,a⟩:=I.dy G;obtain⟨j,A,B,P,R,S⟩:=Q3 C;obtain⟨w,Z,F⟩:=r.aae B;refine V ?_;try clear V
 have E:=r.ai;have T:=MB;have fin:ED X D Y Q w s:=⟨z,H,I,F,q⟩;exact t5 (x:=w) W.typeIs YJ.lookup (getItem_tuple (j:=j) (Q:=λr O=>r=w/\ED X D Y Q r O) W (by(first|lia|omega)) (by(first|lia|omega)) (by rw[D1,<-E];exact A) (by simpa using Z) ⟨rfl,fin⟩) K
theorem WV:Ko X k9:=by
 intro F D V s R H x y v u Q I K L h G;refine AB λU=>?_;obtain⟨z,i,c,rfl,rfl,O,C,q⟩:=h;obtain⟨t,rfl⟩:=K;obtain⟨P,rfl⟩:=L;obtain⟨j,J,Z,M,A,B⟩:=Q3 C;refine U ?_;try clear U
 have E:z.cps.toList.length=z.length:=by simp[u6]
 rw[E]at J A B;have N:=MB;exact tail_any (Yo s z t) slot_str_getitem.lookup (getItem_str (c:=c) (by have W:Ae (i< -(2^63:Int))=AQ:=y4 (by(first|lia|omega));have Y:Ae (i>=2^63)=AQ:=y4 (by(first|lia|omega));rw[W,Y,Bool.or_false]) (by rw[J];simpa using Z) ⟨.str ⟨#[c]⟩,H,I.fw _,⟨_,rfl⟩,q⟩) G
theorem lU(lo hi:Option Int)(n:Nat):(Mn lo hi AF n).1=((BW n 0 lo:Nat):Int)/\(Mn lo hi AF n).2.1=((BW n n hi:Nat):Int)/\(Mn lo hi AF n).2.2=1:=by
 refine⟨?_,?_,rfl⟩;.cases lo with |none=>simp[Mn,BW]|some i=>
  simp only[Mn,BW,tK,show(1:Int)>0 by decide,y9];by_cases h:i<0;.simp only[h,y9]<;>(first|lia|omega)
  .simp only[h,y8]<;>(first|lia|omega)
 .cases hi with|none=>simp[Mn,BW]|some i=>
  simp only[Mn,BW,tK,show(1:Int)>0 by decide,y9];by_cases h:i<0;.simp only[h,y9]<;>(first|lia|omega)
  .simp only[h,y8]<;>(first|lia|omega)
theorem lT(its:List AK)(lo hi:Option Int):slicePick its.toArray lo hi AF=((its.drop (BW its.length 0 lo)).take (BW its.length its.length hi-BW its.length 0 lo)).toArray:=by
 refine AB λD=>?_;obtain⟨F,J,U⟩:=lU lo hi its.toArray.size;refine D ?_;try clear D
 unfold slicePick;rw[F,J,U];simp only[sliceRange_one,pick_run,D1]<;>rfl
noncomputable def XE(K:Ar):AE->Option Int->Option Int->AI->Bn->Prop:=λx J F H Q=>∃a D,x=.ref a/\Bc K H a D/\∀p,H p=AF->Q (.ref p) (AN H p (.lst (Ee D J F)))
theorem lR{X:BY}:Kq X (XE X.K):=by
 intro Y s O H x v M N J U L Q I G Z C E h;refine AB λW=>?_;obtain⟨a,D,rfl,z,q⟩:=h;cases G;obtain⟨B,r,V,A⟩:=I.fk z;refine W ?_;try clear W
 have F:=r.ai;refine⟨"list",_,wC.lookup,V.isList.typeIs,?_⟩;refine wpAny_getItem_list_slice V.isList Z C E .none (by simp) ?_ (by rw[D1]<;>(first|lia|omega));rw[lT,<-F];refine⟨.ref s.heap.objs.size,_,I.qk (t':=s.toks) (o:=.lst (Ee D J U)) (λb K q=>Cn _ q) (Al _) ?_,rfl,q _ (I.bx.bo (Al _))⟩;exact⟨CL (V8 D J U) A,_,0,(r.afj (BW D.length 0 J)).aks (BW D.length D.length U-BW D.length 0 J),FZ _ rfl⟩
noncomputable def JJ:AE->Bool|.non=>AH|.bl _=>AH|.int _=>AH|.str _=>AH|_=>AQ
noncomputable def JI:AE->AE->Bool|.non,.non=>AH|.bl a,.bl b=>a==b|.bl a,.int b=>(if a then 1 else 0)==b|.int a,.bl b=>a==(if b then 1 else 0)|.int a,.int b=>a==b|.str a,.str b=>a==b|_,_=>AQ
theorem hV(U:BQ y u)(D:BQ x v)(W:JJ y=AH)(J:JJ x=AH):YY A s u v (JI y x):=by cases y with
 |non=>cases U;cases x with |non=>cases D;exact uZ _|bl b=>cases D;exact yM b|int b=>obtain⟨t,rfl⟩:=D;exact yN b t|str b=>obtain⟨t,rfl⟩:=D;exact yO b t|_=>exact absurd (show AQ=AH from J) C4
 |bl a=> cases U;cases x with |non=>cases D;exact yH a|bl b=>cases D;exact yF a b|int b=>obtain⟨t,rfl⟩:=D;exact yG a b t|str b=>obtain⟨t,rfl⟩:=D;exact yI a b t|_=>exact absurd (show AQ=AH from J) C4
 |int a=> obtain⟨F,rfl⟩:=U;cases x with |non=>cases D;exact yL a F|bl b=>cases D;exact yJ a F b|int b=>obtain⟨t,rfl⟩:=D;exact yK a F b t|str b=>obtain⟨t,rfl⟩:=D;exact uY a F b t|_=>exact absurd (show AQ=AH from J) C4
 |str a=> obtain⟨F,rfl⟩:=U;cases x with |non=>cases D;exact yQ a F|bl b=>cases D;exact yP a F b|int b=>obtain⟨t,rfl⟩:=D;exact u5 a F b t|str b=>obtain⟨t,rfl⟩:=D;exact yR a F b t|_=>exact absurd (show AQ=AH from J) C4
 |_=>exact absurd (show AQ=AH from W) C4
noncomputable def Fh(x:AE)(u:AK):Bool:=match u with|.none=>JI .non x|.bool b=>JI (.bl b) x|.int i _=>JI (.int i) x|.str z _=>JI (.str z) x|_=>AQ
theorem WH(r:BQ y u)(f:JJ y=AH):Fh x u=JI y x:=by cases y with|non=>cases r;rfl|bl b=>cases r;rfl|int i=>obtain⟨t,rfl⟩:=r;rfl|str z=>obtain⟨t,rfl⟩:=r;rfl|_=>exact absurd (show AQ=AH from f) C4
theorem Ly:∀{xs:List AE}{us:List AK},BJ xs us->xs.all JJ=AH->us.any (Fh x)=xs.any λy=>JI y x|_,_,.nil,_=>rfl|y::xs,u::us,.cons r t,f=>by rw[r9,M6]at f;rw[Rq,Rq,WH r f.1,Ly t f.2]
theorem MC(J:BQ x v)(F:JJ x=AH):∀{xs:List AE}{us:List AK},BJ xs us->xs.all JJ=AH->∀u∈us,YY A s u v (Fh x u)
 |_,_,.nil,_=>λu D=>by cases D|y::xs,u::us,.cons r t,f=>λU D=>by
  rw[r9,M6]at f;rcases CB.mp D with rfl|D;.rw[WH r f.1];exact hV r J f.1 F
  .exact MC J F t f.2 U D
noncomputable def D7(x:AE)(xs:List AE):Bool:=xs.any λy=>JI y x
noncomputable def OH(K:Ar)(F:Bool):DU:=λx y H Q=>∃p D,y=.ref p/\(Bc K H p D\/B8 K H p D)/\JJ x=AH/\D.all JJ=AH/\Q (.bl (if F then !D7 x D else D7 x D)) H
theorem jR{X:BY}:CG X (EJ .In) (OH X.K AQ):=by
  intro Y s C H x y v u Q I Z A h;refine AB λF=>?_;obtain⟨p,B,rfl,J,W,U,q⟩:=h;cases A;refine F ?_;try clear F
  rcases J with J|J
  . refine AB λF=>?_;obtain⟨D,r,V,z⟩:=I.fk J;refine F ?_;try clear F
    refine SeqAt.in_listAt (Fh x) V.isList (λw hw=>MC Z W r U w (by simpa using hw)) ⟨.bl _,H,I,rfl,?_⟩;rw[show D.toArray.any (Fh x)=D.any (Fh x)by simp,Ly r U];exact q
  . refine AB λF=>?_;obtain⟨D,r,V,z⟩:=I.dy J;refine F ?_;try clear F
    refine SeqAt.in_tupleAt (Fh x) V (λw hw=>MC Z W r U w (by simpa using hw)) ⟨.bl _,H,I,rfl,?_⟩;rw[show D.toArray.any (Fh x)=D.any (Fh x)by simp,Ly r U];exact q
theorem jU{X:BY}:CG X (EJ .NotIn) (OH X.K AH):=by
  intro Y s C H x y v u Q I Z A h;refine AB λF=>?_;obtain⟨p,B,rfl,J,W,U,q⟩:=h;cases A;refine F ?_;try clear F
  rcases J with J|J
  . refine AB λF=>?_;obtain⟨D,r,V,z⟩:=I.fk J;refine F ?_;try clear F
    refine SeqAt.notIn_listAt (Fh x) V.isList (λw hw=>MC Z W r U w (by simpa using hw)) ⟨.bl _,H,I,rfl,?_⟩;rw[show D.toArray.any (Fh x)=D.any (Fh x)by simp,Ly r U];exact q
  . refine AB λF=>?_;obtain⟨D,r,V,z⟩:=I.dy J;refine F ?_;try clear F
    refine SeqAt.notIn_tupleAt (Fh x) V (λw hw=>MC Z W r U w (by simpa using hw)) ⟨.bl _,H,I,rfl,?_⟩;rw[show D.toArray.any (Fh x)=D.any (Fh x)by simp,Ly r U];exact q
theorem gM{X:BY}:Ea X (.builtin "len") (λxs H Q=>∃p ys,xs=[.ref p]/\(Bc X.K H p ys\/B8 X.K H p ys)/\Q (.int ys.length) H):=by
  intro Y s C H xs B Q I r h;refine AB λF=>?_;obtain⟨p,ys,rfl,J,q⟩:=h;obtain⟨u,rfl,z⟩:=HH r;cases z;refine F ?_;try clear F
  have A:=MB;rcases J with J|J
  . refine AB λF=>?_;obtain⟨U,W,V,Z⟩:=I.fk J;refine F ?_;try clear F
    have D:=W.ai;exact Calls.call_len_list V.isList (by simp only[D1]<;>(first|lia|omega)) ⟨.int ys.length,H,I.fw _,⟨s.toks+1,by rw[D1,D]⟩,q⟩
  . refine AB λF=>?_;obtain⟨U,W,V,Z⟩:=I.dy J;refine F ?_;try clear F
    have D:=W.ai;exact len_tuple V (by simp only[D1]<;>(first|lia|omega)) ⟨.int ys.length,H,I.fw _,⟨s.toks+1,by rw[D1,D]⟩,q⟩
theorem gN:Ea X (.builtin "len") (λxs H Q=>∃z,xs=[.str z]/\z.length<=Aw/\Q (.int z.length) H):=by
 intro F s W H xs V Q I r h;refine AB λD=>?_;obtain⟨z,rfl,U,q⟩:=h;obtain⟨u,rfl,t,rfl⟩:=HH r;refine D ?_;try clear D
 have J:=MB;exact len_str (by(first|lia|omega)) ⟨.int z.length,H,I.fw _,⟨_,rfl⟩,q⟩
theorem gO{X:BY}:Ea X (.type "list") (λxs H Q=>∃p ys,xs=[.ref p]/\(Bc X.K H p ys\/B8 X.K H p ys)/\∀l,H l=AF->Q (.ref l) (AN H l (.lst ys))):=by
  intro A s M H xs N Q I r h;refine AB λJ=>?_;obtain⟨p,ys,rfl,Y,q⟩:=h;obtain⟨u,rfl,L⟩:=HH r;cases L;refine J ?_;try clear J
  have fin:∀(D:List AK),BJ ys D->ys.length<=Aw->∀(F:BG)(U:Nat),(∀b K,s.heap.get? b=AA K->F.get? b=AA K)->F.get? s.heap.objs.size=AA {cls:=.type "list",dict:=AF,data:=.seq D.toArray U,slots:=#[]}->ED X A M Q (.ref s.heap.objs.size) {s with heap:=F}:=λD V Z F U z e=>⟨.ref s.heap.objs.size,_,I.qk (t':=s.toks) z (Al _) (show C5 X.af X.w _ F _ (.lst ys)from⟨Z,D,U,V,e⟩),rfl,q _ (I.bx.bo (Al _))⟩;rcases Y with Y|Y
  . refine AB λJ=>?_;obtain⟨D,V,G,Z⟩:=I.fk Y;have W:=V.ai;obtain⟨o,E,B,n,C⟩:=G.isList;refine J ?_;try clear J
    exact vT p (.inl rfl) E B C (λF U z e=>fin D V Z F U z e) (by simp only[D1]<;>(first|lia|omega))
  . refine AB λJ=>?_;obtain⟨D,V,G,Z⟩:=I.dy Y;have W:=V.ai;obtain⟨o,E,B,n,C⟩:=G;refine J ?_;try clear J
    exact vT p (.inr rfl) E B C (λF U z e=>fin D V Z F U z e) (by simp only[D1]<;>(first|lia|omega))
noncomputable def Xk(K:Ar)(T:String)(x:AE)(H:AI):Prop:=match x with|.str _=>T="str"|.int _=>T="int"|.ref p=>(T="list"/\∃F,Bc K H p F)\/(T="tuple"/\∃o,K.lookup p=AA o/\o.cls=.type "tuple"/\o.dict=AF)\/(T="dict"/\((∃D,H p=AA (.dK D))\/∃D,H p=AA (.dT D)))\/(T="set"/\∃S n,H p=AA (.set S n))|_=>False
theorem nL{X:BY}{K:Am}{s:AY}(I:AZ X U K H s)(r:BQ x v)(W:Xk X.K T x H):s.TypeIs v T/\∀a,v=.ref a->∃A,s.heap.get? a=AA A/\A.dict=AF:=by cases x with
  |str z=>
    refine AB λD=>?_;obtain⟨t,rfl⟩:=r;cases(show T="str"from W);refine D ?_;try clear D
    exact⟨Yo s z t,λ_ e=>nomatch e⟩|int i=>
    refine AB λD=>?_;obtain⟨t,rfl⟩:=r;cases(show T="int"from W);refine D ?_;try clear D
    exact⟨qN s i t,λ_ e=>nomatch e⟩|ref p=>
    cases r;rcases W with⟨rfl,L,E⟩|⟨rfl,o,F,C,Z⟩|⟨rfl,F⟩|⟨rfl,S,n,F⟩
    . refine AB λD=>?_;obtain⟨G,_,B,_⟩:=I.fk E;refine D ?_;try clear D
      refine⟨B.isList.typeIs,λa e=>?_⟩;refine AB λD=>?_;cases e;obtain⟨o,n,e,c,Z,_⟩:=B;refine D ?_;try clear D
      exact⟨o,e,Z⟩
    . refine⟨⟨o,I.wj p o F,C⟩,λa e=>?_⟩;cases e;exact⟨o,I.wj _ o F,Z⟩
    . have z:∃o,s.heap.get? p=AA o/\o.ExactDict:=by
        rcases F with⟨q,F⟩|⟨q,F⟩
        . obtain⟨_,_,_,_,o,_,_,e,J,_⟩:=I.bx p _ F;exact⟨o,e,J⟩
        . obtain⟨_,_,_,_,o,_,_,e,J,_⟩:=I.bx p _ F;exact⟨o,e,J⟩
      refine AB λD=>?_;obtain⟨o,e,J⟩:=z;refine D ?_;try clear D
      refine⟨⟨o,e,J.1⟩,λa Y=>?_⟩;cases Y;exact⟨o,e,J.2.1⟩
    . refine AB λD=>?_;obtain⟨o,_,_,_,e,J,_⟩:=I.bx p _ F;refine D ?_;try clear D
      refine⟨⟨o,e,J.1⟩,λa Y=>?_⟩;cases Y;exact⟨o,e,J.2.1⟩|_=>exact Ft W
noncomputable def Rl(K:Ar)(T:String)(r:AE->List AE->AI->Bn->Prop)(U:A1)(t:EF):A1:=λF H Q=>U F H λx D=>Xk K T x D/\t F D λW J=>r x W J Q
theorem j8{X:BY}{name:AG}{Y D:Ca}{id:String}(S:PlainAttrs T)(q:Slot T name id)(z:typeOf (.builtin id)=BZ (.type "method_descriptor"))(O:Qx X id r)(P:An X o c)(N:Ec X (e::U) t)(V:Jf o name X.ae (BI o X.ae)=BI o X.ae:=by rfl)(Z:((EV D (Bv (e::U) X.ae)).all (λx=>!x.1)&&(Mi D (Ml [] X.ae)).all (λx=>x.1.isSome)&&Ae ((e::U).length+([]:List Jc).length+(if([]:List Jc).isEmpty then 0 else 1)<30))=AH:=by rfl)(W:(Y.endLine==D.line)=AH:=by rfl)(R:Bv (e::U) X.ae=(AQ,BI e X.ae)::Bv U X.ae:=by rfl)(J:(EV D (Bv U X.ae)).any (·.1)=AQ:=by rfl):An X (.Call (.Attribute o name Y) (e::U) [] D) (Rl X.K T r c t):=by intro F s A H Q I h;refine wpAny_Call_method_late V Z W rfl (Ay (P F s A H _ I h) λv s1⟨x,E,B,r1,d,a⟩=>?_);obtain⟨L,M⟩:=nL B r1 d;refine⟨T,id,S,q,z,L,M,?_⟩;have C:=N D F s1 A E _ B a;rw[R]at C⊢;refine pE (by show(AQ||(EV D (Bv U X.ae)).any (·.1))=AQ;rw[J]<;>rfl) (pF ?_);exact Ay C λf s2⟨g,G,K,r2,b⟩=>O F s2 A G x g v f Q K r1 r2 b
noncomputable def Vq(X:BY)(id:String)(r:AE->List AE->AI->Bn->Prop):Prop:=∀(D:List (AD×A6))(s:AY)(U:Am)(H:AI)(x:AE)(J:List AE)(v:AK)(F:List AK)(Q:Bn),AZ X D U H s->BQ x v->BJ J F->r x J H Q->Av (Ao X.af X.w) X.A (HK (.builtin id) (v::F)) (ED X D U Q) X.xe s
theorem BJ.agd:∀{x:AE}{us:List AK},BJ [x] us->∃u,us=[u]/\BQ x u|_,_,.cons r .nil=>⟨_,rfl,r⟩
theorem BJ.amk(h:BJ xs us):∀k:Nat,BJ (Dz k xs).flatten (Dz k us).flatten|0=>.nil|k+1=>by rw[R3,R3,Xw,Xw];exact BJ.uf h (BJ.amk h k)
theorem WL(its:List AK):∀(k:Nat)(D:List AK),n6 (λJ U=>J++U) D.toArray (Dz k its.toArray)=(D++(Dz k its).flatten).toArray
 |0,D=>by simp|k+1,D=>by
  have e:D.toArray++its.toArray=(D++its).toArray:=by simp
  have F:(D++its)++(Dz k its).flatten=D++(Dz (k+1) its).flatten:=by rw[R3,Xw,Ei]
  rw[<-F,<-WL its k (D++its),<-e,R3,n8]
theorem AZ.akk{ys:List AE}{its its':List AK}(I:AZ X D Z H s)(F:H l=AA (.lst xs))(e:s.heap.get? l=AA {cls:=.type "list",data:=.seq its.toArray n})(U:f its.toArray=its'.toArray)(W:BJ ys its')(Y:ys.length<=Aw):AZ X D Z (AN H l (.lst ys)) {s with heap:=s.heap.update l (DC f),toks:=t'}:=by have q:=uV e f;rw[U]at q;refine I.aak (x:=l) (e:=l) (by rw[F];exact trivial) (.inl rfl) (λz u J V=>(uU s.heap (DC f) (Hv J)).trans V) ⟨_,q⟩ ?_;exact⟨Y,its',_,W,q⟩
theorem AZ.akj{ys:List AE}{its:List AK}(I:AZ X D U H s)(F:BJ ys its)(J:ys.length<=Aw):AZ X D U (AN H s.heap.objs.size (.lst ys)) {s with heap:=s.heap.push {cls:=.type "list",data:=.seq its.toArray},toks:=t'}:=I.qk (λ_ _ q=>Cn _ q) (Al _) ⟨J,its,0,F,FZ _ rfl⟩
theorem AZ.bo{s:AY}(I:AZ X D F H s):H s.heap.objs.size=AF:=I.bx.bo (Al _)
theorem AZ.afq{s:AY}{xs:List AE}(I:AZ X F U H s)(J:H l=AA (.lst xs)):xs.length<=Aw/\∃(its:List AK)(n:Nat),BJ xs its/\xs.length=its.length/\s.heap.get? l=AA {cls:=.type "list",data:=.seq its.toArray n}:=by
 refine AB λD=>?_;obtain⟨z,its,n,r,e⟩:=I.bx l _ J;refine D ?_;try clear D
 exact⟨z,its,n,r,r.ai,e⟩
theorem Wl(h:n<=Aw):YK n=AQ:=by unfold YK;exact y4 (by(first|lia|omega))
noncomputable def XA:AE->List AE->AI->Bn->Prop:=λx F H Q=>∃l D y,x=.ref l/\F=[y]/\H l=AA (.lst D)/\D.length<Aw/\Q .non (AN H l (.lst (D++[y])))
theorem RM:Vq X "list.append" XA:=by
 intro V s K H x E v C Q I Z Y h;refine AB λU=>?_;obtain⟨l,G,y,rfl,rfl,J,B,q⟩:=h;cases Z;obtain⟨u,rfl,W⟩:=Y.agd;obtain⟨z,D,n,r,A,e⟩:=I.afq J;refine U ?_;try clear U
 refine Oi SG ⟨_,e,rfl⟩ uI (uF _ _) (vZ l D.toArray n u (by rw[D1];(first|lia|omega))) ⟨e,?_⟩;refine⟨.non,_,I.akk (its':=D++[u]) J e (by simp) (r.uf (.cons W .nil)) ?_,rfl,q⟩;rw[CA,X0];(first|lia|omega)
noncomputable def k4:AE->List AE->AI->Bn->Prop:=λx J H Q=>∃l b D F,x=.ref l/\J=[.ref b]/\H l=AA (.lst D)/\H b=AA (.lst F)/\D.length+F.length<=Aw/\Q .non (AN H l (.lst (D++F)))
theorem N5:Vq X "list.extend" k4:=by
 intro Z s a H x P v O Q I L K h;refine AB λY=>?_;obtain⟨l,b,R,T,rfl,rfl,W,B,N,q⟩:=h;cases L;obtain⟨u,rfl,G⟩:=K.agd;cases G;obtain⟨z,J,n,r,M,e⟩:=I.afq W;obtain⟨S,D,E,r2,C,A⟩:=I.afq B;refine Y ?_;try clear Y
 have V:J.toArray.size+D.toArray.size<=Aw:=by rw[D1,D1];(first|lia|omega)
 have U:¬(!J.toArray.isEmpty&&YK (J.toArray.size+D.toArray.size))=AH:=by rw[Wl V,rK];exact C4
 refine Oi SH ⟨_,e,rfl⟩ F.entry_list_extend (F.args_list_extend_2 _ _) (AutoSeq1.list_extend_list_list_0 l J.toArray n b D.toArray E U (by rw[D1];(first|lia|omega)) (by(first|lia|omega))) ⟨e,A,?_⟩;refine⟨.non,_,I.akk (its':=J++D) W e (by simp) (r.uf r2) ?_,rfl,q⟩;rw[CA];(first|lia|omega)
noncomputable def kY:DU:=λx y H Q=>∃l b D F,x=.ref l/\y=.ref b/\H l=AA (.lst D)/\H b=AA (.lst F)/\D.length+F.length<=Aw/\∀p,H p=AF->Q (.ref p) (AN H p (.lst (D++F)))
theorem Gn:CG X (Fb .Add) kY:=by
 intro U s O H x y v u Q I B C h;refine AB λJ=>?_;obtain⟨l,b,L,N,rfl,rfl,Z,Y,G,q⟩:=h;cases B;cases C;obtain⟨z,F,n,r,E,e⟩:=I.afq Z;obtain⟨M,D,K,r2,A,V⟩:=I.afq Y;refine J ?_;try clear J
 refine P.add_list e V ?_ (by rw[D1,D1];(first|lia|omega));have W:F.toArray++D.toArray=(F++D).toArray:=by simp
 rw[W];exact⟨.ref _,_,I.akj (t':=s.toks) (r.uf r2) (by rw[CA];(first|lia|omega)),rfl,q _ I.bo⟩
noncomputable def lF:DU:=λx y H Q=>∃l k D,x=.ref l/\y=.int k/\H l=AA (.lst D)/\-(2^63)<=k/\k<2^63/\D.length*k.toNat<=Aw/\∀p,H p=AF->Q (.ref p) (AN H p (.lst (Dz k.toNat D).flatten))
theorem WZ(xs:List F)(k:Nat):(Dz k xs).flatten.length=k*xs.length:=by induction k with|zero=>simp|succ k D=>rw[R3,Xw,CA,D,Nat.succ_mul,tE]
theorem jW:CG X (Fb .Mult) lF:=by
 intro G s d H x y v u Q I P R h;refine AB λE=>?_;obtain⟨l,k,c,rfl,rfl,N,L,M,C,q⟩:=h;cases P;obtain⟨t,rfl⟩:=R;obtain⟨z,D,n,r,O,e⟩:=I.afq N;refine E ?_;try clear E
 have Y:D.toArray.size*k.toNat<=Aw:=by rw[D1,<-O];exact C
 have V:¬D.toArray.size*k.toNat>(2^63-1)/8:=by
  have:(Aw:Nat)<=(2^63-1)/8:=by decide
  (first|lia|omega)
 have W:¬(!w9 k)=AH:=by rw[fitsIndex_both L M];exact C4
 have J:¬YK (D.toArray.size*k.toNat)=AH:=by rw[Wl Y];exact C4
 have Z:n6 (λA B=>A++B) #[] (Dz (if D.toArray.isEmpty=AH then 0 else k.toNat) D.toArray)=(Dz k.toNat D).flatten.toArray:=by
  have K:∀m:Nat,n6 (λA B=>A++B) #[] (Dz m D.toArray)=(Dz m D).flatten.toArray:=λm=>by have:=WL D m [];rw[oF]at this;exact this
  rw[K];cases D with|nil=>simp|cons a b=>rw[yX (by simp)]
 refine wpAny_binaryOp_repeat_ref (T:="list") (U:="int") (by decide) ⟨_,e,rfl⟩ (λS=>qN S k t) noFill_list_mul F.fills_int_mul uO repeat_list F.slot_int_index.lookup (Oi uO (qN s k t) F.entry_int_rmul (F.args_int_rmul_2 _ _) (int___rmul___int_list k t l D.toArray n) ⟨e,rfl,⟨_,e,rfl⟩,Oi F.slot_list_mul ⟨_,e,rfl⟩ F.entry_list_mul (F.args_list_mul_2 _ _) (w5 l D.toArray n k t W V J) ⟨e,?_⟩⟩);rw[Z];exact⟨.ref _,_,I.akj (t':=s.toks) (r.amk k.toNat) (by rw[WZ,Nat.mul_comm];exact C),rfl,q _ I.bo⟩
noncomputable def Bm[DecidableEq F](kvs:List (F×AE))(k:F):Option AE:=(kvs.find? λD=>Ae (D.1=k)).map (·.2)
noncomputable def Bb[DecidableEq F](kvs:List (F×AE))(k:F)(v:AE):List (F×AE):=if(kvs.any λD=>Ae (D.1=k))=AH then kvs.map (λD=>if D.1=k then(D.1,v)else D)else kvs++[(k,v)]
noncomputable def Cv[DecidableEq D](kvs:List (D×AE))(k:D):List (D×AE):=kvs.filter λF=>Ae (F.1≠k)
theorem HG[DecidableEq D]{p:D×AE}(e:p.1=k):Bm (p::r) k=AA p.2:=by simp[Bm,OQ,e]
theorem G9[DecidableEq D]{p:D×AE}(e:¬p.1=k):Bm (p::r) k=Bm r k:=by simp[Bm,OQ,e]
section
variable{κ:Type}[DecidableEq κ]
theorem MR(k:κ):∀kvs:List (κ×AE),(kvs.any λD=>Ae (D.1=k))=(Bm kvs k).isSome
 |[]=>rfl|p::r=>by
  rw[Rq];by_cases e:p.1=k;.simp only[HG e,y3 e,Bool.true_or,Option.isSome_some]
  .rw[G9 e,y4 e,Bool.false_or];exact MR k r
end
section
variable{κ:Type}[DecidableEq κ]
theorem Xn(k j:κ)(y:AE):∀kvs:List (κ×AE),Bm (kvs.map λD=>if D.1=k then(D.1,y)else D) j=(Bm kvs j).map λx=>if j=k then y else x
  |[]=>rfl|p::r=>by
    have F:=Xn k j y r;rw[DM];by_cases h:p.1=k
    . rw[yY h];by_cases e:p.1=j;.rw[HG (p:=(p.1,y)) e,HG e,YB,yY (e.symm.trans h)]
      .rw[G9 (p:=(p.1,y)) e,G9 e,F]
    . rw[yX h];by_cases e:p.1=j;.rw[HG (p:=p) e,HG e,YB,yX (λz=>h (e.trans z))]
      .rw[G9 (p:=p) e,G9 e,F]
end
section
variable{κ:Type}[DecidableEq κ]
theorem Xp(k j:κ)(y:AE):∀kvs:List (κ×AE),Bm kvs k=AF->Bm (kvs++[(k,y)]) j=if j=k then AA y else Bm kvs j
 |[],_=>by
  by_cases e:k=j;.rw[yY e.symm];exact HG (p:=(k,y)) e
  .rw[yX (λz=>e z.symm)];exact G9 (p:=(k,y)) e|p::r,D=>by
  rw[K8];have F:¬p.1=k:=λz=>by rw[HG z]at D;cases D
  rw[G9 F]at D;have J:=Xp k j y r D;by_cases e:p.1=j;.rw[HG e,HG e,yX (λz=>F (e.trans z))]
  .rw[G9 e,G9 e,J]
end
theorem Ie{J:Type}[DecidableEq J](kvs:List (J×AE))(k j:J)(y:AE):Bm (Bb kvs k y) j=if j=k then AA y else Bm kvs j:=by
  unfold Bb;by_cases a:(kvs.any λF=>Ae (F.1=k))=AH
  . rw[yY a,Xn];rw[MR]at a;by_cases e:j=k
    . obtain⟨x,D⟩:=oK.mp a;rw[yY e,e,D,YB,yY rfl]
    . rw[yX e];cases Bm kvs j with|none=>rfl|some x=>rw[YB,yX e]
  . rw[yX a];refine Xp k j y kvs ?_;rw[MR]at a;cases q:Bm kvs k with|none=>rfl|some x=>rw[q]at a;exact(a rfl).elim
theorem RI[DecidableEq D](kvs:List (D×AE))(k:D)(v:AE):(Bb kvs k v).length<=kvs.length+1:=by
 unfold Bb;split;.rw[A0];(first|lia|omega)
 .rw[CA,F6,JY];(first|lia|omega)
theorem HZ.afn{o:Option AE}{u:Option AK}(r:HZ o u):o.isSome=u.isSome:=by cases o with
 |none=>cases u with |none=>rfl|some _=>exact(show False from r).elim
 |some _=>cases u with|none=>exact(show False from r).elim|some _=>rfl
theorem HZ.akd{o:Option AE}{u:Option AK}(r:HZ o u)(D:BQ d d'):BQ (o.getD d) (u.getD d'):=by cases o with
 |none=>cases u with|none=>exact D|some _=>exact(show False from r).elim
 |some _=>cases u with|none=>exact(show False from r).elim|some _=>exact r
theorem Dj.ajn[DecidableEq U](r:Dj kvs vs)(k:U):HZ (Bm kvs k) (LR vs k):=by unfold Dj at r;induction r with |nil=>exact GG|@cons p q Z F h t Y=>
    obtain⟨J,W⟩:=h;by_cases e:p.1=k
    . have D:q.1=k:=J.symm.trans e;have b:LR (q::F) k=AA q.2:=by simp[LR,OQ,D]
      rw[HG e,b];exact W
    . have D:¬q.1=k:=λz=>e (J.trans z);have b:LR (q::F) k=LR F k:=by simp[LR,OQ,D]
      rw[G9 e,b];exact Y
theorem Dj.ajw[DecidableEq F]{kvs:List (F×AE)}{vs:List (F×AK)}(r:Dj kvs vs)(k:F):(kvs.any λD=>Ae (D.1=k))=vs.any λD=>Ae (D.1=k):=by unfold Dj at r;induction r with|nil=>rfl|cons h t J=>rw[Rq,Rq,J,h.1]
theorem Dj.ajj[DecidableEq J]{kvs:List (J×AE)}{vs:List (J×AK)}(r:Dj kvs vs)(k:J)(Y:BQ y u):Dj (kvs.map λD=>if D.1=k then(D.1,y)else D) (vs.map λD=>if D.1=k then(D.1,u)else D):=by unfold Dj at r⊢;induction r with|nil=>exact .nil|@cons p q Z A h t W=>
 rw[DM,DM];refine .cons ?_ W;obtain⟨F,U⟩:=h;by_cases e:p.1=k;.rw[yY e,yY (F.symm.trans e)];exact⟨F,Y⟩
 .rw[yX e,yX (λz=>e (F.trans z))];exact⟨F,U⟩
theorem Dj.uv[DecidableEq F](r:Dj kvs vs)(k:F)(D:BQ y u):Dj (Bb kvs k y) (stored vs k u):=by
 unfold Bb stored;rw[r.ajw k];by_cases e:(vs.any λJ=>Ae (J.1=k))=AH;.rw[yY e,yY e];exact r.ajj k D
 .rw[yX e,yX e];exact uW r ⟨rfl,D⟩
theorem Dj.afj[DecidableEq J](r:Dj kvs vs)(k:J):Dj (Cv kvs k) (without vs k):=by unfold Dj at r⊢;unfold Cv without;induction r with|nil=>exact .nil|@cons p q Y Z h t F=>
    obtain⟨D,W⟩:=h;rw[FX,FX];by_cases e:p.1=k
    . have a:¬Ae (p.1≠k)=AH:=by simp[e]
      have b:¬Ae (q.1≠k)=AH:=by simp[D.symm.trans e]
      rw[yX a,yX b];exact F
    . have U:¬q.1=k:=λz=>e (D.trans z);have a:Ae (p.1≠k)=AH:=by simp[e]
      have b:Ae (q.1≠k)=AH:=by simp[U]
      rw[yY a,yY b];exact .cons ⟨D,W⟩ F
theorem Dj.ai[DecidableEq D]{kvs:List (D×AE)}{vs:List (D×AK)}(r:Dj kvs vs):kvs.length=vs.length:=Ij r
theorem WE[DecidableEq D](kvs:List (D×AE))(k:D):(Cv kvs k).length<=kvs.length:=FY _ _
theorem Kw(r:BQ (Ax k) u):(Dq P w).is k u=AH:=by cases k with|inl i=>obtain⟨t,e⟩:=(show∃t,u=Oe i t from r);subst e;exact jI P w i t|inr x=>obtain⟨t,e⟩:=(show∃t,u=Of x t from r);subst e;exact jJ P w x t
theorem WU:∀{ks:List AL}{us:List AK},BJ (ks.map Ax) us->ItemsAre (Dq P w) ks us|[],_,r=>by rw[X1]at r;cases r;exact .nil|k::ks,_,r=>by rw[DM]at r;cases r with|cons h t=>exact .cons (Kw h) (WU t)
noncomputable abbrev HX(H:AI):List (List AL×AE)->List (List AL×AD×AK)->Prop:=BP λp q=>p.1=q.1/\H q.2.1=AA (.tup (p.1.map Ax))/\BQ p.2 q.2.2
theorem HX.ajn(r:HX H kvs xs)(k:List AL):HZ (Bm kvs k) ((KZ xs k).map (·.2)):=by induction r with|nil=>exact GG|@cons p q Z F h t Y=>
    refine AB λU=>?_;obtain⟨J,_,W⟩:=h;refine U ?_;try clear U
    by_cases e:p.1=k
    . have D:q.1=k:=J.symm.trans e;have b:KZ (q::F) k=AA q.2:=by simp[KZ,OQ,D]
      rw[HG e,b];exact W
    . have D:¬q.1=k:=λz=>e (J.trans z);have b:KZ (q::F) k=KZ F k:=by simp[KZ,OQ,D]
      rw[G9 e,b];exact Y
theorem HX.ajj{kvs:List (List AL×AE)}{xs:List (List AL×AD×AK)}(r:HX H kvs xs)(k:List AL)(Z:BQ y u):HX H (kvs.map λF=>if F.1=k then(F.1,y)else F) (xs.map (putAt k u)):=by induction r with|nil=>exact .nil|@cons p q A B h t Y=>
 rw[DM,DM];refine .cons ?_ Y;refine AB λU=>?_;obtain⟨D,J,W⟩:=h;refine U ?_;try clear U
 unfold putAt;by_cases e:p.1=k;.rw[yY e,yY (D.symm.trans e)];exact⟨D,J,Z⟩
 .rw[yX e,yX (λz=>e (D.trans z))];exact⟨D,J,W⟩
theorem HX.uv(r:HX H kvs xs)(k:List AL)(F:H b=AA (.tup (k.map Ax)))(D:BQ y u):HX H (Bb kvs k y) (storedH xs k b u):=by
 have e:(kvs.any λJ=>Ae (J.1=k))=(KZ xs k).isSome:=by rw[MR,(r.ajn k).afn,Option.isSome_map]
 unfold Bb storedH;rw[e];by_cases q:(KZ xs k).isSome=AH;.rw[yY q,yY q];exact r.ajj k D
 .rw[yX q,yX q];exact uW r ⟨rfl,F,D⟩
theorem HX.akh(r:HX H kvs xs)(D:∀b ys,H b=AA (.tup ys)->H' b=AA (.tup ys)):HX H' kvs xs:=Qz r λ_ _ z=>⟨z.1,D _ _ z.2.1,z.2.2⟩
theorem XI(D:Ci P w H h)(e:FC H a u):C5 P w H h a u:=e.ok D
theorem L4{h:BG}{kvs:List (AL×AE)}(D:Ci P w H h)(e:FC H a (.dK kvs)):kvs.length<=Aw/\(a==Io)=AQ/\∃vs,Dj kvs vs/\h.DictOf (Dq P w) a vs:=show C5 P w H h a (.dK kvs)from XI D e
theorem Nx{h:BG}{kvs:List (AL×AE)}(D:Ci P w H h)(e:H a=AA (.dK kvs)):kvs.length<=Aw/\(a==Io)=AQ/\∃vs,Dj kvs vs/\h.DictOf (Dq P w) a vs:=L4 D (.inl e)
theorem N2{ks:List AL}(W:Ci P w H h)(e:H a=AA (.tup (ks.map Ax))):(Oj (Dq P w)).is h ks a:=by
 refine AB λF=>?_;obtain⟨_,D,r,o,J,U,n,V⟩:=(show C5 P w H h a (.tup (ks.map Ax))from W a _ e);refine F ?_;try clear F
 exact⟨o,D.toArray,n,J,U,V,by simpa using WU r⟩
theorem L5{h:BG}{kvs:List (List AL×AE)}(W:Ci P w H h)(e:FC H a (.dT kvs)):kvs.length<=Aw/\(a==Io)=AQ/\∃xs,HX H kvs xs/\h.DictOfH (Oj (Dq P w)) a xs:=by
 refine AB λU=>?_;obtain⟨z,y,xs,r,o,Z,Y,A,B,C,E,G⟩:=(show C5 P w H h a (.dT kvs)from XI W e);refine U ?_;try clear U
 refine⟨z,y,xs,r,o,Z,Y,A,B,C,E,λx D=>?_,G⟩;have F:∀{l:List (List AL×AE)}{m:List (List AL×AD×AK)},HX H l m->∀x∈m,(Oj (Dq P w)).is h x.1 x.2.1:=by intro l m q;induction q with |nil=>intro x D;exact nomatch D|@cons p q K L J t I=>
  intro x D;rcases CB.mp D with e|D;. subst e;exact N2 W (by rw[<-J.1];exact J.2.1)
  .exact I x D
 exact F r x D
theorem hU{h:BG}{kvs:List (List AL×AE)}(D:Ci P w H h)(e:H a=AA (.dT kvs)):kvs.length<=Aw/\(a==Io)=AQ/\∃xs,HX H kvs xs/\h.DictOfH (Oj (Dq P w)) a xs:=L5 D (.inl e)
noncomputable def Jz(H:AI)(a:AD)(y:AE)(r:Option AE):Prop:=(∃D k,FC H a (.dK D)/\y=Ax k/\r=Bm D k)\/∃D k b,FC H a (.dT D)/\y=.ref b/\H b=AA (.tup (k.map Ax))/\r=Bm D k
noncomputable def Qu(H:AI)(a:AD)(y v:AE)(H':AI):Prop:=(∃D k,H a=AA (.dK D)/\y=Ax k/\D.length<Aw/\H'=AN H a (.dK (Bb D k v)))\/∃D k b,H a=AA (.dT D)/\y=.ref b/\H b=AA (.tup (k.map Ax))/\D.length<Aw/\H'=AN H a (.dT (Bb D k v))
theorem Kj(e:H a=AA (.dK kvs)):Jz H a (Ax k) (Bm kvs k):=.inl ⟨kvs,k,.inl e,rfl,rfl⟩
theorem J3{kvs:List (AL×AE)}(e:H a=AA (.dK kvs))(D:kvs.length<Aw):Qu H a (Ax k) v (AN H a (.dK (Bb kvs k v))):=.inl ⟨kvs,k,e,rfl,D,rfl⟩
theorem AZ.amc{s:AY}(I:AZ X D F H s):Io<s.heap.objs.size:=by have h:BD<s.heap.objs.size:=(I.aah.aba.keeps I.bk).lt;exact Nat.lt_trans (by decide) h
theorem gX{X:BY}{A:Cy}(L:A.units+1<GC)(I:AZ X V O H s)(g:Jz H a y (AA v))(B:BQ y u)(h:∀J s',AZ X V O H s'->BQ v J->Q J s'):Av (Ao X.af X.w) A (LP (.ref a) u) Q E s:=by
  rcases g with⟨q,k,e,Y,l⟩|⟨q,k,b,e,Y,C,l⟩
  . subst Y;refine AB λU=>?_;obtain⟨z,G,M,D,W⟩:=L4 I.bx e;obtain⟨J,hw,F⟩:=Nl (v:=v) (o:=LR M k) (by rw[l];exact D.ajn k);refine U ?_;try clear U
    exact wpAny_getItem_of (Kw B) W.mapOf hw (h J _ (I.fw _) F)
  . subst Y;refine AB λU=>?_;cases(show u=C3 b from B);obtain⟨z,G,N,D,W⟩:=L5 I.bx e;obtain⟨J,hw,F⟩:=Nl (v:=v) (o:=(KZ N k).map (·.2)) (by rw[l];exact D.ajn k);obtain⟨p,K,Z⟩:=D2.mp hw;refine U ?_;try clear U
    refine wpAny_getItem_heap (qM L) (N2 I.bx C) W K ?_;rw[Z];exact h J _ (I.fw _) F
theorem Nv{X:BY}{h':BG}(I:AZ X D Z H s)(Y:Lv (H a))(W:SI a s.heap h')(V:∃q,h'.get? a=AA q)(F:C5 X.af X.w (AN H a J) h' a J):AZ X D Z (AN H a J) {s with heap:=h',toks:=t'}:=I.aak (x:=a) (e:=a) Y (.inl rfl) (λb q U z=>(W.2 b U).trans z) V F
theorem Q7{h':BG}{kvs:List (AL×AE)}(z:kvs.length<=Aw)(J:(a==Io)=AQ)(D:Dj kvs vs)(F:h'.DictOf (Dq P w) a vs):C5 P w H' h' a (.dK kvs):=⟨z,J,vs,D,F⟩
theorem gZ{X:BY}{A:Cy}(n:A.units+1<GC)(I:AZ X V t H s)(g:Qu H a y v H')(R:BQ y u)(P:BQ v r)(h:∀s',AZ X V t H' s'->Q () s'):Av (Ao X.af X.w) A (setItem (.ref a) u r) Q E s:=by
  rcases g with⟨D,k,e,B,l,Z⟩|⟨D,k,b,e,B,M,l,Z⟩
  . subst B Z;refine AB λU=>?_;obtain⟨z,C,o,F,Y⟩:=Nx I.bx e;refine U ?_;try clear U
    have L:o.length<=Aw:=by rw[<-F.ai];exact z
    have G:(Bb D k v).length<=Aw:=by have:=RI D k v;(first|lia|omega)
    refine wpAny_setItem_pairs (hsz:=L) (Kw R) Y λO J K=>h _ ?_;have m:∃q,O.get? a=AA q:=let⟨q,_,_,W,_⟩:=J;⟨q,W⟩;exact Nv I (by rw[e];exact GG) K m (Q7 G C (F.uv k P) J)
  . subst B Z;refine AB λU=>?_;cases(show u=C3 b from R);obtain⟨z,C,p,F,Y⟩:=hU I.bx e;refine U ?_;try clear U
    have L:p.length<=Aw:=by rw[<-Ij F];exact z
    have G:(Bb D k v).length<=Aw:=by have:=RI D k v;(first|lia|omega)
    refine wpAny_setItem_heap (hsz:=L) (qM n) (N2 I.bx M) Y λO J K=>h _ ?_;refine AB λU=>?_;obtain⟨q,T,S,W,d,f,i,_,j⟩:=J;refine U ?_;try clear U
    refine Nv I (by rw[e];exact GG) K ⟨q,W⟩ ⟨G,C,_,(F.uv k M P).akh λc w N=>?_,q,T,S,W,d,f,i,j⟩;rw[Ac (jL N e (λz=>nomatch z))];exact N
theorem gY{X:BY}(I:AZ X pins σ H s)(e:H a=AA (.dK kvs))(ry:BQ (Ax k) u)(l:Bm kvs k=AA v)(hm:more=[]\/∃x,more=[x])(h:∀w' s',AZ X pins σ (AN H a (.dK (Cv kvs k))) s'->BQ v w'->Q w' s'):Av (Ao X.af X.w) A (HK (.builtin "dict.pop") (.ref a::u::more)) Q E s:=by
 refine AB λnG=>?_;obtain⟨z,hd,vs,rel,dd⟩:=Nx I.bx e;obtain⟨w',hw,rw'⟩:=Nl (v:=v) (o:=LR vs k) (by rw[<-l];exact rel.ajn k);refine nG ?_;try clear nG
 have hp:(keyPart u).isSome=AH:=by cases k with |inl i=>obtain⟨t,q⟩:=(show∃t,u=Oe i t from ry);subst q;rfl|inr x=>obtain⟨t,q⟩:=(show∃t,u=Of x t from ry);subst q;rfl
 have ha:argsOk "dict.pop" ⟨.ref a::u::more,[]⟩:=by
  rcases hm with q|⟨x,q⟩;.subst q;exact F.args_dict_pop_2 _ _
  .subst q;exact F.args_dict_pop_3 _ _ _
 refine qC uM dd.typeIs F.entry_dict_pop ha (meets_dict_pop_there (Dq X.af X.w) a (Kw ry) more hm hp) ⟨vs,w',dd,by rw[<-rel.ai];exact z,hw,λh' dd' hs=>h w' _ ?_ rw'⟩;have he:∃q,h'.get? a=AA q:=let⟨q,_,_,hq,_⟩:=dd';⟨q,hq⟩;exact Nv I (by rw[e];exact GG) hs he (Q7 (CL (WE kvs k) z) hd (rel.afj k) dd')
noncomputable def Vr(i:A5):Prop:=∀F D,Yn i AQ F D=qJ [F,D] (LP F D)
theorem l8{id:String}(B:typeLookup (.type T) "__getitem__"=BZ (AA (.builtin id)))(C:Vr D)(h:Av (Ao prog w) A (BI F env) (λo V=>Av (Ao prog w) A (BI D env) (λi J=>J.TypeIs o T/\Av (Ao prog w) A (LP o i) Q E J) E V) E s):Av (Ao prog w) A (BI (.Subscript F D q) env) Q E s:=by
 refine oN (Ge h (λo V Y=>Ge Y (λi J U=>?_) λ_ _ x=>x) λ_ _ x=>x);obtain⟨z,U⟩:=U;unfold pB;refine A4 ?_;rw[getitemInPython_of_ne z.not_modules];refine A4 (wpAny_specialOf z B ?_);have fin:Av (Ao prog w) A (Yn D AQ o i) (λr W=>Av (Ao prog w) A (letTemporaryGo F o r>>=λ_=>BZ r) Q E W) E J:=by rw[C o i];exact wpAny_operating (Ge U (λr W Z=>A4 (wpAny_letTemporaryGo (Cg Z))) λ_ _ x=>x)
 first |exact Cg (A4 fin)|exact wpAny_bind (wpAny_pure (wpAny_bind fin))|exact wpAny_bind fin
theorem g6{s:AY}(I:AZ X F W H s)(g:Jz H a y o):s.TypeIs (.ref a) "dict":=by
  rcases g with⟨U,k,e,_,_⟩|⟨U,k,b,e,_,_,_⟩
  . refine AB λD=>?_;obtain⟨_,_,Y,_,J⟩:=L4 I.bx e;refine D ?_;try clear D
    exact J.typeIs
  . refine AB λD=>?_;obtain⟨_,_,Z,_,J⟩:=L5 I.bx e;refine D ?_;try clear D
    exact J.typeIs
noncomputable def mE(U V:A1):A1:=λF H Q=>U F H λx J=>V F J λy D=>∃a v,x=.ref a/\Jz D a y (AA v)/\Q v D
noncomputable def lN(Y q Z:A1):Cf:=λD F H=>Z F H λv U=>Y F U λx V=>q F V λy W=>∃a J,x=.ref a/\Qu W a y v J/\D.nx F J
theorem Ib{X:BY}(B:X.A.units+1<GC)(z:An X o M)(hi:An X i N)(A:Vr i):An X (.Subscript o i C) (mE M N):=by intro D s U H Q I h;refine l8 F.slot_dict_getitem.lookup A (Ay (z D s U H _ I h) λu s1⟨x,V,Y,K,E⟩=>Ay (hi D s1 U V _ Y E) λO s2⟨y,W,J,L,a,v,q,g,G⟩=>?_);subst q;obtain rfl:u=C3 a:=K;exact⟨g6 J g,gX B J g L λP s3 Z F=>⟨v,W,Z,F,G⟩⟩
theorem JS{X:BY}{W:Ca}(L:X.A.units+1<GC)(G:An X o T)(hi:An X i c)(M:An X J b)(K:LQ J (AA (.Subscript o i U)) W.line X.ae=BZ AQ):D6 X (.Assign [.Subscript o i U] J W) (lN T c b):=by intro F s V H D I h;refine wpAny_Assign_Subscript (Ay (M F s V H _ I h) λr s1⟨v,Y,z,Q,N⟩=>Ay (G F s1 V Y _ z N) λu s2⟨x,Z,A,R,O⟩=>Ay (hi F s2 V Z _ A O) λe s3⟨y,d,B,S,a,q,E,g,P⟩=>?_) K;subst E;obtain rfl:u=C3 a:=R;exact gZ L B g S Q λs4 C=>⟨V,q,C,P⟩
theorem WD(h:BG)(D:Io<h.objs.size):C5 P w H (h.push {cls:=.type "dict",data:=.dict #[]}) h.objs.size (.dK []):=⟨CU _,zD.mpr (Hv (ET D)),[],.nil,yC h⟩
noncomputable def mG:A1:=λ_ H Q=>∀p,H p=AF->Q (.ref p) (AN H p (.dK []))
theorem MJ:An X (.Dict [] [] F) mG:=λD s J H Q I h=>wpAny_Dict_empty ⟨.ref s.heap.objs.size,_,I.qk (a:=s.heap.objs.size) (o:=.dK []) (t':=s.toks) (λ_ _ q=>Cn _ q) (Al _) (WD s.heap I.amc),rfl,h _ (I.bx.bo (Al _))⟩
noncomputable def Rn:List (A1×A1)->Am->AI->(List (AE×AE)->AI->Prop)->Prop|[],_,H,Q=>Q [] H|(Y,Z)::r,D,H,Q=>Y D H λx F=>Z D F λy J=>Rn r D J λW U=>Q ((x,y)::W) U
noncomputable abbrev Vs:List (AE×AE)->List (AK×AK)->Prop:=BP λp q=>BQ p.1 q.1/\BQ p.2 q.2
noncomputable def Nj(X:BY)(U:Ca)(J:List (Option A5))(D:List A5)(W:List (A1×A1)):Prop:=∀(F:List (AD×A6))(s:AY)(Y:Am)(H:AI)(Q:List (AE×AE)->AI->Prop),AZ X F Y H s->Rn W Y H Q->Av (Ao X.af X.w) X.A (evalPairs (pairTrees J D X.ae U)) (λA z=>∃q Z,AZ X F Y Z z/\Vs q A/\Q q Z) X.xe s
theorem kQ:Nj X D [] [] []:=λF s J H Q I h=>pairTrees_nil_walk ⟨[],H,I,.nil,h⟩
theorem kP(E:An X k W)(K:An X v Y)(G:Nj X F ks vs J):Nj X F (AA k::ks) (v::vs) ((W,Y)::J):=λD s V H Q I h=>pairTrees_cons_walk (Ay (E D s V H _ I h) λu s1⟨x,Z,A,P,M⟩=>Ay (K D s1 V Z _ A M) λS s2⟨y,q,B,R,N⟩=>Ay (G D s2 V q _ B N) λT s3⟨L,z,C,U,O⟩=>⟨(x,y)::L,z,C,.cons ⟨P,R⟩ U,O⟩)
noncomputable def Hm(kvs D:List (AL×AE)):List (AL×AE):=D.foldl (λF J=>Bb F J.1 J.2) kvs
theorem Dj.akn:∀{D:List (AL×AE)}{F:List (AL×AK)}{kvs:List (AL×AE)}{vs:List (AL×AK)},Dj D F->Dj kvs vs->Dj (Hm kvs D) (merged vs F):=by intro D F kvs vs r;unfold Dj at r;induction r generalizing kvs vs with|nil=>intro q;exact q|@cons p q W Y h t J=>
 intro U;have e:Dj (Bb kvs p.1 p.2) (stored vs q.1 q.2):=by have:=U.uv p.1 h.2;rw[<-h.1];exact this
 exact J e
theorem Wa:∀(D kvs:List (AL×AE)),(Hm kvs D).length<=kvs.length+D.length|[],kvs=>by show kvs.length<=kvs.length+0;(first|lia|omega)|p::r,kvs=>by have F:=Wa r (Bb kvs p.1 p.2);have J:=RI kvs p.1 p.2;show(Hm (Bb kvs p.1 p.2) r).length<=_;rw[F6];(first|lia|omega)
theorem V4:∀{kvs:List (AL×AE)}{U:List (AK×AK)},Vs (kvs.map λF=>(Ax F.1,F.2)) U->∃D,Carries (Dq P w) U D/\Dj kvs D |[],_,r=>by rw[X1]at r;cases r;exact⟨[],GG,.nil⟩|p::kvs,_,r=>by rw[DM]at r;cases r with|@cons a b Y z h t=>
 refine AB λJ=>?_;obtain⟨D,c,q⟩:=V4 (P:=P) (w:=w) t;obtain⟨Z,W⟩:=b;refine J ?_;try clear J
 exact⟨(p.1,W)::D,⟨Kw h.1,rfl,c⟩,.cons ⟨rfl,h.2⟩ q⟩
noncomputable def mI(F:List (A1×A1)):A1:=λY H Q=>∀p,H p=AF->Rn F Y (AN H p (.dK [])) λW J=>J p=AA (.dK [])/\∃D:List (AL×AE),W=D.map (λU=>(Ax U.1,U.2))/\D.length<=15/\Q (.ref p) (AN J p (.dK (Hm [] D)))
theorem kC{keys:List (Option A5)}{values:List A5}(h:Nj X pos keys values trs)(hall:keys.all (·.isSome)=AH)(hl:keys.length=values.length)(h0:keys≠[])(h15:keys.length<=15):An X (.Dict keys values pos) (mI trs):=by
 intro pins s σ H Q I q;have hn:=I.bx.bo (Al s.heap.objs.size);have I1:=I.qk (a:=s.heap.objs.size) (o:=.dK []) (h':=s.heap.push {cls:=.type "dict",data:=.dict #[]}) (t':=s.toks) (λ_ _ q=>Cn _ q) (Al _) (WD s.heap I.amc);refine wpAny_Dict_walk (knd:=Dq X.af X.w) hall hl h0 h15 (Ay (h pins _ σ _ _ I1 (q _ hn)) λws s2⟨ps,H2,I2,rel,e,kvs,ep,lk,q2⟩=>?_);subst ep;refine AB λnG=>?_;obtain⟨rs,c,rk⟩:=V4 (P:=X.af) (w:=X.w) rel;obtain⟨z,hd,vs0,r0,dd⟩:=Nx I2.bx e;cases r0;refine nG ?_;try clear nG
 refine⟨rs,c,dd,λh' dd' hs=>⟨.ref s.heap.objs.size,_,?_,rfl,q2⟩⟩;have hz:(Hm [] kvs).length<=Aw:=by have h1:=Wa kvs [];rw[JY]at h1;rw[DN];(first|lia|omega)
 have he:∃q,h'.get? s.heap.objs.size=AA q:=let⟨q,_,_,hq,_⟩:=dd';⟨q,hq⟩;exact Nv I2 (by rw[e];exact GG) hs he (Q7 hz hd (rk.akn .nil) dd')
structure fY(X:BY)(o:A5)(m:AG)(apos:Ca)(e:A5)(cpos:Ca):Prop where
 ah:Jf o m X.ae (BI o X.ae)=BI o X.ae
 alg:((EV cpos (Bv [e] X.ae)).all (λx=>!x.1)&&(Mi cpos (Ml [] X.ae)).all (λx=>x.1.isSome)&&Ae (([e]:List A5).length+([]:List Jc).length+(if([]:List Jc).isEmpty then 0 else 1)<30))=AH
 ajf:(apos.endLine==cpos.line)=AH
 ahp:EV cpos (Bv [e] X.ae)=[(AQ,BI e X.ae)]
structure fZ(X:BY)(o:A5)(m:AG)(apos:Ca)(e f:A5)(cpos:Ca):Prop where
 ah:Jf o m X.ae (BI o X.ae)=BI o X.ae
 alg:((EV cpos (Bv [e,f] X.ae)).all (λx=>!x.1)&&(Mi cpos (Ml [] X.ae)).all (λx=>x.1.isSome)&&Ae (([e,f]:List A5).length+([]:List Jc).length+(if([]:List Jc).isEmpty then 0 else 1)<30))=AH
 ajf:(apos.endLine==cpos.line)=AH
 ahp:EV cpos (Bv [e,f] X.ae)=[(AQ,BI e X.ae),(AQ,BI f X.ae)]
noncomputable def Kk(H:AI)(a:AD):Prop:=(∃D,FC H a (.dK D))\/∃D,FC H a (.dT D)
theorem WS{s:AY}(I:AZ X U z H s)(d:Kk H a):s.TypeIs (.ref a) "dict"/\(∀b,C3 a=.ref b->∃F,s.heap.get? b=AA F/\F.dict=AF)/\(a==Io)=AQ:=by
  rcases d with⟨Z,e⟩|⟨Z,e⟩
  . refine AB λD=>?_;obtain⟨_,Y,A,_,J⟩:=L4 I.bx e;refine D ?_;try clear D
    refine⟨J.typeIs,λb q=>?_,Y⟩;refine AB λD=>?_;cases q;obtain⟨F,_,_,V,W,_⟩:=J;refine D ?_;try clear D
    exact⟨F,V,W.2.1⟩
  . refine AB λD=>?_;obtain⟨_,Y,B,_,J⟩:=L5 I.bx e;refine D ?_;try clear D
    refine⟨J.typeIs,λb q=>?_,Y⟩;refine AB λD=>?_;cases q;obtain⟨F,_,_,V,W,_⟩:=J;refine D ?_;try clear D
    exact⟨F,V,W.2.1⟩
theorem gW{X:BY}{o:Option AE}{A:Cy}(G:A.units+1<GC)(I:AZ X U L H s)(g:Jz H a y o)(q:BQ y u)(Z:BQ d r)(h:∀B s',AZ X U L H s'->BQ (o.getD d) B->Q B s'):Av (Ao X.af X.w) A (HK (.builtin "dict.get") [.ref a,u,r]) Q E s:=by
  rcases g with⟨Y,k,e,V,l⟩|⟨Y,k,b,e,V,C,l⟩
  . subst V;refine AB λJ=>?_;obtain⟨z,W,M,D,F⟩:=L4 I.bx e;refine J ?_;try clear J
    refine qC pG F.typeIs uH (uE _ _ _) (meets_dict_get_default (Dq X.af X.w) a (Kw q) W r) ⟨_,F.mapOf,h _ _ (I.fw _) ?_⟩;rw[l];exact(D.ajn k).akd Z
  . subst V;refine AB λJ=>?_;cases(show u=C3 b from q);obtain⟨z,W,K,D,F⟩:=L5 I.bx e;refine J ?_;try clear J
    refine qC pG F.typeIs uH (uE _ _ _) (meetsH_dict_get_default (Oj (Dq X.af X.w)) a b W r) ⟨qM G,k,K,N2 I.bx C,F,h _ _ (I.fw _) ?_⟩;rw[l];exact(D.ajn k).akd Z
noncomputable def mF(V Y W:A1):A1:=λD H Q=>V D H λx F=>∃a,x=.ref a/\Kk F a/\Y D F λy U=>W D U λz J=>∃o,Jz J a y o/\Q (o.getD z) J
noncomputable def mH(V W:A1):A1:=λU H Q=>V U H λx F=>∃a,x=.ref a/\Kk F a/\W U F λy J=>∃D k v,J a=AA (.dK D)/\y=Ax k/\Bm D k=AA v/\Q v (AN J a (.dK (Cv D k)))
theorem Rb{X:BY}(hu:X.A.units+1<GC)(ho:An X o td)(he:An X e ty)(hf:An X f tx)(m:fZ X o "get" apos e f cpos):An X (.Call (.Attribute o "get" apos) [e,f] [] cpos) (mF td ty tx):=by
 intro pins s σ H Q I h;refine Yp m.ah m.alg m.ajf YQ pG F.type_dict_get (Ay (ho pins s σ H _ I h) λu s1⟨x,H1,I1,rx,a,ex,d,q1⟩=>?_);subst ex;refine AB λnG=>?_;obtain rfl:u=C3 a:=rx;obtain⟨t1,t2,_⟩:=WS I1 d;refine nG ?_;try clear nG
 refine⟨t1,t2,?_⟩;rw[m.ahp];refine pE rfl (pF (Mb (Ay (he pins s1 σ H1 _ I1 q1) λiv s2⟨y,H2,I2,ry,q2⟩=>Mb (Ay (hf pins s2 σ H2 _ I2 q2) λfv s3⟨z,H3,I3,rz,ov,g,q3⟩=>Oa ?_))));exact gW hu I3 g ry rz λw' s4 I4 rw'=>⟨_,H3,I4,rw',q3⟩
theorem W0(ho:An X o td)(he:An X e ty)(m:fY X o "pop" apos e cpos):An X (.Call (.Attribute o "pop" apos) [e] [] cpos) (mH td ty):=by
 intro pins s σ H Q I h;refine Yp m.ah m.alg m.ajf YQ uM F.type_dict_pop (Ay (ho pins s σ H _ I h) λu s1⟨x,H1,I1,rx,a,ex,d,q1⟩=>?_);subst ex;refine AB λnG=>?_;obtain rfl:u=C3 a:=rx;obtain⟨t1,t2,_⟩:=WS I1 d;refine nG ?_;try clear nG
 refine⟨t1,t2,?_⟩;rw[m.ahp];refine pE rfl (pF (Mb (Ay (he pins s1 σ H1 _ I1 q1) λiv s2⟨y,H2,I2,ry,kvs,k,v,ea,ey,l,q2⟩=>Oa ?_)));subst ey;exact gY I2 ea ry l (.inl rfl) λw' s3 I3 rw'=>⟨v,_,I3,rw',q2⟩
theorem ZE:∀(ns:List Int)(vs:List AK),W.WellAll P h vs (ns.map vH)->OW vs ns:=by intro ns;induction ns with|nil=>intro vs w;rw[X1]at w;cases w;exact .nil|cons n ns D=>intro vs w;rw[DM]at w;cases w with|cons a b=>cases a;exact .cons _ _ (D _ b)
theorem ZG{l:Og}(hn:l.most=AA n){h:BG}(hpre:l.row.toRowW.claim.pre args=AH)(hwl:W.WellAll P h vals args):∃a vs ns,vals=[C3 a]/\args=[W.WData.list (ns.map vH)]/\h.get? a=AA {cls:=.type "list",data:=.seq vs.toArray}/\OW vs ns/\ns.length<=n:=by
 have hsh:W.WShape.hasAll [] args [.list .int]=AH:=(W.pre_splitW hpre).1;have hc:l.pre.holds [] {args:=args}=AH:=(W.pre_splitW hpre).2;refine AB λnG=>?_;obtain⟨d,r,rfl,h1,h2⟩:=W.hasAllW_cons hsh;obtain rfl:=W.hasAllW_nil h2;obtain⟨xs,rfl,h3⟩:=W.hasW_list h1;obtain⟨ns,rfl⟩:=W.items_int h3;refine nG ?_;try clear nG
 have hlen:ns.length<=n:=by
  unfold W.OpenLaw.pre at hc;have h4:(W.WTm.not (.lt (.lit (.int (n:Int))) (.len (.arg 0)))).holds [] {args:=[.list (ns.map .int)]}=AH:=by have h4:=(W.holds_andW hc).1;rw[hn]at h4;exact h4
  have h5:=W.condW_of h4 (W.w_not (W.w_lt W.w_lit (W.w_len_list (W.w_arg rfl))));rw[A0]at h5;refine Nat.le_of_not_lt λq=>?_;have q':(n:Int)<((ns.length:Nat):Int):=by(first|lia|omega)
  first |(rw[y3 q']at h5;exact absurd h5 (by decide))|(simp at h5;(first|lia|omega))
 cases hwl with|cons w1 w2=>cases w2;cases w1 with|list ho hall=>exact⟨_,_,ns,rfl,rfl,ho,ZE ns _ hall,hlen⟩
theorem ZF(l:Og)(D:List W.WData):l.row.toRowW.claim.post D (.bool AH) D=AH:=W.postW_of (r:=l.row.toRowW) (X:=(AH==AH)) (show W.WShape.has [] (.bool AH) .bool=AH by first|rfl|decide|simp[WShape.has,WShape.arms,WShape.armsAll]) (show(W.WTm.eq .res (.lit (.bool AH))).value [] {args:=D,res:=AA (.bool AH),after:=D}=AA (.bool (AH==AH))from W.w_eq_bool (W.w_res rfl) W.w_lit) rfl
theorem ZD{l:Og}{d:DefRec}(hn:l.most=AA n)(hdf:d.params.defaults=[])(call:∀(w:Bq)(s₀ s₁:AY)(mg mb:AG->Option AK)(fa:AD)(o:A6)(pm cd doc:AK)(a:AD)(vs:List AK)(ns:List Int),W.Ground q loose [] XP w s₀ mg mb s₁.heap->YP w s₁.heap->s₁.heap.get? fa=AA o->o.data=.func (Calls.docDef d.name d.params d.body d.scope pm cd doc)->s₁.heap.CodeRec cd d.name->mg d.name=AA (.ref fa)->s₁.heap.get? a=AA {cls:=.type "list",data:=.seq vs.toArray}->OW vs ns->ns.length<=n->s₁.gens=#[]->LO (Ao l.prog w) LN (.call (.ref fa) ⟨[.ref a],[]⟩) (λr s'=>r=.ok (.ret (.bool AH))/\OldK s₁.heap s'.heap/\s'.os=s₁.os/\KN s'.gens) s₁):pO q loose XP YP l.row.toRowW d [] (λf vs=>HK f vs):=by
 intro w s₀ s₁ mg mb G Y fa o pm cd doc dV kV ho hd hcd hD hmg hg args vals as hpre hlay hrd hwl hlo;refine AB λnG=>?_;obtain rfl:dV=.none:=W.Dflts.none hD hdf;obtain rfl:kV=.none:=W.Dflts.noKw hD;obtain⟨a,vs,ns,rfl,rfl,hobj,hints,hlen⟩:=ZG hn hpre hwl;refine nG ?_;try clear nG
 refine W.enter_call (SM (call w s₀ s₁ mg mb fa o pm cd doc a vs ns G Y ho (W.fd_plain hd) hcd hmg hobj hints hlen hg) λr s' hq=>?_);refine AB λnG=>?_;obtain⟨rfl,h2,h3,h4⟩:=hq;refine nG ?_;try clear nG
 exact⟨.inl ⟨.bool AH,.bool AH,[],rfl,λ_=>rfl,.bool AH,ZF l _,λ_=>⟨wR,λ_ hm=>(nomatch hm)⟩⟩,h2,h3,h4⟩
theorem Xq:∀{vs:List AK}{ns:List Int},OW vs ns->BJ (ns.map AE.int) vs|_,_,.nil=>.nil|_,_,.cons n t h=>.cons ⟨t,rfl⟩ (Xq h)
noncomputable def Lw(H:AI):Prop:=∀b,H b=AF\/∃o D,H b=AA (.frz o (.lst D))
theorem jC{K:Ar}{x:AG}{D:AY}{vs:List AK}{ns:List Int}(l:K.In D.heap)(I:D.heap.Ns BD O)(U:D.heap.Ns qB i)(c:∀x:AG,x≠"__name__"->i x=Mj x)(G:D.heap.NoLimit)(hg:D.gens=#[])(R:D.heap.get? a=AA {cls:=.type "list",data:=.seq vs.toArray})(hi:OW vs ns)(hl:ns.length<=Aw)(hr:DK k LN)(F:∀base:BG,K.In base->base.Ns BD O->A8 P w K O base CX k T t [x] sp)(Z:∀(s:AY)(u:AK),OZ s t ⟨[u],[]⟩ [(x,u)])(g:∀H:AI,Lw H->Bc K H a (ns.map AE.int)->sp [.ref a] H (λv _=>v=.bl AH) λ_ _ _=>False)(X:∀H e s',CX [] H D (λ_ _ _=>False) e s'->False):LO (Ao P w) LN (.call (.ref T) ⟨[.ref a],[]⟩) (λr s'=>r=.ok (.ret (.bool AH))/\OldK D.heap s'.heap/\s'.os=D.os/\KN s'.gens) D:=by
  have rv:=Xq hi;have N:=hi.length;have Y:∀H:AI,Lw H->Bc K H a (ns.map AE.int)->Ci P w H D.heap->(∀b,H b≠AF->b=a)->(H a≠AF->K.lookup a=AF)->LO (Ao P w) LN (.call (.ref T) ⟨[.ref a],[]⟩) (λr s'=>r=.ok (.ret (.bool AH))/\OldK D.heap s'.heap/\s'.os=D.os/\KN s'.gens) D:=by
    intro H hO hS L y hK;have J:∀{b:AD}{o:A6},D.heap.get? b=AA o->H b=AF->(IU D.heap H).get? b=AA o:=λe n=>iJ e n;have j:∀{b:AD}{o:A6}{C:Array YO}{B:Nat},D.heap.get? b=AA o->o.data=.dict C B->H b=AF:=λ{b o C B}e d=>by cases q:H b with |none=>rfl|some u=> have S:b=a:=y b (by rw[q];simp);subst S;rw[R]at e;cases e;have d':Data.seq vs.toArray _=Data.dict C B:=d;cases d'
    have W:∀{b:AD}{m:AG->Option AK},D.heap.Ns b m->(IU D.heap H).Ns b m:=λ{b m}⟨o,C,B,e,d,r⟩=>⟨o,C,B,J e (j e d),d,r⟩;have E:K.In (IU D.heap H):=λb o e=>J (l b o e) (by cases q:H b with|none=>rfl|some u=>have S:b=a:=y b (by rw[q];simp);subst S;rw[hK (by rw[q];simp)]at e;cases e);have hM:Ng K O (IU D.heap H):=⟨E,W I,⟨i,W U,c⟩,let⟨mc,h1,h2⟩:=G;⟨mc,W h1,h2⟩⟩;have e0:JB P w K O (IU D.heap H) LN [] D H:=⟨rfl,hM,λb o e=>jM e,Ht (iK _ _),trivial,λb U=>absurd (show b∈([]:List AD)from U) (by simp),L,.of_eq hg⟩;refine SM ((F _ E (W I)).alb LN [] D H ⟨[.ref a],[]⟩ [.ref a] [.ref a] _ _ hr e0 (Z D (.ref a)) (.cons rfl .nil) (g H hO hS)) λr s' h=>?_;cases r with |error e=>exact(X H e s' h).elim|ok fl=>cases fl with |next=>exact Ft h|brk=>exact Ft h|cont=>exact Ft h|ret u=> obtain⟨v,H',os,A,un,M,r',q⟩:=h;have q':v=.bl AH:=q;subst q';obtain rfl:u=Od AH:=r';refine⟨rfl,OldK.of_keep λb o e=>?_,os,A⟩;cases q:H b with |none=>exact un.ab b o e q (by intro z;exact absurd (show b∈([]:List AD)from z) (by simp)) (by simp)|some u=>
          rcases hO b with z|⟨ob,xs,z⟩;.rw[q]at z;cases z
          . have z2:=un.yy b ob _ z;obtain⟨p,_⟩:=L b _ z;obtain⟨e2,_⟩:=M b _ z2;rw[e]at p;cases p;exact e2
  cases f:K.lookup a with |some o=> have e:=l a o f;rw[R]at e;cases e;refine Y (λ_=>AF) (λ_=>.inl rfl) (.inr ⟨_,vs.toArray,_,f,rfl,rfl,rfl,by rw[D1,N];exact hl,by simpa using rv⟩) (λb u z=>by have Q:(AF:Option Bh)=AA u:=z;cases Q) (λb z=>absurd rfl z) λz=>absurd rfl z|none=>
    refine Y (λb=>if b=a then AA (.frz {cls:=.type "list",data:=.seq vs.toArray} (.lst (ns.map AE.int)))else AF) (λb=>?_) (.inl (.inr ⟨{cls:=.type "list",data:=.seq vs.toArray},yY rfl⟩)) (λb u z=>?_) (λb z=>?_) λ_=>f
    . by_cases U:b=a;.exact .inr ⟨_,_,yY U⟩
      .exact .inl (yX U)
    . by_cases U:b=a;. have Q:=(yY U).symm.trans z;cases Q;subst U;exact⟨R,by rw[A0];exact hl,vs,_,rv,R⟩
      . have Q:=(yX U).symm.trans z;cases Q
    . by_cases U:b=a;.exact U
      .exact absurd (yX U) z
theorem nN{l:Og}{n k:Nat}{q:CQ}{U:List AG}{R:(AG->Option AK)->BG->Prop}{O:Bq->BG->Prop}{d:DefRec}{K:YW->Ar}{CX:Bq->HV}{sp:Bq->BF}{x:AG}(m:l.most=AA n)(L:n<=Aw)(E:d.params.defaults=[])(p:DK k LN)(c:∀(w:Bq)(h:BG),O w h->(K w.params).In h)(F:∀(w:Bq)(W:AG->Option AK)(A:AD)(h:BG),(K w.params).In h->h.Ns BD W->W d.name=AA (.ref A)->∃B:Ag,(∀(s:AY)(u:AK),OZ s B ⟨[u],[]⟩ [(x,u)])/\∀base:BG,(K w.params).In base->base.Ns BD W->A8 l.prog w (K w.params) W base (CX w) k A B [x] (sp w))(M:∀(w:Bq)(H:AI)(a:AD)(ns:List Int),ns.length<=n->Lw H->Bc (K w.params) H a (ns.map AE.int)->sp w [.ref a] H (λv _=>v=.bl AH) λ_ _ _=>False)(C:∀(w:Bq)(H:AI)(s:AY)(e:AK)(s':AY),CX w [] H s (λ_ _ _=>False) e s'->False):pO q U R O l.row.toRowW d [] (λf vs=>HK f vs):=by
 refine ZD m E λw Q z W mb A o pm r S a vs ns G Y y t i I Z J D j=>?_;have N:=c w _ Y;refine AB λP=>?_;obtain⟨B,g,T⟩:=F w W A _ N G.T.g I;refine P ?_;try clear P
 exact jC N G.T.g G.T.b G.T.builtins G.T.nolimit j Z J (CL D L) p T g (λH X b=>M w H a ns D X b) λH e s'=>C w H z e s'
theorem nO{l:Og}{n k:Nat}{q:CQ}{D:List AG}{C:(AG->Option AK)->BG->Prop}{z:Bq->BG->Prop}{d:DefRec}{K:YW->Ar}{CX:HV}{sp:Ar->BF}{x:AG}(M:l.most=AA n)(Y:n<=Aw)(W:d.params.defaults=[])(N:DK k LN)(L:∀(w:Bq)(h:BG),z w h->(K w.params).In h)(F:∀(w:Bq)(J:AG->Option AK)(A:AD)(h:BG),(K w.params).In h->h.Ns BD J->J d.name=AA (.ref A)->∃B:Ag,(∀(s:AY)(u:AK),OZ s B ⟨[u],[]⟩ [(x,u)])/\∀base:BG,(K w.params).In base->base.Ns BD J->A8 l.prog w (K w.params) J base CX k A B [x] (sp (K w.params)))(Z:∀(K:Ar)(H:AI)(a:AD)(ns:List Int),ns.length<=n->Lw H->Bc K H a (ns.map AE.int)->sp K [.ref a] H (λv _=>v=.bl AH) λ_ _ _=>False)(U:∀(H:AI)(s:AY)(e:AK)(s':AY),CX [] H s (λ_ _ _=>False) e s'->False):pO q D C z l.row.toRowW d [] (λf vs=>HK f vs):=nN (K:=K) (CX:=λ_=>CX) (sp:=λw=>sp (K w.params)) M Y W N L F (λw H a ns E G I=>Z (K w.params) H a ns E G I) λ_ H s e s'=>U H s e s'
noncomputable def Ef(s:A3)(j:Nat):A3:=match s with|.ClassDef _ _ _ body _ _ _ _ _ _ _=>body.getD j (.Pass ⟨0,0,0,0⟩)|_=>.Pass ⟨0,0,0,0⟩
noncomputable def Nw(s:A3):Arguments:=match s with|.FunctionDef _ a _ _ _ _ _ _ _ _=>a|_=>{posonlyargs:=[],args:=[],vararg:=AF,kwonlyargs:=[],kw_defaults:=[],kwarg:=AF,defaults:=[]}
noncomputable def L3(s:A3):List A3:=match s with|.FunctionDef _ _ b _ _ _ _ _ _ _=>b|_=>[]
noncomputable def A2(s:A3):EI:=match s with|.FunctionDef _ _ _ _ _ _ D _ _ _=>D|_=>{kind:=.function,names:=[],isGenerator:=AQ,isCoroutine:=AQ}
noncomputable abbrev BM:HV:=λ_ _ _ _ _ _=>False
noncomputable abbrev Lp:F3:=λ_ _ _=>False
theorem Bk:JF BM X Lp:=λ_ _ _ _ _ _ _ h=>h.elim
structure Aj(K:Ar)(x qual:AG)(st:A3)(f:AD)(fd:Ag):Prop where
 ex:∃(oc:AK)(od:Option AD)(kV doc pm:AK)(an:Option AD)(cdv ct:AK)(osl:Array (Option AK)),fd=Oh x qual (Nw st) (L3 st) (A2 st) .none kV doc pm an cdv ct/\K.lookup f=AA ⟨oc,od,.func fd,osl⟩/\pQ K cdv qual=AH
 kp:Il K (.ref f)=AH
theorem Aj.ok{K:Ar}{st:A3}{ps:List AG}(F:Aj K x J st f C)(S:BV N ps (A2 st))(B:∀vs H Q E,sp vs H Q E->vs.length=ps.length)(W:∀(U:AK)(A:Cy)(D:List Dm)(s:AY)(H:AI)(vs:List AE)(Q:Bn)(E:F3),DK k (A.deeper (KP J (A2 st) s.heap.objs.size f U))->sp vs H Q E->∃t,F0 (Kv BM P w K M base N J (A2 st) f U A D s H E).ala (L3 st) t/\t {nx:=λ_ H'=>Q .non H',rt:=Q} (JV N vs) H):A8 P w K M base BM (k+1) f C ps sp:=by
 refine AB λY=>?_;obtain⟨a,b,X,G,c,R,U,T,O,rfl,L,Z⟩:=F.ex;refine Y ?_;try clear Y
 refine h9 L Z S B λA D s H vs Q E I z=>?_;refine AB λY=>?_;obtain⟨t,h,q⟩:=W U A D s H vs Q E I z;refine Y ?_;try clear Y
 exact⟨t,h.ala,q⟩
theorem Aj.ag{K:Ar}{st:A3}{ps:List AG}(F:Aj K x D st f q)(h:∀(Y U Z:AK)(V:Option AD)(J W:AK)(us:List AK),us.length=ps.length->bindArgs (Oh x D (Nw st) (L3 st) (A2 st) .none Y U Z V J W) ⟨us,[]⟩=BZ (ps.zip us)):BA K q ps []:=by
 refine AB λz=>?_;obtain⟨E,G,Y,U,Z,V,J,W,B,rfl,C,A⟩:=F.ex;refine z ?_;try clear z
 exact .afd (h Y U Z V J W)
theorem iD{K:Ar}{st:A3}(l:K.lookup f=AA ⟨q,z,.func (Oh x D (Nw st) (L3 st) (A2 st) .none Y J Z V F W),U⟩)(c:pQ K F D=AH)(k:Il K (.ref f)=AH):Aj K x D st f (Oh x D (Nw st) (L3 st) (A2 st) .none Y J Z V F W):=⟨⟨q,z,Y,J,Z,V,F,W,U,rfl,l,c⟩,k⟩
theorem AM{X:BY}(i:Nat){x:AG}(J:X.N[i]?=AA x:=by rfl)(V:Nt X.ae.scope x:=by first|exact Or.inl rfl|exact Or.inr (Or.inl rfl)|exact Or.inr (Or.inr rfl))(U:(x==("__debug__":AG))=AQ:=by decide)(D:(x==("__classdict__":AG))=AQ:=by decide):An X (.Name x F) (Xf i):=W3 J V U D
theorem Hj{A B:Prop}(h:B):if AQ=AH then A else B:=by rw[yX C4];exact h
theorem KA{A B:Prop}(h:A):if AH=AH then A else B:=by rw[yY rfl];exact h
noncomputable def Ap(H H':AI):Prop:=∀b o,H b=AA o->H' b=AA o
theorem Cu(H:AI):Ap H H:=λ_ _ h=>h
theorem Ap.aa(a:Ap H D)(b:Ap D F):Ap H F:=λc o h=>b c o (a c o h)
theorem Ap.bh(e:Ap H H')(h:H' l=AF):H l=AF:=by cases q:H l with|none=>rfl|some o=>rw[e l o q]at h;cases h
theorem Ap.abt{K:Ar}(e:Ap H H')(h:Bc K H a xs):Bc K H' a xs:=by
 rcases h with(h|⟨o,h⟩)|h;.exact .inl (.inl (e _ _ h))
 .exact .inl (.inr ⟨o,e _ _ h⟩)
 .exact .inr h
theorem Xo{U:Type}[DecidableEq U]{kvs:List (U×AE)}{k:U}(h:Bm kvs k=AF):¬k∈kvs.map (·.1):=by
 intro m;refine AB λD=>?_;obtain⟨p,F,e⟩:=BO.mp m;refine D ?_;try clear D
 have q:(kvs.any λJ=>Ae (J.1=k))=AH:=Rr.mpr ⟨p,F,y3 e⟩;rw[MR,h]at q;exact absurd q (by simp)
section
variable{κ:Type}[DecidableEq κ]
theorem Wj:∀{l:List κ}{k:κ},l.Nodup->¬k∈l->(l++[k]).Nodup
 |[],k,_,_=>by simp|a::r,k,h,D=>by
  obtain⟨h1,h2⟩:=Ih.mp h;show(a::(r++[k])).Nodup;refine Ih.mpr ⟨λm=>?_,Wj h2 λm=>D (CB.mpr (oM m))⟩;rcases DA.mp m with q|q;.exact h1 q
  .exact D (CB.mpr (BL (By.mp q).symm))
end
theorem hJ[DecidableEq D]{p:D×AE}(e:p.1=k):Cv (p::r) k=Cv r k:=by unfold Cv;rw[FX,yX (by simp[e])]
theorem hG[DecidableEq D]{p:D×AE}(e:¬p.1=k):Cv (p::r) k=p::Cv r k:=by unfold Cv;rw[FX,yY (by simp[e])]
theorem hE{D:Type}[DecidableEq D]{kvs:List (D×AE)}{k:D}{p:D×AE}(h:p∈Cv kvs k):p∈kvs:=(Dy.mp h).1
section
variable{κ:Type}[DecidableEq κ]
theorem RN:∀{kvs:List (κ×AE)}{k:κ},(kvs.map (·.1)).Nodup->((Cv kvs k).map (·.1)).Nodup
  |[],_,_=>List.nodup_nil|p::r,k,h=>by
    have h:(p.1::r.map (·.1)).Nodup:=h;obtain⟨h1,h2⟩:=Ih.mp h;by_cases e:p.1=k
    . rw[hJ e];exact RN h2
    . rw[hG e];show(p.1::(Cv r k).map (·.1)).Nodup;refine Ih.mpr ⟨λm=>h1 ?_,RN h2⟩;refine AB λD=>?_;obtain⟨q,J,F⟩:=BO.mp m;refine D ?_;try clear D
      exact BO.mpr ⟨q,hE J,F⟩
end
theorem Ci.afb(x:Ci P w H h)(J:H a=AF)(F:C5 P w (AN H a o) h a o):Ci P w (AN H a o) h:=by
  intro b u e;by_cases D:b=a
  . subst D;rw[Ab]at e;grind
  . rw[Ac D]at e;refine(x b u e).abm (by grind) (λc q=>?_) λc U q=>?_;.rw[Ac (by grind)];exact q
    .rw[Ac (by grind)];exact q
noncomputable def IQ(env:Dm)(D:List (AG×AD))(x:AG×Jd):List (AG×AD):=if x.2=.free then(x.1,(env.cells.lookup x.1).getD 0)::D else D
noncomputable def Kt(env:Dm)(D:List (AG×Jd)):List (AG×AD):=D.foldl (IQ env) []
theorem WM{J F:Type}{f:J->F->DH (ForInStep F)}{g:F->J->F}:∀(l:List J)(D:F),(∀x∈l,∀c,f x c=BZ (.yield (g c x)))->GH l D f=BZ (l.foldl g D)|[],D,_=>rfl|x::l,D,h=>by rw[List.forIn_cons,h x DR _];show GH l _ f=_;rw[WM l _ λy U=>h y (by grind)];rfl
theorem gS{D:EI}{env:Dm}(h:∀y∈D.names,y.2=.free->∃c,env.cells.lookup y.1=AA c):qG D env=BZ (Kt env D.names):=by
  simp only[qG];rw[WM (g:=IQ env) _ [] λx Y c=>by
    obtain⟨n,F⟩:=x;by_cases U:F=.free
    . subst U;obtain⟨a,V⟩:=h _ Y rfl;have J:=V;simp only[beq_self_eq_true,y9,IQ,cellOf,J,Option.getD_some];rfl
    . have W:(F==KU)=AQ:=by grind
      simp only[W,Jg,y8,IQ,U]];rfl
theorem V6{env:Dm}:∀(D:List (AG×Jd))(F:List (AG×AD)),(D.foldl (IQ env) F).lookup y=AA c->F.lookup y=AA c\/((y,KU)∈D/\(env.cells.lookup y).getD 0=c)
 |[],F,h=>.inl h|(n,k)::r,F,h=>by
  rcases V6 r _ h with q|⟨q,z⟩
  . unfold IQ at q;grind
  grind
theorem Q6:∀(D:List (AG×Jd))(F:List (AG×AD)),((y,KU)∈D\/∃c,F.lookup y=AA c)->∃c,(D.foldl (IQ env) F).lookup y=AA c
  |[],F,h=>by grind|(n,k)::r,F,h=>by
    refine Q6 r _ ?_;by_cases J:(y,KU)∈r;.grind
    . refine .inr ?_;rcases h with h|⟨c,h⟩
      . rcases CB.mp h with e|e;. cases e;exact⟨_,by unfold IQ;rw[yY rfl,List.lookup_cons_self]⟩
        grind
      . unfold IQ;grind
theorem gT(I:Nat->AY->Prop)(turn:∀n s,I n s->Av (Ao prog w) A (pyNext it) (λr F=>match r with|AF=>R (.ok .next) F|AA v=>Av (Ao prog w) A (Yk D it v) (λ_ J=>Av (Ao prog w) A (assign D env v) (λ_ Y=>Av (Ao prog w) A (GH L AH λc r=>if r=AH then do let N<-SN c env (BI c env);BZ (Ov N)else BZ (Ov r)) (λN U=>if N=AH then Av (Ao prog w) A (BI E env) (λx Z=>Av (Ao prog w) A (HK (.builtin "list.append") [C,x]) (λ_ q=>∃m,m<n/\I m q) (λ_ _=>False) Z) (λ_ _=>False) U else∃m,m<n/\I m U) (λ_ _=>False) Y) (λ_ _=>False) J) (λ_ _=>False) F) (λ_ _=>False) s)(n:Nat)(h:I n s):LO (Ao prog w) A (.compLoop (.ListComp E [⟨D,M,L,0⟩] B O) 0 it C env) R s:=by refine codeAny_loop rfl I (λn s Q=>?_) n h;refine wpAny_noted ?_;refine A4 (qT (A4 (Ge (turn n s Q) (λr F V=>?_) λ_ _ P=>P.elim)));cases r with|none=>exact Cg V|some v=>refine A4 (Ge V (λ_ J z=>?_) (by grind));refine A4 (Ge z (λ_ Y G=>A4 (Ge G (λN U W=>?_) (by grind))) (by grind));cases N with|false=>exact Cg ⟨rfl,W⟩|true=>exact A4 (A4 (Ge W (λx Z H=>A4 (Ge H (λ_ q K=>Cg (Cg ⟨rfl,K⟩)) (by grind))) (by grind)))
noncomputable def HY(X:BY)(F:List A5)(t:C6):Prop:=∀(D:List (AD×A6))(s:AY)(J:Am)(H:AI)(Q:Bool->AI->Prop),AZ X D J H s->t J H Q->Av (Ao X.af X.w) X.A (GH F AH λc r=>if r=AH then do let U<-SN c X.ae (BI c X.ae);BZ (Ov U)else BZ (Ov r)) (Q2 X D J Q) X.xe s
noncomputable def Ro:C6:=λ_ H Q=>Q AH H
theorem G8:HY X [] Ro:=λD s F H Q I h=>wpAny_tests_nil ⟨H,I,h⟩
theorem KI(h:F1 X c t):HY X [c] t:=λD s F H Q I hw=>wpAny_tests_one (h _ s F H Q I hw)
noncomputable def DF(X:BY)(D:EI)(N:List AG)(C:AD)(s:AY)(H:AI)(ex:List AD):BY:={X with N:=N,s₀:=s,H₀:=H,ae:=compEnvC D (Kt X.ae D.names) C X.ae,xi:=X.cb,cb:=X.cb,ex:=ex,fn:=λ_=>AQ,pn:=[],xe:=λ_ _=>False}
noncomputable def FV(D:Am)(j:Nat):Option AE:=(D[j]?).getD AF
noncomputable def Ln(E:Nat)(C:List Nat)(g:Du)(I:C6)(G:A1)(K:Am)(Q:Bn)(J:FQ)(Z:AI):Prop:=∃W:Nat->Nat->Am->List AE->AI->Prop,(∃m,W 0 m (Dz E AF++C.map (FV K)) [] Z)/\∀i m A F H,W i m A F H->(J.zw i H/\∀D,H D=AF->Q (.ref D) (AN H D (.lst F)))\/(J.go i H/\F.length<Aw/\∀x q,J.aht i H x q->g x A q λU Z=>I U Z λb z=>if b=AH then G U z λy B=>∃Y,Y<m/\W (i+1) Y U (F++[y]) B else∃Y,Y<m/\W (i+1) Y U F z)
noncomputable def JW(J:Nat)(F:List Nat)(wi:Ed)(g:Du)(V:C6)(U:A1):A1:=λD H Q=>wi D H (Ln J F g V U D Q)
theorem XM{env:Dm}:∀{D:List (AG×Jd)}{y:AG},(∀z∈D,z.2≠.cell)->((D.map λ(n,k)=>if(k==KU&&env.scope.kind==.function&&env.kindOf n==AA .cell)then(n,YV)else(n,k)).lookup y=AA .cell\/(D.map λ(n,k)=>if(k==KU&&env.scope.kind==.function&&env.kindOf n==AA .cell)then(n,YV)else(n,k)).lookup y=AA .free)->(y,KU)∈D|[],y,_,h=>by grind|(n,k)::r,y,F,h=>by have J:=@XM env r y (by grind);grind
theorem Wh{env:Dm}:∀{D:List (AG×Jd)}{y:AG},D.lookup y=AA .free->(D.map λ(n,k)=>if(k==KU&&env.scope.kind==.function&&env.kindOf n==AA .cell)then(n,YV)else(n,k)).lookup y=AA .cell\/(D.map λ(n,k)=>if(k==KU&&env.scope.kind==.function&&env.kindOf n==AA .cell)then(n,YV)else(n,k)).lookup y=AA .free|[],y,h=>by grind|(n,k)::r,y,h=>by have F:=@Wh env r y;grind
noncomputable def HW(X:BY)(D:EI):List (AG×Nat)->Prop|[]=>True|p::r=>X.N[p.2]?=AA p.1/\D.names.lookup p.1=AA .free/\HW X D r
theorem HW.afd{X:BY}{D:EI}:∀{F:List (AG×Nat)},HW X D F->∀p∈F,X.N[p.2]?=AA p.1/\D.names.lookup p.1=AA .free
 |p::r,h,q,J=>by
  rcases CB.mp J with e|e;.subst e;exact⟨h.1,h.2.1⟩
  .exact HW.afd h.2.2 q e
theorem V7{X:BY}{U:EI}{own:List AG}{N:List (AG×Nat)}(hc:X.ic=AH)(hi:Eu X tg O wi)(hk:U.kind=.function)(hcell:∀y∈U.names,y.2≠.cell)(hnames:∀y∈U.names,y.2=.local->U.names.lookup y.1=AA .local)(f:∀y∈U.names,y.2=.free->X.ae.kindOf y.1=AA .cell\/X.ae.kindOf y.1=AA .free)(hfr:HW X U N)(hg:∀C s H ex,JE (DF X U (own++N.map (·.1)) C s H ex) tg g)(ht:∀C s H ex,HY (DF X U (own++N.map (·.1)) C s H ex) ifs tt)(he:∀C s H ex,An (DF X U (own++N.map (·.1)) C s H ex) elt te)(hs:∀x,Ka O X.ae x=BZ x)(I:AZ X P σ H s)(h:JW own.length (N.map (·.2)) wi g tt te σ H Q)(fin:∀(D C:AD)m(s4:AY)(H5:AI)v,AZ X P σ H5 s4->s4.heap.Ns C m->H5 C=AF->C≠X.ae.locals->X.s₀.heap.objs.size<=C->(∀x c,X.ae.cells.lookup x=AA c->c≠C)->(∀p∈X.pn++P,p.1≠C)->Q (.ref D) H5->compPost (Ao X.af X.w) X.A X.xe use PQ (.ref D) C (.ok v) s4):Av (Ao X.af X.w) X.A (comprehension (.ListComp elt [⟨tg,O,ifs,0⟩] U pos) U X.ae p0 (newList []) AQ (BI O X.ae) use) PQ X.xe s:=by
  have d:∀y c,(Kt X.ae U.names).lookup y=AA c->X.ae.cells.lookup y=AA c:=λy c e=>by
    rcases V6 U.names [] e with q|⟨q,z⟩;.simp at q
    . obtain⟨c',e'⟩:=I.ok.ake y (f _ q rfl);rw[e']at z;rw[e',<-z];rfl
  have hclos:qG U X.ae=BZ (Kt X.ae U.names):=gS λy hy e=>I.ok.ake y.1 (f y hy e);refine wpAny_comprehension_free (use:=use) (cl:=Kt X.ae U.names) (Q:=PQ) rfl hs hclos hk hnames ?_;refine Ay (hi P s σ H _ I h) λv s1 h1=>Ay h1 λitv s2 h2=>?_;refine AB λnG=>?_;obtain⟨it,L,tn,J,R,e,Z,T,st2,f2,W,⟨m0,w0⟩,turn⟩:=h2;refine nG ?_;try clear nG
  subst e;refine wH (wpAny_newFunctionEnv hcell (by intro y hy;simp at hy) (λh₁ E A=>?_) hk);dsimp only at E A⊢;generalize hH2:s2.heap.push _=HL at E A⊢;have hC:HL.objs.size=s2.heap.objs.size+1:=by rw[<-hH2,pI]
  generalize hCC:HL.objs.size=C at E A hC⊢;have hDC:s2.heap.objs.size≠C:=by rw[hC];exact ET (Hu _)
  have G:∀b,b<s2.heap.objs.size->b≠C/\b≠s2.heap.objs.size:=λb Y=>⟨by rw[hC];exact ET (tG Y),ET Y⟩;have old:=λb o e=>A.extBut b o (G b (CP e)).1 (Cn _ (hH2▸Cn _ e));have eD0:=A.extBut _ _ hDC (Cn _ (hH2▸FZ _ rfl));have t:∀b∈L,b<s2.heap.objs.size:=λb Y=>by obtain⟨o,e,_⟩:=T.cn _ _ st2 b Y;exact CP e
  generalize hD:s2.heap.objs.size=D at hDC G eD0 t hC;have hDfp:D∉L:=λz=>HI _ (t D z);have okY:(DF X U (own++N.map (·.1)) C s2 R L).Ok:=by
    refine⟨Z.ok.aah,hk,Z.ok.aba,Z.ok.ajr,by show s2.heap.objs.size<=C;(first|lia|omega),λx y c e1 e2=>Z.ok.ait x y c (d x c e1) (d y c e2),λy hy=>?_,λx c z _=>(by cases z),Z.ok.hd,Z.ok.qj,.inl rfl,λb Y=>⟨(G b (t b Y)).1,λy c e=>?_⟩,Z.bs,CL Z.ok.ahs Z.sz,λb o e Y=>?_,λb Y z=>?_,Z.cb,Z.afa⟩;.exact Q6 U.names [] (.inl (XM (env:=X.ae) hcell hy))
    .exact(f2 b Y).2.2.2.2.1 y c (d y c e)
    . rcases(f2 b Y).2.2.2.1 with z|z;.exact Z.ok.ahk b o e z
      .exact absurd (ES (CP e) (CL Z.ok.ahs z)) (HI _)
    . rcases CB.mp (Z.abn b z)with q|q;.exact(f2 b Y).2.1 q
      .exact(f2 b Y).2.2.1 q
  have j:∀y c,X.ae.cells.lookup y=AA c->c<D:=λy c e=>by obtain⟨v,z⟩:=Z.uz y c e;exact ES z.lt (Ht hD)
  have stkLt:∀b∈Ew X.cb,b<D:=λb Y=>by
    rcases CB.mp (Z.abn b Y)with q|q;.rw[q];exact ES Z.lt (Ht hD)
    . obtain⟨_,o,ho,_⟩:=Z.ok.vb.mem q;exact ES (CP ho) (CL Z.sz (Ht hD))
  have S:∀a,D<=a->R a=AF:=λa ha=>Z.bx.bo (CL (Ht hD) ha);have IY:AZ (DF X U (own++N.map (·.1)) C s2 R L) [] (Dz own.length AF++(N.map (·.2)).map (FV σ)) R {s2 with heap:=h₁,toks:=s2.toks+([]:List (AG×AK)).length}:=by
    refine⟨okY,rfl,Z.jx,Nq old,⟨_,E,λi y v e1 e2 e3=>?_⟩,λy c e=>?_,S C (by(first|lia|omega)),λy c e=>Z.mf y c (d y c e),λp M=>absurd (show p∈([]:List (AD×A6))from M) (by simp),Z.bx.jf old,?_⟩
    . have e1:(own++N.map (·.1))[i]?=AA y:=e1;have hi':own.length<=i:=by
        by_cases hlt:i<own.length
        . rw[K9 (by simpa using hlt),sJ,yY hlt]at e2;cases e2
        . (first|lia|omega)
      rw[MV hi',Bx]at e1;rw[MV (by simpa using hi'),Bx,Bx,sP]at e2;cases M:N[i-own.length]? with |none=>rw[M]at e1;cases e1|some p=>
        rw[M]at e1 e2;have ey:p.1=y:=CM e1;have ev:FV σ p.2=AA v:=CM e2;obtain⟨a1,a3⟩:=hfr.afd p (DW M);have es:σ[p.2]?=AA (AA v):=by unfold FV at ev;cases q:σ[p.2]? with|none=>rw[q]at ev;cases ev|some z=>rw[q]at ev;exact yZ AA ev
        have hfk:=f (p.1,.free) (Mm a3) rfl;obtain⟨m,hn,hl⟩:=Z.ads;obtain⟨u,r,l⟩:=hl p.2 p.1 v a1 es (hfk.elim (λz=>.inr (.inl z)) λz=>.inr (.inr z));refine⟨u,r,.inr ?_⟩;rcases l with⟨z,_⟩|⟨_,c,ec,zc⟩;.rcases hfk with q|q<;>rw[z]at q<;>cases q
        . obtain⟨c',ec'⟩:=Q6 (env:=X.ae) (y:=p.1) U.names [] (.inl (Mm a3));have:c'=c:=CM ((d _ _ ec').symm.trans ec);subst this;rw[<-ey];obtain⟨o,ho,hdd⟩:=zc;exact⟨Wh (env:=X.ae) a3,c',ec',o,old _ o ho,hdd⟩
    . obtain⟨v,z⟩:=Z.uz y c (d y c e);obtain⟨o,ho,hdd⟩:=z;exact⟨v,o,old _ o ho,hdd⟩
    . show(Dz own.length (AF:Option AE)++(N.map (λp=>p.2)).map (FV σ)).length=(own++N.map (λp=>p.1)).length;simp
  have fpY:∀{w:AI}{ob:A6},(∀b∈L,w b=AF)->∀b∈L,G4 (DF X U (own++N.map (·.1)) C s2 R L) [(D,ob)] w b:=λ{w ob}hn b Y=>⟨hn b Y,(G b (t b Y)).1,λz=>okY.agu b Y z,.inl Y,λy c e=>(okY.alf b Y).2 y c e,λp M=>by
      have e:p=(D,ob):=by simpa[DF]using M
      rw[e];show D≠b;exactλz=>hDfp (z▸Y)⟩;have noC:∀(xs:Array AK)(k:Nat)(v:Option AK),({cls:=.type "list",data:=.seq xs k}:A6).data≠.cell v:=λxs k v z=>by cases z
  have loop:∀s₃:AY,s₃={s2 with heap:=h₁,toks:=s2.toks+([]:List (AG×AK)).length}->LO (Ao X.af X.w) X.A (.compLoop (.ListComp elt [⟨tg,O,ifs,0⟩] U pos) 0 (.ref it) (.ref D) (compEnvC U (Kt X.ae U.names) C X.ae)) (compPost (Ao X.af X.w) X.A X.xe use PQ (.ref D) C) s₃:=by
    rintro s₃ rfl;refine gT (λn s'=>∃(i:Nat)(τ:Am)(K:List AE)(H':AI)(B:List AK)(k:Nat),AZ (DF X U (own++N.map (·.1)) C s2 R L) [] τ H' s'/\tn i s'.heap/\(∀b∈L,H' b=AF)/\H' D=AF/\BJ K B/\s'.heap.get? D=AA {cls:=.type "list",data:=.seq B.toArray k}/\K.length<=Aw/\W i n τ K H') ?_ m0 ⟨0,_,[],R,[],0,IY,T.ab _ _ _ st2 λb _ o e=>old b o e,λb Y=>(f2 b Y).1,S D (Al _),.nil,eD0,CU _,w0⟩;rintro n s3⟨i,τ,K,w,B,k,I3,st3,fr3,fD,rv,eD,hz,w3⟩;have I3':AZ (DF X U (own++N.map (·.1)) C s2 R L) [(D,{cls:=.type "list",data:=.seq B.toArray k})] τ w s3:=I3.jh λp M=>by
      have e:=by simpa using M
      subst e;exact⟨eD,fD,hDC,λz=>HI _ (stkLt D z),noC _ _⟩
    rcases turn i n τ K w w3 with⟨stop,qn⟩|⟨go,hlt,step⟩
    . refine Ay (T.aaz (DF X U (own++N.map (·.1)) C s2 R L) rfl rfl rfl hc i _ s3 τ w (λ_ _=>False) I3' (fpY fr3) st3 stop) λr s4⟨hr,I4⟩=>?_;subst hr;obtain⟨m,hn4,_⟩:=I4.ads;obtain⟨eD4,fD4,_⟩:=I4.zu (D,{cls:=.type "list",data:=.seq B.toArray k}) (Ej _ (By.mpr rfl));have b4:FR (Ew X.cb) L R w s2.heap s4.heap:=I4.ah;have lt2:∀b o,s2.heap.get? b=AA o->b≠C/\b≠D:=λb o e=>G b (ES (CP e) (Ht hD));have tr2:∀b o,R b=AA o->b≠D:=λb o e z=>by have:=S D (Al _);rw[z,this]at e;cases e
      have un:FR (Ew X.cb) L R (AN w D (.lst K)) s2.heap s4.heap:=by
        refine⟨λb o e n Y hx=>b4.ab b o e n Y hx,λb o e n Y hx=>?_,λb o e n hx=>?_,λb o e hx=>?_,λb xs e=>?_,λb o u e=>?_,λb ps e=>?_⟩
        . obtain⟨sl,q⟩:=b4.zv b o e n Y hx;exact⟨sl,q⟩
        .rw[Ac (lt2 b o e).2];exact b4.bh b o e n hx
        . obtain⟨o',q⟩:=b4.rl b o e hx;exact⟨o',q⟩
        .rw[Ac (tr2 _ _ e)];exact b4.abq b xs e
        .rw[Ac (tr2 _ _ e)];exact b4.yy b o u e
        .rw[Ac (tr2 _ _ e)];exact b4.abp b ps e
      have hok':Ci X.af X.w (AN w D (.lst K)) s4.heap:=I4.bx.afb fD4 ⟨hz,B,k,rv,eD4⟩;have IX:AZ X P σ (AN w D (.lst K)) s4:=Z.acw (s':=s4) (ch:=L) I4.os un hok' I4.jx λb Y=>⟨(f2 b Y).2.2.2.1,(f2 b Y).2.1,(f2 b Y).2.2.2.2.1,(f2 b Y).2.2.2.2.2⟩;have hHC:w C=AF:=I4.bh;have noCD:∀b:AD,b<D->C≠b:=λb Y z=>by rw[<-z,hC]at Y;exact HI D (tF Y)
      have hCL:C≠X.ae.locals:=noCD _ (ES Z.lt (Ht hD));refine fin D C m s4 _ _ IX hn4 (by rw[Ac hDC.symm];exact hHC) hCL (CL Z.sz (by(first|lia|omega))) (λz c e q=>?_) (λp M q=>?_) (qn D fD4);.exact noCD _ (j z c e) q.symm
      .exact noCD _ (ES (CP (Z.zu p M).1) (Ht hD)) q.symm
    . refine Ay (T.abb (DF X U (own++N.map (·.1)) C s2 R L) rfl rfl rfl hc i _ s3 τ w (λ_ _=>False) I3' (fpY fr3) st3 go) λr s4⟨u,hr,h4⟩=>?_;subst hr;refine Ay h4 λ_ s5⟨x,H5,I5,r5,y5,st5,fr5⟩=>?_;have I5':=I5.ahl (fpY fr5) (T.cn _ _ st5);refine Ay (hg _ _ _ _ _ s5 τ H5 x u _ I5' r5 (step x H5 y5)) λ_ s6⟨τ6,H6,I6,q6⟩=>?_;refine Ay (ht _ _ _ _ _ s6 τ6 H6 _ I6 q6) λb s7⟨H7,I7,q7⟩=>?_;have facts:∀{s8:AY}{H8:AI}{τ8:Am},AZ (DF X U (own++N.map (·.1)) C s2 R L) ([(D,{cls:=.type "list",data:=.seq B.toArray k})]++MM L s5.heap) τ8 H8 s8->tn (i+1) s8.heap/\(∀b∈L,H8 b=AF)/\H8 D=AF/\s8.heap.get? D=AA {cls:=.type "list",data:=.seq B.toArray k}:=λ{s8 H8 τ8}I8=>by
        have M:∀b∈L,∀o,s5.heap.get? b=AA o->s8.heap.get? b=AA o/\H8 b=AF:=λb Y o e=>by have q:=I8.zu (b,o) (Ej _ (Ej _ (RL Y e)));exact⟨q.1,q.2.1⟩
        have qD:=I8.zu (D,{cls:=.type "list",data:=.seq B.toArray k}) (Ej _ (Gr _ (By.mpr rfl)));refine⟨T.ab _ _ _ st5 λb Y o e=>(M b Y o e).1,λb Y=>?_,qD.2.1,qD.1⟩;obtain⟨o,e,_⟩:=T.cn _ _ st5 b Y;exact(M b Y o e).2
      cases b with |false=> obtain⟨m',hm,w7⟩:=q7;obtain⟨z1,z2,z3,z4⟩:=facts I7;exact⟨m',hm,i+1,τ6,K,H7,B,k,I7.jh λp M=>absurd M (by simp),z1,z2,z3,rv,z4,hz,w7⟩|true=>
        refine Ay (he _ _ _ _ _ s7 τ6 H7 _ I7 q7) λu8 s8⟨y,H8,I8,r8,m',hm,w8⟩=>?_;obtain⟨z1,z2,z3,z4⟩:=facts I8;have hl:=rv.ai;refine Oi SG ⟨_,z4,rfl⟩ uI (uF _ _) (vZ D B.toArray k u8 (by rw[D1];(first|lia|omega))) ⟨z4,?_⟩;have z5:=uV z4 (·.push u8);have z6:B.toArray.push u8=(B++[u8]).toArray:=by simp
        rw[z6]at z5;have kk:∀b o,b≠D->s8.heap.get? b=AA o->(s8.heap.update D (DC (·.push u8))).get? b=AA o:=λb o Y e=>(uU s8.heap (DC (·.push u8)) (Hv Y)).trans e;have I8':AZ (DF X U (own++N.map (·.1)) C s2 R L) [] τ6 H8 s8:=I8.jh λp M=>absurd M (by simp);refine⟨m',hm,i+1,τ6,K++[y],H8,B++[u8],_,I8'.eh (it:=D) kk z3 hDC (.inr (by show s2.heap.objs.size<=D;(first|lia|omega))) (λy c e=>ET (j y c (d y c e))) (λp M=>absurd (show p∈([]:List (AD×A6))from M) (by simp)),?_,z2,z3,rv.uf (.cons r8 .nil),z5,?_,w8⟩;.exact T.ab _ _ _ z1 λb Y o e=>kk b o (λz=>hDfp (z▸Y)) e
        .rw[CA,X0];(first|lia|omega)
  exact codeAny_compStart_list (loop _ rfl) (T.adk X.A 0 _ _ _ (T.ab _ _ _ st2 λb _ o e=>old b o e) (loop _ rfl))
theorem Wz{X:BY}{F:EI}{K:A1}{own:List AG}{Z:List (AG×Nat)}(a:X.ic=AH)(hi:Eu X E J wi)(f:F.kind=.function)(V:∀y∈F.names,y.2≠.cell)(U:∀y∈F.names,y.2=.local->F.names.lookup y.1=AA .local)(W:∀y∈F.names,y.2=.free->X.ae.kindOf y.1=AA .cell\/X.ae.kindOf y.1=AA .free)(A:HW X F Z)(d:∀C s H ex,JE (DF X F (own++Z.map (·.1)) C s H ex) E g)(k:∀C s H ex,HY (DF X F (own++Z.map (·.1)) C s H ex) z L)(c:∀C s H ex,An (DF X F (own++Z.map (·.1)) C s H ex) Y K)(j:∀x,Ka J X.ae x=BZ x:=by intro _;rfl):An X (.ListComp Y [⟨E,J,z,0⟩] F B) (JW own.length (Z.map (·.2)) wi g L K):=by intro G s r H Q I h;exact V7 a hi f V U W A d k c j I h λD C m s4 n v M i R S N O P q=>⟨m,i,λp l=>⟨.ref D,_,M.eh (λb o T e=>(l.2 b T).trans e) R S (.inr N) O P,rfl,q⟩⟩
theorem MI{X:BY}{D osc:EI}(Y:List (AG×Nat))(K:X.ic=AH)(hi:Eu X (.Name x E) F wi)(N:X.ae.scope=osc)(M:D.kind=.function)(U:∀y∈D.names,y.2≠.cell)(J:∀y∈D.names,y.2=.local->D.names.lookup y.1=AA .local)(V:∀y∈D.names,y.2=.free->osc.names.lookup y.1=AA .cell\/osc.names.lookup y.1=AA .free)(q:HW X D Y)(B:D.names.lookup x=AA .local)(z:(x::Y.map (·.1)).Nodup)(P:∀C s H ex,HY (DF X D (x::Y.map (·.1)) C s H ex) Z I)(L:∀C s H ex,An (DF X D (x::Y.map (·.1)) C s H ex) W G)(O:∀x,Ka F X.ae x=BZ x:=by intro _;rfl):An X (.ListComp W [⟨.Name x E,F,Z,0⟩] D A) (JW 1 (Y.map (·.2)) wi (F4 0) I G):=Wz (own:=[x]) K hi M U J (λy Q e=>by show X.ae.scope.names.lookup y.1=_\/X.ae.scope.names.lookup y.1=_;rw[N];exact V y Q e) q (λC s H ex=>FE (i:=0) z rfl (.inl (ID B)) (.inr (ID B))) P L O
noncomputable def lG:AE->Option Int->Option Int->AI->Bn->Prop:=λx F D H Q=>∃z,x=.str z/\z.length<=Aw/\Q (.str (Ik z F D)) H
theorem Wx(p:KS v o):∃l:Option (Int×GA),v=partValue l/\l.map (·.1)=o:=by cases p with|none=>exact⟨AF,rfl,rfl⟩|int i t=>exact⟨AA (i,t),rfl,rfl⟩
theorem XR:Kq X lG:=by
 intro J s L H x v G K B A C Q I Z U W Y h;refine AB λD=>?_;obtain⟨z,rfl,V,q⟩:=h;obtain⟨t,rfl⟩:=Z;obtain⟨l,rfl,rfl⟩:=Wx W;obtain⟨u,rfl,rfl⟩:=Wx Y;refine D ?_;try clear D
 exact⟨"str",_,F.slot_str_getitem.lookup,Yo _ _ _,wpAny_getItem_str_slice (l:=l) (u:=u) (st:=AF) U rfl (post_val_or_str ⟨CL (Txt.slice_le z _ _) V,λE k=>⟨.str _,H,I.fw _,⟨_,rfl⟩,q⟩⟩)⟩
theorem Vy{X:BY}{K:Ar}(J:X.K=K:=by rfl):Ea X (.builtin "isinstance") (λxs H Q=>∃x n t b,xs=[x,.ty n]/\GW K H x t/\LJ K t (.type n)=AA b/\Q (.bl b) H):=by
 subst J;intro F s A H xs z Q I r h;refine AB λD=>?_;obtain⟨x,n,t,b,rfl,W,e,q⟩:=h;obtain⟨u,Y,rfl,V,U⟩:=OM r;cases(show Y=pN n from U);refine D ?_;try clear D
 exact iR I V W e λZ=>⟨.bl b,H,I.fw _,rfl,q⟩
mutual inductive G1(K:Ar)(H:AI):AE->Je->Prop where|non:G1 K H .non .none|bl(b:Bool):G1 K H (.bl b) (.bool b)|int(i:Int):G1 K H (.int i) (.int i)|str(x:AG):G1 K H (.str x) (.str x)|lst{a:AD}{xs:List AE}{ds:List Je}:Bc K H a xs->JA K H xs ds->G1 K H (.ref a) (.list ds)|tup{a:AD}{xs:List AE}{ds:List Je}:B8 K H a xs->JA K H xs ds->G1 K H (.ref a) (.tuple ds)inductive JA(K:Ar)(H:AI):List AE->List Je->Prop where|nil:JA K H [] []|cons{x:AE}{d:Je}{xs:List AE}{ds:List Je}:G1 K H x d->JA K H xs ds->JA K H (x::xs) (d::ds)end
section
variable{X:BY}{pins:List (AD×A6)}{σ:Am}{H:AI}{s:AY}
mutual theorem G1.aiy(I:AZ X pins σ H s):∀{x:AE}{d:Je}{u:AK},G1 X.K H x d->BQ x u->∃F,Reads s.heap u d F
 |_,_,_,.non,r=>by cases(by assumption);exact⟨_,.none⟩|_,_,_,.bl b,r=>by cases(by assumption);exact⟨_,.bool b⟩|_,_,_,.int i,r=>by obtain⟨t,rfl⟩:=r;exact⟨_,.int i t⟩|_,_,_,.str x,r=>by obtain⟨t,rfl⟩:=r;exact⟨_,.str x t⟩|_,_,_,.lst J ds,r=>by
  refine AB λD=>?_;cases r;obtain⟨U,Y,W,_⟩:=I.fk J;obtain⟨F,q⟩:=Qv I ds Y;obtain⟨o,e,c,n,d⟩:=W.isList;refine D ?_;try clear D
  exact⟨_,.list e c d (by simpa using q)⟩|_,_,_,.tup J ds,r=>by
  refine AB λD=>?_;cases r;obtain⟨U,Y,W,_⟩:=I.dy J;obtain⟨F,q⟩:=Qv I ds Y;obtain⟨o,e,c,n,d⟩:=W;refine D ?_;try clear D
  exact⟨_,.tuple e c d (by simpa using q)⟩theorem Qv(I:AZ X pins σ H s):∀{xs:List AE}{ds:List Je}{Z:List AK},JA X.K H xs ds->BJ xs Z->∃F,ReadsAll s.heap Z ds F |_,_,_,.nil,r=>by cases r;exact⟨_,.nil⟩|_,_,_,.cons d ds,r=>by cases r with|cons r1 r2=>
   refine AB λD=>?_;obtain⟨F,q⟩:=G1.aiy I d r1;obtain⟨z,p⟩:=Qv I ds r2;refine D ?_;try clear D
   exact⟨_,.cons q p⟩end
end
noncomputable def lE(K:Ar):DU:=λx y H Q=>∃d e,G1 K H x d/\G1 K H y e/\YZ d=AH/\YZ e=AH/\Q (.bl (!SJ d e)) H
theorem Wu{X:BY}{K:Ar}(W:X.A.units+64<GC)(J:X.K=K:=by rfl):CG X (EJ .NotEq) (lE K):=by
 subst J;intro F s E H x y v u Q I Y Z h;refine AB λD=>?_;obtain⟨d,e,U,V,z,A,q⟩:=h;obtain⟨B,r1⟩:=U.aiy I Y;obtain⟨C,r2⟩:=V.aiy I Z;refine D ?_;try clear D
 exact ne_dataH r1 r2 z A W ⟨.bl _,H,I,rfl,q⟩
theorem Gk{U:Type}(xs:List U)(n:Int)(W:(xs.length:Int)=n)(D:0<n)(c:Int):∃v,Cb xs (c%n)=AA v/\v∈xs:=by have F:0<=c%n:=FJ _ (by(first|lia|omega));have V:c%n<n:=Fu _ D;obtain⟨j,J⟩:=Int.eq_ofNat_of_zero_le F;refine⟨xs[j],?_,(by grind)⟩;rw[J];exact Aq (by grind)
theorem IV{c:Bool}{A B:Prop}(D:c=AH->A)(F:c=AQ->B):if c=AH then A else B:=by grind
theorem Ap.gf(e:Ap H H')(h:H' a=AF):Ap H (AN H' a o):=λb u q=>by rw[Ac (BS (e b u q) h)];exact e b u q
theorem DL{X:BY}{K:Ar}(D:X.K=K:=by rfl):Ko X (XC K):=by subst D;exact iU
theorem CD{X:BY}{K:Ar}(D:X.K=K:=by rfl):Ko X (XD K):=by subst D;exact iV
theorem Ho{X:BY}{K:Ar}(D:X.K=K:=by rfl):Kq X (XE K):=by subst D;exact lR
theorem Rk{X:BY}{K:Ar}(D:X.K=K:=by rfl):Kq X (XF K):=by subst D;exact lS
theorem RU{X:BY}{K:Ar}(D:X.K=K:=by rfl):CG X (EJ .In) (OH K AQ):=by subst D;exact jR
theorem jV{X:BY}{K:Ar}(D:X.K=K:=by rfl):CG X (EJ .NotIn) (OH K AH):=by subst D;exact jU
theorem Wq{X:BY}{K:Ar}(D:X.K=K:=by rfl):CG X (Fb .Add) (XB K):=by subst D;exact jP
theorem Hi{X:BY}{K:Ar}(D:X.K=K:=by rfl):Ea X (.builtin "len") (λxs H Q=>∃p ys,xs=[.ref p]/\(Bc K H p ys\/B8 K H p ys)/\Q (.int ys.length) H):=by subst D;exact gM
theorem Nu{X:BY}{K:Ar}(D:X.K=K:=by rfl):Ea X (.type "list") (λxs H Q=>∃p ys,xs=[.ref p]/\(Bc K H p ys\/B8 K H p ys)/\∀l,H l=AF->Q (.ref l) (AN H l (.lst ys))):=by subst D;exact gO
theorem Dr{X:BY}{K:Ar}(J:An X l D)(F:X.K=K:=by rfl):Eu X U l (WQ K D):=by subst F;exact kL J
theorem JP{X:BY}{K:Ar}{name:AG}{J D:Ca}{id:String}(I:PlainAttrs T)(q:Slot T name id)(z:typeOf (.builtin id)=BZ (.type "method_descriptor"))(E:Qx X id r)(G:An X o A)(C:Ec X (e::U) t)(B:X.K=K:=by rfl)(W:Jf o name X.ae (BI o X.ae)=BI o X.ae:=by rfl)(Z:((EV D (Bv (e::U) X.ae)).all (λx=>!x.1)&&(Mi D (Ml [] X.ae)).all (λx=>x.1.isSome)&&Ae ((e::U).length+([]:List Jc).length+(if([]:List Jc).isEmpty then 0 else 1)<30))=AH:=by rfl)(Y:(J.endLine==D.line)=AH:=by rfl)(H:Bv (e::U) X.ae=(AQ,BI e X.ae)::Bv U X.ae:=by rfl)(F:(EV D (Bv U X.ae)).any (·.1)=AQ:=by rfl):An X (.Call (.Attribute o name J) (e::U) [] D) (Rl K T r A t):=by subst B;exact j8 I q z E G C W Z Y H F
theorem DK.u1{A:Cy}(r:DK k A):A.units+1<GC:=by have:=r.un;(first|lia|omega)
noncomputable def Kn(lo d:Int)(n:Nat):FQ:=⟨λi _=>i<n,λi H x D=>D=H/\x=.int (lo+(i:Int)*d),λi _=>n<=i⟩
theorem nJ{K:Ar}(it:AD)(lo d:Int)(n:Nat):JG P w K S (Kn lo d n) [it] it (λi h=>pK h it (lo+(i:Nat)*d) ((n:Int)-(i:Nat)) d)where
 ajh:=by simp
 cn:=(by grind)
 ab:=(by grind)
 abb:=by
  intro X M hw L A i D s N H E I B J C;subst M hw L;refine AB λF=>?_;obtain⟨V,Y,Q,Z,q,z⟩:=B it (by simp);refine F ?_;try clear F
  have W:=vS (prog:=X.af) (w:=X.w) (I.ok.hd A) it lo d n;refine W.item i s _ _ C J λv G T R U b=>?_;obtain⟨t,rfl⟩:=R;have O:AZ X D N H {s with heap:=G,toks:=T}:=I.eh (by grind) V Y Z q z;exact⟨_,rfl,Nz U rfl rfl (by decide) ⟨.int _,H,O,⟨t,rfl⟩,⟨rfl,rfl⟩,U,(by grind)⟩⟩
 aaz:=by
  intro X M hw L A i D s N H E I B J C;refine AB λF=>?_;obtain⟨V,Y,Q,Z,q,z⟩:=B it (by simp);refine F ?_;try clear F
  exact wN (I.ok.hd A) J (by have:n<=i:=C;(first|lia|omega)) λG a=>⟨rfl,I.eh (by assumption) V Y Z q z⟩
 adk:=λ_ _ _ _ _ J h=>wL J h
noncomputable def D9(lo hi d:Int):Nat:=if lo<hi then((hi-lo-1)/d+1).toNat else 0
theorem OI{lo:Int}(D:1<=d):YL lo hi d=(D9 lo hi d:Int):=by
 unfold YL D9;rw[yY (by(first|lia|omega))];split
 . have:0<=(hi-lo-1)/d:=Int.ediv_nonneg (by(first|lia|omega)) (by(first|lia|omega));(first|lia|omega)
 .rfl
theorem Xj{lo:Int}(F:1<=d):(D9 lo hi d:Int)<=(if lo<hi then hi-lo else 0):=by
 unfold D9;split
 . have D:(hi-lo-1)/d<=hi-lo-1:=Int.ediv_le_self _ (by(first|lia|omega));(first|lia|omega)
 grind
theorem lV(D:1<=c)(V:c<1000000)(Z:-(2^40)<=a)(J:a<2^40)(q:-(2^40)<=b)(U:b<2^40):YM a b c=AH:=by
 have h:=Xj (lo:=a) (hi:=b) D;have z:=OI (lo:=a) (hi:=b) D;unfold YM;have F:(D9 a b c:Int)<=2^42:=by grind
 have W:=rS F (by(first|lia|omega)) (by(first|lia|omega)) (by(first|lia|omega));have Y:0<=(D9 a b c)*c:=Ow (by(first|lia|omega)) (by(first|lia|omega));simp only[t8,M6,rO,y7,zC,show c>0 by(first|lia|omega),y9];grind
theorem lI{X:BY}{K:A5}{s:AY}{lo:Int}(I:AZ X D J H s)(U:1<=d)(W:d<1000000)(z:-(2^40)<=lo)(A:lo<2^40)(B:-(2^40)<=hi)(C:hi<2^40)(q:R (Kn lo d (D9 lo hi d)) H):Av (Ao X.af X.w) X.A (Ym (.ref s.heap.objs.size)) (Qy X D J K R) E {s with heap:=s.heap.push {cls:=.type "range",data:=.fields #[.int lo t,.int hi u,.int d v]},toks:=V}:=by
  refine wK (pJ ..) (lV U W z A B C) ?_;have F:AZ X _ J H {s with heap:=s.heap.push {cls:=.type "range",data:=.fields #[.int lo t,.int hi u,.int d v]},toks:=V}:=I.jf λb o e=>Cn _ e;refine⟨_,_,_,_,H,rfl,F.jf λb o e=>Cn _ e,nJ _ lo d _,?_,λb G=>?_,q⟩
  . have Y:lo+((0:Nat))*d=lo:=by simp
    have Z:((D9 lo hi d:Nat))-((0:Nat))=YL lo hi d:=by rw[OI U];(first|lia|omega)
    rw[Y,Z];exact FZ _ rfl
  . have e:b=(s.heap.push {cls:=.type "range",data:=.fields #[.int lo t,.int hi u,.int d v]}).objs.size:=by grind
    subst e;exact F.zp (Al _) (F.bx.bo (Al _))
noncomputable def iO(F:EF):Ed:=λU H R=>F U H λJ D=>∃i j d:Int,J=[.int i,.int j,.int d]/\(1<=d/\d<1000000/\-(2^40)<=i/\i<2^40/\-(2^40)<=j/\j<2^40)/\R (Kn i d (D9 i j d)) D
theorem kN{X:BY}(C:Eb X "range")(E:X.mg "range"=AF)(B:Ec X [a,b,c] Y)(P:Bv [a,b,c] X.ae=[(AQ,BI a X.ae),(AQ,BI b X.ae),(AQ,BI c X.ae)]:=by rfl)(J:Bv [b,c] X.ae=[(AQ,BI b X.ae),(AQ,BI c X.ae)]:=by rfl):Eu X S (.Call (.Name "range" p) [a,b,c] [] U) (iO Y):=by
 intro W s N H R I h;refine OV (G7 I C E YF (LF (Ay (B _ _ s N H _ I h) λT s1⟨f,O,Z,r1,V⟩=>?_) (by grind) (by rw[J];rfl)));refine AB λD=>?_;obtain⟨i,j,d,e,⟨z,A,V,G,K,L⟩,q⟩:=V;refine D ?_;try clear D
 subst e;cases r1 with|cons r F=>cases F with|cons M F=>cases F with|cons r2 F=>
  refine AB λD=>?_;cases F;obtain⟨t,rfl⟩:=r;obtain⟨Q,rfl⟩:=M;obtain⟨t2,rfl⟩:=r2;refine D ?_;try clear D
  exact vU (by(first|lia|omega)) (lI Z z A V G K L q) (.inl (pC (by(first|lia|omega))))
theorem iC{lo d:Int}{n:Nat}{g:Du}{A:Cf}{D:Fz}{F:Am}{H:AI}(J:Nat->Am->AI->Prop)(B:J 0 F H)(G:∀i F H,i<n->J i F H->g (.int (lo+(i:Int)*d)) F H λY Z=>A {D with nx:=J (i+1),ct:=J (i+1),bk:=D.nx} Y Z)(E:∀F H,J n F H->D.nx F H):∃W:Nat->Nat->Am->AI->Prop,(∃m,W 0 m F H)/\∀i m F H,W i m F H->((Kn lo d n).zw i H/\D.nx F H)\/((Kn lo d n).go i H/\∃N:Am->AI->Prop,(∀V H',N V H'->∃q,q<m/\W (i+1) q V H')/\∀x H',(Kn lo d n).aht i H x H'->g x F H' λY Z=>A {D with nx:=N,ct:=N,bk:=D.nx} Y Z):=by
  refine⟨λi m F H=>m=n-i/\i<=n/\J i F H,⟨n,by simp,CU _,B⟩,?_⟩;intro i m F H C;refine AB λz=>?_;obtain⟨rfl,K,p⟩:=C;refine z ?_;try clear z
  by_cases U:i<n
  . refine .inr ⟨U,J (i+1),λV H' I=>⟨n-(i+1),by(first|lia|omega),rfl,U,I⟩,λx H' y=>?_⟩;obtain⟨e,y⟩:=y;subst e y;exact G i F _ U p
  . have e:i=n:=by(first|lia|omega)
    subst e;exact .inl ⟨Al _,E F H p⟩
theorem W5{X:BY}{F:EI}{own:List AG}{A:List (AG×Nat)}{V:Ca}{y:AG}(p:X.N.Nodup)(M:X.N[Q]?=AA y)(O:IP X.ae.scope y)(L:X.fn y=AH\/X.ae.scope.names.lookup y=AA .local)(t:X.ic=AH)(hi:Eu X E J wi)(hk:F.kind=.function)(Y:∀y∈F.names,y.2≠.cell)(U:∀y∈F.names,y.2=.local->F.names.lookup y.1=AA .local)(Z:∀y∈F.names,y.2=.free->X.ae.kindOf y.1=AA .cell\/X.ae.kindOf y.1=AA .free)(K:HW X F A)(w:∀C s H ex,JE (DF X F (own++A.map (·.1)) C s H ex) E g)(ht:∀C s H ex,HY (DF X F (own++A.map (·.1)) C s H ex) z c)(u:∀C s H ex,An (DF X F (own++A.map (·.1)) C s H ex) W T)(N:LQ (.ListComp W [⟨E,J,z,0⟩] F B) (AA (.Name y S)) V.line X.ae=BZ AH)(hs:∀x,Ka J X.ae x=BZ x:=by intro _;rfl):D6 X (.Assign [.Name y S] (.ListComp W [⟨E,J,z,0⟩] F B) V) (MQ (JW own.length (A.map (·.2)) wi g c T) (F4 Q)):=by
 intro R s σ H D0 I h;rw[exec_Assign_Name_used _ _ _ _ N];refine A4 (qT (A4 ?_));refine A4 (Ge (V7 t hi hk Y U Z K w ht u hs I h λD C m s4 H5 v d hn l n i j k q=>?_) (λ_ s' hq=>Cg (Cg hq)) λ_ _ e=>e);refine wD (XT d p M O (v:=.ref D) rfl (λs5 f⟨a,P,ha⟩=>?_) L);have G:C≠a:=by grind
 exact⟨m,Heap.Ns.sameBut hn P G,λh' sb=>⟨_,_,f.eh (λb o r e=>(sb.2 b r).trans e) l n (.inr i) j k,q⟩⟩
theorem K0{X:BY}{y:AG}{D osc:EI}{K U:Ca}(q:List (AG×Nat))(P:X.N.Nodup)(B:X.N[i]?=AA y)(I:IP X.ae.scope y)(Q:X.ic=AH)(hi:Eu X (.Name x K) F wi)(a:X.ae.scope=osc)(T:D.kind=.function)(W:∀y∈D.names,y.2≠.cell)(J:∀y∈D.names,y.2=.local->D.names.lookup y.1=AA .local)(Y:∀y∈D.names,y.2=.free->osc.names.lookup y.1=AA .cell\/osc.names.lookup y.1=AA .free)(A:HW X D q)(L:D.names.lookup x=AA .local)(E:(x::q.map (·.1)).Nodup)(c:∀C s H ex,HY (DF X D (x::q.map (·.1)) C s H ex) Z O)(R:∀C s H ex,An (DF X D (x::q.map (·.1)) C s H ex) V N)(G:LQ (.ListComp V [⟨.Name x K,F,Z,0⟩] D z) (AA (.Name y M)) U.line X.ae=BZ AH:=by rfl)(S:X.fn y=AH\/X.ae.scope.names.lookup y=AA .local:=by first|exact .inl rfl|exact .inr rfl|assumption)(b:∀x,Ka F X.ae x=BZ x:=by intro _;rfl):D6 X (.Assign [.Name y M] (.ListComp V [⟨.Name x K,F,Z,0⟩] D z) U) (MQ (JW 1 (q.map (·.2)) wi (F4 0) O N) (F4 i)):=W5 (own:=[x]) P B I S Q hi T W J (λy d e=>by show X.ae.scope.names.lookup y.1=_\/X.ae.scope.names.lookup y.1=_;rw[a];exact Y y d e) A (λC s H ex=>FE (i:=0) E rfl (.inl (ID L)) (.inr (ID L))) c R G b
theorem lW(D:1<=c)(V:c<=2000000)(Z:-(2^40)<=a)(J:a<2^40)(q:-(2^40)<=b)(U:b<2^40):YM a b c=AH:=by
 have h:=Xj (lo:=a) (hi:=b) D;have z:=OI (lo:=a) (hi:=b) D;unfold YM;have F:(D9 a b c:Int)<=2^42:=by grind
 have W:=rS F (by(first|lia|omega)) (by(first|lia|omega)) (by(first|lia|omega));have Y:0<=(D9 a b c)*c:=Ow (by(first|lia|omega)) (by(first|lia|omega));simp only[t8,M6,rO,y7,zC,show c>0 by(first|lia|omega),y9];grind
theorem Ez:∀{D:List U}{J:List V},D.length=J.length->(∀(i:Nat)a b,D[i]?=AA a->J[i]?=AA b->F a b)->BP F D J|[],[],_,_=>.nil|a::D,b::J,W,h=>.cons (h 0 a b rfl rfl) (Ez (by grind) λi x y Y Z=>h (i+1) x y (by grind) (by grind))
noncomputable def MO(i j d:Int):List Int:=(Fp (D9 i j d)).map λk:Nat=>i+(k:Int)*d
theorem Ri(i j d:Int):(MO i j d).length=D9 i j d:=by unfold MO;grind
theorem lL(h:k<D9 i j d):(MO i j d)[k]?=AA (i+(k:Int)*d):=by unfold MO;grind
noncomputable def mP(F:EF):A1:=λU H Q=>F U H λJ D=>∃i j d:Int,J=[.int i,.int j,.int d]/\(1<=d/\d<=2000000/\-(2^40)<=i/\i<2^40/\-(2^40)<=j/\j<2^40/\D9 i j d<=16777216)/\∀l,D l=AF->Q (.ref l) (AN D l (.lst ((MO i j d).map AE.int)))
theorem kF{X:BY}(l:X.ic=AH)(Y:Eb X "list")(z:X.mg "list"=AF)(m:Eb X "range")(v:X.mg "range"=AF)(g:Ec X [a,b,c] O)(hs:Bv [a,b,c] X.ae=[(AQ,BI a X.ae),(AQ,BI b X.ae),(AQ,BI c X.ae)]:=by rfl)(A:Bv [b,c] X.ae=[(AQ,BI b X.ae),(AQ,BI c X.ae)]:=by rfl)(w:Bv [.Call (.Name "range" C) [a,b,c] [] D] X.ae=[(AQ,BI (.Call (.Name "range" C) [a,b,c] [] D) X.ae)]:=by rfl):An X (.Call (.Name "list" p) [.Call (.Name "range" C) [a,b,c] [] D] [] E) (mP O):=by
  intro J s P H Q I h;refine Mo (G7 I Y z LD ?_);refine LF ?_ (by rfl) rfl;refine Mb ?_;refine OV (G7 I m v YF (LF (Ay (g D J s P H _ I h) λus s1⟨vs,R,K,r1,G⟩=>?_) (by grind) (by rw[A];rfl)));refine AB λU=>?_;obtain⟨i,j,d,e,⟨M,T,G,y,q3,q4,N⟩,q⟩:=G;refine U ?_;try clear U
  subst e;cases r1 with|cons r V=>cases V with|cons r' V=>cases V with|cons r2 V=>
        refine AB λU=>?_;cases V;obtain⟨t,rfl⟩:=r;obtain⟨t',rfl⟩:=r';obtain⟨t2,rfl⟩:=r2;refine U ?_;try clear U
        refine vU (by(first|lia|omega)) ?_ (.inl (pC (by(first|lia|omega))));refine Oa ?_;have L:AZ X J P R {s1 with heap:=s1.heap.push {cls:=.type "range",data:=.fields #[.int i t,.int j t',.int d t2]},toks:=s1.toks}:=K.jf λb o e=>Cn _ e;refine call_list_range (K.ok.hd l) (pJ ..) (lW M T G y q3 q4) (OI M) N λf tk W S n hS F=>?_;refine⟨.ref _,_,L.qk n (Al _) (show C5 X.af X.w _ f _ (.lst _)from⟨?_,W.toList,S,?_,by simp_all⟩),rfl,q _ (L.bx.bo (Al _))⟩
        . rw[A0,Ri];exact N
        . refine Ez (by rw[A0,Ri,IF,F.1]) λk x u B hu=>?_;have Z:k<D9 i j d:=by have:=(BN.mp B).1;rw[A0,Ri]at this;grind
          rw[Bx,lL Z]at B;obtain⟨tk',e⟩:=F.2 k u (by grind);rw[<-CM B,e];exact⟨_,rfl⟩
theorem gR{X:BY}{K:Ar}(A:X.ic=AH)(z:X.K=K:=by rfl):Ea X (.builtin "min") (λxs H Q=>∃(p:AD)(ns:List Int),xs=[.ref p]/\Bc K H p (ns.map AE.int)/\0<ns.length/\∀M,M∈ns->(∀a,a∈ns->M<=a)->Q (.int M) H):=by
  subst z;intro Z s i H xs g Q I r h;refine AB λD=>?_;obtain⟨p,ns,rfl,G,E,q⟩:=h;obtain⟨u,rfl,P⟩:=HH r;cases P;obtain⟨N,R,O,d⟩:=I.fk G;have Y:=WR R;obtain⟨F,e⟩:=Y.allInts.items;refine D ?_;try clear D
  have J:ns=F.toList.map (·.1):=by rw[<-v8,<-e];exact(show numsOf _=ns from Y.numsOf).symm
  have U:0<F.size:=by grind
  have C:=e▸O.isList;refine min_intList (I.ok.hd A) C U λv S f L B=>?_;refine AB λD=>?_;obtain⟨t,rfl⟩:=intItems_at L;obtain⟨T,b⟩:=argBest_lt (numAt F) (F.size-1);refine D ?_;try clear D
  refine⟨.int _,H,I.jf B,⟨_,rfl⟩,q _ ?_ λa W=>?_⟩;.rw[Yl];grind
  . rw[J]at W;refine AB λD=>?_;obtain⟨j,c,rfl⟩:=mem_getD W;refine D ?_;try clear D
    rw[<-Yl];grind
theorem gP{X:BY}{K:Ar}(A:X.ic=AH)(z:X.K=K:=by rfl):Ea X (.builtin "max") (λxs H Q=>∃(p:AD)(ns:List Int),xs=[.ref p]/\Bc K H p (ns.map AE.int)/\0<ns.length/\∀M,M∈ns->(∀a,a∈ns->a<=M)->Q (.int M) H):=by
  subst z;intro Z s i H xs g Q I r h;refine AB λD=>?_;obtain⟨p,ns,rfl,G,E,q⟩:=h;obtain⟨u,rfl,P⟩:=HH r;cases P;obtain⟨N,R,O,d⟩:=I.fk G;have Y:=WR R;obtain⟨F,e⟩:=Y.allInts.items;refine D ?_;try clear D
  have J:ns=F.toList.map (·.1):=by rw[<-v8,<-e];exact(show numsOf _=ns from Y.numsOf).symm
  have U:0<F.size:=by grind
  have C:=e▸O.isList;refine max_intList (I.ok.hd A) C U λv S f L B=>?_;refine AB λD=>?_;obtain⟨t,rfl⟩:=intItems_at L;obtain⟨T,b⟩:=argBest_gt (numAt F) (F.size-1);refine D ?_;try clear D
  refine⟨.int _,H,I.jf B,⟨_,rfl⟩,q _ ?_ λa W=>?_⟩;.rw[Yl];grind
  . rw[J]at W;refine AB λD=>?_;obtain⟨j,c,rfl⟩:=mem_getD W;refine D ?_;try clear D
    rw[<-Yl];grind
theorem WI:∀ys D:List Int,uX (ys.map IB) (D.map IB)=Ae (ys=D)|[],[]=>rfl|[],_::_=>rfl|_::_,[]=>rfl|y::ys,z::D=>by show(SJ (.int y) (.int z)&&uX (ys.map IB) (D.map IB))=_;rw[WI ys D];show((y==z)&&Ae (ys=D))=_;grind
theorem N4:∀ys:List Int,Me (ys.map IB)=AH/\Mf (ys.map IB)=0|[]=>⟨rfl,rfl⟩|y::r=>by obtain⟨a,b⟩:=N4 r;simp[Me,Md,Mf,Ob,a,b]
theorem Ci.abl{h h':BG}(l:List AD)(x:Ci P w H h)(F:∀a∈l,H a=AF)(k:∀b u,b∉l->h.get? b=AA u->h'.get? b=AA u):Ci P w H h':=by intro b u e;refine(x b u e).abm (λc v D q=>k c v ?_ q) (λ_ q=>q) λ_ _ q=>q;grind
noncomputable def J4(K:Ar)(a:AD):FQ:=⟨λi H=>∃D x,Bc K H a D/\D[i]?=AA x,λi H x F=>∃p y,x=.ref p/\H p=AF/\F=AN H p (.tup [.int (i:Int),y])/\∀D,Bc K H a D->D[i]?=AA y,λi H=>∃D,Bc K H a D/\D.length<=i⟩
theorem nF{K:Ar}(a e it:AD)(L:e≠it):JG P w K (.Tuple A x1 Q) (J4 K a) [e,it] e (λi h=>(∃F,IsEnum h e it i F)/\h.IsListIter it a i)where
 ajh:=by simp
 cn:=λi h J b U=>by
  refine AB λD=>?_;obtain⟨⟨F,W⟩,o,e2,c,d⟩:=J;refine D ?_;try clear D
  grind
 ab:=λi h h' J k=>by
  refine AB λD=>?_;obtain⟨⟨F,W⟩,J⟩:=J;refine D ?_;try clear D
  exact⟨(by grind),J.at (by grind)⟩
 abb:=by
  intro X f hw T hc i O s σ H E I Y J j;subst f hw T;refine AB λD=>?_;obtain⟨xs,x,R,Z⟩:=j;obtain⟨r,t,p,hz⟩:=I.fk R;obtain⟨u,hu,ru⟩:=t.aae Z;obtain⟨⟨F,W⟩,V⟩:=J;obtain⟨f0,f1,f2,f3,f4,f5⟩:=Y e (by simp);obtain⟨g0,g1,g2,g3,g4,g5⟩:=Y it (by simp);refine D ?_;try clear D
  have S:e<s.heap.objs.size:=CP W;have ilt:it<s.heap.objs.size:=by obtain⟨o,q,_⟩:=id V;exact CP q
  refine wpAny_pyNext_enum_item W V p.isList (x:=u) (by simpa using hu) L λh' eo C ht hsz kk=>⟨_,rfl,wpAny_letOwnedTupleGo_enum eo λB he2 v=>?_⟩;have M:H s.heap.objs.size=AF:=I.bx.bo (Al _);have pe:s.heap.objs.size≠e:=X8 S;have N:∀b o,b∉[e,it]->s.heap.get? b=AA o->B.get? b=AA o:=λb o U q=>by have y:b≠e:=λz=>U (by simp[z]);have b2:b≠it:=λz=>U (by simp[z]);exact(v.2 b y).trans (kk b o y b2 q)
  have G:B.IsListIter it a (i+1):=by obtain⟨o,q,c,d⟩:=id C;exact⟨o,(v.2 it (λz=>L z.symm)).trans q,c,d⟩
  have m:=(v.2 _ pe).trans ht;have l:Ci X.af X.w (AN H s.heap.objs.size (.tup [.int (i:Int),x])) B:=by refine(I.bx.abl [e,it] (λb U=>(Y b U).1) N).afb M ?_;exact⟨show 2<=Aw by decide,[.int i s.toks,u],.cons ⟨_,rfl⟩ (.cons ru .nil),⟨_,m,rfl,_,rfl⟩⟩
  have un:FR (Ew X.cb) [e,it] H (AN H s.heap.objs.size (.tup [.int (i:Int),x])) s.heap B:=by
   refine⟨(by grind),λb o q n U Z=>⟨o.slots,N b o Z q⟩,λb o q n Z=>?_,(by grind),λb ys q=>?_,λb o u q=>?_,λb ps q=>?_⟩;.rw[Ac (ET (CP q))];exact n
   .rw[Ac (BS q M)];exact q
   .rw[Ac (BS q M)];exact q
   .exact⟨#[],by rw[Ac (BS q M),Y9];exact q⟩
  have I2:=I.acw (s':={s with heap:=B,toks:=s.toks+1}) (ch:=[e,it]) rfl un l I.jx (by grind);refine⟨.ref s.heap.objs.size,_,I2,rfl,⟨_,x,rfl,M,rfl,λys hy=>by rw[I.vd hy R];exact Z⟩,⟨⟨u,?_⟩,G⟩,λb U=>?_⟩;.grind
  . have g:b≠s.heap.objs.size:=(by grind);rw[Ac g];exact(Y b U).1
 aaz:=by
  intro X f hw T hc i O s σ H E I Y J j;subst f hw T;refine AB λD=>?_;obtain⟨xs,R,Z⟩:=j;obtain⟨r,t,p,hz⟩:=I.fk R;obtain⟨⟨F,W⟩,V⟩:=J;obtain⟨f0,f1,f2,f3,f4,f5⟩:=Y it (by simp);refine D ?_;try clear D
  have hl:=t.ai;exact wpAny_pyNext_enum_end (I.ok.hd hc) W V p.isList (by simp;(first|lia|omega)) λh' eb=>⟨rfl,I.eh (t':=s.toks) (λb o U e=>eb b o U e) f0 f1 f3 f4 f5⟩
 adk:=λ_ _ _ _ _ J h=>by
  refine AB λD=>?_;obtain⟨⟨F,W⟩,_⟩:=J;refine D ?_;try clear D
  exact wJ W h
noncomputable def iL(K:Ar)(F:A1):Ed:=λU H R=>F U H λx D=>∃a,x=.ref a/\(∃J,Bc K D a J)/\R (J4 K a) D
theorem ML{X:BY}{K:Ar}(L:Eb X "enumerate")(O:X.mg "enumerate"=AF)(N:An X l Z)(C:X.K=K:=by rfl)(W:Bv [l] X.ae=[(AQ,BI l X.ae)]:=by rfl):Eu X (.Tuple F d U) (.Call (.Name "enumerate" p) [l] [] V) (iL K Z):=by
  subst C;intro Y s f H R I h;refine OV (G7 I L O boot_enumerate (LF ?_ W rfl));rw[W];refine Mb (Ay (N _ s f H _ I h) λv s1⟨x,A,D,r1,c⟩=>?_);refine Oa ?_;refine AB λJ=>?_;obtain⟨a,e,⟨k,P⟩,q⟩:=c;refine J ?_;try clear J
  subst e;refine AB λJ=>?_;cases r1;obtain⟨S,j,p,i⟩:=D.fk P;refine J ?_;try clear J
  refine call_enumerate_list p.isList λg G M Q T=>?_;have B:=D.jf (t':=s1.toks) T;refine wJ G ?_;refine⟨_,[s1.heap.objs.size+1,s1.heap.objs.size],_,_,A,rfl,B,nF a _ _ (by grind),(by grind),λb E=>?_,q⟩;rcases CB.mp E with z|z;. subst z;exact D.zp (Ii _) (D.bx.bo (Ii _))
  . have z:b=s1.heap.objs.size:=by grind
    subst z;exact D.zp (Al _) (D.bx.bo (Al _))
theorem kB{K}(Y:List (AG×Nat))(G:X.ic=AH)(hi:Eu X (.Tuple [.Name x L,.Name y M] K U) F wi)(R:X.ae.scope=osc)(Q:D.kind=.function)(V:∀y∈D.names,y.2≠.cell)(J:∀y∈D.names,y.2=.local->D.names.lookup y.1=AA .local)(W:∀y∈D.names,y.2=.free->osc.names.lookup y.1=AA .cell\/osc.names.lookup y.1=AA .free)(B:HW X D Y)(I:D.names.lookup x=AA .local)(A:D.names.lookup y=AA .local)(q:(x::y::Y.map (·.1)).Nodup)(T:∀C s H ex,HY (DF X D (x::y::Y.map (·.1)) C s H ex) z O)(P:∀C s H ex,An (DF X D (x::y::Y.map (·.1)) C s H ex) Z N)(S:∀x,Ka F X.ae x=BZ x:=by intro _;rfl):An X (.ListComp Z [⟨.Tuple [.Name x L,.Name y M] K U,F,z,0⟩] D E) (JW 2 (Y.map (·.2)) wi (RD X.K 2 (L6 (F4 0) (L6 (F4 1) RC))) O N):=Wz (own:=[x,y]) G hi Q V J (λy A e=>by show X.ae.scope.names.lookup y.1=_\/X.ae.scope.names.lookup y.1=_;rw[R];exact W y A e) B (λC s H ex=>JQ (show(DF X D (x::y::Y.map (λp:AG×Nat=>p.1)) C s H ex).ic=AH from G) (FU (FE (i:=0) q rfl (.inl (ID I)) (.inr (ID I))) (FU (FE (i:=1) q rfl (.inl (ID A)) (.inr (ID A))) JR))) T P S
theorem RA{K:Ar}{a:AD}{xs:List AE}{g:Du}{E:Cf}{D:Fz}{F:Am}{H:AI}(J:Nat->Am->AI->Prop)(G:J 0 F H)(O:∀i F H,i<=xs.length->J i F H->Bc K H a xs)(Q:∀(i:Nat)x F H p,xs[i]?=AA x->J i F H->H p=AF->g (.ref p) F (AN H p (.tup [.int (i:Int),x])) λY B=>E {D with nx:=J (i+1),ct:=J (i+1),bk:=D.nx} Y B)(L:∀F H,J xs.length F H->D.nx F H):∃W:Nat->Nat->Am->AI->Prop,(∃m,W 0 m F H)/\∀i m F H,W i m F H->((J4 K a).zw i H/\D.nx F H)\/((J4 K a).go i H/\∃N:Am->AI->Prop,(∀U H',N U H'->∃C,C<m/\W (i+1) C U H')/\∀x H',(J4 K a).aht i H x H'->g x F H' λY B=>E {D with nx:=N,ct:=N,bk:=D.nx} Y B):=by
  refine⟨λi m F H=>m=xs.length-i/\i<=xs.length/\J i F H,⟨xs.length,by simp,CU _,G⟩,?_⟩;intro i m F H I;refine AB λA=>?_;obtain⟨rfl,M,p⟩:=I;refine A ?_;try clear A
  have q:=O i F H M p;by_cases Z:i<xs.length
  . refine .inr ⟨⟨xs,xs[i],q,by simp[Z]⟩,J (i+1),λU H' S=>⟨xs.length-(i+1),by(first|lia|omega),rfl,Z,S⟩,λx H' y=>?_⟩;refine AB λA=>?_;obtain⟨r,z,rfl,P,rfl,R⟩:=y;refine A ?_;try clear A
    exact Q i z F H r (R xs q) p P
  . have e:i=xs.length:=by(first|lia|omega)
    subst e;exact .inl ⟨⟨xs,q,Al _⟩,L F H p⟩
theorem gU{K:Ar}{B:List Nat}{xs:List AE}(L:Nat->AE->Bool)(f:Nat->AE->AE)(u:xs.length<=Aw)(N:∀F,Ap H F->Bc K F a xs)(l:∀(i:Nat)x p G I F(R:Am->AI->Prop),xs[i]?=AA x->Ap H F->F p=AA (.tup [.int (i:Int),x])->R (AA (.int (i:Int))::AA x::B.map (FV C)) F->g (.ref p) (G::I::B.map (FV C)) F R)(P:∀(i:Nat)x F(R:Bool->AI->Prop),xs[i]?=AA x->Ap H F->(∀A,Ap F A->R (L i x) A)->b (AA (.int (i:Int))::AA x::B.map (FV C)) F R)(O:∀(i:Nat)x F(R:Bn),xs[i]?=AA x->L i x=AH->Ap H F->(∀A,Ap F A->R (f i x) A)->T (AA (.int (i:Int))::AA x::B.map (FV C)) F R)(k:∀F,Ap H F->∀D,F D=AF->Q (.ref D) (AN F D (.lst (((LC (Fp xs.length) xs).filter λq=>L q.1 q.2).map λq=>f q.1 q.2)))):Ln 2 B g b T C Q (J4 K a) H:=by
  refine⟨λi m c Y M=>m=xs.length-i/\i<=xs.length/\Ap H M/\(∃G I,c=G::I::B.map (FV C))/\Y=((((LC (Fp xs.length) xs).take i).filter λq=>L q.1 q.2).map λq=>f q.1 q.2),⟨xs.length,by simp,CU _,Cu H,⟨AF,AF,rfl⟩,rfl⟩,?_⟩;intro i m c Y M j;refine AB λE=>?_;obtain⟨rfl,t,s1,⟨G,I,rfl⟩,J⟩:=j;refine E ?_;try clear E
  have S:(LC (Fp xs.length) xs).length=xs.length:=by simp
  by_cases W:i<xs.length
  . have U:xs[i]?=AA xs[i]:=Cm W;have X:(LC (Fp xs.length) xs).take (i+1)=(LC (Fp xs.length) xs).take i++[(i,xs[i])]:=by
      rw[Ds];have:(LC (Fp xs.length) xs)[i]?=AA (i,xs[i]):=by rw[JX];exact⟨by simp[W],U⟩
      rw[this];rfl
    refine .inr ⟨⟨xs,xs[i],N _ s1,U⟩,?_,λx F y=>?_⟩
    . have:Y.length<=i:=by rw[J,A0];refine CL (FY _ _) ?_;rw[EA];exact Nat.min_le_left _ _
      (first|lia|omega)
    . refine AB λE=>?_;obtain⟨p,z,rfl,n,rfl,r⟩:=y;refine E ?_;try clear E
      have d:z=xs[i]:=CM ((r xs (N _ s1)).symm.trans U);subst d;have s2:=s1.gf (o:=.tup [.int (i:Int),xs[i]]) n;refine l i xs[i] p G I _ _ U s2 Ab ?_;refine P i xs[i] _ _ U s2 λA s3=>?_;cases Z:L i xs[i]with |true=> rw[yY rfl];refine O i xs[i] _ _ U Z (s2.aa s3) λs s4=>⟨xs.length-(i+1),by(first|lia|omega),rfl,W,(s2.aa s3).aa s4,⟨_,_,rfl⟩,?_⟩;rw[X,Hr,C9,<-J];simp[Z]|false=>rw[yX C4];refine⟨xs.length-(i+1),by(first|lia|omega),rfl,W,s2.aa s3,⟨_,_,rfl⟩,?_⟩;rw[X,Hr,C9,<-J];simp[Z]
  . have e:i=xs.length:=by(first|lia|omega)
    subst e;rw[Df (by rw[S];exact Al _)]at J;exact .inl ⟨⟨xs,N _ s1,Al _⟩,λD h=>by rw[J];exact k M s1 D h⟩
theorem gV{K:Ar}{E:List Nat}{xs:List AE}(B:Nat->List AE->AI->Prop)(u:xs.length<=Aw)(X:B 0 [] H)(f:∀i F W,B i F W->Bc K W a xs)(j:∀(i:Nat)x p Y Z F W(R:Am->List AE->AI->Prop),xs[i]?=AA x->B i F W->W p=AF->(∀Y Z J A,J.length<=F.length+1->B (i+1) J A->R (Y::Z::E.map (FV L)) J A)->g (.ref p) (Y::Z::E.map (FV L)) (AN W p (.tup [.int (i:Int),x])) λU A=>P U A λb M=>if b=AH then O U M λy T=>R U (F++[y]) T else R U F M)(d:∀F W,B xs.length F W->∀D,W D=AF->Q (.ref D) (AN W D (.lst F))):Ln 2 E g P O L Q (J4 K a) H:=by
  refine⟨λi m S F C=>m=xs.length-i/\i<=xs.length/\F.length<=i/\(∃Y Z,S=Y::Z::E.map (FV L))/\B i F C,⟨xs.length,by simp,CU _,CU _,⟨AF,AF,rfl⟩,X⟩,?_⟩;intro i m S F C c;refine AB λI=>?_;obtain⟨rfl,s,t,⟨Y,Z,rfl⟩,p⟩:=c;refine I ?_;try clear I
  have q:=f i F C p;by_cases G:i<xs.length
  . refine .inr ⟨⟨xs,xs[i],q,by simp[G]⟩,by(first|lia|omega),λx W y=>?_⟩;refine AB λI=>?_;obtain⟨r,z,rfl,h,rfl,k⟩:=y;refine I ?_;try clear I
    refine j i z r Y Z F C (λU J A=>∃N,N<xs.length-i/\(N=xs.length-(i+1)/\i+1<=xs.length/\J.length<=i+1/\(∃Y Z,U=Y::Z::E.map (FV L))/\B (i+1) J A)) (k xs q) p h λn u2 J A o l=>⟨xs.length-(i+1),by(first|lia|omega),rfl,G,by(first|lia|omega),⟨n,u2,rfl⟩,l⟩
  . have e:i=xs.length:=by(first|lia|omega)
    subst e;exact .inl ⟨⟨xs,q,Al _⟩,d F C p⟩
theorem nB(l:AD)(D:Array AK)(n:Nat)(B:Option AD)(O:Array (Option AK))(x:AK)(e:AK->Bool)(H:∀y,y∈D->MeetsSeq.EqGives y x (e y))(j:Nat)(S:j<D.size)(Y:e D[j]=AH)(Z:∀m(T:m<D.size),m<j->e D[m]=AQ):Meets (Builtin.«tuple.index» ⟨[.ref l,x],[]⟩) (λ_ R s=>s.heap.get? l=AA {cls:=.type "tuple",dict:=B,data:=.seq D n,slots:=O}/\R (.ok (.ret (.int j s.toks))) {s with toks:=s.toks+1}):=.of_wp λF w A R s h=>by
    refine AB λV=>?_;obtain⟨L,g,d,P,N⟩:=s;obtain⟨K,h⟩:=h;refine V ?_;try clear V
    wp_walk using wpAny_loadPart' K;change Av (Ao F w) A.in1 (GH [:Cs D.size D.size] ((AF,()):Option YS×Unit) _) _ _ _;rw[yV];simp only[yW,Nat.sub_zero,Nat.add_sub_cancel,Nat.div_one,Nat.min_self];refine qS _ (λJ b z=>∃k,J=List.range' k (D.size-k) 1/\k<=j/\b.1=AF/\z=(⟨L,g,d,P,N⟩:AY)) _ ?_ ?_ _ _ ⟨0,rfl,CU _,rfl,rfl⟩
    . intro i J b z G;refine AB λV=>?_;obtain⟨k,q,I,Q,rfl⟩:=G;refine V ?_;try clear V
      have U:k<D.size:=(by grind);rw[show D.size-k=(D.size-(k+1))+1 by(first|lia|omega),List.range'_succ]at q;injection q with C E;subst C E;have M:D[i]?=AA D[i]:=(by grind);simp only[M];refine A4 (H _ (Array.getElem_mem U) F w _ _ _ _ ?_);by_cases W:i=j
      . subst W;rw[Y];wp_walk;exact⟨_,rfl,h⟩
      . rw[Z i U (by(first|lia|omega))];wp_walk;grind
    grind
theorem XW{ys:List AG}{its:List AK}(r:BJ (ys.map AE.str) its){i:Nat}{z:AG}(h:ys[i]?=AA z):∃t,its[i]?=AA (.str z t):=by
 refine AB λD=>?_;obtain⟨u,F,t,rfl⟩:=r.aae (i:=i) (x:=.str z) (by grind);refine D ?_;try clear D
 grind
noncomputable def XU(z:AG):AK->Bool|.str y _=>y==z|_=>AQ
theorem jK{X:BY}{K:Ar}(P:X.K=K:=by rfl):Qx X "tuple.index" (λx xs H Q=>∃(p:AD)(ys:List AG)(z:AG)(j:Nat),x=.ref p/\xs=[.str z]/\B8 K H p (ys.map AE.str)/\ys[j]?=AA z/\(∀m,m<j->ys[m]?≠AA z)/\Q (.int (j:Int)) H):=by
 subst P;intro M s σ H x xs v w Q I l k h;refine AB λL=>?_;obtain⟨p,ys,z,j,rfl,rfl,e,T,d,q⟩:=h;cases l;obtain⟨u,rfl,t,rfl⟩:=HH k;obtain⟨D,E,f,r⟩:=I.dy e;obtain⟨⟨c,N,O,o⟩,G,Z,n,A⟩:=f;refine L ?_;try clear L
 have Z:c=.type "tuple":=Z;have A:O=.seq D.toArray n:=A;subst Z A;have a:=E.ai;rw[A0]at a;have B:j<ys.length:=(by grind);have R:∀y,y∈D.toArray->MeetsSeq.EqGives y (.str z t) (XU z y):=λy g=>by obtain⟨i,S,rfl⟩:=F7.mp (by simpa using g);obtain⟨Y,J⟩:=XW E (Cm (by(first|lia|omega):i<ys.length));rw[Cm S]at J;rw[CM J];exact tQ _ _ _ _
 have U:∀m(W:m<D.toArray.size),∃Y,D.toArray[m]=.str (ys[m]'(by simp at W;(first|lia|omega))) Y:=λm W=>by
  have C:m<ys.length:=by simp at W;(first|lia|omega)
  obtain⟨Y,J⟩:=XW E (Cm C);grind
 refine Oi uR ⟨_,G,rfl⟩ F.entry_tuple_index (by rfl) (nB p D.toArray n N o (.str z t) (XU z) R j (by simp;(first|lia|omega)) ?_ ?_) ⟨G,⟨.int (j:Int),H,I.fw _,⟨_,rfl⟩,q⟩⟩
 . obtain⟨Y,J⟩:=U j (by simp;(first|lia|omega));rw[J];rw[Cm B]at T;show(ys[j]==z)=AH;grind
 . intro m W b;obtain⟨Y,J⟩:=U m W;rw[J];show(ys[m]==z)=AQ;grind
theorem iS{c A B:Prop}[Decidable c](D:c)(h:A):if Ae c=AH then A else B:=by rw[y3 D];exact KA h
theorem WT{c A B:Prop}[Decidable c](D:¬c)(h:B):if Ae c=AH then A else B:=by rw[y4 D];exact Hj h
structure fV(K:Ar)(C:AD):Prop where
 ga:Bu K (.ref C) "__getattribute__"=AA (AA (.builtin "BaseException.__getattribute__"))gt:Bu K (.ref C) "__getattr__"=AA AF
 ck:Bu K (.ref C) "__class__"=AA (AA (.builtin "object.__class__"))sb:Yh K (.ref C) (.type "BaseException")=AA AH
 so:Yh K (.ref C) (.type "object")=AA AH
 cl:(vK K C).isSome=AH
theorem Ap.agb(e:Ap H H')(h:H b=AF):Ap H (AN H' b o):=λc u q=>by rw[Ac (BS q h)];exact e c u q
theorem l7{a b:AG}(h:a.cps.toList=b.cps.toList):a=b:=by cases a;simp_all
theorem OA:∀{D:List U}{J:List V},BP F D J->∀{i:Nat}{a:U}{b:V},D[i]?=AA a->J[i]?=AA b->F a b|_,_,.nil,i,a,b,h,_=>by grind|_,_,.cons h _,0,a,b,W,Y=>by grind|_,_,.cons _ r,i+1,a,b,W,Y=>OA r (i:=i) (by grind) (by grind)
theorem WW(h:JM k v=AH):BQ (Ax k) v:=by
 rcases Hl h with⟨i,t,rfl,rfl⟩|⟨x,t,rfl,rfl⟩;.exact⟨t,rfl⟩
 .exact⟨t,rfl⟩
theorem jB{kvs:List (AL×AE)}{vs:List (AL×AK)}{D:List AK}(F:Dj kvs vs)(Z:D.length=vs.length)(h:∀(j:Nat)(v:AK),D[j]?=AA v->∃(k:AL)(x:AK),vs[j]?=AA (k,x)/\JM k v=AH):BJ (kvs.map λp=>Ax p.1) D:=by
  refine Ez ?_ ?_;.rw[A0,Z];exact Ij F
  . intro i a b J W;refine AB λU=>?_;obtain⟨k,x,A,Y⟩:=h i b W;rw[Bx]at J;obtain⟨p,z,rfl⟩:=D2.mp J;refine U ?_;try clear U
    have q:=OA F z A;rw[q.1];exact WW Y
theorem Q5{X:BY}{K:Ar}(hc:X.ic=AH):Ea X (.type "list") (λxs H Q=>∃(a:AD)(kvs:List (AL×AE)),xs=[.ref a]/\H a=AA (.dK kvs)/\∀l,H l=AF->Q (.ref l) (AN H l (.lst (kvs.map λp=>Ax p.1)))):=by
 intro pins s σ H xs us Q I r h;refine AB λnG=>?_;obtain⟨a,kvs,rfl,e,q⟩:=h;obtain⟨u,rfl,rx⟩:=HH r;cases rx;obtain⟨z,lo,vs,rel,dd⟩:=Nx I.bx e;obtain⟨ep,hat⟩:=dd.dictAt;refine nG ?_;try clear nG
 have hlen:kvs.length=vs.length:=Ij rel;refine W.kdl_call (W.kdl_dict (knd:=Dq X.af X.w) (kvs:=vs) (ep:=ep) lo) (I.ok.hd hc) hat (by(first|lia|omega)) λh' tk acc c' kp e' it=>?_;refine⟨.ref s.heap.objs.size,_,I.qk (t':=tk) kp (Al _) (show C5 X.af X.w _ h' _ (.lst (kvs.map λp=>Ax p.1))from⟨by rw[A0];exact z,acc.toList,c',?_,by simpa using e'⟩),rfl,q _ (I.bx.bo (Al _))⟩;exact jB rel (by rw[IF];exact it.1) λj v hv=>it.2 j v (by rw[<-M4];exact hv)
theorem kU{X:BY}{y:AG}{D osc:EI}{W:Ca}(B:List (AG×Nat))(b:X.N.Nodup)(L:X.N[i]?=AA y)(N:IP X.ae.scope y)(Q:X.ic=AH)(hi:Eu X (.Tuple [.Name x P,.Name V A] O J) F wi)(g:X.ae.scope=osc)(f:D.kind=.function)(Z:∀y∈D.names,y.2≠.cell)(U:∀y∈D.names,y.2=.local->D.names.lookup y.1=AA .local)(q:∀y∈D.names,y.2=.free->osc.names.lookup y.1=AA .cell\/osc.names.lookup y.1=AA .free)(K:HW X D B)(R:D.names.lookup x=AA .local)(G:D.names.lookup V=AA .local)(E:(x::V::B.map (·.1)).Nodup)(j:∀C s H ex,HY (DF X D (x::V::B.map (·.1)) C s H ex) z a)(c:∀C s H ex,An (DF X D (x::V::B.map (·.1)) C s H ex) Y T)(M:LQ (.ListComp Y [⟨.Tuple [.Name x P,.Name V A] O J,F,z,0⟩] D I) (AA (.Name y S)) W.line X.ae=BZ AH:=by rfl)(d:X.fn y=AH\/X.ae.scope.names.lookup y=AA .local:=by first|exact .inl rfl|exact .inr rfl|assumption)(h:∀x,Ka F X.ae x=BZ x:=by intro _;rfl):D6 X (.Assign [.Name y S] (.ListComp Y [⟨.Tuple [.Name x P,.Name V A] O J,F,z,0⟩] D I) W) (MQ (JW 2 (B.map (·.2)) wi (RD X.K 2 (L6 (F4 0) (L6 (F4 1) RC))) a T) (F4 i)):=W5 (own:=[x,V]) b L N d Q hi f Z U (λy k e=>by show X.ae.scope.names.lookup y.1=_\/X.ae.scope.names.lookup y.1=_;rw[g];exact q y k e) K (λC s H ex=>JQ (show(DF X D (x::V::B.map (λp:AG×Nat=>p.1)) C s H ex).ic=AH from Q) (FU (FE (i:=0) E rfl (.inl (ID R)) (.inr (ID R))) (FU (FE (i:=1) E rfl (.inl (ID G)) (.inr (ID G))) JR))) j c M h
theorem Dp{a b:Int}{A B:Prop}(D:a=b->A)(F:¬a=b->B):if Ae (AE.int a=AE.int b)=AH then A else B:=IV (λe=>D (AE.int.inj (y6 e))) λe=>F λz=>zA e (yZ AE.int z)
theorem N1{A B:Prop}(D:a=b->A)(F:¬a=b->B):if Ae (AE.str a=AE.str b)=AH then A else B:=IV (λe=>D (AE.str.inj (y6 e))) λe=>F λz=>zA e (yZ AE.str z)
theorem G6{c:Prop}[Decidable c]{A B:Prop}(D:c->A)(F:¬c->B):if Ae c=AH then A else B:=(by grind)
noncomputable def Xa(t:Cf):Cf:=λD U H=>∃N:Am->AI->Prop,t {D with nx:=N} U H/\∀F J,N F J->D.nx F J
theorem Ic{st:A3}(h:D6 X st t):D6 X st (Xa t):=λF s W H D I⟨N,q,k⟩=>by refine Ay (h F s W H {D with nx:=N} I q) λf Y z=>?_;cases f with|next=>obtain⟨J,U,V,n⟩:=z;exact⟨J,U,V,k _ _ n⟩|brk=>exact z|cont=>exact z|ret u=>exact z
theorem IS{D:Fz}(N:Am->AI->Prop)(h:t {D with nx:=N} J H)(k:∀F H',N F H'->D.nx F H'):Xa t D J H:=⟨N,h,k⟩
theorem Be(h:H a=AF):Ap H (AN H a o):=(Cu H).gf h
structure E5(prog:CQ)(w:Bq)(A:Cy)(s:AY)(κ:OX)(O:R7)(kf:AK->O.α)(a₀:Array Au):Prop where ama:∀p∈a₀.toList,∀q∈a₀.toList,∀(Q:Bool->AY->Prop)(E:AK->AY->Prop),Q (O.blt (kf p.1) (kf q.1)) s->Av (Ao prog w) A (keyLt' κ p.1 q.1) Q E s
structure CI(κ:OX)(a₀:Array Au)(st:CF):Prop where
 qx:(Ah st).Perm a₀
 lh:YG st=κ
 qh:KQ st=AF
noncomputable def A7{O:R7}(kf:AK->O.α)(xs:Array Au)(i:Nat):O.α:=kf ((xs[i]?.map (·.1)).getD .none)
noncomputable def Cz{O:R7}(kf:AK->O.α)(xs:Array Au)(lo hi:Nat):Prop:=∀i j,lo<=i->i<=j->j<hi->O.kle (A7 kf xs i) (A7 kf xs j)
theorem FH{O:R7}{kf:AK->O.α}{xs ys:Array Au}{i j:Nat}(h:xs[i]?=ys[j]?):A7 kf xs i=A7 kf ys j:=by unfold A7;rw[h]
theorem CI.adl{D:Array Au}{st:CF}(B:CI F D st):(Ah st).size=D.size:=B.qx.size_eq
theorem CI.uv{st:CF}(B:CI F D st){xs:Array Au}(h:xs.Perm (Ah st)):CI F D (MZ st xs):=⟨h.trans B.qx,B.lh,B.qh⟩
theorem CI.at{J:OX}{O:R7}{kf:AK->O.α}{D:Array Au}{st:CF}(B:CI J D st){i:Nat}(hi:i<D.size):∃p,(Ah st)[i]?=AA p/\p∈D.toList/\A7 kf (Ah st) i=kf p.1:=by
 have F:i<(Ah st).size:=by rw[B.adl];exact hi
 refine⟨(Ah st)[i],(by grind),(M5.mp B.qx).mem_iff.mp (by simp),?_⟩;unfold A7;grind
theorem Mx{prog:CQ}{w:Bq}{A:Cy}{E:AK->AY->Prop}{s:AY}{U:OX}{O:R7}{kf:AK->O.α}{D:Array Au}{st:CF}(C:E5 prog w A s U O kf D)(B:CI U D st){p q:Au}(F:p∈D.toList)(J:q∈D.toList){Q:Option Bool->CF->Prop}(h:Q (AA (O.blt (kf p.1) (kf q.1))) st):D3 (Ao prog w) A E s (lt' p q) Q st:=by rw[lt'_eq];refine Az (Jb ?_);rw[B.lh];exact Az (Ma (wF (C.ama p F q J _ _ ⟨rfl,A9 h⟩)))
theorem My{prog:CQ}{w:Bq}{A:Cy}{E:AK->AY->Prop}{s:AY}{G:OX}{O:R7}{kf:AK->O.α}{D:Array Au}{st:CF}(C:E5 prog w A s G O kf D)(B:CI G D st){i j:Nat}(hi:i<D.size)(V:j<D.size){Q:Option Bool->CF->Prop}(h:Q (AA (O.blt (A7 kf (Ah st) i) (A7 kf (Ah st) j))) st):D3 (Ao prog w) A E s (Ja i j) Q st:=by
 refine AB λF=>?_;obtain⟨p,J,Z,W⟩:=B.at hi;obtain⟨q,U,z,Y⟩:=B.at V;refine F ?_;try clear F
 rw[W,Y]at h;show D3 _ _ _ _ (R9 _ i>>=λx=>R9 _ j>>=λy=>lt' x y) Q st;rw[oR,oR,J,U];exact Az (A9 (Az (A9 (Mx C B Z z h))))
theorem SR{O:R7}{kf:AK->O.α}{xs:Array Au}{i j:Nat}(D:j<=xs.size)(k:Nat):A7 kf (SD xs i j ((j-i)/2)) k=if i<=k/\k<j then A7 kf xs (i+j-1-k)else A7 kf xs k:=by
 have e:=tS (i:=i) D k;by_cases h:i<=k/\k<j;.rw[yY h]at e⊢;exact FH e
 .rw[yX h]at e⊢;exact FH e
theorem Yw{O:R7}{kf:AK->O.α}{xs:Array Au}{D d:Nat}(V:D<xs.size)(U:d<=D)(k:Nat):A7 kf (bubble xs D d) k=if k=D-d then A7 kf xs D else if D-d<k/\k<=D then A7 kf xs (k-1)else A7 kf xs k:=by
  have e:=tR V d U k;by_cases F:k=D-d;.rw[yY F]at e⊢;exact FH e
  . rw[yX F]at e⊢;by_cases J:D-d<k/\k<=D;.rw[yY J]at e⊢;exact FH e
    .rw[yX J]at e⊢;exact FH e
section
variable{st:CF}
structure Gf(lo:Nat)(st st':CF):Prop where
 aem:Bf st'=Bf st
 akz:∀k,k<lo->(Ah st')[k]?=(Ah st)[k]?
end
theorem Om(lo:Nat)(st:CF):Gf lo st st:=⟨rfl,λ_ _=>rfl⟩
theorem Gf.aa{lo:Nat}(x:Gf lo a b)(y:Gf lo b c):Gf lo a c:=⟨y.aem.trans x.aem,λk h=>(y.akz k h).trans (x.akz k h)⟩
theorem q8{J:Array Au}{st:CF}(C:E5 prog w A s M O kf J){lo:Nat}(p:lo+n<=J.size)(b:L<=n)(B:CI M J st)(d:Cz kf (Ah st) lo (lo+L))(h:∀D,CI M J D->Gf lo st D->Cz kf (Ah D) lo (lo+n)->Q AH D):D3 (Ao prog w) A E s (binarySort' lo n L) Q st:=by
  rw[binarySort'_eq];refine Az (Gd (F8 (I:=λk c D=>c=(AF,())/\CI M J D/\Gf lo st D/\Cz kf (Ah D) lo (lo+Cs k n)) (Q:=λc D=>c=(AF,())/\CI M J D/\Gf lo st D/\Cz kf (Ah D) lo (lo+n)) ?vh ?fin ?ali) ?post);case post=>
    intro c D V;refine AB λU=>?_;obtain⟨rfl,Y,N,u⟩:=V;refine U ?_;try clear U
    exact A9 (h D Y N u)
  case ali=>
    refine⟨rfl,B,Om _ _,λi j H K S=>?_⟩;by_cases z:L=0
    . obtain rfl:i=j:=by(first|lia|omega)
      exact KO _
    .exact d i j H K (by(first|lia|omega))
  case fin=>grind
  case vh=>
    intro k c D X a V;refine AB λU=>?_;obtain⟨rfl,Y,N,u⟩:=V;refine U ?_;try clear U
    rw[show Cs k n=k by(first|lia|omega)]at u;refine Az (Gd (F8 (I:=λx c F=>F=D/\∃l r,c=(AF,l,r)/\l<=r/\r<=k/\r-l<=k-x/\(∀i,i<l->O.kle (A7 kf (Ah D) (lo+i)) (A7 kf (Ah D) (lo+k)))/\(∀i,r<=i->i<k->O.klt (A7 kf (Ah D) (lo+k)) (A7 kf (Ah D) (lo+i)))) (Q:=λc F=>F=D/\∃l r,c=(AF,l,r)/\l<=k/\(∀i,i<l->O.kle (A7 kf (Ah D) (lo+i)) (A7 kf (Ah D) (lo+k)))/\(∀i,l<=i->i<k->O.klt (A7 kf (Ah D) (lo+k)) (A7 kf (Ah D) (lo+i)))) ?i1 ?i2 ?i3) ?i4);case i3=>grind
    case i2=>
      intro c F V;refine AB λU=>?_;obtain⟨rfl,l,r,rfl,H,K,S,Z,q⟩:=V;refine U ?_;try clear U
      grind
    case i1=>
      intro x c F _ t V;refine AB λU=>?_;obtain⟨rfl,l,r,rfl,H,K,S,Z,q⟩:=V;refine U ?_;try clear U
      dsimp only;by_cases g:l>=r
      . rw[yY g];obtain rfl:l=r:=by(first|lia|omega)
        exact A9 ⟨rfl,l,l,rfl,K,Z,q⟩
      . rw[yX g];refine Az (My C Y (by(first|lia|omega)) (by(first|lia|omega)) ?_);cases e:O.blt (A7 kf (Ah F) (lo+k)) (A7 kf (Ah F) (lo+(l+r)/2))with |true=> refine A9 ⟨rfl,l,(l+r)/2,rfl,by(first|lia|omega),by(first|lia|omega),by(first|lia|omega),Z,λi T f=>?_⟩;exact KeyOrd.klt_of_klt_of_kle e (u _ _ (by(first|lia|omega)) (by(first|lia|omega)) (by(first|lia|omega)))|false=> refine A9 ⟨rfl,(l+r)/2+1,r,rfl,by(first|lia|omega),by(first|lia|omega),by(first|lia|omega),λi T=>?_,q⟩;exact Fq (u (lo+i) (lo+(l+r)/2) (by(first|lia|omega)) (by(first|lia|omega)) (by(first|lia|omega))) (show O.kle _ _ from e)
    case i4=>
      intro c F V;refine AB λU=>?_;obtain⟨rfl,l,r,rfl,H,Z,q⟩:=V;refine U ?_;try clear U
      show D3 _ _ _ _ (moveDown' (lo+k) (lo+l)>>=λ_=>BZ (Ov (AF,()))) _ _;rw[moveDown'_eq];have W:lo+k<(Ah F).size:=by rw[Y.adl];(first|lia|omega)
      have P:lo+k-(lo+l)<=lo+k:=by(first|lia|omega)
      refine Az (HJ (A9 ⟨rfl,Y.uv (bubble_perm _ _ _),N.aa ⟨rfl,λz v=>?_⟩,?_⟩));.rw[tR W _ P,yX (by(first|lia|omega)),yX (by(first|lia|omega))]
      . rw[show Cs (k+1) n=k+1 by(first|lia|omega)];intro i j T f y;rw[Yw W P,Yw W P];have G:=λz m o=>by have:=Z (z-lo) (by(first|lia|omega));rwa[show lo+(z-lo)=z by(first|lia|omega)]at this
        have R:∀z,lo+l<=z->z<lo+k->O.klt (A7 kf (Ah F) (lo+k)) (A7 kf (Ah F) z):=λz m o=>by have:=q (z-lo) (by(first|lia|omega)) (by(first|lia|omega));rwa[show lo+(z-lo)=z by(first|lia|omega)]at this
        repeat' split
        all_goals first |(exfalso;(first|lia|omega))|exact KO _|exact G _ (by(first|lia|omega)) (by(first|lia|omega))|exact Hw (R _ (by(first|lia|omega)) (by(first|lia|omega)))|exact u _ _ (by(first|lia|omega)) (by(first|lia|omega)) (by(first|lia|omega))
theorem Cz.mh{O:R7}{kf:AK->O.α}{xs:Array Au}{lo n:Nat}(u:Cz kf xs lo (lo+n))(U:1<=n)(h:O.kle (A7 kf xs (lo+n-1)) (A7 kf xs (lo+n))):Cz kf xs lo (lo+(n+1)):=λi j D F V=>by
  by_cases z:j=lo+n
  . subst z;by_cases J:i=lo+n;.subst J;exact KO _
    .exact Fq (u i _ D (by(first|lia|omega)) (by(first|lia|omega))) h
  .exact u i j D F (by(first|lia|omega))
noncomputable def LS{O:R7}(kf:AK->O.α)(xs:Array Au)(lo hi:Nat):Prop:=∀i j,lo<=i->i<=j->j<hi->O.kle (A7 kf xs j) (A7 kf xs i)
theorem LS.mh{O:R7}{kf:AK->O.α}{xs:Array Au}{lo n:Nat}(u:LS kf xs lo (lo+n))(U:1<=n)(h:O.kle (A7 kf xs (lo+n)) (A7 kf xs (lo+n-1))):LS kf xs lo (lo+(n+1)):=λi j D F V=>by
  by_cases z:j=lo+n
  . subst z;by_cases J:i=lo+n;.subst J;exact KO _
    .exact Fq h (u i _ D (by(first|lia|omega)) (by(first|lia|omega)))
  .exact u i j D F (by(first|lia|omega))
theorem Oq{D:Array Au}{st:CF}(B:CI J D st){lo:Nat}(hi:lo<=i)(F:j<=D.size):CI J D (MZ st (SD (Ah st) i j ((j-i)/2)))/\Gf lo st (MZ st (SD (Ah st) i j ((j-i)/2))):=by refine⟨B.uv (mirror_perm _ _ _ _),rfl,λk U=>?_⟩;rw[tS (by rw[B.adl];exact F),yX (by(first|lia|omega))]
theorem Ot{J:OX}{O:R7}{kf:AK->O.α}{D:Array Au}{st:CF}(B:CI J D st){i j:Nat}(F:j<=D.size)(h:∀k,i<=k->k<j->A7 kf (Ah st) k=A7 kf (Ah st) (j-1))(k:Nat):A7 kf (SD (Ah st) i j ((j-i)/2)) k=A7 kf (Ah st) k:=by rw[SR (by rw[B.adl];exact F)];grind
theorem Y3{prog:CQ}{w:Bq}{A:Cy}{E:AK->AY->Prop}{s:AY}{K:OX}{O:R7}{kf:AK->O.α}{F:Array Au}{st:CF}(C:E5 prog w A s K O kf F){lo D J:Nat}(N:lo+D<=F.size)(L:1<=J)(M:J<=D)(B:CI K F st)(u:Cz kf (Ah st) lo (lo+J)){Q:Option (Option Nat)×Nat->CF->Prop}(h:∀n,J<=n->n<=D->Cz kf (Ah st) lo (lo+n)->(n<D->O.klt (A7 kf (Ah st) (lo+n)) (A7 kf (Ah st) (lo+n-1)))->Q (AF,n) st){f:Nat->Option (Option Nat)×Nat->StateT CF DH (ForInStep (Option (Option Nat)×Nat))}(z:∀x c,f x c=(do match(<-Ja (lo+c.2) (lo+c.2-1))with|AA b=>if b=AH then BZ (.done (AF,c.2))else BZ (.yield (AF,c.2+1))|AF=>BZ (.done (AA AF,c.2)))):D3 (Ao prog w) A E s (GH [J:D] (AF,J) f) Q st:=by
  refine F8 (I:=λx c U=>U=st/\c=(AF,x)/\J<=x/\x<=D/\Cz kf (Ah st) lo (lo+x)) ?_ ?_ (by grind)
  . intro x c U G H q;refine AB λV=>?_;obtain⟨rfl,rfl,Y,Z,W⟩:=q;refine V ?_;try clear V
    rw[z];refine Az (My C B (by(first|lia|omega)) (by(first|lia|omega)) ?_);cases e:O.blt _ _ with|true=>exact A9 (h x Y Z W λ_=>e)|false=>exact A9 ⟨rfl,rfl,by(first|lia|omega),by(first|lia|omega),W.mh (by(first|lia|omega)) e⟩
  grind
noncomputable abbrev Gg:=Option (Option Nat)×Nat
noncomputable def Mz(lo:Nat)(c:Gg):StateT CF DH (ForInStep Gg):=Ja (lo+c.2) (lo+c.2-1)>>=λo=>match o with|AA b=>if b=AH then BZ (.done (AF,c.2))else BZ (.yield (AF,c.2+1))|_=>BZ (.done (AA AF,c.2))
noncomputable def Kb(lo D n:Nat):StateT CF DH (Option Nat):=KR lo (lo+n)>>=λ_=>GH [n:D] ((AF,n):Gg) (λ_ c=>Mz lo c)>>=λc=>match c.1 with|AA r=>BZ r|AF=>BZ (AA c.2)
noncomputable abbrev SQ:=Option (Option Nat)×Nat×Nat
noncomputable def Yt(lo:Nat)(c:SQ):StateT CF DH (ForInStep SQ):=Ja (lo+c.2.1) (lo+c.2.1-1)>>=λo=>match o with
 |AA b=>if b=AH then(if c.2.2>0 then KR (lo+c.2.1-(c.2.2+1)) (lo+c.2.1)>>=λ_=>BZ (.yield (AF,c.2.1+1,0))else BZ (.yield (AF,c.2.1+1,0)))else Ja (lo+c.2.1-1) (lo+c.2.1)>>=λF=>match F with |AA D=>if D=AH then BZ (.done (AF,c.2.1,c.2.2))else BZ (.yield (AF,c.2.1+1,c.2.2+1))|_=>BZ (.done (AA AF,c.2.1,c.2.2))
 |_=>BZ (.done (AA AF,c.2.1,c.2.2))
noncomputable def Oo(lo D n:Nat):StateT CF DH (Option Nat):=liftM (rule "list.sort.descending-run")>>=λ_=>GH [n+1:D] ((AF,n+1,0):SQ) (λ_ c=>Yt lo c)>>=λc=>match c.1 with|AA r=>BZ r|AF=>if c.2.2>0 then KR (lo+c.2.1-(c.2.2+1)) (lo+c.2.1)>>=λ_=>Kb lo D c.2.1 else Kb lo D c.2.1
theorem Y5{D:Array Au}{st:CF}(C:E5 prog w A s U O kf D){lo:Nat}(q:lo+F<=D.size)(Y:1<=n)(Z:n<=F)(B:CI U D st)(W:LS kf (Ah st) lo (lo+n))(h:∀m J,CI U D J->Gf lo st J->1<=m->m<=F->Cz kf (Ah J) lo (lo+m)->Q (AA m) J):D3 (Ao prog w) A E s (Kb lo F n) Q st:=by
 refine Az (HJ ?_);obtain⟨V,z⟩:=Oq B (Al lo) (show lo+n<=D.size by(first|lia|omega));have u:Cz kf (SD _ lo (lo+n) _) lo (lo+n):=λi j I K L=>by rw[SR (by rw[B.adl];(first|lia|omega)),SR (by rw[B.adl];(first|lia|omega)),yY (by(first|lia|omega)),yY (by(first|lia|omega))];exact W _ _ (by(first|lia|omega)) (by(first|lia|omega)) (by(first|lia|omega))
 refine Az (Y3 C q Y Z V u (λm G H u2 _=>?_) λx c=>yZ (Ja _ _>>=.) (by grind));exact A9 (by grind)
theorem Y0{prog:CQ}{w:Bq}{A:Cy}{E:AK->AY->Prop}{s:AY}{M:OX}{O:R7}{kf:AK->O.α}{F:Array Au}{st:CF}(C:E5 prog w A s M O kf F){lo J n:Nat}(p:lo+J<=F.size)(t:1<=n)(u:n<J)(B:CI M F st)(l:∀k,lo<=k->k<lo+n->A7 kf (Ah st) k=A7 kf (Ah st) (lo+n-1))(lt:O.klt (A7 kf (Ah st) (lo+n)) (A7 kf (Ah st) (lo+n-1))){Q:Option Nat->CF->Prop}(h:∀m D,CI M F D->Gf lo st D->1<=m->m<=J->Cz kf (Ah D) lo (lo+m)->Q (AA m) D):D3 (Ao prog w) A E s (Oo lo J n) Q st:=by
 unfold Oo;refine Az (Ma (Mq ⟨rfl,?_⟩));have T:=LS.mh (λi j q H K=>by rw[l i q (by(first|lia|omega)),l j (by(first|lia|omega)) K];exact KO _) t (Hw lt);refine Az (Gd (F8 (I:=λx c D=>∃e,c=(AF,x,e)/\n+1<=x/\x<=J/\e+1<=x/\CI M F D/\Gf lo st D/\LS kf (Ah D) lo (lo+x)/\∀k,lo+x-(e+1)<=k->k<lo+x->A7 kf (Ah D) k=A7 kf (Ah D) (lo+x-1)) (Q:=λc D=>∃x e,c=(AF,x,e)/\n+1<=x/\x<=J/\e+1<=x/\CI M F D/\Gf lo st D/\LS kf (Ah D) lo (lo+x)/\∀k,lo+x-(e+1)<=k->k<lo+x->A7 kf (Ah D) k=A7 kf (Ah D) (lo+x-1)) ?vh ?fin ?ali) ?post);case ali=>exact⟨0,rfl,Al _,u,by(first|lia|omega),B,Om _ _,T,(by grind)⟩
 case fin=>grind
 case vh=>
  intro x c D v y a;refine AB λG=>?_;obtain⟨e,rfl,r,L,g,U,Y,Z,V⟩:=a;refine G ?_;try clear G
  unfold Yt;dsimp only;refine Az (My C U (by(first|lia|omega)) (by(first|lia|omega)) ?_);cases b:O.blt (A7 kf (Ah D) (lo+x)) _ with
  |true=>
   dsimp only;rw[yY rfl];have X:∀d:Array Au,(∀k,A7 kf d k=A7 kf (Ah D) k)->LS kf d lo (lo+(x+1)):=λd o=>by have:=Z.mh (by(first|lia|omega)) (Hw b);intro i j q H K;rw[o,o];exact this i j q H K
   by_cases z:e>0
   . rw[yY z,tW];refine Az (HJ (A9 ?_));obtain⟨N,R⟩:=Oq U (show lo<=lo+x-(e+1)by(first|lia|omega)) (show lo+x<=F.size by(first|lia|omega));exact⟨0,rfl,by(first|lia|omega),by(first|lia|omega),by(first|lia|omega),N,Y.aa R,X _ (Ot U (by(first|lia|omega)) V),(by grind)⟩
   . rw[yX z];exact A9 (by grind)|false=> dsimp only;refine Az (My C U (by(first|lia|omega)) (by(first|lia|omega)) ?_);cases f:O.blt _ (A7 kf (Ah D) (lo+x))with |true=>exact A9 ⟨x,e,rfl,r,L,g,U,Y,Z,V⟩|false=> have ek:=O.total _ _ f b;refine A9 ⟨e+1,rfl,by(first|lia|omega),by(first|lia|omega),by(first|lia|omega),U,Y,Z.mh (by(first|lia|omega)) f,λk q H=>?_⟩;grind
 case post=>
  intro c D a;refine AB λG=>?_;obtain⟨x,e,rfl,r,L,g,U,Y,Z,V⟩:=a;refine G ?_;try clear G
  dsimp only;by_cases z:e>0
  . rw[yY z,tW];obtain⟨N,R⟩:=Oq U (show lo<=lo+x-(e+1)by(first|lia|omega)) (show lo+x<=F.size by(first|lia|omega));refine Y5 C p (by(first|lia|omega)) L N (λi j q H K=>?_) λm W P S=>h m W P ((Y.aa R).aa S);rw[Ot U (by(first|lia|omega)) V,Ot U (by(first|lia|omega)) V];exact Z i j q H K
  . rw[yX z];exact Y5 C p (by(first|lia|omega)) L U Z λm W P S=>h m W P (Y.aa S)
theorem Y8{A:Cy}{E:AK->AY->Prop}{s:AY}{M:LG}{J D:Type}{m F:StateT D DH J}{Q:J->D->Prop}{t:D}(e:F=m)(h:D3 M A E s m Q t):D3 M A E s F Q t:=by grind
theorem q9{F:Array Au}{st:CF}(C:E5 prog w A s e O kf F){lo:Nat}(P:lo+D<=F.size)(Z:1<=D)(B:CI e F st)(h:∀n J,CI e F J->Gf lo st J->1<=n->n<=D->Cz kf (Ah J) lo (lo+n)->Q (AA n) J):D3 (Ao prog w) A E s (countRun' lo D) Q st:=by
  have t:Cz kf (Ah st) lo (lo+1):=λi j V G v=>by
    obtain rfl:i=j:=by(first|lia|omega)
    exact KO _
  refine Az (Y3 C P (Al _) Z B t (λn I d u a=>?_) λx c=>yZ (Ja _ _>>=.) (funext λo=>by cases o<;>rfl));dsimp only;by_cases q:n=D
  . subst q;rw[yY (beq_self_eq_true n)];exact A9 (h n st B (Om _ _) I d u)
  . rw[yX (by simpa using q)];by_cases T:n>1;. rw[yY T];refine Az (My C B (by(first|lia|omega)) (by(first|lia|omega)) ?_);cases b:O.blt _ _ with|true=>exact A9 (h n st B (Om _ _) I d u)|false=>
        have W:=λk V G=>by refine KeyOrd.kle_antisymm (u k (lo+n-1) V (by(first|lia|omega)) (by(first|lia|omega))) (Fq (show O.kle _ _ from b) (u lo k (Al _) V G))
        refine Az ?_;refine HJ ?_;refine Y8 (m:=Oo lo D n) ?same ?_;case same=>exact(by
            refine yZ _ (funext λ_=>congr (yZ _ (yZ (GH _ _) (funext λ_=>funext λc=>?_))) (funext λc=>?_));. refine yZ (Ja _ _>>=.) (funext λo=>?_);cases o with|none=>rfl|some b=>cases b with|true=>rfl|false=>exact yZ (Ja _ _>>=.) (funext λR=>by cases R<;>rfl)
            . obtain⟨K,L⟩:=c;have t3:∀n,Kb lo D n=(KR lo (lo+n)>>=λ_=>GH [n:D] ((AF,n):Gg) _>>=λc=>match c.1 with|AA r=>BZ r|AF=>BZ (AA c.2)):=λ_=>rfl;have t4:∀n(X:Nat->Gg->StateT CF DH (ForInStep Gg))(Y:Gg->StateT CF DH (Option Nat)),(∀x c,X x c=Mz lo c)->(∀c,Y c=match c.1 with|AA r=>BZ r|AF=>BZ (AA c.2))->(KR lo (lo+n)>>=λ_=>GH [n:D] ((AF,n):Gg) X>>=Y)=Kb lo D n:=λn X Y Z N=>by rw[t3,show X=λ_ c=>Mz lo c from funext λx=>funext λc=>Z x c,show Y=_ from funext N]
              cases K with |some r=>rfl|none=>
                by_cases z:L.2>0
                . rw[yY z,yY z];refine yZ (KR _ _>>=.) (funext λ_=>?_);exact t4 _ _ _ (λx c=>yZ _ (funext λo=>by cases o<;>rfl)) (λc=>by obtain⟨U,M⟩:=c;cases U<;>rfl)
                . rw[yX z,yX z];exact t4 _ _ _ (λx c=>yZ _ (funext λo=>by cases o<;>rfl)) (λc=>by obtain⟨U,M⟩:=c;cases U<;>rfl))
        obtain⟨f,l⟩:=Oq B (Al lo) (show lo+n<=F.size by(first|lia|omega));have H:=Ot B (i:=lo) (j:=lo+n) (by(first|lia|omega)) W;refine Y0 C P I (by(first|lia|omega)) f (λk V G=>?_) ?_ λm S g p=>h m S g (l.aa p)
        . rw[H,H];exact W k V G
        . rw[H,H];exact a (by(first|lia|omega))
    . rw[yX T];refine Y8 (m:=Oo lo D n) ?same ?_;case same=>exact(by
            refine yZ _ (funext λ_=>congr (yZ _ (yZ (GH _ _) (funext λ_=>funext λc=>?_))) (funext λc=>?_))
            . refine yZ _ (funext λo=>?_);cases o with |none=>rfl|some b=>cases b with |true=>rfl|false=>exact yZ (Ja _ _>>=.) (funext λR=>by cases R<;>rfl)
            . obtain⟨K,L⟩:=c;have t3:∀n,Kb lo D n=(KR lo (lo+n)>>=λ_=>GH [n:D] ((AF,n):Gg) _>>=λc=>match c.1 with|AA r=>BZ r|AF=>BZ (AA c.2)):=λ_=>rfl;have t4:∀n(X:Nat->Gg->StateT CF DH (ForInStep Gg))(Y:Gg->StateT CF DH (Option Nat)),(∀x c,X x c=Mz lo c)->(∀c,Y c=match c.1 with|AA r=>BZ r|AF=>BZ (AA c.2))->(KR lo (lo+n)>>=λ_=>GH [n:D] ((AF,n):Gg) X>>=Y)=Kb lo D n:=λn X Y Z N=>by rw[t3,show X=λ_ c=>Mz lo c from funext λx=>funext λc=>Z x c,show Y=_ from funext N]
              cases K with |some r=>rfl|none=>
                by_cases z:L.2>0;. rw[yY z,yY z];refine yZ (KR _ _>>=.) (funext λ_=>?_);exact t4 _ _ _ (λx c=>yZ _ (funext λo=>by cases o<;>rfl)) (λc=>by obtain⟨U,M⟩:=c;cases U<;>rfl)
                . rw[yX z,yX z];exact t4 _ _ _ (λx c=>yZ _ (funext λo=>by cases o<;>rfl)) (λc=>by obtain⟨U,M⟩:=c;cases U<;>rfl))
      obtain rfl:n=1:=by(first|lia|omega)
      exact Y0 C P I (by(first|lia|omega)) B (λk V G=>by rw[show k=lo+1-1 by(first|lia|omega)]) (a (by(first|lia|omega))) h
noncomputable def qW:Bool->Au->Array Au->Nat->Nat->Nat->StateT CF DH (Option Nat):=sortPriv%PySem.Builtin.gallop
noncomputable def qY:Array Au->Array Au->StateT CF DH (Array Au):=sortPriv%PySem.Builtin.mergeLo
noncomputable def qX:Array Au->Array Au->StateT CF DH (Array Au):=sortPriv%PySem.Builtin.mergeHi
theorem EK{prog:CQ}{w:Bq}{A:Cy}{E:AK->AY->Prop}{s:AY}{st:CF}{D:Array Au}{i:Nat}(hi:i<D.size){Q:Au->CF->Prop}(h:Q D[i] st):D3 (Ao prog w) A E s (R9 D i) Q st:=by rw[oR,zH _ i hi];exact A9 h
noncomputable def CV{O:R7}(kf:AK->O.α)(left:Bool)(key:Au)(D:Array Au)(base i:Nat):Bool:=if left=AH then O.blt (A7 kf D (base+i)) (kf key.1)else !O.blt (kf key.1) (A7 kf D (base+i))
theorem DD{O:R7}{kf:AK->O.α}{D:Array Au}{i:Nat}(hi:i<D.size):A7 kf D i=kf D[i].1:=by unfold A7;grind
theorem qZ{D:Array Au}{st:CF}(C:E5 prog w A s W O kf D)(B:CI W D st){F:Array Au}(J:key∈D.toList)(V:∀p∈F.toList,p∈D.toList)(hi:base+i<F.size)(h:Q (AA (CV kf left key F base i)) st):D3 (Ao prog w) A E s (R9 F (base+i)>>=λx=>if left=AH then lt' x key else lt' key x>>=λo=>BZ (o.map λb=>!b)) Q st:=by refine Az (EK hi ?_);have U:F[base+i]∈D.toList:=V _ (by simp);unfold CV at h;rw[DD hi]at h;cases left with|true=>exact Mx C B U J h|false=>exact Az (Mx C B J U (A9 h))
theorem qU{O:R7}{kf:AK->O.α}{left:Bool}{key:Au}{D:Array Au}{base n i j:Nat}(u:Cz kf D base (base+n))(J:i<=j)(U:j<n)(h:CV kf left key D base j=AH):CV kf left key D base i=AH:=by have F:=u (base+i) (base+j) (by(first|lia|omega)) (by(first|lia|omega)) (by(first|lia|omega));unfold CV at h⊢;cases left with |true=>exact tN F h|false=>
 have h:O.kle (A7 kf D (base+j)) (kf key.1):=by show O.blt _ _=AQ;grind
 have:O.blt _ _=AQ:=Fq F h;grind
theorem LV{K:Array Au}{st:CF}(C:E5 prog w A s κ O kf K)(B:CI κ K st){D:Array Au}(hk:key∈K.toList)(ha:∀p∈D.toList,p∈K.toList)(Z:base+n<=D.size)(G:hint<n)(u:Cz kf D base (base+n))(h:∀k,k<=n->(∀i,i<k->CV kf left key D base i=AH)->(∀i,k<=i->i<n->CV kf left key D base i=AQ)->Q (AA k) st):D3 (Ao prog w) A E s (qW left key D base n hint) Q st:=by
  have d:∀{i:Nat}{Q:Option Bool->CF->Prop},i<n->Q (AA (CV kf left key D base i)) st->D3 (Ao prog w) A E s _ Q st:=λR q=>qZ C B hk ha (by(first|lia|omega)) q;have S:∀i j,i<=j->j<n->CV kf left key D base j=AH->CV kf left key D base i=AH:=λi j U J H=>qU u U J H;refine Az (d G ?_);have fin:∀X R,X<=R->R<=n->(∀i,i<X->CV kf left key D base i=AH)->(∀i,R<=i->i<n->CV kf left key D base i=AQ)->∀{f:Nat->Option (Option Nat)×Nat×Nat->StateT CF DH (ForInStep (Option (Option Nat)×Nat×Nat))}{g:Option (Option Nat)×Nat×Nat->StateT CF DH (Option Nat)},(∀x c,f x c=if c.2.1>=c.2.2 then BZ (.done (AF,c.2.1,c.2.2))else(R9 D (base+(c.2.1+(c.2.2-c.2.1)/2))>>=λx=>if left=AH then lt' x key else lt' key x>>=λo=>BZ (o.map λb=>!b))>>=λo=>match o with|AA b=>if b=AH then BZ (.yield (AF,c.2.1+(c.2.2-c.2.1)/2+1,c.2.2))else BZ (.yield (AF,c.2.1,c.2.1+(c.2.2-c.2.1)/2))|AF=>BZ (.done (AA AF,c.2.1,c.2.2)))->(∀c,g (AF,c)=BZ (AA c.2))->D3 (Ao prog w) A E s (GH [:n] ((AF,X,R):Option (Option Nat)×Nat×Nat) f>>=g) Q st:=by
    intro X R M N v y f g hf hg;refine Az (Gd (F8 (I:=λx c F=>F=st/\∃l r,c=(AF,l,r)/\l<=r/\r<=n/\r-l<=n-x/\(∀i,i<l->CV kf left key D base i=AH)/\(∀i,r<=i->i<n->CV kf left key D base i=AQ)) (Q:=λc F=>F=st/\∃l,c=(AF,l,l)/\l<=n/\(∀i,i<l->CV kf left key D base i=AH)/\(∀i,l<=i->i<n->CV kf left key D base i=AQ)) ?_ ?_ ⟨rfl,X,R,rfl,M,N,by(first|lia|omega),v,y⟩) ?_)
    . rintro x c F _ P⟨rfl,l,r,rfl,U,J,H,V,Y⟩;rw[hf];dsimp only;by_cases g:l>=r
      . rw[yY g];obtain rfl:l=r:=by(clear H J P N M G Z;(first|lia|omega))
        exact A9 ⟨rfl,l,rfl,J,V,Y⟩
      . rw[yX g];refine Az (d (by(clear H U P N M G Z;(first|lia|omega))) ?_);cases e:CV kf left key D base (l+(r-l)/2)with|true=>exact A9 ⟨rfl,_,r,rfl,by(clear H J U P N M G Z;(first|lia|omega)),J,by(clear J U N M G Z;(first|lia|omega)),λi z=>S i _ (by(first|lia|omega)) (by(clear z H U P N M G Z;(first|lia|omega))) e,Y⟩|false=>exact A9 ⟨rfl,l,_,rfl,by(clear g H J U P N M G Z;(first|lia|omega)),by(clear H U P N M G Z;(first|lia|omega)),by(clear J U N M G Z;(first|lia|omega)),V,λi t a=>by cases z:CV kf left key D base i with|false=>rfl|true=>rw[S _ i t a z]at e;cases e⟩
    . rintro c F⟨rfl,l,r,rfl,U,J,H,V,Y⟩;obtain rfl:l=r:=by(clear J N M G Z;(first|lia|omega))
      exact⟨rfl,l,rfl,J,V,Y⟩
    . rintro c F⟨rfl,l,rfl,J,V,Y⟩;rw[hg];exact A9 (h l J V Y)
  cases e:CV kf left key D base hint with |true=>
    refine Az (Gd (F8 (I:=λx c F=>F=st/\∃l o,c=(AF,l,o)/\l<o/\hint+l<n/\x+1<=o/\CV kf left key D base (hint+l)=AH) (Q:=λc F=>F=st/\∃l o,c=(AF,l,o)/\l<o/\hint+l<n/\CV kf left key D base (hint+l)=AH/\(o>=n-hint\/(hint+o<n/\CV kf left key D base (hint+o)=AQ))) ?_ ?_ ⟨rfl,0,1,rfl,by(first|lia|omega),by(first|lia|omega),by(first|lia|omega),e⟩) ?_)
    . intro x c F _ P L;refine AB λW=>?_;obtain⟨rfl,l,o,rfl,U,J,H,V⟩:=L;refine W ?_;try clear W
      dsimp only;by_cases g:o>=n-hint
      . rw[yY g];exact A9 ⟨rfl,l,o,rfl,U,J,V,.inl g⟩
      . rw[yX g];refine Az (d (by(first|lia|omega)) ?_);cases T:CV kf left key D base (hint+o)with |true=>exact A9 ⟨rfl,o,_,rfl,by(first|lia|omega),by(first|lia|omega),by(first|lia|omega),T⟩|false=>exact A9 ⟨rfl,l,o,rfl,U,J,V,.inr ⟨by(first|lia|omega),T⟩⟩
    . intro c F L;refine AB λW=>?_;obtain⟨rfl,l,o,rfl,U,J,H,V⟩:=L;refine W ?_;try clear W
      exact⟨rfl,l,o,rfl,U,J,V,.inl (by(first|lia|omega))⟩
    . intro c F L;refine AB λW=>?_;obtain⟨rfl,l,o,rfl,U,J,V,Y⟩:=L;refine W ?_;try clear W
      refine fin (hint+l+1) (hint+Cs o (n-hint)) (by(first|lia|omega)) (by(first|lia|omega)) (λi z=>S i _ (by(first|lia|omega)) J V) (λi t a=>?_) (λx c=>?_) (λc=>rfl)
      . rcases Y with Y|⟨Y,m⟩;. (first|lia|omega)
        .cases z:CV kf left key D base i with|false=>rfl|true=>rw[S (hint+o) i (by(clear Y J U Z;(first|lia|omega))) a z]at m;cases m
      . dsimp only;split;.rfl
        .exact yZ (_>>=.) (funext λo=>by cases o<;>rfl)|false=>
    refine Az (Gd (F8 (I:=λx c F=>F=st/\∃l o,c=(AF,l,o)/\l<o/\l<=hint/\x+1<=o/\CV kf left key D base (hint-l)=AQ) (Q:=λc F=>F=st/\∃l o,c=(AF,l,o)/\l<o/\l<=hint/\CV kf left key D base (hint-l)=AQ/\(o>=hint+1\/(o<=hint/\CV kf left key D base (hint-o)=AH))) ?_ ?_ ⟨rfl,0,1,rfl,by(first|lia|omega),by(first|lia|omega),by(first|lia|omega),e⟩) ?_)
    . intro x c F _ P L;refine AB λW=>?_;obtain⟨rfl,l,o,rfl,U,J,H,V⟩:=L;refine W ?_;try clear W
      dsimp only;by_cases g:o>=hint+1;. rw[yY g];exact A9 ⟨rfl,l,o,rfl,U,J,V,.inl g⟩
      . rw[yX g];refine Az (d (by(first|lia|omega)) ?_);cases T:CV kf left key D base (hint-o)with|false=>exact A9 ⟨rfl,o,_,rfl,by(first|lia|omega),by(first|lia|omega),by(first|lia|omega),T⟩|true=>exact A9 ⟨rfl,l,o,rfl,U,J,V,.inr ⟨by(first|lia|omega),T⟩⟩
    . intro c F L;refine AB λW=>?_;obtain⟨rfl,l,o,rfl,U,J,H,V⟩:=L;refine W ?_;try clear W
      exact⟨rfl,l,o,rfl,U,J,V,.inl (by(first|lia|omega))⟩
    . intro c F L;refine AB λW=>?_;obtain⟨rfl,l,o,rfl,U,J,V,Y⟩:=L;refine W ?_;try clear W
      refine fin (hint+1-Cs o (hint+1)) (hint-l) (by(clear Y G Z;(first|lia|omega))) (by(first|lia|omega)) (λi z=>?_) (λi t a=>?_) (λx c=>?_) (λc=>rfl)
      . rcases Y with Y|⟨Y,m⟩;. (clear J U G Z;(first|lia|omega))
        .exact S i _ (by(clear J U G Z;(first|lia|omega))) (by(first|lia|omega)) m
      .cases z:CV kf left key D base i with|false=>rfl|true=>rw[S (hint-l) i (by(first|lia|omega)) a z]at V;cases V
      . dsimp only;split;.rfl
        .exact yZ (_>>=.) (funext λo=>by cases o<;>rfl)
structure DY(R:Au->Au->Prop)(la lb lo:List Au)(i j:Nat):Prop where
 qx:lo.Perm (la.take i++lb.take j)alv:lo.Pairwise R
 a:∀x∈lo,∀y∈la.drop i,R x y
 b:∀x∈lo,∀y∈lb.drop j,R x y
theorem DY.abo{lo:List Au}(h:DY R D F lo i j):DY R F D lo j i:=⟨h.qx.trans OS,h.alv,h.b,h.a⟩
theorem DY.adh{F W lo:List Au}(h:DY R F W lo i j)(B:F.Pairwise R)(V:∀x∈(F.drop i).take k,∀y∈W.drop j,R x y):DY R F W (lo++(F.drop i).take k) (i+k) j:=by
  have C:((F.drop i).take k++(F.drop i).drop k).Pairwise R:=by rw[OU];exact B.sublist (sF _ _)
  refine AB λY=>?_;obtain⟨z,_,A⟩:=LB.mp C;refine Y ?_;try clear Y
  have Z:F.drop (i+k)=(F.drop i).drop k:=by rw[nT]
  refine⟨?_,LB.mpr ⟨h.alv,z,λx V y D=>h.a x V y (X3 D)⟩,λx U y D=>?_,λx U y D=>?_⟩
  . rw[sW,Ei];refine(h.qx.append_right _).trans ?_;rw[Ei];exact nQ _ OS
  . rw[Z]at D;rcases DA.mp U with q|q;.exact h.a x q y (X2 D)
    .exact A x q y D
  . rcases DA.mp U with q|q;.exact h.b x q y D
    .exact V x q y D
theorem DY.aey{F D lo:List Au}(h:DY R F D lo i j)(V:D.Pairwise R)(U:∀x∈(D.drop j).take k,∀y∈F.drop i,R x y):DY R F D (lo++(D.drop j).take k) i (j+k):=(h.abo.adh V U).abo
noncomputable def Ek(R:Au->Au->Prop)(D F l:List Au):Prop:=l.Perm (D++F)/\l.Pairwise R
theorem DY.ahx{D F lo:List Au}(h:DY R D F lo i j)(z:D.Pairwise R)(A:F.Pairwise R)(Z:∀x∈D.drop i,∀y∈F.drop j,R x y):Ek R D F (lo++D.drop i++F.drop j):=by
  refine⟨?_,LB.mpr ⟨LB.mpr ⟨h.alv,(by grind),h.a⟩,(by grind),λx U y V=>?_⟩⟩
  . refine((h.qx.append_right _).append_right _).trans ?_;have W:D=D.take i++D.drop i:=(by simp_all);have Y:F=F.take j++F.drop j:=(by simp);grind
  . rcases DA.mp U with q|q;.exact h.b x q y V
    grind
theorem Ek.abo(h:Ek R F D l):Ek R D F l:=⟨h.1.trans OS,h.2⟩
theorem Y7{D a:Array Au}:(D++a.extract i (i+k)).toList=D.toList++(a.toList.drop i).take k:=by simp_all
theorem Ou{a:Array Au}:(a.extract i).toList=a.toList.drop i:=by simp;exact Df (by simp)
theorem Mw{a:Array Au}(hi:i<a.size):(a.toList.drop i).take 1=[a[i]]:=by rw[Xt (by grind)];simp
theorem Y6{D a:Array Au}(hi:i<a.size):(D.push a[i]).toList=D.toList++(a.toList.drop i).take 1:=by rw[Mw hi];simp
noncomputable def BR{O:R7}(kf:AK->O.α):Au->Au->Prop:=λp q=>O.kle (kf p.1) (kf q.1)
theorem Ip{O:R7}{kf:AK->O.α}{a:Array Au}(h:a.toList.Pairwise (BR kf)){lo hi:Nat}(D:hi<=a.size):Cz kf a lo hi:=λi j F J U=>by
 by_cases z:i=j;.rw[z];exact KO _
 . rw[DD _,DD _];have:=E3.mp h i j (by grind) (by grind) (by(first|lia|omega));assumption
theorem LU{a:Array Au}(h:p∈a.toList.drop i):∃k,∃(F:i+k<a.size),p=a[i+k]:=by
 refine AB λD=>?_;obtain⟨k,F,e⟩:=F7.mp h;refine D ?_;try clear D
 grind
theorem Mu{a:Array Au}(h:p∈(a.toList.drop i).take k):∃m,m<k/\∃(F:i+m<a.size),p=a[i+m]:=by
 refine AB λD=>?_;obtain⟨m,J,e⟩:=F7.mp h;refine D ?_;try clear D
 grind
section
variable{κ:OX}{a₀:Array Au}{st:CF}
structure GF(κ:OX)(a₀:Array Au)(st st':CF):Prop where
 sb:CI κ a₀ st'
 alz:Ah st'=Ah st
 aem:Bf st'=Bf st
end
theorem GF.aky{st:CF}(x:GF J F st D)(g:Nat):GF J F st (YD (YG D) (Ah D) (Bf D) g (KQ D)):=⟨⟨x.sb.qx,x.sb.lh,x.sb.qh⟩,x.alz,x.aem⟩
theorem Cd{M:LG}{A:Cy}{E:AK->AY->Prop}{s:AY}{D:Type}{c:Prop}[Decidable c]{x y:StateT CF DH D}{Q:D->CF->Prop}{st:CF}(h:c)(k:D3 M A E s x Q st):D3 M A E s (if c then x else y) Q st:=by grind
theorem Ct{M:LG}{A:Cy}{E:AK->AY->Prop}{s:AY}{D:Type}{c:Prop}[Decidable c]{x y:StateT CF DH D}{Q:D->CF->Prop}{st:CF}(h:¬c)(k:D3 M A E s y Q st):D3 M A E s (if c then x else y) Q st:=by grind
theorem rC{N:Array Au}{st:CF}(C:E5 prog w A s κ O kf N)(B:CI κ N st){a b:Array Au}(ha:∀p∈a.toList,p∈N.toList)(hb:∀p∈b.toList,p∈N.toList)(a1:1<=a.size)(b1:1<=b.size)(pa:a.toList.Pairwise (BR kf))(pb:b.toList.Pairwise (BR kf))(first:∀p∈a.toList,BR kf b[0] p)(V:∀p∈b.toList,BR kf p a[a.size-1])(h:∀m M,GF κ N st M->Ek (BR kf) a.toList b.toList m.toList->Q m M):D3 (Ao prog w) A E s (qY a b) Q st:=by
  have X:∀{D:Array Au}{W Z:Nat},DY (BR kf) a.toList b.toList D.toList W Z->(Z=b.size\/W=a.size)->Ek (BR kf) a.toList b.toList (D++a.extract W++b.extract Z).toList:=λ{D W Z}j e=>by
    rw[SU,SU,Ou,Ou];refine j.ahx pa pb λx K y R=>?_;rcases e with rfl|rfl;.rw[sC (by simp)]at R;cases R
    .rw[sC (by simp)]at K;cases K
  have fLast:∀{D:Array Au}{W Z:Nat},DY (BR kf) a.toList b.toList D.toList W Z->W+1=a.size->Ek (BR kf) a.toList b.toList (D++b.extract Z++a.extract W).toList:=λ{D W Z}j e=>by
    rw[SU,SU,Ou,Ou];refine(j.abo.ahx pb pa λx K y R=>?_).abo;obtain⟨k,hk,rfl⟩:=LU R;have:k=0:=by(first|lia|omega)
    subst this;have:=V x (X2 K);simpa[show a.size-1=W by(first|lia|omega)]using this
  have am:∀{i:Nat}(hi:i<a.size),a[i]∈N.toList:=λhi=>ha _ (by simp);have bm:∀{i:Nat}(hi:i<b.size),b[i]∈N.toList:=λhi=>hb _ (by simp);have la:∀{i k:Nat}(hk:i+k<a.size),BR kf (a[i]'(by(first|lia|omega))) a[i+k]:=λ{i k}hk=>by have:=Ip pa (lo:=0) (Al _) i (i+k) (by(first|lia|omega)) (by(first|lia|omega)) hk;rw[DD (by(first|lia|omega):i<a.size),DD hk]at this;exact this
  have lb:∀{i k:Nat}(hk:i+k<b.size),BR kf (b[i]'(by(first|lia|omega))) b[i+k]:=λ{i k}hk=>by have:=Ip pb (lo:=0) (Al _) i (i+k) (by(first|lia|omega)) (by(first|lia|omega)) hk;rw[DD (by(first|lia|omega):i<b.size),DD hk]at this;exact this
  have oneB:∀{D:Array Au}{W Z:Nat}(t:W<a.size)(h2:Z<b.size),DY (BR kf) a.toList b.toList D.toList W Z->BR kf b[Z] a[W]->DY (BR kf) a.toList b.toList (D.push b[Z]).toList W (Z+1):=λ{D W Z}t h2 j r=>by rw[Y6 h2];refine j.aey pb λx K y R=>?_;rw[Mw h2,By]at K;obtain⟨k,hk,rfl⟩:=LU R;rw[K];exact Fq r (la hk)
  have oneA:∀{D:Array Au}{W Z:Nat}(t:W<a.size)(h2:Z<b.size),DY (BR kf) a.toList b.toList D.toList W Z->BR kf a[W] b[Z]->DY (BR kf) a.toList b.toList (D.push a[W]).toList (W+1) Z:=λ{D W Z}t h2 j r=>by rw[Y6 t];refine j.adh pa λx K y R=>?_;rw[Mw t,By]at K;obtain⟨k,hk,rfl⟩:=LU R;rw[K];exact Fq r (lb hk)
  refine Az (Ma (Mq ⟨rfl,?_⟩));refine Az (EK (by(first|lia|omega):0<b.size) ?_);have j0:DY (BR kf) a.toList b.toList (#[b[0]]:Array Au).toList 0 1:=by
    refine⟨?_,by simp,λx K y R=>?_,λx K y R=>?_⟩
    . rw[<-Mw (by(first|lia|omega):0<b.size)];simp
    .simp at K R;subst K;exact first y (by simpa using R)
    . simp only[By]at K;obtain⟨k,hk,rfl⟩:=LU R;rw[K];have:=lb (i:=0) (k:=1+k) (by(first|lia|omega));simpa using this
  by_cases e1:1=b.size;. refine Cd (by simpa using e1) ?_;exact A9 (h _ st ⟨B,rfl,rfl⟩ (X j0 (.inl e1)))
  refine Ct (by simpa using e1) ?_;by_cases e2:0+1=a.size;. refine Cd (by simpa using e2) ?_;exact A9 (h _ st ⟨B,rfl,rfl⟩ (fLast j0 e2))
  refine Ct (by simpa using e2) ?_;refine Az (Jb ?_);refine Az (Gd (F8 (I:=λx c M=>GF κ N st M/\∃D W Z g,c=(AF,D,W,Z,g)/\DY (BR kf) a.toList b.toList D.toList W Z/\W+1<a.size/\Z<b.size/\x+1<=W+Z) (Q:=λc M=>GF κ N st M/\∃r,c.1=AA r/\Ek (BR kf) a.toList b.toList r.toList) ?vh ?fin ?ali) ?post);case ali=>exact⟨⟨B,rfl,rfl⟩,_,0,1,_,rfl,j0,by(first|lia|omega),by(first|lia|omega),by(first|lia|omega)⟩
  case fin=>
    intro c M hI;refine AB λnG=>?_;obtain⟨S,D,W,Z,g,rfl,j,t,h2,h3⟩:=hI;refine nG ?_;try clear nG
    (first|lia|omega)
  case post=>
    intro c M hI;refine AB λnG=>?_;obtain⟨S,r,e,f⟩:=hI;obtain⟨c1,c2⟩:=c;obtain rfl:c1=AA r:=e;refine nG ?_;try clear nG
    exact A9 (h r M S f)
  case vh=>
    intro x c st1 _ K hI;refine AB λnG=>?_;obtain⟨S,D,W,Z,g,rfl,j,t,h2,h3⟩:=hI;refine nG ?_;try clear nG
    refine Az (Gd (F8 (I:=λy c M=>M=st1/\∃P Y L p q,c=(AF,P,Y,L,p,q)/\DY (BR kf) a.toList b.toList P.toList Y L/\Y+1<a.size/\L<b.size/\W+Z+y<=Y+L) (Q:=λc M=>M=st1/\((∃r,c.1=AA r/\Ek (BR kf) a.toList b.toList r.toList)\/∃P Y L p q,c=(AF,P,Y,L,p,q)/\DY (BR kf) a.toList b.toList P.toList Y L/\Y+1<a.size/\L<b.size/\W+Z+1<=Y+L)) ?s1 ?s2 ?s3) ?s4);case s3=>exact⟨rfl,D,W,Z,0,0,rfl,j,t,h2,Al _⟩
    case s2=>
      intro c M hI;refine AB λnG=>?_;obtain⟨rfl,P,Y,L,p,q,rfl,j',g1,d,g3⟩:=hI;refine nG ?_;try clear nG
      exact⟨rfl,.inr ⟨P,Y,L,p,q,rfl,j',g1,d,by(first|lia|omega)⟩⟩
    case s1=>
      intro y c M _ R hI;refine AB λnG=>?_;obtain⟨rfl,P,Y,L,p,q,rfl,j',g1,d,g3⟩:=hI;refine nG ?_;try clear nG
      refine Az (EK d (Az (EK (by(first|lia|omega):Y<a.size) (Az (Mx C S.sb (bm d) (am (by(first|lia|omega))) ?_)))));cases e:O.blt (kf b[L].1) (kf (a[Y]'(by(first|lia|omega))).1)with
      |true=>
        refine Cd rfl ?_;refine Az (EK d ?_);have j2:=oneB (by(first|lia|omega)) d j' (Hw e);by_cases z:L+1=b.size;. refine Cd (by simpa using z) ?_;exact A9 ⟨rfl,.inl ⟨_,rfl,X j2 (.inl z)⟩⟩
        . refine Ct (by simpa using z) ?_;split;.exact A9 ⟨rfl,.inr ⟨_,_,_,_,_,rfl,j2,g1,by dsimp only;(first|lia|omega),by dsimp only;(first|lia|omega)⟩⟩
          .exact A9 ⟨rfl,_,_,_,_,_,rfl,j2,g1,by dsimp only;(first|lia|omega),by dsimp only;(first|lia|omega)⟩|false=>
        refine Ct C4 ?_;refine Az (EK (by(first|lia|omega):Y<a.size) ?_);have j2:=oneA (by(first|lia|omega)) d j' e;by_cases z:Y+1+1=a.size;. refine Cd (by simpa using z) ?_;exact A9 ⟨rfl,.inl ⟨_,rfl,fLast j2 z⟩⟩
        . refine Ct (by simpa using z) ?_;split;.exact A9 ⟨rfl,.inr ⟨_,_,_,_,_,rfl,j2,by dsimp only;(first|lia|omega),d,by dsimp only;(first|lia|omega)⟩⟩
          .exact A9 ⟨rfl,_,_,_,_,_,rfl,j2,by dsimp only;(first|lia|omega),d,by dsimp only;(first|lia|omega)⟩
    case s4=>
      rintro c M⟨rfl,⟨r,e,f⟩|⟨P,Y,L,p,q,rfl,j',g1,d,g3⟩⟩
      . obtain⟨c1,c2⟩:=c;obtain rfl:c1=AA r:=e;exact A9 ⟨S,r,rfl,f⟩
      refine Az (Ma (Mq ⟨rfl,?_⟩));refine Az (Gd (F8 (I:=λy c st2=>GF κ N st st2/\∃o2 i2 F m2 p q,c=(AF,o2,i2,F,m2,p,q)/\DY (BR kf) a.toList b.toList o2.toList i2 F/\i2+1<a.size/\F<b.size/\W+Z+1<=i2+F) (Q:=λc st2=>GF κ N st st2/\((∃r,c.1=AA r/\Ek (BR kf) a.toList b.toList r.toList)\/∃o2 i2 F m2 p q,c=(AF,o2,i2,F,m2,p,q)/\DY (BR kf) a.toList b.toList o2.toList i2 F/\i2+1<a.size/\F<b.size/\W+Z+1<=i2+F)) ?t1 ?t2 ?t3) ?t4);case t3=>exact⟨S,P,Y,L,_,p,q,rfl,j',g1,d,g3⟩
      case t2=>rintro c st2⟨S2,r⟩;exact⟨S2,.inr r⟩
      case t4=>
        rintro c st2⟨S2,⟨r,e,f⟩|⟨o2,i2,F,m2,p,q,rfl,j2,f1,f2,f3⟩⟩
        . obtain⟨c1,c2⟩:=c;obtain rfl:c1=AA r:=e;exact A9 ⟨S2,r,rfl,f⟩
        .refine Az (HJ (A9 ⟨S2.aky _,o2,i2,F,_,rfl,j2,f1,f2,by(first|lia|omega)⟩))
      case t1=>
        intro y c st2 _ R hI;refine AB λnG=>?_;obtain⟨S2,o2,i2,F,m2,p,q,rfl,j2,f1,f2,f3⟩:=hI;refine nG ?_;try clear nG
        refine(λ(U:∀m3:Nat,(?G:Nat->Prop) m3)=>?u) ?v;case u=>
          by_cases z:m2>1
          . refine Cd z ?_;generalize m2-1=m3;exact U m3
          . refine Ct z ?_;generalize m2=m3;exact U m3
        case v=>
          intro m3;refine Az (HJ ?_);have S3:=S2.aky m3;refine Az (EK f2 ?_);refine(λ(U:∀(k i3:Nat)(o3:Array Au),DY (BR kf) a.toList b.toList o3.toList i3 F->(∀m(l:m<a.size),i3<=m->BR kf b[F] a[m])->i3+1<a.size->W+Z+1<=i3+F->(?G2:Nat->Nat->Array Au->Prop) k i3 o3)=>?u2) ?v2;case u2=>
            refine Az (LV C S3.sb (bm f2) ha (by dsimp only;(first|lia|omega)) (by dsimp only;(first|lia|omega)) (Ip pa (by dsimp only;(first|lia|omega))) λk hk bl bg=>?_);dsimp only at hk;have n:∀m,m<k->∀(l:i2+m<a.size),BR kf a[i2+m] b[F]:=λm z l=>by have:=bl m z;unfold CV at this;rw[yX C4,DD l]at this;show O.blt _ _=AQ;simpa using this
            have runB:∀m,k<=m->∀(l:i2+m<a.size),BR kf b[F] a[i2+m]:=λm z l=>by have:=bg m z (by(clear z n bg bl hk U f3 f2 R g3 d g1 h3 h2 t K e2 e1 j0 V first b1 a1;dsimp only;(first|lia|omega)));unfold CV at this;rw[yX C4,DD l]at this;exact Hw (by show O.blt _ _=AH;simpa using this)
            have j3:DY (BR kf) a.toList b.toList (o2++a.extract i2 (i2+k)).toList (i2+k) F:=by rw[Y7];refine j2.adh pa λx K y R=>?_;obtain⟨m,l,hm2,rfl⟩:=Mu K;obtain⟨m',hm',rfl⟩:=LU R;exact Fq (n m l hm2) (lb hm')
            have pre:(k>0/\i2+k+1=a.size)\/(k>0/\i2+k=a.size)\/i2+k+1<a.size:=by(clear runB n bg bl U f3 f2 R g3 d g1 h3 h2 t K e2 e1 j0 V first b1 a1;(first|lia|omega))
            rcases pre with⟨zk,o⟩|⟨zk,o⟩|o
            . refine Cd zk (Cd (by simpa using o) ?_);exact A9 ⟨S3,.inl ⟨_,rfl,fLast j3 o⟩⟩
            . refine Cd zk (Ct (by simp;(first|lia|omega)) (Cd (by simpa using o) ?_));exact A9 ⟨S3,.inl ⟨_,rfl,X j3 (.inr o)⟩⟩
            have hB3:∀m(l:m<a.size),i2+k<=m->BR kf b[F] a[m]:=λm l z=>by have:=runB (m-i2) (by(clear l o runB n bg bl hk U f3 f2 f1 R g3 d g1 h3 h2 t K e2 e1 j0 V first b1 a1;(first|lia|omega))) (by(clear o runB n bg bl hk U f3 f2 f1 R g3 d g1 h3 h2 t K e2 e1 j0 V first b1 a1;(first|lia|omega)));simpa[show i2+(m-i2)=m by(clear this l o runB n bg bl hk U f3 f2 f1 R g3 d g1 h3 h2 t K e2 e1 j0 V first b1 a1;(first|lia|omega))]using this
            by_cases zk:k>0
            . refine Cd zk (Ct (by simp;(first|lia|omega)) (Ct (by simp;(first|lia|omega)) ?_));generalize o2++a.extract i2 (i2+k)=o3 at j3⊢;have f3':W+Z+1<=(i2+k)+F:=by(first|lia|omega)
              generalize i2+k=i3 at j3 hB3 o f3'⊢;exact U k i3 o3 j3 hB3 o f3'
            . refine Ct zk ?_;have zk0:k=0:=by(clear hB3 o runB n bg bl hk U f3 f2 f1 R g3 d g1 h3 h2 t K e2 e1 j0 V first b1 a1;(first|lia|omega))
              have eo:o2++a.extract i2 (i2+k)=o2:=by rw[zk0];simp;(first|lia|omega)
              rw[eo,zk0,R4]at j3;rw[zk0,R4]at hB3 o;exact U k i2 o2 j3 hB3 o f3
          case v2=>
            intro k i3 o3 j3 hB3 o f3';have hi3:i3<a.size:=by(first|lia|omega)
            refine Az (EK f2 ?_);have j4:=oneB (by(first|lia|omega)) f2 j3 (hB3 i3 (by(first|lia|omega)) (Al _));by_cases z3:F+1=b.size;. refine Cd (by simpa using z3) ?_;exact A9 ⟨S3,.inl ⟨_,rfl,X j4 (.inl z3)⟩⟩
            refine Ct (by simpa using z3) ?_;refine Az (EK (by(first|lia|omega):i3<a.size) ?_);refine(λ(U:∀(k' k5:Nat)(o5:Array Au),DY (BR kf) a.toList b.toList o5.toList i3 k5->(∀m(l:m<b.size),k5<=m->BR kf (a[i3]'hi3) b[m])->k5<b.size->W+Z+1<=i3+k5->(?G3:Nat->Nat->Array Au->Prop) k' k5 o5)=>?u3) ?v3;case u3=>
              refine Az (LV C S3.sb (am (by(first|lia|omega))) hb (by dsimp only;(first|lia|omega)) (by(clear U hi3 f3' o f3 f1 R g3 d g1 h3 h2 t K e2 e1 j0 V first b1 a1;dsimp only;(first|lia|omega))) (Ip pb (by dsimp only;(first|lia|omega))) λk' hk' bl' bg'=>?_);dsimp only at hk';have T:∀m,m<k'->∀(l:F+1+m<b.size),BR kf b[F+1+m] (a[i3]'(by(first|lia|omega))):=λm z l=>by have:=bl' m z;unfold CV at this;rw[yY rfl,DD l]at this;exact Hw this
              have H:∀m(l:m<b.size),F+1+k'<=m->BR kf (a[i3]'(by(first|lia|omega))) b[m]:=λm l z=>by
                have:=bg' (m-(F+1)) (by(clear l T bg' bl' hk' U z3 j4 hi3 f3' o hB3 f3 f2 f1 R g3 d g1 h3 h2 t K e2 e1 j0 V first b1 a1;(first|lia|omega))) (by(clear T bg' bl' hk' U z3 hi3 f3' o f3 f1 R g3 d g1 h3 h2 t K e2 e1 j0 V first b1 a1;dsimp only;(first|lia|omega)));unfold CV at this;rw[yY rfl]at this;have e:F+1+(m-(F+1))=m:=by(clear this l T bg' bl' hk' U z3 j4 hi3 f3' o hB3 f3 f2 f1 R g3 d g1 h3 h2 t K e2 e1 j0 V first b1 a1;(first|lia|omega))
                rw[e,DD l]at this;exact this
              have j5:DY (BR kf) a.toList b.toList (o3.push b[F]++b.extract (F+1) (F+1+k')).toList i3 (F+1+k'):=by rw[Y7];refine j4.aey pb λx K y R=>?_;obtain⟨m,l,hm2,rfl⟩:=Mu K;obtain⟨m',hm',rfl⟩:=LU R;exact Fq (T m l hm2) (la hm')
              have pre:(k'>0/\F+1+k'=b.size)\/F+1+k'<b.size:=by(clear H T bg' bl' U hi3 f3' o f3 f1 R g3 d g1 h3 h2 t K e2 e1 j0 V first b1 a1;(first|lia|omega))
              rcases pre with⟨zk',z4⟩|z4;. refine Cd zk' (Cd (by simpa using z4) ?_);exact A9 ⟨S3,.inl ⟨_,rfl,X j5 (.inl z4)⟩⟩
              have f4':W+Z+1<=i3+(F+1+k'):=by(first|lia|omega)
              by_cases zk':k'>0
              . refine Cd zk' (Ct (by simp;(first|lia|omega)) ?_);generalize o3.push b[F]++b.extract (F+1) (F+1+k')=o5 at j5⊢;generalize F+1+k'=k5 at j5 H z4 f4'⊢;exact U k' k5 o5 j5 H z4 f4'
              . refine Ct zk' ?_;have zk0:k'=0:=by((first|lia|omega))
                have eo:o3.push b[F]++b.extract (F+1) (F+1+k')=o3.push b[F]:=by rw[zk0];simp;(clear zk0 zk' f4' z4 H T bg' bl' hk' U z3 hi3 f3' o f3 f1 R g3 d g1 h3 h2 t K e2 e1 j0 V first b1 a1;(first|lia|omega))
                rw[eo,zk0,R4]at j5;rw[zk0,R4]at H z4 f4';exact U k' _ _ j5 H z4 f4'
            case v3=>
              intro k' k5 o5 j5 H z4 f4';refine Az (EK (by(first|lia|omega):i3<a.size) ?_);have j6:=oneA (by(first|lia|omega)) z4 j5 (H k5 z4 (Al _));by_cases z5:i3+1+1=a.size
              . refine Cd (by simpa using z5) ?_;exact A9 ⟨S3,.inl ⟨_,rfl,fLast j6 z5⟩⟩
              refine Ct (by simpa using z5) ?_;by_cases z6:(Ae (k<7)&&Ae (k'<7))=AH;. refine Cd z6 ?_;exact A9 ⟨S3,.inr ⟨_,_,_,_,_,_,rfl,j6,by(first|lia|omega),z4,by(first|lia|omega)⟩⟩
              . refine Ct z6 ?_;exact A9 ⟨S3,_,_,_,_,_,_,rfl,j6,by(first|lia|omega),z4,by(first|lia|omega)⟩
theorem Mt(a:Array Au)(h:n<=a.size):a.toList.reverse.drop (a.size-n)=(a.toList.take n).reverse:=by rw[List.drop_reverse];grind
theorem IE{a:Array Au}(h:n<=a.size)(J:x∈a.toList.reverse.drop (a.size-n)):∃m,∃(F:m<a.size),m<n/\x=a[m]:=by
 refine AB λD=>?_;obtain⟨m,F,e⟩:=F7.mp J;refine D ?_;try clear D
 grind
theorem M3(a:Array Au)(h:n<=a.size)(D:t<=n):(a.toList.reverse.drop (a.size-n)).take (n-t)=(a.extract t n).toList.reverse:=by rw[Mt a h,List.take_reverse];simp;rw[List.drop_take];grind
theorem Mv(a:Array Au)(h:n<=a.size)(D:1<=n):(a.toList.reverse.drop (a.size-n)).take 1=[a[n-1]]:=by have e:=M3 a h (show n-1<=n by(first|lia|omega));rw[show n-(n-1)=1 by(first|lia|omega)]at e;rw[e];have:=Mw (a:=a) (i:=n-1) (by(first|lia|omega));simp;grind
theorem Yu{D F l:List Au}(h:Ek (λp q=>R q p) D.reverse F.reverse l.reverse):Ek R D F l:=by refine⟨(List.reverse_perm l).symm.trans (h.1.trans (by grind)),?_⟩;exact oH.mp h.2
noncomputable abbrev Fc{O:R7}(kf:AK->O.α)(a b D:Array Au)(F U:Nat):Prop:=DY (λp q=>BR kf q p) a.toList.reverse b.toList.reverse D.toList (a.size-F) (b.size-U)
theorem rB{R:Array Au}{st:CF}(C:E5 prog w A s κ O kf R)(B:CI κ R st){a b:Array Au}(ha:∀p∈a.toList,p∈R.toList)(hb:∀p∈b.toList,p∈R.toList)(l:1<=a.size)(b1:1<=b.size)(pa:a.toList.Pairwise (BR kf))(pb:b.toList.Pairwise (BR kf))(first:∀p∈a.toList,BR kf b[0] p)(last:∀p∈b.toList,BR kf p a[a.size-1])(h:∀m P,GF κ R st P->Ek (BR kf) a.toList b.toList m.toList->Q m P):D3 (Ao prog w) A E s (qX a b) Q st:=by
  have pa':a.toList.reverse.Pairwise (λp q=>BR kf q p):=oH.mpr pa;have pb':b.toList.reverse.Pairwise (λp q=>BR kf q p):=oH.mpr pb;have fDone:∀{U:Array Au}{Y W:Nat},Y<=a.size->W<=b.size->Fc kf a b U Y W->(Y=0\/W=0)->Ek (BR kf) a.toList b.toList (a.extract 0 Y++b.extract 0 W++U.reverse).toList:=λ{U Y W}q1 q2 j e=>by
    refine Yu ?_;have el:(a.extract 0 Y++b.extract 0 W++U.reverse).toList.reverse=U.toList++b.toList.reverse.drop (b.size-W)++a.toList.reverse.drop (a.size-Y):=by rw[Mt a q1,Mt b q2];simp[Rt]
    rw[el];refine(j.abo.ahx pb' pa' λx d y o=>?_).abo;obtain⟨m,hm,z,rfl⟩:=IE q2 d;obtain⟨m',hm',z',rfl⟩:=IE q1 o;(first|lia|omega)
  have n:∀{U:Array Au}{Y W:Nat},Y<=a.size->W<=b.size->Fc kf a b U Y W->W=1->Ek (BR kf) a.toList b.toList (b.extract 0 W++a.extract 0 Y++U.reverse).toList:=λ{U Y W}q1 q2 j e=>by
    refine Yu ?_;have el:(b.extract 0 W++a.extract 0 Y++U.reverse).toList.reverse=U.toList++a.toList.reverse.drop (a.size-Y)++b.toList.reverse.drop (b.size-W):=by rw[Mt a q1,Mt b q2];simp[Rt]
    rw[el];refine j.ahx pa' pb' λx d y o=>?_;obtain⟨m,hm,z,rfl⟩:=IE q1 d;obtain⟨m',hm',z',rfl⟩:=IE q2 o;have:m'=0:=by(first|lia|omega)
    subst this;exact first _ (by simp)
  have am:∀{i:Nat}(hi:i<a.size),a[i]∈R.toList:=λhi=>ha _ (by simp);have bm:∀{i:Nat}(hi:i<b.size),b[i]∈R.toList:=λhi=>hb _ (by simp);have la:∀{i k:Nat}(hk:k<a.size)(h:i<=k),BR kf (a[i]'(by(first|lia|omega))) a[k]:=λ{i k}hk h=>by have:=Ip pa (lo:=0) (Al _) i k (by(first|lia|omega)) (by(first|lia|omega)) hk;rw[DD (by(first|lia|omega):i<a.size),DD hk]at this;exact this
  have lb:∀{i k:Nat}(hk:k<b.size)(h:i<=k),BR kf (b[i]'(by(first|lia|omega))) b[k]:=λ{i k}hk h=>by have:=Ip pb (lo:=0) (Al _) i k (by(first|lia|omega)) (by(first|lia|omega)) hk;rw[DD (by(first|lia|omega):i<b.size),DD hk]at this;exact this
  have oneA:∀{U:Array Au}{Y W:Nat}(h1:1<=Y)(h2:Y<=a.size)(h3:1<=W)(h4:W<=b.size),Fc kf a b U Y W->BR kf b[W-1] a[Y-1]->Fc kf a b (U.push a[Y-1]) (Y-1) W:=λ{U Y W}h1 h2 h3 h4 j r=>by
    have e:(U.push a[Y-1]).toList=U.toList++(a.toList.reverse.drop (a.size-Y)).take 1:=by rw[Mv a h2 h1];simp
    show DY _ _ _ (U.push a[Y-1]).toList _ _;rw[e,show a.size-(Y-1)=a.size-Y+1 by(clear r h4 h3 last first b1 l;(first|lia|omega))];refine j.adh pa' λx d y o=>?_;rw[Mv a h2 h1,By]at d;obtain⟨m,hm,z,rfl⟩:=IE h4 o;rw[d];exact Fq (lb (by(first|lia|omega)) (by(first|lia|omega):m<=W-1)) r
  have oneB:∀{U:Array Au}{Y W:Nat}(h1:1<=Y)(h2:Y<=a.size)(h3:1<=W)(h4:W<=b.size),Fc kf a b U Y W->BR kf a[Y-1] b[W-1]->Fc kf a b (U.push b[W-1]) Y (W-1):=λ{U Y W}h1 h2 h3 h4 j r=>by
    have e:(U.push b[W-1]).toList=U.toList++(b.toList.reverse.drop (b.size-W)).take 1:=by rw[Mv b h4 h3];simp
    show DY _ _ _ (U.push b[W-1]).toList _ _;rw[e,show b.size-(W-1)=b.size-W+1 by(clear r h2 h1 last first b1 l;(first|lia|omega))];refine j.aey pb' λx d y o=>?_;rw[Mv b h4 h3,By]at d;obtain⟨m,hm,z,rfl⟩:=IE h2 o;rw[d];exact Fq (la (by(first|lia|omega)) (by(first|lia|omega):m<=Y-1)) r
  refine Az (Ma (Mq ⟨rfl,?_⟩));refine Az (EK (by(first|lia|omega):a.size-1<a.size) ?_);have j0:Fc kf a b (#[a[a.size-1]]:Array Au) (a.size-1) b.size:=by
    refine⟨?_,by simp,λx d y o=>?_,λx d y o=>?_⟩
    . have:=Mv a (Al _) l;rw[X9,List.drop_zero]at this;rw[show a.size-(a.size-1)=1 by(first|lia|omega),this];simp
    . simp only[By]at d;obtain⟨m,hm,z,rfl⟩:=IE (by(first|lia|omega)) o;rw[d];exact la (by(first|lia|omega)) (by(first|lia|omega))
    . simp only[By]at d;obtain⟨m,hm,z,rfl⟩:=IE (Al _) o;rw[d];exact last _ (by simp)
  by_cases e1:a.size-1=0
  . refine Cd (by simpa using e1) ?_;exact A9 (h _ st ⟨B,rfl,rfl⟩ (fDone (by(first|lia|omega)) (Al _) j0 (.inl e1)))
  refine Ct (by simpa using e1) ?_;by_cases e2:b.size=1;. refine Cd (by simpa using e2) ?_;exact A9 (h _ st ⟨B,rfl,rfl⟩ (n (by(first|lia|omega)) (Al _) j0 e2))
  refine Ct (by simpa using e2) ?_;refine Az (Jb ?_);refine Az (Gd (F8 (I:=λx c P=>GF κ R st P/\∃Y W U g,c=(AF,Y,W,U,g)/\Fc kf a b U Y W/\1<=Y/\Y<=a.size/\2<=W/\W<=b.size/\x+1+Y+W<=a.size+b.size) (Q:=λc P=>GF κ R st P/\∃r,c.1=AA r/\Ek (BR kf) a.toList b.toList r.toList) ?vh ?fin ?ali) ?post);case ali=>exact⟨⟨B,rfl,rfl⟩,_,_,_,_,rfl,j0,by(first|lia|omega),by(first|lia|omega),by(first|lia|omega),by(first|lia|omega),by(first|lia|omega)⟩
  case fin=>
    intro c P hI;refine AB λnG=>?_;obtain⟨S,Y,W,U,g,rfl,j,h1,h2,h3,h4,h5⟩:=hI;refine nG ?_;try clear nG
    (first|lia|omega)
  case post=>
    intro c P hI;refine AB λnG=>?_;obtain⟨S,r,e,f⟩:=hI;obtain⟨c1,c2⟩:=c;obtain rfl:c1=AA r:=e;refine nG ?_;try clear nG
    exact A9 (h r P S f)
  case vh=>
    intro x c st1 hx0 d hI;refine AB λnG=>?_;obtain⟨S,Y,W,U,g,rfl,j,h1,h2,h3,h4,h5⟩:=hI;refine nG ?_;try clear nG
    refine Az (Gd (F8 (I:=λy c P=>P=st1/\∃L M T p q,c=(AF,L,M,T,p,q)/\Fc kf a b T L M/\1<=L/\L<=a.size/\2<=M/\M<=b.size/\L+M+y<=Y+W) (Q:=λc P=>P=st1/\((∃r,c.1=AA r/\Ek (BR kf) a.toList b.toList r.toList)\/∃L M T p q,c=(AF,L,M,T,p,q)/\Fc kf a b T L M/\1<=L/\L<=a.size/\2<=M/\M<=b.size/\L+M+1<=Y+W)) ?s1 ?s2 ?s3) ?s4);case s3=>exact⟨rfl,Y,W,U,0,0,rfl,j,h1,h2,h3,h4,Al _⟩
    case s2=>
      intro c P hI;refine AB λnG=>?_;obtain⟨rfl,L,M,T,p,q,rfl,j',g1,g2,g3,g4,g5⟩:=hI;refine nG ?_;try clear nG
      exact⟨rfl,.inr ⟨L,M,T,p,q,rfl,j',g1,g2,g3,g4,by(first|lia|omega)⟩⟩
    case s1=>
      intro y c P hy0 o hI;refine AB λnG=>?_;obtain⟨rfl,L,M,T,p,q,rfl,j',g1,g2,g3,g4,g5⟩:=hI;refine nG ?_;try clear nG
      clear hy0 h1 h2 h3 h4 h5 d hx0 e1 e2 j0 j first last;refine Az (EK (by(first|lia|omega):M-1<b.size) (Az (EK (by(first|lia|omega):L-1<a.size) (Az (Mx C S.sb (bm (by(first|lia|omega))) (am (by(first|lia|omega))) ?_)))));cases e:O.blt (kf (b[M-1]'(by(first|lia|omega))).1) (kf (a[L-1]'(by(first|lia|omega))).1)with
      |true=>
        refine Cd rfl ?_;refine Az (EK (by(first|lia|omega):L-1<a.size) ?_);have j2:=oneA g1 g2 (by(first|lia|omega)) g4 j' (Hw e);by_cases z:L-1=0;. refine Cd (by simpa using z) ?_;exact A9 ⟨rfl,.inl ⟨_,rfl,fDone (by dsimp only;(first|lia|omega)) g4 j2 (.inl z)⟩⟩
        . refine Ct (by simpa using z) ?_;split;.exact A9 ⟨rfl,.inr ⟨_,_,_,_,_,rfl,j2,by dsimp only;(first|lia|omega),by dsimp only;(first|lia|omega),g3,g4,by dsimp only;(first|lia|omega)⟩⟩
          .exact A9 ⟨rfl,_,_,_,_,_,rfl,j2,by dsimp only;(first|lia|omega),by dsimp only;(first|lia|omega),g3,g4,by dsimp only;(first|lia|omega)⟩|false=>
        refine Ct C4 ?_;refine Az (EK (by(first|lia|omega):M-1<b.size) ?_);have j2:=oneB g1 g2 (by(first|lia|omega)) g4 j' e;by_cases z:M-1=1;. refine Cd (by simpa using z) ?_;exact A9 ⟨rfl,.inl ⟨_,rfl,n g2 (by dsimp only;(first|lia|omega)) j2 z⟩⟩
        . refine Ct (by simpa using z) ?_;split;.exact A9 ⟨rfl,.inr ⟨_,_,_,_,_,rfl,j2,g1,g2,by(clear j2 e g5 g4 g2 g1 o b1 l;dsimp only;(first|lia|omega)),by dsimp only;(first|lia|omega),by dsimp only;(first|lia|omega)⟩⟩
          .exact A9 ⟨rfl,_,_,_,_,_,rfl,j2,g1,g2,by(clear j2 e g5 g4 g2 g1 o b1 l;dsimp only;(first|lia|omega)),by dsimp only;(first|lia|omega),by dsimp only;(first|lia|omega)⟩
    case s4=>
      rintro c P⟨rfl,⟨r,e,f⟩|⟨L,M,T,p,q,rfl,j',g1,g2,g3,g4,g5⟩⟩
      . obtain⟨c1,c2⟩:=c;obtain rfl:c1=AA r:=e;exact A9 ⟨S,r,rfl,f⟩
      refine Az (Ma (Mq ⟨rfl,?_⟩));refine Az (Gd (F8 (I:=λy c st2=>GF κ R st st2/\∃i2 Z o2 m2 p q,c=(AF,i2,Z,o2,m2,p,q)/\Fc kf a b o2 i2 Z/\1<=i2/\i2<=a.size/\2<=Z/\Z<=b.size/\i2+Z+1<=Y+W) (Q:=λc st2=>GF κ R st st2/\((∃r,c.1=AA r/\Ek (BR kf) a.toList b.toList r.toList)\/∃i2 Z o2 m2 p q,c=(AF,i2,Z,o2,m2,p,q)/\Fc kf a b o2 i2 Z/\1<=i2/\i2<=a.size/\2<=Z/\Z<=b.size/\i2+Z+1<=Y+W)) ?t1 ?t2 ?t3) ?t4);case t3=>exact⟨S,L,M,T,_,p,q,rfl,j',g1,g2,g3,g4,g5⟩
      case t2=> rintro c st2⟨S2,r⟩;exact⟨S2,.inr r⟩
      case t4=>
        rintro c st2⟨S2,⟨r,e,f⟩|⟨i2,Z,o2,m2,p,q,rfl,j2,f1,f2,f3,f4,f5⟩⟩;. obtain⟨c1,c2⟩:=c;obtain rfl:c1=AA r:=e;exact A9 ⟨S2,r,rfl,f⟩
        .refine Az (HJ (A9 ⟨S2.aky _,i2,Z,o2,_,rfl,j2,f1,f2,f3,f4,by(first|lia|omega)⟩))
      case t1=>
        intro y c st2 hy0 o hI;refine AB λnG=>?_;obtain⟨S2,i2,Z,o2,m2,p,q,rfl,j2,f1,f2,f3,f4,f5⟩:=hI;refine nG ?_;try clear nG
        clear hy0 o j' g1 g2 g3 g4 g5 j h1 h2 h3 h4 h5 d hx0 e1 e2 j0 S first last;refine(λ(H:∀m3:Nat,(?G:Nat->Prop) m3)=>?u) ?v;case u=>
          by_cases z:m2>1
          . refine Cd z ?_;generalize m2-1=m3;exact H m3
          . refine Ct z ?_;generalize m2=m3;exact H m3
        case v=>
          intro m3;refine Az (HJ ?_);have S3:=S2.aky m3;have V:Z-1<b.size:=by(first|lia|omega)
          refine Az (EK V ?_);refine(λ(H:∀(c i3:Nat)(o3:Array Au),Fc kf a b o3 i3 Z->(∀m(hm:m<a.size),m<i3->BR kf a[m] (b[Z-1]'V))->1<=i3->i3<=a.size->i3+Z+1<=Y+W->(?G2:Nat->Nat->Array Au->Prop) c i3 o3)=>?u2) ?v2;case u2=>
            refine Az (LV C S3.sb (bm V) ha (by dsimp only;(first|lia|omega)) (by dsimp only;(first|lia|omega)) (Ip pa (by dsimp only;(first|lia|omega))) λt ht bl bg=>?_);dsimp only at ht;have F:∀m(hm:m<a.size),m<t->BR kf a[m] (b[Z-1]'V):=λm hm z=>by have:=bl m z;unfold CV at this;rw[yX C4,DD (by(first|lia|omega):0+m<a.size)]at this;show O.blt _ _=AQ;simpa using this
            have runB:∀m(hm:m<a.size),t<=m->m<i2->BR kf (b[Z-1]'V) a[m]:=λm hm z z'=>by have:=bg m z z';unfold CV at this;rw[yX C4,DD (by(first|lia|omega):0+m<a.size)]at this;exact Hw (by show O.blt _ _=AH;simpa using this)
            have j3:Fc kf a b (o2++(a.extract t i2).reverse) t Z:=by
              have e:(o2++(a.extract t i2).reverse).toList=o2.toList++(a.toList.reverse.drop (a.size-i2)).take (i2-t):=by rw[M3 a f2 ht];simp
              show DY _ _ _ (o2++(a.extract t i2).reverse).toList _ _;rw[e,show a.size-t=a.size-i2+(i2-t)by(clear runB F bg bl H V f5 f4 f3 f1 b1 l;(first|lia|omega))];refine j2.adh pa' λx d y o=>?_;rw[M3 a f2 ht,sT]at d;simp only[ZC,Rt]at d;obtain⟨m,hm,hm2,rfl⟩:=Mu d;obtain⟨m',hm',z,rfl⟩:=IE f4 o;exact Fq (lb (by(first|lia|omega)) (by(clear o hm' d hm2 hm runB F bg bl H V f5 f4 f2 f1 b1 l;(first|lia|omega)):m'<=Z-1)) (runB _ hm2 (by(first|lia|omega)) (by(clear o z hm' d hm2 runB F bg bl H V f5 f4 f3 f2 f1 b1 l;(first|lia|omega))))
            have pre:(i2-t>0/\t=0)\/1<=t:=by(clear runB F bg bl H V f5 f4 f3 f2 b1 l;(first|lia|omega))
            rcases pre with⟨zk,z1⟩|z1;. refine Cd zk (Cd (by simpa using z1) ?_);exact A9 ⟨S3,.inl ⟨_,rfl,fDone (by(first|lia|omega)) f4 j3 (.inl z1)⟩⟩
            have t2:t<=a.size:=by(first|lia|omega)
            have N:t+Z+1<=Y+W:=by(first|lia|omega)
            by_cases zk:i2-t>0
            . refine Cd zk (Ct (by simp;(first|lia|omega)) ?_);generalize i2-t=c;generalize o2++(a.extract t i2).reverse=o3 at j3⊢;clear bl bg ht runB zk;generalize t=i3 at j3 F z1 t2 N⊢;exact H c i3 o3 j3 F z1 t2 N
            . refine Ct zk ?_;have zk0:t=i2:=by(clear N t2 z1 runB F bg bl H V f5 f4 f3 f2 f1 b1 l;(first|lia|omega))
              have eo:o2++(a.extract t i2).reverse=o2:=by rw[zk0];simp;(first|lia|omega)
              rw[eo,zk0]at j3;rw[zk0]at F z1 t2 N;generalize i2-t=c;exact H c i2 o2 j3 F z1 t2 N
          case v2=>
            intro c i3 o3 j3 F z1 t2 N;have X:i3-1<a.size:=by(first|lia|omega)
            refine Az (EK V ?_);have j4:=oneB z1 t2 (by(first|lia|omega)) f4 j3 (F _ (by(first|lia|omega)) (by(first|lia|omega)));by_cases z3:Z-1=1
            . refine Cd (by simpa using z3) ?_;exact A9 ⟨S3,.inl ⟨_,rfl,n t2 (by dsimp only;(first|lia|omega)) j4 z3⟩⟩
            refine Ct (by simpa using z3) ?_;refine Az (EK (by(first|lia|omega):i3-1<a.size) ?_);refine(λ(H:∀(c' k5:Nat)(o5:Array Au),Fc kf a b o5 i3 k5->(∀m(hm:m<b.size),m<k5->BR kf b[m] (a[i3-1]'X))->2<=k5->k5<=b.size->i3+k5+1<=Y+W->(?G3:Nat->Nat->Array Au->Prop) c' k5 o5)=>?u3) ?v3;case u3=>
              refine Az (LV C S3.sb (am (by(first|lia|omega))) hb (by dsimp only;(first|lia|omega)) (by(clear H j4 X N t2 F V f5 f4 f2 f1 b1 l;dsimp only;(first|lia|omega))) (Ip pb (by dsimp only;(first|lia|omega))) λt' ht' bl' bg'=>?_);dsimp only at ht';have D:∀m(hm:m<b.size),m<t'->BR kf b[m] (a[i3-1]'(by(first|lia|omega))):=λm hm z=>by have:=bl' m z;unfold CV at this;rw[yY rfl,DD (by(first|lia|omega):0+m<b.size)]at this;exact Hw (by show O.blt _ _=AH;simpa using this)
              have K:∀m(hm:m<b.size),t'<=m->m<Z-1->BR kf (a[i3-1]'(by(first|lia|omega))) b[m]:=λm hm z z'=>by have:=bg' m z z';unfold CV at this;rw[yY rfl,DD (by(first|lia|omega):0+m<b.size)]at this;show O.blt _ _=AQ;simpa using this
              have j5:Fc kf a b (o3.push (b[Z-1]'V)++(b.extract t' (Z-1)).reverse) i3 t':=by
                have e:(o3.push (b[Z-1]'V)++(b.extract t' (Z-1)).reverse).toList=(o3.push (b[Z-1]'V)).toList++(b.toList.reverse.drop (b.size-(Z-1))).take (Z-1-t'):=by rw[M3 b (by(first|lia|omega)) ht'];simp
                show DY _ _ _ (o3.push (b[Z-1]'V)++(b.extract t' (Z-1)).reverse).toList _ _;rw[e,show b.size-t'=b.size-(Z-1)+(Z-1-t')by(clear K D bg' bl' H X N t2 f5 f2 f1 b1 l;(first|lia|omega))];refine j4.aey pb' λx d y o=>?_;rw[M3 b (by(first|lia|omega)) ht',sT]at d;simp only[ZC,Rt]at d;obtain⟨m,hm,hm2,rfl⟩:=Mu d;obtain⟨m',hm',z,rfl⟩:=IE t2 o;exact Fq (la (by(first|lia|omega)) (by(clear o hm' d hm2 e K D bg' bl' ht' H j4 X N t2 F V f5 f4 f3 f2 f1 b1 l;(first|lia|omega)):m'<=i3-1)) (K _ hm2 (by(first|lia|omega)) (by(clear o z hm' d hm2 e K D bg' bl' H j4 X N t2 F V f5 f4 f2 f1 b1 l;(first|lia|omega))))
              have pre:(Z-1-t'>0/\t'=1)\/(Z-1-t'>0/\t'=0)\/2<=t':=by(clear j5 K D bg' bl' H j4 X N t2 F V f5 f4 f2 f1 b1 l;(first|lia|omega))
              rcases pre with⟨zk',z4⟩|⟨zk',z4⟩|z4;. refine Cd zk' (Cd (by simpa using z4) ?_);exact A9 ⟨S3,.inl ⟨_,rfl,n t2 (by(clear zk' K D bg' bl' H z3 j4 X N t2 z1 f5 f4 f3 f2 f1 b1 l;(first|lia|omega))) j5 z4⟩⟩
              . refine Cd zk' (Ct (by simp;(first|lia|omega)) (Cd (by simpa using z4) ?_));exact A9 ⟨S3,.inl ⟨_,rfl,fDone t2 (by(clear zk' K D bg' bl' H z3 j4 X N t2 z1 f5 f4 f3 f2 f1 b1 l;(first|lia|omega))) j5 (.inr z4)⟩⟩
              have t4:t'<=b.size:=by(first|lia|omega)
              have f6':i3+t'+1<=Y+W:=by(clear t4 j5 K D bg' bl' H j4 X t2 F V f5 f4 f2 f1 b1 l;(first|lia|omega))
              by_cases zk':Z-1-t'>0
              . refine Cd zk' (Ct (by simp;(first|lia|omega)) (Ct (by simp;(first|lia|omega)) ?_));generalize Z-1-t'=c';generalize o3.push (b[Z-1]'V)++(b.extract t' (Z-1)).reverse=o5 at j5⊢;clear bl' bg' ht' K zk';generalize t'=k5 at j5 D z4 t4 f6'⊢;exact H c' k5 o5 j5 D z4 t4 f6'
              . refine Ct zk' ?_;have zk0:t'=Z-1:=by(clear f6' t4 j5 K D bg' bl' H j4 X N t2 F V f5 f4 f2 f1 b1 l;(first|lia|omega))
                have eo:o3.push (b[Z-1]'V)++(b.extract t' (Z-1)).reverse=o3.push (b[Z-1]'V):=by rw[zk0];simp;(clear zk' f6' t4 z4 K D bg' bl' ht' H z3 j4 X N t2 z1 f5 f4 f3 f2 f1 b1 l;(first|lia|omega))
                rw[eo,zk0]at j5;rw[zk0]at D z4 t4 f6';generalize Z-1-t'=c';exact H c' _ _ j5 D z4 t4 f6'
            case v3=>
              intro c' k5 o5 j5 D z4 t4 f6';refine Az (EK (by(first|lia|omega):i3-1<a.size) ?_);have j6:=oneA z1 t2 (by(first|lia|omega)) t4 j5 (D _ (by(clear f6' D z3 j4 X N t2 z1 F V f5 f4 f3 f2 f1 b1 l;(first|lia|omega))) (by(clear f6' t4 D z3 j4 X N t2 z1 F V f5 f4 f3 f2 f1 b1 l;(first|lia|omega))));by_cases z5:i3-1=0
              . refine Cd (by simpa using z5) ?_;exact A9 ⟨S3,.inl ⟨_,rfl,fDone (by(first|lia|omega)) t4 j6 (.inl z5)⟩⟩
              refine Ct (by simpa using z5) ?_;split;.exact A9 ⟨S3,.inr ⟨_,_,_,_,_,_,rfl,j6,by(first|lia|omega),by(first|lia|omega),z4,t4,by(clear j6 t4 z4 D j4 X N t2 F V f5 f4 f3 f2 f1 b1 l;(first|lia|omega))⟩⟩
              .exact A9 ⟨S3,_,_,_,_,_,_,rfl,j6,by(first|lia|omega),by(first|lia|omega),z4,t4,by(clear j6 t4 z4 D j4 X N t2 F V f5 f4 f3 f2 f1 b1 l;(first|lia|omega))⟩
theorem Yv(p:Nat):∀(M:List Au)(n:Nat)(xs:Array Au),p+n+M.length<=xs.size->((M.zipIdx n).foldl (λa x=>a.setIfInBounds (p+x.2) x.1) xs).toList=xs.toList.take (p+n)++M++xs.toList.drop (p+n+M.length)
 |[],n,xs,h=>by simp|m::r,n,xs,h=>by
  rw[F6]at h;rw[List.zipIdx_cons,n8,Yv p r _ _ (by simp;(first|lia|omega))];have D:p+n<xs.toList.length:=by simp;(first|lia|omega)
  simp only[rJ];rw[List.drop_set_of_lt (by(first|lia|omega)),show p+(n+1)=p+n+1 by(first|lia|omega),Ds,List.take_set_of_le (by(first|lia|omega)),F6];grind
theorem Yy{O:R7}{kf:AK->O.α}{xs:Array Au}{lo hi:Nat}(h:hi<=xs.size)(u:Cz kf xs lo hi):(xs.extract lo hi).toList.Pairwise (BR kf):=by
 rw[E3];intro i j D J F;have e:∀k(V:k<(xs.extract lo hi).toList.length),(xs.extract lo hi).toList[k]=xs[lo+k]'(by grind):=(by grind);rw[e i _,e j J];have U:j<hi-lo:=by grind
 have:=u (lo+i) (lo+j) (by(first|lia|omega)) (by(first|lia|omega)) (by grind);rw[DD _,DD _]at this;exact this
theorem Yx{xs:Array Au}{lo:Nat}(h:hi<=xs.size)(D:p∈(xs.extract lo hi).toList):∃m,lo<=m/\m<hi/\∃(J:m<xs.size),p=xs[m]:=by
 simp at D;refine AB λF=>?_;obtain⟨m,J,U,rfl⟩:=Mu D;refine F ?_;try clear F
 grind
theorem qV(xs:Array Au)(J:i<=j)(U:j<=k)(V:k<=xs.size):xs.toList=xs.toList.take i++((xs.extract i j).toList++(xs.extract j k).toList)++xs.toList.drop k:=by
 simp only[ZC,Rt];have D:OT (k-i) (xs.toList.drop i)=OT (j-i) (xs.toList.drop i)++OT (k-j) (xs.toList.drop j):=by rw[show k-i=(j-i)+(k-j)by(first|lia|omega),sW,nT,show i+(j-i)=j by(first|lia|omega)]
 have F:xs.toList.drop i=OT (k-i) (xs.toList.drop i)++xs.toList.drop k:=by conv=>lhs;rw[<-OU _ (xs.toList.drop i),nT,show i+(k-i)=k by(first|lia|omega)]
 rw[<-D,Ei,<-F,OU]
theorem rD{A:Cy}{E:AK->AY->Prop}{s:AY}{M:LG}{D:Type}{t u:D}{Q:PUnit->D->Prop}(h:Q ⟨⟩ t):D3 M A E s (set t:StateT D DH PUnit) Q u:=by exact Cg ⟨rfl,h⟩
theorem rA{a₀:Array Au}{st:CF}(C:E5 prog w A s κ O kf a₀)(B:CI κ a₀ st)(p1:(Bf st)[i]?=AA (G,H,pw))(p2:(Bf st)[i+1]?=AA (G+H,nb,pw'))(g:1<=H)(K:1<=nb)(P:G+H+nb<=a₀.size)(ua:Cz kf (Ah st) G (G+H))(ub:Cz kf (Ah st) (G+H) (G+H+nb))(h:∀st',CI κ a₀ st'->Bf st'=((Bf st).setIfInBounds i (G,H+nb,pw)).eraseIdxIfInBounds (i+1)->Cz kf (Ah st') G (G+(H+nb))->(∀k,k<G\/G+H+nb<=k->A7 kf (Ah st') k=A7 kf (Ah st) k)->Q AH st'):D3 (Ao prog w) A E s (mergeAt' i) Q st:=by
  have R:=B.adl;refine Az (Jb ?_);rw[show(sortPriv%PySem.Builtin.SortState.pending) st=Bf st from rfl,p1,p2];dsimp only;refine Az (rD (t:=YD (YG st) (Ah st) (((Bf st).setIfInBounds i (G,H+nb,pw)).eraseIdxIfInBounds (i+1)) (gallopOf st) (KQ st)) ?_);have memA:∀p∈(Ah st).toList,p∈a₀.toList:=λp hp=>(M5.mp B.qx).mem_iff.mp hp;have L:G+H<(Ah st).size:=by(first|lia|omega)
  refine Az (EK L ?_);generalize hst1:YD (YG st) (Ah st) (((Bf st).setIfInBounds i (G,H+nb,pw)).eraseIdxIfInBounds (i+1)) (gallopOf st) (KQ st)=st1;have B1:CI κ a₀ st1:=by rw[<-hst1];exact⟨B.qx,B.lh,B.qh⟩
  have ar1:Ah st1=Ah st:=by rw[<-hst1]
  have pe1:Bf st1=((Bf st).setIfInBounds i (G,H+nb,pw)).eraseIdxIfInBounds (i+1):=by rw[<-hst1]
  have J:A7 kf (Ah st) (G+H)=kf ((Ah st)[G+H]'L).1:=DD L;refine Az (LV (left:=AQ) (key:=(Ah st)[G+H]'L) (base:=G) (n:=H) (hint:=0) C B1 (memA _ (by simp)) memA (by(first|lia|omega)) (by(first|lia|omega)) ua λk hk d c=>?_);have lowA:∀j,G<=j->j<G+k->O.kle (A7 kf (Ah st) j) (A7 kf (Ah st) (G+H)):=λj j1 j2=>by have:=d (j-G) (by(first|lia|omega));unfold CV at this;rw[yX C4,<-J,show G+(j-G)=j by(first|lia|omega)]at this;show O.blt _ _=AQ;simpa using this
  have highA:∀j,G+k<=j->j<G+H->O.kle (A7 kf (Ah st) (G+H)) (A7 kf (Ah st) j):=λj j1 j2=>by have:=c (j-G) (by(first|lia|omega)) (by(first|lia|omega));unfold CV at this;rw[yX C4,<-J,show G+(j-G)=j by(first|lia|omega)]at this;exact Hw (by show O.blt _ _=AH;simpa using this)
  dsimp only;by_cases T:H-k=0
  . refine Cd (by simpa using T) ?_;refine A9 (h st1 B1 pe1 ?_ λz _=>by rw[ar1]);rw[ar1];intro x y h1 h2 h3;by_cases hx:x<G+H
    . by_cases hy:y<G+H;.exact ua x y h1 h2 hy
      .exact Fq (lowA x h1 (by(first|lia|omega))) (ub _ y (Al _) (by(first|lia|omega)) (by(first|lia|omega)))
    .exact ub x y (by(first|lia|omega)) h2 (by(first|lia|omega))
  refine Ct (by simpa using T) ?_;have I:G+k+(H-k)-1<(Ah st).size:=by(clear T R P K g;(first|lia|omega))
  refine Az (EK I ?_);have F:A7 kf (Ah st) (G+H-1)=kf ((Ah st)[G+k+(H-k)-1]'I).1:=by rw[<-DD (kf:=kf) I];congr 1;(first|lia|omega)
  refine Az (LV (left:=AH) (key:=(Ah st)[G+k+(H-k)-1]'I) (base:=G+H) (n:=nb) (hint:=nb-1) C B1 (memA _ (by simp)) memA (by(first|lia|omega)) (by(first|lia|omega)) ub λk' Z W V=>?_);have lowB:∀j,G+H<=j->j<G+H+k'->O.kle (A7 kf (Ah st) j) (A7 kf (Ah st) (G+H-1)):=λj j1 j2=>by have:=W (j-(G+H)) (by(first|lia|omega));unfold CV at this;rw[yY rfl,<-F,show G+H+(j-(G+H))=j by(clear j2 V W Z F I T c d hk J L R P K g;(first|lia|omega))]at this;exact Hw this
  have highB:∀j,G+H+k'<=j->j<G+H+nb->O.kle (A7 kf (Ah st) (G+H-1)) (A7 kf (Ah st) j):=λj j1 j2=>by have:=V (j-(G+H)) (by(clear j2 V W Z F I T c d hk J L R P K g;(first|lia|omega))) (by(first|lia|omega));unfold CV at this;rw[yY rfl,<-F,show G+H+(j-(G+H))=j by(first|lia|omega)]at this;exact this
  dsimp only;by_cases r:k'=0
  . refine Cd (by simpa using r) ?_;refine A9 (h st1 B1 pe1 ?_ λz _=>by rw[ar1]);rw[ar1];intro x y h1 h2 h3;by_cases hx:x<G+H
    . by_cases hy:y<G+H;.exact ua x y h1 h2 hy
      .exact Fq (ua x (G+H-1) h1 (by(clear hy h3 h2 h1 r V W Z F I T c d hk J L R P K g;(first|lia|omega))) (by(clear hy h3 h2 h1 r V W Z F I T c d hk J L R P K g;(first|lia|omega)))) (highB y (by(first|lia|omega)) (by(first|lia|omega)))
    .exact ub x y (by(first|lia|omega)) h2 (by(first|lia|omega))
  refine Ct (by simpa using r) ?_;generalize hX:(Ah st).extract (G+k) (G+H)=X;generalize hY:(Ah st).extract (G+H) (G+H+k')=Y;have pX:X.toList.Pairwise (BR kf):=by rw[<-hX];exact Yy (by(first|lia|omega)) λa b q1 q2 q3=>ua a b (by(first|lia|omega)) q2 q3
  have pY:Y.toList.Pairwise (BR kf):=by rw[<-hY];exact Yy (by(first|lia|omega)) λa b q1 q2 q3=>ub a b (by(first|lia|omega)) q2 (by(first|lia|omega))
  have o:X.size=H-k:=by rw[<-hX];simp;(clear r V W Z F I T R P K g;(first|lia|omega))
  have zY:Y.size=k':=by rw[<-hY];simp;(clear o r V W F I T hk K g;(first|lia|omega))
  have mX:∀p∈X.toList,∃m,G+k<=m/\m<G+H/\∃(hm:m<(Ah st).size),p=(Ah st)[m]:=λp hp=>Yx (by(first|lia|omega)) (by rw[hX];exact hp);have mY:∀p∈Y.toList,∃m,G+H<=m/\m<G+H+k'/\∃(hm:m<(Ah st).size),p=(Ah st)[m]:=λp hp=>Yx (by(first|lia|omega)) (by rw[hY];exact hp);have l:Y[0]'(by(clear o V W Z F I T c d J L R P K g;(first|lia|omega)))=(Ah st)[G+H]'L:=by subst hY;simp
  have u:X[X.size-1]'(by(clear l V W Z F I c d J L R P K;(first|lia|omega)))=(Ah st)[G+H-1]'(by(clear l zY o r Z T hk R P K g;(first|lia|omega))):=by subst hX;rw[Array.getElem_extract];congr 1;rw[o];(clear o l V W Z F I c d J L R P K;(first|lia|omega))
  have D:∀p∈X.toList,BR kf (Y[0]'(by(clear u l o V W Z F I T c d J L R P K g;(first|lia|omega)))) p:=λp hp=>by obtain⟨m,q1,q2,hm,rfl⟩:=mX p hp;rw[l];have:=highA m q1 q2;rw[J,DD hm]at this;exact this
  have U:∀p∈Y.toList,BR kf p (X[X.size-1]'(by(clear u l V W Z F I c d J L R P K;(first|lia|omega)))):=λp hp=>by obtain⟨m,q1,q2,hm,rfl⟩:=mY p hp;rw[u];have:=lowB m q1 q2;rw[DD hm,DD (by(clear this hp hm q2 q1 D u l zY o r Z T hk R P K g;(first|lia|omega)):G+H-1<(arrOf st).size)]at this;exact this
  have inX:∀p∈X.toList,p∈a₀.toList:=λp hp=>by obtain⟨m,q1,q2,hm,rfl⟩:=mX p hp;exact memA _ (by simp)
  have inY:∀p∈Y.toList,p∈a₀.toList:=λp hp=>by obtain⟨m,q1,q2,hm,rfl⟩:=mY p hp;exact memA _ (by simp)
  have fin:∀(M:Array Au)(v:CF),GF κ a₀ st1 v->Ek (BR kf) X.toList Y.toList M.toList->Q AH (MZ v (M.toList.zipIdx.foldl (λa x=>a.setIfInBounds (G+k+x.2) x.1) (Ah v))):=λM v S f=>by
    have lM:M.toList.length=(H-k)+k':=by rw[f.1.length_eq,CA];simp[o,zY]
    have ar2:Ah v=Ah st:=S.alz.trans ar1;have el:=Yv (G+k) M.toList 0 (Ah st) (by(first|lia|omega));rw[R4,lM,show G+k+(H-k+k')=G+H+k' by(clear U D u l o r V W Z F I T c d J L R P K g;(first|lia|omega))]at el;generalize hN:M.toList.zipIdx.foldl (λa x=>a.setIfInBounds (G+k+x.2) x.1) (Ah v)=N;have eN:N.toList=(Ah st).toList.take (G+k)++M.toList++(Ah st).toList.drop (G+H+k'):=by rw[<-hN,ar2];exact el
    have perm:N.Perm (Ah v):=by
      rw[ar2,M5,eN];have sp:=qV (Ah st) (i:=G+k) (j:=G+H) (k:=G+H+k') (by(first|lia|omega)) (by(first|lia|omega)) (by(first|lia|omega));rw[hX,hY]at sp;conv=>rhs;rw[sp]
      exact rZ _ (nQ _ f.1)
    have lt:((Ah st).toList.take (G+k)).length=G+k:=by simp;(clear lM U D u l zY o r V W Z F I T R P K g;(first|lia|omega))
    have nOut:∀z,z<G+k\/G+H+k'<=z->N[z]?=(Ah st)[z]?:=λz hz'=>by
      rw[<-M4,<-M4,eN];rcases hz' with q|q;.rw[Ei,K9 (by(clear lM U D u l zY o r V W Z F I T c d hk J L R P K g;(first|lia|omega))),Xy q]
      . rw[MV (by rw[CA];(clear U D u l o r V W Z F I T c d J L R P K g;(first|lia|omega))),CA,lt,lM,sI];congr 1;(clear U D u l o r V W Z F I T c d J L R P K g;(first|lia|omega))
    have nIn:∀z,G+k<=z->z<G+H+k'->N[z]?=M[z-(G+k)]?:=λz q1 q2=>by rw[<-M4,<-M4,eN,Ei,MV (by(clear q2 lM U D u l zY o r V W Z F I T c d hk J L R P K g;(first|lia|omega))),lt,K9 (by(clear U D u l o r V W Z F I T c d J L R P K g;(first|lia|omega)))]
    have upM:Cz kf M 0 M.size:=Ip f.2 (Al _);have sM:M.size=(H-k)+k':=by rw[<-lM];simp
    have inM:∀z,G+k<=z->z<G+H+k'->∃m,G+k<=m/\m<G+H+k'/\A7 kf N z=A7 kf (Ah st) m:=λz q1 q2=>by
      have hz2:z-(G+k)<M.size:=by(clear U D u l o r V W Z F I T c d J L R P K g;(first|lia|omega))
      have hm:M[z-(G+k)]∈X.toList++Y.toList:=f.1.mem_iff.mp (by simp);rw[FH (nIn z q1 q2),DD hz2];rcases DA.mp hm with q|q;. obtain⟨m,q1,q2,hm,e⟩:=mX _ q;exact⟨m,q1,by(clear e hm q1 sM lM U D u l o r V W Z F I T c d hk J L R P K g;(first|lia|omega)),by rw[e,DD hm]⟩
      . obtain⟨m,q1,q2,hm,e⟩:=mY _ q;exact⟨m,by(clear e hm q2 sM lM U D u l zY o r V W Z F I T c d J L R P K g;(first|lia|omega)),q2,by rw[e,DD hm]⟩
    refine h _ (S.sb.uv perm) (S.aem.trans pe1) ?_ λz hz'=>FH (nOut z (by(clear sM lM U D u l o r V W F I T c d hk J L R P K g;(first|lia|omega))));show Cz kf N G (G+(H+nb));intro x y h1 h2 h3;by_cases x1:x<G+k
    . rw[FH (nOut x (.inl x1))];have all:∀m,G+k<=m->m<G+H+nb->O.kle (A7 kf (Ah st) x) (A7 kf (Ah st) m):=λm q1 q2=>by
        by_cases q3:m<G+H;.exact ua x m h1 (by(clear q3 q2 h3 h2 h1 sM lM U D u l zY o r V W Z F I T c d hk J L R P K g;(first|lia|omega))) q3
        .exact Fq (lowA x h1 x1) (ub _ m (Al _) (by(clear q2 q1 x1 h3 h2 h1 sM lM U D u l zY o r V W Z F I T c d hk J L R P K g;(first|lia|omega))) q2)
      by_cases y1:y<G+k
      . rw[FH (nOut y (.inl y1))];exact ua x y h1 h2 (by(clear x1 h3 h2 h1 sM lM U D u l zY o r V W Z F I T c d J L R P K g;(first|lia|omega)))
      . by_cases y2:y<G+H+k'
        . obtain⟨m,q1,q2,e⟩:=inM y (by(clear y2 x1 h3 h2 h1 sM lM U D u l zY o r V W Z F I T c d hk J L R P K g;(first|lia|omega))) y2;rw[e];exact all m q1 (by(clear q1 y2 y1 x1 h3 h2 h1 sM lM U D u l o r V W F I T c d hk J L R P K g;(first|lia|omega)))
        . rw[FH (nOut y (.inr (by(clear y1 x1 h3 h2 h1 sM lM U D u l o r V W Z F I T c d hk J L R P K g;(first|lia|omega)))))];exact all y (by(clear y2 x1 h3 h2 h1 sM lM U D u l zY o r V W Z F I T c d hk J L R P K g;(first|lia|omega))) (by(clear y2 y1 x1 h2 h1 sM lM U D u l zY o r V W Z F I T c d hk J L R P K g;(first|lia|omega)))
    . by_cases x2:x<G+H+k'
      . by_cases y2:y<G+H+k'
        . rw[FH (nIn x (by(clear y2 x2 h3 h2 h1 sM lM U D u l zY o r V W Z F I T c d hk J L R P K g;(first|lia|omega))) x2),FH (nIn y (by(clear y2 x2 h3 h1 sM lM U D u l zY o r V W Z F I T c d hk J L R P K g;(first|lia|omega))) y2)];exact upM _ _ (by(first|lia|omega)) (by(clear y2 x2 h3 h1 sM lM U D u l zY o r V W Z F I T c d hk J L R P K g;(first|lia|omega))) (by(clear x2 h3 h1 U D u l o r V W Z F I T c d J L R P K g;(first|lia|omega)))
        . rw[FH (nOut y (.inr (by(clear x2 x1 h3 h2 h1 sM lM U D u l o r V W Z F I T c d hk J L R P K g;(first|lia|omega)))))];obtain⟨m,q1,q2,e⟩:=inM x (by(clear y2 x2 h3 h2 h1 sM lM U D u l zY o r V W Z F I T c d hk J L R P K g;(first|lia|omega))) x2;rw[e];by_cases q3:m<G+H;.exact Fq (ua m (G+H-1) (by(clear q3 q2 y2 x2 x1 h3 h2 h1 sM lM U D u l zY o r V W Z F I T c d hk J L R P K g;(first|lia|omega))) (by(clear q2 q1 y2 x2 x1 h3 h2 h1 sM lM U D u l zY o r V W Z F I T c d hk J L R P K;(first|lia|omega))) (by(clear q2 q1 y2 x2 x1 h3 h2 h1 sM lM U D u l zY o r V W Z F I T c d hk J L R P K g;(first|lia|omega)))) (highB y (by(clear q3 q2 q1 x2 x1 h3 h2 h1 sM lM U D u l o r V W Z F I T c d hk J L R P K g;(first|lia|omega))) (by(clear q3 q2 q1 y2 x2 x1 h2 h1 sM lM U D u l zY o r V W Z F I T c d hk J L R P K g;(first|lia|omega))))
          .exact ub m y (by(clear q2 q1 y2 x2 x1 h3 h2 h1 sM lM U D u l zY o r V W Z F I T c d hk J L R P K g;(first|lia|omega))) (by(clear q3 q1 x2 x1 h3 h2 h1 sM lM U D u l o r V W Z F I T c d hk J L R P K g;(first|lia|omega))) (by(clear q3 q2 q1 y2 x2 x1 h2 h1 sM lM U D u l zY o r V W Z F I T c d hk J L R P K g;(first|lia|omega)))
      . rw[FH (nOut x (.inr (by(clear x1 h3 h2 h1 sM lM U D u l o r V W Z F I T c d hk J L R P K g;(first|lia|omega))))),FH (nOut y (.inr (by(clear x1 h3 h1 sM lM U D u l o r V W Z F I T c d hk J L R P K g;(first|lia|omega)))))];exact ub x y (by(clear x1 h3 h2 h1 sM lM U D u l o r V W Z F I T c d hk J L R P K g;(first|lia|omega))) h2 (by(clear x2 x1 h2 h1 sM lM U D u l zY o r V W Z F I T c d hk J L R P K g;(first|lia|omega)))
  have fin2:∀(M:Array Au)(v:CF),GF κ a₀ st1 v->Ek (BR kf) X.toList Y.toList M.toList->KQ (MZ v (M.toList.zipIdx.foldl (λa x=>a.setIfInBounds (G+k+x.2) x.1) (Ah v)))=AF:=λM v S _=>S.sb.qh;by_cases le:H-k<=k'
  . refine Cd le ?_;refine Az (rC C B1 inX inY (by(clear le u l V W Z F I c d J L R P K;(first|lia|omega))) (by(clear le U u l o V W Z F I T c d J L R P K g;(first|lia|omega))) pX pY D U λM v S f=>?_);refine Az (HJ (Az (Jb ?_)));have:=fin M v S f;have e:=fin2 M v S f;refine A9 ?_;show Q (KQ (MZ v _)).isNone _;rw[e];exact this
  . refine Ct le ?_;refine Az (rB C B1 inX inY (by(clear U D u l r V W Z F I T c d hk J L R P K g;(first|lia|omega))) (by(clear le U u l o V W Z F I T c d J L R P K g;(first|lia|omega))) pX pY D U λM v S f=>?_);refine Az (HJ (Az (Jb ?_)));have:=fin M v S f;have e:=fin2 M v S f;refine A9 ?_;show Q (KQ (MZ v _)).isNone _;rw[e];exact this
noncomputable def EW{O:R7}(kf:AK->O.α)(xs:Array Au):Nat->List (Nat×Nat×Nat)->Nat->Prop|x,[],y=>x=y|x,(s,n,_)::r,y=>s=x/\1<=n/\Cz kf xs s (s+n)/\EW kf xs (x+n) r y
theorem EW.le{O:R7}{kf:AK->O.α}{xs:Array Au}:∀{l:List (Nat×Nat×Nat)}{x y:Nat},EW kf xs x l y->x+l.length<=y
 |[],x,y,h=>by have h:x=y:=h;grind|(s,n,p)::r,x,y,h=>by
  refine AB λD=>?_;obtain⟨_,J,_,F⟩:=h;refine D ?_;try clear D
  have:=EW.le F;grind
theorem Ms{O:R7}{kf:AK->O.α}{xs:Array Au}:∀{l m:List (Nat×Nat×Nat)}{x z:Nat},EW kf xs x (l++m) z↔∃y,EW kf xs x l y/\EW kf xs y m z
  |[],m,x,z=>⟨λh=>⟨x,rfl,h⟩,λ⟨y,D,J⟩=>by have D:x=y:=D;grind⟩|(s,n,p)::r,m,x,z=>by
    constructor
    . intro Y;refine AB λF=>?_;obtain⟨D,J,U,Z⟩:=Y;obtain⟨y,V,W⟩:=Ms.mp Z;refine F ?_;try clear F
      exact⟨y,⟨D,J,U,V⟩,W⟩
    . intro Y;refine AB λF=>?_;obtain⟨y,⟨D,J,U,V⟩,W⟩:=Y;refine F ?_;try clear F
      exact⟨D,J,U,Ms.mpr ⟨y,V,W⟩⟩
theorem EW.ab{O:R7}{kf:AK->O.α}{xs ys:Array Au}:∀{l:List (Nat×Nat×Nat)}{x y:Nat},EW kf xs x l y->(∀k,x<=k->k<y->A7 kf ys k=A7 kf xs k)->EW kf ys x l y|[],x,y,h,_=>h|(s,n,p)::r,x,y,⟨J,U,V,D⟩,k=>by have:=EW.le D;subst J;exact⟨rfl,U,λi j F W Y=>by rw[k i F (by(first|lia|omega)),k j (by(first|lia|omega)) (by(first|lia|omega))];exact V i j F W Y,EW.ab D (by grind)⟩
theorem Y1{K:OX}{F:Array Au}{st:CF}(C:E5 prog w A s K O kf F)(B:CI K F st)(c:EW kf (Ah st) 0 (Bf st).toList hi)(j:i+1<(Bf st).size)(l:hi<=F.size)(h:∀D,CI K F D->(Bf D).size+1=(Bf st).size->EW kf (Ah D) 0 (Bf D).toList hi->(∀k,hi<=k->A7 kf (Ah D) k=A7 kf (Ah st) k)->Q AH D):D3 (Ao prog w) A E s (mergeAt' i) Q st:=by
  refine AB λJ=>?_;obtain⟨⟨U,V,I⟩,N⟩:∃x,(Bf st)[i]?=AA x:=⟨_,zH _ i (by(first|lia|omega))⟩;obtain⟨⟨g,W,G⟩,P⟩:∃x,(Bf st)[i+1]?=AA x:=(by grind);refine J ?_;try clear J
  have Y:(Bf st).toList=(Bf st).toList.take i++(U,V,I)::(g,W,G)::(Bf st).toList.drop (i+2):=by
    have Z:i<(Bf st).toList.length:=by grind
    have q:i+1<(Bf st).toList.length:=by grind
    conv=>lhs;rw[<-OU i (Bf st).toList]
    congr 1;rw[Xt Z,Xt q];grind
  have z:((Bf st).toList.take i).length=i:=by grind
  generalize(Bf st).toList.take i=Z at Y z;generalize(Bf st).toList.drop (i+2)=q at Y;rw[Y]at c;refine AB λJ=>?_;obtain⟨y,M,⟨X,a,b,⟨d,e,f,H⟩⟩⟩:=Ms.mp c;refine J ?_;try clear J
  subst X d;have R:=H.le;refine rA C B N P a e (by(first|lia|omega)) b f λD L S u k=>h D L ?_ ?_ (by grind);.grind
  . have T:(Bf D).toList=Z++(U,V+W,I)::q:=by rw[S];simp only[Array.toList_eraseIdxIfInBounds,rJ,Y];rw[List.set_append_right _ _ (by(first|lia|omega)),z,X9,List.set_cons_zero,List.eraseIdx_append_of_length_le (by(first|lia|omega)),z];simp
    rw[T];refine Ms.mpr ⟨U,M.ab (by grind),rfl,by(first|lia|omega),u,?_⟩;rw[show U+(V+W)=U+V+W by(first|lia|omega)];exact H.ab (by grind)
theorem Ys{O:R7}{kf:AK->O.α}{xs:Array Au}:∀{l m:List (Nat×Nat×Nat)}{x y:Nat},l.map (λv=>(v.1,v.2.1))=m.map (λv=>(v.1,v.2.1))->EW kf xs x l y->EW kf xs x m y|[],[],_,_,_,h=>h|[],_::_,_,_,e,_=>by cases e|_::_,[],_,_,e,_=>by cases e|(a,n,p)::l,(b,k,q)::m,x,y,e,⟨F,J,U,V⟩=>by have e:=Dx e;have D:=e.1;cases D;exact⟨F,J,U,Ys e.2 V⟩
theorem Yz{Z:OX}{O:R7}{kf:AK->O.α}{F:Array Au}{D:CF}{lo m x:Nat}(U:CI Z F D)(V:EW kf (Ah D) 0 (Bf D).toList lo)(u3:Cz kf (Ah D) lo (lo+m))(W:1<=m)(Y:lo+m<=F.size)(q:x<=lo\/F.size<=lo):CI Z F (YI D ((Bf D).push (lo,m,0)))/\∃J,((AF,lo+m):Option Unit×Nat)=(AF,J)/\(x+1<=J\/F.size<=J)/\J<=F.size/\EW kf (Ah (YI D ((Bf D).push (lo,m,0)))) 0 (Bf (YI D ((Bf D).push (lo,m,0)))).toList J:=by refine⟨⟨U.qx,U.lh,U.qh⟩,_,rfl,by(first|lia|omega),Y,?_⟩;rw[rH];exact Ms.mpr ⟨lo,V,rfl,W,u3,rfl⟩
theorem Y4{D:Array Au}{st:CF}(C:E5 prog w A s L O kf D)(B:CI L D st)(p0:Bf st=#[])(h:∀V,CI L D V->Cz kf (Ah V) 0 D.size->Q () V):D3 (Ao prog w) A E s sortRuns' Q st:=by
  rw[sortRuns'_eq];refine Az (Jb ?_);dsimp only;simp only[B.adl];generalize minRun' D.size D.size 0=o;refine Az (Gd (F8 (I:=λx c V=>CI L D V/\∃W,c=(AF,W)/\(x<=W\/D.size<=W)/\W<=D.size/\EW kf (Ah V) 0 (Bf V).toList W) (Q:=λc V=>CI L D V/\c=(AF,D.size)/\EW kf (Ah V) 0 (Bf V).toList D.size) ?vh ?fin ?ali) ?post);case ali=>exact⟨B,0,rfl,.inl (Al _),CU _,by rw[p0];rfl⟩
  case fin=>
    intro c V Z;refine AB λU=>?_;obtain⟨S,W,rfl,r,e,c⟩:=Z;obtain rfl:W=D.size:=by(first|lia|omega)
    refine U ?_;try clear U
    exact⟨S,rfl,c⟩
  case post=>
    intro c V Z;refine AB λU=>?_;obtain⟨S,rfl,c⟩:=Z;refine U ?_;try clear U
    dsimp only;refine Az (Gd (F8 (I:=λx c F=>c=(AF,())/\CI L D F/\EW kf (Ah F) 0 (Bf F).toList D.size/\((Bf F).size+x<=D.size\/(Bf F).size<=1)) (Q:=λc F=>c=(AF,())/\CI L D F/\EW kf (Ah F) 0 (Bf F).toList D.size/\(Bf F).size<=1) ?t1 ?t2 ?t3) ?t4);case t3=>exact⟨rfl,S,c,.inl (by have:=c.le;simp at this;(first|lia|omega))⟩
    case t2=>
      intro Y F Z;refine AB λU=>?_;obtain⟨rfl,K,Y,q⟩:=Z;refine U ?_;try clear U
      exact⟨rfl,K,Y,by(first|lia|omega)⟩
    case t4=>
      intro Y F Z;refine AB λU=>?_;obtain⟨rfl,K,Y,q⟩:=Z;refine U ?_;try clear U
      refine A9 (h F K ?_);generalize(Bf F)=P at Y q;obtain⟨l⟩:=P;match l,q,Y with
      |[],_,Y=> have Y:0=D.size:=Y;intro i j _ _ q3;(first|lia|omega)|[(a,n,p)],_,Y=>
        refine AB λU=>?_;obtain⟨e1,_,u,e2⟩:=Y;refine U ?_;try clear U
        have e2:0+n=D.size:=e2;subst e1;rw[<-e2];exact u
    case t1=>
      intro x Y F _ g Z;refine AB λU=>?_;obtain⟨rfl,K,Y,q⟩:=Z;refine U ?_;try clear U
      refine Az (Jb ?_);by_cases z:(Bf F).size<=1;. refine Cd z ?_;exact A9 ⟨rfl,K,Y,z⟩
      . refine Ct z ?_;generalize hi:(if Option.any (λx=>Ae (x<(Bf F)[(Bf F).size-2+1]?.elim 0 (λx=>x.2.1))) _=AH then(Bf F).size-2-1 else(Bf F).size-2)=i;have aux:∀(c:Prop)[Decidable c](u v N:Nat),u+1<N->v+1<N->(if c then u else v)+1<N:=λc _ u v N h1 h2=>by split<;>assumption
        refine Az (Y1 C K Y (by rw[<-hi];exact aux _ _ _ _ (by(first|lia|omega)) (by(first|lia|omega))) (Al _) λG T z3 X _=>?_);exact A9 ⟨rfl,T,X,by(first|lia|omega)⟩
  case vh=>
    intro x c V _ g Z;refine AB λU=>?_;obtain⟨S,W,rfl,r,e,c⟩:=Z;refine U ?_;try clear U
    dsimp only;by_cases z:W>=D.size
    . refine Cd z ?_;obtain rfl:W=D.size:=by(first|lia|omega)
      exact A9 ⟨S,rfl,c⟩
    refine Ct z ?_;refine Az (q9 C (by(first|lia|omega)) (by(first|lia|omega)) S λn F K K2 n1 n2 u2=>?_);have Y:EW kf (Ah F) 0 (Bf F).toList W:=by rw[K2.aem];exact c.ab λk _ k2=>FH (K2.akz k k2)
    dsimp only;by_cases d:n<o;all_goals first
      | (refine Cd d ?_;refine Az (Ma (Mq ⟨rfl,?_⟩));refine Az (q8 C (by(first|lia|omega)) (by(first|lia|omega)) K u2 λG T K3 u3=>?_);refine Ct (by simp) ?_;have H:1<=Cs (D.size-W) o/\W+Cs (D.size-W) o<=D.size:=by(first|lia|omega)
         have X:EW kf (Ah G) 0 (Bf G).toList W:=by rw[K3.aem];exact Y.ab λk _ k2=>FH (K3.akz k k2)
         generalize Cs (D.size-W) o=m at u3 H⊢)
      | (refine Ct d ?_;have H:1<=n/\W+n<=D.size:=by(first|lia|omega)
         have T:=K;have X:=Y;have u3:=u2;generalize n=m at u3 H⊢;generalize F=G at T X u3⊢)
    all_goals refine Az (Jb ?_);cases hb:(Bf G).back? with |none=>exact Az (HJ (A9 (Yz T X u3 H.1 H.2 (by(first|lia|omega)))))|some b=>
        refine AB λU=>?_;obtain⟨s1,m1,pw⟩:=b;refine U ?_;try clear U
        dsimp only;generalize power' D.size (2*s1+m1) (2*s1+m1+m1+m) D.size=pp;refine Az (Gd (F8 (I:=λ_ c J=>c=(AF,())/\CI L D J/\EW kf (Ah J) 0 (Bf J).toList W/\Cz kf (Ah J) W (W+m)) ?r1 (λ_ _ q=>q) ⟨rfl,T,X,u3⟩) ?r2);case r1=>
          intro y R J _ hy Z;refine AB λU=>?_;obtain⟨rfl,M,R,f⟩:=Z;refine U ?_;try clear U
          refine Az (Jb ?_);by_cases z4:(Bf J).size>1
          . have e4:=zH (Bf J) ((Bf J).size-2) (by(clear hy H d n2 n1 z e r g;(first|lia|omega)));simp only[yY z4,e4];split;.exact A9 ⟨rfl,M,R,f⟩
            . refine Az (Y1 C M R (by(clear hy H d n2 n1 z e r g;(first|lia|omega))) e λst5 t z5 c5 k5=>?_);exact A9 ⟨rfl,t,c5,λi j w1 w2 w3=>by rw[k5 i w1,k5 j (by(clear w3 z5 hy H d n2 n1 z e r g;(first|lia|omega)))];exact f i j w1 w2 w3⟩
          . simp only[yX z4];exact A9 ⟨rfl,M,R,f⟩
        case r2=>
          intro R J Z;refine AB λU=>?_;obtain⟨rfl,M,R,f⟩:=Z;refine U ?_;try clear U
          dsimp only;refine Az (HJ (Az (HJ (A9 ?_))));have t:CI L D (YI J ((Bf J).modify ((Bf J).size-1) λx=>(x.1,x.2.1,pp))):=⟨M.qx,M.lh,M.qh⟩;refine Yz t ?_ f H.1 H.2 (by(first|lia|omega));refine Ys (l:=(Bf J).toList) ?_ R;rw[Array.toList_modify];refine Xv λk=>?_;rw[Bx,Bx,List.getElem?_modify];cases(Bf J).toList[k]? with|none=>rfl|some v=>
            show AA _=AA _;by_cases w:(Bf J).size-1=k;.simp[w]
            .simp[w]
noncomputable def Fj:AL->AL->Bool|.inl a,.inl b=>Ae (a<b)|.inl _,.inr _=>AH|.inr _,.inl _=>AQ|.inr x,.inr y=>Ae (x.cps.toList<y.cps.toList)
theorem iW:∀a,Fj a a=AQ|.inl a=>y4 (by grind)|.inr x=>y4 (by grind)
theorem iY:∀{a b c},Fj a b=AH->Fj b c=AH->Fj a c=AH|.inl a,.inl b,.inl c,D,F=>y3 (Int.lt_trans (y6 D) (y6 F))|.inl _,.inl _,.inr _,_,_=>rfl|.inl _,.inr _,.inr _,_,_=>rfl|.inr x,.inr y,.inr z,D,F=>y3 (List.lt_trans (y6 D) (y6 F))
theorem iX:∀{a b},Fj a b=AQ->Fj b a=AQ->a=b|.inl a,.inl b,D,F=>by have D:=zA D;have F:=zA F;grind|.inr x,.inr y,D,F=>by have D:=zA D;have F:=zA F;rw[l7 (List.le_antisymm (by grind) (List.not_lt.mp D))]
noncomputable def BB:List AL->List AL->Bool|[],[]=>AQ|[],_::_=>AH|_::_,[]=>AQ|a::x,b::y=>if a=b then BB x y else Fj a b
theorem L9:∀x,BB x x=AQ|[]=>rfl|a::x=>by rw[BB,yY rfl];exact L9 x
theorem RJ:∀{x y z},BB x y=AH->BB y z=AH->BB x z=AH
  |[],[],_,h,_=>by cases h|[],_::_,[],_,h=>by cases h|[],_::_,_::_,_,_=>rfl|_::_,[],_,h,_=>by cases h|_::_,_::_,[],_,h=>by cases h|a::x,b::y,c::z,D,F=>by
    unfold BB at D F⊢;by_cases U:a=b
    . subst U;rw[yY rfl]at D;by_cases J:a=c
      . subst J;rw[yY rfl]at F⊢;exact RJ D F
      grind
    . rw[yX U]at D;by_cases J:b=c;.grind
      . rw[yX J]at F;have V:=iY D F;have:a≠c:=λe=>by rw[e,iW]at V;cases V
        grind
theorem MA:∀{x y},BB x y=AQ->BB y x=AQ->x=y
 |[],[],_,_=>rfl|[],_::_,h,_=>by cases h|_::_,[],_,h=>by cases h|a::x,b::y,D,F=>by
  unfold BB at D F;by_cases e:a=b
  . subst e;rw[yY rfl]at D F;rw[MA D F]
  . rw[yX e]at D;rw[yX (by grind)]at F;exact absurd (iX D F) e
@[reducible]noncomputable def FD:R7 where
 α:=List AL
 blt:=BB
 irrefl:=L9
 trans _ _ _:=RJ
 negTrans a b c h:=by cases e:BB a b with |true=>exact .inl rfl|false=>cases D:BB b a with |true=>exact .inr (RJ D h)|false=>rw[<-MA e D];exact .inr h
 total _ _:=MA
noncomputable def BK:AK->AL|.int i _=>.inl i|.str x _=>.inr x|_=>.inl 0
noncomputable def Ex(h:BG):AK->List AL
 |.int i _=>[.inl i]|.str x _=>[.inr x]|.ref a=>match h.get? a with
  |AA o=>match o.data with |.seq D _=>D.toList.map BK|_=>[]
  |AF=>[]
 |_=>[]
theorem Y2{s:AY}{O:R7}{vs:List AK}(Z:s.heap.get? a=AA (Bl "list" vs.toArray n))(c:vs.length<=Aw)(kf:AK->O.α)(z:∀h',(∀b o,b≠a->s.heap.get? b=AA o->h'.get? b=AA o)->2<=vs.length->∃Y,(∀(Q:OX->AY->Prop)(E:AK->AY->Prop),Q Y {s with heap:=h'}->Av (Ao prog w) A (oU vs.toArray) Q E {s with heap:=h'})/\E5 prog w A {s with heap:=h'} Y O kf (Gs vs))(h:∀F:Array Au,F.Perm (Gs vs)->Cz kf F 0 (Gs vs).size->P (.done (.ret .none)) {s with heap:=sortedHeap s.heap a vs (F.map (·.2))}):Av (Ao prog w) A (Builtin.«list.sort» ⟨[.ref a],[]⟩) P E s:=by
  rw[list_sort_plain];have X:a<s.heap.objs.size:=CP Z;refine A4 (oX Z rfl (A4 (MY Z rfl ?_)));refine AB λW=>?_;obtain⟨G,V⟩:∃G,(s.heap.update a (DC λ_=>#[])).get? a=AA (Bl "list" #[] G):=⟨_,SA Z (λ_=>#[])⟩;refine W ?_;try clear W
  refine A4 (SE V rfl (A4 (wI (A4 (SO (Ol ?_))))));generalize I:((s.heap.update a (DC λ_=>#[])).push (Bl "tuple" vs.toArray 0)).push (Bl "list" #[] 0)=H;have S:∀b o,b≠a->s.heap.get? b=AA o->H.get? b=AA o:=λb o M q=>by rw[<-I];exact Cn _ (Cn _ ((YU _ _ _ _ M).trans q))
  have J:H.get? a=AA (Bl "list" #[] G):=by rw[<-I];exact Cn _ (Cn _ V)
  have fin:=λF K L=>by have:=h F K L;unfold sortedHeap at this;rw[I]at this;exact this
  dsimp only;by_cases D:vs.toArray.size<2
  . rw[yY D,yY D];refine A4 (Cg ?_);rw[wO];refine A4 (Cg ?_);dsimp only;refine A4 (SE J rfl (A4 (MY J rfl ?_ (hsz2:=by grind))));simp only[zF,Jg,y8];refine Cg (fin (vs.toArray.zip vs.toArray) (SS _) λi j _ d T=>?_);rw[tV]at T;have N:vs.toArray.size=vs.length:=by simp
    obtain rfl:i=j:=by(first|lia|omega)
    exact KO _
  . rw[yX D,yX D];refine AB λW=>?_;obtain⟨Y,R,C⟩:=z H S (by simpa using D);refine W ?_;try clear W
    refine A4 (R _ _ ?_);refine A4 (Ge (Y4 C (st:=YD Y (Gs vs) #[] 7 AF) (Q:=λ_ U=>CI Y (Gs vs) U/\Cz kf (Ah U) 0 (Gs vs).size) ⟨SS _,rfl,rfl⟩ rfl λU B u=>⟨B,u⟩) ?_ λ_ _ e=>e);rintro⟨⟨⟩,U⟩f⟨rfl,B,u⟩;dsimp only;refine A4 (SE J rfl (A4 (MY J rfl ?_ (hsz2:=by refine CL (Ht ((ZA ..).trans (B.qx.size_eq.trans (tV _)))) ?_;(first|lia|omega)))));rw[B.qh];simp only[zF,Jg,y8];exact Cg (fin _ B.qx u)
noncomputable def B9:AL->Bool|.inl _=>AH|.inr _=>AQ
noncomputable def Dw:AK->Prop|.int _ _=>True|.str _ _=>True|_=>False
theorem Wi(c:Bool)(D:Dw x)(F:Dw y)(J:B9 (BK x)=B9 (BK y))(h:Q (Fj (BK x) (BK y)) s):Av (Ao prog w) A (oneLt' c x y) Q E s:=by
 cases x<;>first|exact D.elim|skip
 all_goals(cases y<;>first|exact F.elim|exact Fs (by assumption)|exact Fs (by assumption)|skip)
 .cases c with |true=>exact oneLt_int h|false=>exact pT _ _ (oY h)
 .cases c with|true=>exact oneLt_str h|false=>exact pT _ _ (tU h)
theorem Q9(D:Dw x)(F:Dw y)(J:B9 (BK x)=B9 (BK y))(h:Q (Ae (BK x=BK y)) s):Av (Ao prog w) A (eqBool x y) Q E s:=by
  cases x<;>first|exact D.elim|skip
  all_goals(cases y<;>first|exact F.elim|exact Fs (by assumption)|exact Fs (by assumption)|skip)
  . rename_i a t c u;refine yE a c t u prog w A E s Q ?_;have e:(a==c)=Ae (BK (.int a t)=BK (.int c u)):=by show(a==c)=Ae ((CN a:AL)=CN c);grind
    grind
  . rename_i a t c u;refine tQ a c t u prog w A E s Q ?_;have e:(a==c)=Ae (BK (.str a t)=BK (.str c u)):=by show(a==c)=Ae ((CJ a:AL)=CJ c);grind
    grind
theorem Wd:∀(xs ys:List AK)(i:Nat),(∀v∈xs,Dw v)->(∀v∈ys,Dw v)->xs.map (λv=>B9 (BK v))=ys.map (λv=>B9 (BK v))->Q (BB (xs.map BK) (ys.map BK)) s->Yb prog w A b AQ Q (xs.zip ys) i s
 |[],[],_,_,_,_,h=>vO h|[],_::_,_,_,_,e,_=>by cases e|_::_,[],_,_,_,e,_=>by cases e|x::xs,y::ys,i,V,W,e,h=>by
  obtain⟨D,U⟩:=Dx e;have F:=V x DR;have J:=W y DR;have h:Q (if BK x=BK y then BB _ _ else Fj _ _) s:=h;refine Ye (Q9 F J D (pR (λq=>?_) λq=>?_));. rw[yY (by grind)]at h;exact pU (Wd xs ys _ (by grind) (by grind) U h)
  . rw[yX (by grind)]at h;exact pS (Wi _ F J D h)
noncomputable def F2(h:BG)(u:AK)(ks:List AL):Prop:=∃a o D m,u=.ref a/\h.get? a=AA o/\o.cls=.type "tuple"/\o.data=.seq D m/\D.toList.map BK=ks/\∀v∈D.toList,Dw v
theorem F2.kf(t:F2 h u ks):Ex h u=ks:=by
 refine AB λF=>?_;obtain⟨a,o,D,m,rfl,e,_,d,k,_⟩:=t;refine F ?_;try clear F
 simp only[Ex,e,d];exact k
inductive Hg(h:BG):List AK->List (List AL)->Prop|cI{vs kss}:vs.length=kss.length->(∀(i:Nat)u ks,vs[i]?=AA u->kss[i]?=AA ks->∃n t,u=.int n t/\ks=[.inl n])->Hg h vs kss|cS{vs kss}:vs.length=kss.length->(∀(i:Nat)u ks,vs[i]?=AA u->kss[i]?=AA ks->∃n t,u=.str n t/\ks=[.inr n])->Hg h vs kss|cT{vs kss}(sh:List Bool):vs.length=kss.length->sh≠[]->(∀(i:Nat)u ks,vs[i]?=AA u->kss[i]?=AA ks->F2 h u ks/\ks.map B9=sh)->Hg h vs kss
theorem Hg.dh{vs:List AK}{kss:List (List AL)}(x:Hg h vs kss):vs.length=kss.length:=by cases x<;>assumption
theorem Hg.kf(x:Hg h vs kss):∀(i:Nat)u ks,vs[i]?=AA u->kss[i]?=AA ks->Ex h u=ks:=by intro i u ks D F;cases x with|cI _ f=>obtain⟨n,t,rfl,rfl⟩:=f i u ks D F;rfl|cS _ f=>obtain⟨n,t,rfl,rfl⟩:=f i u ks D F;rfl|cT _ _ _ f=>exact(f i u ks D F).1.kf
theorem JN{l:List F}{m:List J}(V:l.length=m.length)(h:x∈l):∃(i:Nat)(y:J),l[i]?=AA x/\m[i]?=AA y:=by
 refine AB λD=>?_;obtain⟨i,U,e⟩:=F7.mp h;refine D ?_;try clear D
 exact⟨i,m[i]'(by(first|lia|omega)),by grind,(by grind)⟩
theorem Hg.akx{s:AY}{h:BG}{vs:List AK}(x:Hg h vs kss)(h2:2<=vs.length)(kp:∀a o D m,.ref a∈vs->h.get? a=AA o->o.cls=.type "tuple"->o.data=.seq D m->s.heap.get? a=AA o):∃κ,(∀(Q:OX->AY->Prop)(E:AK->AY->Prop),Q κ s->Av (Ao prog w) A (oU vs.toArray) Q E s)/\E5 prog w A s κ FD (Ex h) (Gs vs):=by
  have K:∀p∈(Gs vs).toList,p.1∈vs:=λp B=>by rw[OY]at B;exact(YH B).2
  cases x with |cI Y f=>
    refine⟨oneType',λQ E q=>vM (T:=.type "int") h2 (λv C=>?_) (by decide) (by decide) q,⟨λp B q L Q E k=>?_⟩⟩
    . refine AB λF=>?_;obtain⟨i,U,V,W⟩:=JN Y C;obtain⟨n,t,rfl,_⟩:=f i _ _ V W;refine F ?_;try clear F
      exact .now
    . refine AB λF=>?_;obtain⟨i,U,V,W⟩:=JN Y (K p B);obtain⟨j,ls,N,O⟩:=JN Y (K q L);obtain⟨n,t,M,_⟩:=f i _ _ V W;obtain⟨m,t',u2,_⟩:=f j _ _ N O;refine F ?_;try clear F
      rw[M,u2]at k⊢;rw[tT];refine oneLt_int ?_;have e:Ae (n<m)=BB [.inl n] [.inl m]:=by show _=if(CN n:AL)=CN m then AQ else Ae (n<m);grind
      rw[e];exact k|cS Y f=>
    refine⟨oneType',λQ E q=>vM (T:=.type "str") h2 (λv C=>?_) (by decide) (by decide) q,⟨λp B q L Q E k=>?_⟩⟩
    . refine AB λF=>?_;obtain⟨i,U,V,W⟩:=JN Y C;obtain⟨n,t,rfl,_⟩:=f i _ _ V W;refine F ?_;try clear F
      exact .now
    . refine AB λF=>?_;obtain⟨i,U,V,W⟩:=JN Y (K p B);obtain⟨j,ls,N,O⟩:=JN Y (K q L);obtain⟨n,t,M,_⟩:=f i _ _ V W;obtain⟨m,t',u2,_⟩:=f j _ _ N O;refine F ?_;try clear F
      rw[M,u2]at k⊢;rw[tT];refine oneLt_str ?_;have e:Ae (n.cps.toList<m.cps.toList)=BB [.inr n] [.inr m]:=by show _=if(CJ n:AL)=CJ m then AQ else Ae (n.cps.toList<m.cps.toList);grind
      rw[e];exact k|cT b Y hn f=>
    have G:∀u∈vs,∃U,F2 s.heap u U/\Ex h u=U/\U.map B9=b:=λu hu=>by obtain⟨i,U,V,W⟩:=JN Y hu;obtain⟨t,z⟩:=f i u U V W;refine⟨U,?_,t.kf,z⟩;obtain⟨a,o,D,m,rfl,e,c,d,r⟩:=t;exact⟨a,o,D,m,rfl,(by grind),c,d,r⟩
    refine⟨tuples' AH,λQ E q=>?_,⟨λp B q L Q E k=>?_⟩⟩;.
      have X:∀(l:List AK),(∀u∈l,u∈vs)->∃H,vF s.heap l H/\H.length=l.length/\∀v∈H,Dw v/\B9 (BK v)=b.headD AH:=λl=>by induction l with |nil=>exactλ_=>⟨[],trivial,rfl,(by grind)⟩|cons u l ih=> intro hu;obtain⟨H,I,R,S⟩:=ih (by grind);obtain⟨U,⟨a,o,D,m,rfl,e,c,d,r,Z⟩,_,z⟩:=G u (by grind);obtain⟨l0⟩:=D;match l0,r,Z with
          |[],r,_=>grind|f0::l1,r,Z=> refine⟨f0::H,vG e c d rfl I,by grind,λv C=>?_⟩;grind
      refine AB λF=>?_;obtain⟨H,I,R,S⟩:=X vs λ_ h=>h;refine F ?_;try clear F
      cases hh:b.headD AH with
      |true=> refine Yf (T:=.type "int") I (by(first|lia|omega)) (λv C=>?_) (by decide) q;obtain⟨Z,z⟩:=S v C;rw[hh]at z;cases v<;>first|exact Z.elim|exact Fs (show AH=AQ from z)|exact Fs (by assumption)|exact .now
      |false=> refine Yf (T:=.type "str") I (by(first|lia|omega)) (λv C=>?_) (by decide) q;obtain⟨Z,z⟩:=S v C;rw[hh]at z;cases v<;>first|exact Z.elim|exact Fs (by assumption)|exact Fs (show AQ=AH from z)|exact .now
    . refine AB λF=>?_;obtain⟨U,⟨a,o,D,m,M,e,c,d,r,Z⟩,I,z1⟩:=G _ (K p B);obtain⟨ls,⟨a',o',J,m',u2,e',c',d',r',P⟩,R,z2⟩:=G _ (K q L);refine F ?_;try clear F
      have k:Q (BB (Ex h p.1) (Ex h q.1)) s:=k;rw[I,R,<-r,<-r']at k;rw[M,u2];have g:=by
        have y:(D.toList.map BK).map B9=(J.toList.map BK).map B9:=by rw[r,r',z1,z2]
        rw[EO,EO]at y;exact y
      have el:D.size=J.size:=by have:=yZ LA g;simpa using this
      refine vN e d e' d' ?_;rw[y4 (by(first|lia|omega))];exact Wd _ _ 0 Z P g k
inductive Kr(K:Ar)(H:AI):List AE->List (List AL)->Prop|cI(ns:List Int):Kr K H (ns.map AE.int) (ns.map λn=>[.inl n])|cS(zs:List AG):Kr K H (zs.map AE.str) (zs.map λz=>[.inr z])|cT{xs:List AE}{kss:List (List AL)}(sh:List Bool):sh≠[]->BP (λx ks=>(∃a,x=.ref a/\B8 K H a (ks.map Ax))/\ks.map B9=sh) xs kss->Kr K H xs kss
theorem KD{U:List E}(p:U.Perm B):∀{J:List C},BP F J B->∃D,D.Perm J/\BP F D U:=by induction p with
 |nil=>intro J h;cases h;exact⟨[],.nil,.nil⟩|cons x _ K=>intro J h;cases h with|cons W Y=>
   refine AB λV=>?_;obtain⟨D,z,A⟩:=K Y;refine V ?_;try clear V
   exact⟨_,z.cons _,.cons W A⟩|swap x y l=>intro J h;cases h with|cons W Y=>cases Y with|cons H I=>exact⟨_,nS _ _ _,.cons H (.cons W I)⟩
 |trans _ _ Z q=>
  intro J h;refine AB λV=>?_;obtain⟨N,z,A⟩:=q h;obtain⟨G,L,M⟩:=Z A;refine V ?_;try clear V
  exact⟨G,L.trans z,M⟩
theorem CZ:∀{l:List D}{m:List J},BP F l m->l.length=m.length/\∀(i:Nat)a b,l[i]?=AA a->m[i]?=AA b->F a b|_,_,.nil=>(by grind)|_,_,.cons h r=>by obtain⟨U,V⟩:=CZ r;grind
theorem IW:∀{ks:List AL}{us:List AK},BJ (ks.map Ax) us->us.map BK=ks/\∀v∈us,Dw v|[],_,h=>by cases h;grind|k::ks,_,h=>by cases h with|cons F J=>obtain⟨e,f⟩:=IW J;cases k with|inl i=>obtain⟨t,rfl⟩:=F;exact⟨by rw[DM,e];rfl,λv D=>by rcases CB.mp D with rfl|D;exact GG;grind⟩|inr x=>obtain⟨t,rfl⟩:=F;exact⟨by rw[DM,e];rfl,λv D=>by rcases CB.mp D with rfl|D;exact GG;grind⟩
theorem Kr.ajo{X:BY}{s:AY}(I:AZ X A e H s)(h:Kr X.K H xs kss)(r:BJ xs its):Hg s.heap its kss:=by have S:=r.ai;cases h with
 |cI c=>
  refine .cI (by grind) λi u q Y D=>?_;rw[Bx]at D;refine AB λF=>?_;obtain⟨n,J,rfl⟩:=D2.mp D;obtain⟨B,U,t,W⟩:=r.aae (i:=i) (x:=.int n) (by grind);refine F ?_;try clear F
  grind|cS d=>
  refine .cS (by grind) λi u q Y D=>?_;rw[Bx]at D;refine AB λF=>?_;obtain⟨n,J,rfl⟩:=D2.mp D;obtain⟨B,U,t,W⟩:=r.aae (i:=i) (x:=.str n) (by grind);refine F ?_;try clear F
  grind|cT P L p=>
  obtain⟨Q,E⟩:=CZ p;refine .cT P (by(first|lia|omega)) L λi u q Y D=>?_;have R:=(BN.mp D).1;have J:xs[i]?=AA xs[i]:=(by grind);refine AB λF=>?_;obtain⟨⟨a,C,N⟩,z⟩:=E i _ _ J D;obtain⟨B,U,W⟩:=r.aae J;rw[Y]at U;cases U;rw[C]at W;obtain rfl:u=C3 a:=W;obtain⟨Z,O,⟨o,M,G,n,K⟩,_⟩:=I.dy N;obtain⟨T,b⟩:=IW O;refine F ?_;try clear F
  exact⟨⟨a,o,_,n,rfl,M,G,K,by grind,by grind⟩,z⟩
theorem jY{X:BY}{its:List AK}{ys:List AE}{kss:List (List AL)}{h:BG}(r:BJ ys its)(H:Hg h its kss){D:Array Au}(p:D.Perm (Gs its))(u:Cz (O:=FD) (Ex h) D 0 (Gs its).size):∃F:List (AE×List AL),F.Perm (ys.zip kss)/\BJ (F.map (·.1)) (D.map (·.2)).toList/\(F.map (·.2)).Pairwise (λa b=>BB b a=AQ):=by
  have G:D.toList.Perm (its.zip its):=by rw[<-OY];exact M5.mp p
  have f:∀q∈D.toList,q.1=q.2/\q.1∈its:=λq N=>YH (G.mem_iff.mp N);have I:(D.map (·.2)).toList=D.toList.map (·.2):=rG ..;have Q:=by have:=G.map (·.2);rwa[oA (Al _)]at this
  have c:=r.ai;have B:=H.dh;have P:BP (λ(q:AE×List AL)v=>BQ q.1 v/\Ex h v=q.2) (ys.zip kss) its:=by refine Ez (by grind) λi a b Y J=>?_;obtain⟨K,L⟩:=JX.mp Y;obtain⟨v,Z,M⟩:=r.aae K;rw[J]at Z;cases Z;exact⟨M,H.kf i b a.2 J L⟩
  refine AB λE=>?_;obtain⟨F,R,S⟩:=KD Q P;obtain⟨e,T⟩:=CZ S;refine E ?_;try clear E
  refine⟨F,R,?_,?_⟩
  . rw[I];refine Ez (by grind) λi a b Y J=>?_;grind
  . rw[E3];intro i j z A U;rw[A0]at z A;have d:=p.size_eq.symm;have C:∀k(B:k<F.length),(F[k]).2=A7 (O:=FD) (Ex h) D k:=λk B=>by
      have W:k<D.size:=by grind
      rw[DD W];have J:(D.toList.map (·.2))[k]?=AA D[k].2:=by grind
      grind
    have:=u i j (CU _) (R5 U) (by grind);rw[<-C i z,<-C j A]at this;rw[OR,OR];exact this
theorem V2{X:BY}{K:Ar}(L:X.K=K:=by rfl):Ea X (.builtin "sorted") (λxs H Q=>∃(p:AD)(ys:List AE)(kss:List (List AL)),xs=[.ref p]/\Bc K H p ys/\Kr K H ys kss/\∀l(F:List (AE×List AL)),H l=AF->F.Perm (ys.zip kss)->(F.map (·.2)).Pairwise (λa b=>BB b a=AQ)->Q (.ref l) (AN H l (.lst (F.map (·.1))))):=by
  subst L;intro B s t H xs n Q I r h;refine AB λW=>?_;obtain⟨p,ys,kss,rfl,N,d,q⟩:=h;obtain⟨u,rfl,c⟩:=HH r;cases c;obtain⟨D,z,R,i⟩:=I.fk N;refine W ?_;try clear W
  have E:=d.ajo I z;have M:=R.isList;have A:=z.ai;refine uC oV oZ oT (tO _) ?_;unfold Builtin.«sorted»;refine A4 (m:=qF "sorted" 1 1 _) (Cg ?_);refine A4 (oQ M ?_ (by(first|lia|omega)));refine A4 (SO ?_ (by(first|lia|omega)));have U:((s.heap.push (Bl "list" #[] 0)).update s.heap.objs.size (DC (.++D.toArray))).objs.size=s.heap.objs.size+1:=by simp_all
  have J:(((s.heap.push (Bl "list" #[] 0)).update s.heap.objs.size (DC (.++D.toArray))).push (Bl "list" D.toArray 0)).get? (s.heap.objs.size+1)=AA (Bl "list" D.toArray 0):=by rw[<-U];exact FZ _ rfl
  have k:∀b o,s.heap.get? b=AA o->(((s.heap.push (Bl "list" #[] 0)).update s.heap.objs.size (DC (.++D.toArray))).push (Bl "list" D.toArray 0)).get? b=AA o:=λb o e=>Cn _ ((YU _ _ _ _ (ET (CP e))).trans (Cn _ e));rw[U];refine A4 (Ol (Yq pA ⟨_,J,rfl⟩ oS (Y2 (O:=FD) J (by(first|lia|omega)) (Ex s.heap) (λf j G=>?_) λZ p u=>⟨_,rfl,Cg ⟨_,rfl,?_⟩⟩) (by rfl)))
  . refine E.akx G λa o Y m _ e _ _=>?_;grind
  . refine AB λW=>?_;obtain⟨F,C,S,T⟩:=jY (X:=X) z E p u;obtain⟨e,g⟩:=tY s.heap D (Z.map (·.2));refine W ?_;try clear W
    have P:(F.map (·.1)).length<=Aw:=by rw[A0,C.length_eq,Rx];(first|lia|omega)
    refine⟨.ref (s.heap.objs.size+1),_,I.qk (a:=s.heap.objs.size+1) (o:=.lst (F.map (·.1))) (t':=s.toks) (λb o e=>tZ e) (Ii _) ⟨P,_,e,S,by assumption⟩,rfl,q _ F (I.bx.bo (Ii _)) C T⟩
theorem WG(A:Cy)(s:AY)(J:Dw x)(U:Dw y)(F:B9 (BK x)=B9 (BK y)):YY A s x y (Ae (BK x=BK y)):=by intro D w E Q h;exact Q9 J U F h
theorem lK(A:Cy)(s:AY)(D:Dw x)(F:Dw y)(J:B9 (BK x)=B9 (BK y))(prog:CQ)(w:Bq)(E:AK->AY->Prop)(Q:AK->AY->Prop)(h:Q (.bool (Fj (BK x) (BK y))) s):Av (Ao prog w) A (richCompare .Lt x y) Q E s:=by
 cases x<;>first|exact D.elim|skip
 all_goals(cases y<;>first|exact F.elim|exact Fs _|exact Fs (by assumption)|skip)
 .exact(oY h)
 .exact(tU h)
structure J7(vs ws:List AK)(n m:Nat)(r:Bool):Prop where
 ex:∃(us zs:List AK),vs=us++zs/\(zs=[]\/ws.length<=us.length)/\(∀v∈us,Dw v)/\(∀v∈ws,Dw v)/\(∀(i:Nat)x y,us[i]?=AA x->ws[i]?=AA y->B9 (BK x)=B9 (BK y))/\BB (us.map BK) (ws.map BK)=r
 dh:vs.length+m=ws.length+n
theorem Xi(l b:AD)(F D:Array AK)(n n2:Nat)(dd O:Option AD)(sl m:Array (Option AK))(r:Bool)(X:J7 F.toList D.toList F.size D.size r):Meets (Builtin.«tuple.__lt__» ⟨[.ref l,.ref b],[]⟩) (λ_ R s=>s.heap.get? l=AA {cls:=.type "tuple",dict:=dd,data:=.seq F n,slots:=sl}/\s.heap.get? b=AA {cls:=.type "tuple",dict:=O,data:=.seq D n2,slots:=m}/\R (.ok (.ret (.bool r))) s):=.of_wp λW w A R s h=>by
 refine AB λI=>?_;obtain⟨K,g,d,M,L⟩:=s;obtain⟨hl,hb,h⟩:=h;refine I ?_;try clear I
 have f2:=t6;wp_walk using wpAny_loadPart' hl,wpAny_loadPart' hb,qS _ (λY b k=>b.1=AF/\k=⟨K,g,d,M,L⟩/\∃(N U:List AK)(q:Bool),Y=N.zip U/\J7 N U F.size D.size q/\R (.ok (.ret (.bool q))) ⟨K,g,d,M,L⟩) _;case turn=>
  rintro⟨y,x⟩Y b k⟨z,rfl,N,U,q,C,f,G⟩;refine AB λI=>?_;obtain⟨⟨Z,o,rfl,E,P,Q,S,V⟩,J⟩:=f;refine I ?_;try clear I
  cases U with |nil=>rw[tD]at C;cases C|cons c U=>cases Z with |nil=>simp_all|cons a Z=> rw[K8,X5]at C;injection C with j B;injection j with hy X;subst hy X;have p:=P y DR;have t:=Q x DR;have u:=S 0 y x rfl rfl;have V:(if BK y=BK x then BB (Z.map BK) (U.map BK)else Fj (BK y) (BK x))=q:=V;refine A4 (WG A.in1 ⟨K,g,d,M,L⟩ p t u W w _ _ ?_);cases e:Ae (BK y=BK x)with |true=> rw[yY (y6 e)]at V;wp_walk;refine⟨rfl,rfl,Z++o,U,q,B,⟨⟨Z,o,rfl,?_,λv H=>P v (ER _ H),λv H=>Q v (ER _ H),λi x y e1 e2=>S (i+1) x y (by simpa using e1) (by simpa using e2),V⟩,?_⟩,G⟩;all_goals grind|false=>rw[yX (zA e)]at V;have T:=lK A.in1 ⟨K,g,d,M,L⟩ p t u W w;wp_walk using T;exact⟨_,rfl,by rw[V];exact G⟩
 case fin=>
  rintro⟨b1,b2⟩k⟨z,rfl,N,U,q,C,⟨⟨Z,o,rfl,E,P,Q,S,V⟩,J⟩,G⟩;simp only at z;subst z;have H:q=Ae (F.size<D.size):=by rw[<-V];cases Z with
   |nil=>
    rcases E with E|E
    . subst E;cases U with |nil=>simp only[JY,FG]at J;exact(y4 (by(first|lia|omega))).symm|cons c U=>simp only[JY,FG,F6]at J;exact(y3 (by(first|lia|omega))).symm
    . have:U=[]:=Xu (by simpa using E);subst this;simp only[JY,oF]at J;exact(y4 (by(first|lia|omega))).symm|cons a Z=>cases U with |nil=> simp only[JY,F6,K8]at J;exact(y4 (by(first|lia|omega))).symm|cons c U=> rw[K8,X5]at C;cases C
  rw[H]at G;wp_walk;exact⟨_,rfl,by simpa[uA]using G⟩
 case h=>exact⟨rfl,rfl,F.toList,D.toList,r,rfl,X,h⟩
noncomputable def lC(K:Ar):DU:=λx y H Q=>∃a b D J F,x=.ref a/\y=.ref b/\B8 K H a (D.map Ax++J)/\B8 K H b (F.map Ax)/\(J=[]\/F.length<=D.length)/\(∀(i:Nat)k m,D[i]?=AA k->F[i]?=AA m->B9 k=B9 m)/\Q (.bl (BB D F)) H
theorem ON:∀{xs ys:List AE}{us:List AK},BJ (xs++ys) us->∃vs D,us=vs++D/\BJ xs vs/\BJ ys D |[],ys,us,h=>⟨[],us,rfl,.nil,h⟩|x::xs,ys,_,h=>by cases h with|cons J U=>
 refine AB λF=>?_;obtain⟨vs,D,e,W,Y⟩:=ON U;refine F ?_;try clear F
 exact⟨_,D,by grind,.cons J W,Y⟩
theorem jS{X:BY}{K:Ar}(j:X.A.units<GC)(d:X.K=K:=by rfl):CG X (EJ .Lt) (lC K):=by
 subst d;intro V s σ H x y v u Q I rx ry h;refine AB λO=>?_;obtain⟨a,b,Z,zs,z,rfl,rfl,e,f,hz,g,q⟩:=h;cases rx;cases ry;obtain⟨k,r1,w,_⟩:=I.dy e;obtain⟨D,r2,p2,_⟩:=I.dy f;obtain⟨B,C,rfl,P,q2⟩:=ON r1;obtain⟨l,T⟩:=IW P;obtain⟨m,c⟩:=IW r2;have o:=P.ai;have p:=r2.ai;have l3:=q2.ai;rw[A0]at o p;obtain⟨⟨R,S,G,sl⟩,N,L,n,M⟩:=id w;obtain⟨⟨E,Y,W,A⟩,U,F,t,J⟩:=id p2;refine O ?_;try clear O
 simp only at L M F J;subst L M F J;have r:J7 (B++C).toArray.toList D.toArray.toList (B++C).toArray.size D.toArray.size (BB Z z):=by
  refine⟨⟨B,C,by simp,?_,T,by simpa using c,λi x y e1 e2=>?_,by simp[l,m]⟩,by simp;(first|lia|omega)⟩;.grind
  .refine g i _ _ (by grind) (by grind)
 exact qK (op:=.Lt) ⟨_,N,rfl⟩ ⟨_,U,rfl⟩ uS uK (by rfl) (Xi a b _ _ n t S Y sl A _ r) ⟨N,U,show Od (BB Z z)≠vE/\ED X V σ Q (.bool (BB Z z)) s from⟨(by grind),⟨.bl _,H,I,rfl,q⟩⟩⟩ j
noncomputable def CH(H:AI)(xs:List AE)(kss:List (List AL)):Prop:=BP (λx D=>∃a,x=.ref a/\H a=AA (.tup (D.map Ax))) xs kss
noncomputable def Bp(H H':AI):Prop:=∀p D,H p=AA (.tup D)->H' p=AA (.tup D)
theorem Ap.tp(s:Ap H H'):Bp H H':=λp D e=>s _ _ e
theorem Hh(H:AI):Bp H H:=λ_ _ h=>h
theorem Bp.aa(a:Bp H D)(b:Bp D F):Bp H F:=λp J e=>b _ _ (a _ _ e)
theorem Bp.gf(t:Bp H H')(h:H' b=AA u)(D:∀xs,u≠.tup xs):Bp H (AN H' b o):=λp xs e=>by
 have e:=t p xs e;have:p≠b:=λz=>by rw[z,h]at e;exact D xs (CM e)
 rw[Ac this];exact e
theorem GY{D J:Type}{F G:D->J->Prop}(h:∀a b,F a b->G a b):∀{l:List D}{m:List J},BP F l m->BP G l m|_,_,.nil=>.nil|_,_,.cons a r=>.cons (h _ _ a) (GY h r)
theorem Dk:∀{l D:List U}{m J:List V},BP F l m->BP F D J->BP F (l++D) (m++J)|_,_,_,_,.nil,h=>h|_,_,_,_,.cons a r,h=>.cons a (Dk r h)
theorem MG:∀{l:List D}{m:List J}(n:Nat),BP F l m->BP F (l.take n) (m.take n)|_,_,0,_=>.nil|_,_,_+1,.nil=>.nil|_,_,n+1,.cons a r=>.cons a (MG n r)
theorem Ky:∀{l:List D}{m:List J}(n:Nat),BP F l m->BP F (l.drop n) (m.drop n)|_,_,0,h=>h|_,_,_+1,.nil=>.nil|_,_,n+1,.cons a r=>Ky n r
theorem CH.ab(h:CH H xs kss)(t:Bp H H'):CH H' xs kss:=GY (λx D⟨a,e,q⟩=>⟨a,e,t _ _ q⟩) h
theorem CH.dh{xs:List AE}{kss:List (List AL)}(h:CH H xs kss):xs.length=kss.length:=(CZ h).1
theorem CH.at(h:CH H xs kss){i:Nat}(e:xs[i]?=AA x):∃a ks,x=.ref a/\kss[i]?=AA ks/\H a=AA (.tup (ks.map Ax)):=by
 have U:=(BN.mp e).1;have D:kss[i]?=AA (kss[i]'(by rw[<-h.dh];exact U)):=Cm _;refine AB λF=>?_;obtain⟨a,J,q⟩:=(CZ h).2 i _ _ e D;refine F ?_;try clear F
 exact⟨a,_,J,D,q⟩
theorem CH.adm{ks:List AL}(h:CH H xs kss)(e:H p=AA (.tup (ks.map Ax))):CH H (xs++[.ref p]) (kss++[ks]):=Dk h (.cons ⟨p,rfl,e⟩ .nil)
theorem Gq(H:AI):CH H [] []:=F9
noncomputable def JL:AL->Je|.inl i=>.int i|.inr x=>.str x
noncomputable def IZ(ks:List AL):Je:=.tuple (ks.map JL)
noncomputable def RF:AL->Bool|.inl _=>AH|.inr x=>YX x
noncomputable def Kx(ks:List AL):Bool:=ks.all RF
theorem Q8{K:Ar}:∀ks:List AL,JA K H (ks.map Ax) (ks.map JL)|[]=>.nil|.inl i::r=>.cons (.int i) (Q8 r)|.inr x::r=>.cons (.str x) (Q8 r)
theorem CH.amg{K:Ar}:∀{xs:List AE}{kss:List (List AL)},CH H xs kss->JA K H xs (kss.map IZ)|_,_,F9=>.nil|_,_,Cc ⟨a,e,q⟩ r=>by subst e;exact .cons (.tup (As q) (Q8 _)) (CH.amg r)
theorem WX:∀ks:List AL,Kx ks=AH->Me (ks.map JL)=AH/\Mf (ks.map JL)=0
 |[],_=>⟨rfl,rfl⟩|k::r,h=>by
  have h:(RF k&&Kx r)=AH:=h;refine AB λF=>?_;obtain⟨D,J⟩:=Bool.and_eq_true_iff.mp h;obtain⟨a,b⟩:=WX r J;refine F ?_;try clear F
  cases k with |inl i=>simp[JL,Me,Md,Mf,Ob,a,b]|inr x=>have D:YX x=AH:=D;simp[JL,Me,Md,Mf,Ob,a,b,D]
theorem WY:∀kss:List (List AL),(∀ks∈kss,Kx ks=AH)->Me (kss.map IZ)=AH/\Mf (kss.map IZ)<=1
 |[],_=>⟨rfl,by decide⟩|ks::r,h=>by
  refine AB λD=>?_;obtain⟨a,b⟩:=WY r λz F=>h z (ER _ F);obtain⟨c,d⟩:=WX ks (h ks DR);refine D ?_;try clear D
  refine⟨by simp[IZ,Me,Md,a,c],?_⟩;simp[IZ,Mf,Ob,d];(first|lia|omega)
theorem MP{kss:List (List AL)}(h:∀ks∈kss,Kx ks=AH):YZ (.list (kss.map IZ))=AH:=by obtain⟨a,b⟩:=WY kss h;simp[YZ,Md,Ob,a];(first|lia|omega)
theorem CH.dv{K:Ar}{kss:List (List AL)}(h:CH H xs kss)(e:H l=AA (.lst xs)):G1 K H (.ref l) (.list (kss.map IZ)):=.lst (Ai e) h.amg
theorem CH.aez{K:Ar}(h:CH H xs kss)(W:sh≠[])(Y:∀ks∈kss,ks.map B9=sh):Kr K H xs kss:=by
 refine .cT sh W (Ez h.dh λi a b J D=>?_);refine AB λF=>?_;obtain⟨p,U,q⟩:=(CZ h).2 i a b J D;refine F ?_;try clear F
 exact⟨⟨p,U,As q⟩,Y b (DW D)⟩
theorem CH.ajl{xs:List AE}(h:CH H xs kss){D:List (AE×List AL)}(p:D.Perm (xs.zip kss)):CH H (D.map (·.1)) (D.map (·.2))/\(D.map (·.2)).Perm kss:=by
  have A:=h.dh;constructor
  . refine Ez (by rw[A0,A0]) λi a b J F=>?_;rw[Bx]at J F;refine AB λW=>?_;obtain⟨q,U,rfl⟩:=D2.mp J;rw[U]at F;cases F;obtain⟨j,z⟩:=oC.mp (p.mem_iff.mp (DW U));obtain⟨Y,Z⟩:=JX.mp z;refine W ?_;try clear W
    exact(CZ h).2 j _ _ Y Z
  . have:=p.map (·.2);rwa[oA (by(first|lia|omega))]at this
noncomputable def DP(kss:List (List AL)):Prop:=kss.Pairwise λa b=>BB b a=AQ
theorem XQ:∀{a b:List (List AL)},a.Perm b->DP a->DP b->a=b
  |[],b,p,_,_=>by simp_all|x::a,[],p,_,_=>by simp_all|x::a,y::b,p,Z,q=>by
    refine AB λJ=>?_;obtain⟨U,V⟩:=Ga.mp Z;obtain⟨W,Y⟩:=Ga.mp q;refine J ?_;try clear J
    have e:x=y:=by
      have D:y∈x::a:=(by grind);have F:x∈y::b:=(by grind);rcases CB.mp D with e|D;.grind
      . rcases CB.mp F with e|F;.exact e
        .exact MA (W x F) (U y D)
    subst e;rw[XQ (by simp_all) V Y]
theorem Ku{K:Ar}{M:List Nat}{xs:List AE}(z:Nat->Am->List AE->AI->Prop)(n:xs.length<=Aw)(c:z 0 (Dz O AF++M.map (FV T)) [] H)(j:∀i W F Y,z i W F Y->Bc K Y a xs)(k:∀(i:Nat)x W F Y(L:AE->Am->AI->Prop)(I:Am->AI->Prop),xs[i]?=AA x->F.length<=i->z i W F Y->(∀y U Z,z (i+1) U (F++[y]) Z->L y U Z)->(∀U Z,z (i+1) U F Z->I U Z)->g x W Y λJ Z=>S J Z λb E=>if b=AH then R J E λy G=>L y J G else I J E)(f:∀W F Y,F.length<=xs.length->z xs.length W F Y->∀D,Y D=AF->Q (.ref D) (AN Y D (.lst F))):Ln O M g S R T Q (J5 K a) H:=by
  refine⟨λi m W F C=>m=xs.length-i/\i<=xs.length/\F.length<=i/\z i W F C,⟨xs.length,by simp,CU _,CU _,c⟩,?_⟩;intro i m W F C d;refine AB λP=>?_;obtain⟨rfl,l,N,p⟩:=d;refine P ?_;try clear P
  have q:=j i W F C p;by_cases A:i<xs.length
  . refine .inr ⟨⟨xs,xs[i],q,by simp[A]⟩,by(first|lia|omega),λx Y y=>?_⟩;obtain⟨e,y⟩:=y;subst e;have X:=y xs q;exact k i x W F _ (λy J G=>∃B,B<xs.length-i/\B=xs.length-(i+1)/\i+1<=xs.length/\(F++[y]).length<=i+1/\z (i+1) J (F++[y]) G) (λJ E=>∃B,B<xs.length-i/\B=xs.length-(i+1)/\i+1<=xs.length/\F.length<=i+1/\z (i+1) J F E) X N p (λy U Z h=>⟨_,by(first|lia|omega),rfl,A,by rw[CA,X0];(first|lia|omega),h⟩) λU Z h=>⟨_,by(first|lia|omega),rfl,A,by(first|lia|omega),h⟩
  . have e:i=xs.length:=by(first|lia|omega)
    subst e;exact .inl ⟨⟨xs,q,Al _⟩,f W F C N p⟩
theorem G5{K:Ar}{G:List Nat}{xs:List AE}(z:Nat->Am->List AE->AI->Prop)(S:xs.length<=Aw)(O:z 0 (Dz I AF++G.map (FV L)) [] H)(R:∀i Y J U,z i Y J U->Bc K U a xs)(T:∀(i:Nat)x Y J U(q:AE->Am->AI->Prop),xs[i]?=AA x->J.length<=i->z i Y J U->(∀y B W,z (i+1) B (J++[y]) W->q y B W)->g x Y U λF W=>A F W λy Z=>q y F Z)(P:∀Y J U,J.length<=xs.length->z xs.length Y J U->∀D,U D=AF->Q (.ref D) (AN U D (.lst J))):Ln I G g Ro A L Q (J5 K a) H:=by
 refine Ku (K:=K) (xs:=xs) z S O R (λi x Y J U q E M N p X _=>?_) P;have e:(λ(F:Am)(W:AI)=>Ro F W λb C=>if b=AH then A F C λy Z=>q y F Z else E F C)=λF W=>A F W λy Z=>q y F Z:=by funext F W;show(if AH=AH then A F W λy Z=>q y F Z else E F W)=_;rw[yY rfl]
 rw[e];exact T i x Y J U q M N p X
theorem MD[DecidableEq F]{q:F×AE}(h:q∈Bb kvs k v):q=(k,v)\/(q∈kvs/\q.1≠k):=by
  unfold Bb at h;split at h
  . refine AB λD=>?_;obtain⟨p,U,e⟩:=BO.mp h;refine D ?_;try clear D
    by_cases z:p.1=k;.rw[yY z]at e;rw[<-e,z];exact .inl rfl
    .rw[yX z]at e;rw[<-e];exact .inr ⟨U,z⟩
  . rename_i J;rcases DA.mp h with h|h;.refine .inr ⟨h,λz=>J (Rr.mpr ⟨q,h,y3 z⟩)⟩
    .exact .inl (By.mp h)
theorem N3[DecidableEq J](kvs:List (J×AE))(k:J)(v:AE):(Bb kvs k v).map (·.1)=if k∈kvs.map (·.1)then kvs.map (·.1)else kvs.map (·.1)++[k]:=by
  by_cases h:k∈kvs.map (·.1)
  . rw[yY h];refine AB λD=>?_;obtain⟨p,F,e⟩:=BO.mp h;refine D ?_;try clear D
    unfold Bb;rw[yY (Rr.mpr ⟨p,F,y3 e⟩),EO];refine Ry λq _=>?_;show(if q.1=k then(q.1,v)else q).1=q.1;split<;>rfl
  . rw[yX h];unfold Bb;rw[yX (λq=>?_),C9];.rfl
    . refine AB λD=>?_;obtain⟨p,F,e⟩:=Rr.mp q;refine D ?_;try clear D
      exact h (BO.mpr ⟨p,F,y6 e⟩)
theorem ME{F:Type}[DecidableEq F]{kvs:List (F×AE)}{k:F}{v:AE}(h:(kvs.map (·.1)).Nodup):((Bb kvs k v).map (·.1)).Nodup:=by
 rw[N3];split;.exact h
 . rename_i D;exact Wj h D
theorem RH[DecidableEq D](kvs:List (D×AE))(k:D)(v:AE):(Bb kvs k v).length<=kvs.length+1:=by
 have e:=yZ LA (N3 kvs k v);rw[A0]at e;rw[e];split;.rw[A0];(first|lia|omega)
 .rw[CA,A0];simp
theorem Hq{J:Type}[DecidableEq J]{kvs:List (J×AE)}{k:J}{v:AE}(h:Bm kvs k=AA v):(k,v)∈kvs:=by
 unfold Bm at h;refine AB λF=>?_;obtain⟨p,D,U⟩:=D2.mp h;refine F ?_;try clear F
 have:=sG (p:=λW:J×AE=>Ae (W.1=k)) D;have e:p.1=k:=y6 this;rw[<-e,<-U];exact List.mem_of_find?_eq_some D
theorem MS{D:Type}[DecidableEq D]{kvs:List (D×AE)}{k:D}(h:k∈kvs.map (·.1)):∃v,Bm kvs k=AA v:=by cases e:Bm kvs k with|some v=>exact⟨v,rfl⟩|none=>exact absurd h (Xo e)
theorem Lz:∀{l:List J}{n m:Nat},(∀(i:Nat)x,l[i]?=AA x->(p x=AH↔n<=i/\i<m))->(l.drop n).take (m-n)=l.filter p|[],n,m,_=>by simp|x::l,0,0,h=>by have D:=h 0 x rfl;have F:=Lz (n:=0) (m:=0) λi y e=>(h (i+1) y (by simpa using e)).trans (by(first|lia|omega));rw[FX,yX (λz=>by have:=D.mp z;(first|lia|omega)),<-F];rfl|x::l,0,m+1,h=>by have D:=h 0 x rfl;have F:=Lz (n:=0) (m:=m) λi y e=>(h (i+1) y (by simpa using e)).trans (by(first|lia|omega));rw[FX,yY (D.mpr ⟨Al _,YA _⟩),<-F];rfl|x::l,n+1,m,h=>by have D:=h 0 x rfl;have F:=Lz (n:=n) (m:=m-1) λi y e=>(h (i+1) y (by simpa using e)).trans (by(first|lia|omega));rw[FX,yX (λz=>by have:=D.mp z;(first|lia|omega)),<-F];congr 1;(first|lia|omega)
theorem WJ[DecidableEq U](f:W->U):∀(L:List W)(ks:List U),ks.Nodup->(∀x∈L,f x∈ks)->(ks.flatMap λk=>L.filter λx=>Ae (f x=k)).Perm L
  |[],ks,_,_=>by
    have:(ks.flatMap λk=>([]:List W).filter λx=>Ae (f x=k))=[]:=by simp
    rw[this]|x::L,ks,J,Y=>by
    have C:=WJ f L ks J λy B=>Y y (ER _ B);refine Xs ?_ (C.cons x);have V:∀ks:List U,ks.Nodup->(ks.flatMap λk=>(x::L).filter λx=>Ae (f x=k)).Perm (if f x∈ks then x::(ks.flatMap λk=>L.filter λx=>Ae (f x=k))else ks.flatMap λk=>L.filter λx=>Ae (f x=k)):=by intro ks;induction ks with|nil=>intro _;simp|cons k ks D=>
        intro J;obtain⟨Z,A⟩:=Ih.mp J;have D:=D A;rw[Fo,Fo];by_cases e:f x=k
        . have F:f x∉ks:=λz=>Z (e▸z);rw[yX F]at D;rw[yY (by rw[e];exact DR),FX,yY (by simpa using e),K8];exact(D.append_left _).cons x
        . rw[FX,yX (by simpa using e)];by_cases z:f x∈ks;. rw[yY z]at D;rw[yY (ER _ z)];exact(D.append_left _).trans sV
          . rw[yX z]at D;rw[yX (λq=>by rcases CB.mp q with q|q;exact e q;exact z q)];exact D.append_left _
    have:=V ks J;rwa[yY (Y x DR)]at this
noncomputable def Bs(d:AD)(H H':AI):Prop:=∀b o,b≠d->H b=AA o->H' b=AA o
theorem Ap.x(s:Ap H H')(d:AD):Bs d H H':=λb o _ e=>s b o e
theorem Bs.aa(a:Bs d H D)(b:Bs d D F):Bs d H F:=λc o n e=>b c o n (a c o n e)
theorem Bs.gf(a:Bs d H H'):Bs d H (AN H' d o):=λc u n e=>by rw[Ac n];exact a c u n e
theorem Bs.tp(a:Bs d H H')(h:H d=AA u)(D:∀xs,u≠.tup xs):Bp H H':=λp xs e=>a p _ (λz=>by rw[z,h]at e;exact D xs (CM e)) e
theorem Ci.agh(x:Ci P w H h)(J:H a=AF)(F:C5 P w (AN H a o) h a o):Ci P w (AN H a o) h:=λb u e=>by
 by_cases D:b=a;.subst D;rw[Ab]at e;grind
 . rw[Ac D]at e;exact(x b u e).abm (by grind) (λc q=>by rw[Ac (by grind)];exact q) λc U q=>by rw[Ac (by grind)];exact q
noncomputable def Lu(K:Ar)(a b:AD):FQ:=⟨λi H=>∃D F x y,Bc K H a D/\Bc K H b F/\D[i]?=AA x/\F[i]?=AA y,λi H x J=>∃p u v,x=.ref p/\H p=AF/\J=AN H p (.tup [u,v])/\(∀D,Bc K H a D->D[i]?=AA u)/\∀F,Bc K H b F->F[i]?=AA v,λi H=>∃D F,Bc K H a D/\Bc K H b F/\(D.length<=i\/F.length<=i)⟩
theorem nK{K:Ar}(a b z U V i1 i2:AD)(D:ZipApart z U V i1 i2 a b):JG P w K (.Tuple T x1 l) (Lu K a b) [z,U,V,i1,i2] z (λi h=>IsZip h z U V .none/\IsPair h U (.ref i1) (.ref i2)/\(∃u v,IsPair h V u v)/\h.IsListIter i1 a i/\h.IsListIter i2 b i)where
  ajh:=by simp
  cn:=λi h C c F=>by
    refine AB λW=>?_;obtain⟨L,J,⟨u,v,Y⟩,⟨o1,e1,c1,d1⟩,⟨o2,e2,c2,d2⟩⟩:=C;refine W ?_;try clear W
    grind
  ab:=λi h N C k=>by
    refine AB λW=>?_;obtain⟨L,J,⟨u,v,Y⟩,O,Q⟩:=C;refine W ?_;try clear W
    exact⟨k z (by simp) _ L,k U (by simp) _ J,(by grind),O.at λo q=>k i1 (by simp) o q,Q.at λo q=>k i2 (by simp) o q⟩
  abb:=by
    intro X hP hw hK F i j s σ H E I R C hg;subst hP hw hK;refine AB λW=>?_;obtain⟨xs,ys,x,y,r,A,B,t⟩:=hg;obtain⟨its,rv,p,hz1⟩:=I.fk r;obtain⟨f,M,p2,hz2⟩:=I.fk A;obtain⟨u,hu,ru⟩:=rv.aae B;obtain⟨u2,hu2,ru2⟩:=M.aae t;obtain⟨L,J,⟨u0,v0,Y⟩,O,Q⟩:=C;refine W ?_;try clear W
    refine wpAny_pyNext_zip_item D L J Y O Q p.isList p2.isList (x:=u) (y:=u2) (by simpa using hu) (by simpa using hu2) λN a1 a2 a3 a4 a5 a6 kk=>⟨_,rfl,wpAny_letOwnedTupleGo_zip a1 λm hz3 S=>?_⟩;have g:∀{c:AD}{o:A6},s.heap.get? c=AA o->s.heap.objs.size≠c:=λe=>X8 (CP e);have n1:=g L;have n2:=g J;have n3:=g Y;have n4:s.heap.objs.size≠i1:=by obtain⟨_,e,_⟩:=id O;exact g e
    have n5:s.heap.objs.size≠i2:=by obtain⟨_,e,_⟩:=id Q;exact g e
    have d:H s.heap.objs.size=AF:=I.bx.bo (Al _);have Z:∀c o,c∉[z,U,V,i1,i2]->s.heap.get? c=AA o->m.get? c=AA o:=λc o F q=>by have b1:c≠z:=λq=>F (by simp[q]);have b2:c≠V:=λq=>F (by simp[q]);have b3:c≠i1:=λq=>F (by simp[q]);have b4:c≠i2:=λq=>F (by simp[q]);exact(S.2 c b1).trans (kk c o b1 b2 b3 b4 q)
    have ht2:=(S.2 _ n1).trans a5;have G:Ci X.af X.w (AN H s.heap.objs.size (.tup [x,y])) m:=by refine(I.bx.abl [z,U,V,i1,i2] (λc F=>(R c F).1) Z).afb d ?_;exact⟨show 2<=Aw by decide,[u,u2],.cons ru (.cons ru2 .nil),⟨_,ht2,rfl,_,rfl⟩⟩
    have un:FR (Ew X.cb) [z,U,V,i1,i2] H (AN H s.heap.objs.size (.tup [x,y])) s.heap m:=by
      refine⟨(by grind),λc o q n hb B=>⟨o.slots,Z c o B q⟩,λc o q n B=>?_,(by grind),λc ys q=>?_,λc o u q=>?_,λc ps q=>?_⟩;.rw[Ac (by grind)];exact n
      .rw[Ac (BS q d)];exact q
      .rw[Ac (BS q d)];exact q
      .exact⟨#[],by rw[Ac (BS q d),Y9];exact q⟩
    have I2:=I.acw (s':={s with heap:=m}) (ch:=[z,U,V,i1,i2]) rfl un G I.jx λc F=>by obtain⟨q0,q1,q2,q3,q4,q5⟩:=R c F;exact⟨q3,q1,q4,q5⟩
    refine⟨.ref s.heap.objs.size,_,I2,rfl,⟨_,x,y,rfl,d,rfl,λys t=>by rw[I.vd t r];exact B,λws hw=>by rw[I.vd hw A];exact t⟩,⟨hz3,?_,⟨u,u2,?_⟩,?_,?_⟩,λc F=>?_⟩;.exact(S.2 U D.TIz).trans (kk U _ D.TIz D.TITO D.TIi1 D.TIi2 J)
    .exact(S.2 V D.TOz).trans a2
    .exact a3.at λo q=>(S.2 i1 D.i1z).trans q
    .exact a4.at λo q=>(S.2 i2 D.i2z).trans q
    . have hb':c≠s.heap.objs.size:=(by grind);rw[Ac hb'];exact(R c F).1
  aaz:=by
    intro X hP hw hK F i j s σ H E I R C hg;subst hP hw hK;refine AB λW=>?_;obtain⟨xs,ys,r,A,B⟩:=hg;obtain⟨its,rv,p,hz1⟩:=I.fk r;obtain⟨f,M,p2,hz2⟩:=I.fk A;obtain⟨L,J,⟨u0,v0,Y⟩,O,Q⟩:=C;refine W ?_;try clear W
    have l1:=rv.ai;have l2:=M.ai;refine wpAny_pyNext_zip_end (I.ok.hd F) D L J Y O Q p.isList p2.isList ?_ λN kk=>⟨rfl,?_⟩;.grind
    . have Z:∀c o,c∉[z,U,V,i1,i2]->s.heap.get? c=AA o->N.get? c=AA o:=(by grind);have G:Ci X.af X.w H N:=I.bx.abl [z,U,V,i1,i2] (λc F=>(R c F).1) Z;have un:FR (Ew X.cb) [z,U,V,i1,i2] H H s.heap N:=⟨(by grind),λc o q n hb B=>⟨o.slots,Z c o B q⟩,λc o q n B=>n,(by grind),λc ys q=>q,λc o u q=>q,(by simp_all)⟩;exact I.acw (s':={s with heap:=N}) (ch:=[z,U,V,i1,i2]) rfl un G I.jx λc F=>by
        refine AB λW=>?_;obtain⟨q0,q1,q2,q3,q4,q5⟩:=R c F;refine W ?_;try clear W
        exact⟨q3,q1,q4,q5⟩
  adk:=λ_ _ _ _ _ C h=>wM C.1 h
noncomputable def iP(K:Ar)(F:EF):Ed:=λW H R=>F W H λJ D=>∃a b,J=[.ref a,.ref b]/\(∃U,Bc K D a U)/\(∃V,Bc K D b V)/\R (Lu K a b) D
theorem kO{X:BY}{K:Ar}(g:Eb X "zip")(n:X.mg "zip"=AF)(f:Ec X [l,m] M)(S:X.K=K:=by rfl)(hs:Bv [l,m] X.ae=[(AQ,BI l X.ae),(AQ,BI m X.ae)]:=by rfl)(Y:Bv [m] X.ae=[(AQ,BI m X.ae)]:=by rfl):Eu X (.Tuple F w V) (.Call (.Name "zip" p) [l,m] [] z) (iP K M):=by
 subst S;intro G s x H R I h;refine OV (G7 I g n boot_zip (LF (Ay (f _ _ s x H _ I h) λus s1⟨vs,N,D,r1,u⟩=>?_) (by grind) (by rw[Y];rfl)));refine AB λJ=>?_;obtain⟨a,b,e,⟨xs,o⟩,⟨ys,W⟩,q⟩:=u;refine J ?_;try clear J
 subst e;refine AB λJ=>?_;obtain⟨u1,u2,rfl,A,B⟩:=OM r1;cases A;cases B;obtain⟨t,rv,L,hz⟩:=D.fk o;obtain⟨E,v,U,r⟩:=D.fk W;refine J ?_;try clear J
 have P:a<s1.heap.objs.size:=by obtain⟨_,e,_⟩:=L.isList;exact CP e
 have Q:b<s1.heap.objs.size:=by obtain⟨_,e,_⟩:=U.isList;exact CP e
 refine call_zip_2 L.isList U.isList λy Z T d i j _ k=>?_;have O:=D.jf (t':=s1.toks) k;refine wM Z ?_;refine⟨_,_,_,_,N,rfl,O,nK a b _ _ _ _ _ (zipApart_new P Q),(by grind),λc hc=>?_,q⟩;have C:s1.heap.objs.size<=c:=by grind
 exact D.zp C (D.bx.bo C)
theorem jX{ys:List AE}{its kvs:List AK}(r:BJ ys its)(E:Hg h kvs kss)(X:its.length=kvs.length){D:Array Au}(p:D.Perm (kvs.toArray.zip its.toArray))(u:Cz (O:=FD) (Ex h) D 0 D.size):∃F:List (AE×List AL),F.Perm (ys.zip kss)/\BJ (F.map (·.1)) (D.map (·.2)).toList/\(F.map (·.2)).Pairwise (λa b=>BB b a=AQ):=by
  have Q:D.toList.Perm (kvs.zip its):=by have:=M5.mp p;grind
  have G:(D.map (·.2)).toList=D.toList.map (·.2):=(by simp_all);have c:=r.ai;have A:=E.dh;have P:BP (λ(q)(v:Au)=>BQ q.1 v.2/\Ex h v.1=q.2) (ys.zip kss) (kvs.zip its):=by refine Ez (by grind) λi a b W J=>?_;obtain⟨H,I⟩:=JX.mp W;obtain⟨K,L⟩:=JX.mp J;obtain⟨v,Y,M⟩:=r.aae H;rw[L]at Y;cases Y;exact⟨M,E.kf i b.1 a.2 K I⟩
  refine AB λC=>?_;obtain⟨F,R,S⟩:=KD Q P;obtain⟨d,T⟩:=CZ S;refine C ?_;try clear C
  have e:D.toList.length=D.size:=by simp
  refine⟨F,R,?_,?_⟩
  . rw[G];refine Ez (by grind) λi a b W J=>?_;grind
  . rw[E3];intro i j Z z N;rw[A0]at Z z;have B:∀k(A:k<F.length),(F[k]).2=A7 (O:=FD) (Ex h) D k:=λk A=>by
      have U:k<D.size:=by(first|lia|omega)
      rw[DD U];have J:D.toList[k]?=AA D[k]:=by grind
      grind
    have:=u i j (CU _) (by grind) (by(first|lia|omega));rw[<-B i Z,<-B j z]at this;rw[OR,OR];exact this
theorem Wv{kvs its:List AK}{v:Au}(h:v∈(kvs.toArray.zip its.toArray).toList):v.1∈kvs:=by rw[Array.toList_zip]at h;exact(X4 h).1
theorem f7{K:Ar}(s:Ap H H')(h:B8 K H a xs):B8 K H' a xs:=h.imp (λh=>h.imp (s _ _) λ⟨o,h⟩=>⟨o,s _ _ h⟩) id
noncomputable def Qw(K:Ar)(H:AI)(us:List AK)(kss:List (List AL)):Prop:=us.length=kss.length/\∀(i:Nat)u D,us[i]?=AA u->kss[i]?=AA D->∃q,u=.ref q/\B8 K H q (D.map Ax)
theorem Qw.aez{X:BY}{s:AY}(I:AZ X F E H s)(h:Qw X.K H us kss)(W:sh≠[])(A:∀ks∈kss,ks.map B9=sh):Hg s.heap us kss:=by
 refine .cT sh h.1 W λi u ks J U=>⟨?_,(by grind)⟩;refine AB λD=>?_;obtain⟨q,rfl,V⟩:=h.2 i u ks J U;obtain⟨Z,z,Y,_⟩:=I.dy V;obtain⟨o,e,c,n,d⟩:=Y;obtain⟨B,C⟩:=IW z;refine D ?_;try clear D
 exact⟨q,o,_,n,rfl,e,c,d,by grind,(by grind)⟩
theorem AZ.adn(I:AZ X (F::D) J H s):AZ X D J H s:=I.jh λp U=>I.zu p (by grind)
theorem AZ.aai{X:BY}{s:AY}{D:AD×A6}(I:AZ X (D::F) J H s):s.heap.get? D.1=AA D.2/\H D.1=AF/\D.1≠X.ae.locals/\D.1∉X.fs:=by have:=I.zu D (by grind);grind
theorem AZ.ahn{X:BY}{s:AY}{U:A6}{h':BG}(I:AZ X ((b,o)::D) Z H s)(F:(b∈X.ex\/X.s₀.heap.objs.size<=b)/\(∀x c,X.ae.cells.lookup x=AA c->c≠b)/\∀p∈X.pn++D,p.1≠b)(A:SI b s.heap h')(E:h'.get? b=AA U)(V:∀v,U.data≠.cell v):AZ X ((b,U)::D) Z H {s with heap:=h',toks:=t'}:=by
 refine AB λY=>?_;obtain⟨B,q,z,C⟩:=I.aai;refine Y ?_;try clear Y
 have J:AZ X _ Z H {s with heap:=h',toks:=t'}:=I.adn.eh (λc u V e=>(A.2 c V).trans e) q z F.1 F.2.1 F.2.2;refine J.jh λp W=>?_;rcases CB.mp W with rfl|W;.grind
 .exact J.zu p (by grind)
theorem Rp:∀{l:List AK},x∈l->(x,x)∈l.zip l
 |y::r,h=>by
  rcases CB.mp h with rfl|h;.simp_all
  .exact ER _ (Rp h)
noncomputable abbrev Lq(X:BY)(D:List (AD×A6))(b:AD):Prop:=(b∈X.ex\/X.s₀.heap.objs.size<=b)/\(∀x c,X.ae.cells.lookup x=AA c->c≠b)/\∀p∈X.pn++D,p.1≠b
theorem lY{X:BY}{s:AY}{ys:List AE}{its:List AK}{J:Array AK}{kss:List (List AL)}{st:CF}(S:BJ ys its)(y:its.length<=Aw)(g:sh≠[])(j:∀ks∈kss,ks.map B9=sh)(w:ys.length=kss.length)(I:AZ X ((F,Bl "list" J e)::(a,Bl "list" #[] Y)::D) T H s)(M:F≠a)(K:Lq X ((a,Bl "list" #[] Y)::D) F)(G:Lq X D a)(Q:Qw X.K H J.toList kss)(N:(Ah st).Perm (J.zip its.toArray))(l:Cz (O:=FD) (Ex s.heap) (Ah st) 0 (Ah st).size)(i:KQ st=AF)(h:∀s' W c(A:List (AE×List AL)),AZ X D T H s'->s'.heap.get? a=AA (Bl "list" W c)->W.size<=Aw->A.Perm (ys.zip kss)->BJ (A.map (·.1)) W.toList->(A.map (·.2)).Pairwise (λa b=>BB b a=AQ)->P (.done (.ret .none)) s'):Av (Ao X.af X.w) X.A.in1.in1 (oW a AQ Y (.ref F) st) P E s:=by
 have R:=I.aai.1;have n:=I.adn.aai.1;have t:=Q.aez I g j;have u:J.size=kss.length:=by have:=Q.1;rwa[IF]at this
 have x:=S.ai;refine AB λq=>?_;obtain⟨A,o,p,r⟩:=jX (kvs:=J.toList) S t (by grind) (by rw[rF];exact N) l;have k:(Ah st).size=its.length:=by
  have m:(J.zip its.toArray).size=Cs J.size its.length:=by simp[Array.size_zip]
  rw[N.size_eq,m];(first|lia|omega)
 have s1:=YT s.heap F (DC λ_=>(#[]:Array AK));obtain⟨B,L⟩:∃B,(s.heap.update F (DC λ_=>(#[]:Array AK))).get? F=AA (Bl "list" #[] B):=⟨_,SA R λ_=>#[]⟩;refine q ?_;try clear q
 have U:(s.heap.update F (DC λ_=>(#[]:Array AK))).get? a=AA (Bl "list" #[] Y):=(s1.2 a M.symm).trans n;have d:AZ X ((F,Bl "list" #[] B)::(a,Bl "list" #[] Y)::D) T H {s with heap:=s.heap.update F (DC λ_=>(#[]:Array AK)),toks:=s.toks}:=I.ahn K s1 L λv z=>by cases z
 unfold oW;try dsimp only
 refine A4 (MY R rfl ?_ (by(first|lia|omega)) (CU _));refine A4 (wpAny_letGo ?_);refine A4 (SE U rfl ?_);simp only[Jg,y8];have s2:=YT (s.heap.update F (DC λ_=>(#[]:Array AK))) a (DC λ_=>(Ah st).map (·.2));refine AB λq=>?_;obtain⟨C,Z⟩:∃C,((s.heap.update F (DC λ_=>(#[]:Array AK))).update a (DC λ_=>(Ah st).map (·.2))).get? a=AA (Bl "list" ((Ah st).map (·.2)) C):=⟨_,SA U λ_=>(Ah st).map (·.2)⟩;refine q ?_;try clear q
 have f:=d.adn.ahn (t':=s.toks) G s2 Z λv z=>by cases z
 refine A4 (MY U rfl ?_ (CU _) (CL (Ht (ZA ..)) (by(first|lia|omega))));rw[i];simp only[zF,Jg,y8];exact Cg (h _ _ C A f.adn Z (by rw[ZA];(first|lia|omega)) o p r)
theorem lX{X:BY}{ys:List AE}{its:List AK}{kss:List (List AL)}(F:A8 X.af X.w X.K X.mg X.ah BM k f fd ps sp)(hb:BA X.K fd ps [])(hr:DK (k+2) X.A)(rv:BJ ys its)(hl:ys.length=kss.length)(hz:its.length<=Aw)(h0:sh≠[])(hs:∀ks∈kss,ks.map B9=sh)(I:AZ X ((Z,Bl "list" #[] 0)::(a,Bl "list" #[] L)::W) σ H s)(hka:Z≠a)(d:Lq X ((a,Bl "list" #[] L)::W) Z)(fpa:Lq X W a)(turn:∀(i:Nat)y ks U,ys[i]?=AA y->kss[i]?=AA ks->Ap H U->sp [y] U (λv t=>Ap U t/\∃q,v=.ref q/\B8 X.K t q (ks.map Ax)) Lp)(h:∀U s' M c(qs:List (AE×List AL)),Ap H U->AZ X W σ U s'->s'.heap.get? a=AA (Bl "list" M c)->U a=AF->M.size<=Aw->qs.Perm (ys.zip kss)->BJ (qs.map (·.1)) M.toList->(qs.map (·.2)).Pairwise (λa b=>BB b a=AQ)->P (.done (.ret .none)) s'):Av (Ao X.af X.w) X.A.in1.in1 (ksk_rest a (.ref f) AQ its.toArray L (.ref Z)) P E s:=by
  have hy:=rv.ai;unfold ksk_rest;refine A4 (Mq ?_);first |rw[List.forIn_toArray]|(rw[<-Array.forIn_toList];simp only[List.toList_toArray])|rw[<-Array.forIn_toList]
  refine A4 (ksk_fold (λi s'=>∃U D e,Ap H U/\AZ X ((Z,Bl "list" D e)::(a,Bl "list" #[] L)::W) σ U s'/\Qw X.K U D.toList (kss.take i)) its 0 s ⟨H,#[],0,Cu _,I,rfl,λi u ks L=>by simp at L⟩ ?vh ?aaz);case vh=>
    intro j x s' hx hI;refine AB λJ=>?_;obtain⟨U,D,e,sm,G,K⟩:=hI;refine J ?_;try clear J
    simp only[Nat.zero_add]at K⊢;have hj:j<its.length:=(by grind);have g:j<ys.length:=by(first|lia|omega)
    have hjk:j<kss.length:=by(first|lia|omega)
    refine AB λJ=>?_;obtain⟨u0,l,ry⟩:=rv.aae (Cm g);rw[hx]at l;cases l;refine J ?_;try clear J
    have T:kss[j]?=AA kss[j]:=Cm hjk;have r:=turn j ys[j] kss[j] U (Cm g) T sm;have lk:=K.1;rw[IF,EA]at lk;have hl1:([x]:List AK).length=ps.length:=F.dh _ _ _ _ r;refine A4 (wF (qQ (SM (F.alb X.A.in1.in1 X.cb s' U ⟨[x],[]⟩ [x] [ys[j]] _ Lp hr.akf.akf G.aje.akf.akf (by have:=hb s' [x] G.wj (by simpa using hl1);simpa using this) (.cons ry .nil) r) λrr s2 R=>?_)));cases rr with|error ev=>exact R.elim|ok fl=>cases fl with |next=>exact Ft R|brk=>exact Ft R|cont=>exact Ft R|ret u=>
        refine AB λJ=>?_;obtain⟨v,t,I2,rv2,n,q,rfl,eq⟩:=G.agi R;cases(show u=C3 q from rv2);have nk:=I2.aai.1;have s1:=YT s2.heap Z (DC (·.push (.ref q)));obtain⟨c2,hc2⟩:∃c2,(s2.heap.update Z (DC (·.push (.ref q)))).get? Z=AA (Bl "list" (D.push (.ref q)) c2):=⟨_,SA nk (·.push (.ref q))⟩;refine J ?_;try clear J
        try dsimp only
        refine A4 (MY nk rfl ?_ (by(first|lia|omega)) (by grind));refine Cg ⟨rfl,t,D.push (.ref q),c2,sm.aa n,(I2.ahn (t':=s2.toks) d s1 hc2 (λv z=>by cases z)),?_,λi u ks g1 g2=>?_⟩;.grind
        . rw[rH]at g1;rw[Ds,T]at g2;by_cases hi:i<D.toList.length
          . rw[K9 hi]at g1;rw[K9 (by grind)]at g2;refine AB λJ=>?_;obtain⟨q',w1,w2⟩:=K.2 i u ks g1 g2;refine J ?_;try clear J
            exact⟨q',w1,f7 n w2⟩
          grind
  case aaz=>
    intro s' hI;refine AB λJ=>?_;obtain⟨U,D,e,sm,G,K⟩:=hI;refine J ?_;try clear J
    rw[Df (by(first|lia|omega))]at K;have nk:=G.aai.1;have na0:=G.adn.aai.2.1;try dsimp only
    refine A4 (oX nk rfl ?_);have hk:D.size=its.length:=by have:=K.1;grind
    have hzs:(D.zip its.toArray).size=its.length:=by simp_all
    have fin:∀S:CF,(Ah S).Perm (D.zip its.toArray)->Cz (O:=FD) (Ex s'.heap) (Ah S) 0 (Ah S).size->KQ S=AF->Av (Ao X.af X.w) X.A.in1.in1 (oW a AQ L (.ref Z) S) P E s':=λS p u fl=>lY rv hz h0 hs hl G hka d fpa K p u fl (by grind);unfold ksk_end;try dsimp only
    simp only[Jg,y8];by_cases N:its.toArray.size<2
    . rw[yY N,yY N];refine A4 (Cg ?_);rw[wO];refine A4 (Cg ?_);try dsimp only
      refine fin _ (SS _) (λi j _ q1 q2=>?_) rfl;rw[hzs]at q2;rw[D1]at N;obtain rfl:i=j:=by(first|lia|omega)
      exact KO _
    . rw[yX N,yX N];rw[D1]at N;have sv:=K.aez G h0 hs;refine AB λJ=>?_;obtain⟨κ,kk,C⟩:=sv.akx (prog:=X.af) (w:=X.w) (A:=X.A.in1.in1) (s:=s') (by rw[IF];(first|lia|omega)) λa o items m _ e _ _=>e;refine J ?_;try clear J
      rw[rF]at kk;have C':E5 X.af X.w X.A.in1.in1 s' κ FD (Ex s'.heap) (D.zip its.toArray):=⟨λp hp q R Q E z=>by have m1:p.1∈D.toList:=Wv (kvs:=D.toList) (its:=its) (by simp_all);have m2:q.1∈D.toList:=Wv (kvs:=D.toList) (its:=its) (by simp_all);exact C.ama (p.1,p.1) (by rw[OY];exact Rp m1) (q.1,q.1) (by rw[OY];exact Rp m2) Q E z⟩;refine A4 (kk _ _ ?_);refine A4 (Ge (Y4 C' (Q:=λ_ Y=>CI κ (D.zip its.toArray) Y/\Cz (O:=FD) (Ex s'.heap) (Ah Y) 0 (D.zip its.toArray).size) ⟨SS _,rfl,rfl⟩ rfl λY B u=>⟨B,u⟩) ?_ λ_ _ e=>e);rintro⟨⟨⟩,Y⟩s2⟨rfl,B,u⟩;try dsimp only
      exact fin Y B.qx (by rw[B.qx.size_eq];exact u) B.qh
theorem AZ.agh{X:BY}{s:AY}(I:AZ X D P H s)(f:G4 X D H a)(Q:X.s₀.heap.get? a=AF)(U:C5 X.af X.w (AN H a o) s.heap a o):AZ X D P (AN H a o) s:=by
  refine AB λF=>?_;obtain⟨K,E,_,_,G,L⟩:=f;refine F ?_;try clear F
  have J:∀b o,H b=AA o->b≠a:=(by grind);refine⟨I.ok,I.os,I.jx,⟨I.ah.ab,I.ah.zv,λb o C n M=>?_,I.ah.rl,λb O z=>?_,λb o u z=>?_,λb N z=>?_⟩,I.ads,I.uz,?_,λx c z=>?_,λp q=>?_,I.bx.agh K U,I.dh⟩;. have q:b≠a:=(by grind);rw[Ac q];exact I.ah.bh b o C n M
  .have:=I.ah.abq b O z;rw[Ac (J _ _ this)];grind
  .have:=I.ah.yy b o u z;rw[Ac (J _ _ this)];grind
  .obtain⟨V,q⟩:=I.ah.abp b N z;exact⟨_,by rw[Ac (J _ _ q)];exact q⟩
  .rw[Ac E.symm];exact I.bh
  .rw[Ac (G x c z)];exact I.mf x c z
  . refine AB λF=>?_;obtain⟨W,Y,Z,A,B⟩:=I.zu p q;refine F ?_;try clear F
    exact⟨W,by rw[Ac (L p q)];exact Y,Z,A,B⟩
noncomputable def Vp(K:Ar)(sp:BF)(H:AI)(ys:List AE)(kss:List (List AL)):Prop:=ys.length=kss.length/\(∃U:List Bool,U≠[]/\∀D∈kss,D.map B9=U)/\∀(i:Nat)y D F,ys[i]?=AA y->kss[i]?=AA D->Ap H F->sp [y] F (λv J=>Ap F J/\∃q,v=.ref q/\B8 K J q (D.map Ax)) Lp
theorem lZ{X:BY}{ys:List AE}(F:A8 X.af X.w X.K X.mg X.ah BM k f fd ps sp)(hb:BA X.K fd ps [])(hr:DK (k+2) X.A)(I:AZ X U j H s)(hq:Bc X.K H p ys)(kb:Vp X.K sp H ys kss)(q:∀l(K:List (AE×List AL))G,Ap H G->G l=AF->K.Perm (ys.zip kss)->(K.map (·.2)).Pairwise (λa b=>BB b a=AQ)->Q (.ref l) (AN G l (.lst (K.map (·.1))))):Av (Ao X.af X.w) X.A (HK (.builtin "sorted") [.ref p] [(u9 "key",.ref f)]) (ED X U j Q) E s:=by
  refine AB λR=>?_;obtain⟨hl,⟨sh,h0,hs⟩,turn⟩:=kb;obtain⟨D,w,pl,hz⟩:=I.fk hq;refine R ?_;try clear R
  have r:=w.ai;have T:=pl.isList;refine call_function_entry_kw oV oZ oT (ksk_s1 _ _) ?_;unfold Builtin.«sorted»;refine A4 (m:=qF "sorted" 1 1 _) (Cg ?_);refine A4 (oQ T ?_ (by(first|lia|omega)));refine A4 (SO ?_ (by(first|lia|omega)));have B:((s.heap.push (Bl "list" #[] 0)).update s.heap.objs.size (DC (.++D.toArray))).objs.size=s.heap.objs.size+1:=by simp_all
  have Z:(((s.heap.push (Bl "list" #[] 0)).update s.heap.objs.size (DC (.++D.toArray))).push (Bl "list" D.toArray 0)).get? (s.heap.objs.size+1)=AA (Bl "list" D.toArray 0):=by rw[<-B];exact FZ _ rfl
  have t:∀b o,s.heap.get? b=AA o->(((s.heap.push (Bl "list" #[] 0)).update s.heap.objs.size (DC (.++D.toArray))).push (Bl "list" D.toArray 0)).get? b=AA o:=λb o e=>Cn _ ((YU _ _ _ _ (ET (CP e))).trans (Cn _ e));rw[B];refine A4 (Ol (wpAny_call_entry_kw pA ⟨_,Z,rfl⟩ oS ?body (ksk_l1 _ _)));case body=>
    have h:=ksk_t1 f (s.heap.objs.size+1);rw[h];generalize hg:(((s.heap.push (Bl "list" #[] 0)).update s.heap.objs.size (DC (.++D.toArray))).push (Bl "list" D.toArray 0))=g at Z t⊢;have hgs:g.objs.size=s.heap.objs.size+2:=by rw[<-hg,size_push',B]
    have s1:=YT g (s.heap.objs.size+1) (DC λ_=>(#[]:Array AK));refine AB λR=>?_;obtain⟨L,P⟩:∃L,(g.update (s.heap.objs.size+1) (DC λ_=>(#[]:Array AK))).get? (s.heap.objs.size+1)=AA (Bl "list" #[] L):=⟨_,SA Z λ_=>#[]⟩;refine R ?_;try clear R
    have N:((g.update (s.heap.objs.size+1) (DC λ_=>(#[]:Array AK))).push (Bl "tuple" D.toArray 0)).objs.size=s.heap.objs.size+3:=by simp_all
    have i:∀b o,s.heap.get? b=AA o->(((g.update (s.heap.objs.size+1) (DC λ_=>(#[]:Array AK))).push (Bl "tuple" D.toArray 0)).push (Bl "list" #[] 0)).get? b=AA o:=λb o e=>Cn _ (Cn _ ((s1.2 b (ET (tG (CP e)))).trans (t b o e)));have Y:G4 X U H (s.heap.objs.size+1):=I.zp (Ii _) (I.bx.bo (Ii _));have W:G4 X U H (s.heap.objs.size+3):=I.zp (oJ _ 3) (I.bx.bo (oJ _ 3));have n:AZ X U j H {s with heap:=((g.update (s.heap.objs.size+1) (DC λ_=>(#[]:Array AK))).push (Bl "tuple" D.toArray 0)).push (Bl "list" #[] 0),toks:=s.toks}:=I.jf i;have gA:(((g.update (s.heap.objs.size+1) (DC λ_=>(#[]:Array AK))).push (Bl "tuple" D.toArray 0)).push (Bl "list" #[] 0)).get? (s.heap.objs.size+1)=AA (Bl "list" #[] L):=Cn _ (Cn _ P);have gK:(((g.update (s.heap.objs.size+1) (DC λ_=>(#[]:Array AK))).push (Bl "tuple" D.toArray 0)).push (Bl "list" #[] 0)).get? (s.heap.objs.size+3)=AA (Bl "list" #[] 0):=by rw[<-N];exact FZ _ rfl
    have J:AZ X ((s.heap.objs.size+3,Bl "list" #[] 0)::(s.heap.objs.size+1,Bl "list" #[] L)::U) j H {s with heap:=((g.update (s.heap.objs.size+1) (DC λ_=>(#[]:Array AK))).push (Bl "tuple" D.toArray 0)).push (Bl "list" #[] 0),toks:=s.toks}:=by
      refine n.jh λx A=>?_;rcases CB.mp A with rfl|A;.exact⟨gK,W.1,W.2.1,W.2.2.1,λv z=>by cases z⟩
      . rcases CB.mp A with rfl|A;.exact⟨gA,Y.1,Y.2.1,Y.2.2.1,λv z=>by cases z⟩
        .exact n.zu x (by grind)
    unfold ksk_tree;refine A4 (oX Z rfl ?_);refine A4 (MY Z rfl ?_ (by grind) (CU _));refine A4 (SE P rfl ?_);refine A4 (wI ?_ (by grind));refine A4 (SO ?_ (CU _));refine Ol ?_;have O:(s.heap.objs.size+3:AD)≠s.heap.objs.size+1:=(by grind);have S:Lq X ((s.heap.objs.size+1,Bl "list" #[] L)::U) (s.heap.objs.size+3):=⟨W.2.2.2.1,W.2.2.2.2.1,λx A=>by
      rcases DA.mp A with A|A;.exact W.2.2.2.2.2 x (by grind)
      . rcases CB.mp A with rfl|A;.exact O.symm
        .exact W.2.2.2.2.2 x (by grind)⟩;rw[N];refine lX F hb hr w hl (by(first|lia|omega)) h0 hs J O S Y.2.2.2 turn λG s' C c K sm J' g1 u z1 w1 y w3=>⟨_,rfl,Cg ⟨_,rfl,?_⟩⟩;have M:G4 X U G (s.heap.objs.size+1):=⟨u,Y.2⟩;have d:X.s₀.heap.get? (s.heap.objs.size+1)=AF:=uT (CL I.sz (Ii _));refine⟨.ref (s.heap.objs.size+1),_,J'.agh (o:=.lst (K.map (·.1))) M d ⟨?_,C.toList,c,y,by simp_all⟩,rfl,q _ K G sm u w1 w3⟩;have l0:C.toList.length=C.size:=IF;have l1:=y.ai;grind
noncomputable def m6(K:Ar)(sp:BF)(t:A1):A1:=λY H Q=>t Y H λv F=>∃(a:AD)(W:List AE)(D:List (List AL)),v=.ref a/\Bc K F a W/\Vp K sp F W D/\∀l(U:List (AE×List AL))J,Ap F J->J l=AF->U.Perm (W.zip D)->(U.map (·.2)).Pairwise (λa b=>BB b a=AQ)->Q (.ref l) (AN J l (.lst (U.map (·.1))))
theorem kI{X:BY}{x y:AG}{K:Ar}(F:A8 X.af X.w X.K X.mg X.ah BM k f A ps sp)(O:DK (k+2) X.A)(G:Eb X y)(L:X.mg y=AA (.ref f))(C:BA X.K A ps [])(P:Eb X x)(V:X.mg x=AF)(R:Mj x=AA (.builtin "sorted"))(E:An X e t)(B:X.K=K:=by rfl)(M:x≠"__name__":=by decide)(J:(x==("__debug__":AG))=AQ:=by decide)(U:(y==("__debug__":AG))=AQ:=by decide)(D:EV W (Bv [e] X.ae)=[(AQ,BI e X.ae)]:=by rfl):An X (.Call (.Name x p) [e] [⟨AA "key",.Name y g,i⟩] W) (m6 K sp t):=by subst B;intro Z s c H Q I h;refine Mo (G7 I P V R ?_ M J);refine callWith_kw ?_ D (by grind) rfl rfl;rw[D];refine Mb (Ay (E _ s c H _ I h) λu s1⟨v,d,Y,b,a,j,T,z,N,S,q⟩=>Oa ?_);subst z;obtain rfl:u=C3 a:=b;refine wpAny_evalAll_cons (A4 (L8 Y G L (A4 (qT (Cg (wpAny_evalAll_nil ?_)))) U));exact lZ F C O Y N S q
theorem Ny{h:BG}{o:A6}(C:Ci P w H h)(e:H d=AA (.frz o (.dK kvs)))(W:o.data=.dict U ep):∃vs,Dj kvs vs/\h.DictAt (Dq P w) d vs ep:=by
 refine AB λZ=>?_;obtain⟨Y,z,E,vs,J,G,A,q,F,B,D,r⟩:=(show C5 P w H h d _ from C d _ e);rw[Y]at F;cases F;rw[W]at D;cases D;refine Z ?_;try clear Z
 exact⟨vs,J,o,U,Y,B,W,r⟩
theorem kE{X:BY}{K:Ar}(V:An X e F)(U:Jf e f X.ae (BI e X.ae)=BI e X.ae)(J:X.K=K:=by rfl):An X (.Attribute e f D) (Xb K F f):=by subst J;exact Cq V U
noncomputable instance rE(k:AL):∀L:List AL,Decidable (k∈L)|[]=>.isFalse (by simp)|x::L=>if h:k=x then .isTrue (by simp[h])else match rE k L with|.isTrue h2=>.isTrue (by simp[h2])|.isFalse h2=>.isFalse (by simp[h,h2])
noncomputable def Lx(h:BG)(u:AK)(ks:List AL)(J:List AD):Prop:=∃a o D m F,u=.ref a/\h.get? a=AA o/\o.cls=.type "tuple"/\o.data=.seq D m/\D.toList=F++J.map C3/\F.map BK=ks/\∀v∈F,Dw v
noncomputable def f9(h:BG)(U:List AD)(J:List AL)(F:List AD)(D:List AL):Prop:=(U=F/\J=D)\/∃(p q:AD)(W V:List Int),U=[p]/\F=[q]/\J=W.map CN/\D=V.map CN/\F2 h (.ref p) J/\F2 h (.ref q) D
noncomputable abbrev Fg:=List AL×List AD×List AL
noncomputable def Fi(d:Fg):List AL:=d.1++d.2.2
structure Q1(h:BG)(vs:List AK)(ds:List Fg)(sh:List Bool):Prop where
 dh:vs.length=ds.length
 hn:sh≠[]agd:∀(i:Nat)u d,vs[i]?=AA u->ds[i]?=AA d->Lx h u d.1 d.2.1/\d.1.map B9=sh
 ame:∀(i j:Nat)d e,ds[i]?=AA d->ds[j]?=AA e->d.1=e.1->f9 h d.2.1 d.2.2 e.2.1 e.2.2
theorem WK:∀{us F:List AK}{J D:List AD},(∀v∈us,Dw v)->(∀v∈F,Dw v)->us++J.map C3=F++D.map C3->us=F/\J=D
 |[],[],J,D,_,_,e=>⟨rfl,by exact(List.map_inj_right (by grind)).mp e⟩|[],v::F,J,D,_,h,e=>by cases J with|nil=>cases e|cons r J=>
  injection e with U _;have:=h v DR;rw[<-U]at this;exact this.elim|v::us,[],J,D,h,_,e=>by cases D with |nil=>cases e|cons r D=> injection e with U _;have:=h v DR;rw[U]at this;exact this.elim
 |v::us,Y::F,J,D,h,W,e=>by injection e with U V;obtain⟨a,b⟩:=WK (by grind) (by grind) V;grind
theorem Lx.agd(t:Lx h u ks Z)(t':Lx h u D J):ks=D/\Z=J:=by
 refine AB λF=>?_;obtain⟨a,o,V,m,I,rfl,e,_,d,l,k,f⟩:=t;obtain⟨C,H,U,G,B,q,Y,_,W,A,E,z⟩:=t';refine F ?_;try clear F
 injection q with q;subst q;rw[e]at Y;refine AB λF=>?_;cases Y;rw[d]at W;cases W;obtain⟨x,y⟩:=WK f z (l.symm.trans A);refine F ?_;try clear F
 grind
theorem F2.agd(t:F2 h u ks)(t':F2 h u D):ks=D:=t.kf.symm.trans t'.kf
noncomputable def L7(vs:List AK)(kss:List (List AL))(u:AK):List AL:=by classical exact if D:∃F,(u,F)∈vs.zip kss then D.choose else[]
theorem Q1.kf{F:List Fg}(x:Q1 h vs F sh):∀(i:Nat)u d,vs[i]?=AA u->F[i]?=AA d->L7 vs (F.map Fi) u=Fi d:=by
 intro i u d z U;have J:∃C,(u,C)∈vs.zip (F.map Fi):=⟨Fi d,oC.mpr ⟨i,(by grind)⟩⟩;unfold L7;rw[dif_pos J];refine AB λZ=>?_;obtain⟨j,B⟩:=oC.mp J.choose_spec;obtain⟨A,V⟩:=JX.mp B;rw[Bx]at V;obtain⟨D,W,Y⟩:=D2.mp V;have Y:Fi D=J.choose:=Y;obtain⟨a,b⟩:=(x.agd i u d z U).1.agd (x.agd j u D A W).1;refine Z ?_;try clear Z
 have E:d.2.2=D.2.2:=by
  rcases x.ame i j d D U W a with⟨_,q⟩|⟨p,q,_,_,r1,r2,_,_,t1,t2⟩;.exact q
  . rw[b,r2]at r1;injection r1 with r1;subst r1;exact t1.agd t2
 grind
theorem We:∀(xs ys:List AK)(F D:List AK)(i:Nat),(∀v∈xs,Dw v)->(∀v∈ys,Dw v)->xs.map (λv=>B9 (BK v))=ys.map (λv=>B9 (BK v))->(xs.map BK=ys.map BK->∀j,i+xs.length<=j->Yb prog w A b fin Q (F.zip D) j s)->(xs.map BK≠ys.map BK->Q (BB (xs.map BK) (ys.map BK)) s)->Yb prog w A b fin Q ((xs++F).zip (ys++D)) i s
 |[],[],F,D,i,_,_,_,h,_=>(by grind)|[],_::_,_,_,_,_,_,e,_,_=>by cases e|_::_,[],_,_,_,_,_,e,_,_=>by cases e|x::xs,y::ys,F,D,i,Z,B,e,h,W=>by
  obtain⟨J,Y⟩:=Dx e;have U:=Z x DR;have V:=B y DR;refine Ye (Q9 U V J (pR (λq=>?_) λq=>?_))
  . have q:=y6 q;refine pU (We xs ys F _ _ (by grind) (by grind) Y (by grind) λz=>?_);have:=W (by grind);rw[DM,DM,BB]at this;grind
  . have q:=zA q;have:=W (by grind);rw[DM,DM,BB,yX q]at this;exact pS (Wi _ U V J this)
theorem Wf:∀(D:List AD)(i:Nat),Q AQ s->Yb prog w A b AQ Q ((D.map C3).zip (D.map C3)) i s|[],_,h=>vO h|r::D,i,h=>Ye (uZ _ _ w _ _ (pU (Wf D _ h)))
theorem Wc:∀{ks ls xs ys:List AL},ks.length=ls.length->BB (ks++xs) (ls++ys)=if ks=ls then BB xs ys else BB ks ls|[],[],_,_,_=>by grind|[],_::_,_,_,e=>by cases e|_::_,[],_,_,e=>by cases e|k::ks,l::ls,xs,ys,e=>by have D:=Wc (ks:=ks) (ls:=ls) (xs:=xs) (ys:=ys) (by grind);show(if k=l then BB (ks++xs) (ls++ys)else Fj k l)=if k::ks=l::ls then BB xs ys else(if k=l then BB ks ls else Fj k l);grind
theorem Rh:∀{us:List AK},(∀v∈us,Dw v)->∃D,ReadsAll h us ((us.map BK).map JL) D
 |[],_=>⟨_,.nil⟩|v::us,f=>by
  obtain⟨D,r⟩:=Rh (h:=h) (λw hw=>f w (ER _ hw));have F:=f v DR;cases v<;>first|exact F.elim|skip
  .exact⟨_,.cons (.int _ _) r⟩
  .exact⟨_,.cons (.str _ _) r⟩
theorem RE:∀ns:List Int,(ns.map (CN:Int->AL)).map JL=ns.map IB|[]=>rfl|n::ns=>by rw[DM,DM,DM,RE ns];rfl
theorem hZ{A:Cy}{s:AY}{ns F:List Int}(t1:F2 s.heap (.ref p) (ns.map CN))(t2:F2 s.heap (.ref q) (F.map CN))(M:A.units+64<GC):YY A s (.ref p) (.ref q) (Ae (ns=F)):=by
 refine AB λJ=>?_;obtain⟨a,o,Y,m,W,e,c,d,k,f⟩:=t1;obtain⟨I,O,U,N,D,E,B,C,H,G⟩:=t2;refine J ?_;try clear J
 injection W with W;injection D with D;subst W D;refine AB λJ=>?_;obtain⟨z,r⟩:=Rh (h:=s.heap) f;obtain⟨V,Z⟩:=Rh (h:=s.heap) G;refine J ?_;try clear J
 rw[k,RE]at r;rw[H,RE]at Z;have:=SeqAt.eqAt_reads (.tuple (ns.map IB)) (.tuple (F.map IB)) A s (.ref p) (.ref q) z V (.tuple e c d r) (.tuple E B C Z) (by simp[Md,(N4 ns).1]) (by simp[Md,(N4 F).1]) (by
  have L:(PyData.tuple (ns.map IB)).depth<=1:=by simp[Ob,(N4 ns).2]
  (first|lia|omega));have K:SJ (.tuple (ns.map IB)) (.tuple (F.map IB))=Ae (ns=F):=by simp only[SJ];exact WI ns F
 grind
theorem jE{A:Cy}{s:AY}{ns W:List Int}(t1:F2 s.heap (.ref p) (ns.map CN))(t2:F2 s.heap (.ref q) (W.map CN))(t:A.units+64<GC)(h:Q (BB (ns.map CN) (W.map CN)) s):Av (Ao prog w) A (oneLt' AQ (.ref p) (.ref q)) Q E s:=by
 refine AB λV=>?_;obtain⟨a,o,D,m,B,e,c,d,k,f⟩:=t1;obtain⟨g,X,F,T,J,L,G,I,R,P⟩:=t2;refine V ?_;try clear V
 injection B with B;injection J with J;subst B J;refine AB λV=>?_;obtain⟨N,O,K,b⟩:=o;obtain⟨H,Z,Y,C⟩:=X;refine V ?_;try clear V
 simp only at c d G I;subst c d G I;have U:∀(l:List Int)(i:Nat)(z:AL),(l.map (CN:Int->AL))[i]?=AA z->B9 z=AH:=λl i z M=>by rw[Bx]at M;obtain⟨n,_,rfl⟩:=D2.mp M;rfl
 have S:J7 D.toList F.toList D.size F.size (BB (ns.map CN) (W.map CN)):=by refine⟨⟨D.toList,[],by simp,.inl rfl,f,P,λi x y j r=>?_,by rw[k,R]⟩,by grind⟩;rw[U ns i (BK x) (by grind),U W i (BK y) (by grind)]
 refine pT _ _ ?_;exact qK (op:=.Lt) ⟨_,e,rfl⟩ ⟨_,L,rfl⟩ uS uK (by rfl) (Xi p q _ _ m T O Z b C _ S) ⟨e,L,⟨(by grind),h⟩⟩ (by(first|lia|omega))
theorem Q1.akx{A:Cy}{s:AY}{h:BG}{vs:List AK}{S:List Fg}(x:Q1 h vs S sh)(B:A.units+64<GC)(h2:2<=vs.length)(kp:∀a o D m,h.get? a=AA o->o.cls=.type "tuple"->o.data=.seq D m->s.heap.get? a=AA o):∃κ,(∀(Q:OX->AY->Prop)(E:AK->AY->Prop),Q κ s->Av (Ao prog w) A (oU vs.toArray) Q E s)/\E5 prog w A s κ FD (L7 vs (S.map Fi)) (Gs vs):=by
  have mp:∀p∈(Gs vs).toList,p.1∈vs:=λp N=>by rw[OY]at N;exact(YH N).2
  have y:∀{u I rs},Lx h u I rs->Lx s.heap u I rs:=λ⟨a,o,D,m,J,X,e,c,d,r⟩=>⟨a,o,D,m,J,X,kp a o D m e c d,c,d,r⟩;have P:∀{u I},F2 h u I->F2 s.heap u I:=λ⟨a,o,D,m,X,e,c,d,r⟩=>⟨a,o,D,m,X,kp a o D m e c d,c,d,r⟩;have W:∀u∈vs,∃(i:Nat)(d:Fg),vs[i]?=AA u/\S[i]?=AA d:=λu B=>JN x.dh B;refine⟨tuples' AH,λQ E q=>?_,⟨λp N q hq Q E k=>?_⟩⟩
  . have n:∀(l:List AK),(∀u∈l,u∈vs)->∃Z,vF s.heap l Z/\Z.length=l.length/\∀v∈Z,Dw v/\B9 (BK v)=sh.headD AH:=λl=>by induction l with |nil=>exactλ_=>⟨[],trivial,rfl,λv C=>by cases C⟩|cons u l ih=> intro B;obtain⟨Z,O,k2,g⟩:=ih (by grind);obtain⟨i,d,M,H⟩:=W u (B u DR);obtain⟨t,z⟩:=x.agd i u d M H;obtain⟨a,o,D,m,J,rfl,e,c,Y,G,r,V⟩:=y t;match J,G,r,V with
        |[],_,r,_=>rw[<-r]at z;exact absurd z.symm x.hn|f0::l1,G,r,V=>
          have g0:D[0]?=AA f0:=by rw[<-M4,G];rfl
          refine⟨f0::Z,vG e c Y g0 O,by grind,λv C=>?_⟩;grind
    refine AB λL=>?_;obtain⟨Z,O,k2,g⟩:=n vs λ_ h=>h;refine L ?_;try clear L
    cases hh:sh.headD AH with
    |true=> refine Yf (T:=.type "int") O (by(first|lia|omega)) (λv C=>?_) (by decide) q;obtain⟨V,z⟩:=g v C;rw[hh]at z;cases v<;>first|exact V.elim|exact Fs _|exact Fs (show AQ=AH from z)|exact .now
    |false=> refine Yf (T:=.type "str") O (by(first|lia|omega)) (λv C=>?_) (by decide) q;obtain⟨V,z⟩:=g v C;rw[hh]at z;cases v<;>first|exact V.elim|exact Fs (show AH=AQ from z)|exact Fs (show AQ=AH from z)|exact .now
  . refine AB λL=>?_;obtain⟨i,d,M,H⟩:=W _ (mp p N);obtain⟨j,Y,e3,b⟩:=W _ (mp q hq);have k:Q (BB _ _) s:=k;rw[x.kf i _ d M H,x.kf j _ Y e3 b]at k;obtain⟨t,z1⟩:=x.agd i _ d M H;obtain⟨t',z2⟩:=x.agd j _ Y e3 b;obtain⟨a,o,D,m,J,u1,e,c,dd,G,r,V⟩:=y t;obtain⟨a',o',F,m',U,u2,e',c',R,K,r',f⟩:=y t';refine L ?_;try clear L
    have es:=by
      have h1:(J.map BK).map B9=(U.map BK).map B9:=by rw[r,r',z1,z2]
      rw[EO,EO]at h1;exact h1
    have el:=by have:=yZ LA (z1.trans z2.symm);simpa using this
    unfold Fi at k;rw[Wc el]at k;rw[u1,u2];refine vN e dd e' R ?_;rw[G,K];have lu:J.length=d.1.length:=by rw[<-r,A0]
    have lu':U.length=Y.1.length:=by rw[<-r',A0]
    have sz1:D.size=J.length+d.2.1.length:=by rw[<-IF,G];simp
    have sz2:F.size=U.length+Y.2.1.length:=by rw[<-IF,K];simp
    have hpos:0<J.length:=by rw[lu];refine Nat.pos_of_ne_zero λz=>x.hn ?_;grind
    refine We J U _ _ 0 V f es (λq j hj=>?_) λq=>?_
    . rw[r,r']at q;rw[yY q]at k;rcases x.ame i _ d Y H b q with⟨q1,q2⟩|⟨p',q',ns,ms,r1,r2,r3,r4,t1,t2⟩
      . rw[y4 (by rw[sz1,sz2,lu,lu',el,q1];(first|lia|omega)),q1];rw[q2,L9]at k;exact Wf _ _ k
      . rw[y4 (by grind),r1,r2];rw[r3]at t1;rw[r4]at t2;rw[r3,r4]at k;refine Ye (hZ (P t1) (P t2) B prog w _ _ (pR (λz=>?_) λz=>?_))
        . have z:=y6 z;rw[z,L9]at k;assumption
        . refine pS ?_;have j0:(j==0)=AQ:=by simp;(first|lia|omega)
          rw[j0,rK];exact jE (P t1) (P t2) B k
    grind
noncomputable def Nn(K:Ar)(H:AI)(xs:List AE)(D:List Fg)(sh:List Bool):Prop:=sh≠[]/\BP (λx(d:Fg)=>(∃a,x=.ref a/\B8 K H a (d.1.map Ax++d.2.1.map AE.ref))/\d.1.map B9=sh) xs D/\∀(i j:Nat)d e,D[i]?=AA d->D[j]?=AA e->d.1=e.1->(d.2.1=e.2.1/\d.2.2=e.2.2)\/∃(p q:AD)(J F:List Int),d.2.1=[p]/\e.2.1=[q]/\d.2.2=J.map CN/\e.2.2=F.map CN/\B8 K H p (J.map AE.int)/\B8 K H q (F.map AE.int)
theorem XJ:∀{D:List AD}{us:List AK},BJ (D.map AE.ref) us->us=D.map C3|[],_,h=>by cases h;rfl|r::D,_,h=>by cases h with|cons F J=>cases F;rw[XJ J];rfl
theorem Xh{X:BY}{s:AY}(I:AZ X J B H s){ns:List Int}(h:B8 X.K H p (ns.map AE.int)):F2 s.heap (.ref p) (ns.map CN):=by
 have U:B8 X.K H p ((ns.map (CN)).map Ax):=by rw[EO];exact h
 refine AB λF=>?_;obtain⟨D,q,⟨o,Z,W,n,Y⟩,_⟩:=I.dy U;obtain⟨z,A⟩:=IW q;refine F ?_;try clear F
 exact⟨p,o,_,n,rfl,Z,W,Y,by grind,by grind⟩
theorem Nn.ajo{X:BY}{s:AY}(I:AZ X E w H s)(h:Nn X.K H xs W sh)(r:BJ xs its):Q1 s.heap its W sh:=by
  refine AB λD=>?_;obtain⟨O,p,U⟩:=h;have m:=r.ai;obtain⟨k,M⟩:=CZ p;refine D ?_;try clear D
  refine⟨by(first|lia|omega),O,λi u d J F=>?_,λi j d e J F q=>?_⟩
  . have l:=(BN.mp F).1;have Y:xs[i]?=AA xs[i]:=Cm _;refine AB λD=>?_;obtain⟨⟨a,L,Q⟩,z⟩:=M i _ _ Y F;obtain⟨t,Z,A⟩:=r.aae Y;rw[J]at Z;cases Z;rw[L]at A;obtain rfl:u=C3 a:=A;obtain⟨C,c,⟨o,P,N,n,B⟩,_⟩:=I.dy Q;obtain⟨f,v,rfl,g,v2⟩:=ON c;obtain⟨R,S⟩:=IW g;refine D ?_;try clear D
    rw[XJ v2]at B;exact⟨⟨a,o,_,n,f,rfl,P,N,B,by simp,R,S⟩,z⟩
  . rcases U i j d e J F q with h|⟨p,q,b,T,r1,r2,G,K,t1,t2⟩;.exact .inl h
    .exact .inr ⟨p,q,b,T,r1,r2,G,K,by rw[G];exact Xh I t1,by rw[K];exact Xh I t2⟩
theorem jZ{its:List AK}{ys:List AE}{kss:List (List AL)}(r:BJ ys its)(A:its.length=kss.length)(I:∀(i:Nat)u ks,its[i]?=AA u->kss[i]?=AA ks->kf u=ks){D:Array Au}(p:D.Perm (Gs its))(u:Cz (O:=FD) kf D 0 (Gs its).size):∃F:List (AE×List AL),F.Perm (ys.zip kss)/\BJ (F.map (·.1)) (D.map (·.2)).toList/\(F.map (·.2)).Pairwise (λa b=>BB b a=AQ):=by
  have E:D.toList.Perm (its.zip its):=by rw[<-OY];exact M5.mp p
  have e:∀q∈D.toList,q.1=q.2/\q.1∈its:=λq K=>YH (E.mem_iff.mp K);have G:(D.map (·.2)).toList=D.toList.map (·.2):=rG ..;have M:=by have:=E.map (·.2);rwa[oA (Al _)]at this
  have X:=r.ai;have L:BP (λ(q:AE×List AL)v=>BQ q.1 v/\kf v=q.2) (ys.zip kss) its:=by refine Ez (by grind) λi a b W Y=>?_;obtain⟨H,Q⟩:=JX.mp W;obtain⟨v,R,S⟩:=r.aae H;grind
  refine AB λC=>?_;obtain⟨F,N,P⟩:=KD M L;obtain⟨d,T⟩:=CZ P;refine C ?_;try clear C
  refine⟨F,N,?_,?_⟩
  . rw[G];refine Ez (by grind) λi a b W Y=>?_;grind
  . rw[E3];intro i j Z z J;rw[A0]at Z z;have c:=p.size_eq.symm;have B:∀k(A:k<F.length),(F[k]).2=A7 (O:=FD) kf D k:=λk A=>by
      have U:k<D.size:=by grind
      rw[DD U];have Y:(D.toList.map (·.2))[k]?=AA D[k].2:=by grind
      grind
    have:=u i j (CU _) (R5 J) (by grind);rw[<-B i Z,<-B j z]at this;rw[OR,OR];exact this
theorem V3{X:BY}{K:Ar}(c:DK k X.A)(R:X.K=K:=by rfl):Ea X (.builtin "sorted") (λxs H Q=>∃(p:AD)(ys:List AE)(J:List Fg)(sh:List Bool),xs=[.ref p]/\Bc K H p ys/\Nn K H ys J sh/\∀l(F:List (AE×List AL)),H l=AF->F.Perm (ys.zip (J.map Fi))->(F.map (·.2)).Pairwise (λa b=>BB b a=AQ)->Q (.ref l) (AN H l (.lst (F.map (·.1))))):=by
  subst R;intro G s σ H xs us Q I r h;refine AB λY=>?_;obtain⟨p,ys,J,sh,rfl,T,v,q⟩:=h;obtain⟨u,rfl,t⟩:=HH r;cases t;obtain⟨D,A,g,y⟩:=I.fk T;refine Y ?_;try clear Y
  have B:=v.ajo I A;have S:=g.isList;have E:=A.ai;refine uC oV oZ oT (tO _) ?_;unfold Builtin.«sorted»;refine A4 (m:=qF "sorted" 1 1 _) (Cg ?_);refine A4 (oQ S ?_ (by(first|lia|omega)));refine A4 (SO ?_ (by(first|lia|omega)));have W:((s.heap.push (Bl "list" #[] 0)).update s.heap.objs.size (DC (.++D.toArray))).objs.size=s.heap.objs.size+1:=by simp_all
  have U:(((s.heap.push (Bl "list" #[] 0)).update s.heap.objs.size (DC (.++D.toArray))).push (Bl "list" D.toArray 0)).get? (s.heap.objs.size+1)=AA (Bl "list" D.toArray 0):=by rw[<-W];exact FZ _ rfl
  have kp:∀b o,s.heap.get? b=AA o->(((s.heap.push (Bl "list" #[] 0)).update s.heap.objs.size (DC (.++D.toArray))).push (Bl "list" D.toArray 0)).get? b=AA o:=λb o e=>Cn _ ((YU _ _ _ _ (ET (CP e))).trans (Cn _ e));rw[W];refine A4 (Ol (Yq pA ⟨_,U,rfl⟩ oS (Y2 (O:=FD) U (by(first|lia|omega)) (L7 D (J.map Fi)) (λw k' P=>?_) λz p u=>⟨_,rfl,Cg ⟨_,rfl,?_⟩⟩) (by rfl)))
  . refine B.akx ?_ P λa o Z m e _ _=>?_
    . have:=c.un;grind
    grind
  . refine AB λY=>?_;obtain⟨F,L,j,n⟩:=jZ (kss:=J.map Fi) (kf:=L7 D (J.map Fi)) A (by rw[A0];exact B.dh) (λi u ks M C=>by rw[Bx]at C;obtain⟨d,N,rfl⟩:=D2.mp C;exact B.kf i u d M N) p u;obtain⟨e,x⟩:=tY s.heap D (z.map (·.2));refine Y ?_;try clear Y
    have f:(F.map (·.1)).length<=Aw:=by rw[A0,L.length_eq,Rx];(first|lia|omega)
    refine⟨.ref (s.heap.objs.size+1),_,I.qk (a:=s.heap.objs.size+1) (o:=.lst (F.map (·.1))) (t':=s.toks) (λb o e=>tZ e) (Ii _) ⟨f,_,e,j,by assumption⟩,rfl,q _ F (I.bx.bo (Ii _)) L n⟩
noncomputable def mO(t u:Cf):Cf:=λD U H=>∀(N:Am->AI->Prop)(r:Bn)(b c:Am->AI->Prop),(∀F J,u D F J->N F J)->t ⟨N,r,b,c⟩ U H
theorem Hn{st:A3}(U:D6 X st t)(V:F0 X F u):F0 X (st::F) (mO t u):=λJ s W H D I h=>Af U V J s W H D I (h _ _ _ _ λ_ _ z=>z)
noncomputable def mK(t:Cf):Cf:=λD U H=>∀(N:Am->AI->Prop)(r:Bn)(b c:Am->AI->Prop),(∀F J,D.nx F J->N F J)->t ⟨N,r,b,c⟩ U H
theorem kT{st:A3}(J:D6 X st t):D6 X st (mK t):=λF s U H D I h=>J F s U H D I (h _ _ _ _ λ_ _ z=>z)
@[elab_as_elim]theorem B0{H:AI}{c:AD}{o:Bh}{R:AI->Prop}(D:H c=AF)(k:∀G,Ap H G->G c=AA o->R G):R (AN H c o):=k _ (Be D) Ab
theorem Ey{n:Nat}(h:n.ble m=AH):n<=m:=(by simp_all)
theorem Bd{N P:List AG}{D:EI}(F:D.kind=.function:=by rfl)(J:D.isCoroutine=AQ:=by rfl)(U:D.isGenerator=AQ:=by rfl)(V:N.Nodup:=by decide+kernel)(W:N.take P.length=P:=by rfl)(Y:∀x∈P,D.names.lookup x=AA .local\/D.names.lookup x=AA .cell:=by decide+kernel)(Z:∀y∈D.names,y.2≠.free:=by decide+kernel):BV N P D:=⟨F,J,U,V,W,Y,Z⟩
structure fU(P:CQ)(w:Bq)(K:Ar)(mg:AG->Option AK)(base:BG)(k:Nat)(f:AD)(fd:Ag)(ps:List AG)(sp:BF)(x:AG):Prop where
 F:A8 P w K mg base BM k f fd ps sp
 m:mg x=AA (.ref f)k:Il K (.ref f)=AH
 b:BA K fd ps []
theorem Ck{X:BY}{x:AG}(C:fU X.af X.w X.K X.mg X.ah k f z ps sp x)(q:DK n X.A)(V:Ec X (e::D) t)(Z:k<=n:=by decide)(Y:Eb X x:=by rfl)(F:(x==("__debug__":AG))=AQ:=by decide)(W:Bv (e::D) X.ae=(AQ,BI e X.ae)::Bv D X.ae:=by rfl)(J:(EV U (Bv D X.ae)).any (·.1)=AQ:=by rfl):An X (.Call (.Name x p) (e::D) [] U) (XY sp [] Lp t):=Cj C.F (q.bb Z) Y C.m C.k C.b .nil Bk V F W J
theorem Cr{X:BY}{F:Ca}(i:Nat)(J:X.N.Nodup)(U:An X e Z)(hi:X.N[i]?=AA x:=by rfl)(Y:IP X.ae.scope x:=by first|exact .inl rfl|exact .inr rfl)(W:LQ e (AA (.Name x D)) F.line X.ae=BZ AQ:=by rfl)(V:X.fn x=AH\/X.ae.scope.names.lookup x=AA .local:=by first|exact .inl rfl|exact .inr rfl|assumption):D6 X (.Assign [.Name x D] e F) (MQ Z (F4 i)):=Bg J hi Y U W V
theorem Fm{X:BY}(i:Nat)(D:X.N.Nodup)(hi:X.N[i]?=AA x:=by rfl)(J:IP X.ae.scope x:=by first|exact .inl rfl|exact .inr rfl)(F:X.fn x=AH\/X.ae.scope.names.lookup x=AA .local:=by first|exact .inl rfl|exact .inr rfl|assumption):JE X (.Name x U) (F4 i):=FE D hi J F
theorem Ww{X:BY}{p D:Ca}(K:Ar)(q:An X a A)(Z:Ec X (e::U) t)(Y:X.K=K:=by rfl)(F:Jf a "append" X.ae (BI a X.ae)=BI a X.ae:=by rfl)(V:((EV D (Bv (e::U) X.ae)).all (λx=>!x.1)&&(Mi D (Ml [] X.ae)).all (λx=>x.1.isSome)&&Ae ((e::U).length+([]:List Jc).length+(if([]:List Jc).isEmpty then 0 else 1)<30))=AH:=by rfl)(J:(p.endLine==D.line)=AH:=by rfl)(z:Bv (e::U) X.ae=(AQ,BI e X.ae)::Bv U X.ae:=by rfl)(W:(EV D (Bv U X.ae)).any (·.1)=AQ:=by rfl):An X (.Call (.Attribute a "append" p) (e::U) [] D) (Rl K "list" XA A t):=JP Mc SG pH RM q Z Y F V J z W
theorem Kz{X:BY}{D:EI}(osc:EI)(W:List (AG×Nat))(q:HW X D W)(hi:Eu X (.Name x A) F wi)(M:∀C s H ex,HY (DF X D (x::W.map (·.1)) C s H ex) Z B)(G:∀C s H ex,An (DF X D (x::W.map (·.1)) C s H ex) Y P)(E:X.ic=AH:=by rfl)(K:X.ae.scope=osc:=by rfl)(I:D.kind=.function:=by rfl)(U:∀y∈D.names,y.2≠.cell:=by decide+kernel)(J:∀y∈D.names,y.2=.local->D.names.lookup y.1=AA .local:=by decide+kernel)(V:∀y∈D.names,y.2=.free->osc.names.lookup y.1=AA .cell\/osc.names.lookup y.1=AA .free:=by decide+kernel)(N:D.names.lookup x=AA .local:=by rfl)(z:(x::W.map (·.1)).Nodup:=by decide+kernel)(L:∀x,Ka F X.ae x=BZ x:=by intro _;rfl):An X (.ListComp Y [⟨.Name x A,F,Z,0⟩] D O) (JW 1 (W.map (·.2)) wi (F4 0) B P):=MI W E hi K I U J V q N z M G L
noncomputable def Gm(x:AE)(k:Int->Prop):Prop:=match x with|.int i=>k i|_=>False
noncomputable def N6(x:AE)(k:AD->Prop):Prop:=match x with|.ref i=>k i|_=>False
noncomputable def N7(x:Option (Option AE))(k:AE->Prop):Prop:=match x with|AA (AA v)=>k v|_=>False
noncomputable def Wm(xs:List AE)(k:AE->Prop):Prop:=match xs with|[x]=>k x|_=>False
noncomputable def RO(xs:List AE)(k:AE->AE->Prop):Prop:=match xs with|[x,y]=>k x y|_=>False
theorem GX(h:Gm x k):∃i,x=.int i/\k i:=by cases x<;>first|exact⟨_,rfl,h⟩|exact h.elim
theorem RP(h:N6 x k):∃i,x=.ref i/\k i:=by cases x<;>first|exact⟨_,rfl,h⟩|exact h.elim
theorem RQ(h:N7 x k):∃v,x=AA (AA v)/\k v:=by match x,h with|AA (AA v),h=>exact⟨v,rfl,h⟩
theorem jO(h:Wm xs k):∃x,xs=[x]/\k x:=by match xs,h with|[x],h=>exact⟨x,rfl,h⟩
theorem Wn(h:RO xs k):∃x y,xs=[x,y]/\k x y:=by match xs,h with|[x,y],h=>exact⟨x,y,rfl,h⟩
noncomputable def m9(i:Nat):A1:=λD H Q=>N7 D[i]? λv=>Q v H
noncomputable def OG(C:Int->Int->Prop)(g:Int->Int->AE):DU:=λx y H Q=>Gm x λi=>Gm y λj=>C i j/\Q (g i j) H
noncomputable def K5(g:Int->Int->AE):DU:=λx y H Q=>Gm x λi=>Gm y λj=>Q (g i j) H
noncomputable def lH(g:Int->AE):AE->AI->Bn->Prop:=λx H Q=>Gm x λi=>Q (g i) H
noncomputable def k8(K:Ar):DU:=λx y H Q=>N6 x λp=>Gm y λi=>∃D v,Bc K H p D/\Cb D i=AA v/\Q v H
noncomputable def lB(K:Ar):DU:=λx y H Q=>N6 x λp=>Gm y λi=>∃D v,B8 K H p D/\Cb D i=AA v/\Q v H
theorem j7(h:An X e t)(m:∀D H Q,t' D H Q->t D H Q):An X e t':=λF s D H Q I w=>h _ s D H Q I (m D H Q w)
theorem JO(h:CG X F r)(m:∀x y H Q,J x y H Q->r x y H Q):CG X F J:=λD s W H x y v u Q I U V w=>h _ s W H x y v u Q I U V (m x y H Q w)
theorem Rg(x y:AE)(H:AI)(Q:Bn)(h:OG C g x y H Q):K4 C g x y H Q:=by
 refine AB λD=>?_;obtain⟨i,rfl,F⟩:=GX h;obtain⟨j,rfl,c,q⟩:=GX F;refine D ?_;try clear D
 exact⟨i,j,rfl,rfl,c,q⟩
theorem MN(x y:AE)(H:AI)(Q:Bn)(h:K5 g x y H Q):JU g x y H Q:=by
 refine AB λD=>?_;obtain⟨i,rfl,F⟩:=GX h;obtain⟨j,rfl,q⟩:=GX F;refine D ?_;try clear D
 exact⟨i,j,rfl,rfl,q⟩
theorem AO{X:BY}{x:AG}(i:Nat)(F:X.N[i]?=AA x:=by rfl)(U:Nt X.ae.scope x:=by first|exact Or.inl rfl|exact Or.inr (Or.inl rfl)|exact Or.inr (Or.inr rfl))(J:(x==("__debug__":AG))=AQ:=by decide)(D:(x==("__classdict__":AG))=AQ:=by decide):An X (.Name x V) (m9 i):=j7 (W3 F U J D) λ_ _ _ h=>RQ h
theorem FT:CG X (Fb .Add) (K5 λi j=>.int (i+j)):=JO D8 MN
theorem KC:CG X (Fb .Sub) (K5 λi j=>.int (i-j)):=JO F5 MN
theorem RY:CG X (Fb .Mult) (OG Qt λi j=>.int (i*j)):=JO Eg Rg
theorem RT:CG X (Fb .FloorDiv) (OG Vo λi j=>.int (i/j)):=JO C8 Rg
theorem RX:CG X (Fb .Mod) (OG (λ_ j=>0<j) λi j=>.int (i%j)):=JO B6 Rg
theorem RW:CG X (EJ .Lt) (K5 λi j=>.bl (Ae (i<j))):=JO Wt MN
theorem MF:CG X (EJ .LtE) (K5 λi j=>.bl (Ae (i<=j))):=JO RV MN
theorem Wr:CG X (EJ .Gt) (K5 λi j=>.bl (Ae (j<i))):=JO N9 MN
theorem Xm:Nr X (qO .USub) (lH λi=>.int (-i)):=λD s J H x v Q I F h=>Xl D s J H x v Q I F (GX h)
theorem JT{X:BY}(K:Ar)(W:An X a C)(Y:An X b E)(Z:Q0 b:=by exactλ_ _=>rfl)(V:X.K=K:=by rfl):An X (.Subscript a b z) (K7 (k8 K) C E):=BC (λa b D s L H x y v u Q I A B h=>DL V a b D s L H x y v u Q I A B (by
 refine AB λF=>?_;obtain⟨p,rfl,h⟩:=RP h;obtain⟨i,rfl,G,w,J,U,q⟩:=GX h;refine F ?_;try clear F
 exact⟨p,G,i,w,rfl,rfl,J,U,q⟩)) W Y Z
theorem Bi{X:BY}(K:Ar)(W:An X a C)(Y:An X b E)(Z:Q0 b:=by exactλ_ _=>rfl)(V:X.K=K:=by rfl):An X (.Subscript a b z) (K7 (lB K) C E):=BC (λa b F s L H x y v u Q I A B h=>CD V a b _ s L H x y v u Q I A B (by
 refine AB λD=>?_;obtain⟨p,rfl,h⟩:=RP h;obtain⟨i,rfl,G,w,J,U,q⟩:=GX h;refine D ?_;try clear D
 exact⟨p,G,i,w,rfl,rfl,J,U,q⟩)) W Y Z
theorem V0{X:BY}(J:X.ic=AH):Ea X (.builtin "max") (λxs H Q=>RO xs λx y=>Gm x λi=>Gm y λj=>Q (.int (if j>i then j else i)) H):=λD s V H xs U Q I r h=>Vz J D s V H xs U Q I r (by
 refine AB λF=>?_;obtain⟨x,y,rfl,h⟩:=Wn h;obtain⟨i,rfl,h⟩:=GX h;obtain⟨j,rfl,q⟩:=GX h;refine F ?_;try clear F
 exact⟨i,j,rfl,q⟩)
theorem V1{X:BY}(J:X.ic=AH):Ea X (.builtin "min") (λxs H Q=>RO xs λx y=>Gm x λi=>Gm y λj=>Q (.int (if j<i then j else i)) H):=λD s V H xs U Q I r h=>gQ J D s V H xs U Q I r (by
 refine AB λF=>?_;obtain⟨x,y,rfl,h⟩:=Wn h;obtain⟨i,rfl,h⟩:=GX h;obtain⟨j,rfl,q⟩:=GX h;refine F ?_;try clear F
 exact⟨i,j,rfl,q⟩)
theorem Ks{X:BY}{K:Ar}(J:X.K=K:=by rfl):Ea X (.builtin "len") (λxs H Q=>Wm xs λx=>N6 x λp=>∃ys,(Bc K H p ys\/B8 K H p ys)/\Q (.int ys.length) H):=λD s V H xs U Q I r h=>Hi J D s V H xs U Q I r (by
 refine AB λF=>?_;obtain⟨x,rfl,h⟩:=jO h;obtain⟨p,rfl,ys,h,q⟩:=RP h;refine F ?_;try clear F
 exact⟨p,ys,rfl,h,q⟩)
theorem iE{x y:AG}(h:Q (.bool (!Ae (x.cps.toList<y.cps.toList))) s):Av (Ao prog w) A (EJ .GtE (.str x t) (.str y u)) Q E s:=by refine wpAny_richCompare_same (op:=.GtE) (by rfl) (by rfl) uP (Yq uP (Yo s x t) F.entry_str_ge ?_ (by rfl)) rfl;exact Cg (by grind)
theorem lJ(A:Cy)(s:AY)(D:Dw x)(F:Dw y)(J:B9 (BK x)=B9 (BK y))(prog:CQ)(w:Bq)(E:AK->AY->Prop)(Q:AK->AY->Prop)(h:Q (.bool (!Fj (BK x) (BK y))) s):Av (Ao prog w) A (richCompare .GtE x y) Q E s:=by
 cases x<;>first|exact D.elim|skip
 all_goals(cases y<;>first|exact F.elim|exact Fs (by assumption)|exact Fs (by assumption)|skip)
 . rename_i i _ j _;refine(w4 ?_);rw[show Ae (j<=i)=!Ae (i<j)by grind];exact h
 .exact(iE h)
theorem nA(l b:AD)(F D:Array AK)(n n2:Nat)(dd O:Option AD)(sl m:Array (Option AK))(r:Bool)(X:J7 F.toList D.toList F.size D.size r):Meets (Builtin.«tuple.__ge__» ⟨[.ref l,.ref b],[]⟩) (λ_ R s=>s.heap.get? l=AA {cls:=.type "tuple",dict:=dd,data:=.seq F n,slots:=sl}/\s.heap.get? b=AA {cls:=.type "tuple",dict:=O,data:=.seq D n2,slots:=m}/\R (.ok (.ret (.bool (!r)))) s):=.of_wp λW w A R s h=>by
 refine AB λI=>?_;obtain⟨K,g,d,M,L⟩:=s;obtain⟨hl,hb,h⟩:=h;refine I ?_;try clear I
 have f2:=t6;wp_walk using wpAny_loadPart' hl,wpAny_loadPart' hb,qS _ (λY b k=>b.1=AF/\k=⟨K,g,d,M,L⟩/\∃(N U:List AK)(q:Bool),Y=N.zip U/\J7 N U F.size D.size q/\R (.ok (.ret (.bool (!q)))) ⟨K,g,d,M,L⟩) _;case turn=>
  rintro⟨y,x⟩Y b k⟨z,rfl,N,U,q,C,f,G⟩;refine AB λI=>?_;obtain⟨⟨Z,o,rfl,E,P,Q,S,V⟩,J⟩:=f;refine I ?_;try clear I
  cases U with |nil=>rw[tD]at C;cases C|cons c U=>cases Z with|nil=>simp_all|cons a Z=> rw[K8,X5]at C;injection C with j B;injection j with hy X;subst hy X;have p:=P y DR;have t:=Q x DR;have u:=S 0 y x rfl rfl;have V:(if BK y=BK x then BB (Z.map BK) (U.map BK)else Fj (BK y) (BK x))=q:=V;refine A4 (WG A.in1 ⟨K,g,d,M,L⟩ p t u W w _ _ ?_);cases e:Ae (BK y=BK x)with|true=>rw[yY (y6 e)]at V;wp_walk;refine⟨rfl,rfl,Z++o,U,q,B,⟨⟨Z,o,rfl,?_,λv H=>P v (ER _ H),λv H=>Q v (ER _ H),λi x y e1 e2=>S (i+1) x y (by simpa using e1) (by simpa using e2),V⟩,?_⟩,G⟩;all_goals grind|false=> rw[yX (zA e)]at V;have T:=lJ A.in1 ⟨K,g,d,M,L⟩ p t u W w;wp_walk using T;exact⟨_,rfl,by rw[V];exact G⟩
 case fin=>
  rintro⟨b1,b2⟩k⟨z,rfl,N,U,q,C,⟨⟨Z,o,rfl,E,P,Q,S,V⟩,J⟩,G⟩;simp only at z;subst z;have H:q=Ae (F.size<D.size):=by rw[<-V];cases Z with
   |nil=>
    rcases E with E|E
    . subst E;cases U with |nil=>simp only[JY,FG]at J;exact(y4 (by(first|lia|omega))).symm|cons c U=>simp only[JY,FG,F6]at J;exact(y3 (by(first|lia|omega))).symm
    . have:U=[]:=Xu (by simpa using E);subst this;simp only[JY,oF]at J;exact(y4 (by(first|lia|omega))).symm|cons a Z=>cases U with|nil=>simp only[JY,F6,K8]at J;exact(y4 (by(first|lia|omega))).symm|cons c U=> rw[K8,X5]at C;cases C
  rw[H,show(!Ae (F.size<D.size))=Ae (D.size<=F.size)by rw[<-decide_not];exact zG.mpr (by(first|lia|omega))]at G;wp_walk;exact⟨_,rfl,by simpa[uA]using G⟩
 case h=>exact⟨rfl,rfl,F.toList,D.toList,r,rfl,X,h⟩
noncomputable def k6(K:Ar):DU:=λx y H Q=>∃a b D J F,x=.ref a/\y=.ref b/\B8 K H a (D.map Ax++J)/\B8 K H b (F.map Ax)/\(J=[]\/F.length<=D.length)/\(∀(i:Nat)k m,D[i]?=AA k->F[i]?=AA m->B9 k=B9 m)/\Q (.bl (!BB D F)) H
theorem jQ{X:BY}{K:Ar}(g:X.A.units<GC)(c:X.K=K:=by rfl):CG X (EJ .GtE) (k6 K):=by
 subst c;intro V s σ H x y v u Q I rx ry h;refine AB λO=>?_;obtain⟨a,b,Z,zs,z,rfl,rfl,d,e,hz,f,q⟩:=h;cases rx;cases ry;obtain⟨j,r1,t,_⟩:=I.dy d;obtain⟨D,r2,w,_⟩:=I.dy e;obtain⟨B,C,rfl,P,q2⟩:=ON r1;obtain⟨k,T⟩:=IW P;obtain⟨l,f2⟩:=IW r2;have m:=P.ai;have o:=r2.ai;have l3:=q2.ai;rw[A0]at m o;obtain⟨⟨R,S,G,sl⟩,N,L,n,M⟩:=id t;obtain⟨⟨E,Y,W,A⟩,U,F,r,J⟩:=id w;refine O ?_;try clear O
 simp only at L M F J;subst L M F J;have p:J7 (B++C).toArray.toList D.toArray.toList (B++C).toArray.size D.toArray.size (BB Z z):=by
  refine⟨⟨B,C,by simp,?_,T,by grind,λi x y e1 e2=>?_,by simp[k,l]⟩,by simp;(first|lia|omega)⟩;.grind
  .refine f i _ _ (by grind) (by grind)
 exact qK (op:=.GtE) ⟨_,N,rfl⟩ ⟨_,U,rfl⟩ F.slot_tuple_ge F.entry_tuple_ge (by rfl) (nA a b _ _ n r S Y sl A _ p) ⟨N,U,show Od (!BB Z z)≠vE/\ED X V σ Q (.bool (!BB Z z)) s from⟨(by grind),⟨.bl _,H,I,rfl,q⟩⟩⟩ g
theorem AZ.alw{X:BY}(I:AZ X D Y H s)(e:H a=AA (.frz o u))(n:∀o u,X.H₀ a≠AA (.frz o u)):AZ X D Y (AN H a u) s:=by
  have F:∀{b},H b=AF->b≠a:=(by grind);refine⟨I.ok,I.os,I.jx,⟨I.ah.ab,I.ah.zv,λb o q h C=>?_,I.ah.rl,λb W q=>?_,λb o u q=>?_,λb E q=>?_⟩,I.ads,I.uz,by rw[Ac (F I.bh)];exact I.bh,λx c q=>by rw[Ac (F (I.mf x c q))];exact I.mf x c q,λp B=>?_,λb v q=>?_,I.dh⟩;. have:=I.ah.bh b o q h C;rw[Ac (F this)];grind
  . have:=I.ah.abq b W q;rw[Ac (by grind)];grind
  . have:=I.ah.yy b o u q;rw[Ac (by grind)];grind
  . obtain⟨m,this⟩:=I.ah.abp b E q;exact⟨m,by rw[Ac (by grind)];grind⟩
  . refine AB λU=>?_;obtain⟨Z,J,A⟩:=I.zu p B;refine U ?_;try clear U
    exact⟨Z,by rw[Ac (F J)];exact J,A⟩
  . have V:∀{v},C5 _ _ H s.heap b v->C5 X.af X.w (AN H a u) s.heap b v:=λh=>h.abm (by grind) (λc q=>by rw[Ac (by grind)];exact q) λc W q=>by rw[Ac (by grind)];exact q
    by_cases z:b=a
    . subst z;rw[Ab]at q;cases q;exact V (I.bx b _ e).2
    . rw[Ac z]at q;exact V (I.bx b v q)
theorem W6{st:A3}(h:D6 X st t):D6 X st (λD J H=>∃a,(∀o u,H a≠AA (.frz o u))/\t {D with nx:=λF H'=>∃o u,H' a=AA (.frz o u)/\D.nx F (AN H' a u)} J H):=by intro V s J H D I⟨a,Y,w⟩;have Z:=λo u z=>Y o u (I.ah.yy _ _ _ z);refine Ay (h _ s J H _ I w) λf A q=>?_;cases f with
 |next=>
  refine AB λU=>?_;obtain⟨F,H',W,o,u,e,q⟩:=q;refine U ?_;try clear U
  exact⟨F,_,W.alw e Z,q⟩|brk=>exact q|cont=>exact q|ret u=>exact q
noncomputable def Km(o:A6)(kvs:List (AL×AE))(d:AD):FQ:=⟨λi H=>H d=AA (.frz o (.dK kvs))/\i<kvs.length,λi H x D=>D=H/\∃p,kvs[i]?=AA p/\x=p.2,λi H=>H d=AA (.frz o (.dK kvs))/\kvs.length<=i⟩
theorem nD{K:Ar}(d it:AD){o:A6}{kvs:List (AL×AE)}(j:o.data=.dict u ep):JG P w K tg (Km o kvs d) [it] it (λi h=>h.IsValIter it d i kvs.length ep)where
 ajh:=by simp
 cn:=λi h F b f=>by
  have e:b=it:=by grind
  refine AB λD=>?_;obtain⟨o,e,c,d⟩:=F;refine D ?_;try clear D
  grind
 ab:=λi h a F k=>by
  refine AB λD=>?_;obtain⟨o,e,r⟩:=F;refine D ?_;try clear D
  exact⟨o,(by grind),r⟩
 abb:=by
  intro X N hw M g i Y s σ H E I O F Q;subst N hw M;refine AB λD=>?_;obtain⟨e,y⟩:=Q;obtain⟨z,J,U⟩:=Ny I.bx e j;refine D ?_;try clear D
  have Z:=Ij J;have S:z[i]?=AA (z[i]'(by(first|lia|omega))):=(by grind);have R:kvs[i]?=AA kvs[i]:=(by grind);have T:=OA J R S;generalize kvs[i]=p at R T;generalize z[i]'(by(first|lia|omega))=q at S T;refine AB λD=>?_;obtain⟨k,x⟩:=q;obtain⟨A,B,v,C,G,L⟩:=O it (by simp);refine D ?_;try clear D
  rw[Z]at F;refine wpAny_pyNext_values_item F U S λa W sb=>?_;have l:=I.eh (t':=s.toks) (λb o f e=>(sb.2 b f).trans e) A B C G L;refine AB λD=>?_;obtain⟨o',t,m,n⟩:=id W;refine D ?_;try clear D
  rw[<-Z]at W;exact⟨x,rfl,Nz t m n (by decide) ⟨p.2,H,l,T.2,⟨rfl,p,R,rfl⟩,W,(by grind)⟩⟩
 aaz:=by
  intro X N hw M g i Y s σ H E I O F Q;subst N hw M;refine AB λD=>?_;obtain⟨e,y⟩:=Q;obtain⟨z,J,U⟩:=Ny I.bx e j;have Z:=Ij J;obtain⟨A,B,v,C,G,L⟩:=O it (by simp);refine D ?_;try clear D
  rw[Z]at F;exact wpAny_pyNext_values_end (I.ok.hd g) F U (by grind) λa eb=>⟨rfl,I.eh (by assumption) A B C G L⟩
 adk:=λ_ _ _ _ _ F h=>wpAny_pyIter_valiter F h
noncomputable def Kl(o:A6)(kvs:List (AL×AE))(d:AD):FQ:=⟨λi H=>H d=AA (.frz o (.dK kvs))/\i<kvs.length,λi H x D=>∃r p,kvs[i]?=AA p/\x=.ref r/\H r=AF/\D=AN H r (.tup [Ax p.1,p.2]),λi H=>H d=AA (.frz o (.dK kvs))/\kvs.length<=i⟩
theorem nC{K:Ar}(d it:AD){o:A6}{kvs:List (AL×AE)}(y:o.data=.dict es ep):JG P w K (.Tuple z x1 N) (Kl o kvs d) [it] it (λi h=>∃R S,IsItemIter h it d i kvs.length ep R S)where
 ajh:=by simp
 cn:=(by grind)
 ab:=(by grind)
 abb:=by
  intro X c hw a v i L s σ H E I A D g;subst c hw a;refine AB λF=>?_;obtain⟨e,hi⟩:=g;obtain⟨Z,J,U⟩:=Ny I.bx e y;refine F ?_;try clear F
  have Q:kvs.length=Z.length:=Ij J;have Y:Z[i]?=AA (Z[i]'(by(first|lia|omega))):=(by grind);have l:kvs[i]?=AA kvs[i]:=(by grind);have T:=OA J l Y;generalize kvs[i]=p at l T;generalize Z[i]'(by(first|lia|omega))=q at Y T;refine AB λF=>?_;obtain⟨k,x⟩:=q;obtain⟨R,S,D⟩:=D;refine F ?_;try clear F
  rw[Q]at D;have r:it<s.heap.objs.size:=CP D;refine wpAny_pyNext_items_item D U Y λC h' B eo ht hsz kk=>⟨_,rfl,wpAny_letOwnedTupleGo_items eo λO f sb=>?_⟩;have hn:=I.bx.bo (Al _);have M:s.heap.objs.size≠it:=X8 r;have G:∀b o,b∉[it]->s.heap.get? b=AA o->O.get? b=AA o:=λb o W q=>by have t:b≠it:=(by grind);exact(sb.2 b t).trans (kk b o t q)
  have hk:p.1=k:=T.1;have rk:BQ (Ax p.1) C:=by rw[hk];exact WW B
  have m:=(sb.2 _ M).trans ht;have j:Ci X.af X.w (AN H s.heap.objs.size (.tup [Ax p.1,p.2])) O:=by refine(I.bx.abl [it] (λb W=>(A b W).1) G).afb hn ?_;exact⟨show 2<=Aw by decide,[C,x],.cons rk (.cons T.2 .nil),⟨_,m,rfl,_,rfl⟩⟩
  have un:FR (Ew X.cb) [it] H (AN H s.heap.objs.size (.tup [Ax p.1,p.2])) s.heap O:=by
   refine⟨(by grind),λb o q n W Y=>⟨o.slots,G b o Y q⟩,λb o q n Y=>?_,(by grind),λb ys q=>?_,λb o u q=>?_,λb ps q=>?_⟩;.rw[Ac (ET (CP q))];exact n
   .rw[Ac (by grind)];exact q
   .rw[Ac (by grind)];exact q
   .exact⟨#[],by rw[Ac (by grind),Y9];exact q⟩
  have I2:=I.acw (s':={s with heap:=O}) (ch:=[it]) rfl un j I.jx λb W=>by obtain⟨q0,q1,q2,q3,q4,q5⟩:=A b W;grind
  rw[<-Q]at f;refine⟨.ref s.heap.objs.size,_,I2,rfl,⟨_,p,l,rfl,hn,rfl⟩,(by grind),λb W=>?_⟩;have e:b=it:=by grind
  subst e;rw[Ac M.symm];exact(A b W).1
 aaz:=by
  intro X c hw a v i L s σ H E I A D g;subst c hw a;refine AB λF=>?_;obtain⟨e,hi⟩:=g;obtain⟨Z,J,U⟩:=Ny I.bx e y;have Q:kvs.length=Z.length:=Ij J;obtain⟨f0,f1,f2,f3,f4,f5⟩:=A it (by simp);obtain⟨R,S,D⟩:=D;refine F ?_;try clear F
  rw[Q]at D;exact wpAny_pyNext_items_end (I.ok.hd v) D U (by grind) λh' eb=>⟨rfl,I.eh (t':=s.toks) (by assumption) f0 f1 f3 f4 f5⟩
 adk:=λ_ _ _ _ _ D h=>by
  refine AB λF=>?_;obtain⟨R,S,D⟩:=D;refine F ?_;try clear F
  exact W.kcp_self D h
noncomputable def WO(J:A6->List (AL×AE)->AD->FQ)(W:A1):Ed:=λY H R=>W Y H λx F=>∃a D,x=.ref a/\F a=AA (.dK D)/\∀o U,U=AN F a (.frz o (.dK D))->R (J o D a) U
theorem AZ.acy{X:BY}{s:AY}(I:AZ X D B H s)(q:H a=AA (.dK kvs)):∃vs o F ep,Dj kvs vs/\o.data=.dict F ep/\(a==Io)=AQ/\AZ X D B (AN H a (.frz o (.dK kvs))) s/\s.heap.DictAt (Dq X.af X.w) a vs ep:=by
 refine AB λA=>?_;obtain⟨z,Z,vs,J,o,F,ep,U,Y,W,r⟩:=(show C5 _ _ H _ a _ from I.bx a _ q);refine A ?_;try clear A
 exact⟨vs,o,F,ep,J,W,Z,I.aak (by rw[q];trivial) (.inl rfl) (by grind) ⟨o,U⟩ ⟨U,z,Z,vs,J,o,F,ep,U,Y,W,r⟩,o,F,U,Y,W,r⟩
theorem kK{X:BY}{pos apos:Ca}(ho:An X o tl)(hbase:Jf o "values" X.ae (BI o X.ae)=BI o X.ae)(hline:(apos.endLine==pos.line)=AH):Eu X tg (.Call (.Attribute o "values" apos) [] [] pos) (WO Km tl):=by
 intro pins s σ H R I h;refine Yp (T:="dict") (id:="dict.values") hbase rfl hline YQ uN F.type_dict_values (Ay (ho pins s σ H _ I h) λv s1⟨x,H1,I1,r1,a,kvs,e,q0,q⟩=>?_);subst e;refine AB λnG=>?_;cases r1;obtain⟨vs,o,es,ep,rel,hd,lo,I2,hat⟩:=I1.acy q0;refine nG ?_;try clear nG
 have hl:kvs.length=vs.length:=Ij rel;refine⟨hat.dictOf.typeIs,hat.dictOf.mapOf.noDict,?_⟩;refine v5 uN F.entry_dict_values rfl (vW ⟨rfl,hat.dictOf.typeIs,(by rfl),_,meets_dict_values (Dq X.af X.w) a lo,⟨vs,hat.dictOf⟩,?_⟩);refine wpAny_pyIter_values (knd:=Dq X.af X.w) (d:=a) (kvs:=vs) (ep:=ep) ⟨_,FZ _ rfl,rfl,rfl⟩ (hat.push _) ?_;have I3:AZ X pins σ (AN H1 a (.frz o (.dK kvs))) {s1 with heap:=s1.heap.push {cls:=.type "dict_values",data:=.fields #[.ref a]}}:=I2.jf (t':=s1.toks) λb o e=>Cn _ e;generalize s1.heap.push _=h1 at I3⊢;refine⟨h1.objs.size,[h1.objs.size],_,Km o kvs a,_,rfl,I3.jf (t':=s1.toks) λb o e=>Cn _ e,nD a _ hd,⟨_,FZ _ rfl,rfl,by grind⟩,λb hb=>?_,q o _ rfl⟩;have e:b=h1.objs.size:=by grind
 subst e;exact I3.zp (Al _) (I3.bx.bo (Al _))
theorem kJ{X:BY}{pos apos:Ca}(ho:An X o tl)(hbase:Jf o "items" X.ae (BI o X.ae)=BI o X.ae)(hline:(apos.endLine==pos.line)=AH):Eu X (.Tuple elts x1 tpos) (.Call (.Attribute o "items" apos) [] [] pos) (WO Kl tl):=by
 intro pins s σ H R I h;refine Yp (T:="dict") (id:="dict.items") hbase rfl hline YQ uL F.type_dict_items (Ay (ho pins s σ H _ I h) λv s1⟨x,H1,I1,r1,a,kvs,e,q0,q⟩=>?_);subst e;refine AB λnG=>?_;cases r1;obtain⟨vs,o,es,ep,rel,hd,lo,I2,hat⟩:=I1.acy q0;refine nG ?_;try clear nG
 have hl:kvs.length=vs.length:=Ij rel;refine⟨hat.dictOf.typeIs,hat.dictOf.mapOf.noDict,?_⟩;refine v5 uL F.entry_dict_items rfl (vW ⟨rfl,hat.dictOf.typeIs,(by rfl),_,meets_dict_items (Dq X.af X.w) a lo,⟨vs,hat.dictOf⟩,?_⟩);refine wpAny_pyIter_items (knd:=Dq X.af X.w) (d:=a) (kvs:=vs) (ep:=ep) ⟨_,FZ _ rfl,rfl,rfl⟩ (hat.push _) ?_;have I3:AZ X pins σ (AN H1 a (.frz o (.dK kvs))) {s1 with heap:=s1.heap.push {cls:=.type "dict_items",data:=.fields #[.ref a]}}:=I2.jf (t':=s1.toks) λb o e=>Cn _ e;generalize s1.heap.push _=h1 at I3⊢;refine⟨h1.objs.size,[h1.objs.size],_,Kl o kvs a,_,rfl,I3.jf (t':=s1.toks) λb o e=>Cn _ e,nC a _ hd,⟨.none,.none,by rw[hl];exact FZ _ rfl⟩,λb hb=>?_,q o _ rfl⟩;have e:b=h1.objs.size:=by grind
 subst e;exact I3.zp (Al _) (I3.bx.bo (Al _))
theorem iB{d:AD}{o:A6}{kvs:List (AL×AE)}{g:Du}{C:Cf}{D:Fz}{F:Am}{H:AI}(J:Nat->Am->AI->Prop)(E:J 0 F H)(L:∀i F H,i<=kvs.length->J i F H->H d=AA (.frz o (.dK kvs)))(O:∀(i:Nat)p F H,kvs[i]?=AA p->J i F H->g p.2 F H λY A=>C {D with nx:=J (i+1),ct:=J (i+1),bk:=D.nx} Y A)(I:∀F H,J kvs.length F H->D.nx F H):∃W:Nat->Nat->Am->AI->Prop,(∃m,W 0 m F H)/\∀i m F H,W i m F H->((Km o kvs d).zw i H/\D.nx F H)\/((Km o kvs d).go i H/\∃N:Am->AI->Prop,(∀U H',N U H'->∃B,B<m/\W (i+1) B U H')/\∀x H',(Km o kvs d).aht i H x H'->g x F H' λY A=>C {D with nx:=N,ct:=N,bk:=D.nx} Y A):=by
  refine⟨λi m F H=>m=kvs.length-i/\i<=kvs.length/\J i F H,⟨kvs.length,by simp,CU _,E⟩,?_⟩;intro i m F H G;refine AB λz=>?_;obtain⟨rfl,K,p⟩:=G;refine z ?_;try clear z
  have q:=L i F H K p;by_cases Z:i<kvs.length
  . refine .inr ⟨⟨q,Z⟩,J (i+1),λU H' P=>⟨kvs.length-(i+1),by(first|lia|omega),rfl,Z,P⟩,λx H' y=>?_⟩;refine AB λz=>?_;obtain⟨e,Q,M,rfl⟩:=y;refine z ?_;try clear z
    subst e;exact O i Q F _ M p
  . have:i=kvs.length:=by(first|lia|omega)
    subst this;exact .inl ⟨⟨q,Al _⟩,I F H p⟩
theorem iA{d:AD}{o:A6}{kvs:List (AL×AE)}{g:Du}{C:Cf}{D:Fz}{F:Am}{H:AI}(J:Nat->Am->AI->Prop)(E:J 0 F H)(L:∀i F H,i<=kvs.length->J i F H->H d=AA (.frz o (.dK kvs)))(P:∀(i:Nat)p F H r,kvs[i]?=AA p->J i F H->H r=AF->g (.ref r) F (AN H r (.tup [Ax p.1,p.2])) λY A=>C {D with nx:=J (i+1),ct:=J (i+1),bk:=D.nx} Y A)(I:∀F H,J kvs.length F H->D.nx F H):∃W:Nat->Nat->Am->AI->Prop,(∃m,W 0 m F H)/\∀i m F H,W i m F H->((Kl o kvs d).zw i H/\D.nx F H)\/((Kl o kvs d).go i H/\∃N:Am->AI->Prop,(∀U H',N U H'->∃B,B<m/\W (i+1) B U H')/\∀x H',(Kl o kvs d).aht i H x H'->g x F H' λY A=>C {D with nx:=N,ct:=N,bk:=D.nx} Y A):=by
  refine⟨λi m F H=>m=kvs.length-i/\i<=kvs.length/\J i F H,⟨kvs.length,by simp,CU _,E⟩,?_⟩;intro i m F H G;refine AB λz=>?_;obtain⟨rfl,K,p⟩:=G;refine z ?_;try clear z
  have q:=L i F H K p;by_cases Z:i<kvs.length
  . refine .inr ⟨⟨q,Z⟩,J (i+1),λU H' Q=>⟨kvs.length-(i+1),by(first|lia|omega),rfl,Z,Q⟩,λx H' y=>?_⟩;refine AB λz=>?_;obtain⟨r,R,M,rfl,O,rfl⟩:=y;refine z ?_;try clear z
    exact P i R F _ r M p O
  . have:i=kvs.length:=by(first|lia|omega)
    subst this;exact .inl ⟨⟨q,Al _⟩,I F H p⟩
inductive Jm{α0 α1:Type}(p0 p1 p2:α0->α1->Prop):Prop|mk(a0:α0)(a1:α1)(_:p0 a0 a1)(_:p1 a0 a1)(_:p2 a0 a1):Jm p0 p1 p2
inductive Kf{α0 α1:Type}(p0 p1 p2 p3:α0->α1->Prop):Prop|mk(a0:α0)(a1:α1)(_:p0 a0 a1)(_:p1 a0 a1)(_:p2 a0 a1)(_:p3 a0 a1):Kf p0 p1 p2 p3
inductive Sm{α0 α1:Type}(p0 p1 p2 p3 p4 p5:α0->α1->Prop):Prop|mk(a0:α0)(a1:α1)(_:p0 a0 a1)(_:p1 a0 a1)(_:p2 a0 a1)(_:p3 a0 a1)(_:p4 a0 a1)(_:p5 a0 a1):Sm p0 p1 p2 p3 p4 p5
inductive O4{α0 α1:Type}(p0 p1 p2 p3 p4 p5 p6 p7 p8 p9 p10:α0->α1->Prop):Prop|mk(a0:α0)(a1:α1)(_:p0 a0 a1)(_:p1 a0 a1)(_:p2 a0 a1)(_:p3 a0 a1)(_:p4 a0 a1)(_:p5 a0 a1)(_:p6 a0 a1)(_:p7 a0 a1)(_:p8 a0 a1)(_:p9 a0 a1)(_:p10 a0 a1):O4 p0 p1 p2 p3 p4 p5 p6 p7 p8 p9 p10
inductive Sn{α0 α1 α2:Type}(p0 p1 p2:α0->α1->α2->Prop):Prop|mk(a0:α0)(a1:α1)(a2:α2)(_:p0 a0 a1 a2)(_:p1 a0 a1 a2)(_:p2 a0 a1 a2):Sn p0 p1 p2
inductive O5{α0 α1 α2:Type}(p0 p1 p2 p3:α0->α1->α2->Prop):Prop|mk(a0:α0)(a1:α1)(a2:α2)(_:p0 a0 a1 a2)(_:p1 a0 a1 a2)(_:p2 a0 a1 a2)(_:p3 a0 a1 a2):O5 p0 p1 p2 p3
inductive Gw{α0 α1 α2:Type}(p0 p1 p2 p3 p4:α0->α1->α2->Prop):Prop|mk(a0:α0)(a1:α1)(a2:α2)(_:p0 a0 a1 a2)(_:p1 a0 a1 a2)(_:p2 a0 a1 a2)(_:p3 a0 a1 a2)(_:p4 a0 a1 a2):Gw p0 p1 p2 p3 p4
inductive So{α0 α1 α2:Type}(p0 p1 p2 p3 p4 p5:α0->α1->α2->Prop):Prop|mk(a0:α0)(a1:α1)(a2:α2)(_:p0 a0 a1 a2)(_:p1 a0 a1 a2)(_:p2 a0 a1 a2)(_:p3 a0 a1 a2)(_:p4 a0 a1 a2)(_:p5 a0 a1 a2):So p0 p1 p2 p3 p4 p5
inductive Sq{α0 α1 α2:Type}(p0 p1 p2 p3 p4 p5 p6 p7:α0->α1->α2->Prop):Prop|mk(a0:α0)(a1:α1)(a2:α2)(_:p0 a0 a1 a2)(_:p1 a0 a1 a2)(_:p2 a0 a1 a2)(_:p3 a0 a1 a2)(_:p4 a0 a1 a2)(_:p5 a0 a1 a2)(_:p6 a0 a1 a2)(_:p7 a0 a1 a2):Sq p0 p1 p2 p3 p4 p5 p6 p7
inductive Sr{α0 α1 α2:Type}(p0 p1 p2 p3 p4 p5 p6 p7 p8:α0->α1->α2->Prop):Prop|mk(a0:α0)(a1:α1)(a2:α2)(_:p0 a0 a1 a2)(_:p1 a0 a1 a2)(_:p2 a0 a1 a2)(_:p3 a0 a1 a2)(_:p4 a0 a1 a2)(_:p5 a0 a1 a2)(_:p6 a0 a1 a2)(_:p7 a0 a1 a2)(_:p8 a0 a1 a2):Sr p0 p1 p2 p3 p4 p5 p6 p7 p8
inductive Ss{α0 α1 α2 α3:Type}(p0 p1 p2:α0->α1->α2->α3->Prop):Prop|mk(a0:α0)(a1:α1)(a2:α2)(a3:α3)(_:p0 a0 a1 a2 a3)(_:p1 a0 a1 a2 a3)(_:p2 a0 a1 a2 a3):Ss p0 p1 p2
inductive O6{α0 α1 α2 α3:Type}(p0 p1 p2 p3:α0->α1->α2->α3->Prop):Prop|mk(a0:α0)(a1:α1)(a2:α2)(a3:α3)(_:p0 a0 a1 a2 a3)(_:p1 a0 a1 a2 a3)(_:p2 a0 a1 a2 a3)(_:p3 a0 a1 a2 a3):O6 p0 p1 p2 p3
inductive Su{α0 α1 α2 α3:Type}(p0 p1 p2 p3 p4:α0->α1->α2->α3->Prop):Prop|mk(a0:α0)(a1:α1)(a2:α2)(a3:α3)(_:p0 a0 a1 a2 a3)(_:p1 a0 a1 a2 a3)(_:p2 a0 a1 a2 a3)(_:p3 a0 a1 a2 a3)(_:p4 a0 a1 a2 a3):Su p0 p1 p2 p3 p4
inductive O7{α0 α1 α2 α3:Type}(p0 p1 p2 p3 p4 p5 p6:α0->α1->α2->α3->Prop):Prop|mk(a0:α0)(a1:α1)(a2:α2)(a3:α3)(_:p0 a0 a1 a2 a3)(_:p1 a0 a1 a2 a3)(_:p2 a0 a1 a2 a3)(_:p3 a0 a1 a2 a3)(_:p4 a0 a1 a2 a3)(_:p5 a0 a1 a2 a3)(_:p6 a0 a1 a2 a3):O7 p0 p1 p2 p3 p4 p5 p6
inductive Sv{α0 α1 α2 α3:Type}(p0 p1 p2 p3 p4 p5 p6 p7:α0->α1->α2->α3->Prop):Prop|mk(a0:α0)(a1:α1)(a2:α2)(a3:α3)(_:p0 a0 a1 a2 a3)(_:p1 a0 a1 a2 a3)(_:p2 a0 a1 a2 a3)(_:p3 a0 a1 a2 a3)(_:p4 a0 a1 a2 a3)(_:p5 a0 a1 a2 a3)(_:p6 a0 a1 a2 a3)(_:p7 a0 a1 a2 a3):Sv p0 p1 p2 p3 p4 p5 p6 p7
inductive Sw{α0 α1 α2 α3:Type}(p0 p1 p2 p3 p4 p5 p6 p7 p8:α0->α1->α2->α3->Prop):Prop|mk(a0:α0)(a1:α1)(a2:α2)(a3:α3)(_:p0 a0 a1 a2 a3)(_:p1 a0 a1 a2 a3)(_:p2 a0 a1 a2 a3)(_:p3 a0 a1 a2 a3)(_:p4 a0 a1 a2 a3)(_:p5 a0 a1 a2 a3)(_:p6 a0 a1 a2 a3)(_:p7 a0 a1 a2 a3)(_:p8 a0 a1 a2 a3):Sw p0 p1 p2 p3 p4 p5 p6 p7 p8
inductive Sx{α0 α1 α2 α3 α4:Type}(p0 p1 p2 p3:α0->α1->α2->α3->α4->Prop):Prop|mk(a0:α0)(a1:α1)(a2:α2)(a3:α3)(a4:α4)(_:p0 a0 a1 a2 a3 a4)(_:p1 a0 a1 a2 a3 a4)(_:p2 a0 a1 a2 a3 a4)(_:p3 a0 a1 a2 a3 a4):Sx p0 p1 p2 p3
inductive M8{α0 α1 α2 α3 α4:Type}(p0 p1 p2 p3 p4:α0->α1->α2->α3->α4->Prop):Prop|mk(a0:α0)(a1:α1)(a2:α2)(a3:α3)(a4:α4)(_:p0 a0 a1 a2 a3 a4)(_:p1 a0 a1 a2 a3 a4)(_:p2 a0 a1 a2 a3 a4)(_:p3 a0 a1 a2 a3 a4)(_:p4 a0 a1 a2 a3 a4):M8 p0 p1 p2 p3 p4
inductive O9{α0 α1 α2 α3 α4:Type}(p0 p1 p2 p3 p4 p5:α0->α1->α2->α3->α4->Prop):Prop|mk(a0:α0)(a1:α1)(a2:α2)(a3:α3)(a4:α4)(_:p0 a0 a1 a2 a3 a4)(_:p1 a0 a1 a2 a3 a4)(_:p2 a0 a1 a2 a3 a4)(_:p3 a0 a1 a2 a3 a4)(_:p4 a0 a1 a2 a3 a4)(_:p5 a0 a1 a2 a3 a4):O9 p0 p1 p2 p3 p4 p5
inductive Sy{α0 α1 α2 α3 α4:Type}(p0 p1 p2 p3 p4 p5 p6:α0->α1->α2->α3->α4->Prop):Prop|mk(a0:α0)(a1:α1)(a2:α2)(a3:α3)(a4:α4)(_:p0 a0 a1 a2 a3 a4)(_:p1 a0 a1 a2 a3 a4)(_:p2 a0 a1 a2 a3 a4)(_:p3 a0 a1 a2 a3 a4)(_:p4 a0 a1 a2 a3 a4)(_:p5 a0 a1 a2 a3 a4)(_:p6 a0 a1 a2 a3 a4):Sy p0 p1 p2 p3 p4 p5 p6
inductive Sz{α0 α1 α2 α3 α4:Type}(p0 p1 p2 p3 p4 p5 p6 p7:α0->α1->α2->α3->α4->Prop):Prop|mk(a0:α0)(a1:α1)(a2:α2)(a3:α3)(a4:α4)(_:p0 a0 a1 a2 a3 a4)(_:p1 a0 a1 a2 a3 a4)(_:p2 a0 a1 a2 a3 a4)(_:p3 a0 a1 a2 a3 a4)(_:p4 a0 a1 a2 a3 a4)(_:p5 a0 a1 a2 a3 a4)(_:p6 a0 a1 a2 a3 a4)(_:p7 a0 a1 a2 a3 a4):Sz p0 p1 p2 p3 p4 p5 p6 p7
inductive O8{α0 α1 α2 α3 α4:Type}(p0 p1 p2 p3 p4 p5 p6 p7 p8 p9:α0->α1->α2->α3->α4->Prop):Prop|mk(a0:α0)(a1:α1)(a2:α2)(a3:α3)(a4:α4)(_:p0 a0 a1 a2 a3 a4)(_:p1 a0 a1 a2 a3 a4)(_:p2 a0 a1 a2 a3 a4)(_:p3 a0 a1 a2 a3 a4)(_:p4 a0 a1 a2 a3 a4)(_:p5 a0 a1 a2 a3 a4)(_:p6 a0 a1 a2 a3 a4)(_:p7 a0 a1 a2 a3 a4)(_:p8 a0 a1 a2 a3 a4)(_:p9 a0 a1 a2 a3 a4):O8 p0 p1 p2 p3 p4 p5 p6 p7 p8 p9
inductive S4{α0 α1 α2 α3 α4 α5:Type}(p0 p1 p2:α0->α1->α2->α3->α4->α5->Prop):Prop|mk(a0:α0)(a1:α1)(a2:α2)(a3:α3)(a4:α4)(a5:α5)(_:p0 a0 a1 a2 a3 a4 a5)(_:p1 a0 a1 a2 a3 a4 a5)(_:p2 a0 a1 a2 a3 a4 a5):S4 p0 p1 p2
inductive S5{α0 α1 α2 α3 α4 α5:Type}(p0 p1 p2 p3:α0->α1->α2->α3->α4->α5->Prop):Prop|mk(a0:α0)(a1:α1)(a2:α2)(a3:α3)(a4:α4)(a5:α5)(_:p0 a0 a1 a2 a3 a4 a5)(_:p1 a0 a1 a2 a3 a4 a5)(_:p2 a0 a1 a2 a3 a4 a5)(_:p3 a0 a1 a2 a3 a4 a5):S5 p0 p1 p2 p3
inductive S6{α0 α1 α2 α3 α4 α5:Type}(p0 p1 p2 p3 p4:α0->α1->α2->α3->α4->α5->Prop):Prop|mk(a0:α0)(a1:α1)(a2:α2)(a3:α3)(a4:α4)(a5:α5)(_:p0 a0 a1 a2 a3 a4 a5)(_:p1 a0 a1 a2 a3 a4 a5)(_:p2 a0 a1 a2 a3 a4 a5)(_:p3 a0 a1 a2 a3 a4 a5)(_:p4 a0 a1 a2 a3 a4 a5):S6 p0 p1 p2 p3 p4
inductive PB{α0 α1 α2 α3 α4 α5:Type}(p0 p1 p2 p3 p4 p5:α0->α1->α2->α3->α4->α5->Prop):Prop|mk(a0:α0)(a1:α1)(a2:α2)(a3:α3)(a4:α4)(a5:α5)(_:p0 a0 a1 a2 a3 a4 a5)(_:p1 a0 a1 a2 a3 a4 a5)(_:p2 a0 a1 a2 a3 a4 a5)(_:p3 a0 a1 a2 a3 a4 a5)(_:p4 a0 a1 a2 a3 a4 a5)(_:p5 a0 a1 a2 a3 a4 a5):PB p0 p1 p2 p3 p4 p5
inductive S7{α0 α1 α2 α3 α4 α5:Type}(p0 p1 p2 p3 p4 p5 p6:α0->α1->α2->α3->α4->α5->Prop):Prop|mk(a0:α0)(a1:α1)(a2:α2)(a3:α3)(a4:α4)(a5:α5)(_:p0 a0 a1 a2 a3 a4 a5)(_:p1 a0 a1 a2 a3 a4 a5)(_:p2 a0 a1 a2 a3 a4 a5)(_:p3 a0 a1 a2 a3 a4 a5)(_:p4 a0 a1 a2 a3 a4 a5)(_:p5 a0 a1 a2 a3 a4 a5)(_:p6 a0 a1 a2 a3 a4 a5):S7 p0 p1 p2 p3 p4 p5 p6
inductive PC{α0 α1 α2 α3 α4 α5:Type}(p0 p1 p2 p3 p4 p5 p6 p7:α0->α1->α2->α3->α4->α5->Prop):Prop|mk(a0:α0)(a1:α1)(a2:α2)(a3:α3)(a4:α4)(a5:α5)(_:p0 a0 a1 a2 a3 a4 a5)(_:p1 a0 a1 a2 a3 a4 a5)(_:p2 a0 a1 a2 a3 a4 a5)(_:p3 a0 a1 a2 a3 a4 a5)(_:p4 a0 a1 a2 a3 a4 a5)(_:p5 a0 a1 a2 a3 a4 a5)(_:p6 a0 a1 a2 a3 a4 a5)(_:p7 a0 a1 a2 a3 a4 a5):PC p0 p1 p2 p3 p4 p5 p6 p7
inductive S8{α0 α1 α2 α3 α4 α5 α6:Type}(p0 p1 p2 p3:α0->α1->α2->α3->α4->α5->α6->Prop):Prop|mk(a0:α0)(a1:α1)(a2:α2)(a3:α3)(a4:α4)(a5:α5)(a6:α6)(_:p0 a0 a1 a2 a3 a4 a5 a6)(_:p1 a0 a1 a2 a3 a4 a5 a6)(_:p2 a0 a1 a2 a3 a4 a5 a6)(_:p3 a0 a1 a2 a3 a4 a5 a6):S8 p0 p1 p2 p3
inductive S9{α0 α1 α2 α3 α4 α5 α6:Type}(p0 p1 p2 p3 p4:α0->α1->α2->α3->α4->α5->α6->Prop):Prop|mk(a0:α0)(a1:α1)(a2:α2)(a3:α3)(a4:α4)(a5:α5)(a6:α6)(_:p0 a0 a1 a2 a3 a4 a5 a6)(_:p1 a0 a1 a2 a3 a4 a5 a6)(_:p2 a0 a1 a2 a3 a4 a5 a6)(_:p3 a0 a1 a2 a3 a4 a5 a6)(_:p4 a0 a1 a2 a3 a4 a5 a6):S9 p0 p1 p2 p3 p4
inductive PF{α0 α1 α2 α3 α4 α5 α6:Type}(p0 p1 p2 p3 p4 p5 p6:α0->α1->α2->α3->α4->α5->α6->Prop):Prop|mk(a0:α0)(a1:α1)(a2:α2)(a3:α3)(a4:α4)(a5:α5)(a6:α6)(_:p0 a0 a1 a2 a3 a4 a5 a6)(_:p1 a0 a1 a2 a3 a4 a5 a6)(_:p2 a0 a1 a2 a3 a4 a5 a6)(_:p3 a0 a1 a2 a3 a4 a5 a6)(_:p4 a0 a1 a2 a3 a4 a5 a6)(_:p5 a0 a1 a2 a3 a4 a5 a6)(_:p6 a0 a1 a2 a3 a4 a5 a6):PF p0 p1 p2 p3 p4 p5 p6
inductive TB{α0 α1 α2 α3 α4 α5 α6:Type}(p0 p1 p2 p3 p4 p5 p6 p7:α0->α1->α2->α3->α4->α5->α6->Prop):Prop|mk(a0:α0)(a1:α1)(a2:α2)(a3:α3)(a4:α4)(a5:α5)(a6:α6)(_:p0 a0 a1 a2 a3 a4 a5 a6)(_:p1 a0 a1 a2 a3 a4 a5 a6)(_:p2 a0 a1 a2 a3 a4 a5 a6)(_:p3 a0 a1 a2 a3 a4 a5 a6)(_:p4 a0 a1 a2 a3 a4 a5 a6)(_:p5 a0 a1 a2 a3 a4 a5 a6)(_:p6 a0 a1 a2 a3 a4 a5 a6)(_:p7 a0 a1 a2 a3 a4 a5 a6):TB p0 p1 p2 p3 p4 p5 p6 p7
inductive PD{α0 α1 α2 α3 α4 α5 α6:Type}(p0 p1 p2 p3 p4 p5 p6 p7 p8 p9:α0->α1->α2->α3->α4->α5->α6->Prop):Prop|mk(a0:α0)(a1:α1)(a2:α2)(a3:α3)(a4:α4)(a5:α5)(a6:α6)(_:p0 a0 a1 a2 a3 a4 a5 a6)(_:p1 a0 a1 a2 a3 a4 a5 a6)(_:p2 a0 a1 a2 a3 a4 a5 a6)(_:p3 a0 a1 a2 a3 a4 a5 a6)(_:p4 a0 a1 a2 a3 a4 a5 a6)(_:p5 a0 a1 a2 a3 a4 a5 a6)(_:p6 a0 a1 a2 a3 a4 a5 a6)(_:p7 a0 a1 a2 a3 a4 a5 a6)(_:p8 a0 a1 a2 a3 a4 a5 a6)(_:p9 a0 a1 a2 a3 a4 a5 a6):PD p0 p1 p2 p3 p4 p5 p6 p7 p8 p9
inductive TC{α0 α1 α2 α3 α4 α5 α6 α7:Type}(p0 p1 p2 p3 p4 p5 p6 p7:α0->α1->α2->α3->α4->α5->α6->α7->Prop):Prop|mk(a0:α0)(a1:α1)(a2:α2)(a3:α3)(a4:α4)(a5:α5)(a6:α6)(a7:α7)(_:p0 a0 a1 a2 a3 a4 a5 a6 a7)(_:p1 a0 a1 a2 a3 a4 a5 a6 a7)(_:p2 a0 a1 a2 a3 a4 a5 a6 a7)(_:p3 a0 a1 a2 a3 a4 a5 a6 a7)(_:p4 a0 a1 a2 a3 a4 a5 a6 a7)(_:p5 a0 a1 a2 a3 a4 a5 a6 a7)(_:p6 a0 a1 a2 a3 a4 a5 a6 a7)(_:p7 a0 a1 a2 a3 a4 a5 a6 a7):TC p0 p1 p2 p3 p4 p5 p6 p7
inductive PJ{α0 α1 α2 α3 α4 α5 α6 α7 α8:Type}(p0 p1 p2 p3 p4 p5 p6:α0->α1->α2->α3->α4->α5->α6->α7->α8->Prop):Prop|mk(a0:α0)(a1:α1)(a2:α2)(a3:α3)(a4:α4)(a5:α5)(a6:α6)(a7:α7)(a8:α8)(_:p0 a0 a1 a2 a3 a4 a5 a6 a7 a8)(_:p1 a0 a1 a2 a3 a4 a5 a6 a7 a8)(_:p2 a0 a1 a2 a3 a4 a5 a6 a7 a8)(_:p3 a0 a1 a2 a3 a4 a5 a6 a7 a8)(_:p4 a0 a1 a2 a3 a4 a5 a6 a7 a8)(_:p5 a0 a1 a2 a3 a4 a5 a6 a7 a8)(_:p6 a0 a1 a2 a3 a4 a5 a6 a7 a8):PJ p0 p1 p2 p3 p4 p5 p6
inductive TH{α0 α1 α2 α3 α4 α5 α6 α7 α8:Type}(p0 p1 p2 p3 p4 p5 p6 p7:α0->α1->α2->α3->α4->α5->α6->α7->α8->Prop):Prop|mk(a0:α0)(a1:α1)(a2:α2)(a3:α3)(a4:α4)(a5:α5)(a6:α6)(a7:α7)(a8:α8)(_:p0 a0 a1 a2 a3 a4 a5 a6 a7 a8)(_:p1 a0 a1 a2 a3 a4 a5 a6 a7 a8)(_:p2 a0 a1 a2 a3 a4 a5 a6 a7 a8)(_:p3 a0 a1 a2 a3 a4 a5 a6 a7 a8)(_:p4 a0 a1 a2 a3 a4 a5 a6 a7 a8)(_:p5 a0 a1 a2 a3 a4 a5 a6 a7 a8)(_:p6 a0 a1 a2 a3 a4 a5 a6 a7 a8)(_:p7 a0 a1 a2 a3 a4 a5 a6 a7 a8):TH p0 p1 p2 p3 p4 p5 p6 p7
inductive PH{α0 α1 α2 α3 α4 α5 α6 α7 α8:Type}(p0 p1 p2 p3 p4 p5 p6 p7 p8 p9 p10:α0->α1->α2->α3->α4->α5->α6->α7->α8->Prop):Prop|mk(a0:α0)(a1:α1)(a2:α2)(a3:α3)(a4:α4)(a5:α5)(a6:α6)(a7:α7)(a8:α8)(_:p0 a0 a1 a2 a3 a4 a5 a6 a7 a8)(_:p1 a0 a1 a2 a3 a4 a5 a6 a7 a8)(_:p2 a0 a1 a2 a3 a4 a5 a6 a7 a8)(_:p3 a0 a1 a2 a3 a4 a5 a6 a7 a8)(_:p4 a0 a1 a2 a3 a4 a5 a6 a7 a8)(_:p5 a0 a1 a2 a3 a4 a5 a6 a7 a8)(_:p6 a0 a1 a2 a3 a4 a5 a6 a7 a8)(_:p7 a0 a1 a2 a3 a4 a5 a6 a7 a8)(_:p8 a0 a1 a2 a3 a4 a5 a6 a7 a8)(_:p9 a0 a1 a2 a3 a4 a5 a6 a7 a8)(_:p10 a0 a1 a2 a3 a4 a5 a6 a7 a8):PH p0 p1 p2 p3 p4 p5 p6 p7 p8 p9 p10
inductive TF{α0 α1 α2 α3 α4 α5 α6 α7 α8:Type}(p0 p1 p2 p3 p4 p5 p6 p7 p8 p9 p10 p11 p12 p13:α0->α1->α2->α3->α4->α5->α6->α7->α8->Prop):Prop|mk(a0:α0)(a1:α1)(a2:α2)(a3:α3)(a4:α4)(a5:α5)(a6:α6)(a7:α7)(a8:α8)(_:p0 a0 a1 a2 a3 a4 a5 a6 a7 a8)(_:p1 a0 a1 a2 a3 a4 a5 a6 a7 a8)(_:p2 a0 a1 a2 a3 a4 a5 a6 a7 a8)(_:p3 a0 a1 a2 a3 a4 a5 a6 a7 a8)(_:p4 a0 a1 a2 a3 a4 a5 a6 a7 a8)(_:p5 a0 a1 a2 a3 a4 a5 a6 a7 a8)(_:p6 a0 a1 a2 a3 a4 a5 a6 a7 a8)(_:p7 a0 a1 a2 a3 a4 a5 a6 a7 a8)(_:p8 a0 a1 a2 a3 a4 a5 a6 a7 a8)(_:p9 a0 a1 a2 a3 a4 a5 a6 a7 a8)(_:p10 a0 a1 a2 a3 a4 a5 a6 a7 a8)(_:p11 a0 a1 a2 a3 a4 a5 a6 a7 a8)(_:p12 a0 a1 a2 a3 a4 a5 a6 a7 a8)(_:p13 a0 a1 a2 a3 a4 a5 a6 a7 a8):TF p0 p1 p2 p3 p4 p5 p6 p7 p8 p9 p10 p11 p12 p13
inductive Sf{α0 α1 α2 α3 α4 α5 α6 α7 α8 α9:Type}(p0 p1 p2 p3 p4 p5 p6:α0->α1->α2->α3->α4->α5->α6->α7->α8->α9->Prop):Prop|mk(a0:α0)(a1:α1)(a2:α2)(a3:α3)(a4:α4)(a5:α5)(a6:α6)(a7:α7)(a8:α8)(a9:α9)(_:p0 a0 a1 a2 a3 a4 a5 a6 a7 a8 a9)(_:p1 a0 a1 a2 a3 a4 a5 a6 a7 a8 a9)(_:p2 a0 a1 a2 a3 a4 a5 a6 a7 a8 a9)(_:p3 a0 a1 a2 a3 a4 a5 a6 a7 a8 a9)(_:p4 a0 a1 a2 a3 a4 a5 a6 a7 a8 a9)(_:p5 a0 a1 a2 a3 a4 a5 a6 a7 a8 a9)(_:p6 a0 a1 a2 a3 a4 a5 a6 a7 a8 a9):Sf p0 p1 p2 p3 p4 p5 p6
inductive Sg{α0 α1 α2 α3 α4 α5 α6 α7 α8 α9 α10:Type}(p0 p1 p2 p3 p4 p5:α0->α1->α2->α3->α4->α5->α6->α7->α8->α9->α10->Prop):Prop|mk(a0:α0)(a1:α1)(a2:α2)(a3:α3)(a4:α4)(a5:α5)(a6:α6)(a7:α7)(a8:α8)(a9:α9)(a10:α10)(_:p0 a0 a1 a2 a3 a4 a5 a6 a7 a8 a9 a10)(_:p1 a0 a1 a2 a3 a4 a5 a6 a7 a8 a9 a10)(_:p2 a0 a1 a2 a3 a4 a5 a6 a7 a8 a9 a10)(_:p3 a0 a1 a2 a3 a4 a5 a6 a7 a8 a9 a10)(_:p4 a0 a1 a2 a3 a4 a5 a6 a7 a8 a9 a10)(_:p5 a0 a1 a2 a3 a4 a5 a6 a7 a8 a9 a10):Sg p0 p1 p2 p3 p4 p5
inductive Sh{α0 α1 α2 α3 α4 α5 α6 α7 α8 α9 α10 α11 α12:Type}(p0 p1 p2 p3 p4 p5 p6 p7:α0->α1->α2->α3->α4->α5->α6->α7->α8->α9->α10->α11->α12->Prop):Prop|mk(a0:α0)(a1:α1)(a2:α2)(a3:α3)(a4:α4)(a5:α5)(a6:α6)(a7:α7)(a8:α8)(a9:α9)(a10:α10)(a11:α11)(a12:α12)(_:p0 a0 a1 a2 a3 a4 a5 a6 a7 a8 a9 a10 a11 a12)(_:p1 a0 a1 a2 a3 a4 a5 a6 a7 a8 a9 a10 a11 a12)(_:p2 a0 a1 a2 a3 a4 a5 a6 a7 a8 a9 a10 a11 a12)(_:p3 a0 a1 a2 a3 a4 a5 a6 a7 a8 a9 a10 a11 a12)(_:p4 a0 a1 a2 a3 a4 a5 a6 a7 a8 a9 a10 a11 a12)(_:p5 a0 a1 a2 a3 a4 a5 a6 a7 a8 a9 a10 a11 a12)(_:p6 a0 a1 a2 a3 a4 a5 a6 a7 a8 a9 a10 a11 a12)(_:p7 a0 a1 a2 a3 a4 a5 a6 a7 a8 a9 a10 a11 a12):Sh p0 p1 p2 p3 p4 p5 p6 p7
inductive Si{α0 α1 α2 α3 α4 α5 α6 α7 α8 α9 α10 α11 α12:Type}(p0 p1 p2 p3 p4 p5 p6 p7 p8:α0->α1->α2->α3->α4->α5->α6->α7->α8->α9->α10->α11->α12->Prop):Prop|mk(a0:α0)(a1:α1)(a2:α2)(a3:α3)(a4:α4)(a5:α5)(a6:α6)(a7:α7)(a8:α8)(a9:α9)(a10:α10)(a11:α11)(a12:α12)(_:p0 a0 a1 a2 a3 a4 a5 a6 a7 a8 a9 a10 a11 a12)(_:p1 a0 a1 a2 a3 a4 a5 a6 a7 a8 a9 a10 a11 a12)(_:p2 a0 a1 a2 a3 a4 a5 a6 a7 a8 a9 a10 a11 a12)(_:p3 a0 a1 a2 a3 a4 a5 a6 a7 a8 a9 a10 a11 a12)(_:p4 a0 a1 a2 a3 a4 a5 a6 a7 a8 a9 a10 a11 a12)(_:p5 a0 a1 a2 a3 a4 a5 a6 a7 a8 a9 a10 a11 a12)(_:p6 a0 a1 a2 a3 a4 a5 a6 a7 a8 a9 a10 a11 a12)(_:p7 a0 a1 a2 a3 a4 a5 a6 a7 a8 a9 a10 a11 a12)(_:p8 a0 a1 a2 a3 a4 a5 a6 a7 a8 a9 a10 a11 a12):Si p0 p1 p2 p3 p4 p5 p6 p7 p8
inductive Sj{α0 α1 α2 α3 α4 α5 α6 α7 α8 α9 α10 α11 α12 α13:Type}(p0 p1 p2 p3 p4 p5 p6 p7 p8 p9 p10 p11:α0->α1->α2->α3->α4->α5->α6->α7->α8->α9->α10->α11->α12->α13->Prop):Prop|mk(a0:α0)(a1:α1)(a2:α2)(a3:α3)(a4:α4)(a5:α5)(a6:α6)(a7:α7)(a8:α8)(a9:α9)(a10:α10)(a11:α11)(a12:α12)(a13:α13)(_:p0 a0 a1 a2 a3 a4 a5 a6 a7 a8 a9 a10 a11 a12 a13)(_:p1 a0 a1 a2 a3 a4 a5 a6 a7 a8 a9 a10 a11 a12 a13)(_:p2 a0 a1 a2 a3 a4 a5 a6 a7 a8 a9 a10 a11 a12 a13)(_:p3 a0 a1 a2 a3 a4 a5 a6 a7 a8 a9 a10 a11 a12 a13)(_:p4 a0 a1 a2 a3 a4 a5 a6 a7 a8 a9 a10 a11 a12 a13)(_:p5 a0 a1 a2 a3 a4 a5 a6 a7 a8 a9 a10 a11 a12 a13)(_:p6 a0 a1 a2 a3 a4 a5 a6 a7 a8 a9 a10 a11 a12 a13)(_:p7 a0 a1 a2 a3 a4 a5 a6 a7 a8 a9 a10 a11 a12 a13)(_:p8 a0 a1 a2 a3 a4 a5 a6 a7 a8 a9 a10 a11 a12 a13)(_:p9 a0 a1 a2 a3 a4 a5 a6 a7 a8 a9 a10 a11 a12 a13)(_:p10 a0 a1 a2 a3 a4 a5 a6 a7 a8 a9 a10 a11 a12 a13)(_:p11 a0 a1 a2 a3 a4 a5 a6 a7 a8 a9 a10 a11 a12 a13):Sj p0 p1 p2 p3 p4 p5 p6 p7 p8 p9 p10 p11
inductive Sk{α0 α1 α2 α3 α4 α5 α6 α7 α8 α9 α10 α11 α12 α13 α14:Type}(p0 p1 p2 p3 p4 p5 p6 p7 p8:α0->α1->α2->α3->α4->α5->α6->α7->α8->α9->α10->α11->α12->α13->α14->Prop):Prop|mk(a0:α0)(a1:α1)(a2:α2)(a3:α3)(a4:α4)(a5:α5)(a6:α6)(a7:α7)(a8:α8)(a9:α9)(a10:α10)(a11:α11)(a12:α12)(a13:α13)(a14:α14)(_:p0 a0 a1 a2 a3 a4 a5 a6 a7 a8 a9 a10 a11 a12 a13 a14)(_:p1 a0 a1 a2 a3 a4 a5 a6 a7 a8 a9 a10 a11 a12 a13 a14)(_:p2 a0 a1 a2 a3 a4 a5 a6 a7 a8 a9 a10 a11 a12 a13 a14)(_:p3 a0 a1 a2 a3 a4 a5 a6 a7 a8 a9 a10 a11 a12 a13 a14)(_:p4 a0 a1 a2 a3 a4 a5 a6 a7 a8 a9 a10 a11 a12 a13 a14)(_:p5 a0 a1 a2 a3 a4 a5 a6 a7 a8 a9 a10 a11 a12 a13 a14)(_:p6 a0 a1 a2 a3 a4 a5 a6 a7 a8 a9 a10 a11 a12 a13 a14)(_:p7 a0 a1 a2 a3 a4 a5 a6 a7 a8 a9 a10 a11 a12 a13 a14)(_:p8 a0 a1 a2 a3 a4 a5 a6 a7 a8 a9 a10 a11 a12 a13 a14):Sk p0 p1 p2 p3 p4 p5 p6 p7 p8
inductive Sl{α0 α1 α2 α3 α4 α5 α6 α7 α8 α9 α10 α11 α12 α13 α14 α15 α16:Type}(p0 p1 p2 p3 p4 p5 p6 p7 p8 p9 p10 p11 p12 p13 p14 p15:α0->α1->α2->α3->α4->α5->α6->α7->α8->α9->α10->α11->α12->α13->α14->α15->α16->Prop):Prop|mk(a0:α0)(a1:α1)(a2:α2)(a3:α3)(a4:α4)(a5:α5)(a6:α6)(a7:α7)(a8:α8)(a9:α9)(a10:α10)(a11:α11)(a12:α12)(a13:α13)(a14:α14)(a15:α15)(a16:α16)(_:p0 a0 a1 a2 a3 a4 a5 a6 a7 a8 a9 a10 a11 a12 a13 a14 a15 a16)(_:p1 a0 a1 a2 a3 a4 a5 a6 a7 a8 a9 a10 a11 a12 a13 a14 a15 a16)(_:p2 a0 a1 a2 a3 a4 a5 a6 a7 a8 a9 a10 a11 a12 a13 a14 a15 a16)(_:p3 a0 a1 a2 a3 a4 a5 a6 a7 a8 a9 a10 a11 a12 a13 a14 a15 a16)(_:p4 a0 a1 a2 a3 a4 a5 a6 a7 a8 a9 a10 a11 a12 a13 a14 a15 a16)(_:p5 a0 a1 a2 a3 a4 a5 a6 a7 a8 a9 a10 a11 a12 a13 a14 a15 a16)(_:p6 a0 a1 a2 a3 a4 a5 a6 a7 a8 a9 a10 a11 a12 a13 a14 a15 a16)(_:p7 a0 a1 a2 a3 a4 a5 a6 a7 a8 a9 a10 a11 a12 a13 a14 a15 a16)(_:p8 a0 a1 a2 a3 a4 a5 a6 a7 a8 a9 a10 a11 a12 a13 a14 a15 a16)(_:p9 a0 a1 a2 a3 a4 a5 a6 a7 a8 a9 a10 a11 a12 a13 a14 a15 a16)(_:p10 a0 a1 a2 a3 a4 a5 a6 a7 a8 a9 a10 a11 a12 a13 a14 a15 a16)(_:p11 a0 a1 a2 a3 a4 a5 a6 a7 a8 a9 a10 a11 a12 a13 a14 a15 a16)(_:p12 a0 a1 a2 a3 a4 a5 a6 a7 a8 a9 a10 a11 a12 a13 a14 a15 a16)(_:p13 a0 a1 a2 a3 a4 a5 a6 a7 a8 a9 a10 a11 a12 a13 a14 a15 a16)(_:p14 a0 a1 a2 a3 a4 a5 a6 a7 a8 a9 a10 a11 a12 a13 a14 a15 a16)(_:p15 a0 a1 a2 a3 a4 a5 a6 a7 a8 a9 a10 a11 a12 a13 a14 a15 a16):Sl p0 p1 p2 p3 p4 p5 p6 p7 p8 p9 p10 p11 p12 p13 p14 p15
section
seal An F1 J8 Ec D6 F0 JE Nh Eu HY Ni CG Nr Ea Ko Kq
noncomputable def BX(i:Nat):A3:=xF.main.body.getD i (.Pass ⟨0,0,0,0⟩)
noncomputable abbrev QJ:A3:=BX 4
noncomputable abbrev QH:A3:=BX 5
noncomputable abbrev Pw:A3:=Ef (BX 8) 0
noncomputable abbrev Px:A3:=Ef (BX 8) 1
noncomputable abbrev QD:A3:=BX 10
noncomputable abbrev UR:A3:=BX 11
noncomputable abbrev QW:A3:=BX 13
noncomputable abbrev QM:A3:=BX 14
noncomputable abbrev QP:A3:=BX 19
noncomputable abbrev QO:A3:=BX 20
noncomputable abbrev QF:A3:=BX 21
noncomputable abbrev QI:A3:=BX 22
noncomputable abbrev QY:A3:=BX 24
noncomputable abbrev QC:A3:=BX 25
noncomputable abbrev Qk:A3:=BX 26
noncomputable abbrev QU:A3:=BX 28
noncomputable abbrev QS:A3:=BX 29
noncomputable abbrev Jt:A3:=BX 30
noncomputable abbrev Lh:A3:=BX 31
noncomputable abbrev QR:A3:=BX 33
noncomputable abbrev QV:A3:=BX 34
noncomputable abbrev QQ:A3:=BX 35
noncomputable abbrev P2:A3:=Ef (BX 36) 0
noncomputable abbrev P4:A3:=Ef (BX 36) 1
noncomputable abbrev NS:A3:=Ef (BX 36) 2
noncomputable abbrev P5:A3:=Ef (BX 36) 3
noncomputable abbrev UP:A3:=Ef (BX 36) 4
noncomputable abbrev P8:A3:=Ef (BX 38) 0
noncomputable abbrev QB:A3:=Ef (BX 38) 1
noncomputable abbrev QA:A3:=Ef (BX 38) 2
noncomputable abbrev P9:A3:=Ef (BX 38) 3
noncomputable abbrev UQ:A3:=Ef (BX 38) 4
noncomputable abbrev QN:A3:=BX 40
noncomputable abbrev P6:A3:=Ef (BX 41) 0
noncomputable abbrev NT:A3:=Ef (BX 41) 1
noncomputable abbrev P7:A3:=Ef (BX 41) 2
noncomputable abbrev NW:A3:=BX 43
noncomputable abbrev QX:A3:=BX 45
noncomputable abbrev QZ:A3:=BX 46
noncomputable abbrev Li:A3:=BX 47
noncomputable abbrev QK:A3:=BX 48
noncomputable abbrev Lj:A3:=BX 49
noncomputable abbrev QL:A3:=BX 51
noncomputable abbrev QG:A3:=BX 52
noncomputable abbrev QT:A3:=BX 53
noncomputable abbrev QE:A3:=BX 54
noncomputable abbrev NU:A3:=BX 55
noncomputable abbrev NV:A3:=BX 56
noncomputable abbrev Py:A3:=Ef (BX 57) 0
noncomputable abbrev Pz:A3:=Ef (BX 57) 1
noncomputable abbrev P1:A3:=Ef (BX 57) 2
noncomputable abbrev P0:A3:=Ef (BX 57) 3
noncomputable abbrev Qb:A3:=BX 59
noncomputable abbrev Qe:A3:=BX 60
noncomputable abbrev Qd:A3:=BX 61
noncomputable abbrev Qh:A3:=BX 62
noncomputable abbrev Qi:A3:=BX 63
noncomputable abbrev Qj:A3:=BX 64
noncomputable abbrev Qa:A3:=BX 65
noncomputable abbrev Qf:A3:=BX 66
noncomputable abbrev Qc:A3:=BX 67
noncomputable abbrev NX:A3:=BX 68
noncomputable abbrev Qg:A3:=BX 69
noncomputable abbrev Lg:A3:=BX 70
theorem Uz:BV ["thing"] ["thing"] (A2 QJ):=Bd
theorem Ux:BV ["thing","least","most"] ["thing","least","most"] (A2 QH):=Bd
theorem UX:BV ["self","slack"] ["self","slack"] (A2 Pw):=Bd
theorem UY:BV ["self","time"] ["self","time"] (A2 Px):=Bd
theorem Us:BV ["rows","mark","low","high","middle"] ["rows","mark"] (A2 QD):=Bd
theorem VI:BV ["time","size","step","first"] ["time","size","step"] (A2 QW):=Bd
theorem U3:BV ["start","end","time","most","last"] ["start","end","time","most"] (A2 QM):=Bd
theorem U6:BV ["step"] ["step"] (A2 QP):=Bd
theorem U5:BV ["step"] ["step"] (A2 QO):=Bd
theorem Uv:BV ["step"] ["step"] (A2 QF):=Bd
theorem Uy:BV ["step"] ["step"] (A2 QI):=Bd
theorem VL:BV ["amount"] ["amount"] (A2 QY):=Bd
theorem Ur:BV ["one","other"] ["one","other"] (A2 QC):=Bd
theorem Va:BV ["sort","tally"] ["sort","tally"] (A2 Qk):=Bd
theorem VE:BV ["pieces","start","end","tally","place","there"] ["pieces","start","end","tally"] (A2 QU):=Bd
theorem VB:BV ["pieces","time","amount","size","step","told","start"] ["pieces","time","amount","size","step"] (A2 QS):=Bd
theorem VD:BV ["pieces","time","amount","most","met","rest","start","end","tally","piece"] ["pieces","time","amount","most"] (A2 Jt):=Bd
theorem U8:BV ["pieces","now","over","still"] ["pieces","now"] (A2 Lh):=Bd
theorem VA:BV ["step","pieces","item"] ["step","pieces","item"] (A2 QR):=Bd
theorem VF:BV ["step","key","piece"] ["step","key","piece"] (A2 QV):=Bd
theorem U7:BV ["row"] ["row"] (A2 QQ):=Bd
theorem Ud:BV ["self","step"] ["self","step"] (A2 P2):=Bd
theorem Ug:BV ["self","item","key"] ["self","item"] (A2 P4):=Bd
theorem Ue:BV ["self","now","told","key"] ["self","now"] (A2 NS):=Bd
theorem Uh:BV ["self","key","now","pieces","pair"] ["self","key","now"] (A2 P5):=Bd
theorem Ul:BV ["self"] ["self"] (A2 P8):=Bd
theorem Uq:BV ["self","item","pair","row","place"] ["self","item"] (A2 QB):=Bd
theorem Uo:BV ["self","key","low","high","row"] ["self","key","low","high"] (A2 QA):=Bd
theorem Um:BV ["self","least","key","row","kept"] ["self","least"] (A2 P9):=Bd
theorem U4:BV ["side","item","pair","first","second"] ["side","item","pair"] (A2 QN):=Bd
theorem Ui:BV ["self","within"] ["self","within"] (A2 P6):=Bd
theorem Uj:BV ["self","side","item","met"] ["self","side","item"] (A2 NT):=Bd
theorem Uk:BV ["self","now","side"] ["self","now"] (A2 P7):=Bd
theorem VM:BV ["plan"] ["plan"] (A2 NW):=Bd
theorem VJ:BV ["step","event"] ["step","event"] (A2 QX):=Bd
theorem VN:BV ["step","item"] ["step","item"] (A2 QZ):=Bd
theorem U9:BV ["step","streams"] ["step","streams"] (A2 Li):=Bd
theorem U0:BV ["join","streams","made","side","items","item"] ["join","streams"] (A2 QK):=Bd
theorem VH:BV ["plan","joins","event","brought","told","place","step","streams","items"] ["plan","joins","event"] (A2 Lj):=Bd
theorem U1:BV ["plan","joins","place","step"] ["plan"] (A2 QL):=Bd
theorem Uw:BV ["plan","groups","place"] ["plan"] (A2 QG):=Bd
theorem VC:BV ["plan","joins","groups","event","place","item"] ["plan","joins","groups","event"] (A2 QT):=Bd
theorem Uu:BV ["joins","now","join"] ["joins","now"] (A2 QE):=Bd
theorem Ut:BV ["groups","now","told","place","group"] ["groups","now"] (A2 NU):=Bd
theorem VG:BV ["told"] ["told"] (A2 NV):=Bd
theorem UZ:BV ["self","plan","slack"] ["self","plan","slack"] (A2 Py):=Bd
theorem Ua:BV ["self","event"] ["self","event"] (A2 Pz):=Bd
theorem Uc:BV ["self","now","rows"] ["self","now"] (A2 P1):=Bd
theorem Ub:BV ["self"] ["self"] (A2 P0):=Bd
theorem VP:BV ["_law_script","_law_k"] ["_law_script","_law_k"] (A2 Qb):=Bd
theorem VS:BV ["_law_script","_law_k","_law_base"] ["_law_script","_law_k"] (A2 Qe):=Bd
theorem VR:BV ["_law_script","_law_start","_law_many","_law_some","_law_number_here","_law_step","_law_word","_law_j","_law_place","_law_names_here","_law_k","_law_sign"] ["_law_script","_law_start","_law_many"] (A2 Qd):=Bd
theorem VX:BV ["_law_script"] ["_law_script"] (A2 Qh):=Bd
theorem VY:BV ["_law_name","_law_number_here","_law_streams","_law_scale_here","_law_one","_law_other","_law_low"] ["_law_name","_law_number_here","_law_streams","_law_scale_here"] (A2 Qi):=Bd
theorem VZ:BV ["_law_name","_law_number_here","_law_streams","_law_scale_here","_law_one","_law_sort","_law_step"] ["_law_name","_law_number_here","_law_streams","_law_scale_here"] (A2 Qj):=Bd
theorem VO:BV ["_law_step","_law_sizes","_law_most"] ["_law_step","_law_sizes","_law_most"] (A2 Qa):=Bd
theorem VU:BV ["_law_script","_law_most","_law_names_here","_law_kinds","_law_scale_here","_law_plan_here","_law_sizes","_law_wide","_law_many","_law_joined","_law_k","_law_number_here","_law_streams","_law_step"] ["_law_script","_law_most"] (A2 Qf):=Bd
theorem VQ:BV ["_law_script","_law_k","_law_number_here","_law_scale_here","_law_time","_law_kind","_law_keys","_law_key","_law_amount"] ["_law_script","_law_k"] (A2 Qc):=Bd
theorem VT:BV ["_law_plan_here","_law_row","_law_places"] ["_law_plan_here","_law_row"] (A2 NX):=Bd
theorem VW:BV ["_law_plan_here","_law_slack","_law_events","_law_flow","_law_rows","_law_event_here","_law_found"] ["_law_plan_here","_law_slack","_law_events"] (A2 Qg):=Bd
theorem U2:BV ["_law_script","_law_most","_law_plan_here","_law_slack","_law_events","_law_turns","_law_k","_law_first","_law_second","_law_third","_law_order_here","_law_one","_law_later"] ["_law_script"] (A2 Lg):=Bd
set_option genInjectivity false in structure CW where
 ti:AD
 uj:Ag
 su:AD
 ui:Ag
 cu:AD
 fh:Ag
 jl:AD
 jy:Ag
 aao:AD
 aav:Ag
 wu:AD
 xc:Ag
 yk:AD
 yw:Ag
 aap:AD
 aaw:Ag
 oj:AD
 qe:Ag
 vp:AD
 vz:Ag
 vo:AD
 vy:Ag
 oi:AD
 qd:Ag
 ue:AD
 ur:Ag
 aan:AD
 aau:Ag
 aar:AD
 aay:Ag
 mn:AD
 mz:Ag
 ud:AD
 uq:Ag
 vq:AD
 wc:Ag
 yf:AD
 yp:Ag
 yh:AD
 yr:Ag
 yi:AD
 yt:Ag
 uc:AD
 uo:Ag
 cv:AD
 fi:Ag
 ny:AD
 oy:Ag
 jn:AD
 kc:Ag
 ml:AD
 mw:Ag
 nv:AD
 ox:Ag
 df:AD
 gp:Ag
 si:AD
 ug:Ag
 og:AD
 pz:Ag
 oe:AD
 pj:Ag
 wt:AD
 wz:Ag
 tw:AD
 um:Ag
 de:AD
 gn:Ag
 nz:AD
 oz:Ag
 oa:AD
 ph:Ag
 vv:AD
 wg:Ag
 aaq:AD
 aax:Ag
 yl:AD
 yx:Ag
 yg:AD
 yq:Ag
 ye:AD
 yo:Ag
 yj:AD
 yu:Ag
 tj:AD
 uk:Ag
 oh:AD
 qc:Ag
 om:AD
 qf:Ag
 sj:AD
 uh:Ag
 yd:AD
 yn:Ag
 vt:AD
 we:Ag
 da:AD
 gm:Ag
 nu:AD
 ow:Ag
 iq:AD
 iz:Ag
 jm:AD
 jz:Ag
 gj:AD
 gq:Ag
 ir:AD
 ja:Ag
 js:AD
 kj:Ag
 ju:AD
 kz:Ag
 iu:AD
 jc:Ag
 iw:AD
 je:Ag
 jo:AD
 kg:Ag
 mv:AD
 nc:Ag
 jq:AD
 kh:Ag
 jt:AD
 ku:Ag
 oo:AD
 qg:Ag
 agg:AD
 aes:Ag
 jg:AD
 bz:AD
 av:AD
 ar:AD
 ff:AD
 dm:AD
 aj:AD
 vg:AD
 qw:AD
 ik:AD
structure Ba(K:Ar)(mg:AG->Option AK)(ad:CW):Prop where
 xy:Aj K "is_whole" "is_whole" QJ ad.ti ad.uj
 ady:BA K ad.uj ["thing"] []aeh:mg "is_whole"=AA (.ref ad.ti)xx:Aj K "is_among" "is_among" QH ad.su ad.ui
 adx:BA K ad.ui ["thing","least","most"] []aeg:mg "is_among"=AA (.ref ad.su)vm:Aj K "__init__" "Clock.__init__" Pw ad.cu ad.fh
 vw:BA K ad.fh ["self","slack"] []zf:Aj K "admit" "Clock.admit" Px ad.jl ad.jy
 zi:BA K ad.jy ["self","time"] []qv:Aj K "ahead" "ahead" QD ad.aao ad.aav
 ux:BA K ad.aav ["rows","mark"] []ve:mg "ahead"=AA (.ref ad.aao)aio:Aj K "with_keys" "with_keys" UR ad.wu ad.xc
 aiq:BA K ad.xc ["rows"] []aiu:mg "with_keys"=AA (.ref ad.wu)aci:Aj K "starts" "starts" QW ad.yk ad.yw
 ags:BA K ad.yw ["time","size","step"] []ahe:mg "starts"=AA (.ref ad.yk)aeo:Aj K "meets" "meets" QM ad.aap ad.aaw
 ahu:BA K ad.aaw ["start","end","time","most"] []ahz:mg "meets"=AA (.ref ad.aap)wm:Aj K "names_end" "names_end" QP ad.oj ad.qe
 acs:BA K ad.qe ["step"] []adb:mg "names_end"=AA (.ref ad.oj)zz:Aj K "name_of" "name_of" QO ad.vp ad.vz
 aff:BA K ad.vz ["step"] []afs:mg "name_of"=AA (.ref ad.vp)zy:Aj K "feeders" "feeders" QF ad.vo ad.vy
 afe:BA K ad.vy ["step"] []afr:mg "feeders"=AA (.ref ad.vo)nq:Aj K "is_teller" "is_teller" QI ad.oi ad.qd
 wy:BA K ad.qd ["step"] []xg:mg "is_teller"=AA (.ref ad.oi)rq:Aj K "tally_of" "tally_of" QY ad.ue ad.ur
 ym:BA K ad.ur ["amount"] []yz:mg "tally_of"=AA (.ref ad.ue)aam:Aj K "added" "added" QC ad.aan ad.aau
 aer:BA K ad.aau ["one","other"] []aet:mg "added"=AA (.ref ad.aan)aeq:Aj K "value" "value" Qk ad.aar ad.aay
 ahw:BA K ad.aay ["sort","tally"] []aib:mg "value"=AA (.ref ad.aar)mj:Aj K "put_window" "put_window" QU ad.mn ad.mz
 uy:BA K ad.mz ["pieces","start","end","tally"] []vf:mg "put_window"=AA (.ref ad.mn)yc:Aj K "put_each" "put_each" QS ad.ud ad.uq
 aec:BA K ad.uq ["pieces","time","amount","size","step"] []ael:mg "put_each"=AA (.ref ad.ud)aaa:Aj K "put_gap" "put_gap" Jt ad.vq ad.wc
 afg:BA K ad.wc ["pieces","time","amount","most"] []aft:mg "put_gap"=AA (.ref ad.vq)acd:Aj K "parted" "parted" Lh ad.yf ad.yp
 agn:BA K ad.yp ["pieces","now"] []agz:mg "parted"=AA (.ref ad.yf)acf:Aj K "put_by" "put_by" QR ad.yh ad.yr
 agp:BA K ad.yr ["step","pieces","item"] []ahb:mg "put_by"=AA (.ref ad.yh)acg:Aj K "row_of" "row_of" QV ad.yi ad.yt
 agq:BA K ad.yt ["step","key","piece"] []ahc:mg "row_of"=AA (.ref ad.yi)adu:Aj K "order_of" "order_of" QQ ad.uc ad.uo
 aeb:BA K ad.uo ["row"] []aek:mg "order_of"=AA (.ref ad.uc)vn:Aj K "__init__" "Group.__init__" P2 ad.cv ad.fi
 vx:BA K ad.fi ["self","step"] []abv:Aj K "put" "Group.put" P4 ad.ny ad.oy
 acm:BA K ad.oy ["self","item"] []zh:Aj K "close" "Group.close" NS ad.jn ad.kc
 zl:BA K ad.kc ["self","now"] []aal:Aj K "take" "Group.take" P5 ad.ml ad.mw
 aas:BA K ad.mw ["self","key","now"] []agf:Aj K "pieces" "Group.pieces" UP ad.nv ad.ox
 agk:BA K ad.ox ["self"] []xn:Aj K "__init__" "Side.__init__" P8 ad.df ad.gp
 ni:BA K ad.gp ["self"] []adt:Aj K "put" "Side.put" QB ad.si ad.ug
 adv:BA K ad.ug ["self","item"] []abz:Aj K "near" "Side.near" QA ad.og ad.pz
 acq:BA K ad.pz ["self","key","low","high"] []aby:Aj K "drop" "Side.drop" P9 ad.oe ad.pj
 acp:BA K ad.pj ["self","least"] []aim:Aj K "kept" "Side.kept" UQ ad.wt ad.wz
 aip:BA K ad.wz ["self"] []yb:Aj K "met_item" "met_item" QN ad.tw ad.um
 aea:BA K ad.um ["side","item","pair"] []aej:mg "met_item"=AA (.ref ad.tw)xk:Aj K "__init__" "Join.__init__" P6 ad.de ad.gn
 xq:BA K ad.gn ["self","within"] []abw:Aj K "come" "Join.come" NT ad.nz ad.oz
 acn:BA K ad.oz ["self","side","item"] []abx:Aj K "drop" "Join.drop" P7 ad.oa ad.ph
 aco:BA K ad.ph ["self","now"] []aac:Aj K "tellers" "tellers" NW ad.vv ad.wg
 afi:BA K ad.wg ["plan"] []afv:mg "tellers"=AA (.ref ad.vv)aep:Aj K "taken" "taken" QX ad.aaq ad.aax
 ahv:BA K ad.aax ["step","event"] []aia:mg "taken"=AA (.ref ad.aaq)acj:Aj K "turned" "turned" QZ ad.yl ad.yx
 agt:BA K ad.yx ["step","item"] []ahf:mg "turned"=AA (.ref ad.yl)ace:Aj K "passed" "passed" Li ad.yg ad.yq
 ago:BA K ad.yq ["step","streams"] []aha:mg "passed"=AA (.ref ad.yg)acb:Aj K "joined" "joined" QK ad.ye ad.yo
 agm:BA K ad.yo ["join","streams"] []agy:mg "joined"=AA (.ref ad.ye)ach:Aj K "spread" "spread" Lj ad.yj ad.yu
 agr:BA K ad.yu ["plan","joins","event"] []ahd:mg "spread"=AA (.ref ad.yj)ya:Aj K "joins_of" "joins_of" QL ad.tj ad.uk
 adz:BA K ad.uk ["plan"] []aei:mg "joins_of"=AA (.ref ad.tj)wk:Aj K "groups_of" "groups_of" QG ad.oh ad.qc
 acr:BA K ad.qc ["plan"] []ada:mg "groups_of"=AA (.ref ad.oh)wo:Aj K "put_event" "put_event" QT ad.om ad.qf
 acu:BA K ad.qf ["plan","joins","groups","event"] []ade:mg "put_event"=AA (.ref ad.om)xw:Aj K "drop_all" "drop_all" QE ad.sj ad.uh
 adw:BA K ad.uh ["joins","now"] []aef:mg "drop_all"=AA (.ref ad.sj)aca:Aj K "closed" "closed" NU ad.yd ad.yn
 agl:BA K ad.yn ["groups","now"] []agx:mg "closed"=AA (.ref ad.yd)aab:Aj K "rows_of" "rows_of" NV ad.vt ad.we
 afh:BA K ad.we ["told"] []afu:mg "rows_of"=AA (.ref ad.vt)xj:Aj K "__init__" "Flow.__init__" Py ad.da ad.gm
 xp:BA K ad.gm ["self","plan","slack"] []abu:Aj K "come" "Flow.come" Pz ad.nu ad.ow
 ack:BA K ad.ow ["self","event"] []xv:Aj K "told_by" "Flow.told_by" P1 ad.iq ad.iz
 oq:BA K ad.iz ["self","now"] []zg:Aj K "finish" "Flow.finish" P0 ad.jm ad.jz
 zj:BA K ad.jz ["self"] []aq:Aj K "_law_cell_at" "_law_cell_at" Qb ad.gj ad.gq
 au:BA K ad.gq ["_law_script","_law_k"] []aw:mg "_law_cell_at"=AA (.ref ad.gj)cp:Aj K "_law_number" "_law_number" Qe ad.ir ad.ja
 dk:BA K ad.ja ["_law_script","_law_k"] []dw:mg "_law_number"=AA (.ref ad.ir)cx:Aj K "_law_names" "_law_names" Qd ad.js ad.kj
 fo:BA K ad.kj ["_law_script","_law_start","_law_many"] []fq:mg "_law_names"=AA (.ref ad.js)fm:Aj K "_law_scale" "_law_scale" Qh ad.ju ad.kz
 jw:BA K ad.kz ["_law_script"] []lj:mg "_law_scale"=AA (.ref ad.ju)il:Aj K "_law_stream" "_law_stream" Qi ad.iu ad.jc
 ot:BA K ad.jc ["_law_name","_law_number_here","_law_streams","_law_scale_here"] []ql:mg "_law_stream"=AA (.ref ad.iu)ip:Aj K "_law_teller" "_law_teller" Qj ad.iw ad.je
 ou:BA K ad.je ["_law_name","_law_number_here","_law_streams","_law_scale_here"] []qm:mg "_law_teller"=AA (.ref ad.iw)ji:Aj K "_law_bound" "_law_bound" Qa ad.jo ad.kg
 rf:BA K ad.kg ["_law_step","_law_sizes","_law_most"] []rh:mg "_law_bound"=AA (.ref ad.jo)uw:Aj K "_law_plan" "_law_plan" Qf ad.mv ad.nc
 aat:BA K ad.nc ["_law_script","_law_most"] []abc:mg "_law_plan"=AA (.ref ad.mv)qy:Aj K "_law_event" "_law_event" Qc ad.jq ad.kh
 zm:BA K ad.kh ["_law_script","_law_k"] []zq:mg "_law_event"=AA (.ref ad.jq)qz:Aj K "_law_order" "_law_order" NX ad.jt ad.ku
 zo:BA K ad.ku ["_law_plan_here","_law_row"] []zr:mg "_law_order"=AA (.ref ad.jt)wq:Aj K "_law_run" "_law_run" Qg ad.oo ad.qg
 acv:BA K ad.qg ["_law_plan_here","_law_slack","_law_events"] []adf:mg "_law_run"=AA (.ref ad.oo)ain:Aj K "law" "law" Lg ad.agg ad.aes
 amb:BA K ad.aes ["_law_script"] []akl:mg "law"=AA (.ref ad.agg)aid:mg "FlowError"=AA (.ref ad.jg)aja:Yc K ad.jg [.type "ValueError",.type "Exception",.type "BaseException",.type "object"] "ValueError.__new__"=AH
 aiv:mg "BadSlack"=AA (.ref ad.bz)ajp:Yc K ad.bz [.type "ValueError",.type "Exception",.type "BaseException",.type "object"] "ValueError.__new__"=AH
 ahg:mg "Clock"=AA (.ref ad.av)cj:Fy K ad.av
 rj:Et K ad.av "slack"di:Et K ad.av "now"ma:Et K ad.av "count"aev:EE K ad.av "__init__" ad.cu
 za:EE K ad.av "admit" ad.jl
 ahi:JC K ad.av ad.cu
 ahh:mg "Group"=AA (.ref ad.ar)cm:Fy K ad.ar
 nh:Et K ad.ar "step"cw:Et K ad.ar "rows"aew:EE K ad.ar "__init__" ad.cv
 abe:EE K ad.ar "put" ad.ny
 zd:EE K ad.ar "close" ad.jn
 zt:EE K ad.ar "take" ad.ml
 agc:EE K ad.ar "pieces" ad.nv
 ahj:JC K ad.ar ad.cv
 aeu:mg "Side"=AA (.ref ad.ff)du:Fy K ad.ff
 cg:Et K ad.ff "rows"afy:EE K ad.ff "__init__" ad.df
 adg:EE K ad.ff "put" ad.si
 abi:EE K ad.ff "near" ad.og
 abh:EE K ad.ff "drop" ad.oe
 aif:EE K ad.ff "kept" ad.wt
 aex:JC K ad.ff ad.df
 aie:mg "Join"=AA (.ref ad.dm)dq:Fy K ad.dm
 cy:Et K ad.dm "within"ig:Et K ad.dm "sides"afx:EE K ad.dm "__init__" ad.de
 abf:EE K ad.dm "come" ad.nz
 abg:EE K ad.dm "drop" ad.oa
 aii:JC K ad.dm ad.de
 aic:mg "Flow"=AA (.ref ad.aj)bu:Fy K ad.aj
 xh:Et K ad.aj "plan"ie:Et K ad.aj "clock"ng:Et K ad.aj "joins"md:Et K ad.aj "groups"ft:Et K ad.aj "number"afw:EE K ad.aj "__init__" ad.da
 abd:EE K ad.aj "come" ad.nu
 nj:EE K ad.aj "told_by" ad.iq
 zb:EE K ad.aj "finish" ad.jm
 aih:JC K ad.aj ad.da
 air:fV K ad.bz
 abr:LJ K (.ref ad.bz) (.type "ValueError")=AA AH
 acz:LJ K (.ref ad.bz) (.ref ad.jg)=AA AH
 acx:Yd K (.ref ad.bz) (.ref ad.jg)=AA AH
 adq:LJ K (.ref ad.bz) (.ref ad.bz)=AA AH
 adp:Yd K (.ref ad.bz) (.ref ad.bz)=AA AH
 vc:∃t,mg "MOST_SLACK"=AA (.int 1000000000 t)agv:mg "PAIRED"=AA (.ref ad.vg)ahm:∀H,B8 K H ad.vg [.str "both",.str "join"]akg:∃o,K.lookup ad.vg=AA o/\o.cls=.type "tuple"/\o.dict=AF
 afl:mg "TELLERS"=AA (.ref ad.qw)aga:∀H,B8 K H ad.qw [.str "each",.str "gap"]aju:∃o,K.lookup ad.qw=AA o/\o.cls=.type "tuple"/\o.dict=AF
 afk:mg "TALLIES"=AA (.ref ad.ik)afz:∀H,B8 K H ad.ik [.str "count",.str "sum",.str "least",.str "greatest"]afp:∃o,K.lookup ad.ik=AA o/\o.cls=.type "tuple"/\o.dict=AF
 ail:mg "ValueError"=AF
 ajq:mg "bool"=AF
 gh:mg "enumerate"=AF
 ahq:mg "int"=AF
 vj:mg "isinstance"=AF
 gy:mg "len"=AF
 qr:mg "list"=AF
 afc:mg "max"=AF
 ahr:mg "min"=AF
 vk:mg "range"=AF
 qu:mg "sorted"=AF
 akw:mg "zip"=AF
theorem Es{us:List F}(h:us.length=1):∃D,us=[D]:=by match us,h with|[D],_=>exact⟨D,rfl⟩
theorem Di{us:List J}(h:us.length=2):∃D F,us=[D,F]:=by match us,h with|[D,F],_=>exact⟨D,F,rfl⟩
theorem Gj{us:List U}(h:us.length=3):∃D F J,us=[D,F,J]:=by match us,h with|[D,F,J],_=>exact⟨D,F,J,rfl⟩
theorem Jx{us:List V}(h:us.length=4):∃D F J U,us=[D,F,J,U]:=by match us,h with|[D,F,J,U],_=>exact⟨D,F,J,U,rfl⟩
theorem fL{us:List W}(h:us.length=5):∃D F J U V,us=[D,F,J,U,V]:=by match us,h with|[D,F,J,U,V],_=>exact⟨D,F,J,U,V,rfl⟩
theorem fG{K:Ar}{h:BG}(X:K.In h)(G:h.Ns BD mg)(a_is_whole:BU K BD "is_whole"=AA (AA (.ref f_is_whole)))(F_is_whole:Aj K "is_whole" "is_whole" QJ f_is_whole d_is_whole)(a_is_among:BU K BD "is_among"=AA (AA (.ref f_is_among)))(F_is_among:Aj K "is_among" "is_among" QH f_is_among d_is_among)(a_Clock:BU K BD "Clock"=AA (AA (.ref V)))(a_Clock___init__:Bu K (.ref V) "__init__"=AA (AA (.ref Y)))(F_Clock___init__:Aj K "__init__" "Clock.__init__" Pw Y p)(a_Clock_admit:Bu K (.ref V) "admit"=AA (AA (.ref N)))(F_Clock_admit:Aj K "admit" "Clock.admit" Px N d_Clock_admit)(a_ahead:BU K BD "ahead"=AA (AA (.ref f_ahead)))(F_ahead:Aj K "ahead" "ahead" QD f_ahead d_ahead)(a_with_keys:BU K BD "with_keys"=AA (AA (.ref f_with_keys)))(F_with_keys:Aj K "with_keys" "with_keys" UR f_with_keys d_with_keys)(a_starts:BU K BD "starts"=AA (AA (.ref f_starts)))(F_starts:Aj K "starts" "starts" QW f_starts d_starts)(a_meets:BU K BD "meets"=AA (AA (.ref f_meets)))(F_meets:Aj K "meets" "meets" QM f_meets d_meets)(a_names_end:BU K BD "names_end"=AA (AA (.ref f_names_end)))(F_names_end:Aj K "names_end" "names_end" QP f_names_end d_names_end)(a_name_of:BU K BD "name_of"=AA (AA (.ref f_name_of)))(F_name_of:Aj K "name_of" "name_of" QO f_name_of d_name_of)(a_feeders:BU K BD "feeders"=AA (AA (.ref f_feeders)))(F_feeders:Aj K "feeders" "feeders" QF f_feeders d_feeders)(a_is_teller:BU K BD "is_teller"=AA (AA (.ref f_is_teller)))(F_is_teller:Aj K "is_teller" "is_teller" QI f_is_teller d_is_teller)(a_tally_of:BU K BD "tally_of"=AA (AA (.ref f_tally_of)))(F_tally_of:Aj K "tally_of" "tally_of" QY f_tally_of d_tally_of)(a_added:BU K BD "added"=AA (AA (.ref f_added)))(F_added:Aj K "added" "added" QC f_added d_added)(a_value:BU K BD "value"=AA (AA (.ref f_value)))(F_value:Aj K "value" "value" Qk f_value d_value)(a_put_window:BU K BD "put_window"=AA (AA (.ref t)))(F_put_window:Aj K "put_window" "put_window" QU t d_put_window)(a_put_each:BU K BD "put_each"=AA (AA (.ref f_put_each)))(F_put_each:Aj K "put_each" "put_each" QS f_put_each d_put_each)(a_put_gap:BU K BD "put_gap"=AA (AA (.ref f_put_gap)))(F_put_gap:Aj K "put_gap" "put_gap" Jt f_put_gap d_put_gap)(a_parted:BU K BD "parted"=AA (AA (.ref f_parted)))(F_parted:Aj K "parted" "parted" Lh f_parted d_parted)(a_put_by:BU K BD "put_by"=AA (AA (.ref f_put_by)))(F_put_by:Aj K "put_by" "put_by" QR f_put_by d_put_by)(a_row_of:BU K BD "row_of"=AA (AA (.ref f_row_of)))(F_row_of:Aj K "row_of" "row_of" QV f_row_of d_row_of)(a_order_of:BU K BD "order_of"=AA (AA (.ref f_order_of)))(F_order_of:Aj K "order_of" "order_of" QQ f_order_of d_order_of)(a_Group:BU K BD "Group"=AA (AA (.ref J)))(a_Group___init__:Bu K (.ref J) "__init__"=AA (AA (.ref Z)))(F_Group___init__:Aj K "__init__" "Group.__init__" P2 Z r)(a_Group_put:Bu K (.ref J) "put"=AA (AA (.ref c)))(F_Group_put:Aj K "put" "Group.put" P4 c d_Group_put)(a_Group_close:Bu K (.ref J) "close"=AA (AA (.ref P)))(F_Group_close:Aj K "close" "Group.close" NS P d_Group_close)(a_Group_take:Bu K (.ref J) "take"=AA (AA (.ref R)))(F_Group_take:Aj K "take" "Group.take" P5 R d_Group_take)(a_Group_pieces:Bu K (.ref J) "pieces"=AA (AA (.ref E)))(F_Group_pieces:Aj K "pieces" "Group.pieces" UP E d_Group_pieces)(a_Side:BU K BD "Side"=AA (AA (.ref W)))(a_Side___init__:Bu K (.ref W) "__init__"=AA (AA (.ref B)))(F_Side___init__:Aj K "__init__" "Side.__init__" P8 B x)(a_Side_put:Bu K (.ref W) "put"=AA (AA (.ref s)))(F_Side_put:Aj K "put" "Side.put" QB s d_Side_put)(a_Side_near:Bu K (.ref W) "near"=AA (AA (.ref i)))(F_Side_near:Aj K "near" "Side.near" QA i d_Side_near)(a_Side_drop:Bu K (.ref W) "drop"=AA (AA (.ref f)))(F_Side_drop:Aj K "drop" "Side.drop" P9 f d_Side_drop)(a_Side_kept:Bu K (.ref W) "kept"=AA (AA (.ref g)))(F_Side_kept:Aj K "kept" "Side.kept" UQ g d_Side_kept)(a_met_item:BU K BD "met_item"=AA (AA (.ref f_met_item)))(F_met_item:Aj K "met_item" "met_item" QN f_met_item d_met_item)(a_Join:BU K BD "Join"=AA (AA (.ref q)))(a_Join___init__:Bu K (.ref q) "__init__"=AA (AA (.ref A)))(F_Join___init__:Aj K "__init__" "Join.__init__" P6 A w)(a_Join_come:Bu K (.ref q) "come"=AA (AA (.ref d)))(F_Join_come:Aj K "come" "Join.come" NT d d_Join_come)(a_Join_drop:Bu K (.ref q) "drop"=AA (AA (.ref e)))(F_Join_drop:Aj K "drop" "Join.drop" P7 e d_Join_drop)(a_tellers:BU K BD "tellers"=AA (AA (.ref f_tellers)))(F_tellers:Aj K "tellers" "tellers" NW f_tellers d_tellers)(a_taken:BU K BD "taken"=AA (AA (.ref f_taken)))(F_taken:Aj K "taken" "taken" QX f_taken d_taken)(a_turned:BU K BD "turned"=AA (AA (.ref f_turned)))(F_turned:Aj K "turned" "turned" QZ f_turned d_turned)(a_passed:BU K BD "passed"=AA (AA (.ref f_passed)))(F_passed:Aj K "passed" "passed" Li f_passed d_passed)(a_joined:BU K BD "joined"=AA (AA (.ref f_joined)))(F_joined:Aj K "joined" "joined" QK f_joined d_joined)(a_spread:BU K BD "spread"=AA (AA (.ref f_spread)))(F_spread:Aj K "spread" "spread" Lj f_spread d_spread)(a_joins_of:BU K BD "joins_of"=AA (AA (.ref f_joins_of)))(F_joins_of:Aj K "joins_of" "joins_of" QL f_joins_of d_joins_of)(a_groups_of:BU K BD "groups_of"=AA (AA (.ref f_groups_of)))(F_groups_of:Aj K "groups_of" "groups_of" QG f_groups_of d_groups_of)(a_put_event:BU K BD "put_event"=AA (AA (.ref f_put_event)))(F_put_event:Aj K "put_event" "put_event" QT f_put_event d_put_event)(a_drop_all:BU K BD "drop_all"=AA (AA (.ref f_drop_all)))(F_drop_all:Aj K "drop_all" "drop_all" QE f_drop_all d_drop_all)(a_closed:BU K BD "closed"=AA (AA (.ref f_closed)))(F_closed:Aj K "closed" "closed" NU f_closed d_closed)(a_rows_of:BU K BD "rows_of"=AA (AA (.ref f_rows_of)))(F_rows_of:Aj K "rows_of" "rows_of" NV f_rows_of d_rows_of)(a_Flow:BU K BD "Flow"=AA (AA (.ref U)))(a_Flow___init__:Bu K (.ref U) "__init__"=AA (AA (.ref z)))(F_Flow___init__:Aj K "__init__" "Flow.__init__" Py z v)(a_Flow_come:Bu K (.ref U) "come"=AA (AA (.ref b)))(F_Flow_come:Aj K "come" "Flow.come" Pz b d_Flow_come)(a_Flow_told_by:Bu K (.ref U) "told_by"=AA (AA (.ref C)))(F_Flow_told_by:Aj K "told_by" "Flow.told_by" P1 C d_Flow_told_by)(a_Flow_finish:Bu K (.ref U) "finish"=AA (AA (.ref O)))(F_Flow_finish:Aj K "finish" "Flow.finish" P0 O d_Flow_finish)(a_u_law_cell_at:BU K BD "_law_cell_at"=AA (AA (.ref Q)))(F_u_law_cell_at:Aj K "_law_cell_at" "_law_cell_at" Qb Q y)(a_u_law_number:BU K BD "_law_number"=AA (AA (.ref S)))(F_u_law_number:Aj K "_law_number" "_law_number" Qe S d_u_law_number)(a_u_law_names:BU K BD "_law_names"=AA (AA (.ref l)))(F_u_law_names:Aj K "_law_names" "_law_names" Qd l d_u_law_names)(a_u_law_scale:BU K BD "_law_scale"=AA (AA (.ref n)))(F_u_law_scale:Aj K "_law_scale" "_law_scale" Qh n d_u_law_scale)(a_u_law_stream:BU K BD "_law_stream"=AA (AA (.ref T)))(F_u_law_stream:Aj K "_law_stream" "_law_stream" Qi T d_u_law_stream)(a_u_law_teller:BU K BD "_law_teller"=AA (AA (.ref a)))(F_u_law_teller:Aj K "_law_teller" "_law_teller" Qj a d_u_law_teller)(a_u_law_bound:BU K BD "_law_bound"=AA (AA (.ref j)))(F_u_law_bound:Aj K "_law_bound" "_law_bound" Qa j d_u_law_bound)(a_u_law_plan:BU K BD "_law_plan"=AA (AA (.ref u)))(F_u_law_plan:Aj K "_law_plan" "_law_plan" Qf u d_u_law_plan)(a_u_law_event:BU K BD "_law_event"=AA (AA (.ref k)))(F_u_law_event:Aj K "_law_event" "_law_event" Qc k d_u_law_event)(a_u_law_order:BU K BD "_law_order"=AA (AA (.ref m)))(F_u_law_order:Aj K "_law_order" "_law_order" NX m d_u_law_order)(a_u_law_run:BU K BD "_law_run"=AA (AA (.ref f_u_law_run)))(F_u_law_run:Aj K "_law_run" "_law_run" Qg f_u_law_run d_u_law_run)(a_law:BU K BD "law"=AA (AA (.ref f_law)))(F_law:Aj K "law" "law" Lg f_law d_law)(a_FlowError:BU K BD "FlowError"=AA (AA (.ref M)))(x_FlowError:Yc K M [.type "ValueError",.type "Exception",.type "BaseException",.type "object"] "ValueError.__new__"=AH)(a_BadSlack:BU K BD "BadSlack"=AA (AA (.ref D)))(x_BadSlack:Yc K D [.type "ValueError",.type "Exception",.type "BaseException",.type "object"] "ValueError.__new__"=AH)(pg_Clock:KY K V Oc=AH)(hd_Clock:LH K V=AH)(po_Clock:Mh K V=AH)(sa_Clock:Bu K (.ref V) "__setattr__"=AA (AA (.builtin "object.__setattr__")))(n_Clock_slack:Bu K (.ref V) "slack"=AA AF)(n_Clock_now:Bu K (.ref V) "now"=AA AF)(n_Clock_count:Bu K (.ref V) "count"=AA AF)(fn_Clock___init__:EU K (.ref Y)=AH)(fn_Clock_admit:EU K (.ref N)=AH)(mks_Clock:Mg K V=AH)(kp_Clock:Il K (.ref V)=AH)(pg_Group:KY K J Oc=AH)(hd_Group:LH K J=AH)(po_Group:Mh K J=AH)(sa_Group:Bu K (.ref J) "__setattr__"=AA (AA (.builtin "object.__setattr__")))(n_Group_step:Bu K (.ref J) "step"=AA AF)(n_Group_rows:Bu K (.ref J) "rows"=AA AF)(fn_Group___init__:EU K (.ref Z)=AH)(fn_Group_put:EU K (.ref c)=AH)(fn_Group_close:EU K (.ref P)=AH)(fn_Group_take:EU K (.ref R)=AH)(fn_Group_pieces:EU K (.ref E)=AH)(mks_Group:Mg K J=AH)(kp_Group:Il K (.ref J)=AH)(pg_Side:KY K W Oc=AH)(hd_Side:LH K W=AH)(po_Side:Mh K W=AH)(sa_Side:Bu K (.ref W) "__setattr__"=AA (AA (.builtin "object.__setattr__")))(n_Side_rows:Bu K (.ref W) "rows"=AA AF)(fn_Side___init__:EU K (.ref B)=AH)(fn_Side_put:EU K (.ref s)=AH)(fn_Side_near:EU K (.ref i)=AH)(fn_Side_drop:EU K (.ref f)=AH)(fn_Side_kept:EU K (.ref g)=AH)(mks_Side:Mg K W=AH)(kp_Side:Il K (.ref W)=AH)(pg_Join:KY K q Oc=AH)(hd_Join:LH K q=AH)(po_Join:Mh K q=AH)(sa_Join:Bu K (.ref q) "__setattr__"=AA (AA (.builtin "object.__setattr__")))(n_Join_within:Bu K (.ref q) "within"=AA AF)(n_Join_sides:Bu K (.ref q) "sides"=AA AF)(fn_Join___init__:EU K (.ref A)=AH)(fn_Join_come:EU K (.ref d)=AH)(fn_Join_drop:EU K (.ref e)=AH)(mks_Join:Mg K q=AH)(kp_Join:Il K (.ref q)=AH)(pg_Flow:KY K U Oc=AH)(hd_Flow:LH K U=AH)(po_Flow:Mh K U=AH)(sa_Flow:Bu K (.ref U) "__setattr__"=AA (AA (.builtin "object.__setattr__")))(n_Flow_plan:Bu K (.ref U) "plan"=AA AF)(n_Flow_clock:Bu K (.ref U) "clock"=AA AF)(n_Flow_joins:Bu K (.ref U) "joins"=AA AF)(n_Flow_groups:Bu K (.ref U) "groups"=AA AF)(n_Flow_number:Bu K (.ref U) "number"=AA AF)(fn_Flow___init__:EU K (.ref z)=AH)(fn_Flow_come:EU K (.ref b)=AH)(fn_Flow_told_by:EU K (.ref C)=AH)(fn_Flow_finish:EU K (.ref O)=AH)(mks_Flow:Mg K U=AH)(kp_Flow:Il K (.ref U)=AH)(ga_BadSlack:Bu K (.ref D) "__getattribute__"=AA (AA (.builtin "BaseException.__getattribute__")))(gt_BadSlack:Bu K (.ref D) "__getattr__"=AA AF)(ck_BadSlack:Bu K (.ref D) "__class__"=AA (AA (.builtin "object.__class__")))(sb_BadSlack:Yh K (.ref D) (.type "BaseException")=AA AH)(so_BadSlack:Yh K (.ref D) (.type "object")=AA AH)(cl_BadSlack:vK K D=AA cd_BadSlack)(i_BadSlack_ValueError:LJ K (.ref D) (.type "ValueError")=AA AH)(i_BadSlack_FlowError:LJ K (.ref D) (.ref M)=AA AH)(e_BadSlack_FlowError:Yd K (.ref D) (.ref M)=AA AH)(i_BadSlack_BadSlack:LJ K (.ref D) (.ref D)=AA AH)(e_BadSlack_BadSlack:Yd K (.ref D) (.ref D)=AA AH)(g_MOST_SLACK:BU K BD "MOST_SLACK"=AA (AA (.int 1000000000 t_MOST_SLACK)))(g_PAIRED:BU K BD "PAIRED"=AA (AA (.ref o_PAIRED)))(l_PAIRED:K.lookup o_PAIRED=AA ⟨.type "tuple",AF,.seq #[.str "both" t0_PAIRED,.str "join" t1_PAIRED] n_PAIRED,sl_PAIRED⟩)(g_TELLERS:BU K BD "TELLERS"=AA (AA (.ref o_TELLERS)))(l_TELLERS:K.lookup o_TELLERS=AA ⟨.type "tuple",AF,.seq #[.str "each" t0_TELLERS,.str "gap" t1_TELLERS] n_TELLERS,sl_TELLERS⟩)(g_TALLIES:BU K BD "TALLIES"=AA (AA (.ref o_TALLIES)))(l_TALLIES:K.lookup o_TALLIES=AA ⟨.type "tuple",AF,.seq #[.str "count" t0_TALLIES,.str "sum" t1_TALLIES,.str "least" t2_TALLIES,.str "greatest" t3_TALLIES] n_TALLIES,sl_TALLIES⟩)(z_ValueError:BU K BD "ValueError"=AA AF)(z_bool:BU K BD "bool"=AA AF)(z_enumerate:BU K BD "enumerate"=AA AF)(z_int:BU K BD "int"=AA AF)(z_isinstance:BU K BD "isinstance"=AA AF)(z_len:BU K BD "len"=AA AF)(z_list:BU K BD "list"=AA AF)(z_max:BU K BD "max"=AA AF)(z_min:BU K BD "min"=AA AF)(z_range:BU K BD "range"=AA AF)(z_sorted:BU K BD "sorted"=AA AF)(z_zip:BU K BD "zip"=AA AF):Ba K mg (⟨f_is_whole,d_is_whole,f_is_among,d_is_among,Y,p,N,d_Clock_admit,f_ahead,d_ahead,f_with_keys,d_with_keys,f_starts,d_starts,f_meets,d_meets,f_names_end,d_names_end,f_name_of,d_name_of,f_feeders,d_feeders,f_is_teller,d_is_teller,f_tally_of,d_tally_of,f_added,d_added,f_value,d_value,t,d_put_window,f_put_each,d_put_each,f_put_gap,d_put_gap,f_parted,d_parted,f_put_by,d_put_by,f_row_of,d_row_of,f_order_of,d_order_of,Z,r,c,d_Group_put,P,d_Group_close,R,d_Group_take,E,d_Group_pieces,B,x,s,d_Side_put,i,d_Side_near,f,d_Side_drop,g,d_Side_kept,f_met_item,d_met_item,A,w,d,d_Join_come,e,d_Join_drop,f_tellers,d_tellers,f_taken,d_taken,f_turned,d_turned,f_passed,d_passed,f_joined,d_joined,f_spread,d_spread,f_joins_of,d_joins_of,f_groups_of,d_groups_of,f_put_event,d_put_event,f_drop_all,d_drop_all,f_closed,d_closed,f_rows_of,d_rows_of,z,v,b,d_Flow_come,C,d_Flow_told_by,O,d_Flow_finish,Q,y,S,d_u_law_number,l,d_u_law_names,n,d_u_law_scale,T,d_u_law_stream,a,d_u_law_teller,j,d_u_law_bound,u,d_u_law_plan,k,d_u_law_event,m,d_u_law_order,f_u_law_run,d_u_law_run,f_law,d_law,M,D,V,J,W,q,U,o_PAIRED,o_TELLERS,o_TALLIES⟩:CW):=⟨F_is_whole,F_is_whole.ag λ_ _ _ _ _ _ L F=>by obtain⟨I,rfl⟩:=Es F;rfl,Bo X G a_is_whole,F_is_among,F_is_among.ag λ_ _ _ _ _ _ L F=>by obtain⟨I,o,a2,rfl⟩:=Gj F;rfl,Bo X G a_is_among,F_Clock___init__,F_Clock___init__.ag λ_ _ _ _ _ _ L F=>by obtain⟨I,o,rfl⟩:=Di F;rfl,F_Clock_admit,F_Clock_admit.ag λ_ _ _ _ _ _ L F=>by obtain⟨I,o,rfl⟩:=Di F;rfl,F_ahead,F_ahead.ag λ_ _ _ _ _ _ L F=>by obtain⟨I,o,rfl⟩:=Di F;rfl,Bo X G a_ahead,F_with_keys,F_with_keys.ag λ_ _ _ _ _ _ L F=>by obtain⟨I,rfl⟩:=Es F;rfl,Bo X G a_with_keys,F_starts,F_starts.ag λ_ _ _ _ _ _ L F=>by obtain⟨I,o,a2,rfl⟩:=Gj F;rfl,Bo X G a_starts,F_meets,F_meets.ag λ_ _ _ _ _ _ L F=>by obtain⟨I,o,a2,a3,rfl⟩:=Jx F;rfl,Bo X G a_meets,F_names_end,F_names_end.ag λ_ _ _ _ _ _ L F=>by obtain⟨I,rfl⟩:=Es F;rfl,Bo X G a_names_end,F_name_of,F_name_of.ag λ_ _ _ _ _ _ L F=>by obtain⟨I,rfl⟩:=Es F;rfl,Bo X G a_name_of,F_feeders,F_feeders.ag λ_ _ _ _ _ _ L F=>by obtain⟨I,rfl⟩:=Es F;rfl,Bo X G a_feeders,F_is_teller,F_is_teller.ag λ_ _ _ _ _ _ L F=>by obtain⟨I,rfl⟩:=Es F;rfl,Bo X G a_is_teller,F_tally_of,F_tally_of.ag λ_ _ _ _ _ _ L F=>by obtain⟨I,rfl⟩:=Es F;rfl,Bo X G a_tally_of,F_added,F_added.ag λ_ _ _ _ _ _ L F=>by obtain⟨I,o,rfl⟩:=Di F;rfl,Bo X G a_added,F_value,F_value.ag λ_ _ _ _ _ _ L F=>by obtain⟨I,o,rfl⟩:=Di F;rfl,Bo X G a_value,F_put_window,F_put_window.ag λ_ _ _ _ _ _ L F=>by obtain⟨I,o,a2,a3,rfl⟩:=Jx F;rfl,Bo X G a_put_window,F_put_each,F_put_each.ag λ_ _ _ _ _ _ L F=>by obtain⟨I,o,a2,a3,a4,rfl⟩:=fL F;rfl,Bo X G a_put_each,F_put_gap,F_put_gap.ag λ_ _ _ _ _ _ L F=>by obtain⟨I,o,a2,a3,rfl⟩:=Jx F;rfl,Bo X G a_put_gap,F_parted,F_parted.ag λ_ _ _ _ _ _ L F=>by obtain⟨I,o,rfl⟩:=Di F;rfl,Bo X G a_parted,F_put_by,F_put_by.ag λ_ _ _ _ _ _ L F=>by obtain⟨I,o,a2,rfl⟩:=Gj F;rfl,Bo X G a_put_by,F_row_of,F_row_of.ag λ_ _ _ _ _ _ L F=>by obtain⟨I,o,a2,rfl⟩:=Gj F;rfl,Bo X G a_row_of,F_order_of,F_order_of.ag λ_ _ _ _ _ _ L F=>by obtain⟨I,rfl⟩:=Es F;rfl,Bo X G a_order_of,F_Group___init__,F_Group___init__.ag λ_ _ _ _ _ _ L F=>by obtain⟨I,o,rfl⟩:=Di F;rfl,F_Group_put,F_Group_put.ag λ_ _ _ _ _ _ L F=>by obtain⟨I,o,rfl⟩:=Di F;rfl,F_Group_close,F_Group_close.ag λ_ _ _ _ _ _ L F=>by obtain⟨I,o,rfl⟩:=Di F;rfl,F_Group_take,F_Group_take.ag λ_ _ _ _ _ _ L F=>by obtain⟨I,o,a2,rfl⟩:=Gj F;rfl,F_Group_pieces,F_Group_pieces.ag λ_ _ _ _ _ _ L F=>by obtain⟨I,rfl⟩:=Es F;rfl,F_Side___init__,F_Side___init__.ag λ_ _ _ _ _ _ L F=>by obtain⟨I,rfl⟩:=Es F;rfl,F_Side_put,F_Side_put.ag λ_ _ _ _ _ _ L F=>by obtain⟨I,o,rfl⟩:=Di F;rfl,F_Side_near,F_Side_near.ag λ_ _ _ _ _ _ L F=>by obtain⟨I,o,a2,a3,rfl⟩:=Jx F;rfl,F_Side_drop,F_Side_drop.ag λ_ _ _ _ _ _ L F=>by obtain⟨I,o,rfl⟩:=Di F;rfl,F_Side_kept,F_Side_kept.ag λ_ _ _ _ _ _ L F=>by obtain⟨I,rfl⟩:=Es F;rfl,F_met_item,F_met_item.ag λ_ _ _ _ _ _ L F=>by obtain⟨I,o,a2,rfl⟩:=Gj F;rfl,Bo X G a_met_item,F_Join___init__,F_Join___init__.ag λ_ _ _ _ _ _ L F=>by obtain⟨I,o,rfl⟩:=Di F;rfl,F_Join_come,F_Join_come.ag λ_ _ _ _ _ _ L F=>by obtain⟨I,o,a2,rfl⟩:=Gj F;rfl,F_Join_drop,F_Join_drop.ag λ_ _ _ _ _ _ L F=>by obtain⟨I,o,rfl⟩:=Di F;rfl,F_tellers,F_tellers.ag λ_ _ _ _ _ _ L F=>by obtain⟨I,rfl⟩:=Es F;rfl,Bo X G a_tellers,F_taken,F_taken.ag λ_ _ _ _ _ _ L F=>by obtain⟨I,o,rfl⟩:=Di F;rfl,Bo X G a_taken,F_turned,F_turned.ag λ_ _ _ _ _ _ L F=>by obtain⟨I,o,rfl⟩:=Di F;rfl,Bo X G a_turned,F_passed,F_passed.ag λ_ _ _ _ _ _ L F=>by obtain⟨I,o,rfl⟩:=Di F;rfl,Bo X G a_passed,F_joined,F_joined.ag λ_ _ _ _ _ _ L F=>by obtain⟨I,o,rfl⟩:=Di F;rfl,Bo X G a_joined,F_spread,F_spread.ag λ_ _ _ _ _ _ L F=>by obtain⟨I,o,a2,rfl⟩:=Gj F;rfl,Bo X G a_spread,F_joins_of,F_joins_of.ag λ_ _ _ _ _ _ L F=>by obtain⟨I,rfl⟩:=Es F;rfl,Bo X G a_joins_of,F_groups_of,F_groups_of.ag λ_ _ _ _ _ _ L F=>by obtain⟨I,rfl⟩:=Es F;rfl,Bo X G a_groups_of,F_put_event,F_put_event.ag λ_ _ _ _ _ _ L F=>by obtain⟨I,o,a2,a3,rfl⟩:=Jx F;rfl,Bo X G a_put_event,F_drop_all,F_drop_all.ag λ_ _ _ _ _ _ L F=>by obtain⟨I,o,rfl⟩:=Di F;rfl,Bo X G a_drop_all,F_closed,F_closed.ag λ_ _ _ _ _ _ L F=>by obtain⟨I,o,rfl⟩:=Di F;rfl,Bo X G a_closed,F_rows_of,F_rows_of.ag λ_ _ _ _ _ _ L F=>by obtain⟨I,rfl⟩:=Es F;rfl,Bo X G a_rows_of,F_Flow___init__,F_Flow___init__.ag λ_ _ _ _ _ _ L F=>by obtain⟨I,o,a2,rfl⟩:=Gj F;rfl,F_Flow_come,F_Flow_come.ag λ_ _ _ _ _ _ L F=>by obtain⟨I,o,rfl⟩:=Di F;rfl,F_Flow_told_by,F_Flow_told_by.ag λ_ _ _ _ _ _ L F=>by obtain⟨I,o,rfl⟩:=Di F;rfl,F_Flow_finish,F_Flow_finish.ag λ_ _ _ _ _ _ L F=>by obtain⟨I,rfl⟩:=Es F;rfl,F_u_law_cell_at,F_u_law_cell_at.ag λ_ _ _ _ _ _ L F=>by obtain⟨I,o,rfl⟩:=Di F;rfl,Bo X G a_u_law_cell_at,F_u_law_number,F_u_law_number.ag λ_ _ _ _ _ _ L F=>by obtain⟨I,o,rfl⟩:=Di F;rfl,Bo X G a_u_law_number,F_u_law_names,F_u_law_names.ag λ_ _ _ _ _ _ L F=>by obtain⟨I,o,a2,rfl⟩:=Gj F;rfl,Bo X G a_u_law_names,F_u_law_scale,F_u_law_scale.ag λ_ _ _ _ _ _ L F=>by obtain⟨I,rfl⟩:=Es F;rfl,Bo X G a_u_law_scale,F_u_law_stream,F_u_law_stream.ag λ_ _ _ _ _ _ L F=>by obtain⟨I,o,a2,a3,rfl⟩:=Jx F;rfl,Bo X G a_u_law_stream,F_u_law_teller,F_u_law_teller.ag λ_ _ _ _ _ _ L F=>by obtain⟨I,o,a2,a3,rfl⟩:=Jx F;rfl,Bo X G a_u_law_teller,F_u_law_bound,F_u_law_bound.ag λ_ _ _ _ _ _ L F=>by obtain⟨I,o,a2,rfl⟩:=Gj F;rfl,Bo X G a_u_law_bound,F_u_law_plan,F_u_law_plan.ag λ_ _ _ _ _ _ L F=>by obtain⟨I,o,rfl⟩:=Di F;rfl,Bo X G a_u_law_plan,F_u_law_event,F_u_law_event.ag λ_ _ _ _ _ _ L F=>by obtain⟨I,o,rfl⟩:=Di F;rfl,Bo X G a_u_law_event,F_u_law_order,F_u_law_order.ag λ_ _ _ _ _ _ L F=>by obtain⟨I,o,rfl⟩:=Di F;rfl,Bo X G a_u_law_order,F_u_law_run,F_u_law_run.ag λ_ _ _ _ _ _ L F=>by obtain⟨I,o,a2,rfl⟩:=Gj F;rfl,Bo X G a_u_law_run,F_law,F_law.ag λ_ _ _ _ _ _ L F=>by obtain⟨I,rfl⟩:=Es F;rfl,Bo X G a_law,Bo X G a_FlowError,x_FlowError,Bo X G a_BadSlack,x_BadSlack,Bo X G a_Clock,⟨pg_Clock,hd_Clock,po_Clock,sa_Clock⟩,n_Clock_slack,n_Clock_now,n_Clock_count,⟨a_Clock___init__,fn_Clock___init__,F_Clock___init__.kp⟩,⟨a_Clock_admit,fn_Clock_admit,F_Clock_admit.kp⟩,⟨mks_Clock,a_Clock___init__,fn_Clock___init__,kp_Clock⟩,Bo X G a_Group,⟨pg_Group,hd_Group,po_Group,sa_Group⟩,n_Group_step,n_Group_rows,⟨a_Group___init__,fn_Group___init__,F_Group___init__.kp⟩,⟨a_Group_put,fn_Group_put,F_Group_put.kp⟩,⟨a_Group_close,fn_Group_close,F_Group_close.kp⟩,⟨a_Group_take,fn_Group_take,F_Group_take.kp⟩,⟨a_Group_pieces,fn_Group_pieces,F_Group_pieces.kp⟩,⟨mks_Group,a_Group___init__,fn_Group___init__,kp_Group⟩,Bo X G a_Side,⟨pg_Side,hd_Side,po_Side,sa_Side⟩,n_Side_rows,⟨a_Side___init__,fn_Side___init__,F_Side___init__.kp⟩,⟨a_Side_put,fn_Side_put,F_Side_put.kp⟩,⟨a_Side_near,fn_Side_near,F_Side_near.kp⟩,⟨a_Side_drop,fn_Side_drop,F_Side_drop.kp⟩,⟨a_Side_kept,fn_Side_kept,F_Side_kept.kp⟩,⟨mks_Side,a_Side___init__,fn_Side___init__,kp_Side⟩,Bo X G a_Join,⟨pg_Join,hd_Join,po_Join,sa_Join⟩,n_Join_within,n_Join_sides,⟨a_Join___init__,fn_Join___init__,F_Join___init__.kp⟩,⟨a_Join_come,fn_Join_come,F_Join_come.kp⟩,⟨a_Join_drop,fn_Join_drop,F_Join_drop.kp⟩,⟨mks_Join,a_Join___init__,fn_Join___init__,kp_Join⟩,Bo X G a_Flow,⟨pg_Flow,hd_Flow,po_Flow,sa_Flow⟩,n_Flow_plan,n_Flow_clock,n_Flow_joins,n_Flow_groups,n_Flow_number,⟨a_Flow___init__,fn_Flow___init__,F_Flow___init__.kp⟩,⟨a_Flow_come,fn_Flow_come,F_Flow_come.kp⟩,⟨a_Flow_told_by,fn_Flow_told_by,F_Flow_told_by.kp⟩,⟨a_Flow_finish,fn_Flow_finish,F_Flow_finish.kp⟩,⟨mks_Flow,a_Flow___init__,fn_Flow___init__,kp_Flow⟩,⟨ga_BadSlack,gt_BadSlack,ck_BadSlack,sb_BadSlack,so_BadSlack,by rw[cl_BadSlack];rfl⟩,i_BadSlack_ValueError,i_BadSlack_FlowError,e_BadSlack_FlowError,i_BadSlack_BadSlack,e_BadSlack_BadSlack,⟨_,Bo X G g_MOST_SLACK⟩,Bo X G g_PAIRED,λH=>.inr ⟨_,_,_,l_PAIRED,rfl,rfl,by first|decide|exact(by decide:2<=sizeLine),by repeat(first|exact .nil|refine .cons ?_ ?_|exact⟨_,rfl⟩|rfl)⟩,⟨_,l_PAIRED,rfl,rfl⟩,Bo X G g_TELLERS,λH=>.inr ⟨_,_,_,l_TELLERS,rfl,rfl,by first|decide|exact(by decide:2<=sizeLine),by repeat(first|exact .nil|refine .cons ?_ ?_|exact⟨_,rfl⟩|rfl)⟩,⟨_,l_TELLERS,rfl,rfl⟩,Bo X G g_TALLIES,λH=>.inr ⟨_,_,_,l_TALLIES,rfl,rfl,by first|decide|exact(by decide:4<=sizeLine),by repeat(first|exact .nil|refine .cons ?_ ?_|exact⟨_,rfl⟩|rfl)⟩,⟨_,l_TALLIES,rfl,rfl⟩,IC X G z_ValueError,IC X G z_bool,IC X G z_enumerate,IC X G z_int,IC X G z_isinstance,IC X G z_len,IC X G z_list,IC X G z_max,IC X G z_min,IC X G z_range,IC X G z_sorted,IC X G z_zip⟩
noncomputable def Na(K:Ar):BF:=λJ H Q _=>Kf (λ(a:AD)(D:List Int)=>J=[.ref a]) (λa D=>Bc K H a (D.map AE.int)) (λ_ D=>D.length<=63) (λ_ _=>∀F,Q (.bl AH) F)
theorem Zo(K:Ar)(H:AI)(a:AD)(ns:List Int)(F:ns.length<=63)(_:Lw H)(D:Bc K H a (ns.map AE.int)):Na K [.ref a] H (λv _=>v=.bl AH) λ_ _ _=>False:=⟨a,ns,rfl,D,F,λ_=>rfl⟩
noncomputable abbrev PX:Nat:=14
noncomputable abbrev Jj:AG:="abcdefghijklmnopqrstuvwxyz"
noncomputable def DI(z:AG):Prop:=∀c∈z.cps.toList,c<128
theorem Pf(z:AG):z.length=z.cps.toList.length:=by simp[u6]
theorem TR(a b:AG):(a++b).cps.toList=a.cps.toList++b.cps.toList:=by show(a.cps++b.cps).toList=_;simp
theorem DI.ok(h:DI z):YX z=AH:=by unfold YX;rw[<-Array.all_toList,List.all_eq_true];intro c D;have:=h c D;simp;(first|lia|omega)
theorem DI.ald(F:DI a)(J:DI b):DI (a++b):=λc D=>by
 rw[TR]at D;rcases DA.mp D with h|h;.exact F c h
 .exact J c h
theorem Ze{x:AG}(V:0<=j)(W:j<=k)(Y:k<=(x.length:Int))(F:DI x):DI (Ik x AF (AA j))/\DI (Ik x (AA k) AF)/\((Ik x AF (AA j)).length:Int)=j/\((Ik x (AA k) AF).length:Int)=x.length-k:=by
 have J:Ik x AF (AA j)=vA x AF (AA j):=rfl;have U:Ik x (AA k) AF=vA x (AA k) AF:=rfl;have Z:=Pf x;rw[J,U,StrLaws.sliceText_to ⟨V,by(first|lia|omega)⟩,StrLaws.sliceText_from ⟨by(first|lia|omega),by(first|lia|omega)⟩];refine⟨λc D=>F c (X2 (X3 D)),λc D=>F c (X2 (X3 D)),?_,?_⟩
 . rw[Pf];show(((OT _ (sA 0 _)).length:Nat):Int)=_;rw[EA,Ig];(first|lia|omega)
 . rw[Pf];show(((OT _ (sA _ _)).length:Nat):Int)=_;rw[EA,Ig];(first|lia|omega)
theorem Zp(m:Int):∃c,Cb Jj.cps.toList (m%26)=AA c/\DI ⟨#[c]⟩:=by
 refine AB λF=>?_;obtain⟨v,V,U⟩:=Gk Jj.cps.toList 26 (by decide+kernel) (by decide) m;refine F ?_;try clear F
 have D:∀c∈Jj.cps.toList,c<128:=by decide+kernel
 refine⟨v,V,λc J=>?_⟩;have e:c=v:=by simpa using J
 rw[e];exact D v U
noncomputable def cY(K:Ar):BF:=λF H Q _=>Gw (λ(a:AD)(D:List Int)(k:Int)=>F=[.ref a,.int k]) (λa D _=>Bc K H a (D.map AE.int)) (λ_ _ k=>0<=k) (λ_ D _=>D.length<=63) (λ_ _ _=>∀r:Int,Q (.int r) H)
theorem NN{K:Ar}{W:CW}(T:Ba K B W):A8 P w K B base BM 1 W.gj W.gq ["_law_script","_law_k"] (cY K):=by
  refine T.aq.ok VP (λC H Q E h=>?_) (λZ A U s H C Q E I h=>?_)
  . refine AB λD=>?_;obtain⟨a,F,k,rfl,_⟩:=h;refine D ?_;try clear D
    rfl
  . refine AB λD=>?_;obtain⟨a,F,i,rfl,Y,z,G,k⟩:=h;refine D ?_;try clear D
    have L:=VP.nd;refine⟨_,(Af (CT (Bt Wt (AM 1) (DQ (Hi (K:=K)) (by rfl) T.gy GB (AJ (AM 0) AW)) (Br _)) (Ak (BE (BC (DL (K:=K)) (AM 0) (AM 1) (λ_ _=>rfl)))) C1) (Ak (BE AR))),?_⟩;refine⟨_,rfl,_,rfl,a,_,rfl,.inl Y,_,_,rfl,rfl,_,rfl,G6 (λe=>?_) λe=>k 0⟩;rw[A0]at e;have J:i.toNat<F.length:=by(first|lia|omega)
    refine⟨_,rfl,_,rfl,a,_,_,.int F[i.toNat],rfl,rfl,Y,?_,k _⟩;have q:=Aq (xs:=F.map AE.int) (j:=i.toNat) (v:=.int F[i.toNat]) (by rw[Bx,Cm J];rfl);rw[rV z]at q;exact q
noncomputable def d5(K:Ar):BF:=λF H Q _=>Gw (λ(a:AD)(D:List Int)(k:Int)=>F=[.ref a,.int k]) (λa D _=>Bc K H a (D.map AE.int)) (λ_ D _=>D.length<=63) (λ_ _ k=>0<=k) (λ_ _ _=>∀r:Int,0<=r->Q (.int r) H)
theorem NO{K:Ar}{W:CW}(T:Ba K B W):A8 P w K B base BM 1 W.ir W.ja ["_law_script","_law_k"] (d5 K):=by
  refine T.cp.ok VS (λG H Q E h=>?_) (λY A U s H G Q E M h=>?_)
  . refine AB λD=>?_;obtain⟨a,F,k,rfl,_⟩:=h;refine D ?_;try clear D
    rfl
  . refine AB λD=>?_;obtain⟨a,F,k,rfl,J,L,N,q⟩:=h;refine D ?_;try clear D
    have C:=VS.nd;refine⟨_,(Af (CT (Bt C7 (DQ (Hi (K:=K)) (by rfl) T.gy GB (AJ (AM 0) AW)) AR (Br _)) (Ak (BE (AX Eg AR (AM 1)))) C1) (Af (Bg (i:=2) C rfl (BL rfl) (AX D8 (AX D8 (BC (DL (K:=K)) (AM 0) (AX B6 (AM 1) (DQ (Hi (K:=K)) (by rfl) T.gy GB (AJ (AM 0) AW))) (λ_ _=>rfl)) (AX Eg AR (AX C8 (AM 1) (DQ (Hi (K:=K)) (by rfl) T.gy GB (AJ (AM 0) AW))))) (AX Eg AR (AM 1)))) (Ak (BE (AX B6 (AX Eg (AM 2) AR) AR))))),?_⟩;have I:((F.map AE.int).length:Int)=F.length:=by rw[A0]
    refine⟨_,rfl,a,_,rfl,.inl J,rfl,_,rfl,Dp (λe=>?_) λe=>?_⟩;.exact⟨_,rfl,_,_,rfl,rfl,.inl ⟨by decide,by decide⟩,q _ (by(first|lia|omega))⟩
    . have e:0<(F.map AE.int).length:=by(first|lia|omega)
      refine AB λD=>?_;obtain⟨v,z,Z⟩:=Gk (F.map AE.int) _ rfl (by(first|lia|omega)) k;obtain⟨n,_,rfl⟩:=BO.mp Z;refine D ?_;try clear D
      refine⟨_,rfl,_,rfl,_,rfl,a,_,rfl,.inl J,_,_,rfl,rfl,(by show(0:Int)<_;(first|lia|omega)),a,_,_,_,rfl,rfl,J,z,?_⟩;refine⟨_,rfl,_,rfl,a,_,rfl,.inl J,_,_,rfl,rfl,⟨by(first|lia|omega),by(first|lia|omega)⟩,_,_,rfl,rfl,.inl ⟨by decide,by decide⟩,_,_,rfl,rfl,_,rfl,_,_,rfl,rfl,.inl ⟨by decide,by decide⟩,_,_,rfl,rfl,?_⟩;exact⟨_,rfl,_,_,rfl,rfl,.inr ⟨by decide,by decide⟩,_,_,rfl,rfl,(by decide:(0:Int)<2147483647),q _ (FJ _ (by decide))⟩
noncomputable def Iv(m:Int):Nat:=97+(m%26).toNat
theorem Zq(m:Int):Cb Jj.cps.toList (m%26)=AA (Iv m):=by
 have D:∀r:Fin 26,Cb Jj.cps.toList (r.val:Int)=AA (97+r.val):=by decide+kernel
 have F:=FJ m (show(26:Int)≠0 by decide);have J:=Fu m (show(0:Int)<26 by decide);have h:=D ⟨(m%26).toNat,by(first|lia|omega)⟩;have e:(((m%26).toNat:Nat):Int)=m%26:=rV F;rw[show((⟨(m%26).toNat,by(first|lia|omega)⟩:Fin 26).val:Int)=m%26 from e]at h;exact h
theorem ZW(m:Int):DI ⟨#[Iv m]⟩:=λc D=>by
 have e:c=Iv m:=by simpa using D
 have F:=Fu m (show(0:Int)<26 by decide);rw[e];unfold Iv;(first|lia|omega)
noncomputable def Lf(u v:AG)(c:Int)(k:Nat):AG:=u++⟨#[Iv (c+3*(k:Int))]⟩++v
theorem Z8(hi:i<12)(Y:j<12)(e:Lf u v c i=Lf u v c j):i=j:=by
 have D:=yZ (λz:AG=>z.cps.toList) e;unfold Lf at D;simp only[TR]at D;have F:=List.append_cancel_right D;have J:=List.append_cancel_left F;have U:Iv (c+3*(i:Int))=Iv (c+3*(j:Int)):=by simpa using J
 unfold Iv at U;have V:=FJ (c+3*(i:Int)) (show(26:Int)≠0 by decide);have W:=FJ (c+3*(j:Int)) (show(26:Int)≠0 by decide);(first|lia|omega)
theorem Z9(u v:AG)(c:Int)(h:n<=12):((Fp n).map (Lf u v c)).Nodup:=by rw[rX,KL];refine wQ (λ{a b}D F J e=>?_) sU;rw[oE]at D F;exact J (Z8 (by(first|lia|omega)) (by(first|lia|omega)) e)
noncomputable def dX(K:Ar):BF:=λW H Q _=>O7 (λ(a:AD)(D:List Int)(U m:Int)=>W=[.ref a,.int U,.int m]) (λa D _ _=>Bc K H a (D.map AE.int)) (λ_ D _ _=>D.length<=63) (λ_ _ U _=>0<=U) (λ_ _ _ m=>0<=m) (λ_ _ _ m=>m<=12) (λ_ _ _ m=>∀l J(F:List AG),Ap H J->H l=AF->J l=AA (.lst (F.map AE.str))->(F.length:Int)=m->F.Nodup->(∀z∈F,DI z)->Q (.ref l) J)
theorem UE{K:Ar}{d:CW}(T:Ba K mg d):A8 P w K mg base BM 2 d.js d.kj ["_law_script","_law_start","_law_many"] (dX K):=by
  have F:=NO (P:=P) (w:=w) (base:=base) T;refine T.cx.ok VR (λvs H Q E h=>?_) (λp A O s H vs Q E v h=>?_)
  . refine AB λD=>?_;obtain⟨a,e,R,m,rfl,_⟩:=h;refine D ?_;try clear D
    rfl
  . refine AB λD=>?_;obtain⟨a,e,R,m,rfl,r,u,S,m0,m1,k⟩:=h;refine D ?_;try clear D
    have J:=VR.nd;refine⟨_,(Af (Bg (i:=3) J rfl (BL rfl) DB) (Af (Bg (i:=4) J rfl (BL rfl) (Cj F (v.bb (by decide)) (by rfl) T.dw T.cp.kp T.dk .nil Bk (AJ (AM 0) (AJ (AM 1) AW)))) (Af (Bg (i:=5) J rfl (BL rfl) (AX D8 AR (AX B6 (AX C8 (AM 4) AR) AR))) (Af (Bg (i:=6) J rfl (BL rfl) DB) (Af (Eh E4 rfl (W4 (by rfl) T.vk (AJ (AX D8 AR (AX B6 (AM 4) AR)) AW)) (FE (i:=7) J rfl (BL rfl)) (Ak (Bg (i:=6) J rfl (BL rfl) (AX RS (AM 6) (BC WV (AM 3) (AX B6 (AX D8 (AX C8 (AM 4) AR) (AX Eg (AM 7) (AM 5))) AR) (λ_ _=>rfl)))))) (Af (Bg (i:=8) J rfl (BL rfl) (AX B6 (AX C8 (AM 4) AR) (DQ gN (by rfl) T.gy GB (AJ (AM 6) AW)))) (Af (Bg (i:=9) J rfl (BL rfl) (Dl AW)) (Af (Eh E4 rfl (W4 (by rfl) T.vk (AJ (AM 2) AW)) (FE (i:=10) J rfl (BL rfl)) (Af (Bg (i:=11) J rfl (BL rfl) (BC WV (AM 3) (AX B6 (AX D8 (AX C8 (AM 4) AR) (AX Eg AR (AM 10))) AR) (λ_ _=>rfl))) (Ak (Fn (JP (K:=K) Mc SG pH RM (AM 9) (AJ (AX RS (AX RS (Fl XR (AM 6) GZ (FF (AM 8))) (AM 11)) (Fl XR (AM 6) (FF (AX D8 (AM 8) AR)) GZ)) AW)))))) (Ak (BE (AM 9))))))))))),?_⟩;have sz:Aw=16777216:=DN;refine⟨_,rfl,_,rfl,a,e,_,rfl,r,u,S,λn n0=>?_⟩;refine⟨_,rfl,_,_,rfl,rfl,⟨by decide,by decide⟩,_,_,rfl,rfl,(by decide:(0:Int)<25),_,_,rfl,rfl,?_⟩;have f:0<=n%12/\n%12<12:=⟨FJ _ (by decide),Fu _ (by decide)⟩;have g:0<=n/312%25/\n/312%25<25:=⟨FJ _ (by decide),Fu _ (by decide)⟩;refine⟨_,rfl,_,_,rfl,rfl,(by decide:(0:Int)<12),_,_,rfl,rfl,_,rfl,by(first|lia|omega),by(first|lia|omega),?_⟩;refine RB (λj C I=>I=H/\∃(N:Option AE)(z:AG),C=[AA (.ref a),AA (.int R),AA (.int m),AA (.str Jj),AA (.int n),AA (.int (1+n/312%25)),AA (.str z),N,AF,AF,AF,AF]/\z.length=j/\DI z) ⟨rfl,AF,"",rfl,rfl,λc t=>by cases t⟩ ?_ ?_
    . intro j C b hj U;refine AB λD=>?_;obtain⟨rfl,o8,z,rfl,G,Z⟩:=U;refine D ?_;try clear D
      rw[rW];refine AB λD=>?_;obtain⟨ch,W,M⟩:=Zp (n/12+(j:Int)*(1+n/312%25));refine D ?_;try clear D
      refine⟨_,rfl,_,rfl,_,rfl,_,_,rfl,rfl,⟨by decide,by decide⟩,_,rfl,_,rfl,_,_,rfl,rfl,.inr ⟨by(first|lia|omega),by(first|lia|omega)⟩,_,_,rfl,rfl,_,_,rfl,rfl,(by decide:(0:Int)<26),_,_,_,rfl,rfl,by decide+kernel,W,_,_,rfl,rfl,?_,rfl,_,_,rfl,?_,Z.ald M⟩
      . show z.length+1<=Aw;(first|lia|omega)
      .rw[u7,G];rfl
    . intro C b U;refine AB λD=>?_;obtain⟨rfl,N,z,rfl,G,Z⟩:=U;refine D ?_;try clear D
      have hz3:(z.length:Int)=1+n%12:=by(first|lia|omega)
      refine⟨_,rfl,_,_,rfl,rfl,⟨by decide,by decide⟩,_,rfl,z,rfl,by(first|lia|omega),_,_,rfl,rfl,(by show(0:Int)<(z.length:Int);(first|lia|omega)),?_⟩;have o:0<=n/7800%(z.length:Int)/\n/7800%(z.length:Int)<(z.length:Int):=⟨FJ _ (by(first|lia|omega)),Fu _ (by(first|lia|omega))⟩;refine AB λD=>?_;obtain⟨p1,p2,p3,p4⟩:=Ze (x:=z) (j:=n/7800%(z.length:Int)) (k:=n/7800%(z.length:Int)+1) o.1 (by(first|lia|omega)) (by(first|lia|omega)) Z;refine D ?_;try clear D
      refine⟨CU _,λl Y=>⟨_,rfl,_,rfl,by(first|lia|omega),by(first|lia|omega),?_⟩⟩;refine RB (λi C I=>Jm (λ(q B:Option AE)=>C=[AA (.ref a),AA (.int R),AA (.int m),AA (.str Jj),AA (.int n),AA (.int (1+n/312%25)),AA (.str z),N,AA (.int (n/7800%(z.length:Int))),AA (.ref l),q,B]) (λ_ _=>Ap b I) (λ_ _=>I l=AA (.lst (((Fp i).map (Lf (Ik z AF (AA (n/7800%(z.length:Int)))) (Ik z (AA (n/7800%(z.length:Int)+1)) AF) (n/93600))).map AE.str)))) ⟨AF,AF,rfl,(Cu _).gf Y,Ab⟩ ?_ ?_
      . intro i C X hi U;refine AB λD=>?_;obtain⟨q,B,rfl,s1,L⟩:=U;refine D ?_;try clear D
        rw[rW];have W:=Zq (n/93600+3*(i:Int));refine⟨_,rfl,_,rfl,_,_,rfl,rfl,⟨by decide,by decide⟩,_,rfl,_,_,rfl,rfl,.inl ⟨by decide,by decide⟩,_,_,rfl,rfl,_,_,rfl,rfl,(by decide:(0:Int)<26),_,_,_,rfl,rfl,by decide+kernel,W,?_⟩;refine⟨_,rfl,.inl ⟨rfl,_,Ai L⟩,_,rfl,_,rfl,_,rfl,z,rfl,by(first|lia|omega),_,rfl,_,_,rfl,rfl,?_,_,rfl,_,rfl,_,_,rfl,rfl,_,rfl,z,rfl,by(first|lia|omega),_,_,rfl,rfl,?_,l,_,_,rfl,rfl,L,by rw[A0,A0,Rw];(first|lia|omega),?_⟩
        . show(Ik z AF (AA (n/7800%(z.length:Int)))).length+1<=Aw;(first|lia|omega)
        . rw[u7];show(Ik z AF (AA (n/7800%(z.length:Int)))).length+1+_<=Aw;(first|lia|omega)
        . refine⟨_,_,rfl,s1.agb Y,?_⟩;rw[Ab,List.range_succ,C9,C9];rfl
      . intro C X U;refine AB λD=>?_;obtain⟨q,B,rfl,s1,L⟩:=U;refine D ?_;try clear D
        refine⟨_,rfl,k l X _ s1 Y L ?_ (Z9 _ _ _ (by(first|lia|omega))) λy hy=>?_⟩;.rw[A0,Rw];(first|lia|omega)
        . refine AB λD=>?_;obtain⟨i,_,rfl⟩:=BO.mp hy;refine D ?_;try clear D
          exact(p1.ald (ZW _)).ald p2
noncomputable abbrev AU:=Int×AG×Int
noncomputable def Fx(i:AU):List AL:=[.inl i.1,.inl i.2.2]
noncomputable def DT(i:AU):List AL:=[.inl i.1,.inr i.2.1,.inl i.2.2]
noncomputable def Ox(m:Nat)(H:AI)(x:AE)(ks:List AL):Prop:=∃a D,x=.ref a/\H a=AA (.tup (ks.map Ax++D))/\(D=[]\/m<=ks.length)
theorem NR(h:CH H xs kss):BP (Ox m H) xs kss:=GY (λ_ _⟨a,e,q⟩=>⟨a,[],e,by rw[FG];exact q,.inl rfl⟩) h
noncomputable def cW:BF:=λY H Q _=>Sy (λ(r W:AD)(U:List AE)(D:List (List AL))(F:List AL)=>Y=[.ref r,.ref W]) (λr _ U _ _=>H r=AA (.lst U)) (λ_ _ U D F=>BP (Ox F.length H) U D) (λ_ W _ _ F=>H W=AA (.tup (F.map Ax))) (λ_ _ _ D F=>(∀J∈D,∀(i:Nat)k m,J[i]?=AA k->F[i]?=AA m->B9 k=B9 m)) (λ_ _ _ D _=>DP D) (λ_ _ _ D F=>∀n:Nat,n<=D.length->(∀(i:Nat)J,i<n->D[i]?=AA J->BB J F=AH)->(∀(i:Nat)J,n<=i->D[i]?=AA J->BB J F=AQ)->Q (.int (n:Int)) H)
theorem cL(h:DP kss){i j:Nat}(Y:i<=j)(F:kss[i]?=AA a)(D:kss[j]?=AA b):BB b a=AQ:=by
  by_cases e:i=j
  . subst e;rw[F]at D;cases D;exact L9 _
  . refine AB λJ=>?_;obtain⟨W,U⟩:=BN.mp F;obtain⟨Z,V⟩:=BN.mp D;refine J ?_;try clear J
    have:=E3.mp h i j W Z (by(first|lia|omega));rw[U,V]at this;exact this
theorem Vc(h:DP kss){i j:Nat}(D:i<=j)(J:kss[i]?=AA a)(U:kss[j]?=AA b)(V:BB b F=AH):BB a F=AH:=tN (O:=FD) (show FD.kle a b from cL h D J U) V
theorem NM{K:Ar}{g:CW}(T:Ba K mg g):A8 P w K mg base BM 1 g.aao g.aav ["rows","mark"] cW:=by
  refine T.qv.ok Us (λvs H Q E h=>?_) (λy A c s H vs Q E hr h=>?_)
  . refine AB λU=>?_;obtain⟨r,X,d,J,C,rfl,_⟩:=h;refine U ?_;try clear U
    rfl
  . refine AB λU=>?_;obtain⟨r,X,d,J,C,rfl,l,hw,em,hs,x,k⟩:=h;refine U ?_;try clear U
    have G:=Us.nd;refine⟨_,(Af (Cr 2 G AR) (Af (Cr 3 G (DQ (Ks (K:=K)) (by rfl) T.gy GB (AJ (AO 0) AW))) (Af (kW E4 (Bt RW (AO 2) (AO 3) (Br _)) (Af (Cr 4 G (AX RT (AX FT (AO 2) (AO 3)) AR)) (Ak (CT (Bt (jS (K:=K) hr.ajm) (JT K (AO 0) (AO 4)) (AO 1) (Br _)) (Ak (Cr 2 G (AX FT (AO 4) AR))) (Ak (Cr 3 G (AO 4))))))) (Ak (BE (AO 2)))))),?_⟩;obtain⟨S,I⟩:=CZ hw;refine⟨_,.inl (Ai l),?_⟩;refine nP (λY f=>f=H/\∃(F D:Nat)(t:Option AE),Y=[AA (.ref r),AA (.ref X),AA (.int (F:Int)),AA (.int (D:Int)),t]/\F<=D/\D<=J.length/\(∀(i:Nat)W,i<F->J[i]?=AA W->BB W C=AH)/\(∀(i:Nat)W,D<=i->J[i]?=AA W->BB W C=AQ)) (λY _=>match Y with|[_,_,AA (.int F),AA (.int D),_]=>(D-F).toNat|_=>0) ⟨rfl,0,J.length,AF,by rw[S];rfl,CU _,Al _,λi W h=>by(first|lia|omega),λi W h e=>by have:=(BN.mp e).1;(first|lia|omega)⟩ ?_ ?_
    . intro Y f hI;refine AB λU=>?_;obtain⟨rfl,F,D,t,rfl,h1,m,n,o⟩:=hI;refine U ?_;try clear U
      refine⟨_,rfl,G6 (λe=>?_) λe=>?_⟩
      . have e:F<D:=by(first|lia|omega)
        have Z:((F:Int)+(D:Int))/2=(((F+D)/2:Nat):Int):=by(first|lia|omega)
        have p:(F+D)/2<J.length:=by(first|lia|omega)
        have N:J[(F+D)/2]?=AA J[(F+D)/2]:=Cm p;have O:=Cm (show(F+D)/2<d.length by(first|lia|omega));refine AB λU=>?_;obtain⟨a,zs,ea,eq,hz⟩:=I _ _ _ O N;refine U ?_;try clear U
        rw[ea]at O;have M:Cb d (((F:Int)+(D:Int))/2)=AA (.ref a):=by rw[Z];exact Aq O
        refine⟨⟨by decide,by decide⟩,_,_,Ai l,M,a,X,J[(F+D)/2],zs,C,rfl,rfl,As eq,As em,hz,hs _ (sO p),_,rfl,IV (λb=>?_) λb=>?_⟩
        . refine⟨⟨rfl,(F+D)/2+1,D,_,by show _=[_,_,AA (AE.int _),_,_];rw[show((((F+D)/2+1:Nat)):Int)=((F:Int)+(D:Int))/2+1 by(first|lia|omega)];rfl,by(first|lia|omega),m,λi W B L=>Vc x (by(first|lia|omega)) L N b,o⟩,?_⟩;show((D:Int)-(((F:Int)+(D:Int))/2+1)).toNat<((D:Int)-(F:Int)).toNat;(first|lia|omega)
        . refine⟨⟨rfl,F,(F+D)/2,_,by show _=[_,_,_,AA (AE.int _),_];rw[<-Z];rfl,by(first|lia|omega),by(first|lia|omega),n,λi W B L=>?_⟩,?_⟩;.cases z:BB W C with |false=>rfl|true=>rw[Vc x B N L z]at b;cases b
          . show((((F:Int)+(D:Int))/2)-(F:Int)).toNat<((D:Int)-(F:Int)).toNat;(first|lia|omega)
      . have e:F=D:=by(first|lia|omega)
        subst e;exact k F m n o
    . intro Y H1 R R' hR q;refine AB λU=>?_;obtain⟨v,e1,q1⟩:=RQ q;obtain⟨u,e2,q2⟩:=RQ q1;obtain⟨i,rfl,q3⟩:=GX q2;obtain⟨j,rfl,b,e5,q4⟩:=GX q3;refine U ?_;try clear U
      show N7 Y[2]? λv=>N7 Y[3]? _;rw[e1,e2];exact⟨b,e5,hR _ _ q4⟩
noncomputable def Jl(ex:List AD)(H:AI)(L:List AU)(q:AL×AE):Prop:=∃(z:AG)(r:AD)(F:List AE)(D:List (List AL)),q=(.inr z,.ref r)/\r∉ex/\H r=AA (.lst F)/\CH H F D/\D≠[]/\DP D/\D.Perm ((L.filter λi=>Ae (i.2.1=z)).map Fx)
section
variable{ad:CW}
structure DE(ad:CW)(ex:List AD)(H:AI)(x d:AD)(L:List AU):Prop where cn:∃dx,H x=AA (.ins ad.ff dx [("rows",.ref d)])ba:∃kvs,H d=AA (.dK kvs)/\(kvs.map (·.1)).Nodup/\kvs.length<=L.length/\(∀q∈kvs,Jl ex H L q)/\∀i∈L,(CJ i.2.1:AL)∈kvs.map (·.1)
end
theorem Jl.ab(h:Jl ex H L q)(W:∀b xs,b∉ex->H b=AA (.lst xs)->H' b=AA (.lst xs))(t:Bp H H'):Jl ex H' L q:=by
 refine AB λJ=>?_;obtain⟨z,r,xs,D,e,F,U,hw,r1⟩:=h;refine J ?_;try clear J
 exact⟨z,r,xs,D,e,F,W _ _ F U,hw.ab t,r1⟩
theorem DE.ab(h:DE F ex H x d L)(z:∀C D J,H x=AA (.ins C D J)->H' x=AA (.ins C D J))(Y:∀kvs,H d=AA (.dK kvs)->H' d=AA (.dK kvs))(Z:∀b xs,b∉ex->H b=AA (.lst xs)->H' b=AA (.lst xs))(t:Bp H H'):DE F ex H' x d L:=by
 refine AB λU=>?_;obtain⟨⟨D,e⟩,kvs,V,n,l,q,c⟩:=h;refine U ?_;try clear U
 exact⟨⟨D,z _ _ _ e⟩,kvs,Y _ V,n,l,λp W=>(q p W).ab Z t,c⟩
theorem DE.bc(h:DE D ex H x d L)(s:Ap H H'):DE D ex H' x d L:=h.ab (λC J U e=>s _ _ e) (λF e=>s _ _ e) (λb V _ e=>s _ _ e) s.tp
theorem DE.adi(h:DE F ex H x d L)(s:Bs d' H H')(e:H d'=AA (.dK kvs))(J:d≠d'):DE F ex H' x d L:=h.ab (λC W Y D=>s _ _ (λz=>by rw[z,e]at D;cases D) D) (λkvs D=>s _ _ J D) (λb U _ D=>s _ _ (λz=>by rw[z,e]at D;cases D) D) (s.tp e λU=>by intro z;cases z)
theorem DE.aag(h:DE F ex H x d L)(e:H c=AA (.lst xs))(U:c∈ex):DE F ex (AN H c o) x d L:=h.ab (λC Y Z D=>by rw[Ac (λz=>by rw[z,e]at D;cases D)];exact D) (λW D=>by rw[Ac (λz=>by rw[z,e]at D;cases D)];exact D) (λb xs J D=>by rw[Ac (λz=>J (by rw[z];exact U))];exact D) ((Hh H).gf e λxs=>by intro z;cases z)
theorem DE.aho{L:List AU}(h:DE W ex H x d L)(z:AG)(e:H d=AA (.dK kvs)):(Bm kvs (.inr z)=AF/\(L.filter λi=>Ae (i.2.1=z))=[])\/∃r xs kss,Bm kvs (.inr z)=AA (.ref r)/\r∉ex/\H r=AA (.lst xs)/\CH H xs kss/\kss≠[]/\DP kss/\kss.Perm ((L.filter λi=>Ae (i.2.1=z)).map Fx):=by
 refine AB λD=>?_;obtain⟨_,U,F,n,l,q,c⟩:=h;rw[e]at F;cases F;refine D ?_;try clear D
 cases J:Bm kvs (.inr z)with |none=> refine .inl ⟨rfl,OO.mpr λi Z A=>?_⟩;have:=c i Z;rw[y6 A]at this;exact Xo J this|some v=>
  refine AB λD=>?_;obtain⟨B,r,xs,kss,Y,r1⟩:=q _ (Hq J);cases Y;refine D ?_;try clear D
  exact .inr ⟨r,xs,kss,rfl,r1⟩
theorem Pt{L:List AU}{kss:List (List AL)}(p:kss.Perm ((L.filter λi=>Ae (i.2.1=z)).map Fx)):kss.length<=L.length:=by rw[p.length_eq,A0];exact FY _ _
theorem Js{L:List AU}{kss:List (List AL)}(h:kss.Perm ((L.filter p).map Fx)):∀ks∈kss,∃t a,ks=[.inl t,.inl a]:=λks F=>by
 refine AB λD=>?_;obtain⟨i,_,rfl⟩:=BO.mp (h.mem_iff.mp F);refine D ?_;try clear D
 exact⟨_,_,rfl⟩
theorem NP{kss:List (List AL)}{D:List AL}(h:∀ks∈kss,∃t a,ks=[.inl t,.inl a])(W:∀m∈D,B9 m=AH):∀ks∈kss,∀(i:Nat)k m,ks[i]?=AA k->D[i]?=AA m->B9 k=B9 m:=λks V i k m J U=>by
 refine AB λF=>?_;obtain⟨t,a,rfl⟩:=h ks V;refine F ?_;try clear F
 rw[W m (DW U)];have:=DW J;simp only[CB,KJ,zB]at this;rcases this with rfl|rfl<;>rfl
theorem PV(xs:List AE)(n:Nat)(h:n<=xs.length):Ee xs AF (AA (n:Int))=xs.take n:=by
 unfold Ee;have D:BW xs.length 0 AF=0:=rfl;have F:BW xs.length xs.length (AA (n:Int))=n:=by show(if(n:Int)<0 then((n:Int)+(xs.length:Int)).toNat else Cs (n:Int).toNat xs.length)=n;rw[yX (by(first|lia|omega))];(first|lia|omega)
 rw[D,F];rfl
theorem La(xs:List AE)(n:Nat)(h:n<=xs.length):Ee xs (AA (n:Int)) AF=xs.drop n:=by
 unfold Ee;have D:BW xs.length xs.length AF=xs.length:=rfl;have F:BW xs.length 0 (AA (n:Int))=n:=by show(if(n:Int)<0 then((n:Int)+(xs.length:Int)).toNat else Cs (n:Int).toNat xs.length)=n;rw[yX (by(first|lia|omega))];(first|lia|omega)
 rw[D,F];exact Df (by rw[Ig];exact Al _)
theorem Zd(xs:List AE)(n m:Nat)(h:n<=xs.length)(J:m<=xs.length):Ee xs (AA (n:Int)) (AA (m:Int))=(xs.drop n).take (m-n):=by
 unfold Ee;have D:∀d,BW xs.length d (AA (m:Int))=m:=λd=>by show(if(m:Int)<0 then((m:Int)+(xs.length:Int)).toNat else Cs (m:Int).toNat xs.length)=m;rw[yX (by(first|lia|omega))];(first|lia|omega)
 have F:∀d,BW xs.length d (AA (n:Int))=n:=λd=>by show(if(n:Int)<0 then((n:Int)+(xs.length:Int)).toNat else Cs (n:Int).toNat xs.length)=n;rw[yX (by(first|lia|omega))];(first|lia|omega)
 rw[D,F]
theorem cF{kss:List (List AL)}(sd:DP kss)(Z:∀(i:Nat)ks,i<n->kss[i]?=AA ks->BB ks F=AH)(q:∀(i:Nat)ks,n<=i->kss[i]?=AA ks->BB ks F=AQ):DP (kss.take n++[F]++kss.drop n):=by
  have z:∀ks∈kss.take n,BB ks F=AH:=λks V=>by obtain⟨i,U,e⟩:=F7.mp V;rw[EA]at U;exact Z i ks (by(first|lia|omega)) (by rw[<-e,MW];exact Cm _)
  have Y:∀ks∈kss.drop n,BB ks F=AQ:=λks V=>by obtain⟨i,U,e⟩:=F7.mp V;rw[Ig]at U;exact q (n+i) ks (by(first|lia|omega)) (by rw[<-e,List.getElem_drop];exact Cm _)
  have A:DP (kss.take n++kss.drop n):=by rw[OU];exact sd
  refine AB λW=>?_;obtain⟨s1,s2,s3⟩:=LB.mp A;refine W ?_;try clear W
  refine LB.mpr ⟨LB.mpr ⟨s1,oI _ _,λa D b J=>?_⟩,s2,λa D b J=>?_⟩;. rw[By.mp J];exact Hw (O:=FD) (z a D)
  . rcases DA.mp D with D|D;.exact s3 a D b J
    . rw[By.mp D];exact Y b J
noncomputable def eB(J:CW):BF:=λU H Q _=>PB (λ(D:List AD)(x d p:AD)(L:List AU)(i:AU)=>U=[.ref x,.ref p]) (λD x d _ L _=>DE J D H x d L) (λD _ _ _ _ _=>(∀c∈D,∃o,H c=AA o)) (λ_ _ _ p _ i=>H p=AA (.tup ((DT i).map Ax))) (λ_ _ _ _ L _=>L.length<=1000) (λD x d _ L i=>∀F,Bs d H F->DE J D F x d (L++[i])->Q .non F)
theorem Tc{L:List AU}{i:AU}:((L++[i]).filter λj=>Ae (j.2.1=z))=if i.2.1=z then(L.filter λj=>Ae (j.2.1=z))++[i]else L.filter λj=>Ae (j.2.1=z):=by
 rw[Hr];by_cases e:i.2.1=z;.rw[yY e,FX,yY (y3 e)];rfl
 . rw[yX e,FX,yX (by simpa using e)];simp
theorem bJ{K:Ar}{ad:CW}(T:Ba K mg ad):A8 P w K mg base BM 2 ad.si ad.ug ["self","item"] (eB ad):=by
  have W:=NM (P:=P) (w:=w) (base:=base) T;refine T.adt.ok Uq (λvs H Q E h=>?_) (λcdv A outer s H vs Q E hr h=>?_)
  . refine AB λU=>?_;obtain⟨ex,x,d,p,L,i,rfl,_⟩:=h;refine U ?_;try clear U
    rfl
  . refine AB λU=>?_;obtain⟨ex,x,d,p,L,⟨t,z,a⟩,rfl,sr,hex,g,hL,k⟩:=h;refine U ?_;try clear U
    have nd:=Uq.nd;refine⟨_,(Af (Bg (i:=2) nd rfl (BL rfl) (Cw (AJ (BC (CD (K:=K)) (AM 1) AR (λ_ _=>rfl)) (AJ (BC (CD (K:=K)) (AM 1) AR (λ_ _=>rfl)) AW)))) (Af (Bg (i:=3) nd rfl (BL rfl) (Rb hr.u1 (Cq (AM 0) rfl) (BC (CD (K:=K)) (AM 1) AR (λ_ _=>rfl)) (Dl AW) ⟨rfl,rfl,rfl,rfl⟩)) (Af (Bg (i:=4) nd rfl (BL rfl) (Cj W (hr.bb (by decide)) (by rfl) T.ve T.qv.kp T.ux .nil Bk (AJ (AM 3) (AJ (AM 2) AW)))) (Ak (JS hr.u1 (Cq (AM 0) rfl) (BC (CD (K:=K)) (AM 1) AR (λ_ _=>rfl)) (AX Gn (AX Gn (Fl (Ho (K:=K)) (AM 3) GZ (FF (AM 4))) (Dl (AJ (AM 2) AW))) (Fl (Ho (K:=K)) (AM 3) (FF (AM 4)) GZ)) rfl))))),?_⟩;have sz:Aw=16777216:=DN;have i0:∀{a b c:AE},Cb [a,b,c] 0=AA a:=Aq (j:=0) rfl;have i1:∀{a b c:AE},Cb [a,b,c] 1=AA b:=Aq (j:=1) rfl;have i2:∀{a b c:AE},Cb [a,b,c] 2=AA c:=Aq (j:=2) rfl;have g:H p=AA (.tup [.int t,.str z,.int a]):=g;refine⟨_,rfl,p,_,_,_,rfl,rfl,As g,i0,_,rfl,p,_,_,_,rfl,rfl,As g,i2,C2 rfl,λJ hpp=>?_⟩;have s1:=Be (o:=.tup [.int t,.int a]) hpp;have O:(AN H J (.tup [.int t,.int a])) J=AA (.tup ([.inl t,.inl a].map Ax)):=Ab;generalize AN H J (.tup [.int t,.int a])=H1 at s1 O⊢;have X:=sr.bc s1;refine AB λU=>?_;obtain⟨dx,eo⟩:=X.cn;obtain⟨G,ed,nd',hk,hq,hc⟩:=id X.ba;refine U ?_;try clear U
    have isd:Kk H1 d:=.inl ⟨G,.inl ed⟩;refine⟨_,rfl,x,_,dx,_,_,rfl,eo,T.du,T.cg,rfl,d,rfl,isd,_,rfl,p,_,_,_,rfl,rfl,As (s1 _ _ g),i1,CU _,λel hel=>?_⟩;have s2:=Be (o:=.lst []) hel;have eel:(AN H1 el (.lst [])) el=AA (.lst []):=Ab;generalize AN H1 el (.lst [])=H2 at s2 eel⊢;have sr2:=X.bc s2;have ed2:=s2 _ _ ed;refine AB λU=>?_;obtain⟨R,D,F,erw,er,hw,sd,pm⟩:∃(r:AD)(D:List AE)(F:List (List AL)),(Bm G (.inr z)).getD (.ref el)=.ref r/\H2 r=AA (.lst D)/\CH H2 D F/\DP F/\F.Perm ((L.filter λi=>Ae (i.2.1=z)).map Fx):=by
      rcases sr2.aho z ed2 with⟨e1,e2⟩|⟨r,D,F,e1,_,er,hw,_,sd,pm⟩;.exact⟨el,[],[],by rw[e1];rfl,eel,Gq _,.nil,by rw[e2];exact .nil⟩
      .exact⟨r,D,F,by rw[e1];rfl,er,hw,sd,pm⟩
    refine U ?_;try clear U
    refine⟨_,Kj (k:=CJ z) ed2,?_⟩;rw[erw];have hl:=Pt pm;have hxl:=hw.dh;refine⟨_,rfl,_,rfl,R,J,D,F,_,rfl,er,NR hw,s2 _ _ O,NP (Js pm) (by intro m l;simp only[CB,KJ,zB]at l;rcases l with rfl|rfl<;>rfl),sd,λn hn b1 b2=>?_⟩;refine⟨_,rfl,_,rfl,_,rfl,R,D,rfl,Ai er,λc1 hc1=>?_⟩;rw[PV D n (by(first|lia|omega))];have s3:=Be (o:=.lst (D.take n)) hc1;have y:(AN H2 c1 (.lst (D.take n))) c1=AA (.lst (D.take n)):=Ab;generalize AN H2 c1 (.lst (D.take n))=H3 at s3 y⊢;refine⟨_,rfl,C2 rfl,λc2 hc2=>?_⟩;have s4:=Be (o:=.lst [.ref J]) hc2;have ec2:(AN H3 c2 (.lst [.ref J])) c2=AA (.lst [.ref J]):=Ab;generalize AN H3 c2 (.lst [.ref J])=H4 at s4 ec2⊢;refine⟨c1,c2,_,_,rfl,rfl,s4 _ _ y,ec2,by rw[EA];simp;(first|lia|omega),λc3 hc3=>?_⟩;have s5:=Be (o:=.lst (D.take n++[.ref J])) hc3;have ec3:(AN H4 c3 (.lst (D.take n++[.ref J]))) c3=AA (.lst (D.take n++[.ref J])):=Ab;generalize AN H4 c3 (.lst (D.take n++[.ref J]))=H5 at s5 ec3⊢;have S:=(s3.aa s4).aa s5;refine⟨_,rfl,_,rfl,_,rfl,R,D,rfl,Ai (S _ _ er),λc4 hc4=>?_⟩;rw[La D n (by(first|lia|omega))];have s6:=Be (o:=.lst (D.drop n)) hc4;have ec4:(AN H5 c4 (.lst (D.drop n))) c4=AA (.lst (D.drop n)):=Ab;generalize AN H5 c4 (.lst (D.drop n))=H6 at s6 ec4⊢;refine⟨c3,c4,_,_,rfl,rfl,s6 _ _ ec3,ec4,by rw[CA,EA,Ig];simp;(first|lia|omega),λZ hc5=>?_⟩;have s7:=Be (o:=.lst (D.take n++[.ref J]++D.drop n)) hc5;have N:(AN H6 Z (.lst (D.take n++[.ref J]++D.drop n))) Z=AA (.lst (D.take n++[.ref J]++D.drop n)):=Ab;have I:=S.aa (s6.aa s7);have hc50:H6 Z=AF:=hc5;have nex:Z∉ex:=λl=>by obtain⟨o,ho⟩:=hex Z l;have:=((s1.aa s2).aa (S.aa s6)) _ _ ho;rw[hc50]at this;cases this
    generalize AN H6 Z (.lst (D.take n++[.ref J]++D.drop n))=f at s7 N I⊢;have Y:=s2.aa I;have s07:=s1.aa Y;have sr7:=sr2.bc I;obtain⟨v,C⟩:=sr7.cn;have B:=Y _ _ ed;refine⟨_,rfl,x,_,v,_,_,rfl,C,T.du,T.cg,rfl,_,rfl,p,_,_,_,rfl,rfl,As (s07 _ _ g),i1,d,_,rfl,J3 (k:=CJ z) B (by(first|lia|omega)),?_⟩;have rw7:CH f (D.take n++[.ref J]++D.drop n) (F.take n++[[.inl t,.inl a]]++F.drop n):=by have h7:=hw.ab I.tp;exact Dk (Dk (MG n h7) (.cons ⟨J,rfl,Y _ _ O⟩ .nil)) (Ky n h7)
    have pm7:rY (F.take n++[([.inl t,.inl a]:List AL)]++F.drop n) (((L.filter λi:AU=>Ae (i.2.1=z))++[(t,z,a)]).map Fx):=by rw[C9,Ei];refine sV.trans ((nR _ ?_).trans (List.perm_append_singleton (Fx (t,z,a)) _).symm);show(F.take n++F.drop n).Perm _;rw[OU];exact pm
    have nr:∀b M,f b=AA (.lst M)->b≠d:=λb M e u=>by rw[u,B]at e;cases e
    refine k _ ((s07.x d).gf) ⟨⟨v,by rw[Ac (λu=>by rw[u,B]at C;cases C)];exact C⟩,_,Ab,ME nd',?_,λq hq'=>?_,λj hj=>?_⟩;. have:=RH G (CJ z) (.ref Z);rw[CA,X0];(first|lia|omega)
    . have tp:Bp f (AN f d (.dK (Bb G (CJ z) (.ref Z)))):=(Hh f).gf B λD=>by intro z;cases z
      rcases MD hq' with rfl|⟨l,hne⟩
      . refine⟨z,Z,_,_,rfl,nex,by rw[Ac (nr _ _ N)];exact N,rw7.ab tp,by simp,cF sd b1 b2,?_⟩;rw[Tc,yY rfl];exact pm7
      . refine AB λU=>?_;obtain⟨u,r',M,kss',rfl,h1,h2,h3,h4,h5,h6⟩:=(hq q l).ab (H':=f) (λb D _ e=>Y _ _ e) Y.tp;refine U ?_;try clear U
        refine⟨u,r',M,kss',rfl,h1,by rw[Ac (nr _ _ h2)];exact h2,h3.ab tp,h4,h5,?_⟩;rw[Tc,yX (λe=>hne (by show CJ u=_;rw[<-e]))];exact h6
    . rw[N3];rcases DA.mp hj with hj|hj
      . have:=hc j hj;split;.exact this
        .exact Gr _ this
      . rw[By.mp hj];split;.assumption
        .exact Ej _ (By.mpr rfl)
theorem Z7{kss:List (List AL)}(sd:DP kss)(hi:∀ks∈kss,∃t a,ks=[.inl t,.inl a]){lo:Int}(U:∀(i:Nat)ks,i<n->kss[i]?=AA ks->BB ks [.inl lo]=AH)(V:∀(i:Nat)ks,n<=i->kss[i]?=AA ks->BB ks [.inl lo]=AQ)(W:∀(i:Nat)ks,i<m->kss[i]?=AA ks->BB ks [.inl (D+1)]=AH)(Y:∀(i:Nat)ks,m<=i->kss[i]?=AA ks->BB ks [.inl (D+1)]=AQ):(kss.drop n).take (m-n)=kss.filter λks=>match ks with|.inl t::_=>Ae (lo<=t/\t<=D)|_=>AQ:=by
  have F:∀t a b:Int,BB [.inl t,.inl a] [.inl b]=Ae (t<b):=λt a b=>by
    show(if(CN t:AL)=CN b then AQ else Ae (t<b))=_;split
    . rename_i e;have e:=FI e;rw[e];exact(y4 (rR b)).symm
    .rfl
  refine Lz λi ks e=>?_;refine AB λJ=>?_;obtain⟨t,a,rfl⟩:=hi ks (DW e);refine J ?_;try clear J
  show Ae (lo<=t/\t<=D)=AH↔_;rw[y7];by_cases Z:i<n;. have:=U i _ Z e;rw[F,y7]at this;(first|lia|omega)
  . have q:=V i _ (by(first|lia|omega)) e;rw[F,zE]at q;by_cases z:i<m
    . have:=W i _ z e;rw[F,y7]at this;(first|lia|omega)
    . have:=Y i _ (by(first|lia|omega)) e;rw[F,zE]at this;(first|lia|omega)
noncomputable def dY(Y:CW):BF:=λZ H Q _=>S8 (λ(V:List AD)(x d:AD)(L:List AU)(z:AG)(U J:Int)=>Z=[.ref x,.str z,.int U,.int J]) (λV x d L _ _ _=>DE Y V H x d L) (λ_ _ _ L _ _ _=>L.length<=1000) (λ_ _ _ L z U J=>∀F r W D,Ap H F->H r=AF->F r=AA (.lst W)->CH F W D->DP D->D.Perm ((L.filter λi=>Ae (i.2.1=z/\U<=i.1/\i.1<=J)).map Fx)->Q (.ref r) F)
theorem bE{K:Ar}{j:CW}(T:Ba K mg j):A8 P w K mg base BM 2 j.og j.pz ["self","key","low","high"] (dY j):=by
  have D:=NM (P:=P) (w:=w) (base:=base) T;refine T.abz.ok Uo (λvs H Q E h=>?_) (λcdv A outer s H vs Q E y h=>?_)
  . refine AB λJ=>?_;obtain⟨ex,x,d,L,z,Y,Z,rfl,_⟩:=h;refine J ?_;try clear J
    rfl
  . refine AB λJ=>?_;obtain⟨ex,x,d,L,z,Y,Z,rfl,sr,hL,k⟩:=h;refine J ?_;try clear J
    have nd:=Uo.nd;refine⟨_,(Af (Bg (i:=4) nd rfl (BL rfl) (Rb y.u1 (Cq (AM 0) rfl) (AM 1) (Dl AW) ⟨rfl,rfl,rfl,rfl⟩)) (Ak (BE (Fl (Ho (K:=K)) (AM 4) (FF (Cj D (y.bb (by decide)) (by rfl) T.ve T.qv.kp T.ux .nil Bk (AJ (AM 4) (AJ (Cw (AJ (AM 2) AW)) AW)))) (FF (Cj D (y.bb (by decide)) (by rfl) T.ve T.qv.kp T.ux .nil Bk (AJ (AM 4) (AJ (Cw (AJ (AX D8 (AM 3) AR) AW)) AW)))))))),?_⟩;have sz:Aw=16777216:=DN;refine AB λJ=>?_;obtain⟨dx,eo⟩:=sr.cn;obtain⟨b,ed,nd',hk,hq,hc⟩:=id sr.ba;refine J ?_;try clear J
    refine⟨_,rfl,x,_,dx,_,_,rfl,eo,T.du,T.cg,rfl,d,rfl,.inl ⟨b,.inl ed⟩,_,rfl,CU _,λR t=>?_⟩;have s2:=Be (o:=.lst []) t;have O:(AN H R (.lst [])) R=AA (.lst []):=Ab;generalize AN H R (.lst [])=e at s2 O⊢;have sr2:=sr.bc s2;have N:=s2 _ _ ed;refine AB λJ=>?_;obtain⟨C,W,F,p,a,hw,I,B⟩:∃(r:AD)(W:List AE)(F:List (List AL)),(Bm b (.inr z)).getD (.ref R)=.ref r/\e r=AA (.lst W)/\CH e W F/\DP F/\F.Perm ((L.filter λi=>Ae (i.2.1=z)).map Fx):=by
      rcases sr2.aho z N with⟨M,l⟩|⟨r,W,F,M,_,a,hw,_,I,B⟩;.exact⟨R,[],[],by rw[M];rfl,O,Gq _,.nil,by rw[l];exact .nil⟩
      .exact⟨r,W,F,by rw[M];rfl,a,hw,I,B⟩
    refine J ?_;try clear J
    refine⟨_,Kj (k:=CJ z) N,?_⟩;rw[p];have hl:=Pt B;have hxl:=hw.dh;have one:∀m∈([CN Y]:List AL),B9 m=AH:=by intro m G;rw[By.mp G];rfl
    refine⟨_,rfl,_,rfl,_,rfl,C2 rfl,λf u=>?_⟩;have s3:=Be (o:=.tup [.int Y]) u;have S:(AN e f (.tup [.int Y])) f=AA (.tup ([CN Y].map Ax)):=Ab;generalize AN e f (.tup [.int Y])=H3 at s3 S⊢;refine⟨C,f,W,F,_,rfl,s3 _ _ a,NR (hw.ab s3.tp),S,NP (Js B) (by intro m G;rw[By.mp G];rfl),I,λn hn a1 a2=>⟨_,rfl,?_⟩⟩;refine⟨_,rfl,_,rfl,_,_,rfl,rfl,C2 rfl,λg v=>?_⟩;have s4:=Be (o:=.tup [.int (Z+1)]) v;have X:(AN H3 g (.tup [.int (Z+1)])) g=AA (.tup ([CN (Z+1)].map Ax)):=Ab;generalize AN H3 g (.tup [.int (Z+1)])=H4 at s4 X⊢;have U:=s3.aa s4;refine⟨C,g,W,F,_,rfl,U _ _ a,NR (hw.ab U.tp),X,NP (Js B) (by intro m G;rw[By.mp G];rfl),I,λm G b1 b2=>⟨_,rfl,?_⟩⟩;refine⟨C,W,rfl,Ai (U _ _ a),λr q=>?_⟩;rw[Zd W n m (by(first|lia|omega)) (by(first|lia|omega))];have c:=s2.aa U;have nr:=Z7 I (Js B) a1 a2 b1 b2;refine k _ r _ _ (c.gf q) (c.bh q) Ab (MG _ (Ky _ (hw.ab (U.gf q).tp))) ?_ ?_;. rw[nr];exact I.sublist MU
    . rw[nr];refine(B.filter _).trans (Xr ?_);rw[nY,OP];congr 1;refine MT λi _=>?_;show(Ae (Y<=i.1/\i.1<=Z)&&Ae (i.2.1=z))=_;by_cases M:i.2.1=z<;>by_cases l:Y<=i.1/\i.1<=Z<;>simp[M,l]
theorem Zs{D F:Type}{f:D->F}{l:List D}{i:Nat}{x:F}(h:(l.map f)[i]?=AA x):∃y,l[i]?=AA y/\f y=x:=by rw[Bx]at h;exact D2.mp h
theorem Zn[DecidableEq D](f:F->D)(L:List F)(ks:List D)(Z:ks.Nodup)(J:∀x∈L,f x∈ks)(U:∀k∈ks,∃x∈L,f x=k):ks.length<=L.length:=by
 rw[<-(WJ f L ks Z J).length_eq];have g:∀ks:List D,(∀k∈ks,∃x∈L,f x=k)->ks.length<=(ks.flatMap λk=>L.filter λx=>Ae (f x=k)).length:=λks=>by induction ks with |nil=>intro _;exact Al _|cons k ks Y=> intro h;rw[Fo,CA,F6];obtain⟨x,W,e⟩:=h k DR;have:0<(L.filter λx=>Ae (f x=k)).length:=n9 (Dy.mpr ⟨W,y3 e⟩);have:=Y λk V=>h k (ER _ V);(first|lia|omega)
 exact g ks U
theorem Zy[DecidableEq D]{q:D×AE}(h:q∈kvs)(F:q.1≠k):q∈Bb kvs k v:=by
 unfold Bb;split;.exact BO.mpr ⟨q,h,by rw[yX F]⟩
 .exact Gr _ h
theorem Pg[DecidableEq D]{q:D×AE}:q∈Cv kvs k↔q∈kvs/\q.1≠k:=by unfold Cv;rw[Dy,y7]
theorem NH(t a b:Int):BB [.inl t,.inl a] [.inl b]=Ae (t<b):=by
 show(if(CN t:AL)=CN b then AQ else Ae (t<b))=_;split
 . rename_i e;have e:=FI e;rw[e];exact(y4 (rR b)).symm
 .rfl
theorem Zg{kss:List (List AL)}(hi:∀ks∈kss,∃t a,ks=[.inl t,.inl a]){lo:Int}(D:∀(i:Nat)ks,i<n->kss[i]?=AA ks->BB ks [.inl lo]=AH)(F:∀(i:Nat)ks,n<=i->kss[i]?=AA ks->BB ks [.inl lo]=AQ):kss.drop n=kss.filter λks=>match ks with|.inl t::_=>Ae (lo<=t)|_=>AQ:=by
 have:=Lz (l:=kss) (n:=n) (m:=kss.length) (p:=λks=>match ks with|.inl t::_=>Ae (lo<=t)|_=>AQ) λi ks e=>by
  obtain⟨t,a,rfl⟩:=hi ks (DW e);have V:=(BN.mp e).1;show Ae (lo<=t)=AH↔_;rw[y7];by_cases J:i<n;. have:=D i _ J e;rw[NH,y7]at this;(first|lia|omega)
  . have U:=F i _ (by(first|lia|omega)) e;rw[NH,zE]at U;(first|lia|omega)
 rw[Df (by rw[Ig];exact Al _)]at this;exact this
noncomputable def Bz(D:Int)(L:List AU):List AU:=L.filter λi=>Ae (D<=i.1)
theorem NY(D:Int)(L:List AU):(Bz D L).length<=L.length:=FY _ _
theorem Zf{L:List AU}{kss:List (List AL)}(F:kss.Perm ((L.filter λi=>Ae (i.2.1=z)).map Fx))(e:kss.drop n=kss.filter λks=>match ks with|.inl t::_=>Ae (D<=t)|_=>AQ):(kss.drop n).Perm (((Bz D L).filter λi=>Ae (i.2.1=z)).map Fx):=by rw[e];refine(F.filter _).trans (Xr ?_);unfold Bz;rw[nY,OP,OP];congr 1;refine MT λi _=>?_;show(Ae (D<=i.1)&&Ae (i.2.1=z))=_;rw[Bool.and_comm]
noncomputable def dA(U:CW):BF:=λV H Q _=>M8 (λ(D:List AD)(x d:AD)(L:List AU)(J:Int)=>V=[.ref x,.int J]) (λD x d L _=>DE U D H x d L) (λD _ _ _ _=>(∀c∈D,∃o,H c=AA o)) (λ_ _ _ L _=>L.length<=1000) (λD x d L J=>∀F,Bs d H F->DE U D F x d (Bz J L)->Q .non F)
theorem aG{K:Ar}{ad:CW}(T:Ba K mg ad):A8 P w K mg base BM 2 ad.oe ad.pj ["self","least"] (dA ad):=by
  have G_ahead:=NM (P:=P) (w:=w) (base:=base) T;refine T.aby.ok Um (λvs H Q E h=>?_) (λcdv A outer s H vs Q E hr h=>?_)
  . refine AB λnG=>?_;obtain⟨ex,x,d,L,le,rfl,_⟩:=h;refine nG ?_;try clear nG
    rfl
  . refine AB λnG=>?_;obtain⟨ex,x,d,L,le,rfl,sr,hex,hL,k⟩:=h;refine nG ?_;try clear nG
    have nd:=Um.nd;refine⟨_,(Ak (Eh E4 rfl (Dr (K:=K) (Ia (Q5 (K:=K) rfl) (by rfl) T.qr LD (AJ (Cq (AM 0) rfl) AW))) (FE (i:=2) nd rfl (BL rfl)) (Af (Bg (i:=3) nd rfl (BL rfl) (Ib hr.u1 (Cq (AM 0) rfl) (AM 2) (λ_ _=>rfl))) (Af (Bg (i:=4) nd rfl (BL rfl) (Fl (Ho (K:=K)) (AM 3) (FF (Cj G_ahead (hr.bb (by decide)) (by rfl) T.ve T.qv.kp T.ux .nil Bk (AJ (AM 3) (AJ (Cw (AJ (AM 1) AW)) AW)))) GZ)) (Ak (CT (Bt N9 (DQ (Hi (K:=K)) (by rfl) T.gy GB (AJ (AM 4) AW)) AR (Br _)) (Ak (JS hr.u1 (Cq (AM 0) rfl) (AM 2) (AM 4) rfl)) (Ak (Fn (W0 (Cq (AM 0) rfl) (AM 2) ⟨rfl,rfl,rfl,rfl⟩))))))))),?_⟩;have sz:Aw=16777216:=DN;refine AB λnG=>?_;obtain⟨dx,eo⟩:=sr.cn;obtain⟨kvs,ed,nd',hk,hq,hc⟩:=id sr.ba;refine nG ?_;try clear nG
    refine⟨_,rfl,x,_,dx,_,_,rfl,eo,T.du,T.cg,rfl,d,kvs,rfl,ed,λl hl=>?_⟩;have s1:=Be (o:=.lst (kvs.map λp=>Ax p.1)) hl;have el:(AN H l (.lst (kvs.map λp=>Ax p.1))) l=AA (.lst (kvs.map λp=>Ax p.1)):=Ab;have nld:l≠d:=(BS ed hl).symm;generalize AN H l (.lst (kvs.map λp=>Ax p.1))=H1 at s1 el⊢;have ed1:=s1 _ _ ed;have tpd:∀{H'},Bs d H1 H'->Bp H1 H':=λsx=>sx.tp ed1 λxs=>by intro z;cases z
    have lst':∀{H':AI}{b:AD}{xs:List AE},Bs d H1 H'->H1 b=AA (.lst xs)->H' b=AA (.lst xs):=λsx e=>sx _ _ (λz=>by rw[z,ed1]at e;cases e) e;refine⟨l,rfl,⟨_,Ai el⟩,IT (K:=K) (xs:=kvs.map λp=>Ax p.1) (λn σ H'=>Sv (λ(o2 o3 o4:Option AE)(kvs':List (AL×AE))=>σ=[AA (.ref x),AA (.int le),o2,o3,o4]) (λ_ _ _ _=>Bs d H1 H') (λ_ _ _ kvs'=>H' d=AA (.dK kvs')) (λ_ _ _ kvs'=>(kvs'.map (·.1)).Nodup) (λ_ _ _ kvs'=>kvs'.length<=1000) (λ_ _ _ kvs'=>(∀q∈kvs',(q.1∈(kvs.map (·.1)).take n/\Jl ex H' (Bz le L) q)\/(q.1∉(kvs.map (·.1)).take n/\q∈kvs))) (λ_ _ _ kvs'=>(∀q∈kvs,q.1∉(kvs.map (·.1)).take n->q∈kvs')) (λ_ _ _ kvs'=>∀i∈Bz le L,(CJ i.2.1:AL)∈(kvs.map (·.1)).take n->(CJ i.2.1:AL)∈kvs'.map (·.1))) ⟨AF,AF,AF,kvs,rfl,λb o _ e=>e,ed1,nd',by(first|lia|omega),λq hq=>.inr ⟨by simp,hq⟩,λq hq _=>hq,λi _ hi=>by simp at hi⟩ (λn σ H' _ hh=>by obtain⟨_,_,_,_,_,sx,_⟩:=hh;exact Ai (lst' sx el)) ?_ ?_⟩
    . intro n y σ H2 hy hI;refine AB λnG=>?_;obtain⟨o2,o3,o4,kvs',rfl,sx2,ed2,nd2,lk2,a2,b2,c2⟩:=hI;obtain⟨q0,hq0,rfl⟩:=Zs hy;obtain⟨z,r0,xs0,kss0,e0,_⟩:=hq q0 (DW hq0);have hk0:(kvs.map (·.1))[n]?=AA (.inr z):=by rw[Bx,hq0,e0];rfl
      have hnl:n<(kvs.map (·.1)).length:=(BN.mp hk0).1;have hnot:(CJ z:AL)∉(kvs.map (·.1)).take n:=λhm=>by obtain⟨i,hi,e⟩:=F7.mp hm;rw[EA]at hi;rw[MW]at e;have e2:=(BN.mp hk0).2;have:=(Xz nd').mp (e.trans e2.symm);(first|lia|omega)
      have tk:(kvs.map (·.1)).take (n+1)=(kvs.map (·.1)).take n++[.inr z]:=by rw[Ds,hk0];rfl
      have mem1:q0∈kvs':=b2 q0 (DW hq0) (by rw[e0];exact hnot);have hkm:(CJ z:AL)∈kvs'.map (·.1):=BO.mpr ⟨q0,mem1,by rw[e0]⟩;obtain⟨v,hv⟩:=MS hkm;have hvk:((CJ z:AL),v)∈kvs:=by
        rcases a2 _ (Hq hv)with⟨h1,_⟩|⟨_,h2⟩;.exact absurd h1 hnot
        .exact h2
      obtain⟨z',r,xs,kss,e1,hrx,er,hw,hne,sd,pm⟩:=hq _ hvk;cases e1;refine nG ?_;try clear nG
      have er2:=lst' sx2 (s1 _ _ er);have hw2:=(hw.ab s1.tp).ab (tpd sx2);have eo2:=sx2 _ _ (λz=>by rw[z,ed]at eo;cases eo) (s1 _ _ eo);have yv:Ax q0.1=.str z:=by rw[e0];rfl
      rw[yv];have hl':=Pt pm;have hxl:=hw.dh;refine⟨_,rfl,x,_,dx,_,_,rfl,eo2,T.du,T.cg,rfl,_,rfl,d,_,rfl,(by have:=Kj (k:=CJ z) ed2;rw[hv]at this;exact this),?_⟩;refine⟨_,rfl,_,rfl,_,rfl,C2 rfl,λp hp=>?_⟩;have s3:=Be (o:=.tup [.int le]) hp;have ep:(AN H2 p (.tup [.int le])) p=AA (.tup ([CN le].map Ax)):=Ab;generalize AN H2 p (.tup [.int le])=H3 at s3 ep⊢;refine⟨r,p,xs,kss,_,rfl,s3 _ _ er2,NR (hw2.ab s3.tp),ep,NP (Js pm) (by intro m hm;rw[By.mp hm];rfl),sd,λm hm b1 b2'=>⟨_,rfl,?_⟩⟩;have dr:=Zg (Js pm) b1 b2';have pm2:=Zf pm dr;have sd2:DP (kss.drop m):=sd.sublist (sF _ _);refine⟨r,xs,rfl,Ai (s3 _ _ er2),λc hc'=>?_⟩;rw[La xs m (by(first|lia|omega))];have s4:=Be (o:=.lst (xs.drop m)) hc';have ec:(AN H3 c (.lst (xs.drop m))) c=AA (.lst (xs.drop m)):=Ab;have nex:c∉ex:=λhm=>by
        obtain⟨o,ho⟩:=hex c hm;by_cases z:c=d;.rw[z,s3 _ _ ed2]at hc';cases hc'
        .rw[s3 _ _ (sx2 _ _ z (s1 _ _ ho))]at hc';cases hc'
      generalize AN H3 c (.lst (xs.drop m))=H4 at s4 ec⊢;have s34:=s3.aa s4;have ed4:=s34 _ _ ed2;have eo4:=s34 _ _ eo2;have sx4:Bs d H1 H4:=sx2.aa (s34.x d);have hw4:CH H4 (xs.drop m) (kss.drop m):=Ky m (hw2.ab s34.tp);have ncd:c≠d:=λz=>by rw[z,ed4]at ec;cases ec
      have tpu:∀{o:Bh},Bp H4 (AN H4 d o):=(Hh H4).gf ed4 λxs=>by intro z;cases z
      have row':∀{o:Bh}{q:AL×AE},Jl ex H2 (Bz le L) q->Jl ex (AN H4 d o) (Bz le L) q:=λh=>h.ab (λb xs _ e=>by rw[Ac (λz=>by rw[z,ed2]at e;cases e)];exact s34 _ _ e) (s34.tp.aa tpu);refine⟨_,rfl,c,_,rfl,.inl (Ai ec),_,_,rfl,rfl,_,rfl,G6 (λe=>?_) λe=>?_⟩
      . have hpos:0<(kss.drop m).length:=by rw[<-hw4.dh];have:((xs.drop m).length:Int)>0:=e;(first|lia|omega)
        refine⟨_,rfl,_,rfl,x,_,dx,_,_,rfl,eo4,T.du,T.cg,rfl,_,rfl,d,_,rfl,J3 (k:=CJ z) ed4 (by(first|lia|omega)),?_⟩;have ke:(Bb kvs' (CJ z) (.ref c)).map (·.1)=kvs'.map (·.1):=by rw[N3,yY hkm]
        refine⟨_,_,_,Bb kvs' (CJ z) (.ref c),rfl,sx4.gf,Ab,ME nd2,?_,λq hq'=>?_,λq hq' hn=>?_,λi hi hm=>?_⟩;. have:=yZ LA ke;rw[A0,A0]at this;(first|lia|omega)
        . rw[tk];rcases MD hq' with rfl|⟨h1,h2⟩;.exact .inl ⟨Ej _ (By.mpr rfl),z,c,_,_,rfl,nex,by rw[Ac ncd];exact ec,hw4.ab tpu,List.ne_nil_of_length_pos hpos,sd2,pm2⟩
          . rcases a2 q h1 with⟨h3,h4⟩|⟨h3,h4⟩;.exact .inl ⟨Gr _ h3,row' h4⟩
            .exact .inr ⟨λhm=>by rcases DA.mp hm with hm|hm;exact h3 hm;exact h2 (By.mp hm),h4⟩
        . rw[tk]at hn;exact Zy (b2 q hq' λh=>hn (Gr _ h)) λh=>hn (Ej _ (By.mpr h))
        . rw[ke];rw[tk]at hm;rcases DA.mp hm with hm|hm;.exact c2 i hi hm
          .rw[By.mp hm];exact hkm
      . have hz:kss.drop m=[]:=Xu (by rw[<-hw4.dh];have:¬((xs.drop m).length:Int)>0:=e;(first|lia|omega));refine⟨_,rfl,x,_,dx,_,_,rfl,eo4,T.du,T.cg,rfl,d,rfl,.inl ⟨_,.inl ed4⟩,_,rfl,kvs',.inr z,_,ed4,rfl,hv,?_⟩;refine⟨_,_,_,Cv kvs' (CJ z),rfl,sx4.gf,Ab,RN nd2,CL (WE ..) lk2,λq hq'=>?_,λq hq' hn=>?_,λi hi hm=>?_⟩
        . rw[tk];obtain⟨h1,h2⟩:=Pg.mp hq';rcases a2 q h1 with⟨h3,h4⟩|⟨h3,h4⟩;.exact .inl ⟨Gr _ h3,row' h4⟩
          .exact .inr ⟨λhm=>by rcases DA.mp hm with hm|hm;exact h3 hm;exact h2 (By.mp hm),h4⟩
        . rw[tk]at hn;exact Pg.mpr ⟨b2 q hq' λh=>hn (Gr _ h),λh=>hn (Ej _ (By.mpr h))⟩
        . rw[tk]at hm;by_cases ez:(CJ i.2.1:AL)=CJ z
          . rw[hz]at pm2;have:=pm2.length_eq;have hmem:Fx i∈((Bz le L).filter λi=>Ae (i.2.1=z)).map Fx:=BO.mpr ⟨i,Dy.mpr ⟨hi,y3 (Kc ez)⟩,rfl⟩;have:=n9 hmem;simp_all
          . rcases DA.mp hm with hm|hm
            . refine AB λnG=>?_;obtain⟨q,hq1,hq2⟩:=BO.mp (c2 i hi hm);refine nG ?_;try clear nG
              exact BO.mpr ⟨q,Pg.mpr ⟨hq1,by rw[hq2];exact ez⟩,hq2⟩
            .exact absurd (By.mp hm) ez
    . intro σ H2 hI;refine AB λnG=>?_;obtain⟨o2,o3,o4,kvs',rfl,sx2,ed2,nd2,lk2,a2,b2,c2⟩:=hI;refine nG ?_;try clear nG
      have all:(kvs.map (·.1)).take (kvs.map λp=>Ax p.1).length=kvs.map (·.1):=Df (by rw[A0,A0];exact Al _);rw[all]at a2 c2;have a3:∀q∈kvs',Jl ex H2 (Bz le L) q:=λq hq'=>by
        rcases a2 q hq' with⟨_,h⟩|⟨h1,h2⟩;.exact h
        .exact absurd (BO.mpr ⟨q,h2,rfl⟩) h1
      have c3:∀i∈Bz le L,(CJ i.2.1:AL)∈kvs'.map (·.1):=λi hi=>c2 i hi (hc i (Dy.mp hi).1);refine k _ ((s1.x d).aa sx2) ⟨⟨dx,sx2 _ _ (λz=>by rw[z,ed]at eo;cases eo) (s1 _ _ eo)⟩,kvs',ed2,nd2,?_,a3,c3⟩;have:=Zn (λi:AU=>(CJ i.2.1:AL)) (Bz le L) (kvs'.map (·.1)) nd2 c3 λk hk=>by
        obtain⟨q,hq',rfl⟩:=BO.mp hk;obtain⟨z,r,xs,kss,rfl,_,_,_,hne,_,pm⟩:=a3 q hq';have hlen:0<(((Bz le L).filter λi=>Ae (i.2.1=z)).map Fx).length:=by rw[<-pm.length_eq];exact List.length_pos_iff.mpr hne
        rw[A0]at hlen;obtain⟨i,hi⟩:=List.exists_mem_of_length_pos hlen;obtain⟨h1,h2⟩:=Dy.mp hi;exact⟨i,h1,by show(CJ i.2.1:AL)=CJ z;rw[y6 h2]⟩
      rw[A0]at this;exact this
noncomputable def Vf(D:CW):BF:=λJ H Q _=>∃x F,J=[.ref x]/\H x=AA (.ins D.ff F [])/\∀d,H d=AF->Q .non (AN (AN H d (.dK [])) x (.ins D.ff F [("rows",.ref d)]))
theorem bP{K:Ar}{F:CW}(T:Ba K Y F):A8 P w K Y base BM 1 F.df F.gp ["self"] (Vf F):=by
  refine T.xn.ok Ul (λZ H Q E h=>?_) (λW A J s H Z Q E q h=>?_)
  . refine AB λD=>?_;obtain⟨x,U,rfl,_⟩:=h;refine D ?_;try clear D
    rfl
  . refine AB λD=>?_;obtain⟨x,U,rfl,e,k⟩:=h;refine D ?_;try clear D
    have z:=Ul.nd;refine⟨_,(Ak (FW (AM 0) MJ rfl)),?_⟩;intro d V;exact⟨_,rfl,x,_,U,[],rfl,by rw[Ac (BS e V)];exact e,T.du,T.cg,by decide,k d V⟩
theorem T7{W:CW}(Y:H x=AF)(U:H D=AF)(A:D≠x)(k:∀d H',Ap H H'->H d=AF->DE W ex H' x d []->Q .non H'):Vf W [.ref x] (AN (AN H D (.own x)) x (.ins W.ff D [])) Q E:=by
 refine⟨x,D,rfl,Ab,λd F=>?_⟩;have J:x≠d:=BS Ab F;rw[Ac J.symm]at F;have V:D≠d:=λz=>by rw[z,Ab]at F;cases F
 rw[Ac V.symm]at F;refine k d _ (λb o e=>?_) F ⟨⟨D,Ab⟩,[],by rw[Ac J.symm];exact Ab,.nil,Al _,λq B=>(by cases B),λi Z=>by cases Z⟩;rw[Ac (BS e Y),Ac (BS e F),Ac (BS e Y),Ac (BS e U)];exact e
section
variable{ad:CW}
structure C0(ad:CW)(ex:List AD)(H:AI)(j sl x0 x1 d0 d1:AD)(wi:Int)(L0 L1:List AU):Prop where
 cn:∃dx,H j=AA (.ins ad.dm dx [("within",.int wi),("sides",.ref sl)])cq:H sl=AA (.lst [.ref x0,.ref x1])s0:DE ad ex H x0 d0 L0
 s1:DE ad ex H x1 d1 L1
 ne:d0≠d1
 aln:sl∉ex
end
theorem C0.bc(h:C0 q ex H j W Y Z J U wi D F)(s:Ap H H'):C0 q ex H' j W Y Z J U wi D F:=by
 refine AB λV=>?_;obtain⟨⟨z,e⟩,A,C,r1,n,B⟩:=h;refine V ?_;try clear V
 exact⟨⟨z,s _ _ e⟩,s _ _ A,C.bc s,r1.bc s,n,B⟩
theorem C0.aag(h:C0 E ex H j A B C W Y wi J U)(e:H c=AA (.lst xs))(F:c∈ex):C0 E ex (AN H c o) j A B C W Y wi J U:=by
 refine AB λq=>?_;obtain⟨⟨G,D⟩,I,K,r1,n,Z⟩:=h;refine q ?_;try clear q
 exact⟨⟨G,by rw[Ac (λz=>by rw[z,e]at D;cases D)];exact D⟩,by rw[Ac (λz=>Z (by rw[z];exact F))];exact I,K.aag e F,r1.aag e F,n,Z⟩
noncomputable def dQ(U:CW):BF:=λq H Q _=>O6 (λ(D:List AD)(j Y:AD)(J:Int)=>q=[.ref j,.int J]) (λ_ j Y _=>H j=AA (.ins U.dm Y [])) (λD _ _ _=>(∀c∈D,∃o,H c=AA o)) (λD j _ J=>∀F Z z A V W,Bs j H F->H V=AF->H W=AF->C0 U D F j Z z A V W J [] []->Q .non F)
theorem aV{K:Ar}{ad:CW}(T:Ba K mg ad):A8 P w K mg base BM 3 ad.de ad.gn ["self","within"] (dQ ad):=by
  have G_Side___init__:=bP (P:=P) (w:=w) (base:=base) T;refine T.xk.ok Ui (λvs H Q E h=>?_) (λcdv A outer s H vs Q E hr h=>?_)
  . refine AB λnG=>?_;obtain⟨ex,j,dx,wi,rfl,_⟩:=h;refine nG ?_;try clear nG
    rfl
  . refine AB λnG=>?_;obtain⟨ex,j,dx,wi,rfl,ej,hex,k⟩:=h;refine nG ?_;try clear nG
    have nd:=Ui.nd;refine⟨_,(Af (FW (AM 0) (AM 1) rfl) (Ak (FW (AM 0) (Dl (AJ (W2 T.aex G_Side___init__ (hr.bb (by decide)) (by rfl) T.aeu T.ni .nil Bk) (AJ (W2 T.aex G_Side___init__ (hr.bb (by decide)) (by rfl) T.aeu T.ni .nil Bk) AW))) rfl))),?_⟩;refine⟨_,rfl,_,rfl,j,_,dx,[],rfl,ej,T.dq,T.cy,by decide,?_⟩;generalize hH:AN H j (Bh.ins ad.dm dx (E2 "within" (AE.int wi) []))=H1;have x1':Bs j H H1:=by rw[<-hH];exact((Cu H).x j).gf
    have ej1:H1 j=AA (.ins ad.dm dx [("within",.int wi)]):=by rw[<-hH];exact Ab
    clear hH;intro x0 dx0 hx0 hdx0 hn0;refine T7 (ex:=ex) hx0 hdx0 hn0 λd0 H2 s2 hd0 r0=>⟨rfl,?_⟩;intro x1 dx1 hx1 hdx1 hn1;refine T7 (ex:=ex) hx1 hdx1 hn1 λd1 H3 s3 hd1 r1=>⟨rfl,?_⟩;refine⟨C2 rfl,λsl hsl=>?_⟩;have s4:=Be (o:=.lst [.ref x0,.ref x1]) hsl;have esl:(AN H3 sl (.lst [.ref x0,.ref x1])) sl=AA (.lst [.ref x0,.ref x1]):=Ab;have nsl:sl∉ex:=λhm=>by
      obtain⟨o,ho⟩:=hex sl hm;by_cases z:sl=j;.rw[z,(s2.aa s3) _ _ ej1]at hsl;cases hsl
      .rw[(s2.aa s3) _ _ (x1' _ _ z ho)]at hsl;cases hsl
    generalize AN H3 sl (.lst [.ref x0,.ref x1])=H4 at s4 esl⊢;have s14:=(s2.aa s3).aa s4;have ej4:=s14 _ _ ej1;refine⟨_,rfl,j,_,dx,_,rfl,ej4,T.dq,T.ig,(by show 1<1000;decide),?_⟩;have r04:=r0.bc (s3.aa s4);have r14:=r1.bc s4;have up:∀{x d:AD},x≠j->DE ad ex H4 x d []->DE ad ex (AN H4 j (.ins ad.dm dx [("within",.int wi),("sides",.ref sl)])) x d []:=λhx r=>by refine r.ab (λC dx fs e=>by rw[Ac hx];exact e) (λkvs e=>by rw[Ac (λz=>by rw[z,ej4]at e;cases e)];exact e) (λb xs _ e=>by rw[Ac (λz=>by rw[z,ej4]at e;cases e)];exact e) ((Hh H4).gf ej4 λxs=>by intro z;cases z)
    have nx0:x0≠j:=λz=>by rw[z,ej1]at hx0;cases hx0
    have nx1:x1≠j:=λz=>by rw[z,s2 _ _ ej1]at hx1;cases hx1
    have nd01:d0≠d1:=λz=>by obtain⟨kvs,e,_⟩:=r0.ba;rw[z,hd1]at e;cases e
    have fr:∀{d:AD},H1 d=AF->H d=AF:=λ{d}hd=>by cases q:H d with|none=>rfl|some o=>
        by_cases z:d=j;.rw[z,ej1]at hd;cases hd
        .rw[x1' _ _ z q]at hd;cases hd
    have hd11:H1 d1=AF:=s2.bh hd1;exact k _ sl x0 x1 d0 d1 ((x1'.aa (s14.x j)).gf) (fr hd0) (fr hd11) ⟨⟨dx,Ab⟩,by rw[Ac (λz=>by rw[z,ej4]at esl;cases esl)];exact esl,up nx0 r04,up nx1 r14,nd01,nsl⟩
theorem DE.mh(h:DE Z ex H x d L)(Y:H l=AF):DE Z (l::ex) H x d L:=by
 refine AB λD=>?_;obtain⟨o,V,A,n,E,q,c⟩:=h;refine D ?_;try clear D
 refine⟨o,V,A,n,E,λp C=>?_,c⟩;refine AB λD=>?_;obtain⟨z,r,G,U,e,B,W,F⟩:=q p C;refine D ?_;try clear D
 exact⟨z,r,G,U,e,λJ=>by rcases CB.mp J with rfl|J;rw[W]at Y;cases Y;exact B J,W,F⟩
theorem DE.vi(h:DE V (l::ex) H x d L):DE V ex H x d L:=by
 refine AB λD=>?_;obtain⟨o,U,W,n,B,q,c⟩:=h;refine D ?_;try clear D
 refine⟨o,U,W,n,B,λp A=>?_,c⟩;refine AB λD=>?_;obtain⟨z,r,C,J,e,Z,F⟩:=q p A;refine D ?_;try clear D
 exact⟨z,r,C,J,e,λY=>Z (ER _ Y),F⟩
theorem C0.vi(h:C0 q (l::ex) H j W Y Z J U wi D F):C0 q ex H j W Y Z J U wi D F:=by
 refine AB λV=>?_;obtain⟨o,z,C,r1,n,B⟩:=h;refine V ?_;try clear V
 exact⟨o,z,C.vi,r1.vi,n,λA=>B (ER _ A)⟩
noncomputable def GQ(i j:Int):Int:=if i<j then j else i
noncomputable def Jq(s:Int)(i j:AU):List AL:=[.inl (GQ i.1 j.1),.inr i.2.1,.inl (if s=0 then i.2.2-j.2.2 else j.2.2-i.2.2)]
noncomputable def dW:BF:=λF H Q _=>S5 (λ(s:Int)(p q:AD)(i:AU)(t a:Int)=>F=[.int s,.ref p,.ref q]) (λ_ p _ i _ _=>H p=AA (.tup ((DT i).map Ax))) (λ_ _ q _ t a=>H q=AA (.tup [.int t,.int a])) (λs _ _ i t a=>∀D r,Ap H D->D r=AA (.tup ((Jq s i (t,i.2.1,a)).map Ax))->Q (.ref r) D)
theorem bB{K:Ar}{C:CW}(T:Ba K O C):A8 P w K O base BM 1 C.tw C.um ["side","item","pair"] dW:=by
  refine T.yb.ok U4 (λS H Q E h=>?_) (λN A Z s H S Q E X h=>?_)
  . refine AB λF=>?_;obtain⟨s,p,q,i,t,a,rfl,_⟩:=h;refine F ?_;try clear F
    rfl
  . refine AB λF=>?_;obtain⟨R,p,q,⟨B,z,U⟩,t,a,rfl,D,J,k⟩:=h;refine F ?_;try clear F
    have D:H p=AA (.tup [.int B,.str z,.int U]):=D;have M:=U4.nd;refine⟨_,(Af (Bg (i:=3) M rfl (BL rfl) (OC (Bt C7 (AM 0) AR (Br _)) (BC (CD (K:=K)) (AM 1) AR (λ_ _=>rfl)) (BC (CD (K:=K)) (AM 2) AR (λ_ _=>rfl)))) (Af (Bg (i:=4) M rfl (BL rfl) (OC (Bt C7 (AM 0) AR (Br _)) (BC (CD (K:=K)) (AM 2) AR (λ_ _=>rfl)) (BC (CD (K:=K)) (AM 1) AR (λ_ _=>rfl)))) (Ak (BE (Cw (AJ (DQ (Vz rfl) (by rfl) T.afc YE (AJ (BC (CD (K:=K)) (AM 1) AR (λ_ _=>rfl)) (AJ (BC (CD (K:=K)) (AM 2) AR (λ_ _=>rfl)) AW))) (AJ (BC (CD (K:=K)) (AM 1) AR (λ_ _=>rfl)) (AJ (AX F5 (AM 3) (AM 4)) AW)))))))),?_⟩;have G:∀{a b c:AE},Cb [a,b,c] 0=AA a:=Aq (j:=0) rfl;have i1:∀{a b c:AE},Cb [a,b,c] 1=AA b:=Aq (j:=1) rfl;have i2:∀{a b c:AE},Cb [a,b,c] 2=AA c:=Aq (j:=2) rfl;have I:∀{a b:AE},Cb [a,b] 0=AA a:=Aq (j:=0) rfl;have L:∀{a b:AE},Cb [a,b] 1=AA b:=Aq (j:=1) rfl;have fin:∀{x y:Int},x-y=(if R=0 then U-a else a-U)->∀r,H r=AF->Q (.ref r) (AN H r (.tup [.int (if B<t then t else B),.str z,.int (x-y)])):=λ{x y}e r Y=>by refine k _ r ((Cu H).gf Y) ?_;rw[Ab,e];rfl
    refine⟨_,rfl,rfl,_,rfl,Dp (λe=>?_) λe=>?_⟩;. refine⟨_,rfl,p,_,_,_,rfl,rfl,As D,i2,_,rfl,rfl,_,rfl,Dp (λ_=>?_) λW=>absurd e W⟩;exact⟨_,rfl,q,_,_,_,rfl,rfl,As J,L,_,rfl,p,_,_,_,rfl,rfl,As D,G,_,rfl,q,_,_,_,rfl,rfl,As J,I,_,_,rfl,_,rfl,p,_,_,_,rfl,rfl,As D,i1,_,rfl,_,rfl,_,_,rfl,rfl,C2 rfl,fin (by rw[yY e])⟩
    . refine⟨_,rfl,q,_,_,_,rfl,rfl,As J,L,_,rfl,rfl,_,rfl,Dp (λW=>absurd W e) λ_=>?_⟩;exact⟨_,rfl,p,_,_,_,rfl,rfl,As D,i2,_,rfl,p,_,_,_,rfl,rfl,As D,G,_,rfl,q,_,_,_,rfl,rfl,As J,I,_,_,rfl,_,rfl,p,_,_,_,rfl,rfl,As D,i1,_,rfl,_,rfl,_,_,rfl,rfl,C2 rfl,fin (by rw[yX e])⟩
noncomputable def Ep(s wi:Int)(i:AU)(D:List AU):List (List AL):=(D.filter λj=>Ae (j.2.1=i.2.1/\i.1-wi<=j.1/\j.1<=i.1+wi)).map (Jq s i)
noncomputable def c9(B:CW):BF:=λE H Q _=>Sh (λ(U:List AD)(j q z A W Y p:AD)(Z s:Int)(D F:List AU)(i:AU)=>E=[.ref j,.int s,.ref p]) (λU j q z A W Y _ Z _ D F _=>C0 B U H j q z A W Y Z D F) (λ_ _ _ _ _ _ _ _ _ s _ _ _=>(s=0\/s=1)) (λU _ _ _ _ _ _ _ _ _ _ _ _=>(∀c∈U,∃o,H c=AA o)) (λ_ _ _ _ _ _ _ p _ _ _ _ i=>H p=AA (.tup ((DT i).map Ax))) (λ_ _ _ _ _ _ _ _ _ _ D _ _=>D.length<=1000) (λ_ _ _ _ _ _ _ _ _ _ _ F _=>F.length<=1000) (λU j q z A W Y _ Z s D F i=>∀V r C J,Bs (if s=0 then W else Y) H V->C0 B (r::U) V j q z A W Y Z (if s=0 then D++[i]else D) (if s=0 then F else F++[i])->H r=AF->V r=AA (.lst C)->CH V C J->DP J->J.Perm (Ep s Z i (if s=0 then F else D))->Q (.ref r) V)
theorem aF{K:Ar}{ad:CW}(T:Ba K mg ad):A8 P w K mg base BM 3 ad.nz ad.oz ["self","side","item"] (c9 ad):=by
  have G_Side_near:=bE (P:=P) (w:=w) (base:=base) T;have G_Side_put:=bJ (P:=P) (w:=w) (base:=base) T;have G_met_item:=bB (P:=P) (w:=w) (base:=base) T;refine T.abw.ok Uj (λvs H Q E h=>?_) (λcdv A outer s H vs Q E hr h=>?_)
  . refine AB λnG=>?_;obtain⟨ex,j,sl,x0,x1,d0,d1,p,wi,sd,L0,L1,i,rfl,_⟩:=h;refine nG ?_;try clear nG
    rfl
  . refine AB λnG=>?_;obtain⟨ex,j,sl,x0,x1,d0,d1,p,wi,sd,L0,L1,i,rfl,jr,hs,hex,ep,l0,l1,k⟩:=h;refine nG ?_;try clear nG
    have nd:=Uj.nd;refine⟨_,(Af (Bg (i:=3) nd rfl (BL rfl) (Gp (BC (DL (K:=K)) (Cq (AM 0) rfl) (AX F5 AR (AM 1)) (λ_ _=>rfl)) T.du T.abi G_Side_near (hr.bb (by decide)) T.acq .nil Bk (AJ (BC (CD (K:=K)) (AM 2) AR (λ_ _=>rfl)) (AJ (AX F5 (BC (CD (K:=K)) (AM 2) AR (λ_ _=>rfl)) (Cq (AM 0) rfl)) (AJ (AX D8 (BC (CD (K:=K)) (AM 2) AR (λ_ _=>rfl)) (Cq (AM 0) rfl)) AW))))) (Af (Fn (Gp (BC (DL (K:=K)) (Cq (AM 0) rfl) (AM 1) (λ_ _=>rfl)) T.du T.adg G_Side_put (hr.bb (by decide)) T.adv .nil Bk (AJ (AM 2) AW))) (Ak (BE (DQ (V2 (K:=K)) (by rfl) T.qu R8 (AJ (MI (osc:=A2 NT) [("side",1),("item",2)] rfl (Dr (K:=K) (AM 3)) rfl rfl (by decide+kernel) (by decide+kernel) (by decide+kernel) ⟨rfl,rfl,rfl,rfl,trivial⟩ rfl (by decide+kernel) (λ_ _ _ _=>G8) (λ_ _ _ _=>(Cj G_met_item (hr.bb (by decide)) (by rfl) T.aej T.yb.kp T.aea .nil Bk (AJ (AM 1) (AJ (AM 2) (AJ (AM 0) AW)))))) AW)))))),?_⟩;have sz:Aw=16777216:=DN;refine AB λnG=>?_;obtain⟨dx,ej⟩:=jr.cn;obtain⟨t,z,a⟩:=i;have ep:H p=AA (.tup [.int t,.str z,.int a]):=ep;have i0:∀{a b c:AE},Cb [a,b,c] 0=AA a:=Aq (j:=0) rfl;have i1:∀{a b c:AE},Cb [a,b,c] 1=AA b:=Aq (j:=1) rfl;obtain⟨xo,do',Lo,xs,ds,Ls,at1,at2,ro,rs,nds,lo',ls',fin⟩:∃(xo do':AD)(Lo:List AU)(xs ds:AD)(Ls:List AU),Cb [AE.ref x0,.ref x1] (1-sd)=AA (.ref xo)/\Cb [AE.ref x0,.ref x1] sd=AA (.ref xs)/\DE ad ex H xo do' Lo/\DE ad ex H xs ds Ls/\do'≠ds/\Lo.length<=1000/\Ls.length<=1000/\∀H' r xs' kss,Bs ds H H'->DE ad (r::ex) H' xs ds (Ls++[(t,z,a)])->DE ad (r::ex) H' xo do' Lo->H r=AF->H' r=AA (.lst xs')->CH H' xs' kss->DP kss->kss.Perm (Ep sd wi (t,z,a) Lo)->Q (.ref r) H':=by
      have ob:∀{H':AI}{d:AD}{kvs:List (AL×AE)},Bs d H H'->H d=AA (.dK kvs)->(∃dx,H' j=AA (.ins ad.dm dx [("within",.int wi),("sides",.ref sl)]))/\H' sl=AA (.lst [.ref x0,.ref x1]):=λsx e=>⟨⟨dx,sx _ _ (λz=>by rw[z,e]at ej;cases ej) ej⟩,sx _ _ (λz=>by have:=jr.cq;rw[z,e]at this;cases this) jr.cq⟩;have nsl:∀{r:AD},H r=AF->sl∉r::ex:=λhr0 hm=>by
        rcases CB.mp hm with rfl|hm;.rw[jr.cq]at hr0;cases hr0
        .exact jr.aln hm
      rcases hs with rfl|rfl
      . refine⟨x1,d1,L1,x0,d0,L0,Aq (j:=1) rfl,Aq (j:=0) rfl,jr.s1,jr.s0,jr.ne.symm,l1,l0,λH' r xs' kss sx r1 r2 hr0=>?_⟩;obtain⟨kvs,e,_⟩:=jr.s0.ba;obtain⟨o1,o2⟩:=ob sx e;exact k H' r xs' kss sx ⟨o1,o2,r1,r2,jr.ne,nsl hr0⟩ hr0
      . refine⟨x0,d0,L0,x1,d1,L1,Aq (j:=0) rfl,Aq (j:=1) rfl,jr.s0,jr.s1,jr.ne,l0,l1,λH' r xs' kss sx r1 r2 hr0=>?_⟩;obtain⟨kvs,e,_⟩:=jr.s1.ba;obtain⟨o1,o2⟩:=ob sx e;exact k H' r xs' kss sx ⟨o1,o2,r2,r1,jr.ne,nsl hr0⟩ hr0
    obtain⟨dxo,eo⟩:=ro.cn;refine nG ?_;try clear nG
    refine⟨_,rfl,j,_,dx,_,_,rfl,ej,T.dq,T.ig,rfl,_,rfl,_,_,rfl,rfl,sl,_,_,_,rfl,rfl,Ai jr.cq,at1,xo,dxo,_,rfl,eo,by rfl,?_⟩;refine⟨_,rfl,p,_,_,_,rfl,rfl,As ep,i1,_,rfl,p,_,_,_,rfl,rfl,As ep,i0,_,rfl,j,_,dx,_,_,rfl,ej,T.dq,T.cy,rfl,_,_,rfl,rfl,_,rfl,p,_,_,_,rfl,rfl,As ep,i0,_,rfl,j,_,dx,_,_,rfl,ej,T.dq,T.cy,rfl,_,_,rfl,rfl,?_⟩;refine⟨ex,xo,do',Lo,z,t-wi,t+wi,rfl,ro,lo',λH1 rm xm km s1 hrm em hwm sdm pmm=>?_⟩;have rs1:=rs.bc s1;obtain⟨dxs,es⟩:=rs1.cn;refine⟨_,rfl,j,_,dx,_,_,rfl,s1 _ _ ej,T.dq,T.ig,rfl,_,rfl,sl,_,_,_,rfl,rfl,Ai (s1 _ _ jr.cq),at2,xs,dxs,_,rfl,es,by rfl,?_⟩;refine⟨_,rfl,ex,xs,ds,p,Ls,(t,z,a),rfl,rs1,(λc hc=>let⟨o,ho⟩:=hex c hc;⟨o,s1 _ _ ho⟩),s1 _ _ ep,ls',λH2 sx2 r2=>?_⟩;refine AB λnG=>?_;obtain⟨kvs,ekv,_⟩:=rs1.ba;refine nG ?_;try clear nG
    have em2:H2 rm=AA (.lst xm):=sx2 _ _ (λz=>by rw[z,ekv]at em;cases em) em;have tp2:Bp H1 H2:=sx2.tp ekv λxs=>by intro z;cases z
    have hwm2:=hwm.ab tp2;have ro2:=(ro.bc s1).adi sx2 ekv nds;have ep2:=tp2 _ _ (s1 _ _ ep);have lm:km.length<=1000:=by rw[pmm.length_eq,A0];exact CL (FY _ _) lo'
    have lxm:=hwm.dh;refine⟨_,rfl,rm,rfl,⟨_,Ai em2⟩,?_⟩;refine G5 (K:=K) (xs:=xm) (λn τ acc H'=>(∃o,τ=[o,AA (.int sd),AA (.ref p)])/\Ap H2 H'/\CH H' acc ((km.take n).map λks=>match ks with|[.inl t',.inl a']=>Jq sd (t,z,a) (t',z,a')|_=>[])) (by(first|lia|omega)) ⟨⟨AF,rfl⟩,Cu _,Gq _⟩ (λn τ acc H'⟨_,s',_⟩=>Ai (s' _ _ em2)) ?_ ?_
    . intro n y τ acc H3 R1 hy _ hI k1;refine AB λnG=>?_;obtain⟨⟨o,rfl⟩,s3,hw3⟩:=hI;obtain⟨b,kk,rfl,ek,eb⟩:=hwm2.at hy;obtain⟨t',a',rfl⟩:=Js pmm kk (DW ek);refine nG ?_;try clear nG
      refine⟨_,rfl,_,rfl,_,rfl,sd,p,b,(t,z,a),t',a',rfl,s3 _ _ ep2,s3 _ _ eb,λH4 r s4 er=>k1 _ _ _ ⟨⟨_,rfl⟩,s3.aa s4,?_⟩⟩;rw[Ds,ek,C9];exact(hw3.ab s4.tp).adm er
    . intro τ acc H3 la hI D hD;refine AB λnG=>?_;obtain⟨_,s3,hw3⟩:=hI;refine nG ?_;try clear nG
      rw[Df (by(first|lia|omega))]at hw3;have s4:=Be (o:=.lst acc) hD;have eD:(AN H3 D (.lst acc)) D=AA (.lst acc):=Ab;generalize AN H3 D (.lst acc)=H4 at s4 eD⊢;have hw4:=hw3.ab s4.tp;have pmm2:rY (km.map λks=>match ks with|[.inl t',.inl a']=>Jq sd (t,z,a) (t',z,a')|_=>[]) (Ep sd wi (t,z,a) Lo):=by refine(pmm.map _).trans (Xr ?_);rw[EO];rfl
      refine⟨D,acc,_,rfl,Ai eD,hw4.aez (sh:=[AH,AQ,AH]) (by simp) (λks hk=>?_),λl qs hl pq sq=>?_⟩
      . refine AB λnG=>?_;obtain⟨i',_,rfl⟩:=BO.mp (pmm2.mem_iff.mp hk);refine nG ?_;try clear nG
        rfl
      . obtain⟨g1,g2⟩:=hw4.ajl pq;have s5:=s4.gf (o:=.lst (qs.map (·.1))) hl;have s25:=s3.aa s5;have hl0:H l=AF:=by
          have h2:=(s3.aa s4).bh hl;have hne:l≠ds:=λz=>by obtain⟨kv2,e2,_⟩:=r2.ba;rw[z,e2]at h2;cases h2
          cases q:H l with|none=>rfl|some o=>rw[sx2 _ _ hne (s1 _ _ q)]at h2;cases h2
        exact fin _ l _ _ (((s1.x ds).aa sx2).aa (s25.x ds)) (((r2.bc (s3.aa s4)).mh hl).bc (Be hl)) (((ro2.bc (s3.aa s4)).mh hl).bc (Be hl)) hl0 Ab (g1.ab (Be hl).tp) sq (g2.trans pmm2)
theorem Z6(a b:Int):GQ a b=GQ b a:=by unfold GQ;split<;>split<;>(first|lia|omega)
noncomputable def E7(D F:AD)(H H':AI):Prop:=∀b o,b≠D->b≠F->H b=AA o->H' b=AA o
theorem E7.aa(a:E7 D F H J)(b:E7 D F J U):E7 D F H U:=λc o n m e=>b c o n m (a c o n m e)
theorem UT(s:Ap H H')(D F:AD):E7 D F H H':=λb o _ _ e=>s b o e
theorem UU(s:Bs D H H'):E7 D F H H':=λb o n _ e=>s b o n e
theorem UW(s:Bs D H H'):E7 F D H H':=λb o _ n e=>s b o n e
theorem C0.ado(h:C0 B ex H j q z A F J wi V W):(∃k0,H F=AA (.dK k0))/\∃D,H J=AA (.dK D):=by
 refine AB λU=>?_;obtain⟨k0,Y,_⟩:=h.s0.ba;obtain⟨D,Z,_⟩:=h.s1.ba;refine U ?_;try clear U
 exact⟨⟨k0,Y⟩,D,Z⟩
theorem C0.y(h:C0 C ex H j q A B D F wi V W)(s:E7 D F H H')(e:H b=AA o)(J:∀kvs,o≠.dK kvs):H' b=AA o:=by
 refine AB λU=>?_;obtain⟨⟨E,Y⟩,G,Z⟩:=h.ado;refine U ?_;try clear U
 exact s b o (λz=>by rw[z,Y]at e;exact J _ (CM e).symm) (λz=>by rw[z,Z]at e;exact J _ (CM e).symm) e
theorem C0.akv(h:C0 q ex H j W Y Z D F wi J U)(s:E7 D F H H'):Bp H H':=λp A e=>h.y s e λV=>by intro z;cases z
theorem C0.adi(h:C0 B ex H j S T X Z q wi L M)(g:C0 B ex H E U W Y F J V M0 M1)(s:E7 Z q H H')(G:F≠Z/\F≠q)(I:J≠Z/\J≠q):C0 B ex H' E U W Y F J V M0 M1:=by
 have k:∀{b:AD}{o:Bh},H b=AA o->(∀D,o≠.dK D)->H' b=AA o:=λe P=>h.y s e P;refine AB λK=>?_;obtain⟨⟨A,e⟩,N,R,r1,n,Q⟩:=g;refine K ?_;try clear K
 refine⟨⟨A,k e (by intro D z;cases z)⟩,k N (by intro D z;cases z),?_,?_,n,Q⟩;.exact R.ab (λC A O e=>k e (by intro D z;cases z)) (λD e=>s _ _ G.1 G.2 e) (λb a _ e=>k e (by intro D z;cases z)) (h.akv s)
 .exact r1.ab (λC A O e=>k e (by intro D z;cases z)) (λD e=>s _ _ I.1 I.2 e) (λb a _ e=>k e (by intro D z;cases z)) (h.akv s)
theorem C0.alr(h:C0 V ex H j Z J q D W wi A U)(s:Bs D H H')(r:DE V ex H' J D M):C0 V ex H' j Z J q D W wi M U:=by
 refine AB λY=>?_;obtain⟨B,e⟩:=h.cn;obtain⟨C,F,_⟩:=h.s0.ba;refine Y ?_;try clear Y
 exact⟨⟨B,s _ _ (λz=>by rw[z,F]at e;cases e) e⟩,s _ _ (λz=>by have:=h.cq;rw[z,F]at this;cases this) h.cq,r,h.s1.adi s F h.ne.symm,h.ne,h.aln⟩
theorem C0.als(h:C0 V ex H j Z q J W D wi U A)(s:Bs D H H')(r:DE V ex H' J D M):C0 V ex H' j Z q J W D wi U M:=by
 refine AB λY=>?_;obtain⟨B,e⟩:=h.cn;obtain⟨C,F,_⟩:=h.s1.ba;refine Y ?_;try clear Y
 exact⟨⟨B,s _ _ (λz=>by rw[z,F]at e;cases e) e⟩,s _ _ (λz=>by have:=h.cq;rw[z,F]at this;cases this) h.cq,h.s0.adi s F h.ne,r,h.ne,h.aln⟩
theorem C0.amh{I:CW}{ex:List AD}{H H':AI}{j C E G D F:AD}{wi:Int}{Y Z M0 M1:List AU}(h:C0 I ex H' j C E G D F wi Y Z)(s:E7 D F H H')(J:∀c∈ex,∃o,H c=AA o):∀c∈ex,∃o,H' c=AA o:=λc A=>by
  refine AB λU=>?_;obtain⟨⟨K,q⟩,L,z⟩:=h.ado;refine U ?_;try clear U
  by_cases V:c=D;.exact⟨_,by rw[V];exact q⟩
  . by_cases W:c=F;.exact⟨_,by rw[W];exact z⟩
    . obtain⟨o,B⟩:=J c A;exact⟨o,s _ _ V W B⟩
noncomputable def dP(B:CW):BF:=λC H Q _=>Sg (λ(U:List AD)(j Z q z W Y:AD)(V D:Int)(F J:List AU)=>C=[.ref j,.int D]) (λU j Z q z W Y V _ F J=>C0 B U H j Z q z W Y V F J) (λU _ _ _ _ _ _ _ _ _ _=>(∀c∈U,∃o,H c=AA o)) (λ_ _ _ _ _ _ _ _ _ F _=>F.length<=1000) (λ_ _ _ _ _ _ _ _ _ _ J=>J.length<=1000) (λU j Z q z W Y V D F J=>∀A,E7 W Y H A->C0 B U A j Z q z W Y V (Bz (D-V) F) (Bz (D-V) J)->Q .non A)
theorem aU{K:Ar}{L:CW}(T:Ba K mg L):A8 P w K mg base BM 3 L.oa L.ph ["self","now"] (dP L):=by
  have F:=aG (P:=P) (w:=w) (base:=base) T;refine T.abx.ok Uk (λvs H Q E h=>?_) (λv A p s H vs Q E hr h=>?_)
  . refine AB λJ=>?_;obtain⟨O,j,r,B,C,M,N,R,now,G,I,rfl,_⟩:=h;refine J ?_;try clear J
    rfl
  . refine AB λJ=>?_;obtain⟨O,j,r,B,C,M,N,R,now,G,I,rfl,g,d,l0,l1,k⟩:=h;refine J ?_;try clear J
    have nd:=Uk.nd;refine⟨_,(Ak (Eh E4 rfl (Dr (K:=K) (Cq (AM 0) rfl)) (FE (i:=2) nd rfl (BL rfl)) (Ak (Fn (Gp (AM 2) T.du T.abh F (hr.bb (by decide)) T.acp .nil Bk (AJ (AX F5 (AM 1) (Cq (AM 0) rfl)) AW)))))),?_⟩;have sz:Aw=16777216:=DN;obtain⟨x,ej⟩:=g.cn;refine⟨_,rfl,j,_,x,_,_,rfl,ej,T.dq,T.ig,rfl,r,rfl,⟨_,Ai g.cq⟩,IT (K:=K) (xs:=[.ref B,.ref C]) (λn S X=>∃m:Option AE,S=[AA (.ref j),AA (.int now),m]/\E7 M N H X/\C0 L O X j r B C M N R (if n=0 then G else Bz (now-R) G) (if n<=1 then I else Bz (now-R) I)) ⟨AF,rfl,λb o _ _ e=>e,g⟩ (λn S X _ hh=>by obtain⟨_,_,_,l⟩:=hh;exact Ai l.cq) ?_ ?_⟩
    . intro n y S t f c;refine AB λJ=>?_;obtain⟨m,rfl,z,D⟩:=c;have hn:n=0\/n=1:=by have:=(BN.mp f).1;simp at this;(first|lia|omega)
      obtain⟨Y,Z⟩:=D.cn;refine J ?_;try clear J
      have U:=D.amh (M0:=[]) (M1:=[]) z d;rcases hn with rfl|rfl
      . refine AB λJ=>?_;cases f;obtain⟨W,a⟩:=D.s0.cn;refine J ?_;try clear J
        refine⟨_,rfl,B,W,_,rfl,a,by rfl,_,rfl,_,rfl,j,_,Y,_,_,rfl,Z,T.dq,T.cy,rfl,_,_,rfl,rfl,O,B,M,G,_,rfl,D.s0,U,l0,λu q r2=>⟨_,rfl,z.aa (UU q),D.alr q r2⟩⟩
      . refine AB λJ=>?_;cases f;obtain⟨W,a⟩:=D.s1.cn;refine J ?_;try clear J
        refine⟨_,rfl,C,W,_,rfl,a,by rfl,_,rfl,_,rfl,j,_,Y,_,_,rfl,Z,T.dq,T.cy,rfl,_,_,rfl,rfl,O,C,N,I,_,rfl,D.s1,U,l1,λu q r2=>⟨_,rfl,z.aa (UW q),D.als q r2⟩⟩
    . intro S t c;refine AB λJ=>?_;obtain⟨m,rfl,z,D⟩:=c;refine J ?_;try clear J
      exact k _ z D
inductive AV where|take(n k:AG)|only(n a:AG)(lo hi:Int)|turn(n a:AG)(f g:Int)|both(n a b:AG)|join(n a b:AG)(wi:Int)|gap(n a s:AG)(m:Int)|each(n a s:AG)(sz st:Int)
noncomputable def AV.agw:AV->List AL|AV.take n k=>[.inr "take",.inr n,.inr k]|AV.only n a F D=>[.inr "only",.inr n,.inr a,.inl F,.inl D]|AV.turn n a f g=>[.inr "turn",.inr n,.inr a,.inl f,.inl g]|AV.both n a b=>[.inr "both",.inr n,.inr a,.inr b]|AV.join n a b V=>[.inr "join",.inr n,.inr a,.inr b,.inl V]|AV.gap n a s m=>[.inr "gap",.inr n,.inr a,.inr s,.inl m]|AV.each n a s U J=>[.inr "each",.inr n,.inr a,.inr s,.inl U,.inl J]
noncomputable def AV.gx:AV->AG|AV.take ..=>"take"|AV.only ..=>"only"|AV.turn ..=>"turn"|AV.both ..=>"both"|AV.join ..=>"join"|AV.gap ..=>"gap"|AV.each ..=>"each"
noncomputable def AV.nm:AV->AG|AV.take n _|AV.only n _ _ _|AV.turn n _ _ _|AV.both n _ _|AV.join n _ _ _|AV.gap n _ _ _|AV.each n _ _ _ _=>n
noncomputable def AV.bj:AV->List AG|AV.take ..=>[]|AV.only _ a _ _|AV.turn _ a _ _|AV.gap _ a _ _|AV.each _ a _ _ _=>[a]|AV.both _ a b|AV.join _ a b _=>[a,b]
noncomputable def AV.bw:AV->Bool|AV.gap ..|AV.each ..=>AH|_=>AQ
noncomputable def AV.akc:AV->Int|AV.both ..|AV.join ..=>4|_=>3
noncomputable def AV.alp:AV->Bool|AV.both ..|AV.join ..=>AH|_=>AQ
noncomputable def Cp(H:AI)(p:AD)(s:AV):Prop:=H p=AA (.tup (s.agw.map Ax))
theorem Cp.tp(h:Cp H p s)(t:Bp H H'):Cp H' p s:=t _ _ h
noncomputable def GO:List AE:=[.str "both",.str "join"]
noncomputable def Fv:List AE:=[.str "each",.str "gap"]
theorem Cp.gx{K:Ar}{s:AV}(h:Cp H p s):B8 K H p (s.agw.map Ax)/\Cb (s.agw.map Ax) 0=AA (.str s.gx)/\Cb (s.agw.map Ax) 1=AA (.str s.nm):=by refine⟨As h,?_⟩;cases s<;>exact⟨Aq (j:=0) rfl,Aq (j:=1) rfl⟩
theorem fQ : ∀ st : AV, D7 (.str st.gx) GO = st.alp
  | .take .. => (by decide +kernel : D7 (.str "take") GO = false)
  | .only .. => (by decide +kernel : D7 (.str "only") GO = false)
  | .turn .. => (by decide +kernel : D7 (.str "turn") GO = false)
  | .both .. => (by decide +kernel : D7 (.str "both") GO = true)
  | .join .. => (by decide +kernel : D7 (.str "join") GO = true)
  | .gap .. => (by decide +kernel : D7 (.str "gap") GO = false)
  | .each .. => (by decide +kernel : D7 (.str "each") GO = false)
theorem Qr : ∀ st : AV, D7 (.str st.gx) Fv = st.bw
  | .take .. => (by decide +kernel : D7 (.str "take") Fv = false)
  | .only .. => (by decide +kernel : D7 (.str "only") Fv = false)
  | .turn .. => (by decide +kernel : D7 (.str "turn") Fv = false)
  | .both .. => (by decide +kernel : D7 (.str "both") Fv = false)
  | .join .. => (by decide +kernel : D7 (.str "join") Fv = false)
  | .gap .. => (by decide +kernel : D7 (.str "gap") Fv = true)
  | .each .. => (by decide +kernel : D7 (.str "each") Fv = true)
noncomputable def AV.no:AV->Nat|.take ..=>0|.only ..=>1|.turn ..=>2|.both ..=>3|.join ..=>4|.gap ..=>5|.each ..=>6
noncomputable def Lm:List AG:=["take","only","turn","both","join","gap","each"]
theorem Vn(st:AV):Lm[st.no]?=AA st.gx:=by cases st<;>rfl
theorem fP{st:AV}(Y:Lm[i]?=AA z)(e:st.gx=z):st.no=i:=by
 have Z:Lm.Nodup:=by decide+kernel
 have h:=Vn st;rw[e]at h;refine AB λV=>?_;obtain⟨J,D⟩:=BN.mp h;obtain⟨U,F⟩:=BN.mp Y;refine V ?_;try clear V
 have W:=E3.mp Z;rcases X6 st.no i with q|q|q;.exact absurd (D.trans F.symm) (W _ _ J U q)
 .exact q
 .exact absurd (F.trans D.symm) (W _ _ U J q)
theorem fO{st:AV}(D:Lm[i]?=AA z)(e:st.no≠i):st.gx≠z:=λq=>e (fP D q)
theorem HP{st:AV}{i:Nat}{z:AG}{A B:Prop}(D:Lm[i]?=AA z)(F:st.no=i->A)(J:st.no≠i->B):if Ae (AE.str st.gx=AE.str z)=AH then A else B:=by
  by_cases h:st.no=i
  . have e:st.gx=z:=by have:=Vn st;rw[h,D]at this;exact(CM this).symm
    rw[yY (by rw[e];exact y3 rfl)];exact F h
  . rw[yX (by rw[y7];exactλq=>fO D h (AE.str.inj q))];exact J h
noncomputable def dD:BF:=λD H Q _=>Jm (λ(p:AD)(s:AV)=>D=[.ref p]) (λp s=>Cp H p s) (λ_ s=>Q (.int s.akc) H)
theorem bD{K:Ar}{J:CW}(T:Ba K z J):A8 P w K z base BM 1 J.oj J.qe ["step"] dD:=by
  refine T.wm.ok U6 (λB H Q E h=>?_) (λW A U s H B Q E G h=>?_)
  . refine AB λD=>?_;obtain⟨p,s,rfl,_⟩:=h;refine D ?_;try clear D
    rfl
  . refine AB λD=>?_;obtain⟨p,F,rfl,e,k⟩:=h;refine D ?_;try clear D
    have I:=U6.nd;refine⟨_,(Ak (BE (OC (Bt (RU (K:=K)) (BC (CD (K:=K)) (AM 0) AR (λ_ _=>rfl)) (OB (v:=.ref J.vg) (by rfl) T.agv rfl) (by with_unfolding_all rfl)) AR AR))),?_⟩;refine AB λD=>?_;obtain⟨Y,Z,C⟩:=e.gx (K:=K);refine D ?_;try clear D
    refine⟨_,rfl,p,_,_,_,rfl,rfl,Y,Z,_,GO,rfl,.inr (T.ahm H),rfl,rfl,_,rfl,?_⟩;have V:=fQ F;refine IV (λq=>?_) λq=>?_
    . have q:D7 (.str F.gx) GO=AH:=q;rw[V]at q;cases F<;>first|exact k|cases q
    . have q:D7 (.str F.gx) GO=AQ:=q;rw[V]at q;cases F<;>first|exact k|cases q
noncomputable def dZ:BF:=λD H Q _=>Jm (λ(p:AD)(s:AV)=>D=[.ref p]) (λp s=>Cp H p s) (λ_ s=>Q (.str s.nm) H)
theorem bC{K:Ar}{J:CW}(T:Ba K Y J):A8 P w K Y base BM 1 J.vp J.vz ["step"] dZ:=by
  refine T.zz.ok U5 (λZ H Q E h=>?_) (λU A F s H Z Q E z h=>?_)
  . refine AB λD=>?_;obtain⟨p,s,rfl,_⟩:=h;refine D ?_;try clear D
    rfl
  . refine AB λD=>?_;obtain⟨p,C,rfl,e,k⟩:=h;refine D ?_;try clear D
    have B:=U5.nd;refine⟨_,(Ak (BE (BC (CD (K:=K)) (AM 0) AR (λ_ _=>rfl)))),?_⟩;refine AB λD=>?_;obtain⟨V,q,W⟩:=e.gx (K:=K);refine D ?_;try clear D
    exact⟨_,rfl,p,_,_,_,rfl,rfl,V,W,k⟩
noncomputable def eU:BF:=λD H Q _=>Jm (λ(p:AD)(s:AV)=>D=[.ref p]) (λp s=>Cp H p s) (λ_ s=>Q (.bl s.bw) H)
theorem UD{K:Ar}{F:CW}(T:Ba K q F):A8 P w K q base BM 1 F.oi F.qd ["step"] eU:=by
  refine T.nq.ok Uy (λz H Q E h=>?_) (λV A J s H z Q E C h=>?_)
  . refine AB λD=>?_;obtain⟨p,s,rfl,_⟩:=h;refine D ?_;try clear D
    rfl
  . refine AB λD=>?_;obtain⟨p,U,rfl,e,k⟩:=h;refine D ?_;try clear D
    have G:=Uy.nd;refine⟨_,(Ak (BE (MH (RU (K:=K)) (BC (CD (K:=K)) (AM 0) AR (λ_ _=>rfl)) (OB (v:=.ref F.qw) (by rfl) T.afl rfl) (by with_unfolding_all rfl)))),?_⟩;refine AB λD=>?_;obtain⟨W,Y,B⟩:=e.gx (K:=K);refine D ?_;try clear D
    have Z:=Qr U;refine⟨_,rfl,p,_,_,_,rfl,rfl,W,Y,_,Fv,rfl,.inr (T.aga H),rfl,rfl,?_⟩;show Q (.bl (D7 (.str U.gx) Fv)) H;rw[Z];exact k
noncomputable def dH:BF:=λF H Q _=>Jm (λ(p:AD)(s:AV)=>F=[.ref p]) (λp s=>Cp H p s) (λ_ s=>∀l D,Ap H D->H l=AF->D l=AA (.lst (s.bj.map AE.str))->Q (.ref l) D)
theorem aL{K:Ar}{C:CW}(T:Ba K N C):A8 P w K N base BM 2 C.vo C.vy ["step"] dH:=by
  have D:=bD (P:=P) (w:=w) (base:=base) T;refine T.zy.ok Uv (λR H Q E h=>?_) (λI A z s H R Q E M h=>?_)
  . refine AB λU=>?_;obtain⟨p,s,rfl,_⟩:=h;refine U ?_;try clear U
    rfl
  . refine AB λU=>?_;obtain⟨p,F,rfl,e,k⟩:=h;refine U ?_;try clear U
    have X:=Uv.nd;refine⟨_,(Af (CT (Bt C7 (BC (CD (K:=K)) (AM 0) AR (λ_ _=>rfl)) DB (Br _)) (Ak (BE (Dl AW))) C1) (Ak (BE (Ia (Nu (K:=K)) (by rfl) T.qr LD (AJ (Fl (Rk (K:=K)) (AM 0) (FF AR) (FF (Cj D (M.bb (by decide)) (by rfl) T.adb T.wm.kp T.acs .nil Bk (AJ (AM 0) AW)))) AW))))),?_⟩;refine AB λU=>?_;obtain⟨G,L,S⟩:=e.gx (K:=K);refine U ?_;try clear U
    refine⟨_,rfl,p,_,_,_,rfl,rfl,G,L,rfl,_,rfl,HP (i:=0) rfl (λB=>?_) λB=>?_⟩
    . have W:F.bj=[]:=by cases F<;>first|rfl|cases B
      exact⟨CU _,λl J=>k l _ ((Cu H).gf J) J (by rw[W];exact Ab)⟩
    . have W:Ee (F.agw.map Ax) (AA 2) (AA F.akc)=F.bj.map AE.str:=by cases F<;>first|rfl|exact absurd rfl B
      refine⟨_,rfl,_,rfl,_,rfl,p,F,rfl,e,_,rfl,p,_,rfl,G,?_,λO Z=>⟨O,_,rfl,.inr (As Ab),λl J=>k l _ (((Cu H).gf Z).gf J) (by have Y:=J;rw[Ac (BS Ab Y).symm]at J;exact J) ?_⟩⟩
      . rintro⟨q,_⟩;have J:3<=(F.agw.map Ax).length:=by cases F<;>exact C2 rfl
        have a:=(ZO (F.agw.map Ax).length 0 2).symm.trans q;(first|lia|omega)
      .rw[Ab,W]
theorem C0.mh(h:C0 B ex H j q z A V W wi J U)(D:H l=AF):C0 B (l::ex) H j q z A V W wi J U:=by
 refine AB λZ=>?_;obtain⟨o,Y,E,r1,n,C⟩:=h;refine Z ?_;try clear Z
 exact⟨o,Y,E.mh D,r1.mh D,n,λF=>by rcases CB.mp F with rfl|F;rw[Y]at D;cases D;exact C F⟩
noncomputable def El(H:AI)(c:AD)(L:List AU):Prop:=∃D,H c=AA (.lst D)/\CH H D (L.map DT)
theorem El.ab(h:El H c L)(k:∀xs,H c=AA (.lst xs)->H' c=AA (.lst xs))(t:Bp H H'):El H' c L:=by
 refine AB λD=>?_;obtain⟨xs,e,w⟩:=h;refine D ?_;try clear D
 exact⟨xs,k _ e,w.ab t⟩
noncomputable abbrev B7:=Int×AG×AG×Int
noncomputable def NC(e:B7):List AL:=[.inl e.1,.inr e.2.1,.inr e.2.2.1,.inl e.2.2.2]
noncomputable def Gh(e:B7):AU:=(e.1,e.2.2.1,e.2.2.2)
noncomputable def HM(H:AI)(p:AD)(e:B7):Prop:=H p=AA (.tup ((NC e).map Ax))
theorem HU(h:(AN H p o) l=AF):H l=AF:=by have D:l≠p:=(BS Ab h).symm;rw[Ac D]at h;exact h
noncomputable def HS(k:AG)(e:B7):List AU:=if e.2.1=k then[Gh e]else[]
noncomputable def eR:BF:=λF H Q _=>Sx (λ(p q:AD)(n k:AG)(e:B7)=>F=[.ref p,.ref q]) (λp _ n k _=>Cp H p (.take n k)) (λ_ q _ _ e=>HM H q e) (λ_ _ _ k e=>∀l D,Ap H D->H l=AF->El D l (HS k e)->Q (.ref l) D)
theorem bU{K:Ar}{B:CW}(T:Ba K M B):A8 P w K M base BM 1 B.aaq B.aax ["step","event"] eR:=by
  refine T.aep.ok VJ (λN H Q E h=>?_) (λG A Z s H N Q E O h=>?_)
  . refine AB λJ=>?_;obtain⟨p,q,n,k,e,rfl,_⟩:=h;refine J ?_;try clear J
    rfl
  . refine AB λJ=>?_;obtain⟨p,q,n,U,⟨t,V,z,D⟩,rfl,e,L,k⟩:=h;refine J ?_;try clear J
    have R:=VJ.nd;refine⟨_,(Ak (BE (OC (Bt C7 (BC (CD (K:=K)) (AM 1) AR (λ_ _=>rfl)) (BC (CD (K:=K)) (AM 0) AR (λ_ _=>rfl)) (Br _)) (Dl (AJ (Cw (AJ (BC (CD (K:=K)) (AM 1) AR (λ_ _=>rfl)) (AJ (BC (CD (K:=K)) (AM 1) AR (λ_ _=>rfl)) (AJ (BC (CD (K:=K)) (AM 1) AR (λ_ _=>rfl)) AW)))) AW)) (Dl AW)))),?_⟩;have I:B8 K H p _:=As e;have W:B8 K H q _:=As L;refine⟨_,rfl,q,_,_,_,rfl,rfl,W,Aq (j:=1) rfl,_,rfl,p,_,_,_,rfl,rfl,I,Aq (j:=2) rfl,rfl,_,rfl,N1 (λh=>?_) λh=>?_⟩
    . refine⟨_,rfl,q,_,_,_,rfl,rfl,W,Aq (j:=0) rfl,_,rfl,q,_,_,_,rfl,rfl,W,Aq (j:=2) rfl,_,rfl,q,_,_,_,rfl,rfl,W,Aq (j:=3) rfl,C2 rfl,λC Y=>⟨C2 rfl,λl F=>k l _ (((Cu H).gf Y).gf F) (HU F) ⟨[.ref C],Ab,?_⟩⟩⟩;show CH _ [.ref C] ((HS U (t,V,z,D)).map DT);rw[show HS U (t,V,z,D)=[(t,z,D)]from yY h];exact(Gq _).adm (ks:=DT (t,z,D)) (by rw[Ac (BS Ab F)];exact Ab)
    . refine⟨CU _,λl F=>k l _ ((Cu H).gf F) F ⟨[],Ab,?_⟩⟩;show CH _ [] ((HS U (t,V,z,D)).map DT);rw[show HS U (t,V,z,D)=[]from yX h];exact Gq _
noncomputable def I9(f g:Int)(i:AU):AU:=(i.1,i.2.1,i.2.2*f+g)
noncomputable def eY:BF:=λF H Q _=>S9 (λ(p q:AD)(n a:AG)(f g:Int)(i:AU)=>F=[.ref p,.ref q]) (λp _ n a f g _=>Cp H p (.turn n a f g)) (λ_ _ _ _ f _ _=>(-100<=f/\f<=100)) (λ_ q _ _ _ _ i=>H q=AA (.tup ((DT i).map Ax))) (λ_ _ _ _ f g i=>∀r D,Ap H D->D r=AA (.tup ((DT (I9 f g i)).map Ax))->Q (.ref r) D)
theorem bX{K:Ar}{O:CW}(T:Ba K X O):A8 P w K X base BM 1 O.yl O.yx ["step","item"] eY:=by
  refine T.acj.ok VN (λc H Q E h=>?_) (λS A I s H c Q E r h=>?_)
  . refine AB λU=>?_;obtain⟨p,q,n,a,f,g,i,rfl,_⟩:=h;refine U ?_;try clear U
    rfl
  . refine AB λU=>?_;obtain⟨p,q,n,a,f,g,⟨t,z,D⟩,rfl,e,⟨l,m⟩,Y,k⟩:=h;refine U ?_;try clear U
    have u:=VN.nd;refine⟨_,(Ak (BE (AX (Wq (K:=K)) (AX (Wq (K:=K)) (Fl (Rk (K:=K)) (AM 1) GZ (FF AR)) (Cw (AJ (AX D8 (AX Eg (BC (CD (K:=K)) (AM 1) AR (λ_ _=>rfl)) (BC (CD (K:=K)) (AM 0) AR (λ_ _=>rfl))) (BC (CD (K:=K)) (AM 0) AR (λ_ _=>rfl))) AW))) (Fl (Rk (K:=K)) (AM 1) (FF AR) GZ)))),?_⟩;have d:B8 K H p _:=As e;have b:B8 K H q _:=As Y;refine⟨_,rfl,_,rfl,q,_,rfl,b,(by show¬(BW 3 0 AF=0/\BW 3 3 (AA 2)=3);decide),λL Z=>?_⟩;have s1:=(Cu H).gf (o:=.tup (Ee ((DT (t,z,D)).map Ax) AF (AA 2))) Z;refine⟨_,rfl,q,_,_,_,rfl,rfl,As (s1 _ _ Y),Aq (j:=2) rfl,_,rfl,p,_,_,_,rfl,rfl,As (s1 _ _ e),Aq (j:=3) rfl,_,_,rfl,rfl,.inr ⟨by(first|lia|omega),by(first|lia|omega)⟩,_,rfl,p,_,_,_,rfl,rfl,As (s1 _ _ e),Aq (j:=4) rfl,_,_,rfl,rfl,C2 rfl,λM F=>?_⟩;have s2:=s1.gf (o:=.tup [AE.int (D*f+g)]) F;have C:L≠M:=BS Ab F;refine⟨L,M,[AE.int t,AE.str z],[AE.int (D*f+g)],rfl,rfl,As (by rw[Ac C];exact Ab),As Ab,(by intro h;cases h),C2 rfl,(λh=>by cases h),λ_ W B=>?_⟩;have s3:=s2.gf (o:=.tup [AE.int t,AE.str z,AE.int (D*f+g)]) B;refine⟨_,rfl,_,rfl,q,_,rfl,As (s3 _ _ Y),(by show¬(BW 3 0 (AA 3)=0/\BW 3 3 AF=3);decide),λN J=>?_⟩;have s4:=s3.gf (o:=.tup (Ee ((DT (t,z,D)).map Ax) (AA 3) AF)) J;have G:W≠N:=BS Ab J;have R:(AN (AN (AN (AN H L (.tup [AE.int t,AE.str z])) M (.tup [AE.int (D*f+g)])) W (.tup [AE.int t,AE.str z,AE.int (D*f+g)])) N (.tup [])) W=AA (.tup [AE.int t,AE.str z,AE.int (D*f+g)]):=by rw[Ac G];exact Ab
    exact⟨W,N,[AE.int t,AE.str z,AE.int (D*f+g)],[],rfl,rfl,As R,As Ab,(by intro h;cases h),C2 rfl,λ_=>k W _ s4 R,λh=>absurd rfl h⟩
noncomputable def Gy:AV->List (List AU)->List AU|.only _ _ F D,[A]=>A.filter λi=>Ae (F<=i.2.2/\i.2.2<=D)|.turn _ _ f g,[A]=>A.map (I9 f g)|.both ..,[A,B]=>A++B|.gap ..,[A]=>A|.each ..,[A]=>A|_,_=>[]
noncomputable def Em:List AG:=["count","sum","least","greatest"]
noncomputable def Lk:AV->Prop|.turn _ _ f _=>-100<=f/\f<=100|.gap _ _ D m=>0<=m/\D∈Em|.each _ _ D z d=>(1<=d/\d<=200000/\d<=z/\z<=4*d)/\D∈Em|_=>True
noncomputable def LW(H:AI)(F:List AE)(D:List (List AU)):Prop:=BP (λx L=>∃r,x=.ref r/\El H r L) F D
theorem Lc{l:List D}(e:l[n]?=AA x):(l.take (n+1)).filter p=(l.take n).filter p++(if p x=AH then[x]else[]):=by rw[Ds,e,Hr];congr 1;show[x].filter p=_;rw[FX];cases p x<;>rfl
theorem Pl{l:List D}(h:l.length=1):∃x,l=[x]:=List.length_eq_one_iff.mp h
theorem PM{L:List AU}(h:LW H F [L]):∃r xs,F=[.ref r]/\H r=AA (.lst xs)/\CH H xs (L.map DT):=by cases h with|cons a b=>
 refine AB λD=>?_;cases b;obtain⟨r,rfl,xs,e,w⟩:=a;refine D ?_;try clear D
 exact⟨r,xs,rfl,e,w⟩
theorem fF{l:List D}(h:l.length=2):∃x y,l=[x,y]:=by match l,h with|[x,y],_=>exact⟨x,y,rfl⟩
theorem TQ{L M:List AU}(h:LW H U [L,M]):∃r F xs D,U=[.ref r,.ref F]/\H r=AA (.lst xs)/\H F=AA (.lst D)/\CH H xs (L.map DT)/\CH H D (M.map DT):=by cases h with|cons a b=>cases b with|cons b c=>
 refine AB λJ=>?_;cases c;obtain⟨r,rfl,xs,e,w⟩:=a;obtain⟨F,rfl,D,W,Y⟩:=b;refine J ?_;try clear J
 exact⟨r,F,xs,D,rfl,e,W,w,Y⟩
noncomputable def d9:BF:=λW H Q _=>O8 (λ(p U:AD)(s:AV)(F:List AE)(D:List (List AU))=>W=[.ref p,.ref U]) (λp _ s _ _=>Cp H p s) (λ_ _ s _ _=>Lk s) (λ_ _ s _ _=>s.no≠0) (λ_ _ s _ _=>s.no≠4) (λ_ U _ F _=>H U=AA (.lst F)) (λ_ _ _ F D=>LW H F D) (λ_ _ s _ D=>D.length=s.bj.length) (λ_ _ _ _ D=>(∀L∈D,L.length<=1000)) (λ_ _ s F D=>∀r J,Ap H J->El J r (Gy s D)->(H r=AF\/AE.ref r∈F)->Q (.ref r) J)
theorem bH{K:Ar}{ad:CW}(T:Ba K mg ad):A8 P w K mg base BM 2 ad.yg ad.yq ["step","streams"] d9:=by
  have G_turned:=bX (P:=P) (w:=w) (base:=base) T;refine T.ace.ok U9 (λvs H Q E h=>?_) (λcdv A outer s H vs Q E hr h=>?_)
  . refine AB λnG=>?_;obtain⟨p,ls,s,rs,Ls,rfl,_⟩:=h;refine nG ?_;try clear nG
    rfl
  . refine AB λnG=>?_;obtain⟨p,ls,st,rs,Ls,rfl,e,ok,n0,n4,els,cs,cl,cz,k⟩:=h;refine nG ?_;try clear nG
    have nd:=U9.nd;refine⟨_,(Af (CT (Bt C7 (BC (CD (K:=K)) (AM 0) AR (λ_ _=>rfl)) DB (Br _)) (Ak (BE (MI (osc:=A2 Li) [("step",0)] rfl (Dr (K:=K) (BC (DL (K:=K)) (AM 1) AR (λ_ _=>rfl))) rfl rfl (by decide+kernel) (by decide+kernel) (by decide+kernel) ⟨rfl,rfl,trivial⟩ rfl (by decide+kernel) (λ_ _ _ _=>KI (kX RV RV (BC (CD (K:=K)) (AM 1) AR (λ_ _=>rfl)) (BC (CD (K:=K)) (AM 0) AR (λ_ _=>rfl)) (BC (CD (K:=K)) (AM 1) AR (λ_ _=>rfl)))) (λ_ _ _ _=>(AM 0))))) C1) (Af (CT (Bt C7 (BC (CD (K:=K)) (AM 0) AR (λ_ _=>rfl)) DB (Br _)) (Ak (BE (MI (osc:=A2 Li) [("step",0)] rfl (Dr (K:=K) (BC (DL (K:=K)) (AM 1) AR (λ_ _=>rfl))) rfl rfl (by decide+kernel) (by decide+kernel) (by decide+kernel) ⟨rfl,rfl,trivial⟩ rfl (by decide+kernel) (λ_ _ _ _=>G8) (λ_ _ _ _=>(Cj G_turned (hr.bb (by decide)) (by rfl) T.ahf T.acj.kp T.agt .nil Bk (AJ (AM 1) (AJ (AM 0) AW))))))) C1) (Af (CT (Bt C7 (BC (CD (K:=K)) (AM 0) AR (λ_ _=>rfl)) DB (Br _)) (Ak (BE (AX Gn (BC (DL (K:=K)) (AM 1) AR (λ_ _=>rfl)) (BC (DL (K:=K)) (AM 1) AR (λ_ _=>rfl))))) C1) (Ak (BE (BC (DL (K:=K)) (AM 1) AR (λ_ _=>rfl))))))),?_⟩;have sz:Aw=16777216:=DN;refine AB λnG=>?_;obtain⟨e0,e1,e2⟩:=e.gx (K:=K);refine nG ?_;try clear nG
    refine⟨_,rfl,p,_,_,_,rfl,rfl,e0,e1,rfl,_,rfl,HP (i:=1) rfl (λq1=>?_) λq1=>?_⟩
    . refine AB λnG=>?_;obtain⟨n,a,lo,hi,rfl⟩:∃n a lo hi,st=.only n a lo hi:=by cases st<;>first|exact⟨_,_,_,_,rfl⟩|cases q1
      obtain⟨L,rfl⟩:=Pl cl;obtain⟨r,xs,rfl,er,hw⟩:=PM cs;refine nG ?_;try clear nG
      have hL:=cz L (.head _);have hx:=hw.dh;rw[A0]at hx;refine⟨_,rfl,ls,_,_,_,rfl,rfl,Ai els,Aq (j:=0) rfl,r,rfl,⟨_,Ai er⟩,?_⟩;refine Ku (K:=K) (xs:=xs) (λm τ acc H'=>(∃o,τ=[o,AA (.ref p)])/\H'=H/\CH H acc (((L.take m).filter λi=>Ae (lo<=i.2.2/\i.2.2<=hi)).map DT)) (by(first|lia|omega)) ⟨⟨AF,rfl⟩,rfl,Gq _⟩ (λm τ acc H'⟨_,e,_⟩=>by rw[e];exact Ai er) ?_ ?_
      . intro m y τ acc H' R1 R0 hy _ hI k1 k0;refine AB λnG=>?_;obtain⟨⟨o,rfl⟩,rfl,hp⟩:=hI;obtain⟨b,ks,rfl,ek,eb⟩:=hw.at hy;rw[Bx]at ek;obtain⟨⟨t,z,am⟩,ei,rfl⟩:=D2.mp ek;refine nG ?_;try clear nG
        have fs:=Lc (p:=λi:AU=>Ae (lo<=i.2.2/\i.2.2<=hi)) ei;refine⟨_,rfl,p,_,_,_,rfl,rfl,e0,Aq (j:=3) rfl,_,rfl,b,_,_,_,rfl,rfl,As eb,Aq (j:=2) rfl,_,_,rfl,rfl,_,rfl,?_⟩;have no:¬(lo<=am/\am<=hi)->CH H' acc (((L.take (m+1)).filter λi=>Ae (lo<=i.2.2/\i.2.2<=hi)).map DT):=λq=>by rw[fs,yX (by rw[y7];exact q),FG];exact hp
        refine G6 (λh1=>?_) λh1=>⟨_,rfl,Hj (k0 _ _ ⟨⟨_,rfl⟩,rfl,no λq=>h1 q.1⟩)⟩;refine⟨_,rfl,p,_,_,_,rfl,rfl,e0,Aq (j:=4) rfl,_,_,rfl,rfl,_,rfl,G6 (λh2=>?_) λh2=>k0 _ _ ⟨⟨_,rfl⟩,rfl,no λq=>h2 q.2⟩⟩;refine⟨_,rfl,k1 _ _ _ ⟨⟨_,rfl⟩,rfl,?_⟩⟩;rw[fs,yY (by rw[y7];exact⟨h1,h2⟩),C9];exact hp.adm eb
      . intro τ acc H' la hI D hD;refine AB λnG=>?_;obtain⟨_,rfl,hp⟩:=hI;refine nG ?_;try clear nG
        rw[Df (by(first|lia|omega))]at hp;exact k D _ ((Cu _).gf hD) ⟨_,Ab,hp.ab ((Cu _).gf hD).tp⟩ (.inl hD)
    . refine⟨_,rfl,p,_,_,_,rfl,rfl,e0,e1,rfl,_,rfl,HP (i:=2) rfl (λq2=>?_) λq2=>?_⟩
      . refine AB λnG=>?_;obtain⟨n,a,f,g,rfl⟩:∃n a f g,st=.turn n a f g:=by cases st<;>first|exact⟨_,_,_,_,rfl⟩|cases q2
        obtain⟨L,rfl⟩:=Pl cl;obtain⟨r,xs,rfl,er,hw⟩:=PM cs;refine nG ?_;try clear nG
        have hL:=cz L (.head _);have hx:=hw.dh;rw[A0]at hx;refine⟨_,rfl,ls,_,_,_,rfl,rfl,Ai els,Aq (j:=0) rfl,r,rfl,⟨_,Ai er⟩,?_⟩;refine G5 (K:=K) (xs:=xs) (λm τ acc H'=>(∃o,τ=[o,AA (.ref p)])/\Ap H H'/\CH H' acc (((L.take m).map (I9 f g)).map DT)) (by(first|lia|omega)) ⟨⟨AF,rfl⟩,Cu _,Gq _⟩ (λm τ acc H'⟨_,s,_⟩=>Ai (s _ _ er)) ?_ ?_
        . intro m y τ acc H' R1 hy _ hI k1;refine AB λnG=>?_;obtain⟨⟨o,rfl⟩,s,hp⟩:=hI;obtain⟨b,ks,rfl,ek,eb⟩:=hw.at hy;rw[Bx]at ek;obtain⟨i,ei,rfl⟩:=D2.mp ek;refine nG ?_;try clear nG
          refine⟨_,rfl,_,rfl,p,b,n,a,f,g,i,rfl,s _ _ e,ok,s _ _ eb,λr2 H2 s2 e2=>k1 _ _ _ ⟨⟨_,rfl⟩,s.aa s2,?_⟩⟩;rw[Ds,ei,C9,C9];exact(hp.ab s2.tp).adm e2
        . intro τ acc H' la hI D hD;refine AB λnG=>?_;obtain⟨_,s,hp⟩:=hI;refine nG ?_;try clear nG
          rw[Df (by(first|lia|omega))]at hp;exact k D _ (s.gf hD) ⟨_,Ab,hp.ab ((Cu _).gf hD).tp⟩ (.inl (s.bh hD))
      . refine⟨_,rfl,p,_,_,_,rfl,rfl,e0,e1,rfl,_,rfl,HP (i:=3) rfl (λq3=>?_) λq3=>?_⟩
        . refine AB λnG=>?_;obtain⟨n,a,b,rfl⟩:∃n a b,st=.both n a b:=by cases st<;>first|exact⟨_,_,_,rfl⟩|cases q3
          obtain⟨L,M,rfl⟩:=fF cl;obtain⟨r,r',xs,xs',rfl,er,er',hw,hw'⟩:=TQ cs;refine nG ?_;try clear nG
          have hL:=cz L (.head _);have hM:=cz M (.tail _ (.head _));have hx:=hw.dh;have hx':=hw'.dh;rw[A0]at hx hx';refine⟨_,rfl,ls,_,_,_,rfl,rfl,Ai els,Aq (j:=0) rfl,_,rfl,ls,_,_,_,rfl,rfl,Ai els,Aq (j:=1) rfl,r,r',xs,xs',rfl,rfl,er,er',by(first|lia|omega),λD hD=>k D _ ((Cu _).gf hD) ⟨_,Ab,?_⟩ (.inl hD)⟩;show CH _ _ ((L++M).map DT);rw[C9];exact CH.ab (Dk hw hw') ((Cu _).gf hD).tp
        . have n1:st.bj.length=1/\∀L,Gy st [L]=L:=by cases st<;>first|exact⟨rfl,λ_=>rfl⟩|exact absurd rfl n0|exact absurd rfl q1|exact absurd rfl q2|exact absurd rfl q3|exact absurd rfl n4
          refine AB λnG=>?_;obtain⟨L,rfl⟩:=Pl (cl.trans n1.1);obtain⟨r,xs,rfl,er,hw⟩:=PM cs;refine nG ?_;try clear nG
          exact⟨_,rfl,ls,_,_,_,rfl,rfl,Ai els,Aq (j:=0) rfl,k r _ (Cu _) (by rw[n1.2];exact⟨_,er,hw⟩) (.inr (By.mpr rfl))⟩
noncomputable def En(wi:Int)(A B:List AU):List (List AL):=A.flatMap λi=>Ep 0 wi i B
theorem T1(s wi:Int)(i:AU)(A B:List AU):Ep s wi i (A++B)=Ep s wi i A++Ep s wi i B:=by unfold Ep;rw[Hr,C9]
theorem ZY(wi:Int)(A B:List AU)(i:AU):En wi (A++[i]) B=En wi A B++Ep 0 wi i B:=by unfold En;rw[nZ];simp
theorem Td(f g:D->List F):∀l:List D,(l.flatMap λx=>f x++g x).Perm (l.flatMap f++l.flatMap g)|[]=>.nil|a::l=>by simp only[Fo];refine((wV _).append (Td f g l)).trans ?_;rw[Ei,Ei];refine nQ _ ?_;rw[<-Ei,<-Ei];exact rZ _ OS
theorem TV(wi:Int)(i:AU):∀A:List AU,(A.flatMap λj=>Ep 0 wi j [i])=Ep 1 wi i A
 |[]=>rfl|j::A=>by
  rw[Fo,TV wi i A];show _=Ep 1 wi i ([j]++A);rw[T1];congr 1;unfold Ep;rw[FX,FX];by_cases h:j.2.1=i.2.1/\i.1-wi<=j.1/\j.1<=i.1+wi
  . rw[yY (y3 h),yY (y3 ⟨h.1.symm,by(first|lia|omega),by(first|lia|omega)⟩)];show[Jq 0 j i]=[Jq 1 i j];unfold Jq;rw[Z6,h.1];simp
  . rw[yX (λq=>h (by have:=y6 q;exact⟨this.1.symm,by(first|lia|omega),by(first|lia|omega)⟩)),yX (by simpa using h)];rfl
theorem ZZ(wi:Int)(A B:List AU)(i:AU):(En wi A (B++[i])).Perm (En wi A B++Ep 1 wi i A):=by unfold En;rw[<-TV];refine Xs (Xr ?_) (Td _ _ A);congr 1;funext j;exact T1 ..
theorem TU(wi:Int)(A B:List AU):(En wi A B).length<=A.length*B.length:=by unfold En;induction A with|nil=>simp|cons i A D=>
 rw[Fo,CA,F6,Nat.add_mul];have:(Ep 0 wi i B).length<=B.length:=by unfold Ep;rw[A0];exact FY _ _
 (first|lia|omega)
noncomputable def dR(I:CW):BF:=λL H Q _=>Sk (λ(J:List AD)(j z C E W Y G q r1:AD)(U:Int)(D F A B:List AU)=>L=[.ref j,.ref G]) (λJ j z C E W Y _ _ _ U D F _ _=>C0 I J H j z C E W Y U D F) (λJ _ _ _ _ _ _ _ _ _ _ _ _ _ _=>(∀c∈J,∃o,H c=AA o)) (λ_ _ _ _ _ _ _ G q r1 _ _ _ _ _=>H G=AA (.lst [.ref q,.ref r1])) (λ_ _ _ _ _ _ _ _ q _ _ _ _ A _=>El H q A) (λ_ _ _ _ _ _ _ _ _ r1 _ _ _ _ B=>El H r1 B) (λ_ _ _ _ _ _ _ _ _ _ _ D _ A _=>D.length+A.length<=700) (λ_ _ _ _ _ _ _ _ _ _ _ _ F _ B=>F.length+B.length<=700) (λJ j z C E W Y _ _ _ U D F A B=>∀V m K Z,E7 W Y H V->C0 I J V j z C E W Y U (D++A) (F++B)->H m=AF->V m=AA (.lst K)->CH V K Z->(En U (D++A) (F++B)).Perm (En U D F++Z)->Q (.ref m) V)
theorem aW{K:Ar}{ad:CW}(T:Ba K mg ad):A8 P w K mg base BM 4 ad.ye ad.yo ["join","streams"] (dR ad):=by
  have G_Join_come:=aF (P:=P) (w:=w) (base:=base) T;refine T.acb.ok U0 (λvs H Q E h=>?_) (λcdv A outer s H vs Q E hr h=>?_)
  . refine AB λnG=>?_;obtain⟨ex,j,sl,x0,x1,d0,d1,ls,r0,r1,wi,L0,L1,A,B,rfl,_⟩:=h;refine nG ?_;try clear nG
    rfl
  . refine AB λnG=>?_;obtain⟨ex,j,sl,x0,x1,d0,d1,ls,r0,r1,wi,L0,L1,C,B,rfl,jr,hex,els,⟨xa,ea,wa⟩,⟨xb,eb,wb⟩,l0,l1,k⟩:=h;refine nG ?_;try clear nG
    have nd:=U0.nd;refine⟨_,(Af (Bg (i:=2) nd rfl (BL rfl) (Dl AW)) (Af (Eh E4 rfl (ML (K:=K) (by rfl) T.gh (AM 1)) (JQ rfl (FU (FE (i:=3) nd rfl (BL rfl)) (FU (FE (i:=4) nd rfl (BL rfl)) JR))) (Ak (Eh E4 rfl (Dr (K:=K) (AM 4)) (FE (i:=5) nd rfl (BL rfl)) (Ak (Fn (JP (K:=K) Mc SH YR N5 (AM 2) (AJ (Gp (AM 0) T.dq T.abf G_Join_come (hr.bb (by decide)) T.acn .nil Bk (AJ (AM 3) (AJ (AM 5) AW))) AW))))))) (Ak (BE (AM 2))))),?_⟩;have sz:Aw=16777216:=DN;refine⟨CU _,λu hu=>?_⟩;have s0:=Be (o:=.lst []) hu;have eu0:(AN H u (.lst [])) u=AA (.lst []):=Ab;generalize AN H u (.lst [])=H0 at s0 eu0⊢;have sx:∀{n:Nat}{x:AE},[AE.ref r0,AE.ref r1][n]?=AA x->n<=1/\∃r xs,x=.ref r/\H r=AA (.lst xs)/\CH H xs ((if n=0 then C else B).map DT):=λ{n x}e=>by match n,e with |0,e=>cases e;exact⟨by decide,r0,xa,rfl,ea,wa⟩|1,e=>cases e;exact⟨by decide,r1,xb,rfl,eb,wb⟩
    have bnd:∀(X Y:List AU)(kss:List (List AL)),X.length<=700->Y.length<=700->(En wi X Y).Perm (En wi L0 L1++kss)->kss.length<=490000:=λX Y kss hX hY pm=>by have h1:=pm.length_eq;rw[CA]at h1;have h2:=TU wi X Y;have h3:=X7 hX hY;(first|lia|omega)
    refine⟨_,rfl,ls,rfl,⟨_,Ai (s0 _ _ els)⟩,RA (K:=K) (xs:=[.ref r0,.ref r1]) (λn σ H'=>O9 (λ(o3 o4 o5:Option AE)(acc:List AE)(kss:List (List AL))=>σ=[AA (.ref j),AA (.ref ls),AA (.ref u),o3,o4,o5]) (λ_ _ _ _ _=>E7 d0 d1 H H') (λ_ _ _ _ _=>C0 ad (u::ex) H' j sl x0 x1 d0 d1 wi (L0++(if n=0 then[]else C)) (L1++(if n<=1 then[]else B))) (λ_ _ _ acc _=>H' u=AA (.lst acc)) (λ_ _ _ acc kss=>CH H' acc kss) (λ_ _ _ _ kss=>(En wi (L0++(if n=0 then[]else C)) (L1++(if n<=1 then[]else B))).Perm (En wi L0 L1++kss))) ⟨AF,AF,AF,[],[],rfl,UT s0 _ _,by simpa using(jr.mh hu).bc s0,eu0,Gq _,by simp⟩ (λn σ H' _ hh=>by obtain⟨_,_,_,_,_,_,s',_⟩:=hh;exact Ai (jr.y s' els (by intro kvs z;cases z))) ?_ ?_⟩
    . intro n x σ H1 p hx hI hp;refine AB λnG=>?_;obtain⟨o3,o4,o5,acc,kss,rfl,s1,jr1,eu,hw1,pm1⟩:=hI;obtain⟨n1,r,xs,rfl,er,hw⟩:=sx hx;refine nG ?_;try clear nG
      have s2:=Be (o:=.tup [.int (n:Int),.ref r]) hp;have lx:=hw.dh;rw[A0]at lx;refine⟨p,_,rfl,As Ab,rfl,_,_,rfl,_,_,rfl,rfl,?_⟩;refine⟨_,rfl,r,rfl,⟨_,Ai (s2 _ _ (jr.y s1 er (by intro kvs z;cases z)))⟩,IT (K:=K) (xs:=xs) (λm σ H'=>So (λ(o5:Option AE)(acc:List AE)(kss:List (List AL))=>σ=[AA (.ref j),AA (.ref ls),AA (.ref u),AA (.int (n:Int)),AA (.ref r),o5]) (λ_ _ _=>E7 d0 d1 H H') (λ_ _ _=>C0 ad (u::ex) H' j sl x0 x1 d0 d1 wi (L0++(if n=0 then C.take m else C)) (L1++(if n=0 then[]else B.take m))) (λ_ acc _=>H' u=AA (.lst acc)) (λ_ acc kss=>CH H' acc kss) (λ_ _ kss=>(En wi (L0++(if n=0 then C.take m else C)) (L1++(if n=0 then[]else B.take m))).Perm (En wi L0 L1++kss))) ⟨_,acc,kss,rfl,s1.aa (UT s2 _ _),?_,s2 _ _ eu,hw1.ab s2.tp,?_⟩ (λm σ H' _ hh=>by obtain⟨_,_,_,_,s',_⟩:=hh;exact Ai (jr.y s' er (by intro kvs z;cases z))) ?_ ?_⟩
      . have j2:=jr1.bc s2;by_cases hn:n=0;.subst hn;simpa using j2
        . have:n=1:=by(first|lia|omega)
          subst this;simpa using j2
      . by_cases hn:n=0;.subst hn;simpa using pm1
        . have:n=1:=by(first|lia|omega)
          subst this;simpa using pm1
      . intro m y σ H2 hy hI;refine AB λnG=>?_;obtain⟨o5,acc,kss,rfl,sy,jr2,eu2,hw2,pm2⟩:=hI;obtain⟨b,ks,rfl,ek,eb2⟩:=hw.at hy;rw[Bx]at ek;obtain⟨it,ei,rfl⟩:=D2.mp ek;obtain⟨dx,ej⟩:=jr2.cn;refine nG ?_;try clear nG
        have hl0:(L0++(if n=0 then C.take m else C)).length<=700:=by
          rw[CA];split;.rw[EA];(first|lia|omega)
          .exact l0
        have hl1:(L1++(if n=0 then[]else B.take m)).length<=700:=by
          rw[CA];split;.simp;(first|lia|omega)
          .rw[EA];(first|lia|omega)
        have lacc:acc.length<=490000:=by rw[hw2.dh];exact bnd _ _ _ hl0 hl1 pm2
        have h01:(n:Int)=0\/(n:Int)=1:=by(first|lia|omega)
        have hex2:∀c∈u::ex,∃o,H2 c=AA o:=λc hc=>by
          rcases CB.mp hc with rfl|hc;.exact⟨_,eu2⟩
          . obtain⟨o,eo⟩:=hex c hc;obtain⟨⟨k0,g0⟩,k1,g1⟩:=jr2.ado;by_cases q0:c=d0;.rw[q0];exact⟨_,g0⟩
            . by_cases q1:c=d1;.rw[q1];exact⟨_,g1⟩
              .exact⟨_,sy c o q0 q1 eo⟩
        refine⟨_,rfl,.inl ⟨rfl,_,Ai eu2⟩,_,rfl,j,dx,_,rfl,ej,by rfl,_,rfl,_,rfl,u::ex,j,sl,x0,x1,d0,d1,b,wi,(n:Int),_,_,it,rfl,jr2,h01,hex2,jr.akv sy _ _ eb2,by(first|lia|omega),by(first|lia|omega),λH3 r3 xr kr sx3 jr3 hr3 er3 hwr sdr pmr=>?_⟩;have sy3:E7 d0 d1 H2 H3:=by
          rcases h01 with e|e;.rw[yY e]at sx3;exact UU sx3
          .rw[yX (by(first|lia|omega))]at sx3;exact UW sx3
        have eu3:=jr2.y sy3 eu2 (by intro kvs z;cases z);have hw3:=hw2.ab (jr2.akv sy3);have lr:xr.length<=700:=by
          rw[hwr.dh,pmr.length_eq];unfold Ep;rw[A0];refine CL (FY _ _) ?_;split;.exact hl1
          .exact hl0
        refine⟨u,r3,_,_,rfl,rfl,eu3,er3,by(first|lia|omega),?_⟩;have tpu:Bp H3 (AN H3 u (.lst (acc++xr))):=(Hh H3).gf eu3 λxs=>by intro z;cases z
        have j4:=(jr3.vi).aag (o:=.lst (acc++xr)) eu3 (.head _);have tk:(L0++(if n=0 then C.take (m+1)else C))=(if(n:Int)=0 then(L0++(if n=0 then C.take m else C))++[it]else(L0++(if n=0 then C.take m else C)))/\(L1++(if n=0 then[]else B.take (m+1)))=(if(n:Int)=0 then(L1++(if n=0 then[]else B.take m))else(L1++(if n=0 then[]else B.take m))++[it]):=by
          by_cases hn:n=0
          . subst hn;have ei:C[m]?=AA it:=ei;simp[Ds,ei]
          . have:n=1:=by(first|lia|omega)
            subst this;have ei:B[m]?=AA it:=ei;simp[Ds,ei]
        refine⟨_,acc++xr,kss++kr,rfl,λc o q0 q1 e=>?_,by rw[tk.1,tk.2];exact j4,Ab,CH.ab (Dk hw3 hwr) tpu,?_⟩
        . have hc:c≠u:=λz=>by rw[z,hu]at e;cases e
          rw[Ac hc];exact(sy.aa sy3) c o q0 q1 e
        . rw[tk.1,tk.2,<-Ei];rcases h01 with e|e
          . rw[yY e]at pmr;rw[yY e,yY e];rw[e]at pmr;rw[ZY];exact pm2.append pmr.symm
          . rw[yX (by(first|lia|omega))]at pmr;rw[yX (show¬(n:Int)=0 by(first|lia|omega)),yX (show¬(n:Int)=0 by(first|lia|omega))];rw[e]at pmr;exact(ZZ ..).trans (pm2.append pmr.symm)
      . intro σ H2 hI;refine AB λnG=>?_;obtain⟨o5,acc,kss,rfl,sy,jr2,eu2,hw2,pm2⟩:=hI;refine nG ?_;try clear nG
        have tk:(L0++(if n=0 then C.take xs.length else C))=(L0++(if n+1=0 then[]else C))/\(L1++(if n=0 then[]else B.take xs.length))=(L1++(if n+1<=1 then[]else B)):=by
          by_cases hn:n=0
          . subst hn;rw[yY rfl]at lx;simp[lx]
          . have:n=1:=by(first|lia|omega)
            subst this;rw[yX (by decide)]at lx;simp[lx]
        rw[tk.1,tk.2]at jr2 pm2;exact⟨_,_,_,acc,kss,rfl,sy,jr2,eu2,hw2,pm2⟩
    . intro σ H1 hI;refine AB λnG=>?_;obtain⟨o3,o4,o5,acc,kss,rfl,s1,jr1,eu,hw1,pm1⟩:=hI;refine nG ?_;try clear nG
      exact⟨_,rfl,k H1 u acc kss s1 (by simpa using jr1.vi) hu eu hw1 (by simpa using pm1)⟩
noncomputable def Z5(i j:AU):AU:=(GQ i.1 j.1,i.2.1,i.2.2-j.2.2)
noncomputable def Le(wi:Int)(i j:AU):Bool:=Ae (j.2.1=i.2.1/\i.1-wi<=j.1/\j.1<=i.1+wi)
noncomputable def CY(wi:Int)(A B:List AU):List AU:=A.flatMap λi=>(B.filter (Le wi i)).map (Z5 i)
theorem PR(wi:Int)(A B:List AU):En wi A B=(CY wi A B).map DT:=by unfold En CY Ep;rw[List.map_flatMap];congr 1;funext i;rw[EO];rfl
noncomputable def Ll:List AL->AU|[.inl t,.inr z,.inl a]=>(t,z,a)|_=>(0,"",0)
theorem fH(i:AU):Ll (DT i)=i:=rfl
noncomputable def D5(s:AV)(L:AG->List AU)(evs:List B7):List AU:=match s with|.take _ k=>(evs.filter λe=>Ae (e.2.1=k)).map Gh|.only _ a F D=>(L a).filter λi=>Ae (F<=i.2.2/\i.2.2<=D)|.turn _ a f g=>(L a).map (I9 f g)|.both _ a b=>L b++L a|.join _ a b J=>CY J (L a) (L b)|.gap ..|.each ..=>[]
noncomputable def FK(s:AV)(bt:AG->List AU)(S:List AU×List AU)(e:B7):Prop:=match s with|.take n k=>bt n=HS k e|.join n a b D=>(CY D (S.1++bt a) (S.2++bt b)).Perm (CY D S.1 S.2++bt n)|.only n a J F=>bt n=Gy (.only n a J F) [bt a]|.turn n a f g=>bt n=Gy (.turn n a f g) [bt a]|.both n a b=>bt n=bt a++bt b|.gap n a _ _=>bt n=bt a|.each n a _ _ _=>bt n=bt a
theorem Te(f g:D->List F)(h:∀x,(f x).Perm (g x)):∀l:List D,(l.flatMap f).Perm (l.flatMap g)|[]=>.nil|x::r=>by rw[Fo,Fo];exact(h x).append (Te f g h r)
theorem NA{A B:List AU}(p:A.Perm D)(q:B.Perm F):(CY wi A B).Perm (CY wi D F):=(p.flatMap_right _).trans (Te _ _ (λi=>(q.filter _).map _) D)
theorem Zb:CY wi (A++C) B=CY wi A B++CY wi C B:=nZ
theorem NB:∀{A:List AU},(CY wi A (B++D)).Perm (CY wi A B++CY wi A D)|[]=>.nil|i::A=>by have F:=NB (wi:=wi) (B:=B) (D:=D) (A:=A);unfold CY at F⊢;rw[Fo,Fo,Fo,Hr,C9];refine(wU (.refl _) F).trans ?_;rw[Ei,Ei];refine .append (.refl _) ?_;rw[<-Ei,<-Ei];exact OS.append (.refl _)
theorem TY(h:∀y∈D,now<=y.1):∀A:List AU,CY wi (Bz (now-wi) A) D=CY wi A D
  |[]=>rfl|i::A=>by
    have F:=TY (wi:=wi) h A;unfold CY Bz at F⊢;rw[FX];split;.rw[Fo,Fo,F]
    . rename_i q;have e:D.filter (Le wi i)=[]:=OO.mpr λy J z=>by obtain⟨_,_,z⟩:=y6 z;have:=h y J;rw[y7]at q;(first|lia|omega)
      rw[Fo,e,F];rfl
theorem TZ:∀{C:List AU},(∀y∈C,now<=y.1)->CY wi C (Bz (now-wi) B)=CY wi C B
 |[],_=>rfl|i::C,h=>by
  have D:=TZ (wi:=wi) (B:=B) (C:=C) λy F=>h y (.tail _ F);unfold CY Bz at D⊢;rw[Fo,Fo,D,OP];have e:(B.filter λa=>Le wi i a&&Ae (now-wi<=a.1))=B.filter (Le wi i):=MT λy _=>by cases q:Le wi i y with|false=>rfl|true=> obtain⟨_,z,_⟩:=y6 q;have:=h i (.head _);exact y3 (by(first|lia|omega))
  rw[e]
noncomputable def PU(wi:Int)(A B C D:List AU):List AU:=CY wi A D++CY wi C (B++D)
theorem TX:(CY wi (A++C) (B++D)).Perm (CY wi A B++PU wi A B C D):=by rw[Zb];exact(NB.append (.refl _)).trans (by rw[Ei];exact .refl _)
theorem Ta{F J:List AU}{M:List AU}(V:∀y∈C,now<=y.1)(W:∀y∈D,now<=y.1)(p:F.Perm (Bz (now-wi) A))(q:J.Perm (Bz (now-wi) B))(h:(CY wi (F++C) (J++D)).Perm (CY wi F J++M)):M.Perm (PU wi A B C D):=by have U:=(List.perm_append_left_iff _).mp (h.symm.trans TX);refine U.trans (((NA p (.refl _)).trans (.of_eq (TY W A))).append ?_);refine(NA (.refl _) (q.append (.refl _))).trans (NB.trans ?_);rw[TZ V];exact NB.symm
theorem Za(U:∀y∈C,now<=y.1)(V:∀y∈D,now<=y.1):∀y∈PU wi A B C D,now<=y.1:=λy F=>by
 have J:∀{X Y:List AU},((∀y∈X,now<=y.1)\/∀y∈Y,now<=y.1)->y∈CY wi X Y->now<=y.1:=λ{X Y}h F=>by
  obtain⟨i,W,F⟩:=Rz.mp F;obtain⟨j,Z,rfl⟩:=BO.mp F;show now<=GQ i.1 j.1;unfold GQ;rcases h with h|h;.have:=h i W;split<;>(first|lia|omega)
  .have:=h j (Dy.mp Z).1;split<;>(first|lia|omega)
 rcases DA.mp F with F|F;.exact J (.inr V) F
 .exact J (.inl U) F
theorem TN{s:AV}{S:List AU×List AU}(V:s.bw=AQ)(m:L s.nm=D5 s L evs)(Y:F s.nm=D5 s F (evs++[e]))(J:∀a∈s.bj,(F a).Perm (L a++bt a))(W:∀n a b wi,s=.join n a b wi->S.1.Perm (Bz (now-wi) (L a))/\S.2.Perm (Bz (now-wi) (L b)))(U:∀a∈s.bj,∀y∈bt a,now<=y.1)(D:FK s bt S e):(F s.nm).Perm (L s.nm++bt s.nm):=by rw[m,Y];cases s with
 |take n k=>
  have D:bt n=HS k e:=D;show((evs++[e]).filter _|>.map Gh).Perm ((evs.filter _).map Gh++bt n);rw[D,Hr,C9];refine .append (.refl _) ?_;unfold HS;by_cases q:e.2.1=k
  . rw[yY q,nW (by exact y3 q)];exact .refl _
  . rw[yX q,nV (by rw[y7];exact q)];exact .refl _|only n a z Z=> have D:bt n=(bt a).filter _:=D;show((F a).filter _).Perm ((L a).filter _++bt n);rw[D,<-Hr];exact(J a (.head _)).filter _|turn n a f g=>have D:bt n=(bt a).map (I9 f g):=D;show((F a).map (I9 f g)).Perm ((L a).map (I9 f g)++bt n);rw[D,<-C9];exact(J a (.head _)).map _|both n a b=>have D:bt n=bt a++bt b:=D;show(F b++F a).Perm (L b++L a++bt n);rw[D];refine((J b (.tail _ (.head _))).append (J a (.head _))).trans ?_;rw[Ei,Ei];refine .append (.refl _) ?_;refine OS.trans ?_;rw[Ei]|join n a b wi=>obtain⟨p,q⟩:=W n a b wi rfl;have D:(CY wi (S.1++bt a) (S.2++bt b)).Perm (CY wi S.1 S.2++bt n):=D;show(CY wi (F a) (F b)).Perm (CY wi (L a) (L b)++bt n);refine(NA (J a (.head _)) (J b (.tail _ (.head _)))).trans ?_;refine TX.trans (.append (.refl _) (Ta (U a (.head _)) (U b (.tail _ (.head _))) p q D).symm)|gap=>cases V|each=>cases V
theorem ZV{s:AV}{L bt:AG->List AU}{e:B7}{S:List AU×List AU}{now:Int}(W:now<=e.1)(V:∀n a b wi,s=.join n a b wi->S.1.Perm (Bz (now-wi) (L a))/\S.2.Perm (Bz (now-wi) (L b)))(J:∀a∈s.bj,∀y∈bt a,now<=y.1)(F:FK s bt S e):∀y∈bt s.nm,now<=y.1:=λy D=>by cases s with
 |take n k=>
  have F:bt n=HS k e:=F;have D:y∈bt n:=D;rw[F]at D;unfold HS at D;split at D;.rw[By.mp D];exact W
  .cases D|only n a B A=> have F:bt n=(bt a).filter _:=F;have D:y∈bt n:=D;rw[F]at D;exact J a (.head _) y (Dy.mp D).1|turn n a f g=>
  have F:bt n=(bt a).map (I9 f g):=F;have D:y∈bt n:=D;rw[F]at D;refine AB λU=>?_;obtain⟨x,Y,rfl⟩:=BO.mp D;refine U ?_;try clear U
  exact J a (.head _) x Y|both n a b=> have F:bt n=bt a++bt b:=F;have D:y∈bt n:=D;rw[F]at D;exact(DA.mp D).elim (J a (.head _) y) (J b (.tail _ (.head _)) y)|join n a b wi=>obtain⟨p,q⟩:=V n a b wi rfl;exact Za (J a (.head _)) (J b (.tail _ (.head _))) y ((Ta (J a (.head _)) (J b (.tail _ (.head _))) p q F).mem_iff.mp D)|gap n a Z m=>have F:bt n=bt a:=F;have D:y∈bt n:=D;rw[F]at D;exact J a (.head _) y D|each n a Z z d=>have F:bt n=bt a:=F;have D:y∈bt n:=D;rw[F]at D;exact J a (.head _) y D
theorem FK.aka{s:AV}(F:D s.nm=bt s.nm)(J:∀a∈s.bj,D a=bt a)(h:FK s bt S e):FK s D S e:=by cases s with|take n k=>exact F.trans h|only n a W V=>have h:bt n=Gy (.only n a W V) [bt a]:=h;show D n=Gy (.only n a W V) [D a];rw[J a (.head _),<-h];exact F|turn n a f g=>have h:bt n=Gy (.turn n a f g) [bt a]:=h;show D n=Gy (.turn n a f g) [D a];rw[J a (.head _),<-h];exact F|both n a b=>have h:bt n=bt a++bt b:=h;show D n=D a++D b;rw[J a (.head _),J b (.tail _ (.head _)),<-h];exact F|join n a b U=>have h:(CY U (S.1++bt a) (S.2++bt b)).Perm (CY U S.1 S.2++bt n):=h;have F:D n=bt n:=F;show(CY U (S.1++D a) (S.2++D b)).Perm (CY U S.1 S.2++D n);rw[J a (.head _),J b (.tail _ (.head _)),F];exact h|gap n a s m=>have h:bt n=bt a:=h;show D n=D a;rw[J a (.head _),<-h];exact F|each n a s z m=>have h:bt n=bt a:=h;show D n=D a;rw[J a (.head _),<-h];exact F
structure Dc(ss:List AV):Prop where
 cc:∀(i i':Nat)s s',ss[i]?=AA s->ss[i']?=AA s'->s.nm=s'.nm->i=i'
 va:∀(i:Nat)s a,ss[i]?=AA s->a∈s.bj->∃(i':Nat)(s':AV),i'<i/\ss[i']?=AA s'/\s'.nm=a/\s'.bw=AQ
 ok:∀s∈ss,Lk s
noncomputable def Bj(bt:AG->List AU)(n:AG)(L:List AU):AG->List AU:=λa=>if a=n then L else bt a
theorem GS:Bj bt n L n=L:=yY rfl
theorem Dc.ajv(h:Dc ss){i k:Nat}(D:ss[i]?=AA s)(F:ss[k]?=AA t)(J:k<i)(bt:AG->List AU)(L:List AU):Bj bt s.nm L t.nm=bt t.nm:=yX λe=>by have:=h.cc k i t s F D e;(first|lia|omega)
theorem Dc.gw(h:Dc ss){i k:Nat}(J:ss[i]?=AA s)(U:ss[k]?=AA t)(W:k<=i)(bt:AG->List AU)(L:List AU)(V:a∈t.bj):Bj bt s.nm L a=bt a:=by
 refine AB λF=>?_;obtain⟨Y,Z,l,D,rfl,_⟩:=h.va k t a U V;refine F ?_;try clear F
 exact h.ajv J D (by(first|lia|omega)) bt L
theorem Dc.ajx{ss:List AV}(h:Dc ss){i:Nat}{s:AV}(F:ss[i]?=AA s){bt:AG->List AU}{sd:Nat->List AU×List AU}{e:B7}(L:List AU)(V:∀(k:Nat)t,k<i->ss[k]?=AA t->FK t bt (sd k) e)(W:FK s (Bj bt s.nm L) (sd i) e):∀(k:Nat)t,k<i+1->ss[k]?=AA t->FK t (Bj bt s.nm L) (sd k) e:=λk t Y D=>by
 by_cases J:k=i;.subst J;rw[F]at D;cases D;exact W
 .exact(V k t (by(first|lia|omega)) D).aka (h.ajv F D (by(first|lia|omega)) bt L) λa U=>h.gw F D (by(first|lia|omega)) bt L U
theorem Dc.aiw{ss:List AV}(h:Dc ss){n:Nat}{L bt:AG->List AU}{sd:Nat->List AU×List AU}{e:B7}{now:Int}(V:now<=e.1)(J:∀(i:Nat)n a b wi,ss[i]?=AA (.join n a b wi)->(sd i).1.Perm (Bz (now-wi) (L a))/\(sd i).2.Perm (Bz (now-wi) (L b)))(U:∀(i:Nat)s,i<n->ss[i]?=AA s->FK s bt (sd i) e):∀m,m<=n->∀(i:Nat)s,i<m->ss[i]?=AA s->∀y∈bt s.nm,now<=y.1
 |0,_,i,_,W,_=>absurd W (JZ _)|m+1,C,i,s,W,D=>by
  have A:=Dc.aiw h V J U m (by(first|lia|omega));refine ZV V (λn a b wi q=>J i n a b wi (by rw[<-q];exact D)) (λa Z=>?_) (U i s (by(first|lia|omega)) D);refine AB λY=>?_;obtain⟨z,B,E,F,rfl,_⟩:=h.va i s a D Z;refine Y ?_;try clear Y
  exact A z B (by(first|lia|omega)) F
noncomputable def EL(H:AI)(ps:List AE)(ss:List AV):Prop:=BP (λx s=>∃a,x=.ref a/\Cp H a s) ps ss
theorem EL.ab(h:EL H ps ss)(t:Bp H H'):EL H' ps ss:=GY (λx s⟨a,e,q⟩=>⟨a,e,q.tp t⟩) h
theorem EL.dh{ps:List AE}{ss:List AV}(h:EL H ps ss):ps.length=ss.length:=(CZ h).1
theorem EL.at(h:EL H ps ss){i:Nat}(e:ps[i]?=AA x):∃a s,x=.ref a/\ss[i]?=AA s/\Cp H a s:=by
 refine AB λF=>?_;obtain⟨l,f⟩:=CZ h;have J:=(BN.mp e).1;have D:=Cm (show i<ss.length by(first|lia|omega));obtain⟨a,r1,r2⟩:=f i x _ e D;refine F ?_;try clear F
 exact⟨a,_,r1,D,r2⟩
noncomputable def Dg(p:AD->Prop)(H H':AI):Prop:=∀b o,¬p b->H b=AA o->H' b=AA o
theorem C0.gc(h:C0 N ex H j I L M J U wi A B)(s:Dg p H H')(W:∀b,p b->(b∈ex/\∃xs,H b=AA (.lst xs))\/∃kvs,H b=AA (.dK kvs))(P:¬p J)(Q:¬p U):C0 N ex H' j I L M J U wi A B:=by
 have Y:∀{b:AD}{C D:AD}{F:List (AG×AE)},H b=AA (.ins C D F)->H' b=AA (.ins C D F):=λ{b C D F}e=>s _ _ (λq=>by rcases W b q with⟨_,xs,z⟩|⟨kvs,z⟩<;>(rw[e]at z;cases z)) e;have Z:∀{b:AD}{xs:List AE},b∉ex->H b=AA (.lst xs)->H' b=AA (.lst xs):=λ{b xs}n e=>s _ _ (λq=>by
  rcases W b q with⟨z,_⟩|⟨kvs,z⟩;.exact n z
  .rw[e]at z;cases z) e;have K:Bp H H':=λb xs e=>s _ _ (λq=>by rcases W b q with⟨_,xs,z⟩|⟨kvs,z⟩<;>(rw[e]at z;cases z)) e;refine AB λG=>?_;obtain⟨⟨D,e⟩,O,R,r1,n,E⟩:=h;refine G ?_;try clear G
 exact⟨⟨D,Y e⟩,Z E O,R.ab (λC D F e=>Y e) (λkvs e=>s _ _ P e) (λb xs n e=>Z n e) K,r1.ab (λC D F e=>Y e) (λkvs e=>s _ _ Q e) (λb xs n e=>Z n e) K,n,E⟩
theorem Iz(h:FC H a u)(s:∀o,H a=AA o->H' a=AA o):FC H' a u:=h.elim (λe=>.inl (s _ e)) λ⟨o,e⟩=>.inr ⟨o,s _ e⟩
theorem UN(h:FC H a u)(D:H b=AF):a≠b:=λz=>by rcases h with e|⟨o,e⟩<;>(rw[z,D]at e;cases e)
structure D4 where
 j:AD
 sl:AD
 x0:AD
 x1:AD
 d0:AD
 d1:AD
noncomputable def EH(ss:List AV)(i:Nat):Prop:=∃(n a b:AG)(D:Int),ss[i]?=AA (.join n a b D)
section
variable{ad:CW}
structure Co(ad:CW)(ex:List AD)(H:AI)(ss:List AV)(dj:AD)(jkvs:List (AL×AE))(jd:Nat->D4)(sd:Nat->List AU×List AU):Prop where
 ao:FC H dj (.dK jkvs)gv:∀(i:Nat)(n a b:AG)(wi:Int),ss[i]?=AA (.join n a b wi)->Bm jkvs (.inl (i:Int))=AA (.ref (jd i).j)/\C0 ad ex H (jd i).j (jd i).sl (jd i).x0 (jd i).x1 (jd i).d0 (jd i).d1 wi (sd i).1 (sd i).2
 cc:∀i i':Nat,EH ss i->EH ss i'->i≠i'->((jd i').d0≠(jd i).d0/\(jd i').d0≠(jd i).d1)/\(jd i').d1≠(jd i).d0/\(jd i').d1≠(jd i).d1
 abj:∀i:Nat,EH ss i->dj≠(jd i).d0/\dj≠(jd i).d1
end
noncomputable def De(ss:List AV)(D:Nat->D4)(b:AD):Prop:=∃i,EH ss i/\(b=(D i).d0\/b=(D i).d1)
theorem Co.bc(h:Co W ex H ss F D J sd)(s:Ap H H'):Co W ex H' ss F D J sd:=⟨Iz h.ao (s _),λi n a b U e=>⟨(h.gv i n a b U e).1,(h.gv i n a b U e).2.bc s⟩,h.cc,h.abj⟩
theorem Co.mh(h:Co W ex H ss F D J sd)(Y:H l=AF):Co W (l::ex) H ss F D J sd:=⟨h.ao,λi n a b U e=>⟨(h.gv i n a b U e).1,(h.gv i n a b U e).2.mh Y⟩,h.cc,h.abj⟩
theorem Co.vi(h:Co W (l::ex) H ss F D J sd):Co W ex H ss F D J sd:=⟨h.ao,λi n a b U e=>⟨(h.gv i n a b U e).1,(h.gv i n a b U e).2.vi⟩,h.cc,h.abj⟩
theorem Co.gc(h:Co Y ex H ss F D J sd)(s:Dg p H H')(z:∀b,p b->(b∈ex/\∃xs,H b=AA (.lst xs))\/∃kvs,H b=AA (.dK kvs))(U:∀b,p b->¬De ss J b)(Z:¬p F):Co Y ex H' ss F D J sd:=⟨Iz h.ao λo=>s _ o Z,λi n a b W e=>⟨(h.gv i n a b W e).1,(h.gv i n a b W e).2.gc s z (λq=>U _ q ⟨i,⟨_,_,_,_,e⟩,.inl rfl⟩) λq=>U _ q ⟨i,⟨_,_,_,_,e⟩,.inr rfl⟩⟩,h.cc,h.abj⟩
theorem Co.vh(h:Co Z ex H ss z F D sd)(U:ss[i]?=AA (.join n a b wi))(s:E7 (D i).d0 (D i).d1 H H')(g:C0 Z ex H' (D i).j (D i).sl (D i).x0 (D i).x1 (D i).d0 (D i).d1 wi M0 M1):Co Z ex H' ss z F D λk=>if k=i then(M0,M1)else sd k:=by
 have W:EH ss i:=⟨_,_,_,_,U⟩;refine⟨Iz h.ao λo=>s _ o (h.abj i W).1 (h.abj i W).2,λk E B C A J=>⟨(h.gv k _ _ _ _ J).1,?_⟩,h.cc,h.abj⟩;by_cases Y:k=i
 . subst Y;rw[U]at J;cases J;rw[yY rfl];exact g
 . rw[yX Y];have q:=h.cc i k W ⟨_,_,_,_,J⟩ (Hv Y);exact(h.gv i _ _ _ _ U).2.adi (h.gv k _ _ _ _ J).2 s q.1 q.2
noncomputable def GN(H:AI)(xs:List AE)(ps:List (Int×AU)):Prop:=BP (λx p=>∃a q,x=.ref a/\H a=AA (.tup [.int p.1,.ref q])/\H q=AA (.tup ((DT p.2).map Ax))) xs ps
theorem GN.ab(h:GN H xs ps)(t:Bp H H'):GN H' xs ps:=GY (λx p J=>by obtain⟨a,q,e,D,F⟩:=J;exact⟨a,q,e,t _ _ D,t _ _ F⟩) h
theorem GN.dh{xs:List AE}{ps:List (Int×AU)}(h:GN H xs ps):xs.length=ps.length:=(CZ h).1
theorem GN.at(h:GN H xs ps){i:Nat}(e:xs[i]?=AA x):∃a q s it,x=.ref a/\ps[i]?=AA (s,it)/\H a=AA (.tup [.int s,.ref q])/\H q=AA (.tup ((DT it).map Ax)):=by
 refine AB λF=>?_;obtain⟨l,f⟩:=CZ h;have U:=(BN.mp e).1;have D:=Cm (show i<ps.length by(first|lia|omega));obtain⟨a,q,r1,r2,J⟩:=f i x _ e D;refine F ?_;try clear F
 exact⟨a,q,_,_,r1,D,r2,J⟩
theorem Co.cq(h:Co Z ex H ss U D W sd)(e:∀i,EH ss i->F i=sd i):Co Z ex H ss U D W F:=⟨h.ao,λi n a b Y J=>⟨(h.gv i n a b Y J).1,by rw[e i ⟨_,_,_,_,J⟩];exact(h.gv i n a b Y J).2⟩,h.cc,h.abj⟩
noncomputable def EY(ss:List AV)(sd:Nat->List AU×List AU)(n:Nat)(bt:AG->List AU)(i:Nat):List AU×List AU:=match ss[i]? with|AA (.join _ a b _)=>if i<n then((sd i).1++bt a,(sd i).2++bt b)else sd i|_=>sd i
theorem IK(e:ss[i]?=AA (.join m a b wi)):EY ss sd n bt i=if i<n then((sd i).1++bt a,(sd i).2++bt b)else sd i:=by unfold EY;rw[e]
theorem cK(ss:List AV)(sd:Nat->List AU×List AU)(bt:AG->List AU):EY ss sd 0 bt=sd:=by
 funext i;unfold EY;split;.exact yX (JZ _)
 .rfl
theorem cJ(U:Dc ss){s:AV}(F:ss[n]?=AA s)(Y:s.no≠4)(L:List AU):∀i,EH ss i->EY ss sd (n+1) (Bj bt s.nm L) i=EY ss sd n bt i:=by
  intro i W;refine AB λJ=>?_;obtain⟨m,a,b,Z,D⟩:=W;refine J ?_;try clear J
  rw[IK D,IK D];by_cases h:i<n;.rw[yY (by(first|lia|omega)),yY h,U.gw F D (by(first|lia|omega)) bt L (a:=a) (.head _),U.gw F D (by(first|lia|omega)) bt L (a:=b) (.tail _ (.head _))]
  . by_cases V:i=n
    . subst V;rw[F]at D;cases D;exact absurd rfl Y
    .rw[yX (by(first|lia|omega)),yX h]
theorem cH(J:Dc ss)(D:ss[n]?=AA (.join m a b wi))(L:List AU):∀i,EH ss i->EY ss sd (n+1) (Bj bt m L) i=if i=n then((EY ss sd n bt n).1++bt a,(EY ss sd n bt n).2++bt b)else EY ss sd n bt i:=by
  intro i B;refine AB λq=>?_;obtain⟨E,U,V,C,F⟩:=B;refine q ?_;try clear q
  have W:=J.gw D D (Al _) bt L (a:=a) (.head _);have Y:=J.gw D D (Al _) bt L (a:=b) (.tail _ (.head _));have W:Bj bt m L a=bt a:=W;have Y:Bj bt m L b=bt b:=Y;by_cases Z:i=n;. subst Z;rw[D]at F;cases F;rw[IK D,IK D,yY rfl,yY (Hu _),yX (HI _),W,Y]
  . rw[yX Z,IK F,IK F];by_cases h:i<n
    . have z:Bj bt m L U=bt U:=J.gw D F (by(first|lia|omega)) bt L (a:=U) (.head _);have A:Bj bt m L V=bt V:=J.gw D F (by(first|lia|omega)) bt L (a:=V) (.tail _ (.head _));rw[yY (by(first|lia|omega)),yY h,z,A]
    .rw[yX (by(first|lia|omega)),yX h]
noncomputable def EC(ss:List AV)(bt:AG->List AU):Nat->List (Int×AU)|0=>[]|n+1=>EC ss bt n++(match ss[n]? with|AA s=>if s.bw=AH then(bt s.nm).map λi=>((n:Int),i)else[]|AF=>[])
theorem Vi(F:Dc ss){s:AV}(D:ss[i]?=AA s)(bt:AG->List AU)(L:List AU):∀n,n<=i->EC ss (Bj bt s.nm L) n=EC ss bt n|0,_=>rfl|n+1,h=>by unfold EC;rw[Vi F D bt L n (by(first|lia|omega))];congr 1;cases J:ss[n]? with|none=>rfl|some t=>show(if t.bw=AH then _ else _)=_;rw[F.ajv D J (by(first|lia|omega)) bt L]
theorem cB{st:AV}(V:st.no≠0)(W:st.no≠4)(J:L=Gy st (st.bj.map bt))(F:∀a∈st.bj,Bj bt st.nm L a=bt a):FK st (Bj bt st.nm L) S e:=by cases st with|take=>exact absurd rfl V|join=>exact absurd rfl W|only n f Z Y=>have D:Bj bt n L f=bt f:=F f (.head _);show Bj bt n L n=Gy _ [Bj bt n L f];rw[GS,D,J];rfl|turn n f x y=>have D:Bj bt n L f=bt f:=F f (.head _);show Bj bt n L n=Gy _ [Bj bt n L f];rw[GS,D,J];rfl|both n f g=>have D:Bj bt n L f=bt f:=F f (.head _);have U:Bj bt n L g=bt g:=F g (.tail _ (.head _));show Bj bt n L n=Bj bt n L f++Bj bt n L g;rw[GS,D,U,J];rfl|gap n f x y=>have D:Bj bt n L f=bt f:=F f (.head _);show Bj bt n L n=Bj bt n L f;rw[GS,D,J];rfl|each n f x y z=>have D:Bj bt n L f=bt f:=F f (.head _);show Bj bt n L n=Bj bt n L f;rw[GS,D,J];rfl
theorem fJ{X Y:List AU}(p:(X.map DT).Perm (Y.map DT++kss)):∃M:List AU,kss=M.map DT/\X.Perm (Y++M):=by
  refine⟨kss.map Ll,?_,?_⟩
  . rw[EO];have:∀D∈kss,(DT∘Ll) D=D:=λD F=>by obtain⟨i,_,rfl⟩:=BO.mp (p.mem_iff.mpr (Ej _ F));rfl
    rw[Ry this,sR]
  . have:=p.map Ll;have e:Ll∘DT=id:=funext fH;rw[C9,EO,EO,e,sQ,sQ]at this;exact this
theorem Pq[DecidableEq D](kvs:List (D×AE))(k:D)(v:AE):(Bb kvs k v).length<=kvs.length+1:=by
 unfold Bb;split;.rw[A0];(first|lia|omega)
 .rw[CA];exact Al _
theorem Vh:∀{n:Nat},(∀(i:Nat)s,i<n->ss[i]?=AA s->(bt s.nm).length<=600)->(EC ss bt n).length<=600*n |0,_=>Al _|n+1,h=>by have U:=Vh (ss:=ss) (bt:=bt) (n:=n) λi s J D=>h i s (by(first|lia|omega)) D;unfold EC;rw[CA];cases F:ss[n]? with |none=>show _+0<=_;(first|lia|omega)|some t=>
 have:=h n t (by(first|lia|omega)) F;show _+(if t.bw=AH then _ else[]:List (Int×AU)).length<=_;split;.rw[A0];(first|lia|omega)
 .show _+0<=_;(first|lia|omega)
noncomputable def eM(K:CW):BF:=λN H Q _=>Sj (λ(Y:List AD)(G z q:AD)(C:List AE)(D:List AV)(F:List (AL×AE))(A:Nat->D4)(U:Nat->List AU×List AU)(L B:AG->List AU)(W:List B7)(e:B7)(J:Int)=>N=[.ref G,.ref z,.ref q]) (λ_ G _ _ C _ _ _ _ _ _ _ _ _=>H G=AA (.lst C)) (λ_ _ _ _ C D _ _ _ _ _ _ _ _=>EL H C D) (λ_ _ _ _ _ D _ _ _ _ _ _ _ _=>Dc D) (λ_ _ _ _ _ D _ _ _ _ _ _ _ _=>D.length<=20) (λY _ z _ _ D F A U _ _ _ _ _=>Co K Y H D z F A U) (λY _ _ _ _ _ _ _ _ _ _ _ _ _=>(∀c∈Y,∃o,H c=AA o)) (λ_ _ _ q _ _ _ _ _ _ _ _ e _=>HM H q e) (λ_ _ _ _ _ D _ _ _ L B W e _=>(∀(i:Nat)s,D[i]?=AA s->s.bw=AQ->L s.nm=D5 s L W/\B s.nm=D5 s B (W++[e])/\(B s.nm).length<=600)) (λ_ _ _ _ _ D _ _ U L _ _ _ J=>(∀(i:Nat)n a b I,D[i]?=AA (.join n a b I)->(U i).1.Perm (Bz (J-I) (L a))/\(U i).2.Perm (Bz (J-I) (L b)))) (λ_ _ _ _ _ _ _ _ _ _ _ _ e J=>J<=e.1) (λY _ z _ _ D F A U _ _ _ e _=>∀Z m M E,Dg (De D A) H Z->Co K (m::Y) Z D z F A (EY D U D.length E)->H m=AF->Z m=AA (.lst M)->GN Z M (EC D E D.length)->(∀(i:Nat)s,D[i]?=AA s->FK s E (U i) e)->Q (.ref m) Z)
theorem bQ{K:Ar}{ad:CW}(T:Ba K mg ad):A8 P w K mg base BM 5 ad.yj ad.yu ["plan","joins","event"] (eM ad):=by
  have G_feeders:=aL (P:=P) (w:=w) (base:=base) T;have G_taken:=bU (P:=P) (w:=w) (base:=base) T;have G_joined:=aW (P:=P) (w:=w) (base:=base) T;have G_passed:=bH (P:=P) (w:=w) (base:=base) T;have G_name_of:=bC (P:=P) (w:=w) (base:=base) T;have G_is_teller:=UD (P:=P) (w:=w) (base:=base) T;refine T.ach.ok VH (λvs H Q E h=>?_) (λcdv A outer s H vs Q E hr h=>?_)
  . refine AB λnG=>?_;obtain⟨ex,lp,dj,q,ps,ss,jkvs,jd,sd,L,L',evs,e,now,rfl,_⟩:=h;refine nG ?_;try clear nG
    rfl
  . refine AB λnG=>?_;obtain⟨ex,lp,dj,q,ps,ss,jkvs,jd,sd,L,L',evs,e,now,rfl,elp,pr,pok,lss,jr,hex,ev,hL,hS,he,k⟩:=h;refine nG ?_;try clear nG
    have nd:=VH.nd;refine⟨_,(Af (Bg (i:=3) nd rfl (oM rfl) MJ) (Af (Bg (i:=4) nd rfl (BL rfl) (Dl AW)) (Af (Eh E4 rfl (ML (K:=K) (by rfl) T.gh (AM 0)) (JQ rfl (FU (FE (i:=5) nd rfl (oM rfl)) (FU (FE (i:=6) nd rfl (BL rfl)) JR))) (Af (K0 (i:=7) (osc:=A2 Lj) [("brought",3)] nd rfl (BL rfl) rfl (Dr (K:=K) (Cj G_feeders (hr.bb (by decide)) (by rfl) T.afr T.zy.kp T.afe .nil Bk (AJ (AM 6) AW))) rfl rfl (by decide+kernel) (by decide+kernel) (by decide+kernel) ⟨rfl,rfl,trivial⟩ rfl (by decide+kernel) (λ_ _ _ _=>G8) (λ_ _ _ _=>(Ib hr.u1 (AM 1) (AM 0) (λ_ _=>rfl)))) (Af (Ic (CT (Bt C7 (BC (CD (K:=K)) (AM 6) AR (λ_ _=>rfl)) DB (Br _)) (Ak (Bg (i:=8) nd rfl (BL rfl) (Cj G_taken (hr.bb (by decide)) (by rfl) T.aia T.aep.kp T.ahv .nil Bk (AJ (AM 6) (AJ (AM 2) AW))))) (Ak (CT (Bt C7 (BC (CD (K:=K)) (AM 6) AR (λ_ _=>rfl)) DB (Br _)) (Ak (Bg (i:=8) nd rfl (BL rfl) (Cj G_joined (hr.bb (by decide)) (by rfl) T.agy T.acb.kp T.agm .nil Bk (AJ (Ib hr.u1 (AM 1) (AM 5) (λ_ _=>rfl)) (AJ (AM 7) AW))))) (Ak (Bg (i:=8) nd rfl (BL rfl) (Cj G_passed (hr.bb (by decide)) (by rfl) T.aha T.ace.kp T.ago .nil Bk (AJ (AM 6) (AJ (AM 7) AW))))))))) (Af (JS hr.u1 (AM 3) (Cj G_name_of (hr.bb (by decide)) (by rfl) T.afs T.zz.kp T.aff .nil Bk (AJ (AM 6) AW)) (AM 8) rfl) (Ak (CT (KH (Cj G_is_teller (hr.bb (by decide)) (by rfl) T.xg T.nq.kp T.wy .nil Bk (AJ (AM 6) AW))) (Ak (Fn (JP (K:=K) Mc SH YR N5 (AM 4) (AJ (MI (osc:=A2 Lj) [("place",5)] rfl (Dr (K:=K) (AM 8)) rfl rfl (by decide+kernel) (by decide+kernel) (by decide+kernel) ⟨rfl,rfl,trivial⟩ rfl (by decide+kernel) (λ_ _ _ _=>G8) (λ_ _ _ _=>(Cw (AJ (AM 1) (AJ (AM 0) AW))))) AW)))) C1)))))) (Ak (BE (AM 4)))))),?_⟩;have sz:Aw=16777216:=DN;have lps:=pr.dh;have isd:∀b,De ss jd b->∃kvs,H b=AA (.dK kvs):=λb hb=>by
      obtain⟨i,⟨n,a,b',wi,ei⟩,hb⟩:=hb;obtain⟨⟨k0,e0⟩,k1,e1⟩:=(jr.gv i n a b' wi ei).2.ado;rcases hb with rfl|rfl;.exact⟨_,e0⟩
      .exact⟨_,e1⟩
    refineλbr hbr=>⟨CU _,λu hu0=>?_⟩;have hu:H u=AF:=HU hu0;have nbu:br≠u:=BS Ab hu0;have s0:Ap H (AN (AN H br (.dK [])) u (.lst [])):=((Cu H).gf hbr).gf hu0;have ebr0:(AN (AN H br (.dK [])) u (.lst [])) br=AA (.dK []):=by rw[Ac nbu];exact Ab
    have eu0:(AN (AN H br (.dK [])) u (.lst [])) u=AA (.lst []):=Ab;generalize AN (AN H br (.dK [])) u (.lst [])=H0 at s0 ebr0 eu0⊢;have keep:∀{H':AI}{b:AD}{o:Bh},Dg (De ss jd) H H'->H b=AA o->(∀kvs,o≠.dK kvs)->H' b=AA o:=λ{H' b o}s eo hn=>s b o (λz=>by obtain⟨kvs,ek⟩:=isd b z;rw[eo]at ek;exact hn _ (CM ek)) eo;refine⟨_,rfl,lp,rfl,⟨_,Ai (s0 _ _ elp)⟩,RA (K:=K) (xs:=ps) (λn σ H'=>PD (λ(o5 o6 o7 o8:Option AE)(kvs:List (AL×AE))(acc:List AE)(bt:AG->List AU)=>σ=[AA (.ref lp),AA (.ref dj),AA (.ref q),AA (.ref br),AA (.ref u),o5,o6,o7,o8]) (λ_ _ _ _ _ _ _=>Dg (De ss jd) H H') (λ_ _ _ _ _ _ bt=>Co ad (u::ex) H' ss dj jkvs jd (EY ss sd n bt)) (λ_ _ _ _ kvs _ _=>kvs.length<=n) (λ_ _ _ _ kvs _ _=>H' br=AA (.dK kvs)) (λ_ _ _ _ _ acc _=>H' u=AA (.lst acc)) (λ_ _ _ _ _ acc bt=>GN H' acc (EC ss bt n)) (λ_ _ _ _ _ _ bt=>(∀(i:Nat)s,i<n->ss[i]?=AA s->FK s bt (sd i) e)) (λ_ _ _ _ kvs _ bt=>(∀(i:Nat)s,i<n->ss[i]?=AA s->∃r,Bm kvs (.inr s.nm)=AA (.ref r)/\El H' r (bt s.nm)/\r≠u/\(bt s.nm).length<=600)) (λ_ _ _ _ _ _ bt=>(∀(i:Nat)s,i<n->ss[i]?=AA s->s.bw=AQ->(L' s.nm).Perm (L s.nm++bt s.nm)))) ⟨AF,AF,AF,AF,[],[],λ_=>[],rfl,λb o _ eo=>s0 _ _ eo,?_,Al _,ebr0,eu0,.nil,λi s h=>absurd h (JZ _),λi s h=>absurd h (JZ _),λi s h=>absurd h (JZ _)⟩ (λn σ H' _ hh=>by obtain⟨_,_,_,_,_,_,_,_,s',_⟩:=hh;exact Ai (keep s' elp (by intro kvs z;cases z))) ?_ ?_⟩
    . rw[cK];exact(jr.mh hu).bc s0
    . intro n x σ H1 p hx hI hp;refine AB λnG=>?_;obtain⟨o5,o6,o7,o8,kvs,acc,bt,rfl,s1,jr1,lk1,eb1,eu1,it1,br1,cm1,pm1⟩:=hI;obtain⟨a,st,rfl,es,ea⟩:=pr.at hx;refine nG ?_;try clear nG
      have hn:n<ss.length:=(BN.mp es).1;have s2:=Be (o:=.tup [.int (n:Int),.ref a]) hp;have ea1:Cp H1 a st:=keep s1 ea (by intro kvs z;cases z);refine⟨p,_,rfl,As Ab,rfl,_,_,rfl,_,_,rfl,rfl,?_⟩;refine⟨_,rfl,a,st,rfl,ea1.tp s2.tp,λlf Hf sf hlf elf=>⟨lf,rfl,⟨_,Ai elf⟩,?_⟩⟩;have s3:=s2.aa sf;have cmf:∀(i:Nat)s,i<n->ss[i]?=AA s->∃r,Bm kvs (.inr s.nm)=AA (.ref r)/\El Hf r (bt s.nm)/\r≠u/\(bt s.nm).length<=600:=λi s hi ei=>by obtain⟨r,v1,v2,v3,v4⟩:=cm1 i s hi ei;exact⟨r,v1,v2.ab (λxs z=>s3 _ _ z) s3.tp,v3,v4⟩
      have lf5:st.bj.length<=2:=by cases st<;>exact C2 rfl
      refine G5 (K:=K) (xs:=st.bj.map AE.str) (λm τ acc H'=>(∃o,τ=[o,AA (.ref br)])/\H'=Hf/\LW Hf acc ((st.bj.take m).map bt)/\∀r,AE.ref r∈acc->r≠u) (by rw[A0];(first|lia|omega)) ⟨⟨AF,rfl⟩,rfl,.nil,λr hr=>by cases hr⟩ (λm τ acc H'⟨_,ee,_⟩=>by rw[ee];exact Ai elf) ?_ ?_
      . intro m y τ acc H' R1 hy _ hI k1;refine AB λnG=>?_;obtain⟨⟨o,rfl⟩,rfl,hc,hru⟩:=hI;rw[Bx]at hy;obtain⟨f,ef,rfl⟩:=D2.mp hy;obtain⟨i',s',li,ei',rfl,_⟩:=pok.va n st f es (DW ef);obtain⟨r,v1,v2,v3,v4⟩:=cmf i' s' li ei';refine nG ?_;try clear nG
        refine⟨_,rfl,_,rfl,br,.ref r,rfl,?_,k1 _ _ _ ⟨⟨_,rfl⟩,rfl,?_,λr' hr'=>?_⟩⟩;. rw[<-v1];exact Kj (k:=.inr s'.nm) (s3 _ _ eb1)
        . rw[Ds,ef,C9];exact Dk hc (.cons ⟨r,rfl,v2⟩ .nil)
        . rcases DA.mp hr' with h|h;.exact hru r' h
          .cases By.mp h;exact v3
      . intro τ acc2 H' la hI ls hls;refine AB λnG=>?_;obtain⟨_,rfl,hc,ru4⟩:=hI;refine nG ?_;try clear nG
        rw[A0,Df (Al _)]at hc;have s4:=s3.gf (o:=.lst acc2) hls;have sl4:=Be (o:=.lst acc2) hls;have els:(AN H' ls (.lst acc2)) ls=AA (.lst acc2):=Ab;have hc4:LW (AN H' ls (.lst acc2)) acc2 (st.bj.map bt):=GY (λx L⟨r,e1,e2⟩=>⟨r,e1,e2.ab (λxs z=>sl4 _ _ z) sl4.tp⟩) hc;have cm4:∀(i:Nat)s,i<n->ss[i]?=AA s->∃r,Bm kvs (.inr s.nm)=AA (.ref r)/\El (AN H' ls (.lst acc2)) r (bt s.nm)/\r≠u/\(bt s.nm).length<=600:=λi s hi ei=>by obtain⟨r,v1,v2,v3,v4⟩:=cmf i s hi ei;exact⟨r,v1,v2.ab (λxs z=>sl4 _ _ z) sl4.tp,v3,v4⟩
        generalize AN H' ls (.lst acc2)=H4 at s4 els hc4 cm4⊢;have sp4:Dg (De ss jd) H H4:=λb o nb eo=>s4 _ _ (s1 b o nb eo);have jr4:=jr1.bc s4;have ea4:Cp H4 a st:=ea1.tp s4.tp;have eb4:=s4 _ _ eb1;have ev4:HM H4 q e:=s4 _ _ (keep s1 ev (by intro kvs z;cases z));have eu4:=s4 _ _ eu1;have it4:=it1.ab s4.tp;have fz:∀f∈st.bj,(L' f).Perm (L f++bt f)/\(L f).length+(bt f).length<=600:=λf hf=>by obtain⟨i',s',li,ei',rfl,ht⟩:=pok.va n st f es hf;have pp:=pm1 i' s' li ei' ht;have:=pp.length_eq;rw[CA]at this;have:=(hL i' s' ei' ht).2.2;exact⟨pp,by(first|lia|omega)⟩
        refine IS (λσ' H'=>O4 (λ(r:AD)(Lr:List AU)=>σ'=[AA (.ref lp),AA (.ref dj),AA (.ref q),AA (.ref br),AA (.ref u),AA (.int (n:Int)),AA (.ref a),AA (.ref ls),AA (.ref r)]) (λ_ _=>Dg (De ss jd) H H') (λ_ Lr=>Co ad (u::ex) H' ss dj jkvs jd (EY ss sd (n+1) (Bj bt st.nm Lr))) (λ_ _=>H' br=AA (.dK kvs)) (λ_ _=>H' u=AA (.lst acc)) (λ_ _=>GN H' acc (EC ss bt n)) (λr Lr=>El H' r Lr) (λr _=>r≠u) (λ_ Lr=>FK st (Bj bt st.nm Lr) (sd n) e) (λ_ _=>Cp H' a st) (λr _=>∀(i:Nat)s,i<n->ss[i]?=AA s->∃r,Bm kvs (.inr s.nm)=AA (.ref r)/\El H' r (bt s.nm)/\r≠u/\(bt s.nm).length<=600)) ?_ ?_
        . refine AB λnG=>?_;obtain⟨e0,e1,e2⟩:=ea4.gx (K:=K);refine nG ?_;try clear nG
          have plain:∀{r:AD}{Lr:List AU}{H5:AI},Ap H4 H5->st.no≠4->El H5 r Lr->r≠u->FK st (Bj bt st.nm Lr) (sd n) e->(λ(σ':List (Option AE))(H':AI)=>O4 (λ(r:AD)(Lr:List AU)=>σ'=[AA (.ref lp),AA (.ref dj),AA (.ref q),AA (.ref br),AA (.ref u),AA (.int (n:Int)),AA (.ref a),AA (.ref ls),AA (.ref r)]) (λ_ _=>Dg (De ss jd) H H') (λ_ Lr=>Co ad (u::ex) H' ss dj jkvs jd (EY ss sd (n+1) (Bj bt st.nm Lr))) (λ_ _=>H' br=AA (.dK kvs)) (λ_ _=>H' u=AA (.lst acc)) (λ_ _=>GN H' acc (EC ss bt n)) (λr Lr=>El H' r Lr) (λr _=>r≠u) (λ_ Lr=>FK st (Bj bt st.nm Lr) (sd n) e) (λ_ _=>Cp H' a st) (λr _=>∀(i:Nat)s,i<n->ss[i]?=AA s->∃r,Bm kvs (.inr s.nm)=AA (.ref r)/\El H' r (bt s.nm)/\r≠u/\(bt s.nm).length<=600)) [AA (AE.ref lp),AA (.ref dj),AA (.ref q),AA (.ref br),AA (.ref u),AA (.int (n:Int)),AA (.ref a),AA (.ref ls),AA (.ref r)] H5:=λ{r Lr H5}s5 n4 cr ru bs=>⟨r,Lr,rfl,λb o nb eo=>s5 _ _ (sp4 b o nb eo),(jr4.bc s5).cq (cJ pok es n4 Lr),s5 _ _ eb4,s5 _ _ eu4,it4.ab s5.tp,cr,ru,bs,ea4.tp s5.tp,λi s hi ei=>by obtain⟨r,v1,v2,v3,v4⟩:=cm4 i s hi ei;exact⟨r,v1,v2.ab (λxs z=>s5 _ _ z) s5.tp,v3,v4⟩⟩;refine⟨_,rfl,a,_,_,_,rfl,rfl,e0,e1,rfl,_,rfl,HP (i:=0) rfl (λq0=>?_) λq0=>?_⟩
          . refine AB λnG=>?_;obtain⟨nn,kd,rfl⟩:∃nn kd,st=.take nn kd:=by cases st<;>first|exact⟨_,_,rfl⟩|cases q0
            refine nG ?_;try clear nG
            refine⟨_,rfl,_,rfl,a,q,nn,kd,e,rfl,ea4,ev4,λr H5 s5 hr5 cr=>plain s5 (by intro z;cases z) cr (BS eu4 hr5).symm ?_⟩;exact GS
          . refine⟨_,rfl,a,_,_,_,rfl,rfl,e0,e1,rfl,_,rfl,HP (i:=4) rfl (λq4=>?_) λq4=>?_⟩
            . refine AB λnG=>?_;obtain⟨nn,f,g,wi,rfl⟩:∃nn f g wi,st=.join nn f g wi:=by cases st<;>first|exact⟨_,_,_,_,rfl⟩|cases q4
              obtain⟨jv,jj⟩:=jr4.gv n nn f g wi es;have e9:EY ss sd n bt n=sd n:=by rw[IK es,yX (HI _)]
              rw[e9]at jj;obtain⟨r0,r1,xs0,xs1,rfl,er0,er1,w0,w1⟩:=TQ hc4;have z0:=fz f (.head _);have z1:=fz g (.tail _ (.head _));obtain⟨pf,pg⟩:=hS n nn f g wi es;refine nG ?_;try clear nG
              have lf0:(sd n).1.length<=(L f).length:=pf.length_eq▸NY _ _;have lg0:(sd n).2.length<=(L g).length:=pg.length_eq▸NY _ _;have hex4:∀c∈u::ex,∃o,H4 c=AA o:=λc hc=>by
                rcases CB.mp hc with rfl|hc;.exact⟨_,eu4⟩
                . obtain⟨o,eo⟩:=hex c hc;by_cases hd:De ss jd c
                  . obtain⟨i,⟨n',a',b',wi',ei⟩,hd⟩:=hd;obtain⟨⟨k0,g0⟩,k1,g1⟩:=(jr4.gv i n' a' b' wi' ei).2.ado;rcases hd with rfl|rfl;.exact⟨_,g0⟩
                    .exact⟨_,g1⟩
                  .exact⟨_,sp4 c o hd eo⟩
              refine⟨_,rfl,_,rfl,dj,.ref (jd n).j,rfl,by rw[<-jv];exact .inl ⟨jkvs,.inl (n:Int),jr4.ao,rfl,rfl⟩,_,rfl,u::ex,(jd n).j,(jd n).sl,(jd n).x0,(jd n).x1,(jd n).d0,(jd n).d1,ls,r0,r1,wi,(sd n).1,(sd n).2,bt f,bt g,rfl,jj,hex4,els,⟨_,er0,w0⟩,⟨_,er1,w1⟩,by(first|lia|omega),by(first|lia|omega),λH5 m xs5 kss sy5 j5 hm em hw5 pm5=>?_⟩;have sp5:Dg (De ss jd) H4 H5:=λb o nb eo=>sy5 b o (λz=>nb ⟨n,⟨_,_,_,_,es⟩,.inl z⟩) (λz=>nb ⟨n,⟨_,_,_,_,es⟩,.inr z⟩) eo;have ky:∀{b:AD}{o:Bh},H4 b=AA o->(∀kvs,o≠.dK kvs)->H5 b=AA o:=λeo hn=>jj.y sy5 eo hn;have tp5:=jj.akv sy5;rw[PR,PR]at pm5;refine AB λnG=>?_;obtain⟨M,rfl,pmM⟩:=fJ pm5;refine nG ?_;try clear nG
              have nbr:¬De ss jd br:=λz=>by obtain⟨kv,ek⟩:=isd br z;rw[hbr]at ek;cases ek
              have fe:∀a'∈(AV.join nn f g wi).bj,Bj bt nn M a'=bt a':=λa' ha'=>pok.gw es es (Al _) bt M ha';refine⟨m,M,rfl,λb o nb eo=>sp5 b o nb (sp4 b o nb eo),?_,sp5 _ _ nbr eb4,ky eu4 (by intro kv z;cases z),it4.ab tp5,⟨_,em,hw5⟩,(BS eu4 hm).symm,?_,ea4.tp tp5,λi s hi ei=>?_⟩
              . refine(jr4.vh es sy5 j5).cq λi hi=>?_;have q:=cH pok (sd:=sd) (bt:=bt) es M i hi;rw[e9]at q;exact q
              . show(CY wi ((sd n).1++Bj bt nn M f) ((sd n).2++Bj bt nn M g)).Perm (CY wi (sd n).1 (sd n).2++Bj bt nn M nn);rw[fe f (.head _),fe g (.tail _ (.head _)),GS];exact pmM
              . refine AB λnG=>?_;obtain⟨r,v1,v2,v3,v4⟩:=cm4 i s hi ei;refine nG ?_;try clear nG
                exact⟨r,v1,v2.ab (λxs z=>ky z (by intro kv z;cases z)) tp5,v3,v4⟩
            . have bf:∀f∈st.bj,(bt f).length<=1000:=λf hf=>by have:=(fz f hf).2;(first|lia|omega)
              refine⟨_,rfl,_,rfl,a,ls,st,acc2,st.bj.map bt,rfl,ea4,pok.ok st (DW es),q0,q4,els,hc4,by rw[A0],λL hL=>by obtain⟨f,hf,rfl⟩:=BO.mp hL;exact bf f hf,λr H5 s5 cr hr5=>plain s5 q4 cr ?_ (cB q0 q4 rfl λf hf=>pok.gw es es (Al _) bt _ hf)⟩;rcases hr5 with hr5|hr5;.exact(BS eu4 hr5).symm
              .exact ru4 r hr5
        . intro σ H5 hI;refine AB λnG=>?_;obtain⟨r,Lr,rfl,sp5,jr5,eb5,eu5,it5,cr5,ru5,bs5,ea5,cm5⟩:=hI;refine nG ?_;try clear nG
          refine⟨_,rfl,_,rfl,_,rfl,a,st,rfl,ea5,br,_,rfl,.inl ⟨_,.inr st.nm,eb5,rfl,?_,rfl⟩,?_⟩;. (first|lia|omega)
          have nbr:¬De ss jd br:=λz=>by obtain⟨kv,ek⟩:=isd br z;rw[hbr]at ek;cases ek
          have ndj:dj≠br:=UN jr.ao hbr;have s6:Dg (.=br) H5 (AN H5 br (.dK (Bb kvs (.inr st.nm) (.ref r)))):=λb o nb eo=>by rw[Ac nb];exact eo
          have ne6:∀{b:AD}{o:Bh},H5 b=AA o->(∀kv,o≠.dK kv)->b≠br:=λeo hn z=>by rw[z,eb5]at eo;exact hn _ (CM eo).symm
          have tp6:Bp H5 (AN H5 br (.dK (Bb kvs (.inr st.nm) (.ref r)))):=λb xs eo=>s6 _ _ (ne6 eo (by intro kv z;cases z)) eo;have sp6:Dg (De ss jd) H (AN H5 br (.dK (Bb kvs (.inr st.nm) (.ref r)))):=λb o nb eo=>s6 _ _ (λz=>by rw[z,hbr]at eo;cases eo) (sp5 b o nb eo);have jr6:Co ad (u::ex) (AN H5 br (.dK (Bb kvs (.inr st.nm) (.ref r)))) ss dj jkvs jd (EY ss sd (n+1) (Bj bt st.nm Lr)):=jr5.gc s6 (λb hb=>.inr ⟨kvs,by rw[hb];exact eb5⟩) (λb hb=>by rw[hb];exact nbr) ndj;have eu6:(AN H5 br (.dK (Bb kvs (.inr st.nm) (.ref r)))) u=AA (.lst acc):=s6 _ _ (ne6 eu5 (by intro kv z;cases z)) eu5;have it6:=it5.ab tp6;have ck6:∀{b:AD}{M:List AU},El H5 b M->El (AN H5 br (.dK (Bb kvs (.inr st.nm) (.ref r)))) b M:=λc=>c.ab (λxs z=>s6 _ _ (ne6 z (by intro kv z;cases z)) z) tp6;have cr6:=ck6 cr5;have ea6:=ea5.tp tp6;have eb6:(AN H5 br (.dK (Bb kvs (.inr st.nm) (.ref r)))) br=AA (.dK (Bb kvs (.inr st.nm) (.ref r))):=Ab;have bt6:=pok.ajx es Lr br1 bs5;have fz6:∀f∈st.bj,Bj bt st.nm Lr f=bt f:=λf hf=>pok.gw es es (Al _) bt Lr hf;have pmn:st.bw=AQ->(L' st.nm).Perm (L st.nm++Bj bt st.nm Lr st.nm):=λht=>TN ht (hL n st es ht).1 (hL n st es ht).2.1 (λf hf=>by rw[fz6 f hf];exact(fz f hf).1) (λn' a' b' wi' q=>hS n n' a' b' wi' (by rw[<-q];exact es)) (λf hf=>by rw[fz6 f hf];obtain⟨i',s',li,ei',rfl,_⟩:=pok.va n st f es hf;exact pok.aiw he hS br1 n (Al _) i' s' li ei') bs5;have lr6:Lr.length<=600:=by cases ht:st.bw with |false=>have:=(pmn ht).length_eq;rw[CA,GS]at this;have:=(hL n st es ht).2.2;(first|lia|omega)|true=>
              obtain⟨f,hf,eq⟩:∃f∈st.bj,Bj bt st.nm Lr st.nm=Bj bt st.nm Lr f:=by cases st with |gap n' f x y=>exact⟨f,.head _,bs5⟩|each n' f x y z=>exact⟨f,.head _,bs5⟩|_=>cases ht
              rw[GS,fz6 f hf]at eq;have:=(fz f hf).2;rw[eq];(first|lia|omega)
          have cm6:∀(i:Nat)s,i<n+1->ss[i]?=AA s->∃r',Bm (Bb kvs (.inr st.nm) (.ref r)) (.inr s.nm)=AA (.ref r')/\El (AN H5 br (.dK (Bb kvs (.inr st.nm) (.ref r)))) r' (Bj bt st.nm Lr s.nm)/\r'≠u/\(Bj bt st.nm Lr s.nm).length<=600:=λi s hi ei=>by
            by_cases hin:i=n;. subst hin;rw[es]at ei;cases ei;exact⟨r,by rw[Ie,yY rfl],by rw[GS];exact cr6,ru5,by rw[GS];exact lr6⟩
            . obtain⟨r',v1,v2,v3,v4⟩:=cm5 i s (by(first|lia|omega)) ei;have eo:=pok.ajv es ei (by(first|lia|omega)) bt Lr;refine⟨r',?_,by rw[eo];exact ck6 v2,v3,by rw[eo];exact v4⟩;rw[Ie,yX (λz=>hin (pok.cc i n s st ei es (Kc z)))];exact v1
          have pm6:∀(i:Nat)s,i<n+1->ss[i]?=AA s->s.bw=AQ->(L' s.nm).Perm (L s.nm++Bj bt st.nm Lr s.nm):=λi s hi ei ht=>by
            by_cases hin:i=n
            . subst hin;rw[es]at ei;cases ei;exact pmn ht
            . rw[pok.ajv es ei (by(first|lia|omega)) bt Lr];exact pm1 i s (by(first|lia|omega)) ei ht
          have lk6:=Pq kvs (.inr st.nm) (.ref r);have tl6:=Vi pok es bt Lr n (Al _);generalize AN H5 br (.dK (Bb kvs (.inr st.nm) (.ref r)))=H6 at sp6 jr6 eu6 it6 cr6 ea6 eb6 cm6⊢;refine⟨_,rfl,a,st,rfl,ea6,_,rfl,IV (λht=>?_) λht=>?_⟩
          . refine AB λnG=>?_;obtain⟨xs6,er6,w6⟩:=cr6;refine nG ?_;try clear nG
            have lx6:=w6.dh;rw[A0]at lx6;refine⟨_,rfl,.inl ⟨rfl,_,Ai eu6⟩,_,rfl,r,rfl,⟨_,Ai er6⟩,?_⟩;refine G5 (K:=K) (xs:=xs6) (λm τ acc' H'=>(∃o,τ=[o,AA (.int (n:Int))])/\Ap H6 H'/\GN H' acc' ((Lr.take m).map λi=>((n:Int),i))) (by(first|lia|omega)) ⟨⟨AF,rfl⟩,Cu _,.nil⟩ (λm τ acc' H'⟨_,s,_⟩=>Ai (s _ _ er6)) ?_ ?_
            . intro m y τ acc' H' R1 hy _ hI k1;refine AB λnG=>?_;obtain⟨⟨o,rfl⟩,s,hp⟩:=hI;obtain⟨b,ks,rfl,ek,eb⟩:=w6.at hy;rw[Bx]at ek;obtain⟨i,ei,rfl⟩:=D2.mp ek;refine nG ?_;try clear nG
              refine⟨_,rfl,_,rfl,C2 rfl,λp2 hp2=>k1 _ _ _ ⟨⟨_,rfl⟩,s.gf hp2,?_⟩⟩;have sp2:=Be (o:=.tup [.int (n:Int),.ref b]) hp2;rw[Ds,ei,C9];exact Dk (hp.ab sp2.tp) (.cons ⟨p2,b,rfl,Ab,sp2 _ _ (s _ _ eb)⟩ .nil)
            . intro τ acc' H7 la hI D hD;refine AB λnG=>?_;obtain⟨_,s7,hp7⟩:=hI;refine nG ?_;try clear nG
              rw[Df (by(first|lia|omega))]at hp7;have s8:=s7.gf (o:=.lst acc') hD;have sD:=Be (o:=.lst acc') hD;have eD:(AN H7 D (.lst acc')) D=AA (.lst acc'):=Ab;have hp8:=hp7.ab sD.tp;generalize AN H7 D (.lst acc')=H8 at s8 eD hp8⊢;have eu8:=s8 _ _ eu6;have la6:acc.length<=600*n:=by rw[it6.dh];exact Vh λi s hi ei=>by obtain⟨_,_,_,_,v4⟩:=cm1 i s hi ei;exact v4
              refine⟨u,D,acc,acc',rfl,rfl,eu8,eD,by(first|lia|omega),?_⟩;have s9:Dg (.=u) H8 (AN H8 u (.lst (acc++acc'))):=λb o nb eo=>by rw[Ac nb];exact eo
              have tp9:Bp H8 (AN H8 u (.lst (acc++acc'))):=λb xs eo=>s9 _ _ (λz=>by rw[z,eu8]at eo;cases eo) eo;have nud:¬De ss jd u:=λz=>by obtain⟨kv,ek⟩:=isd u z;rw[hu]at ek;cases ek
              have ndu:dj≠u:=UN jr.ao hu;refine⟨_,_,_,_,_,acc++acc',Bj bt st.nm Lr,rfl,λb o nb eo=>s9 _ _ (λz=>by rw[z,hu]at eo;cases eo) (s8 _ _ (sp6 b o nb eo)),?_,by(first|lia|omega),s9 _ _ nbu (s8 _ _ eb6),Ab,?_,bt6,λi s hi ei=>?_,pm6⟩;.exact(jr6.bc s8).gc s9 (λb hb=>.inl ⟨by rw[hb];exact .head _,acc,by rw[hb];exact eu8⟩) (λb hb=>by rw[hb];exact nud) ndu
              . show GN _ _ (EC ss (Bj bt st.nm Lr) n++_);rw[tl6,es];show GN _ _ (EC ss bt n++(if st.bw=AH then _ else[]));rw[yY ht,GS];exact GN.ab (Dk (it6.ab s8.tp) hp8) tp9
              . refine AB λnG=>?_;obtain⟨r',v1,v2,v3,v4⟩:=cm6 i s hi ei;refine nG ?_;try clear nG
                exact⟨r',v1,v2.ab (λxs z=>s9 _ _ v3 (s8 _ _ z)) (λb xs z=>tp9 _ _ (s8 _ _ z)),v3,v4⟩
          . have ht:st.bw=AQ:=ht;refine⟨_,_,_,_,_,acc,Bj bt st.nm Lr,rfl,sp6,jr6,by(first|lia|omega),eb6,eu6,?_,bt6,cm6,pm6⟩;show GN H6 acc (EC ss (Bj bt st.nm Lr) n++_);rw[tl6,es];show GN H6 acc (EC ss bt n++(if st.bw=AH then _ else[]));rw[ht,yX C4,FG];exact it6
    . intro σ H1 hI;refine AB λnG=>?_;obtain⟨o5,o6,o7,o8,kvs,acc,bt,rfl,s1,jr1,lk1,eb1,eu1,it1,br1,cm1,pm1⟩:=hI;refine nG ?_;try clear nG
      rw[lps]at jr1 it1 br1;exact⟨_,rfl,k H1 u acc bt s1 jr1 hu eu1 it1 λi s ei=>br1 i s (BN.mp ei).1 ei⟩
noncomputable def eL(K:Ar):BF:=λJ H Q _=>Kf (λ(a:AD)(D:List Int)=>J=[.ref a]) (λa D=>Bc K H a (D.map AE.int)) (λ_ D=>D.length<=63) (λ_ _=>∀(c:Int)F,Ap H F->(c=1\/c=40000)->Q (.int c) F)
theorem Pk{K:Ar}{W:CW}(T:Ba K L W):A8 P w K L base BM 2 W.ju W.kz ["_law_script"] (eL K):=by
  have D:=NN (P:=P) (w:=w) (base:=base) T;refine T.fm.ok VX (λM H Q E h=>?_) (λq A U s H M Q E G h=>?_)
  . refine AB λF=>?_;obtain⟨a,Z,rfl,_⟩:=h;refine F ?_;try clear F
    rfl
  . refine AB λF=>?_;obtain⟨a,Z,rfl,z,B,k⟩:=h;refine F ?_;try clear F
    have N:=VX.nd;refine⟨_,(Ak (BE (BC (DL (K:=K)) (Dl (AJ AR (AJ AR (AJ AR (AJ AR AW))))) (AX B6 (AX C8 (Cj D (G.bb (by decide)) (by rfl) T.aw T.aq.kp T.au .nil Bk (AJ (AM 0) (AJ AR AW))) AR) AR) (λ_ _=>rfl)))),?_⟩;refine⟨C2 rfl,λp C=>?_⟩;have s1:=Be (o:=.lst [.int 1,.int 1,.int 1,.int 40000]) C;refine⟨_,rfl,a,Z,_,rfl,s1.abt z,by decide,B,λc=>?_⟩;refine AB λF=>?_;obtain⟨v,I,Y⟩:=Gk [AE.int 1,.int 1,.int 1,.int 40000] 4 rfl (by decide) (c/8);obtain⟨m,rfl,J⟩:∃m:Int,v=.int m/\(m=1\/m=40000):=by
      simp only[CB,KJ,zB]at Y;rcases Y with rfl|rfl|rfl|rfl;.exact⟨_,rfl,.inl rfl⟩
      .exact⟨_,rfl,.inl rfl⟩
      .exact⟨_,rfl,.inl rfl⟩
      .exact⟨_,rfl,.inr rfl⟩
    refine F ?_;try clear F
    exact⟨_,_,rfl,rfl,⟨by decide,by decide⟩,_,_,rfl,rfl,(by decide:(0:Int)<4),p,_,_,_,rfl,rfl,Ai Ab,I,k m _ s1 J⟩
noncomputable def EG(s:AV)(z:AG->Nat)(m:Nat):Nat:=match s with|.take ..=>m|.only _ a _ _|.turn _ a _ _|.gap _ a _ _|.each _ a _ _ _=>z a|.both _ a b=>z a+z b|.join _ a b _=>z a*z b
noncomputable def cZ:BF:=λF H Q _=>S6 (λ(p d:AD)(s:AV)(D:List (AL×AE))(z:AG->Nat)(m:Nat)=>F=[.ref p,.ref d,.int (m:Int)]) (λp _ s _ _ _=>Cp H p s) (λ_ d _ D _ _=>H d=AA (.dK D)) (λ_ _ s D z _=>(∀a∈s.bj,Bm D (.inr a)=AA (.int (z a:Int))/\z a<=600)) (λ_ _ s _ z m=>Q (.int (EG s z m:Int)) H)
theorem aB{K:Ar}{I:CW}(T:Ba K X I):A8 P w K X base BM 1 I.jo I.kg ["_law_step","_law_sizes","_law_most"] cZ:=by
  refine T.ji.ok VO (λc H Q E h=>?_) (λM A Z s H c Q E U h=>?_)
  . refine AB λD=>?_;obtain⟨p,d,s,Y,z,m,rfl,_⟩:=h;refine D ?_;try clear D
    rfl
  . refine AB λD=>?_;obtain⟨p,d,F,Y,z,m,rfl,e,R,L,k⟩:=h;refine D ?_;try clear D
    have l:=VO.nd;refine⟨_,(Af (CT (Bt C7 (BC (CD (K:=K)) (AM 0) AR (λ_ _=>rfl)) DB (Br _)) (Ak (BE (AM 2))) C1) (Af (CT (Bt C7 (BC (CD (K:=K)) (AM 0) AR (λ_ _=>rfl)) DB (Br _)) (Ak (BE (AX D8 (Ib U.u1 (AM 1) (BC (CD (K:=K)) (AM 0) AR (λ_ _=>rfl)) (λ_ _=>rfl)) (Ib U.u1 (AM 1) (BC (CD (K:=K)) (AM 0) AR (λ_ _=>rfl)) (λ_ _=>rfl))))) C1) (Af (CT (Bt C7 (BC (CD (K:=K)) (AM 0) AR (λ_ _=>rfl)) DB (Br _)) (Ak (BE (AX Eg (Ib U.u1 (AM 1) (BC (CD (K:=K)) (AM 0) AR (λ_ _=>rfl)) (λ_ _=>rfl)) (Ib U.u1 (AM 1) (BC (CD (K:=K)) (AM 0) AR (λ_ _=>rfl)) (λ_ _=>rfl))))) C1) (Ak (BE (Ib U.u1 (AM 1) (BC (CD (K:=K)) (AM 0) AR (λ_ _=>rfl)) (λ_ _=>rfl))))))),?_⟩;refine AB λD=>?_;obtain⟨J,V,f⟩:=e.gx (K:=K);refine D ?_;try clear D
    have g:∀a∈F.bj,Jz H d (.str a) (AA (.int (z a:Int))):=λa W=>by rw[<-(L a W).1];exact Kj (k:=.inr a) R
    refine⟨_,rfl,p,_,_,_,rfl,rfl,J,V,rfl,_,rfl,HP (i:=0) rfl (λq=>?_) λq=>?_⟩;.cases F<;>first|cases q;done|exact⟨_,rfl,k⟩
    . refine⟨_,rfl,p,_,_,_,rfl,rfl,J,V,rfl,_,rfl,HP (i:=3) rfl (λB=>?_) λB=>?_⟩
      . refine AB λD=>?_;obtain⟨n,a,b,rfl⟩:∃n a b,F=.both n a b:=by cases F<;>first|exact⟨_,_,_,rfl⟩|cases B
        refine D ?_;try clear D
        refine⟨_,rfl,_,rfl,p,_,_,_,rfl,rfl,J,Aq (j:=2) rfl,d,_,rfl,g a (.head _),_,rfl,_,rfl,p,_,_,_,rfl,rfl,J,Aq (j:=3) rfl,d,_,rfl,g b (.tail _ (.head _)),_,_,rfl,rfl,k⟩
      . refine⟨_,rfl,p,_,_,_,rfl,rfl,J,V,rfl,_,rfl,HP (i:=4) rfl (λC=>?_) λC=>?_⟩
        . refine AB λD=>?_;obtain⟨n,a,b,G,rfl⟩:∃n a b G,F=.join n a b G:=by cases F<;>first|exact⟨_,_,_,_,rfl⟩|cases C
          refine D ?_;try clear D
          have S:=(L a (.head _)).2;refine⟨_,rfl,_,rfl,p,_,_,_,rfl,rfl,J,Aq (j:=2) rfl,d,_,rfl,g a (.head _),_,rfl,_,rfl,p,_,_,_,rfl,rfl,J,Aq (j:=3) rfl,d,_,rfl,g b (.tail _ (.head _)),_,_,rfl,rfl,.inl ⟨by(first|lia|omega),by(first|lia|omega)⟩,?_⟩;have:(EG (.join n a b G) z m:Int)=(z a:Int)*(z b:Int):=Int.natCast_mul ..;rw[this]at k;exact k
        . refine AB λD=>?_;obtain⟨a,W,N,O⟩:∃a,a∈F.bj/\Cb (F.agw.map Ax) 2=AA (.str a)/\EG F z m=z a:=by cases F<;>first|exact absurd rfl q|exact absurd rfl B|exact absurd rfl C|exact⟨_,.head _,Aq (j:=2) rfl,rfl⟩
          refine D ?_;try clear D
          rw[O]at k;exact⟨_,rfl,_,rfl,p,_,_,_,rfl,rfl,J,N,d,_,rfl,g a W,k⟩
noncomputable def AV.age:AV->List AG|AV.take n k=>[n,k]|AV.only n a _ _=>[n,a]|AV.turn n a _ _=>[n,a]|AV.both n a b=>[n,a,b]|AV.join n a b _=>[n,a,b]|AV.gap n a s _=>[n,a,s]|AV.each n a s _ _=>[n,a,s]
structure O1(zs:List AG)(n:AG)(s:AV):Prop where
 nm:s.nm=n
 va:∀a∈s.bj,a∈zs
 ok:Lk s
 age:∀z∈s.age,z=n\/z∈zs\/z∈Em
theorem Nd{F:List AG}{n a:AG}(h:a∈F):∀z∈[n,a],z=n\/z∈F\/z∈Em:=λz D=>by
 simp only[CB,KJ,zB]at D;rcases D with rfl|rfl;.exact .inl rfl
 .exact .inr (.inl h)
theorem Nf{D:List AG}{n a b:AG}(h:a∈D)(J:b∈D\/b∈Em):∀z∈[n,a,b],z=n\/z∈D\/z∈Em:=λz F=>by
 simp only[CB,KJ,zB]at F;rcases F with rfl|rfl|rfl;.exact .inl rfl
 .exact .inr (.inl h)
 .exact .inr J
noncomputable def eP:BF:=λW H Q _=>M8 (λ(n:AG)(U c:Int)(J:AD)(D:List AG)=>W=[.str n,.int U,.ref J,.int c]) (λ_ _ _ J D=>H J=AA (.lst (D.map AE.str))) (λ_ _ _ _ D=>0<D.length) (λ_ _ c _ _=>(c=1\/c=40000)) (λn _ _ _ D=>∀p F s,Ap H F->Cp F p s->s.bw=AQ->O1 D n s->Q (.ref p) F)
theorem bS{K:Ar}{R:CW}(T:Ba K j R):A8 P w K j base BM 1 R.iu R.jc ["_law_name","_law_number_here","_law_streams","_law_scale_here"] eP:=by
  refine T.il.ok VY (λl H Q E h=>?_) (λb A O s H l Q E m h=>?_)
  . refine AB λU=>?_;obtain⟨n,W,c,q,Z,rfl,_⟩:=h;refine U ?_;try clear U
    rfl
  . refine AB λU=>?_;obtain⟨n,W,c,q,Z,rfl,d,o,e,k⟩:=h;refine U ?_;try clear U
    have N:=VY.nd;refine⟨_,(Af (Bg (i:=4) N rfl (BL rfl) (BC (DL (K:=K)) (AM 2) (AX B6 (AX C8 (AM 1) AR) (DQ (Hi (K:=K)) (by rfl) T.gy GB (AJ (AM 2) AW))) (λ_ _=>rfl))) (Af (Bg (i:=5) N rfl (BL rfl) (BC (DL (K:=K)) (AM 2) (AX B6 (AX C8 (AM 1) AR) (DQ (Hi (K:=K)) (by rfl) T.gy GB (AJ (AM 2) AW))) (λ_ _=>rfl))) (Af (CT (Bt C7 (AX B6 (AM 1) AR) AR (Br _)) (Af (Bg (i:=6) N rfl (BL rfl) (AX F5 (AX B6 (AX C8 (AM 1) AR) AR) AR)) (Af (CT (Bt C7 (AX B6 (AX C8 (AM 1) AR) AR) AR (Br _)) (Ak (BE (Cw (AJ DB (AJ (AM 0) (AJ (AM 4) (AJ (AX Eg (AM 6) (AX RZ AR AR)) (AJ (AX RZ AR AR) AW)))))))) C1) (Af (CT (Bt C7 (AX B6 (AX C8 (AM 1) AR) AR) AR (Br _)) (Ak (BE (Cw (AJ DB (AJ (AM 0) (AJ (AM 4) (AJ (AX F5 (AX B6 (AX C8 (AM 1) AR) AR) (AX RZ AR AR)) (AJ (AX D8 (AM 6) AR) AW)))))))) C1) (Ak (BE (Cw (AJ DB (AJ (AM 0) (AJ (AM 4) (AJ (AM 6) (AJ (AX D8 (AM 6) (AX B6 (AX C8 (AM 1) AR) AR)) AW))))))))))) C1) (Af (CT (Bt C7 (AX B6 (AM 1) AR) AR (Br _)) (Ak (BE (Cw (AJ DB (AJ (AM 0) (AJ (AM 4) (AJ (AX F5 (AX B6 (AX C8 (AM 1) AR) AR) AR) (AJ (AX F5 (AX B6 (AX C8 (AM 1) AR) AR) AR) AW)))))))) C1) (Af (CT (Bt C7 (AX B6 (AM 1) AR) AR (Br _)) (Ak (BE (Cw (AJ DB (AJ (AM 0) (AJ (AM 4) (AJ (AM 5) AW))))))) C1) (Ak (BE (Cw (AJ DB (AJ (AM 0) (AJ (AM 4) (AJ (AM 5) (AJ (AX Eg (AX B6 (AX C8 (AM 1) AR) AR) (AM 3)) AW))))))))))))),?_⟩;have G:(0:Int)<((Z.map AE.str).length:Int):=by rw[A0];(first|lia|omega)
    have B:Bc K H q (Z.map AE.str):=Ai d;refine AB λU=>?_;obtain⟨v,g,f⟩:=Gk (Z.map AE.str) _ rfl G (W/7);obtain⟨D,J,rfl⟩:=BO.mp f;obtain⟨v,L,I⟩:=Gk (Z.map AE.str) _ rfl G (W/49);obtain⟨Y,M,rfl⟩:=BO.mp I;refine U ?_;try clear U
    have X:0<=W/343%19/\W/343%19<19:=⟨FJ _ (by decide),Fu _ (by decide)⟩;have z:∀a∈[D],a∈Z:=λa C=>by cases By.mp C;exact J
    have S:∀a∈[D,Y],a∈Z:=λa C=>by
      simp only[CB,KJ,zB]at C;rcases C with rfl|rfl;.exact J
      .exact M
    refine⟨_,rfl,_,rfl,_,_,rfl,rfl,⟨by decide,by decide⟩,_,rfl,q,_,rfl,.inl B,_,_,rfl,rfl,G,q,_,_,_,rfl,rfl,B,g,?_⟩;refine⟨_,rfl,_,rfl,_,_,rfl,rfl,⟨by decide,by decide⟩,_,rfl,q,_,rfl,.inl B,_,_,rfl,rfl,G,q,_,_,_,rfl,rfl,B,L,?_⟩;refine⟨_,rfl,_,_,rfl,rfl,(by decide:(0:Int)<7),rfl,_,rfl,Dp (λ_=>?_) λ_=>?_⟩
    . refine⟨_,rfl,_,_,rfl,rfl,⟨by decide,by decide⟩,_,_,rfl,rfl,(by decide:(0:Int)<9),_,_,rfl,rfl,?_⟩;refine⟨_,rfl,_,_,rfl,rfl,⟨by decide,by decide⟩,_,_,rfl,rfl,(by decide:(0:Int)<4),rfl,_,rfl,Dp (λ_=>?_) λ_=>?_⟩
      . refine⟨_,rfl,_,rfl,_,rfl,_,_,rfl,rfl,⟨by decide,by decide,by decide⟩,_,_,rfl,rfl,.inr ⟨by decide,by decide⟩,_,_,rfl,rfl,⟨by decide,by decide,by decide⟩,C2 rfl,λp F=>?_⟩;exact k p _ (.only n D _ _) (Be F) Ab rfl ⟨rfl,z,trivial,Nd J⟩
      . refine⟨_,rfl,_,_,rfl,rfl,⟨by decide,by decide⟩,_,_,rfl,rfl,(by decide:(0:Int)<4),rfl,_,rfl,Dp (λ_=>?_) λ_=>?_⟩
        . refine⟨_,rfl,_,rfl,_,rfl,_,_,rfl,rfl,⟨by decide,by decide⟩,_,_,rfl,rfl,(by decide:(0:Int)<7),_,_,rfl,rfl,⟨by decide,by decide,by decide⟩,_,_,rfl,rfl,_,rfl,_,_,rfl,rfl,C2 rfl,λp F=>?_⟩;exact k p _ (.only n D _ _) (Be F) Ab rfl ⟨rfl,z,trivial,Nd J⟩
        . refine⟨_,rfl,_,rfl,_,rfl,_,rfl,_,rfl,_,_,rfl,rfl,⟨by decide,by decide⟩,_,_,rfl,rfl,(by decide:(0:Int)<9),_,_,rfl,rfl,C2 rfl,λp F=>?_⟩;exact k p _ (.only n D _ _) (Be F) Ab rfl ⟨rfl,z,trivial,Nd J⟩
    . refine⟨_,rfl,_,_,rfl,rfl,(by decide:(0:Int)<7),rfl,_,rfl,Dp (λ_=>?_) λ_=>?_⟩;. refine⟨_,rfl,_,rfl,_,rfl,_,_,rfl,rfl,⟨by decide,by decide⟩,_,_,rfl,rfl,(by decide:(0:Int)<19),_,_,rfl,rfl,_,rfl,_,_,rfl,rfl,⟨by decide,by decide⟩,_,_,rfl,rfl,(by decide:(0:Int)<11),_,_,rfl,rfl,C2 rfl,λp F=>?_⟩;exact k p _ (.turn n D _ _) (Be F) Ab rfl ⟨rfl,z,by show-100<=W/343%19-9/\W/343%19-9<=100;(first|lia|omega),Nd J⟩
      . refine⟨_,rfl,_,_,rfl,rfl,(by decide:(0:Int)<7),rfl,_,rfl,Dp (λ_=>?_) λ_=>?_⟩;. refine⟨_,rfl,_,rfl,_,rfl,C2 rfl,λp F=>?_⟩;exact k p _ (.both n D Y) (Be F) Ab rfl ⟨rfl,S,trivial,Nf J (.inl M)⟩
        . refine⟨_,rfl,_,rfl,_,rfl,_,rfl,_,_,rfl,rfl,⟨by decide,by decide⟩,_,_,rfl,rfl,(by decide:(0:Int)<8),_,rfl,_,_,rfl,rfl,.inr (by rcases e with rfl|rfl<;>exact⟨by decide,by decide⟩),C2 rfl,λp F=>?_⟩;exact k p _ (.join n D Y _) (Be F) Ab rfl ⟨rfl,S,trivial,Nf J (.inl M)⟩
noncomputable def eV:BF:=λW H Q _=>M8 (λ(n:AG)(U c:Int)(J:AD)(D:List AG)=>W=[.str n,.int U,.ref J,.int c]) (λ_ _ _ J D=>H J=AA (.lst (D.map AE.str))) (λ_ _ _ _ D=>0<D.length) (λ_ _ c _ _=>(c=1\/c=40000)) (λn _ _ _ D=>∀p F s,Ap H F->Cp F p s->s.bw=AH->O1 D n s->Q (.ref p) F)
theorem bV{K:Ar}{N:CW}(T:Ba K l N):A8 P w K l base BM 1 N.iw N.je ["_law_name","_law_number_here","_law_streams","_law_scale_here"] eV:=by
  refine T.ip.ok VZ (λr H Q E h=>?_) (λb A L s H r Q E hr h=>?_)
  . refine AB λF=>?_;obtain⟨n,D,c,Y,W,rfl,_⟩:=h;refine F ?_;try clear F
    rfl
  . refine AB λF=>?_;obtain⟨n,D,c,Y,W,rfl,d,z0,y,k⟩:=h;refine F ?_;try clear F
    have I:=VZ.nd;refine⟨_,(Af (Bg (i:=4) I rfl (BL rfl) (BC (DL (K:=K)) (AM 2) (AX B6 (AX C8 (AM 1) AR) (DQ (Hi (K:=K)) (by rfl) T.gy GB (AJ (AM 2) AW))) (λ_ _=>rfl))) (Af (Bg (i:=5) I rfl (BL rfl) (BC (DL (K:=K)) (Dl (AJ DB (AJ DB (AJ DB (AJ DB AW))))) (AX B6 (AX C8 (AM 1) AR) AR) (λ_ _=>rfl))) (Af (CT (Bt C7 (AX B6 (AM 1) AR) AR (Br _)) (Ak (BE (Cw (AJ DB (AJ (AM 0) (AJ (AM 4) (AJ (AM 5) (AJ (AX Eg (AX B6 (AX C8 (AM 1) AR) AR) (AM 3)) AW)))))))) C1) (Af (Bg (i:=6) I rfl (BL rfl) (AX Eg (AX D8 AR (AX B6 (AX C8 (AM 1) AR) AR)) (AM 3))) (Ak (BE (Cw (AJ DB (AJ (AM 0) (AJ (AM 4) (AJ (AM 5) (AJ (AX D8 (AM 6) (AX B6 (AX C8 (AM 1) AR) (AX Eg AR (AM 6)))) (AJ (AM 6) AW))))))))))))),?_⟩;have S:(0:Int)<((W.map AE.str).length:Int):=by rw[A0];(first|lia|omega)
    have R:Bc K H Y (W.map AE.str):=Ai d;refine AB λF=>?_;obtain⟨v,j,f⟩:=Gk (W.map AE.str) _ rfl S (D/7);obtain⟨J,G,rfl⟩:=BO.mp f;refine F ?_;try clear F
    have O:∀a∈[J],a∈W:=λa e=>by cases By.mp e;exact G
    have x:1<=c/\c<=40000:=by(first|lia|omega)
    refine⟨_,rfl,_,rfl,_,_,rfl,rfl,⟨by decide,by decide⟩,_,rfl,Y,_,rfl,.inl R,_,_,rfl,rfl,S,Y,_,_,_,rfl,rfl,R,j,?_⟩;refine AB λF=>?_;obtain⟨v,C,Z⟩:=Gk ([("count":AG),"sum","least","greatest"].map AE.str) 4 rfl (by decide) (D/49);obtain⟨M,U,rfl⟩:=BO.mp Z;refine F ?_;try clear F
    have U:M∈Em:=U;refine⟨C2 rfl,λX B=>?_⟩;have s1:=Be (o:=.lst [AE.str "count",.str "sum",.str "least",.str "greatest"]) B;refine⟨_,rfl,_,_,rfl,rfl,⟨by decide,by decide⟩,_,_,rfl,rfl,(by decide:(0:Int)<4),X,_,_,_,rfl,rfl,Ai Ab,C,?_⟩;generalize AN H X (.lst [AE.str "count",.str "sum",.str "least",.str "greatest"])=t at s1⊢;refine⟨_,rfl,_,_,rfl,rfl,(by decide:(0:Int)<7),rfl,_,rfl,Dp (λ_=>?_) λ_=>?_⟩
    . refine⟨_,rfl,_,rfl,_,rfl,_,rfl,_,_,rfl,rfl,⟨by decide,by decide⟩,_,_,rfl,rfl,(by decide:(0:Int)<6),_,rfl,_,_,rfl,rfl,.inr ⟨by(first|lia|omega),by(first|lia|omega)⟩,C2 rfl,λp q=>?_⟩;exact k p _ (.gap n J M _) (s1.gf q) Ab rfl ⟨rfl,O,⟨Ow (by(first|lia|omega)) (by(first|lia|omega)),U⟩,Nf G (.inr U)⟩
    . have u:0<=D/343%5/\D/343%5<5:=⟨FJ _ (by decide),Fu _ (by decide)⟩;refine⟨_,rfl,_,_,rfl,rfl,⟨by decide,by decide⟩,_,_,rfl,rfl,(by decide:(0:Int)<5),_,_,rfl,rfl,_,rfl,_,_,rfl,rfl,.inr ⟨by(first|lia|omega),by(first|lia|omega)⟩,?_⟩;have q:0<(1+D/343%5)*c:=Int.mul_pos (by(first|lia|omega)) (by(first|lia|omega));have g:(1+D/343%5)*c<=5*c:=rT (by(first|lia|omega)) (by(first|lia|omega));refine⟨_,rfl,_,rfl,_,rfl,_,rfl,_,rfl,_,_,rfl,rfl,⟨by decide,by decide⟩,_,rfl,_,_,rfl,rfl,.inl ⟨by decide,by decide⟩,_,_,rfl,rfl,(show(0:Int)<3*((1+D/343%5)*c)by(first|lia|omega)),_,_,rfl,rfl,_,rfl,C2 rfl,λm z=>?_⟩;have q1:=FJ (D/1715) (show 3*((1+D/343%5)*c)≠0 by(first|lia|omega));have q2:=Fu (D/1715) (show 0<3*((1+D/343%5)*c)by(first|lia|omega));exact k m _ (.each n J M _ _) (s1.gf z) Ab rfl ⟨rfl,O,⟨⟨q,by(first|lia|omega),by(first|lia|omega),by(first|lia|omega)⟩,U⟩,Nf G (.inr U)⟩
noncomputable def Er(sn:List AG)(z:AG->Nat):List (AL×AE):=sn.map λa=>(.inr a,.int (z a:Int))
theorem fM(h:a∈sn):Bm (Er sn z) (.inr a)=AA (.int (z a:Int)):=by
 unfold Bm Er;rw[List.find?_map];have F:(sn.find? ((λJ:AL×AE=>Ae (J.1=.inr a))∘λa=>((.inr a:AL),AE.int (z a:Int)))).isSome=AH:=by rw[List.find?_isSome];exact⟨a,h,by simp⟩
 obtain⟨b,D⟩:=oK.mp F;have e:=sG D;have e:b=a:=by simpa using e
 rw[D,e];rfl
noncomputable def GU(z:AG->Nat)(n:AG)(m:Nat):AG->Nat:=λa=>if a=n then m else z a
theorem cE{m:Nat}(h:n∉sn):Bb (Er sn z) (.inr n) (.int (m:Int))=Er (sn++[n]) (GU z n m):=by
  unfold Bb;rw[yX]
  . unfold Er;rw[C9];congr 1
    . refine Ry λa D=>?_;have:GU z n m a=z a:=yX λe=>h (by rw[<-e];exact D);rw[this]
    . show[_]=[((.inr n:AL),AE.int (GU z n m n:Int))];rw[show GU z n m n=m from yY rfl]
  . intro q;refine AB λF=>?_;obtain⟨U,J,e⟩:=Rr.mp q;obtain⟨a,D,rfl⟩:=BO.mp J;refine F ?_;try clear F
    have e:a=n:=by simpa using e
    exact h (by rw[<-e];exact D)
theorem fC(sn:List AG)(z:AG->Nat):(Er sn z).map (λp=>Ax p.1)=sn.map AE.str:=by unfold Er;rw[EO];rfl
theorem TM{s:AV}(h:∀a∈s.bj,z' a=z a):EG s z' m=EG s z m:=by cases s with|take=>rfl|only n a=>exact h a (.head _)|turn n a=>exact h a (.head _)|gap n a=>exact h a (.head _)|each n a=>exact h a (.head _)|both n a b=>show z' a+z' b=z a+z b;rw[h a (.head _),h b (.tail _ (.head _))]|join n a b=>show z' a*z' b=z a*z b;rw[h a (.head _),h b (.tail _ (.head _))]
structure Iu(mo:Nat)(zs:List AG)(ss:List AV)(z:AG->Nat)(sn:List AG):Prop where
 ako:∀(i:Nat)s,ss[i]?=AA s->zs[i]?=AA s.nm
 va:∀(i:Nat)s a,ss[i]?=AA s->a∈s.bj->∃(i':Nat)(s':AV),i'<i/\ss[i']?=AA s'/\s'.nm=a/\s'.bw=AQ
 ok:∀s∈ss,Lk s
 age:∀s∈ss,∀t∈s.age,DI t
 akr:∀a∈sn,∃(i:Nat)(s:AV),ss[i]?=AA s/\s.nm=a/\s.bw=AQ
 alu:∀(i:Nat)s,ss[i]?=AA s->s.bw=AQ->z s.nm=EG s z mo/\z s.nm<=600
 ne:0<sn.length
structure IH(sn:List AG)(n:AG)(s:AV):Prop where
 nm:s.nm=n
 va:∀a∈s.bj,a∈sn
 ok:Lk s
 age:∀t∈s.age,DI t
theorem ZR:∀t∈Em,DI t:=by
 have:∀t∈Em,∀c∈t.cps.toList,c<128:=by decide+kernel
 exact this
theorem O1.g(h:O1 F n s)(D:∀a∈F,a∈sn)(U:DI n)(J:∀a∈sn,DI a):IH sn n s:=⟨h.nm,λa m=>D a (h.va a m),h.ok,λt m=>by
 rcases h.age t m with rfl|q|q;.exact U
 .exact J _ (D _ q)
 .exact ZR _ q⟩
theorem Qp(F:DI n)(D:DI k):IH sn n (.take n k):=by
 refine⟨rfl,λa h=>(by cases h),trivial,λt h=>?_⟩;have h:t∈[n,k]:=h;simp only[CB,KJ,zB]at h;rcases h with rfl|rfl;.exact F
 .exact D
theorem NZ{l:List D}(h:(l++[x])[i]?=AA y):l[i]?=AA y\/(i=l.length/\y=x):=by
 rcases X6 i l.length with q|q|q;.rw[K9 q]at h;exact .inl h
 . subst q;rw[MV (Al _),X9]at h;exact .inr ⟨rfl,(CM h).symm⟩
 .rw[Xx (by rw[CA];show l.length+1<=i;(first|lia|omega))]at h;cases h
theorem Qn{D:Type}{l:List D}{x y:D}{i:Nat}(h:l[i]?=AA y):(l++[x])[i]?=AA y:=by rw[K9 (BN.mp h).1];exact h
theorem Iu.aiw{D:List AG}{ss:List AV}(h:Iu C D ss z sn)(Z:D.Nodup)(B:D[ss.length]?=AA n):∀(i:Nat)s,ss[i]?=AA s->s.nm≠n:=λi s F e=>by
 have q:=h.ako i s F;rw[e]at q;refine AB λJ=>?_;obtain⟨W,U⟩:=BN.mp q;obtain⟨Y,V⟩:=BN.mp B;refine J ?_;try clear J
 have A:=(BN.mp F).1;exact(E3.mp Z) i ss.length W Y A (U.trans V.symm)
theorem Iu.aix{D:List AG}{ss:List AV}(h:Iu W D ss z sn)(U:D.Nodup)(V:D[ss.length]?=AA n):n∉sn:=λm=>by
 refine AB λF=>?_;obtain⟨i,s,J,e,_⟩:=h.akr n m;refine F ?_;try clear F
 exact h.aiw U V i s J e
theorem Iu.akp{G:List AG}{ss:List AV}(h:Iu Z G ss z sn)(H:G.Nodup)(C:G[ss.length]?=AA n){s:AV}(g:IH sn n s)(E:s.bw=AH/\Y=sn/\z'=z\/s.bw=AQ/\Y=sn++[n]/\z'=GU z n (EG s z Z)/\EG s z Z<=600):Iu Z G (ss++[s]) z' Y:=by
  have I:∀a,a≠n->z' a=z a:=λa D=>by
    rcases E with⟨_,_,rfl⟩|⟨_,_,rfl,_⟩;.rfl
    .exact yX D
  have K:∀a∈sn,a≠n:=λa m e=>h.aix H C (by rw[<-e];exact m);refine⟨λi t A=>?_,λi t a A D=>?_,λt V=>?_,λt V=>?_,λa D=>?_,λi t A V=>?_,?_⟩
  . rcases NZ A with q|⟨rfl,rfl⟩;.exact h.ako i t q
    .rw[g.nm];exact C
  . rcases NZ A with q|⟨rfl,rfl⟩
    . refine AB λU=>?_;obtain⟨W,F,l,J,r⟩:=h.va i t a q D;refine U ?_;try clear U
      exact⟨W,F,l,Qn J,r⟩
    . refine AB λU=>?_;obtain⟨W,F,J,r⟩:=h.akr a (g.va a D);refine U ?_;try clear U
      exact⟨W,F,(BN.mp J).1,Qn J,r⟩
  . rcases DA.mp V with q|q;.exact h.ok t q
    .cases By.mp q;exact g.ok
  . rcases DA.mp V with q|q;.exact h.age t q
    .cases By.mp q;exact g.age
  . have B:a∈sn->∃(i:Nat)(F:AV),(ss++[s])[i]?=AA F/\F.nm=a/\F.bw=AQ:=λm=>by obtain⟨W,F,J,r⟩:=h.akr a m;exact⟨W,F,Qn J,r⟩
    rcases E with⟨_,rfl,_⟩|⟨M,rfl,_⟩;.exact B D
    . rcases DA.mp D with q|q;.exact B q
      . cases By.mp q;exact⟨ss.length,s,by rw[MV (Al _),X9];rfl,g.nm,M⟩
  . rcases NZ A with q|⟨rfl,rfl⟩
    . rw[I _ (h.aiw H C i t q),TM (z':=z') (z:=z) λa D=>?_];.exact h.alu i t q V
      . refine AB λU=>?_;obtain⟨W,F,_,J,rfl,_⟩:=h.va i t a q D;refine U ?_;try clear U
        exact I _ (h.aiw H C W F J)
    . rw[TM (z':=z') (z:=z) λa D=>I a (K a (g.va a D)),g.nm];rcases E with⟨q,_⟩|⟨_,_,rfl,L⟩;.rw[q]at V;cases V
      . rw[show GU z n (EG t z Z) n=EG t z Z from yY rfl];exact⟨rfl,L⟩
  . rcases E with⟨_,rfl,_⟩|⟨_,rfl,_⟩;.exact h.ne
    .rw[CA];exact ES h.ne (oJ _ _)
theorem Iu.adj{A:List AG}(h:Iu G A ss z sn)(E:A.Nodup):Dc ss:=⟨λi U s H e B q=>by
 have J:=h.ako i s e;have C:=h.ako U H B;rw[q]at J;refine AB λY=>?_;obtain⟨V,D⟩:=BN.mp J;obtain⟨W,F⟩:=BN.mp C;refine Y ?_;try clear Y
 have Z:=E3.mp E;rcases X6 i U with r|r|r;.exact absurd (D.trans F.symm) (Z _ _ V W r)
 .exact r
 .exact absurd (F.trans D.symm) (Z _ _ W V r),h.va,h.ok⟩
theorem ZX(wi:Int)(A B:List AU):(CY wi A B).length<=A.length*B.length:=by have h:=TU wi A B;rw[PR,A0]at h;exact h
theorem T5(Z:Dc ss)(D:∀(i:Nat)s,ss[i]?=AA s->s.bw=AQ->z s.nm=EG s z V/\z s.nm<=600){evs:List B7}(Y:evs.length<=V)(W:∀(i:Nat)s,i<N->ss[i]?=AA s->s.bw=AQ->L s.nm=D5 s L evs):∀(m i:Nat)s,m<=N->i<m->ss[i]?=AA s->s.bw=AQ->(L s.nm).length<=z s.nm
 |0,i,s,_,U,_,_=>absurd U (JZ _)|m+1,i,s,I,U,J,F=>by
  have f:∀a∈s.bj,(L a).length<=z a:=λa A=>by obtain⟨B,C,l,q,rfl,E⟩:=Z.va i s a J A;exact T5 Z D Y W m B C (by(first|lia|omega)) (by(first|lia|omega)) q E
  rw[W i s (by(first|lia|omega)) J F,(D i s J F).1];cases s with |take n k=> show((evs.filter _).map Gh).length<=V;rw[A0];exact CL (FY _ _) Y|only n a K U=>exact CL (FY _ _) (f a (.head _))|turn n a x y=>show((L a).map _).length<=_;rw[A0];exact f a (.head _)|both n a b=>show(L b++L a).length<=z a+z b;have G:=f a (.head _);have H:=f b (.tail _ (.head _));rw[CA];(first|lia|omega)|join n a b M=>exact CL (ZX ..) (X7 (f a (.head _)) (f b (.tail _ (.head _))))|gap=>cases F|each=>cases F
theorem Zc(sn:List AG)(h:0<sn.length):∃x,x∈sn/\Ee (sn.map AE.str) (AA (-1)) AF=[x].map AE.str:=by
 have D:(sn.map AE.str).length=sn.length:=A0 _;have F:BW (sn.map AE.str).length 0 (AA (-1))=sn.length-1:=by show(if(-1:Int)<0 then((-1:Int)+((sn.map AE.str).length:Int)).toNat else Cs (-1:Int).toNat (sn.map AE.str).length)=_;rw[yY (by decide),D];(first|lia|omega)
 have J:BW (sn.map AE.str).length (sn.map AE.str).length AF=sn.length:=D;refine⟨sn[sn.length-1]'(by(first|lia|omega)),sO _,?_⟩;unfold Ee;rw[F,J,<-List.map_drop,<-oB,Xt (by(first|lia|omega)),show sn.length-(sn.length-1)=0+1 by(first|lia|omega),List.take_succ_cons];rfl
theorem EL.adm(h:EL H ps ss)(e:Cp H p s):EL H (ps++[.ref p]) (ss++[s]):=Dk h (.cons ⟨p,rfl,e⟩ .nil)
noncomputable def eA(K:Ar):BF:=λY H Q _=>Gw (λ(a:AD)(U:List Int)(D:Nat)=>Y=[.ref a,.int (D:Int)]) (λa U _=>Bc K H a (U.map AE.int)) (λ_ U _=>U.length<=63) (λ_ _ D=>D<=16) (λ_ _ D=>∀l J W F z,Ap H J->H l=AF->J l=AA (.lst W)->EL J W F->Dc F->F.length<=8->(∀s∈F,∀t∈s.age,DI t)->(∀(i:Nat)s,F[i]?=AA s->s.bw=AQ->z s.nm=EG s z D/\z s.nm<=600)->Q (.ref l) J)
theorem bI{K:Ar}{ad:CW}(T:Ba K mg ad):A8 P w K mg base BM 3 ad.mv ad.nc ["_law_script","_law_most"] (eA K):=by
  have G_u_law_cell_at:=NN (P:=P) (w:=w) (base:=base) T;have G_u_law_number:=NO (P:=P) (w:=w) (base:=base) T;have G_u_law_names:=UE (P:=P) (w:=w) (base:=base) T;have G_u_law_scale:=Pk (P:=P) (w:=w) (base:=base) T;have G_u_law_stream:=bS (P:=P) (w:=w) (base:=base) T;have G_u_law_teller:=bV (P:=P) (w:=w) (base:=base) T;have G_u_law_bound:=aB (P:=P) (w:=w) (base:=base) T;refine T.uw.ok VU (λvs H Q E h=>?_) (λcdv A outer s H vs Q E hr h=>?_)
  . refine AB λnG=>?_;obtain⟨a,ns,mo,rfl,_⟩:=h;refine nG ?_;try clear nG
    rfl
  . refine AB λnG=>?_;obtain⟨a,ns,mo,rfl,hS,hl,hmo,k⟩:=h;refine nG ?_;try clear nG
    have nd:=VU.nd;refine⟨_,(Af (Bg (i:=2) nd rfl (BL rfl) (Cj G_u_law_names (hr.bb (by decide)) (by rfl) T.fq T.cx.kp T.fo .nil Bk (AJ (AM 0) (AJ AR (AJ AR AW))))) (Af (Bg (i:=3) nd rfl (BL rfl) (Cj G_u_law_names (hr.bb (by decide)) (by rfl) T.fq T.cx.kp T.fo .nil Bk (AJ (AM 0) (AJ AR (AJ AR AW))))) (Af (Bg (i:=4) nd rfl (BL rfl) (Cj G_u_law_scale (hr.bb (by decide)) (by rfl) T.lj T.fm.kp T.jw .nil Bk (AJ (AM 0) AW))) (Af (Bg (i:=5) nd rfl (BL rfl) (Dl (AJ (Cw (AJ DB (AJ (BC (DL (K:=K)) (AM 2) AR (λ_ _=>rfl)) (AJ (BC (DL (K:=K)) (AM 3) AR (λ_ _=>rfl)) AW)))) AW))) (Af (Bg (i:=6) nd rfl (BL rfl) (kC (kP (BC (DL (K:=K)) (AM 2) AR (λ_ _=>rfl)) (AM 1) kQ) (by rfl) (by rfl) (by intro z;cases z) (by decide))) (Af (Bg (i:=7) nd rfl (BL rfl) AR) (Af (Bg (i:=8) nd rfl (BL rfl) (AX D8 AR (AX B6 (Cj G_u_law_cell_at (hr.bb (by decide)) (by rfl) T.aw T.aq.kp T.au .nil Bk (AJ (AM 0) (AJ AR AW))) AR))) (Af (Bg (i:=9) nd rfl (BL rfl) (AX B6 (AX C8 (Cj G_u_law_cell_at (hr.bb (by decide)) (by rfl) T.aw T.aq.kp T.au .nil Bk (AJ (AM 0) (AJ AR AW))) AR) AR)) (Af (Eh E4 rfl (kM (by rfl) T.vk (AJ AR (AJ (AX D8 (AM 8) AR) AW))) (FE (i:=10) nd rfl (BL rfl)) (Af (Bg (i:=11) nd rfl (BL rfl) (Cj G_u_law_number (hr.bb (by decide)) (by rfl) T.dw T.cp.kp T.dk .nil Bk (AJ (AM 0) (AJ (AX D8 AR (AM 10)) AW)))) (Af (Bg (i:=12) nd rfl (BL rfl) (Ia (Q5 (K:=K) rfl) (by rfl) T.qr LD (AJ (AM 6) AW))) (Af (Bg (i:=13) nd rfl (BL rfl) (Cj G_u_law_stream (hr.bb (by decide)) (by rfl) T.ql T.il.kp T.ot .nil Bk (AJ (BC (DL (K:=K)) (AM 2) (AM 10) (λ_ _=>rfl)) (AJ (AM 11) (AJ (AM 12) (AJ (AM 4) AW)))))) (Af (Ic (CT (Bt C7 (AM 10) (AM 8) (Br _)) (Ak (Bg (i:=13) nd rfl (BL rfl) (Cj G_u_law_teller (hr.bb (by decide)) (by rfl) T.qm T.ip.kp T.ou .nil Bk (AJ (BC (DL (K:=K)) (AM 2) (AM 10) (λ_ _=>rfl)) (AJ (AM 11) (AJ (AX Gn (Fl (Ho (K:=K)) (AM 12) (FF (Rf Xl AR)) GZ) (AX jW (AM 12) (AX F5 AR (AM 9)))) (AJ (AM 4) AW))))))) (Ak (CT (Nk (W7 (Bt C7 (AM 10) (AX F5 (AM 8) AR) (Br _)) (W8 (Bt C7 (AM 9) AR (Br _))))) (Ak (Bg (i:=13) nd rfl (BL rfl) (Cj G_u_law_stream (hr.bb (by decide)) (by rfl) T.ql T.il.kp T.ot .nil Bk (AJ (BC (DL (K:=K)) (AM 2) (AM 10) (λ_ _=>rfl)) (AJ (AX D8 (AX Eg (AX C8 (AM 11) AR) AR) AR) (AJ (AM 12) (AJ (AM 4) AW))))))) (Ak (CT (Bt C7 (AX B6 (AM 11) AR) AR (Br _)) (Ak (Bg (i:=13) nd rfl (BL rfl) (Cw (AJ DB (AJ (BC (DL (K:=K)) (AM 2) (AM 10) (λ_ _=>rfl)) (AJ (BC (DL (K:=K)) (AM 3) (AX B6 (AX C8 (AM 11) AR) AR) (λ_ _=>rfl)) AW)))))) (Ak (CT (Nk (OF (Bt C7 (AX B6 (AM 11) AR) AR (Br _)) (OF (Bt C7 (AX B6 (AM 11) AR) AR (Br _)) (W9 (Bt C7 (AM 7) AR (Br _)))))) (Ak (Bg (i:=13) nd rfl (BL rfl) (Cj G_u_law_teller (hr.bb (by decide)) (by rfl) T.qm T.ip.kp T.ou .nil Bk (AJ (BC (DL (K:=K)) (AM 2) (AM 10) (λ_ _=>rfl)) (AJ (AM 11) (AJ (AM 12) (AJ (AM 4) AW))))))) C1)))))))) (Af (Ic (CT (Bt (jV (K:=K)) (BC (CD (K:=K)) (AM 13) AR (λ_ _=>rfl)) (Cw (AJ DB (AJ DB AW))) (by with_unfolding_all rfl)) (Af (Ic (CT (Bt N9 (Cj G_u_law_bound (hr.bb (by decide)) (by rfl) T.rh T.ji.kp T.rf .nil Bk (AJ (AM 13) (AJ (AM 6) (AJ (AM 1) AW)))) AR (Br _)) (Ak (Bg (i:=13) nd rfl (BL rfl) (Cw (AJ DB (AJ (BC (DL (K:=K)) (AM 2) (AM 10) (λ_ _=>rfl)) (AJ (BC (DL (K:=K)) (AM 3) AR (λ_ _=>rfl)) AW)))))) C1)) (Af (JS hr.u1 (AM 6) (BC (DL (K:=K)) (AM 2) (AM 10) (λ_ _=>rfl)) (Cj G_u_law_bound (hr.bb (by decide)) (by rfl) T.rh T.ji.kp T.rf .nil Bk (AJ (AM 13) (AJ (AM 6) (AJ (AM 1) AW)))) rfl) (Ak (Bg (i:=7) nd rfl (BL rfl) (AX D8 (AM 7) (Ia Vx (by rfl) T.ahq oO (AJ (MH (RU (K:=K)) (BC (CD (K:=K)) (AM 13) AR (λ_ _=>rfl)) (Cw (AJ DB (AJ DB AW))) (by with_unfolding_all rfl)) AW))))))) C1)) (Ak (Fn (JP (K:=K) Mc SG pH RM (AM 5) (AJ (AM 13) AW)))))))))) (Ak (BE (AM 5)))))))))))),?_⟩;have sz:Aw=16777216:=DN;refine⟨_,rfl,a,ns,1,8,rfl,hS,hl,by decide,by decide,by decide,λln Ha zs sa hln eln lz dz az=>?_⟩;refine⟨_,rfl,a,ns,2,2,rfl,sa.abt hS,hl,by decide,by decide,by decide,λlk Hk ks sk hlk elk lks _ ak=>?_⟩;have lz:zs.length=8:=by(first|lia|omega)
    have lks:ks.length=2:=by(first|lia|omega)
    have sak:=sa.aa sk;refine⟨_,rfl,a,ns,rfl,sak.abt hS,hl,λc Hb sb hc=>?_⟩;have s0b:=sak.aa sb;have elnb:=sb _ _ (sk _ _ eln);have elkb:=sb _ _ elk;have hSb:=s0b.abt hS;clear sa sk hln hlk eln elk sak sb;have natz:∀{i:Nat}{n:AG},zs[i]?=AA n->Cb (zs.map AE.str) (i:Int)=AA (.str n):=λ{i n}e=>Aq (xs:=zs.map AE.str) (v:=.str n) (by rw[Bx,e];rfl);refine AB λnG=>?_;obtain⟨n0,en0⟩:∃n,zs[0]?=AA n:=⟨_,Cm (by(first|lia|omega))⟩;obtain⟨k0,ek0⟩:∃n,ks[0]?=AA n:=⟨_,Cm (by(first|lia|omega))⟩;refine nG ?_;try clear nG
    have atk0:Cb (ks.map AE.str) 0=AA (.str k0):=Aq (xs:=ks.map AE.str) (j:=0) (v:=.str k0) (by rw[Bx,ek0];rfl);have an0:DI n0:=az _ (DW en0);have ak0:DI k0:=ak _ (DW ek0);refine⟨_,rfl,ln,_,_,_,rfl,rfl,Ai elnb,natz en0,_,rfl,lk,_,_,_,rfl,rfl,Ai elkb,atk0,C2 rfl,λp0 hp0=>?_⟩;have g1:=Be (o:=.tup [AE.str "take",.str n0,.str k0]) hp0;have ep0:Cp (AN Hb p0 (.tup [AE.str "take",.str n0,.str k0])) p0 (.take n0 k0):=Ab;generalize AN Hb p0 (.tup [AE.str "take",.str n0,.str k0])=Hc at g1 ep0⊢;refine⟨C2 rfl,λu hu=>?_⟩;have g2:=Be (o:=.lst [AE.ref p0]) hu;have eu:(AN Hc u (.lst [AE.ref p0])) u=AA (.lst [AE.ref p0]):=Ab;generalize AN Hc u (.lst [AE.ref p0])=Hd at g2 eu⊢;refineλd hd=>?_;have g3:=Be (o:=.dK []) hd;have ed:(AN Hd d (.dK [])) d=AA (.dK []):=Ab;generalize hHe:AN Hd d (.dK [])=He at g3 ed⊢;refine⟨_,rfl,ln,_,_,_,rfl,rfl,Ai (g3 _ _ (g2 _ _ (g1 _ _ elnb))),natz en0,_,rfl,ed,[(.inr n0,.int (mo:Int))],rfl,C2 rfl,?_⟩;have g4:Ap Hb (AN He d (.dK (Hm [] [(.inr n0,.int (mo:Int))]))):=by rw[<-hHe];exact((g1.aa g2).aa (Be hd)).agb ((g1.aa g2).bh hd)
    have ed4:(AN He d (.dK (Hm [] [(.inr n0,.int (mo:Int))]))) d=AA (.dK (Er [n0] λ_=>mo)):=Ab;have nud:u≠d:=BS eu hd;have npd:p0≠d:=BS (g2 _ _ ep0) hd;have eu4:(AN He d (.dK (Hm [] [(.inr n0,.int (mo:Int))]))) u=AA (.lst [AE.ref p0]):=by rw[Ac nud];exact g3 _ _ eu
    have ep4:Cp (AN He d (.dK (Hm [] [(.inr n0,.int (mo:Int))]))) p0 (.take n0 k0):=by show(AN He d _) p0=_;rw[Ac npd];exact g3 _ _ (g2 _ _ ep0)
    have fu:Hb u=AF:=g1.bh hu;have fd:Hb d=AF:=(g1.aa g2).bh hd;generalize AN He d (.dK (Hm [] [(.inr n0,.int (mo:Int))]))=H0 at g4 ed4 eu4 ep4⊢;clear g1 g2 g3 ed eu ep0 hHe;refine⟨_,rfl,a,ns,_,rfl,g4.abt hSb,by decide,hl,λc1=>⟨_,_,rfl,rfl,(by decide:(0:Int)<6),_,_,rfl,rfl,?_⟩⟩;refine⟨_,rfl,a,ns,_,rfl,g4.abt hSb,by decide,hl,λc2=>⟨_,_,rfl,rfl,⟨by decide,by decide⟩,_,_,rfl,rfl,(by decide:(0:Int)<2),?_⟩⟩;have b6:0<=c1%6/\c1%6<6:=⟨FJ _ (by decide),Fu _ (by decide)⟩;have b2:0<=c2/6%2/\c2/6%2<2:=⟨FJ _ (by decide),Fu _ (by decide)⟩;generalize c1%6=m1 at b6⊢;have pl0:Iu mo zs [.take n0 k0] (λ_=>mo) [n0]:=by
      refine⟨λi s e=>?_,λi s x e hx=>?_,λs hs=>?_,λs hs=>?_,λx hx=>?_,λi s e _=>?_,Nat.one_pos⟩;.match i,e with|0,e=>cases e;exact en0
      .match i,e with|0,e=>cases e;cases hx
      .cases By.mp hs;trivial
      .cases By.mp hs;exact(Qp (sn:=[]) an0 ak0).age
      .cases By.mp hx;exact⟨0,_,rfl,rfl,rfl⟩
      .match i,e with|0,e=>cases e;exact⟨rfl,CL hmo (by decide)⟩
    refine⟨_,rfl,_,_,rfl,rfl,1,_,rfl,⟨by decide,by decide,by(first|lia|omega),by(first|lia|omega)⟩,?_⟩;refine RB (λj σ H'=>TH (λ(o10 o11 o12 o13:Option AE)(wd:Int)(ps:List AE)(ss:List AV)(z:AG->Nat)(sn:List AG)=>σ=[AA (.ref a),AA (.int (mo:Int)),AA (.ref ln),AA (.ref lk),AA (.int c),AA (.ref u),AA (.ref d),AA (.int wd),AA (.int (2+m1)),AA (.int (c2/6%2)),o10,o11,o12,o13]) (λ_ _ _ _ _ _ _ _ _=>Ap Hb H') (λ_ _ _ _ _ ps _ _ _=>H' u=AA (.lst ps)) (λ_ _ _ _ _ ps ss _ _=>EL H' ps ss) (λ_ _ _ _ _ _ ss _ _=>ss.length=j+1) (λ_ _ _ _ _ _ _ z sn=>H' d=AA (.dK (Er sn z))) (λ_ _ _ _ _ _ _ _ sn=>sn.length<=j+1) (λ_ _ _ _ _ _ ss z sn=>Iu mo zs ss z sn)) ⟨AF,AF,AF,AF,1,_,_,_,_,rfl,g4,eu4,.cons ⟨p0,rfl,ep4⟩ .nil,rfl,ed4,Al _,pl0⟩ ?_ ?_
    . clear g4 ed4 eu4 ep4 pl0;intro j σ H1 hj hI;refine AB λnG=>?_;obtain⟨o10,o11,o12,o13,wd,ps,ss,z,sn,rfl,s1,eu1,pr1,ls1,ed1,lsn,pl1⟩:=hI;have hj8:j<7:=by(first|lia|omega)
      obtain⟨n,en⟩:∃n,zs[j+1]?=AA n:=⟨_,Cm (by(first|lia|omega))⟩;refine nG ?_;try clear nG
      have an:DI n:=az _ (DW en);have atn:Cb (zs.map AE.str) (1+(j:Int))=AA (.str n):=by have:=natz en;rwa[show(((j+1:Nat)):Int)=1+(j:Int)by(first|lia|omega)]at this
      have asn:∀x∈sn,DI x:=λx hx=>by obtain⟨i,s,ei,rfl,_⟩:=pl1.akr x hx;exact az _ (DW (pl1.ako i s ei))
      have enl:zs[ss.length]?=AA n:=by rw[ls1];exact en
      refine⟨_,rfl,_,rfl,_,_,rfl,rfl,a,ns,_,rfl,s1.abt hSb,hl,by(first|lia|omega),λnn nn0=>?_⟩;refine⟨_,rfl,d,_,rfl,ed1,λls hls=>?_⟩;rw[fC];have g1:=Be (o:=.lst (sn.map AE.str)) hls;have els:(AN H1 ls (.lst (sn.map AE.str))) ls=AA (.lst (sn.map AE.str)):=Ab;generalize AN H1 ls (.lst (sn.map AE.str))=H2 at g1 els⊢;refine⟨_,rfl,_,rfl,ln,_,_,_,rfl,rfl,Ai (g1 _ _ (s1 _ _ elnb)),atn,_,rfl,_,rfl,_,rfl,n,nn,c,ls,sn,rfl,els,pl1.ne,hc,λp1 H3 st1 g2 ep1 ht1 so1=>?_⟩;have s3:=s1.aa (g1.aa g2);have els3:=g2 _ _ els;have hln3:Bc K H3 ln _:=Ai (s3 _ _ elnb);have rest:∀{x:AE}{p:AD}{st:AV}{H':AI},Ap H3 H'->Cp H' p st->IH sn n st->x=.ref p->(λ(σ':List (Option AE))(H':AI)=>Kf (λ(p:AD)(st:AV)=>σ'=[AA (AE.ref a),AA (.int (mo:Int)),AA (.ref ln),AA (.ref lk),AA (.int c),AA (.ref u),AA (.ref d),AA (.int wd),AA (.int (2+m1)),AA (.int (c2/6%2)),AA (.int (1+(j:Int))),AA (.int nn),AA (.ref ls),AA (.ref p)]) (λ_ _=>Ap H3 H') (λp st=>Cp H' p st) (λ_ st=>IH sn n st)) [AA (AE.ref a),AA (.int (mo:Int)),AA (.ref ln),AA (.ref lk),AA (.int c),AA (.ref u),AA (.ref d),AA (.int wd),AA (.int (2+m1)),AA (.int (c2/6%2)),AA (.int (1+(j:Int))),AA (.int nn),AA (.ref ls),AA x] H':=λs e g q=>⟨_,_,by rw[q],s,e,g⟩;refine IS (λσ' H'=>Kf (λ(p:AD)(st:AV)=>σ'=[AA (AE.ref a),AA (.int (mo:Int)),AA (.ref ln),AA (.ref lk),AA (.int c),AA (.ref u),AA (.ref d),AA (.int wd),AA (.int (2+m1)),AA (.int (c2/6%2)),AA (.int (1+(j:Int))),AA (.int nn),AA (.ref ls),AA (.ref p)]) (λ_ _=>Ap H3 H') (λp st=>Cp H' p st) (λ_ st=>IH sn n st)) ?_ ?_
      . refine⟨_,rfl,_,rfl,rfl,_,rfl,Dp (λ_=>?_) λ_=>?_⟩
        . refine AB λnG=>?_;obtain⟨x,hx,ex⟩:=Zc sn pl1.ne;refine nG ?_;try clear nG
          refine⟨_,rfl,_,rfl,ln,_,_,_,rfl,rfl,hln3,atn,_,rfl,_,rfl,_,rfl,(-1:Int),rfl,ls,_,rfl,Ai els3,λl1 hl1=>?_⟩;rw[ex];have h1:=Be (o:=.lst ([x].map AE.str)) hl1;have el1:(AN H3 l1 (.lst ([x].map AE.str))) l1=AA (.lst ([x].map AE.str)):=Ab;generalize AN H3 l1 (.lst ([x].map AE.str))=H4 at h1 el1⊢;have jb:(1-c2/6%2).toNat<=1:=by(first|lia|omega)
          refine⟨_,rfl,_,rfl,_,_,rfl,rfl,ls,_,_,rfl,rfl,h1 _ _ els3,by(first|lia|omega),by(first|lia|omega),?_,λl2 hl2=>?_⟩
          . rw[A0];have:=X7 (show sn.length<=8 by(first|lia|omega)) jb;(first|lia|omega)
          have el2:(AN H4 l2 (.lst (Dz (1-c2/6%2).toNat (sn.map AE.str)).flatten)) l2=AA (.lst ((Dz (1-c2/6%2).toNat sn).flatten.map AE.str)):=by rw[Ab,List.map_flatten,List.map_replicate]
          have h2:=Be (o:=.lst (Dz (1-c2/6%2).toNat (sn.map AE.str)).flatten) hl2;generalize AN H4 l2 (.lst (Dz (1-c2/6%2).toNat (sn.map AE.str)).flatten)=H5 at h2 el2⊢;have lr:=WZ sn (1-c2/6%2).toNat;have lr1:=X7 jb (show sn.length<=8 by(first|lia|omega));refine⟨l1,l2,_,_,rfl,rfl,h2 _ _ el1,el2,?_,λl3 hl3=>?_⟩
          . rw[A0,A0,lr];show 1+_<=_;(first|lia|omega)
          have el3:(AN H5 l3 (.lst ([x].map AE.str++(Dz (1-c2/6%2).toNat sn).flatten.map AE.str))) l3=AA (.lst (([x]++(Dz (1-c2/6%2).toNat sn).flatten).map AE.str)):=by rw[Ab,C9]
          have h3:=Be (o:=.lst ([x].map AE.str++(Dz (1-c2/6%2).toNat sn).flatten.map AE.str)) hl3;generalize AN H5 l3 (.lst ([x].map AE.str++(Dz (1-c2/6%2).toNat sn).flatten.map AE.str))=H6 at h3 el3⊢;refine⟨_,rfl,n,nn,c,l3,_,rfl,el3,YA _,hc,λp H' st s ep ht so=>rest ((h1.aa (h2.aa h3)).aa s) ep (so.g (λy hy=>?_) an asn) rfl⟩;rcases DA.mp hy with q|q;.cases By.mp q;exact hx
          . refine AB λnG=>?_;obtain⟨l,hl,hy⟩:=List.mem_flatten.mp q;refine nG ?_;try clear nG
            rw[(List.mem_replicate.mp hl).2]at hy;exact hy
        . have tk:∀{H':AI}{kd:AG},Ap H3 H'->kd∈ks->∀p,H' p=AF->(λ(σ':List (Option AE))(H':AI)=>Kf (λ(p:AD)(st:AV)=>σ'=[AA (AE.ref a),AA (.int (mo:Int)),AA (.ref ln),AA (.ref lk),AA (.int c),AA (.ref u),AA (.ref d),AA (.int wd),AA (.int (2+m1)),AA (.int (c2/6%2)),AA (.int (1+(j:Int))),AA (.int nn),AA (.ref ls),AA (.ref p)]) (λ_ _=>Ap H3 H') (λp st=>Cp H' p st) (λ_ st=>IH sn n st)) [AA (AE.ref a),AA (.int (mo:Int)),AA (.ref ln),AA (.ref lk),AA (.int c),AA (.ref u),AA (.ref d),AA (.int wd),AA (.int (2+m1)),AA (.int (c2/6%2)),AA (.int (1+(j:Int))),AA (.int nn),AA (.ref ls),AA (.ref p)] (AN H' p (.tup [.str "take",.str n,.str kd])):=λ{H' kd}s hk p hp=>rest (s.gf hp) (st:=.take n kd) Ab (Qp an (ak _ hk)) rfl;refine AB λnG=>?_;obtain⟨v,hvk,hmk⟩:=Gk (ks.map AE.str) 2 (by rw[A0,lks];rfl) (by decide) (nn/7);obtain⟨kd,mk,rfl⟩:=BO.mp hmk;refine nG ?_;try clear nG
          refine⟨_,rfl,_,rfl,_,_,rfl,rfl,rfl,_,rfl,Dp (λ_=>⟨_,rfl,rfl,_,rfl,Dp (λ_=>?_) λ_=>?_⟩) λ_=>Hj ?_⟩;.exact⟨_,rfl,_,rfl,ln,_,_,_,rfl,rfl,hln3,atn,_,rfl,_,_,rfl,rfl,⟨by decide,by decide⟩,_,_,rfl,rfl,.inr ⟨by decide,by decide⟩,_,_,rfl,rfl,_,rfl,_,rfl,n,_,c,ls,sn,rfl,els3,pl1.ne,hc,λp H' st s ep ht so=>rest s ep (so.g (λ_ h=>h) an asn) rfl⟩
          . refine⟨_,rfl,_,_,rfl,rfl,(by decide:(0:Int)<7),rfl,_,rfl,Dp (λ_=>?_) λ_=>?_⟩;.exact⟨_,rfl,_,rfl,ln,_,_,_,rfl,rfl,hln3,atn,_,rfl,_,rfl,_,_,rfl,rfl,⟨by decide,by decide⟩,_,_,rfl,rfl,(by decide:(0:Int)<2),lk,_,_,_,rfl,rfl,Ai (s3 _ _ elkb),hvk,C2 rfl,λp hp=>tk (Cu _) mk p hp⟩
            .refine⟨_,rfl,_,_,rfl,rfl,(by decide:(0:Int)<7),rfl,_,rfl,Dp (λ_=>KA ?_) λ_=>⟨_,rfl,_,_,rfl,rfl,(by decide:(0:Int)<7),rfl,_,rfl,Dp (λ_=>KA ?_) λ_=>⟨_,rfl,rfl,_,rfl,Dp (λ_=>?_) λ_=>rest (Cu _) ep1 (so1.g (λ_ h=>h) an asn) rfl⟩⟩⟩<;>exact⟨_,rfl,_,rfl,ln,_,_,_,rfl,rfl,hln3,atn,_,rfl,_,rfl,_,rfl,n,nn,c,ls,sn,rfl,els3,pl1.ne,hc,λp H' st s ep ht so=>rest s ep (so.g (λ_ h=>h) an asn) rfl⟩
          . refine⟨_,rfl,_,_,rfl,rfl,(by decide:(0:Int)<7),rfl,_,rfl,Dp (λ_=>?_) λ_=>?_⟩;.exact⟨_,rfl,_,rfl,ln,_,_,_,rfl,rfl,hln3,atn,_,rfl,_,rfl,_,_,rfl,rfl,⟨by decide,by decide⟩,_,_,rfl,rfl,(by decide:(0:Int)<2),lk,_,_,_,rfl,rfl,Ai (s3 _ _ elkb),hvk,C2 rfl,λp hp=>tk (Cu _) mk p hp⟩
            .refine⟨_,rfl,_,_,rfl,rfl,(by decide:(0:Int)<7),rfl,_,rfl,Dp (λ_=>KA ?_) λ_=>⟨_,rfl,_,_,rfl,rfl,(by decide:(0:Int)<7),rfl,_,rfl,Dp (λ_=>KA ?_) λ_=>⟨_,rfl,rfl,_,rfl,Dp (λ_=>?_) λ_=>rest (Cu _) ep1 (so1.g (λ_ h=>h) an asn) rfl⟩⟩⟩<;>exact⟨_,rfl,_,rfl,ln,_,_,_,rfl,rfl,hln3,atn,_,rfl,_,rfl,_,rfl,n,nn,c,ls,sn,rfl,els3,pl1.ne,hc,λp H' st s ep ht so=>rest s ep (so.g (λ_ h=>h) an asn) rfl⟩
      . intro σ' H4 hI;refine AB λnG=>?_;obtain⟨p,st,rfl,s4,ep,sg⟩:=hI;refine nG ?_;try clear nG
        have sb4:=s3.aa s4;have g14:=(g1.aa g2).aa s4;have eu4:=g14 _ _ eu1;have ed4:=g14 _ _ ed1;have pr4:=pr1.ab g14.tp;clear rest g1 g2 g14 els els3 hln3 s3 s4 eu1 ed1 pr1 ep1 so1;have nin:=pl1.aix dz enl;refine IS (λσ' H'=>Sz (λ(p:AD)(st:AV)(wd:Int)(z':AG->Nat)(sn':List AG)=>σ'=[AA (AE.ref a),AA (.int (mo:Int)),AA (.ref ln),AA (.ref lk),AA (.int c),AA (.ref u),AA (.ref d),AA (.int wd),AA (.int (2+m1)),AA (.int (c2/6%2)),AA (.int (1+(j:Int))),AA (.int nn),AA (.ref ls),AA (.ref p)]) (λ_ _ _ _ _=>Ap Hb H') (λ_ _ _ _ _=>H' u=AA (.lst ps)) (λ_ _ _ _ _=>EL H' ps ss) (λ_ _ _ z' sn'=>H' d=AA (.dK (Er sn' z'))) (λ_ _ _ _ sn'=>sn'.length<=j+2) (λp st _ _ _=>Cp H' p st) (λ_ st _ z' sn'=>Iu mo zs (ss++[st]) z' sn')) ?_ ?_
        . refine AB λnG=>?_;obtain⟨e0,e1,_⟩:=ep.gx (K:=K);refine nG ?_;try clear nG
          refine⟨_,rfl,p,_,_,_,rfl,rfl,e0,e1,C2 rfl,λq hq=>?_⟩;have g5:=Be (o:=.tup Fv) hq;refine⟨_,Fv,rfl,.inr (As Ab),rfl,rfl,_,rfl,IV (λht=>?_) λht=>?_⟩
          . have tf:st.bw=AQ:=by have ht:(!D7 (.str st.gx) Fv)=AH:=ht;rw[Qr]at ht;simpa using ht
            have sb5:=sb4.aa g5;have eu5:=g5 _ _ eu4;have ed5:=g5 _ _ ed4;have pr5:=pr4.ab g5.tp;have ep5:=ep.tp g5.tp;have g5:Ap H4 (AN H4 q (.tup [AE.str "each",.str "gap"])):=g5;have sb5:Ap Hb (AN H4 q (.tup [AE.str "each",.str "gap"])):=sb5;have eu5:(AN H4 q (.tup [AE.str "each",.str "gap"])) u=_:=eu5;have ed5:(AN H4 q (.tup [AE.str "each",.str "gap"])) d=_:=ed5;have pr5:EL (AN H4 q (.tup [AE.str "each",.str "gap"])) ps ss:=pr5;have ep5:Cp (AN H4 q (.tup [AE.str "each",.str "gap"])) p st:=ep5;generalize AN H4 q (.tup [AE.str "each",.str "gap"])=H5 at g5 sb5 eu5 ed5 pr5 ep5⊢;have hz:∀{st:AV},IH sn n st->∀a∈st.bj,Bm (Er sn z) (.inr a)=AA (.int (z a:Int))/\z a<=600:=λ{st}g x hx=>by refine⟨fM (g.va x hx),?_⟩;obtain⟨i,s',ei,rfl,t'⟩:=pl1.akr x (g.va x hx);exact(pl1.alu i s' ei t').2
            refine IS (λσ' H'=>Sm (λ(p:AD)(st:AV)=>σ'=[AA (AE.ref a),AA (.int (mo:Int)),AA (.ref ln),AA (.ref lk),AA (.int c),AA (.ref u),AA (.ref d),AA (.int wd),AA (.int (2+m1)),AA (.int (c2/6%2)),AA (.int (1+(j:Int))),AA (.int nn),AA (.ref ls),AA (.ref p)]) (λ_ _=>Ap H5 H') (λp st=>Cp H' p st) (λ_ st=>IH sn n st) (λ_ st=>st.bw=AQ) (λ_ st=>EG st z mo<=600)) ?_ ?_;. refine⟨_,rfl,_,rfl,_,rfl,p,d,st,_,z,mo,rfl,ep5,ed5,hz sg,_,_,rfl,rfl,_,rfl,G6 (λh=>?_) λh=>⟨p,st,rfl,Cu _,ep5,sg,tf,by(first|lia|omega)⟩⟩;exact⟨_,rfl,_,rfl,ln,_,_,_,rfl,rfl,Ai (sb5 _ _ elnb),atn,_,rfl,lk,_,_,_,rfl,rfl,Ai (sb5 _ _ elkb),atk0,C2 rfl,λp2 hp2=>⟨p2,.take n k0,rfl,Be hp2,Ab,Qp an ak0,rfl,by show mo<=600;(first|lia|omega)⟩⟩
            . intro σ' H6 hI;refine AB λnG=>?_;obtain⟨p,st,rfl,s6,ep6,sg6,tf6,hb6⟩:=hI;refine nG ?_;try clear nG
              have ed6:=s6 _ _ ed5;refine⟨_,rfl,_,rfl,_,rfl,p,d,st,_,z,mo,rfl,ep6,ed6,hz sg6,_,rfl,_,rfl,_,rfl,ln,_,_,_,rfl,rfl,Ai (s6 _ _ (sb5 _ _ elnb)),atn,d,_,rfl,J3 (k:=.inr n) ed6 ?_,?_⟩
              . unfold Er;rw[A0];(first|lia|omega)
              rw[cE nin];have ndo:∀{b:AD}{o:Bh},H6 b=AA o->(∀kv,o≠.dK kv)->b≠d:=λeo hn z=>by rw[z,ed6]at eo;exact hn _ (CM eo).symm
              have k7:∀{b:AD}{o:Bh},H6 b=AA o->(∀kv,o≠.dK kv)->(AN H6 d (.dK (Er (sn++[n]) (GU z n (EG st z mo))))) b=AA o:=λeo hn=>by rw[Ac (ndo eo hn)];exact eo
              have tp7:Bp H6 (AN H6 d (.dK (Er (sn++[n]) (GU z n (EG st z mo))))):=λb xs eo=>k7 eo (by intro kv z;cases z);have sb7:Ap Hb (AN H6 d (.dK (Er (sn++[n]) (GU z n (EG st z mo))))):=(sb5.aa s6).agb fd;have eu7:=k7 (s6 _ _ eu5) (by intro kv z;cases z);have ed7:(AN H6 d (.dK (Er (sn++[n]) (GU z n (EG st z mo))))) d=AA (.dK (Er (sn++[n]) (GU z n (EG st z mo)))):=Ab;have pr7:=(pr5.ab s6.tp).ab tp7;have ep7:=ep6.tp tp7;generalize AN H6 d (.dK (Er (sn++[n]) (GU z n (EG st z mo))))=H7 at sb7 eu7 ed7 pr7 ep7⊢;refine AB λnG=>?_;obtain⟨f0,f1,_⟩:=ep7.gx (K:=K);refine nG ?_;try clear nG
              refine⟨_,rfl,_,rfl,p,_,_,_,rfl,rfl,f0,f1,C2 rfl,λq7 hq7=>?_⟩;have g8:=Be (o:=.tup GO) hq7;refine⟨_,GO,rfl,.inr (As Ab),rfl,rfl,.inr ⟨_,rfl,_,_,rfl,rfl,?_⟩⟩;refine⟨p,st,_,GU z n (EG st z mo),sn++[n],rfl,sb7.aa g8,g8 _ _ eu7,pr7.ab g8.tp,g8 _ _ ed7,?_,ep7.tp g8.tp,pl1.akp dz enl sg6 (.inr ⟨tf6,rfl,rfl,hb6⟩)⟩;rw[CA];show sn.length+1<=_;(first|lia|omega)
          . have tt:st.bw=AH:=by have ht:(!D7 (.str st.gx) Fv)=AQ:=ht;rw[Qr]at ht;simpa using ht
            exact⟨p,st,wd,z,sn,rfl,sb4.aa g5,g5 _ _ eu4,pr4.ab g5.tp,g5 _ _ ed4,by(first|lia|omega),ep.tp g5.tp,pl1.akp dz enl sg (.inl ⟨tt,rfl,rfl⟩)⟩
        . intro σ' H5 hI;refine AB λnG=>?_;obtain⟨p,st,wd,z',sn',rfl,s5,eu5,pr5,ed5,l5,ep5,pl5⟩:=hI;refine nG ?_;try clear nG
          refine⟨_,rfl,.inl ⟨rfl,_,Ai eu5⟩,_,rfl,u,ps,_,rfl,rfl,eu5,?_,?_⟩;.rw[pr5.dh];(first|lia|omega)
          have tp6:Bp H5 (AN H5 u (.lst (ps++[.ref p]))):=(Hh H5).gf eu5 λxs=>by intro z;cases z
          have ndu:d≠u:=λz=>by rw[z,eu5]at ed5;cases ed5
          exact⟨_,_,_,_,_,_,_,_,_,rfl,s5.agb fu,Ab,(pr5.adm ep5).ab tp6,by rw[CA,ls1];rfl,by rw[Ac ndu];exact ed5,by(first|lia|omega),pl5⟩
    . intro σ H1 hI;refine AB λnG=>?_;obtain⟨o10,o11,o12,o13,wd,ps,ss,z,sn,rfl,s1,eu1,pr1,ls1,ed1,lsn,pl1⟩:=hI;refine nG ?_;try clear nG
      exact⟨_,rfl,k u H1 ps ss z (s0b.aa s1) (s0b.bh fu) eu1 pr1 (pl1.adj dz) (by(first|lia|omega)) pl1.age pl1.alu⟩
noncomputable def dE(K:Ar):BF:=λJ H Q _=>Gw (λ(a:AD)(D:List Int)(k:Int)=>J=[.ref a,.int k]) (λa D _=>Bc K H a (D.map AE.int)) (λ_ D _=>D.length<=63) (λ_ _ k=>0<=k) (λ_ _ _=>∀p F e,Ap H F->H p=AF->HM F p e->DI e.2.1->DI e.2.2.1->0<=e.1/\e.1<=1000000000->Q (.ref p) F)
theorem aJ{K:Ar}{ad:CW}(T:Ba K mg ad):A8 P w K mg base BM 3 ad.jq ad.kh ["_law_script","_law_k"] (dE K):=by
  have D:=NN (P:=P) (w:=w) (base:=base) T;have J:=NO (P:=P) (w:=w) (base:=base) T;have F:=UE (P:=P) (w:=w) (base:=base) T;have U:=Pk (P:=P) (w:=w) (base:=base) T;refine T.qy.ok VQ (λvs H Q E h=>?_) (λcdv A outer s H vs Q E G h=>?_)
  . refine AB λW=>?_;obtain⟨a,B,k,rfl,_⟩:=h;refine W ?_;try clear W
    rfl
  . refine AB λW=>?_;obtain⟨a,B,i,rfl,g,C,X,k⟩:=h;refine W ?_;try clear W
    have z:=VQ.nd;refine⟨_,(Af (Bg (i:=2) z rfl (BL rfl) (Cj J (G.bb (by decide)) (by rfl) T.dw T.cp.kp T.dk .nil Bk (AJ (AM 0) (AJ (AX D8 (AM 1) AR) AW)))) (Af (Bg (i:=3) z rfl (BL rfl) (Cj U (G.bb (by decide)) (by rfl) T.lj T.fm.kp T.jw .nil Bk (AJ (AM 0) AW))) (Af (Bg (i:=4) z rfl (BL rfl) (AX D8 (AX Eg (AX B6 (Cj D (G.bb (by decide)) (by rfl) T.aw T.aq.kp T.au .nil Bk (AJ (AM 0) (AJ (AM 1) AW))) AR) (AM 3)) (AX Eg (AX B6 (AM 2) AR) (Ia Vx (by rfl) T.ahq oO (AJ (MH N9 (AM 3) AR (Br _)) AW))))) (Af (Ic (CT (Bt C7 (AX B6 (AX C8 (Cj D (G.bb (by decide)) (by rfl) T.aw T.aq.kp T.au .nil Bk (AJ (AM 0) (AJ (AM 1) AW))) AR) AR) AR (Br _)) (Ak (Bg (i:=4) z rfl (BL rfl) (AX B6 (AX B6 (AX Eg (AM 2) AR) AR) AR))) C1)) (Af (Ic (CT (Bt C7 (AX B6 (AX C8 (Cj D (G.bb (by decide)) (by rfl) T.aw T.aq.kp T.au .nil Bk (AJ (AM 0) (AJ (AM 1) AW))) AR) AR) AR (Br _)) (Ak (Bg (i:=4) z rfl (BL rfl) (AX F5 AR (AX B6 (AX C8 (Cj D (G.bb (by decide)) (by rfl) T.aw T.aq.kp T.au .nil Bk (AJ (AM 0) (AJ (AM 1) AW))) AR) AR)))) C1)) (Af (Bg (i:=5) z rfl (BL rfl) (BC (DL (K:=K)) (Cj F (G.bb (by decide)) (by rfl) T.fq T.cx.kp T.fo .nil Bk (AJ (AM 0) (AJ AR (AJ AR AW)))) (AX B6 (AX C8 (AM 2) AR) AR) (λ_ _=>rfl))) (Af (Bg (i:=6) z rfl (BL rfl) (Cj F (G.bb (by decide)) (by rfl) T.fq T.cx.kp T.fo .nil Bk (AJ (AM 0) (AJ AR (AJ (BC (DL (K:=K)) (Dl (AJ AR (AJ AR (AJ AR AW)))) (AX B6 (AX C8 (Cj D (G.bb (by decide)) (by rfl) T.aw T.aq.kp T.au .nil Bk (AJ (AM 0) (AJ AR AW))) AR) AR) (λ_ _=>rfl)) AW))))) (Af (Bg (i:=7) z rfl (BL rfl) (BC (DL (K:=K)) (AM 6) (AX B6 (AX C8 (AM 2) AR) (DQ (Hi (K:=K)) (by rfl) T.gy GB (AJ (AM 6) AW))) (λ_ _=>rfl))) (Af (Bg (i:=8) z rfl (BL rfl) (AX F5 (AX B6 (AX C8 (AM 2) AR) AR) AR)) (Af (Ic (CT (Bt C7 (AX B6 (AX C8 (AM 2) AR) AR) AR (Br _)) (Ak (Bg (i:=8) z rfl (BL rfl) (AX F5 (AX B6 (AX Eg (AM 2) AR) AR) AR))) C1)) (Ak (BE (Cw (AJ (AM 4) (AJ (AM 5) (AJ (AM 7) (AJ (AM 8) AW))))))))))))))))),?_⟩;refine⟨_,rfl,_,rfl,_,_,rfl,rfl,a,B,_,rfl,g,C,by(first|lia|omega),λI nn0=>?_⟩;refine⟨_,rfl,a,B,rfl,g,C,λc Hb sb hc=>?_⟩;have Z:=sb.abt g;have c0:1<=c/\c<=40000:=by(first|lia|omega)
    refine⟨_,rfl,_,rfl,a,B,_,rfl,Z,X,C,λL=>⟨_,_,rfl,rfl,(by decide:(0:Int)<40),_,rfl,_,_,rfl,rfl,.inr ⟨by(first|lia|omega),by(first|lia|omega)⟩,_,rfl,_,_,rfl,rfl,(by decide:(0:Int)<3),_,rfl,_,_,rfl,rfl,.inr ⟨_,rfl,?_⟩⟩⟩;have m3:0<=I%3/\I%3<3:=⟨FJ _ (by decide),Fu _ (by decide)⟩;refine⟨_,_,rfl,rfl,.inl ⟨by(first|lia|omega),by(first|lia|omega)⟩,_,_,rfl,rfl,?_⟩;have q:0<=L%40*c+(I%3*if Ae (1<c)=AH then 1 else 0)/\L%40*c+(I%3*if Ae (1<c)=AH then 1 else 0)<=1000000000:=by
      have m4:0<=L%40/\L%40<=39:=by(first|lia|omega)
      have u1:0<=L%40*c:=Ow m4.1 (by(first|lia|omega));have u2:L%40*c<=39*c:=rT m4.2 (by(first|lia|omega));split<;>(first|lia|omega)
    refine IS (λY d=>∃(t:Int),(0<=t/\t<=1000000000)/\Y=[AA (.ref a),AA (.int i),AA (.int I),AA (.int c),AA (.int t),AF,AF,AF,AF]/\d=Hb) ?_ ?_;. refine⟨_,rfl,_,rfl,a,B,_,rfl,Z,X,C,λc2=>⟨_,_,rfl,rfl,⟨by decide,by decide⟩,_,_,rfl,rfl,(by decide:(0:Int)<9),rfl,_,rfl,Dp (λ_=>?_) λ_=>⟨_,q,rfl,rfl⟩⟩⟩;exact⟨_,rfl,_,_,rfl,rfl,.inr ⟨by decide,by decide⟩,_,_,rfl,rfl,(by decide:(0:Int)<1000000007),_,_,rfl,rfl,(by decide:(0:Int)<1000000001),_,⟨FJ _ (by decide),Int.le_of_lt_add_one (Fu _ (by decide))⟩,rfl,rfl⟩
    intro Y d O;refine AB λW=>?_;obtain⟨t,q,rfl,rfl⟩:=O;refine W ?_;try clear W
    refine IS (λY H2=>∃(t:Int),(0<=t/\t<=1000000000)/\Y=[AA (.ref a),AA (.int i),AA (.int I),AA (.int c),AA (.int t),AF,AF,AF,AF]/\H2=d) ?_ ?_
    . refine⟨_,rfl,_,rfl,a,B,_,rfl,Z,X,C,λc2=>⟨_,_,rfl,rfl,⟨by decide,by decide⟩,_,_,rfl,rfl,(by decide:(0:Int)<9),rfl,_,rfl,Dp (λ_=>?_) λ_=>⟨_,q,rfl,rfl⟩⟩⟩;exact⟨_,rfl,_,rfl,a,B,_,rfl,Z,X,C,λc3=>⟨_,_,rfl,rfl,⟨by decide,by decide⟩,_,_,rfl,rfl,(by decide:(0:Int)<3),_,_,rfl,rfl,_,⟨by(first|lia|omega),by(first|lia|omega)⟩,rfl,rfl⟩⟩
    intro Y H2 O;refine AB λW=>?_;obtain⟨t,q,rfl,rfl⟩:=O;refine W ?_;try clear W
    refine⟨_,rfl,a,B,2,2,rfl,Z,C,by decide,by decide,by decide,λlk Hk ks sk _ f u _ ak=>?_⟩;refine AB λW=>?_;obtain⟨v,hv,hm⟩:=Gk (ks.map AE.str) 2 (by rw[A0];exact u) (by decide) (I/16);obtain⟨kd,mk,rfl⟩:=BO.mp hm;refine W ?_;try clear W
    refine⟨_,rfl,_,_,rfl,rfl,⟨by decide,by decide⟩,_,_,rfl,rfl,(by decide:(0:Int)<2),lk,_,_,_,rfl,rfl,Ai f,hv,?_⟩;have R:=sk.abt Z;refine⟨_,rfl,C2 rfl,λb l=>?_⟩;have N:=Be (o:=.lst [AE.int 3,.int 3,.int 9]) l;have e1:(AN Hk b (.lst [AE.int 3,.int 3,.int 9])) b=AA (.lst [AE.int 3,.int 3,.int 9]):=Ab;generalize AN Hk b (.lst [AE.int 3,.int 3,.int 9])=H3 at N e1⊢;refine⟨_,rfl,a,B,_,rfl,N.abt R,by decide,C,λc4=>?_⟩;refine AB λW=>?_;obtain⟨v,n,S⟩:=Gk [AE.int 3,.int 3,.int 9] 3 rfl (by decide) (c4/12);obtain⟨m,rfl,hm4⟩:∃m:Int,v=.int m/\(m=3\/m=9):=by
      simp only[CB,KJ,zB]at S;rcases S with rfl|rfl|rfl;.exact⟨_,rfl,.inl rfl⟩
      .exact⟨_,rfl,.inl rfl⟩
      .exact⟨_,rfl,.inr rfl⟩
    refine W ?_;try clear W
    refine⟨_,_,rfl,rfl,⟨by decide,by decide⟩,_,_,rfl,rfl,(by decide:(0:Int)<3),b,_,_,_,rfl,rfl,Ai e1,n,a,B,3,m,rfl,N.abt R,C,by decide,by(first|lia|omega),by(first|lia|omega),λx H4 ys sy _ M lys _ ay=>?_⟩;have l0:(0:Int)<((ys.map AE.str).length:Int):=by rw[A0];(first|lia|omega)
    refine AB λW=>?_;obtain⟨v,r,j⟩:=Gk (ys.map AE.str) _ rfl l0 (I/32);obtain⟨y,my,rfl⟩:=BO.mp j;refine W ?_;try clear W
    refine⟨_,rfl,_,rfl,_,_,rfl,rfl,⟨by decide,by decide⟩,_,rfl,x,_,rfl,.inl (Ai M),_,_,rfl,rfl,l0,x,_,_,_,rfl,rfl,Ai M,r,?_⟩;refine⟨_,rfl,_,_,rfl,rfl,⟨by decide,by decide⟩,_,_,rfl,rfl,(by decide:(0:Int)<13),_,_,rfl,rfl,?_⟩;refine IS (λY H5=>∃(e:Int),Y=[AA (.ref a),AA (.int i),AA (.int I),AA (.int c),AA (.int t),AA (.str kd),AA (.ref x),AA (.str y),AA (.int e)]/\H5=H4) ?_ ?_
    . refine⟨_,rfl,_,_,rfl,rfl,⟨by decide,by decide⟩,_,_,rfl,rfl,(by decide:(0:Int)<8),rfl,_,rfl,Dp (λ_=>?_) λ_=>⟨_,rfl,rfl⟩⟩;exact⟨_,rfl,_,_,rfl,rfl,.inr ⟨by decide,by decide⟩,_,_,rfl,rfl,(by decide:(0:Int)<2000000001),_,_,rfl,rfl,_,rfl,rfl⟩
    intro Y H5 O;refine AB λW=>?_;obtain⟨e,rfl,rfl⟩:=O;refine W ?_;try clear W
    exact⟨_,rfl,_,rfl,_,rfl,_,rfl,C2 rfl,λp hp=>k p _ (t,kd,y,e) ((sb.aa (sk.aa (N.aa sy))).gf hp) ((sb.aa (sk.aa (N.aa sy))).bh hp) Ab (ak _ mk) (ay _ my) q⟩
noncomputable abbrev Dd:=Int×Int×Int×Int
noncomputable abbrev Aa:=Int×Int×Dd
noncomputable abbrev GP:=Int×Int
noncomputable def FN(a b:Dd):Dd:=(a.1+b.1,a.2.1+b.2.1,Cs a.2.2.1 b.2.2.1,Gb a.2.2.2 b.2.2.2)
noncomputable def HR(a:Int):Dd:=(1,a,a,a)
theorem Zz(a b:Int):(if b<a then b else a)=Cs a b:=by(first|lia|omega)
theorem LZ(a b:Dd):FN a b=FN b a:=by unfold FN;grind
theorem TJ(a b c:Dd):FN (FN a b) c=FN a (FN b c):=by unfold FN;grind
noncomputable def Bw(s e:Int)(t:Dd):List Aa->List Aa|[]=>[(s,e,t)]|b::r=>if b.1<s then b::Bw s e t r else if b.1=s then(s,b.2.1,FN b.2.2 t)::r else(s,e,t)::b::r
noncomputable def EM(l:List Aa):Prop:=l.Pairwise λa b=>a.1<b.1
theorem Tq:∀{l:List Aa}{x:Aa},x∈Bw s e t l->x.1=s\/x∈l
  |[],x,h=>.inl (by rw[By.mp h])|b::r,x,h=>by
    unfold Bw at h;split at h
    . rcases CB.mp h with h|h;.grind
      .exact(Tq h).imp id (by grind)
    grind
theorem Pd:∀{l:List Aa},EM l->EM (Bw s e t l)
 |[],_=>oI _ _|b::r,h=>by
  obtain⟨J,F⟩:=Ga.mp h;unfold Bw;split
  . refine Ga.mpr ⟨λx D=>?_,Pd F⟩;rcases Tq D with z|z;all_goals grind
  split;.exact Ga.mpr (by grind)
  . refine Ga.mpr ⟨λx D=>?_,h⟩;grind
theorem To:∀{l:List Aa},(Bw s e t l).length<=l.length+1
 |[]=>Al _|b::r=>by
  unfold Bw;split;.exact tI To
  grind
theorem Tt{s e s' U:Int}{t t':Dd}(h:s=s'->e=U):∀{l:List Aa},Bw s' U t' (Bw s e t l)=Bw s e t (Bw s' U t' l)
  |[]=>by
    by_cases z:s=s';.have:=h z;subst z this;simp[Bw,LZ]
    . by_cases y:s<s';.simp[Bw,y,show¬s'<s by(first|lia|omega),show s'≠s by(first|lia|omega)]
      .simp[Bw,y,show s'<s by(first|lia|omega),show s≠s' by(first|lia|omega)]|b::r=>by
    have W:=@Tt s e s' U t t' h r;by_cases F:b.1<s<;>by_cases J:b.1<s';.simp[Bw,F,J,W]
    . by_cases D:b.1=s';.simp[Bw,F,D,show s'<s by(first|lia|omega)]
      .simp[Bw,F,J,D,show s'<s by(first|lia|omega)]
    . by_cases D:b.1=s;.simp[Bw,J,D,show s<s' by(first|lia|omega)]
      .simp[Bw,F,J,D,show s<s' by(first|lia|omega)]
    . by_cases D:b.1=s<;>by_cases V:b.1=s'
      . have z:s=s':=by(first|lia|omega)
        have:=h z;subst z this;simp[Bw,D,TJ,LZ t t']
      .simp[Bw,D,show¬s<s' by(first|lia|omega),show s'<s by(first|lia|omega),show s≠s' by(first|lia|omega)]
      .simp[Bw,V,show¬s'<s by(first|lia|omega),show s<s' by(first|lia|omega),show s'≠s by(first|lia|omega)]
      . by_cases z:s=s'
        . have:=h z;subst z this;simp[Bw,F,D,LZ]
        . by_cases y:s<s';.simp[Bw,F,J,D,V,y,show¬s'<s by(first|lia|omega),show s'≠s by(first|lia|omega),by(first|lia|omega)]
          .simp[Bw,F,J,D,V,y,show s'<s by(first|lia|omega),show s≠s' by(first|lia|omega)]
noncomputable def DJ(w:Int)(p:Aa):Bool:=Ae (w<p.2.1)
theorem Tn:∀{l:List Aa},(∀x∈l,s<x.1)->Bw s e t l=(s,e,t)::l|[],_=>rfl|b::r,h=>by have:=h b DR;simp[Bw,show¬b.1<s by(first|lia|omega),show b.1≠s by(first|lia|omega)]
theorem Ts{w s e:Int}{t:Dd}(U:w<e):∀{l:List Aa},EM l->(∀b∈l,b.1=s->w<b.2.1)->(Bw s e t l).filter (DJ w)=Bw s e t (l.filter (DJ w))/\(Bw s e t l).filter (λp=>!DJ w p)=l.filter λp=>!DJ w p
  |[],_,_=>by simp[Bw,DJ,U]|b::r,u,h=>by
    obtain⟨Z,u2⟩:=Ga.mp u;have W:=@Ts w s e t U r u2 (by grind);by_cases D:b.1<s;.cases c:DJ w b<;>simp[Bw,D,c,W.1,W.2]
    . by_cases F:b.1=s
      . have V:=h b DR F;have Y:DJ w b=AH:=y3 V;have J:DJ w (s,b.2.1,FN b.2.2 t)=AH:=y3 V;simp[Bw,D,F,Y,J]
      . have J:DJ w (s,e,t)=AH:=y3 U;cases c:DJ w b
        . simp only[Bw,D,F,y8,FX,J,c,y9,rN,rM,Jg,and_true];exact(Tn (by grind)).symm
        .simp[Bw,D,F,J,c]
noncomputable def CO(b p:Aa):Aa:=(Cs b.1 p.1,Gb b.2.1 p.2.1,FN b.2.2 p.2.2)
theorem NG(a b:Aa):CO a b=CO b a:=by unfold CO;rw[LZ];grind
theorem NF(a b c:Aa):CO (CO a b) c=CO a (CO b c):=by unfold CO;rw[TJ];grind
noncomputable def CC(p:Aa):List Aa->List Aa|[]=>[p]|b::r=>if b.2.1<=p.1 then b::CC p r else if p.2.1<=b.1 then p::b::r else CC (CO b p) r
noncomputable def GI(l:List Aa):Prop:=(∀b∈l,b.1<b.2.1)/\l.Pairwise λa b=>a.2.1<=b.1
theorem NK:∀{l:List Aa}{p:Aa},x<=p.1->(∀b∈l,x<=b.1)->∀b∈CC p l,x<=b.1
  |[],p,h,_,b,D=>by rw[By.mp D];exact h|c::r,p,h,J,b,D=>by
    have F:=λb D=>J b (ER _ D);unfold CC at D;split at D
    . rcases CB.mp D with z|z;.grind
      .exact NK h F b z
    split at D;.grind
    .exact NK (by unfold CO;grind) F b D
theorem NJ:∀{l:List Aa}{p:Aa},p.1<p.2.1->GI l->GI (CC p l)
 |[],p,h,_=>⟨λb D=>by rw[By.mp D];exact h,oI _ _⟩|c::r,p,h,⟨U,J⟩=>by
  obtain⟨V,u2⟩:=Ga.mp J;have F:GI r:=⟨(by grind),u2⟩;unfold CC;split
  . obtain⟨i1,i2⟩:=NJ h F;refine⟨λb D=>?_,Ga.mpr ⟨λb D=>NK (by grind) (by grind) b D,i2⟩⟩;grind
  split
  . refine⟨λb D=>?_,Ga.mpr (by grind)⟩;all_goals grind
  .exact NJ (by unfold CO;grind) F
theorem Pj:∀{l:List Aa}{p:Aa},(CC p l).length<=l.length+1
 |[],_=>Al _|b::r,p=>by
  unfold CC;split;.exact tI Pj
  split;.simp
  .exact CL Pj (by simp)
theorem Jp:∀{l:List Aa}{p q:Aa},q.1<p.2.1->p.1<q.2.1->(∀b∈l,b.1<b.2.1)->CC q (CC p l)=CC (CO p q) l
  |[],p,q,W,Y,_=>by simp[CC,show¬p.2.1<=q.1 by(first|lia|omega),show¬q.2.1<=p.1 by(first|lia|omega)]|b::r,p,q,W,Y,z=>by
    have Z:=z b DR;have V:=λb Z=>z b (ER _ Z);by_cases F:b.2.1<=p.1
    . by_cases D:b.2.1<=q.1
      . have:b.2.1<=(CO p q).1:=by unfold CO;grind
        simp[CC,F,D,this,Jp W Y V]
      . have J:¬b.2.1<=(CO p q).1:=by unfold CO;grind
        have U:¬(CO p q).2.1<=b.1:=by unfold CO;grind
        simp only[CC,F,D,y9,y8,show¬q.2.1<=b.1 by(first|lia|omega),J,U];rw[Jp (by unfold CO;grind) (by unfold CO;grind) V,NG b (CO p q),NF,NG q b]
    . by_cases D:p.2.1<=b.1;.simp[CC,F,D,show¬p.2.1<=q.1 by(first|lia|omega),show¬q.2.1<=p.1 by(first|lia|omega)]
      . have J:¬b.2.1<=(CO p q).1:=by unfold CO;grind
        have U:¬(CO p q).2.1<=b.1:=by unfold CO;grind
        simp only[CC,F,D,y8,J,U];rw[Jp (by unfold CO;grind) (by unfold CO;grind) V,NF]
theorem Z3{p:Aa}:∀{l:List Aa},p.1<p.2.1->(∀b∈l,b.1<b.2.1)->(∀b∈l,p.2.1<=b.1)->CC p l=p::l|[],_,_,_=>rfl|b::r,h,D,F=>by have:=D b DR;have:=F b DR;simp[CC,show¬b.2.1<=p.1 by(first|lia|omega),by(first|lia|omega)]
theorem NI:∀{l:List Aa}{p q:Aa},p.1<p.2.1->q.1<q.2.1->p.2.1<=q.1->GI l->CC q (CC p l)=CC p (CC q l)
  |[],p,q,W,U,h,_=>by simp[CC,h,show¬q.2.1<=p.1 by(first|lia|omega)]|b::r,p,q,W,U,h,J=>by
    obtain⟨z,u2⟩:=Ga.mp J.2;have Z:=J.1 b DR;have F:GI r:=⟨λb Z=>J.1 b (by grind),u2⟩;by_cases D:b.2.1<=p.1;.simp[CC,D,show b.2.1<=q.1 by(first|lia|omega),NI W U h F]
    . by_cases V:p.2.1<=b.1
      . have e:=Z3 W (NJ U J).1 (NK h (by grind));rw[e];simp[CC,D,V,h]
      . by_cases Y:b.2.1<=q.1;. simp only[CC,D,V,Y,y9,y8];exact NI (by unfold CO;grind) U (by unfold CO;grind) F
        . simp only[CC,D,V,Y,y8,show¬q.2.1<=b.1 by(first|lia|omega)];rw[Jp (by unfold CO;grind) (by unfold CO;grind) F.1,Jp (by unfold CO;grind) (by unfold CO;grind) F.1,NF,NF,NG p q]
theorem Z4{p q:Aa}(F:p.1<p.2.1)(J:q.1<q.2.1)(D:GI l):CC q (CC p l)=CC p (CC q l):=by
 by_cases U:p.2.1<=q.1;.exact NI F J U D
 by_cases V:q.2.1<=p.1;.exact(NI J F V D).symm
 rw[Jp (by(first|lia|omega)) (by(first|lia|omega)) D.1,Jp (by(first|lia|omega)) (by(first|lia|omega)) D.1,NG]
theorem T8:∀{l:List Aa}{p:Aa},w<=p.1->p.1<p.2.1->GI l->(CC p l).filter (DJ w)=CC p (l.filter (DJ w))/\(CC p l).filter (λp=>!DJ w p)=l.filter λp=>!DJ w p
  |[],p,h,Y,_=>by simp[CC,DJ,show w<p.2.1 by(first|lia|omega)]|b::r,p,h,Y,W=>by
    obtain⟨C,u2⟩:=Ga.mp W.2;have U:GI r:=⟨λb V=>W.1 b (by grind),u2⟩;cases c:DJ w b;. have hw:=zA c;have F:=T8 h Y U;simp[CC,show b.2.1<=p.1 by(first|lia|omega),c,F.1,F.2]
    . have hw:=y6 c;have Z:∀{l:List Aa},(∀x∈l,w<x.2.1)->l.filter (DJ w)=l/\l.filter (λp=>!DJ w p)=[]:=λ{l}h=>⟨nX.mpr λx D=>y3 (h x D),OO.mpr λx D=>by simp[DJ,h x D]⟩;have q:∀x∈b::r,w<x.2.1:=λx D=>by
        rcases CB.mp D with z|z;.rw[z];exact hw
        .have:=C x z;have:=U.1 x z;(first|lia|omega)
      have E:∀x∈CC p (b::r),w<x.2.1:=by
        have J:∀{l:List Aa}{p:Aa},w<p.2.1->(∀x∈l,w<x.2.1)->∀x∈CC p l,w<x.2.1:=λ{l}=>by induction l with |nil=>intro p h _ x D;rw[By.mp D];exact h|cons c l F=>
            intro p h A x D;have B:=λb V=>A b (ER _ V);unfold CC at D;split at D;.grind
            split at D;.grind
            .exact F (by unfold CO;simp only;(first|lia|omega)) B x D
        exact J (by(first|lia|omega)) q
      grind
noncomputable def DO(p x:Aa):Bool:=Ae (x.1<p.2.1)&&Ae (p.1<x.2.1)
theorem Ph:∀{l:List Aa}{p:Aa},p.1<p.2.1->GI l->Bw (((l.filter (DO p)).map (·.1)).foldl Cs p.1) (((l.filter (DO p)).map (·.2.1)).foldl Gb p.2.1) ((l.filter (DO p)).foldl (λt x=>FN t x.2.2) p.2.2) (l.filter λx=>!DO p x)=CC p l
  |[],p,_,_=>rfl|b::r,p,A,U=>by
    obtain⟨B,u2⟩:=Ga.mp U.2;have z:=U.1 b DR;have J:GI r:=⟨λb z=>U.1 b (by grind),u2⟩;by_cases F:b.2.1<=p.1
    . have o:DO p b=AQ:=by unfold DO;grind
      have G:∀{m:List Int}{a:Int},b.2.1<=a->(∀x∈m,b.2.1<=x)->b.2.1<=m.foldl Cs a:=λ{m}=>by induction m with|nil=>grind|cons x m D=>exactλC q=>D (by have:=q x DR;(first|lia|omega)) (by grind)
      have E:b.2.1<=((r.filter (DO p)).map (·.1)).foldl Cs p.1:=(by grind);simp only[FX,o,rM,y9,Jg,y8,CC,F];rw[<-Ph A J];exact yY (by(first|lia|omega))
    . by_cases W:p.2.1<=b.1
      . have H:∀x∈b::r,DO p x=AQ:=λx V=>by unfold DO;grind
        rw[OO.mpr (by grind),nX.mpr (by grind)];simp only[CC,F,W,y9,y8];exact Tn (by grind)
      . have o:DO p b=AH:=by unfold DO;grind
        have same:∀x∈r,DO p x=DO (CO b p) x:=λx V=>by have:=B x V;have:=J.1 x V;unfold DO CO;grind
        have D:=Ph (p:=CO b p) (by unfold CO;grind) J;have Y:=MT same;have Z:(r.filter λx=>!DO p x)=r.filter λx=>!DO (CO b p) x:=MT (by grind);rw[<-Y,<-Z,show(CO b p).1=Cs p.1 b.1 from Int.min_comm _ _,show(CO b p).2.1=Gb p.2.1 b.2.1 from Int.max_comm _ _,show(CO b p).2.2=FN p.2.2 b.2.2 from LZ _ _]at D;simp only[FX,o,rN,y9,Jg,y8,CC,F,W,DM,n8];exact D
theorem PN:∀{l:List Aa},GI l->EM l|[],_=>.nil|b::r,h=>by obtain⟨F,u2⟩:=Ga.mp h.2;exact Ga.mpr ⟨λx D=>by have:=F x D;have:=h.1 b DR;(first|lia|omega),PN ⟨λb J=>h.1 b (by grind),u2⟩⟩
noncomputable def HQ(t z d:Int):List Int:=(Fp (D9 (((t-z)/d+1)*d) (t+1) d)).map λk:Nat=>((t-z)/d+1)*d+(k:Int)*d
structure O3(t z d:Int):Prop where
 d1:1<=d
 d2:d<=200000
 z1:d<=z
 z2:z<=4*d
 t1:0<=t
 t2:t<=1000000000
theorem PY{t z d:Int}(h:1<=d):t-z<((t-z)/d+1)*d/\((t-z)/d+1)*d<=t-z+d:=by have D:=Int.mul_ediv_add_emod (t-z) d;have F:=FJ (t-z) (show d≠0 by(first|lia|omega));have J:=Fu (t-z) (show 0<d by(first|lia|omega));grind
theorem Qo(h:O3 t z d):(HQ t z d).length<=5/\D9 (((t-z)/d+1)*d) (t+1) d<=5:=by
 refine AB λD=>?_;obtain⟨F,J,U,V,W,Y⟩:=h;refine D ?_;try clear D
 have f:=(PY (t:=t) (z:=z) F).1;have:D9 (((t-z)/d+1)*d) (t+1) d<=5:=by
  unfold D9;split
  . have:(t+1-((t-z)/d+1)*d-1)/d<=4:=Int.ediv_le_of_le_mul (by(first|lia|omega)) (by(first|lia|omega));(first|lia|omega)
  . (first|lia|omega)
 exact⟨by unfold HQ;grind,this⟩
noncomputable def UM(t a z d:Int)(l:List Aa):List Aa:=(HQ t z d).foldl (λl s=>Bw s (s+z) (HR a) l) l
theorem Pc:∀{ss:List Int}{l:List Aa},EM l->EM (ss.foldl (λl s=>Bw s (s+z) x l) l)/\(ss.foldl (λl s=>Bw s (s+z) x l) l).length<=l.length+ss.length|[],l,h=>(by grind)|s::ss,l,h=>by obtain⟨i1,i2⟩:=Pc (ss:=ss) (z:=z) (x:=x) (Pd (s:=s) (e:=s+z) (t:=x) h);have:=To (s:=s) (e:=s+z) (t:=x) (l:=l);grind
theorem Vg{D F:Type}{f:F->D->F}{l:List D}{b:F}{i:Nat}{x:D}(h:l[i]?=AA x):(l.take (i+1)).foldl f b=f ((l.take i).foldl f b) x:=by rw[Ds,h,sH];rfl
noncomputable def FO(w:Int)(l:List Aa):List Aa:=l.filter (DJ w)
noncomputable def EX(w:Int)(l:List Aa):List Aa:=l.filter λp=>!DJ w p
noncomputable def AV.fw:AV->Prop|.gap _ _ _ m=>0<=m|.each _ _ _ z d=>1<=d/\d<=200000/\d<=z/\z<=4*d|_=>False
noncomputable def AV.uv(s:AV)(t a:Int)(l:List Aa):List Aa:=match s with|.each _ _ _ z d=>UM t a z d l|.gap _ _ _ m=>CC (t,t+m+1,HR a) l|_=>l
noncomputable def AV.gd(s:AV)(l:List Aa):Prop:=match s with|.each _ _ _ z _=>EM l/\∀b∈l,b.2.1=b.1+z|.gap ..=>GI l|_=>EM l
theorem fB(h:1<=d)(F:s∈HQ t z d):t<s+z:=by
 refine AB λD=>?_;obtain⟨k,_,rfl⟩:=BO.mp F;refine D ?_;try clear D
 have:=PY (t:=t) (z:=z) h;have:0<=(k)*d:=Ow (by(first|lia|omega)) (by(first|lia|omega));(first|lia|omega)
noncomputable def Fw(z:Int)(x:Dd)(l:List Aa)(s:Int):List Aa:=Bw s (s+z) x l
noncomputable def LX(z:Int)(l:List Aa):Prop:=EM l/\∀b∈l,b.2.1=b.1+z
theorem Tj(h:LX z l):LX z (Fw z x l s):=by
 refine⟨Pd h.1,?_⟩;have:∀{l:List _},(∀b∈l,b.2.1=b.1+z)->∀b∈Bw s (s+z) x l,b.2.1=b.1+z:=λ{l}=>by induction l with |nil=>intro _ b D;rw[By.mp D]|cons c l F=> intro h b D;unfold Bw at D;grind
 exact this h.2
theorem Tf:∀{ss:List Int}{l:List Aa},LX z l->LX z (ss.foldl (Fw z x) l)|[],_,h=>h|s::ss,l,h=>Tf (ss:=ss) (Tj h)
theorem Tg:∀{ss:List Int}{l:List Aa},Fw z y (ss.foldl (Fw z x) l) s=ss.foldl (Fw z x) (Fw z y l s)|[],_=>rfl|r::ss,l=>by show Fw z y (ss.foldl _ _) s=_;rw[Tg];show _=ss.foldl _ _;congr 1;exact Tt (by grind)
theorem Ti{ss:List Int}:∀{D:List Int}{l:List Aa},D.foldl (Fw z y) (ss.foldl (Fw z x) l)=ss.foldl (Fw z x) (D.foldl (Fw z y) l)|[],_=>rfl|r::D,l=>by show D.foldl _ _=_;rw[Tg,Ti];rfl
theorem Th:∀{ss:List Int}{l:List Aa},(∀s∈ss,w<s+z)->LX z l->FO w (ss.foldl (Fw z x) l)=ss.foldl (Fw z x) (FO w l)/\EX w (ss.foldl (Fw z x) l)=EX w l
 |[],_,_,_=>⟨rfl,rfl⟩|s::ss,l,h,F=>by
  have D:=h s DR;refine AB λJ=>?_;obtain⟨W,U⟩:=Ts D F.1 λb V e=>by rw[F.2 b V,e];exact D
  obtain⟨i1,i2⟩:=Th (ss:=ss) (λs D=>h s (by grind)) (Tj F);refine J ?_;try clear J
  refine⟨i1.trans ?_,i2.trans U⟩;show ss.foldl _ _=ss.foldl _ _;congr 1
theorem AV.aed{s:AV}(D:s.fw)(h:s.gd l):s.gd (s.uv t a l):=by unfold AV.gd AV.uv AV.fw at*;cases s with|each _ _ _ z d=>exact Tf h|gap _ _ _ m=>exact NJ (show t<t+m+1 by have:0<=m:=D;(first|lia|omega)) h|_=>cases D
theorem AV.abo{s:AV}(D:s.fw)(h:s.gd l):s.uv t' F (s.uv t a l)=s.uv t a (s.uv t' F l):=by unfold AV.gd AV.uv AV.fw at*;cases s with|each _ _ _ z d=>exact Ti|gap _ _ _ m=>exact Z4 (show t<t+m+1 by have:0<=m:=D;(first|lia|omega)) (show t'<t'+m+1 by have:0<=m:=D;(first|lia|omega)) h|_=>cases D
theorem AV.amj{s:AV}(D:s.fw)(h:s.gd l)(J:w<=t):FO w (s.uv t a l)=s.uv t a (FO w l)/\EX w (s.uv t a l)=EX w l:=by unfold AV.gd AV.uv AV.fw at*;cases s with|each _ _ _ z d=>exact Th (λr F=>by have:=fB D.1 F;(first|lia|omega)) h|gap _ _ _ m=>exact T8 J (show t<t+m+1 by have:0<=m:=D;(first|lia|omega)) h|_=>cases D
theorem ZS{s:AV}{m:List Aa}(h:s.gd l)(D:m.Sublist l):s.gd m:=by unfold AV.gd at*;cases s with|each _ _ _ z d=>exact⟨h.1.sublist D,λb F=>h.2 b (D.mem F)⟩|gap _ _ _ m=>exact⟨λb F=>h.1 b (D.mem F),h.2.sublist D⟩|_=>exact h.sublist D
theorem O0{s:AV}(h:s.gd l):EM l:=by unfold AV.gd at h;cases s with|each _ _ _ z d=>exact h.1|gap _ _ _ m=>exact PN h|_=>exact h
theorem AV.alh{s:AV}:s.gd []:=by unfold AV.gd;cases s with|each _ _ _ z d=>exact⟨.nil,(by grind)⟩|gap _ _ _ m=>exact⟨(by grind),.nil⟩|_=>exact .nil
theorem AV.dh{s:AV}{l:List Aa}(D:s.fw)(F:0<=t/\t<=1000000000)(U:s.gd l):(s.uv t a l).length<=l.length+5:=by unfold AV.uv AV.fw at*;cases s with|each _ _ _ z d=>have J:=(Pc (z:=z) (x:=HR a) (ss:=HQ t z d) U.1).2;have V:=(Qo ⟨D.1,D.2.1,D.2.2.1,D.2.2.2,F.1,F.2⟩).1;exact CL J (by(first|lia|omega))|gap _ _ _ m=>exact CL Pj (by(first|lia|omega))|_=>cases D
noncomputable def EN(s:AV)(l:List GP):List Aa:=l.foldl (λl x=>s.uv x.1 x.2 l) []
theorem Zh{s:AV}{ps:List GP}(D:s.fw):∀{l:List Aa},s.gd l->s.gd (ps.foldl (λl x=>s.uv x.1 x.2 l) l):=by induction ps with|nil=>grind|cons p ps F=>exactλh=>F (s.aed D h)
theorem Zi{s:AV}{ps F:List GP}(D:s.fw)(h:ps.Perm F):∀{l:List Aa},s.gd l->ps.foldl (λl x=>s.uv x.1 x.2 l) l=F.foldl (λl x=>s.uv x.1 x.2 l) l:=by induction h with|nil=>grind|cons x _ J=>exactλh=>J (s.aed D h)|swap x y l=>exactλh=>by show l.foldl _ _=l.foldl _ (s.uv _ _ _);rw[s.abo D h]|trans _ _ U V=>grind
theorem PK{s:AV}{ps:List GP}(F:s.fw)(h:ps.Perm D):EN s ps=EN s D:=Zi F h s.alh
theorem M9{s:AV}(D:s.fw):s.gd (EN s ps):=Zh D s.alh
theorem TL{s:AV}{x:GP}:EN s (ps++[x])=s.uv x.1 x.2 (EN s ps):=by unfold EN;grind
theorem ZT{s:AV}(F:s.fw):∀{ps:List GP},(∀x∈D,w<=x.1)->EX w (EN s (ps++D))=EX w (EN s ps):=by induction D with|nil=>grind|cons x D J=>intro ps h;rw[List.append_cons,J (by grind),TL];exact(s.amj F (M9 F) (by grind)).2
theorem TK{s:AV}{ps:List GP}(F:s.fw)(J:∀x∈ps,0<=x.1/\x.1<=1000000000):(EN s ps).length<=5*ps.length:=by
 have:∀{ps:List GP}{l:List _},(∀x∈ps,0<=x.1/\x.1<=1000000000)->s.gd l->(ps.foldl (λl x=>s.uv x.1 x.2 l) l).length<=l.length+5*ps.length:=λ{ps}=>by induction ps with|nil=>grind|cons x ps U=> intro l h D;have V:=U (by grind) (s.aed (t:=x.1) (a:=x.2) F D);have W:=s.dh (a:=x.2) F (h x DR) D;grind
 have:=this J s.alh;unfold EN;grind
noncomputable def Gv(H:AI)(q:AD)(t:Dd):Prop:=H q=AA (.tup [.int t.1,.int t.2.1,.int t.2.2.1,.int t.2.2.2])
noncomputable def Se(H:AI)(x:AE)(p:Aa):Prop:=∃a q,x=.ref a/\H a=AA (.tup [.int p.1,.int p.2.1,.ref q])/\Gv H q p.2.2
noncomputable def DZ(H:AI)(xs:List AE)(ps:List Aa):Prop:=BP (Se H) xs ps
theorem DZ.ab(h:DZ H xs ps)(t:Bp H H'):DZ H' xs ps:=GY (λ_ _ J=>by obtain⟨a,q,e,D,F⟩:=J;exact⟨a,q,e,t _ _ D,t _ _ F⟩) h
theorem DZ.dh{xs:List AE}{ps:List Aa}(h:DZ H xs ps):xs.length=ps.length:=(CZ h).1
theorem DZ.at(h:DZ H xs ps){i:Nat}(e:ps[i]?=AA p):∃a q,xs[i]?=AA (.ref a)/\H a=AA (.tup [.int p.1,.int p.2.1,.ref q])/\Gv H q p.2.2:=by
 refine AB λF=>?_;obtain⟨l,W⟩:=CZ h;have D:=Cm (show i<xs.length by rw[l];exact(BN.mp e).1);obtain⟨a,q,J,U⟩:=W _ _ _ D e;refine F ?_;try clear F
 rw[J]at D;exact⟨a,q,D,U⟩
theorem DZ.ix(h:DZ H xs ps){i:Nat}(e:xs[i]?=AA x):∃p a q,ps[i]?=AA p/\x=.ref a/\H a=AA (.tup [.int p.1,.int p.2.1,.ref q])/\Gv H q p.2.2:=by
 refine AB λF=>?_;obtain⟨l,W⟩:=CZ h;have D:=Cm (show i<ps.length by rw[<-l];exact(BN.mp e).1);obtain⟨a,q,J,U⟩:=W _ _ _ e D;refine F ?_;try clear F
 exact⟨_,a,q,D,J,U⟩
theorem Zu(a b:Int):(if b>a then b else a)=Gb a b:=by(first|lia|omega)
theorem Zr(h:c<a):BB [.inl a,.inl b] [.inl c,.inl d]=AQ:=by show(if(CN a:AL)=CN c then _ else Ae (a<c))=_;rw[yX λe=>by have:=FI e;(first|lia|omega)];exact y4 (by(first|lia|omega))
theorem Pm{U V W:Type}{F:U->W->Prop}{f:V->W}:∀{D:List U}{J:List V},BP (λa b=>F a (f b)) D J->BP F D (J.map f)|_,_,.nil=>.nil|_,_,.cons h r=>.cons h (Pm r)
noncomputable def Jr(p:Aa):List AL:=[.inl p.1,.inl p.2.1]
theorem DZ.hd{ps:List Aa}(h:DZ H xs ps):BP (Ox 1 H) xs (ps.map Jr):=Pm (GY (λ_ _ F=>by obtain⟨a,q,e,D,_⟩:=F;exact⟨a,[.ref q],e,D,.inr (Ey rfl)⟩) h)
theorem EM.sd{ps:List Aa}(h:EM ps):DP (ps.map Jr):=KL.mpr (h.imp λq=>Zr q)
theorem Tu:∀{ps:List Aa}{n:Nat}{p:Aa},(∀(i:Nat)p,i<n->ps[i]?=AA p->p.1<S)->ps[n]?=AA p->p.1=S->Bw S E t ps=ps.take n++[(S,p.2.1,FN p.2.2 t)]++ps.drop (n+1)|[],n,p,_,e,_=>by cases e|b::r,0,p,_,e,q=>by cases e;unfold Bw;rw[yX (by(first|lia|omega)),yY q];rfl|b::r,n+1,p,h,e,q=>by unfold Bw;rw[yY (h 0 b (YA _) rfl),Tu (λi p F D=>h (i+1) p (tJ F) D) e q];rfl
theorem Tr:∀{ps:List Aa}{n:Nat},(∀(i:Nat)p,i<n->ps[i]?=AA p->p.1<S)->n<=ps.length->(∀p,ps[n]?=AA p->S<p.1)->Bw S E t ps=ps.take n++[(S,E,t)]++ps.drop n
 |[],n,_,h,_=>by cases n with|zero=>rfl|succ n=>exact absurd h (Nat.not_succ_le_zero _)
 |b::r,0,_,_,q=>by have:=q b rfl;unfold Bw;rw[yX (by(first|lia|omega)),yX (by(first|lia|omega))];rfl|b::r,n+1,h,J,q=>by unfold Bw;rw[yY (h 0 b (YA _) rfl),Tr (λi p F D=>h (i+1) p (tJ F) D) (Nat.le_of_succ_le_succ J) q];rfl
noncomputable def eT:BF:=λF H Q _=>∃a:Int,F=[.int a]/\∀r D,Ap H D->H r=AF->Gv D r (HR a)->Q (.ref r) D
noncomputable def cU:BF:=λF H Q _=>O6 (λ(p q:AD)(x y:Dd)=>F=[.ref p,.ref q]) (λp _ x _=>Gv H p x) (λ_ q _ y=>Gv H q y) (λ_ _ x y=>∀r D,Ap H D->H r=AF->Gv D r (FN x y)->Q (.ref r) D)
noncomputable def dU:BF:=λD H Q _=>∃a b c m:Int,D=[.int a,.int b,.int c,.int m]/\Q (.bl (Ae (a-c<=m)&&Ae (c-(b-m-1)<=m))) H
noncomputable def eO:BF:=λF H Q _=>∃t z d:Int,F=[.int t,.int z,.int d]/\O3 t z d/\∀l D,Ap H D->H l=AF->D l=AA (.lst ((HQ t z d).map AE.int))->Q (.ref l) D
theorem UH{K:Ar}{U:CW}(T:Ba K W U):A8 P w K W base BM 1 U.ue U.ur ["amount"] eT:=by
  refine T.rq.ok VL (λY H Q E h=>?_) (λV A J s H Y Q E Z h=>?_)
  . refine AB λF=>?_;obtain⟨a,rfl,_⟩:=h;refine F ?_;try clear F
    rfl
  . refine AB λF=>?_;obtain⟨a,rfl,k⟩:=h;refine F ?_;try clear F
    have q:=VL.nd;refine⟨_,(Ak (BE (Cw (AJ AR (AJ (AO 0) (AJ (AO 0) (AJ (AO 0) AW))))))),?_⟩;exact⟨Ey rfl,λr D=>k r _ (Be D) D Ab⟩
theorem UC{K:Ar}{U:CW}(T:Ba K Z U):A8 P w K Z base BM 1 U.aan U.aau ["one","other"] cU:=by
  refine T.aam.ok Ur (λz H Q E h=>?_) (λV A J s H z Q E B h=>?_)
  . refine AB λF=>?_;obtain⟨p,q,x,y,rfl,_⟩:=h;refine F ?_;try clear F
    rfl
  . refine AB λF=>?_;obtain⟨p,q,x,y,rfl,W,Y,k⟩:=h;refine F ?_;try clear F
    have C:=Ur.nd;refine⟨_,(Ak (BE (Cw (AJ (AX FT (Bi K (AO 0) AR) (Bi K (AO 1) AR)) (AJ (AX FT (Bi K (AO 0) AR) (Bi K (AO 1) AR)) (AJ (DQ (V1 rfl) (by rfl) T.ahr oP (AJ (Bi K (AO 0) AR) (AJ (Bi K (AO 1) AR) AW))) (AJ (DQ (V0 rfl) (by rfl) T.afc YE (AJ (Bi K (AO 0) AR) (AJ (Bi K (AO 1) AR) AW))) AW))))))),?_⟩;have i1:B8 K H p _:=As W;have i2:B8 K H q _:=As Y;refine⟨_,_,i1,Aq (j:=0) rfl,_,_,i2,Aq (j:=0) rfl,_,_,i1,Aq (j:=1) rfl,_,_,i2,Aq (j:=1) rfl,_,_,i1,Aq (j:=2) rfl,_,_,i2,Aq (j:=2) rfl,_,_,i1,Aq (j:=3) rfl,_,_,i2,Aq (j:=3) rfl,?_⟩;exact⟨Ey rfl,λr D=>k r _ (Be D) D (by rw[Zz,Zu];exact Ab)⟩
theorem bA{K:Ar}{J:CW}(T:Ba K V J):A8 P w K V base BM 1 J.aap J.aaw ["start","end","time","most"] dU:=by
  refine T.aeo.ok U3 (λY H Q E h=>?_) (λU A F s H Y Q E Z h=>?_)
  . refine AB λD=>?_;obtain⟨a,b,c,m,rfl,_⟩:=h;refine D ?_;try clear D
    rfl
  . refine AB λD=>?_;obtain⟨a,b,c,m,rfl,k⟩:=h;refine D ?_;try clear D
    have W:=U3.nd;refine⟨_,(Af (Cr 4 W (AX KC (AX KC (AO 1) (AO 3)) AR)) (Ak (BE (Ra (MH MF (AX KC (AO 0) (AO 2)) (AO 3) (Br _)) (Rc (MH MF (AX KC (AO 2) (AO 4)) (AO 3) (Br _))))))),?_⟩;refine⟨_,rfl,IV (λe=>?_) λe=>?_⟩
    . rw[e,Bool.true_and]at k;exact k
    . rw[e,rL]at k;exact k
theorem bR{K:Ar}{U:CW}(T:Ba K q U):A8 P w K q base BM 1 U.yk U.yw ["time","size","step"] eO:=by
  refine T.aci.ok VI (λC H Q E h=>?_) (λW A J s H C Q E S h=>?_)
  . refine AB λD=>?_;obtain⟨t,z,d,rfl,_⟩:=h;refine D ?_;try clear D
    rfl
  . refine AB λD=>?_;obtain⟨t,z,d,rfl,V,k⟩:=h;refine D ?_;try clear D
    have B:=VI.nd;refine⟨_,(Af (Cr 3 B (AX RY (AX FT (AX RT (AX KC (AO 0) (AO 1)) (AO 2)) AR) (AO 2))) (Ak (BE (kF rfl (by rfl) T.qr (by rfl) T.vk (AJ (AO 3) (AJ (AX FT (AO 0) AR) (AJ (AO 2) AW))))))),?_⟩;refine AB λD=>?_;obtain⟨Y,L,M,N,O,R⟩:=id V;obtain⟨G,I⟩:=PY (t:=t) (z:=z) Y;refine D ?_;try clear D
    have Z:=(Qo V).2;refine⟨⟨by(first|lia|omega),by(first|lia|omega)⟩,.inr ⟨by(first|lia|omega),by(first|lia|omega)⟩,?_⟩;refine⟨_,_,_,rfl,⟨by(first|lia|omega),by(first|lia|omega),?_,?_,by(first|lia|omega),by(first|lia|omega),?_⟩,λl F=>k l _ (Be F) F Ab⟩
    . show-(2^40)<=((t-z)/d+1)*d;(first|lia|omega)
    . show((t-z)/d+1)*d<2^40;(first|lia|omega)
    .exact CL Z (by decide)
noncomputable def eG:BF:=λW H Q _=>PF (λ(l q:AD)(U:List AE)(D:List Aa)(S E:Int)(t:Dd)=>W=[.ref l,.int S,.int E,.ref q]) (λl _ U _ _ _ _=>H l=AA (.lst U)) (λ_ _ U D _ _ _=>DZ H U D) (λ_ _ _ D _ _ _=>EM D) (λ_ _ _ D _ _ _=>D.length<=10000) (λ_ q _ _ _ _ t=>Gv H q t) (λ_ _ _ D S E t=>∀r J F,Ap H J->H r=AF->J r=AA (.lst F)->DZ J F (Bw S E t D)->Q (.ref r) J)
theorem UG{K:Ar}{ad:CW}(T:Ba K mg ad):A8 P w K mg base BM 2 ad.mn ad.mz ["pieces","start","end","tally"] eG:=by
  have Y:=fU.mk (NM (P:=P) (w:=w) (base:=base) T) T.ve T.qv.kp T.ux;have W:=fU.mk (UC (P:=P) (w:=w) (base:=base) T) T.aet T.aam.kp T.aer;refine T.mj.ok VE (λvs H Q E h=>?_) (λcdv A outer s H vs Q E hr h=>?_)
  . refine AB λU=>?_;obtain⟨l,q,F,G,s,a,t,rfl,_⟩:=h;refine U ?_;try clear U
    rfl
  . refine AB λU=>?_;obtain⟨l,q,F,G,S,E0,t,rfl,el,hw,up,hl,tq,k⟩:=h;refine U ?_;try clear U
    have nd:=VE.nd;refine⟨_,(Af (Cr 4 nd (Ck Y hr (AJ (AO 0) (AJ (Cw (AJ (AO 1) AW)) AW)))) (Af (Ic (CT (Nk (W7 (Bt RW (AO 4) (DQ (Ks (K:=K)) (by rfl) T.gy GB (AJ (AO 0) AW)) (Br _)) (W8 (Bt C7 (Bi K (JT K (AO 0) (AO 4)) AR) (AO 1) (Br _))))) (Af (Cr 5 nd (JT K (AO 0) (AO 4))) (Ak (BE (AX Gn (AX Gn (Fl (Ho (K:=K)) (AO 0) GZ (FF (AO 4))) (Dl (AJ (Cw (AJ (AO 1) (AJ (Bi K (AO 5) AR) (AJ (Ck W hr (AJ (Bi K (AO 5) AR) (AJ (AO 3) AW))) AW)))) AW))) (Fl (Ho (K:=K)) (AO 0) (FF (AX FT (AO 4) AR)) GZ))))) C1)) (Ak (BE (AX Gn (AX Gn (Fl (Ho (K:=K)) (AO 0) GZ (FF (AO 4))) (Dl (AJ (Cw (AJ (AO 1) (AJ (AO 2) (AJ (AO 3) AW)))) AW))) (Fl (Ho (K:=K)) (AO 0) (FF (AO 4)) GZ)))))),?_⟩;have sz:Aw=16777216:=DN;have lx:=hw.dh;refine⟨Ey rfl,λmk hmk=>?_⟩;refine B0 (o:=.tup [.int S]) hmk λH1 s1 emk=>?_;have D:=s1 _ _ el;have C:=hw.ab s1.tp;have tq1:Gv H1 q t:=s1 _ _ tq;refine⟨l,mk,F,G.map Jr,[.inl S],rfl,D,C.hd,emk,λks hk i k m e1 e2=>?_,up.sd,λn hn b1 b2=>?_⟩
    . refine AB λU=>?_;obtain⟨p,_,rfl⟩:=BO.mp hk;refine U ?_;try clear U
      match i,e1,e2 with|0,e1,e2=>cases e1;cases e2;rfl
    rw[A0]at hn;have d1:∀(i:Nat)p,i<n->G[i]?=AA p->p.1<S:=λi p hi Z=>by have:=b1 i (Jr p) hi (by rw[Bx,Z];rfl);rw[show Jr p=[.inl p.1,.inl p.2.1]from rfl,NH]at this;exact y6 this
    have d2:∀p,G[n]?=AA p->¬p.1<S:=λp Z=>by have:=b2 n (Jr p) (Al _) (by rw[Bx,Z];rfl);rw[show Jr p=[.inl p.1,.inl p.2.1]from rfl,NH]at this;exact zA this
    clear b1 b2;refine IS (λσ' H'=>H'=H1/\(∀p,G[n]?=AA p->S<p.1)/\σ'=[AA (.ref l),AA (.int S),AA (.int E0),AA (.ref q),AA (.int (n:Int)),AF]) ?_ ?_
    . refine⟨_,.inl (Ai D),_,rfl,G6 (λe=>?_) λe=>⟨rfl,λp Z=>absurd (BN.mp Z).1 (by(first|lia|omega)),rfl⟩⟩;have hnl:n<G.length:=by(first|lia|omega)
      have Z:G[n]?=AA G[n]:=Cm hnl;generalize G[n]=p at Z;refine AB λU=>?_;obtain⟨a,qp,ea,M,eqp⟩:=C.at Z;refine U ?_;try clear U
      have g:Cb F (n:Int)=AA (.ref a):=Aq ea;refine⟨_,_,Ai D,g,_,_,As M,Aq (j:=0) rfl,rfl,_,rfl,Dp (λes=>?_) λes=>⟨rfl,λp' r=>?_,rfl⟩⟩
      . refine⟨_,_,Ai D,g,?_⟩;refine⟨_,rfl,l,F,rfl,Ai D,λc1 b=>?_⟩;rw[PV F n (by(first|lia|omega))];refine B0 b λH2 s2 N=>?_;refine⟨_,_,As (s2 _ _ M),Aq (j:=1) rfl,_,_,As (s2 _ _ M),Aq (j:=2) rfl,qp,q,_,t,rfl,s2 _ _ eqp,s2 _ _ tq1,λu H3 s3 hu tu=>?_⟩;refine⟨Ey rfl,λv hv=>?_⟩;refine B0 hv λH4 s4 ev=>⟨Ey rfl,λc2 c=>?_⟩;refine B0 c λH5 y O=>?_;have B:=s3.aa (s4.aa y);refine⟨c1,c2,_,_,rfl,rfl,B _ _ N,O,by rw[EA];simp;(first|lia|omega),λc3 d=>?_⟩;refine B0 d λH6 s6 R=>?_;have J:=s2.aa (B.aa s6);refine⟨_,rfl,l,F,rfl,Ai (J _ _ D),λc4 f=>?_⟩;have cf:Ee F (AA ((n:Int)+1)) AF=F.drop (n+1):=La F (n+1) (by(first|lia|omega));rw[cf];refine B0 f λH7 L X=>?_;refine⟨c3,c4,_,_,rfl,rfl,L _ _ R,X,by rw[CA,EA,Ig];simp;(first|lia|omega),λc5 z=>?_⟩;have s8:=Be (o:=.lst (F.take n++[.ref v]++F.drop (n+1))) z;have V:=J.aa (L.aa s8);have I:=y.aa (s6.aa (L.aa s8));refine k c5 _ _ (s1.aa V) ((s1.aa (J.aa L)).bh z) Ab ?_;rw[Tu d1 Z es];have x:=C.ab V.tp;exact Dk (Dk (MG n x) (.cons ⟨v,u,rfl,I _ _ ev,(s4.aa I) _ _ tu⟩ .nil)) (Ky (n+1) x)
      . rw[Z]at r;cases r;have:=d2 _ Z;have es:¬p.1=S:=es;(first|lia|omega)
    intro σ' H1' hI;refine AB λU=>?_;obtain⟨rfl,hno,rfl⟩:=hI;refine U ?_;try clear U
    refine⟨_,rfl,l,F,rfl,Ai D,λc1 b=>?_⟩;rw[PV F n (by(first|lia|omega))];refine B0 b λH2 s2 N=>⟨Ey rfl,λv hv=>?_⟩;refine B0 hv λH4 s4 ev=>⟨Ey rfl,λc2 c=>?_⟩;refine B0 c λH5 y O=>?_;have B:=s4.aa y;refine⟨c1,c2,_,_,rfl,rfl,B _ _ N,O,by rw[EA];simp;(first|lia|omega),λc3 d=>?_⟩;refine B0 d λH6 s6 R=>?_;have J:=s2.aa (B.aa s6);refine⟨_,rfl,l,F,rfl,Ai (J _ _ D),λc4 f=>?_⟩;rw[La F n (by(first|lia|omega))];refine B0 f λH7 L X=>?_;refine⟨c3,c4,_,_,rfl,rfl,L _ _ R,X,by rw[CA,EA,Ig];simp;(first|lia|omega),λc5 z=>?_⟩;have s8:=Be (o:=.lst (F.take n++[.ref v]++F.drop n)) z;have V:=J.aa (L.aa s8);have I:=y.aa (s6.aa (L.aa s8));refine k c5 _ _ (s1.aa V) ((s1.aa (J.aa L)).bh z) Ab ?_;rw[Tr d1 hn hno];have x:=C.ab V.tp;exact Dk (Dk (MG n x) (.cons ⟨v,q,rfl,I _ _ ev,V _ _ tq1⟩ .nil)) (Ky n x)
noncomputable def dC:BF:=λW H Q _=>PF (λ(l:AD)(U:List AE)(D:List Aa)(t a z d:Int)=>W=[.ref l,.int t,.int a,.int z,.int d]) (λ_ _ _ t _ z d=>O3 t z d) (λl U _ _ _ _ _=>H l=AA (.lst U)) (λ_ U D _ _ _ _=>DZ H U D) (λ_ _ D _ _ _ _=>EM D) (λ_ _ D _ _ _ _=>D.length<=5000) (λ_ _ D t a z d=>∀r J F,Ap H J->H r=AF->J r=AA (.lst F)->DZ J F (UM t a z d D)->Q (.ref r) J)
theorem aI{K:Ar}{ad:CW}(T:Ba K mg ad):A8 P w K mg base BM 3 ad.ud ad.uq ["pieces","time","amount","size","step"] dC:=by
  have G_starts:=fU.mk (bR (P:=P) (w:=w) (base:=base) T) T.ahe T.aci.kp T.ags;have G_tally_of:=fU.mk (UH (P:=P) (w:=w) (base:=base) T) T.yz T.rq.kp T.ym;have G_put_window:=fU.mk (UG (P:=P) (w:=w) (base:=base) T) T.vf T.mj.kp T.uy;refine T.yc.ok VB (λvs H Q E h=>?_) (λcdv A outer s H vs Q E hr h=>?_)
  . refine AB λnG=>?_;obtain⟨l,xs,ps,t,a,z,d,rfl,_⟩:=h;refine nG ?_;try clear nG
    rfl
  . refine AB λnG=>?_;obtain⟨l,xs,ps,t,a,z,d,rfl,hW,el,hw,up,hl,k⟩:=h;refine nG ?_;try clear nG
    have nd:=VB.nd;refine⟨_,(Af (Cr 5 nd (Ia (Nu (K:=K)) (by rfl) T.qr LD (AJ (AO 0) AW))) (Af (Eh E4 rfl (Dr (K:=K) (Ck G_starts hr (AJ (AO 1) (AJ (AO 3) (AJ (AO 4) AW))))) (Fm 6 nd) (Ak (Cr 5 nd (Ck G_put_window hr (AJ (AO 5) (AJ (AO 6) (AJ (AX FT (AO 6) (AO 3)) (AJ (Ck G_tally_of hr (AJ (AO 2) AW)) AW)))))))) (Ak (BE (AO 5))))),?_⟩;have sz:Aw=16777216:=DN;have sl:=(Qo hW).1;refine⟨l,xs,rfl,.inl (Ai el),λtl htl=>?_⟩;refine B0 htl λH1 s1 etl=>?_;refine⟨t,z,d,rfl,hW,λst H2 s2 hst est=>?_⟩;refine⟨st,rfl,⟨_,Ai est⟩,IT (K:=K) (xs:=(HQ t z d).map AE.int) (λn σ H'=>Gw (λ(o6:Option AE)(tl:AD)(xt:List AE)=>σ=[AA (.ref l),AA (.int t),AA (.int a),AA (.int z),AA (.int d),AA (.ref tl),o6]) (λ_ _ _=>Ap H2 H') (λ_ tl _=>H tl=AF) (λ_ tl xt=>H' tl=AA (.lst xt)) (λ_ _ xt=>DZ H' xt (((HQ t z d).take n).foldl (λl s=>Bw s (s+z) (HR a) l) ps))) ⟨AF,tl,xs,rfl,Cu _,htl,s2 _ _ etl,hw.ab (s1.aa s2).tp⟩ (λn σ H' _ hh=>by obtain⟨_,_,_,_,s',_⟩:=hh;exact Ai (s' _ _ est)) ?_ ?_⟩
    . intro n y σ H3 hy hI;refine AB λnG=>?_;obtain⟨o6,tl',xt,rfl,s3,ht',et,hwt⟩:=hI;rw[Bx]at hy;obtain⟨sv,hsv,rfl⟩:=D2.mp hy;have hnl:n<(HQ t z d).length:=(BN.mp hsv).1;obtain⟨up',ln'⟩:=Pc (z:=z) (x:=HR a) (ss:=(HQ t z d).take n) up;refine nG ?_;try clear nG
      rw[EA]at ln';refine⟨a,rfl,λu H4 s4 hu tu=>?_⟩;refine⟨tl',u,xt,_,sv,sv+z,HR a,rfl,s4 _ _ et,hwt.ab s4.tp,up',by(first|lia|omega),tu,λr H5 xr s5 hr5 er hwr=>?_⟩;exact⟨_,r,xr,rfl,s3.aa (s4.aa s5),((s1.aa s2).aa (s3.aa s4)).bh hr5,er,by rw[Vg hsv];exact hwr⟩
    . intro σ H3 hI;refine AB λnG=>?_;obtain⟨o6,tl',xt,rfl,s3,ht',et,hwt⟩:=hI;refine nG ?_;try clear nG
      rw[A0,Df (Al _)]at hwt;exact k _ _ _ ((s1.aa s2).aa s3) ht' et hwt
noncomputable def d8:BF:=λZ H Q _=>Su (λ(l:AD)(U:List AE)(J:List Aa)(D:Int)=>Z=[.ref l,.int D]) (λl U _ _=>H l=AA (.lst U)) (λ_ U J _=>DZ H U J) (λ_ _ J _=>J.length<=10000) (λ_ _ J D=>∀r b c F W Y,Ap H F->H b=AF->H c=AF->F r=AA (.tup [.ref b,.ref c])->F b=AA (.lst W)->F c=AA (.lst Y)->DZ F W (EX D J)->DZ F Y (FO D J)->Q (.ref r) F)
theorem bG{K:Ar}{ad:CW}(T:Ba K mg ad):A8 P w K mg base BM 1 ad.yf ad.yp ["pieces","now"] d8:=by
  refine T.acd.ok U8 (λvs H Q E h=>?_) (λcdv A outer s H vs Q E hr h=>?_)
  . refine AB λnG=>?_;obtain⟨l,xs,ps,now,rfl,_⟩:=h;refine nG ?_;try clear nG
    rfl
  . refine AB λnG=>?_;obtain⟨l,xs,ps,now,rfl,el,hw,hl,k⟩:=h;refine nG ?_;try clear nG
    have nd:=U8.nd;refine⟨_,(Af (K0 (i:=2) (osc:=A2 Lh) [("now",1)] nd rfl (BL rfl) rfl (Dr (K:=K) (AO 0)) rfl rfl (by decide+kernel) (by decide+kernel) (by decide+kernel) ⟨rfl,rfl,trivial⟩ rfl (by decide+kernel) (λ_ _ _ _=>KI (Bt MF (Bi K (AO 0) AR) (AO 1) (Br _))) (λ_ _ _ _=>(AO 0))) (Af (K0 (i:=3) (osc:=A2 Lh) [("now",1)] nd rfl (BL rfl) rfl (Dr (K:=K) (AO 0)) rfl rfl (by decide+kernel) (by decide+kernel) (by decide+kernel) ⟨rfl,rfl,trivial⟩ rfl (by decide+kernel) (λ_ _ _ _=>KI (Bt Wr (Bi K (AO 0) AR) (AO 1) (Br _))) (λ_ _ _ _=>(AO 0))) (Ak (BE (Cw (AJ (AO 2) (AJ (AO 3) AW))))))),?_⟩;have sz:Aw=16777216:=DN;have lx:=hw.dh;refine⟨l,rfl,⟨_,Ai el⟩,?_⟩;refine Ku (K:=K) (xs:=xs) (λn τ acc H'=>(∃o,τ=[o,AA (.int now)])/\H'=H/\DZ H acc ((ps.take n).filter λp=>!DJ now p)) (by(first|lia|omega)) ⟨⟨AF,rfl⟩,rfl,.nil⟩ (λn τ acc H'⟨_,e,_⟩=>by rw[e];exact Ai el) ?_ ?_
    . intro n y τ acc H' R1 R0 hy _ hI k1 k0;refine AB λnG=>?_;obtain⟨⟨o,rfl⟩,rfl,hp⟩:=hI;obtain⟨p,b,q,ep,rfl,eb,eq⟩:=hw.ix hy;refine nG ?_;try clear nG
      have fs:=Lc (p:=λp=>!DJ now p) ep;refine⟨_,_,As eb,Aq (j:=1) rfl,_,rfl,G6 (λe=>?_) λe=>?_⟩;. rw[yY (by show(!Ae (now<p.2.1))=AH;rw[y4 (by(first|lia|omega))];rfl)]at fs;exact k1 _ _ _ ⟨⟨_,rfl⟩,rfl,by rw[fs];exact Dk hp (.cons ⟨b,q,rfl,eb,eq⟩ .nil)⟩
      . rw[yX (by show¬(!Ae (now<p.2.1))=AH;rw[y3 (by(first|lia|omega))];decide),FG]at fs;exact k0 _ _ ⟨⟨_,rfl⟩,rfl,by rw[fs];exact hp⟩
    intro τ xm H' lxm hI lm hlm;refine AB λnG=>?_;obtain⟨_,rfl,hpm⟩:=hI;refine nG ?_;try clear nG
    rw[Df (by(first|lia|omega))]at hpm;refine B0 hlm λH1 s1 elm=>?_;have el1:=s1 _ _ el;have hw1:=hw.ab s1.tp;refine⟨l,rfl,⟨_,Ai el1⟩,?_⟩;refine Ku (K:=K) (xs:=xs) (λn τ acc H'=>(∃o,τ=[o,AA (.int now)])/\H'=H1/\DZ H1 acc ((ps.take n).filter (DJ now))) (by(first|lia|omega)) ⟨⟨AF,rfl⟩,rfl,.nil⟩ (λn τ acc H'⟨_,e,_⟩=>by rw[e];exact Ai el1) ?_ ?_
    . intro n y τ acc H2 R1 R0 hy _ hI k1 k0;refine AB λnG=>?_;obtain⟨⟨o,rfl⟩,rfl,hp⟩:=hI;obtain⟨p,b,q,ep,rfl,eb,eq⟩:=hw1.ix hy;refine nG ?_;try clear nG
      have fs:(ps.take (n+1)).filter (DJ now)=(ps.take n).filter (DJ now)++(if Ae (now<p.2.1)=AH then[p]else[]):=Lc (p:=DJ now) ep;refine⟨_,_,As eb,Aq (j:=1) rfl,_,rfl,G6 (λe=>?_) λe=>?_⟩;. rw[yY (show Ae (now<p.2.1)=AH from y3 e)]at fs;exact k1 _ _ _ ⟨⟨_,rfl⟩,rfl,by rw[fs];exact Dk hp (.cons ⟨b,q,rfl,eb,eq⟩ .nil)⟩
      . rw[yX (by rw[y7];exact e),FG]at fs;exact k0 _ _ ⟨⟨_,rfl⟩,rfl,by rw[fs];exact hp⟩
    intro τ xr H2 lxr hI lr hlr;refine AB λnG=>?_;obtain⟨_,rfl,hpr⟩:=hI;refine nG ?_;try clear nG
    rw[Df (by(first|lia|omega))]at hpr;refine B0 hlr λH3 s2 elr=>⟨Ey rfl,λr hr'=>?_⟩;have s3:=Be (o:=.tup [.ref lm,.ref lr]) hr';exact k r lm lr _ xm xr (s1.aa (s2.aa s3)) hlm (s1.bh hlr) Ab ((s2.aa s3) _ _ elm) (s3 _ _ elr) (hpm.ab (s1.aa (s2.aa s3)).tp) (hpr.ab (s2.aa s3).tp)
noncomputable def dN:BF:=λW H Q _=>S7 (λ(l:AD)(U:List AE)(D:List Aa)(t a m:Int)=>W=[.ref l,.int t,.int a,.int m]) (λ_ _ _ _ _ m=>0<=m) (λl U _ _ _ _=>H l=AA (.lst U)) (λ_ U D _ _ _=>DZ H U D) (λ_ _ D _ _ _=>GI D) (λ_ _ D _ _ _=>D.length<=5000) (λ_ _ D t a m=>∀r J F,Ap H J->H r=AF->J r=AA (.lst F)->DZ J F (CC (t,t+m+1,HR a) D)->Q (.ref r) J)
theorem Pb:∀{ns:List Int}{t:Int},ns.foldl Cs t∈t::ns/\∀a∈t::ns,ns.foldl Cs t<=a
  |[],t=>⟨.head _,λa h=>by rw[By.mp h];exact ZQ _⟩|n::ns,t=>by
    obtain⟨J,F⟩:=Pb (ns:=ns) (t:=Cs t n);have U:=F _ (.head _);show ns.foldl Cs (Cs t n)∈_/\∀a∈_,ns.foldl Cs (Cs t n)<=a;constructor
    . rcases CB.mp J with h|h
      . rw[h];rcases rQ t n with q|q;.rw[Int.min_eq_left q];exact .head _
        .rw[Int.min_eq_right q];exact .tail _ (.head _)
      .exact .tail _ (.tail _ h)
    . intro a D;rcases CB.mp D with rfl|D;. (first|lia|omega)
      rcases CB.mp D with rfl|D;. (first|lia|omega)
      exact F a (.tail _ D)
theorem Pa:∀{ns:List Int}{t:Int},ns.foldl Gb t∈t::ns/\∀a∈t::ns,a<=ns.foldl Gb t
  |[],t=>⟨.head _,λa h=>by rw[By.mp h];exact ZQ _⟩|n::ns,t=>by
    obtain⟨J,F⟩:=Pa (ns:=ns) (t:=Gb t n);have U:=F _ (.head _);show ns.foldl Gb (Gb t n)∈_/\∀a∈_,a<=ns.foldl Gb (Gb t n);constructor
    . rcases CB.mp J with h|h
      . rw[h];rcases rQ t n with q|q;.rw[Int.max_eq_right q];exact .tail _ (.head _)
        .rw[Int.max_eq_left q];exact .head _
      .exact .tail _ (.tail _ h)
    . intro a D;rcases CB.mp D with rfl|D;. (first|lia|omega)
      rcases CB.mp D with rfl|D;. (first|lia|omega)
      exact F a (.tail _ D)
theorem Z0{ns:List Int}(D:S∈t::ns)(F:∀a∈t::ns,S<=a):S=ns.foldl Cs t:=rP (F _ Pb.1) (Pb.2 _ D)
theorem Zv{ns:List Int}(D:S∈t::ns)(F:∀a∈t::ns,a<=S):S=ns.foldl Gb t:=rP (Pa.2 _ D) (F _ Pa.1)
theorem aO{K:Ar}{ad:CW}(T:Ba K mg ad):A8 P w K mg base BM 3 ad.vq ad.wc ["pieces","time","amount","most"] dN:=by
  have G_meets:=fU.mk (bA (P:=P) (w:=w) (base:=base) T) T.ahz T.aeo.kp T.ahu;have G_tally_of:=fU.mk (UH (P:=P) (w:=w) (base:=base) T) T.yz T.rq.kp T.ym;have G_added:=fU.mk (UC (P:=P) (w:=w) (base:=base) T) T.aet T.aam.kp T.aer;have G_put_window:=fU.mk (UG (P:=P) (w:=w) (base:=base) T) T.vf T.mj.kp T.uy;refine T.aaa.ok VD (λvs H Q E h=>?_) (λcdv A outer s H vs Q E hr h=>?_)
  . refine AB λnG=>?_;obtain⟨l,xs,ps,t,a,m,rfl,_⟩:=h;refine nG ?_;try clear nG
    rfl
  . refine AB λnG=>?_;obtain⟨l,xs,ps,t,a,m,rfl,m0,el,hw,ch,hl,k⟩:=h;refine nG ?_;try clear nG
    have nd:=VD.nd;refine⟨_,(Hn (K0 (i:=4) (osc:=A2 Jt) [("time",1),("most",3)] nd rfl (BL rfl) rfl (Dr (K:=K) (AO 0)) rfl rfl (by decide+kernel) (by decide+kernel) (by decide+kernel) ⟨rfl,rfl,rfl,rfl,trivial⟩ rfl (by decide+kernel) (λ_ _ _ _=>KI (KH (Ck G_meets hr (AJ (Bi K (AO 0) AR) (AJ (Bi K (AO 0) AR) (AJ (AO 1) (AJ (AO 2) AW))))))) (λ_ _ _ _=>(AO 0))) (Hn (K0 (i:=5) (osc:=A2 Jt) [("time",1),("most",3)] nd rfl (BL rfl) rfl (Dr (K:=K) (AO 0)) rfl rfl (by decide+kernel) (by decide+kernel) (by decide+kernel) ⟨rfl,rfl,rfl,rfl,trivial⟩ rfl (by decide+kernel) (λ_ _ _ _=>KI (OE (KH (Ck G_meets hr (AJ (Bi K (AO 0) AR) (AJ (Bi K (AO 0) AR) (AJ (AO 1) (AJ (AO 2) AW)))))))) (λ_ _ _ _=>(AO 0))) (Hn (Cr 6 nd (DQ (gR (K:=K) rfl) (by rfl) T.ahr oP (AJ (AX Gn (Dl (AJ (AO 1) AW)) (Kz (A2 Jt) [] trivial (Dr (K:=K) (AO 4)) (λ_ _ _ _=>G8) (λ_ _ _ _=>(Bi K (AO 0) AR)))) AW))) (Hn (Cr 7 nd (DQ (gP (K:=K) rfl) (by rfl) T.afc YE (AJ (AX Gn (Dl (AJ (AX FT (AX FT (AO 1) (AO 3)) AR) AW)) (Kz (A2 Jt) [] trivial (Dr (K:=K) (AO 4)) (λ_ _ _ _=>G8) (λ_ _ _ _=>(Bi K (AO 0) AR)))) AW))) (Hn (Cr 8 nd (Ck G_tally_of hr (AJ (AO 2) AW))) (Hn (Eh E4 rfl (Dr (K:=K) (AO 4)) (Fm 9 nd) (Ak (Cr 8 nd (Ck G_added hr (AJ (AO 8) (AJ (Bi K (AO 9) AR) AW)))))) (Ak (BE (Ck G_put_window hr (AJ (AO 5) (AJ (AO 6) (AJ (AO 7) (AJ (AO 8) AW))))))))))))),?_⟩;have sz:Aw=16777216:=DN;have lx:=hw.dh;generalize ePP:((t,t+m+1,HR a):Aa)=PP at k;have hmt:∀p:Aa,(Ae (p.1-t<=m)&&Ae (t-(p.2.1-m-1)<=m))=DO PP p:=λp=>by rw[<-ePP];show _=(Ae (p.1<t+m+1)&&Ae (t<p.2.1));rw[show Ae (p.1-t<=m)=Ae (p.1<t+m+1)from zG.mpr (by(first|lia|omega)),show Ae (t-(p.2.1-m-1)<=m)=Ae (t<p.2.1)from zG.mpr (by(first|lia|omega))]
    refineλ_ _ _ _ z1=>⟨l,rfl,⟨_,Ai el⟩,?_⟩;refine Ku (K:=K) (xs:=xs) (λn τ acc H'=>(∃o,τ=[o,AA (.int t),AA (.int m)])/\H'=H/\DZ H acc ((ps.take n).filter (DO PP))) (by(first|lia|omega)) ⟨⟨AF,rfl⟩,rfl,.nil⟩ (λn τ acc H'⟨_,e,_⟩=>by rw[e];exact Ai el) ?_ ?_
    . intro n y τ acc H' R1 R0 hy _ hI k1 k0;refine AB λnG=>?_;obtain⟨⟨o,rfl⟩,rfl,hp⟩:=hI;obtain⟨p,b,q,ep,rfl,eb,eq⟩:=hw.ix hy;refine nG ?_;try clear nG
      refine⟨_,_,As eb,Aq (j:=0) rfl,_,_,As eb,Aq (j:=1) rfl,_,_,_,_,rfl,?_⟩;rw[hmt];have fs:=Lc (p:=DO PP) ep;refine⟨_,rfl,IV (λhb=>?_) λhb=>?_⟩;. rw[hb,yY rfl]at fs;exact k1 _ _ _ ⟨⟨_,rfl⟩,rfl,by rw[fs];exact Dk hp (.cons ⟨b,q,rfl,eb,eq⟩ .nil)⟩
      . rw[hb,yX C4,FG]at fs;exact k0 _ _ ⟨⟨_,rfl⟩,rfl,by rw[fs];exact hp⟩
    intro τ xm H' lxm hI lm hlm;refine AB λnG=>?_;obtain⟨_,rfl,hpm⟩:=hI;refine nG ?_;try clear nG
    rw[Df (by(first|lia|omega))]at hpm;refine B0 hlm λH1 s1 elm=>?_;have hpm1:=hpm.ab s1.tp;have el1:=s1 _ _ el;have hw1:=hw.ab s1.tp;refine z1 _ _ λ_ _ _ _ z2=>⟨l,rfl,⟨_,Ai el1⟩,?_⟩;refine Ku (K:=K) (xs:=xs) (λn τ acc H'=>(∃o,τ=[o,AA (.int t),AA (.int m)])/\H'=H1/\DZ H1 acc ((ps.take n).filter λp=>!DO PP p)) (by(first|lia|omega)) ⟨⟨AF,rfl⟩,rfl,.nil⟩ (λn τ acc H'⟨_,e,_⟩=>by rw[e];exact Ai el1) ?_ ?_
    . intro n y τ acc H2 R1 R0 hy _ hI k1 k0;refine AB λnG=>?_;obtain⟨⟨o,rfl⟩,rfl,hp⟩:=hI;obtain⟨p,b,q,ep,rfl,eb,eq⟩:=hw1.ix hy;refine nG ?_;try clear nG
      refine⟨_,_,As eb,Aq (j:=0) rfl,_,_,As eb,Aq (j:=1) rfl,_,_,_,_,rfl,?_⟩;rw[hmt];have fs:=Lc (p:=λp=>!DO PP p) ep;cases hb:DO PP p with|true=>rw[hb,yX (by decide),FG]at fs;exact⟨_,rfl,k0 _ _ ⟨⟨_,rfl⟩,rfl,by rw[fs];exact hp⟩⟩|false=>rw[hb,yY (by decide)]at fs;exact⟨_,rfl,k1 _ _ _ ⟨⟨_,rfl⟩,rfl,by rw[fs];exact Dk hp (.cons ⟨b,q,rfl,eb,eq⟩ .nil)⟩⟩
    intro τ xr H2 lxr hI lr hlr;refine AB λnG=>?_;obtain⟨_,rfl,hpr⟩:=hI;refine nG ?_;try clear nG
    rw[Df (by(first|lia|omega))]at hpr;refine B0 hlr λH3 s2 elr=>?_;have hpr2:=hpr.ab s2.tp;have hpm2:=hpm1.ab s2.tp;have elm2:=s2 _ _ elm;have s02:=s1.aa s2;have lmm:(ps.filter (DO PP)).length<=ps.length:=FY _ _;have lxm2:xm.length<=5000:=by rw[hpm.dh];(first|lia|omega)
    refine z2 _ _ λ_ _ _ _ z3=>⟨Ey rfl,λq1 hq1=>?_⟩;refine B0 hq1 λH4 s3 eq1=>?_;refine⟨lm,rfl,⟨_,Ai (s3 _ _ elm2)⟩,?_⟩;refine G5 (K:=K) (xs:=xm) (λn τ acc H'=>(∃o,τ=[o])/\H'=H4/\acc=((ps.filter (DO PP)).take n).map λp=>AE.int p.1) (by(first|lia|omega)) ⟨⟨AF,rfl⟩,rfl,rfl⟩ (λn τ acc H'⟨_,e,_⟩=>by rw[e];exact Ai (s3 _ _ elm2)) ?_ ?_
    . intro n y τ acc H5 R1 hy _ hI k1;refine AB λnG=>?_;obtain⟨⟨o,rfl⟩,rfl,rfl⟩:=hI;obtain⟨p,b,q,ep,rfl,eb,eq⟩:=(hpm2.ab s3.tp).ix hy;refine nG ?_;try clear nG
      exact⟨_,_,As eb,Aq (j:=0) rfl,k1 _ _ _ ⟨⟨_,rfl⟩,rfl,by rw[Ds,ep,C9];rfl⟩⟩
    intro τ acc H5 _ hI q2 hq2;refine AB λnG=>?_;obtain⟨_,rfl,rfl⟩:=hI;refine nG ?_;try clear nG
    rw[Df (by rw[hpm.dh];exact Al _)];refine B0 hq2 λH6 s4 eq2=>?_;refine⟨q1,q2,_,_,rfl,rfl,s4 _ _ eq1,eq2,by simp;(first|lia|omega),λq3 hq3=>?_⟩;refine B0 hq3 λH7 s5 eq3=>?_;have eq3:H7 q3=AA (.lst ((t::(ps.filter (DO PP)).map (·.1)).map AE.int)):=by rw[eq3,DM,EO];rfl
    refine⟨q3,_,rfl,Ai eq3,by simp,λS hS1 hS2=>?_⟩;have s37:=s3.aa (s4.aa s5);refine z3 _ _ λ_ _ _ _ z4=>⟨Ey rfl,λq4 hq4=>?_⟩;refine B0 hq4 λH8 s6 eq4=>?_;have s38:=s37.aa s6;refine⟨lm,rfl,⟨_,Ai (s38 _ _ elm2)⟩,?_⟩;refine G5 (K:=K) (xs:=xm) (λn τ acc H'=>(∃o,τ=[o])/\H'=H8/\acc=((ps.filter (DO PP)).take n).map λp=>AE.int p.2.1) (by(first|lia|omega)) ⟨⟨AF,rfl⟩,rfl,rfl⟩ (λn τ acc H'⟨_,e,_⟩=>by rw[e];exact Ai (s38 _ _ elm2)) ?_ ?_
    . intro n y τ acc H9 R1 hy _ hI k1;refine AB λnG=>?_;obtain⟨⟨o,rfl⟩,rfl,rfl⟩:=hI;obtain⟨p,b,q,ep,rfl,eb,eq⟩:=(hpm2.ab s38.tp).ix hy;refine nG ?_;try clear nG
      exact⟨_,_,As eb,Aq (j:=1) rfl,k1 _ _ _ ⟨⟨_,rfl⟩,rfl,by rw[Ds,ep,C9];rfl⟩⟩
    intro τ acc H9 _ hI q5 hq5;refine AB λnG=>?_;obtain⟨_,rfl,rfl⟩:=hI;refine nG ?_;try clear nG
    rw[Df (by rw[hpm.dh];exact Al _)];refine B0 hq5 λHA s7 eq5=>?_;refine⟨q4,q5,_,_,rfl,rfl,s7 _ _ eq4,eq5,by simp;(first|lia|omega),λq6 hq6=>?_⟩;refine B0 hq6 λHB s8 eq6=>?_;have eq6:HB q6=AA (.lst (((t+m+1)::(ps.filter (DO PP)).map (·.2.1)).map AE.int)):=by rw[eq6,DM,EO];rfl
    refine⟨q6,_,rfl,Ai eq6,by simp,λE1 hE1 hE2=>?_⟩;have s3B:=s38.aa (s7.aa s8);refine z4 _ _ λ_ _ _ _ z5=>⟨a,rfl,λu HC s9 hu tu=>z5 _ _ ?_⟩;have s3C:=s3B.aa s9;refineλ_ _ _ _ z6=>⟨lm,rfl,⟨_,Ai (s3C _ _ elm2)⟩,IT (K:=K) (xs:=xm) (λn σ H'=>Jm (λ(o9:Option AE)(tl:AD)=>σ=[AA (.ref l),AA (.int t),AA (.int a),AA (.int m),AA (.ref lm),AA (.ref lr),AA (.int S),AA (.int E1),AA (.ref tl),o9]) (λ_ _=>Ap HC H') (λ_ tl=>Gv H' tl (((ps.filter (DO PP)).take n).foldl (λt x=>FN t x.2.2) (HR a)))) ⟨AF,u,rfl,Cu _,tu⟩ (λn σ H' _ hh=>by obtain⟨_,_,_,s',_⟩:=hh;exact Ai ((s3C.aa s') _ _ elm2)) ?_ ?_⟩
    . intro n y σ HD hy hI;refine AB λnG=>?_;obtain⟨o9,tl,rfl,sD,etl⟩:=hI;obtain⟨p,b,q,ep,rfl,eb,eq⟩:=(hpm2.ab (s3C.aa sD).tp).ix hy;refine nG ?_;try clear nG
      refine⟨_,_,As eb,Aq (j:=2) rfl,tl,q,_,_,rfl,etl,eq,λr HE sE hr' tr=>⟨_,r,rfl,sD.aa sE,?_⟩⟩;rw[Vg ep];exact tr
    . intro σ HD hI;refine AB λnG=>?_;obtain⟨o9,tl,rfl,sD,etl⟩:=hI;refine nG ?_;try clear nG
      rw[hpm.dh,Df (Al _)]at etl;have s3D:=s3C.aa sD;have eS:=Z0 hS1 hS2;have eE:=Zv hE1 hE2;refine z6 _ _ ⟨lr,tl,xr,_,S,E1,_,rfl,s3D _ _ elr,hpr2.ab s3D.tp,(PN ch).sublist MU,by have:=FY (λp=>!DO PP p) ps;(first|lia|omega),etl,λr HE xe sE hre ere hpe=>?_⟩;refine k r HE xe (s02.aa (s3D.aa sE)) ((s02.aa s3D).bh hre) ere ?_;have me:=Ph (l:=ps) (p:=PP) (by rw[<-ePP];show t<t+m+1;(first|lia|omega)) ch;rw[<-me];rw[eS,eE]at hpe;subst ePP;exact hpe
noncomputable def eC:BF:=λW H Q _=>PH (λ(p l i:AD)(U:List AE)(D:List Aa)(s:AV)(t a:Int)(y:AG)=>W=[.ref p,.ref l,.ref i]) (λp _ _ _ _ s _ _ _=>Cp H p s) (λ_ _ _ _ _ s _ _ _=>s.fw) (λ_ _ _ _ D s _ _ _=>s.gd D) (λ_ l _ U _ _ _ _ _=>H l=AA (.lst U)) (λ_ _ _ U D _ _ _ _=>DZ H U D) (λ_ _ _ _ D _ _ _ _=>D.length<=5000) (λ_ _ i _ _ _ t a y=>H i=AA (.tup [.int t,.str y,.int a])) (λ_ _ _ _ _ _ t _ _=>0<=t) (λ_ _ _ _ _ _ t _ _=>t<=1000000000) (λ_ _ _ _ D s t a _=>∀r J F,Ap H J->H r=AF->J r=AA (.lst F)->DZ J F (s.uv t a D)->Q (.ref r) J)
theorem bK{K:Ar}{G:CW}(T:Ba K e G):A8 P w K e base BM 4 G.yh G.yr ["step","pieces","item"] eC:=by
  have D:=fU.mk (aI (P:=P) (w:=w) (base:=base) T) T.ael T.yc.kp T.aec;have F:=fU.mk (aO (P:=P) (w:=w) (base:=base) T) T.aft T.aaa.kp T.afg;refine T.acf.ok VA (λr H Q E h=>?_) (λR A Y s H r Q E O h=>?_)
  . refine AB λU=>?_;obtain⟨p,l,i,C,Z,s,t,a,y,rfl,_⟩:=h;refine U ?_;try clear U
    rfl
  . refine AB λU=>?_;obtain⟨p,l,i,C,Z,g,t,a,y,rfl,L,W,M,I,hw,N,V,o,t1,k⟩:=h;refine U ?_;try clear U
    have u:=VA.nd;refine⟨_,(Af (CT (Bt C7 (Bi K (AO 0) AR) DB (Br _)) (Ak (BE (Ck D O (AJ (AO 1) (AJ (Bi K (AO 2) AR) (AJ (Bi K (AO 2) AR) (AJ (Bi K (AO 0) AR) (AJ (Bi K (AO 0) AR) AW)))))))) C1) (Ak (BE (Ck F O (AJ (AO 1) (AJ (Bi K (AO 2) AR) (AJ (Bi K (AO 2) AR) (AJ (Bi K (AO 0) AR) AW)))))))),?_⟩;cases g with
    |each n f B z d=>
      have J:H p=AA (.tup [.str "each",.str n,.str f,.str B,.int z,.int d]):=L;refine AB λU=>?_;obtain⟨S,X,b,c⟩:=W;refine U ?_;try clear U
      refine⟨_,_,As J,Aq (j:=0) rfl,rfl,_,rfl,N1 (λ_=>?_) λq=>absurd rfl q⟩;exact⟨_,_,As V,Aq (j:=0) rfl,_,_,As V,Aq (j:=2) rfl,_,_,As J,Aq (j:=4) rfl,_,_,As J,Aq (j:=5) rfl,l,C,Z,t,a,z,d,rfl,⟨S,X,b,c,o,t1⟩,I,hw,M.1,N,k⟩|gap n f B m=>have J:H p=AA (.tup [.str "gap",.str n,.str f,.str B,.int m]):=L;refine⟨_,_,As J,Aq (j:=0) rfl,rfl,_,rfl,N1 (λq=>absurd q (by decide+kernel)) λ_=>?_⟩;exact⟨_,_,As V,Aq (j:=0) rfl,_,_,As V,Aq (j:=2) rfl,_,_,As J,Aq (j:=4) rfl,l,C,Z,t,a,m,rfl,W,I,hw,M,N,k⟩|_=>cases W
noncomputable def Jy(D:AG)(t:Dd):Int:=if D="count"then t.1 else if D="sum"then t.2.1 else if D="least"then t.2.2.1 else t.2.2.2
noncomputable def eZ:BF:=λF H Q _=>O5 (λ(D:AG)(q:AD)(t:Dd)=>F=[.str D,.ref q]) (λD _ _=>D∈Em) (λ_ q t=>Gv H q t) (λD _ t=>Q (.int (Jy D t)) H)
theorem bY{K:Ar}{ad:CW}(T:Ba K mg ad):A8 P w K mg base BM 1 ad.aar ad.aay ["sort","tally"] eZ:=by
  refine T.aeq.ok Va (λvs H Q E h=>?_) (λcdv A outer s H vs Q E hr h=>?_)
  . refine AB λnG=>?_;obtain⟨so,q,t,rfl,_⟩:=h;refine nG ?_;try clear nG
    rfl
  . refine AB λnG=>?_;obtain⟨so,q,t,rfl,hso,eq,k⟩:=h;refine nG ?_;try clear nG
    have nd:=Va.nd;refine⟨_,(Ak (BE (Bi K (AO 1) (JP (K:=K) F.plainAttrs_tuple uR F.type_tuple_index (jK (K:=K)) (OB (v:=.ref ad.ik) (by rfl) T.afk rfl) (AJ (AO 0) AW))))),?_⟩;have qt:B8 K H ad.ik (Em.map AE.str):=T.afz H;have vs:Jy "count" t=t.1/\Jy "sum" t=t.2.1/\Jy "least" t=t.2.2.1/\Jy "greatest" t=t.2.2.2:=⟨rfl,rfl,rfl,rfl⟩;refine AB λnG=>?_;obtain⟨v0,v1,v2,v3⟩:=vs;have nd:Em.Nodup:=by decide+kernel
    obtain⟨j,hj,ej⟩:=F7.mp hso;refine nG ?_;try clear nG
    have ej:Em[j]?=AA so:=by rw[<-ej];exact Cm hj
    have hno:∀m,m<j->Em[m]?≠AA so:=λm hm e=>by obtain⟨h1,g1⟩:=BN.mp ej;obtain⟨h2,g2⟩:=BN.mp e;exact(E3.mp nd) m j h2 h1 hm (g2.trans g1.symm)
    have hv:Cb [AE.int t.1,.int t.2.1,.int t.2.2.1,.int t.2.2.2] (j:Int)=AA (.int (Jy so t)):=by match j,ej with |0,e=>cases e;rw[v0];rfl|1,e=>cases e;rw[v1];rfl|2,e=>cases e;rw[v2];rfl|3,e=>cases e;rw[v3];rfl
    exact⟨.inr (.inl ⟨rfl,T.afp⟩),ad.ik,Em,so,j,rfl,rfl,qt,ej,hno,_,_,As eq,hv,k⟩
noncomputable def AV.so:AV->AG|AV.gap _ _ s _|AV.each _ _ s _ _=>s|_=>""
theorem Cp.aml{K:Ar}{s:AV}(h:Cp H p s)(D:s.fw):B8 K H p (s.agw.map Ax)/\Cb (s.agw.map Ax) 1=AA (.str s.nm)/\Cb (s.agw.map Ax) 3=AA (.str s.so):=by refine⟨As h,?_⟩;cases s with|gap n f F m=>exact⟨Aq (j:=1) rfl,Aq (j:=3) rfl⟩|each n f F z d=>exact⟨Aq (j:=1) rfl,Aq (j:=3) rfl⟩|_=>cases D
noncomputable def I0(s:AV)(z:AG)(p:Aa):List AL:=[.inr s.nm,.inr z,.inl p.1,.inl p.2.1,.inl (Jy s.so p.2.2)]
noncomputable def b0(z:AG)(p:Aa):List AL:=[.inl p.2.1,.inr z,.inl p.1]
noncomputable def eI:BF:=λJ H Q _=>O9 (λ(p a:AD)(s:AV)(z:AG)(D:Aa)=>J=[.ref p,.str z,.ref a]) (λp _ s _ _=>Cp H p s) (λ_ _ s _ _=>s.fw) (λ_ _ s _ _=>s.so∈Em) (λ_ a _ _ D=>Se H (.ref a) D) (λ_ _ s z D=>∀r F,Ap H F->H r=AF->F r=AA (.tup ((I0 s z D).map Ax))->Q (.ref r) F)
theorem bM{K:Ar}{Y:CW}(T:Ba K I Y):A8 P w K I base BM 2 Y.yi Y.yt ["step","key","piece"] eI:=by
  have D:=fU.mk (bY (P:=P) (w:=w) (base:=base) T) T.aib T.aeq.kp T.ahw;refine T.acg.ok VF (λR H Q E h=>?_) (λB A W s H R Q E J h=>?_)
  . refine AB λF=>?_;obtain⟨p,a,s,z,O,rfl,_⟩:=h;refine F ?_;try clear F
    rfl
  . refine AB λF=>?_;obtain⟨p,a,X,z,O,rfl,G,L,V,⟨_,q,e,U,C⟩,k⟩:=h;cases e;refine F ?_;try clear F
    have S:=VF.nd;refine⟨_,(Ak (BE (Cw (AJ (Bi K (AO 0) AR) (AJ (AO 1) (AJ (Bi K (AO 2) AR) (AJ (Bi K (AO 2) AR) (AJ (Ck D J (AJ (Bi K (AO 0) AR) (AJ (Bi K (AO 2) AR) AW))) AW)))))))),?_⟩;refine AB λF=>?_;obtain⟨Z,M,N⟩:=G.aml (K:=K) L;refine F ?_;try clear F
    exact⟨_,_,Z,M,_,_,As U,Aq (j:=0) rfl,_,_,As U,Aq (j:=1) rfl,_,_,Z,N,_,_,As U,Aq (j:=2) rfl,_,q,_,rfl,V,C,Ey rfl,λr J=>k r _ (Be J) J Ab⟩
noncomputable def d7:BF:=λF H Q _=>Ss (λ(a:AD)(s:AV)(z:AG)(D:Aa)=>F=[.ref a]) (λa s z D=>H a=AA (.tup ((I0 s z D).map Ax))) (λ_ _ z D=>∀r,H r=AF->Q (.ref r) (AN H r (.tup ((b0 z D).map Ax))))
theorem bF{K:Ar}{U:CW}(T:Ba K W U):A8 P w K W base BM 1 U.uc U.uo ["row"] d7:=by
  refine T.adu.ok U7 (λZ H Q E h=>?_) (λV A J s H Z Q E q h=>?_)
  . refine AB λD=>?_;obtain⟨a,s,z,Y,rfl,_⟩:=h;refine D ?_;try clear D
    rfl
  . refine AB λD=>?_;obtain⟨a,C,z,Y,rfl,F,k⟩:=h;refine D ?_;try clear D
    have B:=U7.nd;refine⟨_,(Ak (BE (Cw (AJ (Bi K (AO 0) AR) (AJ (Bi K (AO 0) AR) (AJ (Bi K (AO 0) AR) AW)))))),?_⟩;exact⟨_,_,As F,Aq (j:=3) rfl,_,_,As F,Aq (j:=1) rfl,_,_,As F,Aq (j:=2) rfl,Ey rfl,k⟩
structure Gu(ex:List AD)(H:AI)(d:AD)(g:AG->List Aa)(kvs:List (AL×AE)):Prop where
 ao:H d=AA (.dK kvs)nd:(kvs.map (·.1)).Nodup
 aho:∀q∈kvs,∃(key:AG)(r:AD)(xs:List AE),q=(.inr key,.ref r)/\r∉ex/\H r=AA (.lst xs)/\DZ H xs (g key)afd:∀key,g key≠[]->(.inr key:AL)∈kvs.map (·.1)
theorem Gu.ab(h:Gu ex H d g kvs)(W:H' d=AA (.dK kvs))(Y:∀b xs,b∉ex->H b=AA (.lst xs)->H' b=AA (.lst xs))(t:Bp H H'):Gu ex H' d g kvs:=⟨W,h.nd,λq U=>by
 refine AB λF=>?_;obtain⟨D,r,xs,e,n,J,w⟩:=h.aho q U;refine F ?_;try clear F
 exact⟨D,r,xs,e,n,Y _ _ n J,w.ab t⟩,h.afd⟩
theorem Gu.bc(h:Gu ex H d g kvs)(s:Ap H H'):Gu ex H' d g kvs:=h.ab (s _ _ h.ao) (λ_ _ _ e=>s _ _ e) s.tp
theorem Gu.at(h:Gu ex H d g kvs)(key:AG):(Bm kvs (.inr key)=AF/\g key=[])\/∃r xs,Bm kvs (.inr key)=AA (.ref r)/\r∉ex/\H r=AA (.lst xs)/\DZ H xs (g key):=by cases F:Bm kvs (.inr key)with
 |none=>refine .inl ⟨rfl,?_⟩;cases Y:g key with|nil=>rfl|cons a b=> obtain⟨v,D⟩:=MS (h.afd key (by rw[Y];simp));rw[F]at D;cases D
 |some v=>
  refine AB λU=>?_;obtain⟨J,r,xs,e,n,W,w⟩:=h.aho _ (Hq F);cases e;refine U ?_;try clear U
  exact .inr ⟨r,xs,rfl,n,W,w⟩
noncomputable def Gi(g:AG->List Aa)(key:AG)(ps:List Aa):AG->List Aa:=λk=>if k=key then ps else g k
theorem Kh:Gi g key ps key=ps:=yY rfl
theorem II(h:k≠key):Gi g key ps k=g k:=yX h
theorem Gu.uv(h:Gu ex H d g kvs)(K:r∉ex)(E:H r=AA (.lst xs))(hw:DZ H xs ps):Gu ex (AN H d (.dK (Bb kvs (.inr key) (.ref r)))) d (Gi g key ps) (Bb kvs (.inr key) (.ref r)):=by
  have B:∀{b:AD}{A:List AE},H b=AA (.lst A)->(AN H d (.dK (Bb kvs (.inr key) (.ref r)))) b=AA (.lst A):=λ{b A}e=>by rw[Ac λz=>by rw[z,h.ao]at e;cases e];exact e
  have C:Bp H (AN H d (.dK (Bb kvs (.inr key) (.ref r)))):=(Hh H).gf h.ao λxs=>by intro z;cases z
  refine⟨Ab,ME h.nd,λq I=>?_,λk J=>?_⟩
  . rcases MD I with rfl|⟨G,W⟩;.exact⟨key,r,xs,rfl,K,B E,by rw[Kh];exact hw.ab C⟩
    . refine AB λF=>?_;obtain⟨D,L,Z,e,n,U,M⟩:=h.aho q G;refine F ?_;try clear F
      subst e;have J:D≠key:=λz=>W (by show(CJ D:AL)=.inr key;rw[z]);exact⟨D,L,Z,rfl,n,B U,by rw[II J];exact M.ab C⟩
  . by_cases e:k=key
    . subst e;refine AB λF=>?_;obtain⟨v,Y⟩:∃v,Bm (Bb kvs (.inr k) (.ref r)) (.inr k)=AA v:=⟨_,by rw[Ie,yY rfl]⟩;refine F ?_;try clear F
      exact BO.mpr ⟨_,Hq Y,rfl⟩
    . rw[II e]at J;obtain⟨v,Y⟩:=MS (h.afd k J);have:Bm (Bb kvs (.inr key) (.ref r)) (.inr k)=AA v:=by rw[Ie,yX (λz=>e (Kc z))];exact Y
      exact BO.mpr ⟨_,Hq this,rfl⟩
section
variable{ad:CW}{s:AV}
structure Dt(ad:CW)(ex:List AD)(H:AI)(x p d:AD)(s:AV)(g:AG->List Aa)(kvs:List (AL×AE)):Prop where
 cn:∃dx,H x=AA (.ins ad.ar dx [("step",.ref p),("rows",.ref d)])vh:Cp H p s
 ba:Gu ex H d g kvs
end
theorem Dt.bc{st:AV}(h:Dt F ex H x p d st g kvs)(s:Ap H H'):Dt F ex H' x p d st g kvs:=by
 refine AB λD=>?_;obtain⟨⟨J,e⟩,st,r⟩:=h;refine D ?_;try clear D
 exact⟨⟨J,s _ _ e⟩,s _ _ st,r.bc s⟩
theorem Dt.aen{st:AV}(h:Dt U ex H x p d st g kvs)(s:Bs d H H')(r:Gu ex H' d g' D):Dt U ex H' x p d st g' D:=by
 refine AB λF=>?_;obtain⟨⟨W,e⟩,st,J⟩:=h;refine F ?_;try clear F
 have Y:x≠d:=λz=>by rw[z,J.ao]at e;cases e
 have Z:p≠d:=λz=>by have st:H p=_:=st;rw[z,J.ao]at st;cases st
 exact⟨⟨W,s _ _ Y e⟩,s _ _ Z st,r⟩
noncomputable def dJ(F:CW):BF:=λJ H Q _=>Sn (λ(x D p:AD)=>J=[.ref x,.ref p]) (λx D _=>H x=AA (.ins F.ar D [])) (λx D p=>∀d,H d=AF->Q .non (AN (AN (AN H x (.ins F.ar D [("step",.ref p)])) d (.dK [])) x (.ins F.ar D [("step",.ref p),("rows",.ref d)])))
theorem aP{K:Ar}{J:CW}(T:Ba K Y J):A8 P w K Y base BM 1 J.cv J.fi ["self","step"] (dJ J):=by
  refine T.vn.ok Ud (λZ H Q E h=>?_) (λW A V s H Z Q E q h=>?_)
  . refine AB λD=>?_;obtain⟨x,U,p,rfl,_⟩:=h;refine D ?_;try clear D
    rfl
  . refine AB λD=>?_;obtain⟨x,U,p,rfl,e,k⟩:=h;refine D ?_;try clear D
    have z:=Ud.nd;refine⟨_,(Af (FW (AO 0) (AO 1) rfl) (Ak (FW (AO 0) MJ rfl))),?_⟩;refine⟨x,_,U,[],rfl,e,T.cm,T.nh,by decide,?_⟩;refineλd F=>⟨x,_,U,[("step",.ref p)],rfl,?_,T.cm,T.cw,(by show 1<1000;decide),?_⟩;.rw[Ac (BS Ab F)];exact Ab
    . refine k d ?_;rw[Ac (BS Ab F).symm]at F;exact F
noncomputable def dM(Y:CW):BF:=λZ H Q _=>PH (λ(U:List AD)(x p d q:AD)(F:AV)(g:AG->List Aa)(D:List (AL×AE))(i:AU)=>Z=[.ref x,.ref q]) (λU x p d _ F g D _=>Dt Y U H x p d F g D) (λU _ _ _ _ _ _ _ _=>(∀c∈U,∃o,H c=AA o)) (λ_ _ _ _ _ F _ _ _=>F.fw) (λ_ _ _ _ _ F g _ i=>F.gd (g i.2.1)) (λ_ _ _ _ _ _ _ _ i=>0<=i.1) (λ_ _ _ _ _ _ _ _ i=>i.1<=1000000000) (λ_ _ _ _ q _ _ _ i=>H q=AA (.tup [.int i.1,.str i.2.1,.int i.2.2])) (λ_ _ _ _ _ _ g _ i=>(g i.2.1).length<=5000) (λ_ _ _ _ _ _ _ D _=>D.length<=10000) (λU x p d _ F g D i=>∀W J,Bs d H W->Dt Y U W x p d F (Gi g i.2.1 (F.uv i.1 i.2.2 (g i.2.1))) J->J.length<=D.length+1->Q .non W)
theorem aQ{K:Ar}{B:CW}(T:Ba K mg B):A8 P w K mg base BM 5 B.ny B.oy ["self","item"] (dM B):=by
  have F:=fU.mk (bK (P:=P) (w:=w) (base:=base) T) T.ahb T.acf.kp T.agp;refine T.abv.ok Ug (λvs H Q E h=>?_) (λcdv A m s H vs Q E Z h=>?_)
  . refine AB λY=>?_;obtain⟨ex,x,p,d,q,st,g,W,i,rfl,_⟩:=h;refine Y ?_;try clear Y
    rfl
  . refine AB λY=>?_;obtain⟨ex,x,p,d,q,st,g,W,⟨t,D,a⟩,rfl,R,X,ok,gd,t0,t1,eq,lg,lk,k⟩:=h;refine Y ?_;try clear Y
    have nd:=Ug.nd;refine⟨_,(Af (Cr 2 nd (Bi K (AO 1) AR)) (Ak (JS Z.u1 (Cq (AO 0) rfl) (AO 2) (Ck F Z (AJ (Cq (AO 0) rfl) (AJ (Rb Z.u1 (Cq (AO 0) rfl) (AO 2) (Dl AW) ⟨rfl,rfl,rfl,rfl⟩) (AJ (AO 1) AW)))) rfl))),?_⟩;have sz:Aw=16777216:=DN;obtain⟨v,eo⟩:=R.cn;refine⟨_,_,As eq,Aq (j:=1) rfl,?_⟩;have l:Kk H d:=.inl ⟨W,.inl R.ba.ao⟩;refine⟨x,_,v,_,_,rfl,eo,T.cm,T.nh,rfl,x,_,v,_,_,rfl,eo,T.cm,T.cw,rfl,d,rfl,l,CU _,λy S=>?_⟩;refine B0 S λu s1 I=>?_;have J:=R.bc s1;refine AB λY=>?_;obtain⟨n,z,O,M,hw⟩:∃(r:AD)(z:List AE),(Bm W (.inr D)).getD (.ref y)=.ref r/\u r=AA (.lst z)/\DZ u z (g D):=by
      rcases J.ba.at D with⟨G,e2⟩|⟨r,z,G,_,M,hw⟩;.exact⟨y,[],by rw[G];rfl,I,by rw[e2];exact .nil⟩
      .exact⟨r,z,by rw[G];rfl,M,hw⟩
    refine Y ?_;try clear Y
    refine⟨_,Kj (k:=CJ D) J.ba.ao,?_⟩;rw[O];refine⟨p,n,q,z,g D,st,t,a,D,rfl,J.vh,ok,gd,M,hw,lg,s1 _ _ eq,t0,t1,λr H2 xs' s2 Z N f=>?_⟩;have U:=J.bc s2;obtain⟨C,L⟩:=U.cn;refine⟨x,_,C,_,_,rfl,L,T.cm,T.cw,rfl,d,_,rfl,J3 (k:=CJ D) U.ba.ao (by(first|lia|omega)),?_⟩;have c:r∉ex:=λhm=>by obtain⟨o,e⟩:=X r hm;rw[s1 _ _ e]at Z;cases Z
    exact k _ _ ((((s1.aa s2).x d)).gf) (U.aen (λb o nb e=>by rw[Ac nb];exact e) (U.ba.uv c N f)) (by have:=RH W (.inr D) (.ref r);(first|lia|omega))
theorem Gu.afj(h:Gu ex H d g kvs)(key:AG):Gu ex (AN H d (.dK (Cv kvs (.inr key)))) d (Gi g key []) (Cv kvs (.inr key)):=by
  have G:∀{b:AD}{B:List AE},H b=AA (.lst B)->(AN H d (.dK (Cv kvs (.inr key)))) b=AA (.lst B):=λ{b B}e=>by rw[Ac λz=>by rw[z,h.ao]at e;cases e];exact e
  have K:Bp H (AN H d (.dK (Cv kvs (.inr key)))):=(Hh H).gf h.ao λM=>by intro z;cases z
  have J:∀{q:AL×AE},q∈Cv kvs (.inr key)↔q∈kvs/\q.1≠.inr key:=λ{q}=>by unfold Cv;rw[Dy,y7]
  refine⟨Ab,h.nd.sublist (wX _ MU),λq Z=>?_,λk F=>?_⟩
  . refine AB λU=>?_;obtain⟨E,Y⟩:=J.mp Z;obtain⟨D,I,A,e,n,W,L⟩:=h.aho q E;refine U ?_;try clear U
    subst e;have F:D≠key:=λz=>Y (by show(CJ D:AL)=.inr key;rw[z]);exact⟨D,I,A,rfl,n,G W,by rw[II F];exact L.ab K⟩
  . have e:k≠key:=λz=>F (by rw[z];exact Kh);rw[II e]at F;refine AB λU=>?_;obtain⟨q,Z,C⟩:=BO.mp (h.afd k F);refine U ?_;try clear U
    exact BO.mpr ⟨q,J.mpr ⟨Z,by rw[C];exactλz=>e (Kc z)⟩,C⟩
theorem cD:Gi (Gi g key a) key b=Gi g key b:=by
 funext k;by_cases e:k=key;.rw[e,Kh,Kh]
 .rw[II e,II e,II e]
noncomputable def Fe:Option Int->List Aa->List Aa|AF,F=>F|AA D,F=>EX D F
noncomputable def E9:Option Int->List Aa->List Aa|AF,_=>[]|AA D,F=>FO D F
noncomputable def Kg:Option Int->AE|AF=>.non|AA n=>.int n
theorem Zl{kvs:List (AL×AE)}:∀k,k≠k0->k∈kvs.map (·.1)->k∈(Cv kvs k0).map (·.1):=λk F h=>by
 refine AB λD=>?_;obtain⟨q,J,rfl⟩:=BO.mp h;refine D ?_;try clear D
 exact BO.mpr ⟨q,Dy.mpr ⟨J,y3 F⟩,rfl⟩
theorem Zm{kvs:List (AL×AE)}:∀k,k∈kvs.map (·.1)->k∈(Bb kvs k0 v).map (·.1):=λk h=>by
 refine AB λD=>?_;obtain⟨u,F⟩:=MS h;have:∃y,Bm (Bb kvs k0 v) k=AA y:=by
  rw[Ie];split;.exact⟨_,rfl⟩
  .exact⟨_,F⟩
 obtain⟨y,J⟩:=this;refine D ?_;try clear D
 exact BO.mpr ⟨_,Hq J,rfl⟩
noncomputable def eQ(q:CW):BF:=λA H Q _=>PJ (λ(W:List AD)(x p d:AD)(Z:AV)(D:AG)(g:AG->List Aa)(F:List (AL×AE))(U:Option Int)=>A=[.ref x,.str D,Kg U]) (λW x p d Z _ g F _=>Dt q W H x p d Z g F) (λW _ _ _ _ _ _ _ _=>(∀c∈W,∃o,H c=AA o)) (λ_ _ _ _ _ D _ F _=>(.inr D:AL)∈F.map (·.1)) (λ_ _ _ _ _ D g _ _=>(g D).length<=10000) (λ_ _ _ _ _ _ _ F _=>F.length<=1000) (λW x p d Z D g F U=>∀Y r z J,Bs d H Y->Dt q W Y x p d Z (Gi g D (E9 U (g D))) J->Y r=AA (.lst z)->DZ Y z (Fe U (g D))->J.length<=F.length->(∀k,k≠.inr D->k∈F.map (·.1)->k∈J.map (·.1))->Q (.ref r) Y)
theorem bT{K:Ar}{ad:CW}(T:Ba K mg ad):A8 P w K mg base BM 2 ad.ml ad.mw ["self","key","now"] (eQ ad):=by
  have G_parted:=fU.mk (bG (P:=P) (w:=w) (base:=base) T) T.agz T.acd.kp T.agn;refine T.aal.ok Uh (λvs H Q E h=>?_) (λcdv A outer s H vs Q E hr h=>?_)
  . refine AB λnG=>?_;obtain⟨ex,x,p,d,st,key,g,kvs,now,rfl,_⟩:=h;refine nG ?_;try clear nG
    rfl
  . refine AB λnG=>?_;obtain⟨ex,x,p,d,st,key,g,kvs,now,rfl,gr,hex,hg,lg,lk,k⟩:=h;refine nG ?_;try clear nG
    have nd:=Uh.nd;refine⟨_,(Af (Cr 3 nd (W0 (Cq (AO 0) rfl) (AO 1) ⟨rfl,rfl,rfl,rfl⟩)) (Af (CT (Bt Ws (AO 2) MK (Br _)) (Ak (BE (AO 3))) C1) (Af (Cr 4 nd (Ck G_parted hr (AJ (AO 3) (AJ (AO 2) AW)))) (Af (Ic (CT (Bt Wr (DQ (Ks (K:=K)) (by rfl) T.gy GB (AJ (Bi K (AO 4) AR) AW)) AR (Br _)) (Ak (JS hr.u1 (Cq (AO 0) rfl) (AO 1) (Bi K (AO 4) AR) rfl)) C1)) (Ak (BE (Bi K (AO 4) AR))))))),?_⟩;have sz:Aw=16777216:=DN;obtain⟨dx,eo⟩:=gr.cn;have isd:Kk H d:=.inl ⟨kvs,.inl gr.ba.ao⟩;rcases gr.ba.at key with⟨e1,_⟩|⟨r,xs,e1,hrx,er,hw⟩
    . obtain⟨v,hv⟩:=MS hg;rw[e1]at hv;cases hv
    refine⟨x,_,dx,_,_,rfl,eo,T.cm,T.cw,rfl,d,rfl,isd,kvs,.inr key,.ref r,gr.ba.ao,rfl,e1,?_⟩;have rd:=gr.ba.afj key;have sx1:Bs d H (AN H d (.dK (Cv kvs (.inr key)))):=λb o nb e=>by rw[Ac nb];exact e
    have gr1:=gr.aen sx1 rd;have nrd:r≠d:=λz=>by rw[z,gr.ba.ao]at er;cases er
    have er1:=sx1 _ _ nrd er;have hw1:=hw.ab (sx1.tp gr.ba.ao (by intro xs z;cases z));have ll:(Cv kvs (.inr key)).length<=kvs.length:=FY _ _;generalize AN H d (.dK (Cv kvs (.inr key)))=H1 at sx1 gr1 er1 hw1⊢;have lt1:Bm (Cv kvs (.inr key)) (.inr key)=AF->(Cv kvs (.inr key)).length<kvs.length:=λ_=>by
      have hm:=Hq e1;have hne:Cv kvs (.inr key)≠kvs:=λz=>by rw[<-z]at hm;unfold Cv at hm;have:=(Dy.mp hm).2;simp at this
      rcases Nat.lt_or_ge (Cv kvs (.inr key)).length kvs.length with h|h;.exact h
      .exact absurd (wW (MU) h) hne
    have lt0:Bm (Cv kvs (.inr key)) (.inr key)=AF:=by cases q:Bm (Cv kvs (.inr key)) (.inr key)with|none=>rfl|some v=> have:=(Dy.mp (Hq q)).2;rw[y7]at this;exact absurd rfl this
    have kd1:=Zl (kvs:=kvs) (k0:=.inr key);generalize Cv kvs (.inr key)=kvs1 at gr1 ll lt1 lt0 kd1;cases now with |none=>exact⟨rfl,_,rfl,iS rfl (k H1 r xs kvs1 sx1 gr1 er1 hw1 ll kd1)⟩|some now=>
      refine⟨rfl,_,rfl,WT (by intro z;cases z) ⟨r,xs,g key,now,rfl,er1,hw1,by(first|lia|omega),λq r1 r2 H2 x1 x2 s2 hr1 hr2 eq e1 e2 p1 p2=>?_⟩⟩;have gr2:=gr1.bc s2;obtain⟨dx2,eo2⟩:=gr2.cn;have q0:B8 K H2 q _:=As eq;have l2:=p2.dh;refine IS (λσ' H'=>∃kvs',σ'=[AA (.ref x),AA (.str key),AA (.int now),AA (.ref r),AA (.ref q)]/\Bs d H2 H'/\Dt ad ex H' x p d st (Gi g key (E9 (AA now) (g key))) kvs'/\kvs'.length<=kvs.length/\(∀k,k≠.inr key->k∈kvs.map (·.1)->k∈kvs'.map (·.1))) ?_ ?_
      . refine⟨_,_,q0,Aq (j:=1) rfl,x2,.inl (Ai e2),_,rfl,G6 (λh=>?_) λh=>?_⟩
        . refine⟨_,_,q0,Aq (j:=1) rfl,x,_,dx2,_,_,rfl,eo2,T.cm,T.cw,rfl,d,_,rfl,J3 (k:=CJ key) gr2.ba.ao (by(first|lia|omega)),?_⟩;have hrx2:r2∉ex:=λhm=>by
            obtain⟨o,e⟩:=hex r2 hm;have nd:r2≠d:=λz=>by rw[z,gr1.ba.ao]at hr2;cases hr2
            rw[sx1 _ _ nd e]at hr2;cases hr2
          have rp:=gr2.ba.uv (key:=key) hrx2 e2 p2;rw[cD]at rp;have sxp:Bs d H2 (AN H2 d (.dK (Bb kvs1 (.inr key) (.ref r2)))):=λb o nb e=>by rw[Ac nb];exact e
          refine⟨_,rfl,sxp,gr2.aen sxp rp,?_,λk' h1 h2=>Zm _ (kd1 k' h1 h2)⟩;have nk:(Bm kvs1 (.inr key))=AF:=by exact lt0
          have lk1:kvs1.length<kvs.length:=lt1 nk;have:=RH kvs1 (.inr key) (.ref r2);(first|lia|omega)
        . have e0:E9 (AA now) (g key)=[]:=Xu (by show(FO now (g key)).length=0;(first|lia|omega));exact⟨kvs1,rfl,λb o _ e=>e,by rw[e0];exact gr2,ll,kd1⟩
      . intro σ' H3 hI;refine AB λnG=>?_;obtain⟨kvs',rfl,sx3,gr3,l3,kd3⟩:=hI;refine nG ?_;try clear nG
        have nqd:q≠d:=λz=>by rw[z,gr2.ba.ao]at eq;cases eq
        have n1d:r1≠d:=λz=>by rw[z,gr2.ba.ao]at e1;cases e1
        exact⟨_,_,As (sx3 _ _ nqd eq),Aq (j:=0) rfl,k H3 r1 x1 kvs' (sx1.aa ((s2.x d).aa sx3)) gr3 (sx3 _ _ n1d e1) (p1.ab (sx3.tp gr2.ba.ao (by intro xs z;cases z))) l3 kd3⟩
noncomputable def GV(g:AG->List Aa)(ks:List AG):List (AG×Aa):=ks.flatMap λz=>(g z).map λp=>(z,p)
noncomputable def Ki(st:AV)(D:AG×Aa):List AL:=I0 st D.1 D.2
noncomputable def UJ:List AL->List AL|[_,k,s,e,_]=>[e,k,s]|_=>[]
theorem Dt.mh{st:AV}(h:Dt W ex H x p d st g kvs)(Y:H l=AF):Dt W (l::ex) H x p d st g kvs:=⟨h.cn,h.vh,h.ba.ao,h.ba.nd,λq Z=>by
 refine AB λU=>?_;obtain⟨J,r,z,e,n,D,w⟩:=h.ba.aho q Z;refine U ?_;try clear U
 refine⟨J,r,z,e,λF=>?_,D,w⟩;rcases CB.mp F with rfl|F;.rw[Y]at D;cases D
 .exact n F,h.ba.afd⟩
theorem Dt.vi{st:AV}(h:Dt J (l::ex) H x p d st g kvs):Dt J ex H x p d st g kvs:=⟨h.cn,h.vh,h.ba.ao,h.ba.nd,λq Y=>by
 refine AB λF=>?_;obtain⟨D,r,Z,e,n,U,w⟩:=h.ba.aho q Y;refine F ?_;try clear F
 exact⟨D,r,Z,e,λW=>n (ER _ W),U,w⟩,h.ba.afd⟩
theorem Dt.aag{st:AV}(h:Dt Z ex H x p d st g kvs)(e:H c=AA (.lst ys))(B:c∈ex):Dt Z ex (AN H c o) x p d st g kvs:=by
 refine AB λY=>?_;obtain⟨⟨q,A⟩,st,r⟩:=h;refine Y ?_;try clear Y
 have W:H p=_:=st;have J:∀{b:AD}{U:Bh},H b=AA U->(∀F,U≠.lst F)->(AN H c o) b=AA U:=λ{b U}D n=>by rw[Ac λz=>by rw[z,e]at D;exact n _ (CM D).symm];exact D
 refine⟨⟨q,J A (by intro F z;cases z)⟩,J W (by intro F z;cases z),r.ab (J r.ao (by intro F z;cases z)) (λb F C D=>?_) λb F D=>J D (by intro F z;cases z)⟩;rw[Ac λz=>C (by rw[z];exact B)];exact D
theorem cG{ys:List AE}{R:List (List AL)}(h:CH H ys R){Y:List (AE×List AL)}(p:Y.Perm (ys.zip (R.map f))):∃J,J.Perm R/\CH H (Y.map (·.1)) J/\J.map f=Y.map (·.2):=by
  have K:=h.dh;have C:BP (λ(D:List AL)(q:AE×List AL)=>(∃a,q.1=.ref a/\H a=AA (.tup (D.map Ax)))/\f D=q.2) R (ys.zip (R.map f)):=by refine Ez (by rw[Rx,A0];(first|lia|omega)) λi D q F U=>?_;obtain⟨Z,z⟩:=JX.mp U;rw[Bx,F]at z;exact⟨(CZ h).2 i q.1 D Z F,CM z⟩
  refine AB λW=>?_;obtain⟨J,E,G⟩:=KD p C;obtain⟨B,A⟩:=CZ G;refine W ?_;try clear W
  refine⟨J,E,Ez (by rw[A0,B]) λi v D F U=>?_,?_⟩
  . rw[Bx]at F;refine AB λW=>?_;obtain⟨q,Z,rfl⟩:=D2.mp F;refine W ?_;try clear W
    exact(A i D q U Z).1
  . refine Xv λi=>?_;rw[Bx,Bx];cases F:J[i]? with |none=>rw[Xx (by rw[<-B];exact Rv.mp F)];rfl|some D=>have I:=(BN.mp F).1;have U:=Cm (show i<Y.length by(first|lia|omega));rw[U];exact yZ AA (A i D _ F U).2
theorem fN{ks:List AG}(e:ks[i]?=AA z):GV g (ks.take (i+1))=GV g (ks.take i)++(g z).map λp=>(z,p):=by unfold GV;rw[Ds,e,nZ];simp
noncomputable def c7(A:CW):BF:=λC H Q _=>TC (λ(Z:List AD)(x p d:AD)(J:AV)(g:AG->List Aa)(D:List (AL×AE))(F:Option Int)=>C=[.ref x,Kg F]) (λZ x p d J g D _=>Dt A Z H x p d J g D) (λZ _ _ _ _ _ _ _=>(∀c∈Z,∃o,H c=AA o)) (λ_ _ _ _ J _ _ _=>J.fw) (λ_ _ _ _ J _ _ _=>J.so∈Em) (λ_ _ _ _ _ _ D _=>D.length<=1000) (λ_ _ _ _ _ g _ _=>(∀k,(g k).length<=10000)) (λZ x p d J g D F=>∀q r B Y U z,Bs d H q->Dt A (r::Z) q x p d J (λW=>E9 F (g W)) U->H r=AF->q r=AA (.lst B)->CH q B Y->Y.Perm ((GV (λW=>Fe F (g W)) z).map (Ki J))->(Y.map UJ).Pairwise (λa b=>BB b a=AQ)->z.Nodup->(∀k,g k≠[]->k∈z)->U.length<=D.length->z.length=D.length->Q (.ref r) q)
theorem aD{K:Ar}{ad:CW}(T:Ba K mg ad):A8 P w K mg base BM 4 ad.jn ad.kc ["self","now"] (c7 ad):=by
  have C:=bT (P:=P) (w:=w) (base:=base) T;have N:=fU.mk (bM (P:=P) (w:=w) (base:=base) T) T.ahc T.acg.kp T.agq;have I:=bF (P:=P) (w:=w) (base:=base) T;refine T.zh.ok Ue (λvs H Q E h=>?_) (λcdv A outer s H vs Q E O h=>?_)
  . refine AB λW=>?_;obtain⟨ex,x,p,d,m,g,B,now,rfl,_⟩:=h;refine W ?_;try clear W
    rfl
  . refine AB λW=>?_;obtain⟨ex,x,p,d,m,g,B,now,rfl,gr,hex,ok,hso,lk,lg,k⟩:=h;refine W ?_;try clear W
    have nd:=Ue.nd;refine⟨_,(Hn (Cr 2 nd (Dl AW)) (Hn (Eh E4 rfl (Dr (K:=K) (Ia (Q5 (K:=K) rfl) (by rfl) T.qr LD (AJ (Cq (AO 0) rfl) AW))) (Fm 3 nd) (Ak (kT (Fn (JP (K:=K) Mc SH YR N5 (AO 2) (AJ (Kz (A2 NS) [("key",3),("self",0)] ⟨rfl,rfl,rfl,rfl,trivial⟩ (Dr (K:=K) (Gp (AO 0) T.cm T.zt C (O.bb (by decide)) T.aas .nil Bk (AJ (AO 3) (AJ (AO 1) AW)))) (λ_ _ _ _=>G8) (λ_ _ _ _=>(Ck N O (AJ (kE (K:=K) (AO 2) rfl) (AJ (AO 1) (AJ (AO 0) AW)))))) AW)))))) (Ak (BE (kI I (O.bb (by decide)) (by rfl) T.aek T.aeb (by rfl) T.qu R8 (AO 2)))))),?_⟩;have sz:Aw=16777216:=DN;refineλ_ _ _ _ z1=>⟨CU _,λl hl=>z1 _ _ ?_⟩;refine B0 (o:=.lst []) hl λH1 s1 el=>?_;have gr1:=(gr.mh hl).bc s1;obtain⟨dx1,eo1⟩:=gr1.cn;refineλ_ _ _ _ z2=>⟨x,_,dx1,_,_,rfl,eo1,T.cm,T.cw,rfl,d,B,rfl,gr1.ba.ao,λls hls=>?_⟩;refine AB λW=>?_;obtain⟨Y,eks⟩:∃Y:List AG,(B.map λp=>Ax p.1)=Y.map AE.str:=by refine⟨B.map λq=>match q.1 with|.inr i=>i|.inl _=>"",?_⟩;rw[EO];refine Ry λq hq=>?_;obtain⟨z,r,xs,rfl,_⟩:=gr.ba.aho q hq;rfl
    refine W ?_;try clear W
    have ekk:B.map (·.1)=Y.map (CJ:AG->AL):=by
      have h1:∀q∈B,∃z,q.1=.inr z:=λq hq=>by obtain⟨z,r,xs,rfl,_⟩:=gr.ba.aho q hq;exact⟨z,rfl⟩
      have h2:(B.map λp=>Ax p.1).map (λv=>match v with|.str z=>(CJ z:AL)|_=>.inl 0)=B.map (·.1):=by rw[EO];refine Ry λq hq=>?_;obtain⟨z,e⟩:=h1 q hq;show(match Ax q.1 with|.str z=>(CJ z:AL)|_=>.inl 0)=q.1;rw[e];rfl
      rw[<-h2,eks,EO];rfl
    have kn:Y.Nodup:=by have h:=gr.ba.nd;rw[ekk,rX,KL]at h;exact h.imp λh e=>h (by rw[e])
    have km:∀z,g z≠[]->z∈Y:=λz ne=>by have h:=gr.ba.afd z ne;rw[ekk]at h;obtain⟨y,hy,e⟩:=BO.mp h;rw[<-Kc e];exact hy
    have lke:Y.length=B.length:=by have:=yZ LA eks;rw[A0,A0]at this;(first|lia|omega)
    have lks:Y.length<=1000:=by have:=yZ LA eks;rw[A0,A0]at this;(first|lia|omega)
    rw[eks];refine B0 (o:=.lst (Y.map AE.str)) hls λH2 s2 els=>?_;have nll:ls≠l:=λz=>by rw[z,el]at hls;cases hls
    have gr2:=gr1.bc s2;have nld:ls≠d:=λz=>by rw[z,gr2.ba.ao]at els;cases els
    have exs:∀{L:AI},Bs d H L->(∀{kv g':_},Dt ad (l::ex) L x p d m g' kv->(∃U,L l=AA (.lst U))->∀c∈l::ex,∃o,L c=AA o):=λ{L}sx{kv g'}gr' el' c hc=>by
      rcases CB.mp hc with rfl|hc
      . obtain⟨U,e⟩:=el';exact⟨_,e⟩
      . obtain⟨o,eo⟩:=hex c hc;by_cases q:c=d;.rw[q];exact⟨_,gr'.ba.ao⟩
        .exact⟨_,sx c o q eo⟩
    refine⟨ls,rfl,⟨_,Ai els⟩,IT (K:=K) (xs:=Y.map AE.str) (λi σ L=>Sr (λ(o3:Option AE)(U:List AE)(J:List (AL×AE))=>σ=[AA (.ref x),AA (Kg now),AA (.ref l),o3]) (λ_ _ _=>Bs d H L) (λ_ _ _=>L ls=AA (.lst (Y.map AE.str))) (λ_ _ J=>Dt ad (l::ex) L x p d m (λF=>if F∈Y.take i then E9 now (g F)else g F) J) (λ_ U _=>L l=AA (.lst U)) (λ_ U _=>CH L U ((GV (λF=>Fe now (g F)) (Y.take i)).map (Ki m))) (λ_ _ J=>J.length<=B.length) (λ_ U _=>U.length<=10000*i) (λ_ _ J=>∀z,z∉Y.take i->z∈Y->(.inr z:AL)∈J.map (·.1))) ⟨AF,[],B,rfl,(s1.aa s2).x d,els,?_,s2 _ _ el,Gq _,Al _,CU _,λz _ hz=>by rw[ekk];exact BO.mpr ⟨z,hz,rfl⟩⟩ (λi σ L _ hh=>by obtain⟨_,_,_,_,_,e,_⟩:=hh;exact Ai e) ?_ ?_⟩
    . have e:(λF=>if F∈Y.take 0 then E9 now (g F)else g F)=g:=by funext F;exact yX (by simp)
      rw[e];exact gr2
    . intro i y σ H3 hy hI;refine AB λW=>?_;obtain⟨o3,U,J,rfl,t,els3,G,M,R,lk3,la3,kin⟩:=hI;rw[Bx]at hy;obtain⟨z,hz,rfl⟩:=D2.mp hy;have hi:i<Y.length:=(BN.mp hz).1;have zn:z∉Y.take i:=λhm=>by obtain⟨j,hj,e⟩:=F7.mp hm;rw[EA]at hj;rw[MW]at e;obtain⟨h2,g2⟩:=BN.mp hz;exact(E3.mp kn) j i (by(first|lia|omega)) h2 (by(first|lia|omega)) (e.trans g2.symm)
      have gz:(if z∈Y.take i then E9 now (g z)else g z)=g z:=yX zn;obtain⟨dx3,eo3⟩:=G.cn;refine W ?_;try clear W
      have lgz:=lg z;refineλ_ _ _ _ z3=>⟨.inl ⟨rfl,_,Ai M⟩,x,dx3,_,rfl,eo3,by rfl,l::ex,x,p,d,m,z,_,J,now,rfl,G,exs t G ⟨_,M⟩,kin z zn (DW hz),CL (Ht (yZ LA gz)) lgz,by(first|lia|omega),λH4 r xs kvs4 sx4 gr4 er4 hw4 l4 kk4=>⟨r,rfl,⟨_,Ai er4⟩,?_⟩⟩;simp only[gz]at gr4 hw4;have eg:Gi (λF=>if F∈Y.take i then E9 now (g F)else g F) z (E9 now (g z))=λF=>if F∈Y.take (i+1)then E9 now (g F)else g F:=by
        funext F;have tm:F∈Y.take (i+1)↔F∈Y.take i\/F=z:=by rw[Ds,hz];simp
        by_cases e:F=z;.rw[e,Kh,yY (by rw[<-e,tm];exact .inr e)]
        . rw[II e];by_cases q:F∈Y.take i;.rw[yY q,yY (tm.mpr (.inl q))]
          .rw[yX q,yX (λh=>(tm.mp h).elim q e)]
      rw[eg]at gr4;have nl3:l≠d:=λq=>by rw[q,G.ba.ao]at M;cases M
      have el4:=sx4 _ _ nl3 M;have els4:=sx4 _ _ nld els3;have hw34:=R.ab (sx4.tp G.ba.ao (by intro xs z;cases z));have lo:(Fe now (g z)).length<=10000:=by cases now with|none=>exact lgz|some n=>exact CL (FY _ _) lgz
      have lx4:=hw4.dh;refine G5 (K:=K) (xs:=xs) (λj τ Z L=>(∃o,τ=[o,AA (.str z),AA (.ref x)])/\Ap H4 L/\CH L Z (((Fe now (g z)).take j).map λp=>Ki m (z,p))) (by(first|lia|omega)) ⟨⟨AF,rfl⟩,Cu _,Gq _⟩ (λj τ Z L⟨_,s',_⟩=>Ai (s' _ _ er4)) ?_ ?_
      . intro j y τ Z H5 R1 hy _ hI k1;refine AB λW=>?_;obtain⟨⟨o,rfl⟩,u,hw5⟩:=hI;obtain⟨pc,a,q,ep,rfl,ea,eq⟩:=hw4.ix hy;have gr5:=gr4.bc u;obtain⟨dx5,eo5⟩:=gr5.cn;refine W ?_;try clear W
        refine⟨x,_,dx5,_,_,rfl,eo5,T.cm,T.nh,rfl,p,a,m,z,pc,rfl,gr5.vh,ok,hso,⟨a,q,rfl,u _ _ ea,u _ _ eq⟩,λr' H7 s7 hr' er'=>k1 _ _ _ ⟨⟨_,rfl⟩,u.aa s7,?_⟩⟩;rw[Ds,ep,C9];exact(hw5.ab s7.tp).adm er'
      . intro τ Z H5 la5 hI D hD;refine AB λW=>?_;obtain⟨_,u,hw5⟩:=hI;refine W ?_;try clear W
        rw[Df (by(first|lia|omega))]at hw5;refine B0 (o:=.lst Z) hD λH6 s6 eD=>?_;have X:=u.aa s6;have el6:=X _ _ el4;refine⟨l,D,_,_,rfl,rfl,el6,eD,by(first|lia|omega),?_⟩;have tp6:Bp H6 (AN H6 l (.lst (U++Z))):=(Hh H6).gf el6 λxs=>by intro z;cases z
        refine z3 _ _ ⟨_,U++Z,kvs4,rfl,λb o nb e=>?_,by rw[Ac nll];exact X _ _ els4,(gr4.bc X).aag el6 (.head _),Ab,?_,by(first|lia|omega),by rw[CA];(first|lia|omega),λz' hz' hk'=>?_⟩;. rw[Ac (λq=>by rw[q,hl]at e;cases e)];exact X _ _ (sx4 b o nb (t b o nb e))
        . rw[fN hz,C9,EO];exact CH.ab (Dk (hw34.ab X.tp) (hw5.ab s6.tp)) tp6
        . rw[Ds,hz]at hz';exact kk4 _ (λq=>hz' (Ej _ (by rw[Kc q];exact .head _))) (kin z' (λq=>hz' (Gr _ q)) hk')
    . intro σ H3 hI;refine AB λW=>?_;obtain⟨o3,U,J,rfl,t,els3,G,M,R,lk3,la3,kin⟩:=hI;refine W ?_;try clear W
      rw[A0,Df (Al _)]at G R;have eg:(λF=>if F∈Y then E9 now (g F)else g F)=λF=>E9 now (g F):=by
        funext F;by_cases q:F∈Y;.exact yY q
        . rw[yX q];have:g F=[]:=by cases e:g F with|nil=>rfl|cons a b=>exact absurd (km F (by rw[e];simp)) q
          rw[this];cases now<;>rfl
      rw[eg]at G;have f:∀S∈(GV (λF=>Fe now (g F)) Y).map (Ki m),∃kp,S=Ki m kp:=λS O=>by obtain⟨kp,_,rfl⟩:=BO.mp O;exact⟨kp,rfl⟩
      refine z2 _ _ ⟨l,U,((GV (λF=>Fe now (g F)) Y).map (Ki m)).map UJ,rfl,Ai M,⟨by simp[R.dh],⟨[AH,AQ,AH],by simp,λkk hk=>?_⟩,λi y kk H4 hy hk s4=>?_⟩,λr qs H4 s4 O pq sq=>?_⟩
      . refine AB λW=>?_;obtain⟨S,O,rfl⟩:=BO.mp hk;obtain⟨kp,rfl⟩:=f S O;refine W ?_;try clear W
        rfl
      . refine AB λW=>?_;obtain⟨a,S,rfl,er,ea⟩:=R.at hy;rw[Bx,er]at hk;have hk:=CM hk;obtain⟨kp,rfl⟩:=f S (DW er);refine W ?_;try clear W
        subst hk;exact⟨a,m,kp.1,kp.2,rfl,s4 _ _ ea,λr O=>⟨Be O,r,rfl,As Ab⟩⟩
      . refine AB λW=>?_;obtain⟨R',p1,w1,e1⟩:=cG R pq;refine W ?_;try clear W
        have hr0:H3 r=AF:=s4.bh O;have nrd:r≠d:=λq=>by rw[q,G.ba.ao]at hr0;cases hr0
        have hrH:H r=AF:=by cases q:H r with|none=>rfl|some o=>rw[t r o nrd q]at hr0;cases hr0
        have u:=Be (o:=.lst (qs.map (·.1))) O;exact k _ r _ R' J Y (λb o nb e=>u _ _ (s4 _ _ (t b o nb e))) (((G.vi.bc s4).mh O).bc u) hrH Ab ((w1.ab s4.tp).ab u.tp) p1 (by rw[e1];exact sq) kn km lk3 lke
unseal D6 in theorem cC{X:BY}{st:A3}:D6 X st (λ_ _ _=>False):=λ_ _ _ _ _ _ h=>h.elim
noncomputable def Jw(ss:List AV)(i:Nat):Bool:=match ss[i]? with|AA s=>s.bw|AF=>AQ
noncomputable def BH(ss:List AV):List Nat:=(Fp ss.length).filter (Jw ss)
noncomputable def eW:BF:=λW H Q _=>Gw (λ(U:AD)(F:List AE)(D:List AV)=>W=[.ref U]) (λU F _=>H U=AA (.lst F)) (λ_ F D=>EL H F D) (λ_ _ D=>D.length<=100) (λ_ _ D=>∀J r,Ap H J->H r=AF->J r=AA (.lst ((BH D).map λi:Nat=>AE.int (i:Int)))->Q (.ref r) J)
theorem bW{K:Ar}{C:CW}(T:Ba K g C):A8 P w K g base BM 2 C.vv C.wg ["plan"] eW:=by
  have F:=fU.mk (UD (P:=P) (w:=w) (base:=base) T) T.xg T.nq.kp T.wy;refine T.aac.ok VM (λj H Q E h=>?_) (λS A z s H j Q E f h=>?_)
  . refine AB λJ=>?_;obtain⟨N,B,W,rfl,_⟩:=h;refine J ?_;try clear J
    rfl
  . refine AB λJ=>?_;obtain⟨N,B,W,rfl,G,L,l,k⟩:=h;refine J ?_;try clear J
    have m:=VM.nd;refine⟨_,(Ak (BE (kB (osc:=A2 NW) [] rfl (ML (K:=K) (by rfl) T.gh (AO 0)) rfl rfl (by decide+kernel) (by decide+kernel) (by decide+kernel) trivial rfl rfl (by decide+kernel) (λ_ _ _ _=>KI (KH (Ck F f (AJ (AO 1) AW)))) (λ_ _ _ _=>(AO 0))))),?_⟩;have t:Aw=16777216:=DN;have Z:=L.dh;refine⟨N,rfl,⟨_,Ai G⟩,gU (K:=K) (xs:=B) (λi _=>Jw W i) (λi _=>.int (i:Int)) (by(first|lia|omega)) (λU s1=>Ai (s1 _ _ G)) (λi x p o r U R _ _ e q=>⟨p,_,rfl,As e,rfl,_,_,rfl,_,_,rfl,rfl,q⟩) (λi x U R M s1 q=>?_) (λi x U R M _ s1 q=>q _ (Cu _)) λU s1 D I=>?_⟩
    . refine AB λJ=>?_;obtain⟨a,O,rfl,c,X⟩:=L.at M;refine J ?_;try clear J
      have b:Jw W i=O.bw:=by unfold Jw;rw[c]
      rw[b]at q;exact⟨a,O,rfl,s1 _ _ X,_,rfl,q U (Cu _)⟩
    . refine k _ D (s1.gf I) (s1.bh I) ?_;rw[Ab];congr 2;unfold BH;rw[<-Z];have:∀(n:Nat)(Y:List AE),Y.length=n->((LC (Fp n) Y).filter λq=>Jw W q.1).map (λq:Nat×AE=>AE.int (q.1:Int))=((Fp n).filter (Jw W)).map λi:Nat=>AE.int (i:Int):=λn Y e=>by
        have d:(Fp n)=(LC (Fp n) Y).map Prod.fst:=(List.map_fst_zip (by rw[Rw];(first|lia|omega))).symm;conv=>rhs;rw[d]
        rw[nY,EO];rfl
      exact this _ B rfl
noncomputable def fA:BF:=λD H Q _=>∃i:Int,D=[.int i]/\Q (.bl AH) H
theorem aT{K:Ar}{J:CW}(T:Ba K V J):A8 P w K V base BM 1 J.ti J.uj ["thing"] fA:=by
  refine T.xy.ok Uz (λW H Q E h=>?_) (λU A F s H W Q E Y h=>?_)
  . refine AB λD=>?_;obtain⟨i,rfl,_⟩:=h;refine D ?_;try clear D
    rfl
  . refine AB λD=>?_;obtain⟨i,rfl,k⟩:=h;refine D ?_;try clear D
    have Z:=Uz.nd;refine⟨_,(Ak (BE (Ra (DQ (Vy (K:=K)) (by rfl) T.vj tP (AJ (AO 0) (AJ (Wy (v:=.ty "int") (by rfl) T.ahq oO rfl) AW))) (Rc (kH (DQ (Vy (K:=K)) (by rfl) T.vj tP (AJ (AO 0) (AJ (Wy (v:=.ty "bool") (by rfl) T.ajq wY rfl) AW)))))))),?_⟩;exact⟨_,"int",_,_,rfl,.int i,rfl,_,rfl,KA ⟨_,"bool",_,_,rfl,.int i,rfl,_,rfl,k⟩⟩
noncomputable def cX:BF:=λD H Q _=>∃i a b:Int,D=[.int i,.int a,.int b]/\a<=i/\i<=b/\Q (.bl AH) H
theorem aS{K:Ar}{U:CW}(T:Ba K q U):A8 P w K q base BM 2 U.su U.ui ["thing","least","most"] cX:=by
  have D:=fU.mk (aT (P:=P) (w:=w) (base:=base) T) T.aeh T.xy.kp T.ady;refine T.xx.ok Ux (λz H Q E h=>?_) (λV A J s H z Q E Z h=>?_)
  . refine AB λF=>?_;obtain⟨i,a,b,rfl,_⟩:=h;refine F ?_;try clear F
    rfl
  . refine AB λF=>?_;obtain⟨i,a,b,rfl,W,Y,k⟩:=h;refine F ?_;try clear F
    have B:=Ux.nd;refine⟨_,(Ak (BE (Ra (Ck D Z (AJ (AO 0) AW)) (Rc (j9 MF MF (AO 1) (AO 0) (AO 2)))))),?_⟩;refine⟨i,rfl,_,rfl,KA ?_⟩;refine⟨_,rfl,G6 (λe=>?_) λe=>absurd W e⟩;show Q (.bl (Ae (i<=b))) H;rw[y3 Y];exact k
noncomputable abbrev E6(s n k:Int):List (AG×AE):=[("slack",.int s),("now",.int n),("count",.int k)]
noncomputable def c6(F:CW):BF:=λJ H Q _=>Gw (λ(x D:AD)(s:Int)=>J=[.ref x,.int s]) (λx D _=>H x=AA (.ins F.av D [])) (λ_ _ s=>0<=s) (λ_ _ s=>s<=1000000000) (λx D s=>Q .non (AN H x (.ins F.av D (E6 s 0 0))))
theorem aC{K:Ar}{W:CW}(T:Ba K B W):A8 P w K B base BM 3 W.cu W.fh ["self","slack"] (c6 W):=by
  have J:=fU.mk (aS (P:=P) (w:=w) (base:=base) T) T.aeg T.xx.kp T.adx;refine T.vm.ok UX (λC H Q E h=>?_) (λZ A Y s H C Q E q h=>?_)
  . refine AB λU=>?_;obtain⟨x,V,s,rfl,_⟩:=h;refine U ?_;try clear U
    rfl
  . refine AB λU=>?_;obtain⟨x,V,z,rfl,e,G,I,k⟩:=h;obtain⟨F,D⟩:=T.vc;obtain⟨F,D⟩:=T.vc;refine U ?_;try clear U
    have L:=UX.nd;refine⟨_,(Af (CT (OE (KH (Ck J q (AJ (AO 1) (AJ AR (AJ (OB (v:=.int 1000000000) (by rfl) D ⟨F,rfl⟩) AW)))))) (Ak cC) C1) (Af (FW (AO 0) (AO 1) rfl) (Af (FW (AO 0) AR rfl) (Ak (FW (AO 0) AR rfl))))),?_⟩;refine⟨z,0,1000000000,rfl,G,I,_,rfl,Hj ?_⟩;refine⟨x,_,V,_,rfl,e,T.cj,T.rj,by decide,?_⟩;refine⟨x,_,V,_,rfl,Ab,T.cj,T.di,by show 1<1000;decide,?_⟩;refine⟨x,_,V,_,rfl,Ab,T.cj,T.ma,by show 2<1000;decide,?_⟩;rw[OL,OL];exact k
noncomputable def GR(n s t:Int):Int:=if t<n then n else GQ n (t-s)
noncomputable def cV(F:CW):BF:=λJ H Q _=>S4 (λ(x D:AD)(t s n k:Int)=>J=[.ref x,.int t]) (λx D _ s n k=>H x=AA (.ins F.av D (E6 s n k))) (λx D t s n k=>Q (.bl (Ae (n<=t))) (AN H x (.ins F.av D (E6 s (GR n s t) (k+1)))))
theorem aA{K:Ar}{J:CW}(T:Ba K W J):A8 P w K W base BM 1 J.jl J.jy ["self","time"] (cV J):=by
  refine T.zf.ok UY (λY H Q E h=>?_) (λV A U s H Y Q E Z h=>?_)
  . refine AB λF=>?_;obtain⟨x,D,t,z,n,k,rfl,_⟩:=h;refine F ?_;try clear F
    rfl
  . refine AB λF=>?_;obtain⟨x,D,t,z,n,c,rfl,e,k⟩:=h;refine F ?_;try clear F
    have B:=UY.nd;refine⟨_,(Af (FW (AO 0) (AX FT (Cq (AO 0) rfl) AR) rfl) (Af (CT (Bt RW (AO 1) (Cq (AO 0) rfl) (Br _)) (Ak (BE KG)) C1) (Af (FW (AO 0) (DQ (V0 rfl) (by rfl) T.afc YE (AJ (Cq (AO 0) rfl) (AJ (AX KC (AO 1) (Cq (AO 0) rfl)) AW))) rfl) (Ak (BE KG))))),?_⟩;refine⟨x,_,D,_,_,rfl,e,T.cj,T.ma,rfl,x,_,D,_,rfl,e,T.cj,T.ma,by show 3<1000;decide,?_⟩;refine⟨x,_,D,E6 z n (c+1),_,rfl,Ab,T.cj,T.di,rfl,_,rfl,IV (λq=>?_) λq=>?_⟩;. have q:t<n:=y6 q;unfold GR at k;rw[yY q,y4 (by(first|lia|omega))]at k;exact k
    . have q:¬t<n:=zA q;unfold GR at k;rw[yX q,y3 (by(first|lia|omega))]at k;refine⟨x,_,D,E6 z n (c+1),_,rfl,Ab,T.cj,T.di,rfl,x,_,D,E6 z n (c+1),_,rfl,Ab,T.cj,T.rj,rfl,?_⟩;refine⟨x,_,D,E6 z n (c+1),rfl,Ab,T.cj,T.di,by show 3<1000;decide,?_⟩;rw[OL];exact k
theorem IM{l:List F}(h:(l.take n)[i]?=AA x):i<n/\l[i]?=AA x:=by
 have J:=(BN.mp h).1;rw[EA]at J;have D:i<n:=by(first|lia|omega)
 rw[Xy D]at h;exact⟨D,h⟩
theorem Nb{l:List D}(F:i<n)(h:l[i]?=AA x):(l.take n)[i]?=AA x:=by rw[Xy F];exact h
theorem Jn{ss:List AV}(h:EH (ss.take n) i):i<n/\EH ss i:=by
 refine AB λD=>?_;obtain⟨m,a,b,F,e⟩:=h;obtain⟨l,e⟩:=IM e;refine D ?_;try clear D
 exact⟨l,m,a,b,F,e⟩
theorem Tv{ss:List AV}(F:i<n)(h:EH ss i):EH (ss.take n) i:=by
 refine AB λD=>?_;obtain⟨m,a,b,J,e⟩:=h;refine D ?_;try clear D
 exact⟨m,a,b,J,Nb F e⟩
theorem Co.ado(h:Co B ex H ss Y D J sd)(F:De ss J b):∃kvs,H b=AA (.dK kvs):=by
 refine AB λU=>?_;obtain⟨i,⟨n,a,W,A,z⟩,F⟩:=F;obtain⟨⟨C,Z⟩,E,q⟩:=(h.gv i n a W A z).2.ado;refine U ?_;try clear U
 rcases F with rfl|rfl;.exact⟨_,Z⟩
 .exact⟨_,q⟩
theorem Co.ajb{ss:List AV}(h:Co T ex H (ss.take n) U D E λ_=>([],[]))(P:H U=AA (.dK D))(es:ss[n]?=AA (.join m a b wi))(s:Ap H Y)(N:H A=AF)(O:H B=AF)(jr:C0 T ex Y j u x y A B wi [] []):Co T ex (AN Y U (.dK (Bb D (.inl (n:Int)) (.ref j)))) (ss.take (n+1)) U (Bb D (.inl (n:Int)) (.ref j)) (λi=>if i=n then⟨j,u,x,y,A,B⟩else E i) λ_=>([],[]):=by
  have w:Dg (.=U) Y (AN Y U (.dK (Bb D (.inl (n:Int)) (.ref j)))):=λb o nb e=>by rw[Ac nb];exact e
  have k:∀b,b=U->(b∈ex/\∃xs,Y b=AA (.lst xs))\/∃R,Y b=AA (.dK R):=λb hb=>.inr ⟨D,by rw[hb];exact s _ _ P⟩;have p:A≠U:=(BS P N).symm;have r:B≠U:=(BS P O).symm;have F:∀{i:Nat},EH (ss.take (n+1)) i->i≠n->EH (ss.take n) i:=λ{i}J hn=>Tv (by have:=(Jn J).1;(first|lia|omega)) (Jn J).2;have g:∀{i:Nat},EH (ss.take n) i->(A≠(E i).d0/\A≠(E i).d1)/\B≠(E i).d0/\B≠(E i).d1:=λ{i}J=>by obtain⟨k0,c⟩:=h.ado ⟨i,J,.inl rfl⟩;obtain⟨k1,d⟩:=h.ado ⟨i,J,.inr rfl⟩;exact⟨⟨(BS c N).symm,(BS d N).symm⟩,(BS c O).symm,(BS d O).symm⟩
  refine⟨.inl Ab,λi l S X L M=>?_,λi Q J I K=>?_,λi J=>?_⟩
  . by_cases Z:i=n
    . subst Z;have e:=(IM M).2;rw[es]at e;cases e;rw[yY rfl];exact⟨by rw[Ie,yY rfl],jr.gc w k p r⟩
    . rw[yX Z];have G:(ss.take n)[i]?=AA (.join l S X L):=Nb (by have:=(IM M).1;(first|lia|omega)) (IM M).2;obtain⟨v,q⟩:=h.gv i l S X L G;have t:=h.abj i ⟨_,_,_,_,G⟩;exact⟨by rw[Ie,yX (λz=>Z (by have:=FI z;(first|lia|omega)))];exact v,(q.bc s).gc w k t.1.symm t.2.symm⟩
  . by_cases W:i=n
    . subst W;have C:Q≠i:=Hv K;rw[yY rfl,yX C];have f:=g (F I C);exact⟨⟨f.1.1.symm,f.2.1.symm⟩,f.1.2.symm,f.2.2.symm⟩
    . by_cases C:Q=n
      . subst C;rw[yX W,yY rfl];exact g (F J W)
      . rw[yX W,yX C];exact h.cc i Q (F J W) (F I C) K
  . by_cases W:i=n;. subst W;rw[yY rfl];exact⟨p.symm,r.symm⟩
    . rw[yX W];exact h.abj i (F J W)
theorem Co.ajk{ss:List AV}{s:AV}(h:Co E ex H (ss.take n) Y F A sd)(I:ss[n]?=AA s)(K:s.no≠4):Co E ex H (ss.take (n+1)) Y F A sd:=by
 have D:∀{i:Nat},EH (ss.take (n+1)) i->EH (ss.take n) i:=λ{i}J=>by
  obtain⟨m,a,b,U,e⟩:=J;obtain⟨l,G⟩:=IM e;clear e;have e:=G;refine⟨m,a,b,U,Nb ?_ e⟩;by_cases q:i=n
  . subst q;rw[I]at e;cases e;exact absurd rfl K
  . (first|lia|omega)
 refine⟨h.ao,λi B a b U z=>?_,λi L J W=>h.cc i L (D J) (D W),λi J=>h.abj i (D J)⟩;refine AB λC=>?_;obtain⟨P,N,O,M,Z⟩:=D ⟨B,a,b,U,z⟩;have q:=(IM z).2;rw[(IM Z).2]at q;cases q;refine C ?_;try clear C
 exact h.gv i B a b U Z
structure Iq(ss:List AV)(n:Nat)(jd:Nat->D4)(jkvs:List (AL×AE)):Prop where ajd:∀p∈jkvs,∃i:Nat,i<n/\EH ss i/\p=(.inl (i:Int),.ref (jd i).j)nd:(jkvs.map (·.1)).Nodup
theorem Iq.ajk(h:Iq ss n F D):Iq ss (n+1) F D:=⟨λp U=>by
 refine AB λJ=>?_;obtain⟨i,l,q,e⟩:=h.ajd p U;refine J ?_;try clear J
 exact⟨i,by(first|lia|omega),q,e⟩,h.nd⟩
theorem Iq.ajb(h:Iq ss n F D)(W:EH ss n)(J:D4):Iq ss (n+1) (λi=>if i=n then J else F i) (Bb D (.inl (n:Int)) (.ref J.j)):=by
  refine⟨λp Z=>?_,ME h.nd⟩;rcases MD Z with rfl|⟨Y,_⟩;.exact⟨n,by(first|lia|omega),W,by rw[yY rfl]⟩
  . refine AB λU=>?_;obtain⟨i,l,q,e⟩:=h.ajd p Y;refine U ?_;try clear U
    exact⟨i,by(first|lia|omega),q,by rw[yX (by(first|lia|omega))];exact e⟩
noncomputable def dS(q:CW):BF:=λz H Q _=>Gw (λ(Z:AD)(W:List AE)(F:List AV)=>z=[.ref Z]) (λZ W _=>H Z=AA (.lst W)) (λ_ W F=>EL H W F) (λ_ _ F=>F.length<=20) (λ_ _ F=>∀J U D Y,Ap H J->H U=AF->J U=AA (.dK D)->Iq F F.length Y D->Co q [] J F U D Y (λ_=>([],[]))->(∀b,De F Y b->H b=AF)->Q (.ref U) J)
theorem aX{K:Ar}{v:CW}(T:Ba K mg v):A8 P w K mg base BM 5 v.tj v.uk ["plan"] (dS v):=by
  have F:=aV (P:=P) (w:=w) (base:=base) T;refine T.ya.ok U1 (λvs H Q E h=>?_) (λcdv A outer s H vs Q E hr h=>?_)
  . refine AB λJ=>?_;obtain⟨lp,ps,t,rfl,_⟩:=h;refine J ?_;try clear J
    rfl
  . refine AB λJ=>?_;obtain⟨lp,ps,t,rfl,S,pr,lss,k⟩:=h;refine J ?_;try clear J
    have nd:=U1.nd;refine⟨_,(Af (Cr 1 nd MJ) (Af (Eh E4 rfl (ML (K:=K) (by rfl) T.gh (AO 0)) (JQ rfl (FU (Fm 2 nd) (FU (Fm 3 nd) JR))) (Ak (CT (Bt C7 (Bi K (AO 3) AR) DB (Br _)) (Ak (JS hr.u1 (AO 1) (AO 2) (OD T.aii F (hr.bb (by decide)) (by rfl) T.aie T.xq .nil Bk (AJ (Bi K (AO 3) AR) AW)) rfl)) C1))) (Ak (BE (AO 1))))),?_⟩;have sz:Aw=16777216:=DN;have lps:=pr.dh;intro O M;refine B0 (o:=.dK []) M λH0 g0 R=>?_;refine⟨lp,rfl,⟨_,Ai (g0 _ _ S)⟩,RA (K:=K) (xs:=ps) (λn σ u=>O7 (λ(o3 o4:Option AE)(D:List (AL×AE))(z:Nat->D4)=>σ=[AA (.ref lp),AA (.ref O),o3,o4]) (λ_ _ _ _=>Ap H u) (λ_ _ D _=>u O=AA (.dK D)) (λ_ _ D _=>D.length<=n) (λ_ _ D z=>Iq t n z D) (λ_ _ D z=>Co v [] u (t.take n) O D z (λ_=>([],[]))) (λ_ _ _ z=>∀b,De (t.take n) z b->H b=AF)) ⟨AF,AF,[],λ_=>⟨0,0,0,0,0,0⟩,rfl,g0,R,Al _,⟨λp hp=>(by cases hp),.nil⟩,⟨.inl R,λi n a b N e=>(by cases(IM e).1),λi i' G=>(by cases(Jn G).1),λi G=>(by cases(Jn G).1)⟩,λb⟨i,G,_⟩=>(by cases(Jn G).1)⟩ (λn σ u _ hh=>by obtain⟨_,_,_,_,_,s',_⟩:=hh;exact Ai (s' _ _ S)) ?_ ?_⟩
    . intro n x σ H1 p hx hI hp;refine AB λJ=>?_;obtain⟨o3,o4,D,z,rfl,s1,I,lk1,W,Y,U⟩:=hI;obtain⟨b,st,rfl,X,eb⟩:=pr.at hx;refine J ?_;try clear J
      refine B0 (o:=.tup [.int (n:Int),.ref b]) hp λH2 g2 ep=>?_;refine⟨p,_,rfl,As ep,rfl,_,_,rfl,_,_,rfl,rfl,?_⟩;have s2:=s1.aa g2;have eb2:Cp H2 b st:=s2 _ _ eb;have r:=Y.bc g2;have L:=g2 _ _ I;refine AB λJ=>?_;obtain⟨e0,e1,_⟩:=eb2.gx (K:=K);refine J ?_;try clear J
      have hn:n<t.length:=(BN.mp X).1;refine⟨_,_,e0,e1,rfl,_,rfl,HP (i:=4) rfl (λy=>?_) λy=>⟨_,_,D,z,rfl,s2,L,by(first|lia|omega),W.ajk,r.ajk X y,λb' Z=>?_⟩⟩
      . refine AB λJ=>?_;obtain⟨m,f,g,N,rfl⟩:∃m f g N,st=.join m f g N:=by cases st<;>first|exact⟨_,_,_,_,rfl⟩|cases y
        refine J ?_;try clear J
        refine⟨_,_,e0,Aq (j:=4) rfl,λj dxj hj d hnj=>⟨[],j,dxj,N,rfl,Ab,(λc hc=>by cases hc),λHs sl x0 x1 d0 d1 sx B C jr=>⟨rfl,?_⟩⟩⟩;have s3:Ap H2 Hs:=λb o e=>sx _ _ (BS e hj) (by rw[Ac (BS e hj),Ac (BS e d)];exact e);have B:=HU (HU B);have C:=HU (HU C);refine⟨O,_,rfl,J3 (k:=.inl (n:Int)) (s3 _ _ L) (by(first|lia|omega)),?_⟩;have lk:=Pq D (.inl (n:Int)) (.ref j);refine⟨_,_,Bb D (.inl (n:Int)) (.ref j),_,rfl,(s2.aa s3).agb M,Ab,by(first|lia|omega),W.ajb ⟨_,_,_,_,X⟩ ⟨j,sl,x0,x1,d0,d1⟩,r.ajb L X s3 B C jr,λb'⟨i,G,Z⟩=>?_⟩;by_cases q:i=n
        . subst q;dsimp only at Z;rw[yY rfl]at Z;rcases Z with rfl|rfl;.exact s2.bh B
          .exact s2.bh C
        . dsimp only at Z;rw[yX q]at Z;exact U b' ⟨i,Tv (by have:=(Jn G).1;(first|lia|omega)) (Jn G).2,Z⟩
      . refine AB λJ=>?_;obtain⟨i,⟨m,a,c,N,e⟩,Z⟩:=Z;obtain⟨l,e2⟩:=IM e;refine J ?_;try clear J
        refine U b' ⟨i,⟨m,a,c,N,Nb ?_ e2⟩,Z⟩;by_cases q:i=n
        . subst q;rw[X]at e2;cases e2;exact absurd rfl y
        . (first|lia|omega)
    . intro σ H1 hI;refine AB λJ=>?_;obtain⟨o3,o4,D,z,rfl,s1,I,lk1,W,Y,U⟩:=hI;refine J ?_;try clear J
      rw[lps]at W Y U;rw[sX]at Y U;exact k H1 O D z s1 M I W Y U
structure GL where
 x:AD
 p:AD
 d:AD
section
variable{ad:CW}{s:AV}
structure DS(ad:CW)(ex:List AD)(H:AI)(ss:List AV)(ts:List Nat)(dg:AD)(gkvs:List (AL×AE))(gd:Nat->GL)(gg:Nat->AG->List Aa)(gk:Nat->List (AL×AE)):Prop where
 ao:FC H dg (.dK gkvs)xf:∀i∈ts,∃s,ss[i]?=AA s/\Bm gkvs (.inl (i:Int))=AA (.ref (gd i).x)/\Dt ad ex H (gd i).x (gd i).p (gd i).d s (gg i) (gk i)cc:∀i∈ts,∀i'∈ts,i≠i'->(gd i).d≠(gd i').d
 xu:∀i∈ts,dg≠(gd i).d
end
theorem Dt.gc{st:AV}(h:Dt U ex H x p d st g kvs)(s:Dg q H H')(D:∀b,q b->(b∈ex/\∃xs,H b=AA (.lst xs))\/∃kvs,H b=AA (.dK kvs))(Z:¬q d):Dt U ex H' x p d st g kvs:=by
 have J:Bp H H':=λb xs e=>s _ _ (λz=>by rcases D b z with⟨_,xs,y⟩|⟨kvs,y⟩<;>(rw[e]at y;cases y)) e;refine AB λF=>?_;obtain⟨⟨W,e⟩,Y,r⟩:=h;refine F ?_;try clear F
 exact⟨⟨W,s _ _ (λz=>by rcases D x z with⟨_,xs,y⟩|⟨kvs,y⟩<;>(rw[e]at y;cases y)) e⟩,Y.tp J,r.ab (s _ _ Z r.ao) (λb xs n e=>s _ _ (λz=>by
  rcases D b z with⟨y,_⟩|⟨kvs,y⟩;.exact n y
  .rw[e]at y;cases y) e) J⟩
theorem DS.bc(h:DS J ex H ss z U D V W Y)(s:Ap H H'):DS J ex H' ss z U D V W Y:=⟨Iz h.ao (s _),λi Z=>by
 refine AB λF=>?_;obtain⟨q,e,v,g⟩:=h.xf i Z;refine F ?_;try clear F
 exact⟨q,e,v,g.bc s⟩,h.cc,h.xu⟩
theorem DS.mh(h:DS J ex H ss A U D V W Y)(q:H l=AF):DS J (l::ex) H ss A U D V W Y:=⟨h.ao,λi Z=>by
 refine AB λF=>?_;obtain⟨z,e,v,g⟩:=h.xf i Z;refine F ?_;try clear F
 exact⟨z,e,v,g.mh q⟩,h.cc,h.xu⟩
theorem DS.vi(h:DS J (l::ex) H ss z U D V W Y):DS J ex H ss z U D V W Y:=⟨h.ao,λi Z=>by
 refine AB λF=>?_;obtain⟨q,e,v,g⟩:=h.xf i Z;refine F ?_;try clear F
 exact⟨q,e,v,g.vi⟩,h.cc,h.xu⟩
theorem DS.gc(h:DS Y ex H ss W F D J Z z)(s:Dg q H H')(C:∀b,q b->(b∈ex/\∃xs,H b=AA (.lst xs))\/∃kvs,H b=AA (.dK kvs))(A:∀i∈W,¬q (J i).d)(B:¬q F):DS Y ex H' ss W F D J Z z:=⟨Iz h.ao λo=>s _ o B,λi U=>by
 refine AB λV=>?_;obtain⟨E,e,v,g⟩:=h.xf i U;refine V ?_;try clear V
 exact⟨E,e,v,g.gc s C (A i U)⟩,h.cc,h.xu⟩
theorem DS.vh{st:AV}(h:DS Y ex H ss A B F D E G)(hi:i∈A)(Z:ss[i]?=AA st)(s:Bs (D i).d H H')(r:Dt Y ex H' (D i).x (D i).p (D i).d st g' z):DS Y ex H' ss A B F D (λk=>if k=i then g' else E k) (λk=>if k=i then z else G k):=by
  have K:∃L,H (D i).d=AA (.dK L):=by obtain⟨_,_,_,g⟩:=h.xf i hi;exact⟨_,g.ba.ao⟩
  refine⟨Iz h.ao λo=>s _ o (h.xu i hi),λk W=>?_,h.cc,h.xu⟩;by_cases q:k=i
  . subst q;refine AB λJ=>?_;obtain⟨U,e,v,_⟩:=h.xf k W;rw[Z]at e;cases e;refine J ?_;try clear J
    exact⟨st,Z,v,by rw[yY rfl,yY rfl];exact r⟩
  . refine AB λJ=>?_;obtain⟨U,e,v,g⟩:=h.xf k W;refine J ?_;try clear J
    exact⟨U,e,v,by rw[yX q,yX q];exact g.gc (q:=(.=(D i).d)) (λb o M C=>s b o M C) (λb I=>.inr (by rw[I];exact K)) (h.cc k W i hi q)⟩
theorem DS.acy{K:Nat->AG->List Aa}(h:DS B ex H ss P U D I K L)(e:FC H' U (.dK D))(q:∀b,b≠U->H' b=H b):DS B ex H' ss P U D I K L:=by
 have V:∀{b:AD}{J:Bh},H b=AA J->(∀o u,J≠.frz o u)->(∀u,J≠.dK u)->H' b=AA J:=λ{b J}F N M=>by
  rw[q b λz=>by
   rw[z]at F;rcases h.ao with W|⟨R,W⟩<;>rw[W]at F;.exact M _ (CM F).symm
   .exact N _ _ (CM F).symm];exact F
 have A:Bp H H':=λb Q F=>V F (by intro o u z;cases z) (by intro u z;cases z);refine⟨e,λi Y=>?_,h.cc,h.xu⟩;refine AB λZ=>?_;obtain⟨O,e,v,⟨C,E⟩,G,r⟩:=h.xf i Y;refine Z ?_;try clear Z
 exact⟨O,e,v,⟨C,V E (by intro o u z;cases z) (by intro u z;cases z)⟩,G.tp A,r.ab (by rw[q _ (h.xu i Y).symm];exact r.ao) (λb Q _ e=>V e (by intro o u z;cases z) (by intro u z;cases z)) A⟩
structure Kd(ts:List Nat)(gd:Nat->GL)(gkvs:List (AL×AE)):Prop where ajd:∀p∈gkvs,∃i∈ts,p=(.inl (i:Int),.ref (gd i).x)nd:(gkvs.map (·.1)).Nodup
theorem FP:i∈BH ss↔∃s,ss[i]?=AA s/\s.bw=AH:=by
  unfold BH Jw;rw[Dy,oE];constructor;. rintro⟨h,q⟩;rw[Cm h]at q;exact⟨_,Cm h,q⟩
  . intro F;refine AB λD=>?_;obtain⟨s,e,q⟩:=F;refine D ?_;try clear D
    exact⟨(BN.mp e).1,by rw[e];exact q⟩
theorem fE(ss:List AV):(BH ss).Nodup:=sU.sublist MU
theorem Z1(J:H x=AF)(F:H D=AF)(s:Bs x (AN (AN H D (.own x)) x (.ins C D [])) H'):Ap H H':=λb o e=>s b o (BS e J) (by rw[Ac (BS e J),Ac (BS e F)];exact e)
theorem T6(J:D≠x)(h:AN (AN H D (.own x)) x (.ins C D []) b=AF):H b=AF/\b≠x:=by
 have F:b≠x:=λz=>by rw[z,Ab]at h;cases h
 have U:b≠D:=λz=>by rw[z,Ac J,Ab]at h;cases h
 rw[Ac F,Ac U]at h;exact⟨h,F⟩
theorem DS.ajb{J:GL}{st:AV}(h:DS L [] H ss q Y D E (λ_ _=>[]) (λ_=>[]))(O:H Y=AA (.dK D))(X:ss[i]?=AA st)(I:i∉q)(s:Ap H Z)(M:H J.d=AF)(a:Dt L [] Z J.x J.p J.d st (λ_=>[]) []):DS L [] (AN Z Y (.dK (Bb D (.inl (i:Int)) (.ref J.x)))) ss (q++[i]) Y (Bb D (.inl (i:Int)) (.ref J.x)) (λk=>if k=i then J else E k) (λ_ _=>[]) (λ_=>[]):=by
  have T:Dg (.=Y) Z (AN Z Y (.dK (Bb D (.inl (i:Int)) (.ref J.x)))):=λb o j e=>by rw[Ac j];exact e
  have P:∀b,b=Y->(b∈([]:List AD)/\∃l,Z b=AA (.lst l))\/∃G,Z b=AA (.dK G):=λb c=>.inr ⟨D,by rw[c];exact s _ _ O⟩;have Q:J.d≠Y:=(BS O M).symm;have U:∀{k:Nat},k∈q->k≠i:=λF z=>I (by rw[<-z];exact F);have N:∀{k:Nat},k∈q->J.d≠(E k).d:=λ{k}F=>by obtain⟨_,_,_,g⟩:=h.xf k F;exact(BS g.ba.ao M).symm
  have W:∀{k:Nat},k∈q++[i]->k∈q\/k=i:=λF=>(DA.mp F).imp id By.mp;refine⟨.inl Ab,λk F=>?_,λk F f B S=>?_,λk F=>?_⟩
  . rcases W F with F|rfl
    . refine AB λR=>?_;obtain⟨K,e,v,g⟩:=h.xf k F;refine R ?_;try clear R
      rw[yX (U F)];exact⟨K,e,by rw[Ie,yX (λz=>U F (by have:=FI z;(first|lia|omega)))];exact v,(g.bc s).gc T P (h.xu k F).symm⟩
    . rw[yY rfl];exact⟨st,X,by rw[Ie,yY rfl],a.gc T P Q⟩
  . rcases W F with C|rfl
    . rcases W B with A|rfl
      . rw[yX (U C),yX (U A)];exact h.cc k C f A S
      . rw[yX (U C),yY rfl];exact(N C).symm
    . rcases W B with A|rfl
      . rw[yY rfl,yX (U A)];exact N A
      .exact absurd rfl S
  . rcases W F with F|rfl
    . rw[yX (U F)];exact h.xu k F
    . rw[yY rfl];exact Q.symm
theorem Kd.ajb(h:Kd U W D)(F:i∉U)(J:GL):Kd (U++[i]) (λk=>if k=i then J else W k) (Bb D (.inl (i:Int)) (.ref J.x)):=by
  refine⟨λp A=>?_,ME h.nd⟩;rcases MD A with rfl|⟨q,_⟩;.exact⟨i,Ej _ (.head _),by rw[yY rfl]⟩
  . refine AB λZ=>?_;obtain⟨k,Y,e⟩:=h.ajd p q;refine Z ?_;try clear Z
    exact⟨k,Gr _ Y,by rw[yX (λz=>F (by rw[<-z];exact Y))];exact e⟩
noncomputable def dO(q:CW):BF:=λz H Q _=>Gw (λ(Z:AD)(W:List AE)(F:List AV)=>z=[.ref Z]) (λZ W _=>H Z=AA (.lst W)) (λ_ W F=>EL H W F) (λ_ _ F=>F.length<=20) (λ_ _ F=>∀J U D Y,Ap H J->H U=AF->J U=AA (.dK D)->D.length<=F.length->Kd (BH F) Y D->DS q [] J F (BH F) U D Y (λ_ _=>[]) (λ_=>[])->(∀i∈BH F,H (Y i).d=AF)->Q (.ref U) J)
theorem aR{K:Ar}{W:CW}(T:Ba K mg W):A8 P w K mg base BM 3 W.oh W.qc ["plan"] (dO W):=by
  have Y:=fU.mk (bW (P:=P) (w:=w) (base:=base) T) T.afv T.aac.kp T.afi;have F:=aP (P:=P) (w:=w) (base:=base) T;refine T.wk.ok Uw (λvs H Q E h=>?_) (λcdv A outer s H vs Q E hr h=>?_)
  . refine AB λN=>?_;obtain⟨lp,ps,Z,rfl,_⟩:=h;refine N ?_;try clear N
    rfl
  . refine AB λN=>?_;obtain⟨lp,ps,Z,rfl,m,pr,lss,k⟩:=h;refine N ?_;try clear N
    have nd:=Uw.nd;refine⟨_,(Af (Cr 1 nd MJ) (Af (Eh E4 rfl (Dr (K:=K) (Ck Y hr (AJ (AO 0) AW))) (Fm 2 nd) (Ak (JS hr.u1 (AO 1) (AO 2) (OD T.ahj F (hr.bb (by decide)) (by rfl) T.ahh T.vx .nil Bk (AJ (JT K (AO 0) (AO 2)) AW)) rfl))) (Ak (BE (AO 1))))),?_⟩;have sz:Aw=16777216:=DN;have lps:=pr.dh;intro c X;refine B0 (o:=.dK []) X λH0 g0 l=>?_;refine⟨lp,ps,Z,rfl,g0 _ _ m,pr.ab g0.tp,by(first|lia|omega),λH1 lt s1 hlt r=>?_⟩;have lts:(BH Z).length<=Z.length:=CL (FY _ _) (by rw[Rw];exact Al _);refine⟨lt,rfl,⟨_,Ai r⟩,IT (K:=K) (xs:=(BH Z).map λi:Nat=>AE.int (i:Int)) (λn σ f=>Sq (λ(o2:Option AE)(D:List (AL×AE))(O:Nat->GL)=>σ=[AA (.ref lp),AA (.ref c),o2]) (λ_ _ _=>Ap H f) (λ_ _ _=>f lt=AA (.lst ((BH Z).map λi:Nat=>AE.int (i:Int)))) (λ_ D _=>f c=AA (.dK D)) (λ_ D _=>D.length<=n) (λ_ D O=>Kd ((BH Z).take n) O D) (λ_ D O=>DS W [] f Z ((BH Z).take n) c D O (λ_ _=>[]) (λ_=>[])) (λ_ _ O=>∀i∈(BH Z).take n,H (O i).d=AF)) ⟨AF,[],λ_=>⟨0,0,0⟩,rfl,g0.aa s1,r,s1 _ _ l,Al _,⟨λp hp=>(by cases hp),.nil⟩,⟨.inl (s1 _ _ l),λi C=>(by cases C),λi C=>(by cases C),λi C=>(by cases C)⟩,λi C=>(by cases C)⟩ (λn σ f _ hh=>by obtain⟨_,_,_,_,_,e,_⟩:=hh;exact Ai e) ?_ ?_⟩
    . intro n y σ R hy hI;refine AB λN=>?_;obtain⟨o2,D,O,rfl,s2,B,G,v,L,M,I⟩:=hI;rw[Bx]at hy;obtain⟨i,C,rfl⟩:=D2.mp hy;obtain⟨st,es,ht⟩:=FP.mp (DW C);obtain⟨a,ea,eq⟩:∃a,ps[i]?=AA (.ref a)/\Cp H a st:=by have ex:=Cm (show i<ps.length by rw[lps];exact(BN.mp es).1);obtain⟨a,s',e1,e2,e3⟩:=pr.at ex;rw[es]at e2;cases e2;rw[e1]at ex;exact⟨a,ex,e3⟩
      refine N ?_;try clear N
      have hnt:n<(BH Z).length:=(BN.mp C).1;have new:i∉(BH Z).take n:=λhm=>by obtain⟨j,hj,e⟩:=F7.mp hm;rw[EA]at hj;rw[MW]at e;obtain⟨h2,g2⟩:=BN.mp C;exact(E3.mp (fE Z)) j n (by(first|lia|omega)) h2 (by(first|lia|omega)) (e.trans g2.symm)
      refine⟨_,_,Ai (s2 _ _ m),Aq ea,λx U hx hdx hxn=>⟨x,U,a,rfl,Ab,λd hd=>⟨rfl,?_⟩⟩⟩;obtain⟨S,ndx⟩:=T6 hxn hd;have s3:Ap R (AN (AN (AN (AN (AN R U (.own x)) x (.ins W.ar U [])) x (.ins W.ar U [("step",.ref a)])) d (.dK [])) x (.ins W.ar U [("step",.ref a),("rows",.ref d)])):=λb o e=>by have n1:=BS e hx;rw[Ac n1,Ac (BS e S),Ac n1,Ac n1,Ac (BS e hdx)];exact e
      have t:(AN (AN (AN (AN (AN R U (.own x)) x (.ins W.ar U [])) x (.ins W.ar U [("step",.ref a)])) d (.dK [])) x (.ins W.ar U [("step",.ref a),("rows",.ref d)])) x=AA (.ins W.ar U [("step",.ref a),("rows",.ref d)]):=Ab;have g:(AN (AN (AN (AN (AN R U (.own x)) x (.ins W.ar U [])) x (.ins W.ar U [("step",.ref a)])) d (.dK [])) x (.ins W.ar U [("step",.ref a),("rows",.ref d)])) d=AA (.dK []):=by rw[Ac ndx];exact Ab
      generalize AN (AN (AN (AN (AN R U (.own x)) x (.ins W.ar U [])) x (.ins W.ar U [("step",.ref a)])) d (.dK [])) x (.ins W.ar U [("step",.ref a),("rows",.ref d)])=H3 at s3 t g⊢;refine⟨c,_,rfl,J3 (k:=.inl (i:Int)) (s3 _ _ G) (by(first|lia|omega)),?_⟩;have lk:=Pq D (.inl (i:Int)) (.ref x);have tk:(BH Z).take (n+1)=(BH Z).take n++[i]:=by rw[Ds,C];rfl
      have nlt:lt≠c:=λz=>by rw[z,G]at B;cases B
      refine⟨_,Bb D (.inl (i:Int)) (.ref x),λk=>if k=i then⟨x,a,d⟩else O k,rfl,(s2.aa s3).agb X,by rw[Ac nlt];exact s3 _ _ B,Ab,by(first|lia|omega),by rw[tk];exact L.ajb new ⟨x,a,d⟩,?_,λk' u=>?_⟩;. rw[tk];exact M.ajb (J:=⟨x,a,d⟩) G es new s3 S ⟨⟨U,t⟩,(s2.aa s3) _ _ eq,g,.nil,λq hq=>(by cases hq),λkey ne=>absurd rfl ne⟩
      . rw[tk]at u;dsimp only;by_cases q:k'=i
        . rw[yY q];exact s2.bh S
        . rw[yX q];exact I k' ((DA.mp u).elim id λh=>absurd (By.mp h) q)
    . intro σ R hI;refine AB λN=>?_;obtain⟨o2,D,O,rfl,s2,B,G,v,L,M,I⟩:=hI;refine N ?_;try clear N
      rw[A0]at v L M I;rw[Df (Al _)]at L M I;exact k R c D O s2 X G (by(first|lia|omega)) L M I
noncomputable def Dh(z:AG)(l:List AU):List GP:=(l.filter λi=>Ae (i.2.1=z)).map λi=>(i.1,i.2.2)
theorem Pn(z:AG)(l m:List AU):Dh z (l++m)=Dh z l++Dh z m:=by unfold Dh;rw[Hr,C9]
theorem Pp{l:List AU}(p:l.Perm m):(Dh z l).Perm (Dh z m):=(p.filter _).map _
theorem UK(z:AG)(l:List AU):(Dh z l).length<=l.length:=by unfold Dh;rw[A0];exact FY _ _
theorem Po{x:GP}(h:x∈Dh z l):∃i∈l,i.1=x.1:=by
 refine AB λD=>?_;obtain⟨i,F,rfl⟩:=BO.mp h;refine D ?_;try clear D
 exact⟨i,(Dy.mp F).1,rfl⟩
noncomputable def AV.fd:AV->AG|AV.gap _ a _ _|AV.each _ a _ _ _=>a|_=>""
noncomputable def Ff(s:AV)(now:Int)(l:List AU)(z:AG):List Aa:=FO now (EN s (Dh z l))
theorem cO{s:AV}{x:AU}(D:s.fw)(F:now<=x.1):Gi (Ff s now l) x.2.1 (s.uv x.1 x.2.2 (Ff s now l x.2.1))=Ff s now (l++[x]):=by
  funext z;by_cases q:z=x.2.1
  . have e:Dh z [x]=[(x.1,x.2.2)]:=by show(Ru _ [x]).map _=_;rw[nW (by exact y3 q.symm)];rfl
    unfold Ff;rw[Pn,e,TL,(AV.amj D (M9 D) F).1,q,Kh]
  . have e:Dh z [x]=[]:=by show(Ru _ [x]).map _=_;rw[nV (by rw[y7];exact Hv q)];rfl
    unfold Ff;rw[II q,Pn,e,FG]
theorem Ql{s:AV}(D:s.fw):s.gd (Ff s now l z):=ZS (M9 D) MU
theorem cN{s:AV}{l:List AU}(D:s.fw)(p:l.Perm m):Ff s now l=Ff s now m:=by funext z;unfold Ff;rw[PK D (Pp p)]
theorem Qm{s:AV}{l:List AU}(F:s.fw)(J:∀x∈l,0<=x.1/\x.1<=1000000000):(Ff s now l z).length<=5*l.length:=by
 have V:(Ff s now l z).length<=(EN s (Dh z l)).length:=FY _ _;have W:=TK (ps:=Dh z l) F λx U=>by obtain⟨i,D,e⟩:=Po U;rw[<-e];exact J i D
 have:=UK z l;(first|lia|omega)
noncomputable def Ju(ss:List AV)(now:Int)(F:Nat->List AU)(i:Nat):AG->List Aa:=match ss[i]? with|AA s=>Ff s now (F i)|AF=>λ_=>[]
theorem Jv(e:ss[i]?=AA s):Ju ss now F i=Ff s now (F i):=by unfold Ju;rw[e]
noncomputable def E8(ss:List AV)(i:Nat):AG:=match ss[i]? with|AA s=>s.fd|AF=>""
theorem Fd{s:AV}(e:ss[i]?=AA s):E8 ss i=s.fd:=by unfold E8;rw[e]
noncomputable abbrev IL(ss:List AV)(now:Int)(L:AG->List AU):Nat->AG->List Aa:=Ju ss now λi=>L (E8 ss i)
theorem G0{s:AV}(e:ss[i]?=AA s):IL ss now L i=Ff s now (L s.fd):=by show Ju ss now _ i=_;rw[Jv e,Fd e]
theorem DS.aik(h:DS z ex H ss F J D U W Y)(e:∀i∈F,gg' i=W i):DS z ex H ss F J D U gg' Y:=⟨h.ao,λi Z=>by
 refine AB λq=>?_;obtain⟨B,A,v,g⟩:=h.xf i Z;refine q ?_;try clear q
 exact⟨B,A,v,by rw[e i Z];exact g⟩,h.cc,h.xu⟩
noncomputable def Eo(D:List (Int×AU))(i:Nat):List AU:=(D.filter λp=>Ae (p.1=(i:Int))).map (·.2)
theorem Tw(a b:List (Int×AU))(i:Nat):Eo (a++b) i=Eo a i++Eo b i:=by unfold Eo;rw[Hr,C9]
theorem Pe{D:List (Int×AU)}{p:Int×AU}(e:D[n]?=AA p)(i:Nat):Eo (D.take (n+1)) i=Eo (D.take n) i++(if p.1=(i:Int)then[p.2]else[]):=by
 rw[Ds,e,Tw];congr 1;show(Ru _ [p]).map _=_;by_cases q:p.1=(i:Int);. rw[yY q,nW (by exact y3 q)];rfl
 . rw[yX q,nV (by rw[y7];exact q)];rfl
theorem Zk(D:List (Int×AU))(n i:Nat):(Eo (D.take n) i).Sublist (Eo D i):=((sY n D).filter _).map _
theorem Tz(l:List AU)(j i:Nat):Eo (l.map λx=>((j:Int),x)) i=if j=i then l else[]:=by
 unfold Eo;by_cases q:j=i
 . rw[yY q,nX.mpr λp F=>by
  refine AB λD=>?_;obtain⟨x,_,rfl⟩:=BO.mp F;refine D ?_;try clear D
  exact y3 (by rw[q]),EO];exact sR l
 . rw[yX q,OO.mpr λp F=>by
  refine AB λD=>?_;obtain⟨x,_,rfl⟩:=BO.mp F;refine D ?_;try clear D
  rw[y7];show¬(j:Int)=(i:Int);(first|lia|omega)];rfl
theorem Vj{s:AV}(e:ss[i]?=AA s)(J:s.bw=AH):∀N,Eo (EC ss bt N) i=if i<N then bt s.nm else[] |0=>rfl|N+1=>by show Eo (EC ss bt N++_) i=_;rw[Tw,Vj e J N];cases q:ss[N]? with |none=> have:i<ss.length:=(BN.mp e).1;have:=Rv.mp q;rw[yY (by(first|lia|omega)),yY (by(first|lia|omega))];exact FG _|some D=>
      show _++Eo (if D.bw=AH then(bt D.nm).map λi=>((N:Int),i)else[]) i=_;by_cases h:N=i
      . subst h;rw[e]at q;cases q;rw[yX (HI _),yY J,Tz,yY rfl,yY (Hu _)];rfl
      . have U:Eo (if D.bw=AH then(bt D.nm).map λi=>((N:Int),i)else[]) i=[]:=by
          split;.rw[Tz,yX h]
          .rfl
        rw[U,FG];by_cases F:i<N;.rw[yY F,yY (by(first|lia|omega))]
        .rw[yX F,yX (by(first|lia|omega))]
theorem Vk:∀{N:Nat}{p:Int×AU},p∈EC ss bt N->∃(i:Nat)(s:AV),ss[i]?=AA s/\s.bw=AH/\p.1=(i:Int)/\p.2∈bt s.nm
  |0,p,h=>by cases h|N+1,p,h=>by
    rcases DA.mp h with h|h;.exact Vk h
    .cases q:ss[N]? with |none=>rw[q]at h;cases h|some s=>
        rw[q]at h;have h:p∈if s.bw=AH then(bt s.nm).map λi=>((N:Int),i)else[]:=h;split at h
        . rename_i F;refine AB λD=>?_;obtain⟨x,J,rfl⟩:=BO.mp h;refine D ?_;try clear D
          exact⟨N,s,q,F,rfl,J⟩
        .cases h
theorem Dc.fw(h:Dc ss){i:Nat}(e:ss[i]?=AA s)(D:s.bw=AH):s.fw/\s.so∈Em/\s.bj=[s.fd]:=by have:=h.ok s (DW e);cases s with|gap n a F m=>exact⟨this.1,this.2,rfl⟩|each n a F z d=>exact⟨this.1,this.2,rfl⟩|_=>cases D
noncomputable def Ld(ss:List AV)(F:Nat->D4)(D:Nat->GL)(b:AD):Prop:=De ss F b\/∃i∈BH ss,b=(D i).d
noncomputable def eF(I:CW):BF:=λR H Q _=>Sl (λ(N B A q:AD)(M:List AE)(D:List AV)(U:List (AL×AE))(Y:Nat->D4)(z:Nat->List AU×List AU)(L W:AG->List AU)(C:List B7)(e:B7)(F:Int)(J:List (AL×AE))(Z:Nat->GL)(K:Nat->List (AL×AE))=>R=[.ref N,.ref B,.ref A,.ref q]) (λN _ _ _ M _ _ _ _ _ _ _ _ _ _ _ _=>H N=AA (.lst M)) (λ_ _ _ _ M D _ _ _ _ _ _ _ _ _ _ _=>EL H M D) (λ_ _ _ _ _ D _ _ _ _ _ _ _ _ _ _ _=>Dc D) (λ_ _ _ _ _ D _ _ _ _ _ _ _ _ _ _ _=>D.length<=20) (λ_ B _ _ _ D U Y z _ _ _ _ _ _ _ _=>Co I [] H D B U Y z) (λ_ _ _ q _ _ _ _ _ _ _ _ e _ _ _ _=>HM H q e) (λ_ _ _ _ _ D _ _ _ L W C e _ _ _ _=>(∀(i:Nat)s,D[i]?=AA s->s.bw=AQ->L s.nm=D5 s L C/\W s.nm=D5 s W (C++[e])/\(W s.nm).length<=600)) (λ_ _ _ _ _ D _ _ z L _ _ _ F _ _ _=>(∀(i:Nat)n a b O,D[i]?=AA (.join n a b O)->(z i).1.Perm (Bz (F-O) (L a))/\(z i).2.Perm (Bz (F-O) (L b)))) (λ_ _ _ _ _ _ _ _ _ _ _ _ e F _ _ _=>F<=e.1) (λ_ _ A _ _ D _ _ _ L _ _ _ F J Z K=>DS I [] H D (BH D) A J Z (IL D F L) K) (λ_ _ _ _ _ D _ _ _ L _ _ _ _ _ _ K=>(∀i∈BH D,(K i).length<=(L (E8 D i)).length)) (λ_ _ _ _ _ D _ _ _ _ W _ _ _ _ _ _=>(∀(i:Nat)s,D[i]?=AA s->s.bw=AQ->∀x∈W s.nm,0<=x.1/\x.1<=1000000000)) (λ_ B _ _ _ D _ Y _ _ _ _ _ _ _ Z _=>(∀i∈BH D,¬De D Y (Z i).d/\B≠(Z i).d)) (λ_ _ A _ _ D _ Y _ _ _ _ _ _ _ _ _=>¬De D Y A) (λ_ B A _ _ D U Y z _ W _ e F J Z _=>∀G P E,Dg (Ld D Y Z) H G->Co I [] G D B U Y (EY D z D.length P)->DS I [] G D (BH D) A J Z (IL D F W) E->(∀i∈BH D,(E i).length<=(W (E8 D i)).length)->(∀(i:Nat)s,D[i]?=AA s->FK s P (z i) e)->Q .non G)
theorem PL{ss:List AV}(V:Dc ss){L J bt:AG->List AU}{evs:List B7}{e:B7}{sd:Nat->List AU×List AU}{now:Int}(E:now<=e.1)(z:∀(i:Nat)s,ss[i]?=AA s->s.bw=AQ->L s.nm=D5 s L evs/\J s.nm=D5 s J (evs++[e])/\(J s.nm).length<=600)(W:∀(i:Nat)n a b wi,ss[i]?=AA (.join n a b wi)->(sd i).1.Perm (Bz (now-wi) (L a))/\(sd i).2.Perm (Bz (now-wi) (L b)))(Z:∀(i:Nat)s,ss[i]?=AA s->FK s bt (sd i) e):∀(m i:Nat)s,i<m->ss[i]?=AA s->s.bw=AQ->(J s.nm).Perm (L s.nm++bt s.nm)
 |0,i,s,G,_,_=>absurd G (JZ _)|m+1,i,s,G,D,A=>TN A (z i s D A).1 (z i s D A).2.1 (λa Y=>by
  refine AB λF=>?_;obtain⟨B,C,l,U,rfl,H⟩:=V.va i s a D Y;refine F ?_;try clear F
  exact PL V E z W Z m B C (by(first|lia|omega)) U H) (λn a b wi q=>W i n a b wi (by rw[<-q];exact D)) (λa Y=>by
  refine AB λF=>?_;obtain⟨B,C,l,U,rfl,H⟩:=V.va i s a D Y;refine F ?_;try clear F
  exact V.aiw E W (n:=ss.length) (λi s _ D=>Z i s D) ss.length (Al _) B C (BN.mp U).1 U) (Z i s D)
theorem bL{K:Ar}{ad:CW}(T:Ba K mg ad):A8 P w K mg base BM 6 ad.om ad.qf ["plan","joins","groups","event"] (eF ad):=by
  have G_spread:=fU.mk (bQ (P:=P) (w:=w) (base:=base) T) T.ahd T.ach.kp T.agr;have G_Group_put:=aQ (P:=P) (w:=w) (base:=base) T;refine T.wo.ok VC (λvs H Q E h=>?_) (λcdv A outer s H vs Q E hr h=>?_)
  . refine AB λnG=>?_;obtain⟨lp,dj,dg,q,ps,ss,jkvs,jd,sd,L,L',evs,e,now,gkvs,gd,gk,rfl,_⟩:=h;refine nG ?_;try clear nG
    rfl
  . refine AB λnG=>?_;obtain⟨lp,dj,dg,q,ps,ss,jkvs,jd,sd,L,L',evs,e,now,gkvs,gd,gk,rfl,elp,pr,pok,lss,jr,ev,hL,hS,he,gr,lgk,tm,apt,ndg,k⟩:=h;refine nG ?_;try clear nG
    have nd:=VC.nd;refine⟨_,(Ak (Eh E4 rfl (Dr (K:=K) (Ck G_spread hr (AJ (AO 0) (AJ (AO 1) (AJ (AO 3) AW))))) (JQ rfl (FU (Fm 4 nd) (FU (Fm 5 nd) JR))) (Ak (Fn (Gp (Ib hr.u1 (AO 2) (AO 4) (λ_ _=>rfl)) T.cm T.abe G_Group_put (hr.bb (by decide)) T.acm .nil Bk (AJ (AO 5) AW)))))),?_⟩;have sz:Aw=16777216:=DN;refine⟨[],lp,dj,q,ps,ss,jkvs,jd,sd,L,L',evs,e,now,rfl,elp,pr,pok,lss,jr,(λc hc=>by cases hc),ev,hL,hS,he,λH1 m xs bt s1 jr1 hm em its br1=>?_⟩;have jr1:=jr1.vi;have ap:=PL pok he hL hS br1 ss.length;have nw:=pok.aiw he hS (n:=ss.length) (λi s _ ei=>br1 i s ei) ss.length (Al _);have isd:∀b,De ss jd b->∃kvs,H b=AA (.dK kvs):=λb hb=>jr.ado hb;have gr1:=gr.gc s1 (λb hb=>.inr (isd b hb)) (λi hi=>(apt i hi).1) ndg;have tel:∀{i:Nat},i∈BH ss->∃s,ss[i]?=AA s/\s.fw/\(L' s.fd).Perm (L s.fd++bt s.nm)/\(L' s.fd).length<=600/\(∀x∈L' s.fd,0<=x.1/\x.1<=1000000000)/\(∀x∈bt s.nm,now<=x.1)/\Eo (EC ss bt ss.length) i=bt s.nm:=λ{i}hi=>by
      obtain⟨s,es,ht⟩:=FP.mp hi;obtain⟨tk,_,fd⟩:=pok.fw es ht;obtain⟨i',s',l,e',en,t'⟩:=pok.va i s s.fd es (by rw[fd];exact .head _);have hi':i<ss.length:=(BN.mp es).1;have pp:=ap i' s' (by(first|lia|omega)) e' t';have eb:bt s.nm=bt s.fd:=by have:=br1 i s es;cases s with |gap n a so m=>exact this|each n a so z d=>exact this|_=>cases ht
      rw[en]at pp;refine⟨s,es,tk,by rw[eb];exact pp,by rw[<-en];exact(hL i' s' e' t').2.2,by rw[<-en];exact tm i' s' e' t',nw i s hi' es,?_⟩;rw[Vj es ht,yY hi']
    have lx:=its.dh;have hmd:¬∃i∈BH ss,m=(gd i).d:=λ⟨i,hi,z⟩=>by obtain⟨_,_,_,g⟩:=gr1.xf i hi;have:=g.ba.ao;rw[<-z,em]at this;cases this
    refine⟨m,rfl,⟨_,Ai em⟩,IT (K:=K) (xs:=xs) (λn σ H'=>O5 (λ(o4 o5:Option AE)(gk':Nat->List (AL×AE))=>σ=[AA (.ref lp),AA (.ref dj),AA (.ref dg),AA (.ref q),o4,o5]) (λ_ _ _=>Dg (λb=>∃i∈BH ss,b=(gd i).d) H1 H') (λ_ _ gk'=>DS ad [] H' ss (BH ss) dg gkvs gd (Ju ss now λi=>L (E8 ss i)++Eo ((EC ss bt ss.length).take n) i) gk') (λ_ _ gk'=>∀i∈BH ss,(gk' i).length<=(L (E8 ss i)).length+(Eo ((EC ss bt ss.length).take n) i).length)) ⟨AF,AF,gk,rfl,λb o _ e=>e,?_,λi hi=>by rw[sZ];exact lgk i hi⟩ (λn σ H' _ hh=>by obtain⟨_,_,_,_,s',_⟩:=hh;exact Ai (s' _ _ hmd em)) ?_ ?_⟩
    . refine gr1.aik λi hi=>?_;refine AB λnG=>?_;obtain⟨s,es,_⟩:=tel hi;refine nG ?_;try clear nG
      rw[Jv es,G0 es,Fd es,sZ];show Ff s now (L s.fd++[])=_;rw[FG]
    . intro n y σ H2 hy hI;refine AB λnG=>?_;obtain⟨o4,o5,gk',rfl,s2,gr2,lg2⟩:=hI;obtain⟨a,qi,pl,it,rfl,ep,ea,eqi⟩:=its.at hy;obtain⟨i,s,es,ht,e1,hx⟩:=Vk (DW ep);refine nG ?_;try clear nG
      have e1:pl=(i:Int):=e1;subst e1;have hi:i∈BH ss:=FP.mpr ⟨s,es,ht⟩;refine AB λnG=>?_;obtain⟨s',es',tk,pp,l6,tms,nws,ib⟩:=tel hi;rw[es]at es';cases es';obtain⟨s',es',v,g⟩:=gr2.xf i hi;rw[es]at es';cases es';rw[Jv es,Fd es]at g;have nt:∀{b:AD}{xs:List AE},H1 b=AA (.tup xs)->H2 b=AA (.tup xs):=λ{b xs}e=>s2 _ _ (λ⟨i,hi,z⟩=>by obtain⟨_,_,_,g⟩:=gr1.xf i hi;have:=g.ba.ao;rw[<-z,e]at this;cases this) e;have sub:=Zk (EC ss bt ss.length) n i;rw[ib]at sub;have mem:∀x∈L s.fd++Eo ((EC ss bt ss.length).take n) i,0<=x.1/\x.1<=1000000000:=λx hx=>tms x (pp.mem_iff.mpr ((DA.mp hx).elim (λh=>Gr _ h) λh=>Ej _ (sub.mem h)));have ll:=pp.length_eq;rw[CA]at ll;have sl:=sub.length_le;have lg:=lg2 i hi;rw[Fd es]at lg;have tmx:=tms it (pp.mem_iff.mpr (Ej _ hx));obtain⟨dx,eo⟩:=g.cn;refine nG ?_;try clear nG
      have gl:=λz=>Qm (z:=z) (now:=now) tk mem;refine⟨a,_,rfl,As (nt ea),rfl,_,_,rfl,_,_,rfl,rfl,?_⟩;refine⟨dg,.ref (gd i).x,rfl,by rw[<-v];exact .inl ⟨gkvs,.inl (i:Int),gr2.ao,rfl,rfl⟩,?_⟩;refine⟨(gd i).x,dx,_,rfl,eo,by rfl,[],(gd i).x,(gd i).p,(gd i).d,qi,s,_,gk' i,it,rfl,g,(λc hc=>by cases hc),tk,Ql tk,tmx.1,tmx.2,nt eqi,?_,by(first|lia|omega),λH3 k3 s3 g3 l3=>?_⟩
      . have:=gl it.2.1;rw[CA]at this;(first|lia|omega)
      . rw[cO tk (nws it hx)]at g3;have gr3:=gr2.vh hi es s3 g3;refine⟨_,_,_,rfl,λb o nb e=>s3 _ _ (λz=>nb ⟨i,hi,z⟩) (s2 b o nb e),gr3.aik λk hk=>?_,λk hk=>?_⟩
        . by_cases q:k=i;. subst q;rw[yY rfl,Jv es,Fd es,Pe ep,yY rfl,Ei]
          . rw[yX q];refine AB λnG=>?_;obtain⟨sk,ek,_⟩:=tel hk;refine nG ?_;try clear nG
            rw[Jv ek,Jv ek,Pe ep,yX (by show¬(i:Int)=(k:Int);(first|lia|omega)),FG]
        . have:=lg2 k hk;rw[Pe ep,CA];by_cases q:k=i
          . subst q;rw[yY rfl,yY rfl];show k3.length<=_+(_+1);(first|lia|omega)
          . rw[yX q];(first|lia|omega)
    . intro σ H2 hI;refine AB λnG=>?_;obtain⟨o4,o5,gk',rfl,s2,gr2,lg2⟩:=hI;refine nG ?_;try clear nG
      rw[lx,Df (Al _)]at gr2 lg2;refine k H2 bt gk' (λb o nb e=>s2 _ _ (λz=>nb (.inr z)) (s1 b o (λz=>nb (.inl z)) e)) (jr1.gc s2 (λb⟨i,hi,z⟩=>.inr ?_) (λb⟨i,hi,z⟩=>by rw[z];exact(apt i hi).1) λ⟨i,hi,z⟩=>(apt i hi).2 z) (gr2.aik λi hi=>?_) (λi hi=>?_) br1
      . refine AB λnG=>?_;obtain⟨_,_,_,g⟩:=gr1.xf i hi;refine nG ?_;try clear nG
        exact⟨_,by rw[z];exact g.ba.ao⟩
      . refine AB λnG=>?_;obtain⟨s,es,tk,pp,_,_,_,ib⟩:=tel hi;refine nG ?_;try clear nG
        rw[G0 es,Jv es,Fd es,ib];exact cN tk pp
      . refine AB λnG=>?_;obtain⟨s,es,tk,pp,_,_,_,ib⟩:=tel hi;refine nG ?_;try clear nG
        have:=lg2 i hi;rw[ib,Fd es]at this;rw[Fd es,pp.length_eq,CA];exact this
theorem Co.acy(h:Co N ex H ss W D G sd)(e:FC H' W (.dK D))(B:∀b,b≠W->H' b=H b):Co N ex H' ss W D G sd:=by
 have J:∀{b:AD}{U:Bh},H b=AA U->(∀o u,U≠.frz o u)->(∀u,U≠.dK u)->H' b=AA U:=λ{b U}F S Y=>by
  rw[B b λz=>by
   rw[z]at F;rcases h.ao with E|⟨c,E⟩<;>rw[E]at F;.exact Y _ (CM F).symm
   .exact S _ _ (CM F).symm];exact F
 have K:Bp H H':=λb M F=>J F (by intro o u z;cases z) (by intro u z;cases z);refine⟨e,λi n a b L q=>⟨(h.gv i n a b L q).1,?_⟩,h.cc,h.abj⟩;have Y:=h.abj i ⟨_,_,_,_,q⟩;refine AB λI=>?_;obtain⟨⟨Z,P⟩,O,X,r1,T,R⟩:=(h.gv i n a b L q).2;refine I ?_;try clear I
 exact⟨⟨Z,J P (by intro o u z;cases z) (by intro u z;cases z)⟩,J O (by intro o u z;cases z) (by intro u z;cases z),X.ab (λC Z Q e=>J e (by intro o u z;cases z) (by intro u z;cases z)) (λA e=>by rw[B _ Y.1.symm];exact e) (λb M n e=>J e (by intro o u z;cases z) (by intro u z;cases z)) K,r1.ab (λC Z Q e=>J e (by intro o u z;cases z) (by intro u z;cases z)) (λA e=>by rw[B _ Y.2.symm];exact e) (λb M n e=>J e (by intro o u z;cases z) (by intro u z;cases z)) K,T,R⟩
noncomputable def Lb(ss:List AV)(now:Int)(sd:Nat->List AU×List AU)(i:Nat):List AU×List AU:=match ss[i]? with|AA (.join _ _ _ D)=>(Bz (now-D) (sd i).1,Bz (now-D) (sd i).2)|_=>sd i
theorem Tb(e:ss[i]?=AA (.join n a b wi)):Lb ss now sd i=(Bz (now-wi) (sd i).1,Bz (now-wi) (sd i).2):=by unfold Lb;rw[e]
noncomputable def dB(q:CW):BF:=λz H Q _=>PB (λ(J:AD)(F:List AV)(D:List (AL×AE))(U:Nat->D4)(Y:Nat->List AU×List AU)(W:Int)=>z=[.ref J,.int W]) (λJ _ D _ _ _=>H J=AA (.dK D)) (λ_ F D U _ _=>Iq F F.length U D) (λJ F D U Y _=>Co q [] H F J D U Y) (λ_ F _ _ Y _=>(∀i,EH F i->(Y i).1.length<=1000/\(Y i).2.length<=1000)) (λJ F D U Y W=>∀Z,Dg (De F U) H Z->Co q [] Z F J D U (Lb F W Y)->Q .non Z)
theorem aH{K:Ar}{X:CW}(T:Ba K mg X):A8 P w K mg base BM 4 X.sj X.uh ["joins","now"] (dB X):=by
  have F:=aU (P:=P) (w:=w) (base:=base) T;refine T.xw.ok Uu (λvs H Q E h=>?_) (λcdv A outer s H vs Q E hr h=>?_)
  . refine AB λJ=>?_;obtain⟨U,L,D,W,R,now,rfl,_⟩:=h;refine J ?_;try clear J
    rfl
  . refine AB λJ=>?_;obtain⟨U,L,D,W,R,now,rfl,t,jk,N,ln,k⟩:=h;refine J ?_;try clear J
    have d:=Uu.nd;refine⟨_,(Ak (W6 (Eh E4 rfl (kK (AO 0) rfl rfl) (Fm 2 d) (Ak (Fn (Gp (AO 2) T.dq T.abg F (hr.bb (by decide)) T.aco .nil Bk (AJ (AO 1) AW))))))),?_⟩;have ndj:¬De L W U:=λ⟨i,B,z⟩=>z.elim (N.abj i B).1 (N.abj i B).2;refine⟨U,(λo u z=>by rw[t]at z;cases z),U,D,rfl,t,λo H1 e1=>?_⟩;subst e1;have I:∀b,b≠U->(AN H U (.frz o (.dK D))) b=H b:=λb Z=>Ac Z;have O:=N.acy (.inr ⟨o,Ab⟩) I;have M:(AN H U (.frz o (.dK D))) U=AA (.frz o (.dK D)):=Ab;generalize AN H U (.frz o (.dK D))=H1 at I O M⊢;refine iB (kvs:=D) (λn l S=>∃o2:Option AE,l=[AA (.ref U),AA (.int now),o2]/\S U=AA (.frz o (.dK D))/\Dg (De L W) H1 S/\Co X [] S L U D W λi=>if(.inl (i:Int):AL)∈(D.take n).map (·.1)then Lb L now R i else R i) ⟨AF,rfl,M,λb o _ e=>e,O⟩ (λn l S _ hh=>by obtain⟨_,_,e,_⟩:=hh;exact e) ?_ ?_
    . intro n p l H2 y x;refine AB λJ=>?_;obtain⟨o2,rfl,C,s2,Y⟩:=x;obtain⟨i,_,⟨m,a,b,g,G⟩,rfl⟩:=jk.ajd p (DW y);have new:(.inl (i:Int):AL)∉(D.take n).map (·.1):=λhm=>by
        rw[oB]at hm;obtain⟨j,hj,e⟩:=F7.mp hm;rw[EA]at hj;rw[MW]at e;have e2:(D.map (·.1))[n]?=AA (.inl (i:Int)):=by rw[Bx,y];rfl
        obtain⟨h2,g2⟩:=BN.mp e2;exact(E3.mp jk.nd) j n (by(first|lia|omega)) h2 (by(first|lia|omega)) (e.trans g2.symm)
      have jj:=(Y.gv i m a b g G).2;rw[yX new]at jj;obtain⟨r,eo⟩:=jj.cn;obtain⟨l0,l1⟩:=ln i ⟨_,_,_,_,G⟩;refine J ?_;try clear J
      have B:EH L i:=⟨_,_,_,_,G⟩;refine⟨(W i).j,r,_,rfl,eo,by rfl,[],(W i).j,(W i).sl,(W i).x0,(W i).x1,(W i).d0,(W i).d1,g,now,(R i).1,(R i).2,rfl,jj,(λc hc=>by cases hc),l0,l1,λH3 sy j3=>?_⟩;have d:=N.abj i B;refine⟨_,rfl,sy _ _ d.1 d.2 C,λb o Z e=>sy _ _ (λz=>Z ⟨i,B,.inl z⟩) (λz=>Z ⟨i,B,.inr z⟩) (s2 b o Z e),(Y.vh G sy j3).cq λi' hi'=>?_⟩;have tk:(D.take (n+1)).map (·.1)=(D.take n).map (·.1)++[.inl (i:Int)]:=by rw[Ds,y,C9];rfl
      rw[tk];by_cases q:i'=i;. subst q;rw[yY rfl,yY (Ej _ (.head _)),Tb G]
      . rw[yX q];by_cases f:(.inl (i':Int):AL)∈(D.take n).map (·.1);.rw[yY f,yY (Gr _ f)]
        .rw[yX f,yX λz=>(DA.mp z).elim f λz=>q (by have:=FI (By.mp z);(first|lia|omega))]
    . intro l H2 x;refine AB λJ=>?_;obtain⟨o2,rfl,C,s2,Y⟩:=x;refine J ?_;try clear J
      rw[Df (Al _)]at Y;refine⟨o,_,C,k _ (λb ob Z e=>?_) ((Y.acy (.inl Ab) λb Z=>Ac Z).cq λi B=>?_)⟩
      . by_cases q:b=U
        . rw[q,t]at e;cases e;rw[q];exact Ab
        . rw[Ac q];exact s2 b ob Z (by rw[I b q];exact e)
      . refine AB λJ=>?_;obtain⟨m,a,b,g,G⟩:=B;obtain⟨v,_⟩:=N.gv i m a b g G;refine J ?_;try clear J
        rw[yY (BO.mpr ⟨_,Hq v,rfl⟩)]
noncomputable def eJ:BF:=λW H Q _=>Gw (λ(l:AD)(D F:List AE)=>W=[.ref l]) (λl D _=>H l=AA (.lst D)) (λ_ D _=>D.length<=16000000) (λ_ D F=>BP (λx y=>∃a J u2 u3 U,x=.ref a/\H a=AA (.tup [J,u2,u3,U,y])) D F) (λ_ _ F=>∀r,H r=AF->Q (.ref r) (AN H r (.lst F)))
theorem bN{K:Ar}{ad:CW}(T:Ba K mg ad):A8 P w K mg base BM 1 ad.vt ad.we ["told"] eJ:=by
  refine T.aab.ok VG (λvs H Q E h=>?_) (λcdv A outer s H vs Q E hr h=>?_)
  . refine AB λnG=>?_;obtain⟨l,xs,ys,rfl,_⟩:=h;refine nG ?_;try clear nG
    rfl
  . refine AB λnG=>?_;obtain⟨l,xs,ys,rfl,el,lx,pr,k⟩:=h;refine nG ?_;try clear nG
    have nd:=VG.nd;refine⟨_,(Ak (BE (Kz (A2 NV) [] trivial (Dr (K:=K) (AO 0)) (λ_ _ _ _=>G8) (λ_ _ _ _=>(Bi K (AO 0) AR))))),?_⟩;have sz:Aw=16777216:=DN;obtain⟨le,pa⟩:=CZ pr;refine⟨l,rfl,⟨_,Ai el⟩,G5 (K:=K) (xs:=xs) (λn τ acc H'=>(∃o,τ=[o])/\H'=H/\acc=ys.take n) (by(first|lia|omega)) ⟨⟨AF,rfl⟩,rfl,rfl⟩ (λn τ acc H'⟨_,e,_⟩=>by rw[e];exact Ai el) ?_ ?_⟩
    . intro n y τ acc H' R1 hy _ hI k1;refine AB λnG=>?_;obtain⟨⟨o,rfl⟩,rfl,rfl⟩:=hI;have ey:=Cm (show n<ys.length by rw[<-le];exact(BN.mp hy).1);obtain⟨a,u1,u2,u3,u4,rfl,ea⟩:=pa n _ _ hy ey;refine nG ?_;try clear nG
      exact⟨_,_,As ea,Aq (j:=4) rfl,k1 _ _ _ ⟨⟨_,rfl⟩,rfl,by rw[Ds,ey];rfl⟩⟩
    . intro τ acc H' _ hI D hD;refine AB λnG=>?_;obtain⟨_,rfl,rfl⟩:=hI;refine nG ?_;try clear nG
      rw[Df (by(first|lia|omega))];exact k D hD
noncomputable abbrev Ce:=Nat×AG×Aa
noncomputable def CS(q:Ce):List AL:=[.inl q.2.2.2.1,.inl (q.1:Int),.inr q.2.1,.inl q.2.2.1]
noncomputable def Ir(ss:List AV)(H:AI)(x:AE)(q:Ce):Prop:=∃(a r:AD)(s:AV),ss[q.1]?=AA s/\x=.ref a/\H a=AA (.tup ((CS q).map Ax++[.ref r]))/\H r=AA (.tup ((I0 s q.2.1 q.2.2).map Ax))
theorem Jo(h:BP (Ir ss H) xs D)(t:Bp H H'):BP (Ir ss H') xs D:=GY (λ_ _ W=>by obtain⟨a,r,s,F,e,J,U⟩:=W;exact⟨a,r,s,F,e,t _ _ J,t _ _ U⟩) h
theorem Zt{K:Ar}{F:List Ce}(h:BP (Ir ss H) xs F)(O:(F.map CS).Nodup):∃D:List Fg,D.map Fi=F.map CS/\Nn K H xs D [AH,AH,AQ,AH]:=by
 have Z:∀{xs:List AE}{F:List Ce},BP (Ir ss H) xs F->∃D:List Fg,D.map Fi=F.map CS/\D.map (·.1)=F.map CS/\BP (λx(d:Fg)=>(∃a,x=.ref a/\B8 K H a (d.1.map Ax++d.2.1.map AE.ref))/\d.1.map B9=[AH,AH,AQ,AH]) xs D:=by intro xs F h;induction h with|nil=>exact⟨[],rfl,rfl,.nil⟩|cons z _ M=>obtain⟨D,e,W,p⟩:=M;rename_i x q _ _ _;obtain⟨a,r,s,_,E,U,_⟩:=z;exact⟨(CS q,[r],[])::D,by rw[DM,DM,e];rfl,by rw[DM,DM,W],.cons ⟨⟨a,E,As U⟩,rfl⟩ p⟩
 refine AB λJ=>?_;obtain⟨D,e,W,p⟩:=Z h;refine J ?_;try clear J
 refine⟨D,e,by decide,p,λi j d C U Y G=>.inl ?_⟩;have A:(D.map (·.1))[i]?=AA d.1:=by rw[Bx,U];rfl
 have B:(D.map (·.1))[j]?=AA C.1:=by rw[Bx,Y];rfl
 rw[W]at A B;refine AB λJ=>?_;obtain⟨z,I⟩:=BN.mp A;obtain⟨P,L⟩:=BN.mp B;refine J ?_;try clear J
 have N:i=j:=(Xz O).mp (by rw[I,L,G]);subst N;rw[U]at Y;cases Y;exact⟨rfl,rfl⟩
theorem cQ{ys:List AE}{R:List Ce}(h:BP F ys R){Y:List (AE×List AL)}(p:Y.Perm (ys.zip (R.map CS))):∃J,J.Perm R/\BP F (Y.map (·.1)) J/\J.map CS=Y.map (·.2):=by
  refine AB λW=>?_;obtain⟨K,C⟩:=CZ h;have E:BP (λ(m:Ce)(q:AE×List AL)=>F q.1 m/\CS m=q.2) R (ys.zip (R.map CS)):=by refine Ez (by rw[Rx,A0];(first|lia|omega)) λi m q D U=>?_;obtain⟨Z,z⟩:=JX.mp U;rw[Bx,D]at z;exact⟨C i q.1 m Z D,CM z⟩
  obtain⟨J,G,H⟩:=KD p E;obtain⟨B,A⟩:=CZ H;refine W ?_;try clear W
  refine⟨J,G,Ez (by rw[A0,B]) λi v m D U=>?_,?_⟩
  . rw[Bx]at D;refine AB λW=>?_;obtain⟨q,Z,rfl⟩:=D2.mp D;refine W ?_;try clear W
    exact(A i m q U Z).1
  . refine Xv λi=>?_;rw[Bx,Bx];cases D:J[i]? with |none=>rw[Xx (by rw[<-B];exact Rv.mp D)];rfl|some m=>have I:=(BN.mp D).1;have U:=Cm (show i<Y.length by(first|lia|omega));rw[U];exact yZ AA (A i m _ D U).2
theorem fI{F Y:Type}{f:F->Y}{l:List Y}{m:List F}(p:l.Perm (m.map f)):∃D:List F,D.Perm m/\l=D.map f:=by
 have V:BP (λa b=>b=f a) m (m.map f):=Ez (by rw[A0]) λi a b Z J=>by rw[Bx,Z]at J;exact(CM J).symm
 refine AB λU=>?_;obtain⟨D,W,z⟩:=KD p V;refine U ?_;try clear U
 refine⟨D,W,?_⟩;clear p V W;induction z with|nil=>rfl|cons h _ q=>rw[h,DM,<-q]
theorem Vl(h:∀z,(g z).length<=n):∀ks:List AG,(GV g ks).length<=n*ks.length|[]=>CU _|z::ks=>by have:=Vl h ks;have D:=h z;show((g z).map _++GV g ks).length<=n*(ks.length+1);rw[CA,A0,tH];(first|lia|omega)
theorem Qq{D:AG×Aa}:D∈GV g ks↔D.1∈ks/\D.2∈g D.1:=by
  unfold GV;rw[Rz];constructor
  . intro V;refine AB λF=>?_;obtain⟨z,Y,h⟩:=V;obtain⟨p,W,rfl⟩:=BO.mp h;refine F ?_;try clear F
    exact⟨Y,W⟩
  . rintro⟨J,U⟩;exact⟨D.1,J,BO.mpr ⟨D.2,U,rfl⟩⟩
theorem Vm(D:∀z,EM (g z)):∀{ks:List AG},ks.Nodup->((GV g ks).map λF=>(F.1,F.2.1)).Nodup
  |[],_=>.nil|z::ks,h=>by
    obtain⟨U,V⟩:=Ih.mp h;show(((g z).map _++GV g ks).map _).Nodup;rw[C9];refine oG.mpr ⟨?_,Vm D V,λa W b Y e=>?_⟩
    . rw[EO];exact KL.mpr ((D z).imp λ{a b}q e=>by have:a.1=b.1:=(tL e).2;(first|lia|omega))
    . subst e;refine AB λJ=>?_;obtain⟨x,Z,rfl⟩:=BO.mp W;obtain⟨y,A,e⟩:=BO.mp Y;obtain⟨p,_,rfl⟩:=BO.mp Z;refine J ?_;try clear J
      have:=(Qq.mp A).1;rw[(tL e).1]at this;exact U this
theorem b8(h:EM l):EM (Fe now l):=by cases now with|none=>exact h|some n=>exact h.sublist MU
theorem b7{l:List Aa}:(Fe now l).length<=l.length:=by cases now with|none=>exact Al _|some n=>exact FY _ _
noncomputable def c8(E:CW):BF:=λI H Q _=>PD (λ(W:AD)(F:List AV)(D:List (AL×AE))(Y:Nat->GL)(U:Nat->AG->List Aa)(Z:Nat->List (AL×AE))(J:Option Int)=>I=[.ref W,Kg J]) (λW _ D _ _ _ _=>H W=AA (.dK D)) (λ_ F _ _ _ _ _=>Dc F) (λ_ F _ _ _ _ _=>F.length<=8) (λ_ _ D _ _ _ _=>D.length<=8) (λ_ F D Y _ _ _=>Kd (BH F) Y D) (λW F D Y U Z _=>DS E [] H F (BH F) W D Y U Z) (λ_ F _ _ _ Z _=>(∀i∈BH F,(Z i).length<=600)) (λ_ F _ _ U _ _=>(∀i∈BH F,∀z,EM (U i z)/\(U i z).length<=3000)) (λW F D Y U Z J=>∀A r G C B,Dg (λb=>∃i∈BH F,b=(Y i).d) H A->DS E [] A F (BH F) W D Y (λi z=>E9 J (U i z)) B->(∀i∈BH F,(B i).length<=(Z i).length)->H r=AF->A r=AA (.lst G)->BP (Ir F A) G C->(C.map CS).Nodup->DP (C.map CS)->(∀q:Ce,q∈C↔q.1∈BH F/\q.2.2∈Fe J (U q.1 q.2.1))->C.length<=14400000->Q (.ref r) A)
theorem aE{K:Ar}{ad:CW}(T:Ba K mg ad):A8 P w K mg base BM 5 ad.yd ad.yn ["groups","now"] (c8 ad):=by
  have W:=aD (P:=P) (w:=w) (base:=base) T;refine T.aca.ok Ut (λvs H Q E h=>?_) (λcdv A outer s H vs Q E hr h=>?_)
  . refine AB λJ=>?_;obtain⟨Z,ss,F,N,t,gk,now,rfl,_⟩:=h;refine J ?_;try clear J
    rfl
  . refine AB λJ=>?_;obtain⟨Z,ss,F,N,t,gk,now,rfl,eg,pok,lss,lkv,gks,gr,lgk,lgg,k⟩:=h;refine J ?_;try clear J
    have nd:=Ut.nd;refine⟨_,(Hn (Cr 2 nd (Dl AW)) (Hn (W6 (Eh E4 rfl (kJ (AO 0) rfl rfl) (JQ rfl (FU (Fm 3 nd) (FU (Fm 4 nd) JR))) (Ak (Fn (JP (K:=K) Mc SH YR N5 (AO 2) (AJ (Kz (A2 NU) [("place",3)] ⟨rfl,rfl,trivial⟩ (Dr (K:=K) (Gp (AO 4) T.cm T.zd W (hr.bb (by decide)) T.zl .nil Bk (AJ (AO 1) AW))) (λ_ _ _ _=>G8) (λ_ _ _ _=>(Cw (AJ (Bi K (AO 0) AR) (AJ (AO 1) (AJ (Bi K (AO 0) AR) (AJ (Bi K (AO 0) AR) (AJ (AO 0) AW)))))))) AW)))))) (Ak (BE (DQ (V3 (K:=K) hr) (by rfl) T.qu R8 (AJ (AO 2) AW)))))),?_⟩;have sz:Aw=16777216:=DN;refineλ_ _ _ _ z1=>⟨CU _,λC htl=>z1 _ _ ?_⟩;refine B0 (o:=.lst []) htl λH0 s0 et0=>?_;have gr0:=(gr.mh htl).bc s0;have eg0:=s0 _ _ eg;refineλ_ _ _ _ z2=>⟨Z,(λo u z=>by rw[eg0]at z;cases z),Z,F,rfl,eg0,λo H1 e1=>?_⟩;subst e1;have ndt:C≠Z:=λz=>by rw[z,eg]at htl;cases htl
    have ne1:∀b,b≠Z->(AN H0 Z (.frz o (.dK F))) b=H0 b:=λb L=>Ac L;have gr1:=gr0.acy (.inr ⟨o,Ab⟩) ne1;have ed1:(AN H0 Z (.frz o (.dK F))) Z=AA (.frz o (.dK F)):=Ab;have et1:(AN H0 Z (.frz o (.dK F))) C=AA (.lst []):=by rw[Ac ndt];exact et0
    generalize AN H0 Z (.frz o (.dK F))=H1 at ne1 gr1 ed1 et1⊢;refine iA (kvs:=F) (λn σ H'=>O8 (λ(o3 o4:Option AE)(U:List AE)(qs:List Ce)(B:Nat->List (AL×AE))=>σ=[AA (.ref Z),AA (Kg now),AA (.ref C),o3,o4]) (λ_ _ _ _ _=>H' Z=AA (.frz o (.dK F))) (λ_ _ _ _ _=>Dg (λb=>b=C\/∃i∈BH ss,b=(N i).d) H1 H') (λ_ _ _ _ B=>DS ad [C] H' ss (BH ss) Z F N (λi z=>if(.inl (i:Int):AL)∈(F.take n).map (·.1)then E9 now (t i z)else t i z) B) (λ_ _ _ _ B=>(∀i∈BH ss,(B i).length<=(gk i).length)) (λ_ _ U _ _=>H' C=AA (.lst U)) (λ_ _ U qs _=>BP (Ir ss H') U qs) (λ_ _ _ qs _=>(qs.map CS).Nodup) (λ_ _ _ qs _=>(∀q:Ce,q∈qs↔(.inl (q.1:Int):AL)∈(F.take n).map (·.1)/\q.2.2∈Fe now (t q.1 q.2.1))) (λ_ _ _ qs _=>qs.length<=1800000*n)) ⟨AF,AF,[],[],gk,rfl,ed1,λb o _ e=>e,gr1,λi _=>Al _,et1,.nil,.nil,λq=>⟨λh=>(by cases h),λh=>(by cases h.1)⟩,CU _⟩ (λn σ H' _ hh=>by obtain⟨_,_,_,_,_,_,e,_⟩:=hh;exact e) ?_ ?_
    . intro n p σ H2' rp hp hI hrp;refine AB λJ=>?_;obtain⟨o3,o4,U,qs,B,rfl,ed2',s2',gr2',lg2,et2',mk2',nd2,mm2,lq2⟩:=hI;obtain⟨i,G,rfl⟩:=gks.ajd p (DW hp);refine J ?_;try clear J
      refine B0 (o:=.tup [Ax (.inl (i:Int)),.ref (N i).x]) hrp λH2 g2 erp=>?_;refine⟨rp,_,rfl,As erp,rfl,_,_,rfl,_,_,rfl,rfl,?_⟩;have ed2:=g2 _ _ ed2';have gr2:=gr2'.bc g2;have I:=g2 _ _ et2';have mk2:=Jo mk2' g2.tp;have s2:Dg (λb=>b=C\/∃i∈BH ss,b=(N i).d) H1 H2:=λb o L e=>g2 _ _ (s2' b o L e);have hn:n<F.length:=(BN.mp hp).1;have new:(.inl (i:Int):AL)∉(F.take n).map (·.1):=λhm=>by
        rw[oB]at hm;obtain⟨j,hj,e⟩:=F7.mp hm;rw[EA]at hj;rw[MW]at e;have e2:(F.map (·.1))[n]?=AA (.inl (i:Int)):=by rw[Bx,hp];rfl
        obtain⟨R,q2⟩:=BN.mp e2;exact(E3.mp gks.nd) j n (by(first|lia|omega)) R (by(first|lia|omega)) (e.trans q2.symm)
      have tk:(F.take (n+1)).map (·.1)=(F.take n).map (·.1)++[.inl (i:Int)]:=by rw[Ds,hp,C9];rfl
      refine AB λJ=>?_;obtain⟨st,es,ht⟩:=FP.mp G;obtain⟨tok,hso,_⟩:=pok.fw es ht;obtain⟨st',es',v,g⟩:=gr2.xf i G;rw[es]at es';cases es';have gi:(λz=>if(.inl (i:Int):AL)∈(F.take n).map (·.1)then E9 now (t i z)else t i z)=t i:=funext λz=>yX new;rw[gi]at g;obtain⟨dx,eo⟩:=g.cn;refine J ?_;try clear J
      have l1:=lg2 i G;have l2:=lgk i G;refine⟨.inl ⟨rfl,_,Ai I⟩,(N i).x,dx,_,rfl,eo,by rfl,[C],(N i).x,(N i).p,(N i).d,st,t i,B i,now,rfl,g,(λc hc=>by rw[By.mp hc];exact⟨_,I⟩),tok,hso,by(first|lia|omega),(λz=>CL (lgg i G z).2 (by decide)),λH3 r xs kss k3 ks s3 g3 hr3 er3 hw3 pm3 _ kn km l3 lke=>⟨r,rfl,⟨_,Ai er3⟩,?_⟩⟩;refine AB λJ=>?_;obtain⟨M,pM,rfl⟩:=fI pm3;refine J ?_;try clear J
      have g3:=g3.vi;have O:=gr2.vh G es s3 g3;have ntd:C≠(N i).d:=λz=>by rw[z,g.ba.ao]at I;cases I
      have et3:=s3 _ _ ntd I;have tp3:Bp H2 H3:=s3.tp g.ba.ao (by intro xs z;cases z);have X:=Jo mk2 tp3;have lM:M.length<=1800000:=by rw[pM.length_eq];have:=Vl (g:=λz=>Fe now (t i z)) (n:=3000) (λz=>CL b7 (lgg i G z).2) ks;(first|lia|omega)
      have lx:=hw3.dh;rw[A0]at lx;have lacc:=(CZ X).1;refine G5 (K:=K) (xs:=xs) (λj τ Y H'=>(∃o,τ=[o,AA (.int (i:Int))])/\Ap H3 H'/\BP (Ir ss H') Y ((M.take j).map λS=>(i,S.1,S.2))) (by(first|lia|omega)) ⟨⟨AF,rfl⟩,Cu _,.nil⟩ (λj τ Y H'⟨_,s',_⟩=>Ai (s' _ _ er3)) ?_ ?_
      . intro j y τ Y H5 R1 hy _ hI k1;refine AB λJ=>?_;obtain⟨⟨o,rfl⟩,s5,mk5⟩:=hI;obtain⟨a,row,rfl,er,ea⟩:=hw3.at hy;rw[Bx]at er;obtain⟨S,ekp,rfl⟩:=D2.mp er;refine J ?_;try clear J
        have ea5:=s5 _ _ ea;refine⟨_,_,As ea5,Aq (j:=3) rfl,_,_,As ea5,Aq (j:=1) rfl,_,_,As ea5,Aq (j:=2) rfl,Ey rfl,λm hm=>k1 _ _ _ ⟨⟨_,rfl⟩,s5.gf hm,?_⟩⟩;have sm:=Be (o:=.tup [.int S.2.2.1,.int (i:Int),.str S.1,.int S.2.1,.ref a]) hm;rw[Ds,ekp,C9];exact Dk (Jo mk5 sm.tp) (.cons ⟨m,a,st,es,rfl,Ab,sm _ _ ea5⟩ .nil)
      . intro τ Y H5 _ hI D hD;refine AB λJ=>?_;obtain⟨_,s5,mk5⟩:=hI;refine J ?_;try clear J
        rw[Df (by(first|lia|omega))]at mk5;have lacc':=(CZ mk5).1;rw[A0]at lacc';refine B0 hD λH6 s6 eD=>?_;have f:=s5.aa s6;have et6:=f _ _ et3;refine⟨C,D,_,_,rfl,rfl,et6,eD,by(first|lia|omega),?_⟩;have tp6:Bp H6 (AN H6 C (.lst (U++Y))):=(Hh H6).gf et6 λxs=>by intro z;cases z
        have ndg:Z≠(N i).d:=gr.xu i G;have gr6:=(O.bc f).gc (q:=(.=C)) (H':=AN H6 C (.lst (U++Y))) (λb o L e=>by rw[Ac L];exact e) (λb hb=>.inl ⟨by rw[hb];exact .head _,U,by rw[hb];exact et6⟩) (λk hk z=>by obtain⟨_,_,_,gg'⟩:=(O.bc f).xf k hk;have:=gg'.ba.ao;rw[z,et6]at this;cases this) ndt.symm;refine⟨_,_,U++Y,qs++M.map (λS=>(i,S.1,S.2)),_,rfl,?_,λb o L e=>?_,gr6.aik λk hk=>?_,λk hk=>?_,Ab,?_,?_,λq=>?_,?_⟩;. rw[Ac ndt.symm];exact f _ _ (s3 _ _ ndg ed2)
        . rw[Ac λz=>L (.inl z)];exact f _ _ (s3 _ _ (λz=>L (.inr ⟨i,G,z⟩)) (s2 b o L e))
        . rw[tk];by_cases q:k=i
          . subst q;rw[yY rfl];funext z;exact yY (Ej _ (.head _))
          . rw[yX q];funext z;by_cases q2:(.inl (k:Int):AL)∈(F.take n).map (·.1);.rw[yY q2,yY (Gr _ q2)]
            .rw[yX q2,yX λz=>(DA.mp z).elim q2 λz=>q (by have:=FI (By.mp z);(first|lia|omega))]
        . by_cases q:k=i
          . subst q;rw[yY rfl];exact CL l3 l1
          . rw[yX q];exact lg2 k hk
        .exact Dk (Jo X λb ys e=>tp6 _ _ (f _ _ e)) (Jo mk5 λb ys e=>tp6 _ _ (s6 _ _ e))
        . rw[C9,EO];refine oG.mpr ⟨nd2,?_,λa ha b hb e=>?_⟩
          . have h1:=Vm (g:=λz=>Fe now (t i z)) (λz=>b8 (lgg i G z).1) kn;have R:=(pM.map λS=>(S.1,S.2.1)).nodup_iff.mpr h1;exact KL.mpr ((KL.mp R).imp λ{a b}h e=>h (YC (Kc (Dx (Dx (Dx e).2).2).1) (FI (Dx (Dx (Dx (Dx e).2).2).2).1)))
          . subst e;refine AB λJ=>?_;obtain⟨x,hx,rfl⟩:=BO.mp ha;obtain⟨y,hy,e⟩:=BO.mp hb;refine J ?_;try clear J
            have d1:(i:Int)=(x.1:Int):=FI (Dx (Dx e).2).1;have:=((mm2 x).mp hx).1;rw[<-d1]at this;exact new this
        . rw[DA,mm2,tk,DA,By];constructor
          . rintro(⟨h1,R⟩|h);.exact⟨.inl h1,R⟩
            . refine AB λJ=>?_;obtain⟨S,hk,rfl⟩:=BO.mp h;refine J ?_;try clear J
              exact⟨.inr rfl,(Qq.mp (pM.mem_iff.mp hk)).2⟩
          . rintro⟨h1|h1,R⟩;.exact .inl ⟨h1,R⟩
            . have e:q.1=i:=by have:=FI h1;(first|lia|omega)
              rw[e]at R;refine .inr (BO.mpr ⟨(q.2.1,q.2.2),pM.mem_iff.mpr (Qq.mpr ⟨km _ λz=>?_,R⟩),by rw[<-e]⟩);have R:q.2.2∈Fe now (t i q.2.1):=R;rw[z]at R;cases now<;>cases R
        . rw[CA,A0];(first|lia|omega)
    . intro σ H2 hI;refine AB λJ=>?_;obtain⟨o3,o4,U,qs,B,rfl,ed2,s2,gr2,lg2,I,mk2,nd2,mm2,lq2⟩:=hI;refine J ?_;try clear J
      rw[Df (Al _)]at gr2 mm2;have inn:∀{i:Nat},i∈BH ss↔(.inl (i:Int):AL)∈F.map (·.1):=λ{i}=>by
        constructor
        . intro G;obtain⟨_,_,v,_⟩:=gr.xf i G;exact BO.mpr ⟨_,Hq v,rfl⟩
        . intro h;obtain⟨p,hp,e⟩:=BO.mp h;obtain⟨j,hj,rfl⟩:=gks.ajd p hp;have:(j:Int)=(i:Int):=FI e;have:j=i:=by(first|lia|omega)
          rw[<-this];exact hj
      refine⟨o,_,ed2,z2 _ _ ?_⟩;have ne3:∀b,b≠Z->(AN H2 Z (.dK F)) b=H2 b:=λb L=>Ac L;have O:=(gr2.acy (.inl Ab) ne3).aik (gg':=λi z=>E9 now (t i z)) λi G=>funext λz=>(yY (inn.mp G)).symm;have et3:(AN H2 Z (.dK F)) C=AA (.lst U):=by rw[ne3 _ ndt];exact I
      have tp3:Bp H2 (AN H2 Z (.dK F)):=λb xs e=>by rw[ne3 b λz=>by rw[z,ed2]at e;cases e];exact e
      have X:=Jo mk2 tp3;have s3:Dg (λb=>b=C\/∃i∈BH ss,b=(N i).d) H0 (AN H2 Z (.dK F)):=λb ob L e=>by
        by_cases q:b=Z
        . rw[q,eg0]at e;cases e;rw[q];exact Ab
        . rw[ne3 b q];exact s2 b ob L (by rw[ne1 b q];exact e)
      generalize AN H2 Z (.dK F)=H3 at ne3 O et3 X s3⊢;refine AB λJ=>?_;obtain⟨ds,ed,sn⟩:=Zt (K:=K) X nd2;refine J ?_;try clear J
      refine⟨C,U,ds,_,rfl,Ai et3,sn,λl qq hl pq sq=>?_⟩;rw[ed]at pq;refine AB λJ=>?_;obtain⟨R',p1,w1,e1⟩:=cQ X pq;refine J ?_;try clear J
      have s4:=Be (o:=.lst (qq.map (·.1))) hl;have hlH:H l=AF:=by cases q:H l with |none=>rfl|some ob=>
          have q0:=s0 _ _ q;by_cases z:l=C\/∃i∈BH ss,l=(N i).d
          . rcases z with z|⟨i,G,z⟩;.rw[z,et3]at hl;cases hl
            . obtain⟨_,_,_,g⟩:=O.xf i G;have:=g.ba.ao;rw[<-z,hl]at this;cases this
          . rw[s3 l ob z q0]at hl;cases hl
      have lr:=p1.length_eq;refine k _ l _ R' B (λb ob L e=>s4 _ _ (s3 b ob (λz=>z.elim (λz=>by rw[z,htl]at e;cases e) L) (s0 _ _ e))) (O.vi.bc s4) lg2 hlH Ab (Jo w1 s4.tp) ((p1.map CS).nodup_iff.mpr nd2) (by show List.Pairwise _ _;rw[e1];exact sq) (λq=>?_) (by(first|lia|omega));rw[p1.mem_iff,mm2,<-inn]
structure GJ where
 x:AD
 lp:AD
 ps:List AE
 ck:AD
 dj:AD
 afo:List (AL×AE)jd:Nat->D4
 dg:AD
 aee:List (AL×AE)gd:Nat->GL
noncomputable abbrev Iw(F:GJ)(D:Int):List (AG×AE):=[("plan",.ref F.lp),("clock",.ref F.ck),("joins",.ref F.dj),("groups",.ref F.dg),("number",.int D)]
section
variable{ad:CW}
structure GK(ad:CW)(H:AI)(ss:List AV)(F:GJ)(sl now cnt num:Int)(sd:Nat->List AU×List AU)(gg:Nat->AG->List Aa)(gk:Nat->List (AL×AE)):Prop where
 cn:∃dx,H F.x=AA (.ins ad.aj dx (Iw F num))adj:H F.lp=AA (.lst F.ps)aaj:EL H F.ps ss
 rg:∃dx,H F.ck=AA (.ins ad.av dx (E6 sl now cnt))aaf:H F.dj=AA (.dK F.afo)ajt:Iq ss ss.length F.jd F.afo
 mi:Co ad [] H ss F.dj F.afo F.jd sd
 aad:H F.dg=AA (.dK F.aee)afm:F.aee.length<=8
 ajs:Kd (BH ss) F.gd F.aee
 gu:DS ad [] H ss (BH ss) F.dg F.aee F.gd gg gk
 agj:∀i∈BH ss,¬De ss F.jd (F.gd i).d/\F.dj≠(F.gd i).d
 xu:¬De ss F.jd F.dg
end
section
variable{ad:CW}
structure Ji(ad:CW)(H:AI)(ss:List AV)(F:GJ)(sl now cnt num:Int)(sd:Nat->List AU×List AU)(gk:Nat->List (AL×AE))(L:AG->List AU):Prop where
 ah:GK ad H ss F sl now cnt num sd (IL ss now L) gk
 alj:∀i∈BH ss,(gk i).length<=(L (E8 ss i)).length
 cq:∀(i:Nat)n a b wi,ss[i]?=AA (.join n a b wi)->(sd i).1.Perm (Bz (now-wi) (L a))/\(sd i).2.Perm (Bz (now-wi) (L b))
end
noncomputable def Iy(ss:List AV)(F:GJ)(b:AD):Prop:=b=F.x\/b=F.ck\/Ld ss F.jd F.gd b
theorem cM(ss:List AV)(now:Int)(i:Nat):IL ss now (λ_=>[]) i=λ_=>[]:=by show Ju ss now _ i=_;unfold Ju;split<;>rfl
theorem Gz{F:List (AG×AE)}(s:Bs x H H')(Y:H x=AA (.ins C W F))(e:H b=AA o)(n:∀U D J,o=.ins U D J->F.map (·.1)≠J.map (·.1)):H' b=AA o:=s _ _ (λz=>by rw[z,Y]at e;exact n _ _ _ (CM e).symm rfl) e
theorem Co.cn{J:List (AG×AE)}{K:AD}(h:Co B ex H ss K F O sd)(s:Bs x H H')(U:H x=AA (.ins C L J))(X:J.map (·.1)≠(["within","sides"]:List AG))(c:J.map (·.1)≠(["rows"]:List AG)):Co B ex H' ss K F O sd:=by
  have W:∀{b:AD}{o:Bh},H b=AA o->(∀Z D I,o≠.ins Z D I)->H' b=AA o:=λe n=>Gz s U e λZ D I z=>absurd z (n _ _ _);have k:Bp H H':=λb l e=>W e (by intro _ _ _ z;cases z);have Q:∀{Y E:AD}{A:List AU},DE B ex H Y E A->DE B ex H' Y E A:=λ{Y E A}r=>by
    obtain⟨D,e⟩:=r.cn;have f:Y≠x:=λz=>by rw[z,U]at e;have:=CM e;injection this with _ _ q;exact c (by rw[q];rfl)
    exact r.ab (λC L J e=>s _ _ f e) (λT e=>W e (by intro _ _ _ z;cases z)) (λb l _ e=>W e (by intro _ _ _ z;cases z)) k
  refine⟨Iz h.ao λo e=>Gz s U e λZ D I z=>?_,λi n a b R M=>⟨(h.gv i n a b R M).1,?_⟩,h.cc,h.abj⟩;.rcases h.ao with N|⟨m,N⟩<;>(rw[N]at e;rw[<-CM e]at z;cases z)
  . refine AB λP=>?_;obtain⟨⟨D,G⟩,S,j,r1,g,d⟩:=(h.gv i n a b R M).2;refine P ?_;try clear P
    refine⟨⟨D,s _ _ (λz=>?_) G⟩,W S (by intro _ _ _ z;cases z),Q j,Q r1,g,d⟩;rw[z,U]at G;have:=CM G;injection this with _ _ q;exact X (by rw[q];rfl)
theorem DS.cn{B:List (AG×AE)}(h:DS O ex H ss N A F E G I)(s:Bs x H H')(Y:H x=AA (.ins C P B))(S:B.map (·.1)≠(["step","rows"]:List AG)):DS O ex H' ss N A F E G I:=by
  have Z:∀{b:AD}{o:Bh},H b=AA o->(∀J D W,o≠.ins J D W)->H' b=AA o:=λe n=>Gz s Y e λJ D W z=>absurd z (n _ _ _);have M:Bp H H':=λb X e=>Z e (by intro _ _ _ z;cases z);refine⟨Iz h.ao λo e=>Gz s Y e λJ D W z=>?_,λi R=>?_,h.cc,h.xu⟩;.rcases h.ao with K|⟨a,K⟩<;>(rw[K]at e;rw[<-CM e]at z;cases z)
  . refine AB λL=>?_;obtain⟨T,e,v,⟨D,U⟩,Q,r⟩:=h.xf i R;refine L ?_;try clear L
    refine⟨T,e,v,⟨D,s _ _ (λz=>?_) U⟩,Q.tp M,r.ab (Z r.ao (by intro _ _ _ z;cases z)) (λb X _ e=>Z e (by intro _ _ _ z;cases z)) M⟩;rw[z,Y]at U;have:=CM U;injection this with _ _ q;exact S (by rw[q];rfl)
noncomputable def dG(Z:CW):BF:=λB H Q _=>PC (λ(x q Y:AD)(U:List AE)(J:List AV)(D:Int)=>B=[.ref x,.ref Y,.int D]) (λx q _ _ _ _=>H x=AA (.ins Z.aj q [])) (λ_ _ Y U _ _=>H Y=AA (.lst U)) (λ_ _ _ U J _=>EL H U J) (λ_ _ _ _ J _=>J.length<=8) (λ_ _ _ _ _ D=>0<=D) (λ_ _ _ _ _ D=>D<=1000000000) (λx _ _ _ J D=>∀W F A z,F.x=x->Bs x H W->Ji Z W J F D 0 0 0 A z (λ_=>[])->(∀b,Iy J F b->b=x\/H b=AF)->Q .non W)
theorem aN{K:Ar}{D:CW}(T:Ba K mg D):A8 P w K mg base BM 6 D.da D.gm ["self","plan","slack"] (dG D):=by
  have F:=aC (P:=P) (w:=w) (base:=base) T;have W:=fU.mk (aX (P:=P) (w:=w) (base:=base) T) T.aei T.ya.kp T.adz;have U:=fU.mk (aR (P:=P) (w:=w) (base:=base) T) T.ada T.wk.kp T.acr;refine T.xj.ok UZ (λvs H Q E h=>?_) (λcdv A outer s H vs Q E hr h=>?_)
  . refine AB λnG=>?_;obtain⟨x,J,lp,ps,ss,m,rfl,_⟩:=h;refine nG ?_;try clear nG
    rfl
  . refine AB λnG=>?_;obtain⟨x,J,lp,ps,ss,m,rfl,y,q,pr,lss,s0,s1,k⟩:=h;refine nG ?_;try clear nG
    have nd:=UZ.nd;refine⟨_,(Af (FW (AO 0) (Ia (Nu (K:=K)) (by rfl) T.qr LD (AJ (AO 1) AW)) rfl) (Af (FW (AO 0) (OD T.ahi F (hr.bb (by decide)) (by rfl) T.ahg T.vw .nil Bk (AJ (AO 2) AW)) rfl) (Af (FW (AO 0) (Ck W hr (AJ (AO 1) AW)) rfl) (Af (FW (AO 0) (Ck U hr (AJ (AO 1) AW)) rfl) (Ak (FW (AO 0) AR rfl)))))),?_⟩;have sz:Aw=16777216:=DN;have nlx:lp≠x:=λz=>by rw[z,y]at q;cases q
    refine⟨lp,ps,rfl,.inl (Ai q),λl hl=>?_⟩;refine B0 hl λM g1 el=>?_;have ex1:=g1 _ _ y;have nl:l≠x:=λz=>by rw[z,ex1]at el;cases el
    refine⟨x,_,J,[],rfl,ex1,T.bu,T.xh,by decide,?_⟩;have x2:Bs x M (AN M x (.ins D.aj J [("plan",.ref l)])):=λb o V e=>by rw[Ac V];exact e
    have S:(AN M x (.ins D.aj J [("plan",.ref l)])) x=AA (.ins D.aj J [("plan",.ref l)]):=Ab;have X:∀b,(AN M x (.ins D.aj J [("plan",.ref l)])) b=AF->M b=AF:=λb e=>HU e;show OJ _ _ _ _ (AN M x (.ins D.aj J [("plan",.ref l)]));generalize AN M x (.ins D.aj J [("plan",.ref l)])=H2 at x2 S X⊢;refineλc Z hc hdc hcn=>⟨c,Z,m,rfl,Ab,s0,s1,rfl,?_⟩;have g3:Ap H2 (AN (AN (AN H2 Z (.own c)) c (.ins D.av Z [])) c (.ins D.av Z (E6 m 0 0))):=λb o e=>by rw[Ac (BS e hc),Ac (BS e hc),Ac (BS e hdc)];exact e
    have u:(AN (AN (AN H2 Z (.own c)) c (.ins D.av Z [])) c (.ins D.av Z (E6 m 0 0))) c=AA (.ins D.av Z (E6 m 0 0)):=Ab;generalize AN (AN (AN H2 Z (.own c)) c (.ins D.av Z [])) c (.ins D.av Z (E6 m 0 0))=N at g3 u⊢;have ncx:c≠x:=λz=>by rw[z,S]at hc;cases hc
    refine⟨x,_,J,[("plan",.ref l)],rfl,g3 _ _ S,T.bu,T.ie,(by show 1<1000;decide),?_⟩;have x4:Bs x N (AN N x (.ins D.aj J [("plan",.ref l),("clock",.ref c)])):=λb o V e=>by rw[Ac V];exact e
    have B:(AN N x (.ins D.aj J [("plan",.ref l),("clock",.ref c)])) x=AA (.ins D.aj J [("plan",.ref l),("clock",.ref c)]):=Ab;have fr4:∀b,(AN N x (.ins D.aj J [("plan",.ref l),("clock",.ref c)])) b=AF->N b=AF:=λb e=>HU e;show OJ _ _ _ _ (AN N x (.ins D.aj J [("plan",.ref l),("clock",.ref c)]));generalize AN N x (.ins D.aj J [("plan",.ref l),("clock",.ref c)])=H4 at x4 B fr4⊢;have G:Bs x H H4:=λb o V e=>x4 _ _ V (g3 _ _ (x2 _ _ V (g1 _ _ e)));have tp04:Bp H H4:=λb xs e=>G _ _ (λz=>by rw[z,y]at e;cases e) e;have I:∀b,H4 b=AF->H b=AF:=λb e=>g1.bh (X b (g3.bh (fr4 b e)));refine⟨lp,ps,ss,rfl,G _ _ nlx q,pr.ab tp04,by(first|lia|omega),λO Y L jd f hdj ej jks jr fj=>?_⟩;refine⟨x,_,J,[("plan",.ref l),("clock",.ref c)],rfl,f _ _ B,T.bu,T.ng,(by show 2<1000;decide),?_⟩;have x6:Bs x O (AN O x (.ins D.aj J [("plan",.ref l),("clock",.ref c),("joins",.ref Y)])):=λb o V e=>by rw[Ac V];exact e
    have C:(AN O x (.ins D.aj J [("plan",.ref l),("clock",.ref c),("joins",.ref Y)])) x=AA (.ins D.aj J [("plan",.ref l),("clock",.ref c),("joins",.ref Y)]):=Ab;have fr6:∀b,(AN O x (.ins D.aj J [("plan",.ref l),("clock",.ref c),("joins",.ref Y)])) b=AF->O b=AF:=λb e=>HU e;show OJ _ _ _ _ (AN O x (.ins D.aj J [("plan",.ref l),("clock",.ref c),("joins",.ref Y)]));generalize AN O x (.ins D.aj J [("plan",.ref l),("clock",.ref c),("joins",.ref Y)])=p at x6 C fr6⊢;have f2:((["plan","clock"]:List AG)≠(["within","sides"]:List AG)/\(["plan","clock"]:List AG)≠(["rows"]:List AG))/\(["plan","clock","joins"]:List AG)≠(["within","sides"]:List AG)/\(["plan","clock","joins"]:List AG)≠(["rows"]:List AG)/\(["plan","clock","joins"]:List AG)≠(["step","rows"]:List AG):=by decide+kernel
    have jr6:=jr.cn x6 (f _ _ B) f2.1.1 f2.1.2;have x06:Bs x H p:=λb o V e=>x6 _ _ V (f _ _ (G _ _ V e));have tp06:Bp H p:=λb xs e=>x06 _ _ (λz=>by rw[z,y]at e;cases e) e;have fr06:∀b,p b=AF->H b=AF:=λb e=>I b (f.bh (fr6 b e));refine⟨lp,ps,ss,rfl,x06 _ _ nlx q,pr.ab tp06,by(first|lia|omega),λr R gkvs gd g hdg eg lkg gks gr fg=>?_⟩;refine⟨x,_,J,[("plan",.ref l),("clock",.ref c),("joins",.ref Y)],rfl,g _ _ C,T.bu,T.md,(by show 3<1000;decide),?_⟩;refine⟨x,_,J,[("plan",.ref l),("clock",.ref c),("joins",.ref Y),("groups",.ref R)],rfl,Ab,T.bu,T.ft,(by show 4<1000;decide),?_⟩;rw[OL];have x8:Bs x r (AN r x (.ins D.aj J [("plan",.ref l),("clock",.ref c),("joins",.ref Y),("groups",.ref R),("number",.int 0)])):=λb o V e=>by rw[Ac V];exact e
    have ex7:=g _ _ C;have jr8:=(jr6.bc g).cn x8 ex7 f2.2.1 f2.2.2.1;have gr8:=gr.cn x8 ex7 f2.2.2.2;have d:Bs x H4 (AN r x (.ins D.aj J [("plan",.ref l),("clock",.ref c),("joins",.ref Y),("groups",.ref R),("number",.int 0)])):=λb o V e=>x8 _ _ V (g _ _ (x6 _ _ V (f _ _ e)));have x08:Bs x H (AN r x (.ins D.aj J [("plan",.ref l),("clock",.ref c),("joins",.ref Y),("groups",.ref R),("number",.int 0)])):=λb o V e=>d _ _ V (G _ _ V e);have tp08:Bp H (AN r x (.ins D.aj J [("plan",.ref l),("clock",.ref c),("joins",.ref Y),("groups",.ref R),("number",.int 0)])):=λb xs e=>x08 _ _ (λz=>by rw[z,y]at e;cases e) e;have njx:Y≠x:=λz=>by rw[z,f _ _ B]at ej;cases ej
    have ngx:R≠x:=λz=>by rw[z,g _ _ C]at eg;cases eg
    have t:∀b,De ss jd b->∃kvs,p b=AA (.dK kvs):=λb hb=>jr6.ado hb;have v:p Y=AA (.dK L):=x6 _ _ njx ej;refine k _ ⟨x,l,ps,c,Y,L,jd,R,gkvs,gd⟩ (λ_=>([],[])) (λ_=>[]) rfl x08 ⟨⟨⟨J,Ab⟩,d _ _ nl (x4 _ _ nl (g3 _ _ (x2 _ _ nl el))),pr.ab tp08,⟨Z,d _ _ ncx (x4 _ _ ncx u)⟩,x8 _ _ njx (g _ _ v),jks,jr8,x8 _ _ ngx eg,CL lkg lss,gks,gr8.aik λi j=>cM ss 0 i,λi j=>⟨λz=>?_,BS v (fg i j)⟩,λz=>?_⟩,λi j=>Al _,λi n a b wi _=>⟨.nil,.nil⟩⟩ λb hb=>?_
    . obtain⟨kv,e⟩:=t _ z;rw[fg i j]at e;cases e
    . obtain⟨kv,e⟩:=t _ z;rw[hdg]at e;cases e
    . rcases hb with rfl|rfl|hb|⟨i,j,rfl⟩;.exact .inl rfl
      .exact .inr (g1.bh (X _ hc))
      .exact .inr (I _ (fj _ hb))
      .exact .inr (fr06 _ (fg i j))
noncomputable def IG(ss:List AV)(H:AI)(x:AE)(q:Ce):Prop:=∃(a:AD)(s:AV),ss[q.1]?=AA s/\x=.ref a/\H a=AA (.tup ((I0 s q.2.1 q.2.2).map Ax))
theorem IJ(h:BP (IG ss H) xs D)(t:Bp H H'):BP (IG ss H') xs D:=GY (λ_ _ U=>by obtain⟨a,s,F,e,J⟩:=U;exact⟨a,s,F,e,t _ _ J⟩) h
theorem Z2(h:BP (Ir ss H) xs F):∃ys:List AE,BP (λx y=>∃a z u2 u3 A,x=.ref a/\H a=AA (.tup [z,u2,u3,A,y])) xs ys/\BP (IG ss H) ys F:=by induction h with|nil=>exact⟨[],.nil,.nil⟩|cons h _ Y=>
 refine AB λD=>?_;obtain⟨ys,Z,q⟩:=Y;obtain⟨a,r,s,J,e,U,W⟩:=h;refine D ?_;try clear D
 exact⟨.ref r::ys,.cons ⟨a,_,_,_,_,e,U⟩ Z,.cons ⟨r,s,J,rfl,W⟩ q⟩
noncomputable def eX(I:CW):BF:=λL H Q _=>Sf (λ(D:List AV)(F:GJ)(G U J W:Int)(E:Nat->List AU×List AU)(Y:Nat->AG->List Aa)(Z:Nat->List (AL×AE))(m:Option Int)=>L=[.ref F.x,Kg m]) (λD F G U J W E Y Z _=>GK I H D F G U J W E Y Z) (λD _ _ _ _ _ _ _ _ _=>Dc D) (λD _ _ _ _ _ _ _ _ _=>D.length<=8) (λD _ _ _ _ _ _ _ Z _=>(∀i∈BH D,(Z i).length<=600)) (λD _ _ _ _ _ _ Y _ _=>(∀i∈BH D,∀z,EM (Y i z)/\(Y i z).length<=3000)) (λD F G U J W E Y Z m=>∀B r K A C,(∀b o,¬Iy D F b->H b=AA o->B b=AA o)->GK I B D F G U J (W+(A.length:Int)) E (λi z=>E9 m (Y i z)) C->(∀i∈BH D,(C i).length<=(Z i).length)->H r=AF->B r=AA (.lst K)->BP (IG D B) K A->(A.map CS).Nodup->DP (A.map CS)->(∀q:Ce,q∈A↔q.1∈BH D/\q.2.2∈Fe m (Y q.1 q.2.1))->A.length<=14400000->Q (.ref r) B)
theorem UI{K:Ar}{O:CW}(T:Ba K mg O):A8 P w K mg base BM 6 O.iq O.iz ["self","now"] (eX O):=by
  have Z:=fU.mk (aE (P:=P) (w:=w) (base:=base) T) T.agx T.aca.kp T.agl;have Y:=fU.mk (bN (P:=P) (w:=w) (base:=base) T) T.afu T.aab.kp T.afh;refine T.xv.ok Uc (λvs H Q E h=>?_) (λcdv A outer s H vs Q E hr h=>?_)
  . refine AB λM=>?_;obtain⟨j,F,sl,now,cnt,W,sd,gg,gk,m,rfl,_⟩:=h;refine M ?_;try clear M
    rfl
  . refine AB λM=>?_;obtain⟨j,F,sl,now,cnt,W,sd,gg,gk,m,rfl,U,pok,lss,lgk,lgg,k⟩:=h;refine M ?_;try clear M
    have y:=Uc.nd;refine⟨_,(Af (Cr 2 y (Ck Y hr (AJ (Ck Z hr (AJ (Cq (AO 0) rfl) (AJ (AO 1) AW))) AW))) (Af (FW (AO 0) (AX FT (Cq (AO 0) rfl) (DQ (Ks (K:=K)) (by rfl) T.gy GB (AJ (AO 2) AW))) rfl) (Ak (BE (AO 2))))),?_⟩;have sz:Aw=16777216:=DN;obtain⟨L,ex⟩:=U.cn;refine⟨F.x,_,L,_,_,rfl,ex,T.bu,T.md,rfl,?_⟩;refine⟨F.dg,j,F.aee,F.gd,gg,gk,m,rfl,U.aad,pok,lss,U.afm,U.ajs,U.gu,lgk,lgg,λH1 r xs qs gk' s1 a lg1 hr1 er1 f nd1 sd1 mm1 lq1=>?_⟩;refine AB λM=>?_;obtain⟨N,p1,p2⟩:=Z2 f;refine M ?_;try clear M
    have lx:=(CZ f).1;have lys:=(CZ p2).1;refine⟨r,xs,N,rfl,er1,by(first|lia|omega),p1,λr2 I=>?_⟩;refine B0 I λS R G=>?_;have c:∀b,(∃i∈BH j,b=(F.gd i).d)->∃D,H b=AA (.dK D):=λb⟨i,B,z⟩=>by obtain⟨_,_,_,g⟩:=U.gu.xf i B;exact⟨_,by rw[z];exact g.ba.ao⟩
    have v:∀{b:AD}{o:Bh},H b=AA o->(∀D,o≠.dK D)->S b=AA o:=λ{b o}e n=>R _ _ (s1 _ _ (λz=>by obtain⟨D,e'⟩:=c _ z;rw[e]at e';exact n _ (CM e')) e);have J:=v ex (by intro D z;cases z);refine⟨F.x,_,L,_,_,rfl,J,T.bu,T.ft,rfl,_,.inl (Ai G),F.x,_,L,_,rfl,J,T.bu,T.ft,(by show 5<1000;decide),?_⟩;have C:Bs F.x S (AN S F.x (.ins O.aj L (Iw F (W+(N.length:Int))))):=λb o x e=>by rw[Ac x];exact e
    have epf:E2 "number" (.int (W+(N.length:Int))) (Iw F W)=Iw F (W+(N.length:Int)):=by
      have d:("plan":AG)≠"number"/\("clock":AG)≠"number"/\("joins":AG)≠"number"/\("groups":AG)≠"number":=by decide+kernel
      rfl
    rw[epf];have X:(AN S F.x (.ins O.aj L (Iw F (W+(N.length:Int))))) F.x=AA (.ins O.aj L (Iw F (W+(N.length:Int)))):=Ab;generalize AN S F.x (.ins O.aj L (Iw F (W+(N.length:Int))))=t at C X⊢;have u:((["plan","clock","joins","groups","number"]:List AG)≠(["within","sides"]:List AG)/\(["plan","clock","joins","groups","number"]:List AG)≠(["rows"]:List AG))/\(["plan","clock","joins","groups","number"]:List AG)≠(["step","rows"]:List AG)/\(["plan","clock","joins","groups","number"]:List AG)≠(["slack","now","count"]:List AG):=by decide+kernel
    have jr3:=((U.mi.gc s1 (λb hb=>.inr (c b hb)) (λb⟨i,B,z⟩=>by rw[z];exact(U.agj i B).1) λ⟨i,B,z⟩=>(U.agj i B).2 z).bc R).cn C J u.1.1 u.1.2;have gr3:=(a.bc R).cn C J u.2.1;have l:Bp H t:=λb xs e=>Gz C J (v e (by intro D z;cases z)) λ_ _ _ z=>by cases z
    have p:Bp H1 t:=λb xs e=>Gz C J (R _ _ e) λ_ _ _ z=>by cases z
    obtain⟨dc,ec⟩:=U.rg;have y:∀{b:AD}{D:List (AL×AE)},H b=AA (.dK D)->(¬∃i∈BH j,b=(F.gd i).d)->t b=AA (.dK D):=λ{b D}e n=>Gz C J (R _ _ (s1 _ _ n e)) λ_ _ _ z=>by cases z
    have r2x:r2≠F.x:=λz=>by rw[z,J]at G;cases G
    refine k t r2 N qs gk' (λb o x e=>?_) ?_ lg1 ?_ (C _ _ r2x G) (IJ p2 p) nd1 sd1 mm1 lq1;.exact C _ _ (λz=>x (.inl z)) (R _ _ (s1 _ _ (λz=>x (.inr (.inr (.inr z)))) e))
    . rw[<-lys];refine⟨⟨L,X⟩,Gz C J (v U.adj (by intro D z;cases z)) (λ_ _ _ z=>by cases z),U.aaj.ab l,⟨dc,Gz C J (v ec (by intro D z;cases z)) λ_ _ gs z=>?_⟩,y U.aaf λ⟨i,B,z⟩=>(U.agj i B).2 z,U.ajt,jr3,y U.aad λ⟨i,B,z⟩=>U.gu.xu i B z,U.afm,U.ajs,gr3,U.agj,U.xu⟩;injection z with _ _ z;rw[<-z];exact u.2.2
    .cases q:H r2 with |none=>rfl|some o=>
        by_cases z:∃i∈BH j,r2=(F.gd i).d
        . obtain⟨i,B,z⟩:=z;obtain⟨_,_,_,g⟩:=a.xf i B;have:=g.ba.ao;rw[<-z,I]at this;cases this
        . rw[s1 _ _ z q]at I;cases I
theorem NL:((["plan","clock","joins","groups","number"]:List AG)≠(["slack","now","count"]:List AG))/\(["slack","now","count"]:List AG)≠(["within","sides"]:List AG)/\(["slack","now","count"]:List AG)≠(["rows"]:List AG)/\(["slack","now","count"]:List AG)≠(["step","rows"]:List AG):=by decide+kernel
theorem GK.alx{E:CW}{F:GJ}{K:Nat->List (AL×AE)}(h:GK E H ss F B now q W sd I K)(s:Bs F.ck H H')(e:H' F.ck=AA (.ins E.av G (E6 B J D))):GK E H' ss F B J D W sd I K:=by
 refine AB λL=>?_;obtain⟨N,O⟩:=h.cn;obtain⟨M,Y⟩:=h.rg;refine L ?_;try clear L
 have Z:∀{b:AD}{o:Bh},H b=AA o->(∀C U A,o≠.ins C U A)->H' b=AA o:=λe n=>Gz s Y e λC U A z=>absurd z (n _ _ _);refine⟨⟨N,Gz s Y O λ_ _ A z=>?_⟩,Z h.adj (by intro _ _ _ z;cases z),h.aaj.ab λb P e=>Z e (by intro _ _ _ z;cases z),⟨G,e⟩,Z h.aaf (by intro _ _ _ z;cases z),h.ajt,h.mi.cn s Y NL.2.1 NL.2.2.1,Z h.aad (by intro _ _ _ z;cases z),h.afm,h.ajs,h.gu.cn s Y NL.2.2.2,h.agj,h.xu⟩;injection z with _ _ z;rw[<-z];exact Hv NL.1
theorem GK.aku{F:GJ}(h:GK A H ss F I now U Y sd O P)(s:Dg (Ld ss F.jd F.gd) H H')(R:Co A [] H' ss F.dj F.afo F.jd Z)(Q:DS A [] H' ss (BH ss) F.dg F.aee F.gd gg' W):GK A H' ss F I now U Y Z gg' W:=by
 have C:∀b,Ld ss F.jd F.gd b->∃D,H b=AA (.dK D):=λb B=>by
  rcases B with B|⟨i,J,z⟩;.exact h.mi.ado B
  . obtain⟨_,_,_,g⟩:=h.gu.xf i J;exact⟨_,by rw[z];exact g.ba.ao⟩
 have q:∀{b:AD}{o:Bh},H b=AA o->(∀D,o≠.dK D)->H' b=AA o:=λ{b o}e n=>s _ _ (λz=>by obtain⟨D,E⟩:=C _ z;rw[e]at E;exact n _ (CM E)) e;refine AB λG=>?_;obtain⟨L,N⟩:=h.cn;obtain⟨K,M⟩:=h.rg;refine G ?_;try clear G
 exact⟨⟨L,q N (by intro D z;cases z)⟩,q h.adj (by intro D z;cases z),h.aaj.ab λb S e=>q e (by intro D z;cases z),⟨K,q M (by intro D z;cases z)⟩,s _ _ (λz=>z.elim (λ⟨i,J,z⟩=>z.elim (h.mi.abj i J).1 (h.mi.abj i J).2) λ⟨i,J,z⟩=>(h.agj i J).2 z) h.aaf,h.ajt,R,s _ _ (λz=>z.elim h.xu λ⟨i,J,z⟩=>h.gu.xu i J z) h.aad,h.afm,h.ajs,Q,h.agj,h.xu⟩
theorem cP(h:a<=b)(l:List AU):Bz b (Bz a l)=Bz b l:=by
 unfold Bz;rw[OP];refine MT λi _=>?_;by_cases q:b<=i.1
 . rw[y3 q,y3 (by(first|lia|omega):a<=i.1)];rfl
 . rw[y4 q];rfl
theorem bZ(h:a<=b)(l:List Aa):FO b (FO a l)=FO b l:=by
 unfold FO;rw[OP];refine MT λi _=>?_;show(Ae (b<i.2.1)&&Ae (a<i.2.1))=Ae (b<i.2.1);by_cases q:b<i.2.1
 . rw[y3 q,y3 (by(first|lia|omega):a<i.2.1)];rfl
 . rw[y4 q];rfl
theorem UA:n<=GR n s t:=by
 unfold GR GQ;split;.exact ZQ _
 .split<;>(first|lia|omega)
noncomputable def dI(C:CW):BF:=λL H Q _=>PJ (λ(D:List AV)(F:GJ)(G A Z J:Int)(E:Nat->List AU×List AU)(U:Nat->AG->List Aa)(B:Nat->List (AL×AE))=>L=[.ref F.x]) (λD F G A Z J E U B=>GK C H D F G A Z J E U B) (λD _ _ _ _ _ _ _ _=>Dc D) (λD _ _ _ _ _ _ _ _=>D.length<=8) (λD _ _ _ _ _ _ _ B=>(∀i∈BH D,(B i).length<=600)) (λD _ _ _ _ _ _ U _=>(∀i∈BH D,∀z,EM (U i z)/\(U i z).length<=3000)) (λD F _ _ _ J _ U _=>∀Y r I W,(∀b o,¬Iy D F b->H b=AA o->Y b=AA o)->(∃K,Y F.x=AA (.ins C.aj K (Iw F (J+(W.length:Int)))))->H r=AF->Y r=AA (.lst I)->BP (IG D Y) I W->(W.map CS).Nodup->DP (W.map CS)->(∀q:Ce,q∈W↔q.1∈BH D/\q.2.2∈U q.1 q.2.1)->W.length<=14400000->Q (.ref r) Y)
theorem aM{K:Ar}{Z:CW}(T:Ba K i Z):A8 P w K i base BM 7 Z.jm Z.jz ["self"] (dI Z):=by
  have D:=UI (P:=P) (w:=w) (base:=base) T;refine T.zg.ok Ub (λn H Q E h=>?_) (λb A I s H n Q E z h=>?_)
  . refine AB λU=>?_;obtain⟨X,F,S,V,J,W,Y,N,O,rfl,_⟩:=h;refine U ?_;try clear U
    rfl
  . refine AB λU=>?_;obtain⟨X,F,S,V,J,W,Y,N,O,rfl,M,L,G,C,B,k⟩:=h;refine U ?_;try clear U
    have R:=Ub.nd;refine⟨_,(Ak (BE (Gp (AO 0) T.bu T.nj D (z.bb (by decide)) T.oq .nil Bk (AJ MK AW)))),?_⟩;obtain⟨c,e⟩:=M.cn;exact⟨F.x,c,_,rfl,e,by rfl,X,F,S,V,J,W,Y,N,O,AF,rfl,M,L,G,C,B,λa r o m f s1 q _ z d l R Y j g=>k a r o m s1 q.cn z d l R Y j g⟩
theorem GK.bc(h:GK q H ss F Z now D J sd U W)(s:Ap H H'):GK q H' ss F Z now D J sd U W:=by
 refine AB λY=>?_;obtain⟨A,C⟩:=h.cn;obtain⟨z,B⟩:=h.rg;refine Y ?_;try clear Y
 exact⟨⟨A,s _ _ C⟩,s _ _ h.adj,h.aaj.ab s.tp,⟨z,s _ _ B⟩,s _ _ h.aaf,h.ajt,h.mi.bc s,s _ _ h.aad,h.afm,h.ajs,h.gu.bc s,h.agj,h.xu⟩
theorem GK.aik(h:GK Z H ss F Y now D J sd U W)(e:∀i∈BH ss,gg' i=U i):GK Z H ss F Y now D J sd gg' W:=⟨h.cn,h.adj,h.aaj,h.rg,h.aaf,h.ajt,h.mi,h.aad,h.afm,h.ajs,h.gu.aik e,h.agj,h.xu⟩
noncomputable def dF(I:CW):BF:=λO H Q _=>Si (λ(J:List AV)(F:GJ)(C D W Y:Int)(M:Nat->List AU×List AU)(K:Nat->List (AL×AE))(L U:AG->List AU)(Z:List B7)(e:B7)(q:AD)=>O=[.ref F.x,.ref q]) (λJ F C D W Y M K L _ _ _ _=>Ji I H J F C D W Y M K L) (λJ _ _ _ _ _ _ _ _ _ _ _ _=>Dc J) (λJ _ _ _ _ _ _ _ _ _ _ _ _=>J.length<=8) (λ_ _ _ _ _ _ _ _ _ _ _ e q=>HM H q e) (λ_ _ _ D _ _ _ _ _ _ _ e _=>D<=e.1) (λJ _ _ _ _ _ _ _ L U Z e _=>(∀(i:Nat)s,J[i]?=AA s->s.bw=AQ->L s.nm=D5 s L Z/\U s.nm=D5 s U (Z++[e])/\(U s.nm).length<=600)) (λJ _ _ _ _ _ _ _ _ U _ _ _=>(∀(i:Nat)s,J[i]?=AA s->s.bw=AQ->∀x∈U s.nm,0<=x.1/\x.1<=1000000000)) (λJ F C D W Y _ _ L U _ e q=>∀z p r N A G E,(∀b o,¬Iy J F b->H b=AA o->z b=AA o)->Ji I z J F C (GR D C e.1) (W+1) (Y+(A.length:Int)) G E U->H p=AF->H r=AF->z p=AA (.tup [.bl AH,.ref r])->z r=AA (.lst N)->BP (IG J z) N A->(A.map CS).Nodup->DP (A.map CS)->(∀q:Ce,q∈A↔q.1∈BH J/\q.2.2∈EX (GR D C e.1) (IL J D U q.1 q.2.1))->A.length<=14400000->(∀i∈BH J,∃B,(U (E8 J i)).Perm (L (E8 J i)++B)/\∀x∈B,D<=x.1)->Q (.ref p) z)
theorem aK{K:Ar}{ad:CW}(T:Ba K mg ad):A8 P w K mg base BM 7 ad.nu ad.ow ["self","event"] (dF ad):=by
  have G_Clock_admit:=aA (P:=P) (w:=w) (base:=base) T;have G_put_event:=fU.mk (bL (P:=P) (w:=w) (base:=base) T) T.ade T.wo.kp T.acu;have G_drop_all:=fU.mk (aH (P:=P) (w:=w) (base:=base) T) T.aef T.xw.kp T.adw;have G_Flow_told_by:=UI (P:=P) (w:=w) (base:=base) T;refine T.abu.ok Ua (λvs H Q E h=>?_) (λcdv A outer s H vs Q E hr h=>?_)
  . refine AB λnG=>?_;obtain⟨ss,F,sl,now,cnt,num,sd,gk,L,L',evs,e,q,rfl,_⟩:=h;refine nG ?_;try clear nG
    rfl
  . refine AB λnG=>?_;obtain⟨ss,F,sl,now,cnt,num,sd,gk,L,L',evs,e,q,rfl,fr,pok,lss,ev,he,hL,tm,k⟩:=h;refine nG ?_;try clear nG
    have nd:=Ua.nd;refine⟨_,(Af (CT (OE (KH (Gp (Cq (AO 0) rfl) T.cj T.za G_Clock_admit (hr.bb (by decide)) T.zi .nil Bk (AJ (Bi K (AO 1) AR) AW)))) (Ak (BE (Cw (AJ KG (AJ (Dl AW) AW))))) C1) (Af (Fn (Ck G_put_event hr (AJ (Cq (AO 0) rfl) (AJ (Cq (AO 0) rfl) (AJ (Cq (AO 0) rfl) (AJ (AO 1) AW)))))) (Af (Fn (Ck G_drop_all hr (AJ (Cq (AO 0) rfl) (AJ (Cq (Cq (AO 0) rfl) rfl) AW)))) (Ak (BE (Cw (AJ KG (AJ (Gp (AO 0) T.bu T.nj G_Flow_told_by (hr.bb (by decide)) T.oq .nil Bk (AJ (Cq (Cq (AO 0) rfl) rfl) AW)) AW)))))))),?_⟩;have sz:Aw=16777216:=DN;refine AB λnG=>?_;obtain⟨dx,ex⟩:=fr.ah.cn;obtain⟨dc,ec⟩:=fr.ah.rg;refine nG ?_;try clear nG
    have nl:=UA (n:=now) (s:=sl) (t:=e.1);refine⟨F.x,_,dx,_,_,rfl,ex,T.bu,T.ie,rfl,F.ck,dc,_,rfl,ec,by rfl,_,_,As ev,Aq (j:=0) rfl,F.ck,dc,e.1,sl,now,cnt,rfl,ec,_,rfl,?_⟩;rw[y3 he];refine Hj ?_;generalize GR now sl e.1=nw at nl k⊢;have x1:Bs F.ck H (AN H F.ck (.ins ad.av dc (E6 sl nw (cnt+1)))):=λb o nb e=>by rw[Ac nb];exact e
    have fb1:=fr.ah.alx x1 Ab;have ev1:HM (AN H F.ck (.ins ad.av dc (E6 sl nw (cnt+1)))) q e:=x1 _ _ (λz=>by have ev:H q=_:=ev;rw[z,ec]at ev;cases ev) ev;have fr1:∀b,(AN H F.ck (.ins ad.av dc (E6 sl nw (cnt+1)))) b=AF->H b=AF:=λb e=>HU e;generalize AN H F.ck (.ins ad.av dc (E6 sl nw (cnt+1)))=H1 at x1 fb1 ev1 fr1⊢;obtain⟨dx1,ex1⟩:=fb1.cn;refine⟨F.x,_,dx1,_,_,rfl,ex1,T.bu,T.xh,rfl,F.x,_,dx1,_,_,rfl,ex1,T.bu,T.ng,rfl,F.x,_,dx1,_,_,rfl,ex1,T.bu,T.md,rfl,F.lp,F.dj,F.dg,q,F.ps,ss,F.afo,F.jd,sd,L,L',evs,e,now,F.aee,F.gd,gk,rfl,fb1.adj,fb1.aaj,pok,by(first|lia|omega),fb1.mi,ev1,hL,fr.cq,he,fb1.gu,fr.alj,tm,fb1.agj,fb1.xu,λH2 bt gk2 s2 jr2 gr2 lg2 br2=>?_⟩;have fb2:=fb1.aku s2 jr2 gr2;have ap:=PL pok he hL fr.cq br2 ss.length;refine AB λnG=>?_;obtain⟨dx2,ex2⟩:=fb2.cn;obtain⟨dc2,ec2⟩:=fb2.rg;refine nG ?_;try clear nG
    have fdp:∀{i:Nat}{n a b:AG}{wi:Int},ss[i]?=AA (.join n a b wi)->((L' a).Perm (L a++bt a)/\(L' a).length<=600)/\(L' b).Perm (L b++bt b)/\(L' b).length<=600:=λ{i n a b wi}ei=>by have hi:i<ss.length:=(BN.mp ei).1;obtain⟨i1,s1,l1,e1,rfl,t1⟩:=pok.va i _ a ei (.head _);obtain⟨i2,s2,l2,e2,rfl,t2⟩:=pok.va i _ b ei (.tail _ (.head _));exact⟨⟨ap i1 s1 (by(first|lia|omega)) e1 t1,(hL i1 s1 e1 t1).2.2⟩,ap i2 s2 (by(first|lia|omega)) e2 t2,(hL i2 s2 e2 t2).2.2⟩
    refine⟨F.x,_,dx2,_,_,rfl,ex2,T.bu,T.ng,rfl,F.x,_,dx2,_,_,rfl,ex2,T.bu,T.ie,rfl,F.ck,_,dc2,_,_,rfl,ec2,T.cj,T.di,rfl,F.dj,ss,F.afo,F.jd,EY ss sd ss.length bt,nw,rfl,fb2.aaf,fb2.ajt,fb2.mi,λi⟨n,a,b,wi,ei⟩=>?_,λH3 s3 jr3=>?_⟩
    . refine AB λnG=>?_;obtain⟨⟨pa,la⟩,pb,lb⟩:=fdp ei;obtain⟨qa,qb⟩:=fr.cq i n a b wi ei;refine nG ?_;try clear nG
      have h1:=NY (now-wi) (L a);have h2:=NY (now-wi) (L b);have h3:=pa.length_eq;have h4:=pb.length_eq;rw[CA]at h3 h4;rw[IK ei,yY (BN.mp ei).1];show((sd i).1++bt a).length<=1000/\((sd i).2++bt b).length<=1000;rw[CA,CA,qa.length_eq,qb.length_eq];(first|lia|omega)
    have fb3:=fb2.aku (λb o nb e=>s3 b o (λz=>nb (.inl z)) e) jr3 (gr2.gc s3 (λb hb=>.inr (fb2.mi.ado hb)) (λi hi=>(fb2.agj i hi).1) fb2.xu);refine AB λnG=>?_;obtain⟨dx3,ex3⟩:=fb3.cn;obtain⟨dc3,ec3⟩:=fb3.rg;refine nG ?_;try clear nG
    have tl:∀{i:Nat},i∈BH ss->∃s,ss[i]?=AA s/\s.fw/\(L' s.fd).length<=600/\∀x∈L' s.fd,0<=x.1/\x.1<=1000000000:=λ{i}hi=>by obtain⟨s,es,ht⟩:=FP.mp hi;obtain⟨tk,_,fd⟩:=pok.fw es ht;obtain⟨i',s',l,e',en,t'⟩:=pok.va i s s.fd es (by rw[fd];exact .head _);exact⟨s,es,tk,by rw[<-en];exact(hL i' s' e' t').2.2,by rw[<-en];exact tm i' s' e' t'⟩
    refine⟨F.x,dx3,_,rfl,ex3,by rfl,F.x,_,dx3,_,_,rfl,ex3,T.bu,T.ie,rfl,F.ck,_,dc3,_,_,rfl,ec3,T.cj,T.di,rfl,ss,F,sl,nw,cnt+1,num,_,_,gk2,AA nw,rfl,fb3,pok,lss,(λi hi=>?_),(λi hi z=>?_),λH4 r xs qs gk4 s4 fb4 lg4 hr4 er4 pr4 nd4 sd4 mm4 lq4=>?_⟩
    . refine AB λnG=>?_;obtain⟨s,es,_,l,_⟩:=tl hi;refine nG ?_;try clear nG
      have:=lg2 i hi;rw[Fd es]at this;(first|lia|omega)
    . refine AB λnG=>?_;obtain⟨s,es,tk,l,tms⟩:=tl hi;refine nG ?_;try clear nG
      rw[G0 es];have:=Qm (z:=z) (now:=now) tk tms;exact⟨O0 (Ql tk),by(first|lia|omega)⟩
    refine⟨Ey rfl,λp hp=>?_⟩;have s5:=Be (o:=.tup [.bl AH,.ref r]) hp;have fb5:=fb4.bc s5;have kk:∀b o,¬Iy ss F b->H b=AA o->H4 b=AA o:=λb o nb e=>s4 b o nb (s3 _ _ (λz=>nb (.inr (.inr (.inl z)))) (s2 _ _ (λz=>nb (.inr (.inr z))) (x1 _ _ (λz=>nb (.inr (.inl z))) e)));have thr:∀b,H3 b=AF->H b=AF:=λb e3=>by cases q0:H b with|none=>rfl|some o=>
        exfalso;by_cases z1:b=F.ck;.rw[z1,ec3]at e3;cases e3
        have q1:=x1 _ _ z1 q0;by_cases z2:Ld ss F.jd F.gd b
        . rcases z2 with z2|⟨i,hi,z2⟩
          . obtain⟨kv,e'⟩:=fb3.mi.ado z2;rw[e3]at e';cases e'
          . obtain⟨_,_,_,g⟩:=fb3.gu.xf i hi;have:=g.ba.ao;rw[<-z2,e3]at this;cases this
        . rw[s3 _ _ (λz=>z2 (.inl z)) (s2 _ _ z2 q1)]at e3;cases e3
    have frp:H p=AF:=by cases q0:H p with |none=>rfl|some o=>
        exfalso;by_cases z:Iy ss F p
        . rcases z with z|z|z|⟨i,hi,z⟩
          . obtain⟨_,e'⟩:=fb4.cn;rw[<-z,hp]at e';cases e'
          . obtain⟨_,e'⟩:=fb4.rg;rw[<-z,hp]at e';cases e'
          . obtain⟨kv,e'⟩:=fb4.mi.ado z;rw[hp]at e';cases e'
          . obtain⟨_,_,_,g⟩:=fb4.gu.xf i hi;have:=g.ba.ao;rw[<-z,hp]at this;cases this
        . rw[kk p o z q0]at hp;cases hp
    refine k _ p r xs qs (Lb ss nw (EY ss sd ss.length bt)) gk4 (λb o nb e=>s5 _ _ (kk b o nb e)) ⟨fb5.aik λi hi=>?_,λi hi=>CL (lg4 i hi) (lg2 i hi),λi n a b wi ei=>?_⟩ frp (thr r hr4) Ab (s5 _ _ er4) (IJ pr4 s5.tp) nd4 sd4 mm4 lq4 λi hi=>?_
    . refine AB λnG=>?_;obtain⟨s,es,_⟩:=tl hi;refine nG ?_;try clear nG
      rw[G0 es,G0 es];funext z;exact(bZ nl _).symm
    . refine AB λnG=>?_;obtain⟨⟨pa,_⟩,pb,_⟩:=fdp ei;obtain⟨qa,qb⟩:=fr.cq i n a b wi ei;refine nG ?_;try clear nG
      rw[Tb ei,IK ei,yY (BN.mp ei).1];have two:∀{S A B A':List AU},S.Perm (Bz (now-wi) A)->A'.Perm (A++B)->(Bz (nw-wi) (S++B)).Perm (Bz (nw-wi) A'):=λ{S A B A'}p1 p2=>by refine .trans ?_ (p2.symm.filter _);show(Ru _ (S++B)).Perm (Ru _ (A++B));rw[Hr,Hr];refine .append ((p1.filter _).trans (.of_eq ?_)) (.refl _);exact cP (by(first|lia|omega)) A
      exact⟨two qa pa,two qb pb⟩
    . refine AB λnG=>?_;obtain⟨s,es,ht⟩:=FP.mp hi;obtain⟨_,_,fd⟩:=pok.fw es ht;obtain⟨i',s',l,e',en,t'⟩:=pok.va i s s.fd es (by rw[fd];exact .head _);refine nG ?_;try clear nG
      have hi':i<ss.length:=(BN.mp es).1;rw[Fd es,<-en];exact⟨_,ap i' s' (by(first|lia|omega)) e' t',pok.aiw he fr.cq (n:=ss.length) (λi s _ ei=>br2 i s ei) ss.length (Al _) i' s' (by(first|lia|omega)) e'⟩
theorem T4{s:AV}(h:∀a∈s.bj,D a=L a):D5 s D evs=D5 s L evs:=by cases s with|take n k=>rfl|only n a U J=>show(D a).filter _=(L a).filter _;rw[h a (.head _)]|turn n a f g=>show(D a).map _=(L a).map _;rw[h a (.head _)]|both n a b=>show D b++D a=L b++L a;rw[h a (.head _),h b (.tail _ (.head _))]|join n a b F=>show CY F (D a) (D b)=CY F (L a) (L b);rw[h a (.head _),h b (.tail _ (.head _))]|gap=>rfl|each=>rfl
noncomputable def FL(ss:List AV)(evs:List B7):Nat->AG->List AU|0=>λ_=>[]|n+1=>match ss[n]? with|AA s=>Bj (FL ss evs n) s.nm (D5 s (FL ss evs n) evs)|AF=>FL ss evs n
theorem Sb(F:Dc ss):∀(n i:Nat)s,i<n->ss[i]?=AA s->FL ss evs n s.nm=D5 s (FL ss evs n) evs |0,i,s,h,_=>absurd h (JZ _)|n+1,i,s,h,D=>by have U:=Sb F (evs:=evs) n;cases q:ss[n]? with
 |none=>
  have:i<ss.length:=(BN.mp D).1;have:=Rv.mp q;have e:FL ss evs (n+1)=FL ss evs n:=by show(match ss[n]? with|AA s=>_|AF=>_)=_;rw[q]
  rw[e];exact U i s (by(first|lia|omega)) D|some t=>
  have e:FL ss evs (n+1)=Bj (FL ss evs n) t.nm (D5 t (FL ss evs n) evs):=by show(match ss[n]? with|AA s=>_|AF=>_)=_;rw[q]
  rw[e];by_cases V:i=n
  . subst V;rw[D]at q;cases q;rw[GS];exact(T4 λa J=>F.gw D D (Al _) _ _ J).symm
  . rw[F.ajv q D (by(first|lia|omega)),U i s (by(first|lia|omega)) D];exact(T4 λa J=>F.gw q D (by(first|lia|omega)) _ _ J).symm
noncomputable abbrev EB(ss:List AV)(evs:List B7):AG->List AU:=FL ss evs ss.length
theorem Ke(F:Dc ss){i:Nat}(D:ss[i]?=AA s):EB ss evs s.nm=D5 s (EB ss evs) evs:=Sb F _ i s (BN.mp D).1 D
theorem Zx{s:AV}{evs:List B7}(J:evs.Perm D)(h:∀a∈s.bj,(L a).Perm (F a)):(D5 s L evs).Perm (D5 s F D):=by cases s with|take n k=>exact(J.filter _).map _|only n a V U=>exact(h a (.head _)).filter _|turn n a f g=>exact(h a (.head _)).map _|both n a b=>exact(h b (.tail _ (.head _))).append (h a (.head _))|join n a b W=>exact NA (h a (.head _)) (h b (.tail _ (.head _)))|gap=>exact .nil|each=>exact .nil
theorem Sa(F:Dc ss){evs:List B7}(V:evs.Perm D):∀(m i:Nat)s,i<m->ss[i]?=AA s->(EB ss evs s.nm).Perm (EB ss D s.nm)
 |0,i,s,h,_=>absurd h (JZ _)|m+1,i,s,h,J=>by
  rw[Ke F J,Ke F J];refine Zx V λa Y=>?_;refine AB λU=>?_;obtain⟨Z,q,l,W,rfl,_⟩:=F.va i s a J Y;refine U ?_;try clear U
  exact Sa F V m Z q (by(first|lia|omega)) W
noncomputable def HN(i:AU):Prop:=(0<=i.1/\i.1<=1000000000)/\DI i.2.1
theorem Zw{s:AV}(W:∀e∈evs,HN (Gh e))(h:∀a∈s.bj,∀x∈L a,HN x):∀x∈D5 s L evs,HN x:=λx D=>by cases s with
 |take n k=>
  refine AB λF=>?_;obtain⟨e,J,rfl⟩:=BO.mp D;refine F ?_;try clear F
  exact W e (Dy.mp J).1|only n a q U=>exact h a (.head _) x (Dy.mp D).1|turn n a f g=>
  refine AB λF=>?_;obtain⟨y,Z,rfl⟩:=BO.mp D;refine F ?_;try clear F
  exact h a (.head _) y Z|both n a b=>exact(DA.mp D).elim (h b (.tail _ (.head _)) x) (h a (.head _) x)|join n a b z=>
  refine AB λF=>?_;obtain⟨i,U,D⟩:=Rz.mp D;obtain⟨j,Y,rfl⟩:=BO.mp D;refine F ?_;try clear F
  have J:=h a (.head _) i U;have V:=h b (.tail _ (.head _)) j (Dy.mp Y).1;refine⟨?_,J.2⟩;show 0<=GQ i.1 j.1/\GQ i.1 j.1<=1000000000;unfold GQ;have:=J.1;have:=V.1;split<;>(first|lia|omega)|gap=>cases D|each=>cases D
theorem M7(D:Dc ss)(J:∀e∈evs,HN (Gh e)):∀(m i:Nat)s,i<m->ss[i]?=AA s->∀x∈EB ss evs s.nm,HN x
 |0,i,s,h,_=>absurd h (JZ _)|m+1,i,s,h,F=>by
  rw[Ke D F];refine Zw J λa W=>?_;refine AB λU=>?_;obtain⟨Y,Z,l,V,rfl,_⟩:=D.va i s a F W;refine U ?_;try clear U
  exact M7 D J m Y Z (by(first|lia|omega)) V
noncomputable def Gx(D:Int)(evs:List B7):Int:=evs.foldl (λn e=>GR n D e.1) 0
noncomputable def SY(D:Int)(evs:List B7):Prop:=∀(n:Nat)e,evs[n]?=AA e->Gx D (evs.take n)<=e.1
noncomputable def Jh(ss:List AV)(L:AG->List AU)(q:Ce):Prop:=∃s,ss[q.1]?=AA s/\s.bw=AH/\q.2.2∈EN s (Dh q.2.1 (L s.fd))
theorem Oz(ss:List AV):∀n,FL ss [] n=λ_=>[] |0=>rfl|n+1=>by have D:=Oz ss n;show(match ss[n]? with|AA s=>Bj (FL ss [] n) s.nm (D5 s (FL ss [] n) [])|AF=>FL ss [] n)=_;rw[D];cases ss[n]? with |none=>rfl|some s=>
 show Bj (λ_=>[]) s.nm (D5 s (λ_=>[]) [])=_;have e:D5 s (λ_=>[]) []=[]:=by cases s<;>rfl
 rw[e];funext a;show(if a=s.nm then[]else[])=[];split<;>rfl
theorem T9[DecidableEq U]:∀{l m:List U},l.Nodup->(∀x∈l,x∈m)->l.length<=m.length|[],_,_,_=>CU _|x::l,m,h,D=>by obtain⟨V,W⟩:=Ih.mp h;have F:=D x (.head _);have:=T9 (m:=m.erase x) W λy J=>(List.mem_erase_of_ne (λe=>V (by rw[<-e];exact J))).mpr (D y (.tail _ J));rw[List.length_erase_of_mem F]at this;have:0<m.length:=n9 F;show l.length+1<=m.length;(first|lia|omega)
theorem PZ{D J:Type}{f:D->List J}{n:Nat}:∀{l:List D},(∀x∈l,(f x).length<=n)->(l.flatMap f).length<=n*l.length|[],_=>CU _|x::l,h=>by have U:=h x (.head _);have V:=PZ λy F=>h y (.tail _ F);rw[Fo,CA,F6,tH];(first|lia|omega)
theorem UL{l:List AU}(h:z∉l.map (·.2.1)):Dh z l=[]:=by unfold Dh;rw[OO.mpr λi D q=>h (BO.mpr ⟨i,D,y6 q⟩)];rfl
theorem T3{ss:List AV}(O:Dc ss)(M:ss.length<=8)(E:∀i∈BH ss,(L (E8 ss i)).length<=600/\∀x∈L (E8 ss i),0<=x.1/\x.1<=1000000000){F:List Ce}(N:(F.map CS).Nodup)(h:∀q∈F,Jh ss L q):F.length<=14400000:=by
  have J:∀Z∈F.map CS,Z∈(BH ss).flatMap λi=>((L (E8 ss i)).map (·.2.1)).flatMap λz=>(match ss[i]? with|AA s=>EN s (Dh z (L s.fd))|AF=>[]).map λp=>CS (i,z,p):=λZ G=>by
    obtain⟨q,H,rfl⟩:=BO.mp G;obtain⟨s,D,V,U⟩:=h q H;refine Rz.mpr ⟨q.1,FP.mpr ⟨s,D,V⟩,Rz.mpr ⟨q.2.1,?_,?_⟩⟩
    . rw[Fd D];refine AB λz=>?_;rw[UL z]at U;cases U
    . rw[D];exact BO.mpr ⟨q.2.2,U,rfl⟩
  have A:=T9 N J;rw[A0]at A;refine CL A (CL (PZ (n:=1800000) λi Y=>?_) ?_)
  . refine AB λB=>?_;obtain⟨s,D,V⟩:=FP.mp Y;obtain⟨C,W⟩:=E i Y;refine B ?_;try clear B
    refine CL (PZ (n:=3000) λz P=>?_) ?_
    . rw[D,A0];rw[Fd D]at C W;have:=TK (ps:=Dh z (L s.fd)) (O.fw D V).1 λx I=>by obtain⟨y,K,e⟩:=Po I;rw[<-e];exact W y K
      have:=UK z (L s.fd);show(EN s (Dh z (L s.fd))).length<=3000;(first|lia|omega)
    . rw[A0];(first|lia|omega)
  . have:(BH ss).length<=ss.length:=CL (FY _ _) (by rw[Rw];exact Al _);(first|lia|omega)
theorem Vb{F J:List Ce}(B:DP (F.map CS))(C:DP (J.map CS))(E:(F.map CS).Nodup)(G:(J.map CS).Nodup)(Z:∀q∈F,q.2.2.2.1<=now)(A:∀q∈J,now<q.2.2.2.1):DP ((F++J).map CS)/\((F++J).map CS).Nodup:=by
  rw[C9];constructor
  . refine LB.mpr ⟨B,C,λa U b V=>?_⟩;refine AB λD=>?_;obtain⟨q,W,rfl⟩:=BO.mp U;obtain⟨r,Y,rfl⟩:=BO.mp V;refine D ?_;try clear D
    have:=Z q W;have:=A r Y;show(if(CN r.2.2.2.1:AL)=CN q.2.2.2.1 then _ else Ae (r.2.2.2.1<q.2.2.2.1))=AQ;rw[yX λz=>by have:=FI z;(first|lia|omega)];exact y4 (by(first|lia|omega))
  . refine oG.mpr ⟨E,G,λa U b V e=>?_⟩;subst e;refine AB λD=>?_;obtain⟨q,W,rfl⟩:=BO.mp U;obtain⟨r,Y,e⟩:=BO.mp V;refine D ?_;try clear D
    have:=Z q W;have:=A r Y;have:r.2.2.2.1=q.2.2.2.1:=FI (Dx e).1;(first|lia|omega)
noncomputable def Jk(ss:List AV)(now:Int)(L:AG->List AU)(q:Ce):Prop:=∃s,ss[q.1]?=AA s/\s.bw=AH/\q.2.2∈EX now (EN s (Dh q.2.1 (L s.fd)))
theorem cA(K:Dc ss)(M:now<=Z)(C:∀i∈BH ss,∃B,(z (E8 ss i)).Perm (L (E8 ss i)++B)/\∀x∈B,now<=x.1)(q:Ce):Jk ss Z z q↔Jk ss now L q\/(q.1∈BH ss/\q.2.2∈EX Z (IL ss now z q.1 q.2.1)):=by
  have W:∀{s:AV},ss[q.1]?=AA s->s.bw=AH->EX now (EN s (Dh q.2.1 (L s.fd)))=EX now (EN s (Dh q.2.1 (z s.fd))):=λ{s}D F=>by obtain⟨B,p,G⟩:=C q.1 (FP.mpr ⟨s,D,F⟩);rw[Fd D]at p;have A:=(K.fw D F).1;rw[PK A (Pp p),Pn,ZT A λx H=>by obtain⟨y,I,e⟩:=Po H;rw[<-e];exact G y I]
  have V:∀{l:List Aa}{p:Aa},p∈EX Z l↔p∈EX now l\/p∈EX Z (FO now l):=λ{l p}=>by
    unfold EX FO;simp only[Dy,DJ,ZH,zE,y7];constructor
    . rintro⟨J,U⟩;by_cases q:now<p.2.1;.exact .inr ⟨⟨J,q⟩,U⟩
      .exact .inl ⟨J,q⟩
    . rintro(⟨J,U⟩|⟨⟨J,_⟩,U⟩);.exact⟨J,by(first|lia|omega)⟩
      .exact⟨J,U⟩
  constructor
  . intro E;refine AB λY=>?_;obtain⟨s,D,F,h⟩:=E;refine Y ?_;try clear Y
    rcases V.mp h with h|h;.exact .inl ⟨s,D,F,by rw[W D F];exact h⟩
    .exact .inr ⟨FP.mpr ⟨s,D,F⟩,by rw[G0 D];exact h⟩
  . rintro(⟨s,D,F,h⟩|⟨J,U⟩);.exact⟨s,D,F,V.mpr (.inl (by rw[<-W D F];exact h))⟩
    . refine AB λY=>?_;obtain⟨s,D,F⟩:=FP.mp J;refine Y ?_;try clear Y
      rw[G0 D]at U;exact⟨s,D,F,V.mpr (.inr U)⟩
theorem b9(q:Ce):Jh ss L q↔Jk ss now L q\/(q.1∈BH ss/\q.2.2∈IL ss now L q.1 q.2.1):=by
  have F:∀{l:List Aa}{p:Aa},p∈l↔p∈EX now l\/p∈FO now l:=λ{l p}=>by
    unfold EX FO;simp only[Dy,ZH];constructor;. intro h;cases q:DJ now p with |true=>exact .inr ⟨h,rfl⟩|false=>exact .inl ⟨h,rfl⟩
    .rintro(h|h)<;>exact h.1
  constructor
  . intro Y;refine AB λU=>?_;obtain⟨s,D,J,h⟩:=Y;refine U ?_;try clear U
    rcases F.mp h with h|h;.exact .inl ⟨s,D,J,h⟩
    .exact .inr ⟨FP.mpr ⟨s,D,J⟩,by rw[G0 D];exact h⟩
  . rintro(⟨s,D,J,h⟩|⟨W,V⟩);.exact⟨s,D,J,F.mpr (.inl h)⟩
    . refine AB λU=>?_;obtain⟨s,D,J⟩:=FP.mp W;refine U ?_;try clear U
      rw[G0 D]at V;exact⟨s,D,J,F.mpr (.inr V)⟩
theorem Jk.le{q:Ce}(h:Jk ss now L q):q.2.2.2.1<=now:=by
 refine AB λD=>?_;obtain⟨s,_,_,h⟩:=h;refine D ?_;try clear D
 have:=(Dy.mp h).2;simp only[DJ,ZH,zE]at this;(first|lia|omega)
theorem Jk.afd(h:Jk ss now L q):Jh ss L q:=by
 refine AB λD=>?_;obtain⟨s,F,J,h⟩:=h;refine D ?_;try clear D
 exact⟨s,F,J,(Dy.mp h).1⟩
theorem Vd{p:Aa}(hi:i∈BH ss)(h:p∈IL ss now L i z):now<p.2.1:=by
 refine AB λD=>?_;obtain⟨s,F,_⟩:=FP.mp hi;refine D ?_;try clear D
 rw[G0 F]at h;exact y6 (Dy.mp h).2
theorem GK.alo{K:CW}(h:GK K H ss F I now J U sd B E)(e:H b=AA o)(W:∀C q A,o≠.ins C q A)(Y:∀kvs,o≠.dK kvs):¬Iy ss F b:=λz=>by
  rcases z with z|z|z|⟨i,G,z⟩;. obtain⟨_,D⟩:=h.cn;rw[<-z,e]at D;exact W _ _ _ (CM D)
  . obtain⟨_,D⟩:=h.rg;rw[<-z,e]at D;exact W _ _ _ (CM D)
  . obtain⟨L,D⟩:=h.mi.ado z;rw[e]at D;exact Y _ (CM D)
  . refine AB λZ=>?_;obtain⟨_,_,_,g⟩:=h.gu.xf i G;refine Z ?_;try clear Z
    have D:=g.ba.ao;rw[<-z,e]at D;exact Y _ (CM D)
theorem Ji.bc(h:Ji Y H ss F W now D J sd U L)(s:Ap H H'):Ji Y H' ss F W now D J sd U L:=⟨h.ah.bc s,h.alj,h.cq⟩
noncomputable def LY(H:AI)(ys:List AE)(evs:List B7):Prop:=BP (λy e=>∃q,y=.ref q/\HM H q e) ys evs
noncomputable def eK(I:CW):BF:=λG H Q _=>TF (λ(C B:AD)(Z A:List AE)(F:List AV)(z:AG->Nat)(Y:Nat)(J:Int)(D:List B7)=>G=[.ref C,.int J,.ref B]) (λC _ Z _ _ _ _ _ _=>H C=AA (.lst Z)) (λ_ _ Z _ F _ _ _ _=>EL H Z F) (λ_ _ _ _ F _ _ _ _=>Dc F) (λ_ _ _ _ F _ _ _ _=>F.length<=8) (λ_ _ _ _ F z Y _ _=>(∀(i:Nat)s,F[i]?=AA s->s.bw=AQ->z s.nm=EG s z Y/\z s.nm<=600)) (λ_ _ _ _ _ _ _ J _=>0<=J) (λ_ _ _ _ _ _ _ J _=>J<=1000000000) (λ_ B _ A _ _ _ _ _=>H B=AA (.lst A)) (λ_ _ _ A _ _ _ _ D=>LY H A D) (λ_ _ _ _ _ _ Y _ D=>D.length<=Y) (λ_ _ _ _ _ _ _ _ D=>(∀e∈D,HN (Gh e))) (λ_ _ _ _ _ _ _ J D=>SY J D) (λ_ _ _ _ F _ _ _ D=>∀W r E U,Ap H W->H r=AF->W r=AA (.lst E)->BP (IG F W) E U->(U.map CS).Nodup->DP (U.map CS)->(∀q:Ce,q∈U↔Jh F (EB F D) q)->U.length<=14400000->Q (.ref r) W)
theorem bO{K:Ar}{ad:CW}(T:Ba K mg ad):A8 P w K mg base BM 9 ad.oo ad.qg ["_law_plan_here","_law_slack","_law_events"] (eK ad):=by
  have G_Flow___init__:=aN (P:=P) (w:=w) (base:=base) T;have G_Flow_come:=aK (P:=P) (w:=w) (base:=base) T;have G_Flow_finish:=aM (P:=P) (w:=w) (base:=base) T;refine T.wq.ok VW (λvs H Q E h=>?_) (λcdv A outer s H vs Q E hr h=>?_)
  . refine AB λnG=>?_;obtain⟨lp,le,ps,ys,ss,z,mo,sl,evs,rfl,_⟩:=h;refine nG ?_;try clear nG
    rfl
  . refine AB λnG=>?_;obtain⟨lp,le,ps,ys,ss,z,mo,sl,evs,rfl,elp,pr,pok,lss,siz,s0,s1,ele,evr,lev,iok,tim,k⟩:=h;refine nG ?_;try clear nG
    have nd:=VW.nd;refine⟨_,(Af (Cr 3 nd (OD T.aih G_Flow___init__ (hr.bb (by decide)) (by rfl) T.aic T.xp .nil Bk (AJ (Ia (Nu (K:=K)) (by rfl) T.qr LD (AJ (AO 0) AW)) (AJ (AO 1) AW)))) (Af (Cr 4 nd (Dl AW)) (Af (Eh E4 rfl (Dr (K:=K) (AO 2)) (Fm 5 nd) (Af (Cr 6 nd (Gp (AO 3) T.bu T.abd G_Flow_come (hr.bb (by decide)) T.ack .nil Bk (AJ (AO 5) AW))) (Af (CT (OE (KH (Bi K (AO 6) AR))) (Ak (BE MK)) C1) (Ak (Cr 4 nd (AX Gn (AO 4) (Bi K (AO 6) AR))))))) (Af (Cr 4 nd (AX Gn (AO 4) (kG (AO 3) T.bu T.zb G_Flow_finish (hr.bb (by decide)) T.zj .nil Bk))) (Af (CT (Bt jT (Cq (AO 3) rfl) (DQ (Ks (K:=K)) (by rfl) T.gy GB (AJ (AO 4) AW)) (Br _)) (Ak (BE MK)) C1) (Ak (BE (AO 4)))))))),?_⟩;have sz:Aw=16777216:=DN;have LEl:∀n,∀(i:Nat)s,ss[i]?=AA s->s.bw=AQ->(EB ss (evs.take n) s.nm).length<=600:=λn i s ei ht=>by have hi:i<ss.length:=(BN.mp ei).1;have h1:=T5 pok siz (L:=EB ss (evs.take n)) (evs:=evs.take n) (by rw[EA];(first|lia|omega)) (N:=ss.length) (λi s _ ei _=>Ke pok ei) ss.length i s (Al _) hi ei ht;exact CL h1 (siz i s ei ht).2
    have iokn:∀n,∀e∈evs.take n,HN (Gh e):=λn e he=>iok e (X3 he);have fdL:∀n,∀i∈BH ss,(EB ss (evs.take n) (E8 ss i)).length<=600/\∀x∈EB ss (evs.take n) (E8 ss i),0<=x.1/\x.1<=1000000000:=λn i hi=>by obtain⟨s,es,ht⟩:=FP.mp hi;obtain⟨_,_,fd⟩:=pok.fw es ht;obtain⟨i',s',l,e',en,t'⟩:=pok.va i s s.fd es (by rw[fd];exact .head _);rw[Fd es,<-en];exact⟨LEl n i' s' e' t',λx hx=>(M7 pok (iokn n) (i'+1) i' s' (Hu _) e' x hx).1⟩
    refine⟨lp,ps,rfl,.inl (Ai elp),λl hl=>?_⟩;refine B0 hl λH1 g1 el=>?_;refineλx dx hx hdx hxn=>⟨x,dx,l,ps,ss,sl,rfl,Ab,by rw[Ac (BS el hx),Ac (BS el hdx)];exact el,(pr.ab g1.tp).ab λb xs e=>by rw[Ac (BS e hx),Ac (BS e hdx)];exact e,lss,s0,s1,λH2 F sd gk ef sx fr fre=>⟨rfl,?_⟩⟩;subst ef;have g2:Ap H1 H2:=Z1 hx hdx sx;have fre1:∀b,Iy ss F b->H b=AF:=λb hb=>g1.bh ((fre b hb).elim (λz=>by rw[z];exact hx) λz=>(T6 hxn z).1);refine⟨CU _,λrr hrr=>?_⟩;refine B0 hrr λH3 g3 err=>?_;have g03:=g1.aa (g2.aa g3);have frn:=fr.bc g3;have n0:=frn.ah.alo err (by intro _ _ _ z;cases z) (by intro _ z;cases z);refine⟨le,rfl,⟨_,Ai (g03 _ _ ele)⟩,IT (K:=K) (xs:=ys) (λn σ H'=>TB (λ(o5 o6:Option AE)(rr:AD)(xs:List AE)(qs:List Ce)(sd:Nat->List AU×List AU)(gk:Nat->List (AL×AE))=>σ=[AA (.ref lp),AA (.int sl),AA (.ref le),AA (.ref F.x),AA (.ref rr),o5,o6]) (λ_ _ _ _ _ _ _=>Ap H H') (λ_ _ _ _ qs sd gk=>Ji ad H' ss F sl (Gx sl (evs.take n)) (n:Int) (qs.length:Int) sd gk (EB ss (evs.take n))) (λ_ _ rr xs _ _ _=>H' rr=AA (.lst xs)) (λ_ _ _ xs qs _ _=>BP (IG ss H') xs qs) (λ_ _ _ _ qs _ _=>(qs.map CS).Nodup) (λ_ _ _ _ qs _ _=>DP (qs.map CS)) (λ_ _ _ _ qs _ _=>∀q:Ce,q∈qs↔Jk ss (Gx sl (evs.take n)) (EB ss (evs.take n)) q)) ⟨AF,AF,rr,[],[],sd,gk,rfl,g03,?_,err,.nil,.nil,.nil,λq=>?_⟩ (λn σ H' _ hh=>by obtain⟨_,_,_,_,_,_,_,_,s',_⟩:=hh;exact Ai (s' _ _ ele)) ?_ ?_⟩
    . show Ji ad H3 ss F sl 0 0 0 sd gk (FL ss [] ss.length);rw[Oz];exact frn
    . refine⟨λh=>(by cases h),λ⟨s,es,ht,h⟩=>?_⟩;have h:=(Dy.mp h).1;have e:EB ss (evs.take 0)=λ_=>[]:=Oz ss ss.length;rw[e]at h;cases h
    . intro n y σ H4 hy hI;refine AB λnG=>?_;obtain⟨o5,o6,rr,xs,qs,sd,gk,rfl,s4,fr4,er4,rw4,nd4,sd4,mm4⟩:=hI;obtain⟨ly,fy⟩:=CZ evr;refine nG ?_;try clear nG
      have hn:n<evs.length:=by rw[<-ly];exact(BN.mp hy).1
      have en:=Cm hn;generalize evs[n]=e at en;refine AB λnG=>?_;obtain⟨q,rfl,eq⟩:=fy n _ _ hy en;have tk:evs.take (n+1)=evs.take n++[e]:=by rw[Ds,en];rfl
      obtain⟨dxf,exf⟩:=fr4.ah.cn;refine nG ?_;try clear nG
      have nE:Gx sl (evs.take (n+1))=GR (Gx sl (evs.take n)) sl e.1:=by rw[tk];unfold Gx;rw[sH];rfl
      refine⟨F.x,dxf,_,rfl,exf,by rfl,ss,F,sl,_,n,qs.length,sd,gk,EB ss (evs.take n),EB ss (evs.take (n+1)),evs.take n,e,q,rfl,fr4,pok,lss,s4 _ _ eq,tim n e en,λi s ei ht=>⟨Ke pok ei,?_,LEl (n+1) i s ei ht⟩,λi s ei ht x hx=>(M7 pok (iokn (n+1)) (i+1) i s (Hu _) ei x hx).1,λH5 p r xs5 qs5 sd5 gk5 s5 fr5 hp5 hr5 ep5 er5 rw5 nd5 sd5' mm5 lq5 hB=>?_⟩
      . rw[<-tk];exact Ke pok ei
      have sall:∀{b:AD}{o:Bh},H4 b=AA o->(∀C dx fs,o≠.ins C dx fs)->(∀kvs,o≠.dK kvs)->H5 b=AA o:=λ{b o}e n1 n2=>s5 b o (fr4.ah.alo e n1 n2) e;have tp5:Bp H4 H5:=λb xs e=>sall e (by intro _ _ _ z;cases z) (by intro _ z;cases z);have er45:=sall er4 (by intro _ _ _ z;cases z) (by intro _ z;cases z);have lx:=(CZ rw4).1;have lx5:=(CZ rw5).1;have nl:Gx sl (evs.take n)<=Gx sl (evs.take (n+1)):=by rw[nE];exact UA
      rw[<-nE]at fr5 mm5;have lt5:∀q∈qs5,Gx sl (evs.take n)<q.2.2.2.1:=λq hq=>by obtain⟨h1,h2⟩:=(mm5 q).mp hq;exact Vd h1 (Dy.mp h2).1
      obtain⟨sdA,ndA⟩:=Vb sd4 sd5' nd4 nd5 (λq hq=>((mm4 q).mp hq).le) lt5;have mmA:∀q:Ce,q∈qs++qs5↔Jk ss (Gx sl (evs.take (n+1))) (EB ss (evs.take (n+1))) q:=λq=>by rw[DA,mm4,mm5];exact(cA pok nl hB q).symm
      have lA:=T3 pok lss (fdL (n+1)) ndA λq hq=>((mmA q).mp hq).afd;rw[CA]at lA;refine⟨_,_,As ep5,Aq (j:=0) rfl,_,rfl,Hj ?_⟩;refine⟨_,_,As ep5,Aq (j:=1) rfl,rr,r,xs,xs5,rfl,rfl,er45,er5,by(first|lia|omega),λr6 hr6=>?_⟩;have s6:=Be (o:=.lst (xs++xs5)) hr6;have s05:Ap H H5:=λb o e=>s5 b o (λz=>by rw[fre1 b z]at e;cases e) (s4 _ _ e);refine⟨_,_,r6,xs++xs5,qs++qs5,sd5,gk5,rfl,s05.aa s6,?_,Ab,IJ (Dk (IJ rw4 tp5) rw5) s6.tp,ndA,sdA,mmA⟩;have:=fr5.bc s6;rw[CA];exact this
    . intro σ H4 hI;refine AB λnG=>?_;obtain⟨o5,o6,rr,xs,qs,sd,gk,rfl,s4,fr4,er4,rw4,nd4,sd4,mm4⟩:=hI;obtain⟨ly,_⟩:=CZ evr;have lg:=fdL ys.length;have tk:evs.take ys.length=evs:=by rw[ly];exact sX
      rw[tk]at fr4 mm4 lg;obtain⟨dxf,exf⟩:=fr4.ah.cn;refine nG ?_;try clear nG
      refine⟨F.x,dxf,_,rfl,exf,by rfl,ss,F,sl,_,_,_,sd,_,gk,rfl,fr4.ah,pok,lss,(λi hi=>CL (fr4.alj i hi) (lg i hi).1),(λi hi z=>?_),λH5 r xs5 qs5 s5 ob5 hr5 er5 rw5 nd5 sd5 mm5 lq5=>?_⟩
      . refine AB λnG=>?_;obtain⟨s,es,ht⟩:=FP.mp hi;obtain⟨h1,h2⟩:=lg i hi;refine nG ?_;try clear nG
        rw[G0 es];rw[Fd es]at h1 h2;have tok:=(pok.fw es ht).1;have:=Qm (z:=z) (now:=Gx sl evs) tok h2;exact⟨O0 (Ql tok),by(first|lia|omega)⟩
      have sall:∀{b:AD}{o:Bh},H4 b=AA o->(∀C dx fs,o≠.ins C dx fs)->(∀kvs,o≠.dK kvs)->H5 b=AA o:=λ{b o}e n1 n2=>s5 b o (fr4.ah.alo e n1 n2) e;have tp5:Bp H4 H5:=λb xs e=>sall e (by intro _ _ _ z;cases z) (by intro _ z;cases z);have er45:=sall er4 (by intro _ _ _ z;cases z) (by intro _ z;cases z);have lx:=(CZ rw4).1;have lx5:=(CZ rw5).1;obtain⟨sdA,ndA⟩:=Vb sd4 sd5 nd4 nd5 (λq hq=>((mm4 q).mp hq).le) λq hq=>Vd ((mm5 q).mp hq).1 ((mm5 q).mp hq).2;have mmA:∀q:Ce,q∈qs++qs5↔Jh ss (EB ss evs) q:=λq=>by rw[DA,mm4,mm5];exact(b9 q).symm
      have lA:=T3 pok lss lg ndA λq hq=>(mmA q).mp hq;have lA':=lA;rw[CA]at lA';refine⟨rr,r,xs,xs5,rfl,rfl,er45,er5,by(first|lia|omega),λr6 hr6=>?_⟩;have s05:Ap H H5:=λb o e=>s5 b o (λz=>by rw[fre1 b z]at e;cases e) (s4 _ _ e);refine B0 hr6 λH6 s6 er6=>?_;obtain⟨dx5,ex5⟩:=ob5;refine⟨F.x,_,dx5,_,_,rfl,s6 _ _ ex5,T.bu,T.ft,rfl,_,.inl (Ai er6),?_⟩;have hl:(xs++xs5).length=qs.length+qs5.length:=by rw[CA];(first|lia|omega)
      rw[hl];refine⟨rfl,_,rfl,?_⟩;rw[show(!Ae (AE.int ((qs.length:Int)+(qs5.length:Int))=AE.int ((qs.length+qs5.length:Nat):Int)))=AQ from by rw[Int.natCast_add,y3 rfl];rfl];refine Hj ?_;exact k H6 r6 _ (qs++qs5) (s05.aa s6) (s05.bh hr6) er6 (IJ (Dk (IJ rw4 tp5) rw5) s6.tp) ndA sdA mmA lA
noncomputable def d6:BF:=λW H Q _=>PC (λ(U a:AD)(F:List AE)(D:List AV)(q:Ce)(s:AV)=>W=[.ref U,.ref a]) (λU _ F _ _ _=>H U=AA (.lst F)) (λ_ _ F D _ _=>EL H F D) (λ_ _ _ D _ _=>Dc D) (λ_ _ _ D _ _=>D.length<=8) (λ_ _ _ D q s=>D[q.1]?=AA s) (λ_ a _ _ q s=>H a=AA (.tup ((I0 s q.2.1 q.2.2).map Ax))) (λ_ _ _ _ q _=>∀r J,Ap H J->H r=AF->J r=AA (.tup ((CS q).map Ax))->Q (.ref r) J)
theorem aZ{K:Ar}{X:CW}(T:Ba K mg X):A8 P w K mg base BM 1 X.jt X.ku ["_law_plan_here","_law_row"] d6:=by
  refine T.qz.ok VT (λvs H Q E h=>?_) (λt A N s H vs Q E hr h=>?_)
  . refine AB λJ=>?_;obtain⟨f,a,l,n,q,s,rfl,_⟩:=h;refine J ?_;try clear J
    rfl
  . refine AB λJ=>?_;obtain⟨f,a,l,n,q,st,rfl,B,g,O,lss,L,c,k⟩:=h;refine J ?_;try clear J
    have nd:=VT.nd;refine⟨_,(Af (kU (i:=2) (osc:=A2 NX) [("_law_row",1)] nd rfl (BL rfl) rfl (ML (K:=K) (by rfl) T.gh (AO 0)) rfl rfl (by decide+kernel) (by decide+kernel) (by decide+kernel) ⟨rfl,rfl,trivial⟩ rfl rfl (by decide+kernel) (λ_ _ _ _=>KI (Bt C7 (Bi K (AO 1) AR) (Bi K (AO 2) AR) (Br _))) (λ_ _ _ _=>(AO 0))) (Ak (BE (Cw (AJ (Bi K (AO 1) AR) (AJ (JT K (AO 2) AR) (AJ (Bi K (AO 1) AR) (AJ (Bi K (AO 1) AR) AW)))))))),?_⟩;have sz:Aw=16777216:=DN;have lps:=g.dh;have hq:q.1<n.length:=(BN.mp L).1;refine⟨f,rfl,⟨_,Ai B⟩,gV (K:=K) (xs:=l) (λi U Z=>Ap H Z/\U=if q.1<i then[AE.int (q.1:Int)]else[]) (by(first|lia|omega)) ⟨Cu _,rfl⟩ (λi U Z⟨s1,_⟩=>Ai (s1 _ _ B)) (λi x p o1 o2 U Z R hx M hp d=>?_) λU Z M D hD=>?_⟩
    . refine AB λJ=>?_;obtain⟨s1,F⟩:=M;obtain⟨b,m,rfl,I,eb⟩:=g.at hx;refine J ?_;try clear J
      have s2:=Be (o:=.tup [.int (i:Int),.ref b]) hp;refine⟨p,_,rfl,As Ab,rfl,_,_,rfl,_,_,rfl,rfl,?_⟩;generalize AN Z p (.tup [.int (i:Int),.ref b])=S at s2⊢;have W:=s1.aa s2;have G:Cp S b m:=W _ _ eb;refine AB λJ=>?_;obtain⟨u,_,v⟩:=G.gx (K:=K);refine J ?_;try clear J
      refine⟨_,_,u,v,_,_,As (W _ _ c),Aq (j:=0) rfl,rfl,_,rfl,N1 (λz=>?_) λz=>?_⟩
      . have z:i=q.1:=O.cc i q.1 m st I L z;subst z;refine d _ _ _ _ (by rw[CA];exact Al _) ⟨W,?_⟩;rw[F,yX (HI _),yY (Hu _)];rfl
      . have z:i≠q.1:=λe=>z (by subst e;rw[L]at I;cases I;rfl);refine d _ _ _ _ (Ii _) ⟨W,?_⟩;rw[F];by_cases h:q.1<i;.rw[yY h,yY (by(first|lia|omega))]
        .rw[yX h,yX (by(first|lia|omega))]
    . obtain⟨s1,F⟩:=M;rw[yY (by(first|lia|omega))]at F;subst F;refine B0 hD λS s2 y=>?_;have Y:=(s1.aa s2) _ _ c;exact⟨_,_,As Y,Aq (j:=3) rfl,_,_,Ai y,Aq (j:=0) rfl,_,_,As Y,Aq (j:=1) rfl,_,_,As Y,Aq (j:=2) rfl,Ey rfl,λr C=>k r _ ((s1.aa s2).gf C) ((s1.aa s2).bh C) Ab⟩
theorem UB:∀{evs:List B7}{n:Int},n<=m->(∀e∈evs,e.1-D<=m)->evs.foldl (λn e=>GR n D e.1) n<=m
 |[],_,h,_=>h|e::evs,n,h,F=>by
  refine UB (evs:=evs) (n:=GR n D e.1) ?_ λx J=>F x (.tail _ J);have:=F e (.head _);unfold GR GQ;split;.exact h
  .split<;>(first|lia|omega)
theorem Oy(h:∀(i j:Nat)e f,i<j->evs[i]?=AA e->evs[j]?=AA f->e.1-U<=f.1)(V:∀e∈evs,0<=e.1):SY U evs:=λn e D=>by
 refine UB (V e (DW D)) λx Y=>?_;refine AB λJ=>?_;obtain⟨i,W,F⟩:=F7.mp Y;refine J ?_;try clear J
 rw[EA]at W;rw[MW]at F;exact h i n x e (by(first|lia|omega)) (by rw[<-F];exact Cm _) D
theorem T2{D W:Type}{f:D->W}:∀{l m:List D},l.map f=m.map f->(∀a∈l,∀b∈m,f a=f b->a=b)->l=m|[],[],_,_=>rfl|[],b::m,e,_=>by cases e|a::l,[],e,_=>by cases e|a::l,b::m,e,h=>by obtain⟨F,J⟩:=Dx e;rw[h a (.head _) b (.head _) F,T2 J λx U y V=>h x (.tail _ U) y (.tail _ V)]
theorem fK(h:EM l){a b:Aa}(U:a∈l)(V:b∈l)(e:a.1=b.1):a=b:=by
 refine AB λJ=>?_;obtain⟨i,D,rfl⟩:=F7.mp U;obtain⟨j,F,rfl⟩:=F7.mp V;refine J ?_;try clear J
 rcases X6 i j with q|q|q
 . have:=E3.mp h i j D F q;(first|lia|omega)
 .subst q;rfl
 . have:=E3.mp h j i F D q;(first|lia|omega)
theorem US(Y:Dc ss){evs:List B7}(g:evs.Perm J){V D:List Ce}(d:(V.map CS).Nodup)(f:(D.map CS).Nodup)(s1:DP (V.map CS))(s2:DP (D.map CS))(A:∀q:Ce,q∈V↔Jh ss (EB ss evs) q)(c:∀q:Ce,q∈D↔Jh ss (EB ss J) q):V=D:=by
 have B:∀{s:AV}{i:Nat}{z:AG},ss[i]?=AA s->s.bw=AH->EN s (Dh z (EB ss evs s.fd))=EN s (Dh z (EB ss J s.fd)):=λ{s i z}F U=>by obtain⟨k,_,Q⟩:=Y.fw F U;obtain⟨G,K,l,O,P,n⟩:=Y.va i s s.fd F (by rw[Q];exact .head _);rw[<-P];exact PK k (Pp (Sa Y g (G+1) G K (Hu _) O))
 have H:∀q:Ce,q∈V↔q∈D:=λq=>by
  rw[A,c];constructor;. rintro⟨s,F,U,h⟩;exact⟨s,F,U,by rw[<-B F U];exact h⟩
  . rintro⟨s,F,U,h⟩;exact⟨s,F,U,by rw[B F U];exact h⟩
 have L:∀{l:List Ce},(l.map CS).Nodup->l.Nodup:=λh=>(KL.mp h).imp λh e=>h (by rw[e]);have j:V.Perm D:=(List.perm_ext_iff_of_nodup (L d) (L f)).mpr H;refine T2 (XQ (j.map CS) s1 s2) λa S b T e=>?_;refine AB λI=>?_;obtain⟨s,F,U,R⟩:=(A a).mp S;obtain⟨K,W,X,E⟩:=(A b).mp ((H b).mpr T);have m:a.2.2.2.1=b.2.2.2.1:=FI (Dx e).1;have Z:(a.1:Int)=(b.1:Int):=FI (Dx (Dx e).2).1;have C:a.2.1=b.2.1:=Kc (Dx (Dx (Dx e).2).2).1;have M:a.2.2.1=b.2.2.1:=FI (Dx (Dx (Dx (Dx e).2).2).2).1;have Z:a.1=b.1:=by(first|lia|omega)
 rw[<-Z,F]at W;cases W;refine I ?_;try clear I
 rw[<-C]at E;have N:=fK (O0 (M9 (Y.fw F U).1)) R E M;exact YC Z (YC C N)
noncomputable def NQ(ss:List AV)(D:List Ce):List (List AL):=D.map λq=>match ss[q.1]? with|AA s=>I0 s q.2.1 q.2.2|AF=>[]
theorem Pu(h:BP (IG ss H) xs F):CH H xs (NQ ss F):=by induction h with |nil=>exact Gq _|cons h _ W=>
 refine AB λD=>?_;obtain⟨a,s,U,e,J⟩:=h;refine D ?_;try clear D
 refine .cons ⟨a,e,?_⟩ W;dsimp only;rw[U];exact J
theorem Ve{ys:List AE}{R:List Z}(h:BP F ys R){Y:List (AE×List AL)}(p:Y.Perm (ys.zip (R.map key))):∃J,J.Perm R/\BP F (Y.map (·.1)) J/\J.map key=Y.map (·.2):=by
  refine AB λW=>?_;obtain⟨L,E⟩:=CZ h;have G:BP (λ(m:Z)(q:AE×List AL)=>F q.1 m/\key m=q.2) R (ys.zip (R.map key)):=by refine Ez (by rw[Rx,A0];(first|lia|omega)) λi m q D U=>?_;obtain⟨z,A⟩:=JX.mp U;rw[Bx,D]at A;exact⟨E i q.1 m z D,CM A⟩
  obtain⟨J,H,I⟩:=KD p G;obtain⟨C,B⟩:=CZ I;refine W ?_;try clear W
  refine⟨J,H,Ez (by rw[A0,C]) λi v m D U=>?_,?_⟩
  . rw[Bx]at D;refine AB λW=>?_;obtain⟨q,z,rfl⟩:=D2.mp D;refine W ?_;try clear W
    exact(B i m q U z).1
  . refine Xv λi=>?_;rw[Bx,Bx];cases D:J[i]? with |none=>rw[Xx (by rw[<-C];exact Rv.mp D)];rfl|some m=>have K:=(BN.mp D).1;have U:=Cm (show i<Y.length by(first|lia|omega));rw[U];exact yZ AA (B i m _ D U).2
theorem cR{K:Ar}{J:List Z}(O:sh≠[])(N:∀x q,F x q->(∃a r,x=.ref a/\H a=AA (.tup ((key q).map Ax++[.ref r])))/\(key q).map B9=sh)(h:BP F xs J)(S:(J.map key).Nodup):∃D:List Fg,D.map Fi=J.map key/\Nn K H xs D sh:=by
 have R:∀{xs:List AE}{J:List Z},BP F xs J->∃D:List Fg,D.map Fi=J.map key/\D.map (·.1)=J.map key/\BP (λx(d:Fg)=>(∃a,x=.ref a/\B8 K H a (d.1.map Ax++d.2.1.map AE.ref))/\d.1.map B9=sh) xs D:=by intro xs J h;induction h with |nil=>exact⟨[],rfl,rfl,.nil⟩|cons A _ P=> obtain⟨D,e,z,p⟩:=P;rename_i x q _ _ _;obtain⟨⟨a,r,G,Y⟩,U⟩:=N x q A;exact⟨(key q,[r],[])::D,by rw[DM,DM,e];show(key q++[])::_=_;rw[FG],by rw[DM,DM,z],.cons ⟨⟨a,G,As Y⟩,U⟩ p⟩
 refine AB λW=>?_;obtain⟨D,e,z,p⟩:=R h;refine W ?_;try clear W
 refine⟨D,e,O,p,λi j d E Y U I=>.inl ?_⟩;have B:(D.map (·.1))[i]?=AA d.1:=by rw[Bx,Y];rfl
 have C:(D.map (·.1))[j]?=AA E.1:=by rw[Bx,U];rfl
 rw[z]at B C;refine AB λW=>?_;obtain⟨A,L⟩:=BN.mp B;obtain⟨T,M⟩:=BN.mp C;refine W ?_;try clear W
 have Q:i=j:=(Xz S).mp (by rw[L,M,I]);subst Q;rw[Y]at U;cases U;exact⟨rfl,rfl⟩
theorem UO{F:Type}{key:F->List AL}{f:F->Int}(J:∀a,∃r,key a=.inl (f a)::r){l:List F}(h:(l.map key).Pairwise λa b=>BB b a=AQ):∀(i j:Nat)a b,i<j->l[i]?=AA a->l[j]?=AA b->f a<=f b:=λi j a b D Y Z=>by
 refine AB λU=>?_;obtain⟨A,V⟩:=BN.mp Y;obtain⟨B,W⟩:=BN.mp Z;have:=E3.mp (KL.mp h) i j A B D;rw[V,W]at this;obtain⟨r,E⟩:=J a;obtain⟨C,G⟩:=J b;refine U ?_;try clear U
 rw[E,G]at this;refine Int.not_lt.mp λz=>?_;have this:(if(CN (f b):AL)=CN (f a)then BB C r else Ae (f b<f a))=AQ:=this;rw[yX λq=>by have:=FI q;(first|lia|omega),y3 z]at this;cases this
theorem Zj{K:Ar}{a b:AD}{xs ys:List AE}{g:Du}{G:Cf}{D:Fz}{F:Am}{H:AI}(J:Nat->Am->AI->Prop)(C:ys.length<=xs.length)(M:J 0 F H)(T:∀i F H,i<=ys.length->J i F H->Bc K H a xs/\Bc K H b ys)(c:∀(i:Nat)x y F H p,xs[i]?=AA x->ys[i]?=AA y->J i F H->H p=AF->g (.ref p) F (AN H p (.tup [x,y])) λY z=>G {D with nx:=J (i+1),ct:=J (i+1),bk:=D.nx} Y z)(R:∀F H,J ys.length F H->D.nx F H):∃W:Nat->Nat->Am->AI->Prop,(∃m,W 0 m F H)/\∀i m F H,W i m F H->((Lu K a b).zw i H/\D.nx F H)\/((Lu K a b).go i H/\∃N:Am->AI->Prop,(∀U H',N U H'->∃E,E<m/\W (i+1) E U H')/\∀x H',(Lu K a b).aht i H x H'->g x F H' λY z=>G {D with nx:=N,ct:=N,bk:=D.nx} Y z):=by
  refine⟨λi m F H=>m=ys.length-i/\i<=ys.length/\J i F H,⟨ys.length,by simp,CU _,M⟩,?_⟩;intro i m F H Q;refine AB λq=>?_;obtain⟨rfl,S,p⟩:=Q;obtain⟨A,B⟩:=T i F H S p;refine q ?_;try clear q
  by_cases Z:i<ys.length
  . have I:=Cm (show i<xs.length by(first|lia|omega));have L:=Cm Z;refine .inr ⟨⟨xs,ys,_,_,A,B,I,L⟩,J (i+1),λU H' d=>⟨ys.length-(i+1),by(first|lia|omega),rfl,Z,d⟩,λx H' y=>?_⟩;refine AB λq=>?_;obtain⟨r,u,v,rfl,X,rfl,O,P⟩:=y;refine q ?_;try clear q
    exact c i u v F H r (O xs A) (P ys B) p X
  . have:i=ys.length:=by(first|lia|omega)
    subst this;exact .inl ⟨⟨xs,ys,A,B,.inr (Al _)⟩,R F H p⟩
noncomputable def O2(H:AI)(x:AE)(t:Int×Int×B7):Prop:=∃p q,x=.ref p/\H p=AA (.tup [.int t.1,.int t.2.1,.ref q])/\HM H q t.2.2
theorem ND(h:LY H ys evs)(t:Bp H H'):LY H' ys evs:=GY (λ_ _⟨q,e,D⟩=>⟨q,e,t _ _ D⟩) h
theorem Nc(h:BP (O2 H) ys D)(t:Bp H H'):BP (O2 H') ys D:=GY (λ_ _ U=>by obtain⟨p,q,e,F,J⟩:=U;exact⟨p,q,e,t _ _ F,t _ _ J⟩) h
theorem aY{K:Ar}{ad:CW}(T:Ba K mg ad):A8 P w K mg base BM PX ad.agg ad.aes ["_law_script"] (Na K):=by
  have J:=fU.mk (NN (P:=P) (w:=w) (base:=base) T) T.aw T.aq.kp T.au;have Z:=fU.mk (NO (P:=P) (w:=w) (base:=base) T) T.dw T.cp.kp T.dk;have G:=fU.mk (Pk (P:=P) (w:=w) (base:=base) T) T.lj T.fm.kp T.jw;have L:=fU.mk (bI (P:=P) (w:=w) (base:=base) T) T.abc T.uw.kp T.aat;have B:=fU.mk (aJ (P:=P) (w:=w) (base:=base) T) T.zq T.qy.kp T.zm;have U:=fU.mk (bO (P:=P) (w:=w) (base:=base) T) T.adf T.wq.kp T.acv;have C:=fU.mk (aZ (P:=P) (w:=w) (base:=base) T) T.zr T.qz.kp T.zo;refine T.ain.ok U2 (λvs H Q E h=>?_) (λcdv A outer s H vs Q E hr h=>?_)
  . refine AB λF=>?_;obtain⟨a,ns,rfl,_⟩:=h;refine F ?_;try clear F
    rfl
  . refine AB λF=>?_;obtain⟨a,ns,rfl,hS,hl,k⟩:=h;refine F ?_;try clear F
    have nd:=U2.nd;refine⟨_,(Af (Cr 1 nd (JT K (Dl (AJ AR (AJ AR AW))) (AX RX (AX RT (Ck J hr (AJ (AO 0) (AJ AR AW))) AR) AR))) (Af (Cr 2 nd (Ck L hr (AJ (AO 0) (AJ (AO 1) AW)))) (Af (Cr 3 nd (AX RY (AX RX (Ck J hr (AJ (AO 0) (AJ AR AW))) AR) (Ck G hr (AJ (AO 0) AW)))) (Af (Cr 4 nd (Dl AW)) (Af (Cr 5 nd (Dl AW)) (Af (Eh E4 rfl (kN (by rfl) T.vk (AJ AR (AJ (DQ (V1 rfl) (by rfl) T.ahr oP (AJ (AX KC (DQ (Ks (K:=K)) (by rfl) T.gy GB (AJ (AO 0) AW)) AR) (AJ (AX FT AR (AX RY AR (AO 1))) AW))) (AJ AR AW)))) (Fm 6 nd) (Af (Fn (Ww K (AO 4) (AJ (Ck B hr (AJ (AO 0) (AJ (AO 6) AW))) AW))) (Ak (Fn (Ww K (AO 5) (AJ (Cw (AJ (AX FT (Bi K (JT K (AO 4) (Rf Xm AR)) AR) (AX RX (Ck Z hr (AJ (AO 0) (AJ (AX FT (AO 6) AR) AW))) (AX FT (AO 3) AR))) (AJ (AO 6) (AJ (JT K (AO 4) (Rf Xm AR)) AW)))) AW)))))) (Af (Cr 7 nd (Ck U hr (AJ (AO 2) (AJ (AO 3) (AJ (DQ (V2 (K:=K)) (by rfl) T.qu R8 (AJ (AO 4) AW)) AW))))) (Af (Cr 8 nd (Ck U hr (AJ (AO 2) (AJ (AO 3) (AJ (Kz (A2 Lg) [] trivial (Dr (K:=K) (DQ (V3 (K:=K) hr) (by rfl) T.qu R8 (AJ (AO 5) AW))) (λ_ _ _ _=>G8) (λ_ _ _ _=>(Bi K (AO 0) AR))) AW))))) (Af (Cr 9 nd (Ck U hr (AJ (AO 2) (AJ AR (AJ (AO 4) AW))))) (Af (CT (Nk (OF (Bt Ws (AO 7) MK (Br _)) (OF (Bt (Wu (K:=K) hr.aiz) (AO 8) (AO 7) (Br _)) (W9 (Bt (Wu (K:=K) hr.aiz) (AO 9) (AO 7) (Br _)))))) (Ak (BE KG)) C1) (Af (K0 (i:=10) (osc:=A2 Lg) [("_law_plan_here",2)] nd rfl (BL rfl) rfl (Dr (K:=K) (AO 7)) rfl rfl (by decide+kernel) (by decide+kernel) (by decide+kernel) ⟨rfl,rfl,trivial⟩ rfl (by decide+kernel) (λ_ _ _ _=>G8) (λ_ _ _ _=>(Ck C hr (AJ (AO 1) (AJ (AO 0) AW))))) (Af (Eh E4 rfl (kO (K:=K) (by rfl) T.akw (AJ (AO 10) (AJ (Fl (Ho (K:=K)) (AO 10) (FF AR) GZ) AW))) (JQ rfl (FU (Fm 11 nd) (FU (Fm 12 nd) JR))) (Ak (CT (Bt (jQ (K:=K) (tF hr.u1)) (AO 11) (AO 12) (Br _)) (Ak (BE KG)) C1))) (Ak (BE KG)))))))))))))),?_⟩;have sz:Aw=16777216:=DN;refine⟨Ey rfl,λp0 hp0=>?_⟩;refine B0 hp0 λH1 g1 ep0=>?_;refine⟨a,ns,_,rfl,g1.abt hS,by decide,hl,λc0=>?_⟩;refine AB λF=>?_;obtain⟨v,hv,hm⟩:=Gk [AE.int 8,.int 16] 2 rfl (by decide) (c0/432);obtain⟨d,rfl,hmo⟩:∃d:Nat,v=.int (d:Int)/\(d=8\/d=16):=by
      simp only[CB,KJ,zB]at hm;rcases hm with rfl|rfl;.exact⟨8,rfl,.inl rfl⟩
      .exact⟨16,rfl,.inr rfl⟩
    refine F ?_;try clear F
    refine⟨⟨by decide,by decide⟩,(by decide:(0:Int)<2),_,_,Ai ep0,hv,?_⟩;refine⟨a,ns,d,rfl,g1.abt hS,hl,by(first|lia|omega),λlp H2 ps ss z g2 hlp elp pr O lss txt siz=>?_⟩;refine⟨a,ns,_,rfl,(g1.aa g2).abt hS,by decide,hl,λc=>?_⟩;refine⟨(by decide:(0:Int)<20),a,ns,rfl,(g1.aa g2).abt hS,hl,λsc H3 g3 hsc=>?_⟩;have b20:0<=c%20/\c%20<20:=⟨FJ _ (by decide),Fu _ (by decide)⟩;have hsl:0<=c%20*sc/\c%20*sc<=800000:=by rcases hsc with rfl|rfl<;>(first|lia|omega)
    refine⟨by rcases hsc with rfl|rfl<;>exact .inr ⟨by(first|lia|omega),by(first|lia|omega)⟩,?_⟩;refine⟨CU _,λM hle=>?_⟩;refine B0 hle λH4 g4 ele=>⟨CU _,λlt hlt=>?_⟩;refine B0 hlt λH5 g5 elt=>?_;have hS5:=(g1.aa (g2.aa (g3.aa (g4.aa g5)))).abt hS;have lns:(ns.map AE.int).length=ns.length:=A0 ..;refine⟨_,.inl hS5,.inl ⟨by decide,by decide⟩,_,_,_,rfl,⟨by decide,by decide,by decide,by decide,?_,?_⟩,?_⟩;.rw[lns];split<;>(first|lia|omega)
    .rw[lns];split<;>(first|lia|omega)
    have hn:D9 15 (if 15+2*(d:Int)<((ns.map AE.int).length:Int)-1 then 15+2*(d:Int)else((ns.map AE.int).length:Int)-1) 2<=d:=by unfold D9;(repeat' split)<;>(first|lia|omega)
    generalize D9 15 (if 15+2*(d:Int)<((ns.map AE.int).length:Int)-1 then 15+2*(d:Int)else((ns.map AE.int).length:Int)-1) 2=nt at hn⊢;refine iC (λi σ I=>Sw (λ(o6:Option AE)(R xt:List AE)(N:List (Int×Int×B7))=>σ=[AA (.ref a),AA (.int (d:Int)),AA (.ref lp),AA (.int (c%20*sc)),AA (.ref M),AA (.ref lt),o6,AF,AF,AF,AF,AF,AF]) (λ_ _ _ _=>Dg (λb=>b=M\/b=lt) H5 I) (λ_ R _ _=>I M=AA (.lst R)) (λ_ _ xt _=>I lt=AA (.lst xt)) (λ_ R _ N=>LY I R (N.map (·.2.2))) (λ_ _ xt N=>BP (O2 I) xt N) (λ_ _ _ N=>N.length=i) (λ_ _ _ N=>(∀t∈N,HN (Gh t.2.2)/\DI t.2.2.2.1/\t.2.2.1<=t.1/\t.1<=t.2.2.1+c%20*sc)) (λ_ _ _ N=>∀(j:Nat)t,N[j]?=AA t->t.2.1=15+(j:Int)*2)) ⟨AF,[],[],[],rfl,λb o _ e=>e,g5 _ _ ele,elt,.nil,.nil,rfl,λt ht=>(by cases ht),λj t e=>(by cases e)⟩ ?_ ?_
    . intro i σ H6 hi m;refine AB λF=>?_;obtain⟨o6,R,xt,N,rfl,s6,X,elt6,ev6,tr6,lts,ok6,kt6⟩:=m;refine F ?_;try clear F
      have nlt:M≠lt:=BS ele hlt;have n1:∀{b:AD}{o:Bh},H b=AA o->b≠M/\b≠lt:=λ{b o}e=>⟨BS ((g1.aa (g2.aa g3)) _ _ e) hle,BS ((g1.aa (g2.aa (g3.aa g4))) _ _ e) hlt⟩;have s06:Ap H H6:=λb o e=>s6 _ _ (λz=>z.elim (n1 e).1 (n1 e).2) ((g1.aa (g2.aa (g3.aa (g4.aa g5)))) _ _ e);have lxe:=(CZ ev6).1;rw[A0]at lxe;have lxt:=(CZ tr6).1;refine⟨.inl ⟨rfl,_,Ai X⟩,a,ns,_,rfl,s06.abt hS,hl,by(first|lia|omega),λp H7 e g7 hp ee ae1 ae2 tme=>?_⟩;have ele7:=g7 _ _ X;refine⟨M,R,_,rfl,rfl,ele7,by(first|lia|omega),?_⟩;have x8:Bs M H7 (AN H7 M (.lst (R++[.ref p]))):=λb o nb e=>by rw[Ac nb];exact e
      have ele8:(AN H7 M (.lst (R++[.ref p]))) M=AA (.lst (R++[.ref p])):=Ab;have tp8:Bp H7 (AN H7 M (.lst (R++[.ref p]))):=x8.tp ele7 (by intro xs z;cases z);have elt8:(AN H7 M (.lst (R++[.ref p]))) lt=AA (.lst xt):=x8 _ _ nlt.symm (g7 _ _ elt6);have ee8:HM (AN H7 M (.lst (R++[.ref p]))) p e:=tp8 _ _ ee;have s08:Ap H (AN H7 M (.lst (R++[.ref p]))):=λb o e=>x8 _ _ (n1 e).1 (g7 _ _ (s06 _ _ e));generalize AN H7 M (.lst (R++[.ref p]))=H8 at x8 ele8 tp8 elt8 ee8 s08⊢;have last:Cb (R++[AE.ref p]) (-1)=AA (.ref p):=gJ _ _;refine⟨.inl ⟨rfl,_,Ai elt8⟩,_,_,Ai ele8,last,_,_,As ee8,Aq (j:=0) rfl,a,ns,_,rfl,s08.abt hS,hl,by(first|lia|omega),λnn nn0=>?_⟩;have m0:=FJ nn (show c%20*sc+1≠0 by(first|lia|omega));have m1:=Fu nn (show 0<c%20*sc+1 by(first|lia|omega));refine⟨(show(0:Int)<c%20*sc+1 by(first|lia|omega)),_,_,Ai ele8,last,Ey rfl,λpt hpt=>?_⟩;refine B0 (o:=.tup [.int (e.1+nn%(c%20*sc+1)),.int (15+(i:Int)*2),.ref p]) hpt λH9 g9 ept=>?_;have elt9:=g9 _ _ elt8;refine⟨lt,xt,_,rfl,rfl,elt9,by(first|lia|omega),?_⟩;have xA:Bs lt H9 (AN H9 lt (.lst (xt++[.ref pt]))):=λb o nb e=>by rw[Ac nb];exact e
      have tpA:Bp H9 (AN H9 lt (.lst (xt++[.ref pt]))):=xA.tp elt9 (by intro xs z;cases z);have t7:Bp H6 (AN H9 lt (.lst (xt++[.ref pt]))):=λb xs e=>tpA _ _ (g9 _ _ (tp8 _ _ (g7 _ _ e)));refine⟨_,R++[.ref p],xt++[.ref pt],N++[(e.1+nn%(c%20*sc+1),15+(i:Int)*2,e)],rfl,λb o nb e=>xA _ _ (λz=>nb (.inr z)) (g9 _ _ (x8 _ _ (λz=>nb (.inl z)) (g7 _ _ (s6 b o nb e)))),xA _ _ nlt (g9 _ _ ele8),Ab,?_,?_,by rw[CA,lts];rfl,λt ht=>?_,λj t e'=>?_⟩;. rw[C9];exact Dk (ND ev6 t7) (.cons ⟨p,rfl,tpA _ _ (g9 _ _ ee8)⟩ .nil)
      .exact Dk (Nc tr6 t7) (.cons ⟨pt,p,rfl,tpA _ _ ept,tpA _ _ (g9 _ _ ee8)⟩ .nil)
      . rcases DA.mp ht with ht|ht;.exact ok6 t ht
        . rw[By.mp ht];exact⟨⟨tme,ae2⟩,ae1,by show e.1<=e.1+nn%(c%20*sc+1);(first|lia|omega),by show e.1+nn%(c%20*sc+1)<=e.1+c%20*sc;(first|lia|omega)⟩
      . rcases NZ e' with h|⟨h,rfl⟩;.exact kt6 j t h
        .rw[h,lts]
    . intro σ H6 m;refine AB λF=>?_;obtain⟨o6,R,xt,N,rfl,s6,X,elt6,ev6,tr6,lts,ok6,kt6⟩:=m;refine F ?_;try clear F
      have lss8:=lss;have n1:∀{b:AD}{o:Bh},H b=AA o->b≠M/\b≠lt:=λ{b o}e=>⟨BS ((g1.aa (g2.aa g3)) _ _ e) hle,BS ((g1.aa (g2.aa (g3.aa g4))) _ _ e) hlt⟩;have n2:lp≠M/\lp≠lt:=⟨BS (g3 _ _ elp) hle,BS (g4 _ _ (g3 _ _ elp)) hlt⟩;have elp6:H6 lp=AA (.lst ps):=s6 _ _ (λz=>z.elim n2.1 n2.2) ((g3.aa (g4.aa g5)) _ _ elp);have pr6:EL H6 ps ss:=pr.ab λb xs e=>s6 _ _ (λz=>by
        rcases z with z|z;.exact BS (g3 _ _ e) hle z
        .exact BS (g4 _ _ (g3 _ _ e)) hlt z) ((g3.aa (g4.aa g5)) _ _ e);have lts':N.length<=d:=by(first|lia|omega)
      have Y:∀e∈N.map (·.2.2),HN (Gh e):=λe he=>by obtain⟨t,ht,rfl⟩:=BO.mp he;exact(ok6 t ht).1
      refine⟨M,R,(N.map (·.2.2)).map NC,rfl,Ai X,.cT [AH,AQ,AQ,AH] (by decide) ?_,λl1 qq hl1 pq sq=>?_⟩;.exact Pm (GY (λx e⟨q,S,g⟩=>⟨⟨q,S,As g⟩,rfl⟩) ev6)
      refine AB λF=>?_;obtain⟨ev1,pe1,pp1,ek1⟩:=Ve (key:=NC) ev6 pq;refine F ?_;try clear F
      refine B0 hl1 λH7 g7 el1=>?_;have ri:=UO (key:=NC) (f:=(·.1)) (λa=>⟨_,rfl⟩) (l:=ev1) (by rw[ek1];exact sq);refine⟨lp,l1,ps,_,ss,z,d,_,ev1,rfl,g7 _ _ elp6,pr6.ab g7.tp,O,lss,siz,hsl.1,by(first|lia|omega),el1,ND pp1 g7.tp,by rw[pe1.length_eq,A0];exact lts',λe he=>Y e (pe1.mem_iff.mp he),Oy (λi j e f hij ei ej=>by have:=ri i j e f hij ei ej;(first|lia|omega)) (λe he=>(Y e (pe1.mem_iff.mp he)).1.1),λH8 r1 x1 q1 g8 hr1 er1 rw1 nd1 sd1 mm1 lq1=>?_⟩;have g68:=g7.aa g8;refine AB λF=>?_;obtain⟨ds,ed,sn⟩:=cR (K:=K) (key:=λt:Int×Int×B7=>[.inl t.1,.inl t.2.1]) (sh:=[AH,AH]) (by decide) (λx t hh=>by obtain⟨p,q,e,S,_⟩:=hh;exact⟨⟨p,q,e,S⟩,rfl⟩) (Nc tr6 g68.tp) (KL.mpr (E3.mpr λi j hi hj hij e=>by have h1:=kt6 i _ (Cm hi);have h2:=kt6 j _ (Cm hj);have:N[i].2.1=N[j].2.1:=FI (Dx (Dx e).2).1;(first|lia|omega)));refine F ?_;try clear F
      refine⟨lt,xt,ds,_,rfl,Ai (g68 _ _ elt6),sn,λl2 qq2 hl2 pq2 sq2=>?_⟩;rw[ed]at pq2;refine AB λF=>?_;obtain⟨ts2,pt2,pp2,tk2⟩:=Ve (key:=λt:Int×Int×B7=>([.inl t.1,.inl t.2.1]:List AL)) (Nc tr6 g68.tp) pq2;refine F ?_;try clear F
      have ri2:=UO (key:=λt:Int×Int×B7=>([.inl t.1,.inl t.2.1]:List AL)) (f:=(·.1)) (λa=>⟨_,rfl⟩) (l:=ts2) (by rw[tk2];exact sq2);refine B0 hl2 λH9 g9 el2=>?_;have pp9:=Nc pp2 g9.tp;have l29:=(CZ pp9).1;have lt2:=pt2.length_eq;refine⟨l2,rfl,⟨_,Ai el2⟩,G5 (K:=K) (xs:=qq2.map (·.1)) (λn τ W I=>(∃o,τ=[o])/\I=H9/\LY H9 W ((ts2.take n).map (·.2.2))) (by(first|lia|omega)) ⟨⟨AF,rfl⟩,rfl,.nil⟩ (λn τ W I⟨_,e,_⟩=>by rw[e];exact Ai el2) ?_ ?_⟩
      . intro n y τ W I R1 hy _ m k1;refine AB λF=>?_;obtain⟨⟨o,rfl⟩,rfl,ha⟩:=m;have et:=Cm (show n<ts2.length by rw[<-l29];exact(BN.mp hy).1);obtain⟨p,q,rfl,S,g⟩:=(CZ pp9).2 n _ _ hy et;refine F ?_;try clear F
        refine⟨_,_,As S,Aq (j:=2) rfl,k1 _ _ _ ⟨⟨_,rfl⟩,rfl,?_⟩⟩;rw[Ds,et,C9];exact Dk ha (.cons ⟨q,rfl,g⟩ .nil)
      intro τ W I _ m l3 hl3;refine AB λF=>?_;obtain⟨_,rfl,ha⟩:=m;refine F ?_;try clear F
      rw[Df (by(first|lia|omega))]at ha;refine B0 hl3 λHA gA el3=>?_;have g6A:=g68.aa (g9.aa gA);have pe2:(ts2.map (·.2.2)).Perm (N.map (·.2.2)):=pt2.map _;have ok2:∀t∈ts2,HN (Gh t.2.2)/\DI t.2.2.2.1/\t.2.2.1<=t.1/\t.1<=t.2.2.1+c%20*sc:=λt ht=>ok6 t (pt2.mem_iff.mp ht);refine⟨lp,l3,ps,_,ss,z,d,_,ts2.map (·.2.2),rfl,g6A _ _ elp6,pr6.ab g6A.tp,O,lss,siz,hsl.1,by(first|lia|omega),el3,ND ha gA.tp,by rw[A0];(first|lia|omega),λe he=>Y e (pe2.mem_iff.mp he),Oy (λi j e f hij ei ej=>?_) (λe he=>(Y e (pe2.mem_iff.mp he)).1.1),λHB r2 x2 q2 gB hr2 er2 rw2 nd2 sd2 mm2 lq2=>?_⟩
      . rw[Bx]at ei ej;refine AB λF=>?_;obtain⟨t,et,rfl⟩:=D2.mp ei;obtain⟨u,eu,rfl⟩:=D2.mp ej;refine F ?_;try clear F
        have h1:=ri2 i j t u hij et eu;have h2:=(ok2 t (DW et)).2.2;have h3:=(ok2 u (DW eu)).2.2;have h1:t.1<=u.1:=h1;(first|lia|omega)
      have g6B:=g6A.aa gB;refine⟨lp,M,ps,R,ss,z,d,_,N.map (·.2.2),rfl,g6B _ _ elp6,pr6.ab g6B.tp,O,lss,siz,by decide,by decide,g6B _ _ X,ND ev6 g6B.tp,by rw[A0];exact lts',Y,Oy (λi j e f hij ei ej=>?_) (λe he=>(Y e he).1.1),λHC r3 x3 q3 gC hr3 er3 rw3 nd3 sd3 mm3 lq3=>?_⟩
      . have h1:=(Y e (DW ei)).1;have h2:=(Y f (DW ej)).1;have h1:0<=e.1/\e.1<=1000000000:=h1;have h2:0<=f.1/\f.1<=1000000000:=h2;(first|lia|omega)
      have e12:q2=q1:=US O (pe2.trans pe1.symm) nd2 nd1 sd2 sd1 mm2 mm1;have e13:q3=q1:=US O pe1.symm nd3 nd1 sd3 sd1 mm3 mm1;subst e12 e13;have g8C:Ap H8 HC:=g9.aa (gA.aa (gB.aa gC));have kok:∀ks∈NQ ss q3,Kx ks=AH:=λks hk=>by
        obtain⟨q,hq,rfl⟩:=BO.mp hk;obtain⟨s,es,ht,h⟩:=(mm1 q).mp hq;have tok:=O.fw es ht;obtain⟨i',s',l,e',en,t'⟩:=O.va q.1 s s.fd es (by rw[tok.2.2];exact .head _);have az:DI q.2.1:=by refine AB λna=>?_;have:Dh q.2.1 (EB ss ev1 s.fd)=[]:=UL λhm=>na (by obtain⟨x,hx,e⟩:=BO.mp hm;rw[<-e];rw[<-en]at hx;exact(M7 O (λe he=>Y e (pe1.mem_iff.mp he)) (i'+1) i' s' (Hu _) e' x hx).2);rw[this]at h;cases h
        have an:DI s.nm:=txt s (DW es) _ (by cases s<;>exact .head _);rw[es];simp[Kx,I0,RF,an.ok,az.ok]
      have rk1:=Pu (IJ rw1 g8C.tp);have rk2:=Pu (IJ rw2 gC.tp);have rk3:=Pu rw3;have er1C:=g8C _ _ er1;refine⟨rfl,_,rfl,WT (by intro z;cases z) ?_⟩;have eqs:SJ (.list ((NQ ss q3).map IZ)) (.list ((NQ ss q3).map IZ))=AH:=yS _ (SeqAt.canLay_of_shaped (MP kok));refine⟨_,_,rk2.dv (gC _ _ er2),rk1.dv er1C,MP kok,MP kok,_,rfl,?_⟩;rw[eqs];refine Hj ⟨_,_,rk3.dv er3,rk1.dv er1C,MP kok,MP kok,_,rfl,?_⟩;rw[eqs];refine Hj ?_;have gHC:=g6B.aa gC;have elpC:=gHC _ _ elp6;have prC:=pr6.ab gHC.tp;have rwC:=IJ rw1 g8C.tp;obtain⟨lx1,fx1⟩:=CZ rwC;refine⟨r1,rfl,⟨_,Ai er1C⟩,G5 (K:=K) (xs:=x1) (λn τ W I=>(∃o,τ=[o,AA (.ref lp)])/\Ap HC I/\CH I W ((q3.take n).map CS)) (by(first|lia|omega)) ⟨⟨AF,rfl⟩,Cu _,Gq _⟩ (λn τ W I⟨_,s',_⟩=>Ai (s' _ _ er1C)) ?_ ?_⟩
      . intro n y τ W I R1 hy _ m k1;refine AB λF=>?_;obtain⟨⟨o,rfl⟩,s',ha⟩:=m;have eq:=Cm (show n<q3.length by rw[<-lx1];exact(BN.mp hy).1);obtain⟨b,s,es,rfl,eb⟩:=fx1 n _ _ hy eq;refine F ?_;try clear F
        refine⟨lp,b,ps,ss,_,s,rfl,s' _ _ elpC,prC.ab s'.tp,O,lss,es,s' _ _ eb,λr H'' s'' hr er=>k1 _ _ _ ⟨⟨_,rfl⟩,s'.aa s'',?_⟩⟩;rw[Ds,eq,C9];exact(ha.ab s''.tp).adm er
      intro τ W HD _ m D hD;refine AB λF=>?_;obtain⟨_,sD,ha⟩:=m;refine F ?_;try clear F
      rw[Df (by(first|lia|omega))]at ha;refine B0 hD λHE gE eD=>?_;have haE:=ha.ab gE.tp;have la:=haE.dh;rw[A0]at la;have cf:Ee W (AA 1) AF=W.drop 1:=by cases W with |nil=>rfl|cons x r=>exact La _ 1 (by simp)
      refine⟨_,rfl,D,W,rfl,Ai eD,λl4 hl4=>?_⟩;rw[cf];refine B0 hl4 λHF gF el4=>?_;have haF:=haE.ab gF.tp;refine⟨D,l4,rfl,⟨_,Ai (gF _ _ eD)⟩,⟨_,Ai el4⟩,Zj (K:=K) (xs:=W) (ys:=W.drop 1) (λn σ I=>∃o11 o12:Option AE,σ=[AA (.ref a),AA (.int (d:Int)),AA (.ref lp),AA (.int (c%20*sc)),AA (.ref M),AA (.ref lt),o6,AA (.ref r1),AA (.ref r2),AA (.ref r3),AA (.ref D),o11,o12]/\Ap HF I) (by rw[Ig];(first|lia|omega)) ⟨AF,AF,rfl,Cu _⟩ (λn σ I _ hh=>by obtain⟨_,_,_,s'⟩:=hh;exact⟨Ai (s' _ _ (gF _ _ eD)),Ai (s' _ _ el4)⟩) ?_ ?_⟩
      . intro n x y σ I p hx hy m hp;refine AB λF=>?_;obtain⟨o11,o12,rfl,s'⟩:=m;rw[sI,tE]at hy;obtain⟨ax,kx,rfl,ekx,eax⟩:=haF.at hx;obtain⟨ay,ky,rfl,eky,eay⟩:=haF.at hy;refine F ?_;try clear F
        have s2:=Be (o:=.tup [.ref ax,.ref ay]) hp;have lt1:BB kx ky=AH:=by obtain⟨hi,S⟩:=BN.mp ekx;obtain⟨hj,g⟩:=BN.mp eky;have q1:=E3.mp sd1 n (n+1) hi hj (Hu _);have q2:=E3.mp nd1 n (n+1) hi hj (Hu _);rw[S,g]at q1 q2;cases q:BB kx ky with|true=>rfl|false=>exact absurd (MA q q1) q2
        refine⟨p,_,rfl,As Ab,rfl,_,_,rfl,_,_,rfl,rfl,?_⟩;generalize AN I p (.tup [.ref ax,.ref ay])=H'' at s2⊢;have s02:=s'.aa s2;refine⟨ax,ay,kx,[],ky,rfl,rfl,As (by rw[FG];exact s02 _ _ eax),As (s02 _ _ eay),.inl rfl,λj kk mm S g=>?_,_,rfl,?_⟩
        . rw[Bx]at ekx eky;refine AB λF=>?_;obtain⟨u,_,rfl⟩:=D2.mp ekx;obtain⟨v,_,rfl⟩:=D2.mp eky;refine F ?_;try clear F
          match j,S,g with|0,S,g=>cases S;cases g;rfl|1,S,g=>cases S;cases g;rfl|2,S,g=>cases S;cases g;rfl|3,S,g=>cases S;cases g;rfl
        . rw[lt1];exact Hj ⟨_,_,rfl,s02⟩
      . intro σ I m;refine AB λF=>?_;obtain⟨o11,o12,rfl,s'⟩:=m;refine F ?_;try clear F
        exact k I
theorem ZU{l:Og}{K:Ar}(F:D "law"=AA (.ref U))(T:Ba K D J):∃V:Ag,(∀(s:AY)(v:AK),OZ s V ⟨[v],[]⟩ [("_law_script",v)])/\∀base:BG,K.In base->base.Ns BD D->A8 l.prog w K D base BM PX U V ["_law_script"] (Na K):=by
 have e:=F.symm.trans T.akl;refine AB λW=>?_;cases e;obtain⟨_,_,_,_,_,_,_,_,_,e,_,_⟩:=T.ain.ex;refine W ?_;try clear W
 exact⟨J.aes,λs v=>by rw[e];exact .of_eq rfl,λbase _ _=>aY T⟩
end
noncomputable def PySem.W.Fast.tw10023909429754886752:Unit:=()
noncomputable def PySem.W.Fast.tw10065641102162990391:Unit:=()
noncomputable def PySem.W.Fast.tw10102096301253896111:Unit:=()
noncomputable def PySem.W.Fast.tw10227993866040134330:Unit:=()
noncomputable def PySem.W.Fast.tw10268417787431523036:Unit:=()
noncomputable def PySem.W.Fast.tw10294834357418291629:Unit:=()
noncomputable def PySem.W.Fast.tw10317373016698695434:Unit:=()
noncomputable def PySem.W.Fast.tw10322490178317135793:Unit:=()
noncomputable def PySem.W.Fast.tw10333322797858573366:Unit:=()
noncomputable def PySem.W.Fast.tw10426474727920708180:Unit:=()
noncomputable def PySem.W.Fast.tw10568846173183581311:Unit:=()
noncomputable def PySem.W.Fast.tw10586612240660900165:Unit:=()
noncomputable def PySem.W.Fast.tw10656537233293814701:Unit:=()
noncomputable def PySem.W.Fast.tw10669280222054949370:Unit:=()
noncomputable def PySem.W.Fast.tw10723512585612025570:Unit:=()
noncomputable def PySem.W.Fast.tw10736494517119063555:Unit:=()
noncomputable def PySem.W.Fast.tw10744151400904404529:Unit:=()
noncomputable def PySem.W.Fast.tw10752138874337505663:Unit:=()
noncomputable def PySem.W.Fast.tw1080999830136642086:Unit:=()
noncomputable def PySem.W.Fast.tw10859063236704027026:Unit:=()
noncomputable def PySem.W.Fast.tw10931432990724208685:Unit:=()
noncomputable def PySem.W.Fast.tw11045539717717986452:Unit:=()
noncomputable def PySem.W.Fast.tw1106591109454614720:Unit:=()
noncomputable def PySem.W.Fast.tw11130234129002292185:Unit:=()
noncomputable def PySem.W.Fast.tw11167143713904092029:Unit:=()
noncomputable def PySem.W.Fast.tw1117855895804238901:Unit:=()
noncomputable def PySem.W.Fast.tw11182039070384597024:Unit:=()
noncomputable def PySem.W.Fast.tw11233401512864269742:Unit:=()
noncomputable def PySem.W.Fast.tw11301237399005990870:Unit:=()
noncomputable def PySem.W.Fast.tw11313101704998044568:Unit:=()
noncomputable def PySem.W.Fast.tw11324726055756831938:Unit:=()
noncomputable def PySem.W.Fast.tw11379113534250102925:Unit:=()
noncomputable def PySem.W.Fast.tw1143331418703486303:Unit:=()
noncomputable def PySem.W.Fast.tw11469940996616680950:Unit:=()
noncomputable def PySem.W.Fast.tw11611354185114380405:Unit:=()
noncomputable def PySem.W.Fast.tw11639996705262182219:Unit:=()
noncomputable def PySem.W.Fast.tw11694383277020176116:Unit:=()
noncomputable def PySem.W.Fast.tw11696450888728947465:Unit:=()
noncomputable def PySem.W.Fast.tw1170684682302325460:Unit:=()
noncomputable def PySem.W.Fast.tw11752302837337083414:Unit:=()
noncomputable def PySem.W.Fast.tw1179811897239567730:Unit:=()
noncomputable def PySem.W.Fast.tw11822519626381469728:Unit:=()
noncomputable def PySem.W.Fast.tw11871927995250075588:Unit:=()
noncomputable def PySem.W.Fast.tw11886372653204394048:Unit:=()
noncomputable def PySem.W.Fast.tw11936677913190598143:Unit:=()
noncomputable def PySem.W.Fast.tw11981160546346404149:Unit:=()
noncomputable def PySem.W.Fast.tw12065624081363605282:Unit:=()
noncomputable def PySem.W.Fast.tw1212074815907009991:Unit:=()
noncomputable def PySem.W.Fast.tw12139220625568917975:Unit:=()
noncomputable def PySem.W.Fast.tw12218207849337066434:Unit:=()
noncomputable def PySem.W.Fast.tw12292878734890807986:Unit:=()
noncomputable def PySem.W.Fast.tw12386741510442579487:Unit:=()
noncomputable def PySem.W.Fast.tw1245283511867189844:Unit:=()
noncomputable def PySem.W.Fast.tw12462771910927182686:Unit:=()
noncomputable def PySem.W.Fast.tw12482523784485028393:Unit:=()
noncomputable def PySem.W.Fast.tw1256045843337657040:Unit:=()
noncomputable def PySem.W.Fast.tw12575815940723798580:Unit:=()
noncomputable def PySem.W.Fast.tw12629953616113467059:Unit:=()
noncomputable def PySem.W.Fast.tw12636827398870323173:Unit:=()
noncomputable def PySem.W.Fast.tw12680081711689572963:Unit:=()
noncomputable def PySem.W.Fast.tw12776847083137427965:Unit:=()
noncomputable def PySem.W.Fast.tw12938055156294009376:Unit:=()
noncomputable def PySem.W.Fast.tw13006845264638813269:Unit:=()
noncomputable def PySem.W.Fast.tw13008965234049837809:Unit:=()
noncomputable def PySem.W.Fast.tw13038898009489942743:Unit:=()
noncomputable def PySem.W.Fast.tw13052543562313943623:Unit:=()
noncomputable def PySem.W.Fast.tw13053220338411878476:Unit:=()
noncomputable def PySem.W.Fast.tw1309589642987737898:Unit:=()
noncomputable def PySem.W.Fast.tw1312353487080927500:Unit:=()
noncomputable def PySem.W.Fast.tw13278028840899701144:Unit:=()
noncomputable def PySem.W.Fast.tw13298717549016098171:Unit:=()
noncomputable def PySem.W.Fast.tw13328958318902854501:Unit:=()
noncomputable def PySem.W.Fast.tw13367841273662123803:Unit:=()
noncomputable def PySem.W.Fast.tw1343407318545218053:Unit:=()
noncomputable def PySem.W.Fast.tw13547149266226402162:Unit:=()
noncomputable def PySem.W.Fast.tw13589936807768320979:Unit:=()
noncomputable def PySem.W.Fast.tw1362631964297280694:Unit:=()
noncomputable def PySem.W.Fast.tw13642798933174342734:Unit:=()
noncomputable def PySem.W.Fast.tw13743416359543311899:Unit:=()
noncomputable def PySem.W.Fast.tw14043610185474943597:Unit:=()
noncomputable def PySem.W.Fast.tw14162653698584393353:Unit:=()
noncomputable def PySem.W.Fast.tw14194871580826084636:Unit:=()
noncomputable def PySem.W.Fast.tw14241195211501864407:Unit:=()
noncomputable def PySem.W.Fast.tw14322110415234856404:Unit:=()
noncomputable def PySem.W.Fast.tw14323041311485194791:Unit:=()
noncomputable def PySem.W.Fast.tw14409922268015649220:Unit:=()
noncomputable def PySem.W.Fast.tw14410878435575654890:Unit:=()
noncomputable def PySem.W.Fast.tw14444787840468117803:Unit:=()
noncomputable def PySem.W.Fast.tw14473687818487909526:Unit:=()
noncomputable def PySem.W.Fast.tw14474704765944177755:Unit:=()
noncomputable def PySem.W.Fast.tw14476653414879356408:Unit:=()
noncomputable def PySem.W.Fast.tw14518467455903250401:Unit:=()
noncomputable def PySem.W.Fast.tw14523439963691044245:Unit:=()
noncomputable def PySem.W.Fast.tw14534852867329140540:Unit:=()
noncomputable def PySem.W.Fast.tw14578299985646784811:Unit:=()
noncomputable def PySem.W.Fast.tw14697675240732218099:Unit:=()
noncomputable def PySem.W.Fast.tw14718074460207041170:Unit:=()
noncomputable def PySem.W.Fast.tw14764250779338097494:Unit:=()
noncomputable def PySem.W.Fast.tw14833938256093550164:Unit:=()
noncomputable def PySem.W.Fast.tw14863153610228301562:Unit:=()
noncomputable def PySem.W.Fast.tw14889340954797641589:Unit:=()
noncomputable def PySem.W.Fast.tw1495718434346706636:Unit:=()
noncomputable def PySem.W.Fast.tw14959758310402790396:Unit:=()
noncomputable def PySem.W.Fast.tw15003275857305772423:Unit:=()
noncomputable def PySem.W.Fast.tw15039239353196897694:Unit:=()
noncomputable def PySem.W.Fast.tw1508223344058087228:Unit:=()
noncomputable def PySem.W.Fast.tw15162491523547787084:Unit:=()
noncomputable def PySem.W.Fast.tw15222680191524825690:Unit:=()
noncomputable def PySem.W.Fast.tw15255541599309247557:Unit:=()
noncomputable def PySem.W.Fast.tw15258772589489715348:Unit:=()
noncomputable def PySem.W.Fast.tw15357160661270388730:Unit:=()
noncomputable def PySem.W.Fast.tw15363318144654929751:Unit:=()
noncomputable def PySem.W.Fast.tw1537718735375721424:Unit:=()
noncomputable def PySem.W.Fast.tw15409896196409532483:Unit:=()
noncomputable def PySem.W.Fast.tw15524659520699330139:Unit:=()
noncomputable def PySem.W.Fast.tw15553472513522430249:Unit:=()
noncomputable def PySem.W.Fast.tw15577647419765989248:Unit:=()
noncomputable def PySem.W.Fast.tw1562122628009460642:Unit:=()
noncomputable def PySem.W.Fast.tw15698123261775191310:Unit:=()
noncomputable def PySem.W.Fast.tw15728539835938761732:Unit:=()
noncomputable def PySem.W.Fast.tw15731216806729742565:Unit:=()
noncomputable def PySem.W.Fast.tw15775105560404348522:Unit:=()
noncomputable def PySem.W.Fast.tw15862337312708833875:Unit:=()
noncomputable def PySem.W.Fast.tw15900880446531304540:Unit:=()
noncomputable def PySem.W.Fast.tw16035976649635694599:Unit:=()
noncomputable def PySem.W.Fast.tw16080613063707965441:Unit:=()
noncomputable def PySem.W.Fast.tw16091027800489344228:Unit:=()
noncomputable def PySem.W.Fast.tw16099964086993272086:Unit:=()
noncomputable def PySem.W.Fast.tw16162101587704007323:Unit:=()
noncomputable def PySem.W.Fast.tw16181218306443624803:Unit:=()
noncomputable def PySem.W.Fast.tw16327045297768386591:Unit:=()
noncomputable def PySem.W.Fast.tw16363869614750415087:Unit:=()
noncomputable def PySem.W.Fast.tw16464638154803871531:Unit:=()
noncomputable def PySem.W.Fast.tw16520858702293034633:Unit:=()
noncomputable def PySem.W.Fast.tw1658576100981678356:Unit:=()
noncomputable def PySem.W.Fast.tw16597104628178462781:Unit:=()
noncomputable def PySem.W.Fast.tw1664884327065200954:Unit:=()
noncomputable def PySem.W.Fast.tw16686492298304398626:Unit:=()
noncomputable def PySem.W.Fast.tw16708890548044088393:Unit:=()
noncomputable def PySem.W.Fast.tw16761820680169004401:Unit:=()
noncomputable def PySem.W.Fast.tw16794865892985310944:Unit:=()
noncomputable def PySem.W.Fast.tw16919607811999368761:Unit:=()
noncomputable def PySem.W.Fast.tw16986922576474593771:Unit:=()
noncomputable def PySem.W.Fast.tw16987690896886270391:Unit:=()
noncomputable def PySem.W.Fast.tw16992653619917193508:Unit:=()
noncomputable def PySem.W.Fast.tw17074428989251230077:Unit:=()
noncomputable def PySem.W.Fast.tw17075375230093354048:Unit:=()
noncomputable def PySem.W.Fast.tw17121927914870298204:Unit:=()
noncomputable def PySem.W.Fast.tw17184323444173797116:Unit:=()
noncomputable def PySem.W.Fast.tw17206229505895356298:Unit:=()
noncomputable def PySem.W.Fast.tw17287964647365020862:Unit:=()
noncomputable def PySem.W.Fast.tw17314214470727692151:Unit:=()
noncomputable def PySem.W.Fast.tw17441234088060825485:Unit:=()
noncomputable def PySem.W.Fast.tw17467556183735290557:Unit:=()
noncomputable def PySem.W.Fast.tw17519405905964315852:Unit:=()
noncomputable def PySem.W.Fast.tw17534913207285823873:Unit:=()
noncomputable def PySem.W.Fast.tw17544200190171761150:Unit:=()
noncomputable def PySem.W.Fast.tw17597993803413339013:Unit:=()
noncomputable def PySem.W.Fast.tw17637242457650647574:Unit:=()
noncomputable def PySem.W.Fast.tw17679007698679026784:Unit:=()
noncomputable def PySem.W.Fast.tw17713186136705405794:Unit:=()
noncomputable def PySem.W.Fast.tw17776844717273245260:Unit:=()
noncomputable def PySem.W.Fast.tw1778934763704709344:Unit:=()
noncomputable def PySem.W.Fast.tw17804812444666540931:Unit:=()
noncomputable def PySem.W.Fast.tw17820038320965118107:Unit:=()
noncomputable def PySem.W.Fast.tw17865626471882832437:Unit:=()
noncomputable def PySem.W.Fast.tw1797684902144639330:Unit:=()
noncomputable def PySem.W.Fast.tw18014578455861729783:Unit:=()
noncomputable def PySem.W.Fast.tw18019352049738437352:Unit:=()
noncomputable def PySem.W.Fast.tw18088235540009458699:Unit:=()
noncomputable def PySem.W.Fast.tw18103796579182624117:Unit:=()
noncomputable def PySem.W.Fast.tw18136563375363978777:Unit:=()
noncomputable def PySem.W.Fast.tw18160566060874351416:Unit:=()
noncomputable def PySem.W.Fast.tw18261844069894088565:Unit:=()
noncomputable def PySem.W.Fast.tw183647302565431262:Unit:=()
noncomputable def PySem.W.Fast.tw18401732981412346802:Unit:=()
noncomputable def PySem.W.Fast.tw18440394280843942788:Unit:=()
noncomputable def PySem.W.Fast.tw1856463944723681346:Unit:=()
noncomputable def PySem.W.Fast.tw2042628938432838402:Unit:=()
noncomputable def PySem.W.Fast.tw2137112617242467006:Unit:=()
noncomputable def PySem.W.Fast.tw2203297849820876240:Unit:=()
noncomputable def PySem.W.Fast.tw2205736303290824809:Unit:=()
noncomputable def PySem.W.Fast.tw2249671260363159497:Unit:=()
noncomputable def PySem.W.Fast.tw225863799925453799:Unit:=()
noncomputable def PySem.W.Fast.tw2326697614244227822:Unit:=()
noncomputable def PySem.W.Fast.tw2445059674743302084:Unit:=()
noncomputable def PySem.W.Fast.tw2526760769496059150:Unit:=()
noncomputable def PySem.W.Fast.tw2562509608377327625:Unit:=()
noncomputable def PySem.W.Fast.tw2601880480492689605:Unit:=()
noncomputable def PySem.W.Fast.tw2718198387253642957:Unit:=()
noncomputable def PySem.W.Fast.tw2764659969070209981:Unit:=()
noncomputable def PySem.W.Fast.tw2765076403811316822:Unit:=()
noncomputable def PySem.W.Fast.tw2812787040873509805:Unit:=()
noncomputable def PySem.W.Fast.tw2876863993943888510:Unit:=()
noncomputable def PySem.W.Fast.tw2898459796949275301:Unit:=()
noncomputable def PySem.W.Fast.tw2910012143881450164:Unit:=()
noncomputable def PySem.W.Fast.tw2951756031615226122:Unit:=()
noncomputable def PySem.W.Fast.tw296690958876584143:Unit:=()
noncomputable def PySem.W.Fast.tw3044503890657353741:Unit:=()
noncomputable def PySem.W.Fast.tw3054387155209652725:Unit:=()
noncomputable def PySem.W.Fast.tw3054769408617037919:Unit:=()
noncomputable def PySem.W.Fast.tw306735593008534122:Unit:=()
noncomputable def PySem.W.Fast.tw3103483997893139829:Unit:=()
noncomputable def PySem.W.Fast.tw3113391823304275572:Unit:=()
noncomputable def PySem.W.Fast.tw3117429930714331475:Unit:=()
noncomputable def PySem.W.Fast.tw3298352015722043872:Unit:=()
noncomputable def PySem.W.Fast.tw349166458416067673:Unit:=()
noncomputable def PySem.W.Fast.tw3496793800555587264:Unit:=()
noncomputable def PySem.W.Fast.tw35041381322481361:Unit:=()
noncomputable def PySem.W.Fast.tw3621880458347622328:Unit:=()
noncomputable def PySem.W.Fast.tw3724871169130851180:Unit:=()
noncomputable def PySem.W.Fast.tw374924438250352832:Unit:=()
noncomputable def PySem.W.Fast.tw3756646650618278522:Unit:=()
noncomputable def PySem.W.Fast.tw3787827086660047074:Unit:=()
noncomputable def PySem.W.Fast.tw3840644860110574092:Unit:=()
noncomputable def PySem.W.Fast.tw3847584755418742019:Unit:=()
noncomputable def PySem.W.Fast.tw3937146191120074150:Unit:=()
noncomputable def PySem.W.Fast.tw4029208946053601569:Unit:=()
noncomputable def PySem.W.Fast.tw4045388589670268900:Unit:=()
noncomputable def PySem.W.Fast.tw4056810789599689955:Unit:=()
noncomputable def PySem.W.Fast.tw4099805553265542621:Unit:=()
noncomputable def PySem.W.Fast.tw4169261928358742576:Unit:=()
noncomputable def PySem.W.Fast.tw4202902040858538431:Unit:=()
noncomputable def PySem.W.Fast.tw4408986896564639417:Unit:=()
noncomputable def PySem.W.Fast.tw4414153639089609636:Unit:=()
noncomputable def PySem.W.Fast.tw4471569289286679585:Unit:=()
noncomputable def PySem.W.Fast.tw4554429799675123079:Unit:=()
noncomputable def PySem.W.Fast.tw4590321593117535380:Unit:=()
noncomputable def PySem.W.Fast.tw4795557524859995173:Unit:=()
noncomputable def PySem.W.Fast.tw4967192247175058406:Unit:=()
noncomputable def PySem.W.Fast.tw49833317889624017:Unit:=()
noncomputable def PySem.W.Fast.tw5069082839363081924:Unit:=()
noncomputable def PySem.W.Fast.tw5080865716690977313:Unit:=()
noncomputable def PySem.W.Fast.tw5107319238278375142:Unit:=()
noncomputable def PySem.W.Fast.tw5133408876465452649:Unit:=()
noncomputable def PySem.W.Fast.tw5194167488930882454:Unit:=()
noncomputable def PySem.W.Fast.tw5198628578582878357:Unit:=()
noncomputable def PySem.W.Fast.tw5310351745356935282:Unit:=()
noncomputable def PySem.W.Fast.tw5378738066504382464:Unit:=()
noncomputable def PySem.W.Fast.tw5443063808638914465:Unit:=()
noncomputable def PySem.W.Fast.tw5449668531986790442:Unit:=()
noncomputable def PySem.W.Fast.tw5593866326587695301:Unit:=()
noncomputable def PySem.W.Fast.tw570243020357668544:Unit:=()
noncomputable def PySem.W.Fast.tw5758575033068480816:Unit:=()
noncomputable def PySem.W.Fast.tw575898117161580142:Unit:=()
noncomputable def PySem.W.Fast.tw5852654634956917457:Unit:=()
noncomputable def PySem.W.Fast.tw5854261243334879756:Unit:=()
noncomputable def PySem.W.Fast.tw5879546935534126716:Unit:=()
noncomputable def PySem.W.Fast.tw5932988046498232283:Unit:=()
noncomputable def PySem.W.Fast.tw593509002845139030:Unit:=()
noncomputable def PySem.W.Fast.tw5936205202211545569:Unit:=()
noncomputable def PySem.W.Fast.tw5978372670486858688:Unit:=()
noncomputable def PySem.W.Fast.tw5986315291789557149:Unit:=()
noncomputable def PySem.W.Fast.tw6001630777143359921:Unit:=()
noncomputable def PySem.W.Fast.tw6048674149731670401:Unit:=()
noncomputable def PySem.W.Fast.tw6179787513412744749:Unit:=()
noncomputable def PySem.W.Fast.tw6180031327345299757:Unit:=()
noncomputable def PySem.W.Fast.tw6229653819731958194:Unit:=()
noncomputable def PySem.W.Fast.tw6325313893435835072:Unit:=()
noncomputable def PySem.W.Fast.tw63561111091631786:Unit:=()
noncomputable def PySem.W.Fast.tw6365150405721216617:Unit:=()
noncomputable def PySem.W.Fast.tw6460071619529272619:Unit:=()
noncomputable def PySem.W.Fast.tw6611507126728182096:Unit:=()
noncomputable def PySem.W.Fast.tw672050353758197669:Unit:=()
noncomputable def PySem.W.Fast.tw6732655249866631087:Unit:=()
noncomputable def PySem.W.Fast.tw6906599806653995755:Unit:=()
noncomputable def PySem.W.Fast.tw7160928375294481179:Unit:=()
noncomputable def PySem.W.Fast.tw7167841483911200385:Unit:=()
noncomputable def PySem.W.Fast.tw7168919514103298830:Unit:=()
noncomputable def PySem.W.Fast.tw7189939934689301890:Unit:=()
noncomputable def PySem.W.Fast.tw7235056089368523463:Unit:=()
noncomputable def PySem.W.Fast.tw7258759223545391404:Unit:=()
noncomputable def PySem.W.Fast.tw7310635604349284255:Unit:=()
noncomputable def PySem.W.Fast.tw7322261763310525795:Unit:=()
noncomputable def PySem.W.Fast.tw7325368645256873243:Unit:=()
noncomputable def PySem.W.Fast.tw7328714595706138929:Unit:=()
noncomputable def PySem.W.Fast.tw745068833700236845:Unit:=()
noncomputable def PySem.W.Fast.tw7453794793516868405:Unit:=()
noncomputable def PySem.W.Fast.tw7540868200843690538:Unit:=()
noncomputable def PySem.W.Fast.tw7544239139121160256:Unit:=()
noncomputable def PySem.W.Fast.tw7643893754712808981:Unit:=()
noncomputable def PySem.W.Fast.tw765537776251064591:Unit:=()
noncomputable def PySem.W.Fast.tw7672193262493076694:Unit:=()
noncomputable def PySem.W.Fast.tw7759588286474450859:Unit:=()
noncomputable def PySem.W.Fast.tw7818919999983224043:Unit:=()
noncomputable def PySem.W.Fast.tw7879580686936948061:Unit:=()
noncomputable def PySem.W.Fast.tw7922762006104711911:Unit:=()
noncomputable def PySem.W.Fast.tw7940743362317094702:Unit:=()
noncomputable def PySem.W.Fast.tw7988245587402387263:Unit:=()
noncomputable def PySem.W.Fast.tw7998621095825219590:Unit:=()
noncomputable def PySem.W.Fast.tw8049156621205554730:Unit:=()
noncomputable def PySem.W.Fast.tw8062814177540656676:Unit:=()
noncomputable def PySem.W.Fast.tw8100276718097156936:Unit:=()
noncomputable def PySem.W.Fast.tw815918123160857341:Unit:=()
noncomputable def PySem.W.Fast.tw8342246327929837283:Unit:=()
noncomputable def PySem.W.Fast.tw8417820587161864423:Unit:=()
noncomputable def PySem.W.Fast.tw8424401078301903523:Unit:=()
noncomputable def PySem.W.Fast.tw8598851366895422496:Unit:=()
noncomputable def PySem.W.Fast.tw8706196466852682943:Unit:=()
noncomputable def PySem.W.Fast.tw878967851016111044:Unit:=()
noncomputable def PySem.W.Fast.tw8803729467690939823:Unit:=()
noncomputable def PySem.W.Fast.tw8852508759500950772:Unit:=()
noncomputable def PySem.W.Fast.tw8930318485509756452:Unit:=()
noncomputable def PySem.W.Fast.tw8956856247496705716:Unit:=()
noncomputable def PySem.W.Fast.tw898912488908539779:Unit:=()
noncomputable def PySem.W.Fast.tw9019555748754910921:Unit:=()
noncomputable def PySem.W.Fast.tw9182829391768500049:Unit:=()
noncomputable def PySem.W.Fast.tw9312985491629743651:Unit:=()
noncomputable def PySem.W.Fast.tw9346875087396740413:Unit:=()
noncomputable def PySem.W.Fast.tw9359720190134377887:Unit:=()
noncomputable def PySem.W.Fast.tw9394308215860467123:Unit:=()
noncomputable def PySem.W.Fast.tw9441413617168282530:Unit:=()
noncomputable def PySem.W.Fast.tw949721232830473606:Unit:=()
noncomputable def PySem.W.Fast.tw9547675124641695964:Unit:=()
noncomputable def PySem.W.Fast.tw9566020124525188694:Unit:=()
noncomputable def PySem.W.Fast.tw9691990979596281464:Unit:=()
noncomputable def PySem.W.Fast.tw9733529789404096444:Unit:=()
noncomputable def PySem.W.Fast.tw9824559383216736321:Unit:=()
noncomputable def PySem.W.Fast.tw9871914748820668444:Unit:=()
noncomputable def PySem.W.Fast.tw9896940955094896817:Unit:=()
noncomputable def PySem.W.Fast.tw9897026260274643718:Unit:=()
noncomputable def PySem.W.Fast.tw9955566803384748579:Unit:=()
noncomputable def PySem.W.Fast.tw9991405943571873655:Unit:=()
open PySem PySem.W PyProof.Rows
set_option maxRecDepth 100000 in
set_option maxHeartbeats 0 in
theorem PySem.Challenge.cw_brooktally_k21_whole_any_order_holds : PySem.Challenge.rw_brooktally_k21_whole_any_order.Holds := by
  w_on; o_law; k_head; (case hw => w_witness2)
  k_fill
  refine nO (l := uD) (n := 63) (k := PX) (x := "_law_script") (CX := BM) (sp := Na) rfl (by decide) rfl ⟨rfl, by decide, by decide⟩ (fun w h Y => W.kIn_of Y) ?F Zo (fun _ _ _ _ z => z)
  case F =>
    intro w mg fa h KX G hmg
    refine' ZU hmg (fG KX G ?ti ?xy ?su ?xx ?a_Clock ?cu ?vm ?jl ?zf ?aao ?qv ?wu ?aio ?yk ?aci ?aap ?aeo ?oj ?wm ?vp ?zz ?vo ?zy ?oi ?nq ?ue ?rq ?aan ?aam ?aar ?aeq ?mn ?mj ?ud ?yc ?vq ?aaa ?yf ?acd ?yh ?acf ?yi ?acg ?uc ?adu ?a_Group ?cv ?vn ?ny ?abv ?jn ?zh ?ml ?aal ?nv ?agf ?a_Side ?df ?xn ?si ?adt ?og ?abz ?oe ?aby ?wt ?aim ?tw ?yb ?a_Join ?de ?xk ?nz ?abw ?oa ?abx ?vv ?aac ?aaq ?aep ?yl ?acj ?yg ?ace ?ye ?acb ?yj ?ach ?tj ?ya ?oh ?wk ?om ?wo ?sj ?xw ?yd ?aca ?vt ?aab ?a_Flow ?da ?xj ?nu ?abu ?iq ?xv ?jm ?zg ?gj ?aq ?ir ?cp ?js ?cx ?ju ?fm ?iu ?il ?iw ?ip ?jo ?ji ?mv ?uw ?jq ?qy ?jt ?qz ?oo ?wq ?agg ?ain ?a_FlowError ?aja ?a_BadSlack ?ajp ?pg_Clock ?hd_Clock ?po_Clock ?sa_Clock ?rj ?di ?ma ?fn_Clock___init__ ?fn_Clock_admit ?mks_Clock ?kp_Clock ?pg_Group ?hd_Group ?po_Group ?sa_Group ?nh ?cw ?fn_Group___init__ ?fn_Group_put ?fn_Group_close ?fn_Group_take ?fn_Group_pieces ?mks_Group ?kp_Group ?pg_Side ?hd_Side ?po_Side ?sa_Side ?cg ?fn_Side___init__ ?fn_Side_put ?fn_Side_near ?fn_Side_drop ?fn_Side_kept ?mks_Side ?kp_Side ?pg_Join ?hd_Join ?po_Join ?sa_Join ?cy ?ig ?fn_Join___init__ ?fn_Join_come ?fn_Join_drop ?mks_Join ?kp_Join ?pg_Flow ?hd_Flow ?po_Flow ?sa_Flow ?xh ?ie ?ng ?md ?ft ?fn_Flow___init__ ?fn_Flow_come ?fn_Flow_told_by ?fn_Flow_finish ?mks_Flow ?kp_Flow ?ga_BadSlack ?gt_BadSlack ?ck_BadSlack ?sb_BadSlack ?so_BadSlack ?cl_BadSlack ?abr ?acz ?acx ?adq ?adp ?vc ?agv ?l_PAIRED ?afl ?l_TELLERS ?afk ?l_TALLIES ?ail ?ajq ?gh ?ahq ?vj ?gy ?qr ?afc ?ahr ?vk ?qu ?akw)
    (case ti | su | a_Clock | cu | jl | aao | wu | yk | aap | oj | vp | vo | oi | ue | aan | aar | mn | ud | vq | yf | yh | yi | uc | a_Group | cv | ny | jn | ml | nv | a_Side | df | si | og | oe | wt | tw | a_Join | de | nz | oa | vv | aaq | yl | yg | ye | yj | tj | oh | om | sj | yd | vt | a_Flow | da | nu | iq | jm | gj | ir | js | ju | iu | iw | jo | mv | jq | jt | oo | agg | a_FlowError | a_BadSlack | pg_Clock | hd_Clock | po_Clock | sa_Clock | rj | di | ma | fn_Clock___init__ | fn_Clock_admit | mks_Clock | kp_Clock | pg_Group | hd_Group | po_Group | sa_Group | nh | cw | fn_Group___init__ | fn_Group_put | fn_Group_close | fn_Group_take | fn_Group_pieces | mks_Group | kp_Group | pg_Side | hd_Side | po_Side | sa_Side | cg | fn_Side___init__ | fn_Side_put | fn_Side_near | fn_Side_drop | fn_Side_kept | mks_Side | kp_Side | pg_Join | hd_Join | po_Join | sa_Join | cy | ig | fn_Join___init__ | fn_Join_come | fn_Join_drop | mks_Join | kp_Join | pg_Flow | hd_Flow | po_Flow | sa_Flow | xh | ie | ng | md | ft | fn_Flow___init__ | fn_Flow_come | fn_Flow_told_by | fn_Flow_finish | mks_Flow | kp_Flow | ga_BadSlack | gt_BadSlack | ck_BadSlack | sb_BadSlack | so_BadSlack | cl_BadSlack | vc | agv | l_PAIRED | afl | l_TELLERS | afk | l_TALLIES | ail | ajq | gh | ahq | vj | gy | qr | afc | ahr | vk | qu | akw => k_is)
    (case aja | ajp => k_exc)
    (case abr | acz | adq => kit_is)
    (case acx | adp => kts_exm)
    (case xy | xx | vm | zf | qv | aio | aci | aeo | wm | zz | zy | nq | rq | aam | aeq | mj | yc | aaa | acd | acf | acg | adu | vn | abv | zh | aal | agf | xn | adt | abz | aby | aim | yb | xk | abw | abx | aac | aep | acj | ace | acb | ach | ya | wk | wo | xw | aca | aab | xj | abu | xv | zg | aq | cp | cx | fm | il | ip | ji | uw | qy | qz | wq | ain => refine' iD ?l ?c ?k; (case l => k_is); (case c => k_is); (case k => k_is))
